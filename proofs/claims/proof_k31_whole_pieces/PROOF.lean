import PyProof.Rows.All
import Wide.All
import OpenK.AllK
import Wide.FinOn
import Lean
import PySem.SetOps
import PyProof.SetScanFacts
import PyProof.SetKind
import PyProof.IsRules
import PyProof.EqAt
import PyProof.EqKinds
import PyProof.TupleCall
import PyProof.TupleKey
import PyProof.P3Eq
import Wide.Seal
import PyProof.StrCalls
import PyProof.SeqI3
import PyProof.Draws
import PyProof.EnumMake
import PyProof.DictValues
import PyProof.DictWalks
import PyProof.TupleOfSeq
import PyProof.TupleOfGen
import KE.KDictList
import PyProof.AttrMiss
import PyProof.IsiH_list
import KE.KRevIter
import PyProof.MinMaxWalk
import PyProof.Rows.CallKwBuiltin
import KE.KSortTup
import PyProof.Rows.SortWalk
import PyProof.Rows.SortShell
import PyProof.DictIter
import PyProof.P3In
import PyProof.Rows.SortStr
import PyProof.MeetsStr
import PyProof.FactsAll.str_6
import PyProof.StrCalls2
import PyProof.MeetsStr2
import KE.KIntText
import PyProof.SliceStr2
import PyProof.Rows.Range3
import PyProof.SetRoads
import PyProof.Rows.SetFrom
import PyProof.SetNew
import PyProof.WalksMore
import PySem.Challenge.RW_staymark_k31_whole_pieces
set_option Elab.async false
set_option linter.all false
set_option maxRecDepth 100000
set_option maxHeartbeats 4000000
set_option compiler.extract_closed false
set_option bootstrap.genMatcherCode false
set_option genSizeOf false
local macro_rules | `(⋯) => `(by kernel_rfl)
open PySem renaming PyData→wF,wpAny_bind→wG,wpAny_pure→wH,Value→wI,Shared→wJ,Spec→wP,Addr→wR,starEach→wU,model→xH,Program→xN,World→xT,wpAny_newObj_type→xZ,wpAny_call_entry→yE,wpAny_callSpecial?_slot→yN,Heap→yQ,wpAny_holding→yR,Around→yS,DictEntry→yU,mainGlobals→yV,foldedSetIterable→zA,wpAny_mono→zM,wpAny_dictEpoch→zO,compareOp→zR,wpAny_rule→zW,backTo→zY,wpAny_loadPart'→zZ,Paired→a9,Builtin→f9,wpAny_truthy_bool→i4,wpAny_setState_of→i5,SetTable→i6,cLine→k5,relabel→k8,CmpOp→l0,wpAny_specialOf→l3,codeAny_builtin→l4,wpAny_of_eq→m6,swapsWith→m7,sysModules→m8,builtinLookup_eq_fast→m9,mem_of_lookup→n4,sizeLine_eq→n5,Stmt→n8,wpAny_attempt→o7,attributeBase→o8,wpAny_typeNameOfWhole_keyiter→s0,wpAny_passesOwn→x5,wpAny_ite_split→x6,SetTable→x8,rawInt→y9,wpAny_dictEntries→z5,isSubtype_type→AB,wpAny_isInstance→AE,wpAny_askSetting→AF,codeAny_mono→AG,bootBuiltins→AH,wpAny_setEntries_of→AL,plainId_quiet→AQ,typeLookup_type→AT,Keyword→AX,wpAny_setField_rec→AZ,wpAny_Call_Name_kw→BA,wpAny_field→BE,wpAny_fieldsOf→BL,firstArgMember→BM,FuncData→BO,wpAny_forIn_list→BT,sliceBounds→BW,keywordEach→BX,getItem→CJ,codeAny→CK,scanBound→CN,wpAny_setField→CQ,bindArgs→CS,assignEach→CT,NameKind→CV,wpAny_sequenceKey→DD,wpAny_pyIter_slot→DG,binaryOp→DY,wpAny_typeOf→EE,builtinsNs→EF,Params→EG,IsPart→EH,wpAny_execs_nil→EL,letOwnedTupleGo→EM,wpAny_notOrdered_dict→EU,wpAny_isOneOf_keyiter→EV,backToKw→FJ,assign→FK,call_meets→FW,wpAny_pyIter_list→GF,slot_list_getitem→GG,setField→GH,relayAll→GI,intKind→GJ,callerA→GK,call_meetsIn→GL,pyIter→GX,noFill_tuple_add→GY,beq_builtin_none→GZ,argsOk→HA,subscripted→HG,codeAny_of_tree→HJ,setNext→HP,wpAny_seqItems→HW,wpAny_runValue→HX,wpAny_load→HY,slotArgs→IB,isSubtype_stop→IE,entryFor_alias→IG,entryFor→IH,carriedByValue→II,ReadsAll→IK
open List renaming mem_cons→wK,length_map→wL,map_cons→wQ,length_cons→wT,mem_singleton→wX,mem_append→wY,size_toArray→wZ,mem_map→xF,length_append→xG,replicate→xI,set_cons_zero→xJ,set_cons_succ→xK,getElem?_eq_some_iff→xM,pairwise_cons→xO,getElem?_map→xQ,map_append→xR,filter_cons→xS,find?_cons→xW,getElem?_eq_getElem→yA,nil_append→yB,getElem?_append_left→yD,getElem?_append_right→yG,append_nil→yL,append_assoc→yO,mem_map_of_mem→yP,mem_filter→yY,mem_cons_self→yZ,nodup_cons→zC,length_nil→zD,length_eq_zero_iff→zF,cons_append→zG,mem_cons_of_mem→zH,drop_eq_getElem_cons→zJ,range→zK,flatten_cons→zQ,map_map→zV,mem_of_getElem?→c8,mem_append_right→i8,getElem?_eq_none→i9,map_nil→j5,getElem?_replicate→j9,replicate_succ→k7,all_eq_true→l7,length_filter_le→l9,filter_eq_self→o0,pairwise_singleton→o4,mem_range→o5,getElem?_cons_zero→o6,foldl_cons→p8,length_replicate→u8,pairwise_map→w5,nodup_append→w6,pairwise_append→y4,getElem_mem→z7,any_eq_true→z9,length→AO,filter_eq_nil_iff→AU,ext_getElem?→AV,drop_eq_nil_of_le→AW,not_mem_nil→BJ,length_take→BK,getElem?_set_ne→BR,dropLast_concat_getLast→BS,reverse_append→BV,zip_cons_cons→BY,nodup_iff_pairwise_ne→BZ,filter_append→CA,drop_zero→CB,mem_flatten→CW,length_drop→CY,getElem?_cons_succ→CZ,pairwise_lt_range→DK,flatten_singleton→DL,mem_iff_getElem?→DU,mem_of_mem_drop→EC,mem_append_left→ED,length_reverse→EN,getElem_of_mem→EO,flatten_append→EQ,filterMap_cons→ER,any_cons→EZ,mem_filterMap→FG,foldl→FH,take_sublist→FM,eq_nil_of_length_eq_zero→FY,of_mem_zip→GA,length_set→GB,forIn_cons→GC,length_eraseIdx_of_lt→GT,getD_eq_getElem?_getD→GU,exists_cons_of_ne_nil→GV,pairwise_iff_getElem→HE,toArray→HR,length_pos_of_mem→HS,getElem?_set_self→HU,any_map→HV,length_singleton→IM,dropLast_eq_take→IN,reverse_reverse→IS,mem_of_mem_take→IT,getElem?_mapIdx→IU
open PySem.W renaming Frag→wM,fnOf→yT,keepIn→zL,codeIn→j3,nsIn→AM,methodObj→EX,cellsFrom_some→HB
open PySem.Heap renaming get?_push_of_some→wN,get?_push_size→wW,lt_size→xA,get?_update_self→zB,get?_none_of_le→zT,SameBut→k9,get?_update_other→AY,size_push→CC,ExtBut→CM,get?_update_ne→ET
open Nat renaming le_refl→wO,lt_of_lt_of_le→xB,le_trans→xD,ne_of_lt→xU,lt_of_le_of_lt→yH,zero_le→zI,not_lt→zP,min_le_right→j4,lt_trans→j6,lt_irrefl→j7,reduceSub→l5,reduceAdd→l6,ne_of_gt→p6,le_of_lt→p7,le_succ→z0,le_succ_of_le→BD,lt_succ_self→BN,lt_succ_of_lt→CO,lt_or_ge→DP,min_le_left→DR,succ_le_succ→FX,mul_comm→IL
open Bool renaming and_eq_true→xC,false_eq_true→xY,eq_iff_iff→zU,false_ne_true→j0,not_eq_true'→n0,or_false→FD,not_true→FE,not_eq_true→FT,or_eq_true→GD
open PySem.PyData renaming eqv→xE,int→xL,strOk→xP,str→yK,depthAll→yW,depth→yX,canLayAll0→j8,tuple→k6,eqvAll→AA,bool→BI,list→HQ
open Array renaming getElem?_eq_getElem→yC,length_toList→yI,getElem?_toList→q9,getElem?_eq_none→AS,getD→DC,all_eq_true'→FF,all_toList→FS,toList→HN,getElem_toList→IQ
open Option renaming map_eq_some_iff→yF,bind_eq_some_iff→AI,map_some→BQ
open Option.some renaming inj→yM,injEq→HH
open PySem.Builtin.Str renaming strSliceIndices→zE,occurrences→AC
open List.Perm renaming refl→zS,swap→DB,cons_inv→HL,nil_eq→IP
open PySem.Value renaming none→a8,ref→f8,type→p0,notImplemented→DZ,bool→EW,int→FO,isStrOf_shape→IR
open PySem.Around renaming under_plainId→c6
open PySem.Heap.SameBut renaming update→c7,refl→HF
open PyProof.Rows renaming slot_tuple_getitem→c9,callWith_type1→o9,seqObj→BB,StrsAre→DJ,IntsAre→EI,AllBare→EJ,IsTup→ES,slot_tuple_getitem→FU,envOfC→FV,entry_list_sort→HI,sortedHeap→HZ,slot_list_sort→IA,args_list_sort→IJ
open PySem.Str renaming ofString→g9,join→i3
open LawfulBEq renaming eq_of_beq→i7
open ForInStep renaming yield→l8
open PySem.NameKind renaming free→p4
open PySem.Obj renaming data_mapFields→p5,mapSeq→AN,mapDictKeys→DQ,isFreed_of_fields→EA,isFreed_of_dict→EY,putSet→HD,mapFields→HK
open PySem.Builtin.Slice renaming slicePlaces→p9,sliceAdjust→BP,sliceApplied→FA
open PySem.SetTable renaming grown→t8,below→AK
open PySem.Builtin.Tuple renaming tupleExact→w8,tupleItemsOf→BH,tupleCompareSizes→DX,tupleHashOf→FI
open Classical renaming byContradiction→x3
open PySem.Builtin.List renaming listTooLong→x4,listLengthHint→FB,listExtendWith→FC,listSameRef→FN
open False renaming elim→y3
open List.cons renaming injEq→z8
open PySem.F renaming plainAttrs_list→AD,args_tuple_add_2→CD,entry_tuple_add→CL,slot_tuple_add→CU,type_list_append→GN,slot_list_append→GO,plainAttrs_dict→GR,plainAttrs_str→HC
open PySem.Calls renaming spliced_cons→AJ,callWith_builtin→AR,call_function_entry→CG,evalArgs_plain→EB,spliced_nil→FL,Name_function_global→GP
open PySem.PassesOwn renaming never→BG
open Int renaming emod_lt_of_pos→CF,toNat_natCast→CP,emod_nonneg→DV
open PySem.Builtin.Dict_items renaming ownsTuple→DM
open Sum renaming inr→FP,inl→FQ
open PySem.SeqAt.ReadsAll renaming length→FR
open PySem.Builtin.Dict renaming showsAll→FZ
open PySem.AutoSeq1 renaming sub_tuple_tuple→GE,idx_int→IV
open PySem.SetTable.probe renaming go→GM
open PySem.Shared renaming TypeIs→GQ
open PySem.PyData.tuple renaming injEq→GS
open List.Pairwise renaming nil→GW
open PySem.Heap.ExtBut renaming push→HM
open Max renaming max→ID
section
namespace Sm
open PySem PySem.SetTable
theorem Cs {xs:Array Nat} (hr:xs.toList.Pairwise (· < ·)) {a b d:Nat} (h:a < b) (hb:b < xs.size):xs.getD a d < xs.getD b d:=by
 have ha:a < xs.size:=by lia
 have:=(HE.mp hr) a b (by simpa using ha) (by simpa using hb) h;simpa [DC,ha,hb] using this
theorem mN (xs:Array Nat) (j:Nat) (hr:xs.toList.Pairwise (· < ·)) :
   ∀ (fuel lo hi:Nat),lo<=hi->hi<=xs.size->hi - lo<=fuel->(∀ i,i < lo->xs.getD i j < j)->(∀ i,hi<=i->i < xs.size->j<=xs.getD i j) ->
     below.go xs j fuel lo hi<=hi/\(∀ i,i < below.go xs j fuel lo hi->xs.getD i j < j)/\(∀ i,below.go xs j fuel lo hi<=i->i < xs.size->j<=xs.getD i j):=by
 intro iN; induction iN with
 | zero =>
   intro lo hi h1 h2 h3 h4 h5; have:lo=hi:=by lia
   subst this; exact ⟨wO _,h4,h5⟩
 | succ fuel ih =>
   intro lo hi h1 h2 h3 h4 h5; unfold below.go;by_cases hl:lo < hi
   . rw [if_pos hl]
     by_cases hm:xs.getD ((lo+hi) / 2) j < j
     . simp only [hm,if_true]
       refine ih _ hi (by lia) h2 (by lia) ?_ h5;intro i hi';by_cases he:i=(lo+hi) / 2
       . subst he; exact hm
       . exact j6 (Cs hr (by lia) (by lia)) hm
     . simp only [hm,if_false]
       have r:=ih lo ((lo+hi) / 2) (by lia) (by lia) (by lia) h4 (by
         intro i hi' hs;by_cases he:i=(lo+hi) / 2
         . subst he; lia
         . have:=Cs hr (d:=j) (show (lo+hi) / 2 < i by lia) hs
           lia)
       exact ⟨by lia,r.2⟩
   . rw [if_neg hl]
     have:lo=hi:=by lia
     subst this; exact ⟨wO _,h4,h5⟩
theorem Hd (xs:Array Nat) (j:Nat) (hr:xs.toList.Pairwise (· < ·)) :
   below xs j<=xs.size/\(∀ i,i < below xs j->xs.getD i j < j)/\(∀ i,below xs j<=i->i < xs.size->j<=xs.getD i j) :=
 mN xs j hr xs.size 0 xs.size (zI _) (wO _) (by lia) (fun _ h=>absurd h (Nat.not_lt_zero _)) (fun _ h h'=>absurd h' (by lia))
theorem mO {xs:Array Nat} (hr:xs.toList.Pairwise (· < ·)) {i j:Nat} (h:xs[i]? = some j):below xs j=i:=by
 obtain ⟨h1,h2,h3⟩:=Hd xs j hr;have hi:i < xs.size:=by
   rcases DP i xs.size with h' | h'
   . exact h'
   . rw [AS h'] at h; exact nomatch h
 have e:xs.getD i j=j:=by simp only [DC,hi,dif_pos]; rw [yC hi] at h; simpa using h
 rcases Nat.lt_trichotomy (below xs j) i with hl | hl | hl
 . have a:=h3 _ (wO _) (by lia)
   have b:=Cs hr (d:=j) hl hi;lia
 . exact hl
 . have:=h2 i hl; lia
theorem dB (j:Nat):has #[] j=false:=rfl
theorem eP {t:i6} (hr:t.place.toList.Pairwise (· < ·)) {i j:Nat} (h:t.place[i]? = some j):t.slot j=.live i:=by
 unfold slot;simp only [mO hr h,h,beq_self_eq_true,if_true]
theorem few:∀ (n:Nat) (L:List Nat),(∀ e,e < n->e∈L)->n<=L.length:=by
 intro iN; induction iN with
 | zero=>intro _ _; exact zI _
 | succ n ih =>
   intro L h; have a:=h n (by lia);have b:=ih (L.erase n) (fun e he=>(List.mem_erase_of_ne (by lia)).mpr (h e (by lia)));have c:=List.length_erase_of_mem a; have d:=HS a;lia
theorem room {L:List Nat} {mask:Nat} (h:L.length<=mask):∃ e,e<=mask/\e∉L:=by
 by_cases c:∃ e,e<=mask/\e∉L
 . exact c
 . have:=few (mask+1) L (fun e he=>x3 fun hn=>c ⟨e,by lia,hn⟩)
   lia
end Sm
end
section
namespace Sm
open PySem PySem.SetTable
theorem fP {t:i6} {j:Nat} (h:j∈t.place.toList):∃ i:Nat,t.place[i]? = some j:=by
 rw [<- Array.mem_def] at h;obtain ⟨i,hi,e⟩:=Array.getElem_of_mem h;exact ⟨i,by rw [yC hi,e]⟩
theorem Qr {xs:Array Nat} (hr:xs.toList.Pairwise (· < ·)) {j:Nat} (hj:j∉xs.toList):(insertAt xs (below xs j) j).toList.Pairwise (· < ·):=by
 obtain ⟨h1,h2,h3⟩:=Hd xs j hr;rw [SetTable.toList_insertAt,y4];have ht:∀ a,a∈xs.toList.take (below xs j)->a < j:=by
   intro a ha; obtain ⟨i,hi,e⟩:=EO ha; have hi':i < below xs j:=by simp at hi; lia
   have:=h2 i hi'; have hs:i < xs.size:=by lia
   simp only [List.getElem_take,IQ] at e;simpa [DC,hs,e] using this
 have hd:∀ a,a∈xs.toList.drop (below xs j)->j < a:=by
   intro a ha; have hm:=EC ha; obtain ⟨i,hi,e⟩:=EO ha; simp only [List.getElem_drop,IQ] at e; simp at hi;have:=h3 (below xs j+i) (by lia) (by lia);have hs:below xs j+i < xs.size:=by lia
   simp [DC,hs,e] at this;rcases DP j a with c | c
   . exact c
   . have:j=a:=by lia
     subst this; exact absurd hm hj
 refine ⟨hr.sublist (FM _ _),?_,?_⟩
 . rw [xO]
   exact ⟨hd,hr.sublist (List.drop_sublist _ _)⟩
 . intro a ha b hb
   rw [wK] at hb; rcases hb with hb | hb
   . subst hb; exact ht a ha
   . exact j6 (ht a ha) (hd b hb)
end Sm
end
section
namespace Sm
open PySem PySem.SetTable
end Sm
end
section
namespace Sm
open PySem PySem.SetTable
def aR (mask:Nat) (ow:Array (Option Nat)):List (Nat×Nat):=(zK (mask+1)).filterMap fun j=>(ow.getD j none).map (j,·)
theorem kZ (mask:Nat) (ow:Array (Option Nat)):(aR mask ow).Pairwise (fun a b=>a.1 < b.1):=by
 unfold aR;rw [List.pairwise_filterMap];refine DK.imp ?_;intro a b hab x hx y hy;rw [yF] at hx hy;obtain ⟨_,_,rfl⟩:=hx;obtain ⟨_,_,rfl⟩:=hy;exact hab
end Sm
end
section
namespace Sm
open PySem PySem.SetTable
structure Elems (prog:xN) (w:xT) (A:yS) (E:wI->wJ->Prop) (a:wR) where
 D:Type
 dec:DecidableEq D
 I:wJ->Prop
 R:wI->D->Prop
 hash:D->Int
 heap:∀ {s:wJ} {h':yQ},I s->k9 a s.heap h'->I { s with heap:=h' }
 toks:∀ {s:wJ} (tk:Nat),I s->I { s with toks:=tk }
 ref:∀ {v:wI} {d:D},R v d->∃ b,v=.ref b
 eqB:∀ {s:wJ} {y x:wI} {d d':D} {Q:Bool->wJ->Prop},I s->R y d->R x d'->Q (@decide (d=d') (dec d d')) s->wpAny (xH prog w) A (eqBool y x) Q E s
 byV:∀ {s:wJ} {x:wI} {d:D} {Q:Bool->wJ->Prop},I s->R x d->(∀ b,Q b s)->wpAny (xH prog w) A (hashByValue 8 x) Q E s
 seen:∀ {s:wJ} {x:wI} {d:D} {ys:List wI} {Q:Bool->wJ->Prop},I s->R x d->(∀ y,y∈ys->∃ d',R y d')->Q false s->wpAny (xH prog w) A (searchCouldBeSeen x ys) Q E s
end Sm
end
section
namespace Sm
open PySem PySem.SetTable
end Sm
end
namespace L2
open PySem PySem.Spec PyProof.Rows
abbrev Key:=Sum Int Str
def rX:Key->wI->Bool
 | .inl k,v=>Value.isInt k v
 | .inr x,v=>Value.isStrOf x v
def keyH (w:xT):Key->Int
 | .inl k=>hashInt k
 | .inr x=>hashStr w x
theorem L5:∀ {k:Key} {v:wI},rX k v=true->(∃ i t,k=FQ i/\v=FO i t)\/(∃ x t,k=FP x/\v=Value.str x t)
 | .inl i,v,h=>by
   obtain ⟨t,e⟩:=Value.isInt_shape (k:=i) (v:=v) h; exact .inl ⟨i,t,rfl,e⟩
 | .inr x,v,h=>by
   obtain ⟨t,e⟩:=IR (x:=x) (v:=v) h; exact .inr ⟨x,t,rfl,e⟩
theorem uW (a b:Int):decide ((FQ a:Key)=FQ b)=(a==b):=by
 by_cases e:a=b
 . subst e; simp
 . have h:¬ (FQ a:Key)=FQ b:=fun q=>e (Sum.inl.inj q)
   rw [decide_eq_false h]; exact (beq_eq_false_iff_ne.mpr e).symm
theorem uT (a b:Str):decide ((FP a:Key)=FP b)=decide (a=b):=by
 by_cases e:a=b
 . subst e; simp
 . have h:¬ (FP a:Key)=FP b:=fun q=>e (Sum.inr.inj q)
   rw [decide_eq_false h,decide_eq_false e]
theorem uV (a:Int) (b:Str):decide ((FQ a:Key)=FP b)=false:=decide_eq_false (fun q=>nomatch q)
theorem uU (a:Str) (b:Int):decide ((FP a:Key)=FQ b)=false:=decide_eq_false (fun q=>nomatch q)
def Uh (prog:xN) (w:xT):PySem.KeyKind prog w Key where
 is:=rX
 hash:=keyH w
 inj:=fun v a b ha hb=>by
   rcases L5 ha with ⟨i,t,rfl,rfl⟩ | ⟨x,t,rfl,rfl⟩
   . rcases L5 hb with ⟨j,u,rfl,e⟩ | ⟨y,u,rfl,e⟩
     . injection e with e1 _; rw [e1]
     . exact nomatch e
   . rcases L5 hb with ⟨j,u,rfl,e⟩ | ⟨y,u,rfl,e⟩
     . exact nomatch e
     . injection e with e1 _; rw [e1]
 byValue:=fun k v h=>by
   rcases L5 h with ⟨i,t,rfl,rfl⟩ | ⟨x,t,rfl,rfl⟩ <;> rfl
 pyHash:=fun hv h=>by
   rcases L5 hv with ⟨i,t,rfl,rfl⟩ | ⟨x,t,rfl,rfl⟩
   . exact wpAny_pyHash_int h
   . exact wpAny_pyHash_str h
 eqBool:=fun hu hv h=>by
   rcases L5 hu with ⟨i,t,rfl,rfl⟩ | ⟨x,t,rfl,rfl⟩
   . rcases L5 hv with ⟨j,u,rfl,rfl⟩ | ⟨y,u,rfl,rfl⟩
     . rw [uW] at h; exact wpAny_eqBool_int h
     . rw [uV] at h; exact SeqAt.EqAt.int_str i t y u _ _ _ _ h
   . rcases L5 hv with ⟨j,u,rfl,rfl⟩ | ⟨y,u,rfl,rfl⟩
     . rw [uU] at h; exact SeqAt.EqAt.str_int x t j u _ _ _ _ h
     . rw [uT] at h; exact wpAny_eqBool_str h
 «strs» := fun k x t v h=>by
   rcases L5 h with ⟨i,u,rfl,e⟩ | ⟨y,u,rfl,e⟩
   . exact nomatch e
   . injection e with e1 _
     subst e1;cases v <;> rfl
end L2
namespace L2
open PySem PySem.Spec PyProof.Rows
inductive V where
 | non | bl (b:Bool) | int (i:Int) | str (x:Str) | byt (b:Array UInt8) | flt (b:UInt64) | ref (a:wR) | ty (n:String)
 deriving DecidableEq
def RelV:V->wI->Prop
 | .non,u=>u=a8
 | .bl b,u=>u=EW b
 | .int i,u=>∃ t,u=FO i t
 | .str x,u=>∃ t,u=Value.str x t
 | .byt b,u=>∃ t,u=Value.bytes b t
 | .flt b,u=>∃ t,u=Value.float b t
 | .ref a,u=>u=f8 a
 | .ty n,u=>u=p0 n
abbrev Vals:List V->List wI->Prop:=a9 RelV
theorem Vals.length {xs:List V} {us:List wI} (r:Vals xs us):xs.length=us.length:=Paired.length r
theorem Vals.get:∀ {xs:List V} {us:List wI} {i:Nat} {x:V},Vals xs us->xs[i]? = some x->∃ u,us[i]? = some u/\RelV x u
 | _,_,_,_,.nil,e=>by simp at e
 | _,_,0,_,.cons r _,e=>by simp at e; subst e; exact ⟨_,rfl,r⟩
 | _,_,i+1,x,.cons _ t,e=>by
   obtain ⟨u,h1,h2⟩:=Vals.get (i:=i) (x:=x) t (by simpa using e);exact ⟨u,by simpa using h1,h2⟩
theorem Vals.set {x:V} {u:wI} (r:RelV x u):∀ {xs:List V} {us:List wI} (i:Nat),Vals xs us->Vals (xs.set i x) (us.set i u)
 | _,_,_,.nil=>.nil
 | _,_,0,.cons _ t=>.cons r t
 | _,_,i+1,.cons q t=>.cons q (Vals.set r i t)
theorem Vals.append:∀ {xs ys:List V} {us ws:List wI},Vals xs us->Vals ys ws->Vals (xs++ys) (us++ws)
 | _,_,_,_,.nil,s=>s
 | _,_,_,_,.cons r t,s=>.cons r (Vals.append t s)
theorem Vals.take:∀ {xs:List V} {us:List wI} (n:Nat),Vals xs us->Vals (xs.take n) (us.take n)
 | _,_,0,_=>.nil
 | _,_,_+1,.nil=>.nil
 | _,_,n+1,.cons r t=>.cons r (Vals.take n t)
theorem Vals.drop:∀ {xs:List V} {us:List wI} (n:Nat),Vals xs us->Vals (xs.drop n) (us.drop n)
 | _,_,0,r=>r
 | _,_,_+1,.nil=>.nil
 | _,_,n+1,.cons _ t=>Vals.drop n t
def RelO:Option V->Option wI->Prop
 | some v,some u=>RelV v u
 | none,none=>True
 | _,_=>False
def KV {κ:Type}:List (κ×V)->List (κ×wI)->Prop:=a9 fun (p:κ×V) (q:κ×wI)=>p.1=q.1/\RelV p.2 q.2
def kV:Key->V
 | .inl i=>.int i
 | .inr x=>.str x
inductive HO where
 | lst (xs:List V)
 | tup (xs:List V)
 | dK (kvs:List (Key×V)) | dT (kvs:List (List Key×V))
 | dN (kvs:List (wF×V))
 | set (S:Int->Bool) (n:Nat)
 | ins (C dx:wR) (fs:List (Str×V))
 | own (x:wR)
 | xd (fs:List (Str×V))
 | met (f x:wR)
 | rng (lo hi:Int)
 | frz (o:Obj) (u:HO)
 | tbl (ps:Array wI)
 | ext (φ:yQ->Prop)
abbrev Hp:=wR->Option HO
def upd (H:Hp) (a:wR) (o:HO):Hp:=fun b=>if b=a then some o else H b
theorem C0 {H:Hp} {a:wR} {o:HO}:upd H a o a=some o:=by unfold upd; rw [if_pos rfl]
theorem C3 {H:Hp} {a b:wR} {o:HO} (h:b≠a):upd H a o b=H b:=by unfold upd; rw [if_neg h]
theorem mZ {H:Hp} {a:wR} {o u:HO}:upd (upd H a o) a u=upd H a u:=by
 funext b; unfold upd; split <;> rfl
theorem cR {H:Hp} {a b:wR} {o u:HO} (h:H a=some o) (h':H b=some u) (d:o≠u):a≠b:=by
 intro e; subst e; rw [h] at h'; exact d (yM h')
theorem E6 {H:Hp} {a b:wR} {o:HO} (h:H a=some o) (h':H b=none):a≠b:=by
 intro e; subst e; rw [h] at h'; cases h'
mutual
def isK:wF->Bool
 | .int _=>true
 | .str _=>true
 | .tuple xs=>Gr xs
 | .none | .bool _ | .list _ | .dict _=>false
def Gr:List wF->Bool
 | []=>true
 | x::r=>isK x&&Gr r
end
mutual
def Yh (w:xT):wF->Int
 | .int i=>hashInt i
 | .str x=>hashStr w x
 | .tuple xs=>reduceHash (FI (Ex w xs))
 | .none | .bool _ | .list _ | .dict _=>0
def Ex (w:xT):List wF->List Int
 | []=>[]
 | x::r=>Yh w x::Ex w r
end
def T9 (w:xT):wF->Int
 | .none=>0xFCA86420
 | d=>Yh w d
def nkD (d:wF):Bool:=match d with
 | .none=>true
 | .str _=>true
 | .tuple xs=>Gr xs&&decide ((k6 xs).depth<=8)
 | _=>false
mutual
def KRep (H:Hp):wF->V->Prop
 | .none,v=>v=.non
 | .int i,v=>v=.int i
 | .str x,v=>v=.str x/\xP x=true/\x.length<=sizeLine
 | .tuple ds,v=>∃ b xs,v=.ref b/\H b=some (.tup xs)/\KRepL H ds xs
 | .bool _,_=>False
 | .list _,_=>False
 | .dict _,_=>False
def KRepL (H:Hp):List wF->List V->Prop
 | [],xs=>xs=[]
 | d::ds,xs=>∃ x r,xs=x::r/\KRep H d x/\KRepL H ds r
end
mutual
theorem KRep.mono {H H':Hp} (ht:∀ b xs,H b=some (.tup xs)->H' b=some (.tup xs)):∀ {d:wF} {v:V},KRep H d v->KRep H' d v
 | .none,_,r=>r
 | .int _,_,r=>r
 | .str _,_,r=>r
 | .tuple _,_,r=>by obtain ⟨b,xs,e,q,l⟩:=r; exact ⟨b,xs,e,ht _ _ q,KRepL.mono ht l⟩
 | .bool _,_,r=>r.elim
 | .list _,_,r=>r.elim
 | .dict _,_,r=>r.elim
theorem KRepL.mono {H H':Hp} (ht:∀ b xs,H b=some (.tup xs)->H' b=some (.tup xs)):∀ {ds:List wF} {xs:List V},KRepL H ds xs->KRepL H' ds xs
 | [],_,r=>r
 | _::_,_,r=>by obtain ⟨x,t,e,q,l⟩:=r; exact ⟨x,t,e,KRep.mono ht q,KRepL.mono ht l⟩
end
def O3 (w:xT) (kvs:List (wF×V)) (xs:List (wI×wI)):List yU:=List.zipWith (fun p q=>⟨T9 w p.1,q.1,q.2⟩) kvs xs
section
variable (P:xN) (w:xT)
def ObjOk (H:Hp) (h:yQ) (a:wR):HO->Prop
 | .lst xs=>xs.length<=sizeLine/\∃ (its:List wI) (n:Nat),Vals xs its/\h.get? a=some { cls:=.type "list",data:=.seq its.toArray n }
 | .tup xs=>xs.length<=sizeLine/\∃ its:List wI,Vals xs its/\ES h a its.toArray
 | .dK kvs=>kvs.length<=sizeLine/\(a==m8)=false/\∃ vs,KV kvs vs/\h.DictOf (Uh P w) a vs
 | .dT kvs => kvs.length <= sizeLine /\ (a == m8) = false /\ ∃ xs : List (List Key × wR × wI),
     a9 (fun (p:List Key×V) (q:List Key×wR×wI)=>p.1=q.1/\H q.2.1=some (.tup (p.1.map kV))/\RelV p.2 q.2.2) kvs xs /\
     ∃ o es ep,h.get? a=some o/\o.ExactDict/\o.data=.dict es ep/\es.toList=xs.map (entryOfKey (tupleKind (Uh P w)))/\(xs.map (·.1)).Nodup
 | .dN kvs => kvs.length <= sizeLine /\ (a == m8) = false /\ (kvs.map (·.1)).Nodup /\ (∀ p ∈ kvs, nkD p.1 = true) /\ ∃ xs : List (wI × wI),
     a9 (fun (p:wF×V) (q:wI×wI)=>(∃ v,KRep H p.1 v/\RelV v q.1)/\RelV p.2 q.2) kvs xs/\∃ ep,h.get? a=some { cls:=.type "dict",data:=.dict (O3 w kvs xs).toArray ep }
 | .set S n=>h.SetOf (GJ P w) a S n
 | .ins C dx fs => H dx = some (.own a) /\ fs.length <= 1000 /\ dx ≠ a /\ h.get? a = some (PySem.W.instObj C dx) /\
     ∃ mA,h.Ns1 dx mA/\(∀ f,RelO (fs.lookup f) (mA f))/\PySem.Within mA (fs.map (·.1))
 | .own _=>∃ o,h.get? a=some o
 | .xd fs=>∃ mA,h.Ns1 a mA/\∀ f,RelO (fs.lookup f) (mA f)
 | .rng lo hi=>∃ t u v,h.get? a=some { cls:=.type "range",data:=.fields #[.int lo t,.int hi u,.int 1 v] }
 | .frz o u=>h.get? a=some o/\ObjOk H h a u
 | .tbl ps=>h.get? a=some { cls:=.none,data:=.fields ps }
 | .met f x=>h.get? a=some (EX (.ref f) (.ref x))
 | .ext φ=>φ h/\(∃ o,h.get? a=some o)/\∀ h1 h2:yQ,φ h1->(∀ o,h1.get? a=some o->h2.get? a=some o)->φ h2
def HOk (H:Hp) (h:yQ):Prop:=∀ a o,H a=some o->ObjOk P w H h a o
end
section
variable {P:xN} {w:xT} {H H':Hp} {h h':yQ} {a:wR} {o:HO}
theorem ObjOk.lt (x:ObjOk P w H h a o):a < h.objs.size:=by
 cases o with
 | lst xs=>obtain ⟨_,_,_,_,e⟩:=x; exact xA e
 | tup xs=>obtain ⟨_,_,_,p⟩:=x; exact p.lt
 | dK kvs=>obtain ⟨_,_,_,_,o,_,_,e,_⟩:=x; exact xA e
 | dT kvs=>obtain ⟨_,_,_,_,o,_,_,e,_⟩:=x; exact xA e
 | dN kvs=>obtain ⟨_,_,_,_,_,_,_,e⟩:=x; exact xA e
 | set S n=>obtain ⟨o,_,_,_,e,_⟩:=x; exact xA e
 | ins C dx fs=>obtain ⟨_,_,_,e,_⟩:=x; exact xA e
 | own y=>obtain ⟨_,e⟩:=x; exact xA e
 | xd fs=>obtain ⟨_,⟨_,_,_,e,_⟩,_⟩:=x; exact xA e
 | rng lo hi=>obtain ⟨_,_,_,e⟩:=x; exact xA e
 | frz ob u=>obtain ⟨e,_⟩:=x; exact xA e
 | tbl ps=>exact xA (show h.get? a=some _ from x)
 | met f y=>exact xA (show h.get? a=some _ from x)
 | ext φ=>obtain ⟨_,⟨_,e⟩,_⟩:=x; exact xA e
theorem Paired.mapP {α β:Type} {F G:α->β->Prop}:∀ {l₁:List α} {l₂:List β},a9 F l₁ l₂->(∀ a b,F a b->G a b)->a9 G l₁ l₂
 | _,_,.nil,_=>.nil
 | _,_,.cons r t,f=>.cons (f _ _ r) (Paired.mapP t f)
theorem ObjOk.stay (x:ObjOk P w H h a o) (k:∀ b u,(b=a\/H b=some (.own a))->h.get? b=some u->h'.get? b=some u)
   (ho:∀ b,H b=some (.own a)->H' b=some (.own a)) (ht:∀ b xs,H b=some (.tup xs)->H' b=some (.tup xs)):ObjOk P w H' h' a o:=by
 induction o with
 | lst xs=>obtain ⟨z,its,n,r,e⟩:=x; exact ⟨z,its,n,r,k _ _ (.inl rfl) e⟩
 | tup xs=>obtain ⟨z,its,r,ob,e,c⟩:=x; exact ⟨z,its,r,ob,k _ _ (.inl rfl) e,c⟩
 | dK kvs=>obtain ⟨z,y,vs,r,ob,es,ep,e,c⟩:=x; exact ⟨z,y,vs,r,ob,es,ep,k _ _ (.inl rfl) e,c⟩
 | dT kvs =>
   obtain ⟨z,y,xs,r,ob,es,ep,e,c⟩:=x; exact ⟨z,y,xs,Paired.mapP r fun p q z=>⟨z.1,ht _ _ z.2.1,z.2.2⟩,ob,es,ep,k _ _ (.inl rfl) e,c⟩
 | dN kvs =>
   obtain ⟨z,y,nd,nk,xs,r,ep,e⟩:=x; exact ⟨z,y,nd,nk,xs,Paired.mapP r fun p q hZ2=>by obtain ⟨⟨v,z1,z2⟩,z3⟩:=hZ2; exact ⟨⟨v,z1.mono ht,z2⟩,z3⟩,ep,k _ _ (.inl rfl) e⟩
 | set S n=>obtain ⟨ob,es,ep,t,e,c⟩:=x; exact ⟨ob,es,ep,t,k _ _ (.inl rfl) e,c⟩
 | ins C dx fs =>
   obtain ⟨d,z,ne,e,mA,⟨od,es,ep,e2,c⟩,r⟩:=x; exact ⟨ho _ d,z,ne,k _ _ (.inl rfl) e,mA,⟨od,es,ep,k _ _ (.inr d) e2,c⟩,r⟩
 | own y=>obtain ⟨ob,e⟩:=x; exact ⟨ob,k _ _ (.inl rfl) e⟩
 | xd fs=>obtain ⟨mA,⟨od,es,ep,e,c⟩,r⟩:=x; exact ⟨mA,⟨od,es,ep,k _ _ (.inl rfl) e,c⟩,r⟩
 | rng lo hi=>obtain ⟨t,u,v,e⟩:=x; exact ⟨t,u,v,k _ _ (.inl rfl) e⟩
 | frz ob u ih=>obtain ⟨e,q⟩:=x; exact ⟨k _ _ (.inl rfl) e,ih q⟩
 | tbl ps =>
   have e:h.get? a=some { cls:=.none,data:=.fields ps }:=x; show h'.get? a=some { cls:=.none,data:=.fields ps };exact k a _ (.inl rfl) e
 | met f y =>
   have e:h.get? a=some (EX (.ref f) (.ref y)):=x; show h'.get? a=some (EX (.ref f) (.ref y));exact k a _ (.inl rfl) e
 | ext φ=>obtain ⟨p,⟨o,e⟩,st⟩:=x; exact ⟨st _ _ p fun o q=>k _ _ (.inl rfl) q,⟨o,k _ _ (.inl rfl) e⟩,st⟩
theorem HOk.lt (x:HOk P w H h) (e:H a=some o):a < h.objs.size:=(x a o e).lt
theorem HOk.fresh (x:HOk P w H h) (e:h.objs.size<=a):H a=none:=by
 cases q:H a with
 | none=>rfl
 | some u=>exact absurd (xB (x.lt q) e) (j7 _)
theorem HOk.kept (x:HOk P w H h) (k:∀ b u,h.get? b=some u->h'.get? b=some u):HOk P w H h':=fun a o e =>
 (x a o e).stay (fun b u _ q=>k b u q) (fun _ q=>q) fun _ _ q=>q
theorem HOk.laid (x:HOk P w H h) (k:∀ b u,h.get? b=some u->h'.get? b=some u) (hp:h.objs.size<=a) (new:ObjOk P w (upd H a o) h' a o):HOk P w (upd H a o) h':=fun b u e=>by
 have hn:=x.fresh hp;by_cases hb:b=a
 . subst hb; rw [C0] at e; cases e; exact new
 . rw [C3 hb] at e
   exact (x b u e).stay (fun c v _ q=>k c v q) (fun c q=>by rw [C3 (E6 q hn)]; exact q) fun c xs q=>by rw [C3 (E6 q hn)]; exact q
end
def Rd (H:Hp) (a:wR) (u:HO):Prop:=H a=some u\/∃ o,H a=some (.frz o u)
theorem Rd.ok {P:xN} {w:xT} {H:Hp} {h:yQ} {a:wR} {u:HO} (r:Rd H a u) (x:HOk P w H h):ObjOk P w H h a u:=by
 rcases r with r | ⟨o,r⟩
 . exact x a u r
 . obtain ⟨_,q⟩:=x a _ r
   exact q
def Mut:Option HO->Prop
 | some (.lst _)=>True
 | some (.dK _)=>True
 | some (.dT _)=>True
 | some (.dN _)=>True
 | some (.set _ _)=>True
 | some (.ins _ _ _)=>True
 | some (.ext _)=>True
 | _=>False
section
variable {P:xN} {w:xT} {H:Hp} {h h':yQ} {x e:wR} {o':HO}
theorem HOk.write (ok:HOk P w H h) (mu:Mut (H x)) (he:e=x\/H e=some (.own x)) (k:∀ b u,b≠e->h.get? b=some u->h'.get? b=some u) (heo:∃ u,h'.get? e=some u)
   (new:ObjOk P w (upd H x o') h' x o'):HOk P w (upd H x o') h':=fun b u q=>by
 have nown:∀ c y,H c=some (.own y)->c≠x:=fun c y r z=>by subst z; rw [r] at mu; exact mu
 have ntup:∀ c xs,H c=some (.tup xs)->c≠x:=fun c xs r z=>by subst z; rw [r] at mu; exact mu
 by_cases hb:b=x
 . subst hb; rw [C0] at q; cases q; exact new
 . rw [C3 hb] at q
   by_cases hbe:b=e
   . have q' : H b = some (.own x) := by
       rcases he with z | z
       . exact absurd (hbe.trans z) hb
       . rw [hbe]; exact z
     rw [q] at q'; cases q';obtain ⟨v,hv⟩:=heo; exact ⟨v,by rw [hbe]; exact hv⟩
   . refine (ok b u q).stay (fun c v hc r=>k c v ?_ r) (fun c r=>by rw [C3 (nown c b r)]; exact r) fun c xs r=>by rw [C3 (ntup c xs r)]; exact r
     rcases hc with rfl | hc
     . exact hbe
     . rintro rfl
       rcases he with z | z
       . exact nown c b hc z
       . rw [hc] at z; cases z; exact hb rfl
end
structure Un (fs ex:List wR) (H H':Hp) (h h':yQ):Prop where
 keep:∀ b o,h.get? b=some o->H b=none->b∉fs->b∉ex->h'.get? b=some o
 slot:∀ b o,h.get? b=some o->H b=none->b∈fs->b∉ex->∃ sl,h'.get? b=some { o with slots:=sl }
 free:∀ b o,h.get? b=some o->H b=none->b∉ex->H' b=none
 there:∀ b o,h.get? b=some o->b∉ex->∃ o',h'.get? b=some o'
 tups:∀ b xs,H b=some (.tup xs)->H' b=some (.tup xs)
 frzs:∀ b o u,H b=some (.frz o u)->H' b=some (.frz o u)
 tbls:∀ b ps,H b=some (.tbl ps)->∃ more,H' b=some (.tbl (ps++more))
section
variable {fs ex:List wR} {H H1:Hp} {h h1 h':yQ} {a x e:wR} {o:HO}
theorem Un.any (u:Un fs ex H H1 h h1) {b:wR} {ob:Obj} (q:h.get? b=some ob) (n:H b=none) (hx:b∉ex):∃ sl,h1.get? b=some { ob with slots:=sl }:=by
 by_cases hb:b∈fs
 . exact u.slot b ob q n hb hx
 . exact ⟨ob.slots,u.keep b ob q n hb hx⟩
theorem Un.kept (k:∀ b u,h.get? b=some u->h'.get? b=some u):Un fs ex H H h h' :=
 ⟨fun b ob q _ _ _=>k b ob q,fun b ob q _ _ _=>⟨ob.slots,k b ob q⟩,fun _ _ _ n _=>n,fun b ob q _=>⟨ob,k b ob q⟩,fun _ _ q=>q,fun _ _ _ q=>q,fun _ ps q=>⟨#[],by rw [q]; simp⟩⟩
theorem Un.refl:Un fs ex H H h h:=Un.kept fun _ _ q=>q
theorem Un.laid (k:∀ b u,h.get? b=some u->h'.get? b=some u) (hp:h.objs.size<=a) (hn:H a=none):Un fs ex H (upd H a o) h h' where
 keep:=fun b u q _ _ _=>k b u q
 slot:=fun b u q _ _ _=>⟨u.slots,k b u q⟩
 free:=fun b u q n _=>by rw [C3 (xU (xB (xA q) hp))]; exact n
 there:=fun b u q _=>⟨u,k b u q⟩
 tups:=fun b xs q=>by rw [C3 (E6 q hn)]; exact q
 frzs:=fun b u xs q=>by rw [C3 (E6 q hn)]; exact q
 tbls:=fun b ps q=>⟨#[],by rw [C3 (E6 q hn),q]; simp⟩
theorem Un.write (mu:Mut (H x)) (he:e=x\/H e=some (.own x)) (k:∀ b u,b≠e->h.get? b=some u->h'.get? b=some u) (heo:∃ u,h'.get? e=some u):Un fs ex H (upd H x o) h h':=by
 have hx:∀ b,H b=none->b≠x:=fun b n z=>by subst z; rw [n] at mu; exact mu
 have hb:∀ b,H b=none->b≠e:=fun b n z=>by
   subst z; rcases he with r | r
   . exact hx b n r
   . rw [n] at r; cases r
 have hm:∀ b u,H b=some u->¬ Mut (some u)->b≠x:=fun b u q nm z=>by subst z; rw [q] at mu; exact nm mu
 refine ⟨fun b u q n _ _=>k b u (hb b n) q,fun b u q n _ _=>⟨u.slots,k b u (hb b n) q⟩,fun b u q n _=>by rw [C3 (hx b n)]; exact n,fun b u q _=>?_,
   fun b xs q=>by rw [C3 (hm b _ q fun z=>z)]; exact q,fun b u xs q=>by rw [C3 (hm b _ q fun z=>z)]; exact q,fun b ps q=>⟨#[],by rw [C3 (hm b _ q fun z=>z),q]; simp⟩⟩
 by_cases hbe:b=e
 . subst hbe; exact heo
 . exact ⟨u,k b u hbe q⟩
end
def trk (h:yQ) (H:Hp):List wR:=(zK h.objs.size).filter fun a=>(H a).isSome
def Uq (h:yQ) (H:Hp):yQ:=PySem.W.hideAll h (trk h H)
theorem gD (h:yQ) (H:Hp):(Uq h H).objs.size=h.objs.size:=PySem.W.hideAll_size _ _
theorem lL {h:yQ} {H:Hp} {b:wR} {o:Obj} (e:h.get? b=some o) (n:H b=none):(Uq h H).get? b=some o :=
 PySem.W.hideAll_get _ e fun hm=>by
   have q:(H b).isSome=true:=(yY.mp hm).2; rw [n] at q; simp at q
theorem pB {h:yQ} {H:Hp} {b:wR} {o:Obj} (e:(Uq h H).get? b=some o):h.get? b=some o/\H b=none:=by
 have e':h.get? b=some o:=PySem.W.of_hideAll (trk h H) e;refine ⟨e',?_⟩;cases q:H b with
 | none=>rfl
 | some x =>
   have hm:b∈trk h H:=yY.mpr ⟨o5.mpr (xA e'),by simp [q]⟩;have z:(Uq h H).get? b=none:=PySem.W.hideAll_none (trk h H) hm; rw [z] at e; cases e
def rD (g h:yQ) (L:wR):List (wR×Obj):=(zK h.objs.size).filterMap fun a=>if a=L\/(g.get? a).isSome=true then none else (h.get? a).map fun o=>(a,o)
def L3 (g h:yQ) (L d:wR):List (wR×Obj):=(rD g h L).filter fun p=>decide (p.1≠d)
end L2
namespace L2
open PySem PySem.Spec PyProof.Rows
structure Mod (K:wM) (mg:Str->Option wI) (base:yQ):Prop where
 kin:K.In base
 glob:base.Ns yV mg
 blt:∃ mb,base.Ns EF mb/\∀ x:Str,x ≠ "__name__" -> mb x=AH x
 nolimit:base.NoLimit
structure Cx where
 prog:xN
 w:xT
 K:wM
 mg:Str->Option wI
 base:yQ
 A:yS
 N:List Str
 s₀:wJ
 H₀:Hp
 env:Env
 outer:List Env
 stack:List Env
 ex:List wR
 fn:Str->Bool
 calm:Bool
 pn:List (wR×Obj)
 xe:wI->wJ->Prop
def frs (l:List Env):List wR:=l.filterMap (·.frame)
abbrev Cx.fs (X:Cx):List wR:=frs X.outer
def Vis (sc:Scope) (x:Str):Prop:=sc.names.lookup x=some .local\/sc.names.lookup x=some .cell\/sc.names.lookup x=some .free
def Loc (sc:Scope) (x:Str):Prop:=sc.names.lookup x=some .local\/sc.names.lookup x=some .cell
def Look (env:Env) (h:yQ) (m:Str->Option wI) (x:Str) (u:wI):Prop :=
 (env.kindOf x=some .local/\m x=some u)\/((env.kindOf x=some .cell\/env.kindOf x=some .free)/\∃ c,env.cells.lookup x=some c/\h.IsCell c (some u))
structure Cx.Ok (X:Cx):Prop where
 mod:Mod X.K X.mg X.base
 kind:X.env.scope.kind=.function
 glob:X.env.globals=yV
 blt:X.env.builtins=EF
 above:X.s₀.heap.objs.size<=X.env.locals
 inj:∀ x y c,X.env.cells.lookup x=some c->X.env.cells.lookup y=some c->x=y
 has:∀ x,(X.env.kindOf x=some .cell\/X.env.kindOf x=some .free)->∃ c,X.env.cells.lookup x=some c
 cab:∀ x c,X.fn x=true->X.env.cells.lookup x=some c->X.s₀.heap.objs.size<=c
 hd:X.calm=true->X.A.handled=none
 frames:X.A.frames=some X.stack
 stk:X.stack=X.outer\/(X.stack=X.env::X.outer/\X.env.frame=some X.env.locals)
 exf:∀ b∈X.ex,b≠X.env.locals/\∀ x c,X.env.cells.lookup x=some c->c≠b
 bs:∀ b o,X.base.get? b=some o->X.s₀.heap.get? b=some o/\X.H₀ b=none
 bsz:X.base.objs.size<=X.s₀.heap.objs.size
 noex:∀ b o,X.base.get? b=some o->b∉X.ex
 exfs:∀ b∈X.ex,b∉X.fs
 funs:X.s₀.heap.FunFrames X.base X.outer
 frf:∀ b∈X.fs,X.H₀ b=none
structure Inv (X:Cx) (pins:List (wR×Obj)) (Z:List (Option V)) (H:Hp) (s:wJ):Prop where
 ok:X.Ok
 os:s.os=X.s₀.os
 bare:EJ s.gens
 base:Un X.fs X.ex X.H₀ H X.s₀.heap s.heap
 loc:∃ m,s.heap.Ns X.env.locals m/\∀ (i:Nat) (x:Str) (v:V),X.N[i]? = some x->Z[i]? = some (some v)->Vis X.env.scope x->∃ u,RelV v u/\Look X.env s.heap m x u
 cell:∀ x c,X.env.cells.lookup x=some c->∃ v,s.heap.IsCell c v
 free:H X.env.locals=none
 freeC:∀ x c,X.env.cells.lookup x=some c->H c=none
 pin:∀ p∈X.pn++pins,s.heap.get? p.1=some p.2/\H p.1=none/\p.1≠X.env.locals/\p.1∉X.fs/\∀ v,p.2.data≠.cell v
 hok:HOk X.prog X.w H s.heap
 len:Z.length=X.N.length
section
variable {X:Cx} {pins:List (wR×Obj)} {Z:List (Option V)} {H H':Hp} {s:wJ} {h':yQ}
theorem Cx.Ok.nofr (ok:X.Ok) {b:wR} {o:Obj} (e:X.base.get? b=some o):b∉X.fs:=fun hb=>by
 have:=(ok.funs.mem hb).1;rw [e] at this; cases this
theorem Inv.bs (I:Inv X pins Z H s):∀ b o,X.base.get? b=some o->s.heap.get? b=some o/\H b=none:=fun b o e =>
 ⟨I.base.keep b o (I.ok.bs b o e).1 (I.ok.bs b o e).2 (I.ok.nofr e) (I.ok.noex b o e),I.base.free b o (I.ok.bs b o e).1 (I.ok.bs b o e).2 (I.ok.noex b o e)⟩
theorem Inv.bk (I:Inv X pins Z H s):∀ b o,X.base.get? b=some o->s.heap.get? b=some o:=fun b o e=>(I.bs b o e).1
theorem Inv.mod (I:Inv X pins Z H s):Mod X.K X.mg X.base:=I.ok.mod
theorem Inv.kIn (I:Inv X pins Z H s):X.K.In s.heap:=I.ok.mod.kin.keeps I.bk
theorem Inv.fr (I:Inv X pins Z H s):∃ m,Fr X.base X.env.locals s.heap m :=
 let ⟨m,hn,_⟩:=I.loc
 ⟨m,hn,I.bk,xD I.ok.bsz I.ok.above⟩
theorem Inv.lt (I:Inv X pins Z H s):X.env.locals < s.heap.objs.size:=let ⟨_,hn,_⟩:=I.loc; hn.lt
theorem Inv.sz (I:Inv X pins Z H s):X.s₀.heap.objs.size<=s.heap.objs.size:=xD I.ok.above (p7 I.lt)
theorem Inv.nofs (I:Inv X pins Z H s) {a:wR} (h:s.heap.objs.size<=a):a∉X.fs:=fun hb=>by
 obtain ⟨_,o,ho,_⟩:=I.ok.funs.mem hb;exact absurd (xB (xA ho) (xD I.sz h)) (j7 _)
theorem Inv.cne (I:Inv X pins Z H s):∀ x c,X.env.cells.lookup x=some c->c≠X.env.locals:=fun x c e z=>by
 obtain ⟨v,o,ho,hd⟩:=I.cell x c e;obtain ⟨m,⟨o',es,ep,ho',hd',_⟩,_⟩:=I.loc;rw [z,ho'] at ho; cases ho; rw [hd'] at hd; cases hd
theorem Inv.funs (I:Inv X pins Z H s):s.heap.FunFrames X.base X.outer:=by
 have all:∀ (l:List Env),(∀ b∈frs l,b∈X.fs)->X.s₀.heap.FunFrames X.base l->s.heap.FunFrames X.base l:=by
   intro l;induction l with
   | nil=>intro _ _; trivial
   | cons env r ih =>
     intro hs hl; obtain ⟨hk,⟨L,o,hf,hn,ho,hd⟩,hr⟩:=hl; have hL:L∈X.fs:=hs L (by unfold frs; rw [ER,hf]; exact yZ);obtain ⟨sl,e⟩:=I.base.slot L o ho (I.ok.frf L hL) hL fun z=>I.ok.exfs L z hL;exact ⟨hk,⟨L,_,hf,hn,e,hd⟩,ih (fun b hb=>hs b (by unfold frs; rw [ER,hf]; exact zH _ hb)) hr⟩
 exact all X.outer (fun _ hb=>hb) I.ok.funs
theorem Inv.stack (I:Inv X pins Z H s):s.heap.FunFrames X.base X.stack:=by
 rcases I.ok.stk with e | ⟨e,hf⟩
 . rw [e]; exact I.funs
 . rw [e]
   obtain ⟨m,hn,_⟩:=I.loc; refine .cons (by rw [I.ok.kind]; decide) hf hn ?_ I.funs;exact zT (xD I.ok.bsz I.ok.above)
theorem Inv.stkSub (I:Inv X pins Z H s):∀ b∈frs X.stack,b∈X.env.locals::X.fs:=fun b hb=>by
 rcases I.ok.stk with e | ⟨e,hf⟩
 . rw [e] at hb; exact zH _ hb
 . rw [e] at hb
   unfold frs at hb; rw [ER,hf] at hb; exact hb
theorem Inv.stkFree (I:Inv X pins Z H s):∀ b∈frs X.stack,H b=none:=fun b hb=>by
 rcases wK.mp (I.stkSub b hb) with e | hb
 . rw [e]; exact I.free
 . obtain ⟨_,o,ho,_⟩:=I.ok.funs.mem hb
   exact I.base.free b o ho (I.ok.frf b hb) fun z=>I.ok.exfs b z hb
theorem Inv.step {g':Array GenState} {t':Nat} {d':Drawn} {ch:List wR} (I:Inv X pins Z H s)
   (hch:∀ b∈ch,(b∈X.ex\/X.s₀.heap.objs.size<=b)/\b≠X.env.locals/\(∀ x c,X.env.cells.lookup x=some c->c≠b)/\∀ p∈X.pn++pins,p.1≠b)
   (keep:∀ b o,b≠X.env.locals->b∉X.fs->b∉ch->s.heap.get? b=some o->H b=none->h'.get? b=some o)
   (slot:∀ b o,b≠X.env.locals->b∈X.fs->b∉ch->s.heap.get? b=some o->H b=none->∃ sl,h'.get? b=some { o with slots:=sl }) (free:∀ b o,b∉ch->s.heap.get? b=some o->H b=none->H' b=none)
   (there:∀ b o,b∉ch->s.heap.get? b=some o->∃ o',h'.get? b=some o')
   (tups:∀ b xs,H b=some (.tup xs)->H' b=some (.tup xs)) (frzs:∀ b o u,H b=some (.frz o u)->H' b=some (.frz o u)) (tbls:∀ b ps,H b=some (.tbl ps)->∃ more,H' b=some (.tbl (ps++more)))
   (ns:∀ m,s.heap.Ns X.env.locals m->h'.Ns X.env.locals m) (hok:HOk X.prog X.w H' h') (hg:EJ g') :
   Inv X pins Z H' { s with heap:=h',gens:=g',drawn:=d',toks:=t' }:=by
 have neL:∀ b o,X.s₀.heap.get? b=some o->b≠X.env.locals:=fun b o e=>xU (xB (xA e) I.ok.above);have neC:∀ b o,X.s₀.heap.get? b=some o->b∉X.ex->b∉ch:=fun b o e hx hb=>by
   rcases (hch b hb).1 with z | z
   . exact hx z
   . exact absurd (xB (xA e) z) (j7 _)
 have cellK:∀ x c,X.env.cells.lookup x=some c->∀ v,s.heap.IsCell c v->h'.IsCell c v:=fun x c e v hZ4=>by
   obtain ⟨o,ho,hd⟩:=hZ4; have nch:c∉ch:=fun z=>(hch c z).2.2.1 x c e rfl;by_cases hc:c∈X.fs
   . obtain ⟨sl,q⟩:=slot c o (I.cne x c e) hc nch ho (I.freeC x c e)
     exact ⟨_,q,hd⟩
   . exact ⟨o,keep c o (I.cne x c e) hc nch ho (I.freeC x c e),hd⟩
 refine ⟨I.ok,I.os,hg,⟨fun b o e n hb hx=>?_,fun b o e n hb hx=>?_,fun b o e n hx=>?_,fun b o e hx=>?_,fun b xs e=>tups b xs (I.base.tups b xs e),fun b o xs e=>frzs b o xs (I.base.frzs b o xs e),fun b ps e=>?_⟩,?_,fun x c e=>?_,?_,fun x c e=>?_,fun p hp=>?_,hok,I.len⟩
 . exact keep b o (neL b o e) hb (neC b o e hx) (I.base.keep b o e n hb hx) (I.base.free b o e n hx)
 . obtain ⟨sl,e1⟩:=I.base.slot b o e n hb hx
   obtain ⟨sl',e2⟩:=slot b _ (neL b o e) hb (neC b o e hx) e1 (I.base.free b o e n hx); exact ⟨sl',e2⟩
 . obtain ⟨o',e1⟩:=I.base.there b o e hx
   exact free b o' (neC b o e hx) e1 (I.base.free b o e n hx)
 . obtain ⟨o',e1⟩:=I.base.there b o e hx
   exact there b o' (neC b o e hx) e1
 . obtain ⟨m1,e1⟩:=I.base.tbls b ps e
   obtain ⟨m2,e2⟩:=tbls b _ e1; exact ⟨m1++m2,by rw [e2,Array.append_assoc]⟩
 . obtain ⟨m,hn,hl⟩:=I.loc
   refine ⟨m,ns m hn,fun i x v e1 e2 e3=>?_⟩;obtain ⟨u,r,l⟩:=hl i x v e1 e2 e3; refine ⟨u,r,?_⟩; rcases l with l | ⟨k,c,e,z⟩
   . exact .inl l
   . exact .inr ⟨k,c,e,cellK x c e _ z⟩
 . obtain ⟨v,z⟩:=I.cell x c e
   exact ⟨v,cellK x c e v z⟩
 . obtain ⟨m,⟨o,_,_,ho,_⟩,_⟩:=I.loc
   exact free _ o (fun z=>(hch _ z).2.1 rfl) ho I.free
 . obtain ⟨v,o,ho,hd⟩:=I.cell x c e
   exact free c o (fun z=>(hch c z).2.2.1 x c e rfl) ho (I.freeC x c e)
 . obtain ⟨e,n,ne,nf,d⟩:=I.pin p hp
   have nch:p.1∉ch:=fun z=>(hch p.1 z).2.2.2 p hp rfl;exact ⟨keep p.1 p.2 ne nf nch e n,free p.1 p.2 nch e n,ne,nf,d⟩
theorem Inv.un {t':Nat} (I:Inv X pins Z H s) (u:Un X.fs [] H H' s.heap h') (hok:HOk X.prog X.w H' h'):Inv X pins Z H' { s with heap:=h',toks:=t' }:=by
 obtain ⟨m,⟨o,es,ep,ho,r⟩,_⟩:=id I.loc;obtain ⟨sl,hL⟩:=u.any ho I.free (by simp);exact I.step (g':=s.gens) (d':=s.drawn) (ch:=[]) (fun _ z=>nomatch z) (fun b o _ hb _ e n=>u.keep b o e n hb (by simp)) (fun b o _ hb _ e n=>u.slot b o e n hb (by simp)) (fun b o _ e n=>u.free b o e n (by simp)) (fun b o _ e=>u.there b o e (by simp)) u.tups u.frzs u.tbls (fun m' hm=>by
   obtain ⟨o',es',ep',ho',r'⟩:=hm; rw [ho] at ho'; cases ho'; exact ⟨_,es',ep',hL,r'⟩) hok I.bare
theorem Inv.call {g':Array GenState} {t':Nat} {d':Drawn} {ch:List wR} (I:Inv X pins Z H s) (u:Un (frs X.stack) ch H H' s.heap h') (hok:HOk X.prog X.w H' h') (hg:EJ g')
   (hch:∀ b∈ch,(b∈X.ex\/X.s₀.heap.objs.size<=b)/\b≠X.env.locals/\(∀ x c,X.env.cells.lookup x=some c->c≠b)/\∀ p∈X.pn++pins,p.1≠b) :
   Inv X pins Z H' { s with heap:=h',gens:=g',drawn:=d',toks:=t' }:=by
 obtain ⟨m,⟨o,es,ep,ho,r⟩,_⟩:=id I.loc;obtain ⟨sl,hL⟩:=u.any ho I.free fun z=>(hch _ z).2.1 rfl;exact I.step (ch:=ch) hch (fun b o hL hb hc e n=>u.keep b o e n (fun z=>(wK.mp (I.stkSub b z)).elim hL hb) hc) (fun b o _ _ hc e n=>u.any e n hc) (fun b o hc e n=>u.free b o e n hc) (fun b o hc e=>u.there b o e hc) u.tups u.frzs u.tbls (fun m' hm=>by
   obtain ⟨o',es',ep',ho',r'⟩:=hm; rw [ho] at ho'; cases ho'; exact ⟨_,es',ep',hL,r'⟩) hok hg
theorem Inv.turned {t':Nat} {it:wR} (I:Inv X pins Z H s) (k:∀ b o,b≠it->s.heap.get? b=some o->h'.get? b=some o) (hn:H it=none) (hL:it≠X.env.locals)
   (h1:it∈X.ex\/X.s₀.heap.objs.size<=it) (h2:∀ x c,X.env.cells.lookup x=some c->c≠it) (h3:∀ p∈X.pn++pins,p.1≠it):Inv X pins Z H { s with heap:=h',toks:=t' }:=by
 have nit:∀ b u,H b=some u->b≠it:=fun b u e z=>by rw [z,hn] at e; cases e
 refine I.step (g':=s.gens) (d':=s.drawn) (ch:=[it]) (fun b hb=>?_) (fun b o _ _ hc e _=>k b o (fun z=>hc (by simp [z])) e) (fun b o _ _ hc e _=>⟨o.slots,k b o (fun z=>hc (by simp [z])) e⟩) (fun _ _ _ _ n=>n)
   (fun b o hc e=>⟨o,k b o (fun z=>hc (by simp [z])) e⟩) (fun _ _ e=>e) (fun _ _ _ e=>e) (fun b ps e=>⟨#[],by rw [e]; simp⟩) (fun m hm=>?_) (fun b u e=>?_) I.bare
 . have e:b=it:=by simpa using hb
   subst e; exact ⟨h1,hL,h2,h3⟩
 . obtain ⟨o,es,ep,ho,r⟩:=hm
   exact ⟨o,es,ep,k _ o (Ne.symm hL) ho,r⟩
 . refine (I.hok b u e).stay (fun c v hc q=>k c v ?_ q) (fun _ q=>q) fun _ _ q=>q
   rcases hc with z | z
   . rw [z]; exact nit b u e
   . exact nit c _ z
theorem Inv.tok (I:Inv X pins Z H s) (t:Nat):Inv X pins Z H { s with toks:=t }:=I.un (h':=s.heap) (t':=t) Un.refl I.hok
theorem Inv.kept {t':Nat} (I:Inv X pins Z H s) (k:∀ b u,s.heap.get? b=some u->h'.get? b=some u):Inv X pins Z H { s with heap:=h',toks:=t' }:=I.un (Un.kept k) (I.hok.kept k)
theorem Inv.laid {a:wR} {o:HO} {t':Nat} (I:Inv X pins Z H s) (k:∀ b u,s.heap.get? b=some u->h'.get? b=some u) (hp:s.heap.objs.size<=a) (new:ObjOk X.prog X.w (upd H a o) h' a o) :
   Inv X pins Z (upd H a o) { s with heap:=h',toks:=t' }:=I.un (Un.laid k hp (I.hok.fresh hp)) (I.hok.laid k hp new)
theorem Inv.write {x e:wR} {o:HO} {t':Nat} (I:Inv X pins Z H s) (mu:Mut (H x)) (he:e=x\/H e=some (.own x)) (k:∀ b u,b≠e->s.heap.get? b=some u->h'.get? b=some u) (heo:∃ u,h'.get? e=some u)
   (new:ObjOk X.prog X.w (upd H x o) h' x o):Inv X pins Z (upd H x o) { s with heap:=h',toks:=t' }:=I.un (Un.write mu he k heo) (I.hok.write mu he k heo new)
theorem Inv.weak {Z':List (Option V)} (I:Inv X pins Z H s) (hl:Z'.length=Z.length) (w:∀ (i:Nat) v,Z'[i]? = some (some v)->Z[i]? = some (some v)):Inv X pins Z' H s :=
 ⟨I.ok,I.os,I.bare,I.base,let ⟨m,hn,hl'⟩:=I.loc; ⟨m,hn,fun i x v e1 e2 e3=>hl' i x v e1 (w i v e2) e3⟩,I.cell,I.free,I.freeC,I.pin,I.hok,hl.trans I.len⟩
theorem Inv.pins_of {pins':List (wR×Obj)} (I:Inv X pins Z H s) (h:∀ p∈pins',s.heap.get? p.1=some p.2/\H p.1=none/\p.1≠X.env.locals/\p.1∉X.fs/\∀ v,p.2.data≠.cell v):Inv X pins' Z H s :=
 ⟨I.ok,I.os,I.bare,I.base,I.loc,I.cell,I.free,I.freeC,fun p hp=>(wY.mp hp).elim (fun z=>I.pin p (ED _ z)) (h p),I.hok,I.len⟩
theorem Xp {N:List Str} (hN:N.Nodup) {i j:Nat} {x:Str} (a:N[i]? = some x) (b:N[j]? = some x):i=j:=by
 obtain ⟨h1,e1⟩:=xM.mp a;obtain ⟨h2,e2⟩:=xM.mp b;exact (List.getElem_inj hN).mp (e1.trans e2.symm)
theorem Rn {M:Model} {A:yS} {E:wI->wJ->Prop} {i:Nat} {x:Str} {v:V} {u:wI} {Q:Unit->wJ->Prop} (I:Inv X pins Z H s) (hN:X.N.Nodup) (hi:X.N[i]? = some x) (hx:Loc X.env.scope x) (r:RelV v u)
   (h:∀ s',Inv X pins (Z.set i (some v)) H s'->(∃ a,k9 a s.heap s'.heap/\(a=X.env.locals\/X.env.cells.lookup x=some a))->Q () s') (hf:X.fn x=true\/X.env.scope.names.lookup x=some .local:=by first | exact .inl rfl | exact .inr rfl | assumption):wpAny M A (storeName X.env x u) Q E s:=by
 obtain ⟨m,hn,hl⟩:=id I.loc;have hcls:(X.env.scope.kind==.class||(X.env.scope.kind==.module&&X.env.locals != X.env.globals))=false:=by rw [I.ok.kind]; rfl
 have hiσ:i < Z.length:=by rw [I.len]; exact (xM.mp hi).1
 have cne:=I.cne;have tracked:∀ {a:wR} {h':yQ},(∃ o,s.heap.get? a=some o/\H a=none)->k9 a s.heap h'->HOk X.prog X.w H h':=fun {a h'} ha hs b ob e=>by
   obtain ⟨_,_,hfree⟩:=ha; refine (I.hok b ob e).stay (fun c w' hc q=>(hs.2 c ?_).trans q) (fun _ q=>q) fun _ _ q=>q;rintro rfl;rcases hc with rfl | hc
   . rw [hfree] at e; cases e
   . rw [hfree] at hc; cases hc
 rcases hx with hk | hk
 . refine wpAny_storeName_local hk hn (fun h' hn' hs=>?_) hcls
   obtain ⟨oL,_,_,hoL,_⟩:=id hn; refine h _ ⟨I.ok,I.os,I.bare,⟨fun b o e n hb hx=>?_,fun b o e n hb hx=>?_,I.base.free,fun b o e hx=>?_,I.base.tups,I.base.frzs,I.base.tbls⟩,⟨_,hn',fun j y v' e1 e2 e3=>?_⟩,fun y c e=>?_,I.free,I.freeC,fun p hp=>?_,tracked ⟨oL,hoL,I.free⟩ hs,by simpa using I.len⟩ ⟨_,hs,.inl rfl⟩
   . exact (hs.2 b (xU (xB (xA e) I.ok.above))).trans (I.base.keep b o e n hb hx)
   . obtain ⟨sl,e1⟩:=I.base.slot b o e n hb hx
     exact ⟨sl,(hs.2 b (xU (xB (xA e) I.ok.above))).trans e1⟩
   . obtain ⟨o',e1⟩:=I.base.there b o e hx
     exact ⟨o',(hs.2 b (xU (xB (xA e) I.ok.above))).trans e1⟩
   . by_cases hj:j=i
     . subst hj
       rw [hi] at e1; cases e1;rw [HU hiσ] at e2; cases e2; exact ⟨u,r,.inl ⟨hk,by simp⟩⟩
     . rw [BR (Ne.symm hj)] at e2
       obtain ⟨u',r',q⟩:=hl j y v' e1 e2 e3; refine ⟨u',r',?_⟩; rcases q with ⟨k,e⟩ | ⟨k,c,e,z⟩
       . refine .inl ⟨k,?_⟩
         have:y≠x:=fun e=>hj (Xp hN e1 (e▸hi));simp [this,e]
       . exact .inr ⟨k,c,e,z.sameBut hs (cne y c e)⟩
   . obtain ⟨w',z⟩:=I.cell y c e
     exact ⟨w',z.sameBut hs (cne y c e)⟩
   . obtain ⟨e,n,ne,nf,d⟩:=I.pin p hp
     exact ⟨(hs.2 p.1 ne).trans e,n,ne,nf,d⟩
 . have hfn : X.fn x = true := by
     rcases hf with z | z
     . exact z
     . rw [z] at hk; cases hk
   obtain ⟨c,hc⟩:=I.ok.has x (.inl hk); obtain ⟨w',z⟩:=I.cell x c hc; refine wpAny_storeName_cell I.ok.kind hk hc z (fun h' hc' hs=>?_);obtain ⟨oc,hoc,hocd⟩:=id z; refine h { s with heap:=h' } ⟨I.ok,I.os,I.bare,⟨fun b o e n hb hx=>?_,fun b o e n hb hx=>?_,I.base.free,fun b o e hx=>?_,I.base.tups,I.base.frzs,I.base.tbls⟩,⟨m,hn.sameBut hs (Ne.symm (cne x c hc)),fun j y v' e1 e2 e3=>?_⟩,fun y c' e=>?_,I.free,I.freeC,fun p hp=>?_,tracked ⟨oc,hoc,I.freeC x c hc⟩ hs,by simpa using I.len⟩ ⟨c,hs,.inr hc⟩
   . exact (hs.2 b (xU (xB (xA e) (I.ok.cab x c hfn hc)))).trans (I.base.keep b o e n hb hx)
   . obtain ⟨sl,e1⟩:=I.base.slot b o e n hb hx
     exact ⟨sl,(hs.2 b (xU (xB (xA e) (I.ok.cab x c hfn hc)))).trans e1⟩
   . obtain ⟨o',e1⟩:=I.base.there b o e hx
     exact ⟨o',(hs.2 b (xU (xB (xA e) (I.ok.cab x c hfn hc)))).trans e1⟩
   . by_cases hj:j=i
     . subst hj
       rw [hi] at e1; cases e1;rw [HU hiσ] at e2; cases e2; exact ⟨u,r,.inr ⟨.inl hk,c,hc,hc'⟩⟩
     . rw [BR (Ne.symm hj)] at e2
       obtain ⟨u',r',q⟩:=hl j y v' e1 e2 e3; refine ⟨u',r',?_⟩; rcases q with q | ⟨k,c',e,z'⟩
       . exact .inl q
       . refine .inr ⟨k,c',e,z'.sameBut hs ?_⟩
         rintro rfl;exact hj (Xp hN e1 (I.ok.inj _ _ _ e hc▸hi))
   . by_cases hcc:c'=c
     . subst hcc; exact ⟨_,hc'⟩
     . obtain ⟨w2,z2⟩:=I.cell y c' e
       exact ⟨w2,z2.sameBut hs hcc⟩
   . obtain ⟨e,n,ne,nf,d⟩:=I.pin p hp
     refine ⟨(hs.2 p.1 ?_).trans e,n,ne,nf,d⟩; intro q; rw [q,hoc] at e; have q':oc=p.2:=yM e; exact d w' (by rw [<- q']; exact hocd)
theorem Vy {M:Model} {A:yS} {E:wI->wJ->Prop} {i:Nat} {x:Str} {v:V} {u:wI} {Q:Unit->wJ->Prop} (I:Inv X pins Z H s) (hN:X.N.Nodup) (hi:X.N[i]? = some x) (hx:Loc X.env.scope x) (r:RelV v u)
   (h:∀ s',Inv X pins (Z.set i (some v)) H s'->Q () s') (hf:X.fn x=true\/X.env.scope.names.lookup x=some .local:=by first | exact .inl rfl | exact .inr rfl | assumption):wpAny M A (storeName X.env x u) Q E s :=
 Rn I hN hi hx r (fun s' I' _=>h s' I') hf
theorem Inv.call' {s':wJ} {ch:List wR} (I:Inv X pins Z H s) (ho:s'.os=s.os) (u:Un (frs X.stack) ch H H' s.heap s'.heap) (hok:HOk X.prog X.w H' s'.heap) (hg:EJ s'.gens)
   (hch:∀ b∈ch,(b∈X.ex\/X.s₀.heap.objs.size<=b)/\b≠X.env.locals/\(∀ x c,X.env.cells.lookup x=some c->c≠b)/\∀ p∈X.pn++pins,p.1≠b):Inv X pins Z H' s':=by
 obtain ⟨h',g',d',t',o'⟩:=s';have e:o'=s.os:=ho;subst e;exact I.call (g':=g') (t':=t') (d':=d') u hok hg hch
end
abbrev XK:=wI->Option wR->Hp->Prop
abbrev St:=List (Option V)
abbrev VK:=V->Hp->Prop
abbrev TE:=St->Hp->VK->Prop
abbrev TT:=St->Hp->(Bool->Hp->Prop)->Prop
abbrev TA:=St->Hp->(List V->Hp->Prop)->Prop
structure Ends where
 nx:St->Hp->Prop
 rt:VK
 bk:St->Hp->Prop:=fun _ _=>False
 ct:St->Hp->Prop:=fun _ _=>False
abbrev TS:=Ends->St->Hp->Prop
def EP (X:Cx) (pins:List (wR×Obj)) (Z:St) (Q:VK) (u:wI) (s':wJ):Prop:=∃ v H',Inv X pins Z H' s'/\RelV v u/\Q v H'
def TP (X:Cx) (pins:List (wR×Obj)) (Z:St) (Q:Bool->Hp->Prop) (b:Bool) (s':wJ):Prop:=∃ H',Inv X pins Z H' s'/\Q b H'
def AP (X:Cx) (pins:List (wR×Obj)) (Z:St) (Q:List V->Hp->Prop) (us:List wI) (s':wJ):Prop:=∃ vs H',Inv X pins Z H' s'/\Vals vs us/\Q vs H'
def SP (X:Cx) (pins:List (wR×Obj)) (D:Ends) (f:Flow) (s':wJ):Prop :=
 match f with
 | .next=>∃ Z' H',Inv X pins Z' H' s'/\D.nx Z' H'
 | .brk=>∃ Z' H',Inv X pins Z' H' s'/\D.bk Z' H'
 | .cont=>∃ Z' H',Inv X pins Z' H' s'/\D.ct Z' H'
 | .ret u=>∃ v Z' H',Inv X pins Z' H' s'/\RelV v u/\D.rt v H'
def PE (X:Cx) (e:Expr) (t:TE):Prop :=
 ∀ (pins:List (wR×Obj)) (s:wJ) (Z:St) (H:Hp) (Q:VK),Inv X pins Z H s->t Z H Q->wpAny (xH X.prog X.w) X.A (eval e X.env) (EP X pins Z Q) X.xe s
def PT (X:Cx) (e:Expr) (t:TT):Prop :=
 ∀ (pins:List (wR×Obj)) (s:wJ) (Z:St) (H:Hp) (Q:Bool->Hp->Prop),Inv X pins Z H s->t Z H Q->wpAny (xH X.prog X.w) X.A (isTrue e X.env (eval e X.env)) (TP X pins Z Q) X.xe s
def PW (X:Cx) (e:Expr) (t:TT):Prop :=
 ∀ (whole:Sem wI) (pins:List (wR×Obj)) (s:wJ) (Z:St) (H:Hp) (Q:Bool->Hp->Prop),Inv X pins Z H s->t Z H Q->wpAny (xH X.prog X.w) X.A (isTrue e X.env whole) (TP X pins Z Q) X.xe s
theorem PW.pt {X:Cx} {e:Expr} {t:TT} (h:PW X e t):PT X e t:=h _
def PA (X:Cx) (es:List Expr) (t:TA):Prop :=
 ∀ (pos:Pos) (pins:List (wR×Obj)) (s:wJ) (Z:St) (H:Hp) (Q:List V->Hp->Prop),Inv X pins Z H s->t Z H Q->wpAny (xH X.prog X.w) X.A (spliced (zY pos (wU es X.env))) (AP X pins Z Q) X.xe s
def PS (X:Cx) (st:n8) (t:TS):Prop :=
 ∀ (pins:List (wR×Obj)) (s:wJ) (Z:St) (H:Hp) (D:Ends),Inv X pins Z H s->t D Z H->wpAny (xH X.prog X.w) X.A (exec st X.env) (SP X pins D) X.xe s
def PSs (X:Cx) (st:List n8) (t:TS):Prop :=
 ∀ (pins:List (wR×Obj)) (s:wJ) (Z:St) (H:Hp) (D:Ends),Inv X pins Z H s->t D Z H->wpAny (xH X.prog X.w) X.A (execs st X.env) (SP X pins D) X.xe s
theorem thn {α:Type} {t:Sem α} {Q Q':α->wJ->Prop} {M:Model} {A:yS} {E:wI->wJ->Prop} {s:wJ} (h:wpAny M A t Q E s) (hQ:∀ a s,Q a s->Q' a s):wpAny M A t Q' E s:=zM h hQ fun _ _ x=>x
end L2
namespace L2
open PySem PySem.Spec PyProof.Rows
section
variable {X:Cx}
def nC (i:Nat):TE:=fun Z H Q=>∃ v,Z[i]? = some (some v)/\Q v H
def tC (v:V):TE:=fun _ H Q=>Q v H
theorem aJ {i:Nat} {x:Str} {pos:Pos} (hN:X.N[i]? = some x) (hv:Vis X.env.scope x) (hd:(x==("__debug__" : Str))=false:=by decide) (hcd:(x==("__classdict__" : Str))=false:=by decide):PE X (.Name x pos) (nC i):=by
 intro pins s Z H Q I h;obtain ⟨v,e,h⟩:=h;obtain ⟨m,hn,hl⟩:=I.loc;obtain ⟨u,r,l⟩:=hl i x v hN e hv;have fin:EP X pins Z Q u s:=⟨v,H,I,r,h⟩;rcases l with ⟨hk,hm⟩ | ⟨hk,c,hc,hcell⟩
 . exact wpAny_Name (wpAny_loadName_local I.ok.kind hk hn hm fin) hd
 . rcases hk with hk | hk
   . exact wpAny_Name (wpAny_loadName_cell I.ok.kind hk hc hcell fin) hd
   . exact wpAny_Name (wpAny_loadName_free I.ok.kind hk hc hcell fin hcd) hd
theorem tY {i j pos}:PE X (.Constant (.int i) j pos) (tC (.int i)):=fun _ _ _ H _ I h=>wpAny_Constant_int ⟨.int i,H,I.tok _,⟨_,rfl⟩,h⟩
theorem pe_bl {b j pos}:PE X (.Constant (.bool b) j pos) (tC (.bl b)):=fun _ _ _ H _ I h=>Constant_bool ⟨.bl b,H,I,rfl,h⟩
theorem tW {j pos}:PE X (.Constant .none j pos) (tC .non):=fun _ _ _ H _ I h=>Constant_none ⟨.non,H,I,rfl,h⟩
theorem jS {x j pos}:PE X (.Constant (.str x) j pos) (tC (.str x)):=fun _ _ _ H _ I h=>Calls.Constant_str ⟨.str x,H,I.tok _,⟨_,rfl⟩,h⟩
def Gl (X:Cx) (x:Str):Prop:=X.env.kindOf x=some .globalImplicit
theorem cX {E:wI->wJ->Prop} {pins:List (wR×Obj)} {s:wJ} {Z:St} {H:Hp} {x:Str} {u:wI} {pos:Pos} {Q:wI->wJ->Prop} (I:Inv X pins Z H s) (hg:Gl X x) (hm:X.mg x=some u) (h:Q u s)
   (hd:(x==("__debug__" : Str))=false:=by decide):wpAny (xH X.prog X.w) X.A (eval (.Name x pos) X.env) Q E s :=
 GP I.ok.kind hg (Calls.loadGlobal_global (by rw [I.ok.glob]; exact I.mod.glob.keeps I.bk) hm h) hd
theorem Oi {E:wI->wJ->Prop} {pins:List (wR×Obj)} {s:wJ} {Z:St} {H:Hp} {x:Str} {u:wI} {pos:Pos} {Q:wI->wJ->Prop} (I:Inv X pins Z H s) (hg:Gl X x) (hm:X.mg x=none) (hv:AH x=some u) (h:Q u s)
   (hn:x ≠ "__name__" := by decide) (hd:(x==("__debug__" : Str))=false:=by decide):wpAny (xH X.prog X.w) X.A (eval (.Name x pos) X.env) Q E s:=by
 obtain ⟨mb,h1,h2⟩:=I.mod.blt;exact GP I.ok.kind hg (Calls.loadGlobal_builtin (by rw [I.ok.glob]; exact I.mod.glob.keeps I.bk) hm (by rw [I.ok.blt]; exact h1.keeps I.bk) ((h2 x hn).trans hv) h) hd
theorem oM {x:Str} {v:V} {u:wI} {pos:Pos} (hg:Gl X x) (hm:X.mg x=some u) (r:RelV v u) (hd:(x==("__debug__" : Str))=false:=by decide):PE X (.Name x pos) (tC v) :=
 fun _ _ _ H _ I h=>cX I hg hm ⟨v,H,I,r,h⟩ hd
variable {a b:Expr} {ta tb:TE} {pos:Pos}
def PC (X:Cx) (op:l0) (a b:Expr) (t:TE):Prop :=
 ∀ (pins:List (wR×Obj)) (s:wJ) (Z:St) (H:Hp) (Q:VK),Inv X pins Z H s->t Z H Q ->
   wpAny (xH X.prog X.w) X.A (eval a X.env) (fun v s₁=>wpAny (xH X.prog X.w) X.A (eval b X.env) (fun u s₂=>wpAny (xH X.prog X.w) X.A (zR op v u) (EP X pins Z Q) X.xe s₂) X.xe s₁) X.xe s
theorem Xq (b:Expr) {op:l0} (h:op≠.In) (h2:op≠.NotIn):behindInMarks op b=false:=by
 have e1:(op==CmpOp.In)=false:=by cases op <;> first | rfl | exact absurd rfl h
 have e2:(op==CmpOp.NotIn)=false:=by cases op <;> first | rfl | exact absurd rfl h2
 cases b <;> simp [behindInMarks,e1,e2]
def tIsN (ta:TE):TE:=fun Z H Q=>ta Z H fun x H1=>Q (.bl (decide (x=.non))) H1
theorem RelV.none_iff {x:V} {v:wI} (r:RelV x v):(v==a8)=decide (x=.non):=by
 cases x with
 | non=>cases r; rfl
 | bl _=>cases r; rfl
 | int _=>obtain ⟨t,rfl⟩:=r; rfl
 | str _=>obtain ⟨t,rfl⟩:=r; rfl
 | byt _=>obtain ⟨t,rfl⟩:=r; rfl
 | flt _=>obtain ⟨t,rfl⟩:=r; rfl
 | ref _=>cases r; rfl
 | ty _=>cases r; rfl
theorem uD {j pos'} (ha:PE X a ta):PC X .Is a (.Constant .none j pos') (tIsN ta):=by
 intro pins s Z H Q I h;refine thn (ha pins s Z H _ I h) fun v s1 hZ2=>?_;obtain ⟨x,H1,I1,r1,q1⟩:=hZ2;exact Constant_none (is_none_gen ⟨.bl _,H1,I1,by rw [r1.none_iff]; rfl,q1⟩)
def tB (t:TE):TT:=fun Z H Q=>t Z H fun x H1=>∃ c,x=.bl c/\Q c H1
theorem jZ {op:l0} {t:TE} (h:PC X op a b t) (h1:behindInMarks op b=false:=by first | exact Xq _ (by decide) (by decide) | rfl):PE X (.Compare a [op] [b] pos) t:=fun pins s Z H Q I hw=>wpAny_Compare1 (h pins s Z H Q I hw) h1
theorem tP {op:l0} {t:TE} (h:PC X op a b t) (h1:behindInMarks op b=false:=by first | exact Xq _ (by decide) (by decide) | rfl):PT X (.Compare a [op] [b] pos) (tB t):=by
 intro pins s Z H Q I hw;refine wpAny_isTrue_Compare1 (thn (h pins s Z H _ I hw) fun v s1 h1=>thn h1 fun u s2 h2=>thn h2 fun c s3 hY1=>?_) h1;obtain ⟨x,H1,I1,r1,q1⟩:=hY1;obtain ⟨d,rfl,q⟩:=q1;cases r1;exact i4 ⟨H1,I1,q⟩
variable {tA tB':TT} {L3:List Expr}
def tAnd (t u:TT):TT:=fun Z H Q=>t Z H fun c H1=>if c=true then u Z H1 Q else Q false H1
def tOr (t u:TT):TT:=fun Z H Q=>t Z H fun c H1=>if c=true then Q true H1 else u Z H1 Q
def tNot (t:TT):TT:=fun Z H Q=>t Z H fun c H1=>Q (!c) H1
theorem nZ (ha:PT X a tA):PW X (.BoolOp .And [a] pos) tA:=by
 intro wh pins s Z H Q I h;refine isTrue_and (thn (ha pins s Z H Q I h) fun c s1 e=>?_);cases c with
 | true=>exact isTrue_and_nil e
 | false=>exact e
theorem tK (ha:PT X a tA):PW X (.BoolOp .Or [a] pos) tA:=by
 intro wh pins s Z H Q I h;refine isTrue_or (thn (ha pins s Z H Q I h) fun c s1 e=>?_);cases c with
 | false=>exact isTrue_or_nil e
 | true=>exact e
theorem tL (ha:PT X a tA) (hb:PW X (.BoolOp .And (b::L3) pos) tB'):PW X (.BoolOp .And (a::b::L3) pos) (tAnd tA tB'):=by
 intro wh pins s Z H Q I h;refine isTrue_and (thn (ha pins s Z H _ I h) fun c s1 hZ2=>?_);obtain ⟨H1,I1,q1⟩:=hZ2;cases c with
 | true=>exact hb wh pins s1 Z H1 Q I1 q1
 | false=>exact ⟨H1,I1,q1⟩
theorem pw_or (ha:PT X a tA) (hb:PW X (.BoolOp .Or (b::L3) pos) tB'):PW X (.BoolOp .Or (a::b::L3) pos) (tOr tA tB'):=by
 intro wh pins s Z H Q I h;refine isTrue_or (thn (ha pins s Z H _ I h) fun c s1 hZ2=>?_);obtain ⟨H1,I1,q1⟩:=hZ2;cases c with
 | true=>exact ⟨H1,I1,q1⟩
 | false=>exact hb wh pins s1 Z H1 Q I1 q1
theorem tM (ha:PT X a tA):PT X (.UnaryOp .Not a pos) (tNot tA):=by
 intro pins s Z H Q I h;exact isTrue_not (ha pins s Z H (fun c H1=>Q (!c) H1) I h)
def tAndV (ta tb:TE):TE:=fun Z H Q=>ta Z H fun x H1=>∃ c,x=.bl c/\if c=true then tb Z H1 Q else Q (.bl false) H1
def tOrV (ta tb:TE):TE:=fun Z H Q=>ta Z H fun x H1=>∃ c,x=.bl c/\if c=true then Q (.bl true) H1 else tb Z H1 Q
theorem tV {op} {t:TE} (h:PE X a t):PE X (.BoolOp op [a] pos) t:=fun pins s Z H Q I hw=>BoolOp_one (h pins s Z H Q I hw)
theorem uA (ha:PE X a ta) (hb:PE X (.BoolOp .And (b::L3) pos) tb):PE X (.BoolOp .And (a::b::L3) pos) (tAndV ta tb):=by
 intro pins s Z H Q I h;refine BoolOp_and (thn (ha pins s Z H _ I h) fun v s1 hZ2=>?_);obtain ⟨x,H1,I1,r1,q1⟩:=hZ2;obtain ⟨c,rfl,q1⟩:=q1;cases r1;refine i4 ?_;cases c with
 | true=>exact hb pins s1 Z H1 Q I1 q1
 | false=>exact ⟨.bl false,H1,I1,rfl,q1⟩
theorem pe_or (ha:PE X a ta) (hb:PE X (.BoolOp .Or (b::L3) pos) tb):PE X (.BoolOp .Or (a::b::L3) pos) (tOrV ta tb):=by
 intro pins s Z H Q I h;refine BoolOp_or (thn (ha pins s Z H _ I h) fun v s1 hZ2=>?_);obtain ⟨x,H1,I1,r1,q1⟩:=hZ2;obtain ⟨c,rfl,q1⟩:=q1;cases r1;refine i4 ?_;cases c with
 | false=>exact hb pins s1 Z H1 Q I1 q1
 | true=>exact ⟨.bl true,H1,I1,rfl,q1⟩
def tIf (t:TT) (ta tb:TE):TE:=fun Z H Q=>t Z H fun c H1=>if c=true then ta Z H1 Q else tb Z H1 Q
theorem jW {c:Expr} (hc:PT X c tA) (ha:PE X a ta) (hb:PE X b tb):PE X (.IfExp c a b pos) (tIf tA ta tb):=by
 intro pins s Z H Q I h;refine wpAny_IfExp (thn (hc pins s Z H _ I h) fun d s1 hZ2=>?_);obtain ⟨H1,I1,q1⟩:=hZ2;cases d with
 | true=>exact ha pins s1 Z H1 Q I1 q1
 | false=>exact hb pins s1 Z H1 Q I1 q1
end
end L2
namespace L2
open PySem PySem.Spec PyProof.Rows
def SqL (K:wM) (H:Hp) (a:wR) (xs:List V):Prop :=
 Rd H a (.lst xs) \/
   ∃ (o:Obj) (its:Array wI) (n:Nat),K.lookup a=some o/\o.cls=.type "list" /\ o.dict=none/\o.data=.seq its n/\its.size<=sizeLine/\Vals xs its.toList
def SqT (K:wM) (H:Hp) (a:wR) (xs:List V):Prop :=
 Rd H a (.tup xs) \/
   ∃ (o:Obj) (its:Array wI) (n:Nat),K.lookup a=some o/\o.cls=.type "tuple" /\ o.data=.seq its n/\its.size<=sizeLine/\Vals xs its.toList
def absV:wI->Option V
 | .none=>some .non
 | .bool b=>some (.bl b)
 | .int i _=>some (.int i)
 | .str x _=>some (.str x)
 | .bytes b _=>some (.byt b)
 | .float b _=>some (.flt b)
 | .ref a=>some (.ref a)
 | .type n=>some (.ty n)
 | _=>none
theorem RelV.abs {x:V} {u:wI} (r:RelV x u):absV u=some x:=by
 cases x with
 | non=>cases r; rfl
 | bl _=>cases r; rfl
 | int _=>obtain ⟨t,rfl⟩:=r; rfl
 | str _=>obtain ⟨t,rfl⟩:=r; rfl
 | byt _=>obtain ⟨t,rfl⟩:=r; rfl
 | flt _=>obtain ⟨t,rfl⟩:=r; rfl
 | ref _=>cases r; rfl
 | ty _=>cases r; rfl
theorem RelV.inj {x y:V} {u:wI} (r:RelV x u) (q:RelV y u):x=y:=yM (r.abs.symm.trans q.abs)
theorem Vals.inj {xs:List V}:∀ {ys:List V} {us:List wI},Vals xs us->Vals ys us->xs=ys:=by
 induction xs with
 | nil=>intro ys us h q; cases h; cases q; rfl
 | cons x xs ih=>intro ys us h q; cases h with | cons r t=>cases q with | cons r' t'=>rw [r.inj r',ih t t']
section
variable {X:Cx} {pins:List (wR×Obj)} {Z:St} {H:Hp} {s:wJ} {a:wR} {xs ys:List V}
theorem Inv.list (I:Inv X pins Z H s) (h:SqL X.K H a xs):∃ its:List wI,Vals xs its/\PlainL s.heap a its.toArray/\xs.length<=sizeLine:=by
 rcases h with h | ⟨o,its,n,hk,hc,hd,hs,hz,r⟩
 . obtain ⟨z,its,n,r,e⟩:=h.ok I.hok
   exact ⟨its,r,⟨_,n,e,rfl,rfl,rfl⟩,z⟩
 . refine ⟨its.toList,r,⟨o,n,I.kIn a o hk,hc,hd,by simpa using hs⟩,?_⟩
   have e:=r.length; simp only [yI] at e;lia
theorem Inv.tuple (I:Inv X pins Z H s) (h:SqT X.K H a xs):∃ its:List wI,Vals xs its/\ES s.heap a its.toArray/\xs.length<=sizeLine:=by
 rcases h with h | ⟨o,its,n,hk,hc,hs,hz,r⟩
 . obtain ⟨z,its,r,p⟩:=h.ok I.hok
   exact ⟨its,r,p,z⟩
 . refine ⟨its.toList,r,⟨o,I.kIn a o hk,hc,n,by simpa using hs⟩,?_⟩
   have e:=r.length; simp only [yI] at e;lia
theorem Inv.list_inj (I:Inv X pins Z H s) (h:SqL X.K H a xs) (h':SqL X.K H a ys):xs=ys:=by
 obtain ⟨its,r,⟨o,n,e,_,_,d⟩,_⟩:=I.list h;obtain ⟨its',r',⟨o',n',e',_,_,d'⟩,_⟩:=I.list h';rw [e] at e'; cases e';rw [d] at d';injection d' with d1 _
 have:its=its':=by simpa using congrArg HN d1
 subst this;exact r.inj r'
theorem Inv.tuple_inj (I:Inv X pins Z H s) (h:SqT X.K H a xs) (h':SqT X.K H a ys):xs=ys:=by
 obtain ⟨its,r,⟨o,e,_,n,d⟩,_⟩:=I.tuple h;obtain ⟨its',r',⟨o',e',_,n',d'⟩,_⟩:=I.tuple h';rw [e] at e'; cases e';rw [d] at d';injection d' with d1 _
 have:its=its':=by simpa using congrArg HN d1
 subst this;exact r.inj r'
end
abbrev Cx.wish (X:Cx) (E:wI->wJ->Prop):Cx:={ X with xe:=E }
abbrev Cx.nox (X:Cx):Cx:=X.wish fun _ _=>False
theorem Cx.Ok.wish {X:Cx} (ok:X.Ok) (E:wI->wJ->Prop):(X.wish E).Ok :=
 ⟨ok.mod,ok.kind,ok.glob,ok.blt,ok.above,ok.inj,ok.has,ok.cab,ok.hd,ok.frames,ok.stk,ok.exf,ok.bs,ok.bsz,ok.noex,ok.exfs,ok.funs,ok.frf⟩
theorem Cx.Ok.unwish {X:Cx} {E:wI->wJ->Prop} (ok:(X.wish E).Ok):X.Ok :=
 ⟨ok.mod,ok.kind,ok.glob,ok.blt,ok.above,ok.inj,ok.has,ok.cab,ok.hd,ok.frames,ok.stk,ok.exf,ok.bs,ok.bsz,ok.noex,ok.exfs,ok.funs,ok.frf⟩
section
variable {X:Cx} {pins:List (wR×Obj)} {Z:St} {H:Hp} {s:wJ} {E:wI->wJ->Prop}
theorem Inv.wish (I:Inv X pins Z H s) (E:wI->wJ->Prop):Inv (X.wish E) pins Z H s:=⟨I.ok.wish E,I.os,I.bare,I.base,I.loc,I.cell,I.free,I.freeC,I.pin,I.hok,I.len⟩
theorem Inv.unwish (I:Inv (X.wish E) pins Z H s):Inv X pins Z H s:=⟨I.ok.unwish,I.os,I.bare,I.base,I.loc,I.cell,I.free,I.freeC,I.pin,I.hok,I.len⟩
theorem SP.unwish {D:Ends} {f:Flow} {s':wJ} (h:SP (X.wish E) pins D f s'):SP X pins D f s':=by
 cases f with
 | next=>obtain ⟨Z',H',I,q⟩:=h; exact ⟨Z',H',I.unwish,q⟩
 | brk=>obtain ⟨Z',H',I,q⟩:=h; exact ⟨Z',H',I.unwish,q⟩
 | cont=>obtain ⟨Z',H',I,q⟩:=h; exact ⟨Z',H',I.unwish,q⟩
 | ret u=>obtain ⟨v,Z',H',I,r,q⟩:=h; exact ⟨v,Z',H',I.unwish,r,q⟩
theorem PSs.nox {st:List n8} {t:TS} (h:PSs X.nox st t):PSs X st t:=fun pins s Z H D I hw =>
 zM (h pins s Z H D (I.wish _) hw) (fun _ _ q=>q.unwish) fun _ _ z=>y3 z
end
section
variable {X:Cx} {st:n8} {L3:List n8} {t u:TS} {e:Expr} {te:TE} {pos:Pos}
def tNext:TS:=fun D Z H=>D.nx Z H
def tSeq (t u:TS):TS:=fun D Z H=>t { D with nx:=u D } Z H
theorem cG:PSs X [] tNext:=fun _ _ Z H _ I h=>EL ⟨Z,H,I,h⟩
theorem Xh (h1:PS X st t) (h2:PSs X L3 u):PSs X (st::L3) (tSeq t u):=by
 intro pins s Z H D I h;refine wpAny_execs_cons (thn (h1 pins s Z H { D with nx:=u D } I h) fun f s1 q=>?_);cases f with
 | next =>
   obtain ⟨Z',H',I',q⟩:=q; exact h2 pins s1 Z' H' D I' q
 | ret v=>exact q
 | brk=>exact q
 | cont=>exact q
theorem Lq (h1:PS X st t):PSs X [st] t:=by
 intro pins s Z H D I h;refine wpAny_execs_cons (thn (h1 pins s Z H D I h) fun f s1 q=>?_);cases f with
 | next=>exact EL q
 | ret v=>exact q
 | brk=>exact q
 | cont=>exact q
theorem Inv.quiet {pins:List (wR×Obj)} {Z:St} {H:Hp} {s:wJ} (I:Inv X pins Z H s):interactive X.env=false:=by simp [interactive,I.ok.kind]
def tDrop (te:TE):TS:=fun D Z H=>te Z H fun _ H1=>D.nx Z H1
theorem Ua (he:PE X e te) (hs:m7 e none pos.line X.env=pure false:=by rfl):PS X (.Expr e pos) (tDrop te):=by
 intro pins s Z H D I h;exact wpAny_Expr_any (thn (he pins s Z H _ I h) fun v s1 hZ2=>by obtain ⟨x,H1,I1,r1,q1⟩:=hZ2; exact ⟨Z,H1,I1,q1⟩) I.quiet hs
def tRet (te:TE):TS:=fun D Z H=>te Z H D.rt
theorem jO (he:PE X e te):PS X (.Return (some e) pos) (tRet te):=by
 intro pins s Z H D I h;exact wpAny_Return_some (thn (he pins s Z H _ I h) fun v s1 hZ2=>by obtain ⟨x,H1,I1,r1,q1⟩:=hZ2; exact ⟨x,Z,H1,I1,r1,q1⟩)
def tIfS (c:TT) (t u:TS):TS:=fun D Z H=>c Z H fun b H1=>if b=true then t D Z H1 else u D Z H1
theorem rR {c:Expr} {a b:List n8} {tc:TT} (hc:PT X c tc) (ha:PSs X a t) (hb:PSs X b u):PS X (.If c a b pos) (tIfS tc t u):=by
 intro pins s Z H D I h;refine wpAny_If (thn (hc pins s Z H _ I h) fun d s1 hZ2=>?_);obtain ⟨H1,I1,q1⟩:=hZ2;cases d with
 | true=>exact ha pins s1 Z H1 D I1 q1
 | false=>exact hb pins s1 Z H1 D I1 q1
end
abbrev TG:=V->St->Hp->(St->Hp->Prop)->Prop
abbrev TGs:=List V->St->Hp->(St->Hp->Prop)->Prop
def PG (X:Cx) (target:Expr) (t:TG):Prop :=
 ∀ (pins:List (wR×Obj)) (s:wJ) (Z:St) (H:Hp) (v:V) (u:wI) (Q:St->Hp->Prop),Inv X pins Z H s->RelV v u->t v Z H Q ->
   wpAny (xH X.prog X.w) X.A (FK target X.env u) (fun _ s'=>∃ Z' H',Inv X pins Z' H' s'/\Q Z' H') X.xe s
def PGs (X:Cx) (ts:List Expr) (t:TGs):Prop :=
 ∀ (pins:List (wR×Obj)) (s:wJ) (Z:St) (H:Hp) (vs:List V) (us:List wI) (Q:St->Hp->Prop),Inv X pins Z H s->Vals vs us->t vs Z H Q ->
   wpAny (xH X.prog X.w) X.A (assignInOrder ((CT ts X.env).map (·.2)) us) (fun _ s'=>∃ Z' H',Inv X pins Z' H' s'/\Q Z' H') X.xe s
abbrev wC:=V->V->V->Hp->(Hp->Prop)->Prop
def PSet (X:Cx) (t:wC):Prop :=
 ∀ (pins:List (wR×Obj)) (s:wJ) (Z:St) (H:Hp) (o i v:V) (ov iv u:wI) (Q:Hp->Prop),Inv X pins Z H s->RelV o ov->RelV i iv->RelV v u->t o i v H Q ->
   wpAny (xH X.prog X.w) X.A (setItem ov iv u) (fun _ s'=>∃ H',Inv X pins Z H' s'/\Q H') X.xe s
section
variable {X:Cx} {pos:Pos}
def U0 (i:Nat):TG:=fun v Z H Q=>Q (Z.set i (some v)) H
theorem U5 {i:Nat} {x:Str} (hN:X.N.Nodup) (hi:X.N[i]? = some x) (hx:Loc X.env.scope x) (hf:X.fn x=true\/X.env.scope.names.lookup x=some .local:=by first | exact .inl rfl | exact .inr rfl | assumption):PG X (.Name x pos) (U0 i):=by
 intro pins s Z H v u Q I r h;exact wpAny_assign_Name (Vy I hN hi hx r (fun s' I'=>⟨_,H,I',h⟩) hf)
def lO:TGs:=fun vs Z H Q=>vs=[]/\Q Z H
def Im (t:TG) (u:TGs):TGs:=fun vs Z H Q=>∃ v r,vs=v::r/\t v Z H fun Z' H'=>u r Z' H' Q
theorem Ub:PGs X [] lO:=by
 intro pins s Z H vs us Q I r h;obtain ⟨e,h⟩:=h;subst e;cases r;exact assignInOrder_nil ⟨Z,H,I,h⟩
theorem Cp {e:Expr} {es:List Expr} {t:TG} {u:TGs} (h1:PG X e t) (h2:PGs X es u)
   (hs:(CT (e::es) X.env).map (·.2)=FK e X.env::(CT es X.env).map (·.2):=by rfl):PGs X (e::es) (Im t u):=by
 intro pins s Z H vs us Q I r h;obtain ⟨v,vr,e1,h⟩:=h;subst e1;cases r with
 | cons r rr =>
   rw [hs]; refine assignInOrder_cons (thn (h1 pins s Z H _ _ _ I r h) fun _ s1 hZ2=>?_);obtain ⟨Z1,H1,I1,q1⟩:=hZ2; exact h2 pins s1 Z1 H1 _ _ Q I1 rr q1
def lN (K:wM) (n:Nat) (t:TGs):TG:=fun v Z H Q=>∃ a xs,v=.ref a/\SqT K H a xs/\xs.length=n/\t xs Z H Q
theorem aI {es:List Expr} {k:Nat} {t:TGs} {n:Nat} (hc:X.calm=true) (h:PGs X es t)
   (hn:(CT es X.env).length=n:=by rfl) (hst:(CT es X.env).findIdx? (·.1)=none:=by rfl):PG X (.Tuple es k pos) (lN X.K n t):=by
 intro pins s Z H v u Q I r hw;obtain ⟨a,xs,e1,hq,hl,hw⟩:=hw;subst e1;cases r;obtain ⟨its,rv,ht,hz⟩:=I.tuple hq;refine assign_Tuple_tuple (I.ok.hd hc) ht (by simp [hn,<- hl,rv.length]) hst fun h' hx=>?_;have I1:Inv X pins Z H { s with heap:=h' }:=I.kept (t':=s.toks) fun b o e=>hx b o (xU (xA e)) e;exact h pins _ Z H xs _ Q I1 (by simpa using rv) hw
def gSub (to ti:TE) (t:wC):TG:=fun v Z H Q=>to Z H fun o H1=>ti Z H1 fun i H2=>t o i v H2 fun H3=>Q Z H3
theorem tR {o i:Expr} {to ti:TE} {t:wC} (ho:PE X o to) (hi:PE X i ti) (hs:PSet X t)
   (ha:∀ v,FK (.Subscript o i pos) X.env v=(do
     let ov <- holding [v] (eval o X.env)
     let iv <- holding [v,ov] (eval i X.env)
     standAt pos
     holding [v,ov,iv] (setItem ov iv v)
     release [v,ov,iv] []):=by intro _; rfl):PG X (.Subscript o i pos) (gSub to ti t):=by
 intro pins s Z H v u Q I r h;rw [ha];refine wG (yR (thn (ho pins s Z H _ I h) fun ov s1 hZ2=>?_));obtain ⟨x,H1,I1,r1,q1⟩:=hZ2;refine wG (yR (thn (hi pins s1 Z H1 _ I1 q1) fun iv s2 hZ2=>?_));obtain ⟨y,H2,I2,r2,q2⟩:=hZ2;refine wG (wpAny_standAt (wG (yR (thn (hs pins s2 Z H2 x y v ov iv u _ I2 r1 r2 r q2) fun _ s3 hZ2=>?_))));obtain ⟨H3,I3,q3⟩:=hZ2;exact wpAny_release ⟨Z,H3,I3,q3⟩
def sQ (te:TE) (g:TG):TS:=fun D Z H=>te Z H fun x H1=>g x Z H1 D.nx
theorem tQ {tg e:Expr} {te:TE} {g:TG} (he:PE X e te) (hg:PG X tg g) (hs:swapsWithSole [tg] e pos.line X.env=pure false:=by rfl) (hw:swappedStores [tg] e X.env=pure none:=by rfl)
   (h1:(CT [tg] X.env).map (·.2)=[FK tg X.env]:=by rfl):PS X (.Assign [tg] e pos) (sQ te g):=by
 intro pins s Z H D I h;refine wpAny_Assign_stores (thn (he pins s Z H _ I h) fun v s1 hY3=>?_) hs hw;obtain ⟨x,H1,I1,r1,q1⟩:=hY3;rw [h1];exact thn (hg pins s1 Z H1 x v _ I1 r1 q1) fun _ s2 q=>q
theorem Ob {i:Nat} {x:Str} {e:Expr} {te:TE} {pos':Pos} (hN:X.N.Nodup) (hi:X.N[i]? = some x) (hx:Loc X.env.scope x) (he:PE X e te) (hs:m7 e (some (.Name x pos')) pos.line X.env=pure false:=by rfl) (hf:X.fn x=true\/X.env.scope.names.lookup x=some .local:=by first | exact .inl rfl | exact .inr rfl | assumption) :
   PS X (.Assign [.Name x pos'] e pos) (sQ te (U0 i)):=by
 intro pins s Z H D I h;refine wpAny_Assign_Name (thn (he pins s Z H _ I h) fun v s1 hY4=>?_) hs;obtain ⟨y,H1,I1,r1,q1⟩:=hY4;exact Vy I1 hN hi hx r1 (fun s2 I2=>⟨_,H1,I2,q1⟩) hf
end
section
variable {X:Cx} {pos:Pos}
def sL (c:TT) (tb:TS):TS:=fun D Z H=>∃ W:Nat->St->Hp->Prop,(∃ m,W m Z H)/\∀ m Z H,W m Z H ->
 c Z H fun b H1=>if b=true then ∃ N:St->Hp->Prop,(∀ Z' H',N Z' H'->∃ m',m' < m/\W m' Z' H')/\tb { D with nx:=N,ct:=N,bk:=D.nx } Z H1 else D.nx Z H1
theorem jN {c:Expr} {body:List n8} {tc:TT} {tb:TS} (hp:PassesOwn (xH X.prog X.w) X.A X.env X.xe) (hc:PT X c tc) (hb:PSs X body tb):PS X (.While c body [] pos) (sL tc tb):=by
 intro pins s Z H D I h;obtain ⟨W,⟨m0,w0⟩,turn⟩:=h;refine wpAny_While (codeAny_whileLoop (fun n s'=>∃ Z' H',Inv X pins Z' H' s'/\W n Z' H') ?_ m0 ⟨Z,H,I,w0⟩);rintro n s1 ⟨Z1,H1,I1,w1⟩;refine x5 hp (thn (hc pins s1 Z1 H1 _ I1 (turn n Z1 H1 w1)) fun b s2 hZ2=>?_);obtain ⟨H2,I2,q2⟩:=hZ2;cases b with
 | true =>
   obtain ⟨N,hN,q2⟩:=q2; rw [if_pos rfl]; refine x5 hp (thn (hb pins s2 Z1 H2 _ I2 q2) fun f s3 q3=>?_);cases f with
   | next =>
     obtain ⟨Z3,H3,I3,n3⟩:=q3; obtain ⟨m',hm,w3⟩:=hN Z3 H3 n3; exact ⟨m',hm,Z3,H3,I3,w3⟩
   | cont =>
     obtain ⟨Z3,H3,I3,n3⟩:=q3; obtain ⟨m',hm,w3⟩:=hN Z3 H3 n3; exact ⟨m',hm,Z3,H3,I3,w3⟩
   | brk=>exact q3
   | ret v=>exact q3
 | false =>
   rw [if_neg j0]; exact EL ⟨Z1,H2,I2,q2⟩
end
structure It where
 go:Nat->Hp->Prop
 yld:Nat->Hp->V->Hp->Prop
 stop:Nat->Hp->Prop
def Re (X:Cx) (pins:List (wR×Obj)) (H:Hp) (b:wR):Prop :=
 H b=none/\b≠X.env.locals/\b∉X.fs/\(b∈X.ex\/X.s₀.heap.objs.size<=b)/\(∀ x c,X.env.cells.lookup x=some c->c≠b)/\∀ p∈X.pn++pins,p.1≠b
theorem Inv.fpOk {X:Cx} {pins:List (wR×Obj)} {Z:St} {H H':Hp} {s:wJ} {b:wR} (I:Inv X pins Z H s) (hb:s.heap.objs.size<=b) (hn:H' b=none):Re X pins H' b:=by
 refine ⟨hn,p6 (xB I.lt hb),I.nofs hb,.inr (xD I.sz hb),fun x c e z=>?_,fun p hp z=>?_⟩
 . obtain ⟨v,q⟩:=I.cell x c e
   exact absurd (xB q.lt (by rw [z]; exact hb)) (j7 _)
 . exact absurd (xB (xA (I.pin p hp).1) (by rw [z]; exact hb)) (j7 _)
structure Turn (P:xN) (w:xT) (K:wM) (tg:Expr) (J:It) (fp:List wR) (it:wR) (tn:Nat->yQ->Prop):Prop where
 mem:it∈fp
 obj:∀ i h,tn i h->∀ b∈fp,∃ o,h.get? b=some o/\∀ v,o.data≠.cell v
 keep:∀ i h h',tn i h->(∀ b∈fp,∀ o,h.get? b=some o->h'.get? b=some o)->tn i h'
 item:∀ (X:Cx),X.prog=P->X.w=w->X.K=K->X.calm=true->∀ (i:Nat) (pins:List (wR×Obj)) (s:wJ) (Z:St) (H:Hp) (E:wI->wJ->Prop),Inv X pins Z H s->(∀ b∈fp,Re X pins H b)->tn i s.heap->J.go i H ->
   wpAny (xH P w) X.A (pyNext (.ref it)) (fun r s1=>∃ u,r=some u /\
     wpAny (xH P w) X.A (EM tg (.ref it) u) (fun _ s2=>∃ x H',Inv X pins Z H' s2/\RelV x u/\J.yld i H x H'/\tn (i+1) s2.heap/\∀ b∈fp,H' b=none) E s1) E s
 done:∀ (X:Cx),X.prog=P->X.w=w->X.K=K->X.calm=true->∀ (i:Nat) (pins:List (wR×Obj)) (s:wJ) (Z:St) (H:Hp) (E:wI->wJ->Prop),Inv X pins Z H s->(∀ b∈fp,Re X pins H b)->tn i s.heap->J.stop i H ->
   wpAny (xH P w) X.A (pyNext (.ref it)) (fun r s1=>r=none/\Inv X pins Z H s1) E s
 self:∀ (A:yS) (i:Nat) (s:wJ) (Q:wI->wJ->Prop) (E:wI->wJ->Prop),tn i s.heap->Q (.ref it) s->wpAny (xH P w) A (GX (.ref it)) Q E s
abbrev TI:=St->Hp->(It->Hp->Prop)->Prop
def PIE (X:Cx) (pins:List (wR×Obj)) (Z:St) (tg:Expr) (R:It->Hp->Prop) (itv:wI) (s2:wJ):Prop :=
 ∃ (it:wR) (fp:List wR) (tn:Nat->yQ->Prop) (J:It) (H':Hp),itv=.ref it/\Inv X pins Z H' s2/\Turn X.prog X.w X.K tg J fp it tn/\tn 0 s2.heap/\(∀ b∈fp,Re X pins H' b)/\R J H'
def PI (X:Cx) (tg iter:Expr) (wi:TI):Prop :=
 ∀ (pins:List (wR×Obj)) (s:wJ) (Z:St) (H:Hp) (R:It->Hp->Prop),Inv X pins Z H s->wi Z H R ->
   wpAny (xH X.prog X.w) X.A (eval iter X.env) (fun v s1=>wpAny (xH X.prog X.w) X.A (GX v) (PIE X pins Z tg R) X.xe s1) X.xe s
theorem Sn {M:Model} {A:yS} {E:wI->wJ->Prop} {s:wJ} {tg:Expr} {it:wR} {u:wI} {o:Obj} {n:String} {vs:Array wI} {Q:Unit->wJ->Prop} (ho:s.heap.get? it=some o) (hc:o.cls=.type n) (hd:o.data=.fields vs)
   (hn:["enumerate", "zip", "dict_itemiterator", "dict_reverseitemiterator", "odict_iterator", "itertools.zip_longest", "itertools.pairwise"].contains n=false) (hQ:Q () s):wpAny M A (EM tg (.ref it) u) Q E s:=by
 unfold EM;cases tg <;> first
   | exact wH hQ
   | (cases u <;> first
       | exact wH hQ
       | (refine wG (HY ho ?_)
          rw [hc,hd]; show wpAny M A (if (["enumerate", "zip", "dict_itemiterator", "dict_reverseitemiterator", "odict_iterator", "itertools.zip_longest", "itertools.pairwise"].contains n&&vs[0]? == some (y9 _))=true then _ else _) Q E s;rw [if_neg (by intro h; rw [hn,Bool.false_and] at h; cases h)];exact wH hQ))
def Itl (K:wM) (a:wR):It :=
 ⟨fun i H=>∃ xs x,SqL K H a xs/\xs[i]? = some x,fun i H x H'=>H'=H/\∀ xs,SqL K H a xs->xs[i]? = some x,fun i H=>∃ xs,SqL K H a xs/\xs.length<=i⟩
def Itt (K:wM) (a:wR):It :=
 ⟨fun i H=>∃ xs x,SqT K H a xs/\xs[i]? = some x,fun i H x H'=>H'=H/\∀ xs,SqT K H a xs->xs[i]? = some x,fun i H=>∃ xs,SqT K H a xs/\xs.length<=i⟩
def Itr (lo:Int) (n:Nat):It:=⟨fun i _=>i < n,fun i H x H'=>H'=H/\x=.int (lo+i),fun i _=>n<=i⟩
theorem eA {P:xN} {w:xT} {K:wM} {tg:Expr} (a it:wR):Turn P w K tg (Itl K a) [it] it (fun i h=>h.IsListIter it a i) where
 mem:=by simp
 obj:=fun i h st b hb=>by
   have e:b=it:=by simpa using hb
   subst e; obtain ⟨o,e,c,d⟩:=st; exact ⟨o,e,fun v z=>by rw [d] at z; cases z⟩
 keep:=fun i h h' st k=>st.at fun o e=>k it (by simp) o e
 item:=by
   intro X hP hw hK hc i pins s Z H E I hf st hg; subst hP hw hK; obtain ⟨xs,x,hq,hx⟩:=hg; obtain ⟨its,rv,p,hz⟩:=I.list hq; obtain ⟨u,hu,ru⟩:=rv.get hx; obtain ⟨f0,f1,f2,f3,f4,f5⟩:=hf it (by simp);refine wpAny_pyNext_list_item st p.isList (x:=u) (by simpa using hu) fun h' st' sb=>?_;have I1:Inv X pins Z H { s with heap:=h' }:=I.turned (t':=s.toks) (fun b o hb e=>(sb.2 b hb).trans e) f0 f1 f3 f4 f5;obtain ⟨o,e,c,d⟩:=id st'; exact ⟨u,rfl,Sn (s:={ s with heap:=h' }) e c d (by decide) ⟨x,H,I1,ru,⟨rfl,fun ys hy=>by rw [I.list_inj hy hq]; exact hx⟩,st',fun b hb=>(hf b hb).1⟩⟩
 done:=by
   intro X hP hw hK hc i pins s Z H E I hf st hg; subst hP hw hK; obtain ⟨xs,hq,hx⟩:=hg; obtain ⟨its,rv,p,hz⟩:=I.list hq; obtain ⟨f0,f1,f2,f3,f4,f5⟩:=hf it (by simp);have hl:=rv.length; exact wpAny_pyNext_list_end (I.ok.hd hc) st p.isList (by simp; lia) fun h' eb=>⟨rfl,I.turned (t':=s.toks) (fun b o hb e=>eb b o hb e) f0 f1 f3 f4 f5⟩
 self:=fun _ _ _ _ _ st h=>wpAny_pyIter_listiter st h
theorem Zs {P:xN} {w:xT} {K:wM} {tg:Expr} (a it:wR):Turn P w K tg (Itt K a) [it] it (fun i h=>h.IsTupleIter it a i) where
 mem:=by simp
 obj:=fun i h st b hb=>by
   have e:b=it:=by simpa using hb
   subst e; obtain ⟨o,e,c,d⟩:=st; exact ⟨o,e,fun v z=>by rw [d] at z; cases z⟩
 keep:=fun i h h' st k=>st.at fun o e=>k it (by simp) o e
 item:=by
   intro X hP hw hK hc i pins s Z H E I hf st hg; subst hP hw hK; obtain ⟨xs,x,hq,hx⟩:=hg; obtain ⟨its,rv,p,hz⟩:=I.tuple hq; obtain ⟨u,hu,ru⟩:=rv.get hx; obtain ⟨f0,f1,f2,f3,f4,f5⟩:=hf it (by simp);refine wpAny_pyNext_tuple_item st (show s.heap.IsTuple a its.toArray from p) (x:=u) (by simpa using hu) fun h' st' sb=>?_;have I1:Inv X pins Z H { s with heap:=h' }:=I.turned (t':=s.toks) (fun b o hb e=>(sb.2 b hb).trans e) f0 f1 f3 f4 f5;obtain ⟨o,e,c,d⟩:=id st'; exact ⟨u,rfl,Sn (s:={ s with heap:=h' }) e c d (by decide) ⟨x,H,I1,ru,⟨rfl,fun ys hy=>by rw [I.tuple_inj hy hq]; exact hx⟩,st',fun b hb=>(hf b hb).1⟩⟩
 done:=by
   intro X hP hw hK hc i pins s Z H E I hf st hg; subst hP hw hK; obtain ⟨xs,hq,hx⟩:=hg; obtain ⟨its,rv,p,hz⟩:=I.tuple hq; obtain ⟨f0,f1,f2,f3,f4,f5⟩:=hf it (by simp);have hl:=rv.length; exact wpAny_pyNext_tuple_end (I.ok.hd hc) st (show s.heap.IsTuple a its.toArray from p) (by simp; lia) fun h' eb=>⟨rfl,I.turned (t':=s.toks) (fun b o hb e=>eb b o hb e) f0 f1 f3 f4 f5⟩
 self:=fun _ _ _ _ _ st h=>wpAny_pyIter_tupleiter st h
theorem Zt {P:xN} {w:xT} {K:wM} {tg:Expr} (it:wR) (lo:Int) (n:Nat):Turn P w K tg (Itr lo n) [it] it (fun i h=>IsRangeIter h it (lo+(i:Nat)*1) ((n:Int) - (i:Nat)) 1) where
 mem:=by simp
 obj:=fun i h st b hb=>by
   have e:b=it:=by simpa using hb
   subst e; exact ⟨_,st,fun v z=>by
     have z':Data.fields _=Data.cell v:=z;cases z'⟩
 keep:=fun i h h' st k=>k it (by simp) _ st
 item:=by
   intro X hP hw hK hc i pins s Z H E I hf st hg; subst hP hw hK; obtain ⟨f0,f1,f2,f3,f4,f5⟩:=hf it (by simp);have W:=Walks.range (prog:=X.prog) (w:=X.w) (I.ok.hd hc) it lo 1 n; refine W.item i s _ _ hg st fun v h' tk hv st' kk=>?_;obtain ⟨t,rfl⟩:=hv; have I1:Inv X pins Z H { s with heap:=h',toks:=tk }:=I.turned (fun b o hb e=>kk b o (by simpa using hb) e) f0 f1 f3 f4 f5;refine ⟨_,rfl,Sn (s:={ s with heap:=h',toks:=tk }) (n := "range_iterator") st' rfl rfl (by decide) ⟨.int (lo+i),H,I1,⟨t,?_⟩,⟨rfl,rfl⟩,st',fun b hb=>(hf b hb).1⟩⟩;rw [Int.mul_one]
 done:=by
   intro X hP hw hK hc i pins s Z H E I hf st hg; subst hP hw hK; obtain ⟨f0,f1,f2,f3,f4,f5⟩:=hf it (by simp);exact wpAny_pyNext_range_end (I.ok.hd hc) st (by have:n<=i:=hg; lia) fun h' eb=>⟨rfl,I.turned (t':=s.toks) (fun b o hb e=>eb b o hb e) f0 f1 f3 f4 f5⟩
 self:=fun _ _ _ _ _ st h=>wpAny_pyIter_rangeiter st h
end L2
namespace L2
open PySem PySem.Spec PyProof.Rows
section
variable {X:Cx} {tg:Expr}
theorem jI {pins:List (wR×Obj)} {Z:St} {H:Hp} {s:wJ} {R:It->Hp->Prop} {E:wI->wJ->Prop} {lo hi:Int} {t u v:Tok} {tk:Nat} (I:Inv X pins Z H s) (h1 : -(2 ^ 62)<=lo) (h2:lo < 2 ^ 62) (h3 : -(2 ^ 62)<=hi) (h4:hi < 2 ^ 62)
   (q:R (Itr lo (hi - lo).toNat) H):wpAny (xH X.prog X.w) X.A (GX (.ref s.heap.objs.size)) (PIE X pins Z tg R) E { s with heap:=s.heap.push { cls:=.type "range",data:=.fields #[.int lo t,.int hi u,.int 1 v] },toks:=tk }:=by
 refine wpAny_pyIter_range (IsRange.new ..) (small_one h1 h2 h3 h4) ?_;have I1:Inv X pins Z H { s with heap:=s.heap.push { cls:=.type "range",data:=.fields #[.int lo t,.int hi u,.int 1 v] },toks:=tk }:=I.kept fun b o e=>wN _ e;refine ⟨(s.heap.push { cls:=.type "range",data:=.fields #[.int lo t,.int hi u,.int 1 v] }).objs.size,[(s.heap.push { cls:=.type "range",data:=.fields #[.int lo t,.int hi u,.int 1 v] }).objs.size],_,_,H,rfl,
   I1.kept (t':=tk) fun b o e=>wN _ e,Zt _ lo (hi - lo).toNat,?_,fun b hb=>?_,q⟩
 . have e1:lo+((0:Nat):Int)*1=lo:=by simp
   have e2:(((hi - lo).toNat:Nat):Int) - ((0:Nat):Int)=Builtin.Range.rangeSize lo hi 1:=by rw [rangeSize_one]; split <;> lia
   show IsRangeIter _ _ (lo+((0:Nat):Int)*1) ((((hi - lo).toNat:Nat):Int) - ((0:Nat):Int)) 1;rw [e1,e2]; exact wW _ rfl
 . have e:b=(s.heap.push { cls:=.type "range",data:=.fields #[.int lo t,.int hi u,.int 1 v] }).objs.size:=by simpa using hb
   subst e; exact I1.fpOk (wO _) (I1.hok.fresh (wO _))
def iRng1 (ta:TA):TI:=fun Z H R=>ta Z H fun vs H1=>∃ j:Int,vs=[.int j] /\ -(2 ^ 62)<=j/\j < 2 ^ 62/\R (Itr 0 j.toNat) H1
theorem fF {a:Expr} {ta:TA} {p pos:Pos} (hg:Gl X "range") (hm:X.mg "range" = none) (ha:PA X [a] ta) (hs:wU [a] X.env=[(false,eval a X.env)]:=by rfl):PI X tg (.Call (.Name "range" p) [a] [] pos) (iRng1 ta):=by
 intro pins s Z H R I h;refine Call_ (Oi I hg hm boot_range (o9 (thn (ha pos pins s Z H _ I h) fun us s1 hY6=>?_) hs rfl));obtain ⟨vs,H1,I1,r1,q1⟩:=hY6;obtain ⟨j,e,q1,q2,q⟩:=q1;subst e;cases r1 with
 | cons r rr =>
   cases rr; obtain ⟨t,rfl⟩:=r; exact call_range_1 (jI I1 (by lia) (by lia) q1 q2 (by simpa using q))
def tFor (wi:TI) (g:TG) (tb:TS):TS:=fun D Z H=>wi Z H fun J H1=>∃ W:Nat->Nat->St->Hp->Prop,(∃ m,W 0 m Z H1)/\∀ i m Z H,W i m Z H ->
 (J.stop i H/\D.nx Z H)\/(J.go i H/\∃ N:St->Hp->Prop,(∀ Z' H',N Z' H'->∃ m',m' < m/\W (i+1) m' Z' H')/\∀ x H',J.yld i H x H'->g x Z H' fun Z2 H2=>tb { D with nx:=N,ct:=N,bk:=D.nx } Z2 H2)
def Oc (fp:List wR) (h:yQ):List (wR×Obj):=fp.filterMap fun b=>(h.get? b).map fun o=>(b,o)
theorem Gp {fp:List wR} {h:yQ} {b:wR} {o:Obj} (hb:b∈fp) (e:h.get? b=some o):(b,o)∈Oc fp h:=FG.mpr ⟨b,hb,by rw [e]; rfl⟩
theorem fI {fp:List wR} {h:yQ} {p:wR×Obj} (hp:p∈Oc fp h):p.1∈fp/\h.get? p.1=some p.2:=by
 obtain ⟨b,hb,e⟩:=FG.mp hp;cases q:h.get? b with
 | none=>rw [q] at e; cases e
 | some o =>
   rw [q] at e; have e':(b,o)=p:=yM e; subst e'; exact ⟨hb,q⟩
theorem Inv.pinned {pins:List (wR×Obj)} {Z:St} {H:Hp} {s:wJ} {fp:List wR} (I:Inv X pins Z H s) (hf:∀ b∈fp,Re X pins H b) (ho:∀ b∈fp,∃ o,s.heap.get? b=some o/\∀ v,o.data≠.cell v):Inv X (pins++Oc fp s.heap) Z H s :=
 I.pins_of fun p hp=>(wY.mp hp).elim (fun z=>I.pin p (i8 _ z)) fun z=>by
   obtain ⟨hb,e⟩:=fI z; obtain ⟨f0,f1,f2,_⟩:=hf p.1 hb; obtain ⟨o,e',d⟩:=ho p.1 hb; rw [e] at e'; cases e'; exact ⟨e,f0,f1,f2,d⟩
theorem Inv.unpinned {pins pl:List (wR×Obj)} {Z:St} {H:Hp} {s:wJ} (I:Inv X (pins++pl) Z H s):Inv X pins Z H s:=I.pins_of fun p hp=>I.pin p (i8 _ (ED _ hp))
theorem jP {iter:Expr} {body:List n8} {wi:TI} {g:TG} {tb:TS} {pos:Pos} (hp:PassesOwn (xH X.prog X.w) X.A X.env X.xe) (hc:X.calm=true) (hi:PI X tg iter wi) (hg:PG X tg g) (hb:PSs X body tb)
   (hs:∀ x,zA iter X.env x=pure x:=by intro _; rfl):PS X (.For tg iter body [] pos) (tFor wi g tb):=by
 intro pins s Z H D I h;refine wpAny_For (thn (hi pins s Z H _ I h) fun v s1 h1=>thn h1 fun itv s2 h2=>?_) hs;obtain ⟨it,fp,tn,J,H2,e,I2,T,st2,f2,W,⟨m0,w0⟩,turn⟩:=h2;subst e;have stat:∀ {H':Hp},(∀ b∈fp,H' b=none)->∀ b∈fp,Re X pins H' b:=fun hn b hb=>⟨hn b hb,(f2 b hb).2⟩;refine codeAny_forLoop_any (fun n s'=>∃ i Z' H',Inv X pins Z' H' s'/\tn i s'.heap/\(∀ b∈fp,H' b=none)/\W i n Z' H') ?_ m0 ⟨0,Z,H2,I2,st2,fun b hb=>(f2 b hb).1,w0⟩;rintro n s3 ⟨i,Z3,H3,I3,st3,fr3,w3⟩;rcases turn i n Z3 H3 w3 with ⟨stop,qn⟩ | ⟨go,N,hN,step⟩
 . refine x5 hp (thn (T.done X rfl rfl rfl hc i pins s3 Z3 H3 X.xe I3 (stat fr3) st3 stop) fun r s4 hZ2=>?_)
   obtain ⟨hr,I4⟩:=hZ2; subst hr; exact EL ⟨Z3,H3,I4,qn⟩
 . refine x5 hp (thn (T.item X rfl rfl rfl hc i pins s3 Z3 H3 X.xe I3 (stat fr3) st3 go) fun r s4 hZ2=>?_)
   obtain ⟨u,hr,h4⟩:=hZ2; subst hr; refine x5 hp (thn h4 fun _ s5 hZ2=>?_);obtain ⟨x,H5,I5,r5,y5,st5,fr5⟩:=hZ2; have I5':=I5.pinned (stat fr5) (T.obj _ _ st5); refine x5 hp (thn (hg _ s5 Z3 H5 x u _ I5' r5 (step x H5 y5)) fun _ s6 hZ2=>?_);obtain ⟨Z6,H6,I6,q6⟩:=hZ2; refine x5 hp (thn (hb _ s6 Z6 H6 _ I6 q6) fun f s7 q7=>?_);have again:∀ {Z7:St} {H7:Hp},Inv X (pins++Oc fp s5.heap) Z7 H7 s7->N Z7 H7->∃ m,m < n/\∃ i Z' H',Inv X pins Z' H' s7/\tn i s7.heap/\(∀ b∈fp,H' b=none)/\W i m Z' H':=fun {Z7 H7} I7 n7=>by
     obtain ⟨m',hm,w7⟩:=hN Z7 H7 n7; refine ⟨m',hm,i+1,Z7,H7,I7.unpinned,T.keep _ _ _ st5 fun b hb o e=>(I7.pin (b,o) (i8 _ (i8 _ (Gp hb e)))).1,fun b hb=>?_,w7⟩;obtain ⟨o,e,d⟩:=T.obj _ _ st5 b hb; exact (I7.pin (b,o) (i8 _ (i8 _ (Gp hb e)))).2.1
   cases f with
   | next=>obtain ⟨Z7,H7,I7,n7⟩:=q7; exact again I7 n7
   | cont=>obtain ⟨Z7,H7,I7,n7⟩:=q7; exact again I7 n7
   | brk=>obtain ⟨Z7,H7,I7,q7⟩:=q7; exact ⟨Z7,H7,I7.unpinned,q7⟩
   | ret v=>obtain ⟨x7,Z7,H7,I7,r7,q7⟩:=q7; exact ⟨x7,Z7,H7,I7.unpinned,r7,q7⟩
end
end L2
namespace L2
open PySem PySem.Spec PyProof.Rows
abbrev R2:=V->V->Hp->VK->Prop
def OpR (X:Cx) (f:wI->wI->Sem wI) (r:R2):Prop :=
 ∀ (pins:List (wR×Obj)) (s:wJ) (Z:St) (H:Hp) (x y:V) (v u:wI) (Q:VK),Inv X pins Z H s->RelV x v->RelV y u->r x y H Q ->
   wpAny (xH X.prog X.w) X.A (f v u) (EP X pins Z Q) X.xe s
def UnR (X:Cx) (f:wI->Sem wI) (r:V->Hp->VK->Prop):Prop :=
 ∀ (pins:List (wR×Obj)) (s:wJ) (Z:St) (H:Hp) (x:V) (v:wI) (Q:VK),Inv X pins Z H s->RelV x v->r x H Q ->
   wpAny (xH X.prog X.w) X.A (f v) (EP X pins Z Q) X.xe s
def V0 (X:Cx) (f:wI) (r:List V->Hp->VK->Prop):Prop :=
 ∀ (pins:List (wR×Obj)) (s:wJ) (Z:St) (H:Hp) (xs:List V) (us:List wI) (Q:VK),Inv X pins Z H s->Vals xs us->r xs H Q ->
   wpAny (xH X.prog X.w) X.A (call f us) (EP X pins Z Q) X.xe s
def TruR (X:Cx) (r:V->Hp->(Bool->Hp->Prop)->Prop):Prop :=
 ∀ (pins:List (wR×Obj)) (s:wJ) (Z:St) (H:Hp) (x:V) (v:wI) (Q:Bool->Hp->Prop),Inv X pins Z H s->RelV x v->r x H Q ->
   wpAny (xH X.prog X.w) X.A (truthy v) (TP X pins Z Q) X.xe s
def tOp (r:R2) (ta tb:TE):TE:=fun Z H Q=>ta Z H fun x H1=>tb Z H1 fun y H2=>r x y H2 Q
def tUn (r:V->Hp->VK->Prop) (ta:TE):TE:=fun Z H Q=>ta Z H fun x H1=>r x H1 Q
def rI (C:Int->Int->Prop) (g:Int->Int->V):R2:=fun x y H Q=>∃ i j,x=.int i/\y=.int j/\C i j/\Q (g i j) H
def rI0 (g:Int->Int->V):R2:=fun x y H Q=>∃ i j,x=.int i/\y=.int j/\Q (g i j) H
def rU (g:Int->V):V->Hp->VK->Prop:=fun x H Q=>∃ i,x=.int i/\Q (g i) H
section
variable {X:Cx} {a b:Expr} {ta tb:TE} {pos:Pos}
theorem vX (ha:PE X a ta) (hb:PE X b tb) {pins:List (wR×Obj)} {s:wJ} {Z:St} {H:Hp} {R:V->V->Hp->Prop} (I:Inv X pins Z H s)
   (h:ta Z H fun x H1=>tb Z H1 fun y H2=>R x y H2) {Q:wI->wJ->Prop} {f:wI->wI->Sem wI}
   (hf:∀ v u s2 x y H2,Inv X pins Z H2 s2->RelV x v->RelV y u->R x y H2->wpAny (xH X.prog X.w) X.A (f v u) Q X.xe s2) :
   wpAny (xH X.prog X.w) X.A (eval a X.env) (fun v s₁=>wpAny (xH X.prog X.w) X.A (eval b X.env) (fun u s₂=>wpAny (xH X.prog X.w) X.A (f v u) Q X.xe s₂) X.xe s₁) X.xe s:=by
 refine thn (ha pins s Z H _ I h) fun v s1 hZ2=>?_;obtain ⟨x,H1,I1,r1,q1⟩:=hZ2;refine thn (hb pins s1 Z H1 _ I1 q1) fun u s2 hZ2=>?_;obtain ⟨y,H2,I2,r2,q2⟩:=hZ2;exact hf v u s2 x y H2 I2 r1 r2 q2
theorem pe_op {op:Operator} {r:R2} (ho:OpR X (DY op) r) (ha:PE X a ta) (hb:PE X b tb):PE X (.BinOp a op b pos) (tOp r ta tb):=by
 intro pins s Z H Q I h;exact wpAny_BinOp (vX ha hb I h fun v u s2 x y H2 I2 rx ry q=>ho pins s2 Z H2 x y v u Q I2 rx ry q)
theorem pe_un {op:UnaryOp} {r:V->Hp->VK->Prop} (ho:UnR X (unaryOp op) r) (ha:PE X a ta):PE X (.UnaryOp op a pos) (tUn r ta):=by
 intro pins s Z H Q I h;exact UnaryOp_ (thn (ha pins s Z H _ I h) fun v s1 hZ2=>by obtain ⟨x,H1,I1,r1,q1⟩:=hZ2; exact ho pins s1 Z H1 x v Q I1 r1 q1)
theorem opI {f:wI->wI->Sem wI} {C:Int->Int->Prop} {g:Int->Int->Int}
   (rule:∀ (i j:Int) (t u:Tok) (s:wJ) (Q:wI->wJ->Prop) (E:wI->wJ->Prop),C i j->Q (.int (g i j) s.toks) { s with toks:=s.toks+1 }->wpAny (xH X.prog X.w) X.A (f (.int i t) (.int j u)) Q E s) :
   OpR X f (rI C fun i j=>.int (g i j)):=by
 intro pins s Z H x y v u Q I rx ry h;obtain ⟨i,j,rfl,rfl,hc,q⟩:=h;obtain ⟨t,rfl⟩:=rx;obtain ⟨t',rfl⟩:=ry;exact rule i j t t' s _ _ hc ⟨.int (g i j),H,I.tok _,⟨_,rfl⟩,q⟩
theorem opI0 {f:wI->wI->Sem wI} {g:Int->Int->Int}
   (rule:∀ (i j:Int) (t u:Tok) (s:wJ) (Q:wI->wJ->Prop) (E:wI->wJ->Prop),Q (.int (g i j) s.toks) { s with toks:=s.toks+1 }->wpAny (xH X.prog X.w) X.A (f (.int i t) (.int j u)) Q E s) :
   OpR X f (rI0 fun i j=>.int (g i j)):=by
 intro pins s Z H x y v u Q I rx ry h;obtain ⟨i,j,rfl,rfl,q⟩:=h;obtain ⟨t,rfl⟩:=rx;obtain ⟨t',rfl⟩:=ry;exact rule i j t t' s _ _ ⟨.int (g i j),H,I.tok _,⟨_,rfl⟩,q⟩
def CDiv (i j:Int):Prop:=0 < j/\j < 1073741824
def CMul (i j:Int):Prop:=(-(2 ^ 64) < i/\i < 2 ^ 64)\/(-(2 ^ 64) < j/\j < 2 ^ 64)
theorem CMul.ok {i j:Int} (h:CMul i j):IntMulOk i j:=by
 rcases h with ⟨h1,h2⟩ | ⟨h1,h2⟩
 . exact .of_left (intBits_le_64 h1 h2)
 . exact .of_right (intBits_le_64 h1 h2)
theorem uE:OpR X (DY .Sub) (rI0 fun i j=>.int (i - j)):=opI0 fun _ _ _ _ _ _ _ q=>sub_int q
theorem oU:OpR X (DY .FloorDiv) (rI CDiv fun i j=>.int (i / j)):=opI fun i j _ _ _ _ _ hc q=>by
 have h1:(0:Int) < j:=hc.1;have h2:j < 1073741824:=hc.2;exact floordiv_int (by lia) (by rw [Int.fdiv_eq_ediv_of_nonneg i (by lia)]; exact q) (.inl (PyProof.noPylong_small (by lia)))
theorem uF:OpR X (DY .Mod) (rI (fun _ j=>0 < j) fun i j=>.int (i % j)):=opI fun i j _ _ _ _ _ hc q=>by
 have h1:(0:Int) < j:=hc;exact mod_int' (by lia) (by rw [Int.fmod_eq_emod_of_nonneg i (by lia)]; exact q)
theorem unI {f:wI->Sem wI} {g:Int->Int}
   (rule:∀ (i:Int) (t:Tok) (s:wJ) (Q:wI->wJ->Prop) (E:wI->wJ->Prop),Q (.int (g i) s.toks) { s with toks:=s.toks+1 }->wpAny (xH X.prog X.w) X.A (f (.int i t)) Q E s) :
   UnR X f (rU fun i=>.int (g i)):=by
 intro pins s Z H x v Q I rx h;obtain ⟨i,rfl,q⟩:=h;obtain ⟨t,rfl⟩:=rx;exact rule i t s _ _ ⟨.int (g i),H,I.tok _,⟨_,rfl⟩,q⟩
theorem sH:UnR X (unaryOp .USub) (rU fun i=>.int (-i)):=unI fun _ _ _ _ _ q=>neg_int q
end
section
variable {X:Cx} {a b c:Expr} {ta tb tc:TE} {pos:Pos}
theorem Di (b:Expr) {op:l0} (h:op≠.In:=by decide) (h2:op≠.NotIn:=by decide):behindInMarks op b=false:=by
 have e1:(op==CmpOp.In)=false:=by cases op <;> first | rfl | exact absurd rfl h
 have e2:(op==CmpOp.NotIn)=false:=by cases op <;> first | rfl | exact absurd rfl h2
 cases b <;> simp [behindInMarks,e1,e2]
theorem oO {op:l0} {r:R2} (ho:OpR X (zR op) r) (ha:PE X a ta) (hb:PE X b tb) (hm:behindInMarks op b=false):PE X (.Compare a [op] [b] pos) (tOp r ta tb):=by
 intro pins s Z H Q I h;exact wpAny_Compare1 (vX ha hb I h fun v u s2 x y H2 I2 rx ry q=>ho pins s2 Z H2 x y v u Q I2 rx ry q) hm
def rK (t:TE):TT:=fun Z H Q=>t Z H fun x H'=>∃ k,x=.bl k/\Q k H'
theorem oF {op:l0} {r:R2} (ho:OpR X (zR op) r) (ha:PE X a ta) (hb:PE X b tb) (hm:behindInMarks op b=false):PT X (.Compare a [op] [b] pos) (rK (tOp r ta tb)):=by
 intro pins s Z H Q I h;refine wpAny_isTrue_Compare1 (thn (ha pins s Z H _ I h) fun v s1 hY8=>?_) hm;obtain ⟨x,H1,I1,r1,q1⟩:=hY8;refine thn (hb pins s1 Z H1 _ I1 q1) fun u s2 hY9=>?_;obtain ⟨y,H2,I2,r2,q2⟩:=hY9;refine thn (ho pins s2 Z H2 x y v u _ I2 r1 r2 q2) fun c s3 hY10=>?_;obtain ⟨z,H3,I3,r3,k,e,q3⟩:=hY10;subst e;cases r3;exact i4 ⟨H3,I3,q3⟩
def sP (r r':R2) (ta tb tc:TE):TE:=fun Z H Q=>ta Z H fun x H1=>tb Z H1 fun y H2=>r x y H2 fun z H3=>∃ k,z=.bl k /\
 (if k=true then tc Z H3 fun w' H4=>r' y w' H4 Q else Q (.bl false) H3)
theorem jM {op op':l0} {r r':R2} (ho:OpR X (zR op) r) (ho':OpR X (zR op') r') (ha:PE X a ta) (hb:PE X b tb) (hc:PE X c tc)
   (hm:lastMarks [op,op'] [b,c]=false:=by with_unfolding_all rfl):PT X (.Compare a [op,op'] [b,c] pos) (rK (sP r r' ta tb tc)):=by
 intro pins s Z H Q I h;refine isTrue_chain (thn (ha pins s Z H _ I h) fun v s1 hY14=>?_) hm;obtain ⟨x,H1,I1,r1,q1⟩:=hY14;refine test_link (thn (hb pins s1 Z H1 _ I1 q1) fun u s2 hY15=>?_);obtain ⟨y,H2,I2,r2,q2⟩:=hY15;refine thn (ho pins s2 Z H2 x y v u _ I2 r1 r2 q2) fun d s3 hY16=>?_;obtain ⟨z,H3,I3,r3,k,e,q3⟩:=hY16;subst e;cases r3;refine i4 ?_;cases k with
 | false =>
   obtain ⟨k',e',q'⟩:=q3;cases e'; exact ite_ff ⟨H3,I3,q'⟩
 | true =>
   refine ite_tt (test_last (thn (hc pins s3 Z H3 _ I3 q3) fun w' s4 hY17=>?_));obtain ⟨z',H4,I4,r4,q4⟩:=hY17; refine thn (ho' pins s4 Z H4 y z' u w' _ I4 r2 r4 q4) fun d' s5 hZ2=>?_;obtain ⟨z2,H5,I5,r5,k2,e2,q5⟩:=hZ2; subst e2; cases r5; exact i4 ⟨H5,I5,q5⟩
def wA (K:wM) (x:V) (H:Hp) (k:Bool):Prop :=
 match x with
 | .non=>k=false
 | .bl b=>k=b
 | .int i=>k=(i != 0)
 | .str y=>y.length<=sizeLine/\k=((y.length:Int) != 0)
 | .byt y=>y.size<=sizeLine/\k=((y.size:Int) != 0)
 | .ref p=>(∃ xs,SqL K H p xs/\k = !xs.isEmpty)\/(∃ xs,SqT K H p xs/\k = !xs.isEmpty)\/∃ kvs,H p=some (.dK kvs)/\k = !kvs.isEmpty
 | _=>False
theorem aT {κ:Type} {kvs:List (κ×V)} {vs:List (κ×wI)} (r:KV kvs vs):(!vs.isEmpty) = !kvs.isEmpty:=by
 cases r <;> rfl
theorem Ol {xs:List V} {its:List wI} (r:Vals xs its):(!its.toArray.isEmpty) = !xs.isEmpty:=by
 cases r <;> simp
theorem Dk:(sizeLine:Nat) < 2 ^ 63:=by rw [n5]; decide
theorem sI:TruR X (fun x H Q=>∃ k,wA X.K x H k/\Q k H):=by
 intro pins s Z H x v Q I rx h;obtain ⟨k,e,q⟩:=h;have hl:=Dk;have hs:sizeLine=16777216:=n5;cases x with
 | non =>
   cases rx; have e':k=false:=e; subst e'; exact truthy_none ⟨H,I,q⟩
 | bl b =>
   cases rx; have e':k=b:=e; subst e'; exact i4 ⟨H,I,q⟩
 | int i =>
   obtain ⟨t,rfl⟩:=rx; have e':k=(i != 0):=e; subst e'; exact PySem.P.truthy_int ⟨H,I,q⟩
 | str y =>
   obtain ⟨t,rfl⟩:=rx; obtain ⟨hy,e'⟩:y.length<=sizeLine/\k=((y.length:Int) != 0):=e; subst e'; exact PySem.P.truthy_str (by lia) ⟨H,I.tok _,q⟩
 | byt y =>
   obtain ⟨t,rfl⟩:=rx; obtain ⟨hy,e'⟩:y.size<=sizeLine/\k=((y.size:Int) != 0):=e; subst e'; exact PySem.W.truthy_bytes (by lia) ⟨H,I.tok _,q⟩
 | ref p =>
   cases rx; have e':(∃ xs,SqL X.K H p xs/\k = !xs.isEmpty)\/(∃ xs,SqT X.K H p xs/\k = !xs.isEmpty)\/∃ kvs,H p=some (.dK kvs)/\k = !kvs.isEmpty:=e; rcases e' with ⟨xs,hx,e'⟩ | ⟨xs,hx,e'⟩ | ⟨kvs,hx,e'⟩
   . subst e'
     obtain ⟨its,r,pl,hz⟩:=I.list hx; have hlen:=r.length; exact wpAny_truthy_list pl.isList (by simp only [wZ]; lia) ⟨H,I.tok _,by rw [Ol r]; exact q⟩
   . subst e'
     obtain ⟨its,r,pl,hz⟩:=I.tuple hx; have hlen:=r.length; exact truthy_tuple pl (by simp only [wZ]; lia) ⟨H,I.tok _,by rw [Ol r]; exact q⟩
   . subst e'
     obtain ⟨hz,hS,vs,r,m⟩:kvs.length<=sizeLine/\(p==m8)=false/\∃ vs,KV kvs vs/\s.heap.DictOf (Uh X.prog X.w) p vs:=I.hok p _ hx; have hlen:kvs.length=vs.length:=Paired.length r; exact wpAny_truthy_dict hS m (by lia) ⟨H,I.tok _,by rw [aT r]; exact q⟩
 | _=>exact (show False from e).elim
theorem Xg (ha:PE X a ta) (he:∀ whole,isTrue a X.env whole=(do let v <- whole; standAt a.pos; holding [v] (truthy v))) :
   PT X a (fun Z H Q=>ta Z H fun x H'=>∃ k,wA X.K x H' k/\Q k H'):=by
 intro pins s Z H Q I h;exact isTrue_plain (thn (ha pins s Z H _ I h) fun v s1 hZ2=>by obtain ⟨x,H1,I1,r1,q1⟩:=hZ2; exact sI pins s1 Z H1 x v Q I1 r1 q1) (he _)
theorem Ri {x:V} {us:List wI} (r:Vals [x] us):∃ u,us=[u]/\RelV x u:=by
 cases r with
 | cons r1 r2=>cases r2; exact ⟨_,rfl,r1⟩
theorem rJ {x y:V} {us:List wI} (r:Vals [x,y] us):∃ u w',us=[u,w']/\RelV x u/\RelV y w':=by
 cases r with
 | cons r1 r2 =>
   cases r2 with
   | cons r3 r4=>cases r4; exact ⟨_,_,rfl,r1,r3⟩
theorem gP (hc:X.calm=true):V0 X (.builtin "max") (fun xs H Q=>∃ i j,xs=[.int i,.int j]/\Q (.int (if j>i then j else i)) H):=by
 intro pins s Z H xs us Q I r h;obtain ⟨i,j,rfl,q⟩:=h;obtain ⟨u,w',rfl,⟨t,rfl⟩,⟨t',rfl⟩⟩:=rJ r;refine max_two_ints (I.ok.hd hc) fun h' tk k=>⟨_,H,I.kept k,?_,q⟩;by_cases hj:j>i
 . rw [if_pos hj,if_pos hj]; exact ⟨_,rfl⟩
 . rw [if_neg hj,if_neg hj]; exact ⟨_,rfl⟩
theorem gO (hc:X.calm=true):V0 X (.builtin "min") (fun xs H Q=>∃ i j,xs=[.int i,.int j]/\Q (.int (if j < i then j else i)) H):=by
 intro pins s Z H xs us Q I r h;obtain ⟨i,j,rfl,q⟩:=h;obtain ⟨u,w',rfl,⟨t,rfl⟩,⟨t',rfl⟩⟩:=rJ r;refine min_two_ints (I.ok.hd hc) fun h' tk k=>⟨_,H,I.kept k,?_,q⟩;by_cases hj:j < i
 . rw [if_pos hj,if_pos hj]; exact ⟨_,rfl⟩
 . rw [if_neg hj,if_neg hj]; exact ⟨_,rfl⟩
theorem Sy:V0 X (.type "int") (fun xs H Q=>(∃ i,xs=[.int i]/\Q (.int i) H)\/∃ k,xs=[.bl k]/\Q (.int (if k then 1 else 0)) H):=by
 intro pins s Z H xs us Q I r h;rcases h with ⟨i,rfl,q⟩ | ⟨k,rfl,q⟩
 . obtain ⟨u,rfl,t,rfl⟩:=Ri r
   exact call_int_int ⟨.int i,H,I,⟨_,rfl⟩,q⟩
 . obtain ⟨u,rfl,r1⟩:=Ri r
   cases r1; exact call_int_bool ⟨.int (if k then 1 else 0),H,I.tok _,⟨_,rfl⟩,q⟩
def LenV (K:wM) (x:V) (H:Hp) (n:Nat):Prop :=
 match x with
 | .str y=>y.length<=sizeLine/\n=y.length
 | .byt y=>y.size<=sizeLine/\n=y.size
 | .ref p=>(∃ xs,SqL K H p xs/\n=xs.length)\/∃ xs,SqT K H p xs/\n=xs.length
 | _=>False
theorem Pb:V0 X (.builtin "len") (fun xs H Q=>∃ x n,xs=[x]/\LenV X.K x H n/\Q (.int n) H):=by
 intro pins s Z H xs us Q I r h;obtain ⟨x,n,rfl,e,q⟩:=h;obtain ⟨u,rfl,rx⟩:=Ri r;have hl:=Dk;have hs:sizeLine=16777216:=n5;cases x with
 | str y =>
   obtain ⟨t,rfl⟩:=rx; obtain ⟨hy,e'⟩:y.length<=sizeLine/\n=y.length:=e; subst e'; exact len_str (by lia) ⟨.int _,H,I.tok _,⟨_,rfl⟩,q⟩
 | byt y =>
   obtain ⟨t,rfl⟩:=rx; obtain ⟨hy,e'⟩:y.size<=sizeLine/\n=y.size:=e; subst e'; exact PySem.W.len_bytes (by lia) ⟨.int _,H,I.tok _,⟨_,rfl⟩,q⟩
 | ref p =>
   cases rx; have e':(∃ xs,SqL X.K H p xs/\n=xs.length)\/∃ xs,SqT X.K H p xs/\n=xs.length:=e; rcases e' with ⟨xs,hx,e'⟩ | ⟨xs,hx,e'⟩
   . subst e'
     obtain ⟨its,r',pl,hz⟩:=I.list hx; have hlen:=r'.length; exact Calls.call_len_list pl.isList (by simp only [wZ]; lia) ⟨.int xs.length,H,I.tok _,⟨_,by simp only [wZ]; rw [hlen]⟩,q⟩
   . subst e'
     obtain ⟨its,r',pl,hz⟩:=I.tuple hx; have hlen:=r'.length; exact len_tuple pl (by simp only [wZ]; lia) ⟨.int xs.length,H,I.tok _,⟨_,by simp only [wZ]; rw [hlen]⟩,q⟩
 | _=>exact (show False from e).elim
end
end L2
namespace L2
open PySem PySem.Spec PyProof.Rows
end L2
namespace L2
open PySem PySem.Spec PyProof.Rows
structure Room (k:Nat) (A:yS):Prop where
 hd:A.handled=none
 dp:A.depth+3*k+5 < recursionLimit
 un:A.units+16*k+200 < k5
 gd:A.guards=some []
theorem Room.mono {j k:Nat} {A:yS} (r:Room k A) (h:j<=k):Room j A:=⟨r.hd,by have:=r.dp; lia,by have:=r.un; lia,r.gd⟩
theorem Room.deeper {k:Nat} {A:yS} (r:Room (k+1) A) (env:Env):Room k (A.deeper env) :=
 ⟨r.hd,by have:=r.dp; show A.depth+1+3*k+5 < _; lia,by have:=r.un; show A.units+3+16*k+200 < _; lia,r.gd⟩
theorem Room.depth {k:Nat} {A:yS} (r:Room k A):A.depth < recursionLimit:=by have:=r.dp; lia
theorem Room.units {k:Nat} {A:yS} (r:Room k A):A.units+64 < k5:=by have:=r.un; lia
def tNil:TA:=fun _ H Q=>Q [] H
def tCons (ta:TE) (tr:TA):TA:=fun Z H Q=>ta Z H fun x H1=>tr Z H1 fun xs H2=>Q (x::xs) H2
section
variable {X:Cx} {e:Expr} {es:List Expr} {te:TE} {t:TA} {pos:Pos}
theorem Y5:PA X [] tNil:=fun _ _ _ _ H Q I h=>FL ⟨[],H,I,.nil,h⟩
theorem O8 (ha:PE X e te) (hr:PA X es t) (hs:wU (e::es) X.env=(false,eval e X.env)::wU es X.env:=by rfl):PA X (e::es) (tCons te t):=by
 intro pos pins s Z H Q I h;rw [hs];show wpAny _ _ (spliced ((false,eval e X.env)::zY pos (wU es X.env))) _ _ s;refine AJ (thn (ha pins s Z H _ I h) fun u s1 hZ2=>?_);obtain ⟨x,H1,I1,r1,q1⟩:=hZ2;exact thn (hr pos pins s1 Z H1 _ I1 q1) fun us s2 hZ2=>by obtain ⟨xs,H2,I2,r2,q2⟩:=hZ2; exact ⟨x::xs,H2,I2,.cons r1 r2,q2⟩
def tTup (t:TA):TE:=fun Z H Q=>t Z H fun xs H1=>xs.length<=sizeLine/\∀ p,H1 p=none->Q (.ref p) (upd H1 p (.tup xs))
def tLst (t:TA):TE:=fun Z H Q=>t Z H fun xs H1=>xs.length<=sizeLine/\∀ p,H1 p=none->Q (.ref p) (upd H1 p (.lst xs))
theorem tU {x1} (h:PA X es t):PE X (.Tuple es x1 pos) (tTup t):=by
 intro pins s Z H Q I hq;refine wpAny_Tuple_spliced (thn (h pos pins s Z H _ I hq) fun us s1 hY22=>?_);obtain ⟨xs,H1,I1,r,z,q⟩:=hY22;refine ⟨by rw [<- r.length]; exact z,?_⟩;have hf:H1 s1.heap.objs.size=none:=I1.hok.fresh (wO _);refine ⟨.ref s1.heap.objs.size,upd H1 s1.heap.objs.size (.tup xs),I1.laid (t':=s1.toks) (fun b u e=>wN _ e) (wO _) ?_,rfl,q _ hf⟩;exact ⟨z,us,r,⟨_,wW _ rfl,rfl,_,rfl⟩⟩
theorem jV (h:PA X es t):PE X (.List es pos) (tLst t):=by
 intro pins s Z H Q I hq;refine wpAny_List_spliced (thn (h pos pins s Z H _ I hq) fun us s1 hY23=>?_);obtain ⟨xs,H1,I1,r,z,q⟩:=hY23;refine ⟨by rw [<- r.length]; exact z,?_⟩;have hf:H1 s1.heap.objs.size=none:=I1.hok.fresh (wO _);refine ⟨.ref s1.heap.objs.size,upd H1 s1.heap.objs.size (.lst xs),I1.laid (t':=s1.toks) (fun b u e=>wN _ e) (wO _) ?_,rfl,q _ hf⟩;exact ⟨z,us,0,r,wW _ rfl⟩
end
abbrev Sp:=List V->Hp->VK->XK->Prop
abbrev CXT:=List Env->Hp->wJ->XK->wI->wJ->Prop
structure Env0 (P:xN) (w:xT) (K:wM) (mg:Str->Option wI) (base:yQ) (A:yS) (outer:List Env) (s:wJ) (H:Hp):Prop where
 frames:A.frames=some outer
 mod:Mod K mg base
 bs:∀ b o,base.get? b=some o->s.heap.get? b=some o/\H b=none
 bsz:base.objs.size<=s.heap.objs.size
 funs:s.heap.FunFrames base outer
 frf:∀ b∈frs outer,H b=none
 hok:HOk P w H s.heap
 bare:EJ s.gens
def CE (outer:List Env) (P:xN) (w:xT) (H:Hp) (s:wJ) (Q:VK) (u:wI) (s':wJ):Prop :=
 ∃ v H',s'.os=s.os/\EJ s'.gens/\Un (frs outer) [] H H' s.heap s'.heap/\HOk P w H' s'.heap/\RelV v u/\Q v H'
def CR (CX:CXT) (outer:List Env) (P:xN) (w:xT) (H:Hp) (s:wJ) (Q:VK) (E:XK) (r:Result) (s':wJ):Prop :=
 match r with
 | .ok (.ret u)=>CE outer P w H s Q u s'
 | .ok _=>False
 | .error e=>CX outer H s E e s'
structure FnOk (P:xN) (w:xT) (K:wM) (mg:Str->Option wI) (base:yQ) (CX:CXT) (k:Nat) (f:wR) (fd:BO) (ps:List Str) (sp:Sp):Prop where
 len:∀ vs H Q E,sp vs H Q E->vs.length=ps.length
 run:∀ (A:yS) (outer:List Env) (s:wJ) (H:Hp) (args:Args) (us:List wI) (vs:List V) (Q:VK) (E:XK),Room k A->Env0 P w K mg base A outer s H->BindsTo s fd args (ps.zip us)->Vals vs us->sp vs H Q E ->
   CK (xH P w) A (.call (.ref f) args) (CR CX outer P w H s Q E) s
section
variable {X:Cx} {pins:List (wR×Obj)} {Z:St} {H:Hp} {s s':wJ}
theorem Inv.env0 (I:Inv X pins Z H s):Env0 X.prog X.w X.K X.mg X.base X.A X.stack s H :=
 ⟨I.ok.frames,I.ok.mod,I.bs,xD I.ok.bsz I.sz,I.stack,I.stkFree,I.hok,I.bare⟩
theorem Inv.after {Q:VK} {u:wI} (I:Inv X pins Z H s) (h:CE X.stack X.prog X.w H s Q u s'):EP X pins Z Q u s':=by
 obtain ⟨v,H',os,bare,un,hok,r,q⟩:=h;obtain ⟨hh,g,d,t,os'⟩:=s';obtain rfl:os'=s.os:=os;exact ⟨v,H',I.call (h':=hh) (g':=g) (d':=d) (t':=t) (ch:=[]) un hok bare (fun b z=>absurd z (by simp)),r,q⟩
end
def tCall (sp:Sp) (dvs:List V) (E:XK) (t:TA):TE:=fun Z H Q=>t Z H fun vs H1=>sp (vs++dvs) H1 Q E
def Binds (K:wM) (fd:BO) (ps:List Str) (ds:List wI):Prop :=
 ∀ (s:wJ) (us:List wI),K.In s.heap->(us++ds).length=ps.length->BindsTo s fd ⟨us,[]⟩ (ps.zip (us++ds))
theorem Binds.all {K:wM} {fd:BO} {ps:List Str} (h:∀ us:List wI,us.length=ps.length->CS fd ⟨us,[]⟩=pure (ps.zip us)):Binds K fd ps []:=fun s us _ hl=>by
 rw [yL] at hl ⊢;exact .of_eq (h us hl)
def bS (CX:CXT) (X:Cx) (E:XK):Prop:=∀ (pins:List (wR×Obj)) (Z:St) (H:Hp) (s:wJ) (e:wI) (s':wJ),Inv X pins Z H s->CX X.stack H s E e s'->X.xe e s'
section
variable {X:Cx} {CX:CXT} {k:Nat} {f:wR} {fd:BO} {ps:List Str} {sp:Sp} {dvs:List V} {ds:List wI} {E:XK} {x:Str} {p pos:Pos} {e:Expr} {es:List Expr} {t:TA}
theorem sZ {pins:List (wR×Obj)} {Z:St} {H:Hp} {s:wJ} {Q:VK} {us:List wI} {vs:List V} (F:FnOk X.prog X.w X.K X.mg X.base CX k f fd ps sp) (hr:Room k X.A) (hb:Binds X.K fd ps ds) (hd:Vals dvs ds) (hx:bS CX X E)
   (I:Inv X pins Z H s) (r:Vals vs us) (h:sp (vs++dvs) H Q E):wpAny (xH X.prog X.w) X.A (call (.ref f) us) (EP X pins Z Q) X.xe s:=by
 have r2:Vals (vs++dvs) (us++ds):=r.append hd;have hl:(us++ds).length=ps.length:=by rw [<- r2.length]; exact F.len _ _ _ _ h
 refine wpAny_call (AG (F.run X.A X.stack s H ⟨us,[]⟩ (us++ds) (vs++dvs) Q E hr I.env0 (hb s us I.kIn hl) r2 h) fun r s' hq=>?_);cases r with
 | error e=>exact hx pins Z H s e s' I hq
 | ok fl =>
   cases fl with
   | ret u=>exact I.after hq
   | next=>exact y3 hq
   | brk=>exact y3 hq
   | cont=>exact y3 hq
theorem Lr (F:FnOk X.prog X.w X.K X.mg X.base CX k f fd ps sp) (hr:Room k X.A) (hg:Gl X x) (hm:X.mg x=some (.ref f)) (hk:zL X.K (.ref f)=true) (hb:Binds X.K fd ps ds) (hd:Vals dvs ds) (hx:bS CX X E)
   (ha:PA X (e::es) t) (hdb:(x==("__debug__" : Str))=false:=by decide) (he:wU (e::es) X.env=(false,eval e X.env)::wU es X.env:=by rfl) (hpl:(zY pos (wU es X.env)).any (·.1)=false:=by rfl) :
   PE X (.Call (.Name x p) (e::es) [] pos) (tCall sp dvs E t):=by
 intro pins s Z H Q I h;refine BA (cX I hg hm ?_ hdb);refine PySem.W.callWith_K (h₀:=X.base) I.ok.mod.kin hk (thn (ha pos pins s Z H _ I h) fun us s1 hY24=>?_) he hpl;obtain ⟨vs,H1,I1,r,q⟩:=hY24;refine ⟨I1.kIn,?_⟩;exact sZ F hr hb hd hx I1 r q
end
structure FnScope (N P:List Str) (sc:Scope):Prop where
 kind:sc.kind=.function
 co:sc.isCoroutine=false
 gen:sc.isGenerator=false
 nd:N.Nodup
 pre:N.take P.length=P
 par:∀ x∈P,sc.names.lookup x=some .local\/sc.names.lookup x=some .cell
 nofree:∀ y∈sc.names,y.2≠.free
theorem Td {kindOf:Str->Option CV} {x:Str}:∀ {binds:List (Str×wI)} {m:Str->Option wI},(∀ v,(x,v)∉binds)->bindL kindOf binds m x=m x
 | [],_,_=>rfl
 | (n,v)::r,m,h=>by
   unfold bindL; rw [Td fun w hw=>h w (zH _ hw)];split
   . have:x≠n:=by rintro rfl; exact h v yZ
     simp [this]
   . rfl
theorem Tf {kindOf:Str->Option CV} {x:Str}:∀ {binds:List (Str×wI)} {m:Str->Option wI},(∀ v,(x,v)∉binds)->bindC kindOf binds m x=m x
 | [],_,_=>rfl
 | (n,v)::r,m,h=>by
   unfold bindC; rw [Tf fun w hw=>h w (zH _ hw)];split
   . rfl
   . have:x≠n:=by rintro rfl; exact h v yZ
     simp [this]
theorem Te {kindOf:Str->Option CV} {x:Str} {v:wI}:∀ {P:List Str} {vs:List wI} {i:Nat} {m:Str->Option wI},P.Nodup->P[i]? = some x->vs[i]? = some v->kindOf x=some .local ->
   bindL kindOf (P.zip vs) m x=some v
 | [],_,_,_,_,h,_,_=>by simp at h
 | _::_,[],_,_,_,_,h,_=>by simp at h
 | p::P,w::vs,0,m,nd,h1,h2,hk=>by
   simp at h1 h2; subst h1; subst h2;show bindL kindOf ((p,w)::P.zip vs) m p=_;unfold bindL; rw [Td fun v hv=>(zC.mp nd).1 (GA hv).1,if_pos hk];simp
 | p::P,w::vs,i+1,m,nd,h1,h2,hk=>by
   show bindL kindOf ((p,w)::P.zip vs) m x=_;unfold bindL; exact Te (i:=i) (zC.mp nd).2 (by simpa using h1) (by simpa using h2) hk
theorem Tg {kindOf:Str->Option CV} {x:Str} {v:wI}:∀ {P:List Str} {vs:List wI} {i:Nat} {m:Str->Option wI},P.Nodup->P[i]? = some x->vs[i]? = some v->kindOf x≠some .local ->
   bindC kindOf (P.zip vs) m x=some v
 | [],_,_,_,_,h,_,_=>by simp at h
 | _::_,[],_,_,_,_,h,_=>by simp at h
 | p::P,w::vs,0,m,nd,h1,h2,hk=>by
   simp at h1 h2; subst h1; subst h2;show bindC kindOf ((p,w)::P.zip vs) m p=_;unfold bindC; rw [Tf fun v hv=>(zC.mp nd).1 (GA hv).1,if_neg hk];simp
 | p::P,w::vs,i+1,m,nd,h1,h2,hk=>by
   show bindC kindOf ((p,w)::P.zip vs) m x=_;unfold bindC; exact Tg (i:=i) (zC.mp nd).2 (by simpa using h1) (by simpa using h2) hk
def Bj (N:List Str) (vs:List V):St:=vs.map some++xI (N.length - vs.length) none
def gM (CX:CXT) (P:xN) (w:xT) (K:wM) (mg:Str->Option wI) (base:yQ) (N:List Str) (qual:Str) (scope:Scope) (f:wR) (cd:wI) (A:yS) (outer:List Env) (s:wJ) (H:Hp) (E:XK):Cx where
 prog:=P
 w:=w
 K:=K
 mg:=mg
 base:=base
 A:=A.deeper (FV qual scope s.heap.objs.size f cd)
 N:=N
 s₀:=s
 H₀:=H
 env:=FV qual scope s.heap.objs.size f cd
 outer:=outer
 stack:=FV qual scope s.heap.objs.size f cd::outer
 ex:=[]
 calm:=true
 fn:=fun _=>true
 pn:=[]
 xe:=fun e s'=>wpAny (xH P w) (A.deeper (FV qual scope s.heap.objs.size f cd)) (leaving (FV qual scope s.heap.objs.size f cd) e) (fun _ s''=>CX outer H s E e s'') (fun e' s''=>CX outer H s E e' s'') s'
theorem Zc {sc:Scope} {n:Nat} {x:Str} (h:sc.names.lookup x=some .cell):∃ c,(cellsFrom n sc.names []).lookup x=some c:=by
 have q:=HB sc.names n [] (.inl h);exact Option.isSome_iff_exists.mp q
theorem fZ {CX:CXT} {P:xN} {w:xT} {K:wM} {mg:Str->Option wI} {base:yQ} {N ps:List Str} {qual:Str} {scope:Scope} {f:wR} {cd:wI} {A:yS} {outer:List Env} {s s1:wJ} {H:Hp} {E:XK} {us:List wI} {vs:List V}
   (S:FnScope N ps scope) (hd:A.handled=none) (e0:Env0 P w K mg base A outer s H) (hl:vs.length=ps.length) (r:Vals vs us)
   (x:InCallC s s.heap.objs.size (bindL (FV qual scope s.heap.objs.size f cd).kindOf (ps.zip us) fun _=>none) (cellsFrom (s.heap.objs.size+1) scope.names []) (bindC (FV qual scope s.heap.objs.size f cd).kindOf (ps.zip us) fun _=>none) s1) :
   Inv (gM CX P w K mg base N qual scope f cd A outer s H E) [] (Bj N vs) H s1:=by
 have hpl:ps.length<=N.length:=by have:=congrArg AO S.pre; rw [BK] at this; lia
 obtain ⟨h1,tk,rfl,hk⟩:=x.done;have noA:∀ b:wR,b∉(gM CX P w K mg base N qual scope f cd A outer s H E).ex:=fun b z=>absurd (show b∈([]:List wR) from z) (by simp);refine ⟨⟨e0.mod,S.kind,rfl,rfl,wO _,fun y z c h1 h2=>?_,fun y hy=>?_,fun y c _ h=>?_,fun _=>hd,Around.frames_deeper e0.frames,.inr ⟨rfl,rfl⟩,fun b z=>absurd z (noA b),e0.bs,e0.bsz,fun b _ _=>noA b,fun b z=>absurd z (noA b),e0.funs,e0.frf⟩,
   rfl,e0.bare,Un.kept hk,⟨_,x.toInCall.ns,fun i y v h1 h2 h3=>?_⟩,fun y c h=>⟨_,x.cell y c h⟩,e0.hok.fresh (wO _),fun y c h=>?_,fun p hp=>absurd (show p∈([]:List (wR×Obj)) from hp) (by simp),e0.hok.kept hk,?_⟩
 . exact name_of_addr x.apart (n4 h1) (n4 h2)
 . have hy:scope.names.lookup y=some .cell\/scope.names.lookup y=some .free:=hy
   rcases hy with hy | hy
   . exact Zc hy
   . exact absurd rfl (S.nofree _ (n4 hy))
 . exact p7 (x.above y c (n4 h))
 . have hi : i < vs.length := by
     unfold Bj at h2;by_cases hi:i < vs.length
     . exact hi
     . rw [yG (by simpa using hi)] at h2
       rw [j9] at h2;split at h2 <;> cases h2
   have ha:vs[i]? = some v:=by
     unfold Bj at h2; rw [yD (by simpa using hi),xQ] at h2;cases e:vs[i]? with
     | none=>rw [e] at h2; cases h2
     | some a=>rw [e] at h2; cases h2; rfl
   obtain ⟨u,hu,rv⟩:=r.get ha; have hp:ps[i]? = some y:=by
     rw [<- S.pre,List.getElem?_take_of_lt (by lia)]; exact h1
   have ndP:ps.Nodup:=by rw [<- S.pre]; exact S.nd.sublist (FM _ _)
   refine ⟨u,rv,?_⟩; rcases S.par y (c8 hp) with k | k
   . exact .inl ⟨k,Te ndP hp hu k⟩
   . obtain ⟨c,e⟩:=Zc (n:=s.heap.objs.size+1) k
     refine .inr ⟨.inl k,c,e,?_⟩; have q:=x.cell y c e; rw [Tg ndP hp hu (by show scope.names.lookup y≠_; rw [k]; decide)] at q;exact q
 . exact e0.hok.fresh (p7 (x.above y c (n4 h)))
 . unfold Bj
   show _=N.length;rw [xG,wL,u8];lia
theorem fn_of {CX:CXT} {P:xN} {w:xT} {K:wM} {mg:Str->Option wI} {base:yQ} {k:Nat} {f:wR} {name qual:Str} {params:Arguments} {body:List n8} {scope:Scope} {dV kV doc pm cdv ct oc:wI} {an od:Option wR}
   {osl:Array (Option wI)} {N ps:List Str} {sp:Sp} (lk:K.lookup f=some ⟨oc,od,.func (yT name qual params body scope dV kV doc pm an cdv ct),osl⟩) (hcd:j3 K cdv qual=true) (S:FnScope N ps scope)
   (len:∀ vs H Q E,sp vs H Q E->vs.length=ps.length)
   (hbody:∀ (A:yS) (outer:List Env) (s:wJ) (H:Hp) (vs:List V) (Q:VK) (E:XK),Room k (A.deeper (FV qual scope s.heap.objs.size f cdv))->sp vs H Q E ->
     ∃ t,PSs (gM CX P w K mg base N qual scope f cdv A outer s H E) body t/\t { nx:=fun _ H'=>Q .non H',rt:=Q } (Bj N vs) H) :
   FnOk P w K mg base CX (k+1) f (yT name qual params body scope dV kV doc pm an cdv ct) ps sp:=by
 refine ⟨len,fun A outer s H args us vs Q E hr e0 hb r hsp=>?_⟩;have hl:=len _ _ _ _ hsp;have KX:K.In s.heap:=e0.mod.kin.keeps fun b o e=>(e0.bs b o e).1;have lim:s.heap.NoLimit:=e0.mod.nolimit.keeps fun b o e=>(e0.bs b o e).1;have hkind:∀ y∈ps.zip us,scope.names.lookup y.1=some .local\/(scope.names.lookup y.1=some .cell/\((cellsFrom (s.heap.objs.size+1) scope.names []).lookup y.1).isSome=true):=fun hZ0 hy=>by
   obtain ⟨n,v⟩:=hZ0; rcases S.par n (GA hy).1 with q | q
   . exact .inl q
   . exact .inr ⟨q,HB _ _ _ (.inl q)⟩
 refine codeAny_call_function hr.depth (KX _ _ lk) rfl S.co S.gen rfl (PySem.W.codeRec_of KX hcd) (hb _ _ _ _ ?_);refine wpAny_newFunctionEnv_cells S.kind hkind fun env he s1 x=>?_;subst he;refine ⟨lim.keeps x.toInCall.keep,codeAny_func ?_⟩;obtain ⟨t,ht,hq⟩:=hbody A outer s H vs Q E (hr.deeper _) hsp;have I:Inv (gM CX P w K mg base N qual scope f cdv A outer s H E) [] (Bj N vs) H s1:=fZ S hr.hd e0 hl r x;refine zM (ht [] s1 (Bj N vs) H _ I hq) (fun fl s' hs=>?_) fun e s' hs=>hs;have fin:∀ {Z':St} {H':Hp} {v:V} {u:wI},Inv (gM CX P w K mg base N qual scope f cdv A outer s H E) [] Z' H' s'->RelV v u->Q v H'->CE outer P w H s Q u s' :=
   fun {Z' H' v u} J rv q=>⟨v,H',J.os,J.bare,J.base,J.hok,rv,q⟩
 cases fl with
 | ret u =>
   obtain ⟨v,Z',H',J,rv,q⟩:=hs; exact fin J rv q
 | next =>
   obtain ⟨Z',H',J,q⟩:=hs; exact fin (v:=V.non) (u:=a8) J rfl q
 | brk =>
   obtain ⟨_,_,_,q⟩:=hs; exact y3 q
 | cont =>
   obtain ⟨_,_,_,q⟩:=hs; exact y3 q
end L2
namespace L2
open PySem PySem.Spec PyProof.Rows
section
variable {X:Cx} {x:Str} {p pos:Pos} {e:Expr} {es:List Expr} {t:TA} {id T:String} {r:List V->Hp->VK->Prop}
def tCB (r:List V->Hp->VK->Prop) (t:TA):TE:=fun Z H Q=>t Z H fun vs H1=>r vs H1 Q
theorem Od (hc:V0 X (.builtin id) r) (hg:Gl X x) (hm:X.mg x=none) (hv:AH x=some (.builtin id)) (ha:PA X (e::es) t) (hn:x ≠ "__name__" := by decide) (hdb:(x==("__debug__" : Str))=false:=by decide)
   (he:wU (e::es) X.env=(false,eval e X.env)::wU es X.env:=by rfl) (hpl:(zY pos (wU es X.env)).any (·.1)=false:=by rfl):PE X (.Call (.Name x p) (e::es) [] pos) (tCB r t):=by
 intro pins s Z H Q I h;refine BA (Oi I hg hm hv ?_ hn hdb);exact PyProof.Rows.callWith_builtin1 (thn (ha pos pins s Z H _ I h) fun us s1 hZ2=>by obtain ⟨vs,H1,I1,r1,q1⟩:=hZ2; exact hc pins s1 Z H1 vs us Q I1 r1 q1) he hpl
theorem Rx (hc:V0 X (.type T) r) (hg:Gl X x) (hm:X.mg x=none) (hv:AH x=some (.type T)) (ha:PA X (e::es) t) (hn:x ≠ "__name__" := by decide) (hdb:(x==("__debug__" : Str))=false:=by decide)
   (he:wU (e::es) X.env=(false,eval e X.env)::wU es X.env:=by rfl) (hpl:(zY pos (wU es X.env)).any (·.1)=false:=by rfl):PE X (.Call (.Name x p) (e::es) [] pos) (tCB r t):=by
 intro pins s Z H Q I h;refine BA (Oi I hg hm hv ?_ hn hdb);exact o9 (thn (ha pos pins s Z H _ I h) fun us s1 hZ2=>by obtain ⟨vs,H1,I1,r1,q1⟩:=hZ2; exact hc pins s1 Z H1 vs us Q I1 r1 q1) he hpl
end
end L2
namespace HT
open PySem PyProof.Rows
section
variable {prog:xN} {w:xT} {A:yS} {E:wI->wJ->Prop} {s:wJ}
theorem cat_tup {t b:wR} {vs ws:List wI} {Q:wI->wJ->Prop} (ht:ES s.heap t vs.toArray) (hb:ES s.heap b ws.toArray) (hv:vs≠[])
   (h1:ws=[]->Q (.ref t) s) (h2:ws≠[]->Q (.ref s.heap.objs.size) { s with heap:=s.heap.push { cls:=.type "tuple",data:=.seq (vs++ws).toArray } })
   (hsz:vs.length+ws.length<=sizeLine):wpAny (xH prog w) A (DY .Add (.ref t) (.ref b)) Q E s:=by
 obtain ⟨⟨cls,dd,data,sl⟩,ho,hc,n,hd⟩:=id ht;obtain ⟨⟨cls2,dd2,data2,sl2⟩,ho2,hc2,n2,hd2⟩:=id hb;simp only at hc hd hc2 hd2;subst hc hd hc2 hd2;have e:vs.toArray++ws.toArray=(vs++ws).toArray:=by simp
 by_cases hw:ws=[]
 . exact concat_meets ⟨_, ho, rfl⟩ ⟨_, ho2, rfl⟩ GY seq_tuple_add CU CL (CD _ _)
     (tuple_addW1 t b vs.toArray ws.toArray n n2 dd dd2 sl sl2 (by simpa using hv) (by simp [hw])) ⟨ho,ho2,h1 hw⟩
 . refine concat_meets ⟨_, ho, rfl⟩ ⟨_, ho2, rfl⟩ GY seq_tuple_add CU CL (CD _ _)
     (tuple_addW2 t b vs.toArray ws.toArray n n2 dd dd2 sl sl2 (by simpa using hv) (by simpa using hw) (by rw [wZ,wZ]; exact hsz)) ⟨ho,ho2,?_⟩
   rw [e]; exact h2 hw
def sIx (n d:Nat):Option Int->Nat
 | none=>d
 | some v=>if v < 0 then (v+(n:Int)).toNat else min v.toNat n
theorem sW (n d:Nat) (hd:d<=n) (o:Option Int):sIx n d o<=n:=by
 cases o with
 | none=>exact hd
 | some v =>
   show (if v < 0 then (v+(n:Int)).toNat else min v.toNat n)<=n;by_cases hv:v < 0
   . rw [if_pos hv]; lia
   . rw [if_neg hv]; exact j4 _ _
theorem dH (v:Int) (n d:Nat):(if v < 0 then ID (v+(n:Int)) 0 else min v (n:Int))=((sIx n d (some v):Nat):Int):=by
 show (if v < 0 then ID (v+(n:Int)) 0 else min v (n:Int))=(((if v < 0 then (v+(n:Int)).toNat else min v.toNat n):Nat):Int);by_cases hv:v < 0
 . simp only [if_pos hv]; lia
 . simp only [if_neg hv]; lia
theorem bR (lo hi:Option Int) (n:Nat):BP lo hi 1 (n:Int)=(((sIx n 0 lo:Nat):Int),((sIx n n hi:Nat):Int)):=by
 have h1:¬ ((1:Int) < 0):=by lia
 unfold BP;simp only [h1,if_false];refine Prod.ext ?_ ?_
 . cases lo with
   | none=>rfl
   | some v=>exact dH v n 0
 . cases hi with
   | none=>rfl
   | some v=>exact dH v n n
theorem aH (i j:Nat):p9 (i:Int) (j:Int) 1=j - i:=by
 unfold p9;have h1:(1:Int)>0:=by lia
 simp only [h1,if_true,Int.ediv_one];split <;> lia
theorem Ng {v:wI} {o:Option Int} {Q:Option Int->wJ->Prop} (p:EH v o) (h:Q o s):wpAny (xH prog w) A (Builtin.Slice.slicePartIndex v) Q E s:=by
 cases p with
 | none=>exact slicePart_none h
 | int i t=>exact slicePart_int h
theorem sliceApplied_gen {sl:wR} {vl vu:wI} {lo hi:Option Int} {n:Nat} {Q:Int×Int×Nat->wJ->Prop} (hs:s.heap.IsSliceOf sl vl vu .none) (pl:EH vl lo) (pu:EH vu hi)
   (h:Q (((sIx n 0 lo:Nat):Int),1,sIx n n hi - sIx n 0 lo) s):wpAny (xH prog w) A (FA (.ref sl) (pure (n:Int))) Q E s:=by
 obtain ⟨os,hos,hcs,hds⟩:=id hs;unfold FA Builtin.Slice.sliceFields;refine wG (wG (BE hos hds (x:=vl) rfl (wG (BE hos hds (x:=vu) rfl (wG (BE hos hds (x:=.none) rfl (wH ?_)))))));refine wG (slicePart_none ?_);show wpAny _ _ (if ((1:Int)==0)=true then _ else _) _ _ s;rw [if_neg (by decide)];refine wG (Ng pl (wG (Ng pu (wG (wH ?_)))));show wpAny _ _ (match BP lo hi 1 (n:Int) with | (lo,hi)=>pure (lo,(1:Int),p9 lo hi 1)) _ _ s
 rw [bR lo hi n];show wpAny _ _ (pure (((sIx n 0 lo:Nat):Int),(1:Int),p9 ((sIx n 0 lo:Nat):Int) ((sIx n n hi:Nat):Int) 1)) _ _ s;rw [aH];exact wH h
theorem jR (xs:Array wI) (i k:Nat):((zK k).filterMap fun (m:Nat)=>xs[((i:Int)+(m:Int)*1).toNat]?).toArray=((xs.toList.drop i).take k).toArray:=by
 have e:(fun (m:Nat)=>xs[((i:Int)+(m:Int)*1).toNat]?)=fun m=>xs[i+m]? := by
   funext m
   have:((i:Int)+(m:Int)*1).toNat=i+m:=by lia
   rw [this]
 rw [e];have:=pick_run xs i k;rw [List.filterMap_map] at this;have e2:((fun x=>xs[x]?)∘fun x=>i+x)=fun m=>xs[i+m]? := rfl;rw [e2] at this;rw [this]
theorem getItem_tuple_cut {t sl:wR} {items:Array wI} {vl vu:wI} {lo hi:Option Int} {Q:wI->wJ->Prop} (ht:ES s.heap t items) (hs:s.heap.IsSliceOf sl vl vu .none) (pl:EH vl lo) (pu:EH vu hi)
   (hw:¬ (sIx items.size 0 lo=0/\sIx items.size items.size hi=items.size))
   (h:Q (.ref s.heap.objs.size) { s with heap:=s.heap.push { cls:=.type "tuple",data:=.seq ((items.toList.drop (sIx items.size 0 lo)).take (sIx items.size items.size hi - sIx items.size 0 lo)).toArray } })
   (hsz:items.size<=sizeLine):wpAny (xH prog w) A (CJ (.ref t) (.ref sl)) Q E s:=by
 have htake:sizeOk (.seq ((items.toList.drop (sIx items.size 0 lo)).take (sIx items.size items.size hi - sIx items.size 0 lo)).toArray):=by
   show ((items.toList.drop (sIx items.size 0 lo)).take (sIx items.size items.size hi - sIx items.size 0 lo)).toArray.size<=sizeLine;rw [wZ,BK,CY,yI]; omega
 have hj:sIx items.size items.size hi<=items.size:=sW _ _ (wO _) hi;obtain ⟨os,hos,hcs,hds⟩:=id hs;have hTs:s.TypeIs (.ref sl) "slice" := ⟨os,hos,hcs⟩;unfold CJ;try with_reducible refine yR ?_
 first | refine wG (wH ?_) | skip
 refine wG (DD ht.typeIs (by decide) ?_);refine wG (yN (name:=g9 "__getitem__") ht.typeIs c9
   (yE c9 ht.typeIs entry_tuple_getitem ?_ (args_tuple_getitem _ _)))
 show wpAny _ _ (BH (.ref t)>>=_) _ _ s;refine wG (tupleItemsOf_ ht ?_);refine wG (EE hTs ?_);rw [if_pos (by decide)];refine wG (sliceApplied_gen hs pl pu ?_);have hno:¬ ((((sIx items.size 0 lo:Nat):Int)==0&&(1:Int)==1&&(sIx items.size items.size hi - sIx items.size 0 lo)==items.size)=true):=by
   intro q; rw [xC,xC] at q; have q1:((sIx items.size 0 lo:Nat):Int)=0:=i7 q.1.1; have q2:sIx items.size items.size hi - sIx items.size 0 lo=items.size:=i7 q.2; exact hw ⟨by omega,by omega⟩
 show wpAny _ _ (if (((sIx items.size 0 lo:Nat):Int)==0&&(1:Int)==1&&(sIx items.size items.size hi - sIx items.size 0 lo)==items.size)=true then _ else _) _ _ s;rw [if_neg hno,jR];first
   | exact wG (m:=w8 _) (xZ (wH ⟨_,rfl,wH h⟩) htake)
   | exact wG (m:=w8 _) (xZ (wG (wH (wH ⟨_,rfl,wH h⟩))) htake)
   | exact wG (wG (m:=w8 _) (xZ (wH (wH ⟨_,rfl,wH h⟩)) htake))
   | exact wG (wG (m:=w8 _) (xZ (wH ⟨_,rfl,wH h⟩) htake))
end
end HT
namespace L2
open PySem PySem.Spec PyProof.Rows
abbrev TO:=St->Hp->(Option Int->Hp->Prop)->Prop
def PO (X:Cx) (e:Option Expr) (t:TO):Prop :=
 ∀ (pins:List (wR×Obj)) (s:wJ) (Z:St) (H:Hp) (Q:Option Int->Hp->Prop),Inv X pins Z H s->t Z H Q ->
   wpAny (xH X.prog X.w) X.A (evalPart e X.env) (fun u s'=>∃ o H',Inv X pins Z H' s'/\EH u o/\Q o H') X.xe s
def nE:TO:=fun _ H Q=>Q none H
def tPart (t:TE):TO:=fun Z H Q=>t Z H fun x H1=>∃ i,x=.int i/\Q (some i) H1
section
variable {X:Cx} {e:Expr} {te:TE} {lo hi:Option Expr} {tl th:TO} {pos p2:Pos}
theorem oI:PO X none nE:=by
 intro pins s Z H Q I h;rw [evalPart_none];exact wH ⟨none,H,I,.none,h⟩
theorem oH (h:PE X e te):PO X (some e) (tPart te):=by
 intro pins s Z H Q I hw;rw [evalPart_some];refine thn (h pins s Z H _ I hw) fun u s1 hZ2=>?_;obtain ⟨x,H1,I1,r1,q1⟩:=hZ2;obtain ⟨i,rfl,q⟩:=q1;obtain ⟨t,rfl⟩:=r1;exact ⟨some i,H1,I1,.int i t,q⟩
def SlR (X:Cx) (r:V->Option Int->Option Int->Hp->VK->Prop):Prop :=
 ∀ (pins:List (wR×Obj)) (s:wJ) (Z:St) (H:Hp) (x:V) (v vl vu:wI) (lo hi:Option Int) (sl:wR) (Q:VK),Inv X pins Z H s->RelV x v->s.heap.IsSliceOf sl vl vu .none->EH vl lo->EH vu hi->r x lo hi H Q ->
   ∃ T id,typeLookup (.type T) "__getitem__" = pure (some (.builtin id))/\s.TypeIs v T/\wpAny (xH X.prog X.w) X.A (CJ v (.ref sl)) (EP X pins Z Q) X.xe s
def tSl (r:V->Option Int->Option Int->Hp->VK->Prop) (te:TE) (tl th:TO):TE:=fun Z H Q=>te Z H fun x H1=>tl Z H1 fun l H2=>th Z H2 fun u H3=>r x l u H3 Q
theorem Xk {r:V->Option Int->Option Int->Hp->VK->Prop} (hr:SlR X r) (he:PE X e te) (hl:PO X lo tl) (hu:PO X hi th):PE X (.Subscript e (.Slice lo hi none p2) pos) (tSl r te tl th):=by
 intro pins s Z H Q I h;refine Subscript_ (thn (he pins s Z H _ I h) fun v s1 hZ2=>?_);obtain ⟨x,H1,I1,r1,q1⟩:=hZ2;refine wpAny_Slice (thn (hl pins s1 Z H1 _ I1 q1) fun vl s2 hY32=>?_);obtain ⟨l,H2,I2,pl,q2⟩:=hY32;refine thn (hu pins s2 Z H2 _ I2 q2) fun vu s3 hZ2=>?_;obtain ⟨u,H3,I3,pu,q3⟩:=hZ2;rw [evalPart_none];refine wH ?_;have I4:Inv X pins Z H3 { s3 with heap:=s3.heap.push { cls:=.type "slice",data:=.fields #[vl,vu,.none] } }:=I3.kept (t':=s3.toks) fun b ob q=>wN _ q;obtain ⟨T,id,hT,ht,hg⟩:=hr pins { s3 with heap:=s3.heap.push { cls:=.type "slice",data:=.fields #[vl,vu,.none] } } Z H3 x v vl vu l u s3.heap.objs.size Q I4 r1 (Heap.IsSliceOf.new ..) pl pu q3
 show wpAny (xH X.prog X.w) X.A (subscriptTail e (.Slice lo hi none p2) v (.ref s3.heap.objs.size)) (EP X pins Z Q) X.xe { s3 with heap:=s3.heap.push { cls:=.type "slice",data:=.fields #[vl,vu,.none] } };exact tail_any (ops:=[.ref s3.heap.objs.size,v]) ht hT hg (by with_unfolding_all rfl)
def gN (xs:List V) (lo hi:Option Int):List V:=(xs.drop (HT.sIx xs.length 0 lo)).take (HT.sIx xs.length xs.length hi - HT.sIx xs.length 0 lo)
theorem Er (xs:List V) (lo hi:Option Int):(gN xs lo hi).length<=xs.length:=by
 unfold gN;rw [BK,CY];lia
end
end L2
namespace L2
open PySem PySem.Spec PyProof.Rows
def ixN (n:Nat) (i:Int):Option Nat:=if 0<=i then (if i < n then some i.toNat else none) else if -(n:Int)<=i then some (i+n).toNat else none
def atI {α:Type} (xs:List α) (i:Int):Option α:=(ixN xs.length i).bind fun j=>xs[j]?
theorem cY {n:Nat} {i:Int} {j:Nat} (h:ixN n i=some j):seqIndex? i n=some j/\j < n /\ -(n:Int)<=i/\i < n:=by
 unfold ixN at h;by_cases h0:0<=i
 . rw [if_pos h0] at h
   by_cases h1:i < n
   . rw [if_pos h1] at h
     have e:i.toNat=j:=yM h; exact ⟨by rw [seqIndex_of h0 h1,e],by lia,by lia,h1⟩
   . rw [if_neg h1] at h; cases h
 . rw [if_neg h0] at h
   by_cases h1 : -(n:Int)<=i
   . rw [if_pos h1] at h
     have e:(i+n).toNat=j:=yM h; exact ⟨by rw [seqIndex_neg (by lia) h1,e],by lia,h1,by lia⟩
   . rw [if_neg h1] at h; cases h
theorem Lx {α:Type} {xs:List α} {i:Int} {v:α} (h:atI xs i=some v):∃ j,seqIndex? i xs.length=some j/\xs[j]? = some v/\j < xs.length /\ -(xs.length:Int)<=i/\i < xs.length:=by
 unfold atI at h;cases e:ixN xs.length i with
 | none=>rw [e] at h; cases h
 | some j =>
   rw [e] at h; obtain ⟨h1,h2,h3,h4⟩:=cY e; exact ⟨j,h1,h,h2,h3,h4⟩
def dR (b:Expr):Prop:=∀ o i,HG b false o i=operate [o,i] (CJ o i)
def IxR (X:Cx) (r:R2):Prop :=
 ∀ (value slice:Expr) (pins:List (wR×Obj)) (s:wJ) (Z:St) (H:Hp) (x y:V) (v u:wI) (Q:VK),Inv X pins Z H s->RelV x v->RelV y u->r x y H Q ->
   HG slice false v u=operate [v,u] (CJ v u)->wpAny (xH X.prog X.w) X.A (subscriptTail value slice v u) (EP X pins Z Q) X.xe s
def MtR (X:Cx) (id:String) (r:V->List V->Hp->VK->Prop):Prop :=
 ∀ (pins:List (wR×Obj)) (s:wJ) (Z:St) (H:Hp) (x:V) (xs:List V) (v:wI) (us:List wI) (Q:VK),Inv X pins Z H s->RelV x v->Vals xs us->r x xs H Q ->
   wpAny (xH X.prog X.w) X.A (call (.builtin id) (v::us)) (EP X pins Z Q) X.xe s
section
variable {X:Cx} {a b:Expr} {ta tb:TE} {pos:Pos}
theorem IxR.or {r r':R2} (h:IxR X r) (h':IxR X r'):IxR X (fun x y H Q=>r x y H Q\/r' x y H Q):=by
 intro value slice pins s Z H x y v u Q I rx ry q hs;rcases q with q | q
 . exact h value slice pins s Z H x y v u Q I rx ry q hs
 . exact h' value slice pins s Z H x y v u Q I rx ry q hs
theorem pe_ix {r:R2} (hr:IxR X r) (ha:PE X a ta) (hb:PE X b tb) (hs:dR b):PE X (.Subscript a b pos) (tOp r ta tb):=by
 intro pins s Z H Q I h;exact Subscript_ (vX ha hb I h fun v u s2 x y H2 I2 rx ry q=>hr a b pins s2 Z H2 x y v u Q I2 rx ry q (hs _ _))
def rIxL (K:wM):R2:=fun x y H Q=>∃ p xs i v,x=.ref p/\y=.int i/\SqL K H p xs/\atI xs i=some v/\Q v H
def rIxT (K:wM):R2:=fun x y H Q=>∃ p xs i v,x=.ref p/\y=.int i/\SqT K H p xs/\atI xs i=some v/\Q v H
def rIxS:R2:=fun x y H Q=>∃ z i c,x=.str z/\y=.int i/\z.length<=sizeLine/\atI z.cps.toList i=some c/\Q (.str ⟨#[c]⟩) H
theorem pN:IxR X (rIxL X.K):=by
 intro value slice pins s Z H x y v u Q I rx ry h hs;obtain ⟨p,xs,i,z,rfl,rfl,hq,he,q⟩:=h;cases rx;obtain ⟨t,rfl⟩:=ry;obtain ⟨its,r,pl,hz⟩:=I.list hq;obtain ⟨j,h1,h2,h3,h4,h5⟩:=Lx he;obtain ⟨w,ew,rw'⟩:=r.get h2;have hl:=r.length;have hn:=Dk;have fin:EP X pins Z Q w s:=⟨z,H,I,rw',q⟩;by_cases h0:0<=i
 . have hj : i.toNat = j := by
     rw [seqIndex_of h0 h5] at h1; exact yM h1
   exact item_listR pl.isList h0 (by lia) (by rw [hj]; simpa using ew) fin hs
 . have hj : (i + (its.toArray.size : Int)).toNat = j := by
     rw [seqIndex_neg (by lia) h4] at h1; rw [wZ,<- hl]; exact yM h1
   exact subscriptTail_builtinR (x:=w) pl.isList.typeIs GG.lookup
     (wpAny_getItem_list_neg (Q:=fun r s'=>r=w/\EP X pins Z Q r s') pl.isList (by lia) (by rw [wZ] <;> lia) (by lia) (by rw [hj]; simpa using ew) ⟨rfl,fin⟩) hs
theorem uY:IxR X (rIxT X.K):=by
 intro value slice pins s Z H x y v u Q I rx ry h hs;obtain ⟨p,xs,i,z,rfl,rfl,hq,he,q⟩:=h;cases rx;obtain ⟨t,rfl⟩:=ry;obtain ⟨its,r,pl,hz⟩:=I.tuple hq;obtain ⟨j,h1,h2,h3,h4,h5⟩:=Lx he;obtain ⟨w,ew,rw'⟩:=r.get h2;have hl:=r.length;have hn:=Dk;have fin:EP X pins Z Q w s:=⟨z,H,I,rw',q⟩;exact subscriptTail_builtinR (x:=w) pl.typeIs FU.lookup
   (getItem_tuple (j:=j) (Q:=fun r s'=>r=w/\EP X pins Z Q r s') pl (by lia) (by lia) (by rw [wZ,<- hl]; exact h1) (by simpa using ew) ⟨rfl,fin⟩) hs
theorem uZ:IxR X rIxS:=by
 intro value slice pins s Z H x y v u Q I rx ry h hs;obtain ⟨z,i,c,rfl,rfl,hz,he,q⟩:=h;obtain ⟨t,rfl⟩:=rx;obtain ⟨t',rfl⟩:=ry;obtain ⟨j,h1,h2,h3,h4,h5⟩:=Lx he;have hl:z.cps.toList.length=z.length:=by simp [Str.length]
 rw [hl] at h1 h4 h5;have hn:=Dk;exact tail_any (typeIs_str s z t) slot_str_getitem.lookup (getItem_str (c:=c) (by
   have e1:decide (i < -(2 ^ 63:Int))=false:=decide_eq_false (by lia);have e2:decide (i≥2 ^ 63)=false:=decide_eq_false (by lia);rw [e1,e2,FD]) (by rw [h1]; simpa using h2) ⟨.str ⟨#[c]⟩,H,I.tok _,⟨_,rfl⟩,q⟩) hs
def rIx (K:wM):R2:=fun x y H Q=>rIxL K x y H Q\/rIxT K x y H Q\/rIxS x y H Q
theorem vA:IxR X (rIx X.K):=pN.or (uY.or uZ)
theorem aQ (its:List wI) (n j:Nat) (u:wI):AN (·.setIfInBounds j u) { cls:=.type "list",data:=.seq its.toArray n }={ cls:=.type "list",data:=.seq (its.set j u).toArray n }:=by
 simp [AN]
theorem Inv.lst {pins:List (wR×Obj)} {Z:St} {H:Hp} {s:wJ} {p:wR} {xs:List V} (I:Inv X pins Z H s) (h:H p=some (.lst xs)) :
   ∃ (its:List wI) (n:Nat),Vals xs its/\s.heap.get? p=some { cls:=.type "list",data:=.seq its.toArray n }/\xs.length<=sizeLine:=by
 obtain ⟨z,its,n,r,e⟩:=I.hok p _ h;exact ⟨its,n,r,e,z⟩
theorem Inv.lstUpd {pins:List (wR×Obj)} {Z:St} {H:Hp} {s:wJ} {p:wR} {xs ys:List V} {its its':List wI} {n n':Nat} {f:Obj->Obj} (I:Inv X pins Z H s) (h:H p=some (.lst xs))
   (ho:s.heap.get? p=some { cls:=.type "list",data:=.seq its.toArray n }) (hf:f { cls:=.type "list",data:=.seq its.toArray n }={ cls:=.type "list",data:=.seq its'.toArray n' }) (r:Vals ys its') (hz:ys.length<=sizeLine) (t:Nat) :
   Inv X pins Z (upd H p (.lst ys)) { s with heap:=s.heap.update p f,toks:=t }:=by
 have e:(s.heap.update p f).get? p=some { cls:=.type "list",data:=.seq its'.toArray n' }:=by
   rw [zB f ho (by rw [hf] <;> rfl),hf]
 refine I.write (x:=p) (e:=p) (by rw [h]; trivial) (.inl rfl) (fun b u hb q=>(AY _ _ (Ne.symm hb)).trans q) ⟨_,e⟩ ?_;exact ⟨hz,its',n',r,e⟩
def rSetL:V->V->V->Hp->(Hp->Prop)->Prop:=fun o i v H Q=>∃ p xs k j,o=.ref p/\i=.int k/\H p=some (.lst xs)/\ixN xs.length k=some j/\Q (upd H p (.lst (xs.set j v)))
theorem iW:PSet X rSetL:=by
 intro pins s Z H o i v ov iv u Q I ro ri rv h;obtain ⟨p,xs,k,j,rfl,rfl,hp,hj,q⟩:=h;cases ro;obtain ⟨t,rfl⟩:=ri;obtain ⟨its,n,r,ho,hz⟩:=I.lst hp;obtain ⟨h1,h2,h3,h4⟩:=cY hj;have hl:=r.length;have hn:=Dk;have I':Inv X pins Z (upd H p (.lst (xs.set j v))) { s with heap:=s.heap.update p (AN (·.setIfInBounds j u)) } :=
   I.lstUpd hp ho (aQ its n j u) (r.set rv j) (by rw [GB]; exact hz) s.toks
 by_cases h0:0<=k
 . have hk : k.toNat = j := by
     rw [seqIndex_of h0 h4] at h1; exact yM h1
   exact PySem.W.ki_setAt ho h0 (by lia) (by rw [wZ,<- hl]; exact h4) (by rw [hk]; exact ⟨_,I',q⟩)
 . have hk : (k + (its.toArray.size : Int)).toNat = j := by
     rw [seqIndex_neg (by lia) h3] at h1; rw [wZ,<- hl]; exact yM h1
   exact PySem.W.ki_setBack ho (by lia) (by rw [wZ,<- hl]; exact h3) (by lia) (by rw [hk]; exact ⟨_,I',q⟩)
theorem Tp (lo hi:Option Int) (n:Nat):(BW lo hi none n).1=((HT.sIx n 0 lo:Nat):Int)/\(BW lo hi none n).2.1=((HT.sIx n n hi:Nat):Int)/\(BW lo hi none n).2.2=1:=by
 refine ⟨?_,?_,rfl⟩
 . cases lo with
   | none=>simp [BW,HT.sIx]
   | some i =>
     simp only [BW,HT.sIx,Option.getD_none,show (1:Int)>0 by decide,if_true];by_cases h:i < 0
     . simp only [h,if_true] <;> lia
     . simp only [h,if_false] <;> lia
 . cases hi with
   | none=>simp [BW,HT.sIx]
   | some i =>
     simp only [BW,HT.sIx,Option.getD_none,show (1:Int)>0 by decide,if_true];by_cases h:i < 0
     . simp only [h,if_true] <;> lia
     . simp only [h,if_false] <;> lia
theorem Fw (its:List wI) (lo hi:Option Int):slicePick its.toArray lo hi none=((its.drop (HT.sIx its.length 0 lo)).take (HT.sIx its.length its.length hi - HT.sIx its.length 0 lo)).toArray:=by
 obtain ⟨h1,h2,h3⟩:=Tp lo hi its.toArray.size;unfold slicePick;rw [h1,h2,h3];simp only [sliceRange_one,pick_run,wZ] <;> rfl
def rSlL (K:wM):V->Option Int->Option Int->Hp->VK->Prop:=fun x lo hi H Q=>∃ a xs,x=.ref a/\SqL K H a xs/\∀ p,H p=none->Q (.ref p) (upd H p (.lst (gN xs lo hi)))
theorem sl_list:SlR X (rSlL X.K):=by
 intro pins s Z H x v vl vu lo hi sl Q I rx hs pl pu h;obtain ⟨a,xs,rfl,hx,q⟩:=h;cases rx;obtain ⟨its,r,ht,hz⟩:=I.list hx;have hlen:=r.length;refine ⟨"list",_,GG.lookup,ht.isList.typeIs,?_⟩;refine wpAny_getItem_list_slice ht.isList hs pl pu .none (by simp) ?_ (by rw [wZ] <;> lia)
 rw [Fw,<- hlen];refine ⟨.ref s.heap.objs.size,_,I.laid (t':=s.toks) (o:=.lst (gN xs lo hi)) (fun b ob q=>wN _ q) (wO _) ?_,rfl,q _ (I.hok.fresh (wO _))⟩;exact ⟨xD (Er xs lo hi) hz,_,0,(r.drop (HT.sIx xs.length 0 lo)).take (HT.sIx xs.length xs.length hi - HT.sIx xs.length 0 lo),wW _ rfl⟩
theorem Gg:V0 X (.type "tuple") (fun xs H Q=>∃ p ys,xs=[.ref p]/\((SqL X.K H p ys/\∀ l,H l=none->Q (.ref l) (upd H l (.tup ys)))\/(SqT X.K H p ys/\Q (.ref p) H))):=by
 intro pins s Z H xs us Q I r h;obtain ⟨p,ys,rfl,h⟩:=h;obtain ⟨u,rfl,rx⟩:=Ri r;cases rx;rcases h with ⟨hq,q⟩ | ⟨hq,q⟩
 . obtain ⟨its,r',pl,hz⟩:=I.list hq
   have hlen:=r'.length; refine call_tuple_list pl.isList (fun h' kp=>?_) (by simp only [wZ] <;> lia)
   have I1:Inv X pins Z H { s with heap:=h' }:=I.kept (t':=s.toks) kp; have I2:Inv X pins Z (upd H h'.objs.size (.tup ys)) { s with heap:=h'.push { cls:=.type "tuple",data:=.seq its.toArray } } :=
     I1.laid (t':=s.toks) (fun b o e=>wN _ e) (wO _) (show ObjOk X.prog X.w _ _ _ (.tup ys) from ⟨hz,its,r',IsTup.new _ _⟩)
   exact ⟨.ref h'.objs.size,_,I2,rfl,q _ (I1.hok.fresh (wO _))⟩
 . obtain ⟨its,r',pl,hz⟩:=I.tuple hq
   exact call_tuple_same pl ⟨.ref p,H,I,rfl,q⟩
def tyV (K:wM) (T:String) (x:V) (H:Hp):Prop:=match x with
 | .str _=>T = "str"
 | .int _=>T = "int"
 | .ref p => (T = "list" /\ ∃ xs, SqL K H p xs) \/ (T = "tuple" /\ ∃ o, K.lookup p = some o /\ o.cls = .type "tuple" /\ o.dict = none) \/
     (T = "dict" /\ ((∃ kvs,H p=some (.dK kvs))\/∃ kvs,H p=some (.dT kvs)))\/(T = "set" /\ ∃ S n,H p=some (.set S n))
 | _=>False
theorem hE {pins:List (wR×Obj)} {Z:St} {H:Hp} {s:wJ} {T:String} {x:V} {v:wI} (I:Inv X pins Z H s) (r:RelV x v) (ty:tyV X.K T x H) :
   s.TypeIs v T/\∀ a,v=.ref a->∃ ob,s.heap.get? a=some ob/\ob.dict=none:=by
 cases x with
 | str z =>
   obtain ⟨t,rfl⟩:=r;cases (show T = "str" from ty);exact ⟨typeIs_str s z t,fun _ e=>nomatch e⟩
 | int i =>
   obtain ⟨t,rfl⟩:=r;cases (show T = "int" from ty);exact ⟨typeIs_int s i t,fun _ e=>nomatch e⟩
 | ref p =>
   cases r; rcases ty with ⟨rfl,xs,hq⟩ | ⟨rfl,o,hk,hc,hd⟩ | ⟨rfl,hk⟩ | ⟨rfl,S,n,hk⟩
   . obtain ⟨its,_,pl,_⟩:=I.list hq
     refine ⟨pl.isList.typeIs,fun a e=>?_⟩;cases e; obtain ⟨o,n,e,c,hd,_⟩:=pl; exact ⟨o,e,hd⟩
   . refine ⟨⟨o,I.kIn p o hk,hc⟩,fun a e=>?_⟩
     cases e; exact ⟨o,I.kIn _ o hk,hd⟩
   . have z : ∃ o, s.heap.get? p = some o /\ o.ExactDict := by
       rcases hk with ⟨kvs,hk⟩ | ⟨kvs,hk⟩
       . obtain ⟨_,_,_,_,o,_,_,e,ex,_⟩:=I.hok p _ hk
         exact ⟨o,e,ex⟩
       . obtain ⟨_,_,_,_,o,_,_,e,ex,_⟩:=I.hok p _ hk
         exact ⟨o,e,ex⟩
     obtain ⟨o,e,ex⟩:=z; refine ⟨⟨o,e,ex.1⟩,fun a e2=>?_⟩;cases e2; exact ⟨o,e,ex.2.1⟩
   . obtain ⟨o,_,_,_,e,ex,_⟩:=I.hok p _ hk
     refine ⟨⟨o,e,ex.1⟩,fun a e2=>?_⟩;cases e2; exact ⟨o,e,ex.2.1⟩
 | _=>exact y3 ty
def tBM0 (K:wM) (T:String) (r:V->List V->Hp->VK->Prop) (to:TE):TE:=fun Z H Q=>to Z H fun x H1=>tyV K T x H1/\r x [] H1 Q
def tBM (K:wM) (T:String) (r:V->List V->Hp->VK->Prop) (to:TE) (t:TA):TE:=fun Z H Q=>to Z H fun x H1=>tyV K T x H1/\t Z H1 fun xs H2=>r x xs H2 Q
variable {o e:Expr} {es:List Expr} {to:TE} {t:TA} {name:Str} {apos cpos:Pos} {T id:String} {r:V->List V->Hp->VK->Prop}
theorem tZ (pa:PlainAttrs T) (slot:Slot T name id) (hty:typeOf (.builtin id)=pure (.type "method_descriptor")) (hm:MtR X id r) (ho:PE X o to)
   (hbase:o8 o name X.env (eval o X.env)=eval o X.env:=by rfl) (hline:(apos.endLine==cpos.line)=true:=by rfl):PE X (.Call (.Attribute o name apos) [] [] cpos) (tBM0 X.K T r to):=by
 intro pins s Z H Q I h;refine wpAny_Call_method0_late hbase hline (thn (ho pins s Z H _ I h) fun v s1 hZ2=>?_);obtain ⟨x,H1,I1,r1,ty,q1⟩:=hZ2;obtain ⟨h1,h2⟩:=hE I1 r1 ty;exact ⟨T,id,pa,slot,hty,h1,h2,AR rfl (PySem.evalArgs_none (hm pins s1 Z H1 x [] v [] Q I1 r1 .nil q1))⟩
theorem Xl (pa:PlainAttrs T) (slot:Slot T name id) (hty:typeOf (.builtin id)=pure (.type "method_descriptor")) (hm:MtR X id r) (ho:PE X o to) (ha:PA X (e::es) t)
   (hbase:o8 o name X.env (eval o X.env)=eval o X.env:=by rfl)
   (hfew:((zY cpos (wU (e::es) X.env)).all (fun x => !x.1)&&(FJ cpos (BX [] X.env)).all (fun x=>x.1.isSome)
     && decide ((e::es).length+([]:List AX).length+(if ([]:List AX).isEmpty then 0 else 1) < 30))=true:=by rfl)
   (hline:(apos.endLine==cpos.line)=true:=by rfl) (hs:wU (e::es) X.env=(false,eval e X.env)::wU es X.env:=by rfl) (hplain:(zY cpos (wU es X.env)).any (·.1)=false:=by rfl) :
   PE X (.Call (.Attribute o name apos) (e::es) [] cpos) (tBM X.K T r to t):=by
 intro pins s Z H Q I h;refine wpAny_Call_method_late hbase hfew hline rfl (thn (ho pins s Z H _ I h) fun v s1 hZ2=>?_);obtain ⟨x,H1,I1,r1,ty,q1⟩:=hZ2;obtain ⟨h1,h2⟩:=hE I1 r1 ty;refine ⟨T,id,pa,slot,hty,h1,h2,?_⟩;have hA:=ha cpos pins s1 Z H1 _ I1 q1;rw [hs] at hA ⊢;refine AR (by show (false||(zY cpos (wU es X.env)).any (·.1))=false; rw [hplain] <;> rfl) (EB ?_)
 exact thn hA fun us s2 hZ2=>by obtain ⟨vs,H2,I2,r2,q2⟩:=hZ2; exact hm pins s2 Z H2 x vs v us Q I2 r1 r2 q2
end
end L2
namespace L2
open PySem PySem.Spec PyProof.Rows
def MtM (X:Cx) (id:String) (r:V->List V->Hp->VK->Prop):Prop :=
 ∀ (pins:List (wR×Obj)) (s:wJ) (Z:St) (H:Hp) (x:V) (xs:List V) (v:wI) (us:List wI) (Q:VK),Inv X pins Z H s->RelV x v->Vals xs us->r x xs H Q ->
   wpAny (xH X.prog X.w) X.A (call (.builtin id) (v::us)) (EP X pins Z Q) X.xe s
theorem Vals.zero {us:List wI} (h:Vals [] us):us=[]:=by cases h; rfl
theorem Vals.uncons {x:V} {xs:List V} {us:List wI} (h:Vals (x::xs) us):∃ u r,us=u::r/\RelV x u/\Vals xs r:=by cases h with | cons a t=>exact ⟨_,_,rfl,a,t⟩
theorem Vals.one {x:V} {us:List wI} (h:Vals [x] us):∃ u,us=[u]/\RelV x u:=by
 obtain ⟨u,r,rfl,a,t⟩:=h.uncons;exact ⟨u,by rw [t.zero],a⟩
theorem Vals.dropLast {xs:List V} {us:List wI} (h:Vals xs us):Vals xs.dropLast us.dropLast:=by
 induction h with
 | nil=>exact .nil
 | cons r t ih =>
   cases t with
   | nil=>exact .nil
   | cons q t'=>exact .cons r ih
theorem Vals.rep {xs:List V} {us:List wI} (h:Vals xs us):∀ k:Nat,Vals (xI k xs).flatten (xI k us).flatten:=by
 intro iN; induction iN with
 | zero=>skip; exact .nil
 | succ k ih =>
   skip
   rw [k7,k7,zQ,zQ]; exact Vals.append h (ih)
theorem aW {α:Type} (l:List α):l.eraseIdx (l.length - 1)=l.dropLast:=by
 induction l with
 | nil=>rfl
 | cons a r ih =>
   cases r with
   | nil=>rfl
   | cons b r =>
     have e:(a::b::r).length - 1=((b::r).length - 1)+1:=by
       have h1:(a::b::r).length=r.length+2:=rfl; have h2:(b::r).length=r.length+1:=rfl;lia
     rw [e,List.eraseIdx_cons_succ,ih];all_goals rfl
theorem gF (its:List wI):∀ (k:Nat) (acc:List wI),
   FH (fun x1 x2=>x1++x2) acc.toArray (xI k its.toArray)=(acc++(xI k its).flatten).toArray:=by
 intro iN; induction iN with
 | zero=>intro acc; simp
 | succ k ih =>
   intro acc; have e:acc.toArray++its.toArray=(acc++its).toArray:=by simp
   have e2:(acc++its)++(xI k its).flatten=acc++(xI (k+1) its).flatten:=by
     rw [k7,zQ,yO]
   rw [<- e2,<- ih (acc++its),<- e,k7,p8]
section
variable {X:Cx} {pins:List (wR×Obj)} {Z:St} {H:Hp} {s:wJ} {l:wR} {xs ys:List V}
theorem Inv.lset {its its':List wI} {n:Nat} {f:Array wI->Array wI} {t':Nat} (I:Inv X pins Z H s) (hH:H l=some (.lst xs))
   (e:s.heap.get? l=some { cls:=.type "list",data:=.seq its.toArray n }) (hf:f its.toArray=its'.toArray) (hv:Vals ys its') (hz:ys.length<=sizeLine) :
   Inv X pins Z (upd H l (.lst ys)) { s with heap:=s.heap.update l (AN f),toks:=t' }:=by
 have q:=PySem.IsL.update e f;rw [hf] at q;refine I.write (x:=l) (e:=l) (by rw [hH]; exact trivial) (.inl rfl) (fun b' u hb hu=>(AY s.heap (AN f) (Ne.symm hb)).trans hu) ⟨_,q⟩ ?_;exact ⟨hz,its',_,hv,q⟩
theorem Inv.lnew {its:List wI} {t':Nat} (I:Inv X pins Z H s) (hv:Vals ys its) (hz:ys.length<=sizeLine) :
   Inv X pins Z (upd H s.heap.objs.size (.lst ys)) { s with heap:=s.heap.push { cls:=.type "list",data:=.seq its.toArray },toks:=t' } :=
 I.laid (fun _ _ q=>wN _ q) (wO _) ⟨hz,its,0,hv,wW _ rfl⟩
theorem Inv.fresh (I:Inv X pins Z H s):H s.heap.objs.size=none:=I.hok.fresh (wO _)
theorem Inv.lstM (I:Inv X pins Z H s) (hH:H l=some (.lst xs)):xs.length<=sizeLine/\∃ (its:List wI) (n:Nat),Vals xs its/\xs.length=its.length/\s.heap.get? l=some { cls:=.type "list",data:=.seq its.toArray n }:=by
 obtain ⟨z,its,n,r,e⟩:=I.hok l _ hH;exact ⟨z,its,n,r,r.length,e⟩
theorem Xo {n:Nat} (h:n<=sizeLine):x4 n=false:=by
 unfold x4;exact decide_eq_false (by lia)
end
section
variable {X:Cx}
def nY:V->List V->Hp->VK->Prop:=fun x vs H Q=>∃ l xs y,x=.ref l/\vs=[y]/\H l=some (.lst xs)/\xs.length < sizeLine/\Q .non (upd H l (.lst (xs++[y])))
theorem Jn:MtM X "list.append" nY:=by
 intro pins s Z H x vs v us Q I rx rv h;obtain ⟨l,xs,y,rfl,rfl,hH,hz,q⟩:=h;cases rx;obtain ⟨u,rfl,ru⟩:=rv.one;obtain ⟨z,its,n,r,hl,e⟩:=I.lstM hH;refine FW F.slot_list_append ⟨_,e,rfl⟩ F.entry_list_append (F.args_list_append_2 _ _) (PySem.list_append l its.toArray n u (by rw [wZ]; lia)) ⟨e,?_⟩;refine ⟨.non,_,I.lset (its':=its++[u]) hH e (by simp) (r.append (.cons ru .nil)) ?_,rfl,q⟩;rw [xG,IM];lia
def nW:V->List V->Hp->VK->Prop:=fun x vs H Q=>∃ l b xs zs,x=.ref l/\vs=[.ref b]/\H l=some (.lst xs)/\H b=some (.lst zs)/\xs.length+zs.length<=sizeLine/\Q .non (upd H l (.lst (xs++zs)))
theorem fM:MtM X "list.extend" nW:=by
 intro pins s Z H x vs v us Q I rx rv h;obtain ⟨l,b,xs,zs,rfl,rfl,hH,hB,hz,q⟩:=h;cases rx;obtain ⟨u,rfl,ru⟩:=rv.one;cases ru;obtain ⟨z,its,n,r,hl,e⟩:=I.lstM hH;obtain ⟨z2,its2,n2,r2,hl2,e2⟩:=I.lstM hB;have hsz:its.toArray.size+its2.toArray.size<=sizeLine:=by rw [wZ,wZ]; lia
 have hlong:¬ (!its.toArray.isEmpty&&x4 (its.toArray.size+its2.toArray.size))=true:=by
   rw [Xo hsz,Bool.and_false]; exact j0
 refine FW F.slot_list_extend ⟨_,e,rfl⟩ F.entry_list_extend (F.args_list_extend_2 _ _)
   (AutoSeq1.list_extend_list_list_0 l its.toArray n b its2.toArray n2 hlong (by rw [wZ]; lia) (by lia)) ⟨e,e2,?_⟩
 refine ⟨.non,_,I.lset (its':=its++its2) hH e (by simp) (r.append r2) ?_,rfl,q⟩;rw [xG];lia
def rPop:V->List V->Hp->VK->Prop:=fun x vs H Q=>∃ l xs y,x=.ref l/\vs=[]/\H l=some (.lst xs)/\xs[xs.length - 1]? = some y/\Q y (upd H l (.lst xs.dropLast))
theorem uN:MtM X "list.pop" rPop:=by
 intro pins s Z H x vs v us Q I rx rv h;obtain ⟨l,xs,y,rfl,rfl,hH,hy,q⟩:=h;cases rx;have hus:=rv.zero;subst hus;obtain ⟨z,its,n,r,hl,e⟩:=I.lstM hH;obtain ⟨u,hu,ru⟩:=r.get hy;have hy':its.toArray[its.toArray.size - 1]? = some u:=by
   show its.toArray[its.length - 1]? = some u;rw [<- q9,<- hl]; exact hu
 refine FW F.slot_list_pop ⟨_,e,rfl⟩ F.entry_list_pop (F.args_list_pop_1 _) (MeetsSeq.list_pop_last l its.toArray n u hy' (by rw [wZ]; lia)) ⟨e,?_⟩;refine ⟨y,_,I.lset (its':=its.dropLast) hH e ?_ r.dropLast ?_,ru,q⟩
 . show its.toArray.eraseIdxIfInBounds (its.toArray.size - 1)=its.dropLast.toArray
   rw [wZ,List.eraseIdxIfInBounds_toArray,aW]
 . rw [List.length_dropLast]
   lia
theorem cW {α:Type} (xs:List α) (k:Nat):(xI k xs).flatten.length=k*xs.length:=by
 induction k with
 | zero=>simp
 | succ k ih=>rw [k7,zQ,xG,ih,Nat.succ_mul,Nat.add_comm]
end
end L2
namespace Att
open PySem PySem.W PySem.Calls PyProof.Rows
theorem Lf {P:EG} {h:yQ}:∀ (ns:List Int) (vs:List wI),WellAll P h vs (ns.map WData.int)->EI vs ns:=by
 intro ns;induction ns with
 | nil =>
   intro vs w; rw [j5] at w; cases w; exact .nil
 | cons n ns ih =>
   intro vs w; rw [wQ] at w;cases w with
   | cons a b =>
     cases a; exact .cons _ _ (ih _ b)
theorem eT {l:OpenLaw} {n:Nat} (hn:l.most=some n) {P:EG} {h:yQ} {args:List WData} {vals:List wI}
   (hpre:l.row.toRowW.claim.pre args=true) (hwl:WellAll P h vals args) :
   ∃ a vs ns,vals=[f8 a]/\args=[WData.list (ns.map WData.int)]/\h.get? a=some { cls:=.type "list",data:=.seq vs.toArray }/\EI vs ns/\ns.length<=n:=by
 have hsh:WShape.hasAll [] args [.list .int]=true:=(pre_splitW hpre).1;have hc:l.pre.holds [] { args:=args }=true:=(pre_splitW hpre).2;obtain ⟨d,r,rfl,h1,h2⟩:=hasAllW_cons hsh;obtain rfl:=hasAllW_nil h2;obtain ⟨xs,rfl,h3⟩:=hasW_list h1;obtain ⟨ns,rfl⟩:=items_int h3;have hlen:ns.length<=n:=by
   unfold OpenLaw.pre at hc; have h4:(WTm.not (.lt (.lit (.int (n:Int))) (.len (.arg 0)))).holds [] { args:=[.list (ns.map .int)] }=true:=by
     have h4:=(holds_andW hc).1; rw [hn] at h4; exact h4
   have h5:=condW_of h4 (w_not (w_lt w_lit (w_len_list (w_arg rfl)))); rw [wL] at h5; refine Nat.le_of_not_lt fun q=>?_;have q':(n:Int) < ((ns.length:Nat):Int):=by lia
   first
     | (rw [decide_eq_true q'] at h5; exact absurd h5 (by decide))
     | (simp at h5; lia)
 cases hwl with
 | cons w1 w2 =>
   cases w2;cases w1 with
   | list ho hall=>exact ⟨_,_,ns,rfl,rfl,ho,Lf ns _ hall,hlen⟩
theorem fC (l:OpenLaw) (args:List WData):l.row.toRowW.claim.post args (.bool true) args=true :=
 postW_of (r:=l.row.toRowW) (X:=(true==true))
   (show WShape.has [] (.bool true) .bool=true by first | rfl | decide | simp [WShape.has,WShape.arms,WShape.armsAll])
   (show (WTm.eq .res (.lit (.bool true))).value [] { args:=args,res:=some (.bool true),after:=args }=some (.bool (true==true)) from w_eq_bool (w_res rfl) w_lit) rfl
theorem attach_call {l:OpenLaw} {n:Nat} {q:xN} {loose:List Str} {XP:(Str->Option wI)->yQ->Prop} {YP:xT->yQ->Prop} {d:DefRec}
   (hn:l.most=some n) (hdf:d.params.defaults=[])
   (call:∀ (w:xT) (s₀ s₁:wJ) (mg mb:Str->Option wI) (fa:wR) (o:Obj) (pm cd doc:wI) (a:wR) (vs:List wI) (ns:List Int),
     Ground q loose [] XP w s₀ mg mb s₁.heap->YP w s₁.heap ->
     s₁.heap.get? fa=some o->o.data=.func (docDef d.name d.params d.body d.scope pm cd doc)->s₁.heap.CodeRec cd d.name->mg d.name=some (.ref fa) ->
     s₁.heap.get? a=some { cls:=.type "list",data:=.seq vs.toArray }->EI vs ns->ns.length<=n->s₁.gens = #[] ->
     CK (xH l.prog w) GK (.call (.ref fa) ⟨[.ref a],[]⟩) (fun r s'=>r=.ok (.ret (.bool true))/\OldK s₁.heap s'.heap/\s'.os=s₁.os/\EJ s'.gens) s₁) :
   WalkO q loose XP YP l.row.toRowW d [] (fun f vs=>PySem.call f vs):=by
 intro w s₀ s₁ mg mb G Y fa o pm cd doc dV kV ho hd hcd hD hmg hg args vals as hpre hlay hrd hwl hlo;obtain rfl:dV=.none:=Dflts.none hD hdf;obtain rfl:kV=.none:=Dflts.noKw hD;obtain ⟨a,vs,ns,rfl,rfl,hobj,hints,hlen⟩:=eT hn hpre hwl;refine enter_call (AG (call w s₀ s₁ mg mb fa o pm cd doc a vs ns G Y ho (fd_plain hd) hcd hmg hobj hints hlen hg) fun r s' hq=>?_);obtain ⟨rfl,h2,h3,h4⟩:=hq;exact ⟨.inl ⟨.bool true,.bool true,[],rfl,fun _=>rfl,.bool true,fC l _,fun _=>⟨GW,fun _ hm=>(nomatch hm)⟩⟩,h2,h3,h4⟩
end Att
namespace L2
open PySem PySem.Spec PyProof.Rows
theorem Rh:∀ {vs:List wI} {ns:List Int},EI vs ns->Vals (ns.map V.int) vs
 | _,_,.nil=>.nil
 | _,_,.cons n t h=>.cons ⟨t,rfl⟩ (Rh h)
def wD (H:Hp):Prop:=∀ b,H b=none\/∃ o xs,H b=some (.frz o (.lst xs))
theorem lA {P:xN} {w:xT} {K:wM} {mg mb:Str->Option wI} {CX:CXT} {k:Nat} {fa a:wR} {fd:BO} {x:Str} {sp:Sp} {s₁:wJ} {vs:List wI} {ns:List Int}
   (KX:K.In s₁.heap) (hns:s₁.heap.Ns yV mg) (hb:s₁.heap.Ns EF mb) (hbb:∀ x:Str,x ≠ "__name__" -> mb x=AH x) (hlim:s₁.heap.NoLimit) (hg:s₁.gens = #[])
   (ha:s₁.heap.get? a=some { cls:=.type "list",data:=.seq vs.toArray }) (hi:EI vs ns) (hl:ns.length<=sizeLine) (hr:Room k GK)
   (F:∀ base:yQ,K.In base->base.Ns yV mg->FnOk P w K mg base CX k fa fd [x] sp) (hbind:∀ (s:wJ) (u:wI),BindsTo s fd ⟨[u],[]⟩ [(x,u)])
   (hsp:∀ H:Hp,wD H->SqL K H a (ns.map V.int)->sp [.ref a] H (fun v _=>v=.bl true) fun _ _ _=>False)
   (hCX:∀ H e s',CX [] H s₁ (fun _ _ _=>False) e s'->False) :
   CK (xH P w) GK (.call (.ref fa) ⟨[.ref a],[]⟩) (fun r s'=>r=.ok (.ret (.bool true))/\OldK s₁.heap s'.heap/\s'.os=s₁.os/\EJ s'.gens) s₁:=by
 have rv:=Rh hi;have lenV:=hi.length;have core : ∀ H : Hp, wD H -> SqL K H a (ns.map V.int) -> HOk P w H s₁.heap -> (∀ b, H b ≠ none -> b = a) -> (H a ≠ none -> K.lookup a = none) ->
     CK (xH P w) GK (.call (.ref fa) ⟨[.ref a],[]⟩) (fun r s'=>r=.ok (.ret (.bool true))/\OldK s₁.heap s'.heap/\s'.os=s₁.os/\EJ s'.gens) s₁:=by
   intro H hO hS hok hA hK; have base_of:∀ {b:wR} {o:Obj},s₁.heap.get? b=some o->H b=none->(Uq s₁.heap H).get? b=some o:=fun e n=>lL e n;have noA:∀ {b:wR} {o:Obj} {es:Array yU} {ep:Nat},s₁.heap.get? b=some o->o.data=.dict es ep->H b=none:=fun {b o es ep} e d=>by
     cases q:H b with
     | none=>rfl
     | some u =>
       have e':b=a:=hA b (by rw [q]; simp);subst e'; rw [ha] at e; cases e; have d':Data.seq vs.toArray _=Data.dict es ep:=d;cases d'
   have nsK:∀ {b:wR} {m:Str->Option wI},s₁.heap.Ns b m->(Uq s₁.heap H).Ns b m:=fun {b m} ⟨o,es,ep,e,d,r⟩=>⟨o,es,ep,base_of e (noA e d),d,r⟩;have hKb:K.In (Uq s₁.heap H):=fun b o e=>base_of (KX b o e) (by
     cases q:H b with
     | none=>rfl
     | some u =>
       have e':b=a:=hA b (by rw [q]; simp);subst e'; rw [hK (by rw [q]; simp)] at e; cases e)
   have hM:Mod K mg (Uq s₁.heap H):=⟨hKb,nsK hns,⟨mb,nsK hb,hbb⟩,let ⟨mc,h1,h2⟩:=hlim; ⟨mc,nsK h1,h2⟩⟩;have e0:Env0 P w K mg (Uq s₁.heap H) GK [] s₁ H:=⟨rfl,hM,fun b o e=>pB e,Nat.le_of_eq (gD _ _),trivial,fun b hb=>absurd (show b∈([]:List wR) from hb) (by simp),hok,.of_eq hg⟩;refine AG ((F _ hKb (nsK hns)).run GK [] s₁ H ⟨[.ref a],[]⟩ [.ref a] [.ref a] _ _ hr e0 (hbind s₁ (.ref a)) (.cons rfl .nil) (hsp H hO hS)) fun r s' h=>?_;cases r with
   | error e=>exact (hCX H e s' h).elim
   | ok fl =>
     cases fl with
     | next=>exact y3 h
     | brk=>exact y3 h
     | cont=>exact y3 h
     | ret u =>
       obtain ⟨v,H',os,bare,un,hok',r',q⟩:=h; have q':v=.bl true:=q; subst q'; obtain rfl:u=EW true:=r'; refine ⟨rfl,OldK.of_keep fun b o e=>?_,os,bare⟩;cases q:H b with
       | none=>exact un.keep b o e q (by intro z; exact absurd (show b∈([]:List wR) from z) (by simp)) (by simp)
       | some u =>
         rcases hO b with z | ⟨ob,xs,z⟩
         . rw [q] at z; cases z
         . have z2:=un.frzs b ob _ z
           obtain ⟨e1,_⟩:=hok b _ z; obtain ⟨e2,_⟩:=hok' b _ z2; rw [e] at e1; cases e1; exact e2
 cases hk:K.lookup a with
 | some o =>
   have e:=KX a o hk; rw [ha] at e; cases e; refine core (fun _=>none) (fun _=>.inl rfl) (.inr ⟨_,vs.toArray,_,hk,rfl,rfl,rfl,by rw [wZ,lenV]; exact hl,by simpa using rv⟩) (fun b u z=>by have z':(none:Option HO)=some u:=z; cases z') (fun b z=>absurd rfl z) fun z=>absurd rfl z
 | none =>
   refine core (fun b=>if b=a then some (.frz { cls:=.type "list",data:=.seq vs.toArray } (.lst (ns.map V.int))) else none) (fun b=>?_) (.inl (.inr ⟨{ cls:=.type "list",data:=.seq vs.toArray },if_pos rfl⟩)) (fun b u z=>?_) (fun b z=>?_) fun _=>hk
   . by_cases hb:b=a
     . exact .inr ⟨_,_,if_pos hb⟩
     . exact .inl (if_neg hb)
   . by_cases hb:b=a
     . have z':=(if_pos hb).symm.trans z
       cases z'; subst hb; exact ⟨ha,by rw [wL]; exact hl,vs,_,rv,ha⟩
     . have z':=(if_neg hb).symm.trans z
       cases z'
   . by_cases hb:b=a
     . exact hb
     . exact absurd (if_neg hb) z
end L2
namespace L2
open PySem PySem.Spec PyProof.Rows
theorem mY {l:PySem.W.OpenLaw} {n k:Nat} {q:xN} {loose:List Str} {XP:(Str->Option wI)->yQ->Prop} {YP:xT->yQ->Prop} {d:DefRec} {K:EG->wM} {CX:xT->CXT} {sp:xT->Sp} {x:Str}
   (hn:l.most=some n) (hn2:n<=sizeLine) (hdf:d.params.defaults=[]) (hr:Room k GK)
   (hY:∀ (w:xT) (h:yQ),YP w h->(K w.params).In h)
   (F:∀ (w:xT) (mg:Str->Option wI) (fa:wR) (h:yQ),(K w.params).In h->h.Ns yV mg->mg d.name=some (.ref fa) ->
     ∃ fd:BO,(∀ (s:wJ) (u:wI),BindsTo s fd ⟨[u],[]⟩ [(x,u)]) /\
       ∀ base:yQ,(K w.params).In base->base.Ns yV mg->FnOk l.prog w (K w.params) mg base (CX w) k fa fd [x] (sp w))
   (hsp:∀ (w:xT) (H:Hp) (a:wR) (ns:List Int),ns.length<=n->wD H->SqL (K w.params) H a (ns.map V.int)->sp w [.ref a] H (fun v _=>v=.bl true) fun _ _ _=>False)
   (hCX:∀ (w:xT) (H:Hp) (s:wJ) (e:wI) (s':wJ),CX w [] H s (fun _ _ _=>False) e s'->False) :
   PySem.W.WalkO q loose XP YP l.row.toRowW d [] (fun f vs=>PySem.call f vs):=by
 refine Att.attach_call hn hdf fun w s₀ s₁ mg mb fa o pm cd doc a vs ns G Y ho hd hcd hmg hobj hints hlen hg=>?_;have KX:=hY w _ Y;obtain ⟨fd,hb,hF⟩:=F w mg fa _ KX G.T.g hmg;exact lA KX G.T.g G.T.b G.T.builtins G.T.nolimit hg hobj hints (xD hlen hn2) hr hF hb (fun H hO hS=>hsp w H a ns hlen hO hS) fun H e s'=>hCX w H s₁ e s'
end L2
namespace L2
open PySem PySem.Spec PyProof.Rows
def K0 (s:n8):Arguments:=match s with
 | .FunctionDef _ a _ _ _ _ _ _ _ _=>a
 | _=>{ posonlyargs:=[],args:=[],vararg:=none,kwonlyargs:=[],kw_defaults:=[],kwarg:=none,defaults:=[] }
def B3 (s:n8):List n8:=match s with
 | .FunctionDef _ _ b _ _ _ _ _ _ _=>b
 | _=>[]
def A3 (s:n8):Scope:=match s with
 | .FunctionDef _ _ _ _ _ _ sc _ _ _=>sc
 | _=>{ kind:=.function,names:=[],isGenerator:=false,isCoroutine:=false }
abbrev CX0:CXT:=fun _ _ _ _ _ _=>False
abbrev E0:XK:=fun _ _ _=>False
theorem cK {X:Cx}:bS CX0 X E0:=fun _ _ _ _ _ _ _ h=>h.elim
structure Fun (K:wM) (x qual:Str) (st:n8) (f:wR) (fd:BO):Prop where
 ex:∃ (oc:wI) (od:Option wR) (kV doc pm:wI) (an:Option wR) (cdv ct:wI) (osl:Array (Option wI)),
   fd=yT x qual (K0 st) (B3 st) (A3 st) .none kV doc pm an cdv ct/\K.lookup f=some ⟨oc,od,.func fd,osl⟩/\j3 K cdv qual=true
 kp:zL K (.ref f)=true
section
variable {P:xN} {w:xT} {K:wM} {mg:Str->Option wI} {base:yQ}
theorem Fun.ok {x qual:Str} {st:n8} {f:wR} {fd:BO} {N ps:List Str} {k:Nat} {sp:Sp} (F:Fun K x qual st f fd) (S:FnScope N ps (A3 st)) (len:∀ vs H Q E,sp vs H Q E->vs.length=ps.length)
   (hbody:∀ (cdv:wI) (A:yS) (outer:List Env) (s:wJ) (H:Hp) (vs:List V) (Q:VK) (E:XK),Room k (A.deeper (FV qual (A3 st) s.heap.objs.size f cdv))->sp vs H Q E ->
     ∃ t,PSs (gM CX0 P w K mg base N qual (A3 st) f cdv A outer s H E).nox (B3 st) t/\t { nx:=fun _ H'=>Q .non H',rt:=Q } (Bj N vs) H):FnOk P w K mg base CX0 (k+1) f fd ps sp:=by
 obtain ⟨oc,od,kV,doc,pm,an,cdv,ct,osl,rfl,lk,hcd⟩:=F.ex;refine fn_of lk hcd S len fun A outer s H vs Q E hr hsp=>?_;obtain ⟨t,h,q⟩:=hbody cdv A outer s H vs Q E hr hsp;exact ⟨t,h.nox,q⟩
theorem Fun.binds {x qual:Str} {st:n8} {f:wR} {fd:BO} {ps:List Str} (F:Fun K x qual st f fd)
   (h:∀ (kV doc pm:wI) (an:Option wR) (cdv ct:wI) (us:List wI),us.length=ps.length->CS (yT x qual (K0 st) (B3 st) (A3 st) .none kV doc pm an cdv ct) ⟨us,[]⟩=pure (ps.zip us)):Binds K fd ps []:=by
 obtain ⟨oc,od,kV,doc,pm,an,cdv,ct,osl,rfl,lk,hcd⟩:=F.ex;exact .all (h kV doc pm an cdv ct)
theorem lP {x qual:Str} {st:n8} {f:wR} {oc:wI} {od an:Option wR} {osl:Array (Option wI)} {kV doc pm cdv ct:wI} (l:K.lookup f=some ⟨oc,od,.func (yT x qual (K0 st) (B3 st) (A3 st) .none kV doc pm an cdv ct),osl⟩)
   (c:j3 K cdv qual=true) (k:zL K (.ref f)=true):Fun K x qual st f (yT x qual (K0 st) (B3 st) (A3 st) .none kV doc pm an cdv ct):=⟨⟨oc,od,kV,doc,pm,an,cdv,ct,osl,rfl,l,c⟩,k⟩
end
def Same (H H':Hp):Prop:=∀ b o,H b=some o->H' b=some o
theorem Same.refl (H:Hp):Same H H:=fun _ _ h=>h
theorem Same.trans {H H1 H2:Hp} (a:Same H H1) (b:Same H1 H2):Same H H2:=fun c o h=>b c o (a c o h)
theorem Same.free {H H':Hp} (e:Same H H') {l:wR} (h:H' l=Option.none):H l=Option.none:=by
 cases q:H l with
 | none=>rfl
 | some o =>
   rw [e l o q] at h; cases h
end L2
section
namespace Sm
open PySem PySem.SetTable
open L2 (isK Gr Yh Ex)
mutual
theorem eqvK:∀ (a b:wF),isK a=true->isK b=true->(xE a b=true↔a=b)
 | .int i,.int j,_,_=>by simp [xE]
 | .str x,.str y,_,_=>by simp [xE]
 | .tuple xs,.tuple ys,ha,hb=>by
   simp only [xE,GS]; exact sB xs ys (by simpa [isK] using ha) (by simpa [isK] using hb)
 | .int _,.str _,_,_ | .int _,.tuple _,_,_ | .str _,.int _,_,_ | .str _,.tuple _,_,_ | .tuple _,.int _,_,_ | .tuple _,.str _,_,_=>by simp [xE]
 | .none,_,h,_ | .bool _,_,h,_ | .list _,_,h,_ | .dict _,_,h,_=>by simp [isK] at h
 | .int _,.none,_,h | .int _,.bool _,_,h | .int _,.list _,_,h | .int _,.dict _,_,h=>by simp [isK] at h
 | .str _,.none,_,h | .str _,.bool _,_,h | .str _,.list _,_,h | .str _,.dict _,_,h=>by simp [isK] at h
 | .tuple _,.none,_,h | .tuple _,.bool _,_,h | .tuple _,.list _,_,h | .tuple _,.dict _,_,h=>by simp [isK] at h
theorem sB:∀ (a b:List wF),Gr a=true->Gr b=true->(AA a b=true↔a=b)
 | [],[],_,_=>by simp [AA]
 | [],_::_,_,_=>by simp [AA]
 | _::_,[],_,_=>by simp [AA]
 | x::xs,y::ys,ha,hb=>by
   simp only [Gr,xC] at ha hb; simp only [AA,xC,z8]; rw [eqvK x y ha.1 hb.1,sB xs ys ha.2 hb.2]
end
section
variable {prog:xN} {w:xT} {E:wI->wJ->Prop}
mutual
theorem Oq:∀ (k:wF) (v:wI) (as:List wR) (A:yS) (s:wJ) (Q:Int->wJ->Prop),isK k=true->Reads s.heap v k as->A.units+k.depth < k5 ->
   (∀ tk,s.toks<=tk->Q (Yh w k) { s with toks:=tk })->wpAny (xH prog w) A (pyHash v) Q E s
 | .int i,_,_,A,s,Q,_,x,_,h=>by cases x; exact wpAny_pyHash_int (h _ (z0 _))
 | .str y,_,_,A,s,Q,_,x,_,h=>by cases x; exact wpAny_pyHash_str (h _ (z0 _))
 | .tuple xs,_,_,A,s,Q,hk,x,hu,h=>by
   cases x with
   | tuple hg hc hd hr =>
     rename_i _ a o vs n;refine PySem.W.pyHash_slot (T := "tuple") ⟨_,hg,hc⟩ F.slot_tuple_hash F.entry_tuple_hash (F.args_tuple_hash_1 _) (GZ _) (.inr (by lia)) ?_;show wpAny _ _ (BH (.ref a)>>=_) _ _ s;refine wG (wpAny_tupleItemsOf hg hd ?_); refine wG ?_; rw [<- Array.forIn_toList]; refine Sk xs _ _ A.in1 s #[] _ (by simpa [isK] using hk) hr (by simp only [yX,Around.in1_units] at hu ⊢; lia) fun tk b ht hb=>?_;show wpAny _ _ (retInt (FI b.toList)) _ _ _;rw [hb]; exact wG (wpAny_mkInt (wH ⟨_,_,rfl,h _ (BD ht)⟩))
 | .none,_,_,_,_,_,hk,_,_,_ | .bool _,_,_,_,_,_,hk,_,_,_ | .list _,_,_,_,_,_,hk,_,_,_ | .dict _,_,_,_,_,_,hk,_,_,_=>by simp [isK] at hk
theorem Sk:∀ (xs:List wF) (vs:List wI) (as:List wR) (A:yS) (s:wJ) (b:Array Int) (Q:Array Int->wJ->Prop),Gr xs=true->IK s.heap vs xs as ->
   A.units+yW xs < k5->(∀ tk b',s.toks<=tk->b'.toList=b.toList++Ex w xs->Q b' { s with toks:=tk }) ->
   wpAny (xH prog w) A (forIn vs b fun x r=>do let h <- pyHash x; pure PUnit.unit; pure (l8 (r.push h))) Q E s
 | [],_,_,A,s,b,Q,_,x,_,h=>by cases x; exact wH (h s.toks b (wO _) (by simp [Ex]))
 | k::xs,_,_,A,s,b,Q,hk,x,hu,h=>by
   cases x with
   | cons x1 x2 =>
     simp only [Gr,xC,yW] at hk hu; rw [GC]; refine wG (wG (Oq k _ _ A s _ hk.1 x1 (by lia) fun tk ht=>?_));refine wG (wH (wH ?_)); exact Sk xs _ _ A _ _ Q hk.2 x2 (by lia) fun tk' b' ht' hb=>h tk' b' (xD ht ht') (by simp [hb,Ex])
end
end
section
variable {prog:xN} {w:xT} {A:yS} {E:wI->wJ->Prop}
mutual
theorem Kt:∀ (fuel:Nat) (k:wF) (v:wI) (as:List wR) (s:wJ) (Q:Bool->wJ->Prop),isK k=true->k.depth<=fuel->Reads s.heap v k as->Q true s ->
   wpAny (xH prog w) A (eqIsQuiet fuel v) Q E s
 | fuel,.int _,_,_,s,Q,_,_,x,h=>by cases x; rw [eqIsQuiet_byValue _ rfl]; exact wH h
 | fuel,.str _,_,_,s,Q,_,_,x,h=>by cases x; rw [eqIsQuiet_byValue _ rfl]; exact wH h
 | 0,.tuple _,_,_,s,Q,_,hd,x,h=>by simp [yX] at hd
 | fuel+1,.tuple xs,_,_,s,Q,hk,hdp,x,h=>by
   cases x with
   | tuple hg hc hd hr =>
     rename_i _ a o vs n;have hT:s.TypeIs (.ref a) "tuple" := ⟨_,hg,hc⟩; unfold eqIsQuiet; refine wG (l3 hT F.slot_tuple_eq.lookup ?_); show wpAny _ _ (isInstance (.ref a) (.type "tuple")>>=_) _ _ s;refine wG (AE hT isSubtype_tuple_tuple ?_); simp only [FE,xY,if_false]; refine wG (HW hg hd ?_); refine wG ?_; show wpAny _ _ (forIn vs _ _) _ _ s;rw [<- Array.forIn_toList]; refine Nz fuel xs _ _ s _ (by simpa [isK] using hk) (by simp only [yX] at hdp; lia) hr ?_;exact wH h
 | _,.none,_,_,_,_,hk,_,_,_ | _,.bool _,_,_,_,_,hk,_,_,_ | _,.list _,_,_,_,_,hk,_,_,_ | _,.dict _,_,_,_,_,hk,_,_,_=>by simp [isK] at hk
theorem Nz:∀ (fuel:Nat) (xs:List wF) (vs:List wI) (as:List wR) (s:wJ) (Q:Option Bool×Unit->wJ->Prop),Gr xs=true->yW xs<=fuel->IK s.heap vs xs as ->
   Q (none,()) s ->
   wpAny (xH prog w) A (forIn vs ((none,()):Option Bool×Unit) fun x r=>do
     let b <- eqIsQuiet fuel x
     if (!b)=true then pure (ForInStep.done (some false,())) else do
       pure PUnit.unit
       pure (l8 (none,()))) Q E s
 | _,[],_,_,s,Q,_,_,x,h1=>by cases x; exact wH h1
 | fuel,k::xs,_,_,s,Q,hk,hdp,x,h1=>by
   cases x with
   | cons x1 x2 =>
     simp only [Gr,xC,yW] at hk hdp; rw [GC]; refine wG (wG (Kt fuel k _ _ s _ hk.1 (by lia) x1 ?_));simp only [FE,xY,if_false]; exact wH (Nz fuel xs _ _ s Q hk.2 (by lia) x2 h1)
end
end
end Sm
end
section
namespace Sm
open PySem PySem.Spec PyProof.Rows L2
abbrev St:=L2.St
section
variable {prog:xN} {w:xT} {A:yS} {R:Result->wJ->Prop} {s:wJ}
theorem Uz {elt target iter:Expr} {ifs:List Expr} {scope:Scope} {pos:Pos} {it acc:wI} {env:Env} (I:Nat->wJ->Prop)
   (turn:∀ n s,I n s->wpAny (xH prog w) A (pyNext it) (fun r s₁=>match r with
     | none=>R (.ok .next) s₁
     | some v => wpAny (xH prog w) A (EM target it v) (fun _ s₁' => wpAny (xH prog w) A (FK target env v) (fun _ s₂ =>
         wpAny (xH prog w) A (forIn ifs true fun c r=>if r=true then do let ok <- isTrue c env (eval c env); pure (l8 ok) else pure (l8 r)) (fun ok s₃ =>
           if ok=true then wpAny (xH prog w) A (eval elt env) (fun x s₄ =>
             wpAny (xH prog w) A (call (.builtin "list.append") [acc,x]) (fun _ s₅=>∃ m,m < n/\I m s₅) (fun _ _=>False) s₄) (fun _ _=>False) s₃
           else ∃ m,m < n/\I m s₃) (fun _ _=>False) s₂) (fun _ _=>False) s₁') (fun _ _=>False) s₁) (fun _ _=>False) s)
   (n:Nat) (h:I n s):CK (xH prog w) A (.compLoop (.ListComp elt [⟨target,iter,ifs,0⟩] scope pos) 0 it acc env) R s:=by
 refine codeAny_loop rfl I (fun n s hI=>?_) n h;show wpAny _ A ((compTurn (.ListComp elt [⟨target,iter,ifs,0⟩] scope pos) 0 it acc env).onRaise (fun x=>do noteFrame x env; theTreesLotGoes x)) _ _ s;refine wpAny_noted ?_;rw [compTurn_list];refine wG (wpAny_standAt (wG (zM (turn n s hI) (fun r s₁ h₁=>?_) fun _ _ h'=>h'.elim)));cases r with
 | none=>exact wH h₁
 | some v =>
   refine wG (zM h₁ (fun _ s₁' h₁'=>?_) fun _ _ h'=>h'.elim);refine wG (zM h₁' (fun _ s₂ h₂=>wG (zM h₂ (fun ok s₃ h₃=>?_) fun _ _ h'=>h'.elim)) fun _ _ h'=>h'.elim);cases ok with
   | false=>exact wH ⟨rfl,h₃⟩
   | true =>
     exact wG (wG (zM h₃ (fun x s₄ h₄=>wG (zM h₄ (fun _ s₅ h₅=>wH (wH ⟨rfl,h₅⟩)) fun _ _ h'=>h'.elim)) fun _ _ h'=>h'.elim))
end
def Zj (X:Cx) (s₃:wJ) (H₃:Hp) (scope:Scope) (cl:List (Str×wR)) (N':List Str) (fp:List wR):Cx :=
 { X with N:=N',s₀:=s₃,H₀:=H₃,env:=compEnvC scope cl s₃.heap.objs.size X.env,outer:=X.stack,stack:=X.stack,ex:=fp,fn:=fun _=>false,pn:=[],xe:=fun _ _=>False }
structure Blk (X X':Cx) (N':List Str) (sc':Scope):Prop where
 prog:X'.prog=X.prog
 w:X'.w=X.w
 K:X'.K=X.K
 mg:X'.mg=X.mg
 base:X'.base=X.base
 A:X'.A=X.A
 calm:X'.calm=X.calm
 N:X'.N=N'
 sc:X'.env.scope=sc'
 xe:X'.xe=fun _ _=>False
structure Clos (X:Cx) (scope:Scope) (cl:List (Str×wR)):Prop where
 clo:closureFor scope X.env=pure cl
 sub:∀ x c,cl.lookup x=some c->X.env.cells.lookup x=some c
 has:∀ x,(k8 scope X.env).names.lookup x=some .cell\/(k8 scope X.env).names.lookup x=some .free->∃ c,cl.lookup x=some c
section
variable {X:Cx} {pins:List (wR×Obj)} {Z:St} {H:Hp} {s₃:wJ}
theorem vW {scope:Scope} {cl:List (Str×wR)} {N':List Str} {fp:List wR} (I:Inv X pins Z H s₃) (hk:scope.kind=.function) (C:Clos X scope cl) (hfp:∀ b∈fp,Re X pins H b) (hlt:∀ b∈fp,b < s₃.heap.objs.size) :
   (Zj X s₃ H scope cl N' fp).Ok where
 mod:=I.ok.mod
 kind:=hk
 glob:=I.ok.glob
 blt:=I.ok.blt
 above:=wO _
 inj:=fun x y c h1 h2=>I.ok.inj x y c (C.sub x c h1) (C.sub y c h2)
 has:=fun x h=>C.has x h
 cab:=fun x c h=>nomatch h
 hd:=I.ok.hd
 frames:=I.ok.frames
 stk:=.inl rfl
 exf:=fun b hb=>⟨xU (hlt b hb),fun x c h=>(hfp b hb).2.2.2.2.1 x c (C.sub x c h)⟩
 bs:=fun b o e=>I.bs b o e
 bsz:=xD I.ok.bsz I.sz
 noex:=fun b o e hb=>by
   rcases (hfp b hb).2.2.2.1 with z | z
   . exact I.ok.noex b o e z
   . exact absurd (xB (xA e) (xD I.ok.bsz z)) (j7 _)
 exfs:=fun b hb z=>by
   rcases wK.mp (I.stkSub b z) with q | q
   . exact (hfp b hb).2.1 q
   . exact (hfp b hb).2.2.1 q
 funs:=I.stack
 frf:=I.stkFree
def Dz (Z:St) (cap:List Nat):St:=cap.map fun j=>Z[j]?.join
theorem rB {scope:Scope} {cl:List (Str×wR)} {xs:List Str} {cap:List Nat} {capN:List Str} {fp:List wR} {h₁:yQ} {tk:Nat} (I:Inv X pins Z H s₃) (hk:scope.kind=.function) (C:Clos X scope cl) (hfp:∀ b∈fp,Re X pins H b) (hlt:∀ b∈fp,b < s₃.heap.objs.size)
   (hcap:cap.map (fun j=>X.N[j]?)=capN.map some) (hcl:∀ x∈capN,(k8 scope X.env).names.lookup x=some .cell\/(k8 scope X.env).names.lookup x=some .free)
   (hvis:∀ x∈capN,X.env.scope.names.lookup x=some .cell\/X.env.scope.names.lookup x=some .free) {m:Str->Option wI}
   (hns:h₁.Ns s₃.heap.objs.size m) (old:∀ b o,s₃.heap.get? b=some o->h₁.get? b=some o) :
   Inv (Zj X s₃ H scope cl (xs++capN) fp) [] (xs.map (fun _=>none)++Dz Z cap) H { s₃ with heap:=h₁,toks:=tk }:=by
 have hlen:cap.length=capN.length:=by simpa using congrArg AO hcap
 refine ⟨vW I hk C hfp hlt,rfl,I.bare,Un.kept old,⟨m,hns,fun i x v e1 e2 e3=>?_⟩,fun x c e=>?_,I.hok.fresh (wO _),fun x c e=>I.freeC x c (C.sub x c e),fun p hp=>absurd (show p∈([]:List (wR×Obj)) from hp) (by simp),I.hok.kept old,?_⟩
 . have e1':(xs++capN)[i]? = some x:=e1
   by_cases hi:i < xs.length
   . rw [yD (by simpa using hi),xQ] at e2
     cases q:xs[i]? with
     | none=>rw [q] at e2; cases e2
     | some z=>rw [q] at e2; cases e2
   . rw [yG (by simpa using hi)] at e2
     rw [yG (by lia)] at e1'; rw [wL] at e2;generalize i - xs.length=j at e1' e2;unfold Dz at e2; rw [xQ] at e2; have hc:(cap.map (fun j=>X.N[j]?))[j]? = some (some x):=by rw [hcap,xQ,e1']; rfl
     rw [xQ] at hc;cases q:cap[j]? with
     | none=>rw [q] at e2; cases e2
     | some k =>
       rw [q] at e2 hc; simp only [BQ] at e2 hc; have hc':X.N[k]? = some x:=yM hc; have hs:Z[k]? = some (some v):=by
         cases z:Z[k]? with
         | none=>rw [z] at e2; cases e2
         | some z'=>rw [z] at e2; cases z' with
           | none=>cases e2
           | some z''=>cases e2; rfl
       have hx:x∈capN:=c8 e1'; obtain ⟨m',hm',hl'⟩:=I.loc; obtain ⟨u,r,l⟩:=hl' k x v hc' hs (by rcases hvis x hx with z | z; exact .inr (.inl z); exact .inr (.inr z));refine ⟨u,r,.inr ⟨hcl x hx,?_⟩⟩; obtain ⟨c,hcc⟩:=C.has x (hcl x hx); refine ⟨c,hcc,?_⟩; rcases l with ⟨z,_⟩ | ⟨_,c',e',z⟩
       . have z':X.env.scope.names.lookup x=some .local:=z
         rcases hvis x hx with y | y <;> (rw [z'] at y; cases y)
       . rw [C.sub x c hcc] at e'; cases e'
         obtain ⟨o,ho,hd⟩:=z; exact ⟨o,old _ _ ho,hd⟩
 . obtain ⟨v,o,ho,hd⟩:=I.cell x c (C.sub x c e)
   exact ⟨v,o,old _ _ ho,hd⟩
 . show (xs.map (fun _=>none)++Dz Z cap).length=(xs++capN).length
   unfold Dz; rw [xG,xG,wL,wL,hlen]
end
def Wk (Z1 Z2:St):Prop:=Z1.length=Z2.length/\∀ (i:Nat) v,Z1[i]? = some (some v)->Z2[i]? = some (some v)
def bT (wi:TI) (Zb:St->St) (g:TG) (tt:TT) (te:TE):TE:=fun Z H Q=>wi Z H fun J H1=>∀ D,H1 D=none->∃ W:Nat->Nat->Hp->Prop,(∃ m,W 0 m (upd H1 D (.lst [])))/\∀ i m H,W i m H ->
 (J.stop i H/\Q (.ref D) H)\/(J.go i H/\∃ N:Hp->Prop,(∀ H',N H'->∃ m',m' < m/\W (i+1) m' H')/\∀ x H',J.yld i H x H'->g x (Zb Z) H' fun Z2 H2=>Wk (Zb Z) Z2/\tt Z2 H2 fun b H3 =>
   if b=true then te Z2 H3 fun y H4=>∃ acc,H4 D=some (.lst acc)/\acc.length < sizeLine/\N (upd H4 D (.lst (acc++[y]))) else N H3)
def PTs (X:Cx) (ifs:List Expr) (t:TT):Prop :=
 ∀ (pins:List (wR×Obj)) (s:wJ) (Z:St) (H:Hp) (Q:Bool->Hp->Prop),Inv X pins Z H s->t Z H Q ->
   wpAny (xH X.prog X.w) X.A (forIn ifs true fun c r=>if r=true then do let ok <- isTrue c X.env (eval c X.env); pure (l8 ok) else pure (l8 r)) (TP X pins Z Q) X.xe s
theorem oE {X:Cx}:PTs X [] (fun _ H Q=>Q true H):=fun _ _ _ H _ I h=>wpAny_tests_nil ⟨H,I,h⟩
theorem oD {X:Cx} {c:Expr} {t:TT} (h:PT X c t):PTs X [c] t:=fun pins s Z H Q I q=>wpAny_tests_one (h pins s Z H Q I q)
structure CompFacts (X:Cx) (scope:Scope) (xs capN:List Str) (cap:List Nat):Prop where
 kind:scope.kind=.function
 nocell:∀ y∈scope.names,y.2≠.cell
 names:∀ y∈scope.names,y.2=.local->scope.names.lookup y.1=some .local
 clos:∃ cl,Clos X scope cl
 hcap:cap.map (fun j=>X.N[j]?)=capN.map some
 hcl:∀ x∈capN,(k8 scope X.env).names.lookup x=some .cell\/(k8 scope X.env).names.lookup x=some .free
 hvis:∀ x∈capN,X.env.scope.names.lookup x=some .cell\/X.env.scope.names.lookup x=some .free
section
variable {X:Cx} {tg elt iter:Expr} {ifs:List Expr} {scope:Scope} {pos:Pos} {wi:TI} {g:TG} {tt:TT} {te:TE} {xs capN:List Str} {cap:List Nat}
theorem Yv {use:Option (wI->Sem Unit)} {Q:wI->wJ->Prop} {QQ:VK} (hc:X.calm=true) (F:CompFacts X scope xs capN cap) (hi:PI X tg iter wi)
   (hg:∀ X',Blk X X' (xs++capN) (k8 scope X.env)->PG X' tg g) (ht:∀ X',Blk X X' (xs++capN) (k8 scope X.env)->PTs X' ifs tt) (he:∀ X',Blk X X' (xs++capN) (k8 scope X.env)->PE X' elt te)
   (hs:∀ x,zA iter X.env x=pure x)
   {pins:List (wR×Obj)} {s:wJ} {Z:St} {H:Hp} (I:Inv X pins Z H s) (h:bT wi (fun Z=>xs.map (fun _=>none)++Dz Z cap) g tt te Z H QQ) {ps:Pos}
   (fin:∀ (s':wJ) (H':Hp) (D C:wR) (m:Str->Option wI),Inv X pins Z H' s'->s'.heap.Ns C m->(H' C=none/\X.s₀.heap.objs.size<=C/\C≠X.env.locals/\(∀ x c,X.env.cells.lookup x=some c->c≠C)/\∀ p∈X.pn++pins,p.1≠C) ->
     QQ (.ref D) H'->compPost (xH X.prog X.w) X.A X.xe use Q (.ref D) C (.ok .next) s') :
   wpAny (xH X.prog X.w) X.A (comprehension (.ListComp elt [⟨tg,iter,ifs,0⟩] scope pos) scope X.env ps (newList []) false (eval iter X.env) use) Q X.xe s:=by
 obtain ⟨cl,C⟩:=F.clos;refine wpAny_comprehension_free rfl hs C.clo F.kind F.names (thn (hi pins s Z H _ I h) fun v s1 h1=>thn h1 fun itv s2 h2=>?_);obtain ⟨it,fp,tn,J,H2,e,I2,T,st2,f2,h3⟩:=h2;subst e;refine xZ ?_;obtain ⟨W,⟨m0,w0⟩,turn⟩:=h3 s2.heap.objs.size I2.fresh;have I3:Inv X pins Z (upd H2 s2.heap.objs.size (.lst [])) { s2 with heap:=s2.heap.push { cls:=.type "list",dict:=none,data:=.seq ([]:List wI).toArray } }:=I2.lnew (t':=s2.toks) .nil (zI _);generalize hH3:upd H2 s2.heap.objs.size (HO.lst [])=H3 at I3 w0;generalize hs3:({ s2 with heap:=s2.heap.push { cls:=.type "list",dict:=none,data:=.seq ([]:List wI).toArray } }:wJ)=s3 at I3
 have hD3:H3 s2.heap.objs.size=some (.lst []):=by rw [<- hH3]; exact C0
 have kp3:∀ b o,s2.heap.get? b=some o->s3.heap.get? b=some o:=fun b o e=>by rw [<- hs3]; exact wN _ e
 have hDlt:s2.heap.objs.size < s3.heap.objs.size:=by rw [<- hs3]; show _ < (s2.heap.push _).objs.size; rw [CC]; exact BN _
 have flt:∀ b∈fp,b < s2.heap.objs.size:=fun b hb=>by
   obtain ⟨o,e,_⟩:=T.obj 0 _ st2 b hb; exact xA e
 have flt3:∀ b∈fp,b < s3.heap.objs.size:=fun b hb=>j6 (flt b hb) hDlt;have f3:∀ b∈fp,Re X pins H3 b:=fun b hb=>⟨by rw [<- hH3,C3 (xU (flt b hb))]; exact (f2 b hb).1,(f2 b hb).2⟩;have st3:tn 0 s3.heap:=T.keep 0 _ _ st2 fun b hb o e=>kp3 b o e;show wpAny _ _ (newFunctionEnv scope X.env.globals cl [] X.env.qual none .none (some X.env)) _ _ s3;refine wpAny_newFunctionEnv F.nocell (by intro y hy; simp at hy) (fun h₁ hns₁ hsb₁=>?_) F.kind;have old:∀ b o,s3.heap.get? b=some o->h₁.get? b=some o:=fun b o e=>hsb₁.extBut b o (xU (xA e)) (wN _ e);have B:Blk X (Zj X s3 H3 scope cl (xs++capN) fp) (xs++capN) (k8 scope X.env):=⟨rfl,rfl,rfl,rfl,rfl,rfl,rfl,rfl,rfl,rfl⟩
 have J0:Inv (Zj X s3 H3 scope cl (xs++capN) fp) [] (xs.map (fun _=>none)++Dz Z cap) H3 { s3 with heap:=h₁,toks:=s3.toks+([]:List (Str×wI)).length } :=
   rB I3 F.kind C f3 flt3 F.hcap F.hcl F.hvis hns₁ old
 have st4:tn 0 h₁:=T.keep 0 _ _ st3 fun b hb o e=>old b o e;have hg':=hg _ B;have ht':=ht _ B;have he':=he _ B;generalize hX':Zj X s3 H3 scope cl (xs++capN) fp=X' at B J0 hg' ht' he';have hex:X'.ex=fp:=by rw [<- hX']; rfl
 have hloc:X'.env.locals=s3.heap.objs.size:=by rw [<- hX']; rfl
 have henv:X'.env=compEnvC scope cl s3.heap.objs.size X.env:=by rw [<- hX']; rfl
 have hpn:X'.pn=[]:=by rw [<- hX']; rfl
 have hxe:X'.xe=fun _ _=>False:=by rw [<- hX']; rfl
 have hH0:X'.H₀=H3:=by rw [<- hX']; rfl
 have hs0:X'.s₀=s3:=by rw [<- hX']; rfl
 have hfs:X'.fs=frs X.stack:=by rw [<- hX']; rfl
 have hP:X'.prog=X.prog:=B.prog;have hw:X'.w=X.w:=B.w;have hA:X'.A=X.A:=B.A;have nfs:∀ b∈fp,b∉X'.fs:=fun b hb z=>J0.ok.exfs b (by rw [hex]; exact hb) z;have stat:∀ {pn':List (wR×Obj)} {H':Hp},(∀ b∈fp,H' b=none)->(∀ p∈pn',p.1∉fp)->∀ b∈fp,Re X' pn' H' b:=fun {pn' H'} hn hp b hb =>
   ⟨hn b hb,by rw [hloc]; exact xU (flt3 b hb),nfs b hb,.inl (by rw [hex]; exact hb),fun x c e=>(J0.ok.exf b (by rw [hex]; exact hb)).2 x c e,fun p hp' z=>by
     rw [hpn,yB] at hp'; exact hp p hp' (z▸hb)⟩
 have loop : ∀ s₀' : wJ, Inv X' [] (xs.map (fun _ => none) ++ Dz Z cap) H3 s₀' -> tn 0 s₀'.heap ->
     CK (xH X.prog X.w) X.A (.compLoop (.ListComp elt [⟨tg,iter,ifs,0⟩] scope pos) 0 (.ref it) (.ref s2.heap.objs.size) X'.env) (compPost (xH X.prog X.w) X.A X.xe use Q (.ref s2.heap.objs.size) s3.heap.objs.size) s₀':=by
   intro s₀' J1 st5; refine Uz (fun n s'=>∃ i H',Inv X' [] (xs.map (fun _=>none)++Dz Z cap) H' s'/\tn i s'.heap/\(∀ b∈fp,H' b=none)/\W i n H') ?_ m0 ⟨0,H3,J1,st5,fun b hb=>(f3 b hb).1,w0⟩;rintro n s4 ⟨i,H4,J4,st4,fr4,w4⟩;rcases turn i n H4 w4 with ⟨stop,qn⟩ | ⟨go,N,hN,step⟩
   . have hd:=T.done X' B.prog B.w B.K (B.calm.trans hc) i [] s4 _ H4 (fun _ _=>False) J4 (stat fr4 (by simp)) st4 stop
     rw [hA] at hd; refine thn hd fun r s5 hZ2=>?_;obtain ⟨hr,J5⟩:=hZ2; subst hr; have un:Un (frs X.stack) fp H3 H4 s3.heap s5.heap:=by
       have:=J5.base; rw [hfs,hex,hH0,hs0] at this; exact this
     have ho:s5.os=s3.os:=by rw [J5.os,hs0]
     have hok5:HOk X.prog X.w H4 s5.heap:=by have:=J5.hok; rw [hP,hw] at this; exact this
     have I5:Inv X pins Z H4 s5:=I3.call' ho un hok5 J5.bare fun b hb=>⟨(f3 b hb).2.2.2.1,(f3 b hb).2.1,(f3 b hb).2.2.2.2.1,(f3 b hb).2.2.2.2.2⟩;obtain ⟨m5,hm5,_⟩:=J5.loc; rw [hloc] at hm5; refine fin s5 H4 _ s3.heap.objs.size m5 I5 hm5 ⟨by have:=J5.free; rw [hloc] at this; exact this,I3.sz,p6 I3.lt,fun x c e z=>?_,fun p hp z=>?_⟩ qn
     . obtain ⟨v,q⟩:=I3.cell x c e
       exact absurd q.lt (by rw [z]; exact j7 _)
     . exact absurd (xA (I3.pin p hp).1) (by rw [z]; exact j7 _)
   . have hd:=T.item X' B.prog B.w B.K (B.calm.trans hc) i [] s4 _ H4 (fun _ _=>False) J4 (stat fr4 (by simp)) st4 go
     rw [hA] at hd; refine thn hd fun r s5 hZ2=>?_;obtain ⟨u,hr,h5⟩:=hZ2; subst hr; refine thn h5 fun _ s6 hZ2=>?_;obtain ⟨x,H6,J6,r6,y6,st6,fr6⟩:=hZ2; have J6':=J6.pinned (stat fr6 (by simp)) (T.obj _ _ st6);rw [yB] at J6'; have hgx:=hg' _ s6 _ H6 x u _ J6' r6 (step x H6 y6); rw [hP,hw,hA,hxe] at hgx; refine thn hgx fun _ s7 hZ2=>?_;obtain ⟨Z7,H7,J7,wk7,q7⟩:=hZ2; have htx:=ht' _ s7 Z7 H7 _ J7 q7; rw [hP,hw,hA,hxe] at htx; refine thn htx fun ok s8 hZ2=>?_;obtain ⟨H8,J8,q8⟩:=hZ2; have again:∀ {H9:Hp} {s9:wJ},Inv X' (Oc fp s6.heap) Z7 H9 s9->N H9->(∃ m,m < n/\∃ i H',Inv X' [] (xs.map (fun _=>none)++Dz Z cap) H' s9/\tn i s9.heap/\(∀ b∈fp,H' b=none)/\W i m H'):=fun {H9 s9} J9 n9=>by
       obtain ⟨m',hm,w9⟩:=hN H9 n9; have pin9:∀ b∈fp,∀ o,s6.heap.get? b=some o->s9.heap.get? b=some o/\H9 b=none:=fun b hb o e=>by
         have:=J9.pin (b,o) (i8 _ (Gp hb e)); exact ⟨this.1,this.2.1⟩
       refine ⟨m',hm,i+1,H9,(J9.weak wk7.1 wk7.2).pins_of (fun p hp=>nomatch hp),T.keep _ _ _ st6 fun b hb o e=>(pin9 b hb o e).1,fun b hb=>?_,w9⟩;obtain ⟨o,e,d⟩:=T.obj _ _ st6 b hb; exact (pin9 b hb o e).2
     cases ok with
     | false =>
       rw [if_neg (by decide)] at q8 ⊢;exact again J8 q8
     | true =>
       rw [if_pos rfl] at q8 ⊢;have hex:=he' _ s8 Z7 H8 _ J8 q8; rw [hP,hw,hA,hxe] at hex; refine thn hex fun y s9 hZ2=>?_;obtain ⟨x9,H9,J9,r9,acc,ha,hz,n9⟩:=hZ2; have hap:=Jn (X:=X') _ s9 Z7 H9 (.ref s2.heap.objs.size) [x9] (.ref s2.heap.objs.size) [y] (fun _ H'=>N H') J9 rfl (.cons r9 .nil) ⟨_,acc,x9,rfl,rfl,ha,hz,n9⟩;rw [hP,hw,hA,hxe] at hap; exact thn hap fun _ s10 hZ2=>by obtain ⟨_,H10,J10,_,n10⟩:=hZ2; exact again J10 n10
 have e0:({ (newEnv scope s3.heap.objs.size X.env.globals cl X.env.qual none .none (some X.env) EF:Env) with scope:=k8 scope X.env }:Env)=X'.env:=by rw [henv]; rfl
 have e1:(newEnv scope s3.heap.objs.size X.env.globals cl X.env.qual none .none (some X.env) EF:Env).locals=s3.heap.objs.size:=rfl;show CK _ _ (.compStart _ 0 (.ref it) (.ref s2.heap.objs.size) ({ (newEnv scope s3.heap.objs.size X.env.globals cl X.env.qual none .none (some X.env) EF:Env) with scope:=k8 scope X.env }:Env)) (compPost _ _ _ _ _ _ s3.heap.objs.size) _;rw [e0];exact codeAny_compStart_list (loop _ J0 st4) (T.self _ 0 _ _ _ st4 (loop _ J0 st4))
theorem cJ (hc:X.calm=true) (F:X.Ok->CompFacts X scope xs capN cap) (hi:PI X tg iter wi)
   (hg:∀ X',Blk X X' (xs++capN) (k8 scope X.env)->PG X' tg g) (ht:∀ X',Blk X X' (xs++capN) (k8 scope X.env)->PTs X' ifs tt) (he:∀ X',Blk X X' (xs++capN) (k8 scope X.env)->PE X' elt te)
   (hs:∀ x,zA iter X.env x=pure x:=by intro _; rfl):PE X (.ListComp elt [⟨tg,iter,ifs,0⟩] scope pos) (bT wi (fun Z=>xs.map (fun _=>none)++Dz Z cap) g tt te):=by
 intro pins s Z H Q I h;rw [eval_ListComp];refine Yv (use:=none) hc (F I.ok) hi hg ht he hs I h fun s' H' D C m I' hm hZ7 q=>?_;obtain ⟨c1,c2,c3,c4,c5⟩:=hZ7;refine ⟨m,hm,fun h' sb=>?_⟩;exact ⟨.ref D,H',I'.turned (t':=s'.toks) (fun b o hb e=>(sb.2 b hb).trans e) c1 c3 (.inr c2) c4 c5,rfl,q⟩
theorem Gn {i:Nat} {y:Str} {py spos:Pos} (hc:X.calm=true) (F:X.Ok->CompFacts X scope xs capN cap) (hi:PI X tg iter wi)
   (hg:∀ X',Blk X X' (xs++capN) (k8 scope X.env)->PG X' tg g) (ht:∀ X',Blk X X' (xs++capN) (k8 scope X.env)->PTs X' ifs tt) (he:∀ X',Blk X X' (xs++capN) (k8 scope X.env)->PE X' elt te)
   (hN:X.N.Nodup) (hy:X.N[i]? = some y) (hl:X.env.scope.names.lookup y=some .local) (hsw:m7 (.ListComp elt [⟨tg,iter,ifs,0⟩] scope pos) (some (.Name y py)) spos.line X.env=pure true)
   (hs:∀ x,zA iter X.env x=pure x:=by intro _; rfl):PS X (.Assign [.Name y py] (.ListComp elt [⟨tg,iter,ifs,0⟩] scope pos) spos) (sQ (bT wi (fun Z=>xs.map (fun _=>none)++Dz Z cap) g tt te) (U0 i)):=by
 intro pins s Z H D0 I h;rw [exec_Assign_Name_used _ _ _ _ hsw];refine wG (wpAny_standAt (wG ?_));show wpAny _ _ (do let _ <- comprehension (.ListComp elt [⟨tg,iter,ifs,0⟩] scope pos) scope X.env _ (newList []) false (eval iter X.env) (some (FK (.Name y py) X.env))) _ _ s;refine wG (zM (Yv (use:=some (FK (.Name y py) X.env)) (Q:=fun _ s'=>SP X pins D0 .next s') hc (F I.ok) hi hg ht he hs I h fun s' H' D C m I' hm hY33 q=>?_) (fun _ s' hq=>wH (wH hq)) fun _ _ e=>e);obtain ⟨c1,c2,c3,c4,c5⟩:=hY33;show wpAny _ _ (FK (.Name y py) X.env (.ref D)) _ _ s'
 refine wpAny_assign_Name (Rn I' hN hy (.inl hl) (v:=.ref D) rfl (fun s'' I'' hY34=>?_) (.inr hl));obtain ⟨a,sa,ea⟩:=hY34;have haC:a≠C:=by
   rcases ea with z | z
   . rw [z]; exact Ne.symm c3
   . exact c4 _ _ z
 refine ⟨m,hm.sameBut sa (Ne.symm haC),fun h' sb=>?_⟩;exact ⟨_,H',I''.turned (t':=s''.toks) (fun b o hb e=>(sb.2 b hb).trans e) c1 c3 (.inr c2) c4 c5,q⟩
end
end Sm
end
section
namespace L2
open PySem PySem.Spec PyProof.Rows
section
variable {X:Cx} {pins:List (wR×Obj)} {Z:St} {H:Hp} {s:wJ}
theorem Inv.big (I:Inv X pins Z H s):m8 < s.heap.objs.size:=by
 have h:yV < s.heap.objs.size:=(I.mod.glob.keeps I.bk).lt;exact j6 (by decide) h
end
def wE (i:Expr):Prop:=∀ ov iv,HG i false ov iv=operate [ov,iv] (CJ ov iv)
theorem nF {prog:xN} {w:xT} {A:yS} {E:wI->wJ->Prop} {s:wJ} {env:Env} {value slice:Expr} {pos:Pos} {T id:String} {Q:wI->wJ->Prop}
   (hl:typeLookup (.type T) "__getitem__" = pure (some (.builtin id))) (hs:wE slice)
   (h:wpAny (xH prog w) A (eval value env) (fun o s₁=>wpAny (xH prog w) A (eval slice env) (fun i s₂=>s₂.TypeIs o T/\wpAny (xH prog w) A (CJ o i) Q E s₂) E s₁) E s) :
   wpAny (xH prog w) A (eval (.Subscript value slice pos) env) Q E s:=by
 refine Subscript_ (zM h (fun o s₁ h₁=>zM h₁ (fun i s₂ h₂=>?_) fun _ _ x=>x) fun _ _ x=>x);obtain ⟨hT,h₂⟩:=h₂;unfold subscriptTail;refine wG ?_;rw [getitemInPython_of_ne hT.not_modules];refine wG (l3 hT hl ?_);have fin:wpAny (xH prog w) A (HG slice false o i) (fun r s₃=>wpAny (xH prog w) A (letTemporaryGo value o r>>=fun _=>pure r) Q E s₃) E s₂:=by
   rw [hs o i]; exact wpAny_operating (zM h₂ (fun r s₃ h₃=>wG (wpAny_letTemporaryGo (wH h₃))) fun _ _ x=>x)
 first
   | exact wH (wG fin)
   | exact wG (wH (wG fin))
   | exact wG fin
theorem lT {P:xN} {w:xT} {H:Hp} (h:yQ) (hb:m8 < h.objs.size):ObjOk P w H (h.push { cls:=.type "dict",data:=.dict #[] }) h.objs.size (.dT []) :=
 ⟨zI _,beq_eq_false_iff_ne.mpr (Ne.symm (xU hb)),[],.nil,_,#[],0,wW _ rfl,⟨rfl,rfl,rfl⟩,rfl,rfl,List.nodup_nil⟩
def sO:TE:=fun _ H Q=>∀ p,H p=none->Q (.ref p) (upd H p (.dT []))
section
variable {X:Cx} {pos:Pos}
theorem jX:PE X (.Dict [] [] pos) sO:=fun pins s Z H Q I h =>
 wpAny_Dict_empty ⟨.ref s.heap.objs.size,_,I.laid (a:=s.heap.objs.size) (o:=.dT []) (t':=s.toks) (fun _ _ q=>wN _ q) (wO _) (lT s.heap I.big),rfl,h _ (I.hok.fresh (wO _))⟩
end
structure M2 (X:Cx) (o:Expr) (m:Str) (apos:Pos) (e f:Expr) (cpos:Pos):Prop where
 base:o8 o m X.env (eval o X.env)=eval o X.env
 few:((zY cpos (wU [e,f] X.env)).all (fun x => !x.1)&&(FJ cpos (BX [] X.env)).all (fun x=>x.1.isSome)
   && decide (([e,f]:List Expr).length+([]:List AX).length+(if ([]:List AX).isEmpty then 0 else 1) < 30))=true
 line:(apos.endLine==cpos.line)=true
 trees:zY cpos (wU [e,f] X.env)=[(false,eval e X.env),(false,eval f X.env)]
end L2
end
section
namespace Sm
open PySem PySem.Spec PyProof.Rows L2
inductive Res (α:Type) where
 | ok (a:α)
 | exc (c:Str)
 | no
noncomputable def Res.bind {α β:Type}:Res α->(α->Res β)->Res β
 | .ok a,k=>k a
 | .exc c,_=>.exc c
 | .no,_=>.no
noncomputable def ofO {α:Type}:Option α->Res α
 | some a=>.ok a
 | none=>.no
inductive Sl where
 | un
 | sh (d:wF)
 | ow (d:wF)
 | fd (kvs:List (wF×wF))
abbrev Dn:=List Sl
mutual
noncomputable def Rep (G:Hp):wF->V->Prop
 | .none,v=>v=.non
 | .bool b,v=>v=.bl b
 | .int i,v=>v=.int i
 | .str x,v=>v=.str x/\xP x=true/\x.length<=sizeLine
 | .list ds,v=>∃ a xs,v=.ref a/\Rd G a (.lst xs)/\RepL G ds xs
 | .tuple ds,v=>∃ a xs,v=.ref a/\G a=some (.tup xs)/\RepL G ds xs
 | .dict _,_=>False
noncomputable def RepL (G:Hp):List wF->List V->Prop
 | [],xs=>xs=[]
 | d::ds,xs=>∃ x r,xs=x::r/\Rep G d x/\RepL G ds r
end
theorem Rd.mono {G G':Hp} (h:Same G G') {a:wR} {u:HO} (r:Rd G a u):Rd G' a u:=by
 rcases r with r | ⟨o,r⟩
 . exact .inl (h _ _ r)
 . exact .inr ⟨o,h _ _ r⟩
mutual
theorem Rep.mono {G G':Hp} (h:Same G G'):∀ {d:wF} {v:V},Rep G d v->Rep G' d v
 | .none,_,r=>r
 | .bool _,_,r=>r
 | .int _,_,r=>r
 | .str _,_,r=>r
 | .list _,_,r=>by obtain ⟨a,xs,e,q,l⟩:=r; exact ⟨a,xs,e,Rd.mono h q,RepL.mono h l⟩
 | .tuple _,_,r=>by obtain ⟨a,xs,e,q,l⟩:=r; exact ⟨a,xs,e,h _ _ q,RepL.mono h l⟩
 | .dict _,_,r=>r.elim
theorem RepL.mono {G G':Hp} (h:Same G G'):∀ {ds:List wF} {xs:List V},RepL G ds xs->RepL G' ds xs
 | [],_,r=>r
 | _::_,_,r=>by obtain ⟨x,t,e,q,l⟩:=r; exact ⟨x,t,e,Rep.mono h q,RepL.mono h l⟩
end
mutual
theorem Rep.lay {G:Hp}:∀ {d:wF} {v:V},Rep G d v->d.canLay0=true
 | .none,_,r=>rfl
 | .bool _,_,r=>rfl
 | .int _,_,r=>rfl
 | .str _,_,r=>r.2.1
 | .list _,_,r=>by obtain ⟨a,xs,e,q,l⟩:=r; exact RepL.lay l
 | .tuple _,_,r=>by obtain ⟨a,xs,e,q,l⟩:=r; exact RepL.lay l
 | .dict _,_,r=>r.elim
theorem RepL.lay {G:Hp}:∀ {ds:List wF} {xs:List V},RepL G ds xs->j8 ds=true
 | [],_,r=>rfl
 | _::_,_,r=>by
   obtain ⟨x,t,e,q,l⟩:=r; rw [j8,Rep.lay q,RepL.lay l]; rfl
end
noncomputable section
variable {G:Hp}
theorem RepL.cons {d:wF} {ds:List wF} {x:V} {xs:List V} (h:Rep G d x) (t:RepL G ds xs):RepL G (d::ds) (x::xs):=⟨x,xs,rfl,h,t⟩
theorem RepL.length:∀ {ds:List wF} {xs:List V},RepL G ds xs->ds.length=xs.length:=by
 intro iN; induction iN with
 | nil=>intro _ r; cases (show _=_ from r); rfl
 | cons d ds ih=>intro _ r; obtain ⟨x,t,rfl,q,l⟩:=r; simp [ih l]
theorem RepL.get:∀ {ds:List wF} {xs:List V} {i:Nat} {d:wF},RepL G ds xs->ds[i]? = some d->∃ x,xs[i]? = some x/\Rep G d x
 | [],_,_,_,_,e=>by simp at e
 | d::ds,_,0,_,r,e=>by obtain ⟨x,t,rfl,q,l⟩:=r; simp at e; subst e; exact ⟨x,rfl,q⟩
 | d::ds,_,i+1,_,r,e=>by
   obtain ⟨x,t,rfl,q,l⟩:=r; obtain ⟨y,h1,h2⟩:=RepL.get (i:=i) l (by simpa using e);exact ⟨y,by simpa using h1,h2⟩
theorem RepL.append:∀ {ds es:List wF} {xs ys:List V},RepL G ds xs->RepL G es ys->RepL G (ds++es) (xs++ys):=by
 intro iN; induction iN with
 | nil=>intro _ _ _ r q; cases (show _=_ from r); exact q
 | cons d ds ih=>intro _ _ _ r q; obtain ⟨x,t,rfl,h,l⟩:=r; exact RepL.cons h (ih l q)
theorem RepL.drop:∀ (n:Nat) {ds:List wF} {xs:List V},RepL G ds xs->RepL G (ds.drop n) (xs.drop n)
 | 0,_,_,r=>r
 | _+1,[],_,r=>by cases (show _=_ from r); exact rfl
 | n+1,d::ds,_,r=>by obtain ⟨x,t,rfl,h,l⟩:=r; exact RepL.drop n l
theorem RepL.take:∀ (n:Nat) {ds:List wF} {xs:List V},RepL G ds xs->RepL G (ds.take n) (xs.take n)
 | 0,_,_,r=>rfl
 | _+1,[],_,r=>by cases (show _=_ from r); exact rfl
 | n+1,d::ds,_,r=>by obtain ⟨x,t,rfl,h,l⟩:=r; exact RepL.cons h (RepL.take n l)
theorem RepL.rep {ds:List wF} {xs:List V} (r:RepL G ds xs):∀ k:Nat,RepL G (xI k ds).flatten (xI k xs).flatten:=by
 intro iN; induction iN with
 | zero=>skip; exact rfl
 | succ k ih =>
   skip
   rw [k7,k7,zQ,zQ]; exact RepL.append r (ih)
theorem RepL.ints (ns:List Int):RepL G (ns.map xL) (ns.map V.int):=by
 induction ns with
 | nil=>exact rfl
 | cons n ns ih=>exact RepL.cons rfl ih
theorem RepL.dropLast {ds:List wF} {xs:List V} (r:RepL G ds xs):RepL G ds.dropLast xs.dropLast:=by
 rw [IN,IN,r.length];exact RepL.take _ r
end
structure Grow (G H G' H':Hp):Prop where
 g:Same G G'
 h:Same H H'
 gh:Same G' H'
 fr:∀ b o,G' b=some o->G b=some o\/H b=none\/∃ xs,o=HO.tup xs
theorem Grow.refl {G H:Hp} (h:Same G H):Grow G H G H:=⟨Same.refl _,Same.refl _,h,fun _ _ e=>.inl e⟩
theorem Grow.trans {G H G1 H1 G2 H2:Hp} (a:Grow G H G1 H1) (b:Grow G1 H1 G2 H2):Grow G H G2 H2 :=
 ⟨a.g.trans b.g,a.h.trans b.h,b.gh,fun c o e=>by
   rcases b.fr c o e with q | q | q
   . exact a.fr c o q
   . exact .inr (.inl (a.h.free q))
   . exact .inr (.inr q)⟩
theorem Same.upd {H:Hp} {p:wR} {o:HO} (h:H p=none):Same H (upd H p o):=fun b u e=>by
 rw [C3 (E6 e h)]; exact e
theorem Grow.new {G H:Hp} {p:wR} {o:HO} (s:Same G H) (h:H p=none):Grow G H (upd G p o) (upd H p o):=by
 have hg:G p=none:=s.free h;refine ⟨Same.upd hg,Same.upd h,fun b u e=>?_,fun b u e=>?_⟩
 . by_cases hb:b=p
   . subst hb; rw [C0] at e ⊢; exact e
   . rw [C3 hb] at e ⊢; exact s _ _ e
 . by_cases hb:b=p
   . subst hb; exact .inr (.inl h)
   . rw [C3 hb] at e; exact .inl e
theorem Grow.own {G H:Hp} {p:wR} {o:HO} (s:Same G H) (h:H p=none):Grow G H G (upd H p o) :=
 ⟨Same.refl _,Same.upd h,s.trans (Same.upd h),fun _ _ e=>.inl e⟩
noncomputable def uX:Key->wF
 | .inl i=>.int i
 | .inr x=>.str x
noncomputable def rW (kk:List (Key×V)):List (List Key×V):=kk.map fun p=>([p.1],p.2)
noncomputable def OwnK (G H:Hp) (a:wR):List wF->Prop
 | [.dict kvs]=>∃ kk:List (Key×V),H a=some (.dK kk)/\kvs.map (·.1)=(rW kk).map (fun p=>k6 (p.1.map uX))/\RepL G (kvs.map (·.2)) ((rW kk).map (·.2))
 | [.dict kvs,.none]=>∃ kk:List (wF×V),H a=some (.dN kk)/\kvs.map (·.1)=kk.map (·.1)/\RepL G (kvs.map (·.2)) (kk.map (·.2))
 | _=>False
theorem OwnK.keep {G G' H H':Hp} {a:wR} {xs:List wF} (g:Same G G') (e:∀ o,H a=some o->H' a=some o) (h:OwnK G H a xs):OwnK G' H' a xs:=by
 unfold OwnK at h ⊢;split at h
 . obtain ⟨kk,h1,h2,h3⟩:=h
   exact ⟨kk,e _ h1,h2,h3.mono g⟩
 . obtain ⟨kk,h1,h2,h3⟩:=h
   exact ⟨kk,e _ h1,h2,h3.mono g⟩
 . exact h.elim
theorem OwnK.is {G H:Hp} {a:wR} {xs:List wF} (h:OwnK G H a xs):∃ o,H a=.some o:=by
 unfold OwnK at h;split at h
 . obtain ⟨kk,h1,_⟩:=h
   exact ⟨_,h1⟩
 . obtain ⟨kk,h1,_⟩:=h
   exact ⟨_,h1⟩
 . exact h.elim
noncomputable def OwnOk (G H:Hp) (a:wR):wF->Prop
 | .list ds=>∃ xs,H a=some (.lst xs)/\RepL G ds xs
 | .dict kvs=>∃ kk:List (List Key×V),H a=some (.dT kk)/\kvs.map (·.1)=kk.map (fun p=>k6 (p.1.map uX))/\RepL G (kvs.map (·.2)) (kk.map (·.2))
 | .tuple xs=>OwnK G H a xs
 | _=>False
def FdOk (G:Hp) (o:Option V) (kvs:List (wF×wF)):Prop:=match kvs with
 | (.dict [],.none)::r=>∃ a,∃ kk:List (wF×V),o=some (.ref a)/\Rd G a (.dN kk)/\r.map (·.1)=kk.map (·.1)/\RepL G (r.map (·.2)) (kk.map (·.2))
 | _=>∃ a ob,∃ kk:List (List Key×V),o=some (.ref a)/\G a=some (.frz ob (.dT kk))/\kvs.map (·.1)=kk.map (fun p=>k6 (p.1.map uX))/\RepL G (kvs.map (·.2)) (kk.map (·.2))
theorem FdOk.mono {G G':Hp} {o:Option V} {kvs:List (wF×wF)} (g:Same G G') (h:FdOk G o kvs):FdOk G' o kvs:=by
 unfold FdOk at h ⊢;split at h
 . obtain ⟨a,kk,h1,h2,h3,h4⟩:=h
   exact ⟨a,kk,h1,Rd.mono g h2,h3,h4.mono g⟩
 . obtain ⟨a,ob,kk,h1,h2,h3,h4⟩:=h
   exact ⟨a,ob,kk,h1,g _ _ h2,h3,h4.mono g⟩
noncomputable def SlOk (G H:Hp) (o:Option V):Sl->Prop
 | .un=>True
 | .sh d=>∃ v,o=some v/\Rep G d v
 | .ow d=>∃ a,o=some (.ref a)/\G a=none/\OwnOk G H a d
 | .fd kvs=>FdOk G o kvs
structure SR (G H:Hp) (Z:St) (δ:Dn):Prop where
 sub:Same G H
 len:Z.length=δ.length
 sl:∀ (i:Nat) (s:Sl),δ[i]? = some s->SlOk G H (Z[i]?.join) s
 ap:∀ (i j:Nat) (a:wR) (d e:wF),δ[i]? = some (.ow d)->δ[j]? = some (.ow e)->Z[i]?.join=some (.ref a)->Z[j]?.join=some (.ref a)->i=j
theorem OwnOk.some {G H:Hp} {a:wR} {d:wF} (h:OwnOk G H a d):∃ o,H a=some o:=by
 cases d with
 | list ds=>obtain ⟨xs,e,_⟩:=h; exact ⟨_,e⟩
 | dict kvs=>obtain ⟨xs,e,_⟩:=h; exact ⟨_,e⟩
 | tuple xs=>exact OwnK.is h
 | _=>exact (show False from h).elim
theorem OwnOk.grow {G H G' H':Hp} (g:Grow G H G' H') {a:wR} {d:wF} (h:OwnOk G H a d):OwnOk G' H' a d:=by
 cases d with
 | list ds=>obtain ⟨xs,e,r⟩:=h; exact ⟨xs,g.h _ _ e,r.mono g.g⟩
 | dict kvs=>obtain ⟨xs,e,k,r⟩:=h; exact ⟨xs,g.h _ _ e,k,r.mono g.g⟩
 | tuple xs=>exact OwnK.keep g.g (fun o e=>g.h _ _ e) h
 | _=>exact (show False from h).elim
theorem OwnOk.noTup {G H:Hp} {a:wR} {d:wF} (h:OwnOk G H a d) {xs:List V} (e:H a=.some (HO.tup xs)):False:=by
 cases d with
 | list ds=>obtain ⟨_,z,_⟩:=h; rw [e] at z; cases z
 | dict kvs=>obtain ⟨_,z,_⟩:=h; rw [e] at z; cases z
 | tuple ys =>
   have h':OwnK G H a ys:=h; unfold OwnK at h';split at h'
   . obtain ⟨_,z,_⟩:=h'; rw [e] at z; cases z
   . obtain ⟨_,z,_⟩:=h'; rw [e] at z; cases z
   . exact h'
 | _=>exact (show False from h).elim
theorem SlOk.grow {G H G' H':Hp} (g:Grow G H G' H') {o:Option V} {s:Sl} (h:SlOk G H o s):SlOk G' H' o s:=by
 cases s with
 | un=>trivial
 | sh d=>obtain ⟨v,e,r⟩:=h; exact ⟨v,e,r.mono g.g⟩
 | fd kvs=>exact FdOk.mono g.g h
 | ow d =>
   obtain ⟨a,e,n,r⟩:=h; refine ⟨a,e,?_,r.grow g⟩;cases q:G' a with
   | none=>rfl
   | some u =>
     obtain ⟨o',eo⟩:=r.some; rcases g.fr a u q with z | z | ⟨xs,rfl⟩
     . rw [n] at z; cases z
     . rw [eo] at z; cases z
     . exact ((r.grow g).noTup (g.gh _ _ q)).elim
theorem SR.grow {G H G' H':Hp} {Z:St} {δ:Dn} (S:SR G H Z δ) (g:Grow G H G' H'):SR G' H' Z δ :=
 ⟨g.gh,S.len,fun i s e=>(S.sl i s e).grow g,S.ap⟩
abbrev EK:=Str->Hp->Prop
def Aft (E:EK) (G H:Hp) (r:Res wF) (Q:VK):Prop:=match r with
 | .ok d=>∀ v G' H',Grow G H G' H'->Rep G' d v->Q v H'
 | .exc c=>∀ G' H',Grow G H G' H'->E c H'
 | .no=>False
def tD (E:EK) (f:Dn->Res wF):TE:=fun Z H Q=>∃ G δ,SR G H Z δ/\Aft E G H (f δ) Q
abbrev DE (X:Cx) (E:EK) (e:Expr) (f:Dn->Res wF):Prop:=PE X e (tD E f)
theorem Aft.grow {E:EK} {G H G' H':Hp} {r:Res wF} {Q:VK} (g:Grow G H G' H') (a:Aft E G H r Q):Aft E G' H' r Q:=by
 cases r with
 | ok d=>exact fun v G2 H2 g2 q=>a v G2 H2 (g.trans g2) q
 | exc c=>exact fun G2 H2 g2=>a G2 H2 (g.trans g2)
 | no=>exact a
theorem PE.imp {X:Cx} {e:Expr} {t t':TE} (h:PE X e t) (i:∀ Z H Q,t' Z H Q->t Z H Q):PE X e t':=fun pins s Z H Q I q=>h pins s Z H Q I (i _ _ _ q)
theorem J2 {E:EK} {G H:Hp} {Z:St} {δ:Dn} {f:Dn->Res wF} {k:wF->Res wF} {Q R:VK} (S:SR G H Z δ) (a:Aft E G H ((f δ).bind k) Q)
   (h:∀ d v G1 H1,Grow G H G1 H1->Rep G1 d v->SR G1 H1 Z δ->Aft E G1 H1 (k d) Q->R v H1):tD E f Z H R:=by
 refine ⟨G,δ,S,?_⟩;cases e:f δ with
 | ok d =>
   rw [e] at a; exact fun v G' H' g r=>h d v G' H' g r (S.grow g) (Aft.grow g a)
 | exc c=>rw [e] at a; exact a
 | no=>rw [e] at a; exact a
noncomputable section
variable {X:Cx} {E:EK} {pos:Pos}
noncomputable def vC (d:wF):Dn->Res wF:=fun _=>.ok d
noncomputable def A0 (i:Nat):Dn->Res wF:=fun δ=>match δ[i]? with
 | some (.sh d)=>.ok d
 | _=>.no
theorem A8 {i:Int} {j:Nat}:DE X E (.Constant (.int i) j pos) (vC (.int i)):=PE.imp tY fun Z H Q hZ3=>by obtain ⟨G,δ,S,a⟩:=hZ3; exact a _ G H (Grow.refl S.sub) rfl
theorem Cj {b:Bool} {j:Nat}:DE X E (.Constant (.bool b) j pos) (vC (.bool b)):=PE.imp pe_bl fun Z H Q hZ3=>by obtain ⟨G,δ,S,a⟩:=hZ3; exact a _ G H (Grow.refl S.sub) rfl
theorem Ox {j:Nat}:DE X E (.Constant .none j pos) (vC .none):=PE.imp tW fun Z H Q hZ3=>by obtain ⟨G,δ,S,a⟩:=hZ3; exact a _ G H (Grow.refl S.sub) rfl
theorem Q7 {x:Str} {j:Nat} (h:xP x=true:=by decide +kernel) (hl:x.length<=sizeLine:=by decide +kernel):DE X E (.Constant (.str x) j pos) (vC (.str x)) :=
 PE.imp jS fun Z H Q hZ3=>by obtain ⟨G,δ,S,a⟩:=hZ3; exact a _ G H (Grow.refl S.sub) ⟨rfl,h,hl⟩
theorem vK {i:Nat} {x:Str} (hN:X.N[i]? = some x) (hv:Vis X.env.scope x) (hd:(x==("__debug__" : Str))=false) (hcd:(x==("__classdict__" : Str))=false):DE X E (.Name x pos) (A0 i) :=
 PE.imp (aJ hN hv hd hcd) fun Z H Q hZ3=>by
   obtain ⟨G,δ,S,a⟩:=hZ3; unfold A0 at a;split at a
   . rename_i d e
     obtain ⟨v,e1,r⟩:=S.sl i _ e; refine ⟨v,?_,a _ G H (Grow.refl S.sub) r⟩;cases q:Z[i]? with
     | none=>rw [q] at e1; cases e1
     | some w=>rw [q] at e1; cases w with
       | none=>cases e1
       | some w=>cases e1; rfl
   . exact a.elim
noncomputable def b2 (f g:Dn->Res wF) (op:wF->wF->Option wF):Dn->Res wF:=fun δ=>(f δ).bind fun x=>(g δ).bind fun y=>ofO (op x y)
def OpD (r:R2) (op:wF->wF->Option wF):Prop:=∀ (G H:Hp) (x y:V) (a b d:wF) (Q:VK),Same G H->Rep G a x->Rep G b y->op a b=some d->(∀ v G' H',Grow G H G' H'->Rep G' d v->Q v H')->r x y H Q
theorem iC {r:R2} {op:wF->wF->Option wF} {f g:Dn->Res wF} (ho:OpD r op) {Z:St} {H:Hp} {Q:VK} (h:tD E (b2 f g op) Z H Q):tOp r (tD E f) (tD E g) Z H Q:=by
 obtain ⟨G,δ,S,a⟩:=h;refine J2 S a fun d1 v1 G1 H1 g1 r1 S1 a1=>?_;refine J2 S1 a1 fun d2 v2 G2 H2 g2 r2 S2 a2=>?_;cases e:op d1 d2 with
 | none=>rw [e] at a2; exact a2.elim
 | some d=>rw [e] at a2; exact ho G2 H2 v1 v2 d1 d2 d Q S2.sub (r1.mono g2.g) r2 e a2
theorem Yt {a b:Expr} {o:Operator} {r:R2} {op:wF->wF->Option wF} {f g:Dn->Res wF} (hr:OpR X (DY o) r) (ho:OpD r op) (ha:DE X E a f) (hb:DE X E b g):DE X E (.BinOp a o b pos) (b2 f g op) :=
 PE.imp (pe_op hr ha hb) fun _ _ _ h=>iC ho h
theorem Sr {a b:Expr} {o:l0} {r:R2} {op:wF->wF->Option wF} {f g:Dn->Res wF} (hr:OpR X (zR o) r) (ho:OpD r op) (ha:DE X E a f) (hb:DE X E b g) (hm:behindInMarks o b=false):DE X E (.Compare a [o] [b] pos) (b2 f g op) :=
 PE.imp (oO hr ha hb hm) fun _ _ _ h=>iC ho h
end
end Sm
end
noncomputable section
namespace Sm
open PySem PySem.Spec PyProof.Rows L2
noncomputable section
variable {X:Cx} {pins:List (wR×Obj)} {Z:St} {H G:Hp} {s:wJ}
theorem W1 (I:Inv X pins Z H s) {a:wR} {xs:List V} (hG:Same G H) (r:Rd G a (.lst xs)):xs.length<=sizeLine/\∃ (its:List wI) (n:Nat),Vals xs its/\s.heap.get? a=some { cls:=.type "list",data:=.seq its.toArray n } :=
 (Rd.ok (Rd.mono hG r) I.hok:ObjOk X.prog X.w H s.heap a (.lst xs))
theorem Jj (I:Inv X pins Z H s) {a:wR} {xs:List V} (hG:Same G H) (r:G a=some (.tup xs)):xs.length<=sizeLine/\∃ its:List wI,Vals xs its/\ES s.heap a its.toArray :=
 (I.hok a _ (hG _ _ r):ObjOk X.prog X.w H s.heap a (.tup xs))
mutual
theorem Rep.reads (I:Inv X pins Z H s) (hG:Same G H):∀ {d:wF} {v:V} {u:wI},Rep G d v->RelV v u->∃ as,Reads s.heap u d as
 | .none,_,_,r,q=>by cases (show _=_ from r); cases q; exact ⟨_,.none⟩
 | .bool _,_,_,r,q=>by cases (show _=_ from r); cases q; exact ⟨_,.bool _⟩
 | .int _,_,_,r,q=>by cases (show _=_ from r); obtain ⟨t,rfl⟩:=q; exact ⟨_,.int _ _⟩
 | .str _,_,_,r,q=>by cases r.1; obtain ⟨t,rfl⟩:=q; exact ⟨_,.str _ _⟩
 | .list _,_,_,r,q=>by
   obtain ⟨a,xs,rfl,h,l⟩:=r; cases q; obtain ⟨z,its,n,rv,e⟩:=W1 I hG h; obtain ⟨as,ra⟩:=RepL.reads I hG l rv; exact ⟨_,.list e rfl rfl (by simpa using ra)⟩
 | .tuple _,_,_,r,q=>by
   obtain ⟨a,xs,rfl,h,l⟩:=r; cases q; obtain ⟨z,its,rv,o,e,c,n,hd⟩:=Jj I hG h; obtain ⟨as,ra⟩:=RepL.reads I hG l rv; exact ⟨_,.tuple e c hd (by simpa using ra)⟩
 | .dict _,_,_,r,_=>r.elim
theorem RepL.reads (I:Inv X pins Z H s) (hG:Same G H):∀ {ds:List wF} {xs:List V} {us:List wI},RepL G ds xs->Vals xs us->∃ as,IK s.heap us ds as
 | [],_,_,r,q=>by cases (show _=_ from r); cases q; exact ⟨_,.nil⟩
 | _::_,_,_,r,q=>by
   obtain ⟨x,t,rfl,h,l⟩:=r;cases q with
   | cons q qs =>
     obtain ⟨as,r1⟩:=Rep.reads I hG h q; obtain ⟨bs,r2⟩:=RepL.reads I hG l qs; exact ⟨_,.cons r1 r2⟩
end
end
noncomputable def dEq (a b:wF):Option wF:=if min a.depth b.depth<=64 then some (.bool (xE a b)) else none
noncomputable def dNe (a b:wF):Option wF:=if min a.depth b.depth<=64 then some (.bool (!PyData.eqv a b)) else none
def nX (neg:Bool):R2:=fun x y H Q=>∃ G a b,Same G H/\Rep G a x/\Rep G b y/\min a.depth b.depth<=64/\Q (.bl (if neg then !PyData.eqv a b else xE a b)) H
noncomputable section
variable {X:Cx}
theorem kD (hu:X.A.units+64 < k5):OpR X (zR .Eq) (nX false):=by
 rintro pins s Z H x y v u Q I rx ry ⟨G,a,b,hG,ra,rb,hm,q⟩;obtain ⟨as,r1⟩:=ra.reads I hG rx;obtain ⟨bs,r2⟩:=rb.reads I hG ry;exact SeqAt.compareEq_reads r1 r2 ra.lay rb.lay (by lia) ⟨.bl _,H,I,rfl,q⟩
theorem kB (hu:X.A.units+64 < k5):OpR X (zR .NotEq) (nX true):=by
 rintro pins s Z H x y v u Q I rx ry ⟨G,a,b,hG,ra,rb,hm,q⟩;obtain ⟨as,r1⟩:=ra.reads I hG rx;obtain ⟨bs,r2⟩:=rb.reads I hG ry;exact SeqAt.compareNe_reads r1 r2 ra.lay rb.lay (by lia) ⟨.bl _,H,I,rfl,q⟩
theorem kG:OpD (nX false) dEq:=by
 intro G H x y a b d Q hG ra rb e q;unfold dEq at e;split at e
 . rename_i h; cases e; exact ⟨G,a,b,hG,ra,rb,h,q _ G H (Grow.refl hG) rfl⟩
 . cases e
theorem kE:OpD (nX true) dNe:=by
 intro G H x y a b d Q hG ra rb e q;unfold dNe at e;split at e
 . rename_i h; cases e; exact ⟨G,a,b,hG,ra,rb,h,q _ G H (Grow.refl hG) rfl⟩
 . cases e
end
noncomputable def rY (x y:Str):Bool := !(Builtin.Str.occurrences y x 0 y.length 1).isEmpty
noncomputable def dIn (neg:Bool) (a b:wF):Option wF:=match b with
 | .list ds=>if min (yW ds) a.depth<=62 then some (.bool (if neg then !ds.any fun y=>xE y a else ds.any fun y=>xE y a)) else none
 | .tuple ds=>if min (yW ds) a.depth<=62 then some (.bool (if neg then !ds.any fun y=>xE y a else ds.any fun y=>xE y a)) else none
 | .str y=>match a with
   | .str x=>some (.bool (if neg then !rY x y else rY x y))
   | _=>none
 | _=>none
def tJ (neg:Bool):R2:=fun x y H Q=>∃ G a b d,Same G H/\Rep G a x/\Rep G b y/\dIn neg a b=some (.bool d)/\Q (.bl d) H
noncomputable section
variable {X:Cx}
theorem kC (hu:X.A.units+64 < k5):OpR X (zR .In) (tJ false):=by
 rintro pins s Z H x y v u Q I rx ry ⟨G,a,b,d,hG,ra,rb,e,q⟩;cases b with
 | list ds =>
   replace e:(if _ then _ else _)=some _:=e;split at e
   . rename_i h
     cases e; obtain ⟨as,r1⟩:=ra.reads I hG rx; obtain ⟨bs,r2⟩:=rb.reads I hG ry; exact SeqAt.in_list_reads r2 r1 rb.lay ra.lay (by lia) ⟨.bl _,H,I,rfl,q⟩
   . cases e
 | tuple ds =>
   replace e:(if _ then _ else _)=some _:=e;split at e
   . rename_i h
     cases e; obtain ⟨as,r1⟩:=ra.reads I hG rx; obtain ⟨bs,r2⟩:=rb.reads I hG ry; exact SeqAt.in_tuple_reads r2 r1 rb.lay ra.lay (by lia) ⟨.bl _,H,I,rfl,q⟩
   . cases e
 | str z =>
   cases a with
   | str z' =>
     cases e;cases ra.1; cases rb.1;obtain ⟨t,rfl⟩:=rx; obtain ⟨t',rfl⟩:=ry; exact in_str ⟨.bl _,H,I,rfl,q⟩
   | _=>cases e
 | _=>cases e
theorem Rz (hu:X.A.units+64 < k5):OpR X (zR .NotIn) (tJ true):=by
 rintro pins s Z H x y v u Q I rx ry ⟨G,a,b,d,hG,ra,rb,e,q⟩;cases b with
 | list ds =>
   replace e:(if _ then _ else _)=some _:=e;split at e
   . rename_i h
     cases e; obtain ⟨as,r1⟩:=ra.reads I hG rx; obtain ⟨bs,r2⟩:=rb.reads I hG ry; exact SeqAt.notIn_list_reads r2 r1 rb.lay ra.lay (by lia) ⟨.bl _,H,I,rfl,q⟩
   . cases e
 | tuple ds =>
   replace e:(if _ then _ else _)=some _:=e;split at e
   . rename_i h
     cases e; obtain ⟨as,r1⟩:=ra.reads I hG rx; obtain ⟨bs,r2⟩:=rb.reads I hG ry; exact SeqAt.notIn_tuple_reads r2 r1 rb.lay ra.lay (by lia) ⟨.bl _,H,I,rfl,q⟩
   . cases e
 | str z =>
   cases a with
   | str z' =>
     cases e;cases ra.1; cases rb.1;obtain ⟨t,rfl⟩:=rx; obtain ⟨t',rfl⟩:=ry; exact notIn_str ⟨.bl _,H,I,rfl,q⟩
   | _=>cases e
 | _=>cases e
theorem Oz {neg:Bool} {a b d:wF} (e:dIn neg a b=some d):∃ k,d=.bool k:=by
 cases b with
 | list ds=>replace e:(if _ then _ else _)=some _:=e; split at e <;> cases e; exact ⟨_,rfl⟩
 | tuple ds=>replace e:(if _ then _ else _)=some _:=e; split at e <;> cases e; exact ⟨_,rfl⟩
 | str z=>cases a with
   | str z'=>cases e; exact ⟨_,rfl⟩
   | _=>cases e
 | _=>cases e
theorem Ud {neg:Bool}:OpD (tJ neg) (dIn neg):=by
 intro G H x y a b d Q hG ra rb e q;obtain ⟨k,rfl⟩:=Oz e;exact ⟨G,a,b,k,hG,ra,rb,e,q _ G H (Grow.refl hG) rfl⟩
end
noncomputable def C5:wF->wF->Option wF
 | .int i,.int j=>some (.int (i+j))
 | .str x,.str y=>if x.length+y.length<=sizeLine then some (.str (x++y)) else none
 | .list xs,.list ys=>if xs.length+ys.length<=sizeLine then some (.list (xs++ys)) else none
 | .tuple xs,.tuple ys=>if xs.length+ys.length<=sizeLine then some (.tuple (xs++ys)) else none
 | _,_=>none
def rQ:R2:=fun x y H Q=>∃ G a b d,Same G H/\Rep G a x/\Rep G b y/\C5 a b=some d/\∀ v G' H',Grow G H G' H'->Rep G' d v->Q v H'
theorem Cv {x y:Str} (hx:xP x=true) (hy:xP y=true):xP (x++y)=true:=by
 unfold xP at *;show (x.cps++y.cps).all _=true;rw [Array.all_append,hx,hy]; rfl
theorem Mn (x y:Str):(x++y).length=x.length+y.length:=by
 show (x.cps++y.cps).size=_;rw [Array.size_append]; rfl
noncomputable section
variable {X:Cx}
theorem dC {pins:List (wR×Obj)} {Z:St} {H G:Hp} {s:wJ} {Q:VK} {ds:List wF} {xs:List V} {its:List wI} {t':Nat} (I:Inv X pins Z H s) (hG:Same G H) (rv:Vals xs its) (rl:RepL G ds xs) (hz:xs.length<=sizeLine)
   (q:∀ v G' H',Grow G H G' H'->Rep G' (.tuple ds) v->Q v H'):EP X pins Z Q (.ref s.heap.objs.size) { s with heap:=s.heap.push { cls:=.type "tuple",data:=.seq its.toArray },toks:=t' }:=by
 refine ⟨.ref s.heap.objs.size,_,I.laid (t':=t') (o:=.tup xs) (fun b ob q=>wN _ q) (wO _) ⟨hz,its,rv,IsTup.new _ _⟩,rfl,q _ (upd G s.heap.objs.size (.tup xs)) _ (Grow.new hG I.fresh) ⟨_,xs,rfl,C0,rl.mono (Same.upd (hG.free I.fresh))⟩⟩
theorem Ut {pins:List (wR×Obj)} {Z:St} {H G:Hp} {s:wJ} {Q:VK} {ds:List wF} {xs:List V} {its:List wI} {t':Nat} (I:Inv X pins Z H s) (hG:Same G H) (rv:Vals xs its) (rl:RepL G ds xs) (hz:xs.length<=sizeLine)
   (q:∀ v G' H',Grow G H G' H'->Rep G' (.list ds) v->Q v H'):EP X pins Z Q (.ref s.heap.objs.size) { s with heap:=s.heap.push { cls:=.type "list",data:=.seq its.toArray },toks:=t' }:=by
 refine ⟨.ref s.heap.objs.size,_,I.lnew (t':=t') rv hz,rfl,q _ (upd G s.heap.objs.size (.lst xs)) _ (Grow.new hG I.fresh) ⟨_,xs,rfl,.inl C0,rl.mono (Same.upd (hG.free I.fresh))⟩⟩
theorem oW:OpR X (DY .Add) rQ:=by
 rintro pins s Z H x y v u Q I rx ry ⟨G,a,b,d,hG,ra,rb,e,q⟩;cases a with
 | int i=>cases b with
   | int j =>
     cases e;cases (show _=_ from ra); cases (show _=_ from rb);obtain ⟨t,rfl⟩:=rx; obtain ⟨t',rfl⟩:=ry; exact add_int ⟨.int _,H,I.tok _,⟨_,rfl⟩,q _ G H (Grow.refl hG) rfl⟩
   | _=>cases e
 | str i=>cases b with
   | str j =>
     replace e:(if _ then _ else _)=some d:=e;split at e
     . rename_i hz
       cases e; obtain ⟨e1,o1,_⟩:=ra; obtain ⟨e2,o2,_⟩:=rb;cases e1; cases e2;obtain ⟨t,rfl⟩:=rx; obtain ⟨t',rfl⟩:=ry; exact add_str (fun t' tk=>⟨.str (i++j),H,I.tok _,⟨_,rfl⟩,q _ G H (Grow.refl hG) ⟨rfl,Cv o1 o2,by rw [Mn]; exact hz⟩⟩) hz
     . cases e
   | _=>cases e
 | list xs=>cases b with
   | list ys =>
     replace e:(if _ then _ else _)=some d:=e;split at e
     . rename_i hz
       cases e; obtain ⟨l,vs,rfl,h1,l1⟩:=ra; obtain ⟨l',ws,rfl,h2,l2⟩:=rb;cases rx; cases ry;obtain ⟨z1,its1,n1,v1,e1⟩:=W1 I hG h1; obtain ⟨z2,its2,n2,v2,e2⟩:=W1 I hG h2; have q1:=v1.length; have q2:=v2.length; have q3:=l1.length; have q4:=l2.length; refine PySem.P.add_list e1 e2 ?_ (by rw [wZ,wZ]; lia);have ea:its1.toArray++its2.toArray=(its1++its2).toArray:=by simp
       rw [ea]; exact Ut (t':=s.toks) I hG (v1.append v2) (l1.append l2) (by rw [xG]; lia) q
     . cases e
   | _=>cases e
 | tuple xs=>cases b with
   | tuple ys =>
     replace e:(if _ then _ else _)=some d:=e;split at e
     . rename_i hz
       cases e; obtain ⟨l,vs,rfl,h1,l1⟩:=ra; obtain ⟨l',ws,rfl,h2,l2⟩:=rb;cases rx; cases ry;obtain ⟨z1,its1,v1,p1⟩:=Jj I hG h1; obtain ⟨z2,its2,v2,p2⟩:=Jj I hG h2; have q1:=v1.length; have q2:=v2.length; have q3:=l1.length; have q4:=l2.length;by_cases hx:its1=[]
       . subst hx
         obtain ⟨⟨cls,dd,data,sl⟩,ho,hc,n,hd⟩:=id p1; obtain ⟨⟨cls2,dd2,data2,sl2⟩,ho2,hc2,n2,hd2⟩:=id p2; simp only at hc hd hc2 hd2; subst hc hd hc2 hd2; refine concat_meets ⟨_,ho,rfl⟩ ⟨_,ho2,rfl⟩ GY seq_tuple_add CU CL (CD _ _)
           (tuple_addW0 l l' _ _ n n2 dd dd2 sl sl2 (by simp)) ⟨ho,ho2,?_⟩
         have hxs:xs=[]:=by
           have:xs.length=0:=by rw [q3,q1]; rfl
           exact zF.mp this
         subst hxs; exact ⟨.ref l',H,I,rfl,q _ G H (Grow.refl hG) ⟨l',ws,rfl,h2,l2⟩⟩
       . refine HT.cat_tup p1 p2 hx (fun hy=>?_) (fun hy=>?_) (by lia)
         . subst hy
           have hys:ys=[]:=by
             have:ys.length=0:=by rw [q4,q2]; rfl
             exact zF.mp this
           subst hys; rw [yL] at q; exact ⟨.ref l,H,I,rfl,q _ G H (Grow.refl hG) ⟨l,vs,rfl,h1,l1⟩⟩
         . exact dC (t':=s.toks) I hG (v1.append v2) (l1.append l2) (by rw [xG]; lia) q
     . cases e
   | _=>cases e
 | _=>cases e
theorem pA:OpD rQ C5:=fun G H x y a b d Q hG ra rb e q=>⟨G,a,b,d,hG,ra,rb,e,q⟩
noncomputable def Uw:wF->wF->Option wF
 | .int i,.int j=>some (.int (i - j))
 | _,_=>none
noncomputable def Qu:wF->wF->Option wF
 | .int i,.int j=>if 0 < j then some (.int (i % j)) else none
 | _,_=>none
noncomputable def Kv:wF->wF->Option wF
 | .int i,.int j=>if 0 < j/\j < 1073741824 then some (.int (i / j)) else none
 | _,_=>none
theorem Uc {r:R2} {op:wF->wF->Option wF} (h:∀ a b d,op a b=some d->∃ i j k,a=.int i/\b=.int j/\d=.int k/\∀ H Q,Q (V.int k) H->r (.int i) (.int j) H Q):OpD r op:=by
 intro G H x y a b d Q hG ra rb e q;obtain ⟨i,j,k,rfl,rfl,rfl,hr⟩:=h a b d e;cases (show _=_ from ra); cases (show _=_ from rb);exact hr H Q (q _ G H (Grow.refl hG) rfl)
theorem oX:OpD (rI0 fun i j=>.int (i - j)) Uw:=Uc fun a b d e=>by
 unfold Uw at e;split at e
 . cases e; exact ⟨_,_,_,rfl,rfl,rfl,fun H Q q=>⟨_,_,rfl,rfl,q⟩⟩
 . cases e
theorem oZ:OpD (rI (fun _ j=>0 < j) fun i j=>.int (i % j)) Qu:=Uc fun a b d e=>by
 unfold Qu at e;split at e
 . split at e
   . rename_i h; cases e; exact ⟨_,_,_,rfl,rfl,rfl,fun H Q q=>⟨_,_,rfl,rfl,h,q⟩⟩
   . cases e
 . cases e
theorem kF:OpD (rI CDiv fun i j=>.int (i / j)) Kv:=Uc fun a b d e=>by
 unfold Kv at e;split at e
 . split at e
   . rename_i h; cases e; exact ⟨_,_,_,rfl,rfl,rfl,fun H Q q=>⟨_,_,rfl,rfl,h,q⟩⟩
   . cases e
 . cases e
end
end Sm
end
noncomputable section
namespace Sm
open PySem PySem.Spec PyProof.Rows L2
open PySem.AutoSeq1 (wpAny_loadPart')
noncomputable def K7 (n:Nat) (x:Str):Str:=⟨(xI n x.cps).foldl (· ++ ·) #[]⟩
theorem gG (l:List (Array Nat)):∀ acc:Array Nat,(l.foldl (· ++ ·) acc).toList=acc.toList++(l.map HN).flatten:=by
 induction l with
 | nil=>intro acc; simp
 | cons a l ih=>intro acc; rw [p8,ih]; simp
theorem W0 (n:Nat) (x:Str):(K7 n x).cps.toList=(xI n x.cps.toList).flatten:=by
 unfold K7;rw [gG]; simp
theorem eF {x:Str} (h:xP x=true) (n:Nat):xP (K7 n x)=true:=by
 unfold xP at *;rw [<- FS,l7] at *;rw [W0];intro c hc;obtain ⟨l,hl,hc⟩:=CW.mp hc;rw [List.eq_of_mem_replicate hl] at hc;exact h c hc
theorem Mo (n:Nat) (x:Str):(K7 n x).length=n*x.length:=by
 show (K7 n x).cps.size=n*x.cps.size;rw [<- yI,W0,cW,yI]
theorem Vx (x:Str):K7 0 x=Str.empty:=rfl
theorem Zx (x:Str):K7 1 x=x:=by
 have:(K7 1 x).cps=x.cps:=by
   apply Array.toList_inj.mp;rw [W0]; simp
 cases x; cases h:K7 1 _; rw [h] at this; cases this; rfl
theorem Zy {x:Str} (n:Nat) (h:x.length=0):K7 n x=x:=by
 have hx:x.cps = #[]:=Array.size_eq_zero_iff.mp h;have:(K7 n x).cps=x.cps:=by
   apply Array.toList_inj.mp;rw [W0,hx]; simp
 cases x; cases h:K7 n _; rw [h] at this; cases this; rfl
noncomputable def N2:wF->wF->Option wF
 | .int i,.int j=>if (-(2 ^ 64) < i/\i < 2 ^ 64)\/(-(2 ^ 64) < j/\j < 2 ^ 64) then some (.int (i*j)) else none
 | .str x,.int n=>if -(2 ^ 63)<=n/\n < 2 ^ 63/\x.length*n.toNat<=sizeLine then some (.str (K7 n.toNat x)) else none
 | .list xs,.int n=>if -(2 ^ 63)<=n/\n < 2 ^ 63/\xs.length*n.toNat<=sizeLine then some (.list (xI n.toNat xs).flatten) else none
 | _,_=>none
def rP:R2:=fun x y H Q=>∃ G a b d,Same G H/\Rep G a x/\Rep G b y/\N2 a b=some d/\∀ v G' H',Grow G H G' H'->Rep G' d v->Q v H'
theorem oY:OpD rP N2:=fun G H x y a b d Q hG ra rb e q=>⟨G,a,b,d,hG,ra,rb,e,q⟩
theorem fJ:fillsNumberSlot (.type "tuple") "mul" = pure false:=by
 unfold fillsNumberSlot;first | rfl | kernel_rfl | decide +kernel
theorem nU:seqRepeat? (.type "tuple")=pure (some (.builtin "tuple.__mul__")):=by
 unfold seqRepeat?;first | rfl | kernel_rfl
theorem lI (a:Int) (t:Tok) (l:wR) (items:Array wI) (n:Nat) (dd:Option wR) (sl:Array (Option wI)) :
   Meets (f9.«int.__rmul__» ⟨[.int a t,.ref l],[]⟩) (fun _ R s=>s.heap.get? l=some { cls:=.type "tuple",dict:=dd,data:=.seq items n,slots:=sl }/\R (.ok (.ret DZ)) s) :=
 .of_wp fun prog w A R s h=>by obtain ⟨hp,g,d,tk,os⟩:=s; obtain ⟨hl,h⟩:=h; wp_walk; exact ⟨_,rfl,h⟩
theorem hV (l:wR) (items:Array wI) (n:Nat) (x:Int) (u:Tok) (dd:Option wR) (sl:Array (Option wI)) (h1:¬ (decide (x < -(2 ^ 63:Int))||decide (x≥2 ^ 63))=true) (h2:¬ (items.isEmpty||x==1)=true) (h3:¬ (decide (x<=0)||items.isEmpty)=true)
   (h4:¬ (items.size:Int)*x>(2 ^ 63 - 1) / 8) (h5:¬ Builtin.Tuple.tupleTooMany (items.size*x)=true) (h6:(FH (fun x1 x2=>x1++x2) #[] (xI x.toNat items)).size<=sizeLine) :
   Meets (f9.«tuple.__mul__» ⟨[.ref l,.int x u],[]⟩) (fun _ R s=>s.heap.get? l=some { cls:=.type "tuple",dict:=dd,data:=.seq items n,slots:=sl }/\R (.ok (.ret (f8 s.heap.objs.size))) { s with heap:=s.heap.push { cls:=p0 "tuple",data:=Data.seq (FH (fun x1 x2=>x1++x2) #[] (xI x.toNat items)) },toks:=s.toks }) :=
 .of_wp fun prog w A R s h=>by
   obtain ⟨hp,g,d,tk,os⟩:=s; obtain ⟨hl,h⟩:=h;have f1:=IV
   wp_walk using zZ hl
   rw [if_neg h1]
   wp_walk using zZ hl
   rw [if_neg h4]
   wp_walk using zZ hl
   exact ⟨_,rfl,h⟩
theorem hU (l:wR) (items:Array wI) (n:Nat) (x:Int) (u:Tok) (dd:Option wR) (sl:Array (Option wI)) (h1:¬ (decide (x < -(2 ^ 63:Int))||decide (x≥2 ^ 63))=true) (h2:(items.isEmpty||x==1)=true) :
   Meets (f9.«tuple.__mul__» ⟨[.ref l,.int x u],[]⟩) (fun _ R s=>s.heap.get? l=some { cls:=.type "tuple",dict:=dd,data:=.seq items n,slots:=sl }/\R (.ok (.ret (.ref l))) s) :=
 .of_wp fun prog w A R s h=>by
   obtain ⟨hp,g,d,tk,os⟩:=s; obtain ⟨hl,h⟩:=h;have f1:=IV
   wp_walk using zZ hl
   rw [if_neg h1]
   wp_walk using zZ hl
   exact ⟨_,rfl,h⟩
noncomputable section
variable {X:Cx}
theorem oT:OpR X (DY .Mult) rP:=by
 rintro pins s Z H x y v u Q I rx ry ⟨G,a,b,d,hG,ra,rb,e,q⟩;have h63:=Dk;obtain ⟨k,rfl⟩:∃ k,b=.int k:=by unfold N2 at e; split at e <;> first | exact ⟨_,rfl⟩ | cases e
 cases (show _=_ from rb);obtain ⟨t',rfl⟩:=ry;cases a with
 | int i =>
   replace e:(if _ then _ else _)=some d:=e;split at e
   . rename_i hc
     cases e;cases (show _=_ from ra);obtain ⟨t,rfl⟩:=rx; exact mul_int ⟨.int _,H,I.tok _,⟨_,rfl⟩,q _ G H (Grow.refl hG) rfl⟩ (CMul.ok hc)
   . cases e
 | str z =>
   replace e:(if _ then _ else _)=some d:=e;split at e
   . rename_i hc
     obtain ⟨hc1,hc2,hc3⟩:=hc; cases e; obtain ⟨e1,o1,l1⟩:=ra; cases e1; obtain ⟨t,rfl⟩:=rx; have fin:∀ tk,Q (.str (K7 k.toNat z)) H/\Inv X pins Z H { s with toks:=tk }:=fun tk=>⟨q _ G H (Grow.refl hG) ⟨rfl,eF o1 _,by rw [Mo,IL]; exact hc3⟩,I.tok _⟩;refine PySem.P.mul_str (by rw [decide_eq_false (by lia),decide_eq_false (by lia)]; rfl) (fun h1 _=>?_) (fun h1 _=>?_) ?_
     . intro hgt
       have hk:(0:Int) < k:=by lia
       have h2:(2 ^ 63 - 1) / k+1<=(z.length:Int):=by lia
       have h3:(2 ^ 63 - 1:Int) < ((2 ^ 63 - 1) / k+1)*k:=Int.lt_ediv_add_one_mul_self _ hk; have h4:((2 ^ 63 - 1) / k+1)*k<=(z.length:Int)*k:=Int.mul_le_mul_of_nonneg_right h2 (by lia);have h5:(z.length:Int)*k=((z.length*k.toNat:Nat):Int):=by
         rw [Int.natCast_mul,Int.toNat_of_nonneg (by lia)]
       lia
     . unfold Builtin.Str.tooLong
       exact decide_eq_false (by lia)
     . by_cases h1:k < 1
       . rw [if_pos h1]
         have:k.toNat=0:=by lia
         rw [this,Vx] at fin; exact ⟨by decide,⟨.str _,H,(fin _).2,⟨_,rfl⟩,(fin 0).1⟩⟩
       . rw [if_neg h1]
         by_cases h2:(k==1||z.length==0)=true
         . rw [if_pos h2]
           rw [GD] at h2; have ez:K7 k.toNat z=z:=by
             rcases h2 with h2 | h2
             . have:k=1:=i7 h2
               subst this; exact Zx z
             . exact Zy _ (i7 h2)
           rw [ez] at fin; exact ⟨.str _,H,I,⟨_,rfl⟩,(fin 0).1⟩
         . rw [if_neg h2]
           exact ⟨by show (K7 k.toNat z).length<=_; rw [Mo,IL]; exact hc3,⟨.str _,H,(fin _).2,⟨_,rfl⟩,(fin 0).1⟩⟩
   . cases e
 | list xs =>
   replace e:(if _ then _ else _)=some d:=e;split at e
   . rename_i hc
     obtain ⟨hc1,hc2,hc3⟩:=hc; cases e; obtain ⟨l,vs,rfl,h1,l1⟩:=ra; cases rx; have q3:=l1.length; obtain ⟨z,its,n,r,e⟩:=W1 I hG h1; have hl:=r.length; have hlen:its.toArray.size*k.toNat<=sizeLine:=by rw [wZ,<- hl,<- q3]; exact hc3
     have hcap:¬ its.toArray.size*k.toNat>(2 ^ 63 - 1) / 8:=by
       have:(sizeLine:Nat)<=(2 ^ 63 - 1) / 8:=by decide
       lia
     have hfit:¬ (!Builtin.List.listFitsIndex k)=true:=by
       rw [fitsIndex_both hc1 hc2]; exact j0
     have hlong:¬ x4 (its.toArray.size*k.toNat)=true:=by
       rw [Xo hlen]; exact j0
     have hnew:FH (fun x1 x2=>x1++x2) #[] (xI (if its.toArray.isEmpty=true then 0 else k.toNat) its.toArray)=(xI k.toNat its).flatten.toArray:=by
       have f0:∀ m:Nat,FH (fun x1 x2=>x1++x2) #[] (xI m its.toArray)=(xI m its).flatten.toArray:=fun m=>by
         have:=gF its m []; rw [yB] at this; exact this
       rw [f0];cases its with
       | nil=>simp
       | cons a r'=>rw [if_neg (by simp)]
     refine wpAny_binaryOp_repeat_ref (T := "list") (U := "int") (by decide) ⟨_,e,rfl⟩ (fun s'=>typeIs_int s' k t') noFill_list_mul F.fills_int_mul F.slot_int_rmul repeat_list F.slot_int_index.lookup
       (FW F.slot_int_rmul (typeIs_int s k t') F.entry_int_rmul (F.args_int_rmul_2 _ _) (int___rmul___int_list k t' l its.toArray n)
         ⟨e,rfl,⟨_,e,rfl⟩,FW F.slot_list_mul ⟨_,e,rfl⟩ F.entry_list_mul (F.args_list_mul_2 _ _) (AutoListH.list___mul___list_int_3 l its.toArray n k t' hfit hcap hlong) ⟨e,?_⟩⟩)
     rw [hnew]; exact Ut (t':=s.toks) I hG (r.rep k.toNat) (l1.rep k.toNat) (by rw [cW,IL,<- q3]; exact hc3) q
   . cases e
 | _=>cases e
end
end Sm
end
noncomputable section
namespace Sm
open PySem PySem.Spec PyProof.Rows L2
open PySem.AutoSeq1 (wpAny_loadPart')
open PySem.MeetsSeq PySem.MeetsSeq2 PySem.MeetsSeq3
noncomputable def gC:l0->Int->Int->Bool
 | .Lt,i,j=>decide (i < j)
 | .LtE,i,j=>decide (i<=j)
 | .Gt,i,j=>decide (j < i)
 | _,i,j=>decide (j<=i)
noncomputable def Wz:l0->Str->Str->Bool
 | .Lt,x,y=>decide (x.cps.toList < y.cps.toList)
 | .LtE,x,y => !decide (y.cps.toList < x.cps.toList)
 | .Gt,x,y=>decide (y.cps.toList < x.cps.toList)
 | _,x,y => !decide (x.cps.toList < y.cps.toList)
noncomputable def Zn:l0->Nat->Nat->Bool
 | .Lt,m,n=>decide (m < n)
 | .LtE,m,n=>decide (m<=n)
 | .Gt,m,n=>decide (m>n)
 | _,m,n=>decide (m≥n)
noncomputable def rT:l0->Bool
 | .Lt=>true | .LtE=>true | .Gt=>true | .GtE=>true | _=>false
mutual
noncomputable def Qv (op:l0):wF->wF->Option Bool
 | .int i,.int j=>some (gC op i j)
 | .str x,.str y=>some (Wz op x y)
 | .tuple xs,.tuple ys=>Fi op xs ys
 | _,_=>none
noncomputable def Fi (op:l0):List wF->List wF->Option Bool
 | [],ys=>some (Zn op 0 ys.length)
 | x::xs,[]=>some (Zn op (xs.length+1) 0)
 | x::xs,y::ys=>if xE x y=true then Fi op xs ys else Qv op x y
end
def mR (op:l0) (A:yS) (s:wJ) (u v:wI) (k:Bool):Prop:=∀ (prog:xN) (w:xT) (E:wI->wJ->Prop) (Q:wI->wJ->Prop),Q (.bool k) s->wpAny (xH prog w) A (richCompare op u v) Q E s
theorem tG {op:l0} (h:rT op=true) (A:yS) (s:wJ) (i j:Int) (t u:Tok):mR op A s (.int i t) (.int j u) (gC op i j):=fun prog w E Q q=>by
 cases op with
 | Lt=>exact (lt_int q:wpAny (xH prog w) A (zR .Lt (.int i t) (.int j u)) Q E s)
 | LtE=>exact (le_int q:wpAny (xH prog w) A (zR .LtE (.int i t) (.int j u)) Q E s)
 | Gt=>exact (gt_int q:wpAny (xH prog w) A (zR .Gt (.int i t) (.int j u)) Q E s)
 | GtE=>exact (ge_int q:wpAny (xH prog w) A (zR .GtE (.int i t) (.int j u)) Q E s)
 | _=>cases h
theorem tE {op:l0} (h:rT op=true) (A:yS) (s:wJ) (x y:Str) (t u:Tok):mR op A s (.str x t) (.str y u) (Wz op x y):=fun prog w E Q q=>by
 cases op with
 | Lt=>exact (PySem.P.lt_str q:wpAny (xH prog w) A (zR .Lt (.str x t) (.str y u)) Q E s)
 | LtE=>exact (PySem.P.le_str (by simpa [Wz] using q):wpAny (xH prog w) A (zR .LtE (.str x t) (.str y u)) Q E s)
 | Gt=>exact (PySem.P.gt_str q:wpAny (xH prog w) A (zR .Gt (.str x t) (.str y u)) Q E s)
 | GtE=>exact (PySem.P.ge_str (by simpa [Wz] using q):wpAny (xH prog w) A (zR .GtE (.str x t) (.str y u)) Q E s)
 | _=>cases h
def Br (op:l0) (A:yS) (s:wJ) (vs ws:List wI) (ds es:List wF):Prop :=
 ∀ (i:Nat) (v w:wI) (d e:wF),vs[i]? = some v->ws[i]? = some w->ds[i]? = some d->es[i]? = some e->SeqAt.EqAt A s v w (xE d e)/\∀ k,Qv op d e=some k->mR op A s v w k
theorem Pk (l b:wR) (items items2:Array wI) (n n2:Nat) (dd dd2:Option wR) (sl sl2:Array (Option wI)) (ds es:List wF) (k:Bool) (hz1:items.toList.length=ds.length) (hz2:items2.toList.length=es.length) (hk:Fi .Lt ds es=some k) :
   Meets (f9.«tuple.__lt__» ⟨[.ref l,.ref b],[]⟩)
     (fun A R s=>s.heap.get? l=some { cls:=.type "tuple",dict:=dd,data:=.seq items n,slots:=sl }/\s.heap.get? b=some { cls:=.type "tuple",dict:=dd2,data:=.seq items2 n2,slots:=sl2 } /\
       Br .Lt A.in1 s items.toList items2.toList ds es/\R (.ok (.ret (.bool k))) s) :=
 .of_wp fun prog w A R s h=>by
   obtain ⟨hp,g,d,tk,os⟩:=s; obtain ⟨hl,hb,hI,h⟩:=h;have f2:=GE; have z1:items.size=ds.length:=by rw [<- hz1]; simp
   have z2:items2.size=es.length:=by rw [<- hz2]; simp
   wp_walk using zZ hl,zZ hb,BT _ (fun L3 b s'=>b.1=none/\s'=⟨hp,g,d,tk,os⟩/\∃ (vs ws:List wI) (ds' es':List wF),L3=vs.zip ws /\
     vs.length=ds'.length/\ws.length=es'.length/\ds'.length+items2.size=es'.length+items.size/\Br .Lt A.in1 ⟨hp,g,d,tk,os⟩ vs ws ds' es'/\Fi .Lt ds' es'=some k) _
   case turn =>
     rintro ⟨y,x⟩ L3 b s' ⟨hb',rfl,vs,ws,ds',es',hz,hv,hw,hlen,hI',hR⟩;cases vs with
     | nil=>rw [List.zip_nil_left] at hz; cases hz
     | cons v0 vs =>
       cases ws with
       | nil=>rw [List.zip_nil_right] at hz; cases hz
       | cons w0 ws =>
         cases ds' with
         | nil=>simp at hv
         | cons d0 ds' =>
           cases es' with
           | nil=>simp at hw
           | cons e0 es' =>
             rw [BY] at hz;injection hz with hyx hrest
             injection hyx with hy hx
             subst hy hx; simp only [wT] at hlen hv hw; obtain ⟨he,hc⟩:=hI' 0 y x d0 e0 rfl rfl rfl rfl; have hI2:Br .Lt A.in1 ⟨hp,g,d,tk,os⟩ vs ws ds' es':=fun i v w d e h1 h2 h3 h4=>hI' (i+1) v w d e (by simpa using h1) (by simpa using h2) (by simpa using h3) (by simpa using h4);rw [Fi] at hR; refine wG (he prog w _ _ ?_);cases q:xE d0 e0 with
             | true =>
               rw [q,if_pos rfl] at hR
               wp_walk
               exact ⟨rfl,rfl,_,_,_,_,hrest,by lia,by lia,by lia,hI2,hR⟩
             | false =>
               rw [q,if_neg (by decide)] at hR; have hri:=hc k hR prog w
               wp_walk using hri
               exact ⟨_,rfl,by simpa using h⟩
   case fin =>
     rintro ⟨b1,b2⟩ s' ⟨hb',rfl,vs,ws,ds',es',hz,hv,hw,hlen,hI',hR⟩;simp only at hb'; subst hb'; have hv':k=decide (items.size < items2.size):=by
       cases ds' with
       | nil =>
         rw [Fi] at hR; have:=yM hR; rw [<- this]; simp only [zD] at hlen; simp only [Zn]; exact decide_eq_decide.mpr (by lia)
       | cons d0 ds' =>
         cases es' with
         | nil =>
           rw [Fi] at hR; have:=yM hR; rw [<- this]; simp only [zD,wT] at hlen; simp only [Zn]; exact decide_eq_decide.mpr (by lia)
         | cons e0 es' =>
           cases vs with
           | nil=>simp at hv
           | cons v0 vs =>
             cases ws with
             | nil=>simp at hw
             | cons w0 ws=>rw [BY] at hz; cases hz
     rw [hv'] at h
     wp_walk
     exact ⟨_,rfl,by simpa [DX] using h⟩
   case h =>
     exact ⟨rfl,rfl,items.toList,items2.toList,ds,es,rfl,hz1,hz2,by lia,hI,hk⟩
theorem Pl (l b:wR) (items items2:Array wI) (n n2:Nat) (dd dd2:Option wR) (sl sl2:Array (Option wI)) (ds es:List wF) (k:Bool) (hz1:items.toList.length=ds.length) (hz2:items2.toList.length=es.length) (hk:Fi .LtE ds es=some k) :
   Meets (f9.«tuple.__le__» ⟨[.ref l,.ref b],[]⟩)
     (fun A R s=>s.heap.get? l=some { cls:=.type "tuple",dict:=dd,data:=.seq items n,slots:=sl }/\s.heap.get? b=some { cls:=.type "tuple",dict:=dd2,data:=.seq items2 n2,slots:=sl2 } /\
       Br .LtE A.in1 s items.toList items2.toList ds es/\R (.ok (.ret (.bool k))) s) :=
 .of_wp fun prog w A R s h=>by
   obtain ⟨hp,g,d,tk,os⟩:=s; obtain ⟨hl,hb,hI,h⟩:=h;have f2:=GE; have z1:items.size=ds.length:=by rw [<- hz1]; simp
   have z2:items2.size=es.length:=by rw [<- hz2]; simp
   wp_walk using zZ hl,zZ hb,BT _ (fun L3 b s'=>b.1=none/\s'=⟨hp,g,d,tk,os⟩/\∃ (vs ws:List wI) (ds' es':List wF),L3=vs.zip ws /\
     vs.length=ds'.length/\ws.length=es'.length/\ds'.length+items2.size=es'.length+items.size/\Br .LtE A.in1 ⟨hp,g,d,tk,os⟩ vs ws ds' es'/\Fi .LtE ds' es'=some k) _
   case turn =>
     rintro ⟨y,x⟩ L3 b s' ⟨hb',rfl,vs,ws,ds',es',hz,hv,hw,hlen,hI',hR⟩;cases vs with
     | nil=>rw [List.zip_nil_left] at hz; cases hz
     | cons v0 vs =>
       cases ws with
       | nil=>rw [List.zip_nil_right] at hz; cases hz
       | cons w0 ws =>
         cases ds' with
         | nil=>simp at hv
         | cons d0 ds' =>
           cases es' with
           | nil=>simp at hw
           | cons e0 es' =>
             rw [BY] at hz;injection hz with hyx hrest
             injection hyx with hy hx
             subst hy hx; simp only [wT] at hlen hv hw; obtain ⟨he,hc⟩:=hI' 0 y x d0 e0 rfl rfl rfl rfl; have hI2:Br .LtE A.in1 ⟨hp,g,d,tk,os⟩ vs ws ds' es':=fun i v w d e h1 h2 h3 h4=>hI' (i+1) v w d e (by simpa using h1) (by simpa using h2) (by simpa using h3) (by simpa using h4);rw [Fi] at hR; refine wG (he prog w _ _ ?_);cases q:xE d0 e0 with
             | true =>
               rw [q,if_pos rfl] at hR
               wp_walk
               exact ⟨rfl,rfl,_,_,_,_,hrest,by lia,by lia,by lia,hI2,hR⟩
             | false =>
               rw [q,if_neg (by decide)] at hR; have hri:=hc k hR prog w
               wp_walk using hri
               exact ⟨_,rfl,by simpa using h⟩
   case fin =>
     rintro ⟨b1,b2⟩ s' ⟨hb',rfl,vs,ws,ds',es',hz,hv,hw,hlen,hI',hR⟩;simp only at hb'; subst hb'; have hv':k=decide (items.size<=items2.size):=by
       cases ds' with
       | nil =>
         rw [Fi] at hR; have:=yM hR; rw [<- this]; simp only [zD] at hlen; simp only [Zn]; exact decide_eq_decide.mpr (by lia)
       | cons d0 ds' =>
         cases es' with
         | nil =>
           rw [Fi] at hR; have:=yM hR; rw [<- this]; simp only [zD,wT] at hlen; simp only [Zn]; exact decide_eq_decide.mpr (by lia)
         | cons e0 es' =>
           cases vs with
           | nil=>simp at hv
           | cons v0 vs =>
             cases ws with
             | nil=>simp at hw
             | cons w0 ws=>rw [BY] at hz; cases hz
     rw [hv'] at h
     wp_walk
     exact ⟨_,rfl,by simpa [DX] using h⟩
   case h =>
     exact ⟨rfl,rfl,items.toList,items2.toList,ds,es,rfl,hz1,hz2,by lia,hI,hk⟩
theorem jH {op:l0} (ho:op=.Lt\/op=.LtE) {A:yS} {s:wJ} {l b:wR} {items items2:Array wI} {ds es:List wF} {k:Bool} (hl:ES s.heap l items) (hb:ES s.heap b items2) (hz1:items.toList.length=ds.length) (hz2:items2.toList.length=es.length)
   (hI:Br op A.in1 s items.toList items2.toList ds es) (hk:Fi op ds es=some k) (hu:A.units < k5):mR op A s (.ref l) (.ref b) k:=fun prog w E Q q=>by
 obtain ⟨⟨cls,dd,data,sl⟩,ho1,hc,n,hd⟩:=id hl;obtain ⟨⟨cls2,dd2,data2,sl2⟩,ho2,hc2,n2,hd2⟩:=id hb;simp only at hc hd hc2 hd2;subst hc hd hc2 hd2;rcases ho with rfl | rfl
 . exact richCompare_meets_room (op := .Lt) ⟨_, ho1, rfl⟩ ⟨_, ho2, rfl⟩ PySem.F.slot_tuple_lt PySem.F.entry_tuple_lt (PySem.F.args_tuple_lt_2 _ _) (Pk l b items items2 n n2 dd dd2 sl sl2 ds es k hz1 hz2 hk)
     ⟨ho1,ho2,hI,show EW k≠DZ/\Q (.bool k) s from ⟨(fun x=>nomatch x),q⟩⟩ hu
 . exact richCompare_meets_room (op := .LtE) ⟨_, ho1, rfl⟩ ⟨_, ho2, rfl⟩ PySem.F.slot_tuple_le PySem.F.entry_tuple_le (PySem.F.args_tuple_le_2 _ _) (Pl l b items items2 n n2 dd dd2 sl sl2 ds es k hz1 hz2 hk)
     ⟨ho1,ho2,hI,show EW k≠DZ/\Q (.bool k) s from ⟨(fun x=>nomatch x),q⟩⟩ hu
theorem vQ {op:l0} {i:Int} {b:wF} {k:Bool} (e:Qv op (.int i) b=some k):∃ j,b=.int j/\k=gC op i j:=by cases b <;> cases e; exact ⟨_,rfl,rfl⟩
theorem vP {op:l0} {i:Str} {b:wF} {k:Bool} (e:Qv op (.str i) b=some k):∃ j,b=.str j/\k=Wz op i j:=by cases b <;> cases e; exact ⟨_,rfl,rfl⟩
theorem vO {op:l0} {i:List wF} {b:wF} {k:Bool} (e:Qv op (.tuple i) b=some k):∃ j,b=.tuple j/\Fi op i j=some k:=by cases b with | tuple j=>exact ⟨j,rfl,e⟩ | _=>cases e
noncomputable def ordB:wF->Bool
 | .int _=>true | .str _=>true | .tuple _=>true | _=>false
theorem Vb {op:l0} {a b:wF} {k:Bool} (h:ordB a=false) (e:Qv op a b=some k):False:=by cases a <;> first | (cases h; done) | cases e
mutual
theorem cD {op:l0} (ho:op=.Lt\/op=.LtE):∀ (a b:wF) (A:yS) (s:wJ) (u v:wI) (as bs:List wR) (k:Bool),Reads s.heap u a as->Reads s.heap v b bs->a.canLay0=true->b.canLay0=true->A.units+a.depth < k5->Qv op a b=some k->mR op A s u v k
 | .int i,b,A,s,_,_,_,_,k,ra,rb,_,_,_,e=>by
   obtain ⟨j,rfl,rfl⟩:=vQ e;cases ra; cases rb; exact tG (by rcases ho with rfl | rfl <;> rfl) A s i j _ _
 | .str x,b,A,s,_,_,_,_,k,ra,rb,_,_,_,e=>by
   obtain ⟨j,rfl,rfl⟩:=vP e;cases ra; cases rb; exact tE (by rcases ho with rfl | rfl <;> rfl) A s x j _ _
 | .tuple xs,b,A,s,_,_,_,_,k,ra,rb,ha,hb,hu,e=>by
   obtain ⟨ys,rfl,e⟩:=vO e;cases ra with
   | tuple h1 h2 h3 h4 =>
     cases rb with
     | tuple k1 k2 k3 k4 =>
       have hu':A.units+(yW xs+1) < k5:=hu; refine jH ho ⟨_,h1,h2,_,h3⟩ ⟨_,k1,k2,_,k3⟩ (FR _ _ _ h4) (FR _ _ _ k4) ?_ e (by lia);exact Xc ho xs ys A.in1 s _ _ _ _ h4 k4 ha hb (by show A.units+1+_ < _; lia)
 | .none,b,_,_,_,_,_,_,_,_,_,_,_,_,e=>(Vb (a:=.none) rfl e).elim
 | .bool c,b,_,_,_,_,_,_,_,_,_,_,_,_,e=>(Vb (a:=.bool c) rfl e).elim
 | .list c,b,_,_,_,_,_,_,_,_,_,_,_,_,e=>(Vb (a:=.list c) rfl e).elim
 | .dict c,b,_,_,_,_,_,_,_,_,_,_,_,_,e=>(Vb (a:=.dict c) rfl e).elim
theorem Xc {op:l0} (ho:op=.Lt\/op=.LtE):∀ (xs ys:List wF) (A:yS) (s:wJ) (vs ws:List wI) (as bs:List wR),IK s.heap vs xs as->IK s.heap ws ys bs->j8 xs=true->j8 ys=true->A.units+yW xs < k5->Br op A s vs ws xs ys
 | [],_,_,_,_,_,_,_,_,_,_,_,_=>fun i v w d e h1 h2 h3 h4=>by simp at h3
 | _::_,[],_,_,_,_,_,_,_,_,_,_,_=>fun i v w d e h1 h2 h3 h4=>by simp at h4
 | x::xs,y::ys,A,s,_,_,_,_,ra,rb,ha,hb,hu=>by
   have ha':x.canLay0=true/\j8 xs=true:=by simpa [j8] using ha
   have hb':y.canLay0=true/\j8 ys=true:=by simpa [j8] using hb
   have hu':A.units+ID x.depth (yW xs) < k5:=hu;cases ra with
   | cons r1 r2 =>
     cases rb with
     | cons q1 q2 =>
       intro i v w d e h1 h2 h3 h4;cases i with
       | zero =>
         simp at h1 h2 h3 h4;subst h1 h2 h3 h4; exact ⟨SeqAt.eqAt_reads _ _ _ _ _ _ _ _ r1 q1 ha'.1 hb'.1 (by lia),fun k hk=>cD ho _ _ A s _ _ _ _ k r1 q1 ha'.1 hb'.1 (by lia) hk⟩
       | succ i=>exact Xc ho xs ys A s _ _ _ _ r2 q2 ha'.2 hb'.2 (by lia) i v w d e (by simpa using h1) (by simpa using h2) (by simpa using h3) (by simpa using h4)
end
noncomputable def E9 (op:l0) (a b:wF):Option wF:=if a.depth<=60 then (Qv op a b).map .bool else none
def cE (op:l0):R2:=fun x y H Q=>∃ G a b k,Same G H/\Rep G a x/\Rep G b y/\a.depth<=60/\Qv op a b=some k/\Q (.bl k) H
noncomputable section
variable {X:Cx}
theorem Ev {op:l0} (ho:op=.Lt\/op=.LtE) (hu:X.A.units+64 < k5):OpR X (zR op) (cE op):=by
 rintro pins s Z H x y v u Q I rx ry ⟨G,a,b,k,hG,ra,rb,hd,e,q⟩;obtain ⟨as,r1⟩:=ra.reads I hG rx;obtain ⟨bs,r2⟩:=rb.reads I hG ry;have:=cD ho a b X.A s v u as bs k r1 r2 ra.lay rb.lay (by lia) e X.prog X.w X.xe (EP X pins Z Q) ⟨.bl k,H,I,rfl,q⟩;rcases ho with rfl | rfl
 . exact this
 . exact this
theorem oV {op:l0} (ho:op=.Gt\/op=.GtE):OpR X (zR op) (fun x y H Q=>∃ i j,x=.int i/\y=.int j/\Q (.bl (gC op i j)) H):=by
 rintro pins s Z H x y v u Q I rx ry ⟨i,j,e1,e2,q⟩;subst e1 e2;obtain ⟨t,rfl⟩:=rx;obtain ⟨t',rfl⟩:=ry;rcases ho with rfl | rfl
 . exact gt_int ⟨.bl _,H,I,rfl,q⟩
 . exact ge_int ⟨.bl _,H,I,rfl,q⟩
theorem Ew {op:l0}:OpD (cE op) (E9 op):=by
 intro G H x y a b d Q hG ra rb e q;unfold E9 at e;split at e
 . rename_i h
   cases e1:Qv op a b with
   | none=>rw [e1] at e; cases e
   | some k=>rw [e1] at e; cases e; exact ⟨G,a,b,k,hG,ra,rb,h,e1,q _ G H (Grow.refl hG) rfl⟩
 . cases e
noncomputable def Gf (op:l0):wF->wF->Option wF
 | .int i,.int j=>some (.bool (gC op i j))
 | _,_=>none
theorem kH {op:l0}:OpD (fun x y H Q=>∃ i j,x=.int i/\y=.int j/\Q (.bl (gC op i j)) H) (Gf op):=by
 intro G H x y a b d Q hG ra rb e q;cases a with
 | int i=>cases b with
   | int j=>cases e; cases (show _=_ from ra); cases (show _=_ from rb); exact ⟨i,j,rfl,rfl,q _ G H (Grow.refl hG) rfl⟩
   | _=>cases e
 | _=>cases e
end
end Sm
end
noncomputable section
namespace Sm
open PySem PySem.Spec PyProof.Rows L2
theorem Res.bind_assoc {α β γ:Type} (r:Res α) (f:α->Res β) (g:β->Res γ):(r.bind f).bind g=r.bind fun x=>(f x).bind g:=by cases r <;> rfl
structure Cxt (P:xN) (w:xT) (K:wM) (mg:Str->Option wI) (base:yQ) (X:Cx) (N:List Str) (sc:Scope) (k:Nat) (df:Bool):Prop where
 hP:X.prog=P
 hw:X.w=w
 hK:X.K=K
 hmg:X.mg=mg
 hb:X.base=base
 hN:X.N=N
 hs:X.env.scope=sc
 calm:X.calm=true
 room:Room k X.A
 fn:df=true->∀ x,X.fn x=true
 own:PassesOwn (xH X.prog X.w) X.A X.env X.xe
def Dy (scope sc:Scope):Scope :=
 { scope with names:=scope.names.map fun (n,k)=>if (k==.free&&sc.kind==.function&&sc.names.lookup n==some .cell) then (n,.cell) else (n,k) }
theorem cC {X:Cx} {scope sc:Scope} (h:X.env.scope=sc):k8 scope X.env=Dy scope sc:=by subst h; rfl
noncomputable section
variable {P:xN} {w:xT} {K:wM} {mg:Str->Option wI} {base:yQ} {X:Cx} {N:List Str} {sc:Scope} {k:Nat} {df:Bool} {E:EK} {pos:Pos}
theorem Cxt.blk (C:Cxt P w K mg base X N sc k df) {X':Cx} {N':List Str} {scope:Scope} (B:Blk X X' N' (k8 scope X.env)):Cxt P w K mg base X' N' (Dy scope sc) k false :=
 ⟨B.prog.trans C.hP,B.w.trans C.hw,B.K.trans C.hK,B.mg.trans C.hmg,B.base.trans C.hb,B.N,B.sc.trans (cC C.hs),B.calm.trans C.calm,by rw [B.A]; exact C.room,(fun h=>by cases h),by rw [B.xe]; exact BG⟩
theorem Cxt.hu (C:Cxt P w K mg base X N sc k df):X.A.units+64 < k5:=C.room.units
noncomputable def okVar (N:List Str) (sc:Scope) (i:Nat) (x:Str):Bool :=
 (N[i]? == some x)&&(match sc.names.lookup x with | some .local=>true | some .cell=>true | some .free=>true | _=>false) && !(x==("__debug__" : Str)) && !(x==("__classdict__" : Str))
theorem A2 (C:Cxt P w K mg base X N sc k df) (i:Nat) {x:Str} (h:okVar N sc i x=true):DE X E (.Name x pos) (A0 i):=by
 unfold okVar at h;simp only [xC,n0] at h;obtain ⟨⟨⟨h1,h2⟩,h3⟩,h4⟩:=h;refine vK (by rw [C.hN]; exact i7 h1) ?_ h3 h4;rw [C.hs];unfold Vis;cases q:sc.names.lookup x with
 | none=>rw [q] at h2; cases h2
 | some z =>
   rw [q] at h2;cases z with
   | «local» => exact .inl rfl
   | cell=>exact .inr (.inl rfl)
   | free=>exact .inr (.inr rfl)
   | _=>cases h2
noncomputable def okGl (sc:Scope) (x:Str):Bool:=(sc.names.lookup x==some .globalImplicit) && !(x==("__debug__" : Str)) && !(x==("__name__" : Str))
theorem okGl.gl (C:Cxt P w K mg base X N sc k df) {x:Str} (h:okGl sc x=true):Gl X x/\(x==("__debug__" : Str))=false/\x ≠ "__name__" := by
 unfold okGl at h;simp only [xC,n0] at h;obtain ⟨⟨h1,h2⟩,h3⟩:=h;refine ⟨?_,h2,by simpa using h3⟩;unfold Gl;show X.env.scope.names.lookup x=_;rw [C.hs]; exact i7 h1
theorem qM (C:Cxt P w K mg base X N sc k df) {x z:Str} (h:okGl sc x=true) (hm:∃ t,mg x=some (.str z t)) (hz:xP z=true:=by decide +kernel) (hl:z.length<=sizeLine:=by decide +kernel):DE X E (.Name x pos) (vC (.str z)):=by
 obtain ⟨t,hm⟩:=hm;obtain ⟨h1,h2,h3⟩:=okGl.gl C h;exact PE.imp (oM (v:=.str z) h1 (by rw [C.hmg]; exact hm) ⟨t,rfl⟩ h2) fun Z H Q hZ3=>by obtain ⟨G,δ,S,a⟩:=hZ3; exact a _ G H (Grow.refl S.sub) ⟨rfl,hz,hl⟩
variable {a b c:Expr} {f g f':Dn->Res wF}
theorem D4 (ha:DE X E a f) (hb:DE X E b g):DE X E (.BinOp a .Add b pos) (b2 f g C5):=Yt oW pA ha hb
theorem lW (ha:DE X E a f) (hb:DE X E b g):DE X E (.BinOp a .Sub b pos) (b2 f g Uw):=Yt uE oX ha hb
theorem Bn (ha:DE X E a f) (hb:DE X E b g):DE X E (.BinOp a .Mult b pos) (b2 f g N2):=Yt oT oY ha hb
theorem Sq (ha:DE X E a f) (hb:DE X E b g):DE X E (.BinOp a .Mod b pos) (b2 f g Qu):=Yt uF oZ ha hb
theorem Uv (ha:DE X E a f) (hb:DE X E b g):DE X E (.BinOp a .FloorDiv b pos) (b2 f g Kv):=Yt oU kF ha hb
theorem mD (C:Cxt P w K mg base X N sc k df) (ha:DE X E a f) (hb:DE X E b g):DE X E (.Compare a [.Eq] [b] pos) (b2 f g dEq):=Sr (kD C.hu) kG ha hb (Di _)
theorem qK (C:Cxt P w K mg base X N sc k df) (ha:DE X E a f) (hb:DE X E b g):DE X E (.Compare a [.NotEq] [b] pos) (b2 f g dNe):=Sr (kB C.hu) kE ha hb (Di _)
theorem d_lt (C:Cxt P w K mg base X N sc k df) (ha:DE X E a f) (hb:DE X E b g):DE X E (.Compare a [.Lt] [b] pos) (b2 f g (E9 .Lt)):=Sr (Ev (.inl rfl) C.hu) Ew ha hb (Di _)
theorem d_le (C:Cxt P w K mg base X N sc k df) (ha:DE X E a f) (hb:DE X E b g):DE X E (.Compare a [.LtE] [b] pos) (b2 f g (E9 .LtE)):=Sr (Ev (.inr rfl) C.hu) Ew ha hb (Di _)
theorem d_in (C:Cxt P w K mg base X N sc k df) (ha:DE X E a f) (hb:DE X E b g) (hm:behindInMarks .In b=false:=by with_unfolding_all rfl):DE X E (.Compare a [.In] [b] pos) (b2 f g (dIn false)):=Sr (kC C.hu) Ud ha hb hm
theorem qJ (C:Cxt P w K mg base X N sc k df) (ha:DE X E a f) (hb:DE X E b g) (hm:behindInMarks .NotIn b=false:=by with_unfolding_all rfl):DE X E (.Compare a [.NotIn] [b] pos) (b2 f g (dIn true)):=Sr (Rz C.hu) Ud ha hb hm
noncomputable def Mc (f g f':Dn->Res wF) (op op':wF->wF->Option wF):Dn->Res wF:=fun δ=>(f δ).bind fun x=>(g δ).bind fun y=>(ofO (op x y)).bind fun z=>match z with
 | .bool true=>(f' δ).bind fun u=>ofO (op' y u)
 | .bool false=>.ok (.bool false)
 | _=>.no
noncomputable def aS:wF->Bool
 | .none=>true
 | _=>false
noncomputable def b1 (f:Dn->Res wF) (op:wF->Option wF):Dn->Res wF:=fun δ=>(f δ).bind fun x=>ofO (op x)
theorem Rep.non {G:Hp} {d:wF} {v:V} (r:Rep G d v):decide (v=.non)=aS d:=by
 cases d with
 | none=>cases (show _=_ from r); rfl
 | bool _=>cases (show _=_ from r); rfl
 | int _=>cases (show _=_ from r); rfl
 | str _=>cases r.1; rfl
 | list _=>obtain ⟨a,xs,rfl,_⟩:=r; rfl
 | tuple _=>obtain ⟨a,xs,rfl,_⟩:=r; rfl
 | dict _=>exact (show False from r).elim
theorem d_isN {j:Nat} {p:Pos} (ha:DE X E a f):DE X E (.Compare a [.Is] [.Constant .none j p] pos) (b1 f fun d=>some (.bool (aS d))):=by
 refine PE.imp (jZ (uD ha)) fun Z H Q hZ3=>?_;obtain ⟨G,δ,S,aft⟩:=hZ3;exact J2 S aft fun d1 v1 G1 H1 g1 r1 S1 a1=>by rw [r1.non]; exact a1 _ G1 H1 (Grow.refl S1.sub) rfl
noncomputable def Jw:wF->Option wF
 | .int i=>some (.int (-i))
 | _=>none
theorem Yq (ha:DE X E a f):DE X E (.UnaryOp .USub a pos) (b1 f Jw):=by
 refine PE.imp (pe_un sH ha) fun Z H Q hZ3=>?_;obtain ⟨G,δ,S,aft⟩:=hZ3;refine J2 S aft fun d1 v1 G1 H1 g1 r1 S1 a1=>?_;cases d1 with
 | int i=>cases (show _=_ from r1); exact ⟨i,rfl,a1 _ G1 H1 (Grow.refl S1.sub) rfl⟩
 | _=>exact (show False from a1).elim
noncomputable def Pj (f g:Dn->Res wF):Dn->Res wF:=fun δ=>(f δ).bind fun x=>match x with
 | .bool true=>g δ
 | .bool false=>.ok (.bool false)
 | _=>.no
noncomputable def vOr (f g:Dn->Res wF):Dn->Res wF:=fun δ=>(f δ).bind fun x=>match x with
 | .bool false=>g δ
 | .bool true=>.ok (.bool true)
 | _=>.no
variable {L3:List Expr}
theorem Yo {op:BoolOp} (ha:DE X E a f):DE X E (.BoolOp op [a] pos) f:=tV ha
theorem Ss (ha:DE X E a f) (hb:DE X E (.BoolOp .And (b::L3) pos) g):DE X E (.BoolOp .And (a::b::L3) pos) (Pj f g):=by
 refine PE.imp (uA ha hb) fun Z H Q hZ3=>?_;obtain ⟨G,δ,S,aft⟩:=hZ3;refine J2 S aft fun d1 v1 G1 H1 g1 r1 S1 a1=>?_;cases d1 with
 | bool kk =>
   refine ⟨kk,r1,?_⟩;cases kk with
   | true=>rw [if_pos rfl]; exact ⟨G1,δ,S1,a1⟩
   | false=>rw [if_neg (by decide)]; exact a1 _ G1 H1 (Grow.refl S1.sub) rfl
 | _=>exact (show False from a1).elim
theorem d_or (ha:DE X E a f) (hb:DE X E (.BoolOp .Or (b::L3) pos) g):DE X E (.BoolOp .Or (a::b::L3) pos) (vOr f g):=by
 refine PE.imp (pe_or ha hb) fun Z H Q hZ3=>?_;obtain ⟨G,δ,S,aft⟩:=hZ3;refine J2 S aft fun d1 v1 G1 H1 g1 r1 S1 a1=>?_;cases d1 with
 | bool kk =>
   refine ⟨kk,r1,?_⟩;cases kk with
   | true=>rw [if_pos rfl]; exact a1 _ G1 H1 (Grow.refl S1.sub) rfl
   | false=>rw [if_neg (by decide)]; exact ⟨G1,δ,S1,a1⟩
 | _=>exact (show False from a1).elim
def AftT (E:EK) (G H:Hp) (r:Res Bool) (Q:Bool->Hp->Prop):Prop:=match r with
 | .ok d=>∀ G' H',Grow G H G' H'->Q d H'
 | .exc c=>∀ G' H',Grow G H G' H'->E c H'
 | .no=>False
def tT (E:EK) (f:Dn->Res Bool):TT:=fun Z H Q=>∃ G δ,SR G H Z δ/\AftT E G H (f δ) Q
abbrev DT (X:Cx) (E:EK) (e:Expr) (f:Dn->Res Bool):Prop:=PT X e (tT E f)
abbrev DW (X:Cx) (E:EK) (e:Expr) (f:Dn->Res Bool):Prop:=PW X e (tT E f)
theorem AftT.grow {E:EK} {G H G' H':Hp} {r:Res Bool} {Q:Bool->Hp->Prop} (g:Grow G H G' H') (a:AftT E G H r Q):AftT E G' H' r Q:=by
 cases r with
 | ok d=>exact fun G2 H2 g2=>a G2 H2 (g.trans g2)
 | exc c=>exact fun G2 H2 g2=>a G2 H2 (g.trans g2)
 | no=>exact a
theorem PT.imp {X:Cx} {e:Expr} {t t':TT} (h:PT X e t) (i:∀ Z H Q,t' Z H Q->t Z H Q):PT X e t':=fun pins s Z H Q I q=>h pins s Z H Q I (i _ _ _ q)
theorem PW.imp {X:Cx} {e:Expr} {t t':TT} (h:PW X e t) (i:∀ Z H Q,t' Z H Q->t Z H Q):PW X e t':=fun wh pins s Z H Q I q=>h wh pins s Z H Q I (i _ _ _ q)
theorem Ae {E:EK} {G H:Hp} {Z:St} {δ:Dn} {f:Dn->Res wF} {k:wF->Res Bool} {Q:Bool->Hp->Prop} {R:VK} (S:SR G H Z δ) (a:AftT E G H ((f δ).bind k) Q)
   (h:∀ d v G1 H1,Grow G H G1 H1->Rep G1 d v->SR G1 H1 Z δ->AftT E G1 H1 (k d) Q->R v H1):tD E f Z H R:=by
 refine ⟨G,δ,S,?_⟩;cases e:f δ with
 | ok d =>
   rw [e] at a; exact fun v G' H' g r=>h d v G' H' g r (S.grow g) (AftT.grow g a)
 | exc c=>rw [e] at a; exact a
 | no=>rw [e] at a; exact a
theorem Hf {E:EK} {G H:Hp} {Z:St} {δ:Dn} {f:Dn->Res Bool} {k:Bool->Res Bool} {Q R:Bool->Hp->Prop} (S:SR G H Z δ) (a:AftT E G H ((f δ).bind k) Q)
   (h:∀ d G1 H1,Grow G H G1 H1->SR G1 H1 Z δ->AftT E G1 H1 (k d) Q->R d H1):tT E f Z H R:=by
 refine ⟨G,δ,S,?_⟩;cases e:f δ with
 | ok d =>
   rw [e] at a; exact fun G' H' g=>h d G' H' g (S.grow g) (AftT.grow g a)
 | exc c=>rw [e] at a; exact a
 | no=>rw [e] at a; exact a
theorem bP {E:EK} {G H:Hp} {Z:St} {δ:Dn} {f:Dn->Res Bool} {k:Bool->Res wF} {Q:VK} {R:Bool->Hp->Prop} (S:SR G H Z δ) (a:Aft E G H ((f δ).bind k) Q)
   (h:∀ d G1 H1,Grow G H G1 H1->SR G1 H1 Z δ->Aft E G1 H1 (k d) Q->R d H1):tT E f Z H R:=by
 refine ⟨G,δ,S,?_⟩;cases e:f δ with
 | ok d =>
   rw [e] at a; exact fun G' H' g=>h d G' H' g (S.grow g) (Aft.grow g a)
 | exc c=>rw [e] at a; exact a
 | no=>rw [e] at a; exact a
noncomputable def Pm:wF->Option Bool
 | .none=>some false
 | .bool b=>some b
 | .int i=>some (i != 0)
 | .str x=>some (x.length != 0)
 | .list xs=>some (!xs.isEmpty)
 | .tuple xs=>some (!xs.isEmpty)
 | .dict _=>none
noncomputable def B4 (f:Dn->Res wF):Dn->Res Bool:=fun δ=>(f δ).bind fun d=>ofO (Pm d)
theorem RepL.isEmpty {G:Hp} {ds:List wF} {xs:List V} (r:RepL G ds xs):ds.isEmpty=xs.isEmpty:=by
 have:=r.length;cases ds <;> cases xs <;> simp at this ⊢
theorem Rep.truV {G H:Hp} (hG:Same G H) {d:wF} {v:V} (r:Rep G d v) {kk:Bool} (e:Pm d=some kk):wA K v H kk:=by
 cases d with
 | none=>cases (show _=_ from r); cases e; rfl
 | bool _=>cases (show _=_ from r); cases e; rfl
 | int _=>cases (show _=_ from r); cases e; rfl
 | str x =>
   cases r.1; cases e;refine ⟨r.2.2,?_⟩; show (x.length != 0)=((x.length:Int) != 0);rw [zU]; simp
 | list _=>obtain ⟨a,xs,rfl,h1,l1⟩:=r; cases e; exact .inl ⟨xs,.inl (Rd.mono hG h1),by rw [l1.isEmpty]⟩
 | tuple _=>obtain ⟨a,xs,rfl,h1,l1⟩:=r; cases e; exact .inr (.inl ⟨xs,.inl (.inl (hG _ _ h1)),by rw [l1.isEmpty]⟩)
 | dict _=>cases e
theorem Ea (ha:DE X E a f) (he:∀ whole,isTrue a X.env whole=(do let v <- whole; standAt a.pos; holding [v] (truthy v)):=by intro _; rfl):DT X E a (B4 f):=by
 refine PT.imp (Xg ha he) fun Z H Q hZ3=>?_;obtain ⟨G,δ,S,aft⟩:=hZ3;refine Ae S aft fun d1 v1 G1 H1 g1 r1 S1 a1=>?_;cases e:Pm d1 with
 | none=>rw [e] at a1; exact a1.elim
 | some kk=>rw [e] at a1; exact ⟨kk,r1.truV S1.sub e,a1 G1 H1 (Grow.refl S1.sub)⟩
theorem Gj {o:l0} {r:R2} {op:wF->wF->Option wF} (hr:OpR X (zR o) r) (ho:OpD r op) (hbool:∀ x y d,op x y=some d->∃ kk,d=.bool kk) (ha:DE X E a f) (hb:DE X E b g) (hm:behindInMarks o b=false) :
   DT X E (.Compare a [o] [b] pos) (B4 (b2 f g op)):=by
 refine PT.imp (oF hr ha hb hm) fun Z H Q hZ3=>?_;obtain ⟨G,δ,S,aft⟩:=hZ3;have aft':AftT E G H ((f δ).bind fun x=>(g δ).bind fun y=>(ofO (op x y)).bind fun d=>ofO (Pm d)) Q:=by
   unfold B4 b2 at aft; simp only [Res.bind_assoc] at aft; exact aft
 refine Ae S aft' fun d1 v1 G1 H1 g1 r1 S1 a1=>?_;refine Ae S1 a1 fun d2 v2 G2 H2 g2 r2 S2 a2=>?_;cases e:op d1 d2 with
 | none=>rw [e] at a2; exact a2.elim
 | some d =>
   rw [e] at a2; obtain ⟨kk,rfl⟩:=hbool _ _ _ e; exact ho G2 H2 v1 v2 d1 d2 _ _ S2.sub (r1.mono g2.g) r2 e fun v G3 H3 g3 r3=>⟨kk,r3,a2 G3 H3 g3⟩
theorem qZ (x y d:wF) (e:dEq x y=some d):∃ kk,d=.bool kk:=by unfold dEq at e; split at e <;> cases e; exact ⟨_,rfl⟩
theorem qY (x y d:wF) (e:dNe x y=some d):∃ kk,d=.bool kk:=by unfold dNe at e; split at e <;> cases e; exact ⟨_,rfl⟩
theorem Ir {op:l0} (x y d:wF) (e:E9 op x y=some d):∃ kk,d=.bool kk:=by
 unfold E9 at e; split at e
 . obtain ⟨kk,_,rfl⟩:=yF.mp e; exact ⟨_,rfl⟩
 . cases e
theorem gQ {op:l0} (x y d:wF) (e:Gf op x y=some d):∃ kk,d=.bool kk:=by
 unfold Gf at e; split at e
 . cases e; exact ⟨_,rfl⟩
 . cases e
theorem Iw (C:Cxt P w K mg base X N sc k df) (ha:DE X E a f) (hb:DE X E b g):DT X E (.Compare a [.Eq] [b] pos) (B4 (b2 f g dEq)):=Gj (kD C.hu) kG qZ ha hb (Di _)
theorem Kx (C:Cxt P w K mg base X N sc k df) (ha:DE X E a f) (hb:DE X E b g):DT X E (.Compare a [.NotEq] [b] pos) (B4 (b2 f g dNe)):=Gj (kB C.hu) kE qY ha hb (Di _)
theorem Zw (C:Cxt P w K mg base X N sc k df) (ha:DE X E a f) (hb:DE X E b g):DT X E (.Compare a [.Lt] [b] pos) (B4 (b2 f g (E9 .Lt))):=Gj (Ev (.inl rfl) C.hu) Ew Ir ha hb (Di _)
theorem sK (C:Cxt P w K mg base X N sc k df) (ha:DE X E a f) (hb:DE X E b g):DT X E (.Compare a [.LtE] [b] pos) (B4 (b2 f g (E9 .LtE))):=Gj (Ev (.inr rfl) C.hu) Ew Ir ha hb (Di _)
theorem t_gt (C:Cxt P w K mg base X N sc k df) (ha:DE X E a f) (hb:DE X E b g):DT X E (.Compare a [.Gt] [b] pos) (B4 (b2 f g (Gf .Gt))):=Gj (oV (.inl rfl)) kH gQ ha hb (Di _)
theorem eE (C:Cxt P w K mg base X N sc k df) (ha:DE X E a f) (hb:DE X E b g) (hm:behindInMarks .In b=false:=by with_unfolding_all rfl):DT X E (.Compare a [.In] [b] pos) (B4 (b2 f g (dIn false))):=Gj (kC C.hu) Ud (fun _ _ _ e=>Oz e) ha hb hm
theorem Tl (C:Cxt P w K mg base X N sc k df) (ha:DE X E a f) (hb:DE X E b g) (hm:behindInMarks .NotIn b=false:=by with_unfolding_all rfl):DT X E (.Compare a [.NotIn] [b] pos) (B4 (b2 f g (dIn true))):=Gj (Rz C.hu) Ud (fun _ _ _ e=>Oz e) ha hb hm
variable {c1 c2:Dn->Res Bool}
noncomputable def Ct (c:Dn->Res Bool):Dn->Res Bool:=fun δ=>(c δ).bind fun b=>.ok (!b)
noncomputable def M1 (c c':Dn->Res Bool):Dn->Res Bool:=fun δ=>(c δ).bind fun b=>if b=true then c' δ else .ok false
noncomputable def cOr (c c':Dn->Res Bool):Dn->Res Bool:=fun δ=>(c δ).bind fun b=>if b=true then .ok true else c' δ
theorem Vo (ha:DT X E a c1):DT X E (.UnaryOp .Not a pos) (Ct c1):=by
 refine PT.imp (tM ha) fun Z H Q hZ3=>?_;obtain ⟨G,δ,S,aft⟩:=hZ3;exact Hf S aft fun d G1 H1 g1 S1 a1=>a1 G1 H1 (Grow.refl S1.sub)
theorem U2 (ha:DT X E a c1):DW X E (.BoolOp .And [a] pos) c1:=nZ ha
theorem rG (ha:DT X E a c1):DW X E (.BoolOp .Or [a] pos) c1:=tK ha
theorem Af (ha:DT X E a c1) (hb:DW X E (.BoolOp .And (b::L3) pos) c2):DW X E (.BoolOp .And (a::b::L3) pos) (M1 c1 c2):=by
 refine PW.imp (tL ha hb) fun Z H Q hZ3=>?_;obtain ⟨G,δ,S,aft⟩:=hZ3;refine Hf S aft fun d G1 H1 g1 S1 a1=>?_;cases d with
 | true=>rw [if_pos rfl]; exact ⟨G1,δ,S1,a1⟩
 | false=>rw [if_neg (by decide)]; exact a1 G1 H1 (Grow.refl S1.sub)
theorem w_or (ha:DT X E a c1) (hb:DW X E (.BoolOp .Or (b::L3) pos) c2):DW X E (.BoolOp .Or (a::b::L3) pos) (cOr c1 c2):=by
 refine PW.imp (pw_or ha hb) fun Z H Q hZ3=>?_;obtain ⟨G,δ,S,aft⟩:=hZ3;refine Hf S aft fun d G1 H1 g1 S1 a1=>?_;cases d with
 | true=>rw [if_pos rfl]; exact a1 G1 H1 (Grow.refl S1.sub)
 | false=>rw [if_neg (by decide)]; exact ⟨G1,δ,S1,a1⟩
theorem w_t (h:DW X E a c1):DT X E a c1:=h.pt
noncomputable def vIf (c:Dn->Res Bool) (f g:Dn->Res wF):Dn->Res wF:=fun δ=>(c δ).bind fun b=>if b=true then f δ else g δ
theorem qL (hc:DT X E c c1) (ha:DE X E a f) (hb:DE X E b g):DE X E (.IfExp c a b pos) (vIf c1 f g):=by
 refine PE.imp (jW hc ha hb) fun Z H Q hZ3=>?_;obtain ⟨G,δ,S,aft⟩:=hZ3;refine bP S aft fun d G1 H1 g1 S1 a1=>?_;cases d with
 | true=>rw [if_pos rfl]; exact ⟨G1,δ,S1,a1⟩
 | false=>rw [if_neg (by decide)]; exact ⟨G1,δ,S1,a1⟩
end
end Sm
end
noncomputable section
namespace Sm
open PySem PySem.Spec PyProof.Rows L2
noncomputable section
variable {w:xT} {K:wM} {X:Cx} {k:Nat} {E:EK} {pos:Pos} {a b c e:Expr} {es:List Expr} {f g:Dn->Res wF} {fs:Dn->Res (List wF)}
def AftL (E:EK) (G H:Hp) (r:Res (List wF)) (Q:List V->Hp->Prop):Prop:=match r with
 | .ok ds=>∀ vs G' H',Grow G H G' H'->RepL G' ds vs->Q vs H'
 | .exc c=>∀ G' H',Grow G H G' H'->E c H'
 | .no=>False
def tA (E:EK) (fs:Dn->Res (List wF)):TA:=fun Z H Q=>∃ G δ,SR G H Z δ/\AftL E G H (fs δ) Q
structure DA (X:Cx) (E:EK) (es:List Expr) (n:Nat) (fs:Dn->Res (List wF)):Prop where
 pa:PA X es (tA E fs)
 len:∀ δ ds,fs δ=.ok ds->ds.length=n
theorem PA.imp {X:Cx} {es:List Expr} {t t':TA} (h:PA X es t) (i:∀ Z H Q,t' Z H Q->t Z H Q):PA X es t':=fun p pins s Z H Q I q=>h p pins s Z H Q I (i _ _ _ q)
theorem AftL.grow {E:EK} {G H G' H':Hp} {r:Res (List wF)} {Q:List V->Hp->Prop} (g:Grow G H G' H') (a:AftL E G H r Q):AftL E G' H' r Q:=by
 cases r with
 | ok d=>exact fun v G2 H2 g2 q=>a v G2 H2 (g.trans g2) q
 | exc c=>exact fun G2 H2 g2=>a G2 H2 (g.trans g2)
 | no=>exact a
theorem Lz {α:Type} {E:EK} {G H:Hp} {Z:St} {δ:Dn} {f:Dn->Res wF} {k:wF->Res α} {R:VK} {W:Hp->Hp->Res α->Prop} (S:SR G H Z δ) (a:W G H ((f δ).bind k)) (hg:∀ {G H G' H':Hp} {r:Res α},Grow G H G' H'->W G H r->W G' H' r)
   (hx:∀ c,W G H (.exc c)->∀ G' H',Grow G H G' H'->E c H') (hn:W G H .no->False)
   (h:∀ d v G1 H1,Grow G H G1 H1->Rep G1 d v->SR G1 H1 Z δ->W G1 H1 (k d)->R v H1):tD E f Z H R:=by
 refine ⟨G,δ,S,?_⟩;cases e:f δ with
 | ok d=>rw [e] at a; exact fun v G' H' g r=>h d v G' H' g r (S.grow g) (hg g a)
 | exc c=>rw [e] at a; exact hx c a
 | no=>rw [e] at a; exact hn a
theorem X4 {α:Type} {E:EK} {G H:Hp} {Z:St} {δ:Dn} {fs:Dn->Res (List wF)} {k:List wF->Res α} {R:List V->Hp->Prop} {W:Hp->Hp->Res α->Prop} (S:SR G H Z δ) (a:W G H ((fs δ).bind k)) (hg:∀ {G H G' H':Hp} {r:Res α},Grow G H G' H'->W G H r->W G' H' r)
   (hx:∀ c,W G H (.exc c)->∀ G' H',Grow G H G' H'->E c H') (hn:W G H .no->False)
   (h:∀ ds vs G1 H1,fs δ=.ok ds->Grow G H G1 H1->RepL G1 ds vs->SR G1 H1 Z δ->W G1 H1 (k ds)->R vs H1):tA E fs Z H R:=by
 refine ⟨G,δ,S,?_⟩;cases e:fs δ with
 | ok d=>rw [e] at a; exact fun v G' H' g r=>h d v G' H' e g r (S.grow g) (hg g a)
 | exc c=>rw [e] at a; exact hx c a
 | no=>rw [e] at a; exact hn a
noncomputable def A6:Dn->Res (List wF):=fun _=>.ok []
noncomputable def A1 (f:Dn->Res wF) (fs:Dn->Res (List wF)):Dn->Res (List wF):=fun δ=>(f δ).bind fun d=>(fs δ).bind fun ds=>.ok (d::ds)
theorem A9:DA X E [] 0 A6:=⟨PA.imp Y5 fun Z H Q hZ3=>by obtain ⟨G,δ,S,a⟩:=hZ3; exact a [] G H (Grow.refl S.sub) rfl,fun δ ds e=>by cases e; rfl⟩
noncomputable def cO:Expr->Bool
 | .Starred .. => false
 | _=>true
theorem eG {a:Expr} {es:List Expr} {env:Env} (h:cO a=true):wU (a::es) env=(false,eval a env)::wU es env:=by
 cases a <;> first | rfl | cases h
theorem A4 {n:Nat} (ha:DE X E a f) (hr:DA X E es n fs) (hs:cO a=true:=by rfl):DA X E (a::es) (n+1) (A1 f fs):=by
 refine ⟨PA.imp (O8 ha hr.pa (eG hs)) fun Z H Q ⟨G,δ,S,aft⟩=>?_,fun δ ds e=>?_⟩
 . refine Lz (W:=fun G H r=>AftL E G H r Q) S aft (fun g a=>AftL.grow g a) (fun c a=>a) (fun a=>a) fun d v G1 H1 g1 r1 S1 a1=>?_
   refine X4 (W:=fun G H r=>AftL E G H r Q) S1 a1 (fun g a=>AftL.grow g a) (fun c a=>a) (fun a=>a) fun ds vs G2 H2 e g2 r2 S2 a2=>?_;exact a2 _ G2 H2 (Grow.refl S2.sub) (RepL.cons (r1.mono g2.g) r2)
 . unfold A1 at e
   cases h1:f δ with
   | ok d =>
     rw [h1] at e;cases h2:fs δ with
     | ok ds' =>
       simp only [Res.bind,h2] at e; cases e; rw [wT,hr.len δ ds' h2]
     | exc c=>simp only [Res.bind,h2] at e; cases e
     | no=>simp only [Res.bind,h2] at e; cases e
   | exc c=>rw [h1] at e; cases e
   | no=>rw [h1] at e; cases e
noncomputable def E7 (fs:Dn->Res (List wF)):Dn->Res wF:=fun δ=>(fs δ).bind fun ds=>.ok (.tuple ds)
noncomputable def F5 (fs:Dn->Res (List wF)):Dn->Res wF:=fun δ=>(fs δ).bind fun ds=>.ok (.list ds)
theorem L0 {n x1:Nat} (h:DA X E es n fs) (hn:n<=sizeLine:=by decide):DE X E (.Tuple es x1 pos) (E7 fs):=by
 refine PE.imp (tU h.pa) fun Z H Q hZ3=>?_;obtain ⟨G,δ,S,aft⟩:=hZ3;refine X4 (W:=fun G H r=>Aft E G H r Q) S aft (fun g a=>Aft.grow g a) (fun c a=>a) (fun a=>a) fun ds vs G1 H1 e g1 r1 S1 a1=>?_;refine ⟨by rw [<- r1.length,h.len δ ds e]; exact hn,fun p hp=>?_⟩;exact a1 _ (upd G1 p (.tup vs)) _ (Grow.new S1.sub hp) ⟨p,vs,rfl,C0,r1.mono (Same.upd (S1.sub.free hp))⟩
def mU (E:EK) (G H:Hp) (r:Res (List wF)) (Q:VK):Prop:=match r with
 | .ok ds=>∀ p xs G' H',Grow G H G' H'->H p=none->G' p=none->H' p=some (.lst xs)->RepL G' ds xs->Q (.ref p) H'
 | .exc c=>∀ G' H',Grow G H G' H'->E c H'
 | .no=>False
def tF (E:EK) (f:Dn->Res (List wF)):TE:=fun Z H Q=>∃ G δ,SR G H Z δ/\mU E G H (f δ) Q
abbrev DF (X:Cx) (E:EK) (e:Expr) (f:Dn->Res (List wF)):Prop:=PE X e (tF E f)
theorem Grow.share {G H G' H':Hp} {p:wR} {o:HO} (g:Grow G H G' H') (hp:H p=none) (hg:G' p=none) (hH:H' p=some o):Grow G H (upd G' p o) H' :=
 ⟨g.g.trans (Same.upd hg),g.h,fun b u e=>by
   by_cases hb:b=p
   . subst hb; rw [C0] at e; cases e; exact hH
   . rw [C3 hb] at e; exact g.gh _ _ e,fun b u e=>by
   by_cases hb:b=p
   . subst hb; exact .inr (.inl hp)
   . rw [C3 hb] at e; exact g.fr _ _ e⟩
theorem F9 (h:DF X E e fs):DE X E e (F5 fs):=by
 refine PE.imp h fun Z H Q hY35=>?_;obtain ⟨G,δ,S,aft⟩:=hY35;refine ⟨G,δ,S,?_⟩;unfold F5 at aft;cases e:fs δ with
 | ok ds =>
   rw [e] at aft; exact fun p xs G' H' g hp hg hH r=>aft _ _ H' (g.share hp hg hH) ⟨p,xs,rfl,.inl C0,r.mono (Same.upd hg)⟩
 | exc c=>rw [e] at aft; exact aft
 | no=>rw [e] at aft; exact aft
theorem M7 {n:Nat} (h:DA X E es n fs) (hn:n<=sizeLine:=by decide):DF X E (.List es pos) fs:=by
 refine PE.imp (jV h.pa) fun Z H Q hY36=>?_;obtain ⟨G,δ,S,aft⟩:=hY36;refine ⟨G,δ,S,?_⟩;cases e:fs δ with
 | ok ds =>
   rw [e] at aft; refine fun vs G1 H1 g1 r1=>⟨by rw [<- r1.length,h.len δ ds e]; exact hn,fun p hp=>?_⟩;exact aft p vs G1 _ (g1.trans (Grow.own g1.gh hp)) (g1.h.free hp) (g1.gh.free hp) C0 r1
 | exc c=>rw [e] at aft; exact aft
 | no=>rw [e] at aft; exact aft
noncomputable def dIx:wF->wF->Option wF
 | .list ds,.int i=>atI ds i
 | .tuple ds,.int i=>atI ds i
 | .str x,.int i=>(atI x.cps.toList i).map fun c=>.str ⟨#[c]⟩
 | _,_=>none
theorem dP {G:Hp} {ds:List wF} {xs:List V} {i:Int} {d:wF} (r:RepL G ds xs) (e:atI ds i=some d):∃ x,atI xs i=some x/\Rep G d x:=by
 unfold atI at e ⊢;rw [<- r.length];cases q:ixN ds.length i with
 | none=>rw [q] at e; cases e
 | some j=>rw [q] at e; exact r.get e
theorem uG:OpD (rIx K) dIx:=by
 intro G H x y a b d Q hG ra rb e q;cases b with
 | int i =>
   cases (show _=_ from rb);cases a with
   | list ds =>
     obtain ⟨p,xs,rfl,h1,l1⟩:=ra; obtain ⟨v,e1,r1⟩:=dP l1 e; exact .inl ⟨p,xs,i,v,rfl,rfl,.inl (Rd.mono hG h1),e1,q _ G H (Grow.refl hG) r1⟩
   | tuple ds =>
     obtain ⟨p,xs,rfl,h1,l1⟩:=ra; obtain ⟨v,e1,r1⟩:=dP l1 e; exact .inr (.inl ⟨p,xs,i,v,rfl,rfl,.inl (.inl (hG _ _ h1)),e1,q _ G H (Grow.refl hG) r1⟩)
   | str z =>
     obtain ⟨e0,o1,l1⟩:=ra; subst e0; obtain ⟨cc,e1,rfl⟩:=yF.mp e; refine .inr (.inr ⟨z,i,cc,rfl,rfl,l1,e1,q _ G H (Grow.refl hG) ⟨rfl,?_,?_⟩⟩)
     . obtain ⟨j,_,h2,_⟩:=Lx e1
       have hm:cc∈z.cps.toList:=c8 h2; unfold xP at *;rw [<- FS,l7] at o1; have:=o1 cc hm;simpa using this
     . show 1<=sizeLine; decide
   | _=>cases e
 | _=>cases a <;> cases e
theorem C7 (ha:DE X E a f) (hb:DE X E b g) (hs:dR b:=by exact fun _ _=>rfl):DE X E (.Subscript a b pos) (b2 f g dIx) :=
 PE.imp (pe_ix vA ha hb hs) fun _ _ _ h=>iC uG h
noncomputable def Gx (xs:List wF) (lo hi:Option Int):List wF:=(xs.drop (HT.sIx xs.length 0 lo)).take (HT.sIx xs.length xs.length hi - HT.sIx xs.length 0 lo)
noncomputable def gL (d:wF) (lo hi:Option Int):Option wF:=match d with
 | .list ds=>some (.list (Gx ds lo hi))
 | .tuple ds=>some (.tuple (Gx ds lo hi))
 | _=>none
theorem dE {G:Hp} {ds:List wF} {xs:List V} (r:RepL G ds xs) (lo hi:Option Int):RepL G (Gx ds lo hi) (gN xs lo hi):=by
 unfold Gx gN;rw [r.length];exact (r.drop _).take _
noncomputable def rSlD:V->Option Int->Option Int->Hp->VK->Prop:=fun x lo hi H Q=>∃ G a d,Same G H/\Rep G a x/\gL a lo hi=some d/\∀ v G' H',Grow G H G' H'->Rep G' d v->Q v H'
theorem Fh {prog:xN} {w:xT} {A:yS} {E:wI->wJ->Prop} {s:wJ} {t sl:wR} {items:Array wI} {vl vu:wI} {lo hi:Option Int} {Q:wI->wJ->Prop} (ht:ES s.heap t items) (hs:s.heap.IsSliceOf sl vl vu .none) (pl:EH vl lo) (pu:EH vu hi)
   (hw:HT.sIx items.size 0 lo=0/\HT.sIx items.size items.size hi=items.size) (h:Q (.ref t) s):wpAny (xH prog w) A (CJ (.ref t) (.ref sl)) Q E s:=by
 obtain ⟨os,hos,hcs,hds⟩:=id hs;have hTs:s.TypeIs (.ref sl) "slice" := ⟨os,hos,hcs⟩;unfold CJ;try with_reducible refine yR ?_
 first | refine wG (wH ?_) | skip
 refine wG (DD ht.typeIs (by decide) ?_);refine wG (yN (name:=g9 "__getitem__") ht.typeIs c9
   (yE c9 ht.typeIs entry_tuple_getitem ?_ (args_tuple_getitem _ _)))
 show wpAny _ _ (BH (.ref t)>>=_) _ _ s;refine wG (tupleItemsOf_ ht ?_);refine wG (EE hTs ?_);rw [if_pos (by decide)];refine wG (HT.sliceApplied_gen hs pl pu ?_);show wpAny _ _ (if (((HT.sIx items.size 0 lo:Nat):Int)==0&&(1:Int)==1&&(HT.sIx items.size items.size hi - HT.sIx items.size 0 lo)==items.size)=true then _ else _) _ _ s;rw [if_pos (by rw [hw.1,hw.2]; simp)];unfold Builtin.Tuple.tupleIsExact;refine wG (wG (EE ht.typeIs (wH ?_)));rw [if_pos (by decide)];first
   | exact wG (zW (wH ⟨_,rfl,wH h⟩))
   | exact wG (zW (wG (wH (wH ⟨_,rfl,wH h⟩))))
theorem sl_D:SlR X rSlD:=by
 rintro pins s Z H x v vl vu lo hi sl Q I rx hs pl pu ⟨G,a,d,hG,ra,e,q⟩;cases a with
 | list ds =>
   cases e; obtain ⟨p,xs,rfl,h1,l1⟩:=ra; cases rx; obtain ⟨z,its,n,r,e1⟩:=W1 I hG h1; have hlen:=r.length; have hl:s.heap.IsList p its.toArray:=⟨_,e1,rfl,n,rfl⟩; refine ⟨"list",_,GG.lookup,hl.typeIs,?_⟩; refine wpAny_getItem_list_slice hl hs pl pu .none (by simp) ?_ (by rw [wZ] <;> lia)
   rw [Fw,<- hlen]; exact Ut (t':=s.toks) I hG ((r.drop (HT.sIx xs.length 0 lo)).take (HT.sIx xs.length xs.length hi - HT.sIx xs.length 0 lo)) (dE l1 lo hi) (xD (Er xs lo hi) z) q
 | tuple ds =>
   cases e; obtain ⟨p,xs,rfl,h1,l1⟩:=ra; cases rx; obtain ⟨z,its,r,ht⟩:=Jj I hG h1; have hlen:its.toArray.size=xs.length:=by rw [wZ]; exact r.length.symm
   refine ⟨"tuple",_,c9.lookup,ht.typeIs,?_⟩;by_cases hw:HT.sIx xs.length 0 lo=0/\HT.sIx xs.length xs.length hi=xs.length
   . refine Fh ht hs pl pu (by rw [hlen]; exact hw) ⟨.ref p,H,I,rfl,q _ G H (Grow.refl hG) ⟨p,xs,rfl,h1,?_⟩⟩
     have:Gx ds lo hi=ds:=by
       unfold Gx; rw [l1.length,hw.1,hw.2,CB,Nat.sub_zero,<- l1.length,List.take_length]
     rw [this]; exact l1
   . refine HT.getItem_tuple_cut ht hs pl pu (by rw [hlen]; exact hw) ?_ (by rw [hlen]; exact z)
     rw [hlen]; exact dC (t':=s.toks) I hG ((r.drop (HT.sIx xs.length 0 lo)).take (HT.sIx xs.length xs.length hi - HT.sIx xs.length 0 lo)) (dE l1 lo hi) (xD (Er xs lo hi) z) q
 | _=>cases e
def AftO (E:EK) (G H:Hp) (r:Res (Option Int)) (Q:Option Int->Hp->Prop):Prop:=match r with
 | .ok ds=>∀ G' H',Grow G H G' H'->Q ds H'
 | .exc c=>∀ G' H',Grow G H G' H'->E c H'
 | .no=>False
def tO (E:EK) (f:Dn->Res (Option Int)):TO:=fun Z H Q=>∃ G δ,SR G H Z δ/\AftO E G H (f δ) Q
abbrev DO (X:Cx) (E:EK) (e:Option Expr) (f:Dn->Res (Option Int)):Prop:=PO X e (tO E f)
theorem PO.imp {X:Cx} {e:Option Expr} {t t':TO} (h:PO X e t) (i:∀ Z H Q,t' Z H Q->t Z H Q):PO X e t':=fun pins s Z H Q I q=>h pins s Z H Q I (i _ _ _ q)
noncomputable def Og:Dn->Res (Option Int):=fun _=>.ok none
noncomputable def T7 (f:Dn->Res wF):Dn->Res (Option Int):=fun δ=>(f δ).bind fun d=>match d with
 | .int i=>.ok (some i)
 | _=>.no
theorem AftO.grow {E:EK} {G H G' H':Hp} {r:Res (Option Int)} {Q:Option Int->Hp->Prop} (g:Grow G H G' H') (a:AftO E G H r Q):AftO E G' H' r Q:=by
 cases r with
 | ok d=>exact fun G2 H2 g2=>a G2 H2 (g.trans g2)
 | exc c=>exact fun G2 H2 g2=>a G2 H2 (g.trans g2)
 | no=>exact a
theorem aL:DO X E none Og:=PO.imp oI fun Z H Q hZ3=>by obtain ⟨G,δ,S,a⟩:=hZ3; exact a G H (Grow.refl S.sub)
theorem Dh (h:DE X E e f):DO X E (some e) (T7 f):=by
 refine PO.imp (oH h) fun Z H Q hZ3=>?_;obtain ⟨G,δ,S,aft⟩:=hZ3;refine Lz (W:=fun G H r=>AftO E G H r Q) S aft (fun g a=>AftO.grow g a) (fun c a=>a) (fun a=>a) fun d v G1 H1 g1 r1 S1 a1=>?_;cases d with
 | int i=>exact ⟨i,r1,a1 G1 H1 (Grow.refl S1.sub)⟩
 | _=>exact (show False from a1).elim
theorem Iu {α:Type} {E:EK} {G H:Hp} {Z:St} {δ:Dn} {fs:Dn->Res (Option Int)} {k:Option Int->Res α} {R:Option Int->Hp->Prop} {W:Hp->Hp->Res α->Prop} (S:SR G H Z δ) (a:W G H ((fs δ).bind k)) (hg:∀ {G H G' H':Hp} {r:Res α},Grow G H G' H'->W G H r->W G' H' r)
   (hx:∀ c,W G H (.exc c)->∀ G' H',Grow G H G' H'->E c H') (hn:W G H .no->False)
   (h:∀ ds G1 H1,Grow G H G1 H1->SR G1 H1 Z δ->W G1 H1 (k ds)->R ds H1):tO E fs Z H R:=by
 refine ⟨G,δ,S,?_⟩;cases e:fs δ with
 | ok d=>rw [e] at a; exact fun G' H' g=>h d G' H' g (S.grow g) (hg g a)
 | exc c=>rw [e] at a; exact hx c a
 | no=>rw [e] at a; exact hn a
noncomputable def vSl (f:Dn->Res wF) (lo hi:Dn->Res (Option Int)):Dn->Res wF:=fun δ=>(f δ).bind fun x=>(lo δ).bind fun l=>(hi δ).bind fun u=>ofO (gL x l u)
variable {lo hi:Option Expr} {fl fh:Dn->Res (Option Int)} {p2:Pos}
theorem Uu (he:DE X E e f) (hl:DO X E lo fl) (hu:DO X E hi fh):DE X E (.Subscript e (.Slice lo hi none p2) pos) (vSl f fl fh):=by
 refine PE.imp (Xk sl_D he hl hu) fun Z H Q hZ3=>?_;obtain ⟨G,δ,S,aft⟩:=hZ3;refine J2 S aft fun d v G1 H1 g1 r1 S1 a1=>?_;refine Iu (W:=fun G H r=>Aft E G H r Q) S1 a1 (fun g a=>Aft.grow g a) (fun c a=>a) (fun a=>a) fun l G2 H2 g2 S2 a2=>?_;refine Iu (W:=fun G H r=>Aft E G H r Q) S2 a2 (fun g a=>Aft.grow g a) (fun c a=>a) (fun a=>a) fun u G3 H3 g3 S3 a3=>?_;cases e:gL d l u with
 | none=>rw [e] at a3; exact a3.elim
 | some z=>rw [e] at a3; exact ⟨G3,d,z,S3.sub,r1.mono (g2.g.trans g3.g),e,a3⟩
end
end Sm
end
noncomputable section
namespace Sm
open PySem PySem.Spec PyProof.Rows L2
noncomputable section
variable {P:xN} {w:xT} {K:wM} {mg:Str->Option wI} {base:yQ} {X:Cx} {N:List Str} {sc:Scope} {k:Nat} {df:Bool} {E:EK} {pos p:Pos} {a b c e:Expr} {es:List Expr} {f g:Dn->Res wF} {fs:Dn->Res (List wF)}
noncomputable def rCD (op:List wF->Option wF):List V->Hp->VK->Prop:=fun vs H Q=>∃ G ds d,Same G H/\RepL G ds vs/\op ds=some d/\∀ v G' H',Grow G H G' H'->Rep G' d v->Q v H'
noncomputable def vFn (fs:Dn->Res (List wF)) (op:List wF->Option wF):Dn->Res wF:=fun δ=>(fs δ).bind fun ds=>ofO (op ds)
theorem rL {op:List wF->Option wF} {Z:St} {H:Hp} {Q:VK} (h:tD E (vFn fs op) Z H Q):tCB (rCD op) (tA E fs) Z H Q:=by
 obtain ⟨G,δ,S,aft⟩:=h;refine X4 (W:=fun G H r=>Aft E G H r Q) S aft (fun g a=>Aft.grow g a) (fun c a=>a) (fun a=>a) fun ds vs G1 H1 e g1 r1 S1 a1=>?_;cases e:op ds with
 | none=>rw [e] at a1; exact a1.elim
 | some d=>rw [e] at a1; exact ⟨G1,ds,d,S1.sub,r1,e,a1⟩
theorem Ip {x:Str} {id:String} {n:Nat} {op:List wF->Option wF} (C:Cxt P w K mg base X N sc k df) (hc:V0 X (.builtin id) (rCD op)) (h:okGl sc x=true) (hm:mg x=none) (hv:AH x=some (.builtin id)) (ha:DA X E (e::es) n fs)
   (he:wU (e::es) X.env=(false,eval e X.env)::wU es X.env:=by rfl) (hpl:(zY pos (wU es X.env)).any (·.1)=false:=by rfl):DE X E (.Call (.Name x p) (e::es) [] pos) (vFn fs op):=by
 obtain ⟨h1,h2,h3⟩:=okGl.gl C h;exact PE.imp (Od hc h1 (by rw [C.hmg]; exact hm) hv ha.pa h3 h2 he hpl) fun _ _ _ q=>rL q
theorem Yr {x:Str} {T:String} {n:Nat} {op:List wF->Option wF} (C:Cxt P w K mg base X N sc k df) (hc:V0 X (.type T) (rCD op)) (h:okGl sc x=true) (hm:mg x=none) (hv:AH x=some (.type T)) (ha:DA X E (e::es) n fs)
   (he:wU (e::es) X.env=(false,eval e X.env)::wU es X.env:=by rfl) (hpl:(zY pos (wU es X.env)).any (·.1)=false:=by rfl):DE X E (.Call (.Name x p) (e::es) [] pos) (vFn fs op):=by
 obtain ⟨h1,h2,h3⟩:=okGl.gl C h;exact PE.imp (Rx hc h1 (by rw [C.hmg]; exact hm) hv ha.pa h3 h2 he hpl) fun _ _ _ q=>rL q
theorem Ny {G:Hp} {d:wF} {vs:List V} (r:RepL G [d] vs):∃ v,vs=[v]/\Rep G d v:=by
 obtain ⟨x,t,rfl,h,l⟩:=r; cases (show _=_ from l); exact ⟨x,rfl,h⟩
theorem nV {G:Hp} {d d':wF} {vs:List V} (r:RepL G [d,d'] vs):∃ v v',vs=[v,v']/\Rep G d v/\Rep G d' v':=by
 obtain ⟨x,t,rfl,h,l⟩:=r;obtain ⟨y,rfl,h'⟩:=Ny l;exact ⟨x,y,rfl,h,h'⟩
noncomputable def Q8:List wF->Option wF
 | [.list ds]=>some (.int ds.length)
 | [.tuple ds]=>some (.int ds.length)
 | [.str x]=>some (.int x.length)
 | _=>none
theorem bG:V0 X (.builtin "len") (rCD Q8):=by
 rintro pins s Z H xs us Q I r ⟨G,ds,d,hG,rl,e,q⟩;unfold Q8 at e;split at e
 . rename_i ys
   cases e; obtain ⟨v,rfl,a,vs,rfl,h1,l1⟩:=Ny rl; exact Pb pins s Z H _ us Q I r ⟨_,ys.length,rfl,.inl ⟨vs,.inl (Rd.mono hG h1),l1.length⟩,q _ G H (Grow.refl hG) rfl⟩
 . rename_i ys
   cases e; obtain ⟨v,rfl,a,vs,rfl,h1,l1⟩:=Ny rl; exact Pb pins s Z H _ us Q I r ⟨_,ys.length,rfl,.inr ⟨vs,.inl (.inl (hG _ _ h1)),l1.length⟩,q _ G H (Grow.refl hG) rfl⟩
 . rename_i x
   cases e; obtain ⟨v,rfl,r1⟩:=Ny rl;cases r1.1;exact Pb pins s Z H _ us Q I r ⟨_,x.length,rfl,⟨r1.2.2,rfl⟩,q _ G H (Grow.refl hG) rfl⟩
 . cases e
theorem Bc {n:Nat} (C:Cxt P w K mg base X N sc k df) (h:okGl sc "len" = true) (hm:mg "len" = none) (ha:DA X E (e::es) n fs)
   (he:wU (e::es) X.env=(false,eval e X.env)::wU es X.env:=by rfl) (hpl:(zY pos (wU es X.env)).any (·.1)=false:=by rfl):DE X E (.Call (.Name "len" p) (e::es) [] pos) (vFn fs Q8) :=
 Ip C bG h hm PySem.boot_len ha he hpl
noncomputable def dI:List wF->Option (List Bool)
 | []=>some []
 | .bool b::ds=>(dI ds).map (b::·)
 | _::_=>none
noncomputable def dAll:List wF->Option wF
 | [.list ds]=>(dI ds).map fun bs=>.bool (bs.all id)
 | _=>none
theorem pM {s:wJ} {h':yQ} {o:Obj} (hk:∀ b x,b∉[s.heap.objs.size]->(s.heap.push o).get? b=some x->h'.get? b=some x):∀ b x,s.heap.get? b=some x->h'.get? b=some x :=
 fun b x e=>hk b x (fun hm=>by rw [wX.mp hm] at e; exact j7 _ (xA e)) (wN _ e)
noncomputable def dListF:List wF->Option wF
 | [.list ds]=>some (.list ds)
 | [.tuple ds]=>some (.list ds)
 | _=>none
noncomputable def Gd:List wF->Option wF
 | [.list ds]=>some (.tuple ds)
 | [.tuple ds]=>some (.tuple ds)
 | _=>none
noncomputable def aY:List wF->Option wF
 | [.int i,.int j]=>some (.int (if i < j then j else i))
 | _=>none
noncomputable def Ku:List wF->Option wF
 | [.int i]=>some (.int i)
 | [.bool b]=>some (.int (if b then 1 else 0))
 | _=>none
theorem bB:V0 X (.type "tuple") (rCD Gd):=by
 rintro pins s Z H xs us Q I r ⟨G,ds,d,hG,rl,e,q⟩;unfold Gd at e;split at e
 . rename_i ys
   cases e; obtain ⟨v,rfl,a,vs,rfl,h1,l1⟩:=Ny rl; exact Gg pins s Z H _ us Q I r ⟨a,vs,rfl,.inl ⟨.inl (Rd.mono hG h1),fun l hl=>q _ (upd G l (.tup vs)) _ (Grow.new hG hl) ⟨l,vs,rfl,C0,l1.mono (Same.upd (hG.free hl))⟩⟩⟩
 . rename_i ys
   cases e; obtain ⟨v,rfl,a,vs,rfl,h1,l1⟩:=Ny rl; exact Gg pins s Z H _ us Q I r ⟨a,vs,rfl,.inr ⟨.inl (.inl (hG _ _ h1)),q _ G H (Grow.refl hG) ⟨a,vs,rfl,h1,l1⟩⟩⟩
 . cases e
theorem bE (hc:X.calm=true):V0 X (.builtin "max") (rCD aY):=by
 rintro pins s Z H xs us Q I r ⟨G,ds,d,hG,rl,e,q⟩;unfold aY at e;split at e
 . rename_i i j
   cases e; obtain ⟨v,v',rfl,e1,e2⟩:=nV rl;cases (show _=_ from e1); cases (show _=_ from e2);refine gP hc pins s Z H _ us Q I r ⟨i,j,rfl,?_⟩; have:=q (.int (if i < j then j else i)) G H (Grow.refl hG) rfl;first | exact this | (simpa [max_def] using this) | trace_state
 . cases e
theorem bH:V0 X (.type "int") (rCD Ku):=by
 rintro pins s Z H xs us Q I r ⟨G,ds,d,hG,rl,e,q⟩;unfold Ku at e;split at e
 . rename_i i
   cases e; obtain ⟨v,rfl,e1⟩:=Ny rl;cases (show _=_ from e1);exact Sy pins s Z H _ us Q I r (.inl ⟨i,rfl,q _ G H (Grow.refl hG) rfl⟩)
 . rename_i b
   cases e; obtain ⟨v,rfl,e1⟩:=Ny rl;cases (show _=_ from e1);refine Sy pins s Z H _ us Q I r (.inr ⟨b,rfl,?_⟩); have:=q (.int (if b then 1 else 0)) G H (Grow.refl hG) rfl;cases b <;> exact this
 . cases e
theorem lV {n:Nat} (C:Cxt P w K mg base X N sc k df) (h:okGl sc "tuple" = true) (hm:mg "tuple" = none) (ha:DA X E (e::es) n fs)
   (he:wU (e::es) X.env=(false,eval e X.env)::wU es X.env:=by rfl) (hpl:(zY pos (wU es X.env)).any (·.1)=false:=by rfl):DE X E (.Call (.Name "tuple" p) (e::es) [] pos) (vFn fs Gd) :=
 Yr C bB h hm (by decide +kernel) ha he hpl
theorem sC {n:Nat} (C:Cxt P w K mg base X N sc k df) (h:okGl sc "max" = true) (hm:mg "max" = none) (ha:DA X E (e::es) n fs)
   (he:wU (e::es) X.env=(false,eval e X.env)::wU es X.env:=by rfl) (hpl:(zY pos (wU es X.env)).any (·.1)=false:=by rfl):DE X E (.Call (.Name "max" p) (e::es) [] pos) (vFn fs aY) :=
 Ip C (bE C.calm) h hm (by decide +kernel) ha he hpl
theorem lZ {n:Nat} (C:Cxt P w K mg base X N sc k df) (h:okGl sc "int" = true) (hm:mg "int" = none) (ha:DA X E (e::es) n fs)
   (he:wU (e::es) X.env=(false,eval e X.env)::wU es X.env:=by rfl) (hpl:(zY pos (wU es X.env)).any (·.1)=false:=by rfl):DE X E (.Call (.Name "int" p) (e::es) [] pos) (vFn fs Ku) :=
 Yr C bH h hm (by decide +kernel) ha he hpl
noncomputable def Bz:List wF->Option (List Str)
 | []=>some []
 | .str b::ds=>(Bz ds).map (b::·)
 | _::_=>none
noncomputable def Ge (x:Str):wF->Option wF
 | .list ds=>(Bz ds).bind fun ys=>if (ys.map (·.length)).sum+ys.length*x.length<=16777216/\xP (i3 x ys)=true/\(i3 x ys).length<=sizeLine then some (.str (i3 x ys)) else none
 | _=>none
theorem Vw {G:Hp}:∀ {ds:List wF} {xs:List V} {us:List wI} {ys:List Str},RepL G ds xs->Vals xs us->Bz ds=some ys->DJ us ys
 | [],_,_,_,r,q,e=>by cases (show _=_ from r); cases q; cases e; exact .nil
 | .str b::ds,_,_,_,r,q,e=>by
   obtain ⟨x,t,rfl,h,l⟩:=r;cases h.1;cases q with
   | cons q qs =>
     obtain ⟨tk,rfl⟩:=q; obtain ⟨bs,e1,rfl⟩:=yF.mp e; exact .cons _ _ (Vw l qs e1)
 | .none::_,_,_,_,_,_,e=>by cases e
 | .int _::_,_,_,_,_,_,e=>by cases e
 | .bool _::_,_,_,_,_,_,e=>by cases e
 | .list _::_,_,_,_,_,_,e=>by cases e
 | .tuple _::_,_,_,_,_,_,e=>by cases e
 | .dict _::_,_,_,_,_,_,e=>by cases e
theorem pF:MtR X "str.join" (fun x vs H Q=>∃ G z v d r,Same G H/\x=.str z/\vs=[v]/\Rep G d v/\Ge z d=some (.str r)/\Q (.str r) H):=by
 rintro pins s Z H x vs v us Q I rx rv ⟨G,z,y,d,r,hG,e1,e2,rd,e,q⟩;subst e1 e2;obtain ⟨t,rfl⟩:=rx;obtain ⟨u,rfl,ru⟩:=rv.one;cases d with
 | list ds =>
   obtain ⟨ys,e3,e4⟩:=AI.mp e;split at e4
   . rename_i hc
     cases e4; obtain ⟨l,xs,rfl,h1,l1⟩:=rd; cases ru; obtain ⟨zz,its,n,rv2,e5⟩:=W1 I hG h1; refine join_list ⟨_,e5,rfl,n,rfl⟩ (by simpa using Vw l1 rv2 e3) hc.1 fun t' k=>⟨.str _,H,I.tok _,⟨t',?_⟩,q⟩;rw [i7 (join_plain_closes z ys)]
   . cases e4
 | _=>cases e
noncomputable def Cl (x:Str) (f:Dn->Res wF):Dn->Res wF:=fun δ=>(f δ).bind fun d=>ofO (Ge x d)
theorem gK {z:Str} {d d':wF} (e:Ge z d=some d'):∃ r,d'=.str r/\xP r=true/\r.length<=sizeLine:=by
 cases d with
 | list ds =>
   obtain ⟨ys,e3,e4⟩:=AI.mp e;split at e4
   . rename_i hc; cases e4; exact ⟨_,rfl,hc.2.1,hc.2.2⟩
   . cases e4
 | _=>cases e
theorem Oy {z:Str} {j:Nat} {p1 apos cpos:Pos} (ha:DE X E a f) (hbase:o8 (.Constant (.str z) j p1) "join" X.env (eval (.Constant (.str z) j p1) X.env)=eval (.Constant (.str z) j p1) X.env:=by rfl)
   (hfew:((zY cpos (wU [a] X.env)).all (fun x => !x.1)&&(FJ cpos (BX [] X.env)).all (fun x=>x.1.isSome)
     && decide ([a].length+([]:List AX).length+(if ([]:List AX).isEmpty then 0 else 1) < 30))=true:=by rfl)
   (hline:(apos.endLine==cpos.line)=true:=by rfl) (hs:wU [a] X.env=(false,eval a X.env)::wU [] X.env:=by rfl) (hplain:(zY cpos (wU [] X.env)).any (·.1)=false:=by rfl) :
   DE X E (.Call (.Attribute (.Constant (.str z) j p1) "join" apos) [a] [] cpos) (Cl z f):=by
 refine PE.imp (Xl HC PySem.F.slot_str_join PySem.F.type_str_join pF jS (O8 ha Y5 hs) hbase hfew hline hs hplain) fun Z H Q hY54=>?_;obtain ⟨G,δ,S,aft⟩:=hY54;refine ⟨rfl,?_⟩;refine J2 S aft fun d v G1 H1 g1 r1 S1 a1=>?_;cases e:Ge z d with
 | none=>rw [e] at a1; exact a1.elim
 | some d' =>
   obtain ⟨r,rfl,o1,o2⟩:=gK e; rw [e] at a1; exact ⟨G1,z,v,d,r,S1.sub,rfl,rfl,r1,e,a1 _ G1 H1 (Grow.refl S1.sub) ⟨rfl,o1,o2⟩⟩
def spD (n:Nat) (m:List wF->Res wF):Sp:=fun vs H Q _=>∃ G ds d,Same G H/\RepL G ds vs/\ds.length=n/\m ds=.ok d/\∀ v G' H',Grow G H G' H'->Rep G' d v->Q v H'
structure Fn (P:xN) (w:xT) (K:wM) (mg:Str->Option wI) (base:yQ) (x:Str) (k n:Nat) (m:List wF->Res wF):Prop where
 ex:∃ f fd ps,ps.length=n/\FnOk P w K mg base CX0 k f fd ps (spD n m)/\mg x=some (.ref f)/\zL K (.ref f)=true/\Binds K fd ps []
def E0k:EK:=fun _ _=>False
noncomputable def B5 (fs:Dn->Res (List wF)) (m:List wF->Res wF):Dn->Res wF:=fun δ=>(fs δ).bind m
theorem C1 {x:Str} {j n:Nat} {m:List wF->Res wF} (C:Cxt P w K mg base X N sc k df) (F:Fn P w K mg base x j n m) (hj:j<=k) (h:okGl sc x=true) (ha:DA X E0k (e::es) n fs)
   (he:wU (e::es) X.env=(false,eval e X.env)::wU es X.env:=by rfl) (hpl:(zY pos (wU es X.env)).any (·.1)=false:=by rfl):DE X E0k (.Call (.Name x p) (e::es) [] pos) (B5 fs m):=by
 obtain ⟨f,fd,ps,hps,F,hm,hk,hb⟩:=F.ex;obtain ⟨h1,h2,h3⟩:=okGl.gl C h;have F':FnOk X.prog X.w X.K X.mg X.base CX0 j f fd ps (spD n m):=by rw [C.hP,C.hw,C.hK,C.hmg,C.hb]; exact F
 refine PE.imp (Lr F' (C.room.mono hj) h1 (by rw [C.hmg]; exact hm) (by rw [C.hK]; exact hk) (by rw [C.hK]; exact hb) .nil (cK (X:=X)) ha.pa h2 he hpl) fun Z H Q hY55=>?_;obtain ⟨G,δ,S,aft⟩:=hY55;refine X4 (W:=fun G H r=>Aft E0k G H r Q) S aft (fun g a=>Aft.grow g a) (fun c a=>a) (fun a=>a) fun ds vs G1 H1 e g1 r1 S1 a1=>?_;rw [yL];cases q:m ds with
 | ok d=>rw [q] at a1; exact ⟨G1,ds,d,S1.sub,r1,ha.len δ ds e,q,a1⟩
 | exc c=>rw [q] at a1; exact (a1 G1 H1 (Grow.refl S1.sub)).elim
 | no=>rw [q] at a1; exact a1.elim
end
end Sm
end
noncomputable section
namespace Sm
open PySem PySem.Spec PyProof.Rows L2
def Its (z:Str):It:=⟨fun i _=>i < z.cps.size,fun i H x H'=>H'=H/\∃ c,z.cps[i]? = some c/\x=.str ⟨#[c]⟩,fun i _=>z.cps.size<=i⟩
theorem Zu {P:xN} {w:xT} {K:wM} {tg:Expr} (it:wR) (z:Str) (t:Tok):Turn P w K tg (Its z) [it] it (fun i h=>h.IsStrIter it "str_ascii_iterator" z t i) where
 mem:=by simp
 obj:=fun i h st b hb=>by
   have e:b=it:=by simpa using hb
   subst e; obtain ⟨o,e,c,d⟩:=st; exact ⟨o,e,fun v z=>by rw [d] at z; cases z⟩
 keep:=fun i h h' st k=>by
   obtain ⟨o,e,c,d⟩:=st; exact ⟨o,k it (by simp) o e,c,d⟩
 item:=by
   intro X hP hw hK hc i pins s Z H E I hf st hg; subst hP hw hK; obtain ⟨f0,f1,f2,f3,f4,f5⟩:=hf it (by simp);have hi:i < z.cps.size:=hg; refine wpAny_pyNext_ascii_item st (c:=z.cps[i]) (by simp [hi]) fun h' st' sb=>?_;have I1:Inv X pins Z H { s with heap:=h',toks:=s.toks+1 }:=I.turned (fun b o hb e=>(sb.2 b hb).trans e) f0 f1 f3 f4 f5;obtain ⟨o,e,c,d⟩:=id st'; exact ⟨_,rfl,Sn (s:={ s with heap:=h',toks:=s.toks+1 }) e c d (by decide) ⟨.str ⟨#[z.cps[i]]⟩,H,I1,⟨_,rfl⟩,⟨rfl,_,by simp [hi],rfl⟩,st',fun b hb=>(hf b hb).1⟩⟩
 done:=by
   intro X hP hw hK hc i pins s Z H E I hf st hg; subst hP hw hK; obtain ⟨f0,f1,f2,f3,f4,f5⟩:=hf it (by simp);have hi:z.cps.size<=i:=hg; exact wpAny_pyNext_ascii_end (I.ok.hd hc) st (by simpa using hi) fun h' eb=>⟨rfl,I.turned (t':=s.toks) (fun b o hb e=>eb b o hb e) f0 f1 f3 f4 f5⟩
 self:=fun _ _ _ _ _ st h=>wpAny_pyIter_striter_ascii st h
theorem dZ {P:xN} {w:xT} {K:wM} {tg:Expr} (it:wR) (z:Str) (t:Tok):Turn P w K tg (Its z) [it] it (fun i h=>h.IsStrIter it "str_iterator" z t i) where
 mem:=by simp
 obj:=fun i h st b hb=>by
   have e:b=it:=by simpa using hb
   subst e; obtain ⟨o,e,c,d⟩:=st; exact ⟨o,e,fun v z=>by rw [d] at z; cases z⟩
 keep:=fun i h h' st k=>by
   obtain ⟨o,e,c,d⟩:=st; exact ⟨o,k it (by simp) o e,c,d⟩
 item:=by
   intro X hP hw hK hc i pins s Z H E I hf st hg; subst hP hw hK; obtain ⟨f0,f1,f2,f3,f4,f5⟩:=hf it (by simp);have hi:i < z.cps.size:=hg; refine wpAny_pyNext_wide_item st (c:=z.cps[i]) (by simp [hi]) fun h' st' sb=>?_;have I1:Inv X pins Z H { s with heap:=h',toks:=s.toks+1 }:=I.turned (fun b o hb e=>(sb.2 b hb).trans e) f0 f1 f3 f4 f5;obtain ⟨o,e,c,d⟩:=id st'; exact ⟨_,rfl,Sn (s:={ s with heap:=h',toks:=s.toks+1 }) e c d (by decide) ⟨.str ⟨#[z.cps[i]]⟩,H,I1,⟨_,rfl⟩,⟨rfl,_,by simp [hi],rfl⟩,st',fun b hb=>(hf b hb).1⟩⟩
 done:=by
   intro X hP hw hK hc i pins s Z H E I hf st hg; subst hP hw hK; obtain ⟨f0,f1,f2,f3,f4,f5⟩:=hf it (by simp);have hi:z.cps.size<=i:=hg; exact wpAny_pyNext_wide_end (I.ok.hd hc) st (by simpa using hi) fun h' eb=>⟨rfl,I.turned (t':=s.toks) (fun b o hb e=>eb b o hb e) f0 f1 f3 f4 f5⟩
 self:=fun _ _ _ _ _ st h=>wpAny_pyIter_striter_wide st h
def Ite (K:wM) (a:wR):It :=
 ⟨fun i H=>∃ xs x,SqL K H a xs/\xs[i]? = some x,fun i H x H'=>∃ p y,H p=none/\x=.ref p/\H'=upd H p (.tup [.int i,y])/\∀ xs,SqL K H a xs->xs[i]? = some y,fun i H=>∃ xs,SqL K H a xs/\xs.length<=i⟩
theorem eB {P:xN} {w:xT} {K:wM} {elts:List Expr} {x1:Nat} {tp:Pos} (a e it:wR) (hne:e≠it):Turn P w K (.Tuple elts x1 tp) (Ite K a) [e,it] e (fun i h=>(∃ old,IsEnum h e it (i:Int) old)/\h.IsListIter it a i) where
 mem:=by simp
 obj:=fun i h st b hb=>by
   obtain ⟨⟨old,h1⟩,o,h2,c,d⟩:=st; rcases wK.mp hb with rfl | hb
   . exact ⟨_,h1,fun v z=>by cases z⟩
   . have e':b=it:=by simpa using hb
     subst e'; exact ⟨o,h2,fun v z=>by rw [d] at z; cases z⟩
 keep:=fun i h h' st k=>by
   obtain ⟨⟨old,h1⟩,o,h2,c,d⟩:=st; exact ⟨⟨old,k e (by simp) _ h1⟩,o,k it (by simp) o h2,c,d⟩
 item:=by
   intro X hP hw hK hc i pins s Z H E I hf st hg; subst hP hw hK; obtain ⟨⟨old,he⟩,st⟩:=st; obtain ⟨xs,x,hq,hx⟩:=hg; obtain ⟨its,rv,p,hz⟩:=I.list hq; obtain ⟨u,hu,ru⟩:=rv.get hx; obtain ⟨f0,f1,f2,f3,f4,f5⟩:=hf e (by simp);obtain ⟨g0,g1,g2,g3,g4,g5⟩:=hf it (by simp);refine wpAny_pyNext_enum_item he st p.isList (x:=u) (by simpa using hu) hne fun h' he' st' ht' hsz kp=>?_;refine ⟨_,rfl,wpAny_letOwnedTupleGo_enum he' fun h2 he2 sb=>?_⟩;have hfr:H s.heap.objs.size=none:=I.fresh; have elt:e < s.heap.objs.size:=xA he; have ilt:it < s.heap.objs.size:=by obtain ⟨o,h,_⟩:=st; exact xA h
   have kp2:∀ b o,b≠e->b≠it->s.heap.get? b=some o->h2.get? b=some o:=fun b o h1 h3 q=>(sb.2 b h1).trans (kp b o h1 h3 q);have I1:Inv X pins Z H { s with heap:=h2,toks:=s.toks+1 }:=by
     refine I.step (g':=s.gens) (d':=s.drawn) (ch:=[e,it]) (fun b hb=>?_) (fun b o _ _ hcb q _=>kp2 b o (fun z=>hcb (by simp [z])) (fun z=>hcb (by simp [z])) q) (fun b o _ _ hcb q _=>⟨o.slots,kp2 b o (fun z=>hcb (by simp [z])) (fun z=>hcb (by simp [z])) q⟩) (fun _ _ _ _ n=>n)
       (fun b o hcb q=>⟨o,kp2 b o (fun z=>hcb (by simp [z])) (fun z=>hcb (by simp [z])) q⟩) (fun _ _ q=>q) (fun _ _ _ q=>q) (fun b ps q=>⟨#[],by rw [q]; simp⟩) (fun m hm=>?_) (fun b u' q=>?_) I.bare
     . rcases wK.mp hb with rfl | hb
       . exact ⟨f3,f1,f4,f5⟩
       . have e':b=it:=by simpa using hb
         subst e'; exact ⟨g3,g1,g4,g5⟩
     . obtain ⟨o,es,ep,ho,r⟩:=hm
       exact ⟨o,es,ep,kp2 _ o (Ne.symm f1) (Ne.symm g1) ho,r⟩
     . refine (I.hok b u' q).stay (fun c v hcc q'=>kp2 c v ?_ ?_ q') (fun _ q'=>q') fun _ _ q'=>q'
       . rintro rfl
         rcases hcc with z | z
         . subst z; rw [f0] at q; cases q
         . rw [f0] at z; cases z
       . rintro rfl
         rcases hcc with z | z
         . subst z; rw [g0] at q; cases q
         . rw [g0] at z; cases z
   have htt:h2.get? s.heap.objs.size=some { cls:=.type "tuple",data:=.seq #[.int i s.toks,u] }:=(sb.2 _ (p6 elt)).trans ht'; have Hold:∀ b o,H b=some o->b≠s.heap.objs.size:=fun b o q z=>by subst z; rw [hfr] at q; cases q
   have I2:Inv X pins Z (upd H s.heap.objs.size (.tup [.int i,x])) { s with heap:=h2,toks:=s.toks+1 }:=by
     have nb:∀ b o,b≠s.heap.objs.size->s.heap.get? b=some o->True:=fun _ _ _ _=>trivial;have base':Un X.fs X.ex X.H₀ (upd H s.heap.objs.size (.tup [.int i,x])) X.s₀.heap h2:=by
       have B:=I1.base; have ne0:∀ b o,X.s₀.heap.get? b=some o->b≠s.heap.objs.size:=fun b o q=>xU (xB (xA q) I.sz);exact ⟨B.keep,B.slot,fun b o q n hx=>by rw [C3 (ne0 b o q)]; exact B.free b o q n hx,B.there,
         fun b ys q=>by rw [C3 (Hold b _ (B.tups b ys q))]; exact B.tups b ys q,fun b o' u' q=>by rw [C3 (Hold b _ (B.frzs b o' u' q))]; exact B.frzs b o' u' q,
         fun b ps q=>by obtain ⟨m,q'⟩:=B.tbls b ps q; exact ⟨m,by rw [C3 (Hold b _ q')]; exact q'⟩⟩
     have hok':HOk X.prog X.w (upd H s.heap.objs.size (.tup [.int i,x])) h2:=fun b o q=>by
       by_cases hb:b=s.heap.objs.size
       . subst hb
         rw [C0] at q; cases q; refine ⟨by show 2<=sizeLine; decide,[.int i s.toks,u],.cons ⟨_,rfl⟩ (.cons ru .nil),⟨_,htt,rfl,0,rfl⟩⟩
       . rw [C3 hb] at q
         exact (I1.hok b o q).stay (fun _ _ _ q'=>q') (fun c q'=>by rw [C3 (Hold c _ q')]; exact q') fun c ys q'=>by rw [C3 (Hold c _ q')]; exact q'
     refine ⟨I1.ok,I1.os,I1.bare,base',I1.loc,I1.cell,?_,fun y c q=>?_,fun p hp=>?_,hok',I1.len⟩
     . rw [C3 (xU I.lt)]; exact I1.free
     . obtain ⟨v,oc,hoc,_⟩:=I.cell y c q
       rw [C3 (xU (xA hoc))]; exact I1.freeC y c q
     . obtain ⟨q1,q2,q3,q4,q5⟩:=I1.pin p hp
       refine ⟨q1,?_,q3,q4,q5⟩; rw [C3 (xU (xA (I.pin p hp).1))]; exact q2
   refine ⟨.ref s.heap.objs.size,_,I2,rfl,⟨_,x,hfr,rfl,rfl,fun ys hy=>by rw [I.list_inj hy hq]; exact hx⟩,⟨⟨_,by push_cast; exact he2⟩,?_⟩,fun b hb=>?_⟩
   . obtain ⟨o,q,c,d⟩:=st'
     exact ⟨o,(sb.2 it (Ne.symm hne)).trans q,c,d⟩
   . rcases wK.mp hb with rfl | hb
     . rw [C3 (xU elt)]; exact f0
     . have e':b=it:=by simpa using hb
       subst e'; rw [C3 (xU ilt)]; exact g0
 done:=by
   intro X hP hw hK hc i pins s Z H E I hf st hg; subst hP hw hK; obtain ⟨⟨old,he⟩,st⟩:=st; obtain ⟨xs,hq,hx⟩:=hg; obtain ⟨its,rv,p,hz⟩:=I.list hq; obtain ⟨g0,g1,g2,g3,g4,g5⟩:=hf it (by simp);have hl:=rv.length; exact wpAny_pyNext_enum_end (I.ok.hd hc) he st p.isList (by simp; lia) fun h' eb=>⟨rfl,I.turned (t':=s.toks) (fun b o hb e=>eb b o hb e) g0 g1 g3 g4 g5⟩
 self:=fun _ _ _ _ _ st h=>by
   obtain ⟨⟨old,he⟩,_⟩:=st; exact wpAny_pyIter_enum he h
end Sm
end
noncomputable section
namespace Sm
open PySem PySem.Spec PyProof.Rows L2
structure Walk (J:It) (G:Hp) (ds:List wF):Prop where
 go:∀ (i:Nat) (H:Hp),i < ds.length->Same G H->J.go i H
 yld:∀ (i:Nat) (d:wF) (G2 H:Hp) (x:V) (H':Hp),ds[i]? = some d->Same G G2->Same G2 H->J.yld i H x H'->∃ G3,Grow G2 H G3 H'/\Rep G3 d x
 stop:∀ (i:Nat) (H:Hp),ds.length<=i->Same G H->J.stop i H
def AftI (E:EK) (G H:Hp) (r:Res (List wF)) (R:It->Hp->Prop):Prop:=match r with
 | .ok ds=>∀ J G' H',Grow G H G' H'->Walk J G' ds->R J H'
 | .exc c=>∀ G' H',Grow G H G' H'->E c H'
 | .no=>False
def tI (E:EK) (f:Dn->Res (List wF)):TI:=fun Z H R=>∃ G δ,SR G H Z δ/\AftI E G H (f δ) R
abbrev DI (X:Cx) (E:EK) (tg e:Expr) (f:Dn->Res (List wF)):Prop:=PI X tg e (tI E f)
theorem AftI.grow {E:EK} {G H G' H':Hp} {r:Res (List wF)} {Q:It->Hp->Prop} (g:Grow G H G' H') (a:AftI E G H r Q):AftI E G' H' r Q:=by
 cases r with
 | ok d=>exact fun v G2 H2 g2 q=>a v G2 H2 (g.trans g2) q
 | exc c=>exact fun G2 H2 g2=>a G2 H2 (g.trans g2)
 | no=>exact a
theorem PI.imp {X:Cx} {tg e:Expr} {t t':TI} (h:PI X tg e t) (i:∀ Z H Q,t' Z H Q->t Z H Q):PI X tg e t':=fun pins s Z H Q I q=>h pins s Z H Q I (i _ _ _ q)
noncomputable def Cy (x:Str):List wF:=x.cps.toList.map fun c=>.str ⟨#[c]⟩
noncomputable def C9:wF->Res (List wF)
 | .list ds=>.ok ds
 | .tuple ds=>.ok ds
 | .str x=>.ok (Cy x)
 | _=>.no
theorem dW {K:wM} {G:Hp} {a:wR} {xs:List V} {ds:List wF} (h:Rd G a (.lst xs)) (l:RepL G ds xs):Walk (Itl K a) G ds where
 go:=fun i H hi hG=>by
   have hi':i < xs.length:=by rw [<- l.length]; exact hi
   exact ⟨xs,xs[i],.inl (Rd.mono hG h),by simp [hi']⟩
 yld:=fun i d G2 H x H' e h1 h2 hy=>by
   obtain ⟨rfl,hy⟩:=hy; obtain ⟨y,e1,r⟩:=l.get e; have:=hy xs (.inl (Rd.mono (h1.trans h2) h)); rw [e1] at this; cases this; exact ⟨G2,Grow.refl h2,r.mono h1⟩
 stop:=fun i H hi hG=>⟨xs,.inl (Rd.mono hG h),by rw [<- l.length]; exact hi⟩
theorem gX {K:wM} {G:Hp} {a:wR} {xs:List V} {ds:List wF} (h:G a=some (.tup xs)) (l:RepL G ds xs):Walk (Itt K a) G ds where
 go:=fun i H hi hG=>by
   have hi':i < xs.length:=by rw [<- l.length]; exact hi
   exact ⟨xs,xs[i],.inl (.inl (hG _ _ h)),by simp [hi']⟩
 yld:=fun i d G2 H x H' e h1 h2 hy=>by
   obtain ⟨rfl,hy⟩:=hy; obtain ⟨y,e1,r⟩:=l.get e; have:=hy xs (.inl (.inl (h2 _ _ (h1 _ _ h)))); rw [e1] at this; cases this; exact ⟨G2,Grow.refl h2,r.mono h1⟩
 stop:=fun i H hi hG=>⟨xs,.inl (.inl (hG _ _ h)),by rw [<- l.length]; exact hi⟩
theorem Vi {G:Hp} {z:Str} (ho:xP z=true):Walk (Its z) G (Cy z) where
 go:=fun i H hi hG=>by
   show i < z.cps.size;simpa [Cy] using hi
 yld:=fun i d G2 H x H' e h1 h2 hy=>by
   obtain ⟨rfl,c,hc,rfl⟩:=hy; have e':(z.cps.toList.map fun c=>yK ⟨#[c]⟩)[i]? = some d:=e;rw [xQ,q9,hc] at e';cases e'; refine ⟨G2,Grow.refl h2,rfl,?_,by show 1<=sizeLine; decide⟩;unfold xP at ho ⊢;rw [<- FS,l7] at ho; have:=ho c (by rw [<- q9] at hc; exact c8 hc);simpa using this
 stop:=fun i H hi hG=>by
   show z.cps.size<=i;simpa [Cy] using hi
theorem Zp {G:Hp} (lo:Int) (n:Nat):Walk (Itr lo n) G ((zK n).map fun (i:Nat)=>xL (lo+i)) where
 go:=fun i H hi hG=>by
   show i < n;simpa using hi
 yld:=fun i d G2 H x H' e h1 h2 hy=>by
   obtain ⟨rfl,rfl⟩:=hy; rw [xQ] at e;by_cases hi:i < n
   . rw [List.getElem?_range hi] at e; cases e; exact ⟨G2,Grow.refl h2,rfl⟩
   . rw [i9 (by simpa using hi)] at e; cases e
 stop:=fun i H hi hG=>by
   show n<=i;simpa using hi
noncomputable def Ga (ds:List wF):List wF:=ds.mapIdx fun i d=>.tuple [.int i,d]
theorem dX {K:wM} {G:Hp} {a:wR} {xs:List V} {ds:List wF} (h:Rd G a (.lst xs)) (l:RepL G ds xs):Walk (Ite K a) G (Ga ds) where
 go:=fun i H hi hG=>by
   have hi':i < xs.length:=by rw [<- l.length]; simpa [Ga] using hi
   exact ⟨xs,xs[i],.inl (Rd.mono hG h),by simp [hi']⟩
 yld:=fun i d G2 H x H' e h1 h2 hy=>by
   obtain ⟨p,y,hp,rfl,rfl,hy⟩:=hy; unfold Ga at e; rw [IU] at e; obtain ⟨d0,e0,rfl⟩:=yF.mp e; obtain ⟨y',e1,r⟩:=l.get e0; have:=hy xs (.inl (Rd.mono (h1.trans h2) h)); rw [e1] at this; cases this; refine ⟨upd G2 p (.tup [.int i,y]),Grow.new h2 hp,p,_,rfl,C0,RepL.cons rfl (RepL.cons (r.mono (h1.trans (Same.upd (h2.free hp)))) rfl)⟩
 stop:=fun i H hi hG=>⟨xs,.inl (Rd.mono hG h),by rw [<- l.length]; simpa [Ga] using hi⟩
noncomputable section
variable {P:xN} {w:xT} {K:wM} {mg:Str->Option wI} {base:yQ} {X:Cx} {N:List Str} {sc:Scope} {k:Nat} {df:Bool} {E:EK} {pos p:Pos} {tg a b c e:Expr} {f g:Dn->Res wF} {fs src:Dn->Res (List wF)}
theorem F3 (ha:DE X E a f):DI X E tg a (fun δ=>(f δ).bind C9):=by
 rintro pins s Z H R I ⟨G,δ,S,aft⟩;have h:=Lz (R:=fun v H1=>∃ G1 d,Same G1 H1/\Rep G1 d v/\AftI E G1 H1 (C9 d) R) (W:=fun G H r=>AftI E G H r R) S aft (fun g a=>AftI.grow g a) (fun c a=>a) (fun a=>a) fun d v G1 H1 g1 r1 S1 a1=>⟨G1,d,S1.sub,r1,a1⟩;refine thn (ha pins s Z H _ I h) fun v s1 hZ2=>?_;obtain ⟨x,H1,I1,rx,G1,d,hG,rd,a1⟩:=hZ2;cases d with
 | list ds =>
   obtain ⟨p,xs,rfl,h1,l1⟩:=rd; cases rx; obtain ⟨zz,its,n,rv,e1⟩:=W1 I1 hG h1; refine GF ⟨_,e1,rfl,n,rfl⟩ ?_; refine ⟨s1.heap.objs.size,[s1.heap.objs.size],_,_,H1,rfl,I1.kept (t':=s1.toks) fun b o e=>wN _ e,eA p _,⟨_,wW _ rfl,rfl,rfl⟩,fun b hb=>?_,a1 _ G1 H1 (Grow.refl hG) (dW h1 l1)⟩;have e:b=s1.heap.objs.size:=by simpa using hb
   subst e; exact I1.fpOk (wO _) I1.fresh
 | tuple ds =>
   obtain ⟨p,xs,rfl,h1,l1⟩:=rd; cases rx; obtain ⟨zz,its,rv,pt⟩:=Jj I1 hG h1; refine wpAny_pyIter_tuple (show s1.heap.IsTuple p its.toArray from pt) ?_;refine ⟨s1.heap.objs.size,[s1.heap.objs.size],_,_,H1,rfl,I1.kept (t':=s1.toks) fun b o e=>wN _ e,Zs p _,⟨_,wW _ rfl,rfl,rfl⟩,fun b hb=>?_,a1 _ G1 H1 (Grow.refl hG) (gX h1 l1)⟩;have e:b=s1.heap.objs.size:=by simpa using hb
   subst e; exact I1.fpOk (wO _) I1.fresh
 | str z =>
   obtain ⟨e0,o1,l1⟩:=rd; subst e0; obtain ⟨t,rfl⟩:=rx;cases ha:z.cps.all (· < 128)
   . refine wpAny_pyIter_wide ha ?_
     refine ⟨s1.heap.objs.size,[s1.heap.objs.size],_,_,H1,rfl,I1.kept (t':=s1.toks) fun b o e=>wN _ e,dZ _ z t,⟨_,wW _ rfl,rfl,rfl⟩,fun b hb=>?_,a1 _ G1 H1 (Grow.refl hG) (Vi o1)⟩;have e:b=s1.heap.objs.size:=by simpa using hb
     subst e; exact I1.fpOk (wO _) I1.fresh
   . refine wpAny_pyIter_ascii ha ?_
     refine ⟨s1.heap.objs.size,[s1.heap.objs.size],_,_,H1,rfl,I1.kept (t':=s1.toks) fun b o e=>wN _ e,Zu _ z t,⟨_,wW _ rfl,rfl,rfl⟩,fun b hb=>?_,a1 _ G1 H1 (Grow.refl hG) (Vi o1)⟩;have e:b=s1.heap.objs.size:=by simpa using hb
     subst e; exact I1.fpOk (wO _) I1.fresh
 | _=>exact (show False from a1).elim
noncomputable def W8 (lo hi:Int):List wF:=(zK (hi - lo).toNat).map fun (i:Nat)=>xL (lo+i)
noncomputable def Ih:List wF->Res (List wF)
 | [.int j]=>if -(2 ^ 62)<=j/\j < 2 ^ 62 then .ok (W8 0 j) else .no
 | _=>.no
theorem El {n:Nat} (C:Cxt P w K mg base X N sc k df) (h:okGl sc "range" = true) (hm:mg "range" = none) (ha:DA X E [a] n fs) (hs:wU [a] X.env=[(false,eval a X.env)]:=by rfl) :
   DI X E tg (.Call (.Name "range" p) [a] [] pos) (fun δ=>(fs δ).bind Ih):=by
 refine PI.imp (fF (okGl.gl C h).1 (by rw [C.hmg]; exact hm) ha.pa hs) fun Z H Q hY56=>?_;obtain ⟨G,δ,S,aft⟩:=hY56;refine X4 (W:=fun G H r=>AftI E G H r Q) S aft (fun g a=>AftI.grow g a) (fun c a=>a) (fun a=>a) fun ds vs G1 H1 e g1 r1 S1 a1=>?_;unfold Ih at a1;split at a1
 . rename_i j
   split at a1
   . rename_i hc
     obtain ⟨v,rfl,e1⟩:=Ny r1;cases (show _=_ from e1);refine ⟨j,rfl,hc.1,hc.2,a1 _ G1 H1 (Grow.refl S1.sub) ?_⟩; have:=Zp (G:=G1) 0 j.toNat; unfold W8; rw [Int.sub_zero]; exact this
   . exact a1.elim
 . exact a1.elim
noncomputable def Ou:List wF->Res (List wF)
 | [.list ds]=>.ok (Ga ds)
 | _=>.no
theorem vD {n x1:Nat} {elts:List Expr} {tp:Pos} (C:Cxt P w K mg base X N sc k df) (h:okGl sc "enumerate" = true) (hm:mg "enumerate" = none) (ha:DA X E [a] n fs) (he:wU [a] X.env=(false,eval a X.env)::wU [] X.env:=by rfl) (hpl:(zY pos (wU [] X.env)).any (·.1)=false:=by rfl) :
   DI X E (.Tuple elts x1 tp) (.Call (.Name "enumerate" p) [a] [] pos) (fun δ=>(fs δ).bind Ou):=by
 rintro pins s Z H R I ⟨G,δ,S,aft⟩;obtain ⟨h1,h2,h3⟩:=okGl.gl C h;have hh:=X4 (R:=fun vs H1=>∃ G1 ds,Same G1 H1/\RepL G1 ds vs/\AftI E G1 H1 (Ou ds) R) (W:=fun G H r=>AftI E G H r R) S aft (fun g a=>AftI.grow g a) (fun c a=>a) (fun a=>a) fun ds vs G1 H1 e g1 r1 S1 a1=>⟨G1,ds,S1.sub,r1,a1⟩;refine BA (Oi I h1 (by rw [C.hmg]; exact hm) boot_enumerate ?_ h3 h2);refine o9 (thn (ha.pa pos pins s Z H _ I hh) fun us s1 hY58=>?_) he hpl;obtain ⟨vs,H1,I1,rv,G1,ds,hG,rl,a1⟩:=hY58;unfold Ou at a1;split at a1
 . rename_i ys
   obtain ⟨v,rfl,l,xs,rfl,q1,l1⟩:=Ny rl; obtain ⟨u,rfl,ru⟩:=Ri rv; cases ru; obtain ⟨zz,its,nn,rw',e1⟩:=W1 I1 hG q1; refine call_enumerate_list ⟨_,e1,rfl,nn,rfl⟩ fun h' he' hit hsz kp=>?_;have I2:Inv X pins Z H1 { s1 with heap:=h' }:=I1.kept (t':=s1.toks) kp; refine wpAny_pyIter_enum he' ?_; refine ⟨s1.heap.objs.size+1,[s1.heap.objs.size+1,s1.heap.objs.size],_,_,H1,rfl,I2,eB l _ _ (p6 (BN _)),⟨⟨_,he'⟩,hit⟩,fun b hb=>?_,a1 _ G1 H1 (Grow.refl hG) (dX q1 l1)⟩;rcases wK.mp hb with rfl | hb
   . exact I1.fpOk (z0 _) (I1.hok.fresh (z0 _))
   . have e:b=s1.heap.objs.size:=by simpa using hb
     subst e; exact I1.fpOk (wO _) I1.fresh
 . exact a1.elim
noncomputable def E4 (d:wF):Res (List Sl):=.ok [.sh d]
noncomputable def O5:wF->Res (List Sl)
 | .tuple [a,b]=>.ok [.sh a,.sh b]
 | _=>.no
noncomputable def D1 (bnd:wF->Res (List Sl)) (δc:Dn) (tt:Dn->Res Bool) (el:Dn->Res wF):List wF->Res (List wF)
 | []=>.ok []
 | d::ds=>match bnd d with
   | .ok sl=>match tt (sl++δc) with
     | .ok true=>match el (sl++δc) with
       | .ok y=>match D1 bnd δc tt el ds with
         | .ok r=>.ok (y::r)
         | _=>.no
       | _=>.no
     | .ok false=>D1 bnd δc tt el ds
     | _=>.no
   | _=>.no
noncomputable def Ck (δ:Dn) (cap:List Nat):Dn:=cap.map fun j=>δ[j]?.getD .un
noncomputable def E2 (src:Dn->Res (List wF)) (bnd:wF->Res (List Sl)) (cap:List Nat) (tt:Dn->Res Bool) (el:Dn->Res wF):Dn->Res (List wF):=fun δ=>(src δ).bind fun ds=>if ds.length<=sizeLine then D1 bnd (Ck δ cap) tt el ds else .no
def GOk (g:TG) (m:Nat) (bnd:wF->Res (List Sl)):Prop:=∀ (G H:Hp) (d:wF) (x:V) (sl:List Sl) (τ:St) (Q:St->Hp->Prop),Same G H->Rep G d x->bnd d=.ok sl->(∀ vs:List V,vs.length=m->sl.length=m->(∀ (i:Nat) s,sl[i]? = some s->SlOk G H (vs[i]?) s/\∃ d,s=.sh d)->Q (vs.map some++τ) H)->g x (xI m none++τ) H Q
theorem vF:GOk (U0 0) 1 E4:=by
 intro G H d x sl τ Q hG r e h;cases e;exact h [x] rfl rfl fun i s hs=>by
   cases i with
   | zero=>cases hs; exact ⟨⟨x,rfl,r⟩,d,rfl⟩
   | succ i=>simp at hs
theorem gok2:GOk (lN K 2 (Im (U0 0) (Im (U0 1) lO))) 2 O5:=by
 intro G H d x sl τ Q hG r e h;cases d with
 | tuple ds =>
   match ds,e with
   | [a,b],e =>
     cases e; obtain ⟨p,xs,rfl,h1,l1⟩:=r; obtain ⟨v,v',rfl,r1,r2⟩:=nV l1; refine ⟨p,_,rfl,.inl (.inl (hG _ _ h1)),rfl,v,[v'],rfl,v',[],rfl,rfl,?_⟩; exact h [v,v'] rfl rfl fun i s hs=>by
       match i with
       | 0=>cases hs; exact ⟨⟨v,rfl,r1⟩,a,rfl⟩
       | 1=>cases hs; exact ⟨⟨v',rfl,r2⟩,b,rfl⟩
       | i+2=>simp at hs
 | _=>cases e
theorem SR.cap {G H:Hp} {Z:St} {δ:Dn} (S:SR G H Z δ) (cap:List Nat) (hnd:cap.Nodup) {vs:List V} {sl:List Sl} (hv:vs.length=sl.length) (h:∀ (i:Nat) s,sl[i]? = some s->SlOk G H (vs[i]?) s/\∃ d,s=.sh d):SR G H (vs.map some++Dz Z cap) (sl++Ck δ cap):=by
 have hlt:∀ i,i < sl.length->(vs.map some++Dz Z cap)[i]? = (vs[i]?).map some:=fun i hi=>by
   rw [yD (by rw [wL,hv]; exact hi),xQ]
 have hge:∀ i,¬ i < sl.length->(vs.map some++Dz Z cap)[i]? = (cap[i - sl.length]?).map fun j=>Z[j]?.join:=fun i hi=>by
   rw [yG (by rw [wL,hv]; lia)];unfold Dz; rw [xQ,wL,hv]
 have hd:∀ i,¬ i < sl.length->(sl++Ck δ cap)[i]? = (cap[i - sl.length]?).map fun j=>δ[j]?.getD .un:=fun i hi=>by
   rw [yG (by lia)]; unfold Ck; rw [xQ]
 refine ⟨S.sub,by simp [hv,Dz,Ck],fun i s e=>?_,fun i j a d d' ei ej hi hj=>?_⟩
 . by_cases hi:i < sl.length
   . rw [yD hi] at e
     rw [hlt i hi]; have:=(h i s e).1;cases q:vs[i]? with
     | none=>rw [q] at this; exact this
     | some v=>rw [q] at this; exact this
   . rw [hd i hi] at e
     rw [hge i hi];cases q:cap[i - sl.length]? with
     | none=>rw [q] at e; cases e
     | some j =>
       rw [q] at e; simp only [BQ,HH] at e; subst e; show SlOk G H (some (Z[j]?.join)).join _;cases q2:δ[j]? with
       | none=>trivial
       | some s=>exact S.sl j s q2
 . have key : ∀ i d, (sl ++ Ck δ cap)[i]? = some (.ow d) -> ¬ i < sl.length /\ ∃ j, cap[i - sl.length]? = some j /\ δ[j]? = some (.ow d) := fun i d e => by
     have hi:¬ i < sl.length:=fun hi=>by
       rw [yD hi] at e; obtain ⟨_,d',z⟩:=h i _ e; cases z
     refine ⟨hi,?_⟩; rw [hd i hi] at e;cases q:cap[i - sl.length]? with
     | none=>rw [q] at e; cases e
     | some j =>
       rw [q] at e; simp only [BQ,HH] at e; refine ⟨j,rfl,?_⟩;cases q2:δ[j]? with
       | none=>rw [q2] at e; cases e
       | some s=>rw [q2] at e; cases e; rfl
   obtain ⟨n1,j1,c1,o1⟩:=key i d ei; obtain ⟨n2,j2,c2,o2⟩:=key j d' ej; rw [hge i n1,c1] at hi; rw [hge j n2,c2] at hj; have hi':Z[j1]?.join=some (.ref a):=hi; have hj':Z[j2]?.join=some (.ref a):=hj; have:=S.ap j1 j2 a d d' o1 o2 hi' hj'; subst this; have:=(List.getElem?_inj (xM.mp c1).1 hnd).mp (c1.trans c2.symm);lia
theorem kU (xs:List Str):xs.map (fun _=>(none:Option V))=xI xs.length none:=by
 induction xs with
 | nil=>rfl
 | cons a t ih=>rw [wQ,ih]; rfl
theorem Hn {xs:List Str} {cap:List Nat} {g:TG} {m:Nat} {bnd:wF->Res (List Sl)} {tt:Dn->Res Bool} {el:Dn->Res wF} (hx:xs.length=m) (hnd:cap.Nodup) (hg:GOk g m bnd) {Z:St} {H:Hp} {Q:VK} (h:tF E (E2 src bnd cap tt el) Z H Q) :
   bT (tI E src) (fun Z=>xs.map (fun _=>none)++Dz Z cap) g (tT E0k tt) (tD E0k el) Z H Q:=by
 obtain ⟨G,δ,S,aft⟩:=h;refine ⟨G,δ,S,?_⟩;unfold E2 at aft;cases e:src δ with
 | exc c=>rw [e] at aft; exact aft
 | no=>rw [e] at aft; exact aft
 | ok ds =>
   rw [e] at aft; intro J G1 H1 g1 W D hD; have aft1:mU E G H (if ds.length<=sizeLine then D1 bnd (Ck δ cap) tt el ds else .no) Q:=aft;by_cases hz:ds.length<=sizeLine
   . rw [if_pos hz] at aft1
     have S1:=S.grow g1; have hmap:xs.map (fun _=>(none:Option V))=xI m none:=by rw [<- hx]; exact kU xs
     refine ⟨fun i n H'=>n=ds.length - i/\i<=ds.length/\∃ G' acc yd,Grow G1 H1 G' H'/\G' D=none/\H' D=some (.lst acc)/\RepL G' yd acc/\yd.length<=i /\
       mU E G H (match D1 bnd (Ck δ cap) tt el (ds.drop i) with | .ok r=>.ok (yd++r) | _=>.no) Q,⟨_,rfl,zI _,G1,[],[],Grow.own g1.gh hD,g1.gh.free hD,C0,rfl,wO _,?_⟩,?_⟩
     . rw [CB]
       cases q:D1 bnd (Ck δ cap) tt el ds with
       | ok r=>rw [q] at aft1; exact aft1
       | exc c =>
         exfalso;have:∀ l c,D1 bnd (Ck δ cap) tt el l≠.exc c:=by
           intro l c;induction l with
           | nil=>intro z; cases z
           | cons d l ih =>
             unfold D1; intro z;split at z
             . split at z
               . split at z
                 . split at z <;> cases z
                 . cases z
               . exact ih z
               . cases z
             . cases z
         exact this ds c q
       | no=>rw [q] at aft1; exact aft1
     . rintro i n H' ⟨rfl,hi,G',acc,yd,g2,nD,hDa,ry,hyl,aft2⟩
       by_cases hlt:i < ds.length
       . refine .inr ⟨W.go i H' hlt (g2.g.trans g2.gh), fun H'' => ∃ n', n' < ds.length - i /\ (n' = ds.length - (i + 1) /\ i + 1 <= ds.length /\ ∃ G' acc yd, Grow G1 H1 G' H'' /\ G' D = none /\ H'' D = some (.lst acc) /\ RepL G' yd acc /\ yd.length <= i + 1 /\
           mU E G H (match D1 bnd (Ck δ cap) tt el (ds.drop (i+1)) with | .ok r=>.ok (yd++r) | _=>.no) Q),fun H'' q=>?_,fun x H'' hy=>?_⟩
         . obtain ⟨n',h1,h2⟩:=q
           exact ⟨n',h1,h2⟩
         . have hd:ds[i]? = some ds[i]:=yA hlt
           have hdrop:ds.drop i=ds[i]::ds.drop (i+1):=zJ hlt; obtain ⟨G3,g3,r3⟩:=W.yld i _ G' H' x H'' hd g2.g g2.gh hy; have g13:=g2.trans g3; have nD3:G3 D=none:=by
             cases q:G3 D with
             | none=>rfl
             | some u => rcases g3.fr D u q with z | z | ⟨xs, rfl⟩
                         . rw [nD] at z; cases z
                         . rw [hDa] at z; cases z
                         . have:=g3.gh _ _ q; rw [g3.h _ _ hDa] at this; cases this
           rw [hdrop] at aft2; unfold D1 at aft2; rw [hmap];cases eb:bnd ds[i] with
           | exc c=>rw [eb] at aft2; exact aft2.elim
           | no=>rw [eb] at aft2; exact aft2.elim
           | ok sl =>
             rw [eb] at aft2; refine hg G3 H'' _ x sl _ _ g3.gh r3 eb fun vs hv hs hsl=>⟨⟨by rw [xG,xG,u8,wL,hv],fun j v z=>?_⟩,?_⟩
             . by_cases hj:j < m
               . rw [yD (by rw [u8]; exact hj),j9] at z
                 split at z <;> cases z
               . rw [yG (by rw [u8]; exact zP.mp hj),u8] at z
                 rw [yG (by rw [wL,hv]; exact zP.mp hj),wL,hv];exact z
             . have Sb:SR G3 H'' (vs.map some++Dz Z cap) (sl++Ck δ cap):=(S1.grow g13).cap cap hnd (hv.trans hs.symm) hsl
               refine ⟨G3,_,Sb,?_⟩; simp only at aft2;cases et:tt (sl++Ck δ cap) with
               | exc c=>rw [et] at aft2; exact aft2.elim
               | no=>rw [et] at aft2; exact aft2.elim
               | ok kk =>
                 rw [et] at aft2; intro G4 H4 g4; have nD4:G4 D=none:=by
                   cases q:G4 D with
                   | none=>rfl
                   | some u => rcases g4.fr D u q with z | z | ⟨xs, rfl⟩
                               . rw [nD3] at z; cases z
                               . rw [g3.h _ _ hDa] at z; cases z
                               . have:=g4.gh _ _ q; rw [g4.h _ _ (g3.h _ _ hDa)] at this; cases this
                 have hD4:H4 D=some (.lst acc):=g4.h _ _ (g3.h _ _ hDa);cases kk with
                 | false =>
                   rw [if_neg (by decide)]; exact ⟨_,by lia,rfl,hlt,G4,acc,yd,g13.trans g4,nD4,hD4,ry.mono (g3.g.trans g4.g),by lia,aft2⟩
                 | true =>
                   rw [if_pos rfl]; refine ⟨G4,_,Sb.grow g4,?_⟩; simp only at aft2;cases ee:el (sl++Ck δ cap) with
                   | exc c=>rw [ee] at aft2; exact aft2.elim
                   | no=>rw [ee] at aft2; exact aft2.elim
                   | ok y =>
                     rw [ee] at aft2; intro v G5 H5 g5 r5; have nD5:G5 D=none:=by
                       cases q:G5 D with
                       | none=>rfl
                       | some u => rcases g5.fr D u q with z | z | ⟨xs, rfl⟩
                                   . rw [nD4] at z; cases z
                                   . rw [hD4] at z; cases z
                                   . have:=g5.gh _ _ q; rw [g5.h _ _ hD4] at this; cases this
                     have hD5:H5 D=some (.lst acc):=g5.h _ _ hD4; have hal:acc.length<=i:=by rw [<- ry.length]; exact hyl
                     refine ⟨acc,hD5,by lia,_,by lia,rfl,hlt,G5,acc++[v],yd++[y],?_,nD5,C0,?_,by rw [xG,IM]; lia,?_⟩
                     . have g15:=(g13.trans g4).trans g5
                       refine ⟨g15.g,fun b o q=>?_,fun b o q=>?_,g15.fr⟩
                       . rw [C3 (E6 q hD)]; exact g15.h _ _ q
                       . rw [C3 (E6 q nD5)]; exact g15.gh _ _ q
                     . exact (ry.mono (g3.g.trans (g4.g.trans g5.g))).append (RepL.cons r5 rfl)
                     . simp only at aft2
                       cases er:D1 bnd (Ck δ cap) tt el (ds.drop (i+1)) with
                       | ok r =>
                         rw [er] at aft2; simp only [yO,List.singleton_append]; exact aft2
                       | exc c=>rw [er] at aft2; exact aft2
                       | no=>rw [er] at aft2; exact aft2
       . refine .inl ⟨W.stop i H' (zP.mp hlt) (g2.g.trans g2.gh),?_⟩
         have:ds.drop i=[]:=AW (zP.mp hlt); rw [this] at aft2; unfold D1 at aft2; have aft3:mU E G H (.ok (yd++[])) Q:=aft2; rw [yL] at aft3; exact aft3 D acc G' H' (g1.trans g2) (g1.h.free hD) nD hDa ry
   . rw [if_neg hz] at aft1; exact aft1.elim
end
end Sm
end
noncomputable section
namespace Sm
open PySem PySem.Spec PyProof.Rows L2
noncomputable def Dl (cells:List (Str×wR)):List (Str×CV)->List (Str×wR)->List (Str×wR)
 | [],cs=>cs
 | (n,kd)::r,cs=>if kd==.free then Dl cells r ((n,(cells.lookup n).getD 0)::cs) else Dl cells r cs
theorem Za {env:Env}:∀ (names:List (Str×CV)) (cs:List (Str×wR)),(∀ y∈names,y.2=.free->∃ c,env.cells.lookup y.1=some c) ->
   (forIn names cs fun (x:Str×CV) (r:List (Str×wR))=>if (x.2==p4)=true then do let c <- cellOf env x.1; pure (l8 ((x.1,c)::r)) else pure (l8 r))=(pure (Dl env.cells names cs):Sem (List (Str×wR)))
 | [],cs,_=>rfl
 | (n,kd)::r,cs,h=>by
   rw [GC]; have ih:=fun cs=>Za r cs fun y hy=>h y (zH _ hy);unfold Dl;by_cases hk:(kd==p4)=true
   . obtain ⟨c,hc⟩:=h (n,kd) yZ (i7 hk)
     have hc':cellOf env n=pure c:=by unfold cellOf; rw [show env.cells.lookup n=some c from hc]
     simp only [hk,if_true,hc',pure_bind]; rw [show env.cells.lookup n=some c from hc]; exact ih _
   . simp only [hk,if_false,pure_bind]
     exact ih _
theorem Gy {cells:List (Str×wR)}:∀ {names:List (Str×CV)} {cs:List (Str×wR)} {y:Str×wR},y∈Dl cells names cs->y∈cs\/((y.1,p4)∈names/\y.2=(cells.lookup y.1).getD 0)
 | [],cs,y,h=>.inl h
 | (n,kd)::r,cs,y,h=>by
   unfold Dl at h;by_cases hk:(kd==p4)=true
   . rw [if_pos hk] at h
     have hk':=i7 hk; subst hk'; rcases Gy h with z | ⟨z1,z2⟩
     . rcases wK.mp z with rfl | z
       . exact .inr ⟨yZ,rfl⟩
       . exact .inl z
     . exact .inr ⟨zH _ z1,z2⟩
   . rw [if_neg hk] at h
     rcases Gy h with z | ⟨z1,z2⟩
     . exact .inl z
     . exact .inr ⟨zH _ z1,z2⟩
theorem Ha {cells:List (Str×wR)} {x:Str}:∀ {names:List (Str×CV)} {cs:List (Str×wR)},((x,p4)∈names\/∃ c,(x,c)∈cs)->∃ c,(x,c)∈Dl cells names cs
 | [],cs,h=>by
   rcases h with h | h
   . cases h
   . exact h
 | (n,kd)::r,cs,h=>by
   unfold Dl;by_cases hk:(kd==p4)=true
   . rw [if_pos hk]
     refine Ha ?_; rcases h with h | ⟨c,h⟩
     . rcases wK.mp h with q | q
       . cases q; exact .inr ⟨_,yZ⟩
       . exact .inl q
     . exact .inr ⟨c,zH _ h⟩
   . rw [if_neg hk]
     refine Ha ?_; rcases h with h | ⟨c,h⟩
     . rcases wK.mp h with q | q
       . cases q; exact absurd rfl hk
       . exact .inl q
     . exact .inr ⟨c,h⟩
theorem Dw {α:Type} {x:Str} {c:α} {l:List (Str×α)} (h:l.lookup x=some c):(x,c)∈l:=n4 h
theorem Fy {α:Type} {x:Str}:∀ {l:List (Str×α)} {c:α},(x,c)∈l->∃ c',l.lookup x=some c'
 | [],_,h=>by cases h
 | (n,d)::r,c,h=>by
   rw [List.lookup_cons];cases q:x==n with
   | true=>exact ⟨d,rfl⟩
   | false =>
     rcases wK.mp h with z | z
     . cases z; simp at q
     . exact Fy z
theorem qU {X:Cx} (ok:X.Ok) {scope:Scope} (hnc:∀ y∈scope.names,y.2≠.cell) (hfree:∀ y∈scope.names,y.2=.free->X.env.scope.names.lookup y.1=some .cell\/X.env.scope.names.lookup y.1=some .free):∃ cl,Clos X scope cl:=by
 have hc:∀ y∈scope.names,y.2=.free->∃ c,X.env.cells.lookup y.1=some c:=fun y hy hf=>ok.has y.1 (hfree y hy hf);refine ⟨Dl X.env.cells scope.names [],⟨?_,fun x c h=>?_,fun x h=>?_⟩⟩
 . have:=Za (env:=X.env) scope.names [] hc
   unfold closureFor; simp only;rw [this]; rfl
 . rcases Gy (Dw h) with z | ⟨z1,z2⟩
   . cases z
   . obtain ⟨c',e⟩:=hc _ z1 rfl
     have e':X.env.cells.lookup x=some c':=e; have z2':c=(X.env.cells.lookup x).getD 0:=z2; rw [e'] at z2' ⊢;rw [z2']; rfl
 . have hm : (x, p4) ∈ scope.names := by
     have key:∀ kd,(k8 scope X.env).names.lookup x=some kd->(kd=.cell\/kd=.free)->(x,p4)∈scope.names:=fun kd hl hkd=>by
       have hm:=Dw hl; unfold k8 at hm; simp only [xF] at hm; obtain ⟨⟨n,k0⟩,hy,e⟩:=hm; simp only at e;split at e
       . rename_i hc'
         cases e; have:k0=.free:=by
           rw [xC,xC] at hc'; exact i7 hc'.1.1
         subst this; exact hy
       . cases e
         rcases hkd with rfl | rfl
         . exact absurd rfl (hnc _ hy)
         . exact hy
     rcases h with h | h
     . exact key _ h (.inl rfl)
     . exact key _ h (.inr rfl)
   obtain ⟨c,hc'⟩:=Ha (cells:=X.env.cells) (names:=scope.names) (cs:=[]) (x:=x) (.inl hm); exact Fy hc'
noncomputable def okComp (N:List Str) (sc scope:Scope) (xs capN:List Str) (cap:List Nat):Bool :=
 decide (scope.kind=.function)&&scope.names.all (fun y=>decide (y.2≠.cell))&&scope.names.all (fun y=>decide (y.2=.local->scope.names.lookup y.1=some .local)) &&
 scope.names.all (fun y=>decide (y.2=.free->sc.names.lookup y.1=some .cell\/sc.names.lookup y.1=some .free))&&decide (cap.map (fun j=>N[j]?)=capN.map some) &&
 capN.all (fun x=>decide ((Dy scope sc).names.lookup x=some .cell\/(Dy scope sc).names.lookup x=some .free))&&capN.all (fun x=>decide (sc.names.lookup x=some .cell\/sc.names.lookup x=some .free)) &&
 decide ((xs++capN).Nodup)&&xs.all (fun x=>decide ((Dy scope sc).names.lookup x=some .local))&&decide (cap.Nodup)
noncomputable section
variable {P:xN} {w:xT} {K:wM} {mg:Str->Option wI} {base:yQ} {X:Cx} {N:List Str} {sc:Scope} {k:Nat} {df:Bool} {E:EK} {pos px py tp:Pos} {a c elt iter:Expr} {ifs:List Expr} {f g el:Dn->Res wF} {src:Dn->Res (List wF)} {tt:Dn->Res Bool} {scope:Scope} {capN:List Str} {cap:List Nat}
structure CompOk (N:List Str) (sc scope:Scope) (xs capN:List Str) (cap:List Nat):Prop where
 h1:scope.kind=.function
 h2:∀ y∈scope.names,y.2≠.cell
 h3:∀ y∈scope.names,y.2=.local->scope.names.lookup y.1=some .local
 h4:∀ y∈scope.names,y.2=.free->sc.names.lookup y.1=some .cell\/sc.names.lookup y.1=some .free
 h5:cap.map (fun j=>N[j]?)=capN.map some
 h6:∀ x∈capN,(Dy scope sc).names.lookup x=some .cell\/(Dy scope sc).names.lookup x=some .free
 h7:∀ x∈capN,sc.names.lookup x=some .cell\/sc.names.lookup x=some .free
 h8:(xs++capN).Nodup
 h9:∀ x∈xs,(Dy scope sc).names.lookup x=some .local
 h10:cap.Nodup
theorem okComp.ok {xs:List Str} (h:okComp N sc scope xs capN cap=true):CompOk N sc scope xs capN cap:=by
 unfold okComp at h;simp only [xC,l7,decide_eq_true_eq] at h;obtain ⟨⟨⟨⟨⟨⟨⟨⟨⟨h1,h2⟩,h3⟩,h4⟩,h5⟩,h6⟩,h7⟩,h8⟩,h9⟩,h10⟩:=h;exact ⟨h1,h2,h3,h4,h5,h6,h7,h8,h9,h10⟩
theorem Bd {xs:List Str} (C:Cxt P w K mg base X N sc k df) (h:CompOk N sc scope xs capN cap) (ok:X.Ok):CompFacts X scope xs capN cap:=by
 refine ⟨h.h1,h.h2,h.h3,qU ok h.h2 fun y hy hf=>?_,by rw [C.hN]; exact h.h5,fun x hx=>?_,fun x hx=>?_⟩
 . rw [C.hs]; exact h.h4 y hy hf
 . rw [cC C.hs]; exact h.h6 x hx
 . rw [C.hs]; exact h.h7 x hx
abbrev DTs (X:Cx) (E:EK) (ifs:List Expr) (f:Dn->Res Bool):Prop:=PTs X ifs (tT E f)
noncomputable def L6:Dn->Res Bool:=fun _=>.ok true
theorem X5:DTs X E [] L6:=fun pins s Z H Q I hZ6=>by obtain ⟨G,δ,S,a⟩:=hZ6; exact oE pins s Z H Q I (a G H (Grow.refl S.sub))
theorem T0 (h:DT X E c tt):DTs X E [c] tt:=oD h
theorem N8 {x:Str} (C:Cxt P w K mg base X N sc k df) (cap:List Nat) (capN:List Str) (ho:okComp N sc scope [x] capN cap=true) (hi:DI X E (.Name x px) iter src)
   (ht:∀ X',Cxt P w K mg base X' ([x]++capN) (Dy scope sc) k false->DTs X' E0k ifs tt) (he:∀ X',Cxt P w K mg base X' ([x]++capN) (Dy scope sc) k false->DE X' E0k elt el)
   (hs:∀ x,zA iter X.env x=pure x:=by intro _; rfl):DF X E (.ListComp elt [⟨.Name x px,iter,ifs,0⟩] scope pos) (E2 src E4 cap tt el):=by
 have o:=okComp.ok ho;refine PE.imp (cJ (g:=U0 0) C.calm (Bd C o) hi (fun X' B=>?_) (fun X' B=>ht X' (C.blk B)) (fun X' B=>he X' (C.blk B)) hs) fun Z H Q h=>Hn (m:=1) rfl o.h10 vF h;have C':=C.blk B;have hl:X'.env.scope.names.lookup x=some .local:=by rw [C'.hs]; exact o.h9 x (by simp)
 exact U5 (by rw [C'.hN]; exact o.h8) (by rw [C'.hN]; rfl) (.inl hl) (.inr hl)
theorem Ls {x y:Str} {x1:Nat} (C:Cxt P w K mg base X N sc k df) (cap:List Nat) (capN:List Str) (ho:okComp N sc scope [x,y] capN cap=true) (hi:DI X E (.Tuple [.Name x px,.Name y py] x1 tp) iter src)
   (ht:∀ X',Cxt P w K mg base X' ([x,y]++capN) (Dy scope sc) k false->DTs X' E0k ifs tt) (he:∀ X',Cxt P w K mg base X' ([x,y]++capN) (Dy scope sc) k false->DE X' E0k elt el)
   (hs:∀ x,zA iter X.env x=pure x:=by intro _; rfl):DF X E (.ListComp elt [⟨.Tuple [.Name x px,.Name y py] x1 tp,iter,ifs,0⟩] scope pos) (E2 src O5 cap tt el):=by
 have o:=okComp.ok ho;refine PE.imp (cJ (g:=lN K 2 (Im (U0 0) (Im (U0 1) lO))) C.calm (Bd C o) hi (fun X' B=>?_) (fun X' B=>ht X' (C.blk B)) (fun X' B=>he X' (C.blk B)) hs) fun Z H Q h=>Hn (m:=2) rfl o.h10 gok2 h;have C':=C.blk B;have hl:X'.env.scope.names.lookup x=some .local:=by rw [C'.hs]; exact o.h9 x (by simp)
 have hl2:X'.env.scope.names.lookup y=some .local:=by rw [C'.hs]; exact o.h9 y (by simp)
 have nd:X'.N.Nodup:=by rw [C'.hN]; exact o.h8
 have p1:PG X' (.Name x px) (U0 0):=U5 nd (by rw [C'.hN]; rfl) (.inl hl) (.inr hl);have p2:PG X' (.Name y py) (U0 1):=U5 nd (by rw [C'.hN]; rfl) (.inl hl2) (.inr hl2);have:=aI (n:=2) (k:=x1) (pos:=tp) C'.calm (Cp p1 (Cp p2 Ub));rw [C'.hK] at this;exact this
end
end Sm
end
noncomputable section
namespace Sm
open PySem PySem.Spec PyProof.Rows L2
inductive Out where
 | nx (δ:Dn)
 | rt (d:wF)
 | bk (δ:Dn)
 | ct (δ:Dn)
 | exc (c:Str)
 | no
structure SSt (G0 H0 G H:Hp) (Z:St) (δ:Dn):Prop where
 gr:Grow G0 H0 G H
 sr:SR G H Z δ
 fr:∀ (i:Nat) (d:wF) (a:wR),δ[i]? = some (.ow d)->Z[i]?.join=some (.ref a)->H0 a=none
theorem SSt.grow {G0 H0 G H G' H':Hp} {Z:St} {δ:Dn} (S:SSt G0 H0 G H Z δ) (g:Grow G H G' H'):SSt G0 H0 G' H' Z δ:=⟨S.gr.trans g,S.sr.grow g,S.fr⟩
def Kg (E:EK) (G0 H0:Hp) (o:Out) (D:Ends):Prop:=match o with
 | .nx δ=>∀ Z G H,SSt G0 H0 G H Z δ->D.nx Z H
 | .rt d=>∀ v G H,Grow G0 H0 G H->Rep G d v->D.rt v H
 | .bk δ=>∀ Z G H,SSt G0 H0 G H Z δ->D.bk Z H
 | .ct δ=>∀ Z G H,SSt G0 H0 G H Z δ->D.ct Z H
 | .exc c=>∀ G H,Grow G0 H0 G H->E c H
 | .no=>False
def tS (E:EK) (G0 H0:Hp) (g:Dn->Out):TS:=fun D Z H=>∃ G δ,SSt G0 H0 G H Z δ/\Kg E G0 H0 (g δ) D
def DS (X:Cx) (E:EK) (st:n8) (g:Dn->Out):Prop:=∀ G0 H0,PS X st (tS E G0 H0 g)
def DSs (X:Cx) (E:EK) (st:List n8) (g:Dn->Out):Prop:=∀ G0 H0,PSs X st (tS E G0 H0 g)
theorem PS.imp {X:Cx} {st:n8} {t t':TS} (h:PS X st t) (i:∀ D Z H,t' D Z H->t D Z H):PS X st t':=fun pins s Z H D I q=>h pins s Z H D I (i _ _ _ q)
theorem PSs.imp {X:Cx} {st:List n8} {t t':TS} (h:PSs X st t) (i:∀ D Z H,t' D Z H->t D Z H):PSs X st t':=fun pins s Z H D I q=>h pins s Z H D I (i _ _ _ q)
noncomputable def M5 {α:Type} (r:Res α) (k:α->Out):Out:=match r with
 | .ok a=>k a
 | .exc c=>.exc c
 | .no=>.no
theorem Hg {E:EK} {G0 H0 G H:Hp} {Z:St} {δ:Dn} {f:Dn->Res wF} {k:wF->Out} {D:Ends} {R:VK} (S:SSt G0 H0 G H Z δ) (a:Kg E G0 H0 (M5 (f δ) k) D)
   (h:∀ d v G1 H1,Grow G H G1 H1->Rep G1 d v->SSt G0 H0 G1 H1 Z δ->Kg E G0 H0 (k d) D->R v H1):tD E f Z H R:=by
 refine ⟨G,δ,S.sr,?_⟩;cases e:f δ with
 | ok d=>rw [e] at a; exact fun v G' H' g r=>h d v G' H' g r (S.grow g) a
 | exc c=>rw [e] at a; exact fun G' H' g=>a G' H' (S.gr.trans g)
 | no=>rw [e] at a; exact a
theorem bQ {E:EK} {G0 H0 G H:Hp} {Z:St} {δ:Dn} {f:Dn->Res (List wF)} {k:List wF->Out} {D:Ends} {R:VK} (S:SSt G0 H0 G H Z δ) (a:Kg E G0 H0 (M5 (f δ) k) D)
   (h:∀ ds p xs G1 H1,Grow G H G1 H1->H p=none->G1 p=none->H1 p=some (.lst xs)->RepL G1 ds xs->SSt G0 H0 G1 H1 Z δ->Kg E G0 H0 (k ds) D->R (.ref p) H1):tF E f Z H R:=by
 refine ⟨G,δ,S.sr,?_⟩;cases e:f δ with
 | ok d=>rw [e] at a; exact fun p xs G' H' g q1 q2 q3 q4=>h d p xs G' H' g q1 q2 q3 q4 (S.grow g) a
 | exc c=>rw [e] at a; exact fun G' H' g=>a G' H' (S.gr.trans g)
 | no=>rw [e] at a; exact a
theorem mP {E:EK} {G0 H0 G H:Hp} {Z:St} {δ:Dn} {f:Dn->Res Bool} {k:Bool->Out} {D:Ends} {R:Bool->Hp->Prop} (S:SSt G0 H0 G H Z δ) (a:Kg E G0 H0 (M5 (f δ) k) D)
   (h:∀ d G1 H1,Grow G H G1 H1->SSt G0 H0 G1 H1 Z δ->Kg E G0 H0 (k d) D->R d H1):tT E f Z H R:=by
 refine ⟨G,δ,S.sr,?_⟩;cases e:f δ with
 | ok d=>rw [e] at a; exact fun G' H' g=>h d G' H' g (S.grow g) a
 | exc c=>rw [e] at a; exact fun G' H' g=>a G' H' (S.gr.trans g)
 | no=>rw [e] at a; exact a
theorem mQ {E:EK} {G0 H0 G H:Hp} {Z:St} {δ:Dn} {f:Dn->Res (List wF)} {k:List wF->Out} {D:Ends} {R:It->Hp->Prop} (S:SSt G0 H0 G H Z δ) (a:Kg E G0 H0 (M5 (f δ) k) D)
   (h:∀ ds J G1 H1,Grow G H G1 H1->Walk J G1 ds->SSt G0 H0 G1 H1 Z δ->Kg E G0 H0 (k ds) D->R J H1):tI E f Z H R:=by
 refine ⟨G,δ,S.sr,?_⟩;cases e:f δ with
 | ok d=>rw [e] at a; exact fun J G' H' g q=>h d J G' H' g q (S.grow g) a
 | exc c=>rw [e] at a; exact fun G' H' g=>a G' H' (S.gr.trans g)
 | no=>rw [e] at a; exact a
theorem D9 {α:Type} {l:List α} {i j:Nat} {v:α}:(l.set i v)[j]? = if i=j/\i < l.length then some v else l[j]? := by
 rw [List.getElem?_set];by_cases h:i=j
 . subst h
   by_cases hl:i < l.length
   . simp [hl]
   . simp [hl,i9 (zP.mp hl)]
 . simp [h]
theorem SSt.set_sh {G0 H0 G H:Hp} {Z:St} {δ:Dn} (S:SSt G0 H0 G H Z δ) {i:Nat} {v:V} {d:wF} (r:Rep G d v):SSt G0 H0 G H (Z.set i (some v)) (δ.set i (.sh d)):=by
 have hl:=S.sr.len;have key:∀ (j:Nat) (d':wF),(δ.set i (.sh d))[j]? = some (.ow d')->(Z.set i (some v))[j]? = Z[j]? /\ δ[j]? = some (.ow d'):=fun j d' e=>by
   rw [D9] at e;split at e
   . cases e
   . rename_i hn
     refine ⟨?_,e⟩; rw [D9,if_neg (by rw [hl]; exact hn)]
 refine ⟨S.gr,⟨S.sr.sub,by simp [hl],fun j s e=>?_,fun j1 j2 a d1 d2 e1 e2 h1 h2=>?_⟩,fun j d' a e h=>?_⟩
 . rw [D9] at e ⊢
   rw [hl];split at e
   . rename_i hc; cases e; rw [if_pos hc]; exact ⟨v,rfl,r⟩
   . rename_i hc; rw [if_neg hc]; exact S.sr.sl j s e
 . obtain ⟨k1,o1⟩:=key j1 d1 e1
   obtain ⟨k2,o2⟩:=key j2 d2 e2; rw [k1] at h1; rw [k2] at h2; exact S.sr.ap j1 j2 a d1 d2 o1 o2 h1 h2
 . obtain ⟨k1,o1⟩:=key j d' e
   rw [k1] at h; exact S.fr j d' a o1 h
theorem SSt.set_ow {G0 H0 G H:Hp} {Z:St} {δ:Dn} (S:SSt G0 H0 G H Z δ) {i:Nat} {p:wR} {d:wF} (h0:H0 p=none) (hg:G p=none) (ho:OwnOk G H p d) (hf:∀ (j:Nat) d',δ[j]? = some (.ow d')->Z[j]?.join≠some (.ref p)):SSt G0 H0 G H (Z.set i (some (.ref p))) (δ.set i (.ow d)):=by
 have hl:=S.sr.len;have key:∀ (j:Nat) (d':wF),(δ.set i (.ow d))[j]? = some (.ow d')->(i=j/\i < δ.length/\d'=d/\(Z.set i (some (.ref p)))[j]? = some (some (.ref p)))\/((Z.set i (some (.ref p)))[j]? = Z[j]? /\ δ[j]? = some (.ow d')):=fun j d' e=>by
   rw [D9] at e;split at e
   . rename_i hc; cases e; exact .inl ⟨hc.1,hc.2,rfl,by rw [D9,if_pos (by rw [hl]; exact hc)]⟩
   . rename_i hn
     refine .inr ⟨?_,e⟩; rw [D9,if_neg (by rw [hl]; exact hn)]
 refine ⟨S.gr,⟨S.sr.sub,by simp [hl],fun j s e=>?_,fun j1 j2 a d1 d2 e1 e2 h1 h2=>?_⟩,fun j d' a e h=>?_⟩
 . rw [D9] at e ⊢
   rw [hl];split at e
   . rename_i hc; cases e; rw [if_pos hc]; exact ⟨p,rfl,hg,ho⟩
   . rename_i hc; rw [if_neg hc]; exact S.sr.sl j s e
 . rcases key j1 d1 e1 with ⟨a1,b1,_,c1⟩ | ⟨k1,o1⟩
   . rcases key j2 d2 e2 with ⟨a2,b2,_,c2⟩ | ⟨k2,o2⟩
     . exact a1.symm.trans a2
     . rw [c1] at h1; cases h1
       rw [k2] at h2; exact absurd h2 (hf j2 d2 o2)
   . rcases key j2 d2 e2 with ⟨a2,b2,_,c2⟩ | ⟨k2,o2⟩
     . rw [c2] at h2; cases h2
       rw [k1] at h1; exact absurd h1 (hf j1 d1 o1)
     . rw [k1] at h1; rw [k2] at h2
       exact S.sr.ap j1 j2 a d1 d2 o1 o2 h1 h2
 . rcases key j d' e with ⟨a1,b1,_,c1⟩ | ⟨k1,o1⟩
   . rw [c1] at h; cases h; exact h0
   . rw [k1] at h; exact S.fr j d' a o1 h
theorem SSt.write {G0 H0 G H:Hp} {Z:St} {δ:Dn} (S:SSt G0 H0 G H Z δ) {i:Nat} {p:wR} {d d':wF} {o:HO} (hi:δ[i]? = some (.ow d)) (hp:Z[i]?.join=some (.ref p)) (hg:G p=none) (ho:OwnOk G (upd H p o) p d'):SSt G0 H0 G (upd H p o) Z (δ.set i (.ow d')):=by
 have h0:=S.fr i d p hi hp;have hil:i < δ.length:=(xM.mp hi).1;have hsub:Same G (upd H p o):=fun b u e=>by rw [C3 (E6 e hg)]; exact S.sr.sub _ _ e
 have key:∀ (j:Nat) (e:wF),(δ.set i (.ow d'))[j]? = some (.ow e)->∃ e',δ[j]? = some (.ow e'):=fun j e h=>by
   rw [D9] at h;split at h
   . rename_i hc; rw [<- hc.1]; exact ⟨d,hi⟩
   . exact ⟨e,h⟩
 refine ⟨⟨S.gr.g,fun b u e=>by rw [C3 (E6 e h0)]; exact S.gr.h _ _ e,hsub,S.gr.fr⟩,⟨hsub,by simp [S.sr.len],fun j s e=>?_,fun j1 j2 a d1 d2 e1 e2 h1 h2=>?_⟩,fun j e a h1 h2=>?_⟩
 . rw [D9] at e
   split at e
   . rename_i hc; cases e; rw [<- hc.1]; exact ⟨p,hp,hg,ho⟩
   . rename_i hc
     have hs:=S.sr.sl j s e;cases s with
     | un=>trivial
     | sh d=>exact hs
     | fd _=>exact hs
     | ow d2 =>
       obtain ⟨a,e1,n1,ok⟩:=hs; refine ⟨a,e1,n1,?_⟩; have hne:a≠p:=by
         rintro rfl;exact hc ⟨S.sr.ap i j a d d2 hi e hp e1,hil⟩
       cases d2 with
       | list ds=>obtain ⟨xs,q,r⟩:=ok; exact ⟨xs,by rw [C3 hne]; exact q,r⟩
       | dict kvs=>obtain ⟨xs,q,r⟩:=ok; exact ⟨xs,by rw [C3 hne]; exact q,r⟩
       | tuple xs=>exact OwnK.keep (Same.refl _) (fun o q=>by rw [C3 hne]; exact q) ok
       | _=>exact (show False from ok).elim
 . obtain ⟨e1',o1⟩:=key j1 d1 e1
   obtain ⟨e2',o2⟩:=key j2 d2 e2; exact S.sr.ap j1 j2 a _ _ o1 o2 h1 h2
 . obtain ⟨e',o1⟩:=key j e h1
   exact S.fr j e' a o1 h2
noncomputable def fz (i:Nat) (δ:Dn):Dn:=match δ[i]? with
 | some (.ow (.list ds))=>δ.set i (.sh (.list ds))
 | _=>δ
theorem SSt.fz {G0 H0 G H:Hp} {Z:St} {δ:Dn} (S:SSt G0 H0 G H Z δ) (i:Nat):∃ G',SSt G0 H0 G' H Z (fz i δ):=by
 unfold Sm.fz;split
 . rename_i ds hi
   obtain ⟨p,hp,hg,xs,hx,r⟩:=S.sr.sl i _ hi; have h0:=S.fr i _ p hi hp; have g:Grow G0 H0 (upd G p (.lst xs)) H:=S.gr.share h0 hg hx; have hv:Z[i]? = some (some (.ref p)):=by
     cases q:Z[i]? with
     | none=>rw [q] at hp; cases hp
     | some z=>rw [q] at hp; cases z with
       | none=>cases hp
       | some z=>cases hp; rfl
   have key:∀ (j:Nat) (d':wF),(δ.set i (.sh (.list ds)))[j]? = some (.ow d')->δ[j]? = some (.ow d')/\j≠i:=fun j d' e=>by
     rw [D9] at e;split at e
     . cases e
     . rename_i hn
       refine ⟨e,fun z=>?_⟩;subst z; exact hn ⟨rfl,(xM.mp hi).1⟩
   refine ⟨_,g,⟨g.gh,by simp [S.sr.len],fun j s e=>?_,fun j1 j2 a d1 d2 e1 e2 h1 h2=>S.sr.ap j1 j2 a d1 d2 (key j1 d1 e1).1 (key j2 d2 e2).1 h1 h2⟩,fun j d' a e h=>S.fr j d' a (key j d' e).1 h⟩;have sm:Same G (upd G p (.lst xs)):=Same.upd hg;by_cases hj:i=j/\i < δ.length
   . rw [D9,if_pos hj] at e
     cases e; rw [<- hj.1,hv]; exact ⟨_,rfl,p,xs,rfl,.inl C0,r.mono sm⟩
   . have e2:=e
     rw [D9,if_neg hj] at e2; have hs:=S.sr.sl j s e2;cases s with
     | un=>trivial
     | sh d=>obtain ⟨v,e1,r1⟩:=hs; exact ⟨v,e1,r1.mono sm⟩
     | fd _=>exact FdOk.mono sm hs
     | ow d2 =>
       obtain ⟨a,e1,n1,ok⟩:=hs; have hne:a≠p:=by
         rintro rfl;exact (key j d2 e).2 (S.sr.ap j i a d2 _ e2 hi e1 hp)
       refine ⟨a,e1,by rw [C3 hne]; exact n1,?_⟩;cases d2 with
       | list ds=>obtain ⟨xs,q,r⟩:=ok; exact ⟨xs,q,r.mono sm⟩
       | dict kvs=>obtain ⟨xs,q,k,r⟩:=ok; exact ⟨xs,q,k,r.mono sm⟩
       | tuple xs=>exact OwnK.keep sm (fun o q=>q) ok
       | _=>exact (show False from ok).elim
 . exact ⟨G,S⟩
noncomputable section
variable {P:xN} {w:xT} {K:wM} {mg:Str->Option wI} {base:yQ} {X:Cx} {N:List Str} {sc:Scope} {k:Nat} {df:Bool} {E:EK} {pos p px py:Pos} {a b c e elt iter:Expr} {ifs:List Expr} {f g el:Dn->Res wF} {fs src:Dn->Res (List wF)} {tt:Dn->Res Bool} {scope:Scope} {capN:List Str} {cap:List Nat} {st:n8} {sts sts':List n8} {g1 g2:Dn->Out}
noncomputable def E1:Dn->Out:=fun δ=>.nx δ
noncomputable def B7 (g1 g2:Dn->Out):Dn->Out:=fun δ=>match g1 δ with
 | .nx δ'=>g2 δ'
 | o=>o
theorem I8:DSs X E [] E1:=fun G0 H0=>PSs.imp cG fun D Z H hZ3=>by obtain ⟨G,δ,S,a⟩:=hZ3; exact a Z G H S
theorem A7 (h1:DS X E st g1) (h2:DSs X E sts g2):DSs X E (st::sts) (B7 g1 g2):=fun G0 H0=>by
 refine PSs.imp (Xh (h1 G0 H0) (h2 G0 H0)) fun D Z H hY59=>?_;obtain ⟨G,δ,S,a⟩:=hY59;refine ⟨G,δ,S,?_⟩;unfold B7 at a;cases e:g1 δ with
 | nx δ'=>rw [e] at a; exact fun Z' G' H' S'=>⟨G',δ',S',a⟩
 | rt d=>rw [e] at a; exact a
 | bk d=>rw [e] at a; exact a
 | ct d=>rw [e] at a; exact a
 | exc d=>rw [e] at a; exact a
 | no=>rw [e] at a; exact a
theorem B6 (h1:DS X E st g1):DSs X E [st] g1:=fun G0 H0=>Lq (h1 G0 H0)
noncomputable def sFz (i:Nat) (g:Dn->Out):Dn->Out:=fun δ=>g (fz i δ)
theorem aG (i:Nat) (h:DS X E st g1):DS X E st (sFz i g1):=fun G0 H0=>PS.imp (h G0 H0) fun D Z H hZ3=>by
 obtain ⟨G,δ,S,a⟩:=hZ3;obtain ⟨G',S'⟩:=S.fz i;exact ⟨G',_,S',a⟩
noncomputable def F6 (f:Dn->Res wF):Dn->Out:=fun δ=>M5 (f δ) .rt
theorem E5 (h:DE X E e f):DS X E (.Return (some e) pos) (F6 f):=fun G0 H0=>PS.imp (jO h) fun D Z H ⟨G,δ,S,a⟩ =>
 Hg S a fun d v G1 H1 g1 r1 S1 a1=>a1 v G1 H1 S1.gr r1
noncomputable def sIf (c:Dn->Res Bool) (g1 g2:Dn->Out):Dn->Out:=fun δ=>M5 (c δ) fun b=>if b=true then g1 δ else g2 δ
theorem W5 (hc:DT X E c tt) (h1:DSs X E sts g1) (h2:DSs X E sts' g2):DS X E (.If c sts sts' pos) (sIf tt g1 g2):=fun G0 H0=>PS.imp (rR hc (h1 G0 H0) (h2 G0 H0)) fun D Z H ⟨G,δ,S,a⟩ =>
 mP S a fun d G1 H1 g1 S1 a1=>by
   cases d with
   | true=>rw [if_pos rfl]; exact ⟨G1,δ,S1,a1⟩
   | false=>rw [if_neg (by decide)]; exact ⟨G1,δ,S1,a1⟩
noncomputable def okSet (N:List Str) (sc:Scope) (df:Bool) (i:Nat) (x:Str):Bool:=decide (N.Nodup)&&decide (N[i]? = some x)&&(decide (sc.names.lookup x=some .local)||(decide (sc.names.lookup x=some .cell)&&df))
theorem okSet.ok (C:Cxt P w K mg base X N sc k df) {i:Nat} {x:Str} (h:okSet N sc df i x=true):X.N.Nodup/\X.N[i]? = some x/\Loc X.env.scope x/\(X.fn x=true\/X.env.scope.names.lookup x=some .local):=by
 unfold okSet at h;simp only [xC,GD,decide_eq_true_eq] at h;obtain ⟨⟨h1,h2⟩,h3⟩:=h;rw [C.hN];refine ⟨h1,h2,?_⟩;unfold L2.Loc;rw [C.hs];rcases h3 with h3 | ⟨h3,h4⟩
 . exact ⟨.inl h3,.inr h3⟩
 . exact ⟨.inr h3,.inl (C.fn h4 x)⟩
noncomputable def D5 (i:Nat) (f:Dn->Res wF):Dn->Out:=fun δ=>M5 (f δ) fun d=>.nx (δ.set i (.sh d))
theorem E3 {x:Str} (C:Cxt P w K mg base X N sc k df) (i:Nat) (ho:okSet N sc df i x=true) (h:DE X E e f) (hs:m7 e (some (.Name x p)) pos.line X.env=pure false:=by rfl):DS X E (.Assign [.Name x p] e pos) (D5 i f):=fun G0 H0=>by
 obtain ⟨h1,h2,h3,h4⟩:=okSet.ok C ho;exact PS.imp (Ob h1 h2 h3 h hs h4) fun D Z H hZ3=>by obtain ⟨G,δ,S,a⟩:=hZ3; exact Hg S a fun d v G1 H1 g1 r1 S1 a1=>a1 _ G1 H1 (S1.set_sh r1)
theorem Gu {G0 H0 G H:Hp} {Z:St} {δ:Dn} (S:SSt G0 H0 G H Z δ) {p:wR} (hp:H p=none) (j:Nat) (d':wF) (e:δ[j]? = some (.ow d')):Z[j]?.join≠some (.ref p):=fun z=>by
 obtain ⟨a,e1,_,ok⟩:=S.sr.sl j _ e;rw [e1] at z; cases z;obtain ⟨o,q⟩:=ok.some;rw [hp] at q; cases q
noncomputable def Ic (i:Nat) (f:Dn->Res (List wF)):Dn->Out:=fun δ=>M5 (f δ) fun ds=>.nx (δ.set i (.ow (.list ds)))
theorem cM {G0 H0:Hp} {D:Ends} {Z:St} {H:Hp} {i:Nat} (h:tS E G0 H0 (Ic i fs) D Z H):tF E fs Z H fun v H1=>D.nx (Z.set i (some v)) H1:=by
 obtain ⟨G,δ,S,a⟩:=h;refine bQ S a fun ds p xs G1 H1 g1 q1 q2 q3 q4 S1 a1=>?_;exact a1 _ G1 H1 (S1.set_ow (S.gr.h.free q1) q2 ⟨xs,q3,q4⟩ (Gu S q1))
theorem Nu {x:Str} (C:Cxt P w K mg base X N sc k df) (i:Nat) (ho:okSet N sc df i x=true) (h:DF X E e fs) (hs:m7 e (some (.Name x p)) pos.line X.env=pure false:=by rfl):DS X E (.Assign [.Name x p] e pos) (Ic i fs):=fun G0 H0=>by
 obtain ⟨h1,h2,h3,h4⟩:=okSet.ok C ho;exact PS.imp (Ob h1 h2 h3 h hs h4) fun D Z H q=>cM q
noncomputable def Ek (sc scope:Scope) (x:Str) (l1 l2:Nat):Bool:=decide (sc.kind=.function)&&decide (sc.names.lookup x=some .local)&&decide (l1=l2) && !(scope.names.any fun (n,kd)=>n==x&&(kd==.local||kd==.cell))
theorem Jb {x:Str} {elt:Expr} {gens:List Comprehension} {ln:Nat} (C:Cxt P w K mg base X N sc k df) (h:Ek sc scope x p.line pos.line=true):m7 (.ListComp elt gens scope pos) (some (.Name x p)) ln X.env=pure true:=by
 unfold Ek at h;simp only [xC,decide_eq_true_eq] at h;obtain ⟨⟨⟨h1,h2⟩,h3⟩,h4⟩:=h;unfold m7;show pure (X.env.blockKind==.function&&X.env.kindOf x==some .local&&p.line==pos.line && !(scope.names.any fun (n,kd)=>n==x&&(kd==.local||kd==.cell)))=_;have e1:X.env.blockKind=.function:=by unfold Env.blockKind; rw [C.hs,h1]; rfl
 have e2:X.env.kindOf x=some .local:=by show X.env.scope.names.lookup x=_; rw [C.hs]; exact h2
 rw [e1,e2,h3,h4];simp
noncomputable section
variable {x y:Str} {i:Nat} {py spos:Pos}
theorem aF (C:Cxt P w K mg base X N sc k df) (i:Nat) (hset:okSet N sc df i y=true) (hsw:Ek sc scope y py.line pos.line=true) (cap:List Nat) (capN:List Str) (ho:okComp N sc scope [x] capN cap=true) (hi:DI X E (.Name x px) iter src)
   (ht:∀ X',Cxt P w K mg base X' ([x]++capN) (Dy scope sc) k false->DTs X' E0k ifs tt) (he:∀ X',Cxt P w K mg base X' ([x]++capN) (Dy scope sc) k false->DE X' E0k elt el)
   (hs:∀ x,zA iter X.env x=pure x:=by intro _; rfl):DS X E (.Assign [.Name y py] (.ListComp elt [⟨.Name x px,iter,ifs,0⟩] scope pos) spos) (Ic i (E2 src E4 cap tt el)):=fun G0 H0=>by
 obtain ⟨h1,h2,h3,h4⟩:=okSet.ok C hset;have o:=okComp.ok ho;have hl:X.env.scope.names.lookup y=some .local:=by
   rw [C.hs]; unfold Ek at hsw; simp only [xC,decide_eq_true_eq] at hsw; exact hsw.1.1.2
 refine PS.imp (Gn (g:=U0 0) C.calm (Bd C o) hi (fun X' B=>?_) (fun X' B=>ht X' (C.blk B)) (fun X' B=>he X' (C.blk B)) h1 h2 hl (Jb C hsw) hs) fun D Z H h=>Hn (m:=1) rfl o.h10 vF (cM h);have C':=C.blk B;have hl:X'.env.scope.names.lookup x=some .local:=by rw [C'.hs]; exact o.h9 x (by simp)
 exact U5 (by rw [C'.hN]; exact o.h8) (by rw [C'.hN]; rfl) (.inl hl) (.inr hl)
noncomputable def De (i:Nat) (f:Dn->Res (List wF)):Dn->Out:=fun δ=>M5 (f δ) fun ds=>.nx (δ.set i (.sh (.list ds)))
theorem cQ {G0 H0:Hp} {D:Ends} {Z:St} {H:Hp} {i:Nat} (h:tS E G0 H0 (De i fs) D Z H):tF E fs Z H fun v H1=>D.nx (Z.set i (some v)) H1:=by
 obtain ⟨G,δ,S,a⟩:=h;refine bQ S a fun ds p xs G1 H1 g1 q1 q2 q3 q4 S1 a1=>?_;exact a1 _ _ H1 ((S.grow (g1.share q1 q2 q3)).set_sh ⟨p,xs,rfl,.inl C0,q4.mono (Same.upd q2)⟩)
end
end
end Sm
end
noncomputable section
namespace Sm
open PySem PySem.Spec PyProof.Rows L2
noncomputable section
variable {P:xN} {w:xT} {K:wM} {mg:Str->Option wI} {base:yQ} {X:Cx} {N:List Str} {sc:Scope} {k:Nat} {df:Bool} {E:EK} {pos p px py tp spos:Pos} {tg a b c e elt iter:Expr} {ifs:List Expr} {es:List Expr} {f g el:Dn->Res wF} {src:Dn->Res (List wF)} {tt:Dn->Res Bool} {scope:Scope} {capN:List Str} {cap:List Nat} {st:n8} {sts:List n8} {g1:Dn->Out} {x y:Str} {i:Nat}
theorem Dd (C:Cxt P w K mg base X N sc k df) (i:Nat) (hset:okSet N sc df i y=true) (hsw:Ek sc scope y py.line pos.line=true) (cap:List Nat) (capN:List Str) (ho:okComp N sc scope [x] capN cap=true) (hi:DI X E (.Name x px) iter src)
   (ht:∀ X',Cxt P w K mg base X' ([x]++capN) (Dy scope sc) k false->DTs X' E0k ifs tt) (he:∀ X',Cxt P w K mg base X' ([x]++capN) (Dy scope sc) k false->DE X' E0k elt el)
   (hs:∀ x,zA iter X.env x=pure x:=by intro _; rfl):DS X E (.Assign [.Name y py] (.ListComp elt [⟨.Name x px,iter,ifs,0⟩] scope pos) spos) (De i (E2 src E4 cap tt el)):=fun G0 H0=>by
 obtain ⟨h1,h2,h3,h4⟩:=okSet.ok C hset;have o:=okComp.ok ho;have hl:X.env.scope.names.lookup y=some .local:=by
   rw [C.hs]; unfold Ek at hsw; simp only [xC,decide_eq_true_eq] at hsw; exact hsw.1.1.2
 refine PS.imp (Gn (g:=U0 0) C.calm (Bd C o) hi (fun X' B=>?_) (fun X' B=>ht X' (C.blk B)) (fun X' B=>he X' (C.blk B)) h1 h2 hl (Jb C hsw) hs) fun D Z H h=>Hn (m:=1) rfl o.h10 vF (cQ h);have C':=C.blk B;have hl:X'.env.scope.names.lookup x=some .local:=by rw [C'.hs]; exact o.h9 x (by simp)
 exact U5 (by rw [C'.hN]; exact o.h8) (by rw [C'.hN]; rfl) (.inl hl) (.inr hl)
theorem Dc {x1:Nat} {x2:Str} (C:Cxt P w K mg base X N sc k df) (i:Nat) (hset:okSet N sc df i y=true) (hsw:Ek sc scope y py.line pos.line=true) (cap:List Nat) (capN:List Str) (ho:okComp N sc scope [x,x2] capN cap=true) (hi:DI X E (.Tuple [.Name x px,.Name x2 p] x1 tp) iter src)
   (ht:∀ X',Cxt P w K mg base X' ([x,x2]++capN) (Dy scope sc) k false->DTs X' E0k ifs tt) (he:∀ X',Cxt P w K mg base X' ([x,x2]++capN) (Dy scope sc) k false->DE X' E0k elt el)
   (hs:∀ x,zA iter X.env x=pure x:=by intro _; rfl):DS X E (.Assign [.Name y py] (.ListComp elt [⟨.Tuple [.Name x px,.Name x2 p] x1 tp,iter,ifs,0⟩] scope pos) spos) (De i (E2 src O5 cap tt el)):=fun G0 H0=>by
 obtain ⟨h1,h2,h3,h4⟩:=okSet.ok C hset;have o:=okComp.ok ho;have hl:X.env.scope.names.lookup y=some .local:=by
   rw [C.hs]; unfold Ek at hsw; simp only [xC,decide_eq_true_eq] at hsw; exact hsw.1.1.2
 refine PS.imp (Gn (g:=lN K 2 (Im (U0 0) (Im (U0 1) lO))) C.calm (Bd C o) hi (fun X' B=>?_) (fun X' B=>ht X' (C.blk B)) (fun X' B=>he X' (C.blk B)) h1 h2 hl (Jb C hsw) hs) fun D Z H h=>Hn (m:=2) rfl o.h10 gok2 (cQ h);have C':=C.blk B;have hl:X'.env.scope.names.lookup x=some .local:=by rw [C'.hs]; exact o.h9 x (by simp)
 have hl2:X'.env.scope.names.lookup x2=some .local:=by rw [C'.hs]; exact o.h9 x2 (by simp)
 have nd:X'.N.Nodup:=by rw [C'.hN]; exact o.h8
 have p1:PG X' (.Name x px) (U0 0):=U5 nd (by rw [C'.hN]; rfl) (.inl hl) (.inr hl);have p2:PG X' (.Name x2 p) (U0 1):=U5 nd (by rw [C'.hN]; rfl) (.inl hl2) (.inr hl2);have:=aI (n:=2) (k:=x1) (pos:=tp) C'.calm (Cp p1 (Cp p2 Ub));rw [C'.hK] at this;exact this
noncomputable def sSet2 (i j:Nat) (f:Dn->Res wF):Dn->Out:=fun δ=>M5 (f δ) fun d=>match d with
 | .tuple [a,b]=>.nx ((δ.set i (.sh a)).set j (.sh b))
 | _=>.no
noncomputable def Cg (i:Nat) (f:Dn->Res wF):Dn->Out:=fun δ=>match δ[i]? with
 | some (.ow (.list ds))=>M5 (f δ) fun d=>if ds.length < sizeLine then .nx (δ.set i (.ow (.list (ds++[d])))) else .no
 | _=>.no
theorem Nv {cpos apos:Pos} (C:Cxt P w K mg base X N sc k df) (i:Nat) (h:okVar N sc i x=true) (ha:DE X E a f)
   (hbase:o8 (.Name x p) "append" X.env (eval (.Name x p) X.env)=eval (.Name x p) X.env:=by rfl)
   (hfew:((zY cpos (wU [a] X.env)).all (fun x => !x.1)&&(FJ cpos (BX [] X.env)).all (fun x=>x.1.isSome)
     && decide ([a].length+([]:List AX).length+(if ([]:List AX).isEmpty then 0 else 1) < 30))=true:=by rfl)
   (hline:(apos.endLine==cpos.line)=true:=by rfl) (hs:wU [a] X.env=(false,eval a X.env)::wU [] X.env:=by rfl) (hplain:(zY cpos (wU [] X.env)).any (·.1)=false:=by rfl)
   (hsw:m7 (.Call (.Attribute (.Name x p) "append" apos) [a] [] cpos) none pos.line X.env=pure false:=by rfl) :
   DS X E (.Expr (.Call (.Attribute (.Name x p) "append" apos) [a] [] cpos) pos) (Cg i f):=fun G0 H0=>by
 have hv:PE X (.Name x p) (nC i):=by
   unfold okVar at h; simp only [xC,n0] at h; obtain ⟨⟨⟨h1,h2⟩,h3⟩,h4⟩:=h; refine aJ (by rw [C.hN]; exact i7 h1) ?_ h3 h4;rw [C.hs]; unfold Vis;cases q:sc.names.lookup x with
   | none=>rw [q] at h2; cases h2
   | some z =>
     rw [q] at h2;cases z with
     | «local» => exact .inl rfl
     | cell=>exact .inr (.inl rfl)
     | free=>exact .inr (.inr rfl)
     | _=>cases h2
 refine PS.imp (Ua (Xl AD GO GN Jn hv (O8 ha Y5 hs) hbase hfew hline hs hplain) hsw) fun D Z H hZ3=>?_;obtain ⟨G,δ,S,aft⟩:=hZ3;unfold Cg at aft;split at aft
 . rename_i ds hi
   obtain ⟨q,hq,hg,xs,hx,rl⟩:=S.sr.sl i _ hi; have hσ:Z[i]? = some (some (.ref q)):=by
     cases z:Z[i]? with
     | none=>rw [z] at hq; cases hq
     | some z'=>rw [z] at hq; cases z' with
       | none=>cases hq
       | some z''=>cases hq; rfl
   refine ⟨.ref q,hσ,.inl ⟨rfl,xs,.inl (.inl hx)⟩,?_⟩; refine Hg S aft fun d v G1 H1 g1 r1 S1 a1=>?_;split at a1
   . rename_i hz
     have hx1:H1 q=some (.lst xs):=g1.h _ _ hx; obtain ⟨q',hq',hg',_⟩:=S1.sr.sl i _ hi; rw [hq] at hq'; cases hq'; refine ⟨q,xs,v,rfl,rfl,hx1,by rw [<- rl.length]; exact hz,?_⟩;exact a1 Z G1 _ (S1.write hi hq hg' ⟨xs++[v],C0,(rl.mono g1.g).append (RepL.cons r1 rfl)⟩)
   . exact a1.elim
 . exact aft.elim
noncomputable def D8 (st:wF->Dn->Option Dn) (body:Dn->Out):List wF->Dn->Out
 | [],δ=>.nx δ
 | d::ds,δ=>match st d δ with
   | some δ1=>match body δ1 with
     | .nx δ'=>D8 st body ds δ'
     | .ct δ'=>D8 st body ds δ'
     | .bk δ'=>.nx δ'
     | o=>o
   | none=>.no
noncomputable def K5 (src:Dn->Res (List wF)) (st:wF->Dn->Option Dn) (body:Dn->Out):Dn->Out:=fun δ=>M5 (src δ) fun ds=>D8 st body ds δ
noncomputable def st1 (i:Nat):wF->Dn->Option Dn:=fun d δ=>some (δ.set i (.sh d))
noncomputable def st2 (i j:Nat):wF->Dn->Option Dn:=fun d δ=>match d with
 | .tuple [a,b]=>some ((δ.set i (.sh a)).set j (.sh b))
 | _=>none
def wB (K:wM) (g:TG) (st:wF->Dn->Option Dn):Prop:=∀ (G0 H0 G H:Hp) (Z:St) (δ δ1:Dn) (d:wF) (x:V) (Q:St->Hp->Prop),SSt G0 H0 G H Z δ->Rep G d x->st d δ=some δ1->(∀ Z',SSt G0 H0 G H Z' δ1->Q Z' H)->g x Z H Q
theorem tg1 (i:Nat):wB K (U0 i) (st1 i):=fun G0 H0 G H Z δ δ1 d x Q S r e h=>by cases e; exact h _ (S.set_sh r)
theorem tg2 (i j:Nat):wB K (lN K 2 (Im (U0 i) (Im (U0 j) lO))) (st2 i j):=fun G0 H0 G H Z δ δ1 d x Q S r e h=>by
 cases d with
 | tuple ds =>
   match ds,e with
   | [a,b],e =>
     cases e; obtain ⟨p,xs,rfl,e1,l1⟩:=r; obtain ⟨v,v',rfl,r1,r2⟩:=nV l1; exact ⟨p,_,rfl,.inl (.inl (S.sr.sub _ _ e1)),rfl,v,[v'],rfl,v',[],rfl,rfl,h _ ((S.set_sh r1).set_sh r2)⟩
 | _=>cases e
theorem SSt.rebase {G0 H0 G1 H1 G H:Hp} {Z:St} {δ:Dn} (g:Grow G0 H0 G1 H1) (S:SSt G0 H0 G H Z δ) (h:Same G1 G):SSt G1 H0 G H Z δ :=
 ⟨⟨h,S.gr.h,S.gr.gh,fun b o e=>(S.gr.fr b o e).imp (fun z=>g.g _ _ z) id⟩,S.sr,S.fr⟩
theorem Grow.unbase {G0 H0 G1 H1 G H:Hp} (g:Grow G0 H0 G1 H1) (h:Grow G1 H0 G H):Grow G0 H0 G H :=
 ⟨g.g.trans h.g,h.h,h.gh,fun b o e=>(h.fr b o e).elim (fun z=>g.fr b o z) .inr⟩
theorem SSt.unbase {G0 H0 G1 H1 G H:Hp} {Z:St} {δ:Dn} (g:Grow G0 H0 G1 H1) (S:SSt G1 H0 G H Z δ):SSt G0 H0 G H Z δ:=⟨g.unbase S.gr,S.sr,S.fr⟩
theorem jC {gt:TG} {st:wF->Dn->Option Dn} (C:Cxt P w K mg base X N sc k df) (hi:DI X E tg iter src) (hg:PG X tg gt) (ht:wB K gt st) (hb:DSs X E sts g1) (hs:∀ x,zA iter X.env x=pure x):DS X E (.For tg iter sts [] pos) (K5 src st g1):=fun G0 H0=>by
 have hb':PSs X sts (fun D Z H=>∃ Gb,tS E Gb H0 g1 D Z H):=fun pins s Z H D I hZ6=>by obtain ⟨Gb,q⟩:=hZ6; exact hb Gb H0 pins s Z H D I q
 refine PS.imp (jP C.own C.calm hi hg hb' hs) fun D Z H hZ3=>?_;obtain ⟨G,δ,S,aft⟩:=hZ3;refine mQ S aft fun ds J G1 H1 gr W S1 a1=>?_;have g01:=S1.gr;refine ⟨fun i n Z' H'=>n=ds.length - i/\i<=ds.length/\∃ G' δ',SSt G1 H0 G' H' Z' δ'/\Kg E G0 H0 (D8 st g1 (ds.drop i) δ') D,⟨_,rfl,zI _,G1,δ,S1.rebase g01 (Same.refl _),by rw [CB]; exact a1⟩,?_⟩;rintro i n Z' H' ⟨rfl,hi,G',δ',S',a'⟩;by_cases hlt:i < ds.length
 . have hd:ds[i]? = some ds[i]:=yA hlt
   have hdrop:ds.drop i=ds[i]::ds.drop (i+1):=zJ hlt; rw [hdrop] at a'; unfold D8 at a'; refine .inr ⟨W.go i H' hlt (S'.gr.g.trans S'.sr.sub),fun Z2 H2=>∃ G' δ',SSt G1 H0 G' H2 Z2 δ'/\Kg E G0 H0 (D8 st g1 (ds.drop (i+1)) δ') D,fun Z2 H2 q=>⟨_,by omega,rfl,hlt,q⟩,fun x H'' hy=>?_⟩;obtain ⟨G3,g3,r3⟩:=W.yld i _ G' H' x H'' hd S'.gr.g S'.sr.sub hy; have S3:=S'.grow g3;cases es:st ds[i] δ' with
   | none=>rw [es] at a'; exact a'.elim
   | some δ1 =>
     rw [es] at a'; refine ht G1 H0 G3 H'' Z' δ' δ1 _ x _ S3 r3 es fun Z2 S4=>⟨G1,G3,δ1,S4,?_⟩;simp only at a';cases eo:g1 δ1 with
     | nx δ2=>rw [eo] at a'; exact fun Z3 G4 H4 S5=>⟨G4,δ2,S5,a'⟩
     | ct δ2=>rw [eo] at a'; exact fun Z3 G4 H4 S5=>⟨G4,δ2,S5,a'⟩
     | bk δ2=>rw [eo] at a'; exact fun Z3 G4 H4 S5=>a' Z3 G4 H4 (S5.unbase g01)
     | rt d=>rw [eo] at a'; exact fun v G4 H4 g r=>a' v G4 H4 (g01.unbase g) r
     | exc c=>rw [eo] at a'; exact fun G4 H4 g=>a' G4 H4 (g01.unbase g)
     | no=>rw [eo] at a'; exact a'
 . refine .inl ⟨W.stop i H' (zP.mp hlt) (S'.gr.g.trans S'.sr.sub),?_⟩
   have:ds.drop i=[]:=AW (zP.mp hlt); rw [this] at a'; exact a' Z' G' H' (S'.unbase g01)
theorem O1 (C:Cxt P w K mg base X N sc k df) (i:Nat) (ho:okSet N sc df i x=true) (hi:DI X E (.Name x p) iter src) (hb:DSs X E sts g1) (hs:∀ x,zA iter X.env x=pure x:=by intro _; rfl):DS X E (.For (.Name x p) iter sts [] pos) (K5 src (st1 i) g1):=by
 obtain ⟨h1,h2,h3,h4⟩:=okSet.ok C ho;exact jC C hi (U5 h1 h2 h3 h4) (tg1 i) hb hs
theorem sV {x1:Nat} (C:Cxt P w K mg base X N sc k df) (i j:Nat) (hi':okSet N sc df i x=true) (hj:okSet N sc df j y=true) (hi:DI X E (.Tuple [.Name x px,.Name y py] x1 tp) iter src) (hb:DSs X E sts g1) (hs:∀ x,zA iter X.env x=pure x:=by intro _; rfl) :
   DS X E (.For (.Tuple [.Name x px,.Name y py] x1 tp) iter sts [] pos) (K5 src (st2 i j) g1):=by
 obtain ⟨h1',h2,h3,h4⟩:=okSet.ok C hi';obtain ⟨_,q2,q3,q4⟩:=okSet.ok C hj;have pg:=aI (n:=2) (k:=x1) (pos:=tp) C.calm (Cp (U5 (pos:=px) h1' h2 h3 h4) (Cp (U5 (pos:=py) h1' q2 q3 q4) Ub));rw [C.hK] at pg;exact jC C hi pg (tg2 i j) hb hs
end
end Sm
end
noncomputable section
namespace Sm
open PySem PySem.Spec PyProof.Rows L2
noncomputable section
variable {P:xN} {w:xT} {K:wM} {mg:Str->Option wI} {base:yQ} {X:Cx} {N:List Str} {sc:Scope} {k:Nat} {df:Bool} {E:EK} {p:Pos} {a c e:Expr} {f g:Dn->Res wF} {x:Str} {i:Nat}
theorem okVar.pe (C:Cxt P w K mg base X N sc k df) (h:okVar N sc i x=true):PE X (.Name x p) (nC i):=by
 unfold okVar at h;simp only [xC,n0] at h;obtain ⟨⟨⟨h1,h2⟩,h3⟩,h4⟩:=h;refine aJ (by rw [C.hN]; exact i7 h1) ?_ h3 h4;rw [C.hs];unfold Vis;cases q:sc.names.lookup x with
 | none=>rw [q] at h2; cases h2
 | some z =>
   rw [q] at h2;cases z with
   | «local» => exact .inl rfl
   | cell=>exact .inr (.inl rfl)
   | free=>exact .inr (.inr rfl)
   | _=>cases h2
theorem SR.own {G H:Hp} {Z:St} {δ:Dn} (S:SR G H Z δ) {d:wF} (hi:δ[i]? = some (.ow d)):∃ q,Z[i]? = some (some (.ref q))/\G q=none/\OwnOk G H q d:=by
 obtain ⟨q,hq,hg,ok⟩:=S.sl i _ hi;refine ⟨q,?_,hg,ok⟩;cases z:Z[i]? with
 | none=>rw [z] at hq; cases hq
 | some z'=>rw [z] at hq; cases z' with
   | none=>cases hq
   | some z''=>cases hq; rfl
noncomputable def M6 (N:List Str) (ds:List wF):Dn:=ds.map .sh++xI (N.length - ds.length) .un
noncomputable def fnD (N:List Str) (g:Dn->Out):List wF->Res wF:=fun ds=>match g (M6 N ds) with
 | .rt d=>.ok d
 | .nx _=>.ok .none
 | .exc c=>.exc c
 | _=>.no
theorem Wa {G H:Hp} (hG:Same G H) {ds:List wF} {vs:List V} (r:RepL G ds vs) (N:List Str):SSt G H G H (Bj N vs) (M6 N ds):=by
 have hl:=r.length;have noow:∀ (i:Nat) (d:wF),(M6 N ds)[i]? ≠ some (.ow d):=fun i d e=>by
   unfold M6 at e;by_cases hi:i < ds.length
   . rw [yD (by simpa using hi),xQ] at e
     cases q:ds[i]? with
     | none=>rw [q] at e; cases e
     | some z=>rw [q] at e; cases e
   . rw [yG (by simpa using zP.mp hi),j9] at e
     split at e <;> cases e
 refine ⟨Grow.refl hG,⟨hG,by unfold L2.Bj M6; simp [hl],fun i s e=>?_,fun i j a d d' e _ _ _=>absurd e (noow i d)⟩,fun i d a e _=>absurd e (noow i d)⟩;unfold M6 at e;by_cases hi:i < ds.length
 . rw [yD (by simpa using hi),xQ] at e
   cases q:ds[i]? with
   | none=>rw [q] at e; cases e
   | some z =>
     rw [q] at e; cases e;obtain ⟨v,e1,rv⟩:=r.get q; unfold L2.Bj; rw [yD (by rw [wL,<- hl]; exact hi),xQ,e1];exact ⟨v,rfl,rv⟩
 . rw [yG (by simpa using zP.mp hi),j9] at e
   split at e <;> cases e
   trivial
structure Def (K:wM) (mg:Str->Option wI) (x:Str) (st:n8) (ps:List Str):Prop where
 ex:∃ f fd,L2.Fun K x x st f fd/\mg x=some (.ref f)/\Binds K fd ps []
theorem lQ {x:Str} {st:n8} {ps:List Str} {n:Nat} {go:Dn->Out} {m:List wF->Res wF} {f:wR} {fd:BO} (F:L2.Fun K x x st f fd) (S:FnScope N ps (A3 st)) (hn:ps.length=n)
   (body:∀ X,Cxt P w K mg base X N (A3 st) k true->DSs X E0k (B3 st) go) (hm:m=fnD N go):FnOk P w K mg base CX0 (k+1) f fd ps (spD n m):=by
 subst hm;refine F.ok S (fun vs H Q E h=>?_) (fun cdv A outer s H vs Q E hr h=>?_)
 . obtain ⟨G,ds,d,_,r,hl,_⟩:=h
   rw [<- r.length,hl,hn]
 . obtain ⟨G,ds,d,hG,r,hl,em,q⟩:=h
   refine ⟨_,body _ ⟨rfl,rfl,rfl,rfl,rfl,rfl,rfl,rfl,hr,fun _ _=>rfl,BG⟩ G H,G,_,Wa hG r N,?_⟩;unfold fnD at em;cases eg:go (M6 N ds) with
   | rt d'=>rw [eg] at em; cases em; exact fun v G' H' g r'=>q v G' H' g r'
   | nx δ=>rw [eg] at em; cases em; exact fun Z G' H' S'=>q _ G' H' S'.gr rfl
   | bk _=>rw [eg] at em; cases em
   | ct _=>rw [eg] at em; cases em
   | exc _=>rw [eg] at em; cases em
   | no=>rw [eg] at em; cases em
theorem U9 {x:Str} {st:n8} {ps:List Str} {n:Nat} {go:Dn->Out} {m:List wF->Res wF} (F:Def K mg x st ps) (S:FnScope N ps (A3 st)) (hn:ps.length=n)
   (body:∀ X,Cxt P w K mg base X N (A3 st) k true->DSs X E0k (B3 st) go) (hm:m=fnD N go):Fn P w K mg base x (k+1) n m:=by
 obtain ⟨f,fd,F,hmg,hb⟩:=F.ex;exact ⟨f,fd,ps,hn,lQ F S hn body hm,hmg,F.kp,hb⟩
end
end Sm
end
noncomputable section
namespace Sm
open PySem PySem.Spec PyProof.Rows L2
def Made (h:yQ) (H:Hp) (h0:yQ) (a:wR) (c:wI):Prop :=
 ∃ oe vs a0,h.get? a=some oe/\oe.cls=c/\oe.data=.fields vs/\vs[0]? = some a0/\h0.get? a=none/\H a=none/\vs[1]? = some .none
end Sm
end
noncomputable section
namespace Sm
open PySem PySem.Spec PyProof.Rows L2
end Sm
end
noncomputable section
namespace Sm
open PySem PySem.Spec PyProof.Rows L2
noncomputable section
variable {X:Cx} {k:Nat} {E:EK} {p:Pos} {a b c e:Expr} {g:Dn->Res wF} {i:Nat} {tt:Dn->Res Bool}
noncomputable def cFz (i:Nat) (c:Dn->Res Bool):Dn->Res Bool:=fun δ=>c (fz i δ)
theorem SR.fz {G H:Hp} {Z:St} {δ:Dn} (S:SR G H Z δ) (i:Nat):∃ G',SR G' H Z (fz i δ):=by
 unfold Sm.fz;split
 . rename_i ds hi
   obtain ⟨p,hp,hg,xs,hx,r⟩:=S.sl i _ hi; have hv:Z[i]? = some (some (.ref p)):=by
     cases q:Z[i]? with
     | none=>rw [q] at hp; cases hp
     | some z=>rw [q] at hp; cases z with
       | none=>cases hp
       | some z=>cases hp; rfl
   have key:∀ (j:Nat) (d':wF),(δ.set i (.sh (.list ds)))[j]? = some (.ow d')->δ[j]? = some (.ow d')/\j≠i:=fun j d' e=>by
     rw [D9] at e;split at e
     . cases e
     . rename_i hn
       refine ⟨e,fun z=>?_⟩;subst z; exact hn ⟨rfl,(xM.mp hi).1⟩
   have sm:Same G (upd G p (.lst xs)):=Same.upd hg; have sub:Same (upd G p (.lst xs)) H:=fun b u e=>by
     by_cases hb:b=p
     . subst hb; rw [C0] at e; rw [hx]; exact e
     . rw [C3 hb] at e; exact S.sub _ _ e
   refine ⟨_,sub,by simp [S.len],fun j s e=>?_,fun j1 j2 a d1 d2 e1 e2 h1 h2=>S.ap j1 j2 a d1 d2 (key j1 d1 e1).1 (key j2 d2 e2).1 h1 h2⟩;by_cases hj:i=j/\i < δ.length
   . rw [D9,if_pos hj] at e
     cases e; rw [<- hj.1,hv]; exact ⟨_,rfl,p,xs,rfl,.inl C0,r.mono sm⟩
   . have e2:=e
     rw [D9,if_neg hj] at e2; have hs:=S.sl j s e2;cases s with
     | un=>trivial
     | sh d=>obtain ⟨v,e1,r1⟩:=hs; exact ⟨v,e1,r1.mono sm⟩
     | fd _=>exact FdOk.mono sm hs
     | ow d2 =>
       obtain ⟨a,e1,n1,ok⟩:=hs; have hne:a≠p:=by
         rintro rfl;exact (key j d2 e).2 (S.ap j i a d2 _ e2 hi e1 hp)
       refine ⟨a,e1,by rw [C3 hne]; exact n1,?_⟩;cases d2 with
       | list ds=>obtain ⟨xs,q,r⟩:=ok; exact ⟨xs,q,r.mono sm⟩
       | dict kvs=>obtain ⟨xs,q,k,r⟩:=ok; exact ⟨xs,q,k,r.mono sm⟩
       | tuple xs=>exact OwnK.keep sm (fun o q=>q) ok
       | _=>exact (show False from ok).elim
 . exact ⟨G,S⟩
theorem sJ (i:Nat) (h:DT X E c tt):DT X E c (cFz i tt):=PT.imp h fun Z H Q hZ3=>by
 obtain ⟨G,δ,S,a⟩:=hZ3;obtain ⟨G',S'⟩:=S.fz i;refine ⟨G',_,S',?_⟩;unfold cFz at a;cases e:tt (fz i δ) with
 | ok d=>rw [e] at a; exact fun G2 H2 g=>a G H2 ⟨Same.refl _,g.h,S.sub.trans g.h,fun _ _ z=>.inl z⟩
 | exc c=>rw [e] at a; exact fun G2 H2 g=>a G H2 ⟨Same.refl _,g.h,S.sub.trans g.h,fun _ _ z=>.inl z⟩
 | no=>rw [e] at a; exact a
end
end Sm
end
noncomputable section
namespace Sm
open PySem PySem.Spec PyProof.Rows L2
noncomputable section
variable {P:xN} {w:xT} {K:wM} {mg:Str->Option wI} {base:yQ} {X:Cx} {N:List Str} {sc:Scope} {k:Nat} {df:Bool} {E:EK} {pos p p2:Pos} {a b:Expr} {f g:Dn->Res wF} {x:Str} {i:Nat}
noncomputable def Om:wF->Bool
 | .none=>true
 | .bool _=>true
 | .int _=>true
 | .str _=>true
 | _=>false
theorem Rep.atom {G G':Hp} {d:wF} {v:V} (r:Rep G d v) (h:Om d=true):Rep G' d v:=by
 cases d with
 | none=>exact r
 | bool _=>exact r
 | int _=>exact r
 | str _=>exact r
 | _=>cases h
noncomputable def Rr (i:Nat) (fk fv:Dn->Res wF):Dn->Out:=fun δ=>match δ[i]? with
 | some (.ow (.list ds))=>M5 (fv δ) fun v=>M5 (fk δ) fun kd=>match kd with
   | .int k=>(match ixN ds.length k with
     | some j=>.nx (δ.set i (.ow (.list (ds.set j v))))
     | none=>.no)
   | _=>.no
 | _=>.no
theorem RepL.set {G:Hp} {d:wF} {v:V} (r:Rep G d v):∀ {ds:List wF} {vs:List V} (j:Nat),RepL G ds vs->RepL G (ds.set j d) (vs.set j v)
 | [],_,_,h=>by cases (show _=_ from h); rfl
 | _::_,_,0,h=>by
   obtain ⟨v0,r0,rfl,h1,h2⟩:=h; exact ⟨v,r0,rfl,r,h2⟩
 | _::_,_,j+1,h=>by
   obtain ⟨v0,r0,rfl,h1,h2⟩:=h; exact ⟨v0,_,rfl,h1,RepL.set r j h2⟩
theorem sU (C:Cxt P w K mg base X N sc k df) (i:Nat) (h:okVar N sc i x=true) (hk:DE X E a f) (hv:DE X E b g)
   (hs:swapsWithSole [.Subscript (.Name x p) a p2] b pos.line X.env=pure false:=by rfl) (hw:swappedStores [.Subscript (.Name x p) a p2] b X.env=pure none:=by rfl)
   (h1:(CT [.Subscript (.Name x p) a p2] X.env).map (·.2)=[FK (.Subscript (.Name x p) a p2) X.env]:=by rfl)
   (ha:∀ v,FK (.Subscript (.Name x p) a p2) X.env v=(do
     let ov <- holding [v] (eval (.Name x p) X.env)
     let iv <- holding [v,ov] (eval a X.env)
     standAt p2
     holding [v,ov,iv] (setItem ov iv v)
     release [v,ov,iv] []):=by intro _; rfl):DS X E (.Assign [.Subscript (.Name x p) a p2] b pos) (Rr i f g):=fun G0 H0=>by
 refine PS.imp (tQ hv (tR (okVar.pe C h) hk iW ha) hs hw h1) fun D Z H hZ3=>?_;obtain ⟨G,δ,S,aft⟩:=hZ3;unfold Rr at aft;split at aft
 . rename_i ds hi
   refine Hg S aft fun v x1 G1 H1 g1 r1 S1 a1=>?_;obtain ⟨q,hσ,hg,xs,hx,hvals⟩:=S1.sr.own hi; refine ⟨.ref q,hσ,?_⟩; refine Hg S1 a1 fun kd x2 G2 H2 g2 r2 S2 a2=>?_;obtain ⟨q',hσ',hg',xs',hx',hvals'⟩:=S2.sr.own hi; rw [hσ] at hσ'; cases hσ';cases kd with
   | int kk =>
     cases (show _=_ from r2);simp only at a2;cases ej:ixN ds.length kk with
     | none=>rw [ej] at a2; exact (show False from a2).elim
     | some j =>
       rw [ej] at a2; refine ⟨q,xs',kk,j,rfl,rfl,hx',by rw [<- hvals'.length]; exact ej,?_⟩;exact a2 Z G2 _ (S2.write hi (by rw [hσ]; rfl) hg' ⟨_,C0,RepL.set (r1.mono g2.g) j hvals'⟩)
   | _=>exact (show False from a2).elim
 . exact aft.elim
end
end Sm
end
noncomputable section
namespace Sm
open PySem PySem.Spec PyProof.Rows L2 PySem.Builtin.Str
noncomputable section
variable {P:xN} {w:xT} {K:wM} {mg:Str->Option wI} {base:yQ} {X:Cx} {N:List Str} {sc:Scope} {k:Nat} {df:Bool} {E:EK} {pos p:Pos} {a b e:Expr} {fs:Dn->Res (List wF)} {x:Str} {i:Nat}
noncomputable def Gs:List wF->Option (List Int)
 | []=>some []
 | .int i::ds=>(Gs ds).map (i::·)
 | _::_=>none
noncomputable def pK:List Int->Option Int
 | []=>none
 | i::r=>some (r.foldl ID i)
noncomputable def Sv:List wF->Option wF
 | [.list ds]=>((Gs ds).bind pK).map .int
 | _=>none
theorem Yc {G:Hp}:∀ {ds:List wF} {xs:List V} {us:List wI} {is:List Int},RepL G ds xs->Vals xs us->Gs ds=some is->us.length=is.length/\∀ (j:Nat) (v:wI),us[j]? = some v->∃ t,v=FO ((is[j]?).getD 0) t
 | [],_,_,_,r,q,e=>by cases (show _=_ from r); cases q; cases e; exact ⟨rfl,fun j v h=>by simp at h⟩
 | .int b::ds,_,_,_,r,q,e=>by
   obtain ⟨x,t,rfl,h,l⟩:=r;cases (show _=_ from h);cases q with
   | cons q qs =>
     obtain ⟨tk,rfl⟩:=q; obtain ⟨is,e1,rfl⟩:=yF.mp e; obtain ⟨h1,h2⟩:=Yc l qs e1; refine ⟨by simp [h1],fun j v h=>?_⟩;cases j with
     | zero=>cases h; exact ⟨tk,rfl⟩
     | succ j=>exact h2 j v h
 | .none::_,_,_,_,_,_,e=>by cases e
 | .bool _::_,_,_,_,_,_,e=>by cases e
 | .str _::_,_,_,_,_,_,e=>by cases e
 | .list _::_,_,_,_,_,_,e=>by cases e
 | .tuple _::_,_,_,_,_,_,e=>by cases e
 | .dict _::_,_,_,_,_,_,e=>by cases e
theorem Ur:∀ (r:List Int) (i M:Int),i<=M->(∀ a∈r,a<=M)->r.foldl ID i<=M:=by
 intro iN; induction iN with
 | nil=>intro _ _ h _; exact h
 | cons a r ih=>intro i M h q; exact ih _ M (by have:=q a (.head _); lia) fun b hb=>q b (.tail _ hb)
theorem Uk:∀ (r:List Int) (i:Int),i<=r.foldl ID i/\∀ a∈r,a<=r.foldl ID i:=by
 intro iN; induction iN with
 | nil=>intro i; exact ⟨Int.le_refl _,fun _ h=>nomatch h⟩
 | cons a r ih =>
   intro i; obtain ⟨h1,h2⟩:=ih (ID i a); refine ⟨by simp only [p8]; lia,fun b hb=>?_⟩;cases hb with
   | head=>simp only [p8]; lia
   | tail _ hb=>exact h2 b hb
theorem fR {is:List Int} {M:Int} (e:pK is=some M):((is[argBest (fun i j=>decide ((is[i]?).getD 0>(is[j]?).getD 0)) (is.length - 1)]?).getD 0)=M/\0 < is.length:=by
 cases is with
 | nil=>cases e
 | cons i r =>
   have e':r.foldl ID i=M:=by cases e; rfl
   obtain ⟨h1,h2⟩:=argBest_gt (fun j=>((i::r)[j]?).getD 0) ((i::r).length - 1);refine ⟨?_,by simp⟩;generalize hB:argBest (fun a b=>decide (((i::r)[a]?).getD 0>((i::r)[b]?).getD 0)) ((i::r).length - 1)=B at *;have hlt:B < (i::r).length:=by simp only [wT] at h1 ⊢; lia
   obtain ⟨l1,l2⟩:=Uk r i; rw [e'] at l1 l2; apply Int.le_antisymm
   . rw [yA hlt]
     simp only [Option.getD_some]; have hm:=z7 hlt;cases wK.mp hm with
     | inl z=>lia
     | inr z=>exact l2 _ z
   . rw [<- e']
     refine Ur r i _ ?_ fun a ha=>?_
     . have:=h2 0 (zI _)
       simpa using this
     . obtain ⟨j,hj,rfl⟩:=EO ha
       have:=h2 (j+1) (by simp only [wT]; lia);rw [CZ,yA hj] at this; exact this
theorem bF (hc:X.calm=true):V0 X (.builtin "max") (rCD Sv):=by
 rintro pins s Z H xs us Q I r ⟨G,ds,d,hG,rl,e,q⟩;unfold Sv at e;split at e
 . rename_i ys
   obtain ⟨M,e1,rfl⟩:=yF.mp e; obtain ⟨is,e0,e1⟩:=AI.mp e1; obtain ⟨v,rfl,a,vs,rfl,h1,l1⟩:=Ny rl; obtain ⟨u,rfl,ru⟩:=Ri r; cases ru; obtain ⟨z,its,n,rv,e2⟩:=W1 I hG h1; obtain ⟨hb1,hb2⟩:=Yc l1 rv e0; obtain ⟨m1,m2⟩:=fR e1; have hl:s.heap.IsList a its.toArray:=⟨_,e2,rfl,n,rfl⟩; have hlt:a < s.heap.objs.size:=xA e2; refine call_max_walk (GF hl ?_); refine ⟨s.heap.objs.size,[s.heap.objs.size,a],[s.heap.objs.size],its.toArray.size,_,_,fun i j=>decide ((is[i]?).getD 0>(is[j]?).getD 0),rfl,Walks.list (A:=X.A.in1) (I.ok.hd hc) _ a (xU hlt) its.toArray,
     ⟨⟨_,wW _ rfl,rfl,rfl⟩,hl.push _⟩,?_,?_,CmpOf.ints_gt (fun j=>(is[j]?).getD 0) (fun j v hP=>hb2 j v (by simpa using hP)),fun v h' tk hP hk=>?_⟩
   . intro b hb
     simp only [wK,BJ,or_false] at hb; rcases hb with rfl | rfl
     . exact xA (wW _ rfl)
     . exact xA (wN _ e2)
   . rw [wZ,hb1]; exact m2
   . have hP':its[argBest (fun i j=>decide ((is[i]?).getD 0>(is[j]?).getD 0)) (its.toArray.size - 1)]? = some v:=by simpa using hP
     rw [wZ,hb1] at hP'; obtain ⟨t,rfl⟩:=hb2 _ _ hP'; rw [m1]; exact ⟨.int M,H,I.kept (pM hk),⟨t,rfl⟩,q _ G H (Grow.refl hG) rfl⟩
 . cases e
theorem lX (C:Cxt P w K mg base X N sc k df) (h:okGl sc "max" = true) (hm:mg "max" = none) (ha:DA X E [e] 1 fs)
   (he:wU [e] X.env=(false,eval e X.env)::wU [] X.env:=by rfl) (hpl:(zY pos (wU [] X.env)).any (·.1)=false:=by rfl):DE X E (.Call (.Name "max" p) [e] [] pos) (vFn fs Sv) :=
 Ip C (bF C.calm) h hm (by decide +kernel) ha he hpl
noncomputable def Ep (z:Str):wF->Option wF
 | .str y=>match occurrences z y 0 z.length 1 with
   | i::_=>some (.int i)
   | []=>none
 | _=>none
theorem kQ:MtR X "str.index" (fun x vs H Q=>∃ z y i L3,x=.str z/\vs=[.str y]/\occurrences z y 0 z.length 1=i::L3/\Q (.int (i:Nat)) H):=by
 rintro pins s Z H x vs v us Q I rx rv ⟨z,y,i,L3,e1,e2,e,q⟩;subst e1 e2;obtain ⟨t,rfl⟩:=rx;obtain ⟨u,rfl,ru⟩:=rv.one;obtain ⟨t2,rfl⟩:=ru;exact PySem.SC.index e ⟨.int i,H,I.tok _,⟨_,rfl⟩,q⟩
end
end Sm
end
noncomputable section
namespace Sm
open PySem PySem.Spec PyProof.Rows L2
noncomputable section
variable {X:Cx} {E:EK} {a b:Expr} {f g:Dn->Res wF} {x:Str} {i:Nat}
noncomputable def Lp (g f:Dn->Res wF):Dn->Res wF:=fun δ=>(g δ).bind fun z=>match z with
 | .str z=>(f δ).bind fun d=>ofO (Ep z d)
 | _=>.no
theorem mB {apos cpos:Pos} (hb:DE X E b g) (ha:DE X E a f) (hbase:o8 b "index" X.env (eval b X.env)=eval b X.env:=by rfl)
   (hfew:((zY cpos (wU [a] X.env)).all (fun x => !x.1)&&(FJ cpos (BX [] X.env)).all (fun x=>x.1.isSome)
     && decide ([a].length+([]:List AX).length+(if ([]:List AX).isEmpty then 0 else 1) < 30))=true:=by rfl)
   (hline:(apos.endLine==cpos.line)=true:=by rfl) (hs:wU [a] X.env=(false,eval a X.env)::wU [] X.env:=by rfl) (hplain:(zY cpos (wU [] X.env)).any (·.1)=false:=by rfl) :
   DE X E (.Call (.Attribute b "index" apos) [a] [] cpos) (Lp g f):=by
 refine PE.imp (Xl HC PySem.F.slot_str_index PySem.F.type_str_index kQ hb (O8 ha Y5 hs) hbase hfew hline hs hplain) fun Z H Q hZ3=>?_;obtain ⟨G,δ,S,aft⟩:=hZ3;refine J2 S aft fun d0 v0 G0 H0 g0 r0 S0 a0=>?_;cases d0 with
 | str z =>
   cases r0.1;refine ⟨rfl,?_⟩; refine J2 S0 a0 fun d v G1 H1 g1 r1 S1 a1=>?_;cases d with
   | str y =>
     cases r1.1;cases eo:AC z y 0 z.length 1 with
     | nil=>simp only [Ep,eo] at a1; exact (show False from a1).elim
     | cons i L3 =>
       simp only [Ep,eo] at a1; exact ⟨z,y,i,L3,rfl,rfl,eo,a1 _ G1 H1 (Grow.refl S1.sub) rfl⟩
   | _=>exact (show False from a1).elim
 | _=>exact (show False from a0).elim
end
end Sm
end
noncomputable section
namespace Sm
open PySem PySem.Spec PyProof.Rows L2
end Sm
end
noncomputable section
namespace Sm
open PySem PySem.Spec PyProof.Rows L2
end Sm
end
noncomputable section
namespace Sm
open PySem PySem.Spec PyProof.Rows L2
open AutoSeq1 (wpAny_loadPart')
end Sm
end
noncomputable section
namespace Sm
open PySem PySem.Spec PyProof.Rows L2
end Sm
end
noncomputable section
namespace Sm
open PySem PySem.W PyProof.Rows
noncomputable section
variable {prog:xN} {w:xT} {A:yS} {E:wI->wJ->Prop} {s:wJ}
theorem Va {T:String} {r d:wR} {n:Nat} {P:Nat->wI->Prop} {OK:yQ->Prop} {Q:List wI->wJ->Prop} (K:KdlSrc prog w T r d n P OK) (hh:A.handled=none) (hok:OK s.heap) (hn:n<=sizeLine)
   (hQ:∀ (h':yQ) tk acc,(∀ b o,s.heap.get? b=some o->h'.get? b=some o)->ItemsOf P acc n->Q acc.toList { s with heap:=h',toks:=tk }):wpAny (xH prog w) A (collect (.ref r)) Q E s:=by
 have hlt:=K.there _ hok;have hS:(s.heap.push { cls:=.type "list",data:=.seq ([]:List wI).toArray }).get? s.heap.objs.size=some { cls:=.type "list",data:=.seq #[] 0 }:=wW _ rfl;unfold collect;refine wG (HX (l4 F.entry_proto_collect ?_));rw [c6 F.plain_proto_collect _];refine wG (xZ (wH ⟨AQ F.plain_list_iadd _,l4 F.entry_list_iadd ?_⟩));rw [c6 F.plain_list_iadd _];refine zM (kdl_extend (A:=A) (s:={ s with heap:=s.heap.push { cls:=.type "list",data:=.seq ([]:List wI).toArray } })
   (R:=fun res s'=>∃ h' tk acc c,res=.ok (.ret (.ref s.heap.objs.size))/\s'={ s with heap:=h',toks:=tk }/\(∀ b o,s.heap.get? b=some o->h'.get? b=some o) /\
     h'.get? s.heap.objs.size=some { cls:=.type "list",dict:=none,data:=.seq acc c,slots := #[] }/\ItemsOf P acc n)
   K hh (K.keep _ _ hok fun b _ o e=>wN _ e) s.heap.objs.size (p6 hlt.1) (p6 hlt.2) (.ref s.heap.objs.size) 0 hS
   (fun h' tk acc c hk hS' hacc=>⟨h',tk,acc,c,rfl,rfl,fun b o e=>hk b o (xU (xA e)) (wN _ e),hS',hacc⟩) hn) (fun fin s' h=>?_) (fun e s' h=>?_)
 . cases fin with
   | done f =>
     obtain ⟨h',tk,acc,c,e,rfl,hk,hS',hacc⟩:=h; cases e; exact wG (HY hS' (wH (hQ h' tk acc hk hacc)))
   | again c' =>
     refine ⟨h.1,AG h.2 fun r s'' hr=>?_⟩;obtain ⟨h',tk,acc,c,rfl,rfl,hk,hS',hacc⟩:=hr; exact wG (HY hS' (wH (hQ h' tk acc hk hacc)))
 . obtain ⟨_,_,_,_,e,_⟩:=h
   cases e
end
end Sm
end
noncomputable section
namespace Sm
open PySem PySem.Spec PyProof.Rows L2
end Sm
end
noncomputable section
namespace Sm
open PySem PySem.Spec PyProof.Rows L2
end Sm
end
noncomputable section
namespace Sm
open PySem PySem.Spec
end Sm
end
noncomputable section
namespace Sm
open PySem PySem.Spec PyProof.Rows L2
end Sm
end
noncomputable section
namespace Sm
open PySem PySem.Spec PyProof.Rows L2
abbrev Kvs:=List (wF×wF)
noncomputable def Dx (g1:Dn->Out) (g2:Dn->Res Kvs):Dn->Res Kvs:=fun δ=>match g1 δ with
 | .nx δ'=>g2 δ'
 | .exc c=>.exc c
 | _=>.no
noncomputable def fnW (N:List Str) (g:Dn->Res Kvs):List wF->Res Kvs:=fun ds=>g (M6 N ds)
noncomputable def Hj (fs:Dn->Res (List wF)) (m:List wF->Res Kvs):Dn->Res Kvs:=fun δ=>(fs δ).bind m
noncomputable section
variable {X:Cx} {E:EK} {a:Expr} {st:n8}
noncomputable def sNo:Dn->Out:=fun _=>.no
theorem s_no:DS X E st sNo:=fun G0 H0 pins s Z H D I hZ8=>by obtain ⟨G,δ,S,a⟩:=hZ8; exact a.elim
end
end Sm
end
noncomputable section
namespace Sm
open PySem PySem.Spec PyProof.Rows L2
theorem Ty:Slot "reversed" "__init__" "object.__init__" :=
 .of (owner := "object") (n := "__init__") (by rw [AT,m9]; kernel_rfl) (by decide +kernel) (by decide +kernel) (by decide +kernel) (by first | exact .inl (by decide +kernel) | exact .inr (by decide +kernel)) (by rw [AB]; kernel_rfl)
theorem Ji:TypeCalled "reversed" "reversed.__new__" "object.__init__" :=
 ⟨by decide +kernel,by decide +kernel,⟨_,_,F.mro_reversed⟩,F.made_reversed,by decide +kernel,F.sub_reversed_self,Ty⟩
theorem U4:Slot "reversed" "__next__" "reversed.__next__" :=
 .of (owner := "reversed") (n := "__next__") (by rw [AT,m9]; kernel_rfl) (by decide +kernel) (by decide +kernel) (by decide +kernel) (by first | exact .inl (by decide +kernel) | exact .inr (by decide +kernel)) (by rw [AB]; kernel_rfl)
theorem Ie:Slot "reversed" "__iter__" "reversed.__iter__" :=
 .of (owner := "reversed") (n := "__iter__") (by rw [AT,m9]; kernel_rfl) (by decide +kernel) (by decide +kernel) (by decide +kernel) (by first | exact .inl (by decide +kernel) | exact .inr (by decide +kernel)) (by rw [AB]; kernel_rfl)
theorem Fx:IH table "reversed.__next__" = some f9.«reversed.__next__» := entryFor_of_tree ⋯
theorem Qn:IH table "reversed.__iter__" = some f9.«dict_keyiterator.__iter__» := by
 exact IG (id' := "dict_keyiterator.__iter__") ⋯ (by decide +kernel) (by decide +kernel) ⋯
theorem Ig (a:wI):HA "reversed.__next__" ⟨[a],[]⟩:=by unfold HA; kernel_rfl
theorem Tz (a:wI):HA "reversed.__iter__" ⟨[a],[]⟩:=by unfold HA; kernel_rfl
theorem nP:typeLookup (.type "tuple") "__reversed__" = pure none:=by rw [AT,m9]; kernel_rfl
theorem nR:isSubtype (.type "tuple") (.type "dict")=pure false:=by rw [AB]; kernel_rfl
def IsRvT (h:yQ) (a l:wR) (i:Int):Prop:=∃ o,h.get? a=some o/\o.cls=.type "reversed" /\ o.data=.fields #[.ref l,y9 i]
noncomputable section
variable {prog:xN} {w:xT} {A:yS} {E:wI->wJ->Prop} {s:wJ}
theorem IsRvT.typeIs {a l:wR} {i:Int} (x:IsRvT s.heap a l i):s.TypeIs (.ref a) "reversed" := let ⟨o,ho,hc,_⟩:=x; ⟨o,ho,hc⟩
theorem nS {l:wR} {items:Array wI} {Q₁:wI->wJ->Prop} (hl:ES s.heap l items) (hz:items.size<=sizeLine)
   (h:∀ tk,Q₁ (.ref s.heap.objs.size) { s with heap:=s.heap.push { cls:=.type "reversed",data:=.fields #[.ref l,y9 ((items.size:Int) - 1)] },toks:=tk }) :
   CK (xH prog w) A (.call (.builtin "reversed.__new__") ⟨[.type "reversed",.ref l],[]⟩) (wants Q₁ E) s:=by
 refine HJ (wG (m6 (F.newCall_reversed_1 _) (wH ⟨AQ F.plain_reversed_new _,l4 F.entry_reversed_new ?_⟩)));rw [c6 F.plain_reversed_new _];unfold f9.«reversed.__new__»;refine wG (m6 (newClass_reversed _) (wG (m6 (a:=()) (by first | rfl | kernel_rfl) (wG (m6 (a:=()) (by first | rfl | kernel_rfl) ?_)))));refine wG (l3 hl.typeIs nP ?_);try dsimp only
 refine wG (wG (AE hl.typeIs nR ?_));simp only [xY,if_false];refine wG (l3 hl.typeIs FU.lookup ?_);dsimp only;rw [if_pos (by decide +kernel)];refine wH ?_;simp only [FE,xY,if_false];have hn:=Dk;refine wG (len_tuple hl (by lia) (wG (m6 (a:=some (items.size:Int)) rfl ?_)));refine wG ?_;show wpAny _ _ (newObj (p0 "reversed") (.fields #[.ref l,y9 ((items.size:Int) - 1)])) _ _ _;exact xZ (wH (h _))
theorem nT {l:wR} {items:Array wI} {Q:wI->wJ->Prop} (hl:ES s.heap l items) (hz:items.size<=sizeLine)
   (h:∀ tk,Q (.ref s.heap.objs.size) { s with heap:=s.heap.push { cls:=.type "reversed",data:=.fields #[.ref l,y9 ((items.size:Int) - 1)] },toks:=tk }):wpAny (xH prog w) A (call (.type "reversed") [.ref l]) Q E s:=by
 refine callType_codes (Q₁:=fun obj t=>t.TypeIs obj "reversed" /\ Q obj t) Ji (F.typeCall_reversed_1 _) F.entry_object_init (nS hl hz fun tk=>⟨⟨_,wW _ rfl,rfl⟩,h tk⟩) fun obj t ht=>?_;exact ⟨ht.1,F.args_object_init_2 obj _,object_init_meets Ji.init.lookup Ji.made (by decide) prog w A.in1 _ t ⟨ht.1,rfl,ht.2⟩⟩
theorem nQ {it l:wR} {i:Nat} {items:Array wI} {x:wI} {Q:Option wI->wJ->Prop} (hit:IsRvT s.heap it l (i:Int)) (hl:ES s.heap l items) (hz:items.size<=sizeLine) (hx:items[i]? = some x)
   (hQ:∀ h' tk,IsRvT h' it l ((i:Int) - 1)->k9 it s.heap h'->Q (some x) { s with heap:=h',toks:=tk }):wpAny (xH prog w) A (pyNext (.ref it)) Q E s:=by
 obtain ⟨o,ho,hc,hd⟩:=id hit;have hi:i < items.size:=by
   rcases DP i items.size with h | h
   . exact h
   . simp [h] at hx
 have hn:=Dk;unfold pyNext;refine wG (o7 ?_);refine yN (name:=g9 "__next__") hit.typeIs U4 ?_;refine yE U4 hit.typeIs Fx ?_ (Ig _);unfold f9.«reversed.__next__»;refine wG (m6 (a:=(f8 it,[])) rfl ?_);try dsimp only
 refine wG (BE ho hd (x:=.ref l) rfl (wG (BE ho hd (x:=y9 (i:Int)) rfl ?_)));show wpAny _ _ (if (i:Int) < 0 then _ else _) _ _ s;rw [if_neg (by lia)];refine wG (l3 hl.typeIs FU.lookup ?_);rw [if_neg (by simp)];refine wG (wpAny_mkInt (wG (o7 ?_)));refine getItem_tuple (s:={ s with toks:=s.toks+1 }) (j:=i) hl (by lia) (by lia) ?_ hx ?_
 . unfold seqIndex?
   first | (simp; lia) | (rw [if_neg (by lia),if_pos (by lia)]; simp) | (split <;> simp_all <;> lia)
 . try dsimp only
   refine wG (BE (s:={ s with toks:=s.toks+1 }) ho hd (x:=y9 (i:Int)) rfl ?_); show wpAny _ _ (GH (.ref it) 1 (y9 ((i:Int) - 1))>>=_) _ _ _;refine wG (CQ (s:={ s with toks:=s.toks+1 }) ho hd (by simp) ?_);refine wH ⟨x,rfl,wH (hQ _ _ ?_ (c7 ..))⟩; exact ⟨_,zB _ ho (EA (p5 hd _)),(Obj.cls_mapFields ..).trans hc,by rw [p5 hd]; simp⟩
theorem sY {it l:wR} {j:Int} {Q:Option wI->wJ->Prop} (hj:j < 0) (hh:A.handled=none) (hit:IsRvT s.heap it l j)
   (hQ:∀ h',CM it s.heap h'->Q none { s with heap:=h' }):wpAny (xH prog w) A (pyNext (.ref it)) Q E s:=by
 obtain ⟨o,ho,hc,hd⟩:=id hit;unfold pyNext;refine wG (o7 ?_);refine yN (name:=g9 "__next__") hit.typeIs U4 ?_;refine yE U4 hit.typeIs Fx ?_ (Ig _);unfold f9.«reversed.__next__»;refine wG (m6 (a:=(f8 it,[])) rfl ?_);try dsimp only
 refine wG (BE ho hd (x:=.ref l) rfl (wG (BE ho hd (x:=y9 j) rfl ?_)));show wpAny _ _ (if j < 0 then _ else _) _ _ s;rw [if_pos hj];refine wG (zW ?_);have ho1:=zB (HK (·.setIfInBounds 1 (y9 (-1)))) ho (EA (p5 hd _));have hd1:=p5 hd (fun a=>a.setIfInBounds 1 (y9 (-1)));refine wG ?_;show wpAny _ _ (GH (.ref it) 1 (y9 (-1))>>=fun _=>GH (.ref it) 0 .none) _ _ _;refine wG (CQ ho hd (by simp) (CQ ho1 hd1 (by simp) (wG ?_)))
 show wpAny _ _ (newExc (.type "StopIteration") []>>=_) _ _ _;refine wG ?_;simp only [newExc,newTuple];refine wG (xZ ?_ (by size_fits));refine wG (m:=BM _ _) (m6 (a:=a8) (by first | rfl | (simp only [BM]; rfl)) (xZ ?_ (by size_fits)));simp only [raiseNew];refine wG (wpAny_handled ?_);rw [show A.in1.handled=none from hh];refine wG (wH (wpAny_throw (wG ?_)));refine AE (T := "StopIteration") (b:=true) ⟨_,wW _ rfl,rfl⟩ IE ?_;refine wH (hQ _ (HM (HM ?_ _) _))
 intro b ob hb eb;exact ((c7 ..).extBut b ob hb ((c7 ..).extBut b ob hb eb))
theorem bZ {it l:wR} {i:Int} {Q:wI->wJ->Prop} (hit:IsRvT s.heap it l i) (h:Q (.ref it) s):wpAny (xH prog w) A (GX (.ref it)) Q E s:=by
 refine DG hit.typeIs Ie (yE Ie hit.typeIs Qn ?_ (Tz _));show wpAny _ _ (ret (.ref it)) _ _ s;exact wH ⟨_,rfl, "reversed",_,hit.typeIs,U4.lookup,h⟩
end
def ItV (K:wM) (a:wR) (n:Nat):It :=
 ⟨fun i H=>i < n/\∃ xs x,SqT K H a xs/\xs.length=n/\xs[n - 1 - i]? = some x,fun i H x H'=>H'=H/\∀ xs,SqT K H a xs->xs[n - 1 - i]? = some x,fun i H=>n<=i⟩
theorem hJ {P:xN} {w:xT} {K:wM} {tg:Expr} (a it:wR) (n:Nat):Turn P w K tg (ItV K a n) [it] it (fun i h=>IsRvT h it a ((n:Int) - 1 - i)) where
 mem:=by simp
 obj:=fun i h st b hb=>by
   have e:b=it:=by simpa using hb
   subst e; obtain ⟨o,e,c,d⟩:=st; exact ⟨o,e,fun v z=>by rw [d] at z; cases z⟩
 keep:=fun i h h' st k=>by
   obtain ⟨o,e,r⟩:=st; exact ⟨o,k it (by simp) o e,r⟩
 item:=by
   intro X hP hw hK hc i pins s Z H E I hf st hg; subst hP hw hK; obtain ⟨hi,xs,x,hq,hn,hx⟩:=hg; obtain ⟨its,rv,p,hz⟩:=I.tuple hq; obtain ⟨u,hu,ru⟩:=rv.get hx; have hl:=rv.length; obtain ⟨f0,f1,f2,f3,f4,f5⟩:=hf it (by simp);have e1:(n:Int) - 1 - (i:Int)=((n - 1 - i:Nat):Int):=by lia
   rw [e1] at st; refine nQ st (show ES s.heap a its.toArray from p) (by simp only [wZ]; lia) (x:=u) (by simpa using hu) fun h' tk st' sb=>?_;have I1:Inv X pins Z H { s with heap:=h',toks:=tk }:=I.turned (t':=tk) (fun b o hb e=>(sb.2 b hb).trans e) f0 f1 f3 f4 f5;obtain ⟨o,e,c,d⟩:=id st'; refine ⟨u,rfl,Sn (s:={ s with heap:=h',toks:=tk }) e c d (by decide) ⟨x,H,I1,ru,⟨rfl,fun ys hy=>by rw [I.tuple_inj hy hq]; exact hx⟩,?_,fun b hb=>(hf b hb).1⟩⟩;have e2:((n - 1 - i:Nat):Int) - 1=(n:Int) - 1 - ((i+1:Nat):Int):=by lia
   rw [e2] at st'; exact st'
 done:=by
   intro X hP hw hK hc i pins s Z H E I hf st hg; subst hP hw hK; have hi:n<=i:=hg; obtain ⟨f0,f1,f2,f3,f4,f5⟩:=hf it (by simp);exact sY (by lia) (I.ok.hd hc) st fun h' eb=>⟨rfl,I.turned (t':=s.toks) (fun b o hb e=>eb b o hb e) f0 f1 f3 f4 f5⟩
 self:=fun _ _ _ _ _ st h=>bZ st h
theorem gY {K:wM} {G:Hp} {a:wR} {xs:List V} {ds:List wF} (h:G a=some (.tup xs)) (l:RepL G ds xs):Walk (ItV K a xs.length) G ds.reverse where
 go:=fun i H hi hG=>by
   have hi':i < xs.length:=by rw [<- l.length]; simpa using hi
   exact ⟨hi',xs,xs[xs.length - 1 - i],.inl (.inl (hG _ _ h)),rfl,by simp⟩
 yld:=fun i d G2 H x H' e h1 h2 hy=>by
   obtain ⟨rfl,hy⟩:=hy; have hlen:=l.length; have hi:i < ds.length:=by
     rcases DP i ds.length with z | z
     . exact z
     . rw [i9 (by simpa using z)] at e; cases e
   rw [List.getElem?_reverse hi] at e; obtain ⟨y,e1,r⟩:=l.get e; have:=hy xs (.inl (.inl (h2 _ _ (h1 _ _ h)))); rw [hlen] at e1; rw [e1] at this; cases this; exact ⟨G2,Grow.refl h2,r.mono h1⟩
 stop:=fun i H hi hG=>by
   show xs.length<=i;rw [<- l.length]; simpa using hi
noncomputable def Xa:wF->Res (List wF)
 | .tuple ds=>.ok ds.reverse
 | _=>.no
noncomputable section
variable {P:xN} {w:xT} {K:wM} {mg:Str->Option wI} {base:yQ} {X:Cx} {N:List Str} {sc:Scope} {k:Nat} {df:Bool} {E:EK} {pos p:Pos} {tg a:Expr} {f:Dn->Res wF}
theorem i_rev (C:Cxt P w K mg base X N sc k df) (h:okGl sc "reversed" = true) (hm:mg "reversed" = none) (ha:DE X E a f) (he:wU [a] X.env=(false,eval a X.env)::wU [] X.env:=by rfl) (hpl:(zY pos (wU [] X.env)).any (·.1)=false:=by rfl) :
   DI X E tg (.Call (.Name "reversed" p) [a] [] pos) (fun δ=>(f δ).bind Xa):=by
 rintro pins s Z H R I ⟨G,δ,S,aft⟩;obtain ⟨h1,h2,h3⟩:=okGl.gl C h;have hh:=Lz (R:=fun v H1=>∃ v0 G1 d,[v]=[v0]/\Same G1 H1/\Rep G1 d v0/\AftI E G1 H1 (Xa d) R) (W:=fun G H r=>AftI E G H r R) S aft (fun g a=>AftI.grow g a) (fun c a=>a) (fun a=>a) fun d v G1 H1 g1 r1 S1 a1=>⟨v,G1,d,rfl,S1.sub,r1,a1⟩;refine BA (Oi I h1 (by rw [C.hmg]; exact hm) (show AH "reversed" = some (.type "reversed") by decide +kernel) ?_ h3 h2);refine o9 (thn ((O8 ha Y5 he) pos pins s Z H (fun vs H1=>∃ v G1 d,vs=[v]/\Same G1 H1/\Rep G1 d v/\AftI E G1 H1 (Xa d) R) I ?_) fun us s1 ⟨vs,H1,I1,rx,v,G1,d,ev,hG,rd,a1⟩=>?_) he hpl
 . exact hh
 . subst ev
   obtain ⟨u,rfl,ru⟩:=Vals.one rx;cases d with
   | tuple ds =>
     obtain ⟨q,xs,rfl,hq,l1⟩:=rd; cases ru; obtain ⟨zz,its,rv,e1⟩:=Jj I1 hG hq; have hl:=rv.length; refine nT (show ES s1.heap q its.toArray from e1) (by simp only [wZ]; lia) fun tk=>?_;have I2:Inv X pins Z H1 { s1 with heap:=s1.heap.push { cls:=.type "reversed",data:=.fields #[.ref q,y9 ((its.toArray.size:Int) - 1)] },toks:=tk }:=I1.kept (t':=tk) fun b o e=>wN _ e;have st:IsRvT (s1.heap.push { cls:=.type "reversed",data:=.fields #[.ref q,y9 ((its.toArray.size:Int) - 1)] }) s1.heap.objs.size q ((xs.length:Int) - 1 - ((0:Nat):Int)):=⟨_,wW _ rfl,rfl,by simp [hl]⟩
     refine bZ (s:={ s1 with heap:=s1.heap.push { cls:=.type "reversed",data:=.fields #[.ref q,y9 ((its.toArray.size:Int) - 1)] },toks:=tk }) st ?_; refine ⟨s1.heap.objs.size,[s1.heap.objs.size],_,_,H1,rfl,I2,hJ q _ xs.length,st,fun b hb=>?_,a1 _ G1 H1 (Grow.refl hG) (gY hq l1)⟩;have e:b=s1.heap.objs.size:=by simpa using hb
     subst e; exact I1.fpOk (wO _) (I1.hok.fresh (wO _))
   | _=>exact (show False from a1).elim
end
end Sm
end
noncomputable section
namespace Sm
open PySem PySem.Spec PyProof.Rows L2
end Sm
end
noncomputable section
namespace Sm
open PySem PySem.Spec PySem.W PyProof.Rows
end Sm
end
noncomputable section
namespace Sm
open PySem PySem.Spec PySem.W PyProof.Rows L2
end Sm
end
noncomputable section
namespace Sm
open PySem PySem.Spec PyProof.Rows L2
noncomputable section
variable {prog:xN} {w:xT} {A:yS} {E:wI->wJ->Prop} {s:wJ}
theorem lG {d:wR} {od:Obj} {es:Array yU} {ep:Nat} {Q:wI->wJ->Prop} (hd:(d==m8)=false) (hT:s.TypeIs (.ref d) "dict") (ho:s.heap.get? d=some od) (hdat:od.data=.dict es ep)
   (hQ:Q (.ref s.heap.objs.size) { s with heap:=s.heap.push { cls:=.type "dict_keyiterator",data:=.fields #[.ref d,.int 0 0,.int es.size 0,.int ep 0] } }) :
   wpAny (xH prog w) A (GX (.ref d)) Q E s:=by
 refine DG hT F.slot_dict_iter (yE F.slot_dict_iter hT F.entry_dict_iter ?_ (F.args_dict_iter_1 _));unfold f9.«dict.__iter__» Builtin.Dict.dictSlotNone;refine wG (wG (EU hT (wH ?_)));have hz:∀ (R:wI->wJ->Prop),wpAny (xH prog w) A.in1 (FZ d) (fun _ t=>t=s) R s:=fun R=>by
   unfold FZ; rw [hd]; exact wH rfl
 refine wG (m6 (a:=d) rfl (wG (zM (hz E) (fun _ t e=>?_) fun _ _ e=>e)));subst e;refine wG (z5 ho hdat (wG (zO ho hdat ?_)));refine wG (xZ (wH ⟨_,rfl, "dict_keyiterator",_,⟨_,wW _ rfl,rfl⟩,F.slot_dict_keyiterator_next.lookup,?_⟩));simpa [y9] using hQ
theorem kK {it d:wR} {i ep:Nat} {od:Obj} {es:Array yU} {Q:Option wI->wJ->Prop} (hit:s.heap.IsKeyIter it d i es.size ep) (hod:s.heap.get? d=some od) (hdd:od.data=.dict es ep) (hlt:i < es.size)
   (hQ:∀ h',h'.IsKeyIter it d (i+1) es.size ep->k9 it s.heap h'->Q (some es[i].key) { s with heap:=h' }):wpAny (xH prog w) A (pyNext (.ref it)) Q E s:=by
 obtain ⟨o,ho,hc,hd⟩:=id hit;have hnew:(s.heap.update it (HK (·.setIfInBounds 1 (y9 ((i:Int)+1))))).IsKeyIter it d (i+1) es.size ep:=by
   refine ⟨_,zB _ ho (EA (p5 hd _)),(Obj.cls_mapFields ..).trans hc,?_⟩; rw [p5 hd]; simp [y9]
 have hty:GQ { s with heap:=s.heap.update it (HK (·.setIfInBounds 1 (y9 ((i:Int)+1)))) } (.ref it) "dict_keyiterator" := hnew.typeIs;unfold pyNext;refine wG (o7 ?_);refine yN (name:=g9 "__next__") hit.typeIs F.slot_dict_keyiterator_next ?_;refine yE F.slot_dict_keyiterator_next hit.typeIs F.entry_dict_keyiterator_next ?_ (F.args_dict_keyiterator_next_1 _);refine wG (wH (wG (wG ?_)));refine wG (s0 hit.typeIs (wH ?_));refine wG (BL ho hd ?_)
 simp only [show DM "dict_keyiterator" = false by decide,xY,if_false];show wpAny _ _ (if (f8 d==a8)=true then _ else _) _ _ s;rw [if_neg (by exact j0)];refine wG (wH (wG (z5 hod hdd ?_)));rw [if_neg (by simp)];refine wG (wH (wG (zO hod hdd ?_)));rw [if_neg (by simp)];refine wH ?_;simp only [show ¬ ((i:Int) < 0) from by lia,if_false,CP,yC hlt];refine wG (wG (s0 hit.typeIs (wH ?_)))
 refine wG (EV hit.typeIs ?_);show wpAny _ _ (GH (.ref it) 1 (y9 ((i:Int)+1))>>=_) _ _ s;refine wG (CQ ho hd (by simp) (wG (yR ?_)));refine wG (EV hty ?_);first
   | exact wH (wH ⟨_,rfl,wH (hQ _ hnew (c7 ..))⟩)
   | (refine wG (EV hty ?_); exact wH (wH ⟨_,rfl,wH (hQ _ hnew (c7 ..))⟩))
theorem pX {it d:wR} {i ep:Nat} {od:Obj} {es:Array yU} {Q:Option wI->wJ->Prop} (hh:A.handled=none) (hi:es.size<=i) (hit:s.heap.IsKeyIter it d i es.size ep) (hod:s.heap.get? d=some od) (hdd:od.data=.dict es ep)
   (hQ:∀ h',CM it s.heap h'->Q none { s with heap:=h' }):wpAny (xH prog w) A (pyNext (.ref it)) Q E s:=by
 obtain ⟨o,ho,hc,hd⟩:=id hit;unfold pyNext;refine wG (o7 ?_);refine yN (name:=g9 "__next__") hit.typeIs F.slot_dict_keyiterator_next ?_;refine yE F.slot_dict_keyiterator_next hit.typeIs F.entry_dict_keyiterator_next ?_ (F.args_dict_keyiterator_next_1 _);refine wG (wH (wG (wG ?_)));refine wG (s0 hit.typeIs (wH ?_));refine wG (BL ho hd ?_);simp only [show DM "dict_keyiterator" = false by decide,xY,if_false]
 show wpAny _ _ (if (f8 d==a8)=true then _ else _) _ _ s;rw [if_neg (by exact j0)];refine wG (wH (wG (z5 hod hdd ?_)));rw [if_neg (by simp)];refine wG (wH (wG (zO hod hdd ?_)));rw [if_neg (by simp)];refine wH ?_;simp only [show ¬ ((i:Int) < 0) from by lia,if_false,CP,AS hi];refine wG (wG (s0 hit.typeIs (wH ?_)));show wpAny _ _ (GH (.ref it) 0 .none>>=_) _ _ s;refine wG (CQ ho hd (by simp) ?_)
 show wpAny _ _ (newExc (.type "StopIteration") []>>=_) _ _ _;refine wG ?_;simp only [newExc,newTuple];refine wG (xZ ?_ (by size_fits));refine wG (m:=BM _ _) (m6 (a:=a8) (by first | rfl | (simp only [BM]; rfl)) (xZ ?_ (by size_fits)));simp only [raiseNew];refine wG (wpAny_handled ?_);rw [show A.in1.handled=none from hh];refine wG (wH (wpAny_throw (wG ?_)));refine AE (T := "StopIteration") (b:=true) ⟨_,wW _ rfl,rfl⟩ IE ?_;exact wH (hQ _ (((c7 ..).extBut.push _).push _))
end
end Sm
end
noncomputable section
namespace Sm
open PySem PySem.Spec PyProof.Rows L2
end Sm
end
noncomputable section
namespace Sm
open PySem PySem.Spec PyProof.Rows L2
end Sm
end
noncomputable section
namespace Sm
open PySem PySem.Spec PyProof.Rows PySem.W L2
structure NAt (h:yQ) (v:wI) (d:wF):Prop where
 rd:∃ as,Reads h v d as
 nk:d=.none\/(isK d=true/\((∃ xs,d=.tuple xs)\/∃ z,d=.str z))
 lay:d.canLay0=true
 dp:d.depth<=8
theorem Jt {a b:wF} (ha:a=.none\/(isK a=true/\((∃ xs,a=.tuple xs)\/∃ z,a=.str z))) (hb:b=.none\/(isK b=true/\((∃ xs,b=.tuple xs)\/∃ z,b=.str z))):xE a b=true↔a=b:=by
 rcases ha with rfl | ⟨ha,ha'⟩
 . rcases hb with rfl | ⟨_,⟨ys,rfl⟩ | ⟨z,rfl⟩⟩
   . exact ⟨fun _=>rfl,fun _=>rfl⟩
   . exact ⟨fun h=>(by simp [xE] at h),fun h=>nomatch h⟩
   . exact ⟨fun h=>(by simp [xE] at h),fun h=>nomatch h⟩
 . rcases hb with rfl | ⟨hb,_⟩
   . rcases ha' with ⟨xs,rfl⟩ | ⟨z,rfl⟩
     . exact ⟨fun h=>(by simp [xE] at h),fun h=>nomatch h⟩
     . exact ⟨fun h=>(by simp [xE] at h),fun h=>nomatch h⟩
   . exact eqvK _ _ ha hb
noncomputable section
variable {prog:xN} {w:xT} {A:yS} {E:wI->wJ->Prop} {s:wJ}
theorem NAt.val {h:yQ} {v:wI} {d:wF} (x:NAt h v d):(d=.none/\v=.none)\/(∃ z t,d=.str z/\v=.str z t)\/∃ b,v=.ref b:=by
 obtain ⟨as,r⟩:=x.rd;rcases x.nk with rfl | ⟨_,⟨xs,rfl⟩ | ⟨z,rfl⟩⟩
 . cases r; exact .inl ⟨rfl,rfl⟩
 . cases r; exact .inr (.inr ⟨_,rfl⟩)
 . cases r; exact .inr (.inl ⟨_,_,rfl,rfl⟩)
theorem NAt.hash {v:wI} {d:wF} {Q:Int->wJ->Prop} (x:NAt s.heap v d) (hu:A.units+8 < k5) (q:∀ tk,Q (T9 w d) { s with toks:=tk }):wpAny (xH prog w) A (pyHash v) Q E s:=by
 obtain ⟨as,r⟩:=x.rd;rcases x.nk with rfl | ⟨hk,hk'⟩
 . cases r
   unfold pyHash; have hv:[a8].any Value.onHeap=false:=rfl; have hT:s.TypeIs a8 "NoneType" := rfl; refine wG ?_; rw [cRoomFor,if_neg (by rw [hv]; decide)];refine wH (wG (l3 hT F.slot_NoneType_hash.lookup ?_)); show wpAny _ _ (if (some (Value.builtin "NoneType.__hash__")==some a8)=true then _ else _) Q E s;rw [if_neg (by rw [GZ]; decide)];refine wG (l3 hT F.slot_NoneType_hash.lookup ?_); show wpAny _ _ (callSpecialIfBoundUnlessNone? a8 "__hash__" _>>=_) Q E s;refine wG (wpAny_callSpecialIfBoundUnlessNone?_slot hT F.slot_NoneType_hash (yE F.slot_NoneType_hash hT F.entry_NoneType_hash (show wpAny _ _ (do ret (<- mkInt 0xFCA86420)) _ _ s from wpAny_ret_mkInt ?_) (F.args_NoneType_hash_1 _)))
   show wpAny _ _ (if (decide (-(2:Int) ^ 63<=0xFCA86420)&&decide ((0xFCA86420:Int) < 2 ^ 63))=true then _ else _) Q E _;rw [if_pos (by decide)]; exact wH (q _)
 . have e:T9 w d=Yh w d:=by rcases hk' with ⟨_,rfl⟩ | ⟨_,rfl⟩ <;> rfl
   rw [e] at q; exact Oq _ _ as A s Q hk r (by have:=x.dp; lia) fun tk _=>q tk
theorem NAt.quiet {v:wI} {d:wF} {Q:Bool->wJ->Prop} (x:NAt s.heap v d) (q:Q true s):wpAny (xH prog w) A (eqIsQuiet 8 v) Q E s:=by
 obtain ⟨as,r⟩:=x.rd;rcases x.nk with rfl | ⟨hk,hk'⟩
 . cases r; exact wH q
 . exact Kt 8 _ _ as s Q hk x.dp r q
theorem NAt.eq {v u:wI} {a b:wF} {Q:Bool->wJ->Prop} (x:NAt s.heap v a) (y:NAt s.heap u b) (hu:A.units+8 < k5) (q:Q (xE a b) s):wpAny (xH prog w) A (eqBool v u) Q E s:=by
 obtain ⟨as,r⟩:=x.rd;obtain ⟨bs,r'⟩:=y.rd;exact SeqAt.eqBoolOverData prog w A E s v u a b as bs Q r r' x.lay y.lay (by have:=x.dp; lia) q
structure EsN (w:xT) (h:yQ) (es:Array yU) (ks:List wF):Prop where
 len:es.size=ks.length
 ent:∀ (i:Nat) e,es[i]? = some e->∃ k,ks[i]? = some k/\NAt h e.key k/\e.hash=T9 w k
 nd:ks.Nodup
theorem aV {d:wR} {o:Obj} {es:Array yU} {ep:Nat} {ks:List wF} {key:wI} {k:wF} {Q:Option Nat->wJ->Prop} (hu:A.units+8 < k5) (ho:s.heap.get? d=some o) (hd:o.data=.dict es ep) (N:EsN w s.heap es ks) (x:NAt s.heap key k)
   (q1:∀ i,ks[i]? = some k->Q (some i) s) (q0:k∉ks->Q none s):wpAny (xH prog w) A (dictFind d key (T9 w k)) Q E s:=by
 have same:∀ i j a,ks[i]? = some a->ks[j]? = some a->i=j:=fun i j a h1 h2=>by
   have hi:=(xM.mp h1).1; have hj:=(xM.mp h2).1; have e1:=(xM.mp h1).2; have e2:=(xM.mp h2).2; exact (List.getElem_inj (h₀:=hi) (h₁:=hj) N.nd).mp (e1.trans e2.symm)
 unfold dictFind;try with_reducible refine yR ?_
 refine wG (z5 ho hd ?_);dsimp only;have hin:∀ i∈placesWithHash es.size (fun i=>es[i]?.map (·.hash)) (T9 w k),∃ e,es[i]? = some e/\(e.hash==T9 w k)=true:=fun i hi=>by
   unfold placesWithHash at hi; have:=(yY.mp hi).2; simp only at this;cases he:es[i]? with
   | none=>rw [he] at this; cases this
   | some e=>rw [he] at this; exact ⟨e,rfl,by simpa using this⟩
 have hat:∀ i,ks[i]? = some k->i∈placesWithHash es.size (fun i=>es[i]?.map (·.hash)) (T9 w k):=fun i hi=>by
   have hlt:i < es.size:=by rw [N.len]; exact (xM.mp hi).1
   have he:es[i]? = some es[i]:=yC hlt; obtain ⟨k',e1,_,e3⟩:=N.ent i _ he; rw [hi] at e1; cases e1; unfold placesWithHash; refine yY.mpr ⟨o5.mpr hlt,?_⟩; show (es[i]?.map (·.hash)==some (T9 w k))=true;rw [he]; simp [e3]
 have hnd:(placesWithHash es.size (fun i=>es[i]?.map (·.hash)) (T9 w k)).Nodup:=List.Pairwise.filter _ List.nodup_range;generalize placesWithHash es.size (fun i=>es[i]?.map (·.hash)) (T9 w k)=places at *;have lst:∀ i,(ks[i]? = some k->i∈([]:List Nat))->ks[i]? ≠ some k:=fun i h z=>nomatch h z;have no:(∀ i,ks[i]? = some k->i∈([]:List Nat))->k∉ks:=fun h z=>by
   obtain ⟨i,hi⟩:=DU.mp z; exact nomatch h i hi
 have plain:wpAny (xH prog w) A (dictWalkPlain d key (T9 w k) es places) Q E s:=by
   unfold dictWalkPlain; refine wG ?_; refine BT _ (fun L3 r s'=>s'=s/\r=(none,())/\(∀ i∈L3,i∈places)/\∀ i,ks[i]? = some k->i∈L3) _ ?_ ?_ _ _ ⟨rfl,rfl,fun _ h=>h,hat⟩
   . rintro i more r s' ⟨rfl,rfl,hsub,hall⟩
     obtain ⟨e,he,hh⟩:=hin i (hsub i (.head _)); obtain ⟨k',e1,y,_⟩:=N.ent i e he; rw [he]; dsimp only; rw [if_pos hh]; refine wG (zO ho hd ?_); refine wG (y.eq x hu ?_); refine wG (zO ho hd ?_); rw [if_neg (by simp)];by_cases c:k'=k
     . subst c
       rw [if_pos ((Jt y.nk x.nk).mpr rfl)]; refine wG (zW (wH ?_)); exact wH (q1 i e1)
     . rw [if_neg (fun z=>c ((Jt y.nk x.nk).mp z))]
       refine wG (zW (wH ?_)); refine ⟨rfl,rfl,fun j hj=>hsub j (.tail _ hj),fun j hj=>?_⟩;rcases wK.mp (hall j hj) with rfl | z
       . rw [e1] at hj; cases hj; exact absurd rfl c
       . exact z
   . rintro r s' ⟨rfl,rfl,_,hall⟩
     exact wH (q0 (no hall))
 have hwalk : ∀ (f : Nat -> Option (Option Nat) × Option Nat -> Sem (ForInStep (Option (Option Nat) × Option Nat))), (∀ i e k' r2 (Q' : ForInStep (Option (Option Nat) × Option Nat) -> wJ -> Prop), es[i]? = some e -> (e.hash == T9 w k) = true -> NAt s.heap e.key k' ->
     (k'=k->r2=none/\Q' (.done (some (some i),none)) s/\Q' (.yield (none,some i)) s)->(k'≠k->Q' (.yield (none,r2)) s)->wpAny (xH prog w) A (f i (none,r2)) Q' E s) ->
     wpAny (xH prog w) A (forIn places (none,none) f) (fun r s'=>s'=s/\((r.1=none/\((r.2=none/\k∉ks)\/∃ i,r.2=some i/\ks[i]? = some k))\/∃ i,r.1=some (some i)/\ks[i]? = some k)) E s:=fun f hf=>by
   refine BT _ (fun L3 r s'=>s'=s/\r.1=none/\(∀ i∈L3,i∈places)/\L3.Nodup/\((r.2=none/\∀ i,ks[i]? = some k->i∈L3)\/∃ i,r.2=some i/\ks[i]? = some k/\i∉L3)) _ ?_ ?_ _ _ ⟨rfl,rfl,fun _ h=>h,hnd,.inl ⟨rfl,hat⟩⟩
   . rintro i more ⟨r1,r2⟩ s' ⟨rfl,rfl,hsub,hn,hr⟩
     obtain ⟨e,he,hh⟩:=hin i (hsub i (.head _)); obtain ⟨k',e1,y,_⟩:=N.ent i e he; rw [zC] at hn; refine hf i e k' r2 _ he hh y (fun c=>?_) fun c=>?_
     . subst c
       have h2:r2=none:=by
         rcases hr with ⟨z,_⟩ | ⟨j,_,z2,z3⟩
         . exact z
         . exact absurd (same i j _ e1 z2▸yZ) z3
       exact ⟨h2,⟨rfl,.inr ⟨i,rfl,e1⟩⟩,rfl,rfl,fun j hj=>hsub j (.tail _ hj),hn.2,.inr ⟨i,rfl,e1,hn.1⟩⟩
     . refine ⟨rfl,rfl,fun j hj=>hsub j (.tail _ hj),hn.2,?_⟩
       rcases hr with ⟨z,hall⟩ | ⟨j,z1,z2,z3⟩
       . refine .inl ⟨z,fun j hj=>?_⟩
         rcases wK.mp (hall j hj) with rfl | z'
         . rw [e1] at hj; cases hj; exact absurd rfl c
         . exact z'
       . exact .inr ⟨j,z1,z2,fun z=>z3 (.tail _ z)⟩
   . rintro ⟨r1,r2⟩ s' ⟨rfl,rfl,_,_,hr⟩
     rcases hr with ⟨rfl,hall⟩ | ⟨j,rfl,z2,_⟩
     . exact ⟨rfl,.inl ⟨rfl,.inl ⟨rfl,no hall⟩⟩⟩
     . exact ⟨rfl,.inl ⟨rfl,.inr ⟨j,rfl,z2⟩⟩⟩
 have tell:∀ (Q':Bool->wJ->Prop),Q' false s->wpAny (xH prog w) A (tableMayTell key (places.filterMap fun i=>es[i]?.map (·.key))) Q' E s:=fun Q' q'=>by
   unfold tableMayTell;split
   . exact wH q'
   . refine wG (x.quiet ?_)
     rw [if_neg (by decide)]; refine wG ?_; refine BT _ (fun L3 r s'=>s'=s/\r=(none,())/\∀ v∈L3,∃ k',NAt s.heap v k') _ ?_ ?_ _ _ ⟨rfl,rfl,fun v hv=>?_⟩
     . rintro v more r s' ⟨rfl,rfl,hr⟩
       obtain ⟨k',y⟩:=hr v (.head _); refine wG (y.quiet ?_); rw [if_neg (by decide)]; exact wH ⟨rfl,rfl,fun v hv=>hr v (.tail _ hv)⟩
     . rintro r s' ⟨rfl,rfl,_⟩
       exact wH q'
     . obtain ⟨i,_,hi⟩:=FG.mp hv
       cases he:es[i]? with
       | none=>rw [he] at hi; cases hi
       | some e =>
         rw [he] at hi; have hk:e.key=v:=by simpa using hi
         obtain ⟨k',_,y,_⟩:=N.ent i e he; exact ⟨k',hk▸y⟩
 have fork:∀ (m:Bool->Sem (Option Nat)),wpAny (xH prog w) A (m false) Q E s->wpAny (xH prog w) A (if ((places.filterMap fun i=>es[i]?.map (·.key))==[key])=true then (pure false>>=m) else (tableMayTell key (places.filterMap fun i=>es[i]?.map (·.key))>>=m)) Q E s:=fun m h=>by
   split
   . exact wG (wH h)
   . exact wG (tell _ h)
 rcases x.val with ⟨_,rfl⟩ | ⟨z,t,rfl,rfl⟩ | ⟨b,rfl⟩
 . dsimp only
   by_cases hc:(a8::places.filterMap fun i=>es[i]?.map (·.key)).all II=true
   . rw [if_pos hc]; exact plain
   . rw [if_neg hc]
     refine fork _ ?_; rw [if_neg (by simp)]; refine wG (zM (hwalk _ fun i e k' r2 Q' he hh y c1 c0=>?_) (fun r s' z=>?_) fun _ _ z=>z)
     . dsimp only
       rw [he]; dsimp only; rw [if_pos hh]; refine wG (zO ho hd (wG (y.eq x hu (wG (zO ho hd ?_))))); rw [if_neg (by simp)];by_cases c:k'=k
       . obtain ⟨rfl,d1,d2⟩:=c1 c
         rw [if_pos ((Jt y.nk x.nk).mpr c),if_neg (by simp)]; refine wG (zW ?_);split
         . exact wH d1
         . exact wH d2
       . rw [if_neg (fun z=>c ((Jt y.nk x.nk).mp z))]
         refine wG (zW ?_); rw [if_neg (by simp)]; exact wH (c0 c)
     . obtain ⟨r1,r2⟩:=r
       obtain ⟨rfl,z⟩:=z; rcases z with ⟨rfl,z⟩ | ⟨i,rfl,z⟩
       . rcases z with ⟨rfl,z⟩ | ⟨i,rfl,z⟩
         . exact wH (q0 z)
         . exact wH (q1 i z)
       . exact wH (q1 i z)
 . by_cases hall:(es.all fun e=>isExactStrKey e.key)=true
   . dsimp only
     rw [if_pos hall]; have isk:∀ (i:Nat) e,es[i]? = some e->(e.key.isStr z=true↔ks[i]? = some (.str z)):=fun i e he=>by
       obtain ⟨k',e1,y,_⟩:=N.ent i e he; rw [e1]; rcases y.val with ⟨rfl,hv⟩ | ⟨z',t',rfl,hv⟩ | ⟨b,hv⟩
       . rw [hv]; exact ⟨fun h=>(by cases h),fun h=>absurd h (by simp)⟩
       . rw [hv]
         show (z'==z)=true↔_;rw [beq_iff_eq]; exact ⟨fun h=>(by rw [h]),fun h=>(by cases h; rfl)⟩
       . rw [hv]
         have:=FF.mp hall e (Array.mem_of_getElem? he); rw [hv] at this; cases this
     unfold foundByValue;cases hf:es.findIdx? (·.key.isStr z) with
     | none =>
       refine wH (q0 fun hm=>?_);obtain ⟨i,hi⟩:=DU.mp hm; have hlt:i < es.size:=by rw [N.len]; exact (xM.mp hi).1
       have:=Array.findIdx?_eq_none_iff.mp hf es[i] (Array.getElem_mem hlt); rw [(isk i _ (yC hlt)).mpr hi] at this; cases this
     | some i =>
       obtain ⟨hlt,hp,_⟩:=Array.findIdx?_eq_some_iff_getElem.mp hf; have he:es[i]? = some es[i]:=yC hlt; have hi:=(isk i _ he).mp hp; obtain ⟨k',e1,y,_⟩:=N.ent i _ he; rw [hi] at e1; cases e1; dsimp only; rw [he]; dsimp only; refine wG (zO ho hd (wG (y.eq x hu (wG (zO ho hd ?_))))); rw [if_neg (by simp),if_pos ((Jt y.nk x.nk).mpr rfl)]; exact wG (zW (wH (q1 i hi)))
   . dsimp only
     rw [if_neg hall];by_cases hc:(Value.str z t::places.filterMap fun i=>es[i]?.map (·.key)).all II=true
     . rw [if_pos hc]; exact plain
     . rw [if_neg hc]
       refine fork _ ?_; rw [if_neg (by simp)]; refine wG (zM (hwalk _ fun i e k' r2 Q' he hh y c1 c0=>?_) (fun r s' z=>?_) fun _ _ z=>z)
       . dsimp only
         rw [he]; dsimp only; rw [if_pos hh]; refine wG (zO ho hd (wG (y.eq x hu (wG (zO ho hd ?_))))); rw [if_neg (by simp)];by_cases c:k'=.str z
         . obtain ⟨rfl,d1,d2⟩:=c1 c
           rw [if_pos ((Jt y.nk x.nk).mpr c),if_neg (by simp)]; refine wG (zW ?_);split
           . exact wH d1
           . exact wH d2
         . rw [if_neg (fun z=>c ((Jt y.nk x.nk).mp z))]
           refine wG (zW ?_); rw [if_neg (by simp)]; exact wH (c0 c)
       . obtain ⟨r1,r2⟩:=r
         obtain ⟨rfl,z⟩:=z; rcases z with ⟨rfl,z⟩ | ⟨i,rfl,z⟩
         . rcases z with ⟨rfl,z⟩ | ⟨i,rfl,z⟩
           . exact wH (q0 z)
           . exact wH (q1 i z)
         . exact wH (q1 i z)
 . dsimp only
   by_cases hc:(f8 b::places.filterMap fun i=>es[i]?.map (·.key)).all II=true
   . rw [if_pos hc]; exact plain
   . have hno : (es.any fun e => e.key == .ref b && e.hash != T9 w k) = false := by
       rw [Array.any_eq_false]; intro i hi; obtain ⟨k',e1,y,e3⟩:=N.ent i es[i] (yC hi);by_cases c:es[i].key=.ref b
       . have : k' = k := by
           rw [c] at y; obtain ⟨as,r1⟩:=x.rd; obtain ⟨bs,r2⟩:=y.rd; exact SeqAt.Reads.unique k' k _ _ _ y.lay r2 r1
         rw [e3,this]; simp
       . intro z
         rw [xC] at z; exact c (i7 z.1)
     rw [if_neg hc,if_neg (by rw [hno]; decide)];refine fork _ ?_; rw [if_neg (by simp)]; refine wG (zM (hwalk _ fun i e k' r2 Q' he hh y c1 c0=>?_) (fun r s' z=>?_) fun _ _ z=>z)
     . dsimp only
       rw [he]; dsimp only; rw [if_pos hh]; refine wG (zO ho hd (wG (y.eq x hu (wG (zO ho hd ?_))))); rw [if_neg (by simp)];by_cases c:k'=k
       . obtain ⟨rfl,d1,d2⟩:=c1 c
         rw [if_pos ((Jt y.nk x.nk).mpr c),if_neg (by simp)]; refine wG (zW ?_);split
         . exact wH d1
         . exact wH d2
       . rw [if_neg (fun z=>c ((Jt y.nk x.nk).mp z))]
         refine wG (zW ?_); rw [if_neg (by simp)]; exact wH (c0 c)
     . obtain ⟨r1,r2⟩:=r
       obtain ⟨rfl,z⟩:=z; rcases z with ⟨rfl,z⟩ | ⟨i,rfl,z⟩
       . rcases z with ⟨rfl,z⟩ | ⟨i,rfl,z⟩
         . exact wH (q0 z)
         . exact wH (q1 i z)
       . exact wH (q1 i z)
end
end Sm
end
noncomputable section
namespace Sm
open PySem PySem.Spec PyProof.Rows PySem.W L2
noncomputable section
variable {prog:xN} {w:xT} {A:yS} {E:wI->wJ->Prop} {s:wJ}
theorem hu8 {A:yS} (h:A.units+16 < k5):A.in1.units+8 < k5:=by simp only [Around.in1_units]; lia
theorem EsN.get {h:yQ} {es:Array yU} {ks:List wF} (N:EsN w h es ks) {i:Nat} {k:wF} (hi:ks[i]? = some k):∃ e,es[i]? = some e:=by
 have hlt:i < es.size:=by rw [N.len]; exact (xM.mp hi).1
 exact ⟨_,yC hlt⟩
theorem Ju {d:wR} {o:Obj} {es:Array yU} {ep:Nat} {ks:List wF} {key:wI} {k:wF} {Q:Option wI->wJ->Prop} (hu:A.units+8 < k5) (ho:s.heap.get? d=some o) (hd:o.data=.dict es ep) (N:EsN w s.heap es ks) (x:NAt s.heap key k)
   (q1:∀ (i:Nat) (e:yU) tk,ks[i]? = some k->es[i]? = some e->Q (some e.val) { s with toks:=tk }) (q0:∀ tk,k∉ks->Q none { s with toks:=tk }):wpAny (xH prog w) A (dictGet d key) Q E s:=by
 unfold dictGet;try with_reducible refine yR ?_
 refine wG (x.hash hu fun tk=>?_);refine wG (aV (s:={ s with toks:=tk }) hu ho hd N x (fun i hi=>?_) fun hn=>wH (q0 tk hn));obtain ⟨e,he⟩:=N.get hi;refine wG (z5 (s:={ s with toks:=tk }) ho hd (wH ?_));rw [he];exact q1 i e tk hi he
theorem aP (d:wR) (key dflt:wI) (hd:(d==m8)=false):MeetsIn prog w (f9.«dict.get» ⟨[.ref d,key,dflt],[]⟩) (fun A R s=>∃ (o:Obj) (es:Array yU) (ep:Nat) (ks:List wF) (k:wF),A.units+16 < k5/\s.heap.get? d=some o/\o.data=.dict es ep/\EsN w s.heap es ks/\NAt s.heap key k /\
   (∀ (i:Nat) (e:yU) tk,ks[i]? = some k->es[i]? = some e->R (.ok (.ret e.val)) { s with toks:=tk })/\∀ tk,k∉ks->R (.ok (.ret dflt)) { s with toks:=tk }) :=
 .of_wp fun A R s hZ3=>by
   obtain ⟨o,es,ep,ks,k,hu,ho,hD,N,x,h1,h0⟩:=hZ3; show wpAny _ _ (dictGet d key>>=_) _ _ s;refine wG (Ju (hu8 hu) ho hD N x (fun i e tk hi he=>wH ⟨_,rfl,h1 i e tk hi he⟩) fun tk hn=>?_);show wpAny _ _ (Builtin.Dict.missed d key>>=_) _ _ _;exact wG (wpAny_missed_other hd (wH ⟨dflt,rfl,h0 tk hn⟩))
theorem fQ (d:wR) (key:wI) (hd:(d==m8)=false):MeetsIn prog w (f9.«dict.__contains__» ⟨[.ref d,key],[]⟩) (fun A R s=>∃ (o:Obj) (es:Array yU) (ep:Nat) (ks:List wF) (k:wF),A.units+16 < k5/\s.heap.get? d=some o/\o.data=.dict es ep/\EsN w s.heap es ks/\NAt s.heap key k /\
   (∀ tk,k∈ks->R (.ok (.ret (.bool true))) { s with toks:=tk })/\∀ tk,k∉ks->R (.ok (.ret (.bool false))) { s with toks:=tk }) :=
 .of_wp fun A R s hZ3=>by
   obtain ⟨o,es,ep,ks,k,hu,ho,hD,N,x,h1,h0⟩:=hZ3; show wpAny _ _ (dictGet d key>>=_) _ _ s;refine wG (Ju (hu8 hu) ho hD N x (fun i e tk hi he=>wH ⟨_,rfl,h1 tk (c8 hi)⟩) fun tk hn=>?_);show wpAny _ _ (Builtin.Dict.pendingKey? d key>>=_) _ _ _;exact wG (wpAny_pendingKey_other hd (wH ⟨_,rfl,h0 tk hn⟩))
theorem Xv (d:wR) (key:wI):MeetsIn prog w (f9.«dict.__getitem__» ⟨[.ref d,key],[]⟩) (fun A R s=>∃ (o:Obj) (es:Array yU) (ep:Nat) (ks:List wF) (k:wF),A.units+16 < k5/\s.heap.get? d=some o/\o.data=.dict es ep/\EsN w s.heap es ks/\NAt s.heap key k/\k∈ks /\
   (∀ (i:Nat) (e:yU) tk,ks[i]? = some k->es[i]? = some e->R (.ok (.ret e.val)) { s with toks:=tk })) :=
 .of_wp fun A R s hZ3=>by
   obtain ⟨o,es,ep,ks,k,hu,ho,hD,N,x,hm,h1⟩:=hZ3; show wpAny _ _ (dictGet d key>>=_) _ _ s;exact wG (Ju (hu8 hu) ho hD N x (fun i e tk hi he=>wH ⟨_,rfl,h1 i e tk hi he⟩) fun tk hn=>absurd hm hn)
theorem Qs (d:wR) (key dflt:wI) (hd:(d==m8)=false):MeetsIn prog w (f9.«dict.setdefault» ⟨[.ref d,key,dflt],[]⟩) (fun A R s=>∃ (L:List yU) (ep:Nat) (ks:List wF) (k:wF),A.units+16 < k5/\s.heap.get? d=some { cls:=.type "dict",data:=.dict (HR L) ep }/\L.length<=sizeLine/\EsN w s.heap L.toArray ks/\NAt s.heap key k /\
   (∀ (i:Nat) (e:yU) tk,ks[i]? = some k->L[i]? = some e->R (.ok (.ret e.val)) { s with toks:=tk }) /\
   ∀ (h':yQ) (tk:Nat),k∉ks->(∀ b o,b≠d->s.heap.get? b=some o->h'.get? b=some o)->h'.get? d=some { cls:=.type "dict",data:=.dict (L++[DictEntry.mk (T9 w k) key dflt]).toArray (ep+1) }->R (.ok (.ret dflt)) { s with heap:=h',toks:=tk }) :=
 .of_wp fun A R s hZ3=>by
   obtain ⟨L,ep,ks,k,hu,ho,hz,N,x,h1,h0⟩:=hZ3; unfold f9.«dict.setdefault»;refine wG ?_; unfold Builtin.Dict.keyAndDefault; refine wG (EU ⟨_,ho,rfl⟩ ?_); show wpAny _ _ (pure (d,key,some dflt)) _ _ s;refine wH ?_; show wpAny _ _ (if (d==m8)=true then _ else (dictSetDefault d key dflt>>=_)) _ _ s;rw [if_neg (by rw [hd]; exact j0)];refine wG ?_; unfold dictSetDefault;try with_reducible refine yR ?_
   refine wG (x.hash (hu8 hu) fun tk=>?_);refine wG (aV (s:={ s with toks:=tk }) (hu8 hu) ho rfl N x (fun i hi=>?_) fun hn=>?_)
   . obtain ⟨e,he⟩:=N.get hi
     refine wG (z5 (s:={ s with toks:=tk }) ho rfl ?_); rw [he]; exact wG (zW (wH (wH ⟨_,rfl,h1 i e tk hi (by simpa using he)⟩)))
   . refine wG (zW (wG (wpAny_updateDictKeys (hz:=by simpa using hz) (s:={ s with toks:=tk }) ho rfl (wH (wH ⟨dflt,rfl,h0 _ tk hn (fun b o hb e=>?_) ?_⟩)))))
     . exact (ET _ _ _ _ hb).trans e
     . have:=zB (DQ fun x=>x.push ⟨T9 w k,key,dflt⟩) ho (EY (Obj.data_mapDictKeys rfl _))
       rw [this]; simp [DQ]
end
end Sm
end
noncomputable section
namespace Sm
open PySem PySem.Spec PyProof.Rows PySem.W L2
mutual
theorem Ya {H:Hp}:∀ {d:wF} {v:V},KRep H d v->Rep H d v
 | .none,_,r=>r
 | .int _,_,r=>r
 | .str _,_,r=>r
 | .tuple _,_,r=>by obtain ⟨b,xs,e,q,l⟩:=r; exact ⟨b,xs,e,q,Sd l⟩
 | .bool _,_,r=>(show False from r).elim
 | .list _,_,r=>(show False from r).elim
 | .dict _,_,r=>(show False from r).elim
theorem Sd {H:Hp}:∀ {ds:List wF} {xs:List V},KRepL H ds xs->RepL H ds xs
 | [],_,r=>r
 | _::_,_,r=>by obtain ⟨x,t,e,q,l⟩:=r; exact ⟨x,t,e,Ya q,Sd l⟩
end
mutual
theorem Xb {G H:Hp} (hG:Same G H):∀ {d:wF} {v:V},isK d=true->Rep G d v->KRep H d v
 | .int _,_,_,r=>r
 | .str _,_,_,r=>r
 | .tuple _,_,k,r=>by obtain ⟨b,xs,e,q,l⟩:=r; exact ⟨b,xs,e,hG _ _ q,Rt hG (by simpa [isK] using k) l⟩
 | .none,_,k,_=>by simp [isK] at k
 | .bool _,_,k,_=>by simp [isK] at k
 | .list _,_,k,_=>by simp [isK] at k
 | .dict _,_,k,_=>by simp [isK] at k
theorem Rt {G H:Hp} (hG:Same G H):∀ {ds:List wF} {xs:List V},Gr ds=true->RepL G ds xs->KRepL H ds xs
 | [],_,_,r=>r
 | _::_,_,k,r=>by
   simp only [Gr,xC] at k; obtain ⟨x,t,e,q,l⟩:=r; exact ⟨x,t,e,Xb hG k.1 q,Rt hG k.2 l⟩
end
theorem O2 {d:wF} (hn:nkD d=true):(d=.none\/(isK d=true/\((∃ xs,d=.tuple xs)\/∃ z,d=.str z)))/\d.depth<=8:=by
 unfold nkD at hn;split at hn
 . exact ⟨.inl rfl,by simp [yX]⟩
 . exact ⟨.inr ⟨by simp [isK],.inr ⟨_,rfl⟩⟩,by simp [yX]⟩
 . rw [xC] at hn
   exact ⟨.inr ⟨by simpa [isK] using hn.1,.inl ⟨_,rfl⟩⟩,of_decide_eq_true hn.2⟩
 . cases hn
theorem Nx {G H:Hp} (hG:Same G H) {d:wF} {v:V} (hn:nkD d=true) (r:Rep G d v):KRep H d v:=by
 rcases (O2 hn).1 with rfl | ⟨k,_⟩
 . exact r
 . exact Xb hG k r
noncomputable def N5 (kvs:List (wF×V)) (k:wF):Option V:=(kvs.find? fun p=>xE p.1 k).map (·.2)
noncomputable def J3 (kvs:List (wF×wF)) (k:wF):Option wF:=(kvs.find? fun p=>xE p.1 k).map (·.2)
theorem Ik {G:Hp} {k:wF}:∀ {kvs:List (wF×wF)} {kk:List (wF×V)},kvs.map (·.1)=kk.map (·.1)->RepL G (kvs.map (·.2)) (kk.map (·.2)) ->
   (J3 kvs k=none/\N5 kk k=none)\/∃ d v,J3 kvs k=some d/\N5 kk k=some v/\Rep G d v
 | [],[],_,_=>.inl ⟨rfl,rfl⟩
 | [],_::_,e,_=>by cases e
 | _::_,[],e,_=>by cases e
 | p::kvs,q::kk,e,r=>by
   simp only [wQ,z8] at e; obtain ⟨x,t,ex,rx,l⟩:=r; simp only [wQ,z8] at ex; unfold J3 N5; rw [xW,xW,e.1];cases hq:xE q.1 k with
   | true=>exact .inr ⟨p.2,q.2,rfl,rfl,by rw [ex.1]; exact rx⟩
   | false=>exact Ik (k:=k) e.2 (by rw [ex.2]; exact l)
theorem En {k:wF} (hk:nkD k=true):∀ {kk:List (wF×V)} {i:Nat} {v:V},(∀ p∈kk,nkD p.1=true)->(kk.map (·.1)).Nodup->kk[i]? = some (k,v)->N5 kk k=some v
 | [],_,_,_,_,h=>by simp at h
 | p::kk,i,v,hn,nd,h=>by
   unfold N5; rw [xW]; have hp:=Jt (O2 (hn p (.head _))).1 (O2 hk).1;cases i with
   | zero =>
     simp at h;subst h; rw [hp.mpr rfl]; rfl
   | succ i =>
     rw [wQ,zC] at nd; have hm:(k,v)∈kk:=c8 (by simpa using h);cases hq:xE p.1 k with
     | true=>exact absurd (by rw [hp.mp hq]; exact yP hm) nd.1
     | false=>exact En hk (fun q hq=>hn q (.tail _ hq)) nd.2 (by simpa using h)
theorem Il {k:wF} (hk:nkD k=true) {kk:List (wF×V)} (hn:∀ p∈kk,nkD p.1=true) (h:k∉kk.map (·.1)):N5 kk k=none:=by
 unfold N5;rw [List.find?_eq_none.mpr]; · rfl
 intro p hp z;exact h (by rw [<- (Jt (O2 (hn p hp)).1 (O2 hk).1).mp z]; exact yP hp)
theorem Paired.at' {α β:Type} {F:α->β->Prop}:∀ {l₁:List α} {l₂:List β} {i:Nat} {a:α},a9 F l₁ l₂->l₁[i]? = some a->∃ b,l₂[i]? = some b/\F a b
 | _,_,i,_,.nil,h=>by simp at h
 | _,_,0,_,.cons r _,h=>by simp at h; subst h; exact ⟨_,rfl,r⟩
 | _,_,i+1,_,.cons _ t,h=>Paired.at' (i:=i) t (by simpa using h)
noncomputable section
variable {X:Cx} {pins:List (wR×Obj)} {Z:St} {H:Hp} {s:wJ} {a:wR} {A:yS} {E:wI->wJ->Prop}
theorem Jm (I:Inv X pins Z H s) {d:wF} {v:V} {u:wI} (r:KRep H d v) (hv:RelV v u) (hn:nkD d=true):NAt s.heap u d:=by
 have rr:=Ya r;exact ⟨rr.reads I (Same.refl _) hv,(O2 hn).1,rr.lay,(O2 hn).2⟩
abbrev PrN (H:Hp):wF×V->wI×wI->Prop:=fun p q=>(∃ v,KRep H p.1 v/\RelV v q.1)/\RelV p.2 q.2
theorem Lu {w:xT} {kvs:List (wF×V)} {xs:List (wI×wI)} (r:a9 (PrN H) kvs xs) {i:Nat} {e:yU} (he:(O3 w kvs xs)[i]? = some e) :
   ∃ p q,kvs[i]? = some p/\xs[i]? = some q/\PrN H p q/\e=⟨T9 w p.1,q.1,q.2⟩:=by
 unfold O3 at he;rw [List.getElem?_zipWith] at he;cases hp:kvs[i]? with
 | none=>rw [hp] at he; simp at he
 | some p =>
   obtain ⟨q,hq,hF⟩:=Paired.at' r hp; rw [hp,hq] at he; simp at he;exact ⟨p,q,rfl,hq,hF,he.symm⟩
theorem Paired.len' {α β:Type} {F:α->β->Prop}:∀ {l₁:List α} {l₂:List β},a9 F l₁ l₂->l₁.length=l₂.length
 | _,_,.nil=>rfl
 | _,_,.cons _ t=>by simp [Paired.len' t]
theorem Ot (I:Inv X pins Z H s) {kvs:List (wF×V)} {xs:List (wI×wI)} (r:a9 (PrN H) kvs xs) (nk:∀ p∈kvs,nkD p.1=true) (nd:(kvs.map (·.1)).Nodup):EsN X.w s.heap (O3 X.w kvs xs).toArray (kvs.map (·.1)) where
 len:=by
   have:=Paired.len' r; simp [O3,this]
 ent:=fun i e he=>by
   obtain ⟨p,q,h1,h2,⟨⟨v,h3,h4⟩,h5⟩,rfl⟩:=Lu r (by simpa using he);exact ⟨p.1,by rw [xQ,h1]; rfl,Jm I h3 h4 (nk p (c8 h1)),rfl⟩
 nd:=nd
theorem uM {kvs:List (wF×V)} {kd:wF} {y d:V} {u r:wI} {Q:wI->wJ->Prop} (hu:A.units+16 < k5) (I:Inv X pins Z H s) (e:Rd H a (.dN kvs)) (rk:KRep H kd y) (hk:nkD kd=true) (ry:RelV y u) (rd:RelV d r)
   (h:∀ w' s',Inv X pins Z H s'->RelV ((N5 kvs kd).getD d) w'->Q w' s'):wpAny (xH X.prog X.w) A (call (.builtin "dict.get") [.ref a,u,r]) Q E s:=by
 obtain ⟨z,hd,nd,nk,xs,rel,ep,e1⟩:=e.ok I.hok;refine GL F.slot_dict_get ⟨_,e1,rfl⟩ F.entry_dict_get (F.args_dict_get_3 _ _ _) (aP a u r hd) ⟨_,_,ep,kvs.map (·.1),kd,hu,e1,rfl,Ot I rel nk nd,Jm I rk ry hk,fun i e tk hi he=>h _ _ (I.tok _) ?_,fun tk hn=>h _ _ (I.tok _) ?_⟩
 . obtain ⟨p,q,h1,h2,⟨_,h5⟩,rfl⟩:=Lu rel (by simpa using he)
   rw [xQ,h1] at hi; have hp:p=(kd,p.2):=by
     have:p.1=kd:=by simpa using hi
     rw [<- this]
   rw [hp] at h1; rw [En hk nk nd h1]; exact h5
 . rw [Il hk nk hn]
   exact rd
end
def sN (td ty tx:TE):TE:=fun Z H Q=>td Z H fun x H1=>∃ a kvs,x=.ref a/\Rd H1 a (.dN kvs)/\ty Z H1 fun y H2=>tx Z H2 fun z H3=>∃ kvs kd,Rd H3 a (.dN kvs)/\KRep H3 kd y/\nkD kd=true/\Q ((N5 kvs kd).getD z) H3
noncomputable section
variable {X:Cx} {o e f:Expr} {apos cpos:Pos} {td ty tx:TE}
theorem jU (hu:X.A.units+16 < k5) (ho:PE X o td) (he:PE X e ty) (hf:PE X f tx) (m:M2 X o "get" apos e f cpos):PE X (.Call (.Attribute o "get" apos) [e,f] [] cpos) (sN td ty tx):=by
 intro pins s Z H Q I h;refine wpAny_Call_method m.base m.few m.line GR PySem.F.slot_dict_get PySem.F.type_dict_get (thn (ho pins s Z H _ I h) fun u s1 hZ2=>?_);obtain ⟨x,H1,I1,rx,a,kvs,ex,d,q1⟩:=hZ2;subst ex;obtain rfl:u=f8 a:=rx;obtain ⟨_,_,_,_,_,_,ep,e1⟩:=d.ok I1.hok;refine ⟨⟨_,e1,rfl⟩,fun b q=>by cases q; exact ⟨_,e1,rfl⟩,?_⟩;rw [m.trees];refine AR rfl (EB (AJ (thn (he pins s1 Z H1 _ I1 q1) fun iv s2 hY79=>?_)));obtain ⟨y,H2,I2,ry,q2⟩:=hY79;refine AJ (thn (hf pins s2 Z H2 _ I2 q2) fun fv s3 hY80=>?_)
 obtain ⟨z,H3,I3,rz,kvs,kd,g,rk,hk,q3⟩:=hY80;refine FL ?_;exact uM hu I3 g rk hk ry rz fun w' s4 I4 rw'=>⟨_,H3,I4,rw',q3⟩
end
noncomputable def kvN (δ:Dn) (i:Nat):Option Kvs:=match δ[i]? with
 | some (.ow (.tuple [.dict kvs,.none]))=>some kvs
 | some (.fd ((.dict [],.none)::kvs))=>some kvs
 | _=>none
theorem SR.kvN {G H:Hp} {Z:St} {δ:Dn} {i:Nat} {kvs:Kvs} (S:SR G H Z δ) (h:kvN δ i=some kvs):∃ q,∃ kk:List (wF×V),Z[i]? = some (some (.ref q))/\Rd H q (.dN kk)/\kvs.map (·.1)=kk.map (·.1)/\RepL G (kvs.map (·.2)) (kk.map (·.2)):=by
 unfold Sm.kvN at h;split at h
 . rename_i kvs' hi
   cases h; obtain ⟨q,hσ,hq,ho⟩:=S.own hi; obtain ⟨kk,hx,hk,hv⟩:=(show OwnK G H q [.dict kvs,.none] from ho);exact ⟨q,kk,hσ,.inl hx,hk,hv⟩
 . rename_i kvs' hi
   cases h; obtain ⟨q,kk,hp,hx,hk,hv⟩:=(show FdOk G (Z[i]?.join) ((.dict [],.none)::kvs) from S.sl i _ hi);refine ⟨q,kk,?_,Rd.mono S.sub hx,hk,hv⟩;cases e:Z[i]? with
   | none=>rw [e] at hp; cases hp
   | some z =>
     rw [e] at hp;cases z with
     | none=>cases hp
     | some z=>cases hp; rfl
 . cases h
noncomputable def Mb (i:Nat) (f g:Dn->Res wF):Dn->Res wF:=fun δ=>match kvN δ i with
 | some kvs=>(f δ).bind fun kd=>(g δ).bind fun dd=>if nkD kd=true then .ok ((J3 kvs kd).getD dd) else .no
 | none=>.no
noncomputable section
variable {P:xN} {w:xT} {K:wM} {mg:Str->Option wI} {base:yQ} {X:Cx} {N:List Str} {sc:Scope} {k:Nat} {df:Bool} {E:EK} {p apos cpos:Pos} {a b:Expr} {f g:Dn->Res wF} {x:Str}
theorem mC (C:Cxt P w K mg base X N sc k df) (i:Nat) (h:okVar N sc i x=true) (hk:DE X E a f) (hg:DE X E b g) (m:M2 X (.Name x p) "get" apos a b cpos:=by exact ⟨rfl,rfl,rfl,rfl⟩):DE X E (.Call (.Attribute (.Name x p) "get" apos) [a,b] [] cpos) (Mb i f g):=by
 refine PE.imp (jU (by have:=C.hu; lia) (okVar.pe C h) hk hg m) fun Z H Q hY81=>?_;obtain ⟨G,δ,S,aft⟩:=hY81;unfold Mb at aft;split at aft
 . rename_i kvs hi
   obtain ⟨q,kk,hσ,hx,hkeys,hvals⟩:=S.kvN hi; refine ⟨.ref q,hσ,q,kk,rfl,hx,?_⟩; refine J2 S aft fun kd v G1 H1 g1 r1 S1 a1=>?_;refine J2 S1 a1 fun dd v2 G2 H2 g2 r2 S2 a2=>?_;split at a2
   . rename_i hn
     refine ⟨kk,kd,Rd.mono g2.h (Rd.mono g1.h hx),Nx S2.sub hn (r1.mono g2.g),hn,?_⟩; rcases Ik (k:=kd) hkeys hvals with ⟨n1,n2⟩ | ⟨d0,v0,n1,n2,rd⟩
     . rw [n1] at a2; rw [n2]
       exact a2 _ G2 H2 (Grow.refl S2.sub) r2
     . rw [n1] at a2; rw [n2]
       exact a2 _ G2 H2 (Grow.refl S2.sub) (rd.mono (g1.g.trans g2.g))
   . exact a2.elim
 . exact aft.elim
end
end Sm
end
noncomputable section
namespace Sm
open PySem PySem.Spec PyProof.Rows PySem.W L2
theorem Yk {w:xT} {kvs:List (wF×V)} {xs:List (wI×wI)} {p:wF×V} {q:wI×wI} (h:kvs.length=xs.length):O3 w (kvs++[p]) (xs++[q])=O3 w kvs xs++[⟨T9 w p.1,q.1,q.2⟩]:=by
 unfold O3;rw [List.zipWith_append h]; rfl
theorem Paired.app' {α β:Type} {F:α->β->Prop} {a:α} {b:β} (h:F a b):∀ {l₁:List α} {l₂:List β},a9 F l₁ l₂->a9 F (l₁++[a]) (l₂++[b])
 | _,_,.nil=>.cons h .nil
 | _,_,.cons r t=>.cons r (Paired.app' h t)
noncomputable section
variable {X:Cx} {pins:List (wR×Obj)} {Z:St} {H:Hp} {s:wJ} {a:wR} {A:yS} {E:wI->wJ->Prop}
theorem uK {kvs:List (wF×V)} {kd:wF} {y d:V} {u r:wI} {Q:wI->wJ->Prop} (hu:A.units+16 < k5) (I:Inv X pins Z H s) (e:H a=some (.dN kvs)) (rk:KRep H kd y) (hk:nkD kd=true) (hz:kvs.length < sizeLine) (ry:RelV y u) (rd:RelV d r)
   (h1:∀ v w' s',N5 kvs kd=some v->Inv X pins Z H s'->RelV v w'->Q w' s') (h0:∀ s',N5 kvs kd=none->Inv X pins Z (upd H a (.dN (kvs++[(kd,d)]))) s'->Q r s'):wpAny (xH X.prog X.w) A (call (.builtin "dict.setdefault") [.ref a,u,r]) Q E s:=by
 obtain ⟨z,hd,nd,nk,xs,rel,ep,e1⟩:=I.hok a _ e;have hl:=Paired.len' rel;have hlen:(O3 X.w kvs xs).length<=sizeLine:=by
   unfold O3; rw [List.length_zipWith]; lia
 refine GL F.slot_dict_setdefault ⟨_,e1,rfl⟩ F.entry_dict_setdefault (F.args_dict_setdefault_3 _ _ _) (Qs a u r hd) ⟨_,ep,kvs.map (·.1),kd,hu,e1,hlen,Ot I rel nk nd,Jm I rk ry hk,fun i e tk hi he=>?_,fun h' tk hn hkeep hnew=>?_⟩
 . obtain ⟨p,q,g1,g2,⟨_,g5⟩,rfl⟩:=Lu rel he
   rw [xQ,g1] at hi; have hp:p=(kd,p.2):=by
     have:p.1=kd:=by simpa using hi
     rw [<- this]
   rw [hp] at g1; exact h1 p.2 _ _ (En hk nk nd g1) (I.tok _) g5
 . refine h0 _ (Il hk nk hn) ?_
   have ht:∀ b ys,H b=some (.tup ys)->(upd H a (.dN (kvs++[(kd,d)]))) b=some (.tup ys):=fun b ys z=>by
     rw [C3 (cR z e (fun z=>by cases z))]; exact z
   refine I.write (x:=a) (e:=a) (t':=tk) (by rw [e]; exact trivial) (.inl rfl) (fun b o hb q=>hkeep b o hb q) ⟨_,hnew⟩ ⟨by rw [xG]; show _+1<=_; lia,hd,?_,?_,xs++[(u,r)],?_,ep+1,?_⟩
   . rw [xR,w6]
     refine ⟨nd,by simp,fun x hx y hy=>?_⟩;have:y=kd:=by simpa using hy
     subst this; exact fun z=>hn (z▸hx)
   . intro p hp
     rcases wY.mp hp with hp | hp
     . exact nk p hp
     . rw [wX.mp hp]; exact hk
   . exact Paired.app' ⟨⟨y,rk.mono ht,ry⟩,rd⟩ (Paired.mapP rel fun p q hZ2=>by obtain ⟨⟨v,z1,z2⟩,z3⟩:=hZ2; exact ⟨⟨v,z1.mono ht,z2⟩,z3⟩)
   . rw [Yk hl]; exact hnew
end
def sM (td ty tx:TE):TE:=fun Z H Q=>td Z H fun x H1=>∃ a kvs,x=.ref a/\H1 a=some (.dN kvs)/\ty Z H1 fun y H2=>tx Z H2 fun z H3=>∃ kvs kd,H3 a=some (.dN kvs)/\KRep H3 kd y/\nkD kd=true/\kvs.length < sizeLine /\
 (∀ v,N5 kvs kd=some v->Q v H3)/\(N5 kvs kd=none->Q z (upd H3 a (.dN (kvs++[(kd,z)]))))
noncomputable section
variable {X:Cx} {o e f:Expr} {apos cpos:Pos} {td ty tx:TE}
theorem jT (hu:X.A.units+16 < k5) (ho:PE X o td) (he:PE X e ty) (hf:PE X f tx) (m:M2 X o "setdefault" apos e f cpos):PE X (.Call (.Attribute o "setdefault" apos) [e,f] [] cpos) (sM td ty tx):=by
 intro pins s Z H Q I h;refine wpAny_Call_method m.base m.few m.line GR PySem.F.slot_dict_setdefault PySem.F.type_dict_setdefault (thn (ho pins s Z H _ I h) fun u s1 hZ2=>?_);obtain ⟨x,H1,I1,rx,a,kvs,ex,d,q1⟩:=hZ2;subst ex;obtain rfl:u=f8 a:=rx;obtain ⟨_,_,_,_,_,_,ep,e1⟩:=I1.hok a _ d;refine ⟨⟨_,e1,rfl⟩,fun b q=>by cases q; exact ⟨_,e1,rfl⟩,?_⟩;rw [m.trees];refine AR rfl (EB (AJ (thn (he pins s1 Z H1 _ I1 q1) fun iv s2 hY82=>?_)));obtain ⟨y,H2,I2,ry,q2⟩:=hY82;refine AJ (thn (hf pins s2 Z H2 _ I2 q2) fun fv s3 hY83=>?_)
 obtain ⟨z,H3,I3,rz,kvs,kd,g,rk,hk,hz,q3,q4⟩:=hY83;refine FL ?_;exact uK hu I3 g rk hk hz ry rz (fun v w' s4 hv I4 rw'=>⟨v,H3,I4,rw',q3 v hv⟩) fun s4 hv I4=>⟨z,_,I4,rz,q4 hv⟩
end
noncomputable def Ln:List (wF×wF)->wF->wF->List (wF×wF)
 | [],k,v=>[(k,.list [v])]
 | p::r,k,v=>if xE p.1 k=true then (match p.2 with | .list ds=>(p.1,.list (ds++[v])) | d=>(p.1,d))::r else p::Ln r k v
end Sm
end
noncomputable section
namespace Sm
open PySem PySem.Spec PyProof.Rows PySem.W L2
noncomputable def NL (G H H1:Hp):List (wF×wF)->List (wF×wR×List V)->Prop
 | [],[]=>True
 | p::kvs,r::kk=>p.1=r.1/\(∃ ds,p.2=.list ds/\RepL G ds r.2.2)/\(H r.2.1=some (.lst r.2.2)/\G r.2.1=none/\H1 r.2.1=none)/\NL G H H1 kvs kk
 | _,_=>False
abbrev prs (kk:List (wF×wR×List V)):List (wF×V):=kk.map fun r=>(r.1,.ref r.2.1)
noncomputable section
variable {G G' H H' H1:Hp}
theorem NL.keep (g:Same G G'):∀ {kvs:List (wF×wF)} {kk:List (wF×wR×List V)},(∀ r∈kk,H r.2.1=some (.lst r.2.2)->G r.2.1=none->H1 r.2.1=none->H' r.2.1=some (.lst r.2.2)/\G' r.2.1=none)->NL G H H1 kvs kk->NL G' H' H1 kvs kk
 | [],[],_,h=>h
 | [],_::_,_,h=>h
 | _::_,[],_,h=>h
 | _::_,r::_,k,⟨h1,⟨ds,h2,h3⟩,⟨h4,h5,h6⟩,h7⟩=>⟨h1,⟨ds,h2,h3.mono g⟩,⟨(k r (.head _) h4 h5 h6).1,(k r (.head _) h4 h5 h6).2,h6⟩,NL.keep g (fun r hr=>k r (.tail _ hr)) h7⟩
theorem NL.grow (g:Grow G H G' H') {kvs:List (wF×wF)} {kk:List (wF×wR×List V)} (h:NL G H H1 kvs kk):NL G' H' H1 kvs kk:=by
 refine h.keep g.g fun r _ e n _=>⟨g.h _ _ e,?_⟩;cases q:G' r.2.1 with
 | none=>rfl
 | some u =>
   rcases g.fr _ u q with y | y | ⟨ys,rfl⟩
   . rw [n] at y; cases y
   . rw [e] at y; cases y
   . have:=g.gh _ _ q; rw [g.h _ _ e] at this; cases this
theorem NL.mem:∀ {kvs:List (wF×wF)} {kk:List (wF×wR×List V)},NL G H H1 kvs kk->∀ r∈kk,H r.2.1=some (.lst r.2.2)/\G r.2.1=none/\H1 r.2.1=none
 | [],[],_,_,m=>nomatch m
 | [],_::_,h,_,_=>h.elim
 | _::_,[],h,_,_=>h.elim
 | _::_,r::_,⟨_,_,h4,h7⟩,x,m=>by
   rcases wK.mp m with rfl | m
   . exact h4
   . exact NL.mem h7 x m
theorem NL.keys:∀ {kvs:List (wF×wF)} {kk:List (wF×wR×List V)},NL G H H1 kvs kk->kvs.map (·.1)=(prs kk).map (·.1)
 | [],[],_=>rfl
 | [],_::_,h=>h.elim
 | _::_,[],h=>h.elim
 | _::_,_::_,⟨h1,_,_,h7⟩=>by
   simp only [wQ,h1]; rw [NL.keys h7]
theorem NL.new {p:wR} {y:V} {kd vd:wF} (rv:Rep G vd y) (hp:H p=some (.lst [y])/\G p=none/\H1 p=none):∀ {kvs:List (wF×wF)} {kk:List (wF×wR×List V)},NL G H H1 kvs kk->N5 (prs kk) kd=none->NL G H H1 (Ln kvs kd vd) (kk++[(kd,p,[y])])
 | [],[],_,_=>⟨rfl,⟨[vd],rfl,RepL.cons rv rfl⟩,hp,trivial⟩
 | [],_::_,h,_=>h.elim
 | _::_,[],h,_=>h.elim
 | q::kvs,r::kk,⟨h1,h2,h4,h7⟩,e=>by
   unfold N5 at e; rw [show prs (r::kk)=(r.1,.ref r.2.1)::prs kk from rfl,xW] at e;cases z:xE r.1 kd with
   | true=>rw [z] at e; cases e
   | false =>
     rw [z] at e; unfold Ln; rw [h1,z,if_neg (by decide)]; exact ⟨h1,h2,h4,NL.new rv hp h7 e⟩
theorem NL.put {kd:wF} {v:V}:∀ {kvs:List (wF×wF)} {kk:List (wF×wR×List V)},NL G H H1 kvs kk->(kk.map (·.2.1)).Nodup->N5 (prs kk) kd=some v ->
   ∃ l xs,v=.ref l/\(∃ r∈kk,r.2=(l,xs))/\∀ (y:V) (vd:wF),Rep G vd y->∃ kk',prs kk'=prs kk/\kk'.map (·.2.1)=kk.map (·.2.1)/\(∀ r∈kk',r.2.2.length<=xs.length+1\/r∈kk)/\NL G (upd H l (.lst (xs++[y]))) H1 (Ln kvs kd vd) kk'
 | [],[],_,_,e=>by cases e
 | [],_::_,h,_,_=>h.elim
 | _::_,[],h,_,_=>h.elim
 | q::kvs,r::kk,⟨h1,⟨ds,h2,h3⟩,⟨h4,h5,h6⟩,h7⟩,nd,e=>by
   rw [wQ,zC] at nd; unfold N5 at e; rw [show prs (r::kk)=(r.1,.ref r.2.1)::prs kk from rfl,xW] at e;cases z:xE r.1 kd with
   | true =>
     rw [z] at e; cases e; refine ⟨r.2.1,r.2.2,rfl,⟨r,.head _,rfl⟩,fun y vd rv=>⟨(r.1,r.2.1,r.2.2++[y])::kk,rfl,rfl,fun x hx=>?_,?_⟩⟩
     . rcases wK.mp hx with rfl | hx
       . left; simp
       . exact .inr (.tail _ hx)
     . unfold Ln
       rw [h1,z,if_pos rfl,h2]; refine ⟨rfl,⟨ds++[vd],rfl,h3.append (RepL.cons rv rfl)⟩,⟨C0,h5,h6⟩,h7.keep (Same.refl _) fun x hx e n _=>⟨?_,n⟩⟩;rw [C3 (fun w=>nd.1 (by rw [<- w]; exact yP hx))]; exact e
   | false =>
     rw [z] at e; obtain ⟨l,xs,e1,⟨r0,m0,e0⟩,k⟩:=NL.put h7 nd.2 e; have hl:l∈kk.map (·.2.1):=xF.mpr ⟨r0,m0,by rw [e0]⟩;refine ⟨l,xs,e1,⟨r0,.tail _ m0,e0⟩,fun y vd rv=>?_⟩;obtain ⟨kk',k1,k2,k3,k4⟩:=k y vd rv; refine ⟨r::kk',congrArg (List.cons (r.1,V.ref r.2.1)) k1,congrArg (List.cons r.2.1) k2,fun x hx=>?_,?_⟩
     . rcases wK.mp hx with rfl | hx
       . exact .inr (.head _)
       . rcases k3 x hx with w | w
         . exact .inl w
         . exact .inr (.tail _ w)
     . unfold Ln
       rw [h1,z,if_neg (by decide)]; exact ⟨h1,⟨ds,h2,h3⟩,⟨by rw [C3 (fun w=>nd.1 (by rw [w]; exact hl))]; exact h4,h5,h6⟩,k4⟩
noncomputable def shG (as:List wR) (G H:Hp):Hp:=fun b=>open Classical in if b∈as then H b else G b
theorem iV {as:List wR} {b:wR} (h:b∈as):shG as G H b=H b:=by unfold shG; rw [if_pos h]
theorem Ht {as:List wR} {b:wR} (h:b∉as):shG as G H b=G b:=by unfold shG; rw [if_neg h]
theorem NL.same {kvs:List (wF×wF)} {kk:List (wF×wR×List V)} (h:NL G H H1 kvs kk):Same G (shG (kk.map (·.2.1)) G H):=fun b u e=>by
 by_cases m:b∈kk.map (·.2.1)
 . obtain ⟨r,hr,rfl⟩:=xF.mp m
   rw [(h.mem r hr).2.1] at e; cases e
 . rw [Ht m]; exact e
theorem NL.vals {as:List wR} (s:Same G (shG as G H)):∀ {kvs:List (wF×wF)} {kk:List (wF×wR×List V)},NL G H H1 kvs kk->(∀ r∈kk,r.2.1∈as)->RepL (shG as G H) (kvs.map (·.2)) ((prs kk).map (·.2))
 | [],[],_,_=>rfl
 | [],_::_,h,_=>h.elim
 | _::_,[],h,_=>h.elim
 | q::kvs,r::kk,⟨_,⟨ds,h2,h3⟩,⟨h4,_,_⟩,h7⟩,m=>by
   rw [wQ,h2]; exact RepL.cons ⟨r.2.1,r.2.2,rfl,.inl (by rw [iV (m r (.head _))]; exact h4),h3.mono s⟩ (NL.vals s h7 fun x hx=>m x (.tail _ hx))
end
theorem SR.forget {G H:Hp} {Z:St} {δ:Dn} (S:SR G H Z δ) (i:Nat):SR G H Z (δ.set i .un):=by
 have key:∀ (j:Nat) (s:Sl),(δ.set i .un)[j]? = some s->s=.un\/δ[j]? = some s:=fun j s e=>by
   rw [D9] at e;split at e
   . cases e; exact .inl rfl
   . exact .inr e
 refine ⟨S.sub,by simp [S.len],fun j s e=>?_,fun j1 j2 a d1 d2 e1 e2 h1 h2=>?_⟩
 . rcases key j s e with rfl | e
   . trivial
   . exact S.sl j s e
 . rcases key j1 _ e1 with z | e1
   . cases z
   . rcases key j2 _ e2 with z | e2
     . cases z
     . exact S.ap j1 j2 a d1 d2 e1 e2 h1 h2
theorem SSt.forget {G0 H0 G H:Hp} {Z:St} {δ:Dn} (S:SSt G0 H0 G H Z δ) (i:Nat):SSt G0 H0 G H Z (δ.set i .un) :=
 ⟨S.gr,S.sr.forget i,fun j d a e h=>by
   rw [D9] at e;split at e
   . cases e
   . exact S.fr j d a e h⟩
theorem OwnOk.off {G H H':Hp} {a:wR} {d:wF} (e:H' a=H a) (h:OwnOk G H a d):OwnOk G H' a d:=by
 cases d with
 | list ds=>obtain ⟨xs,q,r⟩:=h; exact ⟨xs,e.trans q,r⟩
 | dict kvs=>obtain ⟨xs,q,r⟩:=h; exact ⟨xs,e.trans q,r⟩
 | tuple xs=>exact OwnK.keep (Same.refl _) (fun o q=>e.trans q) h
 | _=>exact (show False from h).elim
theorem SSt.off {G0 H0 G H H':Hp} {Z:St} {δ:Dn} (S:SSt G0 H0 G H Z δ) (h0:Same H0 H') (hg:Same G H') (k:∀ (j:Nat) (d:wF) (a:wR),δ[j]? = some (.ow d)->Z[j]?.join=some (.ref a)->H' a=H a):SSt G0 H0 G H' Z δ:=by
 refine ⟨⟨S.gr.g,h0,hg,S.gr.fr⟩,⟨hg,S.sr.len,fun j s e=>?_,S.sr.ap⟩,S.fr⟩;have hs:=S.sr.sl j s e;cases s with
 | un=>trivial
 | sh d=>exact hs
 | fd _=>exact hs
 | ow d =>
   obtain ⟨a,e1,n1,ok⟩:=hs; exact ⟨a,e1,n1,ok.off (k j d a e e1)⟩
end Sm
end
noncomputable section
namespace Sm
open PySem PySem.Spec PyProof.Rows PySem.W L2
noncomputable def Qt (δ:Dn) (t:Nat) (c:Dn->Res Bool) (fk fv:Dn->Res wF):List wF->List (wF×wF)->Res Kvs
 | [],kvs=>.ok kvs
 | d::ds,kvs=>match c (δ.set t (.sh d)) with
   | .ok true=>match fk (δ.set t (.sh d)) with
     | .ok kd=>match fv (δ.set t (.sh d)) with
       | .ok vd=>if nkD kd=true then Qt δ t c fk fv ds (Ln kvs kd vd) else .no
       | _=>.no
     | _=>.no
   | .ok false=>Qt δ t c fk fv ds kvs
   | _=>.no
noncomputable def nO (i t:Nat) (src:Dn->Res (List wF)) (c:Dn->Res Bool) (fk fv:Dn->Res wF):Dn->Out:=fun δ=>match δ[i]? with
 | some (.ow (.tuple [.dict [],.none]))=>M5 (src (δ.set i .un)) fun ds=>if ds.length < 1000/\i≠t then (match Qt ((δ.set i .un).set t .un) t c fk fv ds [] with
   | .ok kvs=>.nx ((δ.set i (.ow (.tuple [.dict kvs,.none]))).set t .un)
   | _=>.no) else .no
 | _=>.no
structure GrpAt (G1 H0 H1:Hp) (i:Nat) (q:wR) (δv:Dn) (n:Nat) (τ:St) (Hc:Hp) (kvs:List (wF×wF)):Prop where
 ex:∃ Gc kk,SSt G1 H0 Gc Hc τ δv/\Gc q=none/\Hc q=some (.dN (prs kk))/\NL Gc Hc H1 kvs kk/\(kk.map (·.2.1)).Nodup/\kk.length<=n/\∀ r∈kk,r.2.2.length<=n
 hi:τ[i]? = some (some (.ref q))
 ap:∀ (j:Nat) (d:wF) (a:wR),δv[j]? = some (.ow d)->τ[j]?.join=some (.ref a)->a≠q/\∃ o,H1 a=some o
 kp:∀ b o,H1 b=some o->∃ o',Hc b=some o'
theorem Nd {H1 H:Hp} {p:wR} {o:HO} (h:∀ b o,H1 b=some o->∃ o',H b=some o'):∀ b u,H1 b=some u->∃ o',(upd H p o) b=some o':=fun b u e=>by
 by_cases z:b=p
 . subst z; exact ⟨_,C0⟩
 . rw [C3 z]; exact h b u e
theorem O7 {H1 H H':Hp} (s:Same H H') (h:∀ b o,H1 b=some o->∃ o',H b=some o'):∀ b u,H1 b=some u->∃ o',H' b=some o':=fun b u e=>by
 obtain ⟨o',z⟩:=h b u e;exact ⟨o',s _ _ z⟩
theorem Grow.stay {G H G' H':Hp} (g:Grow G H G' H') {q:wR} {o:HO} (n:G q=none) (e:H q=some o) (h:∀ ys,o≠.tup ys):G' q=none:=by
 cases z:G' q with
 | none=>rfl
 | some u =>
   rcases g.fr q u z with y | y | ⟨ys,rfl⟩
   . rw [n] at y; cases y
   . rw [e] at y; cases y
   . have:=g.gh _ _ z; rw [g.h _ _ e] at this; cases this; exact absurd rfl (h ys)
theorem Co {H0 H:Hp} {p:wR} {o:HO} (s:Same H0 H) (h:H0 p=none):Same H0 (upd H p o):=fun b u e=>by
 rw [C3 (E6 e h)]; exact s _ _ e
theorem OwnOk.monoG {G G' H:Hp} {a:wR} {d:wF} (g:Same G G') (h:OwnOk G H a d):OwnOk G' H a d:=by
 cases d with
 | list ds=>obtain ⟨xs,q,r⟩:=h; exact ⟨xs,q,r.mono g⟩
 | dict kvs=>obtain ⟨xs,q,k,r⟩:=h; exact ⟨xs,q,k,r.mono g⟩
 | tuple xs=>exact OwnK.keep g (fun o q=>q) h
 | _=>exact (show False from h).elim
noncomputable section
variable {P:xN} {w:xT} {K:wM} {mg:Str->Option wI} {base:yQ} {X:Cx} {N:List Str} {sc:Scope} {k:Nat} {df:Bool} {E:EK} {p px pl ap1 cp1 ap2 cp2 ep ip pos:Pos} {ke ve ce iter:Expr} {fk fv:Dn->Res wF} {c:Dn->Res Bool} {src:Dn->Res (List wF)} {x y:Str}
theorem s_grp (C:Cxt P w K mg base X N sc k df) (i t:Nat) (ht:okSet N sc df t y=true) (h:okVar N sc i x=true) (hi:DI X E (.Name y px) iter src) (hc:DT X E ce c) (hk:DE X E ke fk) (hv:DE X E ve fv)
   (m2:M2 X (.Name x p) "setdefault" ap1 ke (.List [] pl) cp1) (hs:∀ x,zA iter X.env x=pure x)
   (hbase:o8 (.Call (.Attribute (.Name x p) "setdefault" ap1) [ke,.List [] pl] [] cp1) "append" X.env (eval (.Call (.Attribute (.Name x p) "setdefault" ap1) [ke,.List [] pl] [] cp1) X.env)=eval (.Call (.Attribute (.Name x p) "setdefault" ap1) [ke,.List [] pl] [] cp1) X.env)
   (hfew:((zY cp2 (wU [ve] X.env)).all (fun x => !x.1)&&(FJ cp2 (BX [] X.env)).all (fun x=>x.1.isSome)&&decide ([ve].length+([]:List AX).length+(if ([]:List AX).isEmpty then 0 else 1) < 30))=true)
   (hline:(ap2.endLine==cp2.line)=true) (hst:wU [ve] X.env=(false,eval ve X.env)::wU [] X.env) (hplain:(zY cp2 (wU [] X.env)).any (·.1)=false)
   (hsw:m7 (.Call (.Attribute (.Call (.Attribute (.Name x p) "setdefault" ap1) [ke,.List [] pl] [] cp1) "append" ap2) [ve] [] cp2) none ep.line X.env=pure false) :
   DS X E (.For (.Name y px) iter [.If ce [.Expr (.Call (.Attribute (.Call (.Attribute (.Name x p) "setdefault" ap1) [ke,.List [] pl] [] cp1) "append" ap2) [ve] [] cp2) ep] [] ip] [] pos) (nO i t src c fk fv):=fun G0 H0=>by
 obtain ⟨d1,d2,d3,d4⟩:=okSet.ok C ht;have app:=Ua (pos:=ep) (Xl AD GO GN Jn (jT (by have:=C.hu; lia) (okVar.pe C h (p:=p)) hk (jV (pos:=pl) Y5) m2) (O8 hv Y5 hst) hbase hfew hline hst hplain) hsw;refine PS.imp (jP (pos:=pos) C.own C.calm hi (U5 d1 d2 d3 d4) (Lq (rR (pos:=ip) hc (Lq app) cG)) hs) fun D Z H hh=>?_;obtain ⟨G,δ,S,aft⟩:=hh;unfold nO at aft;split at aft
 . rename_i hsl
   obtain ⟨q,hσ,hgq,ho⟩:=S.sr.own hsl; obtain ⟨kk0,hx,hkeys,_⟩:=(show OwnK G H q [.dict [],.none] from ho);have hk0:kk0=[]:=by
     cases kk0 with
     | nil=>rfl
     | cons _ _=>cases hkeys
   subst hk0; have hil:i < δ.length:=(xM.mp hsl).1; have hq0:H0 q=none:=S.fr i _ q hsl (by rw [hσ]; rfl);refine mQ (S.forget i) aft fun ds J G1 H1 gr W S1 a1=>?_;split at a1
   . rename_i hcond
     obtain ⟨hlen,hit⟩:=hcond; have g01:=S1.gr;cases eout:Qt ((δ.set i .un).set t .un) t c fk fv ds [] with
     | ok out =>
       rw [eout] at a1; have S2:=(S1.forget t).rebase g01 (Same.refl _);generalize hδv:(δ.set i .un).set t .un=δv at *;have apv:∀ (j:Nat) (d:wF) (a:wR),δv[j]? = some (.ow d)->δ[j]? = some (.ow d)/\j≠i:=fun j d a e=>by
         rw [<- hδv,D9] at e;split at e
         . cases e
         . rw [D9] at e
           split at e
           . cases e
           . rename_i hn
             exact ⟨e,fun z=>by subst z; exact hn ⟨rfl,hil⟩⟩
       have hG1q:G1 q=none:=by
         cases z:G1 q with
         | none=>rfl
         | some u =>
           rcases gr.fr q u z with y | y | ⟨ys,rfl⟩
           . rw [hgq] at y; cases y
           . rw [hx] at y; cases y
           . have:=gr.gh _ _ z; rw [gr.h _ _ hx] at this; cases this
       refine ⟨fun n m τ Hc=>m=ds.length - n/\n<=ds.length/\∃ kvs,GrpAt G1 H0 H1 i q δv n τ Hc kvs/\Qt δv t c fk fv (ds.drop n) kvs=.ok out,⟨_,rfl,zI _,[],⟨⟨G1,[],S2,hG1q,gr.h _ _ hx,trivial,.nil,wO _,fun _ h=>nomatch h⟩,hσ,fun j d a e1 e2=>?_,fun b o e=>⟨o,e⟩⟩,by rw [CB]; exact eout⟩,?_⟩
       . obtain ⟨e3,hne⟩:=apv j d a e1
         refine ⟨fun z=>hne (S.sr.ap j i q d _ e3 hsl (z▸e2) (by rw [hσ]; rfl)),?_⟩;obtain ⟨a',h1,_,h3⟩:=S.sr.sl j _ e3; rw [e2] at h1; cases h1; obtain ⟨o,z⟩:=h3.some; exact ⟨o,gr.h _ _ z⟩
       rintro n m τ Hc ⟨rfl,hn,kvs,⟨⟨Gc,kk,Sc,gq,dq,nl,nd,kl,rl⟩,hτ,ap,kp⟩,eg⟩;by_cases hlt:n < ds.length
       . have hd:ds[n]? = some ds[n]:=yA hlt
         rw [zJ hlt] at eg; unfold Qt at eg; refine .inr ⟨W.go n Hc hlt (Sc.gr.g.trans Sc.sr.sub),fun τ2 H2=>∃ kvs,GrpAt G1 H0 H1 i q δv (n+1) τ2 H2 kvs/\Qt δv t c fk fv (ds.drop (n+1)) kvs=.ok out,fun τ2 H2 z=>⟨_,by lia,rfl,hlt,z⟩,fun v H'' hy=>?_⟩;obtain ⟨G3,g3,r3⟩:=W.yld n _ Gc Hc v H'' hd Sc.gr.g Sc.sr.sub hy; have S3:=(Sc.grow g3).set_sh (i:=t) r3; have nl3:=nl.grow g3; have dq3:=g3.h _ _ dq; have gq3:G3 q=none:=g3.stay gq dq fun ys z=>by cases z
         have h01:Same H0 H1:=S1.gr.h; have hback:((δv.set t (.sh ds[n])).set t .un)=δv:=by rw [<- hδv]; simp
         have hτ':(τ.set t (some v))[i]? = some (some (.ref q)):=by rw [BR (Ne.symm hit)]; exact hτ
         have htv:∀ (j:Nat) (d:wF),δv[j]? = some (.ow d)->j≠t:=fun j d e z=>by
           subst z; rw [<- hδv,D9] at e;split at e
           . cases e
           . rename_i hn
             have:=(xM.mp e).1; rw [GB] at this; exact hn ⟨rfl,by rw [GB]; exact this⟩
         have ap':∀ (j:Nat) (d:wF) (a:wR),δv[j]? = some (.ow d)->(τ.set t (some v))[j]?.join=some (.ref a)->a≠q/\∃ o,H1 a=some o:=fun j d a e1 e2=>by
           rw [BR (Ne.symm (htv j d e1))] at e2; exact ap j d a e1 e2
         have apb:∀ (j:Nat) (d:wF) (a:wR),(δv.set t (.sh ds[n]))[j]? = some (.ow d)->(τ.set t (some v))[j]?.join=some (.ref a)->a≠q/\∃ o,H1 a=some o:=fun j d a e1 e2=>by
           rw [D9] at e1;split at e1
           . cases e1
           . exact ap' j d a e1 e2
         show tIfS _ _ _ _ (τ.set t (some v)) H'';generalize hδb:δv.set t (.sh ds[n])=δb at *;generalize τ.set t (some v)=τ' at *;have fin:∀ (Gz Hz:Hp) (kz:List (wF×wF)) (kkz:List (wF×wR×List V)),SSt G1 H0 Gz Hz τ' δb->Gz q=none->Hz q=some (.dN (prs kkz))->NL Gz Hz H1 kz kkz->(kkz.map (·.2.1)).Nodup->kkz.length<=n+1->(∀ r∈kkz,r.2.2.length<=n+1)->(∀ b o,H1 b=some o->∃ o',Hz b=some o')->GrpAt G1 H0 H1 i q δv (n+1) τ' Hz kz:=fun Gz Hz kz kkz s1 s2 s3 s4 s5 s6 s7 s8=>by
           have:=s1.forget t; rw [hback] at this; exact ⟨⟨Gz,kkz,this,s2,s3,s4,s5,s6,s7⟩,hτ',ap',s8⟩
         refine ⟨G3,δb,S3.sr,?_⟩;cases ec:c δb with
         | exc _=>rw [ec] at eg; cases eg
         | no=>rw [ec] at eg; cases eg
         | ok bb =>
           rw [ec] at eg; intro G4 H4 g4; have S4:=S3.grow g4; have nl4:=nl3.grow g4; have dq4:=g4.h _ _ dq3; have kp4:=O7 g4.h (O7 g3.h kp); have gq4:G4 q=none:=g4.stay gq3 dq3 fun ys z=>by cases z
           cases bb with
           | false =>
             rw [if_neg (by decide)]; exact ⟨kvs,fin G4 H4 kvs kk S4 gq4 dq4 nl4 nd (by lia) (fun r hr=>BD (rl r hr)) kp4,eg⟩
           | true =>
             rw [if_pos rfl]; dsimp only at eg;cases efk:fk δb with
             | exc _=>rw [efk] at eg; cases eg
             | no=>rw [efk] at eg; cases eg
             | ok kd =>
               rw [efk] at eg; dsimp only at eg;cases efv:fv δb with
               | exc _=>rw [efv] at eg; cases eg
               | no=>rw [efv] at eg; cases eg
               | ok vd =>
                 rw [efv] at eg; dsimp only at eg;split at eg
                 . rename_i hnk
                   refine ⟨.ref q,hτ',q,prs kk,rfl,dq4,G4,δb,S4.sr,?_⟩; rw [efk]; intro y5 G5 H5 g5 r5; have S5:=S4.grow g5; refine ⟨zI _,fun p hp=>?_⟩;have g6:Grow G5 H5 G5 (upd H5 p (.lst [])):=Grow.own S5.sr.sub hp; have S6:=S5.grow g6; have nl6:=(nl4.grow g5).grow g6; have dq5:=g5.h _ _ dq4; have hpq:q≠p:=E6 dq5 hp; have dq6:(upd H5 p (.lst [])) q=some (.dN (prs kk)):=g6.h _ _ dq5; have gq5:G5 q=none:=g5.stay gq4 dq4 fun ys z=>by cases z
                   have hz:(prs kk).length < sizeLine:=by
                     have:(1000:Nat)<=sizeLine:=by decide
                     rw [wL]; lia
                   refine ⟨prs kk,kd,dq6,Nx S6.sr.sub hnk r5,hnk,hz,fun v0 hv0=>?_,fun hn0=>?_⟩
                   . obtain ⟨l,xs,e1,⟨r0,m0,e0⟩,_⟩:=NL.put nl6 nd hv0
                     subst e1; have hm6:=nl6.mem r0 m0; rw [e0] at hm6; refine ⟨.inl ⟨rfl,xs,.inl (.inl hm6.1)⟩,G5,δb,S6.sr,?_⟩; rw [efv]; intro y7 G7 H7 g7 r7; have S7:=S6.grow g7; have nl7:=nl6.grow g7; have dq7:=g7.h _ _ dq6; have gq7:G7 q=none:=g7.stay gq5 dq6 fun ys z=>by cases z
                     have hm7:=nl7.mem r0 m0; rw [e0] at hm7; have hxs:xs.length<=n:=by have:=rl r0 m0; rw [e0] at this; exact this
                     have hql:q≠l:=cR dq7 hm7.1 fun z=>by cases z
                     obtain ⟨l',xs',e1',⟨r1,m1,e1r⟩,kp⟩:=NL.put nl7 nd hv0;cases e1'; have hm1:=nl7.mem r1 m1; rw [e1r] at hm1; have exs:xs'=xs:=by have:=hm1.1.symm.trans hm7.1; cases this; rfl
                     subst exs; obtain ⟨kk',k1,k2,k3,k4⟩:=kp y7 vd r7; refine ⟨l,xs',y7,rfl,rfl,hm7.1,yH hxs (xB (show n < 1000 by lia) (by decide)),Ln kvs kd vd,fin G7 _ _ kk' (S7.off (Co S7.gr.h (h01.free hm7.2.2)) (Co S7.sr.sub hm7.2.1) fun j d a z1 z2=>?_) gq7 (by rw [C3 hql,k1]; exact dq7) k4 (by rw [k2]; exact nd) ?_ (fun r hr=>?_) (Nd (O7 g7.h (O7 g6.h (O7 g5.h kp4)))),eg⟩
                     . obtain ⟨_,o,ho⟩:=apb j d a z1 z2
                       rw [C3 (E6 ho hm7.2.2)]
                     . have:=congrArg AO k2
                       rw [wL,wL] at this;lia
                     . rcases k3 r hr with z | z
                       . lia
                       . exact BD (rl r z)
                   . have hH1p : H1 p = none := by
                       cases z:H1 p with
                       | none=>rfl
                       | some u =>
                         obtain ⟨o',w⟩:=O7 g5.h kp4 p u z; rw [hp] at w; cases w
                     have hG5p:G5 p=none:=S5.sr.sub.free hp; have hp6:(upd H5 p (.lst [])) p=some (.lst []):=C0; have S7:SSt G1 H0 G5 (upd (upd H5 p (.lst [])) q (.dN (prs kk++[(kd,.ref p)]))) τ' δb:=S6.off (Co S6.gr.h hq0) (Co S6.sr.sub gq5) fun j d a z1 z2=>by rw [C3 (apb j d a z1 z2).1]
                     have hp7:(upd (upd H5 p (.lst [])) q (.dN (prs kk++[(kd,.ref p)]))) p=some (.lst []):=by rw [C3 (Ne.symm hpq)]; exact hp6
                     refine ⟨.inl ⟨rfl,[],.inl (.inl hp7)⟩,G5,δb,S7.sr,?_⟩; rw [efv]; intro y8 G8 H8 g8 r8; have S8:=S7.grow g8; have hp8:=g8.h _ _ hp7; have gp8:G8 p=none:=g8.stay hG5p hp7 fun ys z=>by cases z
                     have dq7:(upd (upd H5 p (.lst [])) q (.dN (prs kk++[(kd,.ref p)]))) q=some (.dN (prs kk++[(kd,.ref p)])):=C0; have dq8:=g8.h _ _ dq7; have gq8:G8 q=none:=g8.stay gq5 dq7 fun ys z=>by cases z
                     have nl7:NL G5 (upd (upd H5 p (.lst [])) q (.dN (prs kk++[(kd,.ref p)]))) H1 kvs kk:=nl6.keep (Same.refl _) fun r _ e n _=>⟨by rw [C3 (cR e dq6 fun z=>by cases z)]; exact e,n⟩;have hne:∀ r∈kk,r.2.1≠p:=fun r hr=>E6 ((nl4.grow g5).mem r hr).1 hp;have nl9:NL G8 (upd H8 p (.lst [y8])) H1 kvs kk:=(nl7.grow g8).keep (Same.refl _) fun r hr e n _=>⟨by rw [C3 (hne r hr)]; exact e,n⟩;refine ⟨p,[],y8,rfl,rfl,hp8,by show 0 < sizeLine; decide,Ln kvs kd vd,fin G8 _ _ (kk++[(kd,p,[y8])]) (S8.off (Co S8.gr.h (h01.free hH1p)) (Co S8.sr.sub gp8) fun j d a z1 z2=>?_) gq8 ?_ (NL.new r8 ⟨C0,gp8,hH1p⟩ nl9 hn0) ?_ (by rw [xG]; show _+1<=_; lia) (fun r hr=>?_) (Nd (O7 g8.h (Nd (O7 g6.h (O7 g5.h kp4))))),eg⟩
                     . obtain ⟨_,o,ho⟩:=apb j d a z1 z2
                       show (upd H8 p (.lst ([]++[y8]))) a=H8 a;rw [C3 (E6 ho hH1p)]
                     . show (upd H8 p (.lst ([]++[y8]))) q=_
                       rw [C3 hpq,dq8]; unfold prs; rw [xR]; rfl
                     . rw [xR,w6]
                       refine ⟨nd,by simp,fun a ha b hb=>?_⟩;obtain ⟨r,hr,rfl⟩:=xF.mp ha; have:b=p:=by simpa using hb
                       subst this; exact hne r hr
                     . rcases wY.mp hr with hr | hr
                       . exact BD (rl r hr)
                       . rw [wX.mp hr]; show 1<=n+1; lia
                 . cases eg
       . refine .inl ⟨W.stop n Hc (zP.mp hlt) (Sc.gr.g.trans Sc.sr.sub),?_⟩
         rw [AW (zP.mp hlt)] at eg; cases eg; have hq':q∉kk.map (·.2.1):=fun z=>by
           obtain ⟨r,hr,e⟩:=xF.mp z; have:=(nl.mem r hr).1; rw [e,dq] at this; cases this
         have Su:=Sc.unbase g01; have sm:=nl.same; have gh:Same (shG (kk.map (·.2.1)) Gc Hc) Hc:=fun b u e=>by
           by_cases m:b∈kk.map (·.2.1)
           . rw [iV m] at e; exact e
           . rw [Ht m] at e; exact Sc.sr.sub _ _ e
         refine a1 τ (shG (kk.map (·.2.1)) Gc Hc) Hc ⟨⟨Su.gr.g.trans sm,Su.gr.h,gh,fun b o e=>?_⟩,⟨gh,?_,fun j s e=>?_,fun j1 j2 a e1' e2' z1 z2 h1 h2=>?_⟩,fun j d a e h=>?_⟩
         . by_cases m:b∈kk.map (·.2.1)
           . obtain ⟨r,hr,rfl⟩:=xF.mp m
             exact .inr (.inl (S1.gr.h.free (nl.mem r hr).2.2))
           . rw [Ht m] at e; exact Su.gr.fr b o e
         . have:=Sc.sr.len
           rw [<- hδv] at this;simpa using this
         . rw [D9] at e
           split at e
           . cases e; trivial
           . rename_i hjt
             rw [D9] at e;split at e
             . rename_i hji
               cases e; rw [<- hji.1,hτ]; exact ⟨q,rfl,by rw [Ht hq']; exact gq,prs kk,dq,nl.keys,nl.vals sm fun r hr=>yP hr⟩
             . rename_i hji
               have ev:δv[j]? = some s:=by
                 rw [<- hδv,D9,if_neg (by simpa using hjt),D9,if_neg hji]; exact e
               have hs:=Sc.sr.sl j s ev;cases s with
               | un=>trivial
               | sh d=>obtain ⟨v,e1,r1⟩:=hs; exact ⟨v,e1,r1.mono sm⟩
               | fd _=>exact FdOk.mono sm hs
               | ow d =>
                 obtain ⟨a,e1,n1,ok⟩:=hs; have hna:a∉kk.map (·.2.1):=fun z=>by
                   obtain ⟨r,hr,er⟩:=xF.mp z; obtain ⟨_,o,ho⟩:=ap j d a ev e1; have:=(nl.mem r hr).2.2; rw [er,ho] at this; cases this
                 exact ⟨a,e1,by rw [Ht hna]; exact n1,ok.monoG sm⟩
         . have key : ∀ (j : Nat) (d : wF), ((δ.set i (.ow (.tuple [.dict out, .none]))).set t .un)[j]? = some (.ow d) -> j = i \/ δv[j]? = some (.ow d) := fun j d e => by
             rw [D9] at e;split at e
             . cases e
             . rename_i hjt
               rw [D9] at e;split at e
               . rename_i hji; exact .inl hji.1.symm
               . rename_i hji
                 exact .inr (by rw [<- hδv,D9,if_neg (by simpa using hjt),D9,if_neg hji]; exact e)
           rcases key j1 _ z1 with rfl | y1
           . rcases key j2 _ z2 with rfl | y2
             . rfl
             . rw [hτ] at h1; cases h1
               exact absurd rfl (ap j2 _ _ y2 h2).1
           . rcases key j2 _ z2 with rfl | y2
             . rw [hτ] at h2; cases h2
               exact absurd rfl (ap j1 _ _ y1 h1).1
             . exact Sc.sr.ap j1 j2 a _ _ y1 y2 h1 h2
         . rw [D9] at e
           split at e
           . cases e
           . rename_i hjt
             rw [D9] at e;split at e
             . rename_i hji
               rw [<- hji.1,hτ] at h; cases h;exact hq0
             . rename_i hji
               exact Sc.fr j d a (by rw [<- hδv,D9,if_neg (by simpa using hjt),D9,if_neg hji]; exact e) h
     | exc _=>rw [eout] at a1; exact (show False from a1).elim
     | no=>rw [eout] at a1; exact (show False from a1).elim
   . exact (show False from a1).elim
 . exact (show False from aft).elim
end
end Sm
end
noncomputable section
namespace Sm
open PySem PySem.Spec PyProof.Rows PySem.W L2
theorem jY {X:Cx} {pos:Pos}:PE X (.Dict [] [] pos) (fun Z H Q=>∀ q,H q=none->Q (.ref q) (upd H q (.dN []))):=by
 intro pins s Z H Q I h;refine zM (jX (X:=X) (pos:=pos) pins s Z H (fun v H1=>∃ q,v=.ref q/\H q=none/\H1=upd H q (.dT [])) I fun q hq=>⟨q,rfl,hq,rfl⟩) (fun v s1 hh=>?_) fun _ _ e=>e;obtain ⟨x,H1,I1,rx,q,rfl,hq,rfl⟩:=hh;have hx:(upd H q (.dT [])) q=some (.dT []):=C0;obtain ⟨z,hs,xs,rel,o,es,ep,e1,hex,hdat,hes,hnd⟩:=I1.hok q _ hx;have hxs:xs=[]:=by
   cases rel; rfl
 subst hxs;have hes':es = #[]:=by
   have:es.toList=[]:=hes; exact Array.toList_eq_nil_iff.mp this
 subst hes';obtain ⟨oc,od,odt,osl⟩:=o;obtain ⟨c1,c2,c3⟩:=hex;simp only at c1 c2 c3 hdat;subst c1 c2 c3 hdat;refine ⟨.ref q,upd H q (.dN []),?_,rx,h q hq⟩;have:=I1.write (x:=q) (e:=q) (o:=.dN []) (t':=s1.toks) (h':=s1.heap) (by rw [hx]; exact trivial) (.inl rfl) (fun b u _ w=>w) ⟨_,e1⟩ ⟨zI _,hs,.nil,(fun _ h=>nomatch h),[],.nil,ep,e1⟩;rw [mZ] at this;exact this
noncomputable def Cf (i:Nat):Dn->Out:=fun δ=>.nx (δ.set i (.ow (.tuple [.dict [],.none])))
noncomputable section
variable {P:xN} {w:xT} {K:wM} {mg:Str->Option wI} {base:yQ} {X:Cx} {N:List Str} {sc:Scope} {k:Nat} {df:Bool} {E:EK} {pos p p2:Pos} {a:Expr} {x:Str}
theorem Ia (C:Cxt P w K mg base X N sc k df) (i:Nat) (ho:okSet N sc df i x=true) (hs:m7 (.Dict [] [] p2) (some (.Name x p)) pos.line X.env=pure false:=by rfl):DS X E (.Assign [.Name x p] (.Dict [] [] p2) pos) (Cf i):=fun G0 H0=>by
 obtain ⟨h1,h2,h3,h4⟩:=okSet.ok C ho;refine PS.imp (Ob h1 h2 h3 jY hs h4) fun D Z H hh q hq=>?_;obtain ⟨G,δ,S,a⟩:=hh;have S1:=S.grow (Grow.own (o:=.dN []) S.sr.sub hq);exact a _ G _ (S1.set_ow (S.gr.h.free hq) (S.sr.sub.free hq) (show OwnK G _ q [.dict [],.none] from ⟨[],C0,rfl,rfl⟩) (Gu S hq))
end
def AftN (E:EK) (G H:Hp) (r:Res Kvs) (Q:VK):Prop:=match r with
 | .ok kvs=>∀ p G' H',Grow G H G' H'->H p=none->G' p=none->OwnOk G' H' p (.tuple [.dict kvs,.none])->Q (.ref p) H'
 | .exc c=>∀ G' H',Grow G H G' H'->E c H'
 | .no=>False
def tN (E:EK) (f:Dn->Res Kvs):TE:=fun Z H Q=>∃ G δ,SR G H Z δ/\AftN E G H (f δ) Q
abbrev DN (X:Cx) (E:EK) (e:Expr) (f:Dn->Res Kvs):Prop:=PE X e (tN E f)
def DSN (X:Cx) (E:EK) (sts:List n8) (g:Dn->Res Kvs):Prop:=∀ G0 H0,PSs X sts (fun D Z H=>∃ G δ,SSt G0 H0 G H Z δ/\AftN E G0 H0 (g δ) D.rt)
noncomputable def Ug (i:Nat):Dn->Res Kvs:=fun δ=>match δ[i]? with
 | some (.ow (.tuple [.dict kvs,.none]))=>.ok kvs
 | _=>.no
def spN (n:Nat) (m:List wF->Res Kvs):Sp:=fun vs H Q _=>∃ G ds kvs,Same G H/\RepL G ds vs/\ds.length=n/\m ds=.ok kvs/\∀ p G' H',Grow G H G' H'->H p=none->G' p=none->OwnOk G' H' p (.tuple [.dict kvs,.none])->Q (.ref p) H'
structure FnN (P:xN) (w:xT) (K:wM) (mg:Str->Option wI) (base:yQ) (x:Str) (k n:Nat) (m:List wF->Res Kvs):Prop where
 ex:∃ f fd ps,ps.length=n/\FnOk P w K mg base CX0 k f fd ps (spN n m)/\mg x=some (.ref f)/\zL K (.ref f)=true/\Binds K fd ps []
noncomputable def Dv (i:Nat) (f:Dn->Res Kvs):Dn->Out:=fun δ=>M5 (f δ) fun kvs=>.nx (δ.set i (.ow (.tuple [.dict kvs,.none])))
noncomputable section
variable {P:xN} {w:xT} {K:wM} {mg:Str->Option wI} {base:yQ} {X:Cx} {N:List Str} {sc:Scope} {k:Nat} {df:Bool} {E:EK} {pos p:Pos} {e:Expr} {es:List Expr} {fs:Dn->Res (List wF)} {fx:Dn->Res Kvs} {x:Str} {st:n8} {sts:List n8} {g1:Dn->Out} {g2:Dn->Res Kvs}
theorem cS (C:Cxt P w K mg base X N sc k df) (i:Nat) (h:okVar N sc i x=true):DSN X E [.Return (some (.Name x p)) pos] (Ug i):=fun G0 H0=>by
 refine PSs.imp (Lq (jO (okVar.pe C h))) fun D Z H hh=>?_;obtain ⟨G,δ,S,a⟩:=hh;unfold Ug at a;split at a
 . rename_i kvs hi
   obtain ⟨q,hσ,hg,ho⟩:=S.sr.own hi; exact ⟨.ref q,hσ,a q G H S.gr (S.fr i _ q hi (by rw [hσ]; rfl)) hg ho⟩
 . exact (show False from a).elim
theorem Ci (h1:DS X E st g1) (h2:DSN X E sts g2):DSN X E (st::sts) (Dx g1 g2):=fun G0 H0=>by
 refine PSs.imp (Xh (h1 G0 H0) (h2 G0 H0)) fun D Z H hh=>?_;obtain ⟨G,δ,S,a⟩:=hh;refine ⟨G,δ,S,?_⟩;unfold Dx at a;cases e:g1 δ with
 | nx δ'=>rw [e] at a; exact fun Z' G' H' S'=>⟨G',δ',S',a⟩
 | exc d=>rw [e] at a; exact a
 | rt d=>rw [e] at a; exact (show False from a).elim
 | bk d=>rw [e] at a; exact (show False from a).elim
 | ct d=>rw [e] at a; exact (show False from a).elim
 | no=>rw [e] at a; exact (show False from a).elim
theorem vG {x:Str} {st:n8} {ps:List Str} {n:Nat} {go:Dn->Res Kvs} {m:List wF->Res Kvs} (F:Def K mg x st ps) (S:FnScope N ps (A3 st)) (hn:ps.length=n)
   (body:∀ X,Cxt P w K mg base X N (A3 st) k true->DSN X E0k (B3 st) go) (hm:m=fnW N go):FnN P w K mg base x (k+1) n m:=by
 obtain ⟨f,fd,F,hmg,hb⟩:=F.ex;refine ⟨f,fd,ps,hn,?_,hmg,F.kp,hb⟩;subst hm;refine F.ok S (fun vs H Q E h=>?_) (fun cdv A outer s H vs Q E hr h=>?_)
 . obtain ⟨G,ds,d,_,r,hl,_⟩:=h
   rw [<- r.length,hl,hn]
 . obtain ⟨G,ds,kvs,hG,r,hl,em,q⟩:=h
   refine ⟨_,body _ ⟨rfl,rfl,rfl,rfl,rfl,rfl,rfl,rfl,hr,fun _ _=>rfl,BG⟩ G H,G,_,Wa hG r N,?_⟩;unfold fnW at em; rw [em]; exact q
theorem Uf {x:Str} {j n:Nat} {m:List wF->Res Kvs} (C:Cxt P w K mg base X N sc k df) (F:FnN P w K mg base x j n m) (hj:j<=k) (h:okGl sc x=true) (ha:DA X E0k (e::es) n fs)
   (he:wU (e::es) X.env=(false,eval e X.env)::wU es X.env:=by rfl) (hpl:(zY pos (wU es X.env)).any (·.1)=false:=by rfl):DN X E0k (.Call (.Name x p) (e::es) [] pos) (Hj fs m):=by
 obtain ⟨f,fd,ps,hps,F,hm,hk,hb⟩:=F.ex;obtain ⟨h1,h2,h3⟩:=okGl.gl C h;have F':FnOk X.prog X.w X.K X.mg X.base CX0 j f fd ps (spN n m):=by rw [C.hP,C.hw,C.hK,C.hmg,C.hb]; exact F
 refine PE.imp (Lr F' (C.room.mono hj) h1 (by rw [C.hmg]; exact hm) (by rw [C.hK]; exact hk) (by rw [C.hK]; exact hb) .nil (cK (X:=X)) ha.pa h2 he hpl) fun Z H Q hh=>?_;obtain ⟨G,δ,S,aft⟩:=hh;have gw:∀ {G H G' H':Hp} {r:Res Kvs},Grow G H G' H'->AftN E0k G H r Q->AftN E0k G' H' r Q:=fun {G H G' H' r} g a=>by
   cases r with
   | ok kvs=>exact fun p G2 H2 g2 hp hp' ho=>a p G2 H2 (g.trans g2) (g.h.free hp) hp' ho
   | exc c=>exact fun G2 H2 g2=>a G2 H2 (g.trans g2)
   | no=>exact a
 refine X4 (W:=fun G H r=>AftN E0k G H r Q) S aft (fun g a=>gw g a) (fun c a=>a) (fun a=>a) fun ds vs G1 H1 e g1 r1 S1 a1=>?_;rw [yL];cases q:m ds with
 | ok d=>rw [q] at a1; exact ⟨G1,ds,d,S1.sub,r1,ha.len δ ds e,q,a1⟩
 | exc c=>rw [q] at a1; exact (a1 G1 H1 (Grow.refl S1.sub)).elim
 | no=>rw [q] at a1; exact a1.elim
theorem Nt (C:Cxt P w K mg base X N sc k df) (i:Nat) (ho:okSet N sc df i x=true) (h:DN X E e fx) (hs:m7 e (some (.Name x p)) pos.line X.env=pure false:=by rfl):DS X E (.Assign [.Name x p] e pos) (Dv i fx):=fun G0 H0=>by
 obtain ⟨h1,h2,h3,h4⟩:=okSet.ok C ho;refine PS.imp (Ob h1 h2 h3 h hs h4) fun D Z H hh=>?_;obtain ⟨G,δ,S,a⟩:=hh;refine ⟨G,δ,S.sr,?_⟩;unfold Dv at a;cases q:fx δ with
 | ok kvs =>
   rw [q] at a; intro p G' H' g hp hp' ho; have S1:=S.grow g; exact a _ G' H' (S1.set_ow (S.gr.h.free hp) hp' ho (Gu S hp))
 | exc c=>rw [q] at a; exact fun G' H' g=>a G' H' (S.gr.trans g)
 | no=>rw [q] at a; exact a
end
end Sm
end
noncomputable section
namespace Sm
open PySem PySem.Spec PyProof.Rows PySem.W L2
noncomputable def Ei (c:Dn->Res Bool) (body:Dn->Out):Nat->Dn->Out
 | 0,_=>.no
 | n+1,δ=>M5 (c δ) fun b=>if b=true then (match body δ with
   | .nx δ'=>Ei c body n δ'
   | .ct δ'=>Ei c body n δ'
   | .bk δ'=>.nx δ'
   | o=>o) else .nx δ
noncomputable def jD (c:Dn->Res Bool) (body:Dn->Out):Dn->Out:=Ei c body 4096
noncomputable def Zd (i:Nat):Dn->Res Bool:=fun δ=>match δ[i]? with
 | some (.ow (.list ds))=>.ok (!ds.isEmpty)
 | _=>.no
noncomputable def eX (i j:Nat):Dn->Out:=fun δ=>match δ[i]? with
 | some (.ow (.list ds))=>match ds[ds.length - 1]? with
   | some d=>if i≠j then .nx ((δ.set i (.ow (.list ds.dropLast))).set j (.sh d)) else .no
   | none=>.no
 | _=>.no
noncomputable def Wy (i:Nat) (f:Dn->Res (List wF)):Dn->Out:=fun δ=>match δ[i]? with
 | some (.ow (.list xs))=>M5 (f δ) fun ds=>if xs.length+ds.length<=100000 then .nx (δ.set i (.ow (.list (xs++ds)))) else .no
 | _=>.no
noncomputable section
variable {P:xN} {w:xT} {K:wM} {mg:Str->Option wI} {base:yQ} {X:Cx} {N:List Str} {sc:Scope} {k:Nat} {df:Bool} {E:EK} {pos p py apos cpos:Pos} {ce a:Expr} {sts:List n8} {c:Dn->Res Bool} {g1:Dn->Out} {fs:Dn->Res (List wF)} {x y:Str}
theorem nM (C:Cxt P w K mg base X N sc k df) (hc:DT X E ce c) (hb:DSs X E sts g1):DS X E (.While ce sts [] pos) (jD c g1):=fun G0 H0=>by
 refine PS.imp (jN (pos:=pos) C.own hc (hb G0 H0)) fun D Z H hh=>?_;obtain ⟨G,δ,S,a⟩:=hh;refine ⟨fun m Z' H'=>∃ G' δ',SSt G0 H0 G' H' Z' δ'/\Kg E G0 H0 (Ei c g1 m δ') D,⟨4096,G,δ,S,a⟩,fun m Z' H' hw=>?_⟩;obtain ⟨G',δ',S',a'⟩:=hw;cases m with
 | zero=>exact (show False from a').elim
 | succ m =>
   unfold Ei at a'; refine mP S' a' fun b G1 H1 gr S1 a1=>?_;cases b with
   | false =>
     rw [if_neg (by decide)] at a1 ⊢;exact a1 Z' G1 H1 S1
   | true =>
     rw [if_pos rfl] at a1 ⊢;refine ⟨fun Z2 H2=>∃ G' δ',SSt G0 H0 G' H2 Z2 δ'/\Kg E G0 H0 (Ei c g1 m δ') D,fun Z2 H2 z=>⟨m,BN m,z⟩,G1,δ',S1,?_⟩;cases eo:g1 δ' with
     | nx δ2=>rw [eo] at a1; exact fun Z3 G4 H4 S5=>⟨G4,δ2,S5,a1⟩
     | ct δ2=>rw [eo] at a1; exact fun Z3 G4 H4 S5=>⟨G4,δ2,S5,a1⟩
     | bk δ2=>rw [eo] at a1; exact fun Z3 G4 H4 S5=>a1 Z3 G4 H4 S5
     | rt d=>rw [eo] at a1; exact a1
     | exc d=>rw [eo] at a1; exact a1
     | no=>rw [eo] at a1; exact a1
theorem t_own (C:Cxt P w K mg base X N sc k df) (i:Nat) (h:okVar N sc i x=true) (he:∀ whole,isTrue (.Name x p) X.env whole=(do let v <- whole; standAt (Expr.Name x p).pos; holding [v] (truthy v)):=by intro _; rfl):DT X E (.Name x p) (Zd i):=by
 refine PT.imp (Xg (okVar.pe C h) he) fun Z H Q hh=>?_;obtain ⟨G,δ,S,a⟩:=hh;unfold Zd at a;split at a
 . rename_i ds hi
   obtain ⟨q,hσ,hg,xs,hx,rl⟩:=S.own hi; have he:ds.isEmpty=xs.isEmpty:=by
     have:=rl.length;cases ds <;> cases xs <;> simp at this ⊢
   refine ⟨.ref q,hσ,!xs.isEmpty,.inl ⟨xs,.inl (.inl hx),rfl⟩,?_⟩; rw [<- he]; exact a G H (Grow.refl S.sub)
 . exact (show False from a).elim
theorem s_pop (C:Cxt P w K mg base X N sc k df) (i j:Nat) (h:okVar N sc i x=true) (ho:okSet N sc df j y=true)
   (hbase:o8 (.Name x p) "pop" X.env (eval (.Name x p) X.env)=eval (.Name x p) X.env:=by rfl) (hline:(apos.endLine==cpos.line)=true:=by rfl)
   (hs:m7 (.Call (.Attribute (.Name x p) "pop" apos) [] [] cpos) (some (.Name y py)) pos.line X.env=pure false:=by rfl) :
   DS X E (.Assign [.Name y py] (.Call (.Attribute (.Name x p) "pop" apos) [] [] cpos) pos) (eX i j):=fun G0 H0=>by
 obtain ⟨h1,h2,h3,h4⟩:=okSet.ok C ho;refine PS.imp (Ob h1 h2 h3 (tZ AD PySem.F.slot_list_pop PySem.F.type_list_pop uN (okVar.pe C h) hbase hline) hs h4) fun D Z H hh=>?_;obtain ⟨G,δ,S,a⟩:=hh;unfold eX at a;split at a
 . rename_i ds hi
   split at a
   . rename_i d hd
     split at a
     . rename_i hij
       obtain ⟨q,hσ,hg,xs,hx,rl⟩:=S.sr.own hi; obtain ⟨v,hv,rv⟩:=rl.get hd; rw [rl.length] at hv; refine ⟨.ref q,hσ,.inl ⟨rfl,xs,.inl (.inl hx)⟩,q,xs,v,rfl,rfl,hx,hv,?_⟩; have S1:=S.write (o:=.lst xs.dropLast) (d':=.list ds.dropLast) hi (by rw [hσ]; rfl) hg ⟨_,C0,rl.dropLast⟩;exact a _ G _ (S1.set_sh rv)
     . exact (show False from a).elim
   . exact (show False from a).elim
 . exact (show False from a).elim
theorem rO (C:Cxt P w K mg base X N sc k df) (i:Nat) (h:okVar N sc i x=true) (ha:DF X E a fs)
   (hbase:o8 (.Name x p) "extend" X.env (eval (.Name x p) X.env)=eval (.Name x p) X.env:=by rfl)
   (hfew:((zY cpos (wU [a] X.env)).all (fun x => !x.1)&&(FJ cpos (BX [] X.env)).all (fun x=>x.1.isSome)
     && decide ([a].length+([]:List AX).length+(if ([]:List AX).isEmpty then 0 else 1) < 30))=true:=by rfl)
   (hline:(apos.endLine==cpos.line)=true:=by rfl) (hs:wU [a] X.env=(false,eval a X.env)::wU [] X.env:=by rfl) (hplain:(zY cpos (wU [] X.env)).any (·.1)=false:=by rfl)
   (hsw:m7 (.Call (.Attribute (.Name x p) "extend" apos) [a] [] cpos) none pos.line X.env=pure false:=by rfl) :
   DS X E (.Expr (.Call (.Attribute (.Name x p) "extend" apos) [a] [] cpos) pos) (Wy i fs):=fun G0 H0=>by
 refine PS.imp (Ua (Xl AD PySem.F.slot_list_extend PySem.F.type_list_extend fM (okVar.pe C h) (O8 ha Y5 hs) hbase hfew hline hs hplain) hsw) fun D Z H hh=>?_;obtain ⟨G,δ,S,aft⟩:=hh;unfold Wy at aft;split at aft
 . rename_i ds hi
   obtain ⟨q,hσ,hg,xs,hx,rl⟩:=S.sr.own hi; refine ⟨.ref q,hσ,.inl ⟨rfl,xs,.inl (.inl hx)⟩,?_⟩; refine bQ S aft fun es b zs G1 H1 g1 q1 q2 q3 q4 S1 a1=>?_;split at a1
   . rename_i hlen
     have hx1:=g1.h _ _ hx; have hqb:q≠b:=E6 hx q1; have hg1:G1 q=none:=g1.stay hg hx fun ys z=>by cases z
     have l1:=rl.length; have l2:=q4.length; refine ⟨q,b,xs,zs,rfl,rfl,hx1,q3,xD (by lia) (show 100000<=sizeLine by decide),?_⟩;exact a1 Z G1 _ (S1.write (o:=.lst (xs++zs)) (d':=.list (ds++es)) hi (by rw [hσ]; rfl) hg1 ⟨_,C0,(rl.mono g1.g).append q4⟩)
   . exact (show False from a1).elim
 . exact (show False from aft).elim
end
end Sm
end
noncomputable section
namespace Sm
open PySem PySem.Spec PyProof.Rows PySem.W L2
noncomputable section
variable {X:Cx} {pins:List (wR×Obj)} {Z:St} {H:Hp} {s:wJ} {a:wR} {A:yS} {E:wI->wJ->Prop}
theorem n_at {kvs:List (wF×V)} {xs:List (wI×wI)} {kd:wF} {w:xT} {i:Nat} {e:yU} (rel:a9 (PrN H) kvs xs) (hk:nkD kd=true) (nk:∀ p∈kvs,nkD p.1=true) (nd:(kvs.map (·.1)).Nodup) (hi:(kvs.map (·.1))[i]? = some kd) (he:(O3 w kvs xs)[i]? = some e) :
   ∃ v,kvs[i]? = some (kd,v)/\N5 kvs kd=some v/\RelV v e.val:=by
 obtain ⟨p,q,h1,h2,⟨_,h5⟩,rfl⟩:=Lu rel he;rw [xQ,h1] at hi;have hp:p=(kd,p.2):=by
   have:p.1=kd:=by simpa using hi
   rw [<- this]
 rw [hp] at h1;exact ⟨p.2,h1,En hk nk nd h1,h5⟩
theorem uL {kvs:List (wF×V)} {kd:wF} {y v:V} {u:wI} {Q:wI->wJ->Prop} (hu:A.units+16 < k5) (I:Inv X pins Z H s) (e:Rd H a (.dN kvs)) (rk:KRep H kd y) (hk:nkD kd=true) (ry:RelV y u) (hv:N5 kvs kd=some v)
   (h:∀ w' s',Inv X pins Z H s'->RelV v w'->Q w' s'):wpAny (xH X.prog X.w) A (CJ (.ref a) u) Q E s:=by
 obtain ⟨z,hd,nd,nk,xs,rel,ep,e1⟩:=e.ok I.hok;have hT:s.TypeIs (.ref a) "dict" := ⟨_,e1,rfl⟩;have hm:kd∈kvs.map (·.1):=x3 fun z=>by rw [Il hk nk z] at hv; cases hv
 unfold CJ;try with_reducible refine yR ?_
 refine wG (DD hT (by decide) ?_);refine wG (yN (name:=g9 "__getitem__") hT F.slot_dict_getitem ?_);refine GL F.slot_dict_getitem hT F.entry_dict_getitem (F.args_dict_getitem_2 _ _) (Xv a u) ⟨_,_,ep,kvs.map (·.1),kd,hu,e1,rfl,Ot I rel nk nd,Jm I rk ry hk,hm,fun i e tk hi he=>?_⟩;obtain ⟨v',_,h2,h3⟩:=n_at rel hk nk nd hi (by simpa using he);rw [hv] at h2; cases h2;exact wH (h _ _ (I.tok _) h3)
theorem n_has {kvs:List (wF×V)} {kd:wF} (hk:nkD kd=true) (nk:∀ p∈kvs,nkD p.1=true) (nd:(kvs.map (·.1)).Nodup) (hm:kd∈kvs.map (·.1)):(N5 kvs kd).isSome=true:=by
 obtain ⟨⟨k',v⟩,hp,rfl⟩:=xF.mp hm;obtain ⟨i,hi⟩:=DU.mp hp;rw [En hk nk nd hi]; rfl
theorem aN {kvs:List (wF×V)} {kd:wF} {y:V} {u:wI} {Q:Bool->wJ->Prop} (hu:A.units+16 < k5) (I:Inv X pins Z H s) (e:Rd H a (.dN kvs)) (rk:KRep H kd y) (hk:nkD kd=true) (ry:RelV y u)
   (h:∀ s',Inv X pins Z H s'->Q (N5 kvs kd).isSome s'):wpAny (xH X.prog X.w) A (contains (.ref a) u) Q E s:=by
 obtain ⟨z,hd,nd,nk,xs,rel,ep,e1⟩:=e.ok I.hok;have hT:s.TypeIs (.ref a) "dict" := ⟨_,e1,rfl⟩;unfold contains;try with_reducible refine yR ?_
 refine wG (l3 hT F.slot_dict_contains.lookup ?_);show wpAny _ _ (if (some (Value.builtin "dict.__contains__")==some a8)=true then _ else _) _ _ s;rw [if_neg (by rw [GZ]; exact j0)];refine wG (wpAny_callSpecialUnlessNone?_slot (name:=g9 "__contains__") hT F.slot_dict_contains ?_);refine GL F.slot_dict_contains hT F.entry_dict_contains (F.args_dict_contains_2 _ _) (fQ a u hd) ⟨_,_,ep,kvs.map (·.1),kd,hu,e1,rfl,Ot I rel nk nd,Jm I rk ry hk,fun tk hm=>?_,fun tk hn=>?_⟩
 . have:=h _ (I.tok tk)
   rw [n_has hk nk nd hm] at this; exact i4 this
 . have:=h _ (I.tok tk)
   rw [Il hk nk hn] at this; exact i4 this
end
def tNIx (td ty:TE):TE:=fun Z H Q=>td Z H fun x H1=>ty Z H1 fun y H2=>∃ a kvs kd v,x=.ref a/\Rd H2 a (.dN kvs)/\KRep H2 kd y/\nkD kd=true/\N5 kvs kd=some v/\Q v H2
def tNIn (b:Bool) (ty td:TE):TE:=fun Z H Q=>ty Z H fun y H1=>td Z H1 fun x H2=>∃ a kvs kd,x=.ref a/\Rd H2 a (.dN kvs)/\KRep H2 kd y/\nkD kd=true/\Q (.bl ((N5 kvs kd).isSome != b)) H2
noncomputable section
variable {X:Cx} {o i:Expr} {pos:Pos} {td ty:TE}
theorem tX (hu:X.A.units+16 < k5) (ho:PE X o td) (hi:PE X i ty) (hs:wE i):PE X (.Subscript o i pos) (tNIx td ty):=by
 intro pins s Z H Q I h;refine nF PySem.F.slot_dict_getitem.lookup hs (thn (ho pins s Z H _ I h) fun u s1 hY84=>?_);obtain ⟨x,H1,I1,rx,q1⟩:=hY84;refine thn (hi pins s1 Z H1 _ I1 q1) fun iv s2 hZ2=>?_;obtain ⟨y,H2,I2,ry,a,kvs,kd,v,ex,g,rk,hk,hv,q2⟩:=hZ2;subst ex;obtain rfl:u=f8 a:=rx;obtain ⟨_,_,_,_,_,_,ep,e1⟩:=g.ok I2.hok;exact ⟨⟨_,e1,rfl⟩,uL hu I2 g rk hk ry hv fun w' s3 I3 rw'=>⟨v,H2,I3,rw',q2⟩⟩
theorem Ry (hu:X.A.units+16 < k5) (hi:PE X i ty) (ho:PE X o td):PC X .NotIn i o (tNIn true ty td):=by
 intro pins s Z H Q I h;refine thn (hi pins s Z H _ I h) fun iv s1 hY86=>?_;obtain ⟨y,H1,I1,ry,q1⟩:=hY86;refine thn (ho pins s1 Z H1 _ I1 q1) fun u s2 hZ2=>?_;obtain ⟨x,H2,I2,rx,a,kvs,kd,ex,g,rk,hk,q2⟩:=hZ2;subst ex;obtain rfl:u=f8 a:=rx;show wpAny _ _ (do return EW (!(<- contains (f8 a) iv))) _ _ s2;rw [Bool.bne_true] at q2;exact wG (aN hu I2 g rk hk ry fun s3 I3=>wH ⟨.bl (!(N5 kvs kd).isSome),H2,I3,rfl,q2⟩)
end
noncomputable def Pi (i:Nat) (f:Dn->Res wF):Dn->Res wF:=fun δ=>match kvN δ i with
 | some kvs=>(f δ).bind fun kd=>if nkD kd=true then ofO (J3 kvs kd) else .no
 | none=>.no
noncomputable def Z5 (b:Bool) (i:Nat) (f:Dn->Res wF):Dn->Res wF:=fun δ=>(f δ).bind fun kd=>match kvN δ i with
 | some kvs=>if nkD kd=true then .ok (.bool ((J3 kvs kd).isSome != b)) else .no
 | none=>.no
noncomputable section
variable {P:xN} {w:xT} {K:wM} {mg:Str->Option wI} {base:yQ} {X:Cx} {N:List Str} {sc:Scope} {k:Nat} {df:Bool} {E:EK} {p pos:Pos} {a b:Expr} {f g:Dn->Res wF} {x:Str}
theorem lY (C:Cxt P w K mg base X N sc k df) (i:Nat) (h:okVar N sc i x=true) (hk:DE X E a f) (hs:wE a:=by exact fun _ _=>rfl):DE X E (.Subscript (.Name x p) a pos) (Pi i f):=by
 refine PE.imp (tX (by have:=C.hu; lia) (okVar.pe C h) hk hs) fun Z H Q hY87=>?_;obtain ⟨G,δ,S,aft⟩:=hY87;unfold Pi at aft;split at aft
 . rename_i kvs hi
   obtain ⟨q,kk,hσ,hx,hkeys,hvals⟩:=S.kvN hi; refine ⟨.ref q,hσ,?_⟩; refine J2 S aft fun kd v G1 H1 g1 r1 S1 a1=>?_;split at a1
   . rename_i hn
     rcases Ik (k:=kd) hkeys hvals with ⟨n1,n2⟩ | ⟨d0,v0,n1,n2,rd⟩
     . rw [n1] at a1; exact a1.elim
     . rw [n1] at a1
       exact ⟨q,kk,kd,v0,rfl,Rd.mono g1.h hx,Nx S1.sub hn r1,hn,n2,a1 _ G1 H1 (Grow.refl S1.sub) (rd.mono g1.g)⟩
   . exact a1.elim
 . exact aft.elim
theorem cZ {t:Bool} {i:Nat} {Z:St} {H:Hp} {Q:VK} (h:tD E (Z5 t i f) Z H Q):tNIn t (tD E f) (nC i) Z H Q:=by
 obtain ⟨G,δ,S,aft⟩:=h;refine J2 S aft fun kd v G1 H1 g1 r1 S1 a1=>?_;split at a1
 . rename_i kvs hi
   split at a1
   . rename_i hn
     obtain ⟨q,kk,hσ,hx,hkeys,hvals⟩:=S1.kvN hi; refine ⟨.ref q,hσ,q,kk,kd,rfl,hx,Nx S1.sub hn r1,hn,?_⟩; have:(N5 kk kd).isSome=(J3 kvs kd).isSome:=by
       rcases Ik (k:=kd) hkeys hvals with ⟨n1,n2⟩ | ⟨d0,v0,n1,n2,_⟩ <;> rw [n1,n2] <;> rfl
     rw [this]; exact a1 _ G1 H1 (Grow.refl S1.sub) rfl
   . exact a1.elim
 . exact a1.elim
theorem lJ {t:Bool} {i:Nat} {δ:Dn} {d:wF} (e:Z5 t i f δ=.ok d):∃ b,d=.bool b:=by
 unfold Z5 Res.bind at e;split at e
 . split at e
   . dsimp only at e
     split at e
     . cases e; exact ⟨_,rfl⟩
     . cases e
   . cases e
 . cases e
 . cases e
theorem mI {t:Bool} {i:Nat} {G H:Hp} {δ:Dn} {Q:Bool->Hp->Prop} (aft:AftT E G H (B4 (Z5 t i f) δ) Q):Aft E G H (Z5 t i f δ) (fun v H'=>∃ b,v=.bl b/\Q b H'):=by
 unfold B4 at aft;cases e:Z5 t i f δ with
 | ok d =>
   obtain ⟨b,rfl⟩:=lJ e; rw [e] at aft; intro v G' H' g r; exact ⟨b,r,aft G' H' g⟩
 | exc c=>rw [e] at aft; exact aft
 | no=>rw [e] at aft; exact aft
theorem Yp (C:Cxt P w K mg base X N sc k df) (i:Nat) (h:okVar N sc i x=true) (hk:DE X E a f) (hm:behindInMarks .NotIn (.Name x p)=false:=by with_unfolding_all rfl):DE X E (.Compare a [.NotIn] [.Name x p] pos) (Z5 true i f) :=
 PE.imp (jZ (Ry (by have:=C.hu; lia) hk (okVar.pe C h)) hm) fun _ _ _ h=>cZ h
theorem Mh (C:Cxt P w K mg base X N sc k df) (i:Nat) (h:okVar N sc i x=true) (hk:DE X E a f) (hm:behindInMarks .NotIn (.Name x p)=false:=by with_unfolding_all rfl):DT X E (.Compare a [.NotIn] [.Name x p] pos) (B4 (Z5 true i f)):=by
 refine PT.imp (tP (Ry (by have:=C.hu; lia) hk (okVar.pe C h)) hm) fun Z H Q hY89=>?_;obtain ⟨G,δ,S,aft⟩:=hY89;refine cZ ⟨G,δ,S,?_⟩;exact mI aft
end
end Sm
end
noncomputable section
namespace Sm
open PySem PySem.Spec PyProof.Rows PySem.W L2
noncomputable def N9 {α:Type}:List (wF×α)->wF->α->List (wF×α)
 | [],k,v=>[(k,v)]
 | p::r,k,v=>if xE p.1 k=true then (p.1,v)::r else p::N9 r k v
theorem Ej {α:Type} {k:wF} {v:α}:∀ (l:List (wF×α)),(N9 l k v).length<=l.length+1:=by
 intro iN; induction iN with
 | nil=>skip; exact wO _
 | cons p r ih =>
   skip
   unfold N9;split
   . simp
   . simp only [wT]; exact FX (ih)
theorem oC {k:wF} {v:V} (hk:nkD k=true):∀ {kk:List (wF×V)} {i:Nat} {v0:V},(∀ p∈kk,nkD p.1=true)->(kk.map (·.1)).Nodup->kk[i]? = some (k,v0)->N9 kk k v=kk.modify i fun p=>(p.1,v):=by
 intro iN; induction iN with
 | nil=>intro _ _ _ _ h; simp at h
 | cons p kk ih =>
   intro i v0 hn nd h; unfold N9; have hp:=Jt (O2 (hn p (.head _))).1 (O2 hk).1;cases i with
   | zero =>
     simp at h;subst h; rw [if_pos (hp.mpr rfl)]; rfl
   | succ i =>
     rw [wQ,zC] at nd; have hm:(k,v0)∈kk:=c8 (by simpa using h);rw [if_neg (fun z=>nd.1 (by rw [hp.mp z]; exact yP hm)),ih (fun q hq=>hn q (.tail _ hq)) nd.2 (by simpa using h)];rfl
theorem oB {k:wF} {v:V} (hk:nkD k=true):∀ {kk:List (wF×V)},(∀ p∈kk,nkD p.1=true)->k∉kk.map (·.1)->N9 kk k v=kk++[(k,v)]:=by
 intro iN; induction iN with
 | nil=>intro _ _; exact rfl
 | cons p kk ih =>
   intro hn h; unfold N9; rw [wQ,wK,not_or] at h; rw [if_neg (fun z=>h.1 ((Jt (O2 (hn p (.head _))).1 (O2 hk).1).mp z).symm),ih (fun q hq=>hn q (.tail _ hq)) h.2];rfl
theorem Xf {G:Hp} {k d:wF} {v:V} (r:Rep G d v):∀ {kvs:Kvs} {kk:List (wF×V)},kvs.map (·.1)=kk.map (·.1)->RepL G (kvs.map (·.2)) (kk.map (·.2))->(N9 kvs k d).map (·.1)=(N9 kk k v).map (·.1)/\RepL G ((N9 kvs k d).map (·.2)) ((N9 kk k v).map (·.2))
 | [],[],_,_=>⟨rfl,RepL.cons r rfl⟩
 | [],_::_,e,_=>by cases e
 | _::_,[],e,_=>by cases e
 | p::kvs,q::kk,e,l=>by
   simp only [wQ,z8] at e; obtain ⟨x,t,ex,rx,l⟩:=l; simp only [wQ,z8] at ex; unfold N9; rw [e.1];split
   . exact ⟨by simp only [wQ]; rw [e.2],RepL.cons r (by rw [ex.2]; exact l)⟩
   . obtain ⟨h1,h2⟩:=Xf (k:=k) r e.2 (by rw [ex.2]; exact l)
     exact ⟨by simp only [wQ]; rw [e.1,h1],RepL.cons (show Rep G p.2 q.2 by rw [ex.1]; exact rx) h2⟩
theorem Yj {w:xT} {v:V} {r:wI}:∀ (kk:List (wF×V)) (xs:List (wI×wI)) (i:Nat),(O3 w kk xs).modify i (fun e=>{ e with val:=r })=O3 w (kk.modify i fun p=>(p.1,v)) (xs.modify i fun q=>(q.1,r))
 | [],xs,i=>by cases i <;> simp [O3]
 | _::_,[],i=>by cases i <;> simp [O3]
 | p::kk,q::xs,0=>rfl
 | p::kk,q::xs,i+1=>by
   have:=Yj (w:=w) (v:=v) (r:=r) kk xs i; simp only [O3,List.zipWith_cons_cons,List.modify_succ_cons] at this ⊢;rw [this]
theorem Oe {α β:Type} {F:α->β->Prop} {f:α->α} {g:β->β} (h:∀ a b,F a b->F (f a) (g b)):∀ {l₁:List α} {l₂:List β} (i:Nat),a9 F l₁ l₂->a9 F (l₁.modify i f) (l₂.modify i g)
 | _,_,i,.nil=>by cases i <;> exact .nil
 | _,_,0,.cons r t=>.cons (h _ _ r) t
 | _,_,i+1,.cons r t=>.cons r (Oe h i t)
noncomputable section
variable {prog:xN} {w:xT} {A:yS} {E:wI->wJ->Prop} {s:wJ}
theorem gI {d:wR} {key v:wI} {L:List yU} {ep:Nat} {ks:List wF} {k:wF} {Q:Unit->wJ->Prop} (hu:A.units+8 < k5) (ho:s.heap.get? d=some { cls:=.type "dict",data:=.dict (HR L) ep }) (hz:L.length<=sizeLine) (N:EsN w s.heap L.toArray ks) (x:NAt s.heap key k)
   (h1:∀ (i:Nat) (h':yQ) (tk:Nat),ks[i]? = some k->(∀ b o,b≠d->s.heap.get? b=some o->h'.get? b=some o)->h'.get? d=some { cls:=.type "dict",data:=.dict (L.modify i fun e=>{ e with val:=v }).toArray ep }->Q () { s with heap:=h',toks:=tk })
   (h0:∀ (h':yQ) (tk:Nat),k∉ks->(∀ b o,b≠d->s.heap.get? b=some o->h'.get? b=some o)->h'.get? d=some { cls:=.type "dict",data:=.dict (L++[DictEntry.mk (T9 w k) key v]).toArray (ep+1) }->Q () { s with heap:=h',toks:=tk }) :
   wpAny (xH prog w) A (dictSet d key v) Q E s:=by
 unfold dictSet;try with_reducible refine yR ?_
 refine wG (x.hash hu fun tk=>?_);unfold dictSetHashed;try with_reducible refine yR ?_
 refine wG (aV (s:={ s with toks:=tk }) hu ho rfl N x (fun i hi=>?_) fun hn=>?_)
 . refine wG (zW (wG (wpAny_updateDict (s:={ s with toks:=tk }) ho rfl (wpAny_point (h1 i _ tk hi (fun b o hb e=>?_) ?_)))))
   . exact (ET _ _ _ _ hb).trans e
   . have:=zB (Obj.mapDict fun x=>x.modify i fun e=>{ e with val:=v }) ho (EY (Obj.data_mapDict rfl _))
     rw [this]; simp [Obj.mapDict]
 . refine wG (zW (wpAny_updateDictKeys (hz:=by simpa using hz) (s:={ s with toks:=tk }) ho rfl (h0 _ tk hn (fun b o hb e=>?_) ?_)))
   . exact (ET _ _ _ _ hb).trans e
   . have:=zB (DQ fun x=>x.push ⟨T9 w k,key,v⟩) ho (EY (Obj.data_mapDictKeys rfl _))
     rw [this]; simp [DQ]
end
noncomputable section
variable {X:Cx} {pins:List (wR×Obj)} {Z:St} {H:Hp} {s:wJ} {a:wR} {A:yS} {E:wI->wJ->Prop}
theorem fK {kvs:List (wF×V)} {kd:wF} {y d:V} {u r:wI} {Q:Unit->wJ->Prop} (hu:A.units+8 < k5) (I:Inv X pins Z H s) (e:H a=some (.dN kvs)) (rk:KRep H kd y) (hk:nkD kd=true) (hz:kvs.length < sizeLine) (ry:RelV y u) (rd:RelV d r)
   (h:∀ s',Inv X pins Z (upd H a (.dN (N9 kvs kd d))) s'->(∀ b o,b≠a->s.heap.get? b=some o->s'.heap.get? b=some o)->Q () s'):wpAny (xH X.prog X.w) A (dictSet a u r) Q E s:=by
 obtain ⟨z,hd,nd,nk,xs,rel,ep,e1⟩:=I.hok a _ e;have hl:=Paired.len' rel;have hlen:(O3 X.w kvs xs).length<=sizeLine:=by
   unfold O3; rw [List.length_zipWith]; lia
 have ht:∀ b ys,H b=some (.tup ys)->(upd H a (.dN (N9 kvs kd d))) b=some (.tup ys):=fun b ys z=>by
   rw [C3 (cR z e (fun z=>by cases z))]; exact z
 refine gI (ep:=ep) (ks:=kvs.map (·.1)) (k:=kd) hu e1 hlen (Ot I rel nk nd) (Jm I rk ry hk) (fun i h' tk hi hkeep hnew=>?_) (fun h' tk hn hkeep hnew=>?_)
 . refine h _ ?_ hkeep
   have hlt:i < kvs.length:=by have:=(xM.mp hi).1; simpa using this
   have hp:kvs[i]? = some (kd,kvs[i].2):=by
     rw [yA hlt]; have h2:=hi; rw [xQ,yA hlt] at h2; have:kvs[i].1=kd:=by simpa using h2
     rw [<- this]
   have ep':=oC (v:=d) hk nk nd hp; refine I.write (x:=a) (e:=a) (t':=tk) (by rw [e]; exact trivial) (.inl rfl) (fun b o hb q=>hkeep b o hb q) ⟨_,hnew⟩ ?_;have hkeys:(N9 kvs kd d).map (·.1)=kvs.map (·.1):=by
     rw [ep']; apply AV;intro j; rw [xQ,xQ,List.getElem?_modify];by_cases c:i=j
     . simp only [c,if_pos]; cases kvs[j]? <;> rfl
     . simp only [c,if_neg,if_false]; cases kvs[j]? <;> rfl
   refine ⟨xD (Ej kvs) hz,hd,by rw [hkeys]; exact nd,fun p hp=>?_,xs.modify i (fun q=>(q.1,r)),?_,ep,?_⟩
   . have:p.1∈kvs.map (·.1):=by rw [<- hkeys]; exact yP hp
     obtain ⟨p',m,em⟩:=xF.mp this; rw [<- em]; exact nk p' m
   . rw [ep']
     exact Paired.mapP (Oe (fun p q hZ2=>by obtain ⟨⟨v,z1,z2⟩,_⟩:=hZ2; exact ⟨⟨v,z1,z2⟩,rd⟩) i rel) fun p q hZ2=>by obtain ⟨⟨v,z1,z2⟩,z3⟩:=hZ2; exact ⟨⟨v,z1.mono (ep'▸ht),z2⟩,z3⟩
   . rw [ep',<- Yj]; exact hnew
 . refine h _ ?_ hkeep
   have ep':=oB (v:=d) hk nk hn; refine I.write (x:=a) (e:=a) (t':=tk) (by rw [e]; exact trivial) (.inl rfl) (fun b o hb q=>hkeep b o hb q) ⟨_,hnew⟩ ⟨xD (Ej kvs) hz,hd,?_,?_,xs++[(u,r)],?_,ep+1,?_⟩
   . rw [ep',xR,w6]
     refine ⟨nd,by simp,fun x hx y hy=>?_⟩;have:y=kd:=by simpa using hy
     subst this; exact fun z=>hn (z▸hx)
   . rw [ep']
     intro p hp; rcases wY.mp hp with hp | hp
     . exact nk p hp
     . rw [wX.mp hp]; exact hk
   . have:=Paired.app' (F:=PrN (upd H a (.dN (N9 kvs kd d)))) (a:=(kd,d)) (b:=(u,r)) ⟨⟨y,rk.mono ht,ry⟩,rd⟩ (Paired.mapP rel fun p q hZ2=>by obtain ⟨⟨v,z1,z2⟩,z3⟩:=hZ2; exact ⟨⟨v,z1.mono ht,z2⟩,z3⟩)
     rw [<- ep'] at this; exact this
   . rw [ep',Yk hl]; exact hnew
theorem n_put {kvs:List (wF×V)} {kd:wF} {y d:V} {u r:wI} {Q:Unit->wJ->Prop} (hu:A.units+16 < k5) (I:Inv X pins Z H s) (e:H a=some (.dN kvs)) (rk:KRep H kd y) (hk:nkD kd=true) (hz:kvs.length < sizeLine) (ry:RelV y u) (rd:RelV d r)
   (h:∀ s',Inv X pins Z (upd H a (.dN (N9 kvs kd d))) s'->Q () s'):wpAny (xH X.prog X.w) A (setItem (.ref a) u r) Q E s:=by
 obtain ⟨z,hd,nd,nk,xs,rel,ep,e1⟩:=I.hok a _ e;have hT:s.TypeIs (.ref a) "dict" := ⟨_,e1,rfl⟩;unfold setItem;try with_reducible refine yR ?_
 refine wG (DD hT (by decide) ?_);refine wG (yN (name:=g9 "__setitem__") hT F.slot_dict_setitem ?_);refine yE F.slot_dict_setitem hT F.entry_dict_setitem ?_ (F.args_dict_setitem_3 _ _ _);show wpAny _ _ (Builtin.Dict.notOrdered "__setitem__" ⟨[.ref a,u,r],[]⟩>>=_) _ _ s;refine wG (EU hT ?_);show wpAny _ _ (dictSet a u r>>=_) _ _ s;exact wG (fK (hu8 hu) I e rk hk hz ry rd fun s' I' _=>wH ⟨.none,rfl,wH (h s' I')⟩)
end
def sNPut (td ty tv:TE):TS:=fun D Z H=>tv Z H fun v H1=>td Z H1 fun x H2=>ty Z H2 fun y H3=>∃ a kvs kd,x=.ref a/\H3 a=some (.dN kvs)/\KRep H3 kd y/\nkD kd=true/\kvs.length < sizeLine/\D.nx Z (upd H3 a (.dN (N9 kvs kd v)))
theorem oG {X:Cx} {o i value:Expr} {pos pos':Pos} {td ty tv:TE} (hu:X.A.units+16 < k5) (ho:PE X o td) (hi:PE X i ty) (hv:PE X value tv) (hs:m7 value (some (.Subscript o i pos')) pos.line X.env=pure false) :
   PS X (.Assign [.Subscript o i pos'] value pos) (sNPut td ty tv):=by
 intro pins s Z H D I h;refine wpAny_Assign_Subscript (thn (hv pins s Z H _ I h) fun r s1 hY90=>?_) hs;obtain ⟨v,H1,I1,rv,q1⟩:=hY90;refine thn (ho pins s1 Z H1 _ I1 q1) fun u s2 hY91=>?_;obtain ⟨x,H2,I2,rx,q2⟩:=hY91;refine thn (hi pins s2 Z H2 _ I2 q2) fun iv s3 hY92=>?_;obtain ⟨y,H3,I3,ry,a,kvs,kd,ex,g,rk,hk,hz,q3⟩:=hY92;subst ex;obtain rfl:u=f8 a:=rx;exact n_put hu I3 g rk hk hz ry rv fun s4 I4=>⟨Z,_,I4,q3⟩
noncomputable def W6 (i:Nat) (fk fv:Dn->Res wF):Dn->Out:=fun δ=>match δ[i]? with
 | some (.ow (.tuple [.dict kvs,.none]))=>M5 (fv δ) fun v=>M5 (fk δ) fun kd=>if nkD kd=true/\kvs.length < 100000 then .nx (δ.set i (.ow (.tuple [.dict (N9 kvs kd v),.none]))) else .no
 | _=>.no
noncomputable section
variable {P:xN} {w:xT} {K:wM} {mg:Str->Option wI} {base:yQ} {X:Cx} {N:List Str} {sc:Scope} {k:Nat} {df:Bool} {E:EK} {p p2 pos:Pos} {a b:Expr} {f g:Dn->Res wF} {x:Str}
theorem Nr (C:Cxt P w K mg base X N sc k df) (i:Nat) (h:okVar N sc i x=true) (hk:DE X E a f) (hv:DE X E b g) (hs:m7 b (some (.Subscript (.Name x p) a p2)) pos.line X.env=pure false:=by rfl):DS X E (.Assign [.Subscript (.Name x p) a p2] b pos) (W6 i f g):=fun G0 H0=>by
 refine PS.imp (oG (by have:=C.hu; lia) (okVar.pe C h) hk hv hs) fun D Z H hY93=>?_;obtain ⟨G,δ,S,aft⟩:=hY93;unfold W6 at aft;split at aft
 . rename_i kvs hi
   refine Hg S aft fun v x1 G1 H1 g1 r1 S1 a1=>?_;obtain ⟨q,hσ,hg,ho⟩:=S1.sr.own hi; refine ⟨.ref q,hσ,?_⟩; refine Hg S1 a1 fun kd x2 G2 H2 g2 r2 S2 a2=>?_;obtain ⟨q',hσ',hg',ho'⟩:=S2.sr.own hi; rw [hσ] at hσ'; cases hσ'; obtain ⟨kk,hx,hkeys,hvals⟩:=(show OwnK G2 H2 q [.dict kvs,.none] from ho');split at a2
   . rename_i hc
     have hl:kk.length=kvs.length:=by
       have:=congrArg AO hkeys;simpa using this.symm
     have hlen:kk.length < sizeLine:=by
       rw [hl]; exact xB hc.2 (by decide)
     refine ⟨q,kk,kd,rfl,hx,Nx S2.sr.sub hc.1 r2,hc.1,hlen,?_⟩; obtain ⟨p1,p2⟩:=Xf (k:=kd) (r1.mono g2.g) hkeys hvals; exact a2 Z G2 _ (S2.write hi (by rw [hσ]; rfl) hg' (show OwnK G2 _ q [.dict _,.none] from ⟨_,C0,p1,p2⟩))
   . exact (show False from a2).elim
 . exact (show False from aft).elim
end
noncomputable def fzN (i:Nat) (δ:Dn):Dn:=match δ[i]? with
 | some (.ow (.tuple [.dict kvs,.none]))=>δ.set i (.fd ((.dict [],.none)::kvs))
 | _=>δ
theorem SSt.fzN {G0 H0 G H:Hp} {Z:St} {δ:Dn} (S:SSt G0 H0 G H Z δ) (i:Nat):∃ G',SSt G0 H0 G' H Z (fzN i δ):=by
 unfold Sm.fzN;split
 . rename_i kvs hi
   obtain ⟨p,hp,hg,ho⟩:=S.sr.sl i _ hi; obtain ⟨kk,hx,hk,r⟩:=(show OwnK G H p [.dict kvs,.none] from ho);have h0:=S.fr i _ p hi hp; have sm:Same G (upd G p (.dN kk)):=Same.upd hg; have gh:Same (upd G p (.dN kk)) H:=fun b u e=>by
     by_cases hb:b=p
     . subst hb; rw [C0] at e; cases e; exact hx
     . rw [C3 hb] at e; exact S.sr.sub _ _ e
   have gr:Grow G0 H0 (upd G p (.dN kk)) H:=⟨S.gr.g.trans sm,S.gr.h,gh,fun b u e=>by
     by_cases hb:b=p
     . subst hb; exact .inr (.inl h0)
     . rw [C3 hb] at e; exact S.gr.fr b u e⟩
   have hil:i < δ.length:=(xM.mp hi).1; have key:∀ (j:Nat) (d':wF),(δ.set i (.fd ((.dict [],.none)::kvs)))[j]? = some (.ow d')->δ[j]? = some (.ow d')/\j≠i:=fun j d' e=>by
     rw [D9] at e;split at e
     . cases e
     . rename_i hn
       exact ⟨e,fun z=>by subst z; exact hn ⟨rfl,hil⟩⟩
   refine ⟨_,gr,⟨gh,by simp [S.sr.len],fun j s e=>?_,fun j1 j2 a d1 d2 e1 e2 h1 h2=>S.sr.ap j1 j2 a d1 d2 (key j1 d1 e1).1 (key j2 d2 e2).1 h1 h2⟩,fun j d' a e h=>S.fr j d' a (key j d' e).1 h⟩;by_cases hj:i=j/\i < δ.length
   . rw [D9,if_pos hj] at e
     cases e; rw [<- hj.1]; exact ⟨p,kk,hp,.inl C0,hk,r.mono sm⟩
   . have e2:=e
     rw [D9,if_neg hj] at e2; have hs:=S.sr.sl j s e2;cases s with
     | un=>trivial
     | sh d=>obtain ⟨v,e1,r1⟩:=hs; exact ⟨v,e1,r1.mono sm⟩
     | fd _=>exact FdOk.mono sm hs
     | ow d2 =>
       obtain ⟨a,e1,n1,ok⟩:=hs; have hne:a≠p:=by
         rintro rfl;exact (key j d2 e).2 (S.sr.ap j i a d2 _ e2 hi e1 hp)
       exact ⟨a,e1,by rw [C3 hne]; exact n1,ok.monoG sm⟩
 . exact ⟨G,S⟩
noncomputable def jE (i:Nat) (g:Dn->Out):Dn->Out:=fun δ=>g (fzN i δ)
theorem rN {X:Cx} {E:EK} {st:n8} {g1:Dn->Out} (i:Nat) (h:DS X E st g1):DS X E st (jE i g1):=fun G0 H0=>PS.imp (h G0 H0) fun D Z H hZ3=>by
 obtain ⟨G,δ,S,a⟩:=hZ3;obtain ⟨G',S'⟩:=S.fzN i;exact ⟨G',_,S',a⟩
end Sm
end
noncomputable section
namespace Sm
open PySem PySem.Spec PyProof.Rows PySem.W L2
def SlV (G:Hp) (v:V):Sl->Prop
 | .sh d=>Rep G d v
 | .fd kvs=>FdOk G (some v) kvs
 | _=>False
noncomputable def SlL (G:Hp):List Sl->List V->Prop
 | [],vs=>vs=[]
 | s::ss,vs=>∃ v r,vs=v::r/\SlV G v s/\SlL G ss r
theorem SlL.length {G:Hp}:∀ {ss:List Sl} {vs:List V},SlL G ss vs->ss.length=vs.length:=by
 intro iN; induction iN with
 | nil=>intro vs h; rw [show vs=[] from h]; rfl
 | cons _ _ ih=>intro _ h; obtain ⟨v,r,rfl,_,l⟩:=h; simp [ih l]
theorem SlL.get {G:Hp}:∀ {ss:List Sl} {vs:List V} {i:Nat} {s:Sl},SlL G ss vs->ss[i]? = some s->∃ v,vs[i]? = some v/\SlV G v s
 | [],_,i,_,_,e=>by simp at e
 | _::_,_,0,_,h,e=>by obtain ⟨v,r,rfl,q,_⟩:=h; simp at e; subst e; exact ⟨v,rfl,q⟩
 | _::_,_,i+1,_,h,e=>by obtain ⟨v,r,rfl,_,l⟩:=h; exact SlL.get (i:=i) l (by simpa using e)
noncomputable def Cw (N:List Str) (ss:List Sl):Dn:=ss++xI (N.length - ss.length) .un
theorem Vz {G H:Hp} (hG:Same G H) {ss:List Sl} {vs:List V} (r:SlL G ss vs) (N:List Str):SSt G H G H (Bj N vs) (Cw N ss):=by
 have hl:=r.length;have noow:∀ (i:Nat) (d:wF),(Cw N ss)[i]? ≠ some (.ow d):=fun i d e=>by
   unfold Cw at e;by_cases hi:i < ss.length
   . rw [yD hi] at e
     obtain ⟨_,_,z⟩:=r.get e; exact z
   . rw [yG (zP.mp hi),j9] at e
     split at e <;> cases e
 refine ⟨Grow.refl hG,⟨hG,by unfold L2.Bj Cw; simp [hl],fun i s e=>?_,fun i j a d d' e _ _ _=>absurd e (noow i d)⟩,fun i d a e _=>absurd e (noow i d)⟩;unfold Cw at e;by_cases hi:i < ss.length
 . rw [yD hi] at e
   obtain ⟨v,e1,rv⟩:=r.get e; unfold L2.Bj; rw [yD (by rw [wL,<- hl]; exact hi),xQ,e1];cases s with
   | sh d=>exact ⟨v,rfl,rv⟩
   | fd kvs=>exact rv
   | un=>exact rv.elim
   | ow d=>exact rv.elim
 . rw [yG (zP.mp hi),j9] at e
   split at e <;> cases e
   trivial
def spS (n:Nat) (m:List Sl->Res wF):Sp:=fun vs H Q _=>∃ G ss d,Same G H/\SlL G ss vs/\ss.length=n/\m ss=.ok d/\∀ v G' H',Grow G H G' H'->Rep G' d v->Q v H'
structure FnS (P:xN) (w:xT) (K:wM) (mg:Str->Option wI) (base:yQ) (x:Str) (k n:Nat) (m:List Sl->Res wF):Prop where
 ex:∃ f fd ps,ps.length=n/\FnOk P w K mg base CX0 k f fd ps (spS n m)/\mg x=some (.ref f)/\zL K (.ref f)=true/\Binds K fd ps []
noncomputable def fnS (N:List Str) (g:Dn->Out):List Sl->Res wF:=fun ss=>match g (Cw N ss) with
 | .rt d=>.ok d
 | .nx _=>.ok .none
 | .exc c=>.exc c
 | _=>.no
def spSN (n:Nat) (m:List Sl->Res Kvs):Sp:=fun vs H Q _=>∃ G ss kvs,Same G H/\SlL G ss vs/\ss.length=n/\m ss=.ok kvs/\∀ p G' H',Grow G H G' H'->H p=none->G' p=none->OwnOk G' H' p (.tuple [.dict kvs,.none])->Q (.ref p) H'
structure FnSN (P:xN) (w:xT) (K:wM) (mg:Str->Option wI) (base:yQ) (x:Str) (k n:Nat) (m:List Sl->Res Kvs):Prop where
 ex:∃ f fd ps,ps.length=n/\FnOk P w K mg base CX0 k f fd ps (spSN n m)/\mg x=some (.ref f)/\zL K (.ref f)=true/\Binds K fd ps []
noncomputable def pT (N:List Str) (g:Dn->Res Kvs):List Sl->Res Kvs:=fun ss=>g (Cw N ss)
noncomputable def Tk (f:Dn->Res wF) (i:Nat) (m:List Sl->Res Kvs):Dn->Res Kvs:=fun δ=>(f δ).bind fun d=>match δ[i]? with
 | some (.fd kvs)=>m [.sh d,.fd kvs]
 | _=>.no
noncomputable def Bh (i:Nat) (f:Dn->Res wF) (m:List Sl->Res wF):Dn->Res wF:=fun δ=>match δ[i]? with
 | some (.fd kvs)=>(f δ).bind fun d=>m [.fd kvs,.sh d]
 | _=>.no
theorem FdOk.is {G:Hp} {o:Option V} {kvs:Kvs} (h:FdOk G o kvs):∃ a,o=some (.ref a):=by
 unfold FdOk at h;split at h
 . obtain ⟨a,kk,h1,_⟩:=h; exact ⟨a,h1⟩
 . obtain ⟨a,ob,kk,h1,_⟩:=h; exact ⟨a,h1⟩
theorem SR.fdV {G H:Hp} {Z:St} {δ:Dn} {i:Nat} {kvs:Kvs} (S:SR G H Z δ) (hi:δ[i]? = some (.fd kvs)):∃ v,Z[i]? = some (some v)/\FdOk G (some v) kvs:=by
 have h:FdOk G (Z[i]?.join) kvs:=S.sl i _ hi;obtain ⟨a,e⟩:=h.is;rw [e] at h;refine ⟨.ref a,?_,h⟩;cases z:Z[i]? with
 | none=>rw [z] at e; cases e
 | some z' =>
   rw [z] at e;cases z' with
   | none=>cases e
   | some z''=>cases e; rfl
noncomputable section
variable {P:xN} {w:xT} {K:wM} {mg:Str->Option wI} {base:yQ} {X:Cx} {N:List Str} {sc:Scope} {k:Nat} {df:Bool} {E:EK} {pos p p1:Pos} {a e:Expr} {f:Dn->Res wF} {x y:Str}
theorem fn_S {x:Str} {st:n8} {ps:List Str} {n:Nat} {go:Dn->Out} {m:List Sl->Res wF} (F:Def K mg x st ps) (S:FnScope N ps (A3 st)) (hn:ps.length=n)
   (body:∀ X,Cxt P w K mg base X N (A3 st) k true->DSs X E0k (B3 st) go) (hm:m=fnS N go):FnS P w K mg base x (k+1) n m:=by
 obtain ⟨f,fd,F,hmg,hb⟩:=F.ex;refine ⟨f,fd,ps,hn,?_,hmg,F.kp,hb⟩;subst hm;refine F.ok S (fun vs H Q E h=>?_) (fun cdv A outer s H vs Q E hr h=>?_)
 . obtain ⟨G,ss,d,_,r,hl,_⟩:=h
   rw [<- r.length,hl,hn]
 . obtain ⟨G,ss,d,hG,r,hl,em,q⟩:=h
   refine ⟨_,body _ ⟨rfl,rfl,rfl,rfl,rfl,rfl,rfl,rfl,hr,fun _ _=>rfl,BG⟩ G H,G,_,Vz hG r N,?_⟩;unfold fnS at em;cases eg:go (Cw N ss) with
   | rt d'=>rw [eg] at em; cases em; exact fun v G' H' g r'=>q v G' H' g r'
   | nx δ=>rw [eg] at em; cases em; exact fun Z G' H' S'=>q _ G' H' S'.gr rfl
   | bk _=>rw [eg] at em; cases em
   | ct _=>rw [eg] at em; cases em
   | exc _=>rw [eg] at em; cases em
   | no=>rw [eg] at em; cases em
theorem fn_SN {x:Str} {st:n8} {ps:List Str} {n:Nat} {go:Dn->Res Kvs} {m:List Sl->Res Kvs} (F:Def K mg x st ps) (S:FnScope N ps (A3 st)) (hn:ps.length=n)
   (body:∀ X,Cxt P w K mg base X N (A3 st) k true->DSN X E0k (B3 st) go) (hm:m=pT N go):FnSN P w K mg base x (k+1) n m:=by
 obtain ⟨f,fd,F,hmg,hb⟩:=F.ex;refine ⟨f,fd,ps,hn,?_,hmg,F.kp,hb⟩;subst hm;refine F.ok S (fun vs H Q E h=>?_) (fun cdv A outer s H vs Q E hr h=>?_)
 . obtain ⟨G,ss,d,_,r,hl,_⟩:=h
   rw [<- r.length,hl,hn]
 . obtain ⟨G,ss,kvs,hG,r,hl,em,q⟩:=h
   refine ⟨_,body _ ⟨rfl,rfl,rfl,rfl,rfl,rfl,rfl,rfl,hr,fun _ _=>rfl,BG⟩ G H,G,_,Vz hG r N,?_⟩;unfold pT at em; rw [em]; exact q
theorem AftN.grow {G H G' H':Hp} {r:Res Kvs} {Q:VK} (g:Grow G H G' H') (a:AftN E G H r Q):AftN E G' H' r Q:=by
 cases r with
 | ok kvs=>exact fun p G2 H2 g2 hp hp' ho=>a p G2 H2 (g.trans g2) (g.h.free hp) hp' ho
 | exc c=>exact fun G2 H2 g2=>a G2 H2 (g.trans g2)
 | no=>exact a
theorem vY {G H:Hp} {Z:St} {δ:Dn} {k:wF->Res Kvs} {Q R:VK} (S:SR G H Z δ) (a:AftN E G H ((f δ).bind k) Q)
   (h:∀ d v G1 H1,Grow G H G1 H1->Rep G1 d v->SR G1 H1 Z δ->AftN E G1 H1 (k d) Q->R v H1):tD E f Z H R:=by
 refine ⟨G,δ,S,?_⟩;cases e:f δ with
 | ok d=>rw [e] at a; exact fun v G' H' g r=>h d v G' H' g r (S.grow g) (a.grow g)
 | exc c=>rw [e] at a; exact a
 | no=>rw [e] at a; exact a
theorem kN {j:Nat} {m:List Sl->Res Kvs} (C:Cxt P w K mg base X N sc k df) (F:FnSN P w K mg base y j 2 m) (hj:j<=k) (h:okGl sc y=true) (ha:DE X E0k e f) (i:Nat) (hv:okVar N sc i x=true)
   (he:wU [e,.Name x p1] X.env=(false,eval e X.env)::wU [.Name x p1] X.env:=by rfl) (he2:wU [.Name x p1] X.env=(false,eval (.Name x p1) X.env)::wU [] X.env:=by rfl) (hpl:(zY pos (wU [.Name x p1] X.env)).any (·.1)=false:=by rfl) :
   DN X E0k (.Call (.Name y p) [e,.Name x p1] [] pos) (Tk f i m):=by
 obtain ⟨fa,fd,ps,hps,F,hm,hk,hb⟩:=F.ex;obtain ⟨h1,h2,h3⟩:=okGl.gl C h;have F':FnOk X.prog X.w X.K X.mg X.base CX0 j fa fd ps (spSN 2 m):=by rw [C.hP,C.hw,C.hK,C.hmg,C.hb]; exact F
 refine PE.imp (Lr F' (C.room.mono hj) h1 (by rw [C.hmg]; exact hm) (by rw [C.hK]; exact hk) (by rw [C.hK]; exact hb) .nil (cK (X:=X)) (O8 ha (O8 (okVar.pe C hv) Y5 he2) he) h2 he hpl) fun Z H Q hh=>?_;obtain ⟨G,δ,S,aft⟩:=hh;refine vY S aft fun d v G1 H1 g1 r1 S1 a1=>?_;split at a1
 . rename_i kvs hi
   obtain ⟨u,hσ,fo⟩:=S1.fdV hi; refine ⟨u,hσ,?_⟩;cases em:m [.sh d,.fd kvs] with
   | ok r=>rw [em] at a1; exact ⟨G1,[.sh d,.fd kvs],r,S1.sub,⟨v,_,rfl,r1,u,_,rfl,fo,rfl⟩,rfl,em,a1⟩
   | exc c=>rw [em] at a1; exact (a1 G1 H1 (Grow.refl S1.sub)).elim
   | no=>rw [em] at a1; exact a1.elim
 . exact (show False from a1).elim
theorem Ys {j:Nat} {m:List Sl->Res wF} (C:Cxt P w K mg base X N sc k df) (F:FnS P w K mg base y j 2 m) (hj:j<=k) (h:okGl sc y=true) (i:Nat) (hv:okVar N sc i x=true) (ha:DE X E0k e f)
   (he:wU [.Name x p1,e] X.env=(false,eval (.Name x p1) X.env)::wU [e] X.env:=by rfl) (he2:wU [e] X.env=(false,eval e X.env)::wU [] X.env:=by rfl) (hpl:(zY pos (wU [e] X.env)).any (·.1)=false:=by rfl) :
   DE X E0k (.Call (.Name y p) [.Name x p1,e] [] pos) (Bh i f m):=by
 obtain ⟨fa,fd,ps,hps,F,hm,hk,hb⟩:=F.ex;obtain ⟨h1,h2,h3⟩:=okGl.gl C h;have F':FnOk X.prog X.w X.K X.mg X.base CX0 j fa fd ps (spS 2 m):=by rw [C.hP,C.hw,C.hK,C.hmg,C.hb]; exact F
 refine PE.imp (Lr F' (C.room.mono hj) h1 (by rw [C.hmg]; exact hm) (by rw [C.hK]; exact hk) (by rw [C.hK]; exact hb) .nil (cK (X:=X)) (O8 (okVar.pe C hv) (O8 ha Y5 he2) he) h2 he hpl) fun Z H Q hh=>?_;obtain ⟨G,δ,S,aft⟩:=hh;unfold Bh at aft;split at aft
 . rename_i kvs hi
   obtain ⟨u,hσ,_⟩:=S.fdV hi; refine ⟨u,hσ,?_⟩; refine J2 S aft fun d v G1 H1 g1 r1 S1 a1=>?_;obtain ⟨u',hσ',fo⟩:=S1.fdV hi; rw [hσ] at hσ'; cases hσ';cases em:m [.fd kvs,.sh d] with
   | ok r=>rw [em] at a1; exact ⟨G1,[.fd kvs,.sh d],r,S1.sub,⟨u,_,rfl,fo,v,_,rfl,r1,rfl⟩,rfl,em,a1⟩
   | exc c=>rw [em] at a1; exact (a1 G1 H1 (Grow.refl S1.sub)).elim
   | no=>rw [em] at a1; exact a1.elim
 . exact (show False from aft).elim
end
end Sm
end
noncomputable section
namespace Sm
open PySem PySem.Spec PyProof.Rows PySem.W L2
end Sm
end
noncomputable section
namespace Sm
open PySem PySem.Spec PyProof.Rows PySem.W L2
end Sm
end
noncomputable section
namespace Sm
open PySem PySem.Spec PySem.W PyProof.Rows L2
end Sm
end
noncomputable section
namespace Sm
open PySem PySem.Spec PySem.W PyProof.Rows L2
end Sm
end
noncomputable section
namespace Sm
open PySem PySem.Spec PyProof.Rows PySem.W L2
noncomputable section
variable {prog:xN} {w:xT} {A:yS} {E:wI->wJ->Prop} {s:wJ}
theorem Zq (hh:A.handled=none) (I d:wR) (hne:d≠I) (od:Obj) (es:Array yU) (ep:Nat) (hdd:od.data=.dict es ep) :
   Walks prog w A I [I,d] [I] es.size (fun i v=>∃ e,es[i]? = some e/\v=e.key) (fun i h=>h.IsKeyIter I d i es.size ep/\h.get? d=some od) where
 sub:=fun b hb=>by simp at hb; simp [hb]
 frame:=fun _ _ _ st hk=>⟨st.1.at fun o e=>hk I (by simp) o e,hk d (by simp) _ st.2⟩
 item:=fun i s Q E hi st hQ=>by
   refine kK st.1 st.2 hdd hi fun h' n hs=>?_;exact hQ _ h' s.toks ⟨es[i],by simp [hi],rfl⟩ ⟨n,hs.extBut d _ hne st.2⟩ fun b o hb e=>hs.extBut b o (fun z=>hb (by simp [z])) e
 done:=fun s Q E st hQ=>pX hh (wO _) st.1 st.2 hdd fun h' he=>hQ h' s.toks fun b o hb e=>he b o (fun z=>hb (by simp [z])) e
 self:=fun _ _ _ _ st hQ=>wpAny_pyIter_keyiter st.1 hQ
theorem eO {d:wR} {od:Obj} {es:Array yU} {ep:Nat} (lo:(d==m8)=false) (hcl:od.cls=.type "dict") (hdd:od.data=.dict es ep) :
   KdlSrc prog w "dict" d d es.size (fun i v=>∃ e,es[i]? = some e/\v=e.key) (fun h=>h.get? d=some od) where
 type:=fun _ hm=>⟨od,hm,hcl⟩
 there:=fun _ hm=>⟨xA hm,xA hm⟩
 keep:=fun _ _ hm hk=>hk d (.inr rfl) _ hm
 notList:=by decide
 notTuple:=by decide
 hint:=fun _ _ _ _ hm hq=>kdl_hint_dict ⟨od,hm,hcl⟩ hq
 iter:=fun _ _ hh hm=>⟨_,_,(fun _ _ hq=>lG lo ⟨od,hm,hcl⟩ hm hdd hq),Zq hh _ d (xU (xA hm)) od es ep hdd,⟨⟨_,wW _ rfl,rfl,rfl⟩,wN _ hm⟩⟩
theorem iP {d:wR} {od:Obj} {es:Array yU} {ep:Nat} {ss:List Str} {Q:wI->wJ->Prop} (lo:(d==m8)=false) (hcl:od.cls=.type "dict") (hdd:od.data=.dict es ep) (hh:A.handled=none) (hd:s.heap.get? d=some od)
   (hS:DJ (es.toList.map (·.key)) ss) (h64:es.size < 64)
   (h:∀ (h1:yQ) tk (out:Array wI) (ss':List Str),(∀ b o,s.heap.get? b=some o->h1.get? b=some o)->DJ out.toList ss'->ss'.Perm ss->sortedS ss'=true ->
     Q (.ref h1.objs.size) { s with heap:=HZ (h1.push (BB "list" (es.toList.map (·.key)).toArray 0)) h1.objs.size (es.toList.map (·.key)) out,toks:=tk }) :
   wpAny (xH prog w) A (call (.builtin "sorted") [.ref d]) Q E s:=by
 refine CG kind_sorted plain_sorted entry_sorted (args_sorted1 _) (wG (m:=checkCount "sorted" 1 1 _) (wH (wG (Va (eO lo hcl hdd) hh hd (by rw [n5]; lia) fun h1 tk acc hk hacc=>?_))));have hacc2:acc.toList=es.toList.map (·.key):=by
   apply AV;intro j;by_cases hj:j < es.size
   . have hja:j < acc.size:=by rw [hacc.1]; exact hj
     obtain ⟨e,e1,e2⟩:=hacc.2 j acc[j] (by simp [hja]);rw [xQ,q9,q9,e1,yC hja,e2]; rfl
   . rw [i9 (by simpa [hacc.1] using zP.mp hj),i9 (by simpa using zP.mp hj)]
 rw [hacc2];generalize hvs:es.toList.map (·.key)=vs at *;have hvl:vs.length=es.size:=by rw [<- hvs]; simp
 refine wG (wpAny_newList ?_ (by rw [n5]; lia));have hoL:(h1.push (BB "list" vs.toArray 0)).get? h1.objs.size=some (BB "list" vs.toArray 0):=wW _ rfl;show wpAny _ _ _ _ _ { s with heap:=h1.push (BB "list" vs.toArray 0),toks:=tk };refine wG (yR (yE IA ⟨_,hoL,rfl⟩ HI (list_sort_treeK strKind_oneLt hoL hS.keysOf (fun v₁ v₂ L3 e=>keyKind_strs (by rw [<- e]; exact hS)) (by lia) fun st' hp hs=>⟨_,rfl,?_⟩) (IJ _)));obtain ⟨ss',k1,k2,k3⟩:=sorted_out_str hS hp hs;exact wH ⟨_,rfl,h h1 tk _ ss' hk k1 k2 k3⟩
end
noncomputable def ltS (a b:Str):Bool:=ltCps a.cps.toList b.cps.toList
noncomputable def gB (p:Str):List Str->List Str
 | []=>[p]
 | q::r=>if ltS q p=true then q::gB p r else p::q::r
noncomputable def Q1:List Str->List Str
 | []=>[]
 | p::r=>gB p (Q1 r)
noncomputable def M4:List wF->Option (List Str)
 | []=>some []
 | .str x::r=>(M4 r).map (x::·)
 | _::_=>none
def leX (a b:Str):Prop:=¬ b.cps.toList < a.cps.toList
theorem rV {a b:Str}:ltS b a=false↔leX a b:=by unfold ltS leX; rw [ltCps_eq]; simp
theorem leX.trans {a b c:Str} (h1:leX a b) (h2:leX b c):leX a c:=List.le_trans (l₁:=a.cps.toList) (l₂:=b.cps.toList) (l₃:=c.cps.toList) h1 h2
theorem leX.anti {a b:Str} (h1:leX a b) (h2:leX b a):a=b:=by
 have:=List.le_antisymm (as:=a.cps.toList) (bs:=b.cps.toList) h1 h2;obtain ⟨⟨x⟩⟩:=a;obtain ⟨⟨y⟩⟩:=b;simp at this;rw [this]
theorem Rs:∀ (p:Str) (l:List Str),risingS p l=true->(p::l).Pairwise leX
 | p,[],_=>o4 _ _
 | p,x::r,h=>by
   have h':(!ltCps x.cps.toList p.cps.toList&&risingS x r)=true:=h; rw [xC] at h'; have ih:=Rs x r h'.2; have hx:leX p x:=rV.mp (by have:=h'.1; unfold ltS; simpa using this);refine xO.mpr ⟨fun y hy=>?_,ih⟩;rcases wK.mp hy with rfl | hy
   . exact hx
   . exact hx.trans ((xO.mp ih).1 y hy)
theorem Nb:∀ {l:List Str},sortedS l=true->l.Pairwise leX:=by
 intro iN; induction iN with
 | nil=>intro _; exact .nil
 | cons x r ih=>intro h; exact Rs x r h
theorem Oa:∀ {l m:List Str},l.Perm m->l.Pairwise leX->m.Pairwise leX->l=m
 | [],m,h,_,_=>(IP h)
 | a::l,[],h,_,_=>absurd h.length_eq (by simp)
 | a::l,b::m,h,h1,h2=>by
   rw [xO] at h1 h2; have e:a=b:=by
     rcases wK.mp (h.mem_iff.mp (yZ (a:=a) (l:=l))) with e | e
     . exact e
     . rcases wK.mp (h.mem_iff.mpr (yZ (a:=b) (l:=m))) with e' | e'
       . exact e'.symm
       . exact (h1.1 b e').anti (h2.1 a e)
   subst e; rw [Oa (HL h) h1.2 h2.2]
theorem Sh (p:Str):∀ l,(gB p l).Perm (p::l):=by
 intro iN; induction iN with
 | nil=>skip; exact zS _
 | cons q r ih =>
   skip
   unfold gB;split
   . exact ((ih).cons q).trans (DB p q r)
   . exact zS _
theorem L9:∀ l,(Q1 l).Perm l:=by
 intro iN; induction iN with
 | nil=>skip; exact zS _
 | cons p r ih=>skip; exact (Sh p (Q1 r)).trans ((ih).cons p)
theorem pQ (p:Str):∀ l,l.Pairwise leX->(gB p l).Pairwise leX:=by
 intro iN; induction iN with
 | nil=>intro _; exact o4 _ _
 | cons q r ih =>
   intro h; rw [xO] at h; unfold gB;split
   . rename_i c
     refine xO.mpr ⟨fun x hx=>?_,ih h.2⟩;rcases wK.mp ((Sh p r).mem_iff.mp hx) with rfl | hx
     . unfold ltS at c; rw [ltCps_eq] at c; exact List.lt_asymm (of_decide_eq_true c)
     . exact h.1 x hx
   . rename_i c
     have hq:leX p q:=rV.mp (by simpa using c);refine xO.mpr ⟨fun x hx=>?_,xO.mpr h⟩;rcases wK.mp hx with rfl | hx
     . exact hq
     . exact hq.trans (h.1 x hx)
theorem Nc:∀ l,(Q1 l).Pairwise leX:=by
 intro iN; induction iN with
 | nil=>skip; exact .nil
 | cons p r ih=>skip; exact pQ p _ (ih)
theorem Mg:∀ {ds:List wF} {ss:List Str},M4 ds=some ss->ds=ss.map .str:=by
 intro iN; induction iN with
 | nil=>intro ss e; cases e; rfl
 | cons d ds ih =>
   intro ss e;cases d with
   | str x =>
     obtain ⟨r,e1,e2⟩:=yF.mp (show (M4 ds).map (x::·)=some ss from e);rw [<- e2,ih e1]; rfl
   | _=>cases e
noncomputable section
variable {X:Cx}
def tH (xs:List V) (H:Hp) (Q:VK):Prop:=∃ d,∃ kk:List (wF×V),∃ ss:List Str,xs=[.ref d]/\Rd H d (.dN kk)/\kk.map (·.1)=ss.map .str/\ss.length < 64 /\
 ∀ l,H l=none->Q (.ref l) (upd H l (.lst ((Q1 ss).map .str)))
theorem Ov {w:xT} {H:Hp}:∀ {kk:List (wF×V)} {xs:List (wI×wI)} {ss:List Str},a9 (fun (p:wF×V) (q:wI×wI)=>(∃ v,KRep H p.1 v/\RelV v q.1)/\RelV p.2 q.2) kk xs->kk.map (·.1)=ss.map yK->DJ ((O3 w kk xs).map (·.key)) ss
 | _,_,[],r,e=>by
   cases r with
   | nil=>exact .nil
   | cons _ _=>cases e
 | _,_,x::ss,r,e=>by
   cases r with
   | nil=>cases e
   | @cons p q kk xs h r =>
     injection e with e1 e2
     obtain ⟨⟨v,h1,h2⟩,_⟩:=h; rw [show p.1=yK x from e1] at h1; obtain ⟨rfl,_⟩:=h1; obtain ⟨t,ht⟩:=h2; show DJ (q.1::(O3 w kk xs).map (·.key)) (x::ss);rw [ht]; exact .cons x t (Ov r e2)
theorem Gh:∀ {vs:List wI} {ss:List Str},DJ vs ss->Vals (ss.map V.str) vs
 | _,_,.nil=>.nil
 | _,_,.cons x t h=>.cons ⟨t,rfl⟩ (Gh h)
theorem bC (hh:X.A.handled=none):V0 X (.builtin "sorted") tH:=by
 rintro pins s Z H xs us Q I r ⟨d,kk,ss,hx,hd,hkk,h64,q⟩;subst hx;obtain ⟨u,rfl,ru⟩:=Vals.one r;cases (show u=f8 d from ru);obtain ⟨z,lo,nd,nk,ys,rel,ep,ho⟩:=hd.ok I.hok;have hS:=Ov (w:=X.w) rel hkk;have hlen:(O3 X.w kk ys).length=ss.length:=by
   have:=hS.strs; rw [<- this]; simp
 refine iP (ss:=ss) lo rfl rfl hh ho hS (by rw [wZ]; exact yH (Nat.le_of_eq hlen) h64) fun h1 tk out ss' hk k1 k2 k3=>?_;have hsrt:ss'=Q1 ss:=Oa (k2.trans (L9 ss).symm) (Nb k3) (Nc ss);subst hsrt;have I1:Inv X pins Z H { s with heap:=h1,toks:=tk }:=I.kept (t':=tk) hk;have ho1:(h1.push (BB "list" ((O3 X.w kk ys).toArray.toList.map (·.key)).toArray 0)).get? h1.objs.size=some (BB "list" ((O3 X.w kk ys).toArray.toList.map (·.key)).toArray 0):=wW _ rfl;obtain ⟨ee,hat⟩:=sortedHeap_at (out:=out) ho1;have hfr:H h1.objs.size=none:=I1.hok.fresh (wO _)
 refine ⟨.ref h1.objs.size,_,I1.laid (o:=.lst ((Q1 ss).map .str)) (t':=tk) (fun b o e=>?_) (wO _) ⟨?_,out.toList,ee,Gh k1,hat⟩,rfl,q _ hfr⟩
 . have hlt:b < h1.objs.size:=xA e
   rw [sortedHeap_old (xU hlt) (by rw [size_push']; exact CO hlt)];exact wN _ e
 . rw [wL,(L9 ss).length_eq,n5]; lia
end
noncomputable def Ma (i:Nat):Dn->Res wF:=fun δ=>match kvN δ i with
 | some kvs=>match M4 (kvs.map (·.1)) with
   | some ss=>if ss.length < 64/\(ss.all fun x=>xP x&&decide (x.length<=1000))=true then .ok (.list ((Q1 ss).map .str)) else .no
   | none=>.no
 | none=>.no
noncomputable section
variable {P:xN} {w:xT} {K:wM} {mg:Str->Option wI} {base:yQ} {X:Cx} {N:List Str} {sc:Scope} {k:Nat} {df:Bool} {E:EK} {pos p p1:Pos} {x:Str}
theorem Nw {G:Hp}:∀ (ss:List Str),(∀ x∈ss,xP x=true/\x.length<=sizeLine)->RepL G (ss.map .str) (ss.map .str):=by
 intro iN; induction iN with
 | nil=>intro _; exact rfl
 | cons x ss ih=>intro h; exact RepL.cons ⟨rfl,h x (.head _)⟩ (ih fun y hy=>h y (.tail _ hy))
theorem qI (C:Cxt P w K mg base X N sc k df) (h:okGl sc "sorted" = true) (hm:mg "sorted" = none) (i:Nat) (hv:okVar N sc i x=true)
   (he:wU [.Name x p1] X.env=(false,eval (.Name x p1) X.env)::wU [] X.env:=by rfl) (hpl:(zY pos (wU [] X.env)).any (·.1)=false:=by rfl) :
   DE X E (.Call (.Name "sorted" p) [.Name x p1] [] pos) (Ma i):=by
 obtain ⟨h1,h2,h3⟩:=okGl.gl C h;intro pins s Z H Q I q;refine (PE.imp (Od (bC (I.ok.hd C.calm)) h1 (by rw [C.hmg]; exact hm) (by decide +kernel) (O8 (okVar.pe C hv (p:=p1)) Y5 he) h3 h2 he hpl) fun Z H Q hY94=>?_) pins s Z H Q I q;obtain ⟨G,δ,S,aft⟩:=hY94;unfold Ma at aft;split at aft
 . rename_i kvs hi
   split at aft
   . rename_i ss eps
     split at aft
     . rename_i hc
       obtain ⟨d,kk,hσ,hx,hkeys,hvals⟩:=S.kvN hi; refine ⟨.ref d,hσ,d,kk,ss,rfl,hx,by rw [<- hkeys]; exact Mg eps,hc.1,fun l hl=>?_⟩;have hG:G l=none:=S.sub.free hl; refine aft _ (upd G l (.lst ((Q1 ss).map .str))) _ (Grow.new S.sub hl) ⟨l,_,rfl,.inl C0,?_⟩; refine Nw _ fun y hy=>?_;have:=l7.mp hc.2 y ((L9 ss).mem_iff.mp hy); rw [xC] at this; exact ⟨this.1,xD (of_decide_eq_true this.2) (by decide)⟩
     . exact aft.elim
   . exact aft.elim
 . exact aft.elim
end
end Sm
end
noncomputable section
namespace Sm
open PySem PySem.Spec PyProof.Rows L2
end Sm
end
noncomputable section
namespace Sm
open PySem PySem.Spec PyProof.Rows L2
noncomputable def okS (x:Str):Bool:=xP x&&decide (x.length<=sizeLine)
noncomputable section
theorem okS.out {x:Str} (h:okS x=true):xP x=true/\x.length<=sizeLine:=by
 unfold okS at h;simp only [xC,decide_eq_true_eq] at h;exact h
end
end Sm
end
noncomputable section
namespace Sm
open PySem PySem.Spec PyProof.Rows L2
end Sm
end
noncomputable section
namespace Sm
open PySem PySem.Spec PyProof.Rows L2
end Sm
end
noncomputable section
namespace Sm
open PySem PySem.Spec PyProof.Rows L2
end Sm
end
noncomputable section
namespace Sm
open PySem PySem.Spec PyProof.Rows L2
end Sm
namespace Sm
open PySem PySem.Spec PyProof.Rows L2
end Sm
end
noncomputable section
namespace Sm
open PySem PySem.Spec PyProof.Rows L2
noncomputable def Ux (x:Str) (lo hi:Option Int):Str:=if (((zE lo hi 1 x.length).length==x.length)=true) then x else ⟨((zE lo hi 1 x.length).filterMap (x.cps[·]?)).toArray⟩
noncomputable def sD (d:wF) (lo hi:Option Int):Option wF:=match d with
 | .str x=>if okS (Ux x lo hi)=true then some (.str (Ux x lo hi)) else none
 | _=>none
theorem cL {v:wI} {o:Option Int} (h:EH v o):∃ l:Option (Int×Tok),v=partValue l/\l.map (·.1)=o:=by
 cases h with
 | none=>exact ⟨none,rfl,rfl⟩
 | int i t=>exact ⟨some (i,t),rfl,rfl⟩
noncomputable section
variable {X:Cx}
noncomputable def rSlS:V->Option Int->Option Int->Hp->VK->Prop:=fun x lo hi H Q=>∃ z,x=.str z/\(Ux z lo hi).length<=sizeLine/\Q (.str (Ux z lo hi)) H
theorem sl_S:SlR X rSlS:=by
 rintro pins s Z H x v vl vu lo hi sl Q I rx hs pl pu ⟨z,e,hl,q⟩;subst e;obtain ⟨t,rfl⟩:=rx;obtain ⟨l,rfl,rfl⟩:=cL pl;obtain ⟨u,rfl,rfl⟩:=cL pu;refine ⟨"str",_,F.slot_str_getitem.lookup,typeIs_str _ _ _,?_⟩;refine wpAny_getItem_str_slice (l:=l) (u:=u) (st:=none) hs rfl ?_;unfold sliceMade slicePicked;unfold Ux at q hl;show (if ((1:Int)==1&&(zE (l.map (·.1)) (u.map (·.1)) 1 z.length).length==z.length)=true then Made.val (.str z t) else .str ⟨((zE (l.map (·.1)) (u.map (·.1)) 1 z.length).filterMap (z.cps[·]?)).toArray⟩).post _ s;have e1:((1:Int)==1)=true:=rfl
 rw [e1,Bool.true_and];split
 . rename_i h
   rw [if_pos h] at q; exact ⟨.str z,H,I,⟨_,rfl⟩,q⟩
 . rename_i h
   rw [if_neg h] at q hl; exact ⟨hl,.str _,H,I.tok _,⟨_,rfl⟩,q⟩
noncomputable def Vj (f:Dn->Res wF) (fl fh:Dn->Res (Option Int)):Dn->Res wF:=fun δ=>(f δ).bind fun d=>(fl δ).bind fun l=>(fh δ).bind fun u=>ofO (sD d l u)
theorem Ow {E:EK} {e:Expr} {lo hi:Option Expr} {f:Dn->Res wF} {fl fh:Dn->Res (Option Int)} {p2 pos:Pos} (he:DE X E e f) (hl:DO X E lo fl) (hu:DO X E hi fh):DE X E (.Subscript e (.Slice lo hi none p2) pos) (Vj f fl fh):=by
 refine PE.imp (Xk sl_S he hl hu) fun Z H Q hZ3=>?_;obtain ⟨G,δ,S,aft⟩:=hZ3;refine J2 S aft fun d v G1 H1 g1 r1 S1 a1=>?_;refine Iu (W:=fun G H r=>Aft E G H r Q) S1 a1 (fun g a=>Aft.grow g a) (fun c a=>a) (fun a=>a) fun l G2 H2 g2 S2 a2=>?_;refine Iu (W:=fun G H r=>Aft E G H r Q) S2 a2 (fun g a=>Aft.grow g a) (fun c a=>a) (fun a=>a) fun u G3 H3 g3 S3 a3=>?_;cases d with
 | str z =>
   simp only [sD] at a3;split at a3
   . rename_i ok
     exact ⟨z,r1.1,(okS.out ok).2,a3 _ G3 H3 (Grow.refl S3.sub) ⟨rfl,okS.out ok⟩⟩
   . exact (show False from a3).elim
 | _=>exact (show False from a3).elim
end
end Sm
end
noncomputable section
namespace Sm
open PySem PySem.Spec PyProof.Rows L2
noncomputable section
variable {a b c d:Expr}
noncomputable def st3 (i j l:Nat):wF->Dn->Option Dn:=fun d δ=>match d with
 | .tuple [a,b,c]=>some (((δ.set i (.sh a)).set j (.sh b)).set l (.sh c))
 | _=>none
end
end Sm
end
noncomputable section
namespace Sm
open PySem PySem.Spec PyProof.Rows L2
noncomputable def Fz:List wF->Option (List Int)
 | []=>some []
 | .int i::r=>(Fz r).map (i::·)
 | _::_=>none
noncomputable def gA (p:Int):List Int->List Int
 | []=>[p]
 | q::r=>if q < p then q::gA p r else p::q::r
noncomputable def Ec:List Int->List Int
 | []=>[]
 | p::r=>gA p (Ec r)
theorem Sg (p:Int):∀ l,(gA p l).Perm (p::l):=by
 intro iN; induction iN with
 | nil=>skip; exact zS _
 | cons q r ih =>
   skip
   unfold gA;split
   . exact ((ih).cons q).trans (DB p q r)
   . exact zS _
theorem Au:∀ l,(Ec l).Perm l:=by
 intro iN; induction iN with
 | nil=>skip; exact zS _
 | cons p r ih=>skip; exact (Sg p (Ec r)).trans ((ih).cons p)
theorem pP (p:Int):∀ l:List Int,l.Pairwise (· <= ·)->(gA p l).Pairwise (· <= ·):=by
 intro iN; induction iN with
 | nil=>intro _; exact o4 _ _
 | cons q r ih =>
   intro h; rw [xO] at h; unfold gA;split
   . refine xO.mpr ⟨fun x hx=>?_,ih h.2⟩
     rcases wK.mp ((Sg p r).mem_iff.mp hx) with rfl | hx
     . lia
     . exact h.1 x hx
   . refine xO.mpr ⟨fun x hx=>?_,xO.mpr h⟩
     rcases wK.mp hx with rfl | hx
     . lia
     . have:=h.1 x hx; lia
theorem Wn:∀ l,(Ec l).Pairwise (· <= ·):=by
 intro iN; induction iN with
 | nil=>skip; exact .nil
 | cons p r ih=>skip; exact pP p _ (ih)
theorem Vk:∀ {l m:List Int},l.Perm m->l.Pairwise (· <= ·)->m.Pairwise (· <= ·)->l=m
 | [],m,h,_,_=>(IP h)
 | a::l,[],h,_,_=>absurd h.length_eq (by simp)
 | a::l,b::m,h,h1,h2=>by
   rw [xO] at h1 h2; have e:a=b:=by
     rcases wK.mp (h.mem_iff.mp (yZ (a:=a) (l:=l))) with e | e
     . exact e
     . rcases wK.mp (h.mem_iff.mpr (yZ (a:=b) (l:=m))) with e' | e'
       . exact e'.symm
       . have:=h1.1 b e'; have:=h2.1 a e; lia
   subst e; rw [Vk (HL h) h1.2 h2.2]
theorem repZ {G:Hp}:∀ {ds:List wF} {xs:List V} {us:List wI} {ns:List Int},RepL G ds xs->Vals xs us->Fz ds=some ns->EI us ns:=by
 intro iN; induction iN with
 | nil=>intro _ _ _ r q e; cases (show _=_ from r); cases q; cases e; exact .nil
 | cons d ds ih =>
   intro _ _ ns r q e;cases d with
   | int i =>
     obtain ⟨x,t,rfl,h,l⟩:=r; obtain ⟨m,e1,e2⟩:=yF.mp (show (Fz ds).map (i::·)=some ns from e);cases (show x=.int i from h);cases q with
     | cons hq q =>
       obtain ⟨t,rfl⟩:=hq; rw [<- e2]; exact .cons i t (ih l q e1)
   | _=>cases e
theorem rH:∀ {vs:List wI} {ns:List Int},EI vs ns->Vals (ns.map V.int) vs
 | _,_,.nil=>.nil
 | _,_,.cons x t h=>.cons ⟨t,rfl⟩ (rH h)
noncomputable section
variable {P:xN} {w:xT} {K:wM} {mg:Str->Option wI} {base:yQ} {X:Cx} {N:List Str} {sc:Scope} {k:Nat} {df:Bool} {E:EK} {pos:Pos} {a b c d e:Expr} {f g f':Dn->Res wF}
theorem Vp (C:Cxt P w K mg base X N sc k df) (ha:DE X E a f) (hb:DE X E b g) (hc:DE X E c f') (hm:lastMarks [.LtE,.Lt] [b,c]=false:=by with_unfolding_all rfl) :
   DT X E (.Compare a [.LtE,.Lt] [b,c] pos) (B4 (Mc f g f' (E9 .LtE) (E9 .Lt))):=by
 have hr:OpR X (zR .LtE) (cE .LtE):=Ev (.inr rfl) C.hu;have hr':OpR X (zR .Lt) (cE .Lt):=Ev (.inl rfl) C.hu;refine PT.imp (jM hr hr' ha hb hc hm) fun Z H Q hZ3=>?_;obtain ⟨G,δ,S,aft⟩:=hZ3;have aft':AftT E G H ((f δ).bind fun x=>(g δ).bind fun y=>(ofO (E9 .LtE x y)).bind fun z=>(match z with
   | .bool true=>(f' δ).bind fun u=>ofO (E9 .Lt y u)
   | .bool false=>.ok (.bool false)
   | _=>.no).bind fun d=>ofO (Pm d)) Q:=by
   unfold B4 Mc at aft; simp only [Res.bind_assoc] at aft; exact aft
 refine Ae S aft' fun d1 v1 G1 H1 g1 r1 S1 a1=>?_;refine Ae S1 a1 fun d2 v2 G2 H2 g2 r2 S2 a2=>?_;cases e:E9 .LtE d1 d2 with
 | none=>rw [e] at a2; exact a2.elim
 | some d =>
   rw [e] at a2; obtain ⟨kk,rfl⟩:=Ir _ _ _ e; refine Ew G2 H2 v1 v2 d1 d2 _ _ S2.sub (r1.mono g2.g) r2 e fun v G3 H3 g3 r3=>⟨kk,r3,?_⟩;have S3:=S2.grow g3;cases kk with
   | false=>rw [if_neg (by decide)]; exact ⟨false,rfl,a2 G3 H3 g3⟩
   | true =>
     rw [if_pos rfl]; have a3:AftT E G3 H3 ((f' δ).bind fun u=>(ofO (E9 .Lt d2 u)).bind fun d=>ofO (Pm d)) Q:=by
       have h0:AftT E G3 H3 (((f' δ).bind fun u=>ofO (E9 .Lt d2 u)).bind fun d=>ofO (Pm d)) Q:=AftT.grow g3 a2;rw [Res.bind_assoc] at h0; exact h0
     refine Ae S3 a3 fun d4 v4 G4 H4 g4 r4 S4 a4=>?_;cases e':E9 .Lt d2 d4 with
     | none=>rw [e'] at a4; exact a4.elim
     | some d =>
       rw [e'] at a4; obtain ⟨k2,rfl⟩:=Ir _ _ _ e'; exact Ew G4 H4 v2 v4 d2 d4 _ _ S4.sub (r2.mono (g3.g.trans g4.g)) r4 e' fun v G5 H5 g5 r5=>⟨k2,r5,a4 G5 H5 g5⟩
end
end Sm
end
noncomputable section
namespace Sm
open PySem PySem.Spec PyProof.Rows PySem.W L2
end Sm
end
noncomputable section
namespace Sm
open PySem PySem.Spec PyProof.Rows PySem.W L2
theorem repT {G:Hp}:∀ {ds:List wF} {xs:List V} {us:List wI} {ss:List Str},RepL G ds xs->Vals xs us->M4 ds=some ss->DJ us ss/\∀ x∈ss,xP x=true/\x.length<=sizeLine:=by
 intro iN; induction iN with
 | nil=>intro _ _ _ r q e; cases (show _=_ from r); cases q; cases e; exact ⟨.nil,fun _ h=>nomatch h⟩
 | cons d ds ih =>
   intro _ _ ns r q e;cases d with
   | str i =>
     obtain ⟨x,t,rfl,h,l⟩:=r; obtain ⟨m,e1,e2⟩:=yF.mp (show (M4 ds).map (i::·)=some ns from e);obtain ⟨rfl,h2⟩:=h;cases q with
     | cons hq q =>
       obtain ⟨t,rfl⟩:=hq; obtain ⟨k1,k2⟩:=ih l q e1; rw [<- e2]; refine ⟨.cons i t k1,fun y hy=>?_⟩;rcases wK.mp hy with rfl | hy
       . exact h2
       . exact k2 y hy
   | _=>cases e
end Sm
end
noncomputable section
namespace Sm
open PySem PySem.W PyProof.Rows
theorem R0:Slot "set_iterator" "__next__" "set_iterator.__next__" :=
 .of (owner := "set_iterator") (n := "__next__") (by rw [AT,m9]; kernel_rfl) (by decide +kernel) (by decide +kernel) (by decide +kernel) (by first | exact .inl (by decide +kernel) | exact .inr (by decide +kernel)) (by rw [AB]; kernel_rfl)
theorem bW:Slot "set_iterator" "__iter__" "set_iterator.__iter__" :=
 .of (owner := "set_iterator") (n := "__iter__") (by rw [AT,m9]; kernel_rfl) (by decide +kernel) (by decide +kernel) (by decide +kernel) (by first | exact .inl (by decide +kernel) | exact .inr (by decide +kernel)) (by rw [AB]; kernel_rfl)
theorem Hr:IH table "set_iterator.__next__" = some f9.«set_iterator.__next__» := entryFor_of_tree ⋯
theorem iS:IH table "set_iterator.__iter__" = some f9.«dict_keyiterator.__iter__» := IG (id' := "dict_keyiterator.__iter__") ⋯ rfl (by decide +kernel) ⋯
theorem eS:IH table "set.__iter__" = some f9.«frozenset.__iter__» := IG (id' := "frozenset.__iter__") ⋯ rfl (by decide +kernel) ⋯
theorem Hs (a:wI):HA "set_iterator.__next__" ⟨[a],[]⟩:=by unfold HA; kernel_rfl
theorem iT (a:wI):HA "set_iterator.__iter__" ⟨[a],[]⟩:=by unfold HA; kernel_rfl
end Sm
end
noncomputable section
namespace Sm
open PySem PySem.W PyProof.Rows
abbrev Du (f:wI) (i:Nat) (a:wR) (n ep:Nat):Obj:={ cls:=.type "set_iterator",data:=.fields #[f,.int i 0,.ref a,.int n 0,.int ep 0] }
theorem Gv {α:Type}:∀ {l:List α} {i:Nat} {x:α},l[i]? = some x->(x::l.eraseIdx i).Perm l
 | [],_,_,h=>by cases h
 | y::l,0,x,h=>by cases h; exact zS _
 | y::l,i+1,x,h=>(DB y x _).trans ((Gv (l:=l) (i:=i) h).cons y)
theorem oK {α:Type} (nx:Nat->Nat):∀ (n k:Nat) (l:List α) (out:Array α),l.length=n->(pickOrder.go nx n k l out).toList.Perm (out.toList++l):=by
 intro iN; induction iN with
 | zero =>
   intro k l out h;cases FY h;rw [yL]; exact zS _
 | succ n ih =>
   intro k l out h; unfold pickOrder.go; have hi:nx k % l.length < l.length:=Nat.mod_lt _ (by lia);rw [yA hi]; refine (ih (k+1) _ _ (by rw [GT hi]; lia)).trans ?_;rw [Array.toList_push,yO]; exact List.Perm.append_left _ (Gv (yA hi))
theorem Jk {α:Type} (nx:Nat->Nat) (xs:Array α):(pickOrder nx xs).toList.Perm xs.toList:=oK nx xs.size 0 xs.toList #[] (by simp)
noncomputable section
variable {prog:xN} {w:xT} {A:yS} {E:wI->wJ->Prop} {s:wJ}
theorem dS {src:Source} {n:Nat} {Q:Nat->wJ->Prop} (h:n≠0) (hQ:∀ i d,i < n->Q i { s with drawn:=d }):wpAny (xH prog w) A (choose src n) Q E s:=fun Γ p hΓ=>by
 unfold choose;rw [Sem.wp_choose];exact ⟨h,hQ _ _ (Nat.mod_lt _ (Nat.pos_of_ne_zero h))⟩
theorem Hk {α:Type}:∀ (n:Nat) (xs:List α) (s:wJ) (Q:List α->wJ->Prop),xs.length=n->(∀ ys d,ys.Perm xs->Q ys { s with drawn:=d })->wpAny (xH prog w) A (drawOrder n xs) Q E s
 | 0,xs,s,Q,h,q=>by
   cases FY h;exact wH (q [] s.drawn (zS _))
 | n+1,[],s,Q,h,q=>by cases h
 | n+1,x::xs,s,Q,h,q=>by
   refine wG (dS (by simp) fun i d hi=>?_);rw [yA hi]; refine wG (Hk n _ _ _ (by rw [GT hi]; lia) fun ys d' hp=>wH (q _ d' ?_));exact (hp.cons _).trans (Gv (yA hi))
theorem Nf {a:wR} {o:Obj} {es:Array (Int×wI)} {ep sl i:Nat} {t:i6} {Q:Option (wI×Nat)->wJ->Prop} (hb:w.params.followText "set-order" = true) (ho:s.heap.get? a=some o) (hd:o.data=.set es ep t) (hf:t.fits es.size=true)
   (hQ:Q (((pickOrder (w.params.setOrder a ep) es)[i]?).map fun e=>(e.2,sl)) s):wpAny (xH prog w) A (HP a sl i ep) Q E s:=by
 unfold HP setWalk setsByText;refine wG (i5 ho hd hf ?_);refine wG (wG (AF (wH ?_)));have hb':(xH prog w).w.params.followText "set-order" = true:=hb;simp only [hb',if_true,bne_self_eq_false,xY,if_false];refine wG (wG (i5 ho hd hf ?_));refine wG (wG (AF (wH ?_)));simp only [hb',if_true];exact wG (AF (wH (wH hQ)))
theorem Ro {a:wR} {o:Obj} {es:Array (Int×wI)} {ep sl i:Nat} {t:i6} {Q:Option (wI×Nat)->wJ->Prop} (hb:w.params.followText "set-order" = false) (ho:s.heap.get? a=some o) (hd:o.data=.set es ep t) (hf:t.fits es.size=true)
   (hdr:(!t.plain&&decide (es.size>1))=false) (hl:t.led=true)
   (hQ:Q (match es[AK t.place sl]?,t.place[AK t.place sl]? with | some (_,x),some j=>some (x,j+1) | _,_=>none) s):wpAny (xH prog w) A (HP a sl i ep) Q E s:=by
 unfold HP setsByText;refine wG (i5 ho hd hf ?_);refine wG (wG (AF (wH ?_)));have hb':(xH prog w).w.params.followText "set-order" = false:=hb;simp only [hb',xY,if_false];refine x6 (fun h=>absurd (show (!t.plain&&decide (es.size>1))=true from h) (by rw [hdr]; decide)) fun _=>wG ?_;show wpAny _ _ (if (!t.led && !es.isEmpty)=true then _ else _) _ _ _;rw [hl];exact wH (wH hQ)
theorem cP {I a:wR} {sl i nx ep:Nat} {o:Obj} {es:Array (Int×wI)} {t:i6} {x:wI} {Q:Option wI->wJ->Prop} (hit:s.heap.get? I=some (Du (.int sl 0) i a es.size ep)) (ho:s.heap.get? a=some o) (hd:o.data=.set es ep t) (hf:t.fits es.size=true)
   (hx:∀ (A:yS) (E:wI->wJ->Prop) (Q:Option (wI×Nat)->wJ->Prop),Q (some (x,nx)) s->wpAny (xH prog w) A (HP a sl i ep) Q E s)
   (hQ:∀ h',h'.get? I=some (Du (.int nx 0) (i+1) a es.size ep)->k9 I s.heap h'->Q (some x) { s with heap:=h' }):wpAny (xH prog w) A (pyNext (.ref I)) Q E s:=by
 have hT:s.TypeIs (.ref I) "set_iterator" := ⟨_,hit,rfl⟩;unfold pyNext;refine wG (o7 ?_);refine yN (name:=g9 "__next__") hT R0 (yE R0 hT Hr ?_ (Hs _));unfold f9.«set_iterator.__next__» IB;refine wG (wH ?_);refine wG (BL hit rfl ?_);refine wG (AL ho hd hf ?_);simp only [bne_self_eq_false,xY,if_false];refine wG (hx _ _ _ ?_);refine wG (AZ hit (by simp) fun h1 q1 b1=>?_);refine wG (AZ (s:={ s with heap:=h1 }) q1 (by simp) fun h2 q2 b2=>?_)
 exact wH ⟨_,rfl,wH (hQ h2 q2 (b1.trans b2))⟩
theorem Xd {A:yS} {I:wR} {Q:Option wI->wJ->Prop} (hh:A.handled=none) (k:Nat) (hk:k < 5) (y:wI) {h0:yQ} (hq:CM I h0 s.heap) (hit:∃ vs,s.heap.get? I=some { cls:=.type "set_iterator",data:=.fields vs }/\vs.size=5)
   (hQ:∀ h',CM I h0 h'->Q none { s with heap:=h' }) :
   wpAny (xH prog w) A.in1 (do
       GH (f8 I) k y
       let e <- newExc (p0 "StopIteration") []
       raiseNew e) (fun fin s'=>∃ v,fin=Fin.done (Flow.ret v)/\wpAny (xH prog w) A (pure (some v)) Q E s')
     (fun e s' => wpAny (xH prog w) A (do
         let d <- isInstance e (p0 "StopIteration")
         if d=true then pure none else throw e) Q E s') s:=by
 obtain ⟨vs,hit,hv⟩:=hit;refine wG (AZ hit (by lia) fun h1 q1 b1=>?_);refine wG ?_;simp only [newExc,newTuple];refine wG (xZ ?_ (by size_fits));refine wG (m:=BM _ _) (m6 (a:=a8) (by first | rfl | (simp only [BM]; rfl)) (xZ ?_ (by size_fits)));simp only [raiseNew];refine wG (wpAny_handled ?_);rw [show A.in1.handled=none from hh];refine wG (wH (wpAny_throw (wG ?_)));refine AE (T := "StopIteration") (b:=true) ⟨_,wW _ rfl,rfl⟩ IE ?_
 exact wH (hQ _ (((hq.trans b1.extBut).push _).push _))
theorem lS {I a:wR} {sl i ep:Nat} {o:Obj} {es:Array (Int×wI)} {t:i6} {Q:Option wI->wJ->Prop} (hh:A.handled=none) (hit:s.heap.get? I=some (Du (.int sl 0) i a es.size ep)) (ho:s.heap.get? a=some o) (hd:o.data=.set es ep t) (hf:t.fits es.size=true)
   (hx:∀ (A:yS) (E:wI->wJ->Prop) (Q:Option (wI×Nat)->wJ->Prop),Q none s->wpAny (xH prog w) A (HP a sl i ep) Q E s)
   (hQ:∀ h',CM I s.heap h'->Q none { s with heap:=h' }):wpAny (xH prog w) A (pyNext (.ref I)) Q E s:=by
 have hT:s.TypeIs (.ref I) "set_iterator" := ⟨_,hit,rfl⟩;unfold pyNext;refine wG (o7 ?_);refine yN (name:=g9 "__next__") hT R0 (yE R0 hT Hr ?_ (Hs _));unfold f9.«set_iterator.__next__» IB;refine wG (wH ?_);refine wG (BL hit rfl ?_);refine wG (AL ho hd hf ?_);simp only [bne_self_eq_false,xY,if_false];refine wG (hx _ _ _ ?_);exact Xd hh 2 (by decide) .none (HF I _).extBut ⟨_,hit,rfl⟩ hQ
theorem pC {I a tp:wR} {i ep pl c:Nat} {o:Obj} {es:Array (Int×wI)} {t:i6} {x:wI} {hv:Int} {ps:Array wI} {Q:Option wI->wJ->Prop} (hit:s.heap.get? I=some (Du (.ref tp) i a es.size ep)) (ho:s.heap.get? a=some o) (hd:o.data=.set es ep t) (hf:t.fits es.size=true)
   (htp:s.heap.get? tp=some { cls:=.type "tuple",data:=.seq ps c }) (hp:ps[i]? = some (.int pl 0)) (hx:es[pl]? = some (hv,x))
   (hQ:∀ h',h'.get? I=some (Du (.ref tp) (i+1) a es.size ep)->k9 I s.heap h'->Q (some x) { s with heap:=h' }):wpAny (xH prog w) A (pyNext (.ref I)) Q E s:=by
 have hT:s.TypeIs (.ref I) "set_iterator" := ⟨_,hit,rfl⟩;unfold pyNext;refine wG (o7 ?_);refine yN (name:=g9 "__next__") hT R0 (yE R0 hT Hr ?_ (Hs _));unfold f9.«set_iterator.__next__» IB;refine wG (wH ?_);refine wG (BL hit rfl ?_);refine wG (AL ho hd hf ?_);simp only [bne_self_eq_false,xY,if_false];refine wG (HW htp rfl ?_);simp only [CP,hp];unfold setNextDrawn;refine wG (wG (i5 ho hd hf ?_))
 simp only [bne_self_eq_false,xY,if_false,hx];refine wH ?_;refine wG (AZ hit (by simp) fun h1 q1 b1=>?_);exact wH ⟨_,rfl,wH (hQ h1 q1 b1)⟩
theorem vI {I a tp:wR} {i ep c:Nat} {o:Obj} {es:Array (Int×wI)} {t:i6} {ps:Array wI} {Q:Option wI->wJ->Prop} (hh:A.handled=none) (hit:s.heap.get? I=some (Du (.ref tp) i a es.size ep)) (ho:s.heap.get? a=some o) (hd:o.data=.set es ep t) (hf:t.fits es.size=true)
   (htp:s.heap.get? tp=some { cls:=.type "tuple",data:=.seq ps c }) (hp:ps[i]? = none)
   (hQ:∀ h',CM I s.heap h'->Q none { s with heap:=h' }):wpAny (xH prog w) A (pyNext (.ref I)) Q E s:=by
 have hT:s.TypeIs (.ref I) "set_iterator" := ⟨_,hit,rfl⟩;unfold pyNext;refine wG (o7 ?_);refine yN (name:=g9 "__next__") hT R0 (yE R0 hT Hr ?_ (Hs _));unfold f9.«set_iterator.__next__» IB;refine wG (wH ?_);refine wG (BL hit rfl ?_);refine wG (AL ho hd hf ?_);simp only [bne_self_eq_false,xY,if_false];refine wG (HW htp rfl ?_);simp only [CP,hp];refine wG (AZ hit (by simp) fun h1 q1 b1=>?_)
 exact Xd (s:={ s with heap:=h1 }) hh 2 (by decide) .none b1.extBut ⟨_,q1,rfl⟩ hQ
theorem Ts {I a:wR} {f:wI} {i n ep:Nat} {Q:wI->wJ->Prop} (hit:s.heap.get? I=some (Du f i a n ep)) (h:Q (.ref I) s):wpAny (xH prog w) A (GX (.ref I)) Q E s:=by
 have hT:s.TypeIs (.ref I) "set_iterator" := ⟨_,hit,rfl⟩;refine DG hT bW (yE bW hT iS ?_ (iT _));show wpAny _ _ (ret (.ref I)) _ _ s;exact wH ⟨_,rfl, "set_iterator",_,hT,R0.lookup,h⟩
theorem mX (hh:A.handled=none) (I a tp:wR) (h1:a≠I) (h2:tp≠I) (o:Obj) (es:Array (Int×wI)) (ep c:Nat) (t:i6) (hd:o.data=.set es ep t) (hf:t.fits es.size=true) (pl:List Nat) (hl:pl.length=es.size) (hp:∀ j∈pl,j < es.size) :
   Walks prog w A I [I,a,tp] [I] es.size (fun i v=>(pl.map fun j=>(es[j]?.map (·.2)).getD .none)[i]? = some v) (fun i h=>h.get? I=some (Du (.ref tp) i a es.size ep)/\h.get? a=some o/\h.get? tp=some { cls:=.type "tuple",data:=.seq ((pl.map fun j:Nat=>FO (j:Int) 0).toArray) c }) where
 sub:=fun b hb=>by simp at hb; simp [hb]
 frame:=fun _ _ _ st hk=>⟨hk I (by simp) _ st.1,hk a (by simp) _ st.2.1,hk tp (by simp) _ st.2.2⟩
 item:=fun i s Q E hi st hQ=>by
   have hi':i < pl.length:=by lia
   have hj:=hp pl[i] (z7 hi'); refine pC (pl:=pl[i]) (hv:=es[pl[i]].1) (x:=es[pl[i]].2) st.1 st.2.1 hd hf st.2.2 (by simp [hi']) (by simp [hj]) fun h' q b=>?_;refine hQ _ h' s.toks ?_ ⟨q,b.extBut a _ h1 st.2.1,b.extBut tp _ h2 st.2.2⟩ fun b' o' hb e=>b.extBut b' o' (fun z=>hb (by simp [z])) e;simp [hi',hj]
 done:=fun s Q E st hQ=>vI hh st.1 st.2.1 hd hf st.2.2 (by simp [hl]) fun h' he=>hQ h' s.toks fun b o hb e=>he b o (fun z=>hb (by simp [z])) e
 self:=fun _ _ _ _ st hQ=>Ts st.1 hQ
theorem mV (hh:A.handled=none) (I a:wR) (h1:a≠I) (o:Obj) (es:Array (Int×wI)) (ep:Nat) (t:i6) (hd:o.data=.set es ep t) (hf:t.fits es.size=true) (hb:w.params.followText "set-order" = true) :
   Walks prog w A I [I,a] [I] es.size (fun i v=>((pickOrder (w.params.setOrder a ep) es).toList.map (·.2))[i]? = some v) (fun i h=>h.get? I=some (Du (.int 0 0) i a es.size ep)/\h.get? a=some o) where
 sub:=fun b hb=>by simp at hb; simp [hb]
 frame:=fun _ _ _ st hk=>⟨hk I (by simp) _ st.1,hk a (by simp) _ st.2⟩
 item:=fun i s Q E hi st hQ=>by
   have hsz:(pickOrder (w.params.setOrder a ep) es).size=es.size:=by rw [<- yI,(Jk _ es).length_eq,yI]
   have hi':i < (pickOrder (w.params.setOrder a ep) es).size:=by lia
   refine cP (sl:=0) (nx:=0) (x:=(pickOrder (w.params.setOrder a ep) es)[i].2) st.1 st.2 hd hf (fun A E Q q=>Nf hb st.2 hd hf ?_) fun h' q b=>?_
   . rw [yC hi']; exact q
   refine hQ _ h' s.toks ?_ ⟨q,b.extBut a _ h1 st.2⟩ fun b' o' hb e=>b.extBut b' o' (fun z=>hb (by simp [z])) e;simp [hi']
 done:=fun s Q E st hQ=>by
   have hsz:(pickOrder (w.params.setOrder a ep) es).size=es.size:=by rw [<- yI,(Jk _ es).length_eq,yI]
   refine lS (sl:=0) hh st.1 st.2 hd hf (fun A E Q q=>Nf hb st.2 hd hf ?_) fun h' he=>hQ h' s.toks fun b o hb e=>he b o (fun z=>hb (by simp [z])) e;rw [AS (by lia)]; exact q
 self:=fun _ _ _ _ st hQ=>Ts st.1 hQ
def Nh (xs:Array Nat):Nat->Nat
 | 0=>0
 | i+1=>xs.getD i 0+1
theorem Zk {xs:Array Nat} (hr:xs.toList.Pairwise (· < ·)):∀ {i:Nat},i<=xs.size->AK xs (Nh xs i)=i:=fun {i} hi=>by
 obtain ⟨h1,h2,h3⟩:=Hd xs (Nh xs i) hr;have ge:∀ k d,k < xs.size->xs.getD k d=xs.getD k 0:=fun k d hk=>by simp [DC,hk]
 rcases Nat.lt_trichotomy (AK xs (Nh xs i)) i with hl | hl | hl
 . have e:=h3 _ (wO _) (xB hl hi)
   cases i with
   | zero=>lia
   | succ i =>
     rw [ge _ _ (by lia)] at e; rw [show Nh xs (i+1)=xs.getD i 0+1 from rfl] at e hl; rcases DP (AK xs (xs.getD i 0+1)) i with z | z
     . have:=Cs hr (d:=0) z (by lia); lia
     . have z2:AK xs (xs.getD i 0+1)=i:=by lia
       rw [z2] at e; lia
 . exact hl
 . have e:=h2 i hl
   rw [ge _ _ (by lia)] at e;cases i with
   | zero=>exact absurd e (Nat.not_lt_zero _)
   | succ i=>rw [show Nh xs (i+1)=xs.getD i 0+1 from rfl] at e; have:=Cs hr (d:=0) (show i < i+1 by lia) (by lia); lia
theorem mW (hh:A.handled=none) (I a:wR) (h1:a≠I) (o:Obj) (es:Array (Int×wI)) (ep:Nat) (t:i6) (hd:o.data=.set es ep t) (hf:t.fits es.size=true) (hb:w.params.followText "set-order" = false) (hdr:(!t.plain&&decide (es.size>1))=false) (hl:t.led=true) (hr:t.place.toList.Pairwise (· < ·)) :
   Walks prog w A I [I,a] [I] es.size (fun i v=>(es.toList.map (·.2))[i]? = some v) (fun i h=>h.get? I=some (Du (.int (Nh t.place i) 0) i a es.size ep)/\h.get? a=some o) where
 sub:=fun b hb=>by simp at hb; simp [hb]
 frame:=fun _ _ _ st hk=>⟨hk I (by simp) _ st.1,hk a (by simp) _ st.2⟩
 item:=fun i s Q E hi st hQ=>by
   have hsz:t.place.size=es.size:=by unfold SetTable.fits at hf; simp at hf; exact hf.1
   have hi':i < t.place.size:=by lia
   refine cP (sl:=Nh t.place i) (nx:=Nh t.place (i+1)) (x:=es[i].2) st.1 st.2 hd hf (fun A E Q q=>Ro hb st.2 hd hf hdr hl ?_) fun h' q b=>?_
   . rw [Zk hr (by lia),yC hi,yC hi']
     have:Nh t.place (i+1)=t.place[i]+1:=by unfold Nh; simp [DC,hi']
     rw [this] at q; exact q
   refine hQ _ h' s.toks ?_ ⟨q,b.extBut a _ h1 st.2⟩ fun b' o' hb e=>b.extBut b' o' (fun z=>hb (by simp [z])) e;simp [hi]
 done:=fun s Q E st hQ=>by
   have hsz:t.place.size=es.size:=by unfold SetTable.fits at hf; simp at hf; exact hf.1
   refine lS (sl:=Nh t.place es.size) hh st.1 st.2 hd hf (fun A E Q q=>Ro hb st.2 hd hf hdr hl ?_) fun h' he=>hQ h' s.toks fun b o hb e=>he b o (fun z=>hb (by simp [z])) e;rw [Zk hr (by lia),AS (wO _)]; exact q
 self:=fun _ _ _ _ st hQ=>Ts st.1 hQ
end
end Sm
end
noncomputable section
namespace Sm
open PySem PySem.W PyProof.Rows
def Ke (w:xT) (t:i6):Prop:=t.led = !(w.params.followText "set-order")/\t.dummies = #[]/\t.place.toList.Pairwise (· < ·)
theorem fG {es:Array (Int×wI)} {pl:List Nat} (h:pl.Perm (zK es.size)):(pl.map fun j=>(es[j]?.map (·.2)).getD .none).Perm (es.toList.map (·.2)):=by
 refine (h.map _).trans ?_;have:(zK es.size).map (fun j=>(es[j]?.map (·.2)).getD .none)=es.toList.map (·.2):=by
   apply List.ext_getElem
   . simp
   . intro i h1 h2
     simp at h1;simp [h1]
 rw [this]
noncomputable section
variable {prog:xN} {w:xT} {A:yS} {E:wI->wJ->Prop} {s:wJ}
theorem lE {a:wR} {o:Obj} {es:Array (Int×wI)} {ep:Nat} {t:i6} {Q:wI->wJ->Prop} (ho:s.heap.get? a=some o) (hex:o.ExactSet) (hd:o.data=.set es ep t) (hf:t.fits es.size=true) (ht:Ke w t) (hz:es.size<=4096) (hh:A.handled=none)
   (hQ:∀ (h1:yQ) (d1:Drawn) (I:wR) (fp:List wR) (ord:List wI) (St:Nat->yQ->Prop),(∀ b o,s.heap.get? b=some o->h1.get? b=some o)->s.heap.get? I=none->(∀ b∈fp,b=a\/s.heap.get? b=none)->ord.Perm (es.toList.map (·.2)) ->
     Walks prog w A I fp [I] es.size (fun i v=>ord[i]? = some v) St->St 0 h1->Q (.ref I) { s with heap:=h1,drawn:=d1 }):wpAny (xH prog w) A (GX (.ref a)) Q E s:=by
 have hT:s.TypeIs (.ref a) "set" := ⟨o,ho,hex.1⟩;have hlt:a < s.heap.objs.size:=xA ho;refine DG hT F.slot_set_iter (yE F.slot_set_iter hT eS ?_ (F.args_set_iter_1 _));unfold f9.«frozenset.__iter__» Builtin.Frozenset.slot0 IB Builtin.Frozenset.sizeOf setDrawn setsByText setEpoch;refine wG (wG (wH (wH ?_)));refine wG (wG (AL ho hd hf (wH ?_)));refine wG (wG (i5 ho hd hf ?_));refine wG (wG (AF (wH (wH ?_))))
 show wpAny _ _ (if (!(w.params.followText "set-order")&&(!t.plain&&decide (es.size>1)))=true then _ else _) _ _ _;cases hb:w.params.followText "set-order" with
 | true =>
   refine x6 (fun h=>by cases h) fun _=>wG (wH ?_);refine wG (wG (i5 ho hd hf (wH ?_))); refine wG (xZ (wH ⟨_,rfl, "set_iterator",_,⟨_,wW _ rfl,rfl⟩,R0.lookup,?_⟩)); exact hQ (s.heap.push (Du (.int 0 0) 0 a es.size ep)) s.drawn s.heap.objs.size _ _ _ (fun b o e=>wN _ e) (zT (wO _)) (fun b hb=>by
     rcases wK.mp hb with rfl | hb
     . exact .inr (zT (wO _))
     . exact .inl (wX.mp hb)) ((Jk _ es).map _) (mV hh _ a (xU hlt) o es ep t hd hf hb) ⟨wW _ rfl,wN _ ho⟩
 | false =>
   have hl:t.led=true:=by rw [ht.1,hb]; rfl
   cases hp:(!t.plain&&decide (es.size>1)) with
   | false =>
     refine x6 (fun h=>by cases h) fun _=>wG (wH ?_);refine wG (wG (i5 ho hd hf (wH ?_))); refine wG (xZ (wH ⟨_,rfl, "set_iterator",_,⟨_,wW _ rfl,rfl⟩,R0.lookup,?_⟩)); exact hQ (s.heap.push (Du (.int 0 0) 0 a es.size ep)) s.drawn s.heap.objs.size _ _ _ (fun b o e=>wN _ e) (zT (wO _)) (fun b hb=>by
       rcases wK.mp hb with rfl | hb
       . exact .inr (zT (wO _))
       . exact .inl (wX.mp hb)) (zS _) (mW hh _ a (xU hlt) o es ep t hd hf hb hp hl ht.2.2) ⟨wW _ rfl,wN _ ho⟩
   | true =>
     refine x6 (fun _=>?_) fun h=>absurd rfl h;refine wG (Hk _ _ _ _ (by simp) fun pl d hpl=>?_);unfold newTuple; have hplen:pl.length=es.size:=by rw [hpl.length_eq]; simp
     refine wG (xZ ?_ (by show (HR _).size<=_; rw [n5]; simp; lia));refine wG (wG (i5 (s:={ s with heap:=s.heap.push _,drawn:=d }) (wN _ ho) hd hf (wH ?_))); refine wG (xZ (wH ⟨_,rfl, "set_iterator",_,⟨_,wW _ rfl,rfl⟩,R0.lookup,?_⟩)); have hsz:∀ o:Obj,(s.heap.push o).objs.size=s.heap.objs.size+1:=fun o=>CC ..;refine hQ _ d _ [(s.heap.push { cls:=.type "tuple",data:=.seq ((pl.map fun j:Nat=>FO (j:Int) 0).toArray) 0 }).objs.size,a,s.heap.objs.size] _ _ (fun b o e=>wN _ (wN _ e)) (zT (by rw [hsz]; lia)) (fun b hb=>?_) (fG hpl)
       (mX hh _ a s.heap.objs.size (by rw [hsz]; exact xU (CO hlt)) (by rw [hsz]; exact xU (BN _)) o es ep 0 t hd hf pl hplen (fun j hj=>o5.mp (hpl.mem_iff.mp hj))) ⟨wW _ rfl,wN _ (wN _ ho),wN _ (wW _ rfl)⟩
     rcases wK.mp hb with rfl | hb
     . exact .inr (zT (by rw [hsz]; lia))
     rcases wK.mp hb with rfl | hb
     . exact .inl rfl
     . rw [wX.mp hb]; exact .inr (zT (wO _))
end
end Sm
end
noncomputable section
namespace Sm
open PySem PySem.W PyProof.Rows
noncomputable section
variable {prog:xN} {w:xT} {A:yS} {E:wI->wJ->Prop} {s:wJ}
theorem lK {r:wR} {Q:Bool->wJ->Prop} (hT:s.TypeIs (.ref r) "set") (h:Q false s):wpAny (xH prog w) A (FB (.ref r)) Q E s:=by
 unfold FB;refine wG (l3 hT PySem.F.slot_set_len.lookup ?_);generalize hid:("set.__len__" : String)=z
 wp_delta
 rw [show splitId z=some ("set", "__len__") from by subst hid; decide +kernel];subst hid;refine wG (AE (T := "set") (b:=true) hT (by rw [AB]; kernel_rfl) ?_);refine x6 (fun hab=>absurd hab (by decide)) (fun _=>x6 (fun _=>?_) (fun hab=>absurd (by decide +kernel) hab));exact wG (EE hT (wH h))
theorem Kw {a:wR} {o:Obj} {es:Array (Int×wI)} {ep:Nat} {t:i6} {Q:List wI->wJ->Prop} (ho:s.heap.get? a=some o) (hex:o.ExactSet) (hd:o.data=.set es ep t) (hf:t.fits es.size=true) (ht:Ke w t) (hz:es.size<=4096) (hh:A.handled=none)
   (hQ:∀ (h1:yQ) (d1:Drawn) tk (ord:List wI),(∀ b o,s.heap.get? b=some o->h1.get? b=some o)->ord.Perm (es.toList.map (·.2))->Q ord { s with heap:=h1,drawn:=d1,toks:=tk }):wpAny (xH prog w) A (collect (.ref a)) Q E s:=by
 have hlt:a < s.heap.objs.size:=xA ho;have hzl:es.size<=sizeLine:=by rw [n5]; omega
 have hnS:s.heap.get? s.heap.objs.size=none:=zT (wO _);let hp:=s.heap.push { cls:=.type "list",data:=.seq ([]:List wI).toArray };have hS:hp.get? s.heap.objs.size=some { cls:=.type "list",data:=.seq #[] 0 }:=wW _ rfl;have ho':hp.get? a=some o:=wN _ ho;unfold collect;refine wG (HX (l4 F.entry_proto_collect ?_));rw [c6 F.plain_proto_collect _];refine wG (xZ (wH ⟨AQ F.plain_list_iadd _,l4 F.entry_list_iadd ?_⟩));rw [c6 F.plain_list_iadd _]
 show wpAny _ _ (FC (.ref s.heap.objs.size) (.ref a) (.ref s.heap.objs.size)) _ _ { s with heap:=hp };unfold FC;have hT:GQ { s with heap:=hp } (.ref a) "set" := ⟨o,ho',hex.1⟩;refine wG (EE hT ?_);have h1:FN (.ref s.heap.objs.size) (.ref a)=false:=by simp [FN]; exact p6 hlt
 rw [h1,show (p0 "set" == p0 "list")=false from by decide,show (p0 "set" == p0 "tuple")=false from by decide];simp only [FD,xY,if_false];refine wG (lE (s:={ s with heap:=hp }) ho' hex hd hf ht hz hh fun h1 d1 I fp ord St hk hI hfp hord W st=>?_);refine wG (yR (lK (s:={ s with heap:=h1,drawn:=d1 }) ⟨o,hk _ _ ho',hex.1⟩ ?_));have hS1:=hk _ _ hS;have hSf:s.heap.objs.size∉fp:=fun hb=>by
   rcases hfp _ hb with e | e
   . exact absurd (show s.heap.objs.size=a from e) (p6 hlt)
   . rw [show hp.get? s.heap.objs.size=none from e] at hS; cases hS
 have key : ∀ (h : yQ) (c : Nat), St 0 h -> (∀ b o, s.heap.get? b = some o -> h.get? b = some o) -> h.get? s.heap.objs.size = some { cls := .type "list", data := .seq #[] c } ->
     CK (xH prog w) A (.builtin "list.extend.loop" ⟨[.ref s.heap.objs.size,.ref I,.ref s.heap.objs.size],[]⟩) (wants (fun v s'=>v=.ref s.heap.objs.size/\∃ h1 d1 tk acc c',s'={ s with heap:=h1,drawn:=d1,toks:=tk }/\(∀ b o,s.heap.get? b=some o->h1.get? b=some o)/\h1.get? s.heap.objs.size=some { cls:=.type "list",dict:=none,data:=.seq acc c',slots := #[] }/\ItemsOf (fun i v=>ord[i]? = some v) acc es.size) E) { s with heap:=h,drawn:=d1 }:=by
   intro h c hst hk2 hc; refine codeAny_extend_loopS W.toS hzl s.heap.objs.size hSf (.ref s.heap.objs.size) es.size 0 _ #[] c rfl (zI _) hst hc (ItemsOf.nil _) fun s' acc' c' hm hS' hacc=>?_;rw [Moved.eq_with hm]; refine ⟨rfl,s'.heap,d1,s'.toks,acc',c',rfl,fun b o e=>hm.heap b o (fun hmem=>?_) (hk2 b o e),hS',hacc⟩;rcases wK.mp hmem with e' | hmem
   . rw [e',hnS] at e; cases e
   . have hI':hp.get? I=none:=hI
     rw [wX.mp hmem] at e; rw [show hp.get? I=some o from wN _ e] at hI'; cases hI'
 have fin : ∀ (r : Result) (s' : wJ), wants (fun v s' => v = .ref s.heap.objs.size /\ ∃ h1 d1 tk acc c', s' = { s with heap := h1, drawn := d1, toks := tk } /\ (∀ b o, s.heap.get? b = some o -> h1.get? b = some o) /\ h1.get? s.heap.objs.size = some { cls := .type "list", dict := none, data := .seq acc c', slots := #[] } /\ ItemsOf (fun i v => ord[i]? = some v) acc es.size) E r s' ->
     wants (fun v s'=>wpAny (xH prog w) A (match v with | .ref a=>load a>>=fun o=>(match o.data with | .seq xs _=>pure xs.toList | _=>unsupported "internal:collect") | _=>unsupported "internal:collect") Q E s') E r s':=fun r s' h=>by
   cases r with
   | error e=>exact h
   | ok fl =>
     cases fl with
     | ret v =>
       obtain ⟨rfl,h2,d2,tk,acc,c',rfl,hk2,hS2,hacc⟩:=h; refine wG (HY hS2 (wH ?_)); have:acc.toList=ord:=by
         have hol:ord.length=es.size:=by rw [hord.length_eq]; simp
         apply AV;intro j;by_cases hj:j < es.size
         . have hja:j < acc.size:=by rw [hacc.1]; exact hj
           rw [hacc.2 j acc[j] (by simp [hja])]; simp [hja]
         . rw [i9 (by simpa [hacc.1] using zP.mp hj),i9 (by omega)]
       rw [this]; exact hQ h2 d2 tk ord hk2 hord
     | _=>exact h
 refine x6 (fun _=>?_) fun _=>wH ⟨AQ F.plain_extend_loop _,AG (key h1 0 st (fun b o e=>hk b o (wN _ e)) hS1) fin⟩;refine wG (zW (wG ?_));show wpAny _ _ (updateSeq s.heap.objs.size (·.push .none)>>=fun _=>updateSeq s.heap.objs.size (·.pop)) _ _ _;refine wG (wpAny_updateSeq (s:={ s with heap:=h1,drawn:=d1 }) hS1 rfl ?_);have u2:=zB (AN (·.push a8)) hS1 rfl;refine wpAny_updateSeq (hz:=by seq_fits) u2 rfl ?_;have u3:=zB (AN (·.pop)) u2 rfl;have oth:∀ b o,b≠s.heap.objs.size->h1.get? b=some o->((h1.update s.heap.objs.size (AN (·.push a8))).update s.heap.objs.size (AN (·.pop))).get? b=some o:=fun b o hb e=>by rw [AY _ _ (Ne.symm hb),AY _ _ (Ne.symm hb)]; exact e
 refine wH ⟨AQ F.plain_extend_loop _,AG (key _ _ (W.frame 0 _ _ st fun b hb o e=>oth b o (fun z=>hSf (z▸hb)) e) (fun b o e=>oth b o (fun z=>?_) (hk b o (wN _ e))) u3) fin⟩;rw [z,hnS] at e; cases e
end
end Sm
end
noncomputable section
namespace Sm
open PySem PySem.W PyProof.Rows
theorem fB {t:i6} {hf:Nat->Int} {h:Int} (hd:t.dummies = #[]):∀ (n:Nat) (p:SetTable.Probe) {j:Nat} {dm:Option Nat},p.dummy=none->GM t hf h n p=some (.empty j dm)->dm=none/\t.slot j=.empty:=by
 intro iN; induction iN with
 | zero=>intro _ _ _ _ e; cases e
 | succ n ih =>
   intro p j dm hp e; have ha:(t.advance p).dummy=none:=by unfold SetTable.advance; split <;> exact hp
   unfold GM at e;split at e
   . rename_i hs
     cases e; exact ⟨hp,hs⟩
   . rename_i hs
     exfalso;unfold SetTable.slot at hs; rw [hd,dB] at hs; simp only [xY,if_false] at hs;split at hs <;> cases hs
   . split at e
     . cases e
     . exact ih _ ha e
theorem Cu {w:xT} {t:i6} (h:Ke w t) (n:Nat):Ke w (t.standIn n):=⟨h.1,rfl,by
 show (Array.range n).toList.Pairwise (· < ·);rw [Array.toList_range]; exact DK⟩
theorem iA {w:xT} {t:i6} (T:Ke w t) (es:Array (Int×wI)) (h:Int) (x:wI):Ke w (layNew t es h x).2.1:=by
 unfold layNew;split
 . rename_i sl wd hfr
   have hp:Ke w (t.put sl).1:=by
     unfold SetTable.freeSlot SetTable.probe at hfr;split at hfr
     . rename_i j dm e
       obtain ⟨rfl,hs⟩:=fB T.2.1 _ _ rfl e; cases hfr; refine ⟨T.1,?_,Qr T.2.2 fun hj=>?_⟩
       . show (if SetTable.has t.dummies _ then _ else t.dummies) = #[]
         rw [T.2.1,dB]; rfl
       . obtain ⟨i,hi⟩:=fP hj
         rw [eP T.2.2 (show t.place[i]? = some j from hi)] at hs; cases hs
     . cases hfr
   show Ke w ((t.put sl).1.orStandIn _);unfold SetTable.orStandIn;split
   . exact hp
   . exact Cu hp _
 . exact Cu T _
theorem Zv {w:xT} {t:i6} (T:Ke w t) (es:Array (Int×wI)) (n:Nat):Ke w (GI t es n).2.1:=by
 unfold GI;split
 . rename_i t' ord e
   unfold SetTable.relaid SetTable.laid at e; obtain ⟨ow,e1,e2⟩:=AI.mp e; cases e2; dsimp only;split
   . refine ⟨T.1,rfl,?_⟩
     have:=kZ (SetTable.sizeAbove n - 1) ow; unfold aR at this; exact w5.mpr this
   . exact Cu T _
 . exact Cu T _
noncomputable section
variable {prog:xN} {w:xT} {K:Type} [DecidableEq K] {knd:KeyKind prog w K} {A:yS} {E:wI->wJ->Prop} {s:wJ}
def SetT (knd:KeyKind prog w K) (h:yQ) (a:wR) (L:List (Int×wI)):Prop :=
 ∃ o es ep t,h.get? a=some o/\o.ExactSet/\o.data=.set es ep t/\es.toList.Perm L/\ElemsOf knd L/\L.length < CN/\t.fits es.size=true/\Ke w t
theorem SetT.store {h:yQ} {a:wR} {o:Obj} {es:Array (Int×wI)} {ep:Nat} {t:i6} {L:List (Int×wI)} (ho:h.get? a=some o) (hex:o.ExactSet) (hd:o.data=.set es ep t) {es':Array (Int×wI)} {t':i6}
   (hp:es'.toList.Perm L) (hel:ElemsOf knd L) (hb:L.length < CN) (hf:t'.fits es'.size=true) (T:Ke w t'):∃ o',(h.update a (HD es' t')).get? a=some o'/\o'.ExactSet/\o'.data=.set es' (ep+1) t'/\SetT knd (h.update a (HD es' t')) a L:=by
 have hg:=zB (HD es' t') ho (by rw [putSet_of es' t' hd]; rfl);rw [putSet_of es' t' hd] at hg;exact ⟨_,hg,hex,rfl,_,es',ep+1,t',hg,hex,rfl,hp,hel,hb,hf,T⟩
theorem addST {a:wR} {L:List (Int×wI)} {k:K} {x:wI} {Q:Bool->wJ->Prop} (hkey:knd.is k x=true) (hsc:x.scannable=true) (hS:SetT knd s.heap a L) (hroom:L.length+1 < CN)
   (hQ:∀ h' b,k9 a s.heap h'->SetT knd h' a (if L.any (fun e=>knd.is k e.2) then L else L++[(knd.hash k,x)])->Q b { s with heap:=h' }):wpAny (xH prog w) A (setAddHashed a x (knd.hash k)) Q E s:=by
 obtain ⟨o,es,ep,t,ho,hex,hd,hp,hel,hb,hf,T⟩:=hS;have hel0:ElemsOf knd es.toList:=hel.perm hp;have hsz:es.size=L.length:=by rw [<- hp.length_eq,yI]
 have hany:L.any (fun e=>knd.is k e.2)=es.toList.any (fun e=>knd.is k e.2):=by
   rw [zU,z9,z9]; exact ⟨fun hZ0=>by obtain ⟨e,h1,h2⟩:=hZ0; exact ⟨e,hp.mem_iff.mpr h1,h2⟩,fun hZ0=>by obtain ⟨e,h1,h2⟩:=hZ0; exact ⟨e,hp.mem_iff.mp h1,h2⟩⟩
 unfold setAddHashed setAddHashedIn;refine yR (wG (i5 ho hd hf ?_));dsimp only;rw [byScan_of hsc (by lia) hel0,if_pos rfl];unfold setAddByScan;refine wG (wG (zW (wG (wpAny_setScan_of hkey ho hd hf hel0 ?_))));cases hr:List.findIdx? (fun e=>knd.is k e.2) es.toList with
 | some j =>
   obtain ⟨hj,hpj,_⟩:=List.findIdx?_eq_some_iff_getElem.mp hr; have:L.any (fun e=>knd.is k e.2)=true:=by rw [hany,z9]; exact ⟨_,z7 hj,hpj⟩
   refine wH (wH ?_); have q:=hQ s.heap false (HF a s.heap); rw [this,if_pos rfl] at q; exact q ⟨o,es,ep,t,ho,hex,hd,hp,hel,hb,hf,T⟩
 | none =>
   have:L.any (fun e=>knd.is k e.2)=false:=by
     rw [hany,List.any_eq_false]; intro e he; rw [List.findIdx?_eq_none_iff.mp hr e he]; decide
   rw [this] at hQ; simp only [xY,if_false] at hQ; have gw:∀ (b:Bool) {s₁:wJ} {Q':Unit->wJ->Prop},Q' () s₁->wpAny (xH prog w) A (match b with | true=>rule "set.scan.the-table-gave-way" | false=>pure ()) Q' E s₁ :=
     fun b s₁ Q' hq=>by cases b; exact wH hq; exact zW hq
   have p1:=layNew_perm t es (knd.hash k) x; have f1:=layNew_fits t es (knd.hash k) x; have T1:=iA T es (knd.hash k) x;generalize layNew t es (knd.hash k) x=R at p1 f1 T1 ⊢;obtain ⟨es1,t1,wd,gv⟩:=R; dsimp only at p1 f1 T1 ⊢;rw [Array.toList_push] at p1; have p2:es1.toList.Perm (L++[(knd.hash k,x)]):=p1.trans (hp.append_right _); have el2:ElemsOf knd (L++[(knd.hash k,x)]):=hel.push hkey hsc; have b2:(L++[(knd.hash k,x)]).length < CN:=by simpa using hroom
   have z1:es1.size < CN:=by rw [<- yI,p2.length_eq]; exact b2
   refine wG (gw _ ?_); have tail : ∀ t2 : i6, t2.fits es1.size = true -> Ke w t2 -> wpAny (xH prog w) A (do
       storeSet a es1 t2
       if (!wd && t2.tooFull) = true then do
           (match (GI t2 es1 (t8 es1.size)).2.2 with | true=>rule "set.scan.the-table-gave-way" | false=>pure ())
           storeSet a (GI t2 es1 (t8 es1.size)).1 (GI t2 es1 (t8 es1.size)).2.1
           pure (some true)
         else pure (some true)) (fun r s'=>∃ h',r=some true/\s'={ s with heap:=h' }/\k9 a s.heap h'/\SetT knd h' a (L++[(knd.hash k,x)])) E s:=fun t2 f2 T2=>by
     refine wG (wpAny_storeSet_of ho hd ?_ (fits_of_scanBound z1)); obtain ⟨o1,g1,x1,d1,S1⟩:=SetT.store (knd:=knd) ho hex hd p2 el2 b2 f2 T2; have sb1:=c7 s.heap a (HD es1 t2);split
     . have p3:=relayAll_perm t2 es1 (t8 es1.size)
       have f3:=relayAll_fits t2 es1 (t8 es1.size); have T3:=Zv T2 es1 (t8 es1.size);generalize GI t2 es1 (t8 es1.size)=R at p3 f3 T3 ⊢;obtain ⟨es3,t3,gv3⟩:=R; dsimp only at p3 f3 T3 ⊢;have z3:es3.size < CN:=by rw [<- yI,p3.length_eq,yI]; exact z1
       refine wG (gw _ (wG (wpAny_storeSet_of g1 d1 ?_ (fits_of_scanBound z3)))); obtain ⟨_,_,_,_,S3⟩:=SetT.store (knd:=knd) g1 x1 d1 (p3.trans p2) el2 b2 f3 T3; exact wH ⟨_,rfl,rfl,sb1.trans (c7 _ a _),S3⟩
     . exact wH ⟨_,rfl,rfl,sb1,S1⟩
   have close:∀ (r:Option Bool) (s':wJ),(∃ h',r=some true/\s'={ s with heap:=h' }/\k9 a s.heap h'/\SetT knd h' a (L++[(knd.hash k,x)]))->wpAny (xH prog w) A (match r with | some added=>pure added | none=>setAddHashedIn a x (knd.hash k) 99999) Q E s':=fun r s' hZ2=>by
     obtain ⟨h',e1,e2,sb,S'⟩:=hZ2; subst e1 e2; exact wH (hQ h' true sb S')
   split
   . refine wG ?_
     rw [hashByValue_scannable 8 hsc]; refine wH (zM (tail _ ?_ ?_) close fun _ _ e=>e)
     . split
       . exact f1
       . exact SetTable.fits_plain_off f1
     . split
       . exact T1
       . exact T1
   . exact wG (wH (zM (tail _ f1 T1) close fun _ _ e=>e))
end
end Sm
end
noncomputable section
namespace Sm
open PySem PySem.W PyProof.Rows
noncomputable section
variable {prog:xN} {w:xT} {K:Type} [DecidableEq K]
noncomputable def IsKs (knd:KeyKind prog w K):List wI->List K->Prop
 | [],ks=>ks=[]
 | v::vs,ks=>∃ k r,ks=k::r/\knd.is k v=true/\IsKs knd vs r
noncomputable def Bi (l:List K) (k:K):List K:=if k∈l then l else l++[k]
noncomputable def Ui (ks:Nat->K):Nat->List K
 | 0=>[]
 | i+1=>Bi (Ui ks i) (ks i)
theorem Xu (ks:Nat->K):∀ i,(Ui ks i).length<=i:=by
 intro iN; induction iN with
 | zero=>skip; exact wO _
 | succ i ih =>
   skip
   have:=ih; unfold Ui Bi;split
   . lia
   . simp; lia
theorem IsKs.len {knd:KeyKind prog w K}:∀ {vs:List wI} {ks:List K},IsKs knd vs ks->vs.length=ks.length
 | [],_,h=>by cases (show _=_ from h); rfl
 | v::vs,_,h=>by obtain ⟨k,r,rfl,_,h⟩:=h; simp [h.len]
theorem IsKs.push {knd:KeyKind prog w K} {v:wI} {k:K} (hv:knd.is k v=true):∀ {vs:List wI} {ks:List K},IsKs knd vs ks->IsKs knd (vs++[v]) (ks++[k])
 | [],_,h=>by cases (show _=_ from h); exact ⟨k,[],rfl,hv,rfl⟩
 | u::vs,_,h=>by obtain ⟨k',r,rfl,h1,h⟩:=h; exact ⟨k',_,rfl,h1,h.push hv⟩
theorem IsKs.any {knd:KeyKind prog w K} {k:K}:∀ {vs:List wI} {ks:List K},IsKs knd vs ks->vs.any (fun v=>knd.is k v)=decide (k∈ks)
 | [],_,h=>by cases (show _=_ from h); rfl
 | u::vs,_,h=>by
   obtain ⟨k',r,rfl,h1,h⟩:=h; rw [EZ,h.any];by_cases e:k=k'
   . subst e; rw [h1]; simp
   . have : knd.is k u = false := by
       cases c:knd.is k u with
       | false=>rfl
       | true=>exact absurd (knd.inj u k k' c h1) e
     rw [this]; simp [e]
theorem IsKs.perm {knd:KeyKind prog w K} {us vs:List wI} (p:us.Perm vs):∀ {ks:List K},IsKs knd vs ks->∃ ks',ks'.Perm ks/\IsKs knd us ks':=by
 induction p with
 | nil=>exact fun h=>⟨_,zS _,h⟩
 | cons x _ ih =>
   intro ks h; obtain ⟨k,r,rfl,h1,h⟩:=h; obtain ⟨r',p,h'⟩:=ih h; exact ⟨k::r',p.cons k,k,r',rfl,h1,h'⟩
 | swap x y l =>
   intro ks h; obtain ⟨k,r,rfl,h1,k2,r2,rfl,h2,h⟩:=h; exact ⟨k2::k::r2,DB ..,k2,_,rfl,h2,k,_,rfl,h1,h⟩
 | trans _ _ ih1 ih2 =>
   intro ks h; obtain ⟨k1,p1,h1⟩:=ih2 h; obtain ⟨k2,p2,h2⟩:=ih1 h1; exact ⟨k2,p2.trans p1,h2⟩
def SetK (knd:KeyKind prog w K) (h:yQ) (a:wR) (ks:List K):Prop:=∃ L,SetT knd h a L/\IsKs knd (L.map (·.2)) ks
theorem SetK.at {knd:KeyKind prog w K} {h h':yQ} {a:wR} {ks:List K} (S:SetK knd h a ks) (e:∀ o,h.get? a=some o->h'.get? a=some o):SetK knd h' a ks:=by
 obtain ⟨L,⟨o,es,ep,t,ho,r⟩,k⟩:=S;exact ⟨L,⟨o,es,ep,t,e _ ho,r⟩,k⟩
theorem addK' {knd:KeyKind prog w K} {A:yS} {E:wI->wJ->Prop} {s:wJ} {a:wR} {ks:List K} {k:K} {x:wI} {Q:Bool->wJ->Prop} (hkey:knd.is k x=true) (hsc:x.scannable=true) (hS:SetK knd s.heap a ks) (hroom:ks.length+1 < CN)
   (hQ:∀ h' b,k9 a s.heap h'->SetK knd h' a (Bi ks k)->Q b { s with heap:=h' }):wpAny (xH prog w) A (setAddHashed a x (knd.hash k)) Q E s:=by
 obtain ⟨L,hT,hK⟩:=hS;have hl:L.length=ks.length:=by rw [<- hK.len,wL]
 refine addST hkey hsc hT (by lia) fun h' b sb hT'=>hQ h' b sb ⟨_,hT',?_⟩;have:L.any (fun e=>knd.is k e.2)=decide (k∈ks):=by rw [<- hK.any,HV]; rfl
 rw [this];unfold Bi;by_cases c:k∈ks
 . simp only [c,decide_true,if_true]; exact hK
 . simp only [c,decide_false,xY,if_false,xR]; exact hK.push hkey
end
noncomputable section
variable {prog:xN} {w:xT} {K:Type} [DecidableEq K] {knd:KeyKind prog w K} {A:yS} {R:Result->wJ->Prop} {E:wI->wJ->Prop} {I:wR} {fp wr:List wR} {G:Array GenState->Array GenState->Prop} {n:Nat} {P:Nat->wI->Prop} {St:Nat->wJ->Prop} {s:wJ}
theorem loopG (W:WalksS prog w A.in1 I fp wr G n P St) (S:wR) (hSf:S∉fp) (ks:Nat->K) (hval:∀ i v,P i v->knd.is (ks i) v=true/\v.scannable=true) (hb:n+1 < CN) :
   ∀ (m i:Nat) (s:wJ),n - i=m->i<=n->St i s->SetK knd s.heap S (Ui ks i)->(∀ s',Moved (S::wr) G s s'->SetK knd s'.heap S (Ui ks n)->R (.ok (.ret .none)) s') ->
     CK (xH prog w) A (.builtin "set.update.loop" ⟨[.ref S,.ref I],[]⟩) R s:=by
 intro iN; induction iN with
 | zero =>
   intro i s hk hi hst hS hR; have hin:i=n:=by lia
   subst hin; refine l4 F.entry_set_update_loop ?_; rw [c6 F.plain_set_update_loop _]; show wpAny _ A.in1 (pyNext (.ref I)>>=_) _ _ s;refine wG (W.done s _ _ hst fun s' hm=>?_);show wpAny _ A.in1 (ret a8) _ _ s';exact wH (hR s' (hm.mono fun b hb=>zH _ hb) (hS.at fun o e=>hm.heap S o (fun h=>hSf (W.sub _ h)) e))
 | succ m ih =>
   intro i s hk hi hst hS hR; refine l4 F.entry_set_update_loop ?_; rw [c6 F.plain_set_update_loop _]; show wpAny _ A.in1 (pyNext (.ref I)>>=_) _ _ s;refine wG (W.item i s _ _ (by lia) hst fun v s' hP hst' hm=>?_);obtain ⟨hv,hsc⟩:=hval i v hP; have hS':=hS.at fun o e=>hm.heap S o (fun h=>hSf (W.sub _ h)) e;show wpAny _ A.in1 (holding [v] (setAdd S v)>>=_) _ _ s';unfold setAdd; refine wG (yR (yR (wG (knd.pyHash hv ?_)))); refine addK' (s:={ s' with toks:=s'.toks+1 }) hv hsc hS' (by have:=Xu ks i; lia) fun h' b hsb hS2=>?_
   have sub:∀ b∈wr,b∈S::wr:=fun b hb=>zH _ hb;refine wH ⟨AQ F.plain_set_update_loop _,ih (i+1) _ (by lia) (by lia) (W.frame _ s' _ _ hst' (z0 _) fun b hb o e=>?_) hS2 fun s'' hm'' hS''=>?_⟩
   . rw [hsb.2 b fun h:b=S=>hSf (h▸hb)]; exact e
   . refine hR s'' (Moved.trans W.gtrans ((hm.mono sub).then_heap (z0 _) fun b o hb e=>?_) hm'') hS''
     rw [hsb.2 b fun h:b=S=>hb (h▸yZ)]; exact e
abbrev Qf (w:xT):Obj:={ cls:=.type "set",dict:=none,data:=.set #[] 0 (.fresh 0 0 (!(w.params.followText "set-order"))) }
theorem kL (a:wI) {Q₁:wI->wJ->Prop} (h:Q₁ (.ref s.heap.objs.size) { s with heap:=s.heap.push (Qf w) }):CK (xH prog w) A (.call (.builtin "set.__new__") ⟨[.type "set",a],[]⟩) (wants Q₁ E) s:=by
 refine HJ (wG (m6 (F.newCall_set_1 a) (wH ⟨AQ F.plain_set_new _,l4 F.entry_set_new ?_⟩)));rw [c6 F.plain_set_new _];unfold f9.«set.__new__» Builtin.Frozenset.newClass;have hsub:=sub_set_self;obtain ⟨hp,g,d,tk,os⟩:=s
 wp_walk
 refine AF (wH ?_);dsimp only;simp only [newObj];exact wG (wpAny_alloc (wH (wH h)))
theorem iX {h:yQ} {a:wR} (hg:h.get? a=some (Qf w)):SetK knd h a [] :=
 ⟨[],⟨_,#[],0,_,hg,⟨rfl,rfl,rfl⟩,rfl,List.Perm.nil,(fun e he=>nomatch he),by decide,rfl,rfl,rfl,GW⟩,rfl⟩
theorem Sx {l:wR} {items:Array wI} {ks:Nat->K} {Q:wI->wJ->Prop} (hh:A.handled=none) (hl:s.heap.IsList l items) (hk:∀ i v,items[i]? = some v->knd.is (ks i) v=true/\v.scannable=true) (hn:items.size<=3000)
   (h:∀ (s':wJ),s'.gens=s.gens->s'.drawn=s.drawn->s'.os=s.os->(∀ b o,s.heap.get? b=some o->s'.heap.get? b=some o)->SetK knd s'.heap s.heap.objs.size (Ui ks items.size)->Q (.ref s.heap.objs.size) s') :
   wpAny (xH prog w) A (call (.type "set") [.ref l]) Q E s:=by
 obtain ⟨c,tl,hmro⟩:=F.called_set.mro;have hmade:=F.called_set.made;have hsub:=F.called_set.sub;refine wpAny_call (HJ ?_);show wpAny _ _ (callAny (.type "set") _) _ _ _;refine wH ⟨Code.quiet_builtin _ (by decide +kernel),l4 F.entry_type_call ?_⟩;rw [Around.under_plain (weight_type_call_type "set" [.ref l] []) rfl];have h1:=F.called_set.notType;have h2:=F.called_set.canCreate;have hct:=F.typeCall_set_1 (.ref l)
 repeat (any_goals (first | assumption | wp_step))
 refine AG (kL (.ref l) (E:=E) (Q₁:=fun obj s₁=>obj=.ref s.heap.objs.size/\s₁={ s with heap:=s.heap.push (Qf w) }) ⟨rfl,rfl⟩) fun r s₁ hr=>?_;cases r with
 | error e=>exact hr
 | ok fl =>
   cases fl with
   | ret obj =>
     obtain ⟨rfl,rfl⟩:=hr; have hS:(s.heap.push (Qf w)).get? s.heap.objs.size=some (Qf w):=wW _ rfl; have hT:GQ { s with heap:=s.heap.push (Qf w) } (.ref s.heap.objs.size) "set" := ⟨_,hS,rfl⟩; have hli:=F.called_set.init.lookup; have hbi:=F.called_set.init.bind (.ref s.heap.objs.size)
     repeat (any_goals (first | assumption | wp_step))
     refine AG (codeAny_call_builtin (R:=wants (fun r s₂=>r=.none/\s₂.gens=s.gens/\s₂.drawn=s.drawn/\s₂.os=s.os/\(∀ b o,s.heap.get? b=some o->s₂.heap.get? b=some o)/\SetK knd s₂.heap s.heap.objs.size (Ui ks items.size)) E)
       F.called_set.init.plain F.entry_set_init (check_set_init_1 hT ?_)) fun r₂ s₂ hr₂=>?_
     . obtain ⟨ol,hol,hcl,nl,hdl⟩:=hl
       obtain ⟨ocls,odict,odata,oslots⟩:=ol; simp only at hcl hdl; subst hcl hdl; have hol':(s.heap.push (Qf w)).get? l=some { cls:=.type "list",dict:=odict,data:=.seq items nl,slots:=oslots }:=wN _ hol; have hsls:=F.sub_list_set; have hslf:=F.sub_list_frozenset; have hne:(p0 "list" == p0 "dict")=false:=by decide
       have hl1:(s.heap.push (Qf w)).IsList l items:=⟨_,hol',rfl,nl,rfl⟩; unfold f9.«set.__init__» noKeywords Builtin.Frozenset.updateFrom;generalize hPI:GX=PI
       wp_walk
       subst hPI; refine GF hl1 (wG (HX ?_)); have hlS:l < s.heap.objs.size:=xA hol; have hh3:A.in1.in1.in1.handled=none:=by simp [hh]
       have hneI:l≠(s.heap.push (Qf w)).objs.size:=by rw [CC]; exact xU (CO hlS)
       have hSf:s.heap.objs.size∉[(s.heap.push (Qf w)).objs.size,l]:=by
         rw [CC]; simp only [wK,BJ,or_false,not_or];exact ⟨xU (BN _),p6 hlS⟩
       refine loopG ((Walks.list hh3 _ l hneI items).toS) s.heap.objs.size hSf ks hk (by show _ < 4096; lia) (items.size - 0) 0 _ (by lia) (zI _) ⟨⟨_,wW _ rfl,rfl,rfl⟩,(hl1.push _)⟩ (iX (wN _ hS)) fun s' hm hS'=>?_;show wpAny _ _ _ _ _ _;refine wH ?_; show wpAny _ _ (ret a8) _ _ _;refine wH ⟨rfl,hm.gens,hm.drawn,hm.os,fun b o e=>hm.heap b o (fun hb=>?_) (wN _ (wN _ e)),hS'⟩;have hlt:=xA e; rcases wK.mp hb with e' | hb
       . rw [e'] at hlt; exact j7 _ hlt
       . rw [wX.mp hb,CC] at hlt; exact j7 _ (Nat.lt_of_succ_lt hlt)
     . cases r₂ with
       | error e=>exact hr₂
       | ok fl₂ =>
         cases fl₂ with
         | ret r =>
           obtain ⟨rfl,g1,g2,g3,g4,hS'⟩:=hr₂
           repeat (any_goals (first | assumption | wp_step))
           exact h _ g1 g2 g3 g4 hS'
         | _=>exact hr₂.elim
   | _=>exact hr.elim
end
end Sm
end
noncomputable section
namespace Sm
open PySem PySem.Spec PyProof.Rows PySem.W L2
noncomputable def Bg {K:Type} [DecidableEq K] (l:List K):List K:=l.foldl Bi []
theorem fO {K:Type} [DecidableEq K] (ks:Nat->K):∀ i,Ui ks i=((zK i).map ks).foldl Bi []:=by
 intro iN; induction iN with
 | zero=>skip; exact rfl
 | succ i ih=>skip; rw [List.range_succ,xR,List.foldl_append,<- ih]; rfl
theorem Jo {K:Type} [DecidableEq K] (l:List K) (d:K):Ui (fun i=>l.getD i d) l.length=Bg l:=by
 rw [fO];have:(zK l.length).map (fun i=>l.getD i d)=l:=by
   apply List.ext_getElem
   . simp
   . intro i h1 h2; simp [h2]
 rw [this]; rfl
theorem Yn {K:Type} [DecidableEq K] [Inhabited K] (l:List K):(Bg l).length<=l.length:=by rw [<- Jo l default]; exact Xu _ _
theorem Ym {K:Type} [DecidableEq K] {l:List K} {x:K}:x∈Bg l↔x∈l:=by
 have:∀ (l m:List K),x∈l.foldl Bi m↔x∈m\/x∈l:=fun l=>by
   induction l with
   | nil=>intro m; simp
   | cons y l ih =>
     intro m; rw [p8,ih]; unfold Bi;split
     . rename_i hy
       constructor
       . rintro (h | h)
         . exact .inl h
         . exact .inr (.tail _ h)
       . rintro (h | h)
         . exact .inl h
         . rcases wK.mp h with rfl | h
           . exact .inl hy
           . exact .inr h
     . simp [or_assoc]
 rw [Bg,this]; simp
theorem Sf:∀ {ds:List wF} {ns:List Int},Fz ds=some ns->ds.length=ns.length:=by
 intro iN; induction iN with
 | nil=>intro _ e; cases e; rfl
 | cons d ds ih =>
   intro ns e;cases d with
   | int i =>
     obtain ⟨m,e1,e2⟩:=yF.mp (show (Fz ds).map (i::·)=some ns from e);rw [<- e2,wT,wT,ih e1]
   | _=>cases e
theorem Kh:∀ {ds:List wF} {ns:List Str},M4 ds=some ns->ds.length=ns.length:=by
 intro iN; induction iN with
 | nil=>intro _ e; cases e; rfl
 | cons d ds ih =>
   intro ns e;cases d with
   | str i =>
     obtain ⟨m,e1,e2⟩:=yF.mp (show (M4 ds).map (i::·)=some ns from e);rw [<- e2,wT,wT,ih e1]
   | _=>cases e
theorem iD:∀ {vs:List wI} {ss:List Str},DJ vs ss->∀ (i:Nat) (v:wI),vs[i]? = some v->∃ t,v=.str (ss.getD i default) t
 | _,_,.nil,_,_,e=>by cases e
 | _,_,.cons x t h,0,_,e=>by cases e; exact ⟨t,rfl⟩
 | _,_,.cons x t h,i+1,v,e=>iD h i v e
noncomputable def Eo:List wF->Option wF
 | [.list ds]=>if ds.length < 64 then match Fz ds with
   | some ns=>some (.list ((Ec (Bg ns)).map .int))
   | none=>match M4 ds with
     | some ss=>some (.list ((Q1 (Bg ss)).map .str))
     | none=>none
   else none
 | _=>none
noncomputable section
variable {prog:xN} {w:xT} {A:yS} {E:wI->wJ->Prop} {s:wJ}
theorem fY:∀ {vs:List wI} {ks:List Int},IsKs (GJ prog w) vs ks->EI vs ks:=by
 intro iN; induction iN with
 | nil=>intro _ h; cases (show _=_ from h); exact .nil
 | cons v vs ih =>
   intro _ h; obtain ⟨k,r,rfl,h1,h⟩:=h; obtain ⟨t,rfl⟩:=Value.isInt_shape h1; exact .cons k t (ih h)
theorem fX:∀ {vs:List wI} {ks:List Str},IsKs (strKind prog w) vs ks->DJ vs ks:=by
 intro iN; induction iN with
 | nil=>intro _ h; cases (show _=_ from h); exact .nil
 | cons v vs ih =>
   intro _ h; obtain ⟨k,r,rfl,h1,h⟩:=h; obtain ⟨t,rfl⟩:=IR h1; exact .cons k t (ih h)
theorem nH {a:wR} {ks:List Int} {Q:wI->wJ->Prop} (S:SetK (GJ prog w) s.heap a ks) (h64:ks.length < 64) (hh:A.handled=none)
   (h:∀ (h1:yQ) d1 tk (vs:List wI) (out:Array wI) (ns:List Int),(∀ b o,s.heap.get? b=some o->h1.get? b=some o)->EI out.toList ns->ns.Perm ks->ns.Pairwise (· <= ·) ->
     Q (.ref h1.objs.size) { s with heap:=HZ (h1.push (BB "list" vs.toArray 0)) h1.objs.size vs out,drawn:=d1,toks:=tk }) :
   wpAny (xH prog w) A (call (.builtin "sorted") [.ref a]) Q E s:=by
 obtain ⟨L,⟨o,es,ep,t,ho,hex,hd,hp,hel,hb,hf,T⟩,hK⟩:=S;have hl:L.length=ks.length:=by rw [<- hK.len,wL]
 refine CG kind_sorted plain_sorted entry_sorted (args_sorted1 _) (wG (m:=checkCount "sorted" 1 1 _) (wH (wG (Kw ho hex hd hf T (by rw [<- yI,hp.length_eq]; lia) hh fun h1 d1 tk vs hk hvs=>?_))));obtain ⟨ks',p1,k1⟩:=hK.perm (hvs.trans (hp.map _));have hvl:vs.length=ks.length:=by rw [k1.len,p1.length_eq]
 have hI:=fY k1;refine wG (wpAny_newList ?_ (by rw [n5]; lia));have hoL:(h1.push (BB "list" vs.toArray 0)).get? h1.objs.size=some (BB "list" vs.toArray 0):=wW _ rfl;show wpAny _ _ _ _ _ { s with heap:=h1.push (BB "list" vs.toArray 0),drawn:=d1,toks:=tk };refine wG (yR (yE IA ⟨_,hoL,rfl⟩ HI (list_sort_tree hoL hI (by lia) fun out ns' a1 a2 a3=>⟨_,rfl,?_⟩) (IJ _)));exact wH ⟨_,rfl,h h1 d1 tk vs out ns' hk a1 (a2.trans p1) a3⟩
theorem nI {a:wR} {ks:List Str} {Q:wI->wJ->Prop} (S:SetK (strKind prog w) s.heap a ks) (h64:ks.length < 64) (hh:A.handled=none)
   (h:∀ (h1:yQ) d1 tk (vs:List wI) (out:Array wI) (ns:List Str),(∀ b o,s.heap.get? b=some o->h1.get? b=some o)->DJ out.toList ns->ns.Perm ks->sortedS ns=true ->
     Q (.ref h1.objs.size) { s with heap:=HZ (h1.push (BB "list" vs.toArray 0)) h1.objs.size vs out,drawn:=d1,toks:=tk }) :
   wpAny (xH prog w) A (call (.builtin "sorted") [.ref a]) Q E s:=by
 obtain ⟨L,⟨o,es,ep,t,ho,hex,hd,hp,hel,hb,hf,T⟩,hK⟩:=S;have hl:L.length=ks.length:=by rw [<- hK.len,wL]
 refine CG kind_sorted plain_sorted entry_sorted (args_sorted1 _) (wG (m:=checkCount "sorted" 1 1 _) (wH (wG (Kw ho hex hd hf T (by rw [<- yI,hp.length_eq]; lia) hh fun h1 d1 tk vs hk hvs=>?_))));obtain ⟨ks',p1,k1⟩:=hK.perm (hvs.trans (hp.map _));have hvl:vs.length=ks.length:=by rw [k1.len,p1.length_eq]
 have hS:=fX k1;refine wG (wpAny_newList ?_ (by rw [n5]; lia));have hoL:(h1.push (BB "list" vs.toArray 0)).get? h1.objs.size=some (BB "list" vs.toArray 0):=wW _ rfl;show wpAny _ _ _ _ _ { s with heap:=h1.push (BB "list" vs.toArray 0),drawn:=d1,toks:=tk };refine wG (yR (yE IA ⟨_,hoL,rfl⟩ HI (list_sort_treeK strKind_oneLt hoL hS.keysOf (fun v₁ v₂ L3 e=>keyKind_strs (by rw [<- e]; exact hS)) (by lia) fun st' hp hs=>⟨_,rfl,?_⟩) (IJ _)));obtain ⟨ss',a1,a2,a3⟩:=sorted_out_str hS hp hs;exact wH ⟨_,rfl,h h1 d1 tk vs _ ss' hk a1 (a2.trans p1) a3⟩
end
theorem Inv.dr {X:Cx} {pins:List (wR×Obj)} {Z:List (Option V)} {H:Hp} {s:wJ} (d:Drawn) (I:Inv X pins Z H s):Inv X pins Z H { s with drawn:=d }:=⟨I.ok,I.os,I.bare,I.base,I.loc,I.cell,I.free,I.freeC,I.pin,I.hok,I.len⟩
noncomputable def rE (X:Cx) (a:wR) (ks:List Int):HO:=.ext fun h=>SetK (GJ X.prog X.w) h a ks
noncomputable def rF (X:Cx) (a:wR) (ks:List Str):HO:=.ext fun h=>SetK (strKind X.prog X.w) h a ks
noncomputable section
variable {P:xN} {w:xT} {K:wM} {mg:Str->Option wI} {base:yQ} {X:Cx} {N:List Str} {sc:Scope} {k:Nat} {df:Bool} {E:EK} {pos p p1 pos1:Pos} {e:Expr} {fs:Dn->Res (List wF)}
def rSet (X:Cx) (xs:List V) (H:Hp) (Q:VK):Prop:=∃ G ds,Same G H/\RepL G [.list ds] xs/\ds.length < 64 /\
 ((∃ ns,Fz ds=some ns/\∀ a,H a=none->Q (.ref a) (upd H a (rE X a (Bg ns))))\/(∃ ss,M4 ds=some ss/\((∀ x∈ss,xP x=true/\x.length<=sizeLine)->∀ a,H a=none->Q (.ref a) (upd H a (rF X a (Bg ss))))))
theorem mH (hh:X.A.handled=none):V0 X (.type "set") (rSet X):=by
 rintro pins s Z H xs us Q I r ⟨G,ds,hG,rl,hl,q⟩;obtain ⟨v,t0,rfl,rv,e0⟩:=rl;cases (show t0=[] from e0);obtain ⟨u,rfl,ru⟩:=r.one;obtain ⟨l,vs,rfl,h1,l1⟩:=rv;cases (show u=f8 l from ru);obtain ⟨z,its,n,rr,ho⟩:=W1 I hG h1;have hfr:H s.heap.objs.size=none:=I.hok.fresh (wO _);have fin:∀ (s':wJ) (o:HO),s'.gens=s.gens->s'.drawn=s.drawn->s'.os=s.os->(∀ b o,s.heap.get? b=some o->s'.heap.get? b=some o)->ObjOk X.prog X.w (upd H s.heap.objs.size o) s'.heap s.heap.objs.size o->Inv X pins Z (upd H s.heap.objs.size o) s':=fun s' o g1 g2 g3 g4 ok=>by
   obtain ⟨hp,g,d,tk,os⟩:=s';cases g1; cases g2; cases g3;exact I.laid (t':=tk) g4 (wO _) ok
 rcases q with ⟨ns,e1,q⟩ | ⟨ss,e1,q⟩
 . have hI:=repZ l1 rr e1
   have hle:its.length=ns.length:=hI.length; have hln:ns.length=ds.length:=(Sf e1).symm; refine Sx (knd:=GJ X.prog X.w) (ks:=fun i=>ns.getD i 0) hh ⟨_,ho,rfl,n,rfl⟩ (fun i v hv=>?_) (by simp; lia) fun s' g1 g2 g3 g4 S=>?_
   . obtain ⟨t,rfl⟩:=hI.int_at i v (by simpa using hv)
     exact ⟨by simp [GJ,Value.isInt],rfl⟩
   . have S':SetK (GJ X.prog X.w) s'.heap s.heap.objs.size (Bg ns):=by rw [<- Jo ns 0,<- hle]; simpa using S
     refine ⟨.ref s.heap.objs.size,_,fin s' (rE X s.heap.objs.size (Bg ns)) g1 g2 g3 g4 ⟨S',?_,fun h1 h2 a b=>SetK.at a b⟩,rfl,q _ hfr⟩;obtain ⟨_,⟨o,_,_,_,ho,_⟩,_⟩:=S'; exact ⟨o,ho⟩
 . obtain ⟨hI,hok⟩:=repT l1 rr e1
   have hst:=hI.strs; have hle:its.length=ss.length:=by have:=congrArg AO hst; simpa using this
   have hln:ss.length=ds.length:=(Kh e1).symm; refine Sx (knd:=strKind X.prog X.w) (ks:=fun i=>ss.getD i default) hh ⟨_,ho,rfl,n,rfl⟩ (fun i v hv=>?_) (by simp; lia) fun s' g1 g2 g3 g4 S=>?_
   . obtain ⟨t,rfl⟩:=iD hI i v (by simpa using hv)
     exact ⟨by simp [PySem.strKind,Value.isStrOf],rfl⟩
   . have S':SetK (strKind X.prog X.w) s'.heap s.heap.objs.size (Bg ss):=by rw [<- Jo ss default,<- hle]; simpa using S
     refine ⟨.ref s.heap.objs.size,_,fin s' (rF X s.heap.objs.size (Bg ss)) g1 g2 g3 g4 ⟨S',?_,fun h1 h2 a b=>SetK.at a b⟩,rfl,q hok _ hfr⟩;obtain ⟨_,⟨o,_,_,_,ho,_⟩,_⟩:=S'; exact ⟨o,ho⟩
def jJ (X:Cx) (xs:List V) (H:Hp) (Q:VK):Prop:=∃ a,xs=[.ref a] /\
 ((∃ ks,H a=some (rE X a ks)/\ks.length < 64/\∀ l,H l=none->Q (.ref l) (upd H l (.lst ((Ec ks).map .int))))\/(∃ ks,H a=some (rF X a ks)/\ks.length < 64/\∀ l,H l=none->Q (.ref l) (upd H l (.lst ((Q1 ks).map .str)))))
theorem Vc (hh:X.A.handled=none):V0 X (.builtin "sorted") (jJ X):=by
 rintro pins s Z H xs us Q I r ⟨a,hxs,q⟩;subst hxs;obtain ⟨u,rfl,ru⟩:=r.one;cases (show u=f8 a from ru);have fin : ∀ (h1 : yQ) d1 tk (vs : List wI) (out : Array wI) (xs : List V), (∀ b o, s.heap.get? b = some o -> h1.get? b = some o) -> xs.length < 64 -> Vals xs out.toList -> (∀ l, H l = none -> Q (.ref l) (upd H l (.lst xs))) ->
     EP X pins Z Q (.ref h1.objs.size) { s with heap:=HZ (h1.push (BB "list" vs.toArray 0)) h1.objs.size vs out,drawn:=d1,toks:=tk }:=fun h1 d1 tk vs out xs hk hl hv hq=>by
   have I1:Inv X pins Z H { s with heap:=h1,drawn:=d1,toks:=tk }:=Inv.dr d1 (I.kept (t':=tk) hk); have hfr:H h1.objs.size=none:=I1.hok.fresh (wO _); have ho1:(h1.push (BB "list" vs.toArray 0)).get? h1.objs.size=some (BB "list" vs.toArray 0):=wW _ rfl; obtain ⟨ee,hat⟩:=sortedHeap_at (out:=out) ho1; refine ⟨.ref h1.objs.size,_,I1.laid (o:=.lst xs) (t':=tk) (fun b o e=>?_) (wO _) ⟨by rw [n5]; lia,out.toList,ee,hv,by simpa using hat⟩,rfl,hq _ hfr⟩;have hlt:b < h1.objs.size:=xA e; rw [sortedHeap_old (xU hlt) (by rw [size_push']; exact CO hlt)]
   exact wN _ e
 rcases q with ⟨ks,hd,h64,q⟩ | ⟨ks,hd,h64,q⟩
 . obtain ⟨S,_⟩:=I.hok a _ hd
   refine nH S h64 hh fun h1 d1 tk vs out ns hk a1 a2 a3=>?_;have hsrt:ns=Ec ks:=Vk (a2.trans (Au ks).symm) a3 (Wn ks); subst hsrt; exact fin h1 d1 tk vs out _ hk (by rw [wL,(Au ks).length_eq]; exact h64) (rH a1) q
 . obtain ⟨S,_⟩:=I.hok a _ hd
   refine nI S h64 hh fun h1 d1 tk vs out ns hk a1 a2 a3=>?_;have hsrt:ns=Q1 ks:=Oa (a2.trans (L9 ks).symm) (Nb a3) (Nc ks); subst hsrt; exact fin h1 d1 tk vs out _ hk (by rw [wL,(L9 ks).length_eq]; exact h64) (Gh a1) q
theorem gJ {n:Nat} (C:Cxt P w K mg base X N sc k df) (h:okGl sc "sorted" = true) (hm:mg "sorted" = none) (h':okGl sc "set" = true) (hm':mg "set" = none) (ha:DA X E [e] n fs)
   (he:wU [.Call (.Name "set" p1) [e] [] pos1] X.env=(false,eval (.Call (.Name "set" p1) [e] [] pos1) X.env)::wU [] X.env:=by rfl) (hpl:(zY pos (wU [] X.env)).any (·.1)=false:=by rfl)
   (he':wU [e] X.env=(false,eval e X.env)::wU [] X.env:=by rfl) (hpl':(zY pos1 (wU [] X.env)).any (·.1)=false:=by rfl):DE X E (.Call (.Name "sorted" p) [.Call (.Name "set" p1) [e] [] pos1] [] pos) (vFn fs Eo):=by
 obtain ⟨g1,g2,g3⟩:=okGl.gl C h;obtain ⟨g4,g5,g6⟩:=okGl.gl C h';intro pins s Z H Q I q;have hh:=I.ok.hd C.calm;refine (PE.imp (Od (Vc hh) g1 (by rw [C.hmg]; exact hm) (by decide +kernel) (O8 (Rx (mH hh) g4 (by rw [C.hmg]; exact hm') (by decide +kernel) ha.pa g6 g5 he' hpl') Y5 he) g3 g2 he hpl) fun Z H Q hY98=>?_) pins s Z H Q I q;obtain ⟨G,δ,S,aft⟩:=hY98;refine X4 (W:=fun G H r=>Aft E G H r Q) S aft (fun g a=>Aft.grow g a) (fun c a=>a) (fun a=>a) fun ds vs G1 H1 e g1 r1 S1 a1=>?_;cases e:Eo ds with
 | none=>rw [e] at a1; exact a1.elim
 | some d =>
   rw [e] at a1; unfold Eo at e;split at e
   . rename_i ys hfs
     split at e
     . rename_i hc
       split at e
       . rename_i ns en
         cases e; refine ⟨G1,ys,S1.sub,r1,hc,.inl ⟨ns,en,fun a ha=>⟨a,rfl,.inl ⟨_,C0,?_,fun l hl=>?_⟩⟩⟩⟩
         . have:=Yn ns; have:=Sf en; lia
         . have hla:l≠a:=fun z=>by subst z; rw [C0] at hl; cases hl
           have hG1a:G1 a=none:=S1.sub.free ha; refine a1 _ (upd (upd G1 a (rE X a (Bg ns))) l (.lst ((Ec (Bg ns)).map .int))) _ ((Grow.new S1.sub ha).trans (Grow.new (Grow.new S1.sub ha).gh hl)) ⟨_,_,rfl,.inl C0,RepL.ints _⟩
       . rename_i en0
         split at e
         . rename_i ss en
           cases e; refine ⟨G1,ys,S1.sub,r1,hc,.inr ⟨ss,en,fun hok a ha=>⟨a,rfl,.inr ⟨_,C0,?_,fun l hl=>?_⟩⟩⟩⟩
           . have:=Yn ss; have:=Kh en; lia
           . refine a1 _ (upd (upd G1 a (rF X a (Bg ss))) l (.lst ((Q1 (Bg ss)).map .str))) _ ((Grow.new S1.sub ha).trans (Grow.new (Grow.new S1.sub ha).gh hl)) ⟨_,_,rfl,.inl C0,Nw _ fun y hy=>hok y (Ym.mp ((L9 _).mem_iff.mp hy))⟩
         . cases e
     . cases e
   . cases e
end
end Sm
end
noncomputable section
namespace Sm
open PySem PySem.Spec PyProof.Rows PySem.W L2
noncomputable def bind3:wF->Res (List Sl)
 | .tuple [a,b,c]=>.ok [.sh a,.sh b,.sh c]
 | _=>.no
noncomputable def vB:wF->Bool
 | .tuple ds=>ds.all Om
 | d=>Om d
theorem RepL.atoms {G G':Hp}:∀ {ds:List wF} {vs:List V},RepL G ds vs->ds.all Om=true->RepL G' ds vs
 | [],_,r,_=>r
 | d::ds,_,r,h=>by
   obtain ⟨x,t,rfl,r1,r2⟩:=r; rw [List.all_cons,xC] at h; exact ⟨x,t,rfl,r1.atom h.1,RepL.atoms r2 h.2⟩
theorem lM {G H:Hp} (hG:Same G H) {b:wR} {xs:List V} (hx:H b=some (.tup xs)):∃ G',Grow G H G' H/\G' b=some (.tup xs):=by
 cases eb:G b with
 | some u =>
   have:=hG _ _ eb; rw [hx] at this; exact ⟨G,Grow.refl hG,by rw [eb,<- this]⟩
 | none =>
   refine ⟨upd G b (.tup xs),⟨Same.upd eb,Same.refl _,fun c u e=>?_,fun c u e=>?_⟩,C0⟩
   . by_cases hc:c=b
     . subst hc; rw [C0] at e; cases e; exact hx
     . rw [C3 hc] at e; exact hG _ _ e
   . by_cases hc:c=b
     . subst hc; rw [C0] at e; cases e; exact .inr (.inr ⟨_,rfl⟩)
     . rw [C3 hc] at e; exact .inl e
noncomputable def gZ (i:Nat) (f:Dn->Res wF):Dn->Res wF:=fun δ=>(f (fz i δ)).bind fun d=>if vB d=true then .ok d else .no
noncomputable section
variable {X:Cx} {E:EK} {e:Expr} {f:Dn->Res wF}
theorem qH (i:Nat) (h:DE X E e f):DE X E e (gZ i f):=PE.imp h fun Z H Q ⟨G,δ,S,a⟩=>by
 obtain ⟨G',S'⟩:=S.fz i;refine ⟨G',_,S',?_⟩;unfold gZ at a;have g0:∀ {G2 H2:Hp},Grow G' H G2 H2->Grow G H G H2:=fun g=>⟨Same.refl _,g.h,S.sub.trans g.h,fun _ _ z=>.inl z⟩;cases q:f (fz i δ) with
 | ok d =>
   rw [q] at a; simp only [Res.bind] at a;split at a
   . rename_i hd
     intro v G2 H2 g r; have hat:Om d=true->Q v H2:=fun z=>a v G H2 (g0 g) (r.atom z);cases d with
     | tuple ds =>
       obtain ⟨b,xs,rfl,hb,rl⟩:=r; obtain ⟨G3,g3,h3⟩:=lM (g0 g).gh (g.gh _ _ hb); exact a _ G3 H2 ((g0 g).trans g3) ⟨b,xs,rfl,h3,rl.atoms hd⟩
     | _=>exact hat hd
   . exact (show False from a).elim
 | exc c=>rw [q] at a; exact fun G2 H2 g=>a G H2 (g0 g)
 | no=>rw [q] at a; exact a
end
end Sm
end
noncomputable section
namespace Sm
open PySem PySem.Spec PyProof.Rows PySem.W L2
noncomputable def mE:List wF->Option wF
 | [.int i,.int j]=>some (.int (if j < i then j else i))
 | _=>none
theorem bD {X:Cx} (hc:X.calm=true):V0 X (.builtin "min") (rCD mE):=by
 rintro pins s Z H xs us Q I r ⟨G,ds,d,hG,rl,e,q⟩;unfold mE at e;split at e
 . rename_i i j
   cases e; obtain ⟨v,v',rfl,e1,e2⟩:=nV rl;cases (show _=_ from e1); cases (show _=_ from e2);exact gO hc pins s Z H _ us Q I r ⟨i,j,rfl,q (.int (if j < i then j else i)) G H (Grow.refl hG) rfl⟩
 . cases e
noncomputable section
variable {P:xN} {w:xT} {K:wM} {mg:Str->Option wI} {base:yQ} {X:Cx} {N:List Str} {sc:Scope} {k:Nat} {df:Bool} {E:EK} {e:Expr} {es:List Expr} {fs:Dn->Res (List wF)} {p pos:Pos}
theorem d_min {n:Nat} (C:Cxt P w K mg base X N sc k df) (h:okGl sc "min" = true) (hm:mg "min" = none) (ha:DA X E (e::es) n fs)
   (he:wU (e::es) X.env=(false,eval e X.env)::wU es X.env:=by rfl) (hpl:(zY pos (wU es X.env)).any (·.1)=false:=by rfl):DE X E (.Call (.Name "min" p) (e::es) [] pos) (vFn fs mE) :=
 Ip C (bD C.calm) h hm (by decide +kernel) ha he hpl
end
end Sm
end
noncomputable section
namespace Sm
open PySem PySem.Spec PyProof.Rows L2
def top (i:Nat):n8:=PySem.Challenge.pw_staymark_k31_whole_pieces.main.body.getD i (.Pass ⟨0,0,0,0⟩)
def stm (i j:Nat):n8:=(B3 (top i)).getD j (.Pass ⟨0,0,0,0⟩)
structure Txt (mg:Str->Option wI):Prop where
 b_enumerate:mg "enumerate" = none
 b_int:mg "int" = none
 b_len:mg "len" = none
 b_max:mg "max" = none
 b_min:mg "min" = none
 b_range:mg "range" = none
 b_reversed:mg "reversed" = none
 b_set:mg "set" = none
 b_sorted:mg "sorted" = none
 b_tuple:mg "tuple" = none
 c_SIDES:∃ t,mg "SIDES" = some (.str "lr" t)
noncomputable def Q9:List Str:=["deed"]
noncomputable def S9:Dn->Out:=(F6 (vIf (B4 (b2 (b2 (A0 0) (vC (.int 0)) dIx) (vC (.str "add")) dEq)) (vFn (A1 (b2 (A0 0) (vC (.int 3)) dIx) A6) Q8) (vC (.int 0))))
noncomputable def F2:List wF->Res wF:=fnD Q9 S9
noncomputable def W3:List Str:=["book", "behind", "deed"]
noncomputable def Y3:Dn->Res Kvs:=(Dx (Cf 1) (Dx (nO 1 2 (fun δ=>((A0 0) δ).bind C9) (B4 (b2 (B5 (A1 (A0 2) A6) F2) (vC (.int 0)) (Gf .Gt))) (b2 (A0 2) (vC (.int 2)) dIx) (A0 2)) (Ug 1)))
noncomputable def N7:List wF->Res Kvs:=fnW W3 Y3
noncomputable def N3:List Str:=["book", "behind", "waiting", "told", "step", "deed", "number", "sign"]
noncomputable def Bu:Dn->Out:=(Dv 1 (Hj (A1 (A0 0) A6) N7))
noncomputable def Bt:Dn->Out:=(Ic 2 (E2 (fun δ=>((Mb 1 (vC .none) (F5 A6)) δ).bind C9) E4 [] L6 (E7 (A1 (A0 0) (A1 (vC (.int 0)) A6)))))
noncomputable def Fl:Dn->Out:=(Ic 3 A6)
noncomputable def Bs:Dn->Out:=(jD (Zd 2) (B7 (eX 2 4) (B7 (D5 5 (b2 (A0 4) (vC (.int 0)) dIx)) (B7 (D5 6 (b2 (A0 4) (vC (.int 1)) dIx)) (B7 (D5 7 (E7 (A1 (b2 (A0 5) (vC (.int 1)) dIx) (A1 (A0 6) A6)))) (B7 (Cg 3 (E7 (A1 (A0 7) (A1 (b2 (b2 (A0 5) (vC (.int 3)) dIx) (A0 6) dIx) A6)))) (B7 (sIf (B4 (b2 (b2 (A0 6) (vC (.int 1)) C5) (vFn (A1 (b2 (A0 5) (vC (.int 3)) dIx) A6) Q8) (E9 .Lt))) (Cg 2 (E7 (A1 (A0 5) (A1 (b2 (A0 6) (vC (.int 1)) C5) A6)))) E1) (Wy 2 (E2 (fun δ=>((Mb 1 (A0 7) (F5 A6)) δ).bind C9) E4 [] L6 (E7 (A1 (A0 0) (A1 (vC (.int 0)) A6))))))))))))
noncomputable def Fk:Dn->Out:=(sFz 3 (F6 (A0 3)))
noncomputable def Cz:Dn->Out:=(B7 Bu (B7 Bt (B7 Fl (B7 Bs Fk))))
noncomputable def V5:List wF->Res wF:=fnD N3 Cz
noncomputable def Bo:List Str:=["book", "undone", "deed"]
noncomputable def Ca:Dn->Res Kvs:=(Dx (Cf 1) (Dx (K5 (fun δ=>((A0 0) δ).bind Xa) (st1 2) (sIf (M1 (B4 (b2 (b2 (A0 2) (vC (.int 0)) dIx) (vC (.str "undo")) dEq)) (B4 (Z5 true 1 (b2 (A0 2) (vC (.int 1)) dIx)))) (W6 1 (b2 (A0 2) (vC (.int 2)) dIx) (vC (.bool true))) E1)) (Ug 1)))
noncomputable def K1:List wF->Res Kvs:=fnW Bo Ca
noncomputable def Z9:List Str:=["book", "undone", "dropped", "deed", "sign"]
noncomputable def Aw:Dn->Res Kvs:=(Dx (Cf 2) (Dx (K5 (fun δ=>((A0 0) δ).bind C9) (st1 3) (sIf (M1 (B4 (b2 (b2 (A0 3) (vC (.int 0)) dIx) (vC (.str "drop")) dEq)) (B4 (Z5 true 1 (b2 (A0 3) (vC (.int 1)) dIx)))) (K5 (fun δ=>((b2 (A0 3) (vC (.int 2)) dIx) δ).bind C9) (st1 4) (W6 2 (A0 4) (vC (.bool true)))) E1)) (Ug 2)))
noncomputable def L4:List Sl->Res Kvs:=pT Z9 Aw
noncomputable def G9:List Str:=["book", "undone", "dropped", "told", "pair"]
noncomputable def V2:Dn->Out:=(Dv 1 (Hj (A1 (A0 0) A6) K1))
noncomputable def V1:Dn->Out:=(jE 1 (Dv 2 (Tk (A0 0) 1 L4)))
noncomputable def Cn:Dn->Out:=(Ic 3 A6)
noncomputable def O6:Dn->Out:=(K5 (fun δ=>((B5 (A1 (A0 0) A6) V5) δ).bind C9) (st1 4) (Cg 3 (E7 (A1 (A0 4) (A1 (Pj (Z5 true 1 (b2 (b2 (A0 4) (vC (.int 0)) dIx) (vC (.int 0)) dIx)) (Z5 true 2 (b2 (A0 4) (vC (.int 0)) dIx))) A6)))))
noncomputable def Cm:Dn->Out:=(sFz 3 (F6 (A0 3)))
noncomputable def Y2:Dn->Out:=(B7 V2 (B7 V1 (B7 Cn (B7 O6 Cm))))
noncomputable def K2:List wF->Res wF:=fnD G9 Y2
noncomputable def Dq:List Str:=["book"]
noncomputable def Da:Dn->Out:=(F6 (F5 (E2 (fun δ=>((B5 (A1 (A0 0) A6) K2) δ).bind C9) E4 [] (B4 (b2 (A0 0) (vC (.int 1)) dIx)) (b2 (A0 0) (vC (.int 0)) dIx))))
noncomputable def V6:List wF->Res wF:=fnD Dq Da
noncomputable def Ez:List Str:=["book"]
noncomputable def Ef:Dn->Out:=(F6 (Cl "" (F5 (E2 (fun δ=>((B5 (A1 (A0 0) A6) V6) δ).bind C9) E4 [] L6 (b2 (A0 0) (vC (.int 1)) dIx)))))
noncomputable def F4:List wF->Res wF:=fnD Ez Ef
noncomputable def Bp:List Str:=["book", "places", "behind", "step", "ahead"]
noncomputable def Cb:Dn->Res Kvs:=(Dx (Cf 1) (Dx (D5 2 (vC (.int 0))) (Dx (K5 (fun δ=>((B5 (A1 (A0 0) A6) K2) δ).bind C9) (st1 3) (B7 (D5 4 (A0 2)) (B7 (sIf (B4 (b2 (A0 3) (vC (.int 1)) dIx)) (D5 2 (b2 (A0 4) (vC (.int 1)) C5)) E1) (W6 1 (b2 (b2 (A0 3) (vC (.int 0)) dIx) (vC (.int 0)) dIx) (E7 (A1 (A0 2) (A1 (A0 4) A6))))))) (Dx (W6 1 (vC .none) (E7 (A1 (vC (.int 0)) (A1 (A0 2) A6)))) (Ug 1)))))
noncomputable def T8:List wF->Res Kvs:=fnW Bp Cb
noncomputable def Ds:List Str:=["places", "anchor"]
noncomputable def Db:Dn->Out:=(F6 (b2 (Pi 0 (b2 (A0 1) (vC (.int 0)) dIx)) (Lp (vC (.str "lr")) (b2 (A0 1) (vC (.int 1)) dIx)) dIx))
noncomputable def I9:List Sl->Res wF:=fnS Ds Db
noncomputable def L8:List Str:=["book", "undone", "last", "deed"]
noncomputable def X8:Dn->Out:=(Dv 1 (Hj (A1 (A0 0) A6) K1))
noncomputable def Dt:Dn->Out:=(Cf 2)
noncomputable def X7:Dn->Out:=(K5 (fun δ=>((A0 0) δ).bind C9) (st1 3) (sIf (M1 (B4 (b2 (b2 (A0 3) (vC (.int 0)) dIx) (E7 (A1 (vC (.str "mark")) (A1 (vC (.str "unmark")) A6))) (dIn false))) (B4 (Z5 true 1 (b2 (A0 3) (vC (.int 1)) dIx)))) (W6 2 (b2 (A0 3) (vC (.int 2)) dIx) (A0 3)) E1))
noncomputable def X6:Dn->Out:=(F6 (F5 (E2 (fun δ=>((Ma 2) δ).bind C9) E4 [2] (B4 (b2 (b2 (Pi 1 (A0 0)) (vC (.int 0)) dIx) (vC (.str "mark")) dEq)) (Pi 1 (A0 0)))))
noncomputable def Av:Dn->Out:=(B7 X8 (B7 Dt (B7 X7 X6)))
noncomputable def P1:List wF->Res wF:=fnD L8 Av
noncomputable def T5:List Str:=["book", "places", "told", "deed", "begin"]
noncomputable def Bw:Dn->Out:=(Dv 1 (Hj (A1 (A0 0) A6) T8))
noncomputable def Fo:Dn->Out:=(Ic 2 A6)
noncomputable def Bv:Dn->Out:=(jE 1 (K5 (fun δ=>((B5 (A1 (A0 0) A6) P1) δ).bind C9) (st1 3) (B7 (D5 4 (Bh 1 (b2 (A0 3) (vC (.int 3)) dIx) I9)) (Cg 2 (E7 (A1 (b2 (A0 3) (vC (.int 2)) dIx) (A1 (A0 4) (A1 (vFn (A1 (A0 4) (A1 (Bh 1 (b2 (A0 3) (vC (.int 4)) dIx) I9) A6)) aY) A6))))))))
noncomputable def Fm:Dn->Out:=(sFz 2 (F6 (A0 2)))
noncomputable def Hv:Dn->Out:=(B7 Bw (B7 Fo (B7 Bv Fm)))
noncomputable def C6:List wF->Res wF:=fnD T5 Hv
noncomputable def Dr:List Str:=["marks", "name", "mark"]
noncomputable def Eg:Dn->Out:=(B7 (K5 (fun δ=>((A0 0) δ).bind C9) (st1 2) (sIf (B4 (b2 (b2 (A0 2) (vC (.int 0)) dIx) (A0 1) dEq)) (F6 (A0 2)) E1)) sNo)
noncomputable def N1:List wF->Res wF:=fnD Dr Eg
noncomputable def Ph:List Str:=["book", "name", "mark"]
noncomputable def Nl:Dn->Out:=(B7 (D5 2 (B5 (A1 (B5 (A1 (A0 0) A6) C6) (A1 (A0 1) A6)) N1)) (F6 (Vj (B5 (A1 (A0 0) A6) F4) (T7 (b2 (A0 2) (vC (.int 1)) dIx)) (T7 (b2 (A0 2) (vC (.int 2)) dIx)))))
noncomputable def Q5:List wF->Res wF:=fnD Ph Nl
noncomputable def Y6:List Str:=["marks", "begin", "end"]
noncomputable def Bl:Dn->Out:=(F6 (F5 (E2 (fun δ=>((A0 0) δ).bind C9) E4 [1,2] (M1 (B4 (b2 (b2 (A0 0) (vC (.int 1)) dIx) (A0 1) (E9 .LtE))) (B4 (b2 (A0 2) (b2 (A0 0) (vC (.int 2)) dIx) (E9 .LtE)))) (b2 (A0 0) (vC (.int 0)) dIx))))
noncomputable def F7:List wF->Res wF:=fnD Y6 Bl
noncomputable def Hh:List Str:=["book", "place"]
noncomputable def Hu:Dn->Out:=(B7 (sIf (Ct (B4 (Mc (vC (.int 0)) (A0 1) (vFn (A1 (B5 (A1 (A0 0) A6) F4) A6) Q8) (E9 .LtE) (E9 .Lt)))) sNo E1) (F6 (B5 (A1 (B5 (A1 (A0 0) A6) C6) (A1 (A0 1) (A1 (b2 (A0 1) (vC (.int 1)) C5) A6))) F7)))
noncomputable def T4:List wF->Res wF:=fnD Hh Hu
noncomputable def Kf:List Str:=["text", "marks", "begins", "ends"]
noncomputable def Kr:Dn->Out:=(B7 (De 2 (E2 (fun δ=>((A0 1) δ).bind C9) E4 [] L6 (b2 (A0 0) (vC (.int 1)) dIx))) (B7 (De 3 (E2 (fun δ=>((A0 1) δ).bind C9) E4 [] L6 (b2 (A0 0) (vC (.int 2)) dIx))) (F6 (vFn (A1 (b2 (b2 (F5 (A1 (vC (.int 0)) (A1 (vFn (A1 (A0 0) A6) Q8) A6))) (A0 2) C5) (A0 3) C5) A6) Eo))))
noncomputable def Cq:List wF->Res wF:=fnD Kf Kr
noncomputable def U8:List Str:=["book", "text", "marks", "cuts", "told", "number", "begin", "end"]
noncomputable def Kq:Dn->Out:=(D5 1 (B5 (A1 (A0 0) A6) F4))
noncomputable def Kp:Dn->Out:=(D5 2 (B5 (A1 (A0 0) A6) C6))
noncomputable def Ko:Dn->Out:=(D5 3 (B5 (A1 (A0 1) (A1 (A0 2) A6)) Cq))
noncomputable def Kn:Dn->Out:=(Ic 4 A6)
noncomputable def Eb:Dn->Out:=(K5 (fun δ=>((A1 (b2 (vFn (A1 (A0 3) A6) Q8) (vC (.int 1)) Uw) A6) δ).bind Ih) (st1 5) (B7 (D5 6 (b2 (A0 3) (A0 5) dIx)) (B7 (D5 7 (b2 (A0 3) (b2 (A0 5) (vC (.int 1)) C5) dIx)) (Cg 4 (E7 (A1 (Vj (A0 1) (T7 (A0 6)) (T7 (A0 7))) (A1 (B5 (A1 (A0 2) (A1 (A0 6) (A1 (A0 7) A6))) F7) A6)))))))
noncomputable def Km:Dn->Out:=(sFz 4 (F6 (A0 4)))
noncomputable def Nk:Dn->Out:=(B7 Kq (B7 Kp (B7 Ko (B7 Kn (B7 Eb Km)))))
noncomputable def Q4:List wF->Res wF:=fnD U8 Nk
noncomputable def Hi:List Str:=["book", "told", "begin", "piece", "end"]
noncomputable def Rm:Dn->Out:=(Ic 1 A6)
noncomputable def Rl:Dn->Out:=(D5 2 (vC (.int 0)))
noncomputable def Ja:Dn->Out:=(K5 (fun δ=>((B5 (A1 (A0 0) A6) Q4) δ).bind C9) (st1 3) (B7 (D5 4 (b2 (A0 2) (vFn (A1 (b2 (A0 3) (vC (.int 0)) dIx) A6) Q8) C5)) (B7 (sIf (cFz 1 (M1 (Ct (B4 (b2 (A0 3) (vC (.int 1)) dIx))) (M1 (B4 (A0 1)) (B4 (b2 (b2 (b2 (A0 1) (b1 (vC (.int 1)) Jw) dIx) (vC (.int 1)) dIx) (A0 2) dEq))))) (Rr 1 (b1 (vC (.int 1)) Jw) (gZ 1 (E7 (A1 (b2 (b2 (A0 1) (b1 (vC (.int 1)) Jw) dIx) (vC (.int 0)) dIx) (A1 (A0 4) A6))))) (sIf (Ct (B4 (b2 (A0 3) (vC (.int 1)) dIx))) (Cg 1 (E7 (A1 (A0 2) (A1 (A0 4) A6)))) E1)) (D5 2 (A0 4)))))
noncomputable def Rk:Dn->Out:=(sFz 1 (F6 (A0 1)))
noncomputable def Wq:Dn->Out:=(B7 Rm (B7 Rl (B7 Ja Rk)))
noncomputable def Jq:List wF->Res wF:=fnD Hi Wq
noncomputable def Vg:List Str:=["mark", "other"]
noncomputable def Rp:Dn->Out:=(F6 (Pj (b2 (b2 (A0 1) (vC (.int 1)) dIx) (b2 (A0 1) (vC (.int 2)) dIx) (E9 .Lt)) (Pj (b2 (b2 (A0 0) (vC (.int 1)) dIx) (b2 (A0 1) (vC (.int 1)) dIx) (E9 .LtE)) (b2 (b2 (A0 1) (vC (.int 2)) dIx) (b2 (A0 0) (vC (.int 2)) dIx) (E9 .LtE)))))
noncomputable def U6:List wF->Res wF:=fnD Vg Rp
noncomputable def Vh:List Str:=["mark", "other"]
noncomputable def Rq:Dn->Out:=(B7 (sIf (cOr (B4 (B5 (A1 (A0 0) (A1 (A0 1) A6)) U6)) (B4 (B5 (A1 (A0 1) (A1 (A0 0) A6)) U6))) (F6 (vC (.bool false))) E1) (F6 (b2 (vFn (A1 (b2 (A0 0) (vC (.int 1)) dIx) (A1 (b2 (A0 1) (vC (.int 1)) dIx) A6)) aY) (vFn (A1 (b2 (A0 0) (vC (.int 2)) dIx) (A1 (b2 (A0 1) (vC (.int 2)) dIx) A6)) mE) (E9 .Lt))))
noncomputable def Dj:List wF->Res wF:=fnD Vh Rq
noncomputable def T6:List Str:=["book", "marks", "told", "mark"]
noncomputable def Fv:Dn->Out:=(D5 1 (B5 (A1 (A0 0) A6) C6))
noncomputable def Fu:Dn->Out:=(Ic 2 A6)
noncomputable def Bx:Dn->Out:=(K5 (fun δ=>((A0 1) δ).bind C9) (st1 3) (Wy 2 (E2 (fun δ=>((A0 1) δ).bind C9) E4 [3] (M1 (B4 (b2 (b2 (A0 1) (vC (.int 0)) dIx) (b2 (A0 0) (vC (.int 0)) dIx) (E9 .Lt))) (B4 (B5 (A1 (A0 1) (A1 (A0 0) A6)) Dj))) (E7 (A1 (b2 (A0 1) (vC (.int 0)) dIx) (A1 (b2 (A0 0) (vC (.int 0)) dIx) A6))))))
noncomputable def Ft:Dn->Out:=(sFz 2 (F6 (A0 2)))
noncomputable def Hx:Dn->Out:=(B7 Fv (B7 Fu (B7 Bx Ft)))
noncomputable def V7:List wF->Res wF:=fnD T6 Hx
noncomputable def V9:List Str:=["book", "name", "marks", "outer"]
noncomputable def Fs:Dn->Out:=(D5 2 (B5 (A1 (A0 0) A6) C6))
noncomputable def Fq:Dn->Out:=(D5 3 (B5 (A1 (A0 2) (A1 (A0 1) A6)) N1))
noncomputable def Fp:Dn->Out:=(F6 (F5 (E2 (fun δ=>((A0 2) δ).bind C9) E4 [1,3] (M1 (B4 (b2 (b2 (A0 0) (vC (.int 0)) dIx) (A0 1) dNe)) (B4 (B5 (A1 (A0 2) (A1 (A0 0) A6)) U6))) (b2 (A0 0) (vC (.int 0)) dIx))))
noncomputable def Hw:Dn->Out:=(B7 Fs (B7 Fq Fp))
noncomputable def K8:List wF->Res wF:=fnD V9 Hw
noncomputable def Be:List Str:=["book", "marks", "most"]
noncomputable def Kl:Dn->Out:=(D5 1 (B5 (A1 (A0 0) A6) C6))
noncomputable def Kk:Dn->Out:=(sIf (Ct (B4 (A0 1))) (F6 (vC .none)) E1)
noncomputable def Kj:Dn->Out:=(D5 2 (vFn (A1 (F5 (E2 (fun δ=>((A0 1) δ).bind C9) E4 [] L6 (b2 (b2 (A0 0) (vC (.int 2)) dIx) (b2 (A0 0) (vC (.int 1)) dIx) Uw))) A6) Sv))
noncomputable def Ki:Dn->Out:=(F6 (b2 (F5 (E2 (fun δ=>((A0 1) δ).bind C9) E4 [2] (B4 (b2 (b2 (b2 (A0 0) (vC (.int 2)) dIx) (b2 (A0 0) (vC (.int 1)) dIx) Uw) (A0 1) dEq)) (b2 (A0 0) (vC (.int 0)) dIx))) (vC (.int 0)) dIx))
noncomputable def Nj:Dn->Out:=(B7 Kl (B7 Kk (B7 Kj Ki)))
noncomputable def Q3:List wF->Res wF:=fnD Be Nj
noncomputable def Bq:List Str:=["_law_script", "_law_k"]
noncomputable def Cd:Dn->Out:=(B7 (sIf (B4 (b2 (A0 0) (F5 A6) dEq)) (F6 (b2 (vC (.int 7)) (A0 1) N2)) E1) (F6 (b2 (b2 (A0 0) (b2 (A0 1) (vFn (A1 (A0 0) A6) Q8) Qu) dIx) (b2 (vC (.int 6553)) (b2 (A0 1) (vFn (A1 (A0 0) A6) Q8) Kv) N2) C5)))
noncomputable def W9:List wF->Res wF:=fnD Bq Cd
noncomputable def Ac:List Str:=["_law_script", "_law_k", "_law_many", "_law_cell_here"]
noncomputable def Bb:Dn->Out:=(B7 (D5 3 (b2 (b2 (b2 (b2 (B5 (A1 (A0 0) (A1 (A0 1) A6)) W9) (vC (.int 2147483563)) Qu) (vC (.int 69069)) N2) (b2 (vC (.int 104723)) (b2 (A0 1) (vC (.int 1)) C5) N2) C5) (vC (.int 2147483563)) Qu)) (B7 (D5 3 (b2 (b2 (b2 (A0 3) (A0 3) N2) (b2 (A0 3) (vC (.int 3)) Kv) C5) (vC (.int 2147483399)) Qu)) (F6 (b2 (b2 (b2 (b2 (b2 (A0 3) (A0 3) N2) (b2 (A0 3) (vC (.int 7)) Kv) C5) (vC (.int 2147483647)) Qu) (vC (.int 11)) Kv) (A0 2) Qu))))
noncomputable def B0:List wF->Res wF:=fnD Ac Bb
noncomputable def N4:List Str:=["_law_script", "_law_at", "_law_found", "_law_k", "_law_word"]
noncomputable def Y1:Dn->Out:=(Ic 2 A6)
noncomputable def Y0:Dn->Out:=(K5 (fun δ=>((A1 (vC (.int 3)) A6) δ).bind Ih) (st1 3) (B7 (D5 4 (b2 (b2 (vC (.str "abcdefghijklmnopqrstuvwxyz")) (B5 (A1 (A0 0) (A1 (b2 (A0 1) (b2 (vC (.int 2)) (A0 3) N2) C5) (A1 (vC (.int 26)) A6))) B0) dIx) (B5 (A1 (A0 0) (A1 (b2 (b2 (A0 1) (b2 (vC (.int 2)) (A0 3) N2) C5) (vC (.int 1)) C5) (A1 (vC (.int 2)) A6))) B0) N2)) (Cg 2 (b2 (F5 (A1 (b2 (A0 4) (b2 (vC (.str "xyz")) (A0 3) dIx) C5) (A1 (b2 (b2 (vC (.str "xyz")) (A0 3) dIx) (A0 4) C5) A6))) (B5 (A1 (A0 0) (A1 (b2 (A0 1) (vC (.int 6)) C5) (A1 (vC (.int 2)) A6))) B0) dIx))))
noncomputable def X9:Dn->Out:=(sFz 2 (F6 (A0 2)))
noncomputable def Az:Dn->Out:=(B7 Y1 (B7 Y0 X9))
noncomputable def P4:List wF->Res wF:=fnD N4 Az
noncomputable def Aa:List Str:=["_law_script", "_law_at"]
noncomputable def Ax:Dn->Out:=(F6 (Cl "" (F5 (E2 (fun δ=>((A1 (b2 (vC (.int 1)) (B5 (A1 (A0 0) (A1 (b2 (A0 1) (vC (.int 4)) C5) (A1 (vC (.int 4)) A6))) B0) C5) A6) δ).bind Ih) E4 [0,1] L6 (b2 (vC (.str "ab cd~ <")) (B5 (A1 (A0 1) (A1 (b2 (A0 2) (A0 0) C5) (A1 (vC (.int 8)) A6))) B0) dIx)))))
noncomputable def P2:List wF->Res wF:=fnD Aa Ax
noncomputable def Ab:List Str:=["_law_book_here", "_law_found", "_law_deed_here"]
noncomputable def Ay:Dn->Out:=(B7 (D5 1 (F5 A6)) (B7 (K5 (fun δ=>((A0 0) δ).bind C9) (st1 2) (sIf (B4 (b2 (b2 (A0 2) (vC (.int 0)) dIx) (vC (.str "add")) dEq)) (D5 1 (b2 (A0 1) (F5 (E2 (fun δ=>((A1 (vFn (A1 (b2 (A0 2) (vC (.int 3)) dIx) A6) Q8) A6) δ).bind Ih) E4 [2] L6 (E7 (A1 (b2 (A0 1) (vC (.int 1)) dIx) (A1 (A0 0) A6))))) C5)) E1)) (F6 (A0 1))))
noncomputable def P3:List wF->Res wF:=fnD Ab Ay
noncomputable def W4:List Str:=["_law_script", "_law_at", "_law_signs_here", "_law_sign"]
noncomputable def Y4:Dn->Out:=(B7 (D5 3 (b2 (b2 (F5 (A1 (vC .none) A6)) (A0 2) C5) (B5 (A1 (A0 0) (A1 (A0 1) (A1 (b2 (vFn (A1 (A0 2) A6) Q8) (vC (.int 1)) C5) A6))) B0) dIx)) (F6 (E7 (A1 (A0 3) (A1 (b2 (vC (.str "lr")) (B5 (A1 (A0 0) (A1 (b2 (A0 1) (vC (.int 1)) C5) (A1 (vC (.int 2)) A6))) B0) dIx) A6)))))
noncomputable def M0:List wF->Res wF:=fnD W4 Y4
noncomputable def F8:List Str:=["_law_script", "_law_at", "_law_one", "_law_known", "_law_names_here", "_law_signs_here", "_law_way", "_law_behind", "_law_some", "_law_ends"]
noncomputable def An:Dn->Out:=(D5 5 (B5 (A1 (A0 3) A6) P3))
noncomputable def Am:Dn->Out:=(D5 6 (B5 (A1 (A0 0) (A1 (A0 1) (A1 (vC (.int 12)) A6))) B0))
noncomputable def Al:Dn->Out:=(sIf (M1 (B4 (b2 (A0 6) (vC (.int 2)) (E9 .Lt))) (B4 (b2 (A0 5) (F5 A6) dNe))) (B7 (De 8 (E2 (fun δ=>((A1 (A0 5) A6) δ).bind Ou) O5 [0,1] (B4 (b2 (B5 (A1 (A0 2) (A1 (b2 (b2 (A0 3) (vC (.int 20)) C5) (A0 0) C5) (A1 (vC (.int 4)) A6))) B0) (vC (.int 0)) dEq)) (A0 1))) (F6 (E7 (A1 (vC (.str "drop")) (A1 (A0 2) (A1 (vFn (A1 (b2 (A0 8) (b2 (vSl (A0 5) Og (T7 (vC (.int 1)))) (vFn (A1 (b2 (A0 8) (F5 A6) dEq) A6) Ku) N2) C5) A6) Gd) A6)))))) E1)
noncomputable def Ak:Dn->Out:=(sIf (B4 (b2 (A0 6) (vC (.int 5)) (E9 .Lt))) (B7 (D5 9 (E7 (A1 (B5 (A1 (A0 0) (A1 (b2 (A0 1) (vC (.int 1)) C5) (A1 (A0 5) A6))) M0) (A1 (B5 (A1 (A0 0) (A1 (b2 (A0 1) (vC (.int 3)) C5) (A1 (A0 5) A6))) M0) A6)))) (F6 (b2 (E7 (A1 (vC (.str "mark")) (A1 (A0 2) (A1 (b2 (A0 4) (B5 (A1 (A0 0) (A1 (b2 (A0 1) (vC (.int 5)) C5) (A1 (vC (.int 3)) A6))) B0) dIx) A6)))) (A0 9) C5))) E1)
noncomputable def Aj:Dn->Out:=(sIf (B4 (b2 (A0 6) (vC (.int 5)) dEq)) (F6 (E7 (A1 (vC (.str "unmark")) (A1 (A0 2) (A1 (b2 (A0 4) (B5 (A1 (A0 0) (A1 (b2 (A0 1) (vC (.int 5)) C5) (A1 (vC (.int 3)) A6))) B0) dIx) A6))))) E1)
noncomputable def Ai:Dn->Out:=(sIf (M1 (B4 (b2 (A0 6) (vC (.int 8)) (E9 .Lt))) (B4 (b2 (A0 3) (E7 A6) dNe))) (F6 (E7 (A1 (vC (.str "undo")) (A1 (A0 2) (A1 (b2 (b2 (A0 3) (B5 (A1 (A0 0) (A1 (b2 (A0 1) (vC (.int 6)) C5) (A1 (vFn (A1 (A0 3) A6) Q8) A6))) B0) dIx) (vC (.int 1)) dIx) A6))))) E1)
noncomputable def Ah:Dn->Out:=(D5 7 (b2 (b2 (b2 (F5 (A1 (vC .none) A6)) (A0 5) C5) (vSl (A0 5) (T7 (b1 (vC (.int 3)) Jw)) Og) C5) (B5 (A1 (A0 0) (A1 (b2 (A0 1) (vC (.int 7)) C5) (A1 (b2 (b2 (vFn (A1 (A0 5) A6) Q8) (vC (.int 1)) C5) (vFn (A1 (vSl (A0 5) (T7 (b1 (vC (.int 3)) Jw)) Og) A6) Q8) C5) A6))) B0) dIx))
noncomputable def Ag:Dn->Out:=(F6 (E7 (A1 (vC (.str "add")) (A1 (A0 2) (A1 (A0 7) (A1 (B5 (A1 (A0 0) (A1 (b2 (A0 1) (vC (.int 8)) C5) A6)) P2) A6))))))
noncomputable def Cc:Dn->Out:=(B7 An (B7 Am (B7 Al (B7 Ak (B7 Aj (B7 Ai (B7 Ah Ag)))))))
noncomputable def M8:List wF->Res wF:=fnD F8 Cc
noncomputable def M9:List Str:=["_law_script", "_law_at", "_law_most", "_law_names_here", "_law_found", "_law_one", "_law_k", "_law_time", "_law_hand", "_law_known"]
noncomputable def Ar:Dn->Out:=(D5 4 (E7 A6))
noncomputable def Aq:Dn->Out:=(D5 5 (E7 (A1 (vC (.int 1)) (A1 (vC (.str "a")) A6))))
noncomputable def Ap:Dn->Out:=(K5 (fun δ=>((A1 (B5 (A1 (A0 0) (A1 (A0 1) (A1 (b2 (A0 2) (vC (.int 1)) C5) A6))) B0) A6) δ).bind Ih) (st1 6) (B7 (D5 7 (b2 (b2 (A0 5) (vC (.int 0)) dIx) (B5 (A1 (A0 0) (A1 (b2 (b2 (A0 1) (vC (.int 1)) C5) (b2 (vC (.int 60)) (A0 6) N2) C5) (A1 (vC (.int 2)) A6))) B0) C5)) (B7 (D5 8 (b2 (vC (.str "abc")) (B5 (A1 (A0 0) (A1 (b2 (b2 (A0 1) (vC (.int 2)) C5) (b2 (vC (.int 60)) (A0 6) N2) C5) (A1 (vC (.int 3)) A6))) B0) dIx)) (B7 (sIf (M1 (B4 (b2 (A0 4) (E7 A6) dNe)) (B4 (b2 (E7 (A1 (A0 7) (A1 (A0 8) A6))) (A0 5) (E9 .LtE)))) (D5 7 (b2 (b2 (A0 5) (vC (.int 0)) dIx) (vC (.int 1)) C5)) E1) (B7 (D5 5 (E7 (A1 (A0 7) (A1 (A0 8) A6)))) (B7 (D5 9 (vFn (A1 (F5 (E2 (fun δ=>((A0 4) δ).bind C9) E4 [7] (B4 (b2 (b2 (b2 (A0 0) (vC (.int 1)) dIx) (vC (.int 0)) dIx) (A0 1) (E9 .Lt))) (A0 0))) A6) Gd)) (D5 4 (b2 (A0 4) (E7 (A1 (B5 (A1 (A0 0) (A1 (b2 (b2 (A0 1) (vC (.int 3)) C5) (b2 (vC (.int 60)) (A0 6) N2) C5) (A1 (A0 5) (A1 (A0 9) (A1 (A0 3) A6))))) M8) A6)) C5))))))))
noncomputable def Ao:Dn->Out:=(F6 (A0 4))
noncomputable def Ce:Dn->Out:=(B7 Ar (B7 Aq (B7 Ap Ao)))
noncomputable def X0:List wF->Res wF:=fnD M9 Ce
noncomputable def D6:List Str:=["_law_told", "_law_one", "_law_other", "_law_crossed", "_law_inner_one", "_law_inner_other", "_law_both", "_law_mine", "_law_yours", "_law_left"]
noncomputable def Y9:Dn->Out:=(De 6 (E2 (fun δ=>((A0 0) δ).bind C9) O5 [1,2] (M1 (B4 (b2 (A0 2) (A0 1) (dIn false))) (B4 (b2 (A0 3) (A0 1) (dIn false)))) (A0 0)))
noncomputable def Y8:Dn->Out:=(De 7 (E2 (fun δ=>((A0 0) δ).bind C9) O5 [1,2] (M1 (B4 (b2 (A0 2) (A0 1) (dIn false))) (B4 (b2 (A0 3) (A0 1) (dIn true)))) (A0 0)))
noncomputable def Y7:Dn->Out:=(De 8 (E2 (fun δ=>((A0 0) δ).bind C9) O5 [1,2] (M1 (B4 (b2 (A0 2) (A0 1) (dIn true))) (B4 (b2 (A0 3) (A0 1) (dIn false)))) (A0 0)))
noncomputable def Q0:Dn->Out:=(sIf (M1 (B4 (b2 (A0 1) (A0 2) (E9 .Lt))) (B4 (b2 (b2 (E7 (A1 (A0 1) (A1 (A0 2) A6))) (A0 3) (dIn false)) (Pj (b2 (A0 6) (F5 A6) dNe) (Pj (b2 (A0 7) (F5 A6) dNe) (b2 (A0 8) (F5 A6) dNe))) dNe))) (F6 (vC (.bool false))) E1)
noncomputable def P9:Dn->Out:=(sIf (B4 (b2 (b2 (A0 2) (A0 4) (dIn false)) (Pj (b2 (A0 6) (F5 A6) dNe) (b2 (A0 8) (F5 A6) dEq)) dNe)) (F6 (vC (.bool false))) E1)
noncomputable def P8:Dn->Out:=(De 9 (E2 (fun δ=>((A0 5) δ).bind C9) E4 [4,1] (B4 (b2 (A0 0) (b2 (A0 1) (F5 (A1 (A0 2) A6)) C5) (dIn true))) (A0 0)))
noncomputable def P7:Dn->Out:=(F6 (vOr (b2 (A0 2) (A0 4) (dIn true)) (b2 (A0 9) (F5 A6) dEq)))
noncomputable def Ba:Dn->Out:=(B7 Y9 (B7 Y8 (B7 Y7 (B7 Q0 (B7 P9 (B7 P8 P7))))))
noncomputable def E8:List wF->Res wF:=fnD D6 Ba
noncomputable def Z4:List Str:=["_law_script", "_law_book_here", "_law_text", "_law_told", "_law_place", "_law_free", "_law_piece", "_law_names_here", "_law_crossed", "_law_one", "_law_letter", "_law_other"]
noncomputable def Vv:Dn->Out:=(D5 1 (B5 (A1 (A0 0) (A1 (vC (.int 10)) (A1 (vC (.int 10)) (A1 (B5 (A1 (A0 0) (A1 (vC (.int 0)) A6)) P4) A6)))) X0))
noncomputable def Vu:Dn->Out:=(D5 2 (B5 (A1 (A0 1) A6) F4))
noncomputable def Vt:Dn->Out:=(D5 3 (B5 (A1 (A0 1) A6) Q4))
noncomputable def Ml:Dn->Out:=(sIf (cOr (B4 (b2 (Cl "" (F5 (E2 (fun δ=>((A0 3) δ).bind C9) O5 [] L6 (A0 0)))) (A0 2) dNe)) (B4 (b2 (F5 (E2 (fun δ=>((A0 3) δ).bind C9) O5 [] (B4 (b2 (A0 0) (vC (.str "")) dEq)) (A0 0))) (F5 A6) dNe))) (F6 (vC (.bool false))) E1)
noncomputable def Vs:Dn->Out:=(D5 4 (vC (.int 0)))
noncomputable def Vr:Dn->Out:=(D5 5 (vC (.str "")))
noncomputable def Mk:Dn->Out:=(K5 (fun δ=>((A0 3) δ).bind C9) (st2 6 7) (B7 (K5 (fun δ=>((A0 6) δ).bind C9) (st1 10) (B7 (sIf (B4 (b2 (B5 (A1 (A0 1) (A1 (A0 4) A6)) T4) (A0 7) dNe)) (F6 (vC (.bool false))) E1) (D5 4 (b2 (A0 4) (vC (.int 1)) C5)))) (D5 5 (b2 (A0 5) (b2 (A0 6) (vFn (A1 (b2 (A0 7) (F5 A6) dEq) A6) Ku) N2) C5))))
noncomputable def Mj:Dn->Out:=(sIf (B4 (b2 (Cl "" (F5 (E2 (fun δ=>((B5 (A1 (A0 1) A6) Jq) δ).bind C9) O5 [2] L6 (Vj (A0 2) (T7 (A0 0)) (T7 (A0 1)))))) (A0 5) dNe)) (F6 (vC (.bool false))) E1)
noncomputable def Mi:Dn->Out:=(De 7 (E2 (fun δ=>((B5 (A1 (A0 1) A6) C6) δ).bind C9) E4 [] L6 (b2 (A0 0) (vC (.int 0)) dIx)))
noncomputable def Vq:Dn->Out:=(D5 8 (B5 (A1 (A0 1) A6) V7))
noncomputable def Iz:Dn->Out:=(K5 (fun δ=>((A0 7) δ).bind C9) (st1 9) (B7 (sIf (B4 (b2 (Cl "" (F5 (E2 (fun δ=>((A0 3) δ).bind C9) O5 [9] (B4 (b2 (A0 2) (A0 1) (dIn false))) (A0 0)))) (B5 (A1 (A0 1) (A1 (A0 9) A6)) Q5) dNe)) (F6 (vC (.bool false))) E1) (K5 (fun δ=>((F5 (E2 (fun δ=>((A0 7) δ).bind C9) E4 [9] (B4 (b2 (A0 0) (A0 1) dNe)) (A0 0))) δ).bind C9) (st1 11) (sIf (Ct (B4 (B5 (A1 (A0 3) (A1 (A0 9) (A1 (A0 11) (A1 (A0 8) (A1 (B5 (A1 (A0 1) (A1 (A0 9) A6)) K8) (A1 (B5 (A1 (A0 1) (A1 (A0 11) A6)) K8) A6)))))) E8))) (F6 (vC (.bool false))) E1))))
noncomputable def Iy:Dn->Out:=(sIf (B4 (b2 (A0 7) (F5 A6) dEq)) (F6 (b1 (B5 (A1 (A0 1) A6) Q3) fun d=>some (.bool (aS d)))) E1)
noncomputable def Ix:Dn->Out:=(F6 (b2 (vFn (A1 (F5 (E2 (fun δ=>((A0 7) δ).bind C9) E4 [1] L6 (vFn (A1 (B5 (A1 (A0 1) (A1 (A0 0) A6)) Q5) A6) Q8))) A6) Sv) (vFn (A1 (B5 (A1 (A0 1) (A1 (B5 (A1 (A0 1) A6) Q3) A6)) Q5) A6) Q8) dEq))
noncomputable def bX:Dn->Out:=(B7 Vv (B7 Vu (B7 Vt (B7 Ml (B7 Vs (B7 Vr (B7 Mk (B7 Mj (B7 Mi (B7 Vq (B7 Iz (B7 Iy Ix))))))))))))
noncomputable def cV:List wF->Res wF:=fnD Z4 bX
end Sm
end
noncomputable section
namespace Sm
open PySem PySem.Spec PyProof.Rows L2
variable {P:xN} {w:xT} {K:wM} {mg:Str->Option wI} {base:yQ} {X:Cx}
theorem Nm:FnScope Q9 ["deed"] (A3 (top 2)):=⟨rfl,rfl,rfl,by decide +kernel,rfl,by decide +kernel,by decide +kernel⟩
theorem Jx  (T:Txt mg) (C:Cxt P w K mg base X Q9 (A3 (top 2)) 0 true):DSs X E0k (B3 (top 2)) S9 :=
 (B6 (E5 (qL (Iw C (C7 (A2 C 0 ⋯) A8) Q7) (Bc C ⋯ T.b_len (A4 (C7 (A2 C 0 ⋯) A8) A9)) A8)))
theorem Np:FnScope W3 ["book"] (A3 (top 8)):=⟨rfl,rfl,rfl,by decide +kernel,rfl,by decide +kernel,by decide +kernel⟩
theorem Jz  (T:Txt mg) (F_signs_added:Fn P w K mg base "signs_added" 1 1 F2) (C:Cxt P w K mg base X W3 (A3 (top 8)) 1 true):DSN X E0k (B3 (top 8)) Y3 :=
 (Ci (Ia C 1 ⋯) (Ci (s_grp C 1 2 ⋯ ⋯ (F3 (A2 C 0 ⋯)) (t_gt C (C1 C F_signs_added (by decide) ⋯ (A4 (A2 C 2 ⋯) A9)) A8) (C7 (A2 C 2 ⋯) A8) (A2 C 2 ⋯) ⟨rfl,rfl,rfl,rfl⟩ (fun _=>rfl) rfl rfl rfl rfl rfl rfl) (cS C 1 ⋯)))
theorem Wr:FnScope N3 ["book"] (A3 (top 9)):=⟨rfl,rfl,rfl,by decide +kernel,rfl,by decide +kernel,by decide +kernel⟩
theorem Pt  (T:Txt mg) (F_adds_behind:FnN P w K mg base "adds_behind" 2 1 N7) (C:Cxt P w K mg base X N3 (A3 (top 9)) 2 true):DS X E0k (stm 9 0) Bu :=
 (Nt C 1 ⋯ (Uf C F_adds_behind (by decide) ⋯ (A4 (A2 C 0 ⋯) A9)))
theorem Ps  (T:Txt mg) (C:Cxt P w K mg base X N3 (A3 (top 9)) 2 true):DS X E0k (stm 9 1) Bt :=
 (aF C 2 ⋯ ⋯ [] [] ⋯ (F3 (mC C 1 ⋯ Ox (F9 (M7 A9)))) (fun X' C'=>X5) (fun X' C'=>(L0 (A4 (A2 C' 0 ⋯) (A4 A8 A9)))))
theorem Pp  (T:Txt mg) (C:Cxt P w K mg base X N3 (A3 (top 9)) 2 true):DS X E0k (stm 9 2) Fl :=
 (Nu C 3 ⋯ (M7 A9))
theorem Po  (T:Txt mg) (C:Cxt P w K mg base X N3 (A3 (top 9)) 2 true):DS X E0k (stm 9 3) Bs :=
 (nM C (t_own C 2 ⋯) (A7 (s_pop C 2 4 ⋯ ⋯) (A7 (E3 C 5 ⋯ (C7 (A2 C 4 ⋯) A8)) (A7 (E3 C 6 ⋯ (C7 (A2 C 4 ⋯) A8)) (A7 (E3 C 7 ⋯ (L0 (A4 (C7 (A2 C 5 ⋯) A8) (A4 (A2 C 6 ⋯) A9)))) (A7 (Nv C 3 ⋯ (L0 (A4 (A2 C 7 ⋯) (A4 (C7 (C7 (A2 C 5 ⋯) A8) (A2 C 6 ⋯)) A9)))) (A7 (W5 (Zw C (D4 (A2 C 6 ⋯) A8) (Bc C ⋯ T.b_len (A4 (C7 (A2 C 5 ⋯) A8) A9))) (B6 (Nv C 2 ⋯ (L0 (A4 (A2 C 5 ⋯) (A4 (D4 (A2 C 6 ⋯) A8) A9))))) I8) (B6 (rO C 2 ⋯ (N8 C [] [] ⋯ (F3 (mC C 1 ⋯ (A2 C 7 ⋯) (F9 (M7 A9)))) (fun X' C'=>X5) (fun X' C'=>(L0 (A4 (A2 C' 0 ⋯) (A4 A8 A9))))))))))))))
theorem Pn  (T:Txt mg) (C:Cxt P w K mg base X N3 (A3 (top 9)) 2 true):DS X E0k (stm 9 4) Fk :=
 (aG 3 (E5 (A2 C 3 ⋯)))
theorem Qw  (T:Txt mg) (F_adds_behind:FnN P w K mg base "adds_behind" 2 1 N7) (C:Cxt P w K mg base X N3 (A3 (top 9)) 2 true):DSs X E0k (B3 (top 9)) Cz:=by
 have h:B3 (top 9)=[stm 9 0,stm 9 1,stm 9 2,stm 9 3,stm 9 4]:=by kernel_rfl
 rw [h];exact (A7 (Pt T F_adds_behind C) (A7 (Ps T C) (A7 (Pp T C) (A7 (Po T C) (B6 (Pn T C))))))
theorem Tt:FnScope Bo ["book"] (A3 (top 10)):=⟨rfl,rfl,rfl,by decide +kernel,rfl,by decide +kernel,by decide +kernel⟩
theorem Pc  (T:Txt mg) (C:Cxt P w K mg base X Bo (A3 (top 10)) 0 true):DSN X E0k (B3 (top 10)) Ca :=
 (Ci (Ia C 1 ⋯) (Ci (O1 C 2 ⋯ (i_rev C ⋯ T.b_reversed (A2 C 0 ⋯)) (B6 (W5 (w_t (Af (Iw C (C7 (A2 C 2 ⋯) A8) Q7) (U2 (Mh C 1 ⋯ (C7 (A2 C 2 ⋯) A8))))) (B6 (Nr C 1 ⋯ (C7 (A2 C 2 ⋯) A8) Cj)) I8))) (cS C 1 ⋯)))
theorem Qi:FnScope Z9 ["book", "undone"] (A3 (top 11)):=⟨rfl,rfl,rfl,by decide +kernel,rfl,by decide +kernel,by decide +kernel⟩
theorem Li  (T:Txt mg) (C:Cxt P w K mg base X Z9 (A3 (top 11)) 0 true):DSN X E0k (B3 (top 11)) Aw :=
 (Ci (Ia C 2 ⋯) (Ci (O1 C 3 ⋯ (F3 (A2 C 0 ⋯)) (B6 (W5 (w_t (Af (Iw C (C7 (A2 C 3 ⋯) A8) Q7) (U2 (Mh C 1 ⋯ (C7 (A2 C 3 ⋯) A8))))) (B6 (O1 C 4 ⋯ (F3 (C7 (A2 C 3 ⋯) A8)) (B6 (Nr C 2 ⋯ (A2 C 4 ⋯) Cj)))) I8))) (cS C 2 ⋯)))
theorem Nn:FnScope G9 ["book"] (A3 (top 12)):=⟨rfl,rfl,rfl,by decide +kernel,rfl,by decide +kernel,by decide +kernel⟩
theorem Jg  (T:Txt mg) (F_undone_in:FnN P w K mg base "undone_in" 1 1 K1) (C:Cxt P w K mg base X G9 (A3 (top 12)) 3 true):DS X E0k (stm 12 0) V2 :=
 (Nt C 1 ⋯ (Uf C F_undone_in (by decide) ⋯ (A4 (A2 C 0 ⋯) A9)))
theorem Jf  (T:Txt mg) (F_dropped_in:FnSN P w K mg base "dropped_in" 1 2 L4) (C:Cxt P w K mg base X G9 (A3 (top 12)) 3 true):DS X E0k (stm 12 1) V1 :=
 (rN 1 (Nt C 2 ⋯ (kN C F_dropped_in (by decide) ⋯ (A2 C 0 ⋯) 1 ⋯)))
theorem Je  (T:Txt mg) (C:Cxt P w K mg base X G9 (A3 (top 12)) 3 true):DS X E0k (stm 12 2) Cn :=
 (Nu C 3 ⋯ (M7 A9))
theorem Jd  (T:Txt mg) (F_signs_of:Fn P w K mg base "signs_of" 3 1 V5) (C:Cxt P w K mg base X G9 (A3 (top 12)) 3 true):DS X E0k (stm 12 3) O6 :=
 (O1 C 4 ⋯ (F3 (C1 C F_signs_of (by decide) ⋯ (A4 (A2 C 0 ⋯) A9))) (B6 (Nv C 3 ⋯ (L0 (A4 (A2 C 4 ⋯) (A4 (Ss (Yp C 1 ⋯ (C7 (C7 (A2 C 4 ⋯) A8) A8)) (Yo (Yp C 2 ⋯ (C7 (A2 C 4 ⋯) A8)))) A9))))))
theorem Jc  (T:Txt mg) (C:Cxt P w K mg base X G9 (A3 (top 12)) 3 true):DS X E0k (stm 12 4) Cm :=
 (aG 3 (E5 (A2 C 3 ⋯)))
theorem Jy  (T:Txt mg) (F_dropped_in:FnSN P w K mg base "dropped_in" 1 2 L4) (F_signs_of:Fn P w K mg base "signs_of" 3 1 V5) (F_undone_in:FnN P w K mg base "undone_in" 1 1 K1) (C:Cxt P w K mg base X G9 (A3 (top 12)) 3 true):DSs X E0k (B3 (top 12)) Y2:=by
 have h:B3 (top 12)=[stm 12 0,stm 12 1,stm 12 2,stm 12 3,stm 12 4]:=by kernel_rfl
 rw [h];exact (A7 (Jg T F_undone_in C) (A7 (Jf T F_dropped_in C) (A7 (Je T C) (A7 (Jd T F_signs_of C) (B6 (Jc T C))))))
theorem Ws:FnScope Dq ["book"] (A3 (top 13)):=⟨rfl,rfl,rfl,by decide +kernel,rfl,by decide +kernel,by decide +kernel⟩
theorem Qx  (T:Txt mg) (F_presence_in:Fn P w K mg base "presence_in" 4 1 K2) (C:Cxt P w K mg base X Dq (A3 (top 13)) 4 true):DSs X E0k (B3 (top 13)) Da :=
 (B6 (E5 (F9 (N8 C [] [] ⋯ (F3 (C1 C F_presence_in (by decide) ⋯ (A4 (A2 C 0 ⋯) A9))) (fun X' C'=>(T0 (Ea (C7 (A2 C' 0 ⋯) A8)))) (fun X' C'=>(C7 (A2 C' 0 ⋯) A8))))))
theorem aD:FnScope Ez ["book"] (A3 (top 14)):=⟨rfl,rfl,rfl,by decide +kernel,rfl,by decide +kernel,by decide +kernel⟩
theorem Ve  (T:Txt mg) (F_shown_in:Fn P w K mg base "shown_in" 5 1 V6) (C:Cxt P w K mg base X Ez (A3 (top 14)) 5 true):DSs X E0k (B3 (top 14)) Ef :=
 (B6 (E5 (Oy (F9 (N8 C [] [] ⋯ (F3 (C1 C F_shown_in (by decide) ⋯ (A4 (A2 C 0 ⋯) A9))) (fun X' C'=>X5) (fun X' C'=>(C7 (A2 C' 0 ⋯) A8)))))))
theorem Tu:FnScope Bp ["book"] (A3 (top 16)):=⟨rfl,rfl,rfl,by decide +kernel,rfl,by decide +kernel,by decide +kernel⟩
theorem Pd  (T:Txt mg) (F_presence_in:Fn P w K mg base "presence_in" 4 1 K2) (C:Cxt P w K mg base X Bp (A3 (top 16)) 4 true):DSN X E0k (B3 (top 16)) Cb :=
 (Ci (Ia C 1 ⋯) (Ci (E3 C 2 ⋯ A8) (Ci (O1 C 3 ⋯ (F3 (C1 C F_presence_in (by decide) ⋯ (A4 (A2 C 0 ⋯) A9))) (A7 (E3 C 4 ⋯ (A2 C 2 ⋯)) (A7 (W5 (Ea (C7 (A2 C 3 ⋯) A8)) (B6 (E3 C 2 ⋯ (D4 (A2 C 4 ⋯) A8))) I8) (B6 (Nr C 1 ⋯ (C7 (C7 (A2 C 3 ⋯) A8) A8) (L0 (A4 (A2 C 2 ⋯) (A4 (A2 C 4 ⋯) A9)))))))) (Ci (Nr C 1 ⋯ Ox (L0 (A4 A8 (A4 (A2 C 2 ⋯) A9)))) (cS C 1 ⋯)))))
theorem Wx:FnScope Ds ["places", "anchor"] (A3 (top 17)):=⟨rfl,rfl,rfl,by decide +kernel,rfl,by decide +kernel,by decide +kernel⟩
theorem Rc  (T:Txt mg) (C:Cxt P w K mg base X Ds (A3 (top 17)) 0 true):DSs X E0k (B3 (top 17)) Db :=
 (B6 (E5 (C7 (lY C 0 ⋯ (C7 (A2 C 1 ⋯) A8)) (mB (qM (z := "lr") C ⋯ T.c_SIDES) (C7 (A2 C 1 ⋯) A8)))))
theorem Qh:FnScope L8 ["book"] (A3 (top 18)):=⟨rfl,rfl,rfl,by decide +kernel,rfl,by decide +kernel,by decide +kernel⟩
theorem Lb  (T:Txt mg) (F_undone_in:FnN P w K mg base "undone_in" 1 1 K1) (C:Cxt P w K mg base X L8 (A3 (top 18)) 1 true):DS X E0k (stm 18 0) X8 :=
 (Nt C 1 ⋯ (Uf C F_undone_in (by decide) ⋯ (A4 (A2 C 0 ⋯) A9)))
theorem La  (T:Txt mg) (C:Cxt P w K mg base X L8 (A3 (top 18)) 1 true):DS X E0k (stm 18 1) Dt :=
 (Ia C 2 ⋯)
theorem Kz  (T:Txt mg) (C:Cxt P w K mg base X L8 (A3 (top 18)) 1 true):DS X E0k (stm 18 2) X7 :=
 (O1 C 3 ⋯ (F3 (A2 C 0 ⋯)) (B6 (W5 (w_t (Af (eE C (C7 (A2 C 3 ⋯) A8) (L0 (A4 Q7 (A4 Q7 A9)))) (U2 (Mh C 1 ⋯ (C7 (A2 C 3 ⋯) A8))))) (B6 (Nr C 2 ⋯ (C7 (A2 C 3 ⋯) A8) (A2 C 3 ⋯))) I8)))
theorem Ky  (T:Txt mg) (C:Cxt P w K mg base X L8 (A3 (top 18)) 1 true):DS X E0k (stm 18 3) X6 :=
 (E5 (F9 (N8 C [2] ["last"] ⋯ (F3 (qI C ⋯ T.b_sorted 2 ⋯)) (fun X' C'=>(T0 (Iw C' (C7 (lY C' 1 ⋯ (A2 C' 0 ⋯)) A8) Q7))) (fun X' C'=>(lY C' 1 ⋯ (A2 C' 0 ⋯))))))
theorem Lh  (T:Txt mg) (F_undone_in:FnN P w K mg base "undone_in" 1 1 K1) (C:Cxt P w K mg base X L8 (A3 (top 18)) 1 true):DSs X E0k (B3 (top 18)) Av:=by
 have h:B3 (top 18)=[stm 18 0,stm 18 1,stm 18 2,stm 18 3]:=by kernel_rfl
 rw [h];exact (A7 (Lb T F_undone_in C) (A7 (La T C) (A7 (Kz T C) (B6 (Ky T C)))))
theorem Wu:FnScope T5 ["book"] (A3 (top 19)):=⟨rfl,rfl,rfl,by decide +kernel,rfl,by decide +kernel,by decide +kernel⟩
theorem Px  (T:Txt mg) (F_places_in:FnN P w K mg base "places_in" 5 1 T8) (C:Cxt P w K mg base X T5 (A3 (top 19)) 5 true):DS X E0k (stm 19 0) Bw :=
 (Nt C 1 ⋯ (Uf C F_places_in (by decide) ⋯ (A4 (A2 C 0 ⋯) A9)))
theorem Pw  (T:Txt mg) (C:Cxt P w K mg base X T5 (A3 (top 19)) 5 true):DS X E0k (stm 19 1) Fo :=
 (Nu C 2 ⋯ (M7 A9))
theorem Pv  (T:Txt mg) (F_anchored:FnS P w K mg base "anchored" 1 2 I9) (F_mark_deeds:Fn P w K mg base "mark_deeds" 2 1 P1) (C:Cxt P w K mg base X T5 (A3 (top 19)) 5 true):DS X E0k (stm 19 2) Bv :=
 (rN 1 (O1 C 3 ⋯ (F3 (C1 C F_mark_deeds (by decide) ⋯ (A4 (A2 C 0 ⋯) A9))) (A7 (E3 C 4 ⋯ (Ys C F_anchored (by decide) ⋯ 1 ⋯ (C7 (A2 C 3 ⋯) A8))) (B6 (Nv C 2 ⋯ (L0 (A4 (C7 (A2 C 3 ⋯) A8) (A4 (A2 C 4 ⋯) (A4 (sC C ⋯ T.b_max (A4 (A2 C 4 ⋯) (A4 (Ys C F_anchored (by decide) ⋯ 1 ⋯ (C7 (A2 C 3 ⋯) A8)) A9))) A9)))))))))
theorem Pu  (T:Txt mg) (C:Cxt P w K mg base X T5 (A3 (top 19)) 5 true):DS X E0k (stm 19 3) Fm :=
 (aG 2 (E5 (A2 C 2 ⋯)))
theorem Qz  (T:Txt mg) (F_anchored:FnS P w K mg base "anchored" 1 2 I9) (F_mark_deeds:Fn P w K mg base "mark_deeds" 2 1 P1) (F_places_in:FnN P w K mg base "places_in" 5 1 T8) (C:Cxt P w K mg base X T5 (A3 (top 19)) 5 true):DSs X E0k (B3 (top 19)) Hv:=by
 have h:B3 (top 19)=[stm 19 0,stm 19 1,stm 19 2,stm 19 3]:=by kernel_rfl
 rw [h];exact (A7 (Px T F_places_in C) (A7 (Pw T C) (A7 (Pv T F_anchored F_mark_deeds C) (B6 (Pu T C)))))
theorem Qg:FnScope Dr ["marks", "name"] (A3 (top 20)):=⟨rfl,rfl,rfl,by decide +kernel,rfl,by decide +kernel,by decide +kernel⟩
theorem Lg  (T:Txt mg) (C:Cxt P w K mg base X Dr (A3 (top 20)) 0 true):DSs X E0k (B3 (top 20)) Eg :=
 (A7 (O1 C 2 ⋯ (F3 (A2 C 0 ⋯)) (B6 (W5 (Iw C (C7 (A2 C 2 ⋯) A8) (A2 C 1 ⋯)) (B6 (E5 (A2 C 2 ⋯))) I8))) (B6 s_no))
theorem eW:FnScope Ph ["book", "name"] (A3 (top 21)):=⟨rfl,rfl,rfl,by decide +kernel,rfl,by decide +kernel,by decide +kernel⟩
theorem Zh  (T:Txt mg) (F_mark_named:Fn P w K mg base "mark_named" 1 2 N1) (F_marks_of:Fn P w K mg base "marks_of" 6 1 C6) (F_text_of:Fn P w K mg base "text_of" 6 1 F4) (C:Cxt P w K mg base X Ph (A3 (top 21)) 6 true):DSs X E0k (B3 (top 21)) Nl :=
 (A7 (E3 C 2 ⋯ (C1 C F_mark_named (by decide) ⋯ (A4 (C1 C F_marks_of (by decide) ⋯ (A4 (A2 C 0 ⋯) A9)) (A4 (A2 C 1 ⋯) A9)))) (B6 (E5 (Ow (C1 C F_text_of (by decide) ⋯ (A4 (A2 C 0 ⋯) A9)) (Dh (C7 (A2 C 2 ⋯) A8)) (Dh (C7 (A2 C 2 ⋯) A8))))))
theorem Jh:FnScope Y6 ["marks", "begin", "end"] (A3 (top 22)):=⟨rfl,rfl,rfl,by decide +kernel,rfl,by decide +kernel,by decide +kernel⟩
theorem Hb  (T:Txt mg) (C:Cxt P w K mg base X Y6 (A3 (top 22)) 0 true):DSs X E0k (B3 (top 22)) Bl :=
 (B6 (E5 (F9 (N8 C [1,2] ["begin", "end"] ⋯ (F3 (A2 C 0 ⋯)) (fun X' C'=>(T0 (w_t (Af (sK C' (C7 (A2 C' 0 ⋯) A8) (A2 C' 1 ⋯)) (U2 (sK C' (A2 C' 2 ⋯) (C7 (A2 C' 0 ⋯) A8))))))) (fun X' C'=>(C7 (A2 C' 0 ⋯) A8))))))
theorem Wt:FnScope Hh ["book", "place"] (A3 (top 23)):=⟨rfl,rfl,rfl,by decide +kernel,rfl,by decide +kernel,by decide +kernel⟩
theorem Qy  (T:Txt mg) (F_marks_of:Fn P w K mg base "marks_of" 6 1 C6) (F_names_holding:Fn P w K mg base "names_holding" 1 3 F7) (F_text_of:Fn P w K mg base "text_of" 6 1 F4) (C:Cxt P w K mg base X Hh (A3 (top 23)) 6 true):DSs X E0k (B3 (top 23)) Hu :=
 (A7 (W5 (Vo (Vp C A8 (A2 C 1 ⋯) (Bc C ⋯ T.b_len (A4 (C1 C F_text_of (by decide) ⋯ (A4 (A2 C 0 ⋯) A9)) A9)))) (B6 s_no) I8) (B6 (E5 (C1 C F_names_holding (by decide) ⋯ (A4 (C1 C F_marks_of (by decide) ⋯ (A4 (A2 C 0 ⋯) A9)) (A4 (A2 C 1 ⋯) (A4 (D4 (A2 C 1 ⋯) A8) A9)))))))
theorem aE:FnScope Kf ["text", "marks"] (A3 (top 25)):=⟨rfl,rfl,rfl,by decide +kernel,rfl,by decide +kernel,by decide +kernel⟩
theorem Vf  (T:Txt mg) (C:Cxt P w K mg base X Kf (A3 (top 25)) 0 true):DSs X E0k (B3 (top 25)) Kr :=
 (A7 (Dd C 2 ⋯ ⋯ [] [] ⋯ (F3 (A2 C 1 ⋯)) (fun X' C'=>X5) (fun X' C'=>(C7 (A2 C' 0 ⋯) A8))) (A7 (Dd C 3 ⋯ ⋯ [] [] ⋯ (F3 (A2 C 1 ⋯)) (fun X' C'=>X5) (fun X' C'=>(C7 (A2 C' 0 ⋯) A8))) (B6 (E5 (gJ C ⋯ T.b_sorted ⋯ T.b_set (A4 (D4 (D4 (F9 (M7 (A4 A8 (A4 (Bc C ⋯ T.b_len (A4 (A2 C 0 ⋯) A9)) A9)))) (A2 C 2 ⋯)) (A2 C 3 ⋯)) A9))))))
theorem eV:FnScope U8 ["book"] (A3 (top 26)):=⟨rfl,rfl,rfl,by decide +kernel,rfl,by decide +kernel,by decide +kernel⟩
theorem Wm  (T:Txt mg) (F_text_of:Fn P w K mg base "text_of" 6 1 F4) (C:Cxt P w K mg base X U8 (A3 (top 26)) 6 true):DS X E0k (stm 26 0) Kq :=
 (E3 C 1 ⋯ (C1 C F_text_of (by decide) ⋯ (A4 (A2 C 0 ⋯) A9)))
theorem Wl  (T:Txt mg) (F_marks_of:Fn P w K mg base "marks_of" 6 1 C6) (C:Cxt P w K mg base X U8 (A3 (top 26)) 6 true):DS X E0k (stm 26 1) Kp :=
 (E3 C 2 ⋯ (C1 C F_marks_of (by decide) ⋯ (A4 (A2 C 0 ⋯) A9)))
theorem Wj  (T:Txt mg) (F_cuts_of:Fn P w K mg base "cuts_of" 1 2 Cq) (C:Cxt P w K mg base X U8 (A3 (top 26)) 6 true):DS X E0k (stm 26 2) Ko :=
 (E3 C 3 ⋯ (C1 C F_cuts_of (by decide) ⋯ (A4 (A2 C 1 ⋯) (A4 (A2 C 2 ⋯) A9))))
theorem Wi  (T:Txt mg) (C:Cxt P w K mg base X U8 (A3 (top 26)) 6 true):DS X E0k (stm 26 3) Kn :=
 (Nu C 4 ⋯ (M7 A9))
theorem Wh  (T:Txt mg) (F_names_holding:Fn P w K mg base "names_holding" 1 3 F7) (C:Cxt P w K mg base X U8 (A3 (top 26)) 6 true):DS X E0k (stm 26 4) Eb :=
 (O1 C 5 ⋯ (El C ⋯ T.b_range (A4 (lW (Bc C ⋯ T.b_len (A4 (A2 C 3 ⋯) A9)) A8) A9)) (A7 (E3 C 6 ⋯ (C7 (A2 C 3 ⋯) (A2 C 5 ⋯))) (A7 (E3 C 7 ⋯ (C7 (A2 C 3 ⋯) (D4 (A2 C 5 ⋯) A8))) (B6 (Nv C 4 ⋯ (L0 (A4 (Ow (A2 C 1 ⋯) (Dh (A2 C 6 ⋯)) (Dh (A2 C 7 ⋯))) (A4 (C1 C F_names_holding (by decide) ⋯ (A4 (A2 C 2 ⋯) (A4 (A2 C 6 ⋯) (A4 (A2 C 7 ⋯) A9)))) A9))))))))
theorem Wg  (T:Txt mg) (C:Cxt P w K mg base X U8 (A3 (top 26)) 6 true):DS X E0k (stm 26 5) Km :=
 (aG 4 (E5 (A2 C 4 ⋯)))
theorem Zg  (T:Txt mg) (F_cuts_of:Fn P w K mg base "cuts_of" 1 2 Cq) (F_marks_of:Fn P w K mg base "marks_of" 6 1 C6) (F_names_holding:Fn P w K mg base "names_holding" 1 3 F7) (F_text_of:Fn P w K mg base "text_of" 6 1 F4) (C:Cxt P w K mg base X U8 (A3 (top 26)) 6 true):DSs X E0k (B3 (top 26)) Nk:=by
 have h:B3 (top 26)=[stm 26 0,stm 26 1,stm 26 2,stm 26 3,stm 26 4,stm 26 5]:=by kernel_rfl
 rw [h];exact (A7 (Wm T F_text_of C) (A7 (Wl T F_marks_of C) (A7 (Wj T F_cuts_of C) (A7 (Wi T C) (A7 (Wh T F_names_holding C) (B6 (Wg T C)))))))
theorem nL:FnScope Hi ["book"] (A3 (top 27)):=⟨rfl,rfl,rfl,by decide +kernel,rfl,by decide +kernel,by decide +kernel⟩
theorem eN  (T:Txt mg) (C:Cxt P w K mg base X Hi (A3 (top 27)) 7 true):DS X E0k (stm 27 0) Rm :=
 (Nu C 1 ⋯ (M7 A9))
theorem eM  (T:Txt mg) (C:Cxt P w K mg base X Hi (A3 (top 27)) 7 true):DS X E0k (stm 27 1) Rl :=
 (E3 C 2 ⋯ A8)
theorem eL  (T:Txt mg) (F_pieces:Fn P w K mg base "pieces" 7 1 Q4) (C:Cxt P w K mg base X Hi (A3 (top 27)) 7 true):DS X E0k (stm 27 2) Ja :=
 (O1 C 3 ⋯ (F3 (C1 C F_pieces (by decide) ⋯ (A4 (A2 C 0 ⋯) A9))) (A7 (E3 C 4 ⋯ (D4 (A2 C 2 ⋯) (Bc C ⋯ T.b_len (A4 (C7 (A2 C 3 ⋯) A8) A9)))) (A7 (W5 (sJ 1 (w_t (Af (Vo (Ea (C7 (A2 C 3 ⋯) A8))) (Af (Ea (A2 C 1 ⋯)) (U2 (Iw C (C7 (C7 (A2 C 1 ⋯) (Yq A8)) A8) (A2 C 2 ⋯))))))) (B6 (sU C 1 ⋯ (Yq A8) (qH 1 (L0 (A4 (C7 (C7 (A2 C 1 ⋯) (Yq A8)) A8) (A4 (A2 C 4 ⋯) A9)))))) (B6 (W5 (Vo (Ea (C7 (A2 C 3 ⋯) A8))) (B6 (Nv C 1 ⋯ (L0 (A4 (A2 C 2 ⋯) (A4 (A2 C 4 ⋯) A9))))) I8))) (B6 (E3 C 2 ⋯ (A2 C 4 ⋯))))))
theorem eK  (T:Txt mg) (C:Cxt P w K mg base X Hi (A3 (top 27)) 7 true):DS X E0k (stm 27 3) Rk :=
 (aG 1 (E5 (A2 C 1 ⋯)))
theorem gS  (T:Txt mg) (F_pieces:Fn P w K mg base "pieces" 7 1 Q4) (C:Cxt P w K mg base X Hi (A3 (top 27)) 7 true):DSs X E0k (B3 (top 27)) Wq:=by
 have h:B3 (top 27)=[stm 27 0,stm 27 1,stm 27 2,stm 27 3]:=by kernel_rfl
 rw [h];exact (A7 (eN T C) (A7 (eM T C) (A7 (eL T F_pieces C) (B6 (eK T C)))))
theorem iY:FnScope Vg ["mark", "other"] (A3 (top 28)):=⟨rfl,rfl,rfl,by decide +kernel,rfl,by decide +kernel,by decide +kernel⟩
theorem bI  (T:Txt mg) (C:Cxt P w K mg base X Vg (A3 (top 28)) 0 true):DSs X E0k (B3 (top 28)) Rp :=
 (B6 (E5 (Ss (d_lt C (C7 (A2 C 1 ⋯) A8) (C7 (A2 C 1 ⋯) A8)) (Ss (d_le C (C7 (A2 C 0 ⋯) A8) (C7 (A2 C 1 ⋯) A8)) (Yo (d_le C (C7 (A2 C 1 ⋯) A8) (C7 (A2 C 0 ⋯) A8)))))))
theorem iZ:FnScope Vh ["mark", "other"] (A3 (top 29)):=⟨rfl,rfl,rfl,by decide +kernel,rfl,by decide +kernel,by decide +kernel⟩
theorem bJ  (T:Txt mg) (F_holds:Fn P w K mg base "holds" 1 2 U6) (C:Cxt P w K mg base X Vh (A3 (top 29)) 1 true):DSs X E0k (B3 (top 29)) Rq :=
 (A7 (W5 (w_t (w_or (Ea (C1 C F_holds (by decide) ⋯ (A4 (A2 C 0 ⋯) (A4 (A2 C 1 ⋯) A9)))) (rG (Ea (C1 C F_holds (by decide) ⋯ (A4 (A2 C 1 ⋯) (A4 (A2 C 0 ⋯) A9))))))) (B6 (E5 Cj)) I8) (B6 (E5 (d_lt C (sC C ⋯ T.b_max (A4 (C7 (A2 C 0 ⋯) A8) (A4 (C7 (A2 C 1 ⋯) A8) A9))) (d_min C ⋯ T.b_min (A4 (C7 (A2 C 0 ⋯) A8) (A4 (C7 (A2 C 1 ⋯) A8) A9)))))))
theorem Ww:FnScope T6 ["book"] (A3 (top 30)):=⟨rfl,rfl,rfl,by decide +kernel,rfl,by decide +kernel,by decide +kernel⟩
theorem Qe  (T:Txt mg) (F_marks_of:Fn P w K mg base "marks_of" 6 1 C6) (C:Cxt P w K mg base X T6 (A3 (top 30)) 6 true):DS X E0k (stm 30 0) Fv :=
 (E3 C 1 ⋯ (C1 C F_marks_of (by decide) ⋯ (A4 (A2 C 0 ⋯) A9)))
theorem Qd  (T:Txt mg) (C:Cxt P w K mg base X T6 (A3 (top 30)) 6 true):DS X E0k (stm 30 1) Fu :=
 (Nu C 2 ⋯ (M7 A9))
theorem Qc  (T:Txt mg) (F_cross:Fn P w K mg base "cross" 2 2 Dj) (C:Cxt P w K mg base X T6 (A3 (top 30)) 6 true):DS X E0k (stm 30 2) Bx :=
 (O1 C 3 ⋯ (F3 (A2 C 1 ⋯)) (B6 (rO C 2 ⋯ (N8 C [3] ["mark"] ⋯ (F3 (A2 C 1 ⋯)) (fun X' C'=>(T0 (w_t (Af (Zw C' (C7 (A2 C' 1 ⋯) A8) (C7 (A2 C' 0 ⋯) A8)) (U2 (Ea (C1 C' F_cross (by decide) ⋯ (A4 (A2 C' 1 ⋯) (A4 (A2 C' 0 ⋯) A9))))))))) (fun X' C'=>(L0 (A4 (C7 (A2 C' 1 ⋯) A8) (A4 (C7 (A2 C' 0 ⋯) A8) A9))))))))
theorem Qb  (T:Txt mg) (C:Cxt P w K mg base X T6 (A3 (top 30)) 6 true):DS X E0k (stm 30 3) Ft :=
 (aG 2 (E5 (A2 C 2 ⋯)))
theorem Rb  (T:Txt mg) (F_cross:Fn P w K mg base "cross" 2 2 Dj) (F_marks_of:Fn P w K mg base "marks_of" 6 1 C6) (C:Cxt P w K mg base X T6 (A3 (top 30)) 6 true):DSs X E0k (B3 (top 30)) Hx:=by
 have h:B3 (top 30)=[stm 30 0,stm 30 1,stm 30 2,stm 30 3]:=by kernel_rfl
 rw [h];exact (A7 (Qe T F_marks_of C) (A7 (Qd T C) (A7 (Qc T F_cross C) (B6 (Qb T C)))))
theorem Wv:FnScope V9 ["book", "name"] (A3 (top 31)):=⟨rfl,rfl,rfl,by decide +kernel,rfl,by decide +kernel,by decide +kernel⟩
theorem Qa  (T:Txt mg) (F_marks_of:Fn P w K mg base "marks_of" 6 1 C6) (C:Cxt P w K mg base X V9 (A3 (top 31)) 6 true):DS X E0k (stm 31 0) Fs :=
 (E3 C 2 ⋯ (C1 C F_marks_of (by decide) ⋯ (A4 (A2 C 0 ⋯) A9)))
theorem Pz  (T:Txt mg) (F_mark_named:Fn P w K mg base "mark_named" 1 2 N1) (C:Cxt P w K mg base X V9 (A3 (top 31)) 6 true):DS X E0k (stm 31 1) Fq :=
 (E3 C 3 ⋯ (C1 C F_mark_named (by decide) ⋯ (A4 (A2 C 2 ⋯) (A4 (A2 C 1 ⋯) A9))))
theorem Py  (T:Txt mg) (F_holds:Fn P w K mg base "holds" 1 2 U6) (C:Cxt P w K mg base X V9 (A3 (top 31)) 6 true):DS X E0k (stm 31 2) Fp :=
 (E5 (F9 (N8 C [1,3] ["name", "outer"] ⋯ (F3 (A2 C 2 ⋯)) (fun X' C'=>(T0 (w_t (Af (Kx C' (C7 (A2 C' 0 ⋯) A8) (A2 C' 1 ⋯)) (U2 (Ea (C1 C' F_holds (by decide) ⋯ (A4 (A2 C' 2 ⋯) (A4 (A2 C' 0 ⋯) A9))))))))) (fun X' C'=>(C7 (A2 C' 0 ⋯) A8)))))
theorem Ra  (T:Txt mg) (F_holds:Fn P w K mg base "holds" 1 2 U6) (F_mark_named:Fn P w K mg base "mark_named" 1 2 N1) (F_marks_of:Fn P w K mg base "marks_of" 6 1 C6) (C:Cxt P w K mg base X V9 (A3 (top 31)) 6 true):DSs X E0k (B3 (top 31)) Hw:=by
 have h:B3 (top 31)=[stm 31 0,stm 31 1,stm 31 2]:=by kernel_rfl
 rw [h];exact (A7 (Qa T F_marks_of C) (A7 (Pz T F_mark_named C) (B6 (Py T F_holds C))))
theorem eU:FnScope Be ["book"] (A3 (top 32)):=⟨rfl,rfl,rfl,by decide +kernel,rfl,by decide +kernel,by decide +kernel⟩
theorem We  (T:Txt mg) (F_marks_of:Fn P w K mg base "marks_of" 6 1 C6) (C:Cxt P w K mg base X Be (A3 (top 32)) 6 true):DS X E0k (stm 32 0) Kl :=
 (E3 C 1 ⋯ (C1 C F_marks_of (by decide) ⋯ (A4 (A2 C 0 ⋯) A9)))
theorem Wd  (T:Txt mg) (C:Cxt P w K mg base X Be (A3 (top 32)) 6 true):DS X E0k (stm 32 1) Kk :=
 (W5 (Vo (Ea (A2 C 1 ⋯))) (B6 (E5 Ox)) I8)
theorem Wc  (T:Txt mg) (C:Cxt P w K mg base X Be (A3 (top 32)) 6 true):DS X E0k (stm 32 2) Kj :=
 (E3 C 2 ⋯ (lX C ⋯ T.b_max (A4 (F9 (N8 C [] [] ⋯ (F3 (A2 C 1 ⋯)) (fun X' C'=>X5) (fun X' C'=>(lW (C7 (A2 C' 0 ⋯) A8) (C7 (A2 C' 0 ⋯) A8))))) A9)))
theorem Wb  (T:Txt mg) (C:Cxt P w K mg base X Be (A3 (top 32)) 6 true):DS X E0k (stm 32 3) Ki :=
 (E5 (C7 (F9 (N8 C [2] ["most"] ⋯ (F3 (A2 C 1 ⋯)) (fun X' C'=>(T0 (Iw C' (lW (C7 (A2 C' 0 ⋯) A8) (C7 (A2 C' 0 ⋯) A8)) (A2 C' 1 ⋯)))) (fun X' C'=>(C7 (A2 C' 0 ⋯) A8)))) A8))
theorem Zf  (T:Txt mg) (F_marks_of:Fn P w K mg base "marks_of" 6 1 C6) (C:Cxt P w K mg base X Be (A3 (top 32)) 6 true):DSs X E0k (B3 (top 32)) Nj:=by
 have h:B3 (top 32)=[stm 32 0,stm 32 1,stm 32 2,stm 32 3]:=by kernel_rfl
 rw [h];exact (A7 (We T F_marks_of C) (A7 (Wd T C) (A7 (Wc T C) (B6 (Wb T C)))))
theorem Tw:FnScope Bq ["_law_script", "_law_k"] (A3 (top 34)):=⟨rfl,rfl,rfl,by decide +kernel,rfl,by decide +kernel,by decide +kernel⟩
theorem Pf  (T:Txt mg) (C:Cxt P w K mg base X Bq (A3 (top 34)) 0 true):DSs X E0k (B3 (top 34)) Cd :=
 (A7 (W5 (Iw C (A2 C 0 ⋯) (F9 (M7 A9))) (B6 (E5 (Bn A8 (A2 C 1 ⋯)))) I8) (B6 (E5 (D4 (C7 (A2 C 0 ⋯) (Sq (A2 C 1 ⋯) (Bc C ⋯ T.b_len (A4 (A2 C 0 ⋯) A9)))) (Bn A8 (Uv (A2 C 1 ⋯) (Bc C ⋯ T.b_len (A4 (A2 C 0 ⋯) A9))))))))
theorem Qm:FnScope Ac ["_law_script", "_law_k", "_law_many"] (A3 (top 35)):=⟨rfl,rfl,rfl,by decide +kernel,rfl,by decide +kernel,by decide +kernel⟩
theorem Lm  (T:Txt mg) (F__law_cell:Fn P w K mg base "_law_cell" 1 2 W9) (C:Cxt P w K mg base X Ac (A3 (top 35)) 1 true):DSs X E0k (B3 (top 35)) Bb :=
 (A7 (E3 C 3 ⋯ (Sq (D4 (Bn (Sq (C1 C F__law_cell (by decide) ⋯ (A4 (A2 C 0 ⋯) (A4 (A2 C 1 ⋯) A9))) A8) A8) (Bn A8 (D4 (A2 C 1 ⋯) A8))) A8)) (A7 (E3 C 3 ⋯ (Sq (D4 (Bn (A2 C 3 ⋯) (A2 C 3 ⋯)) (Uv (A2 C 3 ⋯) A8)) A8)) (B6 (E5 (Sq (Uv (Sq (D4 (Bn (A2 C 3 ⋯) (A2 C 3 ⋯)) (Uv (A2 C 3 ⋯) A8)) A8) A8) (A2 C 2 ⋯))))))
theorem Ql:FnScope N4 ["_law_script", "_law_at"] (A3 (top 36)):=⟨rfl,rfl,rfl,by decide +kernel,rfl,by decide +kernel,by decide +kernel⟩
theorem Le  (T:Txt mg) (C:Cxt P w K mg base X N4 (A3 (top 36)) 2 true):DS X E0k (stm 36 0) Y1 :=
 (Nu C 2 ⋯ (M7 A9))
theorem Ld  (T:Txt mg) (F__law_drawn:Fn P w K mg base "_law_drawn" 2 3 B0) (C:Cxt P w K mg base X N4 (A3 (top 36)) 2 true):DS X E0k (stm 36 1) Y0 :=
 (O1 C 3 ⋯ (El C ⋯ T.b_range (A4 A8 A9)) (A7 (E3 C 4 ⋯ (Bn (C7 Q7 (C1 C F__law_drawn (by decide) ⋯ (A4 (A2 C 0 ⋯) (A4 (D4 (A2 C 1 ⋯) (Bn A8 (A2 C 3 ⋯))) (A4 A8 A9))))) (C1 C F__law_drawn (by decide) ⋯ (A4 (A2 C 0 ⋯) (A4 (D4 (D4 (A2 C 1 ⋯) (Bn A8 (A2 C 3 ⋯))) A8) (A4 A8 A9)))))) (B6 (Nv C 2 ⋯ (C7 (F9 (M7 (A4 (D4 (A2 C 4 ⋯) (C7 Q7 (A2 C 3 ⋯))) (A4 (D4 (C7 Q7 (A2 C 3 ⋯)) (A2 C 4 ⋯)) A9)))) (C1 C F__law_drawn (by decide) ⋯ (A4 (A2 C 0 ⋯) (A4 (D4 (A2 C 1 ⋯) A8) (A4 A8 A9)))))))))
theorem Lc  (T:Txt mg) (C:Cxt P w K mg base X N4 (A3 (top 36)) 2 true):DS X E0k (stm 36 2) X9 :=
 (aG 2 (E5 (A2 C 2 ⋯)))
theorem Ll  (T:Txt mg) (F__law_drawn:Fn P w K mg base "_law_drawn" 2 3 B0) (C:Cxt P w K mg base X N4 (A3 (top 36)) 2 true):DSs X E0k (B3 (top 36)) Az:=by
 have h:B3 (top 36)=[stm 36 0,stm 36 1,stm 36 2]:=by kernel_rfl
 rw [h];exact (A7 (Le T C) (A7 (Ld T F__law_drawn C) (B6 (Lc T C))))
theorem Qj:FnScope Aa ["_law_script", "_law_at"] (A3 (top 37)):=⟨rfl,rfl,rfl,by decide +kernel,rfl,by decide +kernel,by decide +kernel⟩
theorem Lj  (T:Txt mg) (F__law_drawn:Fn P w K mg base "_law_drawn" 2 3 B0) (C:Cxt P w K mg base X Aa (A3 (top 37)) 2 true):DSs X E0k (B3 (top 37)) Ax :=
 (B6 (E5 (Oy (F9 (N8 C [0,1] ["_law_script", "_law_at"] ⋯ (El C ⋯ T.b_range (A4 (D4 A8 (C1 C F__law_drawn (by decide) ⋯ (A4 (A2 C 0 ⋯) (A4 (D4 (A2 C 1 ⋯) A8) (A4 A8 A9))))) A9)) (fun X' C'=>X5) (fun X' C'=>(C7 Q7 (C1 C' F__law_drawn (by decide) ⋯ (A4 (A2 C' 1 ⋯) (A4 (D4 (A2 C' 2 ⋯) (A2 C' 0 ⋯)) (A4 A8 A9)))))))))))
theorem Qk:FnScope Ab ["_law_book_here"] (A3 (top 38)):=⟨rfl,rfl,rfl,by decide +kernel,rfl,by decide +kernel,by decide +kernel⟩
theorem Lk  (T:Txt mg) (C:Cxt P w K mg base X Ab (A3 (top 38)) 0 true):DSs X E0k (B3 (top 38)) Ay :=
 (A7 (E3 C 1 ⋯ (F9 (M7 A9))) (A7 (O1 C 2 ⋯ (F3 (A2 C 0 ⋯)) (B6 (W5 (Iw C (C7 (A2 C 2 ⋯) A8) Q7) (B6 (E3 C 1 ⋯ (D4 (A2 C 1 ⋯) (F9 (N8 C [2] ["_law_deed_here"] ⋯ (El C ⋯ T.b_range (A4 (Bc C ⋯ T.b_len (A4 (C7 (A2 C 2 ⋯) A8) A9)) A9)) (fun X' C'=>X5) (fun X' C'=>(L0 (A4 (C7 (A2 C' 1 ⋯) A8) (A4 (A2 C' 0 ⋯) A9))))))))) I8))) (B6 (E5 (A2 C 1 ⋯)))))
theorem Nq:FnScope W4 ["_law_script", "_law_at", "_law_signs_here"] (A3 (top 39)):=⟨rfl,rfl,rfl,by decide +kernel,rfl,by decide +kernel,by decide +kernel⟩
theorem Ka  (T:Txt mg) (F__law_drawn:Fn P w K mg base "_law_drawn" 2 3 B0) (C:Cxt P w K mg base X W4 (A3 (top 39)) 2 true):DSs X E0k (B3 (top 39)) Y4 :=
 (A7 (E3 C 3 ⋯ (C7 (D4 (F9 (M7 (A4 Ox A9))) (A2 C 2 ⋯)) (C1 C F__law_drawn (by decide) ⋯ (A4 (A2 C 0 ⋯) (A4 (A2 C 1 ⋯) (A4 (D4 (Bc C ⋯ T.b_len (A4 (A2 C 2 ⋯) A9)) A8) A9)))))) (B6 (E5 (L0 (A4 (A2 C 3 ⋯) (A4 (C7 Q7 (C1 C F__law_drawn (by decide) ⋯ (A4 (A2 C 0 ⋯) (A4 (D4 (A2 C 1 ⋯) A8) (A4 A8 A9))))) A9))))))
theorem Tv:FnScope F8 ["_law_script", "_law_at", "_law_one", "_law_known", "_law_names_here"] (A3 (top 40)):=⟨rfl,rfl,rfl,by decide +kernel,rfl,by decide +kernel,by decide +kernel⟩
theorem Mw  (T:Txt mg) (F__law_signs:Fn P w K mg base "_law_signs" 1 1 P3) (C:Cxt P w K mg base X F8 (A3 (top 40)) 3 true):DS X E0k (stm 40 0) An :=
 (E3 C 5 ⋯ (C1 C F__law_signs (by decide) ⋯ (A4 (A2 C 3 ⋯) A9)))
theorem Mv  (T:Txt mg) (F__law_drawn:Fn P w K mg base "_law_drawn" 2 3 B0) (C:Cxt P w K mg base X F8 (A3 (top 40)) 3 true):DS X E0k (stm 40 1) Am :=
 (E3 C 6 ⋯ (C1 C F__law_drawn (by decide) ⋯ (A4 (A2 C 0 ⋯) (A4 (A2 C 1 ⋯) (A4 A8 A9)))))
theorem Mu  (T:Txt mg) (F__law_drawn:Fn P w K mg base "_law_drawn" 2 3 B0) (C:Cxt P w K mg base X F8 (A3 (top 40)) 3 true):DS X E0k (stm 40 2) Al :=
 (W5 (w_t (Af (Zw C (A2 C 6 ⋯) A8) (U2 (Kx C (A2 C 5 ⋯) (F9 (M7 A9)))))) (A7 (Dc C 8 ⋯ ⋯ [0,1] ["_law_script", "_law_at"] ⋯ (vD C ⋯ T.b_enumerate (A4 (A2 C 5 ⋯) A9)) (fun X' C'=>(T0 (Iw C' (C1 C' F__law_drawn (by decide) ⋯ (A4 (A2 C' 2 ⋯) (A4 (D4 (D4 (A2 C' 3 ⋯) A8) (A2 C' 0 ⋯)) (A4 A8 A9)))) A8))) (fun X' C'=>(A2 C' 1 ⋯))) (B6 (E5 (L0 (A4 Q7 (A4 (A2 C 2 ⋯) (A4 (lV C ⋯ T.b_tuple (A4 (D4 (A2 C 8 ⋯) (Bn (Uu (A2 C 5 ⋯) aL (Dh A8)) (lZ C ⋯ T.b_int (A4 (mD C (A2 C 8 ⋯) (F9 (M7 A9))) A9)))) A9)) A9))))))) I8)
theorem Mt  (T:Txt mg) (F__law_anchor:Fn P w K mg base "_law_anchor" 3 3 M0) (F__law_drawn:Fn P w K mg base "_law_drawn" 2 3 B0) (C:Cxt P w K mg base X F8 (A3 (top 40)) 3 true):DS X E0k (stm 40 3) Ak :=
 (W5 (Zw C (A2 C 6 ⋯) A8) (A7 (E3 C 9 ⋯ (L0 (A4 (C1 C F__law_anchor (by decide) ⋯ (A4 (A2 C 0 ⋯) (A4 (D4 (A2 C 1 ⋯) A8) (A4 (A2 C 5 ⋯) A9)))) (A4 (C1 C F__law_anchor (by decide) ⋯ (A4 (A2 C 0 ⋯) (A4 (D4 (A2 C 1 ⋯) A8) (A4 (A2 C 5 ⋯) A9)))) A9)))) (B6 (E5 (D4 (L0 (A4 Q7 (A4 (A2 C 2 ⋯) (A4 (C7 (A2 C 4 ⋯) (C1 C F__law_drawn (by decide) ⋯ (A4 (A2 C 0 ⋯) (A4 (D4 (A2 C 1 ⋯) A8) (A4 A8 A9))))) A9)))) (A2 C 9 ⋯))))) I8)
theorem Ms  (T:Txt mg) (F__law_drawn:Fn P w K mg base "_law_drawn" 2 3 B0) (C:Cxt P w K mg base X F8 (A3 (top 40)) 3 true):DS X E0k (stm 40 4) Aj :=
 (W5 (Iw C (A2 C 6 ⋯) A8) (B6 (E5 (L0 (A4 Q7 (A4 (A2 C 2 ⋯) (A4 (C7 (A2 C 4 ⋯) (C1 C F__law_drawn (by decide) ⋯ (A4 (A2 C 0 ⋯) (A4 (D4 (A2 C 1 ⋯) A8) (A4 A8 A9))))) A9)))))) I8)
theorem Mr  (T:Txt mg) (F__law_drawn:Fn P w K mg base "_law_drawn" 2 3 B0) (C:Cxt P w K mg base X F8 (A3 (top 40)) 3 true):DS X E0k (stm 40 5) Ai :=
 (W5 (w_t (Af (Zw C (A2 C 6 ⋯) A8) (U2 (Kx C (A2 C 3 ⋯) (L0 A9))))) (B6 (E5 (L0 (A4 Q7 (A4 (A2 C 2 ⋯) (A4 (C7 (C7 (A2 C 3 ⋯) (C1 C F__law_drawn (by decide) ⋯ (A4 (A2 C 0 ⋯) (A4 (D4 (A2 C 1 ⋯) A8) (A4 (Bc C ⋯ T.b_len (A4 (A2 C 3 ⋯) A9)) A9))))) A8) A9)))))) I8)
theorem Mq  (T:Txt mg) (F__law_drawn:Fn P w K mg base "_law_drawn" 2 3 B0) (C:Cxt P w K mg base X F8 (A3 (top 40)) 3 true):DS X E0k (stm 40 6) Ah :=
 (E3 C 7 ⋯ (C7 (D4 (D4 (F9 (M7 (A4 Ox A9))) (A2 C 5 ⋯)) (Uu (A2 C 5 ⋯) (Dh (Yq A8)) aL)) (C1 C F__law_drawn (by decide) ⋯ (A4 (A2 C 0 ⋯) (A4 (D4 (A2 C 1 ⋯) A8) (A4 (D4 (D4 (Bc C ⋯ T.b_len (A4 (A2 C 5 ⋯) A9)) A8) (Bc C ⋯ T.b_len (A4 (Uu (A2 C 5 ⋯) (Dh (Yq A8)) aL) A9))) A9))))))
theorem Mp  (T:Txt mg) (F__law_words:Fn P w K mg base "_law_words" 3 2 P2) (C:Cxt P w K mg base X F8 (A3 (top 40)) 3 true):DS X E0k (stm 40 7) Ag :=
 (E5 (L0 (A4 Q7 (A4 (A2 C 2 ⋯) (A4 (A2 C 7 ⋯) (A4 (C1 C F__law_words (by decide) ⋯ (A4 (A2 C 0 ⋯) (A4 (D4 (A2 C 1 ⋯) A8) A9))) A9))))))
theorem Pe  (T:Txt mg) (F__law_anchor:Fn P w K mg base "_law_anchor" 3 3 M0) (F__law_drawn:Fn P w K mg base "_law_drawn" 2 3 B0) (F__law_signs:Fn P w K mg base "_law_signs" 1 1 P3) (F__law_words:Fn P w K mg base "_law_words" 3 2 P2) (C:Cxt P w K mg base X F8 (A3 (top 40)) 3 true):DSs X E0k (B3 (top 40)) Cc:=by
 have h:B3 (top 40)=[stm 40 0,stm 40 1,stm 40 2,stm 40 3,stm 40 4,stm 40 5,stm 40 6,stm 40 7]:=by kernel_rfl
 rw [h];exact (A7 (Mw T F__law_signs C) (A7 (Mv T F__law_drawn C) (A7 (Mu T F__law_drawn C) (A7 (Mt T F__law_anchor F__law_drawn C) (A7 (Ms T F__law_drawn C) (A7 (Mr T F__law_drawn C) (A7 (Mq T F__law_drawn C) (B6 (Mp T F__law_words C)))))))))
theorem Tx:FnScope M9 ["_law_script", "_law_at", "_law_most", "_law_names_here"] (A3 (top 41)):=⟨rfl,rfl,rfl,by decide +kernel,rfl,by decide +kernel,by decide +kernel⟩
theorem Na  (T:Txt mg) (C:Cxt P w K mg base X M9 (A3 (top 41)) 4 true):DS X E0k (stm 41 0) Ar :=
 (E3 C 4 ⋯ (L0 A9))
theorem Mz  (T:Txt mg) (C:Cxt P w K mg base X M9 (A3 (top 41)) 4 true):DS X E0k (stm 41 1) Aq :=
 (E3 C 5 ⋯ (L0 (A4 A8 (A4 Q7 A9))))
theorem My  (T:Txt mg) (F__law_deed:Fn P w K mg base "_law_deed" 4 5 M8) (F__law_drawn:Fn P w K mg base "_law_drawn" 2 3 B0) (C:Cxt P w K mg base X M9 (A3 (top 41)) 4 true):DS X E0k (stm 41 2) Ap :=
 (O1 C 6 ⋯ (El C ⋯ T.b_range (A4 (C1 C F__law_drawn (by decide) ⋯ (A4 (A2 C 0 ⋯) (A4 (A2 C 1 ⋯) (A4 (D4 (A2 C 2 ⋯) A8) A9)))) A9)) (A7 (E3 C 7 ⋯ (D4 (C7 (A2 C 5 ⋯) A8) (C1 C F__law_drawn (by decide) ⋯ (A4 (A2 C 0 ⋯) (A4 (D4 (D4 (A2 C 1 ⋯) A8) (Bn A8 (A2 C 6 ⋯))) (A4 A8 A9)))))) (A7 (E3 C 8 ⋯ (C7 Q7 (C1 C F__law_drawn (by decide) ⋯ (A4 (A2 C 0 ⋯) (A4 (D4 (D4 (A2 C 1 ⋯) A8) (Bn A8 (A2 C 6 ⋯))) (A4 A8 A9)))))) (A7 (W5 (w_t (Af (Kx C (A2 C 4 ⋯) (L0 A9)) (U2 (sK C (L0 (A4 (A2 C 7 ⋯) (A4 (A2 C 8 ⋯) A9))) (A2 C 5 ⋯))))) (B6 (E3 C 7 ⋯ (D4 (C7 (A2 C 5 ⋯) A8) A8))) I8) (A7 (E3 C 5 ⋯ (L0 (A4 (A2 C 7 ⋯) (A4 (A2 C 8 ⋯) A9)))) (A7 (E3 C 9 ⋯ (lV C ⋯ T.b_tuple (A4 (F9 (N8 C [7] ["_law_time"] ⋯ (F3 (A2 C 4 ⋯)) (fun X' C'=>(T0 (Zw C' (C7 (C7 (A2 C' 0 ⋯) A8) A8) (A2 C' 1 ⋯)))) (fun X' C'=>(A2 C' 0 ⋯)))) A9))) (B6 (E3 C 4 ⋯ (D4 (A2 C 4 ⋯) (L0 (A4 (C1 C F__law_deed (by decide) ⋯ (A4 (A2 C 0 ⋯) (A4 (D4 (D4 (A2 C 1 ⋯) A8) (Bn A8 (A2 C 6 ⋯))) (A4 (A2 C 5 ⋯) (A4 (A2 C 9 ⋯) (A4 (A2 C 3 ⋯) A9)))))) A9)))))))))))
theorem Mx  (T:Txt mg) (C:Cxt P w K mg base X M9 (A3 (top 41)) 4 true):DS X E0k (stm 41 3) Ao :=
 (E5 (A2 C 4 ⋯))
theorem Pg  (T:Txt mg) (F__law_deed:Fn P w K mg base "_law_deed" 4 5 M8) (F__law_drawn:Fn P w K mg base "_law_drawn" 2 3 B0) (C:Cxt P w K mg base X M9 (A3 (top 41)) 4 true):DSs X E0k (B3 (top 41)) Ce:=by
 have h:B3 (top 41)=[stm 41 0,stm 41 1,stm 41 2,stm 41 3]:=by kernel_rfl
 rw [h];exact (A7 (Na T C) (A7 (Mz T C) (A7 (My T F__law_deed F__law_drawn C) (B6 (Mx T C)))))
theorem Hy:FnScope D6 ["_law_told", "_law_one", "_law_other", "_law_crossed", "_law_inner_one", "_law_inner_other"] (A3 (top 42)):=⟨rfl,rfl,rfl,by decide +kernel,rfl,by decide +kernel,by decide +kernel⟩
theorem Fg  (T:Txt mg) (C:Cxt P w K mg base X D6 (A3 (top 42)) 0 true):DS X E0k (stm 42 0) Y9 :=
 (Dc C 6 ⋯ ⋯ [1,2] ["_law_one", "_law_other"] ⋯ (F3 (A2 C 0 ⋯)) (fun X' C'=>(T0 (w_t (Af (eE C' (A2 C' 2 ⋯) (A2 C' 1 ⋯)) (U2 (eE C' (A2 C' 3 ⋯) (A2 C' 1 ⋯))))))) (fun X' C'=>(A2 C' 0 ⋯)))
theorem Ff  (T:Txt mg) (C:Cxt P w K mg base X D6 (A3 (top 42)) 0 true):DS X E0k (stm 42 1) Y8 :=
 (Dc C 7 ⋯ ⋯ [1,2] ["_law_one", "_law_other"] ⋯ (F3 (A2 C 0 ⋯)) (fun X' C'=>(T0 (w_t (Af (eE C' (A2 C' 2 ⋯) (A2 C' 1 ⋯)) (U2 (Tl C' (A2 C' 3 ⋯) (A2 C' 1 ⋯))))))) (fun X' C'=>(A2 C' 0 ⋯)))
theorem Fe  (T:Txt mg) (C:Cxt P w K mg base X D6 (A3 (top 42)) 0 true):DS X E0k (stm 42 2) Y7 :=
 (Dc C 8 ⋯ ⋯ [1,2] ["_law_one", "_law_other"] ⋯ (F3 (A2 C 0 ⋯)) (fun X' C'=>(T0 (w_t (Af (Tl C' (A2 C' 2 ⋯) (A2 C' 1 ⋯)) (U2 (eE C' (A2 C' 3 ⋯) (A2 C' 1 ⋯))))))) (fun X' C'=>(A2 C' 0 ⋯)))
theorem Fd  (T:Txt mg) (C:Cxt P w K mg base X D6 (A3 (top 42)) 0 true):DS X E0k (stm 42 3) Q0 :=
 (W5 (w_t (Af (Zw C (A2 C 1 ⋯) (A2 C 2 ⋯)) (U2 (Kx C (d_in C (L0 (A4 (A2 C 1 ⋯) (A4 (A2 C 2 ⋯) A9))) (A2 C 3 ⋯)) (Ss (qK C (A2 C 6 ⋯) (F9 (M7 A9))) (Ss (qK C (A2 C 7 ⋯) (F9 (M7 A9))) (Yo (qK C (A2 C 8 ⋯) (F9 (M7 A9)))))))))) (B6 (E5 Cj)) I8)
theorem Fc  (T:Txt mg) (C:Cxt P w K mg base X D6 (A3 (top 42)) 0 true):DS X E0k (stm 42 4) P9 :=
 (W5 (Kx C (d_in C (A2 C 2 ⋯) (A2 C 4 ⋯)) (Ss (qK C (A2 C 6 ⋯) (F9 (M7 A9))) (Yo (mD C (A2 C 8 ⋯) (F9 (M7 A9)))))) (B6 (E5 Cj)) I8)
theorem Fb  (T:Txt mg) (C:Cxt P w K mg base X D6 (A3 (top 42)) 0 true):DS X E0k (stm 42 5) P8 :=
 (Dd C 9 ⋯ ⋯ [4,1] ["_law_inner_one", "_law_one"] ⋯ (F3 (A2 C 5 ⋯)) (fun X' C'=>(T0 (Tl C' (A2 C' 0 ⋯) (D4 (A2 C' 1 ⋯) (F9 (M7 (A4 (A2 C' 2 ⋯) A9))))))) (fun X' C'=>(A2 C' 0 ⋯)))
theorem Fa  (T:Txt mg) (C:Cxt P w K mg base X D6 (A3 (top 42)) 0 true):DS X E0k (stm 42 6) P7 :=
 (E5 (d_or (qJ C (A2 C 2 ⋯) (A2 C 4 ⋯)) (Yo (mD C (A2 C 9 ⋯) (F9 (M7 A9))))))
theorem Fj  (T:Txt mg) (C:Cxt P w K mg base X D6 (A3 (top 42)) 0 true):DSs X E0k (B3 (top 42)) Ba:=by
 have h:B3 (top 42)=[stm 42 0,stm 42 1,stm 42 2,stm 42 3,stm 42 4,stm 42 5,stm 42 6]:=by kernel_rfl
 rw [h];exact (A7 (Fg T C) (A7 (Ff T C) (A7 (Fe T C) (A7 (Fd T C) (A7 (Fc T C) (A7 (Fb T C) (B6 (Fa T C))))))))
theorem sT:FnScope Z4 ["_law_script"] (A3 (top 43)):=⟨rfl,rfl,rfl,by decide +kernel,rfl,by decide +kernel,by decide +kernel⟩
theorem iO  (T:Txt mg) (F__law_book:Fn P w K mg base "_law_book" 5 4 X0) (F__law_names:Fn P w K mg base "_law_names" 3 2 P4) (C:Cxt P w K mg base X Z4 (A3 (top 43)) 8 true):DS X E0k (stm 43 0) Vv :=
 (E3 C 1 ⋯ (C1 C F__law_book (by decide) ⋯ (A4 (A2 C 0 ⋯) (A4 A8 (A4 A8 (A4 (C1 C F__law_names (by decide) ⋯ (A4 (A2 C 0 ⋯) (A4 A8 A9))) A9))))))
theorem iM  (T:Txt mg) (F_text_of:Fn P w K mg base "text_of" 6 1 F4) (C:Cxt P w K mg base X Z4 (A3 (top 43)) 8 true):DS X E0k (stm 43 1) Vu :=
 (E3 C 2 ⋯ (C1 C F_text_of (by decide) ⋯ (A4 (A2 C 1 ⋯) A9)))
theorem iL  (T:Txt mg) (F_pieces:Fn P w K mg base "pieces" 7 1 Q4) (C:Cxt P w K mg base X Z4 (A3 (top 43)) 8 true):DS X E0k (stm 43 2) Vt :=
 (E3 C 3 ⋯ (C1 C F_pieces (by decide) ⋯ (A4 (A2 C 1 ⋯) A9)))
theorem iK  (T:Txt mg) (C:Cxt P w K mg base X Z4 (A3 (top 43)) 8 true):DS X E0k (stm 43 3) Ml :=
 (W5 (w_t (w_or (Kx C (Oy (F9 (Ls C [] [] ⋯ (F3 (A2 C 3 ⋯)) (fun X' C'=>X5) (fun X' C'=>(A2 C' 0 ⋯))))) (A2 C 2 ⋯)) (rG (Kx C (F9 (Ls C [] [] ⋯ (F3 (A2 C 3 ⋯)) (fun X' C'=>(T0 (Iw C' (A2 C' 0 ⋯) Q7))) (fun X' C'=>(A2 C' 0 ⋯)))) (F9 (M7 A9)))))) (B6 (E5 Cj)) I8)
theorem iJ  (T:Txt mg) (C:Cxt P w K mg base X Z4 (A3 (top 43)) 8 true):DS X E0k (stm 43 4) Vs :=
 (E3 C 4 ⋯ A8)
theorem iI  (T:Txt mg) (C:Cxt P w K mg base X Z4 (A3 (top 43)) 8 true):DS X E0k (stm 43 5) Vr :=
 (E3 C 5 ⋯ Q7)
theorem iH  (T:Txt mg) (F_names_at:Fn P w K mg base "names_at" 7 2 T4) (C:Cxt P w K mg base X Z4 (A3 (top 43)) 8 true):DS X E0k (stm 43 6) Mk :=
 (sV C 6 7 ⋯ ⋯ (F3 (A2 C 3 ⋯)) (A7 (O1 C 10 ⋯ (F3 (A2 C 6 ⋯)) (A7 (W5 (Kx C (C1 C F_names_at (by decide) ⋯ (A4 (A2 C 1 ⋯) (A4 (A2 C 4 ⋯) A9))) (A2 C 7 ⋯)) (B6 (E5 Cj)) I8) (B6 (E3 C 4 ⋯ (D4 (A2 C 4 ⋯) A8))))) (B6 (E3 C 5 ⋯ (D4 (A2 C 5 ⋯) (Bn (A2 C 6 ⋯) (lZ C ⋯ T.b_int (A4 (mD C (A2 C 7 ⋯) (F9 (M7 A9))) A9))))))))
theorem iG  (T:Txt mg) (F_bare:Fn P w K mg base "bare" 8 1 Jq) (C:Cxt P w K mg base X Z4 (A3 (top 43)) 8 true):DS X E0k (stm 43 7) Mj :=
 (W5 (Kx C (Oy (F9 (Ls C [2] ["_law_text"] ⋯ (F3 (C1 C F_bare (by decide) ⋯ (A4 (A2 C 1 ⋯) A9))) (fun X' C'=>X5) (fun X' C'=>(Ow (A2 C' 2 ⋯) (Dh (A2 C' 0 ⋯)) (Dh (A2 C' 1 ⋯))))))) (A2 C 5 ⋯)) (B6 (E5 Cj)) I8)
theorem iF  (T:Txt mg) (F_marks_of:Fn P w K mg base "marks_of" 6 1 C6) (C:Cxt P w K mg base X Z4 (A3 (top 43)) 8 true):DS X E0k (stm 43 8) Mi :=
 (Dd C 7 ⋯ ⋯ [] [] ⋯ (F3 (C1 C F_marks_of (by decide) ⋯ (A4 (A2 C 1 ⋯) A9))) (fun X' C'=>X5) (fun X' C'=>(C7 (A2 C' 0 ⋯) A8)))
theorem iE  (T:Txt mg) (F_crossing:Fn P w K mg base "crossing" 7 1 V7) (C:Cxt P w K mg base X Z4 (A3 (top 43)) 8 true):DS X E0k (stm 43 9) Vq :=
 (E3 C 8 ⋯ (C1 C F_crossing (by decide) ⋯ (A4 (A2 C 1 ⋯) A9)))
theorem eJ  (T:Txt mg) (F__law_lie_right:Fn P w K mg base "_law_lie_right" 1 6 E8) (F_inner_of:Fn P w K mg base "inner_of" 7 2 K8) (F_marked:Fn P w K mg base "marked" 7 2 Q5) (C:Cxt P w K mg base X Z4 (A3 (top 43)) 8 true):DS X E0k (stm 43 10) Iz :=
 (O1 C 9 ⋯ (F3 (A2 C 7 ⋯)) (A7 (W5 (Kx C (Oy (F9 (Ls C [9] ["_law_one"] ⋯ (F3 (A2 C 3 ⋯)) (fun X' C'=>(T0 (eE C' (A2 C' 2 ⋯) (A2 C' 1 ⋯)))) (fun X' C'=>(A2 C' 0 ⋯))))) (C1 C F_marked (by decide) ⋯ (A4 (A2 C 1 ⋯) (A4 (A2 C 9 ⋯) A9)))) (B6 (E5 Cj)) I8) (B6 (O1 C 11 ⋯ (F3 (F9 (N8 C [9] ["_law_one"] ⋯ (F3 (A2 C 7 ⋯)) (fun X' C'=>(T0 (Kx C' (A2 C' 0 ⋯) (A2 C' 1 ⋯)))) (fun X' C'=>(A2 C' 0 ⋯))))) (B6 (W5 (Vo (Ea (C1 C F__law_lie_right (by decide) ⋯ (A4 (A2 C 3 ⋯) (A4 (A2 C 9 ⋯) (A4 (A2 C 11 ⋯) (A4 (A2 C 8 ⋯) (A4 (C1 C F_inner_of (by decide) ⋯ (A4 (A2 C 1 ⋯) (A4 (A2 C 9 ⋯) A9))) (A4 (C1 C F_inner_of (by decide) ⋯ (A4 (A2 C 1 ⋯) (A4 (A2 C 11 ⋯) A9))) A9))))))))) (B6 (E5 Cj)) I8))))))
theorem eI  (T:Txt mg) (F_widest:Fn P w K mg base "widest" 7 1 Q3) (C:Cxt P w K mg base X Z4 (A3 (top 43)) 8 true):DS X E0k (stm 43 11) Iy :=
 (W5 (Iw C (A2 C 7 ⋯) (F9 (M7 A9))) (B6 (E5 (d_isN (C1 C F_widest (by decide) ⋯ (A4 (A2 C 1 ⋯) A9))))) I8)
theorem eH  (T:Txt mg) (F_marked:Fn P w K mg base "marked" 7 2 Q5) (F_widest:Fn P w K mg base "widest" 7 1 Q3) (C:Cxt P w K mg base X Z4 (A3 (top 43)) 8 true):DS X E0k (stm 43 12) Ix :=
 (E5 (mD C (lX C ⋯ T.b_max (A4 (F9 (N8 C [1] ["_law_book_here"] ⋯ (F3 (A2 C 7 ⋯)) (fun X' C'=>X5) (fun X' C'=>(Bc C' ⋯ T.b_len (A4 (C1 C' F_marked (by decide) ⋯ (A4 (A2 C' 1 ⋯) (A4 (A2 C' 0 ⋯) A9))) A9))))) A9)) (Bc C ⋯ T.b_len (A4 (C1 C F_marked (by decide) ⋯ (A4 (A2 C 1 ⋯) (A4 (C1 C F_widest (by decide) ⋯ (A4 (A2 C 1 ⋯) A9)) A9))) A9))))
theorem mJ  (T:Txt mg) (F__law_book:Fn P w K mg base "_law_book" 5 4 X0) (F__law_lie_right:Fn P w K mg base "_law_lie_right" 1 6 E8) (F__law_names:Fn P w K mg base "_law_names" 3 2 P4) (F_bare:Fn P w K mg base "bare" 8 1 Jq) (F_crossing:Fn P w K mg base "crossing" 7 1 V7) (F_inner_of:Fn P w K mg base "inner_of" 7 2 K8) (F_marked:Fn P w K mg base "marked" 7 2 Q5) (F_marks_of:Fn P w K mg base "marks_of" 6 1 C6) (F_names_at:Fn P w K mg base "names_at" 7 2 T4) (F_pieces:Fn P w K mg base "pieces" 7 1 Q4) (F_text_of:Fn P w K mg base "text_of" 6 1 F4) (F_widest:Fn P w K mg base "widest" 7 1 Q3) (C:Cxt P w K mg base X Z4 (A3 (top 43)) 8 true):DSs X E0k (B3 (top 43)) bX:=by
 have h:B3 (top 43)=[stm 43 0,stm 43 1,stm 43 2,stm 43 3,stm 43 4,stm 43 5,stm 43 6,stm 43 7,stm 43 8,stm 43 9,stm 43 10,stm 43 11,stm 43 12]:=by kernel_rfl
 rw [h];exact (A7 (iO T F__law_book F__law_names C) (A7 (iM T F_text_of C) (A7 (iL T F_pieces C) (A7 (iK T C) (A7 (iJ T C) (A7 (iI T C) (A7 (iH T F_names_at C) (A7 (iG T F_bare C) (A7 (iF T F_marks_of C) (A7 (iE T F_crossing C) (A7 (eJ T F__law_lie_right F_inner_of F_marked C) (A7 (eI T F_widest C) (B6 (eH T F_marked F_widest C))))))))))))))
end Sm
end
noncomputable section
namespace Sm
open PySem PySem.Spec PyProof.Rows L2
theorem Jv {K:wM} {mg:Str->Option wI} {h:yQ} {x:Str} {st:n8} {ps:List Str} {f:wR} {oc:wI} {od an:Option wR} {osl:Array (Option wI)} {kV doc pm cdv ct:wI} (X:K.In h) (G:h.Ns yV mg) (a:AM K yV x=some (some (.ref f)))
   (l:K.lookup f=some ⟨oc,od,.func (yT x x (K0 st) (B3 st) (A3 st) .none kV doc pm an cdv ct),osl⟩) (c:j3 K cdv x=true) (k:zL K (.ref f)=true)
   (hb:∀ (kV doc pm:wI) (an:Option wR) (cdv ct:wI) (us:List wI),us.length=ps.length->CS (yT x x (K0 st) (B3 st) (A3 st) .none kV doc pm an cdv ct) ⟨us,[]⟩=pure (ps.zip us)):Def K mg x st ps :=
 ⟨f,_,lP l c k,PySem.W.mg_of X G a,(lP l c k).binds hb⟩
theorem Xw:∀ {l:List (wR×Obj)} {a:wR} {o:Obj},l.lookup a=some o->(a,o)∈l
 | [],_,_,h=>nomatch h
 | (b,q)::r,a,o,h=>by
   rw [List.lookup_cons] at h;cases e:a==b with
   | true=>rw [e] at h; cases h; rw [i7 e]; exact .head _
   | false=>rw [e] at h; exact .tail _ (Xw h)
noncomputable def noList (K:wM):Bool:=K.all fun p => !(match p.2.cls with | .type n=>n == "list" | _=>false)
theorem noList.out {K:wM} (h:noList K=true) {a:wR} {o:Obj} (e:K.lookup a=some o):o.cls≠.type "list" := fun z=>by
 have hm:(a,o)∈K:=Xw e;unfold noList at h;have:=l7.mp h _ hm;rw [z] at this;simp at this
theorem G6 {us:List wI} {n:Nat} (h:us.length=n+1):∃ a t,us=a::t/\t.length=n:=by cases us with | nil=>cases h | cons a t=>exact ⟨a,t,rfl,Nat.succ.inj h⟩
theorem qF {K:wM} {mg:Str->Option wI} {h:yQ} {x:Str} {st:n8} {ps:List Str} {f:wR} {oc:wI} {od an:Option wR} {osl:Array (Option wI)} {kV doc pm cdv ct:wI} (X:K.In h) (G:h.Ns yV mg) (a:AM K yV x=some (some (.ref f)))
   (l:K.lookup f=some ⟨oc,od,.func (yT x x (K0 st) (B3 st) (A3 st) .none kV doc pm an cdv ct),osl⟩) (c:j3 K cdv x=true) (k:zL K (.ref f)=true)
   (hb:∀ (kV doc pm:wI) (an:Option wR) (cdv ct:wI) (u0:wI),CS (yT x x (K0 st) (B3 st) (A3 st) .none kV doc pm an cdv ct) ⟨[u0],[]⟩=pure (ps.zip [u0])) (hp:ps.length=1):Def K mg x st ps :=
 Jv X G a l c k fun kV doc pm an cdv ct us hl=>by
   have h0:=hl.trans hp; obtain ⟨u0,t0,rfl,h1⟩:=G6 h0;cases zF.mp h1;exact hb kV doc pm an cdv ct u0
theorem qE {K:wM} {mg:Str->Option wI} {h:yQ} {x:Str} {st:n8} {ps:List Str} {f:wR} {oc:wI} {od an:Option wR} {osl:Array (Option wI)} {kV doc pm cdv ct:wI} (X:K.In h) (G:h.Ns yV mg) (a:AM K yV x=some (some (.ref f)))
   (l:K.lookup f=some ⟨oc,od,.func (yT x x (K0 st) (B3 st) (A3 st) .none kV doc pm an cdv ct),osl⟩) (c:j3 K cdv x=true) (k:zL K (.ref f)=true)
   (hb:∀ (kV doc pm:wI) (an:Option wR) (cdv ct:wI) (u0 u1:wI),CS (yT x x (K0 st) (B3 st) (A3 st) .none kV doc pm an cdv ct) ⟨[u0,u1],[]⟩=pure (ps.zip [u0,u1])) (hp:ps.length=2):Def K mg x st ps :=
 Jv X G a l c k fun kV doc pm an cdv ct us hl=>by
   have h0:=hl.trans hp; obtain ⟨u0,t0,rfl,h1⟩:=G6 h0; obtain ⟨u1,t1,rfl,h2⟩:=G6 h1;cases zF.mp h2;exact hb kV doc pm an cdv ct u0 u1
theorem qD {K:wM} {mg:Str->Option wI} {h:yQ} {x:Str} {st:n8} {ps:List Str} {f:wR} {oc:wI} {od an:Option wR} {osl:Array (Option wI)} {kV doc pm cdv ct:wI} (X:K.In h) (G:h.Ns yV mg) (a:AM K yV x=some (some (.ref f)))
   (l:K.lookup f=some ⟨oc,od,.func (yT x x (K0 st) (B3 st) (A3 st) .none kV doc pm an cdv ct),osl⟩) (c:j3 K cdv x=true) (k:zL K (.ref f)=true)
   (hb:∀ (kV doc pm:wI) (an:Option wR) (cdv ct:wI) (u0 u1 u2:wI),CS (yT x x (K0 st) (B3 st) (A3 st) .none kV doc pm an cdv ct) ⟨[u0,u1,u2],[]⟩=pure (ps.zip [u0,u1,u2])) (hp:ps.length=3):Def K mg x st ps :=
 Jv X G a l c k fun kV doc pm an cdv ct us hl=>by
   have h0:=hl.trans hp; obtain ⟨u0,t0,rfl,h1⟩:=G6 h0; obtain ⟨u1,t1,rfl,h2⟩:=G6 h1; obtain ⟨u2,t2,rfl,h3⟩:=G6 h2;cases zF.mp h3;exact hb kV doc pm an cdv ct u0 u1 u2
theorem qC {K:wM} {mg:Str->Option wI} {h:yQ} {x:Str} {st:n8} {ps:List Str} {f:wR} {oc:wI} {od an:Option wR} {osl:Array (Option wI)} {kV doc pm cdv ct:wI} (X:K.In h) (G:h.Ns yV mg) (a:AM K yV x=some (some (.ref f)))
   (l:K.lookup f=some ⟨oc,od,.func (yT x x (K0 st) (B3 st) (A3 st) .none kV doc pm an cdv ct),osl⟩) (c:j3 K cdv x=true) (k:zL K (.ref f)=true)
   (hb:∀ (kV doc pm:wI) (an:Option wR) (cdv ct:wI) (u0 u1 u2 u3:wI),CS (yT x x (K0 st) (B3 st) (A3 st) .none kV doc pm an cdv ct) ⟨[u0,u1,u2,u3],[]⟩=pure (ps.zip [u0,u1,u2,u3])) (hp:ps.length=4):Def K mg x st ps :=
 Jv X G a l c k fun kV doc pm an cdv ct us hl=>by
   have h0:=hl.trans hp; obtain ⟨u0,t0,rfl,h1⟩:=G6 h0; obtain ⟨u1,t1,rfl,h2⟩:=G6 h1; obtain ⟨u2,t2,rfl,h3⟩:=G6 h2; obtain ⟨u3,t3,rfl,h4⟩:=G6 h3;cases zF.mp h4;exact hb kV doc pm an cdv ct u0 u1 u2 u3
theorem qB {K:wM} {mg:Str->Option wI} {h:yQ} {x:Str} {st:n8} {ps:List Str} {f:wR} {oc:wI} {od an:Option wR} {osl:Array (Option wI)} {kV doc pm cdv ct:wI} (X:K.In h) (G:h.Ns yV mg) (a:AM K yV x=some (some (.ref f)))
   (l:K.lookup f=some ⟨oc,od,.func (yT x x (K0 st) (B3 st) (A3 st) .none kV doc pm an cdv ct),osl⟩) (c:j3 K cdv x=true) (k:zL K (.ref f)=true)
   (hb:∀ (kV doc pm:wI) (an:Option wR) (cdv ct:wI) (u0 u1 u2 u3 u4:wI),CS (yT x x (K0 st) (B3 st) (A3 st) .none kV doc pm an cdv ct) ⟨[u0,u1,u2,u3,u4],[]⟩=pure (ps.zip [u0,u1,u2,u3,u4])) (hp:ps.length=5):Def K mg x st ps :=
 Jv X G a l c k fun kV doc pm an cdv ct us hl=>by
   have h0:=hl.trans hp; obtain ⟨u0,t0,rfl,h1⟩:=G6 h0; obtain ⟨u1,t1,rfl,h2⟩:=G6 h1; obtain ⟨u2,t2,rfl,h3⟩:=G6 h2; obtain ⟨u3,t3,rfl,h4⟩:=G6 h3; obtain ⟨u4,t4,rfl,h5⟩:=G6 h4;cases zF.mp h5;exact hb kV doc pm an cdv ct u0 u1 u2 u3 u4
theorem qA {K:wM} {mg:Str->Option wI} {h:yQ} {x:Str} {st:n8} {ps:List Str} {f:wR} {oc:wI} {od an:Option wR} {osl:Array (Option wI)} {kV doc pm cdv ct:wI} (X:K.In h) (G:h.Ns yV mg) (a:AM K yV x=some (some (.ref f)))
   (l:K.lookup f=some ⟨oc,od,.func (yT x x (K0 st) (B3 st) (A3 st) .none kV doc pm an cdv ct),osl⟩) (c:j3 K cdv x=true) (k:zL K (.ref f)=true)
   (hb:∀ (kV doc pm:wI) (an:Option wR) (cdv ct:wI) (u0 u1 u2 u3 u4 u5:wI),CS (yT x x (K0 st) (B3 st) (A3 st) .none kV doc pm an cdv ct) ⟨[u0,u1,u2,u3,u4,u5],[]⟩=pure (ps.zip [u0,u1,u2,u3,u4,u5])) (hp:ps.length=6):Def K mg x st ps :=
 Jv X G a l c k fun kV doc pm an cdv ct us hl=>by
   have h0:=hl.trans hp; obtain ⟨u0,t0,rfl,h1⟩:=G6 h0; obtain ⟨u1,t1,rfl,h2⟩:=G6 h1; obtain ⟨u2,t2,rfl,h3⟩:=G6 h2; obtain ⟨u3,t3,rfl,h4⟩:=G6 h3; obtain ⟨u4,t4,rfl,h5⟩:=G6 h4; obtain ⟨u5,t5,rfl,h6⟩:=G6 h5;cases zF.mp h6;exact hb kV doc pm an cdv ct u0 u1 u2 u3 u4 u5
def Defs (K:wM) (mg:Str->Option wI):Prop :=
 Def K mg "law" (top 43) ["_law_script"] /\
 Def K mg "signs_added" (top 2) ["deed"] /\
 Def K mg "adds_behind" (top 8) ["book"] /\
 Def K mg "signs_of" (top 9) ["book"] /\
 Def K mg "undone_in" (top 10) ["book"] /\
 Def K mg "dropped_in" (top 11) ["book", "undone"] /\
 Def K mg "presence_in" (top 12) ["book"] /\
 Def K mg "shown_in" (top 13) ["book"] /\
 Def K mg "text_of" (top 14) ["book"] /\
 Def K mg "places_in" (top 16) ["book"] /\
 Def K mg "anchored" (top 17) ["places", "anchor"] /\
 Def K mg "mark_deeds" (top 18) ["book"] /\
 Def K mg "marks_of" (top 19) ["book"] /\
 Def K mg "mark_named" (top 20) ["marks", "name"] /\
 Def K mg "marked" (top 21) ["book", "name"] /\
 Def K mg "names_holding" (top 22) ["marks", "begin", "end"] /\
 Def K mg "names_at" (top 23) ["book", "place"] /\
 Def K mg "cuts_of" (top 25) ["text", "marks"] /\
 Def K mg "pieces" (top 26) ["book"] /\
 Def K mg "bare" (top 27) ["book"] /\
 Def K mg "holds" (top 28) ["mark", "other"] /\
 Def K mg "cross" (top 29) ["mark", "other"] /\
 Def K mg "crossing" (top 30) ["book"] /\
 Def K mg "inner_of" (top 31) ["book", "name"] /\
 Def K mg "widest" (top 32) ["book"] /\
 Def K mg "_law_cell" (top 34) ["_law_script", "_law_k"] /\
 Def K mg "_law_drawn" (top 35) ["_law_script", "_law_k", "_law_many"] /\
 Def K mg "_law_names" (top 36) ["_law_script", "_law_at"] /\
 Def K mg "_law_words" (top 37) ["_law_script", "_law_at"] /\
 Def K mg "_law_signs" (top 38) ["_law_book_here"] /\
 Def K mg "_law_anchor" (top 39) ["_law_script", "_law_at", "_law_signs_here"] /\
 Def K mg "_law_deed" (top 40) ["_law_script", "_law_at", "_law_one", "_law_known", "_law_names_here"] /\
 Def K mg "_law_book" (top 41) ["_law_script", "_law_at", "_law_most", "_law_names_here"] /\
 Def K mg "_law_lie_right" (top 42) ["_law_told", "_law_one", "_law_other", "_law_crossed", "_law_inner_one", "_law_inner_other"]
noncomputable section
variable {P:xN} {w:xT} {K:wM} {mg:Str->Option wI} {base:yQ}
theorem uS {f:wR} {fd:BO} (F:L2.Fun K "law" "law" (top 43) f fd) (T:Txt mg) (D:Defs K mg):FnOk P w K mg base CX0 9 f fd ["_law_script"] (spD 1 cV):=by
 have D_law:=D.1;have R1:=D.2;have D_signs_added:=R1.1;have R2:=R1.2;have D_adds_behind:=R2.1;have R3:=R2.2;have D_signs_of:=R3.1;have R4:=R3.2;have D_undone_in:=R4.1;have R5:=R4.2;have D_dropped_in:=R5.1;have R6:=R5.2;have D_presence_in:=R6.1;have R7:=R6.2;have D_shown_in:=R7.1;have R8:=R7.2;have D_text_of:=R8.1;have R9:=R8.2;have D_places_in:=R9.1;have R10:=R9.2;have D_anchored:=R10.1;have R11:=R10.2;have D_mark_deeds:=R11.1;have R12:=R11.2;have D_marks_of:=R12.1;have R13:=R12.2;have D_mark_named:=R13.1;have R14:=R13.2;have D_marked:=R14.1;have R15:=R14.2;have D_names_holding:=R15.1;have R16:=R15.2
 have D_names_at:=R16.1;have R17:=R16.2;have D_cuts_of:=R17.1;have R18:=R17.2;have D_pieces:=R18.1;have R19:=R18.2;have D_bare:=R19.1;have R20:=R19.2;have D_holds:=R20.1;have R21:=R20.2;have D_cross:=R21.1;have R22:=R21.2;have D_crossing:=R22.1;have R23:=R22.2;have D_inner_of:=R23.1;have R24:=R23.2;have D_widest:=R24.1;have R25:=R24.2;have D__law_cell:=R25.1;have R26:=R25.2;have D__law_drawn:=R26.1;have R27:=R26.2;have D__law_names:=R27.1;have R28:=R27.2;have D__law_words:=R28.1;have R29:=R28.2;have D__law_signs:=R29.1;have R30:=R29.2;have D__law_anchor:=R30.1;have R31:=R30.2;have D__law_deed:=R31.1
 have R32:=R31.2;have D__law_book:=R32.1;have R33:=R32.2;have D__law_lie_right:=R33;have F_signs_added:Fn P w K mg base "signs_added" 1 1 F2:=U9 (k:=0) D_signs_added Nm rfl (fun X C=>Jx T  C) rfl;have F_adds_behind:FnN P w K mg base "adds_behind" 2 1 N7:=vG (k:=1) D_adds_behind Np rfl (fun X C=>Jz T F_signs_added C) rfl;have F_signs_of:Fn P w K mg base "signs_of" 3 1 V5:=U9 (k:=2) D_signs_of Wr rfl (fun X C=>Qw T F_adds_behind C) rfl;have F_undone_in:FnN P w K mg base "undone_in" 1 1 K1:=vG (k:=0) D_undone_in Tt rfl (fun X C=>Pc T  C) rfl;have F_dropped_in:FnSN P w K mg base "dropped_in" 1 2 L4:=fn_SN (k:=0) D_dropped_in Qi rfl (fun X C=>Li T  C) rfl
 have F_presence_in:Fn P w K mg base "presence_in" 4 1 K2:=U9 (k:=3) D_presence_in Nn rfl (fun X C=>Jy T F_dropped_in F_signs_of F_undone_in C) rfl;have F_shown_in:Fn P w K mg base "shown_in" 5 1 V6:=U9 (k:=4) D_shown_in Ws rfl (fun X C=>Qx T F_presence_in C) rfl;have F_text_of:Fn P w K mg base "text_of" 6 1 F4:=U9 (k:=5) D_text_of aD rfl (fun X C=>Ve T F_shown_in C) rfl;have F_places_in:FnN P w K mg base "places_in" 5 1 T8:=vG (k:=4) D_places_in Tu rfl (fun X C=>Pd T F_presence_in C) rfl;have F_anchored:FnS P w K mg base "anchored" 1 2 I9:=fn_S (k:=0) D_anchored Wx rfl (fun X C=>Rc T  C) rfl;have F_mark_deeds:Fn P w K mg base "mark_deeds" 2 1 P1:=U9 (k:=1) D_mark_deeds Qh rfl (fun X C=>Lh T F_undone_in C) rfl
 have F_marks_of:Fn P w K mg base "marks_of" 6 1 C6:=U9 (k:=5) D_marks_of Wu rfl (fun X C=>Qz T F_anchored F_mark_deeds F_places_in C) rfl;have F_mark_named:Fn P w K mg base "mark_named" 1 2 N1:=U9 (k:=0) D_mark_named Qg rfl (fun X C=>Lg T  C) rfl;have F_marked:Fn P w K mg base "marked" 7 2 Q5:=U9 (k:=6) D_marked eW rfl (fun X C=>Zh T F_mark_named F_marks_of F_text_of C) rfl;have F_names_holding:Fn P w K mg base "names_holding" 1 3 F7:=U9 (k:=0) D_names_holding Jh rfl (fun X C=>Hb T  C) rfl;have F_names_at:Fn P w K mg base "names_at" 7 2 T4:=U9 (k:=6) D_names_at Wt rfl (fun X C=>Qy T F_marks_of F_names_holding F_text_of C) rfl
 have F_cuts_of:Fn P w K mg base "cuts_of" 1 2 Cq:=U9 (k:=0) D_cuts_of aE rfl (fun X C=>Vf T  C) rfl;have F_pieces:Fn P w K mg base "pieces" 7 1 Q4:=U9 (k:=6) D_pieces eV rfl (fun X C=>Zg T F_cuts_of F_marks_of F_names_holding F_text_of C) rfl;have F_bare:Fn P w K mg base "bare" 8 1 Jq:=U9 (k:=7) D_bare nL rfl (fun X C=>gS T F_pieces C) rfl;have F_holds:Fn P w K mg base "holds" 1 2 U6:=U9 (k:=0) D_holds iY rfl (fun X C=>bI T  C) rfl;have F_cross:Fn P w K mg base "cross" 2 2 Dj:=U9 (k:=1) D_cross iZ rfl (fun X C=>bJ T F_holds C) rfl;have F_crossing:Fn P w K mg base "crossing" 7 1 V7:=U9 (k:=6) D_crossing Ww rfl (fun X C=>Rb T F_cross F_marks_of C) rfl
 have F_inner_of:Fn P w K mg base "inner_of" 7 2 K8:=U9 (k:=6) D_inner_of Wv rfl (fun X C=>Ra T F_holds F_mark_named F_marks_of C) rfl;have F_widest:Fn P w K mg base "widest" 7 1 Q3:=U9 (k:=6) D_widest eU rfl (fun X C=>Zf T F_marks_of C) rfl;have F__law_cell:Fn P w K mg base "_law_cell" 1 2 W9:=U9 (k:=0) D__law_cell Tw rfl (fun X C=>Pf T  C) rfl;have F__law_drawn:Fn P w K mg base "_law_drawn" 2 3 B0:=U9 (k:=1) D__law_drawn Qm rfl (fun X C=>Lm T F__law_cell C) rfl;have F__law_names:Fn P w K mg base "_law_names" 3 2 P4:=U9 (k:=2) D__law_names Ql rfl (fun X C=>Ll T F__law_drawn C) rfl;have F__law_words:Fn P w K mg base "_law_words" 3 2 P2:=U9 (k:=2) D__law_words Qj rfl (fun X C=>Lj T F__law_drawn C) rfl
 have F__law_signs:Fn P w K mg base "_law_signs" 1 1 P3:=U9 (k:=0) D__law_signs Qk rfl (fun X C=>Lk T  C) rfl;have F__law_anchor:Fn P w K mg base "_law_anchor" 3 3 M0:=U9 (k:=2) D__law_anchor Nq rfl (fun X C=>Ka T F__law_drawn C) rfl;have F__law_deed:Fn P w K mg base "_law_deed" 4 5 M8:=U9 (k:=3) D__law_deed Tv rfl (fun X C=>Pe T F__law_anchor F__law_drawn F__law_signs F__law_words C) rfl;have F__law_book:Fn P w K mg base "_law_book" 5 4 X0:=U9 (k:=4) D__law_book Tx rfl (fun X C=>Pg T F__law_deed F__law_drawn C) rfl;have F__law_lie_right:Fn P w K mg base "_law_lie_right" 1 6 E8:=U9 (k:=0) D__law_lie_right Hy rfl (fun X C=>Fj T  C) rfl
 exact lQ (k:=8) F sT rfl (fun X C=>mJ T F__law_book F__law_lie_right F__law_names F_bare F_crossing F_inner_of F_marked F_marks_of F_names_at F_pieces F_text_of F_widest C) rfl
end
end Sm
open PySem PySem.W PyProof.Rows
theorem Sm.walkD {l:PySem.W.OpenLaw} {q:xN} {loose:List Str} {XP:(Str->Option wI)->yQ->Prop} {YP:xT->yQ->Prop} {d:DefRec} {K:EG->wM} (hn:l.most=some 63) (hdf:d.params.defaults=[]) (hnm:d.name = "law")
   (hY:∀ (w:xT) (h:yQ),YP w h->(K w.params).In h) (hK:∀ w:xT,Sm.noList (K w.params)=true)
   (F:∀ (w:xT) (mg:Str->Option wI) (h:yQ),(K w.params).In h->h.Ns yV mg->Sm.Txt mg/\Sm.Defs (K w.params) mg)
   (pure:∀ ns:List Int,ns.length<=63->Sm.cV [.list (ns.map xL)]=.ok (.bool true)) :
   PySem.W.WalkO q loose XP YP l.row.toRowW d [] (fun f vs=>PySem.call f vs):=by
 refine L2.mY (n:=63) (k:=9) (x := "_law_script") (CX:=fun _=>L2.CX0) (sp:=fun _=>Sm.spD 1 Sm.cV) hn (by decide) hdf ⟨rfl,by decide,by decide,rfl⟩ hY (fun w mg fa h KX G hmg=>?_) (fun w H a ns hl hO hS=>?_) fun _ _ _ _ _ z=>z
 . obtain ⟨T,D⟩:=F w mg h KX G
   obtain ⟨f0,fd0,F0,hm0,hb0⟩:=D.1.ex; rw [hnm,hm0] at hmg; cases hmg; refine ⟨fd0,fun s u=>?_,fun base kb nb=>?_⟩
   . obtain ⟨oc,od,kV,doc,pm,an,cdv,ct,osl,rfl,lk,hcd⟩:=F0.ex
     exact .of_eq rfl
   . exact Sm.uS F0 T D
 . rcases hS with hS | ⟨o,its,nn,hk,hc,_⟩
   . refine ⟨H,[.list (ns.map xL)],.bool true,L2.Same.refl _,Sm.RepL.cons ⟨a,_,rfl,hS,Sm.RepL.ints ns⟩ rfl,rfl,pure ns hl,fun v G' H' g r=>r⟩
   . exact absurd hc (Sm.noList.out (hK w) hk)
end
noncomputable section
open PySem
namespace Sm
open L2
noncomputable def Out.seq (o:Out) (g:Dn->Out):Out:=match o with
 | .nx δ=>g δ
 | o=>o
noncomputable def Out.fin (o:Out):Res wF:=match o with
 | .rt d=>.ok d
 | .nx _=>.ok .none
 | .exc c=>.exc c
 | _=>.no
noncomputable def rM (s:Option Sl):Res wF:=match s with
 | some (.sh d)=>.ok d
 | _=>.no
theorem C2 {α β:Type} (a:α) (k:α->Res β):(Res.ok a).bind k=k a:=rfl
theorem Xm {α:Type} (a:α):ofO (some a)=.ok a:=rfl
theorem D2 {α:Type} (a:α) (k:α->Out):M5 (.ok a) k=k a:=rfl
theorem Ib (g1 g2:Dn->Out) (δ:Dn):B7 g1 g2 δ=(g1 δ).seq g2:=by unfold B7 Out.seq; cases g1 δ <;> rfl
theorem aC (δ:Dn) (g:Dn->Out):(Out.nx δ).seq g=g δ:=rfl
theorem sS (d:wF) (g:Dn->Out):(Out.rt d).seq g=.rt d:=rfl
theorem Os (N:List Str) (g:Dn->Out) (ds:List wF):fnD N g ds=(g (M6 N ds)).fin:=by unfold fnD Out.fin; cases g (M6 N ds) <;> rfl
theorem vH (d:wF):(Out.rt d).fin=.ok d:=rfl
theorem Hl (i:Nat) (δ:Dn):A0 i δ=rM δ[i]? := rfl
theorem Ed (d:wF):rM (some (.sh d))=.ok d:=rfl
theorem sX (c:Dn->Res Bool) (g1 g2:Dn->Out) (δ:Dn):sIf c g1 g2 δ=M5 (c δ) fun b=>if b=true then g1 δ else g2 δ:=rfl
theorem eC (b:Bool):Pm (.bool b)=some b:=rfl
local macro_rules
 | `(tactic| simp_arith) => `(tactic| simp_arith [C2])
 | `(tactic| simp_arith [$ls,*]) => `(tactic| simp only [$ls,*, Os, M6, Ib, aC, sS, vH, sX, B4, b2, b1, Hl, Ed, F5, E7, A6, A1, vC, C2, Xm, D2, F6, D5, E1, vFn, B5, M1, T7, Og, vSl, Cl, L6, eC,
 wQ,j5,wT,zD,xI,zG,yB,yL,o6,CZ,xJ,xK,l6,l5,xY,reduceIte])
theorem D7 {src:Dn->Res (List wF)} {bnd:wF->Res (List Sl)} {cap:List Nat} {tt:Dn->Res Bool} {el:Dn->Res wF} {δ δc:Dn} {ds ys:List wF} (h:src δ=.ok ds) (hl:ds.length<=1000) (hc:Ck δ cap=δc) (e:D1 bnd δc tt el ds=.ok ys):E2 src bnd cap tt el δ=.ok ys:=by
 unfold E2;rw [h,C2,if_pos (xD hl (by decide)),hc,e]
theorem B1 {f g:Dn->Res wF} {op:wF->wF->Option wF} {δ:Dn} {x y d:wF} (h1:f δ=.ok x) (h2:g δ=.ok y) (h3:op x y=some d):b2 f g op δ=.ok d:=by
 unfold b2;rw [h1,C2,h2,C2,h3]; rfl
theorem M3 {f:Dn->Res (List wF)} {δ:Dn} {ds:List wF} (h:f δ=.ok ds):F5 f δ=.ok (.list ds):=by unfold F5; rw [h]; rfl
theorem C8 {i:Nat} {f:Dn->Res wF} {δ:Dn} {d:wF} (h:f δ=.ok d):D5 i f δ=.nx (δ.set i (.sh d)):=by unfold D5; rw [h]; rfl
theorem W7 {c:Dn->Res Bool} {g1 g2:Dn->Out} {δ:Dn} (h:c δ=.ok true):sIf c g1 g2 δ=g1 δ:=by unfold sIf; rw [h]; rfl
theorem Q2 {c:Dn->Res Bool} {g1 g2:Dn->Out} {δ:Dn} (h:c δ=.ok false):sIf c g1 g2 δ=g2 δ:=by unfold sIf; rw [h]; rfl
theorem B2 {g1 g2:Dn->Out} {δ δ':Dn} (h:g1 δ=.nx δ'):B7 g1 g2 δ=g2 δ':=by unfold B7; rw [h]
theorem Bm {g1 g2:Dn->Out} {δ:Dn} {d:wF} (h:g1 δ=.rt d):B7 g1 g2 δ=.rt d:=by unfold B7; rw [h]
theorem I0 {f:Dn->Res wF} {δ:Dn} {d:wF} (h:f δ=.ok d):F6 f δ=.rt d:=by unfold F6; rw [h]; rfl
theorem P6 {N:List Str} {g:Dn->Out} {ds:List wF} {d:wF} (h:g (M6 N ds)=.rt d):fnD N g ds=.ok d:=by rw [Os,h]; rfl
theorem A5 {f:Dn->Res wF} {fs:Dn->Res (List wF)} {δ:Dn} {d:wF} {ds:List wF} (h:f δ=.ok d) (h2:fs δ=.ok ds):A1 f fs δ=.ok (d::ds):=by unfold A1; rw [h,C2,h2]; rfl
theorem B8 {fs:Dn->Res (List wF)} {m:List wF->Res wF} {δ:Dn} {ds:List wF} {r:Res wF} (h:fs δ=.ok ds) (h2:m ds=r):B5 fs m δ=r:=by unfold B5; rw [h,C2,h2]
theorem U3 {f:Dn->Res (List wF)} {δ:Dn} {ds:List wF} (h:f δ=.ok ds):E7 f δ=.ok (.tuple ds):=by unfold E7; rw [h]; rfl
theorem O0 {f:Dn->Res (List wF)} {op:List wF->Option wF} {δ:Dn} {ds:List wF} {d:wF} (h:f δ=.ok ds) (h2:op ds=some d):vFn f op δ=.ok d:=by unfold vFn; rw [h,C2,h2]; rfl
theorem B9 {f:Dn->Res wF} {δ:Dn} {b:Bool} (h:f δ=.ok (.bool b)):B4 f δ=.ok b:=by unfold B4; rw [h]; rfl
abbrev scr (ns:List Int):wF:=.list (ns.map .int)
theorem pO {n j:Nat} (h:j < n):ixN n (j:Int)=some j:=by
 unfold ixN;rw [if_pos (by lia)];simp [h]
theorem L7 {α:Type} {xs:List α} {j:Nat} (h:j < xs.length):atI xs (j:Int)=some xs[j]:=by
 unfold atI;rw [pO h];simp
theorem Lw {α:Type} {xs:List α} {i:Int} (h0:0<=i) (h:i < xs.length):∃ x∈xs,atI xs i=some x:=by
 obtain ⟨j,rfl⟩:=Int.eq_ofNat_of_zero_le h0;have hj:j < xs.length:=by lia
 exact ⟨xs[j],z7 _,L7 hj⟩
theorem pU (ns:List Int):xE (scr ns) (.list [])=ns.isEmpty:=by
 cases ns with
 | nil=>rfl
 | cons n ns=>rfl
theorem dD (ns:List Int):dEq (scr ns) (.list [])=some (.bool ns.isEmpty):=by
 unfold dEq;rw [if_pos (xD (j4 _ _) (by decide)),pU]
theorem Xt {a b:Int} (h:(-(2 ^ 64) < a/\a < 2 ^ 64)\/(-(2 ^ 64) < b/\b < 2 ^ 64)):N2 (.int a) (.int b)=some (.int (a*b)):=by
 show (if _ then _ else _)=_;rw [if_pos h]
theorem mul7 {b:Int}:N2 (.int 7) (.int b)=some (.int (7*b)):=Xt (.inl ⟨by decide,by decide⟩)
theorem pE {b:Int}:N2 (.int 6553) (.int b)=some (.int (6553*b)):=Xt (.inl ⟨by decide,by decide⟩)
theorem fL {b:Int}:N2 (.int 104723) (.int b)=some (.int (104723*b)):=Xt (.inl ⟨by decide,by decide⟩)
theorem kO {b:Int}:N2 (.int b) (.int 69069)=some (.int (b*69069)):=Xt (.inr ⟨by decide,by decide⟩)
theorem mul2 {b:Int}:N2 (.int 2) (.int b)=some (.int (2*b)):=Xt (.inl ⟨by decide,by decide⟩)
theorem kP {b:Int}:N2 (.int 60) (.int b)=some (.int (60*b)):=Xt (.inl ⟨by decide,by decide⟩)
theorem kR {a b:Int} (h:0 < b):Qu (.int a) (.int b)=some (.int (a % b)):=by
 show (if _ then _ else _)=_;rw [if_pos h]
theorem pY {a b:Int} (h:0 < b) (h2:b < 1073741824):Kv (.int a) (.int b)=some (.int (a / b)):=by
 show (if _ then _ else _)=_;rw [if_pos ⟨h,h2⟩]
theorem U1 {a b:Int}:C5 (.int a) (.int b)=some (.int (a+b)):=rfl
theorem qV (ns:List Int) (hns:ns.length<=63) (k:Int):∃ c,W9 [scr ns,.int k]=.ok (.int c):=by
 unfold W9 Cd Bq;cases hn:ns with
 | nil =>
   refine ⟨7*k,?_⟩;simp_arith [dD,List.isEmpty_nil,mul7]
 | cons n r =>
   have e1:=dD (n::r); have hl:(0:Int) < ((n::r).length:Int):=by simp
   have hl2:((n::r).length:Int)<=63:=by rw [<- hn]; lia
   obtain ⟨x,hx,e2⟩:=Lw (xs:=(n::r).map xL) (i:=k % ((n::r).length:Int)) (DV _ (by lia)) (by rw [wL]; exact CF _ hl);obtain ⟨c,_,rfl⟩:=xF.mp hx; refine ⟨c+6553*(k / ((n::r).length:Int)),?_⟩; have e3:Q8 [scr (n::r)]=some (.int ((n::r).length:Int)):=by simp [Q8,scr]
   have e4:dIx (scr (n::r)) (.int (k % ((n::r).length:Int)))=some (.int c):=e2;generalize hS:scr (n::r)=S at *;generalize hL:((n::r).length:Int)=m at *;simp_arith [e1,List.isEmpty_cons,e3,kR hl,pY hl (show m < 1073741824 by lia),pE,e4,U1]
theorem K9 (ns:List Int) (hns:ns.length<=63) (k m:Int) (hm:0 < m):∃ r,B0 [scr ns,.int k,.int m]=.ok (.int r)/\0<=r/\r < m:=by
 obtain ⟨c,hc⟩:=qV ns hns k;unfold B0 Bb Ac;generalize scr ns=S at *;simp_arith [hc,kR (show (0:Int) < 2147483563 by decide),U1,kO,fL];generalize hA:(c % 2147483563*69069+104723*(k+1)) % 2147483563=A;have a0:0<=A:=by rw [<- hA]; exact DV _ (by decide)
 have a1:A < 2147483563:=by rw [<- hA]; exact CF _ (by decide)
 simp_arith [Xt (a:=A) (b:=A) (.inl ⟨Int.lt_of_lt_of_le (by decide) a0,Int.lt_trans a1 (by decide)⟩),pY (show (0:Int) < 3 by decide) (by decide),U1,kR (show (0:Int) < 2147483399 by decide)]
 generalize hB:(A*A+A / 3) % 2147483399=B;have b0:0<=B:=by rw [<- hB]; exact DV _ (by decide)
 have b1:B < 2147483399:=by rw [<- hB]; exact CF _ (by decide)
 simp_arith [Xt (a:=B) (b:=B) (.inl ⟨Int.lt_of_lt_of_le (by decide) b0,Int.lt_trans b1 (by decide)⟩),pY (show (0:Int) < 7 by decide) (by decide),U1,kR (show (0:Int) < 2147483647 by decide),pY (show (0:Int) < 11 by decide) (by decide),kR hm]
 exact ⟨_,rfl,DV _ (by lia),CF _ hm⟩
theorem lD {x:Str} {i:Int} (h0:0<=i) (h:i < (x.cps.toList.length:Int)):∃ c∈x.cps.toList,dIx (.str x) (.int i)=some (.str ⟨#[c]⟩):=by
 obtain ⟨c,hc,e⟩:=Lw (xs:=x.cps.toList) h0 h;exact ⟨c,hc,by show (atI x.cps.toList i).map _=_; rw [e]; rfl⟩
theorem fU (c:Nat):(⟨#[c]⟩:Str).length=1:=rfl
theorem Ho:(1000:Nat)<=sizeLine:=by decide
theorem vZ {x y:Str} (h:x.length+y.length<=1000):C5 (.str x) (.str y)=some (.str (x++y)):=by
 show (if _ then _ else _)=_;rw [if_pos (xD h Ho)]
theorem Zm {x y:List wF} (h:x.length+y.length<=1000):C5 (.list x) (.list y)=some (.list (x++y)):=by
 show (if _ then _ else _)=_;rw [if_pos (xD h Ho)]
theorem addT {x y:List wF} (h:x.length+y.length<=1000):C5 (.tuple x) (.tuple y)=some (.tuple (x++y)):=by
 show (if _ then _ else _)=_;rw [if_pos (xD h Ho)]
theorem N6 (x y:Str):(x++y).length=x.length+y.length:=by
 show (x.cps++y.cps).size=_;rw [Array.size_append]; rfl
def chOk (lo hi:Nat) (x:Str):Prop:=∀ c∈x.cps.toList,lo<=c/\c<=hi
theorem chOk.app {lo hi:Nat} {x y:Str} (hx:chOk lo hi x) (hy:chOk lo hi y):chOk lo hi (x++y):=fun c hc=>by
 have:c∈(x.cps++y.cps).toList:=hc;rw [Array.toList_append] at this;exact (wY.mp this).elim (hx c) (hy c)
theorem chOk.one {lo hi c:Nat} (h:lo<=c/\c<=hi):chOk lo hi ⟨#[c]⟩:=fun d hd=>by
 have:d=c:=by simpa using hd
 rw [this]; exact h
theorem chOk.nil {lo hi:Nat}:chOk lo hi "" := fun c hc=>by
 rw [show ("" : Str).cps.toList=[] from rfl] at hc; exact nomatch hc
theorem mulS {c:Nat} {n:Int} (h0:0<=n) (h:n < 2):∃ y:Str,N2 (.str ⟨#[c]⟩) (.int n)=some (.str y)/\y.length<=1/\∀ d∈y.cps.toList,d=c:=by
 have:n=0\/n=1:=by lia
 rcases this with rfl | rfl
 . refine ⟨K7 0 ⟨#[c]⟩,rfl,(show (0:Nat)<=1 by decide),fun d hd=>?_⟩
   simp [K7] at hd
 . refine ⟨K7 1 ⟨#[c]⟩,rfl,by unfold K7; simp; exact wO _,fun d hd=>?_⟩
   simpa [K7] using hd
def V3 (x:Str):Prop:=1<=x.length/\x.length<=6/\chOk 97 122 x
def Zo (x:Str):Prop:=1<=x.length/\x.length<=4/\chOk 32 126 x
theorem ixL {xs:List wF} {i:Int} (h0:0<=i) (h:i < (xs.length:Int)):∃ x∈xs,dIx (.list xs) (.int i)=some x:=Lw h0 h
theorem Go (ns:List Int) (hns:ns.length<=63) (a k:Int) (hk:0<=k) (hk2:k < 3) (fd:List wF) (hf:fd.length < 1000) (s4:Sl):∃ z w:Str,V3 z /\
   (B7 (D5 4 (b2 (b2 (vC (.str "abcdefghijklmnopqrstuvwxyz")) (B5 (A1 (A0 0) (A1 (b2 (A0 1) (b2 (vC (.int 2)) (A0 3) N2) C5) (A1 (vC (.int 26)) A6))) B0) dIx) (B5 (A1 (A0 0) (A1 (b2 (b2 (A0 1) (b2 (vC (.int 2)) (A0 3) N2) C5) (vC (.int 1)) C5) (A1 (vC (.int 2)) A6))) B0) N2)) (Cg 2 (b2 (F5 (A1 (b2 (A0 4) (b2 (vC (.str "xyz")) (A0 3) dIx) C5) (A1 (b2 (b2 (vC (.str "xyz")) (A0 3) dIx) (A0 4) C5) A6))) (B5 (A1 (A0 0) (A1 (b2 (A0 1) (vC (.int 6)) C5) (A1 (vC (.int 2)) A6))) B0) dIx)))
     [.sh (scr ns),.sh (.int a),.ow (.list fd),.sh (.int k),s4]=.nx [.sh (scr ns),.sh (.int a),.ow (.list (fd++[.str z])),.sh (.int k),.sh (.str w)]:=by
 obtain ⟨r1,e1,a1,b1⟩:=K9 ns hns (a+2*k) 26 (by decide);obtain ⟨r2,e2,a2,b2'⟩:=K9 ns hns (a+2*k+1) 2 (by decide);obtain ⟨r3,e3,a3,b3⟩:=K9 ns hns (a+6) 2 (by decide);obtain ⟨c1,hc1,f1⟩:=lD (x := "abcdefghijklmnopqrstuvwxyz") a1 (by rw [show ("abcdefghijklmnopqrstuvwxyz" : Str).cps.toList.length=26 from by decide]; exact b1);obtain ⟨y,f2,l2,hy⟩:=mulS (c:=c1) a2 b2';obtain ⟨c2,hc2,f3⟩:=lD (x := "xyz") hk (by rw [show ("xyz" : Str).cps.toList.length=3 from by decide]; exact hk2);have g1:C5 (.str y) (.str ⟨#[c2]⟩)=_:=vZ (x:=y) (y:=⟨#[c2]⟩) (by rw [fU]; lia);have g2:C5 (.str ⟨#[c2]⟩) (.str y)=_:=vZ (x:=⟨#[c2]⟩) (y:=y) (by rw [fU]; lia)
 obtain ⟨x,hx,f4⟩:=ixL (xs:=[.str (y++⟨#[c2]⟩),.str (⟨#[c2]⟩++y)]) a3 b3;have o1:chOk 97 122 y:=fun d hd=>by
   rw [hy d hd]; exact (by decide:∀ c∈("abcdefghijklmnopqrstuvwxyz" : Str).cps.toList,97<=c/\c<=122) c1 hc1
 have o2:chOk 97 122 ⟨#[c2]⟩:=.one ((by decide:∀ c∈("xyz" : Str).cps.toList,97<=c/\c<=122) c2 hc2);have:∃ z,x=.str z/\V3 z:=by
   rcases wK.mp hx with h | h
   . exact ⟨_,h,by rw [N6,fU]; lia,by rw [N6,fU]; lia,o1.app o2⟩
   . exact ⟨_,wX.mp h,by rw [N6,fU]; lia,by rw [N6,fU]; lia,o2.app o1⟩
 obtain ⟨z,rfl,hz⟩:=this;refine ⟨z,y,hz,?_⟩;have szB:fd.length < sizeLine:=xB hf Ho;simp_arith [mul2,U1,e1,e2,e3,f1,f2,f3,g1,g2,f4,Cg,szB]
theorem kM (ns:List Int) (hns:ns.length<=63) (a:Int):∃ x y z:Str,(V3 x/\V3 y/\V3 z)/\P4 [scr ns,.int a]=.ok (.list [.str x,.str y,.str z]):=by
 obtain ⟨x,w1,hx,e1⟩:=Go ns hns a 0 (by decide) (by decide) [] (by simp) .un;obtain ⟨y,w2,hy,e2⟩:=Go ns hns a 1 (by decide) (by decide) [.str x] (by simp) (.sh (.str w1));obtain ⟨z,w3,hz,e3⟩:=Go ns hns a 2 (by decide) (by decide) [.str x,.str y] (by simp) (.sh (.str w2));refine ⟨x,y,z,⟨hx,hy,hz⟩,?_⟩;unfold P4 Az Y1 Y0 X9 N4;have r:Ih [.int 3]=.ok [.int 0,.int 1,.int 2]:=rfl;simp only [Os,M6,Ib (Ic _ _),Ic,A6,D2,aC,wQ,j5,wT,zD,xI,zG,yB,xJ,xK,Ib (K5 _ _ _),K5,A1,vC,C2,r,D8,st1,l6,l5]
 rw [e1];simp only [yB,xJ,xK];rw [e2];simp only [zG,yB,xJ,xK];rw [e3];rfl
theorem Yw {bnd:wF->Res (List Sl)} {δc:Dn} {el:Dn->Res wF} {P:wF->Prop}:∀ (ds:List wF),(∀ d∈ds,∃ sl y,bnd d=.ok sl/\el (sl++δc)=.ok y/\P y)->∃ ys:List wF,D1 bnd δc L6 el ds=.ok ys/\ys.length=ds.length/\∀ y∈ys,P y
 | [],_=>⟨[],rfl,rfl,fun _ h=>nomatch h⟩
 | d::ds,h=>by
   obtain ⟨sl,y,e1,e2,p⟩:=h d (.head _); obtain ⟨ys,e3,e4,e5⟩:=Yw ds fun d' h'=>h d' (.tail _ h');refine ⟨y::ys,?_,by simp [e4],fun z hz=>?_⟩
   . unfold D1
     rw [e1]; simp only [L6,e2,e3]
   . rcases wK.mp hz with rfl | hz
     . exact p
     . exact e5 z hz
theorem bU {P:Str->Prop}:∀ (ys:List wF),(∀ y∈ys,∃ x,y=.str x/\P x)->∃ xs:List Str,Bz ys=some xs/\xs.length=ys.length/\∀ x∈xs,P x
 | [],_=>⟨[],rfl,rfl,fun _ h=>nomatch h⟩
 | y::ys,h=>by
   obtain ⟨x,rfl,p⟩:=h y (.head _); obtain ⟨xs,e1,e2,e3⟩:=bU ys fun d' h'=>h d' (.tail _ h');exact ⟨x::xs,by show (Bz ys).map _=_; rw [e1]; rfl,by simp [e2],fun z hz=>by
     rcases wK.mp hz with rfl | hz
     . exact p
     . exact e3 z hz⟩
theorem Js:∀ (xs:List Str),(∀ x∈xs,x.length=1/\xP x=true/\chOk 32 126 x)->(i3 "" xs).length=xs.length/\xP (i3 "" xs)=true/\chOk 32 126 (i3 "" xs)
 | [],_=>⟨rfl,by decide +kernel,chOk.nil⟩
 | [x],h=>⟨(h x (.head _)).1,(h x (.head _)).2.1,(h x (.head _)).2.2⟩
 | x::y::r,h=>by
   obtain ⟨l,o,q⟩:=Js (y::r) fun z hz=>h z (.tail _ hz);obtain ⟨l1,o1,q1⟩:=h x (.head _); show (x ++ "" ++ i3 "" (y::r)).length=_/\xP (x ++ "" ++ i3 "" (y::r))=true/\chOk 32 126 (x ++ "" ++ i3 "" (y::r));refine ⟨?_,Cv (Cv o1 (by decide +kernel)) o,(q1.app chOk.nil).app q⟩;rw [N6,N6]; have:(("" : Str)).length=0:=rfl; simp only [wT] at l ⊢;lia
theorem Mm:∀ (xs:List Str),(∀ x∈xs,x.length=1/\xP x=true/\chOk 32 126 x)->(xs.map (·.length)).sum=xs.length
 | [],_=>rfl
 | x::r,h=>by
   simp only [wQ,List.sum_cons,wT,(h x (.head _)).1,Mm r fun z hz=>h z (.tail _ hz)];lia
theorem jF {n:Int} (h0:0<=n) (h:n < 1000):Ih [.int n]=.ok (W8 0 n):=by
 show (if _ then _ else _)=_;rw [if_pos (by lia)]
theorem Tn {fs:Dn->Res (List wF)} {δ:Dn} {n:Int} (h:fs δ=.ok [.int n]) (h0:0<=n) (h1:n < 1000):(fun δ=>(fs δ).bind Ih) δ=.ok (W8 0 n):=by
 show (fs δ).bind Ih=_;rw [h,C2,jF h0 h1]
theorem D3 {f:Dn->Res wF} {δ:Dn} {d:wF} {ds:List wF} (h:f δ=.ok d) (h2:C9 d=.ok ds):(fun δ=>(f δ).bind C9) δ=.ok ds:=by
 show (f δ).bind C9=_;rw [h,C2,h2]
theorem gV (ns:List Int) (hns:ns.length<=63) (a:Int):∃ x:Str,P2 [scr ns,.int a]=.ok (.str x)/\Zo x:=by
 obtain ⟨r1,e1,a1,b1⟩:=K9 ns hns (a+4) 4 (by decide);unfold P2 Ax Aa;have hr:Ih [.int (1+r1)]=.ok (W8 0 (1+r1)):=jF (by lia) (by lia);have hlen:(W8 0 (1+r1)).length<=4/\1<=(W8 0 (1+r1)).length:=by unfold W8; simp; lia
 have hall:∀ d∈W8 0 (1+r1),∃ sl y,E4 d=.ok sl/\(b2 (vC (.str "ab cd~ <")) (B5 (A1 (A0 1) (A1 (b2 (A0 2) (A0 0) C5) (A1 (vC (.int 8)) A6))) B0) dIx) (sl++[.sh (scr ns),.sh (.int a)])=.ok y/\∃ x:Str,y=.str x/\x.length=1/\xP x=true/\chOk 32 126 x:=fun d hd=>by
   unfold W8 at hd; obtain ⟨i,hi,rfl⟩:=xF.mp hd; have hi':i < 4:=by have:=o5.mp hi; lia
   obtain ⟨r2,e2,a2,b2'⟩:=K9 ns hns (a+(0+(i:Int))) 8 (by decide);obtain ⟨c,hc,f⟩:=lD (x := "ab cd~ <") a2 (by have:("ab cd~ <" : Str).cps.toList.length=8:=(by decide); rw [this]; exact b2');refine ⟨[.sh (.int (0+(i:Int)))],.str ⟨#[c]⟩,rfl,?_,⟨#[c]⟩,rfl,rfl,?_,.one ((by decide:∀ c∈("ab cd~ <" : Str).cps.toList,32<=c/\c<=126) c hc)⟩
   . simp_arith [U1,e2,f]
   . have:∀ c∈("ab cd~ <" : Str).cps.toList,c < 0x110000:=by decide
     unfold xP; simp [this c hc]
 obtain ⟨ys,g1,g2,g3⟩:=Yw (W8 0 (1+r1)) hall;obtain ⟨xs,g4,g5,g6⟩:=bU ys g3;obtain ⟨l1,o1,q1⟩:=Js xs g6;have s1:=Mm xs g6;refine ⟨i3 "" xs,?_,by lia,by lia,q1⟩;have hj:Ge "" (.list ys)=some (.str (i3 "" xs)):=by
   show (Bz ys).bind _=_;rw [g4]; show (if _ then _ else _)=_;have:(("" : Str)).length=0:=rfl; rw [if_pos ⟨by rw [s1,this]; lia,o1,xD (show _<=1000 by lia) Ho⟩]
 have hz:(W8 0 (1+r1)).length<=sizeLine:=xD (show _<=1000 by lia) Ho;simp_arith [U1,e1,hr,E2,hz,Ck,Option.getD_some,g1,hj]
abbrev idD (t:Int) (h:Str):wF:=.tuple [.int t,.str h]
abbrev IdP:=Int×Str
abbrev idP (p:IdP):wF:=idD p.1 p.2
abbrev sgD (p:IdP) (n:Int):wF:=.tuple [idP p,.int n]
noncomputable def hj (h:Str):Nat:=if h = "a" then 0 else if h = "b" then 1 else 2
noncomputable def key (p:IdP):Int:=3*p.1+hj p.2
def okH (h:Str):Prop:=h = "a" \/ h = "b" \/ h = "c"
def okI (p:IdP):Prop:=1<=p.1/\p.1<=11/\okH p.2
theorem Yg (h:Str):hj h<=2:=by unfold hj; split <;> (try split) <;> lia
def SgOf (T:Int) (ds:List wF) (x:wF):Prop:=∃ (p:IdP) (b:wF) (w:Str) (n:Nat),k6 [.str "add",idP p,b,.str w]∈ds/\x=sgD p n/\n < w.length/\p.1 < T/\okI p
theorem SgOf.mono {T:Int} {ds ds':List wF} {x:wF} (h:SgOf T ds x) (k:∀ d∈ds,d∈ds'):SgOf T ds' x:=by
 obtain ⟨p,b,w,n,e,r⟩:=h; exact ⟨p,b,w,n,k _ e,r⟩
def sgR (a b:wF):Prop:=∃ (p q:IdP) (n m:Int),a=sgD p n/\b=sgD q m/\okH p.2/\okH q.2/\(key p < key q\/(p=q/\n < m))
def OrN (S:wF->Prop) (d:wF):Prop:=d=.none\/S d
def kY (x:Str):Prop:=x = "l" \/ x = "r"
def Wf (p:IdP) (S:wF->Prop) (U:IdP->Prop) (d:wF):Prop:=okI p /\
 ((∃ b w,d=.tuple [.str "add",idP p,b,.str w]/\OrN S b/\Zo w) \/
  (∃ sg,d=.tuple [.str "drop",idP p,.tuple sg]/\(∀ x∈sg,S x)/\sg.length<=60/\sg≠[]/\sg.Pairwise sgR) \/
  (∃ n s1 x1 s2 x2,d=.tuple [.str "mark",idP p,.str n,.tuple [s1,.str x1],.tuple [s2,.str x2]]/\OrN S s1/\OrN S s2/\V3 n/\kY x1/\kY x2) \/
  (∃ n,d=.tuple [.str "unmark",idP p,.str n]/\V3 n) \/
  (∃ q,d=.tuple [.str "undo",idP p,idP q]/\U q))
theorem OrN.mono {S S':wF->Prop} {d:wF} (h:OrN S d) (k:∀ x,S x->S' x):OrN S' d:=h.elim .inl fun z=>.inr (k _ z)
theorem Wf.mono {p:IdP} {S S':wF->Prop} {U U':IdP->Prop} {d:wF} (h:Wf p S U d) (k2:∀ x,S x->S' x) (k3:∀ q,U q->U' q):Wf p S' U' d:=by
 obtain ⟨o,r⟩:=h;refine ⟨o,?_⟩;rcases r with ⟨b,w,e,hb,hw⟩ | ⟨sg,e,hs,hl⟩ | ⟨n,s1,x1,s2,x2,e,h1,h2,h3⟩ | ⟨n,e⟩ | ⟨i,e,hi⟩
 . exact .inl ⟨b,w,e,hb.mono k2,hw⟩
 . exact .inr (.inl ⟨sg,e,fun x hx=>k2 x (hs x hx),hl⟩)
 . exact .inr (.inr (.inl ⟨n,s1,x1,s2,x2,e,h1.mono k2,h2.mono k2,h3⟩))
 . exact .inr (.inr (.inr (.inl ⟨n,e⟩)))
 . exact .inr (.inr (.inr (.inr ⟨i,e,k3 _ hi⟩)))
theorem Gw (x y:Str):dEq (.str x) (.str y)=some (.bool (x==y)):=by
 unfold dEq;rw [if_pos (xD (DR _ _) (by simp [yX]))];rfl
theorem sF:(("add" : Str)==("add" : Str))=true:=by decide +kernel
noncomputable def Tc:Dn->Out:=(sIf (B4 (b2 (b2 (A0 2) (vC (.int 0)) dIx) (vC (.str "add")) dEq)) (D5 1 (b2 (A0 1) (F5 (E2 (fun δ=>((A1 (vFn (A1 (b2 (A0 2) (vC (.int 3)) dIx) A6) Q8) A6) δ).bind Ih) E4 [2] L6 (E7 (A1 (b2 (A0 1) (vC (.int 1)) dIx) (A1 (A0 0) A6))))) C5)) E1)
theorem Iq {α:Type} {δc:Dn} {el:Dn->Res wF} (g f:α->wF) (h:∀ y:α,el ([.sh (g y)]++δc)=.ok (f y)):∀ ys:List α,D1 E4 δc L6 el (ys.map g)=.ok (ys.map f)
 | []=>rfl
 | y::ys=>by
   rw [wQ,wQ]; unfold D1; simp only [E4,L6,h y,Iq g f h ys]
theorem aB {p:IdP} {S:wF->Prop} {U:IdP->Prop} {T:Int} {d:wF} (hd:Wf p S U d) (hT:p.1 < T) (B:wF) (fd:List wF) (hf:fd.length<=100):∃ more:List wF,more.length<=4/\(∀ x∈more,SgOf T [d] x)/\(∀ x∈more,∃ n,x=sgD p n)/\more.Pairwise sgR /\
   Tc [.sh B,.sh (.list fd),.sh d]=.nx [.sh B,.sh (.list (fd++more)),.sh d]:=by
 obtain ⟨o,r⟩:=hd;have ix0:∀ (x:wF) (xs:List wF),dIx (.tuple (x::xs)) (.int 0)=some x:=fun x xs=>L7 (xs:=x::xs) (j:=0) (by simp);have ix1:∀ (x y:wF) (xs:List wF),dIx (.tuple (x::y::xs)) (.int 1)=some y:=fun x y xs=>L7 (xs:=x::y::xs) (j:=1) (by simp);have ix3:∀ (x y z u:wF),dIx (.tuple [x,y,z,u]) (.int 3)=some u:=fun x y z u=>L7 (xs:=[x,y,z,u]) (j:=3) (by simp);have no:∀ d,(B4 (b2 (b2 (A0 2) (vC (.int 0)) dIx) (vC (.str "add")) dEq)) [.sh B,.sh (.list fd),.sh d]=.ok false->∃ more:List wF,more.length<=4/\(∀ x∈more,SgOf T [d] x)/\(∀ x∈more,∃ n,x=sgD p n)/\more.Pairwise sgR/\Tc [.sh B,.sh (.list fd),.sh d]=.nx [.sh B,.sh (.list (fd++more)),.sh d]:=fun d e=>by
   refine ⟨[],by simp,(fun _ h=>nomatch h),(fun _ h=>nomatch h),.nil,?_⟩;unfold Tc; rw [Q2 e,yL]; rfl
 rcases r with ⟨b,w,rfl,hb,hw⟩ | ⟨sg,rfl,_⟩ | ⟨n,s1,x1,s2,x2,rfl,_⟩ | ⟨n,rfl,_⟩ | ⟨i,rfl,_⟩
 . have er:W8 0 (w.length:Int)=(zK w.length).map fun i:Nat=>xL (0+(i:Int)):=by unfold W8; simp
   have g1:=Iq (δc:=[.sh (.tuple [.str "add",idP p,b,.str w])]) (el:=E7 (A1 (b2 (A0 1) (vC (.int 1)) dIx) (A1 (A0 0) A6))) (fun i:Nat=>xL (0+(i:Int))) (fun i=>sgD p (0+(i:Int))) (fun i=>by simp_arith [ix1]) (zK w.length);have hl:=hw.2.1; refine ⟨(zK w.length).map fun i:Nat=>sgD p (0+(i:Int)),by simp; exact hl,fun x hx=>?_,fun x hx=>?_,?_,?_⟩
   . obtain ⟨i,hi,rfl⟩:=xF.mp hx
     exact ⟨p,b,w,i,.head _,by rw [Int.zero_add],o5.mp hi,hT,o⟩
   . obtain ⟨i,hi,rfl⟩:=xF.mp hx
     exact ⟨_,rfl⟩
   . rw [w5]
     exact (DK).imp fun {a b} h=>⟨p,p,_,_,rfl,rfl,o.2.2,o.2.2,.inr ⟨rfl,by lia⟩⟩
   . have ha:C5 (.list fd) (.list ((zK w.length).map fun i:Nat=>sgD p (0+(i:Int))))=_:=Zm (by simp; lia)
     have e1:Q8 [.str w]=some (.int (w.length:Int)):=rfl; unfold Tc; rw [W7 (by simp_arith [ix0,Gw,sF])];refine C8 (B1 rfl (M3 (D7 (ds:=W8 0 (w.length:Int)) (Tn (by simp_arith [ix3,e1]) (by lia) (by lia)) (by rw [er]; simp; lia) rfl (by rw [er]; exact g1))) ha)
 . exact no _ (by simp_arith [ix0,Gw,show (("drop" : Str)==("add" : Str))=false from by decide +kernel])
 . exact no _ (by simp_arith [ix0,Gw,show (("mark" : Str)==("add" : Str))=false from by decide +kernel])
 . exact no _ (by simp_arith [ix0,Gw,show (("unmark" : Str)==("add" : Str))=false from by decide +kernel])
 . exact no _ (by simp_arith [ix0,Gw,show (("undo" : Str)==("add" : Str))=false from by decide +kernel])
abbrev Dp:=wF×IdP
theorem Ni {S:IdP->wF->Prop} {U:IdP->IdP->Prop} {T:Int} (D:List wF) (B:wF):∀ (ds:List Dp),(∀ e∈ds,Wf e.2 (S e.2) (U e.2) e.1/\e.1∈D/\e.2.1 < T)->ds.Pairwise (fun a b=>key a.2 < key b.2)->∀ (fd:List wF) (s2:Sl),fd.length+4*ds.length<=100->(∀ x∈fd,SgOf T D x) ->
   fd.Pairwise sgR->(∀ x∈fd,∃ q n,x=sgD q n/\okH q.2/\∀ e∈ds,key q < key e.2)->∃ (out:List wF) (s2':Sl),out.length<=fd.length+4*ds.length/\(∀ x∈out,SgOf T D x)/\out.Pairwise sgR /\
   D8 (st1 2) Tc (ds.map (·.1)) [.sh B,.sh (.list fd),s2]=.nx [.sh B,.sh (.list out),s2']
 | [],_,_,fd,s2,_,hs,hp,_=>⟨fd,s2,by lia,hs,hp,rfl⟩
 | e::ds,hd,up,fd,s2,hl,hs,hp,hq=>by
   obtain ⟨w,m,ht⟩:=hd e (.head _); obtain ⟨more,l1,s1,i1,p1,e1⟩:=aB w ht B fd (by simp at hl; lia);have up':=xO.mp up; obtain ⟨out,s2',l2,s3,p3,e2⟩:=Ni D B ds (fun d' h'=>hd d' (.tail _ h')) up'.2 (fd++more) (.sh e.1) (by simp at hl ⊢; lia)
     (fun x hx=>(wY.mp hx).elim (hs x) fun z=>(s1 x z).mono fun q hq=>by rw [wX.mp hq]; exact m)
     (y4.mpr ⟨hp,p1,fun a ha b hb=>by
       obtain ⟨q,n,rfl,o,k⟩:=hq a ha; obtain ⟨n',rfl⟩:=i1 b hb; exact ⟨q,e.2,n,n',rfl,rfl,o,w.1.2.2,.inl (k e (.head _))⟩⟩)
     (fun x hx=>(wY.mp hx).elim (fun z=>by
       obtain ⟨q,n,h1,h2,h3⟩:=hq x z; exact ⟨q,n,h1,h2,fun e' he'=>h3 e' (.tail _ he')⟩) fun z=>by
       obtain ⟨n',rfl⟩:=i1 x z; exact ⟨e.2,n',rfl,w.1.2.2,fun e' he'=>up'.1 e' he'⟩)
   refine ⟨out,s2',by simp at l2 ⊢; lia,s3,p3,?_⟩;rw [wQ]; unfold D8; simp only [st1,xJ,xK]; rw [e1]; exact e2
theorem iR {S:IdP->wF->Prop} {U:IdP->IdP->Prop} {T:Int} (ds:List Dp) (hd:∀ e∈ds,Wf e.2 (S e.2) (U e.2) e.1/\e.2.1 < T) (up:ds.Pairwise (fun a b=>key a.2 < key b.2)) (hl:ds.length<=10) :
   ∃ out:List wF,P3 [.tuple (ds.map (·.1))]=.ok (.list out)/\out.length<=40/\(∀ x∈out,SgOf T (ds.map (·.1)) x)/\out.Pairwise sgR:=by
 obtain ⟨out,s2',l2,s3,p3,e2⟩:=Ni (ds.map (·.1)) (.tuple (ds.map (·.1))) ds (fun e h=>⟨(hd e h).1,yP h,(hd e h).2⟩) up [] .un (by simp; lia) (fun _ h=>nomatch h) .nil (fun _ h=>nomatch h);refine ⟨out,?_,by simp at l2; lia,s3,p3⟩;unfold P3 Ay Ab;simp only [Os,M6,Ib (D5 _ _),D5,F5,A6,D2,C2,aC,wQ,j5,wT,zD,xI,zG,yB,xJ,xK,Ib (K5 _ _ _),K5,Hl,Ed,C9,o6,l6,l5];unfold Tc at e2;rw [e2];simp_arith
theorem K4 {c:Dn->Res Bool} {g1 g2:Dn->Out} {δ:Dn} (h:c δ=.ok false):B7 (sIf c g1 E1) g2 δ=g2 δ:=B2 (Q2 h)
theorem mulL {xs:List wF} {n:Int} (h : -(2 ^ 63)<=n/\n < 2 ^ 63/\xs.length*n.toNat<=sizeLine):N2 (.list xs) (.int n)=some (.list (xI n.toNat xs).flatten):=by
 show (if _ then _ else _)=_;rw [if_pos h]
theorem vL (xs:List wF):dNe (.list xs) (.list [])=some (.bool (!xs.isEmpty)):=by
 unfold dNe;rw [if_pos (xD (j4 _ _) (by decide))];cases xs <;> rfl
theorem qO (xs:List wF):dEq (.list xs) (.list [])=some (.bool xs.isEmpty):=by
 unfold dEq;rw [if_pos (xD (j4 _ _) (by decide))];cases xs <;> rfl
theorem qN (xs:List wF):dNe (.tuple xs) (.tuple [])=some (.bool (!xs.isEmpty)):=by
 unfold dNe;rw [if_pos (xD (j4 _ _) (by decide))];cases xs <;> rfl
theorem ltI (a b:Int):E9 .Lt (.int a) (.int b)=some (.bool (decide (a < b))):=by
 unfold E9;rw [if_pos (by simp [yX])];rfl
theorem aZ (a b:Int):dEq (.int a) (.int b)=some (.bool (a==b)):=by
 unfold dEq;rw [if_pos (xD (DR _ _) (by simp [yX]))];rfl
theorem pZ (t:Int) (h:Str):(idD t h).depth<=2:=by simp [idD,yX,yW]
theorem uR (xs:List wF):Q8 [.list xs]=some (.int (xs.length:Int)):=rfl
theorem lenT (xs:List wF):Q8 [.tuple xs]=some (.int (xs.length:Int)):=rfl
theorem Ti (ns:List Int) (hns:ns.length<=63) (a:Int) (S:wF->Prop) (sg:List wF) (hs:∀ x∈sg,S x) (hl:sg.length<=40):∃ s x,M0 [scr ns,.int a,.list sg]=.ok (.tuple [s,.str x])/\OrN S s/\kY x:=by
 obtain ⟨r1,e1,a1,b1⟩:=K9 ns hns a ((sg.length:Int)+1) (by lia);obtain ⟨r2,e2,a2,b2'⟩:=K9 ns hns (a+1) 2 (by decide);obtain ⟨c,hc,f2⟩:=lD (x := "lr") a2 (by rw [show ("lr" : Str).cps.toList.length=2 from by decide]; exact b2');have g:=Zm (x:=[.none]) (y:=sg) (by simp; lia);obtain ⟨s,hs',f1⟩:=ixL (xs:=[.none]++sg) a1 (by simp; lia);refine ⟨s,⟨#[c]⟩,?_,?_,?_⟩
 . unfold M0 Y4 W4
   generalize [PyData.none]++sg=L at *;simp_arith [g,uR,U1,e1,f1,e2,f2]
 . rcases wY.mp hs' with h | h
   . exact .inl (wX.mp h)
   . exact .inr (hs s h)
 . have h':c∈[108,114]:=by rw [show ("lr" : Str).cps.toList=[108,114] from by decide] at hc; exact hc
   simp only [wK,BJ,or_false] at h'; rcases h' with rfl | rfl
   . exact .inl (by decide)
   . exact .inr (by decide)
theorem Sw {δc:Dn} {tt:Dn->Res Bool}:∀ (zs:List (wF×wF)),(∀ z∈zs,∃ b,tt ([.sh z.1,.sh z.2]++δc)=.ok b)->∃ ys:List wF,D1 O5 δc tt (A0 1) (zs.map fun z=>.tuple [z.1,z.2])=.ok ys/\ys.Sublist (zs.map (·.2))
 | [],_=>⟨[],rfl,.slnil⟩
 | z::zs,h=>by
   obtain ⟨b,e⟩:=h z (.head _); obtain ⟨ys,e1,e2⟩:=Sw zs fun z' hz=>h z' (.tail _ hz);rw [wQ,wQ];cases b with
   | true =>
     refine ⟨z.2::ys,?_,e2.cons_cons _⟩; unfold D1; rw [show O5 (.tuple [z.1,z.2])=.ok [.sh z.1,.sh z.2] from rfl];simp only [e,e1]; rfl
   | false =>
     refine ⟨ys,?_,e2.cons _⟩; unfold D1; rw [show O5 (.tuple [z.1,z.2])=.ok [.sh z.1,.sh z.2] from rfl];simp only [e,e1]
theorem pW (xs:List wF):Ga xs=(xs.mapIdx fun i d=>(xL i,d)).map fun z=>k6 [z.1,z.2]:=by
 unfold Ga;apply AV;intro i;simp [Function.comp_def]
theorem lR (xs:List wF):(xs.mapIdx fun i d=>(xL i,d)).map (·.2)=xs:=by
 apply AV;intro i;simp only [xQ,IU,Option.map_map];cases xs[i]? <;> rfl
theorem iB {xs:List wF} {x:wF} (h:x∈Gx xs (some (-3)) none):x∈xs:=by
 unfold Gx at h;exact EC (IT h)
theorem qQ (xs:List wF) (lo hi:Option Int):(Gx xs lo hi).length<=xs.length:=by
 unfold Gx;rw [BK,CY]; exact xD (j4 _ _) (Nat.sub_le _ _)
theorem Us {o:Out} {d:wF} (h:o=.rt d):o.fin=.ok d:=by rw [h]; rfl
theorem fS {a b:Int} (h:a < b):E9 .Lt (.int a) (.int b)=some (.bool true):=by rw [ltI,decide_eq_true h]
theorem fT {a b:Int} (h:¬ a < b):E9 .Lt (.int a) (.int b)=some (.bool false):=by rw [ltI,decide_eq_false h]
theorem Dm {f g:Dn->Res Bool} {δ:Dn} (h1:f δ=.ok true) (h2:g δ=.ok true):M1 f g δ=.ok true:=by unfold M1; rw [h1,C2,if_pos rfl,h2]
theorem Es {f g:Dn->Res Bool} {δ:Dn} (h1:f δ=.ok false):M1 f g δ=.ok false:=by unfold M1; rw [h1,C2,if_neg (by decide)]
theorem Z8 {f g:Dn->Res Bool} {δ:Dn} (h1:f δ=.ok true) (h2:g δ=.ok false):M1 f g δ=.ok false:=by unfold M1; rw [h1,C2,if_pos rfl,h2]
theorem sG {f:Dn->Res wF} {lo hi:Dn->Res (Option Int)} {δ:Dn} {x y:wF} {l u:Option Int} (h1:f δ=.ok x) (h2:lo δ=.ok l) (h3:hi δ=.ok u) (h4:gL x l u=some y):vSl f lo hi δ=.ok y:=by unfold vSl; rw [h1,C2,h2,C2,h3,C2,h4]; rfl
theorem qG (ns:List Int) (hns:ns.length<=63) {S:IdP->wF->Prop} {U:IdP->IdP->Prop} (a:Int) (p:IdP) (ho:okI p) (kn0:List Dp) (hk:∀ e∈kn0,Wf e.2 (S e.2) (U e.2) e.1/\e.2.1 < p.1) (up:kn0.Pairwise (fun a b=>key a.2 < key b.2)) (hkl:kn0.length<=9) (x y z:Str) (hxyz:V3 x/\V3 y/\V3 z) :
   ∃ d,M8 [scr ns,.int a,idP p,.tuple (kn0.map (·.1)),.list [.str x,.str y,.str z]]=.ok d/\Wf p (SgOf p.1 (kn0.map (·.1))) (fun q=>∃ e∈kn0,e.2=q) d:=by
 have hids:∀ d∈kn0.map (·.1),∃ q:IdP,dIx d (.int 1)=some (idP q)/\∃ e∈kn0,e.2=q:=fun d hd=>by
   obtain ⟨e,he,rfl⟩:=xF.mp hd; obtain ⟨_,hf⟩:=(hk e he).1; refine ⟨e.2,?_,e,he,rfl⟩; rcases hf with ⟨_,_,q,_⟩ | ⟨_,q,_⟩ | ⟨_,_,_,_,_,q,_⟩ | ⟨_,q,_⟩ | ⟨_,q,_⟩ <;> rw [q] <;> exact L7 (j:=1) (by simp)
 obtain ⟨sg,es,hsl,hsg,hsr⟩:=iR (T:=p.1) kn0 hk up (by lia);have hkl':(kn0.map (·.1)).length<=9:=by rw [wL]; exact hkl
 generalize kn0.map (·.1)=kn at *;obtain ⟨way,ew,w0,w1⟩:=K9 ns hns a 12 (by decide);obtain ⟨r5,e5,a5,b5⟩:=K9 ns hns (a+5) 3 (by decide);obtain ⟨nm,hnm,f5⟩:=ixL (xs:=[.str x,.str y,.str z]) a5 b5;have:∃ q,nm=.str q/\V3 q:=by
   simp only [wK,BJ,or_false] at hnm; rcases hnm with rfl | rfl | rfl
   . exact ⟨_,rfl,hxyz.1⟩
   . exact ⟨_,rfl,hxyz.2.1⟩
   . exact ⟨_,rfl,hxyz.2.2⟩
 obtain ⟨q,rfl,hq⟩:=this;unfold M8 Cc An Am Al Ak Aj Ai Ah Ag F8;rw [Os];simp only [M6,wQ,j5,wT,zD,xI,zG,yB,l6,l5];rw [B2 (C8 (B8 (A5 rfl rfl) es)),B2 (C8 (B8 (A5 rfl (A5 rfl (A5 rfl rfl))) ew))];simp only [xJ,xK];by_cases c1:way < 2/\sg≠[]
 . have t1 : (M1 (B4 (b2 (A0 6) (vC (.int 2)) (E9 .Lt))) (B4 (b2 (A0 5) (F5 A6) dNe))) [.sh (scr ns), .sh (.int a), .sh (idP p), .sh (.tuple kn), .sh (.list [.str x, .str y, .str z]), .sh (.list sg), .sh (.int way), .un, .un, .un] = .ok true := by
     have:sg.isEmpty=false:=by cases sg with | nil=>exact absurd rfl c1.2 | cons _ _=>rfl
     exact Dm (B9 (B1 rfl rfl (fS c1.1))) (B9 (B1 rfl rfl (by rw [vL,this]; rfl)))
   have hall:∀ z∈sg.mapIdx (fun i d=>(xL i,d)),∃ b,(B4 (b2 (B5 (A1 (A0 2) (A1 (b2 (b2 (A0 3) (vC (.int 20)) C5) (A0 0) C5) (A1 (vC (.int 4)) A6))) B0) (vC (.int 0)) dEq)) ([.sh z.1,.sh z.2]++[.sh (scr ns),.sh (.int a)])=.ok b:=fun z hz=>by
     rw [List.mem_mapIdx] at hz; obtain ⟨i,hi,rfl⟩:=hz; obtain ⟨r,er,_,_⟩:=K9 ns hns (a+20+(i:Int)) 4 (by decide);refine ⟨r==0,?_⟩;simp_arith [U1,er,aZ]
   obtain ⟨ys,g1,g2'⟩:=Sw _ hall; rw [lR] at g2'; rw [<- pW] at g1; have g2:=g2'.length_le; have hel:(Ga sg).length=sg.length:=by unfold Ga; simp
   have n1:E2 (fun δ=>((A1 (A0 5) A6) δ).bind Ou) O5 [0,1] (B4 (b2 (B5 (A1 (A0 2) (A1 (b2 (b2 (A0 3) (vC (.int 20)) C5) (A0 0) C5) (A1 (vC (.int 4)) A6))) B0) (vC (.int 0)) dEq)) (A0 1) [.sh (scr ns),.sh (.int a),.sh (idP p),.sh (.tuple kn),.sh (.list [.str x,.str y,.str z]),.sh (.list sg),.sh (.int way),.un,.un,.un]=.ok ys :=
     D7 (ds:=Ga sg) (by show ((A1 (A0 5) A6) _).bind Ou=_; rw [A5 (d:=.list sg) (ds:=[]) rfl rfl]; rfl) (by lia) rfl g1
   have hex:∃ ex:List wF,ex.length<=1/\((ys++ex).Sublist sg/\ys++ex≠[])/\N2 (.list (sg.take 1)) (.int (if ys.isEmpty=true then 1 else 0))=some (.list ex):=by
     have lt:(sg.take 1).length<=1:=by simp; lia
     cases ey:ys with
     | nil =>
       refine ⟨(xI 1 (sg.take 1)).flatten,by simpa using lt,⟨by simpa using FM 1 sg,fun z=>c1.2 ?_⟩,?_⟩
       . cases sg with
         | nil=>rfl
         | cons _ _=>simp at z
       . rw [if_pos (show List.isEmpty []=true from rfl)]
         exact mulL ⟨by decide,by decide,xD (show _<=1 by simpa using lt) (by decide)⟩
     | cons y0 yr =>
       refine ⟨[],by simp,⟨by rw [yL,<- ey]; exact g2',by simp⟩,?_⟩;rw [if_neg (by simp)]; exact mulL ⟨by decide,by decide,by simp⟩
   obtain ⟨ex,exl,exs,hmul⟩:=hex; have hadd:=Zm (x:=ys) (y:=ex) (by lia);have cut1:gL (.list sg) none (some 1)=some (.list (sg.take 1)):=by
     show some (HQ (Gx sg none (some 1)))=_;congr 2;cases sg with
     | nil=>rfl
     | cons s r =>
       unfold Gx HT.sIx; simp
   have hint:Ku [.bool ys.isEmpty]=some (.int (if ys.isEmpty=true then 1 else 0)):=rfl;have htup:∀ l,Gd [.list l]=some (.tuple l):=fun _=>rfl;have hnew:De 8 (E2 (fun δ=>((A1 (A0 5) A6) δ).bind Ou) O5 [0,1] (B4 (b2 (B5 (A1 (A0 2) (A1 (b2 (b2 (A0 3) (vC (.int 20)) C5) (A0 0) C5) (A1 (vC (.int 4)) A6))) B0) (vC (.int 0)) dEq)) (A0 1)) [.sh (scr ns),.sh (.int a),.sh (idP p),.sh (.tuple kn),.sh (.list [.str x,.str y,.str z]),.sh (.list sg),.sh (.int way),.un,.un,.un]=.nx [.sh (scr ns),.sh (.int a),.sh (idP p),.sh (.tuple kn),.sh (.list [.str x,.str y,.str z]),.sh (.list sg),.sh (.int way),.un,.sh (.list ys),.un]:=by
     unfold De; rw [n1]; rfl
   have t2:(F6 (E7 (A1 (vC (.str "drop")) (A1 (A0 2) (A1 (vFn (A1 (b2 (A0 8) (b2 (vSl (A0 5) Og (T7 (vC (.int 1)))) (vFn (A1 (b2 (A0 8) (F5 A6) dEq) A6) Ku) N2) C5) A6) Gd) A6))))) [.sh (scr ns),.sh (.int a),.sh (idP p),.sh (.tuple kn),.sh (.list [.str x,.str y,.str z]),.sh (.list sg),.sh (.int way),.un,.sh (.list ys),.un]=.rt (.tuple [.str "drop",idP p,.tuple (ys++ex)]):=by
     simp_arith [qO,hint,cut1,hmul,hadd,htup]
   rw [Bm ((W7 t1).trans ((B2 hnew).trans t2))]; refine ⟨_,rfl,ho,.inr (.inl ⟨_,rfl,fun s hs=>hsg s (exs.1.subset hs),?_,exs.2,hsr.sublist exs.1⟩)⟩;rw [xG];lia
 . have t1 : (M1 (B4 (b2 (A0 6) (vC (.int 2)) (E9 .Lt))) (B4 (b2 (A0 5) (F5 A6) dNe))) [.sh (scr ns), .sh (.int a), .sh (idP p), .sh (.tuple kn), .sh (.list [.str x, .str y, .str z]), .sh (.list sg), .sh (.int way), .un, .un, .un] = .ok false := by
     by_cases h2:way < 2
     . have:sg=[]:=x3 fun z=>c1 ⟨h2,z⟩
       subst this; exact Z8 (B9 (B1 rfl rfl (fS h2))) (B9 (B1 rfl rfl (vL [])))
     . exact Es (B9 (B1 rfl rfl (fT h2)))
   rw [K4 t1];by_cases c2:way < 5
   . obtain ⟨s1,x1,f1,g1,l1⟩:=Ti ns hns (a+1) (SgOf p.1 kn) sg hsg hsl
     obtain ⟨s2,x2,f2,g2,l2⟩:=Ti ns hns (a+3) (SgOf p.1 kn) sg hsg hsl; have hadd:=addT (x:=[.str "mark",idP p,.str q]) (y:=[.tuple [s1,.str x1],.tuple [s2,.str x2]]) (by simp);refine ⟨.tuple [.str "mark",idP p,.str q,.tuple [s1,.str x1],.tuple [s2,.str x2]],?_,ho,.inr (.inr (.inl ⟨q,s1,x1,s2,x2,rfl,g1,g2,hq,l1,l2⟩))⟩; exact Us (Bm ((W7 (B9 (B1 rfl rfl (fS c2)))).trans ((B2 (C8 (U3 (A5 (B8 (A5 rfl (A5 (B1 rfl rfl U1) (A5 rfl rfl))) f1) (A5 (B8 (A5 rfl (A5 (B1 rfl rfl U1) (A5 rfl rfl))) f2) rfl))))).trans (I0 (B1 (U3 (A5 rfl (A5 rfl (A5 (B1 rfl (B8 (A5 rfl (A5 (B1 rfl rfl U1) (A5 rfl rfl))) e5) f5) rfl)))) rfl hadd)))))
   . by_cases c3:way=5
     . refine ⟨.tuple [.str "unmark",idP p,.str q],?_,ho,.inr (.inr (.inr (.inl ⟨q,rfl,hq⟩)))⟩
       rw [K4 (B9 (B1 rfl rfl (fT c2)))]; exact Us (Bm ((W7 (B9 (B1 rfl rfl (by rw [aZ,c3]; rfl)))).trans (I0 (U3 (A5 rfl (A5 rfl (A5 (B1 rfl (B8 (A5 rfl (A5 (B1 rfl rfl U1) (A5 rfl rfl))) e5) f5) rfl)))))))
     . have c3':(way==5)=false:=by simpa using c3
       by_cases c4:way < 8/\kn≠[]
       . have hne:kn.isEmpty=false:=by cases kn with | nil=>exact absurd rfl c4.2 | cons _ _=>rfl
         have hpos:(0:Int) < kn.length:=by cases kn with | nil=>exact absurd rfl c4.2 | cons _ _=>simp
         obtain ⟨r6,e6,a6,b6⟩:=K9 ns hns (a+6) (kn.length:Int) hpos; obtain ⟨d,hd,f6⟩:=Lw (xs:=kn) a6 b6; obtain ⟨qi,f7,hu⟩:=hids d hd; have f6':dIx (.tuple kn) (.int r6)=some d:=f6; refine ⟨.tuple [.str "undo",idP p,idP qi],?_,ho,.inr (.inr (.inr (.inr ⟨_,rfl,hu⟩)))⟩; rw [K4 (B9 (B1 rfl rfl (fT c2))),K4 (B9 (B1 rfl rfl (by rw [aZ,c3'])))];exact Us (Bm ((W7 (Dm (B9 (B1 rfl rfl (fS c4.1))) (B9 (B1 rfl rfl (by rw [qN,hne]; rfl))))).trans (I0 (U3 (A5 rfl (A5 rfl (A5 (B1 (B1 rfl (B8 (A5 rfl (A5 (B1 rfl rfl U1) (A5 (O0 (A5 rfl rfl) (lenT _)) rfl))) e6) f6') rfl f7) rfl)))))))
       . have t4 : (M1 (B4 (b2 (A0 6) (vC (.int 8)) (E9 .Lt))) (B4 (b2 (A0 3) (E7 A6) dNe))) [.sh (scr ns), .sh (.int a), .sh (idP p), .sh (.tuple kn), .sh (.list [.str x, .str y, .str z]), .sh (.list sg), .sh (.int way), .un, .un, .un] = .ok false := by
           by_cases h2:way < 8
           . have:kn=[]:=x3 fun z=>c4 ⟨h2,z⟩
             subst this; exact Z8 (B9 (B1 rfl rfl (fS h2))) (B9 (B1 rfl rfl (qN [])))
           . exact Es (B9 (B1 rfl rfl (fT h2)))
         obtain ⟨w,ew2,wl⟩:=gV ns hns (a+8); have g1:=Zm (x:=[.none]) (y:=sg) (by simp; lia);have hc:gL (.list sg) (some (-3)) none=some (.list (Gx sg (some (-3)) none)):=rfl; have hcl:=qQ sg (some (-3)) none; have hcm:∀ s∈Gx sg (some (-3)) none,SgOf p.1 kn s:=fun s hs=>hsg s (iB hs);generalize Gx sg (some (-3)) none=ct at *;have g2:=Zm (x:=[.none]++sg) (y:=ct) (by simp; lia);obtain ⟨r7,e7,a7,b7⟩:=K9 ns hns (a+7) ((sg.length:Int)+1+(ct.length:Int)) (by lia);obtain ⟨bh,hbh,f7⟩:=ixL (xs:=[.none]++sg++ct) a7 (by simp; lia);have hneg:Jw (.int 3)=some (.int (-3)):=rfl; have hb:OrN (SgOf p.1 kn) bh:=by
           rcases wY.mp hbh with h | h
           . rcases wY.mp h with h | h
             . exact .inl (wX.mp h)
             . exact .inr (hsg bh h)
           . exact .inr (hcm bh h)
         generalize [PyData.none]++sg=L1 at *;generalize L1++ct=L2' at *;refine ⟨.tuple [.str "add",idP p,bh,.str w],?_,ho,.inl ⟨bh,w,rfl,hb,wl⟩⟩; rw [K4 (B9 (B1 rfl rfl (fT c2))),K4 (B9 (B1 rfl rfl (by rw [aZ,c3']))),K4 t4];have sl:vSl (A0 5) (T7 (b1 (vC (.int 3)) Jw)) Og [.sh (scr ns),.sh (.int a),.sh (idP p),.sh (.tuple kn),.sh (.list [.str x,.str y,.str z]),.sh (.list sg),.sh (.int way),.un,.un,.un]=.ok (.list ct):=sG rfl rfl rfl hc; exact Us ((B2 (C8 (B1 (B1 (B1 rfl rfl g1) sl g2) (B8 (A5 rfl (A5 (B1 rfl rfl U1) (A5 (B1 (B1 (O0 (A5 rfl rfl) (uR _)) rfl U1) (O0 (A5 sl rfl) (uR _)) U1) rfl))) e7) f7))).trans (I0 (U3 (A5 rfl (A5 rfl (A5 rfl (A5 (B8 (A5 rfl (A5 (B1 rfl rfl U1) rfl)) ew2) rfl)))))))
noncomputable def dM:Dn->Out:=(B7 (D5 7 (b2 (b2 (A0 5) (vC (.int 0)) dIx) (B5 (A1 (A0 0) (A1 (b2 (b2 (A0 1) (vC (.int 1)) C5) (b2 (vC (.int 60)) (A0 6) N2) C5) (A1 (vC (.int 2)) A6))) B0) C5)) (B7 (D5 8 (b2 (vC (.str "abc")) (B5 (A1 (A0 0) (A1 (b2 (b2 (A0 1) (vC (.int 2)) C5) (b2 (vC (.int 60)) (A0 6) N2) C5) (A1 (vC (.int 3)) A6))) B0) dIx)) (B7 (sIf (M1 (B4 (b2 (A0 4) (E7 A6) dNe)) (B4 (b2 (E7 (A1 (A0 7) (A1 (A0 8) A6))) (A0 5) (E9 .LtE)))) (D5 7 (b2 (b2 (A0 5) (vC (.int 0)) dIx) (vC (.int 1)) C5)) E1) (B7 (D5 5 (E7 (A1 (A0 7) (A1 (A0 8) A6)))) (B7 (D5 9 (vFn (A1 (F5 (E2 (fun δ=>((A0 4) δ).bind C9) E4 [7] (B4 (b2 (b2 (b2 (A0 0) (vC (.int 1)) dIx) (vC (.int 0)) dIx) (A0 1) (E9 .Lt))) (A0 0))) A6) Gd)) (D5 4 (b2 (A0 4) (E7 (A1 (B5 (A1 (A0 0) (A1 (b2 (b2 (A0 1) (vC (.int 3)) C5) (b2 (vC (.int 60)) (A0 6) N2) C5) (A1 (A0 5) (A1 (A0 9) (A1 (A0 3) A6))))) M8) A6)) C5)))))))
theorem leS (h h':Str) (k:okH h) (k':okH h'):(h==h')=decide (hj h=hj h')/\Wz .LtE h h'=decide (hj h<=hj h'):=by
 rcases k with rfl | rfl | rfl <;> rcases k' with rfl | rfl | rfl <;> exact ⟨by decide +kernel,by decide +kernel⟩
theorem leIdE {t t':Int} {h h':Str} (k:okH h) (k':okH h'):E9 .LtE (idD t h) (idD t' h')=some (.bool (decide (key (t,h)<=key (t',h')))):=by
 obtain ⟨e1,e2⟩:=leS h h' k k';have l1:=Yg h;have l2:=Yg h';unfold E9 key;rw [if_pos (xD (pZ t h) (by decide))];show (Fi .LtE [.int t,.str h] [.int t',.str h']).map BI=_;simp only [Fi];have f1:xE (.int t) (.int t')=(t==t'):=rfl;have f2:xE (.str h) (.str h')=(h==h'):=rfl;rw [f1,f2,e1];by_cases c1:t=t'
 . subst c1
   rw [if_pos (by simp)];by_cases c2:hj h=hj h'
   . rw [if_pos (by simp [c2])]
     simp [Zn,c2]
   . rw [if_neg (by simp [c2])]
     show (some (Wz .LtE h h')).map BI=_;rw [e2]; simp only [BQ];congr 3;apply propext; lia
 . rw [if_neg (by simp [c1])]
   show (some (decide (t<=t'))).map BI=_;simp only [BQ];congr 3;apply propext; lia
theorem Wf.id {p:IdP} {S:wF->Prop} {U:IdP->Prop} {d:wF} (w:Wf p S U d):dIx d (.int 1)=some (idP p):=by
 obtain ⟨_,hf⟩:=w;rcases hf with ⟨_,_,q,_⟩ | ⟨_,q,_⟩ | ⟨_,_,_,_,_,q,_⟩ | ⟨_,q,_⟩ | ⟨_,q,_⟩ <;> rw [q] <;> exact L7 (j:=1) (by simp)
theorem ix0 (x:wF) (xs:List wF):dIx (.tuple (x::xs)) (.int 0)=some x:=L7 (xs:=x::xs) (j:=0) (by simp)
theorem abc {c:Nat} (h:c∈("abc" : Str).cps.toList):(⟨#[c]⟩:Str) = "a" \/ (⟨#[c]⟩:Str) = "b" \/ (⟨#[c]⟩:Str) = "c" := by
 have h':c∈[97,98,99]:=by
   have:("abc" : Str).cps.toList=[97,98,99]:=by decide
   rw [this] at h; exact h
 simp only [wK,BJ,or_false] at h';rcases h' with rfl | rfl | rfl
 . exact .inl (by decide)
 . exact .inr (.inl (by decide))
 . exact .inr (.inr (by decide))
theorem dG {δc:Dn} {tt:Dn->Res Bool} (f:Dp->Bool):∀ L:List Dp,(∀ e∈L,tt ([.sh e.1]++δc)=.ok (f e))->D1 E4 δc tt (A0 0) (L.map (·.1))=.ok ((L.filter f).map (·.1))
 | [],_=>rfl
 | e::L,h=>by
   have h1:=h e (.head _); have ih:=dG f L fun e' he=>h e' (.tail _ he);rw [wQ]; unfold D1; rw [show E4 e.1=.ok [.sh e.1] from rfl];simp only [h1,ih];cases hf:f e with
   | true=>rw [List.filter_cons_of_pos hf]; rfl
   | false=>rw [List.filter_cons_of_neg (by rw [hf]; decide)]
def Upk (L:List Dp):Prop:=L.Pairwise fun a b=>key a.2 < key b.2
def WfIn (L:List Dp) (e:Dp):Prop:=Wf e.2 (SgOf e.2.1 (L.map (·.1))) (fun q=>(∃ e'∈L,e'.2=q)/\q.1 < e.2.1) e.1
def BkW (L:List Dp):Prop:=(∀ e∈L,WfIn L e)/\Upk L
theorem WfIn.mono {L L':List Dp} {e:Dp} (h:WfIn L e) (k:∀ x∈L,x∈L'):WfIn L' e :=
 Wf.mono h (fun x hx=>hx.mono fun d hd=>by obtain ⟨y,hy,rfl⟩:=xF.mp hd; exact yP (k y hy)) fun q ⟨⟨y,hy,e⟩,hq⟩=>⟨⟨y,k y hy,e⟩,hq⟩
theorem gR (ns:List Int) (hns:ns.length<=63) (x y z:Str) (hxyz:V3 x/\V3 y/\V3 z) (k:Int) (hk:0<=k) (hk2:k < 10) (j:Nat) (hj:j < 10) (L:List Dp) (hl:L.length=j) (hd:BkW L) (t:Int) (h:Str) (ht:1<=t) (ht2:t<=j+1) (hth:okH h) (s7 s8 s9:Sl) :
   ∃ (d:wF) (t':Int) (h':Str) (s7' s8' s9':Sl),WfIn L (d,(t',h'))/\1<=t'/\t'<=((j+1:Nat):Int)+1/\okH h'/\(L=[]\/key (t,h) < key (t',h'))/\dM [.sh (scr ns),.sh (.int 10),.sh (.int 10),.sh (.list [.str x,.str y,.str z]),.sh (.tuple (L.map (·.1))),.sh (idD t h),.sh (.int k),s7,s8,s9]
     = .nx [.sh (scr ns),.sh (.int 10),.sh (.int 10),.sh (.list [.str x,.str y,.str z]),.sh (.tuple (L.map (·.1)++[d])),.sh (idD t' h'),.sh (.int k),s7',s8',s9']:=by
 obtain ⟨r1,e1,a1,b1⟩:=K9 ns hns (10+1+60*k) 2 (by decide);obtain ⟨r2,e2,a2,b2'⟩:=K9 ns hns (10+2+60*k) 3 (by decide);obtain ⟨c,hc,f2⟩:=lD (x := "abc") a2 (by have:("abc" : Str).cps.toList.length=3:=(by decide); rw [this]; exact b2');have hh:=abc hc;generalize (⟨#[c]⟩:Str)=hd' at *;have eb:=leIdE (t:=t+r1) (t':=t) (show okH hd' from hh) hth;have go : ∀ tt : Int, 1 <= tt -> tt <= j + 2 -> ∃ d, WfIn L (d, (tt, hd')) /\ ∃ kn, (B7 (D5 5 (E7 (A1 (A0 7) (A1 (A0 8) A6)))) (B7 (D5 9 (vFn (A1 (F5 (E2 (fun δ => ((A0 4) δ).bind C9) E4 [7] (B4 (b2 (b2 (b2 (A0 0) (vC (.int 1)) dIx) (vC (.int 0)) dIx) (A0 1) (E9 .Lt))) (A0 0))) A6) Gd)) (D5 4 (b2 (A0 4) (E7 (A1 (B5 (A1 (A0 0) (A1 (b2 (b2 (A0 1) (vC (.int 3)) C5) (b2 (vC (.int 60)) (A0 6) N2) C5) (A1 (A0 5) (A1 (A0 9) (A1 (A0 3) A6))))) M8) A6)) C5))))
     [.sh (scr ns),.sh (.int 10),.sh (.int 10),.sh (.list [.str x,.str y,.str z]),.sh (.tuple (L.map (·.1))),.sh (idD t h),.sh (.int k),.sh (.int tt),.sh (.str hd'),s9]
     = .nx [.sh (scr ns),.sh (.int 10),.sh (.int 10),.sh (.list [.str x,.str y,.str z]),.sh (.tuple (L.map (·.1)++[d])),.sh (idD tt hd'),.sh (.int k),.sh (.int tt),.sh (.str hd'),.sh (.tuple kn)]:=fun tt h1 h2=>by
   have g1:=dG (δc:=[.sh (.int tt)]) (tt:=B4 (b2 (b2 (b2 (A0 0) (vC (.int 1)) dIx) (vC (.int 0)) dIx) (A0 1) (E9 .Lt))) (fun e=>decide (e.2.1 < tt)) L fun e he=>by
     have:=(hd.1 e he).id;simp_arith [this,ix0,ltI]
   have fm:∀ e∈L.filter fun e=>decide (e.2.1 < tt),e∈L/\e.2.1 < tt:=fun e he=>by
     obtain ⟨m,q⟩:=yY.mp he; exact ⟨m,of_decide_eq_true q⟩
   have fl:=l9 (fun e:Dp=>decide (e.2.1 < tt)) L;obtain ⟨d,ed,wd'⟩:=qG ns hns (S:=fun p=>SgOf p.1 (L.map (·.1))) (U:=fun p q=>(∃ e'∈L,e'.2=q)/\q.1 < p.1) (10+3+60*k) (tt,hd') ⟨h1,by simp only; lia,hh⟩ (L.filter fun e=>decide (e.2.1 < tt)) (fun e he=>⟨hd.1 e (fm e he).1,(fm e he).2⟩) (hd.2.filter _) (by lia) x y z hxyz;have wd:WfIn L (d,(tt,hd')):=wd'.mono (fun x hx=>hx.mono fun q hq=>by obtain ⟨e,he,rfl⟩:=xF.mp hq; exact yP (fm e he).1) fun q ⟨e,he,hq⟩=>⟨⟨e,(fm e he).1,hq⟩,hq▸(fm e he).2⟩;have ll:(L.map (·.1)).length=j:=by rw [wL]; exact hl
   generalize (L.filter fun e=>decide (e.2.1 < tt)).map (·.1)=kn at *;refine ⟨d,wd,kn,?_⟩; have hadd:=addT (x:=L.map (·.1)) (y:=[d]) (by simp; lia);have htup:Gd [.list kn]=some (.tuple kn):=rfl; rw [B2 (C8 (U3 (A5 rfl (A5 rfl rfl))))]; simp only [xJ,xK]; rw [B2 (C8 (O0 (A5 (M3 (D7 (D3 rfl rfl) (by lia) rfl g1)) rfl) htup))]; simp only [xJ,xK];simp_arith [U1,kP,ed,hadd]
 unfold dM;rw [B2 (C8 (d:=.int (t+r1)) (by simp_arith [ix0,U1,kP,e1]))];simp only [xJ,xK];rw [B2 (C8 (d:=.str hd') (by simp_arith [U1,kP,e2,f2]))];simp only [xJ,xK];have hc1:∃ b,(b=false->L=[]\/key (t,h) < key (t+r1,hd'))/\(M1 (B4 (b2 (A0 4) (E7 A6) dNe)) (B4 (b2 (E7 (A1 (A0 7) (A1 (A0 8) A6))) (A0 5) (E9 .LtE)))) [.sh (scr ns),.sh (.int 10),.sh (.int 10),.sh (.list [.str x,.str y,.str z]),.sh (.tuple (L.map (·.1))),.sh (idD t h),.sh (.int k),.sh (.int (t+r1)),.sh (.str hd'),s9]=.ok b:=by
   cases he:(L.map (·.1)).isEmpty with
   | true=>exact ⟨false,fun _=>.inl (by cases L with | nil=>rfl | cons _ _=>cases he),by simp_arith [qN,he,FE]⟩
   | false=>exact ⟨decide (key (t+r1,hd')<=key (t,h)),fun z=>.inr (by have:=of_decide_eq_false z; lia),by simp_arith [qN,he,Bool.not_false,eb]⟩
 obtain ⟨b,hbk,hb⟩:=hc1;cases b with
 | true =>
   obtain ⟨d,wd,kn,ek⟩:=go (t+1) (by lia) (by lia);refine ⟨d,t+1,hd',.sh (.int (t+1)),.sh (.str hd'),.sh (.tuple kn),wd,by lia,by lia,hh,.inr (by have:=Yg h; unfold key; simp only; lia),?_⟩;rw [B2 ((W7 hb).trans (C8 (d:=.int (t+1)) (by simp_arith [ix0,U1])))];simp only [xJ,xK]; exact ek
 | false =>
   obtain ⟨d,wd,kn,ek⟩:=go (t+r1) (by lia) (by lia);refine ⟨d,t+r1,hd',.sh (.int (t+r1)),.sh (.str hd'),.sh (.tuple kn),wd,by lia,by lia,hh,hbk rfl,?_⟩;rw [K4 hb]; exact ek
theorem BkW.snoc {L:List Dp} {d:wF} {p q:IdP} (h:BkW L) (w:WfIn L (d,q)) (hk:∀ e∈L,key e.2<=key p) (hq:L=[]\/key p < key q):BkW (L++[(d,q)])/\∀ e∈L++[(d,q)],key e.2<=key q:=by
 have lt:∀ e∈L,key e.2 < key q:=fun e he=>by
   rcases hq with z | z
   . rw [z] at he; exact nomatch he
   . have:=hk e he; lia
 have up:∀ x∈L,x∈L++[(d,q)]:=fun x hx=>ED _ hx;refine ⟨⟨fun e he=>?_,?_⟩,fun e he=>?_⟩
 . rcases wY.mp he with z | z
   . exact (h.1 e z).mono up
   . rw [wX.mp z]; exact w.mono up
 . exact y4.mpr ⟨h.2,o4 _ _,fun a ha b hb=>by rw [wX.mp hb]; exact lt a ha⟩
 . rcases wY.mp he with z | z
   . exact Int.le_of_lt (lt e z)
   . rw [wX.mp z]; exact Int.le_refl _
theorem Ta (ns:List Int) (hns:ns.length<=63) (x y z:Str) (hxyz:V3 x/\V3 y/\V3 z):∀ (l:List wF),(∀ d∈l,∃ k:Int,d=.int k/\0<=k/\k < 10)->∀ (j:Nat) (L:List Dp) (t:Int) (h:Str) (s6 s7 s8 s9:Sl),j+l.length<=10->L.length=j->BkW L->(∀ e∈L,key e.2<=key (t,h))->1<=t->t<=j+1->okH h ->
   ∃ L' s5 s6' s7' s8' s9',BkW L'/\L'.length<=10/\D8 (st1 6) dM l [.sh (scr ns),.sh (.int 10),.sh (.int 10),.sh (.list [.str x,.str y,.str z]),.sh (.tuple (L.map (·.1))),.sh (idD t h),s6,s7,s8,s9]=.nx [.sh (scr ns),.sh (.int 10),.sh (.int 10),.sh (.list [.str x,.str y,.str z]),.sh (.tuple (L'.map (·.1))),s5,s6',s7',s8',s9']
 | [],_,j,L,t,h,s6,s7,s8,s9,hj,hl,hd,_,_,_,_=>⟨L,_,_,_,_,_,hd,by simp at hj; lia,rfl⟩
 | d0::l,hk,j,L,t,h,s6,s7,s8,s9,hj,hl,hd,hb,h1,h2,h3=>by
   obtain ⟨k,rfl,k0,k1⟩:=hk d0 (.head _); simp only [wT] at hj; obtain ⟨d,t',h',s7',s8',s9',wd,t1,t2,t3,kk,e⟩:=gR ns hns x y z hxyz k k0 k1 j (by lia) L hl hd t h h1 h2 h3 s7 s8 s9;obtain ⟨hB,hB2⟩:=hd.snoc wd hb kk; obtain ⟨L',s5,s6',s7'',s8'',s9'',w',l',e'⟩:=Ta ns hns x y z hxyz l (fun d hd=>hk d (.tail _ hd)) (j+1) (L++[(d,(t',h'))]) t' h' (.sh (.int k)) s7' s8' s9' (by lia) (by simp [hl]) hB hB2 t1 t2 t3;refine ⟨L',s5,s6',s7'',s8'',s9'',w',l',?_⟩; unfold D8; simp only [st1,xJ,xK]; rw [e]; rw [xR] at e'; exact e'
theorem rA (ns:List Int) (hns:ns.length<=63) (x y z:Str) (hxyz:V3 x/\V3 y/\V3 z):∃ L,X0 [scr ns,.int 10,.int 10,.list [.str x,.str y,.str z]]=.ok (.tuple (L.map (·.1)))/\L.length<=10/\BkW L:=by
 obtain ⟨r,e,a,b⟩:=K9 ns hns 10 (10+1) (by decide);have hmem:∀ d∈W8 0 r,∃ k:Int,d=.int k/\0<=k/\k < 10:=fun d hd=>by
   unfold W8 at hd; obtain ⟨i,hi,rfl⟩:=xF.mp hd; have:=o5.mp hi; exact ⟨_,rfl,by lia,by lia⟩
 have hlen:(W8 0 r).length<=10:=by unfold W8; simp; lia
 obtain ⟨L,s5,s6,s7,s8,s9,w,l,e'⟩:=Ta ns hns x y z hxyz (W8 0 r) hmem 0 [] 1 "a" .un .un .un .un (by lia) rfl ⟨(fun _ h=>nomatch h),.nil⟩ (fun _ h=>nomatch h) (by decide) (by decide) (.inl rfl);refine ⟨L,P6 ?_,l,w⟩;unfold Ce Ar Aq Ap Ao M9;simp only [M6,wQ,j5,wT,zD,xI,zG,yB,l6,l5];rw [B2 (C8 (d:=.tuple []) rfl),B2 (C8 (d:=idD 1 "a") rfl)];simp only [xJ,xK];have hfor:K5 (fun δ=>((A1 (B5 (A1 (A0 0) (A1 (A0 1) (A1 (b2 (A0 2) (vC (.int 1)) C5) A6))) B0) A6) δ).bind Ih) (st1 6) dM [.sh (scr ns),.sh (.int 10),.sh (.int 10),.sh (.list [.str x,.str y,.str z]),.sh (.tuple []),.sh (idD 1 "a"),.un,.un,.un,.un]=.nx [.sh (scr ns),.sh (.int 10),.sh (.int 10),.sh (.list [.str x,.str y,.str z]),.sh (.tuple (L.map (·.1))),s5,s6,s7,s8,s9]:=by
   unfold K5; have:=Tn (fs:=A1 (B5 (A1 (A0 0) (A1 (A0 1) (A1 (b2 (A0 2) (vC (.int 1)) C5) A6))) B0) A6) (δ:=[.sh (scr ns),.sh (.int 10),.sh (.int 10),.sh (.list [.str x,.str y,.str z]),.sh (.tuple []),.sh (idD 1 "a"),.un,.un,.un,.un]) (n:=r) (by simp_arith [U1,e]) a (by lia);rw [this,D2]; exact e'
 exact (B2 hfor).trans (I0 rfl)
structure Ad where
 p:IdP
 b:Option (IdP×Nat)
 w:Str
abbrev As:=Ad×Nat
abbrev sgn (u:As):IdP×Nat:=(u.1.p,u.2)
noncomputable def blk (e:Ad):List As:=(zK e.w.length).map fun k=>(e,k)
noncomputable def Ye (s:IdP×Nat) (l:List As):List As->List As
 | []=>[]
 | u::r=>if sgn u=s then u::(l++r) else u::Ye s l r
noncomputable def pR (x:Option (IdP×Nat)) (l L:List As):List As:=match x with
 | none=>l++L
 | some s=>Ye s l L
noncomputable def ord (B:List Ad):List As:=B.foldl (fun L a=>pR a.b (blk a) L) []
theorem Ii (B:List Ad) (e:Ad):ord (B++[e])=pR e.b (blk e) (ord B):=by unfold ord; rw [List.foldl_append]; rfl
inductive Bk:List Ad->Prop where
 | nil:Bk []
 | snoc {B:List Ad} {e:Ad}:Bk B->0 < e.w.length->(∀ a∈B,key a.p < key e.p)->(e.b=none\/∃ a∈B,∃ n,n < a.w.length/\e.b=some (a.p,n))->Bk (B++[e])
theorem cU {e:Ad} {u:As}:u∈blk e↔u.1=e/\u.2 < e.w.length:=by
 unfold blk;rw [xF];constructor
 . rintro ⟨k,hk,rfl⟩; exact ⟨rfl,o5.mp hk⟩
 . rintro ⟨h1,h2⟩; exact ⟨u.2,o5.mpr h2,by rw [<- h1]⟩
theorem Yd {s:IdP×Nat} {l:List As} {v:As}:∀ {L:List As},(∃ u∈L,sgn u=s)->(v∈Ye s l L↔v∈l\/v∈L)
 | [],h=>by obtain ⟨u,hu,_⟩:=h; cases hu
 | u::r,h=>by
   unfold Ye;split
   . rw [wK,wY,wK]
     constructor
     . rintro (h | h | h)
       . exact .inr (.inl h)
       . exact .inl h
       . exact .inr (.inr h)
     . rintro (h | h | h)
       . exact .inr (.inl h)
       . exact .inl h
       . exact .inr (.inr h)
   . rename_i hn
     have h':∃ u∈r,sgn u=s:=by
       obtain ⟨x,hx,e⟩:=h; rcases wK.mp hx with rfl | hx
       . exact absurd e hn
       . exact ⟨x,hx,e⟩
     rw [wK,Yd h',wK];constructor
     . rintro (h | h | h)
       . exact .inr (.inl h)
       . exact .inl h
       . exact .inr (.inr h)
     . rintro (h | h | h)
       . exact .inr (.inl h)
       . exact .inl h
       . exact .inr (.inr h)
theorem Bk.pos {B:List Ad} (h:Bk B):∀ a∈B,0 < a.w.length:=by
 induction h with
 | nil=>intro a h; cases h
 | snoc _ h0 _ _ ih =>
   intro a ha; rcases wY.mp ha with ha | ha
   . exact ih a ha
   . rw [wX.mp ha]; exact h0
theorem Bk.refs {B:List Ad} (h:Bk B):∀ c∈B,∀ q n,c.b=some (q,n)->∃ a∈B,a.p=q/\n < a.w.length:=by
 induction h with
 | nil=>intro a h; cases h
 | @snoc B e _ h0 _ hb ih =>
   intro c hc q n e1; rcases wY.mp hc with hc | hc
   . obtain ⟨a,ha,r⟩:=ih c hc q n e1; exact ⟨a,wY.mpr (.inl ha),r⟩
   . rw [wX.mp hc] at e1
     rcases hb with hb | ⟨a,ha,n',hn,hb⟩
     . rw [hb] at e1; cases e1
     . rw [hb] at e1; cases e1; exact ⟨a,wY.mpr (.inl ha),rfl,hn⟩
theorem Bk.nokid {B:List Ad} {e:Ad} (h:Bk B) (hk:∀ a∈B,key a.p < key e.p) (hb:e.b=none\/∃ a∈B,∃ n,n < a.w.length/\e.b=some (a.p,n)):∀ c∈B++[e],∀ n,c.b≠some (e.p,n):=by
 intro c hc n z;have:∃ a∈B,a.p=e.p:=by
   rcases wY.mp hc with hc | hc
   . obtain ⟨a,ha,r,_⟩:=h.refs c hc _ _ z; exact ⟨a,ha,r⟩
   . rw [wX.mp hc] at z
     rcases hb with hb | ⟨a,ha,n',hn,hb⟩
     . rw [hb] at z; cases z
     . rw [hb] at z; exact ⟨a,ha,congrArg Prod.fst (yM z)⟩
 obtain ⟨a,ha,r⟩:=this;have:=hk a ha;rw [r] at this;lia
theorem Df {B:List Ad} (h:Bk B):∀ u,u∈ord B↔u.1∈B/\u.2 < u.1.w.length:=by
 induction h with
 | nil=>intro u; constructor <;> intro h <;> simp [ord] at h
 | @snoc B e hB h0 hk hb ih =>
   intro u; have key:u∈pR e.b (blk e) (ord B)↔u∈blk e\/u∈ord B:=by
     rcases hb with hb | ⟨a,ha,n,hn,hb⟩
     . rw [hb]; exact wY
     . rw [hb]; exact Yd ⟨(a,n),(ih (a,n)).mpr ⟨ha,hn⟩,rfl⟩
   rw [Ii,key,cU,ih,wY,wX];constructor
   . rintro (⟨h1,h2⟩ | ⟨h1,h2⟩)
     . exact ⟨.inr h1,by rw [h1]; exact h2⟩
     . exact ⟨.inl h1,h2⟩
   . rintro ⟨h1 | h1,h2⟩
     . exact .inr ⟨h1,h2⟩
     . exact .inl ⟨h1,by rw [<- h1]; exact h2⟩
theorem Si {s:IdP×Nat} {l:List As}:∀ {L:List As},(∃ u∈L,sgn u=s)->(Ye s l L).Perm (l++L)
 | [],h=>by obtain ⟨u,hu,_⟩:=h; cases hu
 | u::r,h=>by
   unfold Ye;split
   . exact (List.perm_middle (l₁:=l) (a:=u) (l₂:=r)).symm
   . rename_i hn
     have h':∃ u∈r,sgn u=s:=by
       obtain ⟨x,hx,e⟩:=h; rcases wK.mp hx with rfl | hx
       . exact absurd e hn
       . exact ⟨x,hx,e⟩
     exact ((Si h').cons u).trans (List.perm_middle (l₁:=l) (a:=u) (l₂:=r)).symm
theorem Sj {B:List Ad} {e:Ad} (hB:Bk B) (hb:e.b=none\/∃ a∈B,∃ n,n < a.w.length/\e.b=some (a.p,n)):(pR e.b (blk e) (ord B)).Perm (blk e++ord B):=by
 rcases hb with hb | ⟨a,ha,n,hn,hb⟩
 . rw [hb]; exact zS _
 . rw [hb]; exact Si ⟨(a,n),(Df hB (a,n)).mpr ⟨ha,hn⟩,rfl⟩
noncomputable def sgs (B:List Ad):List As:=B.flatMap blk
theorem kA {B:List Ad} (h:Bk B):(ord B).Perm (sgs B):=by
 induction h with
 | nil=>exact zS _
 | @snoc B e hB h0 hk hb ih =>
   rw [Ii]; unfold sgs; rw [List.flatMap_append]; refine (Sj hB hb).trans ?_; refine List.perm_append_comm.trans ?_; rw [List.flatMap_cons,List.flatMap_nil,yL]; exact List.Perm.append_right _ ih
theorem gT (e:Ad):((blk e).map sgn).Nodup:=by
 unfold blk;rw [zV,BZ,w5];refine List.Pairwise.imp ?_ (BZ.mp List.nodup_range);intro a b h z;exact h (congrArg Prod.snd z)
theorem Jl {B:List Ad} (h:Bk B):((ord B).map sgn).Nodup:=by
 induction h with
 | nil=>exact .nil
 | @snoc B e hB h0 hk hb ih =>
   rw [Ii]; refine ((Sj hB hb).map sgn).nodup_iff.mpr ?_; rw [xR,w6]; refine ⟨gT e,ih,fun x hx y hy z=>?_⟩;obtain ⟨u,hu,rfl⟩:=xF.mp hx; obtain ⟨v,hv,rfl⟩:=xF.mp hy; have h1:=(cU.mp hu).1; have h2:=((Df hB v).mp hv).1; have h3:=hk v.1 h2; have h4:u.1.p=v.1.p:=congrArg Prod.fst z; rw [h1] at h4; rw [<- h4] at h3;lia
noncomputable def Gq (B:List Ad) (u:As):List As:=(B.filter fun c=>c.b=some (sgn u)).map fun c=>(c,0)
noncomputable def Ks (B:List Ad):List As:=(B.filter fun c=>c.b=none).map fun c=>(c,0)
noncomputable def nxt (u:As):List As:=if u.2+1 < u.1.w.length then [(u.1,u.2+1)] else []
inductive Run (B:List Ad):List As->List As->Prop where
 | nil:Run B [] []
 | step {u:As} {st out:List As}:Run B ((Gq B u).reverse++(nxt u++st)) out->Run B (u::st) (u::out)
theorem Run.blk {B:List Ad} {e:Ad} (hn:∀ c∈B,∀ n,c.b≠some (e.p,n)) {st out:List As} (h:Run B st out):∀ (j k:Nat),k+j+1=e.w.length->Run B ((e,k)::st) (((zK e.w.length).drop k).map (fun i=>(e,i))++out):=by
 have nk:∀ k,Gq B (e,k)=[]:=fun k=>by
   unfold Gq; rw [AU.mpr (fun c hc=>by simpa using hn c hc k),j5]
 intro j;induction j with
 | zero =>
   intro k hk; have hd:(zK e.w.length).drop k=[k]:=by
     rw [zJ (by simp; lia),List.getElem_range,AW (by simp; lia)]
   rw [hd]; refine .step ?_; rw [nk,List.reverse_nil,yB]; unfold nxt; rw [if_neg (by show ¬ (k+1 < e.w.length); lia),yB];exact h
 | succ j ih =>
   intro k hk; have hd:(zK e.w.length).drop k=k::(zK e.w.length).drop (k+1):=by
     rw [zJ (by simp; lia),List.getElem_range]
   rw [hd]; refine .step ?_; rw [nk,List.reverse_nil,yB]; unfold nxt; rw [if_pos (by show k+1 < e.w.length; lia)];exact ih (k+1) (by lia)
theorem Run.new {B:List Ad} {e:Ad} (hp:0 < e.w.length) (hn:∀ c∈B,∀ n,c.b≠some (e.p,n)) {st out:List As} (h:Run B st out):Run B ((e,0)::st) (Sm.blk e++out):=by
 have:=h.blk hn (e.w.length - 1) 0 (by lia);rw [CB] at this;exact this
theorem Jr (B:List Ad) (e:Ad) (u:As):Gq (B++[e]) u=Gq B u++if e.b=some (sgn u) then [(e,0)] else []:=by
 unfold Gq;rw [CA,xR];congr 1;by_cases c:e.b=some (sgn u)
 . rw [if_pos c,xS,if_pos (by simpa using c)]; rfl
 . rw [if_neg c,xS,if_neg (by simpa using c)]; rfl
theorem Run.old {B:List Ad} {e:Ad} {st out:List As} (h:Run B st out) (hn:∀ u∈out,e.b≠some (sgn u)):Run (B++[e]) st out:=by
 induction h with
 | nil=>exact .nil
 | @step u st out h ih =>
   refine .step ?_; rw [Jr,if_neg (hn u (.head _)),yL]; exact ih fun v hv=>hn v (.tail _ hv)
theorem Run.ins {B:List Ad} {e:Ad} {s:IdP×Nat} (he:e.b=some s) (hp:0 < e.w.length) (hk:∀ c∈B++[e],∀ n,c.b≠some (e.p,n)) {st out:List As} (h:Run B st out) (hs:∃ u∈out,sgn u=s) (nd:(out.map sgn).Nodup):Run (B++[e]) st (Ye s (Sm.blk e) out):=by
 induction h with
 | nil=>obtain ⟨u,hu,_⟩:=hs; cases hu
 | @step u st out h ih =>
   rw [wQ,zC] at nd; unfold Ye;split
   . rename_i c
     refine .step ?_; rw [Jr,if_pos (by rw [he,c]),BV,yO];refine Run.new hp hk (h.old fun v hv z=>nd.1 ?_);rw [he] at z; cases z; rw [c]; exact yP hv
   . rename_i c
     refine .step ?_; rw [Jr,if_neg (by rw [he]; intro z; cases z; exact c rfl),yL];refine ih ?_ nd.2; obtain ⟨x,hx,e1⟩:=hs; rcases wK.mp hx with rfl | hx
     . exact absurd e1 c
     . exact ⟨x,hx,e1⟩
theorem cA {B:List Ad} (h:Bk B):Run B (Ks B).reverse (ord B):=by
 induction h with
 | nil=>exact .nil
 | @snoc B e hB h0 hk hb ih =>
   have nk:=hB.nokid hk hb; rw [Ii]; unfold Ks at ih ⊢;rw [CA,xR,BV]; rcases hb with hb | ⟨a,ha,n,hn,hb⟩
   . rw [hb,xS,if_pos (by simpa using hb)]
     exact Run.new h0 nk (ih.old fun u _ z=>by rw [hb] at z; cases z)
   . rw [hb,xS,if_neg (by rw [hb]; simp)]
     exact ih.ins hb h0 nk ⟨(a,n),(Df hB (a,n)).mpr ⟨ha,hn⟩,rfl⟩ (Jl hB)
noncomputable def anD (x:Option (IdP×Nat)):wF:=match x with
 | none=>.none
 | some s=>sgD s.1 s.2
noncomputable def Ad.d (a:Ad):wF:=.tuple [.str "add",idP a.p,anD a.b,.str a.w]
inductive Adds:List Dp->List Ad->Prop where
 | nil:Adds [] []
 | add {L:List Dp} {B:List Ad} (a:Ad):Adds L B->Adds ((a.d,a.p)::L) (a::B)
 | oth {L:List Dp} {B:List Ad} {e:Dp} (k:Str) (x:wF) (xs:List wF):e.1=.tuple (.str k::idP e.2::x::xs)->k ≠ "add" -> Adds L B->Adds (e::L) B
theorem Adds.snoc {L:List Dp} {B:List Ad} (h:Adds L B) (a:Ad):Adds (L++[(a.d,a.p)]) (B++[a]):=by
 induction h with
 | nil=>exact .add a .nil
 | add c _ ih=>exact .add c ih
 | oth k x xs e n _ ih=>exact .oth k x xs e n ih
theorem Adds.snocO {L:List Dp} {B:List Ad} {e:Dp} (h:Adds L B) (k:Str) (x:wF) (xs:List wF) (h1:e.1=.tuple (.str k::idP e.2::x::xs)) (h2:k ≠ "add"):Adds (L++[e]) B:=by
 induction h with
 | nil=>exact .oth k x xs h1 h2 .nil
 | add c _ ih=>exact .add c ih
 | oth k' x' xs' e' n _ ih=>exact .oth k' x' xs' e' n ih
theorem Up {p q:IdP} (h:idP p=idP q):p=q:=by
 simp only [idP,idD,GS,z8,PyData.int.injEq,PyData.str.injEq,and_true] at h;exact Prod.ext h.1 h.2
theorem Adds.of {L:List Dp} {B:List Ad} (h:Adds L B) {p:IdP} {b:wF} {w:Str} (m:k6 [.str "add",idP p,b,.str w]∈L.map (·.1)):∃ a∈B,a.p=p/\a.w=w:=by
 induction h with
 | nil=>cases m
 | add c _ ih =>
   rcases wK.mp m with e | m
   . have e':k6 [.str "add",idP p,b,.str w]=.tuple [.str "add",idP c.p,anD c.b,.str c.w]:=e
     injection e' with e'
     injection e' with _ e'
     injection e' with e1 e'
     injection e' with _ e'
     injection e' with e2 _
     injection e2 with e2
     exact ⟨c,.head _,(Up e1).symm,e2.symm⟩
   . obtain ⟨a,ha,r⟩:=ih m; exact ⟨a,.tail _ ha,r⟩
 | oth k x xs e n _ ih =>
   rcases wK.mp m with e1 | m
   . replace e1:=e1.trans e
     injection e1 with e1
     injection e1 with e1 _
     injection e1 with e1
     exact absurd e1.symm n
   . exact ih m
theorem Wf.shape {p:IdP} {S:wF->Prop} {U:IdP->Prop} {d:wF} (w:Wf p S U d):(∃ b w,d=.tuple [.str "add",idP p,b,.str w]/\OrN S b/\Zo w)\/∃ k x xs,d=.tuple (.str k::idP p::x::xs)/\k ≠ "add" := by
 obtain ⟨o,r⟩:=w;rcases r with h | ⟨sg,rfl,_⟩ | ⟨n,s1,x1,s2,x2,rfl,_⟩ | ⟨n,rfl,_⟩ | ⟨i,rfl,_⟩
 . exact .inl h
 . exact .inr ⟨"drop",_,_,rfl,by decide⟩
 . exact .inr ⟨"mark",_,_,rfl,by decide⟩
 . exact .inr ⟨"unmark",_,_,rfl,by decide⟩
 . exact .inr ⟨"undo",_,_,rfl,by decide⟩
theorem lB {p q:IdP} (h:key p < key q):p.1<=q.1:=by
 have h1:=Yg p.2;have h2:=Yg q.2;unfold key at h;lia
theorem BkW.init {L:List Dp} {e:Dp} (h:BkW (L++[e])):BkW L:=by
 obtain ⟨hw,hu⟩:=h;have hu':=y4.mp hu;refine ⟨fun x hx=>?_,hu'.1⟩;have hxe:key x.2 < key e.2:=hu'.2.2 x hx e (wX.mpr rfl);have ht:=lB hxe;refine Wf.mono (hw x (wY.mpr (.inl hx))) (fun y hy=>?_) fun q hq=>?_
 . obtain ⟨p,b,w,n,hm,e1,hn,hp,ho⟩:=hy
   refine ⟨p,b,w,n,?_,e1,hn,hp,ho⟩; rw [xR] at hm; rcases wY.mp hm with hm | hm
   . exact hm
   . exfalso
     have he:k6 [.str "add",idP p,b,.str w]=e.1:=by simpa using hm
     have hid:p=e.2:=by
       have w1:=(hw e (wY.mpr (.inr (.head _)))).id; rw [<- he] at w1; have w2:dIx (k6 [.str "add",idP p,b,.str w]) (.int 1)=some (idP p):=L7 (xs:=[.str "add",idP p,b,.str w]) (j:=1) (by simp);rw [w2] at w1; exact Up (yM w1)
     rw [hid] at hp;lia
 . obtain ⟨⟨e',he',rfl⟩,hq⟩:=hq
   refine ⟨?_,hq⟩; rcases wY.mp he' with he' | he'
   . exact ⟨e',he',rfl⟩
   . rw [wX.mp he'] at hq
     lia
structure BkA (L:List Dp) (B:List Ad):Prop where
 ad:Adds L B
 bk:Bk B
 wd:∀ a∈B,Zo a.w
 id:∀ a∈B,okI a.p
 inL:∀ a∈B,(a.d,a.p)∈L
 len:B.length<=L.length
theorem bka:∀ (n:Nat) (L:List Dp),L.length=n->BkW L->∃ B,BkA L B
 | 0,L,hn,_=>by
   rw [zF.mp hn]; exact ⟨[],.nil,.nil,(fun _ h=>nomatch h),(fun _ h=>nomatch h),(fun _ h=>nomatch h),wO _⟩
 | n+1,L,hn,h=>by
   have hne:L≠[]:=fun z=>by rw [z] at hn; cases hn
   obtain ⟨L',e,rfl⟩:∃ L' e,L=L'++[e]:=⟨L.dropLast,L.getLast hne,(BS hne).symm⟩; have h':=h.init; obtain ⟨B,A⟩:=bka n L' (by simpa using hn) h';have hu':=y4.mp h.2; have we:=h.1 e (wY.mpr (.inr (.head _))); rcases we.shape with ⟨b,w,e1,hb,hw⟩ | ⟨k,x,xs,e1,hk⟩
   . have hx : ∃ x : Option (IdP × Nat), b = anD x /\ (x = none \/ ∃ a ∈ B, ∃ n, n < a.w.length /\ x = some (a.p, n)) := by
       rcases hb with rfl | ⟨p,b',w',n',hm,rfl,hn',hp,ho⟩
       . exact ⟨none,rfl,.inl rfl⟩
       . rw [xR] at hm
         rcases wY.mp hm with hm | hm
         . obtain ⟨a,ha,rfl,rfl⟩:=A.ad.of hm
           exact ⟨some (a.p,n'),rfl,.inr ⟨a,ha,n',hn',rfl⟩⟩
         . exfalso
           have he:k6 [.str "add",idP p,b',.str w']=e.1:=by simpa using hm
           rw [e1] at he;injection he with he
           injection he with _ he
           injection he with he _
           rw [Up he] at hp;lia
     obtain ⟨x,rfl,hx⟩:=hx; have ee:e=((⟨e.2,x,w⟩:Ad).d,(⟨e.2,x,w⟩:Ad).p):=Prod.ext e1 rfl; refine ⟨B++[⟨e.2,x,w⟩],?_,.snoc A.bk (by have:=hw.1; show 0 < w.length; lia) (fun a ha=>hu'.2.2 _ (A.inL a ha) e (wX.mpr rfl)) hx,fun a ha=>?_,fun a ha=>?_,fun a ha=>?_,by simp; exact A.len⟩
     . rw [ee]; exact A.ad.snoc _
     . rcases wY.mp ha with ha | ha
       . exact A.wd a ha
       . rw [wX.mp ha]; exact hw
     . rcases wY.mp ha with ha | ha
       . exact A.id a ha
       . rw [wX.mp ha]; exact we.1
     . rcases wY.mp ha with ha | ha
       . exact wY.mpr (.inl (A.inL a ha))
       . rw [wX.mp ha,<- ee]; exact wY.mpr (.inr (.head _))
   . refine ⟨B,A.ad.snocO k x xs e1 hk,A.bk,A.wd,A.id,fun a ha=>wY.mpr (.inl (A.inL a ha)),by simp; have:=A.len; lia⟩
theorem bka' {L:List Dp} (h:BkW L):∃ B,BkA L B:=bka _ L rfl h
theorem Bf (x:wF) (xs:List wF):dIx (.tuple (x::xs)) (.int 0)=some x:=L7 (xs:=x::xs) (j:=0) (by simp)
theorem Gi (x y:wF) (xs:List wF):dIx (.tuple (x::y::xs)) (.int 1)=some y:=L7 (xs:=x::y::xs) (j:=1) (by simp)
theorem eD (x y z:wF) (xs:List wF):dIx (.tuple (x::y::z::xs)) (.int 2)=some z:=L7 (xs:=x::y::z::xs) (j:=2) (by simp)
theorem hZ (x y z u:wF) (xs:List wF):dIx (.tuple (x::y::z::u::xs)) (.int 3)=some u:=L7 (xs:=x::y::z::u::xs) (j:=3) (by simp)
theorem Xx (w:Str):Q8 [.str w]=some (.int (w.length:Int)):=rfl
theorem jB (a:Ad):F2 [a.d]=.ok (.int (a.w.length:Int)):=by
 unfold F2 S9 Q9 Ad.d;simp_arith [vIf,Bf,hZ,Gw,sF,Xx]
theorem jA {k:Str} {i:wF} {xs:List wF} (h:k ≠ "add"):F2 [.tuple (.str k::i::xs)]=.ok (.int 0):=by
 unfold F2 S9 Q9;have:(k==("add" : Str))=false:=beq_eq_false_iff_ne.mpr h;simp_arith [vIf,Bf,Gw,this]
noncomputable def Uj (kvs:Kvs) (x:wF):wF:=(J3 kvs x).getD (.list [])
theorem W2 (x y:Option (IdP×Nat)):xE (anD x) (anD y)=decide (x=y):=by
 cases x with
 | none=>cases y with
   | none=>rfl
   | some s=>rfl
 | some s=>cases y with
   | none=>rfl
   | some t =>
     show ((xE (idP s.1) (idP t.1))&&((xE (.int s.2) (.int t.2))&&true))=_;show (((s.1.1==t.1.1)&&((s.1.2==t.1.2)&&true))&&(((s.2:Int)==(t.2:Int))&&true))=_;rw [zU]; obtain ⟨⟨a,b⟩,c⟩:=s; obtain ⟨⟨a',b'⟩,c'⟩:=t; simp;intro _ _;lia
def mS (kvs:Kvs):Prop:=∀ p∈kvs,(∃ x,p.1=anD x)/\∃ ds,p.2=.list ds
theorem dQ {kvs:Kvs} (h:mS kvs) (x:Option (IdP×Nat)) (v:wF):mS (Ln kvs (anD x) v)/\∀ y,∃ ds,Uj kvs (anD y)=.list ds/\Uj (Ln kvs (anD x) v) (anD y)=.list (if x=y then ds++[v] else ds):=by
 induction kvs with
 | nil =>
   refine ⟨fun p hp=>?_,fun y=>⟨[],rfl,?_⟩⟩
   . rw [wX.mp hp]; exact ⟨⟨x,rfl⟩,_,rfl⟩
   . show ((List.find? (fun p=>xE p.1 (anD y)) [(anD x,HQ [v])]).map (·.2)).getD (.list [])=_
     rw [xW,W2];by_cases c:x=y
     . rw [decide_eq_true c,if_pos c]; rfl
     . rw [decide_eq_false c,if_neg c]; rfl
 | cons p r ih =>
   obtain ⟨⟨z,hz⟩,ds0,hd⟩:=h p (.head _); obtain ⟨i1,i2⟩:=ih fun q hq=>h q (.tail _ hq);unfold Ln; rw [hz,W2];by_cases c:z=x
   . rw [if_pos (decide_eq_true c),hd]
     refine ⟨fun q hq=>?_,fun y=>?_⟩
     . rcases wK.mp hq with rfl | hq
       . exact ⟨⟨z,rfl⟩,_,rfl⟩
       . exact h q (.tail _ hq)
     . unfold Uj J3
       rw [xW,xW,hz,W2];by_cases c2:z=y
       . rw [decide_eq_true c2]
         exact ⟨ds0,by rw [show (some p:Option (wF×wF)).map (·.2)=some p.2 from rfl,hd]; rfl,by rw [if_pos (c.symm.trans c2)]; rfl⟩
       . rw [decide_eq_false c2]
         obtain ⟨ds,e1,_⟩:=i2 y; exact ⟨ds,e1,by rw [if_neg (fun w=>c2 (c.trans w))]; exact e1⟩
   . rw [if_neg (by rw [decide_eq_false c]; decide)]
     refine ⟨fun q hq=>?_,fun y=>?_⟩
     . rcases wK.mp hq with rfl | hq
       . exact ⟨⟨z,hz⟩,_,hd⟩
       . exact i1 q hq
     . unfold Uj J3
       rw [xW,xW,hz,W2];by_cases c2:z=y
       . rw [decide_eq_true c2]
         exact ⟨ds0,by rw [show (some p:Option (wF×wF)).map (·.2)=some p.2 from rfl,hd]; rfl,by rw [if_neg (fun w=>c (c2.trans w.symm)),show (some p:Option (wF×wF)).map (·.2)=some p.2 from rfl,hd]; rfl⟩
       . rw [decide_eq_false c2]
         exact i2 y
theorem He (x:Option (IdP×Nat)):nkD (anD x)=true:=by
 cases x with
 | none=>rfl
 | some s=>simp [anD,nkD,Gr,isK,yX,yW]
theorem vE {L:List Dp} {B:List Ad} (h:Adds L B) (hp:∀ a∈B,0 < a.w.length) (bk:wF):∀ (kvs:Kvs),mS kvs->∃ out,Qt [.sh bk,.un,.un] 2 (B4 (b2 (B5 (A1 (A0 2) A6) F2) (vC (.int 0)) (Gf .Gt))) (b2 (A0 2) (vC (.int 2)) dIx) (A0 2) (L.map (·.1)) kvs=.ok out /\
   ∀ y,∃ ds,Uj kvs (anD y)=.list ds/\Uj out (anD y)=.list (ds++(B.filter fun a=>a.b=y).map Ad.d):=by
 induction h with
 | nil =>
   intro kvs g; refine ⟨kvs,rfl,fun y=>?_⟩;obtain ⟨ds,e,_⟩:=(dQ g none .none).2 y; exact ⟨ds,e,by simpa using e⟩
 | @add L B a _ ih =>
   intro kvs g; obtain ⟨g1,g2⟩:=dQ g a.b a.d; obtain ⟨out,e,k⟩:=ih (fun c hc=>hp c (.tail _ hc)) _ g1;have ha:=hp a (.head _); have gt:Gf .Gt (.int (a.w.length:Int)) (.int 0)=some (.bool true):=by
     show some (BI (decide ((0:Int) < a.w.length)))=_;rw [decide_eq_true (by lia)]
   refine ⟨out,?_,fun y=>?_⟩
   . rw [wQ]
     unfold Qt; have e1:(B4 (b2 (B5 (A1 (A0 2) A6) F2) (vC (.int 0)) (Gf .Gt))) ([Sl.sh bk,.un,.un].set 2 (.sh a.d))=.ok true:=by simp_arith [jB,gt]
     have e2:(b2 (A0 2) (vC (.int 2)) dIx) ([Sl.sh bk,.un,.un].set 2 (.sh a.d))=.ok (anD a.b):=by unfold Ad.d; simp_arith [eD]
     rw [e1,e2]; show (if nkD (anD a.b)=true then _ else _)=_;rw [if_pos (He _)]; exact e
   . obtain ⟨ds,e3,e4⟩:=g2 y
     obtain ⟨ds',e5,e6⟩:=k y; rw [e4] at e5; cases e5; refine ⟨ds,e3,?_⟩; rw [e6];by_cases c:a.b=y
     . rw [if_pos c,xS,if_pos (by simpa using c)]; simp
     . rw [if_neg c,xS,if_neg (by simpa using c)]
 | @oth L B e k x xs he hk _ ih =>
   intro kvs g; obtain ⟨out,e2,kk⟩:=ih hp kvs g; refine ⟨out,?_,kk⟩; rw [wQ]; unfold Qt; have gt:Gf .Gt (.int 0) (.int 0)=some (.bool false):=rfl; have e1:(B4 (b2 (B5 (A1 (A0 2) A6) F2) (vC (.int 0)) (Gf .Gt))) ([Sl.sh bk,.un,.un].set 2 (.sh e.1))=.ok false:=by rw [he]; simp_arith [jA hk,gt]
   rw [e1]; exact e2
theorem gU {L:List Dp} {B:List Ad} (A:BkA L B) (hl:L.length<=10):∃ out,N7 [.tuple (L.map (·.1))]=.ok out/\∀ y,Uj out (anD y)=.list ((B.filter fun a=>a.b=y).map Ad.d):=by
 obtain ⟨out,e,k⟩:=vE A.ad A.bk.pos (.tuple (L.map (·.1))) [] (fun _ h=>nomatch h);refine ⟨out,?_,fun y=>?_⟩
 . unfold N7 Y3 W3 fnW M6 Dx Cf nO Ug
   simp only [wQ,j5,wT,zD,l6,l5,xI,zG,yB,xJ,xK,o6,CZ,Hl,Ed,C2,C9,D2]; rw [if_pos ⟨by rw [wL]; lia,by decide⟩,e];rfl
 . obtain ⟨ds,e1,e2⟩:=k y
   cases e1; exact e2
noncomputable def Zi:Dn->Out:=(B7 (eX 2 4) (B7 (D5 5 (b2 (A0 4) (vC (.int 0)) dIx)) (B7 (D5 6 (b2 (A0 4) (vC (.int 1)) dIx)) (B7 (D5 7 (E7 (A1 (b2 (A0 5) (vC (.int 1)) dIx) (A1 (A0 6) A6)))) (B7 (Cg 3 (E7 (A1 (A0 7) (A1 (b2 (b2 (A0 5) (vC (.int 3)) dIx) (A0 6) dIx) A6)))) (B7 (sIf (B4 (b2 (b2 (A0 6) (vC (.int 1)) C5) (vFn (A1 (b2 (A0 5) (vC (.int 3)) dIx) A6) Q8) (E9 .Lt))) (Cg 2 (E7 (A1 (A0 5) (A1 (b2 (A0 6) (vC (.int 1)) C5) A6)))) E1) (Wy 2 (E2 (fun δ=>((Mb 1 (A0 7) (F5 A6)) δ).bind C9) E4 [] L6 (E7 (A1 (A0 0) (A1 (vC (.int 0)) A6)))))))))))
abbrev wt (u:As):wF:=.tuple [u.1.d,.int (u.2:Int)]
noncomputable def ltr (u:As):Str:=⟨#[u.1.w.cps.toList.getD u.2 0]⟩
abbrev sgA (u:As):wF:=sgD u.1.p (u.2:Int)
abbrev tl (u:As):wF:=.tuple [sgA u,.str (ltr u)]
theorem Tm (x:Str):x.length=x.cps.toList.length:=by unfold Str.length; simp
theorem uO {u:As} (h:u.2 < u.1.w.length):dIx (.str u.1.w) (.int (u.2:Int))=some (.str (ltr u)):=by
 have h':u.2 < u.1.w.cps.toList.length:=by rw [<- Tm]; exact h
 show (atI u.1.w.cps.toList (u.2:Int)).map _=_;rw [L7 h'];unfold ltr;rw [GU,yA h'];rfl
theorem nN {i j:Nat} {δ:Dn} {W:List wF} {d:wF} (h:δ[i]? = some (.ow (.list (W++[d])))) (hij:i≠j):eX i j δ=.nx ((δ.set i (.ow (.list W))).set j (.sh d)):=by
 unfold eX;rw [h];simp [hij]
theorem Eu {i:Nat} {δ:Dn} {f:Dn->Res wF} {W:List wF} {d:wF} (h:δ[i]? = some (.ow (.list W))) (hf:f δ=.ok d) (hl:W.length<=1000):Cg i f δ=.nx (δ.set i (.ow (.list (W++[d])))):=by
 unfold Cg;rw [h];show M5 (f δ) _=_;rw [hf,D2,if_pos (yH hl (by decide))]
theorem bY {i:Nat} {δ:Dn} {f:Dn->Res (List wF)} {W ds:List wF} (h:δ[i]? = some (.ow (.list W))) (hf:f δ=.ok ds) (hl:W.length+ds.length<=1000):Wy i f δ=.nx (δ.set i (.ow (.list (W++ds)))):=by
 unfold Wy;rw [h];show M5 (f δ) _=_;rw [hf,D2,if_pos (xD hl (by decide))]
theorem dF (δc:Dn):∀ ds:List Ad,D1 E4 δc L6 (E7 (A1 (A0 0) (A1 (vC (.int 0)) A6))) (ds.map Ad.d)=.ok (ds.map fun a=>wt (a,0))
 | ds=>Iq Ad.d (fun a=>wt (a,0)) (fun a=>by simp_arith; rfl) ds
theorem Run.len {B:List Ad} {st out:List As} (h:Run B st out):st.length<=out.length:=by
 induction h with
 | nil=>exact wO _
 | step _ ih=>simp only [xG,wT] at ih ⊢; lia
theorem pL (B:List Ad) (u:As):(Gq B u).map wt=((B.filter fun a=>a.b=some (sgn u)).map fun a=>wt (a,0)):=by
 unfold Gq;rw [zV]; rfl
theorem nG {B:List Ad} {b:wF} {kvs:Kvs} (hk:∀ y,Uj kvs (anD y)=.list ((B.filter fun a=>a.b=y).map Ad.d)) {u:As} (hu:u.2 < u.1.w.length) (W T:List wF) (hl:W.length+1+(Gq B u).length<=900) (hT:T.length<=900) (s4 s5 s6 s7:Sl) :
   ∃ t4 t5 t6 t7,Zi [.sh b,.ow (.tuple [.dict kvs,.none]),.ow (.list (W++[wt u])),.ow (.list T),s4,s5,s6,s7]=.nx [.sh b,.ow (.tuple [.dict kvs,.none]),.ow (.list (W++(nxt u).map wt++(Gq B u).map wt)),.ow (.list (T++[tl u])),t4,t5,t6,t7]:=by
 refine ⟨.sh (wt u),.sh u.1.d,.sh (.int u.2),.sh (sgA u),?_⟩;unfold Zi;rw [B2 (nN (W:=W) rfl (by decide))];simp only [xJ,xK];rw [B2 (C8 (d:=u.1.d) (by simp_arith [Bf]))];simp only [xJ,xK];rw [B2 (C8 (d:=.int (u.2:Int)) (by simp_arith [Gi]))];simp only [xJ,xK];rw [B2 (C8 (d:=sgA u) (by unfold Ad.d; simp_arith [Gi]))];simp only [xJ,xK];rw [B2 (Eu (W:=T) (d:=tl u) rfl (by unfold Ad.d; simp_arith [hZ,uO hu]) (by lia))];simp only [xJ,xK];have hif : sIf (B4 (b2 (b2 (A0 6) (vC (.int 1)) C5) (vFn (A1 (b2 (A0 5) (vC (.int 3)) dIx) A6) Q8) (E9 .Lt))) (Cg 2 (E7 (A1 (A0 5) (A1 (b2 (A0 6) (vC (.int 1)) C5) A6)))) E1 [.sh b, .ow (.tuple [.dict kvs, .none]), .ow (.list W), .ow (.list (T ++ [tl u])), .sh (wt u), .sh u.1.d, .sh (.int u.2), .sh (sgA u)]
     = .nx [.sh b,.ow (.tuple [.dict kvs,.none]),.ow (.list (W++(nxt u).map wt)),.ow (.list (T++[tl u])),.sh (wt u),.sh u.1.d,.sh (.int u.2),.sh (sgA u)]:=by
   unfold nxt;by_cases c:u.2+1 < u.1.w.length
   . rw [if_pos c,W7 (by unfold Ad.d; simp_arith [hZ,Xx,U1,fS (show (u.2:Int)+1 < (u.1.w.length:Int) by lia)])]
     rw [Eu (W:=W) (d:=wt (u.1,u.2+1)) rfl (by simp_arith [U1]; rfl) (by lia)];rfl
   . rw [if_neg c,Q2 (by unfold Ad.d; simp_arith [hZ,Xx,U1,fT (show ¬ (u.2:Int)+1 < (u.1.w.length:Int) by lia)])]
     simp [E1]
 rw [B2 hif];have hnl:(nxt u).length<=1:=by unfold nxt; split <;> simp
 have hgl:(B.filter fun a=>a.b=some (sgn u)).length=(Gq B u).length:=by unfold Gq; rw [wL]
 have hget:(fun δ=>((Mb 1 (A0 7) (F5 A6)) δ).bind C9) [.sh b,.ow (.tuple [.dict kvs,.none]),.ow (.list (W++(nxt u).map wt)),.ow (.list (T++[tl u])),.sh (wt u),.sh u.1.d,.sh (.int u.2),.sh (sgA u)]=.ok ((B.filter fun a=>a.b=some (sgn u)).map Ad.d):=by
   refine D3 (d:=.list ((B.filter fun a=>a.b=some (sgn u)).map Ad.d)) ?_ rfl;rw [<- hk (some (sgn u))]; show (if nkD (anD (some (sgn u)))=true then Res.ok ((J3 kvs (anD (some (sgn u)))).getD (.list [])) else Res.no)=_;rw [if_pos (He (some (sgn u)))]; rfl
 rw [bY (W:=W++(nxt u).map wt) (ds:=(Gq B u).map wt) rfl (D7 hget (by rw [wL,hgl]; lia) rfl (by rw [pL]; exact dF _ _)) (by simp only [xG,wL]; lia)];rfl
theorem gW {B:List Ad} {b:wF} {kvs:Kvs} (hk:∀ y,Uj kvs (anD y)=.list ((B.filter fun a=>a.b=y).map Ad.d)) {st out:List As} (h:Run B st out):(∀ u∈out,u.2 < u.1.w.length)->∀ (n:Nat) (T:List wF) (s4 s5 s6 s7:Sl),out.length < n->T.length+out.length<=800 ->
   ∃ t4 t5 t6 t7,Ei (Zd 2) Zi n [.sh b,.ow (.tuple [.dict kvs,.none]),.ow (.list (st.reverse.map wt)),.ow (.list T),s4,s5,s6,s7]=.nx [.sh b,.ow (.tuple [.dict kvs,.none]),.ow (.list []),.ow (.list (T++out.map tl)),t4,t5,t6,t7]:=by
 induction h with
 | nil =>
   intro _ n T s4 s5 s6 s7 hn _;cases n with
   | zero=>cases hn
   | succ n =>
     refine ⟨s4,s5,s6,s7,?_⟩; unfold Ei; rw [show Zd 2 [Sl.sh b,.ow (.tuple [.dict kvs,.none]),.ow (.list (([]:List As).reverse.map wt)),.ow (.list T),s4,s5,s6,s7]=.ok false from rfl,D2,if_neg (by decide)];simp
 | @step u st out h ih =>
   intro hu n T s4 s5 s6 s7 hn hT; have hlen:=h.len; simp only [xG,EN,wT] at hlen hn hT;cases n with
   | zero=>cases hn
   | succ n =>
     have e1:(u::st).reverse.map wt=st.reverse.map wt++[wt u]:=by rw [List.reverse_cons,xR]; rfl
     rw [e1]; obtain ⟨a4,a5,a6,a7,e2⟩:=nG (b:=b) hk (hu u (.head _)) (st.reverse.map wt) T (by rw [wL,EN]; lia) (by lia) s4 s5 s6 s7;have e3:(st.reverse.map wt++(nxt u).map wt++(Gq B u).map wt)=((Gq B u).reverse++(nxt u++st)).reverse.map wt:=by
       have hr:(nxt u).reverse=nxt u:=by unfold nxt; split <;> rfl
       rw [BV,BV,IS,hr,xR,xR]
     rw [e3] at e2; obtain ⟨t4,t5,t6,t7,e4⟩:=ih (fun v hv=>hu v (.tail _ hv)) n (T++[tl u]) a4 a5 a6 a7 (by lia) (by rw [xG]; simp; lia);refine ⟨t4,t5,t6,t7,?_⟩; unfold Ei; have ec:Zd 2 [Sl.sh b,.ow (.tuple [.dict kvs,.none]),.ow (.list (st.reverse.map wt++[wt u])),.ow (.list T),s4,s5,s6,s7]=.ok true:=by
       show Res.ok (!(st.reverse.map wt++[wt u]).isEmpty)=_;simp
     rw [ec,D2,if_pos rfl,e2]; show Ei (Zd 2) Zi n _=_;rw [e4,yO]; rfl
theorem nJ {B:List Ad} (h:∀ a∈B,Zo a.w):(sgs B).length<=4*B.length:=by
 unfold sgs;induction B with
 | nil=>exact wO _
 | cons a B ih =>
   rw [List.flatMap_cons,xG,wT]; have:=ih fun c hc=>h c (.tail _ hc);have h2:=(h a (.head _)).2.1; have h3:(blk a).length=a.w.length:=by unfold blk; simp
   lia
theorem Dg {L:List Dp} {B:List Ad} (A:BkA L B):(ord B).length<=4*L.length:=by
 have h1:=(kA A.bk).length_eq;have h2:=nJ A.wd;have h3:=A.len;lia
theorem Wo {L:List Dp} {B:List Ad} (A:BkA L B) (hl:L.length<=10):V5 [.tuple (L.map (·.1))]=.ok (.list ((ord B).map tl)):=by
 obtain ⟨kvs,e1,hk⟩:=gU A hl;have hol:=Dg A;unfold V5 Cz N3;refine P6 ?_;unfold M6;simp only [wQ,j5,wT,zD,l6,l5,xI,zG,yB];rw [B2 (δ':=[.sh (.tuple (L.map (·.1))),.ow (.tuple [.dict kvs,.none]),.un,.un,.un,.un,.un,.un]) (by unfold Bu Dv Hj; simp_arith [e1])];have hrl:(Ks B).length<=40:=by
   have:=(cA A.bk).len; rw [EN] at this;lia
 have hgl:(B.filter fun a=>a.b=none).length=(Ks B).length:=by unfold Ks; rw [wL]
 have hget:(fun δ=>((Mb 1 (vC .none) (F5 A6)) δ).bind C9) [.sh (.tuple (L.map (·.1))),.ow (.tuple [.dict kvs,.none]),.un,.un,.un,.un,.un,.un]=.ok ((B.filter fun a=>a.b=none).map Ad.d):=by
   refine D3 (d:=.list ((B.filter fun a=>a.b=none).map Ad.d)) ?_ rfl;rw [<- hk none]; rfl
 rw [B2 (δ':=[.sh (.tuple (L.map (·.1))),.ow (.tuple [.dict kvs,.none]),.ow (.list (((Ks B).reverse).reverse.map wt)),.un,.un,.un,.un,.un]) (by
   unfold Bt Ic; rw [D7 hget (by rw [wL,hgl]; lia) rfl (dF _ _),D2,IS];unfold Ks; rw [zV]; rfl)]
 rw [B2 (δ':=[.sh (.tuple (L.map (·.1))),.ow (.tuple [.dict kvs,.none]),.ow (.list (((Ks B).reverse).reverse.map wt)),.ow (.list []),.un,.un,.un,.un]) (by rfl)];obtain ⟨t4,t5,t6,t7,e2⟩:=gW (b:=.tuple (L.map (·.1))) hk (cA A.bk) (fun u hu=>((Df A.bk u).mp hu).2) 4096 [] .un .un .un .un (by lia) (by simp; lia);rw [yB] at e2;have e3:Bs=Ei (Zd 2) Zi 4096:=rfl;rw [e3,B2 e2];rfl
noncomputable def Tb:Dn->Out:=(sIf (M1 (B4 (b2 (b2 (A0 2) (vC (.int 0)) dIx) (vC (.str "undo")) dEq)) (B4 (Z5 true 1 (b2 (A0 2) (vC (.int 1)) dIx)))) (W6 1 (b2 (A0 2) (vC (.int 2)) dIx) (vC (.bool true))) E1)
noncomputable def Kb:Dn->Out:=(sIf (M1 (B4 (b2 (b2 (A0 3) (vC (.int 0)) dIx) (vC (.str "drop")) dEq)) (B4 (Z5 true 1 (b2 (A0 3) (vC (.int 1)) dIx)))) (K5 (fun δ=>((b2 (A0 3) (vC (.int 2)) dIx) δ).bind C9) (st1 4) (W6 2 (A0 4) (vC (.bool true)))) E1)
abbrev sgO (s:IdP×Nat):wF:=anD (some s)
inductive Kd (e:Dp):Prop where
 | drop (ss:List (IdP×Nat)):e.1=.tuple [.str "drop",idP e.2,.tuple (ss.map sgO)]->ss.length<=60->Kd e
 | undo (q:IdP):e.1=.tuple [.str "undo",idP e.2,idP q]->Kd e
 | oth (k:Str) (x:wF) (xs:List wF):e.1=.tuple (.str k::idP e.2::x::xs)->k ≠ "drop" -> k ≠ "undo" -> Kd e
theorem Wp {T:Int} {D:List wF}:∀ (sg:List wF),(∀ x∈sg,SgOf T D x)->∃ ss:List (IdP×Nat),sg=ss.map sgO
 | [],_=>⟨[],rfl⟩
 | x::sg,h=>by
   obtain ⟨ss,e⟩:=Wp sg fun y hy=>h y (.tail _ hy);obtain ⟨p,b,w,n,_,e1,_⟩:=h x (.head _); exact ⟨(p,n)::ss,by rw [wQ,<- e,e1]; rfl⟩
theorem WfIn.kd {L:List Dp} {e:Dp} (h:WfIn L e):Kd e:=by
 obtain ⟨o,r⟩:=(show Wf _ _ _ _ from h);rcases r with ⟨b,w,e1,_⟩ | ⟨sg,e1,hs,hl,_⟩ | ⟨n,s1,x1,s2,x2,e1,_⟩ | ⟨n,e1,_⟩ | ⟨q,e1,_⟩
 . exact .oth "add" _ _ e1 (by decide) (by decide)
 . obtain ⟨ss,rfl⟩:=Wp sg hs
   exact .drop ss e1 (by simpa using hl)
 . exact .oth "mark" _ _ e1 (by decide) (by decide)
 . exact .oth "unmark" _ _ e1 (by decide) (by decide)
 . exact .undo q e1
theorem Kd.id {e:Dp} (h:Kd e):∃ k x xs,e.1=.tuple (.str k::idP e.2::x::xs):=by
 cases h with
 | drop ss h _=>exact ⟨_,_,_,h⟩
 | undo q h=>exact ⟨_,_,_,h⟩
 | oth k x xs h _ _=>exact ⟨_,_,_,h⟩
abbrev oN (kvs:Kvs):Sl:=.ow (.tuple [.dict kvs,.none])
abbrev fN (kvs:Kvs):Sl:=.fd ((.dict [],.none)::kvs)
theorem Hm {b:Bool} {i:Nat} {f:Dn->Res wF} {δ:Dn} {kvs:Kvs} {kd:wF} (h:kvN δ i=some kvs) (hf:f δ=.ok kd) (hk:nkD kd=true):Z5 b i f δ=.ok (.bool ((J3 kvs kd).isSome != b)):=by
 unfold Z5;rw [hf,C2,h];show (if nkD kd=true then _ else _)=_;rw [if_pos hk]
theorem Oo (p:IdP):nkD (idP p)=true:=by simp [nkD,Gr,isK,yX,yW]
theorem Eh {i:Nat} {fk fv:Dn->Res wF} {δ:Dn} {kvs:Kvs} {kd v:wF} (h:δ[i]? = some (oN kvs)) (hv:fv δ=.ok v) (hk:fk δ=.ok kd) (hn:nkD kd=true) (hl:kvs.length<=1000):W6 i fk fv δ=.nx (δ.set i (oN (N9 kvs kd v))):=by
 unfold W6;rw [h];show M5 (fv δ) _=_;rw [hv,D2,hk,D2,if_pos ⟨hn,yH hl (by decide)⟩]
theorem Hq {x y:Str} (h:x≠y):(x==y)=false:=beq_eq_false_iff_ne.mpr h
theorem bV (x:Str):(x==x)=true:=beq_self_eq_true x
abbrev has (kvs:Kvs) (y:Option (IdP×Nat)):Bool:=(J3 kvs (anD y)).isSome
abbrev Iv (kvs:Kvs):Prop:=∀ p∈kvs,∃ x,p.1=anD x
theorem jK {kvs:Kvs} (h:Iv kvs) (x:Option (IdP×Nat)) (v:wF):Iv (N9 kvs (anD x) v)/\∀ y,has (N9 kvs (anD x) v) y=(decide (x=y)||has kvs y):=by
 induction kvs with
 | nil =>
   refine ⟨fun p hp=>?_,fun y=>?_⟩
   . rw [wX.mp hp]; exact ⟨x,rfl⟩
   . show ((List.find? (fun p=>xE p.1 (anD y)) [(anD x,v)]).map (·.2)).isSome=_
     rw [xW,W2];cases decide (x=y) <;> rfl
 | cons p r ih =>
   obtain ⟨z,hz⟩:=h p (.head _); obtain ⟨i1,i2⟩:=ih fun q hq=>h q (.tail _ hq);unfold N9; rw [hz,W2];by_cases c:z=x
   . rw [if_pos (decide_eq_true c)]
     refine ⟨fun q hq=>?_,fun y=>?_⟩
     . rcases wK.mp hq with rfl | hq
       . exact ⟨z,rfl⟩
       . exact h q (.tail _ hq)
     . unfold has J3
       rw [xW,xW,hz,W2,c];cases decide (x=y) <;> rfl
   . rw [if_neg (by rw [decide_eq_false c]; decide)]
     refine ⟨fun q hq=>?_,fun y=>?_⟩
     . rcases wK.mp hq with rfl | hq
       . exact ⟨z,hz⟩
       . exact i1 q hq
     . unfold has J3
       rw [xW,xW,hz,W2];cases hd:decide (z=y) with
       | true=>simp
       | false=>exact i2 y
noncomputable def Io (un:IdP->Bool) (e:Dp) (s:IdP×Nat):Bool:=match e.1 with
 | .tuple (.str k::_::.tuple xs::_)=>(k == "drop")&&(!un e.2)&&(xs.any fun y=>xE y (sgO s))
 | _=>false
theorem gH {un:IdP->Bool} {e:Dp} {s:IdP×Nat} {k:Str} {i x:wF} {xs:List wF} (h:e.1=.tuple (.str k::i::x::xs)) (hk:k ≠ "drop"):Io un e s=false:=by
 unfold Io;rw [h];split
 . rename_i heq
   injection heq with heq
   injection heq with h1 _
   injection h1 with h1
   rw [<- h1,Hq hk]; rfl
 . rfl
theorem Xe (b:wF) (ku:Kvs) (s3:Sl):∀ (ss:List (IdP×Nat)) (kvs:Kvs) (s4:Sl),Iv kvs->kvs.length+ss.length<=900->∃ kvs' s4',Iv kvs'/\kvs'.length<=kvs.length+ss.length/\(∀ y,has kvs' y=(has kvs y||ss.any fun s=>decide (some s=y))) /\
   D8 (st1 4) (W6 2 (A0 4) (vC (.bool true))) (ss.map sgO) [.sh b,fN ku,oN kvs,s3,s4]=.nx [.sh b,fN ku,oN kvs',s3,s4']
 | [],kvs,s4,hk,_=>⟨kvs,s4,hk,by simp,fun y=>by simp,rfl⟩
 | s::ss,kvs,s4,hk,hl=>by
   rw [wT] at hl; obtain ⟨g1,g2⟩:=jK hk (some s) (.bool true); have l1:=Ej (k:=sgO s) (v:=BI true) kvs; obtain ⟨kvs',s4',k1,k2,k3,k4⟩:=Xe b ku s3 ss (N9 kvs (sgO s) (.bool true)) (.sh (sgO s)) g1 (by lia);refine ⟨kvs',s4',k1,by rw [wT]; lia,fun y=>?_,?_⟩
   . rw [k3,g2,EZ]
     cases decide (some s=y) <;> simp
   . rw [wQ]
     unfold D8; simp only [st1,xJ,xK]; rw [Eh (kd:=sgO s) (v:=.bool true) rfl rfl rfl (He _) (by lia)]; exact k4
theorem lU {e:Dp} (h:Kd e) (b:wF) (ku kvs:Kvs) (s4:Sl) (hk:Iv kvs) (hl:kvs.length<=800):∃ kvs' s4',Iv kvs'/\kvs'.length<=kvs.length+60/\(∀ s,has kvs' (some s)=(has kvs (some s)||Io (fun p=>(J3 ku (idP p)).isSome) e s)) /\
   Kb [.sh b,fN ku,oN kvs,.sh e.1,s4]=.nx [.sh b,fN ku,oN kvs',.sh e.1,s4']:=by
 have no : ∀ k x xs, e.1 = .tuple (.str k :: idP e.2 :: x :: xs) -> k ≠ "drop" -> ∃ kvs' s4', Iv kvs' /\ kvs'.length <= kvs.length + 60 /\ (∀ s, has kvs' (some s) = (has kvs (some s) || Io (fun p => (J3 ku (idP p)).isSome) e s)) /\
     Kb [.sh b,fN ku,oN kvs,.sh e.1,s4]=.nx [.sh b,fN ku,oN kvs',.sh e.1,s4']:=fun k x xs e1 hn=>by
   refine ⟨kvs,s4,hk,by lia,fun s=>by rw [gH e1 hn,FD],?_⟩;unfold Kb; rw [Q2 (Es (by rw [e1]; simp_arith [Bf,Gw,Hq hn]))];rfl
 cases h with
 | undo q h=>exact no _ _ _ h (by decide)
 | oth k x xs h h1 _=>exact no _ _ _ h h1
 | drop ss h hss =>
   have c1:(B4 (b2 (b2 (A0 3) (vC (.int 0)) dIx) (vC (.str "drop")) dEq)) [.sh b,fN ku,oN kvs,.sh e.1,s4]=.ok true:=by rw [h]; simp_arith [Bf,Gw,bV]
   have c2:(B4 (Z5 true 1 (b2 (A0 3) (vC (.int 1)) dIx))) [.sh b,fN ku,oN kvs,.sh e.1,s4]=.ok ((J3 ku (idP e.2)).isSome != true):=by
     refine B9 (Hm rfl ?_ (Oo e.2)); rw [h]; simp_arith [Gi]
   have hd:∀ s,Io (fun p=>(J3 ku (idP p)).isSome) e s=(!(J3 ku (idP e.2)).isSome&&ss.any fun t=>decide (some t=some s)):=fun s=>by
     unfold Io; rw [h]; show (("drop" : Str) == "drop" && (!(J3 ku (idP e.2)).isSome)&&((ss.map sgO).any fun y=>xE y (sgO s)))=_;rw [bV,Bool.true_and,HV];congr 1;congr 1;funext t;exact W2 _ _
   unfold Kb;cases c:(J3 ku (idP e.2)).isSome with
   | true =>
     rw [c] at c2 hd; rw [Q2 (Z8 c1 c2)]; exact ⟨kvs,s4,hk,by lia,fun s=>by rw [hd]; simp,rfl⟩
   | false =>
     rw [c] at c2 hd; obtain ⟨kvs',s4',k1,k2,k3,k4⟩:=Xe b ku (.sh e.1) ss kvs s4 hk (by lia);refine ⟨kvs',s4',k1,by lia,fun s=>by rw [k3,hd]; simp,?_⟩;rw [W7 (Dm c1 c2)]; unfold K5; rw [D3 (d:=.tuple (ss.map sgO)) (ds:=ss.map sgO) (by rw [h]; simp_arith [eD]) rfl,D2];exact k4
theorem Yl (b:wF) (ku:Kvs):∀ (ds:List Dp),(∀ e∈ds,Kd e)->∀ (kvs:Kvs) (s3 s4:Sl),Iv kvs->kvs.length+60*ds.length<=800->∃ kvs' s3' s4',Iv kvs'/\(∀ s,has kvs' (some s)=(has kvs (some s)||ds.any fun e=>Io (fun p=>(J3 ku (idP p)).isSome) e s)) /\
   D8 (st1 3) Kb (ds.map (·.1)) [.sh b,fN ku,oN kvs,s3,s4]=.nx [.sh b,fN ku,oN kvs',s3',s4']
 | [],_,kvs,s3,s4,hk,_=>⟨kvs,s3,s4,hk,fun s=>by simp,rfl⟩
 | e::ds,h,kvs,s3,s4,hk,hl=>by
   rw [wT] at hl; obtain ⟨kvs1,t4,g1,g2,g3,g4⟩:=lU (h e (.head _)) b ku kvs s4 hk (by lia);obtain ⟨kvs2,u3,u4,k1,k2,k3⟩:=Yl b ku ds (fun d hd=>h d (.tail _ hd)) kvs1 (.sh e.1) t4 g1 (by lia);refine ⟨kvs2,u3,u4,k1,fun s=>by rw [k2,g3,EZ,Bool.or_assoc],?_⟩;rw [wQ]; unfold D8; simp only [st1,xJ,xK]; rw [g4]; exact k3
theorem vJ {L:List Dp} (h:∀ e∈L,Kd e) (hl:L.length<=10) (ku:Kvs):∃ kd,L4 [.sh (.tuple (L.map (·.1))),fN ku]=.ok kd/\∀ s,has kd (some s)=L.any fun e=>Io (fun p=>(J3 ku (idP p)).isSome) e s:=by
 obtain ⟨kd,s3,s4,k1,k2,k3⟩:=Yl (.tuple (L.map (·.1))) ku L h [] .un .un (fun _ h=>nomatch h) (by simp; lia);refine ⟨kd,?_,fun s=>by rw [k2]; rfl⟩;unfold L4 Aw Z9 pT Cw Dx Cf K5 Ug;simp only [wT,zD,l6,l5,xI,zG,yB,xJ,xK,Hl,o6,Ed,C2,C9,D2];have k3':=k3;unfold Kb at k3';unfold K5 at k3';rw [k3'];rfl
noncomputable def dL:Dn->Out:=(Cg 3 (E7 (A1 (A0 4) (A1 (Pj (Z5 true 1 (b2 (b2 (A0 4) (vC (.int 0)) dIx) (vC (.int 0)) dIx)) (Z5 true 2 (b2 (A0 4) (vC (.int 0)) dIx))) A6))))
abbrev bkD (L:List Dp):wF:=.tuple (L.map (·.1))
structure Pr (L:List Dp) (ku kd:Kvs):Prop where
 u:K1 [bkD L]=.ok ku
 d:L4 [.sh (bkD L),fN ku]=.ok kd
 h:∀ s,has kd (some s)=L.any fun e=>Io (fun p=>(J3 ku (idP p)).isSome) e s
noncomputable def un (ku:Kvs) (p:IdP):Bool:=(J3 ku (idP p)).isSome
noncomputable def N0 (ku kd:Kvs) (u:As):Bool := !(un ku u.1.p) && !(has kd (some (sgn u)))
theorem bne_true (b:Bool):(b != true) = !b:=by cases b <;> rfl
theorem Et {f g:Dn->Res wF} {δ:Dn} {a b:Bool} (h1:f δ=.ok (.bool a)) (h2:g δ=.ok (.bool b)):Pj f g δ=.ok (.bool (a&&b)):=by
 unfold Pj;rw [h1,C2];cases a with
 | true=>exact h2
 | false=>rfl
theorem Rw (b:wF) (ku kd:Kvs):∀ (us:List As) (T:List wF) (s4:Sl),T.length+us.length<=800->∃ s4',D8 (st1 4) dL (us.map tl) [.sh b,fN ku,oN kd,.ow (.list T),s4]=.nx [.sh b,fN ku,oN kd,.ow (.list (T++us.map fun u=>.tuple [tl u,.bool (N0 ku kd u)])),s4']
 | [],T,s4,_=>⟨s4,by simp [D8]⟩
 | u::us,T,s4,hl=>by
   rw [wT] at hl; obtain ⟨s4',e⟩:=Rw b ku kd us (T++[.tuple [tl u,.bool (N0 ku kd u)]]) (.sh (tl u)) (by simp; lia);refine ⟨s4',?_⟩; rw [wQ]; unfold D8; simp only [st1,xJ,xK]; have e1:(Z5 true 1 (b2 (b2 (A0 4) (vC (.int 0)) dIx) (vC (.int 0)) dIx)) [.sh b,fN ku,oN kd,.ow (.list T),.sh (tl u)]=.ok (.bool (!(un ku u.1.p))):=by
     rw [Hm (kvs:=ku) (kd:=idP u.1.p) rfl (by simp_arith [Bf]) (Oo _),bne_true]; rfl
   have e2:(Z5 true 2 (b2 (A0 4) (vC (.int 0)) dIx)) [.sh b,fN ku,oN kd,.ow (.list T),.sh (tl u)]=.ok (.bool (!(has kd (some (sgn u))))):=by
     rw [Hm (kvs:=kd) (kd:=sgA u) rfl (by simp_arith [Bf]) (He (some (sgn u))),bne_true]; rfl
   have e3:dL [.sh b,fN ku,oN kd,.ow (.list T),.sh (tl u)]=.nx [.sh b,fN ku,oN kd,.ow (.list (T++[.tuple [tl u,.bool (N0 ku kd u)]])),.sh (tl u)]:=by
     unfold dL; exact Eu rfl (U3 (A5 (d:=tl u) (by simp_arith) (A5 (Et e1 e2) rfl))) (by lia)
   rw [e3]; show D8 (st1 4) dL (us.map tl) _=_;rw [e,yO]; rfl
theorem cH {L:List Dp} {B:List Ad} (A:BkA L B) (hl:L.length<=10) {ku kd:Kvs} (P:Pr L ku kd):K2 [bkD L]=.ok (.list ((ord B).map fun u=>.tuple [tl u,.bool (N0 ku kd u)])):=by
 have hol:=Dg A;obtain ⟨s4,e⟩:=Rw (bkD L) ku kd (ord B) [] .un (by simp; lia);unfold K2 Y2 G9;refine P6 ?_;unfold M6;simp only [wQ,j5,wT,zD,l6,l5,xI,zG,yB];rw [B2 (δ':=[.sh (bkD L),oN ku,.un,.un,.un]) (by unfold V2 Dv Hj; simp_arith [P.u])];rw [B2 (δ':=[.sh (bkD L),fN ku,oN kd,.un,.un]) (by
   unfold V1 jE Dv Tk; show M5 (Res.bind (Res.ok (bkD L)) fun d=>L4 [.sh d,fN ku]) _=_;rw [C2,P.d]; rfl)]
 rw [B2 (δ':=[.sh (bkD L),fN ku,oN kd,.ow (.list []),.un]) (by rfl)];rw [yB] at e;have e3:O6 [.sh (bkD L),fN ku,oN kd,.ow (.list []),.un]=.nx [.sh (bkD L),fN ku,oN kd,.ow (.list ((ord B).map fun u=>.tuple [tl u,.bool (N0 ku kd u)])),s4]:=by
   unfold O6 K5; rw [D3 (d:=.list ((ord B).map tl)) (ds:=(ord B).map tl) (by simp_arith [Wo A hl]) rfl,D2];exact e
 rw [B2 e3];rfl
theorem P5 {α:Type} {δc:Dn} {tt:Dn->Res Bool} {el:Dn->Res wF} (g h:α->wF) (f:α->Bool):∀ xs:List α,(∀ x∈xs,tt ([.sh (g x)]++δc)=.ok (f x))->(∀ x∈xs,el ([.sh (g x)]++δc)=.ok (h x))->D1 E4 δc tt el (xs.map g)=.ok ((xs.filter f).map h)
 | [],_,_=>rfl
 | x::xs,ht,he=>by
   have ih:=P5 g h f xs (fun y hy=>ht y (.tail _ hy)) fun y hy=>he y (.tail _ hy);have h1:=ht x (.head _); have h2:=he x (.head _); rw [wQ]; unfold D1;cases c:f x with
   | true =>
     rw [c] at h1; simp only [E4,h1,h2,ih]; rw [xS,c,if_pos rfl,wQ]
   | false =>
     rw [c] at h1; simp only [E4,h1,ih]; rw [xS,c,if_neg (by decide)]
theorem iU {L:List Dp} {B:List Ad} (A:BkA L B) (hl:L.length<=10) {ku kd:Kvs} (P:Pr L ku kd):V6 [bkD L]=.ok (.list (((ord B).filter (N0 ku kd)).map tl)):=by
 have hol:=Dg A;have hp:=cH A hl P;unfold V6 Da Dq;refine P6 (I0 (M3 (D7 (D3 (d:=.list ((ord B).map fun u=>.tuple [tl u,.bool (N0 ku kd u)])) (by simp_arith [hp]) rfl) (by simp; lia) rfl ?_)));exact P5 (fun u=>.tuple [tl u,.bool (N0 ku kd u)]) tl (N0 ku kd) (ord B) (fun u _=>by
   unfold Ck; exact B9 (by simp_arith [Gi])) fun u _=>by unfold Ck; simp_arith [Bf]
theorem kW {u:As} (hw:Zo u.1.w) (h:u.2 < u.1.w.length):(ltr u).length=1/\xP (ltr u)=true/\chOk 32 126 (ltr u):=by
 have h':u.2 < u.1.w.cps.toList.length:=by rw [<- Tm]; exact h
 have hc:=hw.2.2 _ (z7 h');have e:u.1.w.cps.toList.getD u.2 0=u.1.w.cps.toList[u.2]:=by rw [GU,yA h']; rfl
 refine ⟨rfl,?_,?_⟩
 . unfold ltr
   rw [e];generalize u.1.w.cps.toList[u.2]=c at hc;unfold xP; simp;lia
 . unfold ltr
   rw [e]; exact .one hc
theorem Gk {α:Type} (f:α->Str):∀ us:List α,Bz (us.map fun u=>yK (f u))=some (us.map f)
 | []=>rfl
 | u::us=>by
   show (Bz (us.map fun u=>yK (f u))).map _=_;rw [Gk f us]; rfl
theorem lC {us:List As} (h:∀ u∈us,Zo u.1.w/\u.2 < u.1.w.length) (hl:us.length<=100):Ge "" (.list (us.map fun u=>yK (ltr u)))=some (.str (i3 "" (us.map ltr))):=by
 have hx:∀ x∈us.map ltr,x.length=1/\xP x=true/\chOk 32 126 x:=fun x hx=>by
   obtain ⟨u,hu,rfl⟩:=xF.mp hx; exact kW (h u hu).1 (h u hu).2
 obtain ⟨l1,o1,_⟩:=Js _ hx;have s1:=Mm _ hx;rw [wL] at l1 s1;show (Bz (us.map fun u=>yK (ltr u))).bind _=_;rw [Gk ltr us];show (if _ then _ else _)=_;have:(("" : Str)).length=0:=rfl;rw [if_pos ⟨by rw [s1,this]; lia,o1,xD (show _<=1000 by lia) Ho⟩]
theorem nB {L:List Dp} {B:List Ad} (A:BkA L B) (hl:L.length<=10) {ku kd:Kvs} (P:Pr L ku kd):F4 [bkD L]=.ok (.str (i3 "" (((ord B).filter (N0 ku kd)).map ltr))):=by
 have hol:=Dg A;have hf:=l9 (N0 ku kd) (ord B);have hs:=iU A hl P;have hj:=lC (us:=(ord B).filter (N0 ku kd)) (fun u hu=>by
   have:=(Df A.bk u).mp (yY.mp hu).1; exact ⟨A.wd _ this.1,this.2⟩) (by lia)
 have hc:E2 (fun δ=>((B5 (A1 (A0 0) A6) V6) δ).bind C9) E4 [] L6 (b2 (A0 0) (vC (.int 1)) dIx) [.sh (bkD L)]=.ok (((ord B).filter (N0 ku kd)).map fun u=>yK (ltr u)) :=
   D7 (D3 (d:=.list (((ord B).filter (N0 ku kd)).map tl)) (by simp_arith [hs]) rfl) (by simp; lia) rfl (Iq tl (fun u=>yK (ltr u)) (fun u=>by unfold Ck; simp_arith [Gi]) _)
 unfold F4 Ef Ez;refine P6 (I0 ?_);show (Cl "" _ [.sh (bkD L)])=_;unfold Cl;rw [M3 hc,C2,hj]; rfl
theorem K6 {st:wF->Dn->Option Dn} {body:Dn->Out} {d:wF} {ds:List wF} {δ δ1 δ':Dn} (h1:st d δ=some δ1) (h2:body δ1=.nx δ'):D8 st body (d::ds) δ=D8 st body ds δ':=by
 conv=>lhs; unfold D8
 rw [h1];show (match body δ1 with | .nx δ'=>_ | .ct δ'=>_ | .bk δ'=>_ | o=>_)=_;rw [h2]
theorem pV (p q:IdP):xE (idP p) (idP q)=decide (p=q):=by
 show ((p.1==q.1)&&((p.2==q.2)&&true))=_;rw [zU];simp [Prod.ext_iff]
noncomputable def Me (d:wF):Option IdP:=match d with
 | .tuple [.str k,_,.tuple [.int t,.str h]]=>if k = "undo" then some (t,h) else none
 | _=>none
theorem Zr {k:Str} {i x:wF} {xs:List wF} (h:k ≠ "undo"):Me (.tuple (.str k::i::x::xs))=none:=by
 unfold Me;split
 . rename_i heq
   injection heq with heq
   injection heq with h1 _
   injection h1 with h1
   rw [<- h1,if_neg h]
 . rfl
theorem Vl (i:wF) (q:IdP):Me (.tuple [.str "undo",i,idP q])=some q:=by
 unfold Me;exact if_pos rfl
noncomputable def aK (e:Dp) (o:List IdP):List IdP:=match Me e.1 with
 | some q=>if e.2∈o then o else o++[q]
 | none=>o
theorem fH {e:Dp} {q:IdP} (h:e.1=.tuple [.str "undo",idP e.2,idP q]) (o:List IdP):aK e o=if e.2∈o then o else o++[q]:=by
 unfold aK; rw [h,Vl]
theorem kJ {e:Dp} {k:Str} {i x:wF} {xs:List wF} (h:e.1=.tuple (.str k::i::x::xs)) (hk:k ≠ "undo") (o:List IdP):aK e o=o:=by
 unfold aK; rw [h,Zr hk]
noncomputable def uH:List Dp->List IdP->List IdP
 | [],o=>o
 | e::r,o=>uH r (aK e o)
abbrev off (L:List Dp):List IdP:=uH L.reverse []
abbrev Tj (kvs:Kvs):Prop:=∀ p∈kvs,∃ x:IdP,p.1=idP x
theorem fA {kvs:Kvs} (h:Tj kvs) (x:IdP) (v:wF):Tj (N9 kvs (idP x) v)/\∀ y,un (N9 kvs (idP x) v) y=(decide (x=y)||un kvs y):=by
 induction kvs with
 | nil =>
   refine ⟨fun p hp=>?_,fun y=>?_⟩
   . rw [wX.mp hp]; exact ⟨x,rfl⟩
   . show ((List.find? (fun p=>xE p.1 (idP y)) [(idP x,v)]).map (·.2)).isSome=_
     rw [xW,pV];cases decide (x=y) <;> rfl
 | cons p r ih =>
   obtain ⟨z,hz⟩:=h p (.head _); obtain ⟨i1,i2⟩:=ih fun q hq=>h q (.tail _ hq);unfold N9; rw [hz,pV];by_cases c:z=x
   . rw [if_pos (decide_eq_true c)]
     refine ⟨fun q hq=>?_,fun y=>?_⟩
     . rcases wK.mp hq with rfl | hq
       . exact ⟨z,rfl⟩
       . exact h q (.tail _ hq)
     . unfold un J3
       rw [xW,xW,hz,pV,c];cases decide (x=y) <;> rfl
   . rw [if_neg (by rw [decide_eq_false c]; decide)]
     refine ⟨fun q hq=>?_,fun y=>?_⟩
     . rcases wK.mp hq with rfl | hq
       . exact ⟨z,hz⟩
       . exact i1 q hq
     . unfold un J3
       rw [xW,xW,hz,pV];cases hd:decide (z=y) with
       | true=>simp
       | false=>exact i2 y
theorem dY {e:Dp} (h:Kd e) (b:wF) (kvs:Kvs) (o:List IdP) (hk:Tj kvs) (ho:∀ p,un kvs p=decide (p∈o)) (hl:kvs.length<=900):∃ kvs',Tj kvs'/\kvs'.length<=kvs.length+1/\(∀ p,un kvs' p=decide (p∈aK e o))/\Tb [.sh b,oN kvs,.sh e.1]=.nx [.sh b,oN kvs',.sh e.1]:=by
 have no:∀ k x xs,e.1=.tuple (.str k::idP e.2::x::xs)->k ≠ "undo" -> ∃ kvs',Tj kvs'/\kvs'.length<=kvs.length+1/\(∀ p,un kvs' p=decide (p∈aK e o))/\Tb [.sh b,oN kvs,.sh e.1]=.nx [.sh b,oN kvs',.sh e.1]:=fun k x xs e1 hk2=>by
   refine ⟨kvs,hk,z0 _,by rw [kJ e1 hk2]; exact ho,?_⟩;unfold Tb; rw [Q2 (Es (by rw [e1]; simp_arith [Bf,Gw,Hq hk2]))];rfl
 cases h with
 | drop ss h _=>exact no _ _ _ h (by decide)
 | oth k x xs h _ h2=>exact no _ _ _ h h2
 | undo q h =>
   have c1:(B4 (b2 (b2 (A0 2) (vC (.int 0)) dIx) (vC (.str "undo")) dEq)) [.sh b,oN kvs,.sh e.1]=.ok true:=by rw [h]; simp_arith [Bf,Gw,bV]
   have c2:(B4 (Z5 true 1 (b2 (A0 2) (vC (.int 1)) dIx))) [.sh b,oN kvs,.sh e.1]=.ok (!(decide (e.2∈o))):=by
     refine B9 ?_; rw [Hm (kvs:=kvs) (kd:=idP e.2) rfl (by rw [h]; simp_arith [Gi]) (Oo e.2),bne_true];exact congrArg (fun z=>Res.ok (BI (!z))) (ho e.2)
   rw [fH h]; unfold Tb;by_cases c:e.2∈o
   . rw [decide_eq_true c] at c2
     rw [Q2 (Z8 c1 c2),if_pos c]; exact ⟨kvs,hk,z0 _,ho,rfl⟩
   . rw [decide_eq_false c] at c2
     obtain ⟨g1,g2⟩:=fA hk q (.bool true); rw [W7 (Dm c1 c2),Eh (kd:=idP q) (v:=.bool true) rfl rfl (by rw [h]; simp_arith [eD]) (Oo q) (by lia),if_neg c];refine ⟨_,g1,Ej kvs,fun p=>?_,rfl⟩;rw [g2,ho]; rw [zU]; simp;constructor
     . rintro (h | h)
       . exact .inr h.symm
       . exact .inl h
     . rintro (h | h)
       . exact .inr h
       . exact .inl h.symm
theorem Rj (b:wF):∀ (ds:List Dp),(∀ e∈ds,Kd e)->∀ (kvs:Kvs) (o:List IdP) (s2:Sl),Tj kvs->(∀ p,un kvs p=decide (p∈o))->kvs.length+ds.length<=900->∃ kvs' s2',(∀ p,un kvs' p=decide (p∈uH ds o))/\D8 (st1 2) Tb (ds.map (·.1)) [.sh b,oN kvs,s2]=.nx [.sh b,oN kvs',s2']
 | [],_,kvs,o,s2,_,ho,_=>⟨kvs,s2,ho,rfl⟩
 | e::ds,h,kvs,o,s2,hk,ho,hl=>by
   rw [wT] at hl; obtain ⟨kvs1,k1,l1,o1,e1⟩:=dY (h e (.head _)) b kvs o hk ho (by lia);obtain ⟨kvs2,s2',o2,e2⟩:=Rj b ds (fun d hd=>h d (.tail _ hd)) kvs1 _ (.sh e.1) k1 o1 (by lia);exact ⟨kvs2,s2',o2,(K6 rfl e1).trans e2⟩
theorem nA {L:List Dp} (h:∀ e∈L,Kd e) (hl:L.length<=10):∃ kvs,K1 [.tuple (L.map (·.1))]=.ok kvs/\∀ p,un kvs p=decide (p∈off L):=by
 obtain ⟨kvs,s2,o,e⟩:=Rj (.tuple (L.map (·.1))) L.reverse (fun e he=>h e (List.mem_reverse.mp he)) [] [] .un (fun _ h=>nomatch h) (fun _=>rfl) (by simp; lia);refine ⟨kvs,?_,o⟩;rw [List.map_reverse] at e;unfold K1 Ca Bo fnW M6 Dx Cf K5 Ug;simp only [wQ,j5,wT,zD,l6,l5,xI,zG,yB,xJ,xK,Hl,o6,Ed,C2,Xa,D2];have e':=e;unfold Tb at e';rw [e'];rfl
structure Pq (L:List Dp) (ku kd:Kvs):Prop where
 P:Pr L ku kd
 o:∀ p,un ku p=decide (p∈off L)
theorem pq_ex {L:List Dp} (h:∀ e∈L,Kd e) (hl:L.length<=10):∃ ku kd,Pq L ku kd:=by
 obtain ⟨ku,e1,e4⟩:=nA h hl;obtain ⟨kd,e2,e3⟩:=vJ h hl ku;exact ⟨ku,kd,⟨e1,e2,e3⟩,e4⟩
theorem Vd {i:Nat} {c:Dn->Res Bool} {δ δ':Dn} {r:Res Bool} (h:fz i δ=δ') (h2:c δ'=r):cFz i c δ=r:=by unfold cFz; rw [h,h2]
theorem Kd.tid {e:Dp} (h:Kd e):dIx e.1 (.int 1)=some (idP e.2):=by
 obtain ⟨k,x,xs,e1⟩:=h.id;rw [e1]; exact Gi _ _ _
theorem b1_ok {f:Dn->Res wF} {op:wF->Option wF} {δ:Dn} {x d:wF} (h1:f δ=.ok x) (h3:op x=some d):b1 f op δ=.ok d:=by unfold b1; rw [h1,C2,h3]; rfl
theorem Tr (u v:As):xE (sgA u) (sgA v)=decide (sgn u=sgn v):=by
 rw [show sgA u=anD (some (sgn u)) from rfl,show sgA v=anD (some (sgn v)) from rfl,W2];congr 1;exact propext ⟨fun h=>yM h,fun h=>congrArg some h⟩
theorem vM {δc:Dn} {tt:Dn->Res Bool} {el:Dn->Res wF} {d y:wF} {ds ys:List wF} (h1:tt ([.sh d]++δc)=.ok true) (h2:el ([.sh d]++δc)=.ok y) (h3:D1 E4 δc tt el ds=.ok ys):D1 E4 δc tt el (d::ds)=.ok (y::ys):=by
 unfold D1;simp only [E4,h1,h2,h3]
theorem vN {δc:Dn} {tt:Dn->Res Bool} {el:Dn->Res wF} {d:wF} {ds ys:List wF} (h1:tt ([.sh d]++δc)=.ok false) (h3:D1 E4 δc tt el ds=.ok ys):D1 E4 δc tt el (d::ds)=.ok ys:=by
 unfold D1;simp only [E4,h1,h3]
theorem Gm {k v:wF}:∀ {kvs:Kvs},(∀ p∈kvs,xE p.1 k=false)->N9 kvs k v=kvs++[(k,v)]
 | [],_=>rfl
 | p::r,h=>by
   unfold N9; rw [if_neg (by rw [h p (.head _)]; decide),Gm fun q hq=>h q (.tail _ hq)]; rfl
theorem Yi {α:Type} (f:α->wF×wF) {u:α} (hu:xE (f u).1 (f u).1=true):∀ {us:List α} {more:Kvs},u∈us->us.Pairwise (fun a b=>xE (f a).1 (f b).1=false)->J3 (us.map f++more) (f u).1=some (f u).2
 | x::us,more,h,pw=>by
   rw [xO] at pw; unfold J3; rw [wQ,zG,xW]; rcases wK.mp h with rfl | h
   . rw [hu]; rfl
   . rw [pw.1 u h]; exact Yi f hu h pw.2
noncomputable def cnt (f:As->Bool) (X:List As):Nat:=(X.filter f).length
noncomputable def b1n (b:Bool):Nat:=if b=true then 1 else 0
theorem Yy (f:As->Bool) (X:List As) (u:As):cnt f (X++[u])=cnt f X+b1n (f u):=by
 unfold cnt b1n;rw [CA,xG];cases h:f u with
 | true=>rw [xS,h]; rfl
 | false=>rw [xS,h]; rfl
noncomputable def num (f:As->Bool):List As->Nat->List (As×Nat)
 | [],_=>[]
 | u::us,n=>(u,n)::num f us (n+b1n (f u))
theorem Xn (f:As->Bool) (u:As):∀ (X:List As) (n:Nat),num f (X++[u]) n=num f X n++[(u,n+cnt f X)]
 | [],n=>rfl
 | x::X,n=>by
   show (x,n)::num f (X++[u]) (n+b1n (f x))=(x,n)::(num f X (n+b1n (f x))++[(u,n+cnt f (x::X))]);rw [Xn f u X,Nat.add_assoc]; have:b1n (f x)+cnt f X=cnt f (x::X):=by
     unfold cnt b1n; rw [xS];cases f x <;> simp <;> lia
   rw [this]
theorem Ij (f:As->Bool):∀ (X:List As) (n:Nat),(num f X n).map (·.1)=X
 | [],_=>rfl
 | x::X,n=>by show x::(num f X _).map (·.1)=_; rw [Ij f X]
theorem cN (f:As->Bool) (u:As) (Y:List As):∀ (X:List As) (n:Nat),(u,n+cnt f X)∈num f (X++u::Y) n
 | [],n=>.head _
 | x::X,n=>by
   have:=cN f u Y X (n+b1n (f x)); have e:n+b1n (f x)+cnt f X=n+cnt f (x::X):=by
     unfold cnt b1n; rw [xS];cases f x <;> simp <;> lia
   rw [e] at this; exact .tail _ this
abbrev plE (f:As->Bool) (x:As×Nat):wF×wF:=(sgA x.1,.tuple [.int ((x.2+b1n (f x.1):Nat):Int),.int (x.2:Int)])
noncomputable def dJ:Dn->Out:=(B7 (D5 4 (A0 2)) (B7 (sIf (B4 (b2 (A0 3) (vC (.int 1)) dIx)) (D5 2 (b2 (A0 4) (vC (.int 1)) C5)) E1) (W6 1 (b2 (b2 (A0 3) (vC (.int 0)) dIx) (vC (.int 0)) dIx) (E7 (A1 (A0 2) (A1 (A0 4) A6))))))
theorem oJ (f:As->Bool) (b:wF) (X:List As) (u:As) (hX:X.length<=100) (hn:sgn u∉X.map sgn) (s4:Sl):dJ [.sh b,oN ((num f X 0).map (plE f)),.sh (.int (cnt f X:Int)),.sh (.tuple [tl u,.bool (f u)]),s4]=.nx [.sh b,oN ((num f (X++[u]) 0).map (plE f)),.sh (.int (cnt f (X++[u]):Int)),.sh (.tuple [tl u,.bool (f u)]),.sh (.int (cnt f X:Int))]:=by
 unfold dJ;rw [B2 (C8 (d:=.int (cnt f X:Int)) rfl)];simp only [xJ,xK];have hif:sIf (B4 (b2 (A0 3) (vC (.int 1)) dIx)) (D5 2 (b2 (A0 4) (vC (.int 1)) C5)) E1 [.sh b,oN ((num f X 0).map (plE f)),.sh (.int (cnt f X:Int)),.sh (.tuple [tl u,.bool (f u)]),.sh (.int (cnt f X:Int))]=.nx [.sh b,oN ((num f X 0).map (plE f)),.sh (.int (cnt f (X++[u]):Int)),.sh (.tuple [tl u,.bool (f u)]),.sh (.int (cnt f X:Int))]:=by
   rw [Yy];cases c:f u with
   | true =>
     rw [W7 (B9 (B1 (x:=.tuple [tl u,.bool true]) (y:=.int 1) rfl rfl (Gi _ _ _)))];rw [C8 (d:=.int ((cnt f X:Int)+1)) (B1 rfl rfl rfl)]; rfl
   | false =>
     rw [Q2 (B9 (B1 (x:=.tuple [tl u,.bool false]) (y:=.int 1) rfl rfl (Gi _ _ _)))];rfl
 rw [B2 hif];have hl:((num f X 0).map (plE f)).length<=1000:=by
   have:=congrArg AO (Ij f X 0); rw [wL] at this ⊢;lia
 rw [Eh (kvs:=(num f X 0).map (plE f)) (kd:=sgA u) (v:=.tuple [.int (cnt f (X++[u]):Int),.int (cnt f X:Int)]) rfl rfl (B1 (x:=tl u) (y:=.int 0) (B1 (x:=.tuple [tl u,.bool (f u)]) (y:=.int 0) rfl rfl (Bf _ _)) rfl (Bf _ _)) (He (some (sgn u))) hl];rw [Gm (fun p hp=>by
   obtain ⟨x,hx,rfl⟩:=xF.mp hp; have hx:x.1∈X:=by rw [<- Ij f X 0]; exact yP hx
   show xE (sgA x.1) (sgA u)=false;rw [Tr,decide_eq_false]; intro z; exact hn (by rw [<- z]; exact yP hx))]
 rw [Xn,xR,Nat.zero_add,Yy];rfl
theorem cI (f:As->Bool) (b:wF):∀ (us X:List As),((X++us).map sgn).Nodup->(X++us).length<=100->∀ s3 s4:Sl,∃ t3 t4,D8 (st1 3) dJ (us.map fun u=>.tuple [tl u,.bool (f u)]) [.sh b,oN ((num f X 0).map (plE f)),.sh (.int (cnt f X:Int)),s3,s4]=.nx [.sh b,oN ((num f (X++us) 0).map (plE f)),.sh (.int (cnt f (X++us):Int)),t3,t4]
 | [],X,_,_,s3,s4=>by rw [yL]; exact ⟨s3,s4,rfl⟩
 | u::us,X,nd,hl,s3,s4=>by
   have e1:=oJ f b X u (by rw [xG] at hl; lia) (by
     rw [xR,w6] at nd; intro z; exact nd.2.2 _ z _ (by rw [wQ]; exact .head _) rfl) s4
   obtain ⟨t3,t4,e2⟩:=cI f b us (X++[u]) (by rw [yO]; exact nd) (by rw [yO]; exact hl) (.sh (.tuple [tl u,.bool (f u)])) (.sh (.int (cnt f X:Int)));rw [yO] at e2; exact ⟨t3,t4,(K6 rfl e1).trans e2⟩
noncomputable def plN (f:As->Bool) (O:List As):Kvs:=(num f O 0).map (plE f)++[(.none,.tuple [.int 0,.int (cnt f O:Int)])]
theorem Lo {g1:Dn->Out} {g2:Dn->Res Kvs} {δ δ':Dn} (h:g1 δ=.nx δ'):Dx g1 g2 δ=g2 δ':=by unfold Dx; rw [h]
theorem fD {L:List Dp} {B:List Ad} (A:BkA L B) (hl:L.length<=10) {ku kd:Kvs} (P:Pr L ku kd):T8 [bkD L]=.ok (plN (N0 ku kd) (ord B)):=by
 have hol:=Dg A;obtain ⟨t3,t4,e⟩:=cI (N0 ku kd) (bkD L) (ord B) [] (Jl A.bk) (by simp; lia) .un .un;have hp:=cH A hl P;have hlen:((num (N0 ku kd) (ord B) 0).map (plE (N0 ku kd))).length<=1000:=by
   have:=congrArg AO (Ij (N0 ku kd) (ord B) 0); rw [wL] at this ⊢;lia
 have e5:W6 1 (vC .none) (E7 (A1 (vC (.int 0)) (A1 (A0 2) A6))) [.sh (bkD L),oN ((num (N0 ku kd) (ord B) 0).map (plE (N0 ku kd))),.sh (.int (cnt (N0 ku kd) (ord B):Int)),t3,t4]=.nx [.sh (bkD L),oN (plN (N0 ku kd) (ord B)),.sh (.int (cnt (N0 ku kd) (ord B):Int)),t3,t4]:=by
   rw [Eh (kvs:=(num (N0 ku kd) (ord B) 0).map (plE (N0 ku kd))) (kd:=.none) (v:=.tuple [.int 0,.int (cnt (N0 ku kd) (ord B):Int)]) rfl rfl rfl rfl hlen];rw [Gm (fun p hp=>by
     obtain ⟨x,hx,rfl⟩:=xF.mp hp; rfl)]
   rfl
 have e6:K5 (fun δ=>((B5 (A1 (A0 0) A6) K2) δ).bind C9) (st1 3) dJ [.sh (bkD L),oN [],.sh (.int 0),.un,.un]=.nx [.sh (bkD L),oN ((num (N0 ku kd) (ord B) 0).map (plE (N0 ku kd))),.sh (.int (cnt (N0 ku kd) (ord B):Int)),t3,t4]:=by
   unfold K5; rw [D3 (d:=.list ((ord B).map fun u=>.tuple [tl u,.bool (N0 ku kd u)])) (B8 (A5 (d:=bkD L) rfl rfl) hp) rfl,D2];exact e
 unfold T8 Cb Bp fnW;show Dx _ _ [.sh (bkD L),.un,.un,.un,.un]=_;refine (Lo (g1:=Cf 1) (δ':=[.sh (bkD L),oN [],.un,.un,.un]) rfl).trans ((Lo (g1:=D5 2 (vC (.int 0))) (δ':=[.sh (bkD L),oN [],.sh (.int 0),.un,.un]) rfl).trans ((Lo e6).trans ((Lo e5).trans rfl)))
theorem So {k:wF} {more:Kvs}:∀ {kvs:Kvs},(∀ p∈kvs,xE p.1 k=false)->J3 (kvs++more) k=J3 more k
 | [],_=>rfl
 | p::r,h=>by
   unfold J3; rw [zG,xW,h p (.head _)]; exact So (kvs:=r) fun q hq=>h q (.tail _ hq)
theorem uI {O:List As} (nd:(O.map sgn).Nodup) (f:As->Bool):(num f O 0).Pairwise (fun a b=>xE (plE f a).1 (plE f b).1=false):=by
 have h1:((num f O 0).map (fun x=>sgn x.1)).Nodup:=by
   have:(num f O 0).map (fun x=>sgn x.1)=((num f O 0).map (·.1)).map sgn:=by rw [zV]; rfl
   rw [this,Ij]; exact nd
 rw [BZ,w5] at h1;exact h1.imp fun {a b} h=>by show xE (sgA a.1) (sgA b.1)=false; rw [Tr,decide_eq_false h]
theorem Xj (f:As->Bool) (O:List As):J3 (plN f O) .none=some (.tuple [.int 0,.int (cnt f O:Int)]):=by
 unfold plN;rw [So (fun p hp=>by obtain ⟨x,hx,rfl⟩:=xF.mp hp; rfl)];rfl
theorem Xi {f:As->Bool} {O X Y:List As} {u:As} (nd:(O.map sgn).Nodup) (e:O=X++u::Y):J3 (plN f O) (sgA u)=some (.tuple [.int ((cnt f X+b1n (f u):Nat):Int),.int (cnt f X:Int)]):=by
 have hm:(u,cnt f X)∈num f O 0:=by have:=cN f u Y X 0; rw [Nat.zero_add] at this; rw [e]; exact this
 exact Yi (plE f) (u:=(u,cnt f X)) (by show xE (sgA u) (sgA u)=true; rw [Tr]; simp) hm (uI nd f)
theorem sA:Ep "lr" (.str "l")=some (.int 0):=by
 have:AC "lr" "l" 0 (("lr" : Str)).length 1=[0]:=by decide +kernel
 simp only [Ep,this]; rfl
theorem rZ:Ep "lr" (.str "r")=some (.int 1):=by
 have:AC "lr" "r" 0 (("lr" : Str)).length 1=[1]:=by decide +kernel
 simp only [Ep,this]; rfl
theorem Ly {kvs:Kvs} {k:wF} {x:Str} {y z v:wF} {j:Int} (hk:nkD k=true) (hg:J3 kvs k=some (.tuple [y,z])) (hi:Ep "lr" (.str x)=some (.int j)) (hv:dIx (.tuple [y,z]) (.int j)=some v):I9 [fN kvs,.sh (.tuple [k,.str x])]=.ok v:=by
 unfold I9 Db Ds fnS;have:F6 (b2 (Pi 0 (b2 (A0 1) (vC (.int 0)) dIx)) (Lp (vC (.str "lr")) (b2 (A0 1) (vC (.int 1)) dIx)) dIx) [fN kvs,.sh (.tuple [k,.str x])]=.rt v:=by
   refine I0 (B1 (x:=.tuple [y,z]) (y:=.int j) ?_ ?_ hv)
   . unfold Pi
     show Res.bind _ (fun kd'=>if nkD kd'=true then ofO (J3 kvs kd') else Res.no)=_;rw [B1 (x:=.tuple [k,.str x]) (y:=.int 0) rfl rfl (Bf _ _),C2,if_pos hk,hg]; rfl
   . unfold Lp
     show Res.bind _ _=_;rw [show vC (.str "lr") [fN kvs,.sh (.tuple [k,.str x])]=.ok (.str "lr") from rfl,C2];show Res.bind _ _=_;rw [B1 (x:=.tuple [k,.str x]) (y:=.int 1) rfl rfl (Gi _ _ _),C2,hi]; rfl
 show (match F6 _ [fN kvs,.sh (.tuple [k,.str x])] with | .rt d=>_ | .nx _=>_ | .exc c=>_ | _=>_)=_;rw [this]
def Rg (O:List As) (d:wF):Prop:=∃ s x,d=.tuple [s,.str x]/\kY x/\(s=.none\/∃ u∈O,s=sgA u)
inductive Md (O:List As) (e:Dp):Prop where
 | mark (n:Str) (a1 a2:wF):e.1=.tuple [.str "mark",idP e.2,.str n,a1,a2]->V3 n->Rg O a1->Rg O a2->Md O e
 | unm (n:Str):e.1=.tuple [.str "unmark",idP e.2,.str n]->V3 n->Md O e
 | oth (k:Str) (x:wF) (xs:List wF):e.1=.tuple (.str k::idP e.2::x::xs)->k ≠ "mark" -> k ≠ "unmark" -> Md O e
theorem WfIn.md {L:List Dp} {B:List Ad} (A:BkA L B) {e:Dp} (h:WfIn L e):Md (ord B) e:=by
 obtain ⟨o,r⟩:=(show Wf _ _ _ _ from h);have an:∀ s x,OrN (SgOf e.2.1 (L.map (·.1))) s->kY x->Rg (ord B) (.tuple [s,.str x]):=fun s x hs hx=>by
   refine ⟨s,x,rfl,hx,?_⟩; rcases hs with rfl | ⟨p,b,w,n,hm,rfl,hn,_,_⟩
   . exact .inl rfl
   . obtain ⟨a,ha,rfl,rfl⟩:=A.ad.of hm
     exact .inr ⟨(a,n),(Df A.bk (a,n)).mpr ⟨ha,hn⟩,rfl⟩
 rcases r with ⟨b,w,e1,_⟩ | ⟨sg,e1,_⟩ | ⟨n,s1,x1,s2,x2,e1,h1,h2,hn,l1,l2⟩ | ⟨n,e1,hn⟩ | ⟨q,e1,_⟩
 . exact .oth "add" _ _ e1 (by decide) (by decide)
 . exact .oth "drop" _ _ e1 (by decide) (by decide)
 . exact .mark n _ _ e1 hn (an _ _ h1 l1) (an _ _ h2 l2)
 . exact .unm n e1 hn
 . exact .oth "undo" _ _ e1 (by decide) (by decide)
noncomputable def Ch (d:wF):Option Str:=match d with
 | .tuple (.str k::_::.str n::_)=>if k = "mark" \/ k = "unmark" then some n else none
 | _=>none
theorem Oh {k:Str} {i x:wF} {xs:List wF} (h1:k ≠ "mark") (h2:k ≠ "unmark"):Ch (.tuple (.str k::i::x::xs))=none:=by
 unfold Ch;split
 . rename_i heq
   injection heq with heq
   injection heq with h _
   injection h with h
   rw [<- h,if_neg (by rintro (z | z); exact h1 z; exact h2 z)]
 . rfl
noncomputable def Cr (o:List IdP) (e:Dp) (kvs:Kvs):Kvs:=match Ch e.1 with
 | some n=>if e.2∈o then kvs else N9 kvs (.str n) e.1
 | none=>kvs
noncomputable def Oj (o:List IdP):List Dp->Kvs->Kvs
 | [],kvs=>kvs
 | e::r,kvs=>Oj o r (Cr o e kvs)
noncomputable def cMk:Dn->Res Bool:=B4 (b2 (b2 (A0 3) (vC (.int 0)) dIx) (E7 (A1 (vC (.str "mark")) (A1 (vC (.str "unmark")) A6))) (dIn false))
theorem inMk (k:Str):dIn false (.str k) (.tuple [.str "mark",.str "unmark"])=some (.bool (decide (k = "mark" \/ k = "unmark"))):=by
 have h:([yK "mark",.str "unmark"].any fun y=>xE y (.str k))=decide (k = "mark" \/ k = "unmark"):=by
   show ((("mark" : Str)==k)||((("unmark" : Str)==k)||false))=_;rw [FD,zU,GD,beq_iff_eq,beq_iff_eq,decide_eq_true_iff]; exact ⟨fun h=>h.elim (fun z=>.inl z.symm) fun z=>.inr z.symm,fun h=>h.elim (fun z=>.inl z.symm) fun z=>.inr z.symm⟩
 rw [<- h];unfold dIn;simp only [];rw [if_pos (xD (j4 _ _) (by simp [yX])),if_neg (by decide)]
theorem fV {O:List As} {e:Dp} (h:Md O e) (o:List IdP) (c:Dn->Res Bool) (x0 x1:Sl) (kvs:Kvs) (hl:kvs.length<=900) (hc:c [x0,x1,oN kvs,.sh e.1]=.ok (!decide (e.2∈o))) :
   sIf (M1 cMk c) (W6 2 (b2 (A0 3) (vC (.int 2)) dIx) (A0 3)) E1 [x0,x1,oN kvs,.sh e.1]=.nx [x0,x1,oN (Cr o e kvs),.sh e.1]/\(Cr o e kvs).length<=kvs.length+1:=by
 have go:∀ k n xs,e.1=.tuple (.str k::idP e.2::.str n::xs)->(k = "mark" \/ k = "unmark")->sIf (M1 cMk c) (W6 2 (b2 (A0 3) (vC (.int 2)) dIx) (A0 3)) E1 [x0,x1,oN kvs,.sh e.1]=.nx [x0,x1,oN (Cr o e kvs),.sh e.1]/\(Cr o e kvs).length<=kvs.length+1:=fun k n xs e1 hk=>by
   have c1:cMk [x0,x1,oN kvs,.sh e.1]=.ok true:=by
     unfold cMk; refine B9 (B1 (x:=.str k) (y:=.tuple [.str "mark",.str "unmark"]) (B1 (x:=e.1) (y:=.int 0) rfl rfl (by rw [e1]; exact Bf _ _)) rfl ?_);rw [inMk,decide_eq_true hk]
   have hn:Ch e.1=some n:=by rw [e1]; unfold Ch; exact if_pos hk
   unfold Cr; rw [hn];by_cases ho:e.2∈o
   . rw [decide_eq_true ho] at hc
     rw [Q2 (Z8 c1 hc)]; show _=Out.nx [x0,x1,oN (if e.2∈o then kvs else _),_]/\(if e.2∈o then kvs else _).length<=_;rw [if_pos ho]; exact ⟨rfl,by lia⟩
   . rw [decide_eq_false ho] at hc
     rw [W7 (Dm c1 hc),Eh (kvs:=kvs) (kd:=.str n) (v:=e.1) rfl rfl (B1 (x:=e.1) (y:=.int 2) rfl rfl (by rw [e1]; exact eD _ _ _ _)) rfl (by lia)];show _=Out.nx [x0,x1,oN (if e.2∈o then kvs else _),_]/\(if e.2∈o then kvs else _).length<=_;rw [if_neg ho]; exact ⟨rfl,Ej kvs⟩
 cases h with
 | mark n a1 a2 e1 _ _ _=>exact go _ n _ e1 (.inl rfl)
 | unm n e1 _=>exact go _ n _ e1 (.inr rfl)
 | oth k x xs e1 h1 h2 =>
   have c1:cMk [x0,x1,oN kvs,.sh e.1]=.ok false:=by
     unfold cMk; refine B9 (B1 (x:=.str k) (y:=.tuple [.str "mark",.str "unmark"]) (B1 (x:=e.1) (y:=.int 0) rfl rfl (by rw [e1]; exact Bf _ _)) rfl ?_);rw [inMk,decide_eq_false (by rintro (z | z); exact h1 z; exact h2 z)]
   have hn:Ch e.1=none:=by rw [e1]; exact Oh h1 h2
   unfold Cr; rw [hn,Q2 (Es c1)]; exact ⟨rfl,z0 _⟩
theorem Sa {O:List As} (o:List IdP) (c:Dn->Res Bool) (x0 x1:Sl):∀ (M:List Dp),(∀ e∈M,Md O e)->(∀ e∈M,∀ kvs,c [x0,x1,oN kvs,.sh e.1]=.ok (!decide (e.2∈o)))->∀ (kvs:Kvs) (s3:Sl),kvs.length+M.length<=900 ->
   ∃ t3,D8 (st1 3) (sIf (M1 cMk c) (W6 2 (b2 (A0 3) (vC (.int 2)) dIx) (A0 3)) E1) (M.map (·.1)) [x0,x1,oN kvs,s3]=.nx [x0,x1,oN (Oj o M kvs),t3]/\(Oj o M kvs).length<=kvs.length+M.length
 | [],_,_,kvs,s3,_=>⟨s3,rfl,wO _⟩
 | e::M,h,hc,kvs,s3,hl=>by
   rw [wT] at hl ⊢;obtain ⟨e1,l1⟩:=fV (h e (.head _)) o c x0 x1 kvs (by lia) (hc e (.head _) kvs);obtain ⟨t3,e2,l2⟩:=Sa o c x0 x1 M (fun d hd=>h d (.tail _ hd)) (fun d hd=>hc d (.tail _ hd)) (Cr o e kvs) (.sh e.1) (by lia);refine ⟨t3,(K6 rfl e1).trans e2,?_⟩; show (Oj o M (Cr o e kvs)).length<=_;lia
def LastOk (O:List As) (kvs:Kvs):Prop:=∀ p∈kvs,∃ n,p.1=.str n/\V3 n/\((∃ i a1 a2,p.2=.tuple [.str "mark",i,.str n,a1,a2]/\Rg O a1/\Rg O a2)\/∃ i,p.2=.tuple [.str "unmark",i,.str n])
theorem Ru {O:List As} {kvs:Kvs} (h:LastOk O kvs) {n:Str} {d:wF} (hn:V3 n) (hd:(∃ i a1 a2,d=.tuple [.str "mark",i,.str n,a1,a2]/\Rg O a1/\Rg O a2)\/∃ i,d=.tuple [.str "unmark",i,.str n]):LastOk O (N9 kvs (.str n) d):=by
 induction kvs with
 | nil=>intro p hp; rw [wX.mp hp]; exact ⟨n,rfl,hn,hd⟩
 | cons q r ih =>
   unfold N9;split
   . rename_i c
     obtain ⟨m,hm,_⟩:=h q (.head _); intro p hp; rcases wK.mp hp with rfl | hp
     . have : m = n := by
         rw [hm] at c; exact i7 (show (m==n)=true from c)
       exact ⟨n,by rw [hm,this],hn,hd⟩
     . exact h p (.tail _ hp)
   . intro p hp
     rcases wK.mp hp with rfl | hp
     . exact h p (.head _)
     . exact ih (fun x hx=>h x (.tail _ hx)) p hp
theorem Xz {O:List As} (o:List IdP):∀ (M:List Dp),(∀ e∈M,Md O e)->∀ kvs,LastOk O kvs->LastOk O (Oj o M kvs)
 | [],_,kvs,h=>h
 | e::M,hM,kvs,h=>by
   refine Xz o M (fun d hd=>hM d (.tail _ hd)) _ ?_;cases hM e (.head _) with
   | mark n a1 a2 e1 hn h1 h2 =>
     unfold Cr; rw [e1,show Ch (.tuple [.str "mark",idP e.2,.str n,a1,a2])=some n by unfold Ch; exact if_pos (.inl rfl)];show LastOk O (if e.2∈o then kvs else _);split
     . exact h
     . exact Ru h hn (.inl ⟨_,_,_,rfl,h1,h2⟩)
   | unm n e1 hn =>
     unfold Cr; rw [e1,show Ch (.tuple [.str "unmark",idP e.2,.str n])=some n by unfold Ch; exact if_pos (.inr rfl)];show LastOk O (if e.2∈o then kvs else _);split
     . exact h
     . exact Ru h hn (.inr ⟨_,rfl⟩)
   | oth k x xs e1 h1 h2 =>
     unfold Cr; rw [e1,Oh h1 h2]; exact h
theorem LastOk.texts {O:List As}:∀ {kvs:Kvs},LastOk O kvs->∃ ss,M4 (kvs.map (·.1))=some ss/\ss.length=kvs.length/\(∀ x∈ss,V3 x)/\∀ x∈ss,∃ d,J3 kvs (.str x)=some d
 | [],_=>⟨[],rfl,rfl,(fun _ h=>nomatch h),(fun _ h=>nomatch h)⟩
 | p::r,h=>by
   obtain ⟨ss,e1,e2,e3,e4⟩:=LastOk.texts (kvs:=r) fun q hq=>h q (.tail _ hq);obtain ⟨n,hn,ho,_⟩:=h p (.head _); refine ⟨n::ss,?_,by simp [e2],fun x hx=>?_,fun x hx=>?_⟩
   . rw [wQ,hn]
     show (M4 (r.map (·.1))).map (n::·)=_;rw [e1]; rfl
   . rcases wK.mp hx with rfl | hx
     . exact ho
     . exact e3 x hx
   . unfold J3
     rw [xW];cases c:xE p.1 (.str x) with
     | true=>exact ⟨_,rfl⟩
     | false =>
       rcases wK.mp hx with rfl | hx
       . rw [hn] at c
         exact absurd (show (x==x)=false from c) (by rw [beq_self_eq_true]; decide)
       . exact e4 x hx
theorem LastOk.get {O:List As} {kvs:Kvs} (h:LastOk O kvs) {x:Str} {d:wF} (e:J3 kvs (.str x)=some d):(∃ i a1 a2,d=.tuple [.str "mark",i,.str x,a1,a2]/\Rg O a1/\Rg O a2)\/∃ i,d=.tuple [.str "unmark",i,.str x]:=by
 unfold J3 at e;obtain ⟨p,e1,e2⟩:=yF.mp e;have hp:=List.mem_of_find?_eq_some e1;have hq:=List.find?_some e1;obtain ⟨n,hn,_,hd⟩:=h p hp;rw [hn] at hq;have:n=x:=i7 (show (n==x)=true from hq);subst this;rw [<- e2];exact hd
noncomputable def bef (f:As->Bool):List As->As->Nat
 | [],_=>0
 | v::r,u=>if sgn v=sgn u then 0 else b1n (f v)+bef f r u
theorem Yz (f:As->Bool) (v:As) (X:List As):cnt f (v::X)=b1n (f v)+cnt f X:=by
 unfold cnt b1n;rw [xS];cases f v <;> simp <;> lia
theorem Th {f:As->Bool}:∀ {O:List As} {u:As},u∈O->(O.map sgn).Nodup->∃ X Y,O=X++u::Y/\bef f O u=cnt f X
 | v::r,u,h,nd=>by
   rw [wQ,zC] at nd; unfold bef;by_cases c:sgn v=sgn u
   . rw [if_pos c]
     have:v=u:=by
       rcases wK.mp h with e | h
       . exact e.symm
       . exact absurd (yP (f:=sgn) h) (by rw [<- c]; exact nd.1)
     exact ⟨[],r,by rw [this]; rfl,rfl⟩
   . rw [if_neg c]
     have hu:u∈r:=by
       rcases wK.mp h with e | h
       . exact absurd (by rw [e]) c
       . exact h
     obtain ⟨X,Y,e1,e2⟩:=Th hu nd.2; exact ⟨v::X,Y,by rw [e1]; rfl,by rw [e2,Yz]⟩
theorem Zl {f:As->Bool} {O:List As} (nd:(O.map sgn).Nodup) {d:wF} (h:Rg O d):∃ n:Nat,I9 [fN (plN f O),.sh d]=.ok (.int (n:Int))/\n<=cnt f O:=by
 obtain ⟨s,x,rfl,hx,hs⟩:=h;rcases hs with rfl | ⟨u,hu,rfl⟩
 . rcases hx with rfl | rfl
   . exact ⟨0,Ly rfl (Xj f O) sA (Bf _ _),zI _⟩
   . exact ⟨cnt f O,Ly rfl (Xj f O) rZ (Gi _ _ _),wO _⟩
 . obtain ⟨X,Y,e1,_⟩:=Th (f:=f) hu nd
   have hc:cnt f O=cnt f X+(b1n (f u)+cnt f Y):=by
     rw [e1,<- Yz]; unfold cnt; rw [CA,xG]
   rcases hx with rfl | rfl
   . exact ⟨cnt f X+b1n (f u),Ly (He (some (sgn u))) (Xi nd e1) sA (Bf _ _),by lia⟩
   . exact ⟨cnt f X,Ly (He (some (sgn u))) (Xi nd e1) rZ (Gi _ _ _),by lia⟩
noncomputable def sel (kvs:Kvs) (n:Str):wF:=(J3 kvs (.str n)).getD .none
noncomputable def isM (kvs:Kvs) (n:Str):Bool:=match sel kvs n with
 | .tuple (.str k::_)=>k == "mark"
 | _=>false
abbrev C4 (t:Str×Nat×Nat):wF:=.tuple [.str t.1,.int (t.2.1:Int),.int (t.2.2:Int)]
inductive Rows (kvs:Kvs) (O:List As) (f:As->Bool):List Str->List (Str×Nat×Nat)->Prop where
 | nil:Rows kvs O f [] []
 | mark {n:Str} {i a1 a2:wF} {b c:Nat} {ns:List Str} {rs:List (Str×Nat×Nat)}:J3 kvs (.str n)=some (.tuple [.str "mark",i,.str n,a1,a2])->I9 [fN (plN f O),.sh a1]=.ok (.int (b:Int))->I9 [fN (plN f O),.sh a2]=.ok (.int (c:Int))->b<=cnt f O->c<=cnt f O->Rows kvs O f ns rs->Rows kvs O f (n::ns) ((n,b,if b < c then c else b)::rs)
 | skip {n:Str} {i:wF} {ns:List Str} {rs:List (Str×Nat×Nat)}:J3 kvs (.str n)=some (.tuple [.str "unmark",i,.str n])->Rows kvs O f ns rs->Rows kvs O f (n::ns) rs
theorem cB {kvs:Kvs} {O:List As} {f:As->Bool} (nd:(O.map sgn).Nodup) (h:LastOk O kvs):∀ ns:List Str,(∀ x∈ns,∃ d,J3 kvs (.str x)=some d)->∃ rs,Rows kvs O f ns rs
 | [],_=>⟨[],.nil⟩
 | n::ns,hn=>by
   obtain ⟨rs,hr⟩:=cB (f:=f) nd h ns fun x hx=>hn x (.tail _ hx);obtain ⟨d,hd⟩:=hn n (.head _); rcases h.get hd with ⟨i,a1,a2,rfl,h1,h2⟩ | ⟨i,rfl⟩
   . obtain ⟨b,b1,b2⟩:=Zl (f:=f) nd h1
     obtain ⟨c,c1,c2⟩:=Zl (f:=f) nd h2; exact ⟨_,.mark hd b1 c1 b2 c2 hr⟩
   . exact ⟨rs,.skip hd hr⟩
theorem Rows.ok {kvs:Kvs} {O:List As} {f:As->Bool} {ns:List Str} {rs:List (Str×Nat×Nat)} (h:Rows kvs O f ns rs):rs.length<=ns.length/\(∀ t∈rs,t.1∈ns/\t.2.1<=t.2.2/\t.2.2<=cnt f O)/\(ns.Nodup->(rs.map (·.1)).Nodup):=by
 induction h with
 | nil=>exact ⟨wO _,(fun _ h=>nomatch h),fun _=>.nil⟩
 | @mark n i a1 a2 b c ns rs _ _ _ hb hc _ ih =>
   refine ⟨FX ih.1,fun t ht=>?_,fun nd=>?_⟩
   . rcases wK.mp ht with rfl | ht
     . refine ⟨.head _,?_,?_⟩
       . show b<=(if b < c then c else b)
         split <;> lia
       . show (if b < c then c else b)<=_
         split <;> lia
     . obtain ⟨k1,k2⟩:=ih.2.1 t ht
       exact ⟨.tail _ k1,k2⟩
   . rw [zC] at nd
     rw [wQ,zC]; refine ⟨fun z=>?_,ih.2.2 nd.2⟩;obtain ⟨t,ht,e⟩:=xF.mp z; have:=(ih.2.1 t ht).1; rw [e] at this; exact nd.1 this
 | skip _ _ ih =>
   refine ⟨BD ih.1,fun t ht=>?_,fun nd=>?_⟩
   . obtain ⟨k1,k2⟩:=ih.2.1 t ht
     exact ⟨.tail _ k1,k2⟩
   . exact ih.2.2 (zC.mp nd).2
theorem Yb {kvs:Kvs} {n:Str} {xs:List wF} (h:J3 kvs (.str n)=some (.tuple (.str "mark" :: xs))):isM kvs n=true:=by
 unfold isM sel; rw [h]; exact beq_self_eq_true _
theorem lH {kvs:Kvs} {n:Str} {xs:List wF} (h:J3 kvs (.str n)=some (.tuple (.str "unmark" :: xs))):isM kvs n=false:=by
 unfold isM sel; rw [h]; exact Hq (by decide)
theorem pJ {kvs:Kvs} {O:List As} {f:As->Bool} {ns:List Str} {rs:List (Str×Nat×Nat)} (h:Rows kvs O f ns rs):D1 E4 [oN kvs] (B4 (b2 (b2 (Pi 1 (A0 0)) (vC (.int 0)) dIx) (vC (.str "mark")) dEq)) (Pi 1 (A0 0)) (ns.map .str)=.ok ((ns.filter (isM kvs)).map (sel kvs)):=by
 have get:∀ {n:Str} {d:wF},J3 kvs (.str n)=some d->(Pi 1 (A0 0)) ([.sh (.str n)]++[oN kvs])=.ok d:=fun {n d} e=>by
   show Res.bind (Res.ok (yK n)) (fun kd'=>if nkD kd'=true then ofO (J3 kvs kd') else Res.no)=_;rw [C2,if_pos (show nkD (.str n)=true from rfl),e]; rfl
 induction h with
 | nil=>rfl
 | @mark n i a1 a2 b c ns rs hg _ _ _ _ _ ih =>
   rw [xS,Yb hg,if_pos rfl,wQ,wQ,show sel kvs n=.tuple [.str "mark",i,.str n,a1,a2] by unfold sel; rw [hg]; rfl];exact vM (B9 (B1 (x:=.str "mark") (y:=.str "mark") (B1 (get hg) rfl (Bf _ _)) rfl (by rw [Gw,bV]))) (get hg) ih
 | @skip n i ns rs hg _ ih =>
   rw [xS,lH hg,if_neg (by decide),wQ]; exact vN (B9 (B1 (x:=.str "unmark") (y:=.str "mark") (B1 (get hg) rfl (Bf _ _)) rfl (by rw [Gw,Hq (by decide)]))) ih
noncomputable def mK:Dn->Out:=(B7 (D5 4 (Bh 1 (b2 (A0 3) (vC (.int 3)) dIx) I9)) (Cg 2 (E7 (A1 (b2 (A0 3) (vC (.int 2)) dIx) (A1 (A0 4) (A1 (vFn (A1 (A0 4) (A1 (Bh 1 (b2 (A0 3) (vC (.int 4)) dIx) I9) A6)) aY) A6))))))
theorem tix4 (x y z u v:wF) (xs:List wF):dIx (.tuple (x::y::z::u::v::xs)) (.int 4)=some v:=L7 (xs:=x::y::z::u::v::xs) (j:=4) (by simp)
theorem Sz {i:Nat} {f:Dn->Res wF} {m:List Sl->Res wF} {δ:Dn} {kvs:Kvs} {d v:wF} (h1:δ[i]? = some (.fd kvs)) (h2:f δ=.ok d) (h3:m [.fd kvs,.sh d]=.ok v):Bh i f m δ=.ok v:=by
 unfold Bh;rw [h1];show (f δ).bind _=_;rw [h2,C2,h3]
theorem mx (b c:Nat):aY [.int (b:Int),.int (c:Int)]=some (.int ((if b < c then c else b:Nat):Int)):=by
 show some (xL (if (b:Int) < (c:Int) then (c:Int) else (b:Int)))=_;by_cases h:b < c
 . rw [if_pos h,if_pos (by lia)]
 . rw [if_neg h,if_neg (by lia)]
theorem pG {kvs:Kvs} {O:List As} {f:As->Bool} (b:wF) {ns:List Str} {rs:List (Str×Nat×Nat)} (h:Rows kvs O f ns rs):∀ (T:List wF) (s3 s4:Sl),T.length+ns.length<=800->∃ t3 t4,D8 (st1 3) mK ((ns.filter (isM kvs)).map (sel kvs)) [.sh b,fN (plN f O),.ow (.list T),s3,s4]=.nx [.sh b,fN (plN f O),.ow (.list (T++rs.map C4)),t3,t4]:=by
 induction h with
 | nil=>intro T s3 s4 _; rw [j5,yL]; exact ⟨s3,s4,rfl⟩
 | @mark n i a1 a2 bb c ns rs hg p1 p2 _ _ _ ih =>
   intro T s3 s4 hl; rw [wT] at hl; rw [xS,Yb hg,if_pos rfl,wQ,show sel kvs n=.tuple [.str "mark",i,.str n,a1,a2] by unfold sel; rw [hg]; rfl];obtain ⟨t3,t4,e2⟩:=ih (T++[C4 (n,bb,if bb < c then c else bb)]) (.sh (.tuple [.str "mark",i,.str n,a1,a2])) (.sh (.int (bb:Int))) (by simp; lia);rw [yO] at e2; refine ⟨t3,t4,(K6 rfl ?_).trans e2⟩; unfold mK; rw [B2 (C8 (d:=.int (bb:Int)) (Sz rfl (B1 (x:=.tuple [.str "mark",i,.str n,a1,a2]) (y:=.int 3) rfl rfl (hZ _ _ _ _ _)) p1))];simp only [xJ,xK]; exact Eu rfl (U3 (A5 (B1 (x:=.tuple [.str "mark",i,.str n,a1,a2]) (y:=.int 2) rfl rfl (eD _ _ _ _)) (A5 (d:=.int (bb:Int)) rfl (A5 (O0 (A5 (d:=.int (bb:Int)) rfl (A5 (Sz rfl (B1 (x:=.tuple [.str "mark",i,.str n,a1,a2]) (y:=.int 4) rfl rfl (tix4 _ _ _ _ _ _)) p2) rfl)) (mx bb c)) rfl)))) (by lia)
 | @skip n i ns rs hg _ ih =>
   intro T s3 s4 hl; rw [wT] at hl; rw [xS,lH hg,if_neg (by decide)]; exact ih T s3 s4 (by lia)
theorem uJ {x:Str} (h:V3 x):(xP x&&decide (x.length<=1000))=true:=by
 obtain ⟨_,h2,h3⟩:=h;rw [xC];refine ⟨?_,decide_eq_true (by lia)⟩;unfold xP;have:∀ c∈x.cps.toList,97<=c/\c<=122:=h3;first
   | (rw [l7]; intro c hc; have:=this c hc; simp; lia)
   | (rw [FF]; intro c hc; have:=this c (by simpa using hc); simp; lia)
   | (simp; intro c hc; have:=this c (by simpa using hc); lia)
theorem Rv {k v:wF}:∀ {kvs:Kvs} {q:wF×wF},q∈N9 kvs k v->q.1=k\/∃ q'∈kvs,q.1=q'.1
 | [],q,h=>by rw [wX.mp h]; exact .inl rfl
 | p::r,q,h=>by
   unfold N9 at h;split at h
   . rcases wK.mp h with rfl | h
     . exact .inr ⟨p,.head _,rfl⟩
     . exact .inr ⟨q,.tail _ h,rfl⟩
   . rcases wK.mp h with rfl | h
     . exact .inr ⟨_,.head _,rfl⟩
     . rcases Rv h with z | ⟨q',h',z⟩
       . exact .inl z
       . exact .inr ⟨q',.tail _ h',z⟩
abbrev Kpw (kvs:Kvs):Prop:=kvs.Pairwise fun p q=>xE p.1 q.1=false
theorem cF {k v:wF}:∀ {kvs:Kvs},Kpw kvs->Kpw (N9 kvs k v)
 | [],_=>o4 _ _
 | p::r,h=>by
   rw [Kpw,xO] at h; unfold N9;split
   . exact xO.mpr ⟨h.1,h.2⟩
   . rename_i c
     refine xO.mpr ⟨fun q hq=>?_,cF h.2⟩;rcases Rv hq with z | ⟨q',h',z⟩
     . rw [z]; simpa using c
     . rw [z]; exact h.1 q' h'
theorem Xy (o:List IdP):∀ (M:List Dp) (kvs:Kvs),Kpw kvs->Kpw (Oj o M kvs)
 | [],_,h=>h
 | e::M,kvs,h=>by
   refine Xy o M _ ?_; unfold Cr;split
   . split
     . exact h
     . exact cF h
   . exact h
theorem Vn:∀ {kvs:Kvs} {ss:List Str},M4 (kvs.map (·.1))=some ss->Kpw kvs->ss.Nodup
 | [],ss,e,_=>by cases e; exact .nil
 | p::r,ss,e,h=>by
   rw [Kpw,xO] at h; have e':=Mg e;cases ss with
   | nil=>cases e'
   | cons x ss =>
     rw [wQ,wQ] at e';injection e' with e1 e2
     have e1:p.1=.str x:=e1; refine zC.mpr ⟨fun z=>?_,Vn (kvs:=r) ?_ h.2⟩
     . have:yK x∈r.map (·.1):=by rw [e2]; exact yP z
       obtain ⟨q,hq,eq⟩:=xF.mp this; have hh:=h.1 q hq; rw [e1,show q.1=_ from eq] at hh; exact absurd (show (x==x)=false from hh) (by rw [beq_self_eq_true]; decide)
     . have : ∀ (l : List Str), M4 (l.map yK) = some l := fun l => by
         induction l with
         | nil=>rfl
         | cons y l ih=>show (M4 (l.map yK)).map (y::·)=_; rw [ih]; rfl
       rw [e2]; exact this ss
abbrev Row:=Str×Nat×Nat
def ltW (a b:Row):Prop:=leX a.1 b.1/\a.1≠b.1
theorem Rows.sub {kvs:Kvs} {O:List As} {f:As->Bool} {ns:List Str} {rs:List Row} (h:Rows kvs O f ns rs):(rs.map (·.1)).Sublist ns:=by
 induction h with
 | nil=>exact .slnil
 | mark _ _ _ _ _ _ ih=>exact ih.cons_cons _
 | skip _ _ ih=>exact ih.cons _
theorem kT {L:List Dp} {B:List Ad} {ku kd:Kvs} (A:BkA L B) (W:BkW L) (hl:L.length<=10) (P:Pq L ku kd):∃ ts:List Row,C6 [bkD L]=.ok (.list (ts.map C4))/\ts.Pairwise ltW/\ts.length<=10/\∀ t∈ts,t.2.1<=t.2.2/\t.2.2<=((ord B).filter (N0 ku kd)).length/\V3 t.1:=by
 have kdL:∀ e∈L,Kd e:=fun e he=>(W.1 e he).kd;have mdL:∀ e∈L,Md (ord B) e:=fun e he=>(W.1 e he).md A;have hol:=Dg A;have nd:=Jl A.bk;obtain ⟨t3,g1,g2⟩:=Sa (O:=ord B) (off L) (B4 (Z5 true 1 (b2 (A0 3) (vC (.int 1)) dIx))) (.sh (bkD L)) (oN ku) L mdL (fun e he kvs=>by
   refine B9 ?_; rw [Hm (kvs:=ku) (kd:=idP e.2) rfl (B1 (x:=e.1) (y:=.int 1) rfl rfl (kdL e he).tid) (Oo _),bne_true]; exact congrArg (fun z=>Res.ok (BI (!z))) (P.o e.2)) [] .un (by simp; lia)
 have hlast:=Xz (O:=ord B) (off L) L mdL [] (fun _ h=>nomatch h);have hpw:=Xy (off L) L [] .nil;generalize hkv:Oj (off L) L []=kvs at *;have hkl:kvs.length<=10:=by simp at g2; lia
 obtain ⟨ss,s1,s2,s3,s4⟩:=hlast.texts;have hsort:∀ (δ:Dn) (i:Nat),kvN δ i=some kvs->Ma i δ=.ok (.list ((Q1 ss).map .str)):=fun δ i h=>by
   unfold Ma; rw [h]; show (match M4 (kvs.map (·.1)) with | some ss=>_ | none=>_)=_;rw [s1]; show (if _ then _ else _)=_;rw [if_pos ⟨by lia,l7.mpr fun x hx=>uJ (s3 x hx)⟩]
 have hnl:(Q1 ss).length<=10:=by rw [(L9 ss).length_eq]; lia
 obtain ⟨rs,R⟩:=cB (f:=N0 ku kd) nd hlast (Q1 ss) fun x hx=>s4 x ((L9 ss).mem_iff.mp hx);have hmd:P1 [bkD L]=.ok (.list (((Q1 ss).filter (isM kvs)).map (sel kvs))):=by
   unfold P1 Av L8; refine P6 ?_; show B7 _ _ [.sh (bkD L),.un,.un,.un]=_;rw [B2 (δ':=[.sh (bkD L),oN ku,.un,.un]) (by unfold X8 Dv Hj; simp_arith [P.P.u])];rw [B2 (δ':=[.sh (bkD L),oN ku,oN [],.un]) (by rfl)];rw [B2 (δ':=[.sh (bkD L),oN ku,oN kvs,t3]) (by
     unfold X7 K5; rw [D3 (d:=bkD L) (ds:=L.map (·.1)) rfl rfl,D2]; exact g1)]
   unfold X6; exact I0 (M3 (D7 (D3 (d:=.list ((Q1 ss).map .str)) (hsort _ _ rfl) rfl) (by rw [wL]; lia) rfl (pJ R)))
 obtain ⟨v3,v4,q1⟩:=pG (bkD L) R [] .un .un (by simp; lia);obtain ⟨r1,r2,_⟩:=R.ok;have hnd:(Q1 ss).Nodup:=(L9 ss).nodup_iff.mpr (Vn s1 hpw);refine ⟨rs,?_,?_,by lia,fun t ht=>⟨(r2 t ht).2.1,(r2 t ht).2.2,s3 _ ((L9 ss).mem_iff.mp (r2 t ht).1)⟩⟩
 . unfold C6
   refine P6 ?_; show B7 _ _ [.sh (bkD L),.un,.un,.un,.un]=_;rw [B2 (δ':=[.sh (bkD L),oN (plN (N0 ku kd) (ord B)),.un,.un,.un]) (by unfold Bw Dv Hj; simp_arith [fD A hl P.P])];rw [B2 (δ':=[.sh (bkD L),oN (plN (N0 ku kd) (ord B)),.ow (.list []),.un,.un]) (by rfl)];rw [B2 (δ':=[.sh (bkD L),fN (plN (N0 ku kd) (ord B)),.ow (.list ([]++rs.map C4)),v3,v4]) (by
     unfold Bv jE; show K5 _ _ _ [.sh (bkD L),fN (plN (N0 ku kd) (ord B)),.ow (.list []),.un,.un]=_;unfold K5; rw [D3 (d:=.list (((Q1 ss).filter (isM kvs)).map (sel kvs))) (ds:=((Q1 ss).filter (isM kvs)).map (sel kvs)) (B8 (A5 (d:=bkD L) rfl rfl) hmd) rfl,D2]; exact q1)]
   rfl
 . have h1:=(((Nc ss).and hnd).sublist R.sub)
   rw [w5] at h1; exact h1
noncomputable def mk (l:List Nat):Str:=⟨l.toArray⟩
noncomputable def cp (u:As):Nat:=u.1.w.cps.toList.getD u.2 0
def Ok (l:List Nat):Prop:=∀ c∈l,32<=c/\c<=126
theorem aO (a b:List Nat):mk a++mk b=mk (a++b):=by
 show (⟨a.toArray++b.toArray⟩:Str)=⟨(a++b).toArray⟩;simp
theorem V4 (l:List Nat):(mk l).length=l.length:=by rw [Tm]; rfl
theorem pI (us:List As):i3 "" (us.map ltr)=mk (us.map cp):=by
 have one:∀ (x:Str) (r:List Str),i3 "" (x::r)=x++i3 "" r:=fun x r=>by
   cases r with
   | nil =>
     show x=x++(⟨#[]⟩:Str);show x=(⟨x.cps ++ #[]⟩:Str);cases x; simp
   | cons y r =>
     show x++("" : Str)++i3 "" (y::r)=_;have:x++("" : Str)=x:=by
       show (⟨x.cps ++ #[]⟩:Str)=x;cases x; simp
     rw [this]
 induction us with
 | nil=>rfl
 | cons u us ih =>
   rw [wQ,one,ih,wQ]; exact aO [cp u] _
theorem rS {α:Type} (l:List α):∀ (n a:Nat),a+n<=l.length->((zK n).map fun k=>a+k).filterMap (l[·]?)=(l.drop a).take n
 | 0,a,_=>by simp
 | n+1,a,h=>by
   have hlt:a+n < l.length:=by lia
   rw [List.range_succ,xR,List.filterMap_append,rS l n a (by lia),List.take_add_one,List.getElem?_drop]; simp [hlt]
theorem qR {l:List Nat} {lo hi:Option Int} {a b:Nat} (e:zE lo hi 1 l.length=zE (some (a:Int)) (some (b:Int)) 1 l.length) (hab:a<=b) (hb:b<=l.length):Ux (mk l) lo hi=mk ((l.drop a).take (b - a)):=by
 unfold Ux;rw [V4,e,PySem.StrLaws.strSliceIndices_plain hab hb];have p:=rS l (b - a) a (by lia);have p':((zK (b - a)).map fun k=>a+k).filterMap ((mk l).cps[·]?)=(l.drop a).take (b - a):=by
   rw [<- p,show (fun k=>(mk l).cps[k]?)=(fun k=>l[k]?) from funext fun k=>by show l.toArray[k]? = l[k]?; simp]
 split
 . rename_i h
   simp only [wL,List.length_range,beq_iff_eq] at h; have ha:a=0:=by lia
   have hb:b=l.length:=by lia
   subst ha hb; simp
 . rw [p']; rfl
theorem addM {a b:List Nat} (h:a.length+b.length<=1000):C5 (.str (mk a)) (.str (mk b))=some (.str (mk (a++b))):=by
 rw [vZ (by rw [V4,V4]; exact h),aO]
theorem vS {c c':Dn->Res Bool} {δ:Dn} (h1:c δ=.ok false) (h2:c' δ=.ok false):cOr c c' δ=.ok false:=by unfold cOr; rw [h1,C2,if_neg (by decide),h2]
theorem eY {st:wF->Dn->Option Dn} {body:Dn->Out} {d r:wF} {ds:List wF} {δ δ1:Dn} (h1:st d δ=some δ1) (h2:body δ1=.rt r):D8 st body (d::ds) δ=.rt r:=by
 conv=>lhs; unfold D8
 rw [h1];show (match body δ1 with | .nx δ'=>_ | .ct δ'=>_ | .bk δ'=>_ | o=>_)=_;rw [h2]
def Rf (n:Nat) (d:wF):Prop:=xE d d=true/\d.depth<=n
theorem Rf.all {n:Nat}:∀ {xs:List wF},(∀ x∈xs,Rf n x)->AA xs xs=true/\yW xs<=n:=by
 intro xs;induction xs with
 | nil=>intro _; exact ⟨rfl,zI _⟩
 | cons x xs ih =>
   intro h; obtain ⟨i1,i2⟩:=ih fun y hy=>h y (.tail _ hy);obtain ⟨j1,j2⟩:=h x (.head _); rw [AA,yW,i1,j1]; exact ⟨rfl,by lia⟩
theorem Rf.list {n:Nat} {xs:List wF} (h:∀ x∈xs,Rf n x):Rf (n+1) (.list xs):=by
 obtain ⟨h1,h2⟩:=Rf.all h;exact ⟨h1,by rw [yX]; lia⟩
theorem Rf.ne {n:Nat} {d:wF} (h:Rf n d) (hn:n<=62):dNe d d=some (.bool false):=by
 unfold dNe;rw [if_pos (xD (DR _ _) (xD h.2 (xD hn (by decide)))),h.1]; rfl
theorem Rf.str {n:Nat} (x:Str):Rf n (.str x):=⟨by simp [xE],by simp [yX]⟩
theorem cmpLe (a b:Int):E9 .LtE (.int a) (.int b)=some (.bool (decide (a<=b))):=rfl
theorem cmpLt (a b:Int):E9 .Lt (.int a) (.int b)=some (.bool (decide (a < b))):=rfl
theorem dO {W:List wF} {x:wF}:dIx (.list (W++[x])) (.int (-1))=some x:=by
 show atI (W++[x]) (-1)=_;unfold atI ixN;rw [xG,if_neg (by lia),if_pos (by simp; lia)];show (W++[x])[_]? = _;rw [show (-1+((W.length+[x].length:Nat):Int)).toNat=W.length by simp; lia];simp
theorem Se:∀ ns:List Int,Fz (ns.map .int)=some ns
 | []=>rfl
 | n::ns=>by show (Fz (ns.map .int)).map (n::·)=_; rw [Se ns]; rfl
theorem nK (ns:List Int) (h:ns.length < 64):Eo [.list (ns.map .int)]=some (.list ((Ec (Bg ns)).map .int)):=by
 show (if (ns.map xL).length < 64 then (match Fz (ns.map .int) with | some ns=>some (HQ ((Ec (Bg ns)).map .int)) | none=>_) else none)=_;rw [if_pos (by simpa using h),Se]
theorem aX {K:Type} [DecidableEq K] (l:List K):(Bg l).Nodup:=by
 have:∀ (l m:List K),m.Nodup->(l.foldl Bi m).Nodup:=fun l=>by
   induction l with
   | nil=>exact fun m h=>h
   | cons y l ih =>
     intro m h; refine ih _ ?_; unfold Bi;split
     . exact h
     . rename_i hy
       rw [w6]; exact ⟨h,by simp,fun a ha b hb e=>by rw [wX.mp hb] at e; exact hy (e▸ha)⟩
 exact this l [] List.nodup_nil
theorem eZ {lo hi:Int} (h:lo < hi):W8 lo hi=.int lo::W8 (lo+1) hi:=by
 unfold W8;obtain ⟨k,hk⟩:∃ k:Nat,(hi - lo).toNat=k+1:=⟨(hi - lo).toNat - 1,by lia⟩;rw [hk,show (hi - (lo+1)).toNat=k by lia,List.range_succ_eq_map,wQ,zV];congr 1
 . simp
 . refine List.map_congr_left fun i _=>?_
   show xL _=xL _;congr 1;simp;lia
theorem jG {lo hi:Int} (h:hi<=lo):W8 lo hi=[]:=by
 unfold W8;rw [show (hi - lo).toNat=0 by lia]; rfl
theorem fmax:∀ (l:List Int) (a:Int),a<=l.foldl ID a/\(∀ x∈l,x<=l.foldl ID a)/\(l.foldl ID a=a\/l.foldl ID a∈l):=by
 intro l;induction l with
 | nil=>intro a; exact ⟨Int.le_refl _,fun _ h=>(nomatch h),.inl rfl⟩
 | cons x l ih =>
   intro a; obtain ⟨h1,h2,h3⟩:=ih (ID a x); rw [p8]; refine ⟨by lia,fun y hy=>?_,?_⟩
   . rcases wK.mp hy with rfl | hy
     . lia
     . exact h2 y hy
   . rcases h3 with z | z
     . by_cases c:a<=x
       . exact .inr (by rw [z,Int.max_eq_right c]; exact .head _)
       . exact .inl (by rw [z,Int.max_eq_left (by lia)])
     . exact .inr (.tail _ z)
theorem On:∀ ns:List Int,Gs (ns.map .int)=some ns:=by
 intro ns;induction ns with
 | nil=>rfl
 | cons n ns ih=>show (Gs (ns.map .int)).map (n::·)=_; rw [ih]; rfl
theorem Lv {c c':Dn->Res Bool} {δ:Dn} {a b:Bool} (h1:c δ=.ok a) (h2:c' δ=.ok b):M1 c c' δ=.ok (a&&b):=by
 unfold M1;rw [h1,C2];cases a with
 | true=>exact h2
 | false=>rfl
theorem kI {l:List Nat} (h:Ok l) (hl:l.length<=1000):okS (mk l)=true:=by
 unfold okS xP;rw [decide_eq_true (by rw [V4]; exact xD hl Ho),Bool.and_true,FF];intro c hc;have:=(h c (by simpa [mk] using hc)).2;exact decide_eq_true (by lia)
noncomputable def sl (T:List Nat) (a b:Nat):List Nat:=(T.drop a).take (b - a)
theorem Tq (T:List Nat) {a b:Nat} (h:b<=a):sl T a b=[]:=by unfold sl; rw [Nat.sub_eq_zero_of_le h]; rfl
theorem Zz (T:List Nat) {a b c:Nat} (h1:a<=b) (h2:b<=c):sl T a b++sl T b c=sl T a c:=by
 unfold sl;rw [show c - a=(b - a)+(c - b) by lia,List.take_add,List.drop_drop,show a+(b - a)=b by lia]
theorem Ee (T:List Nat) {a b:Nat} (h:b<=T.length):(sl T a b).length=b - a:=by
 unfold sl;rw [BK,CY]; lia
theorem aA (T:List Nat):sl T 0 T.length=T:=by unfold sl; simp
theorem iQ {T:List Nat} (h:Ok T) (a b:Nat):Ok (sl T a b):=fun c hc=>h c (EC (IT hc))
theorem bA {T:List Nat} (h:Ok T) (hl:T.length<=40) {a b:Nat} (h1:a<=b) (h2:b<=T.length) {f:Dn->Res wF} {fa fb:Dn->Res wF} {δ:Dn} (e0:f δ=.ok (.str (mk T))) (e1:fa δ=.ok (.int (a:Int))) (e2:fb δ=.ok (.int (b:Int))) :
   Vj f (T7 fa) (T7 fb) δ=.ok (.str (mk (sl T a b))):=by
 unfold Vj T7;rw [e0,C2,e1,C2];show Res.bind (Res.ok (some (a:Int))) _=_;rw [C2,e2,C2];show Res.bind (Res.ok (some (b:Int))) _=_;rw [C2];have e:Ux (mk T) (some (a:Int)) (some (b:Int))=mk (sl T a b):=qR rfl h1 h2;show ofO (if okS (Ux (mk T) (some (a:Int)) (some (b:Int)))=true then _ else _)=_;rw [e,if_pos (kI (iQ h a b) (by rw [Ee T h2]; lia))]; rfl
theorem Ul (xs:List (List Nat)) (h:Ok xs.flatten) (hl:xs.flatten.length<=1000):Ge "" (.list (xs.map fun x=>.str (mk x)))=some (.str (mk xs.flatten)):=by
 have one:∀ (x:Str) (r:List Str),i3 "" (x::r)=x++i3 "" r:=fun x r=>by
   cases r with
   | nil =>
     show x=(⟨x.cps ++ #[]⟩:Str);cases x; simp
   | cons y r =>
     show x++("" : Str)++i3 "" (y::r)=_;have:x++("" : Str)=x:=by
       show (⟨x.cps ++ #[]⟩:Str)=x;cases x; simp
     rw [this]
 have hj:∀ xs:List (List Nat),i3 "" (xs.map mk)=mk xs.flatten/\((xs.map mk).map (·.length)).sum=xs.flatten.length:=fun xs=>by
   induction xs with
   | nil=>exact ⟨rfl,rfl⟩
   | cons x xs ih =>
     rw [wQ,one,ih.1,aO,wQ,List.sum_cons,ih.2,zQ,xG,V4]; exact ⟨rfl,rfl⟩
 obtain ⟨j1,j2⟩:=hj xs;obtain ⟨o1,o2⟩:=okS.out (kI h hl);show (Bz (xs.map fun x=>yK (mk x))).bind _=_;rw [Gk];show (if _ then _ else _)=_;rw [j1,if_pos ⟨by rw [j2,show ("" : Str).length=0 from rfl,Nat.mul_zero]; lia,o1,o2⟩]
inductive Chn:Nat->List (Nat×Nat)->Nat->Prop where
 | nil {a:Nat}:Chn a [] a
 | cons {a b c:Nat} {r:List (Nat×Nat)}:a < b->Chn b r c->Chn a ((a,b)::r) c
theorem Chn.le {a c:Nat} {P:List (Nat×Nat)} (h:Chn a P c):a<=c/\∀ p∈P,a<=p.1/\p.1 < p.2/\p.2<=c:=by
 induction h with
 | nil=>exact ⟨wO _,fun _ h=>nomatch h⟩
 | cons hab _ ih =>
   refine ⟨by lia,fun p hp=>?_⟩;rcases wK.mp hp with rfl | hp
   . exact ⟨wO _,hab,ih.1⟩
   . have:=ih.2 p hp
     lia
theorem Chn.at {a c:Nat} {P:List (Nat×Nat)} (h:Chn a P c):∀ x,a<=x->x < c->∃ p∈P,p.1<=x/\x < p.2:=by
 induction h with
 | nil=>intro x h1 h2; lia
 | @cons a b c r hab _ ih =>
   intro x h1 h2;by_cases k:x < b
   . exact ⟨_,.head _,h1,k⟩
   . obtain ⟨p,hp,q⟩:=ih x (by lia) h2
     exact ⟨p,.tail _ hp,q⟩
theorem Chn.join (T:List Nat) {a c:Nat} {P:List (Nat×Nat)} (h:Chn a P c):(P.map fun p=>sl T p.1 p.2).flatten=sl T a c:=by
 induction h with
 | nil=>exact (Tq T (wO _)).symm
 | cons hab k ih=>rw [wQ,zQ,ih,Zz T (p7 hab) k.le.1]
theorem Chn.within (T:List Nat) {x y:Nat} (hxy:x<=y) {a c:Nat} {P:List (Nat×Nat)} (h:Chn a P c):(∀ p∈P,(x<=p.1\/p.2<=x)/\(y<=p.1\/p.2<=y))->y<=c->((P.filter fun p=>decide (x<=p.1)&&decide (p.2<=y)).map fun p=>sl T p.1 p.2).flatten=sl T (ID a x) y:=by
 induction h with
 | @nil a=>intro _ hy; exact (Tq T (by lia)).symm
 | @cons a b c r hab k ih =>
   intro hp hy; have h1:=hp (a,b) (.head _); have i1:=ih (fun p q=>hp p (.tail _ q)) hy;simp only at h1; rw [xS];by_cases d:x<=a/\b<=y
   . rw [if_pos (by rw [decide_eq_true d.1,decide_eq_true d.2]; rfl),wQ,zQ,i1,show ID b x=b by lia,show ID a x=a by lia]
     exact Zz T (p7 hab) d.2
   . rw [if_neg (by rw [xC,decide_eq_true_iff,decide_eq_true_iff]; exact d),i1]
     by_cases e:x<=a
     . rw [Tq T (by lia),Tq T (by lia)]
     . rw [show ID b x=ID a x by lia]
theorem Yx {α:Type} {δc:Dn} {tt:Dn->Res Bool} {el:Dn->Res wF} (g1 g2 h:α->wF) (f:α->Bool):∀ xs:List α,(∀ x∈xs,tt ([.sh (g1 x),.sh (g2 x)]++δc)=.ok (f x))->(∀ x∈xs,el ([.sh (g1 x),.sh (g2 x)]++δc)=.ok (h x))->D1 O5 δc tt el (xs.map fun x=>.tuple [g1 x,g2 x])=.ok ((xs.filter f).map h):=by
 intro xs;induction xs with
 | nil=>intro _ _; rfl
 | cons x xs ih =>
   intro ht he; have i:=ih (fun y hy=>ht y (.tail _ hy)) fun y hy=>he y (.tail _ hy);have h1:=ht x (.head _); have h2:=he x (.head _); rw [wQ]; unfold D1;cases c:f x with
   | true =>
     rw [c] at h1; simp only [O5,h1,h2,i]; rw [xS,c,if_pos rfl,wQ]
   | false =>
     rw [c] at h1; simp only [O5,h1,i]; rw [xS,c,if_neg (by decide)]
structure K3 (L:List Dp) (T:List Nat) (ts:List Row):Prop where
 t:F4 [bkD L]=.ok (.str (mk T))
 m:C6 [bkD L]=.ok (.list (ts.map C4))
 up:ts.Pairwise ltW
 ln:ts.length<=10
 ok:∀ t∈ts,t.2.1<=t.2.2/\t.2.2<=T.length
 ch:Ok T
 tl:T.length<=40
theorem k3_ex {L:List Dp} (W:BkW L) (hl:L.length<=10):∃ T ts,K3 L T ts:=by
 obtain ⟨B,A⟩:=bka' W;obtain ⟨ku,kd,P⟩:=pq_ex (fun e he=>(W.1 e he).kd) hl;obtain ⟨ts,m1,m2,m3,m4⟩:=kT A W hl P;have hol:=Dg A;have hf:=l9 (N0 ku kd) (ord B);refine ⟨((ord B).filter (N0 ku kd)).map cp,ts,?_,m1,m2,m3,fun t ht=>?_,?_,by rw [wL]; lia⟩
 . rw [nB A hl P.P,pI]
 . rw [wL]; exact ⟨(m4 t ht).1,(m4 t ht).2.1⟩
 . intro c hc
   obtain ⟨u,hu,rfl⟩:=xF.mp hc; have:=(Df A.bk u).mp (yY.mp hu).1; exact (kW (A.wd _ this.1) this.2).2.2 _ (.head _)
theorem Ue {ts:List Row} (up:ts.Pairwise ltW) {t u:Row} (ht:t∈ts) (hu:u∈ts) (h:t.1=u.1):t=u:=by
 induction ts with
 | nil=>cases ht
 | cons x ts ih =>
   rw [xO] at up; rcases wK.mp ht with e1 | h1
   . rcases wK.mp hu with e2 | h2
     . rw [e1,e2]
     . exact absurd (by rw [<- e1,h]) (up.1 u h2).2
   . rcases wK.mp hu with e2 | h2
     . exact absurd (by rw [<- e2,h]) (up.1 t h1).2
     . exact ih up.2 h1 h2
theorem Um (b:Bool) (x:Str) (xs:List Str):dIn b (.str x) (.list (xs.map .str))=some (.bool (b != decide (x∈xs))):=by
 show (if _ then _ else _)=_;rw [if_pos (xD (j4 _ _) (by simp [yX]))];have:((xs.map yK).any fun y=>xE y (.str x))=decide (x∈xs):=by
   rw [HV,zU,z9,decide_eq_true_iff];constructor
   . rintro ⟨y,hy,e⟩
     have e:(y==x)=true:=e; rw [<- i7 e]; exact hy
   . intro h; exact ⟨x,h,by show (x==x)=true; exact beq_self_eq_true x⟩
 rw [this];cases b <;> cases decide (x∈xs) <;> rfl
abbrev hb (t:Row) (p:Nat×Nat):Bool:=decide (t.2.1<=p.1)&&decide (p.2<=t.2.2)
abbrev Em (ts:List Row) (p:Nat×Nat):List Str:=(ts.filter fun t=>hb t p).map (·.1)
abbrev V8 (ts:List Row) (p:Nat×Nat):wF:=.list ((Em ts p).map .str)
theorem cT {ts:List Row} (up:ts.Pairwise ltW) {t:Row} (ht:t∈ts) (f:Row->Bool):decide (t.1∈(ts.filter f).map (·.1))=f t:=by
 rw [zU,decide_eq_true_iff,xF];constructor
 . rintro ⟨u,hu,e⟩
   obtain ⟨h1,h2⟩:=yY.mp hu; rw [Ue up ht h1 e.symm]; exact h2
 . intro h; exact ⟨t,yY.mpr ⟨ht,h⟩,rfl⟩
theorem Qq (t:Row):dIx (C4 t) (.int 0)=some (.str t.1):=Bf _ _
theorem Qp (t:Row):dIx (C4 t) (.int 1)=some (.int (t.2.1:Int)):=Gi _ _ _
theorem Qo (t:Row):dIx (C4 t) (.int 2)=some (.int (t.2.2:Int)):=eD _ _ _ _
theorem leN (a b:Nat):E9 .LtE (.int (a:Int)) (.int (b:Int))=some (.bool (decide (a<=b))):=by
 rw [cmpLe]; congr 2; exact decide_eq_decide.mpr (by lia)
theorem ltN (a b:Nat):E9 .Lt (.int (a:Int)) (.int (b:Int))=some (.bool (decide (a < b))):=by
 rw [cmpLt]; congr 2; exact decide_eq_decide.mpr (by lia)
theorem dA {ts:List Row} (hl:ts.length<=10) (a b:Nat):F7 [.list (ts.map C4),.int (a:Int),.int (b:Int)]=.ok (V8 ts (a,b)):=by
 have c:=P5 (δc:=[.sh (.int (a:Int)),.sh (.int (b:Int))]) (tt:=M1 (B4 (b2 (b2 (A0 0) (vC (.int 1)) dIx) (A0 1) (E9 .LtE))) (B4 (b2 (A0 2) (b2 (A0 0) (vC (.int 2)) dIx) (E9 .LtE)))) (el:=b2 (A0 0) (vC (.int 0)) dIx) C4 (fun t=>.str t.1) (fun t=>hb t (a,b)) ts (fun t _=>Lv (B9 (B1 (x:=.int (t.2.1:Int)) (y:=.int (a:Int)) (B1 (x:=C4 t) (y:=.int 1) rfl rfl (Qp t)) rfl (leN _ _))) (B9 (B1 (x:=.int (b:Int)) (y:=.int (t.2.2:Int)) rfl (B1 (x:=C4 t) (y:=.int 2) rfl rfl (Qo t)) (leN _ _)))) fun t _=>B1 (x:=C4 t) (y:=.int 0) rfl rfl (Qq t);unfold V8 Em;rw [zV];exact P6 (I0 (M3 (D7 (δc:=[.sh (.int (a:Int)),.sh (.int (b:Int))]) (D3 (d:=.list (ts.map C4)) rfl rfl) (by rw [wL]; lia) rfl c)))
noncomputable section
variable {L:List Dp} {T:List Nat} {ts:List Row} {P:List (Nat×Nat)}
theorem Xr (K:K3 L T ts) {x:Nat} (h:x < T.length):T4 [bkD L,.int (x:Int)]=.ok (V8 ts (x,x+1)):=by
 have hv:(Mc (vC (.int 0)) (A0 1) (vFn (A1 (B5 (A1 (A0 0) A6) F4) A6) Q8) (E9 .LtE) (E9 .Lt)) [.sh (bkD L),.sh (.int (x:Int))]=.ok (.bool true):=by
   unfold Mc; show Res.bind (Res.ok (xL ((0:Nat):Int))) _=_;rw [C2]; show Res.bind (Res.ok (xL (x:Int))) _=_;rw [C2,leN,decide_eq_true (zI x),Xm,C2]; show Res.bind (vFn (A1 (B5 (A1 (A0 0) A6) F4) A6) Q8 [.sh (bkD L),.sh (.int (x:Int))]) _=_;rw [O0 (d:=.int (T.length:Int)) (A5 (B8 (A5 (d:=bkD L) rfl rfl) K.t) rfl) (by rw [Xx,V4]),C2,ltN,decide_eq_true h]; rfl
 refine P6 ?_;show B7 _ _ [.sh (bkD L),.sh (.int (x:Int))]=_;refine (K4 (c:=Ct _) (by unfold Ct; rw [B9 hv]; rfl)).trans (I0 (B8 (A5 (B8 (A5 (d:=bkD L) rfl rfl) K.m) (A5 (d:=.int (x:Int)) rfl (A5 (d:=.int ((x+1:Nat):Int)) (B1 (x:=.int (x:Int)) (y:=.int 1) rfl rfl U1) rfl))) (dA K.ln x (x+1))))
noncomputable def csZ (T:List Nat) (ts:List Row):List Int:=Ec (Bg ((0:Int)::(T.length:Int)::((ts.map fun t=>(t.2.1:Int))++ts.map fun t=>(t.2.2:Int))))
noncomputable def cs (T:List Nat) (ts:List Row):List Nat:=(csZ T ts).map Int.toNat
theorem Uy {x:Int}:x∈csZ T ts↔x=0\/x=T.length\/(∃ t∈ts,(t.2.1:Int)=x)\/∃ t∈ts,(t.2.2:Int)=x:=by
 unfold csZ;rw [(Au _).mem_iff,Ym,wK,wK,wY,xF,xF]
theorem Ey (K:K3 L T ts):∀ x∈csZ T ts,0<=x/\x<=T.length:=fun x hx=>by
 rcases Uy.mp hx with z | z | ⟨t,ht,z⟩ | ⟨t,ht,z⟩
 . lia
 . lia
 . have:=K.ok t ht; lia
 . have:=K.ok t ht; lia
theorem qS (K:K3 L T ts):(cs T ts).map (fun c:Nat=>xL (c:Int))=(csZ T ts).map .int:=by
 unfold cs;rw [zV];refine List.map_congr_left fun x hx=>?_;have:=Ey K x hx;show xL ((x.toNat:Nat):Int)=.int x;rw [show ((x.toNat:Nat):Int)=x by lia]
theorem sE (K:K3 L T ts):(cs T ts).Pairwise (· < ·):=by
 have h2:(csZ T ts).Nodup:=(Au _).nodup_iff.mpr (aX _);have h1:(csZ T ts).Pairwise (· < ·):=((Wn _).and h2).imp fun {a b} h=>by have:=h.1; have:=h.2; lia
 unfold cs;rw [w5];refine h1.imp_of_mem fun {a b} ha hb h=>?_;have:=Ey K a ha;have:=Ey K b hb;lia
theorem Pa (K:K3 L T ts) {x:Nat}:x∈cs T ts↔x=0\/x=T.length\/(∃ t∈ts,t.2.1=x)\/∃ t∈ts,t.2.2=x:=by
 unfold cs;rw [xF];constructor
 . rintro ⟨z,hz,rfl⟩
   have hn:=Ey K z hz; rcases Uy.mp hz with h | h | ⟨t,ht,h⟩ | ⟨t,ht,h⟩
   . exact .inl (by lia)
   . exact .inr (.inl (by lia))
   . exact .inr (.inr (.inl ⟨t,ht,by lia⟩))
   . exact .inr (.inr (.inr ⟨t,ht,by lia⟩))
 . intro h
   refine ⟨(x:Int),Uy.mpr ?_,by lia⟩;rcases h with h | h | ⟨t,ht,h⟩ | ⟨t,ht,h⟩
   . exact .inl (by lia)
   . exact .inr (.inl (by lia))
   . exact .inr (.inr (.inl ⟨t,ht,by lia⟩))
   . exact .inr (.inr (.inr ⟨t,ht,by lia⟩))
theorem qP (K:K3 L T ts):Cq [.str (mk T),.list (ts.map C4)]=.ok (.list ((cs T ts).map fun c:Nat=>xL (c:Int))):=by
 have hn:=K.ln;have c1:=P5 (δc:=[]) (tt:=L6) (el:=b2 (A0 0) (vC (.int 1)) dIx) C4 (fun t=>xL (t.2.1:Int)) (fun _=>true) ts (fun _ _=>rfl) fun t _=>B1 (x:=C4 t) (y:=.int 1) rfl rfl (Qp t);have c2:=P5 (δc:=[]) (tt:=L6) (el:=b2 (A0 0) (vC (.int 2)) dIx) C4 (fun t=>xL (t.2.2:Int)) (fun _=>true) ts (fun _ _=>rfl) fun t _=>B1 (x:=C4 t) (y:=.int 2) rfl rfl (Qo t);rw [o0.mpr fun _ _=>rfl] at c1 c2;rw [qS K];refine P6 ?_;show B7 _ _ [.sh (.str (mk T)),.sh (.list (ts.map C4)),.un,.un]=_;refine (B2 (δ':=[.sh (.str (mk T)),.sh (.list (ts.map C4)),.sh (.list (ts.map fun t=>xL (t.2.1:Int))),.un]) ?_).trans ?_
 . unfold De
   rw [D7 (δc:=[]) (D3 (d:=.list (ts.map C4)) rfl rfl) (by rw [wL]; lia) rfl c1]; rfl
 refine (B2 (δ':=[.sh (.str (mk T)),.sh (.list (ts.map C4)),.sh (.list (ts.map fun t=>xL (t.2.1:Int))),.sh (.list (ts.map fun t=>xL (t.2.2:Int)))]) ?_).trans ?_
 . unfold De
   rw [D7 (δc:=[]) (D3 (d:=.list (ts.map C4)) rfl rfl) (by rw [wL]; lia) rfl c2]; rfl
 refine I0 (O0 (ds:=[.list (((0:Int)::(T.length:Int)::((ts.map fun t=>(t.2.1:Int))++ts.map fun t=>(t.2.2:Int))).map .int)]) (A5 (B1 (x:=.list ([.int 0,.int (T.length:Int)]++ts.map fun t=>xL (t.2.1:Int))) (y:=.list (ts.map fun t=>xL (t.2.2:Int))) (B1 (x:=.list [.int 0,.int (T.length:Int)]) (y:=.list (ts.map fun t=>xL (t.2.1:Int))) (M3 (A5 rfl (A5 (O0 (A5 rfl rfl) (by rw [Xx,V4])) rfl))) rfl (Zm (by simp; lia))) rfl ?_) rfl) (nK _ (by simp; lia)));rw [Zm (by simp; lia),yO,wQ,wQ,xR,zV,zV];rfl
noncomputable def pcs:List Nat->List (Nat×Nat)
 | a::b::r=>(a,b)::pcs (b::r)
 | _=>[]
theorem uC:∀ (r:List Nat) (a:Nat),(a::r).Pairwise (· < ·)->∃ z∈a::r,(∀ x∈a::r,x<=z)/\Chn a (pcs (a::r)) z/\∀ p∈pcs (a::r),∀ c∈a::r,c<=p.1\/p.2<=c:=by
 intro r;induction r with
 | nil=>intro a _; exact ⟨a,.head _,fun x hx=>by rw [wX.mp hx]; exact wO _,.nil,fun _ h=>nomatch h⟩
 | cons b r ih =>
   intro a h; rw [xO] at h; obtain ⟨z,z1,z2,z3,z4⟩:=ih b h.2; have hab:=h.1 b (.head _); refine ⟨z,.tail _ z1,fun x hx=>?_,.cons hab z3,fun p hp c hc=>?_⟩
   . rcases wK.mp hx with rfl | hx
     . have:=z2 b (.head _); lia
     . exact z2 x hx
   . rcases wK.mp hp with rfl | hp
     . rcases wK.mp hc with rfl | hc
       . exact .inl (wO _)
       . rcases wK.mp hc with rfl | hc
         . exact .inr (wO _)
         . exact .inr (p7 ((xO.mp h.2).1 c hc))
     . rcases wK.mp hc with e | hc
       . have:=(z3.le.2 p (show p∈pcs (b::r) from hp)).1; exact .inl (by rw [e]; lia)
       . exact z4 p hp c hc
structure Pcs (T:List Nat) (ts:List Row) (P:List (Nat×Nat)):Prop where
 ch:Chn 0 P T.length
 cut:∀ p∈P,∀ t∈ts,(t.2.1<=p.1\/p.2<=t.2.1)/\(t.2.2<=p.1\/p.2<=t.2.2)
theorem uB (K:K3 L T ts):Pcs T ts (pcs (cs T ts)):=by
 have up:=sE K;have m0:0∈cs T ts:=(Pa K).mpr (.inl rfl);have mT:T.length∈cs T ts:=(Pa K).mpr (.inr (.inl rfl));have mb:∀ t∈ts,t.2.1∈cs T ts/\t.2.2∈cs T ts:=fun t ht=>⟨(Pa K).mpr (.inr (.inr (.inl ⟨t,ht,rfl⟩))),(Pa K).mpr (.inr (.inr (.inr ⟨t,ht,rfl⟩)))⟩;have hle:∀ x∈cs T ts,x<=T.length:=fun x hx=>by
   obtain ⟨z,hz,rfl⟩:=xF.mp hx; have:=Ey K z hz;lia
 cases h:cs T ts with
 | nil=>rw [h] at m0; cases m0
 | cons a r =>
   rw [h] at up m0 mT mb hle; obtain ⟨z,z1,z2,z3,z4⟩:=uC r a up; have ha:a=0:=by
     rcases wK.mp m0 with e | e
     . exact e.symm
     . have:=(xO.mp up).1 0 e; lia
   have hz:z=T.length:=by
     have:=hle z z1; have:=z2 _ mT;lia
   rw [ha,hz] at z3; subst ha; exact ⟨z3,fun p hp t ht=>⟨z4 p hp _ (mb t ht).1,z4 p hp _ (mb t ht).2⟩⟩
abbrev pD1 (T:List Nat) (p:Nat×Nat):wF:=.str (mk (sl T p.1 p.2))
abbrev pD (T:List Nat) (ts:List Row) (p:Nat×Nat):wF:=.tuple [pD1 T p,V8 ts p]
noncomputable def bK:Dn->Out:=(B7 (D5 6 (b2 (A0 3) (A0 5) dIx)) (B7 (D5 7 (b2 (A0 3) (b2 (A0 5) (vC (.int 1)) C5) dIx)) (Cg 4 (E7 (A1 (Vj (A0 1) (T7 (A0 6)) (T7 (A0 7))) (A1 (B5 (A1 (A0 2) (A1 (A0 6) (A1 (A0 7) A6))) F7) A6))))))
theorem oQ (K:K3 L T ts) {C:List Nat} (hC:C.length<=30) (hle:C.Pairwise (· < ·)/\∀ x∈C,x<=T.length):∀ (m k:Nat),k+m+1=C.length->∀ (W:List wF) (s5 s6 s7:Sl),W.length=k->∃ t5 t6 t7,
   D8 (st1 5) bK (W8 (k:Int) ((C.length:Int) - 1)) [.sh (bkD L),.sh (.str (mk T)),.sh (.list (ts.map C4)),.sh (.list (C.map fun c:Nat=>xL (c:Int))),.ow (.list W),s5,s6,s7]=.nx [.sh (bkD L),.sh (.str (mk T)),.sh (.list (ts.map C4)),.sh (.list (C.map fun c:Nat=>xL (c:Int))),.ow (.list (W++(pcs (C.drop k)).map (pD T ts))),t5,t6,t7]:=by
 intro m;induction m with
 | zero =>
   intro k hk W s5 s6 s7 _; have e:pcs (C.drop k)=[]:=by
     cases h:C.drop k with
     | nil=>rfl
     | cons a r =>
       cases r with
       | nil=>rfl
       | cons b r =>
         have:=congrArg AO h; simp at this;lia
   exact ⟨s5,s6,s7,by rw [jG (by lia),e]; show Out.nx _=Out.nx [_,_,_,_,.ow (.list (W++[])),_,_,_]; rw [yL]⟩
 | succ m ih =>
   intro k hk W s5 s6 s7 hW; have g1:C.drop k=C[k]::C[k+1]::C.drop (k+2):=by rw [zJ (by lia),zJ (by lia)]
   have g2:C.drop (k+1)=C[k+1]::C.drop (k+2):=zJ (by lia);have hlt:C[k] < C[k+1]:=HE.mp hle.1 k (k+1) (by lia) (by lia) (by lia);have hT:=hle.2 C[k+1] (z7 _); have i1:dIx (.list (C.map fun c:Nat=>xL (c:Int))) (.int (k:Int))=some (.int (C[k]:Int)):=by
     have:=L7 (xs:=C.map fun c:Nat=>xL (c:Int)) (j:=k) (by rw [wL]; lia);rw [List.getElem_map] at this; exact this
   have i2:dIx (.list (C.map fun c:Nat=>xL (c:Int))) (.int ((k:Int)+1))=some (.int (C[k+1]:Int)):=by
     have:=L7 (xs:=C.map fun c:Nat=>xL (c:Int)) (j:=k+1) (by rw [wL]; lia);rw [List.getElem_map] at this; exact this
   have e:bK [.sh (bkD L),.sh (.str (mk T)),.sh (.list (ts.map C4)),.sh (.list (C.map fun c:Nat=>xL (c:Int))),.ow (.list W),.sh (.int (k:Int)),s6,s7]=.nx [.sh (bkD L),.sh (.str (mk T)),.sh (.list (ts.map C4)),.sh (.list (C.map fun c:Nat=>xL (c:Int))),.ow (.list (W++[pD T ts (C[k],C[k+1])])),.sh (.int (k:Int)),.sh (.int (C[k]:Int)),.sh (.int (C[k+1]:Int))]:=by
     unfold bK; refine (B2 (C8 (B1 (x:=.list (C.map fun c:Nat=>xL (c:Int))) (y:=.int (k:Int)) rfl rfl i1))).trans ?_;refine (B2 (C8 (B1 (x:=.list (C.map fun c:Nat=>xL (c:Int))) (y:=.int ((k:Int)+1)) rfl (B1 (x:=.int (k:Int)) (y:=.int 1) rfl rfl U1) i2))).trans ?_;exact Eu rfl (U3 (A5 (bA K.ch K.tl (p7 hlt) hT rfl rfl rfl) (A5 (B8 (A5 (d:=.list (ts.map C4)) rfl (A5 (d:=.int (C[k]:Int)) rfl (A5 (d:=.int (C[k+1]:Int)) rfl rfl))) (dA K.ln _ _)) rfl))) (by lia)
   obtain ⟨t5,t6,t7,e'⟩:=ih (k+1) (by lia) (W++[pD T ts (C[k],C[k+1])]) (.sh (.int (k:Int))) (.sh (.int (C[k]:Int))) (.sh (.int (C[k+1]:Int))) (by rw [xG,hW]; rfl);rw [show ((k+1:Nat):Int)=(k:Int)+1 by lia] at e';refine ⟨t5,t6,t7,?_⟩; rw [eZ (by lia),g1]; refine (K6 rfl e).trans (e'.trans ?_); rw [g2,yO]; rfl
theorem mF (K:K3 L T ts):1<=(cs T ts).length/\(cs T ts).length<=30:=by
 have hn:=K.ln;refine ⟨HS ((Pa K).mpr (.inl rfl)),?_⟩;unfold cs csZ;have:∀ l:List Int,(Bg l).length<=l.length:=fun l=>by
   have g:∀ (l m:List Int),(l.foldl Bi m).length<=m.length+l.length:=fun l=>by
     induction l with
     | nil=>intro m; exact wO _
     | cons x l ih =>
       intro m; have h1:=ih (Bi m x); have h2:(Bi m x).length<=m.length+1:=by
         unfold Bi;split
         . lia
         . simp
       rw [p8,wT];lia
   have:=g l [];simpa [Bg] using this
 have h:=this ((0:Int)::(T.length:Int)::((ts.map fun t=>(t.2.1:Int))++ts.map fun t=>(t.2.2:Int)));rw [wL,(Au _).length_eq];simp at h;lia
theorem fE (K:K3 L T ts):Q4 [bkD L]=.ok (.list ((pcs (cs T ts)).map (pD T ts))):=by
 obtain ⟨n1,n2⟩:=mF K;obtain ⟨t5,t6,t7,e⟩:=oQ K n2 ⟨sE K,fun x hx=>by
   obtain ⟨z,hz,rfl⟩:=xF.mp hx; have:=Ey K z hz;lia⟩ ((cs T ts).length - 1) 0 (by lia) [] .un .un .un rfl
 unfold Q4;refine P6 ?_;show B7 _ _ [.sh (bkD L),.un,.un,.un,.un,.un,.un,.un]=_;refine (B2 (C8 (B8 (A5 (d:=bkD L) rfl rfl) K.t))).trans ?_;refine (B2 (C8 (B8 (A5 (d:=bkD L) rfl rfl) K.m))).trans ?_;refine (B2 (C8 (B8 (A5 (d:=.str (mk T)) rfl (A5 (d:=.list (ts.map C4)) rfl rfl)) (qP K)))).trans ?_;refine (B2 (δ':=[.sh (bkD L),.sh (.str (mk T)),.sh (.list (ts.map C4)),.sh (.list ((cs T ts).map fun c:Nat=>xL (c:Int))),.ow (.list []),.un,.un,.un]) rfl).trans ?_;refine (B2 (δ':=[.sh (bkD L),.sh (.str (mk T)),.sh (.list (ts.map C4)),.sh (.list ((cs T ts).map fun c:Nat=>xL (c:Int))),.ow (.list ([]++(pcs (cs T ts)).map (pD T ts))),t5,t6,t7]) ?_).trans rfl
 have hs:=Tn (fs:=A1 (b2 (vFn (A1 (A0 3) A6) Q8) (vC (.int 1)) Uw) A6) (δ:=[.sh (bkD L),.sh (.str (mk T)),.sh (.list (ts.map C4)),.sh (.list ((cs T ts).map fun c:Nat=>xL (c:Int))),.ow (.list []),.un,.un,.un]) (n:=((cs T ts).length:Int) - 1) (A5 (B1 (x:=.int ((cs T ts).length:Int)) (y:=.int 1) (O0 (A5 rfl rfl) (show some (xL ((List.map _ _).length:Int))=_ by rw [wL])) rfl rfl) rfl) (by lia) (by lia);unfold Eb K5;rw [hs,D2];exact e
end
noncomputable section
variable {L:List Dp} {T:List Nat} {ts:List Row}
noncomputable def vU:Dn->Out:=(sIf (B4 (b2 (b2 (A0 2) (vC (.int 0)) dIx) (A0 1) dEq)) (F6 (A0 2)) E1)
theorem pH (d:wF) {t:Row}:∀ us:List Row,t∈us->(∀ u∈us,u.1=t.1->u=t)->∀ s2,D8 (st1 2) vU (us.map C4) [.sh d,.sh (.str t.1),s2]=.rt (C4 t):=by
 intro us;induction us with
 | nil=>intro h; cases h
 | cons u us ih =>
   intro h hn s2; have c:(B4 (b2 (b2 (A0 2) (vC (.int 0)) dIx) (A0 1) dEq)) [.sh d,.sh (.str t.1),.sh (C4 u)]=.ok (u.1==t.1):=B9 (B1 (x:=.str u.1) (y:=.str t.1) (B1 (x:=C4 u) (y:=.int 0) rfl rfl (Qq u)) rfl (Gw _ _)); rw [wQ];by_cases e:u.1=t.1
   . rw [beq_iff_eq.mpr e] at c
     have:=hn u (.head _) e; subst this; exact eY (δ1:=[.sh d,.sh (.str u.1),.sh (C4 u)]) rfl ((W7 c).trans rfl)
   . rw [Hq e] at c
     exact (K6 (δ1:=[.sh d,.sh (.str t.1),.sh (C4 u)]) rfl ((Q2 c).trans rfl)).trans (ih ((wK.mp h).resolve_left fun z=>e (by rw [z])) (fun v hv=>hn v (.tail _ hv)) _)
theorem Xs (up:ts.Pairwise ltW) {t:Row} (ht:t∈ts):N1 [.list (ts.map C4),.str t.1]=.ok (C4 t):=by
 refine P6 ?_;show B7 _ _ [.sh (.list (ts.map C4)),.sh (.str t.1),.un]=_;refine Bm ?_;unfold K5;rw [D3 (d:=.list (ts.map C4)) (ds:=ts.map C4) rfl rfl,D2];exact pH _ ts ht (fun u hu e=>Ue up hu ht e) .un
theorem Jp (K:K3 L T ts) {t:Row} (ht:t∈ts):Q5 [bkD L,.str t.1]=.ok (.str (mk (sl T t.2.1 t.2.2))):=by
 have h:=K.ok t ht;refine P6 ?_;show B7 _ _ [.sh (bkD L),.sh (.str t.1),.un]=_;refine (B2 (δ':=[.sh (bkD L),.sh (.str t.1),.sh (C4 t)]) (C8 (B8 (A5 (B8 (A5 (d:=bkD L) rfl rfl) K.m) (A5 (d:=.str t.1) rfl rfl)) (Xs K.up ht)))).trans (I0 (bA K.ch K.tl h.1 h.2 (B8 (A5 (d:=bkD L) rfl rfl) K.t) (B1 (x:=C4 t) (y:=.int 1) rfl rfl (Qp t)) (B1 (x:=C4 t) (y:=.int 2) rfl rfl (Qo t))))
noncomputable def Q6 (t u:Row):Bool:=decide (u.2.1 < u.2.2)&&(decide (t.2.1<=u.2.1)&&decide (u.2.2<=t.2.2))
noncomputable def U7 (t u:Row):Bool := !(Q6 t u||Q6 u t)&&decide ((if t.2.1 < u.2.1 then u.2.1 else t.2.1) < (if u.2.2 < t.2.2 then u.2.2 else t.2.2))
theorem Op (t u:Row):U6 [C4 t,C4 u]=.ok (.bool (Q6 t u)) :=
 P6 (I0 (Et (B1 (x:=.int (u.2.1:Int)) (y:=.int (u.2.2:Int)) (B1 (x:=C4 u) (y:=.int 1) rfl rfl (Qp u)) (B1 (x:=C4 u) (y:=.int 2) rfl rfl (Qo u)) (ltN _ _)) (Et (B1 (x:=.int (t.2.1:Int)) (y:=.int (u.2.1:Int)) (B1 (x:=C4 t) (y:=.int 1) rfl rfl (Qp t)) (B1 (x:=C4 u) (y:=.int 1) rfl rfl (Qp u)) (leN _ _)) (B1 (x:=.int (u.2.2:Int)) (y:=.int (t.2.2:Int)) (B1 (x:=C4 u) (y:=.int 2) rfl rfl (Qo u)) (B1 (x:=C4 t) (y:=.int 2) rfl rfl (Qo t)) (leN _ _)))))
theorem mn (b c:Nat):mE [.int (b:Int),.int (c:Int)]=some (.int ((if c < b then c else b:Nat):Int)):=by
 show some (xL (if (c:Int) < (b:Int) then (c:Int) else (b:Int)))=_;by_cases h:c < b
 . rw [if_pos h,if_pos (by lia)]
 . rw [if_neg h,if_neg (by lia)]
theorem vR {c c':Dn->Res Bool} {δ:Dn} {a b:Bool} (h1:c δ=.ok a) (h2:c' δ=.ok b):cOr c c' δ=.ok (a||b):=by
 unfold cOr;rw [h1,C2];cases a with
 | true=>rfl
 | false=>rw [if_neg (by decide),h2]; rfl
theorem mG (t u:Row):Dj [C4 t,C4 u]=.ok (.bool (U7 t u)):=by
 have c:cOr (B4 (B5 (A1 (A0 0) (A1 (A0 1) A6)) U6)) (B4 (B5 (A1 (A0 1) (A1 (A0 0) A6)) U6)) [.sh (C4 t),.sh (C4 u)]=.ok (Q6 t u||Q6 u t):=vR (B9 (B8 (A5 (d:=C4 t) rfl (A5 (d:=C4 u) rfl rfl)) (Op t u))) (B9 (B8 (A5 (d:=C4 u) rfl (A5 (d:=C4 t) rfl rfl)) (Op u t)));refine P6 ?_;show B7 _ _ [.sh (C4 t),.sh (C4 u)]=_;unfold U7;cases h:(Q6 t u||Q6 u t) with
 | true =>
   rw [h] at c; exact Bm ((W7 c).trans rfl)
 | false =>
   rw [h] at c; refine (K4 c).trans (I0 (B1 (O0 (A5 (B1 (x:=C4 t) (y:=.int 1) rfl rfl (Qp t)) (A5 (B1 (x:=C4 u) (y:=.int 1) rfl rfl (Qp u)) rfl)) (mx _ _)) (O0 (A5 (B1 (x:=C4 t) (y:=.int 2) rfl rfl (Qo t)) (A5 (B1 (x:=C4 u) (y:=.int 2) rfl rfl (Qo u)) rfl)) (mn _ _)) (ltN _ _)))
abbrev ltB (x y:Str):Bool:=Wz .Lt x y
theorem kX (x y:Str):E9 .Lt (.str x) (.str y)=some (.bool (ltB x y)):=by
 unfold E9;rw [if_pos (by simp [yX])]; rfl
abbrev prD (t u:Row):wF:=.tuple [.str t.1,.str u.1]
noncomputable def O4 (ts us:List Row):List wF:=(us.map fun t=>(ts.filter fun u=>ltB t.1 u.1&&U7 t u).map (prD t)).flatten
noncomputable def mL:Dn->Out:=(Wy 2 (E2 (fun δ=>((A0 1) δ).bind C9) E4 [3] (M1 (B4 (b2 (b2 (A0 1) (vC (.int 0)) dIx) (b2 (A0 0) (vC (.int 0)) dIx) (E9 .Lt))) (B4 (B5 (A1 (A0 1) (A1 (A0 0) A6)) Dj))) (E7 (A1 (b2 (A0 1) (vC (.int 0)) dIx) (A1 (b2 (A0 0) (vC (.int 0)) dIx) A6)))))
theorem qT (d:wF) (hl:ts.length<=10):∀ (us:List Row) (W:List wF) (s3:Sl),W.length+10*us.length<=900->∃ t3,D8 (st1 3) mL (us.map C4) [.sh d,.sh (.list (ts.map C4)),.ow (.list W),s3]=.nx [.sh d,.sh (.list (ts.map C4)),.ow (.list (W++O4 ts us)),t3]:=by
 intro us;induction us with
 | nil=>intro W s3 _; exact ⟨s3,by show Out.nx _=Out.nx [_,_,.ow (.list (W++[])),_]; rw [yL]⟩
 | cons t us ih =>
   intro W s3 hW; rw [wT] at hW; have c:=P5 (δc:=[.sh (C4 t)]) (tt:=M1 (B4 (b2 (b2 (A0 1) (vC (.int 0)) dIx) (b2 (A0 0) (vC (.int 0)) dIx) (E9 .Lt))) (B4 (B5 (A1 (A0 1) (A1 (A0 0) A6)) Dj))) (el:=E7 (A1 (b2 (A0 1) (vC (.int 0)) dIx) (A1 (b2 (A0 0) (vC (.int 0)) dIx) A6))) C4 (prD t) (fun u=>ltB t.1 u.1&&U7 t u) ts (fun u _=>Lv (B9 (B1 (x:=.str t.1) (y:=.str u.1) (B1 (x:=C4 t) (y:=.int 0) rfl rfl (Qq t)) (B1 (x:=C4 u) (y:=.int 0) rfl rfl (Qq u)) (kX _ _))) (B9 (B8 (A5 (d:=C4 t) rfl (A5 (d:=C4 u) rfl rfl)) (mG t u)))) fun u _=>U3 (A5 (B1 (x:=C4 t) (y:=.int 0) rfl rfl (Qq t)) (A5 (B1 (x:=C4 u) (y:=.int 0) rfl rfl (Qq u)) rfl));have hf:=l9 (fun u=>ltB t.1 u.1&&U7 t u) ts
   have e:mL [.sh d,.sh (.list (ts.map C4)),.ow (.list W),.sh (C4 t)]=.nx [.sh d,.sh (.list (ts.map C4)),.ow (.list (W++(ts.filter fun u=>ltB t.1 u.1&&U7 t u).map (prD t))),.sh (C4 t)] :=
     bY rfl (D7 (δc:=[.sh (C4 t)]) (D3 (d:=.list (ts.map C4)) rfl rfl) (by rw [wL]; lia) rfl c) (by rw [wL]; lia)
   obtain ⟨t3,e'⟩:=ih (W++(ts.filter fun u=>ltB t.1 u.1&&U7 t u).map (prD t)) (.sh (C4 t)) (by rw [xG,wL]; lia);refine ⟨t3,(K6 rfl e).trans (e'.trans ?_)⟩; rw [yO]; rfl
theorem Yu (K:K3 L T ts):V7 [bkD L]=.ok (.list (O4 ts ts)):=by
 have hn:=K.ln;obtain ⟨t3,e⟩:=qT (bkD L) K.ln ts [] .un (by simp; lia);unfold V7;refine P6 ?_;show B7 _ _ [.sh (bkD L),.un,.un,.un]=_;refine (B2 (C8 (B8 (A5 (d:=bkD L) rfl rfl) K.m))).trans ?_;refine (B2 (δ':=[.sh (bkD L),.sh (.list (ts.map C4)),.ow (.list []),.un]) rfl).trans ?_;refine (B2 (δ':=[.sh (bkD L),.sh (.list (ts.map C4)),.ow (.list ([]++O4 ts ts)),t3]) ?_).trans rfl;unfold Bx K5;rw [D3 (d:=.list (ts.map C4)) (ds:=ts.map C4) rfl rfl,D2];exact e
theorem jQ (x y u v:Str):xE (.tuple [.str x,.str y]) (.tuple [.str u,.str v])=(x==u&&y==v):=by
 show ((x==u)&&((y==v)&&true))=_;rw [Bool.and_true]
theorem aU (up:ts.Pairwise ltW) {t u:Row} (ht:t∈ts) (hu:u∈ts):dIn false (prD t u) (.list (O4 ts ts))=some (.bool (ltB t.1 u.1&&U7 t u)):=by
 show (if _ then _ else _)=_;rw [if_pos (xD (j4 _ _) (by simp [yX,yW]))];have:((O4 ts ts).any fun y=>xE y (prD t u))=(ltB t.1 u.1&&U7 t u):=by
   rw [zU,z9]; unfold O4;constructor
   . rintro ⟨y,hy,e⟩
     obtain ⟨l,hl,hy⟩:=CW.mp hy; obtain ⟨t',ht',rfl⟩:=xF.mp hl; obtain ⟨u',hu',rfl⟩:=xF.mp hy; obtain ⟨h1,h2⟩:=yY.mp hu'; rw [jQ,xC,beq_iff_eq,beq_iff_eq] at e; rw [<- Ue up ht' ht e.1,<- Ue up h1 hu e.2]; exact h2
   . intro h
     exact ⟨prD t u,CW.mpr ⟨_,xF.mpr ⟨t,ht,rfl⟩,xF.mpr ⟨u,yY.mpr ⟨hu,h⟩,rfl⟩⟩,by rw [jQ,beq_self_eq_true,beq_self_eq_true]; rfl⟩
 simp [this]
noncomputable def inn (ts:List Row) (t:Row):List Str:=(ts.filter fun m => !(m.1==t.1)&&Q6 t m).map (·.1)
theorem neS (x y:Str):dNe (.str x) (.str y)=some (.bool (!(x==y))):=by
 unfold dNe;rw [if_pos (xD (DR _ _) (by simp [yX]))]; rfl
theorem Yf (K:K3 L T ts) {t:Row} (ht:t∈ts):K8 [bkD L,.str t.1]=.ok (.list ((inn ts t).map .str)):=by
 have hn:=K.ln;have c:=P5 (δc:=[.sh (.str t.1),.sh (C4 t)]) (tt:=M1 (B4 (b2 (b2 (A0 0) (vC (.int 0)) dIx) (A0 1) dNe)) (B4 (B5 (A1 (A0 2) (A1 (A0 0) A6)) U6))) (el:=b2 (A0 0) (vC (.int 0)) dIx) C4 (fun m=>yK m.1) (fun m => !(m.1==t.1)&&Q6 t m) ts (fun m _=>Lv (B9 (B1 (x:=.str m.1) (y:=.str t.1) (B1 (x:=C4 m) (y:=.int 0) rfl rfl (Qq m)) rfl (neS _ _))) (B9 (B8 (A5 (d:=C4 t) rfl (A5 (d:=C4 m) rfl rfl)) (Op t m)))) fun m _=>B1 (x:=C4 m) (y:=.int 0) rfl rfl (Qq m);unfold inn;rw [zV];unfold K8;refine P6 ?_;show B7 _ _ [.sh (bkD L),.sh (.str t.1),.un,.un]=_;refine (B2 (C8 (B8 (A5 (d:=bkD L) rfl rfl) K.m))).trans ?_
 refine (B2 (δ':=[.sh (bkD L),.sh (.str t.1),.sh (.list (ts.map C4)),.sh (C4 t)]) (C8 (B8 (A5 (d:=.list (ts.map C4)) rfl (A5 (d:=.str t.1) rfl rfl)) (Xs K.up ht)))).trans ?_;exact I0 (M3 (D7 (δc:=[.sh (.str t.1),.sh (C4 t)]) (D3 (d:=.list (ts.map C4)) rfl rfl) (by rw [wL]; lia) rfl c))
theorem dU (K:K3 L T ts):(ts=[]->Q3 [bkD L]=.ok .none)/\(ts≠[]->∃ t∈ts,Q3 [bkD L]=.ok (.str t.1)/\∀ u∈ts,u.2.2 - u.2.1<=t.2.2 - t.2.1):=by
 have hn:=K.ln;have c0:(Ct (B4 (A0 1))) [.sh (bkD L),.sh (.list (ts.map C4)),.un]=.ok ts.isEmpty:=by
   unfold Ct; have:(B4 (A0 1)) [.sh (bkD L),.sh (.list (ts.map C4)),.un]=.ok (!ts.isEmpty):=by
     cases ts <;> rfl
   rw [this];cases ts.isEmpty <;> rfl
 refine ⟨fun h=>?_,fun h=>?_⟩
 . subst h
   unfold Q3; refine P6 ?_; show B7 _ _ [.sh (bkD L),.un,.un]=_;refine (B2 (C8 (B8 (A5 (d:=bkD L) rfl rfl) K.m))).trans (Bm ((W7 c0).trans rfl))
 . have c1:=P5 (δc:=[]) (tt:=L6) (el:=b2 (b2 (A0 0) (vC (.int 2)) dIx) (b2 (A0 0) (vC (.int 1)) dIx) Uw) C4 (fun t=>xL ((t.2.2:Int) - (t.2.1:Int))) (fun _=>true) ts (fun _ _=>rfl) fun t _=>B1 (x:=.int (t.2.2:Int)) (y:=.int (t.2.1:Int)) (B1 (x:=C4 t) (y:=.int 2) rfl rfl (Qo t)) (B1 (x:=C4 t) (y:=.int 1) rfl rfl (Qp t)) rfl
   rw [o0.mpr fun _ _=>rfl] at c1;obtain ⟨t0,r,rfl⟩:=GV h; obtain ⟨f1,f2,f3⟩:=fmax (r.map fun t=>(t.2.2:Int) - (t.2.1:Int)) ((t0.2.2:Int) - t0.2.1);generalize hM:(r.map fun t=>(t.2.2:Int) - (t.2.1:Int)).foldl ID ((t0.2.2:Int) - t0.2.1)=M at f1 f2 f3;have c2:=P5 (δc:=[.sh (.int M)]) (tt:=B4 (b2 (b2 (b2 (A0 0) (vC (.int 2)) dIx) (b2 (A0 0) (vC (.int 1)) dIx) Uw) (A0 1) dEq)) (el:=b2 (A0 0) (vC (.int 0)) dIx) C4 (fun t=>yK t.1) (fun t=>(t.2.2:Int) - (t.2.1:Int)==M) (t0::r) (fun t _=>B9 (B1 (x:=.int ((t.2.2:Int) - (t.2.1:Int))) (y:=.int M) (B1 (x:=.int (t.2.2:Int)) (y:=.int (t.2.1:Int)) (B1 (x:=C4 t) (y:=.int 2) rfl rfl (Qo t)) (B1 (x:=C4 t) (y:=.int 1) rfl rfl (Qp t)) rfl) rfl (aZ _ _))) fun t _=>B1 (x:=C4 t) (y:=.int 0) rfl rfl (Qq t)
   have hmem:∃ t∈t0::r,(t.2.2:Int) - t.2.1=M:=by
     rcases f3 with z | z
     . exact ⟨t0,.head _,z.symm⟩
     . obtain ⟨t,ht,e⟩:=xF.mp z
       exact ⟨t,.tail _ ht,e⟩
   have hge:∀ u∈t0::r,(u.2.2:Int) - u.2.1<=M:=fun u hu=>by
     rcases wK.mp hu with rfl | hu
     . exact f1
     . exact f2 _ (xF.mpr ⟨u,hu,rfl⟩)
   cases hF:(t0::r).filter (fun t=>(t.2.2:Int) - (t.2.1:Int)==M) with
   | nil =>
     obtain ⟨t,ht,e⟩:=hmem; exact absurd (beq_iff_eq.mpr e) (AU.mp hF t ht)
   | cons t F =>
     have ht:=yY.mp (show t∈(t0::r).filter (fun t=>(t.2.2:Int) - (t.2.1:Int)==M) by rw [hF]; exact .head _);rw [hF] at c2; have hk:=K.ok t ht.1; refine ⟨t,ht.1,?_,fun u hu=>?_⟩
     . unfold Q3
       refine P6 ?_; show B7 _ _ [.sh (bkD L),.un,.un]=_;refine (B2 (δ':=[.sh (bkD L),.sh (.list ((t0::r).map C4)),.un]) (C8 (B8 (A5 (d:=bkD L) rfl rfl) K.m))).trans ?_; refine (B2 ((Q2 c0).trans rfl)).trans ?_; refine (B2 (δ':=[.sh (bkD L),.sh (.list ((t0::r).map C4)),.sh (.int M)]) (C8 (O0 (ds:=[.list (((t0::r).map fun t=>(t.2.2:Int) - (t.2.1:Int)).map .int)]) (A5 (M3 (D7 (δc:=[]) (D3 (d:=.list ((t0::r).map C4)) rfl rfl) (by rw [wL]; lia) rfl (by rw [zV]; exact c1))) rfl) ?_))).trans ?_
       . show ((Gs (((t0::r).map fun t=>(t.2.2:Int) - (t.2.1:Int)).map .int)).bind pK).map xL=_
         rw [On]; show some (xL ((r.map fun t=>(t.2.2:Int) - (t.2.1:Int)).foldl ID _))=_;rw [hM]
       . have hi:dIx (.list ((t::F).map fun t:Row=>yK t.1)) (.int 0)=some (.str t.1):=L7 (xs:=(t::F).map fun t:Row=>yK t.1) (j:=0) (by simp)
         exact I0 (B1 (x:=.list ((t::F).map fun t:Row=>yK t.1)) (y:=.int 0) (M3 (D7 (δc:=[.sh (.int M)]) (D3 (d:=.list ((t0::r).map C4)) rfl rfl) (by rw [wL]; lia) rfl c2)) rfl hi)
     . have h1:=hge u hu
       have h2:=i7 ht.2; have h3:=K.ok u hu;lia
end
noncomputable section
variable {L:List Dp} {T:List Nat} {ts:List Row} {P:List (Nat×Nat)}
theorem Kc (Q:Pcs T ts P) {t u:Row} (ht:t∈ts) (hu:u∈ts) (f:Bool->Bool->Bool):(P.any fun p=>f (hb t p) (hb u p))=true↔∃ x,x < T.length/\f (decide (t.2.1<=x)&&decide (x < t.2.2)) (decide (u.2.1<=x)&&decide (x < u.2.2))=true:=by
 have key:∀ v∈ts,∀ p∈P,∀ x,p.1<=x->x < p.2->hb v p=(decide (v.2.1<=x)&&decide (x < v.2.2)):=fun v hv p hp x h1 h2=>by
   have h:=Q.cut p hp v hv; unfold hb; rw [show decide (v.2.1<=p.1)=decide (v.2.1<=x) from decide_eq_decide.mpr (by lia),show decide (p.2<=v.2.2)=decide (x < v.2.2) from decide_eq_decide.mpr (by lia)]
 rw [z9];constructor
 . rintro ⟨p,hp,e⟩
   have h:=Q.ch.le.2 p hp; refine ⟨p.1,by lia,?_⟩;rw [<- key t ht p hp p.1 (wO _) h.2.1,<- key u hu p hp p.1 (wO _) h.2.1]; exact e
 . rintro ⟨x,hx,e⟩
   obtain ⟨p,hp,h1,h2⟩:=Q.ch.at x (zI _) hx; refine ⟨p,hp,?_⟩; rw [key t ht p hp x h1 h2,key u hu p hp x h1 h2]; exact e
abbrev fBo:Bool->Bool->Bool:=fun a b=>a&&b
abbrev fMi:Bool->Bool->Bool:=fun a b=>a && !b
abbrev fYo:Bool->Bool->Bool:=fun a b => !a&&b
theorem vV {a b c d n:Nat} (hd:d<=n) (hb:b<=n):(∃ x,x < n/\(a<=x/\x < b)/\c<=x/\x < d)↔(a < d/\c < b)/\a < b/\c < d:=by
 constructor
 . rintro ⟨x,_,⟨h1,h2⟩,h3,h4⟩
   exact ⟨⟨yH h1 h4,yH h3 h2⟩,yH h1 h2,yH h3 h4⟩
 . rintro ⟨⟨h1,h2⟩,h3,h4⟩
   rcases Nat.le_total a c with h | h
   . exact ⟨c,xB h4 hd,⟨h,h2⟩,wO _,h4⟩
   . exact ⟨a,xB h3 hb,⟨wO _,h3⟩,h,h1⟩
theorem kS {a b c d n:Nat} (hb:b<=n):(∃ x,x < n/\(a<=x/\x < b)/\(¬ c<=x\/¬ x < d))↔a < b/\¬ (c<=a/\b<=d):=by
 constructor
 . rintro ⟨x,_,⟨h1,h2⟩,h3⟩
   refine ⟨yH h1 h2,fun q=>?_⟩;rcases h3 with h | h
   . exact h (xD q.1 h1)
   . exact h (xB h2 q.2)
 . rintro ⟨h1,h2⟩
   by_cases h:c<=a
   . have hd:d < b:=Nat.lt_of_not_le fun q=>h2 ⟨h,q⟩
     have hp:b - 1 < b:=Nat.sub_lt (yH (zI _) h1) (by decide);exact ⟨b - 1,xB hp hb,⟨Nat.le_pred_of_lt h1,hp⟩,.inr (zP.mpr (Nat.le_pred_of_lt hd))⟩
   . exact ⟨a,xB h1 hb,⟨wO _,h1⟩,.inl h⟩
theorem mx_mn {a b c d:Nat}:(if a < c then c else a) < (if d < b then d else b)↔(a < d/\c < b)/\a < b/\c < d:=by
 split
 . rename_i h
   split
   . rename_i k
     exact ⟨fun q=>⟨⟨j6 h q,j6 q k⟩,j6 h (j6 q k),q⟩,fun q=>q.2.2⟩
   . rename_i k
     have k:=zP.mp k; exact ⟨fun q=>⟨⟨xB (j6 h q) k,q⟩,j6 h q,xB q k⟩,fun q=>q.1.2⟩
 . rename_i h
   have h:=zP.mp h;split
   . rename_i k
     exact ⟨fun q=>⟨⟨q,yH h (j6 q k)⟩,j6 q k,yH h q⟩,fun q=>q.1.1⟩
   . rename_i k
     have k:=zP.mp k; exact ⟨fun q=>⟨⟨xB q k,yH h q⟩,q,yH h (xB q k)⟩,fun q=>q.2.1⟩
theorem lies (K:K3 L T ts) (Q:Pcs T ts P) {t u:Row} (ht:t∈ts) (hu:u∈ts) :
   ((P.any fun p=>fBo (hb t p) (hb u p))&&((P.any fun p=>fMi (hb t p) (hb u p))&&(P.any fun p=>fYo (hb t p) (hb u p))))=U7 t u/\((P.any fun p=>fBo (hb t p) (hb u p)) && !(P.any fun p=>fYo (hb t p) (hb u p)))=Q6 t u:=by
 have kt:=(K.ok t ht).2;have ku:=(K.ok u hu).2;have h1:=Kc Q ht hu fBo;have h2:=Kc Q ht hu fMi;have h3:=Kc Q ht hu fYo;unfold U7 Q6;generalize (P.any fun p=>fBo (hb t p) (hb u p))=b at h1;generalize (P.any fun p=>fMi (hb t p) (hb u p))=m at h2;generalize (P.any fun p=>fYo (hb t p) (hb u p))=y at h3;obtain ⟨tn,tb,te⟩:=t;obtain ⟨un,ub,ue⟩:=u;simp only [fBo,fMi,fYo,xC,n0,Bool.and_eq_false_iff,decide_eq_true_iff,decide_eq_false_iff_not] at h1 h2 h3 kt ku ⊢;rw [vV ku kt] at h1;rw [kS kt] at h2;have h3:y=true↔ub < ue/\¬ (tb<=ub/\ue<=te):=by
   rw [h3,<- kS ku]; exact ⟨fun ⟨x,a,b,c⟩=>⟨x,a,c,b⟩,fun ⟨x,a,b,c⟩=>⟨x,a,c,b⟩⟩
 constructor
 . rw [zU]
   simp only [xC,n0,Bool.or_eq_false_iff,decide_eq_true_iff]; rw [<- FT,<- FT,h1,h2,h3,mx_mn]; simp only [xC,decide_eq_true_iff];constructor
   . rintro ⟨q,⟨_,q2⟩,_,q3⟩
     exact ⟨⟨fun z=>q3 z.2,fun z=>q2 z.2⟩,q⟩
   . rintro ⟨⟨q3,q2⟩,q⟩
     exact ⟨q,⟨q.2.1,fun z=>q2 ⟨q.2.1,z⟩⟩,q.2.2,fun z=>q3 ⟨q.2.2,z⟩⟩
 . rw [zU]
   simp only [xC,n0,decide_eq_true_iff]; rw [<- FT,h1,h3];constructor
   . rintro ⟨q,r⟩
     exact ⟨q.2.2,Decidable.byContradiction fun z=>r ⟨q.2.2,z⟩⟩
   . rintro ⟨q1,q2,q3⟩
     exact ⟨⟨⟨yH q2 q1,xB q1 q3⟩,yH q2 (xB q1 q3),q1⟩,fun z=>z.2 ⟨q2,q3⟩⟩
theorem aM {α:Type} (f:α->Bool) (g:α->wF) (l:List α):dNe (.list ((l.filter f).map g)) (.list [])=some (.bool (l.any f))/\dEq (.list ((l.filter f).map g)) (.list [])=some (.bool (!l.any f)):=by
 have:((l.filter f).map g).isEmpty = !l.any f:=by
   induction l with
   | nil=>rfl
   | cons x l ih =>
     rw [xS,EZ];cases f x with
     | true=>rfl
     | false=>rw [if_neg (by decide)]; exact ih
 rw [vL,qO,this,Bool.not_not];exact ⟨rfl,rfl⟩
theorem neBo (a b:Bool):dNe (.bool a) (.bool b)=some (.bool (a != b)):=by
 unfold dNe;rw [if_pos (by simp [yX])];cases a <;> cases b <;> rfl
theorem Uo (up:ts.Pairwise ltW) {t:Row} (ht:t∈ts) (b:Bool) (p:Nat×Nat):dIn b (.str t.1) (V8 ts p)=some (.bool (b != hb t p)):=by
 rw [Um,cT up ht fun t=>hb t p]
theorem Mf (up:ts.Pairwise ltW) {t u:Row} (ht:t∈ts) (hu:u∈ts) (a b:Bool):D1 O5 [.sh (.str t.1),.sh (.str u.1)] (M1 (B4 (b2 (A0 2) (A0 1) (dIn a))) (B4 (b2 (A0 3) (A0 1) (dIn b)))) (A0 0) (P.map (pD T ts))=.ok ((P.filter fun p=>(a != hb t p)&&(b != hb u p)).map (pD1 T)) :=
 Yx (pD1 T) (V8 ts) (pD1 T) (fun p=>(a != hb t p)&&(b != hb u p)) P (fun p _=>Lv (B9 (B1 (x:=.str t.1) (y:=V8 ts p) rfl rfl (Uo up ht a p))) (B9 (B1 (x:=.str u.1) (y:=V8 ts p) rfl rfl (Uo up hu b p)))) fun p _=>rfl
theorem uQ (K:K3 L T ts) (Q:Pcs T ts P) (hP:P.length<=900) {t u:Row} (ht:t∈ts) (hu:u∈ts) (hne:t.1≠u.1):E8 [.list (P.map (pD T ts)),.str t.1,.str u.1,.list (O4 ts ts),.list ((inn ts t).map .str),.list ((inn ts u).map .str)]=.ok (.bool true):=by
 have up:=K.up;have hn:=K.ln;obtain ⟨l1,l2⟩:=lies K Q ht hu;have c1:=Mf (T:=T) (P:=P) up ht hu false false;have c2:=Mf (T:=T) (P:=P) up ht hu false true;have c3:=Mf (T:=T) (P:=P) up ht hu true false;have q1:(P.any fun p=>(false != hb t p)&&(false != hb u p))=P.any fun p=>fBo (hb t p) (hb u p):=by congr 1; funext p; cases hb t p <;> cases hb u p <;> rfl
 have q2:(P.any fun p=>(false != hb t p)&&(true != hb u p))=P.any fun p=>fMi (hb t p) (hb u p):=by congr 1; funext p; cases hb t p <;> cases hb u p <;> rfl
 have q3:(P.any fun p=>(true != hb t p)&&(false != hb u p))=P.any fun p=>fYo (hb t p) (hb u p):=by congr 1; funext p; cases hb t p <;> cases hb u p <;> rfl
 rw [<- q1,<- q2,<- q3] at l1;rw [<- q1,<- q3] at l2;have n1:=aM (fun p=>(false != hb t p)&&(false != hb u p)) (pD1 T) P;have n2:=aM (fun p=>(false != hb t p)&&(true != hb u p)) (pD1 T) P;have n3:=aM (fun p=>(true != hb t p)&&(false != hb u p)) (pD1 T) P;generalize hX1:(P.filter fun p=>(false != hb t p)&&(false != hb u p)).map (pD1 T)=X1 at c1 n1;generalize hX2:(P.filter fun p=>(false != hb t p)&&(true != hb u p)).map (pD1 T)=X2 at c2 n2;generalize hX3:(P.filter fun p=>(true != hb t p)&&(false != hb u p)).map (pD1 T)=X3 at c3 n3;have iu:∀ b,dIn b (.str u.1) (.list ((inn ts t).map .str))=some (.bool (b != Q6 t u)):=fun b=>by
   unfold inn; rw [Um,cT up hu fun m => !(m.1==t.1)&&Q6 t m,Hq (fun z=>hne z.symm)]; rfl
 have hil:(inn ts t).length<=10:=by unfold inn; rw [wL]; exact xD (l9 _ _) hn
 have hil2:(inn ts u).length<=10:=by unfold inn; rw [wL]; exact xD (l9 _ _) hn
 have c4:=P5 (δc:=[.sh (.list ((inn ts t).map .str)),.sh (.str t.1)]) (tt:=B4 (b2 (A0 0) (b2 (A0 1) (F5 (A1 (A0 2) A6)) C5) (dIn true))) (el:=A0 0) yK yK (fun x => !decide (x∈inn ts t++[t.1])) (inn ts u) (fun x _=>B9 (B1 (x:=.str x) (y:=.list ((inn ts t++[t.1]).map .str)) rfl (B1 (x:=.list ((inn ts t).map .str)) (y:=.list [.str t.1]) rfl rfl (by rw [Zm (by rw [wL]; simp; lia),xR]; rfl)) (by rw [Um]; cases decide (x∈inn ts t++[t.1]) <;> rfl))) fun _ _=>rfl
 have hz:Q6 t u=true->(inn ts u).filter (fun x => !decide (x∈inn ts t++[t.1]))=[]:=fun h=>AU.mpr fun x hx=>by
   obtain ⟨v,hv,rfl⟩:=xF.mp hx; obtain ⟨hv1,hv2⟩:=yY.mp hv; rw [xC] at hv2; have:v.1∈inn ts t++[t.1]:=by
     by_cases e:v.1=t.1
     . exact wY.mpr (.inr (by rw [e]; exact .head _))
     . refine wY.mpr (.inl (xF.mpr ⟨v,yY.mpr ⟨hv1,?_⟩,rfl⟩))
       rw [Hq e]; have h1:=h; have h2:=hv2.2; unfold Q6 at h1 h2 ⊢;simp only [xC,decide_eq_true_iff,Bool.not_false,true_and] at h1 h2 ⊢;lia
   rw [decide_eq_true this]; decide
 unfold E8;refine P6 ?_;show B7 _ _ [.sh (.list (P.map (pD T ts))),.sh (.str t.1),.sh (.str u.1),.sh (.list (O4 ts ts)),.sh (.list ((inn ts t).map .str)),.sh (.list ((inn ts u).map .str)),.un,.un,.un,.un]=_;have st:∀ (i:Nat) (cap:List Nat) (tt:Dn->Res Bool) (δ:Dn) (X:List wF),A0 0 δ=.ok (.list (P.map (pD T ts)))->Ck δ cap=[.sh (.str t.1),.sh (.str u.1)]->D1 O5 [.sh (.str t.1),.sh (.str u.1)] tt (A0 0) (P.map (pD T ts))=.ok X->De i (E2 (fun δ=>((A0 0) δ).bind C9) O5 cap tt (A0 0)) δ=.nx (δ.set i (.sh (.list X))):=fun i cap tt δ X h1 h2 h3=>by
   unfold De; rw [D7 (δc:=[.sh (.str t.1),.sh (.str u.1)]) (D3 (d:=.list (P.map (pD T ts))) (ds:=P.map (pD T ts)) h1 rfl) (by rw [wL]; lia) h2 h3]; rfl
 refine (B2 (st 6 [1,2] _ _ X1 rfl rfl c1)).trans ?_;refine (B2 (st 7 [1,2] _ _ X2 rfl rfl c2)).trans ?_;refine (B2 (st 8 [1,2] _ _ X3 rfl rfl c3)).trans ?_;show B7 _ _ [.sh (.list (P.map (pD T ts))),.sh (.str t.1),.sh (.str u.1),.sh (.list (O4 ts ts)),.sh (.list ((inn ts t).map .str)),.sh (.list ((inn ts u).map .str)),.sh (.list X1),.sh (.list X2),.sh (.list X3),.un]=_;refine (B2 (δ':=[.sh (.list (P.map (pD T ts))),.sh (.str t.1),.sh (.str u.1),.sh (.list (O4 ts ts)),.sh (.list ((inn ts t).map .str)),.sh (.list ((inn ts u).map .str)),.sh (.list X1),.sh (.list X2),.sh (.list X3),.un]) ?_).trans ?_
 . unfold Q0
   have a1:(B4 (b2 (A0 1) (A0 2) (E9 .Lt))) [.sh (.list (P.map (pD T ts))),.sh (.str t.1),.sh (.str u.1),.sh (.list (O4 ts ts)),.sh (.list ((inn ts t).map .str)),.sh (.list ((inn ts u).map .str)),.sh (.list X1),.sh (.list X2),.sh (.list X3),.un]=.ok (ltB t.1 u.1):=B9 (B1 (x:=.str t.1) (y:=.str u.1) rfl rfl (kX _ _)); refine (Q2 ?_).trans rfl;cases hlt:ltB t.1 u.1 with
   | false=>rw [hlt] at a1; exact Es a1
   | true =>
     rw [hlt] at a1; refine Z8 a1 (B9 (B1 (x:=.bool (U7 t u)) (y:=.bool (U7 t u)) (B1 (x:=prD t u) (y:=.list (O4 ts ts)) rfl rfl (by rw [aU up ht hu,hlt]; rfl)) ?_ (by rw [neBo]; cases U7 t u <;> rfl)))
     rw [<- l1]; exact Et (B1 (x:=.list X1) (y:=.list []) rfl rfl n1.1) (Et (B1 (x:=.list X2) (y:=.list []) rfl rfl n2.1) (B1 (x:=.list X3) (y:=.list []) rfl rfl n3.1))
 refine (B2 (δ':=[.sh (.list (P.map (pD T ts))),.sh (.str t.1),.sh (.str u.1),.sh (.list (O4 ts ts)),.sh (.list ((inn ts t).map .str)),.sh (.list ((inn ts u).map .str)),.sh (.list X1),.sh (.list X2),.sh (.list X3),.un]) ?_).trans ?_
 . unfold P9
   refine (Q2 (B9 (B1 (x:=.bool (Q6 t u)) (y:=.bool (Q6 t u)) (B1 (x:=.str u.1) (y:=.list ((inn ts t).map .str)) rfl rfl (by rw [iu]; cases Q6 t u <;> rfl)) ?_ (by rw [neBo]; cases Q6 t u <;> rfl)))).trans rfl
   rw [<- l2]; exact Et (B1 (x:=.list X1) (y:=.list []) rfl rfl n1.1) (B1 (x:=.list X3) (y:=.list []) rfl rfl n3.2)
 generalize hY:(inn ts u).filter (fun x => !decide (x∈inn ts t++[t.1]))=Y at c4 hz;refine (B2 (δ':=[.sh (.list (P.map (pD T ts))),.sh (.str t.1),.sh (.str u.1),.sh (.list (O4 ts ts)),.sh (.list ((inn ts t).map .str)),.sh (.list ((inn ts u).map .str)),.sh (.list X1),.sh (.list X2),.sh (.list X3),.sh (.list (Y.map .str))]) ?_).trans ?_
 . unfold P8 De
   rw [D7 (δc:=[.sh (.list ((inn ts t).map .str)),.sh (.str t.1)]) (D3 (d:=.list ((inn ts u).map .str)) rfl rfl) (by rw [wL]; lia) rfl c4]; rfl
 . unfold P7
   refine I0 ?_; have e1:(b2 (A0 2) (A0 4) (dIn true)) [.sh (.list (P.map (pD T ts))),.sh (.str t.1),.sh (.str u.1),.sh (.list (O4 ts ts)),.sh (.list ((inn ts t).map .str)),.sh (.list ((inn ts u).map .str)),.sh (.list X1),.sh (.list X2),.sh (.list X3),.sh (.list (Y.map .str))]=.ok (.bool (true != Q6 t u)):=B1 (x:=.str u.1) (y:=.list ((inn ts t).map .str)) rfl rfl (iu true); unfold vOr; rw [e1,C2];cases h:Q6 t u with
   | false=>rfl
   | true =>
     rw [hz h]; exact B1 (x:=.list []) (y:=.list []) rfl rfl rfl
end
noncomputable section
variable {L:List Dp} {T:List Nat} {ts:List Row} {P:List (Nat×Nat)}
abbrev brD (r:Nat×Nat):wF:=.tuple [.int (r.1:Int),.int (r.2:Int)]
abbrev fe (ts:List Row) (p:Nat×Nat):Bool:=(Em ts p).isEmpty
noncomputable def brS (R:List (Nat×Nat)) (p:Nat×Nat):List (Nat×Nat):=match R.getLast? with
 | some x=>if x.2=p.1 then R.dropLast++[(x.1,p.2)] else R++[p]
 | none=>[p]
theorem Ze (A:List (Nat×Nat)) (x p:Nat×Nat):brS (A++[x]) p=if x.2=p.1 then A++[(x.1,p.2)] else A++[x]++[p]:=by
 unfold brS;rw [List.getLast?_append];simp
theorem Vm (p:Nat×Nat) {f:Dn->Res wF} {δ:Dn} (h:f δ=.ok (V8 ts p)):Ct (B4 f) δ=.ok (fe ts p):=by
 have:B4 f δ=.ok (!fe ts p):=by
   unfold B4; rw [h,C2]; show ofO (Pm (.list ((Em ts p).map .str)))=_;unfold fe;cases Em ts p <;> rfl
 unfold Ct;rw [this,C2,Bool.not_not]
theorem oA {i:Nat} {fk fv:Dn->Res wF} {δ:Dn} {A:List wF} {x v:wF} (h:δ[i]? = some (.ow (.list (A++[x])))) (hv:fv δ=.ok v) (hk:fk δ=.ok (.int (-1))):Rr i fk fv δ=.nx (δ.set i (.ow (.list (A++[v])))):=by
 have hi:ixN (A++[x]).length (-1)=some A.length:=by
   unfold ixN; rw [xG,if_neg (by lia),if_pos (by simp; lia)];congr 1;simp;lia
 unfold Rr;rw [h];show M5 (fv δ) _=_;rw [hv,D2,hk,D2];show (match ixN (A++[x]).length (-1) with | some j=>_ | none=>_)=_;rw [hi];show Out.nx (δ.set i (.ow (.list ((A++[x]).set A.length v))))=_;rw [List.set_append_right _ _ (wO _),Nat.sub_self]; rfl
noncomputable def bN:Dn->Out:=(B7 (D5 4 (b2 (A0 2) (vFn (A1 (b2 (A0 3) (vC (.int 0)) dIx) A6) Q8) C5)) (B7 (sIf (cFz 1 (M1 (Ct (B4 (b2 (A0 3) (vC (.int 1)) dIx))) (M1 (B4 (A0 1)) (B4 (b2 (b2 (b2 (A0 1) (b1 (vC (.int 1)) Jw) dIx) (vC (.int 1)) dIx) (A0 2) dEq))))) (Rr 1 (b1 (vC (.int 1)) Jw) (gZ 1 (E7 (A1 (b2 (b2 (A0 1) (b1 (vC (.int 1)) Jw) dIx) (vC (.int 0)) dIx) (A1 (A0 4) A6))))) (sIf (Ct (B4 (b2 (A0 3) (vC (.int 1)) dIx))) (Cg 1 (E7 (A1 (A0 2) (A1 (A0 4) A6)))) E1)) (D5 2 (A0 4))))
theorem qW (d:wF) (R:List (Nat×Nat)) (hR:R.length<=900) {p:Nat×Nat} (h1:p.1 < p.2) (h2:p.2<=T.length) (s4:Sl):bN [.sh d,.ow (.list (R.map brD)),.sh (.int (p.1:Int)),.sh (pD T ts p),s4]=.nx [.sh d,.ow (.list ((if fe ts p=true then brS R p else R).map brD)),.sh (.int (p.2:Int)),.sh (pD T ts p),.sh (.int (p.2:Int))]:=by
 have i0:dIx (pD T ts p) (.int 0)=some (pD1 T p):=Bf _ _;have i1:dIx (pD T ts p) (.int 1)=some (V8 ts p):=Gi _ _ _;unfold bN;refine (B2 (δ':=[.sh d,.ow (.list (R.map brD)),.sh (.int (p.1:Int)),.sh (pD T ts p),.sh (.int (p.2:Int))]) (C8 (B1 (x:=.int (p.1:Int)) (y:=.int ((p.2 - p.1:Nat):Int)) rfl (O0 (A5 (B1 (x:=pD T ts p) (y:=.int 0) rfl rfl i0) rfl) (by rw [Xx,V4,Ee T h2])) (by rw [U1,show (p.1:Int)+((p.2 - p.1:Nat):Int)=p.2 by lia])))).trans ?_;refine (B2 (δ':=[.sh d,.ow (.list ((if fe ts p=true then brS R p else R).map brD)),.sh (.int (p.1:Int)),.sh (pD T ts p),.sh (.int (p.2:Int))]) ?_).trans rfl
 have t1:(Ct (B4 (b2 (A0 3) (vC (.int 1)) dIx))) [.sh d,.sh (.list (R.map brD)),.sh (.int (p.1:Int)),.sh (pD T ts p),.sh (.int (p.2:Int))]=.ok (fe ts p):=Vm p (B1 (x:=pD T ts p) (y:=.int 1) rfl rfl i1);have t2:(Ct (B4 (b2 (A0 3) (vC (.int 1)) dIx))) [.sh d,.ow (.list (R.map brD)),.sh (.int (p.1:Int)),.sh (pD T ts p),.sh (.int (p.2:Int))]=.ok (fe ts p):=Vm p (B1 (x:=pD T ts p) (y:=.int 1) rfl rfl i1);have new:fe ts p=true->sIf (Ct (B4 (b2 (A0 3) (vC (.int 1)) dIx))) (Cg 1 (E7 (A1 (A0 2) (A1 (A0 4) A6)))) E1 [.sh d,.ow (.list (R.map brD)),.sh (.int (p.1:Int)),.sh (pD T ts p),.sh (.int (p.2:Int))]=.nx [.sh d,.ow (.list ((R++[p]).map brD)),.sh (.int (p.1:Int)),.sh (pD T ts p),.sh (.int (p.2:Int))]:=fun h=>by
   rw [h] at t2; rw [W7 t2,xR]; exact Eu rfl rfl (by rw [wL]; lia)
 cases hf:fe ts p with
 | false =>
   rw [hf] at t1 t2; rw [if_neg (by decide)]; exact (Q2 (Vd rfl (Es t1))).trans ((Q2 t2).trans rfl)
 | true =>
   have hn:=new hf; rw [hf] at t1; rw [if_pos rfl];by_cases hz:R=[]
   . subst hz
     exact (Q2 (Vd rfl (Z8 t1 (Es rfl)))).trans hn
   . obtain ⟨A,x,rfl⟩:∃ A x,R=A++[x]:=⟨R.dropLast,R.getLast hz,(BS hz).symm⟩
     rw [Ze]; have mA:(A++[x]).map brD=A.map brD++[brD x]:=by rw [xR]; rfl
     rw [mA] at t1 hn ⊢;have t3:(B4 (A0 1)) [.sh d,.sh (.list (A.map brD++[brD x])),.sh (.int (p.1:Int)),.sh (pD T ts p),.sh (.int (p.2:Int))]=.ok true:=by
       show ofO (Pm (.list (A.map brD++[brD x])))=_;cases A <;> rfl
     have t4:(B4 (b2 (b2 (b2 (A0 1) (b1 (vC (.int 1)) Jw) dIx) (vC (.int 1)) dIx) (A0 2) dEq)) [.sh d,.sh (.list (A.map brD++[brD x])),.sh (.int (p.1:Int)),.sh (pD T ts p),.sh (.int (p.2:Int))]=.ok (decide (x.2=p.1)):=by
       refine B9 (B1 (x:=.int (x.2:Int)) (y:=.int (p.1:Int)) (B1 (x:=brD x) (y:=.int 1) (B1 (x:=.list (A.map brD++[brD x])) (y:=.int (-1)) rfl rfl dO) rfl (Gi _ _ _)) rfl ?_); rw [aZ];congr 2;rw [zU,beq_iff_eq,decide_eq_true_iff];lia
     by_cases c:x.2=p.1
     . rw [decide_eq_true c] at t4
       rw [if_pos c,xR]; refine (W7 (Vd (δ':=[.sh d,.sh (.list (A.map brD++[brD x])),.sh (.int (p.1:Int)),.sh (pD T ts p),.sh (.int (p.2:Int))]) rfl (Dm t1 (Dm t3 t4)))).trans (oA (v:=brD (x.1,p.2)) rfl ?_ rfl); unfold gZ; have:(E7 (A1 (b2 (b2 (A0 1) (b1 (vC (.int 1)) Jw) dIx) (vC (.int 0)) dIx) (A1 (A0 4) A6))) [.sh d,.sh (.list (A.map brD++[brD x])),.sh (.int (p.1:Int)),.sh (pD T ts p),.sh (.int (p.2:Int))]=.ok (brD (x.1,p.2)):=U3 (A5 (B1 (x:=brD x) (y:=.int 0) (B1 (x:=.list (A.map brD++[brD x])) (y:=.int (-1)) rfl rfl dO) rfl (Bf _ _)) rfl); show Res.bind (E7 _ [.sh d,.sh (.list (A.map brD++[brD x])),.sh (.int (p.1:Int)),.sh (pD T ts p),.sh (.int (p.2:Int))]) _=_;rw [this,C2]; rfl
     . rw [decide_eq_false c] at t4
       rw [if_neg c]; exact (Q2 (Vd (δ':=[.sh d,.sh (.list (A.map brD++[brD x])),.sh (.int (p.1:Int)),.sh (pD T ts p),.sh (.int (p.2:Int))]) rfl (Z8 t1 (Z8 t3 t4)))).trans hn
theorem vT {R:List (Nat×Nat)} {p:Nat×Nat} (h:∀ r∈R,r.1<=r.2/\r.2<=p.1) (hp:p.1 < p.2):((brS R p).map fun r=>sl T r.1 r.2).flatten=(R.map fun r=>sl T r.1 r.2).flatten++sl T p.1 p.2/\(∀ r∈brS R p,r.1<=r.2/\r.2<=p.2)/\(brS R p).length<=R.length+1:=by
 by_cases hz:R=[]
 . subst hz
   exact ⟨by show ([sl T p.1 p.2]).flatten=_; simp,fun r hr=>by rw [wX.mp hr]; exact ⟨p7 hp,wO _⟩,wO _⟩
 . obtain ⟨A,x,rfl⟩:∃ A x,R=A++[x]:=⟨R.dropLast,R.getLast hz,(BS hz).symm⟩
   have hx:=h x (wY.mpr (.inr (.head _))); have hA:∀ r∈A,r.1<=r.2/\r.2<=p.2:=fun r hr=>by have:=h r (wY.mpr (.inl hr)); lia
   rw [Ze];by_cases c:x.2=p.1
   . rw [if_pos c,xR,xR,EQ,EQ,yO]
     refine ⟨?_,fun r hr=>?_,by simp⟩
     . congr 1
       show ([sl T x.1 p.2]).flatten=([sl T x.1 x.2]).flatten++sl T p.1 p.2;rw [DL,DL,<- c]; exact (Zz T hx.1 (by lia)).symm
     . rcases wY.mp hr with q | q
       . exact hA r q
       . rw [wX.mp q]; exact ⟨by show x.1<=p.2; lia,wO _⟩
   . rw [if_neg c,xR,EQ]
     refine ⟨by congr 1; show ([sl T p.1 p.2]).flatten=_; rw [DL],fun r hr=>?_,by simp⟩;rcases wY.mp hr with q | q
     . rcases wY.mp q with q | q
       . exact hA r q
       . rw [wX.mp q]; lia
     . rw [wX.mp q]; exact ⟨p7 hp,wO _⟩
abbrev Z0 (T:List Nat) (ts:List Row) (P:List (Nat×Nat)):List Nat:=((P.filter fun p=>fe ts p).map fun p=>sl T p.1 p.2).flatten
theorem qX (d:wF) {a c:Nat} (h:Chn a P c):c<=T.length->∀ (R:List (Nat×Nat)) (s3 s4:Sl),(∀ r∈R,r.1<=r.2/\r.2<=a)->R.length+P.length<=900->∃ (R':List (Nat×Nat)) (t3 t4:Sl),(R'.map fun r=>sl T r.1 r.2).flatten=(R.map fun r=>sl T r.1 r.2).flatten++Z0 T ts P/\(∀ r∈R',r.1<=r.2/\r.2<=c)/\R'.length<=R.length+P.length /\
   D8 (st1 3) bN (P.map (pD T ts)) [.sh d,.ow (.list (R.map brD)),.sh (.int (a:Int)),s3,s4]=.nx [.sh d,.ow (.list (R'.map brD)),.sh (.int (c:Int)),t3,t4]:=by
 induction h with
 | nil=>intro _ R s3 s4 hR _; exact ⟨R,s3,s4,by show _=_++[]; rw [yL],hR,wO _,rfl⟩
 | @cons a b c r hab k ih =>
   intro hc R s3 s4 hR hl; rw [wT] at hl; have e:=qW (T:=T) (ts:=ts) d R (by lia) (p:=(a,b)) hab (xD k.le.1 hc) s4;obtain ⟨b1,b2,b3⟩:=vT (T:=T) (p:=(a,b)) hR hab;cases hf:fe ts (a,b) with
   | true =>
     rw [hf,if_pos rfl] at e; obtain ⟨R',t3,t4,h1,h2,h3,h4⟩:=ih hc (brS R (a,b)) (.sh (pD T ts (a,b))) (.sh (.int (b:Int))) b2 (by lia);refine ⟨R',t3,t4,?_,h2,by rw [wT]; lia,(K6 rfl e).trans h4⟩;rw [h1,b1,yO];congr 1;unfold Z0; rw [xS,if_pos hf,wQ,zQ]
   | false =>
     rw [hf,if_neg (by decide)] at e; obtain ⟨R',t3,t4,h1,h2,h3,h4⟩:=ih hc R (.sh (pD T ts (a,b))) (.sh (.int (b:Int))) (fun r hr=>by have:=hR r hr; lia) (by lia);refine ⟨R',t3,t4,?_,h2,by rw [wT]; lia,(K6 rfl e).trans h4⟩;rw [h1];congr 1;unfold Z0; rw [xS,if_neg (by rw [hf]; decide)]
theorem rC (Q:Pcs T ts P) (hp:Q4 [bkD L]=.ok (.list (P.map (pD T ts)))) (hP:P.length<=900):∃ R:List (Nat×Nat),Jq [bkD L]=.ok (.list (R.map brD))/\(R.map fun r=>sl T r.1 r.2).flatten=Z0 T ts P/\(∀ r∈R,r.1<=r.2/\r.2<=T.length)/\R.length<=P.length:=by
 obtain ⟨R,t3,t4,h1,h2,h3,h4⟩:=qX (T:=T) (ts:=ts) (bkD L) Q.ch (wO _) [] .un .un (fun _ h=>nomatch h) (by simpa using hP);refine ⟨R,?_,h1,h2,by simpa using h3⟩;unfold Jq;refine P6 ?_;show B7 _ _ [.sh (bkD L),.un,.un,.un,.un]=_;refine (B2 (δ':=[.sh (bkD L),.ow (.list []),.un,.un,.un]) rfl).trans ?_;refine (B2 (δ':=[.sh (bkD L),.ow (.list []),.sh (.int 0),.un,.un]) rfl).trans ?_;refine (B2 (δ':=[.sh (bkD L),.ow (.list (R.map brD)),.sh (.int (T.length:Int)),t3,t4]) ?_).trans rfl;unfold Ja K5;rw [D3 (d:=.list (P.map (pD T ts))) (ds:=P.map (pD T ts)) (B8 (A5 (d:=bkD L) rfl rfl) hp) rfl,D2];exact h4
end
abbrev dl (v0 v1 v2 v3 v4 v5 v6 v7 v8 v9 v10 v11:Sl):Dn:=[v0,v1,v2,v3,v4,v5,v6,v7,v8,v9,v10,v11]
noncomputable section
variable {L:List Dp} {T:List Nat} {ts:List Row} {P:List (Nat×Nat)} {v0 v2 v3 v4 v5 v6 v7 v8 v9 v10 v11:Sl}
noncomputable def bM:Dn->Out:=(B7 (sIf (B4 (b2 (B5 (A1 (A0 1) (A1 (A0 4) A6)) T4) (A0 7) dNe)) (F6 (vC (.bool false))) E1) (D5 4 (b2 (A0 4) (vC (.int 1)) C5)))
theorem Rf.strs (xs:List Str):Rf 1 (.list (xs.map .str)):=Rf.list fun x hx=>by
 obtain ⟨y,_,rfl⟩:=xF.mp hx;exact .str y
theorem pS (K:K3 L T ts) (p:Nat×Nat):∀ (ds:List wF) (x:Nat) (v10:Sl),(∀ y,x<=y->y < x+ds.length->y < T.length/\Em ts (y,y+1)=Em ts p)->∃ t10,D8 (st1 10) bM ds (dl v0 (.sh (bkD L)) v2 v3 (.sh (.int (x:Int))) v5 v6 (.sh (V8 ts p)) v8 v9 v10 v11)=.nx (dl v0 (.sh (bkD L)) v2 v3 (.sh (.int ((x+ds.length:Nat):Int))) v5 v6 (.sh (V8 ts p)) v8 v9 t10 v11):=by
 intro ds;induction ds with
 | nil=>intro x v10 _; exact ⟨v10,rfl⟩
 | cons d ds ih =>
   intro x v10 h; rw [wT] at h; obtain ⟨h1,h2⟩:=h x (wO _) (by lia);have hn:=Xr K h1; unfold V8 at hn; rw [h2] at hn; have e:bM (dl v0 (.sh (bkD L)) v2 v3 (.sh (.int (x:Int))) v5 v6 (.sh (V8 ts p)) v8 v9 (.sh d) v11)=.nx (dl v0 (.sh (bkD L)) v2 v3 (.sh (.int ((x+1:Nat):Int))) v5 v6 (.sh (V8 ts p)) v8 v9 (.sh d) v11):=by
     unfold bM; exact (K4 (B9 (B1 (B8 (A5 (d:=bkD L) rfl (A5 (d:=.int (x:Int)) rfl rfl)) hn) (y:=V8 ts p) rfl ((Rf.strs _).ne (by decide))))).trans (C8 (B1 (x:=.int (x:Int)) (y:=.int 1) rfl rfl U1))
   obtain ⟨t10,e'⟩:=ih (x+1) (.sh d) fun y y1 y2=>h y (by lia) (by lia);refine ⟨t10,(K6 rfl e).trans (e'.trans ?_)⟩; rw [wT,show x+1+ds.length=x+(ds.length+1) by lia]
noncomputable def mM:Dn->Out:=(B7 (K5 (fun δ=>((A0 6) δ).bind C9) (st1 10) (B7 (sIf (B4 (b2 (B5 (A1 (A0 1) (A1 (A0 4) A6)) T4) (A0 7) dNe)) (F6 (vC (.bool false))) E1) (D5 4 (b2 (A0 4) (vC (.int 1)) C5)))) (D5 5 (b2 (A0 5) (b2 (A0 6) (vFn (A1 (b2 (A0 7) (F5 A6) dEq) A6) Ku) N2) C5)))
theorem eQ (x:Str):(Cy x).length=x.length:=by
 unfold Cy;rw [Tm]; simp
theorem mul01 (x:List Nat) (hx:x.length<=1000) (b:Bool):N2 (.str (mk x)) (.int (if b=true then 1 else 0))=some (.str (mk (if b=true then x else []))):=by
 have hs:=Ho;have go:∀ n:Int,0<=n->n<=1->N2 (.str (mk x)) (.int n)=some (.str (K7 n.toNat (mk x))):=fun n h0 h1=>by
   show (if -(2 ^ 63)<=n/\n < 2 ^ 63/\(mk x).length*n.toNat<=sizeLine then some (yK (K7 n.toNat (mk x))) else none)=_;have hk:(mk x).length*n.toNat<=sizeLine:=by rw [V4]; exact xD (Nat.mul_le_mul hx (show n.toNat<=1 by lia)) hs
   rw [if_pos ⟨by lia,by lia,hk⟩]
 cases b with
 | true =>
   rw [if_pos rfl,if_pos rfl,go 1 (by decide) (by decide)]; show some (yK (⟨#[]++x.toArray⟩:Str))=_;rw [Array.empty_append]; rfl
 | false =>
   rw [if_neg (by decide),if_neg (by decide),go 0 (by decide) (by decide)]; rfl
theorem gE (Q:Pcs T ts P) {p:Nat×Nat} (hp:p∈P) {y:Nat} (h1:p.1<=y) (h2:y < p.2):Em ts (y,y+1)=Em ts p:=by
 unfold Em;congr 1;refine List.filter_congr fun v hv=>?_;have h:=Q.cut p hp v hv;unfold hb;rw [show decide (v.2.1<=(y,y+1).1)=decide (v.2.1<=p.1) from decide_eq_decide.mpr (by show v.2.1<=y↔_; lia),show decide ((y,y+1).2<=v.2.2)=decide (p.2<=v.2.2) from decide_eq_decide.mpr (by show y+1<=_↔_; lia)]
theorem step6 (K:K3 L T ts) (Q:Pcs T ts P) {p:Nat×Nat} (hp:p∈P) (F:List Nat) (hF:F.length<=p.1) (v10:Sl):∃ t10,mM (dl v0 (.sh (bkD L)) v2 v3 (.sh (.int (p.1:Int))) (.sh (.str (mk F))) (.sh (pD1 T p)) (.sh (V8 ts p)) v8 v9 v10 v11)=.nx (dl v0 (.sh (bkD L)) v2 v3 (.sh (.int (p.2:Int))) (.sh (.str (mk (F++if fe ts p=true then sl T p.1 p.2 else [])))) (.sh (pD1 T p)) (.sh (V8 ts p)) v8 v9 t10 v11):=by
 have h:=Q.ch.le.2 p hp;have hT:=K.tl;have hsl:(sl T p.1 p.2).length=p.2 - p.1:=Ee T h.2.2;have hd:(Cy (mk (sl T p.1 p.2))).length=p.2 - p.1:=by rw [eQ,V4,hsl]
 obtain ⟨t10,e⟩:=pS (v0:=v0) (v2:=v2) (v3:=v3) (v5:=.sh (.str (mk F))) (v6:=.sh (pD1 T p)) (v8:=v8) (v9:=v9) (v11:=v11) K p (Cy (mk (sl T p.1 p.2))) p.1 v10 fun y y1 y2=>⟨by lia,gE Q hp y1 (by lia)⟩;rw [hd,show p.1+(p.2 - p.1)=p.2 by lia] at e;refine ⟨t10,?_⟩;unfold mM;refine (B2 (δ':=dl v0 (.sh (bkD L)) v2 v3 (.sh (.int (p.2:Int))) (.sh (.str (mk F))) (.sh (pD1 T p)) (.sh (V8 ts p)) v8 v9 t10 v11) ?_).trans ?_
 . unfold K5
   rw [D3 (d:=pD1 T p) (ds:=Cy (mk (sl T p.1 p.2))) rfl rfl,D2]; exact e
 . have e1:(b2 (A0 7) (F5 A6) dEq) (dl v0 (.sh (bkD L)) v2 v3 (.sh (.int (p.2:Int))) (.sh (.str (mk F))) (.sh (pD1 T p)) (.sh (V8 ts p)) v8 v9 t10 v11)=.ok (.bool (fe ts p)):=B1 (x:=V8 ts p) (y:=.list []) rfl rfl (by rw [qO]; unfold fe; cases Em ts p <;> rfl)
   refine C8 (B1 (x:=.str (mk F)) (y:=.str (mk (if fe ts p=true then sl T p.1 p.2 else []))) rfl (B1 (x:=pD1 T p) (y:=.int (if fe ts p=true then 1 else 0)) rfl (O0 (A5 e1 rfl) rfl) (mul01 _ (by lia) _)) (addM ?_));split
   . lia
   . simp; lia
theorem loop6 (K:K3 L T ts) (Q:Pcs T ts P) {a c:Nat} {R:List (Nat×Nat)} (h:Chn a R c):(∀ p∈R,p∈P)->∀ (F:List Nat) (v6 v7 v10:Sl),F.length<=a->∃ t6 t7 t10,(F++Z0 T ts R).length<=c/\D8 (st2 6 7) mM (R.map (pD T ts)) (dl v0 (.sh (bkD L)) v2 v3 (.sh (.int (a:Int))) (.sh (.str (mk F))) v6 v7 v8 v9 v10 v11)=.nx (dl v0 (.sh (bkD L)) v2 v3 (.sh (.int (c:Int))) (.sh (.str (mk (F++Z0 T ts R)))) t6 t7 v8 v9 t10 v11):=by
 induction h with
 | nil=>intro _ F v6 v7 v10 hF; exact ⟨v6,v7,v10,by show (F++[]).length<=_; rw [yL]; exact hF,by show Out.nx _=Out.nx (dl _ _ _ _ _ (.sh (.str (mk (F++[])))) _ _ _ _ _ _); rw [yL]⟩
 | @cons a b c r hab k ih =>
   intro hin F v6 v7 v10 hF; have hp:=hin (a,b) (.head _); have hh:=Q.ch.le.2 _ hp; obtain ⟨t10,e⟩:=step6 (v0:=v0) (v2:=v2) (v3:=v3) (v8:=v8) (v9:=v9) (v11:=v11) K Q hp F hF v10; have hl:(F++if fe ts (a,b)=true then sl T a b else []).length<=b:=by
     rw [xG];split
     . rw [Ee T hh.2.2]; lia
     . simp; lia
   obtain ⟨u6,u7,u10,l2,e'⟩:=ih (fun q hq=>hin q (.tail _ hq)) (F++if fe ts (a,b)=true then sl T a b else []) (.sh (pD1 T (a,b))) (.sh (V8 ts (a,b))) t10 hl;have hf:F++Z0 T ts ((a,b)::r)=(F++if fe ts (a,b)=true then sl T a b else [])++Z0 T ts r:=by
     rw [yO];congr 1;unfold Z0; rw [xS];split
     . rw [wQ,zQ]
     . rfl
   rw [hf]; exact ⟨u6,u7,u10,l2,(K6 (δ1:=dl v0 (.sh (bkD L)) v2 v3 (.sh (.int (a:Int))) (.sh (.str (mk F))) (.sh (pD1 T (a,b))) (.sh (V8 ts (a,b))) v8 v9 v10 v11) rfl e).trans e'⟩
noncomputable def bO:Dn->Out:=(B7 (sIf (B4 (b2 (Cl "" (F5 (E2 (fun δ=>((A0 3) δ).bind C9) O5 [9] (B4 (b2 (A0 2) (A0 1) (dIn false))) (A0 0)))) (B5 (A1 (A0 1) (A1 (A0 9) A6)) Q5) dNe)) (F6 (vC (.bool false))) E1) (K5 (fun δ=>((F5 (E2 (fun δ=>((A0 7) δ).bind C9) E4 [9] (B4 (b2 (A0 0) (A0 1) dNe)) (A0 0))) δ).bind C9) (st1 11) (sIf (Ct (B4 (B5 (A1 (A0 3) (A1 (A0 9) (A1 (A0 11) (A1 (A0 8) (A1 (B5 (A1 (A0 1) (A1 (A0 9) A6)) K8) (A1 (B5 (A1 (A0 1) (A1 (A0 11) A6)) K8) A6)))))) E8))) (F6 (vC (.bool false))) E1)))
abbrev dt (L:List Dp) (T:List Nat) (ts:List Row) (P:List (Nat×Nat)) (v0 v2 v4 v5 v6 v9 v10 v11:Sl):Dn:=dl v0 (.sh (bkD L)) v2 (.sh (.list (P.map (pD T ts)))) v4 v5 v6 (.sh (.list (ts.map fun t=>.str t.1))) (.sh (.list (O4 ts ts))) v9 v10 v11
noncomputable def bL:Dn->Out:=(sIf (Ct (B4 (B5 (A1 (A0 3) (A1 (A0 9) (A1 (A0 11) (A1 (A0 8) (A1 (B5 (A1 (A0 1) (A1 (A0 9) A6)) K8) (A1 (B5 (A1 (A0 1) (A1 (A0 11) A6)) K8) A6)))))) E8))) (F6 (vC (.bool false))) E1)
theorem oS (K:K3 L T ts) (Q:Pcs T ts P) (hP:P.length<=900) {t:Row} (ht:t∈ts):∀ (us:List Row),(∀ u∈us,u∈ts/\t.1≠u.1)->∀ v11:Sl,∃ t11,D8 (st1 11) bL (us.map fun u=>.str u.1) (dt L T ts P v0 v2 v4 v5 v6 (.sh (.str t.1)) v10 v11)=.nx (dt L T ts P v0 v2 v4 v5 v6 (.sh (.str t.1)) v10 t11):=by
 intro us;induction us with
 | nil=>intro _ v11; exact ⟨v11,rfl⟩
 | cons u us ih =>
   intro h v11; obtain ⟨h1,h2⟩:=h u (.head _); have e:bL (dt L T ts P v0 v2 v4 v5 v6 (.sh (.str t.1)) v10 (.sh (.str u.1)))=.nx (dt L T ts P v0 v2 v4 v5 v6 (.sh (.str t.1)) v10 (.sh (.str u.1))):=by
     unfold bL; refine (Q2 ?_).trans rfl; unfold Ct; rw [B9 (B8 (A5 (d:=.list (P.map (pD T ts))) rfl (A5 (d:=.str t.1) rfl (A5 (d:=.str u.1) rfl (A5 (d:=.list (O4 ts ts)) rfl (A5 (B8 (A5 (d:=bkD L) rfl (A5 (d:=.str t.1) rfl rfl)) (Yf K ht)) (A5 (B8 (A5 (d:=bkD L) rfl (A5 (d:=.str u.1) rfl rfl)) (Yf K h1)) rfl)))))) (uQ K Q hP ht h1 h2))]; rfl
   obtain ⟨t11,e'⟩:=ih (fun v hv=>h v (.tail _ hv)) (.sh (.str u.1));exact ⟨t11,(K6 rfl e).trans e'⟩
theorem fW (K:K3 L T ts) (Q:Pcs T ts P) {t:Row} (ht:t∈ts):Ge "" (.list ((P.filter fun p=>hb t p).map (pD1 T)))=some (.str (mk (sl T t.2.1 t.2.2))):=by
 have h:=K.ok t ht;have hT:=K.tl;have hw:=Q.ch.within T h.1 (fun p hp=>by have:=Q.cut p hp t ht; exact this) h.2;rw [show ID 0 t.2.1=t.2.1 by lia] at hw;have hw:((P.filter fun p=>hb t p).map fun p=>sl T p.1 p.2).flatten=sl T t.2.1 t.2.2:=hw;have hj:=Ul ((P.filter fun p=>hb t p).map fun p=>sl T p.1 p.2) (by rw [hw]; exact iQ K.ch _ _) (by rw [hw,Ee T h.2]; lia);rw [hw,zV] at hj;exact hj
theorem sR (K:K3 L T ts) (Q:Pcs T ts P) (hP:P.length<=900) {t:Row} (ht:t∈ts) (v11:Sl):∃ t11,bO (dt L T ts P v0 v2 v4 v5 v6 (.sh (.str t.1)) v10 v11)=.nx (dt L T ts P v0 v2 v4 v5 v6 (.sh (.str t.1)) v10 t11):=by
 have hn:=K.ln;have c1:=Yx (δc:=[.sh (.str t.1)]) (tt:=B4 (b2 (A0 2) (A0 1) (dIn false))) (el:=A0 0) (pD1 T) (V8 ts) (pD1 T) (fun p=>hb t p) P (fun p _=>B9 (B1 (x:=.str t.1) (y:=V8 ts p) rfl rfl (by rw [Uo K.up ht]; cases hb t p <;> rfl))) fun p _=>rfl
 have c2:=P5 (δc:=[.sh (.str t.1)]) (tt:=B4 (b2 (A0 0) (A0 1) dNe)) (el:=A0 0) (fun u:Row=>yK u.1) (fun u=>.str u.1) (fun u => !(u.1==t.1)) ts (fun u _=>B9 (B1 (x:=.str u.1) (y:=.str t.1) rfl rfl (neS _ _))) fun u _=>rfl;obtain ⟨t11,e⟩:=oS (v0:=v0) (v2:=v2) (v4:=v4) (v5:=v5) (v6:=v6) (v10:=v10) K Q hP ht (ts.filter fun u => !(u.1==t.1)) (fun u hu=>by
   obtain ⟨h1,h2⟩:=yY.mp hu; refine ⟨h1,fun z=>?_⟩;rw [z,beq_self_eq_true] at h2;cases h2) v11
 refine ⟨t11,?_⟩;unfold bO;refine (K4 (B9 (B1 (x:=.str (mk (sl T t.2.1 t.2.2))) (y:=.str (mk (sl T t.2.1 t.2.2))) ?_ (B8 (A5 (d:=bkD L) rfl (A5 (d:=.str t.1) rfl rfl)) (Jp K ht)) ((Rf.str (n:=0) _).ne (by decide))))).trans ?_
 . unfold Cl
   rw [M3 (D7 (δc:=[.sh (.str t.1)]) (D3 (d:=.list (P.map (pD T ts))) (ds:=P.map (pD T ts)) rfl rfl) (by rw [wL]; lia) rfl c1),C2,fW K Q ht]; rfl
 . unfold K5
   rw [D3 (d:=.list ((ts.filter fun u => !(u.1==t.1)).map fun u=>.str u.1)) (M3 (D7 (δc:=[.sh (.str t.1)]) (D3 (d:=.list (ts.map fun t=>.str t.1)) rfl rfl) (by rw [wL]; lia) rfl c2)) rfl,D2];exact e
theorem uP (K:K3 L T ts) (Q:Pcs T ts P) (hP:P.length<=900):∀ (us:List Row),(∀ u∈us,u∈ts)->∀ v9 v11:Sl,∃ t9 t11,D8 (st1 9) bO (us.map fun u=>.str u.1) (dt L T ts P v0 v2 v4 v5 v6 v9 v10 v11)=.nx (dt L T ts P v0 v2 v4 v5 v6 t9 v10 t11):=by
 intro us;induction us with
 | nil=>intro _ v9 v11; exact ⟨v9,v11,rfl⟩
 | cons u us ih =>
   intro h v9 v11; obtain ⟨t11,e⟩:=sR (v0:=v0) (v2:=v2) (v4:=v4) (v5:=v5) (v6:=v6) (v10:=v10) K Q hP (h u (.head _)) v11; obtain ⟨u9,u11,e'⟩:=ih (fun v hv=>h v (.tail _ hv)) (.sh (.str u.1)) t11;exact ⟨u9,u11,(K6 rfl e).trans e'⟩
theorem oP:∀ l:List Nat,(pcs l).length<=l.length:=by
 intro l;induction l with
 | nil=>exact wO _
 | cons a r ih =>
   cases r with
   | nil=>exact zI _
   | cons b r=>exact FX ih
end
theorem jL (ns:List Int) (hns:ns.length<=63):cV [.list (ns.map xL)]=.ok (.bool true):=by
 obtain ⟨x,y,z,hxyz,en⟩:=kM ns hns 0;obtain ⟨L,eb,hl,W⟩:=rA ns hns x y z hxyz;obtain ⟨T,ts,K⟩:=k3_ex W hl;have hn:=K.ln;have hT:=K.tl;have ep:=fE K;have Q:=uB K;have hP:(pcs (cs T ts)).length<=900:=by
   have:=oP (cs T ts); have:=(mF K).2;lia
 generalize pcs (cs T ts)=P at ep Q hP;obtain ⟨R,eR,r1,r2,r3⟩:=rC Q ep hP;refine P6 ?_;show B7 _ _ (dl (.sh (scr ns)) .un .un .un .un .un .un .un .un .un .un .un)=_;refine (B2 (δ':=dl (.sh (scr ns)) (.sh (bkD L)) .un .un .un .un .un .un .un .un .un .un) (C8 (B8 (A5 rfl (A5 rfl (A5 rfl (A5 (B8 (A5 rfl (A5 rfl rfl)) en) rfl)))) eb))).trans ?_;generalize (.sh (scr ns):Sl)=v0;refine (B2 (δ':=dl v0 (.sh (bkD L)) (.sh (.str (mk T))) .un .un .un .un .un .un .un .un .un) (C8 (B8 (A5 (d:=bkD L) rfl rfl) K.t))).trans ?_;refine (B2 (δ':=dl v0 (.sh (bkD L)) (.sh (.str (mk T))) (.sh (.list (P.map (pD T ts)))) .un .un .un .un .un .un .un .un) (C8 (B8 (A5 (d:=bkD L) rfl rfl) ep))).trans ?_
 refine (B2 (δ':=dl v0 (.sh (bkD L)) (.sh (.str (mk T))) (.sh (.list (P.map (pD T ts)))) .un .un .un .un .un .un .un .un) ?_).trans ?_
 . have c1:=Yx (δc:=[]) (tt:=L6) (el:=A0 0) (pD1 T) (V8 ts) (pD1 T) (fun _=>true) P (fun _ _=>rfl) fun p _=>rfl
   rw [o0.mpr fun _ _=>rfl] at c1;have c2:=Yx (δc:=[]) (tt:=B4 (b2 (A0 0) (vC (.str "")) dEq)) (el:=A0 0) (pD1 T) (V8 ts) (pD1 T) (fun _=>false) P (fun p hp=>B9 (B1 (x:=pD1 T p) (y:=.str "") rfl rfl (by
     rw [Gw,Hq]; intro z; have h:=Q.ch.le.2 p hp; have hs:=congrArg Str.length z; rw [V4,Ee T h.2.2] at hs; have:("" : Str).length=0:=rfl;lia))) fun p _=>rfl
   rw [AU.mpr fun _ _=>by decide] at c2;have hj:=Ul (P.map fun p=>sl T p.1 p.2) (by rw [Q.ch.join T,aA]; exact K.ch) (by rw [Q.ch.join T,aA]; lia);rw [Q.ch.join T,aA,zV] at hj; have hj:Ge "" (.list (P.map (pD1 T)))=some (.str (mk T)):=hj; unfold Ml; refine (Q2 (vS (B9 (B1 (x:=.str (mk T)) (y:=.str (mk T)) ?_ rfl ((Rf.str (n:=0) _).ne (by decide)))) (B9 (B1 (x:=.list []) (y:=.list []) (M3 (D7 (δc:=[]) (D3 (d:=.list (P.map (pD T ts))) (ds:=P.map (pD T ts)) rfl rfl) (by rw [wL]; lia) rfl c2)) rfl rfl)))).trans rfl;unfold Cl; rw [M3 (D7 (δc:=[]) (D3 (d:=.list (P.map (pD T ts))) (ds:=P.map (pD T ts)) rfl rfl) (by rw [wL]; lia) rfl c1),C2,hj]; rfl
 refine (B2 (δ':=dl v0 (.sh (bkD L)) (.sh (.str (mk T))) (.sh (.list (P.map (pD T ts)))) (.sh (.int ((0:Nat):Int))) .un .un .un .un .un .un .un) rfl).trans ?_;refine (B2 (δ':=dl v0 (.sh (bkD L)) (.sh (.str (mk T))) (.sh (.list (P.map (pD T ts)))) (.sh (.int ((0:Nat):Int))) (.sh (.str (mk []))) .un .un .un .un .un .un) rfl).trans ?_;obtain ⟨t6,t7,t10,lF,e6⟩:=loop6 (v0:=v0) (v2:=.sh (.str (mk T))) (v3:=.sh (.list (P.map (pD T ts)))) (v8:=.un) (v9:=.un) (v11:=.un) K Q Q.ch (fun _ h=>h) [] .un .un .un (zI _);rw [yB] at lF e6;refine (B2 (δ':=dl v0 (.sh (bkD L)) (.sh (.str (mk T))) (.sh (.list (P.map (pD T ts)))) (.sh (.int (T.length:Int))) (.sh (.str (mk (Z0 T ts P)))) t6 t7 .un .un t10 .un) ?_).trans ?_
 . unfold Mk K5
   rw [D3 (d:=.list (P.map (pD T ts))) (ds:=P.map (pD T ts)) rfl rfl,D2]; exact e6
 refine (B2 (δ':=dl v0 (.sh (bkD L)) (.sh (.str (mk T))) (.sh (.list (P.map (pD T ts)))) (.sh (.int (T.length:Int))) (.sh (.str (mk (Z0 T ts P)))) t6 t7 .un .un t10 .un) ?_).trans ?_
 . have c:=Yx (δc:=[.sh (.str (mk T))]) (tt:=L6) (el:=Vj (A0 2) (T7 (A0 0)) (T7 (A0 1))) (fun r:Nat×Nat=>xL (r.1:Int)) (fun r=>.int (r.2:Int)) (fun r=>yK (mk (sl T r.1 r.2))) (fun _=>true) R (fun _ _=>rfl) fun r hr=>bA K.ch K.tl (r2 r hr).1 (r2 r hr).2 rfl rfl rfl
   rw [o0.mpr fun _ _=>rfl] at c;have hok:Ok (Z0 T ts P):=fun q hq=>by
     obtain ⟨l,hl,hq⟩:=CW.mp hq; obtain ⟨p,_,rfl⟩:=xF.mp hl; exact iQ K.ch _ _ q hq
   have hj:=Ul (R.map fun r=>sl T r.1 r.2) (by rw [r1]; exact hok) (by rw [r1]; lia);rw [r1,zV] at hj; have hj:Ge "" (.list (R.map fun r=>yK (mk (sl T r.1 r.2))))=some (.str (mk (Z0 T ts P))):=hj;unfold Mj; refine (Q2 (B9 (B1 (x:=.str (mk (Z0 T ts P))) (y:=.str (mk (Z0 T ts P))) ?_ rfl ((Rf.str (n:=0) _).ne (by decide))))).trans rfl;unfold Cl; rw [M3 (D7 (δc:=[.sh (.str (mk T))]) (D3 (d:=.list (R.map brD)) (ds:=R.map brD) (B8 (A5 (d:=bkD L) rfl rfl) eR) rfl) (by rw [wL]; lia) rfl c),C2,hj]; rfl
 generalize (.sh (.int (T.length:Int)):Sl)=v4;generalize (.sh (.str (mk (Z0 T ts P))):Sl)=v5;refine (B2 (δ':=dl v0 (.sh (bkD L)) (.sh (.str (mk T))) (.sh (.list (P.map (pD T ts)))) v4 v5 t6 (.sh (.list (ts.map fun t=>.str t.1))) .un .un t10 .un) ?_).trans ?_
 . have c:=P5 (δc:=[]) (tt:=L6) (el:=b2 (A0 0) (vC (.int 0)) dIx) C4 (fun t:Row=>yK t.1) (fun _=>true) ts (fun _ _=>rfl) fun t _=>B1 (x:=C4 t) (y:=.int 0) rfl rfl (Qq t)
   rw [o0.mpr fun _ _=>rfl] at c;unfold Mi De; rw [D7 (δc:=[]) (D3 (d:=.list (ts.map C4)) (ds:=ts.map C4) (B8 (A5 (d:=bkD L) rfl rfl) K.m) rfl) (by rw [wL]; lia) rfl c]; rfl
 refine (B2 (δ':=dt L T ts P v0 (.sh (.str (mk T))) v4 v5 t6 .un t10 .un) (C8 (B8 (A5 (d:=bkD L) rfl rfl) (Yu K)))).trans ?_;obtain ⟨t9,t11,e10⟩:=uP (v0:=v0) (v2:=.sh (.str (mk T))) (v4:=v4) (v5:=v5) (v6:=t6) (v10:=t10) K Q hP ts (fun _ h=>h) .un .un;refine (B2 (δ':=dt L T ts P v0 (.sh (.str (mk T))) v4 v5 t6 t9 t10 t11) ?_).trans ?_
 . unfold Iz K5
   rw [D3 (d:=.list (ts.map fun t=>.str t.1)) (ds:=ts.map fun t=>.str t.1) rfl rfl,D2];exact e10
 have c0:(B4 (b2 (A0 7) (F5 A6) dEq)) (dt L T ts P v0 (.sh (.str (mk T))) v4 v5 t6 t9 t10 t11)=.ok ts.isEmpty:=B9 (B1 (x:=.list (ts.map fun t=>.str t.1)) (y:=.list []) rfl rfl (by rw [qO]; cases ts <;> rfl))
 obtain ⟨w1,w2⟩:=dU K;by_cases hz:ts=[]
 . have hw:=w1 hz
   rw [hz] at c0; refine Bm ?_; unfold Iy; rw [hz]; exact (W7 c0).trans (I0 (b1_ok (B8 (A5 (d:=bkD L) rfl rfl) hw) rfl))
 . obtain ⟨t,ht,hw,hm⟩:=w2 hz
   have c0':ts.isEmpty=false:=by cases ts with
     | nil=>exact absurd rfl hz
     | cons _ _=>rfl
   rw [c0'] at c0; refine (K4 c0).trans ?_; have c:=P5 (δc:=[.sh (bkD L)]) (tt:=L6) (el:=vFn (A1 (B5 (A1 (A0 1) (A1 (A0 0) A6)) Q5) A6) Q8) (fun u:Row=>yK u.1) (fun u=>xL (((u.2.2 - u.2.1:Nat):Nat):Int)) (fun _=>true) ts (fun _ _=>rfl) fun u hu=>O0 (A5 (B8 (A5 (d:=bkD L) rfl (A5 (d:=.str u.1) rfl rfl)) (Jp K hu)) rfl) (by rw [Xx,V4,Ee T (K.ok u hu).2]);rw [o0.mpr fun _ _=>rfl] at c;unfold Ix; have hmx:Sv [.list ((ts.map fun u=>((u.2.2 - u.2.1:Nat):Int)).map .int)]=some (.int ((t.2.2 - t.2.1:Nat):Int)):=by
     show ((Gs ((ts.map fun u=>((u.2.2 - u.2.1:Nat):Int)).map .int)).bind pK).map xL=_;rw [On]; obtain ⟨t0,r,rfl⟩:=GV hz; obtain ⟨f1,f2,f3⟩:=fmax (r.map fun u=>((u.2.2 - u.2.1:Nat):Int)) ((t0.2.2 - t0.2.1:Nat):Int);show some (xL ((r.map fun u=>((u.2.2 - u.2.1:Nat):Int)).foldl ID ((t0.2.2 - t0.2.1:Nat):Int)))=_;have:(r.map fun u=>((u.2.2 - u.2.1:Nat):Int)).foldl ID ((t0.2.2 - t0.2.1:Nat):Int)=((t.2.2 - t.2.1:Nat):Int):=by
       generalize (r.map fun u=>((u.2.2 - u.2.1:Nat):Int)).foldl ID ((t0.2.2 - t0.2.1:Nat):Int)=M at f1 f2 f3;have g1:((t.2.2 - t.2.1:Nat):Int)<=M:=by
         rcases wK.mp ht with e | e
         . rw [e]; exact f1
         . exact f2 _ (xF.mpr ⟨t,e,rfl⟩)
       have g2:M<=((t.2.2 - t.2.1:Nat):Int):=by
         rcases f3 with e | e
         . have:=hm t0 (.head _); rw [e]; exact Int.ofNat_le.mpr this
         . obtain ⟨u,hu,e⟩:=xF.mp e
           have:=hm u (.tail _ hu); rw [<- e]; exact Int.ofNat_le.mpr this
       exact Int.le_antisymm g2 g1
     rw [this]
   refine I0 (B1 (x:=.int ((t.2.2 - t.2.1:Nat):Int)) (y:=.int ((t.2.2 - t.2.1:Nat):Int)) (O0 (A5 (M3 (D7 (δc:=[.sh (bkD L)]) (D3 (d:=.list (ts.map fun t=>.str t.1)) (ds:=ts.map fun t=>.str t.1) rfl rfl) (by rw [wL]; lia) rfl c)) rfl) ?_) (O0 (A5 (B8 (A5 (d:=bkD L) rfl (A5 (B8 (A5 (d:=bkD L) rfl rfl) hw) rfl)) (Jp K ht)) rfl) (by rw [Xx,V4,Ee T (K.ok t ht).2])) (by rw [aZ,beq_self_eq_true]));rw [<- hmx,zV]; rfl
end Sm
end
namespace Sm
open PySem PySem.Spec PyProof.Rows L2
noncomputable def F1 (P:EG) (x:Str) (t:Nat) (v:wI):yU:=⟨PyData.keyHash P x,.str x t,v⟩
noncomputable def oR (i:Nat):Str:=match top i with | .FunctionDef n _ _ _ _ _ _ _ _ _=>n | _ => ""
noncomputable def O9 (i:Nat) (m:wI) (c:Nat):Obj:=⟨.type "function",none,.func (yT (oR i) (oR i) (K0 (top i)) (B3 (top i)) (A3 (top i)) .none .none .none m none (.ref c) .none),#[]⟩
noncomputable def P0 (i t:Nat) (l a:Int) (r:Nat) (u v w:wI) (n:Nat):Obj:=⟨.type "code",none,.fields #[.str (oR i) t,.str (oR i) (t+1),.str "/claim/cut.py" (t+2),.int l 0,.int a 0,.int 0 0,.int 0 0,.int 3 0,.ref r,.bool true,.int 181 0,.ref (r+1),.none,u,v,w,.int n 0,.int l 0,.str "/claim/cut.py" (n+1)],#[]⟩
noncomputable def owM0 (P:EG):List yU:=[F1 P "__name__" 165 (.str "law_staymark_k31_whole_pieces" 447),F1 P "__doc__" 166 .none,F1 P "__package__" 167 .none,F1 P "__loader__" 168 (.builtin "__main__.__loader__#opaque"),F1 P "__spec__" 169 .none,F1 P "__annotations__" 170 (.ref 6),F1 P "__builtins__" 171 (.ref 4),F1 P "__file__" 173 (.str "/claim/cut.py" 172),F1 P "__cached__" 174 .none,F1 P "SIDES" 190 (.str "lr" 189),F1 P "signs_added" 197 (.ref 21)]
noncomputable def owM1 (P:EG):List yU:=[F1 P "MarkError" 217 (.ref 31),F1 P "NoPlace" 233 (.ref 44),F1 P "NoName" 249 (.ref 56),F1 P "adds_behind" 260 (.ref 65),F1 P "signs_of" 266 (.ref 70),F1 P "undone_in" 275 (.ref 77),F1 P "dropped_in" 286 (.ref 84),F1 P "presence_in" 297 (.ref 91),F1 P "shown_in" 303 (.ref 96),F1 P "text_of" 309 (.ref 101),F1 P "places_in" 322 (.ref 108)]
noncomputable def owM2 (P:EG):List yU:=[F1 P "anchored" 330 (.ref 115),F1 P "mark_deeds" 336 (.ref 120),F1 P "marks_of" 347 (.ref 127),F1 P "mark_named" 356 (.ref 134),F1 P "marked" 365 (.ref 141),F1 P "names_holding" 371 (.ref 146),F1 P "names_at" 379 (.ref 153),F1 P "cuts_of" 387 (.ref 158),F1 P "pieces" 401 (.ref 165),F1 P "bare" 412 (.ref 172),F1 P "holds" 420 (.ref 179)]
noncomputable def owM3 (P:EG):List yU:=[F1 P "cross" 428 (.ref 186),F1 P "crossing" 434 (.ref 191),F1 P "inner_of" 440 (.ref 196),F1 P "widest" 446 (.ref 201),F1 P "_law_cell" 456 (.ref 208),F1 P "_law_drawn" 466 (.ref 215),F1 P "_law_names" 477 (.ref 222),F1 P "_law_words" 483 (.ref 227),F1 P "_law_signs" 489 (.ref 232),F1 P "_law_anchor" 499 (.ref 239),F1 P "_law_deed" 505 (.ref 244)]
noncomputable def owM4 (P:EG):List yU:=[F1 P "_law_book" 511 (.ref 249),F1 P "_law_lie_right" 517 (.ref 254),F1 P "law" 523 (.ref 259)]
noncomputable def ownK (P:EG):wM :=
 (nat_lit 3,⟨.type "dict",none,.dict (owM0 P++owM1 P++owM2 P++owM3 P++owM4 P).toArray 47,#[]⟩) ::
 (nat_lit 20,P0 2 191 3 1 15 (.ref 17) (.ref 18) (.ref 19) 195) ::
 (nat_lit 21,O9 2 (.str "staymark.deeds" 187) 20) ::
 (nat_lit 30,⟨.type "dict",none,.dict #[F1 P "__module__" 207 (.str "staymark.errors" 198),F1 P "__firstlineno__" 211 (.int 6 210),F1 P "__static_attributes__" 212 (.ref 29),F1 P "__weakref__" 214 (.ref 32),F1 P "__doc__" 215 .none] 3,#[]⟩) ::
 (nat_lit 31,⟨.type "type",none,.cls { name := "MarkError",qualname := "MarkError",bases:=[.type "ValueError"],mro:=[.ref 31,.type "ValueError",.type "Exception",.type "BaseException",.type "object"],ns:=30,hasDict:=true,subclasses:=[.ref 44,.ref 56],abstract:=false,hasDel:=false },#[some (.ref 22),none,some (.str "MarkError" 200),some (.str "MarkError" 208),some (.builtin "ValueError.__new__"),some (.bool true)]⟩) ::
 (nat_lit 43,⟨.type "dict",none,.dict #[F1 P "__module__" 225 (.str "staymark.errors" 198),F1 P "__firstlineno__" 229 (.int 8 228),F1 P "__static_attributes__" 230 (.ref 42),F1 P "__doc__" 231 .none] 2,#[]⟩) ::
 (nat_lit 44,⟨.type "type",none,.cls { name := "NoPlace",qualname := "NoPlace",bases:=[.ref 31],mro:=[.ref 44,.ref 31,.type "ValueError",.type "Exception",.type "BaseException",.type "object"],ns:=43,hasDict:=true,subclasses:=[],abstract:=false,hasDel:=false },#[some (.ref 35),none,some (.str "NoPlace" 218),some (.str "NoPlace" 226),some (.builtin "ValueError.__new__"),some (.bool true)]⟩) ::
 (nat_lit 55,⟨.type "dict",none,.dict #[F1 P "__module__" 241 (.str "staymark.errors" 198),F1 P "__firstlineno__" 245 (.int 10 244),F1 P "__static_attributes__" 246 (.ref 54),F1 P "__doc__" 247 .none] 2,#[]⟩) ::
 (nat_lit 56,⟨.type "type",none,.cls { name := "NoName",qualname := "NoName",bases:=[.ref 31],mro:=[.ref 56,.ref 31,.type "ValueError",.type "Exception",.type "BaseException",.type "object"],ns:=55,hasDict:=true,subclasses:=[],abstract:=false,hasDel:=false },#[some (.ref 47),none,some (.str "NoName" 234),some (.str "NoName" 242),some (.builtin "ValueError.__new__"),some (.bool true)]⟩) ::
 (nat_lit 64,P0 8 252 13 1 59 (.ref 61) (.ref 62) (.ref 63) 258) ::
 (nat_lit 65,O9 8 (.str "staymark.orders" 250) 64) ::
 (nat_lit 69,P0 9 261 19 1 66 .none .none (.ref 68) 264) ::
 (nat_lit 70,O9 9 (.str "staymark.orders" 250) 69) ::
 (nat_lit 76,P0 10 267 33 1 71 (.ref 73) (.ref 74) (.ref 75) 273) ::
 (nat_lit 77,O9 10 (.str "staymark.orders" 250) 76) ::
 (nat_lit 83,P0 11 276 39 2 78 (.ref 80) (.ref 81) (.ref 82) 284) ::
 (nat_lit 84,O9 11 (.str "staymark.orders" 250) 83) ::
 (nat_lit 90,P0 12 287 46 1 85 (.ref 87) (.ref 88) (.ref 89) 295) ::
 (nat_lit 91,O9 12 (.str "staymark.orders" 250) 90) ::
 (nat_lit 95,P0 13 298 53 1 92 .none .none (.ref 94) 301) ::
 (nat_lit 96,O9 13 (.str "staymark.orders" 250) 95) ::
 (nat_lit 100,P0 14 304 55 1 97 .none .none (.ref 99) 307) ::
 (nat_lit 101,O9 14 (.str "staymark.orders" 250) 100) ::
 (nat_lit 107,P0 16 312 58 1 102 (.ref 104) (.ref 105) (.ref 106) 320) ::
 (nat_lit 108,O9 16 (.str "staymark.marks" 310) 107) ::
 (nat_lit 114,P0 17 323 68 2 109 (.ref 111) (.ref 112) (.ref 113) 328) ::
 (nat_lit 115,O9 17 (.str "staymark.marks" 310) 114) ::
 (nat_lit 119,P0 18 331 70 1 116 .none .none (.ref 118) 334) ::
 (nat_lit 120,O9 18 (.str "staymark.marks" 310) 119) ::
 (nat_lit 126,P0 19 337 77 1 121 (.ref 123) (.ref 124) (.ref 125) 345) ::
 (nat_lit 127,O9 19 (.str "staymark.marks" 310) 126) ::
 (nat_lit 133,P0 20 348 84 2 128 (.ref 130) (.ref 131) (.ref 132) 354) ::
 (nat_lit 134,O9 20 (.str "staymark.marks" 310) 133) ::
 (nat_lit 140,P0 21 357 89 2 135 (.ref 137) (.ref 138) (.ref 139) 363) ::
 (nat_lit 141,O9 21 (.str "staymark.marks" 310) 140) ::
 (nat_lit 145,P0 22 366 92 3 142 .none .none (.ref 144) 369) ::
 (nat_lit 146,O9 22 (.str "staymark.marks" 310) 145) ::
 (nat_lit 152,P0 23 372 94 2 147 (.ref 149) (.ref 150) (.ref 151) 377) ::
 (nat_lit 153,O9 23 (.str "staymark.marks" 310) 152) ::
 (nat_lit 157,P0 25 382 99 2 154 .none .none (.ref 156) 385) ::
 (nat_lit 158,O9 25 (.str "staymark.stretches" 380) 157) ::
 (nat_lit 164,P0 26 388 103 1 159 (.ref 161) (.ref 162) (.ref 163) 399) ::
 (nat_lit 165,O9 26 (.str "staymark.stretches" 380) 164) ::
 (nat_lit 171,P0 27 402 113 1 166 (.ref 168) (.ref 169) (.ref 170) 410) ::
 (nat_lit 172,O9 27 (.str "staymark.stretches" 380) 171) ::
 (nat_lit 178,P0 28 413 124 2 173 (.ref 175) (.ref 176) (.ref 177) 418) ::
 (nat_lit 179,O9 28 (.str "staymark.stretches" 380) 178) ::
 (nat_lit 185,P0 29 421 126 2 180 (.ref 182) (.ref 183) (.ref 184) 426) ::
 (nat_lit 186,O9 29 (.str "staymark.stretches" 380) 185) ::
 (nat_lit 190,P0 30 429 130 1 187 .none .none (.ref 189) 432) ::
 (nat_lit 191,O9 30 (.str "staymark.stretches" 380) 190) ::
 (nat_lit 195,P0 31 435 136 2 192 .none .none (.ref 194) 438) ::
 (nat_lit 196,O9 31 (.str "staymark.stretches" 380) 195) ::
 (nat_lit 200,P0 32 441 140 1 197 .none .none (.ref 199) 444) ::
 (nat_lit 201,O9 32 (.str "staymark.stretches" 380) 200) ::
 (nat_lit 207,P0 34 449 147 2 202 (.ref 204) (.ref 205) (.ref 206) 454) ::
 (nat_lit 208,O9 34 (.str "law_staymark_k31_whole_pieces" 447) 207) ::
 (nat_lit 214,P0 35 457 151 3 209 (.ref 211) (.ref 212) (.ref 213) 464) ::
 (nat_lit 215,O9 35 (.str "law_staymark_k31_whole_pieces" 447) 214) ::
 (nat_lit 221,P0 36 467 155 2 216 (.ref 218) (.ref 219) (.ref 220) 475) ::
 (nat_lit 222,O9 36 (.str "law_staymark_k31_whole_pieces" 447) 221) ::
 (nat_lit 226,P0 37 478 161 2 223 .none .none (.ref 225) 481) ::
 (nat_lit 227,O9 37 (.str "law_staymark_k31_whole_pieces" 447) 226) ::
 (nat_lit 231,P0 38 484 163 1 228 .none .none (.ref 230) 487) ::
 (nat_lit 232,O9 38 (.str "law_staymark_k31_whole_pieces" 447) 231) ::
 (nat_lit 238,P0 39 490 169 3 233 (.ref 235) (.ref 236) (.ref 237) 497) ::
 (nat_lit 239,O9 39 (.str "law_staymark_k31_whole_pieces" 447) 238) ::
 (nat_lit 243,P0 40 500 172 5 240 .none .none (.ref 242) 503) ::
 (nat_lit 244,O9 40 (.str "law_staymark_k31_whole_pieces" 447) 243) ::
 (nat_lit 248,P0 41 506 187 4 245 .none .none (.ref 247) 509) ::
 (nat_lit 249,O9 41 (.str "law_staymark_k31_whole_pieces" 447) 248) ::
 (nat_lit 253,P0 42 512 199 6 250 .none .none (.ref 252) 515) ::
 (nat_lit 254,O9 42 (.str "law_staymark_k31_whole_pieces" 447) 253) ::
 (nat_lit 258,P0 43 518 209 1 255 .none .none (.ref 257) 521) ::
 (nat_lit 259,O9 43 (.str "law_staymark_k31_whole_pieces" 447) 258)::[]
end Sm
set_option maxRecDepth 100000 in
set_option maxHeartbeats 0 in
theorem PySem.Challenge.cw_staymark_k31_whole_pieces_holds : PySem.Challenge.rw_staymark_k31_whole_pieces.Holds := by
 w_on; o_law; o_head (PySem.W.kHook Sm.ownK [3,20,21,30,31,43,44,55,56,64,65,69,70,76,77,83,84,90,91,95,96,100,101,107,108,114,115,119,120,126,127,133,134,140,141,145,146,152,153,157,158,164,165,171,172,178,179,185,186,190,191,195,196,200,201,207,208,214,215,221,222,226,227,231,232,238,239,243,244,248,249,253,254,258,259] (fun _=>by kernel_rfl)); (case hw=>w_witness2)
 k_fill
 refine Sm.walkD (l:=PySem.Challenge.rw_staymark_k31_whole_pieces) rfl rfl rfl (fun w h Y=>PySem.W.kIn_of Y) (fun w=>?hK) ?F Sm.jL
 case hK=>kernel_rfl
 case F =>
   intro w mg h KX G; refine' ⟨⟨?b0,?b1,?b2,?b3,?b4,?b5,?b6,?b7,?b8,?b9,?c0⟩,⟨?d33,?d0,?d1,?d2,?d3,?d4,?d5,?d6,?d7,?d8,?d9,?d10,?d11,?d12,?d13,?d14,?d15,?d16,?d17,?d18,?d19,?d20,?d21,?d22,?d23,?d24,?d25,?d26,?d27,?d28,?d29,?d30,?d31,?d32⟩⟩
   case b0 | b1 | b2 | b3 | b4 | b5 | b6 | b7 | b8 | b9=>exact PySem.W.mg_none_of KX G (by k_is)
   case c0=>exact ⟨_,(PySem.W.mg_of KX G (by k_is)).trans rfl⟩
   case d0 | d1 | d2 | d3 | d5 | d6 | d7 | d8 | d10 | d11 | d17 | d18 | d21 | d23 | d28 | d33=>exact Sm.qF KX G (by k_is) (by k_is) (by k_is) (by k_is) (fun _ _ _ _ _ _ _=>rfl) rfl
   case d4 | d9 | d12 | d13 | d15 | d16 | d19 | d20 | d22 | d24 | d26 | d27=>exact Sm.qE KX G (by k_is) (by k_is) (by k_is) (by k_is) (fun _ _ _ _ _ _ _ _=>rfl) rfl
   case d14 | d25 | d29=>exact Sm.qD KX G (by k_is) (by k_is) (by k_is) (by k_is) (fun _ _ _ _ _ _ _ _ _=>rfl) rfl
   case d30=>exact Sm.qB KX G (by k_is) (by k_is) (by k_is) (by k_is) (fun _ _ _ _ _ _ _ _ _ _ _=>rfl) rfl
   case d31=>exact Sm.qC KX G (by k_is) (by k_is) (by k_is) (by k_is) (fun _ _ _ _ _ _ _ _ _ _=>rfl) rfl
   case d32=>exact Sm.qA KX G (by k_is) (by k_is) (by k_is) (by k_is) (fun _ _ _ _ _ _ _ _ _ _ _ _=>rfl) rfl
