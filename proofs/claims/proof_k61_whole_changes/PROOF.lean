import PyProof.Rows.All
import Wide.All
import OpenK.AllK
import Wide.FinOn
import Lean
import PySem.SetOps
import PyProof.SetScanFacts
import PyProof.SetKind
import PyProof.IsRules
import PyProof.EqAt
import PyProof.EqKinds
import PyProof.TupleCall
import PyProof.TupleKey
import PyProof.P3Eq
import Wide.Seal
import PyProof.StrCalls
import PyProof.SeqI3
import PyProof.Draws
import PyProof.EnumMake
import PyProof.DictValues
import PyProof.DictWalks
import PyProof.TupleOfSeq
import PyProof.TupleOfGen
import KE.KDictList
import PyProof.AttrMiss
import PyProof.IsiH_list
import KE.KRevIter
import PyProof.MinMaxWalk
import PyProof.Rows.CallKwBuiltin
import KE.KSortTup
import PyProof.Rows.SortWalk
import PyProof.Rows.SortShell
import PyProof.DictIter
import PyProof.P3In
import PyProof.Rows.SortStr
import PyProof.MeetsStr
import PyProof.FactsAll.str_6
import PyProof.StrCalls2
import PyProof.MeetsStr2
import KE.KIntText
import PyProof.SliceStr2
import PyProof.Rows.Range3
import PyProof.SetRoads
import PyProof.Rows.SetFrom
import PyProof.SetNew
import PyProof.WalksMore
import PyProof.FactsAll.set_2
import PySem.Challenge.RW_staymark_k61_whole_changes
set_option Elab.async false
set_option linter.all false
set_option maxRecDepth 100000
set_option maxHeartbeats 4000000
set_option compiler.extract_closed false
set_option bootstrap.genMatcherCode false
set_option genSizeOf false
local macro_rules | `(⋯) => `(by kernel_rfl)
open PySem renaming PyData→wY,wpAny_bind→wZ,wpAny_pure→xA,Value→xB,Shared→xC,Spec→xH,Addr→xI,starEach→xO,model→xW,Program→yD,World→yR,wpAny_setState_of→yV,wpAny_newObj_type→zC,wpAny_call_entry→zD,wpAny_holding→zE,Around→zI,wpAny_callSpecial?_slot→zK,DictEntry→zL,Heap→zN,wpAny_dictEpoch→zZ,foldedSetIterable→a9,mainGlobals→e8,wpAny_rule→f8,Paired→f9,wpAny_mono→i5,backTo→i6,Builtin→i7,wpAny_loadPart'→k5,wpAny_ite_split→k6,codeAny_builtin→k7,builtinLookup_eq_fast→m8,cLine→m9,sysModules→o0,wpAny_askSetting→o4,compareOp→o5,SetTable→o6,wpAny_dictEntries→p0,swapsWith→q9,relabel→v9,wpAny_specialOf→w8,CmpOp→z6,wpAny_of_eq→AB,wpAny_attempt→AC,attributeBase→AD,typeLookup_type→AH,mem_of_lookup→AI,sizeLine_eq→AJ,codeAny_mono→AK,SetTable→AL,Stmt→AR,wpAny_setEntries_of→AX,wpAny_forIn_list→BA,wpAny_typeNameOfWhole_keyiter→BG,rawInt→BJ,wpAny_passesOwn→BP,wpAny_truthy_bool→BU,fits_of_scanBound→BV,Keyword→BW,isSubtype_type→BY,strKind→CA,wpAny_isInstance→CD,bootBuiltins→CF,plainId_quiet→CO,wpAny_setField_rec→CV,wpAny_Call_Name_kw→CW,wpAny_field→DC,scanBound→DD,keywordEach→DG,wpAny_typeOf→DP,wpAny_storeSet_of→DQ,wpAny_fieldsOf→DR,firstArgMember→DU,FuncData→DZ,wpAny_notOrdered_dict→EF,codeAny→EJ,sliceBounds→EL,getItem→FA,wpAny_setField→FK,assignEach→FL,NameKind→FN,wpAny_sequenceKey→FR,wpAny_pyIter_slot→FS,bindArgs→GG,binaryOp→GH,backToKw→GI,setRoomFor→GO,call_meetsIn→GP,builtinsNs→GQ,IsPart→GR,wpAny_execs_nil→GV,letOwnedTupleGo→GW,codeAny_of_tree→GY,wpAny_isOneOf_keyiter→HE,entryFor_alias→HP,entryFor→HQ,codeAny_call_builtin→HR,assign→HS,Params→HU,typeLookup→II,setsByText→IK,call_meets→IN,wpAny_pyIter_list→IY,wpAny_Call_method→IZ,slot_list_getitem→JA,slotArgs→JB,setField→JC,relayAll→JD,intKind→JE,callerA→JF,pyIter→JO,noFill_tuple_add→JP,entryFor_of_tree→JR,beq_builtin_none→JS,argsOk→JT,unsupported→JZ,subscripted→KA,setNext→KR,dictGet→KS,wpAny_seqItems→LB,wpAny_runValue→LC,wpAny_load→LD,isSubtype_stop→LH,carriedByValue→LI,ReadsAll→LK,GenState→LU
open List renaming mem_cons→xD,length_map→xG,map_cons→xJ,mem_append→xK,mem_singleton→xM,length_append→xN,length_cons→xP,size_toArray→xU,map_append→yA,replicate→yB,set_cons_zero→yF,set_cons_succ→yG,append_assoc→yI,getElem?_eq_some_iff→yJ,mem_map→yK,append_nil→yL,getElem?_map→yM,nil_append→yO,pairwise_cons→yQ,find?_cons→yS,getElem?_eq_getElem→yU,filter_cons→yX,getElem?_append_left→yZ,mem_map_of_mem→zA,range→zF,length_nil→zG,getElem?_append_right→zH,nodup_cons→zO,mem_filter→zT,cons_append→zW,map_nil→zX,mem_cons_self→a8,length_eq_zero_iff→c9,mem_cons_of_mem→i3,eq_nil_of_length_eq_zero→i4,getElem?_eq_none→i8,any_eq_true→j8,all_eq_true→j9,pairwise_map→l0,nodup_append→l8,mem_range→m3,pairwise_append→n4,mem_of_getElem?→n5,length_take→n6,replicate_succ→o9,drop_eq_getElem_cons→p4,mem_append_right→p6,getElem?_replicate→v5,foldl_cons→v6,filter_eq_self→v7,length→y4,length_filter_le→AA,map_map→AG,pairwise_singleton→AM,length_drop→AN,getElem_mem→AO,getElem?_cons_zero→AQ,filter_eq_nil_iff→AY,filter_append→AZ,dropLast_concat_getLast→BD,length_replicate→BI,flatten_cons→BK,ext_getElem?→BL,reverse_append→BX,sum_append→CH,mem_filterMap→CL,filter_congr→CP,drop_eq_nil_of_le→CQ,sum_cons→DY,getElem?_set_ne→ED,filterMap_cons→EH,zip_cons_cons→EN,perm_ext_iff_of_nodup→EO,nodup_iff_pairwise_ne→EQ,getD_eq_getElem?_getD→ER,drop_zero→ES,foldl_append→FD,any_eq_false→FE,not_mem_nil→FO,sum_nil→FU,pairwise_lt_range→FV,foldl→FW,mem_iff_getElem?→GC,length_singleton→GD,mem_of_mem_drop→GL,mem_append_left→GM,length_dropLast→GN,length_reverse→HA,filter_filter→HM,take_sublist→HX,any_map→HY,nodup_range→IG,ext_getElem→IH,range_succ→IS,of_mem_zip→IT,length_set→IU,forIn_cons→IV,length_eraseIdx_of_lt→JL,drop_left→JM,pairwise_iff_getElem→JY,length_erase_of_mem→KG,any_cons→KH,getElem?_cons_succ→KM,filter_cons_of_pos→KN,toArray→KU,take_of_length_le→KW,length_pos_of_mem→KY,getElem?_set_self→KZ,singleton_append→LP,dropLast_eq_take→LQ,reverse_reverse→LZ,mem_of_mem_take→MA,mem_erase_of_ne→MB,getElem?_mapIdx→MC
open PySem.Heap renaming get?_push_of_some→xE,get?_push_size→xQ,lt_size→xV,get?_update_self→c6,SameBut→c8,get?_none_of_le→j6,get?_update_other→CT,size_push→ET,ExtBut→FF,get?_update_ne→HC
open PySem.W renaming Frag→xF,fnOf→zV,keepIn→j4,codeIn→y3,nsIn→EE,methodObj→HF,cellsFrom_some→JV
open Nat renaming le_refl→xL,le_trans→xX,ne_of_lt→yN,lt_of_lt_of_le→yT,zero_le→c7,not_lt→n0,le_succ_of_le→o8,min_le_right→p9,reduceSub→z0,reduceAdd→z4,lt_irrefl→z5,ne_of_gt→BC,le_succ→BS,min_le_left→CK,lt_or_ge→CZ,lt_succ_self→DX,lt_of_le_of_lt→EW,lt_succ_of_lt→FH,mod_lt→FY,not_lt_zero→GB,lt_trans→ID,succ_le_succ→IQ,zero_add→LL,mul_comm→LM,le_of_lt→LN,add_zero→LO
open PySem.PyData renaming eqv→xT,strOk→yP,depth→zQ,depthAll→zS,str→zU,int→k8,tuple→o3,canLayAll0→s0,eqvAll→AF,bool→CG,list→FZ
open Bool renaming false_eq_true→xY,and_eq_true→yE,eq_iff_iff→m7,false_ne_true→p8,not_eq_true'→CU,or_eq_true→EG,or_false→FI,not_true→FJ,and_self→KI
open Array renaming getElem?_eq_getElem→xZ,length_toList→yC,getElem?_eq_none→v8,getElem?_toList→BF,getD→BR,isEmpty_iff_size_eq_zero→DL,all_eq_true'→HK,all_toList→IF,toList→KQ,mem_of_getElem?→LA,getElem_toList→LV
open Option.some renaming inj→zB,injEq→KF
open PySem.Builtin.Str renaming strSliceIndices→zJ,occurrences→CB
open Option renaming map_eq_some_iff→zM,toList_some→g9,toList_none→y9,map_some→EC,bind_eq_some_iff→FG,getD_some→HV,map→LY
open PySem.Value renaming ref→zP,none→k9,type→AT,bool→FP,notImplemented→GJ,isStrOf→JU,int→KB,isStrOf_shape→LW
open PySem.Heap.SameBut renaming update→zY,refl→p7
open PySem.Around renaming under_plainId→e9,under_plain→ME
open List.Perm renaming refl→j0,swap→FQ,cons_inv→KO,nil_eq→LR
open PySem.Builtin.Frozenset renaming updateFrom→j7,isAnySet→l9,copyOf→DK,baseOf→GT,slot1→HD
open PyProof.Rows renaming slot_tuple_getitem→n8,callWith_type1→AS,seqObj→CY,StrsAre→FT,IntsAre→GS,AllBare→GU,IsTup→HB,slot_tuple_getitem→IJ,envOfC→IL,entry_list_sort→KJ,sortedHeap→LF,slot_list_sort→LG,args_list_sort→LJ
open PySem.Str renaming ofString→o7,join→z9
open LawfulBEq renaming eq_of_beq→w5
open PySem.SetTable renaming fresh→w6,grown→BH,below→CJ,fits→EM,roomFor→HL,sizeAbove→KT
open List.cons renaming injEq→z7
open ForInStep renaming yield→z8
open PySem.NameKind renaming free→AU
open PySem.Calls renaming spliced_cons→AV,callWith_builtin→AW,evalArgs_plain→EA,call_function_entry→EX,spliced_nil→EZ,Name_function_global→JJ
open PySem.Obj renaming data_mapFields→BB,mapSeq→CM,mapDictKeys→GA,isFreed_of_fields→GK,isFreed_of_dict→HG,putSet→JX,mapFields→KL
open PySem.Builtin.Slice renaming slicePlaces→BE,sliceAdjust→EB,sliceApplied→HH
open PySem.Builtin.Tuple renaming tupleExact→BM,tupleItemsOf→DJ,tupleCompareSizes→GE,tupleHashOf→HN
open Classical renaming byContradiction→BN
open PySem.Builtin.List renaming listTooLong→BO,listLengthHint→HI,listExtendWith→HJ,listSameRef→HZ
open False renaming elim→BQ
open PySem.F renaming plainAttrs_list→CC,args_tuple_add_2→EV,plainAttrs_dict→FB,entry_tuple_add→FC,slot_tuple_add→FM,type_list_append→JH,slot_list_append→JI,plainAttrs_str→JW,type_dict_get→KC,slot_dict_get→KD
open Int renaming emod_lt_of_pos→CN,toNat_natCast→DB,emod_nonneg→EI,le_refl→IW,le_of_lt→LS
open PySem.PassesOwn renaming never→DH
open PySem.PyData.tuple renaming injEq→DM
open PySem.Code renaming quiet_builtin→EU
open PySem.Shared renaming TypeIs→EY
open PySem.Builtin.Dict_items renaming ownsTuple→FX
open PySem.PyData.str renaming injEq→GZ
open PySem.MeetsSeq2 renaming wpAny_forIn_array→HW
open Sum renaming inr→IA,inl→IB
open PySem.SeqAt.ReadsAll renaming length→IC
open PySem.Builtin.Dict renaming updateFrom→IE,showsAll→IR,missed→JK
open PySem.AutoSeq1 renaming sub_tuple_tuple→IX,idx_int→MD
open PySem.SetTable.probe renaming go→JG
open List.Pairwise renaming nil→JN
open PySem.Heap.ExtBut renaming push→KP
open Prod renaming fst→LX
section
namespace Sm
open PySem PySem.SetTable
theorem Df {xs:Array Nat} (hr:xs.toList.Pairwise (· < ·)) {a b d:Nat} (h:a < b) (hb:b < xs.size):xs.getD a d < xs.getD b d:=by
 have ha:a < xs.size:=by lia
 have:=(JY.mp hr) a b (by simpa using ha) (by simpa using hb) h;simpa [BR,ha,hb] using this
theorem mN (xs:Array Nat) (j:Nat) (hr:xs.toList.Pairwise (· < ·)) :
   ∀ (fuel lo hi:Nat),lo<=hi->hi<=xs.size->hi - lo<=fuel->(∀ i,i < lo->xs.getD i j < j)->(∀ i,hi<=i->i < xs.size->j<=xs.getD i j) ->
     below.go xs j fuel lo hi<=hi/\(∀ i,i < below.go xs j fuel lo hi->xs.getD i j < j)/\(∀ i,below.go xs j fuel lo hi<=i->i < xs.size->j<=xs.getD i j):=by
 intro iN; induction iN with
 | zero =>
   intro lo hi h1 h2 h3 h4 h5; have:lo=hi:=by lia
   subst this; exact ⟨xL _,h4,h5⟩
 | succ fuel ih =>
   intro lo hi h1 h2 h3 h4 h5; unfold below.go;by_cases hl:lo < hi
   . rw [if_pos hl]
     by_cases hm:xs.getD ((lo+hi) / 2) j < j
     . simp only [hm,if_true]
       refine ih _ hi (by lia) h2 (by lia) ?_ h5;intro i hi';by_cases he:i=(lo+hi) / 2
       . subst he; exact hm
       . exact ID (Df hr (by lia) (by lia)) hm
     . simp only [hm,if_false]
       have r:=ih lo ((lo+hi) / 2) (by lia) (by lia) (by lia) h4 (by
         intro i hi' hs;by_cases he:i=(lo+hi) / 2
         . subst he; lia
         . have:=Df hr (d:=j) (show (lo+hi) / 2 < i by lia) hs
           lia)
       exact ⟨by lia,r.2⟩
   . rw [if_neg hl]
     have:lo=hi:=by lia
     subst this; exact ⟨xL _,h4,h5⟩
theorem Ib (xs:Array Nat) (j:Nat) (hr:xs.toList.Pairwise (· < ·)) :
   below xs j<=xs.size/\(∀ i,i < below xs j->xs.getD i j < j)/\(∀ i,below xs j<=i->i < xs.size->j<=xs.getD i j) :=
 mN xs j hr xs.size 0 xs.size (c7 _) (xL _) (by lia) (fun _ h=>absurd h (GB _)) (fun _ h h'=>absurd h' (by lia))
theorem mO {xs:Array Nat} (hr:xs.toList.Pairwise (· < ·)) {i j:Nat} (h:xs[i]? = some j):below xs j=i:=by
 obtain ⟨h1,h2,h3⟩:=Ib xs j hr;have hi:i < xs.size:=by
   rcases CZ i xs.size with h' | h'
   . exact h'
   . rw [v8 h'] at h; exact nomatch h
 have e:xs.getD i j=j:=by simp only [BR,hi,dif_pos]; rw [xZ hi] at h; simpa using h
 rcases Nat.lt_trichotomy (below xs j) i with hl | hl | hl
 . have a:=h3 _ (xL _) (by lia)
   have b:=Df hr (d:=j) hl hi;lia
 . exact hl
 . have:=h2 i hl; lia
theorem dH (j:Nat):has #[] j=false:=rfl
theorem eS {t:o6} (hr:t.place.toList.Pairwise (· < ·)) {i j:Nat} (h:t.place[i]? = some j):t.slot j=.live i:=by
 unfold slot;simp only [mO hr h,h,beq_self_eq_true,if_true]
def adv (mask:Nat) (p:Probe):Probe :=
 if p.more>0 then { p with j:=p.j+1,more:=p.more - 1 } else
 { p with j:=(leap mask p.i p.perturb).1,more:=runEnd mask (leap mask p.i p.perturb).1 - (leap mask p.i p.perturb).1,i:=(leap mask p.i p.perturb).1,perturb:=(leap mask p.i p.perturb).2 }
def stW (mask:Nat) (h:Int):Nat->Probe
 | 0=>{ j:=bits h % (mask+1),more:=runEnd mask (bits h % (mask+1)) - bits h % (mask+1),i:=bits h % (mask+1),perturb:=bits h,dummy:=none }
 | n+1=>adv mask (stW mask h n)
theorem Kg {mask i:Nat} (h:i<=mask):runEnd mask i<=mask:=by unfold runEnd; split <;> lia
theorem Ko (mask i:Nat):i<=runEnd mask i:=by unfold runEnd; split <;> lia
theorem bT (mask:Nat) (h:Int):∀ n,(stW mask h n).dummy=none/\(stW mask h n).j+(stW mask h n).more<=mask
 | 0 => ⟨rfl, by
     have:bits h % (mask+1) < mask+1:=FY _ (by lia);have a:=Kg (mask:=mask) (i:=bits h % (mask+1)) (by lia);have b:=Ko mask (bits h % (mask+1)); simp only [stW]; lia⟩
 | n+1=>by
   obtain ⟨h1,h2⟩:=bT mask h n; simp only [stW,adv];split
   . exact ⟨h1,by simp only; lia⟩
   . refine ⟨h1,?_⟩
     have:(leap mask (stW mask h n).i (stW mask h n).perturb).1 < mask+1:=FY _ (by lia);have a:=Kg (mask:=mask) (i:=(leap mask (stW mask h n).i (stW mask h n).perturb).1) (by lia);have b:=Ko mask (leap mask (stW mask h n).i (stW mask h n).perturb).1; simp only; lia
def F8 (mask:Nat) (h:Int):Nat->Nat×Nat
 | 0=>(bits h % (mask+1),bits h)
 | k+1=>leap mask (F8 mask h k).1 (F8 mask h k).2
theorem bS (mask:Nat) (h:Int) (n i pt:Nat) (hn:stW mask h n={ j:=i,more:=runEnd mask i - i,i:=i,perturb:=pt,dummy:=none }) :
   ∀ m,m<=runEnd mask i - i->stW mask h (n+m)={ j:=i+m,more:=runEnd mask i - i - m,i:=i,perturb:=pt,dummy:=none }
 | 0,_=>by simpa using hn
 | m+1,hm=>by
   have r:=bS mask h n i pt hn m (by lia);show adv mask (stW mask h (n+m))=_;rw [r]; unfold adv; rw [if_pos (show runEnd mask i - i - m>0 by lia)];simp only [Probe.mk.injEq,and_true,true_and];lia
def fC (mask i:Nat):Nat:=(i*5+1) % (mask+1)
def itC (mask:Nat):Nat->Nat->Nat
 | 0,a=>a
 | n+1,a=>itC mask n (fC mask a)
theorem Mp (mask:Nat):∀ m n a,itC mask (m+n) a=itC mask n (itC mask m a):=by
 intro iN; induction iN with
 | zero=>intro n a; simp [itC]
 | succ m ih =>
   intro n a; have:m+1+n=(m+n)+1:=by lia
   rw [this]; simp only [itC]; exact ih n _
theorem lG (mask n a:Nat):itC mask (n+1) a=fC mask (itC mask n a):=by rw [Mp]; rfl
def bL (mask:Nat):Nat->Nat->List Nat
 | 0,_=>[]
 | n+1,a=>a::bL mask n (fC mask a)
theorem Rn (mask:Nat):∀ n a e,e∈bL mask n a->∃ m,m < n/\itC mask m a=e:=by
 intro iN; induction iN with
 | zero=>intro a e h; exact nomatch h
 | succ n ih =>
   intro a e h; simp only [bL,xD] at h; rcases h with h | h
   . exact ⟨0,by lia,h.symm⟩
   . obtain ⟨m,h1,h2⟩:=ih _ e h
     exact ⟨m+1,by lia,h2⟩
def Lm (mask:Nat):Bool:=((zF (mask+1)).all fun e=>(bL mask (mask+1) 0).contains e)&&itC mask (mask+1) 0==0
theorem full7:Lm 7=true:=by decide +kernel
theorem rG (h:Int):bits h < 2 ^ 64:=by
 unfold bits;have:=CN h (b:=(2 ^ 64:Int)) (by decide);have:=EI h (b:=(2 ^ 64:Int)) (by decide);lia
theorem pP (mask:Nat) (h:Int):∀ k,(F8 mask h k).2=bits h / 32 ^ k:=by
 intro iN; induction iN with
 | zero=>skip; simp [F8]
 | succ k ih =>
   skip
   simp only [F8,leap,ih]; rw [Nat.div_div_eq_div_mul,Nat.pow_succ]
theorem lA (mask:Nat) (h:Int) (m:Nat):(F8 mask h (13+m)).2=0:=by
 rw [pP];apply Nat.div_eq_of_lt;have a:=rG h;have b:32 ^ 13<=32 ^ (13+m):=Nat.pow_le_pow_right (by decide) (by lia);have c:(2 ^ 64:Nat) < 32 ^ 13:=by decide
 lia
theorem pQ (mask:Nat) (h:Int):∀ m,(F8 mask h (13+m)).1=itC mask m (F8 mask h 13).1:=by
 intro iN; induction iN with
 | zero=>skip; exact rfl
 | succ m ih =>
   skip
   rw [lG,<- ih]; show (leap mask (F8 mask h (13+m)).1 (F8 mask h (13+m)).2).1=_;rw [lA]; simp [leap,fC]
theorem dE (mask:Nat) (h:Int):∀ k,(F8 mask h k).1<=mask:=by
 intro iN; induction iN with
 | zero=>skip; exact Nat.le_of_lt_succ (FY _ (by lia))
 | succ k ih=>skip; exact Nat.le_of_lt_succ (FY _ (by lia))
theorem few:∀ (n:Nat) (L:List Nat),(∀ e,e < n->e∈L)->n<=L.length:=by
 intro iN; induction iN with
 | zero=>intro _ _; exact c7 _
 | succ n ih =>
   intro L h; have a:=h n (by lia);have b:=ih (L.erase n) (fun e he=>(MB (by lia)).mpr (h e (by lia)));have c:=KG a; have d:=KY a;lia
theorem room {L:List Nat} {mask:Nat} (h:L.length<=mask):∃ e,e<=mask/\e∉L:=by
 by_cases c:∃ e,e<=mask/\e∉L
 . exact c
 . have:=few (mask+1) L (fun e he=>BN fun hn=>c ⟨e,by lia,hn⟩)
   lia
end Sm
end
section
namespace Sm
open PySem PySem.SetTable
theorem fM {t:o6} {j:Nat} (h:j∈t.place.toList):∃ i:Nat,t.place[i]? = some j:=by
 rw [<- Array.mem_def] at h;obtain ⟨i,hi,e⟩:=Array.getElem_of_mem h;exact ⟨i,by rw [xZ hi,e]⟩
theorem Qv {xs:Array Nat} (hr:xs.toList.Pairwise (· < ·)) {j:Nat} (hj:j∉xs.toList):(insertAt xs (below xs j) j).toList.Pairwise (· < ·):=by
 obtain ⟨h1,h2,h3⟩:=Ib xs j hr;rw [SetTable.toList_insertAt,n4];have ht:∀ a,a∈xs.toList.take (below xs j)->a < j:=by
   intro a ha; obtain ⟨i,hi,e⟩:=List.getElem_of_mem ha; have hi':i < below xs j:=by simp at hi; lia
   have:=h2 i hi'; have hs:i < xs.size:=by lia
   simp only [List.getElem_take,LV] at e;simpa [BR,hs,e] using this
 have hd:∀ a,a∈xs.toList.drop (below xs j)->j < a:=by
   intro a ha; have hm:=GL ha; obtain ⟨i,hi,e⟩:=List.getElem_of_mem ha; simp only [List.getElem_drop,LV] at e; simp at hi;have:=h3 (below xs j+i) (by lia) (by lia);have hs:below xs j+i < xs.size:=by lia
   simp [BR,hs,e] at this;rcases CZ j a with c | c
   . exact c
   . have:j=a:=by lia
     subst this; exact absurd hm hj
 refine ⟨hr.sublist (HX _ _),?_,?_⟩
 . rw [yQ]
   exact ⟨hd,hr.sublist (List.drop_sublist _ _)⟩
 . intro a ha b hb
   rw [xD] at hb; rcases hb with hb | hb
   . subst hb; exact ht a ha
   . exact ID (ht a ha) (hd b hb)
end Sm
end
section
namespace Sm
open PySem PySem.SetTable
structure Own (mask:Nat) (ow:Array (Option Nat)) (L:List Int):Prop where
 siz:ow.size=mask+1
 low:∀ (j i:Nat),ow[j]? = some (some i)->i < L.length
 all:∀ (i:Nat),i < L.length->∃ j:Nat,ow[j]? = some (some i)
 one:∀ (j j' i:Nat),ow[j]? = some (some i)->ow[j']? = some (some i)->j=j'
 pth:∀ (j i:Nat) (h:Int),ow[j]? = some (some i)->L[i]? = some h->∃ n,(stW mask h n).j=j/\∀ m,m < n->∃ i':Nat,ow[(stW mask h m).j]? = some (some i')
theorem Own.hole {mask:Nat} {ow:Array (Option Nat)} {L:List Int} (O:Own mask ow L) (hL:L.length<=mask):∃ e,e<=mask/\ow[e]? = some none:=by
 have hc:∃ f:Nat->Nat,∀ i,i < L.length->ow[f i]? = some (some i) :=
   ⟨fun i=>if h:i < L.length then Classical.choose (O.all i h) else 0,fun i h=>by simp only [h,dif_pos]; exact Classical.choose_spec (O.all i h)⟩
 obtain ⟨f,hf⟩:=hc;obtain ⟨e,h1,h2⟩:=room (L:=(zF L.length).map f) (mask:=mask) (by simpa using hL);refine ⟨e,h1,?_⟩;have hs:e < ow.size:=by rw [O.siz]; lia
 cases he:ow[e] with
 | none=>rw [xZ hs,he]
 | some i =>
   have e1:ow[e]? = some (some i):=by rw [xZ hs,he]
   have hi:=O.low e i e1; have:=O.one _ _ i e1 (hf i hi); exact absurd (yK.mpr ⟨i,m3.mpr hi,this.symm⟩) h2
theorem cN {ow:Array (Option Nat)} {j:Nat} (hj:j < ow.size):(ow.getD j (some 0)).isNone=true↔ow[j]? = some none:=by
 have e:ow.getD j (some 0)=ow[j]:=by simp [BR,hj]
 rw [e,xZ hj];cases ow[j] <;> simp
theorem Xe {ow:Array (Option Nat)} {j:Nat} (hj:j < ow.size) (h:(ow.getD j (some 0)).isNone=false):∃ i:Nat,ow[j]? = some (some i):=by
 have e:ow.getD j (some 0)=ow[j]:=by simp [BR,hj]
 rw [e] at h;rw [xZ hj];cases c:ow[j] with
 | none=>rw [c] at h; simp at h
 | some i=>exact ⟨i,rfl⟩
theorem gF {mask:Nat} {ow:Array (Option Nat)} (hs:ow.size=mask+1) (h:Int) (K:Nat) (hK:ow[(F8 mask h K).1]? = some none) :
   ∀ (fuel k n:Nat),k<=K->K - k < fuel ->
     stW mask h n={ j:=(F8 mask h k).1,more:=runEnd mask (F8 mask h k).1 - (F8 mask h k).1,i:=(F8 mask h k).1,perturb:=(F8 mask h k).2,dummy:=none } ->
     (∀ m,m < n->∃ i':Nat,ow[(stW mask h m).j]? = some (some i')) ->
     ∃ n',layClean.free mask ow fuel (F8 mask h k).1 (F8 mask h k).2=some (stW mask h n').j/\ow[(stW mask h n').j]? = some none /\
       (∀ m,m < n'->∃ i':Nat,ow[(stW mask h m).j]? = some (some i')):=by
 intro iN; induction iN with
 | zero=>intro k n _ h2 _ _; exact absurd h2 (GB _)
 | succ fuel ih =>
   intro k n h1 h2 h3 h4; have hle:=dE mask h k; have a:=Kg hle; have b:=Ko mask (F8 mask h k).1; have run:=bS mask h n _ _ h3; unfold layClean.free;cases hf:(zF (runEnd mask (F8 mask h k).1+1 - (F8 mask h k).1)).find? fun q=>(ow.getD ((F8 mask h k).1+q) (some 0)).isNone with
   | some q =>
     rw [List.find?_range_eq_some] at hf; obtain ⟨f1,f2,f3⟩:=hf; have f2':q < runEnd mask (F8 mask h k).1+1 - (F8 mask h k).1:=by simpa using f2
     have e:=run q (by lia);refine ⟨n+q,by rw [e],?_,?_⟩
     . rw [e]; exact (cN (by simp only; lia)).mp f1
     . intro m hm
       by_cases c:m < n
       . exact h4 m c
       . obtain ⟨r,rfl⟩:∃ r,m=n+r:=⟨m - n,by lia⟩
         rw [run r (by lia)]; have:=f3 r (by lia);exact Xe (by simp only; lia) (by simpa using this)
   | none =>
     rw [List.find?_range_eq_none] at hf; have hk:k≠K:=by
       rintro rfl;have:=hf 0 (by lia);have g:=(cN (ow:=ow) (j:=(F8 mask h k).1) (by lia)).mpr hK;rw [LO,g] at this; simp at this
     have e:=run _ (xL _); refine ih (k+1) (n+(runEnd mask (F8 mask h k).1 - (F8 mask h k).1)+1) (by lia) (by lia) ?_ ?_
     . show adv mask (stW mask h (n+_))=_
       rw [e]; unfold adv; rw [if_neg (by simp)]; rfl
     . intro m hm
       by_cases c:m < n
       . exact h4 m c
       . obtain ⟨r,rfl⟩:∃ r,m=n+r:=⟨m - n,by lia⟩
         rw [run r (by lia)]; have:=hf r (by lia);exact Xe (by simp only; lia) (by simpa using this)
theorem oW {mask:Nat} {ow:Array (Option Nat)} {L:List Int} (O:Own mask ow L) {h:Int} {n:Nat} (he:ow[(stW mask h n).j]? = some none)
   (hl:∀ m,m < n->∃ i':Nat,ow[(stW mask h m).j]? = some (some i')):Own mask (ow.setIfInBounds (stW mask h n).j (some L.length)) (L++[h]):=by
 have hm:=(bT mask h n).2;generalize hj:(stW mask h n).j=j at he hm ⊢;have hs:j < ow.size:=by rw [O.siz]; lia
 have get:∀ k:Nat,(ow.setIfInBounds j (some L.length))[k]? = if j=k then some (some L.length) else ow[k]? := by
   intro k; rw [Array.getElem?_setIfInBounds,if_pos hs]
 have keep:∀ k i:Nat,ow[k]? = some (some i)->(ow.setIfInBounds j (some L.length))[k]? = some (some i):=by
   intro k i hk; rw [get,if_neg]; exact hk;rintro rfl; rw [he] at hk; simp at hk
 refine ⟨by simpa using O.siz,?_,?_,?_,?_⟩
 . intro k i hk
   rw [get] at hk;by_cases c:j=k
   . rw [if_pos c] at hk; simp at hk; simp; lia
   . rw [if_neg c] at hk; have:=O.low k i hk; simp; lia
 . intro i hi
   by_cases c:i < L.length
   . obtain ⟨k,hk⟩:=O.all i c
     exact ⟨k,keep k i hk⟩
   . simp at hi
     have:i=L.length:=by lia
     subst this; exact ⟨j,by rw [get,if_pos rfl]⟩
 . intro k k' i hk hk'
   rw [get] at hk hk';by_cases c:j=k
   . rw [if_pos c] at hk
     by_cases c':j=k'
     . lia
     . rw [if_neg c'] at hk'
       have:=O.low _ _ hk'; simp at hk; lia
   . rw [if_neg c] at hk
     by_cases c':j=k'
     . rw [if_pos c'] at hk'
       have:=O.low _ _ hk; simp at hk'; lia
     . rw [if_neg c'] at hk'
       exact O.one _ _ _ hk hk'
 . intro k i h' hk hh
   rw [get] at hk;by_cases c:j=k
   . rw [if_pos c] at hk
     simp at hk;subst hk; have:h'=h:=by simpa using hh.symm
     subst this; exact ⟨n,by lia,fun m hm=>by obtain ⟨i',hi'⟩:=hl m hm; exact ⟨i',keep _ _ hi'⟩⟩
   . rw [if_neg c] at hk
     have hi:=O.low _ _ hk; rw [yZ hi] at hh; obtain ⟨n',g1,g2⟩:=O.pth k i h' hk hh; exact ⟨n',g1,fun m hm=>by obtain ⟨i',hi'⟩:=g2 m hm; exact ⟨i',keep _ _ hi'⟩⟩
theorem oX (mask:Nat):Own mask (Array.replicate (mask+1) none) []:=by
 have no:∀ j i:Nat,(Array.replicate (mask+1) (none:Option Nat))[j]? ≠ some (some i):=by
   intro j i h; rw [Array.getElem?_replicate] at h;split at h <;> simp at h
 exact ⟨by simp,fun j i h=>absurd h (no j i),fun i h=>absurd h (by simp),fun j j' i h=>absurd h (no j i),fun j i h' h=>absurd h (no j i)⟩
end Sm
end
section
namespace Sm
open PySem PySem.SetTable
def S9 (mask:Nat) (ow:Array (Option Nat)):List (Nat×Nat):=(zF (mask+1)).filterMap fun j=>(ow.getD j none).map (j,·)
theorem Xf {ow:Array (Option Nat)} {j i:Nat}:ow.getD j none=some i↔ow[j]? = some (some i):=by
 by_cases hj:j < ow.size
 . have e:ow.getD j none=ow[j]:=by simp [BR,hj]
   rw [e,xZ hj]; simp
 . have e:ow.getD j none=none:=by simp [BR,hj]
   rw [e,v8 (by lia)]; simp
theorem Jf {mask:Nat} {ow:Array (Option Nat)} (hs:ow.size=mask+1) {j i:Nat}:(j,i)∈S9 mask ow↔ow[j]? = some (some i):=by
 unfold S9;rw [CL];constructor
 . rintro ⟨j',_,h⟩
   rw [zM] at h; obtain ⟨i',h1,h2⟩:=h; cases h2; exact Xf.mp h1
 . intro h
   have hj:j < mask+1:=by
     rcases CZ j (mask+1) with c | c
     . exact c
     . rw [v8 (by lia)] at h; exact nomatch h
   exact ⟨j,m3.mpr hj,by rw [Xf.mpr h]; rfl⟩
theorem Pd (mask:Nat) (ow:Array (Option Nat)):(S9 mask ow).Pairwise (fun a b=>a.1 < b.1):=by
 unfold S9;rw [List.pairwise_filterMap];refine FV.imp ?_;intro a b hab x hx y hy;rw [zM] at hx hy;obtain ⟨_,_,rfl⟩:=hx;obtain ⟨_,_,rfl⟩:=hy;exact hab
theorem fR {mask:Nat} {ow:Array (Option Nat)} {L:List Int} (O:Own mask ow L):((S9 mask ow).map (·.2)).Perm (zF L.length):=by
 refine (EO ?_ IG).mpr ?_
 . rw [List.Nodup,l0]
   have hr:=Pd mask ow; rw [JY] at hr ⊢;intro i j hi hj hij e; have h1:=hr i j hi hj hij; have a:=(Jf O.siz).mp (show ((S9 mask ow)[i].1,(S9 mask ow)[i].2)∈S9 mask ow from AO hi);have b:=(Jf O.siz).mp (show ((S9 mask ow)[j].1,(S9 mask ow)[j].2)∈S9 mask ow from AO hj);rw [e] at a; have:=O.one _ _ _ a b;lia
 . intro i
   rw [yK,m3];constructor
   . rintro ⟨⟨j,i'⟩,h,rfl⟩
     exact O.low _ _ ((Jf O.siz).mp h)
   . intro h
     obtain ⟨j,hj⟩:=O.all i h; exact ⟨(j,i),(Jf O.siz).mpr hj,rfl⟩
theorem Mb {α β:Type} {hs:Array α} {L:List β} {g:β->Nat} (h:∀ x,x∈L->g x < hs.size) (i:Nat) :
   ((L.map g).filterMap (fun k=>hs[k]?))[i]? = (L[i]?).bind fun x=>hs[g x]? := by
 induction L generalizing i with
 | nil=>simp
 | cons x L ih =>
   have hx:=h x (by simp);simp only [xJ,EH,xZ hx];cases i with
   | zero=>simp [xZ hx]
   | succ i=>simpa using ih (fun y hy=>h y (by simp [hy])) i
end Sm
end
section
namespace Sm
open PySem PySem.SetTable
structure Elems (prog:yD) (w:yR) (A:zI) (E:xB->xC->Prop) (a:xI) where
 D:Type
 dec:DecidableEq D
 I:xC->Prop
 R:xB->D->Prop
 hash:D->Int
 heap:∀ {s:xC} {h':zN},I s->c8 a s.heap h'->I { s with heap:=h' }
 toks:∀ {s:xC} (tk:Nat),I s->I { s with toks:=tk }
 ref:∀ {v:xB} {d:D},R v d->∃ b,v=.ref b
 eqB:∀ {s:xC} {y x:xB} {d d':D} {Q:Bool->xC->Prop},I s->R y d->R x d'->Q (@decide (d=d') (dec d d')) s->wpAny (xW prog w) A (eqBool y x) Q E s
 byV:∀ {s:xC} {x:xB} {d:D} {Q:Bool->xC->Prop},I s->R x d->(∀ b,Q b s)->wpAny (xW prog w) A (hashByValue 8 x) Q E s
 seen:∀ {s:xC} {x:xB} {d:D} {ys:List xB} {Q:Bool->xC->Prop},I s->R x d->(∀ y,y∈ys->∃ d',R y d')->Q false s->wpAny (xW prog w) A (searchCouldBeSeen x ys) Q E s
end Sm
end
section
namespace Sm
open PySem PySem.SetTable
theorem Ra {α:Type} (L:List α):(zF L.length).filterMap (fun k=>L[k]?)=L:=by
 apply BL;intro i;have:=Mb (hs:=L.toArray) (L:=zF L.length) (g:=id) (fun x hx=>by simpa using hx) i;simp only [List.map_id,List.getElem?_toArray] at this;rw [this];by_cases c:i < L.length
 . rw [List.getElem?_range c]; rfl
 . rw [i8 (by simpa using c),i8 (by lia)]; rfl
theorem Ug {α:Type} {L:List α} {ord:List Nat} (h:ord.Perm (zF L.length)):(ord.filterMap (fun k=>L[k]?)).Perm L:=by
 have:=h.filterMap (fun k=>L[k]?)
 rwa [Ra] at this
end Sm
end
namespace L2
open PySem PySem.Spec PyProof.Rows
abbrev Key:=Sum Int Str
def sE:Key->xB->Bool
 | .inl k,v=>Value.isInt k v
 | .inr x,v=>JU x v
def keyH (w:yR):Key->Int
 | .inl k=>hashInt k
 | .inr x=>hashStr w x
theorem L9:∀ {k:Key} {v:xB},sE k v=true->(∃ i t,k=IB i/\v=KB i t)\/(∃ x t,k=IA x/\v=Value.str x t)
 | .inl i,v,h=>by
   obtain ⟨t,e⟩:=Value.isInt_shape (k:=i) (v:=v) h; exact .inl ⟨i,t,rfl,e⟩
 | .inr x,v,h=>by
   obtain ⟨t,e⟩:=LW (x:=x) (v:=v) h; exact .inr ⟨x,t,rfl,e⟩
theorem vT (a b:Int):decide ((IB a:Key)=IB b)=(a==b):=by
 by_cases e:a=b
 . subst e; simp
 . have h:¬ (IB a:Key)=IB b:=fun q=>e (Sum.inl.inj q)
   rw [decide_eq_false h]; exact (beq_eq_false_iff_ne.mpr e).symm
theorem vQ (a b:Str):decide ((IA a:Key)=IA b)=decide (a=b):=by
 by_cases e:a=b
 . subst e; simp
 . have h:¬ (IA a:Key)=IA b:=fun q=>e (Sum.inr.inj q)
   rw [decide_eq_false h,decide_eq_false e]
theorem vS (a:Int) (b:Str):decide ((IB a:Key)=IA b)=false:=decide_eq_false (fun q=>nomatch q)
theorem vR (a:Str) (b:Int):decide ((IA a:Key)=IB b)=false:=decide_eq_false (fun q=>nomatch q)
def Um (prog:yD) (w:yR):PySem.KeyKind prog w Key where
 is:=sE
 hash:=keyH w
 inj:=fun v a b ha hb=>by
   rcases L9 ha with ⟨i,t,rfl,rfl⟩ | ⟨x,t,rfl,rfl⟩
   . rcases L9 hb with ⟨j,u,rfl,e⟩ | ⟨y,u,rfl,e⟩
     . injection e with e1 _; rw [e1]
     . exact nomatch e
   . rcases L9 hb with ⟨j,u,rfl,e⟩ | ⟨y,u,rfl,e⟩
     . exact nomatch e
     . injection e with e1 _; rw [e1]
 byValue:=fun k v h=>by
   rcases L9 h with ⟨i,t,rfl,rfl⟩ | ⟨x,t,rfl,rfl⟩ <;> rfl
 pyHash:=fun hv h=>by
   rcases L9 hv with ⟨i,t,rfl,rfl⟩ | ⟨x,t,rfl,rfl⟩
   . exact wpAny_pyHash_int h
   . exact wpAny_pyHash_str h
 eqBool:=fun hu hv h=>by
   rcases L9 hu with ⟨i,t,rfl,rfl⟩ | ⟨x,t,rfl,rfl⟩
   . rcases L9 hv with ⟨j,u,rfl,rfl⟩ | ⟨y,u,rfl,rfl⟩
     . rw [vT] at h; exact wpAny_eqBool_int h
     . rw [vS] at h; exact SeqAt.EqAt.int_str i t y u _ _ _ _ h
   . rcases L9 hv with ⟨j,u,rfl,rfl⟩ | ⟨y,u,rfl,rfl⟩
     . rw [vR] at h; exact SeqAt.EqAt.str_int x t j u _ _ _ _ h
     . rw [vQ] at h; exact wpAny_eqBool_str h
 «strs» := fun k x t v h=>by
   rcases L9 h with ⟨i,u,rfl,e⟩ | ⟨y,u,rfl,e⟩
   . exact nomatch e
   . injection e with e1 _
     subst e1;cases v <;> rfl
end L2
namespace L2
open PySem PySem.Spec PyProof.Rows
inductive V where
 | non | bl (b:Bool) | int (i:Int) | str (x:Str) | byt (b:Array UInt8) | flt (b:UInt64) | ref (a:xI) | ty (n:String)
 deriving DecidableEq
def RelV:V->xB->Prop
 | .non,u=>u=k9
 | .bl b,u=>u=FP b
 | .int i,u=>∃ t,u=KB i t
 | .str x,u=>∃ t,u=Value.str x t
 | .byt b,u=>∃ t,u=Value.bytes b t
 | .flt b,u=>∃ t,u=Value.float b t
 | .ref a,u=>u=zP a
 | .ty n,u=>u=AT n
abbrev Vals:List V->List xB->Prop:=f9 RelV
theorem Vals.length {xs:List V} {us:List xB} (r:Vals xs us):xs.length=us.length:=Paired.length r
theorem Vals.get:∀ {xs:List V} {us:List xB} {i:Nat} {x:V},Vals xs us->xs[i]? = some x->∃ u,us[i]? = some u/\RelV x u
 | _,_,_,_,.nil,e=>by simp at e
 | _,_,0,_,.cons r _,e=>by simp at e; subst e; exact ⟨_,rfl,r⟩
 | _,_,i+1,x,.cons _ t,e=>by
   obtain ⟨u,h1,h2⟩:=Vals.get (i:=i) (x:=x) t (by simpa using e);exact ⟨u,by simpa using h1,h2⟩
theorem Vals.set {x:V} {u:xB} (r:RelV x u):∀ {xs:List V} {us:List xB} (i:Nat),Vals xs us->Vals (xs.set i x) (us.set i u)
 | _,_,_,.nil=>.nil
 | _,_,0,.cons _ t=>.cons r t
 | _,_,i+1,.cons q t=>.cons q (Vals.set r i t)
theorem Vals.append:∀ {xs ys:List V} {us ws:List xB},Vals xs us->Vals ys ws->Vals (xs++ys) (us++ws)
 | _,_,_,_,.nil,s=>s
 | _,_,_,_,.cons r t,s=>.cons r (Vals.append t s)
theorem Vals.take:∀ {xs:List V} {us:List xB} (n:Nat),Vals xs us->Vals (xs.take n) (us.take n)
 | _,_,0,_=>.nil
 | _,_,_+1,.nil=>.nil
 | _,_,n+1,.cons r t=>.cons r (Vals.take n t)
theorem Vals.drop:∀ {xs:List V} {us:List xB} (n:Nat),Vals xs us->Vals (xs.drop n) (us.drop n)
 | _,_,0,r=>r
 | _,_,_+1,.nil=>.nil
 | _,_,n+1,.cons _ t=>Vals.drop n t
def RelO:Option V->Option xB->Prop
 | some v,some u=>RelV v u
 | none,none=>True
 | _,_=>False
def KV {κ:Type}:List (κ×V)->List (κ×xB)->Prop:=f9 fun (p:κ×V) (q:κ×xB)=>p.1=q.1/\RelV p.2 q.2
def kV:Key->V
 | .inl i=>.int i
 | .inr x=>.str x
inductive HO where
 | lst (xs:List V)
 | tup (xs:List V)
 | dK (kvs:List (Key×V)) | dT (kvs:List (List Key×V))
 | dN (kvs:List (wY×V))
 | set (S:Int->Bool) (n:Nat)
 | ins (C dx:xI) (fs:List (Str×V))
 | own (x:xI)
 | xd (fs:List (Str×V))
 | met (f x:xI)
 | rng (lo hi:Int)
 | frz (o:Obj) (u:HO)
 | tbl (ps:Array xB)
 | ext (φ:zN->Prop)
abbrev Hp:=xI->Option HO
def upd (H:Hp) (a:xI) (o:HO):Hp:=fun b=>if b=a then some o else H b
theorem B8 {H:Hp} {a:xI} {o:HO}:upd H a o a=some o:=by unfold upd; rw [if_pos rfl]
theorem C0 {H:Hp} {a b:xI} {o:HO} (h:b≠a):upd H a o b=H b:=by unfold upd; rw [if_neg h]
theorem Tq {H:Hp} {a:xI} {o u:HO}:upd (upd H a o) a u=upd H a u:=by
 funext b; unfold upd; split <;> rfl
theorem Oz {H:Hp} {a b:xI} {o u:HO} (h:H a=some o) (h':H b=some u) (d:o≠u):a≠b:=by
 intro e; subst e; rw [h] at h'; exact d (zB h')
theorem D8 {H:Hp} {a b:xI} {o:HO} (h:H a=some o) (h':H b=none):a≠b:=by
 intro e; subst e; rw [h] at h'; cases h'
mutual
def isK:wY->Bool
 | .int _=>true
 | .str _=>true
 | .tuple xs=>Hr xs
 | .none | .bool _ | .list _ | .dict _=>false
def Hr:List wY->Bool
 | []=>true
 | x::r=>isK x&&Hr r
end
mutual
def Yg (w:yR):wY->Int
 | .int i=>hashInt i
 | .str x=>hashStr w x
 | .tuple xs=>reduceHash (HN (Fy w xs))
 | .none | .bool _ | .list _ | .dict _=>0
def Fy (w:yR):List wY->List Int
 | []=>[]
 | x::r=>Yg w x::Fy w r
end
def V0 (w:yR):wY->Int
 | .none=>0xFCA86420
 | d=>Yg w d
def nkD (d:wY):Bool:=match d with
 | .none=>true
 | .str _=>true
 | .tuple xs=>Hr xs&&decide ((o3 xs).depth<=8)
 | _=>false
mutual
def KRep (H:Hp):wY->V->Prop
 | .none,v=>v=.non
 | .int i,v=>v=.int i
 | .str x,v=>v=.str x/\yP x=true/\x.length<=sizeLine
 | .tuple ds,v=>∃ b xs,v=.ref b/\H b=some (.tup xs)/\KRepL H ds xs
 | .bool _,_=>False
 | .list _,_=>False
 | .dict _,_=>False
def KRepL (H:Hp):List wY->List V->Prop
 | [],xs=>xs=[]
 | d::ds,xs=>∃ x r,xs=x::r/\KRep H d x/\KRepL H ds r
end
mutual
theorem KRep.mono {H H':Hp} (ht:∀ b xs,H b=some (.tup xs)->H' b=some (.tup xs)):∀ {d:wY} {v:V},KRep H d v->KRep H' d v
 | .none,_,r=>r
 | .int _,_,r=>r
 | .str _,_,r=>r
 | .tuple _,_,r=>by obtain ⟨b,xs,e,q,l⟩:=r; exact ⟨b,xs,e,ht _ _ q,KRepL.mono ht l⟩
 | .bool _,_,r=>r.elim
 | .list _,_,r=>r.elim
 | .dict _,_,r=>r.elim
theorem KRepL.mono {H H':Hp} (ht:∀ b xs,H b=some (.tup xs)->H' b=some (.tup xs)):∀ {ds:List wY} {xs:List V},KRepL H ds xs->KRepL H' ds xs
 | [],_,r=>r
 | _::_,_,r=>by obtain ⟨x,t,e,q,l⟩:=r; exact ⟨x,t,e,KRep.mono ht q,KRepL.mono ht l⟩
end
def P3 (w:yR) (kvs:List (wY×V)) (xs:List (xB×xB)):List zL:=List.zipWith (fun p q=>⟨V0 w p.1,q.1,q.2⟩) kvs xs
section
variable (P:yD) (w:yR)
def ObjOk (H:Hp) (h:zN) (a:xI):HO->Prop
 | .lst xs=>xs.length<=sizeLine/\∃ (its:List xB) (n:Nat),Vals xs its/\h.get? a=some { cls:=.type "list",data:=.seq its.toArray n }
 | .tup xs=>xs.length<=sizeLine/\∃ its:List xB,Vals xs its/\HB h a its.toArray
 | .dK kvs=>kvs.length<=sizeLine/\(a==o0)=false/\∃ vs,KV kvs vs/\h.DictOf (Um P w) a vs
 | .dT kvs => kvs.length <= sizeLine /\ (a == o0) = false /\ ∃ xs : List (List Key × xI × xB),
     f9 (fun (p:List Key×V) (q:List Key×xI×xB)=>p.1=q.1/\H q.2.1=some (.tup (p.1.map kV))/\RelV p.2 q.2.2) kvs xs /\
     ∃ o es ep,h.get? a=some o/\o.ExactDict/\o.data=.dict es ep/\es.toList=xs.map (entryOfKey (tupleKind (Um P w)))/\(xs.map (·.1)).Nodup
 | .dN kvs => kvs.length <= sizeLine /\ (a == o0) = false /\ (kvs.map (·.1)).Nodup /\ (∀ p ∈ kvs, nkD p.1 = true) /\ ∃ xs : List (xB × xB),
     f9 (fun (p:wY×V) (q:xB×xB)=>(∃ v,KRep H p.1 v/\RelV v q.1)/\RelV p.2 q.2) kvs xs/\∃ ep,h.get? a=some { cls:=.type "dict",data:=.dict (P3 w kvs xs).toArray ep }
 | .set S n=>h.SetOf (JE P w) a S n
 | .ins C dx fs => H dx = some (.own a) /\ fs.length <= 1000 /\ dx ≠ a /\ h.get? a = some (PySem.W.instObj C dx) /\
     ∃ mA,h.Ns1 dx mA/\(∀ f,RelO (fs.lookup f) (mA f))/\PySem.Within mA (fs.map (·.1))
 | .own _=>∃ o,h.get? a=some o
 | .xd fs=>∃ mA,h.Ns1 a mA/\∀ f,RelO (fs.lookup f) (mA f)
 | .rng lo hi=>∃ t u v,h.get? a=some { cls:=.type "range",data:=.fields #[.int lo t,.int hi u,.int 1 v] }
 | .frz o u=>h.get? a=some o/\ObjOk H h a u
 | .tbl ps=>h.get? a=some { cls:=.none,data:=.fields ps }
 | .met f x=>h.get? a=some (HF (.ref f) (.ref x))
 | .ext φ=>φ h/\(∃ o,h.get? a=some o)/\∀ h1 h2:zN,φ h1->(∀ o,h1.get? a=some o->h2.get? a=some o)->φ h2
def HOk (H:Hp) (h:zN):Prop:=∀ a o,H a=some o->ObjOk P w H h a o
end
section
variable {P:yD} {w:yR} {H H':Hp} {h h':zN} {a:xI} {o:HO}
theorem ObjOk.lt (x:ObjOk P w H h a o):a < h.objs.size:=by
 cases o with
 | lst xs=>obtain ⟨_,_,_,_,e⟩:=x; exact xV e
 | tup xs=>obtain ⟨_,_,_,p⟩:=x; exact p.lt
 | dK kvs=>obtain ⟨_,_,_,_,o,_,_,e,_⟩:=x; exact xV e
 | dT kvs=>obtain ⟨_,_,_,_,o,_,_,e,_⟩:=x; exact xV e
 | dN kvs=>obtain ⟨_,_,_,_,_,_,_,e⟩:=x; exact xV e
 | set S n=>obtain ⟨o,_,_,_,e,_⟩:=x; exact xV e
 | ins C dx fs=>obtain ⟨_,_,_,e,_⟩:=x; exact xV e
 | own y=>obtain ⟨_,e⟩:=x; exact xV e
 | xd fs=>obtain ⟨_,⟨_,_,_,e,_⟩,_⟩:=x; exact xV e
 | rng lo hi=>obtain ⟨_,_,_,e⟩:=x; exact xV e
 | frz ob u=>obtain ⟨e,_⟩:=x; exact xV e
 | tbl ps=>exact xV (show h.get? a=some _ from x)
 | met f y=>exact xV (show h.get? a=some _ from x)
 | ext φ=>obtain ⟨_,⟨_,e⟩,_⟩:=x; exact xV e
theorem Paired.mapP {α β:Type} {F G:α->β->Prop}:∀ {l₁:List α} {l₂:List β},f9 F l₁ l₂->(∀ a b,F a b->G a b)->f9 G l₁ l₂
 | _,_,.nil,_=>.nil
 | _,_,.cons r t,f=>.cons (f _ _ r) (Paired.mapP t f)
theorem ObjOk.stay (x:ObjOk P w H h a o) (k:∀ b u,(b=a\/H b=some (.own a))->h.get? b=some u->h'.get? b=some u)
   (ho:∀ b,H b=some (.own a)->H' b=some (.own a)) (ht:∀ b xs,H b=some (.tup xs)->H' b=some (.tup xs)):ObjOk P w H' h' a o:=by
 induction o with
 | lst xs=>obtain ⟨z,its,n,r,e⟩:=x; exact ⟨z,its,n,r,k _ _ (.inl rfl) e⟩
 | tup xs=>obtain ⟨z,its,r,ob,e,c⟩:=x; exact ⟨z,its,r,ob,k _ _ (.inl rfl) e,c⟩
 | dK kvs=>obtain ⟨z,y,vs,r,ob,es,ep,e,c⟩:=x; exact ⟨z,y,vs,r,ob,es,ep,k _ _ (.inl rfl) e,c⟩
 | dT kvs =>
   obtain ⟨z,y,xs,r,ob,es,ep,e,c⟩:=x; exact ⟨z,y,xs,Paired.mapP r fun p q z=>⟨z.1,ht _ _ z.2.1,z.2.2⟩,ob,es,ep,k _ _ (.inl rfl) e,c⟩
 | dN kvs =>
   obtain ⟨z,y,nd,nk,xs,r,ep,e⟩:=x; exact ⟨z,y,nd,nk,xs,Paired.mapP r fun p q hZ2=>by obtain ⟨⟨v,z1,z2⟩,z3⟩:=hZ2; exact ⟨⟨v,z1.mono ht,z2⟩,z3⟩,ep,k _ _ (.inl rfl) e⟩
 | set S n=>obtain ⟨ob,es,ep,t,e,c⟩:=x; exact ⟨ob,es,ep,t,k _ _ (.inl rfl) e,c⟩
 | ins C dx fs =>
   obtain ⟨d,z,ne,e,mA,⟨od,es,ep,e2,c⟩,r⟩:=x; exact ⟨ho _ d,z,ne,k _ _ (.inl rfl) e,mA,⟨od,es,ep,k _ _ (.inr d) e2,c⟩,r⟩
 | own y=>obtain ⟨ob,e⟩:=x; exact ⟨ob,k _ _ (.inl rfl) e⟩
 | xd fs=>obtain ⟨mA,⟨od,es,ep,e,c⟩,r⟩:=x; exact ⟨mA,⟨od,es,ep,k _ _ (.inl rfl) e,c⟩,r⟩
 | rng lo hi=>obtain ⟨t,u,v,e⟩:=x; exact ⟨t,u,v,k _ _ (.inl rfl) e⟩
 | frz ob u ih=>obtain ⟨e,q⟩:=x; exact ⟨k _ _ (.inl rfl) e,ih q⟩
 | tbl ps =>
   have e:h.get? a=some { cls:=.none,data:=.fields ps }:=x; show h'.get? a=some { cls:=.none,data:=.fields ps };exact k a _ (.inl rfl) e
 | met f y =>
   have e:h.get? a=some (HF (.ref f) (.ref y)):=x; show h'.get? a=some (HF (.ref f) (.ref y));exact k a _ (.inl rfl) e
 | ext φ=>obtain ⟨p,⟨o,e⟩,st⟩:=x; exact ⟨st _ _ p fun o q=>k _ _ (.inl rfl) q,⟨o,k _ _ (.inl rfl) e⟩,st⟩
theorem HOk.lt (x:HOk P w H h) (e:H a=some o):a < h.objs.size:=(x a o e).lt
theorem HOk.fresh (x:HOk P w H h) (e:h.objs.size<=a):H a=none:=by
 cases q:H a with
 | none=>rfl
 | some u=>exact absurd (yT (x.lt q) e) (z5 _)
theorem HOk.kept (x:HOk P w H h) (k:∀ b u,h.get? b=some u->h'.get? b=some u):HOk P w H h':=fun a o e =>
 (x a o e).stay (fun b u _ q=>k b u q) (fun _ q=>q) fun _ _ q=>q
theorem HOk.laid (x:HOk P w H h) (k:∀ b u,h.get? b=some u->h'.get? b=some u) (hp:h.objs.size<=a) (new:ObjOk P w (upd H a o) h' a o):HOk P w (upd H a o) h':=fun b u e=>by
 have hn:=x.fresh hp;by_cases hb:b=a
 . subst hb; rw [B8] at e; cases e; exact new
 . rw [C0 hb] at e
   exact (x b u e).stay (fun c v _ q=>k c v q) (fun c q=>by rw [C0 (D8 q hn)]; exact q) fun c xs q=>by rw [C0 (D8 q hn)]; exact q
end
def Rd (H:Hp) (a:xI) (u:HO):Prop:=H a=some u\/∃ o,H a=some (.frz o u)
theorem Rd.ok {P:yD} {w:yR} {H:Hp} {h:zN} {a:xI} {u:HO} (r:Rd H a u) (x:HOk P w H h):ObjOk P w H h a u:=by
 rcases r with r | ⟨o,r⟩
 . exact x a u r
 . obtain ⟨_,q⟩:=x a _ r
   exact q
def Mut:Option HO->Prop
 | some (.lst _)=>True
 | some (.dK _)=>True
 | some (.dT _)=>True
 | some (.dN _)=>True
 | some (.set _ _)=>True
 | some (.ins _ _ _)=>True
 | some (.ext _)=>True
 | _=>False
section
variable {P:yD} {w:yR} {H:Hp} {h h':zN} {x e:xI} {o':HO}
theorem HOk.write (ok:HOk P w H h) (mu:Mut (H x)) (he:e=x\/H e=some (.own x)) (k:∀ b u,b≠e->h.get? b=some u->h'.get? b=some u) (heo:∃ u,h'.get? e=some u)
   (new:ObjOk P w (upd H x o') h' x o'):HOk P w (upd H x o') h':=fun b u q=>by
 have nown:∀ c y,H c=some (.own y)->c≠x:=fun c y r z=>by subst z; rw [r] at mu; exact mu
 have ntup:∀ c xs,H c=some (.tup xs)->c≠x:=fun c xs r z=>by subst z; rw [r] at mu; exact mu
 by_cases hb:b=x
 . subst hb; rw [B8] at q; cases q; exact new
 . rw [C0 hb] at q
   by_cases hbe:b=e
   . have q' : H b = some (.own x) := by
       rcases he with z | z
       . exact absurd (hbe.trans z) hb
       . rw [hbe]; exact z
     rw [q] at q'; cases q';obtain ⟨v,hv⟩:=heo; exact ⟨v,by rw [hbe]; exact hv⟩
   . refine (ok b u q).stay (fun c v hc r=>k c v ?_ r) (fun c r=>by rw [C0 (nown c b r)]; exact r) fun c xs r=>by rw [C0 (ntup c xs r)]; exact r
     rcases hc with rfl | hc
     . exact hbe
     . rintro rfl
       rcases he with z | z
       . exact nown c b hc z
       . rw [hc] at z; cases z; exact hb rfl
end
structure Un (fs ex:List xI) (H H':Hp) (h h':zN):Prop where
 keep:∀ b o,h.get? b=some o->H b=none->b∉fs->b∉ex->h'.get? b=some o
 slot:∀ b o,h.get? b=some o->H b=none->b∈fs->b∉ex->∃ sl,h'.get? b=some { o with slots:=sl }
 free:∀ b o,h.get? b=some o->H b=none->b∉ex->H' b=none
 there:∀ b o,h.get? b=some o->b∉ex->∃ o',h'.get? b=some o'
 tups:∀ b xs,H b=some (.tup xs)->H' b=some (.tup xs)
 frzs:∀ b o u,H b=some (.frz o u)->H' b=some (.frz o u)
 tbls:∀ b ps,H b=some (.tbl ps)->∃ more,H' b=some (.tbl (ps++more))
section
variable {fs ex:List xI} {H H1:Hp} {h h1 h':zN} {a x e:xI} {o:HO}
theorem Un.any (u:Un fs ex H H1 h h1) {b:xI} {ob:Obj} (q:h.get? b=some ob) (n:H b=none) (hx:b∉ex):∃ sl,h1.get? b=some { ob with slots:=sl }:=by
 by_cases hb:b∈fs
 . exact u.slot b ob q n hb hx
 . exact ⟨ob.slots,u.keep b ob q n hb hx⟩
theorem Un.kept (k:∀ b u,h.get? b=some u->h'.get? b=some u):Un fs ex H H h h' :=
 ⟨fun b ob q _ _ _=>k b ob q,fun b ob q _ _ _=>⟨ob.slots,k b ob q⟩,fun _ _ _ n _=>n,fun b ob q _=>⟨ob,k b ob q⟩,fun _ _ q=>q,fun _ _ _ q=>q,fun _ ps q=>⟨#[],by rw [q]; simp⟩⟩
theorem Un.refl:Un fs ex H H h h:=Un.kept fun _ _ q=>q
theorem Un.laid (k:∀ b u,h.get? b=some u->h'.get? b=some u) (hp:h.objs.size<=a) (hn:H a=none):Un fs ex H (upd H a o) h h' where
 keep:=fun b u q _ _ _=>k b u q
 slot:=fun b u q _ _ _=>⟨u.slots,k b u q⟩
 free:=fun b u q n _=>by rw [C0 (yN (yT (xV q) hp))]; exact n
 there:=fun b u q _=>⟨u,k b u q⟩
 tups:=fun b xs q=>by rw [C0 (D8 q hn)]; exact q
 frzs:=fun b u xs q=>by rw [C0 (D8 q hn)]; exact q
 tbls:=fun b ps q=>⟨#[],by rw [C0 (D8 q hn),q]; simp⟩
theorem Un.write (mu:Mut (H x)) (he:e=x\/H e=some (.own x)) (k:∀ b u,b≠e->h.get? b=some u->h'.get? b=some u) (heo:∃ u,h'.get? e=some u):Un fs ex H (upd H x o) h h':=by
 have hx:∀ b,H b=none->b≠x:=fun b n z=>by subst z; rw [n] at mu; exact mu
 have hb:∀ b,H b=none->b≠e:=fun b n z=>by
   subst z; rcases he with r | r
   . exact hx b n r
   . rw [n] at r; cases r
 have hm:∀ b u,H b=some u->¬ Mut (some u)->b≠x:=fun b u q nm z=>by subst z; rw [q] at mu; exact nm mu
 refine ⟨fun b u q n _ _=>k b u (hb b n) q,fun b u q n _ _=>⟨u.slots,k b u (hb b n) q⟩,fun b u q n _=>by rw [C0 (hx b n)]; exact n,fun b u q _=>?_,
   fun b xs q=>by rw [C0 (hm b _ q fun z=>z)]; exact q,fun b u xs q=>by rw [C0 (hm b _ q fun z=>z)]; exact q,fun b ps q=>⟨#[],by rw [C0 (hm b _ q fun z=>z),q]; simp⟩⟩
 by_cases hbe:b=e
 . subst hbe; exact heo
 . exact ⟨u,k b u hbe q⟩
end
def trk (h:zN) (H:Hp):List xI:=(zF h.objs.size).filter fun a=>(H a).isSome
def Ux (h:zN) (H:Hp):zN:=PySem.W.hideAll h (trk h H)
theorem gE (h:zN) (H:Hp):(Ux h H).objs.size=h.objs.size:=PySem.W.hideAll_size _ _
theorem lN {h:zN} {H:Hp} {b:xI} {o:Obj} (e:h.get? b=some o) (n:H b=none):(Ux h H).get? b=some o :=
 PySem.W.hideAll_get _ e fun hm=>by
   have q:(H b).isSome=true:=(zT.mp hm).2; rw [n] at q; simp at q
theorem pH {h:zN} {H:Hp} {b:xI} {o:Obj} (e:(Ux h H).get? b=some o):h.get? b=some o/\H b=none:=by
 have e':h.get? b=some o:=PySem.W.of_hideAll (trk h H) e;refine ⟨e',?_⟩;cases q:H b with
 | none=>rfl
 | some x =>
   have hm:b∈trk h H:=zT.mpr ⟨m3.mpr (xV e'),by simp [q]⟩;have z:(Ux h H).get? b=none:=PySem.W.hideAll_none (trk h H) hm; rw [z] at e; cases e
def rK (g h:zN) (L:xI):List (xI×Obj):=(zF h.objs.size).filterMap fun a=>if a=L\/(g.get? a).isSome=true then none else (h.get? a).map fun o=>(a,o)
def G6 (g h:zN) (L d:xI):List (xI×Obj):=(rK g h L).filter fun p=>decide (p.1≠d)
end L2
namespace L2
open PySem PySem.Spec PyProof.Rows
structure Mod (K:xF) (mg:Str->Option xB) (base:zN):Prop where
 kin:K.In base
 glob:base.Ns e8 mg
 blt:∃ mb,base.Ns GQ mb/\∀ x:Str,x ≠ "__name__" -> mb x=CF x
 nolimit:base.NoLimit
structure Cx where
 prog:yD
 w:yR
 K:xF
 mg:Str->Option xB
 base:zN
 A:zI
 N:List Str
 s₀:xC
 H₀:Hp
 env:Env
 outer:List Env
 stack:List Env
 ex:List xI
 fn:Str->Bool
 calm:Bool
 pn:List (xI×Obj)
 xe:xB->xC->Prop
def frs (l:List Env):List xI:=l.filterMap (·.frame)
abbrev Cx.fs (X:Cx):List xI:=frs X.outer
def Vis (sc:Scope) (x:Str):Prop:=sc.names.lookup x=some .local\/sc.names.lookup x=some .cell\/sc.names.lookup x=some .free
def Loc (sc:Scope) (x:Str):Prop:=sc.names.lookup x=some .local\/sc.names.lookup x=some .cell
def Look (env:Env) (h:zN) (m:Str->Option xB) (x:Str) (u:xB):Prop :=
 (env.kindOf x=some .local/\m x=some u)\/((env.kindOf x=some .cell\/env.kindOf x=some .free)/\∃ c,env.cells.lookup x=some c/\h.IsCell c (some u))
structure Cx.Ok (X:Cx):Prop where
 mod:Mod X.K X.mg X.base
 kind:X.env.scope.kind=.function
 glob:X.env.globals=e8
 blt:X.env.builtins=GQ
 above:X.s₀.heap.objs.size<=X.env.locals
 inj:∀ x y c,X.env.cells.lookup x=some c->X.env.cells.lookup y=some c->x=y
 has:∀ x,(X.env.kindOf x=some .cell\/X.env.kindOf x=some .free)->∃ c,X.env.cells.lookup x=some c
 cab:∀ x c,X.fn x=true->X.env.cells.lookup x=some c->X.s₀.heap.objs.size<=c
 hd:X.calm=true->X.A.handled=none
 frames:X.A.frames=some X.stack
 stk:X.stack=X.outer\/(X.stack=X.env::X.outer/\X.env.frame=some X.env.locals)
 exf:∀ b∈X.ex,b≠X.env.locals/\∀ x c,X.env.cells.lookup x=some c->c≠b
 bs:∀ b o,X.base.get? b=some o->X.s₀.heap.get? b=some o/\X.H₀ b=none
 bsz:X.base.objs.size<=X.s₀.heap.objs.size
 noex:∀ b o,X.base.get? b=some o->b∉X.ex
 exfs:∀ b∈X.ex,b∉X.fs
 funs:X.s₀.heap.FunFrames X.base X.outer
 frf:∀ b∈X.fs,X.H₀ b=none
structure Inv (X:Cx) (pins:List (xI×Obj)) (Z:List (Option V)) (H:Hp) (s:xC):Prop where
 ok:X.Ok
 os:s.os=X.s₀.os
 bare:GU s.gens
 base:Un X.fs X.ex X.H₀ H X.s₀.heap s.heap
 loc:∃ m,s.heap.Ns X.env.locals m/\∀ (i:Nat) (x:Str) (v:V),X.N[i]? = some x->Z[i]? = some (some v)->Vis X.env.scope x->∃ u,RelV v u/\Look X.env s.heap m x u
 cell:∀ x c,X.env.cells.lookup x=some c->∃ v,s.heap.IsCell c v
 free:H X.env.locals=none
 freeC:∀ x c,X.env.cells.lookup x=some c->H c=none
 pin:∀ p∈X.pn++pins,s.heap.get? p.1=some p.2/\H p.1=none/\p.1≠X.env.locals/\p.1∉X.fs/\∀ v,p.2.data≠.cell v
 hok:HOk X.prog X.w H s.heap
 len:Z.length=X.N.length
section
variable {X:Cx} {pins:List (xI×Obj)} {Z:List (Option V)} {H H':Hp} {s:xC} {h':zN}
theorem Cx.Ok.nofr (ok:X.Ok) {b:xI} {o:Obj} (e:X.base.get? b=some o):b∉X.fs:=fun hb=>by
 have:=(ok.funs.mem hb).1;rw [e] at this; cases this
theorem Inv.bs (I:Inv X pins Z H s):∀ b o,X.base.get? b=some o->s.heap.get? b=some o/\H b=none:=fun b o e =>
 ⟨I.base.keep b o (I.ok.bs b o e).1 (I.ok.bs b o e).2 (I.ok.nofr e) (I.ok.noex b o e),I.base.free b o (I.ok.bs b o e).1 (I.ok.bs b o e).2 (I.ok.noex b o e)⟩
theorem Inv.bk (I:Inv X pins Z H s):∀ b o,X.base.get? b=some o->s.heap.get? b=some o:=fun b o e=>(I.bs b o e).1
theorem Inv.mod (I:Inv X pins Z H s):Mod X.K X.mg X.base:=I.ok.mod
theorem Inv.kIn (I:Inv X pins Z H s):X.K.In s.heap:=I.ok.mod.kin.keeps I.bk
theorem Inv.fr (I:Inv X pins Z H s):∃ m,Fr X.base X.env.locals s.heap m :=
 let ⟨m,hn,_⟩:=I.loc
 ⟨m,hn,I.bk,xX I.ok.bsz I.ok.above⟩
theorem Inv.lt (I:Inv X pins Z H s):X.env.locals < s.heap.objs.size:=let ⟨_,hn,_⟩:=I.loc; hn.lt
theorem Inv.sz (I:Inv X pins Z H s):X.s₀.heap.objs.size<=s.heap.objs.size:=xX I.ok.above (LN I.lt)
theorem Inv.nofs (I:Inv X pins Z H s) {a:xI} (h:s.heap.objs.size<=a):a∉X.fs:=fun hb=>by
 obtain ⟨_,o,ho,_⟩:=I.ok.funs.mem hb;exact absurd (yT (xV ho) (xX I.sz h)) (z5 _)
theorem Inv.cne (I:Inv X pins Z H s):∀ x c,X.env.cells.lookup x=some c->c≠X.env.locals:=fun x c e z=>by
 obtain ⟨v,o,ho,hd⟩:=I.cell x c e;obtain ⟨m,⟨o',es,ep,ho',hd',_⟩,_⟩:=I.loc;rw [z,ho'] at ho; cases ho; rw [hd'] at hd; cases hd
theorem Inv.funs (I:Inv X pins Z H s):s.heap.FunFrames X.base X.outer:=by
 have all:∀ (l:List Env),(∀ b∈frs l,b∈X.fs)->X.s₀.heap.FunFrames X.base l->s.heap.FunFrames X.base l:=by
   intro l;induction l with
   | nil=>intro _ _; trivial
   | cons env r ih =>
     intro hs hl; obtain ⟨hk,⟨L,o,hf,hn,ho,hd⟩,hr⟩:=hl; have hL:L∈X.fs:=hs L (by unfold frs; rw [EH,hf]; exact a8);obtain ⟨sl,e⟩:=I.base.slot L o ho (I.ok.frf L hL) hL fun z=>I.ok.exfs L z hL;exact ⟨hk,⟨L,_,hf,hn,e,hd⟩,ih (fun b hb=>hs b (by unfold frs; rw [EH,hf]; exact i3 _ hb)) hr⟩
 exact all X.outer (fun _ hb=>hb) I.ok.funs
theorem Inv.stack (I:Inv X pins Z H s):s.heap.FunFrames X.base X.stack:=by
 rcases I.ok.stk with e | ⟨e,hf⟩
 . rw [e]; exact I.funs
 . rw [e]
   obtain ⟨m,hn,_⟩:=I.loc; refine .cons (by rw [I.ok.kind]; decide) hf hn ?_ I.funs;exact j6 (xX I.ok.bsz I.ok.above)
theorem Inv.stkSub (I:Inv X pins Z H s):∀ b∈frs X.stack,b∈X.env.locals::X.fs:=fun b hb=>by
 rcases I.ok.stk with e | ⟨e,hf⟩
 . rw [e] at hb; exact i3 _ hb
 . rw [e] at hb
   unfold frs at hb; rw [EH,hf] at hb; exact hb
theorem Inv.stkFree (I:Inv X pins Z H s):∀ b∈frs X.stack,H b=none:=fun b hb=>by
 rcases xD.mp (I.stkSub b hb) with e | hb
 . rw [e]; exact I.free
 . obtain ⟨_,o,ho,_⟩:=I.ok.funs.mem hb
   exact I.base.free b o ho (I.ok.frf b hb) fun z=>I.ok.exfs b z hb
theorem Inv.step {g':Array LU} {t':Nat} {d':Drawn} {ch:List xI} (I:Inv X pins Z H s)
   (hch:∀ b∈ch,(b∈X.ex\/X.s₀.heap.objs.size<=b)/\b≠X.env.locals/\(∀ x c,X.env.cells.lookup x=some c->c≠b)/\∀ p∈X.pn++pins,p.1≠b)
   (keep:∀ b o,b≠X.env.locals->b∉X.fs->b∉ch->s.heap.get? b=some o->H b=none->h'.get? b=some o)
   (slot:∀ b o,b≠X.env.locals->b∈X.fs->b∉ch->s.heap.get? b=some o->H b=none->∃ sl,h'.get? b=some { o with slots:=sl }) (free:∀ b o,b∉ch->s.heap.get? b=some o->H b=none->H' b=none)
   (there:∀ b o,b∉ch->s.heap.get? b=some o->∃ o',h'.get? b=some o')
   (tups:∀ b xs,H b=some (.tup xs)->H' b=some (.tup xs)) (frzs:∀ b o u,H b=some (.frz o u)->H' b=some (.frz o u)) (tbls:∀ b ps,H b=some (.tbl ps)->∃ more,H' b=some (.tbl (ps++more)))
   (ns:∀ m,s.heap.Ns X.env.locals m->h'.Ns X.env.locals m) (hok:HOk X.prog X.w H' h') (hg:GU g') :
   Inv X pins Z H' { s with heap:=h',gens:=g',drawn:=d',toks:=t' }:=by
 have neL:∀ b o,X.s₀.heap.get? b=some o->b≠X.env.locals:=fun b o e=>yN (yT (xV e) I.ok.above);have neC:∀ b o,X.s₀.heap.get? b=some o->b∉X.ex->b∉ch:=fun b o e hx hb=>by
   rcases (hch b hb).1 with z | z
   . exact hx z
   . exact absurd (yT (xV e) z) (z5 _)
 have cellK:∀ x c,X.env.cells.lookup x=some c->∀ v,s.heap.IsCell c v->h'.IsCell c v:=fun x c e v hZ4=>by
   obtain ⟨o,ho,hd⟩:=hZ4; have nch:c∉ch:=fun z=>(hch c z).2.2.1 x c e rfl;by_cases hc:c∈X.fs
   . obtain ⟨sl,q⟩:=slot c o (I.cne x c e) hc nch ho (I.freeC x c e)
     exact ⟨_,q,hd⟩
   . exact ⟨o,keep c o (I.cne x c e) hc nch ho (I.freeC x c e),hd⟩
 refine ⟨I.ok,I.os,hg,⟨fun b o e n hb hx=>?_,fun b o e n hb hx=>?_,fun b o e n hx=>?_,fun b o e hx=>?_,fun b xs e=>tups b xs (I.base.tups b xs e),fun b o xs e=>frzs b o xs (I.base.frzs b o xs e),fun b ps e=>?_⟩,?_,fun x c e=>?_,?_,fun x c e=>?_,fun p hp=>?_,hok,I.len⟩
 . exact keep b o (neL b o e) hb (neC b o e hx) (I.base.keep b o e n hb hx) (I.base.free b o e n hx)
 . obtain ⟨sl,e1⟩:=I.base.slot b o e n hb hx
   obtain ⟨sl',e2⟩:=slot b _ (neL b o e) hb (neC b o e hx) e1 (I.base.free b o e n hx); exact ⟨sl',e2⟩
 . obtain ⟨o',e1⟩:=I.base.there b o e hx
   exact free b o' (neC b o e hx) e1 (I.base.free b o e n hx)
 . obtain ⟨o',e1⟩:=I.base.there b o e hx
   exact there b o' (neC b o e hx) e1
 . obtain ⟨m1,e1⟩:=I.base.tbls b ps e
   obtain ⟨m2,e2⟩:=tbls b _ e1; exact ⟨m1++m2,by rw [e2,Array.append_assoc]⟩
 . obtain ⟨m,hn,hl⟩:=I.loc
   refine ⟨m,ns m hn,fun i x v e1 e2 e3=>?_⟩;obtain ⟨u,r,l⟩:=hl i x v e1 e2 e3; refine ⟨u,r,?_⟩; rcases l with l | ⟨k,c,e,z⟩
   . exact .inl l
   . exact .inr ⟨k,c,e,cellK x c e _ z⟩
 . obtain ⟨v,z⟩:=I.cell x c e
   exact ⟨v,cellK x c e v z⟩
 . obtain ⟨m,⟨o,_,_,ho,_⟩,_⟩:=I.loc
   exact free _ o (fun z=>(hch _ z).2.1 rfl) ho I.free
 . obtain ⟨v,o,ho,hd⟩:=I.cell x c e
   exact free c o (fun z=>(hch c z).2.2.1 x c e rfl) ho (I.freeC x c e)
 . obtain ⟨e,n,ne,nf,d⟩:=I.pin p hp
   have nch:p.1∉ch:=fun z=>(hch p.1 z).2.2.2 p hp rfl;exact ⟨keep p.1 p.2 ne nf nch e n,free p.1 p.2 nch e n,ne,nf,d⟩
theorem Inv.un {t':Nat} (I:Inv X pins Z H s) (u:Un X.fs [] H H' s.heap h') (hok:HOk X.prog X.w H' h'):Inv X pins Z H' { s with heap:=h',toks:=t' }:=by
 obtain ⟨m,⟨o,es,ep,ho,r⟩,_⟩:=id I.loc;obtain ⟨sl,hL⟩:=u.any ho I.free (by simp);exact I.step (g':=s.gens) (d':=s.drawn) (ch:=[]) (fun _ z=>nomatch z) (fun b o _ hb _ e n=>u.keep b o e n hb (by simp)) (fun b o _ hb _ e n=>u.slot b o e n hb (by simp)) (fun b o _ e n=>u.free b o e n (by simp)) (fun b o _ e=>u.there b o e (by simp)) u.tups u.frzs u.tbls (fun m' hm=>by
   obtain ⟨o',es',ep',ho',r'⟩:=hm; rw [ho] at ho'; cases ho'; exact ⟨_,es',ep',hL,r'⟩) hok I.bare
theorem Inv.call {g':Array LU} {t':Nat} {d':Drawn} {ch:List xI} (I:Inv X pins Z H s) (u:Un (frs X.stack) ch H H' s.heap h') (hok:HOk X.prog X.w H' h') (hg:GU g')
   (hch:∀ b∈ch,(b∈X.ex\/X.s₀.heap.objs.size<=b)/\b≠X.env.locals/\(∀ x c,X.env.cells.lookup x=some c->c≠b)/\∀ p∈X.pn++pins,p.1≠b) :
   Inv X pins Z H' { s with heap:=h',gens:=g',drawn:=d',toks:=t' }:=by
 obtain ⟨m,⟨o,es,ep,ho,r⟩,_⟩:=id I.loc;obtain ⟨sl,hL⟩:=u.any ho I.free fun z=>(hch _ z).2.1 rfl;exact I.step (ch:=ch) hch (fun b o hL hb hc e n=>u.keep b o e n (fun z=>(xD.mp (I.stkSub b z)).elim hL hb) hc) (fun b o _ _ hc e n=>u.any e n hc) (fun b o hc e n=>u.free b o e n hc) (fun b o hc e=>u.there b o e hc) u.tups u.frzs u.tbls (fun m' hm=>by
   obtain ⟨o',es',ep',ho',r'⟩:=hm; rw [ho] at ho'; cases ho'; exact ⟨_,es',ep',hL,r'⟩) hok hg
theorem Inv.turned {t':Nat} {it:xI} (I:Inv X pins Z H s) (k:∀ b o,b≠it->s.heap.get? b=some o->h'.get? b=some o) (hn:H it=none) (hL:it≠X.env.locals)
   (h1:it∈X.ex\/X.s₀.heap.objs.size<=it) (h2:∀ x c,X.env.cells.lookup x=some c->c≠it) (h3:∀ p∈X.pn++pins,p.1≠it):Inv X pins Z H { s with heap:=h',toks:=t' }:=by
 have nit:∀ b u,H b=some u->b≠it:=fun b u e z=>by rw [z,hn] at e; cases e
 refine I.step (g':=s.gens) (d':=s.drawn) (ch:=[it]) (fun b hb=>?_) (fun b o _ _ hc e _=>k b o (fun z=>hc (by simp [z])) e) (fun b o _ _ hc e _=>⟨o.slots,k b o (fun z=>hc (by simp [z])) e⟩) (fun _ _ _ _ n=>n)
   (fun b o hc e=>⟨o,k b o (fun z=>hc (by simp [z])) e⟩) (fun _ _ e=>e) (fun _ _ _ e=>e) (fun b ps e=>⟨#[],by rw [e]; simp⟩) (fun m hm=>?_) (fun b u e=>?_) I.bare
 . have e:b=it:=by simpa using hb
   subst e; exact ⟨h1,hL,h2,h3⟩
 . obtain ⟨o,es,ep,ho,r⟩:=hm
   exact ⟨o,es,ep,k _ o (Ne.symm hL) ho,r⟩
 . refine (I.hok b u e).stay (fun c v hc q=>k c v ?_ q) (fun _ q=>q) fun _ _ q=>q
   rcases hc with z | z
   . rw [z]; exact nit b u e
   . exact nit c _ z
theorem Inv.tok (I:Inv X pins Z H s) (t:Nat):Inv X pins Z H { s with toks:=t }:=I.un (h':=s.heap) (t':=t) Un.refl I.hok
theorem Inv.kept {t':Nat} (I:Inv X pins Z H s) (k:∀ b u,s.heap.get? b=some u->h'.get? b=some u):Inv X pins Z H { s with heap:=h',toks:=t' }:=I.un (Un.kept k) (I.hok.kept k)
theorem Inv.laid {a:xI} {o:HO} {t':Nat} (I:Inv X pins Z H s) (k:∀ b u,s.heap.get? b=some u->h'.get? b=some u) (hp:s.heap.objs.size<=a) (new:ObjOk X.prog X.w (upd H a o) h' a o) :
   Inv X pins Z (upd H a o) { s with heap:=h',toks:=t' }:=I.un (Un.laid k hp (I.hok.fresh hp)) (I.hok.laid k hp new)
theorem Inv.write {x e:xI} {o:HO} {t':Nat} (I:Inv X pins Z H s) (mu:Mut (H x)) (he:e=x\/H e=some (.own x)) (k:∀ b u,b≠e->s.heap.get? b=some u->h'.get? b=some u) (heo:∃ u,h'.get? e=some u)
   (new:ObjOk X.prog X.w (upd H x o) h' x o):Inv X pins Z (upd H x o) { s with heap:=h',toks:=t' }:=I.un (Un.write mu he k heo) (I.hok.write mu he k heo new)
theorem Inv.weak {Z':List (Option V)} (I:Inv X pins Z H s) (hl:Z'.length=Z.length) (w:∀ (i:Nat) v,Z'[i]? = some (some v)->Z[i]? = some (some v)):Inv X pins Z' H s :=
 ⟨I.ok,I.os,I.bare,I.base,let ⟨m,hn,hl'⟩:=I.loc; ⟨m,hn,fun i x v e1 e2 e3=>hl' i x v e1 (w i v e2) e3⟩,I.cell,I.free,I.freeC,I.pin,I.hok,hl.trans I.len⟩
theorem Inv.pins_of {pins':List (xI×Obj)} (I:Inv X pins Z H s) (h:∀ p∈pins',s.heap.get? p.1=some p.2/\H p.1=none/\p.1≠X.env.locals/\p.1∉X.fs/\∀ v,p.2.data≠.cell v):Inv X pins' Z H s :=
 ⟨I.ok,I.os,I.bare,I.base,I.loc,I.cell,I.free,I.freeC,fun p hp=>(xK.mp hp).elim (fun z=>I.pin p (GM _ z)) (h p),I.hok,I.len⟩
theorem Xn {N:List Str} (hN:N.Nodup) {i j:Nat} {x:Str} (a:N[i]? = some x) (b:N[j]? = some x):i=j:=by
 obtain ⟨h1,e1⟩:=yJ.mp a;obtain ⟨h2,e2⟩:=yJ.mp b;exact (List.getElem_inj hN).mp (e1.trans e2.symm)
theorem Rs {M:Model} {A:zI} {E:xB->xC->Prop} {i:Nat} {x:Str} {v:V} {u:xB} {Q:Unit->xC->Prop} (I:Inv X pins Z H s) (hN:X.N.Nodup) (hi:X.N[i]? = some x) (hx:Loc X.env.scope x) (r:RelV v u)
   (h:∀ s',Inv X pins (Z.set i (some v)) H s'->(∃ a,c8 a s.heap s'.heap/\(a=X.env.locals\/X.env.cells.lookup x=some a))->Q () s') (hf:X.fn x=true\/X.env.scope.names.lookup x=some .local:=by first | exact .inl rfl | exact .inr rfl | assumption):wpAny M A (storeName X.env x u) Q E s:=by
 obtain ⟨m,hn,hl⟩:=id I.loc;have hcls:(X.env.scope.kind==.class||(X.env.scope.kind==.module&&X.env.locals != X.env.globals))=false:=by rw [I.ok.kind]; rfl
 have hiσ:i < Z.length:=by rw [I.len]; exact (yJ.mp hi).1
 have cne:=I.cne;have tracked:∀ {a:xI} {h':zN},(∃ o,s.heap.get? a=some o/\H a=none)->c8 a s.heap h'->HOk X.prog X.w H h':=fun {a h'} ha hs b ob e=>by
   obtain ⟨_,_,hfree⟩:=ha; refine (I.hok b ob e).stay (fun c w' hc q=>(hs.2 c ?_).trans q) (fun _ q=>q) fun _ _ q=>q;rintro rfl;rcases hc with rfl | hc
   . rw [hfree] at e; cases e
   . rw [hfree] at hc; cases hc
 rcases hx with hk | hk
 . refine wpAny_storeName_local hk hn (fun h' hn' hs=>?_) hcls
   obtain ⟨oL,_,_,hoL,_⟩:=id hn; refine h _ ⟨I.ok,I.os,I.bare,⟨fun b o e n hb hx=>?_,fun b o e n hb hx=>?_,I.base.free,fun b o e hx=>?_,I.base.tups,I.base.frzs,I.base.tbls⟩,⟨_,hn',fun j y v' e1 e2 e3=>?_⟩,fun y c e=>?_,I.free,I.freeC,fun p hp=>?_,tracked ⟨oL,hoL,I.free⟩ hs,by simpa using I.len⟩ ⟨_,hs,.inl rfl⟩
   . exact (hs.2 b (yN (yT (xV e) I.ok.above))).trans (I.base.keep b o e n hb hx)
   . obtain ⟨sl,e1⟩:=I.base.slot b o e n hb hx
     exact ⟨sl,(hs.2 b (yN (yT (xV e) I.ok.above))).trans e1⟩
   . obtain ⟨o',e1⟩:=I.base.there b o e hx
     exact ⟨o',(hs.2 b (yN (yT (xV e) I.ok.above))).trans e1⟩
   . by_cases hj:j=i
     . subst hj
       rw [hi] at e1; cases e1;rw [KZ hiσ] at e2; cases e2; exact ⟨u,r,.inl ⟨hk,by simp⟩⟩
     . rw [ED (Ne.symm hj)] at e2
       obtain ⟨u',r',q⟩:=hl j y v' e1 e2 e3; refine ⟨u',r',?_⟩; rcases q with ⟨k,e⟩ | ⟨k,c,e,z⟩
       . refine .inl ⟨k,?_⟩
         have:y≠x:=fun e=>hj (Xn hN e1 (e▸hi));simp [this,e]
       . exact .inr ⟨k,c,e,z.sameBut hs (cne y c e)⟩
   . obtain ⟨w',z⟩:=I.cell y c e
     exact ⟨w',z.sameBut hs (cne y c e)⟩
   . obtain ⟨e,n,ne,nf,d⟩:=I.pin p hp
     exact ⟨(hs.2 p.1 ne).trans e,n,ne,nf,d⟩
 . have hfn : X.fn x = true := by
     rcases hf with z | z
     . exact z
     . rw [z] at hk; cases hk
   obtain ⟨c,hc⟩:=I.ok.has x (.inl hk); obtain ⟨w',z⟩:=I.cell x c hc; refine wpAny_storeName_cell I.ok.kind hk hc z (fun h' hc' hs=>?_);obtain ⟨oc,hoc,hocd⟩:=id z; refine h { s with heap:=h' } ⟨I.ok,I.os,I.bare,⟨fun b o e n hb hx=>?_,fun b o e n hb hx=>?_,I.base.free,fun b o e hx=>?_,I.base.tups,I.base.frzs,I.base.tbls⟩,⟨m,hn.sameBut hs (Ne.symm (cne x c hc)),fun j y v' e1 e2 e3=>?_⟩,fun y c' e=>?_,I.free,I.freeC,fun p hp=>?_,tracked ⟨oc,hoc,I.freeC x c hc⟩ hs,by simpa using I.len⟩ ⟨c,hs,.inr hc⟩
   . exact (hs.2 b (yN (yT (xV e) (I.ok.cab x c hfn hc)))).trans (I.base.keep b o e n hb hx)
   . obtain ⟨sl,e1⟩:=I.base.slot b o e n hb hx
     exact ⟨sl,(hs.2 b (yN (yT (xV e) (I.ok.cab x c hfn hc)))).trans e1⟩
   . obtain ⟨o',e1⟩:=I.base.there b o e hx
     exact ⟨o',(hs.2 b (yN (yT (xV e) (I.ok.cab x c hfn hc)))).trans e1⟩
   . by_cases hj:j=i
     . subst hj
       rw [hi] at e1; cases e1;rw [KZ hiσ] at e2; cases e2; exact ⟨u,r,.inr ⟨.inl hk,c,hc,hc'⟩⟩
     . rw [ED (Ne.symm hj)] at e2
       obtain ⟨u',r',q⟩:=hl j y v' e1 e2 e3; refine ⟨u',r',?_⟩; rcases q with q | ⟨k,c',e,z'⟩
       . exact .inl q
       . refine .inr ⟨k,c',e,z'.sameBut hs ?_⟩
         rintro rfl;exact hj (Xn hN e1 (I.ok.inj _ _ _ e hc▸hi))
   . by_cases hcc:c'=c
     . subst hcc; exact ⟨_,hc'⟩
     . obtain ⟨w2,z2⟩:=I.cell y c' e
       exact ⟨w2,z2.sameBut hs hcc⟩
   . obtain ⟨e,n,ne,nf,d⟩:=I.pin p hp
     refine ⟨(hs.2 p.1 ?_).trans e,n,ne,nf,d⟩; intro q; rw [q,hoc] at e; have q':oc=p.2:=zB e; exact d w' (by rw [<- q']; exact hocd)
theorem Wc {M:Model} {A:zI} {E:xB->xC->Prop} {i:Nat} {x:Str} {v:V} {u:xB} {Q:Unit->xC->Prop} (I:Inv X pins Z H s) (hN:X.N.Nodup) (hi:X.N[i]? = some x) (hx:Loc X.env.scope x) (r:RelV v u)
   (h:∀ s',Inv X pins (Z.set i (some v)) H s'->Q () s') (hf:X.fn x=true\/X.env.scope.names.lookup x=some .local:=by first | exact .inl rfl | exact .inr rfl | assumption):wpAny M A (storeName X.env x u) Q E s :=
 Rs I hN hi hx r (fun s' I' _=>h s' I') hf
theorem Inv.call' {s':xC} {ch:List xI} (I:Inv X pins Z H s) (ho:s'.os=s.os) (u:Un (frs X.stack) ch H H' s.heap s'.heap) (hok:HOk X.prog X.w H' s'.heap) (hg:GU s'.gens)
   (hch:∀ b∈ch,(b∈X.ex\/X.s₀.heap.objs.size<=b)/\b≠X.env.locals/\(∀ x c,X.env.cells.lookup x=some c->c≠b)/\∀ p∈X.pn++pins,p.1≠b):Inv X pins Z H' s':=by
 obtain ⟨h',g',d',t',o'⟩:=s';have e:o'=s.os:=ho;subst e;exact I.call (g':=g') (t':=t') (d':=d') u hok hg hch
end
abbrev XK:=xB->Option xI->Hp->Prop
abbrev St:=List (Option V)
abbrev VK:=V->Hp->Prop
abbrev TE:=St->Hp->VK->Prop
abbrev TT:=St->Hp->(Bool->Hp->Prop)->Prop
abbrev TA:=St->Hp->(List V->Hp->Prop)->Prop
structure Ends where
 nx:St->Hp->Prop
 rt:VK
 bk:St->Hp->Prop:=fun _ _=>False
 ct:St->Hp->Prop:=fun _ _=>False
abbrev TS:=Ends->St->Hp->Prop
def EP (X:Cx) (pins:List (xI×Obj)) (Z:St) (Q:VK) (u:xB) (s':xC):Prop:=∃ v H',Inv X pins Z H' s'/\RelV v u/\Q v H'
def TP (X:Cx) (pins:List (xI×Obj)) (Z:St) (Q:Bool->Hp->Prop) (b:Bool) (s':xC):Prop:=∃ H',Inv X pins Z H' s'/\Q b H'
def AP (X:Cx) (pins:List (xI×Obj)) (Z:St) (Q:List V->Hp->Prop) (us:List xB) (s':xC):Prop:=∃ vs H',Inv X pins Z H' s'/\Vals vs us/\Q vs H'
def SP (X:Cx) (pins:List (xI×Obj)) (D:Ends) (f:Flow) (s':xC):Prop :=
 match f with
 | .next=>∃ Z' H',Inv X pins Z' H' s'/\D.nx Z' H'
 | .brk=>∃ Z' H',Inv X pins Z' H' s'/\D.bk Z' H'
 | .cont=>∃ Z' H',Inv X pins Z' H' s'/\D.ct Z' H'
 | .ret u=>∃ v Z' H',Inv X pins Z' H' s'/\RelV v u/\D.rt v H'
def PE (X:Cx) (e:Expr) (t:TE):Prop :=
 ∀ (pins:List (xI×Obj)) (s:xC) (Z:St) (H:Hp) (Q:VK),Inv X pins Z H s->t Z H Q->wpAny (xW X.prog X.w) X.A (eval e X.env) (EP X pins Z Q) X.xe s
def PT (X:Cx) (e:Expr) (t:TT):Prop :=
 ∀ (pins:List (xI×Obj)) (s:xC) (Z:St) (H:Hp) (Q:Bool->Hp->Prop),Inv X pins Z H s->t Z H Q->wpAny (xW X.prog X.w) X.A (isTrue e X.env (eval e X.env)) (TP X pins Z Q) X.xe s
def PW (X:Cx) (e:Expr) (t:TT):Prop :=
 ∀ (whole:Sem xB) (pins:List (xI×Obj)) (s:xC) (Z:St) (H:Hp) (Q:Bool->Hp->Prop),Inv X pins Z H s->t Z H Q->wpAny (xW X.prog X.w) X.A (isTrue e X.env whole) (TP X pins Z Q) X.xe s
theorem PW.pt {X:Cx} {e:Expr} {t:TT} (h:PW X e t):PT X e t:=h _
def PA (X:Cx) (es:List Expr) (t:TA):Prop :=
 ∀ (pos:Pos) (pins:List (xI×Obj)) (s:xC) (Z:St) (H:Hp) (Q:List V->Hp->Prop),Inv X pins Z H s->t Z H Q->wpAny (xW X.prog X.w) X.A (spliced (i6 pos (xO es X.env))) (AP X pins Z Q) X.xe s
def PS (X:Cx) (st:AR) (t:TS):Prop :=
 ∀ (pins:List (xI×Obj)) (s:xC) (Z:St) (H:Hp) (D:Ends),Inv X pins Z H s->t D Z H->wpAny (xW X.prog X.w) X.A (exec st X.env) (SP X pins D) X.xe s
def PSs (X:Cx) (st:List AR) (t:TS):Prop :=
 ∀ (pins:List (xI×Obj)) (s:xC) (Z:St) (H:Hp) (D:Ends),Inv X pins Z H s->t D Z H->wpAny (xW X.prog X.w) X.A (execs st X.env) (SP X pins D) X.xe s
theorem thn {α:Type} {t:Sem α} {Q Q':α->xC->Prop} {M:Model} {A:zI} {E:xB->xC->Prop} {s:xC} (h:wpAny M A t Q E s) (hQ:∀ a s,Q a s->Q' a s):wpAny M A t Q' E s:=i5 h hQ fun _ _ x=>x
end L2
namespace L2
open PySem PySem.Spec PyProof.Rows
section
variable {X:Cx}
theorem bin {a b:Expr} {ta tb:TE} (ha:PE X a ta) (hb:PE X b tb) {pins:List (xI×Obj)} {s:xC} {Z:St} {H:Hp} {R:V->V->Hp->Prop} (I:Inv X pins Z H s) (h:ta Z H fun x H1=>tb Z H1 fun y H2=>R x y H2)
   {α:Type} {Q:α->xC->Prop} {f:xB->xB->Sem α}
   (hf:∀ v u s2 x y H2,Inv X pins Z H2 s2->RelV x v->RelV y u->R x y H2->wpAny (xW X.prog X.w) X.A (f v u) Q X.xe s2) :
   wpAny (xW X.prog X.w) X.A (eval a X.env) (fun v s₁=>wpAny (xW X.prog X.w) X.A (eval b X.env) (fun u s₂=>wpAny (xW X.prog X.w) X.A (f v u) Q X.xe s₂) X.xe s₁) X.xe s:=by
 refine thn (ha pins s Z H _ I h) fun v s1 hZ2=>?_;obtain ⟨x,H1,I1,r1,q1⟩:=hZ2;refine thn (hb pins s1 Z H1 _ I1 q1) fun u s2 hZ2=>?_;obtain ⟨y,H2,I2,r2,q2⟩:=hZ2;exact hf v u s2 x y H2 I2 r1 r2 q2
def nJ (i:Nat):TE:=fun Z H Q=>∃ v,Z[i]? = some (some v)/\Q v H
def tC (v:V):TE:=fun _ H Q=>Q v H
theorem aI {i:Nat} {x:Str} {pos:Pos} (hN:X.N[i]? = some x) (hv:Vis X.env.scope x) (hd:(x==("__debug__" : Str))=false:=by decide) (hcd:(x==("__classdict__" : Str))=false:=by decide):PE X (.Name x pos) (nJ i):=by
 intro pins s Z H Q I h;obtain ⟨v,e,h⟩:=h;obtain ⟨m,hn,hl⟩:=I.loc;obtain ⟨u,r,l⟩:=hl i x v hN e hv;have fin:EP X pins Z Q u s:=⟨v,H,I,r,h⟩;rcases l with ⟨hk,hm⟩ | ⟨hk,c,hc,hcell⟩
 . exact wpAny_Name (wpAny_loadName_local I.ok.kind hk hn hm fin) hd
 . rcases hk with hk | hk
   . exact wpAny_Name (wpAny_loadName_cell I.ok.kind hk hc hcell fin) hd
   . exact wpAny_Name (wpAny_loadName_free I.ok.kind hk hc hcell fin hcd) hd
theorem uQ {i j pos}:PE X (.Constant (.int i) j pos) (tC (.int i)):=fun _ _ _ H _ I h=>wpAny_Constant_int ⟨.int i,H,I.tok _,⟨_,rfl⟩,h⟩
theorem pe_bl {b j pos}:PE X (.Constant (.bool b) j pos) (tC (.bl b)):=fun _ _ _ H _ I h=>Constant_bool ⟨.bl b,H,I,rfl,h⟩
theorem uO {j pos}:PE X (.Constant .none j pos) (tC .non):=fun _ _ _ H _ I h=>Constant_none ⟨.non,H,I,rfl,h⟩
theorem jS {x j pos}:PE X (.Constant (.str x) j pos) (tC (.str x)):=fun _ _ _ H _ I h=>Calls.Constant_str ⟨.str x,H,I.tok _,⟨_,rfl⟩,h⟩
def Gl (X:Cx) (x:Str):Prop:=X.env.kindOf x=some .globalImplicit
theorem dF {E:xB->xC->Prop} {pins:List (xI×Obj)} {s:xC} {Z:St} {H:Hp} {x:Str} {u:xB} {pos:Pos} {Q:xB->xC->Prop} (I:Inv X pins Z H s) (hg:Gl X x) (hm:X.mg x=some u) (h:Q u s)
   (hd:(x==("__debug__" : Str))=false:=by decide):wpAny (xW X.prog X.w) X.A (eval (.Name x pos) X.env) Q E s :=
 JJ I.ok.kind hg (Calls.loadGlobal_global (by rw [I.ok.glob]; exact I.mod.glob.keeps I.bk) hm h) hd
theorem Pe {E:xB->xC->Prop} {pins:List (xI×Obj)} {s:xC} {Z:St} {H:Hp} {x:Str} {u:xB} {pos:Pos} {Q:xB->xC->Prop} (I:Inv X pins Z H s) (hg:Gl X x) (hm:X.mg x=none) (hv:CF x=some u) (h:Q u s)
   (hn:x ≠ "__name__" := by decide) (hd:(x==("__debug__" : Str))=false:=by decide):wpAny (xW X.prog X.w) X.A (eval (.Name x pos) X.env) Q E s:=by
 obtain ⟨mb,h1,h2⟩:=I.mod.blt;exact JJ I.ok.kind hg (Calls.loadGlobal_builtin (by rw [I.ok.glob]; exact I.mod.glob.keeps I.bk) hm (by rw [I.ok.blt]; exact h1.keeps I.bk) ((h2 x hn).trans hv) h) hd
theorem oT {x:Str} {v:V} {u:xB} {pos:Pos} (hg:Gl X x) (hm:X.mg x=some u) (r:RelV v u) (hd:(x==("__debug__" : Str))=false:=by decide):PE X (.Name x pos) (tC v) :=
 fun _ _ _ H _ I h=>dF I hg hm ⟨v,H,I,r,h⟩ hd
variable {a b:Expr} {ta tb:TE} {pos:Pos}
def PC (X:Cx) (op:z6) (a b:Expr) (t:TE):Prop :=
 ∀ (pins:List (xI×Obj)) (s:xC) (Z:St) (H:Hp) (Q:VK),Inv X pins Z H s->t Z H Q ->
   wpAny (xW X.prog X.w) X.A (eval a X.env) (fun v s₁=>wpAny (xW X.prog X.w) X.A (eval b X.env) (fun u s₂=>wpAny (xW X.prog X.w) X.A (o5 op v u) (EP X pins Z Q) X.xe s₂) X.xe s₁) X.xe s
theorem Xo (b:Expr) {op:z6} (h:op≠.In) (h2:op≠.NotIn):behindInMarks op b=false:=by
 have e1:(op==CmpOp.In)=false:=by cases op <;> first | rfl | exact absurd rfl h
 have e2:(op==CmpOp.NotIn)=false:=by cases op <;> first | rfl | exact absurd rfl h2
 cases b <;> simp [behindInMarks,e1,e2]
def tB (t:TE):TT:=fun Z H Q=>t Z H fun x H1=>∃ c,x=.bl c/\Q c H1
theorem kA {op:z6} {t:TE} (h:PC X op a b t) (h1:behindInMarks op b=false:=by first | exact Xo _ (by decide) (by decide) | rfl):PE X (.Compare a [op] [b] pos) t:=fun pins s Z H Q I hw=>wpAny_Compare1 (h pins s Z H Q I hw) h1
theorem uI {op:z6} {t:TE} (h:PC X op a b t) (h1:behindInMarks op b=false:=by first | exact Xo _ (by decide) (by decide) | rfl):PT X (.Compare a [op] [b] pos) (tB t):=by
 intro pins s Z H Q I hw;refine wpAny_isTrue_Compare1 (thn (h pins s Z H _ I hw) fun v s1 h1=>thn h1 fun u s2 h2=>thn h2 fun c s3 hY1=>?_) h1;obtain ⟨x,H1,I1,r1,q1⟩:=hY1;obtain ⟨d,rfl,q⟩:=q1;cases r1;exact BU ⟨H1,I1,q⟩
variable {tA tB':TT} {G6:List Expr}
def tAnd (t u:TT):TT:=fun Z H Q=>t Z H fun c H1=>if c=true then u Z H1 Q else Q false H1
def tOr (t u:TT):TT:=fun Z H Q=>t Z H fun c H1=>if c=true then Q true H1 else u Z H1 Q
def tNot (t:TT):TT:=fun Z H Q=>t Z H fun c H1=>Q (!c) H1
theorem oG (ha:PT X a tA):PW X (.BoolOp .And [a] pos) tA:=by
 intro wh pins s Z H Q I h;refine isTrue_and (thn (ha pins s Z H Q I h) fun c s1 e=>?_);cases c with
 | true=>exact isTrue_and_nil e
 | false=>exact e
theorem uE (ha:PT X a tA):PW X (.BoolOp .Or [a] pos) tA:=by
 intro wh pins s Z H Q I h;refine isTrue_or (thn (ha pins s Z H Q I h) fun c s1 e=>?_);cases c with
 | false=>exact isTrue_or_nil e
 | true=>exact e
theorem uF (ha:PT X a tA) (hb:PW X (.BoolOp .And (b::G6) pos) tB'):PW X (.BoolOp .And (a::b::G6) pos) (tAnd tA tB'):=by
 intro wh pins s Z H Q I h;refine isTrue_and (thn (ha pins s Z H _ I h) fun c s1 hZ2=>?_);obtain ⟨H1,I1,q1⟩:=hZ2;cases c with
 | true=>exact hb wh pins s1 Z H1 Q I1 q1
 | false=>exact ⟨H1,I1,q1⟩
theorem pw_or (ha:PT X a tA) (hb:PW X (.BoolOp .Or (b::G6) pos) tB'):PW X (.BoolOp .Or (a::b::G6) pos) (tOr tA tB'):=by
 intro wh pins s Z H Q I h;refine isTrue_or (thn (ha pins s Z H _ I h) fun c s1 hZ2=>?_);obtain ⟨H1,I1,q1⟩:=hZ2;cases c with
 | true=>exact ⟨H1,I1,q1⟩
 | false=>exact hb wh pins s1 Z H1 Q I1 q1
theorem uH (ha:PT X a tA):PT X (.UnaryOp .Not a pos) (tNot tA):=by
 intro pins s Z H Q I h;exact isTrue_not (ha pins s Z H (fun c H1=>Q (!c) H1) I h)
def tAndV (ta tb:TE):TE:=fun Z H Q=>ta Z H fun x H1=>∃ c,x=.bl c/\if c=true then tb Z H1 Q else Q (.bl false) H1
theorem uN {op} {t:TE} (h:PE X a t):PE X (.BoolOp op [a] pos) t:=fun pins s Z H Q I hw=>BoolOp_one (h pins s Z H Q I hw)
theorem uS (ha:PE X a ta) (hb:PE X (.BoolOp .And (b::G6) pos) tb):PE X (.BoolOp .And (a::b::G6) pos) (tAndV ta tb):=by
 intro pins s Z H Q I h;refine BoolOp_and (thn (ha pins s Z H _ I h) fun v s1 hZ2=>?_);obtain ⟨x,H1,I1,r1,q1⟩:=hZ2;obtain ⟨c,rfl,q1⟩:=q1;cases r1;refine BU ?_;cases c with
 | true=>exact hb pins s1 Z H1 Q I1 q1
 | false=>exact ⟨.bl false,H1,I1,rfl,q1⟩
def tIf (t:TT) (ta tb:TE):TE:=fun Z H Q=>t Z H fun c H1=>if c=true then ta Z H1 Q else tb Z H1 Q
theorem jX {c:Expr} (hc:PT X c tA) (ha:PE X a ta) (hb:PE X b tb):PE X (.IfExp c a b pos) (tIf tA ta tb):=by
 intro pins s Z H Q I h;refine wpAny_IfExp (thn (hc pins s Z H _ I h) fun d s1 hZ2=>?_);obtain ⟨H1,I1,q1⟩:=hZ2;cases d with
 | true=>exact ha pins s1 Z H1 Q I1 q1
 | false=>exact hb pins s1 Z H1 Q I1 q1
end
end L2
namespace L2
open PySem PySem.Spec PyProof.Rows
def SqL (K:xF) (H:Hp) (a:xI) (xs:List V):Prop :=
 Rd H a (.lst xs) \/
   ∃ (o:Obj) (its:Array xB) (n:Nat),K.lookup a=some o/\o.cls=.type "list" /\ o.dict=none/\o.data=.seq its n/\its.size<=sizeLine/\Vals xs its.toList
def SqT (K:xF) (H:Hp) (a:xI) (xs:List V):Prop :=
 Rd H a (.tup xs) \/
   ∃ (o:Obj) (its:Array xB) (n:Nat),K.lookup a=some o/\o.cls=.type "tuple" /\ o.data=.seq its n/\its.size<=sizeLine/\Vals xs its.toList
def absV:xB->Option V
 | .none=>some .non
 | .bool b=>some (.bl b)
 | .int i _=>some (.int i)
 | .str x _=>some (.str x)
 | .bytes b _=>some (.byt b)
 | .float b _=>some (.flt b)
 | .ref a=>some (.ref a)
 | .type n=>some (.ty n)
 | _=>none
theorem RelV.abs {x:V} {u:xB} (r:RelV x u):absV u=some x:=by
 cases x with
 | non=>cases r; rfl
 | bl _=>cases r; rfl
 | int _=>obtain ⟨t,rfl⟩:=r; rfl
 | str _=>obtain ⟨t,rfl⟩:=r; rfl
 | byt _=>obtain ⟨t,rfl⟩:=r; rfl
 | flt _=>obtain ⟨t,rfl⟩:=r; rfl
 | ref _=>cases r; rfl
 | ty _=>cases r; rfl
theorem RelV.inj {x y:V} {u:xB} (r:RelV x u) (q:RelV y u):x=y:=zB (r.abs.symm.trans q.abs)
theorem Vals.inj {xs:List V}:∀ {ys:List V} {us:List xB},Vals xs us->Vals ys us->xs=ys:=by
 induction xs with
 | nil=>intro ys us h q; cases h; cases q; rfl
 | cons x xs ih=>intro ys us h q; cases h with | cons r t=>cases q with | cons r' t'=>rw [r.inj r',ih t t']
section
variable {X:Cx} {pins:List (xI×Obj)} {Z:St} {H:Hp} {s:xC} {a:xI} {xs ys:List V}
theorem Inv.list (I:Inv X pins Z H s) (h:SqL X.K H a xs):∃ its:List xB,Vals xs its/\PlainL s.heap a its.toArray/\xs.length<=sizeLine:=by
 rcases h with h | ⟨o,its,n,hk,hc,hd,hs,hz,r⟩
 . obtain ⟨z,its,n,r,e⟩:=h.ok I.hok
   exact ⟨its,r,⟨_,n,e,rfl,rfl,rfl⟩,z⟩
 . refine ⟨its.toList,r,⟨o,n,I.kIn a o hk,hc,hd,by simpa using hs⟩,?_⟩
   have e:=r.length; simp only [yC] at e;lia
theorem Inv.tuple (I:Inv X pins Z H s) (h:SqT X.K H a xs):∃ its:List xB,Vals xs its/\HB s.heap a its.toArray/\xs.length<=sizeLine:=by
 rcases h with h | ⟨o,its,n,hk,hc,hs,hz,r⟩
 . obtain ⟨z,its,r,p⟩:=h.ok I.hok
   exact ⟨its,r,p,z⟩
 . refine ⟨its.toList,r,⟨o,I.kIn a o hk,hc,n,by simpa using hs⟩,?_⟩
   have e:=r.length; simp only [yC] at e;lia
theorem Inv.list_inj (I:Inv X pins Z H s) (h:SqL X.K H a xs) (h':SqL X.K H a ys):xs=ys:=by
 obtain ⟨its,r,⟨o,n,e,_,_,d⟩,_⟩:=I.list h;obtain ⟨its',r',⟨o',n',e',_,_,d'⟩,_⟩:=I.list h';rw [e] at e'; cases e';rw [d] at d';injection d' with d1 _
 have:its=its':=by simpa using congrArg KQ d1
 subst this;exact r.inj r'
theorem Inv.tuple_inj (I:Inv X pins Z H s) (h:SqT X.K H a xs) (h':SqT X.K H a ys):xs=ys:=by
 obtain ⟨its,r,⟨o,e,_,n,d⟩,_⟩:=I.tuple h;obtain ⟨its',r',⟨o',e',_,n',d'⟩,_⟩:=I.tuple h';rw [e] at e'; cases e';rw [d] at d';injection d' with d1 _
 have:its=its':=by simpa using congrArg KQ d1
 subst this;exact r.inj r'
end
abbrev Cx.wish (X:Cx) (E:xB->xC->Prop):Cx:={ X with xe:=E }
abbrev Cx.nox (X:Cx):Cx:=X.wish fun _ _=>False
theorem Cx.Ok.wish {X:Cx} (ok:X.Ok) (E:xB->xC->Prop):(X.wish E).Ok :=
 ⟨ok.mod,ok.kind,ok.glob,ok.blt,ok.above,ok.inj,ok.has,ok.cab,ok.hd,ok.frames,ok.stk,ok.exf,ok.bs,ok.bsz,ok.noex,ok.exfs,ok.funs,ok.frf⟩
theorem Cx.Ok.unwish {X:Cx} {E:xB->xC->Prop} (ok:(X.wish E).Ok):X.Ok :=
 ⟨ok.mod,ok.kind,ok.glob,ok.blt,ok.above,ok.inj,ok.has,ok.cab,ok.hd,ok.frames,ok.stk,ok.exf,ok.bs,ok.bsz,ok.noex,ok.exfs,ok.funs,ok.frf⟩
section
variable {X:Cx} {pins:List (xI×Obj)} {Z:St} {H:Hp} {s:xC} {E:xB->xC->Prop}
theorem Inv.wish (I:Inv X pins Z H s) (E:xB->xC->Prop):Inv (X.wish E) pins Z H s:=⟨I.ok.wish E,I.os,I.bare,I.base,I.loc,I.cell,I.free,I.freeC,I.pin,I.hok,I.len⟩
theorem Inv.unwish (I:Inv (X.wish E) pins Z H s):Inv X pins Z H s:=⟨I.ok.unwish,I.os,I.bare,I.base,I.loc,I.cell,I.free,I.freeC,I.pin,I.hok,I.len⟩
theorem SP.unwish {D:Ends} {f:Flow} {s':xC} (h:SP (X.wish E) pins D f s'):SP X pins D f s':=by
 cases f with
 | next=>obtain ⟨Z',H',I,q⟩:=h; exact ⟨Z',H',I.unwish,q⟩
 | brk=>obtain ⟨Z',H',I,q⟩:=h; exact ⟨Z',H',I.unwish,q⟩
 | cont=>obtain ⟨Z',H',I,q⟩:=h; exact ⟨Z',H',I.unwish,q⟩
 | ret u=>obtain ⟨v,Z',H',I,r,q⟩:=h; exact ⟨v,Z',H',I.unwish,r,q⟩
theorem PSs.nox {st:List AR} {t:TS} (h:PSs X.nox st t):PSs X st t:=fun pins s Z H D I hw =>
 i5 (h pins s Z H D (I.wish _) hw) (fun _ _ q=>q.unwish) fun _ _ z=>BQ z
end
section
variable {X:Cx} {st:AR} {G6:List AR} {t u:TS} {e:Expr} {te:TE} {pos:Pos}
def tNext:TS:=fun D Z H=>D.nx Z H
def tSeq (t u:TS):TS:=fun D Z H=>t { D with nx:=u D } Z H
theorem cI:PSs X [] tNext:=fun _ _ Z H _ I h=>GV ⟨Z,H,I,h⟩
theorem Wz (h1:PS X st t) (h2:PSs X G6 u):PSs X (st::G6) (tSeq t u):=by
 intro pins s Z H D I h;refine wpAny_execs_cons (thn (h1 pins s Z H { D with nx:=u D } I h) fun f s1 q=>?_);cases f with
 | next =>
   obtain ⟨Z',H',I',q⟩:=q; exact h2 pins s1 Z' H' D I' q
 | ret v=>exact q
 | brk=>exact q
 | cont=>exact q
theorem Jc (h1:PS X st t):PSs X [st] t:=by
 intro pins s Z H D I h;refine wpAny_execs_cons (thn (h1 pins s Z H D I h) fun f s1 q=>?_);cases f with
 | next=>exact GV q
 | ret v=>exact q
 | brk=>exact q
 | cont=>exact q
theorem Inv.quiet {pins:List (xI×Obj)} {Z:St} {H:Hp} {s:xC} (I:Inv X pins Z H s):interactive X.env=false:=by simp [interactive,I.ok.kind]
def tDrop (te:TE):TS:=fun D Z H=>te Z H fun _ H1=>D.nx Z H1
theorem Uh (he:PE X e te) (hs:q9 e none pos.line X.env=pure false:=by rfl):PS X (.Expr e pos) (tDrop te):=by
 intro pins s Z H D I h;exact wpAny_Expr_any (thn (he pins s Z H _ I h) fun v s1 hZ2=>by obtain ⟨x,H1,I1,r1,q1⟩:=hZ2; exact ⟨Z,H1,I1,q1⟩) I.quiet hs
def tRet (te:TE):TS:=fun D Z H=>te Z H D.rt
theorem aF (he:PE X e te):PS X (.Return (some e) pos) (tRet te):=by
 intro pins s Z H D I h;exact wpAny_Return_some (thn (he pins s Z H _ I h) fun v s1 hZ2=>by obtain ⟨x,H1,I1,r1,q1⟩:=hZ2; exact ⟨x,Z,H1,I1,r1,q1⟩)
def tIfS (c:TT) (t u:TS):TS:=fun D Z H=>c Z H fun b H1=>if b=true then t D Z H1 else u D Z H1
theorem rW {c:Expr} {a b:List AR} {tc:TT} (hc:PT X c tc) (ha:PSs X a t) (hb:PSs X b u):PS X (.If c a b pos) (tIfS tc t u):=by
 intro pins s Z H D I h;refine wpAny_If (thn (hc pins s Z H _ I h) fun d s1 hZ2=>?_);obtain ⟨H1,I1,q1⟩:=hZ2;cases d with
 | true=>exact ha pins s1 Z H1 D I1 q1
 | false=>exact hb pins s1 Z H1 D I1 q1
end
abbrev TG:=V->St->Hp->(St->Hp->Prop)->Prop
abbrev TGs:=List V->St->Hp->(St->Hp->Prop)->Prop
def PG (X:Cx) (target:Expr) (t:TG):Prop :=
 ∀ (pins:List (xI×Obj)) (s:xC) (Z:St) (H:Hp) (v:V) (u:xB) (Q:St->Hp->Prop),Inv X pins Z H s->RelV v u->t v Z H Q ->
   wpAny (xW X.prog X.w) X.A (HS target X.env u) (fun _ s'=>∃ Z' H',Inv X pins Z' H' s'/\Q Z' H') X.xe s
def PGs (X:Cx) (ts:List Expr) (t:TGs):Prop :=
 ∀ (pins:List (xI×Obj)) (s:xC) (Z:St) (H:Hp) (vs:List V) (us:List xB) (Q:St->Hp->Prop),Inv X pins Z H s->Vals vs us->t vs Z H Q ->
   wpAny (xW X.prog X.w) X.A (assignInOrder ((FL ts X.env).map (·.2)) us) (fun _ s'=>∃ Z' H',Inv X pins Z' H' s'/\Q Z' H') X.xe s
abbrev wV:=V->V->V->Hp->(Hp->Prop)->Prop
def PSet (X:Cx) (t:wV):Prop :=
 ∀ (pins:List (xI×Obj)) (s:xC) (Z:St) (H:Hp) (o i v:V) (ov iv u:xB) (Q:Hp->Prop),Inv X pins Z H s->RelV o ov->RelV i iv->RelV v u->t o i v H Q ->
   wpAny (xW X.prog X.w) X.A (setItem ov iv u) (fun _ s'=>∃ H',Inv X pins Z H' s'/\Q H') X.xe s
section
variable {X:Cx} {pos:Pos}
def V5 (i:Nat):TG:=fun v Z H Q=>Q (Z.set i (some v)) H
theorem U0 {i:Nat} {x:Str} (hN:X.N.Nodup) (hi:X.N[i]? = some x) (hx:Loc X.env.scope x) (hf:X.fn x=true\/X.env.scope.names.lookup x=some .local:=by first | exact .inl rfl | exact .inr rfl | assumption):PG X (.Name x pos) (V5 i):=by
 intro pins s Z H v u Q I r h;exact wpAny_assign_Name (Wc I hN hi hx r (fun s' I'=>⟨_,H,I',h⟩) hf)
def lR:TGs:=fun vs Z H Q=>vs=[]/\Q Z H
def Gs (t:TG) (u:TGs):TGs:=fun vs Z H Q=>∃ v r,vs=v::r/\t v Z H fun Z' H'=>u r Z' H' Q
theorem Uj:PGs X [] lR:=by
 intro pins s Z H vs us Q I r h;obtain ⟨e,h⟩:=h;subst e;cases r;exact assignInOrder_nil ⟨Z,H,I,h⟩
theorem Bn {e:Expr} {es:List Expr} {t:TG} {u:TGs} (h1:PG X e t) (h2:PGs X es u)
   (hs:(FL (e::es) X.env).map (·.2)=HS e X.env::(FL es X.env).map (·.2):=by rfl):PGs X (e::es) (Gs t u):=by
 intro pins s Z H vs us Q I r h;obtain ⟨v,vr,e1,h⟩:=h;subst e1;cases r with
 | cons r rr =>
   rw [hs]; refine assignInOrder_cons (thn (h1 pins s Z H _ _ _ I r h) fun _ s1 hZ2=>?_);obtain ⟨Z1,H1,I1,q1⟩:=hZ2; exact h2 pins s1 Z1 H1 _ _ Q I1 rr q1
def lQ (K:xF) (n:Nat) (t:TGs):TG:=fun v Z H Q=>∃ a xs,v=.ref a/\SqT K H a xs/\xs.length=n/\t xs Z H Q
theorem aH {es:List Expr} {k:Nat} {t:TGs} {n:Nat} (hc:X.calm=true) (h:PGs X es t)
   (hn:(FL es X.env).length=n:=by rfl) (hst:(FL es X.env).findIdx? (·.1)=none:=by rfl):PG X (.Tuple es k pos) (lQ X.K n t):=by
 intro pins s Z H v u Q I r hw;obtain ⟨a,xs,e1,hq,hl,hw⟩:=hw;subst e1;cases r;obtain ⟨its,rv,ht,hz⟩:=I.tuple hq;refine assign_Tuple_tuple (I.ok.hd hc) ht (by simp [hn,<- hl,rv.length]) hst fun h' hx=>?_;have I1:Inv X pins Z H { s with heap:=h' }:=I.kept (t':=s.toks) fun b o e=>hx b o (yN (xV e)) e;exact h pins _ Z H xs _ Q I1 (by simpa using rv) hw
def gSub (to ti:TE) (t:wV):TG:=fun v Z H Q=>to Z H fun o H1=>ti Z H1 fun i H2=>t o i v H2 fun H3=>Q Z H3
theorem uK {o i:Expr} {to ti:TE} {t:wV} (ho:PE X o to) (hi:PE X i ti) (hs:PSet X t)
   (ha:∀ v,HS (.Subscript o i pos) X.env v=(do
     let ov <- holding [v] (eval o X.env)
     let iv <- holding [v,ov] (eval i X.env)
     standAt pos
     holding [v,ov,iv] (setItem ov iv v)
     release [v,ov,iv] []):=by intro _; rfl):PG X (.Subscript o i pos) (gSub to ti t):=by
 intro pins s Z H v u Q I r h;rw [ha];refine wZ (zE (thn (ho pins s Z H _ I h) fun ov s1 hZ2=>?_));obtain ⟨x,H1,I1,r1,q1⟩:=hZ2;refine wZ (zE (thn (hi pins s1 Z H1 _ I1 q1) fun iv s2 hZ2=>?_));obtain ⟨y,H2,I2,r2,q2⟩:=hZ2;refine wZ (wpAny_standAt (wZ (zE (thn (hs pins s2 Z H2 x y v ov iv u _ I2 r1 r2 r q2) fun _ s3 hZ2=>?_))));obtain ⟨H3,I3,q3⟩:=hZ2;exact wpAny_release ⟨Z,H3,I3,q3⟩
def tJ (te:TE) (g:TG):TS:=fun D Z H=>te Z H fun x H1=>g x Z H1 D.nx
theorem uJ {tg e:Expr} {te:TE} {g:TG} (he:PE X e te) (hg:PG X tg g) (hs:swapsWithSole [tg] e pos.line X.env=pure false:=by rfl) (hw:swappedStores [tg] e X.env=pure none:=by rfl)
   (h1:(FL [tg] X.env).map (·.2)=[HS tg X.env]:=by rfl):PS X (.Assign [tg] e pos) (tJ te g):=by
 intro pins s Z H D I h;refine wpAny_Assign_stores (thn (he pins s Z H _ I h) fun v s1 hY3=>?_) hs hw;obtain ⟨x,H1,I1,r1,q1⟩:=hY3;rw [h1];exact thn (hg pins s1 Z H1 x v _ I1 r1 q1) fun _ s2 q=>q
theorem Ow {i:Nat} {x:Str} {e:Expr} {te:TE} {pos':Pos} (hN:X.N.Nodup) (hi:X.N[i]? = some x) (hx:Loc X.env.scope x) (he:PE X e te) (hs:q9 e (some (.Name x pos')) pos.line X.env=pure false:=by rfl) (hf:X.fn x=true\/X.env.scope.names.lookup x=some .local:=by first | exact .inl rfl | exact .inr rfl | assumption) :
   PS X (.Assign [.Name x pos'] e pos) (tJ te (V5 i)):=by
 intro pins s Z H D I h;refine wpAny_Assign_Name (thn (he pins s Z H _ I h) fun v s1 hY4=>?_) hs;obtain ⟨y,H1,I1,r1,q1⟩:=hY4;exact Wc I1 hN hi hx r1 (fun s2 I2=>⟨_,H1,I2,q1⟩) hf
end
section
variable {X:Cx} {pos:Pos}
def sX (c:TT) (tb:TS):TS:=fun D Z H=>∃ W:Nat->St->Hp->Prop,(∃ m,W m Z H)/\∀ m Z H,W m Z H ->
 c Z H fun b H1=>if b=true then ∃ N:St->Hp->Prop,(∀ Z' H',N Z' H'->∃ m',m' < m/\W m' Z' H')/\tb { D with nx:=N,ct:=N,bk:=D.nx } Z H1 else D.nx Z H1
theorem jP {c:Expr} {body:List AR} {tc:TT} {tb:TS} (hp:PassesOwn (xW X.prog X.w) X.A X.env X.xe) (hc:PT X c tc) (hb:PSs X body tb):PS X (.While c body [] pos) (sX tc tb):=by
 intro pins s Z H D I h;obtain ⟨W,⟨m0,w0⟩,turn⟩:=h;refine wpAny_While (codeAny_whileLoop (fun n s'=>∃ Z' H',Inv X pins Z' H' s'/\W n Z' H') ?_ m0 ⟨Z,H,I,w0⟩);rintro n s1 ⟨Z1,H1,I1,w1⟩;refine BP hp (thn (hc pins s1 Z1 H1 _ I1 (turn n Z1 H1 w1)) fun b s2 hZ2=>?_);obtain ⟨H2,I2,q2⟩:=hZ2;cases b with
 | true =>
   obtain ⟨N,hN,q2⟩:=q2; rw [if_pos rfl]; refine BP hp (thn (hb pins s2 Z1 H2 _ I2 q2) fun f s3 q3=>?_);cases f with
   | next =>
     obtain ⟨Z3,H3,I3,n3⟩:=q3; obtain ⟨m',hm,w3⟩:=hN Z3 H3 n3; exact ⟨m',hm,Z3,H3,I3,w3⟩
   | cont =>
     obtain ⟨Z3,H3,I3,n3⟩:=q3; obtain ⟨m',hm,w3⟩:=hN Z3 H3 n3; exact ⟨m',hm,Z3,H3,I3,w3⟩
   | brk=>exact q3
   | ret v=>exact q3
 | false =>
   rw [if_neg p8]; exact GV ⟨Z1,H2,I2,q2⟩
end
structure It where
 go:Nat->Hp->Prop
 yld:Nat->Hp->V->Hp->Prop
 stop:Nat->Hp->Prop
def Qa (X:Cx) (pins:List (xI×Obj)) (H:Hp) (b:xI):Prop :=
 H b=none/\b≠X.env.locals/\b∉X.fs/\(b∈X.ex\/X.s₀.heap.objs.size<=b)/\(∀ x c,X.env.cells.lookup x=some c->c≠b)/\∀ p∈X.pn++pins,p.1≠b
theorem Inv.fpOk {X:Cx} {pins:List (xI×Obj)} {Z:St} {H H':Hp} {s:xC} {b:xI} (I:Inv X pins Z H s) (hb:s.heap.objs.size<=b) (hn:H' b=none):Qa X pins H' b:=by
 refine ⟨hn,BC (yT I.lt hb),I.nofs hb,.inr (xX I.sz hb),fun x c e z=>?_,fun p hp z=>?_⟩
 . obtain ⟨v,q⟩:=I.cell x c e
   exact absurd (yT q.lt (by rw [z]; exact hb)) (z5 _)
 . exact absurd (yT (xV (I.pin p hp).1) (by rw [z]; exact hb)) (z5 _)
structure Turn (P:yD) (w:yR) (K:xF) (tg:Expr) (J:It) (fp:List xI) (it:xI) (tn:Nat->zN->Prop):Prop where
 mem:it∈fp
 obj:∀ i h,tn i h->∀ b∈fp,∃ o,h.get? b=some o/\∀ v,o.data≠.cell v
 keep:∀ i h h',tn i h->(∀ b∈fp,∀ o,h.get? b=some o->h'.get? b=some o)->tn i h'
 item:∀ (X:Cx),X.prog=P->X.w=w->X.K=K->X.calm=true->∀ (i:Nat) (pins:List (xI×Obj)) (s:xC) (Z:St) (H:Hp) (E:xB->xC->Prop),Inv X pins Z H s->(∀ b∈fp,Qa X pins H b)->tn i s.heap->J.go i H ->
   wpAny (xW P w) X.A (pyNext (.ref it)) (fun r s1=>∃ u,r=some u /\
     wpAny (xW P w) X.A (GW tg (.ref it) u) (fun _ s2=>∃ x H',Inv X pins Z H' s2/\RelV x u/\J.yld i H x H'/\tn (i+1) s2.heap/\∀ b∈fp,H' b=none) E s1) E s
 done:∀ (X:Cx),X.prog=P->X.w=w->X.K=K->X.calm=true->∀ (i:Nat) (pins:List (xI×Obj)) (s:xC) (Z:St) (H:Hp) (E:xB->xC->Prop),Inv X pins Z H s->(∀ b∈fp,Qa X pins H b)->tn i s.heap->J.stop i H ->
   wpAny (xW P w) X.A (pyNext (.ref it)) (fun r s1=>r=none/\Inv X pins Z H s1) E s
 self:∀ (A:zI) (i:Nat) (s:xC) (Q:xB->xC->Prop) (E:xB->xC->Prop),tn i s.heap->Q (.ref it) s->wpAny (xW P w) A (JO (.ref it)) Q E s
abbrev TI:=St->Hp->(It->Hp->Prop)->Prop
def PIE (X:Cx) (pins:List (xI×Obj)) (Z:St) (tg:Expr) (R:It->Hp->Prop) (itv:xB) (s2:xC):Prop :=
 ∃ (it:xI) (fp:List xI) (tn:Nat->zN->Prop) (J:It) (H':Hp),itv=.ref it/\Inv X pins Z H' s2/\Turn X.prog X.w X.K tg J fp it tn/\tn 0 s2.heap/\(∀ b∈fp,Qa X pins H' b)/\R J H'
def PI (X:Cx) (tg iter:Expr) (wi:TI):Prop :=
 ∀ (pins:List (xI×Obj)) (s:xC) (Z:St) (H:Hp) (R:It->Hp->Prop),Inv X pins Z H s->wi Z H R ->
   wpAny (xW X.prog X.w) X.A (eval iter X.env) (fun v s1=>wpAny (xW X.prog X.w) X.A (JO v) (PIE X pins Z tg R) X.xe s1) X.xe s
theorem Sr {M:Model} {A:zI} {E:xB->xC->Prop} {s:xC} {tg:Expr} {it:xI} {u:xB} {o:Obj} {n:String} {vs:Array xB} {Q:Unit->xC->Prop} (ho:s.heap.get? it=some o) (hc:o.cls=.type n) (hd:o.data=.fields vs)
   (hn:["enumerate", "zip", "dict_itemiterator", "dict_reverseitemiterator", "odict_iterator", "itertools.zip_longest", "itertools.pairwise"].contains n=false) (hQ:Q () s):wpAny M A (GW tg (.ref it) u) Q E s:=by
 unfold GW;cases tg <;> first
   | exact xA hQ
   | (cases u <;> first
       | exact xA hQ
       | (refine wZ (LD ho ?_)
          rw [hc,hd]; show wpAny M A (if (["enumerate", "zip", "dict_itemiterator", "dict_reverseitemiterator", "odict_iterator", "itertools.zip_longest", "itertools.pairwise"].contains n&&vs[0]? == some (BJ _))=true then _ else _) Q E s;rw [if_neg (by intro h; rw [hn,Bool.false_and] at h; cases h)];exact xA hQ))
def Itl (K:xF) (a:xI):It :=
 ⟨fun i H=>∃ xs x,SqL K H a xs/\xs[i]? = some x,fun i H x H'=>H'=H/\∀ xs,SqL K H a xs->xs[i]? = some x,fun i H=>∃ xs,SqL K H a xs/\xs.length<=i⟩
def Itt (K:xF) (a:xI):It :=
 ⟨fun i H=>∃ xs x,SqT K H a xs/\xs[i]? = some x,fun i H x H'=>H'=H/\∀ xs,SqT K H a xs->xs[i]? = some x,fun i H=>∃ xs,SqT K H a xs/\xs.length<=i⟩
def Itr (lo:Int) (n:Nat):It:=⟨fun i _=>i < n,fun i H x H'=>H'=H/\x=.int (lo+i),fun i _=>n<=i⟩
theorem eK {P:yD} {w:yR} {K:xF} {tg:Expr} (a it:xI):Turn P w K tg (Itl K a) [it] it (fun i h=>h.IsListIter it a i) where
 mem:=by simp
 obj:=fun i h st b hb=>by
   have e:b=it:=by simpa using hb
   subst e; obtain ⟨o,e,c,d⟩:=st; exact ⟨o,e,fun v z=>by rw [d] at z; cases z⟩
 keep:=fun i h h' st k=>st.at fun o e=>k it (by simp) o e
 item:=by
   intro X hP hw hK hc i pins s Z H E I hf st hg; subst hP hw hK; obtain ⟨xs,x,hq,hx⟩:=hg; obtain ⟨its,rv,p,hz⟩:=I.list hq; obtain ⟨u,hu,ru⟩:=rv.get hx; obtain ⟨f0,f1,f2,f3,f4,f5⟩:=hf it (by simp);refine wpAny_pyNext_list_item st p.isList (x:=u) (by simpa using hu) fun h' st' sb=>?_;have I1:Inv X pins Z H { s with heap:=h' }:=I.turned (t':=s.toks) (fun b o hb e=>(sb.2 b hb).trans e) f0 f1 f3 f4 f5;obtain ⟨o,e,c,d⟩:=id st'; exact ⟨u,rfl,Sr (s:={ s with heap:=h' }) e c d (by decide) ⟨x,H,I1,ru,⟨rfl,fun ys hy=>by rw [I.list_inj hy hq]; exact hx⟩,st',fun b hb=>(hf b hb).1⟩⟩
 done:=by
   intro X hP hw hK hc i pins s Z H E I hf st hg; subst hP hw hK; obtain ⟨xs,hq,hx⟩:=hg; obtain ⟨its,rv,p,hz⟩:=I.list hq; obtain ⟨f0,f1,f2,f3,f4,f5⟩:=hf it (by simp);have hl:=rv.length; exact wpAny_pyNext_list_end (I.ok.hd hc) st p.isList (by simp; lia) fun h' eb=>⟨rfl,I.turned (t':=s.toks) (fun b o hb e=>eb b o hb e) f0 f1 f3 f4 f5⟩
 self:=fun _ _ _ _ _ st h=>wpAny_pyIter_listiter st h
theorem Zo {P:yD} {w:yR} {K:xF} {tg:Expr} (a it:xI):Turn P w K tg (Itt K a) [it] it (fun i h=>h.IsTupleIter it a i) where
 mem:=by simp
 obj:=fun i h st b hb=>by
   have e:b=it:=by simpa using hb
   subst e; obtain ⟨o,e,c,d⟩:=st; exact ⟨o,e,fun v z=>by rw [d] at z; cases z⟩
 keep:=fun i h h' st k=>st.at fun o e=>k it (by simp) o e
 item:=by
   intro X hP hw hK hc i pins s Z H E I hf st hg; subst hP hw hK; obtain ⟨xs,x,hq,hx⟩:=hg; obtain ⟨its,rv,p,hz⟩:=I.tuple hq; obtain ⟨u,hu,ru⟩:=rv.get hx; obtain ⟨f0,f1,f2,f3,f4,f5⟩:=hf it (by simp);refine wpAny_pyNext_tuple_item st (show s.heap.IsTuple a its.toArray from p) (x:=u) (by simpa using hu) fun h' st' sb=>?_;have I1:Inv X pins Z H { s with heap:=h' }:=I.turned (t':=s.toks) (fun b o hb e=>(sb.2 b hb).trans e) f0 f1 f3 f4 f5;obtain ⟨o,e,c,d⟩:=id st'; exact ⟨u,rfl,Sr (s:={ s with heap:=h' }) e c d (by decide) ⟨x,H,I1,ru,⟨rfl,fun ys hy=>by rw [I.tuple_inj hy hq]; exact hx⟩,st',fun b hb=>(hf b hb).1⟩⟩
 done:=by
   intro X hP hw hK hc i pins s Z H E I hf st hg; subst hP hw hK; obtain ⟨xs,hq,hx⟩:=hg; obtain ⟨its,rv,p,hz⟩:=I.tuple hq; obtain ⟨f0,f1,f2,f3,f4,f5⟩:=hf it (by simp);have hl:=rv.length; exact wpAny_pyNext_tuple_end (I.ok.hd hc) st (show s.heap.IsTuple a its.toArray from p) (by simp; lia) fun h' eb=>⟨rfl,I.turned (t':=s.toks) (fun b o hb e=>eb b o hb e) f0 f1 f3 f4 f5⟩
 self:=fun _ _ _ _ _ st h=>wpAny_pyIter_tupleiter st h
theorem Zp {P:yD} {w:yR} {K:xF} {tg:Expr} (it:xI) (lo:Int) (n:Nat):Turn P w K tg (Itr lo n) [it] it (fun i h=>IsRangeIter h it (lo+(i:Nat)*1) ((n:Int) - (i:Nat)) 1) where
 mem:=by simp
 obj:=fun i h st b hb=>by
   have e:b=it:=by simpa using hb
   subst e; exact ⟨_,st,fun v z=>by
     have z':Data.fields _=Data.cell v:=z;cases z'⟩
 keep:=fun i h h' st k=>k it (by simp) _ st
 item:=by
   intro X hP hw hK hc i pins s Z H E I hf st hg; subst hP hw hK; obtain ⟨f0,f1,f2,f3,f4,f5⟩:=hf it (by simp);have W:=Walks.range (prog:=X.prog) (w:=X.w) (I.ok.hd hc) it lo 1 n; refine W.item i s _ _ hg st fun v h' tk hv st' kk=>?_;obtain ⟨t,rfl⟩:=hv; have I1:Inv X pins Z H { s with heap:=h',toks:=tk }:=I.turned (fun b o hb e=>kk b o (by simpa using hb) e) f0 f1 f3 f4 f5;refine ⟨_,rfl,Sr (s:={ s with heap:=h',toks:=tk }) (n := "range_iterator") st' rfl rfl (by decide) ⟨.int (lo+i),H,I1,⟨t,?_⟩,⟨rfl,rfl⟩,st',fun b hb=>(hf b hb).1⟩⟩;rw [Int.mul_one]
 done:=by
   intro X hP hw hK hc i pins s Z H E I hf st hg; subst hP hw hK; obtain ⟨f0,f1,f2,f3,f4,f5⟩:=hf it (by simp);exact wpAny_pyNext_range_end (I.ok.hd hc) st (by have:n<=i:=hg; lia) fun h' eb=>⟨rfl,I.turned (t':=s.toks) (fun b o hb e=>eb b o hb e) f0 f1 f3 f4 f5⟩
 self:=fun _ _ _ _ _ st h=>wpAny_pyIter_rangeiter st h
end L2
namespace L2
open PySem PySem.Spec PyProof.Rows
section
variable {X:Cx} {tg:Expr}
theorem jK {pins:List (xI×Obj)} {Z:St} {H:Hp} {s:xC} {R:It->Hp->Prop} {E:xB->xC->Prop} {lo hi:Int} {t u v:Tok} {tk:Nat} (I:Inv X pins Z H s) (h1 : -(2 ^ 62)<=lo) (h2:lo < 2 ^ 62) (h3 : -(2 ^ 62)<=hi) (h4:hi < 2 ^ 62)
   (q:R (Itr lo (hi - lo).toNat) H):wpAny (xW X.prog X.w) X.A (JO (.ref s.heap.objs.size)) (PIE X pins Z tg R) E { s with heap:=s.heap.push { cls:=.type "range",data:=.fields #[.int lo t,.int hi u,.int 1 v] },toks:=tk }:=by
 refine wpAny_pyIter_range (IsRange.new ..) (small_one h1 h2 h3 h4) ?_;have I1:Inv X pins Z H { s with heap:=s.heap.push { cls:=.type "range",data:=.fields #[.int lo t,.int hi u,.int 1 v] },toks:=tk }:=I.kept fun b o e=>xE _ e;refine ⟨(s.heap.push { cls:=.type "range",data:=.fields #[.int lo t,.int hi u,.int 1 v] }).objs.size,[(s.heap.push { cls:=.type "range",data:=.fields #[.int lo t,.int hi u,.int 1 v] }).objs.size],_,_,H,rfl,
   I1.kept (t':=tk) fun b o e=>xE _ e,Zp _ lo (hi - lo).toNat,?_,fun b hb=>?_,q⟩
 . have e1:lo+((0:Nat):Int)*1=lo:=by simp
   have e2:(((hi - lo).toNat:Nat):Int) - ((0:Nat):Int)=Builtin.Range.rangeSize lo hi 1:=by rw [rangeSize_one]; split <;> lia
   show IsRangeIter _ _ (lo+((0:Nat):Int)*1) ((((hi - lo).toNat:Nat):Int) - ((0:Nat):Int)) 1;rw [e1,e2]; exact xQ _ rfl
 . have e:b=(s.heap.push { cls:=.type "range",data:=.fields #[.int lo t,.int hi u,.int 1 v] }).objs.size:=by simpa using hb
   subst e; exact I1.fpOk (xL _) (I1.hok.fresh (xL _))
def iRng1 (ta:TA):TI:=fun Z H R=>ta Z H fun vs H1=>∃ j:Int,vs=[.int j] /\ -(2 ^ 62)<=j/\j < 2 ^ 62/\R (Itr 0 j.toNat) H1
theorem fB {a:Expr} {ta:TA} {p pos:Pos} (hg:Gl X "range") (hm:X.mg "range" = none) (ha:PA X [a] ta) (hs:xO [a] X.env=[(false,eval a X.env)]:=by rfl):PI X tg (.Call (.Name "range" p) [a] [] pos) (iRng1 ta):=by
 intro pins s Z H R I h;refine Call_ (Pe I hg hm boot_range (AS (thn (ha pos pins s Z H _ I h) fun us s1 hY6=>?_) hs rfl));obtain ⟨vs,H1,I1,r1,q1⟩:=hY6;obtain ⟨j,e,q1,q2,q⟩:=q1;subst e;cases r1 with
 | cons r rr =>
   cases rr; obtain ⟨t,rfl⟩:=r; exact call_range_1 (jK I1 (by lia) (by lia) q1 q2 (by simpa using q))
def tFor (wi:TI) (g:TG) (tb:TS):TS:=fun D Z H=>wi Z H fun J H1=>∃ W:Nat->Nat->St->Hp->Prop,(∃ m,W 0 m Z H1)/\∀ i m Z H,W i m Z H ->
 (J.stop i H/\D.nx Z H)\/(J.go i H/\∃ N:St->Hp->Prop,(∀ Z' H',N Z' H'->∃ m',m' < m/\W (i+1) m' Z' H')/\∀ x H',J.yld i H x H'->g x Z H' fun Z2 H2=>tb { D with nx:=N,ct:=N,bk:=D.nx } Z2 H2)
def Ox (fp:List xI) (h:zN):List (xI×Obj):=fp.filterMap fun b=>(h.get? b).map fun o=>(b,o)
theorem Ho {fp:List xI} {h:zN} {b:xI} {o:Obj} (hb:b∈fp) (e:h.get? b=some o):(b,o)∈Ox fp h:=CL.mpr ⟨b,hb,by rw [e]; rfl⟩
theorem fG {fp:List xI} {h:zN} {p:xI×Obj} (hp:p∈Ox fp h):p.1∈fp/\h.get? p.1=some p.2:=by
 obtain ⟨b,hb,e⟩:=CL.mp hp;cases q:h.get? b with
 | none=>rw [q] at e; cases e
 | some o =>
   rw [q] at e; have e':(b,o)=p:=zB e; subst e'; exact ⟨hb,q⟩
theorem Inv.pinned {pins:List (xI×Obj)} {Z:St} {H:Hp} {s:xC} {fp:List xI} (I:Inv X pins Z H s) (hf:∀ b∈fp,Qa X pins H b) (ho:∀ b∈fp,∃ o,s.heap.get? b=some o/\∀ v,o.data≠.cell v):Inv X (pins++Ox fp s.heap) Z H s :=
 I.pins_of fun p hp=>(xK.mp hp).elim (fun z=>I.pin p (p6 _ z)) fun z=>by
   obtain ⟨hb,e⟩:=fG z; obtain ⟨f0,f1,f2,_⟩:=hf p.1 hb; obtain ⟨o,e',d⟩:=ho p.1 hb; rw [e] at e'; cases e'; exact ⟨e,f0,f1,f2,d⟩
theorem Inv.unpinned {pins pl:List (xI×Obj)} {Z:St} {H:Hp} {s:xC} (I:Inv X (pins++pl) Z H s):Inv X pins Z H s:=I.pins_of fun p hp=>I.pin p (p6 _ (GM _ hp))
theorem jQ {iter:Expr} {body:List AR} {wi:TI} {g:TG} {tb:TS} {pos:Pos} (hp:PassesOwn (xW X.prog X.w) X.A X.env X.xe) (hc:X.calm=true) (hi:PI X tg iter wi) (hg:PG X tg g) (hb:PSs X body tb)
   (hs:∀ x,a9 iter X.env x=pure x:=by intro _; rfl):PS X (.For tg iter body [] pos) (tFor wi g tb):=by
 intro pins s Z H D I h;refine wpAny_For (thn (hi pins s Z H _ I h) fun v s1 h1=>thn h1 fun itv s2 h2=>?_) hs;obtain ⟨it,fp,tn,J,H2,e,I2,T,st2,f2,W,⟨m0,w0⟩,turn⟩:=h2;subst e;have stat:∀ {H':Hp},(∀ b∈fp,H' b=none)->∀ b∈fp,Qa X pins H' b:=fun hn b hb=>⟨hn b hb,(f2 b hb).2⟩;refine codeAny_forLoop_any (fun n s'=>∃ i Z' H',Inv X pins Z' H' s'/\tn i s'.heap/\(∀ b∈fp,H' b=none)/\W i n Z' H') ?_ m0 ⟨0,Z,H2,I2,st2,fun b hb=>(f2 b hb).1,w0⟩;rintro n s3 ⟨i,Z3,H3,I3,st3,fr3,w3⟩;rcases turn i n Z3 H3 w3 with ⟨stop,qn⟩ | ⟨go,N,hN,step⟩
 . refine BP hp (thn (T.done X rfl rfl rfl hc i pins s3 Z3 H3 X.xe I3 (stat fr3) st3 stop) fun r s4 hZ2=>?_)
   obtain ⟨hr,I4⟩:=hZ2; subst hr; exact GV ⟨Z3,H3,I4,qn⟩
 . refine BP hp (thn (T.item X rfl rfl rfl hc i pins s3 Z3 H3 X.xe I3 (stat fr3) st3 go) fun r s4 hZ2=>?_)
   obtain ⟨u,hr,h4⟩:=hZ2; subst hr; refine BP hp (thn h4 fun _ s5 hZ2=>?_);obtain ⟨x,H5,I5,r5,y5,st5,fr5⟩:=hZ2; have I5':=I5.pinned (stat fr5) (T.obj _ _ st5); refine BP hp (thn (hg _ s5 Z3 H5 x u _ I5' r5 (step x H5 y5)) fun _ s6 hZ2=>?_);obtain ⟨Z6,H6,I6,q6⟩:=hZ2; refine BP hp (thn (hb _ s6 Z6 H6 _ I6 q6) fun f s7 q7=>?_);have again:∀ {Z7:St} {H7:Hp},Inv X (pins++Ox fp s5.heap) Z7 H7 s7->N Z7 H7->∃ m,m < n/\∃ i Z' H',Inv X pins Z' H' s7/\tn i s7.heap/\(∀ b∈fp,H' b=none)/\W i m Z' H':=fun {Z7 H7} I7 n7=>by
     obtain ⟨m',hm,w7⟩:=hN Z7 H7 n7; refine ⟨m',hm,i+1,Z7,H7,I7.unpinned,T.keep _ _ _ st5 fun b hb o e=>(I7.pin (b,o) (p6 _ (p6 _ (Ho hb e)))).1,fun b hb=>?_,w7⟩;obtain ⟨o,e,d⟩:=T.obj _ _ st5 b hb; exact (I7.pin (b,o) (p6 _ (p6 _ (Ho hb e)))).2.1
   cases f with
   | next=>obtain ⟨Z7,H7,I7,n7⟩:=q7; exact again I7 n7
   | cont=>obtain ⟨Z7,H7,I7,n7⟩:=q7; exact again I7 n7
   | brk=>obtain ⟨Z7,H7,I7,q7⟩:=q7; exact ⟨Z7,H7,I7.unpinned,q7⟩
   | ret v=>obtain ⟨x7,Z7,H7,I7,r7,q7⟩:=q7; exact ⟨x7,Z7,H7,I7.unpinned,r7,q7⟩
end
end L2
namespace L2
open PySem PySem.Spec PyProof.Rows
abbrev R2:=V->V->Hp->VK->Prop
def OpR (X:Cx) (f:xB->xB->Sem xB) (r:R2):Prop :=
 ∀ (pins:List (xI×Obj)) (s:xC) (Z:St) (H:Hp) (x y:V) (v u:xB) (Q:VK),Inv X pins Z H s->RelV x v->RelV y u->r x y H Q ->
   wpAny (xW X.prog X.w) X.A (f v u) (EP X pins Z Q) X.xe s
def UnR (X:Cx) (f:xB->Sem xB) (r:V->Hp->VK->Prop):Prop :=
 ∀ (pins:List (xI×Obj)) (s:xC) (Z:St) (H:Hp) (x:V) (v:xB) (Q:VK),Inv X pins Z H s->RelV x v->r x H Q ->
   wpAny (xW X.prog X.w) X.A (f v) (EP X pins Z Q) X.xe s
def Y7 (X:Cx) (f:xB) (r:List V->Hp->VK->Prop):Prop :=
 ∀ (pins:List (xI×Obj)) (s:xC) (Z:St) (H:Hp) (xs:List V) (us:List xB) (Q:VK),Inv X pins Z H s->Vals xs us->r xs H Q ->
   wpAny (xW X.prog X.w) X.A (call f us) (EP X pins Z Q) X.xe s
def TruR (X:Cx) (r:V->Hp->(Bool->Hp->Prop)->Prop):Prop :=
 ∀ (pins:List (xI×Obj)) (s:xC) (Z:St) (H:Hp) (x:V) (v:xB) (Q:Bool->Hp->Prop),Inv X pins Z H s->RelV x v->r x H Q ->
   wpAny (xW X.prog X.w) X.A (truthy v) (TP X pins Z Q) X.xe s
def tOp (r:R2) (ta tb:TE):TE:=fun Z H Q=>ta Z H fun x H1=>tb Z H1 fun y H2=>r x y H2 Q
def tUn (r:V->Hp->VK->Prop) (ta:TE):TE:=fun Z H Q=>ta Z H fun x H1=>r x H1 Q
def rI (C:Int->Int->Prop) (g:Int->Int->V):R2:=fun x y H Q=>∃ i j,x=.int i/\y=.int j/\C i j/\Q (g i j) H
def rU (g:Int->V):V->Hp->VK->Prop:=fun x H Q=>∃ i,x=.int i/\Q (g i) H
section
variable {X:Cx} {a b:Expr} {ta tb:TE} {pos:Pos}
theorem wS (ha:PE X a ta) (hb:PE X b tb) {pins:List (xI×Obj)} {s:xC} {Z:St} {H:Hp} {R:V->V->Hp->Prop} (I:Inv X pins Z H s)
   (h:ta Z H fun x H1=>tb Z H1 fun y H2=>R x y H2) {Q:xB->xC->Prop} {f:xB->xB->Sem xB}
   (hf:∀ v u s2 x y H2,Inv X pins Z H2 s2->RelV x v->RelV y u->R x y H2->wpAny (xW X.prog X.w) X.A (f v u) Q X.xe s2) :
   wpAny (xW X.prog X.w) X.A (eval a X.env) (fun v s₁=>wpAny (xW X.prog X.w) X.A (eval b X.env) (fun u s₂=>wpAny (xW X.prog X.w) X.A (f v u) Q X.xe s₂) X.xe s₁) X.xe s:=by
 refine thn (ha pins s Z H _ I h) fun v s1 hZ2=>?_;obtain ⟨x,H1,I1,r1,q1⟩:=hZ2;refine thn (hb pins s1 Z H1 _ I1 q1) fun u s2 hZ2=>?_;obtain ⟨y,H2,I2,r2,q2⟩:=hZ2;exact hf v u s2 x y H2 I2 r1 r2 q2
theorem pe_op {op:Operator} {r:R2} (ho:OpR X (GH op) r) (ha:PE X a ta) (hb:PE X b tb):PE X (.BinOp a op b pos) (tOp r ta tb):=by
 intro pins s Z H Q I h;exact wpAny_BinOp (wS ha hb I h fun v u s2 x y H2 I2 rx ry q=>ho pins s2 Z H2 x y v u Q I2 rx ry q)
theorem pe_un {op:UnaryOp} {r:V->Hp->VK->Prop} (ho:UnR X (unaryOp op) r) (ha:PE X a ta):PE X (.UnaryOp op a pos) (tUn r ta):=by
 intro pins s Z H Q I h;exact UnaryOp_ (thn (ha pins s Z H _ I h) fun v s1 hZ2=>by obtain ⟨x,H1,I1,r1,q1⟩:=hZ2; exact ho pins s1 Z H1 x v Q I1 r1 q1)
theorem opI {f:xB->xB->Sem xB} {C:Int->Int->Prop} {g:Int->Int->Int}
   (rule:∀ (i j:Int) (t u:Tok) (s:xC) (Q:xB->xC->Prop) (E:xB->xC->Prop),C i j->Q (.int (g i j) s.toks) { s with toks:=s.toks+1 }->wpAny (xW X.prog X.w) X.A (f (.int i t) (.int j u)) Q E s) :
   OpR X f (rI C fun i j=>.int (g i j)):=by
 intro pins s Z H x y v u Q I rx ry h;obtain ⟨i,j,rfl,rfl,hc,q⟩:=h;obtain ⟨t,rfl⟩:=rx;obtain ⟨t',rfl⟩:=ry;exact rule i j t t' s _ _ hc ⟨.int (g i j),H,I.tok _,⟨_,rfl⟩,q⟩
def CDiv (i j:Int):Prop:=0 < j/\j < 1073741824
def CMul (i j:Int):Prop:=(-(2 ^ 64) < i/\i < 2 ^ 64)\/(-(2 ^ 64) < j/\j < 2 ^ 64)
theorem CMul.ok {i j:Int} (h:CMul i j):IntMulOk i j:=by
 rcases h with ⟨h1,h2⟩ | ⟨h1,h2⟩
 . exact .of_left (intBits_le_64 h1 h2)
 . exact .of_right (intBits_le_64 h1 h2)
theorem pA:OpR X (GH .FloorDiv) (rI CDiv fun i j=>.int (i / j)):=opI fun i j _ _ _ _ _ hc q=>by
 have h1:(0:Int) < j:=hc.1;have h2:j < 1073741824:=hc.2;exact floordiv_int (by lia) (by rw [Int.fdiv_eq_ediv_of_nonneg i (by lia)]; exact q) (.inl (PyProof.noPylong_small (by lia)))
theorem uV:OpR X (GH .Mod) (rI (fun _ j=>0 < j) fun i j=>.int (i % j)):=opI fun i j _ _ _ _ _ hc q=>by
 have h1:(0:Int) < j:=hc;exact mod_int' (by lia) (by rw [Int.fmod_eq_emod_of_nonneg i (by lia)]; exact q)
theorem unI {f:xB->Sem xB} {g:Int->Int}
   (rule:∀ (i:Int) (t:Tok) (s:xC) (Q:xB->xC->Prop) (E:xB->xC->Prop),Q (.int (g i) s.toks) { s with toks:=s.toks+1 }->wpAny (xW X.prog X.w) X.A (f (.int i t)) Q E s) :
   UnR X f (rU fun i=>.int (g i)):=by
 intro pins s Z H x v Q I rx h;obtain ⟨i,rfl,q⟩:=h;obtain ⟨t,rfl⟩:=rx;exact rule i t s _ _ ⟨.int (g i),H,I.tok _,⟨_,rfl⟩,q⟩
theorem sR:UnR X (unaryOp .USub) (rU fun i=>.int (-i)):=unI fun _ _ _ _ _ q=>neg_int q
end
section
variable {X:Cx} {a b c:Expr} {ta tb:TE} {pos:Pos}
theorem Kk (b:Expr) {op:z6} (h:op≠.In:=by decide) (h2:op≠.NotIn:=by decide):behindInMarks op b=false:=by
 have e1:(op==CmpOp.In)=false:=by cases op <;> first | rfl | exact absurd rfl h
 have e2:(op==CmpOp.NotIn)=false:=by cases op <;> first | rfl | exact absurd rfl h2
 cases b <;> simp [behindInMarks,e1,e2]
theorem oV {op:z6} {r:R2} (ho:OpR X (o5 op) r) (ha:PE X a ta) (hb:PE X b tb) (hm:behindInMarks op b=false):PE X (.Compare a [op] [b] pos) (tOp r ta tb):=by
 intro pins s Z H Q I h;exact wpAny_Compare1 (wS ha hb I h fun v u s2 x y H2 I2 rx ry q=>ho pins s2 Z H2 x y v u Q I2 rx ry q) hm
def tTest (t:TE):TT:=fun Z H Q=>t Z H fun x H'=>∃ k,x=.bl k/\Q k H'
theorem oM {op:z6} {r:R2} (ho:OpR X (o5 op) r) (ha:PE X a ta) (hb:PE X b tb) (hm:behindInMarks op b=false):PT X (.Compare a [op] [b] pos) (tTest (tOp r ta tb)):=by
 intro pins s Z H Q I h;refine wpAny_isTrue_Compare1 (thn (ha pins s Z H _ I h) fun v s1 hY8=>?_) hm;obtain ⟨x,H1,I1,r1,q1⟩:=hY8;refine thn (hb pins s1 Z H1 _ I1 q1) fun u s2 hY9=>?_;obtain ⟨y,H2,I2,r2,q2⟩:=hY9;refine thn (ho pins s2 Z H2 x y v u _ I2 r1 r2 q2) fun c s3 hY10=>?_;obtain ⟨z,H3,I3,r3,k,e,q3⟩:=hY10;subst e;cases r3;exact BU ⟨H3,I3,q3⟩
def wU (K:xF) (x:V) (H:Hp) (k:Bool):Prop :=
 match x with
 | .non=>k=false
 | .bl b=>k=b
 | .int i=>k=(i != 0)
 | .str y=>y.length<=sizeLine/\k=((y.length:Int) != 0)
 | .byt y=>y.size<=sizeLine/\k=((y.size:Int) != 0)
 | .ref p=>(∃ xs,SqL K H p xs/\k = !xs.isEmpty)\/(∃ xs,SqT K H p xs/\k = !xs.isEmpty)\/∃ kvs,H p=some (.dK kvs)/\k = !kvs.isEmpty
 | _=>False
theorem aO {κ:Type} {kvs:List (κ×V)} {vs:List (κ×xB)} (r:KV kvs vs):(!vs.isEmpty) = !kvs.isEmpty:=by
 cases r <;> rfl
theorem Pg {xs:List V} {its:List xB} (r:Vals xs its):(!its.toArray.isEmpty) = !xs.isEmpty:=by
 cases r <;> simp
theorem Eb:(sizeLine:Nat) < 2 ^ 63:=by rw [AJ]; decide
theorem sS:TruR X (fun x H Q=>∃ k,wU X.K x H k/\Q k H):=by
 intro pins s Z H x v Q I rx h;obtain ⟨k,e,q⟩:=h;have hl:=Eb;have hs:sizeLine=16777216:=AJ;cases x with
 | non =>
   cases rx; have e':k=false:=e; subst e'; exact truthy_none ⟨H,I,q⟩
 | bl b =>
   cases rx; have e':k=b:=e; subst e'; exact BU ⟨H,I,q⟩
 | int i =>
   obtain ⟨t,rfl⟩:=rx; have e':k=(i != 0):=e; subst e'; exact PySem.P.truthy_int ⟨H,I,q⟩
 | str y =>
   obtain ⟨t,rfl⟩:=rx; obtain ⟨hy,e'⟩:y.length<=sizeLine/\k=((y.length:Int) != 0):=e; subst e'; exact PySem.P.truthy_str (by lia) ⟨H,I.tok _,q⟩
 | byt y =>
   obtain ⟨t,rfl⟩:=rx; obtain ⟨hy,e'⟩:y.size<=sizeLine/\k=((y.size:Int) != 0):=e; subst e'; exact PySem.W.truthy_bytes (by lia) ⟨H,I.tok _,q⟩
 | ref p =>
   cases rx; have e':(∃ xs,SqL X.K H p xs/\k = !xs.isEmpty)\/(∃ xs,SqT X.K H p xs/\k = !xs.isEmpty)\/∃ kvs,H p=some (.dK kvs)/\k = !kvs.isEmpty:=e; rcases e' with ⟨xs,hx,e'⟩ | ⟨xs,hx,e'⟩ | ⟨kvs,hx,e'⟩
   . subst e'
     obtain ⟨its,r,pl,hz⟩:=I.list hx; have hlen:=r.length; exact wpAny_truthy_list pl.isList (by simp only [xU]; lia) ⟨H,I.tok _,by rw [Pg r]; exact q⟩
   . subst e'
     obtain ⟨its,r,pl,hz⟩:=I.tuple hx; have hlen:=r.length; exact truthy_tuple pl (by simp only [xU]; lia) ⟨H,I.tok _,by rw [Pg r]; exact q⟩
   . subst e'
     obtain ⟨hz,hS,vs,r,m⟩:kvs.length<=sizeLine/\(p==o0)=false/\∃ vs,KV kvs vs/\s.heap.DictOf (Um X.prog X.w) p vs:=I.hok p _ hx; have hlen:kvs.length=vs.length:=Paired.length r; exact wpAny_truthy_dict hS m (by lia) ⟨H,I.tok _,by rw [aO r]; exact q⟩
 | _=>exact (show False from e).elim
theorem Wy (ha:PE X a ta) (he:∀ whole,isTrue a X.env whole=(do let v <- whole; standAt a.pos; holding [v] (truthy v))) :
   PT X a (fun Z H Q=>ta Z H fun x H'=>∃ k,wU X.K x H' k/\Q k H'):=by
 intro pins s Z H Q I h;exact isTrue_plain (thn (ha pins s Z H _ I h) fun v s1 hZ2=>by obtain ⟨x,H1,I1,r1,q1⟩:=hZ2; exact sS pins s1 Z H1 x v Q I1 r1 q1) (he _)
theorem Vr {x:V} {us:List xB} (r:Vals [x] us):∃ u,us=[u]/\RelV x u:=by
 cases r with
 | cons r1 r2=>cases r2; exact ⟨_,rfl,r1⟩
theorem vals2 {x y:V} {us:List xB} (r:Vals [x,y] us):∃ u w',us=[u,w']/\RelV x u/\RelV y w':=by
 cases r with
 | cons r1 r2 =>
   cases r2 with
   | cons r3 r4=>cases r4; exact ⟨_,_,rfl,r1,r3⟩
theorem gP (hc:X.calm=true):Y7 X (.builtin "max") (fun xs H Q=>∃ i j,xs=[.int i,.int j]/\Q (.int (if j>i then j else i)) H):=by
 intro pins s Z H xs us Q I r h;obtain ⟨i,j,rfl,q⟩:=h;obtain ⟨u,w',rfl,⟨t,rfl⟩,⟨t',rfl⟩⟩:=vals2 r;refine max_two_ints (I.ok.hd hc) fun h' tk k=>⟨_,H,I.kept k,?_,q⟩;by_cases hj:j>i
 . rw [if_pos hj,if_pos hj]; exact ⟨_,rfl⟩
 . rw [if_neg hj,if_neg hj]; exact ⟨_,rfl⟩
theorem Tc:Y7 X (.type "int") (fun xs H Q=>(∃ i,xs=[.int i]/\Q (.int i) H)\/∃ k,xs=[.bl k]/\Q (.int (if k then 1 else 0)) H):=by
 intro pins s Z H xs us Q I r h;rcases h with ⟨i,rfl,q⟩ | ⟨k,rfl,q⟩
 . obtain ⟨u,rfl,t,rfl⟩:=Vr r
   exact call_int_int ⟨.int i,H,I,⟨_,rfl⟩,q⟩
 . obtain ⟨u,rfl,r1⟩:=Vr r
   cases r1; exact call_int_bool ⟨.int (if k then 1 else 0),H,I.tok _,⟨_,rfl⟩,q⟩
def LenV (K:xF) (x:V) (H:Hp) (n:Nat):Prop :=
 match x with
 | .str y=>y.length<=sizeLine/\n=y.length
 | .byt y=>y.size<=sizeLine/\n=y.size
 | .ref p=>(∃ xs,SqL K H p xs/\n=xs.length)\/∃ xs,SqT K H p xs/\n=xs.length
 | _=>False
theorem Pp:Y7 X (.builtin "len") (fun xs H Q=>∃ x n,xs=[x]/\LenV X.K x H n/\Q (.int n) H):=by
 intro pins s Z H xs us Q I r h;obtain ⟨x,n,rfl,e,q⟩:=h;obtain ⟨u,rfl,rx⟩:=Vr r;have hl:=Eb;have hs:sizeLine=16777216:=AJ;cases x with
 | str y =>
   obtain ⟨t,rfl⟩:=rx; obtain ⟨hy,e'⟩:y.length<=sizeLine/\n=y.length:=e; subst e'; exact len_str (by lia) ⟨.int _,H,I.tok _,⟨_,rfl⟩,q⟩
 | byt y =>
   obtain ⟨t,rfl⟩:=rx; obtain ⟨hy,e'⟩:y.size<=sizeLine/\n=y.size:=e; subst e'; exact PySem.W.len_bytes (by lia) ⟨.int _,H,I.tok _,⟨_,rfl⟩,q⟩
 | ref p =>
   cases rx; have e':(∃ xs,SqL X.K H p xs/\n=xs.length)\/∃ xs,SqT X.K H p xs/\n=xs.length:=e; rcases e' with ⟨xs,hx,e'⟩ | ⟨xs,hx,e'⟩
   . subst e'
     obtain ⟨its,r',pl,hz⟩:=I.list hx; have hlen:=r'.length; exact Calls.call_len_list pl.isList (by simp only [xU]; lia) ⟨.int xs.length,H,I.tok _,⟨_,by simp only [xU]; rw [hlen]⟩,q⟩
   . subst e'
     obtain ⟨its,r',pl,hz⟩:=I.tuple hx; have hlen:=r'.length; exact len_tuple pl (by simp only [xU]; lia) ⟨.int xs.length,H,I.tok _,⟨_,by simp only [xU]; rw [hlen]⟩,q⟩
 | _=>exact (show False from e).elim
end
end L2
namespace L2
open PySem PySem.Spec PyProof.Rows
end L2
namespace L2
open PySem PySem.Spec PyProof.Rows
structure Room (k:Nat) (A:zI):Prop where
 hd:A.handled=none
 dp:A.depth+3*k+5 < recursionLimit
 un:A.units+16*k+200 < m9
 gd:A.guards=some []
theorem Room.mono {j k:Nat} {A:zI} (r:Room k A) (h:j<=k):Room j A:=⟨r.hd,by have:=r.dp; lia,by have:=r.un; lia,r.gd⟩
theorem Room.deeper {k:Nat} {A:zI} (r:Room (k+1) A) (env:Env):Room k (A.deeper env) :=
 ⟨r.hd,by have:=r.dp; show A.depth+1+3*k+5 < _; lia,by have:=r.un; show A.units+3+16*k+200 < _; lia,r.gd⟩
theorem Room.depth {k:Nat} {A:zI} (r:Room k A):A.depth < recursionLimit:=by have:=r.dp; lia
theorem Room.units {k:Nat} {A:zI} (r:Room k A):A.units+64 < m9:=by have:=r.un; lia
def tNil:TA:=fun _ H Q=>Q [] H
def tCons (ta:TE) (tr:TA):TA:=fun Z H Q=>ta Z H fun x H1=>tr Z H1 fun xs H2=>Q (x::xs) H2
section
variable {X:Cx} {e:Expr} {es:List Expr} {te:TE} {t:TA} {pos:Pos}
theorem R0:PA X [] tNil:=fun _ _ _ _ H Q I h=>EZ ⟨[],H,I,.nil,h⟩
theorem L7 (ha:PE X e te) (hr:PA X es t) (hs:xO (e::es) X.env=(false,eval e X.env)::xO es X.env:=by rfl):PA X (e::es) (tCons te t):=by
 intro pos pins s Z H Q I h;rw [hs];show wpAny _ _ (spliced ((false,eval e X.env)::i6 pos (xO es X.env))) _ _ s;refine AV (thn (ha pins s Z H _ I h) fun u s1 hZ2=>?_);obtain ⟨x,H1,I1,r1,q1⟩:=hZ2;exact thn (hr pos pins s1 Z H1 _ I1 q1) fun us s2 hZ2=>by obtain ⟨xs,H2,I2,r2,q2⟩:=hZ2; exact ⟨x::xs,H2,I2,.cons r1 r2,q2⟩
def tTup (t:TA):TE:=fun Z H Q=>t Z H fun xs H1=>xs.length<=sizeLine/\∀ p,H1 p=none->Q (.ref p) (upd H1 p (.tup xs))
def tLst (t:TA):TE:=fun Z H Q=>t Z H fun xs H1=>xs.length<=sizeLine/\∀ p,H1 p=none->Q (.ref p) (upd H1 p (.lst xs))
theorem uL {x1} (h:PA X es t):PE X (.Tuple es x1 pos) (tTup t):=by
 intro pins s Z H Q I hq;refine wpAny_Tuple_spliced (thn (h pos pins s Z H _ I hq) fun us s1 hY22=>?_);obtain ⟨xs,H1,I1,r,z,q⟩:=hY22;refine ⟨by rw [<- r.length]; exact z,?_⟩;have hf:H1 s1.heap.objs.size=none:=I1.hok.fresh (xL _);refine ⟨.ref s1.heap.objs.size,upd H1 s1.heap.objs.size (.tup xs),I1.laid (t':=s1.toks) (fun b u e=>xE _ e) (xL _) ?_,rfl,q _ hf⟩;exact ⟨z,us,r,⟨_,xQ _ rfl,rfl,_,rfl⟩⟩
theorem jW (h:PA X es t):PE X (.List es pos) (tLst t):=by
 intro pins s Z H Q I hq;refine wpAny_List_spliced (thn (h pos pins s Z H _ I hq) fun us s1 hY23=>?_);obtain ⟨xs,H1,I1,r,z,q⟩:=hY23;refine ⟨by rw [<- r.length]; exact z,?_⟩;have hf:H1 s1.heap.objs.size=none:=I1.hok.fresh (xL _);refine ⟨.ref s1.heap.objs.size,upd H1 s1.heap.objs.size (.lst xs),I1.laid (t':=s1.toks) (fun b u e=>xE _ e) (xL _) ?_,rfl,q _ hf⟩;exact ⟨z,us,0,r,xQ _ rfl⟩
end
abbrev Sp:=List V->Hp->VK->XK->Prop
abbrev CXT:=List Env->Hp->xC->XK->xB->xC->Prop
structure Env0 (P:yD) (w:yR) (K:xF) (mg:Str->Option xB) (base:zN) (A:zI) (outer:List Env) (s:xC) (H:Hp):Prop where
 frames:A.frames=some outer
 mod:Mod K mg base
 bs:∀ b o,base.get? b=some o->s.heap.get? b=some o/\H b=none
 bsz:base.objs.size<=s.heap.objs.size
 funs:s.heap.FunFrames base outer
 frf:∀ b∈frs outer,H b=none
 hok:HOk P w H s.heap
 bare:GU s.gens
def CE (outer:List Env) (P:yD) (w:yR) (H:Hp) (s:xC) (Q:VK) (u:xB) (s':xC):Prop :=
 ∃ v H',s'.os=s.os/\GU s'.gens/\Un (frs outer) [] H H' s.heap s'.heap/\HOk P w H' s'.heap/\RelV v u/\Q v H'
def CR (CX:CXT) (outer:List Env) (P:yD) (w:yR) (H:Hp) (s:xC) (Q:VK) (E:XK) (r:Result) (s':xC):Prop :=
 match r with
 | .ok (.ret u)=>CE outer P w H s Q u s'
 | .ok _=>False
 | .error e=>CX outer H s E e s'
structure FnOk (P:yD) (w:yR) (K:xF) (mg:Str->Option xB) (base:zN) (CX:CXT) (k:Nat) (f:xI) (fd:DZ) (ps:List Str) (sp:Sp):Prop where
 len:∀ vs H Q E,sp vs H Q E->vs.length=ps.length
 run:∀ (A:zI) (outer:List Env) (s:xC) (H:Hp) (args:Args) (us:List xB) (vs:List V) (Q:VK) (E:XK),Room k A->Env0 P w K mg base A outer s H->BindsTo s fd args (ps.zip us)->Vals vs us->sp vs H Q E ->
   EJ (xW P w) A (.call (.ref f) args) (CR CX outer P w H s Q E) s
section
variable {X:Cx} {pins:List (xI×Obj)} {Z:St} {H:Hp} {s s':xC}
theorem Inv.env0 (I:Inv X pins Z H s):Env0 X.prog X.w X.K X.mg X.base X.A X.stack s H :=
 ⟨I.ok.frames,I.ok.mod,I.bs,xX I.ok.bsz I.sz,I.stack,I.stkFree,I.hok,I.bare⟩
theorem Inv.after {Q:VK} {u:xB} (I:Inv X pins Z H s) (h:CE X.stack X.prog X.w H s Q u s'):EP X pins Z Q u s':=by
 obtain ⟨v,H',os,bare,un,hok,r,q⟩:=h;obtain ⟨hh,g,d,t,os'⟩:=s';obtain rfl:os'=s.os:=os;exact ⟨v,H',I.call (h':=hh) (g':=g) (d':=d) (t':=t) (ch:=[]) un hok bare (fun b z=>absurd z (by simp)),r,q⟩
end
def tCall (sp:Sp) (dvs:List V) (E:XK) (t:TA):TE:=fun Z H Q=>t Z H fun vs H1=>sp (vs++dvs) H1 Q E
def Binds (K:xF) (fd:DZ) (ps:List Str) (ds:List xB):Prop :=
 ∀ (s:xC) (us:List xB),K.In s.heap->(us++ds).length=ps.length->BindsTo s fd ⟨us,[]⟩ (ps.zip (us++ds))
theorem Binds.all {K:xF} {fd:DZ} {ps:List Str} (h:∀ us:List xB,us.length=ps.length->GG fd ⟨us,[]⟩=pure (ps.zip us)):Binds K fd ps []:=fun s us _ hl=>by
 rw [yL] at hl ⊢;exact .of_eq (h us hl)
def bK (CX:CXT) (X:Cx) (E:XK):Prop:=∀ (pins:List (xI×Obj)) (Z:St) (H:Hp) (s:xC) (e:xB) (s':xC),Inv X pins Z H s->CX X.stack H s E e s'->X.xe e s'
section
variable {X:Cx} {CX:CXT} {k:Nat} {f:xI} {fd:DZ} {ps:List Str} {sp:Sp} {dvs:List V} {ds:List xB} {E:XK} {x:Str} {p pos:Pos} {e:Expr} {es:List Expr} {t:TA}
theorem tW {pins:List (xI×Obj)} {Z:St} {H:Hp} {s:xC} {Q:VK} {us:List xB} {vs:List V} (F:FnOk X.prog X.w X.K X.mg X.base CX k f fd ps sp) (hr:Room k X.A) (hb:Binds X.K fd ps ds) (hd:Vals dvs ds) (hx:bK CX X E)
   (I:Inv X pins Z H s) (r:Vals vs us) (h:sp (vs++dvs) H Q E):wpAny (xW X.prog X.w) X.A (call (.ref f) us) (EP X pins Z Q) X.xe s:=by
 have r2:Vals (vs++dvs) (us++ds):=r.append hd;have hl:(us++ds).length=ps.length:=by rw [<- r2.length]; exact F.len _ _ _ _ h
 refine wpAny_call (AK (F.run X.A X.stack s H ⟨us,[]⟩ (us++ds) (vs++dvs) Q E hr I.env0 (hb s us I.kIn hl) r2 h) fun r s' hq=>?_);cases r with
 | error e=>exact hx pins Z H s e s' I hq
 | ok fl =>
   cases fl with
   | ret u=>exact I.after hq
   | next=>exact BQ hq
   | brk=>exact BQ hq
   | cont=>exact BQ hq
theorem Mo (F:FnOk X.prog X.w X.K X.mg X.base CX k f fd ps sp) (hr:Room k X.A) (hg:Gl X x) (hm:X.mg x=some (.ref f)) (hk:j4 X.K (.ref f)=true) (hb:Binds X.K fd ps ds) (hd:Vals dvs ds) (hx:bK CX X E)
   (ha:PA X (e::es) t) (hdb:(x==("__debug__" : Str))=false:=by decide) (he:xO (e::es) X.env=(false,eval e X.env)::xO es X.env:=by rfl) (hpl:(i6 pos (xO es X.env)).any (·.1)=false:=by rfl) :
   PE X (.Call (.Name x p) (e::es) [] pos) (tCall sp dvs E t):=by
 intro pins s Z H Q I h;refine CW (dF I hg hm ?_ hdb);refine PySem.W.callWith_K (h₀:=X.base) I.ok.mod.kin hk (thn (ha pos pins s Z H _ I h) fun us s1 hY24=>?_) he hpl;obtain ⟨vs,H1,I1,r,q⟩:=hY24;refine ⟨I1.kIn,?_⟩;exact tW F hr hb hd hx I1 r q
end
structure FnScope (N P:List Str) (sc:Scope):Prop where
 kind:sc.kind=.function
 co:sc.isCoroutine=false
 gen:sc.isGenerator=false
 nd:N.Nodup
 pre:N.take P.length=P
 par:∀ x∈P,sc.names.lookup x=some .local\/sc.names.lookup x=some .cell
 nofree:∀ y∈sc.names,y.2≠.free
theorem Th {kindOf:Str->Option FN} {x:Str}:∀ {binds:List (Str×xB)} {m:Str->Option xB},(∀ v,(x,v)∉binds)->bindL kindOf binds m x=m x
 | [],_,_=>rfl
 | (n,v)::r,m,h=>by
   unfold bindL; rw [Th fun w hw=>h w (i3 _ hw)];split
   . have:x≠n:=by rintro rfl; exact h v a8
     simp [this]
   . rfl
theorem Tj {kindOf:Str->Option FN} {x:Str}:∀ {binds:List (Str×xB)} {m:Str->Option xB},(∀ v,(x,v)∉binds)->bindC kindOf binds m x=m x
 | [],_,_=>rfl
 | (n,v)::r,m,h=>by
   unfold bindC; rw [Tj fun w hw=>h w (i3 _ hw)];split
   . rfl
   . have:x≠n:=by rintro rfl; exact h v a8
     simp [this]
theorem Ti {kindOf:Str->Option FN} {x:Str} {v:xB}:∀ {P:List Str} {vs:List xB} {i:Nat} {m:Str->Option xB},P.Nodup->P[i]? = some x->vs[i]? = some v->kindOf x=some .local ->
   bindL kindOf (P.zip vs) m x=some v
 | [],_,_,_,_,h,_,_=>by simp at h
 | _::_,[],_,_,_,_,h,_=>by simp at h
 | p::P,w::vs,0,m,nd,h1,h2,hk=>by
   simp at h1 h2; subst h1; subst h2;show bindL kindOf ((p,w)::P.zip vs) m p=_;unfold bindL; rw [Th fun v hv=>(zO.mp nd).1 (IT hv).1,if_pos hk];simp
 | p::P,w::vs,i+1,m,nd,h1,h2,hk=>by
   show bindL kindOf ((p,w)::P.zip vs) m x=_;unfold bindL; exact Ti (i:=i) (zO.mp nd).2 (by simpa using h1) (by simpa using h2) hk
theorem Tk {kindOf:Str->Option FN} {x:Str} {v:xB}:∀ {P:List Str} {vs:List xB} {i:Nat} {m:Str->Option xB},P.Nodup->P[i]? = some x->vs[i]? = some v->kindOf x≠some .local ->
   bindC kindOf (P.zip vs) m x=some v
 | [],_,_,_,_,h,_,_=>by simp at h
 | _::_,[],_,_,_,_,h,_=>by simp at h
 | p::P,w::vs,0,m,nd,h1,h2,hk=>by
   simp at h1 h2; subst h1; subst h2;show bindC kindOf ((p,w)::P.zip vs) m p=_;unfold bindC; rw [Tj fun v hv=>(zO.mp nd).1 (IT hv).1,if_neg hk];simp
 | p::P,w::vs,i+1,m,nd,h1,h2,hk=>by
   show bindC kindOf ((p,w)::P.zip vs) m x=_;unfold bindC; exact Tk (i:=i) (zO.mp nd).2 (by simpa using h1) (by simpa using h2) hk
def Br (N:List Str) (vs:List V):St:=vs.map some++yB (N.length - vs.length) none
def gM (CX:CXT) (P:yD) (w:yR) (K:xF) (mg:Str->Option xB) (base:zN) (N:List Str) (qual:Str) (scope:Scope) (f:xI) (cd:xB) (A:zI) (outer:List Env) (s:xC) (H:Hp) (E:XK):Cx where
 prog:=P
 w:=w
 K:=K
 mg:=mg
 base:=base
 A:=A.deeper (IL qual scope s.heap.objs.size f cd)
 N:=N
 s₀:=s
 H₀:=H
 env:=IL qual scope s.heap.objs.size f cd
 outer:=outer
 stack:=IL qual scope s.heap.objs.size f cd::outer
 ex:=[]
 calm:=true
 fn:=fun _=>true
 pn:=[]
 xe:=fun e s'=>wpAny (xW P w) (A.deeper (IL qual scope s.heap.objs.size f cd)) (leaving (IL qual scope s.heap.objs.size f cd) e) (fun _ s''=>CX outer H s E e s'') (fun e' s''=>CX outer H s E e' s'') s'
theorem Yz {sc:Scope} {n:Nat} {x:Str} (h:sc.names.lookup x=some .cell):∃ c,(cellsFrom n sc.names []).lookup x=some c:=by
 have q:=JV sc.names n [] (.inl h);exact Option.isSome_iff_exists.mp q
theorem gA {CX:CXT} {P:yD} {w:yR} {K:xF} {mg:Str->Option xB} {base:zN} {N ps:List Str} {qual:Str} {scope:Scope} {f:xI} {cd:xB} {A:zI} {outer:List Env} {s s1:xC} {H:Hp} {E:XK} {us:List xB} {vs:List V}
   (S:FnScope N ps scope) (hd:A.handled=none) (e0:Env0 P w K mg base A outer s H) (hl:vs.length=ps.length) (r:Vals vs us)
   (x:InCallC s s.heap.objs.size (bindL (IL qual scope s.heap.objs.size f cd).kindOf (ps.zip us) fun _=>none) (cellsFrom (s.heap.objs.size+1) scope.names []) (bindC (IL qual scope s.heap.objs.size f cd).kindOf (ps.zip us) fun _=>none) s1) :
   Inv (gM CX P w K mg base N qual scope f cd A outer s H E) [] (Br N vs) H s1:=by
 have hpl:ps.length<=N.length:=by have:=congrArg y4 S.pre; rw [n6] at this; lia
 obtain ⟨h1,tk,rfl,hk⟩:=x.done;have noA:∀ b:xI,b∉(gM CX P w K mg base N qual scope f cd A outer s H E).ex:=fun b z=>absurd (show b∈([]:List xI) from z) (by simp);refine ⟨⟨e0.mod,S.kind,rfl,rfl,xL _,fun y z c h1 h2=>?_,fun y hy=>?_,fun y c _ h=>?_,fun _=>hd,Around.frames_deeper e0.frames,.inr ⟨rfl,rfl⟩,fun b z=>absurd z (noA b),e0.bs,e0.bsz,fun b _ _=>noA b,fun b z=>absurd z (noA b),e0.funs,e0.frf⟩,
   rfl,e0.bare,Un.kept hk,⟨_,x.toInCall.ns,fun i y v h1 h2 h3=>?_⟩,fun y c h=>⟨_,x.cell y c h⟩,e0.hok.fresh (xL _),fun y c h=>?_,fun p hp=>absurd (show p∈([]:List (xI×Obj)) from hp) (by simp),e0.hok.kept hk,?_⟩
 . exact name_of_addr x.apart (AI h1) (AI h2)
 . have hy:scope.names.lookup y=some .cell\/scope.names.lookup y=some .free:=hy
   rcases hy with hy | hy
   . exact Yz hy
   . exact absurd rfl (S.nofree _ (AI hy))
 . exact LN (x.above y c (AI h))
 . have hi : i < vs.length := by
     unfold Br at h2;by_cases hi:i < vs.length
     . exact hi
     . rw [zH (by simpa using hi)] at h2
       rw [v5] at h2;split at h2 <;> cases h2
   have ha:vs[i]? = some v:=by
     unfold Br at h2; rw [yZ (by simpa using hi),yM] at h2;cases e:vs[i]? with
     | none=>rw [e] at h2; cases h2
     | some a=>rw [e] at h2; cases h2; rfl
   obtain ⟨u,hu,rv⟩:=r.get ha; have hp:ps[i]? = some y:=by
     rw [<- S.pre,List.getElem?_take_of_lt (by lia)]; exact h1
   have ndP:ps.Nodup:=by rw [<- S.pre]; exact S.nd.sublist (HX _ _)
   refine ⟨u,rv,?_⟩; rcases S.par y (n5 hp) with k | k
   . exact .inl ⟨k,Ti ndP hp hu k⟩
   . obtain ⟨c,e⟩:=Yz (n:=s.heap.objs.size+1) k
     refine .inr ⟨.inl k,c,e,?_⟩; have q:=x.cell y c e; rw [Tk ndP hp hu (by show scope.names.lookup y≠_; rw [k]; decide)] at q;exact q
 . exact e0.hok.fresh (LN (x.above y c (AI h)))
 . unfold Br
   show _=N.length;rw [xN,xG,BI];lia
theorem fn_of {CX:CXT} {P:yD} {w:yR} {K:xF} {mg:Str->Option xB} {base:zN} {k:Nat} {f:xI} {name qual:Str} {params:Arguments} {body:List AR} {scope:Scope} {dV kV doc pm cdv ct oc:xB} {an od:Option xI}
   {osl:Array (Option xB)} {N ps:List Str} {sp:Sp} (lk:K.lookup f=some ⟨oc,od,.func (zV name qual params body scope dV kV doc pm an cdv ct),osl⟩) (hcd:y3 K cdv qual=true) (S:FnScope N ps scope)
   (len:∀ vs H Q E,sp vs H Q E->vs.length=ps.length)
   (hbody:∀ (A:zI) (outer:List Env) (s:xC) (H:Hp) (vs:List V) (Q:VK) (E:XK),Room k (A.deeper (IL qual scope s.heap.objs.size f cdv))->sp vs H Q E ->
     ∃ t,PSs (gM CX P w K mg base N qual scope f cdv A outer s H E) body t/\t { nx:=fun _ H'=>Q .non H',rt:=Q } (Br N vs) H) :
   FnOk P w K mg base CX (k+1) f (zV name qual params body scope dV kV doc pm an cdv ct) ps sp:=by
 refine ⟨len,fun A outer s H args us vs Q E hr e0 hb r hsp=>?_⟩;have hl:=len _ _ _ _ hsp;have KX:K.In s.heap:=e0.mod.kin.keeps fun b o e=>(e0.bs b o e).1;have lim:s.heap.NoLimit:=e0.mod.nolimit.keeps fun b o e=>(e0.bs b o e).1;have hkind:∀ y∈ps.zip us,scope.names.lookup y.1=some .local\/(scope.names.lookup y.1=some .cell/\((cellsFrom (s.heap.objs.size+1) scope.names []).lookup y.1).isSome=true):=fun hZ0 hy=>by
   obtain ⟨n,v⟩:=hZ0; rcases S.par n (IT hy).1 with q | q
   . exact .inl q
   . exact .inr ⟨q,JV _ _ _ (.inl q)⟩
 refine codeAny_call_function hr.depth (KX _ _ lk) rfl S.co S.gen rfl (PySem.W.codeRec_of KX hcd) (hb _ _ _ _ ?_);refine wpAny_newFunctionEnv_cells S.kind hkind fun env he s1 x=>?_;subst he;refine ⟨lim.keeps x.toInCall.keep,codeAny_func ?_⟩;obtain ⟨t,ht,hq⟩:=hbody A outer s H vs Q E (hr.deeper _) hsp;have I:Inv (gM CX P w K mg base N qual scope f cdv A outer s H E) [] (Br N vs) H s1:=gA S hr.hd e0 hl r x;refine i5 (ht [] s1 (Br N vs) H _ I hq) (fun fl s' hs=>?_) fun e s' hs=>hs;have fin:∀ {Z':St} {H':Hp} {v:V} {u:xB},Inv (gM CX P w K mg base N qual scope f cdv A outer s H E) [] Z' H' s'->RelV v u->Q v H'->CE outer P w H s Q u s' :=
   fun {Z' H' v u} J rv q=>⟨v,H',J.os,J.bare,J.base,J.hok,rv,q⟩
 cases fl with
 | ret u =>
   obtain ⟨v,Z',H',J,rv,q⟩:=hs; exact fin J rv q
 | next =>
   obtain ⟨Z',H',J,q⟩:=hs; exact fin (v:=V.non) (u:=k9) J rfl q
 | brk =>
   obtain ⟨_,_,_,q⟩:=hs; exact BQ q
 | cont =>
   obtain ⟨_,_,_,q⟩:=hs; exact BQ q
end L2
namespace L2
open PySem PySem.Spec PyProof.Rows
section
variable {X:Cx} {x:Str} {p pos:Pos} {e:Expr} {es:List Expr} {t:TA} {id T:String} {r:List V->Hp->VK->Prop}
def tCB (r:List V->Hp->VK->Prop) (t:TA):TE:=fun Z H Q=>t Z H fun vs H1=>r vs H1 Q
theorem Jd (hc:Y7 X (.builtin id) r) (hg:Gl X x) (hm:X.mg x=none) (hv:CF x=some (.builtin id)) (ha:PA X (e::es) t) (hn:x ≠ "__name__" := by decide) (hdb:(x==("__debug__" : Str))=false:=by decide)
   (he:xO (e::es) X.env=(false,eval e X.env)::xO es X.env:=by rfl) (hpl:(i6 pos (xO es X.env)).any (·.1)=false:=by rfl):PE X (.Call (.Name x p) (e::es) [] pos) (tCB r t):=by
 intro pins s Z H Q I h;refine CW (Pe I hg hm hv ?_ hn hdb);exact PyProof.Rows.callWith_builtin1 (thn (ha pos pins s Z H _ I h) fun us s1 hZ2=>by obtain ⟨vs,H1,I1,r1,q1⟩:=hZ2; exact hc pins s1 Z H1 vs us Q I1 r1 q1) he hpl
theorem Da (hc:Y7 X (.type T) r) (hg:Gl X x) (hm:X.mg x=none) (hv:CF x=some (.type T)) (ha:PA X (e::es) t) (hn:x ≠ "__name__" := by decide) (hdb:(x==("__debug__" : Str))=false:=by decide)
   (he:xO (e::es) X.env=(false,eval e X.env)::xO es X.env:=by rfl) (hpl:(i6 pos (xO es X.env)).any (·.1)=false:=by rfl):PE X (.Call (.Name x p) (e::es) [] pos) (tCB r t):=by
 intro pins s Z H Q I h;refine CW (Pe I hg hm hv ?_ hn hdb);exact AS (thn (ha pos pins s Z H _ I h) fun us s1 hZ2=>by obtain ⟨vs,H1,I1,r1,q1⟩:=hZ2; exact hc pins s1 Z H1 vs us Q I1 r1 q1) he hpl
end
end L2
namespace HT
open PySem PyProof.Rows
section
variable {prog:yD} {w:yR} {A:zI} {E:xB->xC->Prop} {s:xC}
theorem cat_tup {t b:xI} {vs ws:List xB} {Q:xB->xC->Prop} (ht:HB s.heap t vs.toArray) (hb:HB s.heap b ws.toArray) (hv:vs≠[])
   (h1:ws=[]->Q (.ref t) s) (h2:ws≠[]->Q (.ref s.heap.objs.size) { s with heap:=s.heap.push { cls:=.type "tuple",data:=.seq (vs++ws).toArray } })
   (hsz:vs.length+ws.length<=sizeLine):wpAny (xW prog w) A (GH .Add (.ref t) (.ref b)) Q E s:=by
 obtain ⟨⟨cls,dd,data,sl⟩,ho,hc,n,hd⟩:=id ht;obtain ⟨⟨cls2,dd2,data2,sl2⟩,ho2,hc2,n2,hd2⟩:=id hb;simp only at hc hd hc2 hd2;subst hc hd hc2 hd2;have e:vs.toArray++ws.toArray=(vs++ws).toArray:=by simp
 by_cases hw:ws=[]
 . exact concat_meets ⟨_, ho, rfl⟩ ⟨_, ho2, rfl⟩ JP seq_tuple_add FM FC (EV _ _)
     (tuple_addW1 t b vs.toArray ws.toArray n n2 dd dd2 sl sl2 (by simpa using hv) (by simp [hw])) ⟨ho,ho2,h1 hw⟩
 . refine concat_meets ⟨_, ho, rfl⟩ ⟨_, ho2, rfl⟩ JP seq_tuple_add FM FC (EV _ _)
     (tuple_addW2 t b vs.toArray ws.toArray n n2 dd dd2 sl sl2 (by simpa using hv) (by simpa using hw) (by rw [xU,xU]; exact hsz)) ⟨ho,ho2,?_⟩
   rw [e]; exact h2 hw
def sIx (n d:Nat):Option Int->Nat
 | none=>d
 | some v=>if v < 0 then (v+(n:Int)).toNat else min v.toNat n
theorem sIx_none (n d:Nat):sIx n d none=d:=rfl
theorem sIx_nat (n d k:Nat):sIx n d (some (k:Int))=min k n:=by
 show (if (k:Int) < 0 then ((k:Int)+(n:Int)).toNat else min (k:Int).toNat n)=min k n;rw [if_neg (by lia),DB]
theorem tR (n d:Nat) (hd:d<=n) (o:Option Int):sIx n d o<=n:=by
 cases o with
 | none=>exact hd
 | some v =>
   show (if v < 0 then (v+(n:Int)).toNat else min v.toNat n)<=n;by_cases hv:v < 0
   . rw [if_pos hv]; lia
   . rw [if_neg hv]; exact p9 _ _
theorem dS (v:Int) (n d:Nat):(if v < 0 then max (v+(n:Int)) 0 else min v (n:Int))=((sIx n d (some v):Nat):Int):=by
 show (if v < 0 then max (v+(n:Int)) 0 else min v (n:Int))=(((if v < 0 then (v+(n:Int)).toNat else min v.toNat n):Nat):Int);by_cases hv:v < 0
 . simp only [if_pos hv]; lia
 . simp only [if_neg hv]; lia
theorem bI (lo hi:Option Int) (n:Nat):EB lo hi 1 (n:Int)=(((sIx n 0 lo:Nat):Int),((sIx n n hi:Nat):Int)):=by
 have h1:¬ ((1:Int) < 0):=by lia
 unfold EB;simp only [h1,if_false];refine Prod.ext ?_ ?_
 . cases lo with
   | none=>rfl
   | some v=>exact dS v n 0
 . cases hi with
   | none=>rfl
   | some v=>exact dS v n n
theorem aG (i j:Nat):BE (i:Int) (j:Int) 1=j - i:=by
 unfold BE;have h1:(1:Int)>0:=by lia
 simp only [h1,if_true,Int.ediv_one];split <;> lia
theorem Ob {v:xB} {o:Option Int} {Q:Option Int->xC->Prop} (p:GR v o) (h:Q o s):wpAny (xW prog w) A (Builtin.Slice.slicePartIndex v) Q E s:=by
 cases p with
 | none=>exact slicePart_none h
 | int i t=>exact slicePart_int h
theorem sliceApplied_gen {sl:xI} {vl vu:xB} {lo hi:Option Int} {n:Nat} {Q:Int×Int×Nat->xC->Prop} (hs:s.heap.IsSliceOf sl vl vu .none) (pl:GR vl lo) (pu:GR vu hi)
   (h:Q (((sIx n 0 lo:Nat):Int),1,sIx n n hi - sIx n 0 lo) s):wpAny (xW prog w) A (HH (.ref sl) (pure (n:Int))) Q E s:=by
 obtain ⟨os,hos,hcs,hds⟩:=id hs;unfold HH Builtin.Slice.sliceFields;refine wZ (wZ (DC hos hds (x:=vl) rfl (wZ (DC hos hds (x:=vu) rfl (wZ (DC hos hds (x:=.none) rfl (xA ?_)))))));refine wZ (slicePart_none ?_);show wpAny _ _ (if ((1:Int)==0)=true then _ else _) _ _ s;rw [if_neg (by decide)];refine wZ (Ob pl (wZ (Ob pu (wZ (xA ?_)))));show wpAny _ _ (match EB lo hi 1 (n:Int) with | (lo,hi)=>pure (lo,(1:Int),BE lo hi 1)) _ _ s
 rw [bI lo hi n];show wpAny _ _ (pure (((sIx n 0 lo:Nat):Int),(1:Int),BE ((sIx n 0 lo:Nat):Int) ((sIx n n hi:Nat):Int) 1)) _ _ s;rw [aG];exact xA h
theorem jR (xs:Array xB) (i k:Nat):((zF k).filterMap fun (m:Nat)=>xs[((i:Int)+(m:Int)*1).toNat]?).toArray=((xs.toList.drop i).take k).toArray:=by
 have e:(fun (m:Nat)=>xs[((i:Int)+(m:Int)*1).toNat]?)=fun m=>xs[i+m]? := by
   funext m
   have:((i:Int)+(m:Int)*1).toNat=i+m:=by lia
   rw [this]
 rw [e];have:=pick_run xs i k;rw [List.filterMap_map] at this;have e2:((fun x=>xs[x]?)∘fun x=>i+x)=fun m=>xs[i+m]? := rfl;rw [e2] at this;rw [this]
theorem getItem_tuple_cut {t sl:xI} {items:Array xB} {vl vu:xB} {lo hi:Option Int} {Q:xB->xC->Prop} (ht:HB s.heap t items) (hs:s.heap.IsSliceOf sl vl vu .none) (pl:GR vl lo) (pu:GR vu hi)
   (hw:¬ (sIx items.size 0 lo=0/\sIx items.size items.size hi=items.size))
   (h:Q (.ref s.heap.objs.size) { s with heap:=s.heap.push { cls:=.type "tuple",data:=.seq ((items.toList.drop (sIx items.size 0 lo)).take (sIx items.size items.size hi - sIx items.size 0 lo)).toArray } })
   (hsz:items.size<=sizeLine):wpAny (xW prog w) A (FA (.ref t) (.ref sl)) Q E s:=by
 have htake:sizeOk (.seq ((items.toList.drop (sIx items.size 0 lo)).take (sIx items.size items.size hi - sIx items.size 0 lo)).toArray):=by
   show ((items.toList.drop (sIx items.size 0 lo)).take (sIx items.size items.size hi - sIx items.size 0 lo)).toArray.size<=sizeLine;rw [xU,n6,AN,yC]; omega
 have hj:sIx items.size items.size hi<=items.size:=tR _ _ (xL _) hi;obtain ⟨os,hos,hcs,hds⟩:=id hs;have hTs:s.TypeIs (.ref sl) "slice" := ⟨os,hos,hcs⟩;unfold FA;try with_reducible refine zE ?_
 first | refine wZ (xA ?_) | skip
 refine wZ (FR ht.typeIs (by decide) ?_);refine wZ (zK (name:=o7 "__getitem__") ht.typeIs n8
   (zD n8 ht.typeIs entry_tuple_getitem ?_ (args_tuple_getitem _ _)))
 show wpAny _ _ (DJ (.ref t)>>=_) _ _ s;refine wZ (tupleItemsOf_ ht ?_);refine wZ (DP hTs ?_);rw [if_pos (by decide)];refine wZ (sliceApplied_gen hs pl pu ?_);have hno:¬ ((((sIx items.size 0 lo:Nat):Int)==0&&(1:Int)==1&&(sIx items.size items.size hi - sIx items.size 0 lo)==items.size)=true):=by
   intro q; rw [yE,yE] at q; have q1:((sIx items.size 0 lo:Nat):Int)=0:=w5 q.1.1; have q2:sIx items.size items.size hi - sIx items.size 0 lo=items.size:=w5 q.2; exact hw ⟨by omega,by omega⟩
 show wpAny _ _ (if (((sIx items.size 0 lo:Nat):Int)==0&&(1:Int)==1&&(sIx items.size items.size hi - sIx items.size 0 lo)==items.size)=true then _ else _) _ _ s;rw [if_neg hno,jR];first
   | exact wZ (m:=BM _) (zC (xA ⟨_,rfl,xA h⟩) htake)
   | exact wZ (m:=BM _) (zC (wZ (xA (xA ⟨_,rfl,xA h⟩))) htake)
   | exact wZ (wZ (m:=BM _) (zC (xA (xA ⟨_,rfl,xA h⟩)) htake))
   | exact wZ (wZ (m:=BM _) (zC (xA ⟨_,rfl,xA h⟩) htake))
end
end HT
namespace L2
open PySem PySem.Spec PyProof.Rows
abbrev TO:=St->Hp->(Option Int->Hp->Prop)->Prop
def PO (X:Cx) (e:Option Expr) (t:TO):Prop :=
 ∀ (pins:List (xI×Obj)) (s:xC) (Z:St) (H:Hp) (Q:Option Int->Hp->Prop),Inv X pins Z H s->t Z H Q ->
   wpAny (xW X.prog X.w) X.A (evalPart e X.env) (fun u s'=>∃ o H',Inv X pins Z H' s'/\GR u o/\Q o H') X.xe s
def nK:TO:=fun _ H Q=>Q none H
def tPart (t:TE):TO:=fun Z H Q=>t Z H fun x H1=>∃ i,x=.int i/\Q (some i) H1
section
variable {X:Cx} {e:Expr} {te:TE} {lo hi:Option Expr} {tl th:TO} {pos p2:Pos}
theorem oQ:PO X none nK:=by
 intro pins s Z H Q I h;rw [evalPart_none];exact xA ⟨none,H,I,.none,h⟩
theorem oP (h:PE X e te):PO X (some e) (tPart te):=by
 intro pins s Z H Q I hw;rw [evalPart_some];refine thn (h pins s Z H _ I hw) fun u s1 hZ2=>?_;obtain ⟨x,H1,I1,r1,q1⟩:=hZ2;obtain ⟨i,rfl,q⟩:=q1;obtain ⟨t,rfl⟩:=r1;exact ⟨some i,H1,I1,.int i t,q⟩
def SlR (X:Cx) (r:V->Option Int->Option Int->Hp->VK->Prop):Prop :=
 ∀ (pins:List (xI×Obj)) (s:xC) (Z:St) (H:Hp) (x:V) (v vl vu:xB) (lo hi:Option Int) (sl:xI) (Q:VK),Inv X pins Z H s->RelV x v->s.heap.IsSliceOf sl vl vu .none->GR vl lo->GR vu hi->r x lo hi H Q ->
   ∃ T id,II (.type T) "__getitem__" = pure (some (.builtin id))/\s.TypeIs v T/\wpAny (xW X.prog X.w) X.A (FA v (.ref sl)) (EP X pins Z Q) X.xe s
def tSl (r:V->Option Int->Option Int->Hp->VK->Prop) (te:TE) (tl th:TO):TE:=fun Z H Q=>te Z H fun x H1=>tl Z H1 fun l H2=>th Z H2 fun u H3=>r x l u H3 Q
theorem Xc {r:V->Option Int->Option Int->Hp->VK->Prop} (hr:SlR X r) (he:PE X e te) (hl:PO X lo tl) (hu:PO X hi th):PE X (.Subscript e (.Slice lo hi none p2) pos) (tSl r te tl th):=by
 intro pins s Z H Q I h;refine Subscript_ (thn (he pins s Z H _ I h) fun v s1 hZ2=>?_);obtain ⟨x,H1,I1,r1,q1⟩:=hZ2;refine wpAny_Slice (thn (hl pins s1 Z H1 _ I1 q1) fun vl s2 hY32=>?_);obtain ⟨l,H2,I2,pl,q2⟩:=hY32;refine thn (hu pins s2 Z H2 _ I2 q2) fun vu s3 hZ2=>?_;obtain ⟨u,H3,I3,pu,q3⟩:=hZ2;rw [evalPart_none];refine xA ?_;have I4:Inv X pins Z H3 { s3 with heap:=s3.heap.push { cls:=.type "slice",data:=.fields #[vl,vu,.none] } }:=I3.kept (t':=s3.toks) fun b ob q=>xE _ q;obtain ⟨T,id,hT,ht,hg⟩:=hr pins { s3 with heap:=s3.heap.push { cls:=.type "slice",data:=.fields #[vl,vu,.none] } } Z H3 x v vl vu l u s3.heap.objs.size Q I4 r1 (Heap.IsSliceOf.new ..) pl pu q3
 show wpAny (xW X.prog X.w) X.A (subscriptTail e (.Slice lo hi none p2) v (.ref s3.heap.objs.size)) (EP X pins Z Q) X.xe { s3 with heap:=s3.heap.push { cls:=.type "slice",data:=.fields #[vl,vu,.none] } };exact tail_any (ops:=[.ref s3.heap.objs.size,v]) ht hT hg (by with_unfolding_all rfl)
def gN (xs:List V) (lo hi:Option Int):List V:=(xs.drop (HT.sIx xs.length 0 lo)).take (HT.sIx xs.length xs.length hi - HT.sIx xs.length 0 lo)
theorem Fq (xs:List V) (lo hi:Option Int):(gN xs lo hi).length<=xs.length:=by
 unfold gN;rw [n6,AN];lia
end
end L2
namespace L2
open PySem PySem.Spec PyProof.Rows
def ixN (n:Nat) (i:Int):Option Nat:=if 0<=i then (if i < n then some i.toNat else none) else if -(n:Int)<=i then some (i+n).toNat else none
def atI {α:Type} (xs:List α) (i:Int):Option α:=(ixN xs.length i).bind fun j=>xs[j]?
theorem dG {n:Nat} {i:Int} {j:Nat} (h:ixN n i=some j):seqIndex? i n=some j/\j < n /\ -(n:Int)<=i/\i < n:=by
 unfold ixN at h;by_cases h0:0<=i
 . rw [if_pos h0] at h
   by_cases h1:i < n
   . rw [if_pos h1] at h
     have e:i.toNat=j:=zB h; exact ⟨by rw [seqIndex_of h0 h1,e],by lia,by lia,h1⟩
   . rw [if_neg h1] at h; cases h
 . rw [if_neg h0] at h
   by_cases h1 : -(n:Int)<=i
   . rw [if_pos h1] at h
     have e:(i+n).toNat=j:=zB h; exact ⟨by rw [seqIndex_neg (by lia) h1,e],by lia,h1,by lia⟩
   . rw [if_neg h1] at h; cases h
theorem Mt {α:Type} {xs:List α} {i:Int} {v:α} (h:atI xs i=some v):∃ j,seqIndex? i xs.length=some j/\xs[j]? = some v/\j < xs.length /\ -(xs.length:Int)<=i/\i < xs.length:=by
 unfold atI at h;cases e:ixN xs.length i with
 | none=>rw [e] at h; cases h
 | some j =>
   rw [e] at h; obtain ⟨h1,h2,h3,h4⟩:=dG e; exact ⟨j,h1,h,h2,h3,h4⟩
def eD (b:Expr):Prop:=∀ o i,KA b false o i=operate [o,i] (FA o i)
def IxR (X:Cx) (r:R2):Prop :=
 ∀ (value slice:Expr) (pins:List (xI×Obj)) (s:xC) (Z:St) (H:Hp) (x y:V) (v u:xB) (Q:VK),Inv X pins Z H s->RelV x v->RelV y u->r x y H Q ->
   KA slice false v u=operate [v,u] (FA v u)->wpAny (xW X.prog X.w) X.A (subscriptTail value slice v u) (EP X pins Z Q) X.xe s
def MtR (X:Cx) (id:String) (r:V->List V->Hp->VK->Prop):Prop :=
 ∀ (pins:List (xI×Obj)) (s:xC) (Z:St) (H:Hp) (x:V) (xs:List V) (v:xB) (us:List xB) (Q:VK),Inv X pins Z H s->RelV x v->Vals xs us->r x xs H Q ->
   wpAny (xW X.prog X.w) X.A (call (.builtin id) (v::us)) (EP X pins Z Q) X.xe s
section
variable {X:Cx} {a b:Expr} {ta tb:TE} {pos:Pos}
theorem IxR.or {r r':R2} (h:IxR X r) (h':IxR X r'):IxR X (fun x y H Q=>r x y H Q\/r' x y H Q):=by
 intro value slice pins s Z H x y v u Q I rx ry q hs;rcases q with q | q
 . exact h value slice pins s Z H x y v u Q I rx ry q hs
 . exact h' value slice pins s Z H x y v u Q I rx ry q hs
theorem pe_ix {r:R2} (hr:IxR X r) (ha:PE X a ta) (hb:PE X b tb) (hs:eD b):PE X (.Subscript a b pos) (tOp r ta tb):=by
 intro pins s Z H Q I h;exact Subscript_ (wS ha hb I h fun v u s2 x y H2 I2 rx ry q=>hr a b pins s2 Z H2 x y v u Q I2 rx ry q (hs _ _))
def rIxL (K:xF):R2:=fun x y H Q=>∃ p xs i v,x=.ref p/\y=.int i/\SqL K H p xs/\atI xs i=some v/\Q v H
def rIxT (K:xF):R2:=fun x y H Q=>∃ p xs i v,x=.ref p/\y=.int i/\SqT K H p xs/\atI xs i=some v/\Q v H
def rIxS:R2:=fun x y H Q=>∃ z i c,x=.str z/\y=.int i/\z.length<=sizeLine/\atI z.cps.toList i=some c/\Q (.str ⟨#[c]⟩) H
theorem pS:IxR X (rIxL X.K):=by
 intro value slice pins s Z H x y v u Q I rx ry h hs;obtain ⟨p,xs,i,z,rfl,rfl,hq,he,q⟩:=h;cases rx;obtain ⟨t,rfl⟩:=ry;obtain ⟨its,r,pl,hz⟩:=I.list hq;obtain ⟨j,h1,h2,h3,h4,h5⟩:=Mt he;obtain ⟨w,ew,rw'⟩:=r.get h2;have hl:=r.length;have hn:=Eb;have fin:EP X pins Z Q w s:=⟨z,H,I,rw',q⟩;by_cases h0:0<=i
 . have hj : i.toNat = j := by
     rw [seqIndex_of h0 h5] at h1; exact zB h1
   exact item_listR pl.isList h0 (by lia) (by rw [hj]; simpa using ew) fin hs
 . have hj : (i + (its.toArray.size : Int)).toNat = j := by
     rw [seqIndex_neg (by lia) h4] at h1; rw [xU,<- hl]; exact zB h1
   exact subscriptTail_builtinR (x:=w) pl.isList.typeIs JA.lookup
     (wpAny_getItem_list_neg (Q:=fun r s'=>r=w/\EP X pins Z Q r s') pl.isList (by lia) (by rw [xU] <;> lia) (by lia) (by rw [hj]; simpa using ew) ⟨rfl,fin⟩) hs
theorem vV:IxR X (rIxT X.K):=by
 intro value slice pins s Z H x y v u Q I rx ry h hs;obtain ⟨p,xs,i,z,rfl,rfl,hq,he,q⟩:=h;cases rx;obtain ⟨t,rfl⟩:=ry;obtain ⟨its,r,pl,hz⟩:=I.tuple hq;obtain ⟨j,h1,h2,h3,h4,h5⟩:=Mt he;obtain ⟨w,ew,rw'⟩:=r.get h2;have hl:=r.length;have hn:=Eb;have fin:EP X pins Z Q w s:=⟨z,H,I,rw',q⟩;exact subscriptTail_builtinR (x:=w) pl.typeIs IJ.lookup
   (getItem_tuple (j:=j) (Q:=fun r s'=>r=w/\EP X pins Z Q r s') pl (by lia) (by lia) (by rw [xU,<- hl]; exact h1) (by simpa using ew) ⟨rfl,fin⟩) hs
theorem vW:IxR X rIxS:=by
 intro value slice pins s Z H x y v u Q I rx ry h hs;obtain ⟨z,i,c,rfl,rfl,hz,he,q⟩:=h;obtain ⟨t,rfl⟩:=rx;obtain ⟨t',rfl⟩:=ry;obtain ⟨j,h1,h2,h3,h4,h5⟩:=Mt he;have hl:z.cps.toList.length=z.length:=by simp [Str.length]
 rw [hl] at h1 h4 h5;have hn:=Eb;exact tail_any (typeIs_str s z t) slot_str_getitem.lookup (getItem_str (c:=c) (by
   have e1:decide (i < -(2 ^ 63:Int))=false:=decide_eq_false (by lia);have e2:decide (i≥2 ^ 63)=false:=decide_eq_false (by lia);rw [e1,e2,FI]) (by rw [h1]; simpa using h2) ⟨.str ⟨#[c]⟩,H,I.tok _,⟨_,rfl⟩,q⟩) hs
def rIx (K:xF):R2:=fun x y H Q=>rIxL K x y H Q\/rIxT K x y H Q\/rIxS x y H Q
theorem vX:IxR X (rIx X.K):=pS.or (vV.or vW)
theorem aN (its:List xB) (n j:Nat) (u:xB):CM (·.setIfInBounds j u) { cls:=.type "list",data:=.seq its.toArray n }={ cls:=.type "list",data:=.seq (its.set j u).toArray n }:=by
 simp [CM]
theorem Inv.lst {pins:List (xI×Obj)} {Z:St} {H:Hp} {s:xC} {p:xI} {xs:List V} (I:Inv X pins Z H s) (h:H p=some (.lst xs)) :
   ∃ (its:List xB) (n:Nat),Vals xs its/\s.heap.get? p=some { cls:=.type "list",data:=.seq its.toArray n }/\xs.length<=sizeLine:=by
 obtain ⟨z,its,n,r,e⟩:=I.hok p _ h;exact ⟨its,n,r,e,z⟩
theorem Inv.lstUpd {pins:List (xI×Obj)} {Z:St} {H:Hp} {s:xC} {p:xI} {xs ys:List V} {its its':List xB} {n n':Nat} {f:Obj->Obj} (I:Inv X pins Z H s) (h:H p=some (.lst xs))
   (ho:s.heap.get? p=some { cls:=.type "list",data:=.seq its.toArray n }) (hf:f { cls:=.type "list",data:=.seq its.toArray n }={ cls:=.type "list",data:=.seq its'.toArray n' }) (r:Vals ys its') (hz:ys.length<=sizeLine) (t:Nat) :
   Inv X pins Z (upd H p (.lst ys)) { s with heap:=s.heap.update p f,toks:=t }:=by
 have e:(s.heap.update p f).get? p=some { cls:=.type "list",data:=.seq its'.toArray n' }:=by
   rw [c6 f ho (by rw [hf] <;> rfl),hf]
 refine I.write (x:=p) (e:=p) (by rw [h]; trivial) (.inl rfl) (fun b u hb q=>(CT _ _ (Ne.symm hb)).trans q) ⟨_,e⟩ ?_;exact ⟨hz,its',n',r,e⟩
def rSetL:V->V->V->Hp->(Hp->Prop)->Prop:=fun o i v H Q=>∃ p xs k j,o=.ref p/\i=.int k/\H p=some (.lst xs)/\ixN xs.length k=some j/\Q (upd H p (.lst (xs.set j v)))
theorem iZ:PSet X rSetL:=by
 intro pins s Z H o i v ov iv u Q I ro ri rv h;obtain ⟨p,xs,k,j,rfl,rfl,hp,hj,q⟩:=h;cases ro;obtain ⟨t,rfl⟩:=ri;obtain ⟨its,n,r,ho,hz⟩:=I.lst hp;obtain ⟨h1,h2,h3,h4⟩:=dG hj;have hl:=r.length;have hn:=Eb;have I':Inv X pins Z (upd H p (.lst (xs.set j v))) { s with heap:=s.heap.update p (CM (·.setIfInBounds j u)) } :=
   I.lstUpd hp ho (aN its n j u) (r.set rv j) (by rw [IU]; exact hz) s.toks
 by_cases h0:0<=k
 . have hk : k.toNat = j := by
     rw [seqIndex_of h0 h4] at h1; exact zB h1
   exact PySem.W.ki_setAt ho h0 (by lia) (by rw [xU,<- hl]; exact h4) (by rw [hk]; exact ⟨_,I',q⟩)
 . have hk : (k + (its.toArray.size : Int)).toNat = j := by
     rw [seqIndex_neg (by lia) h3] at h1; rw [xU,<- hl]; exact zB h1
   exact PySem.W.ki_setBack ho (by lia) (by rw [xU,<- hl]; exact h3) (by lia) (by rw [hk]; exact ⟨_,I',q⟩)
theorem Tw (lo hi:Option Int) (n:Nat):(EL lo hi none n).1=((HT.sIx n 0 lo:Nat):Int)/\(EL lo hi none n).2.1=((HT.sIx n n hi:Nat):Int)/\(EL lo hi none n).2.2=1:=by
 refine ⟨?_,?_,rfl⟩
 . cases lo with
   | none=>simp [EL,HT.sIx]
   | some i =>
     simp only [EL,HT.sIx,Option.getD_none,show (1:Int)>0 by decide,if_true];by_cases h:i < 0
     . simp only [h,if_true] <;> lia
     . simp only [h,if_false] <;> lia
 . cases hi with
   | none=>simp [EL,HT.sIx]
   | some i =>
     simp only [EL,HT.sIx,Option.getD_none,show (1:Int)>0 by decide,if_true];by_cases h:i < 0
     . simp only [h,if_true] <;> lia
     . simp only [h,if_false] <;> lia
theorem Go (its:List xB) (lo hi:Option Int):slicePick its.toArray lo hi none=((its.drop (HT.sIx its.length 0 lo)).take (HT.sIx its.length its.length hi - HT.sIx its.length 0 lo)).toArray:=by
 obtain ⟨h1,h2,h3⟩:=Tw lo hi its.toArray.size;unfold slicePick;rw [h1,h2,h3];simp only [sliceRange_one,pick_run,xU] <;> rfl
def rSlL (K:xF):V->Option Int->Option Int->Hp->VK->Prop:=fun x lo hi H Q=>∃ a xs,x=.ref a/\SqL K H a xs/\∀ p,H p=none->Q (.ref p) (upd H p (.lst (gN xs lo hi)))
theorem sl_list:SlR X (rSlL X.K):=by
 intro pins s Z H x v vl vu lo hi sl Q I rx hs pl pu h;obtain ⟨a,xs,rfl,hx,q⟩:=h;cases rx;obtain ⟨its,r,ht,hz⟩:=I.list hx;have hlen:=r.length;refine ⟨"list",_,JA.lookup,ht.isList.typeIs,?_⟩;refine wpAny_getItem_list_slice ht.isList hs pl pu .none (by simp) ?_ (by rw [xU] <;> lia)
 rw [Go,<- hlen];refine ⟨.ref s.heap.objs.size,_,I.laid (t':=s.toks) (o:=.lst (gN xs lo hi)) (fun b ob q=>xE _ q) (xL _) ?_,rfl,q _ (I.hok.fresh (xL _))⟩;exact ⟨xX (Fq xs lo hi) hz,_,0,(r.drop (HT.sIx xs.length 0 lo)).take (HT.sIx xs.length xs.length hi - HT.sIx xs.length 0 lo),xQ _ rfl⟩
theorem Gw:Y7 X (.type "tuple") (fun xs H Q=>∃ p ys,xs=[.ref p]/\((SqL X.K H p ys/\∀ l,H l=none->Q (.ref l) (upd H l (.tup ys)))\/(SqT X.K H p ys/\Q (.ref p) H))):=by
 intro pins s Z H xs us Q I r h;obtain ⟨p,ys,rfl,h⟩:=h;obtain ⟨u,rfl,rx⟩:=Vr r;cases rx;rcases h with ⟨hq,q⟩ | ⟨hq,q⟩
 . obtain ⟨its,r',pl,hz⟩:=I.list hq
   have hlen:=r'.length; refine call_tuple_list pl.isList (fun h' kp=>?_) (by simp only [xU] <;> lia)
   have I1:Inv X pins Z H { s with heap:=h' }:=I.kept (t':=s.toks) kp; have I2:Inv X pins Z (upd H h'.objs.size (.tup ys)) { s with heap:=h'.push { cls:=.type "tuple",data:=.seq its.toArray } } :=
     I1.laid (t':=s.toks) (fun b o e=>xE _ e) (xL _) (show ObjOk X.prog X.w _ _ _ (.tup ys) from ⟨hz,its,r',IsTup.new _ _⟩)
   exact ⟨.ref h'.objs.size,_,I2,rfl,q _ (I1.hok.fresh (xL _))⟩
 . obtain ⟨its,r',pl,hz⟩:=I.tuple hq
   exact call_tuple_same pl ⟨.ref p,H,I,rfl,q⟩
def tyV (K:xF) (T:String) (x:V) (H:Hp):Prop:=match x with
 | .str _=>T = "str"
 | .int _=>T = "int"
 | .ref p => (T = "list" /\ ∃ xs, SqL K H p xs) \/ (T = "tuple" /\ ∃ o, K.lookup p = some o /\ o.cls = .type "tuple" /\ o.dict = none) \/
     (T = "dict" /\ ((∃ kvs,H p=some (.dK kvs))\/∃ kvs,H p=some (.dT kvs)))\/(T = "set" /\ ∃ S n,H p=some (.set S n))
 | _=>False
theorem hW {pins:List (xI×Obj)} {Z:St} {H:Hp} {s:xC} {T:String} {x:V} {v:xB} (I:Inv X pins Z H s) (r:RelV x v) (ty:tyV X.K T x H) :
   s.TypeIs v T/\∀ a,v=.ref a->∃ ob,s.heap.get? a=some ob/\ob.dict=none:=by
 cases x with
 | str z =>
   obtain ⟨t,rfl⟩:=r;cases (show T = "str" from ty);exact ⟨typeIs_str s z t,fun _ e=>nomatch e⟩
 | int i =>
   obtain ⟨t,rfl⟩:=r;cases (show T = "int" from ty);exact ⟨typeIs_int s i t,fun _ e=>nomatch e⟩
 | ref p =>
   cases r; rcases ty with ⟨rfl,xs,hq⟩ | ⟨rfl,o,hk,hc,hd⟩ | ⟨rfl,hk⟩ | ⟨rfl,S,n,hk⟩
   . obtain ⟨its,_,pl,_⟩:=I.list hq
     refine ⟨pl.isList.typeIs,fun a e=>?_⟩;cases e; obtain ⟨o,n,e,c,hd,_⟩:=pl; exact ⟨o,e,hd⟩
   . refine ⟨⟨o,I.kIn p o hk,hc⟩,fun a e=>?_⟩
     cases e; exact ⟨o,I.kIn _ o hk,hd⟩
   . have z : ∃ o, s.heap.get? p = some o /\ o.ExactDict := by
       rcases hk with ⟨kvs,hk⟩ | ⟨kvs,hk⟩
       . obtain ⟨_,_,_,_,o,_,_,e,ex,_⟩:=I.hok p _ hk
         exact ⟨o,e,ex⟩
       . obtain ⟨_,_,_,_,o,_,_,e,ex,_⟩:=I.hok p _ hk
         exact ⟨o,e,ex⟩
     obtain ⟨o,e,ex⟩:=z; refine ⟨⟨o,e,ex.1⟩,fun a e2=>?_⟩;cases e2; exact ⟨o,e,ex.2.1⟩
   . obtain ⟨o,_,_,_,e,ex,_⟩:=I.hok p _ hk
     refine ⟨⟨o,e,ex.1⟩,fun a e2=>?_⟩;cases e2; exact ⟨o,e,ex.2.1⟩
 | _=>exact BQ ty
def tBM0 (K:xF) (T:String) (r:V->List V->Hp->VK->Prop) (to:TE):TE:=fun Z H Q=>to Z H fun x H1=>tyV K T x H1/\r x [] H1 Q
def tBM (K:xF) (T:String) (r:V->List V->Hp->VK->Prop) (to:TE) (t:TA):TE:=fun Z H Q=>to Z H fun x H1=>tyV K T x H1/\t Z H1 fun xs H2=>r x xs H2 Q
variable {o e:Expr} {es:List Expr} {to:TE} {t:TA} {name:Str} {apos cpos:Pos} {T id:String} {r:V->List V->Hp->VK->Prop}
theorem uR (pa:PlainAttrs T) (slot:Slot T name id) (hty:typeOf (.builtin id)=pure (.type "method_descriptor")) (hm:MtR X id r) (ho:PE X o to)
   (hbase:AD o name X.env (eval o X.env)=eval o X.env:=by rfl) (hline:(apos.endLine==cpos.line)=true:=by rfl):PE X (.Call (.Attribute o name apos) [] [] cpos) (tBM0 X.K T r to):=by
 intro pins s Z H Q I h;refine wpAny_Call_method0_late hbase hline (thn (ho pins s Z H _ I h) fun v s1 hZ2=>?_);obtain ⟨x,H1,I1,r1,ty,q1⟩:=hZ2;obtain ⟨h1,h2⟩:=hW I1 r1 ty;exact ⟨T,id,pa,slot,hty,h1,h2,AW rfl (PySem.evalArgs_none (hm pins s1 Z H1 x [] v [] Q I1 r1 .nil q1))⟩
theorem Xd (pa:PlainAttrs T) (slot:Slot T name id) (hty:typeOf (.builtin id)=pure (.type "method_descriptor")) (hm:MtR X id r) (ho:PE X o to) (ha:PA X (e::es) t)
   (hbase:AD o name X.env (eval o X.env)=eval o X.env:=by rfl)
   (hfew:((i6 cpos (xO (e::es) X.env)).all (fun x => !x.1)&&(GI cpos (DG [] X.env)).all (fun x=>x.1.isSome)
     && decide ((e::es).length+([]:List BW).length+(if ([]:List BW).isEmpty then 0 else 1) < 30))=true:=by rfl)
   (hline:(apos.endLine==cpos.line)=true:=by rfl) (hs:xO (e::es) X.env=(false,eval e X.env)::xO es X.env:=by rfl) (hplain:(i6 cpos (xO es X.env)).any (·.1)=false:=by rfl) :
   PE X (.Call (.Attribute o name apos) (e::es) [] cpos) (tBM X.K T r to t):=by
 intro pins s Z H Q I h;refine wpAny_Call_method_late hbase hfew hline rfl (thn (ho pins s Z H _ I h) fun v s1 hZ2=>?_);obtain ⟨x,H1,I1,r1,ty,q1⟩:=hZ2;obtain ⟨h1,h2⟩:=hW I1 r1 ty;refine ⟨T,id,pa,slot,hty,h1,h2,?_⟩;have hA:=ha cpos pins s1 Z H1 _ I1 q1;rw [hs] at hA ⊢;refine AW (by show (false||(i6 cpos (xO es X.env)).any (·.1))=false; rw [hplain] <;> rfl) (EA ?_)
 exact thn hA fun us s2 hZ2=>by obtain ⟨vs,H2,I2,r2,q2⟩:=hZ2; exact hm pins s2 Z H2 x vs v us Q I2 r1 r2 q2
end
end L2
namespace L2
open PySem PySem.Spec PyProof.Rows
def MtM (X:Cx) (id:String) (r:V->List V->Hp->VK->Prop):Prop :=
 ∀ (pins:List (xI×Obj)) (s:xC) (Z:St) (H:Hp) (x:V) (xs:List V) (v:xB) (us:List xB) (Q:VK),Inv X pins Z H s->RelV x v->Vals xs us->r x xs H Q ->
   wpAny (xW X.prog X.w) X.A (call (.builtin id) (v::us)) (EP X pins Z Q) X.xe s
theorem Vals.zero {us:List xB} (h:Vals [] us):us=[]:=by cases h; rfl
theorem Vals.uncons {x:V} {xs:List V} {us:List xB} (h:Vals (x::xs) us):∃ u r,us=u::r/\RelV x u/\Vals xs r:=by cases h with | cons a t=>exact ⟨_,_,rfl,a,t⟩
theorem Vals.one {x:V} {us:List xB} (h:Vals [x] us):∃ u,us=[u]/\RelV x u:=by
 obtain ⟨u,r,rfl,a,t⟩:=h.uncons;exact ⟨u,by rw [t.zero],a⟩
theorem Vals.dropLast {xs:List V} {us:List xB} (h:Vals xs us):Vals xs.dropLast us.dropLast:=by
 induction h with
 | nil=>exact .nil
 | cons r t ih =>
   cases t with
   | nil=>exact .nil
   | cons q t'=>exact .cons r ih
theorem Vals.rep {xs:List V} {us:List xB} (h:Vals xs us):∀ k:Nat,Vals (yB k xs).flatten (yB k us).flatten:=by
 intro iN; induction iN with
 | zero=>skip; exact .nil
 | succ k ih =>
   skip
   rw [o9,o9,BK,BK]; exact Vals.append h (ih)
theorem aQ {α:Type} (l:List α):l.eraseIdx (l.length - 1)=l.dropLast:=by
 induction l with
 | nil=>rfl
 | cons a r ih =>
   cases r with
   | nil=>rfl
   | cons b r =>
     have e:(a::b::r).length - 1=((b::r).length - 1)+1:=by
       have h1:(a::b::r).length=r.length+2:=rfl; have h2:(b::r).length=r.length+1:=rfl;lia
     rw [e,List.eraseIdx_cons_succ,ih];all_goals rfl
theorem gG (its:List xB):∀ (k:Nat) (acc:List xB),
   FW (fun x1 x2=>x1++x2) acc.toArray (yB k its.toArray)=(acc++(yB k its).flatten).toArray:=by
 intro iN; induction iN with
 | zero=>intro acc; simp
 | succ k ih =>
   intro acc; have e:acc.toArray++its.toArray=(acc++its).toArray:=by simp
   have e2:(acc++its)++(yB k its).flatten=acc++(yB (k+1) its).flatten:=by
     rw [o9,BK,yI]
   rw [<- e2,<- ih (acc++its),<- e,o9,v6]
section
variable {X:Cx} {pins:List (xI×Obj)} {Z:St} {H:Hp} {s:xC} {l:xI} {xs ys:List V}
theorem Inv.lset {its its':List xB} {n:Nat} {f:Array xB->Array xB} {t':Nat} (I:Inv X pins Z H s) (hH:H l=some (.lst xs))
   (e:s.heap.get? l=some { cls:=.type "list",data:=.seq its.toArray n }) (hf:f its.toArray=its'.toArray) (hv:Vals ys its') (hz:ys.length<=sizeLine) :
   Inv X pins Z (upd H l (.lst ys)) { s with heap:=s.heap.update l (CM f),toks:=t' }:=by
 have q:=PySem.IsL.update e f;rw [hf] at q;refine I.write (x:=l) (e:=l) (by rw [hH]; exact trivial) (.inl rfl) (fun b' u hb hu=>(CT s.heap (CM f) (Ne.symm hb)).trans hu) ⟨_,q⟩ ?_;exact ⟨hz,its',_,hv,q⟩
theorem Inv.lnew {its:List xB} {t':Nat} (I:Inv X pins Z H s) (hv:Vals ys its) (hz:ys.length<=sizeLine) :
   Inv X pins Z (upd H s.heap.objs.size (.lst ys)) { s with heap:=s.heap.push { cls:=.type "list",data:=.seq its.toArray },toks:=t' } :=
 I.laid (fun _ _ q=>xE _ q) (xL _) ⟨hz,its,0,hv,xQ _ rfl⟩
theorem Inv.fresh (I:Inv X pins Z H s):H s.heap.objs.size=none:=I.hok.fresh (xL _)
theorem Inv.lstM (I:Inv X pins Z H s) (hH:H l=some (.lst xs)):xs.length<=sizeLine/\∃ (its:List xB) (n:Nat),Vals xs its/\xs.length=its.length/\s.heap.get? l=some { cls:=.type "list",data:=.seq its.toArray n }:=by
 obtain ⟨z,its,n,r,e⟩:=I.hok l _ hH;exact ⟨z,its,n,r,r.length,e⟩
theorem Xm {n:Nat} (h:n<=sizeLine):BO n=false:=by
 unfold BO;exact decide_eq_false (by lia)
end
section
variable {X:Cx}
def oF:V->List V->Hp->VK->Prop:=fun x vs H Q=>∃ l xs y,x=.ref l/\vs=[y]/\H l=some (.lst xs)/\xs.length < sizeLine/\Q .non (upd H l (.lst (xs++[y])))
theorem Km:MtM X "list.append" oF:=by
 intro pins s Z H x vs v us Q I rx rv h;obtain ⟨l,xs,y,rfl,rfl,hH,hz,q⟩:=h;cases rx;obtain ⟨u,rfl,ru⟩:=rv.one;obtain ⟨z,its,n,r,hl,e⟩:=I.lstM hH;refine IN F.slot_list_append ⟨_,e,rfl⟩ F.entry_list_append (F.args_list_append_2 _ _) (PySem.list_append l its.toArray n u (by rw [xU]; lia)) ⟨e,?_⟩;refine ⟨.non,_,I.lset (its':=its++[u]) hH e (by simp) (r.append (.cons ru .nil)) ?_,rfl,q⟩;rw [xN,GD];lia
def oC:V->List V->Hp->VK->Prop:=fun x vs H Q=>∃ l b xs zs,x=.ref l/\vs=[.ref b]/\H l=some (.lst xs)/\H b=some (.lst zs)/\xs.length+zs.length<=sizeLine/\Q .non (upd H l (.lst (xs++zs)))
theorem fK:MtM X "list.extend" oC:=by
 intro pins s Z H x vs v us Q I rx rv h;obtain ⟨l,b,xs,zs,rfl,rfl,hH,hB,hz,q⟩:=h;cases rx;obtain ⟨u,rfl,ru⟩:=rv.one;cases ru;obtain ⟨z,its,n,r,hl,e⟩:=I.lstM hH;obtain ⟨z2,its2,n2,r2,hl2,e2⟩:=I.lstM hB;have hsz:its.toArray.size+its2.toArray.size<=sizeLine:=by rw [xU,xU]; lia
 have hlong:¬ (!its.toArray.isEmpty&&BO (its.toArray.size+its2.toArray.size))=true:=by
   rw [Xm hsz,Bool.and_false]; exact p8
 refine IN F.slot_list_extend ⟨_,e,rfl⟩ F.entry_list_extend (F.args_list_extend_2 _ _)
   (AutoSeq1.list_extend_list_list_0 l its.toArray n b its2.toArray n2 hlong (by rw [xU]; lia) (by lia)) ⟨e,e2,?_⟩
 refine ⟨.non,_,I.lset (its':=its++its2) hH e (by simp) (r.append r2) ?_,rfl,q⟩;rw [xN];lia
def rPop:V->List V->Hp->VK->Prop:=fun x vs H Q=>∃ l xs y,x=.ref l/\vs=[]/\H l=some (.lst xs)/\xs[xs.length - 1]? = some y/\Q y (upd H l (.lst xs.dropLast))
theorem vJ:MtM X "list.pop" rPop:=by
 intro pins s Z H x vs v us Q I rx rv h;obtain ⟨l,xs,y,rfl,rfl,hH,hy,q⟩:=h;cases rx;have hus:=rv.zero;subst hus;obtain ⟨z,its,n,r,hl,e⟩:=I.lstM hH;obtain ⟨u,hu,ru⟩:=r.get hy;have hy':its.toArray[its.toArray.size - 1]? = some u:=by
   show its.toArray[its.length - 1]? = some u;rw [<- BF,<- hl]; exact hu
 refine IN F.slot_list_pop ⟨_,e,rfl⟩ F.entry_list_pop (F.args_list_pop_1 _) (MeetsSeq.list_pop_last l its.toArray n u hy' (by rw [xU]; lia)) ⟨e,?_⟩;refine ⟨y,_,I.lset (its':=its.dropLast) hH e ?_ r.dropLast ?_,ru,q⟩
 . show its.toArray.eraseIdxIfInBounds (its.toArray.size - 1)=its.dropLast.toArray
   rw [xU,List.eraseIdxIfInBounds_toArray,aQ]
 . rw [GN]
   lia
theorem dD {α:Type} (xs:List α) (k:Nat):(yB k xs).flatten.length=k*xs.length:=by
 induction k with
 | zero=>simp
 | succ k ih=>rw [o9,BK,xN,ih,Nat.succ_mul,Nat.add_comm]
end
end L2
namespace Att
open PySem PySem.W PySem.Calls PyProof.Rows
theorem Ma {P:HU} {h:zN}:∀ (ns:List Int) (vs:List xB),WellAll P h vs (ns.map WData.int)->GS vs ns:=by
 intro ns;induction ns with
 | nil =>
   intro vs w; rw [zX] at w; cases w; exact .nil
 | cons n ns ih =>
   intro vs w; rw [xJ] at w;cases w with
   | cons a b =>
     cases a; exact .cons _ _ (ih _ b)
theorem eU {l:OpenLaw} {n:Nat} (hn:l.most=some n) {P:HU} {h:zN} {args:List WData} {vals:List xB}
   (hpre:l.row.toRowW.claim.pre args=true) (hwl:WellAll P h vals args) :
   ∃ a vs ns,vals=[zP a]/\args=[WData.list (ns.map WData.int)]/\h.get? a=some { cls:=.type "list",data:=.seq vs.toArray }/\GS vs ns/\ns.length<=n:=by
 have hsh:WShape.hasAll [] args [.list .int]=true:=(pre_splitW hpre).1;have hc:l.pre.holds [] { args:=args }=true:=(pre_splitW hpre).2;obtain ⟨d,r,rfl,h1,h2⟩:=hasAllW_cons hsh;obtain rfl:=hasAllW_nil h2;obtain ⟨xs,rfl,h3⟩:=hasW_list h1;obtain ⟨ns,rfl⟩:=items_int h3;have hlen:ns.length<=n:=by
   unfold OpenLaw.pre at hc; have h4:(WTm.not (.lt (.lit (.int (n:Int))) (.len (.arg 0)))).holds [] { args:=[.list (ns.map .int)] }=true:=by
     have h4:=(holds_andW hc).1; rw [hn] at h4; exact h4
   have h5:=condW_of h4 (w_not (w_lt w_lit (w_len_list (w_arg rfl)))); rw [xG] at h5; refine Nat.le_of_not_lt fun q=>?_;have q':(n:Int) < ((ns.length:Nat):Int):=by lia
   first
     | (rw [decide_eq_true q'] at h5; exact absurd h5 (by decide))
     | (simp at h5; lia)
 cases hwl with
 | cons w1 w2 =>
   cases w2;cases w1 with
   | list ho hall=>exact ⟨_,_,ns,rfl,rfl,ho,Ma ns _ hall,hlen⟩
theorem eZ (l:OpenLaw) (args:List WData):l.row.toRowW.claim.post args (.bool true) args=true :=
 postW_of (r:=l.row.toRowW) (X:=(true==true))
   (show WShape.has [] (.bool true) .bool=true by first | rfl | decide | simp [WShape.has,WShape.arms,WShape.armsAll])
   (show (WTm.eq .res (.lit (.bool true))).value [] { args:=args,res:=some (.bool true),after:=args }=some (.bool (true==true)) from w_eq_bool (w_res rfl) w_lit) rfl
theorem attach_call {l:OpenLaw} {n:Nat} {q:yD} {loose:List Str} {XP:(Str->Option xB)->zN->Prop} {YP:yR->zN->Prop} {d:DefRec}
   (hn:l.most=some n) (hdf:d.params.defaults=[])
   (call:∀ (w:yR) (s₀ s₁:xC) (mg mb:Str->Option xB) (fa:xI) (o:Obj) (pm cd doc:xB) (a:xI) (vs:List xB) (ns:List Int),
     Ground q loose [] XP w s₀ mg mb s₁.heap->YP w s₁.heap ->
     s₁.heap.get? fa=some o->o.data=.func (docDef d.name d.params d.body d.scope pm cd doc)->s₁.heap.CodeRec cd d.name->mg d.name=some (.ref fa) ->
     s₁.heap.get? a=some { cls:=.type "list",data:=.seq vs.toArray }->GS vs ns->ns.length<=n->s₁.gens = #[] ->
     EJ (xW l.prog w) JF (.call (.ref fa) ⟨[.ref a],[]⟩) (fun r s'=>r=.ok (.ret (.bool true))/\OldK s₁.heap s'.heap/\s'.os=s₁.os/\GU s'.gens) s₁) :
   WalkO q loose XP YP l.row.toRowW d [] (fun f vs=>PySem.call f vs):=by
 intro w s₀ s₁ mg mb G Y fa o pm cd doc dV kV ho hd hcd hD hmg hg args vals as hpre hlay hrd hwl hlo;obtain rfl:dV=.none:=Dflts.none hD hdf;obtain rfl:kV=.none:=Dflts.noKw hD;obtain ⟨a,vs,ns,rfl,rfl,hobj,hints,hlen⟩:=eU hn hpre hwl;refine enter_call (AK (call w s₀ s₁ mg mb fa o pm cd doc a vs ns G Y ho (fd_plain hd) hcd hmg hobj hints hlen hg) fun r s' hq=>?_);obtain ⟨rfl,h2,h3,h4⟩:=hq;exact ⟨.inl ⟨.bool true,.bool true,[],rfl,fun _=>rfl,.bool true,eZ l _,fun _=>⟨JN,fun _ hm=>(nomatch hm)⟩⟩,h2,h3,h4⟩
end Att
namespace L2
open PySem PySem.Spec PyProof.Rows
theorem Ro:∀ {vs:List xB} {ns:List Int},GS vs ns->Vals (ns.map V.int) vs
 | _,_,.nil=>.nil
 | _,_,.cons n t h=>.cons ⟨t,rfl⟩ (Ro h)
def wW (H:Hp):Prop:=∀ b,H b=none\/∃ o xs,H b=some (.frz o (.lst xs))
theorem lB {P:yD} {w:yR} {K:xF} {mg mb:Str->Option xB} {CX:CXT} {k:Nat} {fa a:xI} {fd:DZ} {x:Str} {sp:Sp} {s₁:xC} {vs:List xB} {ns:List Int}
   (KX:K.In s₁.heap) (hns:s₁.heap.Ns e8 mg) (hb:s₁.heap.Ns GQ mb) (hbb:∀ x:Str,x ≠ "__name__" -> mb x=CF x) (hlim:s₁.heap.NoLimit) (hg:s₁.gens = #[])
   (ha:s₁.heap.get? a=some { cls:=.type "list",data:=.seq vs.toArray }) (hi:GS vs ns) (hl:ns.length<=sizeLine) (hr:Room k JF)
   (F:∀ base:zN,K.In base->base.Ns e8 mg->FnOk P w K mg base CX k fa fd [x] sp) (hbind:∀ (s:xC) (u:xB),BindsTo s fd ⟨[u],[]⟩ [(x,u)])
   (hsp:∀ H:Hp,wW H->SqL K H a (ns.map V.int)->sp [.ref a] H (fun v _=>v=.bl true) fun _ _ _=>False)
   (hCX:∀ H e s',CX [] H s₁ (fun _ _ _=>False) e s'->False) :
   EJ (xW P w) JF (.call (.ref fa) ⟨[.ref a],[]⟩) (fun r s'=>r=.ok (.ret (.bool true))/\OldK s₁.heap s'.heap/\s'.os=s₁.os/\GU s'.gens) s₁:=by
 have rv:=Ro hi;have lenV:=hi.length;have core : ∀ H : Hp, wW H -> SqL K H a (ns.map V.int) -> HOk P w H s₁.heap -> (∀ b, H b ≠ none -> b = a) -> (H a ≠ none -> K.lookup a = none) ->
     EJ (xW P w) JF (.call (.ref fa) ⟨[.ref a],[]⟩) (fun r s'=>r=.ok (.ret (.bool true))/\OldK s₁.heap s'.heap/\s'.os=s₁.os/\GU s'.gens) s₁:=by
   intro H hO hS hok hA hK; have base_of:∀ {b:xI} {o:Obj},s₁.heap.get? b=some o->H b=none->(Ux s₁.heap H).get? b=some o:=fun e n=>lN e n;have noA:∀ {b:xI} {o:Obj} {es:Array zL} {ep:Nat},s₁.heap.get? b=some o->o.data=.dict es ep->H b=none:=fun {b o es ep} e d=>by
     cases q:H b with
     | none=>rfl
     | some u =>
       have e':b=a:=hA b (by rw [q]; simp);subst e'; rw [ha] at e; cases e; have d':Data.seq vs.toArray _=Data.dict es ep:=d;cases d'
   have nsK:∀ {b:xI} {m:Str->Option xB},s₁.heap.Ns b m->(Ux s₁.heap H).Ns b m:=fun {b m} ⟨o,es,ep,e,d,r⟩=>⟨o,es,ep,base_of e (noA e d),d,r⟩;have hKb:K.In (Ux s₁.heap H):=fun b o e=>base_of (KX b o e) (by
     cases q:H b with
     | none=>rfl
     | some u =>
       have e':b=a:=hA b (by rw [q]; simp);subst e'; rw [hK (by rw [q]; simp)] at e; cases e)
   have hM:Mod K mg (Ux s₁.heap H):=⟨hKb,nsK hns,⟨mb,nsK hb,hbb⟩,let ⟨mc,h1,h2⟩:=hlim; ⟨mc,nsK h1,h2⟩⟩;have e0:Env0 P w K mg (Ux s₁.heap H) JF [] s₁ H:=⟨rfl,hM,fun b o e=>pH e,Nat.le_of_eq (gE _ _),trivial,fun b hb=>absurd (show b∈([]:List xI) from hb) (by simp),hok,.of_eq hg⟩;refine AK ((F _ hKb (nsK hns)).run JF [] s₁ H ⟨[.ref a],[]⟩ [.ref a] [.ref a] _ _ hr e0 (hbind s₁ (.ref a)) (.cons rfl .nil) (hsp H hO hS)) fun r s' h=>?_;cases r with
   | error e=>exact (hCX H e s' h).elim
   | ok fl =>
     cases fl with
     | next=>exact BQ h
     | brk=>exact BQ h
     | cont=>exact BQ h
     | ret u =>
       obtain ⟨v,H',os,bare,un,hok',r',q⟩:=h; have q':v=.bl true:=q; subst q'; obtain rfl:u=FP true:=r'; refine ⟨rfl,OldK.of_keep fun b o e=>?_,os,bare⟩;cases q:H b with
       | none=>exact un.keep b o e q (by intro z; exact absurd (show b∈([]:List xI) from z) (by simp)) (by simp)
       | some u =>
         rcases hO b with z | ⟨ob,xs,z⟩
         . rw [q] at z; cases z
         . have z2:=un.frzs b ob _ z
           obtain ⟨e1,_⟩:=hok b _ z; obtain ⟨e2,_⟩:=hok' b _ z2; rw [e] at e1; cases e1; exact e2
 cases hk:K.lookup a with
 | some o =>
   have e:=KX a o hk; rw [ha] at e; cases e; refine core (fun _=>none) (fun _=>.inl rfl) (.inr ⟨_,vs.toArray,_,hk,rfl,rfl,rfl,by rw [xU,lenV]; exact hl,by simpa using rv⟩) (fun b u z=>by have z':(none:Option HO)=some u:=z; cases z') (fun b z=>absurd rfl z) fun z=>absurd rfl z
 | none =>
   refine core (fun b=>if b=a then some (.frz { cls:=.type "list",data:=.seq vs.toArray } (.lst (ns.map V.int))) else none) (fun b=>?_) (.inl (.inr ⟨{ cls:=.type "list",data:=.seq vs.toArray },if_pos rfl⟩)) (fun b u z=>?_) (fun b z=>?_) fun _=>hk
   . by_cases hb:b=a
     . exact .inr ⟨_,_,if_pos hb⟩
     . exact .inl (if_neg hb)
   . by_cases hb:b=a
     . have z':=(if_pos hb).symm.trans z
       cases z'; subst hb; exact ⟨ha,by rw [xG]; exact hl,vs,_,rv,ha⟩
     . have z':=(if_neg hb).symm.trans z
       cases z'
   . by_cases hb:b=a
     . exact hb
     . exact absurd (if_neg hb) z
end L2
namespace L2
open PySem PySem.Spec PyProof.Rows
theorem nA {l:PySem.W.OpenLaw} {n k:Nat} {q:yD} {loose:List Str} {XP:(Str->Option xB)->zN->Prop} {YP:yR->zN->Prop} {d:DefRec} {K:HU->xF} {CX:yR->CXT} {sp:yR->Sp} {x:Str}
   (hn:l.most=some n) (hn2:n<=sizeLine) (hdf:d.params.defaults=[]) (hr:Room k JF)
   (hY:∀ (w:yR) (h:zN),YP w h->(K w.params).In h)
   (F:∀ (w:yR) (mg:Str->Option xB) (fa:xI) (h:zN),(K w.params).In h->h.Ns e8 mg->mg d.name=some (.ref fa) ->
     ∃ fd:DZ,(∀ (s:xC) (u:xB),BindsTo s fd ⟨[u],[]⟩ [(x,u)]) /\
       ∀ base:zN,(K w.params).In base->base.Ns e8 mg->FnOk l.prog w (K w.params) mg base (CX w) k fa fd [x] (sp w))
   (hsp:∀ (w:yR) (H:Hp) (a:xI) (ns:List Int),ns.length<=n->wW H->SqL (K w.params) H a (ns.map V.int)->sp w [.ref a] H (fun v _=>v=.bl true) fun _ _ _=>False)
   (hCX:∀ (w:yR) (H:Hp) (s:xC) (e:xB) (s':xC),CX w [] H s (fun _ _ _=>False) e s'->False) :
   PySem.W.WalkO q loose XP YP l.row.toRowW d [] (fun f vs=>PySem.call f vs):=by
 refine Att.attach_call hn hdf fun w s₀ s₁ mg mb fa o pm cd doc a vs ns G Y ho hd hcd hmg hobj hints hlen hg=>?_;have KX:=hY w _ Y;obtain ⟨fd,hb,hF⟩:=F w mg fa _ KX G.T.g hmg;exact lB KX G.T.g G.T.b G.T.builtins G.T.nolimit hg hobj hints (xX hlen hn2) hr hF hb (fun H hO hS=>hsp w H a ns hlen hO hS) fun H e s'=>hCX w H s₁ e s'
end L2
namespace L2
open PySem PySem.Spec PyProof.Rows
def M0 (s:AR):Arguments:=match s with
 | .FunctionDef _ a _ _ _ _ _ _ _ _=>a
 | _=>{ posonlyargs:=[],args:=[],vararg:=none,kwonlyargs:=[],kw_defaults:=[],kwarg:=none,defaults:=[] }
def B7 (s:AR):List AR:=match s with
 | .FunctionDef _ _ b _ _ _ _ _ _ _=>b
 | _=>[]
def A6 (s:AR):Scope:=match s with
 | .FunctionDef _ _ _ _ _ _ sc _ _ _=>sc
 | _=>{ kind:=.function,names:=[],isGenerator:=false,isCoroutine:=false }
abbrev CX0:CXT:=fun _ _ _ _ _ _=>False
abbrev E0:XK:=fun _ _ _=>False
theorem cL {X:Cx}:bK CX0 X E0:=fun _ _ _ _ _ _ _ h=>h.elim
structure Fun (K:xF) (x qual:Str) (st:AR) (f:xI) (fd:DZ):Prop where
 ex:∃ (oc:xB) (od:Option xI) (kV doc pm:xB) (an:Option xI) (cdv ct:xB) (osl:Array (Option xB)),
   fd=zV x qual (M0 st) (B7 st) (A6 st) .none kV doc pm an cdv ct/\K.lookup f=some ⟨oc,od,.func fd,osl⟩/\y3 K cdv qual=true
 kp:j4 K (.ref f)=true
section
variable {P:yD} {w:yR} {K:xF} {mg:Str->Option xB} {base:zN}
theorem Fun.ok {x qual:Str} {st:AR} {f:xI} {fd:DZ} {N ps:List Str} {k:Nat} {sp:Sp} (F:Fun K x qual st f fd) (S:FnScope N ps (A6 st)) (len:∀ vs H Q E,sp vs H Q E->vs.length=ps.length)
   (hbody:∀ (cdv:xB) (A:zI) (outer:List Env) (s:xC) (H:Hp) (vs:List V) (Q:VK) (E:XK),Room k (A.deeper (IL qual (A6 st) s.heap.objs.size f cdv))->sp vs H Q E ->
     ∃ t,PSs (gM CX0 P w K mg base N qual (A6 st) f cdv A outer s H E).nox (B7 st) t/\t { nx:=fun _ H'=>Q .non H',rt:=Q } (Br N vs) H):FnOk P w K mg base CX0 (k+1) f fd ps sp:=by
 obtain ⟨oc,od,kV,doc,pm,an,cdv,ct,osl,rfl,lk,hcd⟩:=F.ex;refine fn_of lk hcd S len fun A outer s H vs Q E hr hsp=>?_;obtain ⟨t,h,q⟩:=hbody cdv A outer s H vs Q E hr hsp;exact ⟨t,h.nox,q⟩
theorem Fun.binds {x qual:Str} {st:AR} {f:xI} {fd:DZ} {ps:List Str} (F:Fun K x qual st f fd)
   (h:∀ (kV doc pm:xB) (an:Option xI) (cdv ct:xB) (us:List xB),us.length=ps.length->GG (zV x qual (M0 st) (B7 st) (A6 st) .none kV doc pm an cdv ct) ⟨us,[]⟩=pure (ps.zip us)):Binds K fd ps []:=by
 obtain ⟨oc,od,kV,doc,pm,an,cdv,ct,osl,rfl,lk,hcd⟩:=F.ex;exact .all (h kV doc pm an cdv ct)
theorem lS {x qual:Str} {st:AR} {f:xI} {oc:xB} {od an:Option xI} {osl:Array (Option xB)} {kV doc pm cdv ct:xB} (l:K.lookup f=some ⟨oc,od,.func (zV x qual (M0 st) (B7 st) (A6 st) .none kV doc pm an cdv ct),osl⟩)
   (c:y3 K cdv qual=true) (k:j4 K (.ref f)=true):Fun K x qual st f (zV x qual (M0 st) (B7 st) (A6 st) .none kV doc pm an cdv ct):=⟨⟨oc,od,kV,doc,pm,an,cdv,ct,osl,rfl,l,c⟩,k⟩
end
def Same (H H':Hp):Prop:=∀ b o,H b=some o->H' b=some o
theorem Same.refl (H:Hp):Same H H:=fun _ _ h=>h
theorem Same.trans {H H1 H2:Hp} (a:Same H H1) (b:Same H1 H2):Same H H2:=fun c o h=>b c o (a c o h)
theorem Same.free {H H':Hp} (e:Same H H') {l:xI} (h:H' l=Option.none):H l=Option.none:=by
 cases q:H l with
 | none=>rfl
 | some o =>
   rw [e l o q] at h; cases h
end L2
section
namespace Sm
open PySem PySem.SetTable
open L2 (isK Hr Yg Fy)
mutual
theorem eqvK:∀ (a b:wY),isK a=true->isK b=true->(xT a b=true↔a=b)
 | .int i,.int j,_,_=>by simp [xT]
 | .str x,.str y,_,_=>by simp [xT]
 | .tuple xs,.tuple ys,ha,hb=>by
   simp only [xT,DM]; exact sI xs ys (by simpa [isK] using ha) (by simpa [isK] using hb)
 | .int _,.str _,_,_ | .int _,.tuple _,_,_ | .str _,.int _,_,_ | .str _,.tuple _,_,_ | .tuple _,.int _,_,_ | .tuple _,.str _,_,_=>by simp [xT]
 | .none,_,h,_ | .bool _,_,h,_ | .list _,_,h,_ | .dict _,_,h,_=>by simp [isK] at h
 | .int _,.none,_,h | .int _,.bool _,_,h | .int _,.list _,_,h | .int _,.dict _,_,h=>by simp [isK] at h
 | .str _,.none,_,h | .str _,.bool _,_,h | .str _,.list _,_,h | .str _,.dict _,_,h=>by simp [isK] at h
 | .tuple _,.none,_,h | .tuple _,.bool _,_,h | .tuple _,.list _,_,h | .tuple _,.dict _,_,h=>by simp [isK] at h
theorem sI:∀ (a b:List wY),Hr a=true->Hr b=true->(AF a b=true↔a=b)
 | [],[],_,_=>by simp [AF]
 | [],_::_,_,_=>by simp [AF]
 | _::_,[],_,_=>by simp [AF]
 | x::xs,y::ys,ha,hb=>by
   simp only [Hr,yE] at ha hb; simp only [AF,yE,z7]; rw [eqvK x y ha.1 hb.1,sI xs ys ha.2 hb.2]
end
section
variable {prog:yD} {w:yR} {E:xB->xC->Prop}
mutual
theorem Pj:∀ (k:wY) (v:xB) (as:List xI) (A:zI) (s:xC) (Q:Int->xC->Prop),isK k=true->Reads s.heap v k as->A.units+k.depth < m9 ->
   (∀ tk,s.toks<=tk->Q (Yg w k) { s with toks:=tk })->wpAny (xW prog w) A (pyHash v) Q E s
 | .int i,_,_,A,s,Q,_,x,_,h=>by cases x; exact wpAny_pyHash_int (h _ (BS _))
 | .str y,_,_,A,s,Q,_,x,_,h=>by cases x; exact wpAny_pyHash_str (h _ (BS _))
 | .tuple xs,_,_,A,s,Q,hk,x,hu,h=>by
   cases x with
   | tuple hg hc hd hr =>
     rename_i _ a o vs n;refine PySem.W.pyHash_slot (T := "tuple") ⟨_,hg,hc⟩ F.slot_tuple_hash F.entry_tuple_hash (F.args_tuple_hash_1 _) (JS _) (.inr (by lia)) ?_;show wpAny _ _ (DJ (.ref a)>>=_) _ _ s;refine wZ (wpAny_tupleItemsOf hg hd ?_); refine wZ ?_; rw [<- Array.forIn_toList]; refine Sq xs _ _ A.in1 s #[] _ (by simpa [isK] using hk) hr (by simp only [zQ,Around.in1_units] at hu ⊢; lia) fun tk b ht hb=>?_;show wpAny _ _ (retInt (HN b.toList)) _ _ _;rw [hb]; exact wZ (wpAny_mkInt (xA ⟨_,_,rfl,h _ (o8 ht)⟩))
 | .none,_,_,_,_,_,hk,_,_,_ | .bool _,_,_,_,_,_,hk,_,_,_ | .list _,_,_,_,_,_,hk,_,_,_ | .dict _,_,_,_,_,_,hk,_,_,_=>by simp [isK] at hk
theorem Sq:∀ (xs:List wY) (vs:List xB) (as:List xI) (A:zI) (s:xC) (b:Array Int) (Q:Array Int->xC->Prop),Hr xs=true->LK s.heap vs xs as ->
   A.units+zS xs < m9->(∀ tk b',s.toks<=tk->b'.toList=b.toList++Fy w xs->Q b' { s with toks:=tk }) ->
   wpAny (xW prog w) A (forIn vs b fun x r=>do let h <- pyHash x; pure PUnit.unit; pure (z8 (r.push h))) Q E s
 | [],_,_,A,s,b,Q,_,x,_,h=>by cases x; exact xA (h s.toks b (xL _) (by simp [Fy]))
 | k::xs,_,_,A,s,b,Q,hk,x,hu,h=>by
   cases x with
   | cons x1 x2 =>
     simp only [Hr,yE,zS] at hk hu; rw [IV]; refine wZ (wZ (Pj k _ _ A s _ hk.1 x1 (by lia) fun tk ht=>?_));refine wZ (xA (xA ?_)); exact Sq xs _ _ A _ _ Q hk.2 x2 (by lia) fun tk' b' ht' hb=>h tk' b' (xX ht ht') (by simp [hb,Fy])
end
end
section
variable {prog:yD} {w:yR} {A:zI} {E:xB->xC->Prop}
mutual
theorem Ll:∀ (fuel:Nat) (k:wY) (v:xB) (as:List xI) (s:xC) (Q:Bool->xC->Prop),isK k=true->k.depth<=fuel->Reads s.heap v k as->Q true s ->
   wpAny (xW prog w) A (eqIsQuiet fuel v) Q E s
 | fuel,.int _,_,_,s,Q,_,_,x,h=>by cases x; rw [eqIsQuiet_byValue _ rfl]; exact xA h
 | fuel,.str _,_,_,s,Q,_,_,x,h=>by cases x; rw [eqIsQuiet_byValue _ rfl]; exact xA h
 | 0,.tuple _,_,_,s,Q,_,hd,x,h=>by simp [zQ] at hd
 | fuel+1,.tuple xs,_,_,s,Q,hk,hdp,x,h=>by
   cases x with
   | tuple hg hc hd hr =>
     rename_i _ a o vs n;have hT:s.TypeIs (.ref a) "tuple" := ⟨_,hg,hc⟩; unfold eqIsQuiet; refine wZ (w8 hT F.slot_tuple_eq.lookup ?_); show wpAny _ _ (isInstance (.ref a) (.type "tuple")>>=_) _ _ s;refine wZ (CD hT isSubtype_tuple_tuple ?_); simp only [FJ,xY,if_false]; refine wZ (LB hg hd ?_); refine wZ ?_; show wpAny _ _ (forIn vs _ _) _ _ s;rw [<- Array.forIn_toList]; refine Ou fuel xs _ _ s _ (by simpa [isK] using hk) (by simp only [zQ] at hdp; lia) hr ?_;exact xA h
 | _,.none,_,_,_,_,hk,_,_,_ | _,.bool _,_,_,_,_,hk,_,_,_ | _,.list _,_,_,_,_,hk,_,_,_ | _,.dict _,_,_,_,_,hk,_,_,_=>by simp [isK] at hk
theorem Ou:∀ (fuel:Nat) (xs:List wY) (vs:List xB) (as:List xI) (s:xC) (Q:Option Bool×Unit->xC->Prop),Hr xs=true->zS xs<=fuel->LK s.heap vs xs as ->
   Q (none,()) s ->
   wpAny (xW prog w) A (forIn vs ((none,()):Option Bool×Unit) fun x r=>do
     let b <- eqIsQuiet fuel x
     if (!b)=true then pure (ForInStep.done (some false,())) else do
       pure PUnit.unit
       pure (z8 (none,()))) Q E s
 | _,[],_,_,s,Q,_,_,x,h1=>by cases x; exact xA h1
 | fuel,k::xs,_,_,s,Q,hk,hdp,x,h1=>by
   cases x with
   | cons x1 x2 =>
     simp only [Hr,yE,zS] at hk hdp; rw [IV]; refine wZ (wZ (Ll fuel k _ _ s _ hk.1 (by lia) x1 ?_));simp only [FJ,xY,if_false]; exact xA (Ou fuel xs _ _ s Q hk.2 (by lia) x2 h1)
end
end
end Sm
end
section
namespace Sm
open PySem PySem.Spec PyProof.Rows L2
abbrev St:=L2.St
section
variable {prog:yD} {w:yR} {A:zI} {R:Result->xC->Prop} {s:xC}
theorem Vf {elt target iter:Expr} {ifs:List Expr} {scope:Scope} {pos:Pos} {it acc:xB} {env:Env} (I:Nat->xC->Prop)
   (turn:∀ n s,I n s->wpAny (xW prog w) A (pyNext it) (fun r s₁=>match r with
     | none=>R (.ok .next) s₁
     | some v => wpAny (xW prog w) A (GW target it v) (fun _ s₁' => wpAny (xW prog w) A (HS target env v) (fun _ s₂ =>
         wpAny (xW prog w) A (forIn ifs true fun c r=>if r=true then do let ok <- isTrue c env (eval c env); pure (z8 ok) else pure (z8 r)) (fun ok s₃ =>
           if ok=true then wpAny (xW prog w) A (eval elt env) (fun x s₄ =>
             wpAny (xW prog w) A (call (.builtin "list.append") [acc,x]) (fun _ s₅=>∃ m,m < n/\I m s₅) (fun _ _=>False) s₄) (fun _ _=>False) s₃
           else ∃ m,m < n/\I m s₃) (fun _ _=>False) s₂) (fun _ _=>False) s₁') (fun _ _=>False) s₁) (fun _ _=>False) s)
   (n:Nat) (h:I n s):EJ (xW prog w) A (.compLoop (.ListComp elt [⟨target,iter,ifs,0⟩] scope pos) 0 it acc env) R s:=by
 refine codeAny_loop rfl I (fun n s hI=>?_) n h;show wpAny _ A ((compTurn (.ListComp elt [⟨target,iter,ifs,0⟩] scope pos) 0 it acc env).onRaise (fun x=>do noteFrame x env; theTreesLotGoes x)) _ _ s;refine wpAny_noted ?_;rw [compTurn_list];refine wZ (wpAny_standAt (wZ (i5 (turn n s hI) (fun r s₁ h₁=>?_) fun _ _ h'=>h'.elim)));cases r with
 | none=>exact xA h₁
 | some v =>
   refine wZ (i5 h₁ (fun _ s₁' h₁'=>?_) fun _ _ h'=>h'.elim);refine wZ (i5 h₁' (fun _ s₂ h₂=>wZ (i5 h₂ (fun ok s₃ h₃=>?_) fun _ _ h'=>h'.elim)) fun _ _ h'=>h'.elim);cases ok with
   | false=>exact xA ⟨rfl,h₃⟩
   | true =>
     exact wZ (wZ (i5 h₃ (fun x s₄ h₄=>wZ (i5 h₄ (fun _ s₅ h₅=>xA (xA ⟨rfl,h₅⟩)) fun _ _ h'=>h'.elim)) fun _ _ h'=>h'.elim))
end
def Ze (X:Cx) (s₃:xC) (H₃:Hp) (scope:Scope) (cl:List (Str×xI)) (N':List Str) (fp:List xI):Cx :=
 { X with N:=N',s₀:=s₃,H₀:=H₃,env:=compEnvC scope cl s₃.heap.objs.size X.env,outer:=X.stack,stack:=X.stack,ex:=fp,fn:=fun _=>false,pn:=[],xe:=fun _ _=>False }
structure Blk (X X':Cx) (N':List Str) (sc':Scope):Prop where
 prog:X'.prog=X.prog
 w:X'.w=X.w
 K:X'.K=X.K
 mg:X'.mg=X.mg
 base:X'.base=X.base
 A:X'.A=X.A
 calm:X'.calm=X.calm
 N:X'.N=N'
 sc:X'.env.scope=sc'
 xe:X'.xe=fun _ _=>False
structure Clos (X:Cx) (scope:Scope) (cl:List (Str×xI)):Prop where
 clo:closureFor scope X.env=pure cl
 sub:∀ x c,cl.lookup x=some c->X.env.cells.lookup x=some c
 has:∀ x,(v9 scope X.env).names.lookup x=some .cell\/(v9 scope X.env).names.lookup x=some .free->∃ c,cl.lookup x=some c
section
variable {X:Cx} {pins:List (xI×Obj)} {Z:St} {H:Hp} {s₃:xC}
theorem wQ {scope:Scope} {cl:List (Str×xI)} {N':List Str} {fp:List xI} (I:Inv X pins Z H s₃) (hk:scope.kind=.function) (C:Clos X scope cl) (hfp:∀ b∈fp,Qa X pins H b) (hlt:∀ b∈fp,b < s₃.heap.objs.size) :
   (Ze X s₃ H scope cl N' fp).Ok where
 mod:=I.ok.mod
 kind:=hk
 glob:=I.ok.glob
 blt:=I.ok.blt
 above:=xL _
 inj:=fun x y c h1 h2=>I.ok.inj x y c (C.sub x c h1) (C.sub y c h2)
 has:=fun x h=>C.has x h
 cab:=fun x c h=>nomatch h
 hd:=I.ok.hd
 frames:=I.ok.frames
 stk:=.inl rfl
 exf:=fun b hb=>⟨yN (hlt b hb),fun x c h=>(hfp b hb).2.2.2.2.1 x c (C.sub x c h)⟩
 bs:=fun b o e=>I.bs b o e
 bsz:=xX I.ok.bsz I.sz
 noex:=fun b o e hb=>by
   rcases (hfp b hb).2.2.2.1 with z | z
   . exact I.ok.noex b o e z
   . exact absurd (yT (xV e) (xX I.ok.bsz z)) (z5 _)
 exfs:=fun b hb z=>by
   rcases xD.mp (I.stkSub b z) with q | q
   . exact (hfp b hb).2.1 q
   . exact (hfp b hb).2.2.1 q
 funs:=I.stack
 frf:=I.stkFree
def Es (Z:St) (cap:List Nat):St:=cap.map fun j=>Z[j]?.join
theorem rE {scope:Scope} {cl:List (Str×xI)} {xs:List Str} {cap:List Nat} {capN:List Str} {fp:List xI} {h₁:zN} {tk:Nat} (I:Inv X pins Z H s₃) (hk:scope.kind=.function) (C:Clos X scope cl) (hfp:∀ b∈fp,Qa X pins H b) (hlt:∀ b∈fp,b < s₃.heap.objs.size)
   (hcap:cap.map (fun j=>X.N[j]?)=capN.map some) (hcl:∀ x∈capN,(v9 scope X.env).names.lookup x=some .cell\/(v9 scope X.env).names.lookup x=some .free)
   (hvis:∀ x∈capN,X.env.scope.names.lookup x=some .cell\/X.env.scope.names.lookup x=some .free) {m:Str->Option xB}
   (hns:h₁.Ns s₃.heap.objs.size m) (old:∀ b o,s₃.heap.get? b=some o->h₁.get? b=some o) :
   Inv (Ze X s₃ H scope cl (xs++capN) fp) [] (xs.map (fun _=>none)++Es Z cap) H { s₃ with heap:=h₁,toks:=tk }:=by
 have hlen:cap.length=capN.length:=by simpa using congrArg y4 hcap
 refine ⟨wQ I hk C hfp hlt,rfl,I.bare,Un.kept old,⟨m,hns,fun i x v e1 e2 e3=>?_⟩,fun x c e=>?_,I.hok.fresh (xL _),fun x c e=>I.freeC x c (C.sub x c e),fun p hp=>absurd (show p∈([]:List (xI×Obj)) from hp) (by simp),I.hok.kept old,?_⟩
 . have e1':(xs++capN)[i]? = some x:=e1
   by_cases hi:i < xs.length
   . rw [yZ (by simpa using hi),yM] at e2
     cases q:xs[i]? with
     | none=>rw [q] at e2; cases e2
     | some z=>rw [q] at e2; cases e2
   . rw [zH (by simpa using hi)] at e2
     rw [zH (by lia)] at e1'; rw [xG] at e2;generalize i - xs.length=j at e1' e2;unfold Es at e2; rw [yM] at e2; have hc:(cap.map (fun j=>X.N[j]?))[j]? = some (some x):=by rw [hcap,yM,e1']; rfl
     rw [yM] at hc;cases q:cap[j]? with
     | none=>rw [q] at e2; cases e2
     | some k =>
       rw [q] at e2 hc; simp only [EC] at e2 hc; have hc':X.N[k]? = some x:=zB hc; have hs:Z[k]? = some (some v):=by
         cases z:Z[k]? with
         | none=>rw [z] at e2; cases e2
         | some z'=>rw [z] at e2; cases z' with
           | none=>cases e2
           | some z''=>cases e2; rfl
       have hx:x∈capN:=n5 e1'; obtain ⟨m',hm',hl'⟩:=I.loc; obtain ⟨u,r,l⟩:=hl' k x v hc' hs (by rcases hvis x hx with z | z; exact .inr (.inl z); exact .inr (.inr z));refine ⟨u,r,.inr ⟨hcl x hx,?_⟩⟩; obtain ⟨c,hcc⟩:=C.has x (hcl x hx); refine ⟨c,hcc,?_⟩; rcases l with ⟨z,_⟩ | ⟨_,c',e',z⟩
       . have z':X.env.scope.names.lookup x=some .local:=z
         rcases hvis x hx with y | y <;> (rw [z'] at y; cases y)
       . rw [C.sub x c hcc] at e'; cases e'
         obtain ⟨o,ho,hd⟩:=z; exact ⟨o,old _ _ ho,hd⟩
 . obtain ⟨v,o,ho,hd⟩:=I.cell x c (C.sub x c e)
   exact ⟨v,o,old _ _ ho,hd⟩
 . show (xs.map (fun _=>none)++Es Z cap).length=(xs++capN).length
   unfold Es; rw [xN,xN,xG,xG,hlen]
end
def Wk (Z1 Z2:St):Prop:=Z1.length=Z2.length/\∀ (i:Nat) v,Z1[i]? = some (some v)->Z2[i]? = some (some v)
def bP (wi:TI) (Zb:St->St) (g:TG) (tt:TT) (te:TE):TE:=fun Z H Q=>wi Z H fun J H1=>∀ D,H1 D=none->∃ W:Nat->Nat->Hp->Prop,(∃ m,W 0 m (upd H1 D (.lst [])))/\∀ i m H,W i m H ->
 (J.stop i H/\Q (.ref D) H)\/(J.go i H/\∃ N:Hp->Prop,(∀ H',N H'->∃ m',m' < m/\W (i+1) m' H')/\∀ x H',J.yld i H x H'->g x (Zb Z) H' fun Z2 H2=>Wk (Zb Z) Z2/\tt Z2 H2 fun b H3 =>
   if b=true then te Z2 H3 fun y H4=>∃ acc,H4 D=some (.lst acc)/\acc.length < sizeLine/\N (upd H4 D (.lst (acc++[y]))) else N H3)
def PTs (X:Cx) (ifs:List Expr) (t:TT):Prop :=
 ∀ (pins:List (xI×Obj)) (s:xC) (Z:St) (H:Hp) (Q:Bool->Hp->Prop),Inv X pins Z H s->t Z H Q ->
   wpAny (xW X.prog X.w) X.A (forIn ifs true fun c r=>if r=true then do let ok <- isTrue c X.env (eval c X.env); pure (z8 ok) else pure (z8 r)) (TP X pins Z Q) X.xe s
theorem oK {X:Cx}:PTs X [] (fun _ H Q=>Q true H):=fun _ _ _ H _ I h=>wpAny_tests_nil ⟨H,I,h⟩
theorem oJ {X:Cx} {c:Expr} {t:TT} (h:PT X c t):PTs X [c] t:=fun pins s Z H Q I q=>wpAny_tests_one (h pins s Z H Q I q)
structure CompFacts (X:Cx) (scope:Scope) (xs capN:List Str) (cap:List Nat):Prop where
 kind:scope.kind=.function
 nocell:∀ y∈scope.names,y.2≠.cell
 names:∀ y∈scope.names,y.2=.local->scope.names.lookup y.1=some .local
 clos:∃ cl,Clos X scope cl
 hcap:cap.map (fun j=>X.N[j]?)=capN.map some
 hcl:∀ x∈capN,(v9 scope X.env).names.lookup x=some .cell\/(v9 scope X.env).names.lookup x=some .free
 hvis:∀ x∈capN,X.env.scope.names.lookup x=some .cell\/X.env.scope.names.lookup x=some .free
section
variable {X:Cx} {tg elt iter:Expr} {ifs:List Expr} {scope:Scope} {pos:Pos} {wi:TI} {g:TG} {tt:TT} {te:TE} {xs capN:List Str} {cap:List Nat}
theorem Yt {use:Option (xB->Sem Unit)} {Q:xB->xC->Prop} {QQ:VK} (hc:X.calm=true) (F:CompFacts X scope xs capN cap) (hi:PI X tg iter wi)
   (hg:∀ X',Blk X X' (xs++capN) (v9 scope X.env)->PG X' tg g) (ht:∀ X',Blk X X' (xs++capN) (v9 scope X.env)->PTs X' ifs tt) (he:∀ X',Blk X X' (xs++capN) (v9 scope X.env)->PE X' elt te)
   (hs:∀ x,a9 iter X.env x=pure x)
   {pins:List (xI×Obj)} {s:xC} {Z:St} {H:Hp} (I:Inv X pins Z H s) (h:bP wi (fun Z=>xs.map (fun _=>none)++Es Z cap) g tt te Z H QQ) {ps:Pos}
   (fin:∀ (s':xC) (H':Hp) (D C:xI) (m:Str->Option xB),Inv X pins Z H' s'->s'.heap.Ns C m->(H' C=none/\X.s₀.heap.objs.size<=C/\C≠X.env.locals/\(∀ x c,X.env.cells.lookup x=some c->c≠C)/\∀ p∈X.pn++pins,p.1≠C) ->
     QQ (.ref D) H'->compPost (xW X.prog X.w) X.A X.xe use Q (.ref D) C (.ok .next) s') :
   wpAny (xW X.prog X.w) X.A (comprehension (.ListComp elt [⟨tg,iter,ifs,0⟩] scope pos) scope X.env ps (newList []) false (eval iter X.env) use) Q X.xe s:=by
 obtain ⟨cl,C⟩:=F.clos;refine wpAny_comprehension_free rfl hs C.clo F.kind F.names (thn (hi pins s Z H _ I h) fun v s1 h1=>thn h1 fun itv s2 h2=>?_);obtain ⟨it,fp,tn,J,H2,e,I2,T,st2,f2,h3⟩:=h2;subst e;refine zC ?_;obtain ⟨W,⟨m0,w0⟩,turn⟩:=h3 s2.heap.objs.size I2.fresh;have I3:Inv X pins Z (upd H2 s2.heap.objs.size (.lst [])) { s2 with heap:=s2.heap.push { cls:=.type "list",dict:=none,data:=.seq ([]:List xB).toArray } }:=I2.lnew (t':=s2.toks) .nil (c7 _);generalize hH3:upd H2 s2.heap.objs.size (HO.lst [])=H3 at I3 w0;generalize hs3:({ s2 with heap:=s2.heap.push { cls:=.type "list",dict:=none,data:=.seq ([]:List xB).toArray } }:xC)=s3 at I3
 have hD3:H3 s2.heap.objs.size=some (.lst []):=by rw [<- hH3]; exact B8
 have kp3:∀ b o,s2.heap.get? b=some o->s3.heap.get? b=some o:=fun b o e=>by rw [<- hs3]; exact xE _ e
 have hDlt:s2.heap.objs.size < s3.heap.objs.size:=by rw [<- hs3]; show _ < (s2.heap.push _).objs.size; rw [ET]; exact DX _
 have flt:∀ b∈fp,b < s2.heap.objs.size:=fun b hb=>by
   obtain ⟨o,e,_⟩:=T.obj 0 _ st2 b hb; exact xV e
 have flt3:∀ b∈fp,b < s3.heap.objs.size:=fun b hb=>ID (flt b hb) hDlt;have f3:∀ b∈fp,Qa X pins H3 b:=fun b hb=>⟨by rw [<- hH3,C0 (yN (flt b hb))]; exact (f2 b hb).1,(f2 b hb).2⟩;have st3:tn 0 s3.heap:=T.keep 0 _ _ st2 fun b hb o e=>kp3 b o e;show wpAny _ _ (newFunctionEnv scope X.env.globals cl [] X.env.qual none .none (some X.env)) _ _ s3;refine wpAny_newFunctionEnv F.nocell (by intro y hy; simp at hy) (fun h₁ hns₁ hsb₁=>?_) F.kind;have old:∀ b o,s3.heap.get? b=some o->h₁.get? b=some o:=fun b o e=>hsb₁.extBut b o (yN (xV e)) (xE _ e);have B:Blk X (Ze X s3 H3 scope cl (xs++capN) fp) (xs++capN) (v9 scope X.env):=⟨rfl,rfl,rfl,rfl,rfl,rfl,rfl,rfl,rfl,rfl⟩
 have J0:Inv (Ze X s3 H3 scope cl (xs++capN) fp) [] (xs.map (fun _=>none)++Es Z cap) H3 { s3 with heap:=h₁,toks:=s3.toks+([]:List (Str×xB)).length } :=
   rE I3 F.kind C f3 flt3 F.hcap F.hcl F.hvis hns₁ old
 have st4:tn 0 h₁:=T.keep 0 _ _ st3 fun b hb o e=>old b o e;have hg':=hg _ B;have ht':=ht _ B;have he':=he _ B;generalize hX':Ze X s3 H3 scope cl (xs++capN) fp=X' at B J0 hg' ht' he';have hex:X'.ex=fp:=by rw [<- hX']; rfl
 have hloc:X'.env.locals=s3.heap.objs.size:=by rw [<- hX']; rfl
 have henv:X'.env=compEnvC scope cl s3.heap.objs.size X.env:=by rw [<- hX']; rfl
 have hpn:X'.pn=[]:=by rw [<- hX']; rfl
 have hxe:X'.xe=fun _ _=>False:=by rw [<- hX']; rfl
 have hH0:X'.H₀=H3:=by rw [<- hX']; rfl
 have hs0:X'.s₀=s3:=by rw [<- hX']; rfl
 have hfs:X'.fs=frs X.stack:=by rw [<- hX']; rfl
 have hP:X'.prog=X.prog:=B.prog;have hw:X'.w=X.w:=B.w;have hA:X'.A=X.A:=B.A;have nfs:∀ b∈fp,b∉X'.fs:=fun b hb z=>J0.ok.exfs b (by rw [hex]; exact hb) z;have stat:∀ {pn':List (xI×Obj)} {H':Hp},(∀ b∈fp,H' b=none)->(∀ p∈pn',p.1∉fp)->∀ b∈fp,Qa X' pn' H' b:=fun {pn' H'} hn hp b hb =>
   ⟨hn b hb,by rw [hloc]; exact yN (flt3 b hb),nfs b hb,.inl (by rw [hex]; exact hb),fun x c e=>(J0.ok.exf b (by rw [hex]; exact hb)).2 x c e,fun p hp' z=>by
     rw [hpn,yO] at hp'; exact hp p hp' (z▸hb)⟩
 have loop : ∀ s₀' : xC, Inv X' [] (xs.map (fun _ => none) ++ Es Z cap) H3 s₀' -> tn 0 s₀'.heap ->
     EJ (xW X.prog X.w) X.A (.compLoop (.ListComp elt [⟨tg,iter,ifs,0⟩] scope pos) 0 (.ref it) (.ref s2.heap.objs.size) X'.env) (compPost (xW X.prog X.w) X.A X.xe use Q (.ref s2.heap.objs.size) s3.heap.objs.size) s₀':=by
   intro s₀' J1 st5; refine Vf (fun n s'=>∃ i H',Inv X' [] (xs.map (fun _=>none)++Es Z cap) H' s'/\tn i s'.heap/\(∀ b∈fp,H' b=none)/\W i n H') ?_ m0 ⟨0,H3,J1,st5,fun b hb=>(f3 b hb).1,w0⟩;rintro n s4 ⟨i,H4,J4,st4,fr4,w4⟩;rcases turn i n H4 w4 with ⟨stop,qn⟩ | ⟨go,N,hN,step⟩
   . have hd:=T.done X' B.prog B.w B.K (B.calm.trans hc) i [] s4 _ H4 (fun _ _=>False) J4 (stat fr4 (by simp)) st4 stop
     rw [hA] at hd; refine thn hd fun r s5 hZ2=>?_;obtain ⟨hr,J5⟩:=hZ2; subst hr; have un:Un (frs X.stack) fp H3 H4 s3.heap s5.heap:=by
       have:=J5.base; rw [hfs,hex,hH0,hs0] at this; exact this
     have ho:s5.os=s3.os:=by rw [J5.os,hs0]
     have hok5:HOk X.prog X.w H4 s5.heap:=by have:=J5.hok; rw [hP,hw] at this; exact this
     have I5:Inv X pins Z H4 s5:=I3.call' ho un hok5 J5.bare fun b hb=>⟨(f3 b hb).2.2.2.1,(f3 b hb).2.1,(f3 b hb).2.2.2.2.1,(f3 b hb).2.2.2.2.2⟩;obtain ⟨m5,hm5,_⟩:=J5.loc; rw [hloc] at hm5; refine fin s5 H4 _ s3.heap.objs.size m5 I5 hm5 ⟨by have:=J5.free; rw [hloc] at this; exact this,I3.sz,BC I3.lt,fun x c e z=>?_,fun p hp z=>?_⟩ qn
     . obtain ⟨v,q⟩:=I3.cell x c e
       exact absurd q.lt (by rw [z]; exact z5 _)
     . exact absurd (xV (I3.pin p hp).1) (by rw [z]; exact z5 _)
   . have hd:=T.item X' B.prog B.w B.K (B.calm.trans hc) i [] s4 _ H4 (fun _ _=>False) J4 (stat fr4 (by simp)) st4 go
     rw [hA] at hd; refine thn hd fun r s5 hZ2=>?_;obtain ⟨u,hr,h5⟩:=hZ2; subst hr; refine thn h5 fun _ s6 hZ2=>?_;obtain ⟨x,H6,J6,r6,y6,st6,fr6⟩:=hZ2; have J6':=J6.pinned (stat fr6 (by simp)) (T.obj _ _ st6);rw [yO] at J6'; have hgx:=hg' _ s6 _ H6 x u _ J6' r6 (step x H6 y6); rw [hP,hw,hA,hxe] at hgx; refine thn hgx fun _ s7 hZ2=>?_;obtain ⟨Z7,H7,J7,wk7,q7⟩:=hZ2; have htx:=ht' _ s7 Z7 H7 _ J7 q7; rw [hP,hw,hA,hxe] at htx; refine thn htx fun ok s8 hZ2=>?_;obtain ⟨H8,J8,q8⟩:=hZ2; have again:∀ {H9:Hp} {s9:xC},Inv X' (Ox fp s6.heap) Z7 H9 s9->N H9->(∃ m,m < n/\∃ i H',Inv X' [] (xs.map (fun _=>none)++Es Z cap) H' s9/\tn i s9.heap/\(∀ b∈fp,H' b=none)/\W i m H'):=fun {H9 s9} J9 n9=>by
       obtain ⟨m',hm,w9⟩:=hN H9 n9; have pin9:∀ b∈fp,∀ o,s6.heap.get? b=some o->s9.heap.get? b=some o/\H9 b=none:=fun b hb o e=>by
         have:=J9.pin (b,o) (p6 _ (Ho hb e)); exact ⟨this.1,this.2.1⟩
       refine ⟨m',hm,i+1,H9,(J9.weak wk7.1 wk7.2).pins_of (fun p hp=>nomatch hp),T.keep _ _ _ st6 fun b hb o e=>(pin9 b hb o e).1,fun b hb=>?_,w9⟩;obtain ⟨o,e,d⟩:=T.obj _ _ st6 b hb; exact (pin9 b hb o e).2
     cases ok with
     | false =>
       rw [if_neg (by decide)] at q8 ⊢;exact again J8 q8
     | true =>
       rw [if_pos rfl] at q8 ⊢;have hex:=he' _ s8 Z7 H8 _ J8 q8; rw [hP,hw,hA,hxe] at hex; refine thn hex fun y s9 hZ2=>?_;obtain ⟨x9,H9,J9,r9,acc,ha,hz,n9⟩:=hZ2; have hap:=Km (X:=X') _ s9 Z7 H9 (.ref s2.heap.objs.size) [x9] (.ref s2.heap.objs.size) [y] (fun _ H'=>N H') J9 rfl (.cons r9 .nil) ⟨_,acc,x9,rfl,rfl,ha,hz,n9⟩;rw [hP,hw,hA,hxe] at hap; exact thn hap fun _ s10 hZ2=>by obtain ⟨_,H10,J10,_,n10⟩:=hZ2; exact again J10 n10
 have e0:({ (newEnv scope s3.heap.objs.size X.env.globals cl X.env.qual none .none (some X.env) GQ:Env) with scope:=v9 scope X.env }:Env)=X'.env:=by rw [henv]; rfl
 have e1:(newEnv scope s3.heap.objs.size X.env.globals cl X.env.qual none .none (some X.env) GQ:Env).locals=s3.heap.objs.size:=rfl;show EJ _ _ (.compStart _ 0 (.ref it) (.ref s2.heap.objs.size) ({ (newEnv scope s3.heap.objs.size X.env.globals cl X.env.qual none .none (some X.env) GQ:Env) with scope:=v9 scope X.env }:Env)) (compPost _ _ _ _ _ _ s3.heap.objs.size) _;rw [e0];exact codeAny_compStart_list (loop _ J0 st4) (T.self _ 0 _ _ _ st4 (loop _ J0 st4))
theorem oU (hc:X.calm=true) (F:X.Ok->CompFacts X scope xs capN cap) (hi:PI X tg iter wi)
   (hg:∀ X',Blk X X' (xs++capN) (v9 scope X.env)->PG X' tg g) (ht:∀ X',Blk X X' (xs++capN) (v9 scope X.env)->PTs X' ifs tt) (he:∀ X',Blk X X' (xs++capN) (v9 scope X.env)->PE X' elt te)
   (hs:∀ x,a9 iter X.env x=pure x:=by intro _; rfl):PE X (.ListComp elt [⟨tg,iter,ifs,0⟩] scope pos) (bP wi (fun Z=>xs.map (fun _=>none)++Es Z cap) g tt te):=by
 intro pins s Z H Q I h;rw [eval_ListComp];refine Yt (use:=none) hc (F I.ok) hi hg ht he hs I h fun s' H' D C m I' hm hZ7 q=>?_;obtain ⟨c1,c2,c3,c4,c5⟩:=hZ7;refine ⟨m,hm,fun h' sb=>?_⟩;exact ⟨.ref D,H',I'.turned (t':=s'.toks) (fun b o hb e=>(sb.2 b hb).trans e) c1 c3 (.inr c2) c4 c5,rfl,q⟩
theorem Hj {i:Nat} {y:Str} {py spos:Pos} (hc:X.calm=true) (F:X.Ok->CompFacts X scope xs capN cap) (hi:PI X tg iter wi)
   (hg:∀ X',Blk X X' (xs++capN) (v9 scope X.env)->PG X' tg g) (ht:∀ X',Blk X X' (xs++capN) (v9 scope X.env)->PTs X' ifs tt) (he:∀ X',Blk X X' (xs++capN) (v9 scope X.env)->PE X' elt te)
   (hN:X.N.Nodup) (hy:X.N[i]? = some y) (hl:X.env.scope.names.lookup y=some .local) (hsw:q9 (.ListComp elt [⟨tg,iter,ifs,0⟩] scope pos) (some (.Name y py)) spos.line X.env=pure true)
   (hs:∀ x,a9 iter X.env x=pure x:=by intro _; rfl):PS X (.Assign [.Name y py] (.ListComp elt [⟨tg,iter,ifs,0⟩] scope pos) spos) (tJ (bP wi (fun Z=>xs.map (fun _=>none)++Es Z cap) g tt te) (V5 i)):=by
 intro pins s Z H D0 I h;rw [exec_Assign_Name_used _ _ _ _ hsw];refine wZ (wpAny_standAt (wZ ?_));show wpAny _ _ (do let _ <- comprehension (.ListComp elt [⟨tg,iter,ifs,0⟩] scope pos) scope X.env _ (newList []) false (eval iter X.env) (some (HS (.Name y py) X.env))) _ _ s;refine wZ (i5 (Yt (use:=some (HS (.Name y py) X.env)) (Q:=fun _ s'=>SP X pins D0 .next s') hc (F I.ok) hi hg ht he hs I h fun s' H' D C m I' hm hY33 q=>?_) (fun _ s' hq=>xA (xA hq)) fun _ _ e=>e);obtain ⟨c1,c2,c3,c4,c5⟩:=hY33;show wpAny _ _ (HS (.Name y py) X.env (.ref D)) _ _ s'
 refine wpAny_assign_Name (Rs I' hN hy (.inl hl) (v:=.ref D) rfl (fun s'' I'' hY34=>?_) (.inr hl));obtain ⟨a,sa,ea⟩:=hY34;have haC:a≠C:=by
   rcases ea with z | z
   . rw [z]; exact Ne.symm c3
   . exact c4 _ _ z
 refine ⟨m,hm.sameBut sa (Ne.symm haC),fun h' sb=>?_⟩;exact ⟨_,H',I''.turned (t':=s''.toks) (fun b o hb e=>(sb.2 b hb).trans e) c1 c3 (.inr c2) c4 c5,q⟩
end
end Sm
end
section
namespace L2
open PySem PySem.Spec PyProof.Rows
section
variable {X:Cx} {pins:List (xI×Obj)} {Z:St} {H:Hp} {s:xC}
theorem Inv.big (I:Inv X pins Z H s):o0 < s.heap.objs.size:=by
 have h:e8 < s.heap.objs.size:=(I.mod.glob.keeps I.bk).lt;exact ID (by decide) h
end
def wX (i:Expr):Prop:=∀ ov iv,KA i false ov iv=operate [ov,iv] (FA ov iv)
theorem nL {prog:yD} {w:yR} {A:zI} {E:xB->xC->Prop} {s:xC} {env:Env} {value slice:Expr} {pos:Pos} {T id:String} {Q:xB->xC->Prop}
   (hl:II (.type T) "__getitem__" = pure (some (.builtin id))) (hs:wX slice)
   (h:wpAny (xW prog w) A (eval value env) (fun o s₁=>wpAny (xW prog w) A (eval slice env) (fun i s₂=>s₂.TypeIs o T/\wpAny (xW prog w) A (FA o i) Q E s₂) E s₁) E s) :
   wpAny (xW prog w) A (eval (.Subscript value slice pos) env) Q E s:=by
 refine Subscript_ (i5 h (fun o s₁ h₁=>i5 h₁ (fun i s₂ h₂=>?_) fun _ _ x=>x) fun _ _ x=>x);obtain ⟨hT,h₂⟩:=h₂;unfold subscriptTail;refine wZ ?_;rw [getitemInPython_of_ne hT.not_modules];refine wZ (w8 hT hl ?_);have fin:wpAny (xW prog w) A (KA slice false o i) (fun r s₃=>wpAny (xW prog w) A (letTemporaryGo value o r>>=fun _=>pure r) Q E s₃) E s₂:=by
   rw [hs o i]; exact wpAny_operating (i5 h₂ (fun r s₃ h₃=>wZ (wpAny_letTemporaryGo (xA h₃))) fun _ _ x=>x)
 first
   | exact xA (wZ fin)
   | exact wZ (xA (wZ fin))
   | exact wZ fin
theorem lX {P:yD} {w:yR} {H:Hp} (h:zN) (hb:o0 < h.objs.size):ObjOk P w H (h.push { cls:=.type "dict",data:=.dict #[] }) h.objs.size (.dT []) :=
 ⟨c7 _,beq_eq_false_iff_ne.mpr (Ne.symm (yN hb)),[],.nil,_,#[],0,xQ _ rfl,⟨rfl,rfl,rfl⟩,rfl,rfl,List.nodup_nil⟩
def tH:TE:=fun _ H Q=>∀ p,H p=none->Q (.ref p) (upd H p (.dT []))
section
variable {X:Cx} {pos:Pos}
theorem jY:PE X (.Dict [] [] pos) tH:=fun pins s Z H Q I h =>
 wpAny_Dict_empty ⟨.ref s.heap.objs.size,_,I.laid (a:=s.heap.objs.size) (o:=.dT []) (t':=s.toks) (fun _ _ q=>xE _ q) (xL _) (lX s.heap I.big),rfl,h _ (I.hok.fresh (xL _))⟩
end
structure M1 (X:Cx) (o:Expr) (m:Str) (apos:Pos) (e:Expr) (cpos:Pos):Prop where
 base:AD o m X.env (eval o X.env)=eval o X.env
 few:((i6 cpos (xO [e] X.env)).all (fun x => !x.1)&&(GI cpos (DG [] X.env)).all (fun x=>x.1.isSome)
   && decide (([e]:List Expr).length+([]:List BW).length+(if ([]:List BW).isEmpty then 0 else 1) < 30))=true
 line:(apos.endLine==cpos.line)=true
 trees:i6 cpos (xO [e] X.env)=[(false,eval e X.env)]
structure M2 (X:Cx) (o:Expr) (m:Str) (apos:Pos) (e f:Expr) (cpos:Pos):Prop where
 base:AD o m X.env (eval o X.env)=eval o X.env
 few:((i6 cpos (xO [e,f] X.env)).all (fun x => !x.1)&&(GI cpos (DG [] X.env)).all (fun x=>x.1.isSome)
   && decide (([e,f]:List Expr).length+([]:List BW).length+(if ([]:List BW).isEmpty then 0 else 1) < 30))=true
 line:(apos.endLine==cpos.line)=true
 trees:i6 cpos (xO [e,f] X.env)=[(false,eval e X.env),(false,eval f X.env)]
end L2
end
section
namespace Sm
open PySem PySem.Spec PyProof.Rows L2
inductive Res (α:Type) where
 | ok (a:α)
 | exc (c:Str)
 | no
noncomputable def Res.bind {α β:Type}:Res α->(α->Res β)->Res β
 | .ok a,k=>k a
 | .exc c,_=>.exc c
 | .no,_=>.no
noncomputable def ofO {α:Type}:Option α->Res α
 | some a=>.ok a
 | none=>.no
inductive Sl where
 | un
 | sh (d:wY)
 | ow (d:wY)
 | fd (kvs:List (wY×wY))
abbrev Dn:=List Sl
mutual
noncomputable def Rep (G:Hp):wY->V->Prop
 | .none,v=>v=.non
 | .bool b,v=>v=.bl b
 | .int i,v=>v=.int i
 | .str x,v=>v=.str x/\yP x=true/\x.length<=sizeLine
 | .list ds,v=>∃ a xs,v=.ref a/\Rd G a (.lst xs)/\RepL G ds xs
 | .tuple ds,v=>∃ a xs,v=.ref a/\G a=some (.tup xs)/\RepL G ds xs
 | .dict _,_=>False
noncomputable def RepL (G:Hp):List wY->List V->Prop
 | [],xs=>xs=[]
 | d::ds,xs=>∃ x r,xs=x::r/\Rep G d x/\RepL G ds r
end
theorem Rd.mono {G G':Hp} (h:Same G G') {a:xI} {u:HO} (r:Rd G a u):Rd G' a u:=by
 rcases r with r | ⟨o,r⟩
 . exact .inl (h _ _ r)
 . exact .inr ⟨o,h _ _ r⟩
mutual
theorem Rep.mono {G G':Hp} (h:Same G G'):∀ {d:wY} {v:V},Rep G d v->Rep G' d v
 | .none,_,r=>r
 | .bool _,_,r=>r
 | .int _,_,r=>r
 | .str _,_,r=>r
 | .list _,_,r=>by obtain ⟨a,xs,e,q,l⟩:=r; exact ⟨a,xs,e,Rd.mono h q,RepL.mono h l⟩
 | .tuple _,_,r=>by obtain ⟨a,xs,e,q,l⟩:=r; exact ⟨a,xs,e,h _ _ q,RepL.mono h l⟩
 | .dict _,_,r=>r.elim
theorem RepL.mono {G G':Hp} (h:Same G G'):∀ {ds:List wY} {xs:List V},RepL G ds xs->RepL G' ds xs
 | [],_,r=>r
 | _::_,_,r=>by obtain ⟨x,t,e,q,l⟩:=r; exact ⟨x,t,e,Rep.mono h q,RepL.mono h l⟩
end
mutual
theorem Rep.lay {G:Hp}:∀ {d:wY} {v:V},Rep G d v->d.canLay0=true
 | .none,_,r=>rfl
 | .bool _,_,r=>rfl
 | .int _,_,r=>rfl
 | .str _,_,r=>r.2.1
 | .list _,_,r=>by obtain ⟨a,xs,e,q,l⟩:=r; exact RepL.lay l
 | .tuple _,_,r=>by obtain ⟨a,xs,e,q,l⟩:=r; exact RepL.lay l
 | .dict _,_,r=>r.elim
theorem RepL.lay {G:Hp}:∀ {ds:List wY} {xs:List V},RepL G ds xs->s0 ds=true
 | [],_,r=>rfl
 | _::_,_,r=>by
   obtain ⟨x,t,e,q,l⟩:=r; rw [s0,Rep.lay q,RepL.lay l]; rfl
end
noncomputable section
variable {G:Hp}
theorem RepL.cons {d:wY} {ds:List wY} {x:V} {xs:List V} (h:Rep G d x) (t:RepL G ds xs):RepL G (d::ds) (x::xs):=⟨x,xs,rfl,h,t⟩
theorem RepL.length:∀ {ds:List wY} {xs:List V},RepL G ds xs->ds.length=xs.length:=by
 intro iN; induction iN with
 | nil=>intro _ r; cases (show _=_ from r); rfl
 | cons d ds ih=>intro _ r; obtain ⟨x,t,rfl,q,l⟩:=r; simp [ih l]
theorem RepL.get:∀ {ds:List wY} {xs:List V} {i:Nat} {d:wY},RepL G ds xs->ds[i]? = some d->∃ x,xs[i]? = some x/\Rep G d x
 | [],_,_,_,_,e=>by simp at e
 | d::ds,_,0,_,r,e=>by obtain ⟨x,t,rfl,q,l⟩:=r; simp at e; subst e; exact ⟨x,rfl,q⟩
 | d::ds,_,i+1,_,r,e=>by
   obtain ⟨x,t,rfl,q,l⟩:=r; obtain ⟨y,h1,h2⟩:=RepL.get (i:=i) l (by simpa using e);exact ⟨y,by simpa using h1,h2⟩
theorem RepL.append:∀ {ds es:List wY} {xs ys:List V},RepL G ds xs->RepL G es ys->RepL G (ds++es) (xs++ys):=by
 intro iN; induction iN with
 | nil=>intro _ _ _ r q; cases (show _=_ from r); exact q
 | cons d ds ih=>intro _ _ _ r q; obtain ⟨x,t,rfl,h,l⟩:=r; exact RepL.cons h (ih l q)
theorem RepL.drop:∀ (n:Nat) {ds:List wY} {xs:List V},RepL G ds xs->RepL G (ds.drop n) (xs.drop n)
 | 0,_,_,r=>r
 | _+1,[],_,r=>by cases (show _=_ from r); exact rfl
 | n+1,d::ds,_,r=>by obtain ⟨x,t,rfl,h,l⟩:=r; exact RepL.drop n l
theorem RepL.take:∀ (n:Nat) {ds:List wY} {xs:List V},RepL G ds xs->RepL G (ds.take n) (xs.take n)
 | 0,_,_,r=>rfl
 | _+1,[],_,r=>by cases (show _=_ from r); exact rfl
 | n+1,d::ds,_,r=>by obtain ⟨x,t,rfl,h,l⟩:=r; exact RepL.cons h (RepL.take n l)
theorem RepL.rep {ds:List wY} {xs:List V} (r:RepL G ds xs):∀ k:Nat,RepL G (yB k ds).flatten (yB k xs).flatten:=by
 intro iN; induction iN with
 | zero=>skip; exact rfl
 | succ k ih =>
   skip
   rw [o9,o9,BK,BK]; exact RepL.append r (ih)
theorem RepL.ints (ns:List Int):RepL G (ns.map k8) (ns.map V.int):=by
 induction ns with
 | nil=>exact rfl
 | cons n ns ih=>exact RepL.cons rfl ih
theorem RepL.dropLast {ds:List wY} {xs:List V} (r:RepL G ds xs):RepL G ds.dropLast xs.dropLast:=by
 rw [LQ,LQ,r.length];exact RepL.take _ r
end
structure Grow (G H G' H':Hp):Prop where
 g:Same G G'
 h:Same H H'
 gh:Same G' H'
 fr:∀ b o,G' b=some o->G b=some o\/H b=none\/∃ xs,o=HO.tup xs
theorem Grow.refl {G H:Hp} (h:Same G H):Grow G H G H:=⟨Same.refl _,Same.refl _,h,fun _ _ e=>.inl e⟩
theorem Grow.trans {G H G1 H1 G2 H2:Hp} (a:Grow G H G1 H1) (b:Grow G1 H1 G2 H2):Grow G H G2 H2 :=
 ⟨a.g.trans b.g,a.h.trans b.h,b.gh,fun c o e=>by
   rcases b.fr c o e with q | q | q
   . exact a.fr c o q
   . exact .inr (.inl (a.h.free q))
   . exact .inr (.inr q)⟩
theorem Same.upd {H:Hp} {p:xI} {o:HO} (h:H p=none):Same H (upd H p o):=fun b u e=>by
 rw [C0 (D8 e h)]; exact e
theorem Grow.new {G H:Hp} {p:xI} {o:HO} (s:Same G H) (h:H p=none):Grow G H (upd G p o) (upd H p o):=by
 have hg:G p=none:=s.free h;refine ⟨Same.upd hg,Same.upd h,fun b u e=>?_,fun b u e=>?_⟩
 . by_cases hb:b=p
   . subst hb; rw [B8] at e ⊢; exact e
   . rw [C0 hb] at e ⊢; exact s _ _ e
 . by_cases hb:b=p
   . subst hb; exact .inr (.inl h)
   . rw [C0 hb] at e; exact .inl e
theorem Grow.own {G H:Hp} {p:xI} {o:HO} (s:Same G H) (h:H p=none):Grow G H G (upd H p o) :=
 ⟨Same.refl _,Same.upd h,s.trans (Same.upd h),fun _ _ e=>.inl e⟩
noncomputable def vU:Key->wY
 | .inl i=>.int i
 | .inr x=>.str x
noncomputable def sC (kk:List (Key×V)):List (List Key×V):=kk.map fun p=>([p.1],p.2)
noncomputable def OwnK (G H:Hp) (a:xI):List wY->Prop
 | [.dict kvs]=>∃ kk:List (Key×V),H a=some (.dK kk)/\kvs.map (·.1)=(sC kk).map (fun p=>o3 (p.1.map vU))/\RepL G (kvs.map (·.2)) ((sC kk).map (·.2))
 | [.dict kvs,.none]=>∃ kk:List (wY×V),H a=some (.dN kk)/\kvs.map (·.1)=kk.map (·.1)/\RepL G (kvs.map (·.2)) (kk.map (·.2))
 | _=>False
theorem OwnK.keep {G G' H H':Hp} {a:xI} {xs:List wY} (g:Same G G') (e:∀ o,H a=some o->H' a=some o) (h:OwnK G H a xs):OwnK G' H' a xs:=by
 unfold OwnK at h ⊢;split at h
 . obtain ⟨kk,h1,h2,h3⟩:=h
   exact ⟨kk,e _ h1,h2,h3.mono g⟩
 . obtain ⟨kk,h1,h2,h3⟩:=h
   exact ⟨kk,e _ h1,h2,h3.mono g⟩
 . exact h.elim
theorem OwnK.is {G H:Hp} {a:xI} {xs:List wY} (h:OwnK G H a xs):∃ o,H a=.some o:=by
 unfold OwnK at h;split at h
 . obtain ⟨kk,h1,_⟩:=h
   exact ⟨_,h1⟩
 . obtain ⟨kk,h1,_⟩:=h
   exact ⟨_,h1⟩
 . exact h.elim
noncomputable def OwnOk (G H:Hp) (a:xI):wY->Prop
 | .list ds=>∃ xs,H a=some (.lst xs)/\RepL G ds xs
 | .dict kvs=>∃ kk:List (List Key×V),H a=some (.dT kk)/\kvs.map (·.1)=kk.map (fun p=>o3 (p.1.map vU))/\RepL G (kvs.map (·.2)) (kk.map (·.2))
 | .tuple xs=>OwnK G H a xs
 | _=>False
def FdOk (G:Hp) (o:Option V) (kvs:List (wY×wY)):Prop:=match kvs with
 | (.dict [],.none)::r=>∃ a,∃ kk:List (wY×V),o=some (.ref a)/\Rd G a (.dN kk)/\r.map (·.1)=kk.map (·.1)/\RepL G (r.map (·.2)) (kk.map (·.2))
 | _=>∃ a ob,∃ kk:List (List Key×V),o=some (.ref a)/\G a=some (.frz ob (.dT kk))/\kvs.map (·.1)=kk.map (fun p=>o3 (p.1.map vU))/\RepL G (kvs.map (·.2)) (kk.map (·.2))
theorem FdOk.mono {G G':Hp} {o:Option V} {kvs:List (wY×wY)} (g:Same G G') (h:FdOk G o kvs):FdOk G' o kvs:=by
 unfold FdOk at h ⊢;split at h
 . obtain ⟨a,kk,h1,h2,h3,h4⟩:=h
   exact ⟨a,kk,h1,Rd.mono g h2,h3,h4.mono g⟩
 . obtain ⟨a,ob,kk,h1,h2,h3,h4⟩:=h
   exact ⟨a,ob,kk,h1,g _ _ h2,h3,h4.mono g⟩
noncomputable def SlOk (G H:Hp) (o:Option V):Sl->Prop
 | .un=>True
 | .sh d=>∃ v,o=some v/\Rep G d v
 | .ow d=>∃ a,o=some (.ref a)/\G a=none/\OwnOk G H a d
 | .fd kvs=>FdOk G o kvs
structure SR (G H:Hp) (Z:St) (δ:Dn):Prop where
 sub:Same G H
 len:Z.length=δ.length
 sl:∀ (i:Nat) (s:Sl),δ[i]? = some s->SlOk G H (Z[i]?.join) s
 ap:∀ (i j:Nat) (a:xI) (d e:wY),δ[i]? = some (.ow d)->δ[j]? = some (.ow e)->Z[i]?.join=some (.ref a)->Z[j]?.join=some (.ref a)->i=j
theorem OwnOk.some {G H:Hp} {a:xI} {d:wY} (h:OwnOk G H a d):∃ o,H a=some o:=by
 cases d with
 | list ds=>obtain ⟨xs,e,_⟩:=h; exact ⟨_,e⟩
 | dict kvs=>obtain ⟨xs,e,_⟩:=h; exact ⟨_,e⟩
 | tuple xs=>exact OwnK.is h
 | _=>exact (show False from h).elim
theorem OwnOk.grow {G H G' H':Hp} (g:Grow G H G' H') {a:xI} {d:wY} (h:OwnOk G H a d):OwnOk G' H' a d:=by
 cases d with
 | list ds=>obtain ⟨xs,e,r⟩:=h; exact ⟨xs,g.h _ _ e,r.mono g.g⟩
 | dict kvs=>obtain ⟨xs,e,k,r⟩:=h; exact ⟨xs,g.h _ _ e,k,r.mono g.g⟩
 | tuple xs=>exact OwnK.keep g.g (fun o e=>g.h _ _ e) h
 | _=>exact (show False from h).elim
theorem OwnOk.noTup {G H:Hp} {a:xI} {d:wY} (h:OwnOk G H a d) {xs:List V} (e:H a=.some (HO.tup xs)):False:=by
 cases d with
 | list ds=>obtain ⟨_,z,_⟩:=h; rw [e] at z; cases z
 | dict kvs=>obtain ⟨_,z,_⟩:=h; rw [e] at z; cases z
 | tuple ys =>
   have h':OwnK G H a ys:=h; unfold OwnK at h';split at h'
   . obtain ⟨_,z,_⟩:=h'; rw [e] at z; cases z
   . obtain ⟨_,z,_⟩:=h'; rw [e] at z; cases z
   . exact h'
 | _=>exact (show False from h).elim
theorem SlOk.grow {G H G' H':Hp} (g:Grow G H G' H') {o:Option V} {s:Sl} (h:SlOk G H o s):SlOk G' H' o s:=by
 cases s with
 | un=>trivial
 | sh d=>obtain ⟨v,e,r⟩:=h; exact ⟨v,e,r.mono g.g⟩
 | fd kvs=>exact FdOk.mono g.g h
 | ow d =>
   obtain ⟨a,e,n,r⟩:=h; refine ⟨a,e,?_,r.grow g⟩;cases q:G' a with
   | none=>rfl
   | some u =>
     obtain ⟨o',eo⟩:=r.some; rcases g.fr a u q with z | z | ⟨xs,rfl⟩
     . rw [n] at z; cases z
     . rw [eo] at z; cases z
     . exact ((r.grow g).noTup (g.gh _ _ q)).elim
theorem SR.grow {G H G' H':Hp} {Z:St} {δ:Dn} (S:SR G H Z δ) (g:Grow G H G' H'):SR G' H' Z δ :=
 ⟨g.gh,S.len,fun i s e=>(S.sl i s e).grow g,S.ap⟩
abbrev EK:=Str->Hp->Prop
def Aft (E:EK) (G H:Hp) (r:Res wY) (Q:VK):Prop:=match r with
 | .ok d=>∀ v G' H',Grow G H G' H'->Rep G' d v->Q v H'
 | .exc c=>∀ G' H',Grow G H G' H'->E c H'
 | .no=>False
def tD (E:EK) (f:Dn->Res wY):TE:=fun Z H Q=>∃ G δ,SR G H Z δ/\Aft E G H (f δ) Q
abbrev DE (X:Cx) (E:EK) (e:Expr) (f:Dn->Res wY):Prop:=PE X e (tD E f)
theorem Aft.grow {E:EK} {G H G' H':Hp} {r:Res wY} {Q:VK} (g:Grow G H G' H') (a:Aft E G H r Q):Aft E G' H' r Q:=by
 cases r with
 | ok d=>exact fun v G2 H2 g2 q=>a v G2 H2 (g.trans g2) q
 | exc c=>exact fun G2 H2 g2=>a G2 H2 (g.trans g2)
 | no=>exact a
theorem PE.imp {X:Cx} {e:Expr} {t t':TE} (h:PE X e t) (i:∀ Z H Q,t' Z H Q->t Z H Q):PE X e t':=fun pins s Z H Q I q=>h pins s Z H Q I (i _ _ _ q)
theorem L3 {E:EK} {G H:Hp} {Z:St} {δ:Dn} {f:Dn->Res wY} {k:wY->Res wY} {Q R:VK} (S:SR G H Z δ) (a:Aft E G H ((f δ).bind k) Q)
   (h:∀ d v G1 H1,Grow G H G1 H1->Rep G1 d v->SR G1 H1 Z δ->Aft E G1 H1 (k d) Q->R v H1):tD E f Z H R:=by
 refine ⟨G,δ,S,?_⟩;cases e:f δ with
 | ok d =>
   rw [e] at a; exact fun v G' H' g r=>h d v G' H' g r (S.grow g) (Aft.grow g a)
 | exc c=>rw [e] at a; exact a
 | no=>rw [e] at a; exact a
noncomputable section
variable {X:Cx} {E:EK} {pos:Pos}
noncomputable def vC (d:wY):Dn->Res wY:=fun _=>.ok d
noncomputable def A0 (i:Nat):Dn->Res wY:=fun δ=>match δ[i]? with
 | some (.sh d)=>.ok d
 | _=>.no
theorem B0 {i:Int} {j:Nat}:DE X E (.Constant (.int i) j pos) (vC (.int i)):=PE.imp uQ fun Z H Q hZ3=>by obtain ⟨G,δ,S,a⟩:=hZ3; exact a _ G H (Grow.refl S.sub) rfl
theorem Cp {b:Bool} {j:Nat}:DE X E (.Constant (.bool b) j pos) (vC (.bool b)):=PE.imp pe_bl fun Z H Q hZ3=>by obtain ⟨G,δ,S,a⟩:=hZ3; exact a _ G H (Grow.refl S.sub) rfl
theorem Vb {j:Nat}:DE X E (.Constant .none j pos) (vC .none):=PE.imp uO fun Z H Q hZ3=>by obtain ⟨G,δ,S,a⟩:=hZ3; exact a _ G H (Grow.refl S.sub) rfl
theorem Q8 {x:Str} {j:Nat} (h:yP x=true:=by decide +kernel) (hl:x.length<=sizeLine:=by decide +kernel):DE X E (.Constant (.str x) j pos) (vC (.str x)) :=
 PE.imp jS fun Z H Q hZ3=>by obtain ⟨G,δ,S,a⟩:=hZ3; exact a _ G H (Grow.refl S.sub) ⟨rfl,h,hl⟩
theorem wG {i:Nat} {x:Str} (hN:X.N[i]? = some x) (hv:Vis X.env.scope x) (hd:(x==("__debug__" : Str))=false) (hcd:(x==("__classdict__" : Str))=false):DE X E (.Name x pos) (A0 i) :=
 PE.imp (aI hN hv hd hcd) fun Z H Q hZ3=>by
   obtain ⟨G,δ,S,a⟩:=hZ3; unfold A0 at a;split at a
   . rename_i d e
     obtain ⟨v,e1,r⟩:=S.sl i _ e; refine ⟨v,?_,a _ G H (Grow.refl S.sub) r⟩;cases q:Z[i]? with
     | none=>rw [q] at e1; cases e1
     | some w=>rw [q] at e1; cases w with
       | none=>cases e1
       | some w=>cases e1; rfl
   . exact a.elim
noncomputable def b2 (f g:Dn->Res wY) (op:wY->wY->Option wY):Dn->Res wY:=fun δ=>(f δ).bind fun x=>(g δ).bind fun y=>ofO (op x y)
def OpD (r:R2) (op:wY->wY->Option wY):Prop:=∀ (G H:Hp) (x y:V) (a b d:wY) (Q:VK),Same G H->Rep G a x->Rep G b y->op a b=some d->(∀ v G' H',Grow G H G' H'->Rep G' d v->Q v H')->r x y H Q
theorem iL {r:R2} {op:wY->wY->Option wY} {f g:Dn->Res wY} (ho:OpD r op) {Z:St} {H:Hp} {Q:VK} (h:tD E (b2 f g op) Z H Q):tOp r (tD E f) (tD E g) Z H Q:=by
 obtain ⟨G,δ,S,a⟩:=h;refine L3 S a fun d1 v1 G1 H1 g1 r1 S1 a1=>?_;refine L3 S1 a1 fun d2 v2 G2 H2 g2 r2 S2 a2=>?_;cases e:op d1 d2 with
 | none=>rw [e] at a2; exact a2.elim
 | some d=>rw [e] at a2; exact ho G2 H2 v1 v2 d1 d2 d Q S2.sub (r1.mono g2.g) r2 e a2
theorem dM {a b:Expr} {o:Operator} {r:R2} {op:wY->wY->Option wY} {f g:Dn->Res wY} (hr:OpR X (GH o) r) (ho:OpD r op) (ha:DE X E a f) (hb:DE X E b g):DE X E (.BinOp a o b pos) (b2 f g op) :=
 PE.imp (pe_op hr ha hb) fun _ _ _ h=>iL ho h
theorem d_cmp {a b:Expr} {o:z6} {r:R2} {op:wY->wY->Option wY} {f g:Dn->Res wY} (hr:OpR X (o5 o) r) (ho:OpD r op) (ha:DE X E a f) (hb:DE X E b g) (hm:behindInMarks o b=false):DE X E (.Compare a [o] [b] pos) (b2 f g op) :=
 PE.imp (oV hr ha hb hm) fun _ _ _ h=>iL ho h
end
end Sm
end
noncomputable section
namespace Sm
open PySem PySem.Spec PyProof.Rows L2
noncomputable section
variable {X:Cx} {pins:List (xI×Obj)} {Z:St} {H G:Hp} {s:xC}
theorem Ag (I:Inv X pins Z H s) {a:xI} {xs:List V} (hG:Same G H) (r:Rd G a (.lst xs)):xs.length<=sizeLine/\∃ (its:List xB) (n:Nat),Vals xs its/\s.heap.get? a=some { cls:=.type "list",data:=.seq its.toArray n } :=
 (Rd.ok (Rd.mono hG r) I.hok:ObjOk X.prog X.w H s.heap a (.lst xs))
theorem Ki (I:Inv X pins Z H s) {a:xI} {xs:List V} (hG:Same G H) (r:G a=some (.tup xs)):xs.length<=sizeLine/\∃ its:List xB,Vals xs its/\HB s.heap a its.toArray :=
 (I.hok a _ (hG _ _ r):ObjOk X.prog X.w H s.heap a (.tup xs))
mutual
theorem Rep.reads (I:Inv X pins Z H s) (hG:Same G H):∀ {d:wY} {v:V} {u:xB},Rep G d v->RelV v u->∃ as,Reads s.heap u d as
 | .none,_,_,r,q=>by cases (show _=_ from r); cases q; exact ⟨_,.none⟩
 | .bool _,_,_,r,q=>by cases (show _=_ from r); cases q; exact ⟨_,.bool _⟩
 | .int _,_,_,r,q=>by cases (show _=_ from r); obtain ⟨t,rfl⟩:=q; exact ⟨_,.int _ _⟩
 | .str _,_,_,r,q=>by cases r.1; obtain ⟨t,rfl⟩:=q; exact ⟨_,.str _ _⟩
 | .list _,_,_,r,q=>by
   obtain ⟨a,xs,rfl,h,l⟩:=r; cases q; obtain ⟨z,its,n,rv,e⟩:=Ag I hG h; obtain ⟨as,ra⟩:=RepL.reads I hG l rv; exact ⟨_,.list e rfl rfl (by simpa using ra)⟩
 | .tuple _,_,_,r,q=>by
   obtain ⟨a,xs,rfl,h,l⟩:=r; cases q; obtain ⟨z,its,rv,o,e,c,n,hd⟩:=Ki I hG h; obtain ⟨as,ra⟩:=RepL.reads I hG l rv; exact ⟨_,.tuple e c hd (by simpa using ra)⟩
 | .dict _,_,_,r,_=>r.elim
theorem RepL.reads (I:Inv X pins Z H s) (hG:Same G H):∀ {ds:List wY} {xs:List V} {us:List xB},RepL G ds xs->Vals xs us->∃ as,LK s.heap us ds as
 | [],_,_,r,q=>by cases (show _=_ from r); cases q; exact ⟨_,.nil⟩
 | _::_,_,_,r,q=>by
   obtain ⟨x,t,rfl,h,l⟩:=r;cases q with
   | cons q qs =>
     obtain ⟨as,r1⟩:=Rep.reads I hG h q; obtain ⟨bs,r2⟩:=RepL.reads I hG l qs; exact ⟨_,.cons r1 r2⟩
end
end
noncomputable def dEq (a b:wY):Option wY:=if min a.depth b.depth<=64 then some (.bool (xT a b)) else none
noncomputable def dNe (a b:wY):Option wY:=if min a.depth b.depth<=64 then some (.bool (!PyData.eqv a b)) else none
def oE (neg:Bool):R2:=fun x y H Q=>∃ G a b,Same G H/\Rep G a x/\Rep G b y/\min a.depth b.depth<=64/\Q (.bl (if neg then !PyData.eqv a b else xT a b)) H
noncomputable section
variable {X:Cx}
theorem kE (hu:X.A.units+64 < m9):OpR X (o5 .Eq) (oE false):=by
 rintro pins s Z H x y v u Q I rx ry ⟨G,a,b,hG,ra,rb,hm,q⟩;obtain ⟨as,r1⟩:=ra.reads I hG rx;obtain ⟨bs,r2⟩:=rb.reads I hG ry;exact SeqAt.compareEq_reads r1 r2 ra.lay rb.lay (by lia) ⟨.bl _,H,I,rfl,q⟩
theorem uU (hu:X.A.units+64 < m9):OpR X (o5 .NotEq) (oE true):=by
 rintro pins s Z H x y v u Q I rx ry ⟨G,a,b,hG,ra,rb,hm,q⟩;obtain ⟨as,r1⟩:=ra.reads I hG rx;obtain ⟨bs,r2⟩:=rb.reads I hG ry;exact SeqAt.compareNe_reads r1 r2 ra.lay rb.lay (by lia) ⟨.bl _,H,I,rfl,q⟩
theorem kH:OpD (oE false) dEq:=by
 intro G H x y a b d Q hG ra rb e q;unfold dEq at e;split at e
 . rename_i h; cases e; exact ⟨G,a,b,hG,ra,rb,h,q _ G H (Grow.refl hG) rfl⟩
 . cases e
theorem uX:OpD (oE true) dNe:=by
 intro G H x y a b d Q hG ra rb e q;unfold dNe at e;split at e
 . rename_i h; cases e; exact ⟨G,a,b,hG,ra,rb,h,q _ G H (Grow.refl hG) rfl⟩
 . cases e
end
noncomputable def sF (x y:Str):Bool := !(Builtin.Str.occurrences y x 0 y.length 1).isEmpty
noncomputable def dIn (neg:Bool) (a b:wY):Option wY:=match b with
 | .list ds=>if min (zS ds) a.depth<=62 then some (.bool (if neg then !ds.any fun y=>xT y a else ds.any fun y=>xT y a)) else none
 | .tuple ds=>if min (zS ds) a.depth<=62 then some (.bool (if neg then !ds.any fun y=>xT y a else ds.any fun y=>xT y a)) else none
 | .str y=>match a with
   | .str x=>some (.bool (if neg then !sF x y else sF x y))
   | _=>none
 | _=>none
def uC (neg:Bool):R2:=fun x y H Q=>∃ G a b d,Same G H/\Rep G a x/\Rep G b y/\dIn neg a b=some (.bool d)/\Q (.bl d) H
noncomputable section
variable {X:Cx}
theorem uW (hu:X.A.units+64 < m9):OpR X (o5 .In) (uC false):=by
 rintro pins s Z H x y v u Q I rx ry ⟨G,a,b,d,hG,ra,rb,e,q⟩;cases b with
 | list ds =>
   replace e:(if _ then _ else _)=some _:=e;split at e
   . rename_i h
     cases e; obtain ⟨as,r1⟩:=ra.reads I hG rx; obtain ⟨bs,r2⟩:=rb.reads I hG ry; exact SeqAt.in_list_reads r2 r1 rb.lay ra.lay (by lia) ⟨.bl _,H,I,rfl,q⟩
   . cases e
 | tuple ds =>
   replace e:(if _ then _ else _)=some _:=e;split at e
   . rename_i h
     cases e; obtain ⟨as,r1⟩:=ra.reads I hG rx; obtain ⟨bs,r2⟩:=rb.reads I hG ry; exact SeqAt.in_tuple_reads r2 r1 rb.lay ra.lay (by lia) ⟨.bl _,H,I,rfl,q⟩
   . cases e
 | str z =>
   cases a with
   | str z' =>
     cases e;cases ra.1; cases rb.1;obtain ⟨t,rfl⟩:=rx; obtain ⟨t',rfl⟩:=ry; exact in_str ⟨.bl _,H,I,rfl,q⟩
   | _=>cases e
 | _=>cases e
theorem fE (hu:X.A.units+64 < m9):OpR X (o5 .NotIn) (uC true):=by
 rintro pins s Z H x y v u Q I rx ry ⟨G,a,b,d,hG,ra,rb,e,q⟩;cases b with
 | list ds =>
   replace e:(if _ then _ else _)=some _:=e;split at e
   . rename_i h
     cases e; obtain ⟨as,r1⟩:=ra.reads I hG rx; obtain ⟨bs,r2⟩:=rb.reads I hG ry; exact SeqAt.notIn_list_reads r2 r1 rb.lay ra.lay (by lia) ⟨.bl _,H,I,rfl,q⟩
   . cases e
 | tuple ds =>
   replace e:(if _ then _ else _)=some _:=e;split at e
   . rename_i h
     cases e; obtain ⟨as,r1⟩:=ra.reads I hG rx; obtain ⟨bs,r2⟩:=rb.reads I hG ry; exact SeqAt.notIn_tuple_reads r2 r1 rb.lay ra.lay (by lia) ⟨.bl _,H,I,rfl,q⟩
   . cases e
 | str z =>
   cases a with
   | str z' =>
     cases e;cases ra.1; cases rb.1;obtain ⟨t,rfl⟩:=rx; obtain ⟨t',rfl⟩:=ry; exact notIn_str ⟨.bl _,H,I,rfl,q⟩
   | _=>cases e
 | _=>cases e
theorem Po {neg:Bool} {a b d:wY} (e:dIn neg a b=some d):∃ k,d=.bool k:=by
 cases b with
 | list ds=>replace e:(if _ then _ else _)=some _:=e; split at e <;> cases e; exact ⟨_,rfl⟩
 | tuple ds=>replace e:(if _ then _ else _)=some _:=e; split at e <;> cases e; exact ⟨_,rfl⟩
 | str z=>cases a with
   | str z'=>cases e; exact ⟨_,rfl⟩
   | _=>cases e
 | _=>cases e
theorem kF {neg:Bool}:OpD (uC neg) (dIn neg):=by
 intro G H x y a b d Q hG ra rb e q;obtain ⟨k,rfl⟩:=Po e;exact ⟨G,a,b,k,hG,ra,rb,e,q _ G H (Grow.refl hG) rfl⟩
end
noncomputable def C5:wY->wY->Option wY
 | .int i,.int j=>some (.int (i+j))
 | .str x,.str y=>if x.length+y.length<=sizeLine then some (.str (x++y)) else none
 | .list xs,.list ys=>if xs.length+ys.length<=sizeLine then some (.list (xs++ys)) else none
 | .tuple xs,.tuple ys=>if xs.length+ys.length<=sizeLine then some (.tuple (xs++ys)) else none
 | _,_=>none
def rV:R2:=fun x y H Q=>∃ G a b d,Same G H/\Rep G a x/\Rep G b y/\C5 a b=some d/\∀ v G' H',Grow G H G' H'->Rep G' d v->Q v H'
theorem Dt {x y:Str} (hx:yP x=true) (hy:yP y=true):yP (x++y)=true:=by
 unfold yP at *;show (x.cps++y.cps).all _=true;rw [Array.all_append,hx,hy]; rfl
theorem Ni (x y:Str):(x++y).length=x.length+y.length:=by
 show (x.cps++y.cps).size=_;rw [Array.size_append]; rfl
noncomputable section
variable {X:Cx}
theorem dL {pins:List (xI×Obj)} {Z:St} {H G:Hp} {s:xC} {Q:VK} {ds:List wY} {xs:List V} {its:List xB} {t':Nat} (I:Inv X pins Z H s) (hG:Same G H) (rv:Vals xs its) (rl:RepL G ds xs) (hz:xs.length<=sizeLine)
   (q:∀ v G' H',Grow G H G' H'->Rep G' (.tuple ds) v->Q v H'):EP X pins Z Q (.ref s.heap.objs.size) { s with heap:=s.heap.push { cls:=.type "tuple",data:=.seq its.toArray },toks:=t' }:=by
 refine ⟨.ref s.heap.objs.size,_,I.laid (t':=t') (o:=.tup xs) (fun b ob q=>xE _ q) (xL _) ⟨hz,its,rv,IsTup.new _ _⟩,rfl,q _ (upd G s.heap.objs.size (.tup xs)) _ (Grow.new hG I.fresh) ⟨_,xs,rfl,B8,rl.mono (Same.upd (hG.free I.fresh))⟩⟩
theorem Uz {pins:List (xI×Obj)} {Z:St} {H G:Hp} {s:xC} {Q:VK} {ds:List wY} {xs:List V} {its:List xB} {t':Nat} (I:Inv X pins Z H s) (hG:Same G H) (rv:Vals xs its) (rl:RepL G ds xs) (hz:xs.length<=sizeLine)
   (q:∀ v G' H',Grow G H G' H'->Rep G' (.list ds) v->Q v H'):EP X pins Z Q (.ref s.heap.objs.size) { s with heap:=s.heap.push { cls:=.type "list",data:=.seq its.toArray },toks:=t' }:=by
 refine ⟨.ref s.heap.objs.size,_,I.lnew (t':=t') rv hz,rfl,q _ (upd G s.heap.objs.size (.lst xs)) _ (Grow.new hG I.fresh) ⟨_,xs,rfl,.inl B8,rl.mono (Same.upd (hG.free I.fresh))⟩⟩
theorem pC:OpR X (GH .Add) rV:=by
 rintro pins s Z H x y v u Q I rx ry ⟨G,a,b,d,hG,ra,rb,e,q⟩;cases a with
 | int i=>cases b with
   | int j =>
     cases e;cases (show _=_ from ra); cases (show _=_ from rb);obtain ⟨t,rfl⟩:=rx; obtain ⟨t',rfl⟩:=ry; exact add_int ⟨.int _,H,I.tok _,⟨_,rfl⟩,q _ G H (Grow.refl hG) rfl⟩
   | _=>cases e
 | str i=>cases b with
   | str j =>
     replace e:(if _ then _ else _)=some d:=e;split at e
     . rename_i hz
       cases e; obtain ⟨e1,o1,_⟩:=ra; obtain ⟨e2,o2,_⟩:=rb;cases e1; cases e2;obtain ⟨t,rfl⟩:=rx; obtain ⟨t',rfl⟩:=ry; exact add_str (fun t' tk=>⟨.str (i++j),H,I.tok _,⟨_,rfl⟩,q _ G H (Grow.refl hG) ⟨rfl,Dt o1 o2,by rw [Ni]; exact hz⟩⟩) hz
     . cases e
   | _=>cases e
 | list xs=>cases b with
   | list ys =>
     replace e:(if _ then _ else _)=some d:=e;split at e
     . rename_i hz
       cases e; obtain ⟨l,vs,rfl,h1,l1⟩:=ra; obtain ⟨l',ws,rfl,h2,l2⟩:=rb;cases rx; cases ry;obtain ⟨z1,its1,n1,v1,e1⟩:=Ag I hG h1; obtain ⟨z2,its2,n2,v2,e2⟩:=Ag I hG h2; have q1:=v1.length; have q2:=v2.length; have q3:=l1.length; have q4:=l2.length; refine PySem.P.add_list e1 e2 ?_ (by rw [xU,xU]; lia);have ea:its1.toArray++its2.toArray=(its1++its2).toArray:=by simp
       rw [ea]; exact Uz (t':=s.toks) I hG (v1.append v2) (l1.append l2) (by rw [xN]; lia) q
     . cases e
   | _=>cases e
 | tuple xs=>cases b with
   | tuple ys =>
     replace e:(if _ then _ else _)=some d:=e;split at e
     . rename_i hz
       cases e; obtain ⟨l,vs,rfl,h1,l1⟩:=ra; obtain ⟨l',ws,rfl,h2,l2⟩:=rb;cases rx; cases ry;obtain ⟨z1,its1,v1,p1⟩:=Ki I hG h1; obtain ⟨z2,its2,v2,p2⟩:=Ki I hG h2; have q1:=v1.length; have q2:=v2.length; have q3:=l1.length; have q4:=l2.length;by_cases hx:its1=[]
       . subst hx
         obtain ⟨⟨cls,dd,data,sl⟩,ho,hc,n,hd⟩:=id p1; obtain ⟨⟨cls2,dd2,data2,sl2⟩,ho2,hc2,n2,hd2⟩:=id p2; simp only at hc hd hc2 hd2; subst hc hd hc2 hd2; refine concat_meets ⟨_,ho,rfl⟩ ⟨_,ho2,rfl⟩ JP seq_tuple_add FM FC (EV _ _)
           (tuple_addW0 l l' _ _ n n2 dd dd2 sl sl2 (by simp)) ⟨ho,ho2,?_⟩
         have hxs:xs=[]:=by
           have:xs.length=0:=by rw [q3,q1]; rfl
           exact c9.mp this
         subst hxs; exact ⟨.ref l',H,I,rfl,q _ G H (Grow.refl hG) ⟨l',ws,rfl,h2,l2⟩⟩
       . refine HT.cat_tup p1 p2 hx (fun hy=>?_) (fun hy=>?_) (by lia)
         . subst hy
           have hys:ys=[]:=by
             have:ys.length=0:=by rw [q4,q2]; rfl
             exact c9.mp this
           subst hys; rw [yL] at q; exact ⟨.ref l,H,I,rfl,q _ G H (Grow.refl hG) ⟨l,vs,rfl,h1,l1⟩⟩
         . exact dL (t':=s.toks) I hG (v1.append v2) (l1.append l2) (by rw [xN]; lia) q
     . cases e
   | _=>cases e
 | _=>cases e
theorem pF:OpD rV C5:=fun G H x y a b d Q hG ra rb e q=>⟨G,a,b,d,hG,ra,rb,e,q⟩
noncomputable def dSub:wY->wY->Option wY
 | .int i,.int j=>some (.int (i - j))
 | _,_=>none
noncomputable def Rb:wY->wY->Option wY
 | .int i,.int j=>if 0 < j then some (.int (i % j)) else none
 | _,_=>none
noncomputable def Lo:wY->wY->Option wY
 | .int i,.int j=>if 0 < j/\j < 1073741824 then some (.int (i / j)) else none
 | _,_=>none
theorem cR {r:R2} {op:wY->wY->Option wY} (h:∀ a b d,op a b=some d->∃ i j k,a=.int i/\b=.int j/\d=.int k/\∀ H Q,Q (V.int k) H->r (.int i) (.int j) H Q):OpD r op:=by
 intro G H x y a b d Q hG ra rb e q;obtain ⟨i,j,k,rfl,rfl,rfl,hr⟩:=h a b d e;cases (show _=_ from ra); cases (show _=_ from rb);exact hr H Q (q _ G H (Grow.refl hG) rfl)
theorem pE:OpD (rI (fun _ j=>0 < j) fun i j=>.int (i % j)) Rb:=cR fun a b d e=>by
 unfold Rb at e;split at e
 . split at e
   . rename_i h; cases e; exact ⟨_,_,_,rfl,rfl,rfl,fun H Q q=>⟨_,_,rfl,rfl,h,q⟩⟩
   . cases e
 . cases e
theorem kG:OpD (rI CDiv fun i j=>.int (i / j)) Lo:=cR fun a b d e=>by
 unfold Lo at e;split at e
 . split at e
   . rename_i h; cases e; exact ⟨_,_,_,rfl,rfl,rfl,fun H Q q=>⟨_,_,rfl,rfl,h,q⟩⟩
   . cases e
 . cases e
end
end Sm
end
noncomputable section
namespace Sm
open PySem PySem.Spec PyProof.Rows L2
open PySem.AutoSeq1 (wpAny_loadPart')
noncomputable def M5 (n:Nat) (x:Str):Str:=⟨(yB n x.cps).foldl (· ++ ·) #[]⟩
theorem gH (l:List (Array Nat)):∀ acc:Array Nat,(l.foldl (· ++ ·) acc).toList=acc.toList++(l.map KQ).flatten:=by
 induction l with
 | nil=>intro acc; simp
 | cons a l ih=>intro acc; rw [v6,ih]; simp
theorem X1 (n:Nat) (x:Str):(M5 n x).cps.toList=(yB n x.cps.toList).flatten:=by
 unfold M5;rw [gH]; simp
theorem eO {x:Str} (h:yP x=true) (n:Nat):yP (M5 n x)=true:=by
 unfold yP at *;rw [<- IF,j9] at *;rw [X1];intro c hc;obtain ⟨l,hl,hc⟩:=List.mem_flatten.mp hc;rw [List.eq_of_mem_replicate hl] at hc;exact h c hc
theorem Nj (n:Nat) (x:Str):(M5 n x).length=n*x.length:=by
 show (M5 n x).cps.size=n*x.cps.size;rw [<- yC,X1,dD,yC]
theorem Wa (x:Str):M5 0 x=Str.empty:=rfl
theorem Zu (x:Str):M5 1 x=x:=by
 have:(M5 1 x).cps=x.cps:=by
   apply Array.toList_inj.mp;rw [X1]; simp
 cases x; cases h:M5 1 _; rw [h] at this; cases this; rfl
theorem Zv {x:Str} (n:Nat) (h:x.length=0):M5 n x=x:=by
 have hx:x.cps = #[]:=Array.size_eq_zero_iff.mp h;have:(M5 n x).cps=x.cps:=by
   apply Array.toList_inj.mp;rw [X1,hx]; simp
 cases x; cases h:M5 n _; rw [h] at this; cases this; rfl
noncomputable def P8:wY->wY->Option wY
 | .int i,.int j=>if (-(2 ^ 64) < i/\i < 2 ^ 64)\/(-(2 ^ 64) < j/\j < 2 ^ 64) then some (.int (i*j)) else none
 | .str x,.int n=>if -(2 ^ 63)<=n/\n < 2 ^ 63/\x.length*n.toNat<=sizeLine then some (.str (M5 n.toNat x)) else none
 | .list xs,.int n=>if -(2 ^ 63)<=n/\n < 2 ^ 63/\xs.length*n.toNat<=sizeLine then some (.list (yB n.toNat xs).flatten) else none
 | _,_=>none
def rS:R2:=fun x y H Q=>∃ G a b d,Same G H/\Rep G a x/\Rep G b y/\P8 a b=some d/\∀ v G' H',Grow G H G' H'->Rep G' d v->Q v H'
theorem pD:OpD rS P8:=fun G H x y a b d Q hG ra rb e q=>⟨G,a,b,d,hG,ra,rb,e,q⟩
theorem fI:fillsNumberSlot (.type "tuple") "mul" = pure false:=by
 unfold fillsNumberSlot;first | rfl | kernel_rfl | decide +kernel
theorem oB:seqRepeat? (.type "tuple")=pure (some (.builtin "tuple.__mul__")):=by
 unfold seqRepeat?;first | rfl | kernel_rfl
theorem lJ (a:Int) (t:Tok) (l:xI) (items:Array xB) (n:Nat) (dd:Option xI) (sl:Array (Option xB)) :
   Meets (i7.«int.__rmul__» ⟨[.int a t,.ref l],[]⟩) (fun _ R s=>s.heap.get? l=some { cls:=.type "tuple",dict:=dd,data:=.seq items n,slots:=sl }/\R (.ok (.ret GJ)) s) :=
 .of_wp fun prog w A R s h=>by obtain ⟨hp,g,d,tk,os⟩:=s; obtain ⟨hl,h⟩:=h; wp_walk; exact ⟨_,rfl,h⟩
theorem iC (l:xI) (items:Array xB) (n:Nat) (x:Int) (u:Tok) (dd:Option xI) (sl:Array (Option xB)) (h1:¬ (decide (x < -(2 ^ 63:Int))||decide (x≥2 ^ 63))=true) (h2:¬ (items.isEmpty||x==1)=true) (h3:¬ (decide (x<=0)||items.isEmpty)=true)
   (h4:¬ (items.size:Int)*x>(2 ^ 63 - 1) / 8) (h5:¬ Builtin.Tuple.tupleTooMany (items.size*x)=true) (h6:(FW (fun x1 x2=>x1++x2) #[] (yB x.toNat items)).size<=sizeLine) :
   Meets (i7.«tuple.__mul__» ⟨[.ref l,.int x u],[]⟩) (fun _ R s=>s.heap.get? l=some { cls:=.type "tuple",dict:=dd,data:=.seq items n,slots:=sl }/\R (.ok (.ret (zP s.heap.objs.size))) { s with heap:=s.heap.push { cls:=AT "tuple",data:=Data.seq (FW (fun x1 x2=>x1++x2) #[] (yB x.toNat items)) },toks:=s.toks }) :=
 .of_wp fun prog w A R s h=>by
   obtain ⟨hp,g,d,tk,os⟩:=s; obtain ⟨hl,h⟩:=h;have f1:=MD
   wp_walk using k5 hl
   rw [if_neg h1]
   wp_walk using k5 hl
   rw [if_neg h4]
   wp_walk using k5 hl
   exact ⟨_,rfl,h⟩
theorem iB (l:xI) (items:Array xB) (n:Nat) (x:Int) (u:Tok) (dd:Option xI) (sl:Array (Option xB)) (h1:¬ (decide (x < -(2 ^ 63:Int))||decide (x≥2 ^ 63))=true) (h2:(items.isEmpty||x==1)=true) :
   Meets (i7.«tuple.__mul__» ⟨[.ref l,.int x u],[]⟩) (fun _ R s=>s.heap.get? l=some { cls:=.type "tuple",dict:=dd,data:=.seq items n,slots:=sl }/\R (.ok (.ret (.ref l))) s) :=
 .of_wp fun prog w A R s h=>by
   obtain ⟨hp,g,d,tk,os⟩:=s; obtain ⟨hl,h⟩:=h;have f1:=MD
   wp_walk using k5 hl
   rw [if_neg h1]
   wp_walk using k5 hl
   exact ⟨_,rfl,h⟩
noncomputable section
variable {X:Cx}
theorem oZ:OpR X (GH .Mult) rS:=by
 rintro pins s Z H x y v u Q I rx ry ⟨G,a,b,d,hG,ra,rb,e,q⟩;have h63:=Eb;obtain ⟨k,rfl⟩:∃ k,b=.int k:=by unfold P8 at e; split at e <;> first | exact ⟨_,rfl⟩ | cases e
 cases (show _=_ from rb);obtain ⟨t',rfl⟩:=ry;cases a with
 | int i =>
   replace e:(if _ then _ else _)=some d:=e;split at e
   . rename_i hc
     cases e;cases (show _=_ from ra);obtain ⟨t,rfl⟩:=rx; exact mul_int ⟨.int _,H,I.tok _,⟨_,rfl⟩,q _ G H (Grow.refl hG) rfl⟩ (CMul.ok hc)
   . cases e
 | str z =>
   replace e:(if _ then _ else _)=some d:=e;split at e
   . rename_i hc
     obtain ⟨hc1,hc2,hc3⟩:=hc; cases e; obtain ⟨e1,o1,l1⟩:=ra; cases e1; obtain ⟨t,rfl⟩:=rx; have fin:∀ tk,Q (.str (M5 k.toNat z)) H/\Inv X pins Z H { s with toks:=tk }:=fun tk=>⟨q _ G H (Grow.refl hG) ⟨rfl,eO o1 _,by rw [Nj,LM]; exact hc3⟩,I.tok _⟩;refine PySem.P.mul_str (by rw [decide_eq_false (by lia),decide_eq_false (by lia)]; rfl) (fun h1 _=>?_) (fun h1 _=>?_) ?_
     . intro hgt
       have hk:(0:Int) < k:=by lia
       have h2:(2 ^ 63 - 1) / k+1<=(z.length:Int):=by lia
       have h3:(2 ^ 63 - 1:Int) < ((2 ^ 63 - 1) / k+1)*k:=Int.lt_ediv_add_one_mul_self _ hk; have h4:((2 ^ 63 - 1) / k+1)*k<=(z.length:Int)*k:=Int.mul_le_mul_of_nonneg_right h2 (by lia);have h5:(z.length:Int)*k=((z.length*k.toNat:Nat):Int):=by
         rw [Int.natCast_mul,Int.toNat_of_nonneg (by lia)]
       lia
     . unfold Builtin.Str.tooLong
       exact decide_eq_false (by lia)
     . by_cases h1:k < 1
       . rw [if_pos h1]
         have:k.toNat=0:=by lia
         rw [this,Wa] at fin; exact ⟨by decide,⟨.str _,H,(fin _).2,⟨_,rfl⟩,(fin 0).1⟩⟩
       . rw [if_neg h1]
         by_cases h2:(k==1||z.length==0)=true
         . rw [if_pos h2]
           rw [EG] at h2; have ez:M5 k.toNat z=z:=by
             rcases h2 with h2 | h2
             . have:k=1:=w5 h2
               subst this; exact Zu z
             . exact Zv _ (w5 h2)
           rw [ez] at fin; exact ⟨.str _,H,I,⟨_,rfl⟩,(fin 0).1⟩
         . rw [if_neg h2]
           exact ⟨by show (M5 k.toNat z).length<=_; rw [Nj,LM]; exact hc3,⟨.str _,H,(fin _).2,⟨_,rfl⟩,(fin 0).1⟩⟩
   . cases e
 | list xs =>
   replace e:(if _ then _ else _)=some d:=e;split at e
   . rename_i hc
     obtain ⟨hc1,hc2,hc3⟩:=hc; cases e; obtain ⟨l,vs,rfl,h1,l1⟩:=ra; cases rx; have q3:=l1.length; obtain ⟨z,its,n,r,e⟩:=Ag I hG h1; have hl:=r.length; have hlen:its.toArray.size*k.toNat<=sizeLine:=by rw [xU,<- hl,<- q3]; exact hc3
     have hcap:¬ its.toArray.size*k.toNat>(2 ^ 63 - 1) / 8:=by
       have:(sizeLine:Nat)<=(2 ^ 63 - 1) / 8:=by decide
       lia
     have hfit:¬ (!Builtin.List.listFitsIndex k)=true:=by
       rw [fitsIndex_both hc1 hc2]; exact p8
     have hlong:¬ BO (its.toArray.size*k.toNat)=true:=by
       rw [Xm hlen]; exact p8
     have hnew:FW (fun x1 x2=>x1++x2) #[] (yB (if its.toArray.isEmpty=true then 0 else k.toNat) its.toArray)=(yB k.toNat its).flatten.toArray:=by
       have f0:∀ m:Nat,FW (fun x1 x2=>x1++x2) #[] (yB m its.toArray)=(yB m its).flatten.toArray:=fun m=>by
         have:=gG its m []; rw [yO] at this; exact this
       rw [f0];cases its with
       | nil=>simp
       | cons a r'=>rw [if_neg (by simp)]
     refine wpAny_binaryOp_repeat_ref (T := "list") (U := "int") (by decide) ⟨_,e,rfl⟩ (fun s'=>typeIs_int s' k t') noFill_list_mul F.fills_int_mul F.slot_int_rmul repeat_list F.slot_int_index.lookup
       (IN F.slot_int_rmul (typeIs_int s k t') F.entry_int_rmul (F.args_int_rmul_2 _ _) (int___rmul___int_list k t' l its.toArray n)
         ⟨e,rfl,⟨_,e,rfl⟩,IN F.slot_list_mul ⟨_,e,rfl⟩ F.entry_list_mul (F.args_list_mul_2 _ _) (AutoListH.list___mul___list_int_3 l its.toArray n k t' hfit hcap hlong) ⟨e,?_⟩⟩)
     rw [hnew]; exact Uz (t':=s.toks) I hG (r.rep k.toNat) (l1.rep k.toNat) (by rw [dD,LM,<- q3]; exact hc3) q
   . cases e
 | _=>cases e
end
end Sm
end
noncomputable section
namespace Sm
open PySem PySem.Spec PyProof.Rows L2
open PySem.AutoSeq1 (wpAny_loadPart')
open PySem.MeetsSeq PySem.MeetsSeq2 PySem.MeetsSeq3
noncomputable def gD:z6->Int->Int->Bool
 | .Lt,i,j=>decide (i < j)
 | .LtE,i,j=>decide (i<=j)
 | .Gt,i,j=>decide (j < i)
 | _,i,j=>decide (j<=i)
noncomputable def aE:z6->Str->Str->Bool
 | .Lt,x,y=>decide (x.cps.toList < y.cps.toList)
 | .LtE,x,y => !decide (y.cps.toList < x.cps.toList)
 | .Gt,x,y=>decide (y.cps.toList < x.cps.toList)
 | _,x,y => !decide (x.cps.toList < y.cps.toList)
noncomputable def Zi:z6->Nat->Nat->Bool
 | .Lt,m,n=>decide (m < n)
 | .LtE,m,n=>decide (m<=n)
 | .Gt,m,n=>decide (m>n)
 | _,m,n=>decide (m≥n)
noncomputable def rY:z6->Bool
 | .Lt=>true | .LtE=>true | .Gt=>true | .GtE=>true | _=>false
mutual
noncomputable def Rc (op:z6):wY->wY->Option Bool
 | .int i,.int j=>some (gD op i j)
 | .str x,.str y=>some (aE op x y)
 | .tuple xs,.tuple ys=>Gh op xs ys
 | _,_=>none
noncomputable def Gh (op:z6):List wY->List wY->Option Bool
 | [],ys=>some (Zi op 0 ys.length)
 | x::xs,[]=>some (Zi op (xs.length+1) 0)
 | x::xs,y::ys=>if xT x y=true then Gh op xs ys else Rc op x y
end
def mU (op:z6) (A:zI) (s:xC) (u v:xB) (k:Bool):Prop:=∀ (prog:yD) (w:yR) (E:xB->xC->Prop) (Q:xB->xC->Prop),Q (.bool k) s->wpAny (xW prog w) A (richCompare op u v) Q E s
theorem uA {op:z6} (h:rY op=true) (A:zI) (s:xC) (i j:Int) (t u:Tok):mU op A s (.int i t) (.int j u) (gD op i j):=fun prog w E Q q=>by
 cases op with
 | Lt=>exact (lt_int q:wpAny (xW prog w) A (o5 .Lt (.int i t) (.int j u)) Q E s)
 | LtE=>exact (le_int q:wpAny (xW prog w) A (o5 .LtE (.int i t) (.int j u)) Q E s)
 | Gt=>exact (gt_int q:wpAny (xW prog w) A (o5 .Gt (.int i t) (.int j u)) Q E s)
 | GtE=>exact (ge_int q:wpAny (xW prog w) A (o5 .GtE (.int i t) (.int j u)) Q E s)
 | _=>cases h
theorem tZ {op:z6} (h:rY op=true) (A:zI) (s:xC) (x y:Str) (t u:Tok):mU op A s (.str x t) (.str y u) (aE op x y):=fun prog w E Q q=>by
 cases op with
 | Lt=>exact (PySem.P.lt_str q:wpAny (xW prog w) A (o5 .Lt (.str x t) (.str y u)) Q E s)
 | LtE=>exact (PySem.P.le_str (by simpa [aE] using q):wpAny (xW prog w) A (o5 .LtE (.str x t) (.str y u)) Q E s)
 | Gt=>exact (PySem.P.gt_str q:wpAny (xW prog w) A (o5 .Gt (.str x t) (.str y u)) Q E s)
 | GtE=>exact (PySem.P.ge_str (by simpa [aE] using q):wpAny (xW prog w) A (o5 .GtE (.str x t) (.str y u)) Q E s)
 | _=>cases h
def Ca (op:z6) (A:zI) (s:xC) (vs ws:List xB) (ds es:List wY):Prop :=
 ∀ (i:Nat) (v w:xB) (d e:wY),vs[i]? = some v->ws[i]? = some w->ds[i]? = some d->es[i]? = some e->SeqAt.EqAt A s v w (xT d e)/\∀ k,Rc op d e=some k->mU op A s v w k
theorem Qc (l b:xI) (items items2:Array xB) (n n2:Nat) (dd dd2:Option xI) (sl sl2:Array (Option xB)) (ds es:List wY) (k:Bool) (hz1:items.toList.length=ds.length) (hz2:items2.toList.length=es.length) (hk:Gh .Lt ds es=some k) :
   Meets (i7.«tuple.__lt__» ⟨[.ref l,.ref b],[]⟩)
     (fun A R s=>s.heap.get? l=some { cls:=.type "tuple",dict:=dd,data:=.seq items n,slots:=sl }/\s.heap.get? b=some { cls:=.type "tuple",dict:=dd2,data:=.seq items2 n2,slots:=sl2 } /\
       Ca .Lt A.in1 s items.toList items2.toList ds es/\R (.ok (.ret (.bool k))) s) :=
 .of_wp fun prog w A R s h=>by
   obtain ⟨hp,g,d,tk,os⟩:=s; obtain ⟨hl,hb,hI,h⟩:=h;have f2:=IX; have z1:items.size=ds.length:=by rw [<- hz1]; simp
   have z2:items2.size=es.length:=by rw [<- hz2]; simp
   wp_walk using k5 hl,k5 hb,BA _ (fun G6 b s'=>b.1=none/\s'=⟨hp,g,d,tk,os⟩/\∃ (vs ws:List xB) (ds' es':List wY),G6=vs.zip ws /\
     vs.length=ds'.length/\ws.length=es'.length/\ds'.length+items2.size=es'.length+items.size/\Ca .Lt A.in1 ⟨hp,g,d,tk,os⟩ vs ws ds' es'/\Gh .Lt ds' es'=some k) _
   case turn =>
     rintro ⟨y,x⟩ G6 b s' ⟨hb',rfl,vs,ws,ds',es',hz,hv,hw,hlen,hI',hR⟩;cases vs with
     | nil=>rw [List.zip_nil_left] at hz; cases hz
     | cons v0 vs =>
       cases ws with
       | nil=>rw [List.zip_nil_right] at hz; cases hz
       | cons w0 ws =>
         cases ds' with
         | nil=>simp at hv
         | cons d0 ds' =>
           cases es' with
           | nil=>simp at hw
           | cons e0 es' =>
             rw [EN] at hz;injection hz with hyx hrest
             injection hyx with hy hx
             subst hy hx; simp only [xP] at hlen hv hw; obtain ⟨he,hc⟩:=hI' 0 y x d0 e0 rfl rfl rfl rfl; have hI2:Ca .Lt A.in1 ⟨hp,g,d,tk,os⟩ vs ws ds' es':=fun i v w d e h1 h2 h3 h4=>hI' (i+1) v w d e (by simpa using h1) (by simpa using h2) (by simpa using h3) (by simpa using h4);rw [Gh] at hR; refine wZ (he prog w _ _ ?_);cases q:xT d0 e0 with
             | true =>
               rw [q,if_pos rfl] at hR
               wp_walk
               exact ⟨rfl,rfl,_,_,_,_,hrest,by lia,by lia,by lia,hI2,hR⟩
             | false =>
               rw [q,if_neg (by decide)] at hR; have hri:=hc k hR prog w
               wp_walk using hri
               exact ⟨_,rfl,by simpa using h⟩
   case fin =>
     rintro ⟨b1,b2⟩ s' ⟨hb',rfl,vs,ws,ds',es',hz,hv,hw,hlen,hI',hR⟩;simp only at hb'; subst hb'; have hv':k=decide (items.size < items2.size):=by
       cases ds' with
       | nil =>
         rw [Gh] at hR; have:=zB hR; rw [<- this]; simp only [zG] at hlen; simp only [Zi]; exact decide_eq_decide.mpr (by lia)
       | cons d0 ds' =>
         cases es' with
         | nil =>
           rw [Gh] at hR; have:=zB hR; rw [<- this]; simp only [zG,xP] at hlen; simp only [Zi]; exact decide_eq_decide.mpr (by lia)
         | cons e0 es' =>
           cases vs with
           | nil=>simp at hv
           | cons v0 vs =>
             cases ws with
             | nil=>simp at hw
             | cons w0 ws=>rw [EN] at hz; cases hz
     rw [hv'] at h
     wp_walk
     exact ⟨_,rfl,by simpa [GE] using h⟩
   case h =>
     exact ⟨rfl,rfl,items.toList,items2.toList,ds,es,rfl,hz1,hz2,by lia,hI,hk⟩
theorem Qd (l b:xI) (items items2:Array xB) (n n2:Nat) (dd dd2:Option xI) (sl sl2:Array (Option xB)) (ds es:List wY) (k:Bool) (hz1:items.toList.length=ds.length) (hz2:items2.toList.length=es.length) (hk:Gh .LtE ds es=some k) :
   Meets (i7.«tuple.__le__» ⟨[.ref l,.ref b],[]⟩)
     (fun A R s=>s.heap.get? l=some { cls:=.type "tuple",dict:=dd,data:=.seq items n,slots:=sl }/\s.heap.get? b=some { cls:=.type "tuple",dict:=dd2,data:=.seq items2 n2,slots:=sl2 } /\
       Ca .LtE A.in1 s items.toList items2.toList ds es/\R (.ok (.ret (.bool k))) s) :=
 .of_wp fun prog w A R s h=>by
   obtain ⟨hp,g,d,tk,os⟩:=s; obtain ⟨hl,hb,hI,h⟩:=h;have f2:=IX; have z1:items.size=ds.length:=by rw [<- hz1]; simp
   have z2:items2.size=es.length:=by rw [<- hz2]; simp
   wp_walk using k5 hl,k5 hb,BA _ (fun G6 b s'=>b.1=none/\s'=⟨hp,g,d,tk,os⟩/\∃ (vs ws:List xB) (ds' es':List wY),G6=vs.zip ws /\
     vs.length=ds'.length/\ws.length=es'.length/\ds'.length+items2.size=es'.length+items.size/\Ca .LtE A.in1 ⟨hp,g,d,tk,os⟩ vs ws ds' es'/\Gh .LtE ds' es'=some k) _
   case turn =>
     rintro ⟨y,x⟩ G6 b s' ⟨hb',rfl,vs,ws,ds',es',hz,hv,hw,hlen,hI',hR⟩;cases vs with
     | nil=>rw [List.zip_nil_left] at hz; cases hz
     | cons v0 vs =>
       cases ws with
       | nil=>rw [List.zip_nil_right] at hz; cases hz
       | cons w0 ws =>
         cases ds' with
         | nil=>simp at hv
         | cons d0 ds' =>
           cases es' with
           | nil=>simp at hw
           | cons e0 es' =>
             rw [EN] at hz;injection hz with hyx hrest
             injection hyx with hy hx
             subst hy hx; simp only [xP] at hlen hv hw; obtain ⟨he,hc⟩:=hI' 0 y x d0 e0 rfl rfl rfl rfl; have hI2:Ca .LtE A.in1 ⟨hp,g,d,tk,os⟩ vs ws ds' es':=fun i v w d e h1 h2 h3 h4=>hI' (i+1) v w d e (by simpa using h1) (by simpa using h2) (by simpa using h3) (by simpa using h4);rw [Gh] at hR; refine wZ (he prog w _ _ ?_);cases q:xT d0 e0 with
             | true =>
               rw [q,if_pos rfl] at hR
               wp_walk
               exact ⟨rfl,rfl,_,_,_,_,hrest,by lia,by lia,by lia,hI2,hR⟩
             | false =>
               rw [q,if_neg (by decide)] at hR; have hri:=hc k hR prog w
               wp_walk using hri
               exact ⟨_,rfl,by simpa using h⟩
   case fin =>
     rintro ⟨b1,b2⟩ s' ⟨hb',rfl,vs,ws,ds',es',hz,hv,hw,hlen,hI',hR⟩;simp only at hb'; subst hb'; have hv':k=decide (items.size<=items2.size):=by
       cases ds' with
       | nil =>
         rw [Gh] at hR; have:=zB hR; rw [<- this]; simp only [zG] at hlen; simp only [Zi]; exact decide_eq_decide.mpr (by lia)
       | cons d0 ds' =>
         cases es' with
         | nil =>
           rw [Gh] at hR; have:=zB hR; rw [<- this]; simp only [zG,xP] at hlen; simp only [Zi]; exact decide_eq_decide.mpr (by lia)
         | cons e0 es' =>
           cases vs with
           | nil=>simp at hv
           | cons v0 vs =>
             cases ws with
             | nil=>simp at hw
             | cons w0 ws=>rw [EN] at hz; cases hz
     rw [hv'] at h
     wp_walk
     exact ⟨_,rfl,by simpa [GE] using h⟩
   case h =>
     exact ⟨rfl,rfl,items.toList,items2.toList,ds,es,rfl,hz1,hz2,by lia,hI,hk⟩
theorem jJ {op:z6} (ho:op=.Lt\/op=.LtE) {A:zI} {s:xC} {l b:xI} {items items2:Array xB} {ds es:List wY} {k:Bool} (hl:HB s.heap l items) (hb:HB s.heap b items2) (hz1:items.toList.length=ds.length) (hz2:items2.toList.length=es.length)
   (hI:Ca op A.in1 s items.toList items2.toList ds es) (hk:Gh op ds es=some k) (hu:A.units < m9):mU op A s (.ref l) (.ref b) k:=fun prog w E Q q=>by
 obtain ⟨⟨cls,dd,data,sl⟩,ho1,hc,n,hd⟩:=id hl;obtain ⟨⟨cls2,dd2,data2,sl2⟩,ho2,hc2,n2,hd2⟩:=id hb;simp only at hc hd hc2 hd2;subst hc hd hc2 hd2;rcases ho with rfl | rfl
 . exact richCompare_meets_room (op := .Lt) ⟨_, ho1, rfl⟩ ⟨_, ho2, rfl⟩ PySem.F.slot_tuple_lt PySem.F.entry_tuple_lt (PySem.F.args_tuple_lt_2 _ _) (Qc l b items items2 n n2 dd dd2 sl sl2 ds es k hz1 hz2 hk)
     ⟨ho1,ho2,hI,show FP k≠GJ/\Q (.bool k) s from ⟨(fun x=>nomatch x),q⟩⟩ hu
 . exact richCompare_meets_room (op := .LtE) ⟨_, ho1, rfl⟩ ⟨_, ho2, rfl⟩ PySem.F.slot_tuple_le PySem.F.entry_tuple_le (PySem.F.args_tuple_le_2 _ _) (Qd l b items items2 n n2 dd dd2 sl sl2 ds es k hz1 hz2 hk)
     ⟨ho1,ho2,hI,show FP k≠GJ/\Q (.bool k) s from ⟨(fun x=>nomatch x),q⟩⟩ hu
theorem wN {op:z6} {i:Int} {b:wY} {k:Bool} (e:Rc op (.int i) b=some k):∃ j,b=.int j/\k=gD op i j:=by cases b <;> cases e; exact ⟨_,rfl,rfl⟩
theorem wM {op:z6} {i:Str} {b:wY} {k:Bool} (e:Rc op (.str i) b=some k):∃ j,b=.str j/\k=aE op i j:=by cases b <;> cases e; exact ⟨_,rfl,rfl⟩
theorem wL {op:z6} {i:List wY} {b:wY} {k:Bool} (e:Rc op (.tuple i) b=some k):∃ j,b=.tuple j/\Gh op i j=some k:=by cases b with | tuple j=>exact ⟨j,rfl,e⟩ | _=>cases e
noncomputable def ordB:wY->Bool
 | .int _=>true | .str _=>true | .tuple _=>true | _=>false
theorem Vh {op:z6} {a b:wY} {k:Bool} (h:ordB a=false) (e:Rc op a b=some k):False:=by cases a <;> first | (cases h; done) | cases e
mutual
theorem cG {op:z6} (ho:op=.Lt\/op=.LtE):∀ (a b:wY) (A:zI) (s:xC) (u v:xB) (as bs:List xI) (k:Bool),Reads s.heap u a as->Reads s.heap v b bs->a.canLay0=true->b.canLay0=true->A.units+a.depth < m9->Rc op a b=some k->mU op A s u v k
 | .int i,b,A,s,_,_,_,_,k,ra,rb,_,_,_,e=>by
   obtain ⟨j,rfl,rfl⟩:=wN e;cases ra; cases rb; exact uA (by rcases ho with rfl | rfl <;> rfl) A s i j _ _
 | .str x,b,A,s,_,_,_,_,k,ra,rb,_,_,_,e=>by
   obtain ⟨j,rfl,rfl⟩:=wM e;cases ra; cases rb; exact tZ (by rcases ho with rfl | rfl <;> rfl) A s x j _ _
 | .tuple xs,b,A,s,_,_,_,_,k,ra,rb,ha,hb,hu,e=>by
   obtain ⟨ys,rfl,e⟩:=wL e;cases ra with
   | tuple h1 h2 h3 h4 =>
     cases rb with
     | tuple k1 k2 k3 k4 =>
       have hu':A.units+(zS xs+1) < m9:=hu; refine jJ ho ⟨_,h1,h2,_,h3⟩ ⟨_,k1,k2,_,k3⟩ (IC _ _ _ h4) (IC _ _ _ k4) ?_ e (by lia);exact Wv ho xs ys A.in1 s _ _ _ _ h4 k4 ha hb (by show A.units+1+_ < _; lia)
 | .none,b,_,_,_,_,_,_,_,_,_,_,_,_,e=>(Vh (a:=.none) rfl e).elim
 | .bool c,b,_,_,_,_,_,_,_,_,_,_,_,_,e=>(Vh (a:=.bool c) rfl e).elim
 | .list c,b,_,_,_,_,_,_,_,_,_,_,_,_,e=>(Vh (a:=.list c) rfl e).elim
 | .dict c,b,_,_,_,_,_,_,_,_,_,_,_,_,e=>(Vh (a:=.dict c) rfl e).elim
theorem Wv {op:z6} (ho:op=.Lt\/op=.LtE):∀ (xs ys:List wY) (A:zI) (s:xC) (vs ws:List xB) (as bs:List xI),LK s.heap vs xs as->LK s.heap ws ys bs->s0 xs=true->s0 ys=true->A.units+zS xs < m9->Ca op A s vs ws xs ys
 | [],_,_,_,_,_,_,_,_,_,_,_,_=>fun i v w d e h1 h2 h3 h4=>by simp at h3
 | _::_,[],_,_,_,_,_,_,_,_,_,_,_=>fun i v w d e h1 h2 h3 h4=>by simp at h4
 | x::xs,y::ys,A,s,_,_,_,_,ra,rb,ha,hb,hu=>by
   have ha':x.canLay0=true/\s0 xs=true:=by simpa [s0] using ha
   have hb':y.canLay0=true/\s0 ys=true:=by simpa [s0] using hb
   have hu':A.units+max x.depth (zS xs) < m9:=hu;cases ra with
   | cons r1 r2 =>
     cases rb with
     | cons q1 q2 =>
       intro i v w d e h1 h2 h3 h4;cases i with
       | zero =>
         simp at h1 h2 h3 h4;subst h1 h2 h3 h4; exact ⟨SeqAt.eqAt_reads _ _ _ _ _ _ _ _ r1 q1 ha'.1 hb'.1 (by lia),fun k hk=>cG ho _ _ A s _ _ _ _ k r1 q1 ha'.1 hb'.1 (by lia) hk⟩
       | succ i=>exact Wv ho xs ys A s _ _ _ _ r2 q2 ha'.2 hb'.2 (by lia) i v w d e (by simpa using h1) (by simpa using h2) (by simpa using h3) (by simpa using h4)
end
noncomputable def P4 (op:z6) (a b:wY):Option wY:=if a.depth<=60 then (Rc op a b).map .bool else none
def rT (op:z6):R2:=fun x y H Q=>∃ G a b k,Same G H/\Rep G a x/\Rep G b y/\a.depth<=60/\Rc op a b=some k/\Q (.bl k) H
noncomputable section
variable {X:Cx}
theorem cQ {op:z6} (ho:op=.Lt\/op=.LtE) (hu:X.A.units+64 < m9):OpR X (o5 op) (rT op):=by
 rintro pins s Z H x y v u Q I rx ry ⟨G,a,b,k,hG,ra,rb,hd,e,q⟩;obtain ⟨as,r1⟩:=ra.reads I hG rx;obtain ⟨bs,r2⟩:=rb.reads I hG ry;have:=cG ho a b X.A s v u as bs k r1 r2 ra.lay rb.lay (by lia) e X.prog X.w X.xe (EP X pins Z Q) ⟨.bl k,H,I,rfl,q⟩;rcases ho with rfl | rfl
 . exact this
 . exact this
theorem pB {op:z6} (ho:op=.Gt\/op=.GtE):OpR X (o5 op) (fun x y H Q=>∃ i j,x=.int i/\y=.int j/\Q (.bl (gD op i j)) H):=by
 rintro pins s Z H x y v u Q I rx ry ⟨i,j,e1,e2,q⟩;subst e1 e2;obtain ⟨t,rfl⟩:=rx;obtain ⟨t',rfl⟩:=ry;rcases ho with rfl | rfl
 . exact gt_int ⟨.bl _,H,I,rfl,q⟩
 . exact ge_int ⟨.bl _,H,I,rfl,q⟩
theorem cS {op:z6}:OpD (rT op) (P4 op):=by
 intro G H x y a b d Q hG ra rb e q;unfold P4 at e;split at e
 . rename_i h
   cases e1:Rc op a b with
   | none=>rw [e1] at e; cases e
   | some k=>rw [e1] at e; cases e; exact ⟨G,a,b,k,hG,ra,rb,h,e1,q _ G H (Grow.refl hG) rfl⟩
 . cases e
noncomputable def Gv (op:z6):wY->wY->Option wY
 | .int i,.int j=>some (.bool (gD op i j))
 | _,_=>none
theorem kI {op:z6}:OpD (fun x y H Q=>∃ i j,x=.int i/\y=.int j/\Q (.bl (gD op i j)) H) (Gv op):=by
 intro G H x y a b d Q hG ra rb e q;cases a with
 | int i=>cases b with
   | int j=>cases e; cases (show _=_ from ra); cases (show _=_ from rb); exact ⟨i,j,rfl,rfl,q _ G H (Grow.refl hG) rfl⟩
   | _=>cases e
 | _=>cases e
end
end Sm
end
noncomputable section
namespace Sm
open PySem PySem.Spec PyProof.Rows L2
theorem Res.bind_assoc {α β γ:Type} (r:Res α) (f:α->Res β) (g:β->Res γ):(r.bind f).bind g=r.bind fun x=>(f x).bind g:=by cases r <;> rfl
structure Cxt (P:yD) (w:yR) (K:xF) (mg:Str->Option xB) (base:zN) (X:Cx) (N:List Str) (sc:Scope) (k:Nat) (df:Bool):Prop where
 hP:X.prog=P
 hw:X.w=w
 hK:X.K=K
 hmg:X.mg=mg
 hb:X.base=base
 hN:X.N=N
 hs:X.env.scope=sc
 calm:X.calm=true
 room:Room k X.A
 fn:df=true->∀ x,X.fn x=true
 own:PassesOwn (xW X.prog X.w) X.A X.env X.xe
def Ge (scope sc:Scope):Scope :=
 { scope with names:=scope.names.map fun (n,k)=>if (k==.free&&sc.kind==.function&&sc.names.lookup n==some .cell) then (n,.cell) else (n,k) }
theorem cF {X:Cx} {scope sc:Scope} (h:X.env.scope=sc):v9 scope X.env=Ge scope sc:=by subst h; rfl
noncomputable section
variable {P:yD} {w:yR} {K:xF} {mg:Str->Option xB} {base:zN} {X:Cx} {N:List Str} {sc:Scope} {k:Nat} {df:Bool} {E:EK} {pos:Pos}
theorem Cxt.blk (C:Cxt P w K mg base X N sc k df) {X':Cx} {N':List Str} {scope:Scope} (B:Blk X X' N' (v9 scope X.env)):Cxt P w K mg base X' N' (Ge scope sc) k false :=
 ⟨B.prog.trans C.hP,B.w.trans C.hw,B.K.trans C.hK,B.mg.trans C.hmg,B.base.trans C.hb,B.N,B.sc.trans (cF C.hs),B.calm.trans C.calm,by rw [B.A]; exact C.room,(fun h=>by cases h),by rw [B.xe]; exact DH⟩
theorem Cxt.hu (C:Cxt P w K mg base X N sc k df):X.A.units+64 < m9:=C.room.units
noncomputable def okVar (N:List Str) (sc:Scope) (i:Nat) (x:Str):Bool :=
 (N[i]? == some x)&&(match sc.names.lookup x with | some .local=>true | some .cell=>true | some .free=>true | _=>false) && !(x==("__debug__" : Str)) && !(x==("__classdict__" : Str))
theorem A4 (C:Cxt P w K mg base X N sc k df) (i:Nat) {x:Str} (h:okVar N sc i x=true):DE X E (.Name x pos) (A0 i):=by
 unfold okVar at h;simp only [yE,CU] at h;obtain ⟨⟨⟨h1,h2⟩,h3⟩,h4⟩:=h;refine wG (by rw [C.hN]; exact w5 h1) ?_ h3 h4;rw [C.hs];unfold Vis;cases q:sc.names.lookup x with
 | none=>rw [q] at h2; cases h2
 | some z =>
   rw [q] at h2;cases z with
   | «local» => exact .inl rfl
   | cell=>exact .inr (.inl rfl)
   | free=>exact .inr (.inr rfl)
   | _=>cases h2
noncomputable def okGl (sc:Scope) (x:Str):Bool:=(sc.names.lookup x==some .globalImplicit) && !(x==("__debug__" : Str)) && !(x==("__name__" : Str))
theorem okGl.gl (C:Cxt P w K mg base X N sc k df) {x:Str} (h:okGl sc x=true):Gl X x/\(x==("__debug__" : Str))=false/\x ≠ "__name__" := by
 unfold okGl at h;simp only [yE,CU] at h;obtain ⟨⟨h1,h2⟩,h3⟩:=h;refine ⟨?_,h2,by simpa using h3⟩;unfold Gl;show X.env.scope.names.lookup x=_;rw [C.hs]; exact w5 h1
theorem qT (C:Cxt P w K mg base X N sc k df) {x z:Str} (h:okGl sc x=true) (hm:∃ t,mg x=some (.str z t)) (hz:yP z=true:=by decide +kernel) (hl:z.length<=sizeLine:=by decide +kernel):DE X E (.Name x pos) (vC (.str z)):=by
 obtain ⟨t,hm⟩:=hm;obtain ⟨h1,h2,h3⟩:=okGl.gl C h;exact PE.imp (oT (v:=.str z) h1 (by rw [C.hmg]; exact hm) ⟨t,rfl⟩ h2) fun Z H Q hZ3=>by obtain ⟨G,δ,S,a⟩:=hZ3; exact a _ G H (Grow.refl S.sub) ⟨rfl,hz,hl⟩
variable {a b c:Expr} {f g f':Dn->Res wY}
theorem D1 (ha:DE X E a f) (hb:DE X E b g):DE X E (.BinOp a .Add b pos) (b2 f g C5):=dM pC pF ha hb
theorem Dg (ha:DE X E a f) (hb:DE X E b g):DE X E (.BinOp a .Mult b pos) (b2 f g P8):=dM oZ pD ha hb
theorem Sw (ha:DE X E a f) (hb:DE X E b g):DE X E (.BinOp a .Mod b pos) (b2 f g Rb):=dM uV pE ha hb
theorem Vd (ha:DE X E a f) (hb:DE X E b g):DE X E (.BinOp a .FloorDiv b pos) (b2 f g Lo):=dM pA kG ha hb
theorem qU (C:Cxt P w K mg base X N sc k df) (ha:DE X E a f) (hb:DE X E b g):DE X E (.Compare a [.Eq] [b] pos) (b2 f g dEq):=d_cmp (kE C.hu) kH ha hb (Kk _)
noncomputable def vChain (f g f':Dn->Res wY) (op op':wY->wY->Option wY):Dn->Res wY:=fun δ=>(f δ).bind fun x=>(g δ).bind fun y=>(ofO (op x y)).bind fun z=>match z with
 | .bool true=>(f' δ).bind fun u=>ofO (op' y u)
 | .bool false=>.ok (.bool false)
 | _=>.no
noncomputable def b1 (f:Dn->Res wY) (op:wY->Option wY):Dn->Res wY:=fun δ=>(f δ).bind fun x=>ofO (op x)
noncomputable def Dh:wY->Option wY
 | .int i=>some (.int (-i))
 | _=>none
theorem Ln (ha:DE X E a f):DE X E (.UnaryOp .USub a pos) (b1 f Dh):=by
 refine PE.imp (pe_un sR ha) fun Z H Q hZ3=>?_;obtain ⟨G,δ,S,aft⟩:=hZ3;refine L3 S aft fun d1 v1 G1 H1 g1 r1 S1 a1=>?_;cases d1 with
 | int i=>cases (show _=_ from r1); exact ⟨i,rfl,a1 _ G1 H1 (Grow.refl S1.sub) rfl⟩
 | _=>exact (show False from a1).elim
noncomputable def Vs (f g:Dn->Res wY):Dn->Res wY:=fun δ=>(f δ).bind fun x=>match x with
 | .bool true=>g δ
 | .bool false=>.ok (.bool false)
 | _=>.no
variable {G6:List Expr}
theorem sJ {op:BoolOp} (ha:DE X E a f):DE X E (.BoolOp op [a] pos) f:=uN ha
theorem sK (ha:DE X E a f) (hb:DE X E (.BoolOp .And (b::G6) pos) g):DE X E (.BoolOp .And (a::b::G6) pos) (Vs f g):=by
 refine PE.imp (uS ha hb) fun Z H Q hZ3=>?_;obtain ⟨G,δ,S,aft⟩:=hZ3;refine L3 S aft fun d1 v1 G1 H1 g1 r1 S1 a1=>?_;cases d1 with
 | bool kk =>
   refine ⟨kk,r1,?_⟩;cases kk with
   | true=>rw [if_pos rfl]; exact ⟨G1,δ,S1,a1⟩
   | false=>rw [if_neg (by decide)]; exact a1 _ G1 H1 (Grow.refl S1.sub) rfl
 | _=>exact (show False from a1).elim
def AftT (E:EK) (G H:Hp) (r:Res Bool) (Q:Bool->Hp->Prop):Prop:=match r with
 | .ok d=>∀ G' H',Grow G H G' H'->Q d H'
 | .exc c=>∀ G' H',Grow G H G' H'->E c H'
 | .no=>False
def tT (E:EK) (f:Dn->Res Bool):TT:=fun Z H Q=>∃ G δ,SR G H Z δ/\AftT E G H (f δ) Q
abbrev DT (X:Cx) (E:EK) (e:Expr) (f:Dn->Res Bool):Prop:=PT X e (tT E f)
abbrev DW (X:Cx) (E:EK) (e:Expr) (f:Dn->Res Bool):Prop:=PW X e (tT E f)
theorem AftT.grow {E:EK} {G H G' H':Hp} {r:Res Bool} {Q:Bool->Hp->Prop} (g:Grow G H G' H') (a:AftT E G H r Q):AftT E G' H' r Q:=by
 cases r with
 | ok d=>exact fun G2 H2 g2=>a G2 H2 (g.trans g2)
 | exc c=>exact fun G2 H2 g2=>a G2 H2 (g.trans g2)
 | no=>exact a
theorem PT.imp {X:Cx} {e:Expr} {t t':TT} (h:PT X e t) (i:∀ Z H Q,t' Z H Q->t Z H Q):PT X e t':=fun pins s Z H Q I q=>h pins s Z H Q I (i _ _ _ q)
theorem PW.imp {X:Cx} {e:Expr} {t t':TT} (h:PW X e t) (i:∀ Z H Q,t' Z H Q->t Z H Q):PW X e t':=fun wh pins s Z H Q I q=>h wh pins s Z H Q I (i _ _ _ q)
theorem Lc {E:EK} {G H:Hp} {Z:St} {δ:Dn} {f:Dn->Res wY} {k:wY->Res Bool} {Q:Bool->Hp->Prop} {R:VK} (S:SR G H Z δ) (a:AftT E G H ((f δ).bind k) Q)
   (h:∀ d v G1 H1,Grow G H G1 H1->Rep G1 d v->SR G1 H1 Z δ->AftT E G1 H1 (k d) Q->R v H1):tD E f Z H R:=by
 refine ⟨G,δ,S,?_⟩;cases e:f δ with
 | ok d =>
   rw [e] at a; exact fun v G' H' g r=>h d v G' H' g r (S.grow g) (AftT.grow g a)
 | exc c=>rw [e] at a; exact a
 | no=>rw [e] at a; exact a
theorem Ic {E:EK} {G H:Hp} {Z:St} {δ:Dn} {f:Dn->Res Bool} {k:Bool->Res Bool} {Q R:Bool->Hp->Prop} (S:SR G H Z δ) (a:AftT E G H ((f δ).bind k) Q)
   (h:∀ d G1 H1,Grow G H G1 H1->SR G1 H1 Z δ->AftT E G1 H1 (k d) Q->R d H1):tT E f Z H R:=by
 refine ⟨G,δ,S,?_⟩;cases e:f δ with
 | ok d =>
   rw [e] at a; exact fun G' H' g=>h d G' H' g (S.grow g) (AftT.grow g a)
 | exc c=>rw [e] at a; exact a
 | no=>rw [e] at a; exact a
theorem bG {E:EK} {G H:Hp} {Z:St} {δ:Dn} {f:Dn->Res Bool} {k:Bool->Res wY} {Q:VK} {R:Bool->Hp->Prop} (S:SR G H Z δ) (a:Aft E G H ((f δ).bind k) Q)
   (h:∀ d G1 H1,Grow G H G1 H1->SR G1 H1 Z δ->Aft E G1 H1 (k d) Q->R d H1):tT E f Z H R:=by
 refine ⟨G,δ,S,?_⟩;cases e:f δ with
 | ok d =>
   rw [e] at a; exact fun G' H' g=>h d G' H' g (S.grow g) (Aft.grow g a)
 | exc c=>rw [e] at a; exact a
 | no=>rw [e] at a; exact a
noncomputable def iD:wY->Option Bool
 | .none=>some false
 | .bool b=>some b
 | .int i=>some (i != 0)
 | .str x=>some (x.length != 0)
 | .list xs=>some (!xs.isEmpty)
 | .tuple xs=>some (!xs.isEmpty)
 | .dict _=>none
noncomputable def C4 (f:Dn->Res wY):Dn->Res Bool:=fun δ=>(f δ).bind fun d=>ofO (iD d)
theorem RepL.isEmpty {G:Hp} {ds:List wY} {xs:List V} (r:RepL G ds xs):ds.isEmpty=xs.isEmpty:=by
 have:=r.length;cases ds <;> cases xs <;> simp at this ⊢
theorem Rep.truV {G H:Hp} (hG:Same G H) {d:wY} {v:V} (r:Rep G d v) {kk:Bool} (e:iD d=some kk):wU K v H kk:=by
 cases d with
 | none=>cases (show _=_ from r); cases e; rfl
 | bool _=>cases (show _=_ from r); cases e; rfl
 | int _=>cases (show _=_ from r); cases e; rfl
 | str x =>
   cases r.1; cases e;refine ⟨r.2.2,?_⟩; show (x.length != 0)=((x.length:Int) != 0);rw [m7]; simp
 | list _=>obtain ⟨a,xs,rfl,h1,l1⟩:=r; cases e; exact .inl ⟨xs,.inl (Rd.mono hG h1),by rw [l1.isEmpty]⟩
 | tuple _=>obtain ⟨a,xs,rfl,h1,l1⟩:=r; cases e; exact .inr (.inl ⟨xs,.inl (.inl (hG _ _ h1)),by rw [l1.isEmpty]⟩)
 | dict _=>cases e
theorem Gi (ha:DE X E a f) (he:∀ whole,isTrue a X.env whole=(do let v <- whole; standAt a.pos; holding [v] (truthy v)):=by intro _; rfl):DT X E a (C4 f):=by
 refine PT.imp (Wy ha he) fun Z H Q hZ3=>?_;obtain ⟨G,δ,S,aft⟩:=hZ3;refine Lc S aft fun d1 v1 G1 H1 g1 r1 S1 a1=>?_;cases e:iD d1 with
 | none=>rw [e] at a1; exact a1.elim
 | some kk=>rw [e] at a1; exact ⟨kk,r1.truV S1.sub e,a1 G1 H1 (Grow.refl S1.sub)⟩
theorem Hb {o:z6} {r:R2} {op:wY->wY->Option wY} (hr:OpR X (o5 o) r) (ho:OpD r op) (hbool:∀ x y d,op x y=some d->∃ kk,d=.bool kk) (ha:DE X E a f) (hb:DE X E b g) (hm:behindInMarks o b=false) :
   DT X E (.Compare a [o] [b] pos) (C4 (b2 f g op)):=by
 refine PT.imp (oM hr ha hb hm) fun Z H Q hZ3=>?_;obtain ⟨G,δ,S,aft⟩:=hZ3;have aft':AftT E G H ((f δ).bind fun x=>(g δ).bind fun y=>(ofO (op x y)).bind fun d=>ofO (iD d)) Q:=by
   unfold C4 b2 at aft; simp only [Res.bind_assoc] at aft; exact aft
 refine Lc S aft' fun d1 v1 G1 H1 g1 r1 S1 a1=>?_;refine Lc S1 a1 fun d2 v2 G2 H2 g2 r2 S2 a2=>?_;cases e:op d1 d2 with
 | none=>rw [e] at a2; exact a2.elim
 | some d =>
   rw [e] at a2; obtain ⟨kk,rfl⟩:=hbool _ _ _ e; exact ho G2 H2 v1 v2 d1 d2 _ _ S2.sub (r1.mono g2.g) r2 e fun v G3 H3 g3 r3=>⟨kk,r3,a2 G3 H3 g3⟩
theorem rC (x y d:wY) (e:dEq x y=some d):∃ kk,d=.bool kk:=by unfold dEq at e; split at e <;> cases e; exact ⟨_,rfl⟩
theorem rB (x y d:wY) (e:dNe x y=some d):∃ kk,d=.bool kk:=by unfold dNe at e; split at e <;> cases e; exact ⟨_,rfl⟩
theorem Zc {op:z6} (x y d:wY) (e:P4 op x y=some d):∃ kk,d=.bool kk:=by
 unfold P4 at e; split at e
 . obtain ⟨kk,_,rfl⟩:=zM.mp e; exact ⟨_,rfl⟩
 . cases e
theorem gQ {op:z6} (x y d:wY) (e:Gv op x y=some d):∃ kk,d=.bool kk:=by
 unfold Gv at e; split at e
 . cases e; exact ⟨_,rfl⟩
 . cases e
theorem Tu (C:Cxt P w K mg base X N sc k df) (ha:DE X E a f) (hb:DE X E b g):DT X E (.Compare a [.Eq] [b] pos) (C4 (b2 f g dEq)):=Hb (kE C.hu) kH rC ha hb (Kk _)
theorem Tt (C:Cxt P w K mg base X N sc k df) (ha:DE X E a f) (hb:DE X E b g):DT X E (.Compare a [.NotEq] [b] pos) (C4 (b2 f g dNe)):=Hb (uU C.hu) uX rB ha hb (Kk _)
theorem eN (C:Cxt P w K mg base X N sc k df) (ha:DE X E a f) (hb:DE X E b g):DT X E (.Compare a [.Lt] [b] pos) (C4 (b2 f g (P4 .Lt))):=Hb (cQ (.inl rfl) C.hu) cS Zc ha hb (Kk _)
theorem sW (C:Cxt P w K mg base X N sc k df) (ha:DE X E a f) (hb:DE X E b g):DT X E (.Compare a [.LtE] [b] pos) (C4 (b2 f g (P4 .LtE))):=Hb (cQ (.inr rfl) C.hu) cS Zc ha hb (Kk _)
theorem t_gt (C:Cxt P w K mg base X N sc k df) (ha:DE X E a f) (hb:DE X E b g):DT X E (.Compare a [.Gt] [b] pos) (C4 (b2 f g (Gv .Gt))):=Hb (pB (.inl rfl)) kI gQ ha hb (Kk _)
theorem t_in (C:Cxt P w K mg base X N sc k df) (ha:DE X E a f) (hb:DE X E b g) (hm:behindInMarks .In b=false:=by with_unfolding_all rfl):DT X E (.Compare a [.In] [b] pos) (C4 (b2 f g (dIn false))):=Hb (uW C.hu) kF (fun _ _ _ e=>Po e) ha hb hm
theorem nI (C:Cxt P w K mg base X N sc k df) (ha:DE X E a f) (hb:DE X E b g) (hm:behindInMarks .NotIn b=false:=by with_unfolding_all rfl):DT X E (.Compare a [.NotIn] [b] pos) (C4 (b2 f g (dIn true))):=Hb (fE C.hu) kF (fun _ _ _ e=>Po e) ha hb hm
variable {c1 c2:Dn->Res Bool}
noncomputable def Re (c:Dn->Res Bool):Dn->Res Bool:=fun δ=>(c δ).bind fun b=>.ok (!b)
noncomputable def V9 (c c':Dn->Res Bool):Dn->Res Bool:=fun δ=>(c δ).bind fun b=>if b=true then c' δ else .ok false
noncomputable def cOr (c c':Dn->Res Bool):Dn->Res Bool:=fun δ=>(c δ).bind fun b=>if b=true then .ok true else c' δ
theorem rO (ha:DT X E a c1):DT X E (.UnaryOp .Not a pos) (Re c1):=by
 refine PT.imp (uH ha) fun Z H Q hZ3=>?_;obtain ⟨G,δ,S,aft⟩:=hZ3;exact Ic S aft fun d G1 H1 g1 S1 a1=>a1 G1 H1 (Grow.refl S1.sub)
theorem Gx (ha:DT X E a c1):DW X E (.BoolOp .And [a] pos) c1:=oG ha
theorem bM (ha:DT X E a c1):DW X E (.BoolOp .Or [a] pos) c1:=uE ha
theorem Mw (ha:DT X E a c1) (hb:DW X E (.BoolOp .And (b::G6) pos) c2):DW X E (.BoolOp .And (a::b::G6) pos) (V9 c1 c2):=by
 refine PW.imp (uF ha hb) fun Z H Q hZ3=>?_;obtain ⟨G,δ,S,aft⟩:=hZ3;refine Ic S aft fun d G1 H1 g1 S1 a1=>?_;cases d with
 | true=>rw [if_pos rfl]; exact ⟨G1,δ,S1,a1⟩
 | false=>rw [if_neg (by decide)]; exact a1 G1 H1 (Grow.refl S1.sub)
theorem gZ (ha:DT X E a c1) (hb:DW X E (.BoolOp .Or (b::G6) pos) c2):DW X E (.BoolOp .Or (a::b::G6) pos) (cOr c1 c2):=by
 refine PW.imp (pw_or ha hb) fun Z H Q hZ3=>?_;obtain ⟨G,δ,S,aft⟩:=hZ3;refine Ic S aft fun d G1 H1 g1 S1 a1=>?_;cases d with
 | true=>rw [if_pos rfl]; exact a1 G1 H1 (Grow.refl S1.sub)
 | false=>rw [if_neg (by decide)]; exact ⟨G1,δ,S1,a1⟩
theorem w_t (h:DW X E a c1):DT X E a c1:=h.pt
noncomputable def vIf (c:Dn->Res Bool) (f g:Dn->Res wY):Dn->Res wY:=fun δ=>(c δ).bind fun b=>if b=true then f δ else g δ
theorem qS (hc:DT X E c c1) (ha:DE X E a f) (hb:DE X E b g):DE X E (.IfExp c a b pos) (vIf c1 f g):=by
 refine PE.imp (jX hc ha hb) fun Z H Q hZ3=>?_;obtain ⟨G,δ,S,aft⟩:=hZ3;refine bG S aft fun d G1 H1 g1 S1 a1=>?_;cases d with
 | true=>rw [if_pos rfl]; exact ⟨G1,δ,S1,a1⟩
 | false=>rw [if_neg (by decide)]; exact ⟨G1,δ,S1,a1⟩
end
end Sm
end
noncomputable section
namespace Sm
open PySem PySem.Spec PyProof.Rows L2
noncomputable section
variable {w:yR} {K:xF} {X:Cx} {k:Nat} {E:EK} {pos:Pos} {a b c e:Expr} {es:List Expr} {f g:Dn->Res wY} {fs:Dn->Res (List wY)}
def AftL (E:EK) (G H:Hp) (r:Res (List wY)) (Q:List V->Hp->Prop):Prop:=match r with
 | .ok ds=>∀ vs G' H',Grow G H G' H'->RepL G' ds vs->Q vs H'
 | .exc c=>∀ G' H',Grow G H G' H'->E c H'
 | .no=>False
def tA (E:EK) (fs:Dn->Res (List wY)):TA:=fun Z H Q=>∃ G δ,SR G H Z δ/\AftL E G H (fs δ) Q
structure DA (X:Cx) (E:EK) (es:List Expr) (n:Nat) (fs:Dn->Res (List wY)):Prop where
 pa:PA X es (tA E fs)
 len:∀ δ ds,fs δ=.ok ds->ds.length=n
theorem PA.imp {X:Cx} {es:List Expr} {t t':TA} (h:PA X es t) (i:∀ Z H Q,t' Z H Q->t Z H Q):PA X es t':=fun p pins s Z H Q I q=>h p pins s Z H Q I (i _ _ _ q)
theorem AftL.grow {E:EK} {G H G' H':Hp} {r:Res (List wY)} {Q:List V->Hp->Prop} (g:Grow G H G' H') (a:AftL E G H r Q):AftL E G' H' r Q:=by
 cases r with
 | ok d=>exact fun v G2 H2 g2 q=>a v G2 H2 (g.trans g2) q
 | exc c=>exact fun G2 H2 g2=>a G2 H2 (g.trans g2)
 | no=>exact a
theorem Mv {α:Type} {E:EK} {G H:Hp} {Z:St} {δ:Dn} {f:Dn->Res wY} {k:wY->Res α} {R:VK} {W:Hp->Hp->Res α->Prop} (S:SR G H Z δ) (a:W G H ((f δ).bind k)) (hg:∀ {G H G' H':Hp} {r:Res α},Grow G H G' H'->W G H r->W G' H' r)
   (hx:∀ c,W G H (.exc c)->∀ G' H',Grow G H G' H'->E c H') (hn:W G H .no->False)
   (h:∀ d v G1 H1,Grow G H G1 H1->Rep G1 d v->SR G1 H1 Z δ->W G1 H1 (k d)->R v H1):tD E f Z H R:=by
 refine ⟨G,δ,S,?_⟩;cases e:f δ with
 | ok d=>rw [e] at a; exact fun v G' H' g r=>h d v G' H' g r (S.grow g) (hg g a)
 | exc c=>rw [e] at a; exact hx c a
 | no=>rw [e] at a; exact hn a
theorem Y6 {α:Type} {E:EK} {G H:Hp} {Z:St} {δ:Dn} {fs:Dn->Res (List wY)} {k:List wY->Res α} {R:List V->Hp->Prop} {W:Hp->Hp->Res α->Prop} (S:SR G H Z δ) (a:W G H ((fs δ).bind k)) (hg:∀ {G H G' H':Hp} {r:Res α},Grow G H G' H'->W G H r->W G' H' r)
   (hx:∀ c,W G H (.exc c)->∀ G' H',Grow G H G' H'->E c H') (hn:W G H .no->False)
   (h:∀ ds vs G1 H1,fs δ=.ok ds->Grow G H G1 H1->RepL G1 ds vs->SR G1 H1 Z δ->W G1 H1 (k ds)->R vs H1):tA E fs Z H R:=by
 refine ⟨G,δ,S,?_⟩;cases e:fs δ with
 | ok d=>rw [e] at a; exact fun v G' H' g r=>h d v G' H' e g r (S.grow g) (hg g a)
 | exc c=>rw [e] at a; exact hx c a
 | no=>rw [e] at a; exact hn a
noncomputable def A8:Dn->Res (List wY):=fun _=>.ok []
noncomputable def A3 (f:Dn->Res wY) (fs:Dn->Res (List wY)):Dn->Res (List wY):=fun δ=>(f δ).bind fun d=>(fs δ).bind fun ds=>.ok (d::ds)
theorem B4:DA X E [] 0 A8:=⟨PA.imp R0 fun Z H Q hZ3=>by obtain ⟨G,δ,S,a⟩:=hZ3; exact a [] G H (Grow.refl S.sub) rfl,fun δ ds e=>by cases e; rfl⟩
noncomputable def Uk:Expr->Bool
 | .Starred .. => false
 | _=>true
theorem eP {a:Expr} {es:List Expr} {env:Env} (h:Uk a=true):xO (a::es) env=(false,eval a env)::xO es env:=by
 cases a <;> first | rfl | cases h
theorem A5 {n:Nat} (ha:DE X E a f) (hr:DA X E es n fs) (hs:Uk a=true:=by rfl):DA X E (a::es) (n+1) (A3 f fs):=by
 refine ⟨PA.imp (L7 ha hr.pa (eP hs)) fun Z H Q ⟨G,δ,S,aft⟩=>?_,fun δ ds e=>?_⟩
 . refine Mv (W:=fun G H r=>AftL E G H r Q) S aft (fun g a=>AftL.grow g a) (fun c a=>a) (fun a=>a) fun d v G1 H1 g1 r1 S1 a1=>?_
   refine Y6 (W:=fun G H r=>AftL E G H r Q) S1 a1 (fun g a=>AftL.grow g a) (fun c a=>a) (fun a=>a) fun ds vs G2 H2 e g2 r2 S2 a2=>?_;exact a2 _ G2 H2 (Grow.refl S2.sub) (RepL.cons (r1.mono g2.g) r2)
 . unfold A3 at e
   cases h1:f δ with
   | ok d =>
     rw [h1] at e;cases h2:fs δ with
     | ok ds' =>
       simp only [Res.bind,h2] at e; cases e; rw [xP,hr.len δ ds' h2]
     | exc c=>simp only [Res.bind,h2] at e; cases e
     | no=>simp only [Res.bind,h2] at e; cases e
   | exc c=>rw [h1] at e; cases e
   | no=>rw [h1] at e; cases e
noncomputable def F3 (fs:Dn->Res (List wY)):Dn->Res wY:=fun δ=>(fs δ).bind fun ds=>.ok (.tuple ds)
noncomputable def K4 (fs:Dn->Res (List wY)):Dn->Res wY:=fun δ=>(fs δ).bind fun ds=>.ok (.list ds)
theorem K6 {n x1:Nat} (h:DA X E es n fs) (hn:n<=sizeLine:=by decide):DE X E (.Tuple es x1 pos) (F3 fs):=by
 refine PE.imp (uL h.pa) fun Z H Q hZ3=>?_;obtain ⟨G,δ,S,aft⟩:=hZ3;refine Y6 (W:=fun G H r=>Aft E G H r Q) S aft (fun g a=>Aft.grow g a) (fun c a=>a) (fun a=>a) fun ds vs G1 H1 e g1 r1 S1 a1=>?_;refine ⟨by rw [<- r1.length,h.len δ ds e]; exact hn,fun p hp=>?_⟩;exact a1 _ (upd G1 p (.tup vs)) _ (Grow.new S1.sub hp) ⟨p,vs,rfl,B8,r1.mono (Same.upd (S1.sub.free hp))⟩
def mW (E:EK) (G H:Hp) (r:Res (List wY)) (Q:VK):Prop:=match r with
 | .ok ds=>∀ p xs G' H',Grow G H G' H'->H p=none->G' p=none->H' p=some (.lst xs)->RepL G' ds xs->Q (.ref p) H'
 | .exc c=>∀ G' H',Grow G H G' H'->E c H'
 | .no=>False
def tF (E:EK) (f:Dn->Res (List wY)):TE:=fun Z H Q=>∃ G δ,SR G H Z δ/\mW E G H (f δ) Q
abbrev DF (X:Cx) (E:EK) (e:Expr) (f:Dn->Res (List wY)):Prop:=PE X e (tF E f)
theorem Grow.share {G H G' H':Hp} {p:xI} {o:HO} (g:Grow G H G' H') (hp:H p=none) (hg:G' p=none) (hH:H' p=some o):Grow G H (upd G' p o) H' :=
 ⟨g.g.trans (Same.upd hg),g.h,fun b u e=>by
   by_cases hb:b=p
   . subst hb; rw [B8] at e; cases e; exact hH
   . rw [C0 hb] at e; exact g.gh _ _ e,fun b u e=>by
   by_cases hb:b=p
   . subst hb; exact .inr (.inl hp)
   . rw [C0 hb] at e; exact g.fr _ _ e⟩
theorem N5 (h:DF X E e fs):DE X E e (K4 fs):=by
 refine PE.imp h fun Z H Q hY35=>?_;obtain ⟨G,δ,S,aft⟩:=hY35;refine ⟨G,δ,S,?_⟩;unfold K4 at aft;cases e:fs δ with
 | ok ds =>
   rw [e] at aft; exact fun p xs G' H' g hp hg hH r=>aft _ _ H' (g.share hp hg hH) ⟨p,xs,rfl,.inl B8,r.mono (Same.upd hg)⟩
 | exc c=>rw [e] at aft; exact aft
 | no=>rw [e] at aft; exact aft
theorem V1 {n:Nat} (h:DA X E es n fs) (hn:n<=sizeLine:=by decide):DF X E (.List es pos) fs:=by
 refine PE.imp (jW h.pa) fun Z H Q hY36=>?_;obtain ⟨G,δ,S,aft⟩:=hY36;refine ⟨G,δ,S,?_⟩;cases e:fs δ with
 | ok ds =>
   rw [e] at aft; refine fun vs G1 H1 g1 r1=>⟨by rw [<- r1.length,h.len δ ds e]; exact hn,fun p hp=>?_⟩;exact aft p vs G1 _ (g1.trans (Grow.own g1.gh hp)) (g1.h.free hp) (g1.gh.free hp) B8 r1
 | exc c=>rw [e] at aft; exact aft
 | no=>rw [e] at aft; exact aft
noncomputable def dIx:wY->wY->Option wY
 | .list ds,.int i=>atI ds i
 | .tuple ds,.int i=>atI ds i
 | .str x,.int i=>(atI x.cps.toList i).map fun c=>.str ⟨#[c]⟩
 | _,_=>none
theorem eA {G:Hp} {ds:List wY} {xs:List V} {i:Int} {d:wY} (r:RepL G ds xs) (e:atI ds i=some d):∃ x,atI xs i=some x/\Rep G d x:=by
 unfold atI at e ⊢;rw [<- r.length];cases q:ixN ds.length i with
 | none=>rw [q] at e; cases e
 | some j=>rw [q] at e; exact r.get e
theorem uY:OpD (rIx K) dIx:=by
 intro G H x y a b d Q hG ra rb e q;cases b with
 | int i =>
   cases (show _=_ from rb);cases a with
   | list ds =>
     obtain ⟨p,xs,rfl,h1,l1⟩:=ra; obtain ⟨v,e1,r1⟩:=eA l1 e; exact .inl ⟨p,xs,i,v,rfl,rfl,.inl (Rd.mono hG h1),e1,q _ G H (Grow.refl hG) r1⟩
   | tuple ds =>
     obtain ⟨p,xs,rfl,h1,l1⟩:=ra; obtain ⟨v,e1,r1⟩:=eA l1 e; exact .inr (.inl ⟨p,xs,i,v,rfl,rfl,.inl (.inl (hG _ _ h1)),e1,q _ G H (Grow.refl hG) r1⟩)
   | str z =>
     obtain ⟨e0,o1,l1⟩:=ra; subst e0; obtain ⟨cc,e1,rfl⟩:=zM.mp e; refine .inr (.inr ⟨z,i,cc,rfl,rfl,l1,e1,q _ G H (Grow.refl hG) ⟨rfl,?_,?_⟩⟩)
     . obtain ⟨j,_,h2,_⟩:=Mt e1
       have hm:cc∈z.cps.toList:=n5 h2; unfold yP at *;rw [<- IF,j9] at o1; have:=o1 cc hm;simpa using this
     . show 1<=sizeLine; decide
   | _=>cases e
 | _=>cases a <;> cases e
theorem D5 (ha:DE X E a f) (hb:DE X E b g) (hs:eD b:=by exact fun _ _=>rfl):DE X E (.Subscript a b pos) (b2 f g dIx) :=
 PE.imp (pe_ix vX ha hb hs) fun _ _ _ h=>iL uY h
noncomputable def Fs (xs:List wY) (lo hi:Option Int):List wY:=(xs.drop (HT.sIx xs.length 0 lo)).take (HT.sIx xs.length xs.length hi - HT.sIx xs.length 0 lo)
noncomputable def aT (d:wY) (lo hi:Option Int):Option wY:=match d with
 | .list ds=>some (.list (Fs ds lo hi))
 | .tuple ds=>some (.tuple (Fs ds lo hi))
 | _=>none
theorem dP {G:Hp} {ds:List wY} {xs:List V} (r:RepL G ds xs) (lo hi:Option Int):RepL G (Fs ds lo hi) (gN xs lo hi):=by
 unfold Fs gN;rw [r.length];exact (r.drop _).take _
noncomputable def rSlD:V->Option Int->Option Int->Hp->VK->Prop:=fun x lo hi H Q=>∃ G a d,Same G H/\Rep G a x/\aT a lo hi=some d/\∀ v G' H',Grow G H G' H'->Rep G' d v->Q v H'
theorem Gf {prog:yD} {w:yR} {A:zI} {E:xB->xC->Prop} {s:xC} {t sl:xI} {items:Array xB} {vl vu:xB} {lo hi:Option Int} {Q:xB->xC->Prop} (ht:HB s.heap t items) (hs:s.heap.IsSliceOf sl vl vu .none) (pl:GR vl lo) (pu:GR vu hi)
   (hw:HT.sIx items.size 0 lo=0/\HT.sIx items.size items.size hi=items.size) (h:Q (.ref t) s):wpAny (xW prog w) A (FA (.ref t) (.ref sl)) Q E s:=by
 obtain ⟨os,hos,hcs,hds⟩:=id hs;have hTs:s.TypeIs (.ref sl) "slice" := ⟨os,hos,hcs⟩;unfold FA;try with_reducible refine zE ?_
 first | refine wZ (xA ?_) | skip
 refine wZ (FR ht.typeIs (by decide) ?_);refine wZ (zK (name:=o7 "__getitem__") ht.typeIs n8
   (zD n8 ht.typeIs entry_tuple_getitem ?_ (args_tuple_getitem _ _)))
 show wpAny _ _ (DJ (.ref t)>>=_) _ _ s;refine wZ (tupleItemsOf_ ht ?_);refine wZ (DP hTs ?_);rw [if_pos (by decide)];refine wZ (HT.sliceApplied_gen hs pl pu ?_);show wpAny _ _ (if (((HT.sIx items.size 0 lo:Nat):Int)==0&&(1:Int)==1&&(HT.sIx items.size items.size hi - HT.sIx items.size 0 lo)==items.size)=true then _ else _) _ _ s;rw [if_pos (by rw [hw.1,hw.2]; simp)];unfold Builtin.Tuple.tupleIsExact;refine wZ (wZ (DP ht.typeIs (xA ?_)));rw [if_pos (by decide)];first
   | exact wZ (f8 (xA ⟨_,rfl,xA h⟩))
   | exact wZ (f8 (wZ (xA (xA ⟨_,rfl,xA h⟩))))
theorem sl_D:SlR X rSlD:=by
 rintro pins s Z H x v vl vu lo hi sl Q I rx hs pl pu ⟨G,a,d,hG,ra,e,q⟩;cases a with
 | list ds =>
   cases e; obtain ⟨p,xs,rfl,h1,l1⟩:=ra; cases rx; obtain ⟨z,its,n,r,e1⟩:=Ag I hG h1; have hlen:=r.length; have hl:s.heap.IsList p its.toArray:=⟨_,e1,rfl,n,rfl⟩; refine ⟨"list",_,JA.lookup,hl.typeIs,?_⟩; refine wpAny_getItem_list_slice hl hs pl pu .none (by simp) ?_ (by rw [xU] <;> lia)
   rw [Go,<- hlen]; exact Uz (t':=s.toks) I hG ((r.drop (HT.sIx xs.length 0 lo)).take (HT.sIx xs.length xs.length hi - HT.sIx xs.length 0 lo)) (dP l1 lo hi) (xX (Fq xs lo hi) z) q
 | tuple ds =>
   cases e; obtain ⟨p,xs,rfl,h1,l1⟩:=ra; cases rx; obtain ⟨z,its,r,ht⟩:=Ki I hG h1; have hlen:its.toArray.size=xs.length:=by rw [xU]; exact r.length.symm
   refine ⟨"tuple",_,n8.lookup,ht.typeIs,?_⟩;by_cases hw:HT.sIx xs.length 0 lo=0/\HT.sIx xs.length xs.length hi=xs.length
   . refine Gf ht hs pl pu (by rw [hlen]; exact hw) ⟨.ref p,H,I,rfl,q _ G H (Grow.refl hG) ⟨p,xs,rfl,h1,?_⟩⟩
     have:Fs ds lo hi=ds:=by
       unfold Fs; rw [l1.length,hw.1,hw.2,ES,Nat.sub_zero,<- l1.length,List.take_length]
     rw [this]; exact l1
   . refine HT.getItem_tuple_cut ht hs pl pu (by rw [hlen]; exact hw) ?_ (by rw [hlen]; exact z)
     rw [hlen]; exact dL (t':=s.toks) I hG ((r.drop (HT.sIx xs.length 0 lo)).take (HT.sIx xs.length xs.length hi - HT.sIx xs.length 0 lo)) (dP l1 lo hi) (xX (Fq xs lo hi) z) q
 | _=>cases e
def AftO (E:EK) (G H:Hp) (r:Res (Option Int)) (Q:Option Int->Hp->Prop):Prop:=match r with
 | .ok ds=>∀ G' H',Grow G H G' H'->Q ds H'
 | .exc c=>∀ G' H',Grow G H G' H'->E c H'
 | .no=>False
def tO (E:EK) (f:Dn->Res (Option Int)):TO:=fun Z H Q=>∃ G δ,SR G H Z δ/\AftO E G H (f δ) Q
abbrev DO (X:Cx) (E:EK) (e:Option Expr) (f:Dn->Res (Option Int)):Prop:=PO X e (tO E f)
theorem PO.imp {X:Cx} {e:Option Expr} {t t':TO} (h:PO X e t) (i:∀ Z H Q,t' Z H Q->t Z H Q):PO X e t':=fun pins s Z H Q I q=>h pins s Z H Q I (i _ _ _ q)
noncomputable def Y2:Dn->Res (Option Int):=fun _=>.ok none
noncomputable def P0 (f:Dn->Res wY):Dn->Res (Option Int):=fun δ=>(f δ).bind fun d=>match d with
 | .int i=>.ok (some i)
 | _=>.no
theorem AftO.grow {E:EK} {G H G' H':Hp} {r:Res (Option Int)} {Q:Option Int->Hp->Prop} (g:Grow G H G' H') (a:AftO E G H r Q):AftO E G' H' r Q:=by
 cases r with
 | ok d=>exact fun G2 H2 g2=>a G2 H2 (g.trans g2)
 | exc c=>exact fun G2 H2 g2=>a G2 H2 (g.trans g2)
 | no=>exact a
theorem Fi:DO X E none Y2:=PO.imp oQ fun Z H Q hZ3=>by obtain ⟨G,δ,S,a⟩:=hZ3; exact a G H (Grow.refl S.sub)
theorem Cm (h:DE X E e f):DO X E (some e) (P0 f):=by
 refine PO.imp (oP h) fun Z H Q hZ3=>?_;obtain ⟨G,δ,S,aft⟩:=hZ3;refine Mv (W:=fun G H r=>AftO E G H r Q) S aft (fun g a=>AftO.grow g a) (fun c a=>a) (fun a=>a) fun d v G1 H1 g1 r1 S1 a1=>?_;cases d with
 | int i=>exact ⟨i,r1,a1 G1 H1 (Grow.refl S1.sub)⟩
 | _=>exact (show False from a1).elim
theorem Jn {α:Type} {E:EK} {G H:Hp} {Z:St} {δ:Dn} {fs:Dn->Res (Option Int)} {k:Option Int->Res α} {R:Option Int->Hp->Prop} {W:Hp->Hp->Res α->Prop} (S:SR G H Z δ) (a:W G H ((fs δ).bind k)) (hg:∀ {G H G' H':Hp} {r:Res α},Grow G H G' H'->W G H r->W G' H' r)
   (hx:∀ c,W G H (.exc c)->∀ G' H',Grow G H G' H'->E c H') (hn:W G H .no->False)
   (h:∀ ds G1 H1,Grow G H G1 H1->SR G1 H1 Z δ->W G1 H1 (k ds)->R ds H1):tO E fs Z H R:=by
 refine ⟨G,δ,S,?_⟩;cases e:fs δ with
 | ok d=>rw [e] at a; exact fun G' H' g=>h d G' H' g (S.grow g) (hg g a)
 | exc c=>rw [e] at a; exact hx c a
 | no=>rw [e] at a; exact hn a
noncomputable def vSl (f:Dn->Res wY) (lo hi:Dn->Res (Option Int)):Dn->Res wY:=fun δ=>(f δ).bind fun x=>(lo δ).bind fun l=>(hi δ).bind fun u=>ofO (aT x l u)
variable {lo hi:Option Expr} {fl fh:Dn->Res (Option Int)} {p2:Pos}
theorem Mq (he:DE X E e f) (hl:DO X E lo fl) (hu:DO X E hi fh):DE X E (.Subscript e (.Slice lo hi none p2) pos) (vSl f fl fh):=by
 refine PE.imp (Xc sl_D he hl hu) fun Z H Q hZ3=>?_;obtain ⟨G,δ,S,aft⟩:=hZ3;refine L3 S aft fun d v G1 H1 g1 r1 S1 a1=>?_;refine Jn (W:=fun G H r=>Aft E G H r Q) S1 a1 (fun g a=>Aft.grow g a) (fun c a=>a) (fun a=>a) fun l G2 H2 g2 S2 a2=>?_;refine Jn (W:=fun G H r=>Aft E G H r Q) S2 a2 (fun g a=>Aft.grow g a) (fun c a=>a) (fun a=>a) fun u G3 H3 g3 S3 a3=>?_;cases e:aT d l u with
 | none=>rw [e] at a3; exact a3.elim
 | some z=>rw [e] at a3; exact ⟨G3,d,z,S3.sub,r1.mono (g2.g.trans g3.g),e,a3⟩
end
end Sm
end
noncomputable section
namespace Sm
open PySem PySem.Spec PyProof.Rows L2
noncomputable section
variable {P:yD} {w:yR} {K:xF} {mg:Str->Option xB} {base:zN} {X:Cx} {N:List Str} {sc:Scope} {k:Nat} {df:Bool} {E:EK} {pos p:Pos} {a b c e:Expr} {es:List Expr} {f g:Dn->Res wY} {fs:Dn->Res (List wY)}
noncomputable def rCD (op:List wY->Option wY):List V->Hp->VK->Prop:=fun vs H Q=>∃ G ds d,Same G H/\RepL G ds vs/\op ds=some d/\∀ v G' H',Grow G H G' H'->Rep G' d v->Q v H'
noncomputable def vFn (fs:Dn->Res (List wY)) (op:List wY->Option wY):Dn->Res wY:=fun δ=>(fs δ).bind fun ds=>ofO (op ds)
theorem rP {op:List wY->Option wY} {Z:St} {H:Hp} {Q:VK} (h:tD E (vFn fs op) Z H Q):tCB (rCD op) (tA E fs) Z H Q:=by
 obtain ⟨G,δ,S,aft⟩:=h;refine Y6 (W:=fun G H r=>Aft E G H r Q) S aft (fun g a=>Aft.grow g a) (fun c a=>a) (fun a=>a) fun ds vs G1 H1 e g1 r1 S1 a1=>?_;cases e:op ds with
 | none=>rw [e] at a1; exact a1.elim
 | some d=>rw [e] at a1; exact ⟨G1,ds,d,S1.sub,r1,e,a1⟩
theorem Yq {x:Str} {id:String} {n:Nat} {op:List wY->Option wY} (C:Cxt P w K mg base X N sc k df) (hc:Y7 X (.builtin id) (rCD op)) (h:okGl sc x=true) (hm:mg x=none) (hv:CF x=some (.builtin id)) (ha:DA X E (e::es) n fs)
   (he:xO (e::es) X.env=(false,eval e X.env)::xO es X.env:=by rfl) (hpl:(i6 pos (xO es X.env)).any (·.1)=false:=by rfl):DE X E (.Call (.Name x p) (e::es) [] pos) (vFn fs op):=by
 obtain ⟨h1,h2,h3⟩:=okGl.gl C h;exact PE.imp (Jd hc h1 (by rw [C.hmg]; exact hm) hv ha.pa h3 h2 he hpl) fun _ _ _ q=>rP q
theorem Yo {x:Str} {T:String} {n:Nat} {op:List wY->Option wY} (C:Cxt P w K mg base X N sc k df) (hc:Y7 X (.type T) (rCD op)) (h:okGl sc x=true) (hm:mg x=none) (hv:CF x=some (.type T)) (ha:DA X E (e::es) n fs)
   (he:xO (e::es) X.env=(false,eval e X.env)::xO es X.env:=by rfl) (hpl:(i6 pos (xO es X.env)).any (·.1)=false:=by rfl):DE X E (.Call (.Name x p) (e::es) [] pos) (vFn fs op):=by
 obtain ⟨h1,h2,h3⟩:=okGl.gl C h;exact PE.imp (Da hc h1 (by rw [C.hmg]; exact hm) hv ha.pa h3 h2 he hpl) fun _ _ _ q=>rP q
theorem Qw {G:Hp} {d:wY} {vs:List V} (r:RepL G [d] vs):∃ v,vs=[v]/\Rep G d v:=by
 obtain ⟨x,t,rfl,h,l⟩:=r; cases (show _=_ from l); exact ⟨x,rfl,h⟩
theorem jI {G:Hp} {d d':wY} {vs:List V} (r:RepL G [d,d'] vs):∃ v v',vs=[v,v']/\Rep G d v/\Rep G d' v':=by
 obtain ⟨x,t,rfl,h,l⟩:=r;obtain ⟨y,rfl,h'⟩:=Qw l;exact ⟨x,y,rfl,h,h'⟩
noncomputable def T4:List wY->Option wY
 | [.list ds]=>some (.int ds.length)
 | [.tuple ds]=>some (.int ds.length)
 | [.str x]=>some (.int x.length)
 | _=>none
theorem aY:Y7 X (.builtin "len") (rCD T4):=by
 rintro pins s Z H xs us Q I r ⟨G,ds,d,hG,rl,e,q⟩;unfold T4 at e;split at e
 . rename_i ys
   cases e; obtain ⟨v,rfl,a,vs,rfl,h1,l1⟩:=Qw rl; exact Pp pins s Z H _ us Q I r ⟨_,ys.length,rfl,.inl ⟨vs,.inl (Rd.mono hG h1),l1.length⟩,q _ G H (Grow.refl hG) rfl⟩
 . rename_i ys
   cases e; obtain ⟨v,rfl,a,vs,rfl,h1,l1⟩:=Qw rl; exact Pp pins s Z H _ us Q I r ⟨_,ys.length,rfl,.inr ⟨vs,.inl (.inl (hG _ _ h1)),l1.length⟩,q _ G H (Grow.refl hG) rfl⟩
 . rename_i x
   cases e; obtain ⟨v,rfl,r1⟩:=Qw rl;cases r1.1;exact Pp pins s Z H _ us Q I r ⟨_,x.length,rfl,⟨r1.2.2,rfl⟩,q _ G H (Grow.refl hG) rfl⟩
 . cases e
theorem Bv {n:Nat} (C:Cxt P w K mg base X N sc k df) (h:okGl sc "len" = true) (hm:mg "len" = none) (ha:DA X E (e::es) n fs)
   (he:xO (e::es) X.env=(false,eval e X.env)::xO es X.env:=by rfl) (hpl:(i6 pos (xO es X.env)).any (·.1)=false:=by rfl):DE X E (.Call (.Name "len" p) (e::es) [] pos) (vFn fs T4) :=
 Yq C aY h hm PySem.boot_len ha he hpl
noncomputable def dW:List wY->Option (List Bool)
 | []=>some []
 | .bool b::ds=>(dW ds).map (b::·)
 | _::_=>none
noncomputable def dAll:List wY->Option wY
 | [.list ds]=>(dW ds).map fun bs=>.bool (bs.all id)
 | _=>none
noncomputable def dListF:List wY->Option wY
 | [.list ds]=>some (.list ds)
 | [.tuple ds]=>some (.list ds)
 | _=>none
noncomputable def Fo:List wY->Option wY
 | [.list ds]=>some (.tuple ds)
 | [.tuple ds]=>some (.tuple ds)
 | _=>none
noncomputable def gK:List wY->Option wY
 | [.int i,.int j]=>some (.int (if i < j then j else i))
 | _=>none
noncomputable def Sy:List wY->Option wY
 | [.int i]=>some (.int i)
 | [.bool b]=>some (.int (if b then 1 else 0))
 | _=>none
theorem aV:Y7 X (.type "tuple") (rCD Fo):=by
 rintro pins s Z H xs us Q I r ⟨G,ds,d,hG,rl,e,q⟩;unfold Fo at e;split at e
 . rename_i ys
   cases e; obtain ⟨v,rfl,a,vs,rfl,h1,l1⟩:=Qw rl; exact Gw pins s Z H _ us Q I r ⟨a,vs,rfl,.inl ⟨.inl (Rd.mono hG h1),fun l hl=>q _ (upd G l (.tup vs)) _ (Grow.new hG hl) ⟨l,vs,rfl,B8,l1.mono (Same.upd (hG.free hl))⟩⟩⟩
 . rename_i ys
   cases e; obtain ⟨v,rfl,a,vs,rfl,h1,l1⟩:=Qw rl; exact Gw pins s Z H _ us Q I r ⟨a,vs,rfl,.inr ⟨.inl (.inl (hG _ _ h1)),q _ G H (Grow.refl hG) ⟨a,vs,rfl,h1,l1⟩⟩⟩
 . cases e
theorem aX (hc:X.calm=true):Y7 X (.builtin "max") (rCD gK):=by
 rintro pins s Z H xs us Q I r ⟨G,ds,d,hG,rl,e,q⟩;unfold gK at e;split at e
 . rename_i i j
   cases e; obtain ⟨v,v',rfl,e1,e2⟩:=jI rl;cases (show _=_ from e1); cases (show _=_ from e2);refine gP hc pins s Z H _ us Q I r ⟨i,j,rfl,?_⟩; have:=q (.int (if i < j then j else i)) G H (Grow.refl hG) rfl;first | exact this | (simpa [max_def] using this) | trace_state
 . cases e
theorem aZ:Y7 X (.type "int") (rCD Sy):=by
 rintro pins s Z H xs us Q I r ⟨G,ds,d,hG,rl,e,q⟩;unfold Sy at e;split at e
 . rename_i i
   cases e; obtain ⟨v,rfl,e1⟩:=Qw rl;cases (show _=_ from e1);exact Tc pins s Z H _ us Q I r (.inl ⟨i,rfl,q _ G H (Grow.refl hG) rfl⟩)
 . rename_i b
   cases e; obtain ⟨v,rfl,e1⟩:=Qw rl;cases (show _=_ from e1);refine Tc pins s Z H _ us Q I r (.inr ⟨b,rfl,?_⟩); have:=q (.int (if b then 1 else 0)) G H (Grow.refl hG) rfl;cases b <;> exact this
 . cases e
theorem aS {n:Nat} (C:Cxt P w K mg base X N sc k df) (h:okGl sc "tuple" = true) (hm:mg "tuple" = none) (ha:DA X E (e::es) n fs)
   (he:xO (e::es) X.env=(false,eval e X.env)::xO es X.env:=by rfl) (hpl:(i6 pos (xO es X.env)).any (·.1)=false:=by rfl):DE X E (.Call (.Name "tuple" p) (e::es) [] pos) (vFn fs Fo) :=
 Yo C aV h hm (by decide +kernel) ha he hpl
theorem d_max {n:Nat} (C:Cxt P w K mg base X N sc k df) (h:okGl sc "max" = true) (hm:mg "max" = none) (ha:DA X E (e::es) n fs)
   (he:xO (e::es) X.env=(false,eval e X.env)::xO es X.env:=by rfl) (hpl:(i6 pos (xO es X.env)).any (·.1)=false:=by rfl):DE X E (.Call (.Name "max" p) (e::es) [] pos) (vFn fs gK) :=
 Yq C (aX C.calm) h hm (by decide +kernel) ha he hpl
theorem wI {n:Nat} (C:Cxt P w K mg base X N sc k df) (h:okGl sc "int" = true) (hm:mg "int" = none) (ha:DA X E (e::es) n fs)
   (he:xO (e::es) X.env=(false,eval e X.env)::xO es X.env:=by rfl) (hpl:(i6 pos (xO es X.env)).any (·.1)=false:=by rfl):DE X E (.Call (.Name "int" p) (e::es) [] pos) (vFn fs Sy) :=
 Yo C aZ h hm (by decide +kernel) ha he hpl
noncomputable def Dr:List wY->Option (List Str)
 | []=>some []
 | .str b::ds=>(Dr ds).map (b::·)
 | _::_=>none
noncomputable def Sx (x:Str):wY->Option wY
 | .list ds=>(Dr ds).bind fun ys=>if (ys.map (·.length)).sum+ys.length*x.length<=16777216/\yP (z9 x ys)=true/\(z9 x ys).length<=sizeLine then some (.str (z9 x ys)) else none
 | _=>none
theorem Vz {G:Hp}:∀ {ds:List wY} {xs:List V} {us:List xB} {ys:List Str},RepL G ds xs->Vals xs us->Dr ds=some ys->FT us ys
 | [],_,_,_,r,q,e=>by cases (show _=_ from r); cases q; cases e; exact .nil
 | .str b::ds,_,_,_,r,q,e=>by
   obtain ⟨x,t,rfl,h,l⟩:=r;cases h.1;cases q with
   | cons q qs =>
     obtain ⟨tk,rfl⟩:=q; obtain ⟨bs,e1,rfl⟩:=zM.mp e; exact .cons _ _ (Vz l qs e1)
 | .none::_,_,_,_,_,_,e=>by cases e
 | .int _::_,_,_,_,_,_,e=>by cases e
 | .bool _::_,_,_,_,_,_,e=>by cases e
 | .list _::_,_,_,_,_,_,e=>by cases e
 | .tuple _::_,_,_,_,_,_,e=>by cases e
 | .dict _::_,_,_,_,_,_,e=>by cases e
theorem pM:MtR X "str.join" (fun x vs H Q=>∃ G z v d r,Same G H/\x=.str z/\vs=[v]/\Rep G d v/\Sx z d=some (.str r)/\Q (.str r) H):=by
 rintro pins s Z H x vs v us Q I rx rv ⟨G,z,y,d,r,hG,e1,e2,rd,e,q⟩;subst e1 e2;obtain ⟨t,rfl⟩:=rx;obtain ⟨u,rfl,ru⟩:=rv.one;cases d with
 | list ds =>
   obtain ⟨ys,e3,e4⟩:=FG.mp e;split at e4
   . rename_i hc
     cases e4; obtain ⟨l,xs,rfl,h1,l1⟩:=rd; cases ru; obtain ⟨zz,its,n,rv2,e5⟩:=Ag I hG h1; refine join_list ⟨_,e5,rfl,n,rfl⟩ (by simpa using Vz l1 rv2 e3) hc.1 fun t' k=>⟨.str _,H,I.tok _,⟨t',?_⟩,q⟩;rw [w5 (join_plain_closes z ys)]
   . cases e4
 | _=>cases e
noncomputable def Rp (x:Str) (f:Dn->Res wY):Dn->Res wY:=fun δ=>(f δ).bind fun d=>ofO (Sx x d)
theorem gL {z:Str} {d d':wY} (e:Sx z d=some d'):∃ r,d'=.str r/\yP r=true/\r.length<=sizeLine:=by
 cases d with
 | list ds =>
   obtain ⟨ys,e3,e4⟩:=FG.mp e;split at e4
   . rename_i hc; cases e4; exact ⟨_,rfl,hc.2.1,hc.2.2⟩
   . cases e4
 | _=>cases e
theorem mB {z:Str} {j:Nat} {p1 apos cpos:Pos} (ha:DE X E a f) (hbase:AD (.Constant (.str z) j p1) "join" X.env (eval (.Constant (.str z) j p1) X.env)=eval (.Constant (.str z) j p1) X.env:=by rfl)
   (hfew:((i6 cpos (xO [a] X.env)).all (fun x => !x.1)&&(GI cpos (DG [] X.env)).all (fun x=>x.1.isSome)
     && decide ([a].length+([]:List BW).length+(if ([]:List BW).isEmpty then 0 else 1) < 30))=true:=by rfl)
   (hline:(apos.endLine==cpos.line)=true:=by rfl) (hs:xO [a] X.env=(false,eval a X.env)::xO [] X.env:=by rfl) (hplain:(i6 cpos (xO [] X.env)).any (·.1)=false:=by rfl) :
   DE X E (.Call (.Attribute (.Constant (.str z) j p1) "join" apos) [a] [] cpos) (Rp z f):=by
 refine PE.imp (Xd JW PySem.F.slot_str_join PySem.F.type_str_join pM jS (L7 ha R0 hs) hbase hfew hline hs hplain) fun Z H Q hY54=>?_;obtain ⟨G,δ,S,aft⟩:=hY54;refine ⟨rfl,?_⟩;refine L3 S aft fun d v G1 H1 g1 r1 S1 a1=>?_;cases e:Sx z d with
 | none=>rw [e] at a1; exact a1.elim
 | some d' =>
   obtain ⟨r,rfl,o1,o2⟩:=gL e; rw [e] at a1; exact ⟨G1,z,v,d,r,S1.sub,rfl,rfl,r1,e,a1 _ G1 H1 (Grow.refl S1.sub) ⟨rfl,o1,o2⟩⟩
def spD (n:Nat) (m:List wY->Res wY):Sp:=fun vs H Q _=>∃ G ds d,Same G H/\RepL G ds vs/\ds.length=n/\m ds=.ok d/\∀ v G' H',Grow G H G' H'->Rep G' d v->Q v H'
structure Fn (P:yD) (w:yR) (K:xF) (mg:Str->Option xB) (base:zN) (x:Str) (k n:Nat) (m:List wY->Res wY):Prop where
 ex:∃ f fd ps,ps.length=n/\FnOk P w K mg base CX0 k f fd ps (spD n m)/\mg x=some (.ref f)/\j4 K (.ref f)=true/\Binds K fd ps []
def E0k:EK:=fun _ _=>False
noncomputable def C1 (fs:Dn->Res (List wY)) (m:List wY->Res wY):Dn->Res wY:=fun δ=>(fs δ).bind m
theorem C8 {x:Str} {j n:Nat} {m:List wY->Res wY} (C:Cxt P w K mg base X N sc k df) (F:Fn P w K mg base x j n m) (hj:j<=k) (h:okGl sc x=true) (ha:DA X E0k (e::es) n fs)
   (he:xO (e::es) X.env=(false,eval e X.env)::xO es X.env:=by rfl) (hpl:(i6 pos (xO es X.env)).any (·.1)=false:=by rfl):DE X E0k (.Call (.Name x p) (e::es) [] pos) (C1 fs m):=by
 obtain ⟨f,fd,ps,hps,F,hm,hk,hb⟩:=F.ex;obtain ⟨h1,h2,h3⟩:=okGl.gl C h;have F':FnOk X.prog X.w X.K X.mg X.base CX0 j f fd ps (spD n m):=by rw [C.hP,C.hw,C.hK,C.hmg,C.hb]; exact F
 refine PE.imp (Mo F' (C.room.mono hj) h1 (by rw [C.hmg]; exact hm) (by rw [C.hK]; exact hk) (by rw [C.hK]; exact hb) .nil (cL (X:=X)) ha.pa h2 he hpl) fun Z H Q hY55=>?_;obtain ⟨G,δ,S,aft⟩:=hY55;refine Y6 (W:=fun G H r=>Aft E0k G H r Q) S aft (fun g a=>Aft.grow g a) (fun c a=>a) (fun a=>a) fun ds vs G1 H1 e g1 r1 S1 a1=>?_;rw [yL];cases q:m ds with
 | ok d=>rw [q] at a1; exact ⟨G1,ds,d,S1.sub,r1,ha.len δ ds e,q,a1⟩
 | exc c=>rw [q] at a1; exact (a1 G1 H1 (Grow.refl S1.sub)).elim
 | no=>rw [q] at a1; exact a1.elim
end
end Sm
end
noncomputable section
namespace Sm
open PySem PySem.Spec PyProof.Rows L2
def Its (z:Str):It:=⟨fun i _=>i < z.cps.size,fun i H x H'=>H'=H/\∃ c,z.cps[i]? = some c/\x=.str ⟨#[c]⟩,fun i _=>z.cps.size<=i⟩
theorem Zq {P:yD} {w:yR} {K:xF} {tg:Expr} (it:xI) (z:Str) (t:Tok):Turn P w K tg (Its z) [it] it (fun i h=>h.IsStrIter it "str_ascii_iterator" z t i) where
 mem:=by simp
 obj:=fun i h st b hb=>by
   have e:b=it:=by simpa using hb
   subst e; obtain ⟨o,e,c,d⟩:=st; exact ⟨o,e,fun v z=>by rw [d] at z; cases z⟩
 keep:=fun i h h' st k=>by
   obtain ⟨o,e,c,d⟩:=st; exact ⟨o,k it (by simp) o e,c,d⟩
 item:=by
   intro X hP hw hK hc i pins s Z H E I hf st hg; subst hP hw hK; obtain ⟨f0,f1,f2,f3,f4,f5⟩:=hf it (by simp);have hi:i < z.cps.size:=hg; refine wpAny_pyNext_ascii_item st (c:=z.cps[i]) (by simp [hi]) fun h' st' sb=>?_;have I1:Inv X pins Z H { s with heap:=h',toks:=s.toks+1 }:=I.turned (fun b o hb e=>(sb.2 b hb).trans e) f0 f1 f3 f4 f5;obtain ⟨o,e,c,d⟩:=id st'; exact ⟨_,rfl,Sr (s:={ s with heap:=h',toks:=s.toks+1 }) e c d (by decide) ⟨.str ⟨#[z.cps[i]]⟩,H,I1,⟨_,rfl⟩,⟨rfl,_,by simp [hi],rfl⟩,st',fun b hb=>(hf b hb).1⟩⟩
 done:=by
   intro X hP hw hK hc i pins s Z H E I hf st hg; subst hP hw hK; obtain ⟨f0,f1,f2,f3,f4,f5⟩:=hf it (by simp);have hi:z.cps.size<=i:=hg; exact wpAny_pyNext_ascii_end (I.ok.hd hc) st (by simpa using hi) fun h' eb=>⟨rfl,I.turned (t':=s.toks) (fun b o hb e=>eb b o hb e) f0 f1 f3 f4 f5⟩
 self:=fun _ _ _ _ _ st h=>wpAny_pyIter_striter_ascii st h
theorem eJ {P:yD} {w:yR} {K:xF} {tg:Expr} (it:xI) (z:Str) (t:Tok):Turn P w K tg (Its z) [it] it (fun i h=>h.IsStrIter it "str_iterator" z t i) where
 mem:=by simp
 obj:=fun i h st b hb=>by
   have e:b=it:=by simpa using hb
   subst e; obtain ⟨o,e,c,d⟩:=st; exact ⟨o,e,fun v z=>by rw [d] at z; cases z⟩
 keep:=fun i h h' st k=>by
   obtain ⟨o,e,c,d⟩:=st; exact ⟨o,k it (by simp) o e,c,d⟩
 item:=by
   intro X hP hw hK hc i pins s Z H E I hf st hg; subst hP hw hK; obtain ⟨f0,f1,f2,f3,f4,f5⟩:=hf it (by simp);have hi:i < z.cps.size:=hg; refine wpAny_pyNext_wide_item st (c:=z.cps[i]) (by simp [hi]) fun h' st' sb=>?_;have I1:Inv X pins Z H { s with heap:=h',toks:=s.toks+1 }:=I.turned (fun b o hb e=>(sb.2 b hb).trans e) f0 f1 f3 f4 f5;obtain ⟨o,e,c,d⟩:=id st'; exact ⟨_,rfl,Sr (s:={ s with heap:=h',toks:=s.toks+1 }) e c d (by decide) ⟨.str ⟨#[z.cps[i]]⟩,H,I1,⟨_,rfl⟩,⟨rfl,_,by simp [hi],rfl⟩,st',fun b hb=>(hf b hb).1⟩⟩
 done:=by
   intro X hP hw hK hc i pins s Z H E I hf st hg; subst hP hw hK; obtain ⟨f0,f1,f2,f3,f4,f5⟩:=hf it (by simp);have hi:z.cps.size<=i:=hg; exact wpAny_pyNext_wide_end (I.ok.hd hc) st (by simpa using hi) fun h' eb=>⟨rfl,I.turned (t':=s.toks) (fun b o hb e=>eb b o hb e) f0 f1 f3 f4 f5⟩
 self:=fun _ _ _ _ _ st h=>wpAny_pyIter_striter_wide st h
def Ite (K:xF) (a:xI):It :=
 ⟨fun i H=>∃ xs x,SqL K H a xs/\xs[i]? = some x,fun i H x H'=>∃ p y,H p=none/\x=.ref p/\H'=upd H p (.tup [.int i,y])/\∀ xs,SqL K H a xs->xs[i]? = some y,fun i H=>∃ xs,SqL K H a xs/\xs.length<=i⟩
theorem eL {P:yD} {w:yR} {K:xF} {elts:List Expr} {x1:Nat} {tp:Pos} (a e it:xI) (hne:e≠it):Turn P w K (.Tuple elts x1 tp) (Ite K a) [e,it] e (fun i h=>(∃ old,IsEnum h e it (i:Int) old)/\h.IsListIter it a i) where
 mem:=by simp
 obj:=fun i h st b hb=>by
   obtain ⟨⟨old,h1⟩,o,h2,c,d⟩:=st; rcases xD.mp hb with rfl | hb
   . exact ⟨_,h1,fun v z=>by cases z⟩
   . have e':b=it:=by simpa using hb
     subst e'; exact ⟨o,h2,fun v z=>by rw [d] at z; cases z⟩
 keep:=fun i h h' st k=>by
   obtain ⟨⟨old,h1⟩,o,h2,c,d⟩:=st; exact ⟨⟨old,k e (by simp) _ h1⟩,o,k it (by simp) o h2,c,d⟩
 item:=by
   intro X hP hw hK hc i pins s Z H E I hf st hg; subst hP hw hK; obtain ⟨⟨old,he⟩,st⟩:=st; obtain ⟨xs,x,hq,hx⟩:=hg; obtain ⟨its,rv,p,hz⟩:=I.list hq; obtain ⟨u,hu,ru⟩:=rv.get hx; obtain ⟨f0,f1,f2,f3,f4,f5⟩:=hf e (by simp);obtain ⟨g0,g1,g2,g3,g4,g5⟩:=hf it (by simp);refine wpAny_pyNext_enum_item he st p.isList (x:=u) (by simpa using hu) hne fun h' he' st' ht' hsz kp=>?_;refine ⟨_,rfl,wpAny_letOwnedTupleGo_enum he' fun h2 he2 sb=>?_⟩;have hfr:H s.heap.objs.size=none:=I.fresh; have elt:e < s.heap.objs.size:=xV he; have ilt:it < s.heap.objs.size:=by obtain ⟨o,h,_⟩:=st; exact xV h
   have kp2:∀ b o,b≠e->b≠it->s.heap.get? b=some o->h2.get? b=some o:=fun b o h1 h3 q=>(sb.2 b h1).trans (kp b o h1 h3 q);have I1:Inv X pins Z H { s with heap:=h2,toks:=s.toks+1 }:=by
     refine I.step (g':=s.gens) (d':=s.drawn) (ch:=[e,it]) (fun b hb=>?_) (fun b o _ _ hcb q _=>kp2 b o (fun z=>hcb (by simp [z])) (fun z=>hcb (by simp [z])) q) (fun b o _ _ hcb q _=>⟨o.slots,kp2 b o (fun z=>hcb (by simp [z])) (fun z=>hcb (by simp [z])) q⟩) (fun _ _ _ _ n=>n)
       (fun b o hcb q=>⟨o,kp2 b o (fun z=>hcb (by simp [z])) (fun z=>hcb (by simp [z])) q⟩) (fun _ _ q=>q) (fun _ _ _ q=>q) (fun b ps q=>⟨#[],by rw [q]; simp⟩) (fun m hm=>?_) (fun b u' q=>?_) I.bare
     . rcases xD.mp hb with rfl | hb
       . exact ⟨f3,f1,f4,f5⟩
       . have e':b=it:=by simpa using hb
         subst e'; exact ⟨g3,g1,g4,g5⟩
     . obtain ⟨o,es,ep,ho,r⟩:=hm
       exact ⟨o,es,ep,kp2 _ o (Ne.symm f1) (Ne.symm g1) ho,r⟩
     . refine (I.hok b u' q).stay (fun c v hcc q'=>kp2 c v ?_ ?_ q') (fun _ q'=>q') fun _ _ q'=>q'
       . rintro rfl
         rcases hcc with z | z
         . subst z; rw [f0] at q; cases q
         . rw [f0] at z; cases z
       . rintro rfl
         rcases hcc with z | z
         . subst z; rw [g0] at q; cases q
         . rw [g0] at z; cases z
   have htt:h2.get? s.heap.objs.size=some { cls:=.type "tuple",data:=.seq #[.int i s.toks,u] }:=(sb.2 _ (BC elt)).trans ht'; have Hold:∀ b o,H b=some o->b≠s.heap.objs.size:=fun b o q z=>by subst z; rw [hfr] at q; cases q
   have I2:Inv X pins Z (upd H s.heap.objs.size (.tup [.int i,x])) { s with heap:=h2,toks:=s.toks+1 }:=by
     have nb:∀ b o,b≠s.heap.objs.size->s.heap.get? b=some o->True:=fun _ _ _ _=>trivial;have base':Un X.fs X.ex X.H₀ (upd H s.heap.objs.size (.tup [.int i,x])) X.s₀.heap h2:=by
       have B:=I1.base; have ne0:∀ b o,X.s₀.heap.get? b=some o->b≠s.heap.objs.size:=fun b o q=>yN (yT (xV q) I.sz);exact ⟨B.keep,B.slot,fun b o q n hx=>by rw [C0 (ne0 b o q)]; exact B.free b o q n hx,B.there,
         fun b ys q=>by rw [C0 (Hold b _ (B.tups b ys q))]; exact B.tups b ys q,fun b o' u' q=>by rw [C0 (Hold b _ (B.frzs b o' u' q))]; exact B.frzs b o' u' q,
         fun b ps q=>by obtain ⟨m,q'⟩:=B.tbls b ps q; exact ⟨m,by rw [C0 (Hold b _ q')]; exact q'⟩⟩
     have hok':HOk X.prog X.w (upd H s.heap.objs.size (.tup [.int i,x])) h2:=fun b o q=>by
       by_cases hb:b=s.heap.objs.size
       . subst hb
         rw [B8] at q; cases q; refine ⟨by show 2<=sizeLine; decide,[.int i s.toks,u],.cons ⟨_,rfl⟩ (.cons ru .nil),⟨_,htt,rfl,0,rfl⟩⟩
       . rw [C0 hb] at q
         exact (I1.hok b o q).stay (fun _ _ _ q'=>q') (fun c q'=>by rw [C0 (Hold c _ q')]; exact q') fun c ys q'=>by rw [C0 (Hold c _ q')]; exact q'
     refine ⟨I1.ok,I1.os,I1.bare,base',I1.loc,I1.cell,?_,fun y c q=>?_,fun p hp=>?_,hok',I1.len⟩
     . rw [C0 (yN I.lt)]; exact I1.free
     . obtain ⟨v,oc,hoc,_⟩:=I.cell y c q
       rw [C0 (yN (xV hoc))]; exact I1.freeC y c q
     . obtain ⟨q1,q2,q3,q4,q5⟩:=I1.pin p hp
       refine ⟨q1,?_,q3,q4,q5⟩; rw [C0 (yN (xV (I.pin p hp).1))]; exact q2
   refine ⟨.ref s.heap.objs.size,_,I2,rfl,⟨_,x,hfr,rfl,rfl,fun ys hy=>by rw [I.list_inj hy hq]; exact hx⟩,⟨⟨_,by push_cast; exact he2⟩,?_⟩,fun b hb=>?_⟩
   . obtain ⟨o,q,c,d⟩:=st'
     exact ⟨o,(sb.2 it (Ne.symm hne)).trans q,c,d⟩
   . rcases xD.mp hb with rfl | hb
     . rw [C0 (yN elt)]; exact f0
     . have e':b=it:=by simpa using hb
       subst e'; rw [C0 (yN ilt)]; exact g0
 done:=by
   intro X hP hw hK hc i pins s Z H E I hf st hg; subst hP hw hK; obtain ⟨⟨old,he⟩,st⟩:=st; obtain ⟨xs,hq,hx⟩:=hg; obtain ⟨its,rv,p,hz⟩:=I.list hq; obtain ⟨g0,g1,g2,g3,g4,g5⟩:=hf it (by simp);have hl:=rv.length; exact wpAny_pyNext_enum_end (I.ok.hd hc) he st p.isList (by simp; lia) fun h' eb=>⟨rfl,I.turned (t':=s.toks) (fun b o hb e=>eb b o hb e) g0 g1 g3 g4 g5⟩
 self:=fun _ _ _ _ _ st h=>by
   obtain ⟨⟨old,he⟩,_⟩:=st; exact wpAny_pyIter_enum he h
end Sm
end
noncomputable section
namespace Sm
open PySem PySem.Spec PyProof.Rows L2
structure Walk (J:It) (G:Hp) (ds:List wY):Prop where
 go:∀ (i:Nat) (H:Hp),i < ds.length->Same G H->J.go i H
 yld:∀ (i:Nat) (d:wY) (G2 H:Hp) (x:V) (H':Hp),ds[i]? = some d->Same G G2->Same G2 H->J.yld i H x H'->∃ G3,Grow G2 H G3 H'/\Rep G3 d x
 stop:∀ (i:Nat) (H:Hp),ds.length<=i->Same G H->J.stop i H
def AftI (E:EK) (G H:Hp) (r:Res (List wY)) (R:It->Hp->Prop):Prop:=match r with
 | .ok ds=>∀ J G' H',Grow G H G' H'->Walk J G' ds->R J H'
 | .exc c=>∀ G' H',Grow G H G' H'->E c H'
 | .no=>False
def tI (E:EK) (f:Dn->Res (List wY)):TI:=fun Z H R=>∃ G δ,SR G H Z δ/\AftI E G H (f δ) R
abbrev DI (X:Cx) (E:EK) (tg e:Expr) (f:Dn->Res (List wY)):Prop:=PI X tg e (tI E f)
theorem AftI.grow {E:EK} {G H G' H':Hp} {r:Res (List wY)} {Q:It->Hp->Prop} (g:Grow G H G' H') (a:AftI E G H r Q):AftI E G' H' r Q:=by
 cases r with
 | ok d=>exact fun v G2 H2 g2 q=>a v G2 H2 (g.trans g2) q
 | exc c=>exact fun G2 H2 g2=>a G2 H2 (g.trans g2)
 | no=>exact a
theorem PI.imp {X:Cx} {tg e:Expr} {t t':TI} (h:PI X tg e t) (i:∀ Z H Q,t' Z H Q->t Z H Q):PI X tg e t':=fun pins s Z H Q I q=>h pins s Z H Q I (i _ _ _ q)
noncomputable def Tx (x:Str):List wY:=x.cps.toList.map fun c=>.str ⟨#[c]⟩
noncomputable def D9:wY->Res (List wY)
 | .list ds=>.ok ds
 | .tuple ds=>.ok ds
 | .str x=>.ok (Tx x)
 | _=>.no
theorem eF {K:xF} {G:Hp} {a:xI} {xs:List V} {ds:List wY} (h:Rd G a (.lst xs)) (l:RepL G ds xs):Walk (Itl K a) G ds where
 go:=fun i H hi hG=>by
   have hi':i < xs.length:=by rw [<- l.length]; exact hi
   exact ⟨xs,xs[i],.inl (Rd.mono hG h),by simp [hi']⟩
 yld:=fun i d G2 H x H' e h1 h2 hy=>by
   obtain ⟨rfl,hy⟩:=hy; obtain ⟨y,e1,r⟩:=l.get e; have:=hy xs (.inl (Rd.mono (h1.trans h2) h)); rw [e1] at this; cases this; exact ⟨G2,Grow.refl h2,r.mono h1⟩
 stop:=fun i H hi hG=>⟨xs,.inl (Rd.mono hG h),by rw [<- l.length]; exact hi⟩
theorem gX {K:xF} {G:Hp} {a:xI} {xs:List V} {ds:List wY} (h:G a=some (.tup xs)) (l:RepL G ds xs):Walk (Itt K a) G ds where
 go:=fun i H hi hG=>by
   have hi':i < xs.length:=by rw [<- l.length]; exact hi
   exact ⟨xs,xs[i],.inl (.inl (hG _ _ h)),by simp [hi']⟩
 yld:=fun i d G2 H x H' e h1 h2 hy=>by
   obtain ⟨rfl,hy⟩:=hy; obtain ⟨y,e1,r⟩:=l.get e; have:=hy xs (.inl (.inl (h2 _ _ (h1 _ _ h)))); rw [e1] at this; cases this; exact ⟨G2,Grow.refl h2,r.mono h1⟩
 stop:=fun i H hi hG=>⟨xs,.inl (.inl (hG _ _ h)),by rw [<- l.length]; exact hi⟩
theorem Vq {G:Hp} {z:Str} (ho:yP z=true):Walk (Its z) G (Tx z) where
 go:=fun i H hi hG=>by
   show i < z.cps.size;simpa [Tx] using hi
 yld:=fun i d G2 H x H' e h1 h2 hy=>by
   obtain ⟨rfl,c,hc,rfl⟩:=hy; have e':(z.cps.toList.map fun c=>zU ⟨#[c]⟩)[i]? = some d:=e;rw [yM,BF,hc] at e';cases e'; refine ⟨G2,Grow.refl h2,rfl,?_,by show 1<=sizeLine; decide⟩;unfold yP at ho ⊢;rw [<- IF,j9] at ho; have:=ho c (by rw [<- BF] at hc; exact n5 hc);simpa using this
 stop:=fun i H hi hG=>by
   show z.cps.size<=i;simpa [Tx] using hi
theorem Zk {G:Hp} (lo:Int) (n:Nat):Walk (Itr lo n) G ((zF n).map fun (i:Nat)=>k8 (lo+i)) where
 go:=fun i H hi hG=>by
   show i < n;simpa using hi
 yld:=fun i d G2 H x H' e h1 h2 hy=>by
   obtain ⟨rfl,rfl⟩:=hy; rw [yM] at e;by_cases hi:i < n
   . rw [List.getElem?_range hi] at e; cases e; exact ⟨G2,Grow.refl h2,rfl⟩
   . rw [i8 (by simpa using hi)] at e; cases e
 stop:=fun i H hi hG=>by
   show n<=i;simpa using hi
noncomputable def En (ds:List wY):List wY:=ds.mapIdx fun i d=>.tuple [.int i,d]
theorem eG {K:xF} {G:Hp} {a:xI} {xs:List V} {ds:List wY} (h:Rd G a (.lst xs)) (l:RepL G ds xs):Walk (Ite K a) G (En ds) where
 go:=fun i H hi hG=>by
   have hi':i < xs.length:=by rw [<- l.length]; simpa [En] using hi
   exact ⟨xs,xs[i],.inl (Rd.mono hG h),by simp [hi']⟩
 yld:=fun i d G2 H x H' e h1 h2 hy=>by
   obtain ⟨p,y,hp,rfl,rfl,hy⟩:=hy; unfold En at e; rw [MC] at e; obtain ⟨d0,e0,rfl⟩:=zM.mp e; obtain ⟨y',e1,r⟩:=l.get e0; have:=hy xs (.inl (Rd.mono (h1.trans h2) h)); rw [e1] at this; cases this; refine ⟨upd G2 p (.tup [.int i,y]),Grow.new h2 hp,p,_,rfl,B8,RepL.cons rfl (RepL.cons (r.mono (h1.trans (Same.upd (h2.free hp)))) rfl)⟩
 stop:=fun i H hi hG=>⟨xs,.inl (Rd.mono hG h),by rw [<- l.length]; simpa [En] using hi⟩
noncomputable section
variable {P:yD} {w:yR} {K:xF} {mg:Str->Option xB} {base:zN} {X:Cx} {N:List Str} {sc:Scope} {k:Nat} {df:Bool} {E:EK} {pos p:Pos} {tg a b c e:Expr} {f g:Dn->Res wY} {fs src:Dn->Res (List wY)}
theorem L4 (ha:DE X E a f):DI X E tg a (fun δ=>(f δ).bind D9):=by
 rintro pins s Z H R I ⟨G,δ,S,aft⟩;have h:=Mv (R:=fun v H1=>∃ G1 d,Same G1 H1/\Rep G1 d v/\AftI E G1 H1 (D9 d) R) (W:=fun G H r=>AftI E G H r R) S aft (fun g a=>AftI.grow g a) (fun c a=>a) (fun a=>a) fun d v G1 H1 g1 r1 S1 a1=>⟨G1,d,S1.sub,r1,a1⟩;refine thn (ha pins s Z H _ I h) fun v s1 hZ2=>?_;obtain ⟨x,H1,I1,rx,G1,d,hG,rd,a1⟩:=hZ2;cases d with
 | list ds =>
   obtain ⟨p,xs,rfl,h1,l1⟩:=rd; cases rx; obtain ⟨zz,its,n,rv,e1⟩:=Ag I1 hG h1; refine IY ⟨_,e1,rfl,n,rfl⟩ ?_; refine ⟨s1.heap.objs.size,[s1.heap.objs.size],_,_,H1,rfl,I1.kept (t':=s1.toks) fun b o e=>xE _ e,eK p _,⟨_,xQ _ rfl,rfl,rfl⟩,fun b hb=>?_,a1 _ G1 H1 (Grow.refl hG) (eF h1 l1)⟩;have e:b=s1.heap.objs.size:=by simpa using hb
   subst e; exact I1.fpOk (xL _) I1.fresh
 | tuple ds =>
   obtain ⟨p,xs,rfl,h1,l1⟩:=rd; cases rx; obtain ⟨zz,its,rv,pt⟩:=Ki I1 hG h1; refine wpAny_pyIter_tuple (show s1.heap.IsTuple p its.toArray from pt) ?_;refine ⟨s1.heap.objs.size,[s1.heap.objs.size],_,_,H1,rfl,I1.kept (t':=s1.toks) fun b o e=>xE _ e,Zo p _,⟨_,xQ _ rfl,rfl,rfl⟩,fun b hb=>?_,a1 _ G1 H1 (Grow.refl hG) (gX h1 l1)⟩;have e:b=s1.heap.objs.size:=by simpa using hb
   subst e; exact I1.fpOk (xL _) I1.fresh
 | str z =>
   obtain ⟨e0,o1,l1⟩:=rd; subst e0; obtain ⟨t,rfl⟩:=rx;cases ha:z.cps.all (· < 128)
   . refine wpAny_pyIter_wide ha ?_
     refine ⟨s1.heap.objs.size,[s1.heap.objs.size],_,_,H1,rfl,I1.kept (t':=s1.toks) fun b o e=>xE _ e,eJ _ z t,⟨_,xQ _ rfl,rfl,rfl⟩,fun b hb=>?_,a1 _ G1 H1 (Grow.refl hG) (Vq o1)⟩;have e:b=s1.heap.objs.size:=by simpa using hb
     subst e; exact I1.fpOk (xL _) I1.fresh
   . refine wpAny_pyIter_ascii ha ?_
     refine ⟨s1.heap.objs.size,[s1.heap.objs.size],_,_,H1,rfl,I1.kept (t':=s1.toks) fun b o e=>xE _ e,Zq _ z t,⟨_,xQ _ rfl,rfl,rfl⟩,fun b hb=>?_,a1 _ G1 H1 (Grow.refl hG) (Vq o1)⟩;have e:b=s1.heap.objs.size:=by simpa using hb
     subst e; exact I1.fpOk (xL _) I1.fresh
 | _=>exact (show False from a1).elim
noncomputable def Cy (lo hi:Int):List wY:=(zF (hi - lo).toNat).map fun (i:Nat)=>k8 (lo+i)
noncomputable def Kh:List wY->Res (List wY)
 | [.int j]=>if -(2 ^ 62)<=j/\j < 2 ^ 62 then .ok (Cy 0 j) else .no
 | _=>.no
theorem Jg {n:Nat} (C:Cxt P w K mg base X N sc k df) (h:okGl sc "range" = true) (hm:mg "range" = none) (ha:DA X E [a] n fs) (hs:xO [a] X.env=[(false,eval a X.env)]:=by rfl) :
   DI X E tg (.Call (.Name "range" p) [a] [] pos) (fun δ=>(fs δ).bind Kh):=by
 refine PI.imp (fB (okGl.gl C h).1 (by rw [C.hmg]; exact hm) ha.pa hs) fun Z H Q hY56=>?_;obtain ⟨G,δ,S,aft⟩:=hY56;refine Y6 (W:=fun G H r=>AftI E G H r Q) S aft (fun g a=>AftI.grow g a) (fun c a=>a) (fun a=>a) fun ds vs G1 H1 e g1 r1 S1 a1=>?_;unfold Kh at a1;split at a1
 . rename_i j
   split at a1
   . rename_i hc
     obtain ⟨v,rfl,e1⟩:=Qw r1;cases (show _=_ from e1);refine ⟨j,rfl,hc.1,hc.2,a1 _ G1 H1 (Grow.refl S1.sub) ?_⟩; have:=Zk (G:=G1) 0 j.toNat; unfold Cy; rw [Int.sub_zero]; exact this
   . exact a1.elim
 . exact a1.elim
noncomputable def Ji:List wY->Res (List wY)
 | [.list ds]=>.ok (En ds)
 | _=>.no
theorem lL {n x1:Nat} {elts:List Expr} {tp:Pos} (C:Cxt P w K mg base X N sc k df) (h:okGl sc "enumerate" = true) (hm:mg "enumerate" = none) (ha:DA X E [a] n fs) (he:xO [a] X.env=(false,eval a X.env)::xO [] X.env:=by rfl) (hpl:(i6 pos (xO [] X.env)).any (·.1)=false:=by rfl) :
   DI X E (.Tuple elts x1 tp) (.Call (.Name "enumerate" p) [a] [] pos) (fun δ=>(fs δ).bind Ji):=by
 rintro pins s Z H R I ⟨G,δ,S,aft⟩;obtain ⟨h1,h2,h3⟩:=okGl.gl C h;have hh:=Y6 (R:=fun vs H1=>∃ G1 ds,Same G1 H1/\RepL G1 ds vs/\AftI E G1 H1 (Ji ds) R) (W:=fun G H r=>AftI E G H r R) S aft (fun g a=>AftI.grow g a) (fun c a=>a) (fun a=>a) fun ds vs G1 H1 e g1 r1 S1 a1=>⟨G1,ds,S1.sub,r1,a1⟩;refine CW (Pe I h1 (by rw [C.hmg]; exact hm) boot_enumerate ?_ h3 h2);refine AS (thn (ha.pa pos pins s Z H _ I hh) fun us s1 hY58=>?_) he hpl;obtain ⟨vs,H1,I1,rv,G1,ds,hG,rl,a1⟩:=hY58;unfold Ji at a1;split at a1
 . rename_i ys
   obtain ⟨v,rfl,l,xs,rfl,q1,l1⟩:=Qw rl; obtain ⟨u,rfl,ru⟩:=Vr rv; cases ru; obtain ⟨zz,its,nn,rw',e1⟩:=Ag I1 hG q1; refine call_enumerate_list ⟨_,e1,rfl,nn,rfl⟩ fun h' he' hit hsz kp=>?_;have I2:Inv X pins Z H1 { s1 with heap:=h' }:=I1.kept (t':=s1.toks) kp; refine wpAny_pyIter_enum he' ?_; refine ⟨s1.heap.objs.size+1,[s1.heap.objs.size+1,s1.heap.objs.size],_,_,H1,rfl,I2,eL l _ _ (BC (DX _)),⟨⟨_,he'⟩,hit⟩,fun b hb=>?_,a1 _ G1 H1 (Grow.refl hG) (eG q1 l1)⟩;rcases xD.mp hb with rfl | hb
   . exact I1.fpOk (BS _) (I1.hok.fresh (BS _))
   . have e:b=s1.heap.objs.size:=by simpa using hb
     subst e; exact I1.fpOk (xL _) I1.fresh
 . exact a1.elim
noncomputable def E3 (d:wY):Res (List Sl):=.ok [.sh d]
noncomputable def Lq:wY->Res (List Sl)
 | .tuple [a,b]=>.ok [.sh a,.sh b]
 | _=>.no
noncomputable def D7 (bnd:wY->Res (List Sl)) (δc:Dn) (tt:Dn->Res Bool) (el:Dn->Res wY):List wY->Res (List wY)
 | []=>.ok []
 | d::ds=>match bnd d with
   | .ok sl=>match tt (sl++δc) with
     | .ok true=>match el (sl++δc) with
       | .ok y=>match D7 bnd δc tt el ds with
         | .ok r=>.ok (y::r)
         | _=>.no
       | _=>.no
     | .ok false=>D7 bnd δc tt el ds
     | _=>.no
   | _=>.no
noncomputable def Di (δ:Dn) (cap:List Nat):Dn:=cap.map fun j=>δ[j]?.getD .un
noncomputable def F5 (src:Dn->Res (List wY)) (bnd:wY->Res (List Sl)) (cap:List Nat) (tt:Dn->Res Bool) (el:Dn->Res wY):Dn->Res (List wY):=fun δ=>(src δ).bind fun ds=>if ds.length<=sizeLine then D7 bnd (Di δ cap) tt el ds else .no
def GOk (g:TG) (m:Nat) (bnd:wY->Res (List Sl)):Prop:=∀ (G H:Hp) (d:wY) (x:V) (sl:List Sl) (τ:St) (Q:St->Hp->Prop),Same G H->Rep G d x->bnd d=.ok sl->(∀ vs:List V,vs.length=m->sl.length=m->(∀ (i:Nat) s,sl[i]? = some s->SlOk G H (vs[i]?) s/\∃ d,s=.sh d)->Q (vs.map some++τ) H)->g x (yB m none++τ) H Q
theorem wA:GOk (V5 0) 1 E3:=by
 intro G H d x sl τ Q hG r e h;cases e;exact h [x] rfl rfl fun i s hs=>by
   cases i with
   | zero=>cases hs; exact ⟨⟨x,rfl,r⟩,d,rfl⟩
   | succ i=>simp at hs
theorem gok2:GOk (lQ K 2 (Gs (V5 0) (Gs (V5 1) lR))) 2 Lq:=by
 intro G H d x sl τ Q hG r e h;cases d with
 | tuple ds =>
   match ds,e with
   | [a,b],e =>
     cases e; obtain ⟨p,xs,rfl,h1,l1⟩:=r; obtain ⟨v,v',rfl,r1,r2⟩:=jI l1; refine ⟨p,_,rfl,.inl (.inl (hG _ _ h1)),rfl,v,[v'],rfl,v',[],rfl,rfl,?_⟩; exact h [v,v'] rfl rfl fun i s hs=>by
       match i with
       | 0=>cases hs; exact ⟨⟨v,rfl,r1⟩,a,rfl⟩
       | 1=>cases hs; exact ⟨⟨v',rfl,r2⟩,b,rfl⟩
       | i+2=>simp at hs
 | _=>cases e
theorem SR.cap {G H:Hp} {Z:St} {δ:Dn} (S:SR G H Z δ) (cap:List Nat) (hnd:cap.Nodup) {vs:List V} {sl:List Sl} (hv:vs.length=sl.length) (h:∀ (i:Nat) s,sl[i]? = some s->SlOk G H (vs[i]?) s/\∃ d,s=.sh d):SR G H (vs.map some++Es Z cap) (sl++Di δ cap):=by
 have hlt:∀ i,i < sl.length->(vs.map some++Es Z cap)[i]? = (vs[i]?).map some:=fun i hi=>by
   rw [yZ (by rw [xG,hv]; exact hi),yM]
 have hge:∀ i,¬ i < sl.length->(vs.map some++Es Z cap)[i]? = (cap[i - sl.length]?).map fun j=>Z[j]?.join:=fun i hi=>by
   rw [zH (by rw [xG,hv]; lia)];unfold Es; rw [yM,xG,hv]
 have hd:∀ i,¬ i < sl.length->(sl++Di δ cap)[i]? = (cap[i - sl.length]?).map fun j=>δ[j]?.getD .un:=fun i hi=>by
   rw [zH (by lia)]; unfold Di; rw [yM]
 refine ⟨S.sub,by simp [hv,Es,Di],fun i s e=>?_,fun i j a d d' ei ej hi hj=>?_⟩
 . by_cases hi:i < sl.length
   . rw [yZ hi] at e
     rw [hlt i hi]; have:=(h i s e).1;cases q:vs[i]? with
     | none=>rw [q] at this; exact this
     | some v=>rw [q] at this; exact this
   . rw [hd i hi] at e
     rw [hge i hi];cases q:cap[i - sl.length]? with
     | none=>rw [q] at e; cases e
     | some j =>
       rw [q] at e; simp only [EC,KF] at e; subst e; show SlOk G H (some (Z[j]?.join)).join _;cases q2:δ[j]? with
       | none=>trivial
       | some s=>exact S.sl j s q2
 . have key : ∀ i d, (sl ++ Di δ cap)[i]? = some (.ow d) -> ¬ i < sl.length /\ ∃ j, cap[i - sl.length]? = some j /\ δ[j]? = some (.ow d) := fun i d e => by
     have hi:¬ i < sl.length:=fun hi=>by
       rw [yZ hi] at e; obtain ⟨_,d',z⟩:=h i _ e; cases z
     refine ⟨hi,?_⟩; rw [hd i hi] at e;cases q:cap[i - sl.length]? with
     | none=>rw [q] at e; cases e
     | some j =>
       rw [q] at e; simp only [EC,KF] at e; refine ⟨j,rfl,?_⟩;cases q2:δ[j]? with
       | none=>rw [q2] at e; cases e
       | some s=>rw [q2] at e; cases e; rfl
   obtain ⟨n1,j1,c1,o1⟩:=key i d ei; obtain ⟨n2,j2,c2,o2⟩:=key j d' ej; rw [hge i n1,c1] at hi; rw [hge j n2,c2] at hj; have hi':Z[j1]?.join=some (.ref a):=hi; have hj':Z[j2]?.join=some (.ref a):=hj; have:=S.ap j1 j2 a d d' o1 o2 hi' hj'; subst this; have:=(List.getElem?_inj (yJ.mp c1).1 hnd).mp (c1.trans c2.symm);lia
theorem kY (xs:List Str):xs.map (fun _=>(none:Option V))=yB xs.length none:=by
 induction xs with
 | nil=>rfl
 | cons a t ih=>rw [xJ,ih]; rfl
theorem Mn {xs:List Str} {cap:List Nat} {g:TG} {m:Nat} {bnd:wY->Res (List Sl)} {tt:Dn->Res Bool} {el:Dn->Res wY} (hx:xs.length=m) (hnd:cap.Nodup) (hg:GOk g m bnd) {Z:St} {H:Hp} {Q:VK} (h:tF E (F5 src bnd cap tt el) Z H Q) :
   bP (tI E src) (fun Z=>xs.map (fun _=>none)++Es Z cap) g (tT E0k tt) (tD E0k el) Z H Q:=by
 obtain ⟨G,δ,S,aft⟩:=h;refine ⟨G,δ,S,?_⟩;unfold F5 at aft;cases e:src δ with
 | exc c=>rw [e] at aft; exact aft
 | no=>rw [e] at aft; exact aft
 | ok ds =>
   rw [e] at aft; intro J G1 H1 g1 W D hD; have aft1:mW E G H (if ds.length<=sizeLine then D7 bnd (Di δ cap) tt el ds else .no) Q:=aft;by_cases hz:ds.length<=sizeLine
   . rw [if_pos hz] at aft1
     have S1:=S.grow g1; have hmap:xs.map (fun _=>(none:Option V))=yB m none:=by rw [<- hx]; exact kY xs
     refine ⟨fun i n H'=>n=ds.length - i/\i<=ds.length/\∃ G' acc yd,Grow G1 H1 G' H'/\G' D=none/\H' D=some (.lst acc)/\RepL G' yd acc/\yd.length<=i /\
       mW E G H (match D7 bnd (Di δ cap) tt el (ds.drop i) with | .ok r=>.ok (yd++r) | _=>.no) Q,⟨_,rfl,c7 _,G1,[],[],Grow.own g1.gh hD,g1.gh.free hD,B8,rfl,xL _,?_⟩,?_⟩
     . rw [ES]
       cases q:D7 bnd (Di δ cap) tt el ds with
       | ok r=>rw [q] at aft1; exact aft1
       | exc c =>
         exfalso;have:∀ l c,D7 bnd (Di δ cap) tt el l≠.exc c:=by
           intro l c;induction l with
           | nil=>intro z; cases z
           | cons d l ih =>
             unfold D7; intro z;split at z
             . split at z
               . split at z
                 . split at z <;> cases z
                 . cases z
               . exact ih z
               . cases z
             . cases z
         exact this ds c q
       | no=>rw [q] at aft1; exact aft1
     . rintro i n H' ⟨rfl,hi,G',acc,yd,g2,nD,hDa,ry,hyl,aft2⟩
       by_cases hlt:i < ds.length
       . refine .inr ⟨W.go i H' hlt (g2.g.trans g2.gh), fun H'' => ∃ n', n' < ds.length - i /\ (n' = ds.length - (i + 1) /\ i + 1 <= ds.length /\ ∃ G' acc yd, Grow G1 H1 G' H'' /\ G' D = none /\ H'' D = some (.lst acc) /\ RepL G' yd acc /\ yd.length <= i + 1 /\
           mW E G H (match D7 bnd (Di δ cap) tt el (ds.drop (i+1)) with | .ok r=>.ok (yd++r) | _=>.no) Q),fun H'' q=>?_,fun x H'' hy=>?_⟩
         . obtain ⟨n',h1,h2⟩:=q
           exact ⟨n',h1,h2⟩
         . have hd:ds[i]? = some ds[i]:=yU hlt
           have hdrop:ds.drop i=ds[i]::ds.drop (i+1):=p4 hlt; obtain ⟨G3,g3,r3⟩:=W.yld i _ G' H' x H'' hd g2.g g2.gh hy; have g13:=g2.trans g3; have nD3:G3 D=none:=by
             cases q:G3 D with
             | none=>rfl
             | some u => rcases g3.fr D u q with z | z | ⟨xs, rfl⟩
                         . rw [nD] at z; cases z
                         . rw [hDa] at z; cases z
                         . have:=g3.gh _ _ q; rw [g3.h _ _ hDa] at this; cases this
           rw [hdrop] at aft2; unfold D7 at aft2; rw [hmap];cases eb:bnd ds[i] with
           | exc c=>rw [eb] at aft2; exact aft2.elim
           | no=>rw [eb] at aft2; exact aft2.elim
           | ok sl =>
             rw [eb] at aft2; refine hg G3 H'' _ x sl _ _ g3.gh r3 eb fun vs hv hs hsl=>⟨⟨by rw [xN,xN,BI,xG,hv],fun j v z=>?_⟩,?_⟩
             . by_cases hj:j < m
               . rw [yZ (by rw [BI]; exact hj),v5] at z
                 split at z <;> cases z
               . rw [zH (by rw [BI]; exact n0.mp hj),BI] at z
                 rw [zH (by rw [xG,hv]; exact n0.mp hj),xG,hv];exact z
             . have Sb:SR G3 H'' (vs.map some++Es Z cap) (sl++Di δ cap):=(S1.grow g13).cap cap hnd (hv.trans hs.symm) hsl
               refine ⟨G3,_,Sb,?_⟩; simp only at aft2;cases et:tt (sl++Di δ cap) with
               | exc c=>rw [et] at aft2; exact aft2.elim
               | no=>rw [et] at aft2; exact aft2.elim
               | ok kk =>
                 rw [et] at aft2; intro G4 H4 g4; have nD4:G4 D=none:=by
                   cases q:G4 D with
                   | none=>rfl
                   | some u => rcases g4.fr D u q with z | z | ⟨xs, rfl⟩
                               . rw [nD3] at z; cases z
                               . rw [g3.h _ _ hDa] at z; cases z
                               . have:=g4.gh _ _ q; rw [g4.h _ _ (g3.h _ _ hDa)] at this; cases this
                 have hD4:H4 D=some (.lst acc):=g4.h _ _ (g3.h _ _ hDa);cases kk with
                 | false =>
                   rw [if_neg (by decide)]; exact ⟨_,by lia,rfl,hlt,G4,acc,yd,g13.trans g4,nD4,hD4,ry.mono (g3.g.trans g4.g),by lia,aft2⟩
                 | true =>
                   rw [if_pos rfl]; refine ⟨G4,_,Sb.grow g4,?_⟩; simp only at aft2;cases ee:el (sl++Di δ cap) with
                   | exc c=>rw [ee] at aft2; exact aft2.elim
                   | no=>rw [ee] at aft2; exact aft2.elim
                   | ok y =>
                     rw [ee] at aft2; intro v G5 H5 g5 r5; have nD5:G5 D=none:=by
                       cases q:G5 D with
                       | none=>rfl
                       | some u => rcases g5.fr D u q with z | z | ⟨xs, rfl⟩
                                   . rw [nD4] at z; cases z
                                   . rw [hD4] at z; cases z
                                   . have:=g5.gh _ _ q; rw [g5.h _ _ hD4] at this; cases this
                     have hD5:H5 D=some (.lst acc):=g5.h _ _ hD4; have hal:acc.length<=i:=by rw [<- ry.length]; exact hyl
                     refine ⟨acc,hD5,by lia,_,by lia,rfl,hlt,G5,acc++[v],yd++[y],?_,nD5,B8,?_,by rw [xN,GD]; lia,?_⟩
                     . have g15:=(g13.trans g4).trans g5
                       refine ⟨g15.g,fun b o q=>?_,fun b o q=>?_,g15.fr⟩
                       . rw [C0 (D8 q hD)]; exact g15.h _ _ q
                       . rw [C0 (D8 q nD5)]; exact g15.gh _ _ q
                     . exact (ry.mono (g3.g.trans (g4.g.trans g5.g))).append (RepL.cons r5 rfl)
                     . simp only at aft2
                       cases er:D7 bnd (Di δ cap) tt el (ds.drop (i+1)) with
                       | ok r =>
                         rw [er] at aft2; simp only [yI,LP]; exact aft2
                       | exc c=>rw [er] at aft2; exact aft2
                       | no=>rw [er] at aft2; exact aft2
       . refine .inl ⟨W.stop i H' (n0.mp hlt) (g2.g.trans g2.gh),?_⟩
         have:ds.drop i=[]:=CQ (n0.mp hlt); rw [this] at aft2; unfold D7 at aft2; have aft3:mW E G H (.ok (yd++[])) Q:=aft2; rw [yL] at aft3; exact aft3 D acc G' H' (g1.trans g2) (g1.h.free hD) nD hDa ry
   . rw [if_neg hz] at aft1; exact aft1.elim
end
end Sm
end
noncomputable section
namespace Sm
open PySem PySem.Spec PyProof.Rows L2
noncomputable def Ee (cells:List (Str×xI)):List (Str×FN)->List (Str×xI)->List (Str×xI)
 | [],cs=>cs
 | (n,kd)::r,cs=>if kd==.free then Ee cells r ((n,(cells.lookup n).getD 0)::cs) else Ee cells r cs
theorem Yx {env:Env}:∀ (names:List (Str×FN)) (cs:List (Str×xI)),(∀ y∈names,y.2=.free->∃ c,env.cells.lookup y.1=some c) ->
   (forIn names cs fun (x:Str×FN) (r:List (Str×xI))=>if (x.2==AU)=true then do let c <- cellOf env x.1; pure (z8 ((x.1,c)::r)) else pure (z8 r))=(pure (Ee env.cells names cs):Sem (List (Str×xI)))
 | [],cs,_=>rfl
 | (n,kd)::r,cs,h=>by
   rw [IV]; have ih:=fun cs=>Yx r cs fun y hy=>h y (i3 _ hy);unfold Ee;by_cases hk:(kd==AU)=true
   . obtain ⟨c,hc⟩:=h (n,kd) a8 (w5 hk)
     have hc':cellOf env n=pure c:=by unfold cellOf; rw [show env.cells.lookup n=some c from hc]
     simp only [hk,if_true,hc',pure_bind]; rw [show env.cells.lookup n=some c from hc]; exact ih _
   . simp only [hk,if_false,pure_bind]
     exact ih _
theorem Hx {cells:List (Str×xI)}:∀ {names:List (Str×FN)} {cs:List (Str×xI)} {y:Str×xI},y∈Ee cells names cs->y∈cs\/((y.1,AU)∈names/\y.2=(cells.lookup y.1).getD 0)
 | [],cs,y,h=>.inl h
 | (n,kd)::r,cs,y,h=>by
   unfold Ee at h;by_cases hk:(kd==AU)=true
   . rw [if_pos hk] at h
     have hk':=w5 hk; subst hk'; rcases Hx h with z | ⟨z1,z2⟩
     . rcases xD.mp z with rfl | z
       . exact .inr ⟨a8,rfl⟩
       . exact .inl z
     . exact .inr ⟨i3 _ z1,z2⟩
   . rw [if_neg hk] at h
     rcases Hx h with z | ⟨z1,z2⟩
     . exact .inl z
     . exact .inr ⟨i3 _ z1,z2⟩
theorem Hy {cells:List (Str×xI)} {x:Str}:∀ {names:List (Str×FN)} {cs:List (Str×xI)},((x,AU)∈names\/∃ c,(x,c)∈cs)->∃ c,(x,c)∈Ee cells names cs
 | [],cs,h=>by
   rcases h with h | h
   . cases h
   . exact h
 | (n,kd)::r,cs,h=>by
   unfold Ee;by_cases hk:(kd==AU)=true
   . rw [if_pos hk]
     refine Hy ?_; rcases h with h | ⟨c,h⟩
     . rcases xD.mp h with q | q
       . cases q; exact .inr ⟨_,a8⟩
       . exact .inl q
     . exact .inr ⟨c,i3 _ h⟩
   . rw [if_neg hk]
     refine Hy ?_; rcases h with h | ⟨c,h⟩
     . rcases xD.mp h with q | q
       . cases q; exact absurd rfl hk
       . exact .inl q
     . exact .inr ⟨c,h⟩
theorem Em {α:Type} {x:Str} {c:α} {l:List (Str×α)} (h:l.lookup x=some c):(x,c)∈l:=AI h
theorem Gq {α:Type} {x:Str}:∀ {l:List (Str×α)} {c:α},(x,c)∈l->∃ c',l.lookup x=some c'
 | [],_,h=>by cases h
 | (n,d)::r,c,h=>by
   rw [List.lookup_cons];cases q:x==n with
   | true=>exact ⟨d,rfl⟩
   | false =>
     rcases xD.mp h with z | z
     . cases z; simp at q
     . exact Gq z
theorem qY {X:Cx} (ok:X.Ok) {scope:Scope} (hnc:∀ y∈scope.names,y.2≠.cell) (hfree:∀ y∈scope.names,y.2=.free->X.env.scope.names.lookup y.1=some .cell\/X.env.scope.names.lookup y.1=some .free):∃ cl,Clos X scope cl:=by
 have hc:∀ y∈scope.names,y.2=.free->∃ c,X.env.cells.lookup y.1=some c:=fun y hy hf=>ok.has y.1 (hfree y hy hf);refine ⟨Ee X.env.cells scope.names [],⟨?_,fun x c h=>?_,fun x h=>?_⟩⟩
 . have:=Yx (env:=X.env) scope.names [] hc
   unfold closureFor; simp only;rw [this]; rfl
 . rcases Hx (Em h) with z | ⟨z1,z2⟩
   . cases z
   . obtain ⟨c',e⟩:=hc _ z1 rfl
     have e':X.env.cells.lookup x=some c':=e; have z2':c=(X.env.cells.lookup x).getD 0:=z2; rw [e'] at z2' ⊢;rw [z2']; rfl
 . have hm : (x, AU) ∈ scope.names := by
     have key:∀ kd,(v9 scope X.env).names.lookup x=some kd->(kd=.cell\/kd=.free)->(x,AU)∈scope.names:=fun kd hl hkd=>by
       have hm:=Em hl; unfold v9 at hm; simp only [yK] at hm; obtain ⟨⟨n,k0⟩,hy,e⟩:=hm; simp only at e;split at e
       . rename_i hc'
         cases e; have:k0=.free:=by
           rw [yE,yE] at hc'; exact w5 hc'.1.1
         subst this; exact hy
       . cases e
         rcases hkd with rfl | rfl
         . exact absurd rfl (hnc _ hy)
         . exact hy
     rcases h with h | h
     . exact key _ h (.inl rfl)
     . exact key _ h (.inr rfl)
   obtain ⟨c,hc'⟩:=Hy (cells:=X.env.cells) (names:=scope.names) (cs:=[]) (x:=x) (.inl hm); exact Gq hc'
noncomputable def okComp (N:List Str) (sc scope:Scope) (xs capN:List Str) (cap:List Nat):Bool :=
 decide (scope.kind=.function)&&scope.names.all (fun y=>decide (y.2≠.cell))&&scope.names.all (fun y=>decide (y.2=.local->scope.names.lookup y.1=some .local)) &&
 scope.names.all (fun y=>decide (y.2=.free->sc.names.lookup y.1=some .cell\/sc.names.lookup y.1=some .free))&&decide (cap.map (fun j=>N[j]?)=capN.map some) &&
 capN.all (fun x=>decide ((Ge scope sc).names.lookup x=some .cell\/(Ge scope sc).names.lookup x=some .free))&&capN.all (fun x=>decide (sc.names.lookup x=some .cell\/sc.names.lookup x=some .free)) &&
 decide ((xs++capN).Nodup)&&xs.all (fun x=>decide ((Ge scope sc).names.lookup x=some .local))&&decide (cap.Nodup)
noncomputable section
variable {P:yD} {w:yR} {K:xF} {mg:Str->Option xB} {base:zN} {X:Cx} {N:List Str} {sc:Scope} {k:Nat} {df:Bool} {E:EK} {pos px:Pos} {a c elt iter:Expr} {ifs:List Expr} {f g el:Dn->Res wY} {src:Dn->Res (List wY)} {tt:Dn->Res Bool} {scope:Scope} {capN:List Str} {cap:List Nat}
structure CompOk (N:List Str) (sc scope:Scope) (xs capN:List Str) (cap:List Nat):Prop where
 h1:scope.kind=.function
 h2:∀ y∈scope.names,y.2≠.cell
 h3:∀ y∈scope.names,y.2=.local->scope.names.lookup y.1=some .local
 h4:∀ y∈scope.names,y.2=.free->sc.names.lookup y.1=some .cell\/sc.names.lookup y.1=some .free
 h5:cap.map (fun j=>N[j]?)=capN.map some
 h6:∀ x∈capN,(Ge scope sc).names.lookup x=some .cell\/(Ge scope sc).names.lookup x=some .free
 h7:∀ x∈capN,sc.names.lookup x=some .cell\/sc.names.lookup x=some .free
 h8:(xs++capN).Nodup
 h9:∀ x∈xs,(Ge scope sc).names.lookup x=some .local
 h10:cap.Nodup
theorem okComp.ok {xs:List Str} (h:okComp N sc scope xs capN cap=true):CompOk N sc scope xs capN cap:=by
 unfold okComp at h;simp only [yE,j9,decide_eq_true_eq] at h;obtain ⟨⟨⟨⟨⟨⟨⟨⟨⟨h1,h2⟩,h3⟩,h4⟩,h5⟩,h6⟩,h7⟩,h8⟩,h9⟩,h10⟩:=h;exact ⟨h1,h2,h3,h4,h5,h6,h7,h8,h9,h10⟩
theorem Ed {xs:List Str} (C:Cxt P w K mg base X N sc k df) (h:CompOk N sc scope xs capN cap) (ok:X.Ok):CompFacts X scope xs capN cap:=by
 refine ⟨h.h1,h.h2,h.h3,qY ok h.h2 fun y hy hf=>?_,by rw [C.hN]; exact h.h5,fun x hx=>?_,fun x hx=>?_⟩
 . rw [C.hs]; exact h.h4 y hy hf
 . rw [cF C.hs]; exact h.h6 x hx
 . rw [C.hs]; exact h.h7 x hx
abbrev DTs (X:Cx) (E:EK) (ifs:List Expr) (f:Dn->Res Bool):Prop:=PTs X ifs (tT E f)
noncomputable def N6:Dn->Res Bool:=fun _=>.ok true
theorem Y8:DTs X E [] N6:=fun pins s Z H Q I hZ6=>by obtain ⟨G,δ,S,a⟩:=hZ6; exact oK pins s Z H Q I (a G H (Grow.refl S.sub))
theorem Ha (h:DT X E c tt):DTs X E [c] tt:=oJ h
theorem O4 {x:Str} (C:Cxt P w K mg base X N sc k df) (cap:List Nat) (capN:List Str) (ho:okComp N sc scope [x] capN cap=true) (hi:DI X E (.Name x px) iter src)
   (ht:∀ X',Cxt P w K mg base X' ([x]++capN) (Ge scope sc) k false->DTs X' E0k ifs tt) (he:∀ X',Cxt P w K mg base X' ([x]++capN) (Ge scope sc) k false->DE X' E0k elt el)
   (hs:∀ x,a9 iter X.env x=pure x:=by intro _; rfl):DF X E (.ListComp elt [⟨.Name x px,iter,ifs,0⟩] scope pos) (F5 src E3 cap tt el):=by
 have o:=okComp.ok ho;refine PE.imp (oU (g:=V5 0) C.calm (Ed C o) hi (fun X' B=>?_) (fun X' B=>ht X' (C.blk B)) (fun X' B=>he X' (C.blk B)) hs) fun Z H Q h=>Mn (m:=1) rfl o.h10 wA h;have C':=C.blk B;have hl:X'.env.scope.names.lookup x=some .local:=by rw [C'.hs]; exact o.h9 x (by simp)
 exact U0 (by rw [C'.hN]; exact o.h8) (by rw [C'.hN]; rfl) (.inl hl) (.inr hl)
end
end Sm
end
noncomputable section
namespace Sm
open PySem PySem.Spec PyProof.Rows L2
inductive Out where
 | nx (δ:Dn)
 | rt (d:wY)
 | bk (δ:Dn)
 | ct (δ:Dn)
 | exc (c:Str)
 | no
structure SSt (G0 H0 G H:Hp) (Z:St) (δ:Dn):Prop where
 gr:Grow G0 H0 G H
 sr:SR G H Z δ
 fr:∀ (i:Nat) (d:wY) (a:xI),δ[i]? = some (.ow d)->Z[i]?.join=some (.ref a)->H0 a=none
theorem SSt.grow {G0 H0 G H G' H':Hp} {Z:St} {δ:Dn} (S:SSt G0 H0 G H Z δ) (g:Grow G H G' H'):SSt G0 H0 G' H' Z δ:=⟨S.gr.trans g,S.sr.grow g,S.fr⟩
def Lg (E:EK) (G0 H0:Hp) (o:Out) (D:Ends):Prop:=match o with
 | .nx δ=>∀ Z G H,SSt G0 H0 G H Z δ->D.nx Z H
 | .rt d=>∀ v G H,Grow G0 H0 G H->Rep G d v->D.rt v H
 | .bk δ=>∀ Z G H,SSt G0 H0 G H Z δ->D.bk Z H
 | .ct δ=>∀ Z G H,SSt G0 H0 G H Z δ->D.ct Z H
 | .exc c=>∀ G H,Grow G0 H0 G H->E c H
 | .no=>False
def tS (E:EK) (G0 H0:Hp) (g:Dn->Out):TS:=fun D Z H=>∃ G δ,SSt G0 H0 G H Z δ/\Lg E G0 H0 (g δ) D
def DS (X:Cx) (E:EK) (st:AR) (g:Dn->Out):Prop:=∀ G0 H0,PS X st (tS E G0 H0 g)
def DSs (X:Cx) (E:EK) (st:List AR) (g:Dn->Out):Prop:=∀ G0 H0,PSs X st (tS E G0 H0 g)
theorem PS.imp {X:Cx} {st:AR} {t t':TS} (h:PS X st t) (i:∀ D Z H,t' D Z H->t D Z H):PS X st t':=fun pins s Z H D I q=>h pins s Z H D I (i _ _ _ q)
theorem PSs.imp {X:Cx} {st:List AR} {t t':TS} (h:PSs X st t) (i:∀ D Z H,t' D Z H->t D Z H):PSs X st t':=fun pins s Z H D I q=>h pins s Z H D I (i _ _ _ q)
noncomputable def M9 {α:Type} (r:Res α) (k:α->Out):Out:=match r with
 | .ok a=>k a
 | .exc c=>.exc c
 | .no=>.no
theorem Ie {E:EK} {G0 H0 G H:Hp} {Z:St} {δ:Dn} {f:Dn->Res wY} {k:wY->Out} {D:Ends} {R:VK} (S:SSt G0 H0 G H Z δ) (a:Lg E G0 H0 (M9 (f δ) k) D)
   (h:∀ d v G1 H1,Grow G H G1 H1->Rep G1 d v->SSt G0 H0 G1 H1 Z δ->Lg E G0 H0 (k d) D->R v H1):tD E f Z H R:=by
 refine ⟨G,δ,S.sr,?_⟩;cases e:f δ with
 | ok d=>rw [e] at a; exact fun v G' H' g r=>h d v G' H' g r (S.grow g) a
 | exc c=>rw [e] at a; exact fun G' H' g=>a G' H' (S.gr.trans g)
 | no=>rw [e] at a; exact a
theorem bH {E:EK} {G0 H0 G H:Hp} {Z:St} {δ:Dn} {f:Dn->Res (List wY)} {k:List wY->Out} {D:Ends} {R:VK} (S:SSt G0 H0 G H Z δ) (a:Lg E G0 H0 (M9 (f δ) k) D)
   (h:∀ ds p xs G1 H1,Grow G H G1 H1->H p=none->G1 p=none->H1 p=some (.lst xs)->RepL G1 ds xs->SSt G0 H0 G1 H1 Z δ->Lg E G0 H0 (k ds) D->R (.ref p) H1):tF E f Z H R:=by
 refine ⟨G,δ,S.sr,?_⟩;cases e:f δ with
 | ok d=>rw [e] at a; exact fun p xs G' H' g q1 q2 q3 q4=>h d p xs G' H' g q1 q2 q3 q4 (S.grow g) a
 | exc c=>rw [e] at a; exact fun G' H' g=>a G' H' (S.gr.trans g)
 | no=>rw [e] at a; exact a
theorem mQ {E:EK} {G0 H0 G H:Hp} {Z:St} {δ:Dn} {f:Dn->Res Bool} {k:Bool->Out} {D:Ends} {R:Bool->Hp->Prop} (S:SSt G0 H0 G H Z δ) (a:Lg E G0 H0 (M9 (f δ) k) D)
   (h:∀ d G1 H1,Grow G H G1 H1->SSt G0 H0 G1 H1 Z δ->Lg E G0 H0 (k d) D->R d H1):tT E f Z H R:=by
 refine ⟨G,δ,S.sr,?_⟩;cases e:f δ with
 | ok d=>rw [e] at a; exact fun G' H' g=>h d G' H' g (S.grow g) a
 | exc c=>rw [e] at a; exact fun G' H' g=>a G' H' (S.gr.trans g)
 | no=>rw [e] at a; exact a
theorem mR {E:EK} {G0 H0 G H:Hp} {Z:St} {δ:Dn} {f:Dn->Res (List wY)} {k:List wY->Out} {D:Ends} {R:It->Hp->Prop} (S:SSt G0 H0 G H Z δ) (a:Lg E G0 H0 (M9 (f δ) k) D)
   (h:∀ ds J G1 H1,Grow G H G1 H1->Walk J G1 ds->SSt G0 H0 G1 H1 Z δ->Lg E G0 H0 (k ds) D->R J H1):tI E f Z H R:=by
 refine ⟨G,δ,S.sr,?_⟩;cases e:f δ with
 | ok d=>rw [e] at a; exact fun J G' H' g q=>h d J G' H' g q (S.grow g) a
 | exc c=>rw [e] at a; exact fun G' H' g=>a G' H' (S.gr.trans g)
 | no=>rw [e] at a; exact a
theorem E2 {α:Type} {l:List α} {i j:Nat} {v:α}:(l.set i v)[j]? = if i=j/\i < l.length then some v else l[j]? := by
 rw [List.getElem?_set];by_cases h:i=j
 . subst h
   by_cases hl:i < l.length
   . simp [hl]
   . simp [hl,i8 (n0.mp hl)]
 . simp [h]
theorem SSt.set_sh {G0 H0 G H:Hp} {Z:St} {δ:Dn} (S:SSt G0 H0 G H Z δ) {i:Nat} {v:V} {d:wY} (r:Rep G d v):SSt G0 H0 G H (Z.set i (some v)) (δ.set i (.sh d)):=by
 have hl:=S.sr.len;have key:∀ (j:Nat) (d':wY),(δ.set i (.sh d))[j]? = some (.ow d')->(Z.set i (some v))[j]? = Z[j]? /\ δ[j]? = some (.ow d'):=fun j d' e=>by
   rw [E2] at e;split at e
   . cases e
   . rename_i hn
     refine ⟨?_,e⟩; rw [E2,if_neg (by rw [hl]; exact hn)]
 refine ⟨S.gr,⟨S.sr.sub,by simp [hl],fun j s e=>?_,fun j1 j2 a d1 d2 e1 e2 h1 h2=>?_⟩,fun j d' a e h=>?_⟩
 . rw [E2] at e ⊢
   rw [hl];split at e
   . rename_i hc; cases e; rw [if_pos hc]; exact ⟨v,rfl,r⟩
   . rename_i hc; rw [if_neg hc]; exact S.sr.sl j s e
 . obtain ⟨k1,o1⟩:=key j1 d1 e1
   obtain ⟨k2,o2⟩:=key j2 d2 e2; rw [k1] at h1; rw [k2] at h2; exact S.sr.ap j1 j2 a d1 d2 o1 o2 h1 h2
 . obtain ⟨k1,o1⟩:=key j d' e
   rw [k1] at h; exact S.fr j d' a o1 h
theorem SSt.set_ow {G0 H0 G H:Hp} {Z:St} {δ:Dn} (S:SSt G0 H0 G H Z δ) {i:Nat} {p:xI} {d:wY} (h0:H0 p=none) (hg:G p=none) (ho:OwnOk G H p d) (hf:∀ (j:Nat) d',δ[j]? = some (.ow d')->Z[j]?.join≠some (.ref p)):SSt G0 H0 G H (Z.set i (some (.ref p))) (δ.set i (.ow d)):=by
 have hl:=S.sr.len;have key:∀ (j:Nat) (d':wY),(δ.set i (.ow d))[j]? = some (.ow d')->(i=j/\i < δ.length/\d'=d/\(Z.set i (some (.ref p)))[j]? = some (some (.ref p)))\/((Z.set i (some (.ref p)))[j]? = Z[j]? /\ δ[j]? = some (.ow d')):=fun j d' e=>by
   rw [E2] at e;split at e
   . rename_i hc; cases e; exact .inl ⟨hc.1,hc.2,rfl,by rw [E2,if_pos (by rw [hl]; exact hc)]⟩
   . rename_i hn
     refine .inr ⟨?_,e⟩; rw [E2,if_neg (by rw [hl]; exact hn)]
 refine ⟨S.gr,⟨S.sr.sub,by simp [hl],fun j s e=>?_,fun j1 j2 a d1 d2 e1 e2 h1 h2=>?_⟩,fun j d' a e h=>?_⟩
 . rw [E2] at e ⊢
   rw [hl];split at e
   . rename_i hc; cases e; rw [if_pos hc]; exact ⟨p,rfl,hg,ho⟩
   . rename_i hc; rw [if_neg hc]; exact S.sr.sl j s e
 . rcases key j1 d1 e1 with ⟨a1,b1,_,c1⟩ | ⟨k1,o1⟩
   . rcases key j2 d2 e2 with ⟨a2,b2,_,c2⟩ | ⟨k2,o2⟩
     . exact a1.symm.trans a2
     . rw [c1] at h1; cases h1
       rw [k2] at h2; exact absurd h2 (hf j2 d2 o2)
   . rcases key j2 d2 e2 with ⟨a2,b2,_,c2⟩ | ⟨k2,o2⟩
     . rw [c2] at h2; cases h2
       rw [k1] at h1; exact absurd h1 (hf j1 d1 o1)
     . rw [k1] at h1; rw [k2] at h2
       exact S.sr.ap j1 j2 a d1 d2 o1 o2 h1 h2
 . rcases key j d' e with ⟨a1,b1,_,c1⟩ | ⟨k1,o1⟩
   . rw [c1] at h; cases h; exact h0
   . rw [k1] at h; exact S.fr j d' a o1 h
theorem SSt.write {G0 H0 G H:Hp} {Z:St} {δ:Dn} (S:SSt G0 H0 G H Z δ) {i:Nat} {p:xI} {d d':wY} {o:HO} (hi:δ[i]? = some (.ow d)) (hp:Z[i]?.join=some (.ref p)) (hg:G p=none) (ho:OwnOk G (upd H p o) p d'):SSt G0 H0 G (upd H p o) Z (δ.set i (.ow d')):=by
 have h0:=S.fr i d p hi hp;have hil:i < δ.length:=(yJ.mp hi).1;have hsub:Same G (upd H p o):=fun b u e=>by rw [C0 (D8 e hg)]; exact S.sr.sub _ _ e
 have key:∀ (j:Nat) (e:wY),(δ.set i (.ow d'))[j]? = some (.ow e)->∃ e',δ[j]? = some (.ow e'):=fun j e h=>by
   rw [E2] at h;split at h
   . rename_i hc; rw [<- hc.1]; exact ⟨d,hi⟩
   . exact ⟨e,h⟩
 refine ⟨⟨S.gr.g,fun b u e=>by rw [C0 (D8 e h0)]; exact S.gr.h _ _ e,hsub,S.gr.fr⟩,⟨hsub,by simp [S.sr.len],fun j s e=>?_,fun j1 j2 a d1 d2 e1 e2 h1 h2=>?_⟩,fun j e a h1 h2=>?_⟩
 . rw [E2] at e
   split at e
   . rename_i hc; cases e; rw [<- hc.1]; exact ⟨p,hp,hg,ho⟩
   . rename_i hc
     have hs:=S.sr.sl j s e;cases s with
     | un=>trivial
     | sh d=>exact hs
     | fd _=>exact hs
     | ow d2 =>
       obtain ⟨a,e1,n1,ok⟩:=hs; refine ⟨a,e1,n1,?_⟩; have hne:a≠p:=by
         rintro rfl;exact hc ⟨S.sr.ap i j a d d2 hi e hp e1,hil⟩
       cases d2 with
       | list ds=>obtain ⟨xs,q,r⟩:=ok; exact ⟨xs,by rw [C0 hne]; exact q,r⟩
       | dict kvs=>obtain ⟨xs,q,r⟩:=ok; exact ⟨xs,by rw [C0 hne]; exact q,r⟩
       | tuple xs=>exact OwnK.keep (Same.refl _) (fun o q=>by rw [C0 hne]; exact q) ok
       | _=>exact (show False from ok).elim
 . obtain ⟨e1',o1⟩:=key j1 d1 e1
   obtain ⟨e2',o2⟩:=key j2 d2 e2; exact S.sr.ap j1 j2 a _ _ o1 o2 h1 h2
 . obtain ⟨e',o1⟩:=key j e h1
   exact S.fr j e' a o1 h2
noncomputable def fz (i:Nat) (δ:Dn):Dn:=match δ[i]? with
 | some (.ow (.list ds))=>δ.set i (.sh (.list ds))
 | _=>δ
theorem SSt.fz {G0 H0 G H:Hp} {Z:St} {δ:Dn} (S:SSt G0 H0 G H Z δ) (i:Nat):∃ G',SSt G0 H0 G' H Z (fz i δ):=by
 unfold Sm.fz;split
 . rename_i ds hi
   obtain ⟨p,hp,hg,xs,hx,r⟩:=S.sr.sl i _ hi; have h0:=S.fr i _ p hi hp; have g:Grow G0 H0 (upd G p (.lst xs)) H:=S.gr.share h0 hg hx; have hv:Z[i]? = some (some (.ref p)):=by
     cases q:Z[i]? with
     | none=>rw [q] at hp; cases hp
     | some z=>rw [q] at hp; cases z with
       | none=>cases hp
       | some z=>cases hp; rfl
   have key:∀ (j:Nat) (d':wY),(δ.set i (.sh (.list ds)))[j]? = some (.ow d')->δ[j]? = some (.ow d')/\j≠i:=fun j d' e=>by
     rw [E2] at e;split at e
     . cases e
     . rename_i hn
       refine ⟨e,fun z=>?_⟩;subst z; exact hn ⟨rfl,(yJ.mp hi).1⟩
   refine ⟨_,g,⟨g.gh,by simp [S.sr.len],fun j s e=>?_,fun j1 j2 a d1 d2 e1 e2 h1 h2=>S.sr.ap j1 j2 a d1 d2 (key j1 d1 e1).1 (key j2 d2 e2).1 h1 h2⟩,fun j d' a e h=>S.fr j d' a (key j d' e).1 h⟩;have sm:Same G (upd G p (.lst xs)):=Same.upd hg;by_cases hj:i=j/\i < δ.length
   . rw [E2,if_pos hj] at e
     cases e; rw [<- hj.1,hv]; exact ⟨_,rfl,p,xs,rfl,.inl B8,r.mono sm⟩
   . have e2:=e
     rw [E2,if_neg hj] at e2; have hs:=S.sr.sl j s e2;cases s with
     | un=>trivial
     | sh d=>obtain ⟨v,e1,r1⟩:=hs; exact ⟨v,e1,r1.mono sm⟩
     | fd _=>exact FdOk.mono sm hs
     | ow d2 =>
       obtain ⟨a,e1,n1,ok⟩:=hs; have hne:a≠p:=by
         rintro rfl;exact (key j d2 e).2 (S.sr.ap j i a d2 _ e2 hi e1 hp)
       refine ⟨a,e1,by rw [C0 hne]; exact n1,?_⟩;cases d2 with
       | list ds=>obtain ⟨xs,q,r⟩:=ok; exact ⟨xs,q,r.mono sm⟩
       | dict kvs=>obtain ⟨xs,q,k,r⟩:=ok; exact ⟨xs,q,k,r.mono sm⟩
       | tuple xs=>exact OwnK.keep sm (fun o q=>q) ok
       | _=>exact (show False from ok).elim
 . exact ⟨G,S⟩
noncomputable section
variable {P:yD} {w:yR} {K:xF} {mg:Str->Option xB} {base:zN} {X:Cx} {N:List Str} {sc:Scope} {k:Nat} {df:Bool} {E:EK} {pos p px py:Pos} {a b c e elt iter:Expr} {ifs:List Expr} {f g el:Dn->Res wY} {fs src:Dn->Res (List wY)} {tt:Dn->Res Bool} {scope:Scope} {capN:List Str} {cap:List Nat} {st:AR} {sts sts':List AR} {g1 g2:Dn->Out}
noncomputable def E5:Dn->Out:=fun δ=>.nx δ
noncomputable def B9 (g1 g2:Dn->Out):Dn->Out:=fun δ=>match g1 δ with
 | .nx δ'=>g2 δ'
 | o=>o
theorem M6:DSs X E [] E5:=fun G0 H0=>PSs.imp cI fun D Z H hZ3=>by obtain ⟨G,δ,S,a⟩:=hZ3; exact a Z G H S
theorem A9 (h1:DS X E st g1) (h2:DSs X E sts g2):DSs X E (st::sts) (B9 g1 g2):=fun G0 H0=>by
 refine PSs.imp (Wz (h1 G0 H0) (h2 G0 H0)) fun D Z H hY59=>?_;obtain ⟨G,δ,S,a⟩:=hY59;refine ⟨G,δ,S,?_⟩;unfold B9 at a;cases e:g1 δ with
 | nx δ'=>rw [e] at a; exact fun Z' G' H' S'=>⟨G',δ',S',a⟩
 | rt d=>rw [e] at a; exact a
 | bk d=>rw [e] at a; exact a
 | ct d=>rw [e] at a; exact a
 | exc d=>rw [e] at a; exact a
 | no=>rw [e] at a; exact a
theorem C2 (h1:DS X E st g1):DSs X E [st] g1:=fun G0 H0=>Jc (h1 G0 H0)
noncomputable def sFz (i:Nat) (g:Dn->Out):Dn->Out:=fun δ=>g (fz i δ)
theorem aC (i:Nat) (h:DS X E st g1):DS X E st (sFz i g1):=fun G0 H0=>PS.imp (h G0 H0) fun D Z H hZ3=>by
 obtain ⟨G,δ,S,a⟩:=hZ3;obtain ⟨G',S'⟩:=S.fz i;exact ⟨G',_,S',a⟩
noncomputable def K8 (f:Dn->Res wY):Dn->Out:=fun δ=>M9 (f δ) .rt
theorem J2 (h:DE X E e f):DS X E (.Return (some e) pos) (K8 f):=fun G0 H0=>PS.imp (aF h) fun D Z H ⟨G,δ,S,a⟩ =>
 Ie S a fun d v G1 H1 g1 r1 S1 a1=>a1 v G1 H1 S1.gr r1
noncomputable def sIf (c:Dn->Res Bool) (g1 g2:Dn->Out):Dn->Out:=fun δ=>M9 (c δ) fun b=>if b=true then g1 δ else g2 δ
theorem Bo (hc:DT X E c tt) (h1:DSs X E sts g1) (h2:DSs X E sts' g2):DS X E (.If c sts sts' pos) (sIf tt g1 g2):=fun G0 H0=>PS.imp (rW hc (h1 G0 H0) (h2 G0 H0)) fun D Z H ⟨G,δ,S,a⟩ =>
 mQ S a fun d G1 H1 g1 S1 a1=>by
   cases d with
   | true=>rw [if_pos rfl]; exact ⟨G1,δ,S1,a1⟩
   | false=>rw [if_neg (by decide)]; exact ⟨G1,δ,S1,a1⟩
noncomputable def okSet (N:List Str) (sc:Scope) (df:Bool) (i:Nat) (x:Str):Bool:=decide (N.Nodup)&&decide (N[i]? = some x)&&(decide (sc.names.lookup x=some .local)||(decide (sc.names.lookup x=some .cell)&&df))
theorem okSet.ok (C:Cxt P w K mg base X N sc k df) {i:Nat} {x:Str} (h:okSet N sc df i x=true):X.N.Nodup/\X.N[i]? = some x/\Loc X.env.scope x/\(X.fn x=true\/X.env.scope.names.lookup x=some .local):=by
 unfold okSet at h;simp only [yE,EG,decide_eq_true_eq] at h;obtain ⟨⟨h1,h2⟩,h3⟩:=h;rw [C.hN];refine ⟨h1,h2,?_⟩;unfold L2.Loc;rw [C.hs];rcases h3 with h3 | ⟨h3,h4⟩
 . exact ⟨.inl h3,.inr h3⟩
 . exact ⟨.inr h3,.inl (C.fn h4 x)⟩
noncomputable def D4 (i:Nat) (f:Dn->Res wY):Dn->Out:=fun δ=>M9 (f δ) fun d=>.nx (δ.set i (.sh d))
theorem E4 {x:Str} (C:Cxt P w K mg base X N sc k df) (i:Nat) (ho:okSet N sc df i x=true) (h:DE X E e f) (hs:q9 e (some (.Name x p)) pos.line X.env=pure false:=by rfl):DS X E (.Assign [.Name x p] e pos) (D4 i f):=fun G0 H0=>by
 obtain ⟨h1,h2,h3,h4⟩:=okSet.ok C ho;exact PS.imp (Ow h1 h2 h3 h hs h4) fun D Z H hZ3=>by obtain ⟨G,δ,S,a⟩:=hZ3; exact Ie S a fun d v G1 H1 g1 r1 S1 a1=>a1 _ G1 H1 (S1.set_sh r1)
theorem Ht {G0 H0 G H:Hp} {Z:St} {δ:Dn} (S:SSt G0 H0 G H Z δ) {p:xI} (hp:H p=none) (j:Nat) (d':wY) (e:δ[j]? = some (.ow d')):Z[j]?.join≠some (.ref p):=fun z=>by
 obtain ⟨a,e1,_,ok⟩:=S.sr.sl j _ e;rw [e1] at z; cases z;obtain ⟨o,q⟩:=ok.some;rw [hp] at q; cases q
noncomputable def Ix (i:Nat) (f:Dn->Res (List wY)):Dn->Out:=fun δ=>M9 (f δ) fun ds=>.nx (δ.set i (.ow (.list ds)))
theorem cP {G0 H0:Hp} {D:Ends} {Z:St} {H:Hp} {i:Nat} (h:tS E G0 H0 (Ix i fs) D Z H):tF E fs Z H fun v H1=>D.nx (Z.set i (some v)) H1:=by
 obtain ⟨G,δ,S,a⟩:=h;refine bH S a fun ds p xs G1 H1 g1 q1 q2 q3 q4 S1 a1=>?_;exact a1 _ G1 H1 (S1.set_ow (S.gr.h.free q1) q2 ⟨xs,q3,q4⟩ (Ht S q1))
theorem Oo {x:Str} (C:Cxt P w K mg base X N sc k df) (i:Nat) (ho:okSet N sc df i x=true) (h:DF X E e fs) (hs:q9 e (some (.Name x p)) pos.line X.env=pure false:=by rfl):DS X E (.Assign [.Name x p] e pos) (Ix i fs):=fun G0 H0=>by
 obtain ⟨h1,h2,h3,h4⟩:=okSet.ok C ho;exact PS.imp (Ow h1 h2 h3 h hs h4) fun D Z H q=>cP q
noncomputable def Fh (sc scope:Scope) (x:Str) (l1 l2:Nat):Bool:=decide (sc.kind=.function)&&decide (sc.names.lookup x=some .local)&&decide (l1=l2) && !(scope.names.any fun (n,kd)=>n==x&&(kd==.local||kd==.cell))
theorem Js {x:Str} {elt:Expr} {gens:List Comprehension} {ln:Nat} (C:Cxt P w K mg base X N sc k df) (h:Fh sc scope x p.line pos.line=true):q9 (.ListComp elt gens scope pos) (some (.Name x p)) ln X.env=pure true:=by
 unfold Fh at h;simp only [yE,decide_eq_true_eq] at h;obtain ⟨⟨⟨h1,h2⟩,h3⟩,h4⟩:=h;unfold q9;show pure (X.env.blockKind==.function&&X.env.kindOf x==some .local&&p.line==pos.line && !(scope.names.any fun (n,kd)=>n==x&&(kd==.local||kd==.cell)))=_;have e1:X.env.blockKind=.function:=by unfold Env.blockKind; rw [C.hs,h1]; rfl
 have e2:X.env.kindOf x=some .local:=by show X.env.scope.names.lookup x=_; rw [C.hs]; exact h2
 rw [e1,e2,h3,h4];simp
noncomputable def kK (sc scope:Scope) (x:Str) (l1 l2:Nat):Bool:=decide (sc.names.lookup x≠some .local)||decide (l1≠l2)||(scope.names.any fun (n,kd)=>n==x&&(kd==.local||kd==.cell))
theorem Zt {x:Str} {elt:Expr} {gens:List Comprehension} {ln:Nat} (C:Cxt P w K mg base X N sc k df) (h:kK sc scope x p.line pos.line=true):q9 (.ListComp elt gens scope pos) (some (.Name x p)) ln X.env=pure false:=by
 unfold kK at h;unfold q9;show pure (X.env.blockKind==.function&&X.env.kindOf x==some .local&&p.line==pos.line && !(scope.names.any fun (n,kd)=>n==x&&(kd==.local||kd==.cell)))=_;have e2:X.env.kindOf x=sc.names.lookup x:=by show X.env.scope.names.lookup x=_; rw [C.hs]
 rw [e2];rw [EG,EG,decide_eq_true_eq,decide_eq_true_eq] at h;congr 1;rcases h with (h | h) | h
 . have:(sc.names.lookup x==some NameKind.local)=false:=by simpa using h
   rw [this]; simp
 . have:(p.line==pos.line)=false:=by simpa using h
   rw [this]; simp
 . rw [h]; simp
noncomputable section
variable {x y:Str} {i:Nat} {py spos:Pos}
theorem aA (C:Cxt P w K mg base X N sc k df) (i:Nat) (hset:okSet N sc df i y=true) (hsw:Fh sc scope y py.line pos.line=true) (cap:List Nat) (capN:List Str) (ho:okComp N sc scope [x] capN cap=true) (hi:DI X E (.Name x px) iter src)
   (ht:∀ X',Cxt P w K mg base X' ([x]++capN) (Ge scope sc) k false->DTs X' E0k ifs tt) (he:∀ X',Cxt P w K mg base X' ([x]++capN) (Ge scope sc) k false->DE X' E0k elt el)
   (hs:∀ x,a9 iter X.env x=pure x:=by intro _; rfl):DS X E (.Assign [.Name y py] (.ListComp elt [⟨.Name x px,iter,ifs,0⟩] scope pos) spos) (Ix i (F5 src E3 cap tt el)):=fun G0 H0=>by
 obtain ⟨h1,h2,h3,h4⟩:=okSet.ok C hset;have o:=okComp.ok ho;have hl:X.env.scope.names.lookup y=some .local:=by
   rw [C.hs]; unfold Fh at hsw; simp only [yE,decide_eq_true_eq] at hsw; exact hsw.1.1.2
 refine PS.imp (Hj (g:=V5 0) C.calm (Ed C o) hi (fun X' B=>?_) (fun X' B=>ht X' (C.blk B)) (fun X' B=>he X' (C.blk B)) h1 h2 hl (Js C hsw) hs) fun D Z H h=>Mn (m:=1) rfl o.h10 wA (cP h);have C':=C.blk B;have hl:X'.env.scope.names.lookup x=some .local:=by rw [C'.hs]; exact o.h9 x (by simp)
 exact U0 (by rw [C'.hN]; exact o.h8) (by rw [C'.hN]; rfl) (.inl hl) (.inr hl)
noncomputable def Os (i:Nat) (f:Dn->Res (List wY)):Dn->Out:=fun δ=>M9 (f δ) fun ds=>.nx (δ.set i (.sh (.list ds)))
theorem cV {G0 H0:Hp} {D:Ends} {Z:St} {H:Hp} {i:Nat} (h:tS E G0 H0 (Os i fs) D Z H):tF E fs Z H fun v H1=>D.nx (Z.set i (some v)) H1:=by
 obtain ⟨G,δ,S,a⟩:=h;refine bH S a fun ds p xs G1 H1 g1 q1 q2 q3 q4 S1 a1=>?_;exact a1 _ _ H1 ((S.grow (g1.share q1 q2 q3)).set_sh ⟨p,xs,rfl,.inl B8,q4.mono (Same.upd q2)⟩)
end
end
end Sm
end
noncomputable section
namespace Sm
open PySem PySem.Spec PyProof.Rows L2
noncomputable section
variable {P:yD} {w:yR} {K:xF} {mg:Str->Option xB} {base:zN} {X:Cx} {N:List Str} {sc:Scope} {k:Nat} {df:Bool} {E:EK} {pos p px py tp spos:Pos} {tg a b c e elt iter:Expr} {ifs:List Expr} {es:List Expr} {f g el:Dn->Res wY} {src:Dn->Res (List wY)} {tt:Dn->Res Bool} {scope:Scope} {capN:List Str} {cap:List Nat} {st:AR} {sts:List AR} {g1:Dn->Out} {x y:Str} {i:Nat}
theorem Op (C:Cxt P w K mg base X N sc k df) (i:Nat) (hset:okSet N sc df i y=true) (hsw:Fh sc scope y py.line pos.line=true) (cap:List Nat) (capN:List Str) (ho:okComp N sc scope [x] capN cap=true) (hi:DI X E (.Name x px) iter src)
   (ht:∀ X',Cxt P w K mg base X' ([x]++capN) (Ge scope sc) k false->DTs X' E0k ifs tt) (he:∀ X',Cxt P w K mg base X' ([x]++capN) (Ge scope sc) k false->DE X' E0k elt el)
   (hs:∀ x,a9 iter X.env x=pure x:=by intro _; rfl):DS X E (.Assign [.Name y py] (.ListComp elt [⟨.Name x px,iter,ifs,0⟩] scope pos) spos) (Os i (F5 src E3 cap tt el)):=fun G0 H0=>by
 obtain ⟨h1,h2,h3,h4⟩:=okSet.ok C hset;have o:=okComp.ok ho;have hl:X.env.scope.names.lookup y=some .local:=by
   rw [C.hs]; unfold Fh at hsw; simp only [yE,decide_eq_true_eq] at hsw; exact hsw.1.1.2
 refine PS.imp (Hj (g:=V5 0) C.calm (Ed C o) hi (fun X' B=>?_) (fun X' B=>ht X' (C.blk B)) (fun X' B=>he X' (C.blk B)) h1 h2 hl (Js C hsw) hs) fun D Z H h=>Mn (m:=1) rfl o.h10 wA (cV h);have C':=C.blk B;have hl:X'.env.scope.names.lookup x=some .local:=by rw [C'.hs]; exact o.h9 x (by simp)
 exact U0 (by rw [C'.hN]; exact o.h8) (by rw [C'.hN]; rfl) (.inl hl) (.inr hl)
theorem aB {x1:Nat} {x2:Str} (C:Cxt P w K mg base X N sc k df) (i:Nat) (hset:okSet N sc df i y=true) (hsw:Fh sc scope y py.line pos.line=true) (cap:List Nat) (capN:List Str) (ho:okComp N sc scope [x,x2] capN cap=true) (hi:DI X E (.Tuple [.Name x px,.Name x2 p] x1 tp) iter src)
   (ht:∀ X',Cxt P w K mg base X' ([x,x2]++capN) (Ge scope sc) k false->DTs X' E0k ifs tt) (he:∀ X',Cxt P w K mg base X' ([x,x2]++capN) (Ge scope sc) k false->DE X' E0k elt el)
   (hs:∀ x,a9 iter X.env x=pure x:=by intro _; rfl):DS X E (.Assign [.Name y py] (.ListComp elt [⟨.Tuple [.Name x px,.Name x2 p] x1 tp,iter,ifs,0⟩] scope pos) spos) (Os i (F5 src Lq cap tt el)):=fun G0 H0=>by
 obtain ⟨h1,h2,h3,h4⟩:=okSet.ok C hset;have o:=okComp.ok ho;have hl:X.env.scope.names.lookup y=some .local:=by
   rw [C.hs]; unfold Fh at hsw; simp only [yE,decide_eq_true_eq] at hsw; exact hsw.1.1.2
 refine PS.imp (Hj (g:=lQ K 2 (Gs (V5 0) (Gs (V5 1) lR))) C.calm (Ed C o) hi (fun X' B=>?_) (fun X' B=>ht X' (C.blk B)) (fun X' B=>he X' (C.blk B)) h1 h2 hl (Js C hsw) hs) fun D Z H h=>Mn (m:=2) rfl o.h10 gok2 (cV h);have C':=C.blk B;have hl:X'.env.scope.names.lookup x=some .local:=by rw [C'.hs]; exact o.h9 x (by simp)
 have hl2:X'.env.scope.names.lookup x2=some .local:=by rw [C'.hs]; exact o.h9 x2 (by simp)
 have nd:X'.N.Nodup:=by rw [C'.hN]; exact o.h8
 have p1:PG X' (.Name x px) (V5 0):=U0 nd (by rw [C'.hN]; rfl) (.inl hl) (.inr hl);have p2:PG X' (.Name x2 p) (V5 1):=U0 nd (by rw [C'.hN]; rfl) (.inl hl2) (.inr hl2);have:=aH (n:=2) (k:=x1) (pos:=tp) C'.calm (Bn p1 (Bn p2 Uj));rw [C'.hK] at this;exact this
noncomputable def sSet2 (i j:Nat) (f:Dn->Res wY):Dn->Out:=fun δ=>M9 (f δ) fun d=>match d with
 | .tuple [a,b]=>.nx ((δ.set i (.sh a)).set j (.sh b))
 | _=>.no
noncomputable def Y0 (i:Nat) (f:Dn->Res wY):Dn->Out:=fun δ=>match δ[i]? with
 | some (.ow (.list ds))=>M9 (f δ) fun d=>if ds.length < sizeLine then .nx (δ.set i (.ow (.list (ds++[d])))) else .no
 | _=>.no
theorem Iu {cpos apos:Pos} (C:Cxt P w K mg base X N sc k df) (i:Nat) (h:okVar N sc i x=true) (ha:DE X E a f)
   (hbase:AD (.Name x p) "append" X.env (eval (.Name x p) X.env)=eval (.Name x p) X.env:=by rfl)
   (hfew:((i6 cpos (xO [a] X.env)).all (fun x => !x.1)&&(GI cpos (DG [] X.env)).all (fun x=>x.1.isSome)
     && decide ([a].length+([]:List BW).length+(if ([]:List BW).isEmpty then 0 else 1) < 30))=true:=by rfl)
   (hline:(apos.endLine==cpos.line)=true:=by rfl) (hs:xO [a] X.env=(false,eval a X.env)::xO [] X.env:=by rfl) (hplain:(i6 cpos (xO [] X.env)).any (·.1)=false:=by rfl)
   (hsw:q9 (.Call (.Attribute (.Name x p) "append" apos) [a] [] cpos) none pos.line X.env=pure false:=by rfl) :
   DS X E (.Expr (.Call (.Attribute (.Name x p) "append" apos) [a] [] cpos) pos) (Y0 i f):=fun G0 H0=>by
 have hv:PE X (.Name x p) (nJ i):=by
   unfold okVar at h; simp only [yE,CU] at h; obtain ⟨⟨⟨h1,h2⟩,h3⟩,h4⟩:=h; refine aI (by rw [C.hN]; exact w5 h1) ?_ h3 h4;rw [C.hs]; unfold Vis;cases q:sc.names.lookup x with
   | none=>rw [q] at h2; cases h2
   | some z =>
     rw [q] at h2;cases z with
     | «local» => exact .inl rfl
     | cell=>exact .inr (.inl rfl)
     | free=>exact .inr (.inr rfl)
     | _=>cases h2
 refine PS.imp (Uh (Xd CC JI JH Km hv (L7 ha R0 hs) hbase hfew hline hs hplain) hsw) fun D Z H hZ3=>?_;obtain ⟨G,δ,S,aft⟩:=hZ3;unfold Y0 at aft;split at aft
 . rename_i ds hi
   obtain ⟨q,hq,hg,xs,hx,rl⟩:=S.sr.sl i _ hi; have hσ:Z[i]? = some (some (.ref q)):=by
     cases z:Z[i]? with
     | none=>rw [z] at hq; cases hq
     | some z'=>rw [z] at hq; cases z' with
       | none=>cases hq
       | some z''=>cases hq; rfl
   refine ⟨.ref q,hσ,.inl ⟨rfl,xs,.inl (.inl hx)⟩,?_⟩; refine Ie S aft fun d v G1 H1 g1 r1 S1 a1=>?_;split at a1
   . rename_i hz
     have hx1:H1 q=some (.lst xs):=g1.h _ _ hx; obtain ⟨q',hq',hg',_⟩:=S1.sr.sl i _ hi; rw [hq] at hq'; cases hq'; refine ⟨q,xs,v,rfl,rfl,hx1,by rw [<- rl.length]; exact hz,?_⟩;exact a1 Z G1 _ (S1.write hi hq hg' ⟨xs++[v],B8,(rl.mono g1.g).append (RepL.cons r1 rfl)⟩)
   . exact a1.elim
 . exact aft.elim
noncomputable def E8 (st:wY->Dn->Option Dn) (body:Dn->Out):List wY->Dn->Out
 | [],δ=>.nx δ
 | d::ds,δ=>match st d δ with
   | some δ1=>match body δ1 with
     | .nx δ'=>E8 st body ds δ'
     | .ct δ'=>E8 st body ds δ'
     | .bk δ'=>.nx δ'
     | o=>o
   | none=>.no
noncomputable def K9 (src:Dn->Res (List wY)) (st:wY->Dn->Option Dn) (body:Dn->Out):Dn->Out:=fun δ=>M9 (src δ) fun ds=>E8 st body ds δ
noncomputable def st1 (i:Nat):wY->Dn->Option Dn:=fun d δ=>some (δ.set i (.sh d))
noncomputable def st2 (i j:Nat):wY->Dn->Option Dn:=fun d δ=>match d with
 | .tuple [a,b]=>some ((δ.set i (.sh a)).set j (.sh b))
 | _=>none
def rL (K:xF) (g:TG) (st:wY->Dn->Option Dn):Prop:=∀ (G0 H0 G H:Hp) (Z:St) (δ δ1:Dn) (d:wY) (x:V) (Q:St->Hp->Prop),SSt G0 H0 G H Z δ->Rep G d x->st d δ=some δ1->(∀ Z',SSt G0 H0 G H Z' δ1->Q Z' H)->g x Z H Q
theorem tg1 (i:Nat):rL K (V5 i) (st1 i):=fun G0 H0 G H Z δ δ1 d x Q S r e h=>by cases e; exact h _ (S.set_sh r)
theorem tg2 (i j:Nat):rL K (lQ K 2 (Gs (V5 i) (Gs (V5 j) lR))) (st2 i j):=fun G0 H0 G H Z δ δ1 d x Q S r e h=>by
 cases d with
 | tuple ds =>
   match ds,e with
   | [a,b],e =>
     cases e; obtain ⟨p,xs,rfl,e1,l1⟩:=r; obtain ⟨v,v',rfl,r1,r2⟩:=jI l1; exact ⟨p,_,rfl,.inl (.inl (S.sr.sub _ _ e1)),rfl,v,[v'],rfl,v',[],rfl,rfl,h _ ((S.set_sh r1).set_sh r2)⟩
 | _=>cases e
theorem SSt.rebase {G0 H0 G1 H1 G H:Hp} {Z:St} {δ:Dn} (g:Grow G0 H0 G1 H1) (S:SSt G0 H0 G H Z δ) (h:Same G1 G):SSt G1 H0 G H Z δ :=
 ⟨⟨h,S.gr.h,S.gr.gh,fun b o e=>(S.gr.fr b o e).imp (fun z=>g.g _ _ z) id⟩,S.sr,S.fr⟩
theorem Grow.unbase {G0 H0 G1 H1 G H:Hp} (g:Grow G0 H0 G1 H1) (h:Grow G1 H0 G H):Grow G0 H0 G H :=
 ⟨g.g.trans h.g,h.h,h.gh,fun b o e=>(h.fr b o e).elim (fun z=>g.fr b o z) .inr⟩
theorem SSt.unbase {G0 H0 G1 H1 G H:Hp} {Z:St} {δ:Dn} (g:Grow G0 H0 G1 H1) (S:SSt G1 H0 G H Z δ):SSt G0 H0 G H Z δ:=⟨g.unbase S.gr,S.sr,S.fr⟩
theorem aD {gt:TG} {st:wY->Dn->Option Dn} (C:Cxt P w K mg base X N sc k df) (hi:DI X E tg iter src) (hg:PG X tg gt) (ht:rL K gt st) (hb:DSs X E sts g1) (hs:∀ x,a9 iter X.env x=pure x):DS X E (.For tg iter sts [] pos) (K9 src st g1):=fun G0 H0=>by
 have hb':PSs X sts (fun D Z H=>∃ Gb,tS E Gb H0 g1 D Z H):=fun pins s Z H D I hZ6=>by obtain ⟨Gb,q⟩:=hZ6; exact hb Gb H0 pins s Z H D I q
 refine PS.imp (jQ C.own C.calm hi hg hb' hs) fun D Z H hZ3=>?_;obtain ⟨G,δ,S,aft⟩:=hZ3;refine mR S aft fun ds J G1 H1 gr W S1 a1=>?_;have g01:=S1.gr;refine ⟨fun i n Z' H'=>n=ds.length - i/\i<=ds.length/\∃ G' δ',SSt G1 H0 G' H' Z' δ'/\Lg E G0 H0 (E8 st g1 (ds.drop i) δ') D,⟨_,rfl,c7 _,G1,δ,S1.rebase g01 (Same.refl _),by rw [ES]; exact a1⟩,?_⟩;rintro i n Z' H' ⟨rfl,hi,G',δ',S',a'⟩;by_cases hlt:i < ds.length
 . have hd:ds[i]? = some ds[i]:=yU hlt
   have hdrop:ds.drop i=ds[i]::ds.drop (i+1):=p4 hlt; rw [hdrop] at a'; unfold E8 at a'; refine .inr ⟨W.go i H' hlt (S'.gr.g.trans S'.sr.sub),fun Z2 H2=>∃ G' δ',SSt G1 H0 G' H2 Z2 δ'/\Lg E G0 H0 (E8 st g1 (ds.drop (i+1)) δ') D,fun Z2 H2 q=>⟨_,by omega,rfl,hlt,q⟩,fun x H'' hy=>?_⟩;obtain ⟨G3,g3,r3⟩:=W.yld i _ G' H' x H'' hd S'.gr.g S'.sr.sub hy; have S3:=S'.grow g3;cases es:st ds[i] δ' with
   | none=>rw [es] at a'; exact a'.elim
   | some δ1 =>
     rw [es] at a'; refine ht G1 H0 G3 H'' Z' δ' δ1 _ x _ S3 r3 es fun Z2 S4=>⟨G1,G3,δ1,S4,?_⟩;simp only at a';cases eo:g1 δ1 with
     | nx δ2=>rw [eo] at a'; exact fun Z3 G4 H4 S5=>⟨G4,δ2,S5,a'⟩
     | ct δ2=>rw [eo] at a'; exact fun Z3 G4 H4 S5=>⟨G4,δ2,S5,a'⟩
     | bk δ2=>rw [eo] at a'; exact fun Z3 G4 H4 S5=>a' Z3 G4 H4 (S5.unbase g01)
     | rt d=>rw [eo] at a'; exact fun v G4 H4 g r=>a' v G4 H4 (g01.unbase g) r
     | exc c=>rw [eo] at a'; exact fun G4 H4 g=>a' G4 H4 (g01.unbase g)
     | no=>rw [eo] at a'; exact a'
 . refine .inl ⟨W.stop i H' (n0.mp hlt) (S'.gr.g.trans S'.sr.sub),?_⟩
   have:ds.drop i=[]:=CQ (n0.mp hlt); rw [this] at a'; exact a' Z' G' H' (S'.unbase g01)
theorem U4 (C:Cxt P w K mg base X N sc k df) (i:Nat) (ho:okSet N sc df i x=true) (hi:DI X E (.Name x p) iter src) (hb:DSs X E sts g1) (hs:∀ x,a9 iter X.env x=pure x:=by intro _; rfl):DS X E (.For (.Name x p) iter sts [] pos) (K9 src (st1 i) g1):=by
 obtain ⟨h1,h2,h3,h4⟩:=okSet.ok C ho;exact aD C hi (U0 h1 h2 h3 h4) (tg1 i) hb hs
theorem tQ {x1:Nat} (C:Cxt P w K mg base X N sc k df) (i j:Nat) (hi':okSet N sc df i x=true) (hj:okSet N sc df j y=true) (hi:DI X E (.Tuple [.Name x px,.Name y py] x1 tp) iter src) (hb:DSs X E sts g1) (hs:∀ x,a9 iter X.env x=pure x:=by intro _; rfl) :
   DS X E (.For (.Tuple [.Name x px,.Name y py] x1 tp) iter sts [] pos) (K9 src (st2 i j) g1):=by
 obtain ⟨h1',h2,h3,h4⟩:=okSet.ok C hi';obtain ⟨_,q2,q3,q4⟩:=okSet.ok C hj;have pg:=aH (n:=2) (k:=x1) (pos:=tp) C.calm (Bn (U0 (pos:=px) h1' h2 h3 h4) (Bn (U0 (pos:=py) h1' q2 q3 q4) Uj));rw [C.hK] at pg;exact aD C hi pg (tg2 i j) hb hs
end
end Sm
end
noncomputable section
namespace Sm
open PySem PySem.Spec PyProof.Rows L2
noncomputable section
variable {P:yD} {w:yR} {K:xF} {mg:Str->Option xB} {base:zN} {X:Cx} {N:List Str} {sc:Scope} {k:Nat} {df:Bool} {E:EK} {p:Pos} {a c e:Expr} {f g:Dn->Res wY} {x:Str} {i:Nat}
theorem okVar.pe (C:Cxt P w K mg base X N sc k df) (h:okVar N sc i x=true):PE X (.Name x p) (nJ i):=by
 unfold okVar at h;simp only [yE,CU] at h;obtain ⟨⟨⟨h1,h2⟩,h3⟩,h4⟩:=h;refine aI (by rw [C.hN]; exact w5 h1) ?_ h3 h4;rw [C.hs];unfold Vis;cases q:sc.names.lookup x with
 | none=>rw [q] at h2; cases h2
 | some z =>
   rw [q] at h2;cases z with
   | «local» => exact .inl rfl
   | cell=>exact .inr (.inl rfl)
   | free=>exact .inr (.inr rfl)
   | _=>cases h2
theorem SR.own {G H:Hp} {Z:St} {δ:Dn} (S:SR G H Z δ) {d:wY} (hi:δ[i]? = some (.ow d)):∃ q,Z[i]? = some (some (.ref q))/\G q=none/\OwnOk G H q d:=by
 obtain ⟨q,hq,hg,ok⟩:=S.sl i _ hi;refine ⟨q,?_,hg,ok⟩;cases z:Z[i]? with
 | none=>rw [z] at hq; cases hq
 | some z'=>rw [z] at hq; cases z' with
   | none=>cases hq
   | some z''=>cases hq; rfl
noncomputable def N2 (N:List Str) (ds:List wY):Dn:=ds.map .sh++yB (N.length - ds.length) .un
noncomputable def fnD (N:List Str) (g:Dn->Out):List wY->Res wY:=fun ds=>match g (N2 N ds) with
 | .rt d=>.ok d
 | .nx _=>.ok .none
 | .exc c=>.exc c
 | _=>.no
theorem We {G H:Hp} (hG:Same G H) {ds:List wY} {vs:List V} (r:RepL G ds vs) (N:List Str):SSt G H G H (Br N vs) (N2 N ds):=by
 have hl:=r.length;have noow:∀ (i:Nat) (d:wY),(N2 N ds)[i]? ≠ some (.ow d):=fun i d e=>by
   unfold N2 at e;by_cases hi:i < ds.length
   . rw [yZ (by simpa using hi),yM] at e
     cases q:ds[i]? with
     | none=>rw [q] at e; cases e
     | some z=>rw [q] at e; cases e
   . rw [zH (by simpa using n0.mp hi),v5] at e
     split at e <;> cases e
 refine ⟨Grow.refl hG,⟨hG,by unfold L2.Br N2; simp [hl],fun i s e=>?_,fun i j a d d' e _ _ _=>absurd e (noow i d)⟩,fun i d a e _=>absurd e (noow i d)⟩;unfold N2 at e;by_cases hi:i < ds.length
 . rw [yZ (by simpa using hi),yM] at e
   cases q:ds[i]? with
   | none=>rw [q] at e; cases e
   | some z =>
     rw [q] at e; cases e;obtain ⟨v,e1,rv⟩:=r.get q; unfold L2.Br; rw [yZ (by rw [xG,<- hl]; exact hi),yM,e1];exact ⟨v,rfl,rv⟩
 . rw [zH (by simpa using n0.mp hi),v5] at e
   split at e <;> cases e
   trivial
structure Def (K:xF) (mg:Str->Option xB) (x:Str) (st:AR) (ps:List Str):Prop where
 ex:∃ f fd,L2.Fun K x x st f fd/\mg x=some (.ref f)/\Binds K fd ps []
theorem lU {x:Str} {st:AR} {ps:List Str} {n:Nat} {go:Dn->Out} {m:List wY->Res wY} {f:xI} {fd:DZ} (F:L2.Fun K x x st f fd) (S:FnScope N ps (A6 st)) (hn:ps.length=n)
   (body:∀ X,Cxt P w K mg base X N (A6 st) k true->DSs X E0k (B7 st) go) (hm:m=fnD N go):FnOk P w K mg base CX0 (k+1) f fd ps (spD n m):=by
 subst hm;refine F.ok S (fun vs H Q E h=>?_) (fun cdv A outer s H vs Q E hr h=>?_)
 . obtain ⟨G,ds,d,_,r,hl,_⟩:=h
   rw [<- r.length,hl,hn]
 . obtain ⟨G,ds,d,hG,r,hl,em,q⟩:=h
   refine ⟨_,body _ ⟨rfl,rfl,rfl,rfl,rfl,rfl,rfl,rfl,hr,fun _ _=>rfl,DH⟩ G H,G,_,We hG r N,?_⟩;unfold fnD at em;cases eg:go (N2 N ds) with
   | rt d'=>rw [eg] at em; cases em; exact fun v G' H' g r'=>q v G' H' g r'
   | nx δ=>rw [eg] at em; cases em; exact fun Z G' H' S'=>q _ G' H' S'.gr rfl
   | bk _=>rw [eg] at em; cases em
   | ct _=>rw [eg] at em; cases em
   | exc _=>rw [eg] at em; cases em
   | no=>rw [eg] at em; cases em
theorem Ah {x:Str} {st:AR} {ps:List Str} {n:Nat} {go:Dn->Out} {m:List wY->Res wY} (F:Def K mg x st ps) (S:FnScope N ps (A6 st)) (hn:ps.length=n)
   (body:∀ X,Cxt P w K mg base X N (A6 st) k true->DSs X E0k (B7 st) go) (hm:m=fnD N go):Fn P w K mg base x (k+1) n m:=by
 obtain ⟨f,fd,F,hmg,hb⟩:=F.ex;exact ⟨f,fd,ps,hn,lU F S hn body hm,hmg,F.kp,hb⟩
end
end Sm
end
noncomputable section
namespace Sm
open PySem PySem.Spec PyProof.Rows L2
def Made (h:zN) (H:Hp) (h0:zN) (a:xI) (c:xB):Prop :=
 ∃ oe vs a0,h.get? a=some oe/\oe.cls=c/\oe.data=.fields vs/\vs[0]? = some a0/\h0.get? a=none/\H a=none/\vs[1]? = some .none
end Sm
end
noncomputable section
namespace Sm
open PySem PySem.Spec PyProof.Rows L2
end Sm
end
noncomputable section
namespace Sm
open PySem PySem.Spec PyProof.Rows L2
noncomputable section
variable {X:Cx} {k:Nat} {E:EK} {p:Pos} {a b c e:Expr} {g:Dn->Res wY} {i:Nat} {tt:Dn->Res Bool}
noncomputable def cFz (i:Nat) (c:Dn->Res Bool):Dn->Res Bool:=fun δ=>c (fz i δ)
theorem SR.fz {G H:Hp} {Z:St} {δ:Dn} (S:SR G H Z δ) (i:Nat):∃ G',SR G' H Z (fz i δ):=by
 unfold Sm.fz;split
 . rename_i ds hi
   obtain ⟨p,hp,hg,xs,hx,r⟩:=S.sl i _ hi; have hv:Z[i]? = some (some (.ref p)):=by
     cases q:Z[i]? with
     | none=>rw [q] at hp; cases hp
     | some z=>rw [q] at hp; cases z with
       | none=>cases hp
       | some z=>cases hp; rfl
   have key:∀ (j:Nat) (d':wY),(δ.set i (.sh (.list ds)))[j]? = some (.ow d')->δ[j]? = some (.ow d')/\j≠i:=fun j d' e=>by
     rw [E2] at e;split at e
     . cases e
     . rename_i hn
       refine ⟨e,fun z=>?_⟩;subst z; exact hn ⟨rfl,(yJ.mp hi).1⟩
   have sm:Same G (upd G p (.lst xs)):=Same.upd hg; have sub:Same (upd G p (.lst xs)) H:=fun b u e=>by
     by_cases hb:b=p
     . subst hb; rw [B8] at e; rw [hx]; exact e
     . rw [C0 hb] at e; exact S.sub _ _ e
   refine ⟨_,sub,by simp [S.len],fun j s e=>?_,fun j1 j2 a d1 d2 e1 e2 h1 h2=>S.ap j1 j2 a d1 d2 (key j1 d1 e1).1 (key j2 d2 e2).1 h1 h2⟩;by_cases hj:i=j/\i < δ.length
   . rw [E2,if_pos hj] at e
     cases e; rw [<- hj.1,hv]; exact ⟨_,rfl,p,xs,rfl,.inl B8,r.mono sm⟩
   . have e2:=e
     rw [E2,if_neg hj] at e2; have hs:=S.sl j s e2;cases s with
     | un=>trivial
     | sh d=>obtain ⟨v,e1,r1⟩:=hs; exact ⟨v,e1,r1.mono sm⟩
     | fd _=>exact FdOk.mono sm hs
     | ow d2 =>
       obtain ⟨a,e1,n1,ok⟩:=hs; have hne:a≠p:=by
         rintro rfl;exact (key j d2 e).2 (S.ap j i a d2 _ e2 hi e1 hp)
       refine ⟨a,e1,by rw [C0 hne]; exact n1,?_⟩;cases d2 with
       | list ds=>obtain ⟨xs,q,r⟩:=ok; exact ⟨xs,q,r.mono sm⟩
       | dict kvs=>obtain ⟨xs,q,k,r⟩:=ok; exact ⟨xs,q,k,r.mono sm⟩
       | tuple xs=>exact OwnK.keep sm (fun o q=>q) ok
       | _=>exact (show False from ok).elim
 . exact ⟨G,S⟩
theorem sV (i:Nat) (h:DT X E c tt):DT X E c (cFz i tt):=PT.imp h fun Z H Q hZ3=>by
 obtain ⟨G,δ,S,a⟩:=hZ3;obtain ⟨G',S'⟩:=S.fz i;refine ⟨G',_,S',?_⟩;unfold cFz at a;cases e:tt (fz i δ) with
 | ok d=>rw [e] at a; exact fun G2 H2 g=>a G H2 ⟨Same.refl _,g.h,S.sub.trans g.h,fun _ _ z=>.inl z⟩
 | exc c=>rw [e] at a; exact fun G2 H2 g=>a G H2 ⟨Same.refl _,g.h,S.sub.trans g.h,fun _ _ z=>.inl z⟩
 | no=>rw [e] at a; exact a
end
end Sm
end
noncomputable section
namespace Sm
open PySem PySem.Spec PyProof.Rows L2
noncomputable section
variable {P:yD} {w:yR} {K:xF} {mg:Str->Option xB} {base:zN} {X:Cx} {N:List Str} {sc:Scope} {k:Nat} {df:Bool} {E:EK} {pos p p2:Pos} {a b c e:Expr} {f g:Dn->Res wY} {x:Str} {i:Nat}
noncomputable def Hs:wY->Bool
 | .none=>true
 | .bool _=>true
 | .int _=>true
 | .str _=>true
 | _=>false
theorem Rep.atom {G G':Hp} {d:wY} {v:V} (r:Rep G d v) (h:Hs d=true):Rep G' d v:=by
 cases d with
 | none=>exact r
 | bool _=>exact r
 | int _=>exact r
 | str _=>exact r
 | _=>cases h
noncomputable def vFz (i:Nat) (f:Dn->Res wY):Dn->Res wY:=fun δ=>(f (fz i δ)).bind fun d=>if Hs d=true then .ok d else .no
theorem wH (i:Nat) (h:DE X E e f):DE X E e (vFz i f):=PE.imp h fun Z H Q hZ3=>by
 obtain ⟨G,δ,S,a⟩:=hZ3;obtain ⟨G',S'⟩:=S.fz i;refine ⟨G',_,S',?_⟩;unfold vFz at a;cases q:f (fz i δ) with
 | ok d =>
   rw [q] at a; simp only [Res.bind] at a;split at a
   . rename_i hd
     exact fun v G2 H2 g r=>a v G H2 ⟨Same.refl _,g.h,S.sub.trans g.h,fun _ _ z=>.inl z⟩ (r.atom hd)
   . exact (show False from a).elim
 | exc c=>rw [q] at a; exact fun G2 H2 g=>a G H2 ⟨Same.refl _,g.h,S.sub.trans g.h,fun _ _ z=>.inl z⟩
 | no=>rw [q] at a; exact a
noncomputable def Wq (i:Nat) (fk fv:Dn->Res wY):Dn->Out:=fun δ=>match δ[i]? with
 | some (.ow (.list ds))=>M9 (fv δ) fun v=>M9 (fk δ) fun kd=>match kd with
   | .int k=>(match ixN ds.length k with
     | some j=>.nx (δ.set i (.ow (.list (ds.set j v))))
     | none=>.no)
   | _=>.no
 | _=>.no
theorem RepL.set {G:Hp} {d:wY} {v:V} (r:Rep G d v):∀ {ds:List wY} {vs:List V} (j:Nat),RepL G ds vs->RepL G (ds.set j d) (vs.set j v)
 | [],_,_,h=>by cases (show _=_ from h); rfl
 | _::_,_,0,h=>by
   obtain ⟨v0,r0,rfl,h1,h2⟩:=h; exact ⟨v,r0,rfl,r,h2⟩
 | _::_,_,j+1,h=>by
   obtain ⟨v0,r0,rfl,h1,h2⟩:=h; exact ⟨v0,_,rfl,h1,RepL.set r j h2⟩
theorem tM (C:Cxt P w K mg base X N sc k df) (i:Nat) (h:okVar N sc i x=true) (hk:DE X E a f) (hv:DE X E b g)
   (hs:swapsWithSole [.Subscript (.Name x p) a p2] b pos.line X.env=pure false:=by rfl) (hw:swappedStores [.Subscript (.Name x p) a p2] b X.env=pure none:=by rfl)
   (h1:(FL [.Subscript (.Name x p) a p2] X.env).map (·.2)=[HS (.Subscript (.Name x p) a p2) X.env]:=by rfl)
   (ha:∀ v,HS (.Subscript (.Name x p) a p2) X.env v=(do
     let ov <- holding [v] (eval (.Name x p) X.env)
     let iv <- holding [v,ov] (eval a X.env)
     standAt p2
     holding [v,ov,iv] (setItem ov iv v)
     release [v,ov,iv] []):=by intro _; rfl):DS X E (.Assign [.Subscript (.Name x p) a p2] b pos) (Wq i f g):=fun G0 H0=>by
 refine PS.imp (uJ hv (uK (okVar.pe C h) hk iZ ha) hs hw h1) fun D Z H hZ3=>?_;obtain ⟨G,δ,S,aft⟩:=hZ3;unfold Wq at aft;split at aft
 . rename_i ds hi
   refine Ie S aft fun v x1 G1 H1 g1 r1 S1 a1=>?_;obtain ⟨q,hσ,hg,xs,hx,hvals⟩:=S1.sr.own hi; refine ⟨.ref q,hσ,?_⟩; refine Ie S1 a1 fun kd x2 G2 H2 g2 r2 S2 a2=>?_;obtain ⟨q',hσ',hg',xs',hx',hvals'⟩:=S2.sr.own hi; rw [hσ] at hσ'; cases hσ';cases kd with
   | int kk =>
     cases (show _=_ from r2);simp only at a2;cases ej:ixN ds.length kk with
     | none=>rw [ej] at a2; exact (show False from a2).elim
     | some j =>
       rw [ej] at a2; refine ⟨q,xs',kk,j,rfl,rfl,hx',by rw [<- hvals'.length]; exact ej,?_⟩;exact a2 Z G2 _ (S2.write hi (by rw [hσ]; rfl) hg' ⟨_,B8,RepL.set (r1.mono g2.g) j hvals'⟩)
   | _=>exact (show False from a2).elim
 . exact aft.elim
end
end Sm
end
noncomputable section
namespace Sm
open PySem PySem.Spec PyProof.Rows L2 PySem.Builtin.Str
noncomputable section
variable {X:Cx} {e:Expr} {x:Str} {i:Nat}
noncomputable def Fp (z:Str):wY->Option wY
 | .str y=>match occurrences z y 0 z.length 1 with
   | i::_=>some (.int i)
   | []=>none
 | _=>none
theorem kS:MtR X "str.index" (fun x vs H Q=>∃ z y i G6,x=.str z/\vs=[.str y]/\occurrences z y 0 z.length 1=i::G6/\Q (.int (i:Nat)) H):=by
 rintro pins s Z H x vs v us Q I rx rv ⟨z,y,i,G6,e1,e2,e,q⟩;subst e1 e2;obtain ⟨t,rfl⟩:=rx;obtain ⟨u,rfl,ru⟩:=rv.one;obtain ⟨t2,rfl⟩:=ru;exact PySem.SC.index e ⟨.int i,H,I.tok _,⟨_,rfl⟩,q⟩
end
end Sm
end
noncomputable section
namespace Sm
open PySem PySem.Spec PyProof.Rows L2
noncomputable section
variable {X:Cx} {E:EK} {a b:Expr} {f g:Dn->Res wY} {x:Str} {i:Nat}
noncomputable def Mm (g f:Dn->Res wY):Dn->Res wY:=fun δ=>(g δ).bind fun z=>match z with
 | .str z=>(f δ).bind fun d=>ofO (Fp z d)
 | _=>.no
theorem mD {apos cpos:Pos} (hb:DE X E b g) (ha:DE X E a f) (hbase:AD b "index" X.env (eval b X.env)=eval b X.env:=by rfl)
   (hfew:((i6 cpos (xO [a] X.env)).all (fun x => !x.1)&&(GI cpos (DG [] X.env)).all (fun x=>x.1.isSome)
     && decide ([a].length+([]:List BW).length+(if ([]:List BW).isEmpty then 0 else 1) < 30))=true:=by rfl)
   (hline:(apos.endLine==cpos.line)=true:=by rfl) (hs:xO [a] X.env=(false,eval a X.env)::xO [] X.env:=by rfl) (hplain:(i6 cpos (xO [] X.env)).any (·.1)=false:=by rfl) :
   DE X E (.Call (.Attribute b "index" apos) [a] [] cpos) (Mm g f):=by
 refine PE.imp (Xd JW PySem.F.slot_str_index PySem.F.type_str_index kS hb (L7 ha R0 hs) hbase hfew hline hs hplain) fun Z H Q hZ3=>?_;obtain ⟨G,δ,S,aft⟩:=hZ3;refine L3 S aft fun d0 v0 G0 H0 g0 r0 S0 a0=>?_;cases d0 with
 | str z =>
   cases r0.1;refine ⟨rfl,?_⟩; refine L3 S0 a0 fun d v G1 H1 g1 r1 S1 a1=>?_;cases d with
   | str y =>
     cases r1.1;cases eo:CB z y 0 z.length 1 with
     | nil=>simp only [Fp,eo] at a1; exact (show False from a1).elim
     | cons i G6 =>
       simp only [Fp,eo] at a1; exact ⟨z,y,i,G6,rfl,rfl,eo,a1 _ G1 H1 (Grow.refl S1.sub) rfl⟩
   | _=>exact (show False from a1).elim
 | _=>exact (show False from a0).elim
end
end Sm
end
noncomputable section
namespace Sm
open PySem PySem.Spec PyProof.Rows L2
end Sm
end
noncomputable section
namespace Sm
open PySem PySem.Spec PyProof.Rows L2
end Sm
end
noncomputable section
namespace Sm
open PySem PySem.Spec PyProof.Rows L2
open AutoSeq1 (wpAny_loadPart')
end Sm
end
noncomputable section
namespace Sm
open PySem PySem.Spec PyProof.Rows L2
end Sm
end
noncomputable section
namespace Sm
open PySem PySem.W PyProof.Rows
noncomputable section
variable {prog:yD} {w:yR} {A:zI} {E:xB->xC->Prop} {s:xC}
theorem Vg {T:String} {r d:xI} {n:Nat} {P:Nat->xB->Prop} {OK:zN->Prop} {Q:List xB->xC->Prop} (K:KdlSrc prog w T r d n P OK) (hh:A.handled=none) (hok:OK s.heap) (hn:n<=sizeLine)
   (hQ:∀ (h':zN) tk acc,(∀ b o,s.heap.get? b=some o->h'.get? b=some o)->ItemsOf P acc n->Q acc.toList { s with heap:=h',toks:=tk }):wpAny (xW prog w) A (collect (.ref r)) Q E s:=by
 have hlt:=K.there _ hok;have hS:(s.heap.push { cls:=.type "list",data:=.seq ([]:List xB).toArray }).get? s.heap.objs.size=some { cls:=.type "list",data:=.seq #[] 0 }:=xQ _ rfl;unfold collect;refine wZ (LC (k7 F.entry_proto_collect ?_));rw [e9 F.plain_proto_collect _];refine wZ (zC (xA ⟨CO F.plain_list_iadd _,k7 F.entry_list_iadd ?_⟩));rw [e9 F.plain_list_iadd _];refine i5 (kdl_extend (A:=A) (s:={ s with heap:=s.heap.push { cls:=.type "list",data:=.seq ([]:List xB).toArray } })
   (R:=fun res s'=>∃ h' tk acc c,res=.ok (.ret (.ref s.heap.objs.size))/\s'={ s with heap:=h',toks:=tk }/\(∀ b o,s.heap.get? b=some o->h'.get? b=some o) /\
     h'.get? s.heap.objs.size=some { cls:=.type "list",dict:=none,data:=.seq acc c,slots := #[] }/\ItemsOf P acc n)
   K hh (K.keep _ _ hok fun b _ o e=>xE _ e) s.heap.objs.size (BC hlt.1) (BC hlt.2) (.ref s.heap.objs.size) 0 hS
   (fun h' tk acc c hk hS' hacc=>⟨h',tk,acc,c,rfl,rfl,fun b o e=>hk b o (yN (xV e)) (xE _ e),hS',hacc⟩) hn) (fun fin s' h=>?_) (fun e s' h=>?_)
 . cases fin with
   | done f =>
     obtain ⟨h',tk,acc,c,e,rfl,hk,hS',hacc⟩:=h; cases e; exact wZ (LD hS' (xA (hQ h' tk acc hk hacc)))
   | again c' =>
     refine ⟨h.1,AK h.2 fun r s'' hr=>?_⟩;obtain ⟨h',tk,acc,c,rfl,rfl,hk,hS',hacc⟩:=hr; exact wZ (LD hS' (xA (hQ h' tk acc hk hacc)))
 . obtain ⟨_,_,_,_,e,_⟩:=h
   cases e
end
end Sm
end
noncomputable section
namespace Sm
open PySem PySem.Spec PyProof.Rows L2
end Sm
end
noncomputable section
namespace Sm
open PySem PySem.Spec PyProof.Rows L2
end Sm
end
noncomputable section
namespace Sm
open PySem PySem.Spec
theorem Ut:II (.type "list") "keys" = pure none:=by
 rw [AH,m8]; kernel_rfl
theorem Uu:II (.type "list") "__getattr__" = pure none:=by
 rw [AH,m8]; kernel_rfl
noncomputable section
variable {prog:yD} {w:yR} {A:zI} {E:xB->xC->Prop} {h:zN} {g:Array LU} {d:Drawn} {t:Nat} {os:OsState} {a:xI} {vs:Array xB} {n:Nat}
theorem fX {tk:Tok} {Q:Fin->xC->Prop} (hA:A.handled=none) (hx:h.get? a=some { cls:=.type "list",data:=.seq vs n })
   (hq:∀ h' tk' e,Heap.NewAttrErr h h' e (.ref a) "keys" -> E (.ref e) ⟨h',g,d,tk',os⟩) :
   wpAny (xW prog w) A (i7.«object.__getattribute__» ⟨[.ref a,.str "keys" tk],[]⟩) Q E ⟨h,g,d,t,os⟩:=by
 have hT:(⟨h,g,d,t,os⟩:xC).TypeIs (.ref a) "list" := ⟨_,hx,rfl⟩;have f4:=Ut;unfold i7.«object.__getattribute__»
 repeat (any_goals (first | assumption | wp_step))
 exact wpAny_raiseAttrError hA hq (attrMsg_fits (by decide +kernel) (by decide))
theorem fW {Q:Option xB->xC->Prop} (hA:A.handled=none) (hx:h.get? a=some { cls:=.type "list",data:=.seq vs n })
   (hq:∀ h' tk',(∀ b o,h.get? b=some o->h'.get? b=some o)->Q none ⟨h',g,d,tk',os⟩):wpAny (xW prog w) A (getAttr? (.ref a) "keys") Q E ⟨h,g,d,t,os⟩:=by
 have hT:∀ s':xC,s'.heap=h->s'.TypeIs (.ref a) "list" := fun s' e=>⟨_,by rw [e]; exact hx,rfl⟩;have f1:=sub_AttributeError;have f2:=F.slot_list_getattribute.lookup;have f3:=F.slot_list_getattribute.bind (.ref a);have f5:=Uu;unfold getAttr? getAttrBy? getAttrBy;refine wZ (wpAny_mkText (wZ (AC ?_)));have hT1:=hT ⟨h,g,d,t+1,os⟩ rfl
 repeat (any_goals (first | assumption | wp_step))
 refine HR F.slot_list_getattribute.plain F.entry_list_ga
   (F.slot_list_getattribute.check _ _ _ _ _ _ _ _ hT1 (F.args_list_getattribute_2 _ _)
     (fX hA hx fun h' tk' e hx'=>?_))
 obtain ⟨t',u',he⟩:=hx'.there;have kp:=hx'.keeps;show wpAny _ _ (getattributeRaised _ _ _ _ _ _ _) _ _ _;unfold getattributeRaised
 repeat (any_goals (first | assumption | wp_step))
 exact hq _ _ kp
end
end Sm
end
noncomputable section
namespace Sm
open PySem PySem.Spec PyProof.Rows L2
theorem Eo:HQ table "dict.update.loop" = some i7.«dict.update.loop» := JR ⋯
theorem El:plainId "dict.update.loop" = true:=by decide +kernel
end Sm
end
noncomputable section
namespace Sm
open PySem PySem.Spec PyProof.Rows L2
abbrev Kvs:=List (wY×wY)
noncomputable def Ep (g1:Dn->Out) (g2:Dn->Res Kvs):Dn->Res Kvs:=fun δ=>match g1 δ with
 | .nx δ'=>g2 δ'
 | .exc c=>.exc c
 | _=>.no
noncomputable def fnW (N:List Str) (g:Dn->Res Kvs):List wY->Res Kvs:=fun ds=>g (N2 N ds)
noncomputable def Cq (fs:Dn->Res (List wY)) (m:List wY->Res Kvs):Dn->Res Kvs:=fun δ=>(fs δ).bind m
end Sm
end
noncomputable section
namespace Sm
open PySem PySem.Spec PyProof.Rows L2
theorem Ue:Slot "reversed" "__init__" "object.__init__" :=
 .of (owner := "object") (n := "__init__") (by rw [AH,m8]; kernel_rfl) (by decide +kernel) (by decide +kernel) (by decide +kernel) (by first | exact .inl (by decide +kernel) | exact .inr (by decide +kernel)) (by rw [BY]; kernel_rfl)
theorem Kf:TypeCalled "reversed" "reversed.__new__" "object.__init__" :=
 ⟨by decide +kernel,by decide +kernel,⟨_,_,F.mro_reversed⟩,F.made_reversed,by decide +kernel,F.sub_reversed_self,Ue⟩
theorem V4:Slot "reversed" "__next__" "reversed.__next__" :=
 .of (owner := "reversed") (n := "__next__") (by rw [AH,m8]; kernel_rfl) (by decide +kernel) (by decide +kernel) (by decide +kernel) (by first | exact .inl (by decide +kernel) | exact .inr (by decide +kernel)) (by rw [BY]; kernel_rfl)
theorem Iy:Slot "reversed" "__iter__" "reversed.__iter__" :=
 .of (owner := "reversed") (n := "__iter__") (by rw [AH,m8]; kernel_rfl) (by decide +kernel) (by decide +kernel) (by decide +kernel) (by first | exact .inl (by decide +kernel) | exact .inr (by decide +kernel)) (by rw [BY]; kernel_rfl)
theorem Gp:HQ table "reversed.__next__" = some i7.«reversed.__next__» := JR ⋯
theorem Qu:HQ table "reversed.__iter__" = some i7.«dict_keyiterator.__iter__» := by
 exact HP (id' := "dict_keyiterator.__iter__") ⋯ (by decide +kernel) (by decide +kernel) ⋯
theorem Iz (a:xB):JT "reversed.__next__" ⟨[a],[]⟩:=by unfold JT; kernel_rfl
theorem Uf (a:xB):JT "reversed.__iter__" ⟨[a],[]⟩:=by unfold JT; kernel_rfl
theorem nW:II (.type "tuple") "__reversed__" = pure none:=by rw [AH,m8]; kernel_rfl
theorem nY:isSubtype (.type "tuple") (.type "dict")=pure false:=by rw [BY]; kernel_rfl
def IsRvT (h:zN) (a l:xI) (i:Int):Prop:=∃ o,h.get? a=some o/\o.cls=.type "reversed" /\ o.data=.fields #[.ref l,BJ i]
noncomputable section
variable {prog:yD} {w:yR} {A:zI} {E:xB->xC->Prop} {s:xC}
theorem IsRvT.typeIs {a l:xI} {i:Int} (x:IsRvT s.heap a l i):s.TypeIs (.ref a) "reversed" := let ⟨o,ho,hc,_⟩:=x; ⟨o,ho,hc⟩
theorem nZ {l:xI} {items:Array xB} {Q₁:xB->xC->Prop} (hl:HB s.heap l items) (hz:items.size<=sizeLine)
   (h:∀ tk,Q₁ (.ref s.heap.objs.size) { s with heap:=s.heap.push { cls:=.type "reversed",data:=.fields #[.ref l,BJ ((items.size:Int) - 1)] },toks:=tk }) :
   EJ (xW prog w) A (.call (.builtin "reversed.__new__") ⟨[.type "reversed",.ref l],[]⟩) (wants Q₁ E) s:=by
 refine GY (wZ (AB (F.newCall_reversed_1 _) (xA ⟨CO F.plain_reversed_new _,k7 F.entry_reversed_new ?_⟩)));rw [e9 F.plain_reversed_new _];unfold i7.«reversed.__new__»;refine wZ (AB (newClass_reversed _) (wZ (AB (a:=()) (by first | rfl | kernel_rfl) (wZ (AB (a:=()) (by first | rfl | kernel_rfl) ?_)))));refine wZ (w8 hl.typeIs nW ?_);try dsimp only
 refine wZ (wZ (CD hl.typeIs nY ?_));simp only [xY,if_false];refine wZ (w8 hl.typeIs IJ.lookup ?_);dsimp only;rw [if_pos (by decide +kernel)];refine xA ?_;simp only [FJ,xY,if_false];have hn:=Eb;refine wZ (len_tuple hl (by lia) (wZ (AB (a:=some (items.size:Int)) rfl ?_)));refine wZ ?_;show wpAny _ _ (newObj (AT "reversed") (.fields #[.ref l,BJ ((items.size:Int) - 1)])) _ _ _;exact zC (xA (h _))
theorem oA {l:xI} {items:Array xB} {Q:xB->xC->Prop} (hl:HB s.heap l items) (hz:items.size<=sizeLine)
   (h:∀ tk,Q (.ref s.heap.objs.size) { s with heap:=s.heap.push { cls:=.type "reversed",data:=.fields #[.ref l,BJ ((items.size:Int) - 1)] },toks:=tk }):wpAny (xW prog w) A (call (.type "reversed") [.ref l]) Q E s:=by
 refine callType_codes (Q₁:=fun obj t=>t.TypeIs obj "reversed" /\ Q obj t) Kf (F.typeCall_reversed_1 _) F.entry_object_init (nZ hl hz fun tk=>⟨⟨_,xQ _ rfl,rfl⟩,h tk⟩) fun obj t ht=>?_;exact ⟨ht.1,F.args_object_init_2 obj _,object_init_meets Kf.init.lookup Kf.made (by decide) prog w A.in1 _ t ⟨ht.1,rfl,ht.2⟩⟩
theorem nX {it l:xI} {i:Nat} {items:Array xB} {x:xB} {Q:Option xB->xC->Prop} (hit:IsRvT s.heap it l (i:Int)) (hl:HB s.heap l items) (hz:items.size<=sizeLine) (hx:items[i]? = some x)
   (hQ:∀ h' tk,IsRvT h' it l ((i:Int) - 1)->c8 it s.heap h'->Q (some x) { s with heap:=h',toks:=tk }):wpAny (xW prog w) A (pyNext (.ref it)) Q E s:=by
 obtain ⟨o,ho,hc,hd⟩:=id hit;have hi:i < items.size:=by
   rcases CZ i items.size with h | h
   . exact h
   . simp [h] at hx
 have hn:=Eb;unfold pyNext;refine wZ (AC ?_);refine zK (name:=o7 "__next__") hit.typeIs V4 ?_;refine zD V4 hit.typeIs Gp ?_ (Iz _);unfold i7.«reversed.__next__»;refine wZ (AB (a:=(zP it,[])) rfl ?_);try dsimp only
 refine wZ (DC ho hd (x:=.ref l) rfl (wZ (DC ho hd (x:=BJ (i:Int)) rfl ?_)));show wpAny _ _ (if (i:Int) < 0 then _ else _) _ _ s;rw [if_neg (by lia)];refine wZ (w8 hl.typeIs IJ.lookup ?_);rw [if_neg (by simp)];refine wZ (wpAny_mkInt (wZ (AC ?_)));refine getItem_tuple (s:={ s with toks:=s.toks+1 }) (j:=i) hl (by lia) (by lia) ?_ hx ?_
 . unfold seqIndex?
   first | (simp; lia) | (rw [if_neg (by lia),if_pos (by lia)]; simp) | (split <;> simp_all <;> lia)
 . try dsimp only
   refine wZ (DC (s:={ s with toks:=s.toks+1 }) ho hd (x:=BJ (i:Int)) rfl ?_); show wpAny _ _ (JC (.ref it) 1 (BJ ((i:Int) - 1))>>=_) _ _ _;refine wZ (FK (s:={ s with toks:=s.toks+1 }) ho hd (by simp) ?_);refine xA ⟨x,rfl,xA (hQ _ _ ?_ (zY ..))⟩; exact ⟨_,c6 _ ho (GK (BB hd _)),(Obj.cls_mapFields ..).trans hc,by rw [BB hd]; simp⟩
theorem tV {it l:xI} {j:Int} {Q:Option xB->xC->Prop} (hj:j < 0) (hh:A.handled=none) (hit:IsRvT s.heap it l j)
   (hQ:∀ h',FF it s.heap h'->Q none { s with heap:=h' }):wpAny (xW prog w) A (pyNext (.ref it)) Q E s:=by
 obtain ⟨o,ho,hc,hd⟩:=id hit;unfold pyNext;refine wZ (AC ?_);refine zK (name:=o7 "__next__") hit.typeIs V4 ?_;refine zD V4 hit.typeIs Gp ?_ (Iz _);unfold i7.«reversed.__next__»;refine wZ (AB (a:=(zP it,[])) rfl ?_);try dsimp only
 refine wZ (DC ho hd (x:=.ref l) rfl (wZ (DC ho hd (x:=BJ j) rfl ?_)));show wpAny _ _ (if j < 0 then _ else _) _ _ s;rw [if_pos hj];refine wZ (f8 ?_);have ho1:=c6 (KL (·.setIfInBounds 1 (BJ (-1)))) ho (GK (BB hd _));have hd1:=BB hd (fun a=>a.setIfInBounds 1 (BJ (-1)));refine wZ ?_;show wpAny _ _ (JC (.ref it) 1 (BJ (-1))>>=fun _=>JC (.ref it) 0 .none) _ _ _;refine wZ (FK ho hd (by simp) (FK ho1 hd1 (by simp) (wZ ?_)))
 show wpAny _ _ (newExc (.type "StopIteration") []>>=_) _ _ _;refine wZ ?_;simp only [newExc,newTuple];refine wZ (zC ?_ (by size_fits));refine wZ (m:=DU _ _) (AB (a:=k9) (by first | rfl | (simp only [DU]; rfl)) (zC ?_ (by size_fits)));simp only [raiseNew];refine wZ (wpAny_handled ?_);rw [show A.in1.handled=none from hh];refine wZ (xA (wpAny_throw (wZ ?_)));refine CD (T := "StopIteration") (b:=true) ⟨_,xQ _ rfl,rfl⟩ LH ?_;refine xA (hQ _ (KP (KP ?_ _) _))
 intro b ob hb eb;exact ((zY ..).extBut b ob hb ((zY ..).extBut b ob hb eb))
theorem cB {it l:xI} {i:Int} {Q:xB->xC->Prop} (hit:IsRvT s.heap it l i) (h:Q (.ref it) s):wpAny (xW prog w) A (JO (.ref it)) Q E s:=by
 refine FS hit.typeIs Iy (zD Iy hit.typeIs Qu ?_ (Uf _));show wpAny _ _ (ret (.ref it)) _ _ s;exact xA ⟨_,rfl, "reversed",_,hit.typeIs,V4.lookup,h⟩
end
def ItV (K:xF) (a:xI) (n:Nat):It :=
 ⟨fun i H=>i < n/\∃ xs x,SqT K H a xs/\xs.length=n/\xs[n - 1 - i]? = some x,fun i H x H'=>H'=H/\∀ xs,SqT K H a xs->xs[n - 1 - i]? = some x,fun i H=>n<=i⟩
theorem iA {P:yD} {w:yR} {K:xF} {tg:Expr} (a it:xI) (n:Nat):Turn P w K tg (ItV K a n) [it] it (fun i h=>IsRvT h it a ((n:Int) - 1 - i)) where
 mem:=by simp
 obj:=fun i h st b hb=>by
   have e:b=it:=by simpa using hb
   subst e; obtain ⟨o,e,c,d⟩:=st; exact ⟨o,e,fun v z=>by rw [d] at z; cases z⟩
 keep:=fun i h h' st k=>by
   obtain ⟨o,e,r⟩:=st; exact ⟨o,k it (by simp) o e,r⟩
 item:=by
   intro X hP hw hK hc i pins s Z H E I hf st hg; subst hP hw hK; obtain ⟨hi,xs,x,hq,hn,hx⟩:=hg; obtain ⟨its,rv,p,hz⟩:=I.tuple hq; obtain ⟨u,hu,ru⟩:=rv.get hx; have hl:=rv.length; obtain ⟨f0,f1,f2,f3,f4,f5⟩:=hf it (by simp);have e1:(n:Int) - 1 - (i:Int)=((n - 1 - i:Nat):Int):=by lia
   rw [e1] at st; refine nX st (show HB s.heap a its.toArray from p) (by simp only [xU]; lia) (x:=u) (by simpa using hu) fun h' tk st' sb=>?_;have I1:Inv X pins Z H { s with heap:=h',toks:=tk }:=I.turned (t':=tk) (fun b o hb e=>(sb.2 b hb).trans e) f0 f1 f3 f4 f5;obtain ⟨o,e,c,d⟩:=id st'; refine ⟨u,rfl,Sr (s:={ s with heap:=h',toks:=tk }) e c d (by decide) ⟨x,H,I1,ru,⟨rfl,fun ys hy=>by rw [I.tuple_inj hy hq]; exact hx⟩,?_,fun b hb=>(hf b hb).1⟩⟩;have e2:((n - 1 - i:Nat):Int) - 1=(n:Int) - 1 - ((i+1:Nat):Int):=by lia
   rw [e2] at st'; exact st'
 done:=by
   intro X hP hw hK hc i pins s Z H E I hf st hg; subst hP hw hK; have hi:n<=i:=hg; obtain ⟨f0,f1,f2,f3,f4,f5⟩:=hf it (by simp);exact tV (by lia) (I.ok.hd hc) st fun h' eb=>⟨rfl,I.turned (t':=s.toks) (fun b o hb e=>eb b o hb e) f0 f1 f3 f4 f5⟩
 self:=fun _ _ _ _ _ st h=>cB st h
theorem gY {K:xF} {G:Hp} {a:xI} {xs:List V} {ds:List wY} (h:G a=some (.tup xs)) (l:RepL G ds xs):Walk (ItV K a xs.length) G ds.reverse where
 go:=fun i H hi hG=>by
   have hi':i < xs.length:=by rw [<- l.length]; simpa using hi
   exact ⟨hi',xs,xs[xs.length - 1 - i],.inl (.inl (hG _ _ h)),rfl,by simp⟩
 yld:=fun i d G2 H x H' e h1 h2 hy=>by
   obtain ⟨rfl,hy⟩:=hy; have hlen:=l.length; have hi:i < ds.length:=by
     rcases CZ i ds.length with z | z
     . exact z
     . rw [i8 (by simpa using z)] at e; cases e
   rw [List.getElem?_reverse hi] at e; obtain ⟨y,e1,r⟩:=l.get e; have:=hy xs (.inl (.inl (h2 _ _ (h1 _ _ h)))); rw [hlen] at e1; rw [e1] at this; cases this; exact ⟨G2,Grow.refl h2,r.mono h1⟩
 stop:=fun i H hi hG=>by
   show xs.length<=i;rw [<- l.length]; simpa using hi
noncomputable def Wr:wY->Res (List wY)
 | .tuple ds=>.ok ds.reverse
 | _=>.no
noncomputable section
variable {P:yD} {w:yR} {K:xF} {mg:Str->Option xB} {base:zN} {X:Cx} {N:List Str} {sc:Scope} {k:Nat} {df:Bool} {E:EK} {pos p:Pos} {tg a:Expr} {f:Dn->Res wY}
theorem i_rev (C:Cxt P w K mg base X N sc k df) (h:okGl sc "reversed" = true) (hm:mg "reversed" = none) (ha:DE X E a f) (he:xO [a] X.env=(false,eval a X.env)::xO [] X.env:=by rfl) (hpl:(i6 pos (xO [] X.env)).any (·.1)=false:=by rfl) :
   DI X E tg (.Call (.Name "reversed" p) [a] [] pos) (fun δ=>(f δ).bind Wr):=by
 rintro pins s Z H R I ⟨G,δ,S,aft⟩;obtain ⟨h1,h2,h3⟩:=okGl.gl C h;have hh:=Mv (R:=fun v H1=>∃ v0 G1 d,[v]=[v0]/\Same G1 H1/\Rep G1 d v0/\AftI E G1 H1 (Wr d) R) (W:=fun G H r=>AftI E G H r R) S aft (fun g a=>AftI.grow g a) (fun c a=>a) (fun a=>a) fun d v G1 H1 g1 r1 S1 a1=>⟨v,G1,d,rfl,S1.sub,r1,a1⟩;refine CW (Pe I h1 (by rw [C.hmg]; exact hm) (show CF "reversed" = some (.type "reversed") by decide +kernel) ?_ h3 h2);refine AS (thn ((L7 ha R0 he) pos pins s Z H (fun vs H1=>∃ v G1 d,vs=[v]/\Same G1 H1/\Rep G1 d v/\AftI E G1 H1 (Wr d) R) I ?_) fun us s1 ⟨vs,H1,I1,rx,v,G1,d,ev,hG,rd,a1⟩=>?_) he hpl
 . exact hh
 . subst ev
   obtain ⟨u,rfl,ru⟩:=Vals.one rx;cases d with
   | tuple ds =>
     obtain ⟨q,xs,rfl,hq,l1⟩:=rd; cases ru; obtain ⟨zz,its,rv,e1⟩:=Ki I1 hG hq; have hl:=rv.length; refine oA (show HB s1.heap q its.toArray from e1) (by simp only [xU]; lia) fun tk=>?_;have I2:Inv X pins Z H1 { s1 with heap:=s1.heap.push { cls:=.type "reversed",data:=.fields #[.ref q,BJ ((its.toArray.size:Int) - 1)] },toks:=tk }:=I1.kept (t':=tk) fun b o e=>xE _ e;have st:IsRvT (s1.heap.push { cls:=.type "reversed",data:=.fields #[.ref q,BJ ((its.toArray.size:Int) - 1)] }) s1.heap.objs.size q ((xs.length:Int) - 1 - ((0:Nat):Int)):=⟨_,xQ _ rfl,rfl,by simp [hl]⟩
     refine cB (s:={ s1 with heap:=s1.heap.push { cls:=.type "reversed",data:=.fields #[.ref q,BJ ((its.toArray.size:Int) - 1)] },toks:=tk }) st ?_; refine ⟨s1.heap.objs.size,[s1.heap.objs.size],_,_,H1,rfl,I2,iA q _ xs.length,st,fun b hb=>?_,a1 _ G1 H1 (Grow.refl hG) (gY hq l1)⟩;have e:b=s1.heap.objs.size:=by simpa using hb
     subst e; exact I1.fpOk (xL _) (I1.hok.fresh (xL _))
   | _=>exact (show False from a1).elim
end
end Sm
end
noncomputable section
namespace Sm
open PySem PySem.Spec PyProof.Rows L2
end Sm
end
noncomputable section
namespace Sm
open PySem PySem.Spec PySem.W PyProof.Rows
end Sm
end
noncomputable section
namespace Sm
open PySem PySem.Spec PySem.W PyProof.Rows L2
end Sm
end
noncomputable section
namespace Sm
open PySem PySem.Spec PyProof.Rows L2
noncomputable section
variable {prog:yD} {w:yR} {A:zI} {E:xB->xC->Prop} {s:xC}
theorem lF {d:xI} {od:Obj} {es:Array zL} {ep:Nat} {Q:xB->xC->Prop} (hd:(d==o0)=false) (hT:s.TypeIs (.ref d) "dict") (ho:s.heap.get? d=some od) (hdat:od.data=.dict es ep)
   (hQ:Q (.ref s.heap.objs.size) { s with heap:=s.heap.push { cls:=.type "dict_keyiterator",data:=.fields #[.ref d,.int 0 0,.int es.size 0,.int ep 0] } }) :
   wpAny (xW prog w) A (JO (.ref d)) Q E s:=by
 refine FS hT F.slot_dict_iter (zD F.slot_dict_iter hT F.entry_dict_iter ?_ (F.args_dict_iter_1 _));unfold i7.«dict.__iter__» Builtin.Dict.dictSlotNone;refine wZ (wZ (EF hT (xA ?_)));have hz:∀ (R:xB->xC->Prop),wpAny (xW prog w) A.in1 (IR d) (fun _ t=>t=s) R s:=fun R=>by
   unfold IR; rw [hd]; exact xA rfl
 refine wZ (AB (a:=d) rfl (wZ (i5 (hz E) (fun _ t e=>?_) fun _ _ e=>e)));subst e;refine wZ (p0 ho hdat (wZ (zZ ho hdat ?_)));refine wZ (zC (xA ⟨_,rfl, "dict_keyiterator",_,⟨_,xQ _ rfl,rfl⟩,F.slot_dict_keyiterator_next.lookup,?_⟩));simpa [BJ] using hQ
theorem kL {it d:xI} {i ep:Nat} {od:Obj} {es:Array zL} {Q:Option xB->xC->Prop} (hit:s.heap.IsKeyIter it d i es.size ep) (hod:s.heap.get? d=some od) (hdd:od.data=.dict es ep) (hlt:i < es.size)
   (hQ:∀ h',h'.IsKeyIter it d (i+1) es.size ep->c8 it s.heap h'->Q (some es[i].key) { s with heap:=h' }):wpAny (xW prog w) A (pyNext (.ref it)) Q E s:=by
 obtain ⟨o,ho,hc,hd⟩:=id hit;have hnew:(s.heap.update it (KL (·.setIfInBounds 1 (BJ ((i:Int)+1))))).IsKeyIter it d (i+1) es.size ep:=by
   refine ⟨_,c6 _ ho (GK (BB hd _)),(Obj.cls_mapFields ..).trans hc,?_⟩; rw [BB hd]; simp [BJ]
 have hty:EY { s with heap:=s.heap.update it (KL (·.setIfInBounds 1 (BJ ((i:Int)+1)))) } (.ref it) "dict_keyiterator" := hnew.typeIs;unfold pyNext;refine wZ (AC ?_);refine zK (name:=o7 "__next__") hit.typeIs F.slot_dict_keyiterator_next ?_;refine zD F.slot_dict_keyiterator_next hit.typeIs F.entry_dict_keyiterator_next ?_ (F.args_dict_keyiterator_next_1 _);refine wZ (xA (wZ (wZ ?_)));refine wZ (BG hit.typeIs (xA ?_));refine wZ (DR ho hd ?_)
 simp only [show FX "dict_keyiterator" = false by decide,xY,if_false];show wpAny _ _ (if (zP d==k9)=true then _ else _) _ _ s;rw [if_neg (by exact p8)];refine wZ (xA (wZ (p0 hod hdd ?_)));rw [if_neg (by simp)];refine wZ (xA (wZ (zZ hod hdd ?_)));rw [if_neg (by simp)];refine xA ?_;simp only [show ¬ ((i:Int) < 0) from by lia,if_false,DB,xZ hlt];refine wZ (wZ (BG hit.typeIs (xA ?_)))
 refine wZ (HE hit.typeIs ?_);show wpAny _ _ (JC (.ref it) 1 (BJ ((i:Int)+1))>>=_) _ _ s;refine wZ (FK ho hd (by simp) (wZ (zE ?_)));refine wZ (HE hty ?_);first
   | exact xA (xA ⟨_,rfl,xA (hQ _ hnew (zY ..))⟩)
   | (refine wZ (HE hty ?_); exact xA (xA ⟨_,rfl,xA (hQ _ hnew (zY ..))⟩))
theorem qG {it d:xI} {i ep:Nat} {od:Obj} {es:Array zL} {Q:Option xB->xC->Prop} (hh:A.handled=none) (hi:es.size<=i) (hit:s.heap.IsKeyIter it d i es.size ep) (hod:s.heap.get? d=some od) (hdd:od.data=.dict es ep)
   (hQ:∀ h',FF it s.heap h'->Q none { s with heap:=h' }):wpAny (xW prog w) A (pyNext (.ref it)) Q E s:=by
 obtain ⟨o,ho,hc,hd⟩:=id hit;unfold pyNext;refine wZ (AC ?_);refine zK (name:=o7 "__next__") hit.typeIs F.slot_dict_keyiterator_next ?_;refine zD F.slot_dict_keyiterator_next hit.typeIs F.entry_dict_keyiterator_next ?_ (F.args_dict_keyiterator_next_1 _);refine wZ (xA (wZ (wZ ?_)));refine wZ (BG hit.typeIs (xA ?_));refine wZ (DR ho hd ?_);simp only [show FX "dict_keyiterator" = false by decide,xY,if_false]
 show wpAny _ _ (if (zP d==k9)=true then _ else _) _ _ s;rw [if_neg (by exact p8)];refine wZ (xA (wZ (p0 hod hdd ?_)));rw [if_neg (by simp)];refine wZ (xA (wZ (zZ hod hdd ?_)));rw [if_neg (by simp)];refine xA ?_;simp only [show ¬ ((i:Int) < 0) from by lia,if_false,DB,v8 hi];refine wZ (wZ (BG hit.typeIs (xA ?_)));show wpAny _ _ (JC (.ref it) 0 .none>>=_) _ _ s;refine wZ (FK ho hd (by simp) ?_)
 show wpAny _ _ (newExc (.type "StopIteration") []>>=_) _ _ _;refine wZ ?_;simp only [newExc,newTuple];refine wZ (zC ?_ (by size_fits));refine wZ (m:=DU _ _) (AB (a:=k9) (by first | rfl | (simp only [DU]; rfl)) (zC ?_ (by size_fits)));simp only [raiseNew];refine wZ (wpAny_handled ?_);rw [show A.in1.handled=none from hh];refine wZ (xA (wpAny_throw (wZ ?_)));refine CD (T := "StopIteration") (b:=true) ⟨_,xQ _ rfl,rfl⟩ LH ?_;exact xA (hQ _ (((zY ..).extBut.push _).push _))
end
end Sm
end
noncomputable section
namespace Sm
open PySem PySem.Spec PyProof.Rows L2
end Sm
end
noncomputable section
namespace Sm
open PySem PySem.Spec PyProof.Rows L2
end Sm
end
noncomputable section
namespace Sm
open PySem PySem.Spec PyProof.Rows PySem.W L2
structure NAt (h:zN) (v:xB) (d:wY):Prop where
 rd:∃ as,Reads h v d as
 nk:d=.none\/(isK d=true/\((∃ xs,d=.tuple xs)\/∃ z,d=.str z))
 lay:d.canLay0=true
 dp:d.depth<=8
theorem Ks {a b:wY} (ha:a=.none\/(isK a=true/\((∃ xs,a=.tuple xs)\/∃ z,a=.str z))) (hb:b=.none\/(isK b=true/\((∃ xs,b=.tuple xs)\/∃ z,b=.str z))):xT a b=true↔a=b:=by
 rcases ha with rfl | ⟨ha,ha'⟩
 . rcases hb with rfl | ⟨_,⟨ys,rfl⟩ | ⟨z,rfl⟩⟩
   . exact ⟨fun _=>rfl,fun _=>rfl⟩
   . exact ⟨fun h=>(by simp [xT] at h),fun h=>nomatch h⟩
   . exact ⟨fun h=>(by simp [xT] at h),fun h=>nomatch h⟩
 . rcases hb with rfl | ⟨hb,_⟩
   . rcases ha' with ⟨xs,rfl⟩ | ⟨z,rfl⟩
     . exact ⟨fun h=>(by simp [xT] at h),fun h=>nomatch h⟩
     . exact ⟨fun h=>(by simp [xT] at h),fun h=>nomatch h⟩
   . exact eqvK _ _ ha hb
noncomputable section
variable {prog:yD} {w:yR} {A:zI} {E:xB->xC->Prop} {s:xC}
theorem NAt.val {h:zN} {v:xB} {d:wY} (x:NAt h v d):(d=.none/\v=.none)\/(∃ z t,d=.str z/\v=.str z t)\/∃ b,v=.ref b:=by
 obtain ⟨as,r⟩:=x.rd;rcases x.nk with rfl | ⟨_,⟨xs,rfl⟩ | ⟨z,rfl⟩⟩
 . cases r; exact .inl ⟨rfl,rfl⟩
 . cases r; exact .inr (.inr ⟨_,rfl⟩)
 . cases r; exact .inr (.inl ⟨_,_,rfl,rfl⟩)
theorem NAt.hash {v:xB} {d:wY} {Q:Int->xC->Prop} (x:NAt s.heap v d) (hu:A.units+8 < m9) (q:∀ tk,Q (V0 w d) { s with toks:=tk }):wpAny (xW prog w) A (pyHash v) Q E s:=by
 obtain ⟨as,r⟩:=x.rd;rcases x.nk with rfl | ⟨hk,hk'⟩
 . cases r
   unfold pyHash; have hv:[k9].any Value.onHeap=false:=rfl; have hT:s.TypeIs k9 "NoneType" := rfl; refine wZ ?_; rw [cRoomFor,if_neg (by rw [hv]; decide)];refine xA (wZ (w8 hT F.slot_NoneType_hash.lookup ?_)); show wpAny _ _ (if (some (Value.builtin "NoneType.__hash__")==some k9)=true then _ else _) Q E s;rw [if_neg (by rw [JS]; decide)];refine wZ (w8 hT F.slot_NoneType_hash.lookup ?_); show wpAny _ _ (callSpecialIfBoundUnlessNone? k9 "__hash__" _>>=_) Q E s;refine wZ (wpAny_callSpecialIfBoundUnlessNone?_slot hT F.slot_NoneType_hash (zD F.slot_NoneType_hash hT F.entry_NoneType_hash (show wpAny _ _ (do ret (<- mkInt 0xFCA86420)) _ _ s from wpAny_ret_mkInt ?_) (F.args_NoneType_hash_1 _)))
   show wpAny _ _ (if (decide (-(2:Int) ^ 63<=0xFCA86420)&&decide ((0xFCA86420:Int) < 2 ^ 63))=true then _ else _) Q E _;rw [if_pos (by decide)]; exact xA (q _)
 . have e:V0 w d=Yg w d:=by rcases hk' with ⟨_,rfl⟩ | ⟨_,rfl⟩ <;> rfl
   rw [e] at q; exact Pj _ _ as A s Q hk r (by have:=x.dp; lia) fun tk _=>q tk
theorem NAt.quiet {v:xB} {d:wY} {Q:Bool->xC->Prop} (x:NAt s.heap v d) (q:Q true s):wpAny (xW prog w) A (eqIsQuiet 8 v) Q E s:=by
 obtain ⟨as,r⟩:=x.rd;rcases x.nk with rfl | ⟨hk,hk'⟩
 . cases r; exact xA q
 . exact Ll 8 _ _ as s Q hk x.dp r q
theorem NAt.eq {v u:xB} {a b:wY} {Q:Bool->xC->Prop} (x:NAt s.heap v a) (y:NAt s.heap u b) (hu:A.units+8 < m9) (q:Q (xT a b) s):wpAny (xW prog w) A (eqBool v u) Q E s:=by
 obtain ⟨as,r⟩:=x.rd;obtain ⟨bs,r'⟩:=y.rd;exact SeqAt.eqBoolOverData prog w A E s v u a b as bs Q r r' x.lay y.lay (by have:=x.dp; lia) q
structure EsN (w:yR) (h:zN) (es:Array zL) (ks:List wY):Prop where
 len:es.size=ks.length
 ent:∀ (i:Nat) e,es[i]? = some e->∃ k,ks[i]? = some k/\NAt h e.key k/\e.hash=V0 w k
 nd:ks.Nodup
theorem aP {d:xI} {o:Obj} {es:Array zL} {ep:Nat} {ks:List wY} {key:xB} {k:wY} {Q:Option Nat->xC->Prop} (hu:A.units+8 < m9) (ho:s.heap.get? d=some o) (hd:o.data=.dict es ep) (N:EsN w s.heap es ks) (x:NAt s.heap key k)
   (q1:∀ i,ks[i]? = some k->Q (some i) s) (q0:k∉ks->Q none s):wpAny (xW prog w) A (dictFind d key (V0 w k)) Q E s:=by
 have same:∀ i j a,ks[i]? = some a->ks[j]? = some a->i=j:=fun i j a h1 h2=>by
   have hi:=(yJ.mp h1).1; have hj:=(yJ.mp h2).1; have e1:=(yJ.mp h1).2; have e2:=(yJ.mp h2).2; exact (List.getElem_inj (h₀:=hi) (h₁:=hj) N.nd).mp (e1.trans e2.symm)
 unfold dictFind;try with_reducible refine zE ?_
 refine wZ (p0 ho hd ?_);dsimp only;have hin:∀ i∈placesWithHash es.size (fun i=>es[i]?.map (·.hash)) (V0 w k),∃ e,es[i]? = some e/\(e.hash==V0 w k)=true:=fun i hi=>by
   unfold placesWithHash at hi; have:=(zT.mp hi).2; simp only at this;cases he:es[i]? with
   | none=>rw [he] at this; cases this
   | some e=>rw [he] at this; exact ⟨e,rfl,by simpa using this⟩
 have hat:∀ i,ks[i]? = some k->i∈placesWithHash es.size (fun i=>es[i]?.map (·.hash)) (V0 w k):=fun i hi=>by
   have hlt:i < es.size:=by rw [N.len]; exact (yJ.mp hi).1
   have he:es[i]? = some es[i]:=xZ hlt; obtain ⟨k',e1,_,e3⟩:=N.ent i _ he; rw [hi] at e1; cases e1; unfold placesWithHash; refine zT.mpr ⟨m3.mpr hlt,?_⟩; show (es[i]?.map (·.hash)==some (V0 w k))=true;rw [he]; simp [e3]
 have hnd:(placesWithHash es.size (fun i=>es[i]?.map (·.hash)) (V0 w k)).Nodup:=List.Pairwise.filter _ IG;generalize placesWithHash es.size (fun i=>es[i]?.map (·.hash)) (V0 w k)=places at *;have lst:∀ i,(ks[i]? = some k->i∈([]:List Nat))->ks[i]? ≠ some k:=fun i h z=>nomatch h z;have no:(∀ i,ks[i]? = some k->i∈([]:List Nat))->k∉ks:=fun h z=>by
   obtain ⟨i,hi⟩:=GC.mp z; exact nomatch h i hi
 have plain:wpAny (xW prog w) A (dictWalkPlain d key (V0 w k) es places) Q E s:=by
   unfold dictWalkPlain; refine wZ ?_; refine BA _ (fun G6 r s'=>s'=s/\r=(none,())/\(∀ i∈G6,i∈places)/\∀ i,ks[i]? = some k->i∈G6) _ ?_ ?_ _ _ ⟨rfl,rfl,fun _ h=>h,hat⟩
   . rintro i more r s' ⟨rfl,rfl,hsub,hall⟩
     obtain ⟨e,he,hh⟩:=hin i (hsub i (.head _)); obtain ⟨k',e1,y,_⟩:=N.ent i e he; rw [he]; dsimp only; rw [if_pos hh]; refine wZ (zZ ho hd ?_); refine wZ (y.eq x hu ?_); refine wZ (zZ ho hd ?_); rw [if_neg (by simp)];by_cases c:k'=k
     . subst c
       rw [if_pos ((Ks y.nk x.nk).mpr rfl)]; refine wZ (f8 (xA ?_)); exact xA (q1 i e1)
     . rw [if_neg (fun z=>c ((Ks y.nk x.nk).mp z))]
       refine wZ (f8 (xA ?_)); refine ⟨rfl,rfl,fun j hj=>hsub j (.tail _ hj),fun j hj=>?_⟩;rcases xD.mp (hall j hj) with rfl | z
       . rw [e1] at hj; cases hj; exact absurd rfl c
       . exact z
   . rintro r s' ⟨rfl,rfl,_,hall⟩
     exact xA (q0 (no hall))
 have hwalk : ∀ (f : Nat -> Option (Option Nat) × Option Nat -> Sem (ForInStep (Option (Option Nat) × Option Nat))), (∀ i e k' r2 (Q' : ForInStep (Option (Option Nat) × Option Nat) -> xC -> Prop), es[i]? = some e -> (e.hash == V0 w k) = true -> NAt s.heap e.key k' ->
     (k'=k->r2=none/\Q' (.done (some (some i),none)) s/\Q' (.yield (none,some i)) s)->(k'≠k->Q' (.yield (none,r2)) s)->wpAny (xW prog w) A (f i (none,r2)) Q' E s) ->
     wpAny (xW prog w) A (forIn places (none,none) f) (fun r s'=>s'=s/\((r.1=none/\((r.2=none/\k∉ks)\/∃ i,r.2=some i/\ks[i]? = some k))\/∃ i,r.1=some (some i)/\ks[i]? = some k)) E s:=fun f hf=>by
   refine BA _ (fun G6 r s'=>s'=s/\r.1=none/\(∀ i∈G6,i∈places)/\G6.Nodup/\((r.2=none/\∀ i,ks[i]? = some k->i∈G6)\/∃ i,r.2=some i/\ks[i]? = some k/\i∉G6)) _ ?_ ?_ _ _ ⟨rfl,rfl,fun _ h=>h,hnd,.inl ⟨rfl,hat⟩⟩
   . rintro i more ⟨r1,r2⟩ s' ⟨rfl,rfl,hsub,hn,hr⟩
     obtain ⟨e,he,hh⟩:=hin i (hsub i (.head _)); obtain ⟨k',e1,y,_⟩:=N.ent i e he; rw [zO] at hn; refine hf i e k' r2 _ he hh y (fun c=>?_) fun c=>?_
     . subst c
       have h2:r2=none:=by
         rcases hr with ⟨z,_⟩ | ⟨j,_,z2,z3⟩
         . exact z
         . exact absurd (same i j _ e1 z2▸a8) z3
       exact ⟨h2,⟨rfl,.inr ⟨i,rfl,e1⟩⟩,rfl,rfl,fun j hj=>hsub j (.tail _ hj),hn.2,.inr ⟨i,rfl,e1,hn.1⟩⟩
     . refine ⟨rfl,rfl,fun j hj=>hsub j (.tail _ hj),hn.2,?_⟩
       rcases hr with ⟨z,hall⟩ | ⟨j,z1,z2,z3⟩
       . refine .inl ⟨z,fun j hj=>?_⟩
         rcases xD.mp (hall j hj) with rfl | z'
         . rw [e1] at hj; cases hj; exact absurd rfl c
         . exact z'
       . exact .inr ⟨j,z1,z2,fun z=>z3 (.tail _ z)⟩
   . rintro ⟨r1,r2⟩ s' ⟨rfl,rfl,_,_,hr⟩
     rcases hr with ⟨rfl,hall⟩ | ⟨j,rfl,z2,_⟩
     . exact ⟨rfl,.inl ⟨rfl,.inl ⟨rfl,no hall⟩⟩⟩
     . exact ⟨rfl,.inl ⟨rfl,.inr ⟨j,rfl,z2⟩⟩⟩
 have tell:∀ (Q':Bool->xC->Prop),Q' false s->wpAny (xW prog w) A (tableMayTell key (places.filterMap fun i=>es[i]?.map (·.key))) Q' E s:=fun Q' q'=>by
   unfold tableMayTell;split
   . exact xA q'
   . refine wZ (x.quiet ?_)
     rw [if_neg (by decide)]; refine wZ ?_; refine BA _ (fun G6 r s'=>s'=s/\r=(none,())/\∀ v∈G6,∃ k',NAt s.heap v k') _ ?_ ?_ _ _ ⟨rfl,rfl,fun v hv=>?_⟩
     . rintro v more r s' ⟨rfl,rfl,hr⟩
       obtain ⟨k',y⟩:=hr v (.head _); refine wZ (y.quiet ?_); rw [if_neg (by decide)]; exact xA ⟨rfl,rfl,fun v hv=>hr v (.tail _ hv)⟩
     . rintro r s' ⟨rfl,rfl,_⟩
       exact xA q'
     . obtain ⟨i,_,hi⟩:=CL.mp hv
       cases he:es[i]? with
       | none=>rw [he] at hi; cases hi
       | some e =>
         rw [he] at hi; have hk:e.key=v:=by simpa using hi
         obtain ⟨k',_,y,_⟩:=N.ent i e he; exact ⟨k',hk▸y⟩
 have fork:∀ (m:Bool->Sem (Option Nat)),wpAny (xW prog w) A (m false) Q E s->wpAny (xW prog w) A (if ((places.filterMap fun i=>es[i]?.map (·.key))==[key])=true then (pure false>>=m) else (tableMayTell key (places.filterMap fun i=>es[i]?.map (·.key))>>=m)) Q E s:=fun m h=>by
   split
   . exact wZ (xA h)
   . exact wZ (tell _ h)
 rcases x.val with ⟨_,rfl⟩ | ⟨z,t,rfl,rfl⟩ | ⟨b,rfl⟩
 . dsimp only
   by_cases hc:(k9::places.filterMap fun i=>es[i]?.map (·.key)).all LI=true
   . rw [if_pos hc]; exact plain
   . rw [if_neg hc]
     refine fork _ ?_; rw [if_neg (by simp)]; refine wZ (i5 (hwalk _ fun i e k' r2 Q' he hh y c1 c0=>?_) (fun r s' z=>?_) fun _ _ z=>z)
     . dsimp only
       rw [he]; dsimp only; rw [if_pos hh]; refine wZ (zZ ho hd (wZ (y.eq x hu (wZ (zZ ho hd ?_))))); rw [if_neg (by simp)];by_cases c:k'=k
       . obtain ⟨rfl,d1,d2⟩:=c1 c
         rw [if_pos ((Ks y.nk x.nk).mpr c),if_neg (by simp)]; refine wZ (f8 ?_);split
         . exact xA d1
         . exact xA d2
       . rw [if_neg (fun z=>c ((Ks y.nk x.nk).mp z))]
         refine wZ (f8 ?_); rw [if_neg (by simp)]; exact xA (c0 c)
     . obtain ⟨r1,r2⟩:=r
       obtain ⟨rfl,z⟩:=z; rcases z with ⟨rfl,z⟩ | ⟨i,rfl,z⟩
       . rcases z with ⟨rfl,z⟩ | ⟨i,rfl,z⟩
         . exact xA (q0 z)
         . exact xA (q1 i z)
       . exact xA (q1 i z)
 . by_cases hall:(es.all fun e=>isExactStrKey e.key)=true
   . dsimp only
     rw [if_pos hall]; have isk:∀ (i:Nat) e,es[i]? = some e->(e.key.isStr z=true↔ks[i]? = some (.str z)):=fun i e he=>by
       obtain ⟨k',e1,y,_⟩:=N.ent i e he; rw [e1]; rcases y.val with ⟨rfl,hv⟩ | ⟨z',t',rfl,hv⟩ | ⟨b,hv⟩
       . rw [hv]; exact ⟨fun h=>(by cases h),fun h=>absurd h (by simp)⟩
       . rw [hv]
         show (z'==z)=true↔_;rw [beq_iff_eq]; exact ⟨fun h=>(by rw [h]),fun h=>(by cases h; rfl)⟩
       . rw [hv]
         have:=HK.mp hall e (LA he); rw [hv] at this; cases this
     unfold foundByValue;cases hf:es.findIdx? (·.key.isStr z) with
     | none =>
       refine xA (q0 fun hm=>?_);obtain ⟨i,hi⟩:=GC.mp hm; have hlt:i < es.size:=by rw [N.len]; exact (yJ.mp hi).1
       have:=Array.findIdx?_eq_none_iff.mp hf es[i] (Array.getElem_mem hlt); rw [(isk i _ (xZ hlt)).mpr hi] at this; cases this
     | some i =>
       obtain ⟨hlt,hp,_⟩:=Array.findIdx?_eq_some_iff_getElem.mp hf; have he:es[i]? = some es[i]:=xZ hlt; have hi:=(isk i _ he).mp hp; obtain ⟨k',e1,y,_⟩:=N.ent i _ he; rw [hi] at e1; cases e1; dsimp only; rw [he]; dsimp only; refine wZ (zZ ho hd (wZ (y.eq x hu (wZ (zZ ho hd ?_))))); rw [if_neg (by simp),if_pos ((Ks y.nk x.nk).mpr rfl)]; exact wZ (f8 (xA (q1 i hi)))
   . dsimp only
     rw [if_neg hall];by_cases hc:(Value.str z t::places.filterMap fun i=>es[i]?.map (·.key)).all LI=true
     . rw [if_pos hc]; exact plain
     . rw [if_neg hc]
       refine fork _ ?_; rw [if_neg (by simp)]; refine wZ (i5 (hwalk _ fun i e k' r2 Q' he hh y c1 c0=>?_) (fun r s' z=>?_) fun _ _ z=>z)
       . dsimp only
         rw [he]; dsimp only; rw [if_pos hh]; refine wZ (zZ ho hd (wZ (y.eq x hu (wZ (zZ ho hd ?_))))); rw [if_neg (by simp)];by_cases c:k'=.str z
         . obtain ⟨rfl,d1,d2⟩:=c1 c
           rw [if_pos ((Ks y.nk x.nk).mpr c),if_neg (by simp)]; refine wZ (f8 ?_);split
           . exact xA d1
           . exact xA d2
         . rw [if_neg (fun z=>c ((Ks y.nk x.nk).mp z))]
           refine wZ (f8 ?_); rw [if_neg (by simp)]; exact xA (c0 c)
       . obtain ⟨r1,r2⟩:=r
         obtain ⟨rfl,z⟩:=z; rcases z with ⟨rfl,z⟩ | ⟨i,rfl,z⟩
         . rcases z with ⟨rfl,z⟩ | ⟨i,rfl,z⟩
           . exact xA (q0 z)
           . exact xA (q1 i z)
         . exact xA (q1 i z)
 . dsimp only
   by_cases hc:(zP b::places.filterMap fun i=>es[i]?.map (·.key)).all LI=true
   . rw [if_pos hc]; exact plain
   . have hno : (es.any fun e => e.key == .ref b && e.hash != V0 w k) = false := by
       rw [Array.any_eq_false]; intro i hi; obtain ⟨k',e1,y,e3⟩:=N.ent i es[i] (xZ hi);by_cases c:es[i].key=.ref b
       . have : k' = k := by
           rw [c] at y; obtain ⟨as,r1⟩:=x.rd; obtain ⟨bs,r2⟩:=y.rd; exact SeqAt.Reads.unique k' k _ _ _ y.lay r2 r1
         rw [e3,this]; simp
       . intro z
         rw [yE] at z; exact c (w5 z.1)
     rw [if_neg hc,if_neg (by rw [hno]; decide)];refine fork _ ?_; rw [if_neg (by simp)]; refine wZ (i5 (hwalk _ fun i e k' r2 Q' he hh y c1 c0=>?_) (fun r s' z=>?_) fun _ _ z=>z)
     . dsimp only
       rw [he]; dsimp only; rw [if_pos hh]; refine wZ (zZ ho hd (wZ (y.eq x hu (wZ (zZ ho hd ?_))))); rw [if_neg (by simp)];by_cases c:k'=k
       . obtain ⟨rfl,d1,d2⟩:=c1 c
         rw [if_pos ((Ks y.nk x.nk).mpr c),if_neg (by simp)]; refine wZ (f8 ?_);split
         . exact xA d1
         . exact xA d2
       . rw [if_neg (fun z=>c ((Ks y.nk x.nk).mp z))]
         refine wZ (f8 ?_); rw [if_neg (by simp)]; exact xA (c0 c)
     . obtain ⟨r1,r2⟩:=r
       obtain ⟨rfl,z⟩:=z; rcases z with ⟨rfl,z⟩ | ⟨i,rfl,z⟩
       . rcases z with ⟨rfl,z⟩ | ⟨i,rfl,z⟩
         . exact xA (q0 z)
         . exact xA (q1 i z)
       . exact xA (q1 i z)
end
end Sm
end
noncomputable section
namespace Sm
open PySem PySem.Spec PyProof.Rows PySem.W L2
noncomputable section
variable {prog:yD} {w:yR} {A:zI} {E:xB->xC->Prop} {s:xC}
theorem hu8 {A:zI} (h:A.units+16 < m9):A.in1.units+8 < m9:=by simp only [Around.in1_units]; lia
theorem EsN.get {h:zN} {es:Array zL} {ks:List wY} (N:EsN w h es ks) {i:Nat} {k:wY} (hi:ks[i]? = some k):∃ e,es[i]? = some e:=by
 have hlt:i < es.size:=by rw [N.len]; exact (yJ.mp hi).1
 exact ⟨_,xZ hlt⟩
theorem Ga {d:xI} {o:Obj} {es:Array zL} {ep:Nat} {ks:List wY} {key:xB} {k:wY} {Q:Option xB->xC->Prop} (hu:A.units+8 < m9) (ho:s.heap.get? d=some o) (hd:o.data=.dict es ep) (N:EsN w s.heap es ks) (x:NAt s.heap key k)
   (q1:∀ (i:Nat) (e:zL) tk,ks[i]? = some k->es[i]? = some e->Q (some e.val) { s with toks:=tk }) (q0:∀ tk,k∉ks->Q none { s with toks:=tk }):wpAny (xW prog w) A (KS d key) Q E s:=by
 unfold KS;try with_reducible refine zE ?_
 refine wZ (x.hash hu fun tk=>?_);refine wZ (aP (s:={ s with toks:=tk }) hu ho hd N x (fun i hi=>?_) fun hn=>xA (q0 tk hn));obtain ⟨e,he⟩:=N.get hi;refine wZ (p0 (s:={ s with toks:=tk }) ho hd (xA ?_));rw [he];exact q1 i e tk hi he
theorem aM (d:xI) (key dflt:xB) (hd:(d==o0)=false):MeetsIn prog w (i7.«dict.get» ⟨[.ref d,key,dflt],[]⟩) (fun A R s=>∃ (o:Obj) (es:Array zL) (ep:Nat) (ks:List wY) (k:wY),A.units+16 < m9/\s.heap.get? d=some o/\o.data=.dict es ep/\EsN w s.heap es ks/\NAt s.heap key k /\
   (∀ (i:Nat) (e:zL) tk,ks[i]? = some k->es[i]? = some e->R (.ok (.ret e.val)) { s with toks:=tk })/\∀ tk,k∉ks->R (.ok (.ret dflt)) { s with toks:=tk }) :=
 .of_wp fun A R s hZ3=>by
   obtain ⟨o,es,ep,ks,k,hu,ho,hD,N,x,h1,h0⟩:=hZ3; show wpAny _ _ (KS d key>>=_) _ _ s;refine wZ (Ga (hu8 hu) ho hD N x (fun i e tk hi he=>xA ⟨_,rfl,h1 i e tk hi he⟩) fun tk hn=>?_);show wpAny _ _ (JK d key>>=_) _ _ _;exact wZ (wpAny_missed_other hd (xA ⟨dflt,rfl,h0 tk hn⟩))
theorem fO (d:xI) (key:xB) (hd:(d==o0)=false):MeetsIn prog w (i7.«dict.__contains__» ⟨[.ref d,key],[]⟩) (fun A R s=>∃ (o:Obj) (es:Array zL) (ep:Nat) (ks:List wY) (k:wY),A.units+16 < m9/\s.heap.get? d=some o/\o.data=.dict es ep/\EsN w s.heap es ks/\NAt s.heap key k /\
   (∀ tk,k∈ks->R (.ok (.ret (.bool true))) { s with toks:=tk })/\∀ tk,k∉ks->R (.ok (.ret (.bool false))) { s with toks:=tk }) :=
 .of_wp fun A R s hZ3=>by
   obtain ⟨o,es,ep,ks,k,hu,ho,hD,N,x,h1,h0⟩:=hZ3; show wpAny _ _ (KS d key>>=_) _ _ s;refine wZ (Ga (hu8 hu) ho hD N x (fun i e tk hi he=>xA ⟨_,rfl,h1 tk (n5 hi)⟩) fun tk hn=>?_);show wpAny _ _ (Builtin.Dict.pendingKey? d key>>=_) _ _ _;exact wZ (wpAny_pendingKey_other hd (xA ⟨_,rfl,h0 tk hn⟩))
theorem Xt (d:xI) (key:xB):MeetsIn prog w (i7.«dict.__getitem__» ⟨[.ref d,key],[]⟩) (fun A R s=>∃ (o:Obj) (es:Array zL) (ep:Nat) (ks:List wY) (k:wY),A.units+16 < m9/\s.heap.get? d=some o/\o.data=.dict es ep/\EsN w s.heap es ks/\NAt s.heap key k/\k∈ks /\
   (∀ (i:Nat) (e:zL) tk,ks[i]? = some k->es[i]? = some e->R (.ok (.ret e.val)) { s with toks:=tk })) :=
 .of_wp fun A R s hZ3=>by
   obtain ⟨o,es,ep,ks,k,hu,ho,hD,N,x,hm,h1⟩:=hZ3; show wpAny _ _ (KS d key>>=_) _ _ s;exact wZ (Ga (hu8 hu) ho hD N x (fun i e tk hi he=>xA ⟨_,rfl,h1 i e tk hi he⟩) fun tk hn=>absurd hm hn)
theorem Qx (d:xI) (key dflt:xB) (hd:(d==o0)=false):MeetsIn prog w (i7.«dict.setdefault» ⟨[.ref d,key,dflt],[]⟩) (fun A R s=>∃ (L:List zL) (ep:Nat) (ks:List wY) (k:wY),A.units+16 < m9/\s.heap.get? d=some { cls:=.type "dict",data:=.dict (KU L) ep }/\L.length<=sizeLine/\EsN w s.heap L.toArray ks/\NAt s.heap key k /\
   (∀ (i:Nat) (e:zL) tk,ks[i]? = some k->L[i]? = some e->R (.ok (.ret e.val)) { s with toks:=tk }) /\
   ∀ (h':zN) (tk:Nat),k∉ks->(∀ b o,b≠d->s.heap.get? b=some o->h'.get? b=some o)->h'.get? d=some { cls:=.type "dict",data:=.dict (L++[DictEntry.mk (V0 w k) key dflt]).toArray (ep+1) }->R (.ok (.ret dflt)) { s with heap:=h',toks:=tk }) :=
 .of_wp fun A R s hZ3=>by
   obtain ⟨L,ep,ks,k,hu,ho,hz,N,x,h1,h0⟩:=hZ3; unfold i7.«dict.setdefault»;refine wZ ?_; unfold Builtin.Dict.keyAndDefault; refine wZ (EF ⟨_,ho,rfl⟩ ?_); show wpAny _ _ (pure (d,key,some dflt)) _ _ s;refine xA ?_; show wpAny _ _ (if (d==o0)=true then _ else (dictSetDefault d key dflt>>=_)) _ _ s;rw [if_neg (by rw [hd]; exact p8)];refine wZ ?_; unfold dictSetDefault;try with_reducible refine zE ?_
   refine wZ (x.hash (hu8 hu) fun tk=>?_);refine wZ (aP (s:={ s with toks:=tk }) (hu8 hu) ho rfl N x (fun i hi=>?_) fun hn=>?_)
   . obtain ⟨e,he⟩:=N.get hi
     refine wZ (p0 (s:={ s with toks:=tk }) ho rfl ?_); rw [he]; exact wZ (f8 (xA (xA ⟨_,rfl,h1 i e tk hi (by simpa using he)⟩)))
   . refine wZ (f8 (wZ (wpAny_updateDictKeys (hz:=by simpa using hz) (s:={ s with toks:=tk }) ho rfl (xA (xA ⟨dflt,rfl,h0 _ tk hn (fun b o hb e=>?_) ?_⟩)))))
     . exact (HC _ _ _ _ hb).trans e
     . have:=c6 (GA fun x=>x.push ⟨V0 w k,key,dflt⟩) ho (HG (Obj.data_mapDictKeys rfl _))
       rw [this]; simp [GA]
end
end Sm
end
noncomputable section
namespace Sm
open PySem PySem.Spec PyProof.Rows PySem.W L2
mutual
theorem Xy {H:Hp}:∀ {d:wY} {v:V},KRep H d v->Rep H d v
 | .none,_,r=>r
 | .int _,_,r=>r
 | .str _,_,r=>r
 | .tuple _,_,r=>by obtain ⟨b,xs,e,q,l⟩:=r; exact ⟨b,xs,e,q,Sg l⟩
 | .bool _,_,r=>(show False from r).elim
 | .list _,_,r=>(show False from r).elim
 | .dict _,_,r=>(show False from r).elim
theorem Sg {H:Hp}:∀ {ds:List wY} {xs:List V},KRepL H ds xs->RepL H ds xs
 | [],_,r=>r
 | _::_,_,r=>by obtain ⟨x,t,e,q,l⟩:=r; exact ⟨x,t,e,Xy q,Sg l⟩
end
mutual
theorem Wu {G H:Hp} (hG:Same G H):∀ {d:wY} {v:V},isK d=true->Rep G d v->KRep H d v
 | .int _,_,_,r=>r
 | .str _,_,_,r=>r
 | .tuple _,_,k,r=>by obtain ⟨b,xs,e,q,l⟩:=r; exact ⟨b,xs,e,hG _ _ q,Rx hG (by simpa [isK] using k) l⟩
 | .none,_,k,_=>by simp [isK] at k
 | .bool _,_,k,_=>by simp [isK] at k
 | .list _,_,k,_=>by simp [isK] at k
 | .dict _,_,k,_=>by simp [isK] at k
theorem Rx {G H:Hp} (hG:Same G H):∀ {ds:List wY} {xs:List V},Hr ds=true->RepL G ds xs->KRepL H ds xs
 | [],_,_,r=>r
 | _::_,_,k,r=>by
   simp only [Hr,yE] at k; obtain ⟨x,t,e,q,l⟩:=r; exact ⟨x,t,e,Wu hG k.1 q,Rx hG k.2 l⟩
end
theorem P7 {d:wY} (hn:nkD d=true):(d=.none\/(isK d=true/\((∃ xs,d=.tuple xs)\/∃ z,d=.str z)))/\d.depth<=8:=by
 unfold nkD at hn;split at hn
 . exact ⟨.inl rfl,by simp [zQ]⟩
 . exact ⟨.inr ⟨by simp [isK],.inr ⟨_,rfl⟩⟩,by simp [zQ]⟩
 . rw [yE] at hn
   exact ⟨.inr ⟨by simpa [isK] using hn.1,.inl ⟨_,rfl⟩⟩,of_decide_eq_true hn.2⟩
 . cases hn
theorem Hi {G H:Hp} (hG:Same G H) {d:wY} {v:V} (hn:nkD d=true) (r:Rep G d v):KRep H d v:=by
 rcases (P7 hn).1 with rfl | ⟨k,_⟩
 . exact r
 . exact Wu hG k r
noncomputable def N0 (kvs:List (wY×V)) (k:wY):Option V:=(kvs.find? fun p=>xT p.1 k).map (·.2)
noncomputable def F9 (kvs:List (wY×wY)) (k:wY):Option wY:=(kvs.find? fun p=>xT p.1 k).map (·.2)
theorem Fk {G:Hp} {k:wY}:∀ {kvs:List (wY×wY)} {kk:List (wY×V)},kvs.map (·.1)=kk.map (·.1)->RepL G (kvs.map (·.2)) (kk.map (·.2)) ->
   (F9 kvs k=none/\N0 kk k=none)\/∃ d v,F9 kvs k=some d/\N0 kk k=some v/\Rep G d v
 | [],[],_,_=>.inl ⟨rfl,rfl⟩
 | [],_::_,e,_=>by cases e
 | _::_,[],e,_=>by cases e
 | p::kvs,q::kk,e,r=>by
   simp only [xJ,z7] at e; obtain ⟨x,t,ex,rx,l⟩:=r; simp only [xJ,z7] at ex; unfold F9 N0; rw [yS,yS,e.1];cases hq:xT q.1 k with
   | true=>exact .inr ⟨p.2,q.2,rfl,rfl,by rw [ex.1]; exact rx⟩
   | false=>exact Fk (k:=k) e.2 (by rw [ex.2]; exact l)
theorem De {k:wY} (hk:nkD k=true):∀ {kk:List (wY×V)} {i:Nat} {v:V},(∀ p∈kk,nkD p.1=true)->(kk.map (·.1)).Nodup->kk[i]? = some (k,v)->N0 kk k=some v
 | [],_,_,_,_,h=>by simp at h
 | p::kk,i,v,hn,nd,h=>by
   unfold N0; rw [yS]; have hp:=Ks (P7 (hn p (.head _))).1 (P7 hk).1;cases i with
   | zero =>
     simp at h;subst h; rw [hp.mpr rfl]; rfl
   | succ i =>
     rw [xJ,zO] at nd; have hm:(k,v)∈kk:=n5 (by simpa using h);cases hq:xT p.1 k with
     | true=>exact absurd (by rw [hp.mp hq]; exact zA hm) nd.1
     | false=>exact De hk (fun q hq=>hn q (.tail _ hq)) nd.2 (by simpa using h)
theorem Fl {k:wY} (hk:nkD k=true) {kk:List (wY×V)} (hn:∀ p∈kk,nkD p.1=true) (h:k∉kk.map (·.1)):N0 kk k=none:=by
 unfold N0;rw [List.find?_eq_none.mpr]; · rfl
 intro p hp z;exact h (by rw [<- (Ks (P7 (hn p hp)).1 (P7 hk).1).mp z]; exact zA hp)
theorem Paired.at' {α β:Type} {F:α->β->Prop}:∀ {l₁:List α} {l₂:List β} {i:Nat} {a:α},f9 F l₁ l₂->l₁[i]? = some a->∃ b,l₂[i]? = some b/\F a b
 | _,_,i,_,.nil,h=>by simp at h
 | _,_,0,_,.cons r _,h=>by simp at h; subst h; exact ⟨_,rfl,r⟩
 | _,_,i+1,_,.cons _ t,h=>Paired.at' (i:=i) t (by simpa using h)
noncomputable section
variable {X:Cx} {pins:List (xI×Obj)} {Z:St} {H:Hp} {s:xC} {a:xI} {A:zI} {E:xB->xC->Prop}
theorem Hl (I:Inv X pins Z H s) {d:wY} {v:V} {u:xB} (r:KRep H d v) (hv:RelV v u) (hn:nkD d=true):NAt s.heap u d:=by
 have rr:=Xy r;exact ⟨rr.reads I (Same.refl _) hv,(P7 hn).1,rr.lay,(P7 hn).2⟩
abbrev PrN (H:Hp):wY×V->xB×xB->Prop:=fun p q=>(∃ v,KRep H p.1 v/\RelV v q.1)/\RelV p.2 q.2
theorem Fz {w:yR} {kvs:List (wY×V)} {xs:List (xB×xB)} (r:f9 (PrN H) kvs xs) {i:Nat} {e:zL} (he:(P3 w kvs xs)[i]? = some e) :
   ∃ p q,kvs[i]? = some p/\xs[i]? = some q/\PrN H p q/\e=⟨V0 w p.1,q.1,q.2⟩:=by
 unfold P3 at he;rw [List.getElem?_zipWith] at he;cases hp:kvs[i]? with
 | none=>rw [hp] at he; simp at he
 | some p =>
   obtain ⟨q,hq,hF⟩:=Paired.at' r hp; rw [hp,hq] at he; simp at he;exact ⟨p,q,rfl,hq,hF,he.symm⟩
theorem Paired.len' {α β:Type} {F:α->β->Prop}:∀ {l₁:List α} {l₂:List β},f9 F l₁ l₂->l₁.length=l₂.length
 | _,_,.nil=>rfl
 | _,_,.cons _ t=>by simp [Paired.len' t]
theorem Kr (I:Inv X pins Z H s) {kvs:List (wY×V)} {xs:List (xB×xB)} (r:f9 (PrN H) kvs xs) (nk:∀ p∈kvs,nkD p.1=true) (nd:(kvs.map (·.1)).Nodup):EsN X.w s.heap (P3 X.w kvs xs).toArray (kvs.map (·.1)) where
 len:=by
   have:=Paired.len' r; simp [P3,this]
 ent:=fun i e he=>by
   obtain ⟨p,q,h1,h2,⟨⟨v,h3,h4⟩,h5⟩,rfl⟩:=Fz r (by simpa using he);exact ⟨p.1,by rw [yM,h1]; rfl,Hl I h3 h4 (nk p (n5 h1)),rfl⟩
 nd:=nd
theorem vG {kvs:List (wY×V)} {kd:wY} {y d:V} {u r:xB} {Q:xB->xC->Prop} (hu:A.units+16 < m9) (I:Inv X pins Z H s) (e:Rd H a (.dN kvs)) (rk:KRep H kd y) (hk:nkD kd=true) (ry:RelV y u) (rd:RelV d r)
   (h:∀ w' s',Inv X pins Z H s'->RelV ((N0 kvs kd).getD d) w'->Q w' s'):wpAny (xW X.prog X.w) A (call (.builtin "dict.get") [.ref a,u,r]) Q E s:=by
 obtain ⟨z,hd,nd,nk,xs,rel,ep,e1⟩:=e.ok I.hok;refine GP F.slot_dict_get ⟨_,e1,rfl⟩ F.entry_dict_get (F.args_dict_get_3 _ _ _) (aM a u r hd) ⟨_,_,ep,kvs.map (·.1),kd,hu,e1,rfl,Kr I rel nk nd,Hl I rk ry hk,fun i e tk hi he=>h _ _ (I.tok _) ?_,fun tk hn=>h _ _ (I.tok _) ?_⟩
 . obtain ⟨p,q,h1,h2,⟨_,h5⟩,rfl⟩:=Fz rel (by simpa using he)
   rw [yM,h1] at hi; have hp:p=(kd,p.2):=by
     have:p.1=kd:=by simpa using hi
     rw [<- this]
   rw [hp] at h1; rw [De hk nk nd h1]; exact h5
 . rw [Fl hk nk hn]
   exact rd
end
def tE (td ty tx:TE):TE:=fun Z H Q=>td Z H fun x H1=>∃ a kvs,x=.ref a/\Rd H1 a (.dN kvs)/\ty Z H1 fun y H2=>tx Z H2 fun z H3=>∃ kvs kd,Rd H3 a (.dN kvs)/\KRep H3 kd y/\nkD kd=true/\Q ((N0 kvs kd).getD z) H3
noncomputable section
variable {X:Cx} {o e f:Expr} {apos cpos:Pos} {td ty tx:TE}
theorem jU (hu:X.A.units+16 < m9) (ho:PE X o td) (he:PE X e ty) (hf:PE X f tx) (m:M2 X o "get" apos e f cpos):PE X (.Call (.Attribute o "get" apos) [e,f] [] cpos) (tE td ty tx):=by
 intro pins s Z H Q I h;refine IZ m.base m.few m.line FB KD KC (thn (ho pins s Z H _ I h) fun u s1 hZ2=>?_);obtain ⟨x,H1,I1,rx,a,kvs,ex,d,q1⟩:=hZ2;subst ex;obtain rfl:u=zP a:=rx;obtain ⟨_,_,_,_,_,_,ep,e1⟩:=d.ok I1.hok;refine ⟨⟨_,e1,rfl⟩,fun b q=>by cases q; exact ⟨_,e1,rfl⟩,?_⟩;rw [m.trees];refine AW rfl (EA (AV (thn (he pins s1 Z H1 _ I1 q1) fun iv s2 hY79=>?_)));obtain ⟨y,H2,I2,ry,q2⟩:=hY79;refine AV (thn (hf pins s2 Z H2 _ I2 q2) fun fv s3 hY80=>?_)
 obtain ⟨z,H3,I3,rz,kvs,kd,g,rk,hk,q3⟩:=hY80;refine EZ ?_;exact vG hu I3 g rk hk ry rz fun w' s4 I4 rw'=>⟨_,H3,I4,rw',q3⟩
end
noncomputable def kvN (δ:Dn) (i:Nat):Option Kvs:=match δ[i]? with
 | some (.ow (.tuple [.dict kvs,.none]))=>some kvs
 | some (.fd ((.dict [],.none)::kvs))=>some kvs
 | _=>none
theorem SR.kvN {G H:Hp} {Z:St} {δ:Dn} {i:Nat} {kvs:Kvs} (S:SR G H Z δ) (h:kvN δ i=some kvs):∃ q,∃ kk:List (wY×V),Z[i]? = some (some (.ref q))/\Rd H q (.dN kk)/\kvs.map (·.1)=kk.map (·.1)/\RepL G (kvs.map (·.2)) (kk.map (·.2)):=by
 unfold Sm.kvN at h;split at h
 . rename_i kvs' hi
   cases h; obtain ⟨q,hσ,hq,ho⟩:=S.own hi; obtain ⟨kk,hx,hk,hv⟩:=(show OwnK G H q [.dict kvs,.none] from ho);exact ⟨q,kk,hσ,.inl hx,hk,hv⟩
 . rename_i kvs' hi
   cases h; obtain ⟨q,kk,hp,hx,hk,hv⟩:=(show FdOk G (Z[i]?.join) ((.dict [],.none)::kvs) from S.sl i _ hi);refine ⟨q,kk,?_,Rd.mono S.sub hx,hk,hv⟩;cases e:Z[i]? with
   | none=>rw [e] at hp; cases hp
   | some z =>
     rw [e] at hp;cases z with
     | none=>cases hp
     | some z=>cases hp; rfl
 . cases h
noncomputable def Mz (i:Nat) (f g:Dn->Res wY):Dn->Res wY:=fun δ=>match kvN δ i with
 | some kvs=>(f δ).bind fun kd=>(g δ).bind fun dd=>if nkD kd=true then .ok ((F9 kvs kd).getD dd) else .no
 | none=>.no
noncomputable section
variable {P:yD} {w:yR} {K:xF} {mg:Str->Option xB} {base:zN} {X:Cx} {N:List Str} {sc:Scope} {k:Nat} {df:Bool} {E:EK} {p apos cpos:Pos} {a b:Expr} {f g:Dn->Res wY} {x:Str}
theorem mE (C:Cxt P w K mg base X N sc k df) (i:Nat) (h:okVar N sc i x=true) (hk:DE X E a f) (hg:DE X E b g) (m:M2 X (.Name x p) "get" apos a b cpos:=by exact ⟨rfl,rfl,rfl,rfl⟩):DE X E (.Call (.Attribute (.Name x p) "get" apos) [a,b] [] cpos) (Mz i f g):=by
 refine PE.imp (jU (by have:=C.hu; lia) (okVar.pe C h) hk hg m) fun Z H Q hY81=>?_;obtain ⟨G,δ,S,aft⟩:=hY81;unfold Mz at aft;split at aft
 . rename_i kvs hi
   obtain ⟨q,kk,hσ,hx,hkeys,hvals⟩:=S.kvN hi; refine ⟨.ref q,hσ,q,kk,rfl,hx,?_⟩; refine L3 S aft fun kd v G1 H1 g1 r1 S1 a1=>?_;refine L3 S1 a1 fun dd v2 G2 H2 g2 r2 S2 a2=>?_;split at a2
   . rename_i hn
     refine ⟨kk,kd,Rd.mono g2.h (Rd.mono g1.h hx),Hi S2.sub hn (r1.mono g2.g),hn,?_⟩; rcases Fk (k:=kd) hkeys hvals with ⟨n1,n2⟩ | ⟨d0,v0,n1,n2,rd⟩
     . rw [n1] at a2; rw [n2]
       exact a2 _ G2 H2 (Grow.refl S2.sub) r2
     . rw [n1] at a2; rw [n2]
       exact a2 _ G2 H2 (Grow.refl S2.sub) (rd.mono (g1.g.trans g2.g))
   . exact a2.elim
 . exact aft.elim
end
end Sm
end
noncomputable section
namespace Sm
open PySem PySem.Spec PyProof.Rows PySem.W L2
theorem Yl {w:yR} {kvs:List (wY×V)} {xs:List (xB×xB)} {p:wY×V} {q:xB×xB} (h:kvs.length=xs.length):P3 w (kvs++[p]) (xs++[q])=P3 w kvs xs++[⟨V0 w p.1,q.1,q.2⟩]:=by
 unfold P3;rw [List.zipWith_append h]; rfl
theorem Paired.app' {α β:Type} {F:α->β->Prop} {a:α} {b:β} (h:F a b):∀ {l₁:List α} {l₂:List β},f9 F l₁ l₂->f9 F (l₁++[a]) (l₂++[b])
 | _,_,.nil=>.cons h .nil
 | _,_,.cons r t=>.cons r (Paired.app' h t)
noncomputable section
variable {X:Cx} {pins:List (xI×Obj)} {Z:St} {H:Hp} {s:xC} {a:xI} {A:zI} {E:xB->xC->Prop}
theorem vE {kvs:List (wY×V)} {kd:wY} {y d:V} {u r:xB} {Q:xB->xC->Prop} (hu:A.units+16 < m9) (I:Inv X pins Z H s) (e:H a=some (.dN kvs)) (rk:KRep H kd y) (hk:nkD kd=true) (hz:kvs.length < sizeLine) (ry:RelV y u) (rd:RelV d r)
   (h1:∀ v w' s',N0 kvs kd=some v->Inv X pins Z H s'->RelV v w'->Q w' s') (h0:∀ s',N0 kvs kd=none->Inv X pins Z (upd H a (.dN (kvs++[(kd,d)]))) s'->Q r s'):wpAny (xW X.prog X.w) A (call (.builtin "dict.setdefault") [.ref a,u,r]) Q E s:=by
 obtain ⟨z,hd,nd,nk,xs,rel,ep,e1⟩:=I.hok a _ e;have hl:=Paired.len' rel;have hlen:(P3 X.w kvs xs).length<=sizeLine:=by
   unfold P3; rw [List.length_zipWith]; lia
 refine GP F.slot_dict_setdefault ⟨_,e1,rfl⟩ F.entry_dict_setdefault (F.args_dict_setdefault_3 _ _ _) (Qx a u r hd) ⟨_,ep,kvs.map (·.1),kd,hu,e1,hlen,Kr I rel nk nd,Hl I rk ry hk,fun i e tk hi he=>?_,fun h' tk hn hkeep hnew=>?_⟩
 . obtain ⟨p,q,g1,g2,⟨_,g5⟩,rfl⟩:=Fz rel he
   rw [yM,g1] at hi; have hp:p=(kd,p.2):=by
     have:p.1=kd:=by simpa using hi
     rw [<- this]
   rw [hp] at g1; exact h1 p.2 _ _ (De hk nk nd g1) (I.tok _) g5
 . refine h0 _ (Fl hk nk hn) ?_
   have ht:∀ b ys,H b=some (.tup ys)->(upd H a (.dN (kvs++[(kd,d)]))) b=some (.tup ys):=fun b ys z=>by
     rw [C0 (Oz z e (fun z=>by cases z))]; exact z
   refine I.write (x:=a) (e:=a) (t':=tk) (by rw [e]; exact trivial) (.inl rfl) (fun b o hb q=>hkeep b o hb q) ⟨_,hnew⟩ ⟨by rw [xN]; show _+1<=_; lia,hd,?_,?_,xs++[(u,r)],?_,ep+1,?_⟩
   . rw [yA,l8]
     refine ⟨nd,by simp,fun x hx y hy=>?_⟩;have:y=kd:=by simpa using hy
     subst this; exact fun z=>hn (z▸hx)
   . intro p hp
     rcases xK.mp hp with hp | hp
     . exact nk p hp
     . rw [xM.mp hp]; exact hk
   . exact Paired.app' ⟨⟨y,rk.mono ht,ry⟩,rd⟩ (Paired.mapP rel fun p q hZ2=>by obtain ⟨⟨v,z1,z2⟩,z3⟩:=hZ2; exact ⟨⟨v,z1.mono ht,z2⟩,z3⟩)
   . rw [Yl hl]; exact hnew
end
def sY (td ty tx:TE):TE:=fun Z H Q=>td Z H fun x H1=>∃ a kvs,x=.ref a/\H1 a=some (.dN kvs)/\ty Z H1 fun y H2=>tx Z H2 fun z H3=>∃ kvs kd,H3 a=some (.dN kvs)/\KRep H3 kd y/\nkD kd=true/\kvs.length < sizeLine /\
 (∀ v,N0 kvs kd=some v->Q v H3)/\(N0 kvs kd=none->Q z (upd H3 a (.dN (kvs++[(kd,z)]))))
noncomputable section
variable {X:Cx} {o e f:Expr} {apos cpos:Pos} {td ty tx:TE}
theorem jT (hu:X.A.units+16 < m9) (ho:PE X o td) (he:PE X e ty) (hf:PE X f tx) (m:M2 X o "setdefault" apos e f cpos):PE X (.Call (.Attribute o "setdefault" apos) [e,f] [] cpos) (sY td ty tx):=by
 intro pins s Z H Q I h;refine IZ m.base m.few m.line FB PySem.F.slot_dict_setdefault PySem.F.type_dict_setdefault (thn (ho pins s Z H _ I h) fun u s1 hZ2=>?_);obtain ⟨x,H1,I1,rx,a,kvs,ex,d,q1⟩:=hZ2;subst ex;obtain rfl:u=zP a:=rx;obtain ⟨_,_,_,_,_,_,ep,e1⟩:=I1.hok a _ d;refine ⟨⟨_,e1,rfl⟩,fun b q=>by cases q; exact ⟨_,e1,rfl⟩,?_⟩;rw [m.trees];refine AW rfl (EA (AV (thn (he pins s1 Z H1 _ I1 q1) fun iv s2 hY82=>?_)));obtain ⟨y,H2,I2,ry,q2⟩:=hY82;refine AV (thn (hf pins s2 Z H2 _ I2 q2) fun fv s3 hY83=>?_)
 obtain ⟨z,H3,I3,rz,kvs,kd,g,rk,hk,hz,q3,q4⟩:=hY83;refine EZ ?_;exact vE hu I3 g rk hk hz ry rz (fun v w' s4 hv I4 rw'=>⟨v,H3,I4,rw',q3 v hv⟩) fun s4 hv I4=>⟨z,_,I4,rz,q4 hv⟩
end
noncomputable def Mk:List (wY×wY)->wY->wY->List (wY×wY)
 | [],k,v=>[(k,.list [v])]
 | p::r,k,v=>if xT p.1 k=true then (match p.2 with | .list ds=>(p.1,.list (ds++[v])) | d=>(p.1,d))::r else p::Mk r k v
end Sm
end
noncomputable section
namespace Sm
open PySem PySem.Spec PyProof.Rows PySem.W L2
noncomputable def NL (G H H1:Hp):List (wY×wY)->List (wY×xI×List V)->Prop
 | [],[]=>True
 | p::kvs,r::kk=>p.1=r.1/\(∃ ds,p.2=.list ds/\RepL G ds r.2.2)/\(H r.2.1=some (.lst r.2.2)/\G r.2.1=none/\H1 r.2.1=none)/\NL G H H1 kvs kk
 | _,_=>False
abbrev prs (kk:List (wY×xI×List V)):List (wY×V):=kk.map fun r=>(r.1,.ref r.2.1)
noncomputable section
variable {G G' H H' H1:Hp}
theorem NL.keep (g:Same G G'):∀ {kvs:List (wY×wY)} {kk:List (wY×xI×List V)},(∀ r∈kk,H r.2.1=some (.lst r.2.2)->G r.2.1=none->H1 r.2.1=none->H' r.2.1=some (.lst r.2.2)/\G' r.2.1=none)->NL G H H1 kvs kk->NL G' H' H1 kvs kk
 | [],[],_,h=>h
 | [],_::_,_,h=>h
 | _::_,[],_,h=>h
 | _::_,r::_,k,⟨h1,⟨ds,h2,h3⟩,⟨h4,h5,h6⟩,h7⟩=>⟨h1,⟨ds,h2,h3.mono g⟩,⟨(k r (.head _) h4 h5 h6).1,(k r (.head _) h4 h5 h6).2,h6⟩,NL.keep g (fun r hr=>k r (.tail _ hr)) h7⟩
theorem NL.grow (g:Grow G H G' H') {kvs:List (wY×wY)} {kk:List (wY×xI×List V)} (h:NL G H H1 kvs kk):NL G' H' H1 kvs kk:=by
 refine h.keep g.g fun r _ e n _=>⟨g.h _ _ e,?_⟩;cases q:G' r.2.1 with
 | none=>rfl
 | some u =>
   rcases g.fr _ u q with y | y | ⟨ys,rfl⟩
   . rw [n] at y; cases y
   . rw [e] at y; cases y
   . have:=g.gh _ _ q; rw [g.h _ _ e] at this; cases this
theorem NL.mem:∀ {kvs:List (wY×wY)} {kk:List (wY×xI×List V)},NL G H H1 kvs kk->∀ r∈kk,H r.2.1=some (.lst r.2.2)/\G r.2.1=none/\H1 r.2.1=none
 | [],[],_,_,m=>nomatch m
 | [],_::_,h,_,_=>h.elim
 | _::_,[],h,_,_=>h.elim
 | _::_,r::_,⟨_,_,h4,h7⟩,x,m=>by
   rcases xD.mp m with rfl | m
   . exact h4
   . exact NL.mem h7 x m
theorem NL.keys:∀ {kvs:List (wY×wY)} {kk:List (wY×xI×List V)},NL G H H1 kvs kk->kvs.map (·.1)=(prs kk).map (·.1)
 | [],[],_=>rfl
 | [],_::_,h=>h.elim
 | _::_,[],h=>h.elim
 | _::_,_::_,⟨h1,_,_,h7⟩=>by
   simp only [xJ,h1]; rw [NL.keys h7]
theorem NL.new {p:xI} {y:V} {kd vd:wY} (rv:Rep G vd y) (hp:H p=some (.lst [y])/\G p=none/\H1 p=none):∀ {kvs:List (wY×wY)} {kk:List (wY×xI×List V)},NL G H H1 kvs kk->N0 (prs kk) kd=none->NL G H H1 (Mk kvs kd vd) (kk++[(kd,p,[y])])
 | [],[],_,_=>⟨rfl,⟨[vd],rfl,RepL.cons rv rfl⟩,hp,trivial⟩
 | [],_::_,h,_=>h.elim
 | _::_,[],h,_=>h.elim
 | q::kvs,r::kk,⟨h1,h2,h4,h7⟩,e=>by
   unfold N0 at e; rw [show prs (r::kk)=(r.1,.ref r.2.1)::prs kk from rfl,yS] at e;cases z:xT r.1 kd with
   | true=>rw [z] at e; cases e
   | false =>
     rw [z] at e; unfold Mk; rw [h1,z,if_neg (by decide)]; exact ⟨h1,h2,h4,NL.new rv hp h7 e⟩
theorem NL.put {kd:wY} {v:V}:∀ {kvs:List (wY×wY)} {kk:List (wY×xI×List V)},NL G H H1 kvs kk->(kk.map (·.2.1)).Nodup->N0 (prs kk) kd=some v ->
   ∃ l xs,v=.ref l/\(∃ r∈kk,r.2=(l,xs))/\∀ (y:V) (vd:wY),Rep G vd y->∃ kk',prs kk'=prs kk/\kk'.map (·.2.1)=kk.map (·.2.1)/\(∀ r∈kk',r.2.2.length<=xs.length+1\/r∈kk)/\NL G (upd H l (.lst (xs++[y]))) H1 (Mk kvs kd vd) kk'
 | [],[],_,_,e=>by cases e
 | [],_::_,h,_,_=>h.elim
 | _::_,[],h,_,_=>h.elim
 | q::kvs,r::kk,⟨h1,⟨ds,h2,h3⟩,⟨h4,h5,h6⟩,h7⟩,nd,e=>by
   rw [xJ,zO] at nd; unfold N0 at e; rw [show prs (r::kk)=(r.1,.ref r.2.1)::prs kk from rfl,yS] at e;cases z:xT r.1 kd with
   | true =>
     rw [z] at e; cases e; refine ⟨r.2.1,r.2.2,rfl,⟨r,.head _,rfl⟩,fun y vd rv=>⟨(r.1,r.2.1,r.2.2++[y])::kk,rfl,rfl,fun x hx=>?_,?_⟩⟩
     . rcases xD.mp hx with rfl | hx
       . left; simp
       . exact .inr (.tail _ hx)
     . unfold Mk
       rw [h1,z,if_pos rfl,h2]; refine ⟨rfl,⟨ds++[vd],rfl,h3.append (RepL.cons rv rfl)⟩,⟨B8,h5,h6⟩,h7.keep (Same.refl _) fun x hx e n _=>⟨?_,n⟩⟩;rw [C0 (fun w=>nd.1 (by rw [<- w]; exact zA hx))]; exact e
   | false =>
     rw [z] at e; obtain ⟨l,xs,e1,⟨r0,m0,e0⟩,k⟩:=NL.put h7 nd.2 e; have hl:l∈kk.map (·.2.1):=yK.mpr ⟨r0,m0,by rw [e0]⟩;refine ⟨l,xs,e1,⟨r0,.tail _ m0,e0⟩,fun y vd rv=>?_⟩;obtain ⟨kk',k1,k2,k3,k4⟩:=k y vd rv; refine ⟨r::kk',congrArg (List.cons (r.1,V.ref r.2.1)) k1,congrArg (List.cons r.2.1) k2,fun x hx=>?_,?_⟩
     . rcases xD.mp hx with rfl | hx
       . exact .inr (.head _)
       . rcases k3 x hx with w | w
         . exact .inl w
         . exact .inr (.tail _ w)
     . unfold Mk
       rw [h1,z,if_neg (by decide)]; exact ⟨h1,⟨ds,h2,h3⟩,⟨by rw [C0 (fun w=>nd.1 (by rw [w]; exact hl))]; exact h4,h5,h6⟩,k4⟩
noncomputable def shG (as:List xI) (G H:Hp):Hp:=fun b=>open Classical in if b∈as then H b else G b
theorem iY {as:List xI} {b:xI} (h:b∈as):shG as G H b=H b:=by unfold shG; rw [if_pos h]
theorem Im {as:List xI} {b:xI} (h:b∉as):shG as G H b=G b:=by unfold shG; rw [if_neg h]
theorem NL.same {kvs:List (wY×wY)} {kk:List (wY×xI×List V)} (h:NL G H H1 kvs kk):Same G (shG (kk.map (·.2.1)) G H):=fun b u e=>by
 by_cases m:b∈kk.map (·.2.1)
 . obtain ⟨r,hr,rfl⟩:=yK.mp m
   rw [(h.mem r hr).2.1] at e; cases e
 . rw [Im m]; exact e
theorem NL.vals {as:List xI} (s:Same G (shG as G H)):∀ {kvs:List (wY×wY)} {kk:List (wY×xI×List V)},NL G H H1 kvs kk->(∀ r∈kk,r.2.1∈as)->RepL (shG as G H) (kvs.map (·.2)) ((prs kk).map (·.2))
 | [],[],_,_=>rfl
 | [],_::_,h,_=>h.elim
 | _::_,[],h,_=>h.elim
 | q::kvs,r::kk,⟨_,⟨ds,h2,h3⟩,⟨h4,_,_⟩,h7⟩,m=>by
   rw [xJ,h2]; exact RepL.cons ⟨r.2.1,r.2.2,rfl,.inl (by rw [iY (m r (.head _))]; exact h4),h3.mono s⟩ (NL.vals s h7 fun x hx=>m x (.tail _ hx))
end
theorem SR.forget {G H:Hp} {Z:St} {δ:Dn} (S:SR G H Z δ) (i:Nat):SR G H Z (δ.set i .un):=by
 have key:∀ (j:Nat) (s:Sl),(δ.set i .un)[j]? = some s->s=.un\/δ[j]? = some s:=fun j s e=>by
   rw [E2] at e;split at e
   . cases e; exact .inl rfl
   . exact .inr e
 refine ⟨S.sub,by simp [S.len],fun j s e=>?_,fun j1 j2 a d1 d2 e1 e2 h1 h2=>?_⟩
 . rcases key j s e with rfl | e
   . trivial
   . exact S.sl j s e
 . rcases key j1 _ e1 with z | e1
   . cases z
   . rcases key j2 _ e2 with z | e2
     . cases z
     . exact S.ap j1 j2 a d1 d2 e1 e2 h1 h2
theorem SSt.forget {G0 H0 G H:Hp} {Z:St} {δ:Dn} (S:SSt G0 H0 G H Z δ) (i:Nat):SSt G0 H0 G H Z (δ.set i .un) :=
 ⟨S.gr,S.sr.forget i,fun j d a e h=>by
   rw [E2] at e;split at e
   . cases e
   . exact S.fr j d a e h⟩
theorem OwnOk.off {G H H':Hp} {a:xI} {d:wY} (e:H' a=H a) (h:OwnOk G H a d):OwnOk G H' a d:=by
 cases d with
 | list ds=>obtain ⟨xs,q,r⟩:=h; exact ⟨xs,e.trans q,r⟩
 | dict kvs=>obtain ⟨xs,q,r⟩:=h; exact ⟨xs,e.trans q,r⟩
 | tuple xs=>exact OwnK.keep (Same.refl _) (fun o q=>e.trans q) h
 | _=>exact (show False from h).elim
theorem SSt.off {G0 H0 G H H':Hp} {Z:St} {δ:Dn} (S:SSt G0 H0 G H Z δ) (h0:Same H0 H') (hg:Same G H') (k:∀ (j:Nat) (d:wY) (a:xI),δ[j]? = some (.ow d)->Z[j]?.join=some (.ref a)->H' a=H a):SSt G0 H0 G H' Z δ:=by
 refine ⟨⟨S.gr.g,h0,hg,S.gr.fr⟩,⟨hg,S.sr.len,fun j s e=>?_,S.sr.ap⟩,S.fr⟩;have hs:=S.sr.sl j s e;cases s with
 | un=>trivial
 | sh d=>exact hs
 | fd _=>exact hs
 | ow d =>
   obtain ⟨a,e1,n1,ok⟩:=hs; exact ⟨a,e1,n1,ok.off (k j d a e e1)⟩
end Sm
end
noncomputable section
namespace Sm
open PySem PySem.Spec PyProof.Rows PySem.W L2
noncomputable def Qz (δ:Dn) (t:Nat) (c:Dn->Res Bool) (fk fv:Dn->Res wY):List wY->List (wY×wY)->Res Kvs
 | [],kvs=>.ok kvs
 | d::ds,kvs=>match c (δ.set t (.sh d)) with
   | .ok true=>match fk (δ.set t (.sh d)) with
     | .ok kd=>match fv (δ.set t (.sh d)) with
       | .ok vd=>if nkD kd=true then Qz δ t c fk fv ds (Mk kvs kd vd) else .no
       | _=>.no
     | _=>.no
   | .ok false=>Qz δ t c fk fv ds kvs
   | _=>.no
noncomputable def nU (i t:Nat) (src:Dn->Res (List wY)) (c:Dn->Res Bool) (fk fv:Dn->Res wY):Dn->Out:=fun δ=>match δ[i]? with
 | some (.ow (.tuple [.dict [],.none]))=>M9 (src (δ.set i .un)) fun ds=>if ds.length < 1000/\i≠t then (match Qz ((δ.set i .un).set t .un) t c fk fv ds [] with
   | .ok kvs=>.nx ((δ.set i (.ow (.tuple [.dict kvs,.none]))).set t .un)
   | _=>.no) else .no
 | _=>.no
structure GrpAt (G1 H0 H1:Hp) (i:Nat) (q:xI) (δv:Dn) (n:Nat) (τ:St) (Hc:Hp) (kvs:List (wY×wY)):Prop where
 ex:∃ Gc kk,SSt G1 H0 Gc Hc τ δv/\Gc q=none/\Hc q=some (.dN (prs kk))/\NL Gc Hc H1 kvs kk/\(kk.map (·.2.1)).Nodup/\kk.length<=n/\∀ r∈kk,r.2.2.length<=n
 hi:τ[i]? = some (some (.ref q))
 ap:∀ (j:Nat) (d:wY) (a:xI),δv[j]? = some (.ow d)->τ[j]?.join=some (.ref a)->a≠q/\∃ o,H1 a=some o
 kp:∀ b o,H1 b=some o->∃ o',Hc b=some o'
theorem Nz {H1 H:Hp} {p:xI} {o:HO} (h:∀ b o,H1 b=some o->∃ o',H b=some o'):∀ b u,H1 b=some u->∃ o',(upd H p o) b=some o':=fun b u e=>by
 by_cases z:b=p
 . subst z; exact ⟨_,B8⟩
 . rw [C0 z]; exact h b u e
theorem Q1 {H1 H H':Hp} (s:Same H H') (h:∀ b o,H1 b=some o->∃ o',H b=some o'):∀ b u,H1 b=some u->∃ o',H' b=some o':=fun b u e=>by
 obtain ⟨o',z⟩:=h b u e;exact ⟨o',s _ _ z⟩
theorem Grow.stay {G H G' H':Hp} (g:Grow G H G' H') {q:xI} {o:HO} (n:G q=none) (e:H q=some o) (h:∀ ys,o≠.tup ys):G' q=none:=by
 cases z:G' q with
 | none=>rfl
 | some u =>
   rcases g.fr q u z with y | y | ⟨ys,rfl⟩
   . rw [n] at y; cases y
   . rw [e] at y; cases y
   . have:=g.gh _ _ z; rw [g.h _ _ e] at this; cases this; exact absurd rfl (h ys)
theorem Cw {H0 H:Hp} {p:xI} {o:HO} (s:Same H0 H) (h:H0 p=none):Same H0 (upd H p o):=fun b u e=>by
 rw [C0 (D8 e h)]; exact s _ _ e
theorem OwnOk.monoG {G G' H:Hp} {a:xI} {d:wY} (g:Same G G') (h:OwnOk G H a d):OwnOk G' H a d:=by
 cases d with
 | list ds=>obtain ⟨xs,q,r⟩:=h; exact ⟨xs,q,r.mono g⟩
 | dict kvs=>obtain ⟨xs,q,k,r⟩:=h; exact ⟨xs,q,k,r.mono g⟩
 | tuple xs=>exact OwnK.keep g (fun o q=>q) h
 | _=>exact (show False from h).elim
noncomputable section
variable {P:yD} {w:yR} {K:xF} {mg:Str->Option xB} {base:zN} {X:Cx} {N:List Str} {sc:Scope} {k:Nat} {df:Bool} {E:EK} {p px pl ap1 cp1 ap2 cp2 ep ip pos:Pos} {ke ve ce iter:Expr} {fk fv:Dn->Res wY} {c:Dn->Res Bool} {src:Dn->Res (List wY)} {x y:Str}
theorem s_grp (C:Cxt P w K mg base X N sc k df) (i t:Nat) (ht:okSet N sc df t y=true) (h:okVar N sc i x=true) (hi:DI X E (.Name y px) iter src) (hc:DT X E ce c) (hk:DE X E ke fk) (hv:DE X E ve fv)
   (m2:M2 X (.Name x p) "setdefault" ap1 ke (.List [] pl) cp1) (hs:∀ x,a9 iter X.env x=pure x)
   (hbase:AD (.Call (.Attribute (.Name x p) "setdefault" ap1) [ke,.List [] pl] [] cp1) "append" X.env (eval (.Call (.Attribute (.Name x p) "setdefault" ap1) [ke,.List [] pl] [] cp1) X.env)=eval (.Call (.Attribute (.Name x p) "setdefault" ap1) [ke,.List [] pl] [] cp1) X.env)
   (hfew:((i6 cp2 (xO [ve] X.env)).all (fun x => !x.1)&&(GI cp2 (DG [] X.env)).all (fun x=>x.1.isSome)&&decide ([ve].length+([]:List BW).length+(if ([]:List BW).isEmpty then 0 else 1) < 30))=true)
   (hline:(ap2.endLine==cp2.line)=true) (hst:xO [ve] X.env=(false,eval ve X.env)::xO [] X.env) (hplain:(i6 cp2 (xO [] X.env)).any (·.1)=false)
   (hsw:q9 (.Call (.Attribute (.Call (.Attribute (.Name x p) "setdefault" ap1) [ke,.List [] pl] [] cp1) "append" ap2) [ve] [] cp2) none ep.line X.env=pure false) :
   DS X E (.For (.Name y px) iter [.If ce [.Expr (.Call (.Attribute (.Call (.Attribute (.Name x p) "setdefault" ap1) [ke,.List [] pl] [] cp1) "append" ap2) [ve] [] cp2) ep] [] ip] [] pos) (nU i t src c fk fv):=fun G0 H0=>by
 obtain ⟨d1,d2,d3,d4⟩:=okSet.ok C ht;have app:=Uh (pos:=ep) (Xd CC JI JH Km (jT (by have:=C.hu; lia) (okVar.pe C h (p:=p)) hk (jW (pos:=pl) R0) m2) (L7 hv R0 hst) hbase hfew hline hst hplain) hsw;refine PS.imp (jQ (pos:=pos) C.own C.calm hi (U0 d1 d2 d3 d4) (Jc (rW (pos:=ip) hc (Jc app) cI)) hs) fun D Z H hh=>?_;obtain ⟨G,δ,S,aft⟩:=hh;unfold nU at aft;split at aft
 . rename_i hsl
   obtain ⟨q,hσ,hgq,ho⟩:=S.sr.own hsl; obtain ⟨kk0,hx,hkeys,_⟩:=(show OwnK G H q [.dict [],.none] from ho);have hk0:kk0=[]:=by
     cases kk0 with
     | nil=>rfl
     | cons _ _=>cases hkeys
   subst hk0; have hil:i < δ.length:=(yJ.mp hsl).1; have hq0:H0 q=none:=S.fr i _ q hsl (by rw [hσ]; rfl);refine mR (S.forget i) aft fun ds J G1 H1 gr W S1 a1=>?_;split at a1
   . rename_i hcond
     obtain ⟨hlen,hit⟩:=hcond; have g01:=S1.gr;cases eout:Qz ((δ.set i .un).set t .un) t c fk fv ds [] with
     | ok out =>
       rw [eout] at a1; have S2:=(S1.forget t).rebase g01 (Same.refl _);generalize hδv:(δ.set i .un).set t .un=δv at *;have apv:∀ (j:Nat) (d:wY) (a:xI),δv[j]? = some (.ow d)->δ[j]? = some (.ow d)/\j≠i:=fun j d a e=>by
         rw [<- hδv,E2] at e;split at e
         . cases e
         . rw [E2] at e
           split at e
           . cases e
           . rename_i hn
             exact ⟨e,fun z=>by subst z; exact hn ⟨rfl,hil⟩⟩
       have hG1q:G1 q=none:=by
         cases z:G1 q with
         | none=>rfl
         | some u =>
           rcases gr.fr q u z with y | y | ⟨ys,rfl⟩
           . rw [hgq] at y; cases y
           . rw [hx] at y; cases y
           . have:=gr.gh _ _ z; rw [gr.h _ _ hx] at this; cases this
       refine ⟨fun n m τ Hc=>m=ds.length - n/\n<=ds.length/\∃ kvs,GrpAt G1 H0 H1 i q δv n τ Hc kvs/\Qz δv t c fk fv (ds.drop n) kvs=.ok out,⟨_,rfl,c7 _,[],⟨⟨G1,[],S2,hG1q,gr.h _ _ hx,trivial,.nil,xL _,fun _ h=>nomatch h⟩,hσ,fun j d a e1 e2=>?_,fun b o e=>⟨o,e⟩⟩,by rw [ES]; exact eout⟩,?_⟩
       . obtain ⟨e3,hne⟩:=apv j d a e1
         refine ⟨fun z=>hne (S.sr.ap j i q d _ e3 hsl (z▸e2) (by rw [hσ]; rfl)),?_⟩;obtain ⟨a',h1,_,h3⟩:=S.sr.sl j _ e3; rw [e2] at h1; cases h1; obtain ⟨o,z⟩:=h3.some; exact ⟨o,gr.h _ _ z⟩
       rintro n m τ Hc ⟨rfl,hn,kvs,⟨⟨Gc,kk,Sc,gq,dq,nl,nd,kl,rl⟩,hτ,ap,kp⟩,eg⟩;by_cases hlt:n < ds.length
       . have hd:ds[n]? = some ds[n]:=yU hlt
         rw [p4 hlt] at eg; unfold Qz at eg; refine .inr ⟨W.go n Hc hlt (Sc.gr.g.trans Sc.sr.sub),fun τ2 H2=>∃ kvs,GrpAt G1 H0 H1 i q δv (n+1) τ2 H2 kvs/\Qz δv t c fk fv (ds.drop (n+1)) kvs=.ok out,fun τ2 H2 z=>⟨_,by lia,rfl,hlt,z⟩,fun v H'' hy=>?_⟩;obtain ⟨G3,g3,r3⟩:=W.yld n _ Gc Hc v H'' hd Sc.gr.g Sc.sr.sub hy; have S3:=(Sc.grow g3).set_sh (i:=t) r3; have nl3:=nl.grow g3; have dq3:=g3.h _ _ dq; have gq3:G3 q=none:=g3.stay gq dq fun ys z=>by cases z
         have h01:Same H0 H1:=S1.gr.h; have hback:((δv.set t (.sh ds[n])).set t .un)=δv:=by rw [<- hδv]; simp
         have hτ':(τ.set t (some v))[i]? = some (some (.ref q)):=by rw [ED (Ne.symm hit)]; exact hτ
         have htv:∀ (j:Nat) (d:wY),δv[j]? = some (.ow d)->j≠t:=fun j d e z=>by
           subst z; rw [<- hδv,E2] at e;split at e
           . cases e
           . rename_i hn
             have:=(yJ.mp e).1; rw [IU] at this; exact hn ⟨rfl,by rw [IU]; exact this⟩
         have ap':∀ (j:Nat) (d:wY) (a:xI),δv[j]? = some (.ow d)->(τ.set t (some v))[j]?.join=some (.ref a)->a≠q/\∃ o,H1 a=some o:=fun j d a e1 e2=>by
           rw [ED (Ne.symm (htv j d e1))] at e2; exact ap j d a e1 e2
         have apb:∀ (j:Nat) (d:wY) (a:xI),(δv.set t (.sh ds[n]))[j]? = some (.ow d)->(τ.set t (some v))[j]?.join=some (.ref a)->a≠q/\∃ o,H1 a=some o:=fun j d a e1 e2=>by
           rw [E2] at e1;split at e1
           . cases e1
           . exact ap' j d a e1 e2
         show tIfS _ _ _ _ (τ.set t (some v)) H'';generalize hδb:δv.set t (.sh ds[n])=δb at *;generalize τ.set t (some v)=τ' at *;have fin:∀ (Gz Hz:Hp) (kz:List (wY×wY)) (kkz:List (wY×xI×List V)),SSt G1 H0 Gz Hz τ' δb->Gz q=none->Hz q=some (.dN (prs kkz))->NL Gz Hz H1 kz kkz->(kkz.map (·.2.1)).Nodup->kkz.length<=n+1->(∀ r∈kkz,r.2.2.length<=n+1)->(∀ b o,H1 b=some o->∃ o',Hz b=some o')->GrpAt G1 H0 H1 i q δv (n+1) τ' Hz kz:=fun Gz Hz kz kkz s1 s2 s3 s4 s5 s6 s7 s8=>by
           have:=s1.forget t; rw [hback] at this; exact ⟨⟨Gz,kkz,this,s2,s3,s4,s5,s6,s7⟩,hτ',ap',s8⟩
         refine ⟨G3,δb,S3.sr,?_⟩;cases ec:c δb with
         | exc _=>rw [ec] at eg; cases eg
         | no=>rw [ec] at eg; cases eg
         | ok bb =>
           rw [ec] at eg; intro G4 H4 g4; have S4:=S3.grow g4; have nl4:=nl3.grow g4; have dq4:=g4.h _ _ dq3; have kp4:=Q1 g4.h (Q1 g3.h kp); have gq4:G4 q=none:=g4.stay gq3 dq3 fun ys z=>by cases z
           cases bb with
           | false =>
             rw [if_neg (by decide)]; exact ⟨kvs,fin G4 H4 kvs kk S4 gq4 dq4 nl4 nd (by lia) (fun r hr=>o8 (rl r hr)) kp4,eg⟩
           | true =>
             rw [if_pos rfl]; dsimp only at eg;cases efk:fk δb with
             | exc _=>rw [efk] at eg; cases eg
             | no=>rw [efk] at eg; cases eg
             | ok kd =>
               rw [efk] at eg; dsimp only at eg;cases efv:fv δb with
               | exc _=>rw [efv] at eg; cases eg
               | no=>rw [efv] at eg; cases eg
               | ok vd =>
                 rw [efv] at eg; dsimp only at eg;split at eg
                 . rename_i hnk
                   refine ⟨.ref q,hτ',q,prs kk,rfl,dq4,G4,δb,S4.sr,?_⟩; rw [efk]; intro y5 G5 H5 g5 r5; have S5:=S4.grow g5; refine ⟨c7 _,fun p hp=>?_⟩;have g6:Grow G5 H5 G5 (upd H5 p (.lst [])):=Grow.own S5.sr.sub hp; have S6:=S5.grow g6; have nl6:=(nl4.grow g5).grow g6; have dq5:=g5.h _ _ dq4; have hpq:q≠p:=D8 dq5 hp; have dq6:(upd H5 p (.lst [])) q=some (.dN (prs kk)):=g6.h _ _ dq5; have gq5:G5 q=none:=g5.stay gq4 dq4 fun ys z=>by cases z
                   have hz:(prs kk).length < sizeLine:=by
                     have:(1000:Nat)<=sizeLine:=by decide
                     rw [xG]; lia
                   refine ⟨prs kk,kd,dq6,Hi S6.sr.sub hnk r5,hnk,hz,fun v0 hv0=>?_,fun hn0=>?_⟩
                   . obtain ⟨l,xs,e1,⟨r0,m0,e0⟩,_⟩:=NL.put nl6 nd hv0
                     subst e1; have hm6:=nl6.mem r0 m0; rw [e0] at hm6; refine ⟨.inl ⟨rfl,xs,.inl (.inl hm6.1)⟩,G5,δb,S6.sr,?_⟩; rw [efv]; intro y7 G7 H7 g7 r7; have S7:=S6.grow g7; have nl7:=nl6.grow g7; have dq7:=g7.h _ _ dq6; have gq7:G7 q=none:=g7.stay gq5 dq6 fun ys z=>by cases z
                     have hm7:=nl7.mem r0 m0; rw [e0] at hm7; have hxs:xs.length<=n:=by have:=rl r0 m0; rw [e0] at this; exact this
                     have hql:q≠l:=Oz dq7 hm7.1 fun z=>by cases z
                     obtain ⟨l',xs',e1',⟨r1,m1,e1r⟩,kp⟩:=NL.put nl7 nd hv0;cases e1'; have hm1:=nl7.mem r1 m1; rw [e1r] at hm1; have exs:xs'=xs:=by have:=hm1.1.symm.trans hm7.1; cases this; rfl
                     subst exs; obtain ⟨kk',k1,k2,k3,k4⟩:=kp y7 vd r7; refine ⟨l,xs',y7,rfl,rfl,hm7.1,EW hxs (yT (show n < 1000 by lia) (by decide)),Mk kvs kd vd,fin G7 _ _ kk' (S7.off (Cw S7.gr.h (h01.free hm7.2.2)) (Cw S7.sr.sub hm7.2.1) fun j d a z1 z2=>?_) gq7 (by rw [C0 hql,k1]; exact dq7) k4 (by rw [k2]; exact nd) ?_ (fun r hr=>?_) (Nz (Q1 g7.h (Q1 g6.h (Q1 g5.h kp4)))),eg⟩
                     . obtain ⟨_,o,ho⟩:=apb j d a z1 z2
                       rw [C0 (D8 ho hm7.2.2)]
                     . have:=congrArg y4 k2
                       rw [xG,xG] at this;lia
                     . rcases k3 r hr with z | z
                       . lia
                       . exact o8 (rl r z)
                   . have hH1p : H1 p = none := by
                       cases z:H1 p with
                       | none=>rfl
                       | some u =>
                         obtain ⟨o',w⟩:=Q1 g5.h kp4 p u z; rw [hp] at w; cases w
                     have hG5p:G5 p=none:=S5.sr.sub.free hp; have hp6:(upd H5 p (.lst [])) p=some (.lst []):=B8; have S7:SSt G1 H0 G5 (upd (upd H5 p (.lst [])) q (.dN (prs kk++[(kd,.ref p)]))) τ' δb:=S6.off (Cw S6.gr.h hq0) (Cw S6.sr.sub gq5) fun j d a z1 z2=>by rw [C0 (apb j d a z1 z2).1]
                     have hp7:(upd (upd H5 p (.lst [])) q (.dN (prs kk++[(kd,.ref p)]))) p=some (.lst []):=by rw [C0 (Ne.symm hpq)]; exact hp6
                     refine ⟨.inl ⟨rfl,[],.inl (.inl hp7)⟩,G5,δb,S7.sr,?_⟩; rw [efv]; intro y8 G8 H8 g8 r8; have S8:=S7.grow g8; have hp8:=g8.h _ _ hp7; have gp8:G8 p=none:=g8.stay hG5p hp7 fun ys z=>by cases z
                     have dq7:(upd (upd H5 p (.lst [])) q (.dN (prs kk++[(kd,.ref p)]))) q=some (.dN (prs kk++[(kd,.ref p)])):=B8; have dq8:=g8.h _ _ dq7; have gq8:G8 q=none:=g8.stay gq5 dq7 fun ys z=>by cases z
                     have nl7:NL G5 (upd (upd H5 p (.lst [])) q (.dN (prs kk++[(kd,.ref p)]))) H1 kvs kk:=nl6.keep (Same.refl _) fun r _ e n _=>⟨by rw [C0 (Oz e dq6 fun z=>by cases z)]; exact e,n⟩;have hne:∀ r∈kk,r.2.1≠p:=fun r hr=>D8 ((nl4.grow g5).mem r hr).1 hp;have nl9:NL G8 (upd H8 p (.lst [y8])) H1 kvs kk:=(nl7.grow g8).keep (Same.refl _) fun r hr e n _=>⟨by rw [C0 (hne r hr)]; exact e,n⟩;refine ⟨p,[],y8,rfl,rfl,hp8,by show 0 < sizeLine; decide,Mk kvs kd vd,fin G8 _ _ (kk++[(kd,p,[y8])]) (S8.off (Cw S8.gr.h (h01.free hH1p)) (Cw S8.sr.sub gp8) fun j d a z1 z2=>?_) gq8 ?_ (NL.new r8 ⟨B8,gp8,hH1p⟩ nl9 hn0) ?_ (by rw [xN]; show _+1<=_; lia) (fun r hr=>?_) (Nz (Q1 g8.h (Nz (Q1 g6.h (Q1 g5.h kp4))))),eg⟩
                     . obtain ⟨_,o,ho⟩:=apb j d a z1 z2
                       show (upd H8 p (.lst ([]++[y8]))) a=H8 a;rw [C0 (D8 ho hH1p)]
                     . show (upd H8 p (.lst ([]++[y8]))) q=_
                       rw [C0 hpq,dq8]; unfold prs; rw [yA]; rfl
                     . rw [yA,l8]
                       refine ⟨nd,by simp,fun a ha b hb=>?_⟩;obtain ⟨r,hr,rfl⟩:=yK.mp ha; have:b=p:=by simpa using hb
                       subst this; exact hne r hr
                     . rcases xK.mp hr with hr | hr
                       . exact o8 (rl r hr)
                       . rw [xM.mp hr]; show 1<=n+1; lia
                 . cases eg
       . refine .inl ⟨W.stop n Hc (n0.mp hlt) (Sc.gr.g.trans Sc.sr.sub),?_⟩
         rw [CQ (n0.mp hlt)] at eg; cases eg; have hq':q∉kk.map (·.2.1):=fun z=>by
           obtain ⟨r,hr,e⟩:=yK.mp z; have:=(nl.mem r hr).1; rw [e,dq] at this; cases this
         have Su:=Sc.unbase g01; have sm:=nl.same; have gh:Same (shG (kk.map (·.2.1)) Gc Hc) Hc:=fun b u e=>by
           by_cases m:b∈kk.map (·.2.1)
           . rw [iY m] at e; exact e
           . rw [Im m] at e; exact Sc.sr.sub _ _ e
         refine a1 τ (shG (kk.map (·.2.1)) Gc Hc) Hc ⟨⟨Su.gr.g.trans sm,Su.gr.h,gh,fun b o e=>?_⟩,⟨gh,?_,fun j s e=>?_,fun j1 j2 a e1' e2' z1 z2 h1 h2=>?_⟩,fun j d a e h=>?_⟩
         . by_cases m:b∈kk.map (·.2.1)
           . obtain ⟨r,hr,rfl⟩:=yK.mp m
             exact .inr (.inl (S1.gr.h.free (nl.mem r hr).2.2))
           . rw [Im m] at e; exact Su.gr.fr b o e
         . have:=Sc.sr.len
           rw [<- hδv] at this;simpa using this
         . rw [E2] at e
           split at e
           . cases e; trivial
           . rename_i hjt
             rw [E2] at e;split at e
             . rename_i hji
               cases e; rw [<- hji.1,hτ]; exact ⟨q,rfl,by rw [Im hq']; exact gq,prs kk,dq,nl.keys,nl.vals sm fun r hr=>zA hr⟩
             . rename_i hji
               have ev:δv[j]? = some s:=by
                 rw [<- hδv,E2,if_neg (by simpa using hjt),E2,if_neg hji]; exact e
               have hs:=Sc.sr.sl j s ev;cases s with
               | un=>trivial
               | sh d=>obtain ⟨v,e1,r1⟩:=hs; exact ⟨v,e1,r1.mono sm⟩
               | fd _=>exact FdOk.mono sm hs
               | ow d =>
                 obtain ⟨a,e1,n1,ok⟩:=hs; have hna:a∉kk.map (·.2.1):=fun z=>by
                   obtain ⟨r,hr,er⟩:=yK.mp z; obtain ⟨_,o,ho⟩:=ap j d a ev e1; have:=(nl.mem r hr).2.2; rw [er,ho] at this; cases this
                 exact ⟨a,e1,by rw [Im hna]; exact n1,ok.monoG sm⟩
         . have key : ∀ (j : Nat) (d : wY), ((δ.set i (.ow (.tuple [.dict out, .none]))).set t .un)[j]? = some (.ow d) -> j = i \/ δv[j]? = some (.ow d) := fun j d e => by
             rw [E2] at e;split at e
             . cases e
             . rename_i hjt
               rw [E2] at e;split at e
               . rename_i hji; exact .inl hji.1.symm
               . rename_i hji
                 exact .inr (by rw [<- hδv,E2,if_neg (by simpa using hjt),E2,if_neg hji]; exact e)
           rcases key j1 _ z1 with rfl | y1
           . rcases key j2 _ z2 with rfl | y2
             . rfl
             . rw [hτ] at h1; cases h1
               exact absurd rfl (ap j2 _ _ y2 h2).1
           . rcases key j2 _ z2 with rfl | y2
             . rw [hτ] at h2; cases h2
               exact absurd rfl (ap j1 _ _ y1 h1).1
             . exact Sc.sr.ap j1 j2 a _ _ y1 y2 h1 h2
         . rw [E2] at e
           split at e
           . cases e
           . rename_i hjt
             rw [E2] at e;split at e
             . rename_i hji
               rw [<- hji.1,hτ] at h; cases h;exact hq0
             . rename_i hji
               exact Sc.fr j d a (by rw [<- hδv,E2,if_neg (by simpa using hjt),E2,if_neg hji]; exact e) h
     | exc _=>rw [eout] at a1; exact (show False from a1).elim
     | no=>rw [eout] at a1; exact (show False from a1).elim
   . exact (show False from a1).elim
 . exact (show False from aft).elim
end
end Sm
end
noncomputable section
namespace Sm
open PySem PySem.Spec PyProof.Rows PySem.W L2
theorem jZ {X:Cx} {pos:Pos}:PE X (.Dict [] [] pos) (fun Z H Q=>∀ q,H q=none->Q (.ref q) (upd H q (.dN []))):=by
 intro pins s Z H Q I h;refine i5 (jY (X:=X) (pos:=pos) pins s Z H (fun v H1=>∃ q,v=.ref q/\H q=none/\H1=upd H q (.dT [])) I fun q hq=>⟨q,rfl,hq,rfl⟩) (fun v s1 hh=>?_) fun _ _ e=>e;obtain ⟨x,H1,I1,rx,q,rfl,hq,rfl⟩:=hh;have hx:(upd H q (.dT [])) q=some (.dT []):=B8;obtain ⟨z,hs,xs,rel,o,es,ep,e1,hex,hdat,hes,hnd⟩:=I1.hok q _ hx;have hxs:xs=[]:=by
   cases rel; rfl
 subst hxs;have hes':es = #[]:=by
   have:es.toList=[]:=hes; exact Array.toList_eq_nil_iff.mp this
 subst hes';obtain ⟨oc,od,odt,osl⟩:=o;obtain ⟨c1,c2,c3⟩:=hex;simp only at c1 c2 c3 hdat;subst c1 c2 c3 hdat;refine ⟨.ref q,upd H q (.dN []),?_,rx,h q hq⟩;have:=I1.write (x:=q) (e:=q) (o:=.dN []) (t':=s1.toks) (h':=s1.heap) (by rw [hx]; exact trivial) (.inl rfl) (fun b u _ w=>w) ⟨_,e1⟩ ⟨c7 _,hs,.nil,(fun _ h=>nomatch h),[],.nil,ep,e1⟩;rw [Tq] at this;exact this
noncomputable def Cl (i:Nat):Dn->Out:=fun δ=>.nx (δ.set i (.ow (.tuple [.dict [],.none])))
noncomputable section
variable {P:yD} {w:yR} {K:xF} {mg:Str->Option xB} {base:zN} {X:Cx} {N:List Str} {sc:Scope} {k:Nat} {df:Bool} {E:EK} {pos p p2:Pos} {a:Expr} {x:Str}
theorem Ir (C:Cxt P w K mg base X N sc k df) (i:Nat) (ho:okSet N sc df i x=true) (hs:q9 (.Dict [] [] p2) (some (.Name x p)) pos.line X.env=pure false:=by rfl):DS X E (.Assign [.Name x p] (.Dict [] [] p2) pos) (Cl i):=fun G0 H0=>by
 obtain ⟨h1,h2,h3,h4⟩:=okSet.ok C ho;refine PS.imp (Ow h1 h2 h3 jZ hs h4) fun D Z H hh q hq=>?_;obtain ⟨G,δ,S,a⟩:=hh;have S1:=S.grow (Grow.own (o:=.dN []) S.sr.sub hq);exact a _ G _ (S1.set_ow (S.gr.h.free hq) (S.sr.sub.free hq) (show OwnK G _ q [.dict [],.none] from ⟨[],B8,rfl,rfl⟩) (Ht S hq))
end
def AftN (E:EK) (G H:Hp) (r:Res Kvs) (Q:VK):Prop:=match r with
 | .ok kvs=>∀ p G' H',Grow G H G' H'->H p=none->G' p=none->OwnOk G' H' p (.tuple [.dict kvs,.none])->Q (.ref p) H'
 | .exc c=>∀ G' H',Grow G H G' H'->E c H'
 | .no=>False
def tN (E:EK) (f:Dn->Res Kvs):TE:=fun Z H Q=>∃ G δ,SR G H Z δ/\AftN E G H (f δ) Q
abbrev DN (X:Cx) (E:EK) (e:Expr) (f:Dn->Res Kvs):Prop:=PE X e (tN E f)
def DSN (X:Cx) (E:EK) (sts:List AR) (g:Dn->Res Kvs):Prop:=∀ G0 H0,PSs X sts (fun D Z H=>∃ G δ,SSt G0 H0 G H Z δ/\AftN E G0 H0 (g δ) D.rt)
noncomputable def Ul (i:Nat):Dn->Res Kvs:=fun δ=>match δ[i]? with
 | some (.ow (.tuple [.dict kvs,.none]))=>.ok kvs
 | _=>.no
def spN (n:Nat) (m:List wY->Res Kvs):Sp:=fun vs H Q _=>∃ G ds kvs,Same G H/\RepL G ds vs/\ds.length=n/\m ds=.ok kvs/\∀ p G' H',Grow G H G' H'->H p=none->G' p=none->OwnOk G' H' p (.tuple [.dict kvs,.none])->Q (.ref p) H'
structure FnN (P:yD) (w:yR) (K:xF) (mg:Str->Option xB) (base:zN) (x:Str) (k n:Nat) (m:List wY->Res Kvs):Prop where
 ex:∃ f fd ps,ps.length=n/\FnOk P w K mg base CX0 k f fd ps (spN n m)/\mg x=some (.ref f)/\j4 K (.ref f)=true/\Binds K fd ps []
noncomputable def W0 (i:Nat) (f:Dn->Res Kvs):Dn->Out:=fun δ=>M9 (f δ) fun kvs=>.nx (δ.set i (.ow (.tuple [.dict kvs,.none])))
noncomputable section
variable {P:yD} {w:yR} {K:xF} {mg:Str->Option xB} {base:zN} {X:Cx} {N:List Str} {sc:Scope} {k:Nat} {df:Bool} {E:EK} {pos p:Pos} {e:Expr} {es:List Expr} {fs:Dn->Res (List wY)} {fx:Dn->Res Kvs} {x:Str} {st:AR} {sts:List AR} {g1:Dn->Out} {g2:Dn->Res Kvs}
theorem cX (C:Cxt P w K mg base X N sc k df) (i:Nat) (h:okVar N sc i x=true):DSN X E [.Return (some (.Name x p)) pos] (Ul i):=fun G0 H0=>by
 refine PSs.imp (Jc (aF (okVar.pe C h))) fun D Z H hh=>?_;obtain ⟨G,δ,S,a⟩:=hh;unfold Ul at a;split at a
 . rename_i kvs hi
   obtain ⟨q,hσ,hg,ho⟩:=S.sr.own hi; exact ⟨.ref q,hσ,a q G H S.gr (S.fr i _ q hi (by rw [hσ]; rfl)) hg ho⟩
 . exact (show False from a).elim
theorem Co (h1:DS X E st g1) (h2:DSN X E sts g2):DSN X E (st::sts) (Ep g1 g2):=fun G0 H0=>by
 refine PSs.imp (Wz (h1 G0 H0) (h2 G0 H0)) fun D Z H hh=>?_;obtain ⟨G,δ,S,a⟩:=hh;refine ⟨G,δ,S,?_⟩;unfold Ep at a;cases e:g1 δ with
 | nx δ'=>rw [e] at a; exact fun Z' G' H' S'=>⟨G',δ',S',a⟩
 | exc d=>rw [e] at a; exact a
 | rt d=>rw [e] at a; exact (show False from a).elim
 | bk d=>rw [e] at a; exact (show False from a).elim
 | ct d=>rw [e] at a; exact (show False from a).elim
 | no=>rw [e] at a; exact (show False from a).elim
theorem qA {x:Str} {st:AR} {ps:List Str} {n:Nat} {go:Dn->Res Kvs} {m:List wY->Res Kvs} (F:Def K mg x st ps) (S:FnScope N ps (A6 st)) (hn:ps.length=n)
   (body:∀ X,Cxt P w K mg base X N (A6 st) k true->DSN X E0k (B7 st) go) (hm:m=fnW N go):FnN P w K mg base x (k+1) n m:=by
 obtain ⟨f,fd,F,hmg,hb⟩:=F.ex;refine ⟨f,fd,ps,hn,?_,hmg,F.kp,hb⟩;subst hm;refine F.ok S (fun vs H Q E h=>?_) (fun cdv A outer s H vs Q E hr h=>?_)
 . obtain ⟨G,ds,d,_,r,hl,_⟩:=h
   rw [<- r.length,hl,hn]
 . obtain ⟨G,ds,kvs,hG,r,hl,em,q⟩:=h
   refine ⟨_,body _ ⟨rfl,rfl,rfl,rfl,rfl,rfl,rfl,rfl,hr,fun _ _=>rfl,DH⟩ G H,G,_,We hG r N,?_⟩;unfold fnW at em; rw [em]; exact q
theorem Kl {x:Str} {j n:Nat} {m:List wY->Res Kvs} (C:Cxt P w K mg base X N sc k df) (F:FnN P w K mg base x j n m) (hj:j<=k) (h:okGl sc x=true) (ha:DA X E0k (e::es) n fs)
   (he:xO (e::es) X.env=(false,eval e X.env)::xO es X.env:=by rfl) (hpl:(i6 pos (xO es X.env)).any (·.1)=false:=by rfl):DN X E0k (.Call (.Name x p) (e::es) [] pos) (Cq fs m):=by
 obtain ⟨f,fd,ps,hps,F,hm,hk,hb⟩:=F.ex;obtain ⟨h1,h2,h3⟩:=okGl.gl C h;have F':FnOk X.prog X.w X.K X.mg X.base CX0 j f fd ps (spN n m):=by rw [C.hP,C.hw,C.hK,C.hmg,C.hb]; exact F
 refine PE.imp (Mo F' (C.room.mono hj) h1 (by rw [C.hmg]; exact hm) (by rw [C.hK]; exact hk) (by rw [C.hK]; exact hb) .nil (cL (X:=X)) ha.pa h2 he hpl) fun Z H Q hh=>?_;obtain ⟨G,δ,S,aft⟩:=hh;have gw:∀ {G H G' H':Hp} {r:Res Kvs},Grow G H G' H'->AftN E0k G H r Q->AftN E0k G' H' r Q:=fun {G H G' H' r} g a=>by
   cases r with
   | ok kvs=>exact fun p G2 H2 g2 hp hp' ho=>a p G2 H2 (g.trans g2) (g.h.free hp) hp' ho
   | exc c=>exact fun G2 H2 g2=>a G2 H2 (g.trans g2)
   | no=>exact a
 refine Y6 (W:=fun G H r=>AftN E0k G H r Q) S aft (fun g a=>gw g a) (fun c a=>a) (fun a=>a) fun ds vs G1 H1 e g1 r1 S1 a1=>?_;rw [yL];cases q:m ds with
 | ok d=>rw [q] at a1; exact ⟨G1,ds,d,S1.sub,r1,ha.len δ ds e,q,a1⟩
 | exc c=>rw [q] at a1; exact (a1 G1 H1 (Grow.refl S1.sub)).elim
 | no=>rw [q] at a1; exact a1.elim
theorem Fe (C:Cxt P w K mg base X N sc k df) (i:Nat) (ho:okSet N sc df i x=true) (h:DN X E e fx) (hs:q9 e (some (.Name x p)) pos.line X.env=pure false:=by rfl):DS X E (.Assign [.Name x p] e pos) (W0 i fx):=fun G0 H0=>by
 obtain ⟨h1,h2,h3,h4⟩:=okSet.ok C ho;refine PS.imp (Ow h1 h2 h3 h hs h4) fun D Z H hh=>?_;obtain ⟨G,δ,S,a⟩:=hh;refine ⟨G,δ,S.sr,?_⟩;unfold W0 at a;cases q:fx δ with
 | ok kvs =>
   rw [q] at a; intro p G' H' g hp hp' ho; have S1:=S.grow g; exact a _ G' H' (S1.set_ow (S.gr.h.free hp) hp' ho (Ht S hp))
 | exc c=>rw [q] at a; exact fun G' H' g=>a G' H' (S.gr.trans g)
 | no=>rw [q] at a; exact a
end
end Sm
end
noncomputable section
namespace Sm
open PySem PySem.Spec PyProof.Rows PySem.W L2
noncomputable def Y1 (c:Dn->Res Bool) (body:Dn->Out):Nat->Dn->Out
 | 0,_=>.no
 | n+1,δ=>M9 (c δ) fun b=>if b=true then (match body δ with
   | .nx δ'=>Y1 c body n δ'
   | .ct δ'=>Y1 c body n δ'
   | .bk δ'=>.nx δ'
   | o=>o) else .nx δ
noncomputable def Oq (c:Dn->Res Bool) (body:Dn->Out):Dn->Out:=Y1 c body 4096
noncomputable def Za (i:Nat):Dn->Res Bool:=fun δ=>match δ[i]? with
 | some (.ow (.list ds))=>.ok (!ds.isEmpty)
 | _=>.no
noncomputable def eV (i j:Nat):Dn->Out:=fun δ=>match δ[i]? with
 | some (.ow (.list ds))=>match ds[ds.length - 1]? with
   | some d=>if i≠j then .nx ((δ.set i (.ow (.list ds.dropLast))).set j (.sh d)) else .no
   | none=>.no
 | _=>.no
noncomputable def eW (i:Nat) (f:Dn->Res (List wY)):Dn->Out:=fun δ=>match δ[i]? with
 | some (.ow (.list xs))=>M9 (f δ) fun ds=>if xs.length+ds.length<=100000 then .nx (δ.set i (.ow (.list (xs++ds)))) else .no
 | _=>.no
noncomputable section
variable {P:yD} {w:yR} {K:xF} {mg:Str->Option xB} {base:zN} {X:Cx} {N:List Str} {sc:Scope} {k:Nat} {df:Bool} {E:EK} {pos p py apos cpos:Pos} {ce a:Expr} {sts:List AR} {c:Dn->Res Bool} {g1:Dn->Out} {fs:Dn->Res (List wY)} {x y:Str}
theorem bZ (C:Cxt P w K mg base X N sc k df) (hc:DT X E ce c) (hb:DSs X E sts g1):DS X E (.While ce sts [] pos) (Oq c g1):=fun G0 H0=>by
 refine PS.imp (jP (pos:=pos) C.own hc (hb G0 H0)) fun D Z H hh=>?_;obtain ⟨G,δ,S,a⟩:=hh;refine ⟨fun m Z' H'=>∃ G' δ',SSt G0 H0 G' H' Z' δ'/\Lg E G0 H0 (Y1 c g1 m δ') D,⟨4096,G,δ,S,a⟩,fun m Z' H' hw=>?_⟩;obtain ⟨G',δ',S',a'⟩:=hw;cases m with
 | zero=>exact (show False from a').elim
 | succ m =>
   unfold Y1 at a'; refine mQ S' a' fun b G1 H1 gr S1 a1=>?_;cases b with
   | false =>
     rw [if_neg (by decide)] at a1 ⊢;exact a1 Z' G1 H1 S1
   | true =>
     rw [if_pos rfl] at a1 ⊢;refine ⟨fun Z2 H2=>∃ G' δ',SSt G0 H0 G' H2 Z2 δ'/\Lg E G0 H0 (Y1 c g1 m δ') D,fun Z2 H2 z=>⟨m,DX m,z⟩,G1,δ',S1,?_⟩;cases eo:g1 δ' with
     | nx δ2=>rw [eo] at a1; exact fun Z3 G4 H4 S5=>⟨G4,δ2,S5,a1⟩
     | ct δ2=>rw [eo] at a1; exact fun Z3 G4 H4 S5=>⟨G4,δ2,S5,a1⟩
     | bk δ2=>rw [eo] at a1; exact fun Z3 G4 H4 S5=>a1 Z3 G4 H4 S5
     | rt d=>rw [eo] at a1; exact a1
     | exc d=>rw [eo] at a1; exact a1
     | no=>rw [eo] at a1; exact a1
theorem t_own (C:Cxt P w K mg base X N sc k df) (i:Nat) (h:okVar N sc i x=true) (he:∀ whole,isTrue (.Name x p) X.env whole=(do let v <- whole; standAt (Expr.Name x p).pos; holding [v] (truthy v)):=by intro _; rfl):DT X E (.Name x p) (Za i):=by
 refine PT.imp (Wy (okVar.pe C h) he) fun Z H Q hh=>?_;obtain ⟨G,δ,S,a⟩:=hh;unfold Za at a;split at a
 . rename_i ds hi
   obtain ⟨q,hσ,hg,xs,hx,rl⟩:=S.own hi; have he:ds.isEmpty=xs.isEmpty:=by
     have:=rl.length;cases ds <;> cases xs <;> simp at this ⊢
   refine ⟨.ref q,hσ,!xs.isEmpty,.inl ⟨xs,.inl (.inl hx),rfl⟩,?_⟩; rw [<- he]; exact a G H (Grow.refl S.sub)
 . exact (show False from a).elim
theorem s_pop (C:Cxt P w K mg base X N sc k df) (i j:Nat) (h:okVar N sc i x=true) (ho:okSet N sc df j y=true)
   (hbase:AD (.Name x p) "pop" X.env (eval (.Name x p) X.env)=eval (.Name x p) X.env:=by rfl) (hline:(apos.endLine==cpos.line)=true:=by rfl)
   (hs:q9 (.Call (.Attribute (.Name x p) "pop" apos) [] [] cpos) (some (.Name y py)) pos.line X.env=pure false:=by rfl) :
   DS X E (.Assign [.Name y py] (.Call (.Attribute (.Name x p) "pop" apos) [] [] cpos) pos) (eV i j):=fun G0 H0=>by
 obtain ⟨h1,h2,h3,h4⟩:=okSet.ok C ho;refine PS.imp (Ow h1 h2 h3 (uR CC PySem.F.slot_list_pop PySem.F.type_list_pop vJ (okVar.pe C h) hbase hline) hs h4) fun D Z H hh=>?_;obtain ⟨G,δ,S,a⟩:=hh;unfold eV at a;split at a
 . rename_i ds hi
   split at a
   . rename_i d hd
     split at a
     . rename_i hij
       obtain ⟨q,hσ,hg,xs,hx,rl⟩:=S.sr.own hi; obtain ⟨v,hv,rv⟩:=rl.get hd; rw [rl.length] at hv; refine ⟨.ref q,hσ,.inl ⟨rfl,xs,.inl (.inl hx)⟩,q,xs,v,rfl,rfl,hx,hv,?_⟩; have S1:=S.write (o:=.lst xs.dropLast) (d':=.list ds.dropLast) hi (by rw [hσ]; rfl) hg ⟨_,B8,rl.dropLast⟩;exact a _ G _ (S1.set_sh rv)
     . exact (show False from a).elim
   . exact (show False from a).elim
 . exact (show False from a).elim
theorem s_ext (C:Cxt P w K mg base X N sc k df) (i:Nat) (h:okVar N sc i x=true) (ha:DF X E a fs)
   (hbase:AD (.Name x p) "extend" X.env (eval (.Name x p) X.env)=eval (.Name x p) X.env:=by rfl)
   (hfew:((i6 cpos (xO [a] X.env)).all (fun x => !x.1)&&(GI cpos (DG [] X.env)).all (fun x=>x.1.isSome)
     && decide ([a].length+([]:List BW).length+(if ([]:List BW).isEmpty then 0 else 1) < 30))=true:=by rfl)
   (hline:(apos.endLine==cpos.line)=true:=by rfl) (hs:xO [a] X.env=(false,eval a X.env)::xO [] X.env:=by rfl) (hplain:(i6 cpos (xO [] X.env)).any (·.1)=false:=by rfl)
   (hsw:q9 (.Call (.Attribute (.Name x p) "extend" apos) [a] [] cpos) none pos.line X.env=pure false:=by rfl) :
   DS X E (.Expr (.Call (.Attribute (.Name x p) "extend" apos) [a] [] cpos) pos) (eW i fs):=fun G0 H0=>by
 refine PS.imp (Uh (Xd CC PySem.F.slot_list_extend PySem.F.type_list_extend fK (okVar.pe C h) (L7 ha R0 hs) hbase hfew hline hs hplain) hsw) fun D Z H hh=>?_;obtain ⟨G,δ,S,aft⟩:=hh;unfold eW at aft;split at aft
 . rename_i ds hi
   obtain ⟨q,hσ,hg,xs,hx,rl⟩:=S.sr.own hi; refine ⟨.ref q,hσ,.inl ⟨rfl,xs,.inl (.inl hx)⟩,?_⟩; refine bH S aft fun es b zs G1 H1 g1 q1 q2 q3 q4 S1 a1=>?_;split at a1
   . rename_i hlen
     have hx1:=g1.h _ _ hx; have hqb:q≠b:=D8 hx q1; have hg1:G1 q=none:=g1.stay hg hx fun ys z=>by cases z
     have l1:=rl.length; have l2:=q4.length; refine ⟨q,b,xs,zs,rfl,rfl,hx1,q3,xX (by lia) (show 100000<=sizeLine by decide),?_⟩;exact a1 Z G1 _ (S1.write (o:=.lst (xs++zs)) (d':=.list (ds++es)) hi (by rw [hσ]; rfl) hg1 ⟨_,B8,(rl.mono g1.g).append q4⟩)
   . exact (show False from a1).elim
 . exact (show False from aft).elim
end
end Sm
end
noncomputable section
namespace Sm
open PySem PySem.Spec PyProof.Rows PySem.W L2
noncomputable section
variable {X:Cx} {pins:List (xI×Obj)} {Z:St} {H:Hp} {s:xC} {a:xI} {A:zI} {E:xB->xC->Prop}
theorem n_at {kvs:List (wY×V)} {xs:List (xB×xB)} {kd:wY} {w:yR} {i:Nat} {e:zL} (rel:f9 (PrN H) kvs xs) (hk:nkD kd=true) (nk:∀ p∈kvs,nkD p.1=true) (nd:(kvs.map (·.1)).Nodup) (hi:(kvs.map (·.1))[i]? = some kd) (he:(P3 w kvs xs)[i]? = some e) :
   ∃ v,kvs[i]? = some (kd,v)/\N0 kvs kd=some v/\RelV v e.val:=by
 obtain ⟨p,q,h1,h2,⟨_,h5⟩,rfl⟩:=Fz rel he;rw [yM,h1] at hi;have hp:p=(kd,p.2):=by
   have:p.1=kd:=by simpa using hi
   rw [<- this]
 rw [hp] at h1;exact ⟨p.2,h1,De hk nk nd h1,h5⟩
theorem vF {kvs:List (wY×V)} {kd:wY} {y v:V} {u:xB} {Q:xB->xC->Prop} (hu:A.units+16 < m9) (I:Inv X pins Z H s) (e:Rd H a (.dN kvs)) (rk:KRep H kd y) (hk:nkD kd=true) (ry:RelV y u) (hv:N0 kvs kd=some v)
   (h:∀ w' s',Inv X pins Z H s'->RelV v w'->Q w' s'):wpAny (xW X.prog X.w) A (FA (.ref a) u) Q E s:=by
 obtain ⟨z,hd,nd,nk,xs,rel,ep,e1⟩:=e.ok I.hok;have hT:s.TypeIs (.ref a) "dict" := ⟨_,e1,rfl⟩;have hm:kd∈kvs.map (·.1):=BN fun z=>by rw [Fl hk nk z] at hv; cases hv
 unfold FA;try with_reducible refine zE ?_
 refine wZ (FR hT (by decide) ?_);refine wZ (zK (name:=o7 "__getitem__") hT F.slot_dict_getitem ?_);refine GP F.slot_dict_getitem hT F.entry_dict_getitem (F.args_dict_getitem_2 _ _) (Xt a u) ⟨_,_,ep,kvs.map (·.1),kd,hu,e1,rfl,Kr I rel nk nd,Hl I rk ry hk,hm,fun i e tk hi he=>?_⟩;obtain ⟨v',_,h2,h3⟩:=n_at rel hk nk nd hi (by simpa using he);rw [hv] at h2; cases h2;exact xA (h _ _ (I.tok _) h3)
theorem n_has {kvs:List (wY×V)} {kd:wY} (hk:nkD kd=true) (nk:∀ p∈kvs,nkD p.1=true) (nd:(kvs.map (·.1)).Nodup) (hm:kd∈kvs.map (·.1)):(N0 kvs kd).isSome=true:=by
 obtain ⟨⟨k',v⟩,hp,rfl⟩:=yK.mp hm;obtain ⟨i,hi⟩:=GC.mp hp;rw [De hk nk nd hi]; rfl
theorem Pb {kvs:List (wY×V)} {kd:wY} {y:V} {u:xB} {Q:Bool->xC->Prop} (hu:A.units+16 < m9) (I:Inv X pins Z H s) (e:Rd H a (.dN kvs)) (rk:KRep H kd y) (hk:nkD kd=true) (ry:RelV y u)
   (h:∀ s',Inv X pins Z H s'->Q (N0 kvs kd).isSome s'):wpAny (xW X.prog X.w) A (contains (.ref a) u) Q E s:=by
 obtain ⟨z,hd,nd,nk,xs,rel,ep,e1⟩:=e.ok I.hok;have hT:s.TypeIs (.ref a) "dict" := ⟨_,e1,rfl⟩;unfold contains;try with_reducible refine zE ?_
 refine wZ (w8 hT F.slot_dict_contains.lookup ?_);show wpAny _ _ (if (some (Value.builtin "dict.__contains__")==some k9)=true then _ else _) _ _ s;rw [if_neg (by rw [JS]; exact p8)];refine wZ (wpAny_callSpecialUnlessNone?_slot (name:=o7 "__contains__") hT F.slot_dict_contains ?_);refine GP F.slot_dict_contains hT F.entry_dict_contains (F.args_dict_contains_2 _ _) (fO a u hd) ⟨_,_,ep,kvs.map (·.1),kd,hu,e1,rfl,Kr I rel nk nd,Hl I rk ry hk,fun tk hm=>?_,fun tk hn=>?_⟩
 . have:=h _ (I.tok tk)
   rw [n_has hk nk nd hm] at this; exact BU this
 . have:=h _ (I.tok tk)
   rw [Fl hk nk hn] at this; exact BU this
end
def tNIx (td ty:TE):TE:=fun Z H Q=>td Z H fun x H1=>ty Z H1 fun y H2=>∃ a kvs kd v,x=.ref a/\Rd H2 a (.dN kvs)/\KRep H2 kd y/\nkD kd=true/\N0 kvs kd=some v/\Q v H2
def sZ (b:Bool) (ty td:TE):TE:=fun Z H Q=>ty Z H fun y H1=>td Z H1 fun x H2=>∃ a kvs kd,x=.ref a/\Rd H2 a (.dN kvs)/\KRep H2 kd y/\nkD kd=true/\Q (.bl ((N0 kvs kd).isSome != b)) H2
noncomputable section
variable {X:Cx} {o i:Expr} {pos:Pos} {td ty:TE}
theorem uP (hu:X.A.units+16 < m9) (ho:PE X o td) (hi:PE X i ty) (hs:wX i):PE X (.Subscript o i pos) (tNIx td ty):=by
 intro pins s Z H Q I h;refine nL PySem.F.slot_dict_getitem.lookup hs (thn (ho pins s Z H _ I h) fun u s1 hY84=>?_);obtain ⟨x,H1,I1,rx,q1⟩:=hY84;refine thn (hi pins s1 Z H1 _ I1 q1) fun iv s2 hZ2=>?_;obtain ⟨y,H2,I2,ry,a,kvs,kd,v,ex,g,rk,hk,hv,q2⟩:=hZ2;subst ex;obtain rfl:u=zP a:=rx;obtain ⟨_,_,_,_,_,_,ep,e1⟩:=g.ok I2.hok;exact ⟨⟨_,e1,rfl⟩,vF hu I2 g rk hk ry hv fun w' s3 I3 rw'=>⟨v,H2,I3,rw',q2⟩⟩
theorem uT (hu:X.A.units+16 < m9) (hi:PE X i ty) (ho:PE X o td):PC X .In i o (sZ false ty td):=by
 intro pins s Z H Q I h;refine thn (hi pins s Z H _ I h) fun iv s1 hY85=>?_;obtain ⟨y,H1,I1,ry,q1⟩:=hY85;refine thn (ho pins s1 Z H1 _ I1 q1) fun u s2 hZ2=>?_;obtain ⟨x,H2,I2,rx,a,kvs,kd,ex,g,rk,hk,q2⟩:=hZ2;subst ex;obtain rfl:u=zP a:=rx;show wpAny _ _ (do return FP (<- contains (zP a) iv)) _ _ s2;rw [Bool.bne_false] at q2;exact wZ (Pb hu I2 g rk hk ry fun s3 I3=>xA ⟨.bl (N0 kvs kd).isSome,H2,I3,rfl,q2⟩)
theorem Sd (hu:X.A.units+16 < m9) (hi:PE X i ty) (ho:PE X o td):PC X .NotIn i o (sZ true ty td):=by
 intro pins s Z H Q I h;refine thn (hi pins s Z H _ I h) fun iv s1 hY86=>?_;obtain ⟨y,H1,I1,ry,q1⟩:=hY86;refine thn (ho pins s1 Z H1 _ I1 q1) fun u s2 hZ2=>?_;obtain ⟨x,H2,I2,rx,a,kvs,kd,ex,g,rk,hk,q2⟩:=hZ2;subst ex;obtain rfl:u=zP a:=rx;show wpAny _ _ (do return FP (!(<- contains (zP a) iv))) _ _ s2;rw [Bool.bne_true] at q2;exact wZ (Pb hu I2 g rk hk ry fun s3 I3=>xA ⟨.bl (!(N0 kvs kd).isSome),H2,I3,rfl,q2⟩)
end
noncomputable def Qb (i:Nat) (f:Dn->Res wY):Dn->Res wY:=fun δ=>match kvN δ i with
 | some kvs=>(f δ).bind fun kd=>if nkD kd=true then ofO (F9 kvs kd) else .no
 | none=>.no
noncomputable def V8 (b:Bool) (i:Nat) (f:Dn->Res wY):Dn->Res wY:=fun δ=>(f δ).bind fun kd=>match kvN δ i with
 | some kvs=>if nkD kd=true then .ok (.bool ((F9 kvs kd).isSome != b)) else .no
 | none=>.no
noncomputable section
variable {P:yD} {w:yR} {K:xF} {mg:Str->Option xB} {base:zN} {X:Cx} {N:List Str} {sc:Scope} {k:Nat} {df:Bool} {E:EK} {p pos:Pos} {a b:Expr} {f g:Dn->Res wY} {x:Str}
theorem mC (C:Cxt P w K mg base X N sc k df) (i:Nat) (h:okVar N sc i x=true) (hk:DE X E a f) (hs:wX a:=by exact fun _ _=>rfl):DE X E (.Subscript (.Name x p) a pos) (Qb i f):=by
 refine PE.imp (uP (by have:=C.hu; lia) (okVar.pe C h) hk hs) fun Z H Q hY87=>?_;obtain ⟨G,δ,S,aft⟩:=hY87;unfold Qb at aft;split at aft
 . rename_i kvs hi
   obtain ⟨q,kk,hσ,hx,hkeys,hvals⟩:=S.kvN hi; refine ⟨.ref q,hσ,?_⟩; refine L3 S aft fun kd v G1 H1 g1 r1 S1 a1=>?_;split at a1
   . rename_i hn
     rcases Fk (k:=kd) hkeys hvals with ⟨n1,n2⟩ | ⟨d0,v0,n1,n2,rd⟩
     . rw [n1] at a1; exact a1.elim
     . rw [n1] at a1
       exact ⟨q,kk,kd,v0,rfl,Rd.mono g1.h hx,Hi S1.sub hn r1,hn,n2,a1 _ G1 H1 (Grow.refl S1.sub) (rd.mono g1.g)⟩
   . exact a1.elim
 . exact aft.elim
theorem Uv {t:Bool} {i:Nat} {Z:St} {H:Hp} {Q:VK} (h:tD E (V8 t i f) Z H Q):sZ t (tD E f) (nJ i) Z H Q:=by
 obtain ⟨G,δ,S,aft⟩:=h;refine L3 S aft fun kd v G1 H1 g1 r1 S1 a1=>?_;split at a1
 . rename_i kvs hi
   split at a1
   . rename_i hn
     obtain ⟨q,kk,hσ,hx,hkeys,hvals⟩:=S1.kvN hi; refine ⟨.ref q,hσ,q,kk,kd,rfl,hx,Hi S1.sub hn r1,hn,?_⟩; have:(N0 kk kd).isSome=(F9 kvs kd).isSome:=by
       rcases Fk (k:=kd) hkeys hvals with ⟨n1,n2⟩ | ⟨d0,v0,n1,n2,_⟩ <;> rw [n1,n2] <;> rfl
     rw [this]; exact a1 _ G1 H1 (Grow.refl S1.sub) rfl
   . exact a1.elim
 . exact a1.elim
theorem lK {t:Bool} {i:Nat} {δ:Dn} {d:wY} (e:V8 t i f δ=.ok d):∃ b,d=.bool b:=by
 unfold V8 Res.bind at e;split at e
 . split at e
   . dsimp only at e
     split at e
     . cases e; exact ⟨_,rfl⟩
     . cases e
   . cases e
 . cases e
 . cases e
theorem mI {t:Bool} {i:Nat} {G H:Hp} {δ:Dn} {Q:Bool->Hp->Prop} (aft:AftT E G H (C4 (V8 t i f) δ) Q):Aft E G H (V8 t i f δ) (fun v H'=>∃ b,v=.bl b/\Q b H'):=by
 unfold C4 at aft;cases e:V8 t i f δ with
 | ok d =>
   obtain ⟨b,rfl⟩:=lK e; rw [e] at aft; intro v G' H' g r; exact ⟨b,r,aft G' H' g⟩
 | exc c=>rw [e] at aft; exact aft
 | no=>rw [e] at aft; exact aft
theorem d_inN (C:Cxt P w K mg base X N sc k df) (i:Nat) (h:okVar N sc i x=true) (hk:DE X E a f) (hm:behindInMarks .In (.Name x p)=false:=by with_unfolding_all rfl):DE X E (.Compare a [.In] [.Name x p] pos) (V8 false i f) :=
 PE.imp (kA (uT (by have:=C.hu; lia) hk (okVar.pe C h)) hm) fun _ _ _ h=>Uv h
theorem Yn (C:Cxt P w K mg base X N sc k df) (i:Nat) (h:okVar N sc i x=true) (hk:DE X E a f) (hm:behindInMarks .NotIn (.Name x p)=false:=by with_unfolding_all rfl):DE X E (.Compare a [.NotIn] [.Name x p] pos) (V8 true i f) :=
 PE.imp (kA (Sd (by have:=C.hu; lia) hk (okVar.pe C h)) hm) fun _ _ _ h=>Uv h
theorem Nc (C:Cxt P w K mg base X N sc k df) (i:Nat) (h:okVar N sc i x=true) (hk:DE X E a f) (hm:behindInMarks .NotIn (.Name x p)=false:=by with_unfolding_all rfl):DT X E (.Compare a [.NotIn] [.Name x p] pos) (C4 (V8 true i f)):=by
 refine PT.imp (uI (Sd (by have:=C.hu; lia) hk (okVar.pe C h)) hm) fun Z H Q hY89=>?_;obtain ⟨G,δ,S,aft⟩:=hY89;refine Uv ⟨G,δ,S,?_⟩;exact mI aft
end
end Sm
end
noncomputable section
namespace Sm
open PySem PySem.Spec PyProof.Rows PySem.W L2
noncomputable def N7 {α:Type}:List (wY×α)->wY->α->List (wY×α)
 | [],k,v=>[(k,v)]
 | p::r,k,v=>if xT p.1 k=true then (p.1,v)::r else p::N7 r k v
theorem Cz {α:Type} {k:wY} {v:α}:∀ (l:List (wY×α)),(N7 l k v).length<=l.length+1:=by
 intro iN; induction iN with
 | nil=>skip; exact xL _
 | cons p r ih =>
   skip
   unfold N7;split
   . simp
   . simp only [xP]; exact IQ (ih)
theorem oI {k:wY} {v:V} (hk:nkD k=true):∀ {kk:List (wY×V)} {i:Nat} {v0:V},(∀ p∈kk,nkD p.1=true)->(kk.map (·.1)).Nodup->kk[i]? = some (k,v0)->N7 kk k v=kk.modify i fun p=>(p.1,v):=by
 intro iN; induction iN with
 | nil=>intro _ _ _ _ h; simp at h
 | cons p kk ih =>
   intro i v0 hn nd h; unfold N7; have hp:=Ks (P7 (hn p (.head _))).1 (P7 hk).1;cases i with
   | zero =>
     simp at h;subst h; rw [if_pos (hp.mpr rfl)]; rfl
   | succ i =>
     rw [xJ,zO] at nd; have hm:(k,v0)∈kk:=n5 (by simpa using h);rw [if_neg (fun z=>nd.1 (by rw [hp.mp z]; exact zA hm)),ih (fun q hq=>hn q (.tail _ hq)) nd.2 (by simpa using h)];rfl
theorem oH {k:wY} {v:V} (hk:nkD k=true):∀ {kk:List (wY×V)},(∀ p∈kk,nkD p.1=true)->k∉kk.map (·.1)->N7 kk k v=kk++[(k,v)]:=by
 intro iN; induction iN with
 | nil=>intro _ _; exact rfl
 | cons p kk ih =>
   intro hn h; unfold N7; rw [xJ,xD,not_or] at h; rw [if_neg (fun z=>h.1 ((Ks (P7 (hn p (.head _))).1 (P7 hk).1).mp z).symm),ih (fun q hq=>hn q (.tail _ hq)) h.2];rfl
theorem Ov {G:Hp} {k d:wY} {v:V} (r:Rep G d v):∀ {kvs:Kvs} {kk:List (wY×V)},kvs.map (·.1)=kk.map (·.1)->RepL G (kvs.map (·.2)) (kk.map (·.2))->(N7 kvs k d).map (·.1)=(N7 kk k v).map (·.1)/\RepL G ((N7 kvs k d).map (·.2)) ((N7 kk k v).map (·.2))
 | [],[],_,_=>⟨rfl,RepL.cons r rfl⟩
 | [],_::_,e,_=>by cases e
 | _::_,[],e,_=>by cases e
 | p::kvs,q::kk,e,l=>by
   simp only [xJ,z7] at e; obtain ⟨x,t,ex,rx,l⟩:=l; simp only [xJ,z7] at ex; unfold N7; rw [e.1];split
   . exact ⟨by simp only [xJ]; rw [e.2],RepL.cons r (by rw [ex.2]; exact l)⟩
   . obtain ⟨h1,h2⟩:=Ov (k:=k) r e.2 (by rw [ex.2]; exact l)
     exact ⟨by simp only [xJ]; rw [e.1,h1],RepL.cons (show Rep G p.2 q.2 by rw [ex.1]; exact rx) h2⟩
theorem Yk {w:yR} {v:V} {r:xB}:∀ (kk:List (wY×V)) (xs:List (xB×xB)) (i:Nat),(P3 w kk xs).modify i (fun e=>{ e with val:=r })=P3 w (kk.modify i fun p=>(p.1,v)) (xs.modify i fun q=>(q.1,r))
 | [],xs,i=>by cases i <;> simp [P3]
 | _::_,[],i=>by cases i <;> simp [P3]
 | p::kk,q::xs,0=>rfl
 | p::kk,q::xs,i+1=>by
   have:=Yk (w:=w) (v:=v) (r:=r) kk xs i; simp only [P3,List.zipWith_cons_cons,List.modify_succ_cons] at this ⊢;rw [this]
theorem Oy {α β:Type} {F:α->β->Prop} {f:α->α} {g:β->β} (h:∀ a b,F a b->F (f a) (g b)):∀ {l₁:List α} {l₂:List β} (i:Nat),f9 F l₁ l₂->f9 F (l₁.modify i f) (l₂.modify i g)
 | _,_,i,.nil=>by cases i <;> exact .nil
 | _,_,0,.cons r t=>.cons (h _ _ r) t
 | _,_,i+1,.cons r t=>.cons r (Oy h i t)
noncomputable section
variable {prog:yD} {w:yR} {A:zI} {E:xB->xC->Prop} {s:xC}
theorem gJ {d:xI} {key v:xB} {L:List zL} {ep:Nat} {ks:List wY} {k:wY} {Q:Unit->xC->Prop} (hu:A.units+8 < m9) (ho:s.heap.get? d=some { cls:=.type "dict",data:=.dict (KU L) ep }) (hz:L.length<=sizeLine) (N:EsN w s.heap L.toArray ks) (x:NAt s.heap key k)
   (h1:∀ (i:Nat) (h':zN) (tk:Nat),ks[i]? = some k->(∀ b o,b≠d->s.heap.get? b=some o->h'.get? b=some o)->h'.get? d=some { cls:=.type "dict",data:=.dict (L.modify i fun e=>{ e with val:=v }).toArray ep }->Q () { s with heap:=h',toks:=tk })
   (h0:∀ (h':zN) (tk:Nat),k∉ks->(∀ b o,b≠d->s.heap.get? b=some o->h'.get? b=some o)->h'.get? d=some { cls:=.type "dict",data:=.dict (L++[DictEntry.mk (V0 w k) key v]).toArray (ep+1) }->Q () { s with heap:=h',toks:=tk }) :
   wpAny (xW prog w) A (dictSet d key v) Q E s:=by
 unfold dictSet;try with_reducible refine zE ?_
 refine wZ (x.hash hu fun tk=>?_);unfold dictSetHashed;try with_reducible refine zE ?_
 refine wZ (aP (s:={ s with toks:=tk }) hu ho rfl N x (fun i hi=>?_) fun hn=>?_)
 . refine wZ (f8 (wZ (wpAny_updateDict (s:={ s with toks:=tk }) ho rfl (wpAny_point (h1 i _ tk hi (fun b o hb e=>?_) ?_)))))
   . exact (HC _ _ _ _ hb).trans e
   . have:=c6 (Obj.mapDict fun x=>x.modify i fun e=>{ e with val:=v }) ho (HG (Obj.data_mapDict rfl _))
     rw [this]; simp [Obj.mapDict]
 . refine wZ (f8 (wpAny_updateDictKeys (hz:=by simpa using hz) (s:={ s with toks:=tk }) ho rfl (h0 _ tk hn (fun b o hb e=>?_) ?_)))
   . exact (HC _ _ _ _ hb).trans e
   . have:=c6 (GA fun x=>x.push ⟨V0 w k,key,v⟩) ho (HG (Obj.data_mapDictKeys rfl _))
     rw [this]; simp [GA]
end
noncomputable section
variable {X:Cx} {pins:List (xI×Obj)} {Z:St} {H:Hp} {s:xC} {a:xI} {A:zI} {E:xB->xC->Prop}
theorem Se {kvs:List (wY×V)} {kd:wY} {y d:V} {u r:xB} {Q:Unit->xC->Prop} (hu:A.units+8 < m9) (I:Inv X pins Z H s) (e:H a=some (.dN kvs)) (rk:KRep H kd y) (hk:nkD kd=true) (hz:kvs.length < sizeLine) (ry:RelV y u) (rd:RelV d r)
   (h:∀ s',Inv X pins Z (upd H a (.dN (N7 kvs kd d))) s'->(∀ b o,b≠a->s.heap.get? b=some o->s'.heap.get? b=some o)->Q () s'):wpAny (xW X.prog X.w) A (dictSet a u r) Q E s:=by
 obtain ⟨z,hd,nd,nk,xs,rel,ep,e1⟩:=I.hok a _ e;have hl:=Paired.len' rel;have hlen:(P3 X.w kvs xs).length<=sizeLine:=by
   unfold P3; rw [List.length_zipWith]; lia
 have ht:∀ b ys,H b=some (.tup ys)->(upd H a (.dN (N7 kvs kd d))) b=some (.tup ys):=fun b ys z=>by
   rw [C0 (Oz z e (fun z=>by cases z))]; exact z
 refine gJ (ep:=ep) (ks:=kvs.map (·.1)) (k:=kd) hu e1 hlen (Kr I rel nk nd) (Hl I rk ry hk) (fun i h' tk hi hkeep hnew=>?_) (fun h' tk hn hkeep hnew=>?_)
 . refine h _ ?_ hkeep
   have hlt:i < kvs.length:=by have:=(yJ.mp hi).1; simpa using this
   have hp:kvs[i]? = some (kd,kvs[i].2):=by
     rw [yU hlt]; have h2:=hi; rw [yM,yU hlt] at h2; have:kvs[i].1=kd:=by simpa using h2
     rw [<- this]
   have ep':=oI (v:=d) hk nk nd hp; refine I.write (x:=a) (e:=a) (t':=tk) (by rw [e]; exact trivial) (.inl rfl) (fun b o hb q=>hkeep b o hb q) ⟨_,hnew⟩ ?_;have hkeys:(N7 kvs kd d).map (·.1)=kvs.map (·.1):=by
     rw [ep']; apply BL;intro j; rw [yM,yM,List.getElem?_modify];by_cases c:i=j
     . simp only [c,if_pos]; cases kvs[j]? <;> rfl
     . simp only [c,if_neg,if_false]; cases kvs[j]? <;> rfl
   refine ⟨xX (Cz kvs) hz,hd,by rw [hkeys]; exact nd,fun p hp=>?_,xs.modify i (fun q=>(q.1,r)),?_,ep,?_⟩
   . have:p.1∈kvs.map (·.1):=by rw [<- hkeys]; exact zA hp
     obtain ⟨p',m,em⟩:=yK.mp this; rw [<- em]; exact nk p' m
   . rw [ep']
     exact Paired.mapP (Oy (fun p q hZ2=>by obtain ⟨⟨v,z1,z2⟩,_⟩:=hZ2; exact ⟨⟨v,z1,z2⟩,rd⟩) i rel) fun p q hZ2=>by obtain ⟨⟨v,z1,z2⟩,z3⟩:=hZ2; exact ⟨⟨v,z1.mono (ep'▸ht),z2⟩,z3⟩
   . rw [ep',<- Yk]; exact hnew
 . refine h _ ?_ hkeep
   have ep':=oH (v:=d) hk nk hn; refine I.write (x:=a) (e:=a) (t':=tk) (by rw [e]; exact trivial) (.inl rfl) (fun b o hb q=>hkeep b o hb q) ⟨_,hnew⟩ ⟨xX (Cz kvs) hz,hd,?_,?_,xs++[(u,r)],?_,ep+1,?_⟩
   . rw [ep',yA,l8]
     refine ⟨nd,by simp,fun x hx y hy=>?_⟩;have:y=kd:=by simpa using hy
     subst this; exact fun z=>hn (z▸hx)
   . rw [ep']
     intro p hp; rcases xK.mp hp with hp | hp
     . exact nk p hp
     . rw [xM.mp hp]; exact hk
   . have:=Paired.app' (F:=PrN (upd H a (.dN (N7 kvs kd d)))) (a:=(kd,d)) (b:=(u,r)) ⟨⟨y,rk.mono ht,ry⟩,rd⟩ (Paired.mapP rel fun p q hZ2=>by obtain ⟨⟨v,z1,z2⟩,z3⟩:=hZ2; exact ⟨⟨v,z1.mono ht,z2⟩,z3⟩)
     rw [<- ep'] at this; exact this
   . rw [ep',Yl hl]; exact hnew
theorem n_put {kvs:List (wY×V)} {kd:wY} {y d:V} {u r:xB} {Q:Unit->xC->Prop} (hu:A.units+16 < m9) (I:Inv X pins Z H s) (e:H a=some (.dN kvs)) (rk:KRep H kd y) (hk:nkD kd=true) (hz:kvs.length < sizeLine) (ry:RelV y u) (rd:RelV d r)
   (h:∀ s',Inv X pins Z (upd H a (.dN (N7 kvs kd d))) s'->Q () s'):wpAny (xW X.prog X.w) A (setItem (.ref a) u r) Q E s:=by
 obtain ⟨z,hd,nd,nk,xs,rel,ep,e1⟩:=I.hok a _ e;have hT:s.TypeIs (.ref a) "dict" := ⟨_,e1,rfl⟩;unfold setItem;try with_reducible refine zE ?_
 refine wZ (FR hT (by decide) ?_);refine wZ (zK (name:=o7 "__setitem__") hT F.slot_dict_setitem ?_);refine zD F.slot_dict_setitem hT F.entry_dict_setitem ?_ (F.args_dict_setitem_3 _ _ _);show wpAny _ _ (Builtin.Dict.notOrdered "__setitem__" ⟨[.ref a,u,r],[]⟩>>=_) _ _ s;refine wZ (EF hT ?_);show wpAny _ _ (dictSet a u r>>=_) _ _ s;exact wZ (Se (hu8 hu) I e rk hk hz ry rd fun s' I' _=>xA ⟨.none,rfl,xA (h s' I')⟩)
end
def sNPut (td ty tv:TE):TS:=fun D Z H=>tv Z H fun v H1=>td Z H1 fun x H2=>ty Z H2 fun y H3=>∃ a kvs kd,x=.ref a/\H3 a=some (.dN kvs)/\KRep H3 kd y/\nkD kd=true/\kvs.length < sizeLine/\D.nx Z (upd H3 a (.dN (N7 kvs kd v)))
theorem oO {X:Cx} {o i value:Expr} {pos pos':Pos} {td ty tv:TE} (hu:X.A.units+16 < m9) (ho:PE X o td) (hi:PE X i ty) (hv:PE X value tv) (hs:q9 value (some (.Subscript o i pos')) pos.line X.env=pure false) :
   PS X (.Assign [.Subscript o i pos'] value pos) (sNPut td ty tv):=by
 intro pins s Z H D I h;refine wpAny_Assign_Subscript (thn (hv pins s Z H _ I h) fun r s1 hY90=>?_) hs;obtain ⟨v,H1,I1,rv,q1⟩:=hY90;refine thn (ho pins s1 Z H1 _ I1 q1) fun u s2 hY91=>?_;obtain ⟨x,H2,I2,rx,q2⟩:=hY91;refine thn (hi pins s2 Z H2 _ I2 q2) fun iv s3 hY92=>?_;obtain ⟨y,H3,I3,ry,a,kvs,kd,ex,g,rk,hk,hz,q3⟩:=hY92;subst ex;obtain rfl:u=zP a:=rx;exact n_put hu I3 g rk hk hz ry rv fun s4 I4=>⟨Z,_,I4,q3⟩
noncomputable def X9 (i:Nat) (fk fv:Dn->Res wY):Dn->Out:=fun δ=>match δ[i]? with
 | some (.ow (.tuple [.dict kvs,.none]))=>M9 (fv δ) fun v=>M9 (fk δ) fun kd=>if nkD kd=true/\kvs.length < 100000 then .nx (δ.set i (.ow (.tuple [.dict (N7 kvs kd v),.none]))) else .no
 | _=>.no
noncomputable section
variable {P:yD} {w:yR} {K:xF} {mg:Str->Option xB} {base:zN} {X:Cx} {N:List Str} {sc:Scope} {k:Nat} {df:Bool} {E:EK} {p p2 pos:Pos} {a b:Expr} {f g:Dn->Res wY} {x:Str}
theorem On (C:Cxt P w K mg base X N sc k df) (i:Nat) (h:okVar N sc i x=true) (hk:DE X E a f) (hv:DE X E b g) (hs:q9 b (some (.Subscript (.Name x p) a p2)) pos.line X.env=pure false:=by rfl):DS X E (.Assign [.Subscript (.Name x p) a p2] b pos) (X9 i f g):=fun G0 H0=>by
 refine PS.imp (oO (by have:=C.hu; lia) (okVar.pe C h) hk hv hs) fun D Z H hY93=>?_;obtain ⟨G,δ,S,aft⟩:=hY93;unfold X9 at aft;split at aft
 . rename_i kvs hi
   refine Ie S aft fun v x1 G1 H1 g1 r1 S1 a1=>?_;obtain ⟨q,hσ,hg,ho⟩:=S1.sr.own hi; refine ⟨.ref q,hσ,?_⟩; refine Ie S1 a1 fun kd x2 G2 H2 g2 r2 S2 a2=>?_;obtain ⟨q',hσ',hg',ho'⟩:=S2.sr.own hi; rw [hσ] at hσ'; cases hσ'; obtain ⟨kk,hx,hkeys,hvals⟩:=(show OwnK G2 H2 q [.dict kvs,.none] from ho');split at a2
   . rename_i hc
     have hl:kk.length=kvs.length:=by
       have:=congrArg y4 hkeys;simpa using this.symm
     have hlen:kk.length < sizeLine:=by
       rw [hl]; exact yT hc.2 (by decide)
     refine ⟨q,kk,kd,rfl,hx,Hi S2.sr.sub hc.1 r2,hc.1,hlen,?_⟩; obtain ⟨p1,p2⟩:=Ov (k:=kd) (r1.mono g2.g) hkeys hvals; exact a2 Z G2 _ (S2.write hi (by rw [hσ]; rfl) hg' (show OwnK G2 _ q [.dict _,.none] from ⟨_,B8,p1,p2⟩))
   . exact (show False from a2).elim
 . exact (show False from aft).elim
end
noncomputable def fzN (i:Nat) (δ:Dn):Dn:=match δ[i]? with
 | some (.ow (.tuple [.dict kvs,.none]))=>δ.set i (.fd ((.dict [],.none)::kvs))
 | _=>δ
theorem SSt.fzN {G0 H0 G H:Hp} {Z:St} {δ:Dn} (S:SSt G0 H0 G H Z δ) (i:Nat):∃ G',SSt G0 H0 G' H Z (fzN i δ):=by
 unfold Sm.fzN;split
 . rename_i kvs hi
   obtain ⟨p,hp,hg,ho⟩:=S.sr.sl i _ hi; obtain ⟨kk,hx,hk,r⟩:=(show OwnK G H p [.dict kvs,.none] from ho);have h0:=S.fr i _ p hi hp; have sm:Same G (upd G p (.dN kk)):=Same.upd hg; have gh:Same (upd G p (.dN kk)) H:=fun b u e=>by
     by_cases hb:b=p
     . subst hb; rw [B8] at e; cases e; exact hx
     . rw [C0 hb] at e; exact S.sr.sub _ _ e
   have gr:Grow G0 H0 (upd G p (.dN kk)) H:=⟨S.gr.g.trans sm,S.gr.h,gh,fun b u e=>by
     by_cases hb:b=p
     . subst hb; exact .inr (.inl h0)
     . rw [C0 hb] at e; exact S.gr.fr b u e⟩
   have hil:i < δ.length:=(yJ.mp hi).1; have key:∀ (j:Nat) (d':wY),(δ.set i (.fd ((.dict [],.none)::kvs)))[j]? = some (.ow d')->δ[j]? = some (.ow d')/\j≠i:=fun j d' e=>by
     rw [E2] at e;split at e
     . cases e
     . rename_i hn
       exact ⟨e,fun z=>by subst z; exact hn ⟨rfl,hil⟩⟩
   refine ⟨_,gr,⟨gh,by simp [S.sr.len],fun j s e=>?_,fun j1 j2 a d1 d2 e1 e2 h1 h2=>S.sr.ap j1 j2 a d1 d2 (key j1 d1 e1).1 (key j2 d2 e2).1 h1 h2⟩,fun j d' a e h=>S.fr j d' a (key j d' e).1 h⟩;by_cases hj:i=j/\i < δ.length
   . rw [E2,if_pos hj] at e
     cases e; rw [<- hj.1]; exact ⟨p,kk,hp,.inl B8,hk,r.mono sm⟩
   . have e2:=e
     rw [E2,if_neg hj] at e2; have hs:=S.sr.sl j s e2;cases s with
     | un=>trivial
     | sh d=>obtain ⟨v,e1,r1⟩:=hs; exact ⟨v,e1,r1.mono sm⟩
     | fd _=>exact FdOk.mono sm hs
     | ow d2 =>
       obtain ⟨a,e1,n1,ok⟩:=hs; have hne:a≠p:=by
         rintro rfl;exact (key j d2 e).2 (S.sr.ap j i a d2 _ e2 hi e1 hp)
       exact ⟨a,e1,by rw [C0 hne]; exact n1,ok.monoG sm⟩
 . exact ⟨G,S⟩
noncomputable def jE (i:Nat) (g:Dn->Out):Dn->Out:=fun δ=>g (fzN i δ)
theorem rR {X:Cx} {E:EK} {st:AR} {g1:Dn->Out} (i:Nat) (h:DS X E st g1):DS X E st (jE i g1):=fun G0 H0=>PS.imp (h G0 H0) fun D Z H hZ3=>by
 obtain ⟨G,δ,S,a⟩:=hZ3;obtain ⟨G',S'⟩:=S.fzN i;exact ⟨G',_,S',a⟩
end Sm
end
noncomputable section
namespace Sm
open PySem PySem.Spec PyProof.Rows PySem.W L2
def SlV (G:Hp) (v:V):Sl->Prop
 | .sh d=>Rep G d v
 | .fd kvs=>FdOk G (some v) kvs
 | _=>False
noncomputable def SlL (G:Hp):List Sl->List V->Prop
 | [],vs=>vs=[]
 | s::ss,vs=>∃ v r,vs=v::r/\SlV G v s/\SlL G ss r
theorem SlL.length {G:Hp}:∀ {ss:List Sl} {vs:List V},SlL G ss vs->ss.length=vs.length:=by
 intro iN; induction iN with
 | nil=>intro vs h; rw [show vs=[] from h]; rfl
 | cons _ _ ih=>intro _ h; obtain ⟨v,r,rfl,_,l⟩:=h; simp [ih l]
theorem SlL.get {G:Hp}:∀ {ss:List Sl} {vs:List V} {i:Nat} {s:Sl},SlL G ss vs->ss[i]? = some s->∃ v,vs[i]? = some v/\SlV G v s
 | [],_,i,_,_,e=>by simp at e
 | _::_,_,0,_,h,e=>by obtain ⟨v,r,rfl,q,_⟩:=h; simp at e; subst e; exact ⟨v,rfl,q⟩
 | _::_,_,i+1,_,h,e=>by obtain ⟨v,r,rfl,_,l⟩:=h; exact SlL.get (i:=i) l (by simpa using e)
noncomputable def Du (N:List Str) (ss:List Sl):Dn:=ss++yB (N.length - ss.length) .un
theorem Wd {G H:Hp} (hG:Same G H) {ss:List Sl} {vs:List V} (r:SlL G ss vs) (N:List Str):SSt G H G H (Br N vs) (Du N ss):=by
 have hl:=r.length;have noow:∀ (i:Nat) (d:wY),(Du N ss)[i]? ≠ some (.ow d):=fun i d e=>by
   unfold Du at e;by_cases hi:i < ss.length
   . rw [yZ hi] at e
     obtain ⟨_,_,z⟩:=r.get e; exact z
   . rw [zH (n0.mp hi),v5] at e
     split at e <;> cases e
 refine ⟨Grow.refl hG,⟨hG,by unfold L2.Br Du; simp [hl],fun i s e=>?_,fun i j a d d' e _ _ _=>absurd e (noow i d)⟩,fun i d a e _=>absurd e (noow i d)⟩;unfold Du at e;by_cases hi:i < ss.length
 . rw [yZ hi] at e
   obtain ⟨v,e1,rv⟩:=r.get e; unfold L2.Br; rw [yZ (by rw [xG,<- hl]; exact hi),yM,e1];cases s with
   | sh d=>exact ⟨v,rfl,rv⟩
   | fd kvs=>exact rv
   | un=>exact rv.elim
   | ow d=>exact rv.elim
 . rw [zH (n0.mp hi),v5] at e
   split at e <;> cases e
   trivial
def spS (n:Nat) (m:List Sl->Res wY):Sp:=fun vs H Q _=>∃ G ss d,Same G H/\SlL G ss vs/\ss.length=n/\m ss=.ok d/\∀ v G' H',Grow G H G' H'->Rep G' d v->Q v H'
structure FnS (P:yD) (w:yR) (K:xF) (mg:Str->Option xB) (base:zN) (x:Str) (k n:Nat) (m:List Sl->Res wY):Prop where
 ex:∃ f fd ps,ps.length=n/\FnOk P w K mg base CX0 k f fd ps (spS n m)/\mg x=some (.ref f)/\j4 K (.ref f)=true/\Binds K fd ps []
noncomputable def fnS (N:List Str) (g:Dn->Out):List Sl->Res wY:=fun ss=>match g (Du N ss) with
 | .rt d=>.ok d
 | .nx _=>.ok .none
 | .exc c=>.exc c
 | _=>.no
def spSN (n:Nat) (m:List Sl->Res Kvs):Sp:=fun vs H Q _=>∃ G ss kvs,Same G H/\SlL G ss vs/\ss.length=n/\m ss=.ok kvs/\∀ p G' H',Grow G H G' H'->H p=none->G' p=none->OwnOk G' H' p (.tuple [.dict kvs,.none])->Q (.ref p) H'
structure FnSN (P:yD) (w:yR) (K:xF) (mg:Str->Option xB) (base:zN) (x:Str) (k n:Nat) (m:List Sl->Res Kvs):Prop where
 ex:∃ f fd ps,ps.length=n/\FnOk P w K mg base CX0 k f fd ps (spSN n m)/\mg x=some (.ref f)/\j4 K (.ref f)=true/\Binds K fd ps []
noncomputable def qB (N:List Str) (g:Dn->Res Kvs):List Sl->Res Kvs:=fun ss=>g (Du N ss)
noncomputable def Tp (f:Dn->Res wY) (i:Nat) (m:List Sl->Res Kvs):Dn->Res Kvs:=fun δ=>(f δ).bind fun d=>match δ[i]? with
 | some (.fd kvs)=>m [.sh d,.fd kvs]
 | _=>.no
noncomputable def Bq (i:Nat) (f:Dn->Res wY) (m:List Sl->Res wY):Dn->Res wY:=fun δ=>match δ[i]? with
 | some (.fd kvs)=>(f δ).bind fun d=>m [.fd kvs,.sh d]
 | _=>.no
theorem FdOk.is {G:Hp} {o:Option V} {kvs:Kvs} (h:FdOk G o kvs):∃ a,o=some (.ref a):=by
 unfold FdOk at h;split at h
 . obtain ⟨a,kk,h1,_⟩:=h; exact ⟨a,h1⟩
 . obtain ⟨a,ob,kk,h1,_⟩:=h; exact ⟨a,h1⟩
theorem SR.fdV {G H:Hp} {Z:St} {δ:Dn} {i:Nat} {kvs:Kvs} (S:SR G H Z δ) (hi:δ[i]? = some (.fd kvs)):∃ v,Z[i]? = some (some v)/\FdOk G (some v) kvs:=by
 have h:FdOk G (Z[i]?.join) kvs:=S.sl i _ hi;obtain ⟨a,e⟩:=h.is;rw [e] at h;refine ⟨.ref a,?_,h⟩;cases z:Z[i]? with
 | none=>rw [z] at e; cases e
 | some z' =>
   rw [z] at e;cases z' with
   | none=>cases e
   | some z''=>cases e; rfl
noncomputable section
variable {P:yD} {w:yR} {K:xF} {mg:Str->Option xB} {base:zN} {X:Cx} {N:List Str} {sc:Scope} {k:Nat} {df:Bool} {E:EK} {pos p p1:Pos} {a e:Expr} {f:Dn->Res wY} {x y:Str}
theorem fn_S {x:Str} {st:AR} {ps:List Str} {n:Nat} {go:Dn->Out} {m:List Sl->Res wY} (F:Def K mg x st ps) (S:FnScope N ps (A6 st)) (hn:ps.length=n)
   (body:∀ X,Cxt P w K mg base X N (A6 st) k true->DSs X E0k (B7 st) go) (hm:m=fnS N go):FnS P w K mg base x (k+1) n m:=by
 obtain ⟨f,fd,F,hmg,hb⟩:=F.ex;refine ⟨f,fd,ps,hn,?_,hmg,F.kp,hb⟩;subst hm;refine F.ok S (fun vs H Q E h=>?_) (fun cdv A outer s H vs Q E hr h=>?_)
 . obtain ⟨G,ss,d,_,r,hl,_⟩:=h
   rw [<- r.length,hl,hn]
 . obtain ⟨G,ss,d,hG,r,hl,em,q⟩:=h
   refine ⟨_,body _ ⟨rfl,rfl,rfl,rfl,rfl,rfl,rfl,rfl,hr,fun _ _=>rfl,DH⟩ G H,G,_,Wd hG r N,?_⟩;unfold fnS at em;cases eg:go (Du N ss) with
   | rt d'=>rw [eg] at em; cases em; exact fun v G' H' g r'=>q v G' H' g r'
   | nx δ=>rw [eg] at em; cases em; exact fun Z G' H' S'=>q _ G' H' S'.gr rfl
   | bk _=>rw [eg] at em; cases em
   | ct _=>rw [eg] at em; cases em
   | exc _=>rw [eg] at em; cases em
   | no=>rw [eg] at em; cases em
theorem fn_SN {x:Str} {st:AR} {ps:List Str} {n:Nat} {go:Dn->Res Kvs} {m:List Sl->Res Kvs} (F:Def K mg x st ps) (S:FnScope N ps (A6 st)) (hn:ps.length=n)
   (body:∀ X,Cxt P w K mg base X N (A6 st) k true->DSN X E0k (B7 st) go) (hm:m=qB N go):FnSN P w K mg base x (k+1) n m:=by
 obtain ⟨f,fd,F,hmg,hb⟩:=F.ex;refine ⟨f,fd,ps,hn,?_,hmg,F.kp,hb⟩;subst hm;refine F.ok S (fun vs H Q E h=>?_) (fun cdv A outer s H vs Q E hr h=>?_)
 . obtain ⟨G,ss,d,_,r,hl,_⟩:=h
   rw [<- r.length,hl,hn]
 . obtain ⟨G,ss,kvs,hG,r,hl,em,q⟩:=h
   refine ⟨_,body _ ⟨rfl,rfl,rfl,rfl,rfl,rfl,rfl,rfl,hr,fun _ _=>rfl,DH⟩ G H,G,_,Wd hG r N,?_⟩;unfold qB at em; rw [em]; exact q
theorem AftN.grow {G H G' H':Hp} {r:Res Kvs} {Q:VK} (g:Grow G H G' H') (a:AftN E G H r Q):AftN E G' H' r Q:=by
 cases r with
 | ok kvs=>exact fun p G2 H2 g2 hp hp' ho=>a p G2 H2 (g.trans g2) (g.h.free hp) hp' ho
 | exc c=>exact fun G2 H2 g2=>a G2 H2 (g.trans g2)
 | no=>exact a
theorem mS {G H:Hp} {Z:St} {δ:Dn} {k:wY->Res Kvs} {Q R:VK} (S:SR G H Z δ) (a:AftN E G H ((f δ).bind k) Q)
   (h:∀ d v G1 H1,Grow G H G1 H1->Rep G1 d v->SR G1 H1 Z δ->AftN E G1 H1 (k d) Q->R v H1):tD E f Z H R:=by
 refine ⟨G,δ,S,?_⟩;cases e:f δ with
 | ok d=>rw [e] at a; exact fun v G' H' g r=>h d v G' H' g r (S.grow g) (a.grow g)
 | exc c=>rw [e] at a; exact a
 | no=>rw [e] at a; exact a
theorem kP {j:Nat} {m:List Sl->Res Kvs} (C:Cxt P w K mg base X N sc k df) (F:FnSN P w K mg base y j 2 m) (hj:j<=k) (h:okGl sc y=true) (ha:DE X E0k e f) (i:Nat) (hv:okVar N sc i x=true)
   (he:xO [e,.Name x p1] X.env=(false,eval e X.env)::xO [.Name x p1] X.env:=by rfl) (he2:xO [.Name x p1] X.env=(false,eval (.Name x p1) X.env)::xO [] X.env:=by rfl) (hpl:(i6 pos (xO [.Name x p1] X.env)).any (·.1)=false:=by rfl) :
   DN X E0k (.Call (.Name y p) [e,.Name x p1] [] pos) (Tp f i m):=by
 obtain ⟨fa,fd,ps,hps,F,hm,hk,hb⟩:=F.ex;obtain ⟨h1,h2,h3⟩:=okGl.gl C h;have F':FnOk X.prog X.w X.K X.mg X.base CX0 j fa fd ps (spSN 2 m):=by rw [C.hP,C.hw,C.hK,C.hmg,C.hb]; exact F
 refine PE.imp (Mo F' (C.room.mono hj) h1 (by rw [C.hmg]; exact hm) (by rw [C.hK]; exact hk) (by rw [C.hK]; exact hb) .nil (cL (X:=X)) (L7 ha (L7 (okVar.pe C hv) R0 he2) he) h2 he hpl) fun Z H Q hh=>?_;obtain ⟨G,δ,S,aft⟩:=hh;refine mS S aft fun d v G1 H1 g1 r1 S1 a1=>?_;split at a1
 . rename_i kvs hi
   obtain ⟨u,hσ,fo⟩:=S1.fdV hi; refine ⟨u,hσ,?_⟩;cases em:m [.sh d,.fd kvs] with
   | ok r=>rw [em] at a1; exact ⟨G1,[.sh d,.fd kvs],r,S1.sub,⟨v,_,rfl,r1,u,_,rfl,fo,rfl⟩,rfl,em,a1⟩
   | exc c=>rw [em] at a1; exact (a1 G1 H1 (Grow.refl S1.sub)).elim
   | no=>rw [em] at a1; exact a1.elim
 . exact (show False from a1).elim
theorem Yp {j:Nat} {m:List Sl->Res wY} (C:Cxt P w K mg base X N sc k df) (F:FnS P w K mg base y j 2 m) (hj:j<=k) (h:okGl sc y=true) (i:Nat) (hv:okVar N sc i x=true) (ha:DE X E0k e f)
   (he:xO [.Name x p1,e] X.env=(false,eval (.Name x p1) X.env)::xO [e] X.env:=by rfl) (he2:xO [e] X.env=(false,eval e X.env)::xO [] X.env:=by rfl) (hpl:(i6 pos (xO [e] X.env)).any (·.1)=false:=by rfl) :
   DE X E0k (.Call (.Name y p) [.Name x p1,e] [] pos) (Bq i f m):=by
 obtain ⟨fa,fd,ps,hps,F,hm,hk,hb⟩:=F.ex;obtain ⟨h1,h2,h3⟩:=okGl.gl C h;have F':FnOk X.prog X.w X.K X.mg X.base CX0 j fa fd ps (spS 2 m):=by rw [C.hP,C.hw,C.hK,C.hmg,C.hb]; exact F
 refine PE.imp (Mo F' (C.room.mono hj) h1 (by rw [C.hmg]; exact hm) (by rw [C.hK]; exact hk) (by rw [C.hK]; exact hb) .nil (cL (X:=X)) (L7 (okVar.pe C hv) (L7 ha R0 he2) he) h2 he hpl) fun Z H Q hh=>?_;obtain ⟨G,δ,S,aft⟩:=hh;unfold Bq at aft;split at aft
 . rename_i kvs hi
   obtain ⟨u,hσ,_⟩:=S.fdV hi; refine ⟨u,hσ,?_⟩; refine L3 S aft fun d v G1 H1 g1 r1 S1 a1=>?_;obtain ⟨u',hσ',fo⟩:=S1.fdV hi; rw [hσ] at hσ'; cases hσ';cases em:m [.fd kvs,.sh d] with
   | ok r=>rw [em] at a1; exact ⟨G1,[.fd kvs,.sh d],r,S1.sub,⟨u,_,rfl,fo,v,_,rfl,r1,rfl⟩,rfl,em,a1⟩
   | exc c=>rw [em] at a1; exact (a1 G1 H1 (Grow.refl S1.sub)).elim
   | no=>rw [em] at a1; exact a1.elim
 . exact (show False from aft).elim
end
end Sm
end
noncomputable section
namespace Sm
open PySem PySem.Spec PyProof.Rows PySem.W L2
end Sm
end
noncomputable section
namespace Sm
open PySem PySem.Spec PyProof.Rows PySem.W L2
noncomputable def Pc {α:Type} (acc prs:List (wY×α)):List (wY×α):=prs.foldl (fun acc kv=>N7 acc kv.1 kv.2) acc
def PairN (H:Hp) (y:V) (kv:wY×V):Prop:=∃ t k,y=.ref t/\H t=some (.tup [k,kv.2])/\KRep H kv.1 k/\nkD kv.1=true
theorem PairN.mono {H H':Hp} {y:V} {kv:wY×V} (h:PairN H y kv) (k:∀ b xs,H b=some (.tup xs)->H' b=some (.tup xs)):PairN H' y kv:=by
 obtain ⟨t,b,e,h1,h2,h3⟩:=h;exact ⟨t,b,e,k _ _ h1,h2.mono k,h3⟩
theorem lZ {P:yD} {w:yR} {H:Hp} (h:zN) (hb:o0 < h.objs.size):ObjOk P w H (h.push { cls:=.type "dict",data:=.dict #[] }) h.objs.size (.dN []) :=
 ⟨c7 _,beq_eq_false_iff_ne.mpr (Ne.symm (yN hb)),.nil,(fun _ h=>nomatch h),[],.nil,0,xQ _ rfl⟩
noncomputable section
variable {X:Cx} {pins:List (xI×Obj)} {Z:St}
theorem aR {A:zI} {a d it:xI} (hh:A.handled=none) (hu:A.units+16 < m9) {ys:List V} {R:Result->xC->Prop}:∀ (n i:Nat) (s:xC) (H:Hp) (acc:List (wY×V)) (prs:List (wY×V)),n=prs.length ->
   Inv X pins Z H s->H d=some (.dN acc)->Rd H a (.lst ys)->s.heap.IsListIter it a i->Qa X pins H it->f9 (PairN H) (ys.drop i) prs->i+prs.length=ys.length->acc.length+prs.length < 10000->ys.length < 10000 ->
   (∀ s',Inv X pins Z (upd H d (.dN (Pc acc prs))) s'->R (.ok (.ret .none)) s') ->
   EJ (xW X.prog X.w) A (.builtin "dict.update.loop" ⟨[.ref d,.ref it,BJ i,.none],[]⟩) R s:=by
 intro n;induction n with
 | zero =>
   intro i s H acc prs hn I hd hl st fp hp hlen hacc hys hR; have:prs=[]:=c9.mp hn.symm; subst this; refine k7 Eo ?_; rw [e9 El _]; obtain ⟨its,rv,p,hz⟩:=I.list (.inl hl); have hl':=rv.length; simp only [zG,LO] at hlen; show wpAny _ A.in1 (pyNext (.ref it)>>=_) _ _ s;obtain ⟨f0,f1,f2,f3,f4,f5⟩:=fp; refine wZ (wpAny_pyNext_list_end hh st p.isList (by simp; lia) fun h' eb=>?_);have I1:Inv X pins Z H { s with heap:=h' }:=I.turned (t':=s.toks) (fun b o hb e=>eb b o hb e) f0 f1 f3 f4 f5;have hsame:upd H d (.dN (Pc acc []))=H:=by
     funext b
     unfold upd;split
     . rename_i e; rw [e,hd]; rfl
     . rfl
   rw [hsame] at hR; show wpAny _ A.in1 (Builtin.Dict.addKeywords d []>>=_) _ _ _;exact wZ (xA (xA (hR _ I1)))
 | succ n ih =>
   intro i s H acc prs hn I hd hl st fp hp hlen hacc hys hR;cases prs with
   | nil=>simp at hn
   | cons kv prs =>
     simp only [xP] at hn hlen hacc; have hi:i < ys.length:=by lia
     have hdrop:ys.drop i=ys[i]::ys.drop (i+1):=p4 hi; rw [hdrop] at hp;cases hp with
     | cons h0 hp =>
       obtain ⟨t,kk,ey,ht,hb,hnk⟩:=h0; refine k7 Eo ?_; rw [e9 El _]; obtain ⟨its,rv,p,hz⟩:=I.list (.inl hl); obtain ⟨u,hu',ru⟩:=rv.get (yU hi); rw [ey] at ru;cases (show u=zP t from ru);obtain ⟨f0,f1,f2,f3,f4,f5⟩:=fp; show wpAny _ A.in1 (pyNext (.ref it)>>=_) _ _ s;refine wZ (wpAny_pyNext_list_item st p.isList (x:=.ref t) (by simpa using hu') fun h' st' sb=>?_);have I1:Inv X pins Z H { s with heap:=h' }:=I.turned (t':=s.toks) (fun b o hb e=>(sb.2 b hb).trans e) f0 f1 f3 f4 f5;obtain ⟨its2,rv2,p2,_⟩:=I1.tuple (.inl (.inl ht));cases rv2 with
       | @cons _ u1 _ _ r1 rr =>
         cases rr with
         | @cons _ u2 _ _ r2 rr2 =>
           cases rr2; obtain ⟨ot,hot,hotc,nt,hotd⟩:=p2; obtain ⟨c0,d0,da0,sl0⟩:=ot; simp only at hotc hotd; subst hotc hotd; refine wZ (zE (wZ (wpAny_tryCatch ?_))); unfold Builtin.Dict.pairItems; have hT:({ s with heap:=h' }:xC).TypeIs (.ref t) "tuple" := ⟨_,hot,rfl⟩;generalize hDS:dictSet=DS
           repeat (any_goals (first | assumption | wp_step))
           subst hDS; refine Se (A:=A.in1) (by show A.units+1+8 < m9; lia) I1 hd hb hnk (yT (show acc.length < 10000 by lia) (by decide)) r1 r2 fun s3 I3 sb3=>?_;have hne:it≠d:=fun z=>by rw [z,hd] at f0; cases f0
           have hne2:∀ c xs,H c=some (.tup xs)->upd H d (.dN (N7 acc kv.1 kv.2)) c=some (.tup xs):=fun c xs e=>by rw [C0 (Oz e hd (fun z=>nomatch z))]; exact e
           refine xA ⟨EU _ (by decide +kernel),?_⟩;refine ih (i+1) s3 _ (N7 acc kv.1 kv.2) prs (by lia) I3 B8 ?_ (st'.at fun o e=>sb3 it o hne e) ⟨by rw [C0 hne]; exact f0,f1,f2,f3,f4,f5⟩ (Paired.mapP hp fun _ _ z=>z.mono hne2) (by lia) (by have:=Cz (k:=kv.1) (v:=kv.2) acc; lia) hys fun s' J=>?_
           . rcases hl with z | ⟨o,z⟩
             . exact .inl (by rw [C0 (Oz z hd (fun z=>nomatch z))]; exact z)
             . exact .inr ⟨o,by rw [C0 (Oz z hd (fun z=>nomatch z))]; exact z⟩
           . rw [Tq] at J
             exact hR s' J
theorem bA (hh:X.A.handled=none) (hu:X.A.units+64 < m9):Y7 X (.type "dict") (fun vs H Q=>∃ a ys prs,vs=[.ref a]/\Rd H a (.lst ys)/\f9 (PairN H) ys prs/\ys.length < 1000/\∀ p,H p=none->Q (.ref p) (upd H p (.dN (Pc [] prs)))):=by
 rintro pins s Z H xs us Q I r ⟨a,ys,prs,e0,hl,hp,hn,q⟩;subst e0;cases r with
 | cons r0 rr =>
   cases rr; obtain ⟨rfl⟩:=(show _=zP a from r0);refine callType_codes (Q₁:=fun obj s₁=>obj=.ref s.heap.objs.size/\s₁={ s with heap:=s.heap.push { cls:=.type "dict",data:=.dict #[] } }) F.kt_called_dict (F.kt_typeCall_dict_1 _) F.entry_dict_init (kt_code_dict_new _ ⟨rfl,rfl⟩) ?_;rintro obj s₁ ⟨rfl,rfl⟩;have hfr:=I.hok.fresh (xL s.heap.objs.size); have I1:=I.laid (a:=s.heap.objs.size) (o:=.dN []) (h':=s.heap.push { cls:=.type "dict",data:=.dict #[] }) (t':=s.toks) (fun _ _ q=>xE _ q) (xL _) (lZ s.heap I.big);have hTd:({ s with heap:=s.heap.push { cls:=.type "dict",data:=.dict #[] } }:xC).TypeIs (.ref s.heap.objs.size) "dict" := ⟨_,xQ _ rfl,rfl⟩; refine ⟨hTd,F.args_dict_init_2 _ _,?_⟩; have hl1:Rd (upd H s.heap.objs.size (.dN [])) a (.lst ys):=by
     rcases hl with z | ⟨o,z⟩
     . exact .inl (by rw [C0 (D8 z hfr)]; exact z)
     . exact .inr ⟨o,by rw [C0 (D8 z hfr)]; exact z⟩
   obtain ⟨_,its,nn,rv,hobj⟩:=(show ObjOk X.prog X.w _ _ a (.lst ys) from hl1.ok I1.hok);unfold i7.«dict.__init__»;refine wZ ?_; unfold Builtin.Dict.selfAndRest; refine wZ (EF hTd ?_); show wpAny _ _ (pure (s.heap.objs.size,[zP a])) _ _ _;refine xA ?_; show wpAny _ _ (IE "dict.__init__" s.heap.objs.size (.ref a) [] .none) _ _ _;unfold IE; refine wZ (DP (T := "list") ⟨_,hobj,rfl⟩ ?_); rw [if_pos (by decide)]; refine wZ (fW hh hobj fun h1 tk1 kp=>?_);rw [if_pos (by rfl)]; have I2:Inv X pins Z (upd H s.heap.objs.size (.dN [])) { s with heap:=h1,toks:=tk1 }:=I1.kept (t':=tk1) kp; refine wZ (f8 ?_); obtain ⟨its2,rv2,p2,_⟩:=I2.list (.inl hl1); refine wZ (IY p2.isList ?_); have I3:Inv X pins Z (upd H s.heap.objs.size (.dN [])) { s with heap:=h1.push { cls:=.type "list_iterator",data:=.fields #[.ref a,.int 0 0] },toks:=tk1 }:=I2.kept (t':=tk1) fun b o e=>xE _ e
   have hpz:f9 (PairN (upd H s.heap.objs.size (.dN []))) ys prs:=Paired.mapP hp fun _ _ z=>z.mono fun b xs e=>by rw [C0 (D8 e hfr)]; exact e
   have hle:prs.length=ys.length:=(Paired.len' hp).symm; refine xA ⟨EU _ (by decide +kernel),?_⟩;refine aR (A:=X.A.in1) hh (by show X.A.units+1+16 < m9; lia) (ys:=ys) prs.length 0 _ _ [] prs rfl I3 B8 hl1 ⟨_,xQ _ rfl,rfl,rfl⟩ (I2.fpOk (xL _) (I2.hok.fresh (xL _))) hpz (by lia) (by simp; lia) (by lia) fun s' J=>?_;rw [Tq] at J; exact ⟨rfl,.ref s.heap.objs.size,_,J,rfl,q _ hfr⟩
end
noncomputable def Hk:List wY->Kvs->Option Kvs
 | [],kvs=>some kvs
 | .tuple [kd,v]::ds,kvs=>if nkD kd=true then Hk ds (N7 kvs kd v) else none
 | _::_,_=>none
theorem aJ {G:Hp}:∀ (ds:List wY) (ys:List V) (kvs kvs':Kvs) (kv:List (wY×V)),RepL G ds ys->Hk ds kvs=some kvs'->kvs.map (·.1)=kv.map (·.1)->RepL G (kvs.map (·.2)) (kv.map (·.2)) ->
   ∃ prs,f9 (PairN G) ys prs/\kvs'.map (·.1)=(Pc kv prs).map (·.1)/\RepL G (kvs'.map (·.2)) ((Pc kv prs).map (·.2)):=by
 intro iN; induction iN with
 | nil =>
   intro ys kvs kvs' kv r e h1 h2;cases (show _=_ from r);cases e; exact ⟨[],.nil,h1,h2⟩
 | cons d ds ih =>
   intro ys kvs kvs' kv r e h1 h2; obtain ⟨y,t,rfl,rd,rl⟩:=r; unfold Hk at e;split at e
   . rename_i heq
     cases heq
   . rename_i kd v ds' heq
     cases heq;split at e
     . rename_i ek
       obtain ⟨p,xs,rfl,hp,lp⟩:=rd; obtain ⟨v1,v2,rfl,r1,r2⟩:=jI lp; obtain ⟨p1,p2⟩:=Ov (k:=kd) r2 h1 h2; obtain ⟨prs,q1,q2,q3⟩:=ih t _ kvs' _ rl e p1 p2; exact ⟨(kd,v2)::prs,.cons ⟨p,v1,rfl,hp,Hi (Same.refl G) ek r1,ek⟩ q1,q2,q3⟩
     . cases e
   . cases e
noncomputable def Hn (f:Dn->Res wY):Dn->Res Kvs:=fun δ=>(f δ).bind fun d=>match d with
 | .list ds=>if ds.length < 1000 then ofO (Hk ds []) else .no
 | _=>.no
noncomputable section
variable {P:yD} {w:yR} {K:xF} {mg:Str->Option xB} {base:zN} {X:Cx} {N:List Str} {sc:Scope} {k:Nat} {df:Bool} {E:EK} {p2 cp:Pos} {e:Expr} {f:Dn->Res wY}
theorem cY (C:Cxt P w K mg base X N sc k df) (hd:okGl sc "dict" = true) (hm:mg "dict" = none) (hf:DE X E e f) (hst:Uk e=true:=by rfl)
   (he:xO [e] X.env=(false,eval e X.env)::xO [] X.env:=by rfl) (hpl:(i6 cp (xO [] X.env)).any (·.1)=false:=by rfl) :
   DN X E (.Call (.Name "dict" p2) [e] [] cp) (Hn f):=by
 obtain ⟨k1,k2,k3⟩:=okGl.gl C hd;refine PE.imp (Da (bA C.room.hd C.hu) k1 (by rw [C.hmg]; exact hm) (by decide +kernel) (L7 hf R0 he) k3 k2 he hpl) fun Z H Q hh=>?_;obtain ⟨G,δ,S,aft⟩:=hh;refine mS S aft fun d v G1 H1 g1 r1 S1 a1=>?_;split at a1
 . rename_i ds
   split at a1
   . rename_i hlen
     cases ek:Hk ds [] with
     | none=>rw [ek] at a1; exact (show False from a1).elim
     | some kvs =>
       rw [ek] at a1; obtain ⟨a,ys,rfl,ha,la⟩:=r1; obtain ⟨prs,q1,q2,q3⟩:=aJ ds ys [] kvs [] la ek rfl rfl; refine ⟨a,ys,prs,rfl,Rd.mono S1.sub ha,Paired.mapP q1 fun _ _ z=>z.mono fun b xs e=>S1.sub _ _ e,by rw [<- la.length]; exact hlen,fun q hq=>?_⟩;exact a1 q G1 _ (Grow.own S1.sub hq) hq (S1.sub.free hq) (show OwnK G1 _ q [.dict kvs,.none] from ⟨_,B8,q2,q3⟩)
   . exact (show False from a1).elim
 . exact (show False from a1).elim
end
end Sm
end
noncomputable section
namespace Sm
open PySem PySem.Spec PySem.W PyProof.Rows L2
end Sm
end
noncomputable section
namespace Sm
open PySem PySem.Spec PySem.W PyProof.Rows L2
end Sm
end
noncomputable section
namespace Sm
open PySem PySem.Spec PyProof.Rows PySem.W L2
noncomputable section
variable {prog:yD} {w:yR} {A:zI} {E:xB->xC->Prop} {s:xC}
theorem Zl (hh:A.handled=none) (I d:xI) (hne:d≠I) (od:Obj) (es:Array zL) (ep:Nat) (hdd:od.data=.dict es ep) :
   Walks prog w A I [I,d] [I] es.size (fun i v=>∃ e,es[i]? = some e/\v=e.key) (fun i h=>h.IsKeyIter I d i es.size ep/\h.get? d=some od) where
 sub:=fun b hb=>by simp at hb; simp [hb]
 frame:=fun _ _ _ st hk=>⟨st.1.at fun o e=>hk I (by simp) o e,hk d (by simp) _ st.2⟩
 item:=fun i s Q E hi st hQ=>by
   refine kL st.1 st.2 hdd hi fun h' n hs=>?_;exact hQ _ h' s.toks ⟨es[i],by simp [hi],rfl⟩ ⟨n,hs.extBut d _ hne st.2⟩ fun b o hb e=>hs.extBut b o (fun z=>hb (by simp [z])) e
 done:=fun s Q E st hQ=>qG hh (xL _) st.1 st.2 hdd fun h' he=>hQ h' s.toks fun b o hb e=>he b o (fun z=>hb (by simp [z])) e
 self:=fun _ _ _ _ st hQ=>wpAny_pyIter_keyiter st.1 hQ
theorem eQ {d:xI} {od:Obj} {es:Array zL} {ep:Nat} (lo:(d==o0)=false) (hcl:od.cls=.type "dict") (hdd:od.data=.dict es ep) :
   KdlSrc prog w "dict" d d es.size (fun i v=>∃ e,es[i]? = some e/\v=e.key) (fun h=>h.get? d=some od) where
 type:=fun _ hm=>⟨od,hm,hcl⟩
 there:=fun _ hm=>⟨xV hm,xV hm⟩
 keep:=fun _ _ hm hk=>hk d (.inr rfl) _ hm
 notList:=by decide
 notTuple:=by decide
 hint:=fun _ _ _ _ hm hq=>kdl_hint_dict ⟨od,hm,hcl⟩ hq
 iter:=fun _ _ hh hm=>⟨_,_,(fun _ _ hq=>lF lo ⟨od,hm,hcl⟩ hm hdd hq),Zl hh _ d (yN (xV hm)) od es ep hdd,⟨⟨_,xQ _ rfl,rfl,rfl⟩,xE _ hm⟩⟩
theorem iU {d:xI} {od:Obj} {es:Array zL} {ep:Nat} {ss:List Str} {Q:xB->xC->Prop} (lo:(d==o0)=false) (hcl:od.cls=.type "dict") (hdd:od.data=.dict es ep) (hh:A.handled=none) (hd:s.heap.get? d=some od)
   (hS:FT (es.toList.map (·.key)) ss) (h64:es.size < 64)
   (h:∀ (h1:zN) tk (out:Array xB) (ss':List Str),(∀ b o,s.heap.get? b=some o->h1.get? b=some o)->FT out.toList ss'->ss'.Perm ss->sortedS ss'=true ->
     Q (.ref h1.objs.size) { s with heap:=LF (h1.push (CY "list" (es.toList.map (·.key)).toArray 0)) h1.objs.size (es.toList.map (·.key)) out,toks:=tk }) :
   wpAny (xW prog w) A (call (.builtin "sorted") [.ref d]) Q E s:=by
 refine EX kind_sorted plain_sorted entry_sorted (args_sorted1 _) (wZ (m:=checkCount "sorted" 1 1 _) (xA (wZ (Vg (eQ lo hcl hdd) hh hd (by rw [AJ]; lia) fun h1 tk acc hk hacc=>?_))));have hacc2:acc.toList=es.toList.map (·.key):=by
   apply BL;intro j;by_cases hj:j < es.size
   . have hja:j < acc.size:=by rw [hacc.1]; exact hj
     obtain ⟨e,e1,e2⟩:=hacc.2 j acc[j] (by simp [hja]);rw [yM,BF,BF,e1,xZ hja,e2]; rfl
   . rw [i8 (by simpa [hacc.1] using n0.mp hj),i8 (by simpa using n0.mp hj)]
 rw [hacc2];generalize hvs:es.toList.map (·.key)=vs at *;have hvl:vs.length=es.size:=by rw [<- hvs]; simp
 refine wZ (wpAny_newList ?_ (by rw [AJ]; lia));have hoL:(h1.push (CY "list" vs.toArray 0)).get? h1.objs.size=some (CY "list" vs.toArray 0):=xQ _ rfl;show wpAny _ _ _ _ _ { s with heap:=h1.push (CY "list" vs.toArray 0),toks:=tk };refine wZ (zE (zD LG ⟨_,hoL,rfl⟩ KJ (list_sort_treeK strKind_oneLt hoL hS.keysOf (fun v₁ v₂ G6 e=>keyKind_strs (by rw [<- e]; exact hS)) (by lia) fun st' hp hs=>⟨_,rfl,?_⟩) (LJ _)));obtain ⟨ss',k1,k2,k3⟩:=sorted_out_str hS hp hs;exact xA ⟨_,rfl,h h1 tk _ ss' hk k1 k2 k3⟩
end
noncomputable def ltS (a b:Str):Bool:=ltCps a.cps.toList b.cps.toList
noncomputable def gC (p:Str):List Str->List Str
 | []=>[p]
 | q::r=>if ltS q p=true then q::gC p r else p::q::r
noncomputable def L6:List Str->List Str
 | []=>[]
 | p::r=>gC p (L6 r)
noncomputable def F4:List wY->Option (List Str)
 | []=>some []
 | .str x::r=>(F4 r).map (x::·)
 | _::_=>none
def leX (a b:Str):Prop:=¬ b.cps.toList < a.cps.toList
theorem sA {a b:Str}:ltS b a=false↔leX a b:=by unfold ltS leX; rw [ltCps_eq]; simp
theorem leX.trans {a b c:Str} (h1:leX a b) (h2:leX b c):leX a c:=List.le_trans (l₁:=a.cps.toList) (l₂:=b.cps.toList) (l₃:=c.cps.toList) h1 h2
theorem leX.anti {a b:Str} (h1:leX a b) (h2:leX b a):a=b:=by
 have:=List.le_antisymm (as:=a.cps.toList) (bs:=b.cps.toList) h1 h2;obtain ⟨⟨x⟩⟩:=a;obtain ⟨⟨y⟩⟩:=b;simp at this;rw [this]
theorem Rw:∀ (p:Str) (l:List Str),risingS p l=true->(p::l).Pairwise leX
 | p,[],_=>AM _ _
 | p,x::r,h=>by
   have h':(!ltCps x.cps.toList p.cps.toList&&risingS x r)=true:=h; rw [yE] at h'; have ih:=Rw x r h'.2; have hx:leX p x:=sA.mp (by have:=h'.1; unfold ltS; simpa using this);refine yQ.mpr ⟨fun y hy=>?_,ih⟩;rcases xD.mp hy with rfl | hy
   . exact hx
   . exact hx.trans ((yQ.mp ih).1 y hy)
theorem Ny:∀ {l:List Str},sortedS l=true->l.Pairwise leX:=by
 intro iN; induction iN with
 | nil=>intro _; exact .nil
 | cons x r ih=>intro h; exact Rw x r h
theorem Jb:∀ {l m:List Str},l.Perm m->l.Pairwise leX->m.Pairwise leX->l=m
 | [],m,h,_,_=>(LR h)
 | a::l,[],h,_,_=>absurd h.length_eq (by simp)
 | a::l,b::m,h,h1,h2=>by
   rw [yQ] at h1 h2; have e:a=b:=by
     rcases xD.mp (h.mem_iff.mp (a8 (a:=a) (l:=l))) with e | e
     . exact e
     . rcases xD.mp (h.mem_iff.mpr (a8 (a:=b) (l:=m))) with e' | e'
       . exact e'.symm
       . exact (h1.1 b e').anti (h2.1 a e)
   subst e; rw [Jb (KO h) h1.2 h2.2]
theorem Sk (p:Str):∀ l,(gC p l).Perm (p::l):=by
 intro iN; induction iN with
 | nil=>skip; exact j0 _
 | cons q r ih =>
   skip
   unfold gC;split
   . exact ((ih).cons q).trans (FQ p q r)
   . exact j0 _
theorem E7:∀ l,(L6 l).Perm l:=by
 intro iN; induction iN with
 | nil=>skip; exact j0 _
 | cons p r ih=>skip; exact (Sk p (L6 r)).trans ((ih).cons p)
theorem pW (p:Str):∀ l,l.Pairwise leX->(gC p l).Pairwise leX:=by
 intro iN; induction iN with
 | nil=>intro _; exact AM _ _
 | cons q r ih =>
   intro h; rw [yQ] at h; unfold gC;split
   . rename_i c
     refine yQ.mpr ⟨fun x hx=>?_,ih h.2⟩;rcases xD.mp ((Sk p r).mem_iff.mp hx) with rfl | hx
     . unfold ltS at c; rw [ltCps_eq] at c; exact List.lt_asymm (of_decide_eq_true c)
     . exact h.1 x hx
   . rename_i c
     have hq:leX p q:=sA.mp (by simpa using c);refine yQ.mpr ⟨fun x hx=>?_,yQ.mpr h⟩;rcases xD.mp hx with rfl | hx
     . exact hq
     . exact hq.trans (h.1 x hx)
theorem Fb:∀ l,(L6 l).Pairwise leX:=by
 intro iN; induction iN with
 | nil=>skip; exact .nil
 | cons p r ih=>skip; exact pW p _ (ih)
theorem Dq:∀ {ds:List wY} {ss:List Str},F4 ds=some ss->ds=ss.map .str:=by
 intro iN; induction iN with
 | nil=>intro ss e; cases e; rfl
 | cons d ds ih =>
   intro ss e;cases d with
   | str x =>
     obtain ⟨r,e1,e2⟩:=zM.mp (show (F4 ds).map (x::·)=some ss from e);rw [<- e2,ih e1]; rfl
   | _=>cases e
noncomputable section
variable {X:Cx}
def uB (xs:List V) (H:Hp) (Q:VK):Prop:=∃ d,∃ kk:List (wY×V),∃ ss:List Str,xs=[.ref d]/\Rd H d (.dN kk)/\kk.map (·.1)=ss.map .str/\ss.length < 64 /\
 ∀ l,H l=none->Q (.ref l) (upd H l (.lst ((L6 ss).map .str)))
theorem Hv {w:yR} {H:Hp}:∀ {kk:List (wY×V)} {xs:List (xB×xB)} {ss:List Str},f9 (fun (p:wY×V) (q:xB×xB)=>(∃ v,KRep H p.1 v/\RelV v q.1)/\RelV p.2 q.2) kk xs->kk.map (·.1)=ss.map zU->FT ((P3 w kk xs).map (·.key)) ss
 | _,_,[],r,e=>by
   cases r with
   | nil=>exact .nil
   | cons _ _=>cases e
 | _,_,x::ss,r,e=>by
   cases r with
   | nil=>cases e
   | @cons p q kk xs h r =>
     injection e with e1 e2
     obtain ⟨⟨v,h1,h2⟩,_⟩:=h; rw [show p.1=zU x from e1] at h1; obtain ⟨rfl,_⟩:=h1; obtain ⟨t,ht⟩:=h2; show FT (q.1::(P3 w kk xs).map (·.key)) (x::ss);rw [ht]; exact .cons x t (Hv r e2)
theorem Gy:∀ {vs:List xB} {ss:List Str},FT vs ss->Vals (ss.map V.str) vs
 | _,_,.nil=>.nil
 | _,_,.cons x t h=>.cons ⟨t,rfl⟩ (Gy h)
theorem aW (hh:X.A.handled=none):Y7 X (.builtin "sorted") uB:=by
 rintro pins s Z H xs us Q I r ⟨d,kk,ss,hx,hd,hkk,h64,q⟩;subst hx;obtain ⟨u,rfl,ru⟩:=Vals.one r;cases (show u=zP d from ru);obtain ⟨z,lo,nd,nk,ys,rel,ep,ho⟩:=hd.ok I.hok;have hS:=Hv (w:=X.w) rel hkk;have hlen:(P3 X.w kk ys).length=ss.length:=by
   have:=hS.strs; rw [<- this]; simp
 refine iU (ss:=ss) lo rfl rfl hh ho hS (by rw [xU]; exact EW (Nat.le_of_eq hlen) h64) fun h1 tk out ss' hk k1 k2 k3=>?_;have hsrt:ss'=L6 ss:=Jb (k2.trans (E7 ss).symm) (Ny k3) (Fb ss);subst hsrt;have I1:Inv X pins Z H { s with heap:=h1,toks:=tk }:=I.kept (t':=tk) hk;have ho1:(h1.push (CY "list" ((P3 X.w kk ys).toArray.toList.map (·.key)).toArray 0)).get? h1.objs.size=some (CY "list" ((P3 X.w kk ys).toArray.toList.map (·.key)).toArray 0):=xQ _ rfl;obtain ⟨ee,hat⟩:=sortedHeap_at (out:=out) ho1;have hfr:H h1.objs.size=none:=I1.hok.fresh (xL _)
 refine ⟨.ref h1.objs.size,_,I1.laid (o:=.lst ((L6 ss).map .str)) (t':=tk) (fun b o e=>?_) (xL _) ⟨?_,out.toList,ee,Gy k1,hat⟩,rfl,q _ hfr⟩
 . have hlt:b < h1.objs.size:=xV e
   rw [sortedHeap_old (yN hlt) (by rw [size_push']; exact FH hlt)];exact xE _ e
 . rw [xG,(E7 ss).length_eq,AJ]; lia
end
noncomputable def My (i:Nat):Dn->Res wY:=fun δ=>match kvN δ i with
 | some kvs=>match F4 (kvs.map (·.1)) with
   | some ss=>if ss.length < 64/\(ss.all fun x=>yP x&&decide (x.length<=1000))=true then .ok (.list ((L6 ss).map .str)) else .no
   | none=>.no
 | none=>.no
noncomputable section
variable {P:yD} {w:yR} {K:xF} {mg:Str->Option xB} {base:zN} {X:Cx} {N:List Str} {sc:Scope} {k:Nat} {df:Bool} {E:EK} {pos p p1:Pos} {x:Str}
theorem Hh {G:Hp}:∀ (ss:List Str),(∀ x∈ss,yP x=true/\x.length<=sizeLine)->RepL G (ss.map .str) (ss.map .str):=by
 intro iN; induction iN with
 | nil=>intro _; exact rfl
 | cons x ss ih=>intro h; exact RepL.cons ⟨rfl,h x (.head _)⟩ (ih fun y hy=>h y (.tail _ hy))
theorem qR (C:Cxt P w K mg base X N sc k df) (h:okGl sc "sorted" = true) (hm:mg "sorted" = none) (i:Nat) (hv:okVar N sc i x=true)
   (he:xO [.Name x p1] X.env=(false,eval (.Name x p1) X.env)::xO [] X.env:=by rfl) (hpl:(i6 pos (xO [] X.env)).any (·.1)=false:=by rfl) :
   DE X E (.Call (.Name "sorted" p) [.Name x p1] [] pos) (My i):=by
 obtain ⟨h1,h2,h3⟩:=okGl.gl C h;intro pins s Z H Q I q;refine (PE.imp (Jd (aW (I.ok.hd C.calm)) h1 (by rw [C.hmg]; exact hm) (by decide +kernel) (L7 (okVar.pe C hv (p:=p1)) R0 he) h3 h2 he hpl) fun Z H Q hY94=>?_) pins s Z H Q I q;obtain ⟨G,δ,S,aft⟩:=hY94;unfold My at aft;split at aft
 . rename_i kvs hi
   split at aft
   . rename_i ss eps
     split at aft
     . rename_i hc
       obtain ⟨d,kk,hσ,hx,hkeys,hvals⟩:=S.kvN hi; refine ⟨.ref d,hσ,d,kk,ss,rfl,hx,by rw [<- hkeys]; exact Dq eps,hc.1,fun l hl=>?_⟩;have hG:G l=none:=S.sub.free hl; refine aft _ (upd G l (.lst ((L6 ss).map .str))) _ (Grow.new S.sub hl) ⟨l,_,rfl,.inl B8,?_⟩; refine Hh _ fun y hy=>?_;have:=j9.mp hc.2 y ((E7 ss).mem_iff.mp hy); rw [yE] at this; exact ⟨this.1,xX (of_decide_eq_true this.2) (by decide)⟩
     . exact aft.elim
   . exact aft.elim
 . exact aft.elim
end
end Sm
end
noncomputable section
namespace Sm
open PySem PySem.Spec PyProof.Rows L2
end Sm
end
noncomputable section
namespace Sm
open PySem PySem.Spec PyProof.Rows L2
noncomputable def okS (x:Str):Bool:=yP x&&decide (x.length<=sizeLine)
noncomputable section
theorem okS.out {x:Str} (h:okS x=true):yP x=true/\x.length<=sizeLine:=by
 unfold okS at h;simp only [yE,decide_eq_true_eq] at h;exact h
end
end Sm
end
noncomputable section
namespace Sm
open PySem PySem.Spec PyProof.Rows L2
end Sm
end
noncomputable section
namespace Sm
open PySem PySem.Spec PyProof.Rows L2
end Sm
end
noncomputable section
namespace Sm
open PySem PySem.Spec PyProof.Rows L2
end Sm
end
noncomputable section
namespace Sm
open PySem PySem.Spec PyProof.Rows L2
end Sm
namespace Sm
open PySem PySem.Spec PyProof.Rows L2
end Sm
end
noncomputable section
namespace Sm
open PySem PySem.Spec PyProof.Rows L2
noncomputable def Ku (x:Str) (lo hi:Option Int):Str:=if (((zJ lo hi 1 x.length).length==x.length)=true) then x else ⟨((zJ lo hi 1 x.length).filterMap (x.cps[·]?)).toArray⟩
noncomputable def sL (d:wY) (lo hi:Option Int):Option wY:=match d with
 | .str x=>if okS (Ku x lo hi)=true then some (.str (Ku x lo hi)) else none
 | _=>none
theorem cM {v:xB} {o:Option Int} (h:GR v o):∃ l:Option (Int×Tok),v=partValue l/\l.map (·.1)=o:=by
 cases h with
 | none=>exact ⟨none,rfl,rfl⟩
 | int i t=>exact ⟨some (i,t),rfl,rfl⟩
noncomputable section
variable {X:Cx}
noncomputable def rSlS:V->Option Int->Option Int->Hp->VK->Prop:=fun x lo hi H Q=>∃ z,x=.str z/\(Ku z lo hi).length<=sizeLine/\Q (.str (Ku z lo hi)) H
theorem sl_S:SlR X rSlS:=by
 rintro pins s Z H x v vl vu lo hi sl Q I rx hs pl pu ⟨z,e,hl,q⟩;subst e;obtain ⟨t,rfl⟩:=rx;obtain ⟨l,rfl,rfl⟩:=cM pl;obtain ⟨u,rfl,rfl⟩:=cM pu;refine ⟨"str",_,F.slot_str_getitem.lookup,typeIs_str _ _ _,?_⟩;refine wpAny_getItem_str_slice (l:=l) (u:=u) (st:=none) hs rfl ?_;unfold sliceMade slicePicked;unfold Ku at q hl;show (if ((1:Int)==1&&(zJ (l.map (·.1)) (u.map (·.1)) 1 z.length).length==z.length)=true then Made.val (.str z t) else .str ⟨((zJ (l.map (·.1)) (u.map (·.1)) 1 z.length).filterMap (z.cps[·]?)).toArray⟩).post _ s;have e1:((1:Int)==1)=true:=rfl
 rw [e1,Bool.true_and];split
 . rename_i h
   rw [if_pos h] at q; exact ⟨.str z,H,I,⟨_,rfl⟩,q⟩
 . rename_i h
   rw [if_neg h] at q hl; exact ⟨hl,.str _,H,I.tok _,⟨_,rfl⟩,q⟩
noncomputable def Jr (f:Dn->Res wY) (fl fh:Dn->Res (Option Int)):Dn->Res wY:=fun δ=>(f δ).bind fun d=>(fl δ).bind fun l=>(fh δ).bind fun u=>ofO (sL d l u)
theorem Fm {E:EK} {e:Expr} {lo hi:Option Expr} {f:Dn->Res wY} {fl fh:Dn->Res (Option Int)} {p2 pos:Pos} (he:DE X E e f) (hl:DO X E lo fl) (hu:DO X E hi fh):DE X E (.Subscript e (.Slice lo hi none p2) pos) (Jr f fl fh):=by
 refine PE.imp (Xc sl_S he hl hu) fun Z H Q hZ3=>?_;obtain ⟨G,δ,S,aft⟩:=hZ3;refine L3 S aft fun d v G1 H1 g1 r1 S1 a1=>?_;refine Jn (W:=fun G H r=>Aft E G H r Q) S1 a1 (fun g a=>Aft.grow g a) (fun c a=>a) (fun a=>a) fun l G2 H2 g2 S2 a2=>?_;refine Jn (W:=fun G H r=>Aft E G H r Q) S2 a2 (fun g a=>Aft.grow g a) (fun c a=>a) (fun a=>a) fun u G3 H3 g3 S3 a3=>?_;cases d with
 | str z =>
   simp only [sL] at a3;split at a3
   . rename_i ok
     exact ⟨z,r1.1,(okS.out ok).2,a3 _ G3 H3 (Grow.refl S3.sub) ⟨rfl,okS.out ok⟩⟩
   . exact (show False from a3).elim
 | _=>exact (show False from a3).elim
end
end Sm
end
noncomputable section
namespace Sm
open PySem PySem.Spec PyProof.Rows L2
noncomputable def rngD2 (lo:Int) (n:Nat):List wY:=(zF n).map fun (i:Nat)=>k8 (lo+i*2)
noncomputable def rng3:List wY->Res (List wY)
 | [.int i,.int j,.int 2]=>if 0<=i/\i < 100000/\0<=j/\j < 100000 then .ok (rngD2 i ((j - i+1) / 2).toNat) else .no
 | _=>.no
noncomputable section
variable {P:yD} {w:yR} {K:xF} {mg:Str->Option xB} {base:zN} {X:Cx} {N:List Str} {sc:Scope} {k:Nat} {df:Bool} {E:EK} {pos p px py pz tp:Pos} {a b c d e iter:Expr} {sts:List AR} {g1:Dn->Out} {src:Dn->Res (List wY)} {x y z:Str}
noncomputable def st3 (i j l:Nat):wY->Dn->Option Dn:=fun d δ=>match d with
 | .tuple [a,b,c]=>some (((δ.set i (.sh a)).set j (.sh b)).set l (.sh c))
 | _=>none
theorem tg3 (i j l:Nat):rL K (lQ K 3 (Gs (V5 i) (Gs (V5 j) (Gs (V5 l) lR)))) (st3 i j l):=fun G0 H0 G H Z δ δ1 d x Q S r e h=>by
 cases d with
 | tuple ds =>
   match ds,e with
   | [a,b,c],e =>
     cases e; obtain ⟨p,xs,rfl,e1,l1⟩:=r; obtain ⟨v,t,rfl,r1,l2⟩:=l1; obtain ⟨v',v'',rfl,r2,r3⟩:=jI l2; exact ⟨p,_,rfl,.inl (.inl (S.sr.sub _ _ e1)),rfl,v,[v',v''],rfl,v',[v''],rfl,v'',[],rfl,rfl,h _ (((S.set_sh r1).set_sh r2).set_sh r3)⟩
 | _=>cases e
theorem tP {x1:Nat} (C:Cxt P w K mg base X N sc k df) (i j l:Nat) (hi':okSet N sc df i x=true) (hj:okSet N sc df j y=true) (hl:okSet N sc df l z=true) (hi:DI X E (.Tuple [.Name x px,.Name y py,.Name z pz] x1 tp) iter src) (hb:DSs X E sts g1) (hs:∀ x,a9 iter X.env x=pure x:=by intro _; rfl) :
   DS X E (.For (.Tuple [.Name x px,.Name y py,.Name z pz] x1 tp) iter sts [] pos) (K9 src (st3 i j l) g1):=by
 obtain ⟨h1',h2,h3,h4⟩:=okSet.ok C hi';obtain ⟨_,q2,q3,q4⟩:=okSet.ok C hj;obtain ⟨_,u2,u3,u4⟩:=okSet.ok C hl;have pg:=aH (n:=3) (k:=x1) (pos:=tp) C.calm (Bn (U0 (pos:=px) h1' h2 h3 h4) (Bn (U0 (pos:=py) h1' q2 q3 q4) (Bn (U0 (pos:=pz) h1' u2 u3 u4) Uj)));rw [C.hK] at pg;exact aD C hi pg (tg3 i j l) hb hs
end
end Sm
end
noncomputable section
namespace Sm
open PySem PySem.Spec PyProof.Rows L2
noncomputable def Gr:List wY->Option (List Int)
 | []=>some []
 | .int i::r=>(Gr r).map (i::·)
 | _::_=>none
noncomputable def gB (p:Int):List Int->List Int
 | []=>[p]
 | q::r=>if q < p then q::gB p r else p::q::r
noncomputable def Cv:List Int->List Int
 | []=>[]
 | p::r=>gB p (Cv r)
theorem Sj (p:Int):∀ l,(gB p l).Perm (p::l):=by
 intro iN; induction iN with
 | nil=>skip; exact j0 _
 | cons q r ih =>
   skip
   unfold gB;split
   . exact ((ih).cons q).trans (FQ p q r)
   . exact j0 _
theorem U3:∀ l,(Cv l).Perm l:=by
 intro iN; induction iN with
 | nil=>skip; exact j0 _
 | cons p r ih=>skip; exact (Sj p (Cv r)).trans ((ih).cons p)
theorem pV (p:Int):∀ l:List Int,l.Pairwise (· <= ·)->(gB p l).Pairwise (· <= ·):=by
 intro iN; induction iN with
 | nil=>intro _; exact AM _ _
 | cons q r ih =>
   intro h; rw [yQ] at h; unfold gB;split
   . refine yQ.mpr ⟨fun x hx=>?_,ih h.2⟩
     rcases xD.mp ((Sj p r).mem_iff.mp hx) with rfl | hx
     . lia
     . exact h.1 x hx
   . refine yQ.mpr ⟨fun x hx=>?_,yQ.mpr h⟩
     rcases xD.mp hx with rfl | hx
     . lia
     . have:=h.1 x hx; lia
theorem Ij:∀ l,(Cv l).Pairwise (· <= ·):=by
 intro iN; induction iN with
 | nil=>skip; exact .nil
 | cons p r ih=>skip; exact pV p _ (ih)
theorem Na:∀ {l m:List Int},l.Perm m->l.Pairwise (· <= ·)->m.Pairwise (· <= ·)->l=m
 | [],m,h,_,_=>(LR h)
 | a::l,[],h,_,_=>absurd h.length_eq (by simp)
 | a::l,b::m,h,h1,h2=>by
   rw [yQ] at h1 h2; have e:a=b:=by
     rcases xD.mp (h.mem_iff.mp (a8 (a:=a) (l:=l))) with e | e
     . exact e
     . rcases xD.mp (h.mem_iff.mpr (a8 (a:=b) (l:=m))) with e' | e'
       . exact e'.symm
       . have:=h1.1 b e'; have:=h2.1 a e; lia
   subst e; rw [Na (KO h) h1.2 h2.2]
theorem repZ {G:Hp}:∀ {ds:List wY} {xs:List V} {us:List xB} {ns:List Int},RepL G ds xs->Vals xs us->Gr ds=some ns->GS us ns:=by
 intro iN; induction iN with
 | nil=>intro _ _ _ r q e; cases (show _=_ from r); cases q; cases e; exact .nil
 | cons d ds ih =>
   intro _ _ ns r q e;cases d with
   | int i =>
     obtain ⟨x,t,rfl,h,l⟩:=r; obtain ⟨m,e1,e2⟩:=zM.mp (show (Gr ds).map (i::·)=some ns from e);cases (show x=.int i from h);cases q with
     | cons hq q =>
       obtain ⟨t,rfl⟩:=hq; rw [<- e2]; exact .cons i t (ih l q e1)
   | _=>cases e
theorem rN:∀ {vs:List xB} {ns:List Int},GS vs ns->Vals (ns.map V.int) vs
 | _,_,.nil=>.nil
 | _,_,.cons x t h=>.cons ⟨t,rfl⟩ (rN h)
end Sm
end
noncomputable section
namespace Sm
open PySem PySem.Spec PyProof.Rows PySem.W L2
end Sm
end
noncomputable section
namespace Sm
open PySem PySem.Spec PyProof.Rows PySem.W L2
theorem repT {G:Hp}:∀ {ds:List wY} {xs:List V} {us:List xB} {ss:List Str},RepL G ds xs->Vals xs us->F4 ds=some ss->FT us ss/\∀ x∈ss,yP x=true/\x.length<=sizeLine:=by
 intro iN; induction iN with
 | nil=>intro _ _ _ r q e; cases (show _=_ from r); cases q; cases e; exact ⟨.nil,fun _ h=>nomatch h⟩
 | cons d ds ih =>
   intro _ _ ns r q e;cases d with
   | str i =>
     obtain ⟨x,t,rfl,h,l⟩:=r; obtain ⟨m,e1,e2⟩:=zM.mp (show (F4 ds).map (i::·)=some ns from e);obtain ⟨rfl,h2⟩:=h;cases q with
     | cons hq q =>
       obtain ⟨t,rfl⟩:=hq; obtain ⟨k1,k2⟩:=ih l q e1; rw [<- e2]; refine ⟨.cons i t k1,fun y hy=>?_⟩;rcases xD.mp hy with rfl | hy
       . exact h2
       . exact k2 y hy
   | _=>cases e
end Sm
end
noncomputable section
namespace Sm
open PySem PySem.W PyProof.Rows
theorem T8:Slot "set_iterator" "__next__" "set_iterator.__next__" :=
 .of (owner := "set_iterator") (n := "__next__") (by rw [AH,m8]; kernel_rfl) (by decide +kernel) (by decide +kernel) (by decide +kernel) (by first | exact .inl (by decide +kernel) | exact .inr (by decide +kernel)) (by rw [BY]; kernel_rfl)
theorem bV:Slot "set_iterator" "__iter__" "set_iterator.__iter__" :=
 .of (owner := "set_iterator") (n := "__iter__") (by rw [AH,m8]; kernel_rfl) (by decide +kernel) (by decide +kernel) (by decide +kernel) (by first | exact .inl (by decide +kernel) | exact .inr (by decide +kernel)) (by rw [BY]; kernel_rfl)
theorem Ik:HQ table "set_iterator.__next__" = some i7.«set_iterator.__next__» := JR ⋯
theorem iW:HQ table "set_iterator.__iter__" = some i7.«dict_keyiterator.__iter__» := HP (id' := "dict_keyiterator.__iter__") ⋯ rfl (by decide +kernel) ⋯
theorem eT:HQ table "set.__iter__" = some i7.«frozenset.__iter__» := HP (id' := "frozenset.__iter__") ⋯ rfl (by decide +kernel) ⋯
theorem Il (a:xB):JT "set_iterator.__next__" ⟨[a],[]⟩:=by unfold JT; kernel_rfl
theorem iX (a:xB):JT "set_iterator.__iter__" ⟨[a],[]⟩:=by unfold JT; kernel_rfl
end Sm
end
noncomputable section
namespace Sm
open PySem PySem.W PyProof.Rows
abbrev Ek (f:xB) (i:Nat) (a:xI) (n ep:Nat):Obj:={ cls:=.type "set_iterator",data:=.fields #[f,.int i 0,.ref a,.int n 0,.int ep 0] }
theorem Hu {α:Type}:∀ {l:List α} {i:Nat} {x:α},l[i]? = some x->(x::l.eraseIdx i).Perm l
 | [],_,_,h=>by cases h
 | y::l,0,x,h=>by cases h; exact j0 _
 | y::l,i+1,x,h=>(FQ y x _).trans ((Hu (l:=l) (i:=i) h).cons y)
theorem oS {α:Type} (nx:Nat->Nat):∀ (n k:Nat) (l:List α) (out:Array α),l.length=n->(pickOrder.go nx n k l out).toList.Perm (out.toList++l):=by
 intro iN; induction iN with
 | zero =>
   intro k l out h;cases i4 h;rw [yL]; exact j0 _
 | succ n ih =>
   intro k l out h; unfold pickOrder.go; have hi:nx k % l.length < l.length:=FY _ (by lia);rw [yU hi]; refine (ih (k+1) _ _ (by rw [JL hi]; lia)).trans ?_;rw [Array.toList_push,yI]; exact List.Perm.append_left _ (Hu (yU hi))
theorem Fx {α:Type} (nx:Nat->Nat) (xs:Array α):(pickOrder nx xs).toList.Perm xs.toList:=oS nx xs.size 0 xs.toList #[] (by simp)
noncomputable section
variable {prog:yD} {w:yR} {A:zI} {E:xB->xC->Prop} {s:xC}
theorem eE {src:Source} {n:Nat} {Q:Nat->xC->Prop} (h:n≠0) (hQ:∀ i d,i < n->Q i { s with drawn:=d }):wpAny (xW prog w) A (choose src n) Q E s:=fun Γ p hΓ=>by
 unfold choose;rw [Sem.wp_choose];exact ⟨h,hQ _ _ (FY _ (Nat.pos_of_ne_zero h))⟩
theorem Dl {α:Type}:∀ (n:Nat) (xs:List α) (s:xC) (Q:List α->xC->Prop),xs.length=n->(∀ ys d,ys.Perm xs->Q ys { s with drawn:=d })->wpAny (xW prog w) A (drawOrder n xs) Q E s
 | 0,xs,s,Q,h,q=>by
   cases i4 h;exact xA (q [] s.drawn (j0 _))
 | n+1,[],s,Q,h,q=>by cases h
 | n+1,x::xs,s,Q,h,q=>by
   refine wZ (eE (by simp) fun i d hi=>?_);rw [yU hi]; refine wZ (Dl n _ _ _ (by rw [JL hi]; lia) fun ys d' hp=>xA (q _ d' ?_));exact (hp.cons _).trans (Hu (yU hi))
theorem Oa {a:xI} {o:Obj} {es:Array (Int×xB)} {ep sl i:Nat} {t:o6} {Q:Option (xB×Nat)->xC->Prop} (hb:w.params.followText "set-order" = true) (ho:s.heap.get? a=some o) (hd:o.data=.set es ep t) (hf:t.fits es.size=true)
   (hQ:Q (((pickOrder (w.params.setOrder a ep) es)[i]?).map fun e=>(e.2,sl)) s):wpAny (xW prog w) A (KR a sl i ep) Q E s:=by
 unfold KR setWalk IK;refine wZ (yV ho hd hf ?_);refine wZ (wZ (o4 (xA ?_)));have hb':(xW prog w).w.params.followText "set-order" = true:=hb;simp only [hb',if_true,bne_self_eq_false,xY,if_false];refine wZ (wZ (yV ho hd hf ?_));refine wZ (wZ (o4 (xA ?_)));simp only [hb',if_true];exact wZ (o4 (xA (xA hQ)))
theorem Rt {a:xI} {o:Obj} {es:Array (Int×xB)} {ep sl i:Nat} {t:o6} {Q:Option (xB×Nat)->xC->Prop} (hb:w.params.followText "set-order" = false) (ho:s.heap.get? a=some o) (hd:o.data=.set es ep t) (hf:t.fits es.size=true)
   (hdr:(!t.plain&&decide (es.size>1))=false) (hl:t.led=true)
   (hQ:Q (match es[CJ t.place sl]?,t.place[CJ t.place sl]? with | some (_,x),some j=>some (x,j+1) | _,_=>none) s):wpAny (xW prog w) A (KR a sl i ep) Q E s:=by
 unfold KR IK;refine wZ (yV ho hd hf ?_);refine wZ (wZ (o4 (xA ?_)));have hb':(xW prog w).w.params.followText "set-order" = false:=hb;simp only [hb',xY,if_false];refine k6 (fun h=>absurd (show (!t.plain&&decide (es.size>1))=true from h) (by rw [hdr]; decide)) fun _=>wZ ?_;show wpAny _ _ (if (!t.led && !es.isEmpty)=true then _ else _) _ _ _;rw [hl];exact xA (xA hQ)
theorem cU {I a:xI} {sl i nx ep:Nat} {o:Obj} {es:Array (Int×xB)} {t:o6} {x:xB} {Q:Option xB->xC->Prop} (hit:s.heap.get? I=some (Ek (.int sl 0) i a es.size ep)) (ho:s.heap.get? a=some o) (hd:o.data=.set es ep t) (hf:t.fits es.size=true)
   (hx:∀ (A:zI) (E:xB->xC->Prop) (Q:Option (xB×Nat)->xC->Prop),Q (some (x,nx)) s->wpAny (xW prog w) A (KR a sl i ep) Q E s)
   (hQ:∀ h',h'.get? I=some (Ek (.int nx 0) (i+1) a es.size ep)->c8 I s.heap h'->Q (some x) { s with heap:=h' }):wpAny (xW prog w) A (pyNext (.ref I)) Q E s:=by
 have hT:s.TypeIs (.ref I) "set_iterator" := ⟨_,hit,rfl⟩;unfold pyNext;refine wZ (AC ?_);refine zK (name:=o7 "__next__") hT T8 (zD T8 hT Ik ?_ (Il _));unfold i7.«set_iterator.__next__» JB;refine wZ (xA ?_);refine wZ (DR hit rfl ?_);refine wZ (AX ho hd hf ?_);simp only [bne_self_eq_false,xY,if_false];refine wZ (hx _ _ _ ?_);refine wZ (CV hit (by simp) fun h1 q1 b1=>?_);refine wZ (CV (s:={ s with heap:=h1 }) q1 (by simp) fun h2 q2 b2=>?_)
 exact xA ⟨_,rfl,xA (hQ h2 q2 (b1.trans b2))⟩
theorem Ww {A:zI} {I:xI} {Q:Option xB->xC->Prop} (hh:A.handled=none) (k:Nat) (hk:k < 5) (y:xB) {h0:zN} (hq:FF I h0 s.heap) (hit:∃ vs,s.heap.get? I=some { cls:=.type "set_iterator",data:=.fields vs }/\vs.size=5)
   (hQ:∀ h',FF I h0 h'->Q none { s with heap:=h' }) :
   wpAny (xW prog w) A.in1 (do
       JC (zP I) k y
       let e <- newExc (AT "StopIteration") []
       raiseNew e) (fun fin s'=>∃ v,fin=Fin.done (Flow.ret v)/\wpAny (xW prog w) A (pure (some v)) Q E s')
     (fun e s' => wpAny (xW prog w) A (do
         let d <- isInstance e (AT "StopIteration")
         if d=true then pure none else throw e) Q E s') s:=by
 obtain ⟨vs,hit,hv⟩:=hit;refine wZ (CV hit (by lia) fun h1 q1 b1=>?_);refine wZ ?_;simp only [newExc,newTuple];refine wZ (zC ?_ (by size_fits));refine wZ (m:=DU _ _) (AB (a:=k9) (by first | rfl | (simp only [DU]; rfl)) (zC ?_ (by size_fits)));simp only [raiseNew];refine wZ (wpAny_handled ?_);rw [show A.in1.handled=none from hh];refine wZ (xA (wpAny_throw (wZ ?_)));refine CD (T := "StopIteration") (b:=true) ⟨_,xQ _ rfl,rfl⟩ LH ?_
 exact xA (hQ _ (((hq.trans b1.extBut).push _).push _))
theorem lW {I a:xI} {sl i ep:Nat} {o:Obj} {es:Array (Int×xB)} {t:o6} {Q:Option xB->xC->Prop} (hh:A.handled=none) (hit:s.heap.get? I=some (Ek (.int sl 0) i a es.size ep)) (ho:s.heap.get? a=some o) (hd:o.data=.set es ep t) (hf:t.fits es.size=true)
   (hx:∀ (A:zI) (E:xB->xC->Prop) (Q:Option (xB×Nat)->xC->Prop),Q none s->wpAny (xW prog w) A (KR a sl i ep) Q E s)
   (hQ:∀ h',FF I s.heap h'->Q none { s with heap:=h' }):wpAny (xW prog w) A (pyNext (.ref I)) Q E s:=by
 have hT:s.TypeIs (.ref I) "set_iterator" := ⟨_,hit,rfl⟩;unfold pyNext;refine wZ (AC ?_);refine zK (name:=o7 "__next__") hT T8 (zD T8 hT Ik ?_ (Il _));unfold i7.«set_iterator.__next__» JB;refine wZ (xA ?_);refine wZ (DR hit rfl ?_);refine wZ (AX ho hd hf ?_);simp only [bne_self_eq_false,xY,if_false];refine wZ (hx _ _ _ ?_);exact Ww hh 2 (by decide) .none (p7 I _).extBut ⟨_,hit,rfl⟩ hQ
theorem pI {I a tp:xI} {i ep pl c:Nat} {o:Obj} {es:Array (Int×xB)} {t:o6} {x:xB} {hv:Int} {ps:Array xB} {Q:Option xB->xC->Prop} (hit:s.heap.get? I=some (Ek (.ref tp) i a es.size ep)) (ho:s.heap.get? a=some o) (hd:o.data=.set es ep t) (hf:t.fits es.size=true)
   (htp:s.heap.get? tp=some { cls:=.type "tuple",data:=.seq ps c }) (hp:ps[i]? = some (.int pl 0)) (hx:es[pl]? = some (hv,x))
   (hQ:∀ h',h'.get? I=some (Ek (.ref tp) (i+1) a es.size ep)->c8 I s.heap h'->Q (some x) { s with heap:=h' }):wpAny (xW prog w) A (pyNext (.ref I)) Q E s:=by
 have hT:s.TypeIs (.ref I) "set_iterator" := ⟨_,hit,rfl⟩;unfold pyNext;refine wZ (AC ?_);refine zK (name:=o7 "__next__") hT T8 (zD T8 hT Ik ?_ (Il _));unfold i7.«set_iterator.__next__» JB;refine wZ (xA ?_);refine wZ (DR hit rfl ?_);refine wZ (AX ho hd hf ?_);simp only [bne_self_eq_false,xY,if_false];refine wZ (LB htp rfl ?_);simp only [DB,hp];unfold setNextDrawn;refine wZ (wZ (yV ho hd hf ?_))
 simp only [bne_self_eq_false,xY,if_false,hx];refine xA ?_;refine wZ (CV hit (by simp) fun h1 q1 b1=>?_);exact xA ⟨_,rfl,xA (hQ h1 q1 b1)⟩
theorem wE {I a tp:xI} {i ep c:Nat} {o:Obj} {es:Array (Int×xB)} {t:o6} {ps:Array xB} {Q:Option xB->xC->Prop} (hh:A.handled=none) (hit:s.heap.get? I=some (Ek (.ref tp) i a es.size ep)) (ho:s.heap.get? a=some o) (hd:o.data=.set es ep t) (hf:t.fits es.size=true)
   (htp:s.heap.get? tp=some { cls:=.type "tuple",data:=.seq ps c }) (hp:ps[i]? = none)
   (hQ:∀ h',FF I s.heap h'->Q none { s with heap:=h' }):wpAny (xW prog w) A (pyNext (.ref I)) Q E s:=by
 have hT:s.TypeIs (.ref I) "set_iterator" := ⟨_,hit,rfl⟩;unfold pyNext;refine wZ (AC ?_);refine zK (name:=o7 "__next__") hT T8 (zD T8 hT Ik ?_ (Il _));unfold i7.«set_iterator.__next__» JB;refine wZ (xA ?_);refine wZ (DR hit rfl ?_);refine wZ (AX ho hd hf ?_);simp only [bne_self_eq_false,xY,if_false];refine wZ (LB htp rfl ?_);simp only [DB,hp];refine wZ (CV hit (by simp) fun h1 q1 b1=>?_)
 exact Ww (s:={ s with heap:=h1 }) hh 2 (by decide) .none b1.extBut ⟨_,q1,rfl⟩ hQ
theorem Ty {I a:xI} {f:xB} {i n ep:Nat} {Q:xB->xC->Prop} (hit:s.heap.get? I=some (Ek f i a n ep)) (h:Q (.ref I) s):wpAny (xW prog w) A (JO (.ref I)) Q E s:=by
 have hT:s.TypeIs (.ref I) "set_iterator" := ⟨_,hit,rfl⟩;refine FS hT bV (zD bV hT iW ?_ (iX _));show wpAny _ _ (ret (.ref I)) _ _ s;exact xA ⟨_,rfl, "set_iterator",_,hT,T8.lookup,h⟩
theorem mZ (hh:A.handled=none) (I a tp:xI) (h1:a≠I) (h2:tp≠I) (o:Obj) (es:Array (Int×xB)) (ep c:Nat) (t:o6) (hd:o.data=.set es ep t) (hf:t.fits es.size=true) (pl:List Nat) (hl:pl.length=es.size) (hp:∀ j∈pl,j < es.size) :
   Walks prog w A I [I,a,tp] [I] es.size (fun i v=>(pl.map fun j=>(es[j]?.map (·.2)).getD .none)[i]? = some v) (fun i h=>h.get? I=some (Ek (.ref tp) i a es.size ep)/\h.get? a=some o/\h.get? tp=some { cls:=.type "tuple",data:=.seq ((pl.map fun j:Nat=>KB (j:Int) 0).toArray) c }) where
 sub:=fun b hb=>by simp at hb; simp [hb]
 frame:=fun _ _ _ st hk=>⟨hk I (by simp) _ st.1,hk a (by simp) _ st.2.1,hk tp (by simp) _ st.2.2⟩
 item:=fun i s Q E hi st hQ=>by
   have hi':i < pl.length:=by lia
   have hj:=hp pl[i] (AO hi'); refine pI (pl:=pl[i]) (hv:=es[pl[i]].1) (x:=es[pl[i]].2) st.1 st.2.1 hd hf st.2.2 (by simp [hi']) (by simp [hj]) fun h' q b=>?_;refine hQ _ h' s.toks ?_ ⟨q,b.extBut a _ h1 st.2.1,b.extBut tp _ h2 st.2.2⟩ fun b' o' hb e=>b.extBut b' o' (fun z=>hb (by simp [z])) e;simp [hi',hj]
 done:=fun s Q E st hQ=>wE hh st.1 st.2.1 hd hf st.2.2 (by simp [hl]) fun h' he=>hQ h' s.toks fun b o hb e=>he b o (fun z=>hb (by simp [z])) e
 self:=fun _ _ _ _ st hQ=>Ty st.1 hQ
theorem mX (hh:A.handled=none) (I a:xI) (h1:a≠I) (o:Obj) (es:Array (Int×xB)) (ep:Nat) (t:o6) (hd:o.data=.set es ep t) (hf:t.fits es.size=true) (hb:w.params.followText "set-order" = true) :
   Walks prog w A I [I,a] [I] es.size (fun i v=>((pickOrder (w.params.setOrder a ep) es).toList.map (·.2))[i]? = some v) (fun i h=>h.get? I=some (Ek (.int 0 0) i a es.size ep)/\h.get? a=some o) where
 sub:=fun b hb=>by simp at hb; simp [hb]
 frame:=fun _ _ _ st hk=>⟨hk I (by simp) _ st.1,hk a (by simp) _ st.2⟩
 item:=fun i s Q E hi st hQ=>by
   have hsz:(pickOrder (w.params.setOrder a ep) es).size=es.size:=by rw [<- yC,(Fx _ es).length_eq,yC]
   have hi':i < (pickOrder (w.params.setOrder a ep) es).size:=by lia
   refine cU (sl:=0) (nx:=0) (x:=(pickOrder (w.params.setOrder a ep) es)[i].2) st.1 st.2 hd hf (fun A E Q q=>Oa hb st.2 hd hf ?_) fun h' q b=>?_
   . rw [xZ hi']; exact q
   refine hQ _ h' s.toks ?_ ⟨q,b.extBut a _ h1 st.2⟩ fun b' o' hb e=>b.extBut b' o' (fun z=>hb (by simp [z])) e;simp [hi']
 done:=fun s Q E st hQ=>by
   have hsz:(pickOrder (w.params.setOrder a ep) es).size=es.size:=by rw [<- yC,(Fx _ es).length_eq,yC]
   refine lW (sl:=0) hh st.1 st.2 hd hf (fun A E Q q=>Oa hb st.2 hd hf ?_) fun h' he=>hQ h' s.toks fun b o hb e=>he b o (fun z=>hb (by simp [z])) e;rw [v8 (by lia)]; exact q
 self:=fun _ _ _ _ st hQ=>Ty st.1 hQ
def Od (xs:Array Nat):Nat->Nat
 | 0=>0
 | i+1=>xs.getD i 0+1
theorem Zf {xs:Array Nat} (hr:xs.toList.Pairwise (· < ·)):∀ {i:Nat},i<=xs.size->CJ xs (Od xs i)=i:=fun {i} hi=>by
 obtain ⟨h1,h2,h3⟩:=Ib xs (Od xs i) hr;have ge:∀ k d,k < xs.size->xs.getD k d=xs.getD k 0:=fun k d hk=>by simp [BR,hk]
 rcases Nat.lt_trichotomy (CJ xs (Od xs i)) i with hl | hl | hl
 . have e:=h3 _ (xL _) (yT hl hi)
   cases i with
   | zero=>lia
   | succ i =>
     rw [ge _ _ (by lia)] at e; rw [show Od xs (i+1)=xs.getD i 0+1 from rfl] at e hl; rcases CZ (CJ xs (xs.getD i 0+1)) i with z | z
     . have:=Df hr (d:=0) z (by lia); lia
     . have z2:CJ xs (xs.getD i 0+1)=i:=by lia
       rw [z2] at e; lia
 . exact hl
 . have e:=h2 i hl
   rw [ge _ _ (by lia)] at e;cases i with
   | zero=>exact absurd e (GB _)
   | succ i=>rw [show Od xs (i+1)=xs.getD i 0+1 from rfl] at e; have:=Df hr (d:=0) (show i < i+1 by lia) (by lia); lia
theorem mY (hh:A.handled=none) (I a:xI) (h1:a≠I) (o:Obj) (es:Array (Int×xB)) (ep:Nat) (t:o6) (hd:o.data=.set es ep t) (hf:t.fits es.size=true) (hb:w.params.followText "set-order" = false) (hdr:(!t.plain&&decide (es.size>1))=false) (hl:t.led=true) (hr:t.place.toList.Pairwise (· < ·)) :
   Walks prog w A I [I,a] [I] es.size (fun i v=>(es.toList.map (·.2))[i]? = some v) (fun i h=>h.get? I=some (Ek (.int (Od t.place i) 0) i a es.size ep)/\h.get? a=some o) where
 sub:=fun b hb=>by simp at hb; simp [hb]
 frame:=fun _ _ _ st hk=>⟨hk I (by simp) _ st.1,hk a (by simp) _ st.2⟩
 item:=fun i s Q E hi st hQ=>by
   have hsz:t.place.size=es.size:=by unfold EM at hf; simp at hf; exact hf.1
   have hi':i < t.place.size:=by lia
   refine cU (sl:=Od t.place i) (nx:=Od t.place (i+1)) (x:=es[i].2) st.1 st.2 hd hf (fun A E Q q=>Rt hb st.2 hd hf hdr hl ?_) fun h' q b=>?_
   . rw [Zf hr (by lia),xZ hi,xZ hi']
     have:Od t.place (i+1)=t.place[i]+1:=by unfold Od; simp [BR,hi']
     rw [this] at q; exact q
   refine hQ _ h' s.toks ?_ ⟨q,b.extBut a _ h1 st.2⟩ fun b' o' hb e=>b.extBut b' o' (fun z=>hb (by simp [z])) e;simp [hi]
 done:=fun s Q E st hQ=>by
   have hsz:t.place.size=es.size:=by unfold EM at hf; simp at hf; exact hf.1
   refine lW (sl:=Od t.place es.size) hh st.1 st.2 hd hf (fun A E Q q=>Rt hb st.2 hd hf hdr hl ?_) fun h' he=>hQ h' s.toks fun b o hb e=>he b o (fun z=>hb (by simp [z])) e;rw [Zf hr (by lia),v8 (xL _)]; exact q
 self:=fun _ _ _ _ st hQ=>Ty st.1 hQ
end
end Sm
end
noncomputable section
namespace Sm
open PySem PySem.W PyProof.Rows
def Jo (w:yR) (t:o6):Prop:=t.led = !(w.params.followText "set-order")/\t.dummies = #[]/\t.place.toList.Pairwise (· < ·)
theorem fD {es:Array (Int×xB)} {pl:List Nat} (h:pl.Perm (zF es.size)):(pl.map fun j=>(es[j]?.map (·.2)).getD .none).Perm (es.toList.map (·.2)):=by
 refine (h.map _).trans ?_;have:(zF es.size).map (fun j=>(es[j]?.map (·.2)).getD .none)=es.toList.map (·.2):=by
   apply IH
   . simp
   . intro i h1 h2
     simp at h1;simp [h1]
 rw [this]
noncomputable section
variable {prog:yD} {w:yR} {A:zI} {E:xB->xC->Prop} {s:xC}
theorem lE {a:xI} {o:Obj} {es:Array (Int×xB)} {ep:Nat} {t:o6} {Q:xB->xC->Prop} (ho:s.heap.get? a=some o) (hex:o.ExactSet) (hd:o.data=.set es ep t) (hf:t.fits es.size=true) (ht:Jo w t) (hz:es.size<=4096) (hh:A.handled=none)
   (hQ:∀ (h1:zN) (d1:Drawn) (I:xI) (fp:List xI) (ord:List xB) (St:Nat->zN->Prop),(∀ b o,s.heap.get? b=some o->h1.get? b=some o)->s.heap.get? I=none->(∀ b∈fp,b=a\/s.heap.get? b=none)->ord.Perm (es.toList.map (·.2)) ->
     Walks prog w A I fp [I] es.size (fun i v=>ord[i]? = some v) St->St 0 h1->Q (.ref I) { s with heap:=h1,drawn:=d1 }):wpAny (xW prog w) A (JO (.ref a)) Q E s:=by
 have hT:s.TypeIs (.ref a) "set" := ⟨o,ho,hex.1⟩;have hlt:a < s.heap.objs.size:=xV ho;refine FS hT F.slot_set_iter (zD F.slot_set_iter hT eT ?_ (F.args_set_iter_1 _));unfold i7.«frozenset.__iter__» Builtin.Frozenset.slot0 JB Builtin.Frozenset.sizeOf setDrawn IK setEpoch;refine wZ (wZ (xA (xA ?_)));refine wZ (wZ (AX ho hd hf (xA ?_)));refine wZ (wZ (yV ho hd hf ?_));refine wZ (wZ (o4 (xA (xA ?_))))
 show wpAny _ _ (if (!(w.params.followText "set-order")&&(!t.plain&&decide (es.size>1)))=true then _ else _) _ _ _;cases hb:w.params.followText "set-order" with
 | true =>
   refine k6 (fun h=>by cases h) fun _=>wZ (xA ?_);refine wZ (wZ (yV ho hd hf (xA ?_))); refine wZ (zC (xA ⟨_,rfl, "set_iterator",_,⟨_,xQ _ rfl,rfl⟩,T8.lookup,?_⟩)); exact hQ (s.heap.push (Ek (.int 0 0) 0 a es.size ep)) s.drawn s.heap.objs.size _ _ _ (fun b o e=>xE _ e) (j6 (xL _)) (fun b hb=>by
     rcases xD.mp hb with rfl | hb
     . exact .inr (j6 (xL _))
     . exact .inl (xM.mp hb)) ((Fx _ es).map _) (mX hh _ a (yN hlt) o es ep t hd hf hb) ⟨xQ _ rfl,xE _ ho⟩
 | false =>
   have hl:t.led=true:=by rw [ht.1,hb]; rfl
   cases hp:(!t.plain&&decide (es.size>1)) with
   | false =>
     refine k6 (fun h=>by cases h) fun _=>wZ (xA ?_);refine wZ (wZ (yV ho hd hf (xA ?_))); refine wZ (zC (xA ⟨_,rfl, "set_iterator",_,⟨_,xQ _ rfl,rfl⟩,T8.lookup,?_⟩)); exact hQ (s.heap.push (Ek (.int 0 0) 0 a es.size ep)) s.drawn s.heap.objs.size _ _ _ (fun b o e=>xE _ e) (j6 (xL _)) (fun b hb=>by
       rcases xD.mp hb with rfl | hb
       . exact .inr (j6 (xL _))
       . exact .inl (xM.mp hb)) (j0 _) (mY hh _ a (yN hlt) o es ep t hd hf hb hp hl ht.2.2) ⟨xQ _ rfl,xE _ ho⟩
   | true =>
     refine k6 (fun _=>?_) fun h=>absurd rfl h;refine wZ (Dl _ _ _ _ (by simp) fun pl d hpl=>?_);unfold newTuple; have hplen:pl.length=es.size:=by rw [hpl.length_eq]; simp
     refine wZ (zC ?_ (by show (KU _).size<=_; rw [AJ]; simp; lia));refine wZ (wZ (yV (s:={ s with heap:=s.heap.push _,drawn:=d }) (xE _ ho) hd hf (xA ?_))); refine wZ (zC (xA ⟨_,rfl, "set_iterator",_,⟨_,xQ _ rfl,rfl⟩,T8.lookup,?_⟩)); have hsz:∀ o:Obj,(s.heap.push o).objs.size=s.heap.objs.size+1:=fun o=>ET ..;refine hQ _ d _ [(s.heap.push { cls:=.type "tuple",data:=.seq ((pl.map fun j:Nat=>KB (j:Int) 0).toArray) 0 }).objs.size,a,s.heap.objs.size] _ _ (fun b o e=>xE _ (xE _ e)) (j6 (by rw [hsz]; lia)) (fun b hb=>?_) (fD hpl)
       (mZ hh _ a s.heap.objs.size (by rw [hsz]; exact yN (FH hlt)) (by rw [hsz]; exact yN (DX _)) o es ep 0 t hd hf pl hplen (fun j hj=>m3.mp (hpl.mem_iff.mp hj))) ⟨xQ _ rfl,xE _ (xE _ ho),xE _ (xQ _ rfl)⟩
     rcases xD.mp hb with rfl | hb
     . exact .inr (j6 (by rw [hsz]; lia))
     rcases xD.mp hb with rfl | hb
     . exact .inl rfl
     . rw [xM.mp hb]; exact .inr (j6 (xL _))
end
end Sm
end
noncomputable section
namespace Sm
open PySem PySem.W PyProof.Rows
noncomputable section
variable {prog:yD} {w:yR} {A:zI} {E:xB->xC->Prop} {s:xC}
theorem lM {r:xI} {Q:Bool->xC->Prop} (hT:s.TypeIs (.ref r) "set") (h:Q false s):wpAny (xW prog w) A (HI (.ref r)) Q E s:=by
 unfold HI;refine wZ (w8 hT PySem.F.slot_set_len.lookup ?_);generalize hid:("set.__len__" : String)=z
 wp_delta
 rw [show splitId z=some ("set", "__len__") from by subst hid; decide +kernel];subst hid;refine wZ (CD (T := "set") (b:=true) hT (by rw [BY]; kernel_rfl) ?_);refine k6 (fun hab=>absurd hab (by decide)) (fun _=>k6 (fun _=>?_) (fun hab=>absurd (by decide +kernel) hab));exact wZ (DP hT (xA h))
theorem Lp {a:xI} {o:Obj} {es:Array (Int×xB)} {ep:Nat} {t:o6} {Q:List xB->xC->Prop} (ho:s.heap.get? a=some o) (hex:o.ExactSet) (hd:o.data=.set es ep t) (hf:t.fits es.size=true) (ht:Jo w t) (hz:es.size<=4096) (hh:A.handled=none)
   (hQ:∀ (h1:zN) (d1:Drawn) tk (ord:List xB),(∀ b o,s.heap.get? b=some o->h1.get? b=some o)->ord.Perm (es.toList.map (·.2))->Q ord { s with heap:=h1,drawn:=d1,toks:=tk }):wpAny (xW prog w) A (collect (.ref a)) Q E s:=by
 have hlt:a < s.heap.objs.size:=xV ho;have hzl:es.size<=sizeLine:=by rw [AJ]; omega
 have hnS:s.heap.get? s.heap.objs.size=none:=j6 (xL _);let hp:=s.heap.push { cls:=.type "list",data:=.seq ([]:List xB).toArray };have hS:hp.get? s.heap.objs.size=some { cls:=.type "list",data:=.seq #[] 0 }:=xQ _ rfl;have ho':hp.get? a=some o:=xE _ ho;unfold collect;refine wZ (LC (k7 F.entry_proto_collect ?_));rw [e9 F.plain_proto_collect _];refine wZ (zC (xA ⟨CO F.plain_list_iadd _,k7 F.entry_list_iadd ?_⟩));rw [e9 F.plain_list_iadd _]
 show wpAny _ _ (HJ (.ref s.heap.objs.size) (.ref a) (.ref s.heap.objs.size)) _ _ { s with heap:=hp };unfold HJ;have hT:EY { s with heap:=hp } (.ref a) "set" := ⟨o,ho',hex.1⟩;refine wZ (DP hT ?_);have h1:HZ (.ref s.heap.objs.size) (.ref a)=false:=by simp [HZ]; exact BC hlt
 rw [h1,show (AT "set" == AT "list")=false from by decide,show (AT "set" == AT "tuple")=false from by decide];simp only [FI,xY,if_false];refine wZ (lE (s:={ s with heap:=hp }) ho' hex hd hf ht hz hh fun h1 d1 I fp ord St hk hI hfp hord W st=>?_);refine wZ (zE (lM (s:={ s with heap:=h1,drawn:=d1 }) ⟨o,hk _ _ ho',hex.1⟩ ?_));have hS1:=hk _ _ hS;have hSf:s.heap.objs.size∉fp:=fun hb=>by
   rcases hfp _ hb with e | e
   . exact absurd (show s.heap.objs.size=a from e) (BC hlt)
   . rw [show hp.get? s.heap.objs.size=none from e] at hS; cases hS
 have key : ∀ (h : zN) (c : Nat), St 0 h -> (∀ b o, s.heap.get? b = some o -> h.get? b = some o) -> h.get? s.heap.objs.size = some { cls := .type "list", data := .seq #[] c } ->
     EJ (xW prog w) A (.builtin "list.extend.loop" ⟨[.ref s.heap.objs.size,.ref I,.ref s.heap.objs.size],[]⟩) (wants (fun v s'=>v=.ref s.heap.objs.size/\∃ h1 d1 tk acc c',s'={ s with heap:=h1,drawn:=d1,toks:=tk }/\(∀ b o,s.heap.get? b=some o->h1.get? b=some o)/\h1.get? s.heap.objs.size=some { cls:=.type "list",dict:=none,data:=.seq acc c',slots := #[] }/\ItemsOf (fun i v=>ord[i]? = some v) acc es.size) E) { s with heap:=h,drawn:=d1 }:=by
   intro h c hst hk2 hc; refine codeAny_extend_loopS W.toS hzl s.heap.objs.size hSf (.ref s.heap.objs.size) es.size 0 _ #[] c rfl (c7 _) hst hc (ItemsOf.nil _) fun s' acc' c' hm hS' hacc=>?_;rw [Moved.eq_with hm]; refine ⟨rfl,s'.heap,d1,s'.toks,acc',c',rfl,fun b o e=>hm.heap b o (fun hmem=>?_) (hk2 b o e),hS',hacc⟩;rcases xD.mp hmem with e' | hmem
   . rw [e',hnS] at e; cases e
   . have hI':hp.get? I=none:=hI
     rw [xM.mp hmem] at e; rw [show hp.get? I=some o from xE _ e] at hI'; cases hI'
 have fin : ∀ (r : Result) (s' : xC), wants (fun v s' => v = .ref s.heap.objs.size /\ ∃ h1 d1 tk acc c', s' = { s with heap := h1, drawn := d1, toks := tk } /\ (∀ b o, s.heap.get? b = some o -> h1.get? b = some o) /\ h1.get? s.heap.objs.size = some { cls := .type "list", dict := none, data := .seq acc c', slots := #[] } /\ ItemsOf (fun i v => ord[i]? = some v) acc es.size) E r s' ->
     wants (fun v s'=>wpAny (xW prog w) A (match v with | .ref a=>load a>>=fun o=>(match o.data with | .seq xs _=>pure xs.toList | _=>JZ "internal:collect") | _=>JZ "internal:collect") Q E s') E r s':=fun r s' h=>by
   cases r with
   | error e=>exact h
   | ok fl =>
     cases fl with
     | ret v =>
       obtain ⟨rfl,h2,d2,tk,acc,c',rfl,hk2,hS2,hacc⟩:=h; refine wZ (LD hS2 (xA ?_)); have:acc.toList=ord:=by
         have hol:ord.length=es.size:=by rw [hord.length_eq]; simp
         apply BL;intro j;by_cases hj:j < es.size
         . have hja:j < acc.size:=by rw [hacc.1]; exact hj
           rw [hacc.2 j acc[j] (by simp [hja])]; simp [hja]
         . rw [i8 (by simpa [hacc.1] using n0.mp hj),i8 (by omega)]
       rw [this]; exact hQ h2 d2 tk ord hk2 hord
     | _=>exact h
 refine k6 (fun _=>?_) fun _=>xA ⟨CO F.plain_extend_loop _,AK (key h1 0 st (fun b o e=>hk b o (xE _ e)) hS1) fin⟩;refine wZ (f8 (wZ ?_));show wpAny _ _ (updateSeq s.heap.objs.size (·.push .none)>>=fun _=>updateSeq s.heap.objs.size (·.pop)) _ _ _;refine wZ (wpAny_updateSeq (s:={ s with heap:=h1,drawn:=d1 }) hS1 rfl ?_);have u2:=c6 (CM (·.push k9)) hS1 rfl;refine wpAny_updateSeq (hz:=by seq_fits) u2 rfl ?_;have u3:=c6 (CM (·.pop)) u2 rfl;have oth:∀ b o,b≠s.heap.objs.size->h1.get? b=some o->((h1.update s.heap.objs.size (CM (·.push k9))).update s.heap.objs.size (CM (·.pop))).get? b=some o:=fun b o hb e=>by rw [CT _ _ (Ne.symm hb),CT _ _ (Ne.symm hb)]; exact e
 refine xA ⟨CO F.plain_extend_loop _,AK (key _ _ (W.frame 0 _ _ st fun b hb o e=>oth b o (fun z=>hSf (z▸hb)) e) (fun b o e=>oth b o (fun z=>?_) (hk b o (xE _ e))) u3) fin⟩;rw [z,hnS] at e; cases e
end
end Sm
end
noncomputable section
namespace Sm
open PySem PySem.W PyProof.Rows
theorem eY {t:o6} {hf:Nat->Int} {h:Int} (hd:t.dummies = #[]):∀ (n:Nat) (p:SetTable.Probe) {j:Nat} {dm:Option Nat},p.dummy=none->JG t hf h n p=some (.empty j dm)->dm=none/\t.slot j=.empty:=by
 intro iN; induction iN with
 | zero=>intro _ _ _ _ e; cases e
 | succ n ih =>
   intro p j dm hp e; have ha:(t.advance p).dummy=none:=by unfold SetTable.advance; split <;> exact hp
   unfold JG at e;split at e
   . rename_i hs
     cases e; exact ⟨hp,hs⟩
   . rename_i hs
     exfalso;unfold SetTable.slot at hs; rw [hd,dH] at hs; simp only [xY,if_false] at hs;split at hs <;> cases hs
   . split at e
     . cases e
     . exact ih _ ha e
theorem Dm {w:yR} {t:o6} (h:Jo w t) (n:Nat):Jo w (t.standIn n):=⟨h.1,rfl,by
 show (Array.range n).toList.Pairwise (· < ·);rw [Array.toList_range]; exact FV⟩
theorem iH {w:yR} {t:o6} (T:Jo w t) (es:Array (Int×xB)) (h:Int) (x:xB):Jo w (layNew t es h x).2.1:=by
 unfold layNew;split
 . rename_i sl wd hfr
   have hp:Jo w (t.put sl).1:=by
     unfold SetTable.freeSlot SetTable.probe at hfr;split at hfr
     . rename_i j dm e
       obtain ⟨rfl,hs⟩:=eY T.2.1 _ _ rfl e; cases hfr; refine ⟨T.1,?_,Qv T.2.2 fun hj=>?_⟩
       . show (if SetTable.has t.dummies _ then _ else t.dummies) = #[]
         rw [T.2.1,dH]; rfl
       . obtain ⟨i,hi⟩:=fM hj
         rw [eS T.2.2 (show t.place[i]? = some j from hi)] at hs; cases hs
     . cases hfr
   show Jo w ((t.put sl).1.orStandIn _);unfold SetTable.orStandIn;split
   . exact hp
   . exact Dm hp _
 . exact Dm T _
theorem Zr {w:yR} {t:o6} (T:Jo w t) (es:Array (Int×xB)) (n:Nat):Jo w (JD t es n).2.1:=by
 unfold JD;split
 . rename_i t' ord e
   unfold SetTable.relaid SetTable.laid at e; obtain ⟨ow,e1,e2⟩:=FG.mp e; cases e2; dsimp only;split
   . refine ⟨T.1,rfl,?_⟩
     have:=Pd (KT n - 1) ow; unfold S9 at this; exact l0.mpr this
   . exact Dm T _
 . exact Dm T _
noncomputable section
variable {prog:yD} {w:yR} {K:Type} [DecidableEq K] {knd:KeyKind prog w K} {A:zI} {E:xB->xC->Prop} {s:xC}
def SetT (knd:KeyKind prog w K) (h:zN) (a:xI) (L:List (Int×xB)):Prop :=
 ∃ o es ep t,h.get? a=some o/\o.ExactSet/\o.data=.set es ep t/\es.toList.Perm L/\ElemsOf knd L/\L.length < DD/\t.fits es.size=true/\Jo w t
theorem SetT.store {h:zN} {a:xI} {o:Obj} {es:Array (Int×xB)} {ep:Nat} {t:o6} {L:List (Int×xB)} (ho:h.get? a=some o) (hex:o.ExactSet) (hd:o.data=.set es ep t) {es':Array (Int×xB)} {t':o6}
   (hp:es'.toList.Perm L) (hel:ElemsOf knd L) (hb:L.length < DD) (hf:t'.fits es'.size=true) (T:Jo w t'):∃ o',(h.update a (JX es' t')).get? a=some o'/\o'.ExactSet/\o'.data=.set es' (ep+1) t'/\SetT knd (h.update a (JX es' t')) a L:=by
 have hg:=c6 (JX es' t') ho (by rw [putSet_of es' t' hd]; rfl);rw [putSet_of es' t' hd] at hg;exact ⟨_,hg,hex,rfl,_,es',ep+1,t',hg,hex,rfl,hp,hel,hb,hf,T⟩
theorem addST {a:xI} {L:List (Int×xB)} {k:K} {x:xB} {Q:Bool->xC->Prop} (hkey:knd.is k x=true) (hsc:x.scannable=true) (hS:SetT knd s.heap a L) (hroom:L.length+1 < DD)
   (hQ:∀ h' b,c8 a s.heap h'->SetT knd h' a (if L.any (fun e=>knd.is k e.2) then L else L++[(knd.hash k,x)])->Q b { s with heap:=h' }):wpAny (xW prog w) A (setAddHashed a x (knd.hash k)) Q E s:=by
 obtain ⟨o,es,ep,t,ho,hex,hd,hp,hel,hb,hf,T⟩:=hS;have hel0:ElemsOf knd es.toList:=hel.perm hp;have hsz:es.size=L.length:=by rw [<- hp.length_eq,yC]
 have hany:L.any (fun e=>knd.is k e.2)=es.toList.any (fun e=>knd.is k e.2):=by
   rw [m7,j8,j8]; exact ⟨fun hZ0=>by obtain ⟨e,h1,h2⟩:=hZ0; exact ⟨e,hp.mem_iff.mpr h1,h2⟩,fun hZ0=>by obtain ⟨e,h1,h2⟩:=hZ0; exact ⟨e,hp.mem_iff.mp h1,h2⟩⟩
 unfold setAddHashed setAddHashedIn;refine zE (wZ (yV ho hd hf ?_));dsimp only;rw [byScan_of hsc (by lia) hel0,if_pos rfl];unfold setAddByScan;refine wZ (wZ (f8 (wZ (wpAny_setScan_of hkey ho hd hf hel0 ?_))));cases hr:List.findIdx? (fun e=>knd.is k e.2) es.toList with
 | some j =>
   obtain ⟨hj,hpj,_⟩:=List.findIdx?_eq_some_iff_getElem.mp hr; have:L.any (fun e=>knd.is k e.2)=true:=by rw [hany,j8]; exact ⟨_,AO hj,hpj⟩
   refine xA (xA ?_); have q:=hQ s.heap false (p7 a s.heap); rw [this,if_pos rfl] at q; exact q ⟨o,es,ep,t,ho,hex,hd,hp,hel,hb,hf,T⟩
 | none =>
   have:L.any (fun e=>knd.is k e.2)=false:=by
     rw [hany,FE]; intro e he; rw [List.findIdx?_eq_none_iff.mp hr e he]; decide
   rw [this] at hQ; simp only [xY,if_false] at hQ; have gw:∀ (b:Bool) {s₁:xC} {Q':Unit->xC->Prop},Q' () s₁->wpAny (xW prog w) A (match b with | true=>rule "set.scan.the-table-gave-way" | false=>pure ()) Q' E s₁ :=
     fun b s₁ Q' hq=>by cases b; exact xA hq; exact f8 hq
   have p1:=layNew_perm t es (knd.hash k) x; have f1:=layNew_fits t es (knd.hash k) x; have T1:=iH T es (knd.hash k) x;generalize layNew t es (knd.hash k) x=R at p1 f1 T1 ⊢;obtain ⟨es1,t1,wd,gv⟩:=R; dsimp only at p1 f1 T1 ⊢;rw [Array.toList_push] at p1; have p2:es1.toList.Perm (L++[(knd.hash k,x)]):=p1.trans (hp.append_right _); have el2:ElemsOf knd (L++[(knd.hash k,x)]):=hel.push hkey hsc; have b2:(L++[(knd.hash k,x)]).length < DD:=by simpa using hroom
   have z1:es1.size < DD:=by rw [<- yC,p2.length_eq]; exact b2
   refine wZ (gw _ ?_); have tail : ∀ t2 : o6, t2.fits es1.size = true -> Jo w t2 -> wpAny (xW prog w) A (do
       storeSet a es1 t2
       if (!wd && t2.tooFull) = true then do
           (match (JD t2 es1 (BH es1.size)).2.2 with | true=>rule "set.scan.the-table-gave-way" | false=>pure ())
           storeSet a (JD t2 es1 (BH es1.size)).1 (JD t2 es1 (BH es1.size)).2.1
           pure (some true)
         else pure (some true)) (fun r s'=>∃ h',r=some true/\s'={ s with heap:=h' }/\c8 a s.heap h'/\SetT knd h' a (L++[(knd.hash k,x)])) E s:=fun t2 f2 T2=>by
     refine wZ (DQ ho hd ?_ (BV z1)); obtain ⟨o1,g1,x1,d1,S1⟩:=SetT.store (knd:=knd) ho hex hd p2 el2 b2 f2 T2; have sb1:=zY s.heap a (JX es1 t2);split
     . have p3:=relayAll_perm t2 es1 (BH es1.size)
       have f3:=relayAll_fits t2 es1 (BH es1.size); have T3:=Zr T2 es1 (BH es1.size);generalize JD t2 es1 (BH es1.size)=R at p3 f3 T3 ⊢;obtain ⟨es3,t3,gv3⟩:=R; dsimp only at p3 f3 T3 ⊢;have z3:es3.size < DD:=by rw [<- yC,p3.length_eq,yC]; exact z1
       refine wZ (gw _ (wZ (DQ g1 d1 ?_ (BV z3)))); obtain ⟨_,_,_,_,S3⟩:=SetT.store (knd:=knd) g1 x1 d1 (p3.trans p2) el2 b2 f3 T3; exact xA ⟨_,rfl,rfl,sb1.trans (zY _ a _),S3⟩
     . exact xA ⟨_,rfl,rfl,sb1,S1⟩
   have close:∀ (r:Option Bool) (s':xC),(∃ h',r=some true/\s'={ s with heap:=h' }/\c8 a s.heap h'/\SetT knd h' a (L++[(knd.hash k,x)]))->wpAny (xW prog w) A (match r with | some added=>pure added | none=>setAddHashedIn a x (knd.hash k) 99999) Q E s':=fun r s' hZ2=>by
     obtain ⟨h',e1,e2,sb,S'⟩:=hZ2; subst e1 e2; exact xA (hQ h' true sb S')
   split
   . refine wZ ?_
     rw [hashByValue_scannable 8 hsc]; refine xA (i5 (tail _ ?_ ?_) close fun _ _ e=>e)
     . split
       . exact f1
       . exact SetTable.fits_plain_off f1
     . split
       . exact T1
       . exact T1
   . exact wZ (xA (i5 (tail _ f1 T1) close fun _ _ e=>e))
end
end Sm
end
noncomputable section
namespace Sm
open PySem PySem.W PyProof.Rows
noncomputable section
variable {prog:yD} {w:yR} {K:Type} [DecidableEq K]
noncomputable def IsKs (knd:KeyKind prog w K):List xB->List K->Prop
 | [],ks=>ks=[]
 | v::vs,ks=>∃ k r,ks=k::r/\knd.is k v=true/\IsKs knd vs r
noncomputable def G9 (l:List K) (k:K):List K:=if k∈l then l else l++[k]
noncomputable def Uo (ks:Nat->K):Nat->List K
 | 0=>[]
 | i+1=>G9 (Uo ks i) (ks i)
theorem Xs (ks:Nat->K):∀ i,(Uo ks i).length<=i:=by
 intro iN; induction iN with
 | zero=>skip; exact xL _
 | succ i ih =>
   skip
   have:=ih; unfold Uo G9;split
   . lia
   . simp; lia
theorem IsKs.len {knd:KeyKind prog w K}:∀ {vs:List xB} {ks:List K},IsKs knd vs ks->vs.length=ks.length
 | [],_,h=>by cases (show _=_ from h); rfl
 | v::vs,_,h=>by obtain ⟨k,r,rfl,_,h⟩:=h; simp [h.len]
theorem IsKs.push {knd:KeyKind prog w K} {v:xB} {k:K} (hv:knd.is k v=true):∀ {vs:List xB} {ks:List K},IsKs knd vs ks->IsKs knd (vs++[v]) (ks++[k])
 | [],_,h=>by cases (show _=_ from h); exact ⟨k,[],rfl,hv,rfl⟩
 | u::vs,_,h=>by obtain ⟨k',r,rfl,h1,h⟩:=h; exact ⟨k',_,rfl,h1,h.push hv⟩
theorem IsKs.any {knd:KeyKind prog w K} {k:K}:∀ {vs:List xB} {ks:List K},IsKs knd vs ks->vs.any (fun v=>knd.is k v)=decide (k∈ks)
 | [],_,h=>by cases (show _=_ from h); rfl
 | u::vs,_,h=>by
   obtain ⟨k',r,rfl,h1,h⟩:=h; rw [KH,h.any];by_cases e:k=k'
   . subst e; rw [h1]; simp
   . have : knd.is k u = false := by
       cases c:knd.is k u with
       | false=>rfl
       | true=>exact absurd (knd.inj u k k' c h1) e
     rw [this]; simp [e]
theorem IsKs.perm {knd:KeyKind prog w K} {us vs:List xB} (p:us.Perm vs):∀ {ks:List K},IsKs knd vs ks->∃ ks',ks'.Perm ks/\IsKs knd us ks':=by
 induction p with
 | nil=>exact fun h=>⟨_,j0 _,h⟩
 | cons x _ ih =>
   intro ks h; obtain ⟨k,r,rfl,h1,h⟩:=h; obtain ⟨r',p,h'⟩:=ih h; exact ⟨k::r',p.cons k,k,r',rfl,h1,h'⟩
 | swap x y l =>
   intro ks h; obtain ⟨k,r,rfl,h1,k2,r2,rfl,h2,h⟩:=h; exact ⟨k2::k::r2,FQ ..,k2,_,rfl,h2,k,_,rfl,h1,h⟩
 | trans _ _ ih1 ih2 =>
   intro ks h; obtain ⟨k1,p1,h1⟩:=ih2 h; obtain ⟨k2,p2,h2⟩:=ih1 h1; exact ⟨k2,p2.trans p1,h2⟩
def SetK (knd:KeyKind prog w K) (h:zN) (a:xI) (ks:List K):Prop:=∃ L,SetT knd h a L/\IsKs knd (L.map (·.2)) ks
theorem SetK.at {knd:KeyKind prog w K} {h h':zN} {a:xI} {ks:List K} (S:SetK knd h a ks) (e:∀ o,h.get? a=some o->h'.get? a=some o):SetK knd h' a ks:=by
 obtain ⟨L,⟨o,es,ep,t,ho,r⟩,k⟩:=S;exact ⟨L,⟨o,es,ep,t,e _ ho,r⟩,k⟩
theorem mT {knd:KeyKind prog w K} {A:zI} {E:xB->xC->Prop} {s:xC} {a:xI} {ks:List K} {k:K} {x:xB} {Q:Bool->xC->Prop} (hkey:knd.is k x=true) (hsc:x.scannable=true) (hS:SetK knd s.heap a ks) (hroom:ks.length+1 < DD)
   (hQ:∀ h' b,c8 a s.heap h'->SetK knd h' a (G9 ks k)->Q b { s with heap:=h' }):wpAny (xW prog w) A (setAddHashed a x (knd.hash k)) Q E s:=by
 obtain ⟨L,hT,hK⟩:=hS;have hl:L.length=ks.length:=by rw [<- hK.len,xG]
 refine addST hkey hsc hT (by lia) fun h' b sb hT'=>hQ h' b sb ⟨_,hT',?_⟩;have:L.any (fun e=>knd.is k e.2)=decide (k∈ks):=by rw [<- hK.any,HY]; rfl
 rw [this];unfold G9;by_cases c:k∈ks
 . simp only [c,decide_true,if_true]; exact hK
 . simp only [c,decide_false,xY,if_false,yA]; exact hK.push hkey
end
noncomputable section
variable {prog:yD} {w:yR} {K:Type} [DecidableEq K] {knd:KeyKind prog w K} {A:zI} {R:Result->xC->Prop} {E:xB->xC->Prop} {I:xI} {fp wr:List xI} {G:Array LU->Array LU->Prop} {n:Nat} {P:Nat->xB->Prop} {St:Nat->xC->Prop} {s:xC}
theorem loopG (W:WalksS prog w A.in1 I fp wr G n P St) (S:xI) (hSf:S∉fp) (ks:Nat->K) (hval:∀ i v,P i v->knd.is (ks i) v=true/\v.scannable=true) (hb:n+1 < DD) :
   ∀ (m i:Nat) (s:xC),n - i=m->i<=n->St i s->SetK knd s.heap S (Uo ks i)->(∀ s',Moved (S::wr) G s s'->SetK knd s'.heap S (Uo ks n)->R (.ok (.ret .none)) s') ->
     EJ (xW prog w) A (.builtin "set.update.loop" ⟨[.ref S,.ref I],[]⟩) R s:=by
 intro iN; induction iN with
 | zero =>
   intro i s hk hi hst hS hR; have hin:i=n:=by lia
   subst hin; refine k7 F.entry_set_update_loop ?_; rw [e9 F.plain_set_update_loop _]; show wpAny _ A.in1 (pyNext (.ref I)>>=_) _ _ s;refine wZ (W.done s _ _ hst fun s' hm=>?_);show wpAny _ A.in1 (ret k9) _ _ s';exact xA (hR s' (hm.mono fun b hb=>i3 _ hb) (hS.at fun o e=>hm.heap S o (fun h=>hSf (W.sub _ h)) e))
 | succ m ih =>
   intro i s hk hi hst hS hR; refine k7 F.entry_set_update_loop ?_; rw [e9 F.plain_set_update_loop _]; show wpAny _ A.in1 (pyNext (.ref I)>>=_) _ _ s;refine wZ (W.item i s _ _ (by lia) hst fun v s' hP hst' hm=>?_);obtain ⟨hv,hsc⟩:=hval i v hP; have hS':=hS.at fun o e=>hm.heap S o (fun h=>hSf (W.sub _ h)) e;show wpAny _ A.in1 (holding [v] (setAdd S v)>>=_) _ _ s';unfold setAdd; refine wZ (zE (zE (wZ (knd.pyHash hv ?_)))); refine mT (s:={ s' with toks:=s'.toks+1 }) hv hsc hS' (by have:=Xs ks i; lia) fun h' b hsb hS2=>?_;have sub:∀ b∈wr,b∈S::wr:=fun b hb=>i3 _ hb
   refine xA ⟨CO F.plain_set_update_loop _,ih (i+1) _ (by lia) (by lia) (W.frame _ s' _ _ hst' (BS _) fun b hb o e=>?_) hS2 fun s'' hm'' hS''=>?_⟩
   . rw [hsb.2 b fun h:b=S=>hSf (h▸hb)]; exact e
   . refine hR s'' (Moved.trans W.gtrans ((hm.mono sub).then_heap (BS _) fun b o hb e=>?_) hm'') hS''
     rw [hsb.2 b fun h:b=S=>hb (h▸a8)]; exact e
abbrev Be (w:yR):Obj:={ cls:=.type "set",dict:=none,data:=.set #[] 0 (.fresh 0 0 (!(w.params.followText "set-order"))) }
theorem Xp (a:xB) {Q₁:xB->xC->Prop} (h:Q₁ (.ref s.heap.objs.size) { s with heap:=s.heap.push (Be w) }):EJ (xW prog w) A (.call (.builtin "set.__new__") ⟨[.type "set",a],[]⟩) (wants Q₁ E) s:=by
 refine GY (wZ (AB (F.newCall_set_1 a) (xA ⟨CO F.plain_set_new _,k7 F.entry_set_new ?_⟩)));rw [e9 F.plain_set_new _];unfold i7.«set.__new__» Builtin.Frozenset.newClass;have hsub:=sub_set_self;obtain ⟨hp,g,d,tk,os⟩:=s
 wp_walk
 refine o4 (xA ?_);dsimp only;simp only [newObj];exact wZ (wpAny_alloc (xA (xA h)))
theorem Og {h:zN} {a:xI} (hg:h.get? a=some (Be w)):SetK knd h a [] :=
 ⟨[],⟨_,#[],0,_,hg,⟨rfl,rfl,rfl⟩,rfl,List.Perm.nil,(fun e he=>nomatch he),by decide,rfl,rfl,rfl,JN⟩,rfl⟩
theorem Tb {l:xI} {items:Array xB} {ks:Nat->K} {Q:xB->xC->Prop} (hh:A.handled=none) (hl:s.heap.IsList l items) (hk:∀ i v,items[i]? = some v->knd.is (ks i) v=true/\v.scannable=true) (hn:items.size<=3000)
   (h:∀ (s':xC),s'.gens=s.gens->s'.drawn=s.drawn->s'.os=s.os->(∀ b o,s.heap.get? b=some o->s'.heap.get? b=some o)->SetK knd s'.heap s.heap.objs.size (Uo ks items.size)->Q (.ref s.heap.objs.size) s') :
   wpAny (xW prog w) A (call (.type "set") [.ref l]) Q E s:=by
 obtain ⟨c,tl,hmro⟩:=F.called_set.mro;have hmade:=F.called_set.made;have hsub:=F.called_set.sub;refine wpAny_call (GY ?_);show wpAny _ _ (callAny (.type "set") _) _ _ _;refine xA ⟨EU _ (by decide +kernel),k7 F.entry_type_call ?_⟩;rw [ME (weight_type_call_type "set" [.ref l] []) rfl];have h1:=F.called_set.notType;have h2:=F.called_set.canCreate;have hct:=F.typeCall_set_1 (.ref l)
 repeat (any_goals (first | assumption | wp_step))
 refine AK (Xp (.ref l) (E:=E) (Q₁:=fun obj s₁=>obj=.ref s.heap.objs.size/\s₁={ s with heap:=s.heap.push (Be w) }) ⟨rfl,rfl⟩) fun r s₁ hr=>?_;cases r with
 | error e=>exact hr
 | ok fl =>
   cases fl with
   | ret obj =>
     obtain ⟨rfl,rfl⟩:=hr; have hS:(s.heap.push (Be w)).get? s.heap.objs.size=some (Be w):=xQ _ rfl; have hT:EY { s with heap:=s.heap.push (Be w) } (.ref s.heap.objs.size) "set" := ⟨_,hS,rfl⟩; have hli:=F.called_set.init.lookup; have hbi:=F.called_set.init.bind (.ref s.heap.objs.size)
     repeat (any_goals (first | assumption | wp_step))
     refine AK (HR (R:=wants (fun r s₂=>r=.none/\s₂.gens=s.gens/\s₂.drawn=s.drawn/\s₂.os=s.os/\(∀ b o,s.heap.get? b=some o->s₂.heap.get? b=some o)/\SetK knd s₂.heap s.heap.objs.size (Uo ks items.size)) E)
       F.called_set.init.plain F.entry_set_init (check_set_init_1 hT ?_)) fun r₂ s₂ hr₂=>?_
     . obtain ⟨ol,hol,hcl,nl,hdl⟩:=hl
       obtain ⟨ocls,odict,odata,oslots⟩:=ol; simp only at hcl hdl; subst hcl hdl; have hol':(s.heap.push (Be w)).get? l=some { cls:=.type "list",dict:=odict,data:=.seq items nl,slots:=oslots }:=xE _ hol; have hsls:=F.sub_list_set; have hslf:=F.sub_list_frozenset; have hne:(AT "list" == AT "dict")=false:=by decide
       have hl1:(s.heap.push (Be w)).IsList l items:=⟨_,hol',rfl,nl,rfl⟩; unfold i7.«set.__init__» noKeywords j7;generalize hPI:JO=PI
       wp_walk
       subst hPI; refine IY hl1 (wZ (LC ?_)); have hlS:l < s.heap.objs.size:=xV hol; have hh3:A.in1.in1.in1.handled=none:=by simp [hh]
       have hneI:l≠(s.heap.push (Be w)).objs.size:=by rw [ET]; exact yN (FH hlS)
       have hSf:s.heap.objs.size∉[(s.heap.push (Be w)).objs.size,l]:=by
         rw [ET]; simp only [xD,FO,or_false,not_or];exact ⟨yN (DX _),BC hlS⟩
       refine loopG ((Walks.list hh3 _ l hneI items).toS) s.heap.objs.size hSf ks hk (by show _ < 4096; lia) (items.size - 0) 0 _ (by lia) (c7 _) ⟨⟨_,xQ _ rfl,rfl,rfl⟩,(hl1.push _)⟩ (Og (xE _ hS)) fun s' hm hS'=>?_;show wpAny _ _ _ _ _ _;refine xA ?_; show wpAny _ _ (ret k9) _ _ _;refine xA ⟨rfl,hm.gens,hm.drawn,hm.os,fun b o e=>hm.heap b o (fun hb=>?_) (xE _ (xE _ e)),hS'⟩;have hlt:=xV e; rcases xD.mp hb with e' | hb
       . rw [e'] at hlt; exact z5 _ hlt
       . rw [xM.mp hb,ET] at hlt; exact z5 _ (Nat.lt_of_succ_lt hlt)
     . cases r₂ with
       | error e=>exact hr₂
       | ok fl₂ =>
         cases fl₂ with
         | ret r =>
           obtain ⟨rfl,g1,g2,g3,g4,hS'⟩:=hr₂
           repeat (any_goals (first | assumption | wp_step))
           exact h _ g1 g2 g3 g4 hS'
         | _=>exact hr₂.elim
   | _=>exact hr.elim
end
end Sm
end
noncomputable section
namespace Sm
open PySem PySem.Spec PyProof.Rows PySem.W L2
noncomputable def X0 {K:Type} [DecidableEq K] (l:List K):List K:=l.foldl G9 []
theorem fL {K:Type} [DecidableEq K] (ks:Nat->K):∀ i,Uo ks i=((zF i).map ks).foldl G9 []:=by
 intro iN; induction iN with
 | zero=>skip; exact rfl
 | succ i ih=>skip; rw [IS,yA,FD,<- ih]; rfl
theorem Kn {K:Type} [DecidableEq K] (l:List K) (d:K):Uo (fun i=>l.getD i d) l.length=X0 l:=by
 rw [fL];have:(zF l.length).map (fun i=>l.getD i d)=l:=by
   apply IH
   . simp
   . intro i h1 h2; simp [h2]
 rw [this]; rfl
theorem Pn {K:Type} [DecidableEq K] [Inhabited K] (l:List K):(X0 l).length<=l.length:=by rw [<- Kn l default]; exact Xs _ _
theorem Jj {K:Type} [DecidableEq K] {l:List K} {x:K}:x∈X0 l↔x∈l:=by
 have:∀ (l m:List K),x∈l.foldl G9 m↔x∈m\/x∈l:=fun l=>by
   induction l with
   | nil=>intro m; simp
   | cons y l ih =>
     intro m; rw [v6,ih]; unfold G9;split
     . rename_i hy
       constructor
       . rintro (h | h)
         . exact .inl h
         . exact .inr (.tail _ h)
       . rintro (h | h)
         . exact .inl h
         . rcases xD.mp h with rfl | h
           . exact .inl hy
           . exact .inr h
     . simp [or_assoc]
 rw [X0,this]; simp
theorem Si:∀ {ds:List wY} {ns:List Int},Gr ds=some ns->ds.length=ns.length:=by
 intro iN; induction iN with
 | nil=>intro _ e; cases e; rfl
 | cons d ds ih =>
   intro ns e;cases d with
   | int i =>
     obtain ⟨m,e1,e2⟩:=zM.mp (show (Gr ds).map (i::·)=some ns from e);rw [<- e2,xP,xP,ih e1]
   | _=>cases e
theorem Lh:∀ {ds:List wY} {ns:List Str},F4 ds=some ns->ds.length=ns.length:=by
 intro iN; induction iN with
 | nil=>intro _ e; cases e; rfl
 | cons d ds ih =>
   intro ns e;cases d with
   | str i =>
     obtain ⟨m,e1,e2⟩:=zM.mp (show (F4 ds).map (i::·)=some ns from e);rw [<- e2,xP,xP,ih e1]
   | _=>cases e
theorem iM:∀ {vs:List xB} {ss:List Str},FT vs ss->∀ (i:Nat) (v:xB),vs[i]? = some v->∃ t,v=.str (ss.getD i default) t
 | _,_,.nil,_,_,e=>by cases e
 | _,_,.cons x t h,0,_,e=>by cases e; exact ⟨t,rfl⟩
 | _,_,.cons x t h,i+1,v,e=>iM h i v e
noncomputable def T6:List wY->Option wY
 | [.list ds]=>if ds.length < 64 then match Gr ds with
   | some ns=>some (.list ((Cv (X0 ns)).map .int))
   | none=>match F4 ds with
     | some ss=>some (.list ((L6 (X0 ss)).map .str))
     | none=>none
   else none
 | _=>none
noncomputable section
variable {prog:yD} {w:yR} {A:zI} {E:xB->xC->Prop} {s:xC}
theorem fZ:∀ {vs:List xB} {ks:List Int},IsKs (JE prog w) vs ks->GS vs ks:=by
 intro iN; induction iN with
 | nil=>intro _ h; cases (show _=_ from h); exact .nil
 | cons v vs ih =>
   intro _ h; obtain ⟨k,r,rfl,h1,h⟩:=h; obtain ⟨t,rfl⟩:=Value.isInt_shape h1; exact .cons k t (ih h)
theorem fY:∀ {vs:List xB} {ks:List Str},IsKs (strKind prog w) vs ks->FT vs ks:=by
 intro iN; induction iN with
 | nil=>intro _ h; cases (show _=_ from h); exact .nil
 | cons v vs ih =>
   intro _ h; obtain ⟨k,r,rfl,h1,h⟩:=h; obtain ⟨t,rfl⟩:=LW h1; exact .cons k t (ih h)
theorem nN {a:xI} {ks:List Int} {Q:xB->xC->Prop} (S:SetK (JE prog w) s.heap a ks) (h64:ks.length < 64) (hh:A.handled=none)
   (h:∀ (h1:zN) d1 tk (vs:List xB) (out:Array xB) (ns:List Int),(∀ b o,s.heap.get? b=some o->h1.get? b=some o)->GS out.toList ns->ns.Perm ks->ns.Pairwise (· <= ·) ->
     Q (.ref h1.objs.size) { s with heap:=LF (h1.push (CY "list" vs.toArray 0)) h1.objs.size vs out,drawn:=d1,toks:=tk }) :
   wpAny (xW prog w) A (call (.builtin "sorted") [.ref a]) Q E s:=by
 obtain ⟨L,⟨o,es,ep,t,ho,hex,hd,hp,hel,hb,hf,T⟩,hK⟩:=S;have hl:L.length=ks.length:=by rw [<- hK.len,xG]
 refine EX kind_sorted plain_sorted entry_sorted (args_sorted1 _) (wZ (m:=checkCount "sorted" 1 1 _) (xA (wZ (Lp ho hex hd hf T (by rw [<- yC,hp.length_eq]; lia) hh fun h1 d1 tk vs hk hvs=>?_))));obtain ⟨ks',p1,k1⟩:=hK.perm (hvs.trans (hp.map _));have hvl:vs.length=ks.length:=by rw [k1.len,p1.length_eq]
 have hI:=fZ k1;refine wZ (wpAny_newList ?_ (by rw [AJ]; lia));have hoL:(h1.push (CY "list" vs.toArray 0)).get? h1.objs.size=some (CY "list" vs.toArray 0):=xQ _ rfl;show wpAny _ _ _ _ _ { s with heap:=h1.push (CY "list" vs.toArray 0),drawn:=d1,toks:=tk };refine wZ (zE (zD LG ⟨_,hoL,rfl⟩ KJ (list_sort_tree hoL hI (by lia) fun out ns' a1 a2 a3=>⟨_,rfl,?_⟩) (LJ _)));exact xA ⟨_,rfl,h h1 d1 tk vs out ns' hk a1 (a2.trans p1) a3⟩
theorem nO {a:xI} {ks:List Str} {Q:xB->xC->Prop} (S:SetK (strKind prog w) s.heap a ks) (h64:ks.length < 64) (hh:A.handled=none)
   (h:∀ (h1:zN) d1 tk (vs:List xB) (out:Array xB) (ns:List Str),(∀ b o,s.heap.get? b=some o->h1.get? b=some o)->FT out.toList ns->ns.Perm ks->sortedS ns=true ->
     Q (.ref h1.objs.size) { s with heap:=LF (h1.push (CY "list" vs.toArray 0)) h1.objs.size vs out,drawn:=d1,toks:=tk }) :
   wpAny (xW prog w) A (call (.builtin "sorted") [.ref a]) Q E s:=by
 obtain ⟨L,⟨o,es,ep,t,ho,hex,hd,hp,hel,hb,hf,T⟩,hK⟩:=S;have hl:L.length=ks.length:=by rw [<- hK.len,xG]
 refine EX kind_sorted plain_sorted entry_sorted (args_sorted1 _) (wZ (m:=checkCount "sorted" 1 1 _) (xA (wZ (Lp ho hex hd hf T (by rw [<- yC,hp.length_eq]; lia) hh fun h1 d1 tk vs hk hvs=>?_))));obtain ⟨ks',p1,k1⟩:=hK.perm (hvs.trans (hp.map _));have hvl:vs.length=ks.length:=by rw [k1.len,p1.length_eq]
 have hS:=fY k1;refine wZ (wpAny_newList ?_ (by rw [AJ]; lia));have hoL:(h1.push (CY "list" vs.toArray 0)).get? h1.objs.size=some (CY "list" vs.toArray 0):=xQ _ rfl;show wpAny _ _ _ _ _ { s with heap:=h1.push (CY "list" vs.toArray 0),drawn:=d1,toks:=tk };refine wZ (zE (zD LG ⟨_,hoL,rfl⟩ KJ (list_sort_treeK strKind_oneLt hoL hS.keysOf (fun v₁ v₂ G6 e=>keyKind_strs (by rw [<- e]; exact hS)) (by lia) fun st' hp hs=>⟨_,rfl,?_⟩) (LJ _)));obtain ⟨ss',a1,a2,a3⟩:=sorted_out_str hS hp hs;exact xA ⟨_,rfl,h h1 d1 tk vs _ ss' hk a1 (a2.trans p1) a3⟩
end
theorem Inv.dr {X:Cx} {pins:List (xI×Obj)} {Z:List (Option V)} {H:Hp} {s:xC} (d:Drawn) (I:Inv X pins Z H s):Inv X pins Z H { s with drawn:=d }:=⟨I.ok,I.os,I.bare,I.base,I.loc,I.cell,I.free,I.freeC,I.pin,I.hok,I.len⟩
noncomputable def rM (X:Cx) (a:xI) (ks:List Int):HO:=.ext fun h=>SetK (JE X.prog X.w) h a ks
noncomputable def Ld (X:Cx) (a:xI) (ks:List Str):HO:=.ext fun h=>SetK (strKind X.prog X.w) h a ks
noncomputable section
variable {P:yD} {w:yR} {K:xF} {mg:Str->Option xB} {base:zN} {X:Cx} {N:List Str} {sc:Scope} {k:Nat} {df:Bool} {E:EK} {pos p p1 pos1:Pos} {e:Expr} {fs:Dn->Res (List wY)}
def rSet (X:Cx) (xs:List V) (H:Hp) (Q:VK):Prop:=∃ G ds,Same G H/\RepL G [.list ds] xs/\ds.length < 64 /\
 ((∃ ns,Gr ds=some ns/\∀ a,H a=none->Q (.ref a) (upd H a (rM X a (X0 ns))))\/(∃ ss,F4 ds=some ss/\((∀ x∈ss,yP x=true/\x.length<=sizeLine)->∀ a,H a=none->Q (.ref a) (upd H a (Ld X a (X0 ss))))))
theorem mG (hh:X.A.handled=none):Y7 X (.type "set") (rSet X):=by
 rintro pins s Z H xs us Q I r ⟨G,ds,hG,rl,hl,q⟩;obtain ⟨v,t0,rfl,rv,e0⟩:=rl;cases (show t0=[] from e0);obtain ⟨u,rfl,ru⟩:=r.one;obtain ⟨l,vs,rfl,h1,l1⟩:=rv;cases (show u=zP l from ru);obtain ⟨z,its,n,rr,ho⟩:=Ag I hG h1;have hfr:H s.heap.objs.size=none:=I.hok.fresh (xL _);have fin:∀ (s':xC) (o:HO),s'.gens=s.gens->s'.drawn=s.drawn->s'.os=s.os->(∀ b o,s.heap.get? b=some o->s'.heap.get? b=some o)->ObjOk X.prog X.w (upd H s.heap.objs.size o) s'.heap s.heap.objs.size o->Inv X pins Z (upd H s.heap.objs.size o) s':=fun s' o g1 g2 g3 g4 ok=>by
   obtain ⟨hp,g,d,tk,os⟩:=s';cases g1; cases g2; cases g3;exact I.laid (t':=tk) g4 (xL _) ok
 rcases q with ⟨ns,e1,q⟩ | ⟨ss,e1,q⟩
 . have hI:=repZ l1 rr e1
   have hle:its.length=ns.length:=hI.length; have hln:ns.length=ds.length:=(Si e1).symm; refine Tb (knd:=JE X.prog X.w) (ks:=fun i=>ns.getD i 0) hh ⟨_,ho,rfl,n,rfl⟩ (fun i v hv=>?_) (by simp; lia) fun s' g1 g2 g3 g4 S=>?_
   . obtain ⟨t,rfl⟩:=hI.int_at i v (by simpa using hv)
     exact ⟨by simp [JE,Value.isInt],rfl⟩
   . have S':SetK (JE X.prog X.w) s'.heap s.heap.objs.size (X0 ns):=by rw [<- Kn ns 0,<- hle]; simpa using S
     refine ⟨.ref s.heap.objs.size,_,fin s' (rM X s.heap.objs.size (X0 ns)) g1 g2 g3 g4 ⟨S',?_,fun h1 h2 a b=>SetK.at a b⟩,rfl,q _ hfr⟩;obtain ⟨_,⟨o,_,_,_,ho,_⟩,_⟩:=S'; exact ⟨o,ho⟩
 . obtain ⟨hI,hok⟩:=repT l1 rr e1
   have hst:=hI.strs; have hle:its.length=ss.length:=by have:=congrArg y4 hst; simpa using this
   have hln:ss.length=ds.length:=(Lh e1).symm; refine Tb (knd:=strKind X.prog X.w) (ks:=fun i=>ss.getD i default) hh ⟨_,ho,rfl,n,rfl⟩ (fun i v hv=>?_) (by simp; lia) fun s' g1 g2 g3 g4 S=>?_
   . obtain ⟨t,rfl⟩:=iM hI i v (by simpa using hv)
     exact ⟨by simp [CA,JU],rfl⟩
   . have S':SetK (strKind X.prog X.w) s'.heap s.heap.objs.size (X0 ss):=by rw [<- Kn ss default,<- hle]; simpa using S
     refine ⟨.ref s.heap.objs.size,_,fin s' (Ld X s.heap.objs.size (X0 ss)) g1 g2 g3 g4 ⟨S',?_,fun h1 h2 a b=>SetK.at a b⟩,rfl,q hok _ hfr⟩;obtain ⟨_,⟨o,_,_,_,ho,_⟩,_⟩:=S'; exact ⟨o,ho⟩
def jL (X:Cx) (xs:List V) (H:Hp) (Q:VK):Prop:=∃ a,xs=[.ref a] /\
 ((∃ ks,H a=some (rM X a ks)/\ks.length < 64/\∀ l,H l=none->Q (.ref l) (upd H l (.lst ((Cv ks).map .int))))\/(∃ ks,H a=some (Ld X a ks)/\ks.length < 64/\∀ l,H l=none->Q (.ref l) (upd H l (.lst ((L6 ks).map .str)))))
theorem Jk (hh:X.A.handled=none):Y7 X (.builtin "sorted") (jL X):=by
 rintro pins s Z H xs us Q I r ⟨a,hxs,q⟩;subst hxs;obtain ⟨u,rfl,ru⟩:=r.one;cases (show u=zP a from ru);have fin : ∀ (h1 : zN) d1 tk (vs : List xB) (out : Array xB) (xs : List V), (∀ b o, s.heap.get? b = some o -> h1.get? b = some o) -> xs.length < 64 -> Vals xs out.toList -> (∀ l, H l = none -> Q (.ref l) (upd H l (.lst xs))) ->
     EP X pins Z Q (.ref h1.objs.size) { s with heap:=LF (h1.push (CY "list" vs.toArray 0)) h1.objs.size vs out,drawn:=d1,toks:=tk }:=fun h1 d1 tk vs out xs hk hl hv hq=>by
   have I1:Inv X pins Z H { s with heap:=h1,drawn:=d1,toks:=tk }:=Inv.dr d1 (I.kept (t':=tk) hk); have hfr:H h1.objs.size=none:=I1.hok.fresh (xL _); have ho1:(h1.push (CY "list" vs.toArray 0)).get? h1.objs.size=some (CY "list" vs.toArray 0):=xQ _ rfl; obtain ⟨ee,hat⟩:=sortedHeap_at (out:=out) ho1; refine ⟨.ref h1.objs.size,_,I1.laid (o:=.lst xs) (t':=tk) (fun b o e=>?_) (xL _) ⟨by rw [AJ]; lia,out.toList,ee,hv,by simpa using hat⟩,rfl,hq _ hfr⟩;have hlt:b < h1.objs.size:=xV e; rw [sortedHeap_old (yN hlt) (by rw [size_push']; exact FH hlt)]
   exact xE _ e
 rcases q with ⟨ks,hd,h64,q⟩ | ⟨ks,hd,h64,q⟩
 . obtain ⟨S,_⟩:=I.hok a _ hd
   refine nN S h64 hh fun h1 d1 tk vs out ns hk a1 a2 a3=>?_;have hsrt:ns=Cv ks:=Na (a2.trans (U3 ks).symm) a3 (Ij ks); subst hsrt; exact fin h1 d1 tk vs out _ hk (by rw [xG,(U3 ks).length_eq]; exact h64) (rN a1) q
 . obtain ⟨S,_⟩:=I.hok a _ hd
   refine nO S h64 hh fun h1 d1 tk vs out ns hk a1 a2 a3=>?_;have hsrt:ns=L6 ks:=Jb (a2.trans (E7 ks).symm) (Ny a3) (Fb ks); subst hsrt; exact fin h1 d1 tk vs out _ hk (by rw [xG,(E7 ks).length_eq]; exact h64) (Gy a1) q
theorem Kt {n:Nat} (C:Cxt P w K mg base X N sc k df) (h:okGl sc "sorted" = true) (hm:mg "sorted" = none) (h':okGl sc "set" = true) (hm':mg "set" = none) (ha:DA X E [e] n fs)
   (he:xO [.Call (.Name "set" p1) [e] [] pos1] X.env=(false,eval (.Call (.Name "set" p1) [e] [] pos1) X.env)::xO [] X.env:=by rfl) (hpl:(i6 pos (xO [] X.env)).any (·.1)=false:=by rfl)
   (he':xO [e] X.env=(false,eval e X.env)::xO [] X.env:=by rfl) (hpl':(i6 pos1 (xO [] X.env)).any (·.1)=false:=by rfl):DE X E (.Call (.Name "sorted" p) [.Call (.Name "set" p1) [e] [] pos1] [] pos) (vFn fs T6):=by
 obtain ⟨g1,g2,g3⟩:=okGl.gl C h;obtain ⟨g4,g5,g6⟩:=okGl.gl C h';intro pins s Z H Q I q;have hh:=I.ok.hd C.calm;refine (PE.imp (Jd (Jk hh) g1 (by rw [C.hmg]; exact hm) (by decide +kernel) (L7 (Da (mG hh) g4 (by rw [C.hmg]; exact hm') (by decide +kernel) ha.pa g6 g5 he' hpl') R0 he) g3 g2 he hpl) fun Z H Q hY98=>?_) pins s Z H Q I q;obtain ⟨G,δ,S,aft⟩:=hY98;refine Y6 (W:=fun G H r=>Aft E G H r Q) S aft (fun g a=>Aft.grow g a) (fun c a=>a) (fun a=>a) fun ds vs G1 H1 e g1 r1 S1 a1=>?_;cases e:T6 ds with
 | none=>rw [e] at a1; exact a1.elim
 | some d =>
   rw [e] at a1; unfold T6 at e;split at e
   . rename_i ys hfs
     split at e
     . rename_i hc
       split at e
       . rename_i ns en
         cases e; refine ⟨G1,ys,S1.sub,r1,hc,.inl ⟨ns,en,fun a ha=>⟨a,rfl,.inl ⟨_,B8,?_,fun l hl=>?_⟩⟩⟩⟩
         . have:=Pn ns; have:=Si en; lia
         . have hla:l≠a:=fun z=>by subst z; rw [B8] at hl; cases hl
           have hG1a:G1 a=none:=S1.sub.free ha; refine a1 _ (upd (upd G1 a (rM X a (X0 ns))) l (.lst ((Cv (X0 ns)).map .int))) _ ((Grow.new S1.sub ha).trans (Grow.new (Grow.new S1.sub ha).gh hl)) ⟨_,_,rfl,.inl B8,RepL.ints _⟩
       . rename_i en0
         split at e
         . rename_i ss en
           cases e; refine ⟨G1,ys,S1.sub,r1,hc,.inr ⟨ss,en,fun hok a ha=>⟨a,rfl,.inr ⟨_,B8,?_,fun l hl=>?_⟩⟩⟩⟩
           . have:=Pn ss; have:=Lh en; lia
           . refine a1 _ (upd (upd G1 a (Ld X a (X0 ss))) l (.lst ((L6 (X0 ss)).map .str))) _ ((Grow.new S1.sub ha).trans (Grow.new (Grow.new S1.sub ha).gh hl)) ⟨_,_,rfl,.inl B8,Hh _ fun y hy=>hok y (Jj.mp ((E7 _).mem_iff.mp hy))⟩
         . cases e
     . cases e
   . cases e
end
end Sm
end
noncomputable section
namespace Sm
open PySem PySem.Spec PyProof.Rows PySem.W L2
noncomputable def bind3:wY->Res (List Sl)
 | .tuple [a,b,c]=>.ok [.sh a,.sh b,.sh c]
 | _=>.no
noncomputable def lI:wY->Bool
 | .tuple ds=>ds.all Hs
 | d=>Hs d
theorem RepL.atoms {G G':Hp}:∀ {ds:List wY} {vs:List V},RepL G ds vs->ds.all Hs=true->RepL G' ds vs
 | [],_,r,_=>r
 | d::ds,_,r,h=>by
   obtain ⟨x,t,rfl,r1,r2⟩:=r; rw [List.all_cons,yE] at h; exact ⟨x,t,rfl,r1.atom h.1,RepL.atoms r2 h.2⟩
theorem lP {G H:Hp} (hG:Same G H) {b:xI} {xs:List V} (hx:H b=some (.tup xs)):∃ G',Grow G H G' H/\G' b=some (.tup xs):=by
 cases eb:G b with
 | some u =>
   have:=hG _ _ eb; rw [hx] at this; exact ⟨G,Grow.refl hG,by rw [eb,<- this]⟩
 | none =>
   refine ⟨upd G b (.tup xs),⟨Same.upd eb,Same.refl _,fun c u e=>?_,fun c u e=>?_⟩,B8⟩
   . by_cases hc:c=b
     . subst hc; rw [B8] at e; cases e; exact hx
     . rw [C0 hc] at e; exact hG _ _ e
   . by_cases hc:c=b
     . subst hc; rw [B8] at e; cases e; exact .inr (.inr ⟨_,rfl⟩)
     . rw [C0 hc] at e; exact .inl e
noncomputable def eH (i:Nat) (f:Dn->Res wY):Dn->Res wY:=fun δ=>(f (fz i δ)).bind fun d=>if lI d=true then .ok d else .no
noncomputable section
variable {X:Cx} {E:EK} {e:Expr} {f:Dn->Res wY}
theorem qP (i:Nat) (h:DE X E e f):DE X E e (eH i f):=PE.imp h fun Z H Q ⟨G,δ,S,a⟩=>by
 obtain ⟨G',S'⟩:=S.fz i;refine ⟨G',_,S',?_⟩;unfold eH at a;have g0:∀ {G2 H2:Hp},Grow G' H G2 H2->Grow G H G H2:=fun g=>⟨Same.refl _,g.h,S.sub.trans g.h,fun _ _ z=>.inl z⟩;cases q:f (fz i δ) with
 | ok d =>
   rw [q] at a; simp only [Res.bind] at a;split at a
   . rename_i hd
     intro v G2 H2 g r; have hat:Hs d=true->Q v H2:=fun z=>a v G H2 (g0 g) (r.atom z);cases d with
     | tuple ds =>
       obtain ⟨b,xs,rfl,hb,rl⟩:=r; obtain ⟨G3,g3,h3⟩:=lP (g0 g).gh (g.gh _ _ hb); exact a _ G3 H2 ((g0 g).trans g3) ⟨b,xs,rfl,h3,rl.atoms hd⟩
     | _=>exact hat hd
   . exact (show False from a).elim
 | exc c=>rw [q] at a; exact fun G2 H2 g=>a G H2 (g0 g)
 | no=>rw [q] at a; exact a
end
end Sm
end
noncomputable section
namespace Sm
open PySem PySem.Spec PyProof.Rows PySem.W L2
end Sm
end
noncomputable section
namespace Sm
open PySem PySem.Spec PyProof.Rows PySem.W L2
end Sm
end
noncomputable section
namespace Sm
noncomputable section
open PySem PySem.SetTable
theorem tY {mask:Nat} (f:Lm mask=true) {a e:Nat} (ha:a<=mask) (he:e<=mask):∃ m,m<=mask/\itC mask m a=e:=by
 simp only [Lm,yE,j9,beq_iff_eq,m3,List.contains_iff_mem] at f;obtain ⟨r,hr,er⟩:=Rn mask _ _ _ (f.1 a (by lia));obtain ⟨s,hs,es⟩:=Rn mask _ _ _ (f.1 e (by lia));by_cases c:r<=s
 . refine ⟨s - r,by lia,?_⟩
   rw [<- er,<- Mp,<- es]; congr 1; lia
 . refine ⟨s+(mask+1) - r,by lia,?_⟩
   rw [<- er,<- Mp,<- es]; have:r+(s+(mask+1) - r)=(mask+1)+s:=by lia
   rw [this,Mp,f.2]
theorem lT {mask:Nat} (hm:Lm mask=true) {ow:Array (Option Nat)} {L:List Int} (O:Own mask ow L) (hL:L.length<=mask) (h:Int) :
   ∃ n', layClean.free mask ow (turns mask) (bits h % (mask + 1)) (bits h) = some (stW mask h n').j /\ ow[(stW mask h n').j]? = some none /\
       (∀ m,m < n'->∃ i':Nat,ow[(stW mask h m).j]? = some (some i')):=by
 obtain ⟨e,h1,h2⟩:=O.hole hL;obtain ⟨m,h3,h4⟩:=tY hm (dE mask h 13) h1;have hK:ow[(F8 mask h (13+m)).1]? = some none:=by rw [pQ,h4]; exact h2
 exact gF O.siz h (13+m) hK (turns mask) 0 0 (c7 _) (by unfold turns; lia) rfl (fun m hm=>absurd hm (GB _))
theorem fU {mask:Nat} (hm:Lm mask=true):∀ (R L:List Int) (ow:Array (Option Nat)),Own mask ow L->L.length+R.length<=mask ->
   ∃ ow',Own mask ow' (L++R)/\FW (fun (acc:Option (Array (Option Nat)×Nat)) h=>do
     let (owner,k) <- acc
     let j <- layClean.free mask owner (turns mask) (bits h % (mask+1)) (bits h)
     pure (owner.setIfInBounds j (some k),k+1)) (some (ow,L.length)) R=some (ow',(L++R).length):=by
 intro iN; induction iN with
 | nil=>intro L ow O _; exact ⟨ow,by simpa using O,by simp⟩
 | cons h R ih =>
   intro L ow O hl; simp only [xP] at hl; obtain ⟨n,h1,h2,h3⟩:=lT hm O (by lia) h;obtain ⟨ow',a1,a2⟩:=ih (L++[h]) _ (oW O h2 h3) (by simp; lia);refine ⟨ow',by simpa using a1,?_⟩;rw [v6]; simp only [h1,Option.bind_eq_bind,Option.bind_some,Option.pure_def] at a2 ⊢;simpa using a2
theorem sD {mask:Nat} (hm:Lm mask=true) (hs:Array Int) (hl:hs.size<=mask) (f mv:Nat) (led plain:Bool) :
   ∃ t order,laid mask f mv led plain hs=some (t,order)/\t.led=led/\t.dummies = #[]/\t.place.toList.Pairwise (· < ·)/\order.toList.Perm (zF hs.size)/\t.fits hs.size=true:=by
 obtain ⟨ow,a1,a2⟩:=fU hm hs.toList [] _ (oX mask) (by simpa using hl);have h1:layClean mask hs=some ow:=by
   unfold layClean; rw [<- Array.foldl_toList]; simp only [zG] at a2; rw [a2]; rfl
 have O:Own mask ow hs.toList:=by simpa using a1
 have hp:=fR O;have hlen:(S9 mask ow).length=hs.size:=by simpa using hp.length_eq
 refine ⟨{ mask,place:=((S9 mask ow).map (·.1)).toArray,dummies := #[],finger:=f,led,moves:=mv,plain },((S9 mask ow).map (·.2)).toArray,?_,rfl,rfl,?_,by simpa using hp,?_⟩
 . unfold laid
   rw [h1]; rfl
 . show ((S9 mask ow).map (·.1)).toArray.toList.Pairwise _
   simp only [l0]; exact Pd mask ow
 . simp only [EM,SetTable.fill,xU,xG,hlen,yE,beq_self_eq_true,true_and,decide_eq_true_eq]
   exact hl
theorem kD {es:Array (Int×xB)} {ord:Array Nat} (h:ord.toList.Perm (zF es.size)):(ord.filterMap (es[·]?)).toList.Perm es.toList:=by
 have:=Ug (L:=es.toList) (ord:=ord.toList) (by rw [yC]; exact h);rw [Array.toList_filterMap];have e:(fun k:Nat=>es[k]?)=fun k=>es.toList[k]? := by funext k; simp
 rw [e]; exact this
theorem few6:∀ n,n<=6->Lm (sizeAbove (n*2) - 1)=true/\n<=sizeAbove (n*2) - 1/\sizeAbove (n*2)<=16:=by
 intro n hn;have:∀ k:Fin 7,Lm (sizeAbove (k.1*2) - 1)=true/\k.1<=sizeAbove (k.1*2) - 1/\sizeAbove (k.1*2)<=16:=by decide +kernel
 exact this ⟨n,by lia⟩
end
noncomputable section
open PySem PySem.W PyProof.Rows
variable {prog:yD} {w:yR} {K:Type} [DecidableEq K] {knd:KeyKind prog w K} {A:zI} {E:xB->xC->Prop} {s:xC}
theorem roomT {a:xI} {L:List (Int×xB)} {more:Nat} {Q:Unit->xC->Prop} (hS:SetT knd s.heap a L) (hm:L.length+more<=6)
   (h:∀ h',c8 a s.heap h'->SetT knd h' a L->Q () { s with heap:=h' }):wpAny (xW prog w) A (GO a more) Q E s:=by
 obtain ⟨o,es,ep,t,ho,hex,hd,hp,hel,hb,hf,T⟩:=hS;have hsz:es.size=L.length:=by rw [<- hp.length_eq,yC]
 have hpl:t.place.size=es.size:=by simp only [EM,yE,beq_iff_eq] at hf; exact hf.1
 unfold GO;refine wZ (yV ho hd hf ?_);dsimp only;unfold HL;split
 . rename_i wd hw
   split at hw
   . cases hw
     obtain ⟨k1,k2,k3⟩:=few6 (t.place.size+more) (by lia);obtain ⟨t',order,l1,l3,l4,l5,l6,l7⟩:=sD k1 (es.map (·.1)) (by simp; lia) t.finger (t.movedTo (KT ((t.place.size+more)*2) - 1)) t.led t.plain;rw [Array.size_map] at l6 l7; have pe:=kD (es:=es) l6; have hz:(order.filterMap (es[·]?)).size=es.size:=by have:=pe.length_eq; rw [yC,yC] at this; exact this
     unfold setRelay; refine wZ (yV ho hd hf ?_); dsimp only; rw [if_neg (n0.mpr (BV (show _ < DD by have:DD=4096:=rfl; lia)))];have hrel : t.relaid (es.map (·.1)) ((t.place.size + more) * 2) = some (t', order) := l1; rw [hrel]; refine wZ ?_; show wpAny _ _ (do
         let es':=order.filterMap (es[·]?)
         if es'.size != es.size then JZ "internal:set-table-lost-an-element"
         pure (es',t')) _ _ _
     dsimp only; rw [hz]; simp only [bne_self_eq_false,xY,↓reduceIte]; refine xA ?_; refine DQ ho hd ?_ (BV (by rw [hz,hsz]; exact hb));obtain ⟨_,_,_,_,S'⟩:=SetT.store (knd:=knd) ho hex hd (es':=order.filterMap (es[·]?)) (t':=t') (pe.trans hp) hel hb (by rw [hz]; exact l7) ⟨by rw [l3]; exact T.1,l4,l5⟩;exact h _ (zY s.heap a _) S'
   . cases hw
 . exact xA (h s.heap (p7 a s.heap) ⟨o,es,ep,t,ho,hex,hd,hp,hel,hb,hf,T⟩)
end
end Sm
end
noncomputable section
namespace Sm
open PySem PySem.W PyProof.Rows
noncomputable section
variable {prog:yD} {w:yR} {K:Type} [DecidableEq K] {knd:KeyKind prog w K} {A:zI} {E:xB->xC->Prop} {s:xC}
theorem walkT {a:xI} {L:List (Int×xB)} {Q:Array (Int×xB)->xC->Prop} (hS:SetT knd s.heap a L) (h:∀ es' d,es'.toList.Perm L->Q es' { s with drawn:=d }):wpAny (xW prog w) A (setWalk a) Q E s:=by
 obtain ⟨o,es,ep,t,ho,hex,hd,hp,hel,hb,hf,T⟩:=hS;unfold setWalk IK;refine wZ (yV ho hd hf ?_);refine wZ (wZ (o4 (xA ?_)));by_cases hb':(xW prog w).w.params.followText "set-order" = true
 . simp only [hb',if_true]
   exact wZ (o4 (xA (h _ s.drawn ((Fx _ es).trans hp))))
 . simp only [hb',if_false,xY]
   refine k6 (fun _=>?_) fun _=>?_
   . exact wZ (Dl _ _ _ _ (by simp) fun ys d py=>xA (h _ d (by simpa using py.trans hp)))
   . refine wZ ?_
     show wpAny _ _ (if (!t.led&&decide (es.size>1))=true then _ else _) _ _ _;have hl:t.led=true:=by rw [T.1]; exact (CU _).mpr (Bool.not_eq_true _▸hb':w.params.followText "set-order" = false)
     rw [hl]; exact xA (xA (h es s.drawn hp))
theorem uD {as:List xI} {Q:Bool->xC->Prop} (hS:∀ a∈as,∃ L,SetT knd s.heap a L) (h:Q true s):wpAny (xW prog w) A (setsQuiet as) Q E s:=by
 unfold setsQuiet;refine wZ ?_;refine BA _ (fun G6 r s'=>s'=s/\r=(none,())/\∀ a∈G6,∃ L,SetT knd s.heap a L) _ ?_ ?_ _ _ ⟨rfl,rfl,hS⟩
 . rintro a G6 b s' ⟨rfl,rfl,hr⟩
   obtain ⟨L,o,es,ep,t,ho,hex,hd,hp,hel,hb,hf,T⟩:=hr a (.head _); refine wZ (AX ho hd hf ?_); refine wZ ?_; refine HW _ (fun G6 r s''=>s''=s'/\r=(none,())/\∀ e∈G6,e.2.scannable=true) _ ?_ ?_ _ _ ⟨rfl,rfl,fun e he=>(hel e (hp.mem_iff.mp he)).2⟩
   . rintro ⟨hh,x⟩ rest2 b s'' ⟨rfl,rfl,hx⟩
     have:=hx _ (.head _); dsimp only at this ⊢;split
     . cases this
     . exact xA ⟨rfl,rfl,fun e he=>hx e (.tail _ he)⟩
   . rintro b s'' ⟨rfl,rfl,_⟩
     exact xA ⟨rfl,rfl,fun a ha=>hr a (.tail _ ha)⟩
 . rintro b s' ⟨rfl,rfl,_⟩
   exact xA h
theorem nE {o r:xI} {L L2:List (Int×xB)} {Q:Array (Int×xB)->xC->Prop} (hS:SetT knd s.heap o L) (hR:SetT knd s.heap r L2)
   (h:∀ es' h' d,es'.toList.Perm L->c8 r s.heap h'->SetT knd h' r L2->Q es' { s with heap:=h',drawn:=d }):wpAny (xW prog w) A (setWalkUnseen o [r] (some r)) Q E s:=by
 have hq:∀ a∈[o,r],∃ L,SetT knd s.heap a L:=fun a ha=>by
   rcases xD.mp ha with rfl | ha
   . exact ⟨_,hS⟩
   . rw [xM.mp ha]; exact ⟨_,hR⟩
 have wk:wpAny (xW prog w) A (setWalk o) Q E s:=walkT hS fun es' d hp=>h es' s.heap d hp (p7 r s.heap) hR;obtain ⟨o1,es,ep,t,ho,hex,hd,hp,hel,hb,hf,T⟩:=hS;obtain ⟨o2,es2,ep2,t2,ho2,hex2,hd2,hp2,hel2,hb2,hf2,T2⟩:=hR;unfold setWalkUnseen;refine wZ (yV ho hd hf ?_);dsimp only;refine wZ (wZ (o4 (xA ?_)));refine k6 (fun _=>wk) fun _=>?_;refine wZ (uD hq ?_);simp only [FJ,xY,if_false];refine wZ (f8 ?_);refine wZ (yV ho2 hd2 hf2 ?_);dsimp only
 refine k6 (fun _=>?_) fun _=>?_
 . refine wZ (DQ ho2 hd2 ?_ (BV (by rw [<- yC,hp2.length_eq]; exact hb2)))
   obtain ⟨_,_,_,_,S'⟩:=SetT.store (knd:=knd) ho2 hex2 hd2 (es':=es2) (t':={ t2 with led:=t2.led&&t.led,plain:=t2.plain&&t.plain }) hp2 hel2 hb2 hf2 ⟨by show (t2.led&&t.led)=_; rw [T.1,T2.1,KI],T2.2⟩;exact xA (h es _ s.drawn hp (zY s.heap r _) S')
 . exact xA (h es s.heap s.drawn hp (p7 r s.heap) ⟨o2,es2,ep2,t2,ho2,hex2,hd2,hp2,hel2,hb2,hf2,T2⟩)
theorem Pk (l:List K):∀ (acc:List K),(l.foldl G9 acc).length<=acc.length+l.length:=by
 induction l with
 | nil=>intro acc; exact xL _
 | cons k l ih =>
   intro acc; have:=ih (G9 acc k); have:(G9 acc k).length<=acc.length+1:=by unfold G9; split <;> simp
   simp only [v6,xP]; lia
theorem vL {r o:xI} {ks1 ks2:List K} {each:Sem Unit} {Q:Unit->xC->Prop} (hne:o≠r) (h1:SetK knd s.heap r ks1) (hk1:ks1≠[]) (h2:SetK knd s.heap o ks2) (hl:ks1.length+ks2.length<=6)
   (heach:∀ (s':xC) (Q:Unit->xC->Prop),(∀ ob,s.heap.get? o=some ob->s'.heap.get? o=some ob)->Q () s'->wpAny (xW prog w) A each Q E s')
   (h:∀ h' d (ks2':List K),ks2'.Perm ks2->c8 r s.heap h'->SetK knd h' r (ks2'.foldl G9 ks1)->Q () { s with heap:=h',drawn:=d }):wpAny (xW prog w) A (setMerge r o each) Q E s:=by
 obtain ⟨L1,S1,K1⟩:=h1;obtain ⟨L2,S2,K2⟩:=h2;have l1:L1.length=ks1.length:=by rw [<- K1.len,xG]
 have l2:L2.length=ks2.length:=by rw [<- K2.len,xG]
 have S2':=S2;obtain ⟨o2,es2,ep2,t2,ho2,hex2,hd2,hp2,hel2,hb2,hf2,T2⟩:=S2;have hz2:es2.size=L2.length:=by rw [<- hp2.length_eq,yC]
 unfold setMerge;rw [if_neg (by simpa using fun e=>hne e.symm)];refine wZ (yV ho2 hd2 hf2 ?_);dsimp only;refine k6 (fun he=>?_) fun he=>?_
 . have : ks2 = [] := by
     rw [DL,hz2,l2] at he; exact i4 he
   subst this; exact xA (h s.heap s.drawn [] .nil (p7 r s.heap) ⟨L1,S1,K1⟩)
 refine wZ (roomT S1 (by lia) fun h1 sb1 S1'=>?_);have g2:h1.get? o=some o2:=by rw [sb1.2 o hne]; exact ho2
 have S2h:SetT knd h1 o L2:=⟨o2,es2,ep2,t2,g2,hex2,hd2,hp2,hel2,hb2,hf2,T2⟩;have S1'':=S1';obtain ⟨o1,es1,ep1,t1,ho1,hex1,hd1,hp1,hel1,hb1,hf1,T1⟩:=S1';have hz1:es1.size=L1.length:=by rw [<- hp1.length_eq,yC]
 refine wZ (yV ho1 hd1 hf1 ?_);dsimp only;have hro:t1.road t2=.oneByOne:=by
   unfold SetTable.road; rw [if_pos]; have:t1.place.size=es1.size:=by simp only [EM,yE,beq_iff_eq] at hf1; exact hf1.1
   have hpos:0 < ks1.length:=List.length_pos_iff.mpr hk1; simp only [SetTable.fill,bne_iff_ne,ne_eq];lia
 rw [hro];dsimp only;refine wZ (nE (s:={ s with heap:=h1 }) S2h S1'' fun es' h2 d pe sb2 S1h=>?_);obtain ⟨kr,pk,hkr⟩:=K2.perm (pe.map (·.2));have e0:kr.length=ks2.length:=pk.length_eq;refine wZ ?_;refine HW _ (fun G6 _ s'=>∃ h' acc kr',s'={ s with heap:=h',drawn:=d }/\c8 r s.heap h'/\SetK knd h' r acc/\IsKs knd (G6.map (·.2)) kr'/\ElemsOf knd G6/\kr'.foldl G9 acc=kr.foldl G9 ks1/\acc.length+kr'.length<=6) _ ?_ ?_ _ _
   ⟨h2,ks1,kr,rfl,sb1.trans sb2,⟨L1,S1h,K1⟩,hkr,hel2.perm (pe),rfl,by lia⟩
 . rintro ⟨hh,x⟩ G6 b s' ⟨h',acc,kr',rfl,sb,SK,ik,el,ef,ln⟩
   obtain ⟨k,kr'',rfl,hk,ik'⟩:=ik; obtain ⟨⟨k',hk',eh⟩,hsc⟩:=el.head;cases knd.inj _ _ _ hk hk';cases eh; simp only [xP,v6] at ln ef; refine wZ (zE (mT (s:={ s with heap:=h',drawn:=d }) hk hsc SK (by show _ < 4096; lia) fun h'' b' sb3 SK'=>?_));have keep:∀ ob,s.heap.get? o=some ob->h''.get? o=some ob:=fun ob e=>by rw [sb3.2 o hne,sb.2 o hne]; exact e
   refine wZ (heach _ _ keep ?_); refine wZ (yV (keep _ ho2) hd2 hf2 ?_); simp only [bne_self_eq_false,xY,if_false]; refine xA ⟨h'',G9 acc k,kr'',rfl,sb.trans sb3,SK',ik',el.tail,ef,?_⟩; have:(G9 acc k).length<=acc.length+1:=by unfold G9; split <;> simp
   lia
 . rintro b s' ⟨h',acc,kr',rfl,sb,SK,ik,el,ef,ln⟩
   cases (show kr'=[] from ik);rw [List.foldl_nil] at ef; subst ef; exact xA (h h' d kr pk sb SK)
theorem kW {r o:xI} {ks:List K} {each:Sem Unit} {Q:Unit->xC->Prop} (hne:o≠r) (hg:s.heap.get? r=some (Be w)) (h2:SetK knd s.heap o ks) (hl:ks.length<=3)
   (h:∀ h',c8 r s.heap h'->(ks=[]->h'=s.heap)->SetK knd h' r ks->Q () { s with heap:=h' }):wpAny (xW prog w) A (setMerge r o each) Q E s:=by
 obtain ⟨L2,S2,K2⟩:=h2;have l2:L2.length=ks.length:=by rw [<- K2.len,xG]
 obtain ⟨o2,es2,ep2,t2,ho2,hex2,hd2,hp2,hel2,hb2,hf2,T2⟩:=S2;have hz2:es2.size=L2.length:=by rw [<- hp2.length_eq,yC]
 have fr:(w6 0 0 (!(w.params.followText "set-order"))).fits (#[]:Array (Int×xB)).size=true:=rfl;unfold setMerge;rw [if_neg (by simpa using fun e=>hne e.symm)];refine wZ (yV ho2 hd2 hf2 ?_);dsimp only;refine k6 (fun he=>?_) fun he=>?_
 . have : ks = [] := by
     rw [DL,hz2,l2] at he; exact i4 he
   subst this; exact xA (h s.heap (p7 r s.heap) (fun _=>rfl) (Og hg))
 have hne0:ks≠[]:=fun e=>by
   subst e; apply he;rw [DL,hz2,l2]; rfl
 have rm:∀ Q',Q' () s->wpAny (xW prog w) A (GO r es2.size) Q' E s:=fun Q' q=>by
   unfold GO; refine wZ (yV hg rfl fr ?_); have:(w6 0 0 (!(w.params.followText "set-order"))).roomFor es2.size=none:=by
     unfold HL; rw [if_neg]; show ¬ ((0+es2.size)*5≥7*3);lia
   dsimp only; rw [this]; exact xA q
 refine wZ (rm _ ?_);refine wZ (yV hg rfl fr ?_);dsimp only;have fin:∀ (es':Array (Int×xB)) (t':o6),es'.toList.Perm L2->t'.fits es'.size=true->Jo w t'->wpAny (xW prog w) A (storeSet r es' t') Q E s:=fun es' t' pe hf' T'=>by
   refine DQ hg rfl ?_ (BV (by rw [<- yC,pe.length_eq]; exact hb2));obtain ⟨_,_,_,_,S'⟩:=SetT.store (knd:=knd) hg ⟨rfl,rfl,rfl⟩ rfl (es':=es') (t':=t') pe hel2 hb2 hf' T'; exact h _ (zY s.heap r _) (fun e=>absurd e hne0) ⟨L2,S',K2⟩
 split
 . refine fin es2 _ hp2 hf2 ⟨?_,T2.2⟩
   show ((!(w.params.followText "set-order"))&&t2.led)=_;rw [T2.1,KI]
 . obtain ⟨t',order,a1,a3,a4,a5,a6,a7⟩:=sD full7 (es2.map (·.1)) (by simp; lia) 0 0 ((!(w.params.followText "set-order"))&&t2.led) (true&&t2.plain)
   rw [Array.size_map] at a6 a7; have pe:=kD (es:=es2) a6; have hz:(order.filterMap (es2[·]?)).size=es2.size:=by have:=pe.length_eq; rw [yC,yC] at this; exact this
   have hrel : SetTable.laid (w6 0 0 (!(w.params.followText "set-order"))).mask (w6 0 0 (!(w.params.followText "set-order"))).finger (w6 0 0 (!(w.params.followText "set-order"))).moves ((w6 0 0 (!(w.params.followText "set-order"))).led && t2.led) ((w6 0 0 (!(w.params.followText "set-order"))).plain && t2.plain) (es2.map (·.1)) = some (t', order) := a1; rw [hrel]; refine wZ ?_; show wpAny _ _ (do
       let es':=order.filterMap (es2[·]?)
       if es'.size != es2.size then JZ "internal:set-table-lost-an-element"
       pure (es',t')) _ _ _
   dsimp only; rw [hz]; simp only [bne_self_eq_false,xY,↓reduceIte]; exact xA (fin _ t' (pe.trans hp2) (by rw [hz]; exact a7) ⟨by rw [a3,T2.1,KI],a4,a5⟩)
 . rename_i hc
   exfalso
   revert hc
   unfold SetTable.road; rw [if_neg (by show ¬ ((0+0:Nat) != 0)=true; decide)];split <;> intro hc <;> cases hc
end
end Sm
end
noncomputable section
namespace Sm
open PySem PySem.W PyProof.Rows
noncomputable section
variable {prog:yD} {w:yR} {K:Type} [DecidableEq K] {knd:KeyKind prog w K} {A:zI} {E:xB->xC->Prop} {s:xC}
theorem Va:HQ table "set.__or__" = some i7.«frozenset.__or__» := HP (id' := "frozenset.__or__") ⋯ rfl (by decide +kernel) ⋯
theorem SetK.ty {a:xI} {ks:List K} (S:SetK knd s.heap a ks):s.TypeIs (.ref a) "set" := by
 obtain ⟨L,⟨o,es,ep,t,ho,hex,_⟩,_⟩:=S;exact ⟨o,ho,hex.1⟩
theorem bF {a:xI} {Q:Bool->xC->Prop} (hT:s.TypeIs (.ref a) "set") (h:Q true s):wpAny (xW prog w) A (l9 (.ref a)) Q E s:=by
 have hsub:=sub_set_self;unfold l9;obtain ⟨hp,g,d,tk,os⟩:=s
 wp_walk
 exact h
theorem copyU {o:xI} {ks:List K} {Q:xB->xC->Prop} (h2:SetK knd s.heap o ks) (hl:ks.length<=3)
   (h:∀ h',(∀ b ob,s.heap.get? b=some ob->h'.get? b=some ob)->(ks=[]->h'.get? s.heap.objs.size=some (Be w))->SetK knd h' s.heap.objs.size ks->Q (.ref s.heap.objs.size) { s with heap:=h' }) :
   wpAny (xW prog w) A (DK o) Q E s:=by
 have hT:=h2.ty;have hsub:=sub_set_self;have base:∀ Q':xB->xC->Prop,Q' (.type "set") s->wpAny (xW prog w) A (GT o) Q' E s:=fun Q' q=>by
   unfold GT; obtain ⟨hp,g,d,tk,os⟩:=s
   wp_walk
   exact q
 unfold DK;refine wZ (base _ ?_);unfold newSet IK;refine wZ (wZ (wZ (o4 (xA ?_))));dsimp only;simp only [newObj];refine wZ (wpAny_alloc (xA ?_));refine wZ (xA ?_);have hg:(s.heap.push (Be w)).get? s.heap.objs.size=some (Be w):=xQ _ rfl;have hlt:o < s.heap.objs.size:=by obtain ⟨L,⟨ob,_,_,_,ho,_⟩,_⟩:=h2; exact xV ho
 refine wZ (kW (s:={ s with heap:=s.heap.push (Be w) }) (yN hlt) hg (h2.at fun ob e=>xE _ e) hl fun h' sb e0 S'=>?_);refine xA (h h' (fun b ob e=>?_) (fun e=>by rw [e0 e]; exact hg) S');rw [sb.2 b (yN (xV e))];exact xE _ e
theorem Yj:∀ (l acc:List K),(acc++l).Nodup->l.foldl G9 acc=acc++l:=by
 intro iN; induction iN with
 | nil=>intro acc _; simp
 | cons k l ih =>
   intro acc hn; have hk:k∉acc:=fun hk=>by
     rw [l8] at hn; exact hn.2.2 k hk k (.head _) rfl
   rw [v6]; have e:G9 acc k=acc++[k]:=if_neg hk; rw [e,ih _ (by simpa using hn)]; simp
theorem orU {a b:xI} {ks1 ks2:List K} {Q:xB->xC->Prop} (hne:a≠b) (h1:SetK knd s.heap a ks1) (h2:SetK knd s.heap b ks2) (l1:ks1.length<=3) (l2:ks2.length<=3) (nd:ks2.Nodup)
   (h:∀ h' d (ks2':List K),ks2'.Perm ks2->(∀ c ob,s.heap.get? c=some ob->h'.get? c=some ob)->SetK knd h' s.heap.objs.size (ks2'.foldl G9 ks1)->Q (.ref s.heap.objs.size) { s with heap:=h',drawn:=d }) :
   wpAny (xW prog w) A (GH .BitOr (.ref a) (.ref b)) Q E s:=by
 refine wpAny_binaryOp_same (T := "set") (id := "set.__or__") h1.ty h2.ty F.fills_set_or F.slot_set_or ?_;refine zD F.slot_set_or h1.ty Va ?_ (F.args_set_or_2 _ _);show wpAny _ _ (HD "__or__" ⟨[.ref a,.ref b],[]⟩>>=_) _ _ _;unfold HD JB;refine wZ (wZ (xA (xA ?_)));show wpAny _ _ ((l9 (.ref a) <&&> l9 (.ref b))>>=_) _ _ _;refine wZ (wZ (bF h1.ty ?_));refine bF h2.ty ?_;rw [if_neg (by decide)];refine wZ (xA (wZ ?_));show wpAny _ _ (do
   let result <- DK a
   if (zP b) != .ref a then holding [result] (j7 (toString "frozenset." ++ toString "__or__") (<- Builtin.Frozenset.addrOf result) (.ref b))
   pure result) _ _ _
 refine wZ (copyU h1 l1 fun h' ex e0 S1=>?_);have hb:(zP b != zP a)=true:=by
   rw [bne_iff_ne]; intro e; cases e; exact hne rfl
 rw [hb];simp only [if_true];have S2:SetK knd h' b ks2:=h2.at fun ob e=>ex _ _ e;have hbr:b≠s.heap.objs.size:=by obtain ⟨L,⟨ob,_,_,_,ho,_⟩,_⟩:=h2; exact yN (xV ho)
 refine wZ (xA (wZ (zE ?_)));unfold j7;refine wZ (bF (s:={ s with heap:=h' }) S2.ty ?_);simp only [if_true];refine wZ (xA ?_);unfold Builtin.Frozenset.merge;have S2':=S2;obtain ⟨L,⟨ob,es,ep,t,ho,hex,hd,hp,hel,hlb,hf,T⟩,hK⟩:=S2';refine wZ (wpAny_setEpoch_of (s:={ s with heap:=h' }) ho hd hf ?_);by_cases c:ks1=[]
 . subst c
   refine kW (s:={ s with heap:=h' }) hbr (e0 rfl) S2 l2 fun h'' sb _ S'=>?_;refine xA (xA ⟨_,rfl,(fun e=>nomatch e),h h'' s.drawn ks2 (.refl _) (fun c ob e=>?_) ?_⟩)
   . rw [sb.2 c (yN (xV e))]; exact ex _ _ e
   . rw [Yj ks2 [] (by simpa using nd)]; exact S'
 . refine vL (s:={ s with heap:=h' }) hbr S1 c S2 (by lia) (fun s' Q' kp q=>?_) fun h'' d ks2' pk sb S'=>?_
   . unfold Builtin.Frozenset.unchanged
     refine wZ (wpAny_setEpoch_of (kp _ ho) hd hf ?_); simp only [bne_self_eq_false,xY,if_false]; exact xA q
   . refine xA (xA ⟨_,rfl,(fun e=>nomatch e),h h'' d ks2' pk (fun c ob e=>?_) S'⟩)
     rw [sb.2 c (yN (xV e))]; exact ex _ _ e
end
end Sm
end
noncomputable section
namespace Sm
open PySem PySem.W PyProof.Rows
noncomputable section
variable {prog:yD} {w:yR} {A:zI} {E:xB->xC->Prop} {s:xC}
theorem hJ {id:String} {S d:xI} {od:Obj} {es:Array zL} {ep:Nat} {ks:List Str} {Q:Unit->xC->Prop} (lo:(d==o0)=false) (ho:s.heap.get? d=some od) (hcl:od.cls=.type "dict") (hdd:od.data=.dict es ep)
   (hS:s.heap.get? S=some (Be w)) (hne:d≠S) (hk:∀ (i:Nat) (e:zL),es[i]? = some e->∃ k t,ks[i]? = some k/\e.key=.str k t/\e.hash=hashStr w k) (hz:es.size=ks.length) (hn:ks.length<=3) (nd:ks.Nodup)
   (h:∀ h',c8 S s.heap h'->SetK (CA prog w) h' S ks->Q () { s with heap:=h' }):wpAny (xW prog w) A (j7 id S (.ref d)) Q E s:=by
 have hsls:=F.sub_dict_set;have hslf:=F.sub_dict_frozenset;have hTd:s.TypeIs (.ref d) "dict" := ⟨_,ho,hcl⟩;have notSet:∀ Q':Bool->xC->Prop,Q' false s->wpAny (xW prog w) A (l9 (.ref d)) Q' E s:=fun Q' q=>by
   unfold l9; obtain ⟨hp,g,d,tk,os⟩:=s
   wp_walk
   exact q
 unfold j7;refine wZ (notSet _ ?_);simp only [xY,if_false];refine wZ (DP hTd ?_);simp only [beq_self_eq_true,if_true];refine wZ (f8 ?_);refine wZ (xA ?_);rw [lo];simp only [xY,if_false];refine wZ (zZ ho hdd ?_);refine wZ (p0 ho hdd ?_);have fr:(w6 0 0 (!(w.params.followText "set-order"))).fits (#[]:Array (Int×xB)).size=true:=rfl;have rm:∀ Q',Q' () s->wpAny (xW prog w) A (GO S es.size) Q' E s:=fun Q' q=>by
   unfold GO; refine wZ (yV hS rfl fr ?_); have:(w6 0 0 (!(w.params.followText "set-order"))).roomFor es.size=none:=by
     unfold HL; rw [if_neg]; show ¬ ((0+es.size)*5≥7*3);lia
   dsimp only; rw [this]; exact xA q
 refine wZ (rm _ ?_);refine wZ (p0 ho hdd ?_);refine wZ ?_;rw [Std.Legacy.Range.forIn_eq_forIn_range'];simp only [Std.Legacy.Range.size,Nat.sub_zero,Nat.add_sub_cancel,Nat.div_one];refine BA _ (fun G6 _ s'=>∃ h' i,s'={ s with heap:=h' }/\G6=List.range' i (es.size - i)/\i<=es.size/\c8 S s.heap h'/\SetK (CA prog w) h' S (ks.take i)) _ ?_ ?_ _ _
   ⟨s.heap,0,rfl,by simp,c7 _,p7 _ _,by simpa using Og hS⟩
 . rintro x G6 b s' ⟨h',i,rfl,hr,hi,sb,SK⟩
   have hlt:i < es.size:=by
     rcases CZ i es.size with h | h
     . exact h
     . rw [Nat.sub_eq_zero_of_le h] at hr; simp at hr
   have e1:es.size - i=(es.size - (i+1))+1:=by lia
   rw [e1,List.range'_succ] at hr; cases hr; have hd':h'.get? d=some od:=by rw [sb.2 d hne]; exact ho
   refine wZ (p0 hd' hdd ?_); obtain ⟨k,t,hk1,hk2,hk3⟩:=hk x es[x] (by rw [xZ hlt]);rw [xZ hlt]; dsimp only; rw [hk2,hk3]; refine wZ (zE (mT (knd:=CA prog w) (s:={ s with heap:=h' }) (k:=k) (by simp [CA,JU]) rfl SK (by show _ < 4096; rw [n6]; lia) fun h'' b' sb' SK'=>?_));refine wZ (zZ (by rw [sb'.2 d hne]; exact hd') hdd ?_);simp only [bne_self_eq_false,xY,if_false]; refine xA ⟨h'',x+1,rfl,rfl,hlt,sb.trans sb',?_⟩; have hki:x < ks.length:=by lia
   have hkk:ks[x]=k:=by rw [yU hki] at hk1; exact zB hk1
   have ht:ks.take (x+1)=ks.take x++[k]:=by rw [List.take_succ,yU hki,hkk]; rfl
   have hnk:k∉ks.take x:=fun hm=>by
     rw [<- List.take_append_drop (x+1) ks,ht] at nd; have:=(l8.mp (l8.mp nd).1).2.2 k hm k (.head _); exact this rfl
   rw [ht]; unfold G9 at SK'; rw [if_neg hnk] at SK'; exact SK'
 . rintro b s' ⟨h',i,rfl,hr,hi,sb,SK⟩
   have:i=es.size:=by
     have:=congrArg y4 hr; simp at this; lia
   subst this; rw [hz,List.take_length] at SK; exact xA (h h' sb SK)
theorem gO {d:xI} {od:Obj} {es:Array zL} {ep:Nat} {ks:List Str} {Q:xB->xC->Prop} (lo:(d==o0)=false) (ho:s.heap.get? d=some od) (hcl:od.cls=.type "dict") (hdd:od.data=.dict es ep)
   (hk:∀ (i:Nat) (e:zL),es[i]? = some e->∃ k t,ks[i]? = some k/\e.key=.str k t/\e.hash=hashStr w k) (hz:es.size=ks.length) (hn:ks.length<=3) (nd:ks.Nodup)
   (h:∀ h',(∀ b o,s.heap.get? b=some o->h'.get? b=some o)->SetK (CA prog w) h' s.heap.objs.size ks->Q (.ref s.heap.objs.size) { s with heap:=h' }) :
   wpAny (xW prog w) A (call (.type "set") [.ref d]) Q E s:=by
 obtain ⟨c,tl,hmro⟩:=F.called_set.mro;have hmade:=F.called_set.made;have hsub:=F.called_set.sub;refine wpAny_call (GY ?_);show wpAny _ _ (callAny (.type "set") _) _ _ _;refine xA ⟨EU _ (by decide +kernel),k7 F.entry_type_call ?_⟩;rw [ME (weight_type_call_type "set" [.ref d] []) rfl];have h1:=F.called_set.notType;have h2:=F.called_set.canCreate;have hct:=F.typeCall_set_1 (.ref d)
 repeat (any_goals (first | assumption | wp_step))
 refine AK (Xp (.ref d) (E:=E) (Q₁:=fun obj s₁=>obj=.ref s.heap.objs.size/\s₁={ s with heap:=s.heap.push (Be w) }) ⟨rfl,rfl⟩) fun r s₁ hr=>?_;cases r with
 | error e=>exact hr
 | ok fl =>
   cases fl with
   | ret obj =>
     obtain ⟨rfl,rfl⟩:=hr; have hS:(s.heap.push (Be w)).get? s.heap.objs.size=some (Be w):=xQ _ rfl; have hT:EY { s with heap:=s.heap.push (Be w) } (.ref s.heap.objs.size) "set" := ⟨_,hS,rfl⟩; have hli:=F.called_set.init.lookup; have hbi:=F.called_set.init.bind (.ref s.heap.objs.size)
     repeat (any_goals (first | assumption | wp_step))
     refine AK (HR (R:=wants (fun r s₂=>r=.none/\∃ h',s₂={ s with heap:=h' }/\(∀ b o,s.heap.get? b=some o->h'.get? b=some o)/\SetK (CA prog w) h' s.heap.objs.size ks) E)
       F.called_set.init.plain F.entry_set_init (check_set_init_1 hT ?_)) fun r₂ s₂ hr₂=>?_
     . have hol':(s.heap.push (Be w)).get? d=some od:=xE _ ho
       have hTd:EY { s with heap:=s.heap.push (Be w) } (.ref d) "dict" := ⟨_,hol',hcl⟩; have hdS:d≠s.heap.objs.size:=yN (xV ho); unfold i7.«set.__init__» noKeywords;generalize hU:j7=U
       wp_walk
       subst hU; refine hJ (s:={ s with heap:=s.heap.push (Be w) }) lo hol' hcl hdd hS hdS hk hz hn nd fun h' sb S'=>?_;show wpAny _ _ (ret k9) _ _ _;refine xA ⟨rfl,h',rfl,fun b o e=>?_,S'⟩;rw [sb.2 b (yN (xV e))]; exact xE _ e
     . cases r₂ with
       | error e=>exact hr₂
       | ok fl₂ =>
         cases fl₂ with
         | ret r =>
           obtain ⟨rfl,h',rfl,g4,hS'⟩:=hr₂
           repeat (any_goals (first | assumption | wp_step))
           exact h _ g4 hS'
         | _=>exact hr₂.elim
   | _=>exact hr.elim
end
end Sm
end
noncomputable section
namespace Sm
open PySem PySem.Spec PyProof.Rows PySem.W L2
theorem Jh {K:Type} [DecidableEq K] {x:K}:∀ (l acc:List K),x∈l.foldl G9 acc↔x∈acc\/x∈l:=by
 intro iN; induction iN with
 | nil=>intro acc; simp
 | cons k l ih =>
   intro acc; rw [v6,ih]; unfold G9;split
   . rename_i hk
     rw [xD]; exact ⟨fun h=>h.elim .inl fun h=>.inr (.inr h),fun h=>h.elim .inl fun h=>h.elim (fun e=>.inl (e▸hk)) .inr⟩
   . rw [xK,xM,xD,or_assoc]
theorem dJ {K:Type} [DecidableEq K]:∀ (l acc:List K),acc.Nodup->(l.foldl G9 acc).Nodup:=by
 intro iN; induction iN with
 | nil=>intro acc h; exact h
 | cons k l ih =>
   intro acc h; rw [v6]; refine ih _ ?_; unfold G9;split
   . exact h
   . rename_i hk
     rw [l8]; exact ⟨h,by simp,fun a ha b hb e=>hk (by rw [xM] at hb; rw [<- hb,<- e]; exact ha)⟩
theorem gI {K:Type} [DecidableEq K] {l l' acc:List K} (p:l'.Perm l) (h:acc.Nodup):(l'.foldl G9 acc).Perm (l.foldl G9 acc) :=
 (EO (dJ _ _ h) (dJ _ _ h)).mpr fun x=>by rw [Jh,Jh,p.mem_iff]
noncomputable section
variable {X:Cx} {a b:Expr} {ta tb:TE} {pos:Pos}
def rSetD (X:Cx) (xs:List V) (H:Hp) (Q:VK):Prop:=∃ d kk ss,xs=[.ref d]/\Rd H d (.dN kk)/\kk.map (·.1)=ss.map zU/\ss.length<=3/\(ss.Nodup->∀ a,H a=none->Q (.ref a) (upd H a (Ld X a ss)))
theorem Ta:Y7 X (.type "set") (rSetD X):=by
 rintro pins s Z H xs us Q I r ⟨d,kk,ss,hx,hd,hkk,h3,q⟩;subst hx;obtain ⟨u,rfl,ru⟩:=Vals.one r;cases (show u=zP d from ru);obtain ⟨z,lo,nd,nk,ys,rel,ep,ho⟩:=hd.ok I.hok;have hS:=Hv (w:=X.w) rel hkk;have hlen:(P3 X.w kk ys).length=ss.length:=by have:=hS.strs; rw [<- this]; simp
 have hfr:H s.heap.objs.size=none:=I.hok.fresh (xL _);have nds:ss.Nodup:=by
   rw [hkk] at nd; exact (l0.mp nd).imp fun h e=>h (congrArg _ e)
 refine gO (ks:=ss) lo ho rfl rfl (fun i e he=>?_) (by simpa using hlen) h3 nds fun h' ex S'=>?_
 . obtain ⟨p,v,e1,e2,⟨⟨v',kr,rv⟩,_⟩,rfl⟩:=Fz rel (by simpa using he)
   have hk:(ss.map zU)[i]? = some p.1:=by rw [<- hkk,yM,e1]; rfl
   rw [yM] at hk;cases hx:ss[i]? with
   | none=>rw [hx] at hk; cases hk
   | some x =>
     rw [hx] at hk; have hp:zU x=p.1:=zB hk; rw [<- hp] at kr; obtain ⟨rfl,_⟩:=kr; obtain ⟨t,e⟩:=rv; exact ⟨x,t,rfl,e,by rw [<- hp]; rfl⟩
 . refine ⟨.ref s.heap.objs.size,_,I.laid (o:=Ld X s.heap.objs.size ss) (t':=s.toks) ex (xL _) ⟨S',?_,fun h1 h2 a b=>SetK.at a b⟩,rfl,q nds _ hfr⟩
   obtain ⟨_,⟨o,_,_,_,ho,_⟩,_⟩:=S'; exact ⟨o,ho⟩
def tOrS (X:Cx) (ta tb:TE):TE:=fun Z H Q=>ta Z H fun x H1=>tb Z H1 fun y H2=>∃ a b ks1 ks2,x=.ref a/\y=.ref b/\a≠b/\H2 a=some (Ld X a ks1)/\H2 b=some (Ld X b ks2)/\ks1.length<=3/\ks2.length<=3/\ks2.Nodup /\
 ∀ r (ks2':List Str),H2 r=none->ks2'.Perm ks2->Q (.ref r) (upd H2 r (Ld X r (ks2'.foldl G9 ks1)))
theorem uM (ha:PE X a ta) (hb:PE X b tb):PE X (.BinOp a .BitOr b pos) (tOrS X ta tb):=by
 intro pins s Z H Q I h;refine wpAny_BinOp (bin ha hb I h fun v u s2 x y H2 I2 rx ry q=>?_);obtain ⟨a,b,ks1,ks2,rfl,rfl,hne,e1,e2,l1,l2,nd,q⟩:=q;cases (show v=zP a from rx);cases (show u=zP b from ry);obtain ⟨S1,_⟩:=I2.hok a _ e1;obtain ⟨S2,_⟩:=I2.hok b _ e2;have hfr:H2 s2.heap.objs.size=none:=I2.hok.fresh (xL _);refine orU hne S1 S2 l1 l2 nd fun h' d ks2' pk ex S'=>⟨.ref s2.heap.objs.size,_,Inv.dr d (I2.laid (o:=Ld X s2.heap.objs.size (ks2'.foldl G9 ks1)) (t':=s2.toks) ex (xL _) ⟨S',?_,fun h1 h2 a b=>SetK.at a b⟩),rfl,q _ _ hfr pk⟩;obtain ⟨_,⟨o,_,_,_,ho,_⟩,_⟩:=S'
 exact ⟨o,ho⟩
end
noncomputable def Mx (i j:Nat):Dn->Res wY:=fun δ=>match kvN δ i,kvN δ j with
 | some a,some b=>match F4 (a.map (·.1)),F4 (b.map (·.1)) with
   | some s1,some s2=>if s1.length<=3/\s2.length<=3/\((s1++s2).all fun x=>yP x&&decide (x.length<=1000))=true then .ok (.list ((L6 (s2.foldl G9 s1)).map .str)) else .no
   | _,_=>.no
 | _,_=>.no
noncomputable section
variable {P:yD} {w:yR} {K:xF} {mg:Str->Option xB} {base:zN} {X:Cx} {N:List Str} {sc:Scope} {k:Nat} {df:Bool} {E:EK} {pos p pos1 p1 q1 pos2 p2 q2 bpos:Pos} {x y:Str}
theorem qQ (C:Cxt P w K mg base X N sc k df) (h:okGl sc "sorted" = true) (hm:mg "sorted" = none) (h':okGl sc "set" = true) (hm':mg "set" = none) (i j:Nat) (hi:okVar N sc i x=true) (hj:okVar N sc j y=true)
   (he:xO [.BinOp (.Call (.Name "set" p1) [.Name x q1] [] pos1) .BitOr (.Call (.Name "set" p2) [.Name y q2] [] pos2) bpos] X.env=(false,eval (.BinOp (.Call (.Name "set" p1) [.Name x q1] [] pos1) .BitOr (.Call (.Name "set" p2) [.Name y q2] [] pos2) bpos) X.env)::xO [] X.env:=by rfl) (hpl:(i6 pos (xO [] X.env)).any (·.1)=false:=by rfl)
   (he1:xO [.Name x q1] X.env=(false,eval (.Name x q1) X.env)::xO [] X.env:=by rfl) (hpl1:(i6 pos1 (xO [] X.env)).any (·.1)=false:=by rfl)
   (he2:xO [.Name y q2] X.env=(false,eval (.Name y q2) X.env)::xO [] X.env:=by rfl) (hpl2:(i6 pos2 (xO [] X.env)).any (·.1)=false:=by rfl) :
   DE X E (.Call (.Name "sorted" p) [.BinOp (.Call (.Name "set" p1) [.Name x q1] [] pos1) .BitOr (.Call (.Name "set" p2) [.Name y q2] [] pos2) bpos] [] pos) (Mx i j):=by
 obtain ⟨g1,g2,g3⟩:=okGl.gl C h;obtain ⟨g4,g5,g6⟩:=okGl.gl C h';intro pins s Z H Q I q;have hh:=I.ok.hd C.calm;refine (PE.imp (Jd (Jk hh) g1 (by rw [C.hmg]; exact hm) (by decide +kernel) (L7 (uM
     (Da Ta g4 (by rw [C.hmg]; exact hm') (by decide +kernel) (L7 (okVar.pe C hi (p:=q1)) R0 he1) g6 g5 he1 hpl1)
     (Da Ta g4 (by rw [C.hmg]; exact hm') (by decide +kernel) (L7 (okVar.pe C hj (p:=q2)) R0 he2) g6 g5 he2 hpl2)) R0 he) g3 g2 he hpl) fun Z H Q hY98=>?_) pins s Z H Q I q
 obtain ⟨G,δ,S,aft⟩:=hY98;unfold Mx at aft;split at aft
 . rename_i kv1 kv2 e1 e2
   split at aft
   . rename_i s1 s2 t1 t2
     split at aft
     . rename_i hc
       obtain ⟨d1,kk1,hσ1,hx1,hk1,hv1⟩:=S.kvN e1; obtain ⟨d2,kk2,hσ2,hx2,hk2,hv2⟩:=S.kvN e2; refine ⟨.ref d1,hσ1,d1,kk1,s1,rfl,hx1,by rw [<- hk1]; exact Dq t1,hc.1,fun n1 a ha=>?_⟩;have gr1:=Grow.new (o:=Ld X a s1) S.sub ha; refine ⟨.ref d2,hσ2,d2,kk2,s2,rfl,Rd.mono gr1.h hx2,by rw [<- hk2]; exact Dq t2,hc.2.1,fun n2 b hb=>?_⟩;have gr2:=gr1.trans (Grow.new (o:=Ld X b s2) gr1.gh hb); have hab:a≠b:=fun e=>by subst e; rw [B8] at hb; cases hb
       refine ⟨a,b,s1,s2,rfl,rfl,hab,by rw [C0 hab]; exact B8,B8,hc.1,hc.2.1,n2,fun r ks2' hr pk=>?_⟩;have gr3:=gr2.trans (Grow.new (o:=Ld X r (ks2'.foldl G9 s1)) gr2.gh hr); have e3:L6 (ks2'.foldl G9 s1)=L6 (s2.foldl G9 s1):=Jb (((E7 _).trans (gI pk n1)).trans (E7 _).symm) (Fb _) (Fb _); refine ⟨r,rfl,.inr ⟨_,B8,?_,fun l hl=>?_⟩⟩
       . have:=Pk ks2' s1; have:=pk.length_eq; lia
       . rw [e3]
         refine aft _ _ _ (gr3.trans (Grow.new (o:=.lst ((L6 (s2.foldl G9 s1)).map .str)) gr3.gh hl)) ⟨l,_,rfl,.inl B8,Hh _ fun z hz=>?_⟩;have hz':z∈s1++s2:=by
           have:=(E7 _).mem_iff.mp hz; rw [Jh] at this; exact xK.mpr this
         have:=j9.mp hc.2.2 z hz'; rw [yE] at this; exact ⟨this.1,xX (of_decide_eq_true this.2) (by decide)⟩
     . exact aft.elim
   . exact aft.elim
 . exact aft.elim
end
end Sm
end
noncomputable section
namespace Sm
open PySem PySem.Spec PyProof.Rows PySem.W L2
noncomputable section
variable {X:Cx} {pins:List (xI×Obj)} {Z:St} {H:Hp} {s:xC} {A:zI} {E:xB->xC->Prop} {a:xI}
theorem Xu {prog:yD} {w:yR} (d:xI) (key:xB) (hd:(d==o0)=false):MeetsIn prog w (i7.«dict.get» ⟨[.ref d,key],[]⟩) (fun A R s=>∃ (o:Obj) (es:Array zL) (ep:Nat) (ks:List wY) (k:wY),A.units+16 < m9/\s.heap.get? d=some o/\o.data=.dict es ep/\EsN w s.heap es ks/\NAt s.heap key k /\
   (∀ (i:Nat) (e:zL) tk,ks[i]? = some k->es[i]? = some e->R (.ok (.ret e.val)) { s with toks:=tk })/\∀ tk,k∉ks->R (.ok (.ret .none)) { s with toks:=tk }) :=
 .of_wp fun A R s hZ3=>by
   obtain ⟨o,es,ep,ks,k,hu,ho,hD,N,x,h1,h0⟩:=hZ3; show wpAny _ _ (KS d key>>=_) _ _ s;refine wZ (Ga (hu8 hu) ho hD N x (fun i e tk hi he=>xA ⟨_,rfl,h1 i e tk hi he⟩) fun tk hn=>?_);show wpAny _ _ (JK d key>>=_) _ _ _;exact wZ (wpAny_missed_other hd (xA ⟨.none,rfl,h0 tk hn⟩))
theorem vH {kvs:List (wY×V)} {kd:wY} {y:V} {u:xB} {Q:xB->xC->Prop} (hu:A.units+16 < m9) (I:Inv X pins Z H s) (e:Rd H a (.dN kvs)) (rk:KRep H kd y) (hk:nkD kd=true) (ry:RelV y u)
   (h:∀ w' s',Inv X pins Z H s'->RelV ((N0 kvs kd).getD .non) w'->Q w' s'):wpAny (xW X.prog X.w) A (call (.builtin "dict.get") [.ref a,u]) Q E s:=by
 obtain ⟨z,hd,nd,nk,xs,rel,ep,e1⟩:=e.ok I.hok;refine GP F.slot_dict_get ⟨_,e1,rfl⟩ F.entry_dict_get (F.args_dict_get_2 _ _) (Xu a u hd) ⟨_,_,ep,kvs.map (·.1),kd,hu,e1,rfl,Kr I rel nk nd,Hl I rk ry hk,fun i e tk hi he=>h _ _ (I.tok _) ?_,fun tk hn=>h _ _ (I.tok _) ?_⟩
 . obtain ⟨p,q,h1,h2,⟨_,h5⟩,rfl⟩:=Fz rel (by simpa using he)
   rw [yM,h1] at hi; have hp:p=(kd,p.2):=by
     have:p.1=kd:=by simpa using hi
     rw [<- this]
   rw [hp] at h1; rw [De hk nk nd h1]; exact h5
 . rw [Fl hk nk hn]
   exact rfl
end
def tG (td ty:TE):TE:=fun Z H Q=>td Z H fun x H1=>∃ a kvs,x=.ref a/\Rd H1 a (.dN kvs)/\ty Z H1 fun y H3=>∃ kvs kd,Rd H3 a (.dN kvs)/\KRep H3 kd y/\nkD kd=true/\Q ((N0 kvs kd).getD .non) H3
noncomputable section
variable {X:Cx} {o e:Expr} {apos cpos:Pos} {td ty:TE}
theorem jV (hu:X.A.units+16 < m9) (ho:PE X o td) (he:PE X e ty) (m:M1 X o "get" apos e cpos):PE X (.Call (.Attribute o "get" apos) [e] [] cpos) (tG td ty):=by
 intro pins s Z H Q I h;refine IZ m.base m.few m.line FB KD KC (thn (ho pins s Z H _ I h) fun u s1 hZ2=>?_);obtain ⟨x,H1,I1,rx,a,kvs,ex,d,q1⟩:=hZ2;subst ex;obtain rfl:u=zP a:=rx;obtain ⟨_,_,_,_,_,_,ep,e1⟩:=d.ok I1.hok;refine ⟨⟨_,e1,rfl⟩,fun b q=>by cases q; exact ⟨_,e1,rfl⟩,?_⟩;rw [m.trees];refine AW rfl (EA (AV (thn (he pins s1 Z H1 _ I1 q1) fun iv s2 hY79=>?_)));obtain ⟨y,H2,I2,ry,kvs,kd,g,rk,hk,q3⟩:=hY79;refine EZ ?_;exact vH hu I2 g rk hk ry fun w' s4 I4 rw'=>⟨_,H2,I4,rw',q3⟩
end
noncomputable def Bp (i:Nat) (f:Dn->Res wY):Dn->Res wY:=fun δ=>match kvN δ i with
 | some kvs=>(f δ).bind fun kd=>if nkD kd=true then .ok ((F9 kvs kd).getD .none) else .no
 | none=>.no
noncomputable section
variable {P:yD} {w:yR} {K:xF} {mg:Str->Option xB} {base:zN} {X:Cx} {N:List Str} {sc:Scope} {k:Nat} {df:Bool} {E:EK} {p apos cpos pos:Pos} {a e:Expr} {f:Dn->Res wY} {x:Str} {fx:Dn->Res Kvs}
theorem Vc (C:Cxt P w K mg base X N sc k df) (i:Nat) (h:okVar N sc i x=true) (hk:DE X E a f) (m:M1 X (.Name x p) "get" apos a cpos:=by exact ⟨rfl,rfl,rfl,rfl⟩):DE X E (.Call (.Attribute (.Name x p) "get" apos) [a] [] cpos) (Bp i f):=by
 refine PE.imp (jV (by have:=C.hu; lia) (okVar.pe C h) hk m) fun Z H Q hY81=>?_;obtain ⟨G,δ,S,aft⟩:=hY81;unfold Bp at aft;split at aft
 . rename_i kvs hi
   obtain ⟨q,kk,hσ,hx,hkeys,hvals⟩:=S.kvN hi; refine ⟨.ref q,hσ,q,kk,rfl,hx,?_⟩; refine L3 S aft fun kd v G1 H1 g1 r1 S1 a1=>?_;split at a1
   . rename_i hn
     refine ⟨kk,kd,Rd.mono g1.h hx,Hi S1.sub hn r1,hn,?_⟩; rcases Fk (k:=kd) hkeys hvals with ⟨n1,n2⟩ | ⟨d0,v0,n1,n2,rd⟩
     . rw [n1] at a1; rw [n2]
       exact a1 _ G1 H1 (Grow.refl S1.sub) rfl
     . rw [n1] at a1; rw [n2]
       exact a1 _ G1 H1 (Grow.refl S1.sub) (rd.mono g1.g)
   . exact a1.elim
 . exact aft.elim
theorem vI (h:DN X E e fx):DSN X E [.Return (some e) pos] fx:=fun G0 H0=>by
 refine PSs.imp (Jc (aF h)) fun D Z H hY73=>?_;obtain ⟨G,δ,S,a⟩:=hY73;refine ⟨G,δ,S.sr,?_⟩;cases q:fx δ with
 | ok kvs=>rw [q] at a; exact fun p G' H' g hp hp' ho=>a p G' H' (S.gr.trans g) (S.gr.h.free hp) hp' ho
 | exc c=>rw [q] at a; exact fun G' H' g=>a G' H' (S.gr.trans g)
 | no=>rw [q] at a; exact a
end
end Sm
end
noncomputable section
namespace Sm
open PySem PySem.Spec PyProof.Rows L2
def top (i:Nat):AR:=PySem.Challenge.pw_staymark_k61_whole_changes.main.body.getD i (.Pass ⟨0,0,0,0⟩)
def stm (i j:Nat):AR:=(B7 (top i)).getD j (.Pass ⟨0,0,0,0⟩)
structure Txt (mg:Str->Option xB):Prop where
 b_dict:mg "dict" = none
 b_enumerate:mg "enumerate" = none
 b_int:mg "int" = none
 b_len:mg "len" = none
 b_max:mg "max" = none
 b_range:mg "range" = none
 b_reversed:mg "reversed" = none
 b_set:mg "set" = none
 b_sorted:mg "sorted" = none
 b_tuple:mg "tuple" = none
 c_SIDES:∃ t,mg "SIDES" = some (.str "lr" t)
noncomputable def T7:List Str:=["deed"]
noncomputable def T9:Dn->Out:=(K8 (vIf (C4 (b2 (b2 (A0 0) (vC (.int 0)) dIx) (vC (.str "add")) dEq)) (vFn (A3 (b2 (A0 0) (vC (.int 3)) dIx) A8) T4) (vC (.int 0))))
noncomputable def F6:List wY->Res wY:=fnD T7 T9
noncomputable def X3:List Str:=["book", "behind", "deed"]
noncomputable def Ac:Dn->Res Kvs:=(Ep (Cl 1) (Ep (nU 1 2 (fun δ=>((A0 0) δ).bind D9) (C4 (b2 (C1 (A3 (A0 2) A8) F6) (vC (.int 0)) (Gv .Gt))) (b2 (A0 2) (vC (.int 2)) dIx) (A0 2)) (Ul 1)))
noncomputable def O9:List wY->Res Kvs:=fnW X3 Ac
noncomputable def O6:List Str:=["book", "behind", "waiting", "told", "step", "deed", "number", "sign"]
noncomputable def Cd:Dn->Out:=(W0 1 (Cq (A3 (A0 0) A8) O9))
noncomputable def Cc:Dn->Out:=(Ix 2 (F5 (fun δ=>((Mz 1 (vC .none) (K4 A8)) δ).bind D9) E3 [] N6 (F3 (A3 (A0 0) (A3 (vC (.int 0)) A8)))))
noncomputable def Gk:Dn->Out:=(Ix 3 A8)
noncomputable def Cb:Dn->Out:=(Oq (Za 2) (B9 (eV 2 4) (B9 (D4 5 (b2 (A0 4) (vC (.int 0)) dIx)) (B9 (D4 6 (b2 (A0 4) (vC (.int 1)) dIx)) (B9 (D4 7 (F3 (A3 (b2 (A0 5) (vC (.int 1)) dIx) (A3 (A0 6) A8)))) (B9 (Y0 3 (F3 (A3 (A0 7) (A3 (b2 (b2 (A0 5) (vC (.int 3)) dIx) (A0 6) dIx) A8)))) (B9 (sIf (C4 (b2 (b2 (A0 6) (vC (.int 1)) C5) (vFn (A3 (b2 (A0 5) (vC (.int 3)) dIx) A8) T4) (P4 .Lt))) (Y0 2 (F3 (A3 (A0 5) (A3 (b2 (A0 6) (vC (.int 1)) C5) A8)))) E5) (eW 2 (F5 (fun δ=>((Mz 1 (A0 7) (K4 A8)) δ).bind D9) E3 [] N6 (F3 (A3 (A0 0) (A3 (vC (.int 0)) A8))))))))))))
noncomputable def Gj:Dn->Out:=(sFz 3 (K8 (A0 3)))
noncomputable def Dv:Dn->Out:=(B9 Cd (B9 Cc (B9 Gk (B9 Cb Gj))))
noncomputable def W9:List wY->Res wY:=fnD O6 Dv
noncomputable def Bw:List Str:=["book", "undone", "deed"]
noncomputable def Cg:Dn->Res Kvs:=(Ep (Cl 1) (Ep (K9 (fun δ=>((A0 0) δ).bind Wr) (st1 2) (sIf (V9 (C4 (b2 (b2 (A0 2) (vC (.int 0)) dIx) (vC (.str "undo")) dEq)) (C4 (V8 true 1 (b2 (A0 2) (vC (.int 1)) dIx)))) (X9 1 (b2 (A0 2) (vC (.int 2)) dIx) (vC (.bool true))) E5)) (Ul 1)))
noncomputable def K5:List wY->Res Kvs:=fnW Bw Cg
noncomputable def Ai:List Str:=["book", "undone", "dropped", "deed", "sign"]
noncomputable def Bg:Dn->Res Kvs:=(Ep (Cl 2) (Ep (K9 (fun δ=>((A0 0) δ).bind D9) (st1 3) (sIf (V9 (C4 (b2 (b2 (A0 3) (vC (.int 0)) dIx) (vC (.str "drop")) dEq)) (C4 (V8 true 1 (b2 (A0 3) (vC (.int 1)) dIx)))) (K9 (fun δ=>((b2 (A0 3) (vC (.int 2)) dIx) δ).bind D9) (st1 4) (X9 2 (A0 4) (vC (.bool true)))) E5)) (Ul 2)))
noncomputable def L8:List Sl->Res Kvs:=qB Ai Bg
noncomputable def J3:List Str:=["book", "undone", "dropped", "told", "pair"]
noncomputable def W4:Dn->Out:=(W0 1 (Cq (A3 (A0 0) A8) K5))
noncomputable def W3:Dn->Out:=(jE 1 (W0 2 (Tp (A0 0) 1 L8)))
noncomputable def Cs:Dn->Out:=(Ix 3 A8)
noncomputable def Q0:Dn->Out:=(K9 (fun δ=>((C1 (A3 (A0 0) A8) W9) δ).bind D9) (st1 4) (Y0 3 (F3 (A3 (A0 4) (A3 (Vs (V8 true 1 (b2 (b2 (A0 4) (vC (.int 0)) dIx) (vC (.int 0)) dIx)) (V8 true 2 (b2 (A0 4) (vC (.int 0)) dIx))) A8)))))
noncomputable def Cr:Dn->Out:=(sFz 3 (K8 (A0 3)))
noncomputable def Aa:Dn->Out:=(B9 W4 (B9 W3 (B9 Cs (B9 Q0 Cr))))
noncomputable def F2:List wY->Res wY:=fnD J3 Aa
noncomputable def Eg:List Str:=["book"]
noncomputable def Dw:Dn->Out:=(K8 (K4 (F5 (fun δ=>((C1 (A3 (A0 0) A8) F2) δ).bind D9) E3 [] (C4 (b2 (A0 0) (vC (.int 1)) dIx)) (b2 (A0 0) (vC (.int 0)) dIx))))
noncomputable def M7:List wY->Res wY:=fnD Eg Dw
noncomputable def Gd:List Str:=["book"]
noncomputable def Fd:Dn->Out:=(K8 (Rp "" (K4 (F5 (fun δ=>((C1 (A3 (A0 0) A8) M7) δ).bind D9) E3 [] N6 (b2 (A0 0) (vC (.int 1)) dIx)))))
noncomputable def E9:List wY->Res wY:=fnD Gd Fd
noncomputable def Bx:List Str:=["book", "places", "behind", "step", "ahead"]
noncomputable def Ch:Dn->Res Kvs:=(Ep (Cl 1) (Ep (D4 2 (vC (.int 0))) (Ep (K9 (fun δ=>((C1 (A3 (A0 0) A8) F2) δ).bind D9) (st1 3) (B9 (D4 4 (A0 2)) (B9 (sIf (C4 (b2 (A0 3) (vC (.int 1)) dIx)) (D4 2 (b2 (A0 4) (vC (.int 1)) C5)) E5) (X9 1 (b2 (b2 (A0 3) (vC (.int 0)) dIx) (vC (.int 0)) dIx) (F3 (A3 (A0 2) (A3 (A0 4) A8))))))) (Ep (X9 1 (vC .none) (F3 (A3 (vC (.int 0)) (A3 (A0 2) A8)))) (Ul 1)))))
noncomputable def U9:List wY->Res Kvs:=fnW Bx Ch
noncomputable def Ei:List Str:=["places", "anchor"]
noncomputable def Dx:Dn->Out:=(K8 (b2 (Qb 0 (b2 (A0 1) (vC (.int 0)) dIx)) (Mm (vC (.str "lr")) (b2 (A0 1) (vC (.int 1)) dIx)) dIx))
noncomputable def K0:List Sl->Res wY:=fnS Ei Dx
noncomputable def M4:List Str:=["book", "undone", "last", "deed"]
noncomputable def Z4:Dn->Out:=(W0 1 (Cq (A3 (A0 0) A8) K5))
noncomputable def Ej:Dn->Out:=(Cl 2)
noncomputable def Z0:Dn->Out:=(K9 (fun δ=>((A0 0) δ).bind D9) (st1 3) (sIf (V9 (C4 (b2 (b2 (A0 3) (vC (.int 0)) dIx) (F3 (A3 (vC (.str "mark")) (A3 (vC (.str "unmark")) A8))) (dIn false))) (C4 (V8 true 1 (b2 (A0 3) (vC (.int 1)) dIx)))) (X9 2 (b2 (A0 3) (vC (.int 2)) dIx) (A0 3)) E5))
noncomputable def Y9:Dn->Out:=(K8 (K4 (F5 (fun δ=>((My 2) δ).bind D9) E3 [2] (C4 (b2 (b2 (Qb 1 (A0 0)) (vC (.int 0)) dIx) (vC (.str "mark")) dEq)) (Qb 1 (A0 0)))))
noncomputable def Bf:Dn->Out:=(B9 Z4 (B9 Ej (B9 Z0 Y9)))
noncomputable def Q3:List wY->Res wY:=fnD M4 Bf
noncomputable def U7:List Str:=["book", "places", "told", "deed", "begin"]
noncomputable def Cf:Dn->Out:=(W0 1 (Cq (A3 (A0 0) A8) U9))
noncomputable def Gn:Dn->Out:=(Ix 2 A8)
noncomputable def Ce:Dn->Out:=(jE 1 (K9 (fun δ=>((C1 (A3 (A0 0) A8) Q3) δ).bind D9) (st1 3) (B9 (D4 4 (Bq 1 (b2 (A0 3) (vC (.int 3)) dIx) K0)) (Y0 2 (F3 (A3 (b2 (A0 3) (vC (.int 2)) dIx) (A3 (A0 4) (A3 (vFn (A3 (A0 4) (A3 (Bq 1 (b2 (A0 3) (vC (.int 4)) dIx) K0) A8)) gK) A8))))))))
noncomputable def Gm:Dn->Out:=(sFz 2 (K8 (A0 2)))
noncomputable def Iq:Dn->Out:=(B9 Cf (B9 Gn (B9 Ce Gm)))
noncomputable def I9:List wY->Res wY:=fnD U7 Iq
noncomputable def Vo:List Str:=["change", "sign", "there"]
noncomputable def Ru:Dn->Out:=(B9 (sIf (C4 (A0 2)) (K8 (F3 (A3 (b2 (A0 0) (vC (.int 0)) dIx) (A3 (b2 (A0 0) (vC (.int 1)) dIx) (A3 (b2 (b2 (A0 0) (vC (.int 2)) dIx) (A0 1) C5) A8))))) E5) (K8 (F3 (A3 (b2 (A0 0) (vC (.int 0)) dIx) (A3 (b2 (b2 (A0 0) (vC (.int 1)) dIx) (A0 1) C5) (A3 (b2 (A0 0) (vC (.int 2)) dIx) A8))))))
noncomputable def Bu:List wY->Res wY:=fnD Vo Ru
noncomputable def E1:List Str:=["less", "more", "then", "told", "touching", "place", "step", "pair", "there", "was"]
noncomputable def P6:Dn->Out:=(W0 2 (Hn (K4 (F5 (fun δ=>((C1 (A3 (A0 0) A8) M7) δ).bind D9) E3 [] N6 (F3 (A3 (b2 (A0 0) (vC (.int 0)) dIx) (A3 (vC (.bool true)) A8)))))))
noncomputable def X8:Dn->Out:=(Ix 3 A8)
noncomputable def X7:Dn->Out:=(D4 4 (vC (.bool false)))
noncomputable def X6:Dn->Out:=(D4 5 (vC (.int 0)))
noncomputable def P5:Dn->Out:=(K9 (fun δ=>((C1 (A3 (A0 1) A8) F2) δ).bind D9) (st1 6) (B9 (D4 7 (b2 (A0 6) (vC (.int 0)) dIx)) (B9 (D4 8 (b2 (A0 6) (vC (.int 1)) dIx)) (B9 (D4 9 (V8 false 2 (b2 (A0 7) (vC (.int 0)) dIx))) (B9 (sIf (V9 (C4 (A0 9)) (C4 (A0 8))) (D4 4 (vC (.bool false))) (sIf (cOr (C4 (A0 9)) (C4 (A0 8))) (B9 (sIf (Re (C4 (A0 4))) (Y0 3 (F3 (A3 (A0 5) (A3 (vC (.str "")) (A3 (vC (.str "")) A8))))) E5) (B9 (D4 4 (vC (.bool true))) (Wq 3 (b1 (vC (.int 1)) Dh) (eH 3 (C1 (A3 (b2 (A0 3) (b1 (vC (.int 1)) Dh) dIx) (A3 (b2 (A0 7) (vC (.int 1)) dIx) (A3 (A0 8) A8))) Bu))))) E5)) (sIf (C4 (A0 8)) (D4 5 (b2 (A0 5) (vC (.int 1)) C5)) E5))))))
noncomputable def X5:Dn->Out:=(sFz 3 (K8 (A0 3)))
noncomputable def Q9:Dn->Out:=(B9 P6 (B9 X8 (B9 X7 (B9 X6 (B9 P5 X5)))))
noncomputable def D6:List wY->Res wY:=fnD E1 Q9
noncomputable def Eh:List Str:=["text", "changes", "changed", "change", "place"]
noncomputable def Bh:Dn->Out:=(B9 (D4 2 (A0 0)) (B9 (K9 (fun δ=>((A0 1) δ).bind D9) (st1 3) (B9 (D4 4 (b2 (A0 3) (vC (.int 0)) dIx)) (D4 2 (b2 (b2 (Jr (A0 2) Y2 (P0 (A0 4))) (b2 (A0 3) (vC (.int 2)) dIx) C5) (Jr (A0 2) (P0 (b2 (A0 4) (vFn (A3 (b2 (A0 3) (vC (.int 1)) dIx) A8) T4) C5)) Y2) C5)))) (K8 (A0 2))))
noncomputable def O3:List wY->Res wY:=fnD Eh Bh
noncomputable def M3:List Str:=["book"]
noncomputable def O2:Dn->Res Kvs:=(Hn (K4 (F5 (fun δ=>((C1 (A3 (A0 0) A8) I9) δ).bind D9) E3 [] N6 (F3 (A3 (b2 (A0 0) (vC (.int 0)) dIx) (A3 (F3 (A3 (b2 (A0 0) (vC (.int 1)) dIx) (A3 (b2 (A0 0) (vC (.int 2)) dIx) A8))) A8))))))
noncomputable def C9:List wY->Res Kvs:=fnW M3 O2
noncomputable def K7:List Str:=["less", "more", "then", "now", "told", "name"]
noncomputable def W7:Dn->Out:=(W0 2 (Cq (A3 (A0 0) A8) C9))
noncomputable def W6:Dn->Out:=(W0 3 (Cq (A3 (A0 1) A8) C9))
noncomputable def Cu:Dn->Out:=(Ix 4 A8)
noncomputable def W5:Dn->Out:=(K9 (fun δ=>((Mx 2 3) δ).bind D9) (st1 5) (sIf (C4 (b2 (Bp 2 (A0 5)) (Bp 3 (A0 5)) dNe)) (Y0 4 (F3 (A3 (A0 5) (A3 (Bp 2 (A0 5)) (A3 (Bp 3 (A0 5)) A8))))) E5))
noncomputable def Ct:Dn->Out:=(sFz 4 (K8 (A0 4)))
noncomputable def Ab:Dn->Out:=(B9 W7 (B9 W6 (B9 Cu (B9 W5 Ct))))
noncomputable def F7:List wY->Res wY:=fnD K7 Ab
noncomputable def Vp:List Str:=["book", "time"]
noncomputable def Rv:Dn->Out:=(K8 (vFn (A3 (K4 (F5 (fun δ=>((A0 0) δ).bind D9) E3 [1] (C4 (b2 (b2 (b2 (A0 0) (vC (.int 1)) dIx) (vC (.int 0)) dIx) (A0 1) (P4 .LtE))) (A0 0))) A8) Fo))
noncomputable def Ea:List wY->Res wY:=fnD Vp Rv
noncomputable def Ig:List Str:=["book"]
noncomputable def Io:Dn->Out:=(K8 (vFn (A3 (b2 (K4 (A3 (vC (.int 0)) A8)) (K4 (F5 (fun δ=>((A0 0) δ).bind D9) E3 [] N6 (b2 (b2 (A0 0) (vC (.int 1)) dIx) (vC (.int 0)) dIx))) C5) A8) T6))
noncomputable def Dz:List wY->Res wY:=fnD Ig Io
noncomputable def Lf:List Str:=["book", "time"]
noncomputable def Lj:Dn->Out:=(K8 (C1 (A3 (C1 (A3 (A0 0) (A3 (A0 1) A8)) Ea) A8) E9))
noncomputable def Dc:List wY->Res wY:=fnD Lf Lj
noncomputable def Ih:List Str:=["book", "told", "time"]
noncomputable def Ip:Dn->Out:=(B9 (Ix 1 A8) (B9 (K9 (fun δ=>((C1 (A3 (A0 0) A8) Dz) δ).bind D9) (st1 2) (B9 (Oq (cFz 1 (C4 (b2 (vFn (A3 (A0 1) A8) T4) (A0 2) (P4 .Lt)))) (Y0 1 (vFz 1 (b2 (A0 1) (b1 (vC (.int 1)) Dh) dIx)))) (Y0 1 (C1 (A3 (A0 0) (A3 (A0 2) A8)) Dc)))) (sFz 1 (K8 (A0 1)))))
noncomputable def W8:List wY->Res wY:=fnD Ih Ip
noncomputable def Bz:List Str:=["_law_script", "_law_k"]
noncomputable def Cj:Dn->Out:=(B9 (sIf (C4 (b2 (A0 0) (K4 A8) dEq)) (K8 (b2 (vC (.int 7)) (A0 1) P8)) E5) (K8 (b2 (b2 (A0 0) (b2 (A0 1) (vFn (A3 (A0 0) A8) T4) Rb) dIx) (b2 (vC (.int 6553)) (b2 (A0 1) (vFn (A3 (A0 0) A8) T4) Lo) P8) C5)))
noncomputable def Y3:List wY->Res wY:=fnD Bz Cj
noncomputable def Al:List Str:=["_law_script", "_law_k", "_law_many", "_law_cell_here"]
noncomputable def Bm:Dn->Out:=(B9 (D4 3 (b2 (b2 (b2 (b2 (C1 (A3 (A0 0) (A3 (A0 1) A8)) Y3) (vC (.int 2147483563)) Rb) (vC (.int 69069)) P8) (b2 (vC (.int 104723)) (b2 (A0 1) (vC (.int 1)) C5) P8) C5) (vC (.int 2147483563)) Rb)) (B9 (D4 3 (b2 (b2 (b2 (A0 3) (A0 3) P8) (b2 (A0 3) (vC (.int 3)) Lo) C5) (vC (.int 2147483399)) Rb)) (K8 (b2 (b2 (b2 (b2 (b2 (A0 3) (A0 3) P8) (b2 (A0 3) (vC (.int 7)) Lo) C5) (vC (.int 2147483647)) Rb) (vC (.int 11)) Lo) (A0 2) Rb))))
noncomputable def B3:List wY->Res wY:=fnD Al Bm
noncomputable def O7:List Str:=["_law_script", "_law_at", "_law_found", "_law_k", "_law_word"]
noncomputable def Z9:Dn->Out:=(Ix 2 A8)
noncomputable def Z8:Dn->Out:=(K9 (fun δ=>((A3 (vC (.int 3)) A8) δ).bind Kh) (st1 3) (B9 (D4 4 (b2 (b2 (vC (.str "abcdefghijklmnopqrstuvwxyz")) (C1 (A3 (A0 0) (A3 (b2 (A0 1) (b2 (vC (.int 2)) (A0 3) P8) C5) (A3 (vC (.int 26)) A8))) B3) dIx) (C1 (A3 (A0 0) (A3 (b2 (b2 (A0 1) (b2 (vC (.int 2)) (A0 3) P8) C5) (vC (.int 1)) C5) (A3 (vC (.int 2)) A8))) B3) P8)) (Y0 2 (b2 (K4 (A3 (b2 (A0 4) (b2 (vC (.str "xyz")) (A0 3) dIx) C5) (A3 (b2 (b2 (vC (.str "xyz")) (A0 3) dIx) (A0 4) C5) A8))) (C1 (A3 (A0 0) (A3 (b2 (A0 1) (vC (.int 6)) C5) (A3 (vC (.int 2)) A8))) B3) dIx))))
noncomputable def Z5:Dn->Out:=(sFz 2 (K8 (A0 2)))
noncomputable def Bl:Dn->Out:=(B9 Z9 (B9 Z8 Z5))
noncomputable def Q6:List wY->Res wY:=fnD O7 Bl
noncomputable def Aj:List Str:=["_law_script", "_law_at"]
noncomputable def Bi:Dn->Out:=(K8 (Rp "" (K4 (F5 (fun δ=>((A3 (b2 (vC (.int 1)) (C1 (A3 (A0 0) (A3 (b2 (A0 1) (vC (.int 4)) C5) (A3 (vC (.int 4)) A8))) B3) C5) A8) δ).bind Kh) E3 [0,1] N6 (b2 (vC (.str "ab cd~ <")) (C1 (A3 (A0 1) (A3 (b2 (A0 2) (A0 0) C5) (A3 (vC (.int 8)) A8))) B3) dIx)))))
noncomputable def Q4:List wY->Res wY:=fnD Aj Bi
noncomputable def Ak:List Str:=["_law_book_here", "_law_found", "_law_deed_here"]
noncomputable def Bj:Dn->Out:=(B9 (D4 1 (K4 A8)) (B9 (K9 (fun δ=>((A0 0) δ).bind D9) (st1 2) (sIf (C4 (b2 (b2 (A0 2) (vC (.int 0)) dIx) (vC (.str "add")) dEq)) (D4 1 (b2 (A0 1) (K4 (F5 (fun δ=>((A3 (vFn (A3 (b2 (A0 2) (vC (.int 3)) dIx) A8) T4) A8) δ).bind Kh) E3 [2] N6 (F3 (A3 (b2 (A0 1) (vC (.int 1)) dIx) (A3 (A0 0) A8))))) C5)) E5)) (K8 (A0 1))))
noncomputable def Q5:List wY->Res wY:=fnD Ak Bj
noncomputable def X4:List Str:=["_law_script", "_law_at", "_law_signs_here", "_law_sign"]
noncomputable def Ae:Dn->Out:=(B9 (D4 3 (b2 (b2 (K4 (A3 (vC .none) A8)) (A0 2) C5) (C1 (A3 (A0 0) (A3 (A0 1) (A3 (b2 (vFn (A3 (A0 2) A8) T4) (vC (.int 1)) C5) A8))) B3) dIx)) (K8 (F3 (A3 (A0 3) (A3 (b2 (vC (.str "lr")) (C1 (A3 (A0 0) (A3 (b2 (A0 1) (vC (.int 1)) C5) (A3 (vC (.int 2)) A8))) B3) dIx) A8)))))
noncomputable def M8:List wY->Res wY:=fnD X4 Ae
noncomputable def I0:List Str:=["_law_script", "_law_at", "_law_one", "_law_known", "_law_names_here", "_law_signs_here", "_law_way", "_law_behind", "_law_some", "_law_ends"]
noncomputable def Az:Dn->Out:=(D4 5 (C1 (A3 (A0 3) A8) Q5))
noncomputable def Ay:Dn->Out:=(D4 6 (C1 (A3 (A0 0) (A3 (A0 1) (A3 (vC (.int 12)) A8))) B3))
noncomputable def Ax:Dn->Out:=(sIf (V9 (C4 (b2 (A0 6) (vC (.int 2)) (P4 .Lt))) (C4 (b2 (A0 5) (K4 A8) dNe))) (B9 (Os 8 (F5 (fun δ=>((A3 (A0 5) A8) δ).bind Ji) Lq [0,1] (C4 (b2 (C1 (A3 (A0 2) (A3 (b2 (b2 (A0 3) (vC (.int 20)) C5) (A0 0) C5) (A3 (vC (.int 4)) A8))) B3) (vC (.int 0)) dEq)) (A0 1))) (K8 (F3 (A3 (vC (.str "drop")) (A3 (A0 2) (A3 (vFn (A3 (b2 (A0 8) (b2 (vSl (A0 5) Y2 (P0 (vC (.int 1)))) (vFn (A3 (b2 (A0 8) (K4 A8) dEq) A8) Sy) P8) C5) A8) Fo) A8)))))) E5)
noncomputable def Aw:Dn->Out:=(sIf (C4 (b2 (A0 6) (vC (.int 5)) (P4 .Lt))) (B9 (D4 9 (F3 (A3 (C1 (A3 (A0 0) (A3 (b2 (A0 1) (vC (.int 1)) C5) (A3 (A0 5) A8))) M8) (A3 (C1 (A3 (A0 0) (A3 (b2 (A0 1) (vC (.int 3)) C5) (A3 (A0 5) A8))) M8) A8)))) (K8 (b2 (F3 (A3 (vC (.str "mark")) (A3 (A0 2) (A3 (b2 (A0 4) (C1 (A3 (A0 0) (A3 (b2 (A0 1) (vC (.int 5)) C5) (A3 (vC (.int 3)) A8))) B3) dIx) A8)))) (A0 9) C5))) E5)
noncomputable def Av:Dn->Out:=(sIf (C4 (b2 (A0 6) (vC (.int 5)) dEq)) (K8 (F3 (A3 (vC (.str "unmark")) (A3 (A0 2) (A3 (b2 (A0 4) (C1 (A3 (A0 0) (A3 (b2 (A0 1) (vC (.int 5)) C5) (A3 (vC (.int 3)) A8))) B3) dIx) A8))))) E5)
noncomputable def Au:Dn->Out:=(sIf (V9 (C4 (b2 (A0 6) (vC (.int 8)) (P4 .Lt))) (C4 (b2 (A0 3) (F3 A8) dNe))) (K8 (F3 (A3 (vC (.str "undo")) (A3 (A0 2) (A3 (b2 (b2 (A0 3) (C1 (A3 (A0 0) (A3 (b2 (A0 1) (vC (.int 6)) C5) (A3 (vFn (A3 (A0 3) A8) T4) A8))) B3) dIx) (vC (.int 1)) dIx) A8))))) E5)
noncomputable def Ar:Dn->Out:=(D4 7 (b2 (b2 (b2 (K4 (A3 (vC .none) A8)) (A0 5) C5) (vSl (A0 5) (P0 (b1 (vC (.int 3)) Dh)) Y2) C5) (C1 (A3 (A0 0) (A3 (b2 (A0 1) (vC (.int 7)) C5) (A3 (b2 (b2 (vFn (A3 (A0 5) A8) T4) (vC (.int 1)) C5) (vFn (A3 (vSl (A0 5) (P0 (b1 (vC (.int 3)) Dh)) Y2) A8) T4) C5) A8))) B3) dIx))
noncomputable def Aq:Dn->Out:=(K8 (F3 (A3 (vC (.str "add")) (A3 (A0 2) (A3 (A0 7) (A3 (C1 (A3 (A0 0) (A3 (b2 (A0 1) (vC (.int 8)) C5) A8)) Q4) A8))))))
noncomputable def Ci:Dn->Out:=(B9 Az (B9 Ay (B9 Ax (B9 Aw (B9 Av (B9 Au (B9 Ar Aq)))))))
noncomputable def N8:List wY->Res wY:=fnD I0 Ci
noncomputable def N9:List Str:=["_law_script", "_law_at", "_law_most", "_law_names_here", "_law_found", "_law_one", "_law_k", "_law_time", "_law_hand", "_law_known"]
noncomputable def Bd:Dn->Out:=(D4 4 (F3 A8))
noncomputable def Bc:Dn->Out:=(D4 5 (F3 (A3 (vC (.int 1)) (A3 (vC (.str "a")) A8))))
noncomputable def Bb:Dn->Out:=(K9 (fun δ=>((A3 (C1 (A3 (A0 0) (A3 (A0 1) (A3 (b2 (A0 2) (vC (.int 1)) C5) A8))) B3) A8) δ).bind Kh) (st1 6) (B9 (D4 7 (b2 (b2 (A0 5) (vC (.int 0)) dIx) (C1 (A3 (A0 0) (A3 (b2 (b2 (A0 1) (vC (.int 1)) C5) (b2 (vC (.int 60)) (A0 6) P8) C5) (A3 (vC (.int 2)) A8))) B3) C5)) (B9 (D4 8 (b2 (vC (.str "abc")) (C1 (A3 (A0 0) (A3 (b2 (b2 (A0 1) (vC (.int 2)) C5) (b2 (vC (.int 60)) (A0 6) P8) C5) (A3 (vC (.int 3)) A8))) B3) dIx)) (B9 (sIf (V9 (C4 (b2 (A0 4) (F3 A8) dNe)) (C4 (b2 (F3 (A3 (A0 7) (A3 (A0 8) A8))) (A0 5) (P4 .LtE)))) (D4 7 (b2 (b2 (A0 5) (vC (.int 0)) dIx) (vC (.int 1)) C5)) E5) (B9 (D4 5 (F3 (A3 (A0 7) (A3 (A0 8) A8)))) (B9 (D4 9 (vFn (A3 (K4 (F5 (fun δ=>((A0 4) δ).bind D9) E3 [7] (C4 (b2 (b2 (b2 (A0 0) (vC (.int 1)) dIx) (vC (.int 0)) dIx) (A0 1) (P4 .Lt))) (A0 0))) A8) Fo)) (D4 4 (b2 (A0 4) (F3 (A3 (C1 (A3 (A0 0) (A3 (b2 (b2 (A0 1) (vC (.int 3)) C5) (b2 (vC (.int 60)) (A0 6) P8) C5) (A3 (A0 5) (A3 (A0 9) (A3 (A0 3) A8))))) N8) A8)) C5))))))))
noncomputable def Ba:Dn->Out:=(K8 (A0 4))
noncomputable def Ck:Dn->Out:=(B9 Bd (B9 Bc (B9 Bb Ba)))
noncomputable def Y4:List wY->Res wY:=fnD N9 Ck
noncomputable def L5:List Str:=["_law_text", "_law_changes", "_law_due", "_law_end", "_law_place", "_law_old", "_law_new"]
noncomputable def Ap:Dn->Out:=(D4 3 (b1 (vC (.int 1)) Dh))
noncomputable def U2:Dn->Out:=(K9 (fun δ=>((A0 1) δ).bind D9) (st3 4 5 6) (B9 (sIf (cOr (C4 (b2 (A0 4) (A0 3) (P4 .LtE))) (cOr (C4 (b2 (b2 (A0 5) (A0 6) C5) (vC (.str "")) dEq)) (C4 (b2 (Jr (A0 0) (P0 (A0 4)) (P0 (b2 (A0 4) (vFn (A3 (A0 5) A8) T4) C5))) (A0 5) dNe)))) (K8 (vC (.bool false))) E5) (B9 (D4 0 (b2 (b2 (Jr (A0 0) Y2 (P0 (A0 4))) (A0 6) C5) (Jr (A0 0) (P0 (b2 (A0 4) (vFn (A3 (A0 5) A8) T4) C5)) Y2) C5)) (D4 3 (b2 (A0 4) (vFn (A3 (A0 6) A8) T4) C5)))))
noncomputable def Ao:Dn->Out:=(K8 (b2 (A0 0) (A0 2) dEq))
noncomputable def V3:Dn->Out:=(B9 Ap (B9 U2 Ao))
noncomputable def K3:List wY->Res wY:=fnD L5 V3
noncomputable def Lr:List Str:=["_law_script", "_law_book_here", "_law_times", "_law_books", "_law_at", "_law_less", "_law_more", "_law_changes", "_law_due", "_law_moved_names", "_law_before", "_law_after", "_law_alike", "_law_every"]
noncomputable def Vy:Dn->Out:=(D4 1 (C1 (A3 (A0 0) (A3 (vC (.int 10)) (A3 (vC (.int 9)) (A3 (C1 (A3 (A0 0) (A3 (vC (.int 0)) A8)) Q6) A8)))) Y4))
noncomputable def Vx:Dn->Out:=(D4 2 (vFn (A3 (b2 (K4 (F5 (fun δ=>((A0 1) δ).bind D9) E3 [] N6 (b2 (b2 (A0 0) (vC (.int 1)) dIx) (vC (.int 0)) dIx))) (K4 (A3 (vC (.int 0)) A8)) C5) A8) T6))
noncomputable def Nf:Dn->Out:=(Os 3 (F5 (fun δ=>((A0 2) δ).bind D9) E3 [1] N6 (C1 (A3 (A0 1) (A3 (A0 0) A8)) Ea)))
noncomputable def Nd:Dn->Out:=(K9 (fun δ=>((A3 (A0 3) A8) δ).bind Ji) (st2 4 5) (B9 (K9 (fun δ=>((vSl (A0 3) (P0 (A0 4)) Y2) δ).bind D9) (st1 6) (B9 (D4 7 (C1 (A3 (A0 5) (A3 (A0 6) A8)) D6)) (B9 (D4 8 (C1 (A3 (A0 6) A8) E9)) (B9 (sIf (cOr (Re (C4 (C1 (A3 (C1 (A3 (A0 5) A8) E9) (A3 (A0 7) (A3 (A0 8) A8))) K3))) (C4 (b2 (C1 (A3 (C1 (A3 (A0 5) A8) E9) (A3 (A0 7) A8)) O3) (A0 8) dNe))) (K8 (vC (.bool false))) E5) (B9 (Os 9 (F5 (fun δ=>((C1 (A3 (A0 5) (A3 (A0 6) A8)) F7) δ).bind D9) E3 [] N6 (b2 (A0 0) (vC (.int 0)) dIx))) (B9 (D4 10 (C1 (A3 (A0 5) A8) I9)) (B9 (D4 11 (C1 (A3 (A0 6) A8) I9)) (B9 (D4 12 (K4 (F5 (fun δ=>((A0 10) δ).bind D9) E3 [11] (C4 (b2 (A0 0) (A0 1) (dIn false))) (b2 (A0 0) (vC (.int 0)) dIx)))) (B9 (D4 13 (vFn (A3 (K4 (F5 (fun δ=>((b2 (A0 10) (A0 11) C5) δ).bind D9) E3 [] N6 (b2 (A0 0) (vC (.int 0)) dIx))) A8) T6)) (sIf (C4 (b2 (A0 9) (K4 (F5 (fun δ=>((A0 13) δ).bind D9) E3 [12] (C4 (b2 (A0 0) (A0 1) (dIn true))) (A0 0))) dNe)) (K8 (vC (.bool false))) E5)))))))))) (sIf (cOr (C4 (b2 (C1 (A3 (A0 5) (A3 (A0 5) A8)) D6) (K4 A8) dNe)) (C4 (b2 (C1 (A3 (A0 5) (A3 (A0 5) A8)) F7) (K4 A8) dNe))) (K8 (vC (.bool false))) E5)))
noncomputable def Vw:Dn->Out:=(K8 (Vs (b2 (b2 (A0 3) (b1 (vC (.int 1)) Dh) dIx) (A0 1) dEq) (b2 (b2 (C1 (A3 (A0 1) A8) W8) (b2 (A0 2) (b1 (vC (.int 1)) Dh) dIx) dIx) (C1 (A3 (A0 1) A8) E9) dEq)))
noncomputable def bY:Dn->Out:=(B9 Vy (B9 Vx (B9 Nf (B9 Nd Vw))))
noncomputable def dA:List wY->Res wY:=fnD Lr bY
end Sm
end
noncomputable section
namespace Sm
open PySem PySem.Spec PyProof.Rows L2
variable {P:yD} {w:yR} {K:xF} {mg:Str->Option xB} {base:zN} {X:Cx}
theorem Oh:FnScope T7 ["deed"] (A6 (top 2)):=⟨rfl,rfl,rfl,by decide +kernel,rfl,by decide +kernel,by decide +kernel⟩
theorem Kv  (T:Txt mg) (C:Cxt P w K mg base X T7 (A6 (top 2)) 0 true):DSs X E0k (B7 (top 2)) T9 :=
 (C2 (J2 (qS (Tu C (D5 (A4 C 0 ⋯) B0) Q8) (Bv C ⋯ T.b_len (A5 (D5 (A4 C 0 ⋯) B0) B4)) B0)))
theorem Ol:FnScope X3 ["book"] (A6 (top 4)):=⟨rfl,rfl,rfl,by decide +kernel,rfl,by decide +kernel,by decide +kernel⟩
theorem Ky  (T:Txt mg) (F_signs_added:Fn P w K mg base "signs_added" 1 1 F6) (C:Cxt P w K mg base X X3 (A6 (top 4)) 1 true):DSN X E0k (B7 (top 4)) Ac :=
 (Co (Ir C 1 ⋯) (Co (s_grp C 1 2 ⋯ ⋯ (L4 (A4 C 0 ⋯)) (t_gt C (C8 C F_signs_added (by decide) ⋯ (A5 (A4 C 2 ⋯) B4)) B0) (D5 (A4 C 2 ⋯) B0) (A4 C 2 ⋯) ⟨rfl,rfl,rfl,rfl⟩ (fun _=>rfl) rfl rfl rfl rfl rfl rfl) (cX C 1 ⋯)))
theorem Wm:FnScope O6 ["book"] (A6 (top 5)):=⟨rfl,rfl,rfl,by decide +kernel,rfl,by decide +kernel,by decide +kernel⟩
theorem Qi  (T:Txt mg) (F_adds_behind:FnN P w K mg base "adds_behind" 2 1 O9) (C:Cxt P w K mg base X O6 (A6 (top 5)) 2 true):DS X E0k (stm 5 0) Cd :=
 (Fe C 1 ⋯ (Kl C F_adds_behind (by decide) ⋯ (A5 (A4 C 0 ⋯) B4)))
theorem Qh  (T:Txt mg) (C:Cxt P w K mg base X O6 (A6 (top 5)) 2 true):DS X E0k (stm 5 1) Cc :=
 (aA C 2 ⋯ ⋯ [] [] ⋯ (L4 (mE C 1 ⋯ Vb (N5 (V1 B4)))) (fun X' C'=>Y8) (fun X' C'=>(K6 (A5 (A4 C' 0 ⋯) (A5 B0 B4)))))
theorem Qg  (T:Txt mg) (C:Cxt P w K mg base X O6 (A6 (top 5)) 2 true):DS X E0k (stm 5 2) Gk :=
 (Oo C 3 ⋯ (V1 B4))
theorem Qf  (T:Txt mg) (C:Cxt P w K mg base X O6 (A6 (top 5)) 2 true):DS X E0k (stm 5 3) Cb :=
 (bZ C (t_own C 2 ⋯) (A9 (s_pop C 2 4 ⋯ ⋯) (A9 (E4 C 5 ⋯ (D5 (A4 C 4 ⋯) B0)) (A9 (E4 C 6 ⋯ (D5 (A4 C 4 ⋯) B0)) (A9 (E4 C 7 ⋯ (K6 (A5 (D5 (A4 C 5 ⋯) B0) (A5 (A4 C 6 ⋯) B4)))) (A9 (Iu C 3 ⋯ (K6 (A5 (A4 C 7 ⋯) (A5 (D5 (D5 (A4 C 5 ⋯) B0) (A4 C 6 ⋯)) B4)))) (A9 (Bo (eN C (D1 (A4 C 6 ⋯) B0) (Bv C ⋯ T.b_len (A5 (D5 (A4 C 5 ⋯) B0) B4))) (C2 (Iu C 2 ⋯ (K6 (A5 (A4 C 5 ⋯) (A5 (D1 (A4 C 6 ⋯) B0) B4))))) M6) (C2 (s_ext C 2 ⋯ (O4 C [] [] ⋯ (L4 (mE C 1 ⋯ (A4 C 7 ⋯) (N5 (V1 B4)))) (fun X' C'=>Y8) (fun X' C'=>(K6 (A5 (A4 C' 0 ⋯) (A5 B0 B4))))))))))))))
theorem Qe  (T:Txt mg) (C:Cxt P w K mg base X O6 (A6 (top 5)) 2 true):DS X E0k (stm 5 4) Gj :=
 (aC 3 (J2 (A4 C 3 ⋯)))
theorem Ri  (T:Txt mg) (F_adds_behind:FnN P w K mg base "adds_behind" 2 1 O9) (C:Cxt P w K mg base X O6 (A6 (top 5)) 2 true):DSs X E0k (B7 (top 5)) Dv:=by
 have h:B7 (top 5)=[stm 5 0,stm 5 1,stm 5 2,stm 5 3,stm 5 4]:=by kernel_rfl
 rw [h];exact (A9 (Qi T F_adds_behind C) (A9 (Qh T C) (A9 (Qg T C) (A9 (Qf T C) (C2 (Qe T C))))))
theorem Tz:FnScope Bw ["book"] (A6 (top 6)):=⟨rfl,rfl,rfl,by decide +kernel,rfl,by decide +kernel,by decide +kernel⟩
theorem Pt  (T:Txt mg) (C:Cxt P w K mg base X Bw (A6 (top 6)) 0 true):DSN X E0k (B7 (top 6)) Cg :=
 (Co (Ir C 1 ⋯) (Co (U4 C 2 ⋯ (i_rev C ⋯ T.b_reversed (A4 C 0 ⋯)) (C2 (Bo (w_t (Mw (Tu C (D5 (A4 C 2 ⋯) B0) Q8) (Gx (Nc C 1 ⋯ (D5 (A4 C 2 ⋯) B0))))) (C2 (On C 1 ⋯ (D5 (A4 C 2 ⋯) B0) Cp)) M6))) (cX C 1 ⋯)))
theorem Qo:FnScope Ai ["book", "undone"] (A6 (top 7)):=⟨rfl,rfl,rfl,by decide +kernel,rfl,by decide +kernel,by decide +kernel⟩
theorem Me  (T:Txt mg) (C:Cxt P w K mg base X Ai (A6 (top 7)) 0 true):DSN X E0k (B7 (top 7)) Bg :=
 (Co (Ir C 2 ⋯) (Co (U4 C 3 ⋯ (L4 (A4 C 0 ⋯)) (C2 (Bo (w_t (Mw (Tu C (D5 (A4 C 3 ⋯) B0) Q8) (Gx (Nc C 1 ⋯ (D5 (A4 C 3 ⋯) B0))))) (C2 (U4 C 4 ⋯ (L4 (D5 (A4 C 3 ⋯) B0)) (C2 (On C 2 ⋯ (A4 C 4 ⋯) Cp)))) M6))) (cX C 2 ⋯)))
theorem Oi:FnScope J3 ["book"] (A6 (top 8)):=⟨rfl,rfl,rfl,by decide +kernel,rfl,by decide +kernel,by decide +kernel⟩
theorem Jx  (T:Txt mg) (F_undone_in:FnN P w K mg base "undone_in" 1 1 K5) (C:Cxt P w K mg base X J3 (A6 (top 8)) 3 true):DS X E0k (stm 8 0) W4 :=
 (Fe C 1 ⋯ (Kl C F_undone_in (by decide) ⋯ (A5 (A4 C 0 ⋯) B4)))
theorem Jw  (T:Txt mg) (F_dropped_in:FnSN P w K mg base "dropped_in" 1 2 L8) (C:Cxt P w K mg base X J3 (A6 (top 8)) 3 true):DS X E0k (stm 8 1) W3 :=
 (rR 1 (Fe C 2 ⋯ (kP C F_dropped_in (by decide) ⋯ (A4 C 0 ⋯) 1 ⋯)))
theorem Jv  (T:Txt mg) (C:Cxt P w K mg base X J3 (A6 (top 8)) 3 true):DS X E0k (stm 8 2) Cs :=
 (Oo C 3 ⋯ (V1 B4))
theorem Ju  (T:Txt mg) (F_signs_of:Fn P w K mg base "signs_of" 3 1 W9) (C:Cxt P w K mg base X J3 (A6 (top 8)) 3 true):DS X E0k (stm 8 3) Q0 :=
 (U4 C 4 ⋯ (L4 (C8 C F_signs_of (by decide) ⋯ (A5 (A4 C 0 ⋯) B4))) (C2 (Iu C 3 ⋯ (K6 (A5 (A4 C 4 ⋯) (A5 (sK (Yn C 1 ⋯ (D5 (D5 (A4 C 4 ⋯) B0) B0)) (sJ (Yn C 2 ⋯ (D5 (A4 C 4 ⋯) B0)))) B4))))))
theorem Jt  (T:Txt mg) (C:Cxt P w K mg base X J3 (A6 (top 8)) 3 true):DS X E0k (stm 8 4) Cr :=
 (aC 3 (J2 (A4 C 3 ⋯)))
theorem Kw  (T:Txt mg) (F_dropped_in:FnSN P w K mg base "dropped_in" 1 2 L8) (F_signs_of:Fn P w K mg base "signs_of" 3 1 W9) (F_undone_in:FnN P w K mg base "undone_in" 1 1 K5) (C:Cxt P w K mg base X J3 (A6 (top 8)) 3 true):DSs X E0k (B7 (top 8)) Aa:=by
 have h:B7 (top 8)=[stm 8 0,stm 8 1,stm 8 2,stm 8 3,stm 8 4]:=by kernel_rfl
 rw [h];exact (A9 (Jx T F_undone_in C) (A9 (Jw T F_dropped_in C) (A9 (Jv T C) (A9 (Ju T F_signs_of C) (C2 (Jt T C))))))
theorem Wn:FnScope Eg ["book"] (A6 (top 9)):=⟨rfl,rfl,rfl,by decide +kernel,rfl,by decide +kernel,by decide +kernel⟩
theorem Rj  (T:Txt mg) (F_presence_in:Fn P w K mg base "presence_in" 4 1 F2) (C:Cxt P w K mg base X Eg (A6 (top 9)) 4 true):DSs X E0k (B7 (top 9)) Dw :=
 (C2 (J2 (N5 (O4 C [] [] ⋯ (L4 (C8 C F_presence_in (by decide) ⋯ (A5 (A4 C 0 ⋯) B4))) (fun X' C'=>(Ha (Gi (D5 (A4 C' 0 ⋯) B0)))) (fun X' C'=>(D5 (A4 C' 0 ⋯) B0))))))
theorem Zy:FnScope Gd ["book"] (A6 (top 10)):=⟨rfl,rfl,rfl,by decide +kernel,rfl,by decide +kernel,by decide +kernel⟩
theorem Vj  (T:Txt mg) (F_shown_in:Fn P w K mg base "shown_in" 5 1 M7) (C:Cxt P w K mg base X Gd (A6 (top 10)) 5 true):DSs X E0k (B7 (top 10)) Fd :=
 (C2 (J2 (mB (N5 (O4 C [] [] ⋯ (L4 (C8 C F_shown_in (by decide) ⋯ (A5 (A4 C 0 ⋯) B4))) (fun X' C'=>Y8) (fun X' C'=>(D5 (A4 C' 0 ⋯) B0)))))))
theorem Ua:FnScope Bx ["book"] (A6 (top 12)):=⟨rfl,rfl,rfl,by decide +kernel,rfl,by decide +kernel,by decide +kernel⟩
theorem Pu  (T:Txt mg) (F_presence_in:Fn P w K mg base "presence_in" 4 1 F2) (C:Cxt P w K mg base X Bx (A6 (top 12)) 4 true):DSN X E0k (B7 (top 12)) Ch :=
 (Co (Ir C 1 ⋯) (Co (E4 C 2 ⋯ B0) (Co (U4 C 3 ⋯ (L4 (C8 C F_presence_in (by decide) ⋯ (A5 (A4 C 0 ⋯) B4))) (A9 (E4 C 4 ⋯ (A4 C 2 ⋯)) (A9 (Bo (Gi (D5 (A4 C 3 ⋯) B0)) (C2 (E4 C 2 ⋯ (D1 (A4 C 4 ⋯) B0))) M6) (C2 (On C 1 ⋯ (D5 (D5 (A4 C 3 ⋯) B0) B0) (K6 (A5 (A4 C 2 ⋯) (A5 (A4 C 4 ⋯) B4)))))))) (Co (On C 1 ⋯ Vb (K6 (A5 B0 (A5 (A4 C 2 ⋯) B4)))) (cX C 1 ⋯)))))
theorem Wp:FnScope Ei ["places", "anchor"] (A6 (top 13)):=⟨rfl,rfl,rfl,by decide +kernel,rfl,by decide +kernel,by decide +kernel⟩
theorem Rl  (T:Txt mg) (C:Cxt P w K mg base X Ei (A6 (top 13)) 0 true):DSs X E0k (B7 (top 13)) Dx :=
 (C2 (J2 (D5 (mC C 0 ⋯ (D5 (A4 C 1 ⋯) B0)) (mD (qT (z := "lr") C ⋯ T.c_SIDES) (D5 (A4 C 1 ⋯) B0)))))
theorem Qn:FnScope M4 ["book"] (A6 (top 14)):=⟨rfl,rfl,rfl,by decide +kernel,rfl,by decide +kernel,by decide +kernel⟩
theorem Lw  (T:Txt mg) (F_undone_in:FnN P w K mg base "undone_in" 1 1 K5) (C:Cxt P w K mg base X M4 (A6 (top 14)) 1 true):DS X E0k (stm 14 0) Z4 :=
 (Fe C 1 ⋯ (Kl C F_undone_in (by decide) ⋯ (A5 (A4 C 0 ⋯) B4)))
theorem Lv  (T:Txt mg) (C:Cxt P w K mg base X M4 (A6 (top 14)) 1 true):DS X E0k (stm 14 1) Ej :=
 (Ir C 2 ⋯)
theorem Lu  (T:Txt mg) (C:Cxt P w K mg base X M4 (A6 (top 14)) 1 true):DS X E0k (stm 14 2) Z0 :=
 (U4 C 3 ⋯ (L4 (A4 C 0 ⋯)) (C2 (Bo (w_t (Mw (t_in C (D5 (A4 C 3 ⋯) B0) (K6 (A5 Q8 (A5 Q8 B4)))) (Gx (Nc C 1 ⋯ (D5 (A4 C 3 ⋯) B0))))) (C2 (On C 2 ⋯ (D5 (A4 C 3 ⋯) B0) (A4 C 3 ⋯))) M6)))
theorem Ls  (T:Txt mg) (C:Cxt P w K mg base X M4 (A6 (top 14)) 1 true):DS X E0k (stm 14 3) Y9 :=
 (J2 (N5 (O4 C [2] ["last"] ⋯ (L4 (qR C ⋯ T.b_sorted 2 ⋯)) (fun X' C'=>(Ha (Tu C' (D5 (mC C' 1 ⋯ (A4 C' 0 ⋯)) B0) Q8))) (fun X' C'=>(mC C' 1 ⋯ (A4 C' 0 ⋯))))))
theorem Mc  (T:Txt mg) (F_undone_in:FnN P w K mg base "undone_in" 1 1 K5) (C:Cxt P w K mg base X M4 (A6 (top 14)) 1 true):DSs X E0k (B7 (top 14)) Bf:=by
 have h:B7 (top 14)=[stm 14 0,stm 14 1,stm 14 2,stm 14 3]:=by kernel_rfl
 rw [h];exact (A9 (Lw T F_undone_in C) (A9 (Lv T C) (A9 (Lu T C) (C2 (Ls T C)))))
theorem Wo:FnScope U7 ["book"] (A6 (top 15)):=⟨rfl,rfl,rfl,by decide +kernel,rfl,by decide +kernel,by decide +kernel⟩
theorem Qm  (T:Txt mg) (F_places_in:FnN P w K mg base "places_in" 5 1 U9) (C:Cxt P w K mg base X U7 (A6 (top 15)) 5 true):DS X E0k (stm 15 0) Cf :=
 (Fe C 1 ⋯ (Kl C F_places_in (by decide) ⋯ (A5 (A4 C 0 ⋯) B4)))
theorem Ql  (T:Txt mg) (C:Cxt P w K mg base X U7 (A6 (top 15)) 5 true):DS X E0k (stm 15 1) Gn :=
 (Oo C 2 ⋯ (V1 B4))
theorem Qk  (T:Txt mg) (F_anchored:FnS P w K mg base "anchored" 1 2 K0) (F_mark_deeds:Fn P w K mg base "mark_deeds" 2 1 Q3) (C:Cxt P w K mg base X U7 (A6 (top 15)) 5 true):DS X E0k (stm 15 2) Ce :=
 (rR 1 (U4 C 3 ⋯ (L4 (C8 C F_mark_deeds (by decide) ⋯ (A5 (A4 C 0 ⋯) B4))) (A9 (E4 C 4 ⋯ (Yp C F_anchored (by decide) ⋯ 1 ⋯ (D5 (A4 C 3 ⋯) B0))) (C2 (Iu C 2 ⋯ (K6 (A5 (D5 (A4 C 3 ⋯) B0) (A5 (A4 C 4 ⋯) (A5 (d_max C ⋯ T.b_max (A5 (A4 C 4 ⋯) (A5 (Yp C F_anchored (by decide) ⋯ 1 ⋯ (D5 (A4 C 3 ⋯) B0)) B4))) B4)))))))))
theorem Qj  (T:Txt mg) (C:Cxt P w K mg base X U7 (A6 (top 15)) 5 true):DS X E0k (stm 15 3) Gm :=
 (aC 2 (J2 (A4 C 2 ⋯)))
theorem Rk  (T:Txt mg) (F_anchored:FnS P w K mg base "anchored" 1 2 K0) (F_mark_deeds:Fn P w K mg base "mark_deeds" 2 1 Q3) (F_places_in:FnN P w K mg base "places_in" 5 1 U9) (C:Cxt P w K mg base X U7 (A6 (top 15)) 5 true):DSs X E0k (B7 (top 15)) Iq:=by
 have h:B7 (top 15)=[stm 15 0,stm 15 1,stm 15 2,stm 15 3]:=by kernel_rfl
 rw [h];exact (A9 (Qm T F_places_in C) (A9 (Ql T C) (A9 (Qk T F_anchored F_mark_deeds C) (C2 (Qj T C)))))
theorem jA:FnScope Vo ["change", "sign", "there"] (A6 (top 17)):=⟨rfl,rfl,rfl,by decide +kernel,rfl,by decide +kernel,by decide +kernel⟩
theorem bB  (T:Txt mg) (C:Cxt P w K mg base X Vo (A6 (top 17)) 0 true):DSs X E0k (B7 (top 17)) Ru :=
 (A9 (Bo (Gi (A4 C 2 ⋯)) (C2 (J2 (K6 (A5 (D5 (A4 C 0 ⋯) B0) (A5 (D5 (A4 C 0 ⋯) B0) (A5 (D1 (D5 (A4 C 0 ⋯) B0) (A4 C 1 ⋯)) B4)))))) M6) (C2 (J2 (K6 (A5 (D5 (A4 C 0 ⋯) B0) (A5 (D1 (D5 (A4 C 0 ⋯) B0) (A4 C 1 ⋯)) (A5 (D5 (A4 C 0 ⋯) B0) B4)))))))
theorem Hg:FnScope E1 ["less", "more"] (A6 (top 18)):=⟨rfl,rfl,rfl,by decide +kernel,rfl,by decide +kernel,by decide +kernel⟩
theorem Fa  (T:Txt mg) (F_shown_in:Fn P w K mg base "shown_in" 5 1 M7) (C:Cxt P w K mg base X E1 (A6 (top 18)) 5 true):DS X E0k (stm 18 0) P6 :=
 (Fe C 2 ⋯ (cY C ⋯ T.b_dict (N5 (O4 C [] [] ⋯ (L4 (C8 C F_shown_in (by decide) ⋯ (A5 (A4 C 0 ⋯) B4))) (fun X' C'=>Y8) (fun X' C'=>(K6 (A5 (D5 (A4 C' 0 ⋯) B0) (A5 Cp B4))))))))
theorem Ez  (T:Txt mg) (C:Cxt P w K mg base X E1 (A6 (top 18)) 5 true):DS X E0k (stm 18 1) X8 :=
 (Oo C 3 ⋯ (V1 B4))
theorem Ey  (T:Txt mg) (C:Cxt P w K mg base X E1 (A6 (top 18)) 5 true):DS X E0k (stm 18 2) X7 :=
 (E4 C 4 ⋯ Cp)
theorem Ex  (T:Txt mg) (C:Cxt P w K mg base X E1 (A6 (top 18)) 5 true):DS X E0k (stm 18 3) X6 :=
 (E4 C 5 ⋯ B0)
theorem Ew  (T:Txt mg) (F_grown:Fn P w K mg base "grown" 1 3 Bu) (F_presence_in:Fn P w K mg base "presence_in" 4 1 F2) (C:Cxt P w K mg base X E1 (A6 (top 18)) 5 true):DS X E0k (stm 18 4) P5 :=
 (U4 C 6 ⋯ (L4 (C8 C F_presence_in (by decide) ⋯ (A5 (A4 C 1 ⋯) B4))) (A9 (E4 C 7 ⋯ (D5 (A4 C 6 ⋯) B0)) (A9 (E4 C 8 ⋯ (D5 (A4 C 6 ⋯) B0)) (A9 (E4 C 9 ⋯ (d_inN C 2 ⋯ (D5 (A4 C 7 ⋯) B0))) (A9 (Bo (w_t (Mw (Gi (A4 C 9 ⋯)) (Gx (Gi (A4 C 8 ⋯))))) (C2 (E4 C 4 ⋯ Cp)) (C2 (Bo (w_t (gZ (Gi (A4 C 9 ⋯)) (bM (Gi (A4 C 8 ⋯))))) (A9 (Bo (rO (Gi (A4 C 4 ⋯))) (C2 (Iu C 3 ⋯ (K6 (A5 (A4 C 5 ⋯) (A5 Q8 (A5 Q8 B4)))))) M6) (A9 (E4 C 4 ⋯ Cp) (C2 (tM C 3 ⋯ (Ln B0) (qP 3 (C8 C F_grown (by decide) ⋯ (A5 (D5 (A4 C 3 ⋯) (Ln B0)) (A5 (D5 (A4 C 7 ⋯) B0) (A5 (A4 C 8 ⋯) B4))))))))) M6))) (C2 (Bo (Gi (A4 C 8 ⋯)) (C2 (E4 C 5 ⋯ (D1 (A4 C 5 ⋯) B0))) M6)))))))
theorem Ev  (T:Txt mg) (C:Cxt P w K mg base X E1 (A6 (top 18)) 5 true):DS X E0k (stm 18 5) X5 :=
 (aC 3 (J2 (A4 C 3 ⋯)))
theorem Ft  (T:Txt mg) (F_grown:Fn P w K mg base "grown" 1 3 Bu) (F_presence_in:Fn P w K mg base "presence_in" 4 1 F2) (F_shown_in:Fn P w K mg base "shown_in" 5 1 M7) (C:Cxt P w K mg base X E1 (A6 (top 18)) 5 true):DSs X E0k (B7 (top 18)) Q9:=by
 have h:B7 (top 18)=[stm 18 0,stm 18 1,stm 18 2,stm 18 3,stm 18 4,stm 18 5]:=by kernel_rfl
 rw [h];exact (A9 (Fa T F_shown_in C) (A9 (Ez T C) (A9 (Ey T C) (A9 (Ex T C) (A9 (Ew T F_grown F_presence_in C) (C2 (Ev T C)))))))
theorem Qp:FnScope Eh ["text", "changes"] (A6 (top 19)):=⟨rfl,rfl,rfl,by decide +kernel,rfl,by decide +kernel,by decide +kernel⟩
theorem Mf  (T:Txt mg) (C:Cxt P w K mg base X Eh (A6 (top 19)) 0 true):DSs X E0k (B7 (top 19)) Bh :=
 (A9 (E4 C 2 ⋯ (A4 C 0 ⋯)) (A9 (U4 C 3 ⋯ (L4 (A4 C 1 ⋯)) (A9 (E4 C 4 ⋯ (D5 (A4 C 3 ⋯) B0)) (C2 (E4 C 2 ⋯ (D1 (D1 (Fm (A4 C 2 ⋯) Fi (Cm (A4 C 4 ⋯))) (D5 (A4 C 3 ⋯) B0)) (Fm (A4 C 2 ⋯) (Cm (D1 (A4 C 4 ⋯) (Bv C ⋯ T.b_len (A5 (D5 (A4 C 3 ⋯) B0) B4)))) Fi)))))) (C2 (J2 (A4 C 2 ⋯)))))
theorem Er:FnScope M3 ["book"] (A6 (top 20)):=⟨rfl,rfl,rfl,by decide +kernel,rfl,by decide +kernel,by decide +kernel⟩
theorem Dj  (T:Txt mg) (F_marks_of:Fn P w K mg base "marks_of" 6 1 I9) (C:Cxt P w K mg base X M3 (A6 (top 20)) 6 true):DSN X E0k (B7 (top 20)) O2 :=
 (vI (cY C ⋯ T.b_dict (N5 (O4 C [] [] ⋯ (L4 (C8 C F_marks_of (by decide) ⋯ (A5 (A4 C 0 ⋯) B4))) (fun X' C'=>Y8) (fun X' C'=>(K6 (A5 (D5 (A4 C' 0 ⋯) B0) (A5 (K6 (A5 (D5 (A4 C' 0 ⋯) B0) (A5 (D5 (A4 C' 0 ⋯) B0) B4))) B4))))))))
theorem Oj:FnScope K7 ["less", "more"] (A6 (top 21)):=⟨rfl,rfl,rfl,by decide +kernel,rfl,by decide +kernel,by decide +kernel⟩
theorem Kc  (T:Txt mg) (F_stretches_by_names:FnN P w K mg base "stretches_by_names" 7 1 C9) (C:Cxt P w K mg base X K7 (A6 (top 21)) 7 true):DS X E0k (stm 21 0) W7 :=
 (Fe C 2 ⋯ (Kl C F_stretches_by_names (by decide) ⋯ (A5 (A4 C 0 ⋯) B4)))
theorem Kb  (T:Txt mg) (F_stretches_by_names:FnN P w K mg base "stretches_by_names" 7 1 C9) (C:Cxt P w K mg base X K7 (A6 (top 21)) 7 true):DS X E0k (stm 21 1) W6 :=
 (Fe C 3 ⋯ (Kl C F_stretches_by_names (by decide) ⋯ (A5 (A4 C 1 ⋯) B4)))
theorem Ka  (T:Txt mg) (C:Cxt P w K mg base X K7 (A6 (top 21)) 7 true):DS X E0k (stm 21 2) Cu :=
 (Oo C 4 ⋯ (V1 B4))
theorem Jz  (T:Txt mg) (C:Cxt P w K mg base X K7 (A6 (top 21)) 7 true):DS X E0k (stm 21 3) W5 :=
 (U4 C 5 ⋯ (L4 (qQ C ⋯ T.b_sorted ⋯ T.b_set 2 3 ⋯ ⋯)) (C2 (Bo (Tt C (Vc C 2 ⋯ (A4 C 5 ⋯)) (Vc C 3 ⋯ (A4 C 5 ⋯))) (C2 (Iu C 4 ⋯ (K6 (A5 (A4 C 5 ⋯) (A5 (Vc C 2 ⋯ (A4 C 5 ⋯)) (A5 (Vc C 3 ⋯ (A4 C 5 ⋯)) B4)))))) M6)))
theorem Jy  (T:Txt mg) (C:Cxt P w K mg base X K7 (A6 (top 21)) 7 true):DS X E0k (stm 21 4) Ct :=
 (aC 4 (J2 (A4 C 4 ⋯)))
theorem Kx  (T:Txt mg) (F_stretches_by_names:FnN P w K mg base "stretches_by_names" 7 1 C9) (C:Cxt P w K mg base X K7 (A6 (top 21)) 7 true):DSs X E0k (B7 (top 21)) Ab:=by
 have h:B7 (top 21)=[stm 21 0,stm 21 1,stm 21 2,stm 21 3,stm 21 4]:=by kernel_rfl
 rw [h];exact (A9 (Kc T F_stretches_by_names C) (A9 (Kb T F_stretches_by_names C) (A9 (Ka T C) (A9 (Jz T C) (C2 (Jy T C))))))
theorem jB:FnScope Vp ["book", "time"] (A6 (top 23)):=⟨rfl,rfl,rfl,by decide +kernel,rfl,by decide +kernel,by decide +kernel⟩
theorem bC  (T:Txt mg) (C:Cxt P w K mg base X Vp (A6 (top 23)) 0 true):DSs X E0k (B7 (top 23)) Rv :=
 (C2 (J2 (aS C ⋯ T.b_tuple (A5 (N5 (O4 C [1] ["time"] ⋯ (L4 (A4 C 0 ⋯)) (fun X' C'=>(Ha (sW C' (D5 (D5 (A4 C' 0 ⋯) B0) B0) (A4 C' 1 ⋯)))) (fun X' C'=>(A4 C' 0 ⋯)))) B4))))
theorem Wj:FnScope Ig ["book"] (A6 (top 24)):=⟨rfl,rfl,rfl,by decide +kernel,rfl,by decide +kernel,by decide +kernel⟩
theorem Rg  (T:Txt mg) (C:Cxt P w K mg base X Ig (A6 (top 24)) 0 true):DSs X E0k (B7 (top 24)) Io :=
 (C2 (J2 (Kt C ⋯ T.b_sorted ⋯ T.b_set (A5 (D1 (N5 (V1 (A5 B0 B4))) (N5 (O4 C [] [] ⋯ (L4 (A4 C 0 ⋯)) (fun X' C'=>Y8) (fun X' C'=>(D5 (D5 (A4 C' 0 ⋯) B0) B0))))) B4))))
theorem Zz:FnScope Lf ["book", "time"] (A6 (top 25)):=⟨rfl,rfl,rfl,by decide +kernel,rfl,by decide +kernel,by decide +kernel⟩
theorem Vk  (T:Txt mg) (F_as_of:Fn P w K mg base "as_of" 1 2 Ea) (F_text_of:Fn P w K mg base "text_of" 6 1 E9) (C:Cxt P w K mg base X Lf (A6 (top 25)) 6 true):DSs X E0k (B7 (top 25)) Lj :=
 (C2 (J2 (C8 C F_text_of (by decide) ⋯ (A5 (C8 C F_as_of (by decide) ⋯ (A5 (A4 C 0 ⋯) (A5 (A4 C 1 ⋯) B4))) B4))))
theorem Wl:FnScope Ih ["book"] (A6 (top 26)):=⟨rfl,rfl,rfl,by decide +kernel,rfl,by decide +kernel,by decide +kernel⟩
theorem Rh  (T:Txt mg) (F_text_at:Fn P w K mg base "text_at" 7 2 Dc) (F_times_of:Fn P w K mg base "times_of" 1 1 Dz) (C:Cxt P w K mg base X Ih (A6 (top 26)) 7 true):DSs X E0k (B7 (top 26)) Ip :=
 (A9 (Oo C 1 ⋯ (V1 B4)) (A9 (U4 C 2 ⋯ (L4 (C8 C F_times_of (by decide) ⋯ (A5 (A4 C 0 ⋯) B4))) (A9 (bZ C (sV 1 (eN C (Bv C ⋯ T.b_len (A5 (A4 C 1 ⋯) B4)) (A4 C 2 ⋯))) (C2 (Iu C 1 ⋯ (wH 1 (D5 (A4 C 1 ⋯) (Ln B0)))))) (C2 (Iu C 1 ⋯ (C8 C F_text_at (by decide) ⋯ (A5 (A4 C 0 ⋯) (A5 (A4 C 2 ⋯) B4))))))) (C2 (aC 1 (J2 (A4 C 1 ⋯))))))
theorem Uc:FnScope Bz ["_law_script", "_law_k"] (A6 (top 28)):=⟨rfl,rfl,rfl,by decide +kernel,rfl,by decide +kernel,by decide +kernel⟩
theorem Pw  (T:Txt mg) (C:Cxt P w K mg base X Bz (A6 (top 28)) 0 true):DSs X E0k (B7 (top 28)) Cj :=
 (A9 (Bo (Tu C (A4 C 0 ⋯) (N5 (V1 B4))) (C2 (J2 (Dg B0 (A4 C 1 ⋯)))) M6) (C2 (J2 (D1 (D5 (A4 C 0 ⋯) (Sw (A4 C 1 ⋯) (Bv C ⋯ T.b_len (A5 (A4 C 0 ⋯) B4)))) (Dg B0 (Vd (A4 C 1 ⋯) (Bv C ⋯ T.b_len (A5 (A4 C 0 ⋯) B4))))))))
theorem Qt:FnScope Al ["_law_script", "_law_k", "_law_many"] (A6 (top 29)):=⟨rfl,rfl,rfl,by decide +kernel,rfl,by decide +kernel,by decide +kernel⟩
theorem Mj  (T:Txt mg) (F__law_cell:Fn P w K mg base "_law_cell" 1 2 Y3) (C:Cxt P w K mg base X Al (A6 (top 29)) 1 true):DSs X E0k (B7 (top 29)) Bm :=
 (A9 (E4 C 3 ⋯ (Sw (D1 (Dg (Sw (C8 C F__law_cell (by decide) ⋯ (A5 (A4 C 0 ⋯) (A5 (A4 C 1 ⋯) B4))) B0) B0) (Dg B0 (D1 (A4 C 1 ⋯) B0))) B0)) (A9 (E4 C 3 ⋯ (Sw (D1 (Dg (A4 C 3 ⋯) (A4 C 3 ⋯)) (Vd (A4 C 3 ⋯) B0)) B0)) (C2 (J2 (Sw (Vd (Sw (D1 (Dg (A4 C 3 ⋯) (A4 C 3 ⋯)) (Vd (A4 C 3 ⋯) B0)) B0) B0) (A4 C 2 ⋯))))))
theorem Qs:FnScope O7 ["_law_script", "_law_at"] (A6 (top 30)):=⟨rfl,rfl,rfl,by decide +kernel,rfl,by decide +kernel,by decide +kernel⟩
theorem Lz  (T:Txt mg) (C:Cxt P w K mg base X O7 (A6 (top 30)) 2 true):DS X E0k (stm 30 0) Z9 :=
 (Oo C 2 ⋯ (V1 B4))
theorem Ly  (T:Txt mg) (F__law_drawn:Fn P w K mg base "_law_drawn" 2 3 B3) (C:Cxt P w K mg base X O7 (A6 (top 30)) 2 true):DS X E0k (stm 30 1) Z8 :=
 (U4 C 3 ⋯ (Jg C ⋯ T.b_range (A5 B0 B4)) (A9 (E4 C 4 ⋯ (Dg (D5 Q8 (C8 C F__law_drawn (by decide) ⋯ (A5 (A4 C 0 ⋯) (A5 (D1 (A4 C 1 ⋯) (Dg B0 (A4 C 3 ⋯))) (A5 B0 B4))))) (C8 C F__law_drawn (by decide) ⋯ (A5 (A4 C 0 ⋯) (A5 (D1 (D1 (A4 C 1 ⋯) (Dg B0 (A4 C 3 ⋯))) B0) (A5 B0 B4)))))) (C2 (Iu C 2 ⋯ (D5 (N5 (V1 (A5 (D1 (A4 C 4 ⋯) (D5 Q8 (A4 C 3 ⋯))) (A5 (D1 (D5 Q8 (A4 C 3 ⋯)) (A4 C 4 ⋯)) B4)))) (C8 C F__law_drawn (by decide) ⋯ (A5 (A4 C 0 ⋯) (A5 (D1 (A4 C 1 ⋯) B0) (A5 B0 B4)))))))))
theorem Lx  (T:Txt mg) (C:Cxt P w K mg base X O7 (A6 (top 30)) 2 true):DS X E0k (stm 30 2) Z5 :=
 (aC 2 (J2 (A4 C 2 ⋯)))
theorem Mi  (T:Txt mg) (F__law_drawn:Fn P w K mg base "_law_drawn" 2 3 B3) (C:Cxt P w K mg base X O7 (A6 (top 30)) 2 true):DSs X E0k (B7 (top 30)) Bl:=by
 have h:B7 (top 30)=[stm 30 0,stm 30 1,stm 30 2]:=by kernel_rfl
 rw [h];exact (A9 (Lz T C) (A9 (Ly T F__law_drawn C) (C2 (Lx T C))))
theorem Qq:FnScope Aj ["_law_script", "_law_at"] (A6 (top 31)):=⟨rfl,rfl,rfl,by decide +kernel,rfl,by decide +kernel,by decide +kernel⟩
theorem Mg  (T:Txt mg) (F__law_drawn:Fn P w K mg base "_law_drawn" 2 3 B3) (C:Cxt P w K mg base X Aj (A6 (top 31)) 2 true):DSs X E0k (B7 (top 31)) Bi :=
 (C2 (J2 (mB (N5 (O4 C [0,1] ["_law_script", "_law_at"] ⋯ (Jg C ⋯ T.b_range (A5 (D1 B0 (C8 C F__law_drawn (by decide) ⋯ (A5 (A4 C 0 ⋯) (A5 (D1 (A4 C 1 ⋯) B0) (A5 B0 B4))))) B4)) (fun X' C'=>Y8) (fun X' C'=>(D5 Q8 (C8 C' F__law_drawn (by decide) ⋯ (A5 (A4 C' 1 ⋯) (A5 (D1 (A4 C' 2 ⋯) (A4 C' 0 ⋯)) (A5 B0 B4)))))))))))
theorem Qr:FnScope Ak ["_law_book_here"] (A6 (top 32)):=⟨rfl,rfl,rfl,by decide +kernel,rfl,by decide +kernel,by decide +kernel⟩
theorem Mh  (T:Txt mg) (C:Cxt P w K mg base X Ak (A6 (top 32)) 0 true):DSs X E0k (B7 (top 32)) Bj :=
 (A9 (E4 C 1 ⋯ (N5 (V1 B4))) (A9 (U4 C 2 ⋯ (L4 (A4 C 0 ⋯)) (C2 (Bo (Tu C (D5 (A4 C 2 ⋯) B0) Q8) (C2 (E4 C 1 ⋯ (D1 (A4 C 1 ⋯) (N5 (O4 C [2] ["_law_deed_here"] ⋯ (Jg C ⋯ T.b_range (A5 (Bv C ⋯ T.b_len (A5 (D5 (A4 C 2 ⋯) B0) B4)) B4)) (fun X' C'=>Y8) (fun X' C'=>(K6 (A5 (D5 (A4 C' 1 ⋯) B0) (A5 (A4 C' 0 ⋯) B4))))))))) M6))) (C2 (J2 (A4 C 1 ⋯)))))
theorem Om:FnScope X4 ["_law_script", "_law_at", "_law_signs_here"] (A6 (top 33)):=⟨rfl,rfl,rfl,by decide +kernel,rfl,by decide +kernel,by decide +kernel⟩
theorem Kz  (T:Txt mg) (F__law_drawn:Fn P w K mg base "_law_drawn" 2 3 B3) (C:Cxt P w K mg base X X4 (A6 (top 33)) 2 true):DSs X E0k (B7 (top 33)) Ae :=
 (A9 (E4 C 3 ⋯ (D5 (D1 (N5 (V1 (A5 Vb B4))) (A4 C 2 ⋯)) (C8 C F__law_drawn (by decide) ⋯ (A5 (A4 C 0 ⋯) (A5 (A4 C 1 ⋯) (A5 (D1 (Bv C ⋯ T.b_len (A5 (A4 C 2 ⋯) B4)) B0) B4)))))) (C2 (J2 (K6 (A5 (A4 C 3 ⋯) (A5 (D5 Q8 (C8 C F__law_drawn (by decide) ⋯ (A5 (A4 C 0 ⋯) (A5 (D1 (A4 C 1 ⋯) B0) (A5 B0 B4))))) B4))))))
theorem Ub:FnScope I0 ["_law_script", "_law_at", "_law_one", "_law_known", "_law_names_here"] (A6 (top 34)):=⟨rfl,rfl,rfl,by decide +kernel,rfl,by decide +kernel,by decide +kernel⟩
theorem Nt  (T:Txt mg) (F__law_signs:Fn P w K mg base "_law_signs" 1 1 Q5) (C:Cxt P w K mg base X I0 (A6 (top 34)) 3 true):DS X E0k (stm 34 0) Az :=
 (E4 C 5 ⋯ (C8 C F__law_signs (by decide) ⋯ (A5 (A4 C 3 ⋯) B4)))
theorem Nr  (T:Txt mg) (F__law_drawn:Fn P w K mg base "_law_drawn" 2 3 B3) (C:Cxt P w K mg base X I0 (A6 (top 34)) 3 true):DS X E0k (stm 34 1) Ay :=
 (E4 C 6 ⋯ (C8 C F__law_drawn (by decide) ⋯ (A5 (A4 C 0 ⋯) (A5 (A4 C 1 ⋯) (A5 B0 B4)))))
theorem Nq  (T:Txt mg) (F__law_drawn:Fn P w K mg base "_law_drawn" 2 3 B3) (C:Cxt P w K mg base X I0 (A6 (top 34)) 3 true):DS X E0k (stm 34 2) Ax :=
 (Bo (w_t (Mw (eN C (A4 C 6 ⋯) B0) (Gx (Tt C (A4 C 5 ⋯) (N5 (V1 B4)))))) (A9 (aB C 8 ⋯ ⋯ [0,1] ["_law_script", "_law_at"] ⋯ (lL C ⋯ T.b_enumerate (A5 (A4 C 5 ⋯) B4)) (fun X' C'=>(Ha (Tu C' (C8 C' F__law_drawn (by decide) ⋯ (A5 (A4 C' 2 ⋯) (A5 (D1 (D1 (A4 C' 3 ⋯) B0) (A4 C' 0 ⋯)) (A5 B0 B4)))) B0))) (fun X' C'=>(A4 C' 1 ⋯))) (C2 (J2 (K6 (A5 Q8 (A5 (A4 C 2 ⋯) (A5 (aS C ⋯ T.b_tuple (A5 (D1 (A4 C 8 ⋯) (Dg (Mq (A4 C 5 ⋯) Fi (Cm B0)) (wI C ⋯ T.b_int (A5 (qU C (A4 C 8 ⋯) (N5 (V1 B4))) B4)))) B4)) B4))))))) M6)
theorem Np  (T:Txt mg) (F__law_anchor:Fn P w K mg base "_law_anchor" 3 3 M8) (F__law_drawn:Fn P w K mg base "_law_drawn" 2 3 B3) (C:Cxt P w K mg base X I0 (A6 (top 34)) 3 true):DS X E0k (stm 34 3) Aw :=
 (Bo (eN C (A4 C 6 ⋯) B0) (A9 (E4 C 9 ⋯ (K6 (A5 (C8 C F__law_anchor (by decide) ⋯ (A5 (A4 C 0 ⋯) (A5 (D1 (A4 C 1 ⋯) B0) (A5 (A4 C 5 ⋯) B4)))) (A5 (C8 C F__law_anchor (by decide) ⋯ (A5 (A4 C 0 ⋯) (A5 (D1 (A4 C 1 ⋯) B0) (A5 (A4 C 5 ⋯) B4)))) B4)))) (C2 (J2 (D1 (K6 (A5 Q8 (A5 (A4 C 2 ⋯) (A5 (D5 (A4 C 4 ⋯) (C8 C F__law_drawn (by decide) ⋯ (A5 (A4 C 0 ⋯) (A5 (D1 (A4 C 1 ⋯) B0) (A5 B0 B4))))) B4)))) (A4 C 9 ⋯))))) M6)
theorem Nn  (T:Txt mg) (F__law_drawn:Fn P w K mg base "_law_drawn" 2 3 B3) (C:Cxt P w K mg base X I0 (A6 (top 34)) 3 true):DS X E0k (stm 34 4) Av :=
 (Bo (Tu C (A4 C 6 ⋯) B0) (C2 (J2 (K6 (A5 Q8 (A5 (A4 C 2 ⋯) (A5 (D5 (A4 C 4 ⋯) (C8 C F__law_drawn (by decide) ⋯ (A5 (A4 C 0 ⋯) (A5 (D1 (A4 C 1 ⋯) B0) (A5 B0 B4))))) B4)))))) M6)
theorem Nm  (T:Txt mg) (F__law_drawn:Fn P w K mg base "_law_drawn" 2 3 B3) (C:Cxt P w K mg base X I0 (A6 (top 34)) 3 true):DS X E0k (stm 34 5) Au :=
 (Bo (w_t (Mw (eN C (A4 C 6 ⋯) B0) (Gx (Tt C (A4 C 3 ⋯) (K6 B4))))) (C2 (J2 (K6 (A5 Q8 (A5 (A4 C 2 ⋯) (A5 (D5 (D5 (A4 C 3 ⋯) (C8 C F__law_drawn (by decide) ⋯ (A5 (A4 C 0 ⋯) (A5 (D1 (A4 C 1 ⋯) B0) (A5 (Bv C ⋯ T.b_len (A5 (A4 C 3 ⋯) B4)) B4))))) B0) B4)))))) M6)
theorem Nl  (T:Txt mg) (F__law_drawn:Fn P w K mg base "_law_drawn" 2 3 B3) (C:Cxt P w K mg base X I0 (A6 (top 34)) 3 true):DS X E0k (stm 34 6) Ar :=
 (E4 C 7 ⋯ (D5 (D1 (D1 (N5 (V1 (A5 Vb B4))) (A4 C 5 ⋯)) (Mq (A4 C 5 ⋯) (Cm (Ln B0)) Fi)) (C8 C F__law_drawn (by decide) ⋯ (A5 (A4 C 0 ⋯) (A5 (D1 (A4 C 1 ⋯) B0) (A5 (D1 (D1 (Bv C ⋯ T.b_len (A5 (A4 C 5 ⋯) B4)) B0) (Bv C ⋯ T.b_len (A5 (Mq (A4 C 5 ⋯) (Cm (Ln B0)) Fi) B4))) B4))))))
theorem Nk  (T:Txt mg) (F__law_words:Fn P w K mg base "_law_words" 3 2 Q4) (C:Cxt P w K mg base X I0 (A6 (top 34)) 3 true):DS X E0k (stm 34 7) Aq :=
 (J2 (K6 (A5 Q8 (A5 (A4 C 2 ⋯) (A5 (A4 C 7 ⋯) (A5 (C8 C F__law_words (by decide) ⋯ (A5 (A4 C 0 ⋯) (A5 (D1 (A4 C 1 ⋯) B0) B4))) B4))))))
theorem Pv  (T:Txt mg) (F__law_anchor:Fn P w K mg base "_law_anchor" 3 3 M8) (F__law_drawn:Fn P w K mg base "_law_drawn" 2 3 B3) (F__law_signs:Fn P w K mg base "_law_signs" 1 1 Q5) (F__law_words:Fn P w K mg base "_law_words" 3 2 Q4) (C:Cxt P w K mg base X I0 (A6 (top 34)) 3 true):DSs X E0k (B7 (top 34)) Ci:=by
 have h:B7 (top 34)=[stm 34 0,stm 34 1,stm 34 2,stm 34 3,stm 34 4,stm 34 5,stm 34 6,stm 34 7]:=by kernel_rfl
 rw [h];exact (A9 (Nt T F__law_signs C) (A9 (Nr T F__law_drawn C) (A9 (Nq T F__law_drawn C) (A9 (Np T F__law_anchor F__law_drawn C) (A9 (Nn T F__law_drawn C) (A9 (Nm T F__law_drawn C) (A9 (Nl T F__law_drawn C) (C2 (Nk T F__law_words C)))))))))
theorem Ud:FnScope N9 ["_law_script", "_law_at", "_law_most", "_law_names_here"] (A6 (top 35)):=⟨rfl,rfl,rfl,by decide +kernel,rfl,by decide +kernel,by decide +kernel⟩
theorem Nx  (T:Txt mg) (C:Cxt P w K mg base X N9 (A6 (top 35)) 4 true):DS X E0k (stm 35 0) Bd :=
 (E4 C 4 ⋯ (K6 B4))
theorem Nw  (T:Txt mg) (C:Cxt P w K mg base X N9 (A6 (top 35)) 4 true):DS X E0k (stm 35 1) Bc :=
 (E4 C 5 ⋯ (K6 (A5 B0 (A5 Q8 B4))))
theorem Nv  (T:Txt mg) (F__law_deed:Fn P w K mg base "_law_deed" 4 5 N8) (F__law_drawn:Fn P w K mg base "_law_drawn" 2 3 B3) (C:Cxt P w K mg base X N9 (A6 (top 35)) 4 true):DS X E0k (stm 35 2) Bb :=
 (U4 C 6 ⋯ (Jg C ⋯ T.b_range (A5 (C8 C F__law_drawn (by decide) ⋯ (A5 (A4 C 0 ⋯) (A5 (A4 C 1 ⋯) (A5 (D1 (A4 C 2 ⋯) B0) B4)))) B4)) (A9 (E4 C 7 ⋯ (D1 (D5 (A4 C 5 ⋯) B0) (C8 C F__law_drawn (by decide) ⋯ (A5 (A4 C 0 ⋯) (A5 (D1 (D1 (A4 C 1 ⋯) B0) (Dg B0 (A4 C 6 ⋯))) (A5 B0 B4)))))) (A9 (E4 C 8 ⋯ (D5 Q8 (C8 C F__law_drawn (by decide) ⋯ (A5 (A4 C 0 ⋯) (A5 (D1 (D1 (A4 C 1 ⋯) B0) (Dg B0 (A4 C 6 ⋯))) (A5 B0 B4)))))) (A9 (Bo (w_t (Mw (Tt C (A4 C 4 ⋯) (K6 B4)) (Gx (sW C (K6 (A5 (A4 C 7 ⋯) (A5 (A4 C 8 ⋯) B4))) (A4 C 5 ⋯))))) (C2 (E4 C 7 ⋯ (D1 (D5 (A4 C 5 ⋯) B0) B0))) M6) (A9 (E4 C 5 ⋯ (K6 (A5 (A4 C 7 ⋯) (A5 (A4 C 8 ⋯) B4)))) (A9 (E4 C 9 ⋯ (aS C ⋯ T.b_tuple (A5 (N5 (O4 C [7] ["_law_time"] ⋯ (L4 (A4 C 4 ⋯)) (fun X' C'=>(Ha (eN C' (D5 (D5 (A4 C' 0 ⋯) B0) B0) (A4 C' 1 ⋯)))) (fun X' C'=>(A4 C' 0 ⋯)))) B4))) (C2 (E4 C 4 ⋯ (D1 (A4 C 4 ⋯) (K6 (A5 (C8 C F__law_deed (by decide) ⋯ (A5 (A4 C 0 ⋯) (A5 (D1 (D1 (A4 C 1 ⋯) B0) (Dg B0 (A4 C 6 ⋯))) (A5 (A4 C 5 ⋯) (A5 (A4 C 9 ⋯) (A5 (A4 C 3 ⋯) B4)))))) B4)))))))))))
theorem Nu  (T:Txt mg) (C:Cxt P w K mg base X N9 (A6 (top 35)) 4 true):DS X E0k (stm 35 3) Ba :=
 (J2 (A4 C 4 ⋯))
theorem Px  (T:Txt mg) (F__law_deed:Fn P w K mg base "_law_deed" 4 5 N8) (F__law_drawn:Fn P w K mg base "_law_drawn" 2 3 B3) (C:Cxt P w K mg base X N9 (A6 (top 35)) 4 true):DSs X E0k (B7 (top 35)) Ck:=by
 have h:B7 (top 35)=[stm 35 0,stm 35 1,stm 35 2,stm 35 3]:=by kernel_rfl
 rw [h];exact (A9 (Nx T C) (A9 (Nw T C) (A9 (Nv T F__law_deed F__law_drawn C) (C2 (Nu T C)))))
theorem Ke:FnScope L5 ["_law_text", "_law_changes", "_law_due"] (A6 (top 36)):=⟨rfl,rfl,rfl,by decide +kernel,rfl,by decide +kernel,by decide +kernel⟩
theorem Hf  (T:Txt mg) (C:Cxt P w K mg base X L5 (A6 (top 36)) 0 true):DS X E0k (stm 36 0) Ap :=
 (E4 C 3 ⋯ (Ln B0))
theorem He  (T:Txt mg) (C:Cxt P w K mg base X L5 (A6 (top 36)) 0 true):DS X E0k (stm 36 1) U2 :=
 (tP C 4 5 6 ⋯ ⋯ ⋯ (L4 (A4 C 1 ⋯)) (A9 (Bo (w_t (gZ (sW C (A4 C 4 ⋯) (A4 C 3 ⋯)) (gZ (Tu C (D1 (A4 C 5 ⋯) (A4 C 6 ⋯)) Q8) (bM (Tt C (Fm (A4 C 0 ⋯) (Cm (A4 C 4 ⋯)) (Cm (D1 (A4 C 4 ⋯) (Bv C ⋯ T.b_len (A5 (A4 C 5 ⋯) B4))))) (A4 C 5 ⋯)))))) (C2 (J2 Cp)) M6) (A9 (E4 C 0 ⋯ (D1 (D1 (Fm (A4 C 0 ⋯) Fi (Cm (A4 C 4 ⋯))) (A4 C 6 ⋯)) (Fm (A4 C 0 ⋯) (Cm (D1 (A4 C 4 ⋯) (Bv C ⋯ T.b_len (A5 (A4 C 5 ⋯) B4)))) Fi))) (C2 (E4 C 3 ⋯ (D1 (A4 C 4 ⋯) (Bv C ⋯ T.b_len (A5 (A4 C 6 ⋯) B4))))))))
theorem Hd  (T:Txt mg) (C:Cxt P w K mg base X L5 (A6 (top 36)) 0 true):DS X E0k (stm 36 2) Ao :=
 (J2 (qU C (A4 C 0 ⋯) (A4 C 2 ⋯)))
theorem Ia  (T:Txt mg) (C:Cxt P w K mg base X L5 (A6 (top 36)) 0 true):DSs X E0k (B7 (top 36)) V3:=by
 have h:B7 (top 36)=[stm 36 0,stm 36 1,stm 36 2]:=by kernel_rfl
 rw [h];exact (A9 (Hf T C) (A9 (He T C) (C2 (Hd T C))))
theorem tL:FnScope Lr ["_law_script"] (A6 (top 37)):=⟨rfl,rfl,rfl,by decide +kernel,rfl,by decide +kernel,by decide +kernel⟩
theorem iT  (T:Txt mg) (F__law_book:Fn P w K mg base "_law_book" 5 4 Y4) (F__law_names:Fn P w K mg base "_law_names" 3 2 Q6) (C:Cxt P w K mg base X Lr (A6 (top 37)) 8 true):DS X E0k (stm 37 0) Vy :=
 (E4 C 1 ⋯ (C8 C F__law_book (by decide) ⋯ (A5 (A4 C 0 ⋯) (A5 B0 (A5 B0 (A5 (C8 C F__law_names (by decide) ⋯ (A5 (A4 C 0 ⋯) (A5 B0 B4))) B4))))))
theorem iS  (T:Txt mg) (C:Cxt P w K mg base X Lr (A6 (top 37)) 8 true):DS X E0k (stm 37 1) Vx :=
 (E4 C 2 ⋯ (Kt C ⋯ T.b_sorted ⋯ T.b_set (A5 (D1 (N5 (O4 C [] [] ⋯ (L4 (A4 C 1 ⋯)) (fun X' C'=>Y8) (fun X' C'=>(D5 (D5 (A4 C' 0 ⋯) B0) B0)))) (N5 (V1 (A5 B0 B4)))) B4)))
theorem iR  (T:Txt mg) (F_as_of:Fn P w K mg base "as_of" 1 2 Ea) (C:Cxt P w K mg base X Lr (A6 (top 37)) 8 true):DS X E0k (stm 37 2) Nf :=
 (Op C 3 ⋯ ⋯ [1] ["_law_book_here"] ⋯ (L4 (A4 C 2 ⋯)) (fun X' C'=>Y8) (fun X' C'=>(C8 C' F_as_of (by decide) ⋯ (A5 (A4 C' 1 ⋯) (A5 (A4 C' 0 ⋯) B4)))))
theorem iQ  (T:Txt mg) (F__law_is_right:Fn P w K mg base "_law_is_right" 1 3 K3) (F_changed_by:Fn P w K mg base "changed_by" 1 2 O3) (F_changes_between:Fn P w K mg base "changes_between" 6 2 D6) (F_marks_of:Fn P w K mg base "marks_of" 6 1 I9) (F_moved_marks:Fn P w K mg base "moved_marks" 8 2 F7) (F_text_of:Fn P w K mg base "text_of" 6 1 E9) (C:Cxt P w K mg base X Lr (A6 (top 37)) 8 true):DS X E0k (stm 37 3) Nd :=
 (tQ C 4 5 ⋯ ⋯ (lL C ⋯ T.b_enumerate (A5 (A4 C 3 ⋯) B4)) (A9 (U4 C 6 ⋯ (L4 (Mq (A4 C 3 ⋯) (Cm (A4 C 4 ⋯)) Fi)) (A9 (E4 C 7 ⋯ (C8 C F_changes_between (by decide) ⋯ (A5 (A4 C 5 ⋯) (A5 (A4 C 6 ⋯) B4)))) (A9 (E4 C 8 ⋯ (C8 C F_text_of (by decide) ⋯ (A5 (A4 C 6 ⋯) B4))) (A9 (Bo (w_t (gZ (rO (Gi (C8 C F__law_is_right (by decide) ⋯ (A5 (C8 C F_text_of (by decide) ⋯ (A5 (A4 C 5 ⋯) B4)) (A5 (A4 C 7 ⋯) (A5 (A4 C 8 ⋯) B4)))))) (bM (Tt C (C8 C F_changed_by (by decide) ⋯ (A5 (C8 C F_text_of (by decide) ⋯ (A5 (A4 C 5 ⋯) B4)) (A5 (A4 C 7 ⋯) B4))) (A4 C 8 ⋯))))) (C2 (J2 Cp)) M6) (A9 (Op C 9 ⋯ ⋯ [] [] ⋯ (L4 (C8 C F_moved_marks (by decide) ⋯ (A5 (A4 C 5 ⋯) (A5 (A4 C 6 ⋯) B4)))) (fun X' C'=>Y8) (fun X' C'=>(D5 (A4 C' 0 ⋯) B0))) (A9 (E4 C 10 ⋯ (C8 C F_marks_of (by decide) ⋯ (A5 (A4 C 5 ⋯) B4))) (A9 (E4 C 11 ⋯ (C8 C F_marks_of (by decide) ⋯ (A5 (A4 C 6 ⋯) B4))) (A9 (E4 C 12 ⋯ (N5 (O4 C [11] ["_law_after"] ⋯ (L4 (A4 C 10 ⋯)) (fun X' C'=>(Ha (t_in C' (A4 C' 0 ⋯) (A4 C' 1 ⋯)))) (fun X' C'=>(D5 (A4 C' 0 ⋯) B0)))) (Zt C ⋯)) (A9 (E4 C 13 ⋯ (Kt C ⋯ T.b_sorted ⋯ T.b_set (A5 (N5 (O4 C [] [] ⋯ (L4 (D1 (A4 C 10 ⋯) (A4 C 11 ⋯))) (fun X' C'=>Y8) (fun X' C'=>(D5 (A4 C' 0 ⋯) B0)))) B4))) (C2 (Bo (Tt C (A4 C 9 ⋯) (N5 (O4 C [12] ["_law_alike"] ⋯ (L4 (A4 C 13 ⋯)) (fun X' C'=>(Ha (nI C' (A4 C' 0 ⋯) (A4 C' 1 ⋯)))) (fun X' C'=>(A4 C' 0 ⋯))))) (C2 (J2 Cp)) M6))))))))))) (C2 (Bo (w_t (gZ (Tt C (C8 C F_changes_between (by decide) ⋯ (A5 (A4 C 5 ⋯) (A5 (A4 C 5 ⋯) B4))) (N5 (V1 B4))) (bM (Tt C (C8 C F_moved_marks (by decide) ⋯ (A5 (A4 C 5 ⋯) (A5 (A4 C 5 ⋯) B4))) (N5 (V1 B4)))))) (C2 (J2 Cp)) M6))))
theorem iP  (T:Txt mg) (F_text_of:Fn P w K mg base "text_of" 6 1 E9) (F_texts_of:Fn P w K mg base "texts_of" 8 1 W8) (C:Cxt P w K mg base X Lr (A6 (top 37)) 8 true):DS X E0k (stm 37 4) Vw :=
 (J2 (sK (qU C (D5 (A4 C 3 ⋯) (Ln B0)) (A4 C 1 ⋯)) (sJ (qU C (D5 (C8 C F_texts_of (by decide) ⋯ (A5 (A4 C 1 ⋯) B4)) (D5 (A4 C 2 ⋯) (Ln B0))) (C8 C F_text_of (by decide) ⋯ (A5 (A4 C 1 ⋯) B4))))))
theorem mJ  (T:Txt mg) (F__law_book:Fn P w K mg base "_law_book" 5 4 Y4) (F__law_is_right:Fn P w K mg base "_law_is_right" 1 3 K3) (F__law_names:Fn P w K mg base "_law_names" 3 2 Q6) (F_as_of:Fn P w K mg base "as_of" 1 2 Ea) (F_changed_by:Fn P w K mg base "changed_by" 1 2 O3) (F_changes_between:Fn P w K mg base "changes_between" 6 2 D6) (F_marks_of:Fn P w K mg base "marks_of" 6 1 I9) (F_moved_marks:Fn P w K mg base "moved_marks" 8 2 F7) (F_text_of:Fn P w K mg base "text_of" 6 1 E9) (F_texts_of:Fn P w K mg base "texts_of" 8 1 W8) (C:Cxt P w K mg base X Lr (A6 (top 37)) 8 true):DSs X E0k (B7 (top 37)) bY:=by
 have h:B7 (top 37)=[stm 37 0,stm 37 1,stm 37 2,stm 37 3,stm 37 4]:=by kernel_rfl
 rw [h];exact (A9 (iT T F__law_book F__law_names C) (A9 (iS T C) (A9 (iR T F_as_of C) (A9 (iQ T F__law_is_right F_changed_by F_changes_between F_marks_of F_moved_marks F_text_of C) (C2 (iP T F_text_of F_texts_of C))))))
end Sm
end
noncomputable section
namespace Sm
open PySem PySem.Spec PyProof.Rows L2
theorem Pm {K:xF} {mg:Str->Option xB} {h:zN} {x:Str} {st:AR} {ps:List Str} {f:xI} {oc:xB} {od an:Option xI} {osl:Array (Option xB)} {kV doc pm cdv ct:xB} (X:K.In h) (G:h.Ns e8 mg) (a:EE K e8 x=some (some (.ref f)))
   (l:K.lookup f=some ⟨oc,od,.func (zV x x (M0 st) (B7 st) (A6 st) .none kV doc pm an cdv ct),osl⟩) (c:y3 K cdv x=true) (k:j4 K (.ref f)=true)
   (hb:∀ (kV doc pm:xB) (an:Option xI) (cdv ct:xB) (us:List xB),us.length=ps.length->GG (zV x x (M0 st) (B7 st) (A6 st) .none kV doc pm an cdv ct) ⟨us,[]⟩=pure (ps.zip us)):Def K mg x st ps :=
 ⟨f,_,lS l c k,PySem.W.mg_of X G a,(lS l c k).binds hb⟩
theorem Xv:∀ {l:List (xI×Obj)} {a:xI} {o:Obj},l.lookup a=some o->(a,o)∈l
 | [],_,_,h=>nomatch h
 | (b,q)::r,a,o,h=>by
   rw [List.lookup_cons] at h;cases e:a==b with
   | true=>rw [e] at h; cases h; rw [w5 e]; exact .head _
   | false=>rw [e] at h; exact .tail _ (Xv h)
noncomputable def noList (K:xF):Bool:=K.all fun p => !(match p.2.cls with | .type n=>n == "list" | _=>false)
theorem noList.out {K:xF} (h:noList K=true) {a:xI} {o:Obj} (e:K.lookup a=some o):o.cls≠.type "list" := fun z=>by
 have hm:(a,o)∈K:=Xv e;unfold noList at h;have:=j9.mp h _ hm;rw [z] at this;simp at this
theorem O1 {us:List xB} {n:Nat} (h:us.length=n+1):∃ a t,us=a::t/\t.length=n:=by cases us with | nil=>cases h | cons a t=>exact ⟨a,t,rfl,Nat.succ.inj h⟩
theorem qN {K:xF} {mg:Str->Option xB} {h:zN} {x:Str} {st:AR} {ps:List Str} {f:xI} {oc:xB} {od an:Option xI} {osl:Array (Option xB)} {kV doc pm cdv ct:xB} (X:K.In h) (G:h.Ns e8 mg) (a:EE K e8 x=some (some (.ref f)))
   (l:K.lookup f=some ⟨oc,od,.func (zV x x (M0 st) (B7 st) (A6 st) .none kV doc pm an cdv ct),osl⟩) (c:y3 K cdv x=true) (k:j4 K (.ref f)=true)
   (hb:∀ (kV doc pm:xB) (an:Option xI) (cdv ct:xB) (u0:xB),GG (zV x x (M0 st) (B7 st) (A6 st) .none kV doc pm an cdv ct) ⟨[u0],[]⟩=pure (ps.zip [u0])) (hp:ps.length=1):Def K mg x st ps :=
 Pm X G a l c k fun kV doc pm an cdv ct us hl=>by
   have h0:=hl.trans hp; obtain ⟨u0,t0,rfl,h1⟩:=O1 h0;cases c9.mp h1;exact hb kV doc pm an cdv ct u0
theorem qM {K:xF} {mg:Str->Option xB} {h:zN} {x:Str} {st:AR} {ps:List Str} {f:xI} {oc:xB} {od an:Option xI} {osl:Array (Option xB)} {kV doc pm cdv ct:xB} (X:K.In h) (G:h.Ns e8 mg) (a:EE K e8 x=some (some (.ref f)))
   (l:K.lookup f=some ⟨oc,od,.func (zV x x (M0 st) (B7 st) (A6 st) .none kV doc pm an cdv ct),osl⟩) (c:y3 K cdv x=true) (k:j4 K (.ref f)=true)
   (hb:∀ (kV doc pm:xB) (an:Option xI) (cdv ct:xB) (u0 u1:xB),GG (zV x x (M0 st) (B7 st) (A6 st) .none kV doc pm an cdv ct) ⟨[u0,u1],[]⟩=pure (ps.zip [u0,u1])) (hp:ps.length=2):Def K mg x st ps :=
 Pm X G a l c k fun kV doc pm an cdv ct us hl=>by
   have h0:=hl.trans hp; obtain ⟨u0,t0,rfl,h1⟩:=O1 h0; obtain ⟨u1,t1,rfl,h2⟩:=O1 h1;cases c9.mp h2;exact hb kV doc pm an cdv ct u0 u1
theorem qL {K:xF} {mg:Str->Option xB} {h:zN} {x:Str} {st:AR} {ps:List Str} {f:xI} {oc:xB} {od an:Option xI} {osl:Array (Option xB)} {kV doc pm cdv ct:xB} (X:K.In h) (G:h.Ns e8 mg) (a:EE K e8 x=some (some (.ref f)))
   (l:K.lookup f=some ⟨oc,od,.func (zV x x (M0 st) (B7 st) (A6 st) .none kV doc pm an cdv ct),osl⟩) (c:y3 K cdv x=true) (k:j4 K (.ref f)=true)
   (hb:∀ (kV doc pm:xB) (an:Option xI) (cdv ct:xB) (u0 u1 u2:xB),GG (zV x x (M0 st) (B7 st) (A6 st) .none kV doc pm an cdv ct) ⟨[u0,u1,u2],[]⟩=pure (ps.zip [u0,u1,u2])) (hp:ps.length=3):Def K mg x st ps :=
 Pm X G a l c k fun kV doc pm an cdv ct us hl=>by
   have h0:=hl.trans hp; obtain ⟨u0,t0,rfl,h1⟩:=O1 h0; obtain ⟨u1,t1,rfl,h2⟩:=O1 h1; obtain ⟨u2,t2,rfl,h3⟩:=O1 h2;cases c9.mp h3;exact hb kV doc pm an cdv ct u0 u1 u2
theorem qK {K:xF} {mg:Str->Option xB} {h:zN} {x:Str} {st:AR} {ps:List Str} {f:xI} {oc:xB} {od an:Option xI} {osl:Array (Option xB)} {kV doc pm cdv ct:xB} (X:K.In h) (G:h.Ns e8 mg) (a:EE K e8 x=some (some (.ref f)))
   (l:K.lookup f=some ⟨oc,od,.func (zV x x (M0 st) (B7 st) (A6 st) .none kV doc pm an cdv ct),osl⟩) (c:y3 K cdv x=true) (k:j4 K (.ref f)=true)
   (hb:∀ (kV doc pm:xB) (an:Option xI) (cdv ct:xB) (u0 u1 u2 u3:xB),GG (zV x x (M0 st) (B7 st) (A6 st) .none kV doc pm an cdv ct) ⟨[u0,u1,u2,u3],[]⟩=pure (ps.zip [u0,u1,u2,u3])) (hp:ps.length=4):Def K mg x st ps :=
 Pm X G a l c k fun kV doc pm an cdv ct us hl=>by
   have h0:=hl.trans hp; obtain ⟨u0,t0,rfl,h1⟩:=O1 h0; obtain ⟨u1,t1,rfl,h2⟩:=O1 h1; obtain ⟨u2,t2,rfl,h3⟩:=O1 h2; obtain ⟨u3,t3,rfl,h4⟩:=O1 h3;cases c9.mp h4;exact hb kV doc pm an cdv ct u0 u1 u2 u3
theorem qJ {K:xF} {mg:Str->Option xB} {h:zN} {x:Str} {st:AR} {ps:List Str} {f:xI} {oc:xB} {od an:Option xI} {osl:Array (Option xB)} {kV doc pm cdv ct:xB} (X:K.In h) (G:h.Ns e8 mg) (a:EE K e8 x=some (some (.ref f)))
   (l:K.lookup f=some ⟨oc,od,.func (zV x x (M0 st) (B7 st) (A6 st) .none kV doc pm an cdv ct),osl⟩) (c:y3 K cdv x=true) (k:j4 K (.ref f)=true)
   (hb:∀ (kV doc pm:xB) (an:Option xI) (cdv ct:xB) (u0 u1 u2 u3 u4:xB),GG (zV x x (M0 st) (B7 st) (A6 st) .none kV doc pm an cdv ct) ⟨[u0,u1,u2,u3,u4],[]⟩=pure (ps.zip [u0,u1,u2,u3,u4])) (hp:ps.length=5):Def K mg x st ps :=
 Pm X G a l c k fun kV doc pm an cdv ct us hl=>by
   have h0:=hl.trans hp; obtain ⟨u0,t0,rfl,h1⟩:=O1 h0; obtain ⟨u1,t1,rfl,h2⟩:=O1 h1; obtain ⟨u2,t2,rfl,h3⟩:=O1 h2; obtain ⟨u3,t3,rfl,h4⟩:=O1 h3; obtain ⟨u4,t4,rfl,h5⟩:=O1 h4;cases c9.mp h5;exact hb kV doc pm an cdv ct u0 u1 u2 u3 u4
def Defs (K:xF) (mg:Str->Option xB):Prop :=
 Def K mg "law" (top 37) ["_law_script"] /\
 Def K mg "signs_added" (top 2) ["deed"] /\
 Def K mg "adds_behind" (top 4) ["book"] /\
 Def K mg "signs_of" (top 5) ["book"] /\
 Def K mg "undone_in" (top 6) ["book"] /\
 Def K mg "dropped_in" (top 7) ["book", "undone"] /\
 Def K mg "presence_in" (top 8) ["book"] /\
 Def K mg "shown_in" (top 9) ["book"] /\
 Def K mg "text_of" (top 10) ["book"] /\
 Def K mg "places_in" (top 12) ["book"] /\
 Def K mg "anchored" (top 13) ["places", "anchor"] /\
 Def K mg "mark_deeds" (top 14) ["book"] /\
 Def K mg "marks_of" (top 15) ["book"] /\
 Def K mg "grown" (top 17) ["change", "sign", "there"] /\
 Def K mg "changes_between" (top 18) ["less", "more"] /\
 Def K mg "changed_by" (top 19) ["text", "changes"] /\
 Def K mg "stretches_by_names" (top 20) ["book"] /\
 Def K mg "moved_marks" (top 21) ["less", "more"] /\
 Def K mg "as_of" (top 23) ["book", "time"] /\
 Def K mg "times_of" (top 24) ["book"] /\
 Def K mg "text_at" (top 25) ["book", "time"] /\
 Def K mg "texts_of" (top 26) ["book"] /\
 Def K mg "_law_cell" (top 28) ["_law_script", "_law_k"] /\
 Def K mg "_law_drawn" (top 29) ["_law_script", "_law_k", "_law_many"] /\
 Def K mg "_law_names" (top 30) ["_law_script", "_law_at"] /\
 Def K mg "_law_words" (top 31) ["_law_script", "_law_at"] /\
 Def K mg "_law_signs" (top 32) ["_law_book_here"] /\
 Def K mg "_law_anchor" (top 33) ["_law_script", "_law_at", "_law_signs_here"] /\
 Def K mg "_law_deed" (top 34) ["_law_script", "_law_at", "_law_one", "_law_known", "_law_names_here"] /\
 Def K mg "_law_book" (top 35) ["_law_script", "_law_at", "_law_most", "_law_names_here"] /\
 Def K mg "_law_is_right" (top 36) ["_law_text", "_law_changes", "_law_due"]
noncomputable section
variable {P:yD} {w:yR} {K:xF} {mg:Str->Option xB} {base:zN}
theorem vP {f:xI} {fd:DZ} (F:L2.Fun K "law" "law" (top 37) f fd) (T:Txt mg) (D:Defs K mg):FnOk P w K mg base CX0 9 f fd ["_law_script"] (spD 1 dA):=by
 have D_law:=D.1;have R1:=D.2;have D_signs_added:=R1.1;have R2:=R1.2;have D_adds_behind:=R2.1;have R3:=R2.2;have D_signs_of:=R3.1;have R4:=R3.2;have D_undone_in:=R4.1;have R5:=R4.2;have D_dropped_in:=R5.1;have R6:=R5.2;have D_presence_in:=R6.1;have R7:=R6.2;have D_shown_in:=R7.1;have R8:=R7.2;have D_text_of:=R8.1;have R9:=R8.2;have D_places_in:=R9.1;have R10:=R9.2;have D_anchored:=R10.1;have R11:=R10.2;have D_mark_deeds:=R11.1;have R12:=R11.2;have D_marks_of:=R12.1;have R13:=R12.2;have D_grown:=R13.1;have R14:=R13.2;have D_changes_between:=R14.1;have R15:=R14.2;have D_changed_by:=R15.1;have R16:=R15.2
 have D_stretches_by_names:=R16.1;have R17:=R16.2;have D_moved_marks:=R17.1;have R18:=R17.2;have D_as_of:=R18.1;have R19:=R18.2;have D_times_of:=R19.1;have R20:=R19.2;have D_text_at:=R20.1;have R21:=R20.2;have D_texts_of:=R21.1;have R22:=R21.2;have D__law_cell:=R22.1;have R23:=R22.2;have D__law_drawn:=R23.1;have R24:=R23.2;have D__law_names:=R24.1;have R25:=R24.2;have D__law_words:=R25.1;have R26:=R25.2;have D__law_signs:=R26.1;have R27:=R26.2;have D__law_anchor:=R27.1;have R28:=R27.2;have D__law_deed:=R28.1;have R29:=R28.2;have D__law_book:=R29.1;have R30:=R29.2;have D__law_is_right:=R30;have F_signs_added:Fn P w K mg base "signs_added" 1 1 F6:=Ah (k:=0) D_signs_added Oh rfl (fun X C=>Kv T  C) rfl
 have F_adds_behind:FnN P w K mg base "adds_behind" 2 1 O9:=qA (k:=1) D_adds_behind Ol rfl (fun X C=>Ky T F_signs_added C) rfl;have F_signs_of:Fn P w K mg base "signs_of" 3 1 W9:=Ah (k:=2) D_signs_of Wm rfl (fun X C=>Ri T F_adds_behind C) rfl;have F_undone_in:FnN P w K mg base "undone_in" 1 1 K5:=qA (k:=0) D_undone_in Tz rfl (fun X C=>Pt T  C) rfl;have F_dropped_in:FnSN P w K mg base "dropped_in" 1 2 L8:=fn_SN (k:=0) D_dropped_in Qo rfl (fun X C=>Me T  C) rfl;have F_presence_in:Fn P w K mg base "presence_in" 4 1 F2:=Ah (k:=3) D_presence_in Oi rfl (fun X C=>Kw T F_dropped_in F_signs_of F_undone_in C) rfl
 have F_shown_in:Fn P w K mg base "shown_in" 5 1 M7:=Ah (k:=4) D_shown_in Wn rfl (fun X C=>Rj T F_presence_in C) rfl;have F_text_of:Fn P w K mg base "text_of" 6 1 E9:=Ah (k:=5) D_text_of Zy rfl (fun X C=>Vj T F_shown_in C) rfl;have F_places_in:FnN P w K mg base "places_in" 5 1 U9:=qA (k:=4) D_places_in Ua rfl (fun X C=>Pu T F_presence_in C) rfl;have F_anchored:FnS P w K mg base "anchored" 1 2 K0:=fn_S (k:=0) D_anchored Wp rfl (fun X C=>Rl T  C) rfl;have F_mark_deeds:Fn P w K mg base "mark_deeds" 2 1 Q3:=Ah (k:=1) D_mark_deeds Qn rfl (fun X C=>Mc T F_undone_in C) rfl;have F_marks_of:Fn P w K mg base "marks_of" 6 1 I9:=Ah (k:=5) D_marks_of Wo rfl (fun X C=>Rk T F_anchored F_mark_deeds F_places_in C) rfl
 have F_grown:Fn P w K mg base "grown" 1 3 Bu:=Ah (k:=0) D_grown jA rfl (fun X C=>bB T  C) rfl;have F_changes_between:Fn P w K mg base "changes_between" 6 2 D6:=Ah (k:=5) D_changes_between Hg rfl (fun X C=>Ft T F_grown F_presence_in F_shown_in C) rfl;have F_changed_by:Fn P w K mg base "changed_by" 1 2 O3:=Ah (k:=0) D_changed_by Qp rfl (fun X C=>Mf T  C) rfl;have F_stretches_by_names:FnN P w K mg base "stretches_by_names" 7 1 C9:=qA (k:=6) D_stretches_by_names Er rfl (fun X C=>Dj T F_marks_of C) rfl;have F_moved_marks:Fn P w K mg base "moved_marks" 8 2 F7:=Ah (k:=7) D_moved_marks Oj rfl (fun X C=>Kx T F_stretches_by_names C) rfl
 have F_as_of:Fn P w K mg base "as_of" 1 2 Ea:=Ah (k:=0) D_as_of jB rfl (fun X C=>bC T  C) rfl;have F_times_of:Fn P w K mg base "times_of" 1 1 Dz:=Ah (k:=0) D_times_of Wj rfl (fun X C=>Rg T  C) rfl;have F_text_at:Fn P w K mg base "text_at" 7 2 Dc:=Ah (k:=6) D_text_at Zz rfl (fun X C=>Vk T F_as_of F_text_of C) rfl;have F_texts_of:Fn P w K mg base "texts_of" 8 1 W8:=Ah (k:=7) D_texts_of Wl rfl (fun X C=>Rh T F_text_at F_times_of C) rfl;have F__law_cell:Fn P w K mg base "_law_cell" 1 2 Y3:=Ah (k:=0) D__law_cell Uc rfl (fun X C=>Pw T  C) rfl;have F__law_drawn:Fn P w K mg base "_law_drawn" 2 3 B3:=Ah (k:=1) D__law_drawn Qt rfl (fun X C=>Mj T F__law_cell C) rfl
 have F__law_names:Fn P w K mg base "_law_names" 3 2 Q6:=Ah (k:=2) D__law_names Qs rfl (fun X C=>Mi T F__law_drawn C) rfl;have F__law_words:Fn P w K mg base "_law_words" 3 2 Q4:=Ah (k:=2) D__law_words Qq rfl (fun X C=>Mg T F__law_drawn C) rfl;have F__law_signs:Fn P w K mg base "_law_signs" 1 1 Q5:=Ah (k:=0) D__law_signs Qr rfl (fun X C=>Mh T  C) rfl;have F__law_anchor:Fn P w K mg base "_law_anchor" 3 3 M8:=Ah (k:=2) D__law_anchor Om rfl (fun X C=>Kz T F__law_drawn C) rfl;have F__law_deed:Fn P w K mg base "_law_deed" 4 5 N8:=Ah (k:=3) D__law_deed Ub rfl (fun X C=>Pv T F__law_anchor F__law_drawn F__law_signs F__law_words C) rfl
 have F__law_book:Fn P w K mg base "_law_book" 5 4 Y4:=Ah (k:=4) D__law_book Ud rfl (fun X C=>Px T F__law_deed F__law_drawn C) rfl;have F__law_is_right:Fn P w K mg base "_law_is_right" 1 3 K3:=Ah (k:=0) D__law_is_right Ke rfl (fun X C=>Ia T  C) rfl;exact lU (k:=8) F tL rfl (fun X C=>mJ T F__law_book F__law_is_right F__law_names F_as_of F_changed_by F_changes_between F_marks_of F_moved_marks F_text_of F_texts_of C) rfl
end
end Sm
open PySem PySem.W PyProof.Rows
theorem Sm.walkD {l:PySem.W.OpenLaw} {q:yD} {loose:List Str} {XP:(Str->Option xB)->zN->Prop} {YP:yR->zN->Prop} {d:DefRec} {K:HU->xF} (hn:l.most=some 63) (hdf:d.params.defaults=[]) (hnm:d.name = "law")
   (hY:∀ (w:yR) (h:zN),YP w h->(K w.params).In h) (hK:∀ w:yR,Sm.noList (K w.params)=true)
   (F:∀ (w:yR) (mg:Str->Option xB) (h:zN),(K w.params).In h->h.Ns e8 mg->Sm.Txt mg/\Sm.Defs (K w.params) mg)
   (pure:∀ ns:List Int,ns.length<=63->Sm.dA [.list (ns.map k8)]=.ok (.bool true)) :
   PySem.W.WalkO q loose XP YP l.row.toRowW d [] (fun f vs=>PySem.call f vs):=by
 refine L2.nA (n:=63) (k:=9) (x := "_law_script") (CX:=fun _=>L2.CX0) (sp:=fun _=>Sm.spD 1 Sm.dA) hn (by decide) hdf ⟨rfl,by decide,by decide,rfl⟩ hY (fun w mg fa h KX G hmg=>?_) (fun w H a ns hl hO hS=>?_) fun _ _ _ _ _ z=>z
 . obtain ⟨T,D⟩:=F w mg h KX G
   obtain ⟨f0,fd0,F0,hm0,hb0⟩:=D.1.ex; rw [hnm,hm0] at hmg; cases hmg; refine ⟨fd0,fun s u=>?_,fun base kb nb=>?_⟩
   . obtain ⟨oc,od,kV,doc,pm,an,cdv,ct,osl,rfl,lk,hcd⟩:=F0.ex
     exact .of_eq rfl
   . exact Sm.vP F0 T D
 . rcases hS with hS | ⟨o,its,nn,hk,hc,_⟩
   . refine ⟨H,[.list (ns.map k8)],.bool true,L2.Same.refl _,Sm.RepL.cons ⟨a,_,rfl,hS,Sm.RepL.ints ns⟩ rfl,rfl,pure ns hl,fun v G' H' g r=>r⟩
   . exact absurd hc (Sm.noList.out (hK w) hk)
end
noncomputable section
open PySem
namespace Sm
open L2
noncomputable def Out.seq (o:Out) (g:Dn->Out):Out:=match o with
 | .nx δ=>g δ
 | o=>o
noncomputable def Out.fin (o:Out):Res wY:=match o with
 | .rt d=>.ok d
 | .nx _=>.ok .none
 | .exc c=>.exc c
 | _=>.no
noncomputable def rQ (s:Option Sl):Res wY:=match s with
 | some (.sh d)=>.ok d
 | _=>.no
theorem C6 {α β:Type} (a:α) (k:α->Res β):(Res.ok a).bind k=k a:=rfl
theorem kJ {α:Type} (a:α):ofO (some a)=.ok a:=rfl
theorem D2 {α:Type} (a:α) (k:α->Out):M9 (.ok a) k=k a:=rfl
theorem Iw (g1 g2:Dn->Out) (δ:Dn):B9 g1 g2 δ=(g1 δ).seq g2:=by unfold B9 Out.seq; cases g1 δ <;> rfl
theorem Zx (δ:Dn) (g:Dn->Out):(Out.nx δ).seq g=g δ:=rfl
theorem tK (d:wY) (g:Dn->Out):(Out.rt d).seq g=.rt d:=rfl
theorem Pl (N:List Str) (g:Dn->Out) (ds:List wY):fnD N g ds=(g (N2 N ds)).fin:=by unfold fnD Out.fin; cases g (N2 N ds) <;> rfl
theorem wC (d:wY):(Out.rt d).fin=.ok d:=rfl
theorem Ii (i:Nat) (δ:Dn):A0 i δ=rQ δ[i]? := rfl
theorem Fc (d:wY):rQ (some (.sh d))=.ok d:=rfl
theorem tU (c:Dn->Res Bool) (g1 g2:Dn->Out) (δ:Dn):sIf c g1 g2 δ=M9 (c δ) fun b=>if b=true then g1 δ else g2 δ:=rfl
theorem sP (f g:Dn->Res wY) (δ:Dn) (h:f δ=.ok (.bool true)):Vs f g δ=g δ:=by unfold Vs; rw [h]; rfl
theorem eM (b:Bool):iD (.bool b)=some b:=rfl
local macro_rules
 | `(tactic| simp_arith) => `(tactic| simp_arith [C6])
 | `(tactic| simp_arith [$ls,*]) => `(tactic| simp only [$ls,*, Pl, N2, Iw, Zx, tK, wC, tU, C4, b2, b1, Ii, Fc, K4, F3, A8, A3, vC, C6, kJ, D2, K8, D4, E5, vFn, C1, V9, P0, Y2, vSl, Rp, N6, eM,
 xJ,zX,xP,zG,yB,zW,yO,yL,AQ,KM,yF,yG,z4,z0,xY,reduceIte])
theorem I8 {src:Dn->Res (List wY)} {bnd:wY->Res (List Sl)} {cap:List Nat} {tt:Dn->Res Bool} {el:Dn->Res wY} {δ δc:Dn} {ds ys:List wY} (h:src δ=.ok ds) (hl:ds.length<=1000) (hc:Di δ cap=δc) (e:D7 bnd δc tt el ds=.ok ys):F5 src bnd cap tt el δ=.ok ys:=by
 unfold F5;rw [h,C6,if_pos (xX hl (by decide)),hc,e]
theorem B6 {f g:Dn->Res wY} {op:wY->wY->Option wY} {δ:Dn} {x y d:wY} (h1:f δ=.ok x) (h2:g δ=.ok y) (h3:op x y=some d):b2 f g op δ=.ok d:=by
 unfold b2;rw [h1,C6,h2,C6,h3]; rfl
theorem P9 {f:Dn->Res (List wY)} {δ:Dn} {ds:List wY} (h:f δ=.ok ds):K4 f δ=.ok (.list ds):=by unfold K4; rw [h]; rfl
theorem D3 {i:Nat} {f:Dn->Res wY} {δ:Dn} {d:wY} (h:f δ=.ok d):D4 i f δ=.nx (δ.set i (.sh d)):=by unfold D4; rw [h]; rfl
theorem W1 {c:Dn->Res Bool} {g1 g2:Dn->Out} {δ:Dn} (h:c δ=.ok true):sIf c g1 g2 δ=g1 δ:=by unfold sIf; rw [h]; rfl
theorem Q7 {c:Dn->Res Bool} {g1 g2:Dn->Out} {δ:Dn} (h:c δ=.ok false):sIf c g1 g2 δ=g2 δ:=by unfold sIf; rw [h]; rfl
theorem B5 {g1 g2:Dn->Out} {δ δ':Dn} (h:g1 δ=.nx δ'):B9 g1 g2 δ=g2 δ':=by unfold B9; rw [h]
theorem Iv {g1 g2:Dn->Out} {δ:Dn} {d:wY} (h:g1 δ=.rt d):B9 g1 g2 δ=.rt d:=by unfold B9; rw [h]
theorem N1 {f:Dn->Res wY} {δ:Dn} {d:wY} (h:f δ=.ok d):K8 f δ=.rt d:=by unfold K8; rw [h]; rfl
theorem Y5 {N:List Str} {g:Dn->Out} {ds:List wY} {d:wY} (h:g (N2 N ds)=.rt d):fnD N g ds=.ok d:=by rw [Pl,h]; rfl
theorem A7 {f:Dn->Res wY} {fs:Dn->Res (List wY)} {δ:Dn} {d:wY} {ds:List wY} (h:f δ=.ok d) (h2:fs δ=.ok ds):A3 f fs δ=.ok (d::ds):=by unfold A3; rw [h,C6,h2]; rfl
theorem C7 {fs:Dn->Res (List wY)} {m:List wY->Res wY} {δ:Dn} {ds:List wY} {r:Res wY} (h:fs δ=.ok ds) (h2:m ds=r):C1 fs m δ=r:=by unfold C1; rw [h,C6,h2]
theorem O0 {f:Dn->Res (List wY)} {δ:Dn} {ds:List wY} (h:f δ=.ok ds):F3 f δ=.ok (.tuple ds):=by unfold F3; rw [h]; rfl
theorem W2 {f:Dn->Res (List wY)} {op:List wY->Option wY} {δ:Dn} {ds:List wY} {d:wY} (h:f δ=.ok ds) (h2:op ds=some d):vFn f op δ=.ok d:=by unfold vFn; rw [h,C6,h2]; rfl
theorem C3 {f:Dn->Res wY} {δ:Dn} {b:Bool} (h:f δ=.ok (.bool b)):C4 f δ=.ok b:=by unfold C4; rw [h]; rfl
abbrev scr (ns:List Int):wY:=.list (ns.map .int)
theorem pT {n j:Nat} (h:j < n):ixN n (j:Int)=some j:=by
 unfold ixN;rw [if_pos (by lia)];simp [h]
theorem O5 {α:Type} {xs:List α} {j:Nat} (h:j < xs.length):atI xs (j:Int)=some xs[j]:=by
 unfold atI;rw [pT h];simp
theorem Ms {α:Type} {xs:List α} {i:Int} (h0:0<=i) (h:i < xs.length):∃ x∈xs,atI xs i=some x:=by
 obtain ⟨j,rfl⟩:=Int.eq_ofNat_of_zero_le h0;have hj:j < xs.length:=by lia
 exact ⟨xs[j],AO _,O5 hj⟩
theorem qD (ns:List Int):xT (scr ns) (.list [])=ns.isEmpty:=by
 cases ns with
 | nil=>rfl
 | cons n ns=>rfl
theorem dO (ns:List Int):dEq (scr ns) (.list [])=some (.bool ns.isEmpty):=by
 unfold dEq;rw [if_pos (xX (p9 _ _) (by decide)),qD]
theorem Xq {a b:Int} (h:(-(2 ^ 64) < a/\a < 2 ^ 64)\/(-(2 ^ 64) < b/\b < 2 ^ 64)):P8 (.int a) (.int b)=some (.int (a*b)):=by
 show (if _ then _ else _)=_;rw [if_pos h]
theorem mul7 {b:Int}:P8 (.int 7) (.int b)=some (.int (7*b)):=Xq (.inl ⟨by decide,by decide⟩)
theorem pL {b:Int}:P8 (.int 6553) (.int b)=some (.int (6553*b)):=Xq (.inl ⟨by decide,by decide⟩)
theorem fJ {b:Int}:P8 (.int 104723) (.int b)=some (.int (104723*b)):=Xq (.inl ⟨by decide,by decide⟩)
theorem kQ {b:Int}:P8 (.int b) (.int 69069)=some (.int (b*69069)):=Xq (.inr ⟨by decide,by decide⟩)
theorem mul2 {b:Int}:P8 (.int 2) (.int b)=some (.int (2*b)):=Xq (.inl ⟨by decide,by decide⟩)
theorem kR {b:Int}:P8 (.int 60) (.int b)=some (.int (60*b)):=Xq (.inl ⟨by decide,by decide⟩)
theorem kT {a b:Int} (h:0 < b):Rb (.int a) (.int b)=some (.int (a % b)):=by
 show (if _ then _ else _)=_;rw [if_pos h]
theorem qH {a b:Int} (h:0 < b) (h2:b < 1073741824):Lo (.int a) (.int b)=some (.int (a / b)):=by
 show (if _ then _ else _)=_;rw [if_pos ⟨h,h2⟩]
theorem V7 {a b:Int}:C5 (.int a) (.int b)=some (.int (a+b)):=rfl
theorem qZ (ns:List Int) (hns:ns.length<=63) (k:Int):∃ c,Y3 [scr ns,.int k]=.ok (.int c):=by
 unfold Y3 Cj Bz;cases hn:ns with
 | nil =>
   refine ⟨7*k,?_⟩;simp_arith [dO,List.isEmpty_nil,mul7]
 | cons n r =>
   have e1:=dO (n::r); have hl:(0:Int) < ((n::r).length:Int):=by simp
   have hl2:((n::r).length:Int)<=63:=by rw [<- hn]; lia
   obtain ⟨x,hx,e2⟩:=Ms (xs:=(n::r).map k8) (i:=k % ((n::r).length:Int)) (EI _ (by lia)) (by rw [xG]; exact CN _ hl);obtain ⟨c,_,rfl⟩:=yK.mp hx; refine ⟨c+6553*(k / ((n::r).length:Int)),?_⟩; have e3:T4 [scr (n::r)]=some (.int ((n::r).length:Int)):=by simp [T4,scr]
   have e4:dIx (scr (n::r)) (.int (k % ((n::r).length:Int)))=some (.int c):=e2;generalize hS:scr (n::r)=S at *;generalize hL:((n::r).length:Int)=m at *;simp_arith [e1,List.isEmpty_cons,e3,kT hl,qH hl (show m < 1073741824 by lia),pL,e4,V7]
theorem L0 (ns:List Int) (hns:ns.length<=63) (k m:Int) (hm:0 < m):∃ r,B3 [scr ns,.int k,.int m]=.ok (.int r)/\0<=r/\r < m:=by
 obtain ⟨c,hc⟩:=qZ ns hns k;unfold B3 Bm Al;generalize scr ns=S at *;simp_arith [hc,kT (show (0:Int) < 2147483563 by decide),V7,kQ,fJ];generalize hA:(c % 2147483563*69069+104723*(k+1)) % 2147483563=A;have a0:0<=A:=by rw [<- hA]; exact EI _ (by decide)
 have a1:A < 2147483563:=by rw [<- hA]; exact CN _ (by decide)
 simp_arith [Xq (a:=A) (b:=A) (.inl ⟨Int.lt_of_lt_of_le (by decide) a0,Int.lt_trans a1 (by decide)⟩),qH (show (0:Int) < 3 by decide) (by decide),V7,kT (show (0:Int) < 2147483399 by decide)]
 generalize hB:(A*A+A / 3) % 2147483399=B;have b0:0<=B:=by rw [<- hB]; exact EI _ (by decide)
 have b1:B < 2147483399:=by rw [<- hB]; exact CN _ (by decide)
 simp_arith [Xq (a:=B) (b:=B) (.inl ⟨Int.lt_of_lt_of_le (by decide) b0,Int.lt_trans b1 (by decide)⟩),qH (show (0:Int) < 7 by decide) (by decide),V7,kT (show (0:Int) < 2147483647 by decide),qH (show (0:Int) < 11 by decide) (by decide),kT hm]
 exact ⟨_,rfl,EI _ (by lia),CN _ hm⟩
theorem lD {x:Str} {i:Int} (h0:0<=i) (h:i < (x.cps.toList.length:Int)):∃ c∈x.cps.toList,dIx (.str x) (.int i)=some (.str ⟨#[c]⟩):=by
 obtain ⟨c,hc,e⟩:=Ms (xs:=x.cps.toList) h0 h;exact ⟨c,hc,by show (atI x.cps.toList i).map _=_; rw [e]; rfl⟩
theorem fT (c:Nat):(⟨#[c]⟩:Str).length=1:=rfl
theorem Li:(1000:Nat)<=sizeLine:=by decide
theorem wT {x y:Str} (h:x.length+y.length<=1000):C5 (.str x) (.str y)=some (.str (x++y)):=by
 show (if _ then _ else _)=_;rw [if_pos (xX h Li)]
theorem Zh {x y:List wY} (h:x.length+y.length<=1000):C5 (.list x) (.list y)=some (.list (x++y)):=by
 show (if _ then _ else _)=_;rw [if_pos (xX h Li)]
theorem addT {x y:List wY} (h:x.length+y.length<=1000):C5 (.tuple x) (.tuple y)=some (.tuple (x++y)):=by
 show (if _ then _ else _)=_;rw [if_pos (xX h Li)]
theorem O8 (x y:Str):(x++y).length=x.length+y.length:=by
 show (x.cps++y.cps).size=_;rw [Array.size_append]; rfl
def chOk (lo hi:Nat) (x:Str):Prop:=∀ c∈x.cps.toList,lo<=c/\c<=hi
theorem chOk.app {lo hi:Nat} {x y:Str} (hx:chOk lo hi x) (hy:chOk lo hi y):chOk lo hi (x++y):=fun c hc=>by
 have:c∈(x.cps++y.cps).toList:=hc;rw [Array.toList_append] at this;exact (xK.mp this).elim (hx c) (hy c)
theorem chOk.one {lo hi c:Nat} (h:lo<=c/\c<=hi):chOk lo hi ⟨#[c]⟩:=fun d hd=>by
 have:d=c:=by simpa using hd
 rw [this]; exact h
theorem chOk.nil {lo hi:Nat}:chOk lo hi "" := fun c hc=>by
 rw [show ("" : Str).cps.toList=[] from rfl] at hc; exact nomatch hc
theorem mulS {c:Nat} {n:Int} (h0:0<=n) (h:n < 2):∃ y:Str,P8 (.str ⟨#[c]⟩) (.int n)=some (.str y)/\y.length<=1/\∀ d∈y.cps.toList,d=c:=by
 have:n=0\/n=1:=by lia
 rcases this with rfl | rfl
 . refine ⟨M5 0 ⟨#[c]⟩,rfl,(show (0:Nat)<=1 by decide),fun d hd=>?_⟩
   simp [M5] at hd
 . refine ⟨M5 1 ⟨#[c]⟩,rfl,by unfold M5; simp; exact xL _,fun d hd=>?_⟩
   simpa [M5] using hd
def Af (x:Str):Prop:=1<=x.length/\x.length<=6/\chOk 97 122 x
def Zj (x:Str):Prop:=1<=x.length/\x.length<=4/\chOk 32 126 x
theorem ixL {xs:List wY} {i:Int} (h0:0<=i) (h:i < (xs.length:Int)):∃ x∈xs,dIx (.list xs) (.int i)=some x:=Ms h0 h
theorem Hm (ns:List Int) (hns:ns.length<=63) (a k:Int) (hk:0<=k) (hk2:k < 3) (fd:List wY) (hf:fd.length < 1000) (s4:Sl):∃ z w:Str,Af z /\
   (B9 (D4 4 (b2 (b2 (vC (.str "abcdefghijklmnopqrstuvwxyz")) (C1 (A3 (A0 0) (A3 (b2 (A0 1) (b2 (vC (.int 2)) (A0 3) P8) C5) (A3 (vC (.int 26)) A8))) B3) dIx) (C1 (A3 (A0 0) (A3 (b2 (b2 (A0 1) (b2 (vC (.int 2)) (A0 3) P8) C5) (vC (.int 1)) C5) (A3 (vC (.int 2)) A8))) B3) P8)) (Y0 2 (b2 (K4 (A3 (b2 (A0 4) (b2 (vC (.str "xyz")) (A0 3) dIx) C5) (A3 (b2 (b2 (vC (.str "xyz")) (A0 3) dIx) (A0 4) C5) A8))) (C1 (A3 (A0 0) (A3 (b2 (A0 1) (vC (.int 6)) C5) (A3 (vC (.int 2)) A8))) B3) dIx)))
     [.sh (scr ns),.sh (.int a),.ow (.list fd),.sh (.int k),s4]=.nx [.sh (scr ns),.sh (.int a),.ow (.list (fd++[.str z])),.sh (.int k),.sh (.str w)]:=by
 obtain ⟨r1,e1,a1,b1⟩:=L0 ns hns (a+2*k) 26 (by decide);obtain ⟨r2,e2,a2,b2'⟩:=L0 ns hns (a+2*k+1) 2 (by decide);obtain ⟨r3,e3,a3,b3⟩:=L0 ns hns (a+6) 2 (by decide);obtain ⟨c1,hc1,f1⟩:=lD (x := "abcdefghijklmnopqrstuvwxyz") a1 (by rw [show ("abcdefghijklmnopqrstuvwxyz" : Str).cps.toList.length=26 from by decide]; exact b1);obtain ⟨y,f2,l2,hy⟩:=mulS (c:=c1) a2 b2';obtain ⟨c2,hc2,f3⟩:=lD (x := "xyz") hk (by rw [show ("xyz" : Str).cps.toList.length=3 from by decide]; exact hk2);have g1:C5 (.str y) (.str ⟨#[c2]⟩)=_:=wT (x:=y) (y:=⟨#[c2]⟩) (by rw [fT]; lia);have g2:C5 (.str ⟨#[c2]⟩) (.str y)=_:=wT (x:=⟨#[c2]⟩) (y:=y) (by rw [fT]; lia)
 obtain ⟨x,hx,f4⟩:=ixL (xs:=[.str (y++⟨#[c2]⟩),.str (⟨#[c2]⟩++y)]) a3 b3;have o1:chOk 97 122 y:=fun d hd=>by
   rw [hy d hd]; exact (by decide:∀ c∈("abcdefghijklmnopqrstuvwxyz" : Str).cps.toList,97<=c/\c<=122) c1 hc1
 have o2:chOk 97 122 ⟨#[c2]⟩:=.one ((by decide:∀ c∈("xyz" : Str).cps.toList,97<=c/\c<=122) c2 hc2);have:∃ z,x=.str z/\Af z:=by
   rcases xD.mp hx with h | h
   . exact ⟨_,h,by rw [O8,fT]; lia,by rw [O8,fT]; lia,o1.app o2⟩
   . exact ⟨_,xM.mp h,by rw [O8,fT]; lia,by rw [O8,fT]; lia,o2.app o1⟩
 obtain ⟨z,rfl,hz⟩:=this;refine ⟨z,y,hz,?_⟩;have szB:fd.length < sizeLine:=yT hf Li;simp_arith [mul2,V7,e1,e2,e3,f1,f2,f3,g1,g2,f4,Y0,szB]
theorem kO (ns:List Int) (hns:ns.length<=63) (a:Int):∃ x y z:Str,(Af x/\Af y/\Af z)/\Q6 [scr ns,.int a]=.ok (.list [.str x,.str y,.str z]):=by
 obtain ⟨x,w1,hx,e1⟩:=Hm ns hns a 0 (by decide) (by decide) [] (by simp) .un;obtain ⟨y,w2,hy,e2⟩:=Hm ns hns a 1 (by decide) (by decide) [.str x] (by simp) (.sh (.str w1));obtain ⟨z,w3,hz,e3⟩:=Hm ns hns a 2 (by decide) (by decide) [.str x,.str y] (by simp) (.sh (.str w2));refine ⟨x,y,z,⟨hx,hy,hz⟩,?_⟩;unfold Q6 Bl Z9 Z8 Z5 O7;have r:Kh [.int 3]=.ok [.int 0,.int 1,.int 2]:=rfl;simp only [Pl,N2,Iw (Ix _ _),Ix,A8,D2,Zx,xJ,zX,xP,zG,yB,zW,yO,yF,yG,Iw (K9 _ _ _),K9,A3,vC,C6,r,E8,st1,z4,z0]
 rw [e1];simp only [yO,yF,yG];rw [e2];simp only [zW,yO,yF,yG];rw [e3];rfl
theorem Yu {bnd:wY->Res (List Sl)} {δc:Dn} {el:Dn->Res wY} {P:wY->Prop}:∀ (ds:List wY),(∀ d∈ds,∃ sl y,bnd d=.ok sl/\el (sl++δc)=.ok y/\P y)->∃ ys:List wY,D7 bnd δc N6 el ds=.ok ys/\ys.length=ds.length/\∀ y∈ys,P y
 | [],_=>⟨[],rfl,rfl,fun _ h=>nomatch h⟩
 | d::ds,h=>by
   obtain ⟨sl,y,e1,e2,p⟩:=h d (.head _); obtain ⟨ys,e3,e4,e5⟩:=Yu ds fun d' h'=>h d' (.tail _ h');refine ⟨y::ys,?_,by simp [e4],fun z hz=>?_⟩
   . unfold D7
     rw [e1]; simp only [N6,e2,e3]
   . rcases xD.mp hz with rfl | hz
     . exact p
     . exact e5 z hz
theorem bQ {P:Str->Prop}:∀ (ys:List wY),(∀ y∈ys,∃ x,y=.str x/\P x)->∃ xs:List Str,Dr ys=some xs/\xs.length=ys.length/\∀ x∈xs,P x
 | [],_=>⟨[],rfl,rfl,fun _ h=>nomatch h⟩
 | y::ys,h=>by
   obtain ⟨x,rfl,p⟩:=h y (.head _); obtain ⟨xs,e1,e2,e3⟩:=bQ ys fun d' h'=>h d' (.tail _ h');exact ⟨x::xs,by show (Dr ys).map _=_; rw [e1]; rfl,by simp [e2],fun z hz=>by
     rcases xD.mp hz with rfl | hz
     . exact p
     . exact e3 z hz⟩
theorem Kq:∀ (xs:List Str),(∀ x∈xs,x.length=1/\yP x=true/\chOk 32 126 x)->(z9 "" xs).length=xs.length/\yP (z9 "" xs)=true/\chOk 32 126 (z9 "" xs)
 | [],_=>⟨rfl,by decide +kernel,chOk.nil⟩
 | [x],h=>⟨(h x (.head _)).1,(h x (.head _)).2.1,(h x (.head _)).2.2⟩
 | x::y::r,h=>by
   obtain ⟨l,o,q⟩:=Kq (y::r) fun z hz=>h z (.tail _ hz);obtain ⟨l1,o1,q1⟩:=h x (.head _); show (x ++ "" ++ z9 "" (y::r)).length=_/\yP (x ++ "" ++ z9 "" (y::r))=true/\chOk 32 126 (x ++ "" ++ z9 "" (y::r));refine ⟨?_,Dt (Dt o1 (by decide +kernel)) o,(q1.app chOk.nil).app q⟩;rw [O8,O8]; have:(("" : Str)).length=0:=rfl; simp only [xP] at l ⊢;lia
theorem Ng:∀ (xs:List Str),(∀ x∈xs,x.length=1/\yP x=true/\chOk 32 126 x)->(xs.map (·.length)).sum=xs.length
 | [],_=>rfl
 | x::r,h=>by
   simp only [xJ,DY,xP,(h x (.head _)).1,Ng r fun z hz=>h z (.tail _ hz)];lia
theorem jG {n:Int} (h0:0<=n) (h:n < 1000):Kh [.int n]=.ok (Cy 0 n):=by
 show (if _ then _ else _)=_;rw [if_pos (by lia)]
theorem bU {fs:Dn->Res (List wY)} {δ:Dn} {n:Int} (h:fs δ=.ok [.int n]) (h0:0<=n) (h1:n < 1000):(fun δ=>(fs δ).bind Kh) δ=.ok (Cy 0 n):=by
 show (fs δ).bind Kh=_;rw [h,C6,jG h0 h1]
theorem E6 {f:Dn->Res wY} {δ:Dn} {d:wY} {ds:List wY} (h:f δ=.ok d) (h2:D9 d=.ok ds):(fun δ=>(f δ).bind D9) δ=.ok ds:=by
 show (f δ).bind D9=_;rw [h,C6,h2]
theorem gV (ns:List Int) (hns:ns.length<=63) (a:Int):∃ x:Str,Q4 [scr ns,.int a]=.ok (.str x)/\Zj x:=by
 obtain ⟨r1,e1,a1,b1⟩:=L0 ns hns (a+4) 4 (by decide);unfold Q4 Bi Aj;have hr:Kh [.int (1+r1)]=.ok (Cy 0 (1+r1)):=jG (by lia) (by lia);have hlen:(Cy 0 (1+r1)).length<=4/\1<=(Cy 0 (1+r1)).length:=by unfold Cy; simp; lia
 have hall:∀ d∈Cy 0 (1+r1),∃ sl y,E3 d=.ok sl/\(b2 (vC (.str "ab cd~ <")) (C1 (A3 (A0 1) (A3 (b2 (A0 2) (A0 0) C5) (A3 (vC (.int 8)) A8))) B3) dIx) (sl++[.sh (scr ns),.sh (.int a)])=.ok y/\∃ x:Str,y=.str x/\x.length=1/\yP x=true/\chOk 32 126 x:=fun d hd=>by
   unfold Cy at hd; obtain ⟨i,hi,rfl⟩:=yK.mp hd; have hi':i < 4:=by have:=m3.mp hi; lia
   obtain ⟨r2,e2,a2,b2'⟩:=L0 ns hns (a+(0+(i:Int))) 8 (by decide);obtain ⟨c,hc,f⟩:=lD (x := "ab cd~ <") a2 (by have:("ab cd~ <" : Str).cps.toList.length=8:=(by decide); rw [this]; exact b2');refine ⟨[.sh (.int (0+(i:Int)))],.str ⟨#[c]⟩,rfl,?_,⟨#[c]⟩,rfl,rfl,?_,.one ((by decide:∀ c∈("ab cd~ <" : Str).cps.toList,32<=c/\c<=126) c hc)⟩
   . simp_arith [V7,e2,f]
   . have:∀ c∈("ab cd~ <" : Str).cps.toList,c < 0x110000:=by decide
     unfold yP; simp [this c hc]
 obtain ⟨ys,g1,g2,g3⟩:=Yu (Cy 0 (1+r1)) hall;obtain ⟨xs,g4,g5,g6⟩:=bQ ys g3;obtain ⟨l1,o1,q1⟩:=Kq xs g6;have s1:=Ng xs g6;refine ⟨z9 "" xs,?_,by lia,by lia,q1⟩;have hj:Sx "" (.list ys)=some (.str (z9 "" xs)):=by
   show (Dr ys).bind _=_;rw [g4]; show (if _ then _ else _)=_;have:(("" : Str)).length=0:=rfl; rw [if_pos ⟨by rw [s1,this]; lia,o1,xX (show _<=1000 by lia) Li⟩]
 have hz:(Cy 0 (1+r1)).length<=sizeLine:=xX (show _<=1000 by lia) Li;simp_arith [V7,e1,hr,F5,hz,Di,HV,g1,hj]
abbrev idD (t:Int) (h:Str):wY:=.tuple [.int t,.str h]
abbrev IdP:=Int×Str
abbrev idP (p:IdP):wY:=idD p.1 p.2
abbrev sgD (p:IdP) (n:Int):wY:=.tuple [idP p,.int n]
noncomputable def hj (h:Str):Nat:=if h = "a" then 0 else if h = "b" then 1 else 2
noncomputable def key (p:IdP):Int:=3*p.1+hj p.2
def okH (h:Str):Prop:=h = "a" \/ h = "b" \/ h = "c"
def okI (p:IdP):Prop:=1<=p.1/\p.1<=10/\okH p.2
theorem Yf (h:Str):hj h<=2:=by unfold hj; split <;> (try split) <;> lia
def SgOf (T:Int) (ds:List wY) (x:wY):Prop:=∃ (p:IdP) (b:wY) (w:Str) (n:Nat),o3 [.str "add",idP p,b,.str w]∈ds/\x=sgD p n/\n < w.length/\p.1 < T/\okI p
theorem SgOf.mono {T:Int} {ds ds':List wY} {x:wY} (h:SgOf T ds x) (k:∀ d∈ds,d∈ds'):SgOf T ds' x:=by
 obtain ⟨p,b,w,n,e,r⟩:=h; exact ⟨p,b,w,n,k _ e,r⟩
def sgR (a b:wY):Prop:=∃ (p q:IdP) (n m:Int),a=sgD p n/\b=sgD q m/\okH p.2/\okH q.2/\(key p < key q\/(p=q/\n < m))
def OrN (S:wY->Prop) (d:wY):Prop:=d=.none\/S d
def kZ (x:Str):Prop:=x = "l" \/ x = "r"
def Wf (p:IdP) (S:wY->Prop) (U:IdP->Prop) (d:wY):Prop:=okI p /\
 ((∃ b w,d=.tuple [.str "add",idP p,b,.str w]/\OrN S b/\Zj w) \/
  (∃ sg,d=.tuple [.str "drop",idP p,.tuple sg]/\(∀ x∈sg,S x)/\sg.length<=40/\sg≠[]/\sg.Pairwise sgR) \/
  (∃ n s1 x1 s2 x2,d=.tuple [.str "mark",idP p,.str n,.tuple [s1,.str x1],.tuple [s2,.str x2]]/\OrN S s1/\OrN S s2/\Af n/\kZ x1/\kZ x2) \/
  (∃ n,d=.tuple [.str "unmark",idP p,.str n]/\Af n) \/
  (∃ q,d=.tuple [.str "undo",idP p,idP q]/\U q))
theorem OrN.mono {S S':wY->Prop} {d:wY} (h:OrN S d) (k:∀ x,S x->S' x):OrN S' d:=h.elim .inl fun z=>.inr (k _ z)
theorem Wf.mono {p:IdP} {S S':wY->Prop} {U U':IdP->Prop} {d:wY} (h:Wf p S U d) (k2:∀ x,S x->S' x) (k3:∀ q,U q->U' q):Wf p S' U' d:=by
 obtain ⟨o,r⟩:=h;refine ⟨o,?_⟩;rcases r with ⟨b,w,e,hb,hw⟩ | ⟨sg,e,hs,hl⟩ | ⟨n,s1,x1,s2,x2,e,h1,h2,h3⟩ | ⟨n,e⟩ | ⟨i,e,hi⟩
 . exact .inl ⟨b,w,e,hb.mono k2,hw⟩
 . exact .inr (.inl ⟨sg,e,fun x hx=>k2 x (hs x hx),hl⟩)
 . exact .inr (.inr (.inl ⟨n,s1,x1,s2,x2,e,h1.mono k2,h2.mono k2,h3⟩))
 . exact .inr (.inr (.inr (.inl ⟨n,e⟩)))
 . exact .inr (.inr (.inr (.inr ⟨i,e,k3 _ hi⟩)))
theorem Gg (x y:Str):dEq (.str x) (.str y)=some (.bool (x==y)):=by
 unfold dEq;rw [if_pos (xX (CK _ _) (by simp [zQ]))];rfl
theorem sO:(("add" : Str)==("add" : Str))=true:=by decide +kernel
noncomputable def Tg:Dn->Out:=(sIf (C4 (b2 (b2 (A0 2) (vC (.int 0)) dIx) (vC (.str "add")) dEq)) (D4 1 (b2 (A0 1) (K4 (F5 (fun δ=>((A3 (vFn (A3 (b2 (A0 2) (vC (.int 3)) dIx) A8) T4) A8) δ).bind Kh) E3 [2] N6 (F3 (A3 (b2 (A0 1) (vC (.int 1)) dIx) (A3 (A0 0) A8))))) C5)) E5)
theorem V6 {α:Type} {δc:Dn} {el:Dn->Res wY} (g f:α->wY) (h:∀ y:α,el ([.sh (g y)]++δc)=.ok (f y)):∀ ys:List α,D7 E3 δc N6 el (ys.map g)=.ok (ys.map f)
 | []=>rfl
 | y::ys=>by
   rw [xJ,xJ]; unfold D7; simp only [E3,N6,h y,V6 g f h ys]
theorem Zw {p:IdP} {S:wY->Prop} {U:IdP->Prop} {T:Int} {d:wY} (hd:Wf p S U d) (hT:p.1 < T) (B:wY) (fd:List wY) (hf:fd.length<=100):∃ more:List wY,more.length<=4/\(∀ x∈more,SgOf T [d] x)/\(∀ x∈more,∃ n,x=sgD p n)/\more.Pairwise sgR /\
   Tg [.sh B,.sh (.list fd),.sh d]=.nx [.sh B,.sh (.list (fd++more)),.sh d]:=by
 obtain ⟨o,r⟩:=hd;have ix0:∀ (x:wY) (xs:List wY),dIx (.tuple (x::xs)) (.int 0)=some x:=fun x xs=>O5 (xs:=x::xs) (j:=0) (by simp);have ix1:∀ (x y:wY) (xs:List wY),dIx (.tuple (x::y::xs)) (.int 1)=some y:=fun x y xs=>O5 (xs:=x::y::xs) (j:=1) (by simp);have ix3:∀ (x y z u:wY),dIx (.tuple [x,y,z,u]) (.int 3)=some u:=fun x y z u=>O5 (xs:=[x,y,z,u]) (j:=3) (by simp);have no:∀ d,(C4 (b2 (b2 (A0 2) (vC (.int 0)) dIx) (vC (.str "add")) dEq)) [.sh B,.sh (.list fd),.sh d]=.ok false->∃ more:List wY,more.length<=4/\(∀ x∈more,SgOf T [d] x)/\(∀ x∈more,∃ n,x=sgD p n)/\more.Pairwise sgR/\Tg [.sh B,.sh (.list fd),.sh d]=.nx [.sh B,.sh (.list (fd++more)),.sh d]:=fun d e=>by
   refine ⟨[],by simp,(fun _ h=>nomatch h),(fun _ h=>nomatch h),.nil,?_⟩;unfold Tg; rw [Q7 e,yL]; rfl
 rcases r with ⟨b,w,rfl,hb,hw⟩ | ⟨sg,rfl,_⟩ | ⟨n,s1,x1,s2,x2,rfl,_⟩ | ⟨n,rfl,_⟩ | ⟨i,rfl,_⟩
 . have er:Cy 0 (w.length:Int)=(zF w.length).map fun i:Nat=>k8 (0+(i:Int)):=by unfold Cy; simp
   have g1:=V6 (δc:=[.sh (.tuple [.str "add",idP p,b,.str w])]) (el:=F3 (A3 (b2 (A0 1) (vC (.int 1)) dIx) (A3 (A0 0) A8))) (fun i:Nat=>k8 (0+(i:Int))) (fun i=>sgD p (0+(i:Int))) (fun i=>by simp_arith [ix1]) (zF w.length);have hl:=hw.2.1; refine ⟨(zF w.length).map fun i:Nat=>sgD p (0+(i:Int)),by simp; exact hl,fun x hx=>?_,fun x hx=>?_,?_,?_⟩
   . obtain ⟨i,hi,rfl⟩:=yK.mp hx
     exact ⟨p,b,w,i,.head _,by rw [Int.zero_add],m3.mp hi,hT,o⟩
   . obtain ⟨i,hi,rfl⟩:=yK.mp hx
     exact ⟨_,rfl⟩
   . rw [l0]
     exact (FV).imp fun {a b} h=>⟨p,p,_,_,rfl,rfl,o.2.2,o.2.2,.inr ⟨rfl,by lia⟩⟩
   . have ha:C5 (.list fd) (.list ((zF w.length).map fun i:Nat=>sgD p (0+(i:Int))))=_:=Zh (by simp; lia)
     have e1:T4 [.str w]=some (.int (w.length:Int)):=rfl; unfold Tg; rw [W1 (by simp_arith [ix0,Gg,sO])];refine D3 (B6 rfl (P9 (I8 (ds:=Cy 0 (w.length:Int)) (bU (by simp_arith [ix3,e1]) (by lia) (by lia)) (by rw [er]; simp; lia) rfl (by rw [er]; exact g1))) ha)
 . exact no _ (by simp_arith [ix0,Gg,show (("drop" : Str)==("add" : Str))=false from by decide +kernel])
 . exact no _ (by simp_arith [ix0,Gg,show (("mark" : Str)==("add" : Str))=false from by decide +kernel])
 . exact no _ (by simp_arith [ix0,Gg,show (("unmark" : Str)==("add" : Str))=false from by decide +kernel])
 . exact no _ (by simp_arith [ix0,Gg,show (("undo" : Str)==("add" : Str))=false from by decide +kernel])
abbrev Dp:=wY×IdP
theorem Oe {S:IdP->wY->Prop} {U:IdP->IdP->Prop} {T:Int} (D:List wY) (B:wY):∀ (ds:List Dp),(∀ e∈ds,Wf e.2 (S e.2) (U e.2) e.1/\e.1∈D/\e.2.1 < T)->ds.Pairwise (fun a b=>key a.2 < key b.2)->∀ (fd:List wY) (s2:Sl),fd.length+4*ds.length<=100->(∀ x∈fd,SgOf T D x) ->
   fd.Pairwise sgR->(∀ x∈fd,∃ q n,x=sgD q n/\okH q.2/\∀ e∈ds,key q < key e.2)->∃ (out:List wY) (s2':Sl),out.length<=fd.length+4*ds.length/\(∀ x∈out,SgOf T D x)/\out.Pairwise sgR /\
   E8 (st1 2) Tg (ds.map (·.1)) [.sh B,.sh (.list fd),s2]=.nx [.sh B,.sh (.list out),s2']
 | [],_,_,fd,s2,_,hs,hp,_=>⟨fd,s2,by lia,hs,hp,rfl⟩
 | e::ds,hd,up,fd,s2,hl,hs,hp,hq=>by
   obtain ⟨w,m,ht⟩:=hd e (.head _); obtain ⟨more,l1,s1,i1,p1,e1⟩:=Zw w ht B fd (by simp at hl; lia);have up':=yQ.mp up; obtain ⟨out,s2',l2,s3,p3,e2⟩:=Oe D B ds (fun d' h'=>hd d' (.tail _ h')) up'.2 (fd++more) (.sh e.1) (by simp at hl ⊢; lia)
     (fun x hx=>(xK.mp hx).elim (hs x) fun z=>(s1 x z).mono fun q hq=>by rw [xM.mp hq]; exact m)
     (n4.mpr ⟨hp,p1,fun a ha b hb=>by
       obtain ⟨q,n,rfl,o,k⟩:=hq a ha; obtain ⟨n',rfl⟩:=i1 b hb; exact ⟨q,e.2,n,n',rfl,rfl,o,w.1.2.2,.inl (k e (.head _))⟩⟩)
     (fun x hx=>(xK.mp hx).elim (fun z=>by
       obtain ⟨q,n,h1,h2,h3⟩:=hq x z; exact ⟨q,n,h1,h2,fun e' he'=>h3 e' (.tail _ he')⟩) fun z=>by
       obtain ⟨n',rfl⟩:=i1 x z; exact ⟨e.2,n',rfl,w.1.2.2,fun e' he'=>up'.1 e' he'⟩)
   refine ⟨out,s2',by simp at l2 ⊢; lia,s3,p3,?_⟩;rw [xJ]; unfold E8; simp only [st1,yF,yG]; rw [e1]; exact e2
theorem iV {S:IdP->wY->Prop} {U:IdP->IdP->Prop} {T:Int} (ds:List Dp) (hd:∀ e∈ds,Wf e.2 (S e.2) (U e.2) e.1/\e.2.1 < T) (up:ds.Pairwise (fun a b=>key a.2 < key b.2)) (hl:ds.length<=9) :
   ∃ out:List wY,Q5 [.tuple (ds.map (·.1))]=.ok (.list out)/\out.length<=36/\(∀ x∈out,SgOf T (ds.map (·.1)) x)/\out.Pairwise sgR:=by
 obtain ⟨out,s2',l2,s3,p3,e2⟩:=Oe (ds.map (·.1)) (.tuple (ds.map (·.1))) ds (fun e h=>⟨(hd e h).1,zA h,(hd e h).2⟩) up [] .un (by simp; lia) (fun _ h=>nomatch h) .nil (fun _ h=>nomatch h);refine ⟨out,?_,by simp at l2; lia,s3,p3⟩;unfold Q5 Bj Ak;simp only [Pl,N2,Iw (D4 _ _),D4,K4,A8,D2,C6,Zx,xJ,zX,xP,zG,yB,zW,yO,yF,yG,Iw (K9 _ _ _),K9,Ii,Fc,D9,AQ,z4,z0];unfold Tg at e2;rw [e2];simp_arith
theorem U8 {c:Dn->Res Bool} {g1 g2:Dn->Out} {δ:Dn} (h:c δ=.ok false):B9 (sIf c g1 E5) g2 δ=g2 δ:=B5 (Q7 h)
theorem mulL {xs:List wY} {n:Int} (h : -(2 ^ 63)<=n/\n < 2 ^ 63/\xs.length*n.toNat<=sizeLine):P8 (.list xs) (.int n)=some (.list (yB n.toNat xs).flatten):=by
 show (if _ then _ else _)=_;rw [if_pos h]
theorem dNeL (xs:List wY):dNe (.list xs) (.list [])=some (.bool (!xs.isEmpty)):=by
 unfold dNe;rw [if_pos (xX (p9 _ _) (by decide))];cases xs <;> rfl
theorem dEqL (xs:List wY):dEq (.list xs) (.list [])=some (.bool xs.isEmpty):=by
 unfold dEq;rw [if_pos (xX (p9 _ _) (by decide))];cases xs <;> rfl
theorem qV (xs:List wY):dNe (.tuple xs) (.tuple [])=some (.bool (!xs.isEmpty)):=by
 unfold dNe;rw [if_pos (xX (p9 _ _) (by decide))];cases xs <;> rfl
theorem ltI (a b:Int):P4 .Lt (.int a) (.int b)=some (.bool (decide (a < b))):=by
 unfold P4;rw [if_pos (by simp [zQ])];rfl
theorem qW (a b:Int):dEq (.int a) (.int b)=some (.bool (a==b)):=by
 unfold dEq;rw [if_pos (xX (CK _ _) (by simp [zQ]))];rfl
theorem qI (t:Int) (h:Str):(idD t h).depth<=2:=by simp [idD,zQ,zS]
theorem vO (xs:List wY):T4 [.list xs]=some (.int (xs.length:Int)):=rfl
theorem lenT (xs:List wY):T4 [.tuple xs]=some (.int (xs.length:Int)):=rfl
theorem Tm (ns:List Int) (hns:ns.length<=63) (a:Int) (S:wY->Prop) (sg:List wY) (hs:∀ x∈sg,S x) (hl:sg.length<=36):∃ s x,M8 [scr ns,.int a,.list sg]=.ok (.tuple [s,.str x])/\OrN S s/\kZ x:=by
 obtain ⟨r1,e1,a1,b1⟩:=L0 ns hns a ((sg.length:Int)+1) (by lia);obtain ⟨r2,e2,a2,b2'⟩:=L0 ns hns (a+1) 2 (by decide);obtain ⟨c,hc,f2⟩:=lD (x := "lr") a2 (by rw [show ("lr" : Str).cps.toList.length=2 from by decide]; exact b2');have g:=Zh (x:=[.none]) (y:=sg) (by simp; lia);obtain ⟨s,hs',f1⟩:=ixL (xs:=[.none]++sg) a1 (by simp; lia);refine ⟨s,⟨#[c]⟩,?_,?_,?_⟩
 . unfold M8 Ae X4
   generalize [PyData.none]++sg=L at *;simp_arith [g,vO,V7,e1,f1,e2,f2]
 . rcases xK.mp hs' with h | h
   . exact .inl (xM.mp h)
   . exact .inr (hs s h)
 . have h':c∈[108,114]:=by rw [show ("lr" : Str).cps.toList=[108,114] from by decide] at hc; exact hc
   simp only [xD,FO,or_false] at h'; rcases h' with rfl | rfl
   . exact .inl (by decide)
   . exact .inr (by decide)
theorem Sz {δc:Dn} {tt:Dn->Res Bool}:∀ (zs:List (wY×wY)),(∀ z∈zs,∃ b,tt ([.sh z.1,.sh z.2]++δc)=.ok b)->∃ ys:List wY,D7 Lq δc tt (A0 1) (zs.map fun z=>.tuple [z.1,z.2])=.ok ys/\ys.Sublist (zs.map (·.2))
 | [],_=>⟨[],rfl,.slnil⟩
 | z::zs,h=>by
   obtain ⟨b,e⟩:=h z (.head _); obtain ⟨ys,e1,e2⟩:=Sz zs fun z' hz=>h z' (.tail _ hz);rw [xJ,xJ];cases b with
   | true =>
     refine ⟨z.2::ys,?_,e2.cons_cons _⟩; unfold D7; rw [show Lq (.tuple [z.1,z.2])=.ok [.sh z.1,.sh z.2] from rfl];simp only [e,e1]; rfl
   | false =>
     refine ⟨ys,?_,e2.cons _⟩; unfold D7; rw [show Lq (.tuple [z.1,z.2])=.ok [.sh z.1,.sh z.2] from rfl];simp only [e,e1]
theorem qF (xs:List wY):En xs=(xs.mapIdx fun i d=>(k8 i,d)).map fun z=>o3 [z.1,z.2]:=by
 unfold En;apply BL;intro i;simp [Function.comp_def]
theorem lV (xs:List wY):(xs.mapIdx fun i d=>(k8 i,d)).map (·.2)=xs:=by
 apply BL;intro i;simp only [yM,MC,Option.map_map];cases xs[i]? <;> rfl
theorem iK {xs:List wY} {x:wY} (h:x∈Fs xs (some (-3)) none):x∈xs:=by
 unfold Fs at h;exact GL (MA h)
theorem qX (xs:List wY) (lo hi:Option Int):(Fs xs lo hi).length<=xs.length:=by
 unfold Fs;rw [n6,AN]; exact xX (p9 _ _) (Nat.sub_le _ _)
theorem Uy {o:Out} {d:wY} (h:o=.rt d):o.fin=.ok d:=by rw [h]; rfl
theorem fP {a b:Int} (h:a < b):P4 .Lt (.int a) (.int b)=some (.bool true):=by rw [ltI,decide_eq_true h]
theorem fQ {a b:Int} (h:¬ a < b):P4 .Lt (.int a) (.int b)=some (.bool false):=by rw [ltI,decide_eq_false h]
theorem Jl {f g:Dn->Res Bool} {δ:Dn} (h1:f δ=.ok true) (h2:g δ=.ok true):V9 f g δ=.ok true:=by unfold V9; rw [h1,C6,if_pos rfl,h2]
theorem Ps {f g:Dn->Res Bool} {δ:Dn} (h1:f δ=.ok false):V9 f g δ=.ok false:=by unfold V9; rw [h1,C6,if_neg (by decide)]
theorem Jm {f g:Dn->Res Bool} {δ:Dn} (h1:f δ=.ok true) (h2:g δ=.ok false):V9 f g δ=.ok false:=by unfold V9; rw [h1,C6,if_pos rfl,h2]
theorem hE {f:Dn->Res wY} {lo hi:Dn->Res (Option Int)} {δ:Dn} {x y:wY} {l u:Option Int} (h1:f δ=.ok x) (h2:lo δ=.ok l) (h3:hi δ=.ok u) (h4:aT x l u=some y):vSl f lo hi δ=.ok y:=by unfold vSl; rw [h1,C6,h2,C6,h3,C6,h4]; rfl
def Le (x y z:Str) (d:wY):Prop:=∀ k i n xs,d=.tuple (.str k::i::.str n::xs)->k = "mark" \/ k = "unmark" -> n=x\/n=y\/n=z
theorem qO (ns:List Int) (hns:ns.length<=63) {S:IdP->wY->Prop} {U:IdP->IdP->Prop} (a:Int) (p:IdP) (ho:okI p) (kn0:List Dp) (hk:∀ e∈kn0,Wf e.2 (S e.2) (U e.2) e.1/\e.2.1 < p.1) (up:kn0.Pairwise (fun a b=>key a.2 < key b.2)) (hkl:kn0.length<=9) (x y z:Str) (hxyz:Af x/\Af y/\Af z) :
   ∃ d,N8 [scr ns,.int a,idP p,.tuple (kn0.map (·.1)),.list [.str x,.str y,.str z]]=.ok d/\Le x y z d/\Wf p (SgOf p.1 (kn0.map (·.1))) (fun q=>∃ e∈kn0,e.2=q) d:=by
 have hids:∀ d∈kn0.map (·.1),∃ q:IdP,dIx d (.int 1)=some (idP q)/\∃ e∈kn0,e.2=q:=fun d hd=>by
   obtain ⟨e,he,rfl⟩:=yK.mp hd; obtain ⟨_,hf⟩:=(hk e he).1; refine ⟨e.2,?_,e,he,rfl⟩; rcases hf with ⟨_,_,q,_⟩ | ⟨_,q,_⟩ | ⟨_,_,_,_,_,q,_⟩ | ⟨_,q,_⟩ | ⟨_,q,_⟩ <;> rw [q] <;> exact O5 (j:=1) (by simp)
 obtain ⟨sg,es,hsl,hsg,hsr⟩:=iV (T:=p.1) kn0 hk up hkl;have hkl':(kn0.map (·.1)).length<=9:=by rw [xG]; exact hkl
 generalize kn0.map (·.1)=kn at *;obtain ⟨way,ew,w0,w1⟩:=L0 ns hns a 12 (by decide);obtain ⟨r5,e5,a5,b5⟩:=L0 ns hns (a+5) 3 (by decide);obtain ⟨nm,hnm,f5⟩:=ixL (xs:=[.str x,.str y,.str z]) a5 b5;have:∃ q,nm=.str q/\Af q/\(q=x\/q=y\/q=z):=by
   simp only [xD,FO,or_false] at hnm; rcases hnm with rfl | rfl | rfl
   . exact ⟨_,rfl,hxyz.1,.inl rfl⟩
   . exact ⟨_,rfl,hxyz.2.1,.inr (.inl rfl)⟩
   . exact ⟨_,rfl,hxyz.2.2,.inr (.inr rfl)⟩
 obtain ⟨q,rfl,hq,hq3⟩:=this;have nmq:∀ (k0:Str) (xs0:List wY),Le x y z (.tuple (.str k0::idP p::.str q::xs0)):=fun k0 xs0 k i n xs e _=>by
   simp only [DM,z7,GZ] at e; exact e.2.2.1▸hq3
 unfold N8 Ci Az Ay Ax Aw Av Au Ar Aq I0;rw [Pl];simp only [N2,xJ,zX,xP,zG,yB,zW,yO,z4,z0];rw [B5 (D3 (C7 (A7 rfl rfl) es)),B5 (D3 (C7 (A7 rfl (A7 rfl (A7 rfl rfl))) ew))];simp only [yF,yG];by_cases c1:way < 2/\sg≠[]
 . have t1 : (V9 (C4 (b2 (A0 6) (vC (.int 2)) (P4 .Lt))) (C4 (b2 (A0 5) (K4 A8) dNe))) [.sh (scr ns), .sh (.int a), .sh (idP p), .sh (.tuple kn), .sh (.list [.str x, .str y, .str z]), .sh (.list sg), .sh (.int way), .un, .un, .un] = .ok true := by
     have:sg.isEmpty=false:=by cases sg with | nil=>exact absurd rfl c1.2 | cons _ _=>rfl
     exact Jl (C3 (B6 rfl rfl (fP c1.1))) (C3 (B6 rfl rfl (by rw [dNeL,this]; rfl)))
   have hall:∀ z∈sg.mapIdx (fun i d=>(k8 i,d)),∃ b,(C4 (b2 (C1 (A3 (A0 2) (A3 (b2 (b2 (A0 3) (vC (.int 20)) C5) (A0 0) C5) (A3 (vC (.int 4)) A8))) B3) (vC (.int 0)) dEq)) ([.sh z.1,.sh z.2]++[.sh (scr ns),.sh (.int a)])=.ok b:=fun z hz=>by
     rw [List.mem_mapIdx] at hz; obtain ⟨i,hi,rfl⟩:=hz; obtain ⟨r,er,_,_⟩:=L0 ns hns (a+20+(i:Int)) 4 (by decide);refine ⟨r==0,?_⟩;simp_arith [V7,er,qW]
   obtain ⟨ys,g1,g2'⟩:=Sz _ hall; rw [lV] at g2'; rw [<- qF] at g1; have g2:=g2'.length_le; have hel:(En sg).length=sg.length:=by unfold En; simp
   have n1:F5 (fun δ=>((A3 (A0 5) A8) δ).bind Ji) Lq [0,1] (C4 (b2 (C1 (A3 (A0 2) (A3 (b2 (b2 (A0 3) (vC (.int 20)) C5) (A0 0) C5) (A3 (vC (.int 4)) A8))) B3) (vC (.int 0)) dEq)) (A0 1) [.sh (scr ns),.sh (.int a),.sh (idP p),.sh (.tuple kn),.sh (.list [.str x,.str y,.str z]),.sh (.list sg),.sh (.int way),.un,.un,.un]=.ok ys :=
     I8 (ds:=En sg) (by show ((A3 (A0 5) A8) _).bind Ji=_; rw [A7 (d:=.list sg) (ds:=[]) rfl rfl]; rfl) (by lia) rfl g1
   have hex:∃ ex:List wY,ex.length<=1/\((ys++ex).Sublist sg/\ys++ex≠[])/\P8 (.list (sg.take 1)) (.int (if ys.isEmpty=true then 1 else 0))=some (.list ex):=by
     have lt:(sg.take 1).length<=1:=by simp; lia
     cases ey:ys with
     | nil =>
       refine ⟨(yB 1 (sg.take 1)).flatten,by simpa using lt,⟨by simpa using HX 1 sg,fun z=>c1.2 ?_⟩,?_⟩
       . cases sg with
         | nil=>rfl
         | cons _ _=>simp at z
       . rw [if_pos (show List.isEmpty []=true from rfl)]
         exact mulL ⟨by decide,by decide,xX (show _<=1 by simpa using lt) (by decide)⟩
     | cons y0 yr =>
       refine ⟨[],by simp,⟨by rw [yL,<- ey]; exact g2',by simp⟩,?_⟩;rw [if_neg (by simp)]; exact mulL ⟨by decide,by decide,by simp⟩
   obtain ⟨ex,exl,exs,hmul⟩:=hex; have hadd:=Zh (x:=ys) (y:=ex) (by lia);have cut1:aT (.list sg) none (some 1)=some (.list (sg.take 1)):=by
     show some (FZ (Fs sg none (some 1)))=_;congr 2;cases sg with
     | nil=>rfl
     | cons s r =>
       unfold Fs HT.sIx; simp
   have hint:Sy [.bool ys.isEmpty]=some (.int (if ys.isEmpty=true then 1 else 0)):=rfl;have htup:∀ l,Fo [.list l]=some (.tuple l):=fun _=>rfl;have hnew:Os 8 (F5 (fun δ=>((A3 (A0 5) A8) δ).bind Ji) Lq [0,1] (C4 (b2 (C1 (A3 (A0 2) (A3 (b2 (b2 (A0 3) (vC (.int 20)) C5) (A0 0) C5) (A3 (vC (.int 4)) A8))) B3) (vC (.int 0)) dEq)) (A0 1)) [.sh (scr ns),.sh (.int a),.sh (idP p),.sh (.tuple kn),.sh (.list [.str x,.str y,.str z]),.sh (.list sg),.sh (.int way),.un,.un,.un]=.nx [.sh (scr ns),.sh (.int a),.sh (idP p),.sh (.tuple kn),.sh (.list [.str x,.str y,.str z]),.sh (.list sg),.sh (.int way),.un,.sh (.list ys),.un]:=by
     unfold Os; rw [n1]; rfl
   have t2:(K8 (F3 (A3 (vC (.str "drop")) (A3 (A0 2) (A3 (vFn (A3 (b2 (A0 8) (b2 (vSl (A0 5) Y2 (P0 (vC (.int 1)))) (vFn (A3 (b2 (A0 8) (K4 A8) dEq) A8) Sy) P8) C5) A8) Fo) A8))))) [.sh (scr ns),.sh (.int a),.sh (idP p),.sh (.tuple kn),.sh (.list [.str x,.str y,.str z]),.sh (.list sg),.sh (.int way),.un,.sh (.list ys),.un]=.rt (.tuple [.str "drop",idP p,.tuple (ys++ex)]):=by
     simp_arith [dEqL,hint,cut1,hmul,hadd,htup]
   rw [Iv ((W1 t1).trans ((B5 hnew).trans t2))]; refine ⟨_,rfl,(fun k i n xs e _=>by simp at e),ho,.inr (.inl ⟨_,rfl,fun s hs=>hsg s (exs.1.subset hs),?_,exs.2,hsr.sublist exs.1⟩)⟩;rw [xN];lia
 . have t1 : (V9 (C4 (b2 (A0 6) (vC (.int 2)) (P4 .Lt))) (C4 (b2 (A0 5) (K4 A8) dNe))) [.sh (scr ns), .sh (.int a), .sh (idP p), .sh (.tuple kn), .sh (.list [.str x, .str y, .str z]), .sh (.list sg), .sh (.int way), .un, .un, .un] = .ok false := by
     by_cases h2:way < 2
     . have:sg=[]:=BN fun z=>c1 ⟨h2,z⟩
       subst this; exact Jm (C3 (B6 rfl rfl (fP h2))) (C3 (B6 rfl rfl (dNeL [])))
     . exact Ps (C3 (B6 rfl rfl (fQ h2)))
   rw [U8 t1];by_cases c2:way < 5
   . obtain ⟨s1,x1,f1,g1,l1⟩:=Tm ns hns (a+1) (SgOf p.1 kn) sg hsg hsl
     obtain ⟨s2,x2,f2,g2,l2⟩:=Tm ns hns (a+3) (SgOf p.1 kn) sg hsg hsl; have hadd:=addT (x:=[.str "mark",idP p,.str q]) (y:=[.tuple [s1,.str x1],.tuple [s2,.str x2]]) (by simp);refine ⟨.tuple [.str "mark",idP p,.str q,.tuple [s1,.str x1],.tuple [s2,.str x2]],?_,nmq _ _,ho,.inr (.inr (.inl ⟨q,s1,x1,s2,x2,rfl,g1,g2,hq,l1,l2⟩))⟩; exact Uy (Iv ((W1 (C3 (B6 rfl rfl (fP c2)))).trans ((B5 (D3 (O0 (A7 (C7 (A7 rfl (A7 (B6 rfl rfl V7) (A7 rfl rfl))) f1) (A7 (C7 (A7 rfl (A7 (B6 rfl rfl V7) (A7 rfl rfl))) f2) rfl))))).trans (N1 (B6 (O0 (A7 rfl (A7 rfl (A7 (B6 rfl (C7 (A7 rfl (A7 (B6 rfl rfl V7) (A7 rfl rfl))) e5) f5) rfl)))) rfl hadd)))))
   . by_cases c3:way=5
     . refine ⟨.tuple [.str "unmark",idP p,.str q],?_,nmq _ _,ho,.inr (.inr (.inr (.inl ⟨q,rfl,hq⟩)))⟩
       rw [U8 (C3 (B6 rfl rfl (fQ c2)))]; exact Uy (Iv ((W1 (C3 (B6 rfl rfl (by rw [qW,c3]; rfl)))).trans (N1 (O0 (A7 rfl (A7 rfl (A7 (B6 rfl (C7 (A7 rfl (A7 (B6 rfl rfl V7) (A7 rfl rfl))) e5) f5) rfl)))))))
     . have c3':(way==5)=false:=by simpa using c3
       by_cases c4:way < 8/\kn≠[]
       . have hne:kn.isEmpty=false:=by cases kn with | nil=>exact absurd rfl c4.2 | cons _ _=>rfl
         have hpos:(0:Int) < kn.length:=by cases kn with | nil=>exact absurd rfl c4.2 | cons _ _=>simp
         obtain ⟨r6,e6,a6,b6⟩:=L0 ns hns (a+6) (kn.length:Int) hpos; obtain ⟨d,hd,f6⟩:=Ms (xs:=kn) a6 b6; obtain ⟨qi,f7,hu⟩:=hids d hd; have f6':dIx (.tuple kn) (.int r6)=some d:=f6; refine ⟨.tuple [.str "undo",idP p,idP qi],?_,(fun k i n xs e _=>by simp [idP,idD] at e),ho,.inr (.inr (.inr (.inr ⟨_,rfl,hu⟩)))⟩;rw [U8 (C3 (B6 rfl rfl (fQ c2))),U8 (C3 (B6 rfl rfl (by rw [qW,c3'])))];exact Uy (Iv ((W1 (Jl (C3 (B6 rfl rfl (fP c4.1))) (C3 (B6 rfl rfl (by rw [qV,hne]; rfl))))).trans (N1 (O0 (A7 rfl (A7 rfl (A7 (B6 (B6 rfl (C7 (A7 rfl (A7 (B6 rfl rfl V7) (A7 (W2 (A7 rfl rfl) (lenT _)) rfl))) e6) f6') rfl f7) rfl)))))))
       . have t4 : (V9 (C4 (b2 (A0 6) (vC (.int 8)) (P4 .Lt))) (C4 (b2 (A0 3) (F3 A8) dNe))) [.sh (scr ns), .sh (.int a), .sh (idP p), .sh (.tuple kn), .sh (.list [.str x, .str y, .str z]), .sh (.list sg), .sh (.int way), .un, .un, .un] = .ok false := by
           by_cases h2:way < 8
           . have:kn=[]:=BN fun z=>c4 ⟨h2,z⟩
             subst this; exact Jm (C3 (B6 rfl rfl (fP h2))) (C3 (B6 rfl rfl (qV [])))
           . exact Ps (C3 (B6 rfl rfl (fQ h2)))
         obtain ⟨w,ew2,wl⟩:=gV ns hns (a+8); have g1:=Zh (x:=[.none]) (y:=sg) (by simp; lia);have hc:aT (.list sg) (some (-3)) none=some (.list (Fs sg (some (-3)) none)):=rfl; have hcl:=qX sg (some (-3)) none; have hcm:∀ s∈Fs sg (some (-3)) none,SgOf p.1 kn s:=fun s hs=>hsg s (iK hs);generalize Fs sg (some (-3)) none=ct at *;have g2:=Zh (x:=[.none]++sg) (y:=ct) (by simp; lia);obtain ⟨r7,e7,a7,b7⟩:=L0 ns hns (a+7) ((sg.length:Int)+1+(ct.length:Int)) (by lia);obtain ⟨bh,hbh,f7⟩:=ixL (xs:=[.none]++sg++ct) a7 (by simp; lia);have hneg:Dh (.int 3)=some (.int (-3)):=rfl; have hb:OrN (SgOf p.1 kn) bh:=by
           rcases xK.mp hbh with h | h
           . rcases xK.mp h with h | h
             . exact .inl (xM.mp h)
             . exact .inr (hsg bh h)
           . exact .inr (hcm bh h)
         generalize [PyData.none]++sg=L1 at *;generalize L1++ct=L2' at *;refine ⟨.tuple [.str "add",idP p,bh,.str w],?_,(fun k i n xs e hk=>by simp only [DM,z7,GZ] at e; rw [<- e.1] at hk; exact absurd hk (by decide +kernel)),ho,.inl ⟨bh,w,rfl,hb,wl⟩⟩;rw [U8 (C3 (B6 rfl rfl (fQ c2))),U8 (C3 (B6 rfl rfl (by rw [qW,c3']))),U8 t4];have sl:vSl (A0 5) (P0 (b1 (vC (.int 3)) Dh)) Y2 [.sh (scr ns),.sh (.int a),.sh (idP p),.sh (.tuple kn),.sh (.list [.str x,.str y,.str z]),.sh (.list sg),.sh (.int way),.un,.un,.un]=.ok (.list ct):=hE rfl rfl rfl hc; exact Uy ((B5 (D3 (B6 (B6 (B6 rfl rfl g1) sl g2) (C7 (A7 rfl (A7 (B6 rfl rfl V7) (A7 (B6 (B6 (W2 (A7 rfl rfl) (vO _)) rfl V7) (W2 (A7 sl rfl) (vO _)) V7) rfl))) e7) f7))).trans (N1 (O0 (A7 rfl (A7 rfl (A7 rfl (A7 (C7 (A7 rfl (A7 (B6 rfl rfl V7) rfl)) ew2) rfl)))))))
noncomputable def dZ:Dn->Out:=(B9 (D4 7 (b2 (b2 (A0 5) (vC (.int 0)) dIx) (C1 (A3 (A0 0) (A3 (b2 (b2 (A0 1) (vC (.int 1)) C5) (b2 (vC (.int 60)) (A0 6) P8) C5) (A3 (vC (.int 2)) A8))) B3) C5)) (B9 (D4 8 (b2 (vC (.str "abc")) (C1 (A3 (A0 0) (A3 (b2 (b2 (A0 1) (vC (.int 2)) C5) (b2 (vC (.int 60)) (A0 6) P8) C5) (A3 (vC (.int 3)) A8))) B3) dIx)) (B9 (sIf (V9 (C4 (b2 (A0 4) (F3 A8) dNe)) (C4 (b2 (F3 (A3 (A0 7) (A3 (A0 8) A8))) (A0 5) (P4 .LtE)))) (D4 7 (b2 (b2 (A0 5) (vC (.int 0)) dIx) (vC (.int 1)) C5)) E5) (B9 (D4 5 (F3 (A3 (A0 7) (A3 (A0 8) A8)))) (B9 (D4 9 (vFn (A3 (K4 (F5 (fun δ=>((A0 4) δ).bind D9) E3 [7] (C4 (b2 (b2 (b2 (A0 0) (vC (.int 1)) dIx) (vC (.int 0)) dIx) (A0 1) (P4 .Lt))) (A0 0))) A8) Fo)) (D4 4 (b2 (A0 4) (F3 (A3 (C1 (A3 (A0 0) (A3 (b2 (b2 (A0 1) (vC (.int 3)) C5) (b2 (vC (.int 60)) (A0 6) P8) C5) (A3 (A0 5) (A3 (A0 9) (A3 (A0 3) A8))))) N8) A8)) C5)))))))
theorem leS (h h':Str) (k:okH h) (k':okH h'):(h==h')=decide (hj h=hj h')/\aE .LtE h h'=decide (hj h<=hj h'):=by
 rcases k with rfl | rfl | rfl <;> rcases k' with rfl | rfl | rfl <;> exact ⟨by decide +kernel,by decide +kernel⟩
theorem leIdE {t t':Int} {h h':Str} (k:okH h) (k':okH h'):P4 .LtE (idD t h) (idD t' h')=some (.bool (decide (key (t,h)<=key (t',h')))):=by
 obtain ⟨e1,e2⟩:=leS h h' k k';have l1:=Yf h;have l2:=Yf h';unfold P4 key;rw [if_pos (xX (qI t h) (by decide))];show (Gh .LtE [.int t,.str h] [.int t',.str h']).map CG=_;simp only [Gh];have f1:xT (.int t) (.int t')=(t==t'):=rfl;have f2:xT (.str h) (.str h')=(h==h'):=rfl;rw [f1,f2,e1];by_cases c1:t=t'
 . subst c1
   rw [if_pos (by simp)];by_cases c2:hj h=hj h'
   . rw [if_pos (by simp [c2])]
     simp [Zi,c2]
   . rw [if_neg (by simp [c2])]
     show (some (aE .LtE h h')).map CG=_;rw [e2]; simp only [EC];congr 3;apply propext; lia
 . rw [if_neg (by simp [c1])]
   show (some (decide (t<=t'))).map CG=_;simp only [EC];congr 3;apply propext; lia
theorem Wf.id {p:IdP} {S:wY->Prop} {U:IdP->Prop} {d:wY} (w:Wf p S U d):dIx d (.int 1)=some (idP p):=by
 obtain ⟨_,hf⟩:=w;rcases hf with ⟨_,_,q,_⟩ | ⟨_,q,_⟩ | ⟨_,_,_,_,_,q,_⟩ | ⟨_,q,_⟩ | ⟨_,q,_⟩ <;> rw [q] <;> exact O5 (j:=1) (by simp)
theorem ix0 (x:wY) (xs:List wY):dIx (.tuple (x::xs)) (.int 0)=some x:=O5 (xs:=x::xs) (j:=0) (by simp)
theorem abc {c:Nat} (h:c∈("abc" : Str).cps.toList):(⟨#[c]⟩:Str) = "a" \/ (⟨#[c]⟩:Str) = "b" \/ (⟨#[c]⟩:Str) = "c" := by
 have h':c∈[97,98,99]:=by
   have:("abc" : Str).cps.toList=[97,98,99]:=by decide
   rw [this] at h; exact h
 simp only [xD,FO,or_false] at h';rcases h' with rfl | rfl | rfl
 . exact .inl (by decide)
 . exact .inr (.inl (by decide))
 . exact .inr (.inr (by decide))
theorem dR {δc:Dn} {tt:Dn->Res Bool} (f:Dp->Bool):∀ L:List Dp,(∀ e∈L,tt ([.sh e.1]++δc)=.ok (f e))->D7 E3 δc tt (A0 0) (L.map (·.1))=.ok ((L.filter f).map (·.1))
 | [],_=>rfl
 | e::L,h=>by
   have h1:=h e (.head _); have ih:=dR f L fun e' he=>h e' (.tail _ he);rw [xJ]; unfold D7; rw [show E3 e.1=.ok [.sh e.1] from rfl];simp only [h1,ih];cases hf:f e with
   | true=>rw [KN hf]; rfl
   | false=>rw [List.filter_cons_of_neg (by rw [hf]; decide)]
def Upk (L:List Dp):Prop:=L.Pairwise fun a b=>key a.2 < key b.2
def WfIn (L:List Dp) (e:Dp):Prop:=Wf e.2 (SgOf e.2.1 (L.map (·.1))) (fun q=>(∃ e'∈L,e'.2=q)/\q.1 < e.2.1) e.1
def BkW (L:List Dp):Prop:=(∀ e∈L,WfIn L e)/\Upk L
theorem WfIn.mono {L L':List Dp} {e:Dp} (h:WfIn L e) (k:∀ x∈L,x∈L'):WfIn L' e :=
 Wf.mono h (fun x hx=>hx.mono fun d hd=>by obtain ⟨y,hy,rfl⟩:=yK.mp hd; exact zA (k y hy)) fun q ⟨⟨y,hy,e⟩,hq⟩=>⟨⟨y,k y hy,e⟩,hq⟩
theorem gR (ns:List Int) (hns:ns.length<=63) (x y z:Str) (hxyz:Af x/\Af y/\Af z) (k:Int) (hk:0<=k) (hk2:k < 9) (j:Nat) (hj:j < 9) (L:List Dp) (hl:L.length=j) (hd:BkW L) (t:Int) (h:Str) (ht:1<=t) (ht2:t<=j+1) (hth:okH h) (s7 s8 s9:Sl) :
   ∃ (d:wY) (t':Int) (h':Str) (s7' s8' s9':Sl),Le x y z d/\WfIn L (d,(t',h'))/\1<=t'/\t'<=((j+1:Nat):Int)+1/\okH h'/\(L=[]\/key (t,h) < key (t',h'))/\dZ [.sh (scr ns),.sh (.int 10),.sh (.int 9),.sh (.list [.str x,.str y,.str z]),.sh (.tuple (L.map (·.1))),.sh (idD t h),.sh (.int k),s7,s8,s9]
     = .nx [.sh (scr ns),.sh (.int 10),.sh (.int 9),.sh (.list [.str x,.str y,.str z]),.sh (.tuple (L.map (·.1)++[d])),.sh (idD t' h'),.sh (.int k),s7',s8',s9']:=by
 obtain ⟨r1,e1,a1,b1⟩:=L0 ns hns (10+1+60*k) 2 (by decide);obtain ⟨r2,e2,a2,b2'⟩:=L0 ns hns (10+2+60*k) 3 (by decide);obtain ⟨c,hc,f2⟩:=lD (x := "abc") a2 (by have:("abc" : Str).cps.toList.length=3:=(by decide); rw [this]; exact b2');have hh:=abc hc;generalize (⟨#[c]⟩:Str)=hd' at *;have eb:=leIdE (t:=t+r1) (t':=t) (show okH hd' from hh) hth;have go : ∀ tt : Int, 1 <= tt -> tt <= j + 2 -> ∃ d, Le x y z d /\ WfIn L (d, (tt, hd')) /\ ∃ kn, (B9 (D4 5 (F3 (A3 (A0 7) (A3 (A0 8) A8)))) (B9 (D4 9 (vFn (A3 (K4 (F5 (fun δ => ((A0 4) δ).bind D9) E3 [7] (C4 (b2 (b2 (b2 (A0 0) (vC (.int 1)) dIx) (vC (.int 0)) dIx) (A0 1) (P4 .Lt))) (A0 0))) A8) Fo)) (D4 4 (b2 (A0 4) (F3 (A3 (C1 (A3 (A0 0) (A3 (b2 (b2 (A0 1) (vC (.int 3)) C5) (b2 (vC (.int 60)) (A0 6) P8) C5) (A3 (A0 5) (A3 (A0 9) (A3 (A0 3) A8))))) N8) A8)) C5))))
     [.sh (scr ns),.sh (.int 10),.sh (.int 9),.sh (.list [.str x,.str y,.str z]),.sh (.tuple (L.map (·.1))),.sh (idD t h),.sh (.int k),.sh (.int tt),.sh (.str hd'),s9]
     = .nx [.sh (scr ns),.sh (.int 10),.sh (.int 9),.sh (.list [.str x,.str y,.str z]),.sh (.tuple (L.map (·.1)++[d])),.sh (idD tt hd'),.sh (.int k),.sh (.int tt),.sh (.str hd'),.sh (.tuple kn)]:=fun tt h1 h2=>by
   have g1:=dR (δc:=[.sh (.int tt)]) (tt:=C4 (b2 (b2 (b2 (A0 0) (vC (.int 1)) dIx) (vC (.int 0)) dIx) (A0 1) (P4 .Lt))) (fun e=>decide (e.2.1 < tt)) L fun e he=>by
     have:=(hd.1 e he).id;simp_arith [this,ix0,ltI]
   have fm:∀ e∈L.filter fun e=>decide (e.2.1 < tt),e∈L/\e.2.1 < tt:=fun e he=>by
     obtain ⟨m,q⟩:=zT.mp he; exact ⟨m,of_decide_eq_true q⟩
   have fl:=AA (fun e:Dp=>decide (e.2.1 < tt)) L;obtain ⟨d,ed,nmd,wd'⟩:=qO ns hns (S:=fun p=>SgOf p.1 (L.map (·.1))) (U:=fun p q=>(∃ e'∈L,e'.2=q)/\q.1 < p.1) (10+3+60*k) (tt,hd') ⟨h1,by simp only; lia,hh⟩ (L.filter fun e=>decide (e.2.1 < tt)) (fun e he=>⟨hd.1 e (fm e he).1,(fm e he).2⟩) (hd.2.filter _) (by lia) x y z hxyz;have wd:WfIn L (d,(tt,hd')):=wd'.mono (fun x hx=>hx.mono fun q hq=>by obtain ⟨e,he,rfl⟩:=yK.mp hq; exact zA (fm e he).1) fun q ⟨e,he,hq⟩=>⟨⟨e,(fm e he).1,hq⟩,hq▸(fm e he).2⟩;have ll:(L.map (·.1)).length=j:=by rw [xG]; exact hl
   generalize (L.filter fun e=>decide (e.2.1 < tt)).map (·.1)=kn at *;refine ⟨d,nmd,wd,kn,?_⟩; have hadd:=addT (x:=L.map (·.1)) (y:=[d]) (by simp; lia);have htup:Fo [.list kn]=some (.tuple kn):=rfl; rw [B5 (D3 (O0 (A7 rfl (A7 rfl rfl))))]; simp only [yF,yG]; rw [B5 (D3 (W2 (A7 (P9 (I8 (E6 rfl rfl) (by lia) rfl g1)) rfl) htup))]; simp only [yF,yG];simp_arith [V7,kR,ed,hadd]
 unfold dZ;rw [B5 (D3 (d:=.int (t+r1)) (by simp_arith [ix0,V7,kR,e1]))];simp only [yF,yG];rw [B5 (D3 (d:=.str hd') (by simp_arith [V7,kR,e2,f2]))];simp only [yF,yG];have hc1:∃ b,(b=false->L=[]\/key (t,h) < key (t+r1,hd'))/\(V9 (C4 (b2 (A0 4) (F3 A8) dNe)) (C4 (b2 (F3 (A3 (A0 7) (A3 (A0 8) A8))) (A0 5) (P4 .LtE)))) [.sh (scr ns),.sh (.int 10),.sh (.int 9),.sh (.list [.str x,.str y,.str z]),.sh (.tuple (L.map (·.1))),.sh (idD t h),.sh (.int k),.sh (.int (t+r1)),.sh (.str hd'),s9]=.ok b:=by
   cases he:(L.map (·.1)).isEmpty with
   | true=>exact ⟨false,fun _=>.inl (by cases L with | nil=>rfl | cons _ _=>cases he),by simp_arith [qV,he,FJ]⟩
   | false=>exact ⟨decide (key (t+r1,hd')<=key (t,h)),fun z=>.inr (by have:=of_decide_eq_false z; lia),by simp_arith [qV,he,Bool.not_false,eb]⟩
 obtain ⟨b,hbk,hb⟩:=hc1;cases b with
 | true =>
   obtain ⟨d,nmd,wd,kn,ek⟩:=go (t+1) (by lia) (by lia);refine ⟨d,t+1,hd',.sh (.int (t+1)),.sh (.str hd'),.sh (.tuple kn),nmd,wd,by lia,by lia,hh,.inr (by have:=Yf h; unfold key; simp only; lia),?_⟩;rw [B5 ((W1 hb).trans (D3 (d:=.int (t+1)) (by simp_arith [ix0,V7])))];simp only [yF,yG]; exact ek
 | false =>
   obtain ⟨d,nmd,wd,kn,ek⟩:=go (t+r1) (by lia) (by lia);refine ⟨d,t+r1,hd',.sh (.int (t+r1)),.sh (.str hd'),.sh (.tuple kn),nmd,wd,by lia,by lia,hh,hbk rfl,?_⟩;rw [U8 hb]; exact ek
theorem BkW.snoc {L:List Dp} {d:wY} {p q:IdP} (h:BkW L) (w:WfIn L (d,q)) (hk:∀ e∈L,key e.2<=key p) (hq:L=[]\/key p < key q):BkW (L++[(d,q)])/\∀ e∈L++[(d,q)],key e.2<=key q:=by
 have lt:∀ e∈L,key e.2 < key q:=fun e he=>by
   rcases hq with z | z
   . rw [z] at he; exact nomatch he
   . have:=hk e he; lia
 have up:∀ x∈L,x∈L++[(d,q)]:=fun x hx=>GM _ hx;refine ⟨⟨fun e he=>?_,?_⟩,fun e he=>?_⟩
 . rcases xK.mp he with z | z
   . exact (h.1 e z).mono up
   . rw [xM.mp z]; exact w.mono up
 . exact n4.mpr ⟨h.2,AM _ _,fun a ha b hb=>by rw [xM.mp hb]; exact lt a ha⟩
 . rcases xK.mp he with z | z
   . exact LS (lt e z)
   . rw [xM.mp z]; exact IW _
theorem Te (ns:List Int) (hns:ns.length<=63) (x y z:Str) (hxyz:Af x/\Af y/\Af z):∀ (l:List wY),(∀ d∈l,∃ k:Int,d=.int k/\0<=k/\k < 9)->∀ (j:Nat) (L:List Dp) (t:Int) (h:Str) (s6 s7 s8 s9:Sl),j+l.length<=9->L.length=j->BkW L->(∀ e∈L,Le x y z e.1)->(∀ e∈L,key e.2<=key (t,h))->1<=t->t<=j+1->okH h ->
   ∃ L' s5 s6' s7' s8' s9',BkW L'/\(∀ e∈L',Le x y z e.1)/\L'.length<=9/\E8 (st1 6) dZ l [.sh (scr ns),.sh (.int 10),.sh (.int 9),.sh (.list [.str x,.str y,.str z]),.sh (.tuple (L.map (·.1))),.sh (idD t h),s6,s7,s8,s9]=.nx [.sh (scr ns),.sh (.int 10),.sh (.int 9),.sh (.list [.str x,.str y,.str z]),.sh (.tuple (L'.map (·.1))),s5,s6',s7',s8',s9']
 | [],_,j,L,t,h,s6,s7,s8,s9,hj,hl,hd,hnm,_,_,_,_=>⟨L,_,_,_,_,_,hd,hnm,by simp at hj; lia,rfl⟩
 | d0::l,hk,j,L,t,h,s6,s7,s8,s9,hj,hl,hd,hnm,hb,h1,h2,h3=>by
   obtain ⟨k,rfl,k0,k1⟩:=hk d0 (.head _); simp only [xP] at hj; obtain ⟨d,t',h',s7',s8',s9',nmd,wd,t1,t2,t3,kk,e⟩:=gR ns hns x y z hxyz k k0 k1 j (by lia) L hl hd t h h1 h2 h3 s7 s8 s9;obtain ⟨hB,hB2⟩:=hd.snoc wd hb kk; obtain ⟨L',s5,s6',s7'',s8'',s9'',w',n',l',e'⟩:=Te ns hns x y z hxyz l (fun d hd=>hk d (.tail _ hd)) (j+1) (L++[(d,(t',h'))]) t' h' (.sh (.int k)) s7' s8' s9' (by lia) (by simp [hl]) hB (fun e he=>(xK.mp he).elim (hnm e) fun he=>by rw [xM.mp he]; exact nmd) hB2 t1 t2 t3;refine ⟨L',s5,s6',s7'',s8'',s9'',w',n',l',?_⟩; unfold E8; simp only [st1,yF,yG]; rw [e]; rw [yA] at e'; exact e'
theorem rD (ns:List Int) (hns:ns.length<=63) (x y z:Str) (hxyz:Af x/\Af y/\Af z):∃ L,Y4 [scr ns,.int 10,.int 9,.list [.str x,.str y,.str z]]=.ok (.tuple (L.map (·.1)))/\L.length<=9/\BkW L/\∀ e∈L,Le x y z e.1:=by
 obtain ⟨r,e,a,b⟩:=L0 ns hns 10 (9+1) (by decide);have hmem:∀ d∈Cy 0 r,∃ k:Int,d=.int k/\0<=k/\k < 9:=fun d hd=>by
   unfold Cy at hd; obtain ⟨i,hi,rfl⟩:=yK.mp hd; have:=m3.mp hi; exact ⟨_,rfl,by lia,by lia⟩
 have hlen:(Cy 0 r).length<=9:=by unfold Cy; simp; lia
 obtain ⟨L,s5,s6,s7,s8,s9,w,nmL,l,e'⟩:=Te ns hns x y z hxyz (Cy 0 r) hmem 0 [] 1 "a" .un .un .un .un (by lia) rfl ⟨(fun _ h=>nomatch h),.nil⟩ (fun _ h=>nomatch h) (fun _ h=>nomatch h) (by decide) (by decide) (.inl rfl);refine ⟨L,Y5 ?_,l,w,nmL⟩;unfold Ck Bd Bc Bb Ba N9;simp only [N2,xJ,zX,xP,zG,yB,zW,yO,z4,z0];rw [B5 (D3 (d:=.tuple []) rfl),B5 (D3 (d:=idD 1 "a") rfl)];simp only [yF,yG];have hfor:K9 (fun δ=>((A3 (C1 (A3 (A0 0) (A3 (A0 1) (A3 (b2 (A0 2) (vC (.int 1)) C5) A8))) B3) A8) δ).bind Kh) (st1 6) dZ [.sh (scr ns),.sh (.int 10),.sh (.int 9),.sh (.list [.str x,.str y,.str z]),.sh (.tuple []),.sh (idD 1 "a"),.un,.un,.un,.un]=.nx [.sh (scr ns),.sh (.int 10),.sh (.int 9),.sh (.list [.str x,.str y,.str z]),.sh (.tuple (L.map (·.1))),s5,s6,s7,s8,s9]:=by
   unfold K9; have:=bU (fs:=A3 (C1 (A3 (A0 0) (A3 (A0 1) (A3 (b2 (A0 2) (vC (.int 1)) C5) A8))) B3) A8) (δ:=[.sh (scr ns),.sh (.int 10),.sh (.int 9),.sh (.list [.str x,.str y,.str z]),.sh (.tuple []),.sh (idD 1 "a"),.un,.un,.un,.un]) (n:=r) (by simp_arith [V7,e]) a (by lia);rw [this,D2]; exact e'
 exact (B5 hfor).trans (N1 rfl)
structure Ad where
 p:IdP
 b:Option (IdP×Nat)
 w:Str
abbrev As:=Ad×Nat
abbrev sgn (u:As):IdP×Nat:=(u.1.p,u.2)
noncomputable def blk (e:Ad):List As:=(zF e.w.length).map fun k=>(e,k)
noncomputable def Qy (s:IdP×Nat) (l:List As):List As->List As
 | []=>[]
 | u::r=>if sgn u=s then u::(l++r) else u::Qy s l r
noncomputable def pX (x:Option (IdP×Nat)) (l L:List As):List As:=match x with
 | none=>l++L
 | some s=>Qy s l L
noncomputable def ord (B:List Ad):List As:=B.foldl (fun L a=>pX a.b (blk a) L) []
theorem Fg (B:List Ad) (e:Ad):ord (B++[e])=pX e.b (blk e) (ord B):=by unfold ord; rw [FD]; rfl
inductive Bk:List Ad->Prop where
 | nil:Bk []
 | snoc {B:List Ad} {e:Ad}:Bk B->0 < e.w.length->(∀ a∈B,key a.p < key e.p)->(e.b=none\/∃ a∈B,∃ n,n < a.w.length/\e.b=some (a.p,n))->Bk (B++[e])
theorem Up {e:Ad} {u:As}:u∈blk e↔u.1=e/\u.2 < e.w.length:=by
 unfold blk;rw [yK];constructor
 . rintro ⟨k,hk,rfl⟩; exact ⟨rfl,m3.mp hk⟩
 . rintro ⟨h1,h2⟩; exact ⟨u.2,m3.mpr h2,by rw [<- h1]⟩
theorem Yd {s:IdP×Nat} {l:List As} {v:As}:∀ {L:List As},(∃ u∈L,sgn u=s)->(v∈Qy s l L↔v∈l\/v∈L)
 | [],h=>by obtain ⟨u,hu,_⟩:=h; cases hu
 | u::r,h=>by
   unfold Qy;split
   . rw [xD,xK,xD]
     constructor
     . rintro (h | h | h)
       . exact .inr (.inl h)
       . exact .inl h
       . exact .inr (.inr h)
     . rintro (h | h | h)
       . exact .inr (.inl h)
       . exact .inl h
       . exact .inr (.inr h)
   . rename_i hn
     have h':∃ u∈r,sgn u=s:=by
       obtain ⟨x,hx,e⟩:=h; rcases xD.mp hx with rfl | hx
       . exact absurd e hn
       . exact ⟨x,hx,e⟩
     rw [xD,Yd h',xD];constructor
     . rintro (h | h | h)
       . exact .inr (.inl h)
       . exact .inl h
       . exact .inr (.inr h)
     . rintro (h | h | h)
       . exact .inr (.inl h)
       . exact .inl h
       . exact .inr (.inr h)
theorem Yc {s:IdP×Nat} {l:List As} {f:As->Bool} (hl:∀ u∈l,f u=false):∀ {L:List As},(∀ u∈L,f u=true)->(Qy s l L).filter f=L
 | [],_=>rfl
 | u::r,h=>by
   have h0:=h u (.head _); have hr:r.filter f=r:=v7.mpr fun x hx=>h x (.tail _ hx);unfold Qy;split
   . rw [yX,h0,if_pos rfl,AZ,hr,AY.mpr (fun x hx=>by rw [hl x hx]; decide),yO]
   . rw [yX,h0,if_pos rfl,Yc hl fun x hx=>h x (.tail _ hx)]
theorem Bk.pos {B:List Ad} (h:Bk B):∀ a∈B,0 < a.w.length:=by
 induction h with
 | nil=>intro a h; cases h
 | snoc _ h0 _ _ ih =>
   intro a ha; rcases xK.mp ha with ha | ha
   . exact ih a ha
   . rw [xM.mp ha]; exact h0
theorem Bk.refs {B:List Ad} (h:Bk B):∀ c∈B,∀ q n,c.b=some (q,n)->∃ a∈B,a.p=q/\n < a.w.length:=by
 induction h with
 | nil=>intro a h; cases h
 | @snoc B e _ h0 _ hb ih =>
   intro c hc q n e1; rcases xK.mp hc with hc | hc
   . obtain ⟨a,ha,r⟩:=ih c hc q n e1; exact ⟨a,xK.mpr (.inl ha),r⟩
   . rw [xM.mp hc] at e1
     rcases hb with hb | ⟨a,ha,n',hn,hb⟩
     . rw [hb] at e1; cases e1
     . rw [hb] at e1; cases e1; exact ⟨a,xK.mpr (.inl ha),rfl,hn⟩
theorem Bk.nokid {B:List Ad} {e:Ad} (h:Bk B) (hk:∀ a∈B,key a.p < key e.p) (hb:e.b=none\/∃ a∈B,∃ n,n < a.w.length/\e.b=some (a.p,n)):∀ c∈B++[e],∀ n,c.b≠some (e.p,n):=by
 intro c hc n z;have:∃ a∈B,a.p=e.p:=by
   rcases xK.mp hc with hc | hc
   . obtain ⟨a,ha,r,_⟩:=h.refs c hc _ _ z; exact ⟨a,ha,r⟩
   . rw [xM.mp hc] at z
     rcases hb with hb | ⟨a,ha,n',hn,hb⟩
     . rw [hb] at z; cases z
     . rw [hb] at z; exact ⟨a,ha,congrArg LX (zB z)⟩
 obtain ⟨a,ha,r⟩:=this;have:=hk a ha;rw [r] at this;lia
theorem Bt {B:List Ad} (h:Bk B):∀ u,u∈ord B↔u.1∈B/\u.2 < u.1.w.length:=by
 induction h with
 | nil=>intro u; constructor <;> intro h <;> simp [ord] at h
 | @snoc B e hB h0 hk hb ih =>
   intro u; have key:u∈pX e.b (blk e) (ord B)↔u∈blk e\/u∈ord B:=by
     rcases hb with hb | ⟨a,ha,n,hn,hb⟩
     . rw [hb]; exact xK
     . rw [hb]; exact Yd ⟨(a,n),(ih (a,n)).mpr ⟨ha,hn⟩,rfl⟩
   rw [Fg,key,Up,ih,xK,xM];constructor
   . rintro (⟨h1,h2⟩ | ⟨h1,h2⟩)
     . exact ⟨.inr h1,by rw [h1]; exact h2⟩
     . exact ⟨.inl h1,h2⟩
   . rintro ⟨h1 | h1,h2⟩
     . exact .inr ⟨h1,h2⟩
     . exact .inl ⟨h1,by rw [<- h1]; exact h2⟩
theorem Sn {s:IdP×Nat} {l:List As}:∀ {L:List As},(∃ u∈L,sgn u=s)->(Qy s l L).Perm (l++L)
 | [],h=>by obtain ⟨u,hu,_⟩:=h; cases hu
 | u::r,h=>by
   unfold Qy;split
   . exact (List.perm_middle (l₁:=l) (a:=u) (l₂:=r)).symm
   . rename_i hn
     have h':∃ u∈r,sgn u=s:=by
       obtain ⟨x,hx,e⟩:=h; rcases xD.mp hx with rfl | hx
       . exact absurd e hn
       . exact ⟨x,hx,e⟩
     exact ((Sn h').cons u).trans (List.perm_middle (l₁:=l) (a:=u) (l₂:=r)).symm
theorem So {B:List Ad} {e:Ad} (hB:Bk B) (hb:e.b=none\/∃ a∈B,∃ n,n < a.w.length/\e.b=some (a.p,n)):(pX e.b (blk e) (ord B)).Perm (blk e++ord B):=by
 rcases hb with hb | ⟨a,ha,n,hn,hb⟩
 . rw [hb]; exact j0 _
 . rw [hb]; exact Sn ⟨(a,n),(Bt hB (a,n)).mpr ⟨ha,hn⟩,rfl⟩
noncomputable def sgs (B:List Ad):List As:=B.flatMap blk
theorem kC {B:List Ad} (h:Bk B):(ord B).Perm (sgs B):=by
 induction h with
 | nil=>exact j0 _
 | @snoc B e hB h0 hk hb ih =>
   rw [Fg]; unfold sgs; rw [List.flatMap_append]; refine (So hB hb).trans ?_; refine List.perm_append_comm.trans ?_; rw [List.flatMap_cons,List.flatMap_nil,yL]; exact List.Perm.append_right _ ih
theorem gS (e:Ad):((blk e).map sgn).Nodup:=by
 unfold blk;rw [AG,EQ,l0];refine List.Pairwise.imp ?_ (EQ.mp IG);intro a b h z;exact h (congrArg Prod.snd z)
theorem Am {B:List Ad} (h:Bk B):((ord B).map sgn).Nodup:=by
 induction h with
 | nil=>exact .nil
 | @snoc B e hB h0 hk hb ih =>
   rw [Fg]; refine ((So hB hb).map sgn).nodup_iff.mpr ?_; rw [yA,l8]; refine ⟨gS e,ih,fun x hx y hy z=>?_⟩;obtain ⟨u,hu,rfl⟩:=yK.mp hx; obtain ⟨v,hv,rfl⟩:=yK.mp hy; have h1:=(Up.mp hu).1; have h2:=((Bt hB v).mp hv).1; have h3:=hk v.1 h2; have h4:u.1.p=v.1.p:=congrArg LX z; rw [h1] at h4; rw [<- h4] at h3;lia
noncomputable def Hq (B:List Ad) (u:As):List As:=(B.filter fun c=>c.b=some (sgn u)).map fun c=>(c,0)
noncomputable def Lk (B:List Ad):List As:=(B.filter fun c=>c.b=none).map fun c=>(c,0)
noncomputable def nxt (u:As):List As:=if u.2+1 < u.1.w.length then [(u.1,u.2+1)] else []
inductive Run (B:List Ad):List As->List As->Prop where
 | nil:Run B [] []
 | step {u:As} {st out:List As}:Run B ((Hq B u).reverse++(nxt u++st)) out->Run B (u::st) (u::out)
theorem Run.blk {B:List Ad} {e:Ad} (hn:∀ c∈B,∀ n,c.b≠some (e.p,n)) {st out:List As} (h:Run B st out):∀ (j k:Nat),k+j+1=e.w.length->Run B ((e,k)::st) (((zF e.w.length).drop k).map (fun i=>(e,i))++out):=by
 have nk:∀ k,Hq B (e,k)=[]:=fun k=>by
   unfold Hq; rw [AY.mpr (fun c hc=>by simpa using hn c hc k),zX]
 intro j;induction j with
 | zero =>
   intro k hk; have hd:(zF e.w.length).drop k=[k]:=by
     rw [p4 (by simp; lia),List.getElem_range,CQ (by simp; lia)]
   rw [hd]; refine .step ?_; rw [nk,List.reverse_nil,yO]; unfold nxt; rw [if_neg (by show ¬ (k+1 < e.w.length); lia),yO];exact h
 | succ j ih =>
   intro k hk; have hd:(zF e.w.length).drop k=k::(zF e.w.length).drop (k+1):=by
     rw [p4 (by simp; lia),List.getElem_range]
   rw [hd]; refine .step ?_; rw [nk,List.reverse_nil,yO]; unfold nxt; rw [if_pos (by show k+1 < e.w.length; lia)];exact ih (k+1) (by lia)
theorem Run.new {B:List Ad} {e:Ad} (hp:0 < e.w.length) (hn:∀ c∈B,∀ n,c.b≠some (e.p,n)) {st out:List As} (h:Run B st out):Run B ((e,0)::st) (Sm.blk e++out):=by
 have:=h.blk hn (e.w.length - 1) 0 (by lia);rw [ES] at this;exact this
theorem Kp (B:List Ad) (e:Ad) (u:As):Hq (B++[e]) u=Hq B u++if e.b=some (sgn u) then [(e,0)] else []:=by
 unfold Hq;rw [AZ,yA];congr 1;by_cases c:e.b=some (sgn u)
 . rw [if_pos c,yX,if_pos (by simpa using c)]; rfl
 . rw [if_neg c,yX,if_neg (by simpa using c)]; rfl
theorem Run.old {B:List Ad} {e:Ad} {st out:List As} (h:Run B st out) (hn:∀ u∈out,e.b≠some (sgn u)):Run (B++[e]) st out:=by
 induction h with
 | nil=>exact .nil
 | @step u st out h ih =>
   refine .step ?_; rw [Kp,if_neg (hn u (.head _)),yL]; exact ih fun v hv=>hn v (.tail _ hv)
theorem Run.ins {B:List Ad} {e:Ad} {s:IdP×Nat} (he:e.b=some s) (hp:0 < e.w.length) (hk:∀ c∈B++[e],∀ n,c.b≠some (e.p,n)) {st out:List As} (h:Run B st out) (hs:∃ u∈out,sgn u=s) (nd:(out.map sgn).Nodup):Run (B++[e]) st (Qy s (Sm.blk e) out):=by
 induction h with
 | nil=>obtain ⟨u,hu,_⟩:=hs; cases hu
 | @step u st out h ih =>
   rw [xJ,zO] at nd; unfold Qy;split
   . rename_i c
     refine .step ?_; rw [Kp,if_pos (by rw [he,c]),BX,yI];refine Run.new hp hk (h.old fun v hv z=>nd.1 ?_);rw [he] at z; cases z; rw [c]; exact zA hv
   . rename_i c
     refine .step ?_; rw [Kp,if_neg (by rw [he]; intro z; cases z; exact c rfl),yL];refine ih ?_ nd.2; obtain ⟨x,hx,e1⟩:=hs; rcases xD.mp hx with rfl | hx
     . exact absurd e1 c
     . exact ⟨x,hx,e1⟩
theorem cC {B:List Ad} (h:Bk B):Run B (Lk B).reverse (ord B):=by
 induction h with
 | nil=>exact .nil
 | @snoc B e hB h0 hk hb ih =>
   have nk:=hB.nokid hk hb; rw [Fg]; unfold Lk at ih ⊢;rw [AZ,yA,BX]; rcases hb with hb | ⟨a,ha,n,hn,hb⟩
   . rw [hb,yX,if_pos (by simpa using hb)]
     exact Run.new h0 nk (ih.old fun u _ z=>by rw [hb] at z; cases z)
   . rw [hb,yX,if_neg (by rw [hb]; simp)]
     exact ih.ins hb h0 nk ⟨(a,n),(Bt hB (a,n)).mpr ⟨ha,hn⟩,rfl⟩ (Am hB)
noncomputable def anD (x:Option (IdP×Nat)):wY:=match x with
 | none=>.none
 | some s=>sgD s.1 s.2
noncomputable def Ad.d (a:Ad):wY:=.tuple [.str "add",idP a.p,anD a.b,.str a.w]
inductive Adds:List Dp->List Ad->Prop where
 | nil:Adds [] []
 | add {L:List Dp} {B:List Ad} (a:Ad):Adds L B->Adds ((a.d,a.p)::L) (a::B)
 | oth {L:List Dp} {B:List Ad} {e:Dp} (k:Str) (x:wY) (xs:List wY):e.1=.tuple (.str k::idP e.2::x::xs)->k ≠ "add" -> Adds L B->Adds (e::L) B
theorem Adds.snoc {L:List Dp} {B:List Ad} (h:Adds L B) (a:Ad):Adds (L++[(a.d,a.p)]) (B++[a]):=by
 induction h with
 | nil=>exact .add a .nil
 | add c _ ih=>exact .add c ih
 | oth k x xs e n _ ih=>exact .oth k x xs e n ih
theorem Adds.snocO {L:List Dp} {B:List Ad} {e:Dp} (h:Adds L B) (k:Str) (x:wY) (xs:List wY) (h1:e.1=.tuple (.str k::idP e.2::x::xs)) (h2:k ≠ "add"):Adds (L++[e]) B:=by
 induction h with
 | nil=>exact .oth k x xs h1 h2 .nil
 | add c _ ih=>exact .add c ih
 | oth k' x' xs' e' n _ ih=>exact .oth k' x' xs' e' n ih
theorem Uw {p q:IdP} (h:idP p=idP q):p=q:=by
 simp only [idP,idD,DM,z7,PyData.int.injEq,GZ,and_true] at h;exact Prod.ext h.1 h.2
theorem Adds.of {L:List Dp} {B:List Ad} (h:Adds L B) {p:IdP} {b:wY} {w:Str} (m:o3 [.str "add",idP p,b,.str w]∈L.map (·.1)):∃ a∈B,a.p=p/\a.w=w:=by
 induction h with
 | nil=>cases m
 | add c _ ih =>
   rcases xD.mp m with e | m
   . have e':o3 [.str "add",idP p,b,.str w]=.tuple [.str "add",idP c.p,anD c.b,.str c.w]:=e
     injection e' with e'
     injection e' with _ e'
     injection e' with e1 e'
     injection e' with _ e'
     injection e' with e2 _
     injection e2 with e2
     exact ⟨c,.head _,(Uw e1).symm,e2.symm⟩
   . obtain ⟨a,ha,r⟩:=ih m; exact ⟨a,.tail _ ha,r⟩
 | oth k x xs e n _ ih =>
   rcases xD.mp m with e1 | m
   . replace e1:=e1.trans e
     injection e1 with e1
     injection e1 with e1 _
     injection e1 with e1
     exact absurd e1.symm n
   . exact ih m
theorem Wf.shape {p:IdP} {S:wY->Prop} {U:IdP->Prop} {d:wY} (w:Wf p S U d):(∃ b w,d=.tuple [.str "add",idP p,b,.str w]/\OrN S b/\Zj w)\/∃ k x xs,d=.tuple (.str k::idP p::x::xs)/\k ≠ "add" := by
 obtain ⟨o,r⟩:=w;rcases r with h | ⟨sg,rfl,_⟩ | ⟨n,s1,x1,s2,x2,rfl,_⟩ | ⟨n,rfl,_⟩ | ⟨i,rfl,_⟩
 . exact .inl h
 . exact .inr ⟨"drop",_,_,rfl,by decide⟩
 . exact .inr ⟨"mark",_,_,rfl,by decide⟩
 . exact .inr ⟨"unmark",_,_,rfl,by decide⟩
 . exact .inr ⟨"undo",_,_,rfl,by decide⟩
theorem Xz {p q:IdP} (h:key p < key q):p.1<=q.1:=by
 have h1:=Yf p.2;have h2:=Yf q.2;unfold key at h;lia
theorem BkW.init {L:List Dp} {e:Dp} (h:BkW (L++[e])):BkW L:=by
 obtain ⟨hw,hu⟩:=h;have hu':=n4.mp hu;refine ⟨fun x hx=>?_,hu'.1⟩;have hxe:key x.2 < key e.2:=hu'.2.2 x hx e (xM.mpr rfl);have ht:=Xz hxe;refine Wf.mono (hw x (xK.mpr (.inl hx))) (fun y hy=>?_) fun q hq=>?_
 . obtain ⟨p,b,w,n,hm,e1,hn,hp,ho⟩:=hy
   refine ⟨p,b,w,n,?_,e1,hn,hp,ho⟩; rw [yA] at hm; rcases xK.mp hm with hm | hm
   . exact hm
   . exfalso
     have he:o3 [.str "add",idP p,b,.str w]=e.1:=by simpa using hm
     have hid:p=e.2:=by
       have w1:=(hw e (xK.mpr (.inr (.head _)))).id; rw [<- he] at w1; have w2:dIx (o3 [.str "add",idP p,b,.str w]) (.int 1)=some (idP p):=O5 (xs:=[.str "add",idP p,b,.str w]) (j:=1) (by simp);rw [w2] at w1; exact Uw (zB w1)
     rw [hid] at hp;lia
 . obtain ⟨⟨e',he',rfl⟩,hq⟩:=hq
   refine ⟨?_,hq⟩; rcases xK.mp he' with he' | he'
   . exact ⟨e',he',rfl⟩
   . rw [xM.mp he'] at hq
     lia
structure BkA (L:List Dp) (B:List Ad):Prop where
 ad:Adds L B
 bk:Bk B
 wd:∀ a∈B,Zj a.w
 id:∀ a∈B,okI a.p
 inL:∀ a∈B,(a.d,a.p)∈L
 len:B.length<=L.length
theorem bka:∀ (n:Nat) (L:List Dp),L.length=n->BkW L->∃ B,BkA L B
 | 0,L,hn,_=>by
   rw [c9.mp hn]; exact ⟨[],.nil,.nil,(fun _ h=>nomatch h),(fun _ h=>nomatch h),(fun _ h=>nomatch h),xL _⟩
 | n+1,L,hn,h=>by
   have hne:L≠[]:=fun z=>by rw [z] at hn; cases hn
   obtain ⟨L',e,rfl⟩:∃ L' e,L=L'++[e]:=⟨L.dropLast,L.getLast hne,(BD hne).symm⟩; have h':=h.init; obtain ⟨B,A⟩:=bka n L' (by simpa using hn) h';have hu':=n4.mp h.2; have we:=h.1 e (xK.mpr (.inr (.head _))); rcases we.shape with ⟨b,w,e1,hb,hw⟩ | ⟨k,x,xs,e1,hk⟩
   . have hx : ∃ x : Option (IdP × Nat), b = anD x /\ (x = none \/ ∃ a ∈ B, ∃ n, n < a.w.length /\ x = some (a.p, n)) := by
       rcases hb with rfl | ⟨p,b',w',n',hm,rfl,hn',hp,ho⟩
       . exact ⟨none,rfl,.inl rfl⟩
       . rw [yA] at hm
         rcases xK.mp hm with hm | hm
         . obtain ⟨a,ha,rfl,rfl⟩:=A.ad.of hm
           exact ⟨some (a.p,n'),rfl,.inr ⟨a,ha,n',hn',rfl⟩⟩
         . exfalso
           have he:o3 [.str "add",idP p,b',.str w']=e.1:=by simpa using hm
           rw [e1] at he;injection he with he
           injection he with _ he
           injection he with he _
           rw [Uw he] at hp;lia
     obtain ⟨x,rfl,hx⟩:=hx; have ee:e=((⟨e.2,x,w⟩:Ad).d,(⟨e.2,x,w⟩:Ad).p):=Prod.ext e1 rfl; refine ⟨B++[⟨e.2,x,w⟩],?_,.snoc A.bk (by have:=hw.1; show 0 < w.length; lia) (fun a ha=>hu'.2.2 _ (A.inL a ha) e (xM.mpr rfl)) hx,fun a ha=>?_,fun a ha=>?_,fun a ha=>?_,by simp; exact A.len⟩
     . rw [ee]; exact A.ad.snoc _
     . rcases xK.mp ha with ha | ha
       . exact A.wd a ha
       . rw [xM.mp ha]; exact hw
     . rcases xK.mp ha with ha | ha
       . exact A.id a ha
       . rw [xM.mp ha]; exact we.1
     . rcases xK.mp ha with ha | ha
       . exact xK.mpr (.inl (A.inL a ha))
       . rw [xM.mp ha,<- ee]; exact xK.mpr (.inr (.head _))
   . refine ⟨B,A.ad.snocO k x xs e1 hk,A.bk,A.wd,A.id,fun a ha=>xK.mpr (.inl (A.inL a ha)),by simp; have:=A.len; lia⟩
theorem wR {L:List Dp} (h:BkW L):∃ B,BkA L B:=bka _ L rfl h
theorem V2 (x:wY) (xs:List wY):dIx (.tuple (x::xs)) (.int 0)=some x:=O5 (xs:=x::xs) (j:=0) (by simp)
theorem Et (x y:wY) (xs:List wY):dIx (.tuple (x::y::xs)) (.int 1)=some y:=O5 (xs:=x::y::xs) (j:=1) (by simp)
theorem Vu (x y z:wY) (xs:List wY):dIx (.tuple (x::y::z::xs)) (.int 2)=some z:=O5 (xs:=x::y::z::xs) (j:=2) (by simp)
theorem iF (x y z u:wY) (xs:List wY):dIx (.tuple (x::y::z::u::xs)) (.int 3)=some u:=O5 (xs:=x::y::z::u::xs) (j:=3) (by simp)
theorem fS (w:Str):T4 [.str w]=some (.int (w.length:Int)):=rfl
theorem jD (a:Ad):F6 [a.d]=.ok (.int (a.w.length:Int)):=by
 unfold F6 T9 T7 Ad.d;simp_arith [vIf,V2,iF,Gg,sO,fS]
theorem jC {k:Str} {i:wY} {xs:List wY} (h:k ≠ "add"):F6 [.tuple (.str k::i::xs)]=.ok (.int 0):=by
 unfold F6 T9 T7;have:(k==("add" : Str))=false:=beq_eq_false_iff_ne.mpr h;simp_arith [vIf,V2,Gg,this]
noncomputable def Ur (kvs:Kvs) (x:wY):wY:=(F9 kvs x).getD (.list [])
theorem U1 (x y:Option (IdP×Nat)):xT (anD x) (anD y)=decide (x=y):=by
 cases x with
 | none=>cases y with
   | none=>rfl
   | some s=>rfl
 | some s=>cases y with
   | none=>rfl
   | some t =>
     show ((xT (idP s.1) (idP t.1))&&((xT (.int s.2) (.int t.2))&&true))=_;show (((s.1.1==t.1.1)&&((s.1.2==t.1.2)&&true))&&(((s.2:Int)==(t.2:Int))&&true))=_;rw [m7]; obtain ⟨⟨a,b⟩,c⟩:=s; obtain ⟨⟨a',b'⟩,c'⟩:=t; simp;intro _ _;lia
def mV (kvs:Kvs):Prop:=∀ p∈kvs,(∃ x,p.1=anD x)/\∃ ds,p.2=.list ds
theorem eB {kvs:Kvs} (h:mV kvs) (x:Option (IdP×Nat)) (v:wY):mV (Mk kvs (anD x) v)/\∀ y,∃ ds,Ur kvs (anD y)=.list ds/\Ur (Mk kvs (anD x) v) (anD y)=.list (if x=y then ds++[v] else ds):=by
 induction kvs with
 | nil =>
   refine ⟨fun p hp=>?_,fun y=>⟨[],rfl,?_⟩⟩
   . rw [xM.mp hp]; exact ⟨⟨x,rfl⟩,_,rfl⟩
   . show ((List.find? (fun p=>xT p.1 (anD y)) [(anD x,FZ [v])]).map (·.2)).getD (.list [])=_
     rw [yS,U1];by_cases c:x=y
     . rw [decide_eq_true c,if_pos c]; rfl
     . rw [decide_eq_false c,if_neg c]; rfl
 | cons p r ih =>
   obtain ⟨⟨z,hz⟩,ds0,hd⟩:=h p (.head _); obtain ⟨i1,i2⟩:=ih fun q hq=>h q (.tail _ hq);unfold Mk; rw [hz,U1];by_cases c:z=x
   . rw [if_pos (decide_eq_true c),hd]
     refine ⟨fun q hq=>?_,fun y=>?_⟩
     . rcases xD.mp hq with rfl | hq
       . exact ⟨⟨z,rfl⟩,_,rfl⟩
       . exact h q (.tail _ hq)
     . unfold Ur F9
       rw [yS,yS,hz,U1];by_cases c2:z=y
       . rw [decide_eq_true c2]
         exact ⟨ds0,by rw [show (some p:Option (wY×wY)).map (·.2)=some p.2 from rfl,hd]; rfl,by rw [if_pos (c.symm.trans c2)]; rfl⟩
       . rw [decide_eq_false c2]
         obtain ⟨ds,e1,_⟩:=i2 y; exact ⟨ds,e1,by rw [if_neg (fun w=>c2 (c.trans w))]; exact e1⟩
   . rw [if_neg (by rw [decide_eq_false c]; decide)]
     refine ⟨fun q hq=>?_,fun y=>?_⟩
     . rcases xD.mp hq with rfl | hq
       . exact ⟨⟨z,hz⟩,_,hd⟩
       . exact i1 q hq
     . unfold Ur F9
       rw [yS,yS,hz,U1];by_cases c2:z=y
       . rw [decide_eq_true c2]
         exact ⟨ds0,by rw [show (some p:Option (wY×wY)).map (·.2)=some p.2 from rfl,hd]; rfl,by rw [if_neg (fun w=>c (c2.trans w.symm)),show (some p:Option (wY×wY)).map (·.2)=some p.2 from rfl,hd]; rfl⟩
       . rw [decide_eq_false c2]
         exact i2 y
theorem Ef (x:Option (IdP×Nat)):nkD (anD x)=true:=by
 cases x with
 | none=>rfl
 | some s=>simp [anD,nkD,Hr,isK,zQ,zS]
theorem vZ {L:List Dp} {B:List Ad} (h:Adds L B) (hp:∀ a∈B,0 < a.w.length) (bk:wY):∀ (kvs:Kvs),mV kvs->∃ out,Qz [.sh bk,.un,.un] 2 (C4 (b2 (C1 (A3 (A0 2) A8) F6) (vC (.int 0)) (Gv .Gt))) (b2 (A0 2) (vC (.int 2)) dIx) (A0 2) (L.map (·.1)) kvs=.ok out /\
   ∀ y,∃ ds,Ur kvs (anD y)=.list ds/\Ur out (anD y)=.list (ds++(B.filter fun a=>a.b=y).map Ad.d):=by
 induction h with
 | nil =>
   intro kvs g; refine ⟨kvs,rfl,fun y=>?_⟩;obtain ⟨ds,e,_⟩:=(eB g none .none).2 y; exact ⟨ds,e,by simpa using e⟩
 | @add L B a _ ih =>
   intro kvs g; obtain ⟨g1,g2⟩:=eB g a.b a.d; obtain ⟨out,e,k⟩:=ih (fun c hc=>hp c (.tail _ hc)) _ g1;have ha:=hp a (.head _); have gt:Gv .Gt (.int (a.w.length:Int)) (.int 0)=some (.bool true):=by
     show some (CG (decide ((0:Int) < a.w.length)))=_;rw [decide_eq_true (by lia)]
   refine ⟨out,?_,fun y=>?_⟩
   . rw [xJ]
     unfold Qz; have e1:(C4 (b2 (C1 (A3 (A0 2) A8) F6) (vC (.int 0)) (Gv .Gt))) ([Sl.sh bk,.un,.un].set 2 (.sh a.d))=.ok true:=by simp_arith [jD,gt]
     have e2:(b2 (A0 2) (vC (.int 2)) dIx) ([Sl.sh bk,.un,.un].set 2 (.sh a.d))=.ok (anD a.b):=by unfold Ad.d; simp_arith [Vu]
     rw [e1,e2]; show (if nkD (anD a.b)=true then _ else _)=_;rw [if_pos (Ef _)]; exact e
   . obtain ⟨ds,e3,e4⟩:=g2 y
     obtain ⟨ds',e5,e6⟩:=k y; rw [e4] at e5; cases e5; refine ⟨ds,e3,?_⟩; rw [e6];by_cases c:a.b=y
     . rw [if_pos c,yX,if_pos (by simpa using c)]; simp
     . rw [if_neg c,yX,if_neg (by simpa using c)]
 | @oth L B e k x xs he hk _ ih =>
   intro kvs g; obtain ⟨out,e2,kk⟩:=ih hp kvs g; refine ⟨out,?_,kk⟩; rw [xJ]; unfold Qz; have gt:Gv .Gt (.int 0) (.int 0)=some (.bool false):=rfl; have e1:(C4 (b2 (C1 (A3 (A0 2) A8) F6) (vC (.int 0)) (Gv .Gt))) ([Sl.sh bk,.un,.un].set 2 (.sh e.1))=.ok false:=by rw [he]; simp_arith [jC hk,gt]
   rw [e1]; exact e2
theorem gT {L:List Dp} {B:List Ad} (A:BkA L B) (hl:L.length<=9):∃ out,O9 [.tuple (L.map (·.1))]=.ok out/\∀ y,Ur out (anD y)=.list ((B.filter fun a=>a.b=y).map Ad.d):=by
 obtain ⟨out,e,k⟩:=vZ A.ad A.bk.pos (.tuple (L.map (·.1))) [] (fun _ h=>nomatch h);refine ⟨out,?_,fun y=>?_⟩
 . unfold O9 Ac X3 fnW N2 Ep Cl nU Ul
   simp only [xJ,zX,xP,zG,z4,z0,yB,zW,yO,yF,yG,AQ,KM,Ii,Fc,C6,D9,D2]; rw [if_pos ⟨by rw [xG]; lia,by decide⟩,e];rfl
 . obtain ⟨ds,e1,e2⟩:=k y
   cases e1; exact e2
noncomputable def Zd:Dn->Out:=(B9 (eV 2 4) (B9 (D4 5 (b2 (A0 4) (vC (.int 0)) dIx)) (B9 (D4 6 (b2 (A0 4) (vC (.int 1)) dIx)) (B9 (D4 7 (F3 (A3 (b2 (A0 5) (vC (.int 1)) dIx) (A3 (A0 6) A8)))) (B9 (Y0 3 (F3 (A3 (A0 7) (A3 (b2 (b2 (A0 5) (vC (.int 3)) dIx) (A0 6) dIx) A8)))) (B9 (sIf (C4 (b2 (b2 (A0 6) (vC (.int 1)) C5) (vFn (A3 (b2 (A0 5) (vC (.int 3)) dIx) A8) T4) (P4 .Lt))) (Y0 2 (F3 (A3 (A0 5) (A3 (b2 (A0 6) (vC (.int 1)) C5) A8)))) E5) (eW 2 (F5 (fun δ=>((Mz 1 (A0 7) (K4 A8)) δ).bind D9) E3 [] N6 (F3 (A3 (A0 0) (A3 (vC (.int 0)) A8)))))))))))
abbrev wt (u:As):wY:=.tuple [u.1.d,.int (u.2:Int)]
noncomputable def ltr (u:As):Str:=⟨#[u.1.w.cps.toList.getD u.2 0]⟩
abbrev sgA (u:As):wY:=sgD u.1.p (u.2:Int)
abbrev tl (u:As):wY:=.tuple [sgA u,.str (ltr u)]
theorem Tv (x:Str):x.length=x.cps.toList.length:=by unfold Str.length; simp
theorem vM {u:As} (h:u.2 < u.1.w.length):dIx (.str u.1.w) (.int (u.2:Int))=some (.str (ltr u)):=by
 have h':u.2 < u.1.w.cps.toList.length:=by rw [<- Tv]; exact h
 show (atI u.1.w.cps.toList (u.2:Int)).map _=_;rw [O5 h'];unfold ltr;rw [ER,yU h'];rfl
theorem nT {i j:Nat} {δ:Dn} {W:List wY} {d:wY} (h:δ[i]? = some (.ow (.list (W++[d])))) (hij:i≠j):eV i j δ=.nx ((δ.set i (.ow (.list W))).set j (.sh d)):=by
 unfold eV;rw [h];simp [hij]
theorem Bs {i:Nat} {δ:Dn} {f:Dn->Res wY} {W:List wY} {d:wY} (h:δ[i]? = some (.ow (.list W))) (hf:f δ=.ok d) (hl:W.length<=1000):Y0 i f δ=.nx (δ.set i (.ow (.list (W++[d])))):=by
 unfold Y0;rw [h];show M9 (f δ) _=_;rw [hf,D2,if_pos (EW hl (by decide))]
theorem nV {i:Nat} {δ:Dn} {f:Dn->Res (List wY)} {W ds:List wY} (h:δ[i]? = some (.ow (.list W))) (hf:f δ=.ok ds) (hl:W.length+ds.length<=1000):eW i f δ=.nx (δ.set i (.ow (.list (W++ds)))):=by
 unfold eW;rw [h];show M9 (f δ) _=_;rw [hf,D2,if_pos (xX hl (by decide))]
theorem dQ (δc:Dn):∀ ds:List Ad,D7 E3 δc N6 (F3 (A3 (A0 0) (A3 (vC (.int 0)) A8))) (ds.map Ad.d)=.ok (ds.map fun a=>wt (a,0))
 | ds=>V6 Ad.d (fun a=>wt (a,0)) (fun a=>by simp_arith; rfl) ds
theorem Run.len {B:List Ad} {st out:List As} (h:Run B st out):st.length<=out.length:=by
 induction h with
 | nil=>exact xL _
 | step _ ih=>simp only [xN,xP] at ih ⊢; lia
theorem pR (B:List Ad) (u:As):(Hq B u).map wt=((B.filter fun a=>a.b=some (sgn u)).map fun a=>wt (a,0)):=by
 unfold Hq;rw [AG]; rfl
theorem nM {B:List Ad} {b:wY} {kvs:Kvs} (hk:∀ y,Ur kvs (anD y)=.list ((B.filter fun a=>a.b=y).map Ad.d)) {u:As} (hu:u.2 < u.1.w.length) (W T:List wY) (hl:W.length+1+(Hq B u).length<=900) (hT:T.length<=900) (s4 s5 s6 s7:Sl) :
   ∃ t4 t5 t6 t7,Zd [.sh b,.ow (.tuple [.dict kvs,.none]),.ow (.list (W++[wt u])),.ow (.list T),s4,s5,s6,s7]=.nx [.sh b,.ow (.tuple [.dict kvs,.none]),.ow (.list (W++(nxt u).map wt++(Hq B u).map wt)),.ow (.list (T++[tl u])),t4,t5,t6,t7]:=by
 refine ⟨.sh (wt u),.sh u.1.d,.sh (.int u.2),.sh (sgA u),?_⟩;unfold Zd;rw [B5 (nT (W:=W) rfl (by decide))];simp only [yF,yG];rw [B5 (D3 (d:=u.1.d) (by simp_arith [V2]))];simp only [yF,yG];rw [B5 (D3 (d:=.int (u.2:Int)) (by simp_arith [Et]))];simp only [yF,yG];rw [B5 (D3 (d:=sgA u) (by unfold Ad.d; simp_arith [Et]))];simp only [yF,yG];rw [B5 (Bs (W:=T) (d:=tl u) rfl (by unfold Ad.d; simp_arith [iF,vM hu]) (by lia))];simp only [yF,yG];have hif : sIf (C4 (b2 (b2 (A0 6) (vC (.int 1)) C5) (vFn (A3 (b2 (A0 5) (vC (.int 3)) dIx) A8) T4) (P4 .Lt))) (Y0 2 (F3 (A3 (A0 5) (A3 (b2 (A0 6) (vC (.int 1)) C5) A8)))) E5 [.sh b, .ow (.tuple [.dict kvs, .none]), .ow (.list W), .ow (.list (T ++ [tl u])), .sh (wt u), .sh u.1.d, .sh (.int u.2), .sh (sgA u)]
     = .nx [.sh b,.ow (.tuple [.dict kvs,.none]),.ow (.list (W++(nxt u).map wt)),.ow (.list (T++[tl u])),.sh (wt u),.sh u.1.d,.sh (.int u.2),.sh (sgA u)]:=by
   unfold nxt;by_cases c:u.2+1 < u.1.w.length
   . rw [if_pos c,W1 (by unfold Ad.d; simp_arith [iF,fS,V7,fP (show (u.2:Int)+1 < (u.1.w.length:Int) by lia)])]
     rw [Bs (W:=W) (d:=wt (u.1,u.2+1)) rfl (by simp_arith [V7]; rfl) (by lia)];rfl
   . rw [if_neg c,Q7 (by unfold Ad.d; simp_arith [iF,fS,V7,fQ (show ¬ (u.2:Int)+1 < (u.1.w.length:Int) by lia)])]
     simp [E5]
 rw [B5 hif];have hnl:(nxt u).length<=1:=by unfold nxt; split <;> simp
 have hgl:(B.filter fun a=>a.b=some (sgn u)).length=(Hq B u).length:=by unfold Hq; rw [xG]
 have hget:(fun δ=>((Mz 1 (A0 7) (K4 A8)) δ).bind D9) [.sh b,.ow (.tuple [.dict kvs,.none]),.ow (.list (W++(nxt u).map wt)),.ow (.list (T++[tl u])),.sh (wt u),.sh u.1.d,.sh (.int u.2),.sh (sgA u)]=.ok ((B.filter fun a=>a.b=some (sgn u)).map Ad.d):=by
   refine E6 (d:=.list ((B.filter fun a=>a.b=some (sgn u)).map Ad.d)) ?_ rfl;rw [<- hk (some (sgn u))]; show (if nkD (anD (some (sgn u)))=true then Res.ok ((F9 kvs (anD (some (sgn u)))).getD (.list [])) else Res.no)=_;rw [if_pos (Ef (some (sgn u)))]; rfl
 rw [nV (W:=W++(nxt u).map wt) (ds:=(Hq B u).map wt) rfl (I8 hget (by rw [xG,hgl]; lia) rfl (by rw [pR]; exact dQ _ _)) (by simp only [xN,xG]; lia)];rfl
theorem gW {B:List Ad} {b:wY} {kvs:Kvs} (hk:∀ y,Ur kvs (anD y)=.list ((B.filter fun a=>a.b=y).map Ad.d)) {st out:List As} (h:Run B st out):(∀ u∈out,u.2 < u.1.w.length)->∀ (n:Nat) (T:List wY) (s4 s5 s6 s7:Sl),out.length < n->T.length+out.length<=800 ->
   ∃ t4 t5 t6 t7,Y1 (Za 2) Zd n [.sh b,.ow (.tuple [.dict kvs,.none]),.ow (.list (st.reverse.map wt)),.ow (.list T),s4,s5,s6,s7]=.nx [.sh b,.ow (.tuple [.dict kvs,.none]),.ow (.list []),.ow (.list (T++out.map tl)),t4,t5,t6,t7]:=by
 induction h with
 | nil =>
   intro _ n T s4 s5 s6 s7 hn _;cases n with
   | zero=>cases hn
   | succ n =>
     refine ⟨s4,s5,s6,s7,?_⟩; unfold Y1; rw [show Za 2 [Sl.sh b,.ow (.tuple [.dict kvs,.none]),.ow (.list (([]:List As).reverse.map wt)),.ow (.list T),s4,s5,s6,s7]=.ok false from rfl,D2,if_neg (by decide)];simp
 | @step u st out h ih =>
   intro hu n T s4 s5 s6 s7 hn hT; have hlen:=h.len; simp only [xN,HA,xP] at hlen hn hT;cases n with
   | zero=>cases hn
   | succ n =>
     have e1:(u::st).reverse.map wt=st.reverse.map wt++[wt u]:=by rw [List.reverse_cons,yA]; rfl
     rw [e1]; obtain ⟨a4,a5,a6,a7,e2⟩:=nM (b:=b) hk (hu u (.head _)) (st.reverse.map wt) T (by rw [xG,HA]; lia) (by lia) s4 s5 s6 s7;have e3:(st.reverse.map wt++(nxt u).map wt++(Hq B u).map wt)=((Hq B u).reverse++(nxt u++st)).reverse.map wt:=by
       have hr:(nxt u).reverse=nxt u:=by unfold nxt; split <;> rfl
       rw [BX,BX,LZ,hr,yA,yA]
     rw [e3] at e2; obtain ⟨t4,t5,t6,t7,e4⟩:=ih (fun v hv=>hu v (.tail _ hv)) n (T++[tl u]) a4 a5 a6 a7 (by lia) (by rw [xN]; simp; lia);refine ⟨t4,t5,t6,t7,?_⟩; unfold Y1; have ec:Za 2 [Sl.sh b,.ow (.tuple [.dict kvs,.none]),.ow (.list (st.reverse.map wt++[wt u])),.ow (.list T),s4,s5,s6,s7]=.ok true:=by
       show Res.ok (!(st.reverse.map wt++[wt u]).isEmpty)=_;simp
     rw [ec,D2,if_pos rfl,e2]; show Y1 (Za 2) Zd n _=_;rw [e4,yI]; rfl
theorem nP {B:List Ad} (h:∀ a∈B,Zj a.w):(sgs B).length<=4*B.length:=by
 unfold sgs;induction B with
 | nil=>exact xL _
 | cons a B ih =>
   rw [List.flatMap_cons,xN,xP]; have:=ih fun c hc=>h c (.tail _ hc);have h2:=(h a (.head _)).2.1; have h3:(blk a).length=a.w.length:=by unfold blk; simp
   lia
theorem X2 {L:List Dp} {B:List Ad} (A:BkA L B):(ord B).length<=4*L.length:=by
 have h1:=(kC A.bk).length_eq;have h2:=nP A.wd;have h3:=A.len;lia
theorem Wg {L:List Dp} {B:List Ad} (A:BkA L B) (hl:L.length<=9):W9 [.tuple (L.map (·.1))]=.ok (.list ((ord B).map tl)):=by
 obtain ⟨kvs,e1,hk⟩:=gT A hl;have hol:=X2 A;unfold W9 Dv O6;refine Y5 ?_;unfold N2;simp only [xJ,zX,xP,zG,z4,z0,yB,zW,yO];rw [B5 (δ':=[.sh (.tuple (L.map (·.1))),.ow (.tuple [.dict kvs,.none]),.un,.un,.un,.un,.un,.un]) (by unfold Cd W0 Cq; simp_arith [e1])];have hrl:(Lk B).length<=36:=by
   have:=(cC A.bk).len; rw [HA] at this;lia
 have hgl:(B.filter fun a=>a.b=none).length=(Lk B).length:=by unfold Lk; rw [xG]
 have hget:(fun δ=>((Mz 1 (vC .none) (K4 A8)) δ).bind D9) [.sh (.tuple (L.map (·.1))),.ow (.tuple [.dict kvs,.none]),.un,.un,.un,.un,.un,.un]=.ok ((B.filter fun a=>a.b=none).map Ad.d):=by
   refine E6 (d:=.list ((B.filter fun a=>a.b=none).map Ad.d)) ?_ rfl;rw [<- hk none]; rfl
 rw [B5 (δ':=[.sh (.tuple (L.map (·.1))),.ow (.tuple [.dict kvs,.none]),.ow (.list (((Lk B).reverse).reverse.map wt)),.un,.un,.un,.un,.un]) (by
   unfold Cc Ix; rw [I8 hget (by rw [xG,hgl]; lia) rfl (dQ _ _),D2,LZ];unfold Lk; rw [AG]; rfl)]
 rw [B5 (δ':=[.sh (.tuple (L.map (·.1))),.ow (.tuple [.dict kvs,.none]),.ow (.list (((Lk B).reverse).reverse.map wt)),.ow (.list []),.un,.un,.un,.un]) (by rfl)];obtain ⟨t4,t5,t6,t7,e2⟩:=gW (b:=.tuple (L.map (·.1))) hk (cC A.bk) (fun u hu=>((Bt A.bk u).mp hu).2) 4096 [] .un .un .un .un (by lia) (by simp; lia);rw [yO] at e2;have e3:Cb=Y1 (Za 2) Zd 4096:=rfl;rw [e3,B5 e2];rfl
noncomputable def Tf:Dn->Out:=(sIf (V9 (C4 (b2 (b2 (A0 2) (vC (.int 0)) dIx) (vC (.str "undo")) dEq)) (C4 (V8 true 1 (b2 (A0 2) (vC (.int 1)) dIx)))) (X9 1 (b2 (A0 2) (vC (.int 2)) dIx) (vC (.bool true))) E5)
noncomputable def La:Dn->Out:=(sIf (V9 (C4 (b2 (b2 (A0 3) (vC (.int 0)) dIx) (vC (.str "drop")) dEq)) (C4 (V8 true 1 (b2 (A0 3) (vC (.int 1)) dIx)))) (K9 (fun δ=>((b2 (A0 3) (vC (.int 2)) dIx) δ).bind D9) (st1 4) (X9 2 (A0 4) (vC (.bool true)))) E5)
abbrev sgO (s:IdP×Nat):wY:=anD (some s)
inductive Kd (e:Dp):Prop where
 | drop (ss:List (IdP×Nat)):e.1=.tuple [.str "drop",idP e.2,.tuple (ss.map sgO)]->ss.length<=40->Kd e
 | undo (q:IdP):e.1=.tuple [.str "undo",idP e.2,idP q]->Kd e
 | oth (k:Str) (x:wY) (xs:List wY):e.1=.tuple (.str k::idP e.2::x::xs)->k ≠ "drop" -> k ≠ "undo" -> Kd e
theorem Wi {T:Int} {D:List wY}:∀ (sg:List wY),(∀ x∈sg,SgOf T D x)->∃ ss:List (IdP×Nat),sg=ss.map sgO
 | [],_=>⟨[],rfl⟩
 | x::sg,h=>by
   obtain ⟨ss,e⟩:=Wi sg fun y hy=>h y (.tail _ hy);obtain ⟨p,b,w,n,_,e1,_⟩:=h x (.head _); exact ⟨(p,n)::ss,by rw [xJ,<- e,e1]; rfl⟩
theorem WfIn.kd {L:List Dp} {e:Dp} (h:WfIn L e):Kd e:=by
 obtain ⟨o,r⟩:=(show Wf _ _ _ _ from h);rcases r with ⟨b,w,e1,_⟩ | ⟨sg,e1,hs,hl,_⟩ | ⟨n,s1,x1,s2,x2,e1,_⟩ | ⟨n,e1,_⟩ | ⟨q,e1,_⟩
 . exact .oth "add" _ _ e1 (by decide) (by decide)
 . obtain ⟨ss,rfl⟩:=Wi sg hs
   exact .drop ss e1 (by simpa using hl)
 . exact .oth "mark" _ _ e1 (by decide) (by decide)
 . exact .oth "unmark" _ _ e1 (by decide) (by decide)
 . exact .undo q e1
theorem Kd.id {e:Dp} (h:Kd e):∃ k x xs,e.1=.tuple (.str k::idP e.2::x::xs):=by
 cases h with
 | drop ss h _=>exact ⟨_,_,_,h⟩
 | undo q h=>exact ⟨_,_,_,h⟩
 | oth k x xs h _ _=>exact ⟨_,_,_,h⟩
abbrev oN (kvs:Kvs):Sl:=.ow (.tuple [.dict kvs,.none])
abbrev fN (kvs:Kvs):Sl:=.fd ((.dict [],.none)::kvs)
theorem Fu {b:Bool} {i:Nat} {f:Dn->Res wY} {δ:Dn} {kvs:Kvs} {kd:wY} (h:kvN δ i=some kvs) (hf:f δ=.ok kd) (hk:nkD kd=true):V8 b i f δ=.ok (.bool ((F9 kvs kd).isSome != b)):=by
 unfold V8;rw [hf,C6,h];show (if nkD kd=true then _ else _)=_;rw [if_pos hk]
theorem Pi (p:IdP):nkD (idP p)=true:=by simp [nkD,Hr,isK,zQ,zS]
theorem Ff {i:Nat} {fk fv:Dn->Res wY} {δ:Dn} {kvs:Kvs} {kd v:wY} (h:δ[i]? = some (oN kvs)) (hv:fv δ=.ok v) (hk:fk δ=.ok kd) (hn:nkD kd=true) (hl:kvs.length<=1000):X9 i fk fv δ=.nx (δ.set i (oN (N7 kvs kd v))):=by
 unfold X9;rw [h];show M9 (fv δ) _=_;rw [hv,D2,hk,D2,if_pos ⟨hn,EW hl (by decide)⟩]
theorem Wb {x y:Str} (h:x≠y):(x==y)=false:=beq_eq_false_iff_ne.mpr h
theorem bR (x:Str):(x==x)=true:=beq_self_eq_true x
abbrev has (kvs:Kvs) (y:Option (IdP×Nat)):Bool:=(F9 kvs (anD y)).isSome
abbrev Jp (kvs:Kvs):Prop:=∀ p∈kvs,∃ x,p.1=anD x
theorem jN {kvs:Kvs} (h:Jp kvs) (x:Option (IdP×Nat)) (v:wY):Jp (N7 kvs (anD x) v)/\∀ y,has (N7 kvs (anD x) v) y=(decide (x=y)||has kvs y):=by
 induction kvs with
 | nil =>
   refine ⟨fun p hp=>?_,fun y=>?_⟩
   . rw [xM.mp hp]; exact ⟨x,rfl⟩
   . show ((List.find? (fun p=>xT p.1 (anD y)) [(anD x,v)]).map (·.2)).isSome=_
     rw [yS,U1];cases decide (x=y) <;> rfl
 | cons p r ih =>
   obtain ⟨z,hz⟩:=h p (.head _); obtain ⟨i1,i2⟩:=ih fun q hq=>h q (.tail _ hq);unfold N7; rw [hz,U1];by_cases c:z=x
   . rw [if_pos (decide_eq_true c)]
     refine ⟨fun q hq=>?_,fun y=>?_⟩
     . rcases xD.mp hq with rfl | hq
       . exact ⟨z,rfl⟩
       . exact h q (.tail _ hq)
     . unfold has F9
       rw [yS,yS,hz,U1,c];cases decide (x=y) <;> rfl
   . rw [if_neg (by rw [decide_eq_false c]; decide)]
     refine ⟨fun q hq=>?_,fun y=>?_⟩
     . rcases xD.mp hq with rfl | hq
       . exact ⟨z,hz⟩
       . exact i1 q hq
     . unfold has F9
       rw [yS,yS,hz,U1];cases hd:decide (z=y) with
       | true=>simp
       | false=>exact i2 y
noncomputable def Gu (un:IdP->Bool) (e:Dp) (s:IdP×Nat):Bool:=match e.1 with
 | .tuple (.str k::_::.tuple xs::_)=>(k == "drop")&&(!un e.2)&&(xs.any fun y=>xT y (sgO s))
 | _=>false
theorem Sv {un:IdP->Bool} {e:Dp} {s:IdP×Nat} {k:Str} {i x:wY} {xs:List wY} (h:e.1=.tuple (.str k::i::x::xs)) (hk:k ≠ "drop"):Gu un e s=false:=by
 unfold Gu;rw [h];split
 . rename_i heq
   injection heq with heq
   injection heq with h1 _
   injection h1 with h1
   rw [<- h1,Wb hk]; rfl
 . rfl
theorem Wx (b:wY) (ku:Kvs) (s3:Sl):∀ (ss:List (IdP×Nat)) (kvs:Kvs) (s4:Sl),Jp kvs->kvs.length+ss.length<=900->∃ kvs' s4',Jp kvs'/\kvs'.length<=kvs.length+ss.length/\(∀ y,has kvs' y=(has kvs y||ss.any fun s=>decide (some s=y))) /\
   E8 (st1 4) (X9 2 (A0 4) (vC (.bool true))) (ss.map sgO) [.sh b,fN ku,oN kvs,s3,s4]=.nx [.sh b,fN ku,oN kvs',s3,s4']
 | [],kvs,s4,hk,_=>⟨kvs,s4,hk,by simp,fun y=>by simp,rfl⟩
 | s::ss,kvs,s4,hk,hl=>by
   rw [xP] at hl; obtain ⟨g1,g2⟩:=jN hk (some s) (.bool true); have l1:=Cz (k:=sgO s) (v:=CG true) kvs; obtain ⟨kvs',s4',k1,k2,k3,k4⟩:=Wx b ku s3 ss (N7 kvs (sgO s) (.bool true)) (.sh (sgO s)) g1 (by lia);refine ⟨kvs',s4',k1,by rw [xP]; lia,fun y=>?_,?_⟩
   . rw [k3,g2,KH]
     cases decide (some s=y) <;> simp
   . rw [xJ]
     unfold E8; simp only [st1,yF,yG]; rw [Ff (kd:=sgO s) (v:=.bool true) rfl rfl rfl (Ef _) (by lia)]; exact k4
theorem lY {e:Dp} (h:Kd e) (b:wY) (ku kvs:Kvs) (s4:Sl) (hk:Jp kvs) (hl:kvs.length<=800):∃ kvs' s4',Jp kvs'/\kvs'.length<=kvs.length+40/\(∀ s,has kvs' (some s)=(has kvs (some s)||Gu (fun p=>(F9 ku (idP p)).isSome) e s)) /\
   La [.sh b,fN ku,oN kvs,.sh e.1,s4]=.nx [.sh b,fN ku,oN kvs',.sh e.1,s4']:=by
 have no : ∀ k x xs, e.1 = .tuple (.str k :: idP e.2 :: x :: xs) -> k ≠ "drop" -> ∃ kvs' s4', Jp kvs' /\ kvs'.length <= kvs.length + 40 /\ (∀ s, has kvs' (some s) = (has kvs (some s) || Gu (fun p => (F9 ku (idP p)).isSome) e s)) /\
     La [.sh b,fN ku,oN kvs,.sh e.1,s4]=.nx [.sh b,fN ku,oN kvs',.sh e.1,s4']:=fun k x xs e1 hn=>by
   refine ⟨kvs,s4,hk,by lia,fun s=>by rw [Sv e1 hn,FI],?_⟩;unfold La; rw [Q7 (Ps (by rw [e1]; simp_arith [V2,Gg,Wb hn]))];rfl
 cases h with
 | undo q h=>exact no _ _ _ h (by decide)
 | oth k x xs h h1 _=>exact no _ _ _ h h1
 | drop ss h hss =>
   have c1:(C4 (b2 (b2 (A0 3) (vC (.int 0)) dIx) (vC (.str "drop")) dEq)) [.sh b,fN ku,oN kvs,.sh e.1,s4]=.ok true:=by rw [h]; simp_arith [V2,Gg,bR]
   have c2:(C4 (V8 true 1 (b2 (A0 3) (vC (.int 1)) dIx))) [.sh b,fN ku,oN kvs,.sh e.1,s4]=.ok ((F9 ku (idP e.2)).isSome != true):=by
     refine C3 (Fu rfl ?_ (Pi e.2)); rw [h]; simp_arith [Et]
   have hd:∀ s,Gu (fun p=>(F9 ku (idP p)).isSome) e s=(!(F9 ku (idP e.2)).isSome&&ss.any fun t=>decide (some t=some s)):=fun s=>by
     unfold Gu; rw [h]; show (("drop" : Str) == "drop" && (!(F9 ku (idP e.2)).isSome)&&((ss.map sgO).any fun y=>xT y (sgO s)))=_;rw [bR,Bool.true_and,HY];congr 1;congr 1;funext t;exact U1 _ _
   unfold La;cases c:(F9 ku (idP e.2)).isSome with
   | true =>
     rw [c] at c2 hd; rw [Q7 (Jm c1 c2)]; exact ⟨kvs,s4,hk,by lia,fun s=>by rw [hd]; simp,rfl⟩
   | false =>
     rw [c] at c2 hd; obtain ⟨kvs',s4',k1,k2,k3,k4⟩:=Wx b ku (.sh e.1) ss kvs s4 hk (by lia);refine ⟨kvs',s4',k1,by lia,fun s=>by rw [k3,hd]; simp,?_⟩;rw [W1 (Jl c1 c2)]; unfold K9; rw [E6 (d:=.tuple (ss.map sgO)) (ds:=ss.map sgO) (by rw [h]; simp_arith [Vu]) rfl,D2];exact k4
theorem Ym (b:wY) (ku:Kvs):∀ (ds:List Dp),(∀ e∈ds,Kd e)->∀ (kvs:Kvs) (s3 s4:Sl),Jp kvs->kvs.length+40*ds.length<=800->∃ kvs' s3' s4',Jp kvs'/\(∀ s,has kvs' (some s)=(has kvs (some s)||ds.any fun e=>Gu (fun p=>(F9 ku (idP p)).isSome) e s)) /\
   E8 (st1 3) La (ds.map (·.1)) [.sh b,fN ku,oN kvs,s3,s4]=.nx [.sh b,fN ku,oN kvs',s3',s4']
 | [],_,kvs,s3,s4,hk,_=>⟨kvs,s3,s4,hk,fun s=>by simp,rfl⟩
 | e::ds,h,kvs,s3,s4,hk,hl=>by
   rw [xP] at hl; obtain ⟨kvs1,t4,g1,g2,g3,g4⟩:=lY (h e (.head _)) b ku kvs s4 hk (by lia);obtain ⟨kvs2,u3,u4,k1,k2,k3⟩:=Ym b ku ds (fun d hd=>h d (.tail _ hd)) kvs1 (.sh e.1) t4 g1 (by lia);refine ⟨kvs2,u3,u4,k1,fun s=>by rw [k2,g3,KH,Bool.or_assoc],?_⟩;rw [xJ]; unfold E8; simp only [st1,yF,yG]; rw [g4]; exact k3
theorem wF {L:List Dp} (h:∀ e∈L,Kd e) (hl:L.length<=9) (ku:Kvs):∃ kd,L8 [.sh (.tuple (L.map (·.1))),fN ku]=.ok kd/\∀ s,has kd (some s)=L.any fun e=>Gu (fun p=>(F9 ku (idP p)).isSome) e s:=by
 obtain ⟨kd,s3,s4,k1,k2,k3⟩:=Ym (.tuple (L.map (·.1))) ku L h [] .un .un (fun _ h=>nomatch h) (by simp; lia);refine ⟨kd,?_,fun s=>by rw [k2]; rfl⟩;unfold L8 Bg Ai qB Du Ep Cl K9 Ul;simp only [xP,zG,z4,z0,yB,zW,yO,yF,yG,Ii,AQ,Fc,C6,D9,D2];have k3':=k3;unfold La at k3';unfold K9 at k3';rw [k3'];rfl
noncomputable def dY:Dn->Out:=(Y0 3 (F3 (A3 (A0 4) (A3 (Vs (V8 true 1 (b2 (b2 (A0 4) (vC (.int 0)) dIx) (vC (.int 0)) dIx)) (V8 true 2 (b2 (A0 4) (vC (.int 0)) dIx))) A8))))
abbrev bkD (L:List Dp):wY:=.tuple (L.map (·.1))
structure Pr (L:List Dp) (ku kd:Kvs):Prop where
 u:K5 [bkD L]=.ok ku
 d:L8 [.sh (bkD L),fN ku]=.ok kd
 h:∀ s,has kd (some s)=L.any fun e=>Gu (fun p=>(F9 ku (idP p)).isSome) e s
noncomputable def un (ku:Kvs) (p:IdP):Bool:=(F9 ku (idP p)).isSome
noncomputable def F1 (ku kd:Kvs) (u:As):Bool := !(un ku u.1.p) && !(has kd (some (sgn u)))
theorem bne_true (b:Bool):(b != true) = !b:=by cases b <;> rfl
theorem nB {f g:Dn->Res wY} {δ:Dn} {a b:Bool} (h1:f δ=.ok (.bool a)) (h2:g δ=.ok (.bool b)):Vs f g δ=.ok (.bool (a&&b)):=by
 unfold Vs;rw [h1,C6];cases a with
 | true=>exact h2
 | false=>rfl
theorem Sa (b:wY) (ku kd:Kvs):∀ (us:List As) (T:List wY) (s4:Sl),T.length+us.length<=800->∃ s4',E8 (st1 4) dY (us.map tl) [.sh b,fN ku,oN kd,.ow (.list T),s4]=.nx [.sh b,fN ku,oN kd,.ow (.list (T++us.map fun u=>.tuple [tl u,.bool (F1 ku kd u)])),s4']
 | [],T,s4,_=>⟨s4,by simp [E8]⟩
 | u::us,T,s4,hl=>by
   rw [xP] at hl; obtain ⟨s4',e⟩:=Sa b ku kd us (T++[.tuple [tl u,.bool (F1 ku kd u)]]) (.sh (tl u)) (by simp; lia);refine ⟨s4',?_⟩; rw [xJ]; unfold E8; simp only [st1,yF,yG]; have e1:(V8 true 1 (b2 (b2 (A0 4) (vC (.int 0)) dIx) (vC (.int 0)) dIx)) [.sh b,fN ku,oN kd,.ow (.list T),.sh (tl u)]=.ok (.bool (!(un ku u.1.p))):=by
     rw [Fu (kvs:=ku) (kd:=idP u.1.p) rfl (by simp_arith [V2]) (Pi _),bne_true]; rfl
   have e2:(V8 true 2 (b2 (A0 4) (vC (.int 0)) dIx)) [.sh b,fN ku,oN kd,.ow (.list T),.sh (tl u)]=.ok (.bool (!(has kd (some (sgn u))))):=by
     rw [Fu (kvs:=kd) (kd:=sgA u) rfl (by simp_arith [V2]) (Ef (some (sgn u))),bne_true]; rfl
   have e3:dY [.sh b,fN ku,oN kd,.ow (.list T),.sh (tl u)]=.nx [.sh b,fN ku,oN kd,.ow (.list (T++[.tuple [tl u,.bool (F1 ku kd u)]])),.sh (tl u)]:=by
     unfold dY; exact Bs rfl (O0 (A7 (d:=tl u) (by simp_arith) (A7 (nB e1 e2) rfl))) (by lia)
   rw [e3]; show E8 (st1 4) dY (us.map tl) _=_;rw [e,yI]; rfl
theorem Ui {L:List Dp} {B:List Ad} (A:BkA L B) (hl:L.length<=9) {ku kd:Kvs} (P:Pr L ku kd):F2 [bkD L]=.ok (.list ((ord B).map fun u=>.tuple [tl u,.bool (F1 ku kd u)])):=by
 have hol:=X2 A;obtain ⟨s4,e⟩:=Sa (bkD L) ku kd (ord B) [] .un (by simp; lia);unfold F2 Aa J3;refine Y5 ?_;unfold N2;simp only [xJ,zX,xP,zG,z4,z0,yB,zW,yO];rw [B5 (δ':=[.sh (bkD L),oN ku,.un,.un,.un]) (by unfold W4 W0 Cq; simp_arith [P.u])];rw [B5 (δ':=[.sh (bkD L),fN ku,oN kd,.un,.un]) (by
   unfold W3 jE W0 Tp; show M9 (Res.bind (Res.ok (bkD L)) fun d=>L8 [.sh d,fN ku]) _=_;rw [C6,P.d]; rfl)]
 rw [B5 (δ':=[.sh (bkD L),fN ku,oN kd,.ow (.list []),.un]) (by rfl)];rw [yO] at e;have e3:Q0 [.sh (bkD L),fN ku,oN kd,.ow (.list []),.un]=.nx [.sh (bkD L),fN ku,oN kd,.ow (.list ((ord B).map fun u=>.tuple [tl u,.bool (F1 ku kd u)])),s4]:=by
   unfold Q0 K9; rw [E6 (d:=.list ((ord B).map tl)) (ds:=(ord B).map tl) (by simp_arith [Wg A hl]) rfl,D2];exact e
 rw [B5 e3];rfl
theorem Ec {α:Type} {δc:Dn} {tt:Dn->Res Bool} {el:Dn->Res wY} (g h:α->wY) (f:α->Bool):∀ xs:List α,(∀ x∈xs,tt ([.sh (g x)]++δc)=.ok (f x))->(∀ x∈xs,el ([.sh (g x)]++δc)=.ok (h x))->D7 E3 δc tt el (xs.map g)=.ok ((xs.filter f).map h)
 | [],_,_=>rfl
 | x::xs,ht,he=>by
   have ih:=Ec g h f xs (fun y hy=>ht y (.tail _ hy)) fun y hy=>he y (.tail _ hy);have h1:=ht x (.head _); have h2:=he x (.head _); rw [xJ]; unfold D7;cases c:f x with
   | true =>
     rw [c] at h1; simp only [E3,h1,h2,ih]; rw [yX,c,if_pos rfl,xJ]
   | false =>
     rw [c] at h1; simp only [E3,h1,ih]; rw [yX,c,if_neg (by decide)]
theorem Wh {L:List Dp} {B:List Ad} (A:BkA L B) (hl:L.length<=9) {ku kd:Kvs} (P:Pr L ku kd):M7 [bkD L]=.ok (.list (((ord B).filter (F1 ku kd)).map tl)):=by
 have hol:=X2 A;have hp:=Ui A hl P;unfold M7 Dw Eg;refine Y5 (N1 (P9 (I8 (E6 (d:=.list ((ord B).map fun u=>.tuple [tl u,.bool (F1 ku kd u)])) (by simp_arith [hp]) rfl) (by simp; lia) rfl ?_)));exact Ec (fun u=>.tuple [tl u,.bool (F1 ku kd u)]) tl (F1 ku kd) (ord B) (fun u _=>by
   unfold Di; exact C3 (by simp_arith [Et])) fun u _=>by unfold Di; simp_arith [V2]
theorem vN {u:As} (hw:Zj u.1.w) (h:u.2 < u.1.w.length):(ltr u).length=1/\yP (ltr u)=true/\chOk 32 126 (ltr u):=by
 have h':u.2 < u.1.w.cps.toList.length:=by rw [<- Tv]; exact h
 have hc:=hw.2.2 _ (AO h');have e:u.1.w.cps.toList.getD u.2 0=u.1.w.cps.toList[u.2]:=by rw [ER,yU h']; rfl
 refine ⟨rfl,?_,?_⟩
 . unfold ltr
   rw [e];generalize u.1.w.cps.toList[u.2]=c at hc;unfold yP; simp;lia
 . unfold ltr
   rw [e]; exact .one hc
theorem Nh {α:Type} (f:α->Str):∀ us:List α,Dr (us.map fun u=>zU (f u))=some (us.map f)
 | []=>rfl
 | u::us=>by
   show (Dr (us.map fun u=>zU (f u))).map _=_;rw [Nh f us]; rfl
theorem lC {us:List As} (h:∀ u∈us,Zj u.1.w/\u.2 < u.1.w.length) (hl:us.length<=100):Sx "" (.list (us.map fun u=>zU (ltr u)))=some (.str (z9 "" (us.map ltr))):=by
 have hx:∀ x∈us.map ltr,x.length=1/\yP x=true/\chOk 32 126 x:=fun x hx=>by
   obtain ⟨u,hu,rfl⟩:=yK.mp hx; exact vN (h u hu).1 (h u hu).2
 obtain ⟨l1,o1,_⟩:=Kq _ hx;have s1:=Ng _ hx;rw [xG] at l1 s1;show (Dr (us.map fun u=>zU (ltr u))).bind _=_;rw [Nh ltr us];show (if _ then _ else _)=_;have:(("" : Str)).length=0:=rfl;rw [if_pos ⟨by rw [s1,this]; lia,o1,xX (show _<=1000 by lia) Li⟩]
theorem bO {L:List Dp} {B:List Ad} (A:BkA L B) (hl:L.length<=9) {ku kd:Kvs} (P:Pr L ku kd):E9 [bkD L]=.ok (.str (z9 "" (((ord B).filter (F1 ku kd)).map ltr))):=by
 have hol:=X2 A;have hf:=AA (F1 ku kd) (ord B);have hs:=Wh A hl P;have hj:=lC (us:=(ord B).filter (F1 ku kd)) (fun u hu=>by
   have:=(Bt A.bk u).mp (zT.mp hu).1; exact ⟨A.wd _ this.1,this.2⟩) (by lia)
 have hc:F5 (fun δ=>((C1 (A3 (A0 0) A8) M7) δ).bind D9) E3 [] N6 (b2 (A0 0) (vC (.int 1)) dIx) [.sh (bkD L)]=.ok (((ord B).filter (F1 ku kd)).map fun u=>zU (ltr u)) :=
   I8 (E6 (d:=.list (((ord B).filter (F1 ku kd)).map tl)) (by simp_arith [hs]) rfl) (by simp; lia) rfl (V6 tl (fun u=>zU (ltr u)) (fun u=>by unfold Di; simp_arith [Et]) _)
 unfold E9 Fd Gd;refine Y5 (N1 ?_);show (Rp "" _ [.sh (bkD L)])=_;unfold Rp;rw [P9 hc,C6,hj]; rfl
theorem N3 {st:wY->Dn->Option Dn} {body:Dn->Out} {d:wY} {ds:List wY} {δ δ1 δ':Dn} (h1:st d δ=some δ1) (h2:body δ1=.nx δ'):E8 st body (d::ds) δ=E8 st body ds δ':=by
 conv=>lhs; unfold E8
 rw [h1];show (match body δ1 with | .nx δ'=>_ | .ct δ'=>_ | .bk δ'=>_ | o=>_)=_;rw [h2]
theorem qE (p q:IdP):xT (idP p) (idP q)=decide (p=q):=by
 show ((p.1==q.1)&&((p.2==q.2)&&true))=_;rw [m7];simp [Prod.ext_iff]
noncomputable def Nb (d:wY):Option IdP:=match d with
 | .tuple [.str k,_,.tuple [.int t,.str h]]=>if k = "undo" then some (t,h) else none
 | _=>none
theorem Zm {k:Str} {i x:wY} {xs:List wY} (h:k ≠ "undo"):Nb (.tuple (.str k::i::x::xs))=none:=by
 unfold Nb;split
 . rename_i heq
   injection heq with heq
   injection heq with h1 _
   injection h1 with h1
   rw [<- h1,if_neg h]
 . rfl
theorem Vt (i:wY) (q:IdP):Nb (.tuple [.str "undo",i,idP q])=some q:=by
 unfold Nb;exact if_pos rfl
noncomputable def Xk (e:Dp) (o:List IdP):List IdP:=match Nb e.1 with
 | some q=>if e.2∈o then o else o++[q]
 | none=>o
theorem fF {e:Dp} {q:IdP} (h:e.1=.tuple [.str "undo",idP e.2,idP q]) (o:List IdP):Xk e o=if e.2∈o then o else o++[q]:=by
 unfold Xk; rw [h,Vt]
theorem Xj {e:Dp} {k:Str} {i x:wY} {xs:List wY} (h:e.1=.tuple (.str k::i::x::xs)) (hk:k ≠ "undo") (o:List IdP):Xk e o=o:=by
 unfold Xk; rw [h,Zm hk]
noncomputable def Xi:List Dp->List IdP->List IdP
 | [],o=>o
 | e::r,o=>Xi r (Xk e o)
abbrev off (L:List Dp):List IdP:=Xi L.reverse []
abbrev Tn (kvs:Kvs):Prop:=∀ p∈kvs,∃ x:IdP,p.1=idP x
theorem eX {kvs:Kvs} (h:Tn kvs) (x:IdP) (v:wY):Tn (N7 kvs (idP x) v)/\∀ y,un (N7 kvs (idP x) v) y=(decide (x=y)||un kvs y):=by
 induction kvs with
 | nil =>
   refine ⟨fun p hp=>?_,fun y=>?_⟩
   . rw [xM.mp hp]; exact ⟨x,rfl⟩
   . show ((List.find? (fun p=>xT p.1 (idP y)) [(idP x,v)]).map (·.2)).isSome=_
     rw [yS,qE];cases decide (x=y) <;> rfl
 | cons p r ih =>
   obtain ⟨z,hz⟩:=h p (.head _); obtain ⟨i1,i2⟩:=ih fun q hq=>h q (.tail _ hq);unfold N7; rw [hz,qE];by_cases c:z=x
   . rw [if_pos (decide_eq_true c)]
     refine ⟨fun q hq=>?_,fun y=>?_⟩
     . rcases xD.mp hq with rfl | hq
       . exact ⟨z,rfl⟩
       . exact h q (.tail _ hq)
     . unfold un F9
       rw [yS,yS,hz,qE,c];cases decide (x=y) <;> rfl
   . rw [if_neg (by rw [decide_eq_false c]; decide)]
     refine ⟨fun q hq=>?_,fun y=>?_⟩
     . rcases xD.mp hq with rfl | hq
       . exact ⟨z,hz⟩
       . exact i1 q hq
     . unfold un F9
       rw [yS,yS,hz,qE];cases hd:decide (z=y) with
       | true=>simp
       | false=>exact i2 y
theorem eI {e:Dp} (h:Kd e) (b:wY) (kvs:Kvs) (o:List IdP) (hk:Tn kvs) (ho:∀ p,un kvs p=decide (p∈o)) (hl:kvs.length<=900):∃ kvs',Tn kvs'/\kvs'.length<=kvs.length+1/\(∀ p,un kvs' p=decide (p∈Xk e o))/\Tf [.sh b,oN kvs,.sh e.1]=.nx [.sh b,oN kvs',.sh e.1]:=by
 have no:∀ k x xs,e.1=.tuple (.str k::idP e.2::x::xs)->k ≠ "undo" -> ∃ kvs',Tn kvs'/\kvs'.length<=kvs.length+1/\(∀ p,un kvs' p=decide (p∈Xk e o))/\Tf [.sh b,oN kvs,.sh e.1]=.nx [.sh b,oN kvs',.sh e.1]:=fun k x xs e1 hk2=>by
   refine ⟨kvs,hk,BS _,by rw [Xj e1 hk2]; exact ho,?_⟩;unfold Tf; rw [Q7 (Ps (by rw [e1]; simp_arith [V2,Gg,Wb hk2]))];rfl
 cases h with
 | drop ss h _=>exact no _ _ _ h (by decide)
 | oth k x xs h _ h2=>exact no _ _ _ h h2
 | undo q h =>
   have c1:(C4 (b2 (b2 (A0 2) (vC (.int 0)) dIx) (vC (.str "undo")) dEq)) [.sh b,oN kvs,.sh e.1]=.ok true:=by rw [h]; simp_arith [V2,Gg,bR]
   have c2:(C4 (V8 true 1 (b2 (A0 2) (vC (.int 1)) dIx))) [.sh b,oN kvs,.sh e.1]=.ok (!(decide (e.2∈o))):=by
     refine C3 ?_; rw [Fu (kvs:=kvs) (kd:=idP e.2) rfl (by rw [h]; simp_arith [Et]) (Pi e.2),bne_true];exact congrArg (fun z=>Res.ok (CG (!z))) (ho e.2)
   rw [fF h]; unfold Tf;by_cases c:e.2∈o
   . rw [decide_eq_true c] at c2
     rw [Q7 (Jm c1 c2),if_pos c]; exact ⟨kvs,hk,BS _,ho,rfl⟩
   . rw [decide_eq_false c] at c2
     obtain ⟨g1,g2⟩:=eX hk q (.bool true); rw [W1 (Jl c1 c2),Ff (kd:=idP q) (v:=.bool true) rfl rfl (by rw [h]; simp_arith [Vu]) (Pi q) (by lia),if_neg c];refine ⟨_,g1,Cz kvs,fun p=>?_,rfl⟩;rw [g2,ho]; rw [m7]; simp;constructor
     . rintro (h | h)
       . exact .inr h.symm
       . exact .inl h
     . rintro (h | h)
       . exact .inr h
       . exact .inl h.symm
theorem Rq (b:wY):∀ (ds:List Dp),(∀ e∈ds,Kd e)->∀ (kvs:Kvs) (o:List IdP) (s2:Sl),Tn kvs->(∀ p,un kvs p=decide (p∈o))->kvs.length+ds.length<=900->∃ kvs' s2',(∀ p,un kvs' p=decide (p∈Xi ds o))/\E8 (st1 2) Tf (ds.map (·.1)) [.sh b,oN kvs,s2]=.nx [.sh b,oN kvs',s2']
 | [],_,kvs,o,s2,_,ho,_=>⟨kvs,s2,ho,rfl⟩
 | e::ds,h,kvs,o,s2,hk,ho,hl=>by
   rw [xP] at hl; obtain ⟨kvs1,k1,l1,o1,e1⟩:=eI (h e (.head _)) b kvs o hk ho (by lia);obtain ⟨kvs2,s2',o2,e2⟩:=Rq b ds (fun d hd=>h d (.tail _ hd)) kvs1 _ (.sh e.1) k1 o1 (by lia);exact ⟨kvs2,s2',o2,(N3 rfl e1).trans e2⟩
theorem nF {L:List Dp} (h:∀ e∈L,Kd e) (hl:L.length<=9):∃ kvs,K5 [.tuple (L.map (·.1))]=.ok kvs/\∀ p,un kvs p=decide (p∈off L):=by
 obtain ⟨kvs,s2,o,e⟩:=Rq (.tuple (L.map (·.1))) L.reverse (fun e he=>h e (List.mem_reverse.mp he)) [] [] .un (fun _ h=>nomatch h) (fun _=>rfl) (by simp; lia);refine ⟨kvs,?_,o⟩;rw [List.map_reverse] at e;unfold K5 Cg Bw fnW N2 Ep Cl K9 Ul;simp only [xJ,zX,xP,zG,z4,z0,yB,zW,yO,yF,yG,Ii,AQ,Fc,C6,Wr,D2];have e':=e;unfold Tf at e';rw [e'];rfl
structure Pq (L:List Dp) (ku kd:Kvs):Prop where
 P:Pr L ku kd
 o:∀ p,un ku p=decide (p∈off L)
theorem cJ {L:List Dp} (h:∀ e∈L,Kd e) (hl:L.length<=9):∃ ku kd,Pq L ku kd:=by
 obtain ⟨ku,e1,e4⟩:=nF h hl;obtain ⟨kd,e2,e3⟩:=wF h hl ku;exact ⟨ku,kd,⟨e1,e2,e3⟩,e4⟩
theorem wP {i:Nat} {c:Dn->Res Bool} {δ δ':Dn} {r:Res Bool} (h:fz i δ=δ') (h2:c δ'=r):cFz i c δ=r:=by unfold cFz; rw [h,h2]
theorem Kd.tid {e:Dp} (h:Kd e):dIx e.1 (.int 1)=some (idP e.2):=by
 obtain ⟨k,x,xs,e1⟩:=h.id;rw [e1]; exact Et _ _ _
theorem Bk.last {B:List Ad} {e:Ad} (h:Bk (B++[e])):Bk B/\(∀ a∈B,key a.p < key e.p)/\(e.b=none\/∃ a∈B,∃ n,n < a.w.length/\e.b=some (a.p,n)):=by
 generalize hC:B++[e]=C at h;cases h with
 | nil=>simp at hC
 | @snoc B1 e1 hB _ hk hb =>
   obtain ⟨e2,e3⟩:=List.append_inj' hC rfl; cases e3; subst e2; exact ⟨hB,hk,hb⟩
theorem Adds.init {e:Dp}:∀ {L:List Dp} {B:List Ad},Adds (L++[e]) B->∃ B',Adds L B'/\(B=B'\/∃ a,B=B'++[a])
 | [],B,h=>by
   cases h with
   | add a h=>cases h; exact ⟨[],.nil,.inr ⟨a,rfl⟩⟩
   | oth k x xs h1 h2 h=>cases h; exact ⟨[],.nil,.inl rfl⟩
 | y::L,B,h=>by
   cases h with
   | add a h =>
     obtain ⟨B',h1,h2⟩:=Adds.init (L:=L) h; refine ⟨a::B',.add a h1,?_⟩; rcases h2 with rfl | ⟨c,rfl⟩
     . exact .inl rfl
     . exact .inr ⟨c,rfl⟩
   | oth k x xs h1 h2 h =>
     obtain ⟨B',h3,h4⟩:=Adds.init (L:=L) h; exact ⟨B',.oth k x xs h1 h2 h3,h4⟩
theorem Adds.inL {L:List Dp} {B:List Ad} (h:Adds L B):B.length<=L.length/\∀ a∈B,(a.d,a.p)∈L:=by
 induction h with
 | nil=>exact ⟨xL _,fun _ h=>nomatch h⟩
 | add a _ ih =>
   refine ⟨IQ ih.1,fun c hc=>?_⟩;rcases xD.mp hc with rfl | hc
   . exact .head _
   . exact .tail _ (ih.2 c hc)
 | oth k x xs _ _ _ ih=>exact ⟨o8 ih.1,fun c hc=>.tail _ (ih.2 c hc)⟩
theorem BkA.init {L:List Dp} {e:Dp} {B:List Ad} (A:BkA (L++[e]) B):∃ B',BkA L B'/\(B=B'\/∃ a,B=B'++[a]):=by
 obtain ⟨B',h1,h2⟩:=A.ad.init;have sub:∀ a∈B',a∈B:=fun a ha=>by
   rcases h2 with rfl | ⟨c,rfl⟩
   . exact ha
   . exact xK.mpr (.inl ha)
 refine ⟨B',⟨h1,?_,fun a ha=>A.wd a (sub a ha),fun a ha=>A.id a (sub a ha),h1.inL.2,h1.inL.1⟩,h2⟩;have:=A.bk;rcases h2 with rfl | ⟨c,rfl⟩
 . exact this
 . exact this.last.1
noncomputable def inO (O:List As) (u:As):Bool:=O.any fun v=>decide (sgn v=sgn u)
theorem Ye {O:List As} {u:As} (h:u∈O):inO O u=true:=j8.mpr ⟨u,h,decide_eq_true rfl⟩
theorem aK {B B':List Ad} (hB:Bk B) (h:B=B'\/∃ a,B=B'++[a]):(ord B).filter (inO (ord B'))=ord B':=by
 rcases h with rfl | ⟨a,rfl⟩
 . exact v7.mpr fun u hu=>Ye hu
 . obtain ⟨h1,h2,h3⟩:=hB.last
   have no:∀ u∈blk a,inO (ord B') u=false:=fun u hu=>by
     unfold inO; rw [FE]; intro v hv z; have z:=of_decide_eq_true z; have h4:=h2 v.1 ((Bt h1 v).mp hv).1; have h5:v.1.p=u.1.p:=congrArg LX z; rw [(Up.mp hu).1] at h5; rw [h5] at h4;lia
   rw [Fg]; rcases h3 with hb | ⟨c,hc,n,hn,hb⟩
   . rw [hb]
     show (blk a++ord B').filter _=_;rw [AZ,AY.mpr (fun u hu=>by rw [no u hu]; decide),yO];exact v7.mpr fun u hu=>Ye hu
   . rw [hb]
     exact Yc no fun u hu=>Ye hu
theorem uZ {O:List As} (nd:(O.map sgn).Nodup) {u v:As} (hu:u∈O) (hv:v∈O) (h:sgn u=sgn v):u=v:=by
 induction O with
 | nil=>cases hu
 | cons x O ih =>
   rw [xJ,zO] at nd; rcases xD.mp hu with e1 | h1
   . rcases xD.mp hv with e2 | h2
     . exact e1.trans e2.symm
     . exact absurd (zA (f:=sgn) h2) (by rw [<- h,e1]; exact nd.1)
   . rcases xD.mp hv with e2 | h2
     . exact absurd (zA (f:=sgn) h1) (by rw [h,e2]; exact nd.1)
     . exact ih nd.2 h1 h2
theorem Ph {O:List As} (nd:(O.map sgn).Nodup) (f:As->Bool) {u:As} (hu:u∈O):inO (O.filter f) u=f u:=by
 cases c:f u with
 | true=>exact Ye (zT.mpr ⟨hu,c⟩)
 | false =>
   unfold inO; rw [FE]; intro v hv z; have hv:=zT.mp hv; rw [uZ nd hv.1 hu (of_decide_eq_true z),c] at hv; exact absurd hv.2 (by decide)
theorem BkW.pre {L1:List Dp}:∀ (n:Nat) (L2:List Dp),L2.length=n->BkW (L1++L2)->BkW L1
 | 0,L2,h,W=>by cases i4 h; rw [yL] at W; exact W
 | n+1,L2,h,W=>by
   have hne:L2≠[]:=fun z=>by rw [z] at h; cases h
   rw [<- BD hne,<- yI] at W; exact BkW.pre n L2.dropLast (by rw [GN]; lia) W.init
theorem rJ {x y:Option (IdP×Nat)} (h:anD x=anD y):x=y:=by
 have:=U1 x y;rw [h,U1] at this;exact of_decide_eq_true (this.symm.trans (decide_eq_true rfl))
theorem gU {L:List Dp} {B B':List Ad} (h:Adds L B) (h':Adds L B'):B=B':=by
 induction h generalizing B' with
 | nil=>cases h'; rfl
 | add a _ ih =>
   generalize hy:((a.d,a.p):Dp)=y at h';cases h' with
   | add a' h' =>
     have e1:=congrArg LX hy; have e2:a=a':=by
       have e3:=congrArg Prod.snd hy;cases a; cases a';simp only [Ad.d] at e1 e3;injection e1 with e1
       injection e1 with _ e1
       injection e1 with _ e1
       injection e1 with e4 e1
       injection e1 with e5 _
       injection e5 with e5
       subst e3 e5; rw [rJ e4]
     rw [e2,ih h']
   | oth k x xs h1 h2 h' =>
     rw [<- hy] at h1;injection h1 with h1
     injection h1 with h1 _
     injection h1 with h1
     exact absurd h1.symm h2
 | oth k x xs h1 h2 _ ih =>
   rename_i e _;cases e;cases h' with
   | add a' h' =>
     injection h1 with h1
     injection h1 with h1 _
     injection h1 with h1
     exact absurd h1.symm h2
   | oth k' x' xs' h1' h2' h'=>exact ih h'
structure Sub (B B1:List Ad):Prop where
 f:(ord B).filter (inO (ord B1))=ord B1
 m:∀ a∈B1,a∈B
theorem BkA.pre {L1:List Dp}:∀ (n:Nat) (L2:List Dp) (B:List Ad),L2.length=n->BkA (L1++L2) B->∃ B1,BkA L1 B1/\Sub B B1/\((∀ e∈L2,∃ k x xs,e.1=.tuple (.str k::idP e.2::x::xs)/\k ≠ "add")->B1=B)
 | 0,L2,B,h,A=>by
   cases i4 h;rw [yL] at A; exact ⟨B,A,⟨v7.mpr fun u hu=>Ye hu,fun a h=>h⟩,fun _=>rfl⟩
 | n+1,L2,B,h,A=>by
   have hne:L2≠[]:=fun z=>by rw [z] at h; cases h
   rw [<- BD hne,<- yI] at A; obtain ⟨B',A',hB⟩:=A.init; obtain ⟨B1,A1,⟨s1,s2⟩,s3⟩:=BkA.pre n L2.dropLast B' (by rw [GN]; lia) A';have f1:=aK A.bk hB; refine ⟨B1,A1,⟨?_,fun a ha=>?_⟩,fun hk=>?_⟩
   . have : (ord B).filter (inO (ord B1)) = ((ord B).filter (inO (ord B'))).filter (inO (ord B1)) := by
       rw [HM]; refine CP fun u _=>?_;cases c:inO (ord B1) u with
       | false=>rfl
       | true =>
         obtain ⟨v,hv,e⟩:=j8.mp c; have:v∈ord B':=by rw [<- s1] at hv; exact (zT.mp hv).1
         have:inO (ord B') u=true:=j8.mpr ⟨v,this,e⟩; rw [this]; rfl
     rw [this,f1,s1]
   . rcases hB with rfl | ⟨c,rfl⟩
     . exact s2 a ha
     . exact xK.mpr (.inl (s2 a ha))
   . have e1:=s3 fun e he=>hk e ((List.dropLast_sublist L2).subset he)
     rw [e1]; obtain ⟨k,x,xs,e2,e3⟩:=hk _ (List.getLast_mem hne); have h1:=(A'.ad).snocO k x xs e2 e3; exact gU h1 A.ad
theorem Fw (u v:As):xT (sgA u) (sgA v)=decide (sgn u=sgn v):=by
 rw [show sgA u=anD (some (sgn u)) from rfl,show sgA v=anD (some (sgn v)) from rfl,U1];congr 1;exact propext ⟨fun h=>zB h,fun h=>congrArg some h⟩
theorem wJ {δc:Dn} {tt:Dn->Res Bool} {el:Dn->Res wY} {d y:wY} {ds ys:List wY} (h1:tt ([.sh d]++δc)=.ok true) (h2:el ([.sh d]++δc)=.ok y) (h3:D7 E3 δc tt el ds=.ok ys):D7 E3 δc tt el (d::ds)=.ok (y::ys):=by
 unfold D7;simp only [E3,h1,h2,h3]
theorem wK {δc:Dn} {tt:Dn->Res Bool} {el:Dn->Res wY} {d:wY} {ds ys:List wY} (h1:tt ([.sh d]++δc)=.ok false) (h3:D7 E3 δc tt el ds=.ok ys):D7 E3 δc tt el (d::ds)=.ok ys:=by
 unfold D7;simp only [E3,h1,h3]
theorem Dy {k v:wY}:∀ {kvs:Kvs},(∀ p∈kvs,xT p.1 k=false)->N7 kvs k v=kvs++[(k,v)]
 | [],_=>rfl
 | p::r,h=>by
   unfold N7; rw [if_neg (by rw [h p (.head _)]; decide),Dy fun q hq=>h q (.tail _ hq)]; rfl
theorem Yi {α:Type} (f:α->wY×wY) {u:α} (hu:xT (f u).1 (f u).1=true):∀ {us:List α} {more:Kvs},u∈us->us.Pairwise (fun a b=>xT (f a).1 (f b).1=false)->F9 (us.map f++more) (f u).1=some (f u).2
 | x::us,more,h,pw=>by
   rw [yQ] at pw; unfold F9; rw [xJ,zW,yS]; rcases xD.mp h with rfl | h
   . rw [hu]; rfl
   . rw [pw.1 u h]; exact Yi f hu h pw.2
noncomputable def cnt (f:As->Bool) (X:List As):Nat:=(X.filter f).length
noncomputable def b1n (b:Bool):Nat:=if b=true then 1 else 0
theorem Yv (f:As->Bool) (X:List As) (u:As):cnt f (X++[u])=cnt f X+b1n (f u):=by
 unfold cnt b1n;rw [AZ,xN];cases h:f u with
 | true=>rw [yX,h]; rfl
 | false=>rw [yX,h]; rfl
noncomputable def num (f:As->Bool):List As->Nat->List (As×Nat)
 | [],_=>[]
 | u::us,n=>(u,n)::num f us (n+b1n (f u))
theorem Xl (f:As->Bool) (u:As):∀ (X:List As) (n:Nat),num f (X++[u]) n=num f X n++[(u,n+cnt f X)]
 | [],n=>rfl
 | x::X,n=>by
   show (x,n)::num f (X++[u]) (n+b1n (f x))=(x,n)::(num f X (n+b1n (f x))++[(u,n+cnt f (x::X))]);rw [Xl f u X,Nat.add_assoc]; have:b1n (f x)+cnt f X=cnt f (x::X):=by
     unfold cnt b1n; rw [yX];cases f x <;> simp <;> lia
   rw [this]
theorem Je (f:As->Bool):∀ (X:List As) (n:Nat),(num f X n).map (·.1)=X
 | [],_=>rfl
 | x::X,n=>by show x::(num f X _).map (·.1)=_; rw [Je f X]
theorem cT (f:As->Bool) (u:As) (Y:List As):∀ (X:List As) (n:Nat),(u,n+cnt f X)∈num f (X++u::Y) n
 | [],n=>.head _
 | x::X,n=>by
   have:=cT f u Y X (n+b1n (f x)); have e:n+b1n (f x)+cnt f X=n+cnt f (x::X):=by
     unfold cnt b1n; rw [yX];cases f x <;> simp <;> lia
   rw [e] at this; exact .tail _ this
abbrev plE (f:As->Bool) (x:As×Nat):wY×wY:=(sgA x.1,.tuple [.int ((x.2+b1n (f x.1):Nat):Int),.int (x.2:Int)])
noncomputable def dX:Dn->Out:=(B9 (D4 4 (A0 2)) (B9 (sIf (C4 (b2 (A0 3) (vC (.int 1)) dIx)) (D4 2 (b2 (A0 4) (vC (.int 1)) C5)) E5) (X9 1 (b2 (b2 (A0 3) (vC (.int 0)) dIx) (vC (.int 0)) dIx) (F3 (A3 (A0 2) (A3 (A0 4) A8))))))
theorem oR (f:As->Bool) (b:wY) (X:List As) (u:As) (hX:X.length<=100) (hn:sgn u∉X.map sgn) (s4:Sl):dX [.sh b,oN ((num f X 0).map (plE f)),.sh (.int (cnt f X:Int)),.sh (.tuple [tl u,.bool (f u)]),s4]=.nx [.sh b,oN ((num f (X++[u]) 0).map (plE f)),.sh (.int (cnt f (X++[u]):Int)),.sh (.tuple [tl u,.bool (f u)]),.sh (.int (cnt f X:Int))]:=by
 unfold dX;rw [B5 (D3 (d:=.int (cnt f X:Int)) rfl)];simp only [yF,yG];have hif:sIf (C4 (b2 (A0 3) (vC (.int 1)) dIx)) (D4 2 (b2 (A0 4) (vC (.int 1)) C5)) E5 [.sh b,oN ((num f X 0).map (plE f)),.sh (.int (cnt f X:Int)),.sh (.tuple [tl u,.bool (f u)]),.sh (.int (cnt f X:Int))]=.nx [.sh b,oN ((num f X 0).map (plE f)),.sh (.int (cnt f (X++[u]):Int)),.sh (.tuple [tl u,.bool (f u)]),.sh (.int (cnt f X:Int))]:=by
   rw [Yv];cases c:f u with
   | true =>
     rw [W1 (C3 (B6 (x:=.tuple [tl u,.bool true]) (y:=.int 1) rfl rfl (Et _ _ _)))];rw [D3 (d:=.int ((cnt f X:Int)+1)) (B6 rfl rfl rfl)]; rfl
   | false =>
     rw [Q7 (C3 (B6 (x:=.tuple [tl u,.bool false]) (y:=.int 1) rfl rfl (Et _ _ _)))];rfl
 rw [B5 hif];have hl:((num f X 0).map (plE f)).length<=1000:=by
   have:=congrArg y4 (Je f X 0); rw [xG] at this ⊢;lia
 rw [Ff (kvs:=(num f X 0).map (plE f)) (kd:=sgA u) (v:=.tuple [.int (cnt f (X++[u]):Int),.int (cnt f X:Int)]) rfl rfl (B6 (x:=tl u) (y:=.int 0) (B6 (x:=.tuple [tl u,.bool (f u)]) (y:=.int 0) rfl rfl (V2 _ _)) rfl (V2 _ _)) (Ef (some (sgn u))) hl];rw [Dy (fun p hp=>by
   obtain ⟨x,hx,rfl⟩:=yK.mp hp; have hx:x.1∈X:=by rw [<- Je f X 0]; exact zA hx
   show xT (sgA x.1) (sgA u)=false;rw [Fw,decide_eq_false]; intro z; exact hn (by rw [<- z]; exact zA hx))]
 rw [Xl,yA,LL,Yv];rfl
theorem cK (f:As->Bool) (b:wY):∀ (us X:List As),((X++us).map sgn).Nodup->(X++us).length<=100->∀ s3 s4:Sl,∃ t3 t4,E8 (st1 3) dX (us.map fun u=>.tuple [tl u,.bool (f u)]) [.sh b,oN ((num f X 0).map (plE f)),.sh (.int (cnt f X:Int)),s3,s4]=.nx [.sh b,oN ((num f (X++us) 0).map (plE f)),.sh (.int (cnt f (X++us):Int)),t3,t4]
 | [],X,_,_,s3,s4=>by rw [yL]; exact ⟨s3,s4,rfl⟩
 | u::us,X,nd,hl,s3,s4=>by
   have e1:=oR f b X u (by rw [xN] at hl; lia) (by
     rw [yA,l8] at nd; intro z; exact nd.2.2 _ z _ (by rw [xJ]; exact .head _) rfl) s4
   obtain ⟨t3,t4,e2⟩:=cK f b us (X++[u]) (by rw [yI]; exact nd) (by rw [yI]; exact hl) (.sh (.tuple [tl u,.bool (f u)])) (.sh (.int (cnt f X:Int)));rw [yI] at e2; exact ⟨t3,t4,(N3 rfl e1).trans e2⟩
noncomputable def plN (f:As->Bool) (O:List As):Kvs:=(num f O 0).map (plE f)++[(.none,.tuple [.int 0,.int (cnt f O:Int)])]
theorem Ml {g1:Dn->Out} {g2:Dn->Res Kvs} {δ δ':Dn} (h:g1 δ=.nx δ'):Ep g1 g2 δ=g2 δ':=by unfold Ep; rw [h]
theorem fA {L:List Dp} {B:List Ad} (A:BkA L B) (hl:L.length<=9) {ku kd:Kvs} (P:Pr L ku kd):U9 [bkD L]=.ok (plN (F1 ku kd) (ord B)):=by
 have hol:=X2 A;obtain ⟨t3,t4,e⟩:=cK (F1 ku kd) (bkD L) (ord B) [] (Am A.bk) (by simp; lia) .un .un;have hp:=Ui A hl P;have hlen:((num (F1 ku kd) (ord B) 0).map (plE (F1 ku kd))).length<=1000:=by
   have:=congrArg y4 (Je (F1 ku kd) (ord B) 0); rw [xG] at this ⊢;lia
 have e5:X9 1 (vC .none) (F3 (A3 (vC (.int 0)) (A3 (A0 2) A8))) [.sh (bkD L),oN ((num (F1 ku kd) (ord B) 0).map (plE (F1 ku kd))),.sh (.int (cnt (F1 ku kd) (ord B):Int)),t3,t4]=.nx [.sh (bkD L),oN (plN (F1 ku kd) (ord B)),.sh (.int (cnt (F1 ku kd) (ord B):Int)),t3,t4]:=by
   rw [Ff (kvs:=(num (F1 ku kd) (ord B) 0).map (plE (F1 ku kd))) (kd:=.none) (v:=.tuple [.int 0,.int (cnt (F1 ku kd) (ord B):Int)]) rfl rfl rfl rfl hlen];rw [Dy (fun p hp=>by
     obtain ⟨x,hx,rfl⟩:=yK.mp hp; rfl)]
   rfl
 have e6:K9 (fun δ=>((C1 (A3 (A0 0) A8) F2) δ).bind D9) (st1 3) dX [.sh (bkD L),oN [],.sh (.int 0),.un,.un]=.nx [.sh (bkD L),oN ((num (F1 ku kd) (ord B) 0).map (plE (F1 ku kd))),.sh (.int (cnt (F1 ku kd) (ord B):Int)),t3,t4]:=by
   unfold K9; rw [E6 (d:=.list ((ord B).map fun u=>.tuple [tl u,.bool (F1 ku kd u)])) (C7 (A7 (d:=bkD L) rfl rfl) hp) rfl,D2];exact e
 unfold U9 Ch Bx fnW;show Ep _ _ [.sh (bkD L),.un,.un,.un,.un]=_;refine (Ml (g1:=Cl 1) (δ':=[.sh (bkD L),oN [],.un,.un,.un]) rfl).trans ((Ml (g1:=D4 2 (vC (.int 0))) (δ':=[.sh (bkD L),oN [],.sh (.int 0),.un,.un]) rfl).trans ((Ml e6).trans ((Ml e5).trans rfl)))
theorem Ss {k:wY} {more:Kvs}:∀ {kvs:Kvs},(∀ p∈kvs,xT p.1 k=false)->F9 (kvs++more) k=F9 more k
 | [],_=>rfl
 | p::r,h=>by
   unfold F9; rw [zW,yS,h p (.head _)]; exact Ss (kvs:=r) fun q hq=>h q (.tail _ hq)
theorem vD {O:List As} (nd:(O.map sgn).Nodup) (f:As->Bool):(num f O 0).Pairwise (fun a b=>xT (plE f a).1 (plE f b).1=false):=by
 have h1:((num f O 0).map (fun x=>sgn x.1)).Nodup:=by
   have:(num f O 0).map (fun x=>sgn x.1)=((num f O 0).map (·.1)).map sgn:=by rw [AG]; rfl
   rw [this,Je]; exact nd
 rw [EQ,l0] at h1;exact h1.imp fun {a b} h=>by show xT (sgA a.1) (sgA b.1)=false; rw [Fw,decide_eq_false h]
theorem Xb (f:As->Bool) (O:List As):F9 (plN f O) .none=some (.tuple [.int 0,.int (cnt f O:Int)]):=by
 unfold plN;rw [Ss (fun p hp=>by obtain ⟨x,hx,rfl⟩:=yK.mp hp; rfl)];rfl
theorem Xa {f:As->Bool} {O X Y:List As} {u:As} (nd:(O.map sgn).Nodup) (e:O=X++u::Y):F9 (plN f O) (sgA u)=some (.tuple [.int ((cnt f X+b1n (f u):Nat):Int),.int (cnt f X:Int)]):=by
 have hm:(u,cnt f X)∈num f O 0:=by have:=cT f u Y X 0; rw [LL] at this; rw [e]; exact this
 exact Yi (plE f) (u:=(u,cnt f X)) (by show xT (sgA u) (sgA u)=true; rw [Fw]; simp) hm (vD nd f)
theorem sH:Fp "lr" (.str "l")=some (.int 0):=by
 have:CB "lr" "l" 0 (("lr" : Str)).length 1=[0]:=by decide +kernel
 simp only [Fp,this]; rfl
theorem sG:Fp "lr" (.str "r")=some (.int 1):=by
 have:CB "lr" "r" 0 (("lr" : Str)).length 1=[1]:=by decide +kernel
 simp only [Fp,this]; rfl
theorem Mu {kvs:Kvs} {k:wY} {x:Str} {y z v:wY} {j:Int} (hk:nkD k=true) (hg:F9 kvs k=some (.tuple [y,z])) (hi:Fp "lr" (.str x)=some (.int j)) (hv:dIx (.tuple [y,z]) (.int j)=some v):K0 [fN kvs,.sh (.tuple [k,.str x])]=.ok v:=by
 unfold K0 Dx Ei fnS;have:K8 (b2 (Qb 0 (b2 (A0 1) (vC (.int 0)) dIx)) (Mm (vC (.str "lr")) (b2 (A0 1) (vC (.int 1)) dIx)) dIx) [fN kvs,.sh (.tuple [k,.str x])]=.rt v:=by
   refine N1 (B6 (x:=.tuple [y,z]) (y:=.int j) ?_ ?_ hv)
   . unfold Qb
     show Res.bind _ (fun kd'=>if nkD kd'=true then ofO (F9 kvs kd') else Res.no)=_;rw [B6 (x:=.tuple [k,.str x]) (y:=.int 0) rfl rfl (V2 _ _),C6,if_pos hk,hg]; rfl
   . unfold Mm
     show Res.bind _ _=_;rw [show vC (.str "lr") [fN kvs,.sh (.tuple [k,.str x])]=.ok (.str "lr") from rfl,C6];show Res.bind _ _=_;rw [B6 (x:=.tuple [k,.str x]) (y:=.int 1) rfl rfl (Et _ _ _),C6,hi]; rfl
 show (match K8 _ [fN kvs,.sh (.tuple [k,.str x])] with | .rt d=>_ | .nx _=>_ | .exc c=>_ | _=>_)=_;rw [this]
def Rm (O:List As) (d:wY):Prop:=∃ s x,d=.tuple [s,.str x]/\kZ x/\(s=.none\/∃ u∈O,s=sgA u)
def nm3 (x y z n:Str):Prop:=Af n/\(n=x\/n=y\/n=z)
inductive Md (N:Str->Prop) (O:List As) (e:Dp):Prop where
 | mark (n:Str) (a1 a2:wY):e.1=.tuple [.str "mark",idP e.2,.str n,a1,a2]->N n->Rm O a1->Rm O a2->Md N O e
 | unm (n:Str):e.1=.tuple [.str "unmark",idP e.2,.str n]->N n->Md N O e
 | oth (k:Str) (x:wY) (xs:List wY):e.1=.tuple (.str k::idP e.2::x::xs)->k ≠ "mark" -> k ≠ "unmark" -> Md N O e
theorem WfIn.md {L:List Dp} {B:List Ad} (A:BkA L B) {x y z:Str} {e:Dp} (h:WfIn L e) (hN:Le x y z e.1):Md (nm3 x y z) (ord B) e:=by
 obtain ⟨o,r⟩:=(show Wf _ _ _ _ from h);have an:∀ s x,OrN (SgOf e.2.1 (L.map (·.1))) s->kZ x->Rm (ord B) (.tuple [s,.str x]):=fun s x hs hx=>by
   refine ⟨s,x,rfl,hx,?_⟩; rcases hs with rfl | ⟨p,b,w,n,hm,rfl,hn,_,_⟩
   . exact .inl rfl
   . obtain ⟨a,ha,rfl,rfl⟩:=A.ad.of hm
     exact .inr ⟨(a,n),(Bt A.bk (a,n)).mpr ⟨ha,hn⟩,rfl⟩
 rcases r with ⟨b,w,e1,_⟩ | ⟨sg,e1,_⟩ | ⟨n,s1,x1,s2,x2,e1,h1,h2,hn,l1,l2⟩ | ⟨n,e1,hn⟩ | ⟨q,e1,_⟩
 . exact .oth "add" _ _ e1 (by decide) (by decide)
 . exact .oth "drop" _ _ e1 (by decide) (by decide)
 . exact .mark n _ _ e1 ⟨hn,hN _ _ _ _ e1 (.inl rfl)⟩ (an _ _ h1 l1) (an _ _ h2 l2)
 . exact .unm n e1 ⟨hn,hN _ _ _ _ e1 (.inr rfl)⟩
 . exact .oth "undo" _ _ e1 (by decide) (by decide)
noncomputable def Cn (d:wY):Option Str:=match d with
 | .tuple (.str k::_::.str n::_)=>if k = "mark" \/ k = "unmark" then some n else none
 | _=>none
theorem Pa {k:Str} {i x:wY} {xs:List wY} (h1:k ≠ "mark") (h2:k ≠ "unmark"):Cn (.tuple (.str k::i::x::xs))=none:=by
 unfold Cn;split
 . rename_i heq
   injection heq with heq
   injection heq with h _
   injection h with h
   rw [<- h,if_neg (by rintro (z | z); exact h1 z; exact h2 z)]
 . rfl
noncomputable def Dd (o:List IdP) (e:Dp) (kvs:Kvs):Kvs:=match Cn e.1 with
 | some n=>if e.2∈o then kvs else N7 kvs (.str n) e.1
 | none=>kvs
noncomputable def Pf (o:List IdP):List Dp->Kvs->Kvs
 | [],kvs=>kvs
 | e::r,kvs=>Pf o r (Dd o e kvs)
noncomputable def cMk:Dn->Res Bool:=C4 (b2 (b2 (A0 3) (vC (.int 0)) dIx) (F3 (A3 (vC (.str "mark")) (A3 (vC (.str "unmark")) A8))) (dIn false))
theorem inMk (k:Str):dIn false (.str k) (.tuple [.str "mark",.str "unmark"])=some (.bool (decide (k = "mark" \/ k = "unmark"))):=by
 have h:([zU "mark",.str "unmark"].any fun y=>xT y (.str k))=decide (k = "mark" \/ k = "unmark"):=by
   show ((("mark" : Str)==k)||((("unmark" : Str)==k)||false))=_;rw [FI,m7,EG,beq_iff_eq,beq_iff_eq,decide_eq_true_iff]; exact ⟨fun h=>h.elim (fun z=>.inl z.symm) fun z=>.inr z.symm,fun h=>h.elim (fun z=>.inl z.symm) fun z=>.inr z.symm⟩
 rw [<- h];unfold dIn;simp only [];rw [if_pos (xX (p9 _ _) (by simp [zQ])),if_neg (by decide)]
theorem fV {N:Str->Prop} {O:List As} {e:Dp} (h:Md N O e) (o:List IdP) (c:Dn->Res Bool) (x0 x1:Sl) (kvs:Kvs) (hl:kvs.length<=900) (hc:c [x0,x1,oN kvs,.sh e.1]=.ok (!decide (e.2∈o))) :
   sIf (V9 cMk c) (X9 2 (b2 (A0 3) (vC (.int 2)) dIx) (A0 3)) E5 [x0,x1,oN kvs,.sh e.1]=.nx [x0,x1,oN (Dd o e kvs),.sh e.1]/\(Dd o e kvs).length<=kvs.length+1:=by
 have go:∀ k n xs,e.1=.tuple (.str k::idP e.2::.str n::xs)->(k = "mark" \/ k = "unmark")->sIf (V9 cMk c) (X9 2 (b2 (A0 3) (vC (.int 2)) dIx) (A0 3)) E5 [x0,x1,oN kvs,.sh e.1]=.nx [x0,x1,oN (Dd o e kvs),.sh e.1]/\(Dd o e kvs).length<=kvs.length+1:=fun k n xs e1 hk=>by
   have c1:cMk [x0,x1,oN kvs,.sh e.1]=.ok true:=by
     unfold cMk; refine C3 (B6 (x:=.str k) (y:=.tuple [.str "mark",.str "unmark"]) (B6 (x:=e.1) (y:=.int 0) rfl rfl (by rw [e1]; exact V2 _ _)) rfl ?_);rw [inMk,decide_eq_true hk]
   have hn:Cn e.1=some n:=by rw [e1]; unfold Cn; exact if_pos hk
   unfold Dd; rw [hn];by_cases ho:e.2∈o
   . rw [decide_eq_true ho] at hc
     rw [Q7 (Jm c1 hc)]; show _=Out.nx [x0,x1,oN (if e.2∈o then kvs else _),_]/\(if e.2∈o then kvs else _).length<=_;rw [if_pos ho]; exact ⟨rfl,by lia⟩
   . rw [decide_eq_false ho] at hc
     rw [W1 (Jl c1 hc),Ff (kvs:=kvs) (kd:=.str n) (v:=e.1) rfl rfl (B6 (x:=e.1) (y:=.int 2) rfl rfl (by rw [e1]; exact Vu _ _ _ _)) rfl (by lia)];show _=Out.nx [x0,x1,oN (if e.2∈o then kvs else _),_]/\(if e.2∈o then kvs else _).length<=_;rw [if_neg ho]; exact ⟨rfl,Cz kvs⟩
 cases h with
 | mark n a1 a2 e1 _ _ _=>exact go _ n _ e1 (.inl rfl)
 | unm n e1 _=>exact go _ n _ e1 (.inr rfl)
 | oth k x xs e1 h1 h2 =>
   have c1:cMk [x0,x1,oN kvs,.sh e.1]=.ok false:=by
     unfold cMk; refine C3 (B6 (x:=.str k) (y:=.tuple [.str "mark",.str "unmark"]) (B6 (x:=e.1) (y:=.int 0) rfl rfl (by rw [e1]; exact V2 _ _)) rfl ?_);rw [inMk,decide_eq_false (by rintro (z | z); exact h1 z; exact h2 z)]
   have hn:Cn e.1=none:=by rw [e1]; exact Pa h1 h2
   unfold Dd; rw [hn,Q7 (Ps c1)]; exact ⟨rfl,BS _⟩
theorem Sf {N:Str->Prop} {O:List As} (o:List IdP) (c:Dn->Res Bool) (x0 x1:Sl):∀ (M:List Dp),(∀ e∈M,Md N O e)->(∀ e∈M,∀ kvs,c [x0,x1,oN kvs,.sh e.1]=.ok (!decide (e.2∈o)))->∀ (kvs:Kvs) (s3:Sl),kvs.length+M.length<=900 ->
   ∃ t3,E8 (st1 3) (sIf (V9 cMk c) (X9 2 (b2 (A0 3) (vC (.int 2)) dIx) (A0 3)) E5) (M.map (·.1)) [x0,x1,oN kvs,s3]=.nx [x0,x1,oN (Pf o M kvs),t3]/\(Pf o M kvs).length<=kvs.length+M.length
 | [],_,_,kvs,s3,_=>⟨s3,rfl,xL _⟩
 | e::M,h,hc,kvs,s3,hl=>by
   rw [xP] at hl ⊢;obtain ⟨e1,l1⟩:=fV (h e (.head _)) o c x0 x1 kvs (by lia) (hc e (.head _) kvs);obtain ⟨t3,e2,l2⟩:=Sf o c x0 x1 M (fun d hd=>h d (.tail _ hd)) (fun d hd=>hc d (.tail _ hd)) (Dd o e kvs) (.sh e.1) (by lia);refine ⟨t3,(N3 rfl e1).trans e2,?_⟩; show (Pf o M (Dd o e kvs)).length<=_;lia
def LastOk (N:Str->Prop) (O:List As) (kvs:Kvs):Prop:=∀ p∈kvs,∃ n,p.1=.str n/\N n/\((∃ i a1 a2,p.2=.tuple [.str "mark",i,.str n,a1,a2]/\Rm O a1/\Rm O a2)\/∃ i,p.2=.tuple [.str "unmark",i,.str n])
theorem Ry {N:Str->Prop} {O:List As} {kvs:Kvs} (h:LastOk N O kvs) {n:Str} {d:wY} (hn:N n) (hd:(∃ i a1 a2,d=.tuple [.str "mark",i,.str n,a1,a2]/\Rm O a1/\Rm O a2)\/∃ i,d=.tuple [.str "unmark",i,.str n]):LastOk N O (N7 kvs (.str n) d):=by
 induction kvs with
 | nil=>intro p hp; rw [xM.mp hp]; exact ⟨n,rfl,hn,hd⟩
 | cons q r ih =>
   unfold N7;split
   . rename_i c
     obtain ⟨m,hm,_⟩:=h q (.head _); intro p hp; rcases xD.mp hp with rfl | hp
     . have : m = n := by
         rw [hm] at c; exact w5 (show (m==n)=true from c)
       exact ⟨n,by rw [hm,this],hn,hd⟩
     . exact h p (.tail _ hp)
   . intro p hp
     rcases xD.mp hp with rfl | hp
     . exact h p (.head _)
     . exact ih (fun x hx=>h x (.tail _ hx)) p hp
theorem Xx {N:Str->Prop} {O:List As} (o:List IdP):∀ (M:List Dp),(∀ e∈M,Md N O e)->∀ kvs,LastOk N O kvs->LastOk N O (Pf o M kvs)
 | [],_,kvs,h=>h
 | e::M,hM,kvs,h=>by
   refine Xx o M (fun d hd=>hM d (.tail _ hd)) _ ?_;cases hM e (.head _) with
   | mark n a1 a2 e1 hn h1 h2 =>
     unfold Dd; rw [e1,show Cn (.tuple [.str "mark",idP e.2,.str n,a1,a2])=some n by unfold Cn; exact if_pos (.inl rfl)];show LastOk N O (if e.2∈o then kvs else _);split
     . exact h
     . exact Ry h hn (.inl ⟨_,_,_,rfl,h1,h2⟩)
   | unm n e1 hn =>
     unfold Dd; rw [e1,show Cn (.tuple [.str "unmark",idP e.2,.str n])=some n by unfold Cn; exact if_pos (.inr rfl)];show LastOk N O (if e.2∈o then kvs else _);split
     . exact h
     . exact Ry h hn (.inr ⟨_,rfl⟩)
   | oth k x xs e1 h1 h2 =>
     unfold Dd; rw [e1,Pa h1 h2]; exact h
theorem LastOk.texts {N:Str->Prop} {O:List As}:∀ {kvs:Kvs},LastOk N O kvs->∃ ss,F4 (kvs.map (·.1))=some ss/\ss.length=kvs.length/\(∀ x∈ss,N x)/\∀ x∈ss,∃ d,F9 kvs (.str x)=some d
 | [],_=>⟨[],rfl,rfl,(fun _ h=>nomatch h),(fun _ h=>nomatch h)⟩
 | p::r,h=>by
   obtain ⟨ss,e1,e2,e3,e4⟩:=LastOk.texts (kvs:=r) fun q hq=>h q (.tail _ hq);obtain ⟨n,hn,ho,_⟩:=h p (.head _); refine ⟨n::ss,?_,by simp [e2],fun x hx=>?_,fun x hx=>?_⟩
   . rw [xJ,hn]
     show (F4 (r.map (·.1))).map (n::·)=_;rw [e1]; rfl
   . rcases xD.mp hx with rfl | hx
     . exact ho
     . exact e3 x hx
   . unfold F9
     rw [yS];cases c:xT p.1 (.str x) with
     | true=>exact ⟨_,rfl⟩
     | false =>
       rcases xD.mp hx with rfl | hx
       . rw [hn] at c
         exact absurd (show (x==x)=false from c) (by rw [beq_self_eq_true]; decide)
       . exact e4 x hx
theorem LastOk.get {N:Str->Prop} {O:List As} {kvs:Kvs} (h:LastOk N O kvs) {x:Str} {d:wY} (e:F9 kvs (.str x)=some d):(∃ i a1 a2,d=.tuple [.str "mark",i,.str x,a1,a2]/\Rm O a1/\Rm O a2)\/∃ i,d=.tuple [.str "unmark",i,.str x]:=by
 unfold F9 at e;obtain ⟨p,e1,e2⟩:=zM.mp e;have hp:=List.mem_of_find?_eq_some e1;have hq:=List.find?_some e1;obtain ⟨n,hn,_,hd⟩:=h p hp;rw [hn] at hq;have:n=x:=w5 (show (n==x)=true from hq);subst this;rw [<- e2];exact hd
noncomputable def bef (f:As->Bool):List As->As->Nat
 | [],_=>0
 | v::r,u=>if sgn v=sgn u then 0 else b1n (f v)+bef f r u
theorem Yw (f:As->Bool) (v:As) (X:List As):cnt f (v::X)=b1n (f v)+cnt f X:=by
 unfold cnt b1n;rw [yX];cases f v <;> simp <;> lia
theorem Tl {f:As->Bool}:∀ {O:List As} {u:As},u∈O->(O.map sgn).Nodup->∃ X Y,O=X++u::Y/\bef f O u=cnt f X
 | v::r,u,h,nd=>by
   rw [xJ,zO] at nd; unfold bef;by_cases c:sgn v=sgn u
   . rw [if_pos c]
     have:v=u:=by
       rcases xD.mp h with e | h
       . exact e.symm
       . exact absurd (zA (f:=sgn) h) (by rw [<- c]; exact nd.1)
     exact ⟨[],r,by rw [this]; rfl,rfl⟩
   . rw [if_neg c]
     have hu:u∈r:=by
       rcases xD.mp h with e | h
       . exact absurd (by rw [e]) c
       . exact h
     obtain ⟨X,Y,e1,e2⟩:=Tl hu nd.2; exact ⟨v::X,Y,by rw [e1]; rfl,by rw [e2,Yw]⟩
theorem Zg {f:As->Bool} {O:List As} (nd:(O.map sgn).Nodup) {d:wY} (h:Rm O d):∃ n:Nat,K0 [fN (plN f O),.sh d]=.ok (.int (n:Int))/\n<=cnt f O:=by
 obtain ⟨s,x,rfl,hx,hs⟩:=h;rcases hs with rfl | ⟨u,hu,rfl⟩
 . rcases hx with rfl | rfl
   . exact ⟨0,Mu rfl (Xb f O) sH (V2 _ _),c7 _⟩
   . exact ⟨cnt f O,Mu rfl (Xb f O) sG (Et _ _ _),xL _⟩
 . obtain ⟨X,Y,e1,_⟩:=Tl (f:=f) hu nd
   have hc:cnt f O=cnt f X+(b1n (f u)+cnt f Y):=by
     rw [e1,<- Yw]; unfold cnt; rw [AZ,xN]
   rcases hx with rfl | rfl
   . exact ⟨cnt f X+b1n (f u),Mu (Ef (some (sgn u))) (Xa nd e1) sH (V2 _ _),by lia⟩
   . exact ⟨cnt f X,Mu (Ef (some (sgn u))) (Xa nd e1) sG (Et _ _ _),by lia⟩
noncomputable def sel (kvs:Kvs) (n:Str):wY:=(F9 kvs (.str n)).getD .none
noncomputable def isM (kvs:Kvs) (n:Str):Bool:=match sel kvs n with
 | .tuple (.str k::_)=>k == "mark"
 | _=>false
abbrev Q2 (t:Str×Nat×Nat):wY:=.tuple [.str t.1,.int (t.2.1:Int),.int (t.2.2:Int)]
inductive Rows (kvs:Kvs) (O:List As) (f:As->Bool):List Str->List (Str×Nat×Nat)->Prop where
 | nil:Rows kvs O f [] []
 | mark {n:Str} {i a1 a2:wY} {b c:Nat} {ns:List Str} {rs:List (Str×Nat×Nat)}:F9 kvs (.str n)=some (.tuple [.str "mark",i,.str n,a1,a2])->K0 [fN (plN f O),.sh a1]=.ok (.int (b:Int))->K0 [fN (plN f O),.sh a2]=.ok (.int (c:Int))->b<=cnt f O->c<=cnt f O->Rows kvs O f ns rs->Rows kvs O f (n::ns) ((n,b,if b < c then c else b)::rs)
 | skip {n:Str} {i:wY} {ns:List Str} {rs:List (Str×Nat×Nat)}:F9 kvs (.str n)=some (.tuple [.str "unmark",i,.str n])->Rows kvs O f ns rs->Rows kvs O f (n::ns) rs
theorem cD {kvs:Kvs} {N:Str->Prop} {O:List As} {f:As->Bool} (nd:(O.map sgn).Nodup) (h:LastOk N O kvs):∀ ns:List Str,(∀ x∈ns,∃ d,F9 kvs (.str x)=some d)->∃ rs,Rows kvs O f ns rs
 | [],_=>⟨[],.nil⟩
 | n::ns,hn=>by
   obtain ⟨rs,hr⟩:=cD (f:=f) nd h ns fun x hx=>hn x (.tail _ hx);obtain ⟨d,hd⟩:=hn n (.head _); rcases h.get hd with ⟨i,a1,a2,rfl,h1,h2⟩ | ⟨i,rfl⟩
   . obtain ⟨b,b1,b2⟩:=Zg (f:=f) nd h1
     obtain ⟨c,c1,c2⟩:=Zg (f:=f) nd h2; exact ⟨_,.mark hd b1 c1 b2 c2 hr⟩
   . exact ⟨rs,.skip hd hr⟩
theorem Rows.ok {kvs:Kvs} {O:List As} {f:As->Bool} {ns:List Str} {rs:List (Str×Nat×Nat)} (h:Rows kvs O f ns rs):rs.length<=ns.length/\(∀ t∈rs,t.1∈ns/\t.2.1<=t.2.2/\t.2.2<=cnt f O)/\(ns.Nodup->(rs.map (·.1)).Nodup):=by
 induction h with
 | nil=>exact ⟨xL _,(fun _ h=>nomatch h),fun _=>.nil⟩
 | @mark n i a1 a2 b c ns rs _ _ _ hb hc _ ih =>
   refine ⟨IQ ih.1,fun t ht=>?_,fun nd=>?_⟩
   . rcases xD.mp ht with rfl | ht
     . refine ⟨.head _,?_,?_⟩
       . show b<=(if b < c then c else b)
         split <;> lia
       . show (if b < c then c else b)<=_
         split <;> lia
     . obtain ⟨k1,k2⟩:=ih.2.1 t ht
       exact ⟨.tail _ k1,k2⟩
   . rw [zO] at nd
     rw [xJ,zO]; refine ⟨fun z=>?_,ih.2.2 nd.2⟩;obtain ⟨t,ht,e⟩:=yK.mp z; have:=(ih.2.1 t ht).1; rw [e] at this; exact nd.1 this
 | skip _ _ ih =>
   refine ⟨o8 ih.1,fun t ht=>?_,fun nd=>?_⟩
   . obtain ⟨k1,k2⟩:=ih.2.1 t ht
     exact ⟨.tail _ k1,k2⟩
   . exact ih.2.2 (zO.mp nd).2
theorem Yb {kvs:Kvs} {n:Str} {xs:List wY} (h:F9 kvs (.str n)=some (.tuple (.str "mark" :: xs))):isM kvs n=true:=by
 unfold isM sel; rw [h]; exact beq_self_eq_true _
theorem lH {kvs:Kvs} {n:Str} {xs:List wY} (h:F9 kvs (.str n)=some (.tuple (.str "unmark" :: xs))):isM kvs n=false:=by
 unfold isM sel; rw [h]; exact Wb (by decide)
theorem pO {kvs:Kvs} {O:List As} {f:As->Bool} {ns:List Str} {rs:List (Str×Nat×Nat)} (h:Rows kvs O f ns rs):D7 E3 [oN kvs] (C4 (b2 (b2 (Qb 1 (A0 0)) (vC (.int 0)) dIx) (vC (.str "mark")) dEq)) (Qb 1 (A0 0)) (ns.map .str)=.ok ((ns.filter (isM kvs)).map (sel kvs)):=by
 have get:∀ {n:Str} {d:wY},F9 kvs (.str n)=some d->(Qb 1 (A0 0)) ([.sh (.str n)]++[oN kvs])=.ok d:=fun {n d} e=>by
   show Res.bind (Res.ok (zU n)) (fun kd'=>if nkD kd'=true then ofO (F9 kvs kd') else Res.no)=_;rw [C6,if_pos (show nkD (.str n)=true from rfl),e]; rfl
 induction h with
 | nil=>rfl
 | @mark n i a1 a2 b c ns rs hg _ _ _ _ _ ih =>
   rw [yX,Yb hg,if_pos rfl,xJ,xJ,show sel kvs n=.tuple [.str "mark",i,.str n,a1,a2] by unfold sel; rw [hg]; rfl];exact wJ (C3 (B6 (x:=.str "mark") (y:=.str "mark") (B6 (get hg) rfl (V2 _ _)) rfl (by rw [Gg,bR]))) (get hg) ih
 | @skip n i ns rs hg _ ih =>
   rw [yX,lH hg,if_neg (by decide),xJ]; exact wK (C3 (B6 (x:=.str "unmark") (y:=.str "mark") (B6 (get hg) rfl (V2 _ _)) rfl (by rw [Gg,Wb (by decide)]))) ih
noncomputable def mL:Dn->Out:=(B9 (D4 4 (Bq 1 (b2 (A0 3) (vC (.int 3)) dIx) K0)) (Y0 2 (F3 (A3 (b2 (A0 3) (vC (.int 2)) dIx) (A3 (A0 4) (A3 (vFn (A3 (A0 4) (A3 (Bq 1 (b2 (A0 3) (vC (.int 4)) dIx) K0) A8)) gK) A8))))))
theorem tix4 (x y z u v:wY) (xs:List wY):dIx (.tuple (x::y::z::u::v::xs)) (.int 4)=some v:=O5 (xs:=x::y::z::u::v::xs) (j:=4) (by simp)
theorem Td {i:Nat} {f:Dn->Res wY} {m:List Sl->Res wY} {δ:Dn} {kvs:Kvs} {d v:wY} (h1:δ[i]? = some (.fd kvs)) (h2:f δ=.ok d) (h3:m [.fd kvs,.sh d]=.ok v):Bq i f m δ=.ok v:=by
 unfold Bq;rw [h1];show (f δ).bind _=_;rw [h2,C6,h3]
theorem mx (b c:Nat):gK [.int (b:Int),.int (c:Int)]=some (.int ((if b < c then c else b:Nat):Int)):=by
 show some (k8 (if (b:Int) < (c:Int) then (c:Int) else (b:Int)))=_;by_cases h:b < c
 . rw [if_pos h,if_pos (by lia)]
 . rw [if_neg h,if_neg (by lia)]
theorem pN {kvs:Kvs} {O:List As} {f:As->Bool} (b:wY) {ns:List Str} {rs:List (Str×Nat×Nat)} (h:Rows kvs O f ns rs):∀ (T:List wY) (s3 s4:Sl),T.length+ns.length<=800->∃ t3 t4,E8 (st1 3) mL ((ns.filter (isM kvs)).map (sel kvs)) [.sh b,fN (plN f O),.ow (.list T),s3,s4]=.nx [.sh b,fN (plN f O),.ow (.list (T++rs.map Q2)),t3,t4]:=by
 induction h with
 | nil=>intro T s3 s4 _; rw [zX,yL]; exact ⟨s3,s4,rfl⟩
 | @mark n i a1 a2 bb c ns rs hg p1 p2 _ _ _ ih =>
   intro T s3 s4 hl; rw [xP] at hl; rw [yX,Yb hg,if_pos rfl,xJ,show sel kvs n=.tuple [.str "mark",i,.str n,a1,a2] by unfold sel; rw [hg]; rfl];obtain ⟨t3,t4,e2⟩:=ih (T++[Q2 (n,bb,if bb < c then c else bb)]) (.sh (.tuple [.str "mark",i,.str n,a1,a2])) (.sh (.int (bb:Int))) (by simp; lia);rw [yI] at e2; refine ⟨t3,t4,(N3 rfl ?_).trans e2⟩; unfold mL; rw [B5 (D3 (d:=.int (bb:Int)) (Td rfl (B6 (x:=.tuple [.str "mark",i,.str n,a1,a2]) (y:=.int 3) rfl rfl (iF _ _ _ _ _)) p1))];simp only [yF,yG]; exact Bs rfl (O0 (A7 (B6 (x:=.tuple [.str "mark",i,.str n,a1,a2]) (y:=.int 2) rfl rfl (Vu _ _ _ _)) (A7 (d:=.int (bb:Int)) rfl (A7 (W2 (A7 (d:=.int (bb:Int)) rfl (A7 (Td rfl (B6 (x:=.tuple [.str "mark",i,.str n,a1,a2]) (y:=.int 4) rfl rfl (tix4 _ _ _ _ _ _)) p2) rfl)) (mx bb c)) rfl)))) (by lia)
 | @skip n i ns rs hg _ ih =>
   intro T s3 s4 hl; rw [xP] at hl; rw [yX,lH hg,if_neg (by decide)]; exact ih T s3 s4 (by lia)
theorem aL {x:Str} (h:Af x):(yP x&&decide (x.length<=1000))=true:=by
 obtain ⟨_,h2,h3⟩:=h;rw [yE];refine ⟨?_,decide_eq_true (by lia)⟩;unfold yP;have:∀ c∈x.cps.toList,97<=c/\c<=122:=h3;first
   | (rw [j9]; intro c hc; have:=this c hc; simp; lia)
   | (rw [HK]; intro c hc; have:=this c (by simpa using hc); simp; lia)
   | (simp; intro c hc; have:=this c (by simpa using hc); lia)
theorem Rz {k v:wY}:∀ {kvs:Kvs} {q:wY×wY},q∈N7 kvs k v->q.1=k\/∃ q'∈kvs,q.1=q'.1
 | [],q,h=>by rw [xM.mp h]; exact .inl rfl
 | p::r,q,h=>by
   unfold N7 at h;split at h
   . rcases xD.mp h with rfl | h
     . exact .inr ⟨p,.head _,rfl⟩
     . exact .inr ⟨q,.tail _ h,rfl⟩
   . rcases xD.mp h with rfl | h
     . exact .inr ⟨_,.head _,rfl⟩
     . rcases Rz h with z | ⟨q',h',z⟩
       . exact .inl z
       . exact .inr ⟨q',.tail _ h',z⟩
abbrev Kpw (kvs:Kvs):Prop:=kvs.Pairwise fun p q=>xT p.1 q.1=false
theorem cH {k v:wY}:∀ {kvs:Kvs},Kpw kvs->Kpw (N7 kvs k v)
 | [],_=>AM _ _
 | p::r,h=>by
   rw [Kpw,yQ] at h; unfold N7;split
   . exact yQ.mpr ⟨h.1,h.2⟩
   . rename_i c
     refine yQ.mpr ⟨fun q hq=>?_,cH h.2⟩;rcases Rz hq with z | ⟨q',h',z⟩
     . rw [z]; simpa using c
     . rw [z]; exact h.1 q' h'
theorem Xw (o:List IdP):∀ (M:List Dp) (kvs:Kvs),Kpw kvs->Kpw (Pf o M kvs)
 | [],_,h=>h
 | e::M,kvs,h=>by
   refine Xw o M _ ?_; unfold Dd;split
   . split
     . exact h
     . exact cH h
   . exact h
theorem Vv:∀ {kvs:Kvs} {ss:List Str},F4 (kvs.map (·.1))=some ss->Kpw kvs->ss.Nodup
 | [],ss,e,_=>by cases e; exact .nil
 | p::r,ss,e,h=>by
   rw [Kpw,yQ] at h; have e':=Dq e;cases ss with
   | nil=>cases e'
   | cons x ss =>
     rw [xJ,xJ] at e';injection e' with e1 e2
     have e1:p.1=.str x:=e1; refine zO.mpr ⟨fun z=>?_,Vv (kvs:=r) ?_ h.2⟩
     . have:zU x∈r.map (·.1):=by rw [e2]; exact zA z
       obtain ⟨q,hq,eq⟩:=yK.mp this; have hh:=h.1 q hq; rw [e1,show q.1=_ from eq] at hh; exact absurd (show (x==x)=false from hh) (by rw [beq_self_eq_true]; decide)
     . have : ∀ (l : List Str), F4 (l.map zU) = some l := fun l => by
         induction l with
         | nil=>rfl
         | cons y l ih=>show (F4 (l.map zU)).map (y::·)=_; rw [ih]; rfl
       rw [e2]; exact this ss
abbrev Row:=Str×Nat×Nat
def ltW (a b:Row):Prop:=leX a.1 b.1/\a.1≠b.1
theorem Rows.sub {kvs:Kvs} {O:List As} {f:As->Bool} {ns:List Str} {rs:List Row} (h:Rows kvs O f ns rs):(rs.map (·.1)).Sublist ns:=by
 induction h with
 | nil=>exact .slnil
 | mark _ _ _ _ _ _ ih=>exact ih.cons_cons _
 | skip _ _ ih=>exact ih.cons _
theorem kX {L:List Dp} {B:List Ad} {ku kd:Kvs} (A:BkA L B) (W:BkW L) {x y z:Str} (hNm:∀ e∈L,Le x y z e.1) (hl:L.length<=9) (P:Pq L ku kd):∃ ts:List Row,I9 [bkD L]=.ok (.list (ts.map Q2))/\ts.Pairwise ltW/\ts.length<=9/\∀ t∈ts,t.2.1<=t.2.2/\t.2.2<=((ord B).filter (F1 ku kd)).length/\nm3 x y z t.1:=by
 have kdL:∀ e∈L,Kd e:=fun e he=>(W.1 e he).kd;have mdL:∀ e∈L,Md (nm3 x y z) (ord B) e:=fun e he=>(W.1 e he).md A (hNm e he);have hol:=X2 A;have nd:=Am A.bk;obtain ⟨t3,g1,g2⟩:=Sf (N:=nm3 x y z) (O:=ord B) (off L) (C4 (V8 true 1 (b2 (A0 3) (vC (.int 1)) dIx))) (.sh (bkD L)) (oN ku) L mdL (fun e he kvs=>by
   refine C3 ?_; rw [Fu (kvs:=ku) (kd:=idP e.2) rfl (B6 (x:=e.1) (y:=.int 1) rfl rfl (kdL e he).tid) (Pi _),bne_true]; exact congrArg (fun z=>Res.ok (CG (!z))) (P.o e.2)) [] .un (by simp; lia)
 have hlast:=Xx (N:=nm3 x y z) (O:=ord B) (off L) L mdL [] (fun _ h=>nomatch h);have hpw:=Xw (off L) L [] .nil;generalize hkv:Pf (off L) L []=kvs at *;have hkl:kvs.length<=9:=by simp at g2; lia
 obtain ⟨ss,s1,s2,s3,s4⟩:=hlast.texts;have hsort:∀ (δ:Dn) (i:Nat),kvN δ i=some kvs->My i δ=.ok (.list ((L6 ss).map .str)):=fun δ i h=>by
   unfold My; rw [h]; show (match F4 (kvs.map (·.1)) with | some ss=>_ | none=>_)=_;rw [s1]; show (if _ then _ else _)=_;rw [if_pos ⟨by lia,j9.mpr fun x hx=>aL (s3 x hx).1⟩]
 have hnl:(L6 ss).length<=9:=by rw [(E7 ss).length_eq]; lia
 obtain ⟨rs,R⟩:=cD (f:=F1 ku kd) nd hlast (L6 ss) fun x hx=>s4 x ((E7 ss).mem_iff.mp hx);have hmd:Q3 [bkD L]=.ok (.list (((L6 ss).filter (isM kvs)).map (sel kvs))):=by
   unfold Q3 Bf M4; refine Y5 ?_; show B9 _ _ [.sh (bkD L),.un,.un,.un]=_;rw [B5 (δ':=[.sh (bkD L),oN ku,.un,.un]) (by unfold Z4 W0 Cq; simp_arith [P.P.u])];rw [B5 (δ':=[.sh (bkD L),oN ku,oN [],.un]) (by rfl)];rw [B5 (δ':=[.sh (bkD L),oN ku,oN kvs,t3]) (by
     unfold Z0 K9; rw [E6 (d:=bkD L) (ds:=L.map (·.1)) rfl rfl,D2]; exact g1)]
   unfold Y9; exact N1 (P9 (I8 (E6 (d:=.list ((L6 ss).map .str)) (hsort _ _ rfl) rfl) (by rw [xG]; lia) rfl (pO R)))
 obtain ⟨v3,v4,q1⟩:=pN (bkD L) R [] .un .un (by simp; lia);obtain ⟨r1,r2,_⟩:=R.ok;have hnd:(L6 ss).Nodup:=(E7 ss).nodup_iff.mpr (Vv s1 hpw);refine ⟨rs,?_,?_,by lia,fun t ht=>⟨(r2 t ht).2.1,(r2 t ht).2.2,s3 _ ((E7 ss).mem_iff.mp (r2 t ht).1)⟩⟩
 . unfold I9
   refine Y5 ?_; show B9 _ _ [.sh (bkD L),.un,.un,.un,.un]=_;rw [B5 (δ':=[.sh (bkD L),oN (plN (F1 ku kd) (ord B)),.un,.un,.un]) (by unfold Cf W0 Cq; simp_arith [fA A hl P.P])];rw [B5 (δ':=[.sh (bkD L),oN (plN (F1 ku kd) (ord B)),.ow (.list []),.un,.un]) (by rfl)];rw [B5 (δ':=[.sh (bkD L),fN (plN (F1 ku kd) (ord B)),.ow (.list ([]++rs.map Q2)),v3,v4]) (by
     unfold Ce jE; show K9 _ _ _ [.sh (bkD L),fN (plN (F1 ku kd) (ord B)),.ow (.list []),.un,.un]=_;unfold K9; rw [E6 (d:=.list (((L6 ss).filter (isM kvs)).map (sel kvs))) (ds:=((L6 ss).filter (isM kvs)).map (sel kvs)) (C7 (A7 (d:=bkD L) rfl rfl) hmd) rfl,D2]; exact q1)]
   rfl
 . have h1:=(((Fb ss).and hnd).sublist R.sub)
   rw [l0] at h1; exact h1
noncomputable def mk (l:List Nat):Str:=⟨l.toArray⟩
noncomputable def cp (u:As):Nat:=u.1.w.cps.toList.getD u.2 0
def Ok (l:List Nat):Prop:=∀ c∈l,32<=c/\c<=126
theorem kU (a b:List Nat):mk a++mk b=mk (a++b):=by
 show (⟨a.toArray++b.toArray⟩:Str)=⟨(a++b).toArray⟩;simp
theorem Fj (l:List Nat):(mk l).length=l.length:=by rw [Tv]; rfl
theorem rZ {l:List Nat} (h:Ok l):chOk 32 126 (mk l):=fun c hc=>h c hc
theorem vK {a b:List Nat} (h:mk a=mk b):a=b:=by
 have:=congrArg (fun x:Str=>x.cps.toList) h;exact this
theorem cZ (us:List As):z9 "" (us.map ltr)=mk (us.map cp):=by
 have one:∀ (x:Str) (r:List Str),z9 "" (x::r)=x++z9 "" r:=fun x r=>by
   cases r with
   | nil =>
     show x=x++(⟨#[]⟩:Str);show x=(⟨x.cps ++ #[]⟩:Str);cases x; simp
   | cons y r =>
     show x++("" : Str)++z9 "" (y::r)=_;have:x++("" : Str)=x:=by
       show (⟨x.cps ++ #[]⟩:Str)=x;cases x; simp
     rw [this]
 induction us with
 | nil=>rfl
 | cons u us ih =>
   rw [xJ,one,ih,xJ]; exact kU [cp u] _
theorem rX {α:Type} (l:List α):∀ (n a:Nat),a+n<=l.length->((zF n).map fun k=>a+k).filterMap (l[·]?)=(l.drop a).take n
 | 0,a,_=>by simp
 | n+1,a,h=>by
   have hlt:a+n < l.length:=by lia
   rw [IS,yA,List.filterMap_append,rX l n a (by lia),List.take_add_one,List.getElem?_drop]; simp [hlt]
theorem Ve {l:List Nat} {lo hi:Option Int} {a b:Nat} (e:zJ lo hi 1 l.length=zJ (some (a:Int)) (some (b:Int)) 1 l.length) (hab:a<=b) (hb:b<=l.length):Ku (mk l) lo hi=mk ((l.drop a).take (b - a)):=by
 unfold Ku;rw [Fj,e,PySem.StrLaws.strSliceIndices_plain hab hb];have p:=rX l (b - a) a (by lia);have p':((zF (b - a)).map fun k=>a+k).filterMap ((mk l).cps[·]?)=(l.drop a).take (b - a):=by
   rw [<- p,show (fun k=>(mk l).cps[k]?)=(fun k=>l[k]?) from funext fun k=>by show l.toArray[k]? = l[k]?; simp]
 split
 . rename_i h
   simp only [xG,List.length_range,beq_iff_eq] at h; have ha:a=0:=by lia
   have hb:b=l.length:=by lia
   subst ha hb; simp
 . rw [p']; rfl
theorem Yr (l:List Nat) (k:Nat) (h:k<=l.length):Ku (mk l) none (some (k:Int))=mk (l.take k):=by
 rw [Ve (a:=0) (b:=k) (by unfold zJ; simp; rw [show max (0:Int) (min 0 (l.length:Int))=0 from by lia]) (c7 _) h]; simp
theorem Ys (l:List Nat) (k:Nat) (h:k<=l.length):Ku (mk l) (some (k:Int)) none=mk (l.drop k):=by
 rw [Ve (a:=k) (b:=l.length) (by unfold zJ; simp; rw [if_neg (show ¬ ((l.length:Int) < 0) by lia),show max (0:Int) (min (l.length:Int) (l.length:Int))=l.length from by lia]) h (xL _),KW (by simp)]
abbrev Chg:=Nat×List Nat×List Nat
noncomputable def chD (c:Chg):wY:=.tuple [.int (c.1:Int),.str (mk c.2.1),.str (mk c.2.2)]
noncomputable def Lb (x:List Nat) (c:Chg):List Nat:=x.take c.1++(c.2.2++x.drop (c.1+c.2.1.length))
noncomputable def app (x:List Nat) (cs:List Chg):List Nat:=cs.foldl Lb x
abbrev CS:=List Chg×Option Chg×Nat
noncomputable def T5 (w t:Bool) (c:Nat) (s:CS):CS:=match w,t with
 | true,true=>(s.1++s.2.1.toList,none,s.2.2+1)
 | true,false=>let q:=s.2.1.getD (s.2.2,[],[]); (s.1,some (q.1,q.2.1++[c],q.2.2),s.2.2)
 | false,true=>let q:=s.2.1.getD (s.2.2,[],[]); (s.1,some (q.1,q.2.1,q.2.2++[c]),s.2.2+1)
 | false,false=>s
abbrev told (s:CS):List Chg:=s.1++s.2.1.toList
noncomputable def Ja (w t:As->Bool) (s:CS) (us:List As):CS:=us.foldl (fun s u=>T5 (w u) (t u) (cp u) s) s
structure CI (s:CS) (W T:List Nat) (n:Nat):Prop where
 p:s.2.2=T.length
 a:match s.2.1 with
   | none=>∀ R,app (W++R) s.1=T++R
   | some q=>∃ A,T=A++q.2.2/\A.length=q.1/\∀ R,app (W++R) s.1=A++(q.2.1++R)
 ok:∀ c∈told s,Ok c.2.1/\Ok c.2.2
 ns:((told s).map fun c=>c.2.2.length).sum<=n
 ln:(told s).length<=n
theorem Py (x:List Nat) (cs:List Chg) (c:Chg):app x (cs++[c])=Lb (app x cs) c:=by unfold app; rw [FD]; rfl
theorem rH (A o n R:List Nat):Lb (A++(o++R)) (A.length,o,n)=A++(n++R):=by
 unfold Lb;rw [List.take_left,show A.length+o.length=(A++o).length from by simp,<- yI A o R,JM]
theorem CI.app {s:CS} {W T:List Nat} {n:Nat} (h:CI s W T n) (R:List Nat):Sm.app (W++R) (told s)=T++R:=by
 obtain ⟨T0,op,p⟩:=s;have:=h.a;cases op with
 | none=>simp only [told,y9,yL]; exact this R
 | some q =>
   obtain ⟨A,e1,e2,e3⟩:=this; obtain ⟨q1,o,m⟩:=q; simp only [told,g9]; rw [Py,e3 R]; simp only at e1 e2; rw [<- e2,rH,e1,yI]
theorem CI.nil:CI ([],none,0) [] [] 0:=⟨rfl,fun R=>rfl,(fun c h=>nomatch h),xL _,xL _⟩
theorem CI.open {T0:List Chg} {op:Option Chg} {p:Nat} {W T:List Nat} {n:Nat} (h:CI (T0,op,p) W T n):∃ A q,op.getD (p,[],[])=q/\T=A++q.2.2/\A.length=q.1/\(∀ R,Sm.app (W++R) T0=A++(q.2.1++R))/\Ok q.2.1/\Ok q.2.2 /\
   ((T0++[q]).map fun c=>c.2.2.length).sum<=n/\T0.length+1<=n+1:=by
 have a:=h.a;have hp:=h.p;have hn:=h.ns;have hl:=h.ln;simp only [told] at hn hl a hp;cases op with
 | none =>
   simp only [y9,yL] at hn hl; refine ⟨T,(p,[],[]),rfl,(yL T).symm,hp.symm,fun R=>a R,(fun c hc=>nomatch hc),(fun c hc=>nomatch hc),?_,by lia⟩
   . rw [yA,CH]; simpa using hn
 | some q =>
   simp only [g9,xN,xP,zG] at hn hl; obtain ⟨A,e1,e2,e3⟩:=a; have hk:=h.ok q (by simp [told]);exact ⟨A,q,rfl,e1,e2,e3,hk.1,hk.2,hn,by lia⟩
theorem CI.step {s:CS} {W T:List Nat} {n:Nat} (h:CI s W T n) (w t:Bool) {c:Nat} (hc:32<=c/\c<=126):CI (T5 w t c s) (if w then W++[c] else W) (if t then T++[c] else T) (n+1):=by
 obtain ⟨T0,op,p⟩:=s;have hO:Ok [c]:=fun d hd=>by rw [xM.mp hd]; exact hc
 have okA:∀ {a b:List Nat},Ok a->Ok b->Ok (a++b):=fun ha hb d hd=>(xK.mp hd).elim (ha d) (hb d);have hp:=h.p;simp only at hp;cases w with
 | true =>
   cases t with
   | true =>
     refine ⟨by simp [T5,hp],fun R=>?_,?_,?_,?_⟩
     . have:=h.app ([c]++R)
       simp only [T5,if_true,told,yI] at this ⊢;exact this
     . have:=h.ok
       simpa only [T5,told,y9,yL] using this
     . have:=h.ns
       simp only [T5,told,y9,yL] at this ⊢;lia
     . have:=h.ln
       simp only [T5,told,y9,yL] at this ⊢;lia
   | false =>
     obtain ⟨A,q,e0,e1,e2,e3,o1,o2,n1,l1⟩:=h.open; simp only [T5,e0,if_true,xY,if_false]; refine ⟨hp,⟨A,e1,e2,fun R=>?_⟩,?_,?_,?_⟩
     . have:=e3 ([c]++R)
       simp only [yI] at this ⊢;exact this
     . intro d hd
       simp only [told,g9] at hd; rcases xK.mp hd with hd | hd
       . exact h.ok d (xK.mpr (.inl hd))
       . rw [xM.mp hd]; exact ⟨okA o1 hO,o2⟩
     . simp only [told,g9,yA,CH,xJ,zX,DY,FU] at n1 ⊢
       lia
     . simp only [told,g9,xN,xP,zG]; lia
 | false =>
   cases t with
   | true =>
     obtain ⟨A,q,e0,e1,e2,e3,o1,o2,n1,l1⟩:=h.open; simp only [T5,e0,if_true,xY,if_false]; refine ⟨by simp [hp],⟨A,by rw [e1,yI],e2,e3⟩,?_,?_,?_⟩
     . intro d hd
       simp only [told,g9] at hd; rcases xK.mp hd with hd | hd
       . exact h.ok d (xK.mpr (.inl hd))
       . rw [xM.mp hd]; exact ⟨o1,okA o2 hO⟩
     . simp only [told,g9,yA,CH,xJ,zX,DY,FU,xN,xP,zG] at n1 ⊢
       lia
     . simp only [told,g9,xN,xP,zG]; lia
   | false =>
     simp only [T5,xY,if_false]; exact ⟨h.p,h.a,h.ok,o8 h.ns,o8 h.ln⟩
theorem jF (w t:As->Bool):∀ (us:List As) {s:CS} {W T:List Nat} {n:Nat},(∀ u∈us,32<=cp u/\cp u<=126)->CI s W T n->CI (Ja w t s us) (W++(us.filter w).map cp) (T++(us.filter t).map cp) (n+us.length)
 | [],s,W,T,n,_,h=>by simpa [Ja] using h
 | u::us,s,W,T,n,hu,h=>by
   have:=jF w t us (fun v hv=>hu v (.tail _ hv)) (h.step (w u) (t u) (hu u (.head _)));have e1:(if w u then W++[cp u] else W)++(us.filter w).map cp=W++((u::us).filter w).map cp:=by
     cases c:w u <;> simp [c]
   have e2:(if t u then T++[cp u] else T)++(us.filter t).map cp=T++((u::us).filter t).map cp:=by
     cases c:t u <;> simp [c]
   rw [e1,e2,show n+1+us.length=n+(u::us).length from by simp; lia] at this;exact this
theorem Ot {w t:As->Bool}:∀ (us:List As) (p:Nat),(∀ u∈us,t u=w u)->told (Ja w t ([],none,p) us)=[]
 | [],_,_=>rfl
 | u::us,p,hu=>by
   have e:=hu u (.head _); show told (Ja w t (T5 (w u) (t u) (cp u) ([],none,p)) us)=[];cases ew:w u with
   | true=>rw [show t u=true from by rw [e,ew]]; exact Ot us _ fun v hv=>hu v (.tail _ hv)
   | false=>rw [show t u=false from by rw [e,ew]]; exact Ot us _ fun v hv=>hu v (.tail _ hv)
noncomputable def Yh (t:Bool) (c:Nat) (q:Chg):Chg:=if t then (q.1,q.2.1,q.2.2++[c]) else (q.1,q.2.1++[c],q.2.2)
theorem bJ {a b:List Nat} (h:a.length+b.length<=1000):C5 (.str (mk a)) (.str (mk b))=some (.str (mk (a++b))):=by
 rw [wT (by rw [Fj,Fj]; exact h),kU]
theorem lO (q:Chg) (u:As) (t:Bool) (h1:q.2.1.length<=500) (h2:q.2.2.length<=500):Bu [chD q,.str (ltr u),.bool t]=.ok (chD (Yh t (cp u) q)):=by
 obtain ⟨p,o,n⟩:=q;refine Y5 ?_;have hl:ltr u=mk [cp u]:=rfl;have i0:dIx (chD (p,o,n)) (.int 0)=some (.int (p:Int)):=V2 _ _;have i1:dIx (chD (p,o,n)) (.int 1)=some (.str (mk o)):=Et _ _ _;have i2:dIx (chD (p,o,n)) (.int 2)=some (.str (mk n)):=Vu _ _ _ _;show B9 _ _ [.sh (chD (p,o,n)),.sh (.str (ltr u)),.sh (.bool t)]=_;cases t with
 | true =>
   refine Iv ((W1 (C3 rfl)).trans (N1 (O0 (A7 (B6 rfl rfl i0) (A7 (B6 rfl rfl i1) (A7 (B6 (B6 rfl rfl i2) rfl ?_) rfl)))))); rw [hl]; exact bJ (by simp at h2 ⊢; lia)
 | false =>
   refine (B5 (δ':=[.sh (chD (p,o,n)),.sh (.str (ltr u)),.sh (.bool false)]) (Q7 (C3 rfl))).trans ?_; refine N1 (O0 (A7 (B6 rfl rfl i0) (A7 (B6 (B6 rfl rfl i1) rfl ?_) (A7 (B6 rfl rfl i2) rfl)))); rw [hl]; exact bJ (by simp at h1 ⊢; lia)
theorem Ya (n:Nat):ixN (n+1) (-1)=some n:=by
 unfold ixN;rw [if_neg (by lia),if_pos (by lia)];congr 1;lia
theorem Mr {W:List wY} {x:wY}:dIx (.list (W++[x])) (.int (-1))=some x:=by
 show atI (W++[x]) (-1)=_;unfold atI;rw [xN,show W.length+[x].length=W.length+1 from rfl,Ya];simp
noncomputable def uG:Dn->Out:=(Wq 3 (b1 (vC (.int 1)) Dh) (eH 3 (C1 (A3 (b2 (A0 3) (b1 (vC (.int 1)) Dh) dIx) (A3 (b2 (A0 7) (vC (.int 1)) dIx) (A3 (A0 8) A8))) Bu)))
noncomputable def sU:Dn->Out:=(B9 (sIf (Re (C4 (A0 4))) (Y0 3 (F3 (A3 (A0 5) (A3 (vC (.str "")) (A3 (vC (.str "")) A8))))) E5) (B9 (D4 4 (vC (.bool true))) uG))
noncomputable def mM:Dn->Out:=(B9 (D4 7 (b2 (A0 6) (vC (.int 0)) dIx)) (B9 (D4 8 (b2 (A0 6) (vC (.int 1)) dIx)) (B9 (D4 9 (V8 false 2 (b2 (A0 7) (vC (.int 0)) dIx))) (B9 (sIf (V9 (C4 (A0 9)) (C4 (A0 8))) (D4 4 (vC (.bool false))) (sIf (cOr (C4 (A0 9)) (C4 (A0 8))) sU E5)) (sIf (C4 (A0 8)) (D4 5 (b2 (A0 5) (vC (.int 1)) C5)) E5)))))
noncomputable section
variable (b1 b2:wY) (kt:Kvs)
abbrev dC (W:List wY) (tc:Bool) (p:Nat) (s6 s7 s8 s9:Sl):Dn:=[.sh b1,.sh b2,oN kt,.ow (.list W),.sh (.bool tc),.sh (.int (p:Int)),s6,s7,s8,s9]
theorem qC (q:Chg):lI (chD q)=true:=rfl
theorem jM (W:List wY) (q:Chg) (p:Nat) (u:As) (t w:Bool) (s6:Sl) (h1:q.2.1.length<=500) (h2:q.2.2.length<=500):uG (dC b1 b2 kt (W++[chD q]) true p s6 (.sh (tl u)) (.sh (.bool t)) (.sh (.bool w)))=.nx (dC b1 b2 kt (W++[chD (Yh t (cp u) q)]) true p s6 (.sh (tl u)) (.sh (.bool t)) (.sh (.bool w))):=by
 have e1:(eH 3 (C1 (A3 (Sm.b2 (A0 3) (Sm.b1 (vC (.int 1)) Dh) dIx) (A3 (Sm.b2 (A0 7) (vC (.int 1)) dIx) (A3 (A0 8) A8))) Bu)) (dC b1 b2 kt (W++[chD q]) true p s6 (.sh (tl u)) (.sh (.bool t)) (.sh (.bool w)))=.ok (chD (Yh t (cp u) q)):=by
   unfold eH; have:(C1 (A3 (Sm.b2 (A0 3) (Sm.b1 (vC (.int 1)) Dh) dIx) (A3 (Sm.b2 (A0 7) (vC (.int 1)) dIx) (A3 (A0 8) A8))) Bu) (fz 3 (dC b1 b2 kt (W++[chD q]) true p s6 (.sh (tl u)) (.sh (.bool t)) (.sh (.bool w))))=.ok (chD (Yh t (cp u) q)) :=
     C7 (A7 (B6 (x:=.list (W++[chD q])) (y:=.int (-1)) rfl rfl Mr) (A7 (B6 (x:=tl u) (y:=.int 1) rfl rfl (Et _ _ _)) (A7 rfl rfl))) (lO q u t h1 h2)
   rw [this,C6,if_pos (qC _)]
 unfold uG Wq;show M9 (_:Res wY) _=_;rw [e1,D2];show (match ixN (W++[chD q]).length (-1) with | some j=>_ | none=>_)=_;rw [xN,show W.length+[chD q].length=W.length+1 from rfl,Ya];show Out.nx (dC b1 b2 kt ((W++[chD q]).set W.length _) true p s6 (.sh (tl u)) (.sh (.bool t)) (.sh (.bool w)))=_;rw [List.set_append_right _ _ (xL _),Nat.sub_self]; rfl
theorem sT (T0:List Chg) (op:Option Chg) (p:Nat) (u:As) (t w:Bool) (s6:Sl) (hl:T0.length<=500) (h1:(op.getD (p,[],[])).2.1.length<=500) (h2:(op.getD (p,[],[])).2.2.length<=500) :
   sU (dC b1 b2 kt ((T0++op.toList).map chD) op.isSome p s6 (.sh (tl u)) (.sh (.bool t)) (.sh (.bool w)))=.nx (dC b1 b2 kt ((T0++[Yh t (cp u) (op.getD (p,[],[]))]).map chD) true p s6 (.sh (tl u)) (.sh (.bool t)) (.sh (.bool w))):=by
 unfold sU;cases op with
 | none =>
   have e1:(sIf (Re (C4 (A0 4))) (Y0 3 (F3 (A3 (A0 5) (A3 (vC (.str "")) (A3 (vC (.str "")) A8))))) E5) (dC b1 b2 kt ((T0++(none:Option Chg).toList).map chD) false p s6 (.sh (tl u)) (.sh (.bool t)) (.sh (.bool w)))=.nx (dC b1 b2 kt (T0.map chD++[chD (p,[],[])]) false p s6 (.sh (tl u)) (.sh (.bool t)) (.sh (.bool w))):=by
     refine (W1 (by unfold Re; rw [C3 (b:=false) rfl]; rfl)).trans ?_;refine Bs (W:=T0.map chD) (by simp) (d:=chD (p,[],[])) (O0 (A7 rfl (A7 rfl (A7 rfl rfl)))) (by simp; lia)
   refine (B5 e1).trans ((B5 (δ':=dC b1 b2 kt (T0.map chD++[chD (p,[],[])]) true p s6 (.sh (tl u)) (.sh (.bool t)) (.sh (.bool w))) rfl).trans ?_); rw [jM b1 b2 kt (T0.map chD) (p,[],[]) p u t w s6 h1 h2,yA]; rfl
 | some q =>
   refine (B5 (δ':=dC b1 b2 kt ((T0++(some q).toList).map chD) true p s6 (.sh (tl u)) (.sh (.bool t)) (.sh (.bool w))) ((Q7 (by unfold Re; rw [C3 (b:=true) rfl]; rfl)).trans rfl)).trans ((B5 (δ':=dC b1 b2 kt (T0.map chD++[chD q]) true p s6 (.sh (tl u)) (.sh (.bool t)) (.sh (.bool w))) ?_).trans ?_)
   . rw [yA]; rfl
   . rw [jM b1 b2 kt (T0.map chD) q p u t w s6 h1 h2,yA]; rfl
theorem iO {T0:List Chg} {op:Option Chg} {p:Nat} (u:As) (t w:Bool) (hw:(F9 kt (sgA u)).isSome=w) (hl:T0.length<=500) (h1:(op.getD (p,[],[])).2.1.length<=500) (h2:(op.getD (p,[],[])).2.2.length<=500) (s7 s8 s9:Sl) :
   mM (dC b1 b2 kt ((told (T0,op,p)).map chD) op.isSome p (.sh (.tuple [tl u,.bool t])) s7 s8 s9) =
     .nx (dC b1 b2 kt ((told (T5 w t (cp u) (T0,op,p))).map chD) (T5 w t (cp u) (T0,op,p)).2.1.isSome (T5 w t (cp u) (T0,op,p)).2.2 (.sh (.tuple [tl u,.bool t])) (.sh (tl u)) (.sh (.bool t)) (.sh (.bool w))):=by
 unfold mM;refine (B5 (D3 (B6 (x:=.tuple [tl u,.bool t]) (y:=.int 0) rfl rfl (V2 _ _)))).trans ?_;refine (B5 (D3 (B6 (x:=.tuple [tl u,.bool t]) (y:=.int 1) rfl rfl (Et _ _ _)))).trans ?_;have ew:V8 false 2 (Sm.b2 (A0 7) (vC (.int 0)) dIx) (dC b1 b2 kt ((told (T0,op,p)).map chD) op.isSome p (.sh (.tuple [tl u,.bool t])) (.sh (tl u)) (.sh (.bool t)) s9)=.ok (.bool w):=by
   refine (Fu (kvs:=kt) (kd:=sgA u) rfl (B6 (x:=tl u) (y:=.int 0) rfl rfl (V2 _ _)) (Ef (some (sgn u)))).trans ?_; rw [hw]; cases w <;> rfl
 refine (B5 (D3 ew)).trans ?_;show B9 _ _ (dC b1 b2 kt ((told (T0,op,p)).map chD) op.isSome p (.sh (.tuple [tl u,.bool t])) (.sh (tl u)) (.sh (.bool t)) (.sh (.bool w)))=_;have plus:∀ (W:List wY) (tc:Bool),(sIf (C4 (A0 8)) (D4 5 (Sm.b2 (A0 5) (vC (.int 1)) C5)) E5) (dC b1 b2 kt W tc p (.sh (.tuple [tl u,.bool t])) (.sh (tl u)) (.sh (.bool t)) (.sh (.bool w)))=.nx (dC b1 b2 kt W tc (if t then p+1 else p) (.sh (.tuple [tl u,.bool t])) (.sh (tl u)) (.sh (.bool t)) (.sh (.bool w))):=fun W tc=>by
   cases t with
   | true=>exact (W1 (C3 rfl)).trans (D3 (d:=.int ((p+1:Nat):Int)) (B6 (x:=.int (p:Int)) (y:=.int 1) rfl rfl rfl))
   | false=>exact (Q7 (C3 rfl)).trans rfl
 have cA:(V9 (C4 (A0 9)) (C4 (A0 8))) (dC b1 b2 kt ((told (T0,op,p)).map chD) op.isSome p (.sh (.tuple [tl u,.bool t])) (.sh (tl u)) (.sh (.bool t)) (.sh (.bool w)))=.ok (w&&t):=by
   unfold V9; rw [C3 (b:=w) rfl,C6];cases w with
   | false=>rfl
   | true=>rw [if_pos rfl,C3 (b:=t) rfl]; rfl
 have cO:(cOr (C4 (A0 9)) (C4 (A0 8))) (dC b1 b2 kt ((told (T0,op,p)).map chD) op.isSome p (.sh (.tuple [tl u,.bool t])) (.sh (tl u)) (.sh (.bool t)) (.sh (.bool w)))=.ok (w||t):=by
   unfold cOr; rw [C3 (b:=w) rfl,C6];cases w with
   | false=>rw [if_neg (by decide),C3 (b:=t) rfl]; rfl
   | true=>rfl
 have tch:=sT b1 b2 kt T0 op p u t w (.sh (.tuple [tl u,.bool t])) hl h1 h2;cases w with
 | true =>
   cases t with
   | true =>
     refine (B5 ((W1 cA).trans (D3 (d:=.bool false) rfl))).trans ?_; refine (plus _ false).trans ?_; simp only [T5,told,y9,yL]; rfl
   | false =>
     refine (B5 ((Q7 cA).trans ((W1 cO).trans tch))).trans ?_; exact plus _ true
 | false =>
   cases t with
   | true =>
     refine (B5 ((Q7 cA).trans ((W1 cO).trans tch))).trans ?_; exact plus _ true
   | false =>
     refine (B5 ((Q7 cA).trans ((Q7 cO).trans rfl))).trans ?_; exact plus _ _
theorem sB (w t:As->Bool):∀ (us:List As) (s:CS) {W T:List Nat} {n:Nat},CI s W T n->n+us.length<=400->(∀ u∈us,(F9 kt (sgA u)).isSome=w u/\32<=cp u/\cp u<=126)->(∀ c∈told s,c.2.1.length<=n)->∀ s6 s7 s8 s9:Sl,∃ t6 t7 t8 t9,
   E8 (st1 6) mM (us.map fun u=>.tuple [tl u,.bool (t u)]) (dC b1 b2 kt ((told s).map chD) s.2.1.isSome s.2.2 s6 s7 s8 s9)=.nx (dC b1 b2 kt ((told (Ja w t s us)).map chD) (Ja w t s us).2.1.isSome (Ja w t s us).2.2 t6 t7 t8 t9)
 | [],s,W,T,n,h,hn,hu,ho,s6,s7,s8,s9=>⟨s6,s7,s8,s9,rfl⟩
 | u::us,s,W,T,n,h,hn,hu,ho,s6,s7,s8,s9=>by
   obtain ⟨T0,op,p⟩:=s; obtain ⟨hw,hc⟩:=hu u (.head _); simp only [xP] at hn; have hln:=h.ln; have hns:=h.ns; simp only [told,xN] at hln; have b1':(op.getD (p,[],[])).2.1.length<=500/\(op.getD (p,[],[])).2.2.length<=500:=by
     cases op with
     | none=>exact ⟨c7 _,c7 _⟩
     | some q =>
       refine ⟨by have:=ho q (by simp [told]); simp only [HV]; lia,?_⟩;simp only [told,g9,yA,CH,xJ,zX,DY,FU] at hns; simp only [HV]; lia
   have st:=iO b1 b2 kt (T0:=T0) (op:=op) (p:=p) u (t u) (w u) hw (by lia) b1'.1 b1'.2 s7 s8 s9;have ho':∀ c∈told (T5 (w u) (t u) (cp u) (T0,op,p)),c.2.1.length<=n+1:=fun c hc'=>by
     have old:∀ c∈T0++op.toList,c.2.1.length<=n+1:=fun c hc=>o8 (ho c hc);cases ew:w u with
     | true =>
       cases et:t u with
       | true=>rw [ew,et] at hc'; exact old c (by simpa [T5,told] using hc')
       | false =>
         rw [ew,et] at hc'; simp only [T5,told,g9] at hc'; rcases xK.mp hc' with z | z
         . exact old c (xK.mpr (.inl z))
         . rw [xM.mp z]
           cases op with
           | none=>simp
           | some q=>have:=ho q (by simp [told]); simp; lia
     | false =>
       cases et:t u with
       | true =>
         rw [ew,et] at hc'; simp only [T5,told,g9] at hc'; rcases xK.mp hc' with z | z
         . exact old c (xK.mpr (.inl z))
         . rw [xM.mp z]
           cases op with
           | none=>simp
           | some q=>have:=ho q (by simp [told]); simp; lia
       | false=>rw [ew,et] at hc'; exact old c hc'
   obtain ⟨t6,t7,t8,t9,e⟩:=sB w t us (T5 (w u) (t u) (cp u) (T0,op,p)) (h.step (w u) (t u) hc) (by lia) (fun v hv=>hu v (.tail _ hv)) ho' (.sh (.tuple [tl u,.bool (t u)])) (.sh (tl u)) (.sh (.bool (t u))) (.sh (.bool (w u)));exact ⟨t6,t7,t8,t9,(N3 rfl st).trans e⟩
end
theorem Kj {α:Type} (f:α->wY×wY) (hk:∀ a,nkD (f a).1=true):∀ (us vs:List α),(vs++us).Pairwise (fun a b=>xT (f a).1 (f b).1=false)->Hk (us.map fun a=>.tuple [(f a).1,(f a).2]) (vs.map f)=some ((vs++us).map f)
 | [],vs,_=>by rw [yL]; rfl
 | u::us,vs,pw=>by
   rw [xJ]; unfold Hk; rw [if_pos (hk u),Dy (fun p hp=>by
     obtain ⟨a,ha,rfl⟩:=yK.mp hp; exact (n4.mp pw).2.2 a ha u (.head _))]
   have:=Kj f hk us (vs++[u]) (by rw [yI]; exact pw);rw [yA,yI] at this; exact this
abbrev thE (v:As):wY×wY:=(sgA v,.bool true)
theorem iI (us:List As) (u:As):(F9 (us.map thE) (sgA u)).isSome=inO us u:=by
 unfold F9 inO;rw [Option.isSome_map,m7,List.find?_isSome,j8];constructor
 . rintro ⟨x,hx,e⟩
   obtain ⟨v,hv,rfl⟩:=yK.mp hx; rw [Fw] at e; exact ⟨v,hv,e⟩
 . rintro ⟨v,hv,e⟩
   exact ⟨thE v,zA hv,by rw [Fw]; exact e⟩
structure Two (L1 L2:List Dp) (B1 B2:List Ad) (ku1 kd1 ku2 kd2:Kvs):Prop where
 A1:BkA L1 B1
 A2:BkA L2 B2
 P1:Pq L1 ku1 kd1
 P2:Pq L2 ku2 kd2
 S:Sub B2 B1
 l1:L1.length<=9
 l2:L2.length<=9
abbrev txL (B:List Ad) (ku kd:Kvs):List Nat:=((ord B).filter (F1 ku kd)).map cp
noncomputable section
variable {L1 L2:List Dp} {B1 B2:List Ad} {ku1 kd1 ku2 kd2:Kvs}
abbrev Jq (B1:List Ad) (ku1 kd1:Kvs):As->Bool:=inO ((ord B1).filter (F1 ku1 kd1))
theorem Two.was (D:Two L1 L2 B1 B2 ku1 kd1 ku2 kd2):(ord B2).filter (Jq B1 ku1 kd1)=(ord B1).filter (F1 ku1 kd1):=by
 have nd:=Am D.A1.bk;have e:(ord B2).filter (Jq B1 ku1 kd1)=((ord B2).filter (inO (ord B1))).filter (F1 ku1 kd1):=by
   rw [HM]; refine CP fun u hu=>?_;cases c:inO (ord B1) u with
   | true =>
     have:u∈ord B1:=by rw [<- D.S.f]; exact zT.mpr ⟨hu,c⟩
     rw [show Jq B1 ku1 kd1 u=F1 ku1 kd1 u from Ph nd _ this,Bool.and_true]
   | false =>
     rw [Bool.and_false];cases c':Jq B1 ku1 kd1 u with
     | false=>rfl
     | true =>
       obtain ⟨v,hv,q⟩:=j8.mp c'; have:inO (ord B1) u=true:=j8.mpr ⟨v,(zT.mp hv).1,q⟩; rw [this] at c; cases c
 rw [e,D.S.f]
theorem dU {L:List Dp} {B:List Ad} (A:BkA L B) {u:As} (hu:u∈ord B):32<=cp u/\cp u<=126:=by
 have h:=(Bt A.bk u).mp hu;have w:=A.wd _ h.1;have hl:u.2 < u.1.w.cps.toList.length:=by rw [<- Tv]; exact h.2
 unfold cp;rw [ER,yU hl];exact w.2.2 _ (AO hl)
noncomputable def Yy (B1 B2:List Ad) (ku1 kd1 ku2 kd2:Kvs):List Chg:=told (Ja (Jq B1 ku1 kd1) (F1 ku2 kd2) ([],none,0) (ord B2))
theorem Two.ci (D:Two L1 L2 B1 B2 ku1 kd1 ku2 kd2):CI (Ja (Jq B1 ku1 kd1) (F1 ku2 kd2) ([],none,0) (ord B2)) (txL B1 ku1 kd1) (txL B2 ku2 kd2) (ord B2).length:=by
 have:=jF (Jq B1 ku1 kd1) (F1 ku2 kd2) (ord B2) (fun u hu=>dU D.A2 hu) CI.nil;rw [D.was,yO,yO,LL] at this;exact this
theorem Two.ch (D:Two L1 L2 B1 B2 ku1 kd1 ku2 kd2):D6 [bkD L1,bkD L2]=.ok (.list ((Yy B1 B2 ku1 kd1 ku2 kd2).map chD)):=by
 have hs:=Wh D.A1 D.l1 D.P1.P;have hp:=Ui D.A2 D.l2 D.P2.P;have ol1:=X2 D.A1;have ol2:=X2 D.A2;have hl1:=D.l1;have hl2:=D.l2;have fl:((ord B1).filter (F1 ku1 kd1)).length<=(ord B1).length:=AA _ _;have nd:((ord B1).filter (F1 ku1 kd1)).Pairwise (fun a b=>xT (thE a).1 (thE b).1=false):=by
   have h1:=Am D.A1.bk; rw [List.Nodup,l0] at h1; refine (h1.filter _).imp fun {a b} h=>?_;rw [Fw,decide_eq_false h]
 have e0:Hn (K4 (F5 (fun δ=>((C1 (A3 (A0 0) A8) M7) δ).bind D9) E3 [] N6 (F3 (A3 (b2 (A0 0) (vC (.int 0)) dIx) (A3 (vC (.bool true)) A8))))) [.sh (bkD L1),.sh (bkD L2),.un,.un,.un,.un,.un,.un,.un,.un]=.ok (((ord B1).filter (F1 ku1 kd1)).map thE):=by
   unfold Hn; rw [P9 (I8 (ys:=((ord B1).filter (F1 ku1 kd1)).map fun v=>.tuple [sgA v,.bool true]) (E6 (d:=.list (((ord B1).filter (F1 ku1 kd1)).map tl)) (C7 (A7 rfl rfl) hs) rfl) (by simp; lia) rfl (V6 tl _ (fun v=>O0 (A7 (B6 (x:=tl v) (y:=.int 0) rfl rfl (V2 _ _)) (A7 rfl rfl))) _)),C6];show (if (((ord B1).filter (F1 ku1 kd1)).map fun v=>o3 [sgA v,.bool true]).length < 1000 then _ else _)=_;rw [if_pos (by simp; lia)];have:=Kj thE (fun a=>Ef (some (sgn a))) ((ord B1).filter (F1 ku1 kd1)) [] (by simpa using nd);rw [zX,yO] at this; rw [this]; rfl
 obtain ⟨t6,t7,t8,t9,e4⟩:=sB (bkD L1) (bkD L2) (((ord B1).filter (F1 ku1 kd1)).map thE) (Jq B1 ku1 kd1) (F1 ku2 kd2) (ord B2) ([],none,0) CI.nil (by lia) (fun u hu=>⟨iI _ u,dU D.A2 hu⟩) (fun c h=>nomatch h) .un .un .un .un;unfold D6 Q9;refine Y5 ?_;show B9 _ _ [.sh (bkD L1),.sh (bkD L2),.un,.un,.un,.un,.un,.un,.un,.un]=_;refine (B5 (δ':=[.sh (bkD L1),.sh (bkD L2),oN (((ord B1).filter (F1 ku1 kd1)).map thE),.un,.un,.un,.un,.un,.un,.un]) (by unfold P6 W0; rw [e0]; rfl)).trans ?_;refine (B5 rfl).trans ((B5 rfl).trans ((B5 rfl).trans ?_));refine (B5 (δ':=dC (bkD L1) (bkD L2) (((ord B1).filter (F1 ku1 kd1)).map thE) ((told (Ja (Jq B1 ku1 kd1) (F1 ku2 kd2) ([],none,0) (ord B2))).map chD) (Ja (Jq B1 ku1 kd1) (F1 ku2 kd2) ([],none,0) (ord B2)).2.1.isSome (Ja (Jq B1 ku1 kd1) (F1 ku2 kd2) ([],none,0) (ord B2)).2.2 t6 t7 t8 t9) ?_).trans rfl
 unfold P5 K9;rw [E6 (d:=.list ((ord B2).map fun u=>.tuple [tl u,.bool (F1 ku2 kd2 u)])) (ds:=(ord B2).map fun u=>.tuple [tl u,.bool (F1 ku2 kd2 u)]) (C7 (A7 rfl rfl) hp) rfl,D2];exact e4
theorem Two.app (D:Two L1 L2 B1 B2 ku1 kd1 ku2 kd2):Sm.app (txL B1 ku1 kd1) (Yy B1 B2 ku1 kd1 ku2 kd2)=txL B2 ku2 kd2:=by
 have:=D.ci.app [];rw [yL,yL] at this;exact this
end
theorem vA {x:Str} (h:chOk 32 126 x) (hl:x.length<=1000) (lo hi:Option Int):okS (Ku x lo hi)=true:=by
 have sm:∀ y:Str,(∀ c∈y.cps.toList,c<=126)->yP y=true:=fun y hy=>by
   unfold yP; rw [HK]; intro c hc; have:=hy c (by simpa using hc);simp;lia
 have hs:(1000:Nat)<=sizeLine:=Li;unfold Ku;split
 . unfold okS
   rw [sm x fun c hc=>(h c hc).2,decide_eq_true (xX hl hs)]; rfl
 . unfold okS
   rw [sm _ (fun c hc=>by
     obtain ⟨i,_,e⟩:=CL.mp (show c∈List.filterMap _ _ from hc);exact (h c (by simpa using LA e)).2),decide_eq_true]
   . rfl
   . refine xX ?_ (xX hl hs)
     show (List.filterMap _ _).toArray.size<=_;rw [xU]; exact xX (List.length_filterMap_le _ _) (PyProof.Rows.indices_len_le lo hi x.length)
theorem Oc {f:Dn->Res wY} {fl fh:Dn->Res (Option Int)} {δ:Dn} {x:Str} {l u:Option Int} (h1:f δ=.ok (.str x)) (h2:fl δ=.ok l) (h3:fh δ=.ok u) (h:chOk 32 126 x) (hl:x.length<=1000):Jr f fl fh δ=.ok (.str (Ku x l u)):=by
 unfold Jr;rw [h1,C6,h2,C6,h3,C6];show ofO (if okS (Ku x l u)=true then _ else _)=_;rw [if_pos (vA h hl l u)]; rfl
theorem Db {f:Dn->Res wY} {δ:Dn} {i:Int} (h:f δ=.ok (.int i)):P0 f δ=.ok (some i):=by
 unfold P0;rw [h]; rfl
noncomputable def bE:Dn->Out:=(B9 (D4 4 (b2 (A0 3) (vC (.int 0)) dIx)) (D4 2 (b2 (b2 (Jr (A0 2) Y2 (P0 (A0 4))) (b2 (A0 3) (vC (.int 2)) dIx) C5) (Jr (A0 2) (P0 (b2 (A0 4) (vFn (A3 (b2 (A0 3) (vC (.int 1)) dIx) A8) T4) C5)) Y2) C5)))
theorem rA (x0 x1:Sl) (x:List Nat) (c:Chg) (hx:Ok x) (hl:x.length+c.2.2.length<=900) (hc:c.1+c.2.1.length<=x.length) (s4:Sl):bE [x0,x1,.sh (.str (mk x)),.sh (chD c),s4]=.nx [x0,x1,.sh (.str (mk (Lb x c))),.sh (chD c),.sh (.int (c.1:Int))]:=by
 obtain ⟨p,o,n⟩:=c;simp only at hl hc;have i0:dIx (chD (p,o,n)) (.int 0)=some (.int (p:Int)):=V2 _ _;have i1:dIx (chD (p,o,n)) (.int 1)=some (.str (mk o)):=Et _ _ _;have i2:dIx (chD (p,o,n)) (.int 2)=some (.str (mk n)):=Vu _ _ _ _;have cx:=rZ hx;have lx:(mk x).length<=1000:=by rw [Fj]; lia
 unfold bE;refine (B5 (D3 (B6 (x:=chD (p,o,n)) (y:=.int 0) rfl rfl i0))).trans ?_;refine D3 (B6 (x:=.str (mk (x.take p++n))) (y:=.str (mk (x.drop (p+o.length)))) (B6 (x:=.str (mk (x.take p))) (y:=.str (mk n)) ?_ (B6 (x:=chD (p,o,n)) (y:=.int 2) rfl rfl i2) (bJ ?_)) ?_ ?_)
 . rw [Oc (x:=mk x) (l:=none) (u:=some (p:Int)) rfl rfl (Db rfl) cx lx,Yr _ _ (by lia)]
 . rw [n6]; lia
 . rw [Oc (x:=mk x) (l:=some ((p+o.length:Nat):Int)) (u:=none) rfl (Db (B6 (x:=.int (p:Int)) (y:=.int (o.length:Int)) rfl (W2 (A7 (B6 (x:=chD (p,o,n)) (y:=.int 1) rfl rfl i1) rfl) (by rw [fS,Fj])) (by rw [V7]; rfl))) rfl cx lx,Ys _ _ hc]
 . refine (bJ (by simp only [xN,n6,AN]; lia)).trans ?_
   unfold Lb; rw [yI]
theorem pG {x:List Nat} {c:Chg} (hx:Ok x) (hn:Ok c.2.2):Ok (Lb x c):=fun d hd=>by
 unfold Lb at hd;rcases xK.mp hd with h | h
 . exact hx d (MA h)
 . rcases xK.mp h with h | h
   . exact hn d h
   . exact hx d (GL h)
abbrev upT (L:List Dp) (t:Int):List Dp:=L.filter fun e=>decide (e.2.1<=t)
theorem sM (a b:Int):P4 .LtE (.int a) (.int b)=some (.bool (decide (a<=b))):=rfl
theorem cmpLt (a b:Int):P4 .Lt (.int a) (.int b)=some (.bool (decide (a < b))):=rfl
theorem Ts {e:Dp} (h:Kd e) (δ:Dn):(b2 (b2 (A0 0) (vC (.int 1)) dIx) (vC (.int 0)) dIx) ([.sh e.1]++δ)=.ok (.int e.2.1) :=
 B6 (x:=idP e.2) (y:=.int 0) (B6 (x:=e.1) (y:=.int 1) rfl rfl h.tid) rfl (V2 _ _)
theorem sN {L:List Dp} (hk:∀ e∈L,Kd e) (hl:L.length<=9) (t:Int):Ea [bkD L,.int t]=.ok (bkD (upT L t)):=by
 refine Y5 (N1 (W2 (ds:=[.list ((upT L t).map (·.1))]) (A7 (P9 (I8 (δc:=[.sh (.int t)]) (E6 (d:=bkD L) rfl rfl) (by simp; lia) rfl ?_)) rfl) rfl));exact Ec (fun e:Dp=>e.1) (fun e=>e.1) (fun e=>decide (e.2.1<=t)) L (fun e he=>C3 (B6 (Ts (hk e he) _) rfl (sM _ _))) fun e _=>rfl
theorem hV {L:List Dp} (hp:L.Pairwise fun a b=>key a.2 < key b.2) (t:Int):∃ R,L=upT L t++R/\∀ e∈R,e∈L/\t < e.2.1:=by
 induction L with
 | nil=>exact ⟨[],rfl,fun _ h=>nomatch h⟩
 | cons e L ih =>
   rw [yQ] at hp;by_cases c:e.2.1<=t
   . obtain ⟨R,e1,e2⟩:=ih hp.2
     refine ⟨R,?_,fun x hx=>⟨.tail _ (e2 x hx).1,(e2 x hx).2⟩⟩;unfold upT; rw [KN (by simpa using c),zW,<- e1]
   . have hn : ∀ x ∈ e :: L, t < x.2.1 := fun x hx => by
       rcases xD.mp hx with rfl | hx
       . lia
       . have:=Xz (hp.1 x hx); lia
     refine ⟨e::L,?_,fun x hx=>⟨hx,hn x hx⟩⟩;have:upT (e::L) t=[]:=AY.mpr fun x hx=>by have:=hn x hx; simp; lia
     rw [this]; rfl
theorem up_up (L:List Dp) {s t:Int} (h:s<=t):upT (upT L t) s=upT L s:=by
 unfold upT;rw [HM];refine CP fun e _=>?_;by_cases c:e.2.1<=s
 . simp [c]; lia
 . simp [c]
theorem sQ {L:List Dp} {t:Int} (h:∀ e∈L,e.2.1<=t):upT L t=L:=v7.mpr fun e he=>by simpa using h e he
theorem nC {L:List Dp} (W:BkW L) (t:Int):BkW (upT L t):=by
 obtain ⟨R,e,_⟩:=hV W.2 t;rw [e] at W;exact BkW.pre _ R rfl W
theorem An {L:List Dp} (hl:L.length<=9) (t:Int):(upT L t).length<=9:=xX (AA _ _) hl
noncomputable def txt (L:List Dp) (t:Int):List Nat:=match E9 [bkD (upT L t)] with
 | .ok (.str x)=>x.cps.toList
 | _=>[]
theorem Zn {L:List Dp} (hl:L.length<=9) {t:Int} {B:List Ad} {ku kd:Kvs} (A:BkA (upT L t) B) (P:Pr (upT L t) ku kd):txt L t=txL B ku kd:=by
 unfold txt;rw [bO A (An hl t) P,cZ];rfl
theorem Tr {L:List Dp} (W:BkW L) (hl:L.length<=9) (t:Int):E9 [bkD (upT L t)]=.ok (.str (mk (txt L t)))/\Ok (txt L t)/\(txt L t).length<=36:=by
 have Wt:=nC W t;obtain ⟨B,A⟩:=wR Wt;obtain ⟨ku,kd,P⟩:=cJ (fun e he=>(Wt.1 e he).kd) (An hl t);have e:=Zn hl A P.P;refine ⟨?_,?_,?_⟩
 . rw [bO A (An hl t) P.P,cZ,e]
 . rw [e]
   intro c hc; obtain ⟨u,hu,rfl⟩:=yK.mp hc; exact dU A (zT.mp hu).1
 . rw [e,xG]
   have h1:=X2 A; have h2:=AA (F1 ku kd) (ord B); have h3:=An hl t;lia
theorem Zs {L:List Dp} (W:BkW L) (hl:L.length<=9) (t:Int):Dc [bkD L,.int t]=.ok (.str (mk (txt L t))) :=
 Y5 (N1 (C7 (A7 (C7 (A7 rfl (A7 rfl rfl)) (sN (fun e he=>(W.1 e he).kd) hl t)) rfl) (Tr W hl t).1))
theorem hZ {L:List Dp} (W:BkW L) (hl:L.length<=9) {s t:Int} (h:s<=t):∃ B1 B2 ku1 kd1 ku2 kd2 R,Two (upT L s) (upT L t) B1 B2 ku1 kd1 ku2 kd2/\upT L t=upT L s++R/\(∀ e∈R,e∈L/\s < e.2.1/\e.2.1<=t)/\((∀ e∈R,∃ k x xs,e.1=.tuple (.str k::idP e.2::x::xs)/\k ≠ "add")->B1=B2):=by
 have Wt:=nC W t;have Ws:=nC W s;obtain ⟨B2,A2⟩:=wR Wt;obtain ⟨R,e1,e2⟩:=hV Wt.2 s;rw [up_up L h] at e1;have A2':=A2;rw [e1] at A2';obtain ⟨B1,A1,S,q⟩:=BkA.pre R.length R B2 rfl A2';obtain ⟨ku1,kd1,P1⟩:=cJ (fun e he=>(Ws.1 e he).kd) (An hl s);obtain ⟨ku2,kd2,P2⟩:=cJ (fun e he=>(Wt.1 e he).kd) (An hl t);refine ⟨B1,B2,ku1,kd1,ku2,kd2,R,⟨A1,A2,P1,P2,S,An hl s,An hl t⟩,e1,fun e he=>?_,q⟩;have:=e2 e he;have hm:=zT.mp this.1;exact ⟨hm.1,this.2,by simpa using hm.2⟩
theorem Sh:∀ ns:List Int,Gr (ns.map .int)=some ns
 | []=>rfl
 | n::ns=>by show (Gr (ns.map .int)).map (n::·)=_; rw [Sh ns]; rfl
theorem bX (ns:List Int) (h:ns.length < 64):T6 [.list (ns.map .int)]=some (.list ((Cv (X0 ns)).map .int)):=by
 show (if (ns.map k8).length < 64 then (match Gr (ns.map .int) with | some ns=>some (FZ ((Cv (X0 ns)).map .int)) | none=>_) else none)=_;rw [if_pos (by simpa using h),Sh]
theorem Eu:∀ ss:List Str,F4 (ss.map .str)=some ss
 | []=>rfl
 | n::ns=>by show (F4 (ns.map .str)).map (n::·)=_; rw [Eu ns]; rfl
theorem nQ (ss:List Str) (h:ss.length < 64):T6 [.list (ss.map .str)]=some (.list ((L6 (X0 ss)).map .str)):=by
 cases ss with
 | nil=>rfl
 | cons x r =>
   show (if ((x::r).map zU).length < 64 then (match F4 ((x::r).map .str) with | some ss=>some (FZ ((L6 (X0 ss)).map .str)) | none=>none) else none)=_;rw [if_pos (by simpa using h),Eu]
theorem Hw {K:Type} [DecidableEq K] (l:List K):(X0 l).Nodup:=by
 have:∀ (l m:List K),m.Nodup->(l.foldl G9 m).Nodup:=fun l=>by
   induction l with
   | nil=>exact fun m h=>h
   | cons y l ih =>
     intro m h; refine ih _ ?_; unfold G9;split
     . exact h
     . rename_i hy
       rw [l8]; exact ⟨h,by simp,fun a ha b hb e=>by rw [xM.mp hb] at e; exact hy (e▸ha)⟩
 exact this l [] List.nodup_nil
noncomputable def tms (L:List Dp):List Int:=Cv (X0 (0::L.map fun e=>e.2.1))
theorem Fv {L:List Dp} {x:Int}:x∈tms L↔x=0\/∃ e∈L,e.2.1=x:=by
 unfold tms;rw [(U3 _).mem_iff,Jj,xD,yK]
theorem iE (L:List Dp):(tms L).Pairwise (· < ·):=by
 have h1:=Ij (X0 (0::L.map fun e=>e.2.1));have h2:(tms L).Nodup:=(U3 _).nodup_iff.mpr (Hw _);refine (h1.and h2).imp fun {a b} h=>?_;have:=h.1; have:=h.2; lia
theorem iG {L:List Dp} (hk:∀ e∈L,Kd e) (hl:L.length<=9):Dz [bkD L]=.ok (.list ((tms L).map .int)):=by
 refine Y5 (N1 (W2 (ds:=[.list ((0::L.map fun e=>e.2.1).map .int)]) (A7 (B6 (x:=.list [.int 0]) (y:=.list (L.map fun e=>.int e.2.1)) rfl (P9 (I8 (δc:=[]) (E6 (d:=bkD L) rfl rfl) (by simp; lia) rfl ?_)) ?_) rfl) ?_))
 . have:=Ec (tt:=N6) (el:=b2 (b2 (A0 0) (vC (.int 1)) dIx) (vC (.int 0)) dIx) (δc:=[]) (fun e:Dp=>e.1) (fun e=>.int e.2.1) (fun _=>true) L (fun _ _=>rfl) fun e he=>Ts (hk e he) _
   rw [v7.mpr (fun _ _=>rfl)] at this;exact this
 . rw [Zh (by simp; lia),xJ,AG]; rfl
 . exact bX _ (by simp; lia)
noncomputable def cW:Dn->Res Bool:=(cFz 1 (C4 (b2 (vFn (A3 (A0 1) A8) T4) (A0 2) (P4 .Lt))))
noncomputable def bW:Dn->Out:=(Y0 1 (vFz 1 (b2 (A0 1) (b1 (vC (.int 1)) Dh) dIx)))
theorem mH (bk:wY) (W:List wY) (b:Int):cW [.sh bk,.ow (.list W),.sh (.int b)]=.ok (decide ((W.length:Int) < b)) :=
 wP rfl (C3 (B6 (x:=.int (W.length:Int)) (y:=.int b) (W2 (A7 rfl rfl) rfl) rfl (cmpLt _ _)))
theorem pad (bk:wY) (y:wY) (hy:Hs y=true):∀ (m fuel:Nat) (W:List wY) (b:Int),m < fuel->(W.length:Int)+1+m=b->W.length+m<=900->Y1 cW bW fuel [.sh bk,.ow (.list (W++[y])),.sh (.int b)]=.nx [.sh bk,.ow (.list (W++[y]++yB m y)),.sh (.int b)]
 | _,0,_,_,h,_,_=>by cases h
 | 0,fuel+1,W,b,_,hb,_=>by
   unfold Y1; rw [mH,decide_eq_false (by simp; lia),D2,if_neg (by decide)]; simp
 | m+1,fuel+1,W,b,hf,hb,hl=>by
   unfold Y1; rw [mH,decide_eq_true (by simp; lia),D2,if_pos rfl];have e:bW [.sh bk,.ow (.list (W++[y])),.sh (.int b)]=.nx [.sh bk,.ow (.list (W++[y]++[y])),.sh (.int b)]:=by
     refine Bs (W:=W++[y]) (d:=y) rfl ?_ (by simp; lia);unfold vFz; have:(b2 (A0 1) (b1 (vC (.int 1)) Dh) dIx) (fz 1 [.sh bk,.ow (.list (W++[y])),.sh (.int b)])=.ok y:=B6 (x:=.list (W++[y])) (y:=.int (-1)) rfl rfl Mr; rw [this,C6,if_pos hy]
   rw [e]; show Y1 cW bW fuel _=_;rw [pad bk y hy m fuel (W++[y]) b (by lia) (by simp; lia) (by simp; lia),yI (W++[y]),LP,<- o9]
theorem pad0 (bk:wY) (W:List wY) (b:Int) (fuel:Nat) (h:b<=W.length):Y1 cW bW (fuel+1) [.sh bk,.ow (.list W),.sh (.int b)]=.nx [.sh bk,.ow (.list W),.sh (.int b)]:=by
 unfold Y1;rw [mH,decide_eq_false (by lia),D2,if_neg (by decide)]
noncomputable abbrev txD (L:List Dp) (t:Int):wY:=.str (mk (txt L t))
noncomputable abbrev TX (L:List Dp) (n:Nat):List wY:=(zF n).map fun (t:Nat)=>txD L (t:Int)
theorem Vn (L:List Dp) (n:Nat):TX L (n+1)=TX L n++[txD L (n:Int)]:=by unfold TX; rw [IS,yA]; rfl
theorem Pz (L:List Dp) (n:Nat):(TX L n).length=n:=by simp
theorem eC {L:List Dp} {n:Nat} (x:wY):∀ m,(∀ k,k < m->txD L ((n+k:Nat):Int)=x)->TX L (n+m)=TX L n++yB m x
 | 0,_=>by simp
 | m+1,h=>by
   rw [show n+(m+1)=(n+m)+1 by lia,Vn,eC x m (fun k hk=>h k (by lia)),h m (by lia),List.replicate_succ',yI]
noncomputable def bD:Dn->Out:=(B9 (Oq (cFz 1 (C4 (b2 (vFn (A3 (A0 1) A8) T4) (A0 2) (P4 .Lt)))) (Y0 1 (vFz 1 (b2 (A0 1) (b1 (vC (.int 1)) Dh) dIx)))) (Y0 1 (C1 (A3 (A0 0) (A3 (A0 2) A8)) Dc)))
theorem nG {L:List Dp} (W:BkW L) (hl:L.length<=9) {n:Nat} {b:Nat} (hn:n<=b) (hb:b<=20) (hz:n=0->b=0) (hg:∀ e∈L,e.2.1 < n\/(b:Int)<=e.2.1):bD [.sh (bkD L),.ow (.list (TX L n)),.sh (.int (b:Int))]=.nx [.sh (bkD L),.ow (.list (TX L (b+1))),.sh (.int (b:Int))]:=by
 have e1:Oq cW bW [.sh (bkD L),.ow (.list (TX L n)),.sh (.int (b:Int))]=.nx [.sh (bkD L),.ow (.list (TX L b)),.sh (.int (b:Int))]:=by
   by_cases c:n=b
   . subst c
     exact pad0 _ _ _ 4095 (by rw [Pz]; lia)
   . obtain ⟨n',rfl⟩:∃ n',n=n'+1:=⟨n - 1,by lia⟩
     obtain ⟨m,rfl⟩:∃ m,b=n'+1+m:=⟨b - (n'+1),by lia⟩;have same:∀ k,k < m->txD L ((n'+1+k:Nat):Int)=txD L (n':Int):=fun k hk=>by
       have:upT L ((n'+1+k:Nat):Int)=upT L (n':Int):=CP fun e he=>by
         rcases hg e he with z | z
         . rw [decide_eq_true (by lia),decide_eq_true (by lia)]
         . rw [decide_eq_false (by lia),decide_eq_false (by lia)]
       unfold txD txt; rw [this]
     rw [eC _ m same,Vn]; exact pad _ _ rfl m 4096 (TX L n') _ (by lia) (by rw [Pz]; lia) (by rw [Pz]; lia)
 unfold bD;refine (B5 e1).trans ?_;rw [Vn];exact Bs rfl (C7 (A7 rfl (A7 rfl rfl)) (Zs W hl b)) (by rw [Pz]; lia)
theorem bN {L:List Dp} (W:BkW L) (hl:L.length<=9):∀ (G6:List Int) (n:Nat) (s2:Sl),G6.Pairwise (· < ·)->(∀ x∈G6,(n:Int)<=x/\x<=20)->(∀ e∈L,e.2.1 < n\/e.2.1∈G6)->(n=0->∃ r,G6=0::r)->n<=21->∃ (N:Nat) (t2:Sl),1<=N/\N<=21/\(∀ e∈L,e.2.1 < N) /\
   E8 (st1 2) bD (G6.map .int) [.sh (bkD L),.ow (.list (TX L n)),s2]=.nx [.sh (bkD L),.ow (.list (TX L N)),t2]
 | [],n,s2,_,_,hg,hz,hn=>by
   refine ⟨n,s2,?_,hn,fun e he=>(hg e he).elim id (fun h=>nomatch h),rfl⟩;cases n with
   | zero=>obtain ⟨r,h⟩:=hz rfl; cases h
   | succ n=>lia
 | x::r,n,s2,hp,hx,hg,hz,hn=>by
   rw [yQ] at hp; obtain ⟨x1,x2⟩:=hx x (.head _); obtain ⟨b,rfl⟩:∃ b:Nat,x=(b:Int):=⟨x.toNat,by lia⟩;have st:=nG W hl (n:=n) (b:=b) (by lia) (by lia) (fun z=>by obtain ⟨r',h⟩:=hz z; injection h with h; lia) fun e he=>by
     rcases hg e he with z | z
     . exact .inl z
     . rcases xD.mp z with z | z
       . exact .inr (by lia)
       . have:=hp.1 _ z; exact .inr (by lia)
   obtain ⟨N,t2,h1,h2,h3,h4⟩:=bN W hl r (b+1) (.sh (.int (b:Int))) hp.2 (fun y hy=>⟨by have:=hp.1 y hy; lia,(hx y (.tail _ hy)).2⟩) (fun e he=>by
     rcases hg e he with z | z
     . exact .inl (by lia)
     . rcases xD.mp z with z | z
       . exact .inl (by lia)
       . exact .inr z) (fun z=>by cases z) (by lia)
   exact ⟨N,t2,h1,h2,h3,(N3 rfl st).trans h4⟩
theorem iJ {L:List Dp} (W:BkW L) (hl:L.length<=9):∃ N:Nat,1<=N/\N<=21/\(∀ e∈L,e.2.1 < N)/\W8 [bkD L]=.ok (.list (TX L N)):=by
 have ok:∀ e∈L,okI e.2:=fun e he=>(show Wf _ _ _ _ from W.1 e he).1;have h0:(0:Int)∈tms L:=Fv.mpr (.inl rfl);have hge:∀ x∈tms L,0<=x/\x<=20:=fun x hx=>by
   rcases Fv.mp hx with rfl | ⟨e,he,rfl⟩
   . lia
   . have:=ok e he; exact ⟨by have:=this.1; lia,by have:=this.2.1; lia⟩
 have hup:=iE L;obtain ⟨N,t2,h1,h2,h3,h4⟩:=bN W hl (tms L) 0 .un hup (fun x hx=>by have:=hge x hx; exact ⟨by lia,this.2⟩) (fun e he=>.inr (Fv.mpr (.inr ⟨e,he,rfl⟩))) (fun _=>by
   cases ht:tms L with
   | nil=>rw [ht] at h0; cases h0
   | cons x r =>
     rw [ht] at h0 hup hge; rcases xD.mp h0 with z | z
     . exact ⟨r,by rw [z]⟩
     . have:=(yQ.mp hup).1 0 z
       have:=hge x (.head _);lia) (by lia)
 refine ⟨N,h1,h2,h3,Y5 ?_⟩;show B9 _ _ [.sh (bkD L),.un,.un]=_;refine (B5 (δ':=[.sh (bkD L),.ow (.list (TX L 0)),.un]) rfl).trans ?_;refine (B5 (δ':=[.sh (bkD L),.ow (.list (TX L N)),t2]) ?_).trans rfl;unfold K9;rw [E6 (d:=.list ((tms L).map .int)) (ds:=(tms L).map .int) (C7 (A7 rfl rfl) (iG (fun e he=>(W.1 e he).kd) hl)) rfl,D2];exact h4
inductive Rr (x:List Nat):List Chg->Int->Prop where
 | nil:Rr x [] (-1)
 | snoc {cs:List Chg} {c:Chg} {e:Int} (A R:List Nat):Rr x cs e->e < (c.1:Int)->c.2.1++c.2.2≠[]->app x cs=A++(c.2.1++R)->A.length=c.1->Rr x (cs++[c]) ((c.1+c.2.2.length:Nat):Int)
def CR (s:CS) (W:List Nat):Prop:=match s.2.1 with
 | none=>∀ R,∃ e,Rr (W++R) s.1 e/\e < (s.2.2:Int)
 | some q=>(∀ R,∃ e,Rr (W++R) s.1 e/\e < (q.1:Int))/\q.2.1++q.2.2≠[]
theorem CR.told {s:CS} {W T:List Nat} {n:Nat} (h:CI s W T n) (r:CR s W) (R:List Nat):∃ e,Rr (W++R) (told s) e/\e < (s.2.2:Int)+1:=by
 obtain ⟨T0,op,p⟩:=s;have ha:=h.a;have hp:=h.p;cases op with
 | none =>
   obtain ⟨e,h1,h2⟩:=r R; refine ⟨e,?_,?_⟩
   . simp only [Sm.told,y9,yL]; exact h1
   . simp only at h2 ⊢; lia
 | some q =>
   obtain ⟨r1,r2⟩:=r; obtain ⟨e,h1,h2⟩:=r1 R; obtain ⟨A,e1,e2,e3⟩:=ha; refine ⟨_,.snoc A R h1 h2 r2 (e3 R) e2,?_⟩; simp only at hp e1 ⊢;have:=congrArg y4 e1; rw [xN] at this;lia
theorem CR.open {s:CS} {W:List Nat} (r:CR s W) (R:List Nat):∃ e,Rr (W++R) s.1 e/\e < ((s.2.1.getD (s.2.2,[],[])).1:Int):=by
 obtain ⟨T0,op,p⟩:=s;cases op with
 | none=>exact r R
 | some q=>exact r.1 R
theorem CR.step {s:CS} {W T:List Nat} {n:Nat} (h:CI s W T n) (r:CR s W) (w t:Bool) (c:Nat):CR (T5 w t c s) (if w then W++[c] else W):=by
 cases w with
 | true =>
   cases t with
   | true =>
     intro R; obtain ⟨e,h1,h2⟩:=r.told h ([c]++R); refine ⟨e,?_,?_⟩
     . simp only [if_true,yI]; exact h1
     . show e < ((s.2.2+1:Nat):Int); lia
   | false =>
     refine ⟨fun R=>?_,?_⟩
     . obtain ⟨e,h1,h2⟩:=r.open ([c]++R)
       exact ⟨e,by simp only [if_true,yI]; exact h1,h2⟩
     . show (s.2.1.getD (s.2.2,[],[])).2.1++[c]++_≠[]
       simp
 | false =>
   cases t with
   | true =>
     refine ⟨fun R=>?_,?_⟩
     . obtain ⟨e,h1,h2⟩:=r.open R
       exact ⟨e,h1,h2⟩
     . show (s.2.1.getD (s.2.2,[],[])).2.1++((s.2.1.getD (s.2.2,[],[])).2.2++[c])≠[]
       simp
   | false=>exact r
theorem tX (w t:As->Bool):∀ (us:List As) {s:CS} {W T:List Nat} {n:Nat},(∀ u∈us,32<=cp u/\cp u<=126)->CI s W T n->CR s W->CR (Ja w t s us) (W++(us.filter w).map cp):=by
 intro iN; induction iN with
 | nil=>intro s W T n _ _ r; simpa [Ja] using r
 | cons u us ih =>
   intro s W T n hu h r; have:=ih (fun v hv=>hu v (.tail _ hv)) (h.step (w u) (t u) (hu u (.head _))) (r.step h (w u) (t u) (cp u));have e:(if w u=true then W++[cp u] else W)++(us.filter w).map cp=W++((u::us).filter w).map cp:=by
     rw [yX];cases w u <;> simp
   rw [e] at this; exact this
theorem Two.rr {L1 L2:List Dp} {B1 B2:List Ad} {ku1 kd1 ku2 kd2:Kvs} (D:Two L1 L2 B1 B2 ku1 kd1 ku2 kd2):∃ e,Rr (txL B1 ku1 kd1) (Yy B1 B2 ku1 kd1 ku2 kd2) e:=by
 have:=tX (Jq B1 ku1 kd1) (F1 ku2 kd2) (ord B2) (fun u hu=>dU D.A2 hu) CI.nil (fun R=>⟨-1,.nil,by decide⟩);rw [D.was,yO] at this;obtain ⟨e,h,_⟩:=this.told D.ci [];rw [yL] at h;exact ⟨e,h⟩
noncomputable def mK:Dn->Out:=(B9 (sIf (cOr (C4 (b2 (A0 4) (A0 3) (P4 .LtE))) (cOr (C4 (b2 (b2 (A0 5) (A0 6) C5) (vC (.str "")) dEq)) (C4 (b2 (Jr (A0 0) (P0 (A0 4)) (P0 (b2 (A0 4) (vFn (A3 (A0 5) A8) T4) C5))) (A0 5) dNe)))) (K8 (vC (.bool false))) E5) (B9 (D4 0 (b2 (b2 (Jr (A0 0) Y2 (P0 (A0 4))) (A0 6) C5) (Jr (A0 0) (P0 (b2 (A0 4) (vFn (A3 (A0 5) A8) T4) C5)) Y2) C5)) (D4 3 (b2 (A0 4) (vFn (A3 (A0 6) A8) T4) C5))))
theorem Vi {c c':Dn->Res Bool} {δ:Dn} (h1:c δ=.ok false) (h2:c' δ=.ok false):cOr c c' δ=.ok false:=by unfold cOr; rw [h1,C6,if_neg (by decide),h2]
theorem kM (x:Str):dNe (.str x) (.str x)=some (.bool false):=by
 unfold dNe;rw [if_pos (xX (CK _ _) (by simp [zQ]))];show some (CG (!(x==x)))=_;rw [beq_self_eq_true]; rfl
theorem pU (x1 x2:Sl) (x A R:List Nat) (c:Chg) {e:Int} (hx:Ok x) (hl:x.length+c.2.2.length<=900) (h1:e < (c.1:Int)) (h2:c.2.1++c.2.2≠[]) (hA:x=A++(c.2.1++R)) (hAl:A.length=c.1):mK [.sh (.str (mk x)),x1,x2,.sh (.int e),.sh (.int (c.1:Int)),.sh (.str (mk c.2.1)),.sh (.str (mk c.2.2))]=.nx [.sh (.str (mk (Lb x c))),x1,x2,.sh (.int ((c.1+c.2.2.length:Nat):Int)),.sh (.int (c.1:Int)),.sh (.str (mk c.2.1)),.sh (.str (mk c.2.2))]:=by
 obtain ⟨p,o,n⟩:=c;simp only at hl h1 h2 hA hAl ⊢;have cx:=rZ hx;have lx:(mk x).length<=1000:=by rw [Fj]; lia
 have hlen:=congrArg y4 hA;simp only [xN] at hlen;have hmid:(x.drop p).take (p+o.length - p)=o:=by
   rw [hA,<- hAl,JM,Nat.add_sub_cancel_left,List.take_left]
 have lo:∀ δ:Dn,δ[5]? = some (.sh (.str (mk o)))->δ[4]? = some (.sh (.int (p:Int)))->P0 (b2 (A0 4) (vFn (A3 (A0 5) A8) T4) C5) δ=.ok (some ((p+o.length:Nat):Int)):=fun δ g5 g4 =>
   Db (B6 (x:=.int (p:Int)) (y:=.int (o.length:Int)) (by unfold A0; rw [g4]) (W2 (A7 (d:=.str (mk o)) (by unfold A0; rw [g5]) rfl) (by rw [fS,Fj])) (by rw [V7]; rfl))
 unfold mK;refine (B5 (Q7 (Vi (C3 (B6 (x:=.int (p:Int)) (y:=.int e) rfl rfl ?_)) (Vi (C3 (B6 (x:=.str (mk (o++n))) (y:=.str "") (B6 (x:=.str (mk o)) (y:=.str (mk n)) rfl rfl (bJ (by lia))) rfl ?_)) (C3 (B6 (x:=.str (mk o)) (y:=.str (mk o)) ?_ rfl (kM _))))))).trans ?_
 . rw [sM,decide_eq_false (by lia)]
 . rw [Gg]
   have:(mk (o++n)==("" : Str))=false:=by
     rw [beq_eq_false_iff_ne]; intro z; exact h2 (vK (show mk (o++n)=mk [] from z))
   rw [this]
 . rw [Oc (x:=mk x) (l:=some (p:Int)) (u:=some ((p+o.length:Nat):Int)) rfl (Db rfl) (lo _ rfl rfl) cx lx,Ve rfl (Nat.le_add_right _ _) (by lia),hmid]
 refine (B5 (D3 (d:=.str (mk (Lb x (p,o,n)))) (B6 (x:=.str (mk (x.take p++n))) (y:=.str (mk (x.drop (p+o.length)))) (B6 (x:=.str (mk (x.take p))) (y:=.str (mk n)) ?_ rfl (bJ ?_)) ?_ ?_))).trans ?_
 . rw [Oc (x:=mk x) (l:=none) (u:=some (p:Int)) rfl rfl (Db rfl) cx lx,Yr _ _ (by lia)]
 . rw [n6]; lia
 . rw [Oc (x:=mk x) (l:=some ((p+o.length:Nat):Int)) (u:=none) rfl (lo _ rfl rfl) rfl cx lx,Ys _ _ (by lia)]
 . refine (bJ (by simp only [xN,n6,AN]; lia)).trans ?_
   unfold Lb; rw [yI]
 . exact D3 (B6 (x:=.int (p:Int)) (y:=.int (n.length:Int)) rfl (W2 (A7 (d:=.str (mk n)) rfl rfl) (by rw [fS,Fj])) (by rw [V7]; rfl))
theorem vB {x:List Nat}:∀ {cs:List Chg},Ok x->(∀ c∈cs,Ok c.2.2)->Ok (app x cs):=fun {cs} hx hn=>by
 unfold app;induction cs generalizing x with
 | nil=>exact hx
 | cons c cs ih=>exact ih (pG hx (hn c (.head _))) fun d hd=>hn d (.tail _ hd)
theorem Rr.len {x:List Nat} {cs:List Chg} {e:Int} (r:Rr x cs e):(app x cs).length<=x.length+(cs.map fun c=>c.2.2.length).sum:=by
 induction r with
 | nil=>simp [app]
 | @snoc cs c e A R r h1 h2 h3 h4 ih =>
   rw [Py,yA,CH,xJ,zX,DY,FU]; unfold Lb; have:=congrArg y4 h3; simp only [xN,n6,AN] at this ⊢;lia
theorem Rr.runs (st:wY->Dn->Option Dn) (body:Dn->Out) (δ0:Dn) (S:List Nat->Int->Dn->Prop) {x:List Nat} (hx:Ok x) (h0:S x (-1) δ0)
   (hs:∀ (y A R:List Nat) (c:Chg) (e:Int) (δ:Dn),Ok y->y.length+c.2.2.length<=900->e < (c.1:Int)->c.2.1++c.2.2≠[]->y=A++(c.2.1++R)->A.length=c.1->S y e δ->∃ δ1 δ',st (chD c) δ=some δ1/\body δ1=.nx δ'/\S (Lb y c) ((c.1+c.2.2.length:Nat):Int) δ')
   {cs:List Chg} {e:Int} (r:Rr x cs e):(∀ c∈cs,Ok c.2.2)->x.length+(cs.map fun c=>c.2.2.length).sum<=900->∃ δ,S (app x cs) e δ/\∀ ds:List wY,E8 st body (cs.map chD++ds) δ0=E8 st body ds δ:=by
 induction r with
 | nil=>exact fun _ _=>⟨δ0,h0,fun _=>rfl⟩
 | @snoc cs c e A R r h1 h2 h3 h4 ih =>
   intro hn hl; rw [yA,CH,xJ,zX,DY,FU,LO] at hl; have hn':∀ d∈cs,Ok d.2.2:=fun d hd=>hn d (xK.mpr (.inl hd));have l1:=r.len; obtain ⟨δ,s1,e1⟩:=ih hn' (by lia);obtain ⟨δ1,δ',a1,a2,a3⟩:=hs (app x cs) A R c e δ (vB hx hn') (by lia) h1 h2 h3 h4 s1;refine ⟨δ',by rw [Py]; exact a3,fun ds=>?_⟩;rw [yA,yI]; exact (e1 _).trans (N3 a1 a2)
theorem jH {cs:List Chg} {x:List Nat} (hx:Ok x) {ee:Int} (r:Rr x cs ee) (hn:∀ c∈cs,Ok c.2.2) (hl:x.length+(cs.map fun c=>c.2.2.length).sum<=900):K3 [.str (mk x),.list (cs.map chD),.str (mk (app x cs))]=.ok (.bool true):=by
 obtain ⟨δ,⟨t4,t5,t6,rfl⟩,e⟩:=r.runs (st3 4 5 6) mK [.sh (.str (mk x)),.sh (.list (cs.map chD)),.sh (.str (mk (app x cs))),.sh (.int (-1)),.un,.un,.un] (fun y e δ=>∃ t4 t5 t6,δ=[.sh (.str (mk y)),.sh (.list (cs.map chD)),.sh (.str (mk (app x cs))),.sh (.int e),t4,t5,t6]) hx ⟨_,_,_,rfl⟩
   (fun y A R c e δ hy hl h1 h2 h3 h4 hS=>by obtain ⟨t4,t5,t6,rfl⟩:=hS; exact ⟨_,_,rfl,pU _ _ y A R c hy hl h1 h2 h3 h4,_,_,_,rfl⟩) hn hl
 unfold K3 V3;refine Y5 ?_;show B9 _ _ [.sh (.str (mk x)),.sh (.list (cs.map chD)),.sh (.str (mk (app x cs))),.un,.un,.un,.un]=_;refine (B5 (δ':=[.sh (.str (mk x)),.sh (.list (cs.map chD)),.sh (.str (mk (app x cs))),.sh (.int (-1)),.un,.un,.un]) rfl).trans ?_;refine (B5 (δ':=[.sh (.str (mk (app x cs))),.sh (.list (cs.map chD)),.sh (.str (mk (app x cs))),.sh (.int ee),t4,t5,t6]) ?_).trans (N1 (B6 (x:=.str (mk (app x cs))) (y:=.str (mk (app x cs))) rfl rfl (by rw [Gg,beq_self_eq_true])));unfold U2 K9;rw [E6 (d:=.list (cs.map chD)) (ds:=cs.map chD) rfl rfl,D2];have:=e [];rw [yL] at this
 exact this
theorem aU {cs:List Chg} {x:List Nat} (hx:Ok x) {ee:Int} (r:Rr x cs ee) (hn:∀ c∈cs,Ok c.2.2) (hl:x.length+(cs.map fun c=>c.2.2.length).sum<=900):O3 [.str (mk x),.list (cs.map chD)]=.ok (.str (mk (app x cs))):=by
 obtain ⟨δ,⟨t3,t4,rfl⟩,e⟩:=r.runs (st1 3) bE [.sh (.str (mk x)),.sh (.list (cs.map chD)),.sh (.str (mk x)),.un,.un] (fun y e δ=>∃ t3 t4,δ=[.sh (.str (mk x)),.sh (.list (cs.map chD)),.sh (.str (mk y)),t3,t4]) hx ⟨_,_,rfl⟩
   (fun y A R c e δ hy hl _ _ h3 h4 hS=>by
     obtain ⟨t3,t4,rfl⟩:=hS; exact ⟨_,_,rfl,rA _ _ y c hy hl (by rw [h3,xN,xN]; lia) _,_,_,rfl⟩) hn hl
 unfold O3 Bh;refine Y5 ?_;show B9 _ _ [.sh (.str (mk x)),.sh (.list (cs.map chD)),.un,.un,.un]=_;refine (B5 rfl).trans ?_;refine (B5 (δ':=[.sh (.str (mk x)),.sh (.list (cs.map chD)),.sh (.str (mk (app x cs))),t3,t4]) ?_).trans rfl;unfold K9;rw [E6 (d:=.list (cs.map chD)) (ds:=cs.map chD) rfl rfl,D2];have:=e [];rw [yL] at this;exact this
theorem wD {α:Type} [DecidableEq α]:∀ {l M:List α},l.Nodup->(∀ x∈l,x∈M)->l.length<=M.length:=by
 intro l;induction l with
 | nil=>intro M _ _; exact c7 _
 | cons a l ih =>
   intro M nd h; rw [zO] at nd; have ha:=h a (.head _); have:=ih (M:=M.erase a) nd.2 fun x hx=>(MB (fun e:x=a=>nd.1 (e▸hx))).mpr (h x (.tail _ hx));have h1:=KG ha; have h2:=KY ha; rw [xP]; lia
noncomputable def prD (t:Nat×Nat):wY:=.tuple [.int (t.1:Int),.int (t.2:Int)]
abbrev stE (t:Row):wY×wY:=(.str t.1,prD t.2)
noncomputable def lk (ts:List Row) (n:Str):Option (Nat×Nat):=(ts.find? fun t=>t.1==n).map (·.2)
noncomputable def oD:Option (Nat×Nat)->wY
 | none=>.none
 | some t=>prD t
theorem wB (n:Str):∀ ts:List Row,(F9 (ts.map stE) (.str n)).getD .none=oD (lk ts n):=by
 intro iN; induction iN with
 | nil=>rfl
 | cons t ts ih =>
   unfold F9 lk at ih ⊢;rw [xJ,yS,yS]; show (LY _ (match (t.1==n) with | true=>_ | false=>_)).getD _=oD (LY _ (match (t.1==n) with | true=>_ | false=>_));cases t.1==n with
   | true=>rfl
   | false=>exact ih
theorem oD_ne (a b:Option (Nat×Nat)):dNe (oD a) (oD b)=some (.bool (decide (a≠b))):=by
 have hd:(oD a).depth<=64:=by cases a <;> simp [oD,prD,zQ,zS]
 unfold dNe;rw [if_pos (xX (CK _ _) hd)];congr 2;cases a with
 | none=>cases b with
   | none=>rfl
   | some q=>rfl
 | some p=>cases b with
   | none=>rfl
   | some q =>
     obtain ⟨p1,p2⟩:=p; obtain ⟨q1,q2⟩:=q; have:xT (oD (some (p1,p2))) (oD (some (q1,q2)))=decide ((p1,p2)=(q1,q2)):=by
       simp only [oD,prD,xT,AF,Prod.mk.injEq]; rw [m7]; simp;lia
     rw [this]; simp
theorem Uq {ts:List Row} (h:ts.Pairwise ltW):(ts.map (·.1)).Nodup:=l0.mpr (h.imp fun h=>h.2)
theorem Ds {b:wY} {ts:List Row} (h:I9 [b]=.ok (.list (ts.map Q2))) (hp:ts.Pairwise ltW) (hl:ts.length<=9):C9 [b]=.ok (ts.map stE):=by
 unfold C9 O2 M3 fnW;show Hn _ [.sh b]=_;unfold Hn;rw [P9 (I8 (ys:=ts.map fun t=>.tuple [(stE t).1,(stE t).2]) (E6 (d:=.list (ts.map Q2)) (C7 (A7 rfl rfl) h) rfl) (by simp; lia) rfl (V6 Q2 _ (fun t=>O0 (A7 (B6 (x:=Q2 t) (y:=.int 0) rfl rfl (V2 _ _)) (A7 (O0 (A7 (B6 (x:=Q2 t) (y:=.int 1) rfl rfl (Et _ _ _)) (A7 (B6 (x:=Q2 t) (y:=.int 2) rfl rfl (Vu _ _ _ _)) rfl))) rfl))) _)),C6];show (if (ts.map fun t=>o3 [(stE t).1,(stE t).2]).length < 1000 then _ else _)=_;rw [if_pos (by simp; lia)];have:=Kj stE (fun a=>rfl) ts [] (by
   rw [yO]; refine hp.imp fun {a b} h=>?_;show (a.1==b.1)=false;rw [beq_eq_false_iff_ne]; exact h.2)
 rw [zX,yO] at this;rw [this]; rfl
noncomputable def Dk (ts us:List Row):List Str:=L6 ((us.map (·.1)).foldl G9 (ts.map (·.1)))
noncomputable def mvN (ts us:List Row):List Str:=(Dk ts us).filter fun n=>decide (lk ts n≠lk us n)
noncomputable def alk (ts us:List Row):List Str:=(ts.filter fun t=>decide (t∈us)).map (·.1)
noncomputable def mvD (ts us:List Row) (n:Str):wY:=.tuple [.str n,oD (lk ts n),oD (lk us n)]
noncomputable def bodyV:Dn->Out:=(sIf (C4 (b2 (Bp 2 (A0 5)) (Bp 3 (A0 5)) dNe)) (Y0 4 (F3 (A3 (A0 5) (A3 (Bp 2 (A0 5)) (A3 (Bp 3 (A0 5)) A8))))) E5)
theorem dI {ts:List Row} {i:Nat} {f:Dn->Res wY} {δ:Dn} {n:Str} (h1:kvN δ i=some (ts.map stE)) (h2:f δ=.ok (.str n)):Bp i f δ=.ok (oD (lk ts n)):=by
 unfold Bp;rw [h1];show (f δ).bind _=_;rw [h2,C6,if_pos (show nkD (zU n)=true from rfl),wB]
theorem pK (x0 x1:Sl) (ts us:List Row):∀ (ns:List Str) (T:List wY) (s5:Sl),T.length+ns.length<=100->∃ t5,E8 (st1 5) bodyV (ns.map .str) [x0,x1,oN (ts.map stE),oN (us.map stE),.ow (.list T),s5]=.nx [x0,x1,oN (ts.map stE),oN (us.map stE),.ow (.list (T++(ns.filter fun n=>decide (lk ts n≠lk us n)).map (mvD ts us))),t5]:=by
 intro iN; induction iN with
 | nil=>intro T s5 _; exact ⟨s5,by rw [List.filter_nil]; show _=Out.nx [x0,x1,_,_,.ow (.list (T++[])),s5]; rw [yL]; rfl⟩
 | cons n ns ih =>
   intro T s5 hl; rw [xP] at hl; have g1:Bp 2 (A0 5) [x0,x1,oN (ts.map stE),oN (us.map stE),.ow (.list T),.sh (.str n)]=.ok (oD (lk ts n)):=dI rfl rfl; have g2:Bp 3 (A0 5) [x0,x1,oN (ts.map stE),oN (us.map stE),.ow (.list T),.sh (.str n)]=.ok (oD (lk us n)):=dI rfl rfl; have gc:=C3 (B6 g1 g2 (oD_ne _ _));by_cases c:lk ts n≠lk us n
   . obtain ⟨t5,e⟩:=ih (T++[mvD ts us n]) (.sh (.str n)) (by rw [xN]; simp; lia)
     refine ⟨t5,?_⟩; rw [decide_eq_true c] at gc; refine (N3 rfl ((W1 gc).trans (Bs rfl (O0 (A7 rfl (A7 g1 (A7 g2 rfl)))) (by lia)))).trans (e.trans ?_);rw [yX,if_pos (decide_eq_true c),xJ,yI]; rfl
   . obtain ⟨t5,e⟩:=ih T (.sh (.str n)) (by lia)
     refine ⟨t5,?_⟩; rw [decide_eq_false c] at gc; refine (N3 rfl (Q7 gc)).trans (e.trans ?_); rw [yX,if_neg (by rw [decide_eq_false c]; decide)]
theorem Xr {b c:wY} {ts us:List Row} (h1:C9 [b]=.ok (ts.map stE)) (h2:C9 [c]=.ok (us.map stE)) (l1:ts.length<=3) (l2:us.length<=3) (n1:∀ t∈ts,Af t.1) (n2:∀ t∈us,Af t.1) :
   F7 [b,c]=.ok (.list ((mvN ts us).map (mvD ts us))):=by
 have tx:∀ vs:List Row,F4 ((vs.map stE).map (·.1))=some (vs.map (·.1)):=fun vs=>by
   rw [AG]; have:=Eu (vs.map (·.1)); rw [AG] at this; exact this
 have hs:∀ x0 x1 x4 x5:Sl,Mx 2 3 [x0,x1,oN (ts.map stE),oN (us.map stE),x4,x5]=.ok (.list ((Dk ts us).map .str)):=fun x0 x1 x4 x5=>by
   unfold Mx; show (match F4 ((ts.map stE).map (·.1)),F4 ((us.map stE).map (·.1)) with | some s1,some s2=>_ | _,_=>_)=_;rw [tx,tx]; show (if _ then _ else _)=_;rw [if_pos]
   . rfl
   . refine ⟨by rw [xG]; exact l1,by rw [xG]; exact l2,j9.mpr fun x hx=>?_⟩
     rcases xK.mp hx with h | h
     . obtain ⟨t,ht,rfl⟩:=yK.mp h; exact aL (n1 t ht)
     . obtain ⟨t,ht,rfl⟩:=yK.mp h; exact aL (n2 t ht)
 have hlen:(Dk ts us).length<=6:=by
   unfold Dk; rw [(E7 _).length_eq]; have:=Pk (us.map (·.1)) (ts.map (·.1)); rw [xG,xG] at this;lia
 obtain ⟨t5,e⟩:=pK (.sh b) (.sh c) ts us (Dk ts us) [] .un (by simp; lia);unfold F7 Ab;refine Y5 ?_;show B9 _ _ [.sh b,.sh c,.un,.un,.un,.un]=_;refine (B5 (δ':=[.sh b,.sh c,oN (ts.map stE),.un,.un,.un]) (by unfold W7 W0 Cq; rw [A7 (d:=b) (ds:=[]) rfl rfl,C6,h1]; rfl)).trans ?_;refine (B5 (δ':=[.sh b,.sh c,oN (ts.map stE),oN (us.map stE),.un,.un]) (by unfold W6 W0 Cq; rw [A7 (d:=c) (ds:=[]) rfl rfl,C6,h2]; rfl)).trans ?_;refine (B5 (δ':=[.sh b,.sh c,oN (ts.map stE),oN (us.map stE),.ow (.list []),.un]) rfl).trans ?_;refine (B5 (δ':=[.sh b,.sh c,oN (ts.map stE),oN (us.map stE),.ow (.list ((mvN ts us).map (mvD ts us))),t5]) ?_).trans rfl
 unfold W5 K9;rw [E6 (d:=.list ((Dk ts us).map .str)) (ds:=(Dk ts us).map .str) (hs _ _ _ _) rfl,D2];exact e
theorem Us {ts:List Row} (nd:(ts.map (·.1)).Nodup) {n:Str} {p:Nat×Nat}:lk ts n=some p↔(n,p)∈ts:=by
 induction ts with
 | nil=>exact ⟨(fun h=>nomatch h),(fun h=>nomatch h)⟩
 | cons t ts ih =>
   rw [xJ,zO] at nd; have ih:=ih nd.2; unfold lk at ih ⊢;rw [yS];by_cases c:t.1=n
   . rw [show (t.1==n)=true from beq_iff_eq.mpr c]
     show some t.2=some p↔_;rw [xD]; refine ⟨fun h=>.inl ?_,fun h=>?_⟩
     . rw [<- zB h,<- c]
     . rcases h with h | h
       . rw [<- h]
       . exact absurd (yK.mpr ⟨_,h,c.symm⟩) nd.1
   . rw [show (t.1==n)=false from beq_eq_false_iff_ne.mpr c]
     show LY _ (ts.find? _)=some p↔_;rw [ih,xD]; refine ⟨.inr,fun h=>h.elim (fun h=>absurd (by rw [<- h]) c) id⟩
theorem dB {ts:List Row} {n:Str}:lk ts n=none↔n∉ts.map (·.1):=by
 unfold lk;rw [Option.map_eq_none_iff,List.find?_eq_none,yK];refine ⟨fun h ⟨t,ht,e⟩=>h t ht (by rw [e]; exact beq_self_eq_true _),fun h t ht e=>h ⟨t,ht,beq_iff_eq.mp e⟩⟩
theorem mP {ts us:List Row} {n:Str}:n∈Dk ts us↔n∈ts.map (·.1)\/n∈us.map (·.1):=by
 unfold Dk;rw [(E7 _).mem_iff,Jh]
theorem alike {ts us:List Row} (n1:(ts.map (·.1)).Nodup) (n2:(us.map (·.1)).Nodup) {n:Str} (h:n∈Dk ts us):decide (lk ts n≠lk us n) = !decide (n∈alk ts us):=by
 have key:n∈alk ts us↔lk ts n=lk us n:=by
   unfold alk; rw [yK];constructor
   . rintro ⟨t,ht,rfl⟩
     obtain ⟨h1,h2⟩:=zT.mp ht; rw [(Us n1 (n:=t.1) (p:=t.2)).mpr h1,(Us n2 (n:=t.1) (p:=t.2)).mpr (of_decide_eq_true h2)]
   . intro e
     cases c:lk ts n with
     | none =>
       rw [c] at e; rcases mP.mp h with z | z
       . exact absurd z (dB.mp c)
       . exact absurd z (dB.mp e.symm)
     | some p =>
       rw [c] at e; exact ⟨(n,p),zT.mpr ⟨(Us n1).mp c,decide_eq_true ((Us n2).mp e.symm)⟩,rfl⟩
 by_cases c:lk ts n=lk us n
 . rw [decide_eq_true (key.mpr c),decide_eq_false (not_not_intro c)]; rfl
 . rw [decide_eq_false (fun z=>c (key.mp z)),decide_eq_true c]; rfl
theorem every {ts us:List Row} (n1:(ts.map (·.1)).Nodup):L6 (X0 (ts.map (·.1)++us.map (·.1)))=Dk ts us:=by
 unfold Dk X0;rw [FD,Yj _ [] (by simpa using n1),yO]
theorem Xh:∀ (A B:List Dp) (o:List IdP),Xi (A++B) o=Xi B (Xi A o)
 | [],_,_=>rfl
 | e::A,B,o=>Xh A B _
theorem Xg:∀ (R:List Dp) (o:List IdP),(∀ e∈R,∃ k x xs,e.1=.tuple (.str k::idP e.2::x::xs)/\k ≠ "undo")->Xi R o=o
 | [],_,_=>rfl
 | e::R,o,h=>by
   obtain ⟨k,x,xs,e1,e2⟩:=h e (.head _); show Xi R (Xk e o)=o;rw [Xj e1 e2]; exact Xg R o fun e he=>h e (.tail _ he)
noncomputable section
variable {L1 L2:List Dp} {B1 B2:List Ad} {ku1 kd1 ku2 kd2:Kvs} {R:List Dp}
theorem Two.un (D:Two L1 L2 B1 B2 ku1 kd1 ku2 kd2) (e:L2=L1++R) (h:∀ e∈R,∃ k x xs,e.1=.tuple (.str k::idP e.2::x::xs)/\k ≠ "undo"):(fun p=>(F9 ku2 (idP p)).isSome)=fun p=>(F9 ku1 (idP p)).isSome:=by
 funext p
 have h1:=D.P1.o p;have h2:=D.P2.o p;have:off L2=off L1:=by
   unfold off; rw [e,BX,Xh,Xg R.reverse [] fun x hx=>h x (List.mem_reverse.mp hx)]
 rw [this] at h2;exact h2.trans h1.symm
theorem Two.wasO (D:Two L1 L2 B1 B2 ku1 kd1 ku2 kd2) (hB:B1=B2) {u:As} (hu:u∈ord B2):Jq B1 ku1 kd1 u=F1 ku1 kd1 u:=by
 subst hB;exact Ph (Am D.A1.bk) _ hu
theorem Two.marks (D:Two L1 L2 B1 B2 ku1 kd1 ku2 kd2) (e:L2=L1++R) (hB:B1=B2) (h:∀ e∈R,∃ k x xs,e.1=.tuple (.str k::idP e.2::x::xs)/\k ≠ "undo") (h2:∀ e∈R,∃ k x xs,e.1=.tuple (.str k::idP e.2::x::xs)/\k ≠ "drop"):Yy B1 B2 ku1 kd1 ku2 kd2=[]:=by
 refine Ot (ord B2) 0 fun u hu=>?_;rw [D.wasO hB hu];have hun:=D.un e h;unfold F1 Sm.un;rw [congrFun hun u.1.p,D.P1.P.h,D.P2.P.h,e,List.any_append,hun];have:R.any (fun e=>Gu (fun p=>(F9 ku1 (idP p)).isSome) e (sgn u))=false:=by
   rw [FE]; intro x hx; obtain ⟨k,y,ys,e1,e2⟩:=h2 x hx; rw [Sv e1 e2]; decide
 rw [this,FI]
end
def Rf (n:Nat) (d:wY):Prop:=xT d d=true/\d.depth<=n
theorem Rf.all {n:Nat}:∀ {xs:List wY},(∀ x∈xs,Rf n x)->AF xs xs=true/\zS xs<=n:=by
 intro xs;induction xs with
 | nil=>intro _; exact ⟨rfl,c7 _⟩
 | cons x xs ih =>
   intro h; obtain ⟨i1,i2⟩:=ih fun y hy=>h y (.tail _ hy);obtain ⟨j1,j2⟩:=h x (.head _); rw [AF,zS,i1,j1]; exact ⟨rfl,by lia⟩
theorem Rf.list {n:Nat} {xs:List wY} (h:∀ x∈xs,Rf n x):Rf (n+1) (.list xs):=by
 obtain ⟨h1,h2⟩:=Rf.all h;exact ⟨h1,by rw [zQ]; lia⟩
theorem Rf.tup {n:Nat} {xs:List wY} (h:∀ x∈xs,Rf n x):Rf (n+1) (.tuple xs):=by
 obtain ⟨h1,h2⟩:=Rf.all h;exact ⟨h1,by rw [zQ]; lia⟩
theorem Rf.ne {n:Nat} {d:wY} (h:Rf n d) (hn:n<=62):dNe d d=some (.bool false):=by
 unfold dNe;rw [if_pos (xX (CK _ _) (xX h.2 (xX hn (by decide)))),h.1]; rfl
theorem Rf.str {n:Nat} (x:Str):Rf n (.str x):=⟨by simp [xT],by simp [zQ]⟩
theorem cE (u t:Row):xT (Q2 u) (Q2 t)=decide (u=t):=by
 obtain ⟨u1,u2,u3⟩:=u;obtain ⟨t1,t2,t3⟩:=t;simp only [xT,AF,Prod.mk.injEq];rw [m7];simp;lia
theorem vY (t:Row) (us:List Row):dIn false (Q2 t) (.list (us.map Q2))=some (.bool (decide (t∈us))):=by
 have h:((us.map Q2).any fun y=>xT y (Q2 t))=decide (t∈us):=by
   rw [HY,m7,j8,decide_eq_true_iff]; refine ⟨fun ⟨u,hu,e⟩=>?_,fun h=>⟨t,h,by show xT (Q2 t) (Q2 t)=true; rw [cE,decide_eq_true rfl]⟩⟩;have:xT (Q2 u) (Q2 t)=true:=e; rw [cE] at this; rw [<- of_decide_eq_true this]; exact hu
 rw [<- h];unfold dIn;simp only [];rw [if_pos (xX (p9 _ _) (by simp [zQ,zS])),if_neg (by decide)]
theorem fH (n:Str) (ms:List Str):dIn true (.str n) (.list (ms.map .str))=some (.bool (!decide (n∈ms))):=by
 have h:((ms.map zU).any fun y=>xT y (.str n))=decide (n∈ms):=by
   rw [HY,m7,j8,decide_eq_true_iff]; refine ⟨fun ⟨u,hu,e⟩=>?_,fun h=>⟨n,h,beq_self_eq_true n⟩⟩;have:(u==n)=true:=e; rw [<- beq_iff_eq.mp this]; exact hu
 rw [<- h];unfold dIn;simp only [];rw [if_pos (xX (p9 _ _) (by simp [zQ])),if_pos trivial]
theorem pJ (ms:List Str):dNe (.list (ms.map .str)) (.list (ms.map .str))=some (.bool false) :=
 (Rf.list (n:=1) fun x hx=>by obtain ⟨m,_,rfl⟩:=yK.mp hx; exact Rf.str m).ne (by decide)
theorem mks {L:List Dp} (W:BkW L) (hl:L.length<=9) {x y z:Str} (hn:∀ e∈L,Le x y z e.1) (t:Int):∃ ts:List Row,I9 [bkD (upT L t)]=.ok (.list (ts.map Q2))/\ts.Pairwise ltW/\ts.length<=3/\∀ t∈ts,Af t.1:=by
 have Wt:=nC W t;obtain ⟨B,A⟩:=wR Wt;obtain ⟨ku,kd,P⟩:=cJ (fun e he=>(Wt.1 e he).kd) (An hl t);obtain ⟨ts,h1,h2,_,h4⟩:=kX A Wt (x:=x) (y:=y) (z:=z) (fun e he=>hn e (zT.mp he).1) (An hl t) P;refine ⟨ts,h1,h2,?_,fun t ht=>(h4 t ht).2.2.1⟩;have:=wD (M:=[x,y,z]) (Uq h2) fun n hn'=>by
   obtain ⟨t,ht,rfl⟩:=yK.mp hn'; have:=(h4 t ht).2.2.2;simpa using this
 simpa using this
theorem wO {c:Dn->Res Bool} {δ:Dn} {b:Bool} (h:c δ=.ok b):Re c δ=.ok (!b):=by unfold Re; rw [h]; rfl
noncomputable def Vm:Dn->Out:=(B9 (D4 7 (C1 (A3 (A0 5) (A3 (A0 6) A8)) D6)) (B9 (D4 8 (C1 (A3 (A0 6) A8) E9)) (B9 (sIf (cOr (Re (C4 (C1 (A3 (C1 (A3 (A0 5) A8) E9) (A3 (A0 7) (A3 (A0 8) A8))) K3))) (C4 (b2 (C1 (A3 (C1 (A3 (A0 5) A8) E9) (A3 (A0 7) A8)) O3) (A0 8) dNe))) (K8 (vC (.bool false))) E5) (B9 (Os 9 (F5 (fun δ=>((C1 (A3 (A0 5) (A3 (A0 6) A8)) F7) δ).bind D9) E3 [] N6 (b2 (A0 0) (vC (.int 0)) dIx))) (B9 (D4 10 (C1 (A3 (A0 5) A8) I9)) (B9 (D4 11 (C1 (A3 (A0 6) A8) I9)) (B9 (D4 12 (K4 (F5 (fun δ=>((A0 10) δ).bind D9) E3 [11] (C4 (b2 (A0 0) (A0 1) (dIn false))) (b2 (A0 0) (vC (.int 0)) dIx)))) (B9 (D4 13 (vFn (A3 (K4 (F5 (fun δ=>((b2 (A0 10) (A0 11) C5) δ).bind D9) E3 [] N6 (b2 (A0 0) (vC (.int 0)) dIx))) A8) T6)) (sIf (C4 (b2 (A0 9) (K4 (F5 (fun δ=>((A0 13) δ).bind D9) E3 [12] (C4 (b2 (A0 0) (A0 1) (dIn true))) (A0 0))) dNe)) (K8 (vC (.bool false))) E5)))))))))
abbrev dK (x0 x1 x2 x3 x4 x5 x6 x7 x8 x9 x10 x11 x12 x13:Sl):Dn:=[x0,x1,x2,x3,x4,x5,x6,x7,x8,x9,x10,x11,x12,x13]
theorem pY {L:List Dp} (W:BkW L) (hl:L.length<=9) {x y z:Str} (hn:∀ e∈L,Le x y z e.1) {s t:Int} (h:s<=t) (x0 x1 x2 x3 x4 s7 s8 s9 s10 s11 s12 s13:Sl):∃ t7 t8 t9 t10 t11 t12 t13,
   Vm (dK x0 x1 x2 x3 x4 (.sh (bkD (upT L s))) (.sh (bkD (upT L t))) s7 s8 s9 s10 s11 s12 s13)=.nx (dK x0 x1 x2 x3 x4 (.sh (bkD (upT L s))) (.sh (bkD (upT L t))) t7 t8 t9 t10 t11 t12 t13):=by
 obtain ⟨B1,B2,ku1,kd1,ku2,kd2,R,D,eR,hR,hB⟩:=hZ W hl h;have y1:=Zn hl D.A1 D.P1.P;have y2:=Zn hl D.A2 D.P2.P;obtain ⟨e1,o1,l1⟩:=Tr W hl s;obtain ⟨e2,_,_⟩:=Tr W hl t;have hch:=D.ch;have hci:=D.ci;have happ:=D.app;obtain ⟨ee,hrr⟩:=D.rr;have ol:=X2 D.A2;have ul:=An hl t;rw [<- y1,<- y2] at hci happ;rw [<- y1] at hrr;have hok:∀ c∈Yy B1 B2 ku1 kd1 ku2 kd2,Ok c.2.2:=fun c hc=>(hci.ok c hc).2;have hsm:(txt L s).length+((Yy B1 B2 ku1 kd1 ku2 kd2).map fun c=>c.2.2.length).sum<=900:=by
   have:((Yy B1 B2 ku1 kd1 ku2 kd2).map fun c=>c.2.2.length).sum<=(ord B2).length:=hci.ns;lia
 have hcb:=aU o1 hrr hok hsm;have hrt:=jH o1 hrr hok hsm;rw [happ] at hcb hrt;obtain ⟨ts,m1,p1,q1,n1⟩:=mks W hl hn s;obtain ⟨us,m2,p2,q2,n2⟩:=mks W hl hn t;have hmv:=Xr (Ds m1 p1 (by lia)) (Ds m2 p2 (by lia)) q1 q2 n1 n2;generalize Yy B1 B2 ku1 kd1 ku2 kd2=cs at hch hcb hrt;have hal:mvN ts us=(Dk ts us).filter fun n => !decide (n∈alk ts us):=CP fun n hn=>alike (Uq p1) (Uq p2) hn;have hlen:(Dk ts us).length<=6:=by
   unfold Dk; rw [(E7 _).length_eq]; have:=Pk (us.map (·.1)) (ts.map (·.1)); rw [xG,xG] at this;lia
 have hml:(mvN ts us).length<=_:=AA _ (Dk ts us);refine ⟨.sh (.list (cs.map chD)),.sh (.str (mk (txt L t))),.sh (.list ((mvN ts us).map .str)),.sh (.list (ts.map Q2)),.sh (.list (us.map Q2)),.sh (.list ((alk ts us).map .str)),.sh (.list ((Dk ts us).map .str)),?_⟩;unfold Vm;refine (B5 (D3 (C7 (A7 rfl (A7 rfl rfl)) hch))).trans ?_;refine (B5 (D3 (C7 (A7 rfl rfl) e2))).trans ?_;refine (B5 ((Q7 (Vi (wO (b:=true) (C3 (C7 (A7 (C7 (A7 rfl rfl) e1) (A7 rfl (A7 rfl rfl))) hrt))) (C3 (B6 (x:=.str (mk (txt L t))) (y:=.str (mk (txt L t))) (C7 (A7 (C7 (A7 rfl rfl) e1) (A7 rfl rfl)) hcb) rfl (kM _))))).trans rfl)).trans ?_
 refine (B5 (δ':=dK x0 x1 x2 x3 x4 (.sh (bkD (upT L s))) (.sh (bkD (upT L t))) (.sh (.list (cs.map chD))) (.sh (.str (mk (txt L t)))) (.sh (.list ((mvN ts us).map .str))) s10 s11 s12 s13) ?_).trans ?_
 . unfold Os
   rw [I8 (ys:=(mvN ts us).map .str) (E6 (d:=.list ((mvN ts us).map (mvD ts us))) (C7 (A7 rfl (A7 rfl rfl)) hmv) rfl) (by rw [xG]; lia) rfl (V6 (mvD ts us) zU (fun n=>B6 (x:=mvD ts us n) (y:=.int 0) rfl rfl (V2 _ _)) _)];rfl
 refine (B5 (D3 (C7 (A7 rfl rfl) m1))).trans ?_;refine (B5 (D3 (C7 (A7 rfl rfl) m2))).trans ?_;refine (B5 (D3 (d:=.list ((alk ts us).map .str)) (P9 (I8 (δc:=[.sh (.list (us.map Q2))]) (E6 (d:=.list (ts.map Q2)) rfl rfl) (by rw [xG]; lia) rfl ?_)))).trans ?_
 . unfold alk
   rw [AG]; exact Ec Q2 (fun t=>zU t.1) (fun t=>decide (t∈us)) ts (fun t _=>C3 (B6 (x:=Q2 t) (y:=.list (us.map Q2)) rfl rfl (vY t us))) fun t _=>B6 (x:=Q2 t) (y:=.int 0) rfl rfl (V2 _ _)
 refine (B5 (D3 (d:=.list ((Dk ts us).map .str)) (W2 (ds:=[.list ((ts.map (·.1)++us.map (·.1)).map .str)]) (A7 (P9 (I8 (δc:=[]) (E6 (d:=.list ((ts++us).map Q2)) (B6 (x:=.list (ts.map Q2)) (y:=.list (us.map Q2)) rfl rfl ?_) rfl) ?_ rfl ?_)) rfl) ?_))).trans ?_
 . rw [Zh (by rw [xG,xG]; lia),yA]
 . rw [xG,xN]; lia
 . rw [<- yA,AG]
   exact V6 Q2 (fun t=>zU t.1) (fun t=>B6 (x:=Q2 t) (y:=.int 0) rfl rfl (V2 _ _)) _
 . rw [nQ _ (by rw [xN,xG,xG]; lia),every (Uq p1)]
 refine (Q7 (C3 (B6 (x:=.list ((mvN ts us).map .str)) (y:=.list ((mvN ts us).map .str)) rfl (P9 (I8 (δc:=[.sh (.list ((alk ts us).map .str))]) (E6 (d:=.list ((Dk ts us).map .str)) rfl rfl) (by rw [xG]; lia) rfl ?_)) (pJ _)))).trans rfl;rw [hal];exact Ec (tt:=C4 (b2 (A0 0) (A0 1) (dIn true))) (el:=A0 0) (δc:=[.sh (.list ((alk ts us).map .str))]) zU zU (fun n => !decide (n∈alk ts us)) (Dk ts us) (fun n _=>C3 (B6 (x:=.str n) (y:=.list ((alk ts us).map .str)) rfl rfl (fH n _))) fun n _=>rfl
theorem Rf.lit {n:Nat} {d:wY} (h:d=.none\/(∃ i,d=.int i)\/∃ x,d=.str x):Rf n d:=by
 rcases h with rfl | ⟨i,rfl⟩ | ⟨x,rfl⟩
 . exact ⟨rfl,by simp [zQ]⟩
 . exact ⟨by simp [xT],by simp [zQ]⟩
 . exact Rf.str x
theorem Rf.nl {n:Nat}:∀ x∈([]:List wY),Rf n x:=fun _ h=>nomatch h
theorem Rf.cs {n:Nat} {d:wY} {ds:List wY} (h:Rf n d) (t:∀ x∈ds,Rf n x):∀ x∈d::ds,Rf n x:=fun x hx=>(xD.mp hx).elim (fun e=>e▸h) (t x)
theorem Rf.up {n m:Nat} {d:wY} (h:Rf n d) (hm:n<=m):Rf m d:=⟨h.1,xX h.2 hm⟩
theorem Rf.id (p:IdP):Rf 1 (idP p):=Rf.tup (.cs (.lit (.inr (.inl ⟨_,rfl⟩))) (.cs (.str _) .nl))
theorem Rf.sg {T:Int} {ds:List wY} {d:wY} (h:SgOf T ds d):Rf 2 d:=by
 obtain ⟨p,b,w,n,_,rfl,_⟩:=h;exact Rf.tup (.cs (.id p) (.cs (.lit (.inr (.inl ⟨_,rfl⟩))) .nl))
theorem Rf.on {T:Int} {ds:List wY} {d:wY} (h:OrN (SgOf T ds) d):Rf 2 d:=h.elim (fun e=>.lit (.inl e)) .sg
theorem Rf.deed {L:List Dp} {e:Dp} (h:WfIn L e):Rf 4 e.1:=by
 obtain ⟨_,h⟩:=h;rcases h with ⟨b,w,q,hb,_⟩ | ⟨sg,q,hs,_⟩ | ⟨n,s1,x1,s2,x2,q,h1,h2,_⟩ | ⟨n,q,_⟩ | ⟨r,q,_⟩ <;> rw [q]
 . exact Rf.tup (.cs (.str _) (.cs ((Rf.id _).up (by decide)) (.cs ((Rf.on hb).up (by decide)) (.cs (.str _) .nl))))
 . exact Rf.tup (.cs (.str _) (.cs ((Rf.id _).up (by decide)) (.cs (Rf.tup (n:=2) fun x hx=>.sg (hs x hx)) .nl)))
 . exact Rf.tup (.cs (.str _) (.cs ((Rf.id _).up (by decide)) (.cs (.str _) (.cs (Rf.tup (n:=2) (.cs (.on h1) (.cs (.str _) .nl))) (.cs (Rf.tup (n:=2) (.cs (.on h2) (.cs (.str _) .nl))) .nl)))))
 . exact Rf.tup (.cs (.str _) (.cs ((Rf.id _).up (by decide)) (.cs (.str _) .nl)))
 . exact Rf.tup (.cs (.str _) (.cs ((Rf.id _).up (by decide)) (.cs ((Rf.id _).up (by decide)) .nl)))
theorem rF {L:List Dp} (W:BkW L):dEq (bkD L) (bkD L)=some (.bool true):=by
 have h:Rf 5 (bkD L):=Rf.tup (n:=4) fun x hx=>by obtain ⟨e,he,rfl⟩:=yK.mp hx; exact .deed (W.1 e he)
 unfold dEq;rw [if_pos (xX (CK _ _) (xX h.2 (by decide))),h.1]
theorem kN:dNe (.list []) (.list [])=some (.bool false):=rfl
theorem mF {xs:List wY} {k:Nat} (h:k<=xs.length):aT (.list xs) (some (k:Int)) none=some (.list (xs.drop k)):=by
 show some (FZ (Fs xs (some (k:Int)) none))=_;unfold Fs;rw [HT.sIx_nat,HT.sIx_none,Nat.min_eq_left h];congr 2;exact KW (by rw [AN]; exact xL _)
noncomputable section
variable {L:List Dp} (W:BkW L) (hl:L.length<=9) {x y z:Str} (hn:∀ e∈L,Le x y z e.1)
include W hl
theorem nS (s:Int):D6 [bkD (upT L s),bkD (upT L s)]=.ok (.list []):=by
 obtain ⟨B1,B2,ku1,kd1,ku2,kd2,R,D,eR,hR,hB⟩:=hZ W hl (IW s);have hR0:R=[]:=by
   have:=congrArg y4 eR; rw [xN] at this; exact i4 (by lia)
 subst hR0;have:=D.marks eR (hB fun e he=>nomatch he) (fun e he=>nomatch he) (fun e he=>nomatch he);rw [D.ch,this]; rfl
include hn
theorem nR (s:Int):F7 [bkD (upT L s),bkD (upT L s)]=.ok (.list []):=by
 obtain ⟨ts,m1,p1,q1,n1⟩:=mks W hl hn s;rw [Xr (Ds m1 p1 (by lia)) (Ds m1 p1 (by lia)) q1 q1 n1 n1,mvN,AY.mpr fun n _=>by simp]; rfl
abbrev bks (L:List Dp) (T:List Int):List wY:=T.map fun t=>bkD (upT L t)
theorem pZ (x0 x1 x2 x3 x4:Sl) (s:Int):∀ (T:List Int),(∀ t∈T,s<=t)->∀ s6 s7 s8 s9 s10 s11 s12 s13:Sl,∃ t6 t7 t8 t9 t10 t11 t12 t13,
   E8 (st1 6) Vm (bks L T) (dK x0 x1 x2 x3 x4 (.sh (bkD (upT L s))) s6 s7 s8 s9 s10 s11 s12 s13)=.nx (dK x0 x1 x2 x3 x4 (.sh (bkD (upT L s))) t6 t7 t8 t9 t10 t11 t12 t13):=by
 intro T;induction T with
 | nil=>intro _ s6 s7 s8 s9 s10 s11 s12 s13; exact ⟨s6,s7,s8,s9,s10,s11,s12,s13,rfl⟩
 | cons t T ih =>
   intro h s6 s7 s8 s9 s10 s11 s12 s13; obtain ⟨t7,t8,t9,t10,t11,t12,t13,e⟩:=pY W hl hn (h t (.head _)) x0 x1 x2 x3 x4 s7 s8 s9 s10 s11 s12 s13; obtain ⟨u6,u7,u8,u9,u10,u11,u12,u13,e'⟩:=ih (fun t ht=>h t (.tail _ ht)) (.sh (bkD (upT L t))) t7 t8 t9 t10 t11 t12 t13;exact ⟨u6,u7,u8,u9,u10,u11,u12,u13,(N3 rfl e).trans e'⟩
end
noncomputable def Vl:Dn->Out:=(B9 (K9 (fun δ=>((vSl (A0 3) (P0 (A0 4)) Y2) δ).bind D9) (st1 6) Vm) (sIf (cOr (C4 (b2 (C1 (A3 (A0 5) (A3 (A0 5) A8)) D6) (K4 A8) dNe)) (C4 (b2 (C1 (A3 (A0 5) (A3 (A0 5) A8)) F7) (K4 A8) dNe))) (K8 (vC (.bool false))) E5))
noncomputable section
variable {L:List Dp} (W:BkW L) (hl:L.length<=9) {x y z:Str} (hn:∀ e∈L,Le x y z e.1)
include W hl hn
theorem kB (x0 x1 x2:Sl) {T0:List Int} (hu:T0.Pairwise (· < ·)):∀ (T P:List Int),P++T=T0->∀ s4 s5 s6 s7 s8 s9 s10 s11 s12 s13:Sl,∃ t4 t5 t6 t7 t8 t9 t10 t11 t12 t13,
   E8 (st2 4 5) Vl (T.mapIdx fun i t=>.tuple [.int ((P.length+i:Nat):Int),bkD (upT L t)]) (dK x0 x1 x2 (.sh (.list (bks L T0))) s4 s5 s6 s7 s8 s9 s10 s11 s12 s13)=.nx (dK x0 x1 x2 (.sh (.list (bks L T0))) t4 t5 t6 t7 t8 t9 t10 t11 t12 t13):=by
 intro T;induction T with
 | nil=>intro P _ s4 s5 s6 s7 s8 s9 s10 s11 s12 s13; exact ⟨s4,s5,s6,s7,s8,s9,s10,s11,s12,s13,rfl⟩
 | cons s T ih =>
   intro P hP s4 s5 s6 s7 s8 s9 s10 s11 s12 s13; have hdrop:(bks L T0).drop P.length=bks L (s::T):=by
     rw [<- hP]; unfold bks; rw [yA]; have:P.length=(bks L P).length:=by rw [xG]
     rw [this,JM]
   have hpl:P.length<=(bks L T0).length:=by rw [<- hP,xG,xN]; lia
   have hle:∀ t∈s::T,s<=t:=fun t ht=>by
     rw [<- hP,n4] at hu; rcases xD.mp ht with rfl | ht
     . exact IW _
     . exact LS ((yQ.mp hu.2.1).1 t ht)
   obtain ⟨t6,t7,t8,t9,t10,t11,t12,t13,e⟩:=pZ W hl hn x0 x1 x2 (.sh (.list (bks L T0))) (.sh (.int (P.length:Int))) s (s::T) hle s6 s7 s8 s9 s10 s11 s12 s13; obtain ⟨u4,u5,u6,u7,u8,u9,u10,u11,u12,u13,e'⟩:=ih (P++[s]) (by rw [yI]; exact hP) (.sh (.int (P.length:Int))) (.sh (bkD (upT L s))) t6 t7 t8 t9 t10 t11 t12 t13;refine ⟨u4,u5,u6,u7,u8,u9,u10,u11,u12,u13,?_⟩; rw [List.mapIdx_cons]; refine (N3 (δ1:=dK x0 x1 x2 (.sh (.list (bks L T0))) (.sh (.int (P.length:Int))) (.sh (bkD (upT L s))) s6 s7 s8 s9 s10 s11 s12 s13) (δ':=dK x0 x1 x2 (.sh (.list (bks L T0))) (.sh (.int (P.length:Int))) (.sh (bkD (upT L s))) t6 t7 t8 t9 t10 t11 t12 t13) rfl ?_).trans (Eq.trans ?_ e')
   . unfold Vl
     refine (B5 (δ':=dK x0 x1 x2 (.sh (.list (bks L T0))) (.sh (.int (P.length:Int))) (.sh (bkD (upT L s))) t6 t7 t8 t9 t10 t11 t12 t13) ?_).trans ((Q7 (Vi (C3 (B6 (C7 (A7 rfl (A7 rfl rfl)) (nS W hl s)) rfl kN)) (C3 (B6 (C7 (A7 rfl (A7 rfl rfl)) (nR W hl hn s)) rfl kN)))).trans rfl); unfold K9; rw [E6 (d:=.list (bks L (s::T))) (ds:=bks L (s::T)) (hE (x:=.list (bks L T0)) (l:=some (P.length:Int)) (u:=none) rfl (Db rfl) rfl (by rw [mF hpl,hdrop])) rfl,D2];exact e
   . congr 2
     funext i t
     rw [xN,GD,Nat.add_assoc,Nat.add_comm 1 i]
end
theorem nH {L:List Dp} (hl:L.length<=9):T6 [.list (((L.map fun e:Dp=>e.2.1)++[0]).map k8)]=some (.list ((tms L).map .int)):=by
 rw [bX _ (by simp; lia)];have:Cv (X0 ((L.map fun e=>e.2.1)++[0]))=tms L:=by
   refine Na (((U3 _).trans ((EO (Hw _) (Hw _)).mpr fun x=>?_)).trans (U3 _).symm) (Ij _) (Ij _);rw [Jj,Jj,xK,xM,xD,or_comm]
 rw [this]
theorem jO (ns:List Int) (hns:ns.length<=63):dA [.list (ns.map k8)]=.ok (.bool true):=by
 obtain ⟨x,y,z,hxyz,en⟩:=kO ns hns 0;obtain ⟨L,eb,hl,W,hn⟩:=rD ns hns x y z hxyz;obtain ⟨N,n1,n2,n3,et⟩:=iJ W hl;have hk:∀ e∈L,Kd e:=fun e he=>(W.1 e he).kd;have hup:=iE L;have hne:tms L≠[]:=fun e=>by
   have:(0:Int)∈tms L:=Fv.mpr (.inl rfl); rw [e] at this; exact nomatch this
 obtain ⟨T,t,hT⟩:∃ T t,tms L=T++[t]:=⟨_,_,(BD hne).symm⟩;have hlast:∀ e∈L,e.2.1<=t:=fun e he=>by
   have:e.2.1∈tms L:=Fv.mpr (.inr ⟨e,he,rfl⟩); rw [hT] at this hup; rcases xK.mp this with h | h
   . exact LS ((n4.mp hup).2.2 _ h t (.head _))
   . rw [xM.mp h]; exact IW _
 have ht:∃ k:Nat,t=(k:Int)/\k < N:=by
   have:t∈tms L:=by rw [hT]; simp
   rcases Fv.mp this with rfl | ⟨e,he,rfl⟩
   . exact ⟨0,rfl,n1⟩
   . have h1:=(show Wf _ _ _ _ from W.1 e he).1.1
     have:=n3 e he; exact ⟨e.2.1.toNat,by lia,by lia⟩
 obtain ⟨k,rfl,hkN⟩:=ht;have hall:=sQ hlast;have htx:=(Tr W hl (k:Int)).1;rw [hall] at htx;obtain ⟨t4,t5,t6,t7,t8,t9,t10,t11,t12,t13,el⟩:=kB W hl hn (.sh (scr ns)) (.sh (bkD L)) (.sh (.list ((tms L).map .int))) hup (tms L) [] rfl .un .un .un .un .un .un .un .un .un .un;refine Y5 ?_;show B9 _ _ [.sh (scr ns),.un,.un,.un,.un,.un,.un,.un,.un,.un,.un,.un,.un,.un]=_;refine (B5 (D3 (C7 (A7 rfl (A7 rfl (A7 rfl (A7 (C7 (A7 rfl (A7 rfl rfl)) en) rfl)))) eb))).trans ?_;refine (B5 (D3 (d:=.list ((tms L).map .int)) (W2 (ds:=[.list (((L.map fun e:Dp=>e.2.1)++[0]).map k8)]) (A7 (B6 (x:=.list (L.map fun e=>.int e.2.1)) (y:=.list [.int 0]) (P9 (I8 (δc:=[]) (E6 (d:=bkD L) rfl rfl) (by simp; lia) rfl ?_)) rfl ?_) rfl) (nH hl)))).trans ?_
 . have:=Ec (tt:=N6) (el:=b2 (b2 (A0 0) (vC (.int 1)) dIx) (vC (.int 0)) dIx) (δc:=[]) (fun e:Dp=>e.1) (fun e=>.int e.2.1) (fun _=>true) L (fun _ _=>rfl) fun e he=>Ts (hk e he) _
   rw [v7.mpr (fun _ _=>rfl)] at this;exact this
 . rw [Zh (by simp; lia),yA,AG]; rfl
 have htl:(tms L).length<=10:=by
   have h1:=Pn (0::L.map fun e=>e.2.1);have h2:=(U3 (X0 (0::L.map fun e=>e.2.1))).length_eq;rw [xP,xG] at h1; show (Cv _).length<=10;lia
 refine (B5 (δ':=dK (.sh (scr ns)) (.sh (bkD L)) (.sh (.list ((tms L).map .int))) (.sh (.list (bks L (tms L)))) .un .un .un .un .un .un .un .un .un .un) ?_).trans ?_
 . unfold Nf Os
   rw [I8 (δc:=[.sh (bkD L)]) (ys:=bks L (tms L)) (E6 (d:=.list ((tms L).map .int)) rfl rfl) (by rw [xG]; lia) rfl (V6 k8 (fun t=>bkD (upT L t)) (fun t=>C7 (A7 rfl (A7 rfl rfl)) (sN hk hl t)) _)];rfl
 refine (B5 (δ':=dK (.sh (scr ns)) (.sh (bkD L)) (.sh (.list ((tms L).map .int))) (.sh (.list (bks L (tms L)))) t4 t5 t6 t7 t8 t9 t10 t11 t12 t13) ?_).trans ?_
 . unfold Nd
   show K9 _ (st2 4 5) Vl _=_;unfold K9; have:((A3 (A0 3) A8) (dK (.sh (scr ns)) (.sh (bkD L)) (.sh (.list ((tms L).map .int))) (.sh (.list (bks L (tms L)))) .un .un .un .un .un .un .un .un .un .un)).bind Ji=.ok ((tms L).mapIdx fun i t=>.tuple [.int ((([]:List Int).length+i:Nat):Int),bkD (upT L t)]):=by
     rw [A7 (d:=.list (bks L (tms L))) (ds:=[]) rfl rfl,C6];show Res.ok (En _)=_;unfold En;congr 1;apply IH
     . simp
     . intro i _ _; simp
   refine (congrArg (fun r=>M9 r _) this).trans ?_;exact el
 . refine N1 ?_
   have e1:(b2 (b2 (A0 3) (b1 (vC (.int 1)) Dh) dIx) (A0 1) dEq) (dK (.sh (scr ns)) (.sh (bkD L)) (.sh (.list ((tms L).map .int))) (.sh (.list (bks L (tms L)))) t4 t5 t6 t7 t8 t9 t10 t11 t12 t13)=.ok (.bool true) :=
     B6 (x:=bkD L) (y:=bkD L) (B6 (x:=.list (bks L (tms L))) (y:=.int (-1)) rfl rfl (by rw [hT]; unfold bks; rw [yA]; refine Mr.trans ?_; show some (bkD (upT L (k:Int)))=_; rw [hall])) rfl (rF W)
   have e2:(b2 (b2 (C1 (A3 (A0 1) A8) W8) (b2 (A0 2) (b1 (vC (.int 1)) Dh) dIx) dIx) (C1 (A3 (A0 1) A8) E9) dEq) (dK (.sh (scr ns)) (.sh (bkD L)) (.sh (.list ((tms L).map .int))) (.sh (.list (bks L (tms L)))) t4 t5 t6 t7 t8 t9 t10 t11 t12 t13)=.ok (.bool true) :=
     B6 (x:=txD L (k:Int)) (y:=.str (mk (txt L (k:Int)))) (B6 (x:=.list (TX L N)) (y:=.int (k:Int)) (C7 (A7 rfl rfl) et) (B6 (x:=.list ((tms L).map .int)) (y:=.int (-1)) rfl rfl (by rw [hT,yA]; exact Mr)) (by
       refine (O5 (xs:=TX L N) (j:=k) (by rw [Pz]; exact hkN)).trans ?_;simp)) (C7 (A7 rfl rfl) htx) (by rw [Gg,beq_self_eq_true])
   rw [sP _ _ _ e1,e2]
end Sm
end
namespace Sm
open PySem PySem.Spec PyProof.Rows L2
noncomputable def N4 (P:HU) (x:Str) (t:Nat) (v:xB):zL:=⟨PyData.keyHash P x,.str x t,v⟩
noncomputable def oY (i:Nat):Str:=match top i with | .FunctionDef n _ _ _ _ _ _ _ _ _=>n | _ => ""
noncomputable def U5 (i:Nat) (m:xB) (c:Nat):Obj:=⟨.type "function",none,.func (zV (oY i) (oY i) (M0 (top i)) (B7 (top i)) (A6 (top i)) .none .none .none m none (.ref c) .none),#[]⟩
noncomputable def U6 (i t:Nat) (l a:Int) (r:Nat) (u v w:xB) (n:Nat):Obj:=⟨.type "code",none,.fields #[.str (oY i) t,.str (oY i) (t+1),.str "/claim/cut.py" (t+2),.int l 0,.int a 0,.int 0 0,.int 0 0,.int 3 0,.ref r,.bool true,.int 181 0,.ref (r+1),.none,u,v,w,.int n 0,.int l 0,.str "/claim/cut.py" (n+1)],#[]⟩
noncomputable def owM0 (P:HU):List zL:=[N4 P "__name__" 165 (.str "law_staymark_k61_whole_changes" 373),N4 P "__doc__" 166 .none,N4 P "__package__" 167 .none,N4 P "__loader__" 168 (.builtin "__main__.__loader__#opaque"),N4 P "__spec__" 169 .none,N4 P "__annotations__" 170 (.ref 6),N4 P "__builtins__" 171 (.ref 4),N4 P "__file__" 173 (.str "/claim/cut.py" 172),N4 P "__cached__" 174 .none,N4 P "SIDES" 190 (.str "lr" 189),N4 P "signs_added" 197 (.ref 21)]
noncomputable def owM1 (P:HU):List zL:=[N4 P "adds_behind" 208 (.ref 28),N4 P "signs_of" 214 (.ref 33),N4 P "undone_in" 223 (.ref 40),N4 P "dropped_in" 234 (.ref 47),N4 P "presence_in" 245 (.ref 54),N4 P "shown_in" 251 (.ref 59),N4 P "text_of" 257 (.ref 64),N4 P "places_in" 270 (.ref 71),N4 P "anchored" 278 (.ref 78),N4 P "mark_deeds" 284 (.ref 83),N4 P "marks_of" 295 (.ref 90)]
noncomputable def owM2 (P:HU):List zL:=[N4 P "grown" 306 (.ref 97),N4 P "changes_between" 312 (.ref 102),N4 P "changed_by" 323 (.ref 109),N4 P "stretches_by_names" 329 (.ref 114),N4 P "moved_marks" 341 (.ref 121),N4 P "as_of" 349 (.ref 126),N4 P "times_of" 355 (.ref 131),N4 P "text_at" 363 (.ref 138),N4 P "texts_of" 372 (.ref 145),N4 P "_law_cell" 382 (.ref 152),N4 P "_law_drawn" 392 (.ref 159)]
noncomputable def owM3 (P:HU):List zL:=[N4 P "_law_names" 403 (.ref 166),N4 P "_law_words" 409 (.ref 171),N4 P "_law_signs" 415 (.ref 176),N4 P "_law_anchor" 425 (.ref 183),N4 P "_law_deed" 431 (.ref 188),N4 P "_law_book" 437 (.ref 193),N4 P "_law_is_right" 450 (.ref 200),N4 P "law" 456 (.ref 205)]
noncomputable def ownK (P:HU):xF :=
 (nat_lit 3,⟨.type "dict",none,.dict (owM0 P++owM1 P++owM2 P++owM3 P).toArray 41,#[]⟩) ::
 (nat_lit 20,U6 2 191 3 1 15 (.ref 17) (.ref 18) (.ref 19) 195) ::
 (nat_lit 21,U5 2 (.str "staymark.deeds" 187) 20) ::
 (nat_lit 27,U6 4 200 6 1 22 (.ref 24) (.ref 25) (.ref 26) 206) ::
 (nat_lit 28,U5 4 (.str "staymark.orders" 198) 27) ::
 (nat_lit 32,U6 5 209 12 1 29 .none .none (.ref 31) 212) ::
 (nat_lit 33,U5 5 (.str "staymark.orders" 198) 32) ::
 (nat_lit 39,U6 6 215 26 1 34 (.ref 36) (.ref 37) (.ref 38) 221) ::
 (nat_lit 40,U5 6 (.str "staymark.orders" 198) 39) ::
 (nat_lit 46,U6 7 224 32 2 41 (.ref 43) (.ref 44) (.ref 45) 232) ::
 (nat_lit 47,U5 7 (.str "staymark.orders" 198) 46) ::
 (nat_lit 53,U6 8 235 39 1 48 (.ref 50) (.ref 51) (.ref 52) 243) ::
 (nat_lit 54,U5 8 (.str "staymark.orders" 198) 53) ::
 (nat_lit 58,U6 9 246 46 1 55 .none .none (.ref 57) 249) ::
 (nat_lit 59,U5 9 (.str "staymark.orders" 198) 58) ::
 (nat_lit 63,U6 10 252 48 1 60 .none .none (.ref 62) 255) ::
 (nat_lit 64,U5 10 (.str "staymark.orders" 198) 63) ::
 (nat_lit 70,U6 12 260 51 1 65 (.ref 67) (.ref 68) (.ref 69) 268) ::
 (nat_lit 71,U5 12 (.str "staymark.marks" 258) 70) ::
 (nat_lit 77,U6 13 271 61 2 72 (.ref 74) (.ref 75) (.ref 76) 276) ::
 (nat_lit 78,U5 13 (.str "staymark.marks" 258) 77) ::
 (nat_lit 82,U6 14 279 63 1 79 .none .none (.ref 81) 282) ::
 (nat_lit 83,U5 14 (.str "staymark.marks" 258) 82) ::
 (nat_lit 89,U6 15 285 70 1 84 (.ref 86) (.ref 87) (.ref 88) 293) ::
 (nat_lit 90,U5 15 (.str "staymark.marks" 258) 89) ::
 (nat_lit 96,U6 17 298 78 3 91 (.ref 93) (.ref 94) (.ref 95) 304) ::
 (nat_lit 97,U5 17 (.str "staymark.changes" 296) 96) ::
 (nat_lit 101,U6 18 307 82 2 98 .none .none (.ref 100) 310) ::
 (nat_lit 102,U5 18 (.str "staymark.changes" 296) 101) ::
 (nat_lit 108,U6 19 313 101 2 103 (.ref 105) (.ref 106) (.ref 107) 321) ::
 (nat_lit 109,U5 19 (.str "staymark.changes" 296) 108) ::
 (nat_lit 113,U6 20 324 107 1 110 .none .none (.ref 112) 327) ::
 (nat_lit 114,U5 20 (.str "staymark.changes" 296) 113) ::
 (nat_lit 120,U6 21 330 109 2 115 (.ref 117) (.ref 118) (.ref 119) 339) ::
 (nat_lit 121,U5 21 (.str "staymark.changes" 296) 120) ::
 (nat_lit 125,U6 23 344 118 2 122 .none .none (.ref 124) 347) ::
 (nat_lit 126,U5 23 (.str "staymark.history" 342) 125) ::
 (nat_lit 130,U6 24 350 120 1 127 .none .none (.ref 129) 353) ::
 (nat_lit 131,U5 24 (.str "staymark.history" 342) 130) ::
 (nat_lit 137,U6 25 356 122 2 132 (.ref 134) (.ref 135) (.ref 136) 361) ::
 (nat_lit 138,U5 25 (.str "staymark.history" 342) 137) ::
 (nat_lit 144,U6 26 364 124 1 139 (.ref 141) (.ref 142) (.ref 143) 370) ::
 (nat_lit 145,U5 26 (.str "staymark.history" 342) 144) ::
 (nat_lit 151,U6 28 375 132 2 146 (.ref 148) (.ref 149) (.ref 150) 380) ::
 (nat_lit 152,U5 28 (.str "law_staymark_k61_whole_changes" 373) 151) ::
 (nat_lit 158,U6 29 383 136 3 153 (.ref 155) (.ref 156) (.ref 157) 390) ::
 (nat_lit 159,U5 29 (.str "law_staymark_k61_whole_changes" 373) 158) ::
 (nat_lit 165,U6 30 393 140 2 160 (.ref 162) (.ref 163) (.ref 164) 401) ::
 (nat_lit 166,U5 30 (.str "law_staymark_k61_whole_changes" 373) 165) ::
 (nat_lit 170,U6 31 404 146 2 167 .none .none (.ref 169) 407) ::
 (nat_lit 171,U5 31 (.str "law_staymark_k61_whole_changes" 373) 170) ::
 (nat_lit 175,U6 32 410 148 1 172 .none .none (.ref 174) 413) ::
 (nat_lit 176,U5 32 (.str "law_staymark_k61_whole_changes" 373) 175) ::
 (nat_lit 182,U6 33 416 154 3 177 (.ref 179) (.ref 180) (.ref 181) 423) ::
 (nat_lit 183,U5 33 (.str "law_staymark_k61_whole_changes" 373) 182) ::
 (nat_lit 187,U6 34 426 157 5 184 .none .none (.ref 186) 429) ::
 (nat_lit 188,U5 34 (.str "law_staymark_k61_whole_changes" 373) 187) ::
 (nat_lit 192,U6 35 432 172 4 189 .none .none (.ref 191) 435) ::
 (nat_lit 193,U5 35 (.str "law_staymark_k61_whole_changes" 373) 192) ::
 (nat_lit 199,U6 36 438 184 3 194 (.ref 196) (.ref 197) (.ref 198) 448) ::
 (nat_lit 200,U5 36 (.str "law_staymark_k61_whole_changes" 373) 199) ::
 (nat_lit 204,U6 37 451 192 1 201 .none .none (.ref 203) 454) ::
 (nat_lit 205,U5 37 (.str "law_staymark_k61_whole_changes" 373) 204)::[]
end Sm
set_option maxRecDepth 100000 in
set_option maxHeartbeats 0 in
theorem PySem.Challenge.cw_staymark_k61_whole_changes_holds : PySem.Challenge.rw_staymark_k61_whole_changes.Holds := by
 w_on; o_law; o_head (PySem.W.kHook Sm.ownK [3,20,21,27,28,32,33,39,40,46,47,53,54,58,59,63,64,70,71,77,78,82,83,89,90,96,97,101,102,108,109,113,114,120,121,125,126,130,131,137,138,144,145,151,152,158,159,165,166,170,171,175,176,182,183,187,188,192,193,199,200,204,205] (fun _=>by kernel_rfl)); (case hw=>w_witness2)
 k_fill
 refine Sm.walkD (l:=PySem.Challenge.rw_staymark_k61_whole_changes) rfl rfl rfl (fun w h Y=>PySem.W.kIn_of Y) (fun w=>?hK) ?F Sm.jO
 case hK=>kernel_rfl
 case F =>
   intro w mg h KX G; refine' ⟨⟨?b0,?b1,?b2,?b3,?b4,?b5,?b6,?b7,?b8,?b9,?c0⟩,⟨?d30,?d0,?d1,?d2,?d3,?d4,?d5,?d6,?d7,?d8,?d9,?d10,?d11,?d12,?d13,?d14,?d15,?d16,?d17,?d18,?d19,?d20,?d21,?d22,?d23,?d24,?d25,?d26,?d27,?d28,?d29⟩⟩
   case b0 | b1 | b2 | b3 | b4 | b5 | b6 | b7 | b8 | b9=>exact PySem.W.mg_none_of KX G (by k_is)
   case c0=>exact ⟨_,(PySem.W.mg_of KX G (by k_is)).trans rfl⟩
   case d0 | d1 | d2 | d3 | d5 | d6 | d7 | d8 | d10 | d11 | d15 | d18 | d20 | d25 | d30=>exact Sm.qN KX G (by k_is) (by k_is) (by k_is) (by k_is) (fun _ _ _ _ _ _ _=>rfl) rfl
   case d4 | d9 | d13 | d14 | d16 | d17 | d19 | d21 | d23 | d24=>exact Sm.qM KX G (by k_is) (by k_is) (by k_is) (by k_is) (fun _ _ _ _ _ _ _ _=>rfl) rfl
   case d12 | d22 | d26 | d29=>exact Sm.qL KX G (by k_is) (by k_is) (by k_is) (by k_is) (fun _ _ _ _ _ _ _ _ _=>rfl) rfl
   case d27=>exact Sm.qJ KX G (by k_is) (by k_is) (by k_is) (by k_is) (fun _ _ _ _ _ _ _ _ _ _ _=>rfl) rfl
   case d28=>exact Sm.qK KX G (by k_is) (by k_is) (by k_is) (by k_is) (fun _ _ _ _ _ _ _ _ _ _=>rfl) rfl
