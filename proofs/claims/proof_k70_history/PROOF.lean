import PyProof.Rows.All
import Wide.All
import OpenK.AllK
import Wide.FinOn
import Lean
import PyProof.EqAt
import PyProof.EqKinds
import PyProof.TupleCall
import PyProof.AttrMiss
import PyProof.IsiH_list
import PySem.SetOps
import PyProof.SetScanFacts
import PyProof.SetKind
import PyProof.IsRules
import PyProof.TupleKey
import PyProof.P3Eq
import Wide.Seal
import PyProof.StrCalls
import PyProof.SeqI3
import PyProof.Draws
import PyProof.EnumMake
import PyProof.DictValues
import PyProof.DictWalks
import PyProof.TupleOfSeq
import PyProof.TupleOfGen
import KE.KDictList
import KE.KRevIter
import PyProof.MinMaxWalk
import PyProof.Rows.CallKwBuiltin
import KE.KSortTup
import PyProof.Rows.SortWalk
import PyProof.Rows.SortShell
import PyProof.DictIter
import PyProof.P3In
import PyProof.Rows.SortStr
import PyProof.MeetsStr
import PyProof.FactsAll.str_6
import PyProof.StrCalls2
import PyProof.MeetsStr2
import KE.KIntText
import PyProof.SliceStr2
import PyProof.Rows.Range3
import PyProof.FactsAll.list_3
import PyProof.FString4
import PyProof.ZipIter
import PyProof.ListNew
import PyProof.SetRoads
import PyProof.Rows.SetFrom
import PyProof.SetNew
import PyProof.WalksMore
import PySem.Challenge.RW_staymark_k70_history
set_option Elab.async false
set_option linter.all false
set_option maxRecDepth 100000
set_option maxHeartbeats 4000000
set_option compiler.extract_closed false
set_option bootstrap.genMatcherCode false
set_option genSizeOf false
local macro_rules | `(⋯) => `(by kernel_rfl)
open PySem renaming PyData→uV,wpAny_bind→uW,wpAny_pure→uX,Value→uY,Shared→uZ,Spec→vE,Addr→vG,starEach→vI,model→vS,Program→vU,World→wD,wpAny_newObj_type→wH,Heap→wT,wpAny_call_entry→wV,wpAny_holding→wZ,wpAny_callSpecial?_slot→xA,Around→xD,DictEntry→xP,wpAny_mono→xT,mainGlobals→xZ,Builtin→yA,Paired→yC,compareOp→yG,wpAny_dictEpoch→yK,backTo→yL,wpAny_rule→yN,foldedSetIterable→yO,wpAny_loadPart'→yU,codeAny_builtin→yV,builtinLookup_eq_fast→yZ,cLine→zE,wpAny_attempt→zK,wpAny_setState_of→zM,SetTable→zN,swapsWith→zX,wpAny_truthy_bool→a9,relabel→c6,CmpOp→c8,wpAny_specialOf→c9,sysModules→f8,wpAny_of_eq→i6,attributeBase→i7,typeLookup_type→j0,mem_of_lookup→j4,wpAny_field→j5,sizeLine_eq→j6,Stmt→k8,wpAny_typeNameOfWhole_keyiter→m9,wpAny_Call_Name_kw→n6,rawInt→n8,codeAny_mono→o0,bootBuiltins→p0,wpAny_passesOwn→q9,wpAny_ite_split→s0,SetTable→t9,wpAny_dictEntries→u9,Keyword→x8,isSubtype_type→AA,wpAny_isInstance→AC,wpAny_askSetting→AD,wpAny_setEntries_of→AI,plainId_quiet→AL,FuncData→AM,wpAny_setField_rec→AV,keywordEach→AX,wpAny_typeOf→BD,wpAny_sequenceKey→BE,wpAny_fieldsOf→BF,getItem→BG,firstArgMember→BH,codeAny→BI,wpAny_notOrdered_dict→BP,wpAny_forIn_list→BR,sliceBounds→BX,codeAny_call_builtin→BY,scanBound→CQ,wpAny_setField→CW,call_meets→CZ,NameKind→DC,wpAny_pyIter_slot→DM,wpAny_pyIter_list→DP,bindArgs→EG,backToKw→EI,typeLookup→ER,builtinsNs→ES,IsPart→EU,wpAny_execs_nil→EW,letOwnedTupleGo→EX,wpAny_isOneOf_keyiter→FA,binaryOp→FO,Params→FQ,wpAny_call→GI,assignEach→GL,slot_list_getitem→GT,slotArgs→GU,setField→GV,relayAll→GW,intKind→GX,entryFor→GY,callerA→GZ,call_meetsIn→HA,Model→HF,wpAny_execs_cons→HP,pyIter→HQ,noFill_tuple_add→HR,entryFor_of_tree→HS,beq_builtin_none→HU,argsOk→HV,subscripted→HZ,codeAny_of_tree→IF,setNext→IL,wpAny_seqItems→IM,wpAny_runValue→IN,wpAny_load→IP,isSubtype_stop→IT,entryFor_alias→IV,carriedByValue→IW,ReadsAll→JA,GenState→JK,strLen_append→JN
open List renaming length_map→vA,mem_cons→vF,map_cons→vK,size_toArray→vO,length_cons→vP,mem_singleton→vQ,mem_append→vT,replicate→vW,getElem?_eq_some_iff→vY,set_cons_zero→vZ,set_cons_succ→wA,length_append→wB,getElem?_eq_getElem→wC,getElem?_map→wE,mem_map→wF,map_append→wI,find?_cons→wO,pairwise_cons→wP,append_nil→wQ,append_assoc→wR,range→wS,mem_filter→wW,getElem?_append_left→wY,nil_append→xB,length_filter_le→xC,getElem?_append_right→xE,mem_cons_self→xK,mem_cons_of_mem→xL,length_eq_zero_iff→xN,length_nil→xR,mem_map_of_mem→xV,cons_append→xY,getElem?_eq_none→yI,mem_range→yQ,mem_of_getElem?→yR,mem_append_right→yY,getElem?_replicate→zB,filter_cons→zC,replicate_succ→zF,filter_eq_self→zG,filterMap_cons→zH,nodup_cons→zI,drop_eq_getElem_cons→zO,map_map→zS,pairwise_append→zW,map_nil→c7,pairwise_singleton→j8,getElem?_cons_zero→j9,all_eq_true→k6,length_replicate→n5,flatten_cons→p6,ext_getElem?→p7,getElem?_set_ne→u6,getD_eq_getElem?_getD→u7,map_congr_left→z8,length_reverse→z9,foldl_cons→AG,reverse_cons→AQ,nodup_append→AR,getElem?_set_self→AS,filter_eq_nil_iff→AT,drop_eq_nil_of_le→AU,not_mem_nil→BA,getElem_mem→BB,any_eq_true→BC,length→BM,eq_nil_of_length_eq_zero→BN,dropLast_concat_getLast→BQ,reverse_append→BV,zip_cons_cons→CA,mem_filterMap→CC,drop_zero→CD,length_range→CO,any_cons→CV,length_take→DD,length_drop→DG,getElem?_cons_succ→DH,filter_cons_of_pos→DJ,pairwise_lt_range→DR,any_map→DU,mem_iff_getElem?→ED,mem_append_left→EQ,getElem_of_mem→EY,foldl→FI,find?_eq_none→FJ,filter_append→FK,findIdx?_eq_some_iff_getElem→FR,toArray→FT,take_sublist→FU,pairwise_map→FV,foldl_append→FX,of_mem_zip→GP,forIn_cons→GQ,nodup_iff_pairwise_ne→HL,length_eraseIdx_of_lt→HM,filter_cons_of_neg→IH,singleton_append→JE,length_singleton→JF,getElem?_reverse→JG,dropLast_eq_take→JH,reverse_reverse→JO,mem_of_mem_drop→JP,map→JQ,length_dropLast→JR,getElem?_mapIdx→JS
open PySem.W renaming Frag→vB,fnOf→xQ,keepIn→xU,codeIn→f9,hideAll_none→p5,hideAll→BJ,nsIn→BO,kitOne→BU,hideAll_get→EL,of_hideAll→ET,methodObj→FC,cellsFrom_some→HW,callWith_K→JB
open PySem.Heap renaming get?_push_of_some→vD,get?_push_size→vH,lt_size→vR,get?_none_of_le→xS,get?_update_self→yJ,SameBut→zT,size_push→CF,ExtBut→CP,get?_update_other→DV,get?_update_ne→EZ
open Nat renaming le_refl→vL,le_trans→vX,lt_of_lt_of_le→wG,ne_of_lt→wL,not_lt→yX,min_le_right→zD,zero_le→zL,lt_irrefl→zU,reduceSub→g9,reduceAdd→i0,ne_of_gt→m8,lt_of_le_of_lt→AJ,le_succ→AK,lt_succ_self→BK,lt_succ_of_lt→CT,le_succ_of_le→CU,lt_or_ge→EA,lt_trans→GD,min_le_left→HE,mul_comm→JC,le_of_lt→JD
open PySem.PyData renaming eqv→vN,strOk→wJ,int→wN,depthAll→xJ,str→yE,depth→yF,canLayAll0→yW,tuple→zP,bool→zR,eqvAll→y9,list→AE
open Bool renaming and_eq_true→vV,false_eq_true→wU,eq_iff_iff→zJ,false_ne_true→zQ,not_eq_true'→zZ,or_eq_true→EB,or_false→FG,not_true→FH,true_and→IC,or_assoc→ID
open Array renaming getElem?_eq_getElem→wX,length_toList→xF,getElem?_toList→i5,getElem?_eq_none→AO,getD→DL,all_toList→GG,toList→IK,getElem_toList→JL
open Option renaming map_eq_some_iff→xG,map_some→AB,bind_eq_some_iff→AF
open Option.some renaming inj→xH,injEq→IB
open PyProof.Rows renaming slot_tuple_getitem→xI,callWith_type1→k9,seqObj→AW,StrsAre→DQ,AllBare→DY,IsTup→EN,IntsAre→EV,slicePart_none→FN,entry_tuple_getitem→FZ,subscriptTail→GH,slot_tuple_getitem→GJ,args_tuple_getitem→GM,entry_list_sort→IE,sortedHeap→IQ,slot_list_sort→IR,args_list_sort→IY,Subscript_→IZ
open PySem.Builtin.Slice renaming slicePlaces→xW,sliceAdjust→a8,sliceApplied→l9,sliceFields→FM
open PySem.Builtin.Str renaming strSliceIndices→xX
open PySem.Around renaming under_plainId→yB
open PySem.Builtin.Tuple renaming tupleExact→yD,tupleItemsOf→l8,tupleCompareSizes→EF,tupleHashOf→FL
open PySem.Value renaming ref→yH,none→yP,type→i8,bool→AY,notImplemented→EJ,int→EO,str→IA,isStrOf_shape→JM
open List.Perm renaming refl→yM,swap→DK,cons_inv→II,nil_eq→JI
open PySem.Str renaming ofString→yT,join→k7,empty→BZ
open PySem.Heap.SameBut renaming update→zA,refl→HY
open PySem.F renaming plainAttrs_list→zV,args_tuple_add_2→CH,entry_tuple_add→CL,slot_tuple_add→DB,type_list_append→HC,slot_list_append→HD,plainAttrs_dict→HI,attr_ValueError→HJ
open LawfulBEq renaming eq_of_beq→zY
open False renaming elim→i3
open ForInStep renaming yield→i4
open Int renaming toNat_natCast→i9,emod_lt_of_pos→CI,emod_nonneg→EE,sub_add_cancel→FS,zero_add→GE,sub_zero→JJ
open PySem.NameKind renaming free→l6
open PySem.Calls renaming spliced_cons→l7,callWith_builtin→AN,evalArgs_plain→BL,call_function_entry→CJ,spliced_nil→CK,Name_function_global→HG
open PySem.Obj renaming data_mapFields→m6,mapSeq→DZ,mapDictKeys→EC,isFreed_of_fields→EM,isFreed_of_dict→FD,putSet→HX,mapFields→IG
open PySem.SetTable renaming grown→n0,below→AH
open Classical renaming byContradiction→p8
open PySem.Builtin.List renaming listTooLong→p9,listLengthHint→FE,listExtendWith→FF,listSameRef→FY
open List.cons renaming injEq→w8
open PySem.PassesOwn renaming never→AZ
open PySem.Code renaming quiet_builtin→CG
open PySem.Builtin.Dict_items renaming ownsTuple→DX
open PySem.SeqAt renaming readOf→FP
open Sum renaming inr→GA,inl→GB
open PySem.SeqAt.ReadsAll renaming length→GC
open PySem.Builtin.Dict renaming updateFrom→GF,showsAll→GO
open List.Pairwise renaming filter→GN,nil→HN
open PySem.Heap.IsSliceOf renaming new→GR
open PySem.AutoSeq1 renaming sub_tuple_tuple→GS,idx_int→JT
open PySem.SetTable.probe renaming go→HB
open PySem.Shared renaming TypeIs→HH
open PySem.PyData.tuple renaming injEq→HK
open PySem.Heap.ExtBut renaming push→IJ
namespace L2
open PySem PySem.Spec PyProof.Rows
abbrev Key:=Sum Int Str
def qR:Key->uY->Bool
 | .inl k,v=>Value.isInt k v
 | .inr x,v=>Value.isStrOf x v
def keyH (w:wD):Key->Int
 | .inl k=>hashInt k
 | .inr x=>hashStr w x
theorem L4:∀ {k:Key} {v:uY},qR k v=true->(∃ i t,k=GB i/\v=EO i t)\/(∃ x t,k=GA x/\v=IA x t)
 | .inl i,v,h=>by
   obtain ⟨t,e⟩:=Value.isInt_shape (k:=i) (v:=v) h; exact .inl ⟨i,t,rfl,e⟩
 | .inr x,v,h=>by
   obtain ⟨t,e⟩:=JM (x:=x) (v:=v) h; exact .inr ⟨x,t,rfl,e⟩
theorem tK (a b:Int):decide ((GB a:Key)=GB b)=(a==b):=by
 by_cases e:a=b
 . subst e; simp
 . have h:¬ (GB a:Key)=GB b:=fun q=>e (Sum.inl.inj q)
   rw [decide_eq_false h]; exact (beq_eq_false_iff_ne.mpr e).symm
theorem tG (a b:Str):decide ((GA a:Key)=GA b)=decide (a=b):=by
 by_cases e:a=b
 . subst e; simp
 . have h:¬ (GA a:Key)=GA b:=fun q=>e (Sum.inr.inj q)
   rw [decide_eq_false h,decide_eq_false e]
theorem tJ (a:Int) (b:Str):decide ((GB a:Key)=GA b)=false:=decide_eq_false (fun q=>nomatch q)
theorem tH (a:Str) (b:Int):decide ((GA a:Key)=GB b)=false:=decide_eq_false (fun q=>nomatch q)
def Tf (prog:vU) (w:wD):PySem.KeyKind prog w Key where
 is:=qR
 hash:=keyH w
 inj:=fun v a b ha hb=>by
   rcases L4 ha with ⟨i,t,rfl,rfl⟩ | ⟨x,t,rfl,rfl⟩
   . rcases L4 hb with ⟨j,u,rfl,e⟩ | ⟨y,u,rfl,e⟩
     . injection e with e1 _; rw [e1]
     . exact nomatch e
   . rcases L4 hb with ⟨j,u,rfl,e⟩ | ⟨y,u,rfl,e⟩
     . exact nomatch e
     . injection e with e1 _; rw [e1]
 byValue:=fun k v h=>by
   rcases L4 h with ⟨i,t,rfl,rfl⟩ | ⟨x,t,rfl,rfl⟩ <;> rfl
 pyHash:=fun hv h=>by
   rcases L4 hv with ⟨i,t,rfl,rfl⟩ | ⟨x,t,rfl,rfl⟩
   . exact wpAny_pyHash_int h
   . exact wpAny_pyHash_str h
 eqBool:=fun hu hv h=>by
   rcases L4 hu with ⟨i,t,rfl,rfl⟩ | ⟨x,t,rfl,rfl⟩
   . rcases L4 hv with ⟨j,u,rfl,rfl⟩ | ⟨y,u,rfl,rfl⟩
     . rw [tK] at h; exact wpAny_eqBool_int h
     . rw [tJ] at h; exact SeqAt.EqAt.int_str i t y u _ _ _ _ h
   . rcases L4 hv with ⟨j,u,rfl,rfl⟩ | ⟨y,u,rfl,rfl⟩
     . rw [tH] at h; exact SeqAt.EqAt.str_int x t j u _ _ _ _ h
     . rw [tG] at h; exact wpAny_eqBool_str h
 «strs» := fun k x t v h=>by
   rcases L4 h with ⟨i,u,rfl,e⟩ | ⟨y,u,rfl,e⟩
   . exact nomatch e
   . injection e with e1 _
     subst e1;cases v <;> rfl
end L2
namespace L2
open PySem PySem.Spec PyProof.Rows
inductive V where
 | non | bl (b:Bool) | int (i:Int) | str (x:Str) | byt (b:Array UInt8) | flt (b:UInt64) | ref (a:vG) | ty (n:String)
 deriving DecidableEq
def RelV:V->uY->Prop
 | .non,u=>u=yP
 | .bl b,u=>u=AY b
 | .int i,u=>∃ t,u=EO i t
 | .str x,u=>∃ t,u=IA x t
 | .byt b,u=>∃ t,u=Value.bytes b t
 | .flt b,u=>∃ t,u=Value.float b t
 | .ref a,u=>u=yH a
 | .ty n,u=>u=i8 n
abbrev Vals:List V->List uY->Prop:=yC RelV
theorem Vals.length {xs:List V} {us:List uY} (r:Vals xs us):xs.length=us.length:=Paired.length r
theorem Vals.get:∀ {xs:List V} {us:List uY} {i:Nat} {x:V},Vals xs us->xs[i]? = some x->∃ u,us[i]? = some u/\RelV x u
 | _,_,_,_,.nil,e=>by simp at e
 | _,_,0,_,.cons r _,e=>by simp at e; subst e; exact ⟨_,rfl,r⟩
 | _,_,i+1,x,.cons _ t,e=>by
   obtain ⟨u,h1,h2⟩:=Vals.get (i:=i) (x:=x) t (by simpa using e);exact ⟨u,by simpa using h1,h2⟩
theorem Vals.append:∀ {xs ys:List V} {us ws:List uY},Vals xs us->Vals ys ws->Vals (xs++ys) (us++ws)
 | _,_,_,_,.nil,s=>s
 | _,_,_,_,.cons r t,s=>.cons r (Vals.append t s)
theorem Vals.take:∀ {xs:List V} {us:List uY} (n:Nat),Vals xs us->Vals (xs.take n) (us.take n)
 | _,_,0,_=>.nil
 | _,_,_+1,.nil=>.nil
 | _,_,n+1,.cons r t=>.cons r (Vals.take n t)
theorem Vals.drop:∀ {xs:List V} {us:List uY} (n:Nat),Vals xs us->Vals (xs.drop n) (us.drop n)
 | _,_,0,r=>r
 | _,_,_+1,.nil=>.nil
 | _,_,n+1,.cons _ t=>Vals.drop n t
def RelO:Option V->Option uY->Prop
 | some v,some u=>RelV v u
 | none,none=>True
 | _,_=>False
def KV {κ:Type}:List (κ×V)->List (κ×uY)->Prop:=yC fun (p:κ×V) (q:κ×uY)=>p.1=q.1/\RelV p.2 q.2
def kV:Key->V
 | .inl i=>.int i
 | .inr x=>.str x
inductive HO where
 | lst (xs:List V)
 | tup (xs:List V)
 | dK (kvs:List (Key×V)) | dT (kvs:List (List Key×V))
 | dN (kvs:List (uV×V))
 | set (S:Int->Bool) (n:Nat)
 | ins (C dx:vG) (fs:List (Str×V))
 | own (x:vG)
 | xd (fs:List (Str×V))
 | met (f x:vG)
 | rng (lo hi:Int)
 | frz (o:Obj) (u:HO)
 | tbl (ps:Array uY)
 | ext (φ:wT->Prop)
abbrev Hp:=vG->Option HO
def upd (H:Hp) (a:vG) (o:HO):Hp:=fun b=>if b=a then some o else H b
theorem B8 {H:Hp} {a:vG} {o:HO}:upd H a o a=some o:=by unfold upd; rw [if_pos rfl]
theorem B7 {H:Hp} {a b:vG} {o:HO} (h:b≠a):upd H a o b=H b:=by unfold upd; rw [if_neg h]
theorem Ry {H:Hp} {a:vG} {o u:HO}:upd (upd H a o) a u=upd H a u:=by
 funext b; unfold upd; split <;> rfl
theorem Nw {H:Hp} {a b:vG} {o u:HO} (h:H a=some o) (h':H b=some u) (d:o≠u):a≠b:=by
 intro e; subst e; rw [h] at h'; exact d (xH h')
theorem D4 {H:Hp} {a b:vG} {o:HO} (h:H a=some o) (h':H b=none):a≠b:=by
 intro e; subst e; rw [h] at h'; cases h'
mutual
def isK:uV->Bool
 | .int _=>true
 | .str _=>true
 | .tuple xs=>El xs
 | .none | .bool _ | .list _ | .dict _=>false
def El:List uV->Bool
 | []=>true
 | x::r=>isK x&&El r
end
mutual
def Wj (w:wD):uV->Int
 | .int i=>hashInt i
 | .str x=>hashStr w x
 | .tuple xs=>reduceHash (FL (Ee w xs))
 | .none | .bool _ | .list _ | .dict _=>0
def Ee (w:wD):List uV->List Int
 | []=>[]
 | x::r=>Wj w x::Ee w r
end
def R0 (w:wD):uV->Int
 | .none=>0xFCA86420
 | d=>Wj w d
def nkD (d:uV):Bool:=match d with
 | .none=>true
 | .str _=>true
 | .tuple xs=>El xs&&decide ((zP xs).depth<=8)
 | _=>false
mutual
def KRep (H:Hp):uV->V->Prop
 | .none,v=>v=.non
 | .int i,v=>v=.int i
 | .str x,v=>v=.str x/\wJ x=true/\x.length<=sizeLine
 | .tuple ds,v=>∃ b xs,v=.ref b/\H b=some (.tup xs)/\KRepL H ds xs
 | .bool _,_=>False
 | .list _,_=>False
 | .dict _,_=>False
def KRepL (H:Hp):List uV->List V->Prop
 | [],xs=>xs=[]
 | d::ds,xs=>∃ x r,xs=x::r/\KRep H d x/\KRepL H ds r
end
mutual
theorem KRep.mono {H H':Hp} (ht:∀ b xs,H b=some (.tup xs)->H' b=some (.tup xs)):∀ {d:uV} {v:V},KRep H d v->KRep H' d v
 | .none,_,r=>r
 | .int _,_,r=>r
 | .str _,_,r=>r
 | .tuple _,_,r=>by obtain ⟨b,xs,e,q,l⟩:=r; exact ⟨b,xs,e,ht _ _ q,KRepL.mono ht l⟩
 | .bool _,_,r=>r.elim
 | .list _,_,r=>r.elim
 | .dict _,_,r=>r.elim
theorem KRepL.mono {H H':Hp} (ht:∀ b xs,H b=some (.tup xs)->H' b=some (.tup xs)):∀ {ds:List uV} {xs:List V},KRepL H ds xs->KRepL H' ds xs
 | [],_,r=>r
 | _::_,_,r=>by obtain ⟨x,t,e,q,l⟩:=r; exact ⟨x,t,e,KRep.mono ht q,KRepL.mono ht l⟩
end
def O4 (w:wD) (kvs:List (uV×V)) (xs:List (uY×uY)):List xP:=List.zipWith (fun p q=>⟨R0 w p.1,q.1,q.2⟩) kvs xs
section
variable (P:vU) (w:wD)
def ObjOk (H:Hp) (h:wT) (a:vG):HO->Prop
 | .lst xs=>xs.length<=sizeLine/\∃ (its:List uY) (n:Nat),Vals xs its/\h.get? a=some { cls:=.type "list",data:=.seq its.toArray n }
 | .tup xs=>xs.length<=sizeLine/\∃ its:List uY,Vals xs its/\EN h a its.toArray
 | .dK kvs=>kvs.length<=sizeLine/\(a==f8)=false/\∃ vs,KV kvs vs/\h.DictOf (Tf P w) a vs
 | .dT kvs => kvs.length <= sizeLine /\ (a == f8) = false /\ ∃ xs : List (List Key × vG × uY),
     yC (fun (p:List Key×V) (q:List Key×vG×uY)=>p.1=q.1/\H q.2.1=some (.tup (p.1.map kV))/\RelV p.2 q.2.2) kvs xs /\
     ∃ o es ep,h.get? a=some o/\o.ExactDict/\o.data=.dict es ep/\es.toList=xs.map (entryOfKey (tupleKind (Tf P w)))/\(xs.map (·.1)).Nodup
 | .dN kvs => kvs.length <= sizeLine /\ (a == f8) = false /\ (kvs.map (·.1)).Nodup /\ (∀ p ∈ kvs, nkD p.1 = true) /\ ∃ xs : List (uY × uY),
     yC (fun (p:uV×V) (q:uY×uY)=>(∃ v,KRep H p.1 v/\RelV v q.1)/\RelV p.2 q.2) kvs xs/\∃ ep,h.get? a=some { cls:=.type "dict",data:=.dict (O4 w kvs xs).toArray ep }
 | .set S n=>h.SetOf (GX P w) a S n
 | .ins C dx fs => H dx = some (.own a) /\ fs.length <= 1000 /\ dx ≠ a /\ h.get? a = some (PySem.W.instObj C dx) /\
     ∃ mA,h.Ns1 dx mA/\(∀ f,RelO (fs.lookup f) (mA f))/\PySem.Within mA (fs.map (·.1))
 | .own _=>∃ o,h.get? a=some o
 | .xd fs=>∃ mA,h.Ns1 a mA/\∀ f,RelO (fs.lookup f) (mA f)
 | .rng lo hi=>∃ t u v,h.get? a=some { cls:=.type "range",data:=.fields #[.int lo t,.int hi u,.int 1 v] }
 | .frz o u=>h.get? a=some o/\ObjOk H h a u
 | .tbl ps=>h.get? a=some { cls:=.none,data:=.fields ps }
 | .met f x=>h.get? a=some (FC (.ref f) (.ref x))
 | .ext φ=>φ h/\(∃ o,h.get? a=some o)/\∀ h1 h2:wT,φ h1->(∀ o,h1.get? a=some o->h2.get? a=some o)->φ h2
def HOk (H:Hp) (h:wT):Prop:=∀ a o,H a=some o->ObjOk P w H h a o
end
section
variable {P:vU} {w:wD} {H H':Hp} {h h':wT} {a:vG} {o:HO}
theorem ObjOk.lt (x:ObjOk P w H h a o):a < h.objs.size:=by
 cases o with
 | lst xs=>obtain ⟨_,_,_,_,e⟩:=x; exact vR e
 | tup xs=>obtain ⟨_,_,_,p⟩:=x; exact p.lt
 | dK kvs=>obtain ⟨_,_,_,_,o,_,_,e,_⟩:=x; exact vR e
 | dT kvs=>obtain ⟨_,_,_,_,o,_,_,e,_⟩:=x; exact vR e
 | dN kvs=>obtain ⟨_,_,_,_,_,_,_,e⟩:=x; exact vR e
 | set S n=>obtain ⟨o,_,_,_,e,_⟩:=x; exact vR e
 | ins C dx fs=>obtain ⟨_,_,_,e,_⟩:=x; exact vR e
 | own y=>obtain ⟨_,e⟩:=x; exact vR e
 | xd fs=>obtain ⟨_,⟨_,_,_,e,_⟩,_⟩:=x; exact vR e
 | rng lo hi=>obtain ⟨_,_,_,e⟩:=x; exact vR e
 | frz ob u=>obtain ⟨e,_⟩:=x; exact vR e
 | tbl ps=>exact vR (show h.get? a=some _ from x)
 | met f y=>exact vR (show h.get? a=some _ from x)
 | ext φ=>obtain ⟨_,⟨_,e⟩,_⟩:=x; exact vR e
theorem Paired.mapP {α β:Type} {F G:α->β->Prop}:∀ {l₁:List α} {l₂:List β},yC F l₁ l₂->(∀ a b,F a b->G a b)->yC G l₁ l₂
 | _,_,.nil,_=>.nil
 | _,_,.cons r t,f=>.cons (f _ _ r) (Paired.mapP t f)
theorem ObjOk.stay (x:ObjOk P w H h a o) (k:∀ b u,(b=a\/H b=some (.own a))->h.get? b=some u->h'.get? b=some u)
   (ho:∀ b,H b=some (.own a)->H' b=some (.own a)) (ht:∀ b xs,H b=some (.tup xs)->H' b=some (.tup xs)):ObjOk P w H' h' a o:=by
 induction o with
 | lst xs=>obtain ⟨z,its,n,r,e⟩:=x; exact ⟨z,its,n,r,k _ _ (.inl rfl) e⟩
 | tup xs=>obtain ⟨z,its,r,ob,e,c⟩:=x; exact ⟨z,its,r,ob,k _ _ (.inl rfl) e,c⟩
 | dK kvs=>obtain ⟨z,y,vs,r,ob,es,ep,e,c⟩:=x; exact ⟨z,y,vs,r,ob,es,ep,k _ _ (.inl rfl) e,c⟩
 | dT kvs =>
   obtain ⟨z,y,xs,r,ob,es,ep,e,c⟩:=x; exact ⟨z,y,xs,Paired.mapP r fun p q z=>⟨z.1,ht _ _ z.2.1,z.2.2⟩,ob,es,ep,k _ _ (.inl rfl) e,c⟩
 | dN kvs =>
   obtain ⟨z,y,nd,nk,xs,r,ep,e⟩:=x; exact ⟨z,y,nd,nk,xs,Paired.mapP r fun p q hZ2=>by obtain ⟨⟨v,z1,z2⟩,z3⟩:=hZ2; exact ⟨⟨v,z1.mono ht,z2⟩,z3⟩,ep,k _ _ (.inl rfl) e⟩
 | set S n=>obtain ⟨ob,es,ep,t,e,c⟩:=x; exact ⟨ob,es,ep,t,k _ _ (.inl rfl) e,c⟩
 | ins C dx fs =>
   obtain ⟨d,z,ne,e,mA,⟨od,es,ep,e2,c⟩,r⟩:=x; exact ⟨ho _ d,z,ne,k _ _ (.inl rfl) e,mA,⟨od,es,ep,k _ _ (.inr d) e2,c⟩,r⟩
 | own y=>obtain ⟨ob,e⟩:=x; exact ⟨ob,k _ _ (.inl rfl) e⟩
 | xd fs=>obtain ⟨mA,⟨od,es,ep,e,c⟩,r⟩:=x; exact ⟨mA,⟨od,es,ep,k _ _ (.inl rfl) e,c⟩,r⟩
 | rng lo hi=>obtain ⟨t,u,v,e⟩:=x; exact ⟨t,u,v,k _ _ (.inl rfl) e⟩
 | frz ob u ih=>obtain ⟨e,q⟩:=x; exact ⟨k _ _ (.inl rfl) e,ih q⟩
 | tbl ps =>
   have e:h.get? a=some { cls:=.none,data:=.fields ps }:=x; show h'.get? a=some { cls:=.none,data:=.fields ps };exact k a _ (.inl rfl) e
 | met f y =>
   have e:h.get? a=some (FC (.ref f) (.ref y)):=x; show h'.get? a=some (FC (.ref f) (.ref y));exact k a _ (.inl rfl) e
 | ext φ=>obtain ⟨p,⟨o,e⟩,st⟩:=x; exact ⟨st _ _ p fun o q=>k _ _ (.inl rfl) q,⟨o,k _ _ (.inl rfl) e⟩,st⟩
theorem HOk.lt (x:HOk P w H h) (e:H a=some o):a < h.objs.size:=(x a o e).lt
theorem HOk.fresh (x:HOk P w H h) (e:h.objs.size<=a):H a=none:=by
 cases q:H a with
 | none=>rfl
 | some u=>exact absurd (wG (x.lt q) e) (zU _)
theorem HOk.kept (x:HOk P w H h) (k:∀ b u,h.get? b=some u->h'.get? b=some u):HOk P w H h':=fun a o e =>
 (x a o e).stay (fun b u _ q=>k b u q) (fun _ q=>q) fun _ _ q=>q
theorem HOk.laid (x:HOk P w H h) (k:∀ b u,h.get? b=some u->h'.get? b=some u) (hp:h.objs.size<=a) (new:ObjOk P w (upd H a o) h' a o):HOk P w (upd H a o) h':=fun b u e=>by
 have hn:=x.fresh hp;by_cases hb:b=a
 . subst hb; rw [B8] at e; cases e; exact new
 . rw [B7 hb] at e
   exact (x b u e).stay (fun c v _ q=>k c v q) (fun c q=>by rw [B7 (D4 q hn)]; exact q) fun c xs q=>by rw [B7 (D4 q hn)]; exact q
end
def Rd (H:Hp) (a:vG) (u:HO):Prop:=H a=some u\/∃ o,H a=some (.frz o u)
theorem Rd.ok {P:vU} {w:wD} {H:Hp} {h:wT} {a:vG} {u:HO} (r:Rd H a u) (x:HOk P w H h):ObjOk P w H h a u:=by
 rcases r with r | ⟨o,r⟩
 . exact x a u r
 . obtain ⟨_,q⟩:=x a _ r
   exact q
def Mut:Option HO->Prop
 | some (.lst _)=>True
 | some (.dK _)=>True
 | some (.dT _)=>True
 | some (.dN _)=>True
 | some (.set _ _)=>True
 | some (.ins _ _ _)=>True
 | some (.ext _)=>True
 | _=>False
section
variable {P:vU} {w:wD} {H:Hp} {h h':wT} {x e:vG} {o':HO}
theorem HOk.write (ok:HOk P w H h) (mu:Mut (H x)) (he:e=x\/H e=some (.own x)) (k:∀ b u,b≠e->h.get? b=some u->h'.get? b=some u) (heo:∃ u,h'.get? e=some u)
   (new:ObjOk P w (upd H x o') h' x o'):HOk P w (upd H x o') h':=fun b u q=>by
 have nown:∀ c y,H c=some (.own y)->c≠x:=fun c y r z=>by subst z; rw [r] at mu; exact mu
 have ntup:∀ c xs,H c=some (.tup xs)->c≠x:=fun c xs r z=>by subst z; rw [r] at mu; exact mu
 by_cases hb:b=x
 . subst hb; rw [B8] at q; cases q; exact new
 . rw [B7 hb] at q
   by_cases hbe:b=e
   . have q' : H b = some (.own x) := by
       rcases he with z | z
       . exact absurd (hbe.trans z) hb
       . rw [hbe]; exact z
     rw [q] at q'; cases q';obtain ⟨v,hv⟩:=heo; exact ⟨v,by rw [hbe]; exact hv⟩
   . refine (ok b u q).stay (fun c v hc r=>k c v ?_ r) (fun c r=>by rw [B7 (nown c b r)]; exact r) fun c xs r=>by rw [B7 (ntup c xs r)]; exact r
     rcases hc with rfl | hc
     . exact hbe
     . rintro rfl
       rcases he with z | z
       . exact nown c b hc z
       . rw [hc] at z; cases z; exact hb rfl
end
structure Un (fs ex:List vG) (H H':Hp) (h h':wT):Prop where
 keep:∀ b o,h.get? b=some o->H b=none->b∉fs->b∉ex->h'.get? b=some o
 slot:∀ b o,h.get? b=some o->H b=none->b∈fs->b∉ex->∃ sl,h'.get? b=some { o with slots:=sl }
 free:∀ b o,h.get? b=some o->H b=none->b∉ex->H' b=none
 there:∀ b o,h.get? b=some o->b∉ex->∃ o',h'.get? b=some o'
 tups:∀ b xs,H b=some (.tup xs)->H' b=some (.tup xs)
 frzs:∀ b o u,H b=some (.frz o u)->H' b=some (.frz o u)
 tbls:∀ b ps,H b=some (.tbl ps)->∃ more,H' b=some (.tbl (ps++more))
section
variable {fs ex:List vG} {H H1:Hp} {h h1 h':wT} {a x e:vG} {o:HO}
theorem Un.any (u:Un fs ex H H1 h h1) {b:vG} {ob:Obj} (q:h.get? b=some ob) (n:H b=none) (hx:b∉ex):∃ sl,h1.get? b=some { ob with slots:=sl }:=by
 by_cases hb:b∈fs
 . exact u.slot b ob q n hb hx
 . exact ⟨ob.slots,u.keep b ob q n hb hx⟩
theorem Un.kept (k:∀ b u,h.get? b=some u->h'.get? b=some u):Un fs ex H H h h' :=
 ⟨fun b ob q _ _ _=>k b ob q,fun b ob q _ _ _=>⟨ob.slots,k b ob q⟩,fun _ _ _ n _=>n,fun b ob q _=>⟨ob,k b ob q⟩,fun _ _ q=>q,fun _ _ _ q=>q,fun _ ps q=>⟨#[],by rw [q]; simp⟩⟩
theorem Un.refl:Un fs ex H H h h:=Un.kept fun _ _ q=>q
theorem Un.laid (k:∀ b u,h.get? b=some u->h'.get? b=some u) (hp:h.objs.size<=a) (hn:H a=none):Un fs ex H (upd H a o) h h' where
 keep:=fun b u q _ _ _=>k b u q
 slot:=fun b u q _ _ _=>⟨u.slots,k b u q⟩
 free:=fun b u q n _=>by rw [B7 (wL (wG (vR q) hp))]; exact n
 there:=fun b u q _=>⟨u,k b u q⟩
 tups:=fun b xs q=>by rw [B7 (D4 q hn)]; exact q
 frzs:=fun b u xs q=>by rw [B7 (D4 q hn)]; exact q
 tbls:=fun b ps q=>⟨#[],by rw [B7 (D4 q hn),q]; simp⟩
theorem Un.write (mu:Mut (H x)) (he:e=x\/H e=some (.own x)) (k:∀ b u,b≠e->h.get? b=some u->h'.get? b=some u) (heo:∃ u,h'.get? e=some u):Un fs ex H (upd H x o) h h':=by
 have hx:∀ b,H b=none->b≠x:=fun b n z=>by subst z; rw [n] at mu; exact mu
 have hb:∀ b,H b=none->b≠e:=fun b n z=>by
   subst z; rcases he with r | r
   . exact hx b n r
   . rw [n] at r; cases r
 have hm:∀ b u,H b=some u->¬ Mut (some u)->b≠x:=fun b u q nm z=>by subst z; rw [q] at mu; exact nm mu
 refine ⟨fun b u q n _ _=>k b u (hb b n) q,fun b u q n _ _=>⟨u.slots,k b u (hb b n) q⟩,fun b u q n _=>by rw [B7 (hx b n)]; exact n,fun b u q _=>?_,
   fun b xs q=>by rw [B7 (hm b _ q fun z=>z)]; exact q,fun b u xs q=>by rw [B7 (hm b _ q fun z=>z)]; exact q,fun b ps q=>⟨#[],by rw [B7 (hm b _ q fun z=>z),q]; simp⟩⟩
 by_cases hbe:b=e
 . subst hbe; exact heo
 . exact ⟨u,k b u hbe q⟩
end
def trk (h:wT) (H:Hp):List vG:=(wS h.objs.size).filter fun a=>(H a).isSome
def Tn (h:wT) (H:Hp):wT:=BJ h (trk h H)
theorem eU (h:wT) (H:Hp):(Tn h H).objs.size=h.objs.size:=PySem.W.hideAll_size _ _
theorem kB {h:wT} {H:Hp} {b:vG} {o:Obj} (e:h.get? b=some o) (n:H b=none):(Tn h H).get? b=some o :=
 EL _ e fun hm=>by
   have q:(H b).isSome=true:=(wW.mp hm).2; rw [n] at q; simp at q
theorem nU {h:wT} {H:Hp} {b:vG} {o:Obj} (e:(Tn h H).get? b=some o):h.get? b=some o/\H b=none:=by
 have e':h.get? b=some o:=ET (trk h H) e;refine ⟨e',?_⟩;cases q:H b with
 | none=>rfl
 | some x =>
   have hm:b∈trk h H:=wW.mpr ⟨yQ.mpr (vR e'),by simp [q]⟩;have z:(Tn h H).get? b=none:=p5 (trk h H) hm; rw [z] at e; cases e
def pY (g h:wT) (L:vG):List (vG×Obj):=(wS h.objs.size).filterMap fun a=>if a=L\/(g.get? a).isSome=true then none else (h.get? a).map fun o=>(a,o)
def M3 (g h:wT) (L d:vG):List (vG×Obj):=(pY g h L).filter fun p=>decide (p.1≠d)
end L2
namespace L2
open PySem PySem.Spec PyProof.Rows
structure Mod (K:vB) (mg:Str->Option uY) (base:wT):Prop where
 kin:K.In base
 glob:base.Ns xZ mg
 blt:∃ mb,base.Ns ES mb/\∀ x:Str,x ≠ "__name__" -> mb x=p0 x
 nolimit:base.NoLimit
structure Cx where
 prog:vU
 w:wD
 K:vB
 mg:Str->Option uY
 base:wT
 A:xD
 N:List Str
 s₀:uZ
 H₀:Hp
 env:Env
 outer:List Env
 stack:List Env
 ex:List vG
 fn:Str->Bool
 calm:Bool
 pn:List (vG×Obj)
 xe:uY->uZ->Prop
def frs (l:List Env):List vG:=l.filterMap (·.frame)
abbrev Cx.fs (X:Cx):List vG:=frs X.outer
def Vis (sc:Scope) (x:Str):Prop:=sc.names.lookup x=some .local\/sc.names.lookup x=some .cell\/sc.names.lookup x=some .free
def Loc (sc:Scope) (x:Str):Prop:=sc.names.lookup x=some .local\/sc.names.lookup x=some .cell
def Look (env:Env) (h:wT) (m:Str->Option uY) (x:Str) (u:uY):Prop :=
 (env.kindOf x=some .local/\m x=some u)\/((env.kindOf x=some .cell\/env.kindOf x=some .free)/\∃ c,env.cells.lookup x=some c/\h.IsCell c (some u))
structure Cx.Ok (X:Cx):Prop where
 mod:Mod X.K X.mg X.base
 kind:X.env.scope.kind=.function
 glob:X.env.globals=xZ
 blt:X.env.builtins=ES
 above:X.s₀.heap.objs.size<=X.env.locals
 inj:∀ x y c,X.env.cells.lookup x=some c->X.env.cells.lookup y=some c->x=y
 has:∀ x,(X.env.kindOf x=some .cell\/X.env.kindOf x=some .free)->∃ c,X.env.cells.lookup x=some c
 cab:∀ x c,X.fn x=true->X.env.cells.lookup x=some c->X.s₀.heap.objs.size<=c
 hd:X.calm=true->X.A.handled=none
 frames:X.A.frames=some X.stack
 stk:X.stack=X.outer\/(X.stack=X.env::X.outer/\X.env.frame=some X.env.locals)
 exf:∀ b∈X.ex,b≠X.env.locals/\∀ x c,X.env.cells.lookup x=some c->c≠b
 bs:∀ b o,X.base.get? b=some o->X.s₀.heap.get? b=some o/\X.H₀ b=none
 bsz:X.base.objs.size<=X.s₀.heap.objs.size
 noex:∀ b o,X.base.get? b=some o->b∉X.ex
 exfs:∀ b∈X.ex,b∉X.fs
 funs:X.s₀.heap.FunFrames X.base X.outer
 frf:∀ b∈X.fs,X.H₀ b=none
structure Inv (X:Cx) (pins:List (vG×Obj)) (Z:List (Option V)) (H:Hp) (s:uZ):Prop where
 ok:X.Ok
 os:s.os=X.s₀.os
 bare:DY s.gens
 base:Un X.fs X.ex X.H₀ H X.s₀.heap s.heap
 loc:∃ m,s.heap.Ns X.env.locals m/\∀ (i:Nat) (x:Str) (v:V),X.N[i]? = some x->Z[i]? = some (some v)->Vis X.env.scope x->∃ u,RelV v u/\Look X.env s.heap m x u
 cell:∀ x c,X.env.cells.lookup x=some c->∃ v,s.heap.IsCell c v
 free:H X.env.locals=none
 freeC:∀ x c,X.env.cells.lookup x=some c->H c=none
 pin:∀ p∈X.pn++pins,s.heap.get? p.1=some p.2/\H p.1=none/\p.1≠X.env.locals/\p.1∉X.fs/\∀ v,p.2.data≠.cell v
 hok:HOk X.prog X.w H s.heap
 len:Z.length=X.N.length
section
variable {X:Cx} {pins:List (vG×Obj)} {Z:List (Option V)} {H H':Hp} {s:uZ} {h':wT}
theorem Cx.Ok.nofr (ok:X.Ok) {b:vG} {o:Obj} (e:X.base.get? b=some o):b∉X.fs:=fun hb=>by
 have:=(ok.funs.mem hb).1;rw [e] at this; cases this
theorem Inv.bs (I:Inv X pins Z H s):∀ b o,X.base.get? b=some o->s.heap.get? b=some o/\H b=none:=fun b o e =>
 ⟨I.base.keep b o (I.ok.bs b o e).1 (I.ok.bs b o e).2 (I.ok.nofr e) (I.ok.noex b o e),I.base.free b o (I.ok.bs b o e).1 (I.ok.bs b o e).2 (I.ok.noex b o e)⟩
theorem Inv.bk (I:Inv X pins Z H s):∀ b o,X.base.get? b=some o->s.heap.get? b=some o:=fun b o e=>(I.bs b o e).1
theorem Inv.mod (I:Inv X pins Z H s):Mod X.K X.mg X.base:=I.ok.mod
theorem Inv.kIn (I:Inv X pins Z H s):X.K.In s.heap:=I.ok.mod.kin.keeps I.bk
theorem Inv.fr (I:Inv X pins Z H s):∃ m,Fr X.base X.env.locals s.heap m :=
 let ⟨m,hn,_⟩:=I.loc
 ⟨m,hn,I.bk,vX I.ok.bsz I.ok.above⟩
theorem Inv.lt (I:Inv X pins Z H s):X.env.locals < s.heap.objs.size:=let ⟨_,hn,_⟩:=I.loc; hn.lt
theorem Inv.sz (I:Inv X pins Z H s):X.s₀.heap.objs.size<=s.heap.objs.size:=vX I.ok.above (JD I.lt)
theorem Inv.nofs (I:Inv X pins Z H s) {a:vG} (h:s.heap.objs.size<=a):a∉X.fs:=fun hb=>by
 obtain ⟨_,o,ho,_⟩:=I.ok.funs.mem hb;exact absurd (wG (vR ho) (vX I.sz h)) (zU _)
theorem Inv.cne (I:Inv X pins Z H s):∀ x c,X.env.cells.lookup x=some c->c≠X.env.locals:=fun x c e z=>by
 obtain ⟨v,o,ho,hd⟩:=I.cell x c e;obtain ⟨m,⟨o',es,ep,ho',hd',_⟩,_⟩:=I.loc;rw [z,ho'] at ho; cases ho; rw [hd'] at hd; cases hd
theorem Inv.funs (I:Inv X pins Z H s):s.heap.FunFrames X.base X.outer:=by
 have all:∀ (l:List Env),(∀ b∈frs l,b∈X.fs)->X.s₀.heap.FunFrames X.base l->s.heap.FunFrames X.base l:=by
   intro l;induction l with
   | nil=>intro _ _; trivial
   | cons env r ih =>
     intro hs hl; obtain ⟨hk,⟨L,o,hf,hn,ho,hd⟩,hr⟩:=hl; have hL:L∈X.fs:=hs L (by unfold frs; rw [zH,hf]; exact xK);obtain ⟨sl,e⟩:=I.base.slot L o ho (I.ok.frf L hL) hL fun z=>I.ok.exfs L z hL;exact ⟨hk,⟨L,_,hf,hn,e,hd⟩,ih (fun b hb=>hs b (by unfold frs; rw [zH,hf]; exact xL _ hb)) hr⟩
 exact all X.outer (fun _ hb=>hb) I.ok.funs
theorem Inv.stack (I:Inv X pins Z H s):s.heap.FunFrames X.base X.stack:=by
 rcases I.ok.stk with e | ⟨e,hf⟩
 . rw [e]; exact I.funs
 . rw [e]
   obtain ⟨m,hn,_⟩:=I.loc; refine .cons (by rw [I.ok.kind]; decide) hf hn ?_ I.funs;exact xS (vX I.ok.bsz I.ok.above)
theorem Inv.stkSub (I:Inv X pins Z H s):∀ b∈frs X.stack,b∈X.env.locals::X.fs:=fun b hb=>by
 rcases I.ok.stk with e | ⟨e,hf⟩
 . rw [e] at hb; exact xL _ hb
 . rw [e] at hb
   unfold frs at hb; rw [zH,hf] at hb; exact hb
theorem Inv.stkFree (I:Inv X pins Z H s):∀ b∈frs X.stack,H b=none:=fun b hb=>by
 rcases vF.mp (I.stkSub b hb) with e | hb
 . rw [e]; exact I.free
 . obtain ⟨_,o,ho,_⟩:=I.ok.funs.mem hb
   exact I.base.free b o ho (I.ok.frf b hb) fun z=>I.ok.exfs b z hb
theorem Inv.step {g':Array JK} {t':Nat} {d':Drawn} {ch:List vG} (I:Inv X pins Z H s)
   (hch:∀ b∈ch,(b∈X.ex\/X.s₀.heap.objs.size<=b)/\b≠X.env.locals/\(∀ x c,X.env.cells.lookup x=some c->c≠b)/\∀ p∈X.pn++pins,p.1≠b)
   (keep:∀ b o,b≠X.env.locals->b∉X.fs->b∉ch->s.heap.get? b=some o->H b=none->h'.get? b=some o)
   (slot:∀ b o,b≠X.env.locals->b∈X.fs->b∉ch->s.heap.get? b=some o->H b=none->∃ sl,h'.get? b=some { o with slots:=sl }) (free:∀ b o,b∉ch->s.heap.get? b=some o->H b=none->H' b=none)
   (there:∀ b o,b∉ch->s.heap.get? b=some o->∃ o',h'.get? b=some o')
   (tups:∀ b xs,H b=some (.tup xs)->H' b=some (.tup xs)) (frzs:∀ b o u,H b=some (.frz o u)->H' b=some (.frz o u)) (tbls:∀ b ps,H b=some (.tbl ps)->∃ more,H' b=some (.tbl (ps++more)))
   (ns:∀ m,s.heap.Ns X.env.locals m->h'.Ns X.env.locals m) (hok:HOk X.prog X.w H' h') (hg:DY g') :
   Inv X pins Z H' { s with heap:=h',gens:=g',drawn:=d',toks:=t' }:=by
 have neL:∀ b o,X.s₀.heap.get? b=some o->b≠X.env.locals:=fun b o e=>wL (wG (vR e) I.ok.above);have neC:∀ b o,X.s₀.heap.get? b=some o->b∉X.ex->b∉ch:=fun b o e hx hb=>by
   rcases (hch b hb).1 with z | z
   . exact hx z
   . exact absurd (wG (vR e) z) (zU _)
 have cellK:∀ x c,X.env.cells.lookup x=some c->∀ v,s.heap.IsCell c v->h'.IsCell c v:=fun x c e v hZ4=>by
   obtain ⟨o,ho,hd⟩:=hZ4; have nch:c∉ch:=fun z=>(hch c z).2.2.1 x c e rfl;by_cases hc:c∈X.fs
   . obtain ⟨sl,q⟩:=slot c o (I.cne x c e) hc nch ho (I.freeC x c e)
     exact ⟨_,q,hd⟩
   . exact ⟨o,keep c o (I.cne x c e) hc nch ho (I.freeC x c e),hd⟩
 refine ⟨I.ok,I.os,hg,⟨fun b o e n hb hx=>?_,fun b o e n hb hx=>?_,fun b o e n hx=>?_,fun b o e hx=>?_,fun b xs e=>tups b xs (I.base.tups b xs e),fun b o xs e=>frzs b o xs (I.base.frzs b o xs e),fun b ps e=>?_⟩,?_,fun x c e=>?_,?_,fun x c e=>?_,fun p hp=>?_,hok,I.len⟩
 . exact keep b o (neL b o e) hb (neC b o e hx) (I.base.keep b o e n hb hx) (I.base.free b o e n hx)
 . obtain ⟨sl,e1⟩:=I.base.slot b o e n hb hx
   obtain ⟨sl',e2⟩:=slot b _ (neL b o e) hb (neC b o e hx) e1 (I.base.free b o e n hx); exact ⟨sl',e2⟩
 . obtain ⟨o',e1⟩:=I.base.there b o e hx
   exact free b o' (neC b o e hx) e1 (I.base.free b o e n hx)
 . obtain ⟨o',e1⟩:=I.base.there b o e hx
   exact there b o' (neC b o e hx) e1
 . obtain ⟨m1,e1⟩:=I.base.tbls b ps e
   obtain ⟨m2,e2⟩:=tbls b _ e1; exact ⟨m1++m2,by rw [e2,Array.append_assoc]⟩
 . obtain ⟨m,hn,hl⟩:=I.loc
   refine ⟨m,ns m hn,fun i x v e1 e2 e3=>?_⟩;obtain ⟨u,r,l⟩:=hl i x v e1 e2 e3; refine ⟨u,r,?_⟩; rcases l with l | ⟨k,c,e,z⟩
   . exact .inl l
   . exact .inr ⟨k,c,e,cellK x c e _ z⟩
 . obtain ⟨v,z⟩:=I.cell x c e
   exact ⟨v,cellK x c e v z⟩
 . obtain ⟨m,⟨o,_,_,ho,_⟩,_⟩:=I.loc
   exact free _ o (fun z=>(hch _ z).2.1 rfl) ho I.free
 . obtain ⟨v,o,ho,hd⟩:=I.cell x c e
   exact free c o (fun z=>(hch c z).2.2.1 x c e rfl) ho (I.freeC x c e)
 . obtain ⟨e,n,ne,nf,d⟩:=I.pin p hp
   have nch:p.1∉ch:=fun z=>(hch p.1 z).2.2.2 p hp rfl;exact ⟨keep p.1 p.2 ne nf nch e n,free p.1 p.2 nch e n,ne,nf,d⟩
theorem Inv.un {t':Nat} (I:Inv X pins Z H s) (u:Un X.fs [] H H' s.heap h') (hok:HOk X.prog X.w H' h'):Inv X pins Z H' { s with heap:=h',toks:=t' }:=by
 obtain ⟨m,⟨o,es,ep,ho,r⟩,_⟩:=id I.loc;obtain ⟨sl,hL⟩:=u.any ho I.free (by simp);exact I.step (g':=s.gens) (d':=s.drawn) (ch:=[]) (fun _ z=>nomatch z) (fun b o _ hb _ e n=>u.keep b o e n hb (by simp)) (fun b o _ hb _ e n=>u.slot b o e n hb (by simp)) (fun b o _ e n=>u.free b o e n (by simp)) (fun b o _ e=>u.there b o e (by simp)) u.tups u.frzs u.tbls (fun m' hm=>by
   obtain ⟨o',es',ep',ho',r'⟩:=hm; rw [ho] at ho'; cases ho'; exact ⟨_,es',ep',hL,r'⟩) hok I.bare
theorem Inv.call {g':Array JK} {t':Nat} {d':Drawn} {ch:List vG} (I:Inv X pins Z H s) (u:Un (frs X.stack) ch H H' s.heap h') (hok:HOk X.prog X.w H' h') (hg:DY g')
   (hch:∀ b∈ch,(b∈X.ex\/X.s₀.heap.objs.size<=b)/\b≠X.env.locals/\(∀ x c,X.env.cells.lookup x=some c->c≠b)/\∀ p∈X.pn++pins,p.1≠b) :
   Inv X pins Z H' { s with heap:=h',gens:=g',drawn:=d',toks:=t' }:=by
 obtain ⟨m,⟨o,es,ep,ho,r⟩,_⟩:=id I.loc;obtain ⟨sl,hL⟩:=u.any ho I.free fun z=>(hch _ z).2.1 rfl;exact I.step (ch:=ch) hch (fun b o hL hb hc e n=>u.keep b o e n (fun z=>(vF.mp (I.stkSub b z)).elim hL hb) hc) (fun b o _ _ hc e n=>u.any e n hc) (fun b o hc e n=>u.free b o e n hc) (fun b o hc e=>u.there b o e hc) u.tups u.frzs u.tbls (fun m' hm=>by
   obtain ⟨o',es',ep',ho',r'⟩:=hm; rw [ho] at ho'; cases ho'; exact ⟨_,es',ep',hL,r'⟩) hok hg
theorem Inv.turned {t':Nat} {it:vG} (I:Inv X pins Z H s) (k:∀ b o,b≠it->s.heap.get? b=some o->h'.get? b=some o) (hn:H it=none) (hL:it≠X.env.locals)
   (h1:it∈X.ex\/X.s₀.heap.objs.size<=it) (h2:∀ x c,X.env.cells.lookup x=some c->c≠it) (h3:∀ p∈X.pn++pins,p.1≠it):Inv X pins Z H { s with heap:=h',toks:=t' }:=by
 have nit:∀ b u,H b=some u->b≠it:=fun b u e z=>by rw [z,hn] at e; cases e
 refine I.step (g':=s.gens) (d':=s.drawn) (ch:=[it]) (fun b hb=>?_) (fun b o _ _ hc e _=>k b o (fun z=>hc (by simp [z])) e) (fun b o _ _ hc e _=>⟨o.slots,k b o (fun z=>hc (by simp [z])) e⟩) (fun _ _ _ _ n=>n)
   (fun b o hc e=>⟨o,k b o (fun z=>hc (by simp [z])) e⟩) (fun _ _ e=>e) (fun _ _ _ e=>e) (fun b ps e=>⟨#[],by rw [e]; simp⟩) (fun m hm=>?_) (fun b u e=>?_) I.bare
 . have e:b=it:=by simpa using hb
   subst e; exact ⟨h1,hL,h2,h3⟩
 . obtain ⟨o,es,ep,ho,r⟩:=hm
   exact ⟨o,es,ep,k _ o (Ne.symm hL) ho,r⟩
 . refine (I.hok b u e).stay (fun c v hc q=>k c v ?_ q) (fun _ q=>q) fun _ _ q=>q
   rcases hc with z | z
   . rw [z]; exact nit b u e
   . exact nit c _ z
theorem Inv.tok (I:Inv X pins Z H s) (t:Nat):Inv X pins Z H { s with toks:=t }:=I.un (h':=s.heap) (t':=t) Un.refl I.hok
theorem Inv.kept {t':Nat} (I:Inv X pins Z H s) (k:∀ b u,s.heap.get? b=some u->h'.get? b=some u):Inv X pins Z H { s with heap:=h',toks:=t' }:=I.un (Un.kept k) (I.hok.kept k)
theorem Inv.laid {a:vG} {o:HO} {t':Nat} (I:Inv X pins Z H s) (k:∀ b u,s.heap.get? b=some u->h'.get? b=some u) (hp:s.heap.objs.size<=a) (new:ObjOk X.prog X.w (upd H a o) h' a o) :
   Inv X pins Z (upd H a o) { s with heap:=h',toks:=t' }:=I.un (Un.laid k hp (I.hok.fresh hp)) (I.hok.laid k hp new)
theorem Inv.write {x e:vG} {o:HO} {t':Nat} (I:Inv X pins Z H s) (mu:Mut (H x)) (he:e=x\/H e=some (.own x)) (k:∀ b u,b≠e->s.heap.get? b=some u->h'.get? b=some u) (heo:∃ u,h'.get? e=some u)
   (new:ObjOk X.prog X.w (upd H x o) h' x o):Inv X pins Z (upd H x o) { s with heap:=h',toks:=t' }:=I.un (Un.write mu he k heo) (I.hok.write mu he k heo new)
theorem Inv.weak {Z':List (Option V)} (I:Inv X pins Z H s) (hl:Z'.length=Z.length) (w:∀ (i:Nat) v,Z'[i]? = some (some v)->Z[i]? = some (some v)):Inv X pins Z' H s :=
 ⟨I.ok,I.os,I.bare,I.base,let ⟨m,hn,hl'⟩:=I.loc; ⟨m,hn,fun i x v e1 e2 e3=>hl' i x v e1 (w i v e2) e3⟩,I.cell,I.free,I.freeC,I.pin,I.hok,hl.trans I.len⟩
theorem Inv.pins_of {pins':List (vG×Obj)} (I:Inv X pins Z H s) (h:∀ p∈pins',s.heap.get? p.1=some p.2/\H p.1=none/\p.1≠X.env.locals/\p.1∉X.fs/\∀ v,p.2.data≠.cell v):Inv X pins' Z H s :=
 ⟨I.ok,I.os,I.bare,I.base,I.loc,I.cell,I.free,I.freeC,fun p hp=>(vT.mp hp).elim (fun z=>I.pin p (EQ _ z)) (h p),I.hok,I.len⟩
theorem Vt {N:List Str} (hN:N.Nodup) {i j:Nat} {x:Str} (a:N[i]? = some x) (b:N[j]? = some x):i=j:=by
 obtain ⟨h1,e1⟩:=vY.mp a;obtain ⟨h2,e2⟩:=vY.mp b;exact (List.getElem_inj hN).mp (e1.trans e2.symm)
theorem Qi {M:HF} {A:xD} {E:uY->uZ->Prop} {i:Nat} {x:Str} {v:V} {u:uY} {Q:Unit->uZ->Prop} (I:Inv X pins Z H s) (hN:X.N.Nodup) (hi:X.N[i]? = some x) (hx:Loc X.env.scope x) (r:RelV v u)
   (h:∀ s',Inv X pins (Z.set i (some v)) H s'->(∃ a,zT a s.heap s'.heap/\(a=X.env.locals\/X.env.cells.lookup x=some a))->Q () s') (hf:X.fn x=true\/X.env.scope.names.lookup x=some .local:=by first | exact .inl rfl | exact .inr rfl | assumption):wpAny M A (storeName X.env x u) Q E s:=by
 obtain ⟨m,hn,hl⟩:=id I.loc;have hcls:(X.env.scope.kind==.class||(X.env.scope.kind==.module&&X.env.locals != X.env.globals))=false:=by rw [I.ok.kind]; rfl
 have hiσ:i < Z.length:=by rw [I.len]; exact (vY.mp hi).1
 have cne:=I.cne;have tracked:∀ {a:vG} {h':wT},(∃ o,s.heap.get? a=some o/\H a=none)->zT a s.heap h'->HOk X.prog X.w H h':=fun {a h'} ha hs b ob e=>by
   obtain ⟨_,_,hfree⟩:=ha; refine (I.hok b ob e).stay (fun c w' hc q=>(hs.2 c ?_).trans q) (fun _ q=>q) fun _ _ q=>q;rintro rfl;rcases hc with rfl | hc
   . rw [hfree] at e; cases e
   . rw [hfree] at hc; cases hc
 rcases hx with hk | hk
 . refine wpAny_storeName_local hk hn (fun h' hn' hs=>?_) hcls
   obtain ⟨oL,_,_,hoL,_⟩:=id hn; refine h _ ⟨I.ok,I.os,I.bare,⟨fun b o e n hb hx=>?_,fun b o e n hb hx=>?_,I.base.free,fun b o e hx=>?_,I.base.tups,I.base.frzs,I.base.tbls⟩,⟨_,hn',fun j y v' e1 e2 e3=>?_⟩,fun y c e=>?_,I.free,I.freeC,fun p hp=>?_,tracked ⟨oL,hoL,I.free⟩ hs,by simpa using I.len⟩ ⟨_,hs,.inl rfl⟩
   . exact (hs.2 b (wL (wG (vR e) I.ok.above))).trans (I.base.keep b o e n hb hx)
   . obtain ⟨sl,e1⟩:=I.base.slot b o e n hb hx
     exact ⟨sl,(hs.2 b (wL (wG (vR e) I.ok.above))).trans e1⟩
   . obtain ⟨o',e1⟩:=I.base.there b o e hx
     exact ⟨o',(hs.2 b (wL (wG (vR e) I.ok.above))).trans e1⟩
   . by_cases hj:j=i
     . subst hj
       rw [hi] at e1; cases e1;rw [AS hiσ] at e2; cases e2; exact ⟨u,r,.inl ⟨hk,by simp⟩⟩
     . rw [u6 (Ne.symm hj)] at e2
       obtain ⟨u',r',q⟩:=hl j y v' e1 e2 e3; refine ⟨u',r',?_⟩; rcases q with ⟨k,e⟩ | ⟨k,c,e,z⟩
       . refine .inl ⟨k,?_⟩
         have:y≠x:=fun e=>hj (Vt hN e1 (e▸hi));simp [this,e]
       . exact .inr ⟨k,c,e,z.sameBut hs (cne y c e)⟩
   . obtain ⟨w',z⟩:=I.cell y c e
     exact ⟨w',z.sameBut hs (cne y c e)⟩
   . obtain ⟨e,n,ne,nf,d⟩:=I.pin p hp
     exact ⟨(hs.2 p.1 ne).trans e,n,ne,nf,d⟩
 . have hfn : X.fn x = true := by
     rcases hf with z | z
     . exact z
     . rw [z] at hk; cases hk
   obtain ⟨c,hc⟩:=I.ok.has x (.inl hk); obtain ⟨w',z⟩:=I.cell x c hc; refine wpAny_storeName_cell I.ok.kind hk hc z (fun h' hc' hs=>?_);obtain ⟨oc,hoc,hocd⟩:=id z; refine h { s with heap:=h' } ⟨I.ok,I.os,I.bare,⟨fun b o e n hb hx=>?_,fun b o e n hb hx=>?_,I.base.free,fun b o e hx=>?_,I.base.tups,I.base.frzs,I.base.tbls⟩,⟨m,hn.sameBut hs (Ne.symm (cne x c hc)),fun j y v' e1 e2 e3=>?_⟩,fun y c' e=>?_,I.free,I.freeC,fun p hp=>?_,tracked ⟨oc,hoc,I.freeC x c hc⟩ hs,by simpa using I.len⟩ ⟨c,hs,.inr hc⟩
   . exact (hs.2 b (wL (wG (vR e) (I.ok.cab x c hfn hc)))).trans (I.base.keep b o e n hb hx)
   . obtain ⟨sl,e1⟩:=I.base.slot b o e n hb hx
     exact ⟨sl,(hs.2 b (wL (wG (vR e) (I.ok.cab x c hfn hc)))).trans e1⟩
   . obtain ⟨o',e1⟩:=I.base.there b o e hx
     exact ⟨o',(hs.2 b (wL (wG (vR e) (I.ok.cab x c hfn hc)))).trans e1⟩
   . by_cases hj:j=i
     . subst hj
       rw [hi] at e1; cases e1;rw [AS hiσ] at e2; cases e2; exact ⟨u,r,.inr ⟨.inl hk,c,hc,hc'⟩⟩
     . rw [u6 (Ne.symm hj)] at e2
       obtain ⟨u',r',q⟩:=hl j y v' e1 e2 e3; refine ⟨u',r',?_⟩; rcases q with q | ⟨k,c',e,z'⟩
       . exact .inl q
       . refine .inr ⟨k,c',e,z'.sameBut hs ?_⟩
         rintro rfl;exact hj (Vt hN e1 (I.ok.inj _ _ _ e hc▸hi))
   . by_cases hcc:c'=c
     . subst hcc; exact ⟨_,hc'⟩
     . obtain ⟨w2,z2⟩:=I.cell y c' e
       exact ⟨w2,z2.sameBut hs hcc⟩
   . obtain ⟨e,n,ne,nf,d⟩:=I.pin p hp
     refine ⟨(hs.2 p.1 ?_).trans e,n,ne,nf,d⟩; intro q; rw [q,hoc] at e; have q':oc=p.2:=xH e; exact d w' (by rw [<- q']; exact hocd)
theorem Mj {M:HF} {A:xD} {E:uY->uZ->Prop} {i:Nat} {x:Str} {v:V} {u:uY} {Q:Unit->uZ->Prop} (I:Inv X pins Z H s) (hN:X.N.Nodup) (hi:X.N[i]? = some x) (hx:Loc X.env.scope x) (r:RelV v u)
   (h:∀ s',Inv X pins (Z.set i (some v)) H s'->Q () s') (hf:X.fn x=true\/X.env.scope.names.lookup x=some .local:=by first | exact .inl rfl | exact .inr rfl | assumption):wpAny M A (storeName X.env x u) Q E s :=
 Qi I hN hi hx r (fun s' I' _=>h s' I') hf
theorem Inv.call' {s':uZ} {ch:List vG} (I:Inv X pins Z H s) (ho:s'.os=s.os) (u:Un (frs X.stack) ch H H' s.heap s'.heap) (hok:HOk X.prog X.w H' s'.heap) (hg:DY s'.gens)
   (hch:∀ b∈ch,(b∈X.ex\/X.s₀.heap.objs.size<=b)/\b≠X.env.locals/\(∀ x c,X.env.cells.lookup x=some c->c≠b)/\∀ p∈X.pn++pins,p.1≠b):Inv X pins Z H' s':=by
 obtain ⟨h',g',d',t',o'⟩:=s';have e:o'=s.os:=ho;subst e;exact I.call (g':=g') (t':=t') (d':=d') u hok hg hch
end
abbrev XK:=uY->Option vG->Hp->Prop
abbrev St:=List (Option V)
abbrev VK:=V->Hp->Prop
abbrev TE:=St->Hp->VK->Prop
abbrev TT:=St->Hp->(Bool->Hp->Prop)->Prop
abbrev TA:=St->Hp->(List V->Hp->Prop)->Prop
structure Ends where
 nx:St->Hp->Prop
 rt:VK
 bk:St->Hp->Prop:=fun _ _=>False
 ct:St->Hp->Prop:=fun _ _=>False
abbrev TS:=Ends->St->Hp->Prop
def EP (X:Cx) (pins:List (vG×Obj)) (Z:St) (Q:VK) (u:uY) (s':uZ):Prop:=∃ v H',Inv X pins Z H' s'/\RelV v u/\Q v H'
def TP (X:Cx) (pins:List (vG×Obj)) (Z:St) (Q:Bool->Hp->Prop) (b:Bool) (s':uZ):Prop:=∃ H',Inv X pins Z H' s'/\Q b H'
def AP (X:Cx) (pins:List (vG×Obj)) (Z:St) (Q:List V->Hp->Prop) (us:List uY) (s':uZ):Prop:=∃ vs H',Inv X pins Z H' s'/\Vals vs us/\Q vs H'
def SP (X:Cx) (pins:List (vG×Obj)) (D:Ends) (f:Flow) (s':uZ):Prop :=
 match f with
 | .next=>∃ Z' H',Inv X pins Z' H' s'/\D.nx Z' H'
 | .brk=>∃ Z' H',Inv X pins Z' H' s'/\D.bk Z' H'
 | .cont=>∃ Z' H',Inv X pins Z' H' s'/\D.ct Z' H'
 | .ret u=>∃ v Z' H',Inv X pins Z' H' s'/\RelV v u/\D.rt v H'
def PE (X:Cx) (e:Expr) (t:TE):Prop :=
 ∀ (pins:List (vG×Obj)) (s:uZ) (Z:St) (H:Hp) (Q:VK),Inv X pins Z H s->t Z H Q->wpAny (vS X.prog X.w) X.A (eval e X.env) (EP X pins Z Q) X.xe s
def PT (X:Cx) (e:Expr) (t:TT):Prop :=
 ∀ (pins:List (vG×Obj)) (s:uZ) (Z:St) (H:Hp) (Q:Bool->Hp->Prop),Inv X pins Z H s->t Z H Q->wpAny (vS X.prog X.w) X.A (isTrue e X.env (eval e X.env)) (TP X pins Z Q) X.xe s
def PW (X:Cx) (e:Expr) (t:TT):Prop :=
 ∀ (whole:Sem uY) (pins:List (vG×Obj)) (s:uZ) (Z:St) (H:Hp) (Q:Bool->Hp->Prop),Inv X pins Z H s->t Z H Q->wpAny (vS X.prog X.w) X.A (isTrue e X.env whole) (TP X pins Z Q) X.xe s
theorem PW.pt {X:Cx} {e:Expr} {t:TT} (h:PW X e t):PT X e t:=h _
def PA (X:Cx) (es:List Expr) (t:TA):Prop :=
 ∀ (pos:Pos) (pins:List (vG×Obj)) (s:uZ) (Z:St) (H:Hp) (Q:List V->Hp->Prop),Inv X pins Z H s->t Z H Q->wpAny (vS X.prog X.w) X.A (spliced (yL pos (vI es X.env))) (AP X pins Z Q) X.xe s
def PS (X:Cx) (st:k8) (t:TS):Prop :=
 ∀ (pins:List (vG×Obj)) (s:uZ) (Z:St) (H:Hp) (D:Ends),Inv X pins Z H s->t D Z H->wpAny (vS X.prog X.w) X.A (exec st X.env) (SP X pins D) X.xe s
def PSs (X:Cx) (st:List k8) (t:TS):Prop :=
 ∀ (pins:List (vG×Obj)) (s:uZ) (Z:St) (H:Hp) (D:Ends),Inv X pins Z H s->t D Z H->wpAny (vS X.prog X.w) X.A (execs st X.env) (SP X pins D) X.xe s
theorem thn {α:Type} {t:Sem α} {Q Q':α->uZ->Prop} {M:HF} {A:xD} {E:uY->uZ->Prop} {s:uZ} (h:wpAny M A t Q E s) (hQ:∀ a s,Q a s->Q' a s):wpAny M A t Q' E s:=xT h hQ fun _ _ x=>x
end L2
namespace L2
open PySem PySem.Spec PyProof.Rows
section
variable {X:Cx}
def Sa (i:Nat):TE:=fun Z H Q=>∃ v,Z[i]? = some (some v)/\Q v H
def tC (v:V):TE:=fun _ H Q=>Q v H
theorem Iy {i:Nat} {x:Str} {pos:Pos} (hN:X.N[i]? = some x) (hv:Vis X.env.scope x) (hd:(x==("__debug__" : Str))=false:=by decide) (hcd:(x==("__classdict__" : Str))=false:=by decide):PE X (.Name x pos) (Sa i):=by
 intro pins s Z H Q I h;obtain ⟨v,e,h⟩:=h;obtain ⟨m,hn,hl⟩:=I.loc;obtain ⟨u,r,l⟩:=hl i x v hN e hv;have fin:EP X pins Z Q u s:=⟨v,H,I,r,h⟩;rcases l with ⟨hk,hm⟩ | ⟨hk,c,hc,hcell⟩
 . exact wpAny_Name (wpAny_loadName_local I.ok.kind hk hn hm fin) hd
 . rcases hk with hk | hk
   . exact wpAny_Name (wpAny_loadName_cell I.ok.kind hk hc hcell fin) hd
   . exact wpAny_Name (wpAny_loadName_free I.ok.kind hk hc hcell fin hcd) hd
theorem iP {i j pos}:PE X (.Constant (.int i) j pos) (tC (.int i)):=fun _ _ _ H _ I h=>wpAny_Constant_int ⟨.int i,H,I.tok _,⟨_,rfl⟩,h⟩
theorem aR {b j pos}:PE X (.Constant (.bool b) j pos) (tC (.bl b)):=fun _ _ _ H _ I h=>Constant_bool ⟨.bl b,H,I,rfl,h⟩
theorem sH {j pos}:PE X (.Constant .none j pos) (tC .non):=fun _ _ _ H _ I h=>Constant_none ⟨.non,H,I,rfl,h⟩
theorem iK {x j pos}:PE X (.Constant (.str x) j pos) (tC (.str x)):=fun _ _ _ H _ I h=>Calls.Constant_str ⟨.str x,H,I.tok _,⟨_,rfl⟩,h⟩
def Gl (X:Cx) (x:Str):Prop:=X.env.kindOf x=some .globalImplicit
theorem Hm {E:uY->uZ->Prop} {pins:List (vG×Obj)} {s:uZ} {Z:St} {H:Hp} {x:Str} {u:uY} {pos:Pos} {Q:uY->uZ->Prop} (I:Inv X pins Z H s) (hg:Gl X x) (hm:X.mg x=some u) (h:Q u s)
   (hd:(x==("__debug__" : Str))=false:=by decide):wpAny (vS X.prog X.w) X.A (eval (.Name x pos) X.env) Q E s :=
 HG I.ok.kind hg (Calls.loadGlobal_global (by rw [I.ok.glob]; exact I.mod.glob.keeps I.bk) hm h) hd
theorem Jf {E:uY->uZ->Prop} {pins:List (vG×Obj)} {s:uZ} {Z:St} {H:Hp} {x:Str} {u:uY} {pos:Pos} {Q:uY->uZ->Prop} (I:Inv X pins Z H s) (hg:Gl X x) (hm:X.mg x=none) (hv:p0 x=some u) (h:Q u s)
   (hn:x ≠ "__name__" := by decide) (hd:(x==("__debug__" : Str))=false:=by decide):wpAny (vS X.prog X.w) X.A (eval (.Name x pos) X.env) Q E s:=by
 obtain ⟨mb,h1,h2⟩:=I.mod.blt;exact HG I.ok.kind hg (Calls.loadGlobal_builtin (by rw [I.ok.glob]; exact I.mod.glob.keeps I.bk) hm (by rw [I.ok.blt]; exact h1.keeps I.bk) ((h2 x hn).trans hv) h) hd
theorem nG {x:Str} {v:V} {u:uY} {pos:Pos} (hg:Gl X x) (hm:X.mg x=some u) (r:RelV v u) (hd:(x==("__debug__" : Str))=false:=by decide):PE X (.Name x pos) (tC v) :=
 fun _ _ _ H _ I h=>Hm I hg hm ⟨v,H,I,r,h⟩ hd
theorem nI {x:Str} {v:V} {u:uY} {pos:Pos} (hg:Gl X x) (hm:X.mg x=none) (hv:p0 x=some u) (r:RelV v u) (hn:x ≠ "__name__" := by decide) (hd:(x==("__debug__" : Str))=false:=by decide):PE X (.Name x pos) (tC v) :=
 fun _ _ _ H _ I h=>Jf I hg hm hv ⟨v,H,I,r,h⟩ hn hd
variable {a b:Expr} {ta tb:TE} {pos:Pos}
def PC (X:Cx) (op:c8) (a b:Expr) (t:TE):Prop :=
 ∀ (pins:List (vG×Obj)) (s:uZ) (Z:St) (H:Hp) (Q:VK),Inv X pins Z H s->t Z H Q ->
   wpAny (vS X.prog X.w) X.A (eval a X.env) (fun v s₁=>wpAny (vS X.prog X.w) X.A (eval b X.env) (fun u s₂=>wpAny (vS X.prog X.w) X.A (yG op v u) (EP X pins Z Q) X.xe s₂) X.xe s₁) X.xe s
theorem Vu (b:Expr) {op:c8} (h:op≠.In) (h2:op≠.NotIn):behindInMarks op b=false:=by
 have e1:(op==CmpOp.In)=false:=by cases op <;> first | rfl | exact absurd rfl h
 have e2:(op==CmpOp.NotIn)=false:=by cases op <;> first | rfl | exact absurd rfl h2
 cases b <;> simp [behindInMarks,e1,e2]
def tIsN (ta:TE):TE:=fun Z H Q=>ta Z H fun x H1=>Q (.bl (decide (x=.non))) H1
theorem RelV.none_iff {x:V} {v:uY} (r:RelV x v):(v==yP)=decide (x=.non):=by
 cases x with
 | non=>cases r; rfl
 | bl _=>cases r; rfl
 | int _=>obtain ⟨t,rfl⟩:=r; rfl
 | str _=>obtain ⟨t,rfl⟩:=r; rfl
 | byt _=>obtain ⟨t,rfl⟩:=r; rfl
 | flt _=>obtain ⟨t,rfl⟩:=r; rfl
 | ref _=>cases r; rfl
 | ty _=>cases r; rfl
theorem sL {j pos'} (ha:PE X a ta):PC X .Is a (.Constant .none j pos') (tIsN ta):=by
 intro pins s Z H Q I h;refine thn (ha pins s Z H _ I h) fun v s1 hZ2=>?_;obtain ⟨x,H1,I1,r1,q1⟩:=hZ2;exact Constant_none (is_none_gen ⟨.bl _,H1,I1,by rw [r1.none_iff]; rfl,q1⟩)
def tB (t:TE):TT:=fun Z H Q=>t Z H fun x H1=>∃ c,x=.bl c/\Q c H1
theorem sJ {op:c8} {t:TE} (h:PC X op a b t) (h1:behindInMarks op b=false:=by first | exact Vu _ (by decide) (by decide) | rfl):PE X (.Compare a [op] [b] pos) t:=fun pins s Z H Q I hw=>wpAny_Compare1 (h pins s Z H Q I hw) h1
theorem Yq {op:c8} {t:TE} (h:PC X op a b t) (h1:behindInMarks op b=false:=by first | exact Vu _ (by decide) (by decide) | rfl):PT X (.Compare a [op] [b] pos) (tB t):=by
 intro pins s Z H Q I hw;refine wpAny_isTrue_Compare1 (thn (h pins s Z H _ I hw) fun v s1 h1=>thn h1 fun u s2 h2=>thn h2 fun c s3 hY1=>?_) h1;obtain ⟨x,H1,I1,r1,q1⟩:=hY1;obtain ⟨d,rfl,q⟩:=q1;cases r1;exact a9 ⟨H1,I1,q⟩
variable {tA tB':TT} {M3:List Expr}
def tAnd (t u:TT):TT:=fun Z H Q=>t Z H fun c H1=>if c=true then u Z H1 Q else Q false H1
def tOr (t u:TT):TT:=fun Z H Q=>t Z H fun c H1=>if c=true then Q true H1 else u Z H1 Q
def tNot (t:TT):TT:=fun Z H Q=>t Z H fun c H1=>Q (!c) H1
theorem mR (ha:PT X a tA):PW X (.BoolOp .And [a] pos) tA:=by
 intro wh pins s Z H Q I h;refine isTrue_and (thn (ha pins s Z H Q I h) fun c s1 e=>?_);cases c with
 | true=>exact isTrue_and_nil e
 | false=>exact e
theorem sC (ha:PT X a tA):PW X (.BoolOp .Or [a] pos) tA:=by
 intro wh pins s Z H Q I h;refine isTrue_or (thn (ha pins s Z H Q I h) fun c s1 e=>?_);cases c with
 | false=>exact isTrue_or_nil e
 | true=>exact e
theorem sD (ha:PT X a tA) (hb:PW X (.BoolOp .And (b::M3) pos) tB'):PW X (.BoolOp .And (a::b::M3) pos) (tAnd tA tB'):=by
 intro wh pins s Z H Q I h;refine isTrue_and (thn (ha pins s Z H _ I h) fun c s1 hZ2=>?_);obtain ⟨H1,I1,q1⟩:=hZ2;cases c with
 | true=>exact hb wh pins s1 Z H1 Q I1 q1
 | false=>exact ⟨H1,I1,q1⟩
theorem pw_or (ha:PT X a tA) (hb:PW X (.BoolOp .Or (b::M3) pos) tB'):PW X (.BoolOp .Or (a::b::M3) pos) (tOr tA tB'):=by
 intro wh pins s Z H Q I h;refine isTrue_or (thn (ha pins s Z H _ I h) fun c s1 hZ2=>?_);obtain ⟨H1,I1,q1⟩:=hZ2;cases c with
 | true=>exact ⟨H1,I1,q1⟩
 | false=>exact hb wh pins s1 Z H1 Q I1 q1
theorem sE (ha:PT X a tA):PT X (.UnaryOp .Not a pos) (tNot tA):=by
 intro pins s Z H Q I h;exact isTrue_not (ha pins s Z H (fun c H1=>Q (!c) H1) I h)
def tAndV (ta tb:TE):TE:=fun Z H Q=>ta Z H fun x H1=>∃ c,x=.bl c/\if c=true then tb Z H1 Q else Q (.bl false) H1
theorem iL {op} {t:TE} (h:PE X a t):PE X (.BoolOp op [a] pos) t:=fun pins s Z H Q I hw=>BoolOp_one (h pins s Z H Q I hw)
theorem iT (ha:PE X a ta) (hb:PE X (.BoolOp .And (b::M3) pos) tb):PE X (.BoolOp .And (a::b::M3) pos) (tAndV ta tb):=by
 intro pins s Z H Q I h;refine BoolOp_and (thn (ha pins s Z H _ I h) fun v s1 hZ2=>?_);obtain ⟨x,H1,I1,r1,q1⟩:=hZ2;obtain ⟨c,rfl,q1⟩:=q1;cases r1;refine a9 ?_;cases c with
 | true=>exact hb pins s1 Z H1 Q I1 q1
 | false=>exact ⟨.bl false,H1,I1,rfl,q1⟩
def tIf (t:TT) (ta tb:TE):TE:=fun Z H Q=>t Z H fun c H1=>if c=true then ta Z H1 Q else tb Z H1 Q
theorem iQ {c:Expr} (hc:PT X c tA) (ha:PE X a ta) (hb:PE X b tb):PE X (.IfExp c a b pos) (tIf tA ta tb):=by
 intro pins s Z H Q I h;refine wpAny_IfExp (thn (hc pins s Z H _ I h) fun d s1 hZ2=>?_);obtain ⟨H1,I1,q1⟩:=hZ2;cases d with
 | true=>exact ha pins s1 Z H1 Q I1 q1
 | false=>exact hb pins s1 Z H1 Q I1 q1
end
end L2
namespace L2
open PySem PySem.Spec PyProof.Rows
def SqL (K:vB) (H:Hp) (a:vG) (xs:List V):Prop :=
 Rd H a (.lst xs) \/
   ∃ (o:Obj) (its:Array uY) (n:Nat),K.lookup a=some o/\o.cls=.type "list" /\ o.dict=none/\o.data=.seq its n/\its.size<=sizeLine/\Vals xs its.toList
def SqT (K:vB) (H:Hp) (a:vG) (xs:List V):Prop :=
 Rd H a (.tup xs) \/
   ∃ (o:Obj) (its:Array uY) (n:Nat),K.lookup a=some o/\o.cls=.type "tuple" /\ o.data=.seq its n/\its.size<=sizeLine/\Vals xs its.toList
def absV:uY->Option V
 | .none=>some .non
 | .bool b=>some (.bl b)
 | .int i _=>some (.int i)
 | .str x _=>some (.str x)
 | .bytes b _=>some (.byt b)
 | .float b _=>some (.flt b)
 | .ref a=>some (.ref a)
 | .type n=>some (.ty n)
 | _=>none
theorem RelV.abs {x:V} {u:uY} (r:RelV x u):absV u=some x:=by
 cases x with
 | non=>cases r; rfl
 | bl _=>cases r; rfl
 | int _=>obtain ⟨t,rfl⟩:=r; rfl
 | str _=>obtain ⟨t,rfl⟩:=r; rfl
 | byt _=>obtain ⟨t,rfl⟩:=r; rfl
 | flt _=>obtain ⟨t,rfl⟩:=r; rfl
 | ref _=>cases r; rfl
 | ty _=>cases r; rfl
theorem RelV.inj {x y:V} {u:uY} (r:RelV x u) (q:RelV y u):x=y:=xH (r.abs.symm.trans q.abs)
theorem Vals.inj {xs:List V}:∀ {ys:List V} {us:List uY},Vals xs us->Vals ys us->xs=ys:=by
 induction xs with
 | nil=>intro ys us h q; cases h; cases q; rfl
 | cons x xs ih=>intro ys us h q; cases h with | cons r t=>cases q with | cons r' t'=>rw [r.inj r',ih t t']
section
variable {X:Cx} {pins:List (vG×Obj)} {Z:St} {H:Hp} {s:uZ} {a:vG} {xs ys:List V}
theorem Inv.list (I:Inv X pins Z H s) (h:SqL X.K H a xs):∃ its:List uY,Vals xs its/\PlainL s.heap a its.toArray/\xs.length<=sizeLine:=by
 rcases h with h | ⟨o,its,n,hk,hc,hd,hs,hz,r⟩
 . obtain ⟨z,its,n,r,e⟩:=h.ok I.hok
   exact ⟨its,r,⟨_,n,e,rfl,rfl,rfl⟩,z⟩
 . refine ⟨its.toList,r,⟨o,n,I.kIn a o hk,hc,hd,by simpa using hs⟩,?_⟩
   have e:=r.length; simp only [xF] at e;lia
theorem Inv.tuple (I:Inv X pins Z H s) (h:SqT X.K H a xs):∃ its:List uY,Vals xs its/\EN s.heap a its.toArray/\xs.length<=sizeLine:=by
 rcases h with h | ⟨o,its,n,hk,hc,hs,hz,r⟩
 . obtain ⟨z,its,r,p⟩:=h.ok I.hok
   exact ⟨its,r,p,z⟩
 . refine ⟨its.toList,r,⟨o,I.kIn a o hk,hc,n,by simpa using hs⟩,?_⟩
   have e:=r.length; simp only [xF] at e;lia
theorem Inv.list_inj (I:Inv X pins Z H s) (h:SqL X.K H a xs) (h':SqL X.K H a ys):xs=ys:=by
 obtain ⟨its,r,⟨o,n,e,_,_,d⟩,_⟩:=I.list h;obtain ⟨its',r',⟨o',n',e',_,_,d'⟩,_⟩:=I.list h';rw [e] at e'; cases e';rw [d] at d';injection d' with d1 _
 have:its=its':=by simpa using congrArg IK d1
 subst this;exact r.inj r'
theorem Inv.tuple_inj (I:Inv X pins Z H s) (h:SqT X.K H a xs) (h':SqT X.K H a ys):xs=ys:=by
 obtain ⟨its,r,⟨o,e,_,n,d⟩,_⟩:=I.tuple h;obtain ⟨its',r',⟨o',e',_,n',d'⟩,_⟩:=I.tuple h';rw [e] at e'; cases e';rw [d] at d';injection d' with d1 _
 have:its=its':=by simpa using congrArg IK d1
 subst this;exact r.inj r'
end
abbrev Cx.wish (X:Cx) (E:uY->uZ->Prop):Cx:={ X with xe:=E }
abbrev Cx.nox (X:Cx):Cx:=X.wish fun _ _=>False
theorem Cx.Ok.wish {X:Cx} (ok:X.Ok) (E:uY->uZ->Prop):(X.wish E).Ok :=
 ⟨ok.mod,ok.kind,ok.glob,ok.blt,ok.above,ok.inj,ok.has,ok.cab,ok.hd,ok.frames,ok.stk,ok.exf,ok.bs,ok.bsz,ok.noex,ok.exfs,ok.funs,ok.frf⟩
theorem Cx.Ok.unwish {X:Cx} {E:uY->uZ->Prop} (ok:(X.wish E).Ok):X.Ok :=
 ⟨ok.mod,ok.kind,ok.glob,ok.blt,ok.above,ok.inj,ok.has,ok.cab,ok.hd,ok.frames,ok.stk,ok.exf,ok.bs,ok.bsz,ok.noex,ok.exfs,ok.funs,ok.frf⟩
section
variable {X:Cx} {pins:List (vG×Obj)} {Z:St} {H:Hp} {s:uZ} {E:uY->uZ->Prop}
theorem Inv.wish (I:Inv X pins Z H s) (E:uY->uZ->Prop):Inv (X.wish E) pins Z H s:=⟨I.ok.wish E,I.os,I.bare,I.base,I.loc,I.cell,I.free,I.freeC,I.pin,I.hok,I.len⟩
theorem Inv.unwish (I:Inv (X.wish E) pins Z H s):Inv X pins Z H s:=⟨I.ok.unwish,I.os,I.bare,I.base,I.loc,I.cell,I.free,I.freeC,I.pin,I.hok,I.len⟩
theorem SP.unwish {D:Ends} {f:Flow} {s':uZ} (h:SP (X.wish E) pins D f s'):SP X pins D f s':=by
 cases f with
 | next=>obtain ⟨Z',H',I,q⟩:=h; exact ⟨Z',H',I.unwish,q⟩
 | brk=>obtain ⟨Z',H',I,q⟩:=h; exact ⟨Z',H',I.unwish,q⟩
 | cont=>obtain ⟨Z',H',I,q⟩:=h; exact ⟨Z',H',I.unwish,q⟩
 | ret u=>obtain ⟨v,Z',H',I,r,q⟩:=h; exact ⟨v,Z',H',I.unwish,r,q⟩
theorem PSs.nox {st:List k8} {t:TS} (h:PSs X.nox st t):PSs X st t:=fun pins s Z H D I hw =>
 xT (h pins s Z H D (I.wish _) hw) (fun _ _ q=>q.unwish) fun _ _ z=>i3 z
end
section
variable {X:Cx} {st:k8} {M3:List k8} {t u:TS} {e:Expr} {te:TE} {pos:Pos}
def tNext:TS:=fun D Z H=>D.nx Z H
def tSeq (t u:TS):TS:=fun D Z H=>t { D with nx:=u D } Z H
theorem aP:PSs X [] tNext:=fun _ _ Z H _ I h=>EW ⟨Z,H,I,h⟩
theorem Nr (h1:PS X st t) (h2:PSs X M3 u):PSs X (st::M3) (tSeq t u):=by
 intro pins s Z H D I h;refine HP (thn (h1 pins s Z H { D with nx:=u D } I h) fun f s1 q=>?_);cases f with
 | next =>
   obtain ⟨Z',H',I',q⟩:=q; exact h2 pins s1 Z' H' D I' q
 | ret v=>exact q
 | brk=>exact q
 | cont=>exact q
theorem Hl (h1:PS X st t):PSs X [st] t:=by
 intro pins s Z H D I h;refine HP (thn (h1 pins s Z H D I h) fun f s1 q=>?_);cases f with
 | next=>exact EW q
 | ret v=>exact q
 | brk=>exact q
 | cont=>exact q
theorem Inv.quiet {pins:List (vG×Obj)} {Z:St} {H:Hp} {s:uZ} (I:Inv X pins Z H s):interactive X.env=false:=by simp [interactive,I.ok.kind]
def tDrop (te:TE):TS:=fun D Z H=>te Z H fun _ H1=>D.nx Z H1
theorem Ta (he:PE X e te) (hs:zX e none pos.line X.env=pure false:=by rfl):PS X (.Expr e pos) (tDrop te):=by
 intro pins s Z H D I h;exact wpAny_Expr_any (thn (he pins s Z H _ I h) fun v s1 hZ2=>by obtain ⟨x,H1,I1,r1,q1⟩:=hZ2; exact ⟨Z,H1,I1,q1⟩) I.quiet hs
def tRet (te:TE):TS:=fun D Z H=>te Z H D.rt
theorem Yr (he:PE X e te):PS X (.Return (some e) pos) (tRet te):=by
 intro pins s Z H D I h;exact wpAny_Return_some (thn (he pins s Z H _ I h) fun v s1 hZ2=>by obtain ⟨x,H1,I1,r1,q1⟩:=hZ2; exact ⟨x,Z,H1,I1,r1,q1⟩)
def tIfS (c:TT) (t u:TS):TS:=fun D Z H=>c Z H fun b H1=>if b=true then t D Z H1 else u D Z H1
theorem qL {c:Expr} {a b:List k8} {tc:TT} (hc:PT X c tc) (ha:PSs X a t) (hb:PSs X b u):PS X (.If c a b pos) (tIfS tc t u):=by
 intro pins s Z H D I h;refine wpAny_If (thn (hc pins s Z H _ I h) fun d s1 hZ2=>?_);obtain ⟨H1,I1,q1⟩:=hZ2;cases d with
 | true=>exact ha pins s1 Z H1 D I1 q1
 | false=>exact hb pins s1 Z H1 D I1 q1
end
abbrev TG:=V->St->Hp->(St->Hp->Prop)->Prop
abbrev TGs:=List V->St->Hp->(St->Hp->Prop)->Prop
def PG (X:Cx) (target:Expr) (t:TG):Prop :=
 ∀ (pins:List (vG×Obj)) (s:uZ) (Z:St) (H:Hp) (v:V) (u:uY) (Q:St->Hp->Prop),Inv X pins Z H s->RelV v u->t v Z H Q ->
   wpAny (vS X.prog X.w) X.A (assign target X.env u) (fun _ s'=>∃ Z' H',Inv X pins Z' H' s'/\Q Z' H') X.xe s
def PGs (X:Cx) (ts:List Expr) (t:TGs):Prop :=
 ∀ (pins:List (vG×Obj)) (s:uZ) (Z:St) (H:Hp) (vs:List V) (us:List uY) (Q:St->Hp->Prop),Inv X pins Z H s->Vals vs us->t vs Z H Q ->
   wpAny (vS X.prog X.w) X.A (assignInOrder ((GL ts X.env).map (·.2)) us) (fun _ s'=>∃ Z' H',Inv X pins Z' H' s'/\Q Z' H') X.xe s
section
variable {X:Cx} {pos:Pos}
def Ar (i:Nat):TG:=fun v Z H Q=>Q (Z.set i (some v)) H
theorem Cl {i:Nat} {x:Str} (hN:X.N.Nodup) (hi:X.N[i]? = some x) (hx:Loc X.env.scope x) (hf:X.fn x=true\/X.env.scope.names.lookup x=some .local:=by first | exact .inl rfl | exact .inr rfl | assumption):PG X (.Name x pos) (Ar i):=by
 intro pins s Z H v u Q I r h;exact wpAny_assign_Name (Mj I hN hi hx r (fun s' I'=>⟨_,H,I',h⟩) hf)
def tY:TGs:=fun vs Z H Q=>vs=[]/\Q Z H
def Wm (t:TG) (u:TGs):TGs:=fun vs Z H Q=>∃ v r,vs=v::r/\t v Z H fun Z' H'=>u r Z' H' Q
theorem nF:PGs X [] tY:=by
 intro pins s Z H vs us Q I r h;obtain ⟨e,h⟩:=h;subst e;cases r;exact assignInOrder_nil ⟨Z,H,I,h⟩
theorem Vn {e:Expr} {es:List Expr} {t:TG} {u:TGs} (h1:PG X e t) (h2:PGs X es u)
   (hs:(GL (e::es) X.env).map (·.2)=assign e X.env::(GL es X.env).map (·.2):=by rfl):PGs X (e::es) (Wm t u):=by
 intro pins s Z H vs us Q I r h;obtain ⟨v,vr,e1,h⟩:=h;subst e1;cases r with
 | cons r rr =>
   rw [hs]; refine assignInOrder_cons (thn (h1 pins s Z H _ _ _ I r h) fun _ s1 hZ2=>?_);obtain ⟨Z1,H1,I1,q1⟩:=hZ2; exact h2 pins s1 Z1 H1 _ _ Q I1 rr q1
def tX (K:vB) (n:Nat) (t:TGs):TG:=fun v Z H Q=>∃ a xs,v=.ref a/\SqT K H a xs/\xs.length=n/\t xs Z H Q
theorem sF {es:List Expr} {k:Nat} {t:TGs} {n:Nat} (hc:X.calm=true) (h:PGs X es t)
   (hn:(GL es X.env).length=n:=by rfl) (hst:(GL es X.env).findIdx? (·.1)=none:=by rfl):PG X (.Tuple es k pos) (tX X.K n t):=by
 intro pins s Z H v u Q I r hw;obtain ⟨a,xs,e1,hq,hl,hw⟩:=hw;subst e1;cases r;obtain ⟨its,rv,ht,hz⟩:=I.tuple hq;refine assign_Tuple_tuple (I.ok.hd hc) ht (by simp [hn,<- hl,rv.length]) hst fun h' hx=>?_;have I1:Inv X pins Z H { s with heap:=h' }:=I.kept (t':=s.toks) fun b o e=>hx b o (wL (vR e)) e;exact h pins _ Z H xs _ Q I1 (by simpa using rv) hw
def tAsg (te:TE) (g:TG):TS:=fun D Z H=>te Z H fun x H1=>g x Z H1 D.nx
theorem Iv {i:Nat} {x:Str} {e:Expr} {te:TE} {pos':Pos} (hN:X.N.Nodup) (hi:X.N[i]? = some x) (hx:Loc X.env.scope x) (he:PE X e te) (hs:zX e (some (.Name x pos')) pos.line X.env=pure false:=by rfl) (hf:X.fn x=true\/X.env.scope.names.lookup x=some .local:=by first | exact .inl rfl | exact .inr rfl | assumption) :
   PS X (.Assign [.Name x pos'] e pos) (tAsg te (Ar i)):=by
 intro pins s Z H D I h;refine wpAny_Assign_Name (thn (he pins s Z H _ I h) fun v s1 hY4=>?_) hs;obtain ⟨y,H1,I1,r1,q1⟩:=hY4;exact Mj I1 hN hi hx r1 (fun s2 I2=>⟨_,H1,I2,q1⟩) hf
end
section
variable {X:Cx} {pos:Pos}
def rE (c:TT) (tb:TS):TS:=fun D Z H=>∃ W:Nat->St->Hp->Prop,(∃ m,W m Z H)/\∀ m Z H,W m Z H ->
 c Z H fun b H1=>if b=true then ∃ N:St->Hp->Prop,(∀ Z' H',N Z' H'->∃ m',m' < m/\W m' Z' H')/\tb { D with nx:=N,ct:=N,bk:=D.nx } Z H1 else D.nx Z H1
theorem iG {c:Expr} {body:List k8} {tc:TT} {tb:TS} (hp:PassesOwn (vS X.prog X.w) X.A X.env X.xe) (hc:PT X c tc) (hb:PSs X body tb):PS X (.While c body [] pos) (rE tc tb):=by
 intro pins s Z H D I h;obtain ⟨W,⟨m0,w0⟩,turn⟩:=h;refine wpAny_While (codeAny_whileLoop (fun n s'=>∃ Z' H',Inv X pins Z' H' s'/\W n Z' H') ?_ m0 ⟨Z,H,I,w0⟩);rintro n s1 ⟨Z1,H1,I1,w1⟩;refine q9 hp (thn (hc pins s1 Z1 H1 _ I1 (turn n Z1 H1 w1)) fun b s2 hZ2=>?_);obtain ⟨H2,I2,q2⟩:=hZ2;cases b with
 | true =>
   obtain ⟨N,hN,q2⟩:=q2; rw [if_pos rfl]; refine q9 hp (thn (hb pins s2 Z1 H2 _ I2 q2) fun f s3 q3=>?_);cases f with
   | next =>
     obtain ⟨Z3,H3,I3,n3⟩:=q3; obtain ⟨m',hm,w3⟩:=hN Z3 H3 n3; exact ⟨m',hm,Z3,H3,I3,w3⟩
   | cont =>
     obtain ⟨Z3,H3,I3,n3⟩:=q3; obtain ⟨m',hm,w3⟩:=hN Z3 H3 n3; exact ⟨m',hm,Z3,H3,I3,w3⟩
   | brk=>exact q3
   | ret v=>exact q3
 | false =>
   rw [if_neg zQ]; exact EW ⟨Z1,H2,I2,q2⟩
end
structure It where
 go:Nat->Hp->Prop
 yld:Nat->Hp->V->Hp->Prop
 stop:Nat->Hp->Prop
def Ow (X:Cx) (pins:List (vG×Obj)) (H:Hp) (b:vG):Prop :=
 H b=none/\b≠X.env.locals/\b∉X.fs/\(b∈X.ex\/X.s₀.heap.objs.size<=b)/\(∀ x c,X.env.cells.lookup x=some c->c≠b)/\∀ p∈X.pn++pins,p.1≠b
theorem Inv.fpOk {X:Cx} {pins:List (vG×Obj)} {Z:St} {H H':Hp} {s:uZ} {b:vG} (I:Inv X pins Z H s) (hb:s.heap.objs.size<=b) (hn:H' b=none):Ow X pins H' b:=by
 refine ⟨hn,m8 (wG I.lt hb),I.nofs hb,.inr (vX I.sz hb),fun x c e z=>?_,fun p hp z=>?_⟩
 . obtain ⟨v,q⟩:=I.cell x c e
   exact absurd (wG q.lt (by rw [z]; exact hb)) (zU _)
 . exact absurd (wG (vR (I.pin p hp).1) (by rw [z]; exact hb)) (zU _)
structure Turn (P:vU) (w:wD) (K:vB) (tg:Expr) (J:It) (fp:List vG) (it:vG) (tn:Nat->wT->Prop):Prop where
 mem:it∈fp
 obj:∀ i h,tn i h->∀ b∈fp,∃ o,h.get? b=some o/\∀ v,o.data≠.cell v
 keep:∀ i h h',tn i h->(∀ b∈fp,∀ o,h.get? b=some o->h'.get? b=some o)->tn i h'
 item:∀ (X:Cx),X.prog=P->X.w=w->X.K=K->X.calm=true->∀ (i:Nat) (pins:List (vG×Obj)) (s:uZ) (Z:St) (H:Hp) (E:uY->uZ->Prop),Inv X pins Z H s->(∀ b∈fp,Ow X pins H b)->tn i s.heap->J.go i H ->
   wpAny (vS P w) X.A (pyNext (.ref it)) (fun r s1=>∃ u,r=some u /\
     wpAny (vS P w) X.A (EX tg (.ref it) u) (fun _ s2=>∃ x H',Inv X pins Z H' s2/\RelV x u/\J.yld i H x H'/\tn (i+1) s2.heap/\∀ b∈fp,H' b=none) E s1) E s
 done:∀ (X:Cx),X.prog=P->X.w=w->X.K=K->X.calm=true->∀ (i:Nat) (pins:List (vG×Obj)) (s:uZ) (Z:St) (H:Hp) (E:uY->uZ->Prop),Inv X pins Z H s->(∀ b∈fp,Ow X pins H b)->tn i s.heap->J.stop i H ->
   wpAny (vS P w) X.A (pyNext (.ref it)) (fun r s1=>r=none/\Inv X pins Z H s1) E s
 self:∀ (A:xD) (i:Nat) (s:uZ) (Q:uY->uZ->Prop) (E:uY->uZ->Prop),tn i s.heap->Q (.ref it) s->wpAny (vS P w) A (HQ (.ref it)) Q E s
abbrev TI:=St->Hp->(It->Hp->Prop)->Prop
def PIE (X:Cx) (pins:List (vG×Obj)) (Z:St) (tg:Expr) (R:It->Hp->Prop) (itv:uY) (s2:uZ):Prop :=
 ∃ (it:vG) (fp:List vG) (tn:Nat->wT->Prop) (J:It) (H':Hp),itv=.ref it/\Inv X pins Z H' s2/\Turn X.prog X.w X.K tg J fp it tn/\tn 0 s2.heap/\(∀ b∈fp,Ow X pins H' b)/\R J H'
def PI (X:Cx) (tg iter:Expr) (wi:TI):Prop :=
 ∀ (pins:List (vG×Obj)) (s:uZ) (Z:St) (H:Hp) (R:It->Hp->Prop),Inv X pins Z H s->wi Z H R ->
   wpAny (vS X.prog X.w) X.A (eval iter X.env) (fun v s1=>wpAny (vS X.prog X.w) X.A (HQ v) (PIE X pins Z tg R) X.xe s1) X.xe s
theorem Re {M:HF} {A:xD} {E:uY->uZ->Prop} {s:uZ} {tg:Expr} {it:vG} {u:uY} {o:Obj} {n:String} {vs:Array uY} {Q:Unit->uZ->Prop} (ho:s.heap.get? it=some o) (hc:o.cls=.type n) (hd:o.data=.fields vs)
   (hn:["enumerate", "zip", "dict_itemiterator", "dict_reverseitemiterator", "odict_iterator", "itertools.zip_longest", "itertools.pairwise"].contains n=false) (hQ:Q () s):wpAny M A (EX tg (.ref it) u) Q E s:=by
 unfold EX;cases tg <;> first
   | exact uX hQ
   | (cases u <;> first
       | exact uX hQ
       | (refine uW (IP ho ?_)
          rw [hc,hd]; show wpAny M A (if (["enumerate", "zip", "dict_itemiterator", "dict_reverseitemiterator", "odict_iterator", "itertools.zip_longest", "itertools.pairwise"].contains n&&vs[0]? == some (n8 _))=true then _ else _) Q E s;rw [if_neg (by intro h; rw [hn,Bool.false_and] at h; cases h)];exact uX hQ))
def Itl (K:vB) (a:vG):It :=
 ⟨fun i H=>∃ xs x,SqL K H a xs/\xs[i]? = some x,fun i H x H'=>H'=H/\∀ xs,SqL K H a xs->xs[i]? = some x,fun i H=>∃ xs,SqL K H a xs/\xs.length<=i⟩
def Itt (K:vB) (a:vG):It :=
 ⟨fun i H=>∃ xs x,SqT K H a xs/\xs[i]? = some x,fun i H x H'=>H'=H/\∀ xs,SqT K H a xs->xs[i]? = some x,fun i H=>∃ xs,SqT K H a xs/\xs.length<=i⟩
def Itr (lo:Int) (n:Nat):It:=⟨fun i _=>i < n,fun i H x H'=>H'=H/\x=.int (lo+i),fun i _=>n<=i⟩
theorem cG {P:vU} {w:wD} {K:vB} {tg:Expr} (a it:vG):Turn P w K tg (Itl K a) [it] it (fun i h=>h.IsListIter it a i) where
 mem:=by simp
 obj:=fun i h st b hb=>by
   have e:b=it:=by simpa using hb
   subst e; obtain ⟨o,e,c,d⟩:=st; exact ⟨o,e,fun v z=>by rw [d] at z; cases z⟩
 keep:=fun i h h' st k=>st.at fun o e=>k it (by simp) o e
 item:=by
   intro X hP hw hK hc i pins s Z H E I hf st hg; subst hP hw hK; obtain ⟨xs,x,hq,hx⟩:=hg; obtain ⟨its,rv,p,hz⟩:=I.list hq; obtain ⟨u,hu,ru⟩:=rv.get hx; obtain ⟨f0,f1,f2,f3,f4,f5⟩:=hf it (by simp);refine wpAny_pyNext_list_item st p.isList (x:=u) (by simpa using hu) fun h' st' sb=>?_;have I1:Inv X pins Z H { s with heap:=h' }:=I.turned (t':=s.toks) (fun b o hb e=>(sb.2 b hb).trans e) f0 f1 f3 f4 f5;obtain ⟨o,e,c,d⟩:=id st'; exact ⟨u,rfl,Re (s:={ s with heap:=h' }) e c d (by decide) ⟨x,H,I1,ru,⟨rfl,fun ys hy=>by rw [I.list_inj hy hq]; exact hx⟩,st',fun b hb=>(hf b hb).1⟩⟩
 done:=by
   intro X hP hw hK hc i pins s Z H E I hf st hg; subst hP hw hK; obtain ⟨xs,hq,hx⟩:=hg; obtain ⟨its,rv,p,hz⟩:=I.list hq; obtain ⟨f0,f1,f2,f3,f4,f5⟩:=hf it (by simp);have hl:=rv.length; exact wpAny_pyNext_list_end (I.ok.hd hc) st p.isList (by simp; lia) fun h' eb=>⟨rfl,I.turned (t':=s.toks) (fun b o hb e=>eb b o hb e) f0 f1 f3 f4 f5⟩
 self:=fun _ _ _ _ _ st h=>wpAny_pyIter_listiter st h
theorem Xv {P:vU} {w:wD} {K:vB} {tg:Expr} (a it:vG):Turn P w K tg (Itt K a) [it] it (fun i h=>h.IsTupleIter it a i) where
 mem:=by simp
 obj:=fun i h st b hb=>by
   have e:b=it:=by simpa using hb
   subst e; obtain ⟨o,e,c,d⟩:=st; exact ⟨o,e,fun v z=>by rw [d] at z; cases z⟩
 keep:=fun i h h' st k=>st.at fun o e=>k it (by simp) o e
 item:=by
   intro X hP hw hK hc i pins s Z H E I hf st hg; subst hP hw hK; obtain ⟨xs,x,hq,hx⟩:=hg; obtain ⟨its,rv,p,hz⟩:=I.tuple hq; obtain ⟨u,hu,ru⟩:=rv.get hx; obtain ⟨f0,f1,f2,f3,f4,f5⟩:=hf it (by simp);refine wpAny_pyNext_tuple_item st (show s.heap.IsTuple a its.toArray from p) (x:=u) (by simpa using hu) fun h' st' sb=>?_;have I1:Inv X pins Z H { s with heap:=h' }:=I.turned (t':=s.toks) (fun b o hb e=>(sb.2 b hb).trans e) f0 f1 f3 f4 f5;obtain ⟨o,e,c,d⟩:=id st'; exact ⟨u,rfl,Re (s:={ s with heap:=h' }) e c d (by decide) ⟨x,H,I1,ru,⟨rfl,fun ys hy=>by rw [I.tuple_inj hy hq]; exact hx⟩,st',fun b hb=>(hf b hb).1⟩⟩
 done:=by
   intro X hP hw hK hc i pins s Z H E I hf st hg; subst hP hw hK; obtain ⟨xs,hq,hx⟩:=hg; obtain ⟨its,rv,p,hz⟩:=I.tuple hq; obtain ⟨f0,f1,f2,f3,f4,f5⟩:=hf it (by simp);have hl:=rv.length; exact wpAny_pyNext_tuple_end (I.ok.hd hc) st (show s.heap.IsTuple a its.toArray from p) (by simp; lia) fun h' eb=>⟨rfl,I.turned (t':=s.toks) (fun b o hb e=>eb b o hb e) f0 f1 f3 f4 f5⟩
 self:=fun _ _ _ _ _ st h=>wpAny_pyIter_tupleiter st h
theorem Xw {P:vU} {w:wD} {K:vB} {tg:Expr} (it:vG) (lo:Int) (n:Nat):Turn P w K tg (Itr lo n) [it] it (fun i h=>IsRangeIter h it (lo+(i:Nat)*1) ((n:Int) - (i:Nat)) 1) where
 mem:=by simp
 obj:=fun i h st b hb=>by
   have e:b=it:=by simpa using hb
   subst e; exact ⟨_,st,fun v z=>by
     have z':Data.fields _=Data.cell v:=z;cases z'⟩
 keep:=fun i h h' st k=>k it (by simp) _ st
 item:=by
   intro X hP hw hK hc i pins s Z H E I hf st hg; subst hP hw hK; obtain ⟨f0,f1,f2,f3,f4,f5⟩:=hf it (by simp);have W:=Walks.range (prog:=X.prog) (w:=X.w) (I.ok.hd hc) it lo 1 n; refine W.item i s _ _ hg st fun v h' tk hv st' kk=>?_;obtain ⟨t,rfl⟩:=hv; have I1:Inv X pins Z H { s with heap:=h',toks:=tk }:=I.turned (fun b o hb e=>kk b o (by simpa using hb) e) f0 f1 f3 f4 f5;refine ⟨_,rfl,Re (s:={ s with heap:=h',toks:=tk }) (n := "range_iterator") st' rfl rfl (by decide) ⟨.int (lo+i),H,I1,⟨t,?_⟩,⟨rfl,rfl⟩,st',fun b hb=>(hf b hb).1⟩⟩;rw [Int.mul_one]
 done:=by
   intro X hP hw hK hc i pins s Z H E I hf st hg; subst hP hw hK; obtain ⟨f0,f1,f2,f3,f4,f5⟩:=hf it (by simp);exact wpAny_pyNext_range_end (I.ok.hd hc) st (by have:n<=i:=hg; lia) fun h' eb=>⟨rfl,I.turned (t':=s.toks) (fun b o hb e=>eb b o hb e) f0 f1 f3 f4 f5⟩
 self:=fun _ _ _ _ _ st h=>wpAny_pyIter_rangeiter st h
end L2
namespace L2
open PySem PySem.Spec PyProof.Rows
section
variable {X:Cx} {tg:Expr}
theorem iB {pins:List (vG×Obj)} {Z:St} {H:Hp} {s:uZ} {R:It->Hp->Prop} {E:uY->uZ->Prop} {lo hi:Int} {t u v:Tok} {tk:Nat} (I:Inv X pins Z H s) (h1 : -(2 ^ 62)<=lo) (h2:lo < 2 ^ 62) (h3 : -(2 ^ 62)<=hi) (h4:hi < 2 ^ 62)
   (q:R (Itr lo (hi - lo).toNat) H):wpAny (vS X.prog X.w) X.A (HQ (.ref s.heap.objs.size)) (PIE X pins Z tg R) E { s with heap:=s.heap.push { cls:=.type "range",data:=.fields #[.int lo t,.int hi u,.int 1 v] },toks:=tk }:=by
 refine wpAny_pyIter_range (IsRange.new ..) (small_one h1 h2 h3 h4) ?_;have I1:Inv X pins Z H { s with heap:=s.heap.push { cls:=.type "range",data:=.fields #[.int lo t,.int hi u,.int 1 v] },toks:=tk }:=I.kept fun b o e=>vD _ e;refine ⟨(s.heap.push { cls:=.type "range",data:=.fields #[.int lo t,.int hi u,.int 1 v] }).objs.size,[(s.heap.push { cls:=.type "range",data:=.fields #[.int lo t,.int hi u,.int 1 v] }).objs.size],_,_,H,rfl,
   I1.kept (t':=tk) fun b o e=>vD _ e,Xw _ lo (hi - lo).toNat,?_,fun b hb=>?_,q⟩
 . have e1:lo+((0:Nat):Int)*1=lo:=by simp
   have e2:(((hi - lo).toNat:Nat):Int) - ((0:Nat):Int)=Builtin.Range.rangeSize lo hi 1:=by rw [rangeSize_one]; split <;> lia
   show IsRangeIter _ _ (lo+((0:Nat):Int)*1) ((((hi - lo).toNat:Nat):Int) - ((0:Nat):Int)) 1;rw [e1,e2]; exact vH _ rfl
 . have e:b=(s.heap.push { cls:=.type "range",data:=.fields #[.int lo t,.int hi u,.int 1 v] }).objs.size:=by simpa using hb
   subst e; exact I1.fpOk (vL _) (I1.hok.fresh (vL _))
def iRng1 (ta:TA):TI:=fun Z H R=>ta Z H fun vs H1=>∃ j:Int,vs=[.int j] /\ -(2 ^ 62)<=j/\j < 2 ^ 62/\R (Itr 0 j.toNat) H1
theorem dQ {a:Expr} {ta:TA} {p pos:Pos} (hg:Gl X "range") (hm:X.mg "range" = none) (ha:PA X [a] ta) (hs:vI [a] X.env=[(false,eval a X.env)]:=by rfl):PI X tg (.Call (.Name "range" p) [a] [] pos) (iRng1 ta):=by
 intro pins s Z H R I h;refine Call_ (Jf I hg hm boot_range (k9 (thn (ha pos pins s Z H _ I h) fun us s1 hY6=>?_) hs rfl));obtain ⟨vs,H1,I1,r1,q1⟩:=hY6;obtain ⟨j,e,q1,q2,q⟩:=q1;subst e;cases r1 with
 | cons r rr =>
   cases rr; obtain ⟨t,rfl⟩:=r; exact call_range_1 (iB I1 (by lia) (by lia) q1 q2 (by simpa using q))
def tFor (wi:TI) (g:TG) (tb:TS):TS:=fun D Z H=>wi Z H fun J H1=>∃ W:Nat->Nat->St->Hp->Prop,(∃ m,W 0 m Z H1)/\∀ i m Z H,W i m Z H ->
 (J.stop i H/\D.nx Z H)\/(J.go i H/\∃ N:St->Hp->Prop,(∀ Z' H',N Z' H'->∃ m',m' < m/\W (i+1) m' Z' H')/\∀ x H',J.yld i H x H'->g x Z H' fun Z2 H2=>tb { D with nx:=N,ct:=N,bk:=D.nx } Z2 H2)
def Nt (fp:List vG) (h:wT):List (vG×Obj):=fp.filterMap fun b=>(h.get? b).map fun o=>(b,o)
theorem Fo {fp:List vG} {h:wT} {b:vG} {o:Obj} (hb:b∈fp) (e:h.get? b=some o):(b,o)∈Nt fp h:=CC.mpr ⟨b,hb,by rw [e]; rfl⟩
theorem dX {fp:List vG} {h:wT} {p:vG×Obj} (hp:p∈Nt fp h):p.1∈fp/\h.get? p.1=some p.2:=by
 obtain ⟨b,hb,e⟩:=CC.mp hp;cases q:h.get? b with
 | none=>rw [q] at e; cases e
 | some o =>
   rw [q] at e; have e':(b,o)=p:=xH e; subst e'; exact ⟨hb,q⟩
theorem Inv.pinned {pins:List (vG×Obj)} {Z:St} {H:Hp} {s:uZ} {fp:List vG} (I:Inv X pins Z H s) (hf:∀ b∈fp,Ow X pins H b) (ho:∀ b∈fp,∃ o,s.heap.get? b=some o/\∀ v,o.data≠.cell v):Inv X (pins++Nt fp s.heap) Z H s :=
 I.pins_of fun p hp=>(vT.mp hp).elim (fun z=>I.pin p (yY _ z)) fun z=>by
   obtain ⟨hb,e⟩:=dX z; obtain ⟨f0,f1,f2,_⟩:=hf p.1 hb; obtain ⟨o,e',d⟩:=ho p.1 hb; rw [e] at e'; cases e'; exact ⟨e,f0,f1,f2,d⟩
theorem Inv.unpinned {pins pl:List (vG×Obj)} {Z:St} {H:Hp} {s:uZ} (I:Inv X (pins++pl) Z H s):Inv X pins Z H s:=I.pins_of fun p hp=>I.pin p (yY _ (EQ _ hp))
theorem iH {iter:Expr} {body:List k8} {wi:TI} {g:TG} {tb:TS} {pos:Pos} (hp:PassesOwn (vS X.prog X.w) X.A X.env X.xe) (hc:X.calm=true) (hi:PI X tg iter wi) (hg:PG X tg g) (hb:PSs X body tb)
   (hs:∀ x,yO iter X.env x=pure x:=by intro _; rfl):PS X (.For tg iter body [] pos) (tFor wi g tb):=by
 intro pins s Z H D I h;refine wpAny_For (thn (hi pins s Z H _ I h) fun v s1 h1=>thn h1 fun itv s2 h2=>?_) hs;obtain ⟨it,fp,tn,J,H2,e,I2,T,st2,f2,W,⟨m0,w0⟩,turn⟩:=h2;subst e;have stat:∀ {H':Hp},(∀ b∈fp,H' b=none)->∀ b∈fp,Ow X pins H' b:=fun hn b hb=>⟨hn b hb,(f2 b hb).2⟩;refine codeAny_forLoop_any (fun n s'=>∃ i Z' H',Inv X pins Z' H' s'/\tn i s'.heap/\(∀ b∈fp,H' b=none)/\W i n Z' H') ?_ m0 ⟨0,Z,H2,I2,st2,fun b hb=>(f2 b hb).1,w0⟩;rintro n s3 ⟨i,Z3,H3,I3,st3,fr3,w3⟩;rcases turn i n Z3 H3 w3 with ⟨stop,qn⟩ | ⟨go,N,hN,step⟩
 . refine q9 hp (thn (T.done X rfl rfl rfl hc i pins s3 Z3 H3 X.xe I3 (stat fr3) st3 stop) fun r s4 hZ2=>?_)
   obtain ⟨hr,I4⟩:=hZ2; subst hr; exact EW ⟨Z3,H3,I4,qn⟩
 . refine q9 hp (thn (T.item X rfl rfl rfl hc i pins s3 Z3 H3 X.xe I3 (stat fr3) st3 go) fun r s4 hZ2=>?_)
   obtain ⟨u,hr,h4⟩:=hZ2; subst hr; refine q9 hp (thn h4 fun _ s5 hZ2=>?_);obtain ⟨x,H5,I5,r5,y5,st5,fr5⟩:=hZ2; have I5':=I5.pinned (stat fr5) (T.obj _ _ st5); refine q9 hp (thn (hg _ s5 Z3 H5 x u _ I5' r5 (step x H5 y5)) fun _ s6 hZ2=>?_);obtain ⟨Z6,H6,I6,q6⟩:=hZ2; refine q9 hp (thn (hb _ s6 Z6 H6 _ I6 q6) fun f s7 q7=>?_);have again:∀ {Z7:St} {H7:Hp},Inv X (pins++Nt fp s5.heap) Z7 H7 s7->N Z7 H7->∃ m,m < n/\∃ i Z' H',Inv X pins Z' H' s7/\tn i s7.heap/\(∀ b∈fp,H' b=none)/\W i m Z' H':=fun {Z7 H7} I7 n7=>by
     obtain ⟨m',hm,w7⟩:=hN Z7 H7 n7; refine ⟨m',hm,i+1,Z7,H7,I7.unpinned,T.keep _ _ _ st5 fun b hb o e=>(I7.pin (b,o) (yY _ (yY _ (Fo hb e)))).1,fun b hb=>?_,w7⟩;obtain ⟨o,e,d⟩:=T.obj _ _ st5 b hb; exact (I7.pin (b,o) (yY _ (yY _ (Fo hb e)))).2.1
   cases f with
   | next=>obtain ⟨Z7,H7,I7,n7⟩:=q7; exact again I7 n7
   | cont=>obtain ⟨Z7,H7,I7,n7⟩:=q7; exact again I7 n7
   | brk=>obtain ⟨Z7,H7,I7,q7⟩:=q7; exact ⟨Z7,H7,I7.unpinned,q7⟩
   | ret v=>obtain ⟨x7,Z7,H7,I7,r7,q7⟩:=q7; exact ⟨x7,Z7,H7,I7.unpinned,r7,q7⟩
end
end L2
namespace L2
open PySem PySem.Spec PyProof.Rows
abbrev R2:=V->V->Hp->VK->Prop
def OpR (X:Cx) (f:uY->uY->Sem uY) (r:R2):Prop :=
 ∀ (pins:List (vG×Obj)) (s:uZ) (Z:St) (H:Hp) (x y:V) (v u:uY) (Q:VK),Inv X pins Z H s->RelV x v->RelV y u->r x y H Q ->
   wpAny (vS X.prog X.w) X.A (f v u) (EP X pins Z Q) X.xe s
def UnR (X:Cx) (f:uY->Sem uY) (r:V->Hp->VK->Prop):Prop :=
 ∀ (pins:List (vG×Obj)) (s:uZ) (Z:St) (H:Hp) (x:V) (v:uY) (Q:VK),Inv X pins Z H s->RelV x v->r x H Q ->
   wpAny (vS X.prog X.w) X.A (f v) (EP X pins Z Q) X.xe s
def U0 (X:Cx) (f:uY) (r:List V->Hp->VK->Prop):Prop :=
 ∀ (pins:List (vG×Obj)) (s:uZ) (Z:St) (H:Hp) (xs:List V) (us:List uY) (Q:VK),Inv X pins Z H s->Vals xs us->r xs H Q ->
   wpAny (vS X.prog X.w) X.A (call f us) (EP X pins Z Q) X.xe s
def TruR (X:Cx) (r:V->Hp->(Bool->Hp->Prop)->Prop):Prop :=
 ∀ (pins:List (vG×Obj)) (s:uZ) (Z:St) (H:Hp) (x:V) (v:uY) (Q:Bool->Hp->Prop),Inv X pins Z H s->RelV x v->r x H Q ->
   wpAny (vS X.prog X.w) X.A (truthy v) (TP X pins Z Q) X.xe s
def tOp (r:R2) (ta tb:TE):TE:=fun Z H Q=>ta Z H fun x H1=>tb Z H1 fun y H2=>r x y H2 Q
def tUn (r:V->Hp->VK->Prop) (ta:TE):TE:=fun Z H Q=>ta Z H fun x H1=>r x H1 Q
def rI (C:Int->Int->Prop) (g:Int->Int->V):R2:=fun x y H Q=>∃ i j,x=.int i/\y=.int j/\C i j/\Q (g i j) H
def rU (g:Int->V):V->Hp->VK->Prop:=fun x H Q=>∃ i,x=.int i/\Q (g i) H
section
variable {X:Cx} {a b:Expr} {ta tb:TE} {pos:Pos}
theorem uO (ha:PE X a ta) (hb:PE X b tb) {pins:List (vG×Obj)} {s:uZ} {Z:St} {H:Hp} {R:V->V->Hp->Prop} (I:Inv X pins Z H s)
   (h:ta Z H fun x H1=>tb Z H1 fun y H2=>R x y H2) {Q:uY->uZ->Prop} {f:uY->uY->Sem uY}
   (hf:∀ v u s2 x y H2,Inv X pins Z H2 s2->RelV x v->RelV y u->R x y H2->wpAny (vS X.prog X.w) X.A (f v u) Q X.xe s2) :
   wpAny (vS X.prog X.w) X.A (eval a X.env) (fun v s₁=>wpAny (vS X.prog X.w) X.A (eval b X.env) (fun u s₂=>wpAny (vS X.prog X.w) X.A (f v u) Q X.xe s₂) X.xe s₁) X.xe s:=by
 refine thn (ha pins s Z H _ I h) fun v s1 hZ2=>?_;obtain ⟨x,H1,I1,r1,q1⟩:=hZ2;refine thn (hb pins s1 Z H1 _ I1 q1) fun u s2 hZ2=>?_;obtain ⟨y,H2,I2,r2,q2⟩:=hZ2;exact hf v u s2 x y H2 I2 r1 r2 q2
theorem pe_op {op:Operator} {r:R2} (ho:OpR X (FO op) r) (ha:PE X a ta) (hb:PE X b tb):PE X (.BinOp a op b pos) (tOp r ta tb):=by
 intro pins s Z H Q I h;exact wpAny_BinOp (uO ha hb I h fun v u s2 x y H2 I2 rx ry q=>ho pins s2 Z H2 x y v u Q I2 rx ry q)
theorem qN {op:UnaryOp} {r:V->Hp->VK->Prop} (ho:UnR X (unaryOp op) r) (ha:PE X a ta):PE X (.UnaryOp op a pos) (tUn r ta):=by
 intro pins s Z H Q I h;exact UnaryOp_ (thn (ha pins s Z H _ I h) fun v s1 hZ2=>by obtain ⟨x,H1,I1,r1,q1⟩:=hZ2; exact ho pins s1 Z H1 x v Q I1 r1 q1)
theorem opI {f:uY->uY->Sem uY} {C:Int->Int->Prop} {g:Int->Int->Int}
   (rule:∀ (i j:Int) (t u:Tok) (s:uZ) (Q:uY->uZ->Prop) (E:uY->uZ->Prop),C i j->Q (.int (g i j) s.toks) { s with toks:=s.toks+1 }->wpAny (vS X.prog X.w) X.A (f (.int i t) (.int j u)) Q E s) :
   OpR X f (rI C fun i j=>.int (g i j)):=by
 intro pins s Z H x y v u Q I rx ry h;obtain ⟨i,j,rfl,rfl,hc,q⟩:=h;obtain ⟨t,rfl⟩:=rx;obtain ⟨t',rfl⟩:=ry;exact rule i j t t' s _ _ hc ⟨.int (g i j),H,I.tok _,⟨_,rfl⟩,q⟩
def CDiv (i j:Int):Prop:=0 < j/\j < 1073741824
def CMul (i j:Int):Prop:=(-(2 ^ 64) < i/\i < 2 ^ 64)\/(-(2 ^ 64) < j/\j < 2 ^ 64)
theorem CMul.ok {i j:Int} (h:CMul i j):IntMulOk i j:=by
 rcases h with ⟨h1,h2⟩ | ⟨h1,h2⟩
 . exact .of_left (intBits_le_64 h1 h2)
 . exact .of_right (intBits_le_64 h1 h2)
theorem nN:OpR X (FO .FloorDiv) (rI CDiv fun i j=>.int (i / j)):=opI fun i j _ _ _ _ _ hc q=>by
 have h1:(0:Int) < j:=hc.1;have h2:j < 1073741824:=hc.2;exact floordiv_int (by lia) (by rw [Int.fdiv_eq_ediv_of_nonneg i (by lia)]; exact q) (.inl (PyProof.noPylong_small (by lia)))
theorem sN:OpR X (FO .Mod) (rI (fun _ j=>0 < j) fun i j=>.int (i % j)):=opI fun i j _ _ _ _ _ hc q=>by
 have h1:(0:Int) < j:=hc;exact mod_int' (by lia) (by rw [Int.fmod_eq_emod_of_nonneg i (by lia)]; exact q)
theorem unI {f:uY->Sem uY} {g:Int->Int}
   (rule:∀ (i:Int) (t:Tok) (s:uZ) (Q:uY->uZ->Prop) (E:uY->uZ->Prop),Q (.int (g i) s.toks) { s with toks:=s.toks+1 }->wpAny (vS X.prog X.w) X.A (f (.int i t)) Q E s) :
   UnR X f (rU fun i=>.int (g i)):=by
 intro pins s Z H x v Q I rx h;obtain ⟨i,rfl,q⟩:=h;obtain ⟨t,rfl⟩:=rx;exact rule i t s _ _ ⟨.int (g i),H,I.tok _,⟨_,rfl⟩,q⟩
theorem fT:UnR X (unaryOp .USub) (rU fun i=>.int (-i)):=unI fun _ _ _ _ _ q=>neg_int q
end
section
variable {X:Cx} {a b c:Expr} {ta tb tc:TE} {pos:Pos}
theorem Fk (b:Expr) {op:c8} (h:op≠.In:=by decide) (h2:op≠.NotIn:=by decide):behindInMarks op b=false:=by
 have e1:(op==CmpOp.In)=false:=by cases op <;> first | rfl | exact absurd rfl h
 have e2:(op==CmpOp.NotIn)=false:=by cases op <;> first | rfl | exact absurd rfl h2
 cases b <;> simp [behindInMarks,e1,e2]
theorem aQ {op:c8} {r:R2} (ho:OpR X (yG op) r) (ha:PE X a ta) (hb:PE X b tb) (hm:behindInMarks op b=false):PE X (.Compare a [op] [b] pos) (tOp r ta tb):=by
 intro pins s Z H Q I h;exact wpAny_Compare1 (uO ha hb I h fun v u s2 x y H2 I2 rx ry q=>ho pins s2 Z H2 x y v u Q I2 rx ry q) hm
def qF (t:TE):TT:=fun Z H Q=>t Z H fun x H'=>∃ k,x=.bl k/\Q k H'
theorem mY {op:c8} {r:R2} (ho:OpR X (yG op) r) (ha:PE X a ta) (hb:PE X b tb) (hm:behindInMarks op b=false):PT X (.Compare a [op] [b] pos) (qF (tOp r ta tb)):=by
 intro pins s Z H Q I h;refine wpAny_isTrue_Compare1 (thn (ha pins s Z H _ I h) fun v s1 hY8=>?_) hm;obtain ⟨x,H1,I1,r1,q1⟩:=hY8;refine thn (hb pins s1 Z H1 _ I1 q1) fun u s2 hY9=>?_;obtain ⟨y,H2,I2,r2,q2⟩:=hY9;refine thn (ho pins s2 Z H2 x y v u _ I2 r1 r2 q2) fun c s3 hY10=>?_;obtain ⟨z,H3,I3,r3,k,e,q3⟩:=hY10;subst e;cases r3;exact a9 ⟨H3,I3,q3⟩
def rK (r r':R2) (ta tb tc:TE):TE:=fun Z H Q=>ta Z H fun x H1=>tb Z H1 fun y H2=>r x y H2 fun z H3=>∃ k,z=.bl k /\
 (if k=true then tc Z H3 fun w' H4=>r' y w' H4 Q else Q (.bl false) H3)
theorem iF {op op':c8} {r r':R2} (ho:OpR X (yG op) r) (ho':OpR X (yG op') r') (ha:PE X a ta) (hb:PE X b tb) (hc:PE X c tc)
   (hm:lastMarks [op,op'] [b,c]=false:=by with_unfolding_all rfl):PT X (.Compare a [op,op'] [b,c] pos) (qF (rK r r' ta tb tc)):=by
 intro pins s Z H Q I h;refine isTrue_chain (thn (ha pins s Z H _ I h) fun v s1 hY14=>?_) hm;obtain ⟨x,H1,I1,r1,q1⟩:=hY14;refine test_link (thn (hb pins s1 Z H1 _ I1 q1) fun u s2 hY15=>?_);obtain ⟨y,H2,I2,r2,q2⟩:=hY15;refine thn (ho pins s2 Z H2 x y v u _ I2 r1 r2 q2) fun d s3 hY16=>?_;obtain ⟨z,H3,I3,r3,k,e,q3⟩:=hY16;subst e;cases r3;refine a9 ?_;cases k with
 | false =>
   obtain ⟨k',e',q'⟩:=q3;cases e'; exact ite_ff ⟨H3,I3,q'⟩
 | true =>
   refine ite_tt (test_last (thn (hc pins s3 Z H3 _ I3 q3) fun w' s4 hY17=>?_));obtain ⟨z',H4,I4,r4,q4⟩:=hY17; refine thn (ho' pins s4 Z H4 y z' u w' _ I4 r2 r4 q4) fun d' s5 hZ2=>?_;obtain ⟨z2,H5,I5,r5,k2,e2,q5⟩:=hZ2; subst e2; cases r5; exact a9 ⟨H5,I5,q5⟩
def uS (K:vB) (x:V) (H:Hp) (k:Bool):Prop :=
 match x with
 | .non=>k=false
 | .bl b=>k=b
 | .int i=>k=(i != 0)
 | .str y=>y.length<=sizeLine/\k=((y.length:Int) != 0)
 | .byt y=>y.size<=sizeLine/\k=((y.size:Int) != 0)
 | .ref p=>(∃ xs,SqL K H p xs/\k = !xs.isEmpty)\/(∃ xs,SqT K H p xs/\k = !xs.isEmpty)\/∃ kvs,H p=some (.dK kvs)/\k = !kvs.isEmpty
 | _=>False
theorem Zc {κ:Type} {kvs:List (κ×V)} {vs:List (κ×uY)} (r:KV kvs vs):(!vs.isEmpty) = !kvs.isEmpty:=by
 cases r <;> rfl
theorem Oa {xs:List V} {its:List uY} (r:Vals xs its):(!its.toArray.isEmpty) = !xs.isEmpty:=by
 cases r <;> simp
theorem Dm:(sizeLine:Nat) < 2 ^ 63:=by rw [j6]; decide
theorem rC:TruR X (fun x H Q=>∃ k,uS X.K x H k/\Q k H):=by
 intro pins s Z H x v Q I rx h;obtain ⟨k,e,q⟩:=h;have hl:=Dm;have hs:sizeLine=16777216:=j6;cases x with
 | non =>
   cases rx; have e':k=false:=e; subst e'; exact truthy_none ⟨H,I,q⟩
 | bl b =>
   cases rx; have e':k=b:=e; subst e'; exact a9 ⟨H,I,q⟩
 | int i =>
   obtain ⟨t,rfl⟩:=rx; have e':k=(i != 0):=e; subst e'; exact PySem.P.truthy_int ⟨H,I,q⟩
 | str y =>
   obtain ⟨t,rfl⟩:=rx; obtain ⟨hy,e'⟩:y.length<=sizeLine/\k=((y.length:Int) != 0):=e; subst e'; exact PySem.P.truthy_str (by lia) ⟨H,I.tok _,q⟩
 | byt y =>
   obtain ⟨t,rfl⟩:=rx; obtain ⟨hy,e'⟩:y.size<=sizeLine/\k=((y.size:Int) != 0):=e; subst e'; exact PySem.W.truthy_bytes (by lia) ⟨H,I.tok _,q⟩
 | ref p =>
   cases rx; have e':(∃ xs,SqL X.K H p xs/\k = !xs.isEmpty)\/(∃ xs,SqT X.K H p xs/\k = !xs.isEmpty)\/∃ kvs,H p=some (.dK kvs)/\k = !kvs.isEmpty:=e; rcases e' with ⟨xs,hx,e'⟩ | ⟨xs,hx,e'⟩ | ⟨kvs,hx,e'⟩
   . subst e'
     obtain ⟨its,r,pl,hz⟩:=I.list hx; have hlen:=r.length; exact wpAny_truthy_list pl.isList (by simp only [vO]; lia) ⟨H,I.tok _,by rw [Oa r]; exact q⟩
   . subst e'
     obtain ⟨its,r,pl,hz⟩:=I.tuple hx; have hlen:=r.length; exact truthy_tuple pl (by simp only [vO]; lia) ⟨H,I.tok _,by rw [Oa r]; exact q⟩
   . subst e'
     obtain ⟨hz,hS,vs,r,m⟩:kvs.length<=sizeLine/\(p==f8)=false/\∃ vs,KV kvs vs/\s.heap.DictOf (Tf X.prog X.w) p vs:=I.hok p _ hx; have hlen:kvs.length=vs.length:=Paired.length r; exact wpAny_truthy_dict hS m (by lia) ⟨H,I.tok _,by rw [Zc r]; exact q⟩
 | _=>exact (show False from e).elim
theorem Vm (ha:PE X a ta) (he:∀ whole,isTrue a X.env whole=(do let v <- whole; standAt a.pos; holding [v] (truthy v))) :
   PT X a (fun Z H Q=>ta Z H fun x H'=>∃ k,uS X.K x H' k/\Q k H'):=by
 intro pins s Z H Q I h;exact isTrue_plain (thn (ha pins s Z H _ I h) fun v s1 hZ2=>by obtain ⟨x,H1,I1,r1,q1⟩:=hZ2; exact rC pins s1 Z H1 x v Q I1 r1 q1) (he _)
theorem Lx {x:V} {us:List uY} (r:Vals [x] us):∃ u,us=[u]/\RelV x u:=by
 cases r with
 | cons r1 r2=>cases r2; exact ⟨_,rfl,r1⟩
theorem Rm:U0 X (.type "int") (fun xs H Q=>(∃ i,xs=[.int i]/\Q (.int i) H)\/∃ k,xs=[.bl k]/\Q (.int (if k then 1 else 0)) H):=by
 intro pins s Z H xs us Q I r h;rcases h with ⟨i,rfl,q⟩ | ⟨k,rfl,q⟩
 . obtain ⟨u,rfl,t,rfl⟩:=Lx r
   exact call_int_int ⟨.int i,H,I,⟨_,rfl⟩,q⟩
 . obtain ⟨u,rfl,r1⟩:=Lx r
   cases r1; exact call_int_bool ⟨.int (if k then 1 else 0),H,I.tok _,⟨_,rfl⟩,q⟩
def LenV (K:vB) (x:V) (H:Hp) (n:Nat):Prop :=
 match x with
 | .str y=>y.length<=sizeLine/\n=y.length
 | .byt y=>y.size<=sizeLine/\n=y.size
 | .ref p=>(∃ xs,SqL K H p xs/\n=xs.length)\/∃ xs,SqT K H p xs/\n=xs.length
 | _=>False
theorem Om:U0 X (.builtin "len") (fun xs H Q=>∃ x n,xs=[x]/\LenV X.K x H n/\Q (.int n) H):=by
 intro pins s Z H xs us Q I r h;obtain ⟨x,n,rfl,e,q⟩:=h;obtain ⟨u,rfl,rx⟩:=Lx r;have hl:=Dm;have hs:sizeLine=16777216:=j6;cases x with
 | str y =>
   obtain ⟨t,rfl⟩:=rx; obtain ⟨hy,e'⟩:y.length<=sizeLine/\n=y.length:=e; subst e'; exact len_str (by lia) ⟨.int _,H,I.tok _,⟨_,rfl⟩,q⟩
 | byt y =>
   obtain ⟨t,rfl⟩:=rx; obtain ⟨hy,e'⟩:y.size<=sizeLine/\n=y.size:=e; subst e'; exact PySem.W.len_bytes (by lia) ⟨.int _,H,I.tok _,⟨_,rfl⟩,q⟩
 | ref p =>
   cases rx; have e':(∃ xs,SqL X.K H p xs/\n=xs.length)\/∃ xs,SqT X.K H p xs/\n=xs.length:=e; rcases e' with ⟨xs,hx,e'⟩ | ⟨xs,hx,e'⟩
   . subst e'
     obtain ⟨its,r',pl,hz⟩:=I.list hx; have hlen:=r'.length; exact Calls.call_len_list pl.isList (by simp only [vO]; lia) ⟨.int xs.length,H,I.tok _,⟨_,by simp only [vO]; rw [hlen]⟩,q⟩
   . subst e'
     obtain ⟨its,r',pl,hz⟩:=I.tuple hx; have hlen:=r'.length; exact len_tuple pl (by simp only [vO]; lia) ⟨.int xs.length,H,I.tok _,⟨_,by simp only [vO]; rw [hlen]⟩,q⟩
 | _=>exact (show False from e).elim
end
end L2
namespace L2
open PySem PySem.Spec PyProof.Rows
end L2
namespace L2
open PySem PySem.Spec PyProof.Rows
structure Room (k:Nat) (A:xD):Prop where
 hd:A.handled=none
 dp:A.depth+3*k+5 < recursionLimit
 un:A.units+16*k+200 < zE
 gd:A.guards=some []
theorem Room.mono {j k:Nat} {A:xD} (r:Room k A) (h:j<=k):Room j A:=⟨r.hd,by have:=r.dp; lia,by have:=r.un; lia,r.gd⟩
theorem Room.deeper {k:Nat} {A:xD} (r:Room (k+1) A) (env:Env):Room k (A.deeper env) :=
 ⟨r.hd,by have:=r.dp; show A.depth+1+3*k+5 < _; lia,by have:=r.un; show A.units+3+16*k+200 < _; lia,r.gd⟩
theorem Room.depth {k:Nat} {A:xD} (r:Room k A):A.depth < recursionLimit:=by have:=r.dp; lia
theorem Room.units {k:Nat} {A:xD} (r:Room k A):A.units+64 < zE:=by have:=r.un; lia
def rF:TA:=fun _ H Q=>Q [] H
def Up (ta:TE) (tr:TA):TA:=fun Z H Q=>ta Z H fun x H1=>tr Z H1 fun xs H2=>Q (x::xs) H2
section
variable {X:Cx} {e:Expr} {es:List Expr} {te:TE} {t:TA} {pos:Pos}
theorem O2:PA X [] rF:=fun _ _ _ _ H Q I h=>CK ⟨[],H,I,.nil,h⟩
theorem F6 (ha:PE X e te) (hr:PA X es t) (hs:vI (e::es) X.env=(false,eval e X.env)::vI es X.env:=by rfl):PA X (e::es) (Up te t):=by
 intro pos pins s Z H Q I h;rw [hs];show wpAny _ _ (spliced ((false,eval e X.env)::yL pos (vI es X.env))) _ _ s;refine l7 (thn (ha pins s Z H _ I h) fun u s1 hZ2=>?_);obtain ⟨x,H1,I1,r1,q1⟩:=hZ2;exact thn (hr pos pins s1 Z H1 _ I1 q1) fun us s2 hZ2=>by obtain ⟨xs,H2,I2,r2,q2⟩:=hZ2; exact ⟨x::xs,H2,I2,.cons r1 r2,q2⟩
def tTup (t:TA):TE:=fun Z H Q=>t Z H fun xs H1=>xs.length<=sizeLine/\∀ p,H1 p=none->Q (.ref p) (upd H1 p (.tup xs))
def tLst (t:TA):TE:=fun Z H Q=>t Z H fun xs H1=>xs.length<=sizeLine/\∀ p,H1 p=none->Q (.ref p) (upd H1 p (.lst xs))
theorem sG {x1} (h:PA X es t):PE X (.Tuple es x1 pos) (tTup t):=by
 intro pins s Z H Q I hq;refine wpAny_Tuple_spliced (thn (h pos pins s Z H _ I hq) fun us s1 hY22=>?_);obtain ⟨xs,H1,I1,r,z,q⟩:=hY22;refine ⟨by rw [<- r.length]; exact z,?_⟩;have hf:H1 s1.heap.objs.size=none:=I1.hok.fresh (vL _);refine ⟨.ref s1.heap.objs.size,upd H1 s1.heap.objs.size (.tup xs),I1.laid (t':=s1.toks) (fun b u e=>vD _ e) (vL _) ?_,rfl,q _ hf⟩;exact ⟨z,us,r,⟨_,vH _ rfl,rfl,_,rfl⟩⟩
theorem Tb (h:PA X es t):PE X (.List es pos) (tLst t):=by
 intro pins s Z H Q I hq;refine wpAny_List_spliced (thn (h pos pins s Z H _ I hq) fun us s1 hY23=>?_);obtain ⟨xs,H1,I1,r,z,q⟩:=hY23;refine ⟨by rw [<- r.length]; exact z,?_⟩;have hf:H1 s1.heap.objs.size=none:=I1.hok.fresh (vL _);refine ⟨.ref s1.heap.objs.size,upd H1 s1.heap.objs.size (.lst xs),I1.laid (t':=s1.toks) (fun b u e=>vD _ e) (vL _) ?_,rfl,q _ hf⟩;exact ⟨z,us,0,r,vH _ rfl⟩
end
abbrev Sp:=List V->Hp->VK->XK->Prop
abbrev CXT:=List Env->Hp->uZ->XK->uY->uZ->Prop
structure Env0 (P:vU) (w:wD) (K:vB) (mg:Str->Option uY) (base:wT) (A:xD) (outer:List Env) (s:uZ) (H:Hp):Prop where
 frames:A.frames=some outer
 mod:Mod K mg base
 bs:∀ b o,base.get? b=some o->s.heap.get? b=some o/\H b=none
 bsz:base.objs.size<=s.heap.objs.size
 funs:s.heap.FunFrames base outer
 frf:∀ b∈frs outer,H b=none
 hok:HOk P w H s.heap
 bare:DY s.gens
def CE (outer:List Env) (P:vU) (w:wD) (H:Hp) (s:uZ) (Q:VK) (u:uY) (s':uZ):Prop :=
 ∃ v H',s'.os=s.os/\DY s'.gens/\Un (frs outer) [] H H' s.heap s'.heap/\HOk P w H' s'.heap/\RelV v u/\Q v H'
def CR (CX:CXT) (outer:List Env) (P:vU) (w:wD) (H:Hp) (s:uZ) (Q:VK) (E:XK) (r:Result) (s':uZ):Prop :=
 match r with
 | .ok (.ret u)=>CE outer P w H s Q u s'
 | .ok _=>False
 | .error e=>CX outer H s E e s'
structure FnOk (P:vU) (w:wD) (K:vB) (mg:Str->Option uY) (base:wT) (CX:CXT) (k:Nat) (f:vG) (fd:AM) (ps:List Str) (sp:Sp):Prop where
 len:∀ vs H Q E,sp vs H Q E->vs.length=ps.length
 run:∀ (A:xD) (outer:List Env) (s:uZ) (H:Hp) (args:Args) (us:List uY) (vs:List V) (Q:VK) (E:XK),Room k A->Env0 P w K mg base A outer s H->BindsTo s fd args (ps.zip us)->Vals vs us->sp vs H Q E ->
   BI (vS P w) A (.call (.ref f) args) (CR CX outer P w H s Q E) s
section
variable {X:Cx} {pins:List (vG×Obj)} {Z:St} {H:Hp} {s s':uZ}
theorem Inv.env0 (I:Inv X pins Z H s):Env0 X.prog X.w X.K X.mg X.base X.A X.stack s H :=
 ⟨I.ok.frames,I.ok.mod,I.bs,vX I.ok.bsz I.sz,I.stack,I.stkFree,I.hok,I.bare⟩
theorem Inv.after {Q:VK} {u:uY} (I:Inv X pins Z H s) (h:CE X.stack X.prog X.w H s Q u s'):EP X pins Z Q u s':=by
 obtain ⟨v,H',os,bare,un,hok,r,q⟩:=h;obtain ⟨hh,g,d,t,os'⟩:=s';obtain rfl:os'=s.os:=os;exact ⟨v,H',I.call (h':=hh) (g':=g) (d':=d) (t':=t) (ch:=[]) un hok bare (fun b z=>absurd z (by simp)),r,q⟩
end
def tCall (sp:Sp) (dvs:List V) (E:XK) (t:TA):TE:=fun Z H Q=>t Z H fun vs H1=>sp (vs++dvs) H1 Q E
def Binds (K:vB) (fd:AM) (ps:List Str) (ds:List uY):Prop :=
 ∀ (s:uZ) (us:List uY),K.In s.heap->(us++ds).length=ps.length->BindsTo s fd ⟨us,[]⟩ (ps.zip (us++ds))
theorem Binds.all {K:vB} {fd:AM} {ps:List Str} (h:∀ us:List uY,us.length=ps.length->EG fd ⟨us,[]⟩=pure (ps.zip us)):Binds K fd ps []:=fun s us _ hl=>by
 rw [wQ] at hl ⊢;exact .of_eq (h us hl)
def aA (CX:CXT) (X:Cx) (E:XK):Prop:=∀ (pins:List (vG×Obj)) (Z:St) (H:Hp) (s:uZ) (e:uY) (s':uZ),Inv X pins Z H s->CX X.stack H s E e s'->X.xe e s'
section
variable {X:Cx} {CX:CXT} {k:Nat} {f:vG} {fd:AM} {ps:List Str} {sp:Sp} {dvs:List V} {ds:List uY} {E:XK} {x:Str} {p pos:Pos} {e:Expr} {es:List Expr} {t:TA}
theorem rW {pins:List (vG×Obj)} {Z:St} {H:Hp} {s:uZ} {Q:VK} {us:List uY} {vs:List V} (F:FnOk X.prog X.w X.K X.mg X.base CX k f fd ps sp) (hr:Room k X.A) (hb:Binds X.K fd ps ds) (hd:Vals dvs ds) (hx:aA CX X E)
   (I:Inv X pins Z H s) (r:Vals vs us) (h:sp (vs++dvs) H Q E):wpAny (vS X.prog X.w) X.A (call (.ref f) us) (EP X pins Z Q) X.xe s:=by
 have r2:Vals (vs++dvs) (us++ds):=r.append hd;have hl:(us++ds).length=ps.length:=by rw [<- r2.length]; exact F.len _ _ _ _ h
 refine GI (o0 (F.run X.A X.stack s H ⟨us,[]⟩ (us++ds) (vs++dvs) Q E hr I.env0 (hb s us I.kIn hl) r2 h) fun r s' hq=>?_);cases r with
 | error e=>exact hx pins Z H s e s' I hq
 | ok fl =>
   cases fl with
   | ret u=>exact I.after hq
   | next=>exact i3 hq
   | brk=>exact i3 hq
   | cont=>exact i3 hq
theorem Ll (F:FnOk X.prog X.w X.K X.mg X.base CX k f fd ps sp) (hr:Room k X.A) (hg:Gl X x) (hm:X.mg x=some (.ref f)) (hk:xU X.K (.ref f)=true) (hb:Binds X.K fd ps ds) (hd:Vals dvs ds) (hx:aA CX X E)
   (ha:PA X (e::es) t) (hdb:(x==("__debug__" : Str))=false:=by decide) (he:vI (e::es) X.env=(false,eval e X.env)::vI es X.env:=by rfl) (hpl:(yL pos (vI es X.env)).any (·.1)=false:=by rfl) :
   PE X (.Call (.Name x p) (e::es) [] pos) (tCall sp dvs E t):=by
 intro pins s Z H Q I h;refine n6 (Hm I hg hm ?_ hdb);refine JB (h₀:=X.base) I.ok.mod.kin hk (thn (ha pos pins s Z H _ I h) fun us s1 hY24=>?_) he hpl;obtain ⟨vs,H1,I1,r,q⟩:=hY24;refine ⟨I1.kIn,?_⟩;exact rW F hr hb hd hx I1 r q
end
structure FnScope (N P:List Str) (sc:Scope):Prop where
 kind:sc.kind=.function
 co:sc.isCoroutine=false
 gen:sc.isGenerator=false
 nd:N.Nodup
 pre:N.take P.length=P
 par:∀ x∈P,sc.names.lookup x=some .local\/sc.names.lookup x=some .cell
 nofree:∀ y∈sc.names,y.2≠.free
theorem Rq {kindOf:Str->Option DC} {x:Str}:∀ {binds:List (Str×uY)} {m:Str->Option uY},(∀ v,(x,v)∉binds)->bindL kindOf binds m x=m x
 | [],_,_=>rfl
 | (n,v)::r,m,h=>by
   unfold bindL; rw [Rq fun w hw=>h w (xL _ hw)];split
   . have:x≠n:=by rintro rfl; exact h v xK
     simp [this]
   . rfl
theorem Rs {kindOf:Str->Option DC} {x:Str}:∀ {binds:List (Str×uY)} {m:Str->Option uY},(∀ v,(x,v)∉binds)->bindC kindOf binds m x=m x
 | [],_,_=>rfl
 | (n,v)::r,m,h=>by
   unfold bindC; rw [Rs fun w hw=>h w (xL _ hw)];split
   . rfl
   . have:x≠n:=by rintro rfl; exact h v xK
     simp [this]
theorem Rr {kindOf:Str->Option DC} {x:Str} {v:uY}:∀ {P:List Str} {vs:List uY} {i:Nat} {m:Str->Option uY},P.Nodup->P[i]? = some x->vs[i]? = some v->kindOf x=some .local ->
   bindL kindOf (P.zip vs) m x=some v
 | [],_,_,_,_,h,_,_=>by simp at h
 | _::_,[],_,_,_,_,h,_=>by simp at h
 | p::P,w::vs,0,m,nd,h1,h2,hk=>by
   simp at h1 h2; subst h1; subst h2;show bindL kindOf ((p,w)::P.zip vs) m p=_;unfold bindL; rw [Rq fun v hv=>(zI.mp nd).1 (GP hv).1,if_pos hk];simp
 | p::P,w::vs,i+1,m,nd,h1,h2,hk=>by
   show bindL kindOf ((p,w)::P.zip vs) m x=_;unfold bindL; exact Rr (i:=i) (zI.mp nd).2 (by simpa using h1) (by simpa using h2) hk
theorem Rt {kindOf:Str->Option DC} {x:Str} {v:uY}:∀ {P:List Str} {vs:List uY} {i:Nat} {m:Str->Option uY},P.Nodup->P[i]? = some x->vs[i]? = some v->kindOf x≠some .local ->
   bindC kindOf (P.zip vs) m x=some v
 | [],_,_,_,_,h,_,_=>by simp at h
 | _::_,[],_,_,_,_,h,_=>by simp at h
 | p::P,w::vs,0,m,nd,h1,h2,hk=>by
   simp at h1 h2; subst h1; subst h2;show bindC kindOf ((p,w)::P.zip vs) m p=_;unfold bindC; rw [Rs fun v hv=>(zI.mp nd).1 (GP hv).1,if_neg hk];simp
 | p::P,w::vs,i+1,m,nd,h1,h2,hk=>by
   show bindC kindOf ((p,w)::P.zip vs) m x=_;unfold bindC; exact Rt (i:=i) (zI.mp nd).2 (by simpa using h1) (by simpa using h2) hk
def An (N:List Str) (vs:List V):St:=vs.map some++vW (N.length - vs.length) none
def Zm (CX:CXT) (P:vU) (w:wD) (K:vB) (mg:Str->Option uY) (base:wT) (N:List Str) (qual:Str) (scope:Scope) (f:vG) (cd:uY) (A:xD) (outer:List Env) (s:uZ) (H:Hp) (E:XK):Cx where
 prog:=P
 w:=w
 K:=K
 mg:=mg
 base:=base
 A:=A.deeper (envOfC qual scope s.heap.objs.size f cd)
 N:=N
 s₀:=s
 H₀:=H
 env:=envOfC qual scope s.heap.objs.size f cd
 outer:=outer
 stack:=envOfC qual scope s.heap.objs.size f cd::outer
 ex:=[]
 calm:=true
 fn:=fun _=>true
 pn:=[]
 xe:=fun e s'=>wpAny (vS P w) (A.deeper (envOfC qual scope s.heap.objs.size f cd)) (leaving (envOfC qual scope s.heap.objs.size f cd) e) (fun _ s''=>CX outer H s E e s'') (fun e' s''=>CX outer H s E e' s'') s'
theorem Xb {sc:Scope} {n:Nat} {x:Str} (h:sc.names.lookup x=some .cell):∃ c,(cellsFrom n sc.names []).lookup x=some c:=by
 have q:=HW sc.names n [] (.inl h);exact Option.isSome_iff_exists.mp q
theorem eP {CX:CXT} {P:vU} {w:wD} {K:vB} {mg:Str->Option uY} {base:wT} {N ps:List Str} {qual:Str} {scope:Scope} {f:vG} {cd:uY} {A:xD} {outer:List Env} {s s1:uZ} {H:Hp} {E:XK} {us:List uY} {vs:List V}
   (S:FnScope N ps scope) (hd:A.handled=none) (e0:Env0 P w K mg base A outer s H) (hl:vs.length=ps.length) (r:Vals vs us)
   (x:InCallC s s.heap.objs.size (bindL (envOfC qual scope s.heap.objs.size f cd).kindOf (ps.zip us) fun _=>none) (cellsFrom (s.heap.objs.size+1) scope.names []) (bindC (envOfC qual scope s.heap.objs.size f cd).kindOf (ps.zip us) fun _=>none) s1) :
   Inv (Zm CX P w K mg base N qual scope f cd A outer s H E) [] (An N vs) H s1:=by
 have hpl:ps.length<=N.length:=by have:=congrArg BM S.pre; rw [DD] at this; lia
 obtain ⟨h1,tk,rfl,hk⟩:=x.done;have noA:∀ b:vG,b∉(Zm CX P w K mg base N qual scope f cd A outer s H E).ex:=fun b z=>absurd (show b∈([]:List vG) from z) (by simp);refine ⟨⟨e0.mod,S.kind,rfl,rfl,vL _,fun y z c h1 h2=>?_,fun y hy=>?_,fun y c _ h=>?_,fun _=>hd,Around.frames_deeper e0.frames,.inr ⟨rfl,rfl⟩,fun b z=>absurd z (noA b),e0.bs,e0.bsz,fun b _ _=>noA b,fun b z=>absurd z (noA b),e0.funs,e0.frf⟩,
   rfl,e0.bare,Un.kept hk,⟨_,x.toInCall.ns,fun i y v h1 h2 h3=>?_⟩,fun y c h=>⟨_,x.cell y c h⟩,e0.hok.fresh (vL _),fun y c h=>?_,fun p hp=>absurd (show p∈([]:List (vG×Obj)) from hp) (by simp),e0.hok.kept hk,?_⟩
 . exact name_of_addr x.apart (j4 h1) (j4 h2)
 . have hy:scope.names.lookup y=some .cell\/scope.names.lookup y=some .free:=hy
   rcases hy with hy | hy
   . exact Xb hy
   . exact absurd rfl (S.nofree _ (j4 hy))
 . exact JD (x.above y c (j4 h))
 . have hi : i < vs.length := by
     unfold An at h2;by_cases hi:i < vs.length
     . exact hi
     . rw [xE (by simpa using hi)] at h2
       rw [zB] at h2;split at h2 <;> cases h2
   have ha:vs[i]? = some v:=by
     unfold An at h2; rw [wY (by simpa using hi),wE] at h2;cases e:vs[i]? with
     | none=>rw [e] at h2; cases h2
     | some a=>rw [e] at h2; cases h2; rfl
   obtain ⟨u,hu,rv⟩:=r.get ha; have hp:ps[i]? = some y:=by
     rw [<- S.pre,List.getElem?_take_of_lt (by lia)]; exact h1
   have ndP:ps.Nodup:=by rw [<- S.pre]; exact S.nd.sublist (FU _ _)
   refine ⟨u,rv,?_⟩; rcases S.par y (yR hp) with k | k
   . exact .inl ⟨k,Rr ndP hp hu k⟩
   . obtain ⟨c,e⟩:=Xb (n:=s.heap.objs.size+1) k
     refine .inr ⟨.inl k,c,e,?_⟩; have q:=x.cell y c e; rw [Rt ndP hp hu (by show scope.names.lookup y≠_; rw [k]; decide)] at q;exact q
 . exact e0.hok.fresh (JD (x.above y c (j4 h)))
 . unfold An
   show _=N.length;rw [wB,vA,n5];lia
theorem qT {CX:CXT} {P:vU} {w:wD} {K:vB} {mg:Str->Option uY} {base:wT} {k:Nat} {f:vG} {name qual:Str} {params:Arguments} {body:List k8} {scope:Scope} {dV kV doc pm cdv ct oc:uY} {an od:Option vG}
   {osl:Array (Option uY)} {N ps:List Str} {sp:Sp} (lk:K.lookup f=some ⟨oc,od,.func (xQ name qual params body scope dV kV doc pm an cdv ct),osl⟩) (hcd:f9 K cdv qual=true) (S:FnScope N ps scope)
   (len:∀ vs H Q E,sp vs H Q E->vs.length=ps.length)
   (hbody:∀ (A:xD) (outer:List Env) (s:uZ) (H:Hp) (vs:List V) (Q:VK) (E:XK),Room k (A.deeper (envOfC qual scope s.heap.objs.size f cdv))->sp vs H Q E ->
     ∃ t,PSs (Zm CX P w K mg base N qual scope f cdv A outer s H E) body t/\t { nx:=fun _ H'=>Q .non H',rt:=Q } (An N vs) H) :
   FnOk P w K mg base CX (k+1) f (xQ name qual params body scope dV kV doc pm an cdv ct) ps sp:=by
 refine ⟨len,fun A outer s H args us vs Q E hr e0 hb r hsp=>?_⟩;have hl:=len _ _ _ _ hsp;have KX:K.In s.heap:=e0.mod.kin.keeps fun b o e=>(e0.bs b o e).1;have lim:s.heap.NoLimit:=e0.mod.nolimit.keeps fun b o e=>(e0.bs b o e).1;have hkind:∀ y∈ps.zip us,scope.names.lookup y.1=some .local\/(scope.names.lookup y.1=some .cell/\((cellsFrom (s.heap.objs.size+1) scope.names []).lookup y.1).isSome=true):=fun hZ0 hy=>by
   obtain ⟨n,v⟩:=hZ0; rcases S.par n (GP hy).1 with q | q
   . exact .inl q
   . exact .inr ⟨q,HW _ _ _ (.inl q)⟩
 refine codeAny_call_function hr.depth (KX _ _ lk) rfl S.co S.gen rfl (PySem.W.codeRec_of KX hcd) (hb _ _ _ _ ?_);refine wpAny_newFunctionEnv_cells S.kind hkind fun env he s1 x=>?_;subst he;refine ⟨lim.keeps x.toInCall.keep,codeAny_func ?_⟩;obtain ⟨t,ht,hq⟩:=hbody A outer s H vs Q E (hr.deeper _) hsp;have I:Inv (Zm CX P w K mg base N qual scope f cdv A outer s H E) [] (An N vs) H s1:=eP S hr.hd e0 hl r x;refine xT (ht [] s1 (An N vs) H _ I hq) (fun fl s' hs=>?_) fun e s' hs=>hs;have fin:∀ {Z':St} {H':Hp} {v:V} {u:uY},Inv (Zm CX P w K mg base N qual scope f cdv A outer s H E) [] Z' H' s'->RelV v u->Q v H'->CE outer P w H s Q u s' :=
   fun {Z' H' v u} J rv q=>⟨v,H',J.os,J.bare,J.base,J.hok,rv,q⟩
 cases fl with
 | ret u =>
   obtain ⟨v,Z',H',J,rv,q⟩:=hs; exact fin J rv q
 | next =>
   obtain ⟨Z',H',J,q⟩:=hs; exact fin (v:=V.non) (u:=yP) J rfl q
 | brk =>
   obtain ⟨_,_,_,q⟩:=hs; exact i3 q
 | cont =>
   obtain ⟨_,_,_,q⟩:=hs; exact i3 q
end L2
namespace L2
open PySem PySem.Spec PyProof.Rows
section
variable {X:Cx} {x:Str} {p pos:Pos} {e:Expr} {es:List Expr} {t:TA} {id T:String} {r:List V->Hp->VK->Prop}
def tCB (r:List V->Hp->VK->Prop) (t:TA):TE:=fun Z H Q=>t Z H fun vs H1=>r vs H1 Q
theorem Dj (hc:U0 X (.builtin id) r) (hg:Gl X x) (hm:X.mg x=none) (hv:p0 x=some (.builtin id)) (ha:PA X (e::es) t) (hn:x ≠ "__name__" := by decide) (hdb:(x==("__debug__" : Str))=false:=by decide)
   (he:vI (e::es) X.env=(false,eval e X.env)::vI es X.env:=by rfl) (hpl:(yL pos (vI es X.env)).any (·.1)=false:=by rfl):PE X (.Call (.Name x p) (e::es) [] pos) (tCB r t):=by
 intro pins s Z H Q I h;refine n6 (Jf I hg hm hv ?_ hn hdb);exact PyProof.Rows.callWith_builtin1 (thn (ha pos pins s Z H _ I h) fun us s1 hZ2=>by obtain ⟨vs,H1,I1,r1,q1⟩:=hZ2; exact hc pins s1 Z H1 vs us Q I1 r1 q1) he hpl
theorem Iz (hc:U0 X (.type T) r) (hg:Gl X x) (hm:X.mg x=none) (hv:p0 x=some (.type T)) (ha:PA X (e::es) t) (hn:x ≠ "__name__" := by decide) (hdb:(x==("__debug__" : Str))=false:=by decide)
   (he:vI (e::es) X.env=(false,eval e X.env)::vI es X.env:=by rfl) (hpl:(yL pos (vI es X.env)).any (·.1)=false:=by rfl):PE X (.Call (.Name x p) (e::es) [] pos) (tCB r t):=by
 intro pins s Z H Q I h;refine n6 (Jf I hg hm hv ?_ hn hdb);exact k9 (thn (ha pos pins s Z H _ I h) fun us s1 hZ2=>by obtain ⟨vs,H1,I1,r1,q1⟩:=hZ2; exact hc pins s1 Z H1 vs us Q I1 r1 q1) he hpl
end
end L2
namespace HT
open PySem PyProof.Rows
section
variable {prog:vU} {w:wD} {A:xD} {E:uY->uZ->Prop} {s:uZ}
theorem cat_tup {t b:vG} {vs ws:List uY} {Q:uY->uZ->Prop} (ht:EN s.heap t vs.toArray) (hb:EN s.heap b ws.toArray) (hv:vs≠[])
   (h1:ws=[]->Q (.ref t) s) (h2:ws≠[]->Q (.ref s.heap.objs.size) { s with heap:=s.heap.push { cls:=.type "tuple",data:=.seq (vs++ws).toArray } })
   (hsz:vs.length+ws.length<=sizeLine):wpAny (vS prog w) A (FO .Add (.ref t) (.ref b)) Q E s:=by
 obtain ⟨⟨cls,dd,data,sl⟩,ho,hc,n,hd⟩:=id ht;obtain ⟨⟨cls2,dd2,data2,sl2⟩,ho2,hc2,n2,hd2⟩:=id hb;simp only at hc hd hc2 hd2;subst hc hd hc2 hd2;have e:vs.toArray++ws.toArray=(vs++ws).toArray:=by simp
 by_cases hw:ws=[]
 . exact concat_meets ⟨_, ho, rfl⟩ ⟨_, ho2, rfl⟩ HR seq_tuple_add DB CL (CH _ _)
     (tuple_addW1 t b vs.toArray ws.toArray n n2 dd dd2 sl sl2 (by simpa using hv) (by simp [hw])) ⟨ho,ho2,h1 hw⟩
 . refine concat_meets ⟨_, ho, rfl⟩ ⟨_, ho2, rfl⟩ HR seq_tuple_add DB CL (CH _ _)
     (tuple_addW2 t b vs.toArray ws.toArray n n2 dd dd2 sl sl2 (by simpa using hv) (by simpa using hw) (by rw [vO,vO]; exact hsz)) ⟨ho,ho2,?_⟩
   rw [e]; exact h2 hw
def sIx (n d:Nat):Option Int->Nat
 | none=>d
 | some v=>if v < 0 then (v+(n:Int)).toNat else min v.toNat n
theorem sIx_none (n d:Nat):sIx n d none=d:=rfl
theorem sIx_nat (n d k:Nat):sIx n d (some (k:Int))=min k n:=by
 show (if (k:Int) < 0 then ((k:Int)+(n:Int)).toNat else min (k:Int).toNat n)=min k n;rw [if_neg (by lia),i9]
theorem rR (n d:Nat) (hd:d<=n) (o:Option Int):sIx n d o<=n:=by
 cases o with
 | none=>exact hd
 | some v =>
   show (if v < 0 then (v+(n:Int)).toNat else min v.toNat n)<=n;by_cases hv:v < 0
   . rw [if_pos hv]; lia
   . rw [if_neg hv]; exact zD _ _
theorem bR (v:Int) (n d:Nat):(if v < 0 then max (v+(n:Int)) 0 else min v (n:Int))=((sIx n d (some v):Nat):Int):=by
 show (if v < 0 then max (v+(n:Int)) 0 else min v (n:Int))=(((if v < 0 then (v+(n:Int)).toNat else min v.toNat n):Nat):Int);by_cases hv:v < 0
 . simp only [if_pos hv]; lia
 . simp only [if_neg hv]; lia
theorem Zz (lo hi:Option Int) (n:Nat):a8 lo hi 1 (n:Int)=(((sIx n 0 lo:Nat):Int),((sIx n n hi:Nat):Int)):=by
 have h1:¬ ((1:Int) < 0):=by lia
 unfold a8;simp only [h1,if_false];refine Prod.ext ?_ ?_
 . cases lo with
   | none=>rfl
   | some v=>exact bR v n 0
 . cases hi with
   | none=>rfl
   | some v=>exact bR v n n
theorem Ys (i j:Nat):xW (i:Int) (j:Int) 1=j - i:=by
 unfold xW;have h1:(1:Int)>0:=by lia
 simp only [h1,if_true,Int.ediv_one];split <;> lia
theorem Na {v:uY} {o:Option Int} {Q:Option Int->uZ->Prop} (p:EU v o) (h:Q o s):wpAny (vS prog w) A (Builtin.Slice.slicePartIndex v) Q E s:=by
 cases p with
 | none=>exact FN h
 | int i t=>exact slicePart_int h
theorem sliceApplied_gen {sl:vG} {vl vu:uY} {lo hi:Option Int} {n:Nat} {Q:Int×Int×Nat->uZ->Prop} (hs:s.heap.IsSliceOf sl vl vu .none) (pl:EU vl lo) (pu:EU vu hi)
   (h:Q (((sIx n 0 lo:Nat):Int),1,sIx n n hi - sIx n 0 lo) s):wpAny (vS prog w) A (l9 (.ref sl) (pure (n:Int))) Q E s:=by
 obtain ⟨os,hos,hcs,hds⟩:=id hs;unfold l9 FM;refine uW (uW (j5 hos hds (x:=vl) rfl (uW (j5 hos hds (x:=vu) rfl (uW (j5 hos hds (x:=.none) rfl (uX ?_)))))));refine uW (FN ?_);show wpAny _ _ (if ((1:Int)==0)=true then _ else _) _ _ s;rw [if_neg (by decide)];refine uW (Na pl (uW (Na pu (uW (uX ?_)))));show wpAny _ _ (match a8 lo hi 1 (n:Int) with | (lo,hi)=>pure (lo,(1:Int),xW lo hi 1)) _ _ s
 rw [Zz lo hi n];show wpAny _ _ (pure (((sIx n 0 lo:Nat):Int),(1:Int),xW ((sIx n 0 lo:Nat):Int) ((sIx n n hi:Nat):Int) 1)) _ _ s;rw [Ys];exact uX h
theorem iJ (xs:Array uY) (i k:Nat):((wS k).filterMap fun (m:Nat)=>xs[((i:Int)+(m:Int)*1).toNat]?).toArray=((xs.toList.drop i).take k).toArray:=by
 have e:(fun (m:Nat)=>xs[((i:Int)+(m:Int)*1).toNat]?)=fun m=>xs[i+m]? := by
   funext m
   have:((i:Int)+(m:Int)*1).toNat=i+m:=by lia
   rw [this]
 rw [e];have:=pick_run xs i k;rw [List.filterMap_map] at this;have e2:((fun x=>xs[x]?)∘fun x=>i+x)=fun m=>xs[i+m]? := rfl;rw [e2] at this;rw [this]
theorem getItem_tuple_cut {t sl:vG} {items:Array uY} {vl vu:uY} {lo hi:Option Int} {Q:uY->uZ->Prop} (ht:EN s.heap t items) (hs:s.heap.IsSliceOf sl vl vu .none) (pl:EU vl lo) (pu:EU vu hi)
   (hw:¬ (sIx items.size 0 lo=0/\sIx items.size items.size hi=items.size))
   (h:Q (.ref s.heap.objs.size) { s with heap:=s.heap.push { cls:=.type "tuple",data:=.seq ((items.toList.drop (sIx items.size 0 lo)).take (sIx items.size items.size hi - sIx items.size 0 lo)).toArray } })
   (hsz:items.size<=sizeLine):wpAny (vS prog w) A (BG (.ref t) (.ref sl)) Q E s:=by
 have htake:sizeOk (.seq ((items.toList.drop (sIx items.size 0 lo)).take (sIx items.size items.size hi - sIx items.size 0 lo)).toArray):=by
   show ((items.toList.drop (sIx items.size 0 lo)).take (sIx items.size items.size hi - sIx items.size 0 lo)).toArray.size<=sizeLine;rw [vO,DD,DG,xF]; omega
 have hj:sIx items.size items.size hi<=items.size:=rR _ _ (vL _) hi;obtain ⟨os,hos,hcs,hds⟩:=id hs;have hTs:s.TypeIs (.ref sl) "slice" := ⟨os,hos,hcs⟩;unfold BG;try with_reducible refine wZ ?_
 first | refine uW (uX ?_) | skip
 refine uW (BE ht.typeIs (by decide) ?_);refine uW (xA (name:=yT "__getitem__") ht.typeIs xI
   (wV xI ht.typeIs FZ ?_ (GM _ _)))
 show wpAny _ _ (l8 (.ref t)>>=_) _ _ s;refine uW (tupleItemsOf_ ht ?_);refine uW (BD hTs ?_);rw [if_pos (by decide)];refine uW (sliceApplied_gen hs pl pu ?_);have hno:¬ ((((sIx items.size 0 lo:Nat):Int)==0&&(1:Int)==1&&(sIx items.size items.size hi - sIx items.size 0 lo)==items.size)=true):=by
   intro q; rw [vV,vV] at q; have q1:((sIx items.size 0 lo:Nat):Int)=0:=zY q.1.1; have q2:sIx items.size items.size hi - sIx items.size 0 lo=items.size:=zY q.2; exact hw ⟨by omega,by omega⟩
 show wpAny _ _ (if (((sIx items.size 0 lo:Nat):Int)==0&&(1:Int)==1&&(sIx items.size items.size hi - sIx items.size 0 lo)==items.size)=true then _ else _) _ _ s;rw [if_neg hno,iJ];first
   | exact uW (m:=yD _) (wH (uX ⟨_,rfl,uX h⟩) htake)
   | exact uW (m:=yD _) (wH (uW (uX (uX ⟨_,rfl,uX h⟩))) htake)
   | exact uW (uW (m:=yD _) (wH (uX (uX ⟨_,rfl,uX h⟩)) htake))
   | exact uW (uW (m:=yD _) (wH (uX ⟨_,rfl,uX h⟩) htake))
end
end HT
namespace L2
open PySem PySem.Spec PyProof.Rows
abbrev TO:=St->Hp->(Option Int->Hp->Prop)->Prop
def PO (X:Cx) (e:Option Expr) (t:TO):Prop :=
 ∀ (pins:List (vG×Obj)) (s:uZ) (Z:St) (H:Hp) (Q:Option Int->Hp->Prop),Inv X pins Z H s->t Z H Q ->
   wpAny (vS X.prog X.w) X.A (evalPart e X.env) (fun u s'=>∃ o H',Inv X pins Z H' s'/\EU u o/\Q o H') X.xe s
def lV:TO:=fun _ H Q=>Q none H
def tPart (t:TE):TO:=fun Z H Q=>t Z H fun x H1=>∃ i,x=.int i/\Q (some i) H1
section
variable {X:Cx} {e:Expr} {te:TE} {lo hi:Option Expr} {tl th:TO} {pos p2:Pos}
theorem nC:PO X none lV:=by
 intro pins s Z H Q I h;rw [evalPart_none];exact uX ⟨none,H,I,.none,h⟩
theorem nB (h:PE X e te):PO X (some e) (tPart te):=by
 intro pins s Z H Q I hw;rw [evalPart_some];refine thn (h pins s Z H _ I hw) fun u s1 hZ2=>?_;obtain ⟨x,H1,I1,r1,q1⟩:=hZ2;obtain ⟨i,rfl,q⟩:=q1;obtain ⟨t,rfl⟩:=r1;exact ⟨some i,H1,I1,.int i t,q⟩
def SlR (X:Cx) (r:V->Option Int->Option Int->Hp->VK->Prop):Prop :=
 ∀ (pins:List (vG×Obj)) (s:uZ) (Z:St) (H:Hp) (x:V) (v vl vu:uY) (lo hi:Option Int) (sl:vG) (Q:VK),Inv X pins Z H s->RelV x v->s.heap.IsSliceOf sl vl vu .none->EU vl lo->EU vu hi->r x lo hi H Q ->
   ∃ T id,ER (.type T) "__getitem__" = pure (some (.builtin id))/\s.TypeIs v T/\wpAny (vS X.prog X.w) X.A (BG v (.ref sl)) (EP X pins Z Q) X.xe s
def tSl (r:V->Option Int->Option Int->Hp->VK->Prop) (te:TE) (tl th:TO):TE:=fun Z H Q=>te Z H fun x H1=>tl Z H1 fun l H2=>th Z H2 fun u H3=>r x l u H3 Q
theorem Vo {r:V->Option Int->Option Int->Hp->VK->Prop} (hr:SlR X r) (he:PE X e te) (hl:PO X lo tl) (hu:PO X hi th):PE X (.Subscript e (.Slice lo hi none p2) pos) (tSl r te tl th):=by
 intro pins s Z H Q I h;refine IZ (thn (he pins s Z H _ I h) fun v s1 hZ2=>?_);obtain ⟨x,H1,I1,r1,q1⟩:=hZ2;refine wpAny_Slice (thn (hl pins s1 Z H1 _ I1 q1) fun vl s2 hY32=>?_);obtain ⟨l,H2,I2,pl,q2⟩:=hY32;refine thn (hu pins s2 Z H2 _ I2 q2) fun vu s3 hZ2=>?_;obtain ⟨u,H3,I3,pu,q3⟩:=hZ2;rw [evalPart_none];refine uX ?_;have I4:Inv X pins Z H3 { s3 with heap:=s3.heap.push { cls:=.type "slice",data:=.fields #[vl,vu,.none] } }:=I3.kept (t':=s3.toks) fun b ob q=>vD _ q;obtain ⟨T,id,hT,ht,hg⟩:=hr pins { s3 with heap:=s3.heap.push { cls:=.type "slice",data:=.fields #[vl,vu,.none] } } Z H3 x v vl vu l u s3.heap.objs.size Q I4 r1 (GR ..) pl pu q3
 show wpAny (vS X.prog X.w) X.A (GH e (.Slice lo hi none p2) v (.ref s3.heap.objs.size)) (EP X pins Z Q) X.xe { s3 with heap:=s3.heap.push { cls:=.type "slice",data:=.fields #[vl,vu,.none] } };exact tail_any (ops:=[.ref s3.heap.objs.size,v]) ht hT hg (by with_unfolding_all rfl)
def fG (xs:List V) (lo hi:Option Int):List V:=(xs.drop (HT.sIx xs.length 0 lo)).take (HT.sIx xs.length xs.length hi - HT.sIx xs.length 0 lo)
theorem Du (xs:List V) (lo hi:Option Int):(fG xs lo hi).length<=xs.length:=by
 unfold fG;rw [DD,DG];lia
end
end L2
namespace L2
open PySem PySem.Spec PyProof.Rows
def ixN (n:Nat) (i:Int):Option Nat:=if 0<=i then (if i < n then some i.toNat else none) else if -(n:Int)<=i then some (i+n).toNat else none
def atI {α:Type} (xs:List α) (i:Int):Option α:=(ixN xs.length i).bind fun j=>xs[j]?
theorem oF {n:Nat} {i:Int} {j:Nat} (h:ixN n i=some j):seqIndex? i n=some j/\j < n /\ -(n:Int)<=i/\i < n:=by
 unfold ixN at h;by_cases h0:0<=i
 . rw [if_pos h0] at h
   by_cases h1:i < n
   . rw [if_pos h1] at h
     have e:i.toNat=j:=xH h; exact ⟨by rw [seqIndex_of h0 h1,e],by lia,by lia,h1⟩
   . rw [if_neg h1] at h; cases h
 . rw [if_neg h0] at h
   by_cases h1 : -(n:Int)<=i
   . rw [if_pos h1] at h
     have e:(i+n).toNat=j:=xH h; exact ⟨by rw [seqIndex_neg (by lia) h1,e],by lia,h1,by lia⟩
   . rw [if_neg h1] at h; cases h
theorem Lr {α:Type} {xs:List α} {i:Int} {v:α} (h:atI xs i=some v):∃ j,seqIndex? i xs.length=some j/\xs[j]? = some v/\j < xs.length /\ -(xs.length:Int)<=i/\i < xs.length:=by
 unfold atI at h;cases e:ixN xs.length i with
 | none=>rw [e] at h; cases h
 | some j =>
   rw [e] at h; obtain ⟨h1,h2,h3,h4⟩:=oF e; exact ⟨j,h1,h,h2,h3,h4⟩
def cA (b:Expr):Prop:=∀ o i,HZ b false o i=operate [o,i] (BG o i)
def IxR (X:Cx) (r:R2):Prop :=
 ∀ (value slice:Expr) (pins:List (vG×Obj)) (s:uZ) (Z:St) (H:Hp) (x y:V) (v u:uY) (Q:VK),Inv X pins Z H s->RelV x v->RelV y u->r x y H Q ->
   HZ slice false v u=operate [v,u] (BG v u)->wpAny (vS X.prog X.w) X.A (GH value slice v u) (EP X pins Z Q) X.xe s
def MtR (X:Cx) (id:String) (r:V->List V->Hp->VK->Prop):Prop :=
 ∀ (pins:List (vG×Obj)) (s:uZ) (Z:St) (H:Hp) (x:V) (xs:List V) (v:uY) (us:List uY) (Q:VK),Inv X pins Z H s->RelV x v->Vals xs us->r x xs H Q ->
   wpAny (vS X.prog X.w) X.A (call (.builtin id) (v::us)) (EP X pins Z Q) X.xe s
section
variable {X:Cx} {a b:Expr} {ta tb:TE} {pos:Pos}
theorem IxR.or {r r':R2} (h:IxR X r) (h':IxR X r'):IxR X (fun x y H Q=>r x y H Q\/r' x y H Q):=by
 intro value slice pins s Z H x y v u Q I rx ry q hs;rcases q with q | q
 . exact h value slice pins s Z H x y v u Q I rx ry q hs
 . exact h' value slice pins s Z H x y v u Q I rx ry q hs
theorem pe_ix {r:R2} (hr:IxR X r) (ha:PE X a ta) (hb:PE X b tb) (hs:cA b):PE X (.Subscript a b pos) (tOp r ta tb):=by
 intro pins s Z H Q I h;exact IZ (uO ha hb I h fun v u s2 x y H2 I2 rx ry q=>hr a b pins s2 Z H2 x y v u Q I2 rx ry q (hs _ _))
def rIxL (K:vB):R2:=fun x y H Q=>∃ p xs i v,x=.ref p/\y=.int i/\SqL K H p xs/\atI xs i=some v/\Q v H
def rIxT (K:vB):R2:=fun x y H Q=>∃ p xs i v,x=.ref p/\y=.int i/\SqT K H p xs/\atI xs i=some v/\Q v H
def rIxS:R2:=fun x y H Q=>∃ z i c,x=.str z/\y=.int i/\z.length<=sizeLine/\atI z.cps.toList i=some c/\Q (.str ⟨#[c]⟩) H
theorem oE:IxR X (rIxL X.K):=by
 intro value slice pins s Z H x y v u Q I rx ry h hs;obtain ⟨p,xs,i,z,rfl,rfl,hq,he,q⟩:=h;cases rx;obtain ⟨t,rfl⟩:=ry;obtain ⟨its,r,pl,hz⟩:=I.list hq;obtain ⟨j,h1,h2,h3,h4,h5⟩:=Lr he;obtain ⟨w,ew,rw'⟩:=r.get h2;have hl:=r.length;have hn:=Dm;have fin:EP X pins Z Q w s:=⟨z,H,I,rw',q⟩;by_cases h0:0<=i
 . have hj : i.toNat = j := by
     rw [seqIndex_of h0 h5] at h1; exact xH h1
   exact item_listR pl.isList h0 (by lia) (by rw [hj]; simpa using ew) fin hs
 . have hj : (i + (its.toArray.size : Int)).toNat = j := by
     rw [seqIndex_neg (by lia) h4] at h1; rw [vO,<- hl]; exact xH h1
   exact subscriptTail_builtinR (x:=w) pl.isList.typeIs GT.lookup
     (wpAny_getItem_list_neg (Q:=fun r s'=>r=w/\EP X pins Z Q r s') pl.isList (by lia) (by rw [vO] <;> lia) (by lia) (by rw [hj]; simpa using ew) ⟨rfl,fin⟩) hs
theorem tM:IxR X (rIxT X.K):=by
 intro value slice pins s Z H x y v u Q I rx ry h hs;obtain ⟨p,xs,i,z,rfl,rfl,hq,he,q⟩:=h;cases rx;obtain ⟨t,rfl⟩:=ry;obtain ⟨its,r,pl,hz⟩:=I.tuple hq;obtain ⟨j,h1,h2,h3,h4,h5⟩:=Lr he;obtain ⟨w,ew,rw'⟩:=r.get h2;have hl:=r.length;have hn:=Dm;have fin:EP X pins Z Q w s:=⟨z,H,I,rw',q⟩;exact subscriptTail_builtinR (x:=w) pl.typeIs GJ.lookup
   (getItem_tuple (j:=j) (Q:=fun r s'=>r=w/\EP X pins Z Q r s') pl (by lia) (by lia) (by rw [vO,<- hl]; exact h1) (by simpa using ew) ⟨rfl,fin⟩) hs
theorem tP:IxR X rIxS:=by
 intro value slice pins s Z H x y v u Q I rx ry h hs;obtain ⟨z,i,c,rfl,rfl,hz,he,q⟩:=h;obtain ⟨t,rfl⟩:=rx;obtain ⟨t',rfl⟩:=ry;obtain ⟨j,h1,h2,h3,h4,h5⟩:=Lr he;have hl:z.cps.toList.length=z.length:=by simp [Str.length]
 rw [hl] at h1 h4 h5;have hn:=Dm;exact tail_any (typeIs_str s z t) slot_str_getitem.lookup (getItem_str (c:=c) (by
   have e1:decide (i < -(2 ^ 63:Int))=false:=decide_eq_false (by lia);have e2:decide (i≥2 ^ 63)=false:=decide_eq_false (by lia);rw [e1,e2,FG]) (by rw [h1]; simpa using h2) ⟨.str ⟨#[c]⟩,H,I.tok _,⟨_,rfl⟩,q⟩) hs
def rIx (K:vB):R2:=fun x y H Q=>rIxL K x y H Q\/rIxT K x y H Q\/rIxS x y H Q
theorem tQ:IxR X (rIx X.K):=oE.or (tM.or tP)
theorem Sn (lo hi:Option Int) (n:Nat):(BX lo hi none n).1=((HT.sIx n 0 lo:Nat):Int)/\(BX lo hi none n).2.1=((HT.sIx n n hi:Nat):Int)/\(BX lo hi none n).2.2=1:=by
 refine ⟨?_,?_,rfl⟩
 . cases lo with
   | none=>simp [BX,HT.sIx]
   | some i =>
     simp only [BX,HT.sIx,Option.getD_none,show (1:Int)>0 by decide,if_true];by_cases h:i < 0
     . simp only [h,if_true] <;> lia
     . simp only [h,if_false] <;> lia
 . cases hi with
   | none=>simp [BX,HT.sIx]
   | some i =>
     simp only [BX,HT.sIx,Option.getD_none,show (1:Int)>0 by decide,if_true];by_cases h:i < 0
     . simp only [h,if_true] <;> lia
     . simp only [h,if_false] <;> lia
theorem Et (its:List uY) (lo hi:Option Int):slicePick its.toArray lo hi none=((its.drop (HT.sIx its.length 0 lo)).take (HT.sIx its.length its.length hi - HT.sIx its.length 0 lo)).toArray:=by
 obtain ⟨h1,h2,h3⟩:=Sn lo hi its.toArray.size;unfold slicePick;rw [h1,h2,h3];simp only [sliceRange_one,pick_run,vO] <;> rfl
def rSlL (K:vB):V->Option Int->Option Int->Hp->VK->Prop:=fun x lo hi H Q=>∃ a xs,x=.ref a/\SqL K H a xs/\∀ p,H p=none->Q (.ref p) (upd H p (.lst (fG xs lo hi)))
theorem sl_list:SlR X (rSlL X.K):=by
 intro pins s Z H x v vl vu lo hi sl Q I rx hs pl pu h;obtain ⟨a,xs,rfl,hx,q⟩:=h;cases rx;obtain ⟨its,r,ht,hz⟩:=I.list hx;have hlen:=r.length;refine ⟨"list",_,GT.lookup,ht.isList.typeIs,?_⟩;refine wpAny_getItem_list_slice ht.isList hs pl pu .none (by simp) ?_ (by rw [vO] <;> lia)
 rw [Et,<- hlen];refine ⟨.ref s.heap.objs.size,_,I.laid (t':=s.toks) (o:=.lst (fG xs lo hi)) (fun b ob q=>vD _ q) (vL _) ?_,rfl,q _ (I.hok.fresh (vL _))⟩;exact ⟨vX (Du xs lo hi) hz,_,0,(r.drop (HT.sIx xs.length 0 lo)).take (HT.sIx xs.length xs.length hi - HT.sIx xs.length 0 lo),vH _ rfl⟩
theorem Ht:U0 X (.type "list") (fun xs H Q=>∃ p ys,xs=[.ref p]/\(SqL X.K H p ys\/SqT X.K H p ys)/\∀ l,H l=none->Q (.ref l) (upd H l (.lst ys))):=by
 intro pins s Z H xs us Q I r h;obtain ⟨p,ys,rfl,hq,q⟩:=h;obtain ⟨u,rfl,rx⟩:=Lx r;cases rx;have fin : ∀ (its : List uY), Vals ys its -> ys.length <= sizeLine -> ∀ (h' : wT) (c' : Nat), (∀ b o', s.heap.get? b = some o' -> h'.get? b = some o') ->
     h'.get? s.heap.objs.size=some { cls:=.type "list",dict:=none,data:=.seq its.toArray c',slots := #[] }->EP X pins Z Q (.ref s.heap.objs.size) { s with heap:=h' }:=fun its r' hz h' c' kp e =>
   ⟨.ref s.heap.objs.size,_,I.laid (t':=s.toks) kp (vL _) (show ObjOk X.prog X.w _ h' _ (.lst ys) from ⟨hz,its,c',r',e⟩),rfl,q _ (I.hok.fresh (vL _))⟩
 rcases hq with hq | hq
 . obtain ⟨its,r',pl,hz⟩:=I.list hq
   have hlen:=r'.length; obtain ⟨o,ho,hc,n,hd⟩:=pl.isList; exact call_list_seq p (.inl rfl) ho hc hd (fun h' c' kp e=>fin its r' hz h' c' kp e) (by simp only [vO] <;> lia)
 . obtain ⟨its,r',pl,hz⟩:=I.tuple hq
   have hlen:=r'.length; obtain ⟨o,ho,hc,n,hd⟩:=pl; exact call_list_seq p (.inr rfl) ho hc hd (fun h' c' kp e=>fin its r' hz h' c' kp e) (by simp only [vO] <;> lia)
theorem Fb:U0 X (.type "tuple") (fun xs H Q=>∃ p ys,xs=[.ref p]/\((SqL X.K H p ys/\∀ l,H l=none->Q (.ref l) (upd H l (.tup ys)))\/(SqT X.K H p ys/\Q (.ref p) H))):=by
 intro pins s Z H xs us Q I r h;obtain ⟨p,ys,rfl,h⟩:=h;obtain ⟨u,rfl,rx⟩:=Lx r;cases rx;rcases h with ⟨hq,q⟩ | ⟨hq,q⟩
 . obtain ⟨its,r',pl,hz⟩:=I.list hq
   have hlen:=r'.length; refine call_tuple_list pl.isList (fun h' kp=>?_) (by simp only [vO] <;> lia)
   have I1:Inv X pins Z H { s with heap:=h' }:=I.kept (t':=s.toks) kp; have I2:Inv X pins Z (upd H h'.objs.size (.tup ys)) { s with heap:=h'.push { cls:=.type "tuple",data:=.seq its.toArray } } :=
     I1.laid (t':=s.toks) (fun b o e=>vD _ e) (vL _) (show ObjOk X.prog X.w _ _ _ (.tup ys) from ⟨hz,its,r',IsTup.new _ _⟩)
   exact ⟨.ref h'.objs.size,_,I2,rfl,q _ (I1.hok.fresh (vL _))⟩
 . obtain ⟨its,r',pl,hz⟩:=I.tuple hq
   exact call_tuple_same pl ⟨.ref p,H,I,rfl,q⟩
def tyV (K:vB) (T:String) (x:V) (H:Hp):Prop:=match x with
 | .str _=>T = "str"
 | .int _=>T = "int"
 | .ref p => (T = "list" /\ ∃ xs, SqL K H p xs) \/ (T = "tuple" /\ ∃ o, K.lookup p = some o /\ o.cls = .type "tuple" /\ o.dict = none) \/
     (T = "dict" /\ ((∃ kvs,H p=some (.dK kvs))\/∃ kvs,H p=some (.dT kvs)))\/(T = "set" /\ ∃ S n,H p=some (.set S n))
 | _=>False
theorem fU {pins:List (vG×Obj)} {Z:St} {H:Hp} {s:uZ} {T:String} {x:V} {v:uY} (I:Inv X pins Z H s) (r:RelV x v) (ty:tyV X.K T x H) :
   s.TypeIs v T/\∀ a,v=.ref a->∃ ob,s.heap.get? a=some ob/\ob.dict=none:=by
 cases x with
 | str z =>
   obtain ⟨t,rfl⟩:=r;cases (show T = "str" from ty);exact ⟨typeIs_str s z t,fun _ e=>nomatch e⟩
 | int i =>
   obtain ⟨t,rfl⟩:=r;cases (show T = "int" from ty);exact ⟨typeIs_int s i t,fun _ e=>nomatch e⟩
 | ref p =>
   cases r; rcases ty with ⟨rfl,xs,hq⟩ | ⟨rfl,o,hk,hc,hd⟩ | ⟨rfl,hk⟩ | ⟨rfl,S,n,hk⟩
   . obtain ⟨its,_,pl,_⟩:=I.list hq
     refine ⟨pl.isList.typeIs,fun a e=>?_⟩;cases e; obtain ⟨o,n,e,c,hd,_⟩:=pl; exact ⟨o,e,hd⟩
   . refine ⟨⟨o,I.kIn p o hk,hc⟩,fun a e=>?_⟩
     cases e; exact ⟨o,I.kIn _ o hk,hd⟩
   . have z : ∃ o, s.heap.get? p = some o /\ o.ExactDict := by
       rcases hk with ⟨kvs,hk⟩ | ⟨kvs,hk⟩
       . obtain ⟨_,_,_,_,o,_,_,e,ex,_⟩:=I.hok p _ hk
         exact ⟨o,e,ex⟩
       . obtain ⟨_,_,_,_,o,_,_,e,ex,_⟩:=I.hok p _ hk
         exact ⟨o,e,ex⟩
     obtain ⟨o,e,ex⟩:=z; refine ⟨⟨o,e,ex.1⟩,fun a e2=>?_⟩;cases e2; exact ⟨o,e,ex.2.1⟩
   . obtain ⟨o,_,_,_,e,ex,_⟩:=I.hok p _ hk
     refine ⟨⟨o,e,ex.1⟩,fun a e2=>?_⟩;cases e2; exact ⟨o,e,ex.2.1⟩
 | _=>exact i3 ty
def tBM0 (K:vB) (T:String) (r:V->List V->Hp->VK->Prop) (to:TE):TE:=fun Z H Q=>to Z H fun x H1=>tyV K T x H1/\r x [] H1 Q
def tBM (K:vB) (T:String) (r:V->List V->Hp->VK->Prop) (to:TE) (t:TA):TE:=fun Z H Q=>to Z H fun x H1=>tyV K T x H1/\t Z H1 fun xs H2=>r x xs H2 Q
variable {o e:Expr} {es:List Expr} {to:TE} {t:TA} {name:Str} {apos cpos:Pos} {T id:String} {r:V->List V->Hp->VK->Prop}
theorem sK (pa:PlainAttrs T) (slot:Slot T name id) (hty:typeOf (.builtin id)=pure (.type "method_descriptor")) (hm:MtR X id r) (ho:PE X o to)
   (hbase:i7 o name X.env (eval o X.env)=eval o X.env:=by rfl) (hline:(apos.endLine==cpos.line)=true:=by rfl):PE X (.Call (.Attribute o name apos) [] [] cpos) (tBM0 X.K T r to):=by
 intro pins s Z H Q I h;refine wpAny_Call_method0_late hbase hline (thn (ho pins s Z H _ I h) fun v s1 hZ2=>?_);obtain ⟨x,H1,I1,r1,ty,q1⟩:=hZ2;obtain ⟨h1,h2⟩:=fU I1 r1 ty;exact ⟨T,id,pa,slot,hty,h1,h2,AN rfl (PySem.evalArgs_none (hm pins s1 Z H1 x [] v [] Q I1 r1 .nil q1))⟩
theorem Qo (pa:PlainAttrs T) (slot:Slot T name id) (hty:typeOf (.builtin id)=pure (.type "method_descriptor")) (hm:MtR X id r) (ho:PE X o to) (ha:PA X (e::es) t)
   (hbase:i7 o name X.env (eval o X.env)=eval o X.env:=by rfl)
   (hfew:((yL cpos (vI (e::es) X.env)).all (fun x => !x.1)&&(EI cpos (AX [] X.env)).all (fun x=>x.1.isSome)
     && decide ((e::es).length+([]:List x8).length+(if ([]:List x8).isEmpty then 0 else 1) < 30))=true:=by rfl)
   (hline:(apos.endLine==cpos.line)=true:=by rfl) (hs:vI (e::es) X.env=(false,eval e X.env)::vI es X.env:=by rfl) (hplain:(yL cpos (vI es X.env)).any (·.1)=false:=by rfl) :
   PE X (.Call (.Attribute o name apos) (e::es) [] cpos) (tBM X.K T r to t):=by
 intro pins s Z H Q I h;refine wpAny_Call_method_late hbase hfew hline rfl (thn (ho pins s Z H _ I h) fun v s1 hZ2=>?_);obtain ⟨x,H1,I1,r1,ty,q1⟩:=hZ2;obtain ⟨h1,h2⟩:=fU I1 r1 ty;refine ⟨T,id,pa,slot,hty,h1,h2,?_⟩;have hA:=ha cpos pins s1 Z H1 _ I1 q1;rw [hs] at hA ⊢;refine AN (by show (false||(yL cpos (vI es X.env)).any (·.1))=false; rw [hplain] <;> rfl) (BL ?_)
 exact thn hA fun us s2 hZ2=>by obtain ⟨vs,H2,I2,r2,q2⟩:=hZ2; exact hm pins s2 Z H2 x vs v us Q I2 r1 r2 q2
end
end L2
namespace L2
open PySem PySem.Spec PyProof.Rows
def MtM (X:Cx) (id:String) (r:V->List V->Hp->VK->Prop):Prop :=
 ∀ (pins:List (vG×Obj)) (s:uZ) (Z:St) (H:Hp) (x:V) (xs:List V) (v:uY) (us:List uY) (Q:VK),Inv X pins Z H s->RelV x v->Vals xs us->r x xs H Q ->
   wpAny (vS X.prog X.w) X.A (call (.builtin id) (v::us)) (EP X pins Z Q) X.xe s
theorem Vals.zero {us:List uY} (h:Vals [] us):us=[]:=by cases h; rfl
theorem Vals.uncons {x:V} {xs:List V} {us:List uY} (h:Vals (x::xs) us):∃ u r,us=u::r/\RelV x u/\Vals xs r:=by cases h with | cons a t=>exact ⟨_,_,rfl,a,t⟩
theorem Vals.one {x:V} {us:List uY} (h:Vals [x] us):∃ u,us=[u]/\RelV x u:=by
 obtain ⟨u,r,rfl,a,t⟩:=h.uncons;exact ⟨u,by rw [t.zero],a⟩
theorem Vals.dropLast {xs:List V} {us:List uY} (h:Vals xs us):Vals xs.dropLast us.dropLast:=by
 induction h with
 | nil=>exact .nil
 | cons r t ih =>
   cases t with
   | nil=>exact .nil
   | cons q t'=>exact .cons r ih
theorem Vals.reverse {xs:List V} {us:List uY} (h:Vals xs us):Vals xs.reverse us.reverse:=by
 induction h with
 | nil=>exact .nil
 | cons r t ih=>rw [AQ,AQ]; exact Vals.append ih (.cons r .nil)
theorem Vals.rep {xs:List V} {us:List uY} (h:Vals xs us):∀ k:Nat,Vals (vW k xs).flatten (vW k us).flatten:=by
 intro iN; induction iN with
 | zero=>skip; exact .nil
 | succ k ih =>
   skip
   rw [zF,zF,p6,p6]; exact Vals.append h (ih)
theorem Zh {α:Type} (l:List α):l.eraseIdx (l.length - 1)=l.dropLast:=by
 induction l with
 | nil=>rfl
 | cons a r ih =>
   cases r with
   | nil=>rfl
   | cons b r =>
     have e:(a::b::r).length - 1=((b::r).length - 1)+1:=by
       have h1:(a::b::r).length=r.length+2:=rfl; have h2:(b::r).length=r.length+1:=rfl;lia
     rw [e,List.eraseIdx_cons_succ,ih];all_goals rfl
theorem eY (its:List uY):∀ (k:Nat) (acc:List uY),
   FI (fun x1 x2=>x1++x2) acc.toArray (vW k its.toArray)=(acc++(vW k its).flatten).toArray:=by
 intro iN; induction iN with
 | zero=>intro acc; simp
 | succ k ih =>
   intro acc; have e:acc.toArray++its.toArray=(acc++its).toArray:=by simp
   have e2:(acc++its)++(vW k its).flatten=acc++(vW (k+1) its).flatten:=by
     rw [zF,p6,wR]
   rw [<- e2,<- ih (acc++its),<- e,zF,AG]
section
variable {X:Cx} {pins:List (vG×Obj)} {Z:St} {H:Hp} {s:uZ} {l:vG} {xs ys:List V}
theorem Inv.lset {its its':List uY} {n:Nat} {f:Array uY->Array uY} {t':Nat} (I:Inv X pins Z H s) (hH:H l=some (.lst xs))
   (e:s.heap.get? l=some { cls:=.type "list",data:=.seq its.toArray n }) (hf:f its.toArray=its'.toArray) (hv:Vals ys its') (hz:ys.length<=sizeLine) :
   Inv X pins Z (upd H l (.lst ys)) { s with heap:=s.heap.update l (DZ f),toks:=t' }:=by
 have q:=PySem.IsL.update e f;rw [hf] at q;refine I.write (x:=l) (e:=l) (by rw [hH]; exact trivial) (.inl rfl) (fun b' u hb hu=>(DV s.heap (DZ f) (Ne.symm hb)).trans hu) ⟨_,q⟩ ?_;exact ⟨hz,its',_,hv,q⟩
theorem Inv.lnew {its:List uY} {t':Nat} (I:Inv X pins Z H s) (hv:Vals ys its) (hz:ys.length<=sizeLine) :
   Inv X pins Z (upd H s.heap.objs.size (.lst ys)) { s with heap:=s.heap.push { cls:=.type "list",data:=.seq its.toArray },toks:=t' } :=
 I.laid (fun _ _ q=>vD _ q) (vL _) ⟨hz,its,0,hv,vH _ rfl⟩
theorem Inv.fresh (I:Inv X pins Z H s):H s.heap.objs.size=none:=I.hok.fresh (vL _)
theorem Inv.lstM (I:Inv X pins Z H s) (hH:H l=some (.lst xs)):xs.length<=sizeLine/\∃ (its:List uY) (n:Nat),Vals xs its/\xs.length=its.length/\s.heap.get? l=some { cls:=.type "list",data:=.seq its.toArray n }:=by
 obtain ⟨z,its,n,r,e⟩:=I.hok l _ hH;exact ⟨z,its,n,r,r.length,e⟩
theorem Vs {n:Nat} (h:n<=sizeLine):p9 n=false:=by
 unfold p9;exact decide_eq_false (by lia)
end
section
variable {X:Cx}
def mQ:V->List V->Hp->VK->Prop:=fun x vs H Q=>∃ l xs y,x=.ref l/\vs=[y]/\H l=some (.lst xs)/\xs.length < sizeLine/\Q .non (upd H l (.lst (xs++[y])))
theorem Jc:MtM X "list.append" mQ:=by
 intro pins s Z H x vs v us Q I rx rv h;obtain ⟨l,xs,y,rfl,rfl,hH,hz,q⟩:=h;cases rx;obtain ⟨u,rfl,ru⟩:=rv.one;obtain ⟨z,its,n,r,hl,e⟩:=I.lstM hH;refine CZ F.slot_list_append ⟨_,e,rfl⟩ F.entry_list_append (F.args_list_append_2 _ _) (PySem.list_append l its.toArray n u (by rw [vO]; lia)) ⟨e,?_⟩;refine ⟨.non,_,I.lset (its':=its++[u]) hH e (by simp) (r.append (.cons ru .nil)) ?_,rfl,q⟩;rw [wB,JF];lia
def mO:V->List V->Hp->VK->Prop:=fun x vs H Q=>∃ l b xs zs,x=.ref l/\vs=[.ref b]/\H l=some (.lst xs)/\H b=some (.lst zs)/\xs.length+zs.length<=sizeLine/\Q .non (upd H l (.lst (xs++zs)))
theorem eC:MtM X "list.extend" mO:=by
 intro pins s Z H x vs v us Q I rx rv h;obtain ⟨l,b,xs,zs,rfl,rfl,hH,hB,hz,q⟩:=h;cases rx;obtain ⟨u,rfl,ru⟩:=rv.one;cases ru;obtain ⟨z,its,n,r,hl,e⟩:=I.lstM hH;obtain ⟨z2,its2,n2,r2,hl2,e2⟩:=I.lstM hB;have hsz:its.toArray.size+its2.toArray.size<=sizeLine:=by rw [vO,vO]; lia
 have hlong:¬ (!its.toArray.isEmpty&&p9 (its.toArray.size+its2.toArray.size))=true:=by
   rw [Vs hsz,Bool.and_false]; exact zQ
 refine CZ F.slot_list_extend ⟨_,e,rfl⟩ F.entry_list_extend (F.args_list_extend_2 _ _)
   (AutoSeq1.list_extend_list_list_0 l its.toArray n b its2.toArray n2 hlong (by rw [vO]; lia) (by lia)) ⟨e,e2,?_⟩
 refine ⟨.non,_,I.lset (its':=its++its2) hH e (by simp) (r.append r2) ?_,rfl,q⟩;rw [wB];lia
def rPop:V->List V->Hp->VK->Prop:=fun x vs H Q=>∃ l xs y,x=.ref l/\vs=[]/\H l=some (.lst xs)/\xs[xs.length - 1]? = some y/\Q y (upd H l (.lst xs.dropLast))
theorem sU:MtM X "list.pop" rPop:=by
 intro pins s Z H x vs v us Q I rx rv h;obtain ⟨l,xs,y,rfl,rfl,hH,hy,q⟩:=h;cases rx;have hus:=rv.zero;subst hus;obtain ⟨z,its,n,r,hl,e⟩:=I.lstM hH;obtain ⟨u,hu,ru⟩:=r.get hy;have hy':its.toArray[its.toArray.size - 1]? = some u:=by
   show its.toArray[its.length - 1]? = some u;rw [<- i5,<- hl]; exact hu
 refine CZ F.slot_list_pop ⟨_,e,rfl⟩ F.entry_list_pop (F.args_list_pop_1 _) (MeetsSeq.list_pop_last l its.toArray n u hy' (by rw [vO]; lia)) ⟨e,?_⟩;refine ⟨y,_,I.lset (its':=its.dropLast) hH e ?_ r.dropLast ?_,ru,q⟩
 . show its.toArray.eraseIdxIfInBounds (its.toArray.size - 1)=its.dropLast.toArray
   rw [vO,List.eraseIdxIfInBounds_toArray,Zh]
 . rw [JR]
   lia
theorem bC {α:Type} (xs:List α) (k:Nat):(vW k xs).flatten.length=k*xs.length:=by
 induction k with
 | zero=>simp
 | succ k ih=>rw [zF,p6,wB,ih,Nat.succ_mul,Nat.add_comm]
end
end L2
namespace Att
open PySem PySem.W PySem.Calls PyProof.Rows
theorem Kv {P:FQ} {h:wT}:∀ (ns:List Int) (vs:List uY),WellAll P h vs (ns.map WData.int)->EV vs ns:=by
 intro ns;induction ns with
 | nil =>
   intro vs w; rw [c7] at w; cases w; exact .nil
 | cons n ns ih =>
   intro vs w; rw [vK] at w;cases w with
   | cons a b =>
     cases a; exact .cons _ _ (ih _ b)
theorem dD {l:OpenLaw} {n:Nat} (hn:l.most=some n) {P:FQ} {h:wT} {args:List WData} {vals:List uY}
   (hpre:l.row.toRowW.claim.pre args=true) (hwl:WellAll P h vals args) :
   ∃ a vs ns,vals=[yH a]/\args=[WData.list (ns.map WData.int)]/\h.get? a=some { cls:=.type "list",data:=.seq vs.toArray }/\EV vs ns/\ns.length<=n:=by
 have hsh:WShape.hasAll [] args [.list .int]=true:=(pre_splitW hpre).1;have hc:l.pre.holds [] { args:=args }=true:=(pre_splitW hpre).2;obtain ⟨d,r,rfl,h1,h2⟩:=hasAllW_cons hsh;obtain rfl:=hasAllW_nil h2;obtain ⟨xs,rfl,h3⟩:=hasW_list h1;obtain ⟨ns,rfl⟩:=items_int h3;have hlen:ns.length<=n:=by
   unfold OpenLaw.pre at hc; have h4:(WTm.not (.lt (.lit (.int (n:Int))) (.len (.arg 0)))).holds [] { args:=[.list (ns.map .int)] }=true:=by
     have h4:=(holds_andW hc).1; rw [hn] at h4; exact h4
   have h5:=condW_of h4 (w_not (w_lt w_lit (w_len_list (w_arg rfl)))); rw [vA] at h5; refine Nat.le_of_not_lt fun q=>?_;have q':(n:Int) < ((ns.length:Nat):Int):=by lia
   first
     | (rw [decide_eq_true q'] at h5; exact absurd h5 (by decide))
     | (simp at h5; lia)
 cases hwl with
 | cons w1 w2 =>
   cases w2;cases w1 with
   | list ho hall=>exact ⟨_,_,ns,rfl,rfl,ho,Kv ns _ hall,hlen⟩
theorem dO (l:OpenLaw) (args:List WData):l.row.toRowW.claim.post args (.bool true) args=true :=
 postW_of (r:=l.row.toRowW) (X:=(true==true))
   (show WShape.has [] (.bool true) .bool=true by first | rfl | decide | simp [WShape.has,WShape.arms,WShape.armsAll])
   (show (WTm.eq .res (.lit (.bool true))).value [] { args:=args,res:=some (.bool true),after:=args }=some (.bool (true==true)) from w_eq_bool (w_res rfl) w_lit) rfl
theorem attach_call {l:OpenLaw} {n:Nat} {q:vU} {loose:List Str} {XP:(Str->Option uY)->wT->Prop} {YP:wD->wT->Prop} {d:DefRec}
   (hn:l.most=some n) (hdf:d.params.defaults=[])
   (call:∀ (w:wD) (s₀ s₁:uZ) (mg mb:Str->Option uY) (fa:vG) (o:Obj) (pm cd doc:uY) (a:vG) (vs:List uY) (ns:List Int),
     Ground q loose [] XP w s₀ mg mb s₁.heap->YP w s₁.heap ->
     s₁.heap.get? fa=some o->o.data=.func (docDef d.name d.params d.body d.scope pm cd doc)->s₁.heap.CodeRec cd d.name->mg d.name=some (.ref fa) ->
     s₁.heap.get? a=some { cls:=.type "list",data:=.seq vs.toArray }->EV vs ns->ns.length<=n->s₁.gens = #[] ->
     BI (vS l.prog w) GZ (.call (.ref fa) ⟨[.ref a],[]⟩) (fun r s'=>r=.ok (.ret (.bool true))/\OldK s₁.heap s'.heap/\s'.os=s₁.os/\DY s'.gens) s₁) :
   WalkO q loose XP YP l.row.toRowW d [] (fun f vs=>PySem.call f vs):=by
 intro w s₀ s₁ mg mb G Y fa o pm cd doc dV kV ho hd hcd hD hmg hg args vals as hpre hlay hrd hwl hlo;obtain rfl:dV=.none:=Dflts.none hD hdf;obtain rfl:kV=.none:=Dflts.noKw hD;obtain ⟨a,vs,ns,rfl,rfl,hobj,hints,hlen⟩:=dD hn hpre hwl;refine enter_call (o0 (call w s₀ s₁ mg mb fa o pm cd doc a vs ns G Y ho (fd_plain hd) hcd hmg hobj hints hlen hg) fun r s' hq=>?_);obtain ⟨rfl,h2,h3,h4⟩:=hq;exact ⟨.inl ⟨.bool true,.bool true,[],rfl,fun _=>rfl,.bool true,dO l _,fun _=>⟨HN,fun _ hm=>(nomatch hm)⟩⟩,h2,h3,h4⟩
end Att
namespace L2
open PySem PySem.Spec PyProof.Rows
theorem Qd:∀ {vs:List uY} {ns:List Int},EV vs ns->Vals (ns.map V.int) vs
 | _,_,.nil=>.nil
 | _,_,.cons n t h=>.cons ⟨t,rfl⟩ (Qd h)
def uT (H:Hp):Prop:=∀ b,H b=none\/∃ o xs,H b=some (.frz o (.lst xs))
theorem jR {P:vU} {w:wD} {K:vB} {mg mb:Str->Option uY} {CX:CXT} {k:Nat} {fa a:vG} {fd:AM} {x:Str} {sp:Sp} {s₁:uZ} {vs:List uY} {ns:List Int}
   (KX:K.In s₁.heap) (hns:s₁.heap.Ns xZ mg) (hb:s₁.heap.Ns ES mb) (hbb:∀ x:Str,x ≠ "__name__" -> mb x=p0 x) (hlim:s₁.heap.NoLimit) (hg:s₁.gens = #[])
   (ha:s₁.heap.get? a=some { cls:=.type "list",data:=.seq vs.toArray }) (hi:EV vs ns) (hl:ns.length<=sizeLine) (hr:Room k GZ)
   (F:∀ base:wT,K.In base->base.Ns xZ mg->FnOk P w K mg base CX k fa fd [x] sp) (hbind:∀ (s:uZ) (u:uY),BindsTo s fd ⟨[u],[]⟩ [(x,u)])
   (hsp:∀ H:Hp,uT H->SqL K H a (ns.map V.int)->sp [.ref a] H (fun v _=>v=.bl true) fun _ _ _=>False)
   (hCX:∀ H e s',CX [] H s₁ (fun _ _ _=>False) e s'->False) :
   BI (vS P w) GZ (.call (.ref fa) ⟨[.ref a],[]⟩) (fun r s'=>r=.ok (.ret (.bool true))/\OldK s₁.heap s'.heap/\s'.os=s₁.os/\DY s'.gens) s₁:=by
 have rv:=Qd hi;have lenV:=hi.length;have core : ∀ H : Hp, uT H -> SqL K H a (ns.map V.int) -> HOk P w H s₁.heap -> (∀ b, H b ≠ none -> b = a) -> (H a ≠ none -> K.lookup a = none) ->
     BI (vS P w) GZ (.call (.ref fa) ⟨[.ref a],[]⟩) (fun r s'=>r=.ok (.ret (.bool true))/\OldK s₁.heap s'.heap/\s'.os=s₁.os/\DY s'.gens) s₁:=by
   intro H hO hS hok hA hK; have base_of:∀ {b:vG} {o:Obj},s₁.heap.get? b=some o->H b=none->(Tn s₁.heap H).get? b=some o:=fun e n=>kB e n;have noA:∀ {b:vG} {o:Obj} {es:Array xP} {ep:Nat},s₁.heap.get? b=some o->o.data=.dict es ep->H b=none:=fun {b o es ep} e d=>by
     cases q:H b with
     | none=>rfl
     | some u =>
       have e':b=a:=hA b (by rw [q]; simp);subst e'; rw [ha] at e; cases e; have d':Data.seq vs.toArray _=Data.dict es ep:=d;cases d'
   have nsK:∀ {b:vG} {m:Str->Option uY},s₁.heap.Ns b m->(Tn s₁.heap H).Ns b m:=fun {b m} ⟨o,es,ep,e,d,r⟩=>⟨o,es,ep,base_of e (noA e d),d,r⟩;have hKb:K.In (Tn s₁.heap H):=fun b o e=>base_of (KX b o e) (by
     cases q:H b with
     | none=>rfl
     | some u =>
       have e':b=a:=hA b (by rw [q]; simp);subst e'; rw [hK (by rw [q]; simp)] at e; cases e)
   have hM:Mod K mg (Tn s₁.heap H):=⟨hKb,nsK hns,⟨mb,nsK hb,hbb⟩,let ⟨mc,h1,h2⟩:=hlim; ⟨mc,nsK h1,h2⟩⟩;have e0:Env0 P w K mg (Tn s₁.heap H) GZ [] s₁ H:=⟨rfl,hM,fun b o e=>nU e,Nat.le_of_eq (eU _ _),trivial,fun b hb=>absurd (show b∈([]:List vG) from hb) (by simp),hok,.of_eq hg⟩;refine o0 ((F _ hKb (nsK hns)).run GZ [] s₁ H ⟨[.ref a],[]⟩ [.ref a] [.ref a] _ _ hr e0 (hbind s₁ (.ref a)) (.cons rfl .nil) (hsp H hO hS)) fun r s' h=>?_;cases r with
   | error e=>exact (hCX H e s' h).elim
   | ok fl =>
     cases fl with
     | next=>exact i3 h
     | brk=>exact i3 h
     | cont=>exact i3 h
     | ret u =>
       obtain ⟨v,H',os,bare,un,hok',r',q⟩:=h; have q':v=.bl true:=q; subst q'; obtain rfl:u=AY true:=r'; refine ⟨rfl,OldK.of_keep fun b o e=>?_,os,bare⟩;cases q:H b with
       | none=>exact un.keep b o e q (by intro z; exact absurd (show b∈([]:List vG) from z) (by simp)) (by simp)
       | some u =>
         rcases hO b with z | ⟨ob,xs,z⟩
         . rw [q] at z; cases z
         . have z2:=un.frzs b ob _ z
           obtain ⟨e1,_⟩:=hok b _ z; obtain ⟨e2,_⟩:=hok' b _ z2; rw [e] at e1; cases e1; exact e2
 cases hk:K.lookup a with
 | some o =>
   have e:=KX a o hk; rw [ha] at e; cases e; refine core (fun _=>none) (fun _=>.inl rfl) (.inr ⟨_,vs.toArray,_,hk,rfl,rfl,rfl,by rw [vO,lenV]; exact hl,by simpa using rv⟩) (fun b u z=>by have z':(none:Option HO)=some u:=z; cases z') (fun b z=>absurd rfl z) fun z=>absurd rfl z
 | none =>
   refine core (fun b=>if b=a then some (.frz { cls:=.type "list",data:=.seq vs.toArray } (.lst (ns.map V.int))) else none) (fun b=>?_) (.inl (.inr ⟨{ cls:=.type "list",data:=.seq vs.toArray },if_pos rfl⟩)) (fun b u z=>?_) (fun b z=>?_) fun _=>hk
   . by_cases hb:b=a
     . exact .inr ⟨_,_,if_pos hb⟩
     . exact .inl (if_neg hb)
   . by_cases hb:b=a
     . have z':=(if_pos hb).symm.trans z
       cases z'; subst hb; exact ⟨ha,by rw [vA]; exact hl,vs,_,rv,ha⟩
     . have z':=(if_neg hb).symm.trans z
       cases z'
   . by_cases hb:b=a
     . exact hb
     . exact absurd (if_neg hb) z
end L2
namespace L2
open PySem PySem.Spec PyProof.Rows
theorem lQ {l:PySem.W.OpenLaw} {n k:Nat} {q:vU} {loose:List Str} {XP:(Str->Option uY)->wT->Prop} {YP:wD->wT->Prop} {d:DefRec} {K:FQ->vB} {CX:wD->CXT} {sp:wD->Sp} {x:Str}
   (hn:l.most=some n) (hn2:n<=sizeLine) (hdf:d.params.defaults=[]) (hr:Room k GZ)
   (hY:∀ (w:wD) (h:wT),YP w h->(K w.params).In h)
   (F:∀ (w:wD) (mg:Str->Option uY) (fa:vG) (h:wT),(K w.params).In h->h.Ns xZ mg->mg d.name=some (.ref fa) ->
     ∃ fd:AM,(∀ (s:uZ) (u:uY),BindsTo s fd ⟨[u],[]⟩ [(x,u)]) /\
       ∀ base:wT,(K w.params).In base->base.Ns xZ mg->FnOk l.prog w (K w.params) mg base (CX w) k fa fd [x] (sp w))
   (hsp:∀ (w:wD) (H:Hp) (a:vG) (ns:List Int),ns.length<=n->uT H->SqL (K w.params) H a (ns.map V.int)->sp w [.ref a] H (fun v _=>v=.bl true) fun _ _ _=>False)
   (hCX:∀ (w:wD) (H:Hp) (s:uZ) (e:uY) (s':uZ),CX w [] H s (fun _ _ _=>False) e s'->False) :
   PySem.W.WalkO q loose XP YP l.row.toRowW d [] (fun f vs=>PySem.call f vs):=by
 refine Att.attach_call hn hdf fun w s₀ s₁ mg mb fa o pm cd doc a vs ns G Y ho hd hcd hmg hobj hints hlen hg=>?_;have KX:=hY w _ Y;obtain ⟨fd,hb,hF⟩:=F w mg fa _ KX G.T.g hmg;exact jR KX G.T.g G.T.b G.T.builtins G.T.nolimit hg hobj hints (vX hlen hn2) hr hF hb (fun H hO hS=>hsp w H a ns hlen hO hS) fun H e s'=>hCX w H s₁ e s'
end L2
namespace L2
open PySem PySem.Spec PyProof.Rows
def L5 (s:k8):Arguments:=match s with
 | .FunctionDef _ a _ _ _ _ _ _ _ _=>a
 | _=>{ posonlyargs:=[],args:=[],vararg:=none,kwonlyargs:=[],kw_defaults:=[],kwarg:=none,defaults:=[] }
def B4 (s:k8):List k8:=match s with
 | .FunctionDef _ _ b _ _ _ _ _ _ _=>b
 | _=>[]
def A4 (s:k8):Scope:=match s with
 | .FunctionDef _ _ _ _ _ _ sc _ _ _=>sc
 | _=>{ kind:=.function,names:=[],isGenerator:=false,isCoroutine:=false }
abbrev CX0:CXT:=fun _ _ _ _ _ _=>False
abbrev E0:XK:=fun _ _ _=>False
theorem aS {X:Cx}:aA CX0 X E0:=fun _ _ _ _ _ _ _ h=>h.elim
structure Fun (K:vB) (x qual:Str) (st:k8) (f:vG) (fd:AM):Prop where
 ex:∃ (oc:uY) (od:Option vG) (kV doc pm:uY) (an:Option vG) (cdv ct:uY) (osl:Array (Option uY)),
   fd=xQ x qual (L5 st) (B4 st) (A4 st) .none kV doc pm an cdv ct/\K.lookup f=some ⟨oc,od,.func fd,osl⟩/\f9 K cdv qual=true
 kp:xU K (.ref f)=true
section
variable {P:vU} {w:wD} {K:vB} {mg:Str->Option uY} {base:wT}
theorem Fun.ok {x qual:Str} {st:k8} {f:vG} {fd:AM} {N ps:List Str} {k:Nat} {sp:Sp} (F:Fun K x qual st f fd) (S:FnScope N ps (A4 st)) (len:∀ vs H Q E,sp vs H Q E->vs.length=ps.length)
   (hbody:∀ (cdv:uY) (A:xD) (outer:List Env) (s:uZ) (H:Hp) (vs:List V) (Q:VK) (E:XK),Room k (A.deeper (envOfC qual (A4 st) s.heap.objs.size f cdv))->sp vs H Q E ->
     ∃ t,PSs (Zm CX0 P w K mg base N qual (A4 st) f cdv A outer s H E).nox (B4 st) t/\t { nx:=fun _ H'=>Q .non H',rt:=Q } (An N vs) H):FnOk P w K mg base CX0 (k+1) f fd ps sp:=by
 obtain ⟨oc,od,kV,doc,pm,an,cdv,ct,osl,rfl,lk,hcd⟩:=F.ex;refine qT lk hcd S len fun A outer s H vs Q E hr hsp=>?_;obtain ⟨t,h,q⟩:=hbody cdv A outer s H vs Q E hr hsp;exact ⟨t,h.nox,q⟩
theorem Fun.binds {x qual:Str} {st:k8} {f:vG} {fd:AM} {ps:List Str} (F:Fun K x qual st f fd)
   (h:∀ (kV doc pm:uY) (an:Option vG) (cdv ct:uY) (us:List uY),us.length=ps.length->EG (xQ x qual (L5 st) (B4 st) (A4 st) .none kV doc pm an cdv ct) ⟨us,[]⟩=pure (ps.zip us)):Binds K fd ps []:=by
 obtain ⟨oc,od,kV,doc,pm,an,cdv,ct,osl,rfl,lk,hcd⟩:=F.ex;exact .all (h kV doc pm an cdv ct)
theorem kD {x qual:Str} {st:k8} {f:vG} {oc:uY} {od an:Option vG} {osl:Array (Option uY)} {kV doc pm cdv ct:uY} (l:K.lookup f=some ⟨oc,od,.func (xQ x qual (L5 st) (B4 st) (A4 st) .none kV doc pm an cdv ct),osl⟩)
   (c:f9 K cdv qual=true) (k:xU K (.ref f)=true):Fun K x qual st f (xQ x qual (L5 st) (B4 st) (A4 st) .none kV doc pm an cdv ct):=⟨⟨oc,od,kV,doc,pm,an,cdv,ct,osl,rfl,l,c⟩,k⟩
end
section
variable {X:Cx}
theorem pv (i:Nat) {x:Str} {pos:Pos} (hN:X.N[i]? = some x:=by rfl) (hv:Vis X.env.scope x:=by first | exact Or.inl rfl | exact Or.inr (Or.inl rfl) | exact Or.inr (Or.inr rfl)) (hd:(x==("__debug__" : Str))=false:=by decide)
   (hcd:(x==("__classdict__" : Str))=false:=by decide):PE X (.Name x pos) (Sa i):=Iy hN hv hd hcd
end
def Same (H H':Hp):Prop:=∀ b o,H b=some o->H' b=some o
theorem Same.refl (H:Hp):Same H H:=fun _ _ h=>h
theorem Same.trans {H H1 H2:Hp} (a:Same H H1) (b:Same H1 H2):Same H H2:=fun c o h=>b c o (a c o h)
theorem Same.free {H H':Hp} (e:Same H H') {l:vG} (h:H' l=Option.none):H l=Option.none:=by
 cases q:H l with
 | none=>rfl
 | some o =>
   rw [e l o q] at h; cases h
end L2
section
namespace Sm
open PySem PySem.Spec PyProof.Rows L2
abbrev St:=L2.St
section
variable {prog:vU} {w:wD} {A:xD} {R:Result->uZ->Prop} {s:uZ}
theorem Tv {elt target iter:Expr} {ifs:List Expr} {scope:Scope} {pos:Pos} {it acc:uY} {env:Env} (I:Nat->uZ->Prop)
   (turn:∀ n s,I n s->wpAny (vS prog w) A (pyNext it) (fun r s₁=>match r with
     | none=>R (.ok .next) s₁
     | some v => wpAny (vS prog w) A (EX target it v) (fun _ s₁' => wpAny (vS prog w) A (assign target env v) (fun _ s₂ =>
         wpAny (vS prog w) A (forIn ifs true fun c r=>if r=true then do let ok <- isTrue c env (eval c env); pure (i4 ok) else pure (i4 r)) (fun ok s₃ =>
           if ok=true then wpAny (vS prog w) A (eval elt env) (fun x s₄ =>
             wpAny (vS prog w) A (call (.builtin "list.append") [acc,x]) (fun _ s₅=>∃ m,m < n/\I m s₅) (fun _ _=>False) s₄) (fun _ _=>False) s₃
           else ∃ m,m < n/\I m s₃) (fun _ _=>False) s₂) (fun _ _=>False) s₁') (fun _ _=>False) s₁) (fun _ _=>False) s)
   (n:Nat) (h:I n s):BI (vS prog w) A (.compLoop (.ListComp elt [⟨target,iter,ifs,0⟩] scope pos) 0 it acc env) R s:=by
 refine codeAny_loop rfl I (fun n s hI=>?_) n h;show wpAny _ A ((compTurn (.ListComp elt [⟨target,iter,ifs,0⟩] scope pos) 0 it acc env).onRaise (fun x=>do noteFrame x env; theTreesLotGoes x)) _ _ s;refine wpAny_noted ?_;rw [compTurn_list];refine uW (wpAny_standAt (uW (xT (turn n s hI) (fun r s₁ h₁=>?_) fun _ _ h'=>h'.elim)));cases r with
 | none=>exact uX h₁
 | some v =>
   refine uW (xT h₁ (fun _ s₁' h₁'=>?_) fun _ _ h'=>h'.elim);refine uW (xT h₁' (fun _ s₂ h₂=>uW (xT h₂ (fun ok s₃ h₃=>?_) fun _ _ h'=>h'.elim)) fun _ _ h'=>h'.elim);cases ok with
   | false=>exact uX ⟨rfl,h₃⟩
   | true =>
     exact uW (uW (xT h₃ (fun x s₄ h₄=>uW (xT h₄ (fun _ s₅ h₅=>uX (uX ⟨rfl,h₅⟩)) fun _ _ h'=>h'.elim)) fun _ _ h'=>h'.elim))
end
def Xl (X:Cx) (s₃:uZ) (H₃:Hp) (scope:Scope) (cl:List (Str×vG)) (N':List Str) (fp:List vG):Cx :=
 { X with N:=N',s₀:=s₃,H₀:=H₃,env:=compEnvC scope cl s₃.heap.objs.size X.env,outer:=X.stack,stack:=X.stack,ex:=fp,fn:=fun _=>false,pn:=[],xe:=fun _ _=>False }
structure Blk (X X':Cx) (N':List Str) (sc':Scope):Prop where
 prog:X'.prog=X.prog
 w:X'.w=X.w
 K:X'.K=X.K
 mg:X'.mg=X.mg
 base:X'.base=X.base
 A:X'.A=X.A
 calm:X'.calm=X.calm
 N:X'.N=N'
 sc:X'.env.scope=sc'
 xe:X'.xe=fun _ _=>False
structure Clos (X:Cx) (scope:Scope) (cl:List (Str×vG)):Prop where
 clo:closureFor scope X.env=pure cl
 sub:∀ x c,cl.lookup x=some c->X.env.cells.lookup x=some c
 has:∀ x,(c6 scope X.env).names.lookup x=some .cell\/(c6 scope X.env).names.lookup x=some .free->∃ c,cl.lookup x=some c
section
variable {X:Cx} {pins:List (vG×Obj)} {Z:St} {H:Hp} {s₃:uZ}
theorem uN {scope:Scope} {cl:List (Str×vG)} {N':List Str} {fp:List vG} (I:Inv X pins Z H s₃) (hk:scope.kind=.function) (C:Clos X scope cl) (hfp:∀ b∈fp,Ow X pins H b) (hlt:∀ b∈fp,b < s₃.heap.objs.size) :
   (Xl X s₃ H scope cl N' fp).Ok where
 mod:=I.ok.mod
 kind:=hk
 glob:=I.ok.glob
 blt:=I.ok.blt
 above:=vL _
 inj:=fun x y c h1 h2=>I.ok.inj x y c (C.sub x c h1) (C.sub y c h2)
 has:=fun x h=>C.has x h
 cab:=fun x c h=>nomatch h
 hd:=I.ok.hd
 frames:=I.ok.frames
 stk:=.inl rfl
 exf:=fun b hb=>⟨wL (hlt b hb),fun x c h=>(hfp b hb).2.2.2.2.1 x c (C.sub x c h)⟩
 bs:=fun b o e=>I.bs b o e
 bsz:=vX I.ok.bsz I.sz
 noex:=fun b o e hb=>by
   rcases (hfp b hb).2.2.2.1 with z | z
   . exact I.ok.noex b o e z
   . exact absurd (wG (vR e) (vX I.ok.bsz z)) (zU _)
 exfs:=fun b hb z=>by
   rcases vF.mp (I.stkSub b z) with q | q
   . exact (hfp b hb).2.1 q
   . exact (hfp b hb).2.2.1 q
 funs:=I.stack
 frf:=I.stkFree
def Dd (Z:St) (cap:List Nat):St:=cap.map fun j=>Z[j]?.join
theorem pV {scope:Scope} {cl:List (Str×vG)} {xs:List Str} {cap:List Nat} {capN:List Str} {fp:List vG} {h₁:wT} {tk:Nat} (I:Inv X pins Z H s₃) (hk:scope.kind=.function) (C:Clos X scope cl) (hfp:∀ b∈fp,Ow X pins H b) (hlt:∀ b∈fp,b < s₃.heap.objs.size)
   (hcap:cap.map (fun j=>X.N[j]?)=capN.map some) (hcl:∀ x∈capN,(c6 scope X.env).names.lookup x=some .cell\/(c6 scope X.env).names.lookup x=some .free)
   (hvis:∀ x∈capN,X.env.scope.names.lookup x=some .cell\/X.env.scope.names.lookup x=some .free) {m:Str->Option uY}
   (hns:h₁.Ns s₃.heap.objs.size m) (old:∀ b o,s₃.heap.get? b=some o->h₁.get? b=some o) :
   Inv (Xl X s₃ H scope cl (xs++capN) fp) [] (xs.map (fun _=>none)++Dd Z cap) H { s₃ with heap:=h₁,toks:=tk }:=by
 have hlen:cap.length=capN.length:=by simpa using congrArg BM hcap
 refine ⟨uN I hk C hfp hlt,rfl,I.bare,Un.kept old,⟨m,hns,fun i x v e1 e2 e3=>?_⟩,fun x c e=>?_,I.hok.fresh (vL _),fun x c e=>I.freeC x c (C.sub x c e),fun p hp=>absurd (show p∈([]:List (vG×Obj)) from hp) (by simp),I.hok.kept old,?_⟩
 . have e1':(xs++capN)[i]? = some x:=e1
   by_cases hi:i < xs.length
   . rw [wY (by simpa using hi),wE] at e2
     cases q:xs[i]? with
     | none=>rw [q] at e2; cases e2
     | some z=>rw [q] at e2; cases e2
   . rw [xE (by simpa using hi)] at e2
     rw [xE (by lia)] at e1'; rw [vA] at e2;generalize i - xs.length=j at e1' e2;unfold Dd at e2; rw [wE] at e2; have hc:(cap.map (fun j=>X.N[j]?))[j]? = some (some x):=by rw [hcap,wE,e1']; rfl
     rw [wE] at hc;cases q:cap[j]? with
     | none=>rw [q] at e2; cases e2
     | some k =>
       rw [q] at e2 hc; simp only [AB] at e2 hc; have hc':X.N[k]? = some x:=xH hc; have hs:Z[k]? = some (some v):=by
         cases z:Z[k]? with
         | none=>rw [z] at e2; cases e2
         | some z'=>rw [z] at e2; cases z' with
           | none=>cases e2
           | some z''=>cases e2; rfl
       have hx:x∈capN:=yR e1'; obtain ⟨m',hm',hl'⟩:=I.loc; obtain ⟨u,r,l⟩:=hl' k x v hc' hs (by rcases hvis x hx with z | z; exact .inr (.inl z); exact .inr (.inr z));refine ⟨u,r,.inr ⟨hcl x hx,?_⟩⟩; obtain ⟨c,hcc⟩:=C.has x (hcl x hx); refine ⟨c,hcc,?_⟩; rcases l with ⟨z,_⟩ | ⟨_,c',e',z⟩
       . have z':X.env.scope.names.lookup x=some .local:=z
         rcases hvis x hx with y | y <;> (rw [z'] at y; cases y)
       . rw [C.sub x c hcc] at e'; cases e'
         obtain ⟨o,ho,hd⟩:=z; exact ⟨o,old _ _ ho,hd⟩
 . obtain ⟨v,o,ho,hd⟩:=I.cell x c (C.sub x c e)
   exact ⟨v,o,old _ _ ho,hd⟩
 . show (xs.map (fun _=>none)++Dd Z cap).length=(xs++capN).length
   unfold Dd; rw [wB,wB,vA,vA,hlen]
end
def Wk (Z1 Z2:St):Prop:=Z1.length=Z2.length/\∀ (i:Nat) v,Z1[i]? = some (some v)->Z2[i]? = some (some v)
def aD (wi:TI) (Zb:St->St) (g:TG) (tt:TT) (te:TE):TE:=fun Z H Q=>wi Z H fun J H1=>∀ D,H1 D=none->∃ W:Nat->Nat->Hp->Prop,(∃ m,W 0 m (upd H1 D (.lst [])))/\∀ i m H,W i m H ->
 (J.stop i H/\Q (.ref D) H)\/(J.go i H/\∃ N:Hp->Prop,(∀ H',N H'->∃ m',m' < m/\W (i+1) m' H')/\∀ x H',J.yld i H x H'->g x (Zb Z) H' fun Z2 H2=>Wk (Zb Z) Z2/\tt Z2 H2 fun b H3 =>
   if b=true then te Z2 H3 fun y H4=>∃ acc,H4 D=some (.lst acc)/\acc.length < sizeLine/\N (upd H4 D (.lst (acc++[y]))) else N H3)
def PTs (X:Cx) (ifs:List Expr) (t:TT):Prop :=
 ∀ (pins:List (vG×Obj)) (s:uZ) (Z:St) (H:Hp) (Q:Bool->Hp->Prop),Inv X pins Z H s->t Z H Q ->
   wpAny (vS X.prog X.w) X.A (forIn ifs true fun c r=>if r=true then do let ok <- isTrue c X.env (eval c X.env); pure (i4 ok) else pure (i4 r)) (TP X pins Z Q) X.xe s
theorem mX {X:Cx}:PTs X [] (fun _ H Q=>Q true H):=fun _ _ _ H _ I h=>wpAny_tests_nil ⟨H,I,h⟩
theorem mW {X:Cx} {c:Expr} {t:TT} (h:PT X c t):PTs X [c] t:=fun pins s Z H Q I q=>wpAny_tests_one (h pins s Z H Q I q)
structure CompFacts (X:Cx) (scope:Scope) (xs capN:List Str) (cap:List Nat):Prop where
 kind:scope.kind=.function
 nocell:∀ y∈scope.names,y.2≠.cell
 names:∀ y∈scope.names,y.2=.local->scope.names.lookup y.1=some .local
 clos:∃ cl,Clos X scope cl
 hcap:cap.map (fun j=>X.N[j]?)=capN.map some
 hcl:∀ x∈capN,(c6 scope X.env).names.lookup x=some .cell\/(c6 scope X.env).names.lookup x=some .free
 hvis:∀ x∈capN,X.env.scope.names.lookup x=some .cell\/X.env.scope.names.lookup x=some .free
section
variable {X:Cx} {tg elt iter:Expr} {ifs:List Expr} {scope:Scope} {pos:Pos} {wi:TI} {g:TG} {tt:TT} {te:TE} {xs capN:List Str} {cap:List Nat}
theorem Wy {use:Option (uY->Sem Unit)} {Q:uY->uZ->Prop} {QQ:VK} (hc:X.calm=true) (F:CompFacts X scope xs capN cap) (hi:PI X tg iter wi)
   (hg:∀ X',Blk X X' (xs++capN) (c6 scope X.env)->PG X' tg g) (ht:∀ X',Blk X X' (xs++capN) (c6 scope X.env)->PTs X' ifs tt) (he:∀ X',Blk X X' (xs++capN) (c6 scope X.env)->PE X' elt te)
   (hs:∀ x,yO iter X.env x=pure x)
   {pins:List (vG×Obj)} {s:uZ} {Z:St} {H:Hp} (I:Inv X pins Z H s) (h:aD wi (fun Z=>xs.map (fun _=>none)++Dd Z cap) g tt te Z H QQ) {ps:Pos}
   (fin:∀ (s':uZ) (H':Hp) (D C:vG) (m:Str->Option uY),Inv X pins Z H' s'->s'.heap.Ns C m->(H' C=none/\X.s₀.heap.objs.size<=C/\C≠X.env.locals/\(∀ x c,X.env.cells.lookup x=some c->c≠C)/\∀ p∈X.pn++pins,p.1≠C) ->
     QQ (.ref D) H'->compPost (vS X.prog X.w) X.A X.xe use Q (.ref D) C (.ok .next) s') :
   wpAny (vS X.prog X.w) X.A (comprehension (.ListComp elt [⟨tg,iter,ifs,0⟩] scope pos) scope X.env ps (newList []) false (eval iter X.env) use) Q X.xe s:=by
 obtain ⟨cl,C⟩:=F.clos;refine wpAny_comprehension_free rfl hs C.clo F.kind F.names (thn (hi pins s Z H _ I h) fun v s1 h1=>thn h1 fun itv s2 h2=>?_);obtain ⟨it,fp,tn,J,H2,e,I2,T,st2,f2,h3⟩:=h2;subst e;refine wH ?_;obtain ⟨W,⟨m0,w0⟩,turn⟩:=h3 s2.heap.objs.size I2.fresh;have I3:Inv X pins Z (upd H2 s2.heap.objs.size (.lst [])) { s2 with heap:=s2.heap.push { cls:=.type "list",dict:=none,data:=.seq ([]:List uY).toArray } }:=I2.lnew (t':=s2.toks) .nil (zL _);generalize hH3:upd H2 s2.heap.objs.size (HO.lst [])=H3 at I3 w0;generalize hs3:({ s2 with heap:=s2.heap.push { cls:=.type "list",dict:=none,data:=.seq ([]:List uY).toArray } }:uZ)=s3 at I3
 have hD3:H3 s2.heap.objs.size=some (.lst []):=by rw [<- hH3]; exact B8
 have kp3:∀ b o,s2.heap.get? b=some o->s3.heap.get? b=some o:=fun b o e=>by rw [<- hs3]; exact vD _ e
 have hDlt:s2.heap.objs.size < s3.heap.objs.size:=by rw [<- hs3]; show _ < (s2.heap.push _).objs.size; rw [CF]; exact BK _
 have flt:∀ b∈fp,b < s2.heap.objs.size:=fun b hb=>by
   obtain ⟨o,e,_⟩:=T.obj 0 _ st2 b hb; exact vR e
 have flt3:∀ b∈fp,b < s3.heap.objs.size:=fun b hb=>GD (flt b hb) hDlt;have f3:∀ b∈fp,Ow X pins H3 b:=fun b hb=>⟨by rw [<- hH3,B7 (wL (flt b hb))]; exact (f2 b hb).1,(f2 b hb).2⟩;have st3:tn 0 s3.heap:=T.keep 0 _ _ st2 fun b hb o e=>kp3 b o e;show wpAny _ _ (newFunctionEnv scope X.env.globals cl [] X.env.qual none .none (some X.env)) _ _ s3;refine wpAny_newFunctionEnv F.nocell (by intro y hy; simp at hy) (fun h₁ hns₁ hsb₁=>?_) F.kind;have old:∀ b o,s3.heap.get? b=some o->h₁.get? b=some o:=fun b o e=>hsb₁.extBut b o (wL (vR e)) (vD _ e);have B:Blk X (Xl X s3 H3 scope cl (xs++capN) fp) (xs++capN) (c6 scope X.env):=⟨rfl,rfl,rfl,rfl,rfl,rfl,rfl,rfl,rfl,rfl⟩
 have J0:Inv (Xl X s3 H3 scope cl (xs++capN) fp) [] (xs.map (fun _=>none)++Dd Z cap) H3 { s3 with heap:=h₁,toks:=s3.toks+([]:List (Str×uY)).length } :=
   pV I3 F.kind C f3 flt3 F.hcap F.hcl F.hvis hns₁ old
 have st4:tn 0 h₁:=T.keep 0 _ _ st3 fun b hb o e=>old b o e;have hg':=hg _ B;have ht':=ht _ B;have he':=he _ B;generalize hX':Xl X s3 H3 scope cl (xs++capN) fp=X' at B J0 hg' ht' he';have hex:X'.ex=fp:=by rw [<- hX']; rfl
 have hloc:X'.env.locals=s3.heap.objs.size:=by rw [<- hX']; rfl
 have henv:X'.env=compEnvC scope cl s3.heap.objs.size X.env:=by rw [<- hX']; rfl
 have hpn:X'.pn=[]:=by rw [<- hX']; rfl
 have hxe:X'.xe=fun _ _=>False:=by rw [<- hX']; rfl
 have hH0:X'.H₀=H3:=by rw [<- hX']; rfl
 have hs0:X'.s₀=s3:=by rw [<- hX']; rfl
 have hfs:X'.fs=frs X.stack:=by rw [<- hX']; rfl
 have hP:X'.prog=X.prog:=B.prog;have hw:X'.w=X.w:=B.w;have hA:X'.A=X.A:=B.A;have nfs:∀ b∈fp,b∉X'.fs:=fun b hb z=>J0.ok.exfs b (by rw [hex]; exact hb) z;have stat:∀ {pn':List (vG×Obj)} {H':Hp},(∀ b∈fp,H' b=none)->(∀ p∈pn',p.1∉fp)->∀ b∈fp,Ow X' pn' H' b:=fun {pn' H'} hn hp b hb =>
   ⟨hn b hb,by rw [hloc]; exact wL (flt3 b hb),nfs b hb,.inl (by rw [hex]; exact hb),fun x c e=>(J0.ok.exf b (by rw [hex]; exact hb)).2 x c e,fun p hp' z=>by
     rw [hpn,xB] at hp'; exact hp p hp' (z▸hb)⟩
 have loop : ∀ s₀' : uZ, Inv X' [] (xs.map (fun _ => none) ++ Dd Z cap) H3 s₀' -> tn 0 s₀'.heap ->
     BI (vS X.prog X.w) X.A (.compLoop (.ListComp elt [⟨tg,iter,ifs,0⟩] scope pos) 0 (.ref it) (.ref s2.heap.objs.size) X'.env) (compPost (vS X.prog X.w) X.A X.xe use Q (.ref s2.heap.objs.size) s3.heap.objs.size) s₀':=by
   intro s₀' J1 st5; refine Tv (fun n s'=>∃ i H',Inv X' [] (xs.map (fun _=>none)++Dd Z cap) H' s'/\tn i s'.heap/\(∀ b∈fp,H' b=none)/\W i n H') ?_ m0 ⟨0,H3,J1,st5,fun b hb=>(f3 b hb).1,w0⟩;rintro n s4 ⟨i,H4,J4,st4,fr4,w4⟩;rcases turn i n H4 w4 with ⟨stop,qn⟩ | ⟨go,N,hN,step⟩
   . have hd:=T.done X' B.prog B.w B.K (B.calm.trans hc) i [] s4 _ H4 (fun _ _=>False) J4 (stat fr4 (by simp)) st4 stop
     rw [hA] at hd; refine thn hd fun r s5 hZ2=>?_;obtain ⟨hr,J5⟩:=hZ2; subst hr; have un:Un (frs X.stack) fp H3 H4 s3.heap s5.heap:=by
       have:=J5.base; rw [hfs,hex,hH0,hs0] at this; exact this
     have ho:s5.os=s3.os:=by rw [J5.os,hs0]
     have hok5:HOk X.prog X.w H4 s5.heap:=by have:=J5.hok; rw [hP,hw] at this; exact this
     have I5:Inv X pins Z H4 s5:=I3.call' ho un hok5 J5.bare fun b hb=>⟨(f3 b hb).2.2.2.1,(f3 b hb).2.1,(f3 b hb).2.2.2.2.1,(f3 b hb).2.2.2.2.2⟩;obtain ⟨m5,hm5,_⟩:=J5.loc; rw [hloc] at hm5; refine fin s5 H4 _ s3.heap.objs.size m5 I5 hm5 ⟨by have:=J5.free; rw [hloc] at this; exact this,I3.sz,m8 I3.lt,fun x c e z=>?_,fun p hp z=>?_⟩ qn
     . obtain ⟨v,q⟩:=I3.cell x c e
       exact absurd q.lt (by rw [z]; exact zU _)
     . exact absurd (vR (I3.pin p hp).1) (by rw [z]; exact zU _)
   . have hd:=T.item X' B.prog B.w B.K (B.calm.trans hc) i [] s4 _ H4 (fun _ _=>False) J4 (stat fr4 (by simp)) st4 go
     rw [hA] at hd; refine thn hd fun r s5 hZ2=>?_;obtain ⟨u,hr,h5⟩:=hZ2; subst hr; refine thn h5 fun _ s6 hZ2=>?_;obtain ⟨x,H6,J6,r6,y6,st6,fr6⟩:=hZ2; have J6':=J6.pinned (stat fr6 (by simp)) (T.obj _ _ st6);rw [xB] at J6'; have hgx:=hg' _ s6 _ H6 x u _ J6' r6 (step x H6 y6); rw [hP,hw,hA,hxe] at hgx; refine thn hgx fun _ s7 hZ2=>?_;obtain ⟨Z7,H7,J7,wk7,q7⟩:=hZ2; have htx:=ht' _ s7 Z7 H7 _ J7 q7; rw [hP,hw,hA,hxe] at htx; refine thn htx fun ok s8 hZ2=>?_;obtain ⟨H8,J8,q8⟩:=hZ2; have again:∀ {H9:Hp} {s9:uZ},Inv X' (Nt fp s6.heap) Z7 H9 s9->N H9->(∃ m,m < n/\∃ i H',Inv X' [] (xs.map (fun _=>none)++Dd Z cap) H' s9/\tn i s9.heap/\(∀ b∈fp,H' b=none)/\W i m H'):=fun {H9 s9} J9 n9=>by
       obtain ⟨m',hm,w9⟩:=hN H9 n9; have pin9:∀ b∈fp,∀ o,s6.heap.get? b=some o->s9.heap.get? b=some o/\H9 b=none:=fun b hb o e=>by
         have:=J9.pin (b,o) (yY _ (Fo hb e)); exact ⟨this.1,this.2.1⟩
       refine ⟨m',hm,i+1,H9,(J9.weak wk7.1 wk7.2).pins_of (fun p hp=>nomatch hp),T.keep _ _ _ st6 fun b hb o e=>(pin9 b hb o e).1,fun b hb=>?_,w9⟩;obtain ⟨o,e,d⟩:=T.obj _ _ st6 b hb; exact (pin9 b hb o e).2
     cases ok with
     | false =>
       rw [if_neg (by decide)] at q8 ⊢;exact again J8 q8
     | true =>
       rw [if_pos rfl] at q8 ⊢;have hex:=he' _ s8 Z7 H8 _ J8 q8; rw [hP,hw,hA,hxe] at hex; refine thn hex fun y s9 hZ2=>?_;obtain ⟨x9,H9,J9,r9,acc,ha,hz,n9⟩:=hZ2; have hap:=Jc (X:=X') _ s9 Z7 H9 (.ref s2.heap.objs.size) [x9] (.ref s2.heap.objs.size) [y] (fun _ H'=>N H') J9 rfl (.cons r9 .nil) ⟨_,acc,x9,rfl,rfl,ha,hz,n9⟩;rw [hP,hw,hA,hxe] at hap; exact thn hap fun _ s10 hZ2=>by obtain ⟨_,H10,J10,_,n10⟩:=hZ2; exact again J10 n10
 have e0:({ (newEnv scope s3.heap.objs.size X.env.globals cl X.env.qual none .none (some X.env) ES:Env) with scope:=c6 scope X.env }:Env)=X'.env:=by rw [henv]; rfl
 have e1:(newEnv scope s3.heap.objs.size X.env.globals cl X.env.qual none .none (some X.env) ES:Env).locals=s3.heap.objs.size:=rfl;show BI _ _ (.compStart _ 0 (.ref it) (.ref s2.heap.objs.size) ({ (newEnv scope s3.heap.objs.size X.env.globals cl X.env.qual none .none (some X.env) ES:Env) with scope:=c6 scope X.env }:Env)) (compPost _ _ _ _ _ _ s3.heap.objs.size) _;rw [e0];exact codeAny_compStart_list (loop _ J0 st4) (T.self _ 0 _ _ _ st4 (loop _ J0 st4))
theorem nH (hc:X.calm=true) (F:X.Ok->CompFacts X scope xs capN cap) (hi:PI X tg iter wi)
   (hg:∀ X',Blk X X' (xs++capN) (c6 scope X.env)->PG X' tg g) (ht:∀ X',Blk X X' (xs++capN) (c6 scope X.env)->PTs X' ifs tt) (he:∀ X',Blk X X' (xs++capN) (c6 scope X.env)->PE X' elt te)
   (hs:∀ x,yO iter X.env x=pure x:=by intro _; rfl):PE X (.ListComp elt [⟨tg,iter,ifs,0⟩] scope pos) (aD wi (fun Z=>xs.map (fun _=>none)++Dd Z cap) g tt te):=by
 intro pins s Z H Q I h;rw [eval_ListComp];refine Wy (use:=none) hc (F I.ok) hi hg ht he hs I h fun s' H' D C m I' hm hZ7 q=>?_;obtain ⟨c1,c2,c3,c4,c5⟩:=hZ7;refine ⟨m,hm,fun h' sb=>?_⟩;exact ⟨.ref D,H',I'.turned (t':=s'.toks) (fun b o hb e=>(sb.2 b hb).trans e) c1 c3 (.inr c2) c4 c5,rfl,q⟩
theorem Fi {i:Nat} {y:Str} {py spos:Pos} (hc:X.calm=true) (F:X.Ok->CompFacts X scope xs capN cap) (hi:PI X tg iter wi)
   (hg:∀ X',Blk X X' (xs++capN) (c6 scope X.env)->PG X' tg g) (ht:∀ X',Blk X X' (xs++capN) (c6 scope X.env)->PTs X' ifs tt) (he:∀ X',Blk X X' (xs++capN) (c6 scope X.env)->PE X' elt te)
   (hN:X.N.Nodup) (hy:X.N[i]? = some y) (hl:X.env.scope.names.lookup y=some .local) (hsw:zX (.ListComp elt [⟨tg,iter,ifs,0⟩] scope pos) (some (.Name y py)) spos.line X.env=pure true)
   (hs:∀ x,yO iter X.env x=pure x:=by intro _; rfl):PS X (.Assign [.Name y py] (.ListComp elt [⟨tg,iter,ifs,0⟩] scope pos) spos) (tAsg (aD wi (fun Z=>xs.map (fun _=>none)++Dd Z cap) g tt te) (Ar i)):=by
 intro pins s Z H D0 I h;rw [exec_Assign_Name_used _ _ _ _ hsw];refine uW (wpAny_standAt (uW ?_));show wpAny _ _ (do let _ <- comprehension (.ListComp elt [⟨tg,iter,ifs,0⟩] scope pos) scope X.env _ (newList []) false (eval iter X.env) (some (assign (.Name y py) X.env))) _ _ s;refine uW (xT (Wy (use:=some (assign (.Name y py) X.env)) (Q:=fun _ s'=>SP X pins D0 .next s') hc (F I.ok) hi hg ht he hs I h fun s' H' D C m I' hm hY33 q=>?_) (fun _ s' hq=>uX (uX hq)) fun _ _ e=>e);obtain ⟨c1,c2,c3,c4,c5⟩:=hY33;show wpAny _ _ (assign (.Name y py) X.env (.ref D)) _ _ s'
 refine wpAny_assign_Name (Qi I' hN hy (.inl hl) (v:=.ref D) rfl (fun s'' I'' hY34=>?_) (.inr hl));obtain ⟨a,sa,ea⟩:=hY34;have haC:a≠C:=by
   rcases ea with z | z
   . rw [z]; exact Ne.symm c3
   . exact c4 _ _ z
 refine ⟨m,hm.sameBut sa (Ne.symm haC),fun h' sb=>?_⟩;exact ⟨_,H',I''.turned (t':=s''.toks) (fun b o hb e=>(sb.2 b hb).trans e) c1 c3 (.inr c2) c4 c5,q⟩
end
end Sm
end
section
namespace L2
open PySem PySem.Spec PyProof.Rows
section
variable {X:Cx} {pins:List (vG×Obj)} {Z:St} {H:Hp} {s:uZ}
theorem Inv.big (I:Inv X pins Z H s):f8 < s.heap.objs.size:=by
 have h:xZ < s.heap.objs.size:=(I.mod.glob.keeps I.bk).lt;exact GD (by decide) h
end
def uU (i:Expr):Prop:=∀ ov iv,HZ i false ov iv=operate [ov,iv] (BG ov iv)
theorem lW {prog:vU} {w:wD} {A:xD} {E:uY->uZ->Prop} {s:uZ} {env:Env} {value slice:Expr} {pos:Pos} {T id:String} {Q:uY->uZ->Prop}
   (hl:ER (.type T) "__getitem__" = pure (some (.builtin id))) (hs:uU slice)
   (h:wpAny (vS prog w) A (eval value env) (fun o s₁=>wpAny (vS prog w) A (eval slice env) (fun i s₂=>s₂.TypeIs o T/\wpAny (vS prog w) A (BG o i) Q E s₂) E s₁) E s) :
   wpAny (vS prog w) A (eval (.Subscript value slice pos) env) Q E s:=by
 refine IZ (xT h (fun o s₁ h₁=>xT h₁ (fun i s₂ h₂=>?_) fun _ _ x=>x) fun _ _ x=>x);obtain ⟨hT,h₂⟩:=h₂;unfold GH;refine uW ?_;rw [getitemInPython_of_ne hT.not_modules];refine uW (c9 hT hl ?_);have fin:wpAny (vS prog w) A (HZ slice false o i) (fun r s₃=>wpAny (vS prog w) A (letTemporaryGo value o r>>=fun _=>pure r) Q E s₃) E s₂:=by
   rw [hs o i]; exact wpAny_operating (xT h₂ (fun r s₃ h₃=>uW (wpAny_letTemporaryGo (uX h₃))) fun _ _ x=>x)
 first
   | exact uX (uW fin)
   | exact uW (uX (uW fin))
   | exact uW fin
theorem kL {P:vU} {w:wD} {H:Hp} (h:wT) (hb:f8 < h.objs.size):ObjOk P w H (h.push { cls:=.type "dict",data:=.dict #[] }) h.objs.size (.dT []) :=
 ⟨zL _,beq_eq_false_iff_ne.mpr (Ne.symm (wL hb)),[],.nil,_,#[],0,vH _ rfl,⟨rfl,rfl,rfl⟩,rfl,rfl,List.nodup_nil⟩
def rJ:TE:=fun _ H Q=>∀ p,H p=none->Q (.ref p) (upd H p (.dT []))
section
variable {X:Cx} {pos:Pos}
theorem iR:PE X (.Dict [] [] pos) rJ:=fun pins s Z H Q I h =>
 wpAny_Dict_empty ⟨.ref s.heap.objs.size,_,I.laid (a:=s.heap.objs.size) (o:=.dT []) (t':=s.toks) (fun _ _ q=>vD _ q) (vL _) (kL s.heap I.big),rfl,h _ (I.hok.fresh (vL _))⟩
end
structure M2 (X:Cx) (o:Expr) (m:Str) (apos:Pos) (e f:Expr) (cpos:Pos):Prop where
 base:i7 o m X.env (eval o X.env)=eval o X.env
 few:((yL cpos (vI [e,f] X.env)).all (fun x => !x.1)&&(EI cpos (AX [] X.env)).all (fun x=>x.1.isSome)
   && decide (([e,f]:List Expr).length+([]:List x8).length+(if ([]:List x8).isEmpty then 0 else 1) < 30))=true
 line:(apos.endLine==cpos.line)=true
 trees:yL cpos (vI [e,f] X.env)=[(false,eval e X.env),(false,eval f X.env)]
end L2
end
section
namespace Sm
open PySem PySem.Spec PyProof.Rows L2
inductive Res (α:Type) where
 | ok (a:α)
 | exc (c:Str)
 | no
noncomputable def Res.bind {α β:Type}:Res α->(α->Res β)->Res β
 | .ok a,k=>k a
 | .exc c,_=>.exc c
 | .no,_=>.no
noncomputable def ofO {α:Type}:Option α->Res α
 | some a=>.ok a
 | none=>.no
inductive Sl where
 | un
 | sh (d:uV)
 | ow (d:uV)
 | fd (kvs:List (uV×uV))
abbrev Dn:=List Sl
mutual
noncomputable def Rep (G:Hp):uV->V->Prop
 | .none,v=>v=.non
 | .bool b,v=>v=.bl b
 | .int i,v=>v=.int i
 | .str x,v=>v=.str x/\wJ x=true/\x.length<=sizeLine
 | .list ds,v=>∃ a xs,v=.ref a/\Rd G a (.lst xs)/\RepL G ds xs
 | .tuple ds,v=>∃ a xs,v=.ref a/\G a=some (.tup xs)/\RepL G ds xs
 | .dict _,_=>False
noncomputable def RepL (G:Hp):List uV->List V->Prop
 | [],xs=>xs=[]
 | d::ds,xs=>∃ x r,xs=x::r/\Rep G d x/\RepL G ds r
end
theorem Rd.mono {G G':Hp} (h:Same G G') {a:vG} {u:HO} (r:Rd G a u):Rd G' a u:=by
 rcases r with r | ⟨o,r⟩
 . exact .inl (h _ _ r)
 . exact .inr ⟨o,h _ _ r⟩
mutual
theorem Rep.mono {G G':Hp} (h:Same G G'):∀ {d:uV} {v:V},Rep G d v->Rep G' d v
 | .none,_,r=>r
 | .bool _,_,r=>r
 | .int _,_,r=>r
 | .str _,_,r=>r
 | .list _,_,r=>by obtain ⟨a,xs,e,q,l⟩:=r; exact ⟨a,xs,e,Rd.mono h q,RepL.mono h l⟩
 | .tuple _,_,r=>by obtain ⟨a,xs,e,q,l⟩:=r; exact ⟨a,xs,e,h _ _ q,RepL.mono h l⟩
 | .dict _,_,r=>r.elim
theorem RepL.mono {G G':Hp} (h:Same G G'):∀ {ds:List uV} {xs:List V},RepL G ds xs->RepL G' ds xs
 | [],_,r=>r
 | _::_,_,r=>by obtain ⟨x,t,e,q,l⟩:=r; exact ⟨x,t,e,Rep.mono h q,RepL.mono h l⟩
end
mutual
theorem Rep.lay {G:Hp}:∀ {d:uV} {v:V},Rep G d v->d.canLay0=true
 | .none,_,r=>rfl
 | .bool _,_,r=>rfl
 | .int _,_,r=>rfl
 | .str _,_,r=>r.2.1
 | .list _,_,r=>by obtain ⟨a,xs,e,q,l⟩:=r; exact RepL.lay l
 | .tuple _,_,r=>by obtain ⟨a,xs,e,q,l⟩:=r; exact RepL.lay l
 | .dict _,_,r=>r.elim
theorem RepL.lay {G:Hp}:∀ {ds:List uV} {xs:List V},RepL G ds xs->yW ds=true
 | [],_,r=>rfl
 | _::_,_,r=>by
   obtain ⟨x,t,e,q,l⟩:=r; rw [yW,Rep.lay q,RepL.lay l]; rfl
end
noncomputable section
variable {G:Hp}
theorem RepL.nil:RepL G [] []:=rfl
theorem RepL.cons {d:uV} {ds:List uV} {x:V} {xs:List V} (h:Rep G d x) (t:RepL G ds xs):RepL G (d::ds) (x::xs):=⟨x,xs,rfl,h,t⟩
theorem RepL.length:∀ {ds:List uV} {xs:List V},RepL G ds xs->ds.length=xs.length:=by
 intro iN; induction iN with
 | nil=>intro _ r; cases (show _=_ from r); rfl
 | cons d ds ih=>intro _ r; obtain ⟨x,t,rfl,q,l⟩:=r; simp [ih l]
theorem RepL.get:∀ {ds:List uV} {xs:List V} {i:Nat} {d:uV},RepL G ds xs->ds[i]? = some d->∃ x,xs[i]? = some x/\Rep G d x
 | [],_,_,_,_,e=>by simp at e
 | d::ds,_,0,_,r,e=>by obtain ⟨x,t,rfl,q,l⟩:=r; simp at e; subst e; exact ⟨x,rfl,q⟩
 | d::ds,_,i+1,_,r,e=>by
   obtain ⟨x,t,rfl,q,l⟩:=r; obtain ⟨y,h1,h2⟩:=RepL.get (i:=i) l (by simpa using e);exact ⟨y,by simpa using h1,h2⟩
theorem RepL.append:∀ {ds es:List uV} {xs ys:List V},RepL G ds xs->RepL G es ys->RepL G (ds++es) (xs++ys):=by
 intro iN; induction iN with
 | nil=>intro _ _ _ r q; cases (show _=_ from r); exact q
 | cons d ds ih=>intro _ _ _ r q; obtain ⟨x,t,rfl,h,l⟩:=r; exact RepL.cons h (ih l q)
theorem RepL.drop:∀ (n:Nat) {ds:List uV} {xs:List V},RepL G ds xs->RepL G (ds.drop n) (xs.drop n)
 | 0,_,_,r=>r
 | _+1,[],_,r=>by cases (show _=_ from r); exact rfl
 | n+1,d::ds,_,r=>by obtain ⟨x,t,rfl,h,l⟩:=r; exact RepL.drop n l
theorem RepL.take:∀ (n:Nat) {ds:List uV} {xs:List V},RepL G ds xs->RepL G (ds.take n) (xs.take n)
 | 0,_,_,r=>rfl
 | _+1,[],_,r=>by cases (show _=_ from r); exact rfl
 | n+1,d::ds,_,r=>by obtain ⟨x,t,rfl,h,l⟩:=r; exact RepL.cons h (RepL.take n l)
theorem RepL.reverse {ds:List uV} {xs:List V} (r:RepL G ds xs):RepL G ds.reverse xs.reverse:=by
 induction ds generalizing xs with
 | nil=>cases (show _=_ from r); exact rfl
 | cons d ds ih =>
   obtain ⟨x,t,rfl,h,l⟩:=r; rw [AQ,AQ]; exact RepL.append (ih l) (RepL.cons h RepL.nil)
theorem RepL.rep {ds:List uV} {xs:List V} (r:RepL G ds xs):∀ k:Nat,RepL G (vW k ds).flatten (vW k xs).flatten:=by
 intro iN; induction iN with
 | zero=>skip; exact rfl
 | succ k ih =>
   skip
   rw [zF,zF,p6,p6]; exact RepL.append r (ih)
theorem RepL.ints (ns:List Int):RepL G (ns.map wN) (ns.map V.int):=by
 induction ns with
 | nil=>exact rfl
 | cons n ns ih=>exact RepL.cons rfl ih
theorem RepL.dropLast {ds:List uV} {xs:List V} (r:RepL G ds xs):RepL G ds.dropLast xs.dropLast:=by
 rw [JH,JH,r.length];exact RepL.take _ r
end
structure Grow (G H G' H':Hp):Prop where
 g:Same G G'
 h:Same H H'
 gh:Same G' H'
 fr:∀ b o,G' b=some o->G b=some o\/H b=none\/∃ xs,o=HO.tup xs
theorem Grow.refl {G H:Hp} (h:Same G H):Grow G H G H:=⟨Same.refl _,Same.refl _,h,fun _ _ e=>.inl e⟩
theorem Grow.trans {G H G1 H1 G2 H2:Hp} (a:Grow G H G1 H1) (b:Grow G1 H1 G2 H2):Grow G H G2 H2 :=
 ⟨a.g.trans b.g,a.h.trans b.h,b.gh,fun c o e=>by
   rcases b.fr c o e with q | q | q
   . exact a.fr c o q
   . exact .inr (.inl (a.h.free q))
   . exact .inr (.inr q)⟩
theorem Same.upd {H:Hp} {p:vG} {o:HO} (h:H p=none):Same H (upd H p o):=fun b u e=>by
 rw [B7 (D4 e h)]; exact e
theorem Grow.new {G H:Hp} {p:vG} {o:HO} (s:Same G H) (h:H p=none):Grow G H (upd G p o) (upd H p o):=by
 have hg:G p=none:=s.free h;refine ⟨Same.upd hg,Same.upd h,fun b u e=>?_,fun b u e=>?_⟩
 . by_cases hb:b=p
   . subst hb; rw [B8] at e ⊢; exact e
   . rw [B7 hb] at e ⊢; exact s _ _ e
 . by_cases hb:b=p
   . subst hb; exact .inr (.inl h)
   . rw [B7 hb] at e; exact .inl e
theorem Grow.own {G H:Hp} {p:vG} {o:HO} (s:Same G H) (h:H p=none):Grow G H G (upd H p o) :=
 ⟨Same.refl _,Same.upd h,s.trans (Same.upd h),fun _ _ e=>.inl e⟩
noncomputable def tL:Key->uV
 | .inl i=>.int i
 | .inr x=>.str x
noncomputable def qQ (kk:List (Key×V)):List (List Key×V):=kk.map fun p=>([p.1],p.2)
noncomputable def OwnK (G H:Hp) (a:vG):List uV->Prop
 | [.dict kvs]=>∃ kk:List (Key×V),H a=some (.dK kk)/\kvs.map (·.1)=(qQ kk).map (fun p=>zP (p.1.map tL))/\RepL G (kvs.map (·.2)) ((qQ kk).map (·.2))
 | [.dict kvs,.none]=>∃ kk:List (uV×V),H a=some (.dN kk)/\kvs.map (·.1)=kk.map (·.1)/\RepL G (kvs.map (·.2)) (kk.map (·.2))
 | _=>False
theorem OwnK.keep {G G' H H':Hp} {a:vG} {xs:List uV} (g:Same G G') (e:∀ o,H a=some o->H' a=some o) (h:OwnK G H a xs):OwnK G' H' a xs:=by
 unfold OwnK at h ⊢;split at h
 . obtain ⟨kk,h1,h2,h3⟩:=h
   exact ⟨kk,e _ h1,h2,h3.mono g⟩
 . obtain ⟨kk,h1,h2,h3⟩:=h
   exact ⟨kk,e _ h1,h2,h3.mono g⟩
 . exact h.elim
theorem OwnK.is {G H:Hp} {a:vG} {xs:List uV} (h:OwnK G H a xs):∃ o,H a=.some o:=by
 unfold OwnK at h;split at h
 . obtain ⟨kk,h1,_⟩:=h
   exact ⟨_,h1⟩
 . obtain ⟨kk,h1,_⟩:=h
   exact ⟨_,h1⟩
 . exact h.elim
noncomputable def OwnOk (G H:Hp) (a:vG):uV->Prop
 | .list ds=>∃ xs,H a=some (.lst xs)/\RepL G ds xs
 | .dict kvs=>∃ kk:List (List Key×V),H a=some (.dT kk)/\kvs.map (·.1)=kk.map (fun p=>zP (p.1.map tL))/\RepL G (kvs.map (·.2)) (kk.map (·.2))
 | .tuple xs=>OwnK G H a xs
 | _=>False
def FdOk (G:Hp) (o:Option V) (kvs:List (uV×uV)):Prop:=match kvs with
 | (.dict [],.none)::r=>∃ a,∃ kk:List (uV×V),o=some (.ref a)/\Rd G a (.dN kk)/\r.map (·.1)=kk.map (·.1)/\RepL G (r.map (·.2)) (kk.map (·.2))
 | _=>∃ a ob,∃ kk:List (List Key×V),o=some (.ref a)/\G a=some (.frz ob (.dT kk))/\kvs.map (·.1)=kk.map (fun p=>zP (p.1.map tL))/\RepL G (kvs.map (·.2)) (kk.map (·.2))
theorem FdOk.mono {G G':Hp} {o:Option V} {kvs:List (uV×uV)} (g:Same G G') (h:FdOk G o kvs):FdOk G' o kvs:=by
 unfold FdOk at h ⊢;split at h
 . obtain ⟨a,kk,h1,h2,h3,h4⟩:=h
   exact ⟨a,kk,h1,Rd.mono g h2,h3,h4.mono g⟩
 . obtain ⟨a,ob,kk,h1,h2,h3,h4⟩:=h
   exact ⟨a,ob,kk,h1,g _ _ h2,h3,h4.mono g⟩
noncomputable def SlOk (G H:Hp) (o:Option V):Sl->Prop
 | .un=>True
 | .sh d=>∃ v,o=some v/\Rep G d v
 | .ow d=>∃ a,o=some (.ref a)/\G a=none/\OwnOk G H a d
 | .fd kvs=>FdOk G o kvs
structure SR (G H:Hp) (Z:St) (δ:Dn):Prop where
 sub:Same G H
 len:Z.length=δ.length
 sl:∀ (i:Nat) (s:Sl),δ[i]? = some s->SlOk G H (Z[i]?.join) s
 ap:∀ (i j:Nat) (a:vG) (d e:uV),δ[i]? = some (.ow d)->δ[j]? = some (.ow e)->Z[i]?.join=some (.ref a)->Z[j]?.join=some (.ref a)->i=j
theorem OwnOk.some {G H:Hp} {a:vG} {d:uV} (h:OwnOk G H a d):∃ o,H a=some o:=by
 cases d with
 | list ds=>obtain ⟨xs,e,_⟩:=h; exact ⟨_,e⟩
 | dict kvs=>obtain ⟨xs,e,_⟩:=h; exact ⟨_,e⟩
 | tuple xs=>exact OwnK.is h
 | _=>exact (show False from h).elim
theorem OwnOk.grow {G H G' H':Hp} (g:Grow G H G' H') {a:vG} {d:uV} (h:OwnOk G H a d):OwnOk G' H' a d:=by
 cases d with
 | list ds=>obtain ⟨xs,e,r⟩:=h; exact ⟨xs,g.h _ _ e,r.mono g.g⟩
 | dict kvs=>obtain ⟨xs,e,k,r⟩:=h; exact ⟨xs,g.h _ _ e,k,r.mono g.g⟩
 | tuple xs=>exact OwnK.keep g.g (fun o e=>g.h _ _ e) h
 | _=>exact (show False from h).elim
theorem OwnOk.noTup {G H:Hp} {a:vG} {d:uV} (h:OwnOk G H a d) {xs:List V} (e:H a=.some (HO.tup xs)):False:=by
 cases d with
 | list ds=>obtain ⟨_,z,_⟩:=h; rw [e] at z; cases z
 | dict kvs=>obtain ⟨_,z,_⟩:=h; rw [e] at z; cases z
 | tuple ys =>
   have h':OwnK G H a ys:=h; unfold OwnK at h';split at h'
   . obtain ⟨_,z,_⟩:=h'; rw [e] at z; cases z
   . obtain ⟨_,z,_⟩:=h'; rw [e] at z; cases z
   . exact h'
 | _=>exact (show False from h).elim
theorem SlOk.grow {G H G' H':Hp} (g:Grow G H G' H') {o:Option V} {s:Sl} (h:SlOk G H o s):SlOk G' H' o s:=by
 cases s with
 | un=>trivial
 | sh d=>obtain ⟨v,e,r⟩:=h; exact ⟨v,e,r.mono g.g⟩
 | fd kvs=>exact FdOk.mono g.g h
 | ow d =>
   obtain ⟨a,e,n,r⟩:=h; refine ⟨a,e,?_,r.grow g⟩;cases q:G' a with
   | none=>rfl
   | some u =>
     obtain ⟨o',eo⟩:=r.some; rcases g.fr a u q with z | z | ⟨xs,rfl⟩
     . rw [n] at z; cases z
     . rw [eo] at z; cases z
     . exact ((r.grow g).noTup (g.gh _ _ q)).elim
theorem SR.grow {G H G' H':Hp} {Z:St} {δ:Dn} (S:SR G H Z δ) (g:Grow G H G' H'):SR G' H' Z δ :=
 ⟨g.gh,S.len,fun i s e=>(S.sl i s e).grow g,S.ap⟩
abbrev EK:=Str->Hp->Prop
def Aft (E:EK) (G H:Hp) (r:Res uV) (Q:VK):Prop:=match r with
 | .ok d=>∀ v G' H',Grow G H G' H'->Rep G' d v->Q v H'
 | .exc c=>∀ G' H',Grow G H G' H'->E c H'
 | .no=>False
def tD (E:EK) (f:Dn->Res uV):TE:=fun Z H Q=>∃ G δ,SR G H Z δ/\Aft E G H (f δ) Q
abbrev DE (X:Cx) (E:EK) (e:Expr) (f:Dn->Res uV):Prop:=PE X e (tD E f)
theorem Aft.grow {E:EK} {G H G' H':Hp} {r:Res uV} {Q:VK} (g:Grow G H G' H') (a:Aft E G H r Q):Aft E G' H' r Q:=by
 cases r with
 | ok d=>exact fun v G2 H2 g2 q=>a v G2 H2 (g.trans g2) q
 | exc c=>exact fun G2 H2 g2=>a G2 H2 (g.trans g2)
 | no=>exact a
theorem PE.imp {X:Cx} {e:Expr} {t t':TE} (h:PE X e t) (i:∀ Z H Q,t' Z H Q->t Z H Q):PE X e t':=fun pins s Z H Q I q=>h pins s Z H Q I (i _ _ _ q)
theorem K2 {E:EK} {G H:Hp} {Z:St} {δ:Dn} {f:Dn->Res uV} {k:uV->Res uV} {Q R:VK} (S:SR G H Z δ) (a:Aft E G H ((f δ).bind k) Q)
   (h:∀ d v G1 H1,Grow G H G1 H1->Rep G1 d v->SR G1 H1 Z δ->Aft E G1 H1 (k d) Q->R v H1):tD E f Z H R:=by
 refine ⟨G,δ,S,?_⟩;cases e:f δ with
 | ok d =>
   rw [e] at a; exact fun v G' H' g r=>h d v G' H' g r (S.grow g) (Aft.grow g a)
 | exc c=>rw [e] at a; exact a
 | no=>rw [e] at a; exact a
noncomputable section
variable {X:Cx} {E:EK} {pos:Pos}
noncomputable def vC (d:uV):Dn->Res uV:=fun _=>.ok d
noncomputable def A0 (i:Nat):Dn->Res uV:=fun δ=>match δ[i]? with
 | some (.sh d)=>.ok d
 | _=>.no
theorem A8 {i:Int} {j:Nat}:DE X E (.Constant (.int i) j pos) (vC (.int i)):=PE.imp iP fun Z H Q hZ3=>by obtain ⟨G,δ,S,a⟩:=hZ3; exact a _ G H (Grow.refl S.sub) rfl
theorem Bi {b:Bool} {j:Nat}:DE X E (.Constant (.bool b) j pos) (vC (.bool b)):=PE.imp aR fun Z H Q hZ3=>by obtain ⟨G,δ,S,a⟩:=hZ3; exact a _ G H (Grow.refl S.sub) rfl
theorem Oi {j:Nat}:DE X E (.Constant .none j pos) (vC .none):=PE.imp sH fun Z H Q hZ3=>by obtain ⟨G,δ,S,a⟩:=hZ3; exact a _ G H (Grow.refl S.sub) rfl
theorem L7 {x:Str} {j:Nat} (h:wJ x=true:=by decide +kernel) (hl:x.length<=sizeLine:=by decide +kernel):DE X E (.Constant (.str x) j pos) (vC (.str x)) :=
 PE.imp iK fun Z H Q hZ3=>by obtain ⟨G,δ,S,a⟩:=hZ3; exact a _ G H (Grow.refl S.sub) ⟨rfl,h,hl⟩
theorem Zk {i:Nat} {x:Str} (hN:X.N[i]? = some x) (hv:Vis X.env.scope x) (hd:(x==("__debug__" : Str))=false) (hcd:(x==("__classdict__" : Str))=false):DE X E (.Name x pos) (A0 i) :=
 PE.imp (Iy hN hv hd hcd) fun Z H Q hZ3=>by
   obtain ⟨G,δ,S,a⟩:=hZ3; unfold A0 at a;split at a
   . rename_i d e
     obtain ⟨v,e1,r⟩:=S.sl i _ e; refine ⟨v,?_,a _ G H (Grow.refl S.sub) r⟩;cases q:Z[i]? with
     | none=>rw [q] at e1; cases e1
     | some w=>rw [q] at e1; cases w with
       | none=>cases e1
       | some w=>cases e1; rfl
   . exact a.elim
noncomputable def b2 (f g:Dn->Res uV) (op:uV->uV->Option uV):Dn->Res uV:=fun δ=>(f δ).bind fun x=>(g δ).bind fun y=>ofO (op x y)
def OpD (r:R2) (op:uV->uV->Option uV):Prop:=∀ (G H:Hp) (x y:V) (a b d:uV) (Q:VK),Same G H->Rep G a x->Rep G b y->op a b=some d->(∀ v G' H',Grow G H G' H'->Rep G' d v->Q v H')->r x y H Q
theorem gE {r:R2} {op:uV->uV->Option uV} {f g:Dn->Res uV} (ho:OpD r op) {Z:St} {H:Hp} {Q:VK} (h:tD E (b2 f g op) Z H Q):tOp r (tD E f) (tD E g) Z H Q:=by
 obtain ⟨G,δ,S,a⟩:=h;refine K2 S a fun d1 v1 G1 H1 g1 r1 S1 a1=>?_;refine K2 S1 a1 fun d2 v2 G2 H2 g2 r2 S2 a2=>?_;cases e:op d1 d2 with
 | none=>rw [e] at a2; exact a2.elim
 | some d=>rw [e] at a2; exact ho G2 H2 v1 v2 d1 d2 d Q S2.sub (r1.mono g2.g) r2 e a2
theorem bL {a b:Expr} {o:Operator} {r:R2} {op:uV->uV->Option uV} {f g:Dn->Res uV} (hr:OpR X (FO o) r) (ho:OpD r op) (ha:DE X E a f) (hb:DE X E b g):DE X E (.BinOp a o b pos) (b2 f g op) :=
 PE.imp (pe_op hr ha hb) fun _ _ _ h=>gE ho h
theorem d_cmp {a b:Expr} {o:c8} {r:R2} {op:uV->uV->Option uV} {f g:Dn->Res uV} (hr:OpR X (yG o) r) (ho:OpD r op) (ha:DE X E a f) (hb:DE X E b g) (hm:behindInMarks o b=false):DE X E (.Compare a [o] [b] pos) (b2 f g op) :=
 PE.imp (aQ hr ha hb hm) fun _ _ _ h=>gE ho h
end
end Sm
end
noncomputable section
namespace Sm
open PySem PySem.Spec PyProof.Rows L2
noncomputable section
variable {X:Cx} {pins:List (vG×Obj)} {Z:St} {H G:Hp} {s:uZ}
theorem V2 (I:Inv X pins Z H s) {a:vG} {xs:List V} (hG:Same G H) (r:Rd G a (.lst xs)):xs.length<=sizeLine/\∃ (its:List uY) (n:Nat),Vals xs its/\s.heap.get? a=some { cls:=.type "list",data:=.seq its.toArray n } :=
 (Rd.ok (Rd.mono hG r) I.hok:ObjOk X.prog X.w H s.heap a (.lst xs))
theorem Fh (I:Inv X pins Z H s) {a:vG} {xs:List V} (hG:Same G H) (r:G a=some (.tup xs)):xs.length<=sizeLine/\∃ its:List uY,Vals xs its/\EN s.heap a its.toArray :=
 (I.hok a _ (hG _ _ r):ObjOk X.prog X.w H s.heap a (.tup xs))
mutual
theorem Rep.reads (I:Inv X pins Z H s) (hG:Same G H):∀ {d:uV} {v:V} {u:uY},Rep G d v->RelV v u->∃ as,Reads s.heap u d as
 | .none,_,_,r,q=>by cases (show _=_ from r); cases q; exact ⟨_,.none⟩
 | .bool _,_,_,r,q=>by cases (show _=_ from r); cases q; exact ⟨_,.bool _⟩
 | .int _,_,_,r,q=>by cases (show _=_ from r); obtain ⟨t,rfl⟩:=q; exact ⟨_,.int _ _⟩
 | .str _,_,_,r,q=>by cases r.1; obtain ⟨t,rfl⟩:=q; exact ⟨_,.str _ _⟩
 | .list _,_,_,r,q=>by
   obtain ⟨a,xs,rfl,h,l⟩:=r; cases q; obtain ⟨z,its,n,rv,e⟩:=V2 I hG h; obtain ⟨as,ra⟩:=RepL.reads I hG l rv; exact ⟨_,.list e rfl rfl (by simpa using ra)⟩
 | .tuple _,_,_,r,q=>by
   obtain ⟨a,xs,rfl,h,l⟩:=r; cases q; obtain ⟨z,its,rv,o,e,c,n,hd⟩:=Fh I hG h; obtain ⟨as,ra⟩:=RepL.reads I hG l rv; exact ⟨_,.tuple e c hd (by simpa using ra)⟩
 | .dict _,_,_,r,_=>r.elim
theorem RepL.reads (I:Inv X pins Z H s) (hG:Same G H):∀ {ds:List uV} {xs:List V} {us:List uY},RepL G ds xs->Vals xs us->∃ as,JA s.heap us ds as
 | [],_,_,r,q=>by cases (show _=_ from r); cases q; exact ⟨_,.nil⟩
 | _::_,_,_,r,q=>by
   obtain ⟨x,t,rfl,h,l⟩:=r;cases q with
   | cons q qs =>
     obtain ⟨as,r1⟩:=Rep.reads I hG h q; obtain ⟨bs,r2⟩:=RepL.reads I hG l qs; exact ⟨_,.cons r1 r2⟩
end
end
noncomputable def dEq (a b:uV):Option uV:=if min a.depth b.depth<=64 then some (.bool (vN a b)) else none
noncomputable def dNe (a b:uV):Option uV:=if min a.depth b.depth<=64 then some (.bool (!PyData.eqv a b)) else none
def mP (neg:Bool):R2:=fun x y H Q=>∃ G a b,Same G H/\Rep G a x/\Rep G b y/\min a.depth b.depth<=64/\Q (.bl (if neg then !PyData.eqv a b else vN a b)) H
noncomputable section
variable {X:Cx}
theorem Yu (hu:X.A.units+64 < zE):OpR X (yG .Eq) (mP false):=by
 rintro pins s Z H x y v u Q I rx ry ⟨G,a,b,hG,ra,rb,hm,q⟩;obtain ⟨as,r1⟩:=ra.reads I hG rx;obtain ⟨bs,r2⟩:=rb.reads I hG ry;exact SeqAt.compareEq_reads r1 r2 ra.lay rb.lay (by lia) ⟨.bl _,H,I,rfl,q⟩
theorem sM (hu:X.A.units+64 < zE):OpR X (yG .NotEq) (mP true):=by
 rintro pins s Z H x y v u Q I rx ry ⟨G,a,b,hG,ra,rb,hm,q⟩;obtain ⟨as,r1⟩:=ra.reads I hG rx;obtain ⟨bs,r2⟩:=rb.reads I hG ry;exact SeqAt.compareNe_reads r1 r2 ra.lay rb.lay (by lia) ⟨.bl _,H,I,rfl,q⟩
theorem iZ:OpD (mP false) dEq:=by
 intro G H x y a b d Q hG ra rb e q;unfold dEq at e;split at e
 . rename_i h; cases e; exact ⟨G,a,b,hG,ra,rb,h,q _ G H (Grow.refl hG) rfl⟩
 . cases e
theorem sP:OpD (mP true) dNe:=by
 intro G H x y a b d Q hG ra rb e q;unfold dNe at e;split at e
 . rename_i h; cases e; exact ⟨G,a,b,hG,ra,rb,h,q _ G H (Grow.refl hG) rfl⟩
 . cases e
end
noncomputable def jY (x y:Str):Bool := !(Builtin.Str.occurrences y x 0 y.length 1).isEmpty
noncomputable def dIn (neg:Bool) (a b:uV):Option uV:=match b with
 | .list ds=>if min (xJ ds) a.depth<=62 then some (.bool (if neg then !ds.any fun y=>vN y a else ds.any fun y=>vN y a)) else none
 | .tuple ds=>if min (xJ ds) a.depth<=62 then some (.bool (if neg then !ds.any fun y=>vN y a else ds.any fun y=>vN y a)) else none
 | .str y=>match a with
   | .str x=>some (.bool (if neg then !jY x y else jY x y))
   | _=>none
 | _=>none
def sB (neg:Bool):R2:=fun x y H Q=>∃ G a b d,Same G H/\Rep G a x/\Rep G b y/\dIn neg a b=some (.bool d)/\Q (.bl d) H
noncomputable section
variable {X:Cx}
theorem sO (hu:X.A.units+64 < zE):OpR X (yG .In) (sB false):=by
 rintro pins s Z H x y v u Q I rx ry ⟨G,a,b,d,hG,ra,rb,e,q⟩;cases b with
 | list ds =>
   replace e:(if _ then _ else _)=some _:=e;split at e
   . rename_i h
     cases e; obtain ⟨as,r1⟩:=ra.reads I hG rx; obtain ⟨bs,r2⟩:=rb.reads I hG ry; exact SeqAt.in_list_reads r2 r1 rb.lay ra.lay (by lia) ⟨.bl _,H,I,rfl,q⟩
   . cases e
 | tuple ds =>
   replace e:(if _ then _ else _)=some _:=e;split at e
   . rename_i h
     cases e; obtain ⟨as,r1⟩:=ra.reads I hG rx; obtain ⟨bs,r2⟩:=rb.reads I hG ry; exact SeqAt.in_tuple_reads r2 r1 rb.lay ra.lay (by lia) ⟨.bl _,H,I,rfl,q⟩
   . cases e
 | str z =>
   cases a with
   | str z' =>
     cases e;cases ra.1; cases rb.1;obtain ⟨t,rfl⟩:=rx; obtain ⟨t',rfl⟩:=ry; exact in_str ⟨.bl _,H,I,rfl,q⟩
   | _=>cases e
 | _=>cases e
theorem dW (hu:X.A.units+64 < zE):OpR X (yG .NotIn) (sB true):=by
 rintro pins s Z H x y v u Q I rx ry ⟨G,a,b,d,hG,ra,rb,e,q⟩;cases b with
 | list ds =>
   replace e:(if _ then _ else _)=some _:=e;split at e
   . rename_i h
     cases e; obtain ⟨as,r1⟩:=ra.reads I hG rx; obtain ⟨bs,r2⟩:=rb.reads I hG ry; exact SeqAt.notIn_list_reads r2 r1 rb.lay ra.lay (by lia) ⟨.bl _,H,I,rfl,q⟩
   . cases e
 | tuple ds =>
   replace e:(if _ then _ else _)=some _:=e;split at e
   . rename_i h
     cases e; obtain ⟨as,r1⟩:=ra.reads I hG rx; obtain ⟨bs,r2⟩:=rb.reads I hG ry; exact SeqAt.notIn_tuple_reads r2 r1 rb.lay ra.lay (by lia) ⟨.bl _,H,I,rfl,q⟩
   . cases e
 | str z =>
   cases a with
   | str z' =>
     cases e;cases ra.1; cases rb.1;obtain ⟨t,rfl⟩:=rx; obtain ⟨t',rfl⟩:=ry; exact notIn_str ⟨.bl _,H,I,rfl,q⟩
   | _=>cases e
 | _=>cases e
theorem Ol {neg:Bool} {a b d:uV} (e:dIn neg a b=some d):∃ k,d=.bool k:=by
 cases b with
 | list ds=>replace e:(if _ then _ else _)=some _:=e; split at e <;> cases e; exact ⟨_,rfl⟩
 | tuple ds=>replace e:(if _ then _ else _)=some _:=e; split at e <;> cases e; exact ⟨_,rfl⟩
 | str z=>cases a with
   | str z'=>cases e; exact ⟨_,rfl⟩
   | _=>cases e
 | _=>cases e
theorem iX {neg:Bool}:OpD (sB neg) (dIn neg):=by
 intro G H x y a b d Q hG ra rb e q;obtain ⟨k,rfl⟩:=Ol e;exact ⟨G,a,b,k,hG,ra,rb,e,q _ G H (Grow.refl hG) rfl⟩
end
noncomputable def C6:uV->uV->Option uV
 | .int i,.int j=>some (.int (i+j))
 | .str x,.str y=>if x.length+y.length<=sizeLine then some (.str (x++y)) else none
 | .list xs,.list ys=>if xs.length+ys.length<=sizeLine then some (.list (xs++ys)) else none
 | .tuple xs,.tuple ys=>if xs.length+ys.length<=sizeLine then some (.tuple (xs++ys)) else none
 | _,_=>none
def qK:R2:=fun x y H Q=>∃ G a b d,Same G H/\Rep G a x/\Rep G b y/\C6 a b=some d/\∀ v G' H',Grow G H G' H'->Rep G' d v->Q v H'
theorem Ce {x y:Str} (hx:wJ x=true) (hy:wJ y=true):wJ (x++y)=true:=by
 unfold wJ at *;show (x.cps++y.cps).all _=true;rw [Array.all_append,hx,hy]; rfl
theorem Mg (x y:Str):(x++y).length=x.length+y.length:=by
 show (x.cps++y.cps).size=_;rw [Array.size_append]; rfl
noncomputable section
variable {X:Cx}
theorem Tq {pins:List (vG×Obj)} {Z:St} {H G:Hp} {s:uZ} {Q:VK} {ds:List uV} {xs:List V} {its:List uY} {t':Nat} (I:Inv X pins Z H s) (hG:Same G H) (rv:Vals xs its) (rl:RepL G ds xs) (hz:xs.length<=sizeLine)
   (q:∀ v G' H',Grow G H G' H'->Rep G' (.tuple ds) v->Q v H'):EP X pins Z Q (.ref s.heap.objs.size) { s with heap:=s.heap.push { cls:=.type "tuple",data:=.seq its.toArray },toks:=t' }:=by
 refine ⟨.ref s.heap.objs.size,_,I.laid (t':=t') (o:=.tup xs) (fun b ob q=>vD _ q) (vL _) ⟨hz,its,rv,IsTup.new _ _⟩,rfl,q _ (upd G s.heap.objs.size (.tup xs)) _ (Grow.new hG I.fresh) ⟨_,xs,rfl,B8,rl.mono (Same.upd (hG.free I.fresh))⟩⟩
theorem Ts {pins:List (vG×Obj)} {Z:St} {H G:Hp} {s:uZ} {Q:VK} {ds:List uV} {xs:List V} {its:List uY} {t':Nat} (I:Inv X pins Z H s) (hG:Same G H) (rv:Vals xs its) (rl:RepL G ds xs) (hz:xs.length<=sizeLine)
   (q:∀ v G' H',Grow G H G' H'->Rep G' (.list ds) v->Q v H'):EP X pins Z Q (.ref s.heap.objs.size) { s with heap:=s.heap.push { cls:=.type "list",data:=.seq its.toArray },toks:=t' }:=by
 refine ⟨.ref s.heap.objs.size,_,I.lnew (t':=t') rv hz,rfl,q _ (upd G s.heap.objs.size (.lst xs)) _ (Grow.new hG I.fresh) ⟨_,xs,rfl,.inl B8,rl.mono (Same.upd (hG.free I.fresh))⟩⟩
theorem nP:OpR X (FO .Add) qK:=by
 rintro pins s Z H x y v u Q I rx ry ⟨G,a,b,d,hG,ra,rb,e,q⟩;cases a with
 | int i=>cases b with
   | int j =>
     cases e;cases (show _=_ from ra); cases (show _=_ from rb);obtain ⟨t,rfl⟩:=rx; obtain ⟨t',rfl⟩:=ry; exact add_int ⟨.int _,H,I.tok _,⟨_,rfl⟩,q _ G H (Grow.refl hG) rfl⟩
   | _=>cases e
 | str i=>cases b with
   | str j =>
     replace e:(if _ then _ else _)=some d:=e;split at e
     . rename_i hz
       cases e; obtain ⟨e1,o1,_⟩:=ra; obtain ⟨e2,o2,_⟩:=rb;cases e1; cases e2;obtain ⟨t,rfl⟩:=rx; obtain ⟨t',rfl⟩:=ry; exact add_str (fun t' tk=>⟨.str (i++j),H,I.tok _,⟨_,rfl⟩,q _ G H (Grow.refl hG) ⟨rfl,Ce o1 o2,by rw [Mg]; exact hz⟩⟩) hz
     . cases e
   | _=>cases e
 | list xs=>cases b with
   | list ys =>
     replace e:(if _ then _ else _)=some d:=e;split at e
     . rename_i hz
       cases e; obtain ⟨l,vs,rfl,h1,l1⟩:=ra; obtain ⟨l',ws,rfl,h2,l2⟩:=rb;cases rx; cases ry;obtain ⟨z1,its1,n1,v1,e1⟩:=V2 I hG h1; obtain ⟨z2,its2,n2,v2,e2⟩:=V2 I hG h2; have q1:=v1.length; have q2:=v2.length; have q3:=l1.length; have q4:=l2.length; refine PySem.P.add_list e1 e2 ?_ (by rw [vO,vO]; lia);have ea:its1.toArray++its2.toArray=(its1++its2).toArray:=by simp
       rw [ea]; exact Ts (t':=s.toks) I hG (v1.append v2) (l1.append l2) (by rw [wB]; lia) q
     . cases e
   | _=>cases e
 | tuple xs=>cases b with
   | tuple ys =>
     replace e:(if _ then _ else _)=some d:=e;split at e
     . rename_i hz
       cases e; obtain ⟨l,vs,rfl,h1,l1⟩:=ra; obtain ⟨l',ws,rfl,h2,l2⟩:=rb;cases rx; cases ry;obtain ⟨z1,its1,v1,p1⟩:=Fh I hG h1; obtain ⟨z2,its2,v2,p2⟩:=Fh I hG h2; have q1:=v1.length; have q2:=v2.length; have q3:=l1.length; have q4:=l2.length;by_cases hx:its1=[]
       . subst hx
         obtain ⟨⟨cls,dd,data,sl⟩,ho,hc,n,hd⟩:=id p1; obtain ⟨⟨cls2,dd2,data2,sl2⟩,ho2,hc2,n2,hd2⟩:=id p2; simp only at hc hd hc2 hd2; subst hc hd hc2 hd2; refine concat_meets ⟨_,ho,rfl⟩ ⟨_,ho2,rfl⟩ HR seq_tuple_add DB CL (CH _ _)
           (tuple_addW0 l l' _ _ n n2 dd dd2 sl sl2 (by simp)) ⟨ho,ho2,?_⟩
         have hxs:xs=[]:=by
           have:xs.length=0:=by rw [q3,q1]; rfl
           exact xN.mp this
         subst hxs; exact ⟨.ref l',H,I,rfl,q _ G H (Grow.refl hG) ⟨l',ws,rfl,h2,l2⟩⟩
       . refine HT.cat_tup p1 p2 hx (fun hy=>?_) (fun hy=>?_) (by lia)
         . subst hy
           have hys:ys=[]:=by
             have:ys.length=0:=by rw [q4,q2]; rfl
             exact xN.mp this
           subst hys; rw [wQ] at q; exact ⟨.ref l,H,I,rfl,q _ G H (Grow.refl hG) ⟨l,vs,rfl,h1,l1⟩⟩
         . exact Tq (t':=s.toks) I hG (v1.append v2) (l1.append l2) (by rw [wB]; lia) q
     . cases e
   | _=>cases e
 | _=>cases e
theorem nS:OpD qK C6:=fun G H x y a b d Q hG ra rb e q=>⟨G,a,b,d,hG,ra,rb,e,q⟩
noncomputable def dSub:uV->uV->Option uV
 | .int i,.int j=>some (.int (i - j))
 | _,_=>none
noncomputable def Pw:uV->uV->Option uV
 | .int i,.int j=>if 0 < j then some (.int (i % j)) else none
 | _,_=>none
noncomputable def Kf:uV->uV->Option uV
 | .int i,.int j=>if 0 < j/\j < 1073741824 then some (.int (i / j)) else none
 | _,_=>none
theorem aV {r:R2} {op:uV->uV->Option uV} (h:∀ a b d,op a b=some d->∃ i j k,a=.int i/\b=.int j/\d=.int k/\∀ H Q,Q (V.int k) H->r (.int i) (.int j) H Q):OpD r op:=by
 intro G H x y a b d Q hG ra rb e q;obtain ⟨i,j,k,rfl,rfl,rfl,hr⟩:=h a b d e;cases (show _=_ from ra); cases (show _=_ from rb);exact hr H Q (q _ G H (Grow.refl hG) rfl)
theorem nR:OpD (rI (fun _ j=>0 < j) fun i j=>.int (i % j)) Pw:=aV fun a b d e=>by
 unfold Pw at e;split at e
 . split at e
   . rename_i h; cases e; exact ⟨_,_,_,rfl,rfl,rfl,fun H Q q=>⟨_,_,rfl,rfl,h,q⟩⟩
   . cases e
 . cases e
theorem iY:OpD (rI CDiv fun i j=>.int (i / j)) Kf:=aV fun a b d e=>by
 unfold Kf at e;split at e
 . split at e
   . rename_i h; cases e; exact ⟨_,_,_,rfl,rfl,rfl,fun H Q q=>⟨_,_,rfl,rfl,h,q⟩⟩
   . cases e
 . cases e
end
end Sm
end
noncomputable section
namespace Sm
open PySem PySem.Spec PyProof.Rows L2
open PySem.AutoSeq1 (wpAny_loadPart')
noncomputable def L9 (n:Nat) (x:Str):Str:=⟨(vW n x.cps).foldl (· ++ ·) #[]⟩
theorem eZ (l:List (Array Nat)):∀ acc:Array Nat,(l.foldl (· ++ ·) acc).toList=acc.toList++(l.map IK).flatten:=by
 induction l with
 | nil=>intro acc; simp
 | cons a l ih=>intro acc; rw [AG,ih]; simp
theorem V1 (n:Nat) (x:Str):(L9 n x).cps.toList=(vW n x.cps.toList).flatten:=by
 unfold L9;rw [eZ]; simp
theorem cN {x:Str} (h:wJ x=true) (n:Nat):wJ (L9 n x)=true:=by
 unfold wJ at *;rw [<- GG,k6] at *;rw [V1];intro c hc;obtain ⟨l,hl,hc⟩:=List.mem_flatten.mp hc;rw [List.eq_of_mem_replicate hl] at hc;exact h c hc
theorem Mh (n:Nat) (x:Str):(L9 n x).length=n*x.length:=by
 show (L9 n x).cps.size=n*x.cps.size;rw [<- xF,V1,bC,xF]
theorem Uw (x:Str):L9 0 x=BZ:=rfl
theorem Yd (x:Str):L9 1 x=x:=by
 have:(L9 1 x).cps=x.cps:=by
   apply Array.toList_inj.mp;rw [V1]; simp
 cases x; cases h:L9 1 _; rw [h] at this; cases this; rfl
theorem Ye {x:Str} (n:Nat) (h:x.length=0):L9 n x=x:=by
 have hx:x.cps = #[]:=Array.size_eq_zero_iff.mp h;have:(L9 n x).cps=x.cps:=by
   apply Array.toList_inj.mp;rw [V1,hx]; simp
 cases x; cases h:L9 n _; rw [h] at this; cases this; rfl
noncomputable def O5:uV->uV->Option uV
 | .int i,.int j=>if (-(2 ^ 64) < i/\i < 2 ^ 64)\/(-(2 ^ 64) < j/\j < 2 ^ 64) then some (.int (i*j)) else none
 | .str x,.int n=>if -(2 ^ 63)<=n/\n < 2 ^ 63/\x.length*n.toNat<=sizeLine then some (.str (L9 n.toNat x)) else none
 | .list xs,.int n=>if -(2 ^ 63)<=n/\n < 2 ^ 63/\xs.length*n.toNat<=sizeLine then some (.list (vW n.toNat xs).flatten) else none
 | _,_=>none
def qJ:R2:=fun x y H Q=>∃ G a b d,Same G H/\Rep G a x/\Rep G b y/\O5 a b=some d/\∀ v G' H',Grow G H G' H'->Rep G' d v->Q v H'
theorem nQ:OpD qJ O5:=fun G H x y a b d Q hG ra rb e q=>⟨G,a,b,d,hG,ra,rb,e,q⟩
theorem dY:fillsNumberSlot (.type "tuple") "mul" = pure false:=by
 unfold fillsNumberSlot;first | rfl | kernel_rfl | decide +kernel
theorem mL:seqRepeat? (.type "tuple")=pure (some (.builtin "tuple.__mul__")):=by
 unfold seqRepeat?;first | rfl | kernel_rfl
theorem jX (a:Int) (t:Tok) (l:vG) (items:Array uY) (n:Nat) (dd:Option vG) (sl:Array (Option uY)) :
   Meets (yA.«int.__rmul__» ⟨[.int a t,.ref l],[]⟩) (fun _ R s=>s.heap.get? l=some { cls:=.type "tuple",dict:=dd,data:=.seq items n,slots:=sl }/\R (.ok (.ret EJ)) s) :=
 .of_wp fun prog w A R s h=>by obtain ⟨hp,g,d,tk,os⟩:=s; obtain ⟨hl,h⟩:=h; wp_walk; exact ⟨_,rfl,h⟩
theorem fY (l:vG) (items:Array uY) (n:Nat) (x:Int) (u:Tok) (dd:Option vG) (sl:Array (Option uY)) (h1:¬ (decide (x < -(2 ^ 63:Int))||decide (x≥2 ^ 63))=true) (h2:¬ (items.isEmpty||x==1)=true) (h3:¬ (decide (x<=0)||items.isEmpty)=true)
   (h4:¬ (items.size:Int)*x>(2 ^ 63 - 1) / 8) (h5:¬ Builtin.Tuple.tupleTooMany (items.size*x)=true) (h6:(FI (fun x1 x2=>x1++x2) #[] (vW x.toNat items)).size<=sizeLine) :
   Meets (yA.«tuple.__mul__» ⟨[.ref l,.int x u],[]⟩) (fun _ R s=>s.heap.get? l=some { cls:=.type "tuple",dict:=dd,data:=.seq items n,slots:=sl }/\R (.ok (.ret (yH s.heap.objs.size))) { s with heap:=s.heap.push { cls:=i8 "tuple",data:=Data.seq (FI (fun x1 x2=>x1++x2) #[] (vW x.toNat items)) },toks:=s.toks }) :=
 .of_wp fun prog w A R s h=>by
   obtain ⟨hp,g,d,tk,os⟩:=s; obtain ⟨hl,h⟩:=h;have f1:=JT
   wp_walk using yU hl
   rw [if_neg h1]
   wp_walk using yU hl
   rw [if_neg h4]
   wp_walk using yU hl
   exact ⟨_,rfl,h⟩
theorem fX (l:vG) (items:Array uY) (n:Nat) (x:Int) (u:Tok) (dd:Option vG) (sl:Array (Option uY)) (h1:¬ (decide (x < -(2 ^ 63:Int))||decide (x≥2 ^ 63))=true) (h2:(items.isEmpty||x==1)=true) :
   Meets (yA.«tuple.__mul__» ⟨[.ref l,.int x u],[]⟩) (fun _ R s=>s.heap.get? l=some { cls:=.type "tuple",dict:=dd,data:=.seq items n,slots:=sl }/\R (.ok (.ret (.ref l))) s) :=
 .of_wp fun prog w A R s h=>by
   obtain ⟨hp,g,d,tk,os⟩:=s; obtain ⟨hl,h⟩:=h;have f1:=JT
   wp_walk using yU hl
   rw [if_neg h1]
   wp_walk using yU hl
   exact ⟨_,rfl,h⟩
noncomputable section
variable {X:Cx}
theorem nM:OpR X (FO .Mult) qJ:=by
 rintro pins s Z H x y v u Q I rx ry ⟨G,a,b,d,hG,ra,rb,e,q⟩;have h63:=Dm;obtain ⟨k,rfl⟩:∃ k,b=.int k:=by unfold O5 at e; split at e <;> first | exact ⟨_,rfl⟩ | cases e
 cases (show _=_ from rb);obtain ⟨t',rfl⟩:=ry;cases a with
 | int i =>
   replace e:(if _ then _ else _)=some d:=e;split at e
   . rename_i hc
     cases e;cases (show _=_ from ra);obtain ⟨t,rfl⟩:=rx; exact mul_int ⟨.int _,H,I.tok _,⟨_,rfl⟩,q _ G H (Grow.refl hG) rfl⟩ (CMul.ok hc)
   . cases e
 | str z =>
   replace e:(if _ then _ else _)=some d:=e;split at e
   . rename_i hc
     obtain ⟨hc1,hc2,hc3⟩:=hc; cases e; obtain ⟨e1,o1,l1⟩:=ra; cases e1; obtain ⟨t,rfl⟩:=rx; have fin:∀ tk,Q (.str (L9 k.toNat z)) H/\Inv X pins Z H { s with toks:=tk }:=fun tk=>⟨q _ G H (Grow.refl hG) ⟨rfl,cN o1 _,by rw [Mh,JC]; exact hc3⟩,I.tok _⟩;refine PySem.P.mul_str (by rw [decide_eq_false (by lia),decide_eq_false (by lia)]; rfl) (fun h1 _=>?_) (fun h1 _=>?_) ?_
     . intro hgt
       have hk:(0:Int) < k:=by lia
       have h2:(2 ^ 63 - 1) / k+1<=(z.length:Int):=by lia
       have h3:(2 ^ 63 - 1:Int) < ((2 ^ 63 - 1) / k+1)*k:=Int.lt_ediv_add_one_mul_self _ hk; have h4:((2 ^ 63 - 1) / k+1)*k<=(z.length:Int)*k:=Int.mul_le_mul_of_nonneg_right h2 (by lia);have h5:(z.length:Int)*k=((z.length*k.toNat:Nat):Int):=by
         rw [Int.natCast_mul,Int.toNat_of_nonneg (by lia)]
       lia
     . unfold Builtin.Str.tooLong
       exact decide_eq_false (by lia)
     . by_cases h1:k < 1
       . rw [if_pos h1]
         have:k.toNat=0:=by lia
         rw [this,Uw] at fin; exact ⟨by decide,⟨.str _,H,(fin _).2,⟨_,rfl⟩,(fin 0).1⟩⟩
       . rw [if_neg h1]
         by_cases h2:(k==1||z.length==0)=true
         . rw [if_pos h2]
           rw [EB] at h2; have ez:L9 k.toNat z=z:=by
             rcases h2 with h2 | h2
             . have:k=1:=zY h2
               subst this; exact Yd z
             . exact Ye _ (zY h2)
           rw [ez] at fin; exact ⟨.str _,H,I,⟨_,rfl⟩,(fin 0).1⟩
         . rw [if_neg h2]
           exact ⟨by show (L9 k.toNat z).length<=_; rw [Mh,JC]; exact hc3,⟨.str _,H,(fin _).2,⟨_,rfl⟩,(fin 0).1⟩⟩
   . cases e
 | list xs =>
   replace e:(if _ then _ else _)=some d:=e;split at e
   . rename_i hc
     obtain ⟨hc1,hc2,hc3⟩:=hc; cases e; obtain ⟨l,vs,rfl,h1,l1⟩:=ra; cases rx; have q3:=l1.length; obtain ⟨z,its,n,r,e⟩:=V2 I hG h1; have hl:=r.length; have hlen:its.toArray.size*k.toNat<=sizeLine:=by rw [vO,<- hl,<- q3]; exact hc3
     have hcap:¬ its.toArray.size*k.toNat>(2 ^ 63 - 1) / 8:=by
       have:(sizeLine:Nat)<=(2 ^ 63 - 1) / 8:=by decide
       lia
     have hfit:¬ (!Builtin.List.listFitsIndex k)=true:=by
       rw [fitsIndex_both hc1 hc2]; exact zQ
     have hlong:¬ p9 (its.toArray.size*k.toNat)=true:=by
       rw [Vs hlen]; exact zQ
     have hnew:FI (fun x1 x2=>x1++x2) #[] (vW (if its.toArray.isEmpty=true then 0 else k.toNat) its.toArray)=(vW k.toNat its).flatten.toArray:=by
       have f0:∀ m:Nat,FI (fun x1 x2=>x1++x2) #[] (vW m its.toArray)=(vW m its).flatten.toArray:=fun m=>by
         have:=eY its m []; rw [xB] at this; exact this
       rw [f0];cases its with
       | nil=>simp
       | cons a r'=>rw [if_neg (by simp)]
     refine wpAny_binaryOp_repeat_ref (T := "list") (U := "int") (by decide) ⟨_,e,rfl⟩ (fun s'=>typeIs_int s' k t') noFill_list_mul F.fills_int_mul F.slot_int_rmul repeat_list F.slot_int_index.lookup
       (CZ F.slot_int_rmul (typeIs_int s k t') F.entry_int_rmul (F.args_int_rmul_2 _ _) (int___rmul___int_list k t' l its.toArray n)
         ⟨e,rfl,⟨_,e,rfl⟩,CZ F.slot_list_mul ⟨_,e,rfl⟩ F.entry_list_mul (F.args_list_mul_2 _ _) (AutoListH.list___mul___list_int_3 l its.toArray n k t' hfit hcap hlong) ⟨e,?_⟩⟩)
     rw [hnew]; exact Ts (t':=s.toks) I hG (r.rep k.toNat) (l1.rep k.toNat) (by rw [bC,JC,<- q3]; exact hc3) q
   . cases e
 | _=>cases e
end
end Sm
end
noncomputable section
namespace Sm
open PySem PySem.Spec PyProof.Rows L2
open PySem.AutoSeq1 (wpAny_loadPart')
open PySem.MeetsSeq PySem.MeetsSeq2 PySem.MeetsSeq3
noncomputable def eT:c8->Int->Int->Bool
 | .Lt,i,j=>decide (i < j)
 | .LtE,i,j=>decide (i<=j)
 | .Gt,i,j=>decide (j < i)
 | _,i,j=>decide (j<=i)
noncomputable def Yp:c8->Str->Str->Bool
 | .Lt,x,y=>decide (x.cps.toList < y.cps.toList)
 | .LtE,x,y => !decide (y.cps.toList < x.cps.toList)
 | .Gt,x,y=>decide (y.cps.toList < x.cps.toList)
 | _,x,y => !decide (x.cps.toList < y.cps.toList)
noncomputable def Xn:c8->Nat->Nat->Bool
 | .Lt,m,n=>decide (m < n)
 | .LtE,m,n=>decide (m<=n)
 | .Gt,m,n=>decide (m>n)
 | _,m,n=>decide (m≥n)
noncomputable def qO:c8->Bool
 | .Lt=>true | .LtE=>true | .Gt=>true | .GtE=>true | _=>false
mutual
noncomputable def Px (op:c8):uV->uV->Option Bool
 | .int i,.int j=>some (eT op i j)
 | .str x,.str y=>some (Yp op x y)
 | .tuple xs,.tuple ys=>Eo op xs ys
 | _,_=>none
noncomputable def Eo (op:c8):List uV->List uV->Option Bool
 | [],ys=>some (Xn op 0 ys.length)
 | x::xs,[]=>some (Xn op (xs.length+1) 0)
 | x::xs,y::ys=>if vN x y=true then Eo op xs ys else Px op x y
end
def lJ (op:c8) (A:xD) (s:uZ) (u v:uY) (k:Bool):Prop:=∀ (prog:vU) (w:wD) (E:uY->uZ->Prop) (Q:uY->uZ->Prop),Q (.bool k) s->wpAny (vS prog w) A (richCompare op u v) Q E s
theorem rY {op:c8} (h:qO op=true) (A:xD) (s:uZ) (i j:Int) (t u:Tok):lJ op A s (.int i t) (.int j u) (eT op i j):=fun prog w E Q q=>by
 cases op with
 | Lt=>exact (lt_int q:wpAny (vS prog w) A (yG .Lt (.int i t) (.int j u)) Q E s)
 | LtE=>exact (le_int q:wpAny (vS prog w) A (yG .LtE (.int i t) (.int j u)) Q E s)
 | Gt=>exact (gt_int q:wpAny (vS prog w) A (yG .Gt (.int i t) (.int j u)) Q E s)
 | GtE=>exact (ge_int q:wpAny (vS prog w) A (yG .GtE (.int i t) (.int j u)) Q E s)
 | _=>cases h
theorem rX {op:c8} (h:qO op=true) (A:xD) (s:uZ) (x y:Str) (t u:Tok):lJ op A s (.str x t) (.str y u) (Yp op x y):=fun prog w E Q q=>by
 cases op with
 | Lt=>exact (PySem.P.lt_str q:wpAny (vS prog w) A (yG .Lt (.str x t) (.str y u)) Q E s)
 | LtE=>exact (PySem.P.le_str (by simpa [Yp] using q):wpAny (vS prog w) A (yG .LtE (.str x t) (.str y u)) Q E s)
 | Gt=>exact (PySem.P.gt_str q:wpAny (vS prog w) A (yG .Gt (.str x t) (.str y u)) Q E s)
 | GtE=>exact (PySem.P.ge_str (by simpa [Yp] using q):wpAny (vS prog w) A (yG .GtE (.str x t) (.str y u)) Q E s)
 | _=>cases h
def Ax (op:c8) (A:xD) (s:uZ) (vs ws:List uY) (ds es:List uV):Prop :=
 ∀ (i:Nat) (v w:uY) (d e:uV),vs[i]? = some v->ws[i]? = some w->ds[i]? = some d->es[i]? = some e->SeqAt.EqAt A s v w (vN d e)/\∀ k,Px op d e=some k->lJ op A s v w k
theorem Oz (l b:vG) (items items2:Array uY) (n n2:Nat) (dd dd2:Option vG) (sl sl2:Array (Option uY)) (ds es:List uV) (k:Bool) (hz1:items.toList.length=ds.length) (hz2:items2.toList.length=es.length) (hk:Eo .Lt ds es=some k) :
   Meets (yA.«tuple.__lt__» ⟨[.ref l,.ref b],[]⟩)
     (fun A R s=>s.heap.get? l=some { cls:=.type "tuple",dict:=dd,data:=.seq items n,slots:=sl }/\s.heap.get? b=some { cls:=.type "tuple",dict:=dd2,data:=.seq items2 n2,slots:=sl2 } /\
       Ax .Lt A.in1 s items.toList items2.toList ds es/\R (.ok (.ret (.bool k))) s) :=
 .of_wp fun prog w A R s h=>by
   obtain ⟨hp,g,d,tk,os⟩:=s; obtain ⟨hl,hb,hI,h⟩:=h;have f2:=GS; have z1:items.size=ds.length:=by rw [<- hz1]; simp
   have z2:items2.size=es.length:=by rw [<- hz2]; simp
   wp_walk using yU hl,yU hb,BR _ (fun M3 b s'=>b.1=none/\s'=⟨hp,g,d,tk,os⟩/\∃ (vs ws:List uY) (ds' es':List uV),M3=vs.zip ws /\
     vs.length=ds'.length/\ws.length=es'.length/\ds'.length+items2.size=es'.length+items.size/\Ax .Lt A.in1 ⟨hp,g,d,tk,os⟩ vs ws ds' es'/\Eo .Lt ds' es'=some k) _
   case turn =>
     rintro ⟨y,x⟩ M3 b s' ⟨hb',rfl,vs,ws,ds',es',hz,hv,hw,hlen,hI',hR⟩;cases vs with
     | nil=>rw [List.zip_nil_left] at hz; cases hz
     | cons v0 vs =>
       cases ws with
       | nil=>rw [List.zip_nil_right] at hz; cases hz
       | cons w0 ws =>
         cases ds' with
         | nil=>simp at hv
         | cons d0 ds' =>
           cases es' with
           | nil=>simp at hw
           | cons e0 es' =>
             rw [CA] at hz;injection hz with hyx hrest
             injection hyx with hy hx
             subst hy hx; simp only [vP] at hlen hv hw; obtain ⟨he,hc⟩:=hI' 0 y x d0 e0 rfl rfl rfl rfl; have hI2:Ax .Lt A.in1 ⟨hp,g,d,tk,os⟩ vs ws ds' es':=fun i v w d e h1 h2 h3 h4=>hI' (i+1) v w d e (by simpa using h1) (by simpa using h2) (by simpa using h3) (by simpa using h4);rw [Eo] at hR; refine uW (he prog w _ _ ?_);cases q:vN d0 e0 with
             | true =>
               rw [q,if_pos rfl] at hR
               wp_walk
               exact ⟨rfl,rfl,_,_,_,_,hrest,by lia,by lia,by lia,hI2,hR⟩
             | false =>
               rw [q,if_neg (by decide)] at hR; have hri:=hc k hR prog w
               wp_walk using hri
               exact ⟨_,rfl,by simpa using h⟩
   case fin =>
     rintro ⟨b1,b2⟩ s' ⟨hb',rfl,vs,ws,ds',es',hz,hv,hw,hlen,hI',hR⟩;simp only at hb'; subst hb'; have hv':k=decide (items.size < items2.size):=by
       cases ds' with
       | nil =>
         rw [Eo] at hR; have:=xH hR; rw [<- this]; simp only [xR] at hlen; simp only [Xn]; exact decide_eq_decide.mpr (by lia)
       | cons d0 ds' =>
         cases es' with
         | nil =>
           rw [Eo] at hR; have:=xH hR; rw [<- this]; simp only [xR,vP] at hlen; simp only [Xn]; exact decide_eq_decide.mpr (by lia)
         | cons e0 es' =>
           cases vs with
           | nil=>simp at hv
           | cons v0 vs =>
             cases ws with
             | nil=>simp at hw
             | cons w0 ws=>rw [CA] at hz; cases hz
     rw [hv'] at h
     wp_walk
     exact ⟨_,rfl,by simpa [EF] using h⟩
   case h =>
     exact ⟨rfl,rfl,items.toList,items2.toList,ds,es,rfl,hz1,hz2,by lia,hI,hk⟩
theorem Pa (l b:vG) (items items2:Array uY) (n n2:Nat) (dd dd2:Option vG) (sl sl2:Array (Option uY)) (ds es:List uV) (k:Bool) (hz1:items.toList.length=ds.length) (hz2:items2.toList.length=es.length) (hk:Eo .LtE ds es=some k) :
   Meets (yA.«tuple.__le__» ⟨[.ref l,.ref b],[]⟩)
     (fun A R s=>s.heap.get? l=some { cls:=.type "tuple",dict:=dd,data:=.seq items n,slots:=sl }/\s.heap.get? b=some { cls:=.type "tuple",dict:=dd2,data:=.seq items2 n2,slots:=sl2 } /\
       Ax .LtE A.in1 s items.toList items2.toList ds es/\R (.ok (.ret (.bool k))) s) :=
 .of_wp fun prog w A R s h=>by
   obtain ⟨hp,g,d,tk,os⟩:=s; obtain ⟨hl,hb,hI,h⟩:=h;have f2:=GS; have z1:items.size=ds.length:=by rw [<- hz1]; simp
   have z2:items2.size=es.length:=by rw [<- hz2]; simp
   wp_walk using yU hl,yU hb,BR _ (fun M3 b s'=>b.1=none/\s'=⟨hp,g,d,tk,os⟩/\∃ (vs ws:List uY) (ds' es':List uV),M3=vs.zip ws /\
     vs.length=ds'.length/\ws.length=es'.length/\ds'.length+items2.size=es'.length+items.size/\Ax .LtE A.in1 ⟨hp,g,d,tk,os⟩ vs ws ds' es'/\Eo .LtE ds' es'=some k) _
   case turn =>
     rintro ⟨y,x⟩ M3 b s' ⟨hb',rfl,vs,ws,ds',es',hz,hv,hw,hlen,hI',hR⟩;cases vs with
     | nil=>rw [List.zip_nil_left] at hz; cases hz
     | cons v0 vs =>
       cases ws with
       | nil=>rw [List.zip_nil_right] at hz; cases hz
       | cons w0 ws =>
         cases ds' with
         | nil=>simp at hv
         | cons d0 ds' =>
           cases es' with
           | nil=>simp at hw
           | cons e0 es' =>
             rw [CA] at hz;injection hz with hyx hrest
             injection hyx with hy hx
             subst hy hx; simp only [vP] at hlen hv hw; obtain ⟨he,hc⟩:=hI' 0 y x d0 e0 rfl rfl rfl rfl; have hI2:Ax .LtE A.in1 ⟨hp,g,d,tk,os⟩ vs ws ds' es':=fun i v w d e h1 h2 h3 h4=>hI' (i+1) v w d e (by simpa using h1) (by simpa using h2) (by simpa using h3) (by simpa using h4);rw [Eo] at hR; refine uW (he prog w _ _ ?_);cases q:vN d0 e0 with
             | true =>
               rw [q,if_pos rfl] at hR
               wp_walk
               exact ⟨rfl,rfl,_,_,_,_,hrest,by lia,by lia,by lia,hI2,hR⟩
             | false =>
               rw [q,if_neg (by decide)] at hR; have hri:=hc k hR prog w
               wp_walk using hri
               exact ⟨_,rfl,by simpa using h⟩
   case fin =>
     rintro ⟨b1,b2⟩ s' ⟨hb',rfl,vs,ws,ds',es',hz,hv,hw,hlen,hI',hR⟩;simp only at hb'; subst hb'; have hv':k=decide (items.size<=items2.size):=by
       cases ds' with
       | nil =>
         rw [Eo] at hR; have:=xH hR; rw [<- this]; simp only [xR] at hlen; simp only [Xn]; exact decide_eq_decide.mpr (by lia)
       | cons d0 ds' =>
         cases es' with
         | nil =>
           rw [Eo] at hR; have:=xH hR; rw [<- this]; simp only [xR,vP] at hlen; simp only [Xn]; exact decide_eq_decide.mpr (by lia)
         | cons e0 es' =>
           cases vs with
           | nil=>simp at hv
           | cons v0 vs =>
             cases ws with
             | nil=>simp at hw
             | cons w0 ws=>rw [CA] at hz; cases hz
     rw [hv'] at h
     wp_walk
     exact ⟨_,rfl,by simpa [EF] using h⟩
   case h =>
     exact ⟨rfl,rfl,items.toList,items2.toList,ds,es,rfl,hz1,hz2,by lia,hI,hk⟩
theorem iA {op:c8} (ho:op=.Lt\/op=.LtE) {A:xD} {s:uZ} {l b:vG} {items items2:Array uY} {ds es:List uV} {k:Bool} (hl:EN s.heap l items) (hb:EN s.heap b items2) (hz1:items.toList.length=ds.length) (hz2:items2.toList.length=es.length)
   (hI:Ax op A.in1 s items.toList items2.toList ds es) (hk:Eo op ds es=some k) (hu:A.units < zE):lJ op A s (.ref l) (.ref b) k:=fun prog w E Q q=>by
 obtain ⟨⟨cls,dd,data,sl⟩,ho1,hc,n,hd⟩:=id hl;obtain ⟨⟨cls2,dd2,data2,sl2⟩,ho2,hc2,n2,hd2⟩:=id hb;simp only at hc hd hc2 hd2;subst hc hd hc2 hd2;rcases ho with rfl | rfl
 . exact richCompare_meets_room (op := .Lt) ⟨_, ho1, rfl⟩ ⟨_, ho2, rfl⟩ PySem.F.slot_tuple_lt PySem.F.entry_tuple_lt (PySem.F.args_tuple_lt_2 _ _) (Oz l b items items2 n n2 dd dd2 sl sl2 ds es k hz1 hz2 hk)
     ⟨ho1,ho2,hI,show AY k≠EJ/\Q (.bool k) s from ⟨(fun x=>nomatch x),q⟩⟩ hu
 . exact richCompare_meets_room (op := .LtE) ⟨_, ho1, rfl⟩ ⟨_, ho2, rfl⟩ PySem.F.slot_tuple_le PySem.F.entry_tuple_le (PySem.F.args_tuple_le_2 _ _) (Pa l b items items2 n n2 dd dd2 sl sl2 ds es k hz1 hz2 hk)
     ⟨ho1,ho2,hI,show AY k≠EJ/\Q (.bool k) s from ⟨(fun x=>nomatch x),q⟩⟩ hu
theorem uM {op:c8} {i:Int} {b:uV} {k:Bool} (e:Px op (.int i) b=some k):∃ j,b=.int j/\k=eT op i j:=by cases b <;> cases e; exact ⟨_,rfl,rfl⟩
theorem uL {op:c8} {i:Str} {b:uV} {k:Bool} (e:Px op (.str i) b=some k):∃ j,b=.str j/\k=Yp op i j:=by cases b <;> cases e; exact ⟨_,rfl,rfl⟩
theorem uK {op:c8} {i:List uV} {b:uV} {k:Bool} (e:Px op (.tuple i) b=some k):∃ j,b=.tuple j/\Eo op i j=some k:=by cases b with | tuple j=>exact ⟨j,rfl,e⟩ | _=>cases e
noncomputable def ordB:uV->Bool
 | .int _=>true | .str _=>true | .tuple _=>true | _=>false
theorem Tx {op:c8} {a b:uV} {k:Bool} (h:ordB a=false) (e:Px op a b=some k):False:=by cases a <;> first | (cases h; done) | cases e
mutual
theorem aN {op:c8} (ho:op=.Lt\/op=.LtE):∀ (a b:uV) (A:xD) (s:uZ) (u v:uY) (as bs:List vG) (k:Bool),Reads s.heap u a as->Reads s.heap v b bs->a.canLay0=true->b.canLay0=true->A.units+a.depth < zE->Px op a b=some k->lJ op A s u v k
 | .int i,b,A,s,_,_,_,_,k,ra,rb,_,_,_,e=>by
   obtain ⟨j,rfl,rfl⟩:=uM e;cases ra; cases rb; exact rY (by rcases ho with rfl | rfl <;> rfl) A s i j _ _
 | .str x,b,A,s,_,_,_,_,k,ra,rb,_,_,_,e=>by
   obtain ⟨j,rfl,rfl⟩:=uL e;cases ra; cases rb; exact rX (by rcases ho with rfl | rfl <;> rfl) A s x j _ _
 | .tuple xs,b,A,s,_,_,_,_,k,ra,rb,ha,hb,hu,e=>by
   obtain ⟨ys,rfl,e⟩:=uK e;cases ra with
   | tuple h1 h2 h3 h4 =>
     cases rb with
     | tuple k1 k2 k3 k4 =>
       have hu':A.units+(xJ xs+1) < zE:=hu; refine iA ho ⟨_,h1,h2,_,h3⟩ ⟨_,k1,k2,_,k3⟩ (GC _ _ _ h4) (GC _ _ _ k4) ?_ e (by lia);exact Vj ho xs ys A.in1 s _ _ _ _ h4 k4 ha hb (by show A.units+1+_ < _; lia)
 | .none,b,_,_,_,_,_,_,_,_,_,_,_,_,e=>(Tx (a:=.none) rfl e).elim
 | .bool c,b,_,_,_,_,_,_,_,_,_,_,_,_,e=>(Tx (a:=.bool c) rfl e).elim
 | .list c,b,_,_,_,_,_,_,_,_,_,_,_,_,e=>(Tx (a:=.list c) rfl e).elim
 | .dict c,b,_,_,_,_,_,_,_,_,_,_,_,_,e=>(Tx (a:=.dict c) rfl e).elim
theorem Vj {op:c8} (ho:op=.Lt\/op=.LtE):∀ (xs ys:List uV) (A:xD) (s:uZ) (vs ws:List uY) (as bs:List vG),JA s.heap vs xs as->JA s.heap ws ys bs->yW xs=true->yW ys=true->A.units+xJ xs < zE->Ax op A s vs ws xs ys
 | [],_,_,_,_,_,_,_,_,_,_,_,_=>fun i v w d e h1 h2 h3 h4=>by simp at h3
 | _::_,[],_,_,_,_,_,_,_,_,_,_,_=>fun i v w d e h1 h2 h3 h4=>by simp at h4
 | x::xs,y::ys,A,s,_,_,_,_,ra,rb,ha,hb,hu=>by
   have ha':x.canLay0=true/\yW xs=true:=by simpa [yW] using ha
   have hb':y.canLay0=true/\yW ys=true:=by simpa [yW] using hb
   have hu':A.units+max x.depth (xJ xs) < zE:=hu;cases ra with
   | cons r1 r2 =>
     cases rb with
     | cons q1 q2 =>
       intro i v w d e h1 h2 h3 h4;cases i with
       | zero =>
         simp at h1 h2 h3 h4;subst h1 h2 h3 h4; exact ⟨SeqAt.eqAt_reads _ _ _ _ _ _ _ _ r1 q1 ha'.1 hb'.1 (by lia),fun k hk=>aN ho _ _ A s _ _ _ _ k r1 q1 ha'.1 hb'.1 (by lia) hk⟩
       | succ i=>exact Vj ho xs ys A s _ _ _ _ r2 q2 ha'.2 hb'.2 (by lia) i v w d e (by simpa using h1) (by simpa using h2) (by simpa using h3) (by simpa using h4)
end
noncomputable def K0 (op:c8) (a b:uV):Option uV:=if a.depth<=60 then (Px op a b).map .bool else none
def aO (op:c8):R2:=fun x y H Q=>∃ G a b k,Same G H/\Rep G a x/\Rep G b y/\a.depth<=60/\Px op a b=some k/\Q (.bl k) H
noncomputable section
variable {X:Cx}
theorem Lm {op:c8} (ho:op=.Lt\/op=.LtE) (hu:X.A.units+64 < zE):OpR X (yG op) (aO op):=by
 rintro pins s Z H x y v u Q I rx ry ⟨G,a,b,k,hG,ra,rb,hd,e,q⟩;obtain ⟨as,r1⟩:=ra.reads I hG rx;obtain ⟨bs,r2⟩:=rb.reads I hG ry;have:=aN ho a b X.A s v u as bs k r1 r2 ra.lay rb.lay (by lia) e X.prog X.w X.xe (EP X pins Z Q) ⟨.bl k,H,I,rfl,q⟩;rcases ho with rfl | rfl
 . exact this
 . exact this
theorem nO {op:c8} (ho:op=.Gt\/op=.GtE):OpR X (yG op) (fun x y H Q=>∃ i j,x=.int i/\y=.int j/\Q (.bl (eT op i j)) H):=by
 rintro pins s Z H x y v u Q I rx ry ⟨i,j,e1,e2,q⟩;subst e1 e2;obtain ⟨t,rfl⟩:=rx;obtain ⟨t',rfl⟩:=ry;rcases ho with rfl | rfl
 . exact gt_int ⟨.bl _,H,I,rfl,q⟩
 . exact ge_int ⟨.bl _,H,I,rfl,q⟩
theorem Ln {op:c8}:OpD (aO op) (K0 op):=by
 intro G H x y a b d Q hG ra rb e q;unfold K0 at e;split at e
 . rename_i h
   cases e1:Px op a b with
   | none=>rw [e1] at e; cases e
   | some k=>rw [e1] at e; cases e; exact ⟨G,a,b,k,hG,ra,rb,h,e1,q _ G H (Grow.refl hG) rfl⟩
 . cases e
noncomputable def Fa (op:c8):uV->uV->Option uV
 | .int i,.int j=>some (.bool (eT op i j))
 | _,_=>none
theorem jA {op:c8}:OpD (fun x y H Q=>∃ i j,x=.int i/\y=.int j/\Q (.bl (eT op i j)) H) (Fa op):=by
 intro G H x y a b d Q hG ra rb e q;cases a with
 | int i=>cases b with
   | int j=>cases e; cases (show _=_ from ra); cases (show _=_ from rb); exact ⟨i,j,rfl,rfl,q _ G H (Grow.refl hG) rfl⟩
   | _=>cases e
 | _=>cases e
end
end Sm
end
noncomputable section
namespace Sm
open PySem PySem.Spec PyProof.Rows L2
theorem Res.bind_assoc {α β γ:Type} (r:Res α) (f:α->Res β) (g:β->Res γ):(r.bind f).bind g=r.bind fun x=>(f x).bind g:=by cases r <;> rfl
structure Cxt (P:vU) (w:wD) (K:vB) (mg:Str->Option uY) (base:wT) (X:Cx) (N:List Str) (sc:Scope) (k:Nat) (df:Bool):Prop where
 hP:X.prog=P
 hw:X.w=w
 hK:X.K=K
 hmg:X.mg=mg
 hb:X.base=base
 hN:X.N=N
 hs:X.env.scope=sc
 calm:X.calm=true
 room:Room k X.A
 fn:df=true->∀ x,X.fn x=true
 own:PassesOwn (vS X.prog X.w) X.A X.env X.xe
def Ek (scope sc:Scope):Scope :=
 { scope with names:=scope.names.map fun (n,k)=>if (k==.free&&sc.kind==.function&&sc.names.lookup n==some .cell) then (n,.cell) else (n,k) }
theorem aM {X:Cx} {scope sc:Scope} (h:X.env.scope=sc):c6 scope X.env=Ek scope sc:=by subst h; rfl
noncomputable section
variable {P:vU} {w:wD} {K:vB} {mg:Str->Option uY} {base:wT} {X:Cx} {N:List Str} {sc:Scope} {k:Nat} {df:Bool} {E:EK} {pos:Pos}
theorem Cxt.blk (C:Cxt P w K mg base X N sc k df) {X':Cx} {N':List Str} {scope:Scope} (B:Blk X X' N' (c6 scope X.env)):Cxt P w K mg base X' N' (Ek scope sc) k false :=
 ⟨B.prog.trans C.hP,B.w.trans C.hw,B.K.trans C.hK,B.mg.trans C.hmg,B.base.trans C.hb,B.N,B.sc.trans (aM C.hs),B.calm.trans C.calm,by rw [B.A]; exact C.room,(fun h=>by cases h),by rw [B.xe]; exact AZ⟩
theorem Cxt.hu (C:Cxt P w K mg base X N sc k df):X.A.units+64 < zE:=C.room.units
noncomputable def okVar (N:List Str) (sc:Scope) (i:Nat) (x:Str):Bool :=
 (N[i]? == some x)&&(match sc.names.lookup x with | some .local=>true | some .cell=>true | some .free=>true | _=>false) && !(x==("__debug__" : Str)) && !(x==("__classdict__" : Str))
theorem A2 (C:Cxt P w K mg base X N sc k df) (i:Nat) {x:Str} (h:okVar N sc i x=true):DE X E (.Name x pos) (A0 i):=by
 unfold okVar at h;simp only [vV,zZ] at h;obtain ⟨⟨⟨h1,h2⟩,h3⟩,h4⟩:=h;refine Zk (by rw [C.hN]; exact zY h1) ?_ h3 h4;rw [C.hs];unfold Vis;cases q:sc.names.lookup x with
 | none=>rw [q] at h2; cases h2
 | some z =>
   rw [q] at h2;cases z with
   | «local» => exact .inl rfl
   | cell=>exact .inr (.inl rfl)
   | free=>exact .inr (.inr rfl)
   | _=>cases h2
noncomputable def okGl (sc:Scope) (x:Str):Bool:=(sc.names.lookup x==some .globalImplicit) && !(x==("__debug__" : Str)) && !(x==("__name__" : Str))
theorem okGl.gl (C:Cxt P w K mg base X N sc k df) {x:Str} (h:okGl sc x=true):Gl X x/\(x==("__debug__" : Str))=false/\x ≠ "__name__" := by
 unfold okGl at h;simp only [vV,zZ] at h;obtain ⟨⟨h1,h2⟩,h3⟩:=h;refine ⟨?_,h2,by simpa using h3⟩;unfold Gl;show X.env.scope.names.lookup x=_;rw [C.hs]; exact zY h1
variable {a b c:Expr} {f g f':Dn->Res uV}
theorem D3 (ha:DE X E a f) (hb:DE X E b g):DE X E (.BinOp a .Add b pos) (b2 f g C6):=bL nP nS ha hb
theorem Bt (ha:DE X E a f) (hb:DE X E b g):DE X E (.BinOp a .Mult b pos) (b2 f g O5):=bL nM nQ ha hb
theorem Rh (ha:DE X E a f) (hb:DE X E b g):DE X E (.BinOp a .Mod b pos) (b2 f g Pw):=bL sN nR ha hb
theorem Tu (ha:DE X E a f) (hb:DE X E b g):DE X E (.BinOp a .FloorDiv b pos) (b2 f g Kf):=bL nN iY ha hb
theorem d_eq (C:Cxt P w K mg base X N sc k df) (ha:DE X E a f) (hb:DE X E b g):DE X E (.Compare a [.Eq] [b] pos) (b2 f g dEq):=d_cmp (Yu C.hu) iZ ha hb (Fk _)
noncomputable def Ib (f g f':Dn->Res uV) (op op':uV->uV->Option uV):Dn->Res uV:=fun δ=>(f δ).bind fun x=>(g δ).bind fun y=>(ofO (op x y)).bind fun z=>match z with
 | .bool true=>(f' δ).bind fun u=>ofO (op' y u)
 | .bool false=>.ok (.bool false)
 | _=>.no
noncomputable def Nz:uV->Bool
 | .none=>true
 | _=>false
noncomputable def b1 (f:Dn->Res uV) (op:uV->Option uV):Dn->Res uV:=fun δ=>(f δ).bind fun x=>ofO (op x)
theorem Rep.non {G:Hp} {d:uV} {v:V} (r:Rep G d v):decide (v=.non)=Nz d:=by
 cases d with
 | none=>cases (show _=_ from r); rfl
 | bool _=>cases (show _=_ from r); rfl
 | int _=>cases (show _=_ from r); rfl
 | str _=>cases r.1; rfl
 | list _=>obtain ⟨a,xs,rfl,_⟩:=r; rfl
 | tuple _=>obtain ⟨a,xs,rfl,_⟩:=r; rfl
 | dict _=>exact (show False from r).elim
noncomputable def Pv:uV->Option uV
 | .int i=>some (.int (-i))
 | _=>none
theorem bJ (ha:DE X E a f):DE X E (.UnaryOp .USub a pos) (b1 f Pv):=by
 refine PE.imp (qN fT ha) fun Z H Q hZ3=>?_;obtain ⟨G,δ,S,aft⟩:=hZ3;refine K2 S aft fun d1 v1 G1 H1 g1 r1 S1 a1=>?_;cases d1 with
 | int i=>cases (show _=_ from r1); exact ⟨i,rfl,a1 _ G1 H1 (Grow.refl S1.sub) rfl⟩
 | _=>exact (show False from a1).elim
noncomputable def fS (f g:Dn->Res uV):Dn->Res uV:=fun δ=>(f δ).bind fun x=>match x with
 | .bool true=>g δ
 | .bool false=>.ok (.bool false)
 | _=>.no
variable {M3:List Expr}
theorem d_one {op:BoolOp} (ha:DE X E a f):DE X E (.BoolOp op [a] pos) f:=iL ha
theorem d_and (ha:DE X E a f) (hb:DE X E (.BoolOp .And (b::M3) pos) g):DE X E (.BoolOp .And (a::b::M3) pos) (fS f g):=by
 refine PE.imp (iT ha hb) fun Z H Q hZ3=>?_;obtain ⟨G,δ,S,aft⟩:=hZ3;refine K2 S aft fun d1 v1 G1 H1 g1 r1 S1 a1=>?_;cases d1 with
 | bool kk =>
   refine ⟨kk,r1,?_⟩;cases kk with
   | true=>rw [if_pos rfl]; exact ⟨G1,δ,S1,a1⟩
   | false=>rw [if_neg (by decide)]; exact a1 _ G1 H1 (Grow.refl S1.sub) rfl
 | _=>exact (show False from a1).elim
def AftT (E:EK) (G H:Hp) (r:Res Bool) (Q:Bool->Hp->Prop):Prop:=match r with
 | .ok d=>∀ G' H',Grow G H G' H'->Q d H'
 | .exc c=>∀ G' H',Grow G H G' H'->E c H'
 | .no=>False
def tT (E:EK) (f:Dn->Res Bool):TT:=fun Z H Q=>∃ G δ,SR G H Z δ/\AftT E G H (f δ) Q
abbrev DT (X:Cx) (E:EK) (e:Expr) (f:Dn->Res Bool):Prop:=PT X e (tT E f)
abbrev DW (X:Cx) (E:EK) (e:Expr) (f:Dn->Res Bool):Prop:=PW X e (tT E f)
theorem AftT.grow {E:EK} {G H G' H':Hp} {r:Res Bool} {Q:Bool->Hp->Prop} (g:Grow G H G' H') (a:AftT E G H r Q):AftT E G' H' r Q:=by
 cases r with
 | ok d=>exact fun G2 H2 g2=>a G2 H2 (g.trans g2)
 | exc c=>exact fun G2 H2 g2=>a G2 H2 (g.trans g2)
 | no=>exact a
theorem PT.imp {X:Cx} {e:Expr} {t t':TT} (h:PT X e t) (i:∀ Z H Q,t' Z H Q->t Z H Q):PT X e t':=fun pins s Z H Q I q=>h pins s Z H Q I (i _ _ _ q)
theorem PW.imp {X:Cx} {e:Expr} {t t':TT} (h:PW X e t) (i:∀ Z H Q,t' Z H Q->t Z H Q):PW X e t':=fun wh pins s Z H Q I q=>h wh pins s Z H Q I (i _ _ _ q)
theorem S9 {E:EK} {G H:Hp} {Z:St} {δ:Dn} {f:Dn->Res uV} {k:uV->Res Bool} {Q:Bool->Hp->Prop} {R:VK} (S:SR G H Z δ) (a:AftT E G H ((f δ).bind k) Q)
   (h:∀ d v G1 H1,Grow G H G1 H1->Rep G1 d v->SR G1 H1 Z δ->AftT E G1 H1 (k d) Q->R v H1):tD E f Z H R:=by
 refine ⟨G,δ,S,?_⟩;cases e:f δ with
 | ok d =>
   rw [e] at a; exact fun v G' H' g r=>h d v G' H' g r (S.grow g) (AftT.grow g a)
 | exc c=>rw [e] at a; exact a
 | no=>rw [e] at a; exact a
theorem Ga {E:EK} {G H:Hp} {Z:St} {δ:Dn} {f:Dn->Res Bool} {k:Bool->Res Bool} {Q R:Bool->Hp->Prop} (S:SR G H Z δ) (a:AftT E G H ((f δ).bind k) Q)
   (h:∀ d G1 H1,Grow G H G1 H1->SR G1 H1 Z δ->AftT E G1 H1 (k d) Q->R d H1):tT E f Z H R:=by
 refine ⟨G,δ,S,?_⟩;cases e:f δ with
 | ok d =>
   rw [e] at a; exact fun G' H' g=>h d G' H' g (S.grow g) (AftT.grow g a)
 | exc c=>rw [e] at a; exact a
 | no=>rw [e] at a; exact a
theorem Zx {E:EK} {G H:Hp} {Z:St} {δ:Dn} {f:Dn->Res Bool} {k:Bool->Res uV} {Q:VK} {R:Bool->Hp->Prop} (S:SR G H Z δ) (a:Aft E G H ((f δ).bind k) Q)
   (h:∀ d G1 H1,Grow G H G1 H1->SR G1 H1 Z δ->Aft E G1 H1 (k d) Q->R d H1):tT E f Z H R:=by
 refine ⟨G,δ,S,?_⟩;cases e:f δ with
 | ok d =>
   rw [e] at a; exact fun G' H' g=>h d G' H' g (S.grow g) (Aft.grow g a)
 | exc c=>rw [e] at a; exact a
 | no=>rw [e] at a; exact a
noncomputable def Uk:uV->Option Bool
 | .none=>some false
 | .bool b=>some b
 | .int i=>some (i != 0)
 | .str x=>some (x.length != 0)
 | .list xs=>some (!xs.isEmpty)
 | .tuple xs=>some (!xs.isEmpty)
 | .dict _=>none
noncomputable def B6 (f:Dn->Res uV):Dn->Res Bool:=fun δ=>(f δ).bind fun d=>ofO (Uk d)
theorem RepL.isEmpty {G:Hp} {ds:List uV} {xs:List V} (r:RepL G ds xs):ds.isEmpty=xs.isEmpty:=by
 have:=r.length;cases ds <;> cases xs <;> simp at this ⊢
theorem Rep.truV {G H:Hp} (hG:Same G H) {d:uV} {v:V} (r:Rep G d v) {kk:Bool} (e:Uk d=some kk):uS K v H kk:=by
 cases d with
 | none=>cases (show _=_ from r); cases e; rfl
 | bool _=>cases (show _=_ from r); cases e; rfl
 | int _=>cases (show _=_ from r); cases e; rfl
 | str x =>
   cases r.1; cases e;refine ⟨r.2.2,?_⟩; show (x.length != 0)=((x.length:Int) != 0);rw [zJ]; simp
 | list _=>obtain ⟨a,xs,rfl,h1,l1⟩:=r; cases e; exact .inl ⟨xs,.inl (Rd.mono hG h1),by rw [l1.isEmpty]⟩
 | tuple _=>obtain ⟨a,xs,rfl,h1,l1⟩:=r; cases e; exact .inr (.inl ⟨xs,.inl (.inl (hG _ _ h1)),by rw [l1.isEmpty]⟩)
 | dict _=>cases e
theorem t_val (ha:DE X E a f) (he:∀ whole,isTrue a X.env whole=(do let v <- whole; standAt a.pos; holding [v] (truthy v)):=by intro _; rfl):DT X E a (B6 f):=by
 refine PT.imp (Vm ha he) fun Z H Q hZ3=>?_;obtain ⟨G,δ,S,aft⟩:=hZ3;refine S9 S aft fun d1 v1 G1 H1 g1 r1 S1 a1=>?_;cases e:Uk d1 with
 | none=>rw [e] at a1; exact a1.elim
 | some kk=>rw [e] at a1; exact ⟨kk,r1.truV S1.sub e,a1 G1 H1 (Grow.refl S1.sub)⟩
theorem Fd {o:c8} {r:R2} {op:uV->uV->Option uV} (hr:OpR X (yG o) r) (ho:OpD r op) (hbool:∀ x y d,op x y=some d->∃ kk,d=.bool kk) (ha:DE X E a f) (hb:DE X E b g) (hm:behindInMarks o b=false) :
   DT X E (.Compare a [o] [b] pos) (B6 (b2 f g op)):=by
 refine PT.imp (mY hr ha hb hm) fun Z H Q hZ3=>?_;obtain ⟨G,δ,S,aft⟩:=hZ3;have aft':AftT E G H ((f δ).bind fun x=>(g δ).bind fun y=>(ofO (op x y)).bind fun d=>ofO (Uk d)) Q:=by
   unfold B6 b2 at aft; simp only [Res.bind_assoc] at aft; exact aft
 refine S9 S aft' fun d1 v1 G1 H1 g1 r1 S1 a1=>?_;refine S9 S1 a1 fun d2 v2 G2 H2 g2 r2 S2 a2=>?_;cases e:op d1 d2 with
 | none=>rw [e] at a2; exact a2.elim
 | some d =>
   rw [e] at a2; obtain ⟨kk,rfl⟩:=hbool _ _ _ e; exact ho G2 H2 v1 v2 d1 d2 _ _ S2.sub (r1.mono g2.g) r2 e fun v G3 H3 g3 r3=>⟨kk,r3,a2 G3 H3 g3⟩
theorem pS (x y d:uV) (e:dEq x y=some d):∃ kk,d=.bool kk:=by unfold dEq at e; split at e <;> cases e; exact ⟨_,rfl⟩
theorem pR (x y d:uV) (e:dNe x y=some d):∃ kk,d=.bool kk:=by unfold dNe at e; split at e <;> cases e; exact ⟨_,rfl⟩
theorem Hu {op:c8} (x y d:uV) (e:K0 op x y=some d):∃ kk,d=.bool kk:=by
 unfold K0 at e; split at e
 . obtain ⟨kk,_,rfl⟩:=xG.mp e; exact ⟨_,rfl⟩
 . cases e
theorem fI {op:c8} (x y d:uV) (e:Fa op x y=some d):∃ kk,d=.bool kk:=by
 unfold Fa at e; split at e
 . cases e; exact ⟨_,rfl⟩
 . cases e
theorem Ei (C:Cxt P w K mg base X N sc k df) (ha:DE X E a f) (hb:DE X E b g):DT X E (.Compare a [.Eq] [b] pos) (B6 (b2 f g dEq)):=Fd (Yu C.hu) iZ pS ha hb (Fk _)
theorem Ki (C:Cxt P w K mg base X N sc k df) (ha:DE X E a f) (hb:DE X E b g):DT X E (.Compare a [.NotEq] [b] pos) (B6 (b2 f g dNe)):=Fd (sM C.hu) sP pR ha hb (Fk _)
theorem cK (C:Cxt P w K mg base X N sc k df) (ha:DE X E a f) (hb:DE X E b g):DT X E (.Compare a [.Lt] [b] pos) (B6 (b2 f g (K0 .Lt))):=Fd (Lm (.inl rfl) C.hu) Ln Hu ha hb (Fk _)
theorem rD (C:Cxt P w K mg base X N sc k df) (ha:DE X E a f) (hb:DE X E b g):DT X E (.Compare a [.LtE] [b] pos) (B6 (b2 f g (K0 .LtE))):=Fd (Lm (.inr rfl) C.hu) Ln Hu ha hb (Fk _)
theorem t_gt (C:Cxt P w K mg base X N sc k df) (ha:DE X E a f) (hb:DE X E b g):DT X E (.Compare a [.Gt] [b] pos) (B6 (b2 f g (Fa .Gt))):=Fd (nO (.inl rfl)) jA fI ha hb (Fk _)
theorem cL (C:Cxt P w K mg base X N sc k df) (ha:DE X E a f) (hb:DE X E b g) (hm:behindInMarks .In b=false:=by with_unfolding_all rfl):DT X E (.Compare a [.In] [b] pos) (B6 (b2 f g (dIn false))):=Fd (sO C.hu) iX (fun _ _ _ e=>Ol e) ha hb hm
theorem Lh (C:Cxt P w K mg base X N sc k df) (ha:DE X E a f) (hb:DE X E b g) (hm:behindInMarks .NotIn b=false:=by with_unfolding_all rfl):DT X E (.Compare a [.NotIn] [b] pos) (B6 (b2 f g (dIn true))):=Fd (dW C.hu) iX (fun _ _ _ e=>Ol e) ha hb hm
theorem t_isN {j:Nat} {p:Pos} (ha:DE X E a f):DT X E (.Compare a [.Is] [.Constant .none j p] pos) (fun δ=>(f δ).bind fun d=>.ok (Nz d)):=by
 refine PT.imp (Yq (sL ha)) fun Z H Q hZ3=>?_;obtain ⟨G,δ,S,aft⟩:=hZ3;exact S9 S aft fun d1 v1 G1 H1 g1 r1 S1 a1=>by rw [r1.non]; exact ⟨_,rfl,a1 G1 H1 (Grow.refl S1.sub)⟩
variable {c1 c2:Dn->Res Bool}
noncomputable def pO (c:Dn->Res Bool):Dn->Res Bool:=fun δ=>(c δ).bind fun b=>.ok (!b)
noncomputable def N6 (c c':Dn->Res Bool):Dn->Res Bool:=fun δ=>(c δ).bind fun b=>if b=true then c' δ else .ok false
noncomputable def cOr (c c':Dn->Res Bool):Dn->Res Bool:=fun δ=>(c δ).bind fun b=>if b=true then .ok true else c' δ
theorem t_not (ha:DT X E a c1):DT X E (.UnaryOp .Not a pos) (pO c1):=by
 refine PT.imp (sE ha) fun Z H Q hZ3=>?_;obtain ⟨G,δ,S,aft⟩:=hZ3;exact Ga S aft fun d G1 H1 g1 S1 a1=>a1 G1 H1 (Grow.refl S1.sub)
theorem Y1 (ha:DT X E a c1):DW X E (.BoolOp .And [a] pos) c1:=mR ha
theorem qD (ha:DT X E a c1):DW X E (.BoolOp .Or [a] pos) c1:=sC ha
theorem Cr (ha:DT X E a c1) (hb:DW X E (.BoolOp .And (b::M3) pos) c2):DW X E (.BoolOp .And (a::b::M3) pos) (N6 c1 c2):=by
 refine PW.imp (sD ha hb) fun Z H Q hZ3=>?_;obtain ⟨G,δ,S,aft⟩:=hZ3;refine Ga S aft fun d G1 H1 g1 S1 a1=>?_;cases d with
 | true=>rw [if_pos rfl]; exact ⟨G1,δ,S1,a1⟩
 | false=>rw [if_neg (by decide)]; exact a1 G1 H1 (Grow.refl S1.sub)
theorem w_or (ha:DT X E a c1) (hb:DW X E (.BoolOp .Or (b::M3) pos) c2):DW X E (.BoolOp .Or (a::b::M3) pos) (cOr c1 c2):=by
 refine PW.imp (pw_or ha hb) fun Z H Q hZ3=>?_;obtain ⟨G,δ,S,aft⟩:=hZ3;refine Ga S aft fun d G1 H1 g1 S1 a1=>?_;cases d with
 | true=>rw [if_pos rfl]; exact a1 G1 H1 (Grow.refl S1.sub)
 | false=>rw [if_neg (by decide)]; exact ⟨G1,δ,S1,a1⟩
theorem w_t (h:DW X E a c1):DT X E a c1:=h.pt
noncomputable def vIf (c:Dn->Res Bool) (f g:Dn->Res uV):Dn->Res uV:=fun δ=>(c δ).bind fun b=>if b=true then f δ else g δ
theorem bK (hc:DT X E c c1) (ha:DE X E a f) (hb:DE X E b g):DE X E (.IfExp c a b pos) (vIf c1 f g):=by
 refine PE.imp (iQ hc ha hb) fun Z H Q hZ3=>?_;obtain ⟨G,δ,S,aft⟩:=hZ3;refine Zx S aft fun d G1 H1 g1 S1 a1=>?_;cases d with
 | true=>rw [if_pos rfl]; exact ⟨G1,δ,S1,a1⟩
 | false=>rw [if_neg (by decide)]; exact ⟨G1,δ,S1,a1⟩
end
end Sm
end
noncomputable section
namespace Sm
open PySem PySem.Spec PyProof.Rows L2
noncomputable section
variable {w:wD} {K:vB} {X:Cx} {k:Nat} {E:EK} {pos:Pos} {a b c e:Expr} {es:List Expr} {f g:Dn->Res uV} {fs:Dn->Res (List uV)}
def AftL (E:EK) (G H:Hp) (r:Res (List uV)) (Q:List V->Hp->Prop):Prop:=match r with
 | .ok ds=>∀ vs G' H',Grow G H G' H'->RepL G' ds vs->Q vs H'
 | .exc c=>∀ G' H',Grow G H G' H'->E c H'
 | .no=>False
def tA (E:EK) (fs:Dn->Res (List uV)):TA:=fun Z H Q=>∃ G δ,SR G H Z δ/\AftL E G H (fs δ) Q
structure DA (X:Cx) (E:EK) (es:List Expr) (n:Nat) (fs:Dn->Res (List uV)):Prop where
 pa:PA X es (tA E fs)
 len:∀ δ ds,fs δ=.ok ds->ds.length=n
theorem PA.imp {X:Cx} {es:List Expr} {t t':TA} (h:PA X es t) (i:∀ Z H Q,t' Z H Q->t Z H Q):PA X es t':=fun p pins s Z H Q I q=>h p pins s Z H Q I (i _ _ _ q)
theorem AftL.grow {E:EK} {G H G' H':Hp} {r:Res (List uV)} {Q:List V->Hp->Prop} (g:Grow G H G' H') (a:AftL E G H r Q):AftL E G' H' r Q:=by
 cases r with
 | ok d=>exact fun v G2 H2 g2 q=>a v G2 H2 (g.trans g2) q
 | exc c=>exact fun G2 H2 g2=>a G2 H2 (g.trans g2)
 | no=>exact a
theorem Ls {α:Type} {E:EK} {G H:Hp} {Z:St} {δ:Dn} {f:Dn->Res uV} {k:uV->Res α} {R:VK} {W:Hp->Hp->Res α->Prop} (S:SR G H Z δ) (a:W G H ((f δ).bind k)) (hg:∀ {G H G' H':Hp} {r:Res α},Grow G H G' H'->W G H r->W G' H' r)
   (hx:∀ c,W G H (.exc c)->∀ G' H',Grow G H G' H'->E c H') (hn:W G H .no->False)
   (h:∀ d v G1 H1,Grow G H G1 H1->Rep G1 d v->SR G1 H1 Z δ->W G1 H1 (k d)->R v H1):tD E f Z H R:=by
 refine ⟨G,δ,S,?_⟩;cases e:f δ with
 | ok d=>rw [e] at a; exact fun v G' H' g r=>h d v G' H' g r (S.grow g) (hg g a)
 | exc c=>rw [e] at a; exact hx c a
 | no=>rw [e] at a; exact hn a
theorem T5 {α:Type} {E:EK} {G H:Hp} {Z:St} {δ:Dn} {fs:Dn->Res (List uV)} {k:List uV->Res α} {R:List V->Hp->Prop} {W:Hp->Hp->Res α->Prop} (S:SR G H Z δ) (a:W G H ((fs δ).bind k)) (hg:∀ {G H G' H':Hp} {r:Res α},Grow G H G' H'->W G H r->W G' H' r)
   (hx:∀ c,W G H (.exc c)->∀ G' H',Grow G H G' H'->E c H') (hn:W G H .no->False)
   (h:∀ ds vs G1 H1,fs δ=.ok ds->Grow G H G1 H1->RepL G1 ds vs->SR G1 H1 Z δ->W G1 H1 (k ds)->R vs H1):tA E fs Z H R:=by
 refine ⟨G,δ,S,?_⟩;cases e:fs δ with
 | ok d=>rw [e] at a; exact fun v G' H' g r=>h d v G' H' e g r (S.grow g) (hg g a)
 | exc c=>rw [e] at a; exact hx c a
 | no=>rw [e] at a; exact hn a
noncomputable def A6:Dn->Res (List uV):=fun _=>.ok []
noncomputable def A1 (f:Dn->Res uV) (fs:Dn->Res (List uV)):Dn->Res (List uV):=fun δ=>(f δ).bind fun d=>(fs δ).bind fun ds=>.ok (d::ds)
theorem A9:DA X E [] 0 A6:=⟨PA.imp O2 fun Z H Q hZ3=>by obtain ⟨G,δ,S,a⟩:=hZ3; exact a [] G H (Grow.refl S.sub) rfl,fun δ ds e=>by cases e; rfl⟩
noncomputable def Td:Expr->Bool
 | .Starred .. => false
 | _=>true
theorem cO {a:Expr} {es:List Expr} {env:Env} (h:Td a=true):vI (a::es) env=(false,eval a env)::vI es env:=by
 cases a <;> first | rfl | cases h
theorem A3 {n:Nat} (ha:DE X E a f) (hr:DA X E es n fs) (hs:Td a=true:=by rfl):DA X E (a::es) (n+1) (A1 f fs):=by
 refine ⟨PA.imp (F6 ha hr.pa (cO hs)) fun Z H Q ⟨G,δ,S,aft⟩=>?_,fun δ ds e=>?_⟩
 . refine Ls (W:=fun G H r=>AftL E G H r Q) S aft (fun g a=>AftL.grow g a) (fun c a=>a) (fun a=>a) fun d v G1 H1 g1 r1 S1 a1=>?_
   refine T5 (W:=fun G H r=>AftL E G H r Q) S1 a1 (fun g a=>AftL.grow g a) (fun c a=>a) (fun a=>a) fun ds vs G2 H2 e g2 r2 S2 a2=>?_;exact a2 _ G2 H2 (Grow.refl S2.sub) (RepL.cons (r1.mono g2.g) r2)
 . unfold A1 at e
   cases h1:f δ with
   | ok d =>
     rw [h1] at e;cases h2:fs δ with
     | ok ds' =>
       simp only [Res.bind,h2] at e; cases e; rw [vP,hr.len δ ds' h2]
     | exc c=>simp only [Res.bind,h2] at e; cases e
     | no=>simp only [Res.bind,h2] at e; cases e
   | exc c=>rw [h1] at e; cases e
   | no=>rw [h1] at e; cases e
noncomputable def E5 (fs:Dn->Res (List uV)):Dn->Res uV:=fun δ=>(fs δ).bind fun ds=>.ok (.tuple ds)
noncomputable def E4 (fs:Dn->Res (List uV)):Dn->Res uV:=fun δ=>(fs δ).bind fun ds=>.ok (.list ds)
theorem L6 {n x1:Nat} (h:DA X E es n fs) (hn:n<=sizeLine:=by decide):DE X E (.Tuple es x1 pos) (E5 fs):=by
 refine PE.imp (sG h.pa) fun Z H Q hZ3=>?_;obtain ⟨G,δ,S,aft⟩:=hZ3;refine T5 (W:=fun G H r=>Aft E G H r Q) S aft (fun g a=>Aft.grow g a) (fun c a=>a) (fun a=>a) fun ds vs G1 H1 e g1 r1 S1 a1=>?_;refine ⟨by rw [<- r1.length,h.len δ ds e]; exact hn,fun p hp=>?_⟩;exact a1 _ (upd G1 p (.tup vs)) _ (Grow.new S1.sub hp) ⟨p,vs,rfl,B8,r1.mono (Same.upd (S1.sub.free hp))⟩
def lL (E:EK) (G H:Hp) (r:Res (List uV)) (Q:VK):Prop:=match r with
 | .ok ds=>∀ p xs G' H',Grow G H G' H'->H p=none->G' p=none->H' p=some (.lst xs)->RepL G' ds xs->Q (.ref p) H'
 | .exc c=>∀ G' H',Grow G H G' H'->E c H'
 | .no=>False
def tF (E:EK) (f:Dn->Res (List uV)):TE:=fun Z H Q=>∃ G δ,SR G H Z δ/\lL E G H (f δ) Q
abbrev DF (X:Cx) (E:EK) (e:Expr) (f:Dn->Res (List uV)):Prop:=PE X e (tF E f)
theorem Grow.share {G H G' H':Hp} {p:vG} {o:HO} (g:Grow G H G' H') (hp:H p=none) (hg:G' p=none) (hH:H' p=some o):Grow G H (upd G' p o) H' :=
 ⟨g.g.trans (Same.upd hg),g.h,fun b u e=>by
   by_cases hb:b=p
   . subst hb; rw [B8] at e; cases e; exact hH
   . rw [B7 hb] at e; exact g.gh _ _ e,fun b u e=>by
   by_cases hb:b=p
   . subst hb; exact .inr (.inl hp)
   . rw [B7 hb] at e; exact g.fr _ _ e⟩
theorem E9 (h:DF X E e fs):DE X E e (E4 fs):=by
 refine PE.imp h fun Z H Q hY35=>?_;obtain ⟨G,δ,S,aft⟩:=hY35;refine ⟨G,δ,S,?_⟩;unfold E4 at aft;cases e:fs δ with
 | ok ds =>
   rw [e] at aft; exact fun p xs G' H' g hp hg hH r=>aft _ _ H' (g.share hp hg hH) ⟨p,xs,rfl,.inl B8,r.mono (Same.upd hg)⟩
 | exc c=>rw [e] at aft; exact aft
 | no=>rw [e] at aft; exact aft
theorem N5 {n:Nat} (h:DA X E es n fs) (hn:n<=sizeLine:=by decide):DF X E (.List es pos) fs:=by
 refine PE.imp (Tb h.pa) fun Z H Q hY36=>?_;obtain ⟨G,δ,S,aft⟩:=hY36;refine ⟨G,δ,S,?_⟩;cases e:fs δ with
 | ok ds =>
   rw [e] at aft; refine fun vs G1 H1 g1 r1=>⟨by rw [<- r1.length,h.len δ ds e]; exact hn,fun p hp=>?_⟩;exact aft p vs G1 _ (g1.trans (Grow.own g1.gh hp)) (g1.h.free hp) (g1.gh.free hp) B8 r1
 | exc c=>rw [e] at aft; exact aft
 | no=>rw [e] at aft; exact aft
noncomputable def dIx:uV->uV->Option uV
 | .list ds,.int i=>atI ds i
 | .tuple ds,.int i=>atI ds i
 | .str x,.int i=>(atI x.cps.toList i).map fun c=>.str ⟨#[c]⟩
 | _,_=>none
theorem bV {G:Hp} {ds:List uV} {xs:List V} {i:Int} {d:uV} (r:RepL G ds xs) (e:atI ds i=some d):∃ x,atI xs i=some x/\Rep G d x:=by
 unfold atI at e ⊢;rw [<- r.length];cases q:ixN ds.length i with
 | none=>rw [q] at e; cases e
 | some j=>rw [q] at e; exact r.get e
theorem sQ:OpD (rIx K) dIx:=by
 intro G H x y a b d Q hG ra rb e q;cases b with
 | int i =>
   cases (show _=_ from rb);cases a with
   | list ds =>
     obtain ⟨p,xs,rfl,h1,l1⟩:=ra; obtain ⟨v,e1,r1⟩:=bV l1 e; exact .inl ⟨p,xs,i,v,rfl,rfl,.inl (Rd.mono hG h1),e1,q _ G H (Grow.refl hG) r1⟩
   | tuple ds =>
     obtain ⟨p,xs,rfl,h1,l1⟩:=ra; obtain ⟨v,e1,r1⟩:=bV l1 e; exact .inr (.inl ⟨p,xs,i,v,rfl,rfl,.inl (.inl (hG _ _ h1)),e1,q _ G H (Grow.refl hG) r1⟩)
   | str z =>
     obtain ⟨e0,o1,l1⟩:=ra; subst e0; obtain ⟨cc,e1,rfl⟩:=xG.mp e; refine .inr (.inr ⟨z,i,cc,rfl,rfl,l1,e1,q _ G H (Grow.refl hG) ⟨rfl,?_,?_⟩⟩)
     . obtain ⟨j,_,h2,_⟩:=Lr e1
       have hm:cc∈z.cps.toList:=yR h2; unfold wJ at *;rw [<- GG,k6] at o1; have:=o1 cc hm;simpa using this
     . show 1<=sizeLine; decide
   | _=>cases e
 | _=>cases a <;> cases e
theorem C7 (ha:DE X E a f) (hb:DE X E b g) (hs:cA b:=by exact fun _ _=>rfl):DE X E (.Subscript a b pos) (b2 f g dIx) :=
 PE.imp (pe_ix tQ ha hb hs) fun _ _ _ h=>gE sQ h
noncomputable def Bj (xs:List uV) (lo hi:Option Int):List uV:=(xs.drop (HT.sIx xs.length 0 lo)).take (HT.sIx xs.length xs.length hi - HT.sIx xs.length 0 lo)
noncomputable def fF (d:uV) (lo hi:Option Int):Option uV:=match d with
 | .list ds=>some (.list (Bj ds lo hi))
 | .tuple ds=>some (.tuple (Bj ds lo hi))
 | _=>none
theorem bO {G:Hp} {ds:List uV} {xs:List V} (r:RepL G ds xs) (lo hi:Option Int):RepL G (Bj ds lo hi) (fG xs lo hi):=by
 unfold Bj fG;rw [r.length];exact (r.drop _).take _
noncomputable def rSlD:V->Option Int->Option Int->Hp->VK->Prop:=fun x lo hi H Q=>∃ G a d,Same G H/\Rep G a x/\fF a lo hi=some d/\∀ v G' H',Grow G H G' H'->Rep G' d v->Q v H'
theorem Em {prog:vU} {w:wD} {A:xD} {E:uY->uZ->Prop} {s:uZ} {t sl:vG} {items:Array uY} {vl vu:uY} {lo hi:Option Int} {Q:uY->uZ->Prop} (ht:EN s.heap t items) (hs:s.heap.IsSliceOf sl vl vu .none) (pl:EU vl lo) (pu:EU vu hi)
   (hw:HT.sIx items.size 0 lo=0/\HT.sIx items.size items.size hi=items.size) (h:Q (.ref t) s):wpAny (vS prog w) A (BG (.ref t) (.ref sl)) Q E s:=by
 obtain ⟨os,hos,hcs,hds⟩:=id hs;have hTs:s.TypeIs (.ref sl) "slice" := ⟨os,hos,hcs⟩;unfold BG;try with_reducible refine wZ ?_
 first | refine uW (uX ?_) | skip
 refine uW (BE ht.typeIs (by decide) ?_);refine uW (xA (name:=yT "__getitem__") ht.typeIs xI
   (wV xI ht.typeIs FZ ?_ (GM _ _)))
 show wpAny _ _ (l8 (.ref t)>>=_) _ _ s;refine uW (tupleItemsOf_ ht ?_);refine uW (BD hTs ?_);rw [if_pos (by decide)];refine uW (HT.sliceApplied_gen hs pl pu ?_);show wpAny _ _ (if (((HT.sIx items.size 0 lo:Nat):Int)==0&&(1:Int)==1&&(HT.sIx items.size items.size hi - HT.sIx items.size 0 lo)==items.size)=true then _ else _) _ _ s;rw [if_pos (by rw [hw.1,hw.2]; simp)];unfold Builtin.Tuple.tupleIsExact;refine uW (uW (BD ht.typeIs (uX ?_)));rw [if_pos (by decide)];first
   | exact uW (yN (uX ⟨_,rfl,uX h⟩))
   | exact uW (yN (uW (uX (uX ⟨_,rfl,uX h⟩))))
theorem sl_D:SlR X rSlD:=by
 rintro pins s Z H x v vl vu lo hi sl Q I rx hs pl pu ⟨G,a,d,hG,ra,e,q⟩;cases a with
 | list ds =>
   cases e; obtain ⟨p,xs,rfl,h1,l1⟩:=ra; cases rx; obtain ⟨z,its,n,r,e1⟩:=V2 I hG h1; have hlen:=r.length; have hl:s.heap.IsList p its.toArray:=⟨_,e1,rfl,n,rfl⟩; refine ⟨"list",_,GT.lookup,hl.typeIs,?_⟩; refine wpAny_getItem_list_slice hl hs pl pu .none (by simp) ?_ (by rw [vO] <;> lia)
   rw [Et,<- hlen]; exact Ts (t':=s.toks) I hG ((r.drop (HT.sIx xs.length 0 lo)).take (HT.sIx xs.length xs.length hi - HT.sIx xs.length 0 lo)) (bO l1 lo hi) (vX (Du xs lo hi) z) q
 | tuple ds =>
   cases e; obtain ⟨p,xs,rfl,h1,l1⟩:=ra; cases rx; obtain ⟨z,its,r,ht⟩:=Fh I hG h1; have hlen:its.toArray.size=xs.length:=by rw [vO]; exact r.length.symm
   refine ⟨"tuple",_,xI.lookup,ht.typeIs,?_⟩;by_cases hw:HT.sIx xs.length 0 lo=0/\HT.sIx xs.length xs.length hi=xs.length
   . refine Em ht hs pl pu (by rw [hlen]; exact hw) ⟨.ref p,H,I,rfl,q _ G H (Grow.refl hG) ⟨p,xs,rfl,h1,?_⟩⟩
     have:Bj ds lo hi=ds:=by
       unfold Bj; rw [l1.length,hw.1,hw.2,CD,Nat.sub_zero,<- l1.length,List.take_length]
     rw [this]; exact l1
   . refine HT.getItem_tuple_cut ht hs pl pu (by rw [hlen]; exact hw) ?_ (by rw [hlen]; exact z)
     rw [hlen]; exact Tq (t':=s.toks) I hG ((r.drop (HT.sIx xs.length 0 lo)).take (HT.sIx xs.length xs.length hi - HT.sIx xs.length 0 lo)) (bO l1 lo hi) (vX (Du xs lo hi) z) q
 | _=>cases e
def AftO (E:EK) (G H:Hp) (r:Res (Option Int)) (Q:Option Int->Hp->Prop):Prop:=match r with
 | .ok ds=>∀ G' H',Grow G H G' H'->Q ds H'
 | .exc c=>∀ G' H',Grow G H G' H'->E c H'
 | .no=>False
def tO (E:EK) (f:Dn->Res (Option Int)):TO:=fun Z H Q=>∃ G δ,SR G H Z δ/\AftO E G H (f δ) Q
abbrev DO (X:Cx) (E:EK) (e:Option Expr) (f:Dn->Res (Option Int)):Prop:=PO X e (tO E f)
theorem PO.imp {X:Cx} {e:Option Expr} {t t':TO} (h:PO X e t) (i:∀ Z H Q,t' Z H Q->t Z H Q):PO X e t':=fun pins s Z H Q I q=>h pins s Z H Q I (i _ _ _ q)
noncomputable def Bq:Dn->Res (Option Int):=fun _=>.ok none
noncomputable def X5 (f:Dn->Res uV):Dn->Res (Option Int):=fun δ=>(f δ).bind fun d=>match d with
 | .int i=>.ok (some i)
 | _=>.no
theorem AftO.grow {E:EK} {G H G' H':Hp} {r:Res (Option Int)} {Q:Option Int->Hp->Prop} (g:Grow G H G' H') (a:AftO E G H r Q):AftO E G' H' r Q:=by
 cases r with
 | ok d=>exact fun G2 H2 g2=>a G2 H2 (g.trans g2)
 | exc c=>exact fun G2 H2 g2=>a G2 H2 (g.trans g2)
 | no=>exact a
theorem Nv:DO X E none Bq:=PO.imp nC fun Z H Q hZ3=>by obtain ⟨G,δ,S,a⟩:=hZ3; exact a G H (Grow.refl S.sub)
theorem Fj (h:DE X E e f):DO X E (some e) (X5 f):=by
 refine PO.imp (nB h) fun Z H Q hZ3=>?_;obtain ⟨G,δ,S,aft⟩:=hZ3;refine Ls (W:=fun G H r=>AftO E G H r Q) S aft (fun g a=>AftO.grow g a) (fun c a=>a) (fun a=>a) fun d v G1 H1 g1 r1 S1 a1=>?_;cases d with
 | int i=>exact ⟨i,r1,a1 G1 H1 (Grow.refl S1.sub)⟩
 | _=>exact (show False from a1).elim
theorem Hw {α:Type} {E:EK} {G H:Hp} {Z:St} {δ:Dn} {fs:Dn->Res (Option Int)} {k:Option Int->Res α} {R:Option Int->Hp->Prop} {W:Hp->Hp->Res α->Prop} (S:SR G H Z δ) (a:W G H ((fs δ).bind k)) (hg:∀ {G H G' H':Hp} {r:Res α},Grow G H G' H'->W G H r->W G' H' r)
   (hx:∀ c,W G H (.exc c)->∀ G' H',Grow G H G' H'->E c H') (hn:W G H .no->False)
   (h:∀ ds G1 H1,Grow G H G1 H1->SR G1 H1 Z δ->W G1 H1 (k ds)->R ds H1):tO E fs Z H R:=by
 refine ⟨G,δ,S,?_⟩;cases e:fs δ with
 | ok d=>rw [e] at a; exact fun G' H' g=>h d G' H' g (S.grow g) (hg g a)
 | exc c=>rw [e] at a; exact hx c a
 | no=>rw [e] at a; exact hn a
noncomputable def vSl (f:Dn->Res uV) (lo hi:Dn->Res (Option Int)):Dn->Res uV:=fun δ=>(f δ).bind fun x=>(lo δ).bind fun l=>(hi δ).bind fun u=>ofO (fF x l u)
variable {lo hi:Option Expr} {fl fh:Dn->Res (Option Int)} {p2:Pos}
theorem Hs (he:DE X E e f) (hl:DO X E lo fl) (hu:DO X E hi fh):DE X E (.Subscript e (.Slice lo hi none p2) pos) (vSl f fl fh):=by
 refine PE.imp (Vo sl_D he hl hu) fun Z H Q hZ3=>?_;obtain ⟨G,δ,S,aft⟩:=hZ3;refine K2 S aft fun d v G1 H1 g1 r1 S1 a1=>?_;refine Hw (W:=fun G H r=>Aft E G H r Q) S1 a1 (fun g a=>Aft.grow g a) (fun c a=>a) (fun a=>a) fun l G2 H2 g2 S2 a2=>?_;refine Hw (W:=fun G H r=>Aft E G H r Q) S2 a2 (fun g a=>Aft.grow g a) (fun c a=>a) (fun a=>a) fun u G3 H3 g3 S3 a3=>?_;cases e:fF d l u with
 | none=>rw [e] at a3; exact a3.elim
 | some z=>rw [e] at a3; exact ⟨G3,d,z,S3.sub,r1.mono (g2.g.trans g3.g),e,a3⟩
end
end Sm
end
noncomputable section
namespace Sm
open PySem PySem.Spec PyProof.Rows L2
noncomputable section
variable {P:vU} {w:wD} {K:vB} {mg:Str->Option uY} {base:wT} {X:Cx} {N:List Str} {sc:Scope} {k:Nat} {df:Bool} {E:EK} {pos p:Pos} {a b c e:Expr} {es:List Expr} {f g:Dn->Res uV} {fs:Dn->Res (List uV)}
noncomputable def rCD (op:List uV->Option uV):List V->Hp->VK->Prop:=fun vs H Q=>∃ G ds d,Same G H/\RepL G ds vs/\op ds=some d/\∀ v G' H',Grow G H G' H'->Rep G' d v->Q v H'
noncomputable def vFn (fs:Dn->Res (List uV)) (op:List uV->Option uV):Dn->Res uV:=fun δ=>(fs δ).bind fun ds=>ofO (op ds)
theorem qG {op:List uV->Option uV} {Z:St} {H:Hp} {Q:VK} (h:tD E (vFn fs op) Z H Q):tCB (rCD op) (tA E fs) Z H Q:=by
 obtain ⟨G,δ,S,aft⟩:=h;refine T5 (W:=fun G H r=>Aft E G H r Q) S aft (fun g a=>Aft.grow g a) (fun c a=>a) (fun a=>a) fun ds vs G1 H1 e g1 r1 S1 a1=>?_;cases e:op ds with
 | none=>rw [e] at a1; exact a1.elim
 | some d=>rw [e] at a1; exact ⟨G1,ds,d,S1.sub,r1,e,a1⟩
theorem Ww {x:Str} {id:String} {n:Nat} {op:List uV->Option uV} (C:Cxt P w K mg base X N sc k df) (hc:U0 X (.builtin id) (rCD op)) (h:okGl sc x=true) (hm:mg x=none) (hv:p0 x=some (.builtin id)) (ha:DA X E (e::es) n fs)
   (he:vI (e::es) X.env=(false,eval e X.env)::vI es X.env:=by rfl) (hpl:(yL pos (vI es X.env)).any (·.1)=false:=by rfl):DE X E (.Call (.Name x p) (e::es) [] pos) (vFn fs op):=by
 obtain ⟨h1,h2,h3⟩:=okGl.gl C h;exact PE.imp (Dj hc h1 (by rw [C.hmg]; exact hm) hv ha.pa h3 h2 he hpl) fun _ _ _ q=>qG q
theorem Oj {x:Str} {T:String} {n:Nat} {op:List uV->Option uV} (C:Cxt P w K mg base X N sc k df) (hc:U0 X (.type T) (rCD op)) (h:okGl sc x=true) (hm:mg x=none) (hv:p0 x=some (.type T)) (ha:DA X E (e::es) n fs)
   (he:vI (e::es) X.env=(false,eval e X.env)::vI es X.env:=by rfl) (hpl:(yL pos (vI es X.env)).any (·.1)=false:=by rfl):DE X E (.Call (.Name x p) (e::es) [] pos) (vFn fs op):=by
 obtain ⟨h1,h2,h3⟩:=okGl.gl C h;exact PE.imp (Iz hc h1 (by rw [C.hmg]; exact hm) hv ha.pa h3 h2 he hpl) fun _ _ _ q=>qG q
theorem Iu {G:Hp} {d:uV} {vs:List V} (r:RepL G [d] vs):∃ v,vs=[v]/\Rep G d v:=by
 obtain ⟨x,t,rfl,h,l⟩:=r; cases (show _=_ from l); exact ⟨x,rfl,h⟩
theorem rep2 {G:Hp} {d d':uV} {vs:List V} (r:RepL G [d,d'] vs):∃ v v',vs=[v,v']/\Rep G d v/\Rep G d' v':=by
 obtain ⟨x,t,rfl,h,l⟩:=r;obtain ⟨y,rfl,h'⟩:=Iu l;exact ⟨x,y,rfl,h,h'⟩
noncomputable def M4:List uV->Option uV
 | [.list ds]=>some (.int ds.length)
 | [.tuple ds]=>some (.int ds.length)
 | [.str x]=>some (.int x.length)
 | _=>none
theorem Zq:U0 X (.builtin "len") (rCD M4):=by
 rintro pins s Z H xs us Q I r ⟨G,ds,d,hG,rl,e,q⟩;unfold M4 at e;split at e
 . rename_i ys
   cases e; obtain ⟨v,rfl,a,vs,rfl,h1,l1⟩:=Iu rl; exact Om pins s Z H _ us Q I r ⟨_,ys.length,rfl,.inl ⟨vs,.inl (Rd.mono hG h1),l1.length⟩,q _ G H (Grow.refl hG) rfl⟩
 . rename_i ys
   cases e; obtain ⟨v,rfl,a,vs,rfl,h1,l1⟩:=Iu rl; exact Om pins s Z H _ us Q I r ⟨_,ys.length,rfl,.inr ⟨vs,.inl (.inl (hG _ _ h1)),l1.length⟩,q _ G H (Grow.refl hG) rfl⟩
 . rename_i x
   cases e; obtain ⟨v,rfl,r1⟩:=Iu rl;cases r1.1;exact Om pins s Z H _ us Q I r ⟨_,x.length,rfl,⟨r1.2.2,rfl⟩,q _ G H (Grow.refl hG) rfl⟩
 . cases e
theorem T9 {n:Nat} (C:Cxt P w K mg base X N sc k df) (h:okGl sc "len" = true) (hm:mg "len" = none) (ha:DA X E (e::es) n fs)
   (he:vI (e::es) X.env=(false,eval e X.env)::vI es X.env:=by rfl) (hpl:(yL pos (vI es X.env)).any (·.1)=false:=by rfl):DE X E (.Call (.Name "len" p) (e::es) [] pos) (vFn fs M4) :=
 Ww C Zq h hm PySem.boot_len ha he hpl
noncomputable def bS:List uV->Option (List Bool)
 | []=>some []
 | .bool b::ds=>(bS ds).map (b::·)
 | _::_=>none
noncomputable def dAll:List uV->Option uV
 | [.list ds]=>(bS ds).map fun bs=>.bool (bs.all id)
 | _=>none
theorem oD {s:uZ} {h':wT} {o:Obj} (hk:∀ b x,b∉[s.heap.objs.size]->(s.heap.push o).get? b=some x->h'.get? b=some x):∀ b x,s.heap.get? b=some x->h'.get? b=some x :=
 fun b x e=>hk b x (fun hm=>by rw [vQ.mp hm] at e; exact zU _ (vR e)) (vD _ e)
noncomputable def Jl:List uV->Option uV
 | [.list ds]=>some (.list ds)
 | [.tuple ds]=>some (.list ds)
 | _=>none
noncomputable def Bu:List uV->Option uV
 | [.list ds]=>some (.tuple ds)
 | [.tuple ds]=>some (.tuple ds)
 | _=>none
noncomputable def Rj:List uV->Option uV
 | [.int i]=>some (.int i)
 | [.bool b]=>some (.int (if b then 1 else 0))
 | _=>none
theorem Xc:U0 X (.type "list") (rCD Jl):=by
 rintro pins s Z H xs us Q I r ⟨G,ds,d,hG,rl,e,q⟩;unfold Jl at e;split at e
 . rename_i ys
   cases e; obtain ⟨v,rfl,a,vs,rfl,h1,l1⟩:=Iu rl; exact Ht pins s Z H _ us Q I r ⟨a,vs,rfl,.inl (.inl (Rd.mono hG h1)),fun l hl=>q _ (upd G l (.lst vs)) _ (Grow.new hG hl) ⟨l,vs,rfl,.inl B8,l1.mono (Same.upd (hG.free hl))⟩⟩
 . rename_i ys
   cases e; obtain ⟨v,rfl,a,vs,rfl,h1,l1⟩:=Iu rl; exact Ht pins s Z H _ us Q I r ⟨a,vs,rfl,.inr (.inl (.inl (hG _ _ h1))),fun l hl=>q _ (upd G l (.lst vs)) _ (Grow.new hG hl) ⟨l,vs,rfl,.inl B8,l1.mono (Same.upd (hG.free hl))⟩⟩
 . cases e
theorem Zn:U0 X (.type "tuple") (rCD Bu):=by
 rintro pins s Z H xs us Q I r ⟨G,ds,d,hG,rl,e,q⟩;unfold Bu at e;split at e
 . rename_i ys
   cases e; obtain ⟨v,rfl,a,vs,rfl,h1,l1⟩:=Iu rl; exact Fb pins s Z H _ us Q I r ⟨a,vs,rfl,.inl ⟨.inl (Rd.mono hG h1),fun l hl=>q _ (upd G l (.tup vs)) _ (Grow.new hG hl) ⟨l,vs,rfl,B8,l1.mono (Same.upd (hG.free hl))⟩⟩⟩
 . rename_i ys
   cases e; obtain ⟨v,rfl,a,vs,rfl,h1,l1⟩:=Iu rl; exact Fb pins s Z H _ us Q I r ⟨a,vs,rfl,.inr ⟨.inl (.inl (hG _ _ h1)),q _ G H (Grow.refl hG) ⟨a,vs,rfl,h1,l1⟩⟩⟩
 . cases e
theorem Zr:U0 X (.type "int") (rCD Rj):=by
 rintro pins s Z H xs us Q I r ⟨G,ds,d,hG,rl,e,q⟩;unfold Rj at e;split at e
 . rename_i i
   cases e; obtain ⟨v,rfl,e1⟩:=Iu rl;cases (show _=_ from e1);exact Rm pins s Z H _ us Q I r (.inl ⟨i,rfl,q _ G H (Grow.refl hG) rfl⟩)
 . rename_i b
   cases e; obtain ⟨v,rfl,e1⟩:=Iu rl;cases (show _=_ from e1);refine Rm pins s Z H _ us Q I r (.inr ⟨b,rfl,?_⟩); have:=q (.int (if b then 1 else 0)) G H (Grow.refl hG) rfl;cases b <;> exact this
 . cases e
theorem pC {n:Nat} (C:Cxt P w K mg base X N sc k df) (h:okGl sc "list" = true) (hm:mg "list" = none) (ha:DA X E (e::es) n fs)
   (he:vI (e::es) X.env=(false,eval e X.env)::vI es X.env:=by rfl) (hpl:(yL pos (vI es X.env)).any (·.1)=false:=by rfl):DE X E (.Call (.Name "list" p) (e::es) [] pos) (vFn fs Jl) :=
 Oj C Xc h hm (by decide +kernel) ha he hpl
theorem Tt {n:Nat} (C:Cxt P w K mg base X N sc k df) (h:okGl sc "tuple" = true) (hm:mg "tuple" = none) (ha:DA X E (e::es) n fs)
   (he:vI (e::es) X.env=(false,eval e X.env)::vI es X.env:=by rfl) (hpl:(yL pos (vI es X.env)).any (·.1)=false:=by rfl):DE X E (.Call (.Name "tuple" p) (e::es) [] pos) (vFn fs Bu) :=
 Oj C Zn h hm (by decide +kernel) ha he hpl
theorem uG {n:Nat} (C:Cxt P w K mg base X N sc k df) (h:okGl sc "int" = true) (hm:mg "int" = none) (ha:DA X E (e::es) n fs)
   (he:vI (e::es) X.env=(false,eval e X.env)::vI es X.env:=by rfl) (hpl:(yL pos (vI es X.env)).any (·.1)=false:=by rfl):DE X E (.Call (.Name "int" p) (e::es) [] pos) (vFn fs Rj) :=
 Oj C Zr h hm (by decide +kernel) ha he hpl
noncomputable def Cd:List uV->Option (List Str)
 | []=>some []
 | .str b::ds=>(Cd ds).map (b::·)
 | _::_=>none
noncomputable def Ri (x:Str):uV->Option uV
 | .list ds=>(Cd ds).bind fun ys=>if (ys.map (·.length)).sum+ys.length*x.length<=16777216/\wJ (k7 x ys)=true/\(k7 x ys).length<=sizeLine then some (.str (k7 x ys)) else none
 | _=>none
theorem Uv {G:Hp}:∀ {ds:List uV} {xs:List V} {us:List uY} {ys:List Str},RepL G ds xs->Vals xs us->Cd ds=some ys->DQ us ys
 | [],_,_,_,r,q,e=>by cases (show _=_ from r); cases q; cases e; exact .nil
 | .str b::ds,_,_,_,r,q,e=>by
   obtain ⟨x,t,rfl,h,l⟩:=r;cases h.1;cases q with
   | cons q qs =>
     obtain ⟨tk,rfl⟩:=q; obtain ⟨bs,e1,rfl⟩:=xG.mp e; exact .cons _ _ (Uv l qs e1)
 | .none::_,_,_,_,_,_,e=>by cases e
 | .int _::_,_,_,_,_,_,e=>by cases e
 | .bool _::_,_,_,_,_,_,e=>by cases e
 | .list _::_,_,_,_,_,_,e=>by cases e
 | .tuple _::_,_,_,_,_,_,e=>by cases e
 | .dict _::_,_,_,_,_,_,e=>by cases e
theorem nX:MtR X "str.join" (fun x vs H Q=>∃ G z v d r,Same G H/\x=.str z/\vs=[v]/\Rep G d v/\Ri z d=some (.str r)/\Q (.str r) H):=by
 rintro pins s Z H x vs v us Q I rx rv ⟨G,z,y,d,r,hG,e1,e2,rd,e,q⟩;subst e1 e2;obtain ⟨t,rfl⟩:=rx;obtain ⟨u,rfl,ru⟩:=rv.one;cases d with
 | list ds =>
   obtain ⟨ys,e3,e4⟩:=AF.mp e;split at e4
   . rename_i hc
     cases e4; obtain ⟨l,xs,rfl,h1,l1⟩:=rd; cases ru; obtain ⟨zz,its,n,rv2,e5⟩:=V2 I hG h1; refine join_list ⟨_,e5,rfl,n,rfl⟩ (by simpa using Uv l1 rv2 e3) hc.1 fun t' k=>⟨.str _,H,I.tok _,⟨t',?_⟩,q⟩;rw [zY (join_plain_closes z ys)]
   . cases e4
 | _=>cases e
noncomputable def Jv (x:Str) (f:Dn->Res uV):Dn->Res uV:=fun δ=>(f δ).bind fun d=>ofO (Ri x d)
theorem fE {z:Str} {d d':uV} (e:Ri z d=some d'):∃ r,d'=.str r/\wJ r=true/\r.length<=sizeLine:=by
 cases d with
 | list ds =>
   obtain ⟨ys,e3,e4⟩:=AF.mp e;split at e4
   . rename_i hc; cases e4; exact ⟨_,rfl,hc.2.1,hc.2.2⟩
   . cases e4
 | _=>cases e
theorem Zl {z:Str} {j:Nat} {p1 apos cpos:Pos} (ha:DE X E a f) (hbase:i7 (.Constant (.str z) j p1) "join" X.env (eval (.Constant (.str z) j p1) X.env)=eval (.Constant (.str z) j p1) X.env:=by rfl)
   (hfew:((yL cpos (vI [a] X.env)).all (fun x => !x.1)&&(EI cpos (AX [] X.env)).all (fun x=>x.1.isSome)
     && decide ([a].length+([]:List x8).length+(if ([]:List x8).isEmpty then 0 else 1) < 30))=true:=by rfl)
   (hline:(apos.endLine==cpos.line)=true:=by rfl) (hs:vI [a] X.env=(false,eval a X.env)::vI [] X.env:=by rfl) (hplain:(yL cpos (vI [] X.env)).any (·.1)=false:=by rfl) :
   DE X E (.Call (.Attribute (.Constant (.str z) j p1) "join" apos) [a] [] cpos) (Jv z f):=by
 refine PE.imp (Qo PySem.F.plainAttrs_str PySem.F.slot_str_join PySem.F.type_str_join nX iK (F6 ha O2 hs) hbase hfew hline hs hplain) fun Z H Q hY54=>?_;obtain ⟨G,δ,S,aft⟩:=hY54;refine ⟨rfl,?_⟩;refine K2 S aft fun d v G1 H1 g1 r1 S1 a1=>?_;cases e:Ri z d with
 | none=>rw [e] at a1; exact a1.elim
 | some d' =>
   obtain ⟨r,rfl,o1,o2⟩:=fE e; rw [e] at a1; exact ⟨G1,z,v,d,r,S1.sub,rfl,rfl,r1,e,a1 _ G1 H1 (Grow.refl S1.sub) ⟨rfl,o1,o2⟩⟩
def spD (n:Nat) (m:List uV->Res uV):Sp:=fun vs H Q _=>∃ G ds d,Same G H/\RepL G ds vs/\ds.length=n/\m ds=.ok d/\∀ v G' H',Grow G H G' H'->Rep G' d v->Q v H'
structure Fn (P:vU) (w:wD) (K:vB) (mg:Str->Option uY) (base:wT) (x:Str) (k n:Nat) (m:List uV->Res uV):Prop where
 ex:∃ f fd ps,ps.length=n/\FnOk P w K mg base CX0 k f fd ps (spD n m)/\mg x=some (.ref f)/\xU K (.ref f)=true/\Binds K fd ps []
def E0k:EK:=fun _ _=>False
noncomputable def C0 (fs:Dn->Res (List uV)) (m:List uV->Res uV):Dn->Res uV:=fun δ=>(fs δ).bind m
theorem C5 {x:Str} {j n:Nat} {m:List uV->Res uV} (C:Cxt P w K mg base X N sc k df) (F:Fn P w K mg base x j n m) (hj:j<=k) (h:okGl sc x=true) (ha:DA X E0k (e::es) n fs)
   (he:vI (e::es) X.env=(false,eval e X.env)::vI es X.env:=by rfl) (hpl:(yL pos (vI es X.env)).any (·.1)=false:=by rfl):DE X E0k (.Call (.Name x p) (e::es) [] pos) (C0 fs m):=by
 obtain ⟨f,fd,ps,hps,F,hm,hk,hb⟩:=F.ex;obtain ⟨h1,h2,h3⟩:=okGl.gl C h;have F':FnOk X.prog X.w X.K X.mg X.base CX0 j f fd ps (spD n m):=by rw [C.hP,C.hw,C.hK,C.hmg,C.hb]; exact F
 refine PE.imp (Ll F' (C.room.mono hj) h1 (by rw [C.hmg]; exact hm) (by rw [C.hK]; exact hk) (by rw [C.hK]; exact hb) .nil (aS (X:=X)) ha.pa h2 he hpl) fun Z H Q hY55=>?_;obtain ⟨G,δ,S,aft⟩:=hY55;refine T5 (W:=fun G H r=>Aft E0k G H r Q) S aft (fun g a=>Aft.grow g a) (fun c a=>a) (fun a=>a) fun ds vs G1 H1 e g1 r1 S1 a1=>?_;rw [wQ];cases q:m ds with
 | ok d=>rw [q] at a1; exact ⟨G1,ds,d,S1.sub,r1,ha.len δ ds e,q,a1⟩
 | exc c=>rw [q] at a1; exact (a1 G1 H1 (Grow.refl S1.sub)).elim
 | no=>rw [q] at a1; exact a1.elim
end
end Sm
end
noncomputable section
namespace Sm
open PySem PySem.Spec PyProof.Rows L2
def Its (z:Str):It:=⟨fun i _=>i < z.cps.size,fun i H x H'=>H'=H/\∃ c,z.cps[i]? = some c/\x=.str ⟨#[c]⟩,fun i _=>z.cps.size<=i⟩
theorem Xx {P:vU} {w:wD} {K:vB} {tg:Expr} (it:vG) (z:Str) (t:Tok):Turn P w K tg (Its z) [it] it (fun i h=>h.IsStrIter it "str_ascii_iterator" z t i) where
 mem:=by simp
 obj:=fun i h st b hb=>by
   have e:b=it:=by simpa using hb
   subst e; obtain ⟨o,e,c,d⟩:=st; exact ⟨o,e,fun v z=>by rw [d] at z; cases z⟩
 keep:=fun i h h' st k=>by
   obtain ⟨o,e,c,d⟩:=st; exact ⟨o,k it (by simp) o e,c,d⟩
 item:=by
   intro X hP hw hK hc i pins s Z H E I hf st hg; subst hP hw hK; obtain ⟨f0,f1,f2,f3,f4,f5⟩:=hf it (by simp);have hi:i < z.cps.size:=hg; refine wpAny_pyNext_ascii_item st (c:=z.cps[i]) (by simp [hi]) fun h' st' sb=>?_;have I1:Inv X pins Z H { s with heap:=h',toks:=s.toks+1 }:=I.turned (fun b o hb e=>(sb.2 b hb).trans e) f0 f1 f3 f4 f5;obtain ⟨o,e,c,d⟩:=id st'; exact ⟨_,rfl,Re (s:={ s with heap:=h',toks:=s.toks+1 }) e c d (by decide) ⟨.str ⟨#[z.cps[i]]⟩,H,I1,⟨_,rfl⟩,⟨rfl,_,by simp [hi],rfl⟩,st',fun b hb=>(hf b hb).1⟩⟩
 done:=by
   intro X hP hw hK hc i pins s Z H E I hf st hg; subst hP hw hK; obtain ⟨f0,f1,f2,f3,f4,f5⟩:=hf it (by simp);have hi:z.cps.size<=i:=hg; exact wpAny_pyNext_ascii_end (I.ok.hd hc) st (by simpa using hi) fun h' eb=>⟨rfl,I.turned (t':=s.toks) (fun b o hb e=>eb b o hb e) f0 f1 f3 f4 f5⟩
 self:=fun _ _ _ _ _ st h=>wpAny_pyIter_striter_ascii st h
theorem cF {P:vU} {w:wD} {K:vB} {tg:Expr} (it:vG) (z:Str) (t:Tok):Turn P w K tg (Its z) [it] it (fun i h=>h.IsStrIter it "str_iterator" z t i) where
 mem:=by simp
 obj:=fun i h st b hb=>by
   have e:b=it:=by simpa using hb
   subst e; obtain ⟨o,e,c,d⟩:=st; exact ⟨o,e,fun v z=>by rw [d] at z; cases z⟩
 keep:=fun i h h' st k=>by
   obtain ⟨o,e,c,d⟩:=st; exact ⟨o,k it (by simp) o e,c,d⟩
 item:=by
   intro X hP hw hK hc i pins s Z H E I hf st hg; subst hP hw hK; obtain ⟨f0,f1,f2,f3,f4,f5⟩:=hf it (by simp);have hi:i < z.cps.size:=hg; refine wpAny_pyNext_wide_item st (c:=z.cps[i]) (by simp [hi]) fun h' st' sb=>?_;have I1:Inv X pins Z H { s with heap:=h',toks:=s.toks+1 }:=I.turned (fun b o hb e=>(sb.2 b hb).trans e) f0 f1 f3 f4 f5;obtain ⟨o,e,c,d⟩:=id st'; exact ⟨_,rfl,Re (s:={ s with heap:=h',toks:=s.toks+1 }) e c d (by decide) ⟨.str ⟨#[z.cps[i]]⟩,H,I1,⟨_,rfl⟩,⟨rfl,_,by simp [hi],rfl⟩,st',fun b hb=>(hf b hb).1⟩⟩
 done:=by
   intro X hP hw hK hc i pins s Z H E I hf st hg; subst hP hw hK; obtain ⟨f0,f1,f2,f3,f4,f5⟩:=hf it (by simp);have hi:z.cps.size<=i:=hg; exact wpAny_pyNext_wide_end (I.ok.hd hc) st (by simpa using hi) fun h' eb=>⟨rfl,I.turned (t':=s.toks) (fun b o hb e=>eb b o hb e) f0 f1 f3 f4 f5⟩
 self:=fun _ _ _ _ _ st h=>wpAny_pyIter_striter_wide st h
def Ite (K:vB) (a:vG):It :=
 ⟨fun i H=>∃ xs x,SqL K H a xs/\xs[i]? = some x,fun i H x H'=>∃ p y,H p=none/\x=.ref p/\H'=upd H p (.tup [.int i,y])/\∀ xs,SqL K H a xs->xs[i]? = some y,fun i H=>∃ xs,SqL K H a xs/\xs.length<=i⟩
theorem cH {P:vU} {w:wD} {K:vB} {elts:List Expr} {x1:Nat} {tp:Pos} (a e it:vG) (hne:e≠it):Turn P w K (.Tuple elts x1 tp) (Ite K a) [e,it] e (fun i h=>(∃ old,IsEnum h e it (i:Int) old)/\h.IsListIter it a i) where
 mem:=by simp
 obj:=fun i h st b hb=>by
   obtain ⟨⟨old,h1⟩,o,h2,c,d⟩:=st; rcases vF.mp hb with rfl | hb
   . exact ⟨_,h1,fun v z=>by cases z⟩
   . have e':b=it:=by simpa using hb
     subst e'; exact ⟨o,h2,fun v z=>by rw [d] at z; cases z⟩
 keep:=fun i h h' st k=>by
   obtain ⟨⟨old,h1⟩,o,h2,c,d⟩:=st; exact ⟨⟨old,k e (by simp) _ h1⟩,o,k it (by simp) o h2,c,d⟩
 item:=by
   intro X hP hw hK hc i pins s Z H E I hf st hg; subst hP hw hK; obtain ⟨⟨old,he⟩,st⟩:=st; obtain ⟨xs,x,hq,hx⟩:=hg; obtain ⟨its,rv,p,hz⟩:=I.list hq; obtain ⟨u,hu,ru⟩:=rv.get hx; obtain ⟨f0,f1,f2,f3,f4,f5⟩:=hf e (by simp);obtain ⟨g0,g1,g2,g3,g4,g5⟩:=hf it (by simp);refine wpAny_pyNext_enum_item he st p.isList (x:=u) (by simpa using hu) hne fun h' he' st' ht' hsz kp=>?_;refine ⟨_,rfl,wpAny_letOwnedTupleGo_enum he' fun h2 he2 sb=>?_⟩;have hfr:H s.heap.objs.size=none:=I.fresh; have elt:e < s.heap.objs.size:=vR he; have ilt:it < s.heap.objs.size:=by obtain ⟨o,h,_⟩:=st; exact vR h
   have kp2:∀ b o,b≠e->b≠it->s.heap.get? b=some o->h2.get? b=some o:=fun b o h1 h3 q=>(sb.2 b h1).trans (kp b o h1 h3 q);have I1:Inv X pins Z H { s with heap:=h2,toks:=s.toks+1 }:=by
     refine I.step (g':=s.gens) (d':=s.drawn) (ch:=[e,it]) (fun b hb=>?_) (fun b o _ _ hcb q _=>kp2 b o (fun z=>hcb (by simp [z])) (fun z=>hcb (by simp [z])) q) (fun b o _ _ hcb q _=>⟨o.slots,kp2 b o (fun z=>hcb (by simp [z])) (fun z=>hcb (by simp [z])) q⟩) (fun _ _ _ _ n=>n)
       (fun b o hcb q=>⟨o,kp2 b o (fun z=>hcb (by simp [z])) (fun z=>hcb (by simp [z])) q⟩) (fun _ _ q=>q) (fun _ _ _ q=>q) (fun b ps q=>⟨#[],by rw [q]; simp⟩) (fun m hm=>?_) (fun b u' q=>?_) I.bare
     . rcases vF.mp hb with rfl | hb
       . exact ⟨f3,f1,f4,f5⟩
       . have e':b=it:=by simpa using hb
         subst e'; exact ⟨g3,g1,g4,g5⟩
     . obtain ⟨o,es,ep,ho,r⟩:=hm
       exact ⟨o,es,ep,kp2 _ o (Ne.symm f1) (Ne.symm g1) ho,r⟩
     . refine (I.hok b u' q).stay (fun c v hcc q'=>kp2 c v ?_ ?_ q') (fun _ q'=>q') fun _ _ q'=>q'
       . rintro rfl
         rcases hcc with z | z
         . subst z; rw [f0] at q; cases q
         . rw [f0] at z; cases z
       . rintro rfl
         rcases hcc with z | z
         . subst z; rw [g0] at q; cases q
         . rw [g0] at z; cases z
   have htt:h2.get? s.heap.objs.size=some { cls:=.type "tuple",data:=.seq #[.int i s.toks,u] }:=(sb.2 _ (m8 elt)).trans ht'; have Hold:∀ b o,H b=some o->b≠s.heap.objs.size:=fun b o q z=>by subst z; rw [hfr] at q; cases q
   have I2:Inv X pins Z (upd H s.heap.objs.size (.tup [.int i,x])) { s with heap:=h2,toks:=s.toks+1 }:=by
     have nb:∀ b o,b≠s.heap.objs.size->s.heap.get? b=some o->True:=fun _ _ _ _=>trivial;have base':Un X.fs X.ex X.H₀ (upd H s.heap.objs.size (.tup [.int i,x])) X.s₀.heap h2:=by
       have B:=I1.base; have ne0:∀ b o,X.s₀.heap.get? b=some o->b≠s.heap.objs.size:=fun b o q=>wL (wG (vR q) I.sz);exact ⟨B.keep,B.slot,fun b o q n hx=>by rw [B7 (ne0 b o q)]; exact B.free b o q n hx,B.there,
         fun b ys q=>by rw [B7 (Hold b _ (B.tups b ys q))]; exact B.tups b ys q,fun b o' u' q=>by rw [B7 (Hold b _ (B.frzs b o' u' q))]; exact B.frzs b o' u' q,
         fun b ps q=>by obtain ⟨m,q'⟩:=B.tbls b ps q; exact ⟨m,by rw [B7 (Hold b _ q')]; exact q'⟩⟩
     have hok':HOk X.prog X.w (upd H s.heap.objs.size (.tup [.int i,x])) h2:=fun b o q=>by
       by_cases hb:b=s.heap.objs.size
       . subst hb
         rw [B8] at q; cases q; refine ⟨by show 2<=sizeLine; decide,[.int i s.toks,u],.cons ⟨_,rfl⟩ (.cons ru .nil),⟨_,htt,rfl,0,rfl⟩⟩
       . rw [B7 hb] at q
         exact (I1.hok b o q).stay (fun _ _ _ q'=>q') (fun c q'=>by rw [B7 (Hold c _ q')]; exact q') fun c ys q'=>by rw [B7 (Hold c _ q')]; exact q'
     refine ⟨I1.ok,I1.os,I1.bare,base',I1.loc,I1.cell,?_,fun y c q=>?_,fun p hp=>?_,hok',I1.len⟩
     . rw [B7 (wL I.lt)]; exact I1.free
     . obtain ⟨v,oc,hoc,_⟩:=I.cell y c q
       rw [B7 (wL (vR hoc))]; exact I1.freeC y c q
     . obtain ⟨q1,q2,q3,q4,q5⟩:=I1.pin p hp
       refine ⟨q1,?_,q3,q4,q5⟩; rw [B7 (wL (vR (I.pin p hp).1))]; exact q2
   refine ⟨.ref s.heap.objs.size,_,I2,rfl,⟨_,x,hfr,rfl,rfl,fun ys hy=>by rw [I.list_inj hy hq]; exact hx⟩,⟨⟨_,by push_cast; exact he2⟩,?_⟩,fun b hb=>?_⟩
   . obtain ⟨o,q,c,d⟩:=st'
     exact ⟨o,(sb.2 it (Ne.symm hne)).trans q,c,d⟩
   . rcases vF.mp hb with rfl | hb
     . rw [B7 (wL elt)]; exact f0
     . have e':b=it:=by simpa using hb
       subst e'; rw [B7 (wL ilt)]; exact g0
 done:=by
   intro X hP hw hK hc i pins s Z H E I hf st hg; subst hP hw hK; obtain ⟨⟨old,he⟩,st⟩:=st; obtain ⟨xs,hq,hx⟩:=hg; obtain ⟨its,rv,p,hz⟩:=I.list hq; obtain ⟨g0,g1,g2,g3,g4,g5⟩:=hf it (by simp);have hl:=rv.length; exact wpAny_pyNext_enum_end (I.ok.hd hc) he st p.isList (by simp; lia) fun h' eb=>⟨rfl,I.turned (t':=s.toks) (fun b o hb e=>eb b o hb e) g0 g1 g3 g4 g5⟩
 self:=fun _ _ _ _ _ st h=>by
   obtain ⟨⟨old,he⟩,_⟩:=st; exact wpAny_pyIter_enum he h
end Sm
end
noncomputable section
namespace Sm
open PySem PySem.Spec PyProof.Rows L2
structure Walk (J:It) (G:Hp) (ds:List uV):Prop where
 go:∀ (i:Nat) (H:Hp),i < ds.length->Same G H->J.go i H
 yld:∀ (i:Nat) (d:uV) (G2 H:Hp) (x:V) (H':Hp),ds[i]? = some d->Same G G2->Same G2 H->J.yld i H x H'->∃ G3,Grow G2 H G3 H'/\Rep G3 d x
 stop:∀ (i:Nat) (H:Hp),ds.length<=i->Same G H->J.stop i H
def AftI (E:EK) (G H:Hp) (r:Res (List uV)) (R:It->Hp->Prop):Prop:=match r with
 | .ok ds=>∀ J G' H',Grow G H G' H'->Walk J G' ds->R J H'
 | .exc c=>∀ G' H',Grow G H G' H'->E c H'
 | .no=>False
def tI (E:EK) (f:Dn->Res (List uV)):TI:=fun Z H R=>∃ G δ,SR G H Z δ/\AftI E G H (f δ) R
abbrev DI (X:Cx) (E:EK) (tg e:Expr) (f:Dn->Res (List uV)):Prop:=PI X tg e (tI E f)
theorem AftI.grow {E:EK} {G H G' H':Hp} {r:Res (List uV)} {Q:It->Hp->Prop} (g:Grow G H G' H') (a:AftI E G H r Q):AftI E G' H' r Q:=by
 cases r with
 | ok d=>exact fun v G2 H2 g2 q=>a v G2 H2 (g.trans g2) q
 | exc c=>exact fun G2 H2 g2=>a G2 H2 (g.trans g2)
 | no=>exact a
theorem PI.imp {X:Cx} {tg e:Expr} {t t':TI} (h:PI X tg e t) (i:∀ Z H Q,t' Z H Q->t Z H Q):PI X tg e t':=fun pins s Z H Q I q=>h pins s Z H Q I (i _ _ _ q)
noncomputable def So (x:Str):List uV:=x.cps.toList.map fun c=>.str ⟨#[c]⟩
noncomputable def D2:uV->Res (List uV)
 | .list ds=>.ok ds
 | .tuple ds=>.ok ds
 | .str x=>.ok (So x)
 | _=>.no
theorem cC {K:vB} {G:Hp} {a:vG} {xs:List V} {ds:List uV} (h:Rd G a (.lst xs)) (l:RepL G ds xs):Walk (Itl K a) G ds where
 go:=fun i H hi hG=>by
   have hi':i < xs.length:=by rw [<- l.length]; exact hi
   exact ⟨xs,xs[i],.inl (Rd.mono hG h),by simp [hi']⟩
 yld:=fun i d G2 H x H' e h1 h2 hy=>by
   obtain ⟨rfl,hy⟩:=hy; obtain ⟨y,e1,r⟩:=l.get e; have:=hy xs (.inl (Rd.mono (h1.trans h2) h)); rw [e1] at this; cases this; exact ⟨G2,Grow.refl h2,r.mono h1⟩
 stop:=fun i H hi hG=>⟨xs,.inl (Rd.mono hG h),by rw [<- l.length]; exact hi⟩
theorem fQ {K:vB} {G:Hp} {a:vG} {xs:List V} {ds:List uV} (h:G a=some (.tup xs)) (l:RepL G ds xs):Walk (Itt K a) G ds where
 go:=fun i H hi hG=>by
   have hi':i < xs.length:=by rw [<- l.length]; exact hi
   exact ⟨xs,xs[i],.inl (.inl (hG _ _ h)),by simp [hi']⟩
 yld:=fun i d G2 H x H' e h1 h2 hy=>by
   obtain ⟨rfl,hy⟩:=hy; obtain ⟨y,e1,r⟩:=l.get e; have:=hy xs (.inl (.inl (h2 _ _ (h1 _ _ h)))); rw [e1] at this; cases this; exact ⟨G2,Grow.refl h2,r.mono h1⟩
 stop:=fun i H hi hG=>⟨xs,.inl (.inl (hG _ _ h)),by rw [<- l.length]; exact hi⟩
theorem Ug {G:Hp} {z:Str} (ho:wJ z=true):Walk (Its z) G (So z) where
 go:=fun i H hi hG=>by
   show i < z.cps.size;simpa [So] using hi
 yld:=fun i d G2 H x H' e h1 h2 hy=>by
   obtain ⟨rfl,c,hc,rfl⟩:=hy; have e':(z.cps.toList.map fun c=>yE ⟨#[c]⟩)[i]? = some d:=e;rw [wE,i5,hc] at e';cases e'; refine ⟨G2,Grow.refl h2,rfl,?_,by show 1<=sizeLine; decide⟩;unfold wJ at ho ⊢;rw [<- GG,k6] at ho; have:=ho c (by rw [<- i5] at hc; exact yR hc);simpa using this
 stop:=fun i H hi hG=>by
   show z.cps.size<=i;simpa [So] using hi
theorem Xp {G:Hp} (lo:Int) (n:Nat):Walk (Itr lo n) G ((wS n).map fun (i:Nat)=>wN (lo+i)) where
 go:=fun i H hi hG=>by
   show i < n;simpa using hi
 yld:=fun i d G2 H x H' e h1 h2 hy=>by
   obtain ⟨rfl,rfl⟩:=hy; rw [wE] at e;by_cases hi:i < n
   . rw [List.getElem?_range hi] at e; cases e; exact ⟨G2,Grow.refl h2,rfl⟩
   . rw [yI (by simpa using hi)] at e; cases e
 stop:=fun i H hi hG=>by
   show n<=i;simpa using hi
noncomputable def Ez (ds:List uV):List uV:=ds.mapIdx fun i d=>.tuple [.int i,d]
theorem cD {K:vB} {G:Hp} {a:vG} {xs:List V} {ds:List uV} (h:Rd G a (.lst xs)) (l:RepL G ds xs):Walk (Ite K a) G (Ez ds) where
 go:=fun i H hi hG=>by
   have hi':i < xs.length:=by rw [<- l.length]; simpa [Ez] using hi
   exact ⟨xs,xs[i],.inl (Rd.mono hG h),by simp [hi']⟩
 yld:=fun i d G2 H x H' e h1 h2 hy=>by
   obtain ⟨p,y,hp,rfl,rfl,hy⟩:=hy; unfold Ez at e; rw [JS] at e; obtain ⟨d0,e0,rfl⟩:=xG.mp e; obtain ⟨y',e1,r⟩:=l.get e0; have:=hy xs (.inl (Rd.mono (h1.trans h2) h)); rw [e1] at this; cases this; refine ⟨upd G2 p (.tup [.int i,y]),Grow.new h2 hp,p,_,rfl,B8,RepL.cons rfl (RepL.cons (r.mono (h1.trans (Same.upd (h2.free hp)))) rfl)⟩
 stop:=fun i H hi hG=>⟨xs,.inl (Rd.mono hG h),by rw [<- l.length]; simpa [Ez] using hi⟩
noncomputable section
variable {P:vU} {w:wD} {K:vB} {mg:Str->Option uY} {base:wT} {X:Cx} {N:List Str} {sc:Scope} {k:Nat} {df:Bool} {E:EK} {pos p:Pos} {tg a b c e:Expr} {f g:Dn->Res uV} {fs src:Dn->Res (List uV)}
theorem G9 (ha:DE X E a f):DI X E tg a (fun δ=>(f δ).bind D2):=by
 rintro pins s Z H R I ⟨G,δ,S,aft⟩;have h:=Ls (R:=fun v H1=>∃ G1 d,Same G1 H1/\Rep G1 d v/\AftI E G1 H1 (D2 d) R) (W:=fun G H r=>AftI E G H r R) S aft (fun g a=>AftI.grow g a) (fun c a=>a) (fun a=>a) fun d v G1 H1 g1 r1 S1 a1=>⟨G1,d,S1.sub,r1,a1⟩;refine thn (ha pins s Z H _ I h) fun v s1 hZ2=>?_;obtain ⟨x,H1,I1,rx,G1,d,hG,rd,a1⟩:=hZ2;cases d with
 | list ds =>
   obtain ⟨p,xs,rfl,h1,l1⟩:=rd; cases rx; obtain ⟨zz,its,n,rv,e1⟩:=V2 I1 hG h1; refine DP ⟨_,e1,rfl,n,rfl⟩ ?_; refine ⟨s1.heap.objs.size,[s1.heap.objs.size],_,_,H1,rfl,I1.kept (t':=s1.toks) fun b o e=>vD _ e,cG p _,⟨_,vH _ rfl,rfl,rfl⟩,fun b hb=>?_,a1 _ G1 H1 (Grow.refl hG) (cC h1 l1)⟩;have e:b=s1.heap.objs.size:=by simpa using hb
   subst e; exact I1.fpOk (vL _) I1.fresh
 | tuple ds =>
   obtain ⟨p,xs,rfl,h1,l1⟩:=rd; cases rx; obtain ⟨zz,its,rv,pt⟩:=Fh I1 hG h1; refine wpAny_pyIter_tuple (show s1.heap.IsTuple p its.toArray from pt) ?_;refine ⟨s1.heap.objs.size,[s1.heap.objs.size],_,_,H1,rfl,I1.kept (t':=s1.toks) fun b o e=>vD _ e,Xv p _,⟨_,vH _ rfl,rfl,rfl⟩,fun b hb=>?_,a1 _ G1 H1 (Grow.refl hG) (fQ h1 l1)⟩;have e:b=s1.heap.objs.size:=by simpa using hb
   subst e; exact I1.fpOk (vL _) I1.fresh
 | str z =>
   obtain ⟨e0,o1,l1⟩:=rd; subst e0; obtain ⟨t,rfl⟩:=rx;cases ha:z.cps.all (· < 128)
   . refine wpAny_pyIter_wide ha ?_
     refine ⟨s1.heap.objs.size,[s1.heap.objs.size],_,_,H1,rfl,I1.kept (t':=s1.toks) fun b o e=>vD _ e,cF _ z t,⟨_,vH _ rfl,rfl,rfl⟩,fun b hb=>?_,a1 _ G1 H1 (Grow.refl hG) (Ug o1)⟩;have e:b=s1.heap.objs.size:=by simpa using hb
     subst e; exact I1.fpOk (vL _) I1.fresh
   . refine wpAny_pyIter_ascii ha ?_
     refine ⟨s1.heap.objs.size,[s1.heap.objs.size],_,_,H1,rfl,I1.kept (t':=s1.toks) fun b o e=>vD _ e,Xx _ z t,⟨_,vH _ rfl,rfl,rfl⟩,fun b hb=>?_,a1 _ G1 H1 (Grow.refl hG) (Ug o1)⟩;have e:b=s1.heap.objs.size:=by simpa using hb
     subst e; exact I1.fpOk (vL _) I1.fresh
 | _=>exact (show False from a1).elim
noncomputable def P0 (lo hi:Int):List uV:=(wS (hi - lo).toNat).map fun (i:Nat)=>wN (lo+i)
noncomputable def Bg:List uV->Res (List uV)
 | [.int j]=>if -(2 ^ 62)<=j/\j < 2 ^ 62 then .ok (P0 0 j) else .no
 | _=>.no
theorem W2 {n:Nat} (C:Cxt P w K mg base X N sc k df) (h:okGl sc "range" = true) (hm:mg "range" = none) (ha:DA X E [a] n fs) (hs:vI [a] X.env=[(false,eval a X.env)]:=by rfl) :
   DI X E tg (.Call (.Name "range" p) [a] [] pos) (fun δ=>(fs δ).bind Bg):=by
 refine PI.imp (dQ (okGl.gl C h).1 (by rw [C.hmg]; exact hm) ha.pa hs) fun Z H Q hY56=>?_;obtain ⟨G,δ,S,aft⟩:=hY56;refine T5 (W:=fun G H r=>AftI E G H r Q) S aft (fun g a=>AftI.grow g a) (fun c a=>a) (fun a=>a) fun ds vs G1 H1 e g1 r1 S1 a1=>?_;unfold Bg at a1;split at a1
 . rename_i j
   split at a1
   . rename_i hc
     obtain ⟨v,rfl,e1⟩:=Iu r1;cases (show _=_ from e1);refine ⟨j,rfl,hc.1,hc.2,a1 _ G1 H1 (Grow.refl S1.sub) ?_⟩; have:=Xp (G:=G1) 0 j.toNat; unfold P0; rw [JJ]; exact this
   . exact a1.elim
 . exact a1.elim
noncomputable def Od:List uV->Res (List uV)
 | [.list ds]=>.ok (Ez ds)
 | _=>.no
theorem tU {n x1:Nat} {elts:List Expr} {tp:Pos} (C:Cxt P w K mg base X N sc k df) (h:okGl sc "enumerate" = true) (hm:mg "enumerate" = none) (ha:DA X E [a] n fs) (he:vI [a] X.env=(false,eval a X.env)::vI [] X.env:=by rfl) (hpl:(yL pos (vI [] X.env)).any (·.1)=false:=by rfl) :
   DI X E (.Tuple elts x1 tp) (.Call (.Name "enumerate" p) [a] [] pos) (fun δ=>(fs δ).bind Od):=by
 rintro pins s Z H R I ⟨G,δ,S,aft⟩;obtain ⟨h1,h2,h3⟩:=okGl.gl C h;have hh:=T5 (R:=fun vs H1=>∃ G1 ds,Same G1 H1/\RepL G1 ds vs/\AftI E G1 H1 (Od ds) R) (W:=fun G H r=>AftI E G H r R) S aft (fun g a=>AftI.grow g a) (fun c a=>a) (fun a=>a) fun ds vs G1 H1 e g1 r1 S1 a1=>⟨G1,ds,S1.sub,r1,a1⟩;refine n6 (Jf I h1 (by rw [C.hmg]; exact hm) boot_enumerate ?_ h3 h2);refine k9 (thn (ha.pa pos pins s Z H _ I hh) fun us s1 hY58=>?_) he hpl;obtain ⟨vs,H1,I1,rv,G1,ds,hG,rl,a1⟩:=hY58;unfold Od at a1;split at a1
 . rename_i ys
   obtain ⟨v,rfl,l,xs,rfl,q1,l1⟩:=Iu rl; obtain ⟨u,rfl,ru⟩:=Lx rv; cases ru; obtain ⟨zz,its,nn,rw',e1⟩:=V2 I1 hG q1; refine call_enumerate_list ⟨_,e1,rfl,nn,rfl⟩ fun h' he' hit hsz kp=>?_;have I2:Inv X pins Z H1 { s1 with heap:=h' }:=I1.kept (t':=s1.toks) kp; refine wpAny_pyIter_enum he' ?_; refine ⟨s1.heap.objs.size+1,[s1.heap.objs.size+1,s1.heap.objs.size],_,_,H1,rfl,I2,cH l _ _ (m8 (BK _)),⟨⟨_,he'⟩,hit⟩,fun b hb=>?_,a1 _ G1 H1 (Grow.refl hG) (cD q1 l1)⟩;rcases vF.mp hb with rfl | hb
   . exact I1.fpOk (AK _) (I1.hok.fresh (AK _))
   . have e:b=s1.heap.objs.size:=by simpa using hb
     subst e; exact I1.fpOk (vL _) I1.fresh
 . exact a1.elim
noncomputable def C8 (d:uV):Res (List Sl):=.ok [.sh d]
noncomputable def Kh:uV->Res (List Sl)
 | .tuple [a,b]=>.ok [.sh a,.sh b]
 | _=>.no
noncomputable def C9 (bnd:uV->Res (List Sl)) (δc:Dn) (tt:Dn->Res Bool) (el:Dn->Res uV):List uV->Res (List uV)
 | []=>.ok []
 | d::ds=>match bnd d with
   | .ok sl=>match tt (sl++δc) with
     | .ok true=>match el (sl++δc) with
       | .ok y=>match C9 bnd δc tt el ds with
         | .ok r=>.ok (y::r)
         | _=>.no
       | _=>.no
     | .ok false=>C9 bnd δc tt el ds
     | _=>.no
   | _=>.no
noncomputable def Bl (δ:Dn) (cap:List Nat):Dn:=cap.map fun j=>δ[j]?.getD .un
noncomputable def D7 (src:Dn->Res (List uV)) (bnd:uV->Res (List Sl)) (cap:List Nat) (tt:Dn->Res Bool) (el:Dn->Res uV):Dn->Res (List uV):=fun δ=>(src δ).bind fun ds=>if ds.length<=sizeLine then C9 bnd (Bl δ cap) tt el ds else .no
def GOk (g:TG) (m:Nat) (bnd:uV->Res (List Sl)):Prop:=∀ (G H:Hp) (d:uV) (x:V) (sl:List Sl) (τ:St) (Q:St->Hp->Prop),Same G H->Rep G d x->bnd d=.ok sl->(∀ vs:List V,vs.length=m->sl.length=m->(∀ (i:Nat) s,sl[i]? = some s->SlOk G H (vs[i]?) s/\∃ d,s=.sh d)->Q (vs.map some++τ) H)->g x (vW m none++τ) H Q
theorem tW:GOk (Ar 0) 1 C8:=by
 intro G H d x sl τ Q hG r e h;cases e;exact h [x] rfl rfl fun i s hs=>by
   cases i with
   | zero=>cases hs; exact ⟨⟨x,rfl,r⟩,d,rfl⟩
   | succ i=>simp at hs
theorem gok2:GOk (tX K 2 (Wm (Ar 0) (Wm (Ar 1) tY))) 2 Kh:=by
 intro G H d x sl τ Q hG r e h;cases d with
 | tuple ds =>
   match ds,e with
   | [a,b],e =>
     cases e; obtain ⟨p,xs,rfl,h1,l1⟩:=r; obtain ⟨v,v',rfl,r1,r2⟩:=rep2 l1; refine ⟨p,_,rfl,.inl (.inl (hG _ _ h1)),rfl,v,[v'],rfl,v',[],rfl,rfl,?_⟩; exact h [v,v'] rfl rfl fun i s hs=>by
       match i with
       | 0=>cases hs; exact ⟨⟨v,rfl,r1⟩,a,rfl⟩
       | 1=>cases hs; exact ⟨⟨v',rfl,r2⟩,b,rfl⟩
       | i+2=>simp at hs
 | _=>cases e
theorem SR.cap {G H:Hp} {Z:St} {δ:Dn} (S:SR G H Z δ) (cap:List Nat) (hnd:cap.Nodup) {vs:List V} {sl:List Sl} (hv:vs.length=sl.length) (h:∀ (i:Nat) s,sl[i]? = some s->SlOk G H (vs[i]?) s/\∃ d,s=.sh d):SR G H (vs.map some++Dd Z cap) (sl++Bl δ cap):=by
 have hlt:∀ i,i < sl.length->(vs.map some++Dd Z cap)[i]? = (vs[i]?).map some:=fun i hi=>by
   rw [wY (by rw [vA,hv]; exact hi),wE]
 have hge:∀ i,¬ i < sl.length->(vs.map some++Dd Z cap)[i]? = (cap[i - sl.length]?).map fun j=>Z[j]?.join:=fun i hi=>by
   rw [xE (by rw [vA,hv]; lia)];unfold Dd; rw [wE,vA,hv]
 have hd:∀ i,¬ i < sl.length->(sl++Bl δ cap)[i]? = (cap[i - sl.length]?).map fun j=>δ[j]?.getD .un:=fun i hi=>by
   rw [xE (by lia)]; unfold Bl; rw [wE]
 refine ⟨S.sub,by simp [hv,Dd,Bl],fun i s e=>?_,fun i j a d d' ei ej hi hj=>?_⟩
 . by_cases hi:i < sl.length
   . rw [wY hi] at e
     rw [hlt i hi]; have:=(h i s e).1;cases q:vs[i]? with
     | none=>rw [q] at this; exact this
     | some v=>rw [q] at this; exact this
   . rw [hd i hi] at e
     rw [hge i hi];cases q:cap[i - sl.length]? with
     | none=>rw [q] at e; cases e
     | some j =>
       rw [q] at e; simp only [AB,IB] at e; subst e; show SlOk G H (some (Z[j]?.join)).join _;cases q2:δ[j]? with
       | none=>trivial
       | some s=>exact S.sl j s q2
 . have key : ∀ i d, (sl ++ Bl δ cap)[i]? = some (.ow d) -> ¬ i < sl.length /\ ∃ j, cap[i - sl.length]? = some j /\ δ[j]? = some (.ow d) := fun i d e => by
     have hi:¬ i < sl.length:=fun hi=>by
       rw [wY hi] at e; obtain ⟨_,d',z⟩:=h i _ e; cases z
     refine ⟨hi,?_⟩; rw [hd i hi] at e;cases q:cap[i - sl.length]? with
     | none=>rw [q] at e; cases e
     | some j =>
       rw [q] at e; simp only [AB,IB] at e; refine ⟨j,rfl,?_⟩;cases q2:δ[j]? with
       | none=>rw [q2] at e; cases e
       | some s=>rw [q2] at e; cases e; rfl
   obtain ⟨n1,j1,c1,o1⟩:=key i d ei; obtain ⟨n2,j2,c2,o2⟩:=key j d' ej; rw [hge i n1,c1] at hi; rw [hge j n2,c2] at hj; have hi':Z[j1]?.join=some (.ref a):=hi; have hj':Z[j2]?.join=some (.ref a):=hj; have:=S.ap j1 j2 a d d' o1 o2 hi' hj'; subst this; have:=(List.getElem?_inj (vY.mp c1).1 hnd).mp (c1.trans c2.symm);lia
theorem jM (xs:List Str):xs.map (fun _=>(none:Option V))=vW xs.length none:=by
 induction xs with
 | nil=>rfl
 | cons a t ih=>rw [vK,ih]; rfl
theorem Li {xs:List Str} {cap:List Nat} {g:TG} {m:Nat} {bnd:uV->Res (List Sl)} {tt:Dn->Res Bool} {el:Dn->Res uV} (hx:xs.length=m) (hnd:cap.Nodup) (hg:GOk g m bnd) {Z:St} {H:Hp} {Q:VK} (h:tF E (D7 src bnd cap tt el) Z H Q) :
   aD (tI E src) (fun Z=>xs.map (fun _=>none)++Dd Z cap) g (tT E0k tt) (tD E0k el) Z H Q:=by
 obtain ⟨G,δ,S,aft⟩:=h;refine ⟨G,δ,S,?_⟩;unfold D7 at aft;cases e:src δ with
 | exc c=>rw [e] at aft; exact aft
 | no=>rw [e] at aft; exact aft
 | ok ds =>
   rw [e] at aft; intro J G1 H1 g1 W D hD; have aft1:lL E G H (if ds.length<=sizeLine then C9 bnd (Bl δ cap) tt el ds else .no) Q:=aft;by_cases hz:ds.length<=sizeLine
   . rw [if_pos hz] at aft1
     have S1:=S.grow g1; have hmap:xs.map (fun _=>(none:Option V))=vW m none:=by rw [<- hx]; exact jM xs
     refine ⟨fun i n H'=>n=ds.length - i/\i<=ds.length/\∃ G' acc yd,Grow G1 H1 G' H'/\G' D=none/\H' D=some (.lst acc)/\RepL G' yd acc/\yd.length<=i /\
       lL E G H (match C9 bnd (Bl δ cap) tt el (ds.drop i) with | .ok r=>.ok (yd++r) | _=>.no) Q,⟨_,rfl,zL _,G1,[],[],Grow.own g1.gh hD,g1.gh.free hD,B8,rfl,vL _,?_⟩,?_⟩
     . rw [CD]
       cases q:C9 bnd (Bl δ cap) tt el ds with
       | ok r=>rw [q] at aft1; exact aft1
       | exc c =>
         exfalso;have:∀ l c,C9 bnd (Bl δ cap) tt el l≠.exc c:=by
           intro l c;induction l with
           | nil=>intro z; cases z
           | cons d l ih =>
             unfold C9; intro z;split at z
             . split at z
               . split at z
                 . split at z <;> cases z
                 . cases z
               . exact ih z
               . cases z
             . cases z
         exact this ds c q
       | no=>rw [q] at aft1; exact aft1
     . rintro i n H' ⟨rfl,hi,G',acc,yd,g2,nD,hDa,ry,hyl,aft2⟩
       by_cases hlt:i < ds.length
       . refine .inr ⟨W.go i H' hlt (g2.g.trans g2.gh), fun H'' => ∃ n', n' < ds.length - i /\ (n' = ds.length - (i + 1) /\ i + 1 <= ds.length /\ ∃ G' acc yd, Grow G1 H1 G' H'' /\ G' D = none /\ H'' D = some (.lst acc) /\ RepL G' yd acc /\ yd.length <= i + 1 /\
           lL E G H (match C9 bnd (Bl δ cap) tt el (ds.drop (i+1)) with | .ok r=>.ok (yd++r) | _=>.no) Q),fun H'' q=>?_,fun x H'' hy=>?_⟩
         . obtain ⟨n',h1,h2⟩:=q
           exact ⟨n',h1,h2⟩
         . have hd:ds[i]? = some ds[i]:=wC hlt
           have hdrop:ds.drop i=ds[i]::ds.drop (i+1):=zO hlt; obtain ⟨G3,g3,r3⟩:=W.yld i _ G' H' x H'' hd g2.g g2.gh hy; have g13:=g2.trans g3; have nD3:G3 D=none:=by
             cases q:G3 D with
             | none=>rfl
             | some u => rcases g3.fr D u q with z | z | ⟨xs, rfl⟩
                         . rw [nD] at z; cases z
                         . rw [hDa] at z; cases z
                         . have:=g3.gh _ _ q; rw [g3.h _ _ hDa] at this; cases this
           rw [hdrop] at aft2; unfold C9 at aft2; rw [hmap];cases eb:bnd ds[i] with
           | exc c=>rw [eb] at aft2; exact aft2.elim
           | no=>rw [eb] at aft2; exact aft2.elim
           | ok sl =>
             rw [eb] at aft2; refine hg G3 H'' _ x sl _ _ g3.gh r3 eb fun vs hv hs hsl=>⟨⟨by rw [wB,wB,n5,vA,hv],fun j v z=>?_⟩,?_⟩
             . by_cases hj:j < m
               . rw [wY (by rw [n5]; exact hj),zB] at z
                 split at z <;> cases z
               . rw [xE (by rw [n5]; exact yX.mp hj),n5] at z
                 rw [xE (by rw [vA,hv]; exact yX.mp hj),vA,hv];exact z
             . have Sb:SR G3 H'' (vs.map some++Dd Z cap) (sl++Bl δ cap):=(S1.grow g13).cap cap hnd (hv.trans hs.symm) hsl
               refine ⟨G3,_,Sb,?_⟩; simp only at aft2;cases et:tt (sl++Bl δ cap) with
               | exc c=>rw [et] at aft2; exact aft2.elim
               | no=>rw [et] at aft2; exact aft2.elim
               | ok kk =>
                 rw [et] at aft2; intro G4 H4 g4; have nD4:G4 D=none:=by
                   cases q:G4 D with
                   | none=>rfl
                   | some u => rcases g4.fr D u q with z | z | ⟨xs, rfl⟩
                               . rw [nD3] at z; cases z
                               . rw [g3.h _ _ hDa] at z; cases z
                               . have:=g4.gh _ _ q; rw [g4.h _ _ (g3.h _ _ hDa)] at this; cases this
                 have hD4:H4 D=some (.lst acc):=g4.h _ _ (g3.h _ _ hDa);cases kk with
                 | false =>
                   rw [if_neg (by decide)]; exact ⟨_,by lia,rfl,hlt,G4,acc,yd,g13.trans g4,nD4,hD4,ry.mono (g3.g.trans g4.g),by lia,aft2⟩
                 | true =>
                   rw [if_pos rfl]; refine ⟨G4,_,Sb.grow g4,?_⟩; simp only at aft2;cases ee:el (sl++Bl δ cap) with
                   | exc c=>rw [ee] at aft2; exact aft2.elim
                   | no=>rw [ee] at aft2; exact aft2.elim
                   | ok y =>
                     rw [ee] at aft2; intro v G5 H5 g5 r5; have nD5:G5 D=none:=by
                       cases q:G5 D with
                       | none=>rfl
                       | some u => rcases g5.fr D u q with z | z | ⟨xs, rfl⟩
                                   . rw [nD4] at z; cases z
                                   . rw [hD4] at z; cases z
                                   . have:=g5.gh _ _ q; rw [g5.h _ _ hD4] at this; cases this
                     have hD5:H5 D=some (.lst acc):=g5.h _ _ hD4; have hal:acc.length<=i:=by rw [<- ry.length]; exact hyl
                     refine ⟨acc,hD5,by lia,_,by lia,rfl,hlt,G5,acc++[v],yd++[y],?_,nD5,B8,?_,by rw [wB,JF]; lia,?_⟩
                     . have g15:=(g13.trans g4).trans g5
                       refine ⟨g15.g,fun b o q=>?_,fun b o q=>?_,g15.fr⟩
                       . rw [B7 (D4 q hD)]; exact g15.h _ _ q
                       . rw [B7 (D4 q nD5)]; exact g15.gh _ _ q
                     . exact (ry.mono (g3.g.trans (g4.g.trans g5.g))).append (RepL.cons r5 rfl)
                     . simp only at aft2
                       cases er:C9 bnd (Bl δ cap) tt el (ds.drop (i+1)) with
                       | ok r =>
                         rw [er] at aft2; simp only [wR,JE]; exact aft2
                       | exc c=>rw [er] at aft2; exact aft2
                       | no=>rw [er] at aft2; exact aft2
       . refine .inl ⟨W.stop i H' (yX.mp hlt) (g2.g.trans g2.gh),?_⟩
         have:ds.drop i=[]:=AU (yX.mp hlt); rw [this] at aft2; unfold C9 at aft2; have aft3:lL E G H (.ok (yd++[])) Q:=aft2; rw [wQ] at aft3; exact aft3 D acc G' H' (g1.trans g2) (g1.h.free hD) nD hDa ry
   . rw [if_neg hz] at aft1; exact aft1.elim
end
end Sm
end
noncomputable section
namespace Sm
open PySem PySem.Spec PyProof.Rows L2
noncomputable def Cp (cells:List (Str×vG)):List (Str×DC)->List (Str×vG)->List (Str×vG)
 | [],cs=>cs
 | (n,kd)::r,cs=>if kd==.free then Cp cells r ((n,(cells.lookup n).getD 0)::cs) else Cp cells r cs
theorem Xa {env:Env}:∀ (names:List (Str×DC)) (cs:List (Str×vG)),(∀ y∈names,y.2=.free->∃ c,env.cells.lookup y.1=some c) ->
   (forIn names cs fun (x:Str×DC) (r:List (Str×vG))=>if (x.2==l6)=true then do let c <- cellOf env x.1; pure (i4 ((x.1,c)::r)) else pure (i4 r))=(pure (Cp env.cells names cs):Sem (List (Str×vG)))
 | [],cs,_=>rfl
 | (n,kd)::r,cs,h=>by
   rw [GQ]; have ih:=fun cs=>Xa r cs fun y hy=>h y (xL _ hy);unfold Cp;by_cases hk:(kd==l6)=true
   . obtain ⟨c,hc⟩:=h (n,kd) xK (zY hk)
     have hc':cellOf env n=pure c:=by unfold cellOf; rw [show env.cells.lookup n=some c from hc]
     simp only [hk,if_true,hc',pure_bind]; rw [show env.cells.lookup n=some c from hc]; exact ih _
   . simp only [hk,if_false,pure_bind]
     exact ih _
theorem Fw {cells:List (Str×vG)}:∀ {names:List (Str×DC)} {cs:List (Str×vG)} {y:Str×vG},y∈Cp cells names cs->y∈cs\/((y.1,l6)∈names/\y.2=(cells.lookup y.1).getD 0)
 | [],cs,y,h=>.inl h
 | (n,kd)::r,cs,y,h=>by
   unfold Cp at h;by_cases hk:(kd==l6)=true
   . rw [if_pos hk] at h
     have hk':=zY hk; subst hk'; rcases Fw h with z | ⟨z1,z2⟩
     . rcases vF.mp z with rfl | z
       . exact .inr ⟨xK,rfl⟩
       . exact .inl z
     . exact .inr ⟨xL _ z1,z2⟩
   . rw [if_neg hk] at h
     rcases Fw h with z | ⟨z1,z2⟩
     . exact .inl z
     . exact .inr ⟨xL _ z1,z2⟩
theorem Fx {cells:List (Str×vG)} {x:Str}:∀ {names:List (Str×DC)} {cs:List (Str×vG)},((x,l6)∈names\/∃ c,(x,c)∈cs)->∃ c,(x,c)∈Cp cells names cs
 | [],cs,h=>by
   rcases h with h | h
   . cases h
   . exact h
 | (n,kd)::r,cs,h=>by
   unfold Cp;by_cases hk:(kd==l6)=true
   . rw [if_pos hk]
     refine Fx ?_; rcases h with h | ⟨c,h⟩
     . rcases vF.mp h with q | q
       . cases q; exact .inr ⟨_,xK⟩
       . exact .inl q
     . exact .inr ⟨c,xL _ h⟩
   . rw [if_neg hk]
     refine Fx ?_; rcases h with h | ⟨c,h⟩
     . rcases vF.mp h with q | q
       . cases q; exact absurd rfl hk
       . exact .inl q
     . exact .inr ⟨c,h⟩
theorem Db {α:Type} {x:Str} {c:α} {l:List (Str×α)} (h:l.lookup x=some c):(x,c)∈l:=j4 h
theorem Ev {α:Type} {x:Str}:∀ {l:List (Str×α)} {c:α},(x,c)∈l->∃ c',l.lookup x=some c'
 | [],_,h=>by cases h
 | (n,d)::r,c,h=>by
   rw [List.lookup_cons];cases q:x==n with
   | true=>exact ⟨d,rfl⟩
   | false =>
     rcases vF.mp h with z | z
     . cases z; simp at q
     . exact Ev z
theorem pL {X:Cx} (ok:X.Ok) {scope:Scope} (hnc:∀ y∈scope.names,y.2≠.cell) (hfree:∀ y∈scope.names,y.2=.free->X.env.scope.names.lookup y.1=some .cell\/X.env.scope.names.lookup y.1=some .free):∃ cl,Clos X scope cl:=by
 have hc:∀ y∈scope.names,y.2=.free->∃ c,X.env.cells.lookup y.1=some c:=fun y hy hf=>ok.has y.1 (hfree y hy hf);refine ⟨Cp X.env.cells scope.names [],⟨?_,fun x c h=>?_,fun x h=>?_⟩⟩
 . have:=Xa (env:=X.env) scope.names [] hc
   unfold closureFor; simp only;rw [this]; rfl
 . rcases Fw (Db h) with z | ⟨z1,z2⟩
   . cases z
   . obtain ⟨c',e⟩:=hc _ z1 rfl
     have e':X.env.cells.lookup x=some c':=e; have z2':c=(X.env.cells.lookup x).getD 0:=z2; rw [e'] at z2' ⊢;rw [z2']; rfl
 . have hm : (x, l6) ∈ scope.names := by
     have key:∀ kd,(c6 scope X.env).names.lookup x=some kd->(kd=.cell\/kd=.free)->(x,l6)∈scope.names:=fun kd hl hkd=>by
       have hm:=Db hl; unfold c6 at hm; simp only [wF] at hm; obtain ⟨⟨n,k0⟩,hy,e⟩:=hm; simp only at e;split at e
       . rename_i hc'
         cases e; have:k0=.free:=by
           rw [vV,vV] at hc'; exact zY hc'.1.1
         subst this; exact hy
       . cases e
         rcases hkd with rfl | rfl
         . exact absurd rfl (hnc _ hy)
         . exact hy
     rcases h with h | h
     . exact key _ h (.inl rfl)
     . exact key _ h (.inr rfl)
   obtain ⟨c,hc'⟩:=Fx (cells:=X.env.cells) (names:=scope.names) (cs:=[]) (x:=x) (.inl hm); exact Ev hc'
noncomputable def okComp (N:List Str) (sc scope:Scope) (xs capN:List Str) (cap:List Nat):Bool :=
 decide (scope.kind=.function)&&scope.names.all (fun y=>decide (y.2≠.cell))&&scope.names.all (fun y=>decide (y.2=.local->scope.names.lookup y.1=some .local)) &&
 scope.names.all (fun y=>decide (y.2=.free->sc.names.lookup y.1=some .cell\/sc.names.lookup y.1=some .free))&&decide (cap.map (fun j=>N[j]?)=capN.map some) &&
 capN.all (fun x=>decide ((Ek scope sc).names.lookup x=some .cell\/(Ek scope sc).names.lookup x=some .free))&&capN.all (fun x=>decide (sc.names.lookup x=some .cell\/sc.names.lookup x=some .free)) &&
 decide ((xs++capN).Nodup)&&xs.all (fun x=>decide ((Ek scope sc).names.lookup x=some .local))&&decide (cap.Nodup)
noncomputable section
variable {P:vU} {w:wD} {K:vB} {mg:Str->Option uY} {base:wT} {X:Cx} {N:List Str} {sc:Scope} {k:Nat} {df:Bool} {E:EK} {pos px:Pos} {a c elt iter:Expr} {ifs:List Expr} {f g el:Dn->Res uV} {src:Dn->Res (List uV)} {tt:Dn->Res Bool} {scope:Scope} {capN:List Str} {cap:List Nat}
structure CompOk (N:List Str) (sc scope:Scope) (xs capN:List Str) (cap:List Nat):Prop where
 h1:scope.kind=.function
 h2:∀ y∈scope.names,y.2≠.cell
 h3:∀ y∈scope.names,y.2=.local->scope.names.lookup y.1=some .local
 h4:∀ y∈scope.names,y.2=.free->sc.names.lookup y.1=some .cell\/sc.names.lookup y.1=some .free
 h5:cap.map (fun j=>N[j]?)=capN.map some
 h6:∀ x∈capN,(Ek scope sc).names.lookup x=some .cell\/(Ek scope sc).names.lookup x=some .free
 h7:∀ x∈capN,sc.names.lookup x=some .cell\/sc.names.lookup x=some .free
 h8:(xs++capN).Nodup
 h9:∀ x∈xs,(Ek scope sc).names.lookup x=some .local
 h10:cap.Nodup
theorem okComp.ok {xs:List Str} (h:okComp N sc scope xs capN cap=true):CompOk N sc scope xs capN cap:=by
 unfold okComp at h;simp only [vV,k6,decide_eq_true_eq] at h;obtain ⟨⟨⟨⟨⟨⟨⟨⟨⟨h1,h2⟩,h3⟩,h4⟩,h5⟩,h6⟩,h7⟩,h8⟩,h9⟩,h10⟩:=h;exact ⟨h1,h2,h3,h4,h5,h6,h7,h8,h9,h10⟩
theorem Co {xs:List Str} (C:Cxt P w K mg base X N sc k df) (h:CompOk N sc scope xs capN cap) (ok:X.Ok):CompFacts X scope xs capN cap:=by
 refine ⟨h.h1,h.h2,h.h3,pL ok h.h2 fun y hy hf=>?_,by rw [C.hN]; exact h.h5,fun x hx=>?_,fun x hx=>?_⟩
 . rw [C.hs]; exact h.h4 y hy hf
 . rw [aM C.hs]; exact h.h6 x hx
 . rw [C.hs]; exact h.h7 x hx
abbrev DTs (X:Cx) (E:EK) (ifs:List Expr) (f:Dn->Res Bool):Prop:=PTs X ifs (tT E f)
noncomputable def J3:Dn->Res Bool:=fun _=>.ok true
theorem U1:DTs X E [] J3:=fun pins s Z H Q I hZ6=>by obtain ⟨G,δ,S,a⟩:=hZ6; exact mX pins s Z H Q I (a G H (Grow.refl S.sub))
theorem P6 (h:DT X E c tt):DTs X E [c] tt:=mW h
theorem F7 {x:Str} (C:Cxt P w K mg base X N sc k df) (cap:List Nat) (capN:List Str) (ho:okComp N sc scope [x] capN cap=true) (hi:DI X E (.Name x px) iter src)
   (ht:∀ X',Cxt P w K mg base X' ([x]++capN) (Ek scope sc) k false->DTs X' E0k ifs tt) (he:∀ X',Cxt P w K mg base X' ([x]++capN) (Ek scope sc) k false->DE X' E0k elt el)
   (hs:∀ x,yO iter X.env x=pure x:=by intro _; rfl):DF X E (.ListComp elt [⟨.Name x px,iter,ifs,0⟩] scope pos) (D7 src C8 cap tt el):=by
 have o:=okComp.ok ho;refine PE.imp (nH (g:=Ar 0) C.calm (Co C o) hi (fun X' B=>?_) (fun X' B=>ht X' (C.blk B)) (fun X' B=>he X' (C.blk B)) hs) fun Z H Q h=>Li (m:=1) rfl o.h10 tW h;have C':=C.blk B;have hl:X'.env.scope.names.lookup x=some .local:=by rw [C'.hs]; exact o.h9 x (by simp)
 exact Cl (by rw [C'.hN]; exact o.h8) (by rw [C'.hN]; rfl) (.inl hl) (.inr hl)
end
end Sm
end
noncomputable section
namespace Sm
open PySem PySem.Spec PyProof.Rows L2
inductive Out where
 | nx (δ:Dn)
 | rt (d:uV)
 | bk (δ:Dn)
 | ct (δ:Dn)
 | exc (c:Str)
 | no
structure SSt (G0 H0 G H:Hp) (Z:St) (δ:Dn):Prop where
 gr:Grow G0 H0 G H
 sr:SR G H Z δ
 fr:∀ (i:Nat) (d:uV) (a:vG),δ[i]? = some (.ow d)->Z[i]?.join=some (.ref a)->H0 a=none
theorem SSt.grow {G0 H0 G H G' H':Hp} {Z:St} {δ:Dn} (S:SSt G0 H0 G H Z δ) (g:Grow G H G' H'):SSt G0 H0 G' H' Z δ:=⟨S.gr.trans g,S.sr.grow g,S.fr⟩
def Ju (E:EK) (G0 H0:Hp) (o:Out) (D:Ends):Prop:=match o with
 | .nx δ=>∀ Z G H,SSt G0 H0 G H Z δ->D.nx Z H
 | .rt d=>∀ v G H,Grow G0 H0 G H->Rep G d v->D.rt v H
 | .bk δ=>∀ Z G H,SSt G0 H0 G H Z δ->D.bk Z H
 | .ct δ=>∀ Z G H,SSt G0 H0 G H Z δ->D.ct Z H
 | .exc c=>∀ G H,Grow G0 H0 G H->E c H
 | .no=>False
def tS (E:EK) (G0 H0:Hp) (g:Dn->Out):TS:=fun D Z H=>∃ G δ,SSt G0 H0 G H Z δ/\Ju E G0 H0 (g δ) D
def DS (X:Cx) (E:EK) (st:k8) (g:Dn->Out):Prop:=∀ G0 H0,PS X st (tS E G0 H0 g)
def DSs (X:Cx) (E:EK) (st:List k8) (g:Dn->Out):Prop:=∀ G0 H0,PSs X st (tS E G0 H0 g)
theorem PS.imp {X:Cx} {st:k8} {t t':TS} (h:PS X st t) (i:∀ D Z H,t' D Z H->t D Z H):PS X st t':=fun pins s Z H D I q=>h pins s Z H D I (i _ _ _ q)
theorem PSs.imp {X:Cx} {st:List k8} {t t':TS} (h:PSs X st t) (i:∀ D Z H,t' D Z H->t D Z H):PSs X st t':=fun pins s Z H D I q=>h pins s Z H D I (i _ _ _ q)
noncomputable def K5 {α:Type} (r:Res α) (k:α->Out):Out:=match r with
 | .ok a=>k a
 | .exc c=>.exc c
 | .no=>.no
theorem Jr {E:EK} {G0 H0 G H:Hp} {Z:St} {δ:Dn} {f:Dn->Res uV} {k:uV->Out} {D:Ends} {R:VK} (S:SSt G0 H0 G H Z δ) (a:Ju E G0 H0 (K5 (f δ) k) D)
   (h:∀ d v G1 H1,Grow G H G1 H1->Rep G1 d v->SSt G0 H0 G1 H1 Z δ->Ju E G0 H0 (k d) D->R v H1):tD E f Z H R:=by
 refine ⟨G,δ,S.sr,?_⟩;cases e:f δ with
 | ok d=>rw [e] at a; exact fun v G' H' g r=>h d v G' H' g r (S.grow g) a
 | exc c=>rw [e] at a; exact fun G' H' g=>a G' H' (S.gr.trans g)
 | no=>rw [e] at a; exact a
theorem Zy {E:EK} {G0 H0 G H:Hp} {Z:St} {δ:Dn} {f:Dn->Res (List uV)} {k:List uV->Out} {D:Ends} {R:VK} (S:SSt G0 H0 G H Z δ) (a:Ju E G0 H0 (K5 (f δ) k) D)
   (h:∀ ds p xs G1 H1,Grow G H G1 H1->H p=none->G1 p=none->H1 p=some (.lst xs)->RepL G1 ds xs->SSt G0 H0 G1 H1 Z δ->Ju E G0 H0 (k ds) D->R (.ref p) H1):tF E f Z H R:=by
 refine ⟨G,δ,S.sr,?_⟩;cases e:f δ with
 | ok d=>rw [e] at a; exact fun p xs G' H' g q1 q2 q3 q4=>h d p xs G' H' g q1 q2 q3 q4 (S.grow g) a
 | exc c=>rw [e] at a; exact fun G' H' g=>a G' H' (S.gr.trans g)
 | no=>rw [e] at a; exact a
theorem lF {E:EK} {G0 H0 G H:Hp} {Z:St} {δ:Dn} {f:Dn->Res Bool} {k:Bool->Out} {D:Ends} {R:Bool->Hp->Prop} (S:SSt G0 H0 G H Z δ) (a:Ju E G0 H0 (K5 (f δ) k) D)
   (h:∀ d G1 H1,Grow G H G1 H1->SSt G0 H0 G1 H1 Z δ->Ju E G0 H0 (k d) D->R d H1):tT E f Z H R:=by
 refine ⟨G,δ,S.sr,?_⟩;cases e:f δ with
 | ok d=>rw [e] at a; exact fun G' H' g=>h d G' H' g (S.grow g) a
 | exc c=>rw [e] at a; exact fun G' H' g=>a G' H' (S.gr.trans g)
 | no=>rw [e] at a; exact a
theorem lG {E:EK} {G0 H0 G H:Hp} {Z:St} {δ:Dn} {f:Dn->Res (List uV)} {k:List uV->Out} {D:Ends} {R:It->Hp->Prop} (S:SSt G0 H0 G H Z δ) (a:Ju E G0 H0 (K5 (f δ) k) D)
   (h:∀ ds J G1 H1,Grow G H G1 H1->Walk J G1 ds->SSt G0 H0 G1 H1 Z δ->Ju E G0 H0 (k ds) D->R J H1):tI E f Z H R:=by
 refine ⟨G,δ,S.sr,?_⟩;cases e:f δ with
 | ok d=>rw [e] at a; exact fun J G' H' g q=>h d J G' H' g q (S.grow g) a
 | exc c=>rw [e] at a; exact fun G' H' g=>a G' H' (S.gr.trans g)
 | no=>rw [e] at a; exact a
theorem E1 {α:Type} {l:List α} {i j:Nat} {v:α}:(l.set i v)[j]? = if i=j/\i < l.length then some v else l[j]? := by
 rw [List.getElem?_set];by_cases h:i=j
 . subst h
   by_cases hl:i < l.length
   . simp [hl]
   . simp [hl,yI (yX.mp hl)]
 . simp [h]
theorem SSt.set_sh {G0 H0 G H:Hp} {Z:St} {δ:Dn} (S:SSt G0 H0 G H Z δ) {i:Nat} {v:V} {d:uV} (r:Rep G d v):SSt G0 H0 G H (Z.set i (some v)) (δ.set i (.sh d)):=by
 have hl:=S.sr.len;have key:∀ (j:Nat) (d':uV),(δ.set i (.sh d))[j]? = some (.ow d')->(Z.set i (some v))[j]? = Z[j]? /\ δ[j]? = some (.ow d'):=fun j d' e=>by
   rw [E1] at e;split at e
   . cases e
   . rename_i hn
     refine ⟨?_,e⟩; rw [E1,if_neg (by rw [hl]; exact hn)]
 refine ⟨S.gr,⟨S.sr.sub,by simp [hl],fun j s e=>?_,fun j1 j2 a d1 d2 e1 e2 h1 h2=>?_⟩,fun j d' a e h=>?_⟩
 . rw [E1] at e ⊢
   rw [hl];split at e
   . rename_i hc; cases e; rw [if_pos hc]; exact ⟨v,rfl,r⟩
   . rename_i hc; rw [if_neg hc]; exact S.sr.sl j s e
 . obtain ⟨k1,o1⟩:=key j1 d1 e1
   obtain ⟨k2,o2⟩:=key j2 d2 e2; rw [k1] at h1; rw [k2] at h2; exact S.sr.ap j1 j2 a d1 d2 o1 o2 h1 h2
 . obtain ⟨k1,o1⟩:=key j d' e
   rw [k1] at h; exact S.fr j d' a o1 h
theorem SSt.set_ow {G0 H0 G H:Hp} {Z:St} {δ:Dn} (S:SSt G0 H0 G H Z δ) {i:Nat} {p:vG} {d:uV} (h0:H0 p=none) (hg:G p=none) (ho:OwnOk G H p d) (hf:∀ (j:Nat) d',δ[j]? = some (.ow d')->Z[j]?.join≠some (.ref p)):SSt G0 H0 G H (Z.set i (some (.ref p))) (δ.set i (.ow d)):=by
 have hl:=S.sr.len;have key:∀ (j:Nat) (d':uV),(δ.set i (.ow d))[j]? = some (.ow d')->(i=j/\i < δ.length/\d'=d/\(Z.set i (some (.ref p)))[j]? = some (some (.ref p)))\/((Z.set i (some (.ref p)))[j]? = Z[j]? /\ δ[j]? = some (.ow d')):=fun j d' e=>by
   rw [E1] at e;split at e
   . rename_i hc; cases e; exact .inl ⟨hc.1,hc.2,rfl,by rw [E1,if_pos (by rw [hl]; exact hc)]⟩
   . rename_i hn
     refine .inr ⟨?_,e⟩; rw [E1,if_neg (by rw [hl]; exact hn)]
 refine ⟨S.gr,⟨S.sr.sub,by simp [hl],fun j s e=>?_,fun j1 j2 a d1 d2 e1 e2 h1 h2=>?_⟩,fun j d' a e h=>?_⟩
 . rw [E1] at e ⊢
   rw [hl];split at e
   . rename_i hc; cases e; rw [if_pos hc]; exact ⟨p,rfl,hg,ho⟩
   . rename_i hc; rw [if_neg hc]; exact S.sr.sl j s e
 . rcases key j1 d1 e1 with ⟨a1,b1,_,c1⟩ | ⟨k1,o1⟩
   . rcases key j2 d2 e2 with ⟨a2,b2,_,c2⟩ | ⟨k2,o2⟩
     . exact a1.symm.trans a2
     . rw [c1] at h1; cases h1
       rw [k2] at h2; exact absurd h2 (hf j2 d2 o2)
   . rcases key j2 d2 e2 with ⟨a2,b2,_,c2⟩ | ⟨k2,o2⟩
     . rw [c2] at h2; cases h2
       rw [k1] at h1; exact absurd h1 (hf j1 d1 o1)
     . rw [k1] at h1; rw [k2] at h2
       exact S.sr.ap j1 j2 a d1 d2 o1 o2 h1 h2
 . rcases key j d' e with ⟨a1,b1,_,c1⟩ | ⟨k1,o1⟩
   . rw [c1] at h; cases h; exact h0
   . rw [k1] at h; exact S.fr j d' a o1 h
theorem SSt.write {G0 H0 G H:Hp} {Z:St} {δ:Dn} (S:SSt G0 H0 G H Z δ) {i:Nat} {p:vG} {d d':uV} {o:HO} (hi:δ[i]? = some (.ow d)) (hp:Z[i]?.join=some (.ref p)) (hg:G p=none) (ho:OwnOk G (upd H p o) p d'):SSt G0 H0 G (upd H p o) Z (δ.set i (.ow d')):=by
 have h0:=S.fr i d p hi hp;have hil:i < δ.length:=(vY.mp hi).1;have hsub:Same G (upd H p o):=fun b u e=>by rw [B7 (D4 e hg)]; exact S.sr.sub _ _ e
 have key:∀ (j:Nat) (e:uV),(δ.set i (.ow d'))[j]? = some (.ow e)->∃ e',δ[j]? = some (.ow e'):=fun j e h=>by
   rw [E1] at h;split at h
   . rename_i hc; rw [<- hc.1]; exact ⟨d,hi⟩
   . exact ⟨e,h⟩
 refine ⟨⟨S.gr.g,fun b u e=>by rw [B7 (D4 e h0)]; exact S.gr.h _ _ e,hsub,S.gr.fr⟩,⟨hsub,by simp [S.sr.len],fun j s e=>?_,fun j1 j2 a d1 d2 e1 e2 h1 h2=>?_⟩,fun j e a h1 h2=>?_⟩
 . rw [E1] at e
   split at e
   . rename_i hc; cases e; rw [<- hc.1]; exact ⟨p,hp,hg,ho⟩
   . rename_i hc
     have hs:=S.sr.sl j s e;cases s with
     | un=>trivial
     | sh d=>exact hs
     | fd _=>exact hs
     | ow d2 =>
       obtain ⟨a,e1,n1,ok⟩:=hs; refine ⟨a,e1,n1,?_⟩; have hne:a≠p:=by
         rintro rfl;exact hc ⟨S.sr.ap i j a d d2 hi e hp e1,hil⟩
       cases d2 with
       | list ds=>obtain ⟨xs,q,r⟩:=ok; exact ⟨xs,by rw [B7 hne]; exact q,r⟩
       | dict kvs=>obtain ⟨xs,q,r⟩:=ok; exact ⟨xs,by rw [B7 hne]; exact q,r⟩
       | tuple xs=>exact OwnK.keep (Same.refl _) (fun o q=>by rw [B7 hne]; exact q) ok
       | _=>exact (show False from ok).elim
 . obtain ⟨e1',o1⟩:=key j1 d1 e1
   obtain ⟨e2',o2⟩:=key j2 d2 e2; exact S.sr.ap j1 j2 a _ _ o1 o2 h1 h2
 . obtain ⟨e',o1⟩:=key j e h1
   exact S.fr j e' a o1 h2
noncomputable def fz (i:Nat) (δ:Dn):Dn:=match δ[i]? with
 | some (.ow (.list ds))=>δ.set i (.sh (.list ds))
 | _=>δ
theorem SSt.fz {G0 H0 G H:Hp} {Z:St} {δ:Dn} (S:SSt G0 H0 G H Z δ) (i:Nat):∃ G',SSt G0 H0 G' H Z (fz i δ):=by
 unfold Sm.fz;split
 . rename_i ds hi
   obtain ⟨p,hp,hg,xs,hx,r⟩:=S.sr.sl i _ hi; have h0:=S.fr i _ p hi hp; have g:Grow G0 H0 (upd G p (.lst xs)) H:=S.gr.share h0 hg hx; have hv:Z[i]? = some (some (.ref p)):=by
     cases q:Z[i]? with
     | none=>rw [q] at hp; cases hp
     | some z=>rw [q] at hp; cases z with
       | none=>cases hp
       | some z=>cases hp; rfl
   have key:∀ (j:Nat) (d':uV),(δ.set i (.sh (.list ds)))[j]? = some (.ow d')->δ[j]? = some (.ow d')/\j≠i:=fun j d' e=>by
     rw [E1] at e;split at e
     . cases e
     . rename_i hn
       refine ⟨e,fun z=>?_⟩;subst z; exact hn ⟨rfl,(vY.mp hi).1⟩
   refine ⟨_,g,⟨g.gh,by simp [S.sr.len],fun j s e=>?_,fun j1 j2 a d1 d2 e1 e2 h1 h2=>S.sr.ap j1 j2 a d1 d2 (key j1 d1 e1).1 (key j2 d2 e2).1 h1 h2⟩,fun j d' a e h=>S.fr j d' a (key j d' e).1 h⟩;have sm:Same G (upd G p (.lst xs)):=Same.upd hg;by_cases hj:i=j/\i < δ.length
   . rw [E1,if_pos hj] at e
     cases e; rw [<- hj.1,hv]; exact ⟨_,rfl,p,xs,rfl,.inl B8,r.mono sm⟩
   . have e2:=e
     rw [E1,if_neg hj] at e2; have hs:=S.sr.sl j s e2;cases s with
     | un=>trivial
     | sh d=>obtain ⟨v,e1,r1⟩:=hs; exact ⟨v,e1,r1.mono sm⟩
     | fd _=>exact FdOk.mono sm hs
     | ow d2 =>
       obtain ⟨a,e1,n1,ok⟩:=hs; have hne:a≠p:=by
         rintro rfl;exact (key j d2 e).2 (S.sr.ap j i a d2 _ e2 hi e1 hp)
       refine ⟨a,e1,by rw [B7 hne]; exact n1,?_⟩;cases d2 with
       | list ds=>obtain ⟨xs,q,r⟩:=ok; exact ⟨xs,q,r.mono sm⟩
       | dict kvs=>obtain ⟨xs,q,k,r⟩:=ok; exact ⟨xs,q,k,r.mono sm⟩
       | tuple xs=>exact OwnK.keep sm (fun o q=>q) ok
       | _=>exact (show False from ok).elim
 . exact ⟨G,S⟩
noncomputable section
variable {P:vU} {w:wD} {K:vB} {mg:Str->Option uY} {base:wT} {X:Cx} {N:List Str} {sc:Scope} {k:Nat} {df:Bool} {E:EK} {pos p px py:Pos} {a b c e elt iter:Expr} {ifs:List Expr} {f g el:Dn->Res uV} {fs src:Dn->Res (List uV)} {tt:Dn->Res Bool} {scope:Scope} {capN:List Str} {cap:List Nat} {st:k8} {sts sts':List k8} {g1 g2:Dn->Out}
noncomputable def F5:Dn->Out:=fun δ=>.nx δ
noncomputable def C3 (g1 g2:Dn->Out):Dn->Out:=fun δ=>match g1 δ with
 | .nx δ'=>g2 δ'
 | o=>o
theorem K9:DSs X E [] F5:=fun G0 H0=>PSs.imp aP fun D Z H hZ3=>by obtain ⟨G,δ,S,a⟩:=hZ3; exact a Z G H S
theorem B0 (h1:DS X E st g1) (h2:DSs X E sts g2):DSs X E (st::sts) (C3 g1 g2):=fun G0 H0=>by
 refine PSs.imp (Nr (h1 G0 H0) (h2 G0 H0)) fun D Z H hY59=>?_;obtain ⟨G,δ,S,a⟩:=hY59;refine ⟨G,δ,S,?_⟩;unfold C3 at a;cases e:g1 δ with
 | nx δ'=>rw [e] at a; exact fun Z' G' H' S'=>⟨G',δ',S',a⟩
 | rt d=>rw [e] at a; exact a
 | bk d=>rw [e] at a; exact a
 | ct d=>rw [e] at a; exact a
 | exc d=>rw [e] at a; exact a
 | no=>rw [e] at a; exact a
theorem B9 (h1:DS X E st g1):DSs X E [st] g1:=fun G0 H0=>Hl (h1 G0 H0)
noncomputable def sFz (i:Nat) (g:Dn->Out):Dn->Out:=fun δ=>g (fz i δ)
theorem Yo (i:Nat) (h:DS X E st g1):DS X E st (sFz i g1):=fun G0 H0=>PS.imp (h G0 H0) fun D Z H hZ3=>by
 obtain ⟨G,δ,S,a⟩:=hZ3;obtain ⟨G',S'⟩:=S.fz i;exact ⟨G',_,S',a⟩
noncomputable def K1 (f:Dn->Res uV):Dn->Out:=fun δ=>K5 (f δ) .rt
theorem F2 (h:DE X E e f):DS X E (.Return (some e) pos) (K1 f):=fun G0 H0=>PS.imp (Yr h) fun D Z H ⟨G,δ,S,a⟩ =>
 Jr S a fun d v G1 H1 g1 r1 S1 a1=>a1 v G1 H1 S1.gr r1
noncomputable def sIf (c:Dn->Res Bool) (g1 g2:Dn->Out):Dn->Out:=fun δ=>K5 (c δ) fun b=>if b=true then g1 δ else g2 δ
theorem Am (hc:DT X E c tt) (h1:DSs X E sts g1) (h2:DSs X E sts' g2):DS X E (.If c sts sts' pos) (sIf tt g1 g2):=fun G0 H0=>PS.imp (qL hc (h1 G0 H0) (h2 G0 H0)) fun D Z H ⟨G,δ,S,a⟩ =>
 lF S a fun d G1 H1 g1 S1 a1=>by
   cases d with
   | true=>rw [if_pos rfl]; exact ⟨G1,δ,S1,a1⟩
   | false=>rw [if_neg (by decide)]; exact ⟨G1,δ,S1,a1⟩
noncomputable def okSet (N:List Str) (sc:Scope) (df:Bool) (i:Nat) (x:Str):Bool:=decide (N.Nodup)&&decide (N[i]? = some x)&&(decide (sc.names.lookup x=some .local)||(decide (sc.names.lookup x=some .cell)&&df))
theorem okSet.ok (C:Cxt P w K mg base X N sc k df) {i:Nat} {x:Str} (h:okSet N sc df i x=true):X.N.Nodup/\X.N[i]? = some x/\Loc X.env.scope x/\(X.fn x=true\/X.env.scope.names.lookup x=some .local):=by
 unfold okSet at h;simp only [vV,EB,decide_eq_true_eq] at h;obtain ⟨⟨h1,h2⟩,h3⟩:=h;rw [C.hN];refine ⟨h1,h2,?_⟩;unfold L2.Loc;rw [C.hs];rcases h3 with h3 | ⟨h3,h4⟩
 . exact ⟨.inl h3,.inr h3⟩
 . exact ⟨.inr h3,.inl (C.fn h4 x)⟩
noncomputable def E7 (i:Nat) (f:Dn->Res uV):Dn->Out:=fun δ=>K5 (f δ) fun d=>.nx (δ.set i (.sh d))
theorem F9 {x:Str} (C:Cxt P w K mg base X N sc k df) (i:Nat) (ho:okSet N sc df i x=true) (h:DE X E e f) (hs:zX e (some (.Name x p)) pos.line X.env=pure false:=by rfl):DS X E (.Assign [.Name x p] e pos) (E7 i f):=fun G0 H0=>by
 obtain ⟨h1,h2,h3,h4⟩:=okSet.ok C ho;exact PS.imp (Iv h1 h2 h3 h hs h4) fun D Z H hZ3=>by obtain ⟨G,δ,S,a⟩:=hZ3; exact Jr S a fun d v G1 H1 g1 r1 S1 a1=>a1 _ G1 H1 (S1.set_sh r1)
theorem Fs {G0 H0 G H:Hp} {Z:St} {δ:Dn} (S:SSt G0 H0 G H Z δ) {p:vG} (hp:H p=none) (j:Nat) (d':uV) (e:δ[j]? = some (.ow d')):Z[j]?.join≠some (.ref p):=fun z=>by
 obtain ⟨a,e1,_,ok⟩:=S.sr.sl j _ e;rw [e1] at z; cases z;obtain ⟨o,q⟩:=ok.some;rw [hp] at q; cases q
noncomputable def Hh (i:Nat) (f:Dn->Res (List uV)):Dn->Out:=fun δ=>K5 (f δ) fun ds=>.nx (δ.set i (.ow (.list ds)))
theorem aU {G0 H0:Hp} {D:Ends} {Z:St} {H:Hp} {i:Nat} (h:tS E G0 H0 (Hh i fs) D Z H):tF E fs Z H fun v H1=>D.nx (Z.set i (some v)) H1:=by
 obtain ⟨G,δ,S,a⟩:=h;refine Zy S a fun ds p xs G1 H1 g1 q1 q2 q3 q4 S1 a1=>?_;exact a1 _ G1 H1 (S1.set_ow (S.gr.h.free q1) q2 ⟨xs,q3,q4⟩ (Fs S q1))
theorem Nj {x:Str} (C:Cxt P w K mg base X N sc k df) (i:Nat) (ho:okSet N sc df i x=true) (h:DF X E e fs) (hs:zX e (some (.Name x p)) pos.line X.env=pure false:=by rfl):DS X E (.Assign [.Name x p] e pos) (Hh i fs):=fun G0 H0=>by
 obtain ⟨h1,h2,h3,h4⟩:=okSet.ok C ho;exact PS.imp (Iv h1 h2 h3 h hs h4) fun D Z H q=>aU q
noncomputable def Dl (sc scope:Scope) (x:Str) (l1 l2:Nat):Bool:=decide (sc.kind=.function)&&decide (sc.names.lookup x=some .local)&&decide (l1=l2) && !(scope.names.any fun (n,kd)=>n==x&&(kd==.local||kd==.cell))
theorem Ii {x:Str} {elt:Expr} {gens:List Comprehension} {ln:Nat} (C:Cxt P w K mg base X N sc k df) (h:Dl sc scope x p.line pos.line=true):zX (.ListComp elt gens scope pos) (some (.Name x p)) ln X.env=pure true:=by
 unfold Dl at h;simp only [vV,decide_eq_true_eq] at h;obtain ⟨⟨⟨h1,h2⟩,h3⟩,h4⟩:=h;unfold zX;show pure (X.env.blockKind==.function&&X.env.kindOf x==some .local&&p.line==pos.line && !(scope.names.any fun (n,kd)=>n==x&&(kd==.local||kd==.cell)))=_;have e1:X.env.blockKind=.function:=by unfold Env.blockKind; rw [C.hs,h1]; rfl
 have e2:X.env.kindOf x=some .local:=by show X.env.scope.names.lookup x=_; rw [C.hs]; exact h2
 rw [e1,e2,h3,h4];simp
noncomputable def jD (sc scope:Scope) (x:Str) (l1 l2:Nat):Bool:=decide (sc.names.lookup x≠some .local)||decide (l1≠l2)||(scope.names.any fun (n,kd)=>n==x&&(kd==.local||kd==.cell))
theorem Yc {x:Str} {elt:Expr} {gens:List Comprehension} {ln:Nat} (C:Cxt P w K mg base X N sc k df) (h:jD sc scope x p.line pos.line=true):zX (.ListComp elt gens scope pos) (some (.Name x p)) ln X.env=pure false:=by
 unfold jD at h;unfold zX;show pure (X.env.blockKind==.function&&X.env.kindOf x==some .local&&p.line==pos.line && !(scope.names.any fun (n,kd)=>n==x&&(kd==.local||kd==.cell)))=_;have e2:X.env.kindOf x=sc.names.lookup x:=by show X.env.scope.names.lookup x=_; rw [C.hs]
 rw [e2];rw [EB,EB,decide_eq_true_eq,decide_eq_true_eq] at h;congr 1;rcases h with (h | h) | h
 . have:(sc.names.lookup x==some NameKind.local)=false:=by simpa using h
   rw [this]; simp
 . have:(p.line==pos.line)=false:=by simpa using h
   rw [this]; simp
 . rw [h]; simp
noncomputable section
variable {x y:Str} {i:Nat} {py spos:Pos}
theorem Ym (C:Cxt P w K mg base X N sc k df) (i:Nat) (hset:okSet N sc df i y=true) (hsw:Dl sc scope y py.line pos.line=true) (cap:List Nat) (capN:List Str) (ho:okComp N sc scope [x] capN cap=true) (hi:DI X E (.Name x px) iter src)
   (ht:∀ X',Cxt P w K mg base X' ([x]++capN) (Ek scope sc) k false->DTs X' E0k ifs tt) (he:∀ X',Cxt P w K mg base X' ([x]++capN) (Ek scope sc) k false->DE X' E0k elt el)
   (hs:∀ x,yO iter X.env x=pure x:=by intro _; rfl):DS X E (.Assign [.Name y py] (.ListComp elt [⟨.Name x px,iter,ifs,0⟩] scope pos) spos) (Hh i (D7 src C8 cap tt el)):=fun G0 H0=>by
 obtain ⟨h1,h2,h3,h4⟩:=okSet.ok C hset;have o:=okComp.ok ho;have hl:X.env.scope.names.lookup y=some .local:=by
   rw [C.hs]; unfold Dl at hsw; simp only [vV,decide_eq_true_eq] at hsw; exact hsw.1.1.2
 refine PS.imp (Fi (g:=Ar 0) C.calm (Co C o) hi (fun X' B=>?_) (fun X' B=>ht X' (C.blk B)) (fun X' B=>he X' (C.blk B)) h1 h2 hl (Ii C hsw) hs) fun D Z H h=>Li (m:=1) rfl o.h10 tW (aU h);have C':=C.blk B;have hl:X'.env.scope.names.lookup x=some .local:=by rw [C'.hs]; exact o.h9 x (by simp)
 exact Cl (by rw [C'.hN]; exact o.h8) (by rw [C'.hN]; rfl) (.inl hl) (.inr hl)
noncomputable def Ej (i:Nat) (f:Dn->Res (List uV)):Dn->Out:=fun δ=>K5 (f δ) fun ds=>.nx (δ.set i (.sh (.list ds)))
theorem aX {G0 H0:Hp} {D:Ends} {Z:St} {H:Hp} {i:Nat} (h:tS E G0 H0 (Ej i fs) D Z H):tF E fs Z H fun v H1=>D.nx (Z.set i (some v)) H1:=by
 obtain ⟨G,δ,S,a⟩:=h;refine Zy S a fun ds p xs G1 H1 g1 q1 q2 q3 q4 S1 a1=>?_;exact a1 _ _ H1 ((S.grow (g1.share q1 q2 q3)).set_sh ⟨p,xs,rfl,.inl B8,q4.mono (Same.upd q2)⟩)
end
end
end Sm
end
noncomputable section
namespace Sm
open PySem PySem.Spec PyProof.Rows L2
noncomputable section
variable {P:vU} {w:wD} {K:vB} {mg:Str->Option uY} {base:wT} {X:Cx} {N:List Str} {sc:Scope} {k:Nat} {df:Bool} {E:EK} {pos p px py tp spos:Pos} {tg a b c e elt iter:Expr} {ifs:List Expr} {es:List Expr} {f g el:Dn->Res uV} {src:Dn->Res (List uV)} {tt:Dn->Res Bool} {scope:Scope} {capN:List Str} {cap:List Nat} {st:k8} {sts:List k8} {g1:Dn->Out} {x y:Str} {i:Nat}
theorem Cj (C:Cxt P w K mg base X N sc k df) (i:Nat) (hset:okSet N sc df i y=true) (hsw:Dl sc scope y py.line pos.line=true) (cap:List Nat) (capN:List Str) (ho:okComp N sc scope [x] capN cap=true) (hi:DI X E (.Name x px) iter src)
   (ht:∀ X',Cxt P w K mg base X' ([x]++capN) (Ek scope sc) k false->DTs X' E0k ifs tt) (he:∀ X',Cxt P w K mg base X' ([x]++capN) (Ek scope sc) k false->DE X' E0k elt el)
   (hs:∀ x,yO iter X.env x=pure x:=by intro _; rfl):DS X E (.Assign [.Name y py] (.ListComp elt [⟨.Name x px,iter,ifs,0⟩] scope pos) spos) (Ej i (D7 src C8 cap tt el)):=fun G0 H0=>by
 obtain ⟨h1,h2,h3,h4⟩:=okSet.ok C hset;have o:=okComp.ok ho;have hl:X.env.scope.names.lookup y=some .local:=by
   rw [C.hs]; unfold Dl at hsw; simp only [vV,decide_eq_true_eq] at hsw; exact hsw.1.1.2
 refine PS.imp (Fi (g:=Ar 0) C.calm (Co C o) hi (fun X' B=>?_) (fun X' B=>ht X' (C.blk B)) (fun X' B=>he X' (C.blk B)) h1 h2 hl (Ii C hsw) hs) fun D Z H h=>Li (m:=1) rfl o.h10 tW (aX h);have C':=C.blk B;have hl:X'.env.scope.names.lookup x=some .local:=by rw [C'.hs]; exact o.h9 x (by simp)
 exact Cl (by rw [C'.hN]; exact o.h8) (by rw [C'.hN]; rfl) (.inl hl) (.inr hl)
theorem Yn {x1:Nat} {x2:Str} (C:Cxt P w K mg base X N sc k df) (i:Nat) (hset:okSet N sc df i y=true) (hsw:Dl sc scope y py.line pos.line=true) (cap:List Nat) (capN:List Str) (ho:okComp N sc scope [x,x2] capN cap=true) (hi:DI X E (.Tuple [.Name x px,.Name x2 p] x1 tp) iter src)
   (ht:∀ X',Cxt P w K mg base X' ([x,x2]++capN) (Ek scope sc) k false->DTs X' E0k ifs tt) (he:∀ X',Cxt P w K mg base X' ([x,x2]++capN) (Ek scope sc) k false->DE X' E0k elt el)
   (hs:∀ x,yO iter X.env x=pure x:=by intro _; rfl):DS X E (.Assign [.Name y py] (.ListComp elt [⟨.Tuple [.Name x px,.Name x2 p] x1 tp,iter,ifs,0⟩] scope pos) spos) (Ej i (D7 src Kh cap tt el)):=fun G0 H0=>by
 obtain ⟨h1,h2,h3,h4⟩:=okSet.ok C hset;have o:=okComp.ok ho;have hl:X.env.scope.names.lookup y=some .local:=by
   rw [C.hs]; unfold Dl at hsw; simp only [vV,decide_eq_true_eq] at hsw; exact hsw.1.1.2
 refine PS.imp (Fi (g:=tX K 2 (Wm (Ar 0) (Wm (Ar 1) tY))) C.calm (Co C o) hi (fun X' B=>?_) (fun X' B=>ht X' (C.blk B)) (fun X' B=>he X' (C.blk B)) h1 h2 hl (Ii C hsw) hs) fun D Z H h=>Li (m:=2) rfl o.h10 gok2 (aX h);have C':=C.blk B;have hl:X'.env.scope.names.lookup x=some .local:=by rw [C'.hs]; exact o.h9 x (by simp)
 have hl2:X'.env.scope.names.lookup x2=some .local:=by rw [C'.hs]; exact o.h9 x2 (by simp)
 have nd:X'.N.Nodup:=by rw [C'.hN]; exact o.h8
 have p1:PG X' (.Name x px) (Ar 0):=Cl nd (by rw [C'.hN]; rfl) (.inl hl) (.inr hl);have p2:PG X' (.Name x2 p) (Ar 1):=Cl nd (by rw [C'.hN]; rfl) (.inl hl2) (.inr hl2);have:=sF (n:=2) (k:=x1) (pos:=tp) C'.calm (Vn p1 (Vn p2 nF));rw [C'.hK] at this;exact this
noncomputable def X2 (i:Nat) (f:Dn->Res uV):Dn->Out:=fun δ=>match δ[i]? with
 | some (.ow (.list ds))=>K5 (f δ) fun d=>if ds.length < sizeLine then .nx (δ.set i (.ow (.list (ds++[d])))) else .no
 | _=>.no
theorem He {cpos apos:Pos} (C:Cxt P w K mg base X N sc k df) (i:Nat) (h:okVar N sc i x=true) (ha:DE X E a f)
   (hbase:i7 (.Name x p) "append" X.env (eval (.Name x p) X.env)=eval (.Name x p) X.env:=by rfl)
   (hfew:((yL cpos (vI [a] X.env)).all (fun x => !x.1)&&(EI cpos (AX [] X.env)).all (fun x=>x.1.isSome)
     && decide ([a].length+([]:List x8).length+(if ([]:List x8).isEmpty then 0 else 1) < 30))=true:=by rfl)
   (hline:(apos.endLine==cpos.line)=true:=by rfl) (hs:vI [a] X.env=(false,eval a X.env)::vI [] X.env:=by rfl) (hplain:(yL cpos (vI [] X.env)).any (·.1)=false:=by rfl)
   (hsw:zX (.Call (.Attribute (.Name x p) "append" apos) [a] [] cpos) none pos.line X.env=pure false:=by rfl) :
   DS X E (.Expr (.Call (.Attribute (.Name x p) "append" apos) [a] [] cpos) pos) (X2 i f):=fun G0 H0=>by
 have hv:PE X (.Name x p) (Sa i):=by
   unfold okVar at h; simp only [vV,zZ] at h; obtain ⟨⟨⟨h1,h2⟩,h3⟩,h4⟩:=h; refine Iy (by rw [C.hN]; exact zY h1) ?_ h3 h4;rw [C.hs]; unfold Vis;cases q:sc.names.lookup x with
   | none=>rw [q] at h2; cases h2
   | some z =>
     rw [q] at h2;cases z with
     | «local» => exact .inl rfl
     | cell=>exact .inr (.inl rfl)
     | free=>exact .inr (.inr rfl)
     | _=>cases h2
 refine PS.imp (Ta (Qo zV HD HC Jc hv (F6 ha O2 hs) hbase hfew hline hs hplain) hsw) fun D Z H hZ3=>?_;obtain ⟨G,δ,S,aft⟩:=hZ3;unfold X2 at aft;split at aft
 . rename_i ds hi
   obtain ⟨q,hq,hg,xs,hx,rl⟩:=S.sr.sl i _ hi; have hσ:Z[i]? = some (some (.ref q)):=by
     cases z:Z[i]? with
     | none=>rw [z] at hq; cases hq
     | some z'=>rw [z] at hq; cases z' with
       | none=>cases hq
       | some z''=>cases hq; rfl
   refine ⟨.ref q,hσ,.inl ⟨rfl,xs,.inl (.inl hx)⟩,?_⟩; refine Jr S aft fun d v G1 H1 g1 r1 S1 a1=>?_;split at a1
   . rename_i hz
     have hx1:H1 q=some (.lst xs):=g1.h _ _ hx; obtain ⟨q',hq',hg',_⟩:=S1.sr.sl i _ hi; rw [hq] at hq'; cases hq'; refine ⟨q,xs,v,rfl,rfl,hx1,by rw [<- rl.length]; exact hz,?_⟩;exact a1 Z G1 _ (S1.write hi hq hg' ⟨xs++[v],B8,(rl.mono g1.g).append (RepL.cons r1 rfl)⟩)
   . exact a1.elim
 . exact aft.elim
noncomputable def E3 (st:uV->Dn->Option Dn) (body:Dn->Out):List uV->Dn->Out
 | [],δ=>.nx δ
 | d::ds,δ=>match st d δ with
   | some δ1=>match body δ1 with
     | .nx δ'=>E3 st body ds δ'
     | .ct δ'=>E3 st body ds δ'
     | .bk δ'=>.nx δ'
     | o=>o
   | none=>.no
noncomputable def N3 (src:Dn->Res (List uV)) (st:uV->Dn->Option Dn) (body:Dn->Out):Dn->Out:=fun δ=>K5 (src δ) fun ds=>E3 st body ds δ
noncomputable def st1 (i:Nat):uV->Dn->Option Dn:=fun d δ=>some (δ.set i (.sh d))
noncomputable def st2 (i j:Nat):uV->Dn->Option Dn:=fun d δ=>match d with
 | .tuple [a,b]=>some ((δ.set i (.sh a)).set j (.sh b))
 | _=>none
def TgOk (K:vB) (g:TG) (st:uV->Dn->Option Dn):Prop:=∀ (G0 H0 G H:Hp) (Z:St) (δ δ1:Dn) (d:uV) (x:V) (Q:St->Hp->Prop),SSt G0 H0 G H Z δ->Rep G d x->st d δ=some δ1->(∀ Z',SSt G0 H0 G H Z' δ1->Q Z' H)->g x Z H Q
theorem tg1 (i:Nat):TgOk K (Ar i) (st1 i):=fun G0 H0 G H Z δ δ1 d x Q S r e h=>by cases e; exact h _ (S.set_sh r)
theorem SSt.rebase {G0 H0 G1 H1 G H:Hp} {Z:St} {δ:Dn} (g:Grow G0 H0 G1 H1) (S:SSt G0 H0 G H Z δ) (h:Same G1 G):SSt G1 H0 G H Z δ :=
 ⟨⟨h,S.gr.h,S.gr.gh,fun b o e=>(S.gr.fr b o e).imp (fun z=>g.g _ _ z) id⟩,S.sr,S.fr⟩
theorem Grow.unbase {G0 H0 G1 H1 G H:Hp} (g:Grow G0 H0 G1 H1) (h:Grow G1 H0 G H):Grow G0 H0 G H :=
 ⟨g.g.trans h.g,h.h,h.gh,fun b o e=>(h.fr b o e).elim (fun z=>g.fr b o z) .inr⟩
theorem SSt.unbase {G0 H0 G1 H1 G H:Hp} {Z:St} {δ:Dn} (g:Grow G0 H0 G1 H1) (S:SSt G1 H0 G H Z δ):SSt G0 H0 G H Z δ:=⟨g.unbase S.gr,S.sr,S.fr⟩
theorem rP {gt:TG} {st:uV->Dn->Option Dn} (C:Cxt P w K mg base X N sc k df) (hi:DI X E tg iter src) (hg:PG X tg gt) (ht:TgOk K gt st) (hb:DSs X E sts g1) (hs:∀ x,yO iter X.env x=pure x):DS X E (.For tg iter sts [] pos) (N3 src st g1):=fun G0 H0=>by
 have hb':PSs X sts (fun D Z H=>∃ Gb,tS E Gb H0 g1 D Z H):=fun pins s Z H D I hZ6=>by obtain ⟨Gb,q⟩:=hZ6; exact hb Gb H0 pins s Z H D I q
 refine PS.imp (iH C.own C.calm hi hg hb' hs) fun D Z H hZ3=>?_;obtain ⟨G,δ,S,aft⟩:=hZ3;refine lG S aft fun ds J G1 H1 gr W S1 a1=>?_;have g01:=S1.gr;refine ⟨fun i n Z' H'=>n=ds.length - i/\i<=ds.length/\∃ G' δ',SSt G1 H0 G' H' Z' δ'/\Ju E G0 H0 (E3 st g1 (ds.drop i) δ') D,⟨_,rfl,zL _,G1,δ,S1.rebase g01 (Same.refl _),by rw [CD]; exact a1⟩,?_⟩;rintro i n Z' H' ⟨rfl,hi,G',δ',S',a'⟩;by_cases hlt:i < ds.length
 . have hd:ds[i]? = some ds[i]:=wC hlt
   have hdrop:ds.drop i=ds[i]::ds.drop (i+1):=zO hlt; rw [hdrop] at a'; unfold E3 at a'; refine .inr ⟨W.go i H' hlt (S'.gr.g.trans S'.sr.sub),fun Z2 H2=>∃ G' δ',SSt G1 H0 G' H2 Z2 δ'/\Ju E G0 H0 (E3 st g1 (ds.drop (i+1)) δ') D,fun Z2 H2 q=>⟨_,by omega,rfl,hlt,q⟩,fun x H'' hy=>?_⟩;obtain ⟨G3,g3,r3⟩:=W.yld i _ G' H' x H'' hd S'.gr.g S'.sr.sub hy; have S3:=S'.grow g3;cases es:st ds[i] δ' with
   | none=>rw [es] at a'; exact a'.elim
   | some δ1 =>
     rw [es] at a'; refine ht G1 H0 G3 H'' Z' δ' δ1 _ x _ S3 r3 es fun Z2 S4=>⟨G1,G3,δ1,S4,?_⟩;simp only at a';cases eo:g1 δ1 with
     | nx δ2=>rw [eo] at a'; exact fun Z3 G4 H4 S5=>⟨G4,δ2,S5,a'⟩
     | ct δ2=>rw [eo] at a'; exact fun Z3 G4 H4 S5=>⟨G4,δ2,S5,a'⟩
     | bk δ2=>rw [eo] at a'; exact fun Z3 G4 H4 S5=>a' Z3 G4 H4 (S5.unbase g01)
     | rt d=>rw [eo] at a'; exact fun v G4 H4 g r=>a' v G4 H4 (g01.unbase g) r
     | exc c=>rw [eo] at a'; exact fun G4 H4 g=>a' G4 H4 (g01.unbase g)
     | no=>rw [eo] at a'; exact a'
 . refine .inl ⟨W.stop i H' (yX.mp hlt) (S'.gr.g.trans S'.sr.sub),?_⟩
   have:ds.drop i=[]:=AU (yX.mp hlt); rw [this] at a'; exact a' Z' G' H' (S'.unbase g01)
theorem Q4 (C:Cxt P w K mg base X N sc k df) (i:Nat) (ho:okSet N sc df i x=true) (hi:DI X E (.Name x p) iter src) (hb:DSs X E sts g1) (hs:∀ x,yO iter X.env x=pure x:=by intro _; rfl):DS X E (.For (.Name x p) iter sts [] pos) (N3 src (st1 i) g1):=by
 obtain ⟨h1,h2,h3,h4⟩:=okSet.ok C ho;exact rP C hi (Cl h1 h2 h3 h4) (tg1 i) hb hs
end
end Sm
end
noncomputable section
namespace Sm
open PySem PySem.Spec PyProof.Rows L2
noncomputable section
variable {P:vU} {w:wD} {K:vB} {mg:Str->Option uY} {base:wT} {X:Cx} {N:List Str} {sc:Scope} {k:Nat} {df:Bool} {E:EK} {p:Pos} {a c e:Expr} {f g:Dn->Res uV} {x:Str} {i:Nat}
theorem okVar.pe (C:Cxt P w K mg base X N sc k df) (h:okVar N sc i x=true):PE X (.Name x p) (Sa i):=by
 unfold okVar at h;simp only [vV,zZ] at h;obtain ⟨⟨⟨h1,h2⟩,h3⟩,h4⟩:=h;refine Iy (by rw [C.hN]; exact zY h1) ?_ h3 h4;rw [C.hs];unfold Vis;cases q:sc.names.lookup x with
 | none=>rw [q] at h2; cases h2
 | some z =>
   rw [q] at h2;cases z with
   | «local» => exact .inl rfl
   | cell=>exact .inr (.inl rfl)
   | free=>exact .inr (.inr rfl)
   | _=>cases h2
theorem SR.own {G H:Hp} {Z:St} {δ:Dn} (S:SR G H Z δ) {d:uV} (hi:δ[i]? = some (.ow d)):∃ q,Z[i]? = some (some (.ref q))/\G q=none/\OwnOk G H q d:=by
 obtain ⟨q,hq,hg,ok⟩:=S.sl i _ hi;refine ⟨q,?_,hg,ok⟩;cases z:Z[i]? with
 | none=>rw [z] at hq; cases hq
 | some z'=>rw [z] at hq; cases z' with
   | none=>cases hq
   | some z''=>cases hq; rfl
noncomputable def K6 (N:List Str) (ds:List uV):Dn:=ds.map .sh++vW (N.length - ds.length) .un
noncomputable def fnD (N:List Str) (g:Dn->Out):List uV->Res uV:=fun ds=>match g (K6 N ds) with
 | .rt d=>.ok d
 | .nx _=>.ok .none
 | .exc c=>.exc c
 | _=>.no
theorem Gv {G H:Hp} (hG:Same G H) {ds:List uV} {vs:List V} (r:RepL G ds vs) (N:List Str):SSt G H G H (An N vs) (K6 N ds):=by
 have hl:=r.length;have noow:∀ (i:Nat) (d:uV),(K6 N ds)[i]? ≠ some (.ow d):=fun i d e=>by
   unfold K6 at e;by_cases hi:i < ds.length
   . rw [wY (by simpa using hi),wE] at e
     cases q:ds[i]? with
     | none=>rw [q] at e; cases e
     | some z=>rw [q] at e; cases e
   . rw [xE (by simpa using yX.mp hi),zB] at e
     split at e <;> cases e
 refine ⟨Grow.refl hG,⟨hG,by unfold L2.An K6; simp [hl],fun i s e=>?_,fun i j a d d' e _ _ _=>absurd e (noow i d)⟩,fun i d a e _=>absurd e (noow i d)⟩;unfold K6 at e;by_cases hi:i < ds.length
 . rw [wY (by simpa using hi),wE] at e
   cases q:ds[i]? with
   | none=>rw [q] at e; cases e
   | some z =>
     rw [q] at e; cases e;obtain ⟨v,e1,rv⟩:=r.get q; unfold L2.An; rw [wY (by rw [vA,<- hl]; exact hi),wE,e1];exact ⟨v,rfl,rv⟩
 . rw [xE (by simpa using yX.mp hi),zB] at e
   split at e <;> cases e
   trivial
structure Def (K:vB) (mg:Str->Option uY) (x:Str) (st:k8) (ps:List Str):Prop where
 ex:∃ f fd,L2.Fun K x x st f fd/\mg x=some (.ref f)/\Binds K fd ps []
theorem kE {x:Str} {st:k8} {ps:List Str} {n:Nat} {go:Dn->Out} {m:List uV->Res uV} {f:vG} {fd:AM} (F:L2.Fun K x x st f fd) (S:FnScope N ps (A4 st)) (hn:ps.length=n)
   (body:∀ X,Cxt P w K mg base X N (A4 st) k true->DSs X E0k (B4 st) go) (hm:m=fnD N go):FnOk P w K mg base CX0 (k+1) f fd ps (spD n m):=by
 subst hm;refine F.ok S (fun vs H Q E h=>?_) (fun cdv A outer s H vs Q E hr h=>?_)
 . obtain ⟨G,ds,d,_,r,hl,_⟩:=h
   rw [<- r.length,hl,hn]
 . obtain ⟨G,ds,d,hG,r,hl,em,q⟩:=h
   refine ⟨_,body _ ⟨rfl,rfl,rfl,rfl,rfl,rfl,rfl,rfl,hr,fun _ _=>rfl,AZ⟩ G H,G,_,Gv hG r N,?_⟩;unfold fnD at em;cases eg:go (K6 N ds) with
   | rt d'=>rw [eg] at em; cases em; exact fun v G' H' g r'=>q v G' H' g r'
   | nx δ=>rw [eg] at em; cases em; exact fun Z G' H' S'=>q _ G' H' S'.gr rfl
   | bk _=>rw [eg] at em; cases em
   | ct _=>rw [eg] at em; cases em
   | exc _=>rw [eg] at em; cases em
   | no=>rw [eg] at em; cases em
theorem X3 {x:Str} {st:k8} {ps:List Str} {n:Nat} {go:Dn->Out} {m:List uV->Res uV} (F:Def K mg x st ps) (S:FnScope N ps (A4 st)) (hn:ps.length=n)
   (body:∀ X,Cxt P w K mg base X N (A4 st) k true->DSs X E0k (B4 st) go) (hm:m=fnD N go):Fn P w K mg base x (k+1) n m:=by
 obtain ⟨f,fd,F,hmg,hb⟩:=F.ex;exact ⟨f,fd,ps,hn,kE F S hn body hm,hmg,F.kp,hb⟩
end
end Sm
end
noncomputable section
namespace Sm
open PySem PySem.Spec PyProof.Rows L2
theorem ObjOk.here {P:vU} {w:wD} {H:Hp} {h:wT} {a:vG} {o:HO} (x:ObjOk P w H h a o):∃ ob,h.get? a=some ob:=by
 cases o with
 | lst xs=>obtain ⟨_,_,_,_,e⟩:=x; exact ⟨_,e⟩
 | tup xs=>obtain ⟨_,_,_,ob,e,_⟩:=x; exact ⟨_,e⟩
 | dK kvs=>obtain ⟨_,_,_,_,o,_,_,e,_⟩:=x; exact ⟨_,e⟩
 | dT kvs=>obtain ⟨_,_,_,_,o,_,_,e,_⟩:=x; exact ⟨_,e⟩
 | dN kvs=>obtain ⟨_,_,_,_,_,_,_,e⟩:=x; exact ⟨_,e⟩
 | set S n=>obtain ⟨o,_,_,_,e,_⟩:=x; exact ⟨_,e⟩
 | ins C dx fs=>obtain ⟨_,_,_,e,_⟩:=x; exact ⟨_,e⟩
 | own y=>obtain ⟨_,e⟩:=x; exact ⟨_,e⟩
 | xd fs=>obtain ⟨_,⟨_,_,_,e,_⟩,_⟩:=x; exact ⟨_,e⟩
 | rng lo hi=>obtain ⟨_,_,_,e⟩:=x; exact ⟨_,e⟩
 | frz ob u=>obtain ⟨e,_⟩:=x; exact ⟨_,e⟩
 | tbl ps=>exact ⟨_,(show h.get? a=some _ from x)⟩
 | met f y=>exact ⟨_,(show h.get? a=some _ from x)⟩
 | ext φ=>obtain ⟨_,e,_⟩:=x; exact e
theorem HOk.gone {P:vU} {w:wD} {H:Hp} {h:wT} {a:vG} (x:HOk P w H h) (e:h.get? a=none):H a=none:=by
 cases q:H a with
 | none=>rfl
 | some o=>obtain ⟨ob,z⟩:=ObjOk.here (x a o q); rw [e] at z; cases z
def Made (h:wT) (H:Hp) (h0:wT) (a:vG) (c:uY):Prop :=
 ∃ oe vs a0,h.get? a=some oe/\oe.cls=c/\oe.data=.fields vs/\vs[0]? = some a0/\h0.get? a=none/\H a=none/\vs[1]? = some .none
def Fly (h:wT) (H:Hp) (h0:wT) (a:vG) (c:uY):Prop :=
 ∃ oe vs a0 T oT ts,h.get? a=some oe/\oe.cls=c/\oe.data=.fields vs/\vs[0]? = some a0/\h0.get? a=none/\H a=none/\vs[1]? = some (.ref T)/\T≠a/\h.get? T=some oT/\oT.data=.fields ts/\ts[3]? = some .none/\h0.get? T=none/\H T=none
structure Flown (P:vU) (w:wD) (fs:List vG) (H0:Hp) (h0:wT) (H':Hp) (h:wT) (a:vG) (c:uY):Prop where
 un:Un fs [] H0 H' h0 h
 hok:HOk P w H' h
 fly:Fly h H' h0 a c
theorem Dr {h base bs:wT}:∀ {l:List Env},h.FunFrames base l->(∀ b∈frs l,bs.get? b=none)->h.FunFrames bs l
 | [],_,_=>trivial
 | env::r,⟨hk,⟨L,o,hf,hn,ho,hd⟩,hr⟩,k=>by
   refine ⟨hk,⟨L,o,hf,k L (by unfold frs; rw [zH,hf]; exact xK),ho,hd⟩,Dr hr fun b hb=>k b ?_⟩;unfold frs at hb ⊢;rw [zH,hf]; exact xL _ hb
theorem Cn {P:vU} {w:wD} {fs:List vG} {H0 H':Hp} {h0 h h2 base bs:wT} {l l2:List Env} {hid:List vG} {a:vG} {c a0:uY} (un:Un fs [] H0 H' h0 h) (hok:HOk P w H' h) (ha:h0.get? a=none) (hHa:H' a=none)
   (hl:h.FunFrames base l) (hfree:∀ b∈frs l,H' b=none) (hfs:∀ b∈frs l,b∈fs\/h0.get? b=none) (hl2:∀ b∈frs l,b∈frs l2\/h0.get? b=none)
   (hbs:bs=BJ h (hid++frs l)) (hhid:∀ b∈hid,h0.get? b=none/\H' b=none)
   (st:bs.StaysIn h2) (ff:h2.FunFrames bs l2) (tr:h2.TracedW bs a c a0) (up:h.UpToSlots h2):Flown P w fs H0 h0 H' h2 a c:=by
 have inb:∀ b o,h.get? b=some o->b∉hid->b∉frs l->h2.get? b=some o:=fun b o e n1 n2=>st b o (by
   rw [hbs]; exact EL _ e fun z=>(vT.mp z).elim n1 n2)
 have nhid:∀ b o,h0.get? b=some o->b∉hid:=fun b o e z=>by rw [(hhid b z).1] at e; cases e
 have thid:∀ b o,H' b=some o->b∉hid:=fun b o e z=>by rw [(hhid b z).2] at e; cases e
 have tfr:∀ b o,H' b=some o->b∉frs l:=fun b o e z=>by rw [hfree b z] at e; cases e
 have slt:∀ b o,h.get? b=some o->b∈frs l->∃ sl,h2.get? b=some { o with slots:=sl }:=fun b o e hb=>by
   obtain ⟨_,o',ho',hd⟩:=hl.mem hb; rw [e] at ho'; cases ho'; exact up b o e hd
 refine ⟨⟨fun b o e n hb _=>?_,fun b o e n hb _=>?_,un.free,fun b o e _=>?_,un.tups,un.frzs,un.tbls⟩,fun b u e=>?_,?_⟩
 . refine inb b o (un.keep b o e n hb (by simp)) (nhid b o e) fun z=>?_
   rcases hfs b z with q | q
   . exact hb q
   . rw [q] at e; cases e
 . obtain ⟨sl,e1⟩:=un.slot b o e n hb (by simp)
   by_cases hf:b∈frs l
   . obtain ⟨sl2,e2⟩:=slt b _ e1 hf
     exact ⟨sl2,e2⟩
   . exact ⟨sl,inb b _ e1 (nhid b o e) hf⟩
 . obtain ⟨o',e1⟩:=un.there b o e (by simp)
   by_cases hf:b∈frs l
   . obtain ⟨sl2,e2⟩:=slt b _ e1 hf
     exact ⟨_,e2⟩
   . exact ⟨_,inb b _ e1 (nhid b o e) hf⟩
 . refine (hok b u e).stay (fun c' v hc q=>?_) (fun _ q=>q) fun _ _ q=>q
   have ht:∃ o,H' c'=some o:=by
     rcases hc with z | z
     . rw [z]; exact ⟨_,e⟩
     . exact ⟨_,z⟩
   obtain ⟨o,ht⟩:=ht; exact inb c' v q (thid c' o ht) (tfr c' o ht)
 . obtain ⟨oe,vs,T,oT,ts,he,⟨hcls,h0'⟩,hd,h1,hnT,hTe,hT,hdT,h3⟩:=tr
   have nin:∀ o,h.get? T=some o->T∈hid\/T∈frs l:=fun o e=>by
     by_cases z:T∈hid++frs l
     . exact vT.mp z
     . rw [hbs,EL _ e z] at hnT; cases hnT
   have hT0:h0.get? T=none:=by
     cases q:h0.get? T with
     | none=>rfl
     | some o =>
       obtain ⟨o',e1⟩:=un.there T o q (by simp);rcases nin o' e1 with z | z
       . rw [(hhid T z).1] at q; cases q
       . rcases hl2 T z with z' | z'
         . obtain ⟨_,o2,ho2,hd2⟩:=ff.mem z'
           rw [hT] at ho2; cases ho2;exact absurd hdT (hd2 _)
         . rw [z'] at q; cases q
   have hTH:H' T=none:=by
     cases q:H' T with
     | none=>rfl
     | some o =>
       obtain ⟨ob,e1⟩:=ObjOk.here (hok T o q); rcases nin ob e1 with z | z
       . rw [(hhid T z).2] at q; cases q
       . rw [hfree T z] at q; cases q
   exact ⟨oe,vs,a0,T,oT,ts,he,hcls,hd,h0',ha,hHa,h1,hTe,hT,hdT,h3,hT0,hTH⟩
noncomputable section
variable {P:vU} {w:wD} {M:HF} {A:xD} {E:uY->uZ->Prop} {s:uZ} {env:Env} {outer:List Env} {L a:vG} {c:uY} {fs:List vG} {H0 H':Hp} {h0 base:wT} {Q:Unit->uZ->Prop}
theorem Ke {h:wT} {l:List Env} (hl:h.FunFrames base l) {hid:List vG}:h.FunFrames (BJ h (hid++frs l)) l :=
 Dr hl fun b hb=>p5 _ (yY _ hb)
theorem Za (hfr:A.frames=some (env::outer)) (hl:s.heap.FunFrames base (env::outer)) (hf:env.frame=some L) (un:Un fs [] H0 H' h0 s.heap) (hok:HOk P w H' s.heap) (m:Made s.heap H' h0 a c)
   (hfree:∀ b∈frs (env::outer),H' b=none) (hfs:∀ b∈frs (env::outer),b∈fs\/h0.get? b=none)
   (h:∀ h',Flown P w fs H0 h0 H' h' a c->Q () { s with heap:=h' }):wpAny M A (leaving env (.ref a)) Q E s:=by
 obtain ⟨oe,vs,a0,e1,e2,e3,e4,e5,e6,e7⟩:=m;subst e2;refine wpAny_leaving_firstW (base:=BJ s.heap ([a]++frs (env::outer))) hfr (Ke hl) hf e1 (fun b o z=>ET _ z) (p5 _ (by simp)) e3 e7 e4 fun h' hY61=>?_;obtain ⟨k1,k2,k3,k4⟩:=hY61;refine h h' ?_;exact Cn un hok e5 e6 hl hfree hfs (fun b hb=>.inl hb) rfl (fun b hb=>by rw [vQ.mp hb]; exact ⟨e5,e6⟩) k1 k2 k3 k4
theorem Ft {h:wT} {l:List Env} (hl:h.FunFrames base l) (m:Fly h H' h0 a c):∃ T a0,Heap.FlyingW (BJ h ([a,T]++frs l)) l a c a0 h/\∀ b∈[a,T],h0.get? b=none/\H' b=none:=by
 obtain ⟨oe,vs,a0,T,oT,ts,e1,e2,e3,e4,e5,e6,e7,e8,e9,e10,e11,e12,e13⟩:=m;refine ⟨T,a0,⟨fun b o z=>ET _ z,p5 _ (by simp),Ke hl,oe,vs,T,oT,ts,e1,⟨e2,e4⟩,e3,e7,p5 _ (by simp),e8,e9,e10,e11⟩,fun b hb=>?_⟩;rcases vF.mp hb with z | z
 . rw [z]; exact ⟨e5,e6⟩
 . rw [vQ.mp z]; exact ⟨e12,e13⟩
theorem Fly.none {h:wT} (m:Fly h H' h0 a c):h0.get? a=none/\H' a=none:=by
 obtain ⟨oe,vs,a0,T,oT,ts,e1,e2,e3,e4,e5,e6,_⟩:=m;exact ⟨e5,e6⟩
theorem eK (hfr:A.frames=some (env::outer)) (hl:s.heap.FunFrames base (env::outer)) (hf:env.frame=some L) (F:Flown P w fs H0 h0 H' s.heap a c)
   (hfree:∀ b∈frs (env::outer),H' b=none) (hfs:∀ b∈frs (env::outer),b∈fs\/h0.get? b=none) (hL:h0.get? L=none)
   (h:∀ h',Flown P w fs H0 h0 H' h' a c->Q () { s with heap:=h' }):wpAny M A (leaving env (.ref a)) Q E s:=by
 obtain ⟨T,a0,FW,hh⟩:=Ft hl F.fly;refine wpAny_leaves_onW hfr hf FW fun h' hY62 k4=>?_;obtain ⟨k1,_,k2,k3⟩:=hY62;refine h h' ?_;refine Cn F.un F.hok F.fly.none.1 F.fly.none.2 hl hfree hfs (l2:=outer) (fun b hb=>?_) rfl hh k1 k2 k3 k4;unfold frs at hb;rw [zH,hf] at hb;rcases vF.mp hb with z | z
 . rw [z]; exact .inr hL
 . exact .inl z
theorem fH (hfr:A.frames=some (env::outer)) (hl:s.heap.FunFrames base (env::outer)) (hf:env.frame=some L) (F:Flown P w fs H0 h0 H' s.heap a c)
   (hfree:∀ b∈frs (env::outer),H' b=none) (hfs:∀ b∈frs (env::outer),b∈fs\/h0.get? b=none)
   (h:∀ h',Flown P w fs H0 h0 H' h' a c->h'.FunFrames base (env::outer)->Q () { s with heap:=h' }):wpAny M A (noteFrame (.ref a) env) (fun _ s2=>wpAny M A (setFlight (.ref a) none) Q E s2) E s:=by
 obtain ⟨T,a0,FW,hh⟩:=Ft hl F.fly;refine wpAny_looks_onW hfr hf FW fun h2 hH up2=>?_;refine wpAny_landsW hH fun h3 ⟨k1,_,k2,k3⟩ up3=>h h3 ?_ ?_
 . exact Cn F.un F.hok F.fly.none.1 F.fly.none.2 hl hfree hfs (l2:=env::outer) (fun b hb=>.inl hb) rfl hh k1 k2 k3 (up2.trans up3)
 . refine hl.of_keeps fun b o e hd=>?_
   obtain ⟨sl,e2⟩:=(up2.trans up3) b o e hd; exact ⟨_,e2,rfl⟩
theorem jS {l:List Env} (hl:s.heap.FunFrames base l) (F:Flown P w fs H0 h0 H' s.heap a c) (hfree:∀ b∈frs l,H' b=none) (hfs:∀ b∈frs l,b∈fs\/h0.get? b=none)
   (h:∀ h',Flown P w fs H0 h0 H' h' a c->Q () { s with heap:=h' }):wpAny M A (setFlight (.ref a) none) Q E s:=by
 obtain ⟨T,a0,FW,hh⟩:=Ft hl F.fly;refine lands_againW FW fun h3 hY63 up3=>?_;obtain ⟨k1,_,k2,k3⟩:=hY63;refine h h3 ?_;exact Cn F.un F.hok F.fly.none.1 F.fly.none.2 hl hfree hfs (l2:=l) (fun b hb=>.inl hb) rfl hh k1 k2 k3 up3
end
def CXe (P:vU) (w:wD):CXT:=fun outer H s E e s'=>∃ a c H',e=.ref a/\s'.os=s.os/\DY s'.gens/\Flown P w (frs outer) H s.heap H' s'.heap a c/\E c none H'
def Lv (X:Cx) (E:XK):Prop:=∀ (pins:List (vG×Obj)) (Z:St) (H:Hp) (s:uZ) (a:vG) (c:uY),Inv X pins Z H s->(Made s.heap H X.s₀.heap a c\/Fly s.heap H X.s₀.heap a c)->E c none H->X.xe (.ref a) s
theorem lv_of {P:vU} {w:wD} {K:vB} {mg:Str->Option uY} {base:wT} {N:List Str} {qual:Str} {scope:Scope} {f:vG} {cd:uY} {A:xD} {outer:List Env} {s:uZ} {H:Hp} {E:XK} :
   Lv (Zm (CXe P w) P w K mg base N qual scope f cd A outer s H E) E:=fun pins Z H' s' a c I m hE=>by
 have hL:(envOfC qual scope s.heap.objs.size f cd).frame=some s.heap.objs.size:=rfl;have hfs:∀ b∈frs (envOfC qual scope s.heap.objs.size f cd::outer),b∈frs outer\/s.heap.get? b=none:=fun b hb=>by
   unfold frs at hb; rw [zH,hL] at hb; rcases vF.mp hb with z | z
   . rw [z]; exact .inr (xS (vL _))
   . exact .inl z
 have fin:∀ h2,Flown P w (frs outer) H s.heap H' h2 a c->CXe P w outer H s E (.ref a) { s' with heap:=h2 }:=fun h2 F=>⟨a,c,H',rfl,I.os,I.bare,F,hE⟩;rcases m with m | m
 . exact Za I.ok.frames I.stack hL I.base I.hok m I.stkFree hfs fin
 . exact eK I.ok.frames I.stack hL ⟨I.base,I.hok,m⟩ I.stkFree hfs (xS (vL _)) fin
end Sm
end
noncomputable section
namespace Sm
open PySem PySem.Spec PyProof.Rows L2
def spX (n:Nat) (m:List uV->Res uV) (CN:vG):Sp:=fun vs H Q E=>∃ G ds,Same G H/\RepL G ds vs/\ds.length=n/\match m ds with
 | .ok d=>∀ v G' H',Grow G H G' H'->Rep G' d v->Q v H'
 | .exc _=>∀ G' H',Grow G H G' H'->E (.ref CN) none H'
 | .no=>False
structure FnX (P:vU) (w:wD) (K:vB) (mg:Str->Option uY) (base:wT) (CN:vG) (x:Str) (k n:Nat) (m:List uV->Res uV):Prop where
 ex:∃ f fd ps,ps.length=n/\FnOk P w K mg base (CXe P w) k f fd ps (spX n m CN)/\mg x=some (.ref f)/\xU K (.ref f)=true/\Binds K fd ps []
def eX (CN:vG) (E:XK):EK:=fun _ H=>E (.ref CN) none H
noncomputable section
variable {P:vU} {w:wD} {K:vB} {mg:Str->Option uY} {base:wT} {X:Cx} {N:List Str} {sc:Scope} {k:Nat} {df:Bool} {E:EK} {pos p:Pos} {a c e:Expr} {es:List Expr} {f g:Dn->Res uV} {fs:Dn->Res (List uV)} {x:Str} {CN:vG}
theorem fnX_D {x:Str} {st:k8} {ps:List Str} {n:Nat} {go:Dn->Out} {m:List uV->Res uV} (F:Def K mg x st ps) (S:FnScope N ps (A4 st)) (hn:ps.length=n)
   (body:∀ X E,Cxt P w K mg base X N (A4 st) k true->Lv X E->X.ex=[]->DSs X (eX CN E) (B4 st) go) (hm:m=fnD N go):FnX P w K mg base CN x (k+1) n m:=by
 obtain ⟨f,fd,F,hmg,hb⟩:=F.ex;have kp:=F.kp;obtain ⟨oc,od,kV,doc,pm,an,cdv,ct,osl,rfl,lk,hcd⟩:=F.ex;subst hm;refine ⟨f,_,ps,hn,qT lk hcd S (fun vs H Q E h=>?_) (fun A outer s H vs Q E hr h=>?_),hmg,kp,hb⟩
 . obtain ⟨G,ds,_,r,hl,_⟩:=h
   rw [<- r.length,hl,hn]
 . obtain ⟨G,ds,hG,r,hl,q⟩:=h
   refine ⟨_,body _ E ⟨rfl,rfl,rfl,rfl,rfl,rfl,rfl,rfl,hr,fun _ _=>rfl,PassesOwn.leaving⟩ lv_of rfl G H,G,_,Gv hG r N,?_⟩;unfold fnD at q;cases eg:go (K6 N ds) with
   | rt d'=>rw [eg] at q; exact fun v G' H' g r'=>q v G' H' g r'
   | nx δ=>rw [eg] at q; exact fun Z G' H' S'=>q _ G' H' S'.gr rfl
   | exc c=>rw [eg] at q; exact fun G' H' g=>q G' H' g
   | bk _=>rw [eg] at q; exact (show False from q).elim
   | ct _=>rw [eg] at q; exact (show False from q).elim
   | no=>rw [eg] at q; exact (show False from q).elim
noncomputable def noX (r:Res uV):Res uV:=match r with
 | .ok d=>.ok d
 | _=>.no
noncomputable def Xs (fs:Dn->Res (List uV)) (m:List uV->Res uV):Dn->Res uV:=fun δ=>(fs δ).bind fun ds=>noX (m ds)
theorem pD {j n:Nat} {m:List uV->Res uV} (C:Cxt P w K mg base X N sc k df) (F:Fn P w K mg base x j n m) (hj:j<=k) (h:okGl sc x=true) (ha:DA X E (e::es) n fs)
   (he:vI (e::es) X.env=(false,eval e X.env)::vI es X.env:=by rfl) (hpl:(yL pos (vI es X.env)).any (·.1)=false:=by rfl):DE X E (.Call (.Name x p) (e::es) [] pos) (Xs fs m):=by
 obtain ⟨f,fd,ps,hps,F,hm,hk,hb⟩:=F.ex;obtain ⟨h1,h2,h3⟩:=okGl.gl C h;have F':FnOk X.prog X.w X.K X.mg X.base CX0 j f fd ps (spD n m):=by rw [C.hP,C.hw,C.hK,C.hmg,C.hb]; exact F
 refine PE.imp (Ll F' (C.room.mono hj) h1 (by rw [C.hmg]; exact hm) (by rw [C.hK]; exact hk) (by rw [C.hK]; exact hb) .nil (aS (X:=X)) ha.pa h2 he hpl) fun Z H Q hY65=>?_;obtain ⟨G,δ,S,aft⟩:=hY65;refine T5 (W:=fun G H r=>Aft E G H r Q) S aft (fun g a=>Aft.grow g a) (fun c a=>a) (fun a=>a) fun ds vs G1 H1 e g1 r1 S1 a1=>?_;rw [wQ];cases q:m ds with
 | ok d=>rw [q] at a1; exact ⟨G1,ds,d,S1.sub,r1,ha.len δ ds e,q,a1⟩
 | exc c=>rw [q] at a1; exact (show False from a1).elim
 | no=>rw [q] at a1; exact (show False from a1).elim
noncomputable def Yv (d:uV):Bool:=isDisplay d&&d.showable && !d.hasDict&&decide (d.shown.length<=1000)&&decide (d.depth<=8)
structure ExcAt (K:vB) (mg:Str->Option uY) (x:Str) (C:vG):Prop where
 bound:mg x=some (.ref C)
 obj:PySem.W.excIn K C [.type "ValueError",.type "Exception",.type "BaseException",.type "object"] "ValueError.__new__" = true
theorem ExcAt.own {x:Str} {C:vG} (O:ExcAt K mg x C) {h:wT} (X:K.In h):OwnCls x C [.type "ValueError",.type "Exception",.type "BaseException",.type "object"] "ValueError.__new__" mg h:=by
 refine ⟨O.bound,?_⟩;have q:=O.obj;unfold PySem.W.excIn at q;split at q
 . rename_i dd cd sl ho
   split at q
   . rename_i C' bm k0 k1 k2 k3 n k5 hm hs
     simp only [vV,beq_iff_eq,zZ] at q; obtain ⟨⟨⟨⟨⟨rfl,rfl⟩,hdel⟩,ht⟩,hok⟩,hni⟩:=q; obtain ⟨nm,bs,mro,ns,qn,hd,sn,sub,ab,col,del⟩:=cd; dsimp only at hm hdel hok hni; subst hm hdel; have hsl:sl = #[k0,k1,k2,k3,some (.builtin "ValueError.__new__"),k5]:=by
       obtain ⟨l⟩:=sl; simp only at hs; rw [hs]
     subst hsl; exact ⟨bm,ns,nm,qn,bs,hd,sn,sub,ab,col,dd,k0,k1,k2,k3,k5,_,X _ _ ho,.of_isNs (PySem.W.isNs_of_in X hok),PySem.W.nsMap_none_of_in X hok hni,PySem.W.tail_of_in X ht⟩
   . cases q
 . cases q
theorem fmt_r {M:HF} {A:xD} {E:uY->uZ->Prop} {s:uZ} {env:Env} {value:Expr} {pos:Pos} {Q:uY->uZ->Prop}
   (h:wpAny M A (eval value env) (fun v s₁=>wpAny M A (pyReprObj v) (fun u s₂=>wpAny M A (formatField u BZ) Q E s₂) E s₁) E s):wpAny M A (eval (.FormattedValue value 114 none pos) env) Q E s:=by
 show wpAny M A (do let v <- eval value env; standAt pos; formatted pos (<- holding [v] (converted 114 v)) none) Q E s;refine uW (xT h (fun v s₁ h₁=>?_) fun _ _ x=>x);refine uW (wpAny_standAt ?_);show wpAny _ _ (do let v' <- holding [v] (pyReprObj v); formatField v' BZ) Q E s₁;exact uW (wZ h₁)
end
end Sm
end
noncomputable section
namespace Sm
open PySem PySem.Spec PyProof.Rows L2
noncomputable section
variable {X:Cx} {k:Nat} {E:EK} {p:Pos} {a b c e:Expr} {g:Dn->Res uV} {i:Nat} {tt:Dn->Res Bool}
noncomputable def cFz (i:Nat) (c:Dn->Res Bool):Dn->Res Bool:=fun δ=>c (fz i δ)
theorem SR.fz {G H:Hp} {Z:St} {δ:Dn} (S:SR G H Z δ) (i:Nat):∃ G',SR G' H Z (fz i δ):=by
 unfold Sm.fz;split
 . rename_i ds hi
   obtain ⟨p,hp,hg,xs,hx,r⟩:=S.sl i _ hi; have hv:Z[i]? = some (some (.ref p)):=by
     cases q:Z[i]? with
     | none=>rw [q] at hp; cases hp
     | some z=>rw [q] at hp; cases z with
       | none=>cases hp
       | some z=>cases hp; rfl
   have key:∀ (j:Nat) (d':uV),(δ.set i (.sh (.list ds)))[j]? = some (.ow d')->δ[j]? = some (.ow d')/\j≠i:=fun j d' e=>by
     rw [E1] at e;split at e
     . cases e
     . rename_i hn
       refine ⟨e,fun z=>?_⟩;subst z; exact hn ⟨rfl,(vY.mp hi).1⟩
   have sm:Same G (upd G p (.lst xs)):=Same.upd hg; have sub:Same (upd G p (.lst xs)) H:=fun b u e=>by
     by_cases hb:b=p
     . subst hb; rw [B8] at e; rw [hx]; exact e
     . rw [B7 hb] at e; exact S.sub _ _ e
   refine ⟨_,sub,by simp [S.len],fun j s e=>?_,fun j1 j2 a d1 d2 e1 e2 h1 h2=>S.ap j1 j2 a d1 d2 (key j1 d1 e1).1 (key j2 d2 e2).1 h1 h2⟩;by_cases hj:i=j/\i < δ.length
   . rw [E1,if_pos hj] at e
     cases e; rw [<- hj.1,hv]; exact ⟨_,rfl,p,xs,rfl,.inl B8,r.mono sm⟩
   . have e2:=e
     rw [E1,if_neg hj] at e2; have hs:=S.sl j s e2;cases s with
     | un=>trivial
     | sh d=>obtain ⟨v,e1,r1⟩:=hs; exact ⟨v,e1,r1.mono sm⟩
     | fd _=>exact FdOk.mono sm hs
     | ow d2 =>
       obtain ⟨a,e1,n1,ok⟩:=hs; have hne:a≠p:=by
         rintro rfl;exact (key j d2 e).2 (S.ap j i a d2 _ e2 hi e1 hp)
       refine ⟨a,e1,by rw [B7 hne]; exact n1,?_⟩;cases d2 with
       | list ds=>obtain ⟨xs,q,r⟩:=ok; exact ⟨xs,q,r.mono sm⟩
       | dict kvs=>obtain ⟨xs,q,k,r⟩:=ok; exact ⟨xs,q,k,r.mono sm⟩
       | tuple xs=>exact OwnK.keep sm (fun o q=>q) ok
       | _=>exact (show False from ok).elim
 . exact ⟨G,S⟩
theorem Yb (i:Nat) (h:DT X E c tt):DT X E c (cFz i tt):=PT.imp h fun Z H Q hZ3=>by
 obtain ⟨G,δ,S,a⟩:=hZ3;obtain ⟨G',S'⟩:=S.fz i;refine ⟨G',_,S',?_⟩;unfold cFz at a;cases e:tt (fz i δ) with
 | ok d=>rw [e] at a; exact fun G2 H2 g=>a G H2 ⟨Same.refl _,g.h,S.sub.trans g.h,fun _ _ z=>.inl z⟩
 | exc c=>rw [e] at a; exact fun G2 H2 g=>a G H2 ⟨Same.refl _,g.h,S.sub.trans g.h,fun _ _ z=>.inl z⟩
 | no=>rw [e] at a; exact a
end
end Sm
end
noncomputable section
namespace Sm
open PySem PySem.Spec
theorem Tj:ER (.type "list") "keys" = pure none:=by
 rw [j0,yZ]; kernel_rfl
theorem Tk:ER (.type "list") "__getattr__" = pure none:=by
 rw [j0,yZ]; kernel_rfl
noncomputable section
variable {prog:vU} {w:wD} {A:xD} {E:uY->uZ->Prop} {h:wT} {g:Array JK} {d:Drawn} {t:Nat} {os:OsState} {a:vG} {vs:Array uY} {n:Nat}
theorem eM {tk:Tok} {Q:Fin->uZ->Prop} (hA:A.handled=none) (hx:h.get? a=some { cls:=.type "list",data:=.seq vs n })
   (hq:∀ h' tk' e,Heap.NewAttrErr h h' e (.ref a) "keys" -> E (.ref e) ⟨h',g,d,tk',os⟩) :
   wpAny (vS prog w) A (yA.«object.__getattribute__» ⟨[.ref a,.str "keys" tk],[]⟩) Q E ⟨h,g,d,t,os⟩:=by
 have hT:(⟨h,g,d,t,os⟩:uZ).TypeIs (.ref a) "list" := ⟨_,hx,rfl⟩;have f4:=Tj;unfold yA.«object.__getattribute__»
 repeat (any_goals (first | assumption | wp_step))
 exact wpAny_raiseAttrError hA hq (attrMsg_fits (by decide +kernel) (by decide))
theorem eL {Q:Option uY->uZ->Prop} (hA:A.handled=none) (hx:h.get? a=some { cls:=.type "list",data:=.seq vs n })
   (hq:∀ h' tk',(∀ b o,h.get? b=some o->h'.get? b=some o)->Q none ⟨h',g,d,tk',os⟩):wpAny (vS prog w) A (getAttr? (.ref a) "keys") Q E ⟨h,g,d,t,os⟩:=by
 have hT:∀ s':uZ,s'.heap=h->s'.TypeIs (.ref a) "list" := fun s' e=>⟨_,by rw [e]; exact hx,rfl⟩;have f1:=sub_AttributeError;have f2:=F.slot_list_getattribute.lookup;have f3:=F.slot_list_getattribute.bind (.ref a);have f5:=Tk;unfold getAttr? getAttrBy? getAttrBy;refine uW (wpAny_mkText (uW (zK ?_)));have hT1:=hT ⟨h,g,d,t+1,os⟩ rfl
 repeat (any_goals (first | assumption | wp_step))
 refine BY F.slot_list_getattribute.plain F.entry_list_ga
   (F.slot_list_getattribute.check _ _ _ _ _ _ _ _ hT1 (F.args_list_getattribute_2 _ _)
     (eM hA hx fun h' tk' e hx'=>?_))
 obtain ⟨t',u',he⟩:=hx'.there;have kp:=hx'.keeps;show wpAny _ _ (getattributeRaised _ _ _ _ _ _ _) _ _ _;unfold getattributeRaised
 repeat (any_goals (first | assumption | wp_step))
 exact hq _ _ kp
end
end Sm
end
noncomputable section
namespace Sm
open PySem PySem.Spec PyProof.Rows L2
theorem Dc:GY table "dict.update.loop" = some yA.«dict.update.loop» := HS ⋯
theorem Da:plainId "dict.update.loop" = true:=by decide +kernel
end Sm
end
noncomputable section
namespace Sm
open PySem PySem.Spec PySem.Calls PyProof.Rows PySem.W Builtin Builtin.ObjectAttr Builtin.Getset_descriptor
structure XCls (K:Frag) (D:vG):Prop where
 cls:(clsIn K D).isSome=true
 ga:findIn K (.ref D) "__getattribute__" = some (some (.builtin "BaseException.__getattribute__"))
 sb:subIn K (.ref D) (.type "BaseException")=some true
 gh:findIn K (.ref D) "__getattr__" = some none
 cl:findIn K (.ref D) "__class__" = some (some (.builtin "object.__class__"))
 gt:specialIn K (.builtin "object.__class__") "__get__" = some (some (.builtin "getset_descriptor.__get__"))
 tk:takesIn K (.builtin "object.__class__")=some true
 ob:mroIn K D (.type "object")=some true
def ExcAt' (x D:vG) (h:wT):Prop:=∃ o,h.get? x=some o/\o.cls=.ref D
noncomputable section
variable {K:Frag} {x D:vG}
theorem ExcAt'.ty {M:HF} {h:wT} (e:ExcAt' x D h):Looks M h (typeOf (.ref x)) (.ref D):=by
 obtain ⟨o,e,c⟩:=e;exact c▸(Looks.ld e).andThen .now
theorem Zf {M:HF} {h:wT} (C:XCls K D) (X:K.In h):Looks M h (find (.ref x) (.ref D) "__class__") (.bind (.builtin "getset_descriptor.__get__") (.builtin "object.__class__")):=by
 have a1:=looks_findIn (M:=M) X C.cl;have a2:Looks M h (getOf (some (.builtin "object.__class__"))) (some (.builtin "getset_descriptor.__get__")):=looks_specialIn X C.gt;have a3:Looks M h (dataDescriptor? (some (.builtin "object.__class__")) (some (.builtin "getset_descriptor.__get__"))) (some (.builtin "getset_descriptor.__get__",.builtin "object.__class__")):=(looks_takesIn X C.tk).andThen .now;exact a1.andThen (a2.andThen (a3.andThen (Looks.tag .now)))
noncomputable section
variable {prog:vU} {w:wD} {A:xD} {s:uZ}
theorem Pu {R:Result->uZ->Prop} {tp:uY} (C:XCls K D) (X:K.In s.heap) (I:ExcAt' x D s.heap) (h:R (.ok (.ret (.ref D))) s) :
   BI (vS prog w) A (.call (.builtin "getset_descriptor.__get__") ⟨[.builtin "object.__class__",.ref x,tp],[]⟩) R s:=by
 obtain ⟨h0,gs,dr,tks,os⟩:=s;have l0:=I.ty (M:=vS prog w);have l1:=looks_mroIn (M:=vS prog w) X C.ob;refine BY KF.slot_gs.plain KF.entry_gs
   (KF.slot_gs.check _ _ _ _ _ _ _ _ KF.type_class (KF.args_gs _ _ _) ?_)
 unfold yA.«getset_descriptor.__get__»;unfold descrGet;rw [dga_obj];refine uW (uX ?_);unfold descrGetter descrCheckInstance;unfold descrNameAndClass isInstance;simp only [KF.owner_class]
 repeat lk
 refine ⟨CG _ (by decide +kernel),?_⟩;refine yV KF.entry_class ?_;unfold yA.«object.__class__»;unfold shownTypeOf
 repeat lk
 exact h
theorem fA {M:HF} {E:uY->uZ->Prop} {nv:uY} {Q:Unit->uZ->Prop} (C:XCls K D) (X:K.In s.heap) (I:ExcAt' x D s.heap) (hq:Q () s):wpAny M A (checkBuiltinCall "BaseException.__getattribute__" ⟨[.ref x,nv],[]⟩) Q E s:=by
 obtain ⟨h0,gs,dr,tks,os⟩:=s;have l0:=I.ty (M:=M);have l4:=looks_subIn (M:=M) X C.sb;have kd:builtinKind "BaseException.__getattribute__" = some .slot:=by decide +kernel
 have sp:splitId "BaseException.__getattribute__" = some ("BaseException", "__getattribute__"):=by decide +kernel
 have ha:=PySem.F.args_bexc_ga (.ref x) nv;simp only [checkBuiltinCall,kd,sp];refine uW ?_;unfold isInstance;refine uW (l0.at (l4.at ?_))
 repeat wp_step
 exact hq
theorem fB {E:uY->uZ->Prop} {Q:Option uY->uZ->Prop} (C:XCls K D) (X:K.In s.heap) (I:ExcAt' x D s.heap) (h:Q (some (.ref D)) { s with toks:=s.toks+1 }) :
   wpAny (vS prog w) A (getAttr? (.ref x) "__class__") Q E s:=by
 obtain ⟨h0,gs,dr,tks,os⟩:=s;have l0:=I.ty (M:=vS prog w);have l1:=looks_findIn (M:=vS prog w) X C.ga;have l2:=Zf (M:=vS prog w) (x:=x) C X;have l3:=looks_findIn (M:=vS prog w) X C.gh;have f3:=HJ.ga.bind (.ref x);unfold getAttr? getAttrBy? getAttrBy;refine uW (wpAny_mkText (uW (zK (wZ
   (uW (l0.at (uW (l1.at ?_))))))))
 show wpAny _ _ (getAttrByItsOwn _ _ _ _ _ _) _ _ _;unfold getAttrByItsOwn;refine uW ?_;show wpAny _ _ (ER _ _) _ _ _;refine l3.at (uW (zK (wZ ?_)));show wpAny _ _ (boundAndCalled _ _ _) _ _ _;unfold boundAndCalled;rw [f3];refine uW (uX (GI (BY HJ.ga.plain PySem.F.entry_bexc_ga (fA C X I ?_))));show wpAny _ _ (GU "__getattribute__" 1 ⟨[.ref x,.str "__class__" tks],[]⟩>>=_) _ _ _;refine uW (uX ?_);refine uW (uX (uW (l0.at (uW (l2.at ?_)))))
 show wpAny _ _ (holding [.builtin "object.__class__"] (call (.builtin "getset_descriptor.__get__") [.builtin "object.__class__",.ref x,.ref D])>>=ret) _ _ _;refine uW (wZ (GI (Pu C X I ?_)));exact uX (handed_on rfl (uX h))
end
theorem jT (C:XCls K D):KitX K (.ref x) (.ref D) (ExcAt' x D) where
 ty:=fun _ _ _ I=>I.ty
 it:=fun M h X _=>by
   have c:=C.cls; unfold clsIn at c;split at c
   . rename_i ho
     intro A Q E s k q; unfold isType loadHead; exact uW (wpAny_loadPart (k _ _ (X _ _ ho)) (uX q))
   . cases c
 ne:=fun h tp dd its n sl X htp=>by
   refine Bool.eq_false_iff.mpr fun q=>?_;have e:D=tp:=Value.ref.inj (beq_iff_eq.mp q); subst e; have c:=C.cls; unfold clsIn at c;split at c
   . rename_i ho
     have z:=(X _ _ ho).symm.trans htp; cases z
   . cases c
 ca:=fun X I k=>fB C X I k
end
theorem Wo {K:Frag} {M:HF} {A:xD} {E:uY->uZ->Prop} {s:uZ} {a CN CM:vG} {Q:Bool->uZ->Prop} (X:K.In s.heap) (I:ExcAt' a CN s.heap)
   (h1:subIn K (.ref CN) (.ref CM)=some true) (h2:instIn K (.ref CM) (.type "tuple")=some false) (h3:(clsIn K CM).isSome=true) (h4:subIn K (.ref CM) (.type "BaseException")=some true) (q:Q true s) :
   wpAny M A (excMatches (.ref a) (.ref CM)) Q E s:=by
 obtain ⟨h0,gs,dr,tks,os⟩:=s;have l0:=I.ty (M:=M);have l1:=looks_subIn (M:=M) X h1;have l2:=looks_instIn (M:=M) X h2;have l4:=looks_subIn (M:=M) X h4;have l3:Looks M h0 (isType (.ref CM)) true:=by
   unfold clsIn at h3;split at h3
   . rename_i ho
     intro A Q E s k q; unfold isType loadHead; exact uW (wpAny_loadPart (k _ _ (X _ _ ho)) (uX q))
   . cases h3
 have l5:Looks M h0 (isExcClass (.ref CM)) true:=by
   unfold isExcClass; exact l3.andThen (by simpa using l4)
 unfold excMatches
 repeat lk
 exact q
end Sm
end
noncomputable section
namespace Sm
open PySem PySem.Spec PyProof.Rows L2
def inX (X:Cx) (a:vG):Cx:={ X with A:=X.A.mark (some (.ref a)),calm:=false,xe:=fun _ _=>False }
noncomputable section
variable {X:Cx} {pins:List (vG×Obj)} {Z:St} {H:Hp} {s:uZ} {a:vG}
theorem Inv.inX (I:Inv X pins Z H s) (a:vG):Inv (inX X a) pins Z H s :=
 ⟨⟨I.ok.mod,I.ok.kind,I.ok.glob,I.ok.blt,I.ok.above,I.ok.inj,I.ok.has,I.ok.cab,(fun z=>by cases z),I.ok.frames,I.ok.stk,I.ok.exf,I.ok.bs,I.ok.bsz,I.ok.noex,I.ok.exfs,I.ok.funs,I.ok.frf⟩,I.os,I.bare,I.base,I.loc,I.cell,I.free,I.freeC,I.pin,I.hok,I.len⟩
theorem Inv.outX (I:Inv (Sm.inX X a) pins Z H s) (ok:X.Ok):Inv X pins Z H s:=⟨ok,I.os,I.bare,I.base,I.loc,I.cell,I.free,I.freeC,I.pin,I.hok,I.len⟩
theorem Inv.forget {h':wT} {t':Nat} {m':Str->Option uY} (I:Inv X pins Z H s) (hn:h'.Ns X.env.locals m') (hs:zT X.env.locals s.heap h'):Inv X pins (vW X.N.length none) H { s with heap:=h',toks:=t' }:=by
 have ne0:∀ b o,X.s₀.heap.get? b=some o->b≠X.env.locals:=fun b o e=>wL (wG (vR e) I.ok.above);refine ⟨I.ok,I.os,I.bare,⟨fun b o e n hb hx=>(hs.2 b (ne0 b o e)).trans (I.base.keep b o e n hb hx),fun b o e n hb hx=>?_,I.base.free,fun b o e hx=>?_,I.base.tups,I.base.frzs,I.base.tbls⟩,⟨m',hn,fun i x v e1 e2 e3=>?_⟩,fun x c e=>?_,I.free,I.freeC,fun p hp=>?_,fun b ob e=>?_,by simp⟩
 . obtain ⟨sl,e1⟩:=I.base.slot b o e n hb hx
   exact ⟨sl,(hs.2 b (ne0 b o e)).trans e1⟩
 . obtain ⟨o',e1⟩:=I.base.there b o e hx
   exact ⟨o',(hs.2 b (ne0 b o e)).trans e1⟩
 . rw [zB] at e2
   split at e2 <;> cases e2
 . obtain ⟨v,z⟩:=I.cell x c e
   exact ⟨v,z.sameBut hs (I.cne x c e)⟩
 . obtain ⟨e,n,ne,nf,d⟩:=I.pin p hp
   exact ⟨(hs.2 p.1 ne).trans e,n,ne,nf,d⟩
 . refine (I.hok b ob e).stay (fun c w' hc q=>(hs.2 c ?_).trans q) (fun _ q=>q) fun _ _ q=>q
   intro z; have hL:=I.free; rcases hc with r | r
   . rw [<- z,r,e] at hL; cases hL
   . rw [<- z,r] at hL; cases hL
noncomputable def clsV:V->Option uY
 | .ref C=>some (.ref C)
 | .ty T=>some (.type T)
 | _=>none
noncomputable def sA (K:vB) (a D:vG):List V->Hp->VK->Prop:=fun vs H Q=>∃ c cv b,vs=[.ref a,c]/\clsV c=some cv/\H a=some (.ext (ExcAt' a D))/\BU K (.ref D) cv=some b/\Q (.bl b) H
theorem Xd {D:vG} (C:XCls X.K D):U0 X (.builtin "isinstance") (sA X.K a D):=by
 rintro pins s Z H xs us Q I r ⟨c,cv,b,e0,ec,hH,hk,q⟩;subst e0;cases r with
 | cons r0 rr =>
   cases rr with
   | cons r1 rr =>
     cases rr; obtain ⟨rfl⟩:=(show _=yH a from r0);rename_i u2;have e2:u2=cv:=by
       cases c with
       | ref q=>cases ec; exact (show _=yH q from r1)
       | ty q=>cases ec; exact (show _=i8 q from r1)
       | _=>cases ec
     subst e2; obtain ⟨φ,_,_⟩:=(show ObjOk X.prog X.w H s.heap a (.ext (ExcAt' a D)) from I.hok a _ hH);exact PySem.W.kia_one (jT C) I.kIn φ hk (fun z=>nomatch z) fun tk=>⟨.bl b,H,I.tok tk,rfl,q⟩
theorem Wn {P:vU} {w:wD} {fs:List vG} {H0 H':Hp} {h0 h:wT} {a CN:vG} (F:Flown P w fs H0 h0 H' h a (.ref CN)):Un fs [] H0 (upd H' a (.ext (ExcAt' a CN))) h0 h/\HOk P w (upd H' a (.ext (ExcAt' a CN))) h:=by
 obtain ⟨oe,vs,a0,T,oT,ts,e1,e2,e3,e4,e5,e6,_⟩:=F.fly;have nt:∀ b o,H' b=some o->b≠a:=fun b o e z=>by rw [z,e6] at e; cases e
 refine ⟨⟨F.un.keep,F.un.slot,fun b o e n hx=>?_,F.un.there,fun b xs q=>?_,fun b o u q=>?_,fun b ps q=>?_⟩,fun b u q=>?_⟩
 . have:b≠a:=fun z=>by rw [z,e5] at e; cases e
   rw [B7 this]; exact F.un.free b o e n hx
 . have:=F.un.tups b xs q
   rw [B7 (nt _ _ this)]; exact this
 . have:=F.un.frzs b o u q
   rw [B7 (nt _ _ this)]; exact this
 . obtain ⟨more,this⟩:=F.un.tbls b ps q
   exact ⟨more,by rw [B7 (nt _ _ this)]; exact this⟩
 . by_cases hb:b=a
   . subst hb
     rw [B8] at q; cases q; refine ⟨⟨oe,e1,e2⟩,⟨oe,e1⟩,fun h1 h2 hZ2 k=>by obtain ⟨o,z1,z2⟩:=hZ2; exact ⟨o,k o z1,z2⟩⟩
   . rw [B7 hb] at q
     exact (F.hok b u q).stay (fun _ _ _ z=>z) (fun c z=>by rw [B7 (nt _ _ z)]; exact z) fun c xs z=>by rw [B7 (nt _ _ z)]; exact z
end
noncomputable def rQ (fs:Dn->Res (List uV)) (m:List uV->Res uV):Dn->Out:=fun δ=>K5 (fs δ) fun ds=>match m ds with
 | .ok d=>.rt d
 | .exc _=>.rt (.bool true)
 | .no=>.no
noncomputable section
variable {w:wD} {K:vB} {mg:Str->Option uY} {base:wT} {X:Cx} {N:List Str} {sc:Scope}
theorem okVar.at {i:Nat} {x:Str} (h:okVar N sc i x=true):N[i]? = some x/\Vis sc x/\(x==("__debug__" : Str))=false/\(x==("__classdict__" : Str))=false:=by
 unfold okVar at h;simp only [vV,zZ] at h;obtain ⟨⟨⟨h1,h2⟩,h3⟩,h4⟩:=h;refine ⟨zY h1,?_,h3,h4⟩;unfold Vis;cases q:sc.names.lookup x with
 | none=>rw [q] at h2; cases h2
 | some z =>
   rw [q] at h2;cases z with
   | «local» => exact .inl rfl
   | cell=>exact .inr (.inl rfl)
   | free=>exact .inr (.inr rfl)
   | _=>cases h2
theorem pN {X:Cx} {CX:CXT} {j:Nat} {f:vG} {fd:AM} {ps:List Str} {sp:Sp} {E:XK} {x:Str} {p pos:Pos} {e:Expr} {es:List Expr} {t:TA} {pins:List (vG×Obj)} {Z:St} {H:Hp} {s:uZ} {Q:VK}
   (F:FnOk X.prog X.w X.K X.mg X.base CX j f fd ps sp) (hr:Room j X.A) (hg:Gl X x) (hm:X.mg x=some (.ref f)) (hk:xU X.K (.ref f)=true) (hb:Binds X.K fd ps []) (ha:PA X (e::es) t) (I:Inv X pins Z H s) (h:t Z H fun vs H1=>sp vs H1 Q E)
   (hx:∀ H1 s1 e s',Inv X pins Z H1 s1->CX X.stack H1 s1 E e s'->X.xe e s') (hdb:(x==("__debug__" : Str))=false) (he:vI (e::es) X.env=(false,eval e X.env)::vI es X.env) (hpl:(yL pos (vI es X.env)).any (·.1)=false) :
   wpAny (vS X.prog X.w) X.A (eval (.Call (.Name x p) (e::es) [] pos) X.env) (EP X pins Z Q) X.xe s:=by
 refine n6 (Hm I hg hm ?_ hdb);refine JB (h₀:=X.base) I.ok.mod.kin hk (thn (ha pos pins s Z H _ I h) fun us s1 hY2=>?_) he hpl;obtain ⟨vs,H1,I1,r,q⟩:=hY2;refine ⟨I1.kIn,?_⟩;have hl:(us++[]).length=ps.length:=by rw [wQ,<- r.length]; exact F.len _ _ _ _ q
 have hbt:=hb s1 us I1.kIn hl;rw [wQ] at hbt;refine GI (o0 (F.run X.A X.stack s1 H1 ⟨us,[]⟩ us vs Q E hr I1.env0 hbt r q) fun r s' hq=>?_);cases r with
 | error e=>exact hx H1 s1 e s' I1 hq
 | ok fl =>
   cases fl with
   | ret u=>exact I1.after hq
   | next=>exact i3 hq
   | brk=>exact i3 hq
   | cont=>exact i3 hq
end
end Sm
end
noncomputable section
namespace Sm
open PySem PySem.SetTable
theorem Bs {xs:Array Nat} (hr:xs.toList.Pairwise (· < ·)) {a b d:Nat} (h:a < b) (hb:b < xs.size):xs.getD a d < xs.getD b d:=by
 have ha:a < xs.size:=by lia
 have:=(List.pairwise_iff_getElem.mp hr) a b (by simpa using ha) (by simpa using hb) h;simpa [DL,ha,hb] using this
theorem lB (xs:Array Nat) (j:Nat) (hr:xs.toList.Pairwise (· < ·)) :
   ∀ (fuel lo hi:Nat),lo<=hi->hi<=xs.size->hi - lo<=fuel->(∀ i,i < lo->xs.getD i j < j)->(∀ i,hi<=i->i < xs.size->j<=xs.getD i j) ->
     below.go xs j fuel lo hi<=hi/\(∀ i,i < below.go xs j fuel lo hi->xs.getD i j < j)/\(∀ i,below.go xs j fuel lo hi<=i->i < xs.size->j<=xs.getD i j):=by
 intro iN; induction iN with
 | zero =>
   intro lo hi h1 h2 h3 h4 h5; have:lo=hi:=by lia
   subst this; exact ⟨vL _,h4,h5⟩
 | succ fuel ih =>
   intro lo hi h1 h2 h3 h4 h5; unfold below.go;by_cases hl:lo < hi
   . rw [if_pos hl]
     by_cases hm:xs.getD ((lo+hi) / 2) j < j
     . simp only [hm,if_true]
       refine ih _ hi (by lia) h2 (by lia) ?_ h5;intro i hi';by_cases he:i=(lo+hi) / 2
       . subst he; exact hm
       . exact GD (Bs hr (by lia) (by lia)) hm
     . simp only [hm,if_false]
       have r:=ih lo ((lo+hi) / 2) (by lia) (by lia) (by lia) h4 (by
         intro i hi' hs;by_cases he:i=(lo+hi) / 2
         . subst he; lia
         . have:=Bs hr (d:=j) (show (lo+hi) / 2 < i by lia) hs
           lia)
       exact ⟨by lia,r.2⟩
   . rw [if_neg hl]
     have:lo=hi:=by lia
     subst this; exact ⟨vL _,h4,h5⟩
theorem Fz (xs:Array Nat) (j:Nat) (hr:xs.toList.Pairwise (· < ·)) :
   below xs j<=xs.size/\(∀ i,i < below xs j->xs.getD i j < j)/\(∀ i,below xs j<=i->i < xs.size->j<=xs.getD i j) :=
 lB xs j hr xs.size 0 xs.size (zL _) (vL _) (by lia) (fun _ h=>absurd h (Nat.not_lt_zero _)) (fun _ h h'=>absurd h' (by lia))
theorem lC {xs:Array Nat} (hr:xs.toList.Pairwise (· < ·)) {i j:Nat} (h:xs[i]? = some j):below xs j=i:=by
 obtain ⟨h1,h2,h3⟩:=Fz xs j hr;have hi:i < xs.size:=by
   rcases EA i xs.size with h' | h'
   . exact h'
   . rw [AO h'] at h; exact nomatch h
 have e:xs.getD i j=j:=by simp only [DL,hi,dif_pos]; rw [wX hi] at h; simpa using h
 rcases Nat.lt_trichotomy (below xs j) i with hl | hl | hl
 . have a:=h3 _ (vL _) (by lia)
   have b:=Bs hr (d:=j) hl hi;lia
 . exact hl
 . have:=h2 i hl; lia
theorem bF (j:Nat):has #[] j=false:=rfl
theorem dB {t:zN} (hr:t.place.toList.Pairwise (· < ·)) {i j:Nat} (h:t.place[i]? = some j):t.slot j=.live i:=by
 unfold slot;simp only [lC hr h,h,beq_self_eq_true,if_true]
theorem few:∀ (n:Nat) (L:List Nat),(∀ e,e < n->e∈L)->n<=L.length:=by
 intro iN; induction iN with
 | zero=>intro _ _; exact zL _
 | succ n ih =>
   intro L h; have a:=h n (by lia);have b:=ih (L.erase n) (fun e he=>(List.mem_erase_of_ne (by lia)).mpr (h e (by lia)));have c:=List.length_erase_of_mem a; have d:=List.length_pos_of_mem a;lia
theorem room {L:List Nat} {mask:Nat} (h:L.length<=mask):∃ e,e<=mask/\e∉L:=by
 by_cases c:∃ e,e<=mask/\e∉L
 . exact c
 . have:=few (mask+1) L (fun e he=>p8 fun hn=>c ⟨e,by lia,hn⟩)
   lia
end Sm
end
noncomputable section
namespace Sm
open PySem PySem.SetTable
theorem eE {t:zN} {j:Nat} (h:j∈t.place.toList):∃ i:Nat,t.place[i]? = some j:=by
 rw [<- Array.mem_def] at h;obtain ⟨i,hi,e⟩:=Array.getElem_of_mem h;exact ⟨i,by rw [wX hi,e]⟩
theorem Ps {xs:Array Nat} (hr:xs.toList.Pairwise (· < ·)) {j:Nat} (hj:j∉xs.toList):(insertAt xs (below xs j) j).toList.Pairwise (· < ·):=by
 obtain ⟨h1,h2,h3⟩:=Fz xs j hr;rw [SetTable.toList_insertAt,zW];have ht:∀ a,a∈xs.toList.take (below xs j)->a < j:=by
   intro a ha; obtain ⟨i,hi,e⟩:=EY ha; have hi':i < below xs j:=by simp at hi; lia
   have:=h2 i hi'; have hs:i < xs.size:=by lia
   simp only [List.getElem_take,JL] at e;simpa [DL,hs,e] using this
 have hd:∀ a,a∈xs.toList.drop (below xs j)->j < a:=by
   intro a ha; have hm:=JP ha; obtain ⟨i,hi,e⟩:=EY ha; simp only [List.getElem_drop,JL] at e; simp at hi;have:=h3 (below xs j+i) (by lia) (by lia);have hs:below xs j+i < xs.size:=by lia
   simp [DL,hs,e] at this;rcases EA j a with c | c
   . exact c
   . have:j=a:=by lia
     subst this; exact absurd hm hj
 refine ⟨hr.sublist (FU _ _),?_,?_⟩
 . rw [wP]
   exact ⟨hd,hr.sublist (List.drop_sublist _ _)⟩
 . intro a ha b hb
   rw [vF] at hb; rcases hb with hb | hb
   . subst hb; exact ht a ha
   . exact GD (ht a ha) (hd b hb)
end Sm
end
noncomputable section
namespace Sm
open PySem PySem.SetTable
end Sm
end
noncomputable section
namespace Sm
open PySem PySem.SetTable
noncomputable def Yz (mask:Nat) (ow:Array (Option Nat)):List (Nat×Nat):=(wS (mask+1)).filterMap fun j=>(ow.getD j none).map (j,·)
theorem jQ (mask:Nat) (ow:Array (Option Nat)):(Yz mask ow).Pairwise (fun a b=>a.1 < b.1):=by
 unfold Yz;rw [List.pairwise_filterMap];refine DR.imp ?_;intro a b hab x hx y hy;rw [xG] at hx hy;obtain ⟨_,_,rfl⟩:=hx;obtain ⟨_,_,rfl⟩:=hy;exact hab
end Sm
end
noncomputable section
namespace Sm
open PySem PySem.SetTable
structure Elems (prog:vU) (w:wD) (A:xD) (E:uY->uZ->Prop) (a:vG) where
 D:Type
 dec:DecidableEq D
 I:uZ->Prop
 R:uY->D->Prop
 hash:D->Int
 heap:∀ {s:uZ} {h':wT},I s->zT a s.heap h'->I { s with heap:=h' }
 toks:∀ {s:uZ} (tk:Nat),I s->I { s with toks:=tk }
 ref:∀ {v:uY} {d:D},R v d->∃ b,v=.ref b
 eqB:∀ {s:uZ} {y x:uY} {d d':D} {Q:Bool->uZ->Prop},I s->R y d->R x d'->Q (@decide (d=d') (dec d d')) s->wpAny (vS prog w) A (eqBool y x) Q E s
 byV:∀ {s:uZ} {x:uY} {d:D} {Q:Bool->uZ->Prop},I s->R x d->(∀ b,Q b s)->wpAny (vS prog w) A (hashByValue 8 x) Q E s
 seen:∀ {s:uZ} {x:uY} {d:D} {ys:List uY} {Q:Bool->uZ->Prop},I s->R x d->(∀ y,y∈ys->∃ d',R y d')->Q false s->wpAny (vS prog w) A (searchCouldBeSeen x ys) Q E s
end Sm
end
noncomputable section
namespace Sm
open PySem PySem.SetTable
end Sm
end
noncomputable section
namespace Sm
open PySem PySem.SetTable
open L2 (isK El Wj Ee)
mutual
theorem eqvK:∀ (a b:uV),isK a=true->isK b=true->(vN a b=true↔a=b)
 | .int i,.int j,_,_=>by simp [vN]
 | .str x,.str y,_,_=>by simp [vN]
 | .tuple xs,.tuple ys,ha,hb=>by
   simp only [vN,HK]; exact qU xs ys (by simpa [isK] using ha) (by simpa [isK] using hb)
 | .int _,.str _,_,_ | .int _,.tuple _,_,_ | .str _,.int _,_,_ | .str _,.tuple _,_,_ | .tuple _,.int _,_,_ | .tuple _,.str _,_,_=>by simp [vN]
 | .none,_,h,_ | .bool _,_,h,_ | .list _,_,h,_ | .dict _,_,h,_=>by simp [isK] at h
 | .int _,.none,_,h | .int _,.bool _,_,h | .int _,.list _,_,h | .int _,.dict _,_,h=>by simp [isK] at h
 | .str _,.none,_,h | .str _,.bool _,_,h | .str _,.list _,_,h | .str _,.dict _,_,h=>by simp [isK] at h
 | .tuple _,.none,_,h | .tuple _,.bool _,_,h | .tuple _,.list _,_,h | .tuple _,.dict _,_,h=>by simp [isK] at h
theorem qU:∀ (a b:List uV),El a=true->El b=true->(y9 a b=true↔a=b)
 | [],[],_,_=>by simp [y9]
 | [],_::_,_,_=>by simp [y9]
 | _::_,[],_,_=>by simp [y9]
 | x::xs,y::ys,ha,hb=>by
   simp only [El,vV] at ha hb; simp only [y9,vV,w8]; rw [eqvK x y ha.1 hb.1,qU xs ys ha.2 hb.2]
end
noncomputable section
variable {prog:vU} {w:wD} {E:uY->uZ->Prop}
mutual
theorem Ob:∀ (k:uV) (v:uY) (as:List vG) (A:xD) (s:uZ) (Q:Int->uZ->Prop),isK k=true->Reads s.heap v k as->A.units+k.depth < zE ->
   (∀ tk,s.toks<=tk->Q (Wj w k) { s with toks:=tk })->wpAny (vS prog w) A (pyHash v) Q E s
 | .int i,_,_,A,s,Q,_,x,_,h=>by cases x; exact wpAny_pyHash_int (h _ (AK _))
 | .str y,_,_,A,s,Q,_,x,_,h=>by cases x; exact wpAny_pyHash_str (h _ (AK _))
 | .tuple xs,_,_,A,s,Q,hk,x,hu,h=>by
   cases x with
   | tuple hg hc hd hr =>
     rename_i _ a o vs n;refine PySem.W.pyHash_slot (T := "tuple") ⟨_,hg,hc⟩ F.slot_tuple_hash F.entry_tuple_hash (F.args_tuple_hash_1 _) (HU _) (.inr (by lia)) ?_;show wpAny _ _ (l8 (.ref a)>>=_) _ _ s;refine uW (wpAny_tupleItemsOf hg hd ?_); refine uW ?_; rw [<- Array.forIn_toList]; refine Rb xs _ _ A.in1 s #[] _ (by simpa [isK] using hk) hr (by simp only [yF,Around.in1_units] at hu ⊢; lia) fun tk b ht hb=>?_;show wpAny _ _ (retInt (FL b.toList)) _ _ _;rw [hb]; exact uW (wpAny_mkInt (uX ⟨_,_,rfl,h _ (CU ht)⟩))
 | .none,_,_,_,_,_,hk,_,_,_ | .bool _,_,_,_,_,_,hk,_,_,_ | .list _,_,_,_,_,_,hk,_,_,_ | .dict _,_,_,_,_,_,hk,_,_,_=>by simp [isK] at hk
theorem Rb:∀ (xs:List uV) (vs:List uY) (as:List vG) (A:xD) (s:uZ) (b:Array Int) (Q:Array Int->uZ->Prop),El xs=true->JA s.heap vs xs as ->
   A.units+xJ xs < zE->(∀ tk b',s.toks<=tk->b'.toList=b.toList++Ee w xs->Q b' { s with toks:=tk }) ->
   wpAny (vS prog w) A (forIn vs b fun x r=>do let h <- pyHash x; pure PUnit.unit; pure (i4 (r.push h))) Q E s
 | [],_,_,A,s,b,Q,_,x,_,h=>by cases x; exact uX (h s.toks b (vL _) (by simp [Ee]))
 | k::xs,_,_,A,s,b,Q,hk,x,hu,h=>by
   cases x with
   | cons x1 x2 =>
     simp only [El,vV,xJ] at hk hu; rw [GQ]; refine uW (uW (Ob k _ _ A s _ hk.1 x1 (by lia) fun tk ht=>?_));refine uW (uX (uX ?_)); exact Rb xs _ _ A _ _ Q hk.2 x2 (by lia) fun tk' b' ht' hb=>h tk' b' (vX ht ht') (by simp [hb,Ee])
end
end
noncomputable section
variable {prog:vU} {w:wD} {A:xD} {E:uY->uZ->Prop}
mutual
theorem Kc:∀ (fuel:Nat) (k:uV) (v:uY) (as:List vG) (s:uZ) (Q:Bool->uZ->Prop),isK k=true->k.depth<=fuel->Reads s.heap v k as->Q true s ->
   wpAny (vS prog w) A (eqIsQuiet fuel v) Q E s
 | fuel,.int _,_,_,s,Q,_,_,x,h=>by cases x; rw [eqIsQuiet_byValue _ rfl]; exact uX h
 | fuel,.str _,_,_,s,Q,_,_,x,h=>by cases x; rw [eqIsQuiet_byValue _ rfl]; exact uX h
 | 0,.tuple _,_,_,s,Q,_,hd,x,h=>by simp [yF] at hd
 | fuel+1,.tuple xs,_,_,s,Q,hk,hdp,x,h=>by
   cases x with
   | tuple hg hc hd hr =>
     rename_i _ a o vs n;have hT:s.TypeIs (.ref a) "tuple" := ⟨_,hg,hc⟩; unfold eqIsQuiet; refine uW (c9 hT F.slot_tuple_eq.lookup ?_); show wpAny _ _ (isInstance (.ref a) (.type "tuple")>>=_) _ _ s;refine uW (AC hT isSubtype_tuple_tuple ?_); simp only [FH,wU,if_false]; refine uW (IM hg hd ?_); refine uW ?_; show wpAny _ _ (forIn vs _ _) _ _ s;rw [<- Array.forIn_toList]; refine Nm fuel xs _ _ s _ (by simpa [isK] using hk) (by simp only [yF] at hdp; lia) hr ?_;exact uX h
 | _,.none,_,_,_,_,hk,_,_,_ | _,.bool _,_,_,_,_,hk,_,_,_ | _,.list _,_,_,_,_,hk,_,_,_ | _,.dict _,_,_,_,_,hk,_,_,_=>by simp [isK] at hk
theorem Nm:∀ (fuel:Nat) (xs:List uV) (vs:List uY) (as:List vG) (s:uZ) (Q:Option Bool×Unit->uZ->Prop),El xs=true->xJ xs<=fuel->JA s.heap vs xs as ->
   Q (none,()) s ->
   wpAny (vS prog w) A (forIn vs ((none,()):Option Bool×Unit) fun x r=>do
     let b <- eqIsQuiet fuel x
     if (!b)=true then pure (ForInStep.done (some false,())) else do
       pure PUnit.unit
       pure (i4 (none,()))) Q E s
 | _,[],_,_,s,Q,_,_,x,h1=>by cases x; exact uX h1
 | fuel,k::xs,_,_,s,Q,hk,hdp,x,h1=>by
   cases x with
   | cons x1 x2 =>
     simp only [El,vV,xJ] at hk hdp; rw [GQ]; refine uW (uW (Kc fuel k _ _ s _ hk.1 (by lia) x1 ?_));simp only [FH,wU,if_false]; exact uX (Nm fuel xs _ _ s Q hk.2 (by lia) x2 h1)
end
end
end Sm
end
noncomputable section
namespace Sm
open PySem PySem.Spec PyProof.Rows L2
noncomputable section
variable {X:Cx} {E:EK} {a c e:Expr} {f g:Dn->Res uV} {i:Nat}
noncomputable def Zd:uV->Bool
 | .none=>true
 | .bool _=>true
 | .int _=>true
 | .str _=>true
 | _=>false
theorem Rep.atom {G G':Hp} {d:uV} {v:V} (r:Rep G d v) (h:Zd d=true):Rep G' d v:=by
 cases d with
 | none=>exact r
 | bool _=>exact r
 | int _=>exact r
 | str _=>exact r
 | _=>cases h
noncomputable def vFz (i:Nat) (f:Dn->Res uV):Dn->Res uV:=fun δ=>(f (fz i δ)).bind fun d=>if Zd d=true then .ok d else .no
theorem uE (i:Nat) (h:DE X E e f):DE X E e (vFz i f):=PE.imp h fun Z H Q hZ3=>by
 obtain ⟨G,δ,S,a⟩:=hZ3;obtain ⟨G',S'⟩:=S.fz i;refine ⟨G',_,S',?_⟩;unfold vFz at a;cases q:f (fz i δ) with
 | ok d =>
   rw [q] at a; simp only [Res.bind] at a;split at a
   . rename_i hd
     exact fun v G2 H2 g r=>a v G H2 ⟨Same.refl _,g.h,S.sub.trans g.h,fun _ _ z=>.inl z⟩ (r.atom hd)
   . exact (show False from a).elim
 | exc c=>rw [q] at a; exact fun G2 H2 g=>a G H2 ⟨Same.refl _,g.h,S.sub.trans g.h,fun _ _ z=>.inl z⟩
 | no=>rw [q] at a; exact a
end
end Sm
end
noncomputable section
namespace Sm
open PySem PySem.Spec PyProof.Rows L2 PySem.Builtin.Str
noncomputable section
variable {P:vU} {w:wD} {K:vB} {mg:Str->Option uY} {base:wT} {X:Cx} {N:List Str} {sc:Scope} {k:Nat} {df:Bool} {E:EK} {pos p:Pos} {a b e:Expr} {fs:Dn->Res (List uV)} {x:Str} {i:Nat}
noncomputable def Jh:List uV->Option (List Int)
 | []=>some []
 | .int i::ds=>(Jh ds).map (i::·)
 | _::_=>none
noncomputable def sV:List Int->Option Int
 | []=>none
 | i::r=>some (r.foldl max i)
noncomputable def Wx:List uV->Option uV
 | [.list ds]=>((Jh ds).bind sV).map .int
 | _=>none
theorem Wg {G:Hp}:∀ {ds:List uV} {xs:List V} {us:List uY} {is:List Int},RepL G ds xs->Vals xs us->Jh ds=some is->us.length=is.length/\∀ (j:Nat) (v:uY),us[j]? = some v->∃ t,v=EO ((is[j]?).getD 0) t
 | [],_,_,_,r,q,e=>by cases (show _=_ from r); cases q; cases e; exact ⟨rfl,fun j v h=>by simp at h⟩
 | .int b::ds,_,_,_,r,q,e=>by
   obtain ⟨x,t,rfl,h,l⟩:=r;cases (show _=_ from h);cases q with
   | cons q qs =>
     obtain ⟨tk,rfl⟩:=q; obtain ⟨is,e1,rfl⟩:=xG.mp e; obtain ⟨h1,h2⟩:=Wg l qs e1; refine ⟨by simp [h1],fun j v h=>?_⟩;cases j with
     | zero=>cases h; exact ⟨tk,rfl⟩
     | succ j=>exact h2 j v h
 | .none::_,_,_,_,_,_,e=>by cases e
 | .bool _::_,_,_,_,_,_,e=>by cases e
 | .str _::_,_,_,_,_,_,e=>by cases e
 | .list _::_,_,_,_,_,_,e=>by cases e
 | .tuple _::_,_,_,_,_,_,e=>by cases e
 | .dict _::_,_,_,_,_,_,e=>by cases e
theorem Tp:∀ (r:List Int) (i M:Int),i<=M->(∀ a∈r,a<=M)->r.foldl max i<=M:=by
 intro iN; induction iN with
 | nil=>intro _ _ h _; exact h
 | cons a r ih=>intro i M h q; exact ih _ M (by have:=q a (.head _); lia) fun b hb=>q b (.tail _ hb)
theorem Tl:∀ (r:List Int) (i:Int),i<=r.foldl max i/\∀ a∈r,a<=r.foldl max i:=by
 intro iN; induction iN with
 | nil=>intro i; exact ⟨Int.le_refl _,fun _ h=>nomatch h⟩
 | cons a r ih =>
   intro i; obtain ⟨h1,h2⟩:=ih (max i a); refine ⟨by simp only [AG]; lia,fun b hb=>?_⟩;cases hb with
   | head=>simp only [AG]; lia
   | tail _ hb=>exact h2 b hb
theorem eG {is:List Int} {M:Int} (e:sV is=some M):((is[argBest (fun i j=>decide ((is[i]?).getD 0>(is[j]?).getD 0)) (is.length - 1)]?).getD 0)=M/\0 < is.length:=by
 cases is with
 | nil=>cases e
 | cons i r =>
   have e':r.foldl max i=M:=by cases e; rfl
   obtain ⟨h1,h2⟩:=argBest_gt (fun j=>((i::r)[j]?).getD 0) ((i::r).length - 1);refine ⟨?_,by simp⟩;generalize hB:argBest (fun a b=>decide (((i::r)[a]?).getD 0>((i::r)[b]?).getD 0)) ((i::r).length - 1)=B at *;have hlt:B < (i::r).length:=by simp only [vP] at h1 ⊢; lia
   obtain ⟨l1,l2⟩:=Tl r i; rw [e'] at l1 l2; apply Int.le_antisymm
   . rw [wC hlt]
     simp only [Option.getD_some]; have hm:=BB hlt;cases vF.mp hm with
     | inl z=>lia
     | inr z=>exact l2 _ z
   . rw [<- e']
     refine Tp r i _ ?_ fun a ha=>?_
     . have:=h2 0 (zL _)
       simpa using this
     . obtain ⟨j,hj,rfl⟩:=EY ha
       have:=h2 (j+1) (by simp only [vP]; lia);rw [DH,wC hj] at this; exact this
theorem Zp (hc:X.calm=true):U0 X (.builtin "max") (rCD Wx):=by
 rintro pins s Z H xs us Q I r ⟨G,ds,d,hG,rl,e,q⟩;unfold Wx at e;split at e
 . rename_i ys
   obtain ⟨M,e1,rfl⟩:=xG.mp e; obtain ⟨is,e0,e1⟩:=AF.mp e1; obtain ⟨v,rfl,a,vs,rfl,h1,l1⟩:=Iu rl; obtain ⟨u,rfl,ru⟩:=Lx r; cases ru; obtain ⟨z,its,n,rv,e2⟩:=V2 I hG h1; obtain ⟨hb1,hb2⟩:=Wg l1 rv e0; obtain ⟨m1,m2⟩:=eG e1; have hl:s.heap.IsList a its.toArray:=⟨_,e2,rfl,n,rfl⟩; have hlt:a < s.heap.objs.size:=vR e2; refine call_max_walk (DP hl ?_); refine ⟨s.heap.objs.size,[s.heap.objs.size,a],[s.heap.objs.size],its.toArray.size,_,_,fun i j=>decide ((is[i]?).getD 0>(is[j]?).getD 0),rfl,Walks.list (A:=X.A.in1) (I.ok.hd hc) _ a (wL hlt) its.toArray,
     ⟨⟨_,vH _ rfl,rfl,rfl⟩,hl.push _⟩,?_,?_,CmpOf.ints_gt (fun j=>(is[j]?).getD 0) (fun j v hP=>hb2 j v (by simpa using hP)),fun v h' tk hP hk=>?_⟩
   . intro b hb
     simp only [vF,BA,or_false] at hb; rcases hb with rfl | rfl
     . exact vR (vH _ rfl)
     . exact vR (vD _ e2)
   . rw [vO,hb1]; exact m2
   . have hP':its[argBest (fun i j=>decide ((is[i]?).getD 0>(is[j]?).getD 0)) (its.toArray.size - 1)]? = some v:=by simpa using hP
     rw [vO,hb1] at hP'; obtain ⟨t,rfl⟩:=hb2 _ _ hP'; rw [m1]; exact ⟨.int M,H,I.kept (oD hk),⟨t,rfl⟩,q _ G H (Grow.refl hG) rfl⟩
 . cases e
theorem uF (C:Cxt P w K mg base X N sc k df) (h:okGl sc "max" = true) (hm:mg "max" = none) (ha:DA X E [e] 1 fs)
   (he:vI [e] X.env=(false,eval e X.env)::vI [] X.env:=by rfl) (hpl:(yL pos (vI [] X.env)).any (·.1)=false:=by rfl):DE X E (.Call (.Name "max" p) [e] [] pos) (vFn fs Wx) :=
 Ww C (Zp C.calm) h hm (by decide +kernel) ha he hpl
end
end Sm
end
noncomputable section
namespace Sm
open PySem PySem.Spec PyProof.Rows L2
end Sm
end
noncomputable section
namespace Sm
open PySem PySem.Spec PyProof.Rows L2
end Sm
end
noncomputable section
namespace Sm
open PySem PySem.Spec PyProof.Rows L2
end Sm
end
noncomputable section
namespace Sm
open PySem PySem.Spec PyProof.Rows L2
open AutoSeq1 (wpAny_loadPart')
end Sm
end
noncomputable section
namespace Sm
open PySem PySem.Spec PyProof.Rows L2
end Sm
end
noncomputable section
namespace Sm
open PySem PySem.W PyProof.Rows
noncomputable section
variable {prog:vU} {w:wD} {A:xD} {E:uY->uZ->Prop} {s:uZ}
theorem Tw {T:String} {r d:vG} {n:Nat} {P:Nat->uY->Prop} {OK:wT->Prop} {Q:List uY->uZ->Prop} (K:KdlSrc prog w T r d n P OK) (hh:A.handled=none) (hok:OK s.heap) (hn:n<=sizeLine)
   (hQ:∀ (h':wT) tk acc,(∀ b o,s.heap.get? b=some o->h'.get? b=some o)->ItemsOf P acc n->Q acc.toList { s with heap:=h',toks:=tk }):wpAny (vS prog w) A (collect (.ref r)) Q E s:=by
 have hlt:=K.there _ hok;have hS:(s.heap.push { cls:=.type "list",data:=.seq ([]:List uY).toArray }).get? s.heap.objs.size=some { cls:=.type "list",data:=.seq #[] 0 }:=vH _ rfl;unfold collect;refine uW (IN (yV F.entry_proto_collect ?_));rw [yB F.plain_proto_collect _];refine uW (wH (uX ⟨AL F.plain_list_iadd _,yV F.entry_list_iadd ?_⟩));rw [yB F.plain_list_iadd _];refine xT (kdl_extend (A:=A) (s:={ s with heap:=s.heap.push { cls:=.type "list",data:=.seq ([]:List uY).toArray } })
   (R:=fun res s'=>∃ h' tk acc c,res=.ok (.ret (.ref s.heap.objs.size))/\s'={ s with heap:=h',toks:=tk }/\(∀ b o,s.heap.get? b=some o->h'.get? b=some o) /\
     h'.get? s.heap.objs.size=some { cls:=.type "list",dict:=none,data:=.seq acc c,slots := #[] }/\ItemsOf P acc n)
   K hh (K.keep _ _ hok fun b _ o e=>vD _ e) s.heap.objs.size (m8 hlt.1) (m8 hlt.2) (.ref s.heap.objs.size) 0 hS
   (fun h' tk acc c hk hS' hacc=>⟨h',tk,acc,c,rfl,rfl,fun b o e=>hk b o (wL (vR e)) (vD _ e),hS',hacc⟩) hn) (fun fin s' h=>?_) (fun e s' h=>?_)
 . cases fin with
   | done f =>
     obtain ⟨h',tk,acc,c,e,rfl,hk,hS',hacc⟩:=h; cases e; exact uW (IP hS' (uX (hQ h' tk acc hk hacc)))
   | again c' =>
     refine ⟨h.1,o0 h.2 fun r s'' hr=>?_⟩;obtain ⟨h',tk,acc,c,rfl,rfl,hk,hS',hacc⟩:=hr; exact uW (IP hS' (uX (hQ h' tk acc hk hacc)))
 . obtain ⟨_,_,_,_,e,_⟩:=h
   cases e
end
end Sm
end
noncomputable section
namespace Sm
open PySem PySem.Spec PyProof.Rows L2
end Sm
end
noncomputable section
namespace Sm
open PySem PySem.Spec PyProof.Rows L2
end Sm
end
noncomputable section
namespace Sm
open PySem PySem.Spec PyProof.Rows L2
abbrev Kvs:=List (uV×uV)
noncomputable def Lw (g1:Dn->Out) (g2:Dn->Res Kvs):Dn->Res Kvs:=fun δ=>match g1 δ with
 | .nx δ'=>g2 δ'
 | .exc c=>.exc c
 | _=>.no
noncomputable def fnW (N:List Str) (g:Dn->Res Kvs):List uV->Res Kvs:=fun ds=>g (K6 N ds)
noncomputable def Gi (fs:Dn->Res (List uV)) (m:List uV->Res Kvs):Dn->Res Kvs:=fun δ=>(fs δ).bind m
end Sm
end
noncomputable section
namespace Sm
open PySem PySem.Spec PyProof.Rows L2
theorem Sy:Slot "reversed" "__init__" "object.__init__" :=
 .of (owner := "object") (n := "__init__") (by rw [j0,yZ]; kernel_rfl) (by decide +kernel) (by decide +kernel) (by decide +kernel) (by first | exact .inl (by decide +kernel) | exact .inr (by decide +kernel)) (by rw [AA]; kernel_rfl)
theorem Ip:TypeCalled "reversed" "reversed.__new__" "object.__init__" :=
 ⟨by decide +kernel,by decide +kernel,⟨_,_,F.mro_reversed⟩,F.made_reversed,by decide +kernel,F.sub_reversed_self,Sy⟩
theorem T4:Slot "reversed" "__next__" "reversed.__next__" :=
 .of (owner := "reversed") (n := "__next__") (by rw [j0,yZ]; kernel_rfl) (by decide +kernel) (by decide +kernel) (by decide +kernel) (by first | exact .inl (by decide +kernel) | exact .inr (by decide +kernel)) (by rw [AA]; kernel_rfl)
theorem Hi:Slot "reversed" "__iter__" "reversed.__iter__" :=
 .of (owner := "reversed") (n := "__iter__") (by rw [j0,yZ]; kernel_rfl) (by decide +kernel) (by decide +kernel) (by decide +kernel) (by first | exact .inl (by decide +kernel) | exact .inr (by decide +kernel)) (by rw [AA]; kernel_rfl)
theorem Eu:GY table "reversed.__next__" = some yA.«reversed.__next__» := HS ⋯
theorem Pp:GY table "reversed.__iter__" = some yA.«dict_keyiterator.__iter__» := by
 exact IV (id' := "dict_keyiterator.__iter__") ⋯ (by decide +kernel) (by decide +kernel) ⋯
theorem Hj (a:uY):HV "reversed.__next__" ⟨[a],[]⟩:=by unfold HV; kernel_rfl
theorem Sz (a:uY):HV "reversed.__iter__" ⟨[a],[]⟩:=by unfold HV; kernel_rfl
theorem mG:ER (.type "tuple") "__reversed__" = pure none:=by rw [j0,yZ]; kernel_rfl
theorem mI:isSubtype (.type "tuple") (.type "dict")=pure false:=by rw [AA]; kernel_rfl
def IsRvT (h:wT) (a l:vG) (i:Int):Prop:=∃ o,h.get? a=some o/\o.cls=.type "reversed" /\ o.data=.fields #[.ref l,n8 i]
noncomputable section
variable {prog:vU} {w:wD} {A:xD} {E:uY->uZ->Prop} {s:uZ}
theorem IsRvT.typeIs {a l:vG} {i:Int} (x:IsRvT s.heap a l i):s.TypeIs (.ref a) "reversed" := let ⟨o,ho,hc,_⟩:=x; ⟨o,ho,hc⟩
theorem mJ {l:vG} {items:Array uY} {Q₁:uY->uZ->Prop} (hl:EN s.heap l items) (hz:items.size<=sizeLine)
   (h:∀ tk,Q₁ (.ref s.heap.objs.size) { s with heap:=s.heap.push { cls:=.type "reversed",data:=.fields #[.ref l,n8 ((items.size:Int) - 1)] },toks:=tk }) :
   BI (vS prog w) A (.call (.builtin "reversed.__new__") ⟨[.type "reversed",.ref l],[]⟩) (wants Q₁ E) s:=by
 refine IF (uW (i6 (F.newCall_reversed_1 _) (uX ⟨AL F.plain_reversed_new _,yV F.entry_reversed_new ?_⟩)));rw [yB F.plain_reversed_new _];unfold yA.«reversed.__new__»;refine uW (i6 (newClass_reversed _) (uW (i6 (a:=()) (by first | rfl | kernel_rfl) (uW (i6 (a:=()) (by first | rfl | kernel_rfl) ?_)))));refine uW (c9 hl.typeIs mG ?_);try dsimp only
 refine uW (uW (AC hl.typeIs mI ?_));simp only [wU,if_false];refine uW (c9 hl.typeIs GJ.lookup ?_);dsimp only;rw [if_pos (by decide +kernel)];refine uX ?_;simp only [FH,wU,if_false];have hn:=Dm;refine uW (len_tuple hl (by lia) (uW (i6 (a:=some (items.size:Int)) rfl ?_)));refine uW ?_;show wpAny _ _ (newObj (i8 "reversed") (.fields #[.ref l,n8 ((items.size:Int) - 1)])) _ _ _;exact wH (uX (h _))
theorem mK {l:vG} {items:Array uY} {Q:uY->uZ->Prop} (hl:EN s.heap l items) (hz:items.size<=sizeLine)
   (h:∀ tk,Q (.ref s.heap.objs.size) { s with heap:=s.heap.push { cls:=.type "reversed",data:=.fields #[.ref l,n8 ((items.size:Int) - 1)] },toks:=tk }):wpAny (vS prog w) A (call (.type "reversed") [.ref l]) Q E s:=by
 refine callType_codes (Q₁:=fun obj t=>t.TypeIs obj "reversed" /\ Q obj t) Ip (F.typeCall_reversed_1 _) F.entry_object_init (mJ hl hz fun tk=>⟨⟨_,vH _ rfl,rfl⟩,h tk⟩) fun obj t ht=>?_;exact ⟨ht.1,F.args_object_init_2 obj _,object_init_meets Ip.init.lookup Ip.made (by decide) prog w A.in1 _ t ⟨ht.1,rfl,ht.2⟩⟩
theorem mH {it l:vG} {i:Nat} {items:Array uY} {x:uY} {Q:Option uY->uZ->Prop} (hit:IsRvT s.heap it l (i:Int)) (hl:EN s.heap l items) (hz:items.size<=sizeLine) (hx:items[i]? = some x)
   (hQ:∀ h' tk,IsRvT h' it l ((i:Int) - 1)->zT it s.heap h'->Q (some x) { s with heap:=h',toks:=tk }):wpAny (vS prog w) A (pyNext (.ref it)) Q E s:=by
 obtain ⟨o,ho,hc,hd⟩:=id hit;have hi:i < items.size:=by
   rcases EA i items.size with h | h
   . exact h
   . simp [h] at hx
 have hn:=Dm;unfold pyNext;refine uW (zK ?_);refine xA (name:=yT "__next__") hit.typeIs T4 ?_;refine wV T4 hit.typeIs Eu ?_ (Hj _);unfold yA.«reversed.__next__»;refine uW (i6 (a:=(yH it,[])) rfl ?_);try dsimp only
 refine uW (j5 ho hd (x:=.ref l) rfl (uW (j5 ho hd (x:=n8 (i:Int)) rfl ?_)));show wpAny _ _ (if (i:Int) < 0 then _ else _) _ _ s;rw [if_neg (by lia)];refine uW (c9 hl.typeIs GJ.lookup ?_);rw [if_neg (by simp)];refine uW (wpAny_mkInt (uW (zK ?_)));refine getItem_tuple (s:={ s with toks:=s.toks+1 }) (j:=i) hl (by lia) (by lia) ?_ hx ?_
 . unfold seqIndex?
   first | (simp; lia) | (rw [if_neg (by lia),if_pos (by lia)]; simp) | (split <;> simp_all <;> lia)
 . try dsimp only
   refine uW (j5 (s:={ s with toks:=s.toks+1 }) ho hd (x:=n8 (i:Int)) rfl ?_); show wpAny _ _ (GV (.ref it) 1 (n8 ((i:Int) - 1))>>=_) _ _ _;refine uW (CW (s:={ s with toks:=s.toks+1 }) ho hd (by simp) ?_);refine uX ⟨x,rfl,uX (hQ _ _ ?_ (zA ..))⟩; exact ⟨_,yJ _ ho (EM (m6 hd _)),(Obj.cls_mapFields ..).trans hc,by rw [m6 hd]; simp⟩
theorem rV {it l:vG} {j:Int} {Q:Option uY->uZ->Prop} (hj:j < 0) (hh:A.handled=none) (hit:IsRvT s.heap it l j)
   (hQ:∀ h',CP it s.heap h'->Q none { s with heap:=h' }):wpAny (vS prog w) A (pyNext (.ref it)) Q E s:=by
 obtain ⟨o,ho,hc,hd⟩:=id hit;unfold pyNext;refine uW (zK ?_);refine xA (name:=yT "__next__") hit.typeIs T4 ?_;refine wV T4 hit.typeIs Eu ?_ (Hj _);unfold yA.«reversed.__next__»;refine uW (i6 (a:=(yH it,[])) rfl ?_);try dsimp only
 refine uW (j5 ho hd (x:=.ref l) rfl (uW (j5 ho hd (x:=n8 j) rfl ?_)));show wpAny _ _ (if j < 0 then _ else _) _ _ s;rw [if_pos hj];refine uW (yN ?_);have ho1:=yJ (IG (·.setIfInBounds 1 (n8 (-1)))) ho (EM (m6 hd _));have hd1:=m6 hd (fun a=>a.setIfInBounds 1 (n8 (-1)));refine uW ?_;show wpAny _ _ (GV (.ref it) 1 (n8 (-1))>>=fun _=>GV (.ref it) 0 .none) _ _ _;refine uW (CW ho hd (by simp) (CW ho1 hd1 (by simp) (uW ?_)))
 show wpAny _ _ (newExc (.type "StopIteration") []>>=_) _ _ _;refine uW ?_;simp only [newExc,newTuple];refine uW (wH ?_ (by size_fits));refine uW (m:=BH _ _) (i6 (a:=yP) (by first | rfl | (simp only [BH]; rfl)) (wH ?_ (by size_fits)));simp only [raiseNew];refine uW (wpAny_handled ?_);rw [show A.in1.handled=none from hh];refine uW (uX (wpAny_throw (uW ?_)));refine AC (T := "StopIteration") (b:=true) ⟨_,vH _ rfl,rfl⟩ IT ?_;refine uX (hQ _ (IJ (IJ ?_ _) _))
 intro b ob hb eb;exact ((zA ..).extBut b ob hb ((zA ..).extBut b ob hb eb))
theorem aK {it l:vG} {i:Int} {Q:uY->uZ->Prop} (hit:IsRvT s.heap it l i) (h:Q (.ref it) s):wpAny (vS prog w) A (HQ (.ref it)) Q E s:=by
 refine DM hit.typeIs Hi (wV Hi hit.typeIs Pp ?_ (Sz _));show wpAny _ _ (ret (.ref it)) _ _ s;exact uX ⟨_,rfl, "reversed",_,hit.typeIs,T4.lookup,h⟩
end
def ItV (K:vB) (a:vG) (n:Nat):It :=
 ⟨fun i H=>i < n/\∃ xs x,SqT K H a xs/\xs.length=n/\xs[n - 1 - i]? = some x,fun i H x H'=>H'=H/\∀ xs,SqT K H a xs->xs[n - 1 - i]? = some x,fun i H=>n<=i⟩
theorem fW {P:vU} {w:wD} {K:vB} {tg:Expr} (a it:vG) (n:Nat):Turn P w K tg (ItV K a n) [it] it (fun i h=>IsRvT h it a ((n:Int) - 1 - i)) where
 mem:=by simp
 obj:=fun i h st b hb=>by
   have e:b=it:=by simpa using hb
   subst e; obtain ⟨o,e,c,d⟩:=st; exact ⟨o,e,fun v z=>by rw [d] at z; cases z⟩
 keep:=fun i h h' st k=>by
   obtain ⟨o,e,r⟩:=st; exact ⟨o,k it (by simp) o e,r⟩
 item:=by
   intro X hP hw hK hc i pins s Z H E I hf st hg; subst hP hw hK; obtain ⟨hi,xs,x,hq,hn,hx⟩:=hg; obtain ⟨its,rv,p,hz⟩:=I.tuple hq; obtain ⟨u,hu,ru⟩:=rv.get hx; have hl:=rv.length; obtain ⟨f0,f1,f2,f3,f4,f5⟩:=hf it (by simp);have e1:(n:Int) - 1 - (i:Int)=((n - 1 - i:Nat):Int):=by lia
   rw [e1] at st; refine mH st (show EN s.heap a its.toArray from p) (by simp only [vO]; lia) (x:=u) (by simpa using hu) fun h' tk st' sb=>?_;have I1:Inv X pins Z H { s with heap:=h',toks:=tk }:=I.turned (t':=tk) (fun b o hb e=>(sb.2 b hb).trans e) f0 f1 f3 f4 f5;obtain ⟨o,e,c,d⟩:=id st'; refine ⟨u,rfl,Re (s:={ s with heap:=h',toks:=tk }) e c d (by decide) ⟨x,H,I1,ru,⟨rfl,fun ys hy=>by rw [I.tuple_inj hy hq]; exact hx⟩,?_,fun b hb=>(hf b hb).1⟩⟩;have e2:((n - 1 - i:Nat):Int) - 1=(n:Int) - 1 - ((i+1:Nat):Int):=by lia
   rw [e2] at st'; exact st'
 done:=by
   intro X hP hw hK hc i pins s Z H E I hf st hg; subst hP hw hK; have hi:n<=i:=hg; obtain ⟨f0,f1,f2,f3,f4,f5⟩:=hf it (by simp);exact rV (by lia) (I.ok.hd hc) st fun h' eb=>⟨rfl,I.turned (t':=s.toks) (fun b o hb e=>eb b o hb e) f0 f1 f3 f4 f5⟩
 self:=fun _ _ _ _ _ st h=>aK st h
theorem fR {K:vB} {G:Hp} {a:vG} {xs:List V} {ds:List uV} (h:G a=some (.tup xs)) (l:RepL G ds xs):Walk (ItV K a xs.length) G ds.reverse where
 go:=fun i H hi hG=>by
   have hi':i < xs.length:=by rw [<- l.length]; simpa using hi
   exact ⟨hi',xs,xs[xs.length - 1 - i],.inl (.inl (hG _ _ h)),rfl,by simp⟩
 yld:=fun i d G2 H x H' e h1 h2 hy=>by
   obtain ⟨rfl,hy⟩:=hy; have hlen:=l.length; have hi:i < ds.length:=by
     rcases EA i ds.length with z | z
     . exact z
     . rw [yI (by simpa using z)] at e; cases e
   rw [JG hi] at e; obtain ⟨y,e1,r⟩:=l.get e; have:=hy xs (.inl (.inl (h2 _ _ (h1 _ _ h)))); rw [hlen] at e1; rw [e1] at this; cases this; exact ⟨G2,Grow.refl h2,r.mono h1⟩
 stop:=fun i H hi hG=>by
   show xs.length<=i;rw [<- l.length]; simpa using hi
noncomputable def Vh:uV->Res (List uV)
 | .tuple ds=>.ok ds.reverse
 | _=>.no
noncomputable section
variable {P:vU} {w:wD} {K:vB} {mg:Str->Option uY} {base:wT} {X:Cx} {N:List Str} {sc:Scope} {k:Nat} {df:Bool} {E:EK} {pos p:Pos} {tg a:Expr} {f:Dn->Res uV}
theorem i_rev (C:Cxt P w K mg base X N sc k df) (h:okGl sc "reversed" = true) (hm:mg "reversed" = none) (ha:DE X E a f) (he:vI [a] X.env=(false,eval a X.env)::vI [] X.env:=by rfl) (hpl:(yL pos (vI [] X.env)).any (·.1)=false:=by rfl) :
   DI X E tg (.Call (.Name "reversed" p) [a] [] pos) (fun δ=>(f δ).bind Vh):=by
 rintro pins s Z H R I ⟨G,δ,S,aft⟩;obtain ⟨h1,h2,h3⟩:=okGl.gl C h;have hh:=Ls (R:=fun v H1=>∃ v0 G1 d,[v]=[v0]/\Same G1 H1/\Rep G1 d v0/\AftI E G1 H1 (Vh d) R) (W:=fun G H r=>AftI E G H r R) S aft (fun g a=>AftI.grow g a) (fun c a=>a) (fun a=>a) fun d v G1 H1 g1 r1 S1 a1=>⟨v,G1,d,rfl,S1.sub,r1,a1⟩;refine n6 (Jf I h1 (by rw [C.hmg]; exact hm) (show p0 "reversed" = some (.type "reversed") by decide +kernel) ?_ h3 h2);refine k9 (thn ((F6 ha O2 he) pos pins s Z H (fun vs H1=>∃ v G1 d,vs=[v]/\Same G1 H1/\Rep G1 d v/\AftI E G1 H1 (Vh d) R) I ?_) fun us s1 ⟨vs,H1,I1,rx,v,G1,d,ev,hG,rd,a1⟩=>?_) he hpl
 . exact hh
 . subst ev
   obtain ⟨u,rfl,ru⟩:=Vals.one rx;cases d with
   | tuple ds =>
     obtain ⟨q,xs,rfl,hq,l1⟩:=rd; cases ru; obtain ⟨zz,its,rv,e1⟩:=Fh I1 hG hq; have hl:=rv.length; refine mK (show EN s1.heap q its.toArray from e1) (by simp only [vO]; lia) fun tk=>?_;have I2:Inv X pins Z H1 { s1 with heap:=s1.heap.push { cls:=.type "reversed",data:=.fields #[.ref q,n8 ((its.toArray.size:Int) - 1)] },toks:=tk }:=I1.kept (t':=tk) fun b o e=>vD _ e;have st:IsRvT (s1.heap.push { cls:=.type "reversed",data:=.fields #[.ref q,n8 ((its.toArray.size:Int) - 1)] }) s1.heap.objs.size q ((xs.length:Int) - 1 - ((0:Nat):Int)):=⟨_,vH _ rfl,rfl,by simp [hl]⟩
     refine aK (s:={ s1 with heap:=s1.heap.push { cls:=.type "reversed",data:=.fields #[.ref q,n8 ((its.toArray.size:Int) - 1)] },toks:=tk }) st ?_; refine ⟨s1.heap.objs.size,[s1.heap.objs.size],_,_,H1,rfl,I2,fW q _ xs.length,st,fun b hb=>?_,a1 _ G1 H1 (Grow.refl hG) (fR hq l1)⟩;have e:b=s1.heap.objs.size:=by simpa using hb
     subst e; exact I1.fpOk (vL _) (I1.hok.fresh (vL _))
   | _=>exact (show False from a1).elim
end
end Sm
end
noncomputable section
namespace Sm
open PySem PySem.Spec PyProof.Rows L2
end Sm
end
noncomputable section
namespace Sm
open PySem PySem.Spec PySem.W PyProof.Rows
end Sm
end
noncomputable section
namespace Sm
open PySem PySem.Spec PySem.W PyProof.Rows L2
end Sm
end
noncomputable section
namespace Sm
open PySem PySem.Spec PyProof.Rows L2
noncomputable section
variable {prog:vU} {w:wD} {A:xD} {E:uY->uZ->Prop} {s:uZ}
theorem jW {d:vG} {od:Obj} {es:Array xP} {ep:Nat} {Q:uY->uZ->Prop} (hd:(d==f8)=false) (hT:s.TypeIs (.ref d) "dict") (ho:s.heap.get? d=some od) (hdat:od.data=.dict es ep)
   (hQ:Q (.ref s.heap.objs.size) { s with heap:=s.heap.push { cls:=.type "dict_keyiterator",data:=.fields #[.ref d,.int 0 0,.int es.size 0,.int ep 0] } }) :
   wpAny (vS prog w) A (HQ (.ref d)) Q E s:=by
 refine DM hT F.slot_dict_iter (wV F.slot_dict_iter hT F.entry_dict_iter ?_ (F.args_dict_iter_1 _));unfold yA.«dict.__iter__» Builtin.Dict.dictSlotNone;refine uW (uW (BP hT (uX ?_)));have hz:∀ (R:uY->uZ->Prop),wpAny (vS prog w) A.in1 (GO d) (fun _ t=>t=s) R s:=fun R=>by
   unfold GO; rw [hd]; exact uX rfl
 refine uW (i6 (a:=d) rfl (uW (xT (hz E) (fun _ t e=>?_) fun _ _ e=>e)));subst e;refine uW (u9 ho hdat (uW (yK ho hdat ?_)));refine uW (wH (uX ⟨_,rfl, "dict_keyiterator",_,⟨_,vH _ rfl,rfl⟩,F.slot_dict_keyiterator_next.lookup,?_⟩));simpa [n8] using hQ
theorem jE {it d:vG} {i ep:Nat} {od:Obj} {es:Array xP} {Q:Option uY->uZ->Prop} (hit:s.heap.IsKeyIter it d i es.size ep) (hod:s.heap.get? d=some od) (hdd:od.data=.dict es ep) (hlt:i < es.size)
   (hQ:∀ h',h'.IsKeyIter it d (i+1) es.size ep->zT it s.heap h'->Q (some es[i].key) { s with heap:=h' }):wpAny (vS prog w) A (pyNext (.ref it)) Q E s:=by
 obtain ⟨o,ho,hc,hd⟩:=id hit;have hnew:(s.heap.update it (IG (·.setIfInBounds 1 (n8 ((i:Int)+1))))).IsKeyIter it d (i+1) es.size ep:=by
   refine ⟨_,yJ _ ho (EM (m6 hd _)),(Obj.cls_mapFields ..).trans hc,?_⟩; rw [m6 hd]; simp [n8]
 have hty:HH { s with heap:=s.heap.update it (IG (·.setIfInBounds 1 (n8 ((i:Int)+1)))) } (.ref it) "dict_keyiterator" := hnew.typeIs;unfold pyNext;refine uW (zK ?_);refine xA (name:=yT "__next__") hit.typeIs F.slot_dict_keyiterator_next ?_;refine wV F.slot_dict_keyiterator_next hit.typeIs F.entry_dict_keyiterator_next ?_ (F.args_dict_keyiterator_next_1 _);refine uW (uX (uW (uW ?_)));refine uW (m9 hit.typeIs (uX ?_));refine uW (BF ho hd ?_)
 simp only [show DX "dict_keyiterator" = false by decide,wU,if_false];show wpAny _ _ (if (yH d==yP)=true then _ else _) _ _ s;rw [if_neg (by exact zQ)];refine uW (uX (uW (u9 hod hdd ?_)));rw [if_neg (by simp)];refine uW (uX (uW (yK hod hdd ?_)));rw [if_neg (by simp)];refine uX ?_;simp only [show ¬ ((i:Int) < 0) from by lia,if_false,i9,wX hlt];refine uW (uW (m9 hit.typeIs (uX ?_)))
 refine uW (FA hit.typeIs ?_);show wpAny _ _ (GV (.ref it) 1 (n8 ((i:Int)+1))>>=_) _ _ s;refine uW (CW ho hd (by simp) (uW (wZ ?_)));refine uW (FA hty ?_);first
   | exact uX (uX ⟨_,rfl,uX (hQ _ hnew (zA ..))⟩)
   | (refine uW (FA hty ?_); exact uX (uX ⟨_,rfl,uX (hQ _ hnew (zA ..))⟩))
theorem oR {it d:vG} {i ep:Nat} {od:Obj} {es:Array xP} {Q:Option uY->uZ->Prop} (hh:A.handled=none) (hi:es.size<=i) (hit:s.heap.IsKeyIter it d i es.size ep) (hod:s.heap.get? d=some od) (hdd:od.data=.dict es ep)
   (hQ:∀ h',CP it s.heap h'->Q none { s with heap:=h' }):wpAny (vS prog w) A (pyNext (.ref it)) Q E s:=by
 obtain ⟨o,ho,hc,hd⟩:=id hit;unfold pyNext;refine uW (zK ?_);refine xA (name:=yT "__next__") hit.typeIs F.slot_dict_keyiterator_next ?_;refine wV F.slot_dict_keyiterator_next hit.typeIs F.entry_dict_keyiterator_next ?_ (F.args_dict_keyiterator_next_1 _);refine uW (uX (uW (uW ?_)));refine uW (m9 hit.typeIs (uX ?_));refine uW (BF ho hd ?_);simp only [show DX "dict_keyiterator" = false by decide,wU,if_false]
 show wpAny _ _ (if (yH d==yP)=true then _ else _) _ _ s;rw [if_neg (by exact zQ)];refine uW (uX (uW (u9 hod hdd ?_)));rw [if_neg (by simp)];refine uW (uX (uW (yK hod hdd ?_)));rw [if_neg (by simp)];refine uX ?_;simp only [show ¬ ((i:Int) < 0) from by lia,if_false,i9,AO hi];refine uW (uW (m9 hit.typeIs (uX ?_)));show wpAny _ _ (GV (.ref it) 0 .none>>=_) _ _ s;refine uW (CW ho hd (by simp) ?_)
 show wpAny _ _ (newExc (.type "StopIteration") []>>=_) _ _ _;refine uW ?_;simp only [newExc,newTuple];refine uW (wH ?_ (by size_fits));refine uW (m:=BH _ _) (i6 (a:=yP) (by first | rfl | (simp only [BH]; rfl)) (wH ?_ (by size_fits)));simp only [raiseNew];refine uW (wpAny_handled ?_);rw [show A.in1.handled=none from hh];refine uW (uX (wpAny_throw (uW ?_)));refine AC (T := "StopIteration") (b:=true) ⟨_,vH _ rfl,rfl⟩ IT ?_;exact uX (hQ _ (((zA ..).extBut.push _).push _))
end
end Sm
end
noncomputable section
namespace Sm
open PySem PySem.Spec PyProof.Rows L2
end Sm
end
noncomputable section
namespace Sm
open PySem PySem.Spec PyProof.Rows L2
end Sm
end
noncomputable section
namespace Sm
open PySem PySem.Spec PyProof.Rows PySem.W L2
structure NAt (h:wT) (v:uY) (d:uV):Prop where
 rd:∃ as,Reads h v d as
 nk:d=.none\/(isK d=true/\((∃ xs,d=.tuple xs)\/∃ z,d=.str z))
 lay:d.canLay0=true
 dp:d.depth<=8
theorem Jj {a b:uV} (ha:a=.none\/(isK a=true/\((∃ xs,a=.tuple xs)\/∃ z,a=.str z))) (hb:b=.none\/(isK b=true/\((∃ xs,b=.tuple xs)\/∃ z,b=.str z))):vN a b=true↔a=b:=by
 rcases ha with rfl | ⟨ha,ha'⟩
 . rcases hb with rfl | ⟨_,⟨ys,rfl⟩ | ⟨z,rfl⟩⟩
   . exact ⟨fun _=>rfl,fun _=>rfl⟩
   . exact ⟨fun h=>(by simp [vN] at h),fun h=>nomatch h⟩
   . exact ⟨fun h=>(by simp [vN] at h),fun h=>nomatch h⟩
 . rcases hb with rfl | ⟨hb,_⟩
   . rcases ha' with ⟨xs,rfl⟩ | ⟨z,rfl⟩
     . exact ⟨fun h=>(by simp [vN] at h),fun h=>nomatch h⟩
     . exact ⟨fun h=>(by simp [vN] at h),fun h=>nomatch h⟩
   . exact eqvK _ _ ha hb
noncomputable section
variable {prog:vU} {w:wD} {A:xD} {E:uY->uZ->Prop} {s:uZ}
theorem NAt.val {h:wT} {v:uY} {d:uV} (x:NAt h v d):(d=.none/\v=.none)\/(∃ z t,d=.str z/\v=.str z t)\/∃ b,v=.ref b:=by
 obtain ⟨as,r⟩:=x.rd;rcases x.nk with rfl | ⟨_,⟨xs,rfl⟩ | ⟨z,rfl⟩⟩
 . cases r; exact .inl ⟨rfl,rfl⟩
 . cases r; exact .inr (.inr ⟨_,rfl⟩)
 . cases r; exact .inr (.inl ⟨_,_,rfl,rfl⟩)
theorem NAt.hash {v:uY} {d:uV} {Q:Int->uZ->Prop} (x:NAt s.heap v d) (hu:A.units+8 < zE) (q:∀ tk,Q (R0 w d) { s with toks:=tk }):wpAny (vS prog w) A (pyHash v) Q E s:=by
 obtain ⟨as,r⟩:=x.rd;rcases x.nk with rfl | ⟨hk,hk'⟩
 . cases r
   unfold pyHash; have hv:[yP].any Value.onHeap=false:=rfl; have hT:s.TypeIs yP "NoneType" := rfl; refine uW ?_; rw [cRoomFor,if_neg (by rw [hv]; decide)];refine uX (uW (c9 hT F.slot_NoneType_hash.lookup ?_)); show wpAny _ _ (if (some (Value.builtin "NoneType.__hash__")==some yP)=true then _ else _) Q E s;rw [if_neg (by rw [HU]; decide)];refine uW (c9 hT F.slot_NoneType_hash.lookup ?_); show wpAny _ _ (callSpecialIfBoundUnlessNone? yP "__hash__" _>>=_) Q E s;refine uW (wpAny_callSpecialIfBoundUnlessNone?_slot hT F.slot_NoneType_hash (wV F.slot_NoneType_hash hT F.entry_NoneType_hash (show wpAny _ _ (do ret (<- mkInt 0xFCA86420)) _ _ s from wpAny_ret_mkInt ?_) (F.args_NoneType_hash_1 _)))
   show wpAny _ _ (if (decide (-(2:Int) ^ 63<=0xFCA86420)&&decide ((0xFCA86420:Int) < 2 ^ 63))=true then _ else _) Q E _;rw [if_pos (by decide)]; exact uX (q _)
 . have e:R0 w d=Wj w d:=by rcases hk' with ⟨_,rfl⟩ | ⟨_,rfl⟩ <;> rfl
   rw [e] at q; exact Ob _ _ as A s Q hk r (by have:=x.dp; lia) fun tk _=>q tk
theorem NAt.quiet {v:uY} {d:uV} {Q:Bool->uZ->Prop} (x:NAt s.heap v d) (q:Q true s):wpAny (vS prog w) A (eqIsQuiet 8 v) Q E s:=by
 obtain ⟨as,r⟩:=x.rd;rcases x.nk with rfl | ⟨hk,hk'⟩
 . cases r; exact uX q
 . exact Kc 8 _ _ as s Q hk x.dp r q
theorem NAt.eq {v u:uY} {a b:uV} {Q:Bool->uZ->Prop} (x:NAt s.heap v a) (y:NAt s.heap u b) (hu:A.units+8 < zE) (q:Q (vN a b) s):wpAny (vS prog w) A (eqBool v u) Q E s:=by
 obtain ⟨as,r⟩:=x.rd;obtain ⟨bs,r'⟩:=y.rd;exact SeqAt.eqBoolOverData prog w A E s v u a b as bs Q r r' x.lay y.lay (by have:=x.dp; lia) q
structure EsN (w:wD) (h:wT) (es:Array xP) (ks:List uV):Prop where
 len:es.size=ks.length
 ent:∀ (i:Nat) e,es[i]? = some e->∃ k,ks[i]? = some k/\NAt h e.key k/\e.hash=R0 w k
 nd:ks.Nodup
theorem Zg {d:vG} {o:Obj} {es:Array xP} {ep:Nat} {ks:List uV} {key:uY} {k:uV} {Q:Option Nat->uZ->Prop} (hu:A.units+8 < zE) (ho:s.heap.get? d=some o) (hd:o.data=.dict es ep) (N:EsN w s.heap es ks) (x:NAt s.heap key k)
   (q1:∀ i,ks[i]? = some k->Q (some i) s) (q0:k∉ks->Q none s):wpAny (vS prog w) A (dictFind d key (R0 w k)) Q E s:=by
 have same:∀ i j a,ks[i]? = some a->ks[j]? = some a->i=j:=fun i j a h1 h2=>by
   have hi:=(vY.mp h1).1; have hj:=(vY.mp h2).1; have e1:=(vY.mp h1).2; have e2:=(vY.mp h2).2; exact (List.getElem_inj (h₀:=hi) (h₁:=hj) N.nd).mp (e1.trans e2.symm)
 unfold dictFind;try with_reducible refine wZ ?_
 refine uW (u9 ho hd ?_);dsimp only;have hin:∀ i∈placesWithHash es.size (fun i=>es[i]?.map (·.hash)) (R0 w k),∃ e,es[i]? = some e/\(e.hash==R0 w k)=true:=fun i hi=>by
   unfold placesWithHash at hi; have:=(wW.mp hi).2; simp only at this;cases he:es[i]? with
   | none=>rw [he] at this; cases this
   | some e=>rw [he] at this; exact ⟨e,rfl,by simpa using this⟩
 have hat:∀ i,ks[i]? = some k->i∈placesWithHash es.size (fun i=>es[i]?.map (·.hash)) (R0 w k):=fun i hi=>by
   have hlt:i < es.size:=by rw [N.len]; exact (vY.mp hi).1
   have he:es[i]? = some es[i]:=wX hlt; obtain ⟨k',e1,_,e3⟩:=N.ent i _ he; rw [hi] at e1; cases e1; unfold placesWithHash; refine wW.mpr ⟨yQ.mpr hlt,?_⟩; show (es[i]?.map (·.hash)==some (R0 w k))=true;rw [he]; simp [e3]
 have hnd:(placesWithHash es.size (fun i=>es[i]?.map (·.hash)) (R0 w k)).Nodup:=GN _ List.nodup_range;generalize placesWithHash es.size (fun i=>es[i]?.map (·.hash)) (R0 w k)=places at *;have lst:∀ i,(ks[i]? = some k->i∈([]:List Nat))->ks[i]? ≠ some k:=fun i h z=>nomatch h z;have no:(∀ i,ks[i]? = some k->i∈([]:List Nat))->k∉ks:=fun h z=>by
   obtain ⟨i,hi⟩:=ED.mp z; exact nomatch h i hi
 have plain:wpAny (vS prog w) A (dictWalkPlain d key (R0 w k) es places) Q E s:=by
   unfold dictWalkPlain; refine uW ?_; refine BR _ (fun M3 r s'=>s'=s/\r=(none,())/\(∀ i∈M3,i∈places)/\∀ i,ks[i]? = some k->i∈M3) _ ?_ ?_ _ _ ⟨rfl,rfl,fun _ h=>h,hat⟩
   . rintro i more r s' ⟨rfl,rfl,hsub,hall⟩
     obtain ⟨e,he,hh⟩:=hin i (hsub i (.head _)); obtain ⟨k',e1,y,_⟩:=N.ent i e he; rw [he]; dsimp only; rw [if_pos hh]; refine uW (yK ho hd ?_); refine uW (y.eq x hu ?_); refine uW (yK ho hd ?_); rw [if_neg (by simp)];by_cases c:k'=k
     . subst c
       rw [if_pos ((Jj y.nk x.nk).mpr rfl)]; refine uW (yN (uX ?_)); exact uX (q1 i e1)
     . rw [if_neg (fun z=>c ((Jj y.nk x.nk).mp z))]
       refine uW (yN (uX ?_)); refine ⟨rfl,rfl,fun j hj=>hsub j (.tail _ hj),fun j hj=>?_⟩;rcases vF.mp (hall j hj) with rfl | z
       . rw [e1] at hj; cases hj; exact absurd rfl c
       . exact z
   . rintro r s' ⟨rfl,rfl,_,hall⟩
     exact uX (q0 (no hall))
 have hwalk : ∀ (f : Nat -> Option (Option Nat) × Option Nat -> Sem (ForInStep (Option (Option Nat) × Option Nat))), (∀ i e k' r2 (Q' : ForInStep (Option (Option Nat) × Option Nat) -> uZ -> Prop), es[i]? = some e -> (e.hash == R0 w k) = true -> NAt s.heap e.key k' ->
     (k'=k->r2=none/\Q' (.done (some (some i),none)) s/\Q' (.yield (none,some i)) s)->(k'≠k->Q' (.yield (none,r2)) s)->wpAny (vS prog w) A (f i (none,r2)) Q' E s) ->
     wpAny (vS prog w) A (forIn places (none,none) f) (fun r s'=>s'=s/\((r.1=none/\((r.2=none/\k∉ks)\/∃ i,r.2=some i/\ks[i]? = some k))\/∃ i,r.1=some (some i)/\ks[i]? = some k)) E s:=fun f hf=>by
   refine BR _ (fun M3 r s'=>s'=s/\r.1=none/\(∀ i∈M3,i∈places)/\M3.Nodup/\((r.2=none/\∀ i,ks[i]? = some k->i∈M3)\/∃ i,r.2=some i/\ks[i]? = some k/\i∉M3)) _ ?_ ?_ _ _ ⟨rfl,rfl,fun _ h=>h,hnd,.inl ⟨rfl,hat⟩⟩
   . rintro i more ⟨r1,r2⟩ s' ⟨rfl,rfl,hsub,hn,hr⟩
     obtain ⟨e,he,hh⟩:=hin i (hsub i (.head _)); obtain ⟨k',e1,y,_⟩:=N.ent i e he; rw [zI] at hn; refine hf i e k' r2 _ he hh y (fun c=>?_) fun c=>?_
     . subst c
       have h2:r2=none:=by
         rcases hr with ⟨z,_⟩ | ⟨j,_,z2,z3⟩
         . exact z
         . exact absurd (same i j _ e1 z2▸xK) z3
       exact ⟨h2,⟨rfl,.inr ⟨i,rfl,e1⟩⟩,rfl,rfl,fun j hj=>hsub j (.tail _ hj),hn.2,.inr ⟨i,rfl,e1,hn.1⟩⟩
     . refine ⟨rfl,rfl,fun j hj=>hsub j (.tail _ hj),hn.2,?_⟩
       rcases hr with ⟨z,hall⟩ | ⟨j,z1,z2,z3⟩
       . refine .inl ⟨z,fun j hj=>?_⟩
         rcases vF.mp (hall j hj) with rfl | z'
         . rw [e1] at hj; cases hj; exact absurd rfl c
         . exact z'
       . exact .inr ⟨j,z1,z2,fun z=>z3 (.tail _ z)⟩
   . rintro ⟨r1,r2⟩ s' ⟨rfl,rfl,_,_,hr⟩
     rcases hr with ⟨rfl,hall⟩ | ⟨j,rfl,z2,_⟩
     . exact ⟨rfl,.inl ⟨rfl,.inl ⟨rfl,no hall⟩⟩⟩
     . exact ⟨rfl,.inl ⟨rfl,.inr ⟨j,rfl,z2⟩⟩⟩
 have tell:∀ (Q':Bool->uZ->Prop),Q' false s->wpAny (vS prog w) A (tableMayTell key (places.filterMap fun i=>es[i]?.map (·.key))) Q' E s:=fun Q' q'=>by
   unfold tableMayTell;split
   . exact uX q'
   . refine uW (x.quiet ?_)
     rw [if_neg (by decide)]; refine uW ?_; refine BR _ (fun M3 r s'=>s'=s/\r=(none,())/\∀ v∈M3,∃ k',NAt s.heap v k') _ ?_ ?_ _ _ ⟨rfl,rfl,fun v hv=>?_⟩
     . rintro v more r s' ⟨rfl,rfl,hr⟩
       obtain ⟨k',y⟩:=hr v (.head _); refine uW (y.quiet ?_); rw [if_neg (by decide)]; exact uX ⟨rfl,rfl,fun v hv=>hr v (.tail _ hv)⟩
     . rintro r s' ⟨rfl,rfl,_⟩
       exact uX q'
     . obtain ⟨i,_,hi⟩:=CC.mp hv
       cases he:es[i]? with
       | none=>rw [he] at hi; cases hi
       | some e =>
         rw [he] at hi; have hk:e.key=v:=by simpa using hi
         obtain ⟨k',_,y,_⟩:=N.ent i e he; exact ⟨k',hk▸y⟩
 have fork:∀ (m:Bool->Sem (Option Nat)),wpAny (vS prog w) A (m false) Q E s->wpAny (vS prog w) A (if ((places.filterMap fun i=>es[i]?.map (·.key))==[key])=true then (pure false>>=m) else (tableMayTell key (places.filterMap fun i=>es[i]?.map (·.key))>>=m)) Q E s:=fun m h=>by
   split
   . exact uW (uX h)
   . exact uW (tell _ h)
 rcases x.val with ⟨_,rfl⟩ | ⟨z,t,rfl,rfl⟩ | ⟨b,rfl⟩
 . dsimp only
   by_cases hc:(yP::places.filterMap fun i=>es[i]?.map (·.key)).all IW=true
   . rw [if_pos hc]; exact plain
   . rw [if_neg hc]
     refine fork _ ?_; rw [if_neg (by simp)]; refine uW (xT (hwalk _ fun i e k' r2 Q' he hh y c1 c0=>?_) (fun r s' z=>?_) fun _ _ z=>z)
     . dsimp only
       rw [he]; dsimp only; rw [if_pos hh]; refine uW (yK ho hd (uW (y.eq x hu (uW (yK ho hd ?_))))); rw [if_neg (by simp)];by_cases c:k'=k
       . obtain ⟨rfl,d1,d2⟩:=c1 c
         rw [if_pos ((Jj y.nk x.nk).mpr c),if_neg (by simp)]; refine uW (yN ?_);split
         . exact uX d1
         . exact uX d2
       . rw [if_neg (fun z=>c ((Jj y.nk x.nk).mp z))]
         refine uW (yN ?_); rw [if_neg (by simp)]; exact uX (c0 c)
     . obtain ⟨r1,r2⟩:=r
       obtain ⟨rfl,z⟩:=z; rcases z with ⟨rfl,z⟩ | ⟨i,rfl,z⟩
       . rcases z with ⟨rfl,z⟩ | ⟨i,rfl,z⟩
         . exact uX (q0 z)
         . exact uX (q1 i z)
       . exact uX (q1 i z)
 . by_cases hall:(es.all fun e=>isExactStrKey e.key)=true
   . dsimp only
     rw [if_pos hall]; have isk:∀ (i:Nat) e,es[i]? = some e->(e.key.isStr z=true↔ks[i]? = some (.str z)):=fun i e he=>by
       obtain ⟨k',e1,y,_⟩:=N.ent i e he; rw [e1]; rcases y.val with ⟨rfl,hv⟩ | ⟨z',t',rfl,hv⟩ | ⟨b,hv⟩
       . rw [hv]; exact ⟨fun h=>(by cases h),fun h=>absurd h (by simp)⟩
       . rw [hv]
         show (z'==z)=true↔_;rw [beq_iff_eq]; exact ⟨fun h=>(by rw [h]),fun h=>(by cases h; rfl)⟩
       . rw [hv]
         have:=Array.all_eq_true'.mp hall e (Array.mem_of_getElem? he); rw [hv] at this; cases this
     unfold foundByValue;cases hf:es.findIdx? (·.key.isStr z) with
     | none =>
       refine uX (q0 fun hm=>?_);obtain ⟨i,hi⟩:=ED.mp hm; have hlt:i < es.size:=by rw [N.len]; exact (vY.mp hi).1
       have:=Array.findIdx?_eq_none_iff.mp hf es[i] (Array.getElem_mem hlt); rw [(isk i _ (wX hlt)).mpr hi] at this; cases this
     | some i =>
       obtain ⟨hlt,hp,_⟩:=Array.findIdx?_eq_some_iff_getElem.mp hf; have he:es[i]? = some es[i]:=wX hlt; have hi:=(isk i _ he).mp hp; obtain ⟨k',e1,y,_⟩:=N.ent i _ he; rw [hi] at e1; cases e1; dsimp only; rw [he]; dsimp only; refine uW (yK ho hd (uW (y.eq x hu (uW (yK ho hd ?_))))); rw [if_neg (by simp),if_pos ((Jj y.nk x.nk).mpr rfl)]; exact uW (yN (uX (q1 i hi)))
   . dsimp only
     rw [if_neg hall];by_cases hc:(IA z t::places.filterMap fun i=>es[i]?.map (·.key)).all IW=true
     . rw [if_pos hc]; exact plain
     . rw [if_neg hc]
       refine fork _ ?_; rw [if_neg (by simp)]; refine uW (xT (hwalk _ fun i e k' r2 Q' he hh y c1 c0=>?_) (fun r s' z=>?_) fun _ _ z=>z)
       . dsimp only
         rw [he]; dsimp only; rw [if_pos hh]; refine uW (yK ho hd (uW (y.eq x hu (uW (yK ho hd ?_))))); rw [if_neg (by simp)];by_cases c:k'=.str z
         . obtain ⟨rfl,d1,d2⟩:=c1 c
           rw [if_pos ((Jj y.nk x.nk).mpr c),if_neg (by simp)]; refine uW (yN ?_);split
           . exact uX d1
           . exact uX d2
         . rw [if_neg (fun z=>c ((Jj y.nk x.nk).mp z))]
           refine uW (yN ?_); rw [if_neg (by simp)]; exact uX (c0 c)
       . obtain ⟨r1,r2⟩:=r
         obtain ⟨rfl,z⟩:=z; rcases z with ⟨rfl,z⟩ | ⟨i,rfl,z⟩
         . rcases z with ⟨rfl,z⟩ | ⟨i,rfl,z⟩
           . exact uX (q0 z)
           . exact uX (q1 i z)
         . exact uX (q1 i z)
 . dsimp only
   by_cases hc:(yH b::places.filterMap fun i=>es[i]?.map (·.key)).all IW=true
   . rw [if_pos hc]; exact plain
   . have hno : (es.any fun e => e.key == .ref b && e.hash != R0 w k) = false := by
       rw [Array.any_eq_false]; intro i hi; obtain ⟨k',e1,y,e3⟩:=N.ent i es[i] (wX hi);by_cases c:es[i].key=.ref b
       . have : k' = k := by
           rw [c] at y; obtain ⟨as,r1⟩:=x.rd; obtain ⟨bs,r2⟩:=y.rd; exact SeqAt.Reads.unique k' k _ _ _ y.lay r2 r1
         rw [e3,this]; simp
       . intro z
         rw [vV] at z; exact c (zY z.1)
     rw [if_neg hc,if_neg (by rw [hno]; decide)];refine fork _ ?_; rw [if_neg (by simp)]; refine uW (xT (hwalk _ fun i e k' r2 Q' he hh y c1 c0=>?_) (fun r s' z=>?_) fun _ _ z=>z)
     . dsimp only
       rw [he]; dsimp only; rw [if_pos hh]; refine uW (yK ho hd (uW (y.eq x hu (uW (yK ho hd ?_))))); rw [if_neg (by simp)];by_cases c:k'=k
       . obtain ⟨rfl,d1,d2⟩:=c1 c
         rw [if_pos ((Jj y.nk x.nk).mpr c),if_neg (by simp)]; refine uW (yN ?_);split
         . exact uX d1
         . exact uX d2
       . rw [if_neg (fun z=>c ((Jj y.nk x.nk).mp z))]
         refine uW (yN ?_); rw [if_neg (by simp)]; exact uX (c0 c)
     . obtain ⟨r1,r2⟩:=r
       obtain ⟨rfl,z⟩:=z; rcases z with ⟨rfl,z⟩ | ⟨i,rfl,z⟩
       . rcases z with ⟨rfl,z⟩ | ⟨i,rfl,z⟩
         . exact uX (q0 z)
         . exact uX (q1 i z)
       . exact uX (q1 i z)
end
end Sm
end
noncomputable section
namespace Sm
open PySem PySem.Spec PyProof.Rows PySem.W L2
noncomputable section
variable {prog:vU} {w:wD} {A:xD} {E:uY->uZ->Prop} {s:uZ}
theorem hu8 {A:xD} (h:A.units+16 < zE):A.in1.units+8 < zE:=by simp only [Around.in1_units]; lia
theorem EsN.get {h:wT} {es:Array xP} {ks:List uV} (N:EsN w h es ks) {i:Nat} {k:uV} (hi:ks[i]? = some k):∃ e,es[i]? = some e:=by
 have hlt:i < es.size:=by rw [N.len]; exact (vY.mp hi).1
 exact ⟨_,wX hlt⟩
theorem Jk {d:vG} {o:Obj} {es:Array xP} {ep:Nat} {ks:List uV} {key:uY} {k:uV} {Q:Option uY->uZ->Prop} (hu:A.units+8 < zE) (ho:s.heap.get? d=some o) (hd:o.data=.dict es ep) (N:EsN w s.heap es ks) (x:NAt s.heap key k)
   (q1:∀ (i:Nat) (e:xP) tk,ks[i]? = some k->es[i]? = some e->Q (some e.val) { s with toks:=tk }) (q0:∀ tk,k∉ks->Q none { s with toks:=tk }):wpAny (vS prog w) A (dictGet d key) Q E s:=by
 unfold dictGet;try with_reducible refine wZ ?_
 refine uW (x.hash hu fun tk=>?_);refine uW (Zg (s:={ s with toks:=tk }) hu ho hd N x (fun i hi=>?_) fun hn=>uX (q0 tk hn));obtain ⟨e,he⟩:=N.get hi;refine uW (u9 (s:={ s with toks:=tk }) ho hd (uX ?_));rw [he];exact q1 i e tk hi he
theorem Yy (d:vG) (key dflt:uY) (hd:(d==f8)=false):MeetsIn prog w (yA.«dict.get» ⟨[.ref d,key,dflt],[]⟩) (fun A R s=>∃ (o:Obj) (es:Array xP) (ep:Nat) (ks:List uV) (k:uV),A.units+16 < zE/\s.heap.get? d=some o/\o.data=.dict es ep/\EsN w s.heap es ks/\NAt s.heap key k /\
   (∀ (i:Nat) (e:xP) tk,ks[i]? = some k->es[i]? = some e->R (.ok (.ret e.val)) { s with toks:=tk })/\∀ tk,k∉ks->R (.ok (.ret dflt)) { s with toks:=tk }) :=
 .of_wp fun A R s hZ3=>by
   obtain ⟨o,es,ep,ks,k,hu,ho,hD,N,x,h1,h0⟩:=hZ3; show wpAny _ _ (dictGet d key>>=_) _ _ s;refine uW (Jk (hu8 hu) ho hD N x (fun i e tk hi he=>uX ⟨_,rfl,h1 i e tk hi he⟩) fun tk hn=>?_);show wpAny _ _ (Builtin.Dict.missed d key>>=_) _ _ _;exact uW (wpAny_missed_other hd (uX ⟨dflt,rfl,h0 tk hn⟩))
theorem eF (d:vG) (key:uY) (hd:(d==f8)=false):MeetsIn prog w (yA.«dict.__contains__» ⟨[.ref d,key],[]⟩) (fun A R s=>∃ (o:Obj) (es:Array xP) (ep:Nat) (ks:List uV) (k:uV),A.units+16 < zE/\s.heap.get? d=some o/\o.data=.dict es ep/\EsN w s.heap es ks/\NAt s.heap key k /\
   (∀ tk,k∈ks->R (.ok (.ret (.bool true))) { s with toks:=tk })/\∀ tk,k∉ks->R (.ok (.ret (.bool false))) { s with toks:=tk }) :=
 .of_wp fun A R s hZ3=>by
   obtain ⟨o,es,ep,ks,k,hu,ho,hD,N,x,h1,h0⟩:=hZ3; show wpAny _ _ (dictGet d key>>=_) _ _ s;refine uW (Jk (hu8 hu) ho hD N x (fun i e tk hi he=>uX ⟨_,rfl,h1 tk (yR hi)⟩) fun tk hn=>?_);show wpAny _ _ (Builtin.Dict.pendingKey? d key>>=_) _ _ _;exact uW (wpAny_pendingKey_other hd (uX ⟨_,rfl,h0 tk hn⟩))
theorem Vy (d:vG) (key:uY):MeetsIn prog w (yA.«dict.__getitem__» ⟨[.ref d,key],[]⟩) (fun A R s=>∃ (o:Obj) (es:Array xP) (ep:Nat) (ks:List uV) (k:uV),A.units+16 < zE/\s.heap.get? d=some o/\o.data=.dict es ep/\EsN w s.heap es ks/\NAt s.heap key k/\k∈ks /\
   (∀ (i:Nat) (e:xP) tk,ks[i]? = some k->es[i]? = some e->R (.ok (.ret e.val)) { s with toks:=tk })) :=
 .of_wp fun A R s hZ3=>by
   obtain ⟨o,es,ep,ks,k,hu,ho,hD,N,x,hm,h1⟩:=hZ3; show wpAny _ _ (dictGet d key>>=_) _ _ s;exact uW (Jk (hu8 hu) ho hD N x (fun i e tk hi he=>uX ⟨_,rfl,h1 i e tk hi he⟩) fun tk hn=>absurd hm hn)
theorem Pt (d:vG) (key dflt:uY) (hd:(d==f8)=false):MeetsIn prog w (yA.«dict.setdefault» ⟨[.ref d,key,dflt],[]⟩) (fun A R s=>∃ (L:List xP) (ep:Nat) (ks:List uV) (k:uV),A.units+16 < zE/\s.heap.get? d=some { cls:=.type "dict",data:=.dict (FT L) ep }/\L.length<=sizeLine/\EsN w s.heap L.toArray ks/\NAt s.heap key k /\
   (∀ (i:Nat) (e:xP) tk,ks[i]? = some k->L[i]? = some e->R (.ok (.ret e.val)) { s with toks:=tk }) /\
   ∀ (h':wT) (tk:Nat),k∉ks->(∀ b o,b≠d->s.heap.get? b=some o->h'.get? b=some o)->h'.get? d=some { cls:=.type "dict",data:=.dict (L++[DictEntry.mk (R0 w k) key dflt]).toArray (ep+1) }->R (.ok (.ret dflt)) { s with heap:=h',toks:=tk }) :=
 .of_wp fun A R s hZ3=>by
   obtain ⟨L,ep,ks,k,hu,ho,hz,N,x,h1,h0⟩:=hZ3; unfold yA.«dict.setdefault»;refine uW ?_; unfold Builtin.Dict.keyAndDefault; refine uW (BP ⟨_,ho,rfl⟩ ?_); show wpAny _ _ (pure (d,key,some dflt)) _ _ s;refine uX ?_; show wpAny _ _ (if (d==f8)=true then _ else (dictSetDefault d key dflt>>=_)) _ _ s;rw [if_neg (by rw [hd]; exact zQ)];refine uW ?_; unfold dictSetDefault;try with_reducible refine wZ ?_
   refine uW (x.hash (hu8 hu) fun tk=>?_);refine uW (Zg (s:={ s with toks:=tk }) (hu8 hu) ho rfl N x (fun i hi=>?_) fun hn=>?_)
   . obtain ⟨e,he⟩:=N.get hi
     refine uW (u9 (s:={ s with toks:=tk }) ho rfl ?_); rw [he]; exact uW (yN (uX (uX ⟨_,rfl,h1 i e tk hi (by simpa using he)⟩)))
   . refine uW (yN (uW (wpAny_updateDictKeys (hz:=by simpa using hz) (s:={ s with toks:=tk }) ho rfl (uX (uX ⟨dflt,rfl,h0 _ tk hn (fun b o hb e=>?_) ?_⟩)))))
     . exact (EZ _ _ _ _ hb).trans e
     . have:=yJ (EC fun x=>x.push ⟨R0 w k,key,dflt⟩) ho (FD (Obj.data_mapDictKeys rfl _))
       rw [this]; simp [EC]
end
end Sm
end
noncomputable section
namespace Sm
open PySem PySem.Spec PyProof.Rows PySem.W L2
mutual
theorem Wb {H:Hp}:∀ {d:uV} {v:V},KRep H d v->Rep H d v
 | .none,_,r=>r
 | .int _,_,r=>r
 | .str _,_,r=>r
 | .tuple _,_,r=>by obtain ⟨b,xs,e,q,l⟩:=r; exact ⟨b,xs,e,q,Qu l⟩
 | .bool _,_,r=>(show False from r).elim
 | .list _,_,r=>(show False from r).elim
 | .dict _,_,r=>(show False from r).elim
theorem Qu {H:Hp}:∀ {ds:List uV} {xs:List V},KRepL H ds xs->RepL H ds xs
 | [],_,r=>r
 | _::_,_,r=>by obtain ⟨x,t,e,q,l⟩:=r; exact ⟨x,t,e,Wb q,Qu l⟩
end
mutual
theorem Vi {G H:Hp} (hG:Same G H):∀ {d:uV} {v:V},isK d=true->Rep G d v->KRep H d v
 | .int _,_,_,r=>r
 | .str _,_,_,r=>r
 | .tuple _,_,k,r=>by obtain ⟨b,xs,e,q,l⟩:=r; exact ⟨b,xs,e,hG _ _ q,Ql hG (by simpa [isK] using k) l⟩
 | .none,_,k,_=>by simp [isK] at k
 | .bool _,_,k,_=>by simp [isK] at k
 | .list _,_,k,_=>by simp [isK] at k
 | .dict _,_,k,_=>by simp [isK] at k
theorem Ql {G H:Hp} (hG:Same G H):∀ {ds:List uV} {xs:List V},El ds=true->RepL G ds xs->KRepL H ds xs
 | [],_,_,r=>r
 | _::_,_,k,r=>by
   simp only [El,vV] at k; obtain ⟨x,t,e,q,l⟩:=r; exact ⟨x,t,e,Vi hG k.1 q,Ql hG k.2 l⟩
end
theorem O3 {d:uV} (hn:nkD d=true):(d=.none\/(isK d=true/\((∃ xs,d=.tuple xs)\/∃ z,d=.str z)))/\d.depth<=8:=by
 unfold nkD at hn;split at hn
 . exact ⟨.inl rfl,by simp [yF]⟩
 . exact ⟨.inr ⟨by simp [isK],.inr ⟨_,rfl⟩⟩,by simp [yF]⟩
 . rw [vV] at hn
   exact ⟨.inr ⟨by simpa [isK] using hn.1,.inl ⟨_,rfl⟩⟩,of_decide_eq_true hn.2⟩
 . cases hn
theorem Ir {G H:Hp} (hG:Same G H) {d:uV} {v:V} (hn:nkD d=true) (r:Rep G d v):KRep H d v:=by
 rcases (O3 hn).1 with rfl | ⟨k,_⟩
 . exact r
 . exact Vi hG k r
noncomputable def N4 (kvs:List (uV×V)) (k:uV):Option V:=(kvs.find? fun p=>vN p.1 k).map (·.2)
noncomputable def N9 (kvs:List (uV×uV)) (k:uV):Option uV:=(kvs.find? fun p=>vN p.1 k).map (·.2)
theorem Ho {G:Hp} {k:uV}:∀ {kvs:List (uV×uV)} {kk:List (uV×V)},kvs.map (·.1)=kk.map (·.1)->RepL G (kvs.map (·.2)) (kk.map (·.2)) ->
   (N9 kvs k=none/\N4 kk k=none)\/∃ d v,N9 kvs k=some d/\N4 kk k=some v/\Rep G d v
 | [],[],_,_=>.inl ⟨rfl,rfl⟩
 | [],_::_,e,_=>by cases e
 | _::_,[],e,_=>by cases e
 | p::kvs,q::kk,e,r=>by
   simp only [vK,w8] at e; obtain ⟨x,t,ex,rx,l⟩:=r; simp only [vK,w8] at ex; unfold N9 N4; rw [wO,wO,e.1];cases hq:vN q.1 k with
   | true=>exact .inr ⟨p.2,q.2,rfl,rfl,by rw [ex.1]; exact rx⟩
   | false=>exact Ho (k:=k) e.2 (by rw [ex.2]; exact l)
theorem Dq {k:uV} (hk:nkD k=true):∀ {kk:List (uV×V)} {i:Nat} {v:V},(∀ p∈kk,nkD p.1=true)->(kk.map (·.1)).Nodup->kk[i]? = some (k,v)->N4 kk k=some v
 | [],_,_,_,_,h=>by simp at h
 | p::kk,i,v,hn,nd,h=>by
   unfold N4; rw [wO]; have hp:=Jj (O3 (hn p (.head _))).1 (O3 hk).1;cases i with
   | zero =>
     simp at h;subst h; rw [hp.mpr rfl]; rfl
   | succ i =>
     rw [vK,zI] at nd; have hm:(k,v)∈kk:=yR (by simpa using h);cases hq:vN p.1 k with
     | true=>exact absurd (by rw [hp.mp hq]; exact xV hm) nd.1
     | false=>exact Dq hk (fun q hq=>hn q (.tail _ hq)) nd.2 (by simpa using h)
theorem Hq {k:uV} (hk:nkD k=true) {kk:List (uV×V)} (hn:∀ p∈kk,nkD p.1=true) (h:k∉kk.map (·.1)):N4 kk k=none:=by
 unfold N4;rw [FJ.mpr]; · rfl
 intro p hp z;exact h (by rw [<- (Jj (O3 (hn p hp)).1 (O3 hk).1).mp z]; exact xV hp)
theorem Paired.at' {α β:Type} {F:α->β->Prop}:∀ {l₁:List α} {l₂:List β} {i:Nat} {a:α},yC F l₁ l₂->l₁[i]? = some a->∃ b,l₂[i]? = some b/\F a b
 | _,_,i,_,.nil,h=>by simp at h
 | _,_,0,_,.cons r _,h=>by simp at h; subst h; exact ⟨_,rfl,r⟩
 | _,_,i+1,_,.cons _ t,h=>Paired.at' (i:=i) t (by simpa using h)
noncomputable section
variable {X:Cx} {pins:List (vG×Obj)} {Z:St} {H:Hp} {s:uZ} {a:vG} {A:xD} {E:uY->uZ->Prop}
theorem Ja (I:Inv X pins Z H s) {d:uV} {v:V} {u:uY} (r:KRep H d v) (hv:RelV v u) (hn:nkD d=true):NAt s.heap u d:=by
 have rr:=Wb r;exact ⟨rr.reads I (Same.refl _) hv,(O3 hn).1,rr.lay,(O3 hn).2⟩
abbrev PrN (H:Hp):uV×V->uY×uY->Prop:=fun p q=>(∃ v,KRep H p.1 v/\RelV v q.1)/\RelV p.2 q.2
theorem Lo {w:wD} {kvs:List (uV×V)} {xs:List (uY×uY)} (r:yC (PrN H) kvs xs) {i:Nat} {e:xP} (he:(O4 w kvs xs)[i]? = some e) :
   ∃ p q,kvs[i]? = some p/\xs[i]? = some q/\PrN H p q/\e=⟨R0 w p.1,q.1,q.2⟩:=by
 unfold O4 at he;rw [List.getElem?_zipWith] at he;cases hp:kvs[i]? with
 | none=>rw [hp] at he; simp at he
 | some p =>
   obtain ⟨q,hq,hF⟩:=Paired.at' r hp; rw [hp,hq] at he; simp at he;exact ⟨p,q,rfl,hq,hF,he.symm⟩
theorem Paired.len' {α β:Type} {F:α->β->Prop}:∀ {l₁:List α} {l₂:List β},yC F l₁ l₂->l₁.length=l₂.length
 | _,_,.nil=>rfl
 | _,_,.cons _ t=>by simp [Paired.len' t]
theorem Oc (I:Inv X pins Z H s) {kvs:List (uV×V)} {xs:List (uY×uY)} (r:yC (PrN H) kvs xs) (nk:∀ p∈kvs,nkD p.1=true) (nd:(kvs.map (·.1)).Nodup):EsN X.w s.heap (O4 X.w kvs xs).toArray (kvs.map (·.1)) where
 len:=by
   have:=Paired.len' r; simp [O4,this]
 ent:=fun i e he=>by
   obtain ⟨p,q,h1,h2,⟨⟨v,h3,h4⟩,h5⟩,rfl⟩:=Lo r (by simpa using he);exact ⟨p.1,by rw [wE,h1]; rfl,Ja I h3 h4 (nk p (yR h1)),rfl⟩
 nd:=nd
theorem sT {kvs:List (uV×V)} {kd:uV} {y d:V} {u r:uY} {Q:uY->uZ->Prop} (hu:A.units+16 < zE) (I:Inv X pins Z H s) (e:Rd H a (.dN kvs)) (rk:KRep H kd y) (hk:nkD kd=true) (ry:RelV y u) (rd:RelV d r)
   (h:∀ w' s',Inv X pins Z H s'->RelV ((N4 kvs kd).getD d) w'->Q w' s'):wpAny (vS X.prog X.w) A (call (.builtin "dict.get") [.ref a,u,r]) Q E s:=by
 obtain ⟨z,hd,nd,nk,xs,rel,ep,e1⟩:=e.ok I.hok;refine HA F.slot_dict_get ⟨_,e1,rfl⟩ F.entry_dict_get (F.args_dict_get_3 _ _ _) (Yy a u r hd) ⟨_,_,ep,kvs.map (·.1),kd,hu,e1,rfl,Oc I rel nk nd,Ja I rk ry hk,fun i e tk hi he=>h _ _ (I.tok _) ?_,fun tk hn=>h _ _ (I.tok _) ?_⟩
 . obtain ⟨p,q,h1,h2,⟨_,h5⟩,rfl⟩:=Lo rel (by simpa using he)
   rw [wE,h1] at hi; have hp:p=(kd,p.2):=by
     have:p.1=kd:=by simpa using hi
     rw [<- this]
   rw [hp] at h1; rw [Dq hk nk nd h1]; exact h5
 . rw [Hq hk nk hn]
   exact rd
end
def rH (td ty tx:TE):TE:=fun Z H Q=>td Z H fun x H1=>∃ a kvs,x=.ref a/\Rd H1 a (.dN kvs)/\ty Z H1 fun y H2=>tx Z H2 fun z H3=>∃ kvs kd,Rd H3 a (.dN kvs)/\KRep H3 kd y/\nkD kd=true/\Q ((N4 kvs kd).getD z) H3
noncomputable section
variable {X:Cx} {o e f:Expr} {apos cpos:Pos} {td ty tx:TE}
theorem iO (hu:X.A.units+16 < zE) (ho:PE X o td) (he:PE X e ty) (hf:PE X f tx) (m:M2 X o "get" apos e f cpos):PE X (.Call (.Attribute o "get" apos) [e,f] [] cpos) (rH td ty tx):=by
 intro pins s Z H Q I h;refine wpAny_Call_method m.base m.few m.line HI PySem.F.slot_dict_get PySem.F.type_dict_get (thn (ho pins s Z H _ I h) fun u s1 hZ2=>?_);obtain ⟨x,H1,I1,rx,a,kvs,ex,d,q1⟩:=hZ2;subst ex;obtain rfl:u=yH a:=rx;obtain ⟨_,_,_,_,_,_,ep,e1⟩:=d.ok I1.hok;refine ⟨⟨_,e1,rfl⟩,fun b q=>by cases q; exact ⟨_,e1,rfl⟩,?_⟩;rw [m.trees];refine AN rfl (BL (l7 (thn (he pins s1 Z H1 _ I1 q1) fun iv s2 hY79=>?_)));obtain ⟨y,H2,I2,ry,q2⟩:=hY79;refine l7 (thn (hf pins s2 Z H2 _ I2 q2) fun fv s3 hY80=>?_)
 obtain ⟨z,H3,I3,rz,kvs,kd,g,rk,hk,q3⟩:=hY80;refine CK ?_;exact sT hu I3 g rk hk ry rz fun w' s4 I4 rw'=>⟨_,H3,I4,rw',q3⟩
end
noncomputable def kvN (δ:Dn) (i:Nat):Option Kvs:=match δ[i]? with
 | some (.ow (.tuple [.dict kvs,.none]))=>some kvs
 | some (.fd ((.dict [],.none)::kvs))=>some kvs
 | _=>none
theorem SR.kvN {G H:Hp} {Z:St} {δ:Dn} {i:Nat} {kvs:Kvs} (S:SR G H Z δ) (h:kvN δ i=some kvs):∃ q,∃ kk:List (uV×V),Z[i]? = some (some (.ref q))/\Rd H q (.dN kk)/\kvs.map (·.1)=kk.map (·.1)/\RepL G (kvs.map (·.2)) (kk.map (·.2)):=by
 unfold Sm.kvN at h;split at h
 . rename_i kvs' hi
   cases h; obtain ⟨q,hσ,hq,ho⟩:=S.own hi; obtain ⟨kk,hx,hk,hv⟩:=(show OwnK G H q [.dict kvs,.none] from ho);exact ⟨q,kk,hσ,.inl hx,hk,hv⟩
 . rename_i kvs' hi
   cases h; obtain ⟨q,kk,hp,hx,hk,hv⟩:=(show FdOk G (Z[i]?.join) ((.dict [],.none)::kvs) from S.sl i _ hi);refine ⟨q,kk,?_,Rd.mono S.sub hx,hk,hv⟩;cases e:Z[i]? with
   | none=>rw [e] at hp; cases hp
   | some z =>
     rw [e] at hp;cases z with
     | none=>cases hp
     | some z=>cases hp; rfl
 . cases h
noncomputable def Ly (i:Nat) (f g:Dn->Res uV):Dn->Res uV:=fun δ=>match kvN δ i with
 | some kvs=>(f δ).bind fun kd=>(g δ).bind fun dd=>if nkD kd=true then .ok ((N9 kvs kd).getD dd) else .no
 | none=>.no
noncomputable section
variable {P:vU} {w:wD} {K:vB} {mg:Str->Option uY} {base:wT} {X:Cx} {N:List Str} {sc:Scope} {k:Nat} {df:Bool} {E:EK} {p apos cpos:Pos} {a b:Expr} {f g:Dn->Res uV} {x:Str}
theorem kR (C:Cxt P w K mg base X N sc k df) (i:Nat) (h:okVar N sc i x=true) (hk:DE X E a f) (hg:DE X E b g) (m:M2 X (.Name x p) "get" apos a b cpos:=by exact ⟨rfl,rfl,rfl,rfl⟩):DE X E (.Call (.Attribute (.Name x p) "get" apos) [a,b] [] cpos) (Ly i f g):=by
 refine PE.imp (iO (by have:=C.hu; lia) (okVar.pe C h) hk hg m) fun Z H Q hY81=>?_;obtain ⟨G,δ,S,aft⟩:=hY81;unfold Ly at aft;split at aft
 . rename_i kvs hi
   obtain ⟨q,kk,hσ,hx,hkeys,hvals⟩:=S.kvN hi; refine ⟨.ref q,hσ,q,kk,rfl,hx,?_⟩; refine K2 S aft fun kd v G1 H1 g1 r1 S1 a1=>?_;refine K2 S1 a1 fun dd v2 G2 H2 g2 r2 S2 a2=>?_;split at a2
   . rename_i hn
     refine ⟨kk,kd,Rd.mono g2.h (Rd.mono g1.h hx),Ir S2.sub hn (r1.mono g2.g),hn,?_⟩; rcases Ho (k:=kd) hkeys hvals with ⟨n1,n2⟩ | ⟨d0,v0,n1,n2,rd⟩
     . rw [n1] at a2; rw [n2]
       exact a2 _ G2 H2 (Grow.refl S2.sub) r2
     . rw [n1] at a2; rw [n2]
       exact a2 _ G2 H2 (Grow.refl S2.sub) (rd.mono (g1.g.trans g2.g))
   . exact a2.elim
 . exact aft.elim
end
end Sm
end
noncomputable section
namespace Sm
open PySem PySem.Spec PyProof.Rows PySem.W L2
theorem Wr {w:wD} {kvs:List (uV×V)} {xs:List (uY×uY)} {p:uV×V} {q:uY×uY} (h:kvs.length=xs.length):O4 w (kvs++[p]) (xs++[q])=O4 w kvs xs++[⟨R0 w p.1,q.1,q.2⟩]:=by
 unfold O4;rw [List.zipWith_append h]; rfl
theorem Paired.app' {α β:Type} {F:α->β->Prop} {a:α} {b:β} (h:F a b):∀ {l₁:List α} {l₂:List β},yC F l₁ l₂->yC F (l₁++[a]) (l₂++[b])
 | _,_,.nil=>.cons h .nil
 | _,_,.cons r t=>.cons r (Paired.app' h t)
noncomputable section
variable {X:Cx} {pins:List (vG×Obj)} {Z:St} {H:Hp} {s:uZ} {a:vG} {A:xD} {E:uY->uZ->Prop}
theorem sR {kvs:List (uV×V)} {kd:uV} {y d:V} {u r:uY} {Q:uY->uZ->Prop} (hu:A.units+16 < zE) (I:Inv X pins Z H s) (e:H a=some (.dN kvs)) (rk:KRep H kd y) (hk:nkD kd=true) (hz:kvs.length < sizeLine) (ry:RelV y u) (rd:RelV d r)
   (h1:∀ v w' s',N4 kvs kd=some v->Inv X pins Z H s'->RelV v w'->Q w' s') (h0:∀ s',N4 kvs kd=none->Inv X pins Z (upd H a (.dN (kvs++[(kd,d)]))) s'->Q r s'):wpAny (vS X.prog X.w) A (call (.builtin "dict.setdefault") [.ref a,u,r]) Q E s:=by
 obtain ⟨z,hd,nd,nk,xs,rel,ep,e1⟩:=I.hok a _ e;have hl:=Paired.len' rel;have hlen:(O4 X.w kvs xs).length<=sizeLine:=by
   unfold O4; rw [List.length_zipWith]; lia
 refine HA F.slot_dict_setdefault ⟨_,e1,rfl⟩ F.entry_dict_setdefault (F.args_dict_setdefault_3 _ _ _) (Pt a u r hd) ⟨_,ep,kvs.map (·.1),kd,hu,e1,hlen,Oc I rel nk nd,Ja I rk ry hk,fun i e tk hi he=>?_,fun h' tk hn hkeep hnew=>?_⟩
 . obtain ⟨p,q,g1,g2,⟨_,g5⟩,rfl⟩:=Lo rel he
   rw [wE,g1] at hi; have hp:p=(kd,p.2):=by
     have:p.1=kd:=by simpa using hi
     rw [<- this]
   rw [hp] at g1; exact h1 p.2 _ _ (Dq hk nk nd g1) (I.tok _) g5
 . refine h0 _ (Hq hk nk hn) ?_
   have ht:∀ b ys,H b=some (.tup ys)->(upd H a (.dN (kvs++[(kd,d)]))) b=some (.tup ys):=fun b ys z=>by
     rw [B7 (Nw z e (fun z=>by cases z))]; exact z
   refine I.write (x:=a) (e:=a) (t':=tk) (by rw [e]; exact trivial) (.inl rfl) (fun b o hb q=>hkeep b o hb q) ⟨_,hnew⟩ ⟨by rw [wB]; show _+1<=_; lia,hd,?_,?_,xs++[(u,r)],?_,ep+1,?_⟩
   . rw [wI,AR]
     refine ⟨nd,by simp,fun x hx y hy=>?_⟩;have:y=kd:=by simpa using hy
     subst this; exact fun z=>hn (z▸hx)
   . intro p hp
     rcases vT.mp hp with hp | hp
     . exact nk p hp
     . rw [vQ.mp hp]; exact hk
   . exact Paired.app' ⟨⟨y,rk.mono ht,ry⟩,rd⟩ (Paired.mapP rel fun p q hZ2=>by obtain ⟨⟨v,z1,z2⟩,z3⟩:=hZ2; exact ⟨⟨v,z1.mono ht,z2⟩,z3⟩)
   . rw [Wr hl]; exact hnew
end
def rG (td ty tx:TE):TE:=fun Z H Q=>td Z H fun x H1=>∃ a kvs,x=.ref a/\H1 a=some (.dN kvs)/\ty Z H1 fun y H2=>tx Z H2 fun z H3=>∃ kvs kd,H3 a=some (.dN kvs)/\KRep H3 kd y/\nkD kd=true/\kvs.length < sizeLine /\
 (∀ v,N4 kvs kd=some v->Q v H3)/\(N4 kvs kd=none->Q z (upd H3 a (.dN (kvs++[(kd,z)]))))
noncomputable section
variable {X:Cx} {o e f:Expr} {apos cpos:Pos} {td ty tx:TE}
theorem iM (hu:X.A.units+16 < zE) (ho:PE X o td) (he:PE X e ty) (hf:PE X f tx) (m:M2 X o "setdefault" apos e f cpos):PE X (.Call (.Attribute o "setdefault" apos) [e,f] [] cpos) (rG td ty tx):=by
 intro pins s Z H Q I h;refine wpAny_Call_method m.base m.few m.line HI PySem.F.slot_dict_setdefault PySem.F.type_dict_setdefault (thn (ho pins s Z H _ I h) fun u s1 hZ2=>?_);obtain ⟨x,H1,I1,rx,a,kvs,ex,d,q1⟩:=hZ2;subst ex;obtain rfl:u=yH a:=rx;obtain ⟨_,_,_,_,_,_,ep,e1⟩:=I1.hok a _ d;refine ⟨⟨_,e1,rfl⟩,fun b q=>by cases q; exact ⟨_,e1,rfl⟩,?_⟩;rw [m.trees];refine AN rfl (BL (l7 (thn (he pins s1 Z H1 _ I1 q1) fun iv s2 hY82=>?_)));obtain ⟨y,H2,I2,ry,q2⟩:=hY82;refine l7 (thn (hf pins s2 Z H2 _ I2 q2) fun fv s3 hY83=>?_)
 obtain ⟨z,H3,I3,rz,kvs,kd,g,rk,hk,hz,q3,q4⟩:=hY83;refine CK ?_;exact sR hu I3 g rk hk hz ry rz (fun v w' s4 hv I4 rw'=>⟨v,H3,I4,rw',q3 v hv⟩) fun s4 hv I4=>⟨z,_,I4,rz,q4 hv⟩
end
noncomputable def Ep:List (uV×uV)->uV->uV->List (uV×uV)
 | [],k,v=>[(k,.list [v])]
 | p::r,k,v=>if vN p.1 k=true then (match p.2 with | .list ds=>(p.1,.list (ds++[v])) | d=>(p.1,d))::r else p::Ep r k v
end Sm
end
noncomputable section
namespace Sm
open PySem PySem.Spec PyProof.Rows PySem.W L2
noncomputable def NL (G H H1:Hp):List (uV×uV)->List (uV×vG×List V)->Prop
 | [],[]=>True
 | p::kvs,r::kk=>p.1=r.1/\(∃ ds,p.2=.list ds/\RepL G ds r.2.2)/\(H r.2.1=some (.lst r.2.2)/\G r.2.1=none/\H1 r.2.1=none)/\NL G H H1 kvs kk
 | _,_=>False
abbrev prs (kk:List (uV×vG×List V)):List (uV×V):=kk.map fun r=>(r.1,.ref r.2.1)
noncomputable section
variable {G G' H H' H1:Hp}
theorem NL.keep (g:Same G G'):∀ {kvs:List (uV×uV)} {kk:List (uV×vG×List V)},(∀ r∈kk,H r.2.1=some (.lst r.2.2)->G r.2.1=none->H1 r.2.1=none->H' r.2.1=some (.lst r.2.2)/\G' r.2.1=none)->NL G H H1 kvs kk->NL G' H' H1 kvs kk
 | [],[],_,h=>h
 | [],_::_,_,h=>h
 | _::_,[],_,h=>h
 | _::_,r::_,k,⟨h1,⟨ds,h2,h3⟩,⟨h4,h5,h6⟩,h7⟩=>⟨h1,⟨ds,h2,h3.mono g⟩,⟨(k r (.head _) h4 h5 h6).1,(k r (.head _) h4 h5 h6).2,h6⟩,NL.keep g (fun r hr=>k r (.tail _ hr)) h7⟩
theorem NL.grow (g:Grow G H G' H') {kvs:List (uV×uV)} {kk:List (uV×vG×List V)} (h:NL G H H1 kvs kk):NL G' H' H1 kvs kk:=by
 refine h.keep g.g fun r _ e n _=>⟨g.h _ _ e,?_⟩;cases q:G' r.2.1 with
 | none=>rfl
 | some u =>
   rcases g.fr _ u q with y | y | ⟨ys,rfl⟩
   . rw [n] at y; cases y
   . rw [e] at y; cases y
   . have:=g.gh _ _ q; rw [g.h _ _ e] at this; cases this
theorem NL.mem:∀ {kvs:List (uV×uV)} {kk:List (uV×vG×List V)},NL G H H1 kvs kk->∀ r∈kk,H r.2.1=some (.lst r.2.2)/\G r.2.1=none/\H1 r.2.1=none
 | [],[],_,_,m=>nomatch m
 | [],_::_,h,_,_=>h.elim
 | _::_,[],h,_,_=>h.elim
 | _::_,r::_,⟨_,_,h4,h7⟩,x,m=>by
   rcases vF.mp m with rfl | m
   . exact h4
   . exact NL.mem h7 x m
theorem NL.keys:∀ {kvs:List (uV×uV)} {kk:List (uV×vG×List V)},NL G H H1 kvs kk->kvs.map (·.1)=(prs kk).map (·.1)
 | [],[],_=>rfl
 | [],_::_,h=>h.elim
 | _::_,[],h=>h.elim
 | _::_,_::_,⟨h1,_,_,h7⟩=>by
   simp only [vK,h1]; rw [NL.keys h7]
theorem NL.new {p:vG} {y:V} {kd vd:uV} (rv:Rep G vd y) (hp:H p=some (.lst [y])/\G p=none/\H1 p=none):∀ {kvs:List (uV×uV)} {kk:List (uV×vG×List V)},NL G H H1 kvs kk->N4 (prs kk) kd=none->NL G H H1 (Ep kvs kd vd) (kk++[(kd,p,[y])])
 | [],[],_,_=>⟨rfl,⟨[vd],rfl,RepL.cons rv rfl⟩,hp,trivial⟩
 | [],_::_,h,_=>h.elim
 | _::_,[],h,_=>h.elim
 | q::kvs,r::kk,⟨h1,h2,h4,h7⟩,e=>by
   unfold N4 at e; rw [show prs (r::kk)=(r.1,.ref r.2.1)::prs kk from rfl,wO] at e;cases z:vN r.1 kd with
   | true=>rw [z] at e; cases e
   | false =>
     rw [z] at e; unfold Ep; rw [h1,z,if_neg (by decide)]; exact ⟨h1,h2,h4,NL.new rv hp h7 e⟩
theorem NL.put {kd:uV} {v:V}:∀ {kvs:List (uV×uV)} {kk:List (uV×vG×List V)},NL G H H1 kvs kk->(kk.map (·.2.1)).Nodup->N4 (prs kk) kd=some v ->
   ∃ l xs,v=.ref l/\(∃ r∈kk,r.2=(l,xs))/\∀ (y:V) (vd:uV),Rep G vd y->∃ kk',prs kk'=prs kk/\kk'.map (·.2.1)=kk.map (·.2.1)/\(∀ r∈kk',r.2.2.length<=xs.length+1\/r∈kk)/\NL G (upd H l (.lst (xs++[y]))) H1 (Ep kvs kd vd) kk'
 | [],[],_,_,e=>by cases e
 | [],_::_,h,_,_=>h.elim
 | _::_,[],h,_,_=>h.elim
 | q::kvs,r::kk,⟨h1,⟨ds,h2,h3⟩,⟨h4,h5,h6⟩,h7⟩,nd,e=>by
   rw [vK,zI] at nd; unfold N4 at e; rw [show prs (r::kk)=(r.1,.ref r.2.1)::prs kk from rfl,wO] at e;cases z:vN r.1 kd with
   | true =>
     rw [z] at e; cases e; refine ⟨r.2.1,r.2.2,rfl,⟨r,.head _,rfl⟩,fun y vd rv=>⟨(r.1,r.2.1,r.2.2++[y])::kk,rfl,rfl,fun x hx=>?_,?_⟩⟩
     . rcases vF.mp hx with rfl | hx
       . left; simp
       . exact .inr (.tail _ hx)
     . unfold Ep
       rw [h1,z,if_pos rfl,h2]; refine ⟨rfl,⟨ds++[vd],rfl,h3.append (RepL.cons rv rfl)⟩,⟨B8,h5,h6⟩,h7.keep (Same.refl _) fun x hx e n _=>⟨?_,n⟩⟩;rw [B7 (fun w=>nd.1 (by rw [<- w]; exact xV hx))]; exact e
   | false =>
     rw [z] at e; obtain ⟨l,xs,e1,⟨r0,m0,e0⟩,k⟩:=NL.put h7 nd.2 e; have hl:l∈kk.map (·.2.1):=wF.mpr ⟨r0,m0,by rw [e0]⟩;refine ⟨l,xs,e1,⟨r0,.tail _ m0,e0⟩,fun y vd rv=>?_⟩;obtain ⟨kk',k1,k2,k3,k4⟩:=k y vd rv; refine ⟨r::kk',congrArg (List.cons (r.1,V.ref r.2.1)) k1,congrArg (List.cons r.2.1) k2,fun x hx=>?_,?_⟩
     . rcases vF.mp hx with rfl | hx
       . exact .inr (.head _)
       . rcases k3 x hx with w | w
         . exact .inl w
         . exact .inr (.tail _ w)
     . unfold Ep
       rw [h1,z,if_neg (by decide)]; exact ⟨h1,⟨ds,h2,h3⟩,⟨by rw [B7 (fun w=>nd.1 (by rw [w]; exact hl))]; exact h4,h5,h6⟩,k4⟩
noncomputable def shG (as:List vG) (G H:Hp):Hp:=fun b=>open Classical in if b∈as then H b else G b
theorem gV {as:List vG} {b:vG} (h:b∈as):shG as G H b=H b:=by unfold shG; rw [if_pos h]
theorem Gy {as:List vG} {b:vG} (h:b∉as):shG as G H b=G b:=by unfold shG; rw [if_neg h]
theorem NL.same {kvs:List (uV×uV)} {kk:List (uV×vG×List V)} (h:NL G H H1 kvs kk):Same G (shG (kk.map (·.2.1)) G H):=fun b u e=>by
 by_cases m:b∈kk.map (·.2.1)
 . obtain ⟨r,hr,rfl⟩:=wF.mp m
   rw [(h.mem r hr).2.1] at e; cases e
 . rw [Gy m]; exact e
theorem NL.vals {as:List vG} (s:Same G (shG as G H)):∀ {kvs:List (uV×uV)} {kk:List (uV×vG×List V)},NL G H H1 kvs kk->(∀ r∈kk,r.2.1∈as)->RepL (shG as G H) (kvs.map (·.2)) ((prs kk).map (·.2))
 | [],[],_,_=>rfl
 | [],_::_,h,_=>h.elim
 | _::_,[],h,_=>h.elim
 | q::kvs,r::kk,⟨_,⟨ds,h2,h3⟩,⟨h4,_,_⟩,h7⟩,m=>by
   rw [vK,h2]; exact RepL.cons ⟨r.2.1,r.2.2,rfl,.inl (by rw [gV (m r (.head _))]; exact h4),h3.mono s⟩ (NL.vals s h7 fun x hx=>m x (.tail _ hx))
end
theorem SR.forget {G H:Hp} {Z:St} {δ:Dn} (S:SR G H Z δ) (i:Nat):SR G H Z (δ.set i .un):=by
 have key:∀ (j:Nat) (s:Sl),(δ.set i .un)[j]? = some s->s=.un\/δ[j]? = some s:=fun j s e=>by
   rw [E1] at e;split at e
   . cases e; exact .inl rfl
   . exact .inr e
 refine ⟨S.sub,by simp [S.len],fun j s e=>?_,fun j1 j2 a d1 d2 e1 e2 h1 h2=>?_⟩
 . rcases key j s e with rfl | e
   . trivial
   . exact S.sl j s e
 . rcases key j1 _ e1 with z | e1
   . cases z
   . rcases key j2 _ e2 with z | e2
     . cases z
     . exact S.ap j1 j2 a d1 d2 e1 e2 h1 h2
theorem SSt.forget {G0 H0 G H:Hp} {Z:St} {δ:Dn} (S:SSt G0 H0 G H Z δ) (i:Nat):SSt G0 H0 G H Z (δ.set i .un) :=
 ⟨S.gr,S.sr.forget i,fun j d a e h=>by
   rw [E1] at e;split at e
   . cases e
   . exact S.fr j d a e h⟩
theorem OwnOk.off {G H H':Hp} {a:vG} {d:uV} (e:H' a=H a) (h:OwnOk G H a d):OwnOk G H' a d:=by
 cases d with
 | list ds=>obtain ⟨xs,q,r⟩:=h; exact ⟨xs,e.trans q,r⟩
 | dict kvs=>obtain ⟨xs,q,r⟩:=h; exact ⟨xs,e.trans q,r⟩
 | tuple xs=>exact OwnK.keep (Same.refl _) (fun o q=>e.trans q) h
 | _=>exact (show False from h).elim
theorem SSt.off {G0 H0 G H H':Hp} {Z:St} {δ:Dn} (S:SSt G0 H0 G H Z δ) (h0:Same H0 H') (hg:Same G H') (k:∀ (j:Nat) (d:uV) (a:vG),δ[j]? = some (.ow d)->Z[j]?.join=some (.ref a)->H' a=H a):SSt G0 H0 G H' Z δ:=by
 refine ⟨⟨S.gr.g,h0,hg,S.gr.fr⟩,⟨hg,S.sr.len,fun j s e=>?_,S.sr.ap⟩,S.fr⟩;have hs:=S.sr.sl j s e;cases s with
 | un=>trivial
 | sh d=>exact hs
 | fd _=>exact hs
 | ow d =>
   obtain ⟨a,e1,n1,ok⟩:=hs; exact ⟨a,e1,n1,ok.off (k j d a e e1)⟩
end Sm
end
noncomputable section
namespace Sm
open PySem PySem.Spec PyProof.Rows PySem.W L2
noncomputable def Hn (δ:Dn) (t:Nat) (c:Dn->Res Bool) (fk fv:Dn->Res uV):List uV->List (uV×uV)->Res Kvs
 | [],kvs=>.ok kvs
 | d::ds,kvs=>match c (δ.set t (.sh d)) with
   | .ok true=>match fk (δ.set t (.sh d)) with
     | .ok kd=>match fv (δ.set t (.sh d)) with
       | .ok vd=>if nkD kd=true then Hn δ t c fk fv ds (Ep kvs kd vd) else .no
       | _=>.no
     | _=>.no
   | .ok false=>Hn δ t c fk fv ds kvs
   | _=>.no
noncomputable def dG (i t:Nat) (src:Dn->Res (List uV)) (c:Dn->Res Bool) (fk fv:Dn->Res uV):Dn->Out:=fun δ=>match δ[i]? with
 | some (.ow (.tuple [.dict [],.none]))=>K5 (src (δ.set i .un)) fun ds=>if ds.length < 1000/\i≠t then (match Hn ((δ.set i .un).set t .un) t c fk fv ds [] with
   | .ok kvs=>.nx ((δ.set i (.ow (.tuple [.dict kvs,.none]))).set t .un)
   | _=>.no) else .no
 | _=>.no
structure GrpAt (G1 H0 H1:Hp) (i:Nat) (q:vG) (δv:Dn) (n:Nat) (τ:St) (Hc:Hp) (kvs:List (uV×uV)):Prop where
 ex:∃ Gc kk,SSt G1 H0 Gc Hc τ δv/\Gc q=none/\Hc q=some (.dN (prs kk))/\NL Gc Hc H1 kvs kk/\(kk.map (·.2.1)).Nodup/\kk.length<=n/\∀ r∈kk,r.2.2.length<=n
 hi:τ[i]? = some (some (.ref q))
 ap:∀ (j:Nat) (d:uV) (a:vG),δv[j]? = some (.ow d)->τ[j]?.join=some (.ref a)->a≠q/\∃ o,H1 a=some o
 kp:∀ b o,H1 b=some o->∃ o',Hc b=some o'
theorem My {H1 H:Hp} {p:vG} {o:HO} (h:∀ b o,H1 b=some o->∃ o',H b=some o'):∀ b u,H1 b=some u->∃ o',(upd H p o) b=some o':=fun b u e=>by
 by_cases z:b=p
 . subst z; exact ⟨_,B8⟩
 . rw [B7 z]; exact h b u e
theorem O8 {H1 H H':Hp} (s:Same H H') (h:∀ b o,H1 b=some o->∃ o',H b=some o'):∀ b u,H1 b=some u->∃ o',H' b=some o':=fun b u e=>by
 obtain ⟨o',z⟩:=h b u e;exact ⟨o',s _ _ z⟩
theorem Grow.stay {G H G' H':Hp} (g:Grow G H G' H') {q:vG} {o:HO} (n:G q=none) (e:H q=some o) (h:∀ ys,o≠.tup ys):G' q=none:=by
 cases z:G' q with
 | none=>rfl
 | some u =>
   rcases g.fr q u z with y | y | ⟨ys,rfl⟩
   . rw [n] at y; cases y
   . rw [e] at y; cases y
   . have:=g.gh _ _ z; rw [g.h _ _ e] at this; cases this; exact absurd rfl (h ys)
theorem Bp {H0 H:Hp} {p:vG} {o:HO} (s:Same H0 H) (h:H0 p=none):Same H0 (upd H p o):=fun b u e=>by
 rw [B7 (D4 e h)]; exact s _ _ e
theorem OwnOk.monoG {G G' H:Hp} {a:vG} {d:uV} (g:Same G G') (h:OwnOk G H a d):OwnOk G' H a d:=by
 cases d with
 | list ds=>obtain ⟨xs,q,r⟩:=h; exact ⟨xs,q,r.mono g⟩
 | dict kvs=>obtain ⟨xs,q,k,r⟩:=h; exact ⟨xs,q,k,r.mono g⟩
 | tuple xs=>exact OwnK.keep g (fun o q=>q) h
 | _=>exact (show False from h).elim
noncomputable section
variable {P:vU} {w:wD} {K:vB} {mg:Str->Option uY} {base:wT} {X:Cx} {N:List Str} {sc:Scope} {k:Nat} {df:Bool} {E:EK} {p px pl ap1 cp1 ap2 cp2 ep ip pos:Pos} {ke ve ce iter:Expr} {fk fv:Dn->Res uV} {c:Dn->Res Bool} {src:Dn->Res (List uV)} {x y:Str}
theorem qI (C:Cxt P w K mg base X N sc k df) (i t:Nat) (ht:okSet N sc df t y=true) (h:okVar N sc i x=true) (hi:DI X E (.Name y px) iter src) (hc:DT X E ce c) (hk:DE X E ke fk) (hv:DE X E ve fv)
   (m2:M2 X (.Name x p) "setdefault" ap1 ke (.List [] pl) cp1) (hs:∀ x,yO iter X.env x=pure x)
   (hbase:i7 (.Call (.Attribute (.Name x p) "setdefault" ap1) [ke,.List [] pl] [] cp1) "append" X.env (eval (.Call (.Attribute (.Name x p) "setdefault" ap1) [ke,.List [] pl] [] cp1) X.env)=eval (.Call (.Attribute (.Name x p) "setdefault" ap1) [ke,.List [] pl] [] cp1) X.env)
   (hfew:((yL cp2 (vI [ve] X.env)).all (fun x => !x.1)&&(EI cp2 (AX [] X.env)).all (fun x=>x.1.isSome)&&decide ([ve].length+([]:List x8).length+(if ([]:List x8).isEmpty then 0 else 1) < 30))=true)
   (hline:(ap2.endLine==cp2.line)=true) (hst:vI [ve] X.env=(false,eval ve X.env)::vI [] X.env) (hplain:(yL cp2 (vI [] X.env)).any (·.1)=false)
   (hsw:zX (.Call (.Attribute (.Call (.Attribute (.Name x p) "setdefault" ap1) [ke,.List [] pl] [] cp1) "append" ap2) [ve] [] cp2) none ep.line X.env=pure false) :
   DS X E (.For (.Name y px) iter [.If ce [.Expr (.Call (.Attribute (.Call (.Attribute (.Name x p) "setdefault" ap1) [ke,.List [] pl] [] cp1) "append" ap2) [ve] [] cp2) ep] [] ip] [] pos) (dG i t src c fk fv):=fun G0 H0=>by
 obtain ⟨d1,d2,d3,d4⟩:=okSet.ok C ht;have app:=Ta (pos:=ep) (Qo zV HD HC Jc (iM (by have:=C.hu; lia) (okVar.pe C h (p:=p)) hk (Tb (pos:=pl) O2) m2) (F6 hv O2 hst) hbase hfew hline hst hplain) hsw;refine PS.imp (iH (pos:=pos) C.own C.calm hi (Cl d1 d2 d3 d4) (Hl (qL (pos:=ip) hc (Hl app) aP)) hs) fun D Z H hh=>?_;obtain ⟨G,δ,S,aft⟩:=hh;unfold dG at aft;split at aft
 . rename_i hsl
   obtain ⟨q,hσ,hgq,ho⟩:=S.sr.own hsl; obtain ⟨kk0,hx,hkeys,_⟩:=(show OwnK G H q [.dict [],.none] from ho);have hk0:kk0=[]:=by
     cases kk0 with
     | nil=>rfl
     | cons _ _=>cases hkeys
   subst hk0; have hil:i < δ.length:=(vY.mp hsl).1; have hq0:H0 q=none:=S.fr i _ q hsl (by rw [hσ]; rfl);refine lG (S.forget i) aft fun ds J G1 H1 gr W S1 a1=>?_;split at a1
   . rename_i hcond
     obtain ⟨hlen,hit⟩:=hcond; have g01:=S1.gr;cases eout:Hn ((δ.set i .un).set t .un) t c fk fv ds [] with
     | ok out =>
       rw [eout] at a1; have S2:=(S1.forget t).rebase g01 (Same.refl _);generalize hδv:(δ.set i .un).set t .un=δv at *;have apv:∀ (j:Nat) (d:uV) (a:vG),δv[j]? = some (.ow d)->δ[j]? = some (.ow d)/\j≠i:=fun j d a e=>by
         rw [<- hδv,E1] at e;split at e
         . cases e
         . rw [E1] at e
           split at e
           . cases e
           . rename_i hn
             exact ⟨e,fun z=>by subst z; exact hn ⟨rfl,hil⟩⟩
       have hG1q:G1 q=none:=by
         cases z:G1 q with
         | none=>rfl
         | some u =>
           rcases gr.fr q u z with y | y | ⟨ys,rfl⟩
           . rw [hgq] at y; cases y
           . rw [hx] at y; cases y
           . have:=gr.gh _ _ z; rw [gr.h _ _ hx] at this; cases this
       refine ⟨fun n m τ Hc=>m=ds.length - n/\n<=ds.length/\∃ kvs,GrpAt G1 H0 H1 i q δv n τ Hc kvs/\Hn δv t c fk fv (ds.drop n) kvs=.ok out,⟨_,rfl,zL _,[],⟨⟨G1,[],S2,hG1q,gr.h _ _ hx,trivial,.nil,vL _,fun _ h=>nomatch h⟩,hσ,fun j d a e1 e2=>?_,fun b o e=>⟨o,e⟩⟩,by rw [CD]; exact eout⟩,?_⟩
       . obtain ⟨e3,hne⟩:=apv j d a e1
         refine ⟨fun z=>hne (S.sr.ap j i q d _ e3 hsl (z▸e2) (by rw [hσ]; rfl)),?_⟩;obtain ⟨a',h1,_,h3⟩:=S.sr.sl j _ e3; rw [e2] at h1; cases h1; obtain ⟨o,z⟩:=h3.some; exact ⟨o,gr.h _ _ z⟩
       rintro n m τ Hc ⟨rfl,hn,kvs,⟨⟨Gc,kk,Sc,gq,dq,nl,nd,kl,rl⟩,hτ,ap,kp⟩,eg⟩;by_cases hlt:n < ds.length
       . have hd:ds[n]? = some ds[n]:=wC hlt
         rw [zO hlt] at eg; unfold Hn at eg; refine .inr ⟨W.go n Hc hlt (Sc.gr.g.trans Sc.sr.sub),fun τ2 H2=>∃ kvs,GrpAt G1 H0 H1 i q δv (n+1) τ2 H2 kvs/\Hn δv t c fk fv (ds.drop (n+1)) kvs=.ok out,fun τ2 H2 z=>⟨_,by lia,rfl,hlt,z⟩,fun v H'' hy=>?_⟩;obtain ⟨G3,g3,r3⟩:=W.yld n _ Gc Hc v H'' hd Sc.gr.g Sc.sr.sub hy; have S3:=(Sc.grow g3).set_sh (i:=t) r3; have nl3:=nl.grow g3; have dq3:=g3.h _ _ dq; have gq3:G3 q=none:=g3.stay gq dq fun ys z=>by cases z
         have h01:Same H0 H1:=S1.gr.h; have hback:((δv.set t (.sh ds[n])).set t .un)=δv:=by rw [<- hδv]; simp
         have hτ':(τ.set t (some v))[i]? = some (some (.ref q)):=by rw [u6 (Ne.symm hit)]; exact hτ
         have htv:∀ (j:Nat) (d:uV),δv[j]? = some (.ow d)->j≠t:=fun j d e z=>by
           subst z; rw [<- hδv,E1] at e;split at e
           . cases e
           . rename_i hn
             have:=(vY.mp e).1; rw [List.length_set] at this; exact hn ⟨rfl,by rw [List.length_set]; exact this⟩
         have ap':∀ (j:Nat) (d:uV) (a:vG),δv[j]? = some (.ow d)->(τ.set t (some v))[j]?.join=some (.ref a)->a≠q/\∃ o,H1 a=some o:=fun j d a e1 e2=>by
           rw [u6 (Ne.symm (htv j d e1))] at e2; exact ap j d a e1 e2
         have apb:∀ (j:Nat) (d:uV) (a:vG),(δv.set t (.sh ds[n]))[j]? = some (.ow d)->(τ.set t (some v))[j]?.join=some (.ref a)->a≠q/\∃ o,H1 a=some o:=fun j d a e1 e2=>by
           rw [E1] at e1;split at e1
           . cases e1
           . exact ap' j d a e1 e2
         show tIfS _ _ _ _ (τ.set t (some v)) H'';generalize hδb:δv.set t (.sh ds[n])=δb at *;generalize τ.set t (some v)=τ' at *;have fin:∀ (Gz Hz:Hp) (kz:List (uV×uV)) (kkz:List (uV×vG×List V)),SSt G1 H0 Gz Hz τ' δb->Gz q=none->Hz q=some (.dN (prs kkz))->NL Gz Hz H1 kz kkz->(kkz.map (·.2.1)).Nodup->kkz.length<=n+1->(∀ r∈kkz,r.2.2.length<=n+1)->(∀ b o,H1 b=some o->∃ o',Hz b=some o')->GrpAt G1 H0 H1 i q δv (n+1) τ' Hz kz:=fun Gz Hz kz kkz s1 s2 s3 s4 s5 s6 s7 s8=>by
           have:=s1.forget t; rw [hback] at this; exact ⟨⟨Gz,kkz,this,s2,s3,s4,s5,s6,s7⟩,hτ',ap',s8⟩
         refine ⟨G3,δb,S3.sr,?_⟩;cases ec:c δb with
         | exc _=>rw [ec] at eg; cases eg
         | no=>rw [ec] at eg; cases eg
         | ok bb =>
           rw [ec] at eg; intro G4 H4 g4; have S4:=S3.grow g4; have nl4:=nl3.grow g4; have dq4:=g4.h _ _ dq3; have kp4:=O8 g4.h (O8 g3.h kp); have gq4:G4 q=none:=g4.stay gq3 dq3 fun ys z=>by cases z
           cases bb with
           | false =>
             rw [if_neg (by decide)]; exact ⟨kvs,fin G4 H4 kvs kk S4 gq4 dq4 nl4 nd (by lia) (fun r hr=>CU (rl r hr)) kp4,eg⟩
           | true =>
             rw [if_pos rfl]; dsimp only at eg;cases efk:fk δb with
             | exc _=>rw [efk] at eg; cases eg
             | no=>rw [efk] at eg; cases eg
             | ok kd =>
               rw [efk] at eg; dsimp only at eg;cases efv:fv δb with
               | exc _=>rw [efv] at eg; cases eg
               | no=>rw [efv] at eg; cases eg
               | ok vd =>
                 rw [efv] at eg; dsimp only at eg;split at eg
                 . rename_i hnk
                   refine ⟨.ref q,hτ',q,prs kk,rfl,dq4,G4,δb,S4.sr,?_⟩; rw [efk]; intro y5 G5 H5 g5 r5; have S5:=S4.grow g5; refine ⟨zL _,fun p hp=>?_⟩;have g6:Grow G5 H5 G5 (upd H5 p (.lst [])):=Grow.own S5.sr.sub hp; have S6:=S5.grow g6; have nl6:=(nl4.grow g5).grow g6; have dq5:=g5.h _ _ dq4; have hpq:q≠p:=D4 dq5 hp; have dq6:(upd H5 p (.lst [])) q=some (.dN (prs kk)):=g6.h _ _ dq5; have gq5:G5 q=none:=g5.stay gq4 dq4 fun ys z=>by cases z
                   have hz:(prs kk).length < sizeLine:=by
                     have:(1000:Nat)<=sizeLine:=by decide
                     rw [vA]; lia
                   refine ⟨prs kk,kd,dq6,Ir S6.sr.sub hnk r5,hnk,hz,fun v0 hv0=>?_,fun hn0=>?_⟩
                   . obtain ⟨l,xs,e1,⟨r0,m0,e0⟩,_⟩:=NL.put nl6 nd hv0
                     subst e1; have hm6:=nl6.mem r0 m0; rw [e0] at hm6; refine ⟨.inl ⟨rfl,xs,.inl (.inl hm6.1)⟩,G5,δb,S6.sr,?_⟩; rw [efv]; intro y7 G7 H7 g7 r7; have S7:=S6.grow g7; have nl7:=nl6.grow g7; have dq7:=g7.h _ _ dq6; have gq7:G7 q=none:=g7.stay gq5 dq6 fun ys z=>by cases z
                     have hm7:=nl7.mem r0 m0; rw [e0] at hm7; have hxs:xs.length<=n:=by have:=rl r0 m0; rw [e0] at this; exact this
                     have hql:q≠l:=Nw dq7 hm7.1 fun z=>by cases z
                     obtain ⟨l',xs',e1',⟨r1,m1,e1r⟩,kp⟩:=NL.put nl7 nd hv0;cases e1'; have hm1:=nl7.mem r1 m1; rw [e1r] at hm1; have exs:xs'=xs:=by have:=hm1.1.symm.trans hm7.1; cases this; rfl
                     subst exs; obtain ⟨kk',k1,k2,k3,k4⟩:=kp y7 vd r7; refine ⟨l,xs',y7,rfl,rfl,hm7.1,AJ hxs (wG (show n < 1000 by lia) (by decide)),Ep kvs kd vd,fin G7 _ _ kk' (S7.off (Bp S7.gr.h (h01.free hm7.2.2)) (Bp S7.sr.sub hm7.2.1) fun j d a z1 z2=>?_) gq7 (by rw [B7 hql,k1]; exact dq7) k4 (by rw [k2]; exact nd) ?_ (fun r hr=>?_) (My (O8 g7.h (O8 g6.h (O8 g5.h kp4)))),eg⟩
                     . obtain ⟨_,o,ho⟩:=apb j d a z1 z2
                       rw [B7 (D4 ho hm7.2.2)]
                     . have:=congrArg BM k2
                       rw [vA,vA] at this;lia
                     . rcases k3 r hr with z | z
                       . lia
                       . exact CU (rl r z)
                   . have hH1p : H1 p = none := by
                       cases z:H1 p with
                       | none=>rfl
                       | some u =>
                         obtain ⟨o',w⟩:=O8 g5.h kp4 p u z; rw [hp] at w; cases w
                     have hG5p:G5 p=none:=S5.sr.sub.free hp; have hp6:(upd H5 p (.lst [])) p=some (.lst []):=B8; have S7:SSt G1 H0 G5 (upd (upd H5 p (.lst [])) q (.dN (prs kk++[(kd,.ref p)]))) τ' δb:=S6.off (Bp S6.gr.h hq0) (Bp S6.sr.sub gq5) fun j d a z1 z2=>by rw [B7 (apb j d a z1 z2).1]
                     have hp7:(upd (upd H5 p (.lst [])) q (.dN (prs kk++[(kd,.ref p)]))) p=some (.lst []):=by rw [B7 (Ne.symm hpq)]; exact hp6
                     refine ⟨.inl ⟨rfl,[],.inl (.inl hp7)⟩,G5,δb,S7.sr,?_⟩; rw [efv]; intro y8 G8 H8 g8 r8; have S8:=S7.grow g8; have hp8:=g8.h _ _ hp7; have gp8:G8 p=none:=g8.stay hG5p hp7 fun ys z=>by cases z
                     have dq7:(upd (upd H5 p (.lst [])) q (.dN (prs kk++[(kd,.ref p)]))) q=some (.dN (prs kk++[(kd,.ref p)])):=B8; have dq8:=g8.h _ _ dq7; have gq8:G8 q=none:=g8.stay gq5 dq7 fun ys z=>by cases z
                     have nl7:NL G5 (upd (upd H5 p (.lst [])) q (.dN (prs kk++[(kd,.ref p)]))) H1 kvs kk:=nl6.keep (Same.refl _) fun r _ e n _=>⟨by rw [B7 (Nw e dq6 fun z=>by cases z)]; exact e,n⟩;have hne:∀ r∈kk,r.2.1≠p:=fun r hr=>D4 ((nl4.grow g5).mem r hr).1 hp;have nl9:NL G8 (upd H8 p (.lst [y8])) H1 kvs kk:=(nl7.grow g8).keep (Same.refl _) fun r hr e n _=>⟨by rw [B7 (hne r hr)]; exact e,n⟩;refine ⟨p,[],y8,rfl,rfl,hp8,by show 0 < sizeLine; decide,Ep kvs kd vd,fin G8 _ _ (kk++[(kd,p,[y8])]) (S8.off (Bp S8.gr.h (h01.free hH1p)) (Bp S8.sr.sub gp8) fun j d a z1 z2=>?_) gq8 ?_ (NL.new r8 ⟨B8,gp8,hH1p⟩ nl9 hn0) ?_ (by rw [wB]; show _+1<=_; lia) (fun r hr=>?_) (My (O8 g8.h (My (O8 g6.h (O8 g5.h kp4))))),eg⟩
                     . obtain ⟨_,o,ho⟩:=apb j d a z1 z2
                       show (upd H8 p (.lst ([]++[y8]))) a=H8 a;rw [B7 (D4 ho hH1p)]
                     . show (upd H8 p (.lst ([]++[y8]))) q=_
                       rw [B7 hpq,dq8]; unfold prs; rw [wI]; rfl
                     . rw [wI,AR]
                       refine ⟨nd,by simp,fun a ha b hb=>?_⟩;obtain ⟨r,hr,rfl⟩:=wF.mp ha; have:b=p:=by simpa using hb
                       subst this; exact hne r hr
                     . rcases vT.mp hr with hr | hr
                       . exact CU (rl r hr)
                       . rw [vQ.mp hr]; show 1<=n+1; lia
                 . cases eg
       . refine .inl ⟨W.stop n Hc (yX.mp hlt) (Sc.gr.g.trans Sc.sr.sub),?_⟩
         rw [AU (yX.mp hlt)] at eg; cases eg; have hq':q∉kk.map (·.2.1):=fun z=>by
           obtain ⟨r,hr,e⟩:=wF.mp z; have:=(nl.mem r hr).1; rw [e,dq] at this; cases this
         have Su:=Sc.unbase g01; have sm:=nl.same; have gh:Same (shG (kk.map (·.2.1)) Gc Hc) Hc:=fun b u e=>by
           by_cases m:b∈kk.map (·.2.1)
           . rw [gV m] at e; exact e
           . rw [Gy m] at e; exact Sc.sr.sub _ _ e
         refine a1 τ (shG (kk.map (·.2.1)) Gc Hc) Hc ⟨⟨Su.gr.g.trans sm,Su.gr.h,gh,fun b o e=>?_⟩,⟨gh,?_,fun j s e=>?_,fun j1 j2 a e1' e2' z1 z2 h1 h2=>?_⟩,fun j d a e h=>?_⟩
         . by_cases m:b∈kk.map (·.2.1)
           . obtain ⟨r,hr,rfl⟩:=wF.mp m
             exact .inr (.inl (S1.gr.h.free (nl.mem r hr).2.2))
           . rw [Gy m] at e; exact Su.gr.fr b o e
         . have:=Sc.sr.len
           rw [<- hδv] at this;simpa using this
         . rw [E1] at e
           split at e
           . cases e; trivial
           . rename_i hjt
             rw [E1] at e;split at e
             . rename_i hji
               cases e; rw [<- hji.1,hτ]; exact ⟨q,rfl,by rw [Gy hq']; exact gq,prs kk,dq,nl.keys,nl.vals sm fun r hr=>xV hr⟩
             . rename_i hji
               have ev:δv[j]? = some s:=by
                 rw [<- hδv,E1,if_neg (by simpa using hjt),E1,if_neg hji]; exact e
               have hs:=Sc.sr.sl j s ev;cases s with
               | un=>trivial
               | sh d=>obtain ⟨v,e1,r1⟩:=hs; exact ⟨v,e1,r1.mono sm⟩
               | fd _=>exact FdOk.mono sm hs
               | ow d =>
                 obtain ⟨a,e1,n1,ok⟩:=hs; have hna:a∉kk.map (·.2.1):=fun z=>by
                   obtain ⟨r,hr,er⟩:=wF.mp z; obtain ⟨_,o,ho⟩:=ap j d a ev e1; have:=(nl.mem r hr).2.2; rw [er,ho] at this; cases this
                 exact ⟨a,e1,by rw [Gy hna]; exact n1,ok.monoG sm⟩
         . have key : ∀ (j : Nat) (d : uV), ((δ.set i (.ow (.tuple [.dict out, .none]))).set t .un)[j]? = some (.ow d) -> j = i \/ δv[j]? = some (.ow d) := fun j d e => by
             rw [E1] at e;split at e
             . cases e
             . rename_i hjt
               rw [E1] at e;split at e
               . rename_i hji; exact .inl hji.1.symm
               . rename_i hji
                 exact .inr (by rw [<- hδv,E1,if_neg (by simpa using hjt),E1,if_neg hji]; exact e)
           rcases key j1 _ z1 with rfl | y1
           . rcases key j2 _ z2 with rfl | y2
             . rfl
             . rw [hτ] at h1; cases h1
               exact absurd rfl (ap j2 _ _ y2 h2).1
           . rcases key j2 _ z2 with rfl | y2
             . rw [hτ] at h2; cases h2
               exact absurd rfl (ap j1 _ _ y1 h1).1
             . exact Sc.sr.ap j1 j2 a _ _ y1 y2 h1 h2
         . rw [E1] at e
           split at e
           . cases e
           . rename_i hjt
             rw [E1] at e;split at e
             . rename_i hji
               rw [<- hji.1,hτ] at h; cases h;exact hq0
             . rename_i hji
               exact Sc.fr j d a (by rw [<- hδv,E1,if_neg (by simpa using hjt),E1,if_neg hji]; exact e) h
     | exc _=>rw [eout] at a1; exact (show False from a1).elim
     | no=>rw [eout] at a1; exact (show False from a1).elim
   . exact (show False from a1).elim
 . exact (show False from aft).elim
end
end Sm
end
noncomputable section
namespace Sm
open PySem PySem.Spec PyProof.Rows PySem.W L2
theorem iS {X:Cx} {pos:Pos}:PE X (.Dict [] [] pos) (fun Z H Q=>∀ q,H q=none->Q (.ref q) (upd H q (.dN []))):=by
 intro pins s Z H Q I h;refine xT (iR (X:=X) (pos:=pos) pins s Z H (fun v H1=>∃ q,v=.ref q/\H q=none/\H1=upd H q (.dT [])) I fun q hq=>⟨q,rfl,hq,rfl⟩) (fun v s1 hh=>?_) fun _ _ e=>e;obtain ⟨x,H1,I1,rx,q,rfl,hq,rfl⟩:=hh;have hx:(upd H q (.dT [])) q=some (.dT []):=B8;obtain ⟨z,hs,xs,rel,o,es,ep,e1,hex,hdat,hes,hnd⟩:=I1.hok q _ hx;have hxs:xs=[]:=by
   cases rel; rfl
 subst hxs;have hes':es = #[]:=by
   have:es.toList=[]:=hes; exact Array.toList_eq_nil_iff.mp this
 subst hes';obtain ⟨oc,od,odt,osl⟩:=o;obtain ⟨c1,c2,c3⟩:=hex;simp only at c1 c2 c3 hdat;subst c1 c2 c3 hdat;refine ⟨.ref q,upd H q (.dN []),?_,rx,h q hq⟩;have:=I1.write (x:=q) (e:=q) (o:=.dN []) (t':=s1.toks) (h':=s1.heap) (by rw [hx]; exact trivial) (.inl rfl) (fun b u _ w=>w) ⟨_,e1⟩ ⟨zL _,hs,.nil,(fun _ h=>nomatch h),[],.nil,ep,e1⟩;rw [Ry] at this;exact this
noncomputable def Dh (i:Nat):Dn->Out:=fun δ=>.nx (δ.set i (.ow (.tuple [.dict [],.none])))
noncomputable section
variable {P:vU} {w:wD} {K:vB} {mg:Str->Option uY} {base:wT} {X:Cx} {N:List Str} {sc:Scope} {k:Nat} {df:Bool} {E:EK} {pos p p2:Pos} {a:Expr} {x:Str}
theorem Lj (C:Cxt P w K mg base X N sc k df) (i:Nat) (ho:okSet N sc df i x=true) (hs:zX (.Dict [] [] p2) (some (.Name x p)) pos.line X.env=pure false:=by rfl):DS X E (.Assign [.Name x p] (.Dict [] [] p2) pos) (Dh i):=fun G0 H0=>by
 obtain ⟨h1,h2,h3,h4⟩:=okSet.ok C ho;refine PS.imp (Iv h1 h2 h3 iS hs h4) fun D Z H hh q hq=>?_;obtain ⟨G,δ,S,a⟩:=hh;have S1:=S.grow (Grow.own (o:=.dN []) S.sr.sub hq);exact a _ G _ (S1.set_ow (S.gr.h.free hq) (S.sr.sub.free hq) (show OwnK G _ q [.dict [],.none] from ⟨[],B8,rfl,rfl⟩) (Fs S hq))
end
def AftN (E:EK) (G H:Hp) (r:Res Kvs) (Q:VK):Prop:=match r with
 | .ok kvs=>∀ p G' H',Grow G H G' H'->H p=none->G' p=none->OwnOk G' H' p (.tuple [.dict kvs,.none])->Q (.ref p) H'
 | .exc c=>∀ G' H',Grow G H G' H'->E c H'
 | .no=>False
def tN (E:EK) (f:Dn->Res Kvs):TE:=fun Z H Q=>∃ G δ,SR G H Z δ/\AftN E G H (f δ) Q
abbrev DN (X:Cx) (E:EK) (e:Expr) (f:Dn->Res Kvs):Prop:=PE X e (tN E f)
def DSN (X:Cx) (E:EK) (sts:List k8) (g:Dn->Res Kvs):Prop:=∀ G0 H0,PSs X sts (fun D Z H=>∃ G δ,SSt G0 H0 G H Z δ/\AftN E G0 H0 (g δ) D.rt)
noncomputable def Vv (i:Nat):Dn->Res Kvs:=fun δ=>match δ[i]? with
 | some (.ow (.tuple [.dict kvs,.none]))=>.ok kvs
 | _=>.no
def spN (n:Nat) (m:List uV->Res Kvs):Sp:=fun vs H Q _=>∃ G ds kvs,Same G H/\RepL G ds vs/\ds.length=n/\m ds=.ok kvs/\∀ p G' H',Grow G H G' H'->H p=none->G' p=none->OwnOk G' H' p (.tuple [.dict kvs,.none])->Q (.ref p) H'
structure FnN (P:vU) (w:wD) (K:vB) (mg:Str->Option uY) (base:wT) (x:Str) (k n:Nat) (m:List uV->Res Kvs):Prop where
 ex:∃ f fd ps,ps.length=n/\FnOk P w K mg base CX0 k f fd ps (spN n m)/\mg x=some (.ref f)/\xU K (.ref f)=true/\Binds K fd ps []
noncomputable def X4 (i:Nat) (f:Dn->Res Kvs):Dn->Out:=fun δ=>K5 (f δ) fun kvs=>.nx (δ.set i (.ow (.tuple [.dict kvs,.none])))
noncomputable section
variable {P:vU} {w:wD} {K:vB} {mg:Str->Option uY} {base:wT} {X:Cx} {N:List Str} {sc:Scope} {k:Nat} {df:Bool} {E:EK} {pos p:Pos} {e:Expr} {es:List Expr} {fs:Dn->Res (List uV)} {fx:Dn->Res Kvs} {x:Str} {st:k8} {sts:List k8} {g1:Dn->Out} {g2:Dn->Res Kvs}
theorem jH (C:Cxt P w K mg base X N sc k df) (i:Nat) (h:okVar N sc i x=true):DSN X E [.Return (some (.Name x p)) pos] (Vv i):=fun G0 H0=>by
 refine PSs.imp (Hl (Yr (okVar.pe C h))) fun D Z H hh=>?_;obtain ⟨G,δ,S,a⟩:=hh;unfold Vv at a;split at a
 . rename_i kvs hi
   obtain ⟨q,hσ,hg,ho⟩:=S.sr.own hi; exact ⟨.ref q,hσ,a q G H S.gr (S.fr i _ q hi (by rw [hσ]; rfl)) hg ho⟩
 . exact (show False from a).elim
theorem Jb (h1:DS X E st g1) (h2:DSN X E sts g2):DSN X E (st::sts) (Lw g1 g2):=fun G0 H0=>by
 refine PSs.imp (Nr (h1 G0 H0) (h2 G0 H0)) fun D Z H hh=>?_;obtain ⟨G,δ,S,a⟩:=hh;refine ⟨G,δ,S,?_⟩;unfold Lw at a;cases e:g1 δ with
 | nx δ'=>rw [e] at a; exact fun Z' G' H' S'=>⟨G',δ',S',a⟩
 | exc d=>rw [e] at a; exact a
 | rt d=>rw [e] at a; exact (show False from a).elim
 | bk d=>rw [e] at a; exact (show False from a).elim
 | ct d=>rw [e] at a; exact (show False from a).elim
 | no=>rw [e] at a; exact (show False from a).elim
theorem fn_N {x:Str} {st:k8} {ps:List Str} {n:Nat} {go:Dn->Res Kvs} {m:List uV->Res Kvs} (F:Def K mg x st ps) (S:FnScope N ps (A4 st)) (hn:ps.length=n)
   (body:∀ X,Cxt P w K mg base X N (A4 st) k true->DSN X E0k (B4 st) go) (hm:m=fnW N go):FnN P w K mg base x (k+1) n m:=by
 obtain ⟨f,fd,F,hmg,hb⟩:=F.ex;refine ⟨f,fd,ps,hn,?_,hmg,F.kp,hb⟩;subst hm;refine F.ok S (fun vs H Q E h=>?_) (fun cdv A outer s H vs Q E hr h=>?_)
 . obtain ⟨G,ds,d,_,r,hl,_⟩:=h
   rw [<- r.length,hl,hn]
 . obtain ⟨G,ds,kvs,hG,r,hl,em,q⟩:=h
   refine ⟨_,body _ ⟨rfl,rfl,rfl,rfl,rfl,rfl,rfl,rfl,hr,fun _ _=>rfl,AZ⟩ G H,G,_,Gv hG r N,?_⟩;unfold fnW at em; rw [em]; exact q
theorem Te {x:Str} {j n:Nat} {m:List uV->Res Kvs} (C:Cxt P w K mg base X N sc k df) (F:FnN P w K mg base x j n m) (hj:j<=k) (h:okGl sc x=true) (ha:DA X E0k (e::es) n fs)
   (he:vI (e::es) X.env=(false,eval e X.env)::vI es X.env:=by rfl) (hpl:(yL pos (vI es X.env)).any (·.1)=false:=by rfl):DN X E0k (.Call (.Name x p) (e::es) [] pos) (Gi fs m):=by
 obtain ⟨f,fd,ps,hps,F,hm,hk,hb⟩:=F.ex;obtain ⟨h1,h2,h3⟩:=okGl.gl C h;have F':FnOk X.prog X.w X.K X.mg X.base CX0 j f fd ps (spN n m):=by rw [C.hP,C.hw,C.hK,C.hmg,C.hb]; exact F
 refine PE.imp (Ll F' (C.room.mono hj) h1 (by rw [C.hmg]; exact hm) (by rw [C.hK]; exact hk) (by rw [C.hK]; exact hb) .nil (aS (X:=X)) ha.pa h2 he hpl) fun Z H Q hh=>?_;obtain ⟨G,δ,S,aft⟩:=hh;have gw:∀ {G H G' H':Hp} {r:Res Kvs},Grow G H G' H'->AftN E0k G H r Q->AftN E0k G' H' r Q:=fun {G H G' H' r} g a=>by
   cases r with
   | ok kvs=>exact fun p G2 H2 g2 hp hp' ho=>a p G2 H2 (g.trans g2) (g.h.free hp) hp' ho
   | exc c=>exact fun G2 H2 g2=>a G2 H2 (g.trans g2)
   | no=>exact a
 refine T5 (W:=fun G H r=>AftN E0k G H r Q) S aft (fun g a=>gw g a) (fun c a=>a) (fun a=>a) fun ds vs G1 H1 e g1 r1 S1 a1=>?_;rw [wQ];cases q:m ds with
 | ok d=>rw [q] at a1; exact ⟨G1,ds,d,S1.sub,r1,ha.len δ ds e,q,a1⟩
 | exc c=>rw [q] at a1; exact (a1 G1 H1 (Grow.refl S1.sub)).elim
 | no=>rw [q] at a1; exact a1.elim
theorem Fg (C:Cxt P w K mg base X N sc k df) (i:Nat) (ho:okSet N sc df i x=true) (h:DN X E e fx) (hs:zX e (some (.Name x p)) pos.line X.env=pure false:=by rfl):DS X E (.Assign [.Name x p] e pos) (X4 i fx):=fun G0 H0=>by
 obtain ⟨h1,h2,h3,h4⟩:=okSet.ok C ho;refine PS.imp (Iv h1 h2 h3 h hs h4) fun D Z H hh=>?_;obtain ⟨G,δ,S,a⟩:=hh;refine ⟨G,δ,S.sr,?_⟩;unfold X4 at a;cases q:fx δ with
 | ok kvs =>
   rw [q] at a; intro p G' H' g hp hp' ho; have S1:=S.grow g; exact a _ G' H' (S1.set_ow (S.gr.h.free hp) hp' ho (Fs S hp))
 | exc c=>rw [q] at a; exact fun G' H' g=>a G' H' (S.gr.trans g)
 | no=>rw [q] at a; exact a
end
end Sm
end
noncomputable section
namespace Sm
open PySem PySem.Spec PyProof.Rows PySem.W L2
noncomputable def V8 (c:Dn->Res Bool) (body:Dn->Out):Nat->Dn->Out
 | 0,_=>.no
 | n+1,δ=>K5 (c δ) fun b=>if b=true then (match body δ with
   | .nx δ'=>V8 c body n δ'
   | .ct δ'=>V8 c body n δ'
   | .bk δ'=>.nx δ'
   | o=>o) else .nx δ
noncomputable def Nk (c:Dn->Res Bool) (body:Dn->Out):Dn->Out:=V8 c body 4096
noncomputable def Xe (i:Nat):Dn->Res Bool:=fun δ=>match δ[i]? with
 | some (.ow (.list ds))=>.ok (!ds.isEmpty)
 | _=>.no
noncomputable def dF (i j:Nat):Dn->Out:=fun δ=>match δ[i]? with
 | some (.ow (.list ds))=>match ds[ds.length - 1]? with
   | some d=>if i≠j then .nx ((δ.set i (.ow (.list ds.dropLast))).set j (.sh d)) else .no
   | none=>.no
 | _=>.no
noncomputable def dH (i:Nat) (f:Dn->Res (List uV)):Dn->Out:=fun δ=>match δ[i]? with
 | some (.ow (.list xs))=>K5 (f δ) fun ds=>if xs.length+ds.length<=100000 then .nx (δ.set i (.ow (.list (xs++ds)))) else .no
 | _=>.no
noncomputable section
variable {P:vU} {w:wD} {K:vB} {mg:Str->Option uY} {base:wT} {X:Cx} {N:List Str} {sc:Scope} {k:Nat} {df:Bool} {E:EK} {pos p py apos cpos:Pos} {ce a:Expr} {sts:List k8} {c:Dn->Res Bool} {g1:Dn->Out} {fs:Dn->Res (List uV)} {x y:Str}
theorem aJ (C:Cxt P w K mg base X N sc k df) (hc:DT X E ce c) (hb:DSs X E sts g1):DS X E (.While ce sts [] pos) (Nk c g1):=fun G0 H0=>by
 refine PS.imp (iG (pos:=pos) C.own hc (hb G0 H0)) fun D Z H hh=>?_;obtain ⟨G,δ,S,a⟩:=hh;refine ⟨fun m Z' H'=>∃ G' δ',SSt G0 H0 G' H' Z' δ'/\Ju E G0 H0 (V8 c g1 m δ') D,⟨4096,G,δ,S,a⟩,fun m Z' H' hw=>?_⟩;obtain ⟨G',δ',S',a'⟩:=hw;cases m with
 | zero=>exact (show False from a').elim
 | succ m =>
   unfold V8 at a'; refine lF S' a' fun b G1 H1 gr S1 a1=>?_;cases b with
   | false =>
     rw [if_neg (by decide)] at a1 ⊢;exact a1 Z' G1 H1 S1
   | true =>
     rw [if_pos rfl] at a1 ⊢;refine ⟨fun Z2 H2=>∃ G' δ',SSt G0 H0 G' H2 Z2 δ'/\Ju E G0 H0 (V8 c g1 m δ') D,fun Z2 H2 z=>⟨m,BK m,z⟩,G1,δ',S1,?_⟩;cases eo:g1 δ' with
     | nx δ2=>rw [eo] at a1; exact fun Z3 G4 H4 S5=>⟨G4,δ2,S5,a1⟩
     | ct δ2=>rw [eo] at a1; exact fun Z3 G4 H4 S5=>⟨G4,δ2,S5,a1⟩
     | bk δ2=>rw [eo] at a1; exact fun Z3 G4 H4 S5=>a1 Z3 G4 H4 S5
     | rt d=>rw [eo] at a1; exact a1
     | exc d=>rw [eo] at a1; exact a1
     | no=>rw [eo] at a1; exact a1
theorem t_own (C:Cxt P w K mg base X N sc k df) (i:Nat) (h:okVar N sc i x=true) (he:∀ whole,isTrue (.Name x p) X.env whole=(do let v <- whole; standAt (Expr.Name x p).pos; holding [v] (truthy v)):=by intro _; rfl):DT X E (.Name x p) (Xe i):=by
 refine PT.imp (Vm (okVar.pe C h) he) fun Z H Q hh=>?_;obtain ⟨G,δ,S,a⟩:=hh;unfold Xe at a;split at a
 . rename_i ds hi
   obtain ⟨q,hσ,hg,xs,hx,rl⟩:=S.own hi; have he:ds.isEmpty=xs.isEmpty:=by
     have:=rl.length;cases ds <;> cases xs <;> simp at this ⊢
   refine ⟨.ref q,hσ,!xs.isEmpty,.inl ⟨xs,.inl (.inl hx),rfl⟩,?_⟩; rw [<- he]; exact a G H (Grow.refl S.sub)
 . exact (show False from a).elim
theorem s_pop (C:Cxt P w K mg base X N sc k df) (i j:Nat) (h:okVar N sc i x=true) (ho:okSet N sc df j y=true)
   (hbase:i7 (.Name x p) "pop" X.env (eval (.Name x p) X.env)=eval (.Name x p) X.env:=by rfl) (hline:(apos.endLine==cpos.line)=true:=by rfl)
   (hs:zX (.Call (.Attribute (.Name x p) "pop" apos) [] [] cpos) (some (.Name y py)) pos.line X.env=pure false:=by rfl) :
   DS X E (.Assign [.Name y py] (.Call (.Attribute (.Name x p) "pop" apos) [] [] cpos) pos) (dF i j):=fun G0 H0=>by
 obtain ⟨h1,h2,h3,h4⟩:=okSet.ok C ho;refine PS.imp (Iv h1 h2 h3 (sK zV PySem.F.slot_list_pop PySem.F.type_list_pop sU (okVar.pe C h) hbase hline) hs h4) fun D Z H hh=>?_;obtain ⟨G,δ,S,a⟩:=hh;unfold dF at a;split at a
 . rename_i ds hi
   split at a
   . rename_i d hd
     split at a
     . rename_i hij
       obtain ⟨q,hσ,hg,xs,hx,rl⟩:=S.sr.own hi; obtain ⟨v,hv,rv⟩:=rl.get hd; rw [rl.length] at hv; refine ⟨.ref q,hσ,.inl ⟨rfl,xs,.inl (.inl hx)⟩,q,xs,v,rfl,rfl,hx,hv,?_⟩; have S1:=S.write (o:=.lst xs.dropLast) (d':=.list ds.dropLast) hi (by rw [hσ]; rfl) hg ⟨_,B8,rl.dropLast⟩;exact a _ G _ (S1.set_sh rv)
     . exact (show False from a).elim
   . exact (show False from a).elim
 . exact (show False from a).elim
theorem s_ext (C:Cxt P w K mg base X N sc k df) (i:Nat) (h:okVar N sc i x=true) (ha:DF X E a fs)
   (hbase:i7 (.Name x p) "extend" X.env (eval (.Name x p) X.env)=eval (.Name x p) X.env:=by rfl)
   (hfew:((yL cpos (vI [a] X.env)).all (fun x => !x.1)&&(EI cpos (AX [] X.env)).all (fun x=>x.1.isSome)
     && decide ([a].length+([]:List x8).length+(if ([]:List x8).isEmpty then 0 else 1) < 30))=true:=by rfl)
   (hline:(apos.endLine==cpos.line)=true:=by rfl) (hs:vI [a] X.env=(false,eval a X.env)::vI [] X.env:=by rfl) (hplain:(yL cpos (vI [] X.env)).any (·.1)=false:=by rfl)
   (hsw:zX (.Call (.Attribute (.Name x p) "extend" apos) [a] [] cpos) none pos.line X.env=pure false:=by rfl) :
   DS X E (.Expr (.Call (.Attribute (.Name x p) "extend" apos) [a] [] cpos) pos) (dH i fs):=fun G0 H0=>by
 refine PS.imp (Ta (Qo zV PySem.F.slot_list_extend PySem.F.type_list_extend eC (okVar.pe C h) (F6 ha O2 hs) hbase hfew hline hs hplain) hsw) fun D Z H hh=>?_;obtain ⟨G,δ,S,aft⟩:=hh;unfold dH at aft;split at aft
 . rename_i ds hi
   obtain ⟨q,hσ,hg,xs,hx,rl⟩:=S.sr.own hi; refine ⟨.ref q,hσ,.inl ⟨rfl,xs,.inl (.inl hx)⟩,?_⟩; refine Zy S aft fun es b zs G1 H1 g1 q1 q2 q3 q4 S1 a1=>?_;split at a1
   . rename_i hlen
     have hx1:=g1.h _ _ hx; have hqb:q≠b:=D4 hx q1; have hg1:G1 q=none:=g1.stay hg hx fun ys z=>by cases z
     have l1:=rl.length; have l2:=q4.length; refine ⟨q,b,xs,zs,rfl,rfl,hx1,q3,vX (by lia) (show 100000<=sizeLine by decide),?_⟩;exact a1 Z G1 _ (S1.write (o:=.lst (xs++zs)) (d':=.list (ds++es)) hi (by rw [hσ]; rfl) hg1 ⟨_,B8,(rl.mono g1.g).append q4⟩)
   . exact (show False from a1).elim
 . exact (show False from aft).elim
end
end Sm
end
noncomputable section
namespace Sm
open PySem PySem.Spec PyProof.Rows PySem.W L2
noncomputable section
variable {X:Cx} {pins:List (vG×Obj)} {Z:St} {H:Hp} {s:uZ} {a:vG} {A:xD} {E:uY->uZ->Prop}
theorem n_at {kvs:List (uV×V)} {xs:List (uY×uY)} {kd:uV} {w:wD} {i:Nat} {e:xP} (rel:yC (PrN H) kvs xs) (hk:nkD kd=true) (nk:∀ p∈kvs,nkD p.1=true) (nd:(kvs.map (·.1)).Nodup) (hi:(kvs.map (·.1))[i]? = some kd) (he:(O4 w kvs xs)[i]? = some e) :
   ∃ v,kvs[i]? = some (kd,v)/\N4 kvs kd=some v/\RelV v e.val:=by
 obtain ⟨p,q,h1,h2,⟨_,h5⟩,rfl⟩:=Lo rel he;rw [wE,h1] at hi;have hp:p=(kd,p.2):=by
   have:p.1=kd:=by simpa using hi
   rw [<- this]
 rw [hp] at h1;exact ⟨p.2,h1,Dq hk nk nd h1,h5⟩
theorem sS {kvs:List (uV×V)} {kd:uV} {y v:V} {u:uY} {Q:uY->uZ->Prop} (hu:A.units+16 < zE) (I:Inv X pins Z H s) (e:Rd H a (.dN kvs)) (rk:KRep H kd y) (hk:nkD kd=true) (ry:RelV y u) (hv:N4 kvs kd=some v)
   (h:∀ w' s',Inv X pins Z H s'->RelV v w'->Q w' s'):wpAny (vS X.prog X.w) A (BG (.ref a) u) Q E s:=by
 obtain ⟨z,hd,nd,nk,xs,rel,ep,e1⟩:=e.ok I.hok;have hT:s.TypeIs (.ref a) "dict" := ⟨_,e1,rfl⟩;have hm:kd∈kvs.map (·.1):=p8 fun z=>by rw [Hq hk nk z] at hv; cases hv
 unfold BG;try with_reducible refine wZ ?_
 refine uW (BE hT (by decide) ?_);refine uW (xA (name:=yT "__getitem__") hT F.slot_dict_getitem ?_);refine HA F.slot_dict_getitem hT F.entry_dict_getitem (F.args_dict_getitem_2 _ _) (Vy a u) ⟨_,_,ep,kvs.map (·.1),kd,hu,e1,rfl,Oc I rel nk nd,Ja I rk ry hk,hm,fun i e tk hi he=>?_⟩;obtain ⟨v',_,h2,h3⟩:=n_at rel hk nk nd hi (by simpa using he);rw [hv] at h2; cases h2;exact uX (h _ _ (I.tok _) h3)
theorem n_has {kvs:List (uV×V)} {kd:uV} (hk:nkD kd=true) (nk:∀ p∈kvs,nkD p.1=true) (nd:(kvs.map (·.1)).Nodup) (hm:kd∈kvs.map (·.1)):(N4 kvs kd).isSome=true:=by
 obtain ⟨⟨k',v⟩,hp,rfl⟩:=wF.mp hm;obtain ⟨i,hi⟩:=ED.mp hp;rw [Dq hk nk nd hi]; rfl
theorem Yw {kvs:List (uV×V)} {kd:uV} {y:V} {u:uY} {Q:Bool->uZ->Prop} (hu:A.units+16 < zE) (I:Inv X pins Z H s) (e:Rd H a (.dN kvs)) (rk:KRep H kd y) (hk:nkD kd=true) (ry:RelV y u)
   (h:∀ s',Inv X pins Z H s'->Q (N4 kvs kd).isSome s'):wpAny (vS X.prog X.w) A (contains (.ref a) u) Q E s:=by
 obtain ⟨z,hd,nd,nk,xs,rel,ep,e1⟩:=e.ok I.hok;have hT:s.TypeIs (.ref a) "dict" := ⟨_,e1,rfl⟩;unfold contains;try with_reducible refine wZ ?_
 refine uW (c9 hT F.slot_dict_contains.lookup ?_);show wpAny _ _ (if (some (Value.builtin "dict.__contains__")==some yP)=true then _ else _) _ _ s;rw [if_neg (by rw [HU]; exact zQ)];refine uW (wpAny_callSpecialUnlessNone?_slot (name:=yT "__contains__") hT F.slot_dict_contains ?_);refine HA F.slot_dict_contains hT F.entry_dict_contains (F.args_dict_contains_2 _ _) (eF a u hd) ⟨_,_,ep,kvs.map (·.1),kd,hu,e1,rfl,Oc I rel nk nd,Ja I rk ry hk,fun tk hm=>?_,fun tk hn=>?_⟩
 . have:=h _ (I.tok tk)
   rw [n_has hk nk nd hm] at this; exact a9 this
 . have:=h _ (I.tok tk)
   rw [Hq hk nk hn] at this; exact a9 this
end
def tNIx (td ty:TE):TE:=fun Z H Q=>td Z H fun x H1=>ty Z H1 fun y H2=>∃ a kvs kd v,x=.ref a/\Rd H2 a (.dN kvs)/\KRep H2 kd y/\nkD kd=true/\N4 kvs kd=some v/\Q v H2
def tNIn (b:Bool) (ty td:TE):TE:=fun Z H Q=>ty Z H fun y H1=>td Z H1 fun x H2=>∃ a kvs kd,x=.ref a/\Rd H2 a (.dN kvs)/\KRep H2 kd y/\nkD kd=true/\Q (.bl ((N4 kvs kd).isSome != b)) H2
noncomputable section
variable {X:Cx} {o i:Expr} {pos:Pos} {td ty:TE}
theorem sI (hu:X.A.units+16 < zE) (ho:PE X o td) (hi:PE X i ty) (hs:uU i):PE X (.Subscript o i pos) (tNIx td ty):=by
 intro pins s Z H Q I h;refine lW PySem.F.slot_dict_getitem.lookup hs (thn (ho pins s Z H _ I h) fun u s1 hY84=>?_);obtain ⟨x,H1,I1,rx,q1⟩:=hY84;refine thn (hi pins s1 Z H1 _ I1 q1) fun iv s2 hZ2=>?_;obtain ⟨y,H2,I2,ry,a,kvs,kd,v,ex,g,rk,hk,hv,q2⟩:=hZ2;subst ex;obtain rfl:u=yH a:=rx;obtain ⟨_,_,_,_,_,_,ep,e1⟩:=g.ok I2.hok;exact ⟨⟨_,e1,rfl⟩,sS hu I2 g rk hk ry hv fun w' s3 I3 rw'=>⟨v,H2,I3,rw',q2⟩⟩
theorem Qp (hu:X.A.units+16 < zE) (hi:PE X i ty) (ho:PE X o td):PC X .NotIn i o (tNIn true ty td):=by
 intro pins s Z H Q I h;refine thn (hi pins s Z H _ I h) fun iv s1 hY86=>?_;obtain ⟨y,H1,I1,ry,q1⟩:=hY86;refine thn (ho pins s1 Z H1 _ I1 q1) fun u s2 hZ2=>?_;obtain ⟨x,H2,I2,rx,a,kvs,kd,ex,g,rk,hk,q2⟩:=hZ2;subst ex;obtain rfl:u=yH a:=rx;show wpAny _ _ (do return AY (!(<- contains (yH a) iv))) _ _ s2;rw [Bool.bne_true] at q2;exact uW (Yw hu I2 g rk hk ry fun s3 I3=>uX ⟨.bl (!(N4 kvs kd).isSome),H2,I3,rfl,q2⟩)
end
noncomputable def Oy (i:Nat) (f:Dn->Res uV):Dn->Res uV:=fun δ=>match kvN δ i with
 | some kvs=>(f δ).bind fun kd=>if nkD kd=true then ofO (N9 kvs kd) else .no
 | none=>.no
noncomputable def T0 (b:Bool) (i:Nat) (f:Dn->Res uV):Dn->Res uV:=fun δ=>(f δ).bind fun kd=>match kvN δ i with
 | some kvs=>if nkD kd=true then .ok (.bool ((N9 kvs kd).isSome != b)) else .no
 | none=>.no
noncomputable section
variable {P:vU} {w:wD} {K:vB} {mg:Str->Option uY} {base:wT} {X:Cx} {N:List Str} {sc:Scope} {k:Nat} {df:Bool} {E:EK} {p pos:Pos} {a b:Expr} {f g:Dn->Res uV} {x:Str}
theorem kP (C:Cxt P w K mg base X N sc k df) (i:Nat) (h:okVar N sc i x=true) (hk:DE X E a f) (hs:uU a:=by exact fun _ _=>rfl):DE X E (.Subscript (.Name x p) a pos) (Oy i f):=by
 refine PE.imp (sI (by have:=C.hu; lia) (okVar.pe C h) hk hs) fun Z H Q hY87=>?_;obtain ⟨G,δ,S,aft⟩:=hY87;unfold Oy at aft;split at aft
 . rename_i kvs hi
   obtain ⟨q,kk,hσ,hx,hkeys,hvals⟩:=S.kvN hi; refine ⟨.ref q,hσ,?_⟩; refine K2 S aft fun kd v G1 H1 g1 r1 S1 a1=>?_;split at a1
   . rename_i hn
     rcases Ho (k:=kd) hkeys hvals with ⟨n1,n2⟩ | ⟨d0,v0,n1,n2,rd⟩
     . rw [n1] at a1; exact a1.elim
     . rw [n1] at a1
       exact ⟨q,kk,kd,v0,rfl,Rd.mono g1.h hx,Ir S1.sub hn r1,hn,n2,a1 _ G1 H1 (Grow.refl S1.sub) (rd.mono g1.g)⟩
   . exact a1.elim
 . exact aft.elim
theorem bE {t:Bool} {i:Nat} {Z:St} {H:Hp} {Q:VK} (h:tD E (T0 t i f) Z H Q):tNIn t (tD E f) (Sa i) Z H Q:=by
 obtain ⟨G,δ,S,aft⟩:=h;refine K2 S aft fun kd v G1 H1 g1 r1 S1 a1=>?_;split at a1
 . rename_i kvs hi
   split at a1
   . rename_i hn
     obtain ⟨q,kk,hσ,hx,hkeys,hvals⟩:=S1.kvN hi; refine ⟨.ref q,hσ,q,kk,kd,rfl,hx,Ir S1.sub hn r1,hn,?_⟩; have:(N4 kk kd).isSome=(N9 kvs kd).isSome:=by
       rcases Ho (k:=kd) hkeys hvals with ⟨n1,n2⟩ | ⟨d0,v0,n1,n2,_⟩ <;> rw [n1,n2] <;> rfl
     rw [this]; exact a1 _ G1 H1 (Grow.refl S1.sub) rfl
   . exact a1.elim
 . exact a1.elim
theorem jZ {t:Bool} {i:Nat} {δ:Dn} {d:uV} (e:T0 t i f δ=.ok d):∃ b,d=.bool b:=by
 unfold T0 Res.bind at e;split at e
 . split at e
   . dsimp only at e
     split at e
     . cases e; exact ⟨_,rfl⟩
     . cases e
   . cases e
 . cases e
 . cases e
theorem kW {t:Bool} {i:Nat} {G H:Hp} {δ:Dn} {Q:Bool->Hp->Prop} (aft:AftT E G H (B6 (T0 t i f) δ) Q):Aft E G H (T0 t i f δ) (fun v H'=>∃ b,v=.bl b/\Q b H'):=by
 unfold B6 at aft;cases e:T0 t i f δ with
 | ok d =>
   obtain ⟨b,rfl⟩:=jZ e; rw [e] at aft; intro v G' H' g r; exact ⟨b,r,aft G' H' g⟩
 | exc c=>rw [e] at aft; exact aft
 | no=>rw [e] at aft; exact aft
theorem Oh (C:Cxt P w K mg base X N sc k df) (i:Nat) (h:okVar N sc i x=true) (hk:DE X E a f) (hm:behindInMarks .NotIn (.Name x p)=false:=by with_unfolding_all rfl):DE X E (.Compare a [.NotIn] [.Name x p] pos) (T0 true i f) :=
 PE.imp (sJ (Qp (by have:=C.hu; lia) hk (okVar.pe C h)) hm) fun _ _ _ h=>bE h
theorem Gm (C:Cxt P w K mg base X N sc k df) (i:Nat) (h:okVar N sc i x=true) (hk:DE X E a f) (hm:behindInMarks .NotIn (.Name x p)=false:=by with_unfolding_all rfl):DT X E (.Compare a [.NotIn] [.Name x p] pos) (B6 (T0 true i f)):=by
 refine PT.imp (Yq (Qp (by have:=C.hu; lia) hk (okVar.pe C h)) hm) fun Z H Q hY89=>?_;obtain ⟨G,δ,S,aft⟩:=hY89;refine bE ⟨G,δ,S,?_⟩;exact kW aft
end
end Sm
end
noncomputable section
namespace Sm
open PySem PySem.Spec PyProof.Rows PySem.W L2
noncomputable def P7 {α:Type}:List (uV×α)->uV->α->List (uV×α)
 | [],k,v=>[(k,v)]
 | p::r,k,v=>if vN p.1 k=true then (p.1,v)::r else p::P7 r k v
theorem Di {α:Type} {k:uV} {v:α}:∀ (l:List (uV×α)),(P7 l k v).length<=l.length+1:=by
 intro iN; induction iN with
 | nil=>skip; exact vL _
 | cons p r ih =>
   skip
   unfold P7;split
   . simp
   . simp only [vP]; exact Nat.succ_le_succ (ih)
theorem mU {k:uV} {v:V} (hk:nkD k=true):∀ {kk:List (uV×V)} {i:Nat} {v0:V},(∀ p∈kk,nkD p.1=true)->(kk.map (·.1)).Nodup->kk[i]? = some (k,v0)->P7 kk k v=kk.modify i fun p=>(p.1,v):=by
 intro iN; induction iN with
 | nil=>intro _ _ _ _ h; simp at h
 | cons p kk ih =>
   intro i v0 hn nd h; unfold P7; have hp:=Jj (O3 (hn p (.head _))).1 (O3 hk).1;cases i with
   | zero =>
     simp at h;subst h; rw [if_pos (hp.mpr rfl)]; rfl
   | succ i =>
     rw [vK,zI] at nd; have hm:(k,v0)∈kk:=yR (by simpa using h);rw [if_neg (fun z=>nd.1 (by rw [hp.mp z]; exact xV hm)),ih (fun q hq=>hn q (.tail _ hq)) nd.2 (by simpa using h)];rfl
theorem mT {k:uV} {v:V} (hk:nkD k=true):∀ {kk:List (uV×V)},(∀ p∈kk,nkD p.1=true)->k∉kk.map (·.1)->P7 kk k v=kk++[(k,v)]:=by
 intro iN; induction iN with
 | nil=>intro _ _; exact rfl
 | cons p kk ih =>
   intro hn h; unfold P7; rw [vK,vF,not_or] at h; rw [if_neg (fun z=>h.1 ((Jj (O3 (hn p (.head _))).1 (O3 hk).1).mp z).symm),ih (fun q hq=>hn q (.tail _ hq)) h.2];rfl
theorem Np {G:Hp} {k d:uV} {v:V} (r:Rep G d v):∀ {kvs:Kvs} {kk:List (uV×V)},kvs.map (·.1)=kk.map (·.1)->RepL G (kvs.map (·.2)) (kk.map (·.2))->(P7 kvs k d).map (·.1)=(P7 kk k v).map (·.1)/\RepL G ((P7 kvs k d).map (·.2)) ((P7 kk k v).map (·.2))
 | [],[],_,_=>⟨rfl,RepL.cons r rfl⟩
 | [],_::_,e,_=>by cases e
 | _::_,[],e,_=>by cases e
 | p::kvs,q::kk,e,l=>by
   simp only [vK,w8] at e; obtain ⟨x,t,ex,rx,l⟩:=l; simp only [vK,w8] at ex; unfold P7; rw [e.1];split
   . exact ⟨by simp only [vK]; rw [e.2],RepL.cons r (by rw [ex.2]; exact l)⟩
   . obtain ⟨h1,h2⟩:=Np (k:=k) r e.2 (by rw [ex.2]; exact l)
     exact ⟨by simp only [vK]; rw [e.1,h1],RepL.cons (show Rep G p.2 q.2 by rw [ex.1]; exact rx) h2⟩
theorem Wq {w:wD} {v:V} {r:uY}:∀ (kk:List (uV×V)) (xs:List (uY×uY)) (i:Nat),(O4 w kk xs).modify i (fun e=>{ e with val:=r })=O4 w (kk.modify i fun p=>(p.1,v)) (xs.modify i fun q=>(q.1,r))
 | [],xs,i=>by cases i <;> simp [O4]
 | _::_,[],i=>by cases i <;> simp [O4]
 | p::kk,q::xs,0=>rfl
 | p::kk,q::xs,i+1=>by
   have:=Wq (w:=w) (v:=v) (r:=r) kk xs i; simp only [O4,List.zipWith_cons_cons,List.modify_succ_cons] at this ⊢;rw [this]
theorem Nu {α β:Type} {F:α->β->Prop} {f:α->α} {g:β->β} (h:∀ a b,F a b->F (f a) (g b)):∀ {l₁:List α} {l₂:List β} (i:Nat),yC F l₁ l₂->yC F (l₁.modify i f) (l₂.modify i g)
 | _,_,i,.nil=>by cases i <;> exact .nil
 | _,_,0,.cons r t=>.cons (h _ _ r) t
 | _,_,i+1,.cons r t=>.cons r (Nu h i t)
noncomputable section
variable {prog:vU} {w:wD} {A:xD} {E:uY->uZ->Prop} {s:uZ}
theorem fC {d:vG} {key v:uY} {L:List xP} {ep:Nat} {ks:List uV} {k:uV} {Q:Unit->uZ->Prop} (hu:A.units+8 < zE) (ho:s.heap.get? d=some { cls:=.type "dict",data:=.dict (FT L) ep }) (hz:L.length<=sizeLine) (N:EsN w s.heap L.toArray ks) (x:NAt s.heap key k)
   (h1:∀ (i:Nat) (h':wT) (tk:Nat),ks[i]? = some k->(∀ b o,b≠d->s.heap.get? b=some o->h'.get? b=some o)->h'.get? d=some { cls:=.type "dict",data:=.dict (L.modify i fun e=>{ e with val:=v }).toArray ep }->Q () { s with heap:=h',toks:=tk })
   (h0:∀ (h':wT) (tk:Nat),k∉ks->(∀ b o,b≠d->s.heap.get? b=some o->h'.get? b=some o)->h'.get? d=some { cls:=.type "dict",data:=.dict (L++[DictEntry.mk (R0 w k) key v]).toArray (ep+1) }->Q () { s with heap:=h',toks:=tk }) :
   wpAny (vS prog w) A (dictSet d key v) Q E s:=by
 unfold dictSet;try with_reducible refine wZ ?_
 refine uW (x.hash hu fun tk=>?_);unfold dictSetHashed;try with_reducible refine wZ ?_
 refine uW (Zg (s:={ s with toks:=tk }) hu ho rfl N x (fun i hi=>?_) fun hn=>?_)
 . refine uW (yN (uW (wpAny_updateDict (s:={ s with toks:=tk }) ho rfl (wpAny_point (h1 i _ tk hi (fun b o hb e=>?_) ?_)))))
   . exact (EZ _ _ _ _ hb).trans e
   . have:=yJ (Obj.mapDict fun x=>x.modify i fun e=>{ e with val:=v }) ho (FD (Obj.data_mapDict rfl _))
     rw [this]; simp [Obj.mapDict]
 . refine uW (yN (wpAny_updateDictKeys (hz:=by simpa using hz) (s:={ s with toks:=tk }) ho rfl (h0 _ tk hn (fun b o hb e=>?_) ?_)))
   . exact (EZ _ _ _ _ hb).trans e
   . have:=yJ (EC fun x=>x.push ⟨R0 w k,key,v⟩) ho (FD (Obj.data_mapDictKeys rfl _))
     rw [this]; simp [EC]
end
noncomputable section
variable {X:Cx} {pins:List (vG×Obj)} {Z:St} {H:Hp} {s:uZ} {a:vG} {A:xD} {E:uY->uZ->Prop}
theorem Qs {kvs:List (uV×V)} {kd:uV} {y d:V} {u r:uY} {Q:Unit->uZ->Prop} (hu:A.units+8 < zE) (I:Inv X pins Z H s) (e:H a=some (.dN kvs)) (rk:KRep H kd y) (hk:nkD kd=true) (hz:kvs.length < sizeLine) (ry:RelV y u) (rd:RelV d r)
   (h:∀ s',Inv X pins Z (upd H a (.dN (P7 kvs kd d))) s'->(∀ b o,b≠a->s.heap.get? b=some o->s'.heap.get? b=some o)->Q () s'):wpAny (vS X.prog X.w) A (dictSet a u r) Q E s:=by
 obtain ⟨z,hd,nd,nk,xs,rel,ep,e1⟩:=I.hok a _ e;have hl:=Paired.len' rel;have hlen:(O4 X.w kvs xs).length<=sizeLine:=by
   unfold O4; rw [List.length_zipWith]; lia
 have ht:∀ b ys,H b=some (.tup ys)->(upd H a (.dN (P7 kvs kd d))) b=some (.tup ys):=fun b ys z=>by
   rw [B7 (Nw z e (fun z=>by cases z))]; exact z
 refine fC (ep:=ep) (ks:=kvs.map (·.1)) (k:=kd) hu e1 hlen (Oc I rel nk nd) (Ja I rk ry hk) (fun i h' tk hi hkeep hnew=>?_) (fun h' tk hn hkeep hnew=>?_)
 . refine h _ ?_ hkeep
   have hlt:i < kvs.length:=by have:=(vY.mp hi).1; simpa using this
   have hp:kvs[i]? = some (kd,kvs[i].2):=by
     rw [wC hlt]; have h2:=hi; rw [wE,wC hlt] at h2; have:kvs[i].1=kd:=by simpa using h2
     rw [<- this]
   have ep':=mU (v:=d) hk nk nd hp; refine I.write (x:=a) (e:=a) (t':=tk) (by rw [e]; exact trivial) (.inl rfl) (fun b o hb q=>hkeep b o hb q) ⟨_,hnew⟩ ?_;have hkeys:(P7 kvs kd d).map (·.1)=kvs.map (·.1):=by
     rw [ep']; apply p7;intro j; rw [wE,wE,List.getElem?_modify];by_cases c:i=j
     . simp only [c,if_pos]; cases kvs[j]? <;> rfl
     . simp only [c,if_neg,if_false]; cases kvs[j]? <;> rfl
   refine ⟨vX (Di kvs) hz,hd,by rw [hkeys]; exact nd,fun p hp=>?_,xs.modify i (fun q=>(q.1,r)),?_,ep,?_⟩
   . have:p.1∈kvs.map (·.1):=by rw [<- hkeys]; exact xV hp
     obtain ⟨p',m,em⟩:=wF.mp this; rw [<- em]; exact nk p' m
   . rw [ep']
     exact Paired.mapP (Nu (fun p q hZ2=>by obtain ⟨⟨v,z1,z2⟩,_⟩:=hZ2; exact ⟨⟨v,z1,z2⟩,rd⟩) i rel) fun p q hZ2=>by obtain ⟨⟨v,z1,z2⟩,z3⟩:=hZ2; exact ⟨⟨v,z1.mono (ep'▸ht),z2⟩,z3⟩
   . rw [ep',<- Wq]; exact hnew
 . refine h _ ?_ hkeep
   have ep':=mT (v:=d) hk nk hn; refine I.write (x:=a) (e:=a) (t':=tk) (by rw [e]; exact trivial) (.inl rfl) (fun b o hb q=>hkeep b o hb q) ⟨_,hnew⟩ ⟨vX (Di kvs) hz,hd,?_,?_,xs++[(u,r)],?_,ep+1,?_⟩
   . rw [ep',wI,AR]
     refine ⟨nd,by simp,fun x hx y hy=>?_⟩;have:y=kd:=by simpa using hy
     subst this; exact fun z=>hn (z▸hx)
   . rw [ep']
     intro p hp; rcases vT.mp hp with hp | hp
     . exact nk p hp
     . rw [vQ.mp hp]; exact hk
   . have:=Paired.app' (F:=PrN (upd H a (.dN (P7 kvs kd d)))) (a:=(kd,d)) (b:=(u,r)) ⟨⟨y,rk.mono ht,ry⟩,rd⟩ (Paired.mapP rel fun p q hZ2=>by obtain ⟨⟨v,z1,z2⟩,z3⟩:=hZ2; exact ⟨⟨v,z1.mono ht,z2⟩,z3⟩)
     rw [<- ep'] at this; exact this
   . rw [ep',Wr hl]; exact hnew
theorem n_put {kvs:List (uV×V)} {kd:uV} {y d:V} {u r:uY} {Q:Unit->uZ->Prop} (hu:A.units+16 < zE) (I:Inv X pins Z H s) (e:H a=some (.dN kvs)) (rk:KRep H kd y) (hk:nkD kd=true) (hz:kvs.length < sizeLine) (ry:RelV y u) (rd:RelV d r)
   (h:∀ s',Inv X pins Z (upd H a (.dN (P7 kvs kd d))) s'->Q () s'):wpAny (vS X.prog X.w) A (setItem (.ref a) u r) Q E s:=by
 obtain ⟨z,hd,nd,nk,xs,rel,ep,e1⟩:=I.hok a _ e;have hT:s.TypeIs (.ref a) "dict" := ⟨_,e1,rfl⟩;unfold setItem;try with_reducible refine wZ ?_
 refine uW (BE hT (by decide) ?_);refine uW (xA (name:=yT "__setitem__") hT F.slot_dict_setitem ?_);refine wV F.slot_dict_setitem hT F.entry_dict_setitem ?_ (F.args_dict_setitem_3 _ _ _);show wpAny _ _ (Builtin.Dict.notOrdered "__setitem__" ⟨[.ref a,u,r],[]⟩>>=_) _ _ s;refine uW (BP hT ?_);show wpAny _ _ (dictSet a u r>>=_) _ _ s;exact uW (Qs (hu8 hu) I e rk hk hz ry rd fun s' I' _=>uX ⟨.none,rfl,uX (h s' I')⟩)
end
def sNPut (td ty tv:TE):TS:=fun D Z H=>tv Z H fun v H1=>td Z H1 fun x H2=>ty Z H2 fun y H3=>∃ a kvs kd,x=.ref a/\H3 a=some (.dN kvs)/\KRep H3 kd y/\nkD kd=true/\kvs.length < sizeLine/\D.nx Z (upd H3 a (.dN (P7 kvs kd v)))
theorem mZ {X:Cx} {o i value:Expr} {pos pos':Pos} {td ty tv:TE} (hu:X.A.units+16 < zE) (ho:PE X o td) (hi:PE X i ty) (hv:PE X value tv) (hs:zX value (some (.Subscript o i pos')) pos.line X.env=pure false) :
   PS X (.Assign [.Subscript o i pos'] value pos) (sNPut td ty tv):=by
 intro pins s Z H D I h;refine wpAny_Assign_Subscript (thn (hv pins s Z H _ I h) fun r s1 hY90=>?_) hs;obtain ⟨v,H1,I1,rv,q1⟩:=hY90;refine thn (ho pins s1 Z H1 _ I1 q1) fun u s2 hY91=>?_;obtain ⟨x,H2,I2,rx,q2⟩:=hY91;refine thn (hi pins s2 Z H2 _ I2 q2) fun iv s3 hY92=>?_;obtain ⟨y,H3,I3,ry,a,kvs,kd,ex,g,rk,hk,hz,q3⟩:=hY92;subst ex;obtain rfl:u=yH a:=rx;exact n_put hu I3 g rk hk hz ry rv fun s4 I4=>⟨Z,_,I4,q3⟩
noncomputable def Hg (i:Nat) (fk fv:Dn->Res uV):Dn->Out:=fun δ=>match δ[i]? with
 | some (.ow (.tuple [.dict kvs,.none]))=>K5 (fv δ) fun v=>K5 (fk δ) fun kd=>if nkD kd=true/\kvs.length < 100000 then .nx (δ.set i (.ow (.tuple [.dict (P7 kvs kd v),.none]))) else .no
 | _=>.no
noncomputable section
variable {P:vU} {w:wD} {K:vB} {mg:Str->Option uY} {base:wT} {X:Cx} {N:List Str} {sc:Scope} {k:Nat} {df:Bool} {E:EK} {p p2 pos:Pos} {a b:Expr} {f g:Dn->Res uV} {x:Str}
theorem hU (C:Cxt P w K mg base X N sc k df) (i:Nat) (h:okVar N sc i x=true) (hk:DE X E a f) (hv:DE X E b g) (hs:zX b (some (.Subscript (.Name x p) a p2)) pos.line X.env=pure false:=by rfl):DS X E (.Assign [.Subscript (.Name x p) a p2] b pos) (Hg i f g):=fun G0 H0=>by
 refine PS.imp (mZ (by have:=C.hu; lia) (okVar.pe C h) hk hv hs) fun D Z H hY93=>?_;obtain ⟨G,δ,S,aft⟩:=hY93;unfold Hg at aft;split at aft
 . rename_i kvs hi
   refine Jr S aft fun v x1 G1 H1 g1 r1 S1 a1=>?_;obtain ⟨q,hσ,hg,ho⟩:=S1.sr.own hi; refine ⟨.ref q,hσ,?_⟩; refine Jr S1 a1 fun kd x2 G2 H2 g2 r2 S2 a2=>?_;obtain ⟨q',hσ',hg',ho'⟩:=S2.sr.own hi; rw [hσ] at hσ'; cases hσ'; obtain ⟨kk,hx,hkeys,hvals⟩:=(show OwnK G2 H2 q [.dict kvs,.none] from ho');split at a2
   . rename_i hc
     have hl:kk.length=kvs.length:=by
       have:=congrArg BM hkeys;simpa using this.symm
     have hlen:kk.length < sizeLine:=by
       rw [hl]; exact wG hc.2 (by decide)
     refine ⟨q,kk,kd,rfl,hx,Ir S2.sr.sub hc.1 r2,hc.1,hlen,?_⟩; obtain ⟨p1,p2⟩:=Np (k:=kd) (r1.mono g2.g) hkeys hvals; exact a2 Z G2 _ (S2.write hi (by rw [hσ]; rfl) hg' (show OwnK G2 _ q [.dict _,.none] from ⟨_,B8,p1,p2⟩))
   . exact (show False from a2).elim
 . exact (show False from aft).elim
end
noncomputable def fzN (i:Nat) (δ:Dn):Dn:=match δ[i]? with
 | some (.ow (.tuple [.dict kvs,.none]))=>δ.set i (.fd ((.dict [],.none)::kvs))
 | _=>δ
theorem SSt.fzN {G0 H0 G H:Hp} {Z:St} {δ:Dn} (S:SSt G0 H0 G H Z δ) (i:Nat):∃ G',SSt G0 H0 G' H Z (fzN i δ):=by
 unfold Sm.fzN;split
 . rename_i kvs hi
   obtain ⟨p,hp,hg,ho⟩:=S.sr.sl i _ hi; obtain ⟨kk,hx,hk,r⟩:=(show OwnK G H p [.dict kvs,.none] from ho);have h0:=S.fr i _ p hi hp; have sm:Same G (upd G p (.dN kk)):=Same.upd hg; have gh:Same (upd G p (.dN kk)) H:=fun b u e=>by
     by_cases hb:b=p
     . subst hb; rw [B8] at e; cases e; exact hx
     . rw [B7 hb] at e; exact S.sr.sub _ _ e
   have gr:Grow G0 H0 (upd G p (.dN kk)) H:=⟨S.gr.g.trans sm,S.gr.h,gh,fun b u e=>by
     by_cases hb:b=p
     . subst hb; exact .inr (.inl h0)
     . rw [B7 hb] at e; exact S.gr.fr b u e⟩
   have hil:i < δ.length:=(vY.mp hi).1; have key:∀ (j:Nat) (d':uV),(δ.set i (.fd ((.dict [],.none)::kvs)))[j]? = some (.ow d')->δ[j]? = some (.ow d')/\j≠i:=fun j d' e=>by
     rw [E1] at e;split at e
     . cases e
     . rename_i hn
       exact ⟨e,fun z=>by subst z; exact hn ⟨rfl,hil⟩⟩
   refine ⟨_,gr,⟨gh,by simp [S.sr.len],fun j s e=>?_,fun j1 j2 a d1 d2 e1 e2 h1 h2=>S.sr.ap j1 j2 a d1 d2 (key j1 d1 e1).1 (key j2 d2 e2).1 h1 h2⟩,fun j d' a e h=>S.fr j d' a (key j d' e).1 h⟩;by_cases hj:i=j/\i < δ.length
   . rw [E1,if_pos hj] at e
     cases e; rw [<- hj.1]; exact ⟨p,kk,hp,.inl B8,hk,r.mono sm⟩
   . have e2:=e
     rw [E1,if_neg hj] at e2; have hs:=S.sr.sl j s e2;cases s with
     | un=>trivial
     | sh d=>obtain ⟨v,e1,r1⟩:=hs; exact ⟨v,e1,r1.mono sm⟩
     | fd _=>exact FdOk.mono sm hs
     | ow d2 =>
       obtain ⟨a,e1,n1,ok⟩:=hs; have hne:a≠p:=by
         rintro rfl;exact (key j d2 e).2 (S.sr.ap j i a d2 _ e2 hi e1 hp)
       exact ⟨a,e1,by rw [B7 hne]; exact n1,ok.monoG sm⟩
 . exact ⟨G,S⟩
noncomputable def rT (i:Nat) (g:Dn->Out):Dn->Out:=fun δ=>g (fzN i δ)
theorem s_fzN {X:Cx} {E:EK} {st:k8} {g1:Dn->Out} (i:Nat) (h:DS X E st g1):DS X E st (rT i g1):=fun G0 H0=>PS.imp (h G0 H0) fun D Z H hZ3=>by
 obtain ⟨G,δ,S,a⟩:=hZ3;obtain ⟨G',S'⟩:=S.fzN i;exact ⟨G',_,S',a⟩
end Sm
end
noncomputable section
namespace Sm
open PySem PySem.Spec PyProof.Rows PySem.W L2
def SlV (G:Hp) (v:V):Sl->Prop
 | .sh d=>Rep G d v
 | .fd kvs=>FdOk G (some v) kvs
 | _=>False
noncomputable def SlL (G:Hp):List Sl->List V->Prop
 | [],vs=>vs=[]
 | s::ss,vs=>∃ v r,vs=v::r/\SlV G v s/\SlL G ss r
theorem SlL.length {G:Hp}:∀ {ss:List Sl} {vs:List V},SlL G ss vs->ss.length=vs.length:=by
 intro iN; induction iN with
 | nil=>intro vs h; rw [show vs=[] from h]; rfl
 | cons _ _ ih=>intro _ h; obtain ⟨v,r,rfl,_,l⟩:=h; simp [ih l]
theorem SlL.get {G:Hp}:∀ {ss:List Sl} {vs:List V} {i:Nat} {s:Sl},SlL G ss vs->ss[i]? = some s->∃ v,vs[i]? = some v/\SlV G v s
 | [],_,i,_,_,e=>by simp at e
 | _::_,_,0,_,h,e=>by obtain ⟨v,r,rfl,q,_⟩:=h; simp at e; subst e; exact ⟨v,rfl,q⟩
 | _::_,_,i+1,_,h,e=>by obtain ⟨v,r,rfl,_,l⟩:=h; exact SlL.get (i:=i) l (by simpa using e)
noncomputable def Fe (N:List Str) (ss:List Sl):Dn:=ss++vW (N.length - ss.length) .un
theorem gG {G H:Hp} (hG:Same G H) {ss:List Sl} {vs:List V} (r:SlL G ss vs) (N:List Str):SSt G H G H (An N vs) (Fe N ss):=by
 have hl:=r.length;have noow:∀ (i:Nat) (d:uV),(Fe N ss)[i]? ≠ some (.ow d):=fun i d e=>by
   unfold Fe at e;by_cases hi:i < ss.length
   . rw [wY hi] at e
     obtain ⟨_,_,z⟩:=r.get e; exact z
   . rw [xE (yX.mp hi),zB] at e
     split at e <;> cases e
 refine ⟨Grow.refl hG,⟨hG,by unfold L2.An Fe; simp [hl],fun i s e=>?_,fun i j a d d' e _ _ _=>absurd e (noow i d)⟩,fun i d a e _=>absurd e (noow i d)⟩;unfold Fe at e;by_cases hi:i < ss.length
 . rw [wY hi] at e
   obtain ⟨v,e1,rv⟩:=r.get e; unfold L2.An; rw [wY (by rw [vA,<- hl]; exact hi),wE,e1];cases s with
   | sh d=>exact ⟨v,rfl,rv⟩
   | fd kvs=>exact rv
   | un=>exact rv.elim
   | ow d=>exact rv.elim
 . rw [xE (yX.mp hi),zB] at e
   split at e <;> cases e
   trivial
def spSN (n:Nat) (m:List Sl->Res Kvs):Sp:=fun vs H Q _=>∃ G ss kvs,Same G H/\SlL G ss vs/\ss.length=n/\m ss=.ok kvs/\∀ p G' H',Grow G H G' H'->H p=none->G' p=none->OwnOk G' H' p (.tuple [.dict kvs,.none])->Q (.ref p) H'
structure FnSN (P:vU) (w:wD) (K:vB) (mg:Str->Option uY) (base:wT) (x:Str) (k n:Nat) (m:List Sl->Res Kvs):Prop where
 ex:∃ f fd ps,ps.length=n/\FnOk P w K mg base CX0 k f fd ps (spSN n m)/\mg x=some (.ref f)/\xU K (.ref f)=true/\Binds K fd ps []
noncomputable def oK (N:List Str) (g:Dn->Res Kvs):List Sl->Res Kvs:=fun ss=>g (Fe N ss)
noncomputable def Rw (f:Dn->Res uV) (i:Nat) (m:List Sl->Res Kvs):Dn->Res Kvs:=fun δ=>(f δ).bind fun d=>match δ[i]? with
 | some (.fd kvs)=>m [.sh d,.fd kvs]
 | _=>.no
theorem FdOk.is {G:Hp} {o:Option V} {kvs:Kvs} (h:FdOk G o kvs):∃ a,o=some (.ref a):=by
 unfold FdOk at h;split at h
 . obtain ⟨a,kk,h1,_⟩:=h; exact ⟨a,h1⟩
 . obtain ⟨a,ob,kk,h1,_⟩:=h; exact ⟨a,h1⟩
theorem SR.fdV {G H:Hp} {Z:St} {δ:Dn} {i:Nat} {kvs:Kvs} (S:SR G H Z δ) (hi:δ[i]? = some (.fd kvs)):∃ v,Z[i]? = some (some v)/\FdOk G (some v) kvs:=by
 have h:FdOk G (Z[i]?.join) kvs:=S.sl i _ hi;obtain ⟨a,e⟩:=h.is;rw [e] at h;refine ⟨.ref a,?_,h⟩;cases z:Z[i]? with
 | none=>rw [z] at e; cases e
 | some z' =>
   rw [z] at e;cases z' with
   | none=>cases e
   | some z''=>cases e; rfl
noncomputable section
variable {P:vU} {w:wD} {K:vB} {mg:Str->Option uY} {base:wT} {X:Cx} {N:List Str} {sc:Scope} {k:Nat} {df:Bool} {E:EK} {pos p p1:Pos} {a e:Expr} {f:Dn->Res uV} {x y:Str}
theorem fn_SN {x:Str} {st:k8} {ps:List Str} {n:Nat} {go:Dn->Res Kvs} {m:List Sl->Res Kvs} (F:Def K mg x st ps) (S:FnScope N ps (A4 st)) (hn:ps.length=n)
   (body:∀ X,Cxt P w K mg base X N (A4 st) k true->DSN X E0k (B4 st) go) (hm:m=oK N go):FnSN P w K mg base x (k+1) n m:=by
 obtain ⟨f,fd,F,hmg,hb⟩:=F.ex;refine ⟨f,fd,ps,hn,?_,hmg,F.kp,hb⟩;subst hm;refine F.ok S (fun vs H Q E h=>?_) (fun cdv A outer s H vs Q E hr h=>?_)
 . obtain ⟨G,ss,d,_,r,hl,_⟩:=h
   rw [<- r.length,hl,hn]
 . obtain ⟨G,ss,kvs,hG,r,hl,em,q⟩:=h
   refine ⟨_,body _ ⟨rfl,rfl,rfl,rfl,rfl,rfl,rfl,rfl,hr,fun _ _=>rfl,AZ⟩ G H,G,_,gG hG r N,?_⟩;unfold oK at em; rw [em]; exact q
theorem AftN.grow {G H G' H':Hp} {r:Res Kvs} {Q:VK} (g:Grow G H G' H') (a:AftN E G H r Q):AftN E G' H' r Q:=by
 cases r with
 | ok kvs=>exact fun p G2 H2 g2 hp hp' ho=>a p G2 H2 (g.trans g2) (g.h.free hp) hp' ho
 | exc c=>exact fun G2 H2 g2=>a G2 H2 (g.trans g2)
 | no=>exact a
theorem lH {G H:Hp} {Z:St} {δ:Dn} {k:uV->Res Kvs} {Q R:VK} (S:SR G H Z δ) (a:AftN E G H ((f δ).bind k) Q)
   (h:∀ d v G1 H1,Grow G H G1 H1->Rep G1 d v->SR G1 H1 Z δ->AftN E G1 H1 (k d) Q->R v H1):tD E f Z H R:=by
 refine ⟨G,δ,S,?_⟩;cases e:f δ with
 | ok d=>rw [e] at a; exact fun v G' H' g r=>h d v G' H' g r (S.grow g) (a.grow g)
 | exc c=>rw [e] at a; exact a
 | no=>rw [e] at a; exact a
theorem jI {j:Nat} {m:List Sl->Res Kvs} (C:Cxt P w K mg base X N sc k df) (F:FnSN P w K mg base y j 2 m) (hj:j<=k) (h:okGl sc y=true) (ha:DE X E0k e f) (i:Nat) (hv:okVar N sc i x=true)
   (he:vI [e,.Name x p1] X.env=(false,eval e X.env)::vI [.Name x p1] X.env:=by rfl) (he2:vI [.Name x p1] X.env=(false,eval (.Name x p1) X.env)::vI [] X.env:=by rfl) (hpl:(yL pos (vI [.Name x p1] X.env)).any (·.1)=false:=by rfl) :
   DN X E0k (.Call (.Name y p) [e,.Name x p1] [] pos) (Rw f i m):=by
 obtain ⟨fa,fd,ps,hps,F,hm,hk,hb⟩:=F.ex;obtain ⟨h1,h2,h3⟩:=okGl.gl C h;have F':FnOk X.prog X.w X.K X.mg X.base CX0 j fa fd ps (spSN 2 m):=by rw [C.hP,C.hw,C.hK,C.hmg,C.hb]; exact F
 refine PE.imp (Ll F' (C.room.mono hj) h1 (by rw [C.hmg]; exact hm) (by rw [C.hK]; exact hk) (by rw [C.hK]; exact hb) .nil (aS (X:=X)) (F6 ha (F6 (okVar.pe C hv) O2 he2) he) h2 he hpl) fun Z H Q hh=>?_;obtain ⟨G,δ,S,aft⟩:=hh;refine lH S aft fun d v G1 H1 g1 r1 S1 a1=>?_;split at a1
 . rename_i kvs hi
   obtain ⟨u,hσ,fo⟩:=S1.fdV hi; refine ⟨u,hσ,?_⟩;cases em:m [.sh d,.fd kvs] with
   | ok r=>rw [em] at a1; exact ⟨G1,[.sh d,.fd kvs],r,S1.sub,⟨v,_,rfl,r1,u,_,rfl,fo,rfl⟩,rfl,em,a1⟩
   | exc c=>rw [em] at a1; exact (a1 G1 H1 (Grow.refl S1.sub)).elim
   | no=>rw [em] at a1; exact a1.elim
 . exact (show False from a1).elim
end
end Sm
end
noncomputable section
namespace Sm
open PySem PySem.Spec PyProof.Rows PySem.W L2
theorem eA {X:Cx} (hu:X.A.units+64 < zE):MtR X "list.index" (fun x vs H Q=>∃ G ds v d,∃ j:Nat,Same G H/\Rep G (.list ds) x/\vs=[v]/\Rep G d v/\ds.findIdx? (fun y=>vN y d)=some j/\ds.length<=100000/\d.depth<=40/\Q (.int j) H):=by
 rintro pins s Z H x vs v us Q I rx rv ⟨G,ds,v1,d,j,hG,rl,e1,rd,hj,hn,hdp,q⟩;subst e1;obtain ⟨u,rfl,ru⟩:=rv.one;obtain ⟨as,r1⟩:=rl.reads I hG rx;obtain ⟨bs,r2⟩:=rd.reads I hG ru;have hxs:yW ds=true:=by have:=rl.lay; simpa [PyData.canLay0] using this
 obtain ⟨hjl,hit,hno⟩:=FR.mp hj;cases r1 with
 | @list a o vs n _ _ h1 h2 h3 h4 =>
   have hm:=SeqAt.readsAll_map ds _ _ hxs h4; have hlen:vs.size=ds.length:=by have:=congrArg BM hm; simpa using this
   have at':∀ (i:Nat) (hi:i < vs.size),FP s.heap vs[i]=ds[i]'(by lia):=fun i hi=>by
     have:=congrArg (fun l=>l[i]?) hm;simp only [wE] at this; rw [wC (by simpa using hi),wC (by lia)] at this;simpa using this
   have hd:=SeqAt.items_eqAt (A:=X.A) h4 r2 hxs rd.lay (by have:=zD (xJ ds) d.depth; lia);obtain ⟨c0,d0,da0,sl0⟩:=o; simp only at h2 h3; subst h2 h3; refine CZ F.slot_list_index ⟨_,h1,rfl⟩ F.entry_list_index (F.args_list_index_2 _ _) (SeqAt.list_indexAt a vs n d0 sl0 u (fun y=>vN (FP s.heap y) d) j (by lia) (by lia) ?_ fun m hm' hmj=>?_) ⟨h1,hd,?_⟩
   . rw [at' j (by lia)]; exact hit
   . have:=hno m hmj
     rw [at' m hm'];simpa using this
   . exact ⟨.int j,H,I.tok _,⟨_,rfl⟩,q⟩
noncomputable def Dw (g f:Dn->Res uV):Dn->Res uV:=fun δ=>(g δ).bind fun z=>match z with
 | .list ds=>(f δ).bind fun d=>match ds.findIdx? (fun y=>vN y d) with
   | some j=>if ds.length<=100000/\d.depth<=40 then .ok (.int (j:Nat)) else .no
   | none=>.no
 | _=>.no
noncomputable section
variable {P:vU} {w:wD} {K:vB} {mg:Str->Option uY} {base:wT} {X:Cx} {N:List Str} {sc:Scope} {k:Nat} {df:Bool} {E:EK} {a b:Expr} {f g:Dn->Res uV}
theorem kQ {apos cpos:Pos} (C:Cxt P w K mg base X N sc k df) (hb:DE X E b g) (ha:DE X E a f) (hbase:i7 b "index" X.env (eval b X.env)=eval b X.env:=by rfl)
   (hfew:((yL cpos (vI [a] X.env)).all (fun x => !x.1)&&(EI cpos (AX [] X.env)).all (fun x=>x.1.isSome)
     && decide ([a].length+([]:List x8).length+(if ([]:List x8).isEmpty then 0 else 1) < 30))=true:=by rfl)
   (hline:(apos.endLine==cpos.line)=true:=by rfl) (hs:vI [a] X.env=(false,eval a X.env)::vI [] X.env:=by rfl) (hplain:(yL cpos (vI [] X.env)).any (·.1)=false:=by rfl) :
   DE X E (.Call (.Attribute b "index" apos) [a] [] cpos) (Dw g f):=by
 refine PE.imp (Qo zV PySem.F.slot_list_index PySem.F.type_list_index (eA C.hu) hb (F6 ha O2 hs) hbase hfew hline hs hplain) fun Z H Q hZ3=>?_;obtain ⟨G,δ,S,aft⟩:=hZ3;refine K2 S aft fun d0 v0 G0 H0 g0 r0 S0 a0=>?_;split at a0
 . rename_i ds
   obtain ⟨l,xs,rfl,hl,ll⟩:=r0; refine ⟨.inl ⟨rfl,xs,.inl (Rd.mono S0.sub hl)⟩,?_⟩; refine K2 S0 a0 fun d v G1 H1 g1 r1 S1 a1=>?_;split at a1
   . rename_i j hj
     split at a1
     . rename_i hc
       exact ⟨G1,ds,v,d,j,S1.sub,⟨l,xs,rfl,Rd.mono g1.g hl,ll.mono g1.g⟩,rfl,r1,hj,hc.1,hc.2,a1 _ G1 H1 (Grow.refl S1.sub) rfl⟩
     . exact a1.elim
   . exact a1.elim
 . exact a0.elim
end
end Sm
end
noncomputable section
namespace Sm
open PySem PySem.Spec PyProof.Rows PySem.W L2
noncomputable def Ny {α:Type} (acc prs:List (uV×α)):List (uV×α):=prs.foldl (fun acc kv=>P7 acc kv.1 kv.2) acc
def PairN (H:Hp) (y:V) (kv:uV×V):Prop:=∃ t k,y=.ref t/\H t=some (.tup [k,kv.2])/\KRep H kv.1 k/\nkD kv.1=true
theorem PairN.mono {H H':Hp} {y:V} {kv:uV×V} (h:PairN H y kv) (k:∀ b xs,H b=some (.tup xs)->H' b=some (.tup xs)):PairN H' y kv:=by
 obtain ⟨t,b,e,h1,h2,h3⟩:=h;exact ⟨t,b,e,k _ _ h1,h2.mono k,h3⟩
theorem kN {P:vU} {w:wD} {H:Hp} (h:wT) (hb:f8 < h.objs.size):ObjOk P w H (h.push { cls:=.type "dict",data:=.dict #[] }) h.objs.size (.dN []) :=
 ⟨zL _,beq_eq_false_iff_ne.mpr (Ne.symm (wL hb)),.nil,(fun _ h=>nomatch h),[],.nil,0,vH _ rfl⟩
noncomputable section
variable {X:Cx} {pins:List (vG×Obj)} {Z:St}
theorem Zj {A:xD} {a d it:vG} (hh:A.handled=none) (hu:A.units+16 < zE) {ys:List V} {R:Result->uZ->Prop}:∀ (n i:Nat) (s:uZ) (H:Hp) (acc:List (uV×V)) (prs:List (uV×V)),n=prs.length ->
   Inv X pins Z H s->H d=some (.dN acc)->Rd H a (.lst ys)->s.heap.IsListIter it a i->Ow X pins H it->yC (PairN H) (ys.drop i) prs->i+prs.length=ys.length->acc.length+prs.length < 10000->ys.length < 10000 ->
   (∀ s',Inv X pins Z (upd H d (.dN (Ny acc prs))) s'->R (.ok (.ret .none)) s') ->
   BI (vS X.prog X.w) A (.builtin "dict.update.loop" ⟨[.ref d,.ref it,n8 i,.none],[]⟩) R s:=by
 intro n;induction n with
 | zero =>
   intro i s H acc prs hn I hd hl st fp hp hlen hacc hys hR; have:prs=[]:=xN.mp hn.symm; subst this; refine yV Dc ?_; rw [yB Da _]; obtain ⟨its,rv,p,hz⟩:=I.list (.inl hl); have hl':=rv.length; simp only [xR,Nat.add_zero] at hlen; show wpAny _ A.in1 (pyNext (.ref it)>>=_) _ _ s;obtain ⟨f0,f1,f2,f3,f4,f5⟩:=fp; refine uW (wpAny_pyNext_list_end hh st p.isList (by simp; lia) fun h' eb=>?_);have I1:Inv X pins Z H { s with heap:=h' }:=I.turned (t':=s.toks) (fun b o hb e=>eb b o hb e) f0 f1 f3 f4 f5;have hsame:upd H d (.dN (Ny acc []))=H:=by
     funext b
     unfold upd;split
     . rename_i e; rw [e,hd]; rfl
     . rfl
   rw [hsame] at hR; show wpAny _ A.in1 (Builtin.Dict.addKeywords d []>>=_) _ _ _;exact uW (uX (uX (hR _ I1)))
 | succ n ih =>
   intro i s H acc prs hn I hd hl st fp hp hlen hacc hys hR;cases prs with
   | nil=>simp at hn
   | cons kv prs =>
     simp only [vP] at hn hlen hacc; have hi:i < ys.length:=by lia
     have hdrop:ys.drop i=ys[i]::ys.drop (i+1):=zO hi; rw [hdrop] at hp;cases hp with
     | cons h0 hp =>
       obtain ⟨t,kk,ey,ht,hb,hnk⟩:=h0; refine yV Dc ?_; rw [yB Da _]; obtain ⟨its,rv,p,hz⟩:=I.list (.inl hl); obtain ⟨u,hu',ru⟩:=rv.get (wC hi); rw [ey] at ru;cases (show u=yH t from ru);obtain ⟨f0,f1,f2,f3,f4,f5⟩:=fp; show wpAny _ A.in1 (pyNext (.ref it)>>=_) _ _ s;refine uW (wpAny_pyNext_list_item st p.isList (x:=.ref t) (by simpa using hu') fun h' st' sb=>?_);have I1:Inv X pins Z H { s with heap:=h' }:=I.turned (t':=s.toks) (fun b o hb e=>(sb.2 b hb).trans e) f0 f1 f3 f4 f5;obtain ⟨its2,rv2,p2,_⟩:=I1.tuple (.inl (.inl ht));cases rv2 with
       | @cons _ u1 _ _ r1 rr =>
         cases rr with
         | @cons _ u2 _ _ r2 rr2 =>
           cases rr2; obtain ⟨ot,hot,hotc,nt,hotd⟩:=p2; obtain ⟨c0,d0,da0,sl0⟩:=ot; simp only at hotc hotd; subst hotc hotd; refine uW (wZ (uW (wpAny_tryCatch ?_))); unfold Builtin.Dict.pairItems; have hT:({ s with heap:=h' }:uZ).TypeIs (.ref t) "tuple" := ⟨_,hot,rfl⟩;generalize hDS:dictSet=DS
           repeat (any_goals (first | assumption | wp_step))
           subst hDS; refine Qs (A:=A.in1) (by show A.units+1+8 < zE; lia) I1 hd hb hnk (wG (show acc.length < 10000 by lia) (by decide)) r1 r2 fun s3 I3 sb3=>?_;have hne:it≠d:=fun z=>by rw [z,hd] at f0; cases f0
           have hne2:∀ c xs,H c=some (.tup xs)->upd H d (.dN (P7 acc kv.1 kv.2)) c=some (.tup xs):=fun c xs e=>by rw [B7 (Nw e hd (fun z=>nomatch z))]; exact e
           refine uX ⟨CG _ (by decide +kernel),?_⟩;refine ih (i+1) s3 _ (P7 acc kv.1 kv.2) prs (by lia) I3 B8 ?_ (st'.at fun o e=>sb3 it o hne e) ⟨by rw [B7 hne]; exact f0,f1,f2,f3,f4,f5⟩ (Paired.mapP hp fun _ _ z=>z.mono hne2) (by lia) (by have:=Di (k:=kv.1) (v:=kv.2) acc; lia) hys fun s' J=>?_
           . rcases hl with z | ⟨o,z⟩
             . exact .inl (by rw [B7 (Nw z hd (fun z=>nomatch z))]; exact z)
             . exact .inr ⟨o,by rw [B7 (Nw z hd (fun z=>nomatch z))]; exact z⟩
           . rw [Ry] at J
             exact hR s' J
theorem Zs (hh:X.A.handled=none) (hu:X.A.units+64 < zE):U0 X (.type "dict") (fun vs H Q=>∃ a ys prs,vs=[.ref a]/\Rd H a (.lst ys)/\yC (PairN H) ys prs/\ys.length < 1000/\∀ p,H p=none->Q (.ref p) (upd H p (.dN (Ny [] prs)))):=by
 rintro pins s Z H xs us Q I r ⟨a,ys,prs,e0,hl,hp,hn,q⟩;subst e0;cases r with
 | cons r0 rr =>
   cases rr; obtain ⟨rfl⟩:=(show _=yH a from r0);refine callType_codes (Q₁:=fun obj s₁=>obj=.ref s.heap.objs.size/\s₁={ s with heap:=s.heap.push { cls:=.type "dict",data:=.dict #[] } }) F.kt_called_dict (F.kt_typeCall_dict_1 _) F.entry_dict_init (kt_code_dict_new _ ⟨rfl,rfl⟩) ?_;rintro obj s₁ ⟨rfl,rfl⟩;have hfr:=I.hok.fresh (vL s.heap.objs.size); have I1:=I.laid (a:=s.heap.objs.size) (o:=.dN []) (h':=s.heap.push { cls:=.type "dict",data:=.dict #[] }) (t':=s.toks) (fun _ _ q=>vD _ q) (vL _) (kN s.heap I.big);have hTd:({ s with heap:=s.heap.push { cls:=.type "dict",data:=.dict #[] } }:uZ).TypeIs (.ref s.heap.objs.size) "dict" := ⟨_,vH _ rfl,rfl⟩; refine ⟨hTd,F.args_dict_init_2 _ _,?_⟩; have hl1:Rd (upd H s.heap.objs.size (.dN [])) a (.lst ys):=by
     rcases hl with z | ⟨o,z⟩
     . exact .inl (by rw [B7 (D4 z hfr)]; exact z)
     . exact .inr ⟨o,by rw [B7 (D4 z hfr)]; exact z⟩
   obtain ⟨_,its,nn,rv,hobj⟩:=(show ObjOk X.prog X.w _ _ a (.lst ys) from hl1.ok I1.hok);unfold yA.«dict.__init__»;refine uW ?_; unfold Builtin.Dict.selfAndRest; refine uW (BP hTd ?_); show wpAny _ _ (pure (s.heap.objs.size,[yH a])) _ _ _;refine uX ?_; show wpAny _ _ (GF "dict.__init__" s.heap.objs.size (.ref a) [] .none) _ _ _;unfold GF; refine uW (BD (T := "list") ⟨_,hobj,rfl⟩ ?_); rw [if_pos (by decide)]; refine uW (eL hh hobj fun h1 tk1 kp=>?_);rw [if_pos (by rfl)]; have I2:Inv X pins Z (upd H s.heap.objs.size (.dN [])) { s with heap:=h1,toks:=tk1 }:=I1.kept (t':=tk1) kp; refine uW (yN ?_); obtain ⟨its2,rv2,p2,_⟩:=I2.list (.inl hl1); refine uW (DP p2.isList ?_); have I3:Inv X pins Z (upd H s.heap.objs.size (.dN [])) { s with heap:=h1.push { cls:=.type "list_iterator",data:=.fields #[.ref a,.int 0 0] },toks:=tk1 }:=I2.kept (t':=tk1) fun b o e=>vD _ e
   have hpz:yC (PairN (upd H s.heap.objs.size (.dN []))) ys prs:=Paired.mapP hp fun _ _ z=>z.mono fun b xs e=>by rw [B7 (D4 e hfr)]; exact e
   have hle:prs.length=ys.length:=(Paired.len' hp).symm; refine uX ⟨CG _ (by decide +kernel),?_⟩;refine Zj (A:=X.A.in1) hh (by show X.A.units+1+16 < zE; lia) (ys:=ys) prs.length 0 _ _ [] prs rfl I3 B8 hl1 ⟨_,vH _ rfl,rfl,rfl⟩ (I2.fpOk (vL _) (I2.hok.fresh (vL _))) hpz (by lia) (by simp; lia) (by lia) fun s' J=>?_;rw [Ry] at J; exact ⟨rfl,.ref s.heap.objs.size,_,J,rfl,q _ hfr⟩
end
noncomputable def Cm:List uV->Kvs->Option Kvs
 | [],kvs=>some kvs
 | .tuple [kd,v]::ds,kvs=>if nkD kd=true then Cm ds (P7 kvs kd v) else none
 | _::_,_=>none
theorem Yt {G:Hp}:∀ (ds:List uV) (ys:List V) (kvs kvs':Kvs) (kv:List (uV×V)),RepL G ds ys->Cm ds kvs=some kvs'->kvs.map (·.1)=kv.map (·.1)->RepL G (kvs.map (·.2)) (kv.map (·.2)) ->
   ∃ prs,yC (PairN G) ys prs/\kvs'.map (·.1)=(Ny kv prs).map (·.1)/\RepL G (kvs'.map (·.2)) ((Ny kv prs).map (·.2)):=by
 intro iN; induction iN with
 | nil =>
   intro ys kvs kvs' kv r e h1 h2;cases (show _=_ from r);cases e; exact ⟨[],.nil,h1,h2⟩
 | cons d ds ih =>
   intro ys kvs kvs' kv r e h1 h2; obtain ⟨y,t,rfl,rd,rl⟩:=r; unfold Cm at e;split at e
   . rename_i heq
     cases heq
   . rename_i kd v ds' heq
     cases heq;split at e
     . rename_i ek
       obtain ⟨p,xs,rfl,hp,lp⟩:=rd; obtain ⟨v1,v2,rfl,r1,r2⟩:=rep2 lp; obtain ⟨p1,p2⟩:=Np (k:=kd) r2 h1 h2; obtain ⟨prs,q1,q2,q3⟩:=ih t _ kvs' _ rl e p1 p2; exact ⟨(kd,v2)::prs,.cons ⟨p,v1,rfl,hp,Ir (Same.refl G) ek r1,ek⟩ q1,q2,q3⟩
     . cases e
   . cases e
noncomputable def Nx (f:Dn->Res uV):Dn->Res Kvs:=fun δ=>(f δ).bind fun d=>match d with
 | .list ds=>if ds.length < 1000 then ofO (Cm ds []) else .no
 | _=>.no
noncomputable section
variable {P:vU} {w:wD} {K:vB} {mg:Str->Option uY} {base:wT} {X:Cx} {N:List Str} {sc:Scope} {k:Nat} {df:Bool} {E:EK} {p2 cp:Pos} {e:Expr} {f:Dn->Res uV}
theorem aY (C:Cxt P w K mg base X N sc k df) (hd:okGl sc "dict" = true) (hm:mg "dict" = none) (hf:DE X E e f) (hst:Td e=true:=by rfl)
   (he:vI [e] X.env=(false,eval e X.env)::vI [] X.env:=by rfl) (hpl:(yL cp (vI [] X.env)).any (·.1)=false:=by rfl) :
   DN X E (.Call (.Name "dict" p2) [e] [] cp) (Nx f):=by
 obtain ⟨k1,k2,k3⟩:=okGl.gl C hd;refine PE.imp (Iz (Zs C.room.hd C.hu) k1 (by rw [C.hmg]; exact hm) (by decide +kernel) (F6 hf O2 he) k3 k2 he hpl) fun Z H Q hh=>?_;obtain ⟨G,δ,S,aft⟩:=hh;refine lH S aft fun d v G1 H1 g1 r1 S1 a1=>?_;split at a1
 . rename_i ds
   split at a1
   . rename_i hlen
     cases ek:Cm ds [] with
     | none=>rw [ek] at a1; exact (show False from a1).elim
     | some kvs =>
       rw [ek] at a1; obtain ⟨a,ys,rfl,ha,la⟩:=r1; obtain ⟨prs,q1,q2,q3⟩:=Yt ds ys [] kvs [] la ek rfl rfl; refine ⟨a,ys,prs,rfl,Rd.mono S1.sub ha,Paired.mapP q1 fun _ _ z=>z.mono fun b xs e=>S1.sub _ _ e,by rw [<- la.length]; exact hlen,fun q hq=>?_⟩;exact a1 q G1 _ (Grow.own S1.sub hq) hq (S1.sub.free hq) (show OwnK G1 _ q [.dict kvs,.none] from ⟨_,B8,q2,q3⟩)
   . exact (show False from a1).elim
 . exact (show False from a1).elim
end
end Sm
end
noncomputable section
namespace Sm
open PySem PySem.Spec PySem.W PyProof.Rows L2
end Sm
end
noncomputable section
namespace Sm
open PySem PySem.Spec PySem.W PyProof.Rows L2
end Sm
end
noncomputable section
namespace Sm
open PySem PySem.Spec PyProof.Rows PySem.W L2
noncomputable section
variable {prog:vU} {w:wD} {A:xD} {E:uY->uZ->Prop} {s:uZ}
theorem Xq (hh:A.handled=none) (I d:vG) (hne:d≠I) (od:Obj) (es:Array xP) (ep:Nat) (hdd:od.data=.dict es ep) :
   Walks prog w A I [I,d] [I] es.size (fun i v=>∃ e,es[i]? = some e/\v=e.key) (fun i h=>h.IsKeyIter I d i es.size ep/\h.get? d=some od) where
 sub:=fun b hb=>by simp at hb; simp [hb]
 frame:=fun _ _ _ st hk=>⟨st.1.at fun o e=>hk I (by simp) o e,hk d (by simp) _ st.2⟩
 item:=fun i s Q E hi st hQ=>by
   refine jE st.1 st.2 hdd hi fun h' n hs=>?_;exact hQ _ h' s.toks ⟨es[i],by simp [hi],rfl⟩ ⟨n,hs.extBut d _ hne st.2⟩ fun b o hb e=>hs.extBut b o (fun z=>hb (by simp [z])) e
 done:=fun s Q E st hQ=>oR hh (vL _) st.1 st.2 hdd fun h' he=>hQ h' s.toks fun b o hb e=>he b o (fun z=>hb (by simp [z])) e
 self:=fun _ _ _ _ st hQ=>wpAny_pyIter_keyiter st.1 hQ
theorem dA {d:vG} {od:Obj} {es:Array xP} {ep:Nat} (lo:(d==f8)=false) (hcl:od.cls=.type "dict") (hdd:od.data=.dict es ep) :
   KdlSrc prog w "dict" d d es.size (fun i v=>∃ e,es[i]? = some e/\v=e.key) (fun h=>h.get? d=some od) where
 type:=fun _ hm=>⟨od,hm,hcl⟩
 there:=fun _ hm=>⟨vR hm,vR hm⟩
 keep:=fun _ _ hm hk=>hk d (.inr rfl) _ hm
 notList:=by decide
 notTuple:=by decide
 hint:=fun _ _ _ _ hm hq=>kdl_hint_dict ⟨od,hm,hcl⟩ hq
 iter:=fun _ _ hh hm=>⟨_,_,(fun _ _ hq=>jW lo ⟨od,hm,hcl⟩ hm hdd hq),Xq hh _ d (wL (vR hm)) od es ep hdd,⟨⟨_,vH _ rfl,rfl,rfl⟩,vD _ hm⟩⟩
theorem gR {d:vG} {od:Obj} {es:Array xP} {ep:Nat} {ss:List Str} {Q:uY->uZ->Prop} (lo:(d==f8)=false) (hcl:od.cls=.type "dict") (hdd:od.data=.dict es ep) (hh:A.handled=none) (hd:s.heap.get? d=some od)
   (hS:DQ (es.toList.map (·.key)) ss) (h64:es.size < 64)
   (h:∀ (h1:wT) tk (out:Array uY) (ss':List Str),(∀ b o,s.heap.get? b=some o->h1.get? b=some o)->DQ out.toList ss'->ss'.Perm ss->sortedS ss'=true ->
     Q (.ref h1.objs.size) { s with heap:=IQ (h1.push (AW "list" (es.toList.map (·.key)).toArray 0)) h1.objs.size (es.toList.map (·.key)) out,toks:=tk }) :
   wpAny (vS prog w) A (call (.builtin "sorted") [.ref d]) Q E s:=by
 refine CJ kind_sorted plain_sorted entry_sorted (args_sorted1 _) (uW (m:=checkCount "sorted" 1 1 _) (uX (uW (Tw (dA lo hcl hdd) hh hd (by rw [j6]; lia) fun h1 tk acc hk hacc=>?_))));have hacc2:acc.toList=es.toList.map (·.key):=by
   apply p7;intro j;by_cases hj:j < es.size
   . have hja:j < acc.size:=by rw [hacc.1]; exact hj
     obtain ⟨e,e1,e2⟩:=hacc.2 j acc[j] (by simp [hja]);rw [wE,i5,i5,e1,wX hja,e2]; rfl
   . rw [yI (by simpa [hacc.1] using yX.mp hj),yI (by simpa using yX.mp hj)]
 rw [hacc2];generalize hvs:es.toList.map (·.key)=vs at *;have hvl:vs.length=es.size:=by rw [<- hvs]; simp
 refine uW (wpAny_newList ?_ (by rw [j6]; lia));have hoL:(h1.push (AW "list" vs.toArray 0)).get? h1.objs.size=some (AW "list" vs.toArray 0):=vH _ rfl;show wpAny _ _ _ _ _ { s with heap:=h1.push (AW "list" vs.toArray 0),toks:=tk };refine uW (wZ (wV IR ⟨_,hoL,rfl⟩ IE (list_sort_treeK strKind_oneLt hoL hS.keysOf (fun v₁ v₂ M3 e=>keyKind_strs (by rw [<- e]; exact hS)) (by lia) fun st' hp hs=>⟨_,rfl,?_⟩) (IY _)));obtain ⟨ss',k1,k2,k3⟩:=sorted_out_str hS hp hs;exact uX ⟨_,rfl,h h1 tk _ ss' hk k1 k2 k3⟩
end
noncomputable def ltS (a b:Str):Bool:=ltCps a.cps.toList b.cps.toList
noncomputable def eR (p:Str):List Str->List Str
 | []=>[p]
 | q::r=>if ltS q p=true then q::eR p r else p::q::r
noncomputable def Ao:List Str->List Str
 | []=>[]
 | p::r=>eR p (Ao r)
noncomputable def O6:List uV->Option (List Str)
 | []=>some []
 | .str x::r=>(O6 r).map (x::·)
 | _::_=>none
def leX (a b:Str):Prop:=¬ b.cps.toList < a.cps.toList
theorem qP {a b:Str}:ltS b a=false↔leX a b:=by unfold ltS leX; rw [ltCps_eq]; simp
theorem leX.trans {a b c:Str} (h1:leX a b) (h2:leX b c):leX a c:=List.le_trans (l₁:=a.cps.toList) (l₂:=b.cps.toList) (l₃:=c.cps.toList) h1 h2
theorem leX.anti {a b:Str} (h1:leX a b) (h2:leX b a):a=b:=by
 have:=List.le_antisymm (as:=a.cps.toList) (bs:=b.cps.toList) h1 h2;obtain ⟨⟨x⟩⟩:=a;obtain ⟨⟨y⟩⟩:=b;simp at this;rw [this]
theorem Iq:∀ (p:Str) (l:List Str),risingS p l=true->(p::l).Pairwise leX
 | p,[],_=>j8 _ _
 | p,x::r,h=>by
   have h':(!ltCps x.cps.toList p.cps.toList&&risingS x r)=true:=h; rw [vV] at h'; have ih:=Iq x r h'.2; have hx:leX p x:=qP.mp (by have:=h'.1; unfold ltS; simpa using this);refine wP.mpr ⟨fun y hy=>?_,ih⟩;rcases vF.mp hy with rfl | hy
   . exact hx
   . exact hx.trans ((wP.mp ih).1 y hy)
theorem Mw:∀ {l:List Str},sortedS l=true->l.Pairwise leX:=by
 intro iN; induction iN with
 | nil=>intro _; exact .nil
 | cons x r ih=>intro h; exact Iq x r h
theorem Hk:∀ {l m:List Str},l.Perm m->l.Pairwise leX->m.Pairwise leX->l=m
 | [],m,h,_,_=>(JI h)
 | a::l,[],h,_,_=>absurd h.length_eq (by simp)
 | a::l,b::m,h,h1,h2=>by
   rw [wP] at h1 h2; have e:a=b:=by
     rcases vF.mp (h.mem_iff.mp (xK (a:=a) (l:=l))) with e | e
     . exact e
     . rcases vF.mp (h.mem_iff.mpr (xK (a:=b) (l:=m))) with e' | e'
       . exact e'.symm
       . exact (h1.1 b e').anti (h2.1 a e)
   subst e; rw [Hk (II h) h1.2 h2.2]
theorem Qy (p:Str):∀ l,(eR p l).Perm (p::l):=by
 intro iN; induction iN with
 | nil=>skip; exact yM _
 | cons q r ih =>
   skip
   unfold eR;split
   . exact ((ih).cons q).trans (DK p q r)
   . exact yM _
theorem O1:∀ l,(Ao l).Perm l:=by
 intro iN; induction iN with
 | nil=>skip; exact yM _
 | cons p r ih=>skip; exact (Qy p (Ao r)).trans ((ih).cons p)
theorem oI (p:Str):∀ l,l.Pairwise leX->(eR p l).Pairwise leX:=by
 intro iN; induction iN with
 | nil=>intro _; exact j8 _ _
 | cons q r ih =>
   intro h; rw [wP] at h; unfold eR;split
   . rename_i c
     refine wP.mpr ⟨fun x hx=>?_,ih h.2⟩;rcases vF.mp ((Qy p r).mem_iff.mp hx) with rfl | hx
     . unfold ltS at c; rw [ltCps_eq] at c; exact List.lt_asymm (of_decide_eq_true c)
     . exact h.1 x hx
   . rename_i c
     have hq:leX p q:=qP.mp (by simpa using c);refine wP.mpr ⟨fun x hx=>?_,wP.mpr h⟩;rcases vF.mp hx with rfl | hx
     . exact hq
     . exact hq.trans (h.1 x hx)
theorem Mx:∀ l,(Ao l).Pairwise leX:=by
 intro iN; induction iN with
 | nil=>skip; exact .nil
 | cons p r ih=>skip; exact oI p _ (ih)
theorem Ya:∀ {ds:List uV} {ss:List Str},O6 ds=some ss->ds=ss.map .str:=by
 intro iN; induction iN with
 | nil=>intro ss e; cases e; rfl
 | cons d ds ih =>
   intro ss e;cases d with
   | str x =>
     obtain ⟨r,e1,e2⟩:=xG.mp (show (O6 ds).map (x::·)=some ss from e);rw [<- e2,ih e1]; rfl
   | _=>cases e
noncomputable section
variable {X:Cx}
def rZ (xs:List V) (H:Hp) (Q:VK):Prop:=∃ d,∃ kk:List (uV×V),∃ ss:List Str,xs=[.ref d]/\Rd H d (.dN kk)/\kk.map (·.1)=ss.map .str/\ss.length < 64 /\
 ∀ l,H l=none->Q (.ref l) (upd H l (.lst ((Ao ss).map .str)))
theorem Oe {w:wD} {H:Hp}:∀ {kk:List (uV×V)} {xs:List (uY×uY)} {ss:List Str},yC (fun (p:uV×V) (q:uY×uY)=>(∃ v,KRep H p.1 v/\RelV v q.1)/\RelV p.2 q.2) kk xs->kk.map (·.1)=ss.map yE->DQ ((O4 w kk xs).map (·.key)) ss
 | _,_,[],r,e=>by
   cases r with
   | nil=>exact .nil
   | cons _ _=>cases e
 | _,_,x::ss,r,e=>by
   cases r with
   | nil=>cases e
   | @cons p q kk xs h r =>
     injection e with e1 e2
     obtain ⟨⟨v,h1,h2⟩,_⟩:=h; rw [show p.1=yE x from e1] at h1; obtain ⟨rfl,_⟩:=h1; obtain ⟨t,ht⟩:=h2; show DQ (q.1::(O4 w kk xs).map (·.key)) (x::ss);rw [ht]; exact .cons x t (Oe r e2)
theorem Fc:∀ {vs:List uY} {ss:List Str},DQ vs ss->Vals (ss.map V.str) vs
 | _,_,.nil=>.nil
 | _,_,.cons x t h=>.cons ⟨t,rfl⟩ (Fc h)
theorem Zo (hh:X.A.handled=none):U0 X (.builtin "sorted") rZ:=by
 rintro pins s Z H xs us Q I r ⟨d,kk,ss,hx,hd,hkk,h64,q⟩;subst hx;obtain ⟨u,rfl,ru⟩:=Vals.one r;cases (show u=yH d from ru);obtain ⟨z,lo,nd,nk,ys,rel,ep,ho⟩:=hd.ok I.hok;have hS:=Oe (w:=X.w) rel hkk;have hlen:(O4 X.w kk ys).length=ss.length:=by
   have:=hS.strs; rw [<- this]; simp
 refine gR (ss:=ss) lo rfl rfl hh ho hS (by rw [vO]; exact AJ (Nat.le_of_eq hlen) h64) fun h1 tk out ss' hk k1 k2 k3=>?_;have hsrt:ss'=Ao ss:=Hk (k2.trans (O1 ss).symm) (Mw k3) (Mx ss);subst hsrt;have I1:Inv X pins Z H { s with heap:=h1,toks:=tk }:=I.kept (t':=tk) hk;have ho1:(h1.push (AW "list" ((O4 X.w kk ys).toArray.toList.map (·.key)).toArray 0)).get? h1.objs.size=some (AW "list" ((O4 X.w kk ys).toArray.toList.map (·.key)).toArray 0):=vH _ rfl;obtain ⟨ee,hat⟩:=sortedHeap_at (out:=out) ho1;have hfr:H h1.objs.size=none:=I1.hok.fresh (vL _)
 refine ⟨.ref h1.objs.size,_,I1.laid (o:=.lst ((Ao ss).map .str)) (t':=tk) (fun b o e=>?_) (vL _) ⟨?_,out.toList,ee,Fc k1,hat⟩,rfl,q _ hfr⟩
 . have hlt:b < h1.objs.size:=vR e
   rw [sortedHeap_old (wL hlt) (by rw [size_push']; exact CT hlt)];exact vD _ e
 . rw [vA,(O1 ss).length_eq,j6]; lia
end
noncomputable def Rx (i:Nat):Dn->Res uV:=fun δ=>match kvN δ i with
 | some kvs=>match O6 (kvs.map (·.1)) with
   | some ss=>if ss.length < 64/\(ss.all fun x=>wJ x&&decide (x.length<=1000))=true then .ok (.list ((Ao ss).map .str)) else .no
   | none=>.no
 | none=>.no
noncomputable section
variable {P:vU} {w:wD} {K:vB} {mg:Str->Option uY} {base:wT} {X:Cx} {N:List Str} {sc:Scope} {k:Nat} {df:Bool} {E:EK} {pos p p1:Pos} {x:Str}
theorem Nl {G:Hp}:∀ (ss:List Str),(∀ x∈ss,wJ x=true/\x.length<=sizeLine)->RepL G (ss.map .str) (ss.map .str):=by
 intro iN; induction iN with
 | nil=>intro _; exact rfl
 | cons x ss ih=>intro h; exact RepL.cons ⟨rfl,h x (.head _)⟩ (ih fun y hy=>h y (.tail _ hy))
theorem pB (C:Cxt P w K mg base X N sc k df) (h:okGl sc "sorted" = true) (hm:mg "sorted" = none) (i:Nat) (hv:okVar N sc i x=true)
   (he:vI [.Name x p1] X.env=(false,eval (.Name x p1) X.env)::vI [] X.env:=by rfl) (hpl:(yL pos (vI [] X.env)).any (·.1)=false:=by rfl) :
   DE X E (.Call (.Name "sorted" p) [.Name x p1] [] pos) (Rx i):=by
 obtain ⟨h1,h2,h3⟩:=okGl.gl C h;intro pins s Z H Q I q;refine (PE.imp (Dj (Zo (I.ok.hd C.calm)) h1 (by rw [C.hmg]; exact hm) (by decide +kernel) (F6 (okVar.pe C hv (p:=p1)) O2 he) h3 h2 he hpl) fun Z H Q hY94=>?_) pins s Z H Q I q;obtain ⟨G,δ,S,aft⟩:=hY94;unfold Rx at aft;split at aft
 . rename_i kvs hi
   split at aft
   . rename_i ss eps
     split at aft
     . rename_i hc
       obtain ⟨d,kk,hσ,hx,hkeys,hvals⟩:=S.kvN hi; refine ⟨.ref d,hσ,d,kk,ss,rfl,hx,by rw [<- hkeys]; exact Ya eps,hc.1,fun l hl=>?_⟩;have hG:G l=none:=S.sub.free hl; refine aft _ (upd G l (.lst ((Ao ss).map .str))) _ (Grow.new S.sub hl) ⟨l,_,rfl,.inl B8,?_⟩; refine Nl _ fun y hy=>?_;have:=k6.mp hc.2 y ((O1 ss).mem_iff.mp hy); rw [vV] at this; exact ⟨this.1,vX (of_decide_eq_true this.2) (by decide)⟩
     . exact aft.elim
   . exact aft.elim
 . exact aft.elim
end
end Sm
end
noncomputable section
namespace Sm
open PySem PySem.Spec PyProof.Rows L2
noncomputable def pE:uV->Option uV
 | .tuple ds=>some (.tuple ds.reverse)
 | _=>none
theorem tZ {α β:Type} (f:α->Option β) (g:α->β):∀ l:List α,(∀ a∈l,f a=some (g a))->l.filterMap f=l.map g:=by
 intro iN; induction iN with
 | nil=>intro _; exact rfl
 | cons a l ih =>
   intro h; rw [zH,h a xK,vK,ih fun b hb=>h b (xL _ hb)]
theorem iI (xs:List uY):((wS xs.length).filterMap fun (m:Nat)=>xs.toArray[(((xs.length:Int) - 1)+(m:Int)*(-1)).toNat]?).toArray=xs.reverse.toArray:=by
 have e:((wS xs.length).filterMap fun (m:Nat)=>xs.toArray[(((xs.length:Int) - 1)+(m:Int)*(-1)).toNat]?)=(wS xs.length).map fun m=>xs.getD (xs.length - 1 - m) .none:=by
   refine tZ _ _ _ fun m hm=>?_;have hm':=yQ.mp hm; have e:(((xs.length:Int) - 1)+(m:Int)*(-1)).toNat=xs.length - 1 - m:=by omega
   rw [e,List.getElem?_toArray,u7,wC (by omega)]; rfl
 rw [e];congr 1;apply p7;intro i;rw [wE];by_cases hi:i < xs.length
 . rw [List.getElem?_range hi,JG hi,AB,u7,wC (by omega)]
   rfl
 . rw [yI (by simpa using yX.mp hi),yI (by simpa using yX.mp hi)]
   rfl
theorem Hr {prog:vU} {w:wD} {A:xD} {E:uY->uZ->Prop} {s:uZ} {t sl:vG} {its:List uY} {tk:Tok} {Q:uY->uZ->Prop} (ht:EN s.heap t its.toArray) (hs:s.heap.IsSliceOf sl .none .none (.int (-1) tk)) (hsz:its.length<=sizeLine)
   (h:Q (.ref s.heap.objs.size) { s with heap:=s.heap.push { cls:=.type "tuple",data:=.seq its.reverse.toArray } }):wpAny (vS prog w) A (BG (.ref t) (.ref sl)) Q E s:=by
 obtain ⟨os,hos,hcs,hds⟩:=id hs;have hTs:s.TypeIs (.ref sl) "slice" := ⟨os,hos,hcs⟩;have htake:sizeOk (.seq its.reverse.toArray):=by
   show its.reverse.toArray.size<=sizeLine;rw [vO,z9]; exact hsz
 unfold BG;try with_reducible refine wZ ?_
 first | refine uW (uX ?_) | skip
 refine uW (BE ht.typeIs (by decide) ?_);refine uW (xA (name:=yT "__getitem__") ht.typeIs xI
   (wV xI ht.typeIs FZ ?_ (GM _ _)))
 show wpAny _ _ (l8 (.ref t)>>=_) _ _ s;refine uW (tupleItemsOf_ ht ?_);refine uW (BD hTs ?_);rw [if_pos (by decide)];have hz:its.toArray.size=its.length:=vO;have hap:∀ {Q:Int×Int×Nat->uZ->Prop},Q ((its.length:Int) - 1,-1,its.length) s->wpAny (vS prog w) A.in1 (l9 (.ref sl) (pure (its.toArray.size:Int))) Q E s:=fun {Q} hQ=>by
   unfold l9 FM; refine uW (uW (j5 hos hds (x:=.none) rfl (uW (j5 hos hds (x:=.none) rfl (uW (j5 hos hds (x:=.int (-1) tk) rfl (uX ?_))))))); refine uW (slicePart_int ?_); show wpAny _ _ (if ((-1:Int)==0)=true then _ else _) _ _ s;rw [if_neg (by decide)]; refine uW (FN (uW (FN (uW (uX ?_))))); show wpAny _ _ (match a8 none none (-1) (its.toArray.size:Int) with | (lo,hi)=>pure (lo,(-1:Int),xW lo hi (-1))) _ _ s
   have ea:a8 none none (-1) (its.toArray.size:Int)=((its.length:Int) - 1,-1):=by
     rw [hz]; rfl
   rw [ea]; show wpAny _ _ (pure ((its.length:Int) - 1,(-1:Int),xW ((its.length:Int) - 1) (-1) (-1))) _ _ s;have ep:xW ((its.length:Int) - 1) (-1) (-1)=its.length:=by
     unfold xW; rw [if_neg (by decide)];split
     . have : ((its.length : Int) - 1 - -1 - 1) / (- -1) = (its.length : Int) - 1 := by
         rw [show (- -1:Int)=1 by decide,Int.ediv_one]; omega
       rw [this]; omega
     . omega
   rw [ep]; exact uX hQ
 refine uW (hap ?_);show wpAny _ _ (if (((its.length:Int) - 1==0&&(-1:Int)==1&&its.length==its.toArray.size)=true) then _ else _) _ _ s;rw [if_neg (by simp),iI];first
   | exact uW (m:=yD _) (wH (uX ⟨_,rfl,uX h⟩) htake)
   | exact uW (m:=yD _) (wH (uW (uX (uX ⟨_,rfl,uX h⟩))) htake)
   | exact uW (uW (m:=yD _) (wH (uX (uX ⟨_,rfl,uX h⟩)) htake))
   | exact uW (uW (m:=yD _) (wH (uX ⟨_,rfl,uX h⟩) htake))
noncomputable section
variable {w:wD} {X:Cx} {E:EK} {pos p1 p2 p3:Pos} {a b:Expr} {f:Dn->Res uV} {x:Str} {i:Nat}
theorem d_rev {j:Nat} (ha:DE X E a f):DE X E (.Subscript a (.Slice none none (some (.UnaryOp .USub (.Constant (.int 1) j p1) p2)) p3) pos) (b1 f pE):=by
 rintro pins s Z H Q I ⟨G,δ,S,aft⟩;have hh:tD E f Z H (fun v H1=>∃ G1 d,Same G1 H1/\Rep G1 d v/\Aft E G1 H1 (ofO (pE d)) Q):=K2 S aft fun d v G1 H1 g1 r1 S1 a1=>⟨G1,d,S1.sub,r1,a1⟩;refine IZ (thn (ha pins s Z H _ I hh) fun v s1 hZ2=>?_);obtain ⟨x,H1,I1,rx,G1,d,hG,rd,a1⟩:=hZ2;refine wpAny_Slice ?_;rw [evalPart_none];refine uX (uX ?_);rw [evalPart_some];refine thn ((qN fT (iP (i:=1) (j:=j) (pos:=p1))) pins s1 Z H1 (fun v H2=>v=.int (-1)/\H2=H1) I1 ⟨1,rfl,rfl,rfl⟩) fun u s2 hZ2=>?_;obtain ⟨y,H2,I2,ry,ey,eh⟩:=hZ2;subst ey eh;obtain ⟨tk,rfl⟩:=ry;cases d with
 | tuple ds =>
   obtain ⟨q,xs,rfl,h1,l1⟩:=rd; cases rx; have I3:Inv X pins Z H2 { s2 with heap:=s2.heap.push { cls:=.type "slice",data:=.fields #[.none,.none,.int (-1) tk] } }:=I2.kept (t':=s2.toks) fun b ob q=>vD _ q;obtain ⟨z,its,rv,ht⟩:=Fh I3 hG h1; show wpAny (vS X.prog X.w) X.A (GH a _ (.ref q) (.ref s2.heap.objs.size)) (EP X pins Z Q) X.xe { s2 with heap:=s2.heap.push { cls:=.type "slice",data:=.fields #[.none,.none,.int (-1) tk] } };refine tail_any (ops:=[.ref q,.ref s2.heap.objs.size]) ht.typeIs xI.lookup (Hr ht (GR ..) (by rw [<- rv.length]; exact z) ?_) (by with_unfolding_all rfl)
   exact Tq (t':=s2.toks) I3 hG rv.reverse l1.reverse (by rw [z9]; exact z) a1
 | _=>exact (show False from a1).elim
end
end Sm
end
noncomputable section
namespace Sm
open PySem PySem.Spec PyProof.Rows L2
noncomputable def okS (x:Str):Bool:=wJ x&&decide (x.length<=sizeLine)
noncomputable section
theorem okS.out {x:Str} (h:okS x=true):wJ x=true/\x.length<=sizeLine:=by
 unfold okS at h;simp only [vV,decide_eq_true_eq] at h;exact h
end
end Sm
end
noncomputable section
namespace Sm
open PySem PySem.Spec PyProof.Rows L2
end Sm
end
noncomputable section
namespace Sm
open PySem PySem.Spec PyProof.Rows L2
end Sm
end
noncomputable section
namespace Sm
open PySem PySem.Spec PyProof.Rows L2
end Sm
end
noncomputable section
namespace Sm
open PySem PySem.Spec PyProof.Rows L2
end Sm
namespace Sm
open PySem PySem.Spec PyProof.Rows L2
end Sm
end
noncomputable section
namespace Sm
open PySem PySem.Spec PyProof.Rows L2
noncomputable def Kx (x:Str) (lo hi:Option Int):Str:=if (((xX lo hi 1 x.length).length==x.length)=true) then x else ⟨((xX lo hi 1 x.length).filterMap (x.cps[·]?)).toArray⟩
noncomputable def qV (d:uV) (lo hi:Option Int):Option uV:=match d with
 | .str x=>if okS (Kx x lo hi)=true then some (.str (Kx x lo hi)) else none
 | _=>none
theorem aT {v:uY} {o:Option Int} (h:EU v o):∃ l:Option (Int×Tok),v=partValue l/\l.map (·.1)=o:=by
 cases h with
 | none=>exact ⟨none,rfl,rfl⟩
 | int i t=>exact ⟨some (i,t),rfl,rfl⟩
noncomputable section
variable {X:Cx}
noncomputable def rSlS:V->Option Int->Option Int->Hp->VK->Prop:=fun x lo hi H Q=>∃ z,x=.str z/\(Kx z lo hi).length<=sizeLine/\Q (.str (Kx z lo hi)) H
theorem sl_S:SlR X rSlS:=by
 rintro pins s Z H x v vl vu lo hi sl Q I rx hs pl pu ⟨z,e,hl,q⟩;subst e;obtain ⟨t,rfl⟩:=rx;obtain ⟨l,rfl,rfl⟩:=aT pl;obtain ⟨u,rfl,rfl⟩:=aT pu;refine ⟨"str",_,F.slot_str_getitem.lookup,typeIs_str _ _ _,?_⟩;refine wpAny_getItem_str_slice (l:=l) (u:=u) (st:=none) hs rfl ?_;unfold sliceMade slicePicked;unfold Kx at q hl;show (if ((1:Int)==1&&(xX (l.map (·.1)) (u.map (·.1)) 1 z.length).length==z.length)=true then Made.val (.str z t) else .str ⟨((xX (l.map (·.1)) (u.map (·.1)) 1 z.length).filterMap (z.cps[·]?)).toArray⟩).post _ s;have e1:((1:Int)==1)=true:=rfl
 rw [e1,IC];split
 . rename_i h
   rw [if_pos h] at q; exact ⟨.str z,H,I,⟨_,rfl⟩,q⟩
 . rename_i h
   rw [if_neg h] at q hl; exact ⟨hl,.str _,H,I.tok _,⟨_,rfl⟩,q⟩
noncomputable def qY (f:Dn->Res uV) (fl fh:Dn->Res (Option Int)):Dn->Res uV:=fun δ=>(f δ).bind fun d=>(fl δ).bind fun l=>(fh δ).bind fun u=>ofO (qV d l u)
theorem kO {E:EK} {e:Expr} {lo hi:Option Expr} {f:Dn->Res uV} {fl fh:Dn->Res (Option Int)} {p2 pos:Pos} (he:DE X E e f) (hl:DO X E lo fl) (hu:DO X E hi fh):DE X E (.Subscript e (.Slice lo hi none p2) pos) (qY f fl fh):=by
 refine PE.imp (Vo sl_S he hl hu) fun Z H Q hZ3=>?_;obtain ⟨G,δ,S,aft⟩:=hZ3;refine K2 S aft fun d v G1 H1 g1 r1 S1 a1=>?_;refine Hw (W:=fun G H r=>Aft E G H r Q) S1 a1 (fun g a=>Aft.grow g a) (fun c a=>a) (fun a=>a) fun l G2 H2 g2 S2 a2=>?_;refine Hw (W:=fun G H r=>Aft E G H r Q) S2 a2 (fun g a=>Aft.grow g a) (fun c a=>a) (fun a=>a) fun u G3 H3 g3 S3 a3=>?_;cases d with
 | str z =>
   simp only [qV] at a3;split at a3
   . rename_i ok
     exact ⟨z,r1.1,(okS.out ok).2,a3 _ G3 H3 (Grow.refl S3.sub) ⟨rfl,okS.out ok⟩⟩
   . exact (show False from a3).elim
 | _=>exact (show False from a3).elim
end
end Sm
end
noncomputable section
namespace Sm
open PySem PySem.Spec PyProof.Rows L2
noncomputable section
variable {a b c d:Expr}
noncomputable def st3 (i j l:Nat):uV->Dn->Option Dn:=fun d δ=>match d with
 | .tuple [a,b,c]=>some (((δ.set i (.sh a)).set j (.sh b)).set l (.sh c))
 | _=>none
end
end Sm
end
noncomputable section
namespace Sm
open PySem PySem.Spec PyProof.Rows L2
noncomputable def Ey:List uV->Option (List Int)
 | []=>some []
 | .int i::r=>(Ey r).map (i::·)
 | _::_=>none
noncomputable def eQ (p:Int):List Int->List Int
 | []=>[p]
 | q::r=>if q < p then q::eQ p r else p::q::r
noncomputable def De:List Int->List Int
 | []=>[]
 | p::r=>eQ p (De r)
theorem Qx (p:Int):∀ l,(eQ p l).Perm (p::l):=by
 intro iN; induction iN with
 | nil=>skip; exact yM _
 | cons q r ih =>
   skip
   unfold eQ;split
   . exact ((ih).cons q).trans (DK p q r)
   . exact yM _
theorem Cf:∀ l,(De l).Perm l:=by
 intro iN; induction iN with
 | nil=>skip; exact yM _
 | cons p r ih=>skip; exact (Qx p (De r)).trans ((ih).cons p)
theorem oH (p:Int):∀ l:List Int,l.Pairwise (· <= ·)->(eQ p l).Pairwise (· <= ·):=by
 intro iN; induction iN with
 | nil=>intro _; exact j8 _ _
 | cons q r ih =>
   intro h; rw [wP] at h; unfold eQ;split
   . refine wP.mpr ⟨fun x hx=>?_,ih h.2⟩
     rcases vF.mp ((Qx p r).mem_iff.mp hx) with rfl | hx
     . lia
     . exact h.1 x hx
   . refine wP.mpr ⟨fun x hx=>?_,wP.mpr h⟩
     rcases vF.mp hx with rfl | hx
     . lia
     . have:=h.1 x hx; lia
theorem Ux:∀ l,(De l).Pairwise (· <= ·):=by
 intro iN; induction iN with
 | nil=>skip; exact .nil
 | cons p r ih=>skip; exact oH p _ (ih)
theorem Uh:∀ {l m:List Int},l.Perm m->l.Pairwise (· <= ·)->m.Pairwise (· <= ·)->l=m
 | [],m,h,_,_=>(JI h)
 | a::l,[],h,_,_=>absurd h.length_eq (by simp)
 | a::l,b::m,h,h1,h2=>by
   rw [wP] at h1 h2; have e:a=b:=by
     rcases vF.mp (h.mem_iff.mp (xK (a:=a) (l:=l))) with e | e
     . exact e
     . rcases vF.mp (h.mem_iff.mpr (xK (a:=b) (l:=m))) with e' | e'
       . exact e'.symm
       . have:=h1.1 b e'; have:=h2.1 a e; lia
   subst e; rw [Uh (II h) h1.2 h2.2]
theorem repZ {G:Hp}:∀ {ds:List uV} {xs:List V} {us:List uY} {ns:List Int},RepL G ds xs->Vals xs us->Ey ds=some ns->EV us ns:=by
 intro iN; induction iN with
 | nil=>intro _ _ _ r q e; cases (show _=_ from r); cases q; cases e; exact .nil
 | cons d ds ih =>
   intro _ _ ns r q e;cases d with
   | int i =>
     obtain ⟨x,t,rfl,h,l⟩:=r; obtain ⟨m,e1,e2⟩:=xG.mp (show (Ey ds).map (i::·)=some ns from e);cases (show x=.int i from h);cases q with
     | cons hq q =>
       obtain ⟨t,rfl⟩:=hq; rw [<- e2]; exact .cons i t (ih l q e1)
   | _=>cases e
theorem qE:∀ {vs:List uY} {ns:List Int},EV vs ns->Vals (ns.map V.int) vs
 | _,_,.nil=>.nil
 | _,_,.cons x t h=>.cons ⟨t,rfl⟩ (qE h)
noncomputable section
variable {P:vU} {w:wD} {K:vB} {mg:Str->Option uY} {base:wT} {X:Cx} {N:List Str} {sc:Scope} {k:Nat} {df:Bool} {E:EK} {pos:Pos} {a b c d e:Expr} {f g f':Dn->Res uV}
theorem Uo (C:Cxt P w K mg base X N sc k df) (ha:DE X E a f) (hb:DE X E b g) (hc:DE X E c f') (hm:lastMarks [.LtE,.Lt] [b,c]=false:=by with_unfolding_all rfl) :
   DT X E (.Compare a [.LtE,.Lt] [b,c] pos) (B6 (Ib f g f' (K0 .LtE) (K0 .Lt))):=by
 have hr:OpR X (yG .LtE) (aO .LtE):=Lm (.inr rfl) C.hu;have hr':OpR X (yG .Lt) (aO .Lt):=Lm (.inl rfl) C.hu;refine PT.imp (iF hr hr' ha hb hc hm) fun Z H Q hZ3=>?_;obtain ⟨G,δ,S,aft⟩:=hZ3;have aft':AftT E G H ((f δ).bind fun x=>(g δ).bind fun y=>(ofO (K0 .LtE x y)).bind fun z=>(match z with
   | .bool true=>(f' δ).bind fun u=>ofO (K0 .Lt y u)
   | .bool false=>.ok (.bool false)
   | _=>.no).bind fun d=>ofO (Uk d)) Q:=by
   unfold B6 Ib at aft; simp only [Res.bind_assoc] at aft; exact aft
 refine S9 S aft' fun d1 v1 G1 H1 g1 r1 S1 a1=>?_;refine S9 S1 a1 fun d2 v2 G2 H2 g2 r2 S2 a2=>?_;cases e:K0 .LtE d1 d2 with
 | none=>rw [e] at a2; exact a2.elim
 | some d =>
   rw [e] at a2; obtain ⟨kk,rfl⟩:=Hu _ _ _ e; refine Ln G2 H2 v1 v2 d1 d2 _ _ S2.sub (r1.mono g2.g) r2 e fun v G3 H3 g3 r3=>⟨kk,r3,?_⟩;have S3:=S2.grow g3;cases kk with
   | false=>rw [if_neg (by decide)]; exact ⟨false,rfl,a2 G3 H3 g3⟩
   | true =>
     rw [if_pos rfl]; have a3:AftT E G3 H3 ((f' δ).bind fun u=>(ofO (K0 .Lt d2 u)).bind fun d=>ofO (Uk d)) Q:=by
       have h0:AftT E G3 H3 (((f' δ).bind fun u=>ofO (K0 .Lt d2 u)).bind fun d=>ofO (Uk d)) Q:=AftT.grow g3 a2;rw [Res.bind_assoc] at h0; exact h0
     refine S9 S3 a3 fun d4 v4 G4 H4 g4 r4 S4 a4=>?_;cases e':K0 .Lt d2 d4 with
     | none=>rw [e'] at a4; exact a4.elim
     | some d =>
       rw [e'] at a4; obtain ⟨k2,rfl⟩:=Hu _ _ _ e'; exact Ln G4 H4 v2 v4 d2 d4 _ _ S4.sub (r2.mono (g3.g.trans g4.g)) r4 e' fun v G5 H5 g5 r5=>⟨k2,r5,a4 G5 H5 g5⟩
end
end Sm
end
noncomputable section
namespace Sm
open PySem PySem.Spec PyProof.Rows PySem.W L2
end Sm
end
noncomputable section
namespace Sm
open PySem PySem.Spec PyProof.Rows PySem.W L2
theorem repT {G:Hp}:∀ {ds:List uV} {xs:List V} {us:List uY} {ss:List Str},RepL G ds xs->Vals xs us->O6 ds=some ss->DQ us ss/\∀ x∈ss,wJ x=true/\x.length<=sizeLine:=by
 intro iN; induction iN with
 | nil=>intro _ _ _ r q e; cases (show _=_ from r); cases q; cases e; exact ⟨.nil,fun _ h=>nomatch h⟩
 | cons d ds ih =>
   intro _ _ ns r q e;cases d with
   | str i =>
     obtain ⟨x,t,rfl,h,l⟩:=r; obtain ⟨m,e1,e2⟩:=xG.mp (show (O6 ds).map (i::·)=some ns from e);obtain ⟨rfl,h2⟩:=h;cases q with
     | cons hq q =>
       obtain ⟨t,rfl⟩:=hq; obtain ⟨k1,k2⟩:=ih l q e1; rw [<- e2]; refine ⟨.cons i t k1,fun y hy=>?_⟩;rcases vF.mp hy with rfl | hy
       . exact h2
       . exact k2 y hy
   | _=>cases e
end Sm
end
noncomputable section
namespace Sm
open PySem PySem.Spec PyProof.Rows PySem.W L2
end Sm
end
noncomputable section
namespace Sm
open PySem PySem.Spec PyProof.Rows PySem.W L2
end Sm
end
noncomputable section
namespace Sm
open PySem PySem.Spec PyProof.Rows PySem.W L2
end Sm
end
noncomputable section
namespace Sm
open PySem PySem.Spec PyProof.Rows L2
noncomputable def Ec:uV->Bool
 | .none=>true
 | .int i=>decide (i.natAbs.log2 < 1920)&&decide ((yT (toString i)).length<=1000)
 | .str x=>decide ((reprText x).length<=1000)
 | _=>false
noncomputable def Hf (y:Str) (f:Dn->Res uV):Dn->Out:=fun δ=>K5 (f δ) fun d=>if Yv d=true\/Ec d=true then .exc y else .no
noncomputable section
variable {P:vU} {w:wD} {K:vB} {mg:Str->Option uY} {base:wT} {X:Cx} {N:List Str} {sc:Scope} {k:Nat} {df:Bool} {pos p p2:Pos} {a:Expr} {f:Dn->Res uV} {CN:vG} {Ex:XK}
theorem hJ {z y:Str} {j:Nat} {np cpos p3 p4:Pos} (C:Cxt P w K mg base X N sc k df) (L:Lv X Ex) (hex:X.ex=[]) (hgd:X.A.guards=some []) (O:ExcAt K mg y CN) (h:okGl sc y=true) (ha:DE X (eX CN Ex) a f) (hz:z.length<=1000:=by decide +kernel) :
   DS X (eX CN Ex) (.Raise (some (.Call (.Name y np) [.JoinedStr [.Constant (.str z) j p,.FormattedValue a 114 none p2] p3] [] cpos)) none pos) (Hf y f):=fun G0 H0 pins s Z H D I hZ8=>by
 obtain ⟨G,δ,S,aft⟩:=hZ8;obtain ⟨g1,g2,g3⟩:=okGl.gl C h;have KX:X.K=K:=C.hK;obtain ⟨bm,Nn,nm,q,bs,hdct,sn,sub,ab,col,dd,k0,k1,k2,k3,k5,mN,hC,hN,hni,T⟩:=(O.own (h:=X.base) (by rw [<- KX]; exact I.mod.kin)).obj;have FB:=PySem.F.excBase_ValueError;refine wpAny_Raise_call_subT (C:=CN) (nm:=nm) (q:=q) (N:=Nn) (bs:=bs) (bm:=bm) (hdct:=hdct) (sn:=sn) (sub:=sub) (ab:=ab) (col:=col) (dd:=dd) (k0:=k0) (k1:=k1) (k2:=k2) (k3:=k3) (k5:=k5) FB (mN:=mN) (T.hasType FB.hasBase) (I.ok.hd C.calm) rfl hni (Hm I g1 (by rw [C.hmg]; exact O.bound) ⟨rfl,?_⟩ g2);refine BL (l7 ?_);rw [if_neg (by decide)]
 refine JoinedStr_many (pos:=p3) (joinParts_cons (Calls.Constant_str ?_));have sz:(2000:Nat)<=sizeLine:=by decide
 have l0:(BZ++z).length<=1000:=by rw [JN]; exact (show BZ.length+z.length<=1000 from by have:BZ.length=0:=rfl; omega)
 refine ⟨by omega,joinParts_cons (fmt_r ?_)⟩;refine thn (ha pins _ Z H (fun v H1=>∃ G1 d,Rep G1 d v/\SSt G0 H0 G1 H1 Z δ/\(Yv d=true\/Ec d=true)/\∀ G' H',Grow G0 H0 G' H'->Ex (.ref CN) none H') (I.tok _) (Jr S aft fun d v G1 H1 g1 r1 S1 a1=>?_)) fun u s1 ⟨v,H1,I1,rv,G1,d,rd,S1,ok,hE⟩=>?_
 . split at a1
   . rename_i ok
     exact ⟨G1,d,r1,S1,ok,fun G' H' g=>a1 G' H' g⟩
   . exact (show False from a1).elim
 . suffices tail : ∀ (y : Str) (u : Tok) (s2 : uZ), y.length <= 1000 -> Inv X pins Z H1 s2 -> wpAny (vS X.prog X.w) _ (formatField (.str y u) BZ) _ _ s2 by
     rcases ok with ok | ok
     . unfold Yv at ok
       simp only [vV,zZ,decide_eq_true_eq] at ok; obtain ⟨⟨⟨⟨o1,o2⟩,o3⟩,o4⟩,o5⟩:=ok; obtain ⟨as,rr⟩:=rd.reads I1 S1.sr.sub rv; obtain ⟨aa,rfl⟩:=isRef_of_reads rr o1; exact pyReprObj_of_reads rr o2 (PyData.noDict_hsm o3) hgd (by have:=C.hu; omega) (fun _ _ e=>e) (fun h1 u2 tk hk=>tail _ _ _ o4 (I1.kept hk)) (by omega)
     . cases d with
       | none =>
         cases (show v=.non from rd);cases (show u=yP from rv);exact pyReprObj_none (tail _ _ _ (by decide) (I1.tok _))
       | int i =>
         cases (show v=.int i from rd);obtain ⟨t,rfl⟩:=(show ∃ t,u=EO i t from rv);unfold Ec at ok; simp only [vV,decide_eq_true_eq] at ok; exact pyReprObj_int ok.1 (tail _ _ _ ok.2 (I1.tok _))
       | str x =>
         cases (show v=.str x from rd.1);obtain ⟨t,rfl⟩:=(show ∃ t,u=IA x t from rv);unfold Ec at ok; simp only [decide_eq_true_eq] at ok; exact pyReprObj_str (tail _ _ _ ok (I1.tok _)) (by omega)
       | _=>cases ok
   intro y u s2 o4 I2; refine formatField_str (fun t2 tk2=>?_) (by omega);have l1:(BZ++z++y).length<=2000:=by rw [JN]; omega
   refine ⟨by omega,joinParts_nil ?_ (by omega)⟩;have I2:Inv X pins Z H1 { s2 with toks:=tk2+1 }:=I2.tok _; refine CK ⟨rfl,(show (1:Nat)<=sizeLine by decide),I2.bk _ _ hC,hN.keeps I2.bk,T.keeps I2.bk,fun h2 e2 mk=>?_⟩;have I3:Inv X pins Z H1 { s2 with heap:=h2,toks:=tk2+1 }:=I2.kept mk.keeps; refine L pins Z H1 _ e2 (.ref CN) I3 (.inl ?_) (hE G1 H1 S1.gr); obtain ⟨t,ht,_,_⟩:=mk.there; refine ⟨_,_,.ref t,ht,rfl,rfl,rfl,?_,HOk.gone I2.hok mk.new,rfl⟩;cases q:X.s₀.heap.get? e2 with
   | none=>rfl
   | some o =>
     obtain ⟨o',z'⟩:=I2.base.there e2 o q (by rw [hex]; simp);have:=mk.new; rw [z'] at this; cases this
end
end Sm
end
noncomputable section
namespace Sm
open PySem PySem.Spec PyProof.Rows L2
end Sm
end
noncomputable section
namespace Sm
open PySem PySem.Spec PyProof.Rows L2
end Sm
end
noncomputable section
namespace Sm
open PySem PySem.Spec PyProof.Rows L2
end Sm
end
noncomputable section
namespace Sm
open PySem PySem.Spec PyProof.Rows L2
end Sm
end
noncomputable section
namespace Sm
open PySem PySem.Spec PyProof.Rows L2
end Sm
end
noncomputable section
namespace Sm
open PySem PySem.Spec PyProof.Rows L2
end Sm
end
noncomputable section
namespace Sm
open PySem PySem.Spec PyProof.Rows L2
end Sm
end
noncomputable section
namespace Sm
open PySem PySem.W PyProof.Rows
theorem Q2:Slot "set_iterator" "__next__" "set_iterator.__next__" :=
 .of (owner := "set_iterator") (n := "__next__") (by rw [j0,yZ]; kernel_rfl) (by decide +kernel) (by decide +kernel) (by decide +kernel) (by first | exact .inl (by decide +kernel) | exact .inr (by decide +kernel)) (by rw [AA]; kernel_rfl)
theorem aF:Slot "set_iterator" "__iter__" "set_iterator.__iter__" :=
 .of (owner := "set_iterator") (n := "__iter__") (by rw [j0,yZ]; kernel_rfl) (by decide +kernel) (by decide +kernel) (by decide +kernel) (by first | exact .inl (by decide +kernel) | exact .inr (by decide +kernel)) (by rw [AA]; kernel_rfl)
theorem Gw:GY table "set_iterator.__next__" = some yA.«set_iterator.__next__» := HS ⋯
theorem gT:GY table "set_iterator.__iter__" = some yA.«dict_keyiterator.__iter__» := IV (id' := "dict_keyiterator.__iter__") ⋯ rfl (by decide +kernel) ⋯
theorem dC:GY table "set.__iter__" = some yA.«frozenset.__iter__» := IV (id' := "frozenset.__iter__") ⋯ rfl (by decide +kernel) ⋯
theorem Gx (a:uY):HV "set_iterator.__next__" ⟨[a],[]⟩:=by unfold HV; kernel_rfl
theorem gU (a:uY):HV "set_iterator.__iter__" ⟨[a],[]⟩:=by unfold HV; kernel_rfl
end Sm
end
noncomputable section
namespace Sm
open PySem PySem.W PyProof.Rows
abbrev Cz (f:uY) (i:Nat) (a:vG) (n ep:Nat):Obj:={ cls:=.type "set_iterator",data:=.fields #[f,.int i 0,.ref a,.int n 0,.int ep 0] }
theorem Fu {α:Type}:∀ {l:List α} {i:Nat} {x:α},l[i]? = some x->(x::l.eraseIdx i).Perm l
 | [],_,_,h=>by cases h
 | y::l,0,x,h=>by cases h; exact yM _
 | y::l,i+1,x,h=>(DK y x _).trans ((Fu (l:=l) (i:=i) h).cons y)
theorem nE {α:Type} (nx:Nat->Nat):∀ (n k:Nat) (l:List α) (out:Array α),l.length=n->(pickOrder.go nx n k l out).toList.Perm (out.toList++l):=by
 intro iN; induction iN with
 | zero =>
   intro k l out h;cases BN h;rw [wQ]; exact yM _
 | succ n ih =>
   intro k l out h; unfold pickOrder.go; have hi:nx k % l.length < l.length:=Nat.mod_lt _ (by lia);rw [wC hi]; refine (ih (k+1) _ _ (by rw [HM hi]; lia)).trans ?_;rw [Array.toList_push,wR]; exact List.Perm.append_left _ (Fu (wC hi))
theorem Iw {α:Type} (nx:Nat->Nat) (xs:Array α):(pickOrder nx xs).toList.Perm xs.toList:=nE nx xs.size 0 xs.toList #[] (by simp)
noncomputable section
variable {prog:vU} {w:wD} {A:xD} {E:uY->uZ->Prop} {s:uZ}
theorem cB {src:Source} {n:Nat} {Q:Nat->uZ->Prop} (h:n≠0) (hQ:∀ i d,i < n->Q i { s with drawn:=d }):wpAny (vS prog w) A (choose src n) Q E s:=fun Γ p hΓ=>by
 unfold choose;rw [Sem.wp_choose];exact ⟨h,hQ _ _ (Nat.mod_lt _ (Nat.pos_of_ne_zero h))⟩
theorem Gj {α:Type}:∀ (n:Nat) (xs:List α) (s:uZ) (Q:List α->uZ->Prop),xs.length=n->(∀ ys d,ys.Perm xs->Q ys { s with drawn:=d })->wpAny (vS prog w) A (drawOrder n xs) Q E s
 | 0,xs,s,Q,h,q=>by
   cases BN h;exact uX (q [] s.drawn (yM _))
 | n+1,[],s,Q,h,q=>by cases h
 | n+1,x::xs,s,Q,h,q=>by
   refine uW (cB (by simp) fun i d hi=>?_);rw [wC hi]; refine uW (Gj n _ _ _ (by rw [HM hi]; lia) fun ys d' hp=>uX (q _ d' ?_));exact (hp.cons _).trans (Fu (wC hi))
theorem Mz {a:vG} {o:Obj} {es:Array (Int×uY)} {ep sl i:Nat} {t:zN} {Q:Option (uY×Nat)->uZ->Prop} (hb:w.params.followText "set-order" = true) (ho:s.heap.get? a=some o) (hd:o.data=.set es ep t) (hf:t.fits es.size=true)
   (hQ:Q (((pickOrder (w.params.setOrder a ep) es)[i]?).map fun e=>(e.2,sl)) s):wpAny (vS prog w) A (IL a sl i ep) Q E s:=by
 unfold IL setWalk setsByText;refine uW (zM ho hd hf ?_);refine uW (uW (AD (uX ?_)));have hb':(vS prog w).w.params.followText "set-order" = true:=hb;simp only [hb',if_true,bne_self_eq_false,wU,if_false];refine uW (uW (zM ho hd hf ?_));refine uW (uW (AD (uX ?_)));simp only [hb',if_true];exact uW (AD (uX (uX hQ)))
theorem Qj {a:vG} {o:Obj} {es:Array (Int×uY)} {ep sl i:Nat} {t:zN} {Q:Option (uY×Nat)->uZ->Prop} (hb:w.params.followText "set-order" = false) (ho:s.heap.get? a=some o) (hd:o.data=.set es ep t) (hf:t.fits es.size=true)
   (hdr:(!t.plain&&decide (es.size>1))=false) (hl:t.led=true)
   (hQ:Q (match es[AH t.place sl]?,t.place[AH t.place sl]? with | some (_,x),some j=>some (x,j+1) | _,_=>none) s):wpAny (vS prog w) A (IL a sl i ep) Q E s:=by
 unfold IL setsByText;refine uW (zM ho hd hf ?_);refine uW (uW (AD (uX ?_)));have hb':(vS prog w).w.params.followText "set-order" = false:=hb;simp only [hb',wU,if_false];refine s0 (fun h=>absurd (show (!t.plain&&decide (es.size>1))=true from h) (by rw [hdr]; decide)) fun _=>uW ?_;show wpAny _ _ (if (!t.led && !es.isEmpty)=true then _ else _) _ _ _;rw [hl];exact uX (uX hQ)
theorem aW {I a:vG} {sl i nx ep:Nat} {o:Obj} {es:Array (Int×uY)} {t:zN} {x:uY} {Q:Option uY->uZ->Prop} (hit:s.heap.get? I=some (Cz (.int sl 0) i a es.size ep)) (ho:s.heap.get? a=some o) (hd:o.data=.set es ep t) (hf:t.fits es.size=true)
   (hx:∀ (A:xD) (E:uY->uZ->Prop) (Q:Option (uY×Nat)->uZ->Prop),Q (some (x,nx)) s->wpAny (vS prog w) A (IL a sl i ep) Q E s)
   (hQ:∀ h',h'.get? I=some (Cz (.int nx 0) (i+1) a es.size ep)->zT I s.heap h'->Q (some x) { s with heap:=h' }):wpAny (vS prog w) A (pyNext (.ref I)) Q E s:=by
 have hT:s.TypeIs (.ref I) "set_iterator" := ⟨_,hit,rfl⟩;unfold pyNext;refine uW (zK ?_);refine xA (name:=yT "__next__") hT Q2 (wV Q2 hT Gw ?_ (Gx _));unfold yA.«set_iterator.__next__» GU;refine uW (uX ?_);refine uW (BF hit rfl ?_);refine uW (AI ho hd hf ?_);simp only [bne_self_eq_false,wU,if_false];refine uW (hx _ _ _ ?_);refine uW (AV hit (by simp) fun h1 q1 b1=>?_);refine uW (AV (s:={ s with heap:=h1 }) q1 (by simp) fun h2 q2 b2=>?_)
 exact uX ⟨_,rfl,uX (hQ h2 q2 (b1.trans b2))⟩
theorem Vk {A:xD} {I:vG} {Q:Option uY->uZ->Prop} (hh:A.handled=none) (k:Nat) (hk:k < 5) (y:uY) {h0:wT} (hq:CP I h0 s.heap) (hit:∃ vs,s.heap.get? I=some { cls:=.type "set_iterator",data:=.fields vs }/\vs.size=5)
   (hQ:∀ h',CP I h0 h'->Q none { s with heap:=h' }) :
   wpAny (vS prog w) A.in1 (do
       GV (yH I) k y
       let e <- newExc (i8 "StopIteration") []
       raiseNew e) (fun fin s'=>∃ v,fin=Fin.done (Flow.ret v)/\wpAny (vS prog w) A (pure (some v)) Q E s')
     (fun e s' => wpAny (vS prog w) A (do
         let d <- isInstance e (i8 "StopIteration")
         if d=true then pure none else throw e) Q E s') s:=by
 obtain ⟨vs,hit,hv⟩:=hit;refine uW (AV hit (by lia) fun h1 q1 b1=>?_);refine uW ?_;simp only [newExc,newTuple];refine uW (wH ?_ (by size_fits));refine uW (m:=BH _ _) (i6 (a:=yP) (by first | rfl | (simp only [BH]; rfl)) (wH ?_ (by size_fits)));simp only [raiseNew];refine uW (wpAny_handled ?_);rw [show A.in1.handled=none from hh];refine uW (uX (wpAny_throw (uW ?_)));refine AC (T := "StopIteration") (b:=true) ⟨_,vH _ rfl,rfl⟩ IT ?_
 exact uX (hQ _ (((hq.trans b1.extBut).push _).push _))
theorem kJ {I a:vG} {sl i ep:Nat} {o:Obj} {es:Array (Int×uY)} {t:zN} {Q:Option uY->uZ->Prop} (hh:A.handled=none) (hit:s.heap.get? I=some (Cz (.int sl 0) i a es.size ep)) (ho:s.heap.get? a=some o) (hd:o.data=.set es ep t) (hf:t.fits es.size=true)
   (hx:∀ (A:xD) (E:uY->uZ->Prop) (Q:Option (uY×Nat)->uZ->Prop),Q none s->wpAny (vS prog w) A (IL a sl i ep) Q E s)
   (hQ:∀ h',CP I s.heap h'->Q none { s with heap:=h' }):wpAny (vS prog w) A (pyNext (.ref I)) Q E s:=by
 have hT:s.TypeIs (.ref I) "set_iterator" := ⟨_,hit,rfl⟩;unfold pyNext;refine uW (zK ?_);refine xA (name:=yT "__next__") hT Q2 (wV Q2 hT Gw ?_ (Gx _));unfold yA.«set_iterator.__next__» GU;refine uW (uX ?_);refine uW (BF hit rfl ?_);refine uW (AI ho hd hf ?_);simp only [bne_self_eq_false,wU,if_false];refine uW (hx _ _ _ ?_);exact Vk hh 2 (by decide) .none (HY I _).extBut ⟨_,hit,rfl⟩ hQ
theorem nV {I a tp:vG} {i ep pl c:Nat} {o:Obj} {es:Array (Int×uY)} {t:zN} {x:uY} {hv:Int} {ps:Array uY} {Q:Option uY->uZ->Prop} (hit:s.heap.get? I=some (Cz (.ref tp) i a es.size ep)) (ho:s.heap.get? a=some o) (hd:o.data=.set es ep t) (hf:t.fits es.size=true)
   (htp:s.heap.get? tp=some { cls:=.type "tuple",data:=.seq ps c }) (hp:ps[i]? = some (.int pl 0)) (hx:es[pl]? = some (hv,x))
   (hQ:∀ h',h'.get? I=some (Cz (.ref tp) (i+1) a es.size ep)->zT I s.heap h'->Q (some x) { s with heap:=h' }):wpAny (vS prog w) A (pyNext (.ref I)) Q E s:=by
 have hT:s.TypeIs (.ref I) "set_iterator" := ⟨_,hit,rfl⟩;unfold pyNext;refine uW (zK ?_);refine xA (name:=yT "__next__") hT Q2 (wV Q2 hT Gw ?_ (Gx _));unfold yA.«set_iterator.__next__» GU;refine uW (uX ?_);refine uW (BF hit rfl ?_);refine uW (AI ho hd hf ?_);simp only [bne_self_eq_false,wU,if_false];refine uW (IM htp rfl ?_);simp only [i9,hp];unfold setNextDrawn;refine uW (uW (zM ho hd hf ?_))
 simp only [bne_self_eq_false,wU,if_false,hx];refine uX ?_;refine uW (AV hit (by simp) fun h1 q1 b1=>?_);exact uX ⟨_,rfl,uX (hQ h1 q1 b1)⟩
theorem uB {I a tp:vG} {i ep c:Nat} {o:Obj} {es:Array (Int×uY)} {t:zN} {ps:Array uY} {Q:Option uY->uZ->Prop} (hh:A.handled=none) (hit:s.heap.get? I=some (Cz (.ref tp) i a es.size ep)) (ho:s.heap.get? a=some o) (hd:o.data=.set es ep t) (hf:t.fits es.size=true)
   (htp:s.heap.get? tp=some { cls:=.type "tuple",data:=.seq ps c }) (hp:ps[i]? = none)
   (hQ:∀ h',CP I s.heap h'->Q none { s with heap:=h' }):wpAny (vS prog w) A (pyNext (.ref I)) Q E s:=by
 have hT:s.TypeIs (.ref I) "set_iterator" := ⟨_,hit,rfl⟩;unfold pyNext;refine uW (zK ?_);refine xA (name:=yT "__next__") hT Q2 (wV Q2 hT Gw ?_ (Gx _));unfold yA.«set_iterator.__next__» GU;refine uW (uX ?_);refine uW (BF hit rfl ?_);refine uW (AI ho hd hf ?_);simp only [bne_self_eq_false,wU,if_false];refine uW (IM htp rfl ?_);simp only [i9,hp];refine uW (AV hit (by simp) fun h1 q1 b1=>?_)
 exact Vk (s:={ s with heap:=h1 }) hh 2 (by decide) .none b1.extBut ⟨_,q1,rfl⟩ hQ
theorem Sq {I a:vG} {f:uY} {i n ep:Nat} {Q:uY->uZ->Prop} (hit:s.heap.get? I=some (Cz f i a n ep)) (h:Q (.ref I) s):wpAny (vS prog w) A (HQ (.ref I)) Q E s:=by
 have hT:s.TypeIs (.ref I) "set_iterator" := ⟨_,hit,rfl⟩;refine DM hT aF (wV aF hT gT ?_ (gU _));show wpAny _ _ (ret (.ref I)) _ _ s;exact uX ⟨_,rfl, "set_iterator",_,hT,Q2.lookup,h⟩
theorem lP (hh:A.handled=none) (I a tp:vG) (h1:a≠I) (h2:tp≠I) (o:Obj) (es:Array (Int×uY)) (ep c:Nat) (t:zN) (hd:o.data=.set es ep t) (hf:t.fits es.size=true) (pl:List Nat) (hl:pl.length=es.size) (hp:∀ j∈pl,j < es.size) :
   Walks prog w A I [I,a,tp] [I] es.size (fun i v=>(pl.map fun j=>(es[j]?.map (·.2)).getD .none)[i]? = some v) (fun i h=>h.get? I=some (Cz (.ref tp) i a es.size ep)/\h.get? a=some o/\h.get? tp=some { cls:=.type "tuple",data:=.seq ((pl.map fun j:Nat=>EO (j:Int) 0).toArray) c }) where
 sub:=fun b hb=>by simp at hb; simp [hb]
 frame:=fun _ _ _ st hk=>⟨hk I (by simp) _ st.1,hk a (by simp) _ st.2.1,hk tp (by simp) _ st.2.2⟩
 item:=fun i s Q E hi st hQ=>by
   have hi':i < pl.length:=by lia
   have hj:=hp pl[i] (BB hi'); refine nV (pl:=pl[i]) (hv:=es[pl[i]].1) (x:=es[pl[i]].2) st.1 st.2.1 hd hf st.2.2 (by simp [hi']) (by simp [hj]) fun h' q b=>?_;refine hQ _ h' s.toks ?_ ⟨q,b.extBut a _ h1 st.2.1,b.extBut tp _ h2 st.2.2⟩ fun b' o' hb e=>b.extBut b' o' (fun z=>hb (by simp [z])) e;simp [hi',hj]
 done:=fun s Q E st hQ=>uB hh st.1 st.2.1 hd hf st.2.2 (by simp [hl]) fun h' he=>hQ h' s.toks fun b o hb e=>he b o (fun z=>hb (by simp [z])) e
 self:=fun _ _ _ _ st hQ=>Sq st.1 hQ
theorem lN (hh:A.handled=none) (I a:vG) (h1:a≠I) (o:Obj) (es:Array (Int×uY)) (ep:Nat) (t:zN) (hd:o.data=.set es ep t) (hf:t.fits es.size=true) (hb:w.params.followText "set-order" = true) :
   Walks prog w A I [I,a] [I] es.size (fun i v=>((pickOrder (w.params.setOrder a ep) es).toList.map (·.2))[i]? = some v) (fun i h=>h.get? I=some (Cz (.int 0 0) i a es.size ep)/\h.get? a=some o) where
 sub:=fun b hb=>by simp at hb; simp [hb]
 frame:=fun _ _ _ st hk=>⟨hk I (by simp) _ st.1,hk a (by simp) _ st.2⟩
 item:=fun i s Q E hi st hQ=>by
   have hsz:(pickOrder (w.params.setOrder a ep) es).size=es.size:=by rw [<- xF,(Iw _ es).length_eq,xF]
   have hi':i < (pickOrder (w.params.setOrder a ep) es).size:=by lia
   refine aW (sl:=0) (nx:=0) (x:=(pickOrder (w.params.setOrder a ep) es)[i].2) st.1 st.2 hd hf (fun A E Q q=>Mz hb st.2 hd hf ?_) fun h' q b=>?_
   . rw [wX hi']; exact q
   refine hQ _ h' s.toks ?_ ⟨q,b.extBut a _ h1 st.2⟩ fun b' o' hb e=>b.extBut b' o' (fun z=>hb (by simp [z])) e;simp [hi']
 done:=fun s Q E st hQ=>by
   have hsz:(pickOrder (w.params.setOrder a ep) es).size=es.size:=by rw [<- xF,(Iw _ es).length_eq,xF]
   refine kJ (sl:=0) hh st.1 st.2 hd hf (fun A E Q q=>Mz hb st.2 hd hf ?_) fun h' he=>hQ h' s.toks fun b o hb e=>he b o (fun z=>hb (by simp [z])) e;rw [AO (by lia)]; exact q
 self:=fun _ _ _ _ st hQ=>Sq st.1 hQ
def Nb (xs:Array Nat):Nat->Nat
 | 0=>0
 | i+1=>xs.getD i 0+1
theorem Xm {xs:Array Nat} (hr:xs.toList.Pairwise (· < ·)):∀ {i:Nat},i<=xs.size->AH xs (Nb xs i)=i:=fun {i} hi=>by
 obtain ⟨h1,h2,h3⟩:=Fz xs (Nb xs i) hr;have ge:∀ k d,k < xs.size->xs.getD k d=xs.getD k 0:=fun k d hk=>by simp [DL,hk]
 rcases Nat.lt_trichotomy (AH xs (Nb xs i)) i with hl | hl | hl
 . have e:=h3 _ (vL _) (wG hl hi)
   cases i with
   | zero=>lia
   | succ i =>
     rw [ge _ _ (by lia)] at e; rw [show Nb xs (i+1)=xs.getD i 0+1 from rfl] at e hl; rcases EA (AH xs (xs.getD i 0+1)) i with z | z
     . have:=Bs hr (d:=0) z (by lia); lia
     . have z2:AH xs (xs.getD i 0+1)=i:=by lia
       rw [z2] at e; lia
 . exact hl
 . have e:=h2 i hl
   rw [ge _ _ (by lia)] at e;cases i with
   | zero=>exact absurd e (Nat.not_lt_zero _)
   | succ i=>rw [show Nb xs (i+1)=xs.getD i 0+1 from rfl] at e; have:=Bs hr (d:=0) (show i < i+1 by lia) (by lia); lia
theorem lO (hh:A.handled=none) (I a:vG) (h1:a≠I) (o:Obj) (es:Array (Int×uY)) (ep:Nat) (t:zN) (hd:o.data=.set es ep t) (hf:t.fits es.size=true) (hb:w.params.followText "set-order" = false) (hdr:(!t.plain&&decide (es.size>1))=false) (hl:t.led=true) (hr:t.place.toList.Pairwise (· < ·)) :
   Walks prog w A I [I,a] [I] es.size (fun i v=>(es.toList.map (·.2))[i]? = some v) (fun i h=>h.get? I=some (Cz (.int (Nb t.place i) 0) i a es.size ep)/\h.get? a=some o) where
 sub:=fun b hb=>by simp at hb; simp [hb]
 frame:=fun _ _ _ st hk=>⟨hk I (by simp) _ st.1,hk a (by simp) _ st.2⟩
 item:=fun i s Q E hi st hQ=>by
   have hsz:t.place.size=es.size:=by unfold SetTable.fits at hf; simp at hf; exact hf.1
   have hi':i < t.place.size:=by lia
   refine aW (sl:=Nb t.place i) (nx:=Nb t.place (i+1)) (x:=es[i].2) st.1 st.2 hd hf (fun A E Q q=>Qj hb st.2 hd hf hdr hl ?_) fun h' q b=>?_
   . rw [Xm hr (by lia),wX hi,wX hi']
     have:Nb t.place (i+1)=t.place[i]+1:=by unfold Nb; simp [DL,hi']
     rw [this] at q; exact q
   refine hQ _ h' s.toks ?_ ⟨q,b.extBut a _ h1 st.2⟩ fun b' o' hb e=>b.extBut b' o' (fun z=>hb (by simp [z])) e;simp [hi]
 done:=fun s Q E st hQ=>by
   have hsz:t.place.size=es.size:=by unfold SetTable.fits at hf; simp at hf; exact hf.1
   refine kJ (sl:=Nb t.place es.size) hh st.1 st.2 hd hf (fun A E Q q=>Qj hb st.2 hd hf hdr hl ?_) fun h' he=>hQ h' s.toks fun b o hb e=>he b o (fun z=>hb (by simp [z])) e;rw [Xm hr (by lia),AO (vL _)]; exact q
 self:=fun _ _ _ _ st hQ=>Sq st.1 hQ
end
end Sm
end
noncomputable section
namespace Sm
open PySem PySem.W PyProof.Rows
def Js (w:wD) (t:zN):Prop:=t.led = !(w.params.followText "set-order")/\t.dummies = #[]/\t.place.toList.Pairwise (· < ·)
theorem dS {es:Array (Int×uY)} {pl:List Nat} (h:pl.Perm (wS es.size)):(pl.map fun j=>(es[j]?.map (·.2)).getD .none).Perm (es.toList.map (·.2)):=by
 refine (h.map _).trans ?_;have:(wS es.size).map (fun j=>(es[j]?.map (·.2)).getD .none)=es.toList.map (·.2):=by
   apply List.ext_getElem
   . simp
   . intro i h1 h2
     simp at h1;simp [h1]
 rw [this]
noncomputable section
variable {prog:vU} {w:wD} {A:xD} {E:uY->uZ->Prop} {s:uZ}
theorem jV {a:vG} {o:Obj} {es:Array (Int×uY)} {ep:Nat} {t:zN} {Q:uY->uZ->Prop} (ho:s.heap.get? a=some o) (hex:o.ExactSet) (hd:o.data=.set es ep t) (hf:t.fits es.size=true) (ht:Js w t) (hz:es.size<=4096) (hh:A.handled=none)
   (hQ:∀ (h1:wT) (d1:Drawn) (I:vG) (fp:List vG) (ord:List uY) (St:Nat->wT->Prop),(∀ b o,s.heap.get? b=some o->h1.get? b=some o)->s.heap.get? I=none->(∀ b∈fp,b=a\/s.heap.get? b=none)->ord.Perm (es.toList.map (·.2)) ->
     Walks prog w A I fp [I] es.size (fun i v=>ord[i]? = some v) St->St 0 h1->Q (.ref I) { s with heap:=h1,drawn:=d1 }):wpAny (vS prog w) A (HQ (.ref a)) Q E s:=by
 have hT:s.TypeIs (.ref a) "set" := ⟨o,ho,hex.1⟩;have hlt:a < s.heap.objs.size:=vR ho;refine DM hT F.slot_set_iter (wV F.slot_set_iter hT dC ?_ (F.args_set_iter_1 _));unfold yA.«frozenset.__iter__» Builtin.Frozenset.slot0 GU Builtin.Frozenset.sizeOf setDrawn setsByText setEpoch;refine uW (uW (uX (uX ?_)));refine uW (uW (AI ho hd hf (uX ?_)));refine uW (uW (zM ho hd hf ?_));refine uW (uW (AD (uX (uX ?_))))
 show wpAny _ _ (if (!(w.params.followText "set-order")&&(!t.plain&&decide (es.size>1)))=true then _ else _) _ _ _;cases hb:w.params.followText "set-order" with
 | true =>
   refine s0 (fun h=>by cases h) fun _=>uW (uX ?_);refine uW (uW (zM ho hd hf (uX ?_))); refine uW (wH (uX ⟨_,rfl, "set_iterator",_,⟨_,vH _ rfl,rfl⟩,Q2.lookup,?_⟩)); exact hQ (s.heap.push (Cz (.int 0 0) 0 a es.size ep)) s.drawn s.heap.objs.size _ _ _ (fun b o e=>vD _ e) (xS (vL _)) (fun b hb=>by
     rcases vF.mp hb with rfl | hb
     . exact .inr (xS (vL _))
     . exact .inl (vQ.mp hb)) ((Iw _ es).map _) (lN hh _ a (wL hlt) o es ep t hd hf hb) ⟨vH _ rfl,vD _ ho⟩
 | false =>
   have hl:t.led=true:=by rw [ht.1,hb]; rfl
   cases hp:(!t.plain&&decide (es.size>1)) with
   | false =>
     refine s0 (fun h=>by cases h) fun _=>uW (uX ?_);refine uW (uW (zM ho hd hf (uX ?_))); refine uW (wH (uX ⟨_,rfl, "set_iterator",_,⟨_,vH _ rfl,rfl⟩,Q2.lookup,?_⟩)); exact hQ (s.heap.push (Cz (.int 0 0) 0 a es.size ep)) s.drawn s.heap.objs.size _ _ _ (fun b o e=>vD _ e) (xS (vL _)) (fun b hb=>by
       rcases vF.mp hb with rfl | hb
       . exact .inr (xS (vL _))
       . exact .inl (vQ.mp hb)) (yM _) (lO hh _ a (wL hlt) o es ep t hd hf hb hp hl ht.2.2) ⟨vH _ rfl,vD _ ho⟩
   | true =>
     refine s0 (fun _=>?_) fun h=>absurd rfl h;refine uW (Gj _ _ _ _ (by simp) fun pl d hpl=>?_);unfold newTuple; have hplen:pl.length=es.size:=by rw [hpl.length_eq]; simp
     refine uW (wH ?_ (by show (FT _).size<=_; rw [j6]; simp; lia));refine uW (uW (zM (s:={ s with heap:=s.heap.push _,drawn:=d }) (vD _ ho) hd hf (uX ?_))); refine uW (wH (uX ⟨_,rfl, "set_iterator",_,⟨_,vH _ rfl,rfl⟩,Q2.lookup,?_⟩)); have hsz:∀ o:Obj,(s.heap.push o).objs.size=s.heap.objs.size+1:=fun o=>CF ..;refine hQ _ d _ [(s.heap.push { cls:=.type "tuple",data:=.seq ((pl.map fun j:Nat=>EO (j:Int) 0).toArray) 0 }).objs.size,a,s.heap.objs.size] _ _ (fun b o e=>vD _ (vD _ e)) (xS (by rw [hsz]; lia)) (fun b hb=>?_) (dS hpl)
       (lP hh _ a s.heap.objs.size (by rw [hsz]; exact wL (CT hlt)) (by rw [hsz]; exact wL (BK _)) o es ep 0 t hd hf pl hplen (fun j hj=>yQ.mp (hpl.mem_iff.mp hj))) ⟨vH _ rfl,vD _ (vD _ ho),vD _ (vH _ rfl)⟩
     rcases vF.mp hb with rfl | hb
     . exact .inr (xS (by rw [hsz]; lia))
     rcases vF.mp hb with rfl | hb
     . exact .inl rfl
     . rw [vQ.mp hb]; exact .inr (xS (vL _))
end
end Sm
end
noncomputable section
namespace Sm
open PySem PySem.W PyProof.Rows
noncomputable section
variable {prog:vU} {w:wD} {A:xD} {E:uY->uZ->Prop} {s:uZ}
theorem kA {r:vG} {Q:Bool->uZ->Prop} (hT:s.TypeIs (.ref r) "set") (h:Q false s):wpAny (vS prog w) A (FE (.ref r)) Q E s:=by
 unfold FE;refine uW (c9 hT PySem.F.slot_set_len.lookup ?_);generalize hid:("set.__len__" : String)=z
 wp_delta
 rw [show splitId z=some ("set", "__len__") from by subst hid; decide +kernel];subst hid;refine uW (AC (T := "set") (b:=true) hT (by rw [AA]; kernel_rfl) ?_);refine s0 (fun hab=>absurd hab (by decide)) (fun _=>s0 (fun _=>?_) (fun hab=>absurd (by decide +kernel) hab));exact uW (BD hT (uX h))
theorem Kg {a:vG} {o:Obj} {es:Array (Int×uY)} {ep:Nat} {t:zN} {Q:List uY->uZ->Prop} (ho:s.heap.get? a=some o) (hex:o.ExactSet) (hd:o.data=.set es ep t) (hf:t.fits es.size=true) (ht:Js w t) (hz:es.size<=4096) (hh:A.handled=none)
   (hQ:∀ (h1:wT) (d1:Drawn) tk (ord:List uY),(∀ b o,s.heap.get? b=some o->h1.get? b=some o)->ord.Perm (es.toList.map (·.2))->Q ord { s with heap:=h1,drawn:=d1,toks:=tk }):wpAny (vS prog w) A (collect (.ref a)) Q E s:=by
 have hlt:a < s.heap.objs.size:=vR ho;have hzl:es.size<=sizeLine:=by rw [j6]; omega
 have hnS:s.heap.get? s.heap.objs.size=none:=xS (vL _);let hp:=s.heap.push { cls:=.type "list",data:=.seq ([]:List uY).toArray };have hS:hp.get? s.heap.objs.size=some { cls:=.type "list",data:=.seq #[] 0 }:=vH _ rfl;have ho':hp.get? a=some o:=vD _ ho;unfold collect;refine uW (IN (yV F.entry_proto_collect ?_));rw [yB F.plain_proto_collect _];refine uW (wH (uX ⟨AL F.plain_list_iadd _,yV F.entry_list_iadd ?_⟩));rw [yB F.plain_list_iadd _]
 show wpAny _ _ (FF (.ref s.heap.objs.size) (.ref a) (.ref s.heap.objs.size)) _ _ { s with heap:=hp };unfold FF;have hT:HH { s with heap:=hp } (.ref a) "set" := ⟨o,ho',hex.1⟩;refine uW (BD hT ?_);have h1:FY (.ref s.heap.objs.size) (.ref a)=false:=by simp [FY]; exact m8 hlt
 rw [h1,show (i8 "set" == i8 "list")=false from by decide,show (i8 "set" == i8 "tuple")=false from by decide];simp only [FG,wU,if_false];refine uW (jV (s:={ s with heap:=hp }) ho' hex hd hf ht hz hh fun h1 d1 I fp ord St hk hI hfp hord W st=>?_);refine uW (wZ (kA (s:={ s with heap:=h1,drawn:=d1 }) ⟨o,hk _ _ ho',hex.1⟩ ?_));have hS1:=hk _ _ hS;have hSf:s.heap.objs.size∉fp:=fun hb=>by
   rcases hfp _ hb with e | e
   . exact absurd (show s.heap.objs.size=a from e) (m8 hlt)
   . rw [show hp.get? s.heap.objs.size=none from e] at hS; cases hS
 have key : ∀ (h : wT) (c : Nat), St 0 h -> (∀ b o, s.heap.get? b = some o -> h.get? b = some o) -> h.get? s.heap.objs.size = some { cls := .type "list", data := .seq #[] c } ->
     BI (vS prog w) A (.builtin "list.extend.loop" ⟨[.ref s.heap.objs.size,.ref I,.ref s.heap.objs.size],[]⟩) (wants (fun v s'=>v=.ref s.heap.objs.size/\∃ h1 d1 tk acc c',s'={ s with heap:=h1,drawn:=d1,toks:=tk }/\(∀ b o,s.heap.get? b=some o->h1.get? b=some o)/\h1.get? s.heap.objs.size=some { cls:=.type "list",dict:=none,data:=.seq acc c',slots := #[] }/\ItemsOf (fun i v=>ord[i]? = some v) acc es.size) E) { s with heap:=h,drawn:=d1 }:=by
   intro h c hst hk2 hc; refine codeAny_extend_loopS W.toS hzl s.heap.objs.size hSf (.ref s.heap.objs.size) es.size 0 _ #[] c rfl (zL _) hst hc (ItemsOf.nil _) fun s' acc' c' hm hS' hacc=>?_;rw [Moved.eq_with hm]; refine ⟨rfl,s'.heap,d1,s'.toks,acc',c',rfl,fun b o e=>hm.heap b o (fun hmem=>?_) (hk2 b o e),hS',hacc⟩;rcases vF.mp hmem with e' | hmem
   . rw [e',hnS] at e; cases e
   . have hI':hp.get? I=none:=hI
     rw [vQ.mp hmem] at e; rw [show hp.get? I=some o from vD _ e] at hI'; cases hI'
 have fin : ∀ (r : Result) (s' : uZ), wants (fun v s' => v = .ref s.heap.objs.size /\ ∃ h1 d1 tk acc c', s' = { s with heap := h1, drawn := d1, toks := tk } /\ (∀ b o, s.heap.get? b = some o -> h1.get? b = some o) /\ h1.get? s.heap.objs.size = some { cls := .type "list", dict := none, data := .seq acc c', slots := #[] } /\ ItemsOf (fun i v => ord[i]? = some v) acc es.size) E r s' ->
     wants (fun v s'=>wpAny (vS prog w) A (match v with | .ref a=>load a>>=fun o=>(match o.data with | .seq xs _=>pure xs.toList | _=>unsupported "internal:collect") | _=>unsupported "internal:collect") Q E s') E r s':=fun r s' h=>by
   cases r with
   | error e=>exact h
   | ok fl =>
     cases fl with
     | ret v =>
       obtain ⟨rfl,h2,d2,tk,acc,c',rfl,hk2,hS2,hacc⟩:=h; refine uW (IP hS2 (uX ?_)); have:acc.toList=ord:=by
         have hol:ord.length=es.size:=by rw [hord.length_eq]; simp
         apply p7;intro j;by_cases hj:j < es.size
         . have hja:j < acc.size:=by rw [hacc.1]; exact hj
           rw [hacc.2 j acc[j] (by simp [hja])]; simp [hja]
         . rw [yI (by simpa [hacc.1] using yX.mp hj),yI (by omega)]
       rw [this]; exact hQ h2 d2 tk ord hk2 hord
     | _=>exact h
 refine s0 (fun _=>?_) fun _=>uX ⟨AL F.plain_extend_loop _,o0 (key h1 0 st (fun b o e=>hk b o (vD _ e)) hS1) fin⟩;refine uW (yN (uW ?_));show wpAny _ _ (updateSeq s.heap.objs.size (·.push .none)>>=fun _=>updateSeq s.heap.objs.size (·.pop)) _ _ _;refine uW (wpAny_updateSeq (s:={ s with heap:=h1,drawn:=d1 }) hS1 rfl ?_);have u2:=yJ (DZ (·.push yP)) hS1 rfl;refine wpAny_updateSeq (hz:=by seq_fits) u2 rfl ?_;have u3:=yJ (DZ (·.pop)) u2 rfl;have oth:∀ b o,b≠s.heap.objs.size->h1.get? b=some o->((h1.update s.heap.objs.size (DZ (·.push yP))).update s.heap.objs.size (DZ (·.pop))).get? b=some o:=fun b o hb e=>by rw [DV _ _ (Ne.symm hb),DV _ _ (Ne.symm hb)]; exact e
 refine uX ⟨AL F.plain_extend_loop _,o0 (key _ _ (W.frame 0 _ _ st fun b hb o e=>oth b o (fun z=>hSf (z▸hb)) e) (fun b o e=>oth b o (fun z=>?_) (hk b o (vD _ e))) u3) fin⟩;rw [z,hnS] at e; cases e
end
end Sm
end
noncomputable section
namespace Sm
open PySem PySem.W PyProof.Rows
theorem dM {t:zN} {hf:Nat->Int} {h:Int} (hd:t.dummies = #[]):∀ (n:Nat) (p:SetTable.Probe) {j:Nat} {dm:Option Nat},p.dummy=none->HB t hf h n p=some (.empty j dm)->dm=none/\t.slot j=.empty:=by
 intro iN; induction iN with
 | zero=>intro _ _ _ _ e; cases e
 | succ n ih =>
   intro p j dm hp e; have ha:(t.advance p).dummy=none:=by unfold SetTable.advance; split <;> exact hp
   unfold HB at e;split at e
   . rename_i hs
     cases e; exact ⟨hp,hs⟩
   . rename_i hs
     exfalso;unfold SetTable.slot at hs; rw [hd,bF] at hs; simp only [wU,if_false] at hs;split at hs <;> cases hs
   . split at e
     . cases e
     . exact ih _ ha e
theorem Bz {w:wD} {t:zN} (h:Js w t) (n:Nat):Js w (t.standIn n):=⟨h.1,rfl,by
 show (Array.range n).toList.Pairwise (· < ·);rw [Array.toList_range]; exact DR⟩
theorem gA {w:wD} {t:zN} (T:Js w t) (es:Array (Int×uY)) (h:Int) (x:uY):Js w (layNew t es h x).2.1:=by
 unfold layNew;split
 . rename_i sl wd hfr
   have hp:Js w (t.put sl).1:=by
     unfold SetTable.freeSlot SetTable.probe at hfr;split at hfr
     . rename_i j dm e
       obtain ⟨rfl,hs⟩:=dM T.2.1 _ _ rfl e; cases hfr; refine ⟨T.1,?_,Ps T.2.2 fun hj=>?_⟩
       . show (if SetTable.has t.dummies _ then _ else t.dummies) = #[]
         rw [T.2.1,bF]; rfl
       . obtain ⟨i,hi⟩:=eE hj
         rw [dB T.2.2 (show t.place[i]? = some j from hi)] at hs; cases hs
     . cases hfr
   show Js w ((t.put sl).1.orStandIn _);unfold SetTable.orStandIn;split
   . exact hp
   . exact Bz hp _
 . exact Bz T _
theorem Xz {w:wD} {t:zN} (T:Js w t) (es:Array (Int×uY)) (n:Nat):Js w (GW t es n).2.1:=by
 unfold GW;split
 . rename_i t' ord e
   unfold SetTable.relaid SetTable.laid at e; obtain ⟨ow,e1,e2⟩:=AF.mp e; cases e2; dsimp only;split
   . refine ⟨T.1,rfl,?_⟩
     have:=jQ (SetTable.sizeAbove n - 1) ow; unfold Yz at this; exact FV.mpr this
   . exact Bz T _
 . exact Bz T _
noncomputable section
variable {prog:vU} {w:wD} {K:Type} [DecidableEq K] {knd:KeyKind prog w K} {A:xD} {E:uY->uZ->Prop} {s:uZ}
def SetT (knd:KeyKind prog w K) (h:wT) (a:vG) (L:List (Int×uY)):Prop :=
 ∃ o es ep t,h.get? a=some o/\o.ExactSet/\o.data=.set es ep t/\es.toList.Perm L/\ElemsOf knd L/\L.length < CQ/\t.fits es.size=true/\Js w t
theorem SetT.store {h:wT} {a:vG} {o:Obj} {es:Array (Int×uY)} {ep:Nat} {t:zN} {L:List (Int×uY)} (ho:h.get? a=some o) (hex:o.ExactSet) (hd:o.data=.set es ep t) {es':Array (Int×uY)} {t':zN}
   (hp:es'.toList.Perm L) (hel:ElemsOf knd L) (hb:L.length < CQ) (hf:t'.fits es'.size=true) (T:Js w t'):∃ o',(h.update a (HX es' t')).get? a=some o'/\o'.ExactSet/\o'.data=.set es' (ep+1) t'/\SetT knd (h.update a (HX es' t')) a L:=by
 have hg:=yJ (HX es' t') ho (by rw [putSet_of es' t' hd]; rfl);rw [putSet_of es' t' hd] at hg;exact ⟨_,hg,hex,rfl,_,es',ep+1,t',hg,hex,rfl,hp,hel,hb,hf,T⟩
theorem addST {a:vG} {L:List (Int×uY)} {k:K} {x:uY} {Q:Bool->uZ->Prop} (hkey:knd.is k x=true) (hsc:x.scannable=true) (hS:SetT knd s.heap a L) (hroom:L.length+1 < CQ)
   (hQ:∀ h' b,zT a s.heap h'->SetT knd h' a (if L.any (fun e=>knd.is k e.2) then L else L++[(knd.hash k,x)])->Q b { s with heap:=h' }):wpAny (vS prog w) A (setAddHashed a x (knd.hash k)) Q E s:=by
 obtain ⟨o,es,ep,t,ho,hex,hd,hp,hel,hb,hf,T⟩:=hS;have hel0:ElemsOf knd es.toList:=hel.perm hp;have hsz:es.size=L.length:=by rw [<- hp.length_eq,xF]
 have hany:L.any (fun e=>knd.is k e.2)=es.toList.any (fun e=>knd.is k e.2):=by
   rw [zJ,BC,BC]; exact ⟨fun hZ0=>by obtain ⟨e,h1,h2⟩:=hZ0; exact ⟨e,hp.mem_iff.mpr h1,h2⟩,fun hZ0=>by obtain ⟨e,h1,h2⟩:=hZ0; exact ⟨e,hp.mem_iff.mp h1,h2⟩⟩
 unfold setAddHashed setAddHashedIn;refine wZ (uW (zM ho hd hf ?_));dsimp only;rw [byScan_of hsc (by lia) hel0,if_pos rfl];unfold setAddByScan;refine uW (uW (yN (uW (wpAny_setScan_of hkey ho hd hf hel0 ?_))));cases hr:List.findIdx? (fun e=>knd.is k e.2) es.toList with
 | some j =>
   obtain ⟨hj,hpj,_⟩:=FR.mp hr; have:L.any (fun e=>knd.is k e.2)=true:=by rw [hany,BC]; exact ⟨_,BB hj,hpj⟩
   refine uX (uX ?_); have q:=hQ s.heap false (HY a s.heap); rw [this,if_pos rfl] at q; exact q ⟨o,es,ep,t,ho,hex,hd,hp,hel,hb,hf,T⟩
 | none =>
   have:L.any (fun e=>knd.is k e.2)=false:=by
     rw [hany,List.any_eq_false]; intro e he; rw [List.findIdx?_eq_none_iff.mp hr e he]; decide
   rw [this] at hQ; simp only [wU,if_false] at hQ; have gw:∀ (b:Bool) {s₁:uZ} {Q':Unit->uZ->Prop},Q' () s₁->wpAny (vS prog w) A (match b with | true=>rule "set.scan.the-table-gave-way" | false=>pure ()) Q' E s₁ :=
     fun b s₁ Q' hq=>by cases b; exact uX hq; exact yN hq
   have p1:=layNew_perm t es (knd.hash k) x; have f1:=layNew_fits t es (knd.hash k) x; have T1:=gA T es (knd.hash k) x;generalize layNew t es (knd.hash k) x=R at p1 f1 T1 ⊢;obtain ⟨es1,t1,wd,gv⟩:=R; dsimp only at p1 f1 T1 ⊢;rw [Array.toList_push] at p1; have p2:es1.toList.Perm (L++[(knd.hash k,x)]):=p1.trans (hp.append_right _); have el2:ElemsOf knd (L++[(knd.hash k,x)]):=hel.push hkey hsc; have b2:(L++[(knd.hash k,x)]).length < CQ:=by simpa using hroom
   have z1:es1.size < CQ:=by rw [<- xF,p2.length_eq]; exact b2
   refine uW (gw _ ?_); have tail : ∀ t2 : zN, t2.fits es1.size = true -> Js w t2 -> wpAny (vS prog w) A (do
       storeSet a es1 t2
       if (!wd && t2.tooFull) = true then do
           (match (GW t2 es1 (n0 es1.size)).2.2 with | true=>rule "set.scan.the-table-gave-way" | false=>pure ())
           storeSet a (GW t2 es1 (n0 es1.size)).1 (GW t2 es1 (n0 es1.size)).2.1
           pure (some true)
         else pure (some true)) (fun r s'=>∃ h',r=some true/\s'={ s with heap:=h' }/\zT a s.heap h'/\SetT knd h' a (L++[(knd.hash k,x)])) E s:=fun t2 f2 T2=>by
     refine uW (wpAny_storeSet_of ho hd ?_ (fits_of_scanBound z1)); obtain ⟨o1,g1,x1,d1,S1⟩:=SetT.store (knd:=knd) ho hex hd p2 el2 b2 f2 T2; have sb1:=zA s.heap a (HX es1 t2);split
     . have p3:=relayAll_perm t2 es1 (n0 es1.size)
       have f3:=relayAll_fits t2 es1 (n0 es1.size); have T3:=Xz T2 es1 (n0 es1.size);generalize GW t2 es1 (n0 es1.size)=R at p3 f3 T3 ⊢;obtain ⟨es3,t3,gv3⟩:=R; dsimp only at p3 f3 T3 ⊢;have z3:es3.size < CQ:=by rw [<- xF,p3.length_eq,xF]; exact z1
       refine uW (gw _ (uW (wpAny_storeSet_of g1 d1 ?_ (fits_of_scanBound z3)))); obtain ⟨_,_,_,_,S3⟩:=SetT.store (knd:=knd) g1 x1 d1 (p3.trans p2) el2 b2 f3 T3; exact uX ⟨_,rfl,rfl,sb1.trans (zA _ a _),S3⟩
     . exact uX ⟨_,rfl,rfl,sb1,S1⟩
   have close:∀ (r:Option Bool) (s':uZ),(∃ h',r=some true/\s'={ s with heap:=h' }/\zT a s.heap h'/\SetT knd h' a (L++[(knd.hash k,x)]))->wpAny (vS prog w) A (match r with | some added=>pure added | none=>setAddHashedIn a x (knd.hash k) 99999) Q E s':=fun r s' hZ2=>by
     obtain ⟨h',e1,e2,sb,S'⟩:=hZ2; subst e1 e2; exact uX (hQ h' true sb S')
   split
   . refine uW ?_
     rw [hashByValue_scannable 8 hsc]; refine uX (xT (tail _ ?_ ?_) close fun _ _ e=>e)
     . split
       . exact f1
       . exact SetTable.fits_plain_off f1
     . split
       . exact T1
       . exact T1
   . exact uW (uX (xT (tail _ f1 T1) close fun _ _ e=>e))
end
end Sm
end
noncomputable section
namespace Sm
open PySem PySem.W PyProof.Rows
noncomputable section
variable {prog:vU} {w:wD} {K:Type} [DecidableEq K]
noncomputable def IsKs (knd:KeyKind prog w K):List uY->List K->Prop
 | [],ks=>ks=[]
 | v::vs,ks=>∃ k r,ks=k::r/\knd.is k v=true/\IsKs knd vs r
noncomputable def Cy (l:List K) (k:K):List K:=if k∈l then l else l++[k]
noncomputable def Tg (ks:Nat->K):Nat->List K
 | 0=>[]
 | i+1=>Cy (Tg ks i) (ks i)
theorem Vx (ks:Nat->K):∀ i,(Tg ks i).length<=i:=by
 intro iN; induction iN with
 | zero=>skip; exact vL _
 | succ i ih =>
   skip
   have:=ih; unfold Tg Cy;split
   . lia
   . simp; lia
theorem IsKs.len {knd:KeyKind prog w K}:∀ {vs:List uY} {ks:List K},IsKs knd vs ks->vs.length=ks.length
 | [],_,h=>by cases (show _=_ from h); rfl
 | v::vs,_,h=>by obtain ⟨k,r,rfl,_,h⟩:=h; simp [h.len]
theorem IsKs.push {knd:KeyKind prog w K} {v:uY} {k:K} (hv:knd.is k v=true):∀ {vs:List uY} {ks:List K},IsKs knd vs ks->IsKs knd (vs++[v]) (ks++[k])
 | [],_,h=>by cases (show _=_ from h); exact ⟨k,[],rfl,hv,rfl⟩
 | u::vs,_,h=>by obtain ⟨k',r,rfl,h1,h⟩:=h; exact ⟨k',_,rfl,h1,h.push hv⟩
theorem IsKs.any {knd:KeyKind prog w K} {k:K}:∀ {vs:List uY} {ks:List K},IsKs knd vs ks->vs.any (fun v=>knd.is k v)=decide (k∈ks)
 | [],_,h=>by cases (show _=_ from h); rfl
 | u::vs,_,h=>by
   obtain ⟨k',r,rfl,h1,h⟩:=h; rw [CV,h.any];by_cases e:k=k'
   . subst e; rw [h1]; simp
   . have : knd.is k u = false := by
       cases c:knd.is k u with
       | false=>rfl
       | true=>exact absurd (knd.inj u k k' c h1) e
     rw [this]; simp [e]
theorem IsKs.perm {knd:KeyKind prog w K} {us vs:List uY} (p:us.Perm vs):∀ {ks:List K},IsKs knd vs ks->∃ ks',ks'.Perm ks/\IsKs knd us ks':=by
 induction p with
 | nil=>exact fun h=>⟨_,yM _,h⟩
 | cons x _ ih =>
   intro ks h; obtain ⟨k,r,rfl,h1,h⟩:=h; obtain ⟨r',p,h'⟩:=ih h; exact ⟨k::r',p.cons k,k,r',rfl,h1,h'⟩
 | swap x y l =>
   intro ks h; obtain ⟨k,r,rfl,h1,k2,r2,rfl,h2,h⟩:=h; exact ⟨k2::k::r2,DK ..,k2,_,rfl,h2,k,_,rfl,h1,h⟩
 | trans _ _ ih1 ih2 =>
   intro ks h; obtain ⟨k1,p1,h1⟩:=ih2 h; obtain ⟨k2,p2,h2⟩:=ih1 h1; exact ⟨k2,p2.trans p1,h2⟩
def SetK (knd:KeyKind prog w K) (h:wT) (a:vG) (ks:List K):Prop:=∃ L,SetT knd h a L/\IsKs knd (L.map (·.2)) ks
theorem SetK.at {knd:KeyKind prog w K} {h h':wT} {a:vG} {ks:List K} (S:SetK knd h a ks) (e:∀ o,h.get? a=some o->h'.get? a=some o):SetK knd h' a ks:=by
 obtain ⟨L,⟨o,es,ep,t,ho,r⟩,k⟩:=S;exact ⟨L,⟨o,es,ep,t,e _ ho,r⟩,k⟩
theorem addK' {knd:KeyKind prog w K} {A:xD} {E:uY->uZ->Prop} {s:uZ} {a:vG} {ks:List K} {k:K} {x:uY} {Q:Bool->uZ->Prop} (hkey:knd.is k x=true) (hsc:x.scannable=true) (hS:SetK knd s.heap a ks) (hroom:ks.length+1 < CQ)
   (hQ:∀ h' b,zT a s.heap h'->SetK knd h' a (Cy ks k)->Q b { s with heap:=h' }):wpAny (vS prog w) A (setAddHashed a x (knd.hash k)) Q E s:=by
 obtain ⟨L,hT,hK⟩:=hS;have hl:L.length=ks.length:=by rw [<- hK.len,vA]
 refine addST hkey hsc hT (by lia) fun h' b sb hT'=>hQ h' b sb ⟨_,hT',?_⟩;have:L.any (fun e=>knd.is k e.2)=decide (k∈ks):=by rw [<- hK.any,DU]; rfl
 rw [this];unfold Cy;by_cases c:k∈ks
 . simp only [c,decide_true,if_true]; exact hK
 . simp only [c,decide_false,wU,if_false,wI]; exact hK.push hkey
end
noncomputable section
variable {prog:vU} {w:wD} {K:Type} [DecidableEq K] {knd:KeyKind prog w K} {A:xD} {R:Result->uZ->Prop} {E:uY->uZ->Prop} {I:vG} {fp wr:List vG} {G:Array JK->Array JK->Prop} {n:Nat} {P:Nat->uY->Prop} {St:Nat->uZ->Prop} {s:uZ}
theorem loopG (W:WalksS prog w A.in1 I fp wr G n P St) (S:vG) (hSf:S∉fp) (ks:Nat->K) (hval:∀ i v,P i v->knd.is (ks i) v=true/\v.scannable=true) (hb:n+1 < CQ) :
   ∀ (m i:Nat) (s:uZ),n - i=m->i<=n->St i s->SetK knd s.heap S (Tg ks i)->(∀ s',Moved (S::wr) G s s'->SetK knd s'.heap S (Tg ks n)->R (.ok (.ret .none)) s') ->
     BI (vS prog w) A (.builtin "set.update.loop" ⟨[.ref S,.ref I],[]⟩) R s:=by
 intro iN; induction iN with
 | zero =>
   intro i s hk hi hst hS hR; have hin:i=n:=by lia
   subst hin; refine yV F.entry_set_update_loop ?_; rw [yB F.plain_set_update_loop _]; show wpAny _ A.in1 (pyNext (.ref I)>>=_) _ _ s;refine uW (W.done s _ _ hst fun s' hm=>?_);show wpAny _ A.in1 (ret yP) _ _ s';exact uX (hR s' (hm.mono fun b hb=>xL _ hb) (hS.at fun o e=>hm.heap S o (fun h=>hSf (W.sub _ h)) e))
 | succ m ih =>
   intro i s hk hi hst hS hR; refine yV F.entry_set_update_loop ?_; rw [yB F.plain_set_update_loop _]; show wpAny _ A.in1 (pyNext (.ref I)>>=_) _ _ s;refine uW (W.item i s _ _ (by lia) hst fun v s' hP hst' hm=>?_);obtain ⟨hv,hsc⟩:=hval i v hP; have hS':=hS.at fun o e=>hm.heap S o (fun h=>hSf (W.sub _ h)) e;show wpAny _ A.in1 (holding [v] (setAdd S v)>>=_) _ _ s';unfold setAdd; refine uW (wZ (wZ (uW (knd.pyHash hv ?_)))); refine addK' (s:={ s' with toks:=s'.toks+1 }) hv hsc hS' (by have:=Vx ks i; lia) fun h' b hsb hS2=>?_
   have sub:∀ b∈wr,b∈S::wr:=fun b hb=>xL _ hb;refine uX ⟨AL F.plain_set_update_loop _,ih (i+1) _ (by lia) (by lia) (W.frame _ s' _ _ hst' (AK _) fun b hb o e=>?_) hS2 fun s'' hm'' hS''=>?_⟩
   . rw [hsb.2 b fun h:b=S=>hSf (h▸hb)]; exact e
   . refine hR s'' (Moved.trans W.gtrans ((hm.mono sub).then_heap (AK _) fun b o hb e=>?_) hm'') hS''
     rw [hsb.2 b fun h:b=S=>hb (h▸xK)]; exact e
abbrev Pg (w:wD):Obj:={ cls:=.type "set",dict:=none,data:=.set #[] 0 (.fresh 0 0 (!(w.params.followText "set-order"))) }
theorem jF (a:uY) {Q₁:uY->uZ->Prop} (h:Q₁ (.ref s.heap.objs.size) { s with heap:=s.heap.push (Pg w) }):BI (vS prog w) A (.call (.builtin "set.__new__") ⟨[.type "set",a],[]⟩) (wants Q₁ E) s:=by
 refine IF (uW (i6 (F.newCall_set_1 a) (uX ⟨AL F.plain_set_new _,yV F.entry_set_new ?_⟩)));rw [yB F.plain_set_new _];unfold yA.«set.__new__» Builtin.Frozenset.newClass;have hsub:=sub_set_self;obtain ⟨hp,g,d,tk,os⟩:=s
 wp_walk
 refine AD (uX ?_);dsimp only;simp only [newObj];exact uW (wpAny_alloc (uX (uX h)))
theorem gW {h:wT} {a:vG} (hg:h.get? a=some (Pg w)):SetK knd h a [] :=
 ⟨[],⟨_,#[],0,_,hg,⟨rfl,rfl,rfl⟩,rfl,List.Perm.nil,(fun e he=>nomatch he),by decide,rfl,rfl,rfl,HN⟩,rfl⟩
theorem Rl {l:vG} {items:Array uY} {ks:Nat->K} {Q:uY->uZ->Prop} (hh:A.handled=none) (hl:s.heap.IsList l items) (hk:∀ i v,items[i]? = some v->knd.is (ks i) v=true/\v.scannable=true) (hn:items.size<=3000)
   (h:∀ (s':uZ),s'.gens=s.gens->s'.drawn=s.drawn->s'.os=s.os->(∀ b o,s.heap.get? b=some o->s'.heap.get? b=some o)->SetK knd s'.heap s.heap.objs.size (Tg ks items.size)->Q (.ref s.heap.objs.size) s') :
   wpAny (vS prog w) A (call (.type "set") [.ref l]) Q E s:=by
 obtain ⟨c,tl,hmro⟩:=F.called_set.mro;have hmade:=F.called_set.made;have hsub:=F.called_set.sub;refine GI (IF ?_);show wpAny _ _ (callAny (.type "set") _) _ _ _;refine uX ⟨CG _ (by decide +kernel),yV F.entry_type_call ?_⟩;rw [Around.under_plain (weight_type_call_type "set" [.ref l] []) rfl];have h1:=F.called_set.notType;have h2:=F.called_set.canCreate;have hct:=F.typeCall_set_1 (.ref l)
 repeat (any_goals (first | assumption | wp_step))
 refine o0 (jF (.ref l) (E:=E) (Q₁:=fun obj s₁=>obj=.ref s.heap.objs.size/\s₁={ s with heap:=s.heap.push (Pg w) }) ⟨rfl,rfl⟩) fun r s₁ hr=>?_;cases r with
 | error e=>exact hr
 | ok fl =>
   cases fl with
   | ret obj =>
     obtain ⟨rfl,rfl⟩:=hr; have hS:(s.heap.push (Pg w)).get? s.heap.objs.size=some (Pg w):=vH _ rfl; have hT:HH { s with heap:=s.heap.push (Pg w) } (.ref s.heap.objs.size) "set" := ⟨_,hS,rfl⟩; have hli:=F.called_set.init.lookup; have hbi:=F.called_set.init.bind (.ref s.heap.objs.size)
     repeat (any_goals (first | assumption | wp_step))
     refine o0 (BY (R:=wants (fun r s₂=>r=.none/\s₂.gens=s.gens/\s₂.drawn=s.drawn/\s₂.os=s.os/\(∀ b o,s.heap.get? b=some o->s₂.heap.get? b=some o)/\SetK knd s₂.heap s.heap.objs.size (Tg ks items.size)) E)
       F.called_set.init.plain F.entry_set_init (check_set_init_1 hT ?_)) fun r₂ s₂ hr₂=>?_
     . obtain ⟨ol,hol,hcl,nl,hdl⟩:=hl
       obtain ⟨ocls,odict,odata,oslots⟩:=ol; simp only at hcl hdl; subst hcl hdl; have hol':(s.heap.push (Pg w)).get? l=some { cls:=.type "list",dict:=odict,data:=.seq items nl,slots:=oslots }:=vD _ hol; have hsls:=F.sub_list_set; have hslf:=F.sub_list_frozenset; have hne:(i8 "list" == i8 "dict")=false:=by decide
       have hl1:(s.heap.push (Pg w)).IsList l items:=⟨_,hol',rfl,nl,rfl⟩; unfold yA.«set.__init__» noKeywords Builtin.Frozenset.updateFrom;generalize hPI:HQ=PI
       wp_walk
       subst hPI; refine DP hl1 (uW (IN ?_)); have hlS:l < s.heap.objs.size:=vR hol; have hh3:A.in1.in1.in1.handled=none:=by simp [hh]
       have hneI:l≠(s.heap.push (Pg w)).objs.size:=by rw [CF]; exact wL (CT hlS)
       have hSf:s.heap.objs.size∉[(s.heap.push (Pg w)).objs.size,l]:=by
         rw [CF]; simp only [vF,BA,or_false,not_or];exact ⟨wL (BK _),m8 hlS⟩
       refine loopG ((Walks.list hh3 _ l hneI items).toS) s.heap.objs.size hSf ks hk (by show _ < 4096; lia) (items.size - 0) 0 _ (by lia) (zL _) ⟨⟨_,vH _ rfl,rfl,rfl⟩,(hl1.push _)⟩ (gW (vD _ hS)) fun s' hm hS'=>?_;show wpAny _ _ _ _ _ _;refine uX ?_; show wpAny _ _ (ret yP) _ _ _;refine uX ⟨rfl,hm.gens,hm.drawn,hm.os,fun b o e=>hm.heap b o (fun hb=>?_) (vD _ (vD _ e)),hS'⟩;have hlt:=vR e; rcases vF.mp hb with e' | hb
       . rw [e'] at hlt; exact zU _ hlt
       . rw [vQ.mp hb,CF] at hlt; exact zU _ (Nat.lt_of_succ_lt hlt)
     . cases r₂ with
       | error e=>exact hr₂
       | ok fl₂ =>
         cases fl₂ with
         | ret r =>
           obtain ⟨rfl,g1,g2,g3,g4,hS'⟩:=hr₂
           repeat (any_goals (first | assumption | wp_step))
           exact h _ g1 g2 g3 g4 hS'
         | _=>exact hr₂.elim
   | _=>exact hr.elim
end
end Sm
end
noncomputable section
namespace Sm
open PySem PySem.Spec PyProof.Rows PySem.W L2
noncomputable def Ak {K:Type} [DecidableEq K] (l:List K):List K:=l.foldl Cy []
theorem eD {K:Type} [DecidableEq K] (ks:Nat->K):∀ i,Tg ks i=((wS i).map ks).foldl Cy []:=by
 intro iN; induction iN with
 | zero=>skip; exact rfl
 | succ i ih=>skip; rw [List.range_succ,wI,FX,<- ih]; rfl
theorem Jd {K:Type} [DecidableEq K] (l:List K) (d:K):Tg (fun i=>l.getD i d) l.length=Ak l:=by
 rw [eD];have:(wS l.length).map (fun i=>l.getD i d)=l:=by
   apply List.ext_getElem
   . simp
   . intro i h1 h2; simp [h2]
 rw [this]; rfl
theorem Wv {K:Type} [DecidableEq K] [Inhabited K] (l:List K):(Ak l).length<=l.length:=by rw [<- Jd l default]; exact Vx _ _
theorem Ds {K:Type} [DecidableEq K] {l:List K} {x:K}:x∈Ak l↔x∈l:=by
 have:∀ (l m:List K),x∈l.foldl Cy m↔x∈m\/x∈l:=fun l=>by
   induction l with
   | nil=>intro m; simp
   | cons y l ih =>
     intro m; rw [AG,ih]; unfold Cy;split
     . rename_i hy
       constructor
       . rintro (h | h)
         . exact .inl h
         . exact .inr (.tail _ h)
       . rintro (h | h)
         . exact .inl h
         . rcases vF.mp h with rfl | h
           . exact .inl hy
           . exact .inr h
     . simp [or_assoc]
 rw [Ak,this]; simp
theorem Qw:∀ {ds:List uV} {ns:List Int},Ey ds=some ns->ds.length=ns.length:=by
 intro iN; induction iN with
 | nil=>intro _ e; cases e; rfl
 | cons d ds ih =>
   intro ns e;cases d with
   | int i =>
     obtain ⟨m,e1,e2⟩:=xG.mp (show (Ey ds).map (i::·)=some ns from e);rw [<- e2,vP,vP,ih e1]
   | _=>cases e
theorem Jw:∀ {ds:List uV} {ns:List Str},O6 ds=some ns->ds.length=ns.length:=by
 intro iN; induction iN with
 | nil=>intro _ e; cases e; rfl
 | cons d ds ih =>
   intro ns e;cases d with
   | str i =>
     obtain ⟨m,e1,e2⟩:=xG.mp (show (O6 ds).map (i::·)=some ns from e);rw [<- e2,vP,vP,ih e1]
   | _=>cases e
theorem gF:∀ {vs:List uY} {ss:List Str},DQ vs ss->∀ (i:Nat) (v:uY),vs[i]? = some v->∃ t,v=.str (ss.getD i default) t
 | _,_,.nil,_,_,e=>by cases e
 | _,_,.cons x t h,0,_,e=>by cases e; exact ⟨t,rfl⟩
 | _,_,.cons x t h,i+1,v,e=>gF h i v e
noncomputable def Dt:List uV->Option uV
 | [.list ds]=>if ds.length < 64 then match Ey ds with
   | some ns=>some (.list ((De (Ak ns)).map .int))
   | none=>match O6 ds with
     | some ss=>some (.list ((Ao (Ak ss)).map .str))
     | none=>none
   else none
 | _=>none
noncomputable section
variable {prog:vU} {w:wD} {A:xD} {E:uY->uZ->Prop} {s:uZ}
theorem eO:∀ {vs:List uY} {ks:List Int},IsKs (GX prog w) vs ks->EV vs ks:=by
 intro iN; induction iN with
 | nil=>intro _ h; cases (show _=_ from h); exact .nil
 | cons v vs ih =>
   intro _ h; obtain ⟨k,r,rfl,h1,h⟩:=h; obtain ⟨t,rfl⟩:=Value.isInt_shape h1; exact .cons k t (ih h)
theorem eN:∀ {vs:List uY} {ks:List Str},IsKs (strKind prog w) vs ks->DQ vs ks:=by
 intro iN; induction iN with
 | nil=>intro _ h; cases (show _=_ from h); exact .nil
 | cons v vs ih =>
   intro _ h; obtain ⟨k,r,rfl,h1,h⟩:=h; obtain ⟨t,rfl⟩:=JM h1; exact .cons k t (ih h)
theorem lY {a:vG} {ks:List Int} {Q:uY->uZ->Prop} (S:SetK (GX prog w) s.heap a ks) (h64:ks.length < 64) (hh:A.handled=none)
   (h:∀ (h1:wT) d1 tk (vs:List uY) (out:Array uY) (ns:List Int),(∀ b o,s.heap.get? b=some o->h1.get? b=some o)->EV out.toList ns->ns.Perm ks->ns.Pairwise (· <= ·) ->
     Q (.ref h1.objs.size) { s with heap:=IQ (h1.push (AW "list" vs.toArray 0)) h1.objs.size vs out,drawn:=d1,toks:=tk }) :
   wpAny (vS prog w) A (call (.builtin "sorted") [.ref a]) Q E s:=by
 obtain ⟨L,⟨o,es,ep,t,ho,hex,hd,hp,hel,hb,hf,T⟩,hK⟩:=S;have hl:L.length=ks.length:=by rw [<- hK.len,vA]
 refine CJ kind_sorted plain_sorted entry_sorted (args_sorted1 _) (uW (m:=checkCount "sorted" 1 1 _) (uX (uW (Kg ho hex hd hf T (by rw [<- xF,hp.length_eq]; lia) hh fun h1 d1 tk vs hk hvs=>?_))));obtain ⟨ks',p1,k1⟩:=hK.perm (hvs.trans (hp.map _));have hvl:vs.length=ks.length:=by rw [k1.len,p1.length_eq]
 have hI:=eO k1;refine uW (wpAny_newList ?_ (by rw [j6]; lia));have hoL:(h1.push (AW "list" vs.toArray 0)).get? h1.objs.size=some (AW "list" vs.toArray 0):=vH _ rfl;show wpAny _ _ _ _ _ { s with heap:=h1.push (AW "list" vs.toArray 0),drawn:=d1,toks:=tk };refine uW (wZ (wV IR ⟨_,hoL,rfl⟩ IE (list_sort_tree hoL hI (by lia) fun out ns' a1 a2 a3=>⟨_,rfl,?_⟩) (IY _)));exact uX ⟨_,rfl,h h1 d1 tk vs out ns' hk a1 (a2.trans p1) a3⟩
theorem lZ {a:vG} {ks:List Str} {Q:uY->uZ->Prop} (S:SetK (strKind prog w) s.heap a ks) (h64:ks.length < 64) (hh:A.handled=none)
   (h:∀ (h1:wT) d1 tk (vs:List uY) (out:Array uY) (ns:List Str),(∀ b o,s.heap.get? b=some o->h1.get? b=some o)->DQ out.toList ns->ns.Perm ks->sortedS ns=true ->
     Q (.ref h1.objs.size) { s with heap:=IQ (h1.push (AW "list" vs.toArray 0)) h1.objs.size vs out,drawn:=d1,toks:=tk }) :
   wpAny (vS prog w) A (call (.builtin "sorted") [.ref a]) Q E s:=by
 obtain ⟨L,⟨o,es,ep,t,ho,hex,hd,hp,hel,hb,hf,T⟩,hK⟩:=S;have hl:L.length=ks.length:=by rw [<- hK.len,vA]
 refine CJ kind_sorted plain_sorted entry_sorted (args_sorted1 _) (uW (m:=checkCount "sorted" 1 1 _) (uX (uW (Kg ho hex hd hf T (by rw [<- xF,hp.length_eq]; lia) hh fun h1 d1 tk vs hk hvs=>?_))));obtain ⟨ks',p1,k1⟩:=hK.perm (hvs.trans (hp.map _));have hvl:vs.length=ks.length:=by rw [k1.len,p1.length_eq]
 have hS:=eN k1;refine uW (wpAny_newList ?_ (by rw [j6]; lia));have hoL:(h1.push (AW "list" vs.toArray 0)).get? h1.objs.size=some (AW "list" vs.toArray 0):=vH _ rfl;show wpAny _ _ _ _ _ { s with heap:=h1.push (AW "list" vs.toArray 0),drawn:=d1,toks:=tk };refine uW (wZ (wV IR ⟨_,hoL,rfl⟩ IE (list_sort_treeK strKind_oneLt hoL hS.keysOf (fun v₁ v₂ M3 e=>keyKind_strs (by rw [<- e]; exact hS)) (by lia) fun st' hp hs=>⟨_,rfl,?_⟩) (IY _)));obtain ⟨ss',a1,a2,a3⟩:=sorted_out_str hS hp hs;exact uX ⟨_,rfl,h h1 d1 tk vs _ ss' hk a1 (a2.trans p1) a3⟩
end
theorem Inv.dr {X:Cx} {pins:List (vG×Obj)} {Z:List (Option V)} {H:Hp} {s:uZ} (d:Drawn) (I:Inv X pins Z H s):Inv X pins Z H { s with drawn:=d }:=⟨I.ok,I.os,I.bare,I.base,I.loc,I.cell,I.free,I.freeC,I.pin,I.hok,I.len⟩
noncomputable def qB (X:Cx) (a:vG) (ks:List Int):HO:=.ext fun h=>SetK (GX X.prog X.w) h a ks
noncomputable def qC (X:Cx) (a:vG) (ks:List Str):HO:=.ext fun h=>SetK (strKind X.prog X.w) h a ks
noncomputable section
variable {P:vU} {w:wD} {K:vB} {mg:Str->Option uY} {base:wT} {X:Cx} {N:List Str} {sc:Scope} {k:Nat} {df:Bool} {E:EK} {pos p p1 pos1:Pos} {e:Expr} {fs:Dn->Res (List uV)}
def rSet (X:Cx) (xs:List V) (H:Hp) (Q:VK):Prop:=∃ G ds,Same G H/\RepL G [.list ds] xs/\ds.length < 64 /\
 ((∃ ns,Ey ds=some ns/\∀ a,H a=none->Q (.ref a) (upd H a (qB X a (Ak ns))))\/(∃ ss,O6 ds=some ss/\((∀ x∈ss,wJ x=true/\x.length<=sizeLine)->∀ a,H a=none->Q (.ref a) (upd H a (qC X a (Ak ss))))))
theorem kT (hh:X.A.handled=none):U0 X (.type "set") (rSet X):=by
 rintro pins s Z H xs us Q I r ⟨G,ds,hG,rl,hl,q⟩;obtain ⟨v,t0,rfl,rv,e0⟩:=rl;cases (show t0=[] from e0);obtain ⟨u,rfl,ru⟩:=r.one;obtain ⟨l,vs,rfl,h1,l1⟩:=rv;cases (show u=yH l from ru);obtain ⟨z,its,n,rr,ho⟩:=V2 I hG h1;have hfr:H s.heap.objs.size=none:=I.hok.fresh (vL _);have fin:∀ (s':uZ) (o:HO),s'.gens=s.gens->s'.drawn=s.drawn->s'.os=s.os->(∀ b o,s.heap.get? b=some o->s'.heap.get? b=some o)->ObjOk X.prog X.w (upd H s.heap.objs.size o) s'.heap s.heap.objs.size o->Inv X pins Z (upd H s.heap.objs.size o) s':=fun s' o g1 g2 g3 g4 ok=>by
   obtain ⟨hp,g,d,tk,os⟩:=s';cases g1; cases g2; cases g3;exact I.laid (t':=tk) g4 (vL _) ok
 rcases q with ⟨ns,e1,q⟩ | ⟨ss,e1,q⟩
 . have hI:=repZ l1 rr e1
   have hle:its.length=ns.length:=hI.length; have hln:ns.length=ds.length:=(Qw e1).symm; refine Rl (knd:=GX X.prog X.w) (ks:=fun i=>ns.getD i 0) hh ⟨_,ho,rfl,n,rfl⟩ (fun i v hv=>?_) (by simp; lia) fun s' g1 g2 g3 g4 S=>?_
   . obtain ⟨t,rfl⟩:=hI.int_at i v (by simpa using hv)
     exact ⟨by simp [GX,Value.isInt],rfl⟩
   . have S':SetK (GX X.prog X.w) s'.heap s.heap.objs.size (Ak ns):=by rw [<- Jd ns 0,<- hle]; simpa using S
     refine ⟨.ref s.heap.objs.size,_,fin s' (qB X s.heap.objs.size (Ak ns)) g1 g2 g3 g4 ⟨S',?_,fun h1 h2 a b=>SetK.at a b⟩,rfl,q _ hfr⟩;obtain ⟨_,⟨o,_,_,_,ho,_⟩,_⟩:=S'; exact ⟨o,ho⟩
 . obtain ⟨hI,hok⟩:=repT l1 rr e1
   have hst:=hI.strs; have hle:its.length=ss.length:=by have:=congrArg BM hst; simpa using this
   have hln:ss.length=ds.length:=(Jw e1).symm; refine Rl (knd:=strKind X.prog X.w) (ks:=fun i=>ss.getD i default) hh ⟨_,ho,rfl,n,rfl⟩ (fun i v hv=>?_) (by simp; lia) fun s' g1 g2 g3 g4 S=>?_
   . obtain ⟨t,rfl⟩:=gF hI i v (by simpa using hv)
     exact ⟨by simp [PySem.strKind,Value.isStrOf],rfl⟩
   . have S':SetK (strKind X.prog X.w) s'.heap s.heap.objs.size (Ak ss):=by rw [<- Jd ss default,<- hle]; simpa using S
     refine ⟨.ref s.heap.objs.size,_,fin s' (qC X s.heap.objs.size (Ak ss)) g1 g2 g3 g4 ⟨S',?_,fun h1 h2 a b=>SetK.at a b⟩,rfl,q hok _ hfr⟩;obtain ⟨_,⟨o,_,_,_,ho,_⟩,_⟩:=S'; exact ⟨o,ho⟩
def iC (X:Cx) (xs:List V) (H:Hp) (Q:VK):Prop:=∃ a,xs=[.ref a] /\
 ((∃ ks,H a=some (qB X a ks)/\ks.length < 64/\∀ l,H l=none->Q (.ref l) (upd H l (.lst ((De ks).map .int))))\/(∃ ks,H a=some (qC X a ks)/\ks.length < 64/\∀ l,H l=none->Q (.ref l) (upd H l (.lst ((Ao ks).map .str)))))
theorem Ty (hh:X.A.handled=none):U0 X (.builtin "sorted") (iC X):=by
 rintro pins s Z H xs us Q I r ⟨a,hxs,q⟩;subst hxs;obtain ⟨u,rfl,ru⟩:=r.one;cases (show u=yH a from ru);have fin : ∀ (h1 : wT) d1 tk (vs : List uY) (out : Array uY) (xs : List V), (∀ b o, s.heap.get? b = some o -> h1.get? b = some o) -> xs.length < 64 -> Vals xs out.toList -> (∀ l, H l = none -> Q (.ref l) (upd H l (.lst xs))) ->
     EP X pins Z Q (.ref h1.objs.size) { s with heap:=IQ (h1.push (AW "list" vs.toArray 0)) h1.objs.size vs out,drawn:=d1,toks:=tk }:=fun h1 d1 tk vs out xs hk hl hv hq=>by
   have I1:Inv X pins Z H { s with heap:=h1,drawn:=d1,toks:=tk }:=Inv.dr d1 (I.kept (t':=tk) hk); have hfr:H h1.objs.size=none:=I1.hok.fresh (vL _); have ho1:(h1.push (AW "list" vs.toArray 0)).get? h1.objs.size=some (AW "list" vs.toArray 0):=vH _ rfl; obtain ⟨ee,hat⟩:=sortedHeap_at (out:=out) ho1; refine ⟨.ref h1.objs.size,_,I1.laid (o:=.lst xs) (t':=tk) (fun b o e=>?_) (vL _) ⟨by rw [j6]; lia,out.toList,ee,hv,by simpa using hat⟩,rfl,hq _ hfr⟩;have hlt:b < h1.objs.size:=vR e; rw [sortedHeap_old (wL hlt) (by rw [size_push']; exact CT hlt)]
   exact vD _ e
 rcases q with ⟨ks,hd,h64,q⟩ | ⟨ks,hd,h64,q⟩
 . obtain ⟨S,_⟩:=I.hok a _ hd
   refine lY S h64 hh fun h1 d1 tk vs out ns hk a1 a2 a3=>?_;have hsrt:ns=De ks:=Uh (a2.trans (Cf ks).symm) a3 (Ux ks); subst hsrt; exact fin h1 d1 tk vs out _ hk (by rw [vA,(Cf ks).length_eq]; exact h64) (qE a1) q
 . obtain ⟨S,_⟩:=I.hok a _ hd
   refine lZ S h64 hh fun h1 d1 tk vs out ns hk a1 a2 a3=>?_;have hsrt:ns=Ao ks:=Hk (a2.trans (O1 ks).symm) (Mw a3) (Mx ks); subst hsrt; exact fin h1 d1 tk vs out _ hk (by rw [vA,(O1 ks).length_eq]; exact h64) (Fc a1) q
theorem fD {n:Nat} (C:Cxt P w K mg base X N sc k df) (h:okGl sc "sorted" = true) (hm:mg "sorted" = none) (h':okGl sc "set" = true) (hm':mg "set" = none) (ha:DA X E [e] n fs)
   (he:vI [.Call (.Name "set" p1) [e] [] pos1] X.env=(false,eval (.Call (.Name "set" p1) [e] [] pos1) X.env)::vI [] X.env:=by rfl) (hpl:(yL pos (vI [] X.env)).any (·.1)=false:=by rfl)
   (he':vI [e] X.env=(false,eval e X.env)::vI [] X.env:=by rfl) (hpl':(yL pos1 (vI [] X.env)).any (·.1)=false:=by rfl):DE X E (.Call (.Name "sorted" p) [.Call (.Name "set" p1) [e] [] pos1] [] pos) (vFn fs Dt):=by
 obtain ⟨g1,g2,g3⟩:=okGl.gl C h;obtain ⟨g4,g5,g6⟩:=okGl.gl C h';intro pins s Z H Q I q;have hh:=I.ok.hd C.calm;refine (PE.imp (Dj (Ty hh) g1 (by rw [C.hmg]; exact hm) (by decide +kernel) (F6 (Iz (kT hh) g4 (by rw [C.hmg]; exact hm') (by decide +kernel) ha.pa g6 g5 he' hpl') O2 he) g3 g2 he hpl) fun Z H Q hY98=>?_) pins s Z H Q I q;obtain ⟨G,δ,S,aft⟩:=hY98;refine T5 (W:=fun G H r=>Aft E G H r Q) S aft (fun g a=>Aft.grow g a) (fun c a=>a) (fun a=>a) fun ds vs G1 H1 e g1 r1 S1 a1=>?_;cases e:Dt ds with
 | none=>rw [e] at a1; exact a1.elim
 | some d =>
   rw [e] at a1; unfold Dt at e;split at e
   . rename_i ys hfs
     split at e
     . rename_i hc
       split at e
       . rename_i ns en
         cases e; refine ⟨G1,ys,S1.sub,r1,hc,.inl ⟨ns,en,fun a ha=>⟨a,rfl,.inl ⟨_,B8,?_,fun l hl=>?_⟩⟩⟩⟩
         . have:=Wv ns; have:=Qw en; lia
         . have hla:l≠a:=fun z=>by subst z; rw [B8] at hl; cases hl
           have hG1a:G1 a=none:=S1.sub.free ha; refine a1 _ (upd (upd G1 a (qB X a (Ak ns))) l (.lst ((De (Ak ns)).map .int))) _ ((Grow.new S1.sub ha).trans (Grow.new (Grow.new S1.sub ha).gh hl)) ⟨_,_,rfl,.inl B8,RepL.ints _⟩
       . rename_i en0
         split at e
         . rename_i ss en
           cases e; refine ⟨G1,ys,S1.sub,r1,hc,.inr ⟨ss,en,fun hok a ha=>⟨a,rfl,.inr ⟨_,B8,?_,fun l hl=>?_⟩⟩⟩⟩
           . have:=Wv ss; have:=Jw en; lia
           . refine a1 _ (upd (upd G1 a (qC X a (Ak ss))) l (.lst ((Ao (Ak ss)).map .str))) _ ((Grow.new S1.sub ha).trans (Grow.new (Grow.new S1.sub ha).gh hl)) ⟨_,_,rfl,.inl B8,Nl _ fun y hy=>hok y (Ds.mp ((O1 _).mem_iff.mp hy))⟩
         . cases e
     . cases e
   . cases e
end
end Sm
end
noncomputable section
namespace Sm
open PySem PySem.Spec PyProof.Rows PySem.W L2
end Sm
end
noncomputable section
namespace Sm
open PySem PySem.Spec PyProof.Rows PySem.W L2
theorem eB {X:Cx} (hu:X.A.units+64 < zE):MtR X "list.count" (fun x vs H Q=>∃ G ds v d,Same G H/\Rep G (.list ds) x/\vs=[v]/\Rep G d v/\d.depth<=40/\Q (.int (ds.countP fun y=>vN y d:Nat)) H):=by
 rintro pins s Z H x vs v us Q I rx rv ⟨G,ds,v1,d,hG,rl,e1,rd,hdp,q⟩;subst e1;obtain ⟨u,rfl,ru⟩:=rv.one;obtain ⟨as,r1⟩:=rl.reads I hG rx;obtain ⟨bs,r2⟩:=rd.reads I hG ru;have hxs:yW ds=true:=by have:=rl.lay; simpa [PyData.canLay0] using this
 cases r1 with
 | @list a o vs n _ _ h1 h2 h3 h4 =>
   have hm:=SeqAt.readsAll_map ds _ _ hxs h4; have hd:=SeqAt.items_eqAt (A:=X.A) h4 r2 hxs rd.lay (by have:=zD (xJ ds) d.depth; lia);obtain ⟨c0,d0,da0,sl0⟩:=o; simp only at h2 h3; subst h2 h3; refine CZ F.slot_list_count ⟨_,h1,rfl⟩ F.entry_list_count (F.args_list_count_2 _ _) (SeqAt.list_countAt a vs n d0 sl0 u (fun y=>vN (FP s.heap y) d)) ⟨h1,hd,?_⟩;have hc:vs.toList.countP (fun y=>vN (FP s.heap y) d)=ds.countP fun y=>vN y d:=by
     rw [<- hm,List.countP_map]; rfl
   rw [hc]; exact ⟨.int _,H,I.tok _,⟨_,rfl⟩,q⟩
noncomputable def Lg (g f:Dn->Res uV):Dn->Res uV:=fun δ=>(g δ).bind fun z=>match z with
 | .list ds=>(f δ).bind fun d=>if d.depth<=40 then .ok (.int (ds.countP fun y=>vN y d:Nat)) else .no
 | _=>.no
noncomputable def bM:uV->Option uV
 | .bool true=>some (.bool false)
 | _=>none
def tNotT (ta:TE):TE:=fun Z H Q=>ta Z H fun x H1=>x=.bl true/\Q (.bl false) H1
theorem not_true {M:HF} {A:xD} {E:uY->uZ->Prop} {s:uZ} {Q:uY->uZ->Prop} (h:Q (.bool false) s):wpAny M A (yG .IsNot (.bool true) (.bool true)) Q E s:=by
 show wpAny M A (do return AY !(<- isSame (.bool true) (.bool true))) Q E s;unfold isSame;simp only [beq_self_eq_true,if_true];exact uW (uX (uX h))
noncomputable section
variable {P:vU} {w:wD} {K:vB} {mg:Str->Option uY} {base:wT} {X:Cx} {N:List Str} {sc:Scope} {k:Nat} {df:Bool} {E:EK} {a b:Expr} {f g:Dn->Res uV} {pos:Pos}
theorem kS {apos cpos:Pos} (C:Cxt P w K mg base X N sc k df) (hb:DE X E b g) (ha:DE X E a f) (hbase:i7 b "count" X.env (eval b X.env)=eval b X.env:=by rfl)
   (hfew:((yL cpos (vI [a] X.env)).all (fun x => !x.1)&&(EI cpos (AX [] X.env)).all (fun x=>x.1.isSome)
     && decide ([a].length+([]:List x8).length+(if ([]:List x8).isEmpty then 0 else 1) < 30))=true:=by rfl)
   (hline:(apos.endLine==cpos.line)=true:=by rfl) (hs:vI [a] X.env=(false,eval a X.env)::vI [] X.env:=by rfl) (hplain:(yL cpos (vI [] X.env)).any (·.1)=false:=by rfl) :
   DE X E (.Call (.Attribute b "count" apos) [a] [] cpos) (Lg g f):=by
 refine PE.imp (Qo zV PySem.F.slot_list_count PySem.F.type_list_count (eB C.hu) hb (F6 ha O2 hs) hbase hfew hline hs hplain) fun Z H Q hZ3=>?_;obtain ⟨G,δ,S,aft⟩:=hZ3;refine K2 S aft fun d0 v0 G0 H0 g0 r0 S0 a0=>?_;split at a0
 . rename_i ds
   obtain ⟨l,xs,rfl,hl,ll⟩:=r0; refine ⟨.inl ⟨rfl,xs,.inl (Rd.mono S0.sub hl)⟩,?_⟩; refine K2 S0 a0 fun d v G1 H1 g1 r1 S1 a1=>?_;split at a1
   . rename_i hc
     exact ⟨G1,ds,v,d,S1.sub,⟨l,xs,rfl,Rd.mono g1.g hl,ll.mono g1.g⟩,rfl,r1,hc,a1 _ G1 H1 (Grow.refl S1.sub) rfl⟩
   . exact a1.elim
 . exact a0.elim
theorem nJ {j:Nat} {pos':Pos} {ta:TE} (ha:PE X a ta):PC X .IsNot a (.Constant (.bool true) j pos') (tNotT ta):=by
 intro pins s Z H Q I h;refine thn (ha pins s Z H _ I h) fun v s1 hZ2=>?_;obtain ⟨x,H1,I1,r1,e,q1⟩:=hZ2;subst e;cases (show v=AY true from r1);exact Constant_bool (not_true ⟨.bl false,H1,I1,rfl,q1⟩)
theorem gD {j:Nat} {p:Pos} (ha:DE X E a f):DT X E (.Compare a [.IsNot] [.Constant (.bool true) j p] pos) (B6 (b1 f bM)):=by
 refine PT.imp (Yq (nJ ha)) fun Z H Q hZ3=>?_;obtain ⟨G,δ,S,aft⟩:=hZ3;unfold B6 b1 at aft;rw [Res.bind_assoc] at aft;refine S9 S aft fun d1 v1 G1 H1 g1 r1 S1 a1=>?_;unfold bM at a1;split at a1
 . exact ⟨r1,false,rfl,(show AftT E G1 H1 (.ok false) Q from a1) G1 H1 (Grow.refl S1.sub)⟩
 . exact a1.elim
end
end Sm
end
noncomputable section
namespace Sm
open PySem PySem.Spec PyProof.Rows L2
structure XSet7 (K:vB) (mg:Str->Option uY) (CN CM CS CB:vG):Prop where
 mM:mg "MarkError" = some (.ref CM)
 mN:mg "NoPlace" = some (.ref CN)
 mS:mg "NoSign" = some (.ref CS)
 mB:mg "NoDeed" = some (.ref CB)
 mi:mg "isinstance" = none
 mV:mg "ValueError" = none
 xc:XCls K CN
 k1:PySem.W.subIn K (.ref CN) (.ref CM)=some true
 k2:PySem.W.instIn K (.ref CM) (.type "tuple")=some false
 k3:(PySem.W.clsIn K CM).isSome=true
 k4:PySem.W.subIn K (.ref CM) (.type "BaseException")=some true
 t1:BU K (.ref CN) (.ref CN)=some true
 t2:BU K (.ref CN) (.ref CS)=some false
 t3:BU K (.ref CN) (.ref CB)=some false
 t4:BU K (.ref CN) (.type "ValueError")=some true
noncomputable def Tc (N:List Str) (sc:Scope) (df:Bool):Bool:=okVar N sc 0 "_law_book_here" && okVar N sc 1 "_law_place" && okGl sc "age_at" && okGl sc "MarkError" && okGl sc "isinstance" && okGl sc "NoPlace" && okGl sc "NoSign" && okGl sc "NoDeed" && okGl sc "ValueError" &&
 okSet N sc df 2 "e" && okVar N sc 2 "e" && okSet N sc df 3 "_law_flags" && okVar N sc 3 "_law_flags" && decide (sc.names.lookup ("e" : Str)=some NameKind.local)
noncomputable section
variable {P:vU} {w:wD} {K:vB} {mg:Str->Option uY} {base:wT} {X:Cx} {N:List Str} {sc:Scope} {k:Nat} {df:Bool} {CN CM CS CB:vG}
theorem cM {a:vG} {pa pb pc pd pe pf pg ph pi pj pk pl pm pn po pp pq pr ps pt pu pv pw px py pz p1:Pos} {j1 j2 j3:Nat} (C:Cxt P w K mg base X N sc k df) (XX:XSet7 K mg CN CM CS CB) (ok:Tc N sc df=true) {pins:List (vG×Obj)} {Z:St} {H:Hp} {s:uZ}
   (I:Inv (inX X a) pins Z H s) (hσ:Z[2]? = some (some (.ref a))) (hH:H a=some (.ext (ExcAt' a CN))) :
   wpAny (vS X.prog X.w) (X.A.mark (some (.ref a))) (execs [.Assign [.Name "_law_flags" pa] (.List [.Call (.Name "isinstance" pb) [.Name "e" pc,.Name "NoPlace" pd] [] pe,.Call (.Name "isinstance" pf) [.Name "e" pg,.Name "NoSign" ph] [] pi,.Call (.Name "isinstance" pj) [.Name "e" pk,.Name "NoDeed" pl] [] pm] pn) po,
     .Return (some (.BoolOp .And [.Call (.Name "isinstance" pp) [.Name "e" pq,.Name "ValueError" pr] [] ps,.Compare (.Name "_law_flags" pt) [.Eq] [.List [.Constant (.bool true) j1 pu,.Constant (.bool false) j2 pv,.Constant (.bool false) j3 pw] px] py] pz)) p1] X.env)
     (fun f s'=>∃ Z' H',f=.ret (.bool true)/\Inv (inX X a) pins Z' H' s'/\Same H H') (fun _ _=>False) s:=by
 unfold Tc at ok;simp only [vV,decide_eq_true_eq] at ok;obtain ⟨⟨⟨⟨⟨⟨⟨⟨⟨⟨⟨⟨⟨o1,o2⟩,o3⟩,o4⟩,o5⟩,o6⟩,o7⟩,o8⟩,o9⟩,o10⟩,o11⟩,o12⟩,o13⟩,o14⟩:=ok;obtain ⟨e1,e2,e3,e4⟩:=okVar.at o11;obtain ⟨f1,f2,f3,f4⟩:=okVar.at o13;obtain ⟨s1,s2,s3,s4⟩:=okSet.ok C o12;have gl:∀ {x:Str},okGl sc x=true->Gl (inX X a) x/\(x==("__debug__" : Str))=false/\x ≠ "__name__" := fun h=>okGl.gl C h;have hu:(inX X a).A.units+64 < zE:=C.hu;have pNm:∀ {q:Pos},PE (inX X a) (.Name "e" q) (Sa 2):=Iy (X:=inX X a) (by show X.N[2]? = _; rw [C.hN]; exact e1) (by show Vis X.env.scope _; rw [C.hs]; exact e2) e3 e4;have pfl:∀ {q:Pos},PE (inX X a) (.Name "_law_flags" q) (Sa 3):=Iy (X:=inX X a) (by show X.N[3]? = _; rw [C.hN]; exact f1) (by show Vis X.env.scope _; rw [C.hs]; exact f2) f3 f4
 have xc:XCls (inX X a).K CN:=by show XCls X.K CN; rw [C.hK]; exact XX.xc
 have hmg:(inX X a).mg=mg:=C.hmg;have hKK:(inX X a).K=K:=C.hK;have cl:∀ {x:Str} {D:vG} {q0 q1 q2 q3:Pos},okGl sc x=true->mg x=some (.ref D)->PE (inX X a) (.Call (.Name "isinstance" q0) [.Name "e" q1,.Name x q2] [] q3) (tCB (sA (inX X a).K a CN) (Up (Sa 2) (Up (tC (.ref D)) rF))):=fun h hm =>
   Dj (Xd xc) (gl o5).1 (by rw [hmg]; exact XX.mi) (by decide +kernel) (F6 pNm (F6 (nG (gl h).1 (by rw [hmg]; exact hm) rfl (gl h).2.1) O2))
 have cv:∀ {q0 q1 q2 q3:Pos},PE (inX X a) (.Call (.Name "isinstance" q0) [.Name "e" q1,.Name "ValueError" q2] [] q3) (tCB (sA (inX X a).K a CN) (Up (Sa 2) (Up (tC (.ty "ValueError")) rF))) :=
   Dj (Xd xc) (gl o5).1 (by rw [hmg]; exact XX.mi) (by decide +kernel) (F6 pNm (F6 (nI (gl o9).1 (by rw [hmg]; exact XX.mV) (by decide +kernel) rfl) O2))
 have st1:=Iv (X:=inX X a) (i:=3) (pos:=po) (pos':=pa) s1 s2 s3 (Tb (pos:=pn) (F6 (cl (q0:=pb) (q1:=pc) (q2:=pd) (q3:=pe) o6 XX.mN) (F6 (cl (q0:=pf) (q1:=pg) (q2:=ph) (q3:=pi) o7 XX.mS) (F6 (cl (q0:=pj) (q1:=pk) (q2:=pl) (q3:=pm) o8 XX.mB) O2)))) rfl s4;have st2:=Yr (X:=inX X a) (pos:=p1) (iT (pos:=pz) (cv (q0:=pp) (q1:=pq) (q2:=pr) (q3:=ps)) (iL (op:=.And) (pos:=pz) (aQ (pos:=py) (Yu hu) (pfl (q:=pt)) (Tb (pos:=px) (F6 (aR (b:=true) (j:=j1) (pos:=pu)) (F6 (aR (b:=false) (j:=j2) (pos:=pv)) (F6 (aR (b:=false) (j:=j3) (pos:=pw)) O2)))) (Fk _))));have B:=Nr st1 (Hl st2);have hl3:3 < Z.length:=by
   rw [I.len]; show 3 < X.N.length;rw [C.hN]; exact (vY.mp f1).1
 refine xT (B pins s Z H { nx:=fun _ _=>False,rt:=fun v H'=>v=.bl true/\Same H H' } I ?_) (fun f s' hf=>?_) fun _ _ z=>z
 . refine ⟨.ref a,hσ,.ref CN,.ref CN,true,rfl,rfl,hH,by rw [hKK]; exact XX.t1,?_⟩
   refine ⟨.ref a,hσ,.ref CS,.ref CS,false,rfl,rfl,hH,by rw [hKK]; exact XX.t2,?_⟩;refine ⟨.ref a,hσ,.ref CB,.ref CB,false,rfl,rfl,hH,by rw [hKK]; exact XX.t3,?_⟩;refine ⟨(show 3<=sizeLine by decide),fun p hp=>?_⟩;have hna:a≠p:=D4 hH hp; have hH2:upd H p (.lst [.bl true,.bl false,.bl false]) a=some (.ext (ExcAt' a CN)):=by rw [B7 hna]; exact hH
   refine ⟨.ref a,(by rw [u6 (by decide)]; exact hσ),.ty "ValueError",.type "ValueError",true,rfl,rfl,hH2,by rw [hKK]; exact XX.t4,true,rfl,?_⟩;rw [if_pos rfl]; refine ⟨.ref p,(by rw [AS hl3]),(show 3<=sizeLine by decide),fun p2 hp2=>?_⟩;have hne:p≠p2:=D4 (B8 (H:=H) (a:=p)) hp2; refine ⟨upd (upd H p (.lst [.bl true,.bl false,.bl false])) p2 (.lst [.bl true,.bl false,.bl false]),.list [.bool true,.bool false,.bool false],.list [.bool true,.bool false,.bool false],Same.refl _,⟨p,_,rfl,.inl (by rw [B7 hne]; exact B8),?_⟩,⟨p2,_,rfl,.inl B8,?_⟩,by decide,rfl,(Same.upd hp).trans (Same.upd hp2)⟩
   . exact RepL.cons rfl (RepL.cons rfl (RepL.cons rfl rfl))
   . exact RepL.cons rfl (RepL.cons rfl (RepL.cons rfl rfl))
 . cases f with
   | ret u =>
     obtain ⟨v,Z',H',J,rv,e,sm⟩:=hf; subst e;cases (show u=AY true from rv);exact ⟨Z',H',rfl,J,sm⟩
   | next=>obtain ⟨_,_,_,z⟩:=hf; exact z.elim
   | brk=>obtain ⟨_,_,_,z⟩:=hf; exact z.elim
   | cont=>obtain ⟨_,_,_,z⟩:=hf; exact z.elim
theorem rO {m:List uV->Res uV} {j:Nat} {pa pb pc pd pe pf pg ph pi pj pk pl pm pn po pp pq pr ps pt pu pv pw px py pz p1 q1 q2 q3 q4 q5 q6 q7 pos:Pos} {j1 j2 j3:Nat} (C:Cxt P w K mg base X N sc k df) (hst:X.stack=X.env::X.outer/\X.env.frame=some X.env.locals) (hex:X.ex=[]) (XX:XSet7 K mg CN CM CS CB) (F:FnX P w K mg base CN "age_at" j 2 m) (hj:j<=k) (ok:Tc N sc df=true) :
   DS X E0k (.Try [.Return (some (.Call (.Name "age_at" q1) [.Name "_law_book_here" q2,.Name "_law_place" q3] [] q4)) q5] [.ExceptHandler (some (.Name "MarkError" q6)) (some "e") [.Assign [.Name "_law_flags" pa] (.List [.Call (.Name "isinstance" pb) [.Name "e" pc,.Name "NoPlace" pd] [] pe,.Call (.Name "isinstance" pf) [.Name "e" pg,.Name "NoSign" ph] [] pi,.Call (.Name "isinstance" pj) [.Name "e" pk,.Name "NoDeed" pl] [] pm] pn) po,
     .Return (some (.BoolOp .And [.Call (.Name "isinstance" pp) [.Name "e" pq,.Name "ValueError" pr] [] ps,.Compare (.Name "_law_flags" pt) [.Eq] [.List [.Constant (.bool true) j1 pu,.Constant (.bool false) j2 pv,.Constant (.bool false) j3 pw] px] py] pz)) p1] q7] [] [] pos) (rQ (A1 (A0 0) (A1 (A0 1) A6)) m):=fun G0 H0 pins s Z H D I hZ8=>by
 obtain ⟨G,δ,S,aft⟩:=hZ8;have ok':=ok;unfold Tc at ok';simp only [vV,decide_eq_true_eq] at ok';obtain ⟨⟨⟨⟨⟨⟨⟨⟨⟨⟨⟨⟨⟨o1,o2⟩,o3⟩,o4⟩,o5⟩,o6⟩,o7⟩,o8⟩,o9⟩,o10⟩,o11⟩,o12⟩,o13⟩,o14⟩:=ok';obtain ⟨a1,a2,a3,a4⟩:=okVar.at o1;obtain ⟨b1,b2,b3,b4⟩:=okVar.at o2;obtain ⟨g1,g2,g3⟩:=okGl.gl C o3;obtain ⟨m1,m2,m3⟩:=okGl.gl C o4;obtain ⟨t1,t2,t3,t4⟩:=okSet.ok C o10;obtain ⟨f,fd,ps',hps,Ff,hm,hk,hb⟩:=F.ex;refine wpAny_Try_except ?_;generalize hEw:(fun (e:uY) (s₁:uZ)=>wpAny (vS X.prog X.w) X.A (noteFrame e X.env) (fun _ s₂=>wpAny (vS X.prog X.w) X.A (setFlight e none) (fun _ s₃=>wpAny (vS X.prog X.w) X.A (handleBy e X.env _) (SP X pins D) X.xe s₃) X.xe s₂) X.xe s₁)=Ew
 have F':FnOk (X.wish Ew).prog (X.wish Ew).w (X.wish Ew).K (X.wish Ew).mg (X.wish Ew).base (CXe P w) j f fd ps' (spX 2 m CN):=by
   show FnOk X.prog X.w X.K X.mg X.base (CXe P w) j f fd ps' (spX 2 m CN);rw [C.hP,C.hw,C.hK,C.hmg,C.hb]; exact Ff
 have da:DA (X.wish Ew) E0k [.Name "_law_book_here" q2,.Name "_law_place" q3] 2 (A1 (A0 0) (A1 (A0 1) A6)) :=
   A3 (Zk (X:=X.wish Ew) (by show X.N[0]? = _; rw [C.hN]; exact a1) (by show Vis X.env.scope _; rw [C.hs]; exact a2) a3 a4) (A3 (Zk (X:=X.wish Ew) (by show X.N[1]? = _; rw [C.hN]; exact b1) (by show Vis X.env.scope _; rw [C.hs]; exact b2) b3 b4) A9)
 have I0:Inv (X.wish Ew) pins Z H s:=I.wish Ew;have main:wpAny (vS X.prog X.w) X.A (eval (.Call (.Name "age_at" q1) [.Name "_law_book_here" q2,.Name "_law_place" q3] [] q4) X.env) (EP (X.wish Ew) pins Z D.rt) Ew s:=by
   refine pN (X:=X.wish Ew) (E:=fun c _ H'=>c=.ref CN/\(∃ c,m c=m c)/\∃ G',Grow G0 H0 G' H'/\∀ v G2 H2,Grow G0 H0 G2 H2->v=.bl true->D.rt v H2) F' (C.room.mono hj) g1 (by show X.mg _=_; rw [C.hmg]; exact hm) (by show xU X.K _=_; rw [C.hK]; exact hk) (by show Binds X.K fd ps' []; rw [C.hK]; exact hb) da.pa I0 ?_ ?_ g2 rfl rfl
   . refine ⟨G,δ,S.sr,?_⟩
     unfold rQ at aft;cases ef:(A1 (A0 0) (A1 (A0 1) A6)) δ with
     | ok ds =>
       rw [ef] at aft; intro vs G1 H1 g1 r1; refine ⟨G1,ds,(S.grow g1).sr.sub,r1,da.len δ ds ef,?_⟩; simp only [K5] at aft;cases em:m ds with
       | ok d=>rw [em] at aft; exact fun v G' H' g r=>aft v G' H' ((S.grow g1).gr.trans g) r
       | exc c =>
         rw [em] at aft; exact fun G' H' g=>⟨rfl,⟨ds,rfl⟩,G',(S.grow g1).gr.trans g,fun v G2 H2 g2 e=>aft v G2 H2 g2 e⟩
       | no=>rw [em] at aft; exact (show False from aft).elim
     | exc c=>rw [ef] at aft; exact fun G' H' g=>aft G' H' (S.gr.trans g)
     | no=>rw [ef] at aft; exact (show False from aft).elim
   . rintro H1 s1 e s' I1 ⟨a,c,H',e1,e2,e3,Fl,ec,_,G',gr,fin⟩
     subst e1 ec; show Ew (.ref a) s';rw [<- hEw]; have I1x:Inv X pins Z H1 s1:=I1.unwish; have hk:∀ {Hx:Hp} {hx:wT},HOk P w Hx hx->HOk X.prog X.w Hx hx:=fun z=>by rw [C.hP,C.hw]; exact z
     have I2:Inv X pins Z H' s':=I1x.call' (ch:=[]) e2 Fl.un (hk Fl.hok) e3 (fun b z=>absurd z (by simp));have hfr:X.A.frames=some (X.env::X.outer):=by rw [<- hst.1]; exact I2.ok.frames
     have hl:s'.heap.FunFrames X.base (X.env::X.outer):=by rw [<- hst.1]; exact I2.stack
     have hfree:∀ b∈frs (X.env::X.outer),H' b=none:=by rw [<- hst.1]; exact I2.stkFree
     have hfs:∀ b∈frs (X.env::X.outer),b∈frs X.stack\/s1.heap.get? b=none:=fun b hb=>.inl (by rw [hst.1]; exact hb);refine fH (P:=P) (w:=w) hfr hl hst.2 Fl hfree hfs fun h3 F3 ff3=>?_;have I3:Inv X pins Z H' { s' with heap:=h3 }:=I1x.call' (s':={ s' with heap:=h3 }) (ch:=[]) e2 F3.un (hk F3.hok) e3 (fun b z=>absurd z (by simp));have xa:ExcAt' a CN h3:=by
       obtain ⟨oe,vs,a0,T,oT,ts,z1,z2,_⟩:=F3.fly; exact ⟨oe,z1,z2⟩
     refine wpAny_handleBy_cons (codeAny_handlers_test (Hm (X:=inX X a) (Sm.Inv.inX I3 a) m1 (by show X.mg _=_; rw [C.hmg]; exact XX.mM) ?_ m2)) (by intro q; cases q);refine Wo (K:=K) (by have:=I3.kIn; rw [C.hK] at this; exact this) xa XX.k1 XX.k2 XX.k3 XX.k4 ?_;refine codeAny_handlers_suite_as ?_; refine jS (P:=P) (w:=w) (l:=X.env::X.outer) (base:=X.base) ff3 F3 hfree hfs fun h4 F4=>?_;obtain ⟨u4,k4⟩:=Wn F4; have I4:Inv X pins Z (upd H' a (.ext (ExcAt' a CN))) { s' with heap:=h4 }:=I1x.call' (s':={ s' with heap:=h4 }) (ch:=[]) e2 u4 (hk k4) e3 (fun b z=>absurd z (by simp));have hl2:2 < Z.length:=by
       rw [I1x.len,C.hN]; exact (vY.mp (okVar.at o11).1).1
     refine Mj (X:=inX X a) (Sm.Inv.inX I4 a) t1 t2 t3 (v:=.ref a) rfl (fun s5 I5=>?_) t4;refine xT (cM C XX ok I5 (by rw [AS hl2]) B8) (fun f s6 ⟨Z6,H6,ef,J,sm⟩=>?_) (fun _ _ z=>z.elim);subst ef; obtain ⟨m0,hn0,_⟩:=J.loc; have kl:X.env.kindOf "e" = some .local:=by show X.env.scope.names.lookup _=_; rw [C.hs]; exact o14
     refine wpAny_nameGoes kl hn0 (by rw [I1x.ok.kind]; rfl) fun h7 m7 hn7 sb7=>?_;have sm7:Same H' H6:=(Same.upd F4.fly.none.2).trans sm; exact ⟨.bl true,_,H6,Sm.Inv.forget (Sm.Inv.outX J I1x.ok) hn7 sb7,rfl,fin _ G' H6 ⟨gr.g,gr.h.trans sm7,gr.gh.trans sm7,gr.fr⟩ rfl⟩
 refine HP (wpAny_Return_some (thn main fun u s1 hZ2=>?_));obtain ⟨v,H1,I1,rv,q⟩:=hZ2;exact ⟨v,Z,H1,I1.unwish,rv,q⟩
end
end Sm
end
noncomputable section
namespace Sm
open PySem PySem.Spec PyProof.Rows L2
def top (i:Nat):k8:=PySem.Challenge.pw_staymark_k70_history.main.body.getD i (.Pass ⟨0,0,0,0⟩)
def stm (i j:Nat):k8:=(B4 (top i)).getD j (.Pass ⟨0,0,0,0⟩)
structure Txt (mg:Str->Option uY):Prop where
 b_dict:mg "dict" = none
 b_enumerate:mg "enumerate" = none
 b_int:mg "int" = none
 b_len:mg "len" = none
 b_list:mg "list" = none
 b_max:mg "max" = none
 b_range:mg "range" = none
 b_reversed:mg "reversed" = none
 b_set:mg "set" = none
 b_sorted:mg "sorted" = none
 b_tuple:mg "tuple" = none
noncomputable def Q0:List Str:=["deed"]
noncomputable def Q3:Dn->Out:=(K1 (vIf (B6 (b2 (b2 (A0 0) (vC (.int 0)) dIx) (vC (.str "add")) dEq)) (vFn (A1 (b2 (A0 0) (vC (.int 3)) dIx) A6) M4) (vC (.int 0))))
noncomputable def F1:List uV->Res uV:=fnD Q0 Q3
noncomputable def V6:List Str:=["book", "behind", "deed"]
noncomputable def X0:Dn->Res Kvs:=(Lw (Dh 1) (Lw (dG 1 2 (fun δ=>((A0 0) δ).bind D2) (B6 (b2 (C0 (A1 (A0 2) A6) F1) (vC (.int 0)) (Fa .Gt))) (b2 (A0 2) (vC (.int 2)) dIx) (A0 2)) (Vv 1)))
noncomputable def N8:List uV->Res Kvs:=fnW V6 X0
noncomputable def N0:List Str:=["book", "behind", "waiting", "told", "step", "deed", "number", "sign"]
noncomputable def Ba:Dn->Out:=(X4 1 (Gi (A1 (A0 0) A6) N8))
noncomputable def Az:Dn->Out:=(Hh 2 (D7 (fun δ=>((Ly 1 (vC .none) (E4 A6)) δ).bind D2) C8 [] J3 (E5 (A1 (A0 0) (A1 (vC (.int 0)) A6)))))
noncomputable def Es:Dn->Out:=(Hh 3 A6)
noncomputable def Ay:Dn->Out:=(Nk (Xe 2) (C3 (dF 2 4) (C3 (E7 5 (b2 (A0 4) (vC (.int 0)) dIx)) (C3 (E7 6 (b2 (A0 4) (vC (.int 1)) dIx)) (C3 (E7 7 (E5 (A1 (b2 (A0 5) (vC (.int 1)) dIx) (A1 (A0 6) A6)))) (C3 (X2 3 (E5 (A1 (A0 7) (A1 (b2 (b2 (A0 5) (vC (.int 3)) dIx) (A0 6) dIx) A6)))) (C3 (sIf (B6 (b2 (b2 (A0 6) (vC (.int 1)) C6) (vFn (A1 (b2 (A0 5) (vC (.int 3)) dIx) A6) M4) (K0 .Lt))) (X2 2 (E5 (A1 (A0 5) (A1 (b2 (A0 6) (vC (.int 1)) C6) A6)))) F5) (dH 2 (D7 (fun δ=>((Ly 1 (A0 7) (E4 A6)) δ).bind D2) C8 [] J3 (E5 (A1 (A0 0) (A1 (vC (.int 0)) A6))))))))))))
noncomputable def Er:Dn->Out:=(sFz 3 (K1 (A0 3)))
noncomputable def Cg:Dn->Out:=(C3 Ba (C3 Az (C3 Es (C3 Ay Er))))
noncomputable def U6:List uV->Res uV:=fnD N0 Cg
noncomputable def Au:List Str:=["book", "undone", "deed"]
noncomputable def Bb:Dn->Res Kvs:=(Lw (Dh 1) (Lw (N3 (fun δ=>((A0 0) δ).bind Vh) (st1 2) (sIf (N6 (B6 (b2 (b2 (A0 2) (vC (.int 0)) dIx) (vC (.str "undo")) dEq)) (B6 (T0 true 1 (b2 (A0 2) (vC (.int 1)) dIx)))) (Hg 1 (b2 (A0 2) (vC (.int 2)) dIx) (vC (.bool true))) F5)) (Vv 1)))
noncomputable def E6:List uV->Res Kvs:=fnW Au Bb
noncomputable def X7:List Str:=["book", "undone", "dropped", "deed", "sign"]
noncomputable def Aa:Dn->Res Kvs:=(Lw (Dh 2) (Lw (N3 (fun δ=>((A0 0) δ).bind D2) (st1 3) (sIf (N6 (B6 (b2 (b2 (A0 3) (vC (.int 0)) dIx) (vC (.str "drop")) dEq)) (B6 (T0 true 1 (b2 (A0 3) (vC (.int 1)) dIx)))) (N3 (fun δ=>((b2 (A0 3) (vC (.int 2)) dIx) δ).bind D2) (st1 4) (Hg 2 (A0 4) (vC (.bool true)))) F5)) (Vv 2)))
noncomputable def L3:List Sl->Res Kvs:=oK X7 Aa
noncomputable def J2:List Str:=["book", "undone", "dropped", "told", "pair"]
noncomputable def U3:Dn->Out:=(X4 1 (Gi (A1 (A0 0) A6) E6))
noncomputable def U2:Dn->Out:=(rT 1 (X4 2 (Rw (A0 0) 1 L3)))
noncomputable def Bn:Dn->Out:=(Hh 3 A6)
noncomputable def O7:Dn->Out:=(N3 (fun δ=>((C0 (A1 (A0 0) A6) U6) δ).bind D2) (st1 4) (X2 3 (E5 (A1 (A0 4) (A1 (fS (T0 true 1 (b2 (b2 (A0 4) (vC (.int 0)) dIx) (vC (.int 0)) dIx)) (T0 true 2 (b2 (A0 4) (vC (.int 0)) dIx))) A6)))))
noncomputable def Bm:Dn->Out:=(sFz 3 (K1 (A0 3)))
noncomputable def W9:Dn->Out:=(C3 U3 (C3 U2 (C3 Bn (C3 O7 Bm))))
noncomputable def P8:List uV->Res uV:=fnD J2 W9
noncomputable def Cq:List Str:=["book"]
noncomputable def Ch:Dn->Out:=(K1 (E4 (D7 (fun δ=>((C0 (A1 (A0 0) A6) P8) δ).bind D2) C8 [] (B6 (b2 (A0 0) (vC (.int 1)) dIx)) (b2 (A0 0) (vC (.int 0)) dIx))))
noncomputable def K7:List uV->Res uV:=fnD Cq Ch
noncomputable def Eh:List Str:=["book"]
noncomputable def Dg:Dn->Out:=(K1 (Jv "" (E4 (D7 (fun δ=>((C0 (A1 (A0 0) A6) K7) δ).bind D2) C8 [] J3 (b2 (A0 0) (vC (.int 1)) dIx)))))
noncomputable def U5:List uV->Res uV:=fnD Eh Dg
noncomputable def Ue:List Str:=["book", "time"]
noncomputable def Qk:Dn->Out:=(K1 (vFn (A1 (E4 (D7 (fun δ=>((A0 0) δ).bind D2) C8 [1] (B6 (b2 (b2 (b2 (A0 0) (vC (.int 1)) dIx) (vC (.int 0)) dIx) (A0 1) (K0 .LtE))) (A0 0))) A6) Bu))
noncomputable def V5:List uV->Res uV:=fnD Ue Qk
noncomputable def Ge:List Str:=["book"]
noncomputable def Ha:Dn->Out:=(K1 (vFn (A1 (b2 (E4 (A1 (vC (.int 0)) A6)) (E4 (D7 (fun δ=>((A0 0) δ).bind D2) C8 [] J3 (b2 (b2 (A0 0) (vC (.int 1)) dIx) (vC (.int 0)) dIx))) C6) A6) Dt))
noncomputable def Q7:List uV->Res uV:=fnD Ge Ha
noncomputable def Jt:List Str:=["book", "time"]
noncomputable def Jy:Dn->Out:=(K1 (C0 (A1 (C0 (A1 (A0 0) (A1 (A0 1) A6)) V5) A6) U5))
noncomputable def P1:List uV->Res uV:=fnD Jt Jy
noncomputable def Gf:List Str:=["book", "told", "time"]
noncomputable def Hb:Dn->Out:=(C3 (Hh 1 A6) (C3 (N3 (fun δ=>((C0 (A1 (A0 0) A6) Q7) δ).bind D2) (st1 2) (C3 (Nk (cFz 1 (B6 (b2 (vFn (A1 (A0 1) A6) M4) (A0 2) (K0 .Lt)))) (X2 1 (vFz 1 (b2 (A0 1) (b1 (vC (.int 1)) Pv) dIx)))) (X2 1 (C0 (A1 (A0 0) (A1 (A0 2) A6)) P1)))) (sFz 1 (K1 (A0 1)))))
noncomputable def Aj:List uV->Res uV:=fnD Gf Hb
noncomputable def Hy:List Str:=["book", "place", "shown"]
noncomputable def Ci:Dn->Out:=(C3 (E7 2 (Xs (A1 (A0 0) A6) K7)) (C3 (sIf (pO (B6 (Ib (vC (.int 0)) (A0 1) (vFn (A1 (A0 2) A6) M4) (K0 .LtE) (K0 .Lt)))) (Hf "NoPlace" (A0 1)) F5) (K1 (b2 (b2 (b2 (A0 2) (A0 1) dIx) (vC (.int 0)) dIx) (vC (.int 0)) dIx))))
noncomputable def V9:List uV->Res uV:=fnD Hy Ci
noncomputable def X6:List Str:=["book", "text", "time"]
noncomputable def Z9:Dn->Out:=(C3 (N3 (fun δ=>((C0 (A1 (A0 0) A6) Q7) δ).bind D2) (st1 2) (sIf (B6 (b2 (A0 1) (C0 (A1 (A0 0) (A1 (A0 2) A6)) P1) (dIn false))) (K1 (A0 2)) F5)) (K1 (vC .none)))
noncomputable def M9:List uV->Res uV:=fnD X6 Z9
noncomputable def Gg:List Str:=["book", "undone", "shown", "adds"]
noncomputable def Ig:Dn->Out:=(X4 1 (Gi (A1 (A0 0) A6) E6))
noncomputable def Ie:Dn->Out:=(X4 2 (Nx (E4 (D7 (fun δ=>((C0 (A1 (A0 0) A6) K7) δ).bind D2) C8 [] J3 (E5 (A1 (b2 (b2 (A0 0) (vC (.int 0)) dIx) (vC (.int 0)) dIx) (A1 (vC (.bool true)) A6)))))))
noncomputable def Ic:Dn->Out:=(Ej 3 (D7 (fun δ=>((A0 0) δ).bind D2) C8 [1] (N6 (B6 (b2 (b2 (A0 0) (vC (.int 0)) dIx) (vC (.str "add")) dEq)) (B6 (T0 true 1 (b2 (A0 0) (vC (.int 1)) dIx)))) (A0 0)))
noncomputable def Qf:Dn->Out:=(K1 (E4 (D7 (fun δ=>((A0 3) δ).bind D2) C8 [2] (B6 (T0 true 1 (b2 (A0 0) (vC (.int 1)) dIx))) (E5 (A1 (b2 (A0 0) (vC (.int 1)) dIx) (A1 (b2 (A0 0) (vC (.int 3)) dIx) A6))))))
noncomputable def Va:Dn->Out:=(C3 Ig (C3 Ie (C3 Ic Qf)))
noncomputable def Je:List uV->Res uV:=fnD Gg Va
noncomputable def U9:List Str:=["book", "hand", "undone", "words", "deed"]
noncomputable def Cb:Dn->Out:=(X4 2 (Gi (A1 (A0 0) A6) E6))
noncomputable def Gq:Dn->Out:=(Dh 3)
noncomputable def Ca:Dn->Out:=(dG 3 4 (fun δ=>((A0 0) δ).bind D2) (B6 (b2 (b2 (b2 (A0 4) (vC (.int 1)) dIx) (vC (.int 1)) dIx) (A0 1) dEq)) (b2 (A0 4) (vC (.int 0)) dIx) (T0 true 2 (b2 (A0 4) (vC (.int 1)) dIx)))
noncomputable def Gp:Dn->Out:=(K1 (E4 (D7 (fun δ=>((Rx 3) δ).bind D2) C8 [3] J3 (E5 (A1 (A0 0) (A1 (vFn (A1 (Oy 1 (A0 0)) A6) M4) (A1 (Lg (Oy 1 (A0 0)) (vC (.bool true))) A6)))))))
noncomputable def Jz:Dn->Out:=(C3 Cb (C3 Gq (C3 Ca Gp)))
noncomputable def U7:List uV->Res uV:=fnD U9 Jz
noncomputable def Aw:List Str:=["_law_script", "_law_k"]
noncomputable def Be:Dn->Out:=(C3 (sIf (B6 (b2 (A0 0) (E4 A6) dEq)) (K1 (b2 (vC (.int 7)) (A0 1) O5)) F5) (K1 (b2 (b2 (A0 0) (b2 (A0 1) (vFn (A1 (A0 0) A6) M4) Pw) dIx) (b2 (vC (.int 6553)) (b2 (A0 1) (vFn (A1 (A0 0) A6) M4) Kf) O5) C6)))
noncomputable def W0:List uV->Res uV:=fnD Aw Be
noncomputable def Y0:List Str:=["_law_script", "_law_k", "_law_many", "_law_cell_here"]
noncomputable def Ah:Dn->Out:=(C3 (E7 3 (b2 (b2 (b2 (b2 (C0 (A1 (A0 0) (A1 (A0 1) A6)) W0) (vC (.int 2147483563)) Pw) (vC (.int 69069)) O5) (b2 (vC (.int 104723)) (b2 (A0 1) (vC (.int 1)) C6) O5) C6) (vC (.int 2147483563)) Pw)) (C3 (E7 3 (b2 (b2 (b2 (A0 3) (A0 3) O5) (b2 (A0 3) (vC (.int 3)) Kf) C6) (vC (.int 2147483399)) Pw)) (K1 (b2 (b2 (b2 (b2 (b2 (A0 3) (A0 3) O5) (b2 (A0 3) (vC (.int 7)) Kf) C6) (vC (.int 2147483647)) Pw) (vC (.int 11)) Kf) (A0 2) Pw))))
noncomputable def A7:List uV->Res uV:=fnD Y0 Ah
noncomputable def N2:List Str:=["_law_script", "_law_at", "_law_found", "_law_k", "_law_word"]
noncomputable def W8:Dn->Out:=(Hh 2 A6)
noncomputable def W7:Dn->Out:=(N3 (fun δ=>((A1 (vC (.int 3)) A6) δ).bind Bg) (st1 3) (C3 (E7 4 (b2 (b2 (vC (.str "abcdefghijklmnopqrstuvwxyz")) (C0 (A1 (A0 0) (A1 (b2 (A0 1) (b2 (vC (.int 2)) (A0 3) O5) C6) (A1 (vC (.int 26)) A6))) A7) dIx) (C0 (A1 (A0 0) (A1 (b2 (b2 (A0 1) (b2 (vC (.int 2)) (A0 3) O5) C6) (vC (.int 1)) C6) (A1 (vC (.int 2)) A6))) A7) O5)) (X2 2 (b2 (E4 (A1 (b2 (A0 4) (b2 (vC (.str "xyz")) (A0 3) dIx) C6) (A1 (b2 (b2 (vC (.str "xyz")) (A0 3) dIx) (A0 4) C6) A6))) (C0 (A1 (A0 0) (A1 (b2 (A0 1) (vC (.int 6)) C6) (A1 (vC (.int 2)) A6))) A7) dIx))))
noncomputable def W6:Dn->Out:=(sFz 2 (K1 (A0 2)))
noncomputable def Ag:Dn->Out:=(C3 W8 (C3 W7 W6))
noncomputable def P4:List uV->Res uV:=fnD N2 Ag
noncomputable def X8:List Str:=["_law_script", "_law_at"]
noncomputable def Ab:Dn->Out:=(K1 (Jv "" (E4 (D7 (fun δ=>((A1 (b2 (vC (.int 1)) (C0 (A1 (A0 0) (A1 (b2 (A0 1) (vC (.int 4)) C6) (A1 (vC (.int 4)) A6))) A7) C6) A6) δ).bind Bg) C8 [0,1] J3 (b2 (vC (.str "ab cd~ <")) (C0 (A1 (A0 1) (A1 (b2 (A0 2) (A0 0) C6) (A1 (vC (.int 8)) A6))) A7) dIx)))))
noncomputable def K3:List uV->Res uV:=fnD X8 Ab
noncomputable def X9:List Str:=["_law_book_here", "_law_found", "_law_deed_here"]
noncomputable def Ae:Dn->Out:=(C3 (E7 1 (E4 A6)) (C3 (N3 (fun δ=>((A0 0) δ).bind D2) (st1 2) (sIf (B6 (b2 (b2 (A0 2) (vC (.int 0)) dIx) (vC (.str "add")) dEq)) (E7 1 (b2 (A0 1) (E4 (D7 (fun δ=>((A1 (vFn (A1 (b2 (A0 2) (vC (.int 3)) dIx) A6) M4) A6) δ).bind Bg) C8 [2] J3 (E5 (A1 (b2 (A0 1) (vC (.int 1)) dIx) (A1 (A0 0) A6))))) C6)) F5)) (K1 (A0 1))))
noncomputable def P2:List uV->Res uV:=fnD X9 Ae
noncomputable def V7:List Str:=["_law_script", "_law_at", "_law_signs_here", "_law_sign"]
noncomputable def X1:Dn->Out:=(C3 (E7 3 (b2 (b2 (E4 (A1 (vC .none) A6)) (A0 2) C6) (C0 (A1 (A0 0) (A1 (A0 1) (A1 (b2 (vFn (A1 (A0 2) A6) M4) (vC (.int 1)) C6) A6))) A7) dIx)) (K1 (E5 (A1 (A0 3) (A1 (b2 (vC (.str "lr")) (C0 (A1 (A0 0) (A1 (b2 (A0 1) (vC (.int 1)) C6) (A1 (vC (.int 2)) A6))) A7) dIx) A6)))))
noncomputable def M0:List uV->Res uV:=fnD V7 X1
noncomputable def F8:List Str:=["_law_script", "_law_at", "_law_one", "_law_known", "_law_names_here", "_law_signs_here", "_law_way", "_law_behind", "_law_some", "_law_ends"]
noncomputable def Y9:Dn->Out:=(E7 5 (C0 (A1 (A0 3) A6) P2))
noncomputable def Y8:Dn->Out:=(E7 6 (C0 (A1 (A0 0) (A1 (A0 1) (A1 (vC (.int 12)) A6))) A7))
noncomputable def Y7:Dn->Out:=(sIf (N6 (B6 (b2 (A0 6) (vC (.int 2)) (K0 .Lt))) (B6 (b2 (A0 5) (E4 A6) dNe))) (C3 (Ej 8 (D7 (fun δ=>((A1 (A0 5) A6) δ).bind Od) Kh [0,1] (B6 (b2 (C0 (A1 (A0 2) (A1 (b2 (b2 (A0 3) (vC (.int 20)) C6) (A0 0) C6) (A1 (vC (.int 4)) A6))) A7) (vC (.int 0)) dEq)) (A0 1))) (K1 (E5 (A1 (vC (.str "drop")) (A1 (A0 2) (A1 (vFn (A1 (b2 (A0 8) (b2 (vSl (A0 5) Bq (X5 (vC (.int 1)))) (vFn (A1 (b2 (A0 8) (E4 A6) dEq) A6) Rj) O5) C6) A6) Bu) A6)))))) F5)
noncomputable def Y6:Dn->Out:=(sIf (B6 (b2 (A0 6) (vC (.int 5)) (K0 .Lt))) (C3 (E7 9 (E5 (A1 (C0 (A1 (A0 0) (A1 (b2 (A0 1) (vC (.int 1)) C6) (A1 (A0 5) A6))) M0) (A1 (C0 (A1 (A0 0) (A1 (b2 (A0 1) (vC (.int 3)) C6) (A1 (A0 5) A6))) M0) A6)))) (K1 (b2 (E5 (A1 (vC (.str "mark")) (A1 (A0 2) (A1 (b2 (A0 4) (C0 (A1 (A0 0) (A1 (b2 (A0 1) (vC (.int 5)) C6) (A1 (vC (.int 3)) A6))) A7) dIx) A6)))) (A0 9) C6))) F5)
noncomputable def Y5:Dn->Out:=(sIf (B6 (b2 (A0 6) (vC (.int 5)) dEq)) (K1 (E5 (A1 (vC (.str "unmark")) (A1 (A0 2) (A1 (b2 (A0 4) (C0 (A1 (A0 0) (A1 (b2 (A0 1) (vC (.int 5)) C6) (A1 (vC (.int 3)) A6))) A7) dIx) A6))))) F5)
noncomputable def Y4:Dn->Out:=(sIf (N6 (B6 (b2 (A0 6) (vC (.int 8)) (K0 .Lt))) (B6 (b2 (A0 3) (E5 A6) dNe))) (K1 (E5 (A1 (vC (.str "undo")) (A1 (A0 2) (A1 (b2 (b2 (A0 3) (C0 (A1 (A0 0) (A1 (b2 (A0 1) (vC (.int 6)) C6) (A1 (vFn (A1 (A0 3) A6) M4) A6))) A7) dIx) (vC (.int 1)) dIx) A6))))) F5)
noncomputable def Y3:Dn->Out:=(E7 7 (b2 (b2 (b2 (E4 (A1 (vC .none) A6)) (A0 5) C6) (vSl (A0 5) (X5 (b1 (vC (.int 3)) Pv)) Bq) C6) (C0 (A1 (A0 0) (A1 (b2 (A0 1) (vC (.int 7)) C6) (A1 (b2 (b2 (vFn (A1 (A0 5) A6) M4) (vC (.int 1)) C6) (vFn (A1 (vSl (A0 5) (X5 (b1 (vC (.int 3)) Pv)) Bq) A6) M4) C6) A6))) A7) dIx))
noncomputable def Y2:Dn->Out:=(K1 (E5 (A1 (vC (.str "add")) (A1 (A0 2) (A1 (A0 7) (A1 (C0 (A1 (A0 0) (A1 (b2 (A0 1) (vC (.int 8)) C6) A6)) K3) A6))))))
noncomputable def Bd:Dn->Out:=(C3 Y9 (C3 Y8 (C3 Y7 (C3 Y6 (C3 Y5 (C3 Y4 (C3 Y3 Y2)))))))
noncomputable def M6:List uV->Res uV:=fnD F8 Bd
noncomputable def M7:List Str:=["_law_script", "_law_at", "_law_most", "_law_names_here", "_law_found", "_law_one", "_law_k", "_law_time", "_law_hand", "_law_known"]
noncomputable def Z8:Dn->Out:=(E7 4 (E5 A6))
noncomputable def Z5:Dn->Out:=(E7 5 (E5 (A1 (vC (.int 1)) (A1 (vC (.str "a")) A6))))
noncomputable def Z4:Dn->Out:=(N3 (fun δ=>((A1 (C0 (A1 (A0 0) (A1 (A0 1) (A1 (b2 (A0 2) (vC (.int 1)) C6) A6))) A7) A6) δ).bind Bg) (st1 6) (C3 (E7 7 (b2 (b2 (A0 5) (vC (.int 0)) dIx) (C0 (A1 (A0 0) (A1 (b2 (b2 (A0 1) (vC (.int 1)) C6) (b2 (vC (.int 60)) (A0 6) O5) C6) (A1 (vC (.int 2)) A6))) A7) C6)) (C3 (E7 8 (b2 (vC (.str "abc")) (C0 (A1 (A0 0) (A1 (b2 (b2 (A0 1) (vC (.int 2)) C6) (b2 (vC (.int 60)) (A0 6) O5) C6) (A1 (vC (.int 3)) A6))) A7) dIx)) (C3 (sIf (N6 (B6 (b2 (A0 4) (E5 A6) dNe)) (B6 (b2 (E5 (A1 (A0 7) (A1 (A0 8) A6))) (A0 5) (K0 .LtE)))) (E7 7 (b2 (b2 (A0 5) (vC (.int 0)) dIx) (vC (.int 1)) C6)) F5) (C3 (E7 5 (E5 (A1 (A0 7) (A1 (A0 8) A6)))) (C3 (E7 9 (vFn (A1 (E4 (D7 (fun δ=>((A0 4) δ).bind D2) C8 [7] (B6 (b2 (b2 (b2 (A0 0) (vC (.int 1)) dIx) (vC (.int 0)) dIx) (A0 1) (K0 .Lt))) (A0 0))) A6) Bu)) (E7 4 (b2 (A0 4) (E5 (A1 (C0 (A1 (A0 0) (A1 (b2 (b2 (A0 1) (vC (.int 3)) C6) (b2 (vC (.int 60)) (A0 6) O5) C6) (A1 (A0 5) (A1 (A0 9) (A1 (A0 3) A6))))) M6) A6)) C6))))))))
noncomputable def Z0:Dn->Out:=(K1 (A0 4))
noncomputable def Bf:Dn->Out:=(C3 Z8 (C3 Z5 (C3 Z4 Z0)))
noncomputable def W1:List uV->Res uV:=fnD M7 Bf
noncomputable def N1:List Str:=["_law_book_here", "_law_found", "_law_deed_here", "_law_at"]
noncomputable def Cw:Dn->Out:=(E7 1 (E4 A6))
noncomputable def W5:Dn->Out:=(N3 (fun δ=>((A0 0) δ).bind D2) (st1 2) (sIf (B6 (b2 (b2 (A0 2) (vC (.int 0)) dIx) (vC (.str "add")) dEq)) (C3 (E7 3 (vIf (fun δ=>((b2 (A0 2) (vC (.int 2)) dIx) δ).bind fun d=>.ok (Nz d)) (vC (.int 0)) (b2 (Dw (A0 1) (b2 (A0 2) (vC (.int 2)) dIx)) (vC (.int 1)) C6))) (E7 1 (b2 (b2 (vSl (A0 1) Bq (X5 (A0 3))) (E4 (D7 (fun δ=>((A1 (vFn (A1 (b2 (A0 2) (vC (.int 3)) dIx) A6) M4) A6) δ).bind Bg) C8 [2] J3 (E5 (A1 (b2 (A0 1) (vC (.int 1)) dIx) (A1 (A0 0) A6))))) C6) (vSl (A0 1) (X5 (A0 3)) Bq) C6))) F5))
noncomputable def Cv:Dn->Out:=(K1 (A0 1))
noncomputable def Af:Dn->Out:=(C3 Cw (C3 W5 Cv))
noncomputable def P3:List uV->Res uV:=fnD N1 Af
noncomputable def T7:List Str:=["_law_book_here", "_law_off", "_law_deed_here"]
noncomputable def U4:Dn->Out:=(C3 (Hh 1 A6) (C3 (N3 (fun δ=>((b1 (A0 0) pE) δ).bind D2) (st1 2) (sIf (cFz 1 (N6 (B6 (b2 (b2 (A0 2) (vC (.int 0)) dIx) (vC (.str "undo")) dEq)) (B6 (b2 (b2 (A0 2) (vC (.int 1)) dIx) (A0 1) (dIn true))))) (X2 1 (b2 (A0 2) (vC (.int 2)) dIx)) F5)) (sFz 1 (K1 (E4 (D7 (fun δ=>((A0 0) δ).bind D2) C8 [1] (B6 (b2 (b2 (A0 0) (vC (.int 1)) dIx) (A0 1) (dIn true))) (b2 (A0 0) (vC (.int 1)) dIx)))))))
noncomputable def D8:List uV->Res uV:=fnD T7 U4
noncomputable def L8:List Str:=["_law_book_here", "_law_there_here", "_law_gone", "_law_deed_here"]
noncomputable def Cu:Dn->Out:=(E7 1 (C0 (A1 (A0 0) A6) D8))
noncomputable def Ct:Dn->Out:=(E7 2 (E4 A6))
noncomputable def W4:Dn->Out:=(N3 (fun δ=>((A0 0) δ).bind D2) (st1 3) (sIf (N6 (B6 (b2 (b2 (A0 3) (vC (.int 0)) dIx) (vC (.str "drop")) dEq)) (B6 (b2 (b2 (A0 3) (vC (.int 1)) dIx) (A0 1) (dIn false)))) (E7 2 (b2 (A0 2) (vFn (A1 (b2 (A0 3) (vC (.int 2)) dIx) A6) Jl) C6)) F5))
noncomputable def Cs:Dn->Out:=(K1 (E4 (D7 (fun δ=>((C0 (A1 (A0 0) A6) P3) δ).bind D2) C8 [1,2] (N6 (B6 (b2 (b2 (A0 0) (vC (.int 0)) dIx) (A0 1) (dIn false))) (B6 (b2 (A0 0) (A0 2) (dIn true)))) (A0 0))))
noncomputable def Ac:Dn->Out:=(C3 Cu (C3 Ct (C3 W4 Cs)))
noncomputable def I9:List uV->Res uV:=fnD L8 Ac
noncomputable def Av:List Str:=["_law_book_here", "_law_signs_here", "_law_texts"]
noncomputable def Bc:Dn->Out:=(C3 (X4 2 (Nx (E4 (D7 (fun δ=>((A0 0) δ).bind D2) C8 [] (B6 (b2 (b2 (A0 0) (vC (.int 0)) dIx) (vC (.str "add")) dEq)) (E5 (A1 (b2 (A0 0) (vC (.int 1)) dIx) (A1 (b2 (A0 0) (vC (.int 3)) dIx) A6))))))) (K1 (Jv "" (E4 (D7 (fun δ=>((A0 1) δ).bind D2) C8 [2] J3 (b2 (Oy 1 (b2 (A0 0) (vC (.int 0)) dIx)) (b2 (A0 0) (vC (.int 1)) dIx) dIx))))))
noncomputable def M5:List uV->Res uV:=fnD Av Bc
noncomputable def Gh:List Str:=["_law_book_here", "_law_place", "e", "_law_flags"]
noncomputable def Hd:Dn->Out:=(rQ (A1 (A0 0) (A1 (A0 1) A6)) V9)
noncomputable def M1:List uV->Res uV:=fnD Gh Hd
noncomputable def V0:List Str:=["_law_book_here", "_law_hand", "_law_on", "_law_found", "_law_word", "_law_deeds"]
noncomputable def Gu:Dn->Out:=(E7 2 (C0 (A1 (A0 0) A6) D8))
noncomputable def Gs:Dn->Out:=(Hh 3 A6)
noncomputable def Cc:Dn->Out:=(N3 (fun δ=>((E4 (A1 (vC (.str "add")) (A1 (vC (.str "drop")) (A1 (vC (.str "mark")) (A1 (vC (.str "undo")) (A1 (vC (.str "unmark")) A6)))))) δ).bind D2) (st1 4) (C3 (Ej 5 (D7 (fun δ=>((A0 0) δ).bind D2) C8 [4,1] (N6 (B6 (b2 (b2 (A0 0) (vC (.int 0)) dIx) (A0 1) dEq)) (B6 (b2 (b2 (b2 (A0 0) (vC (.int 1)) dIx) (vC (.int 1)) dIx) (A0 2) dEq))) (b2 (A0 0) (vC (.int 1)) dIx))) (sIf (B6 (b2 (A0 5) (E4 A6) dNe)) (X2 3 (E5 (A1 (A0 4) (A1 (vFn (A1 (A0 5) A6) M4) (A1 (vFn (A1 (E4 (D7 (fun δ=>((A0 5) δ).bind D2) C8 [2] (B6 (b2 (A0 0) (A0 1) (dIn false))) (A0 0))) A6) M4) A6))))) F5)))
noncomputable def Gr:Dn->Out:=(sFz 3 (K1 (A0 3)))
noncomputable def Ka:Dn->Out:=(C3 Gu (C3 Gs (C3 Cc Gr)))
noncomputable def U8:List uV->Res uV:=fnD V0 Ka
noncomputable def T6:List Str:=["_law_script", "_law_book_here", "_law_there_here", "_law_last", "_law_texts", "_law_time", "_law_piece", "_law_start", "_law_word", "_law_on", "_law_kept", "_law_gone", "_law_less", "_law_times"]
noncomputable def Uu:Dn->Out:=(E7 1 (C0 (A1 (A0 0) (A1 (vC (.int 10)) (A1 (vC (.int 9)) (A1 (C0 (A1 (A0 0) (A1 (vC (.int 0)) A6)) P4) A6)))) W1))
noncomputable def Ut:Dn->Out:=(E7 2 (C0 (A1 (A0 1) A6) I9))
noncomputable def Us:Dn->Out:=(E7 3 (vFn (A1 (b2 (E4 (A1 (vC (.int 0)) A6)) (E4 (D7 (fun δ=>((A0 1) δ).bind D2) C8 [] J3 (b2 (b2 (A0 0) (vC (.int 1)) dIx) (vC (.int 0)) dIx))) C6) A6) Wx))
noncomputable def Ur:Dn->Out:=(Hh 4 A6)
noncomputable def Md:Dn->Out:=(N3 (fun δ=>((A1 (b2 (A0 3) (vC (.int 1)) C6) A6) δ).bind Bg) (st1 5) (C3 (E7 12 (vFn (A1 (E4 (D7 (fun δ=>((A0 1) δ).bind D2) C8 [5] (B6 (b2 (b2 (b2 (A0 0) (vC (.int 1)) dIx) (vC (.int 0)) dIx) (A0 1) (K0 .LtE))) (A0 0))) A6) Bu)) (C3 (X2 4 (C0 (A1 (A0 12) (A1 (C0 (A1 (A0 12) A6) I9) A6)) M5)) (sIf (B6 (b2 (C0 (A1 (A0 1) (A1 (A0 5) A6)) V5) (A0 12) dNe)) (K1 (vC (.bool false))) F5))))
noncomputable def Mc:Dn->Out:=(sIf (cFz 4 (cOr (B6 (b2 (C0 (A1 (A0 1) A6) Aj) (A0 4) dNe)) (B6 (b2 (C0 (A1 (A0 1) (A1 (b2 (A0 3) (vC (.int 5)) C6) A6)) V5) (A0 1) dNe)))) (K1 (vC (.bool false))) F5)
noncomputable def Go:Dn->Out:=(sIf (B6 (b2 (E4 (D7 (fun δ=>((A1 (vFn (A1 (A0 2) A6) M4) A6) δ).bind Bg) C8 [1,2] (B6 (b2 (C0 (A1 (A0 1) (A1 (A0 0) A6)) M1) (b2 (b2 (A0 2) (A0 0) dIx) (vC (.int 0)) dIx) dNe)) (A0 0))) (E4 A6) dNe)) (K1 (vC (.bool false))) F5)
noncomputable def Gn:Dn->Out:=(sIf (cOr (B6 (b1 (C0 (A1 (A0 1) (A1 (b1 (vC (.int 1)) Pv) A6)) M1) bM)) (B6 (b1 (C0 (A1 (A0 1) (A1 (vFn (A1 (A0 2) A6) M4) A6)) M1) bM))) (K1 (vC (.bool false))) F5)
noncomputable def Mb:Dn->Out:=(sFz 4 (E7 6 (b2 (A0 4) (C0 (A1 (A0 0) (A1 (vC (.int 600)) (A1 (b2 (A0 3) (vC (.int 1)) C6) A6))) A7) dIx)))
noncomputable def Uq:Dn->Out:=(E7 7 (C0 (A1 (A0 0) (A1 (vC (.int 601)) (A1 (b2 (vFn (A1 (A0 6) A6) M4) (vC (.int 1)) C6) A6))) A7))
noncomputable def Ih:Dn->Out:=(N3 (fun δ=>((E5 (A1 (qY (A0 6) (X5 (A0 7)) (X5 (b2 (A0 7) (C0 (A1 (A0 0) (A1 (vC (.int 602)) (A1 (vC (.int 4)) A6))) A7) C6))) (A1 (C0 (A1 (A0 0) (A1 (vC (.int 603)) A6)) K3) (A1 (vC (.str "")) A6)))) δ).bind D2) (st1 8) (C3 (Ej 13 (D7 (fun δ=>((A1 (b2 (A0 3) (vC (.int 1)) C6) A6) δ).bind Bg) C8 [8,4] (B6 (b2 (A0 1) (b2 (A0 2) (A0 0) dIx) (dIn false))) (A0 0))) (sIf (B6 (b2 (C0 (A1 (A0 1) (A1 (A0 8) A6)) M9) (b2 (b2 (A0 13) (E4 (A1 (vC .none) A6)) C6) (vC (.int 0)) dIx) dNe)) (K1 (vC (.bool false))) F5)))
noncomputable def Qg:Dn->Out:=(E7 9 (C0 (A1 (A0 1) A6) D8))
noncomputable def Ea:Dn->Out:=(E7 10 (E4 (D7 (fun δ=>((A0 2) δ).bind D2) C8 [] J3 (b2 (A0 0) (vC (.int 0)) dIx))))
noncomputable def Dz:Dn->Out:=(Ej 11 (D7 (fun δ=>((A0 1) δ).bind D2) C8 [9,10] (N6 (B6 (b2 (b2 (A0 0) (vC (.int 0)) dIx) (vC (.str "add")) dEq)) (N6 (B6 (b2 (b2 (A0 0) (vC (.int 1)) dIx) (A0 1) (dIn false))) (B6 (b2 (b2 (A0 0) (vC (.int 1)) dIx) (A0 2) (dIn true))))) (A0 0)))
noncomputable def Dy:Dn->Out:=(sIf (B6 (b2 (C0 (A1 (A0 1) A6) Je) (E4 (D7 (fun δ=>((A0 11) δ).bind D2) C8 [] J3 (E5 (A1 (b2 (A0 0) (vC (.int 1)) dIx) (A1 (b2 (A0 0) (vC (.int 3)) dIx) A6))))) dNe)) (K1 (vC (.bool false))) F5)
noncomputable def Dx:Dn->Out:=(K1 (b2 (E4 (D7 (fun δ=>((vC (.str "abcd")) δ).bind D2) C8 [1] (B6 (b2 (C0 (A1 (A0 1) (A1 (A0 0) A6)) U7) (C0 (A1 (A0 1) (A1 (A0 0) A6)) U8) dNe)) (A0 0))) (E4 A6) dEq))
noncomputable def aI:Dn->Out:=(C3 Uu (C3 Ut (C3 Us (C3 Ur (C3 Md (C3 Mc (C3 Go (C3 Gn (C3 Mb (C3 Uq (C3 Ih (C3 Qg (C3 Ea (C3 Dz (C3 Dy Dx)))))))))))))))
noncomputable def bA:List uV->Res uV:=fnD T6 aI
end Sm
end
noncomputable section
namespace Sm
open PySem PySem.Spec PyProof.Rows L2
variable {P:vU} {w:wD} {K:vB} {mg:Str->Option uY} {base:wT} {X:Cx}
theorem Nf:FnScope Q0 ["deed"] (A4 (top 6)):=⟨rfl,rfl,rfl,by decide +kernel,rfl,by decide +kernel,by decide +kernel⟩
theorem Jm  (T:Txt mg) (C:Cxt P w K mg base X Q0 (A4 (top 6)) 0 true):DSs X E0k (B4 (top 6)) Q3 :=
 (B9 (F2 (bK (Ei C (C7 (A2 C 0 ⋯) A8) L7) (T9 C ⋯ T.b_len (A3 (C7 (A2 C 0 ⋯) A8) A9)) A8)))
theorem Nh:FnScope V6 ["book"] (A4 (top 8)):=⟨rfl,rfl,rfl,by decide +kernel,rfl,by decide +kernel,by decide +kernel⟩
theorem Jo  (T:Txt mg) (F_signs_added:Fn P w K mg base "signs_added" 1 1 F1) (C:Cxt P w K mg base X V6 (A4 (top 8)) 1 true):DSN X E0k (B4 (top 8)) X0 :=
 (Jb (Lj C 1 ⋯) (Jb (qI C 1 2 ⋯ ⋯ (G9 (A2 C 0 ⋯)) (t_gt C (C5 C F_signs_added (by decide) ⋯ (A3 (A2 C 2 ⋯) A9)) A8) (C7 (A2 C 2 ⋯) A8) (A2 C 2 ⋯) ⟨rfl,rfl,rfl,rfl⟩ (fun _=>rfl) rfl rfl rfl rfl rfl rfl) (jH C 1 ⋯)))
theorem Vd:FnScope N0 ["book"] (A4 (top 9)):=⟨rfl,rfl,rfl,by decide +kernel,rfl,by decide +kernel,by decide +kernel⟩
theorem Pf  (T:Txt mg) (F_adds_behind:FnN P w K mg base "adds_behind" 2 1 N8) (C:Cxt P w K mg base X N0 (A4 (top 9)) 2 true):DS X E0k (stm 9 0) Ba :=
 (Fg C 1 ⋯ (Te C F_adds_behind (by decide) ⋯ (A3 (A2 C 0 ⋯) A9)))
theorem Pe  (T:Txt mg) (C:Cxt P w K mg base X N0 (A4 (top 9)) 2 true):DS X E0k (stm 9 1) Az :=
 (Ym C 2 ⋯ ⋯ [] [] ⋯ (G9 (kR C 1 ⋯ Oi (E9 (N5 A9)))) (fun X' C'=>U1) (fun X' C'=>(L6 (A3 (A2 C' 0 ⋯) (A3 A8 A9)))))
theorem Pd  (T:Txt mg) (C:Cxt P w K mg base X N0 (A4 (top 9)) 2 true):DS X E0k (stm 9 2) Es :=
 (Nj C 3 ⋯ (N5 A9))
theorem Pc  (T:Txt mg) (C:Cxt P w K mg base X N0 (A4 (top 9)) 2 true):DS X E0k (stm 9 3) Ay :=
 (aJ C (t_own C 2 ⋯) (B0 (s_pop C 2 4 ⋯ ⋯) (B0 (F9 C 5 ⋯ (C7 (A2 C 4 ⋯) A8)) (B0 (F9 C 6 ⋯ (C7 (A2 C 4 ⋯) A8)) (B0 (F9 C 7 ⋯ (L6 (A3 (C7 (A2 C 5 ⋯) A8) (A3 (A2 C 6 ⋯) A9)))) (B0 (He C 3 ⋯ (L6 (A3 (A2 C 7 ⋯) (A3 (C7 (C7 (A2 C 5 ⋯) A8) (A2 C 6 ⋯)) A9)))) (B0 (Am (cK C (D3 (A2 C 6 ⋯) A8) (T9 C ⋯ T.b_len (A3 (C7 (A2 C 5 ⋯) A8) A9))) (B9 (He C 2 ⋯ (L6 (A3 (A2 C 5 ⋯) (A3 (D3 (A2 C 6 ⋯) A8) A9))))) K9) (B9 (s_ext C 2 ⋯ (F7 C [] [] ⋯ (G9 (kR C 1 ⋯ (A2 C 7 ⋯) (E9 (N5 A9)))) (fun X' C'=>U1) (fun X' C'=>(L6 (A3 (A2 C' 0 ⋯) (A3 A8 A9))))))))))))))
theorem Pb  (T:Txt mg) (C:Cxt P w K mg base X N0 (A4 (top 9)) 2 true):DS X E0k (stm 9 4) Er :=
 (Yo 3 (F2 (A2 C 3 ⋯)))
theorem Qa  (T:Txt mg) (F_adds_behind:FnN P w K mg base "adds_behind" 2 1 N8) (C:Cxt P w K mg base X N0 (A4 (top 9)) 2 true):DSs X E0k (B4 (top 9)) Cg:=by
 have h:B4 (top 9)=[stm 9 0,stm 9 1,stm 9 2,stm 9 3,stm 9 4]:=by kernel_rfl
 rw [h];exact (B0 (Pf T F_adds_behind C) (B0 (Pe T C) (B0 (Pd T C) (B0 (Pc T C) (B9 (Pb T C))))))
theorem Sr:FnScope Au ["book"] (A4 (top 10)):=⟨rfl,rfl,rfl,by decide +kernel,rfl,by decide +kernel,by decide +kernel⟩
theorem Oo  (T:Txt mg) (C:Cxt P w K mg base X Au (A4 (top 10)) 0 true):DSN X E0k (B4 (top 10)) Bb :=
 (Jb (Lj C 1 ⋯) (Jb (Q4 C 2 ⋯ (i_rev C ⋯ T.b_reversed (A2 C 0 ⋯)) (B9 (Am (w_t (Cr (Ei C (C7 (A2 C 2 ⋯) A8) L7) (Y1 (Gm C 1 ⋯ (C7 (A2 C 2 ⋯) A8))))) (B9 (hU C 1 ⋯ (C7 (A2 C 2 ⋯) A8) Bi)) K9))) (jH C 1 ⋯)))
theorem Pi:FnScope X7 ["book", "undone"] (A4 (top 11)):=⟨rfl,rfl,rfl,by decide +kernel,rfl,by decide +kernel,by decide +kernel⟩
theorem Kz  (T:Txt mg) (C:Cxt P w K mg base X X7 (A4 (top 11)) 0 true):DSN X E0k (B4 (top 11)) Aa :=
 (Jb (Lj C 2 ⋯) (Jb (Q4 C 3 ⋯ (G9 (A2 C 0 ⋯)) (B9 (Am (w_t (Cr (Ei C (C7 (A2 C 3 ⋯) A8) L7) (Y1 (Gm C 1 ⋯ (C7 (A2 C 3 ⋯) A8))))) (B9 (Q4 C 4 ⋯ (G9 (C7 (A2 C 3 ⋯) A8)) (B9 (hU C 2 ⋯ (A2 C 4 ⋯) Bi)))) K9))) (jH C 2 ⋯)))
theorem Ng:FnScope J2 ["book"] (A4 (top 12)):=⟨rfl,rfl,rfl,by decide +kernel,rfl,by decide +kernel,by decide +kernel⟩
theorem Io  (T:Txt mg) (F_undone_in:FnN P w K mg base "undone_in" 1 1 E6) (C:Cxt P w K mg base X J2 (A4 (top 12)) 3 true):DS X E0k (stm 12 0) U3 :=
 (Fg C 1 ⋯ (Te C F_undone_in (by decide) ⋯ (A3 (A2 C 0 ⋯) A9)))
theorem Im  (T:Txt mg) (F_dropped_in:FnSN P w K mg base "dropped_in" 1 2 L3) (C:Cxt P w K mg base X J2 (A4 (top 12)) 3 true):DS X E0k (stm 12 1) U2 :=
 (s_fzN 1 (Fg C 2 ⋯ (jI C F_dropped_in (by decide) ⋯ (A2 C 0 ⋯) 1 ⋯)))
theorem Il  (T:Txt mg) (C:Cxt P w K mg base X J2 (A4 (top 12)) 3 true):DS X E0k (stm 12 2) Bn :=
 (Nj C 3 ⋯ (N5 A9))
theorem Ik  (T:Txt mg) (F_signs_of:Fn P w K mg base "signs_of" 3 1 U6) (C:Cxt P w K mg base X J2 (A4 (top 12)) 3 true):DS X E0k (stm 12 3) O7 :=
 (Q4 C 4 ⋯ (G9 (C5 C F_signs_of (by decide) ⋯ (A3 (A2 C 0 ⋯) A9))) (B9 (He C 3 ⋯ (L6 (A3 (A2 C 4 ⋯) (A3 (d_and (Oh C 1 ⋯ (C7 (C7 (A2 C 4 ⋯) A8) A8)) (d_one (Oh C 2 ⋯ (C7 (A2 C 4 ⋯) A8)))) A9))))))
theorem Ij  (T:Txt mg) (C:Cxt P w K mg base X J2 (A4 (top 12)) 3 true):DS X E0k (stm 12 4) Bm :=
 (Yo 3 (F2 (A2 C 3 ⋯)))
theorem Jn  (T:Txt mg) (F_dropped_in:FnSN P w K mg base "dropped_in" 1 2 L3) (F_signs_of:Fn P w K mg base "signs_of" 3 1 U6) (F_undone_in:FnN P w K mg base "undone_in" 1 1 E6) (C:Cxt P w K mg base X J2 (A4 (top 12)) 3 true):DSs X E0k (B4 (top 12)) W9:=by
 have h:B4 (top 12)=[stm 12 0,stm 12 1,stm 12 2,stm 12 3,stm 12 4]:=by kernel_rfl
 rw [h];exact (B0 (Io T F_undone_in C) (B0 (Im T F_dropped_in C) (B0 (Il T C) (B0 (Ik T F_signs_of C) (B9 (Ij T C))))))
theorem Ve:FnScope Cq ["book"] (A4 (top 13)):=⟨rfl,rfl,rfl,by decide +kernel,rfl,by decide +kernel,by decide +kernel⟩
theorem Qb  (T:Txt mg) (F_presence_in:Fn P w K mg base "presence_in" 4 1 P8) (C:Cxt P w K mg base X Cq (A4 (top 13)) 4 true):DSs X E0k (B4 (top 13)) Ch :=
 (B9 (F2 (E9 (F7 C [] [] ⋯ (G9 (C5 C F_presence_in (by decide) ⋯ (A3 (A2 C 0 ⋯) A9))) (fun X' C'=>(P6 (t_val (C7 (A2 C' 0 ⋯) A8)))) (fun X' C'=>(C7 (A2 C' 0 ⋯) A8))))))
theorem Yi:FnScope Eh ["book"] (A4 (top 14)):=⟨rfl,rfl,rfl,by decide +kernel,rfl,by decide +kernel,by decide +kernel⟩
theorem Tz  (T:Txt mg) (F_shown_in:Fn P w K mg base "shown_in" 5 1 K7) (C:Cxt P w K mg base X Eh (A4 (top 14)) 5 true):DSs X E0k (B4 (top 14)) Dg :=
 (B9 (F2 (Zl (E9 (F7 C [] [] ⋯ (G9 (C5 C F_shown_in (by decide) ⋯ (A3 (A2 C 0 ⋯) A9))) (fun X' C'=>U1) (fun X' C'=>(C7 (A2 C' 0 ⋯) A8)))))))
theorem gX:FnScope Ue ["book", "time"] (A4 (top 16)):=⟨rfl,rfl,rfl,by decide +kernel,rfl,by decide +kernel,by decide +kernel⟩
theorem Zu  (T:Txt mg) (C:Cxt P w K mg base X Ue (A4 (top 16)) 0 true):DSs X E0k (B4 (top 16)) Qk :=
 (B9 (F2 (Tt C ⋯ T.b_tuple (A3 (E9 (F7 C [1] ["time"] ⋯ (G9 (A2 C 0 ⋯)) (fun X' C'=>(P6 (rD C' (C7 (C7 (A2 C' 0 ⋯) A8) A8) (A2 C' 1 ⋯)))) (fun X' C'=>(A2 C' 0 ⋯)))) A9))))
theorem Vb:FnScope Ge ["book"] (A4 (top 17)):=⟨rfl,rfl,rfl,by decide +kernel,rfl,by decide +kernel,by decide +kernel⟩
theorem Py  (T:Txt mg) (C:Cxt P w K mg base X Ge (A4 (top 17)) 0 true):DSs X E0k (B4 (top 17)) Ha :=
 (B9 (F2 (fD C ⋯ T.b_sorted ⋯ T.b_set (A3 (D3 (E9 (N5 (A3 A8 A9))) (E9 (F7 C [] [] ⋯ (G9 (A2 C 0 ⋯)) (fun X' C'=>U1) (fun X' C'=>(C7 (C7 (A2 C' 0 ⋯) A8) A8))))) A9))))
theorem Yj:FnScope Jt ["book", "time"] (A4 (top 18)):=⟨rfl,rfl,rfl,by decide +kernel,rfl,by decide +kernel,by decide +kernel⟩
theorem Ua  (T:Txt mg) (F_as_of:Fn P w K mg base "as_of" 1 2 V5) (F_text_of:Fn P w K mg base "text_of" 6 1 U5) (C:Cxt P w K mg base X Jt (A4 (top 18)) 6 true):DSs X E0k (B4 (top 18)) Jy :=
 (B9 (F2 (C5 C F_text_of (by decide) ⋯ (A3 (C5 C F_as_of (by decide) ⋯ (A3 (A2 C 0 ⋯) (A3 (A2 C 1 ⋯) A9))) A9))))
theorem Vc:FnScope Gf ["book"] (A4 (top 19)):=⟨rfl,rfl,rfl,by decide +kernel,rfl,by decide +kernel,by decide +kernel⟩
theorem Pz  (T:Txt mg) (F_text_at:Fn P w K mg base "text_at" 7 2 P1) (F_times_of:Fn P w K mg base "times_of" 1 1 Q7) (C:Cxt P w K mg base X Gf (A4 (top 19)) 7 true):DSs X E0k (B4 (top 19)) Hb :=
 (B0 (Nj C 1 ⋯ (N5 A9)) (B0 (Q4 C 2 ⋯ (G9 (C5 C F_times_of (by decide) ⋯ (A3 (A2 C 0 ⋯) A9))) (B0 (aJ C (Yb 1 (cK C (T9 C ⋯ T.b_len (A3 (A2 C 1 ⋯) A9)) (A2 C 2 ⋯))) (B9 (He C 1 ⋯ (uE 1 (C7 (A2 C 1 ⋯) (bJ A8)))))) (B9 (He C 1 ⋯ (C5 C F_text_at (by decide) ⋯ (A3 (A2 C 0 ⋯) (A3 (A2 C 2 ⋯) A9))))))) (B9 (Yo 1 (F2 (A2 C 1 ⋯))))))
theorem dE:FnScope Hy ["book", "place"] (A4 (top 20)):=⟨rfl,rfl,rfl,by decide +kernel,rfl,by decide +kernel,by decide +kernel⟩
theorem Xf  {CN:vG} {Ex:XK} (O:ExcAt K mg "NoPlace" CN) (L:Lv X Ex) (hex:X.ex=[]) (T:Txt mg) (F_shown_in:Fn P w K mg base "shown_in" 5 1 K7) (C:Cxt P w K mg base X Hy (A4 (top 20)) 5 true):DSs X (eX CN Ex) (B4 (top 20)) Ci :=
 (B0 (F9 C 2 ⋯ (pD C F_shown_in (by decide) ⋯ (A3 (A2 C 0 ⋯) A9))) (B0 (Am (t_not (Uo C A8 (A2 C 1 ⋯) (T9 C ⋯ T.b_len (A3 (A2 C 2 ⋯) A9)))) (B9 (hJ (p4:=⟨0,0,0,0⟩) C L hex C.room.gd O ⋯ (A2 C 1 ⋯))) K9) (B9 (F2 (C7 (C7 (C7 (A2 C 2 ⋯) (A2 C 1 ⋯)) A8) A8)))))
theorem Ph:FnScope X6 ["book", "text"] (A4 (top 21)):=⟨rfl,rfl,rfl,by decide +kernel,rfl,by decide +kernel,by decide +kernel⟩
theorem Ky  (T:Txt mg) (F_text_at:Fn P w K mg base "text_at" 7 2 P1) (F_times_of:Fn P w K mg base "times_of" 1 1 Q7) (C:Cxt P w K mg base X X6 (A4 (top 21)) 7 true):DSs X E0k (B4 (top 21)) Z9 :=
 (B0 (Q4 C 2 ⋯ (G9 (C5 C F_times_of (by decide) ⋯ (A3 (A2 C 0 ⋯) A9))) (B9 (Am (cL C (A2 C 1 ⋯) (C5 C F_text_at (by decide) ⋯ (A3 (A2 C 0 ⋯) (A3 (A2 C 2 ⋯) A9)))) (B9 (F2 (A2 C 2 ⋯))) K9))) (B9 (F2 Oi)))
theorem mD:FnScope Gg ["book"] (A4 (top 22)):=⟨rfl,rfl,rfl,by decide +kernel,rfl,by decide +kernel,by decide +kernel⟩
theorem cS  (T:Txt mg) (F_undone_in:FnN P w K mg base "undone_in" 1 1 E6) (C:Cxt P w K mg base X Gg (A4 (top 22)) 5 true):DS X E0k (stm 22 0) Ig :=
 (Fg C 1 ⋯ (Te C F_undone_in (by decide) ⋯ (A3 (A2 C 0 ⋯) A9)))
theorem cR  (T:Txt mg) (F_shown_in:Fn P w K mg base "shown_in" 5 1 K7) (C:Cxt P w K mg base X Gg (A4 (top 22)) 5 true):DS X E0k (stm 22 1) Ie :=
 (Fg C 2 ⋯ (aY C ⋯ T.b_dict (E9 (F7 C [] [] ⋯ (G9 (C5 C F_shown_in (by decide) ⋯ (A3 (A2 C 0 ⋯) A9))) (fun X' C'=>U1) (fun X' C'=>(L6 (A3 (C7 (C7 (A2 C' 0 ⋯) A8) A8) (A3 Bi A9))))))))
theorem cQ  (T:Txt mg) (C:Cxt P w K mg base X Gg (A4 (top 22)) 5 true):DS X E0k (stm 22 2) Ic :=
 (Cj C 3 ⋯ ⋯ [1] ["undone"] ⋯ (G9 (A2 C 0 ⋯)) (fun X' C'=>(P6 (w_t (Cr (Ei C' (C7 (A2 C' 0 ⋯) A8) L7) (Y1 (Gm C' 1 ⋯ (C7 (A2 C' 0 ⋯) A8))))))) (fun X' C'=>(A2 C' 0 ⋯)))
theorem cP  (T:Txt mg) (C:Cxt P w K mg base X Gg (A4 (top 22)) 5 true):DS X E0k (stm 22 3) Qf :=
 (F2 (E9 (F7 C [2] ["shown"] ⋯ (G9 (A2 C 3 ⋯)) (fun X' C'=>(P6 (Gm C' 1 ⋯ (C7 (A2 C' 0 ⋯) A8)))) (fun X' C'=>(L6 (A3 (C7 (A2 C' 0 ⋯) A8) (A3 (C7 (A2 C' 0 ⋯) A8) A9)))))))
theorem fK  (T:Txt mg) (F_shown_in:Fn P w K mg base "shown_in" 5 1 K7) (F_undone_in:FnN P w K mg base "undone_in" 1 1 E6) (C:Cxt P w K mg base X Gg (A4 (top 22)) 5 true):DSs X E0k (B4 (top 22)) Va:=by
 have h:B4 (top 22)=[stm 22 0,stm 22 1,stm 22 2,stm 22 3]:=by kernel_rfl
 rw [h];exact (B0 (cS T F_undone_in C) (B0 (cR T F_shown_in C) (B0 (cQ T C) (B9 (cP T C)))))
theorem Yk:FnScope U9 ["book", "hand"] (A4 (top 23)):=⟨rfl,rfl,rfl,by decide +kernel,rfl,by decide +kernel,by decide +kernel⟩
theorem Sg  (T:Txt mg) (F_undone_in:FnN P w K mg base "undone_in" 1 1 E6) (C:Cxt P w K mg base X U9 (A4 (top 23)) 1 true):DS X E0k (stm 23 0) Cb :=
 (Fg C 2 ⋯ (Te C F_undone_in (by decide) ⋯ (A3 (A2 C 0 ⋯) A9)))
theorem Sf  (T:Txt mg) (C:Cxt P w K mg base X U9 (A4 (top 23)) 1 true):DS X E0k (stm 23 1) Gq :=
 (Lj C 3 ⋯)
theorem Se  (T:Txt mg) (C:Cxt P w K mg base X U9 (A4 (top 23)) 1 true):DS X E0k (stm 23 2) Ca :=
 (qI C 3 4 ⋯ ⋯ (G9 (A2 C 0 ⋯)) (Ei C (C7 (C7 (A2 C 4 ⋯) A8) A8) (A2 C 1 ⋯)) (C7 (A2 C 4 ⋯) A8) (Oh C 2 ⋯ (C7 (A2 C 4 ⋯) A8)) ⟨rfl,rfl,rfl,rfl⟩ (fun _=>rfl) rfl rfl rfl rfl rfl rfl)
theorem Sd  (T:Txt mg) (C:Cxt P w K mg base X U9 (A4 (top 23)) 1 true):DS X E0k (stm 23 3) Gp :=
 (F2 (E9 (F7 C [3] ["words"] ⋯ (G9 (pB C ⋯ T.b_sorted 3 ⋯)) (fun X' C'=>U1) (fun X' C'=>(L6 (A3 (A2 C' 0 ⋯) (A3 (T9 C' ⋯ T.b_len (A3 (kP C' 1 ⋯ (A2 C' 0 ⋯)) A9)) (A3 (kS C' (kP C' 1 ⋯ (A2 C' 0 ⋯)) Bi) A9))))))))
theorem Ub  (T:Txt mg) (F_undone_in:FnN P w K mg base "undone_in" 1 1 E6) (C:Cxt P w K mg base X U9 (A4 (top 23)) 1 true):DSs X E0k (B4 (top 23)) Jz:=by
 have h:B4 (top 23)=[stm 23 0,stm 23 1,stm 23 2,stm 23 3]:=by kernel_rfl
 rw [h];exact (B0 (Sg T F_undone_in C) (B0 (Sf T C) (B0 (Se T C) (B9 (Sd T C)))))
theorem Sw:FnScope Aw ["_law_script", "_law_k"] (A4 (top 25)):=⟨rfl,rfl,rfl,by decide +kernel,rfl,by decide +kernel,by decide +kernel⟩
theorem Os  (T:Txt mg) (C:Cxt P w K mg base X Aw (A4 (top 25)) 0 true):DSs X E0k (B4 (top 25)) Be :=
 (B0 (Am (Ei C (A2 C 0 ⋯) (E9 (N5 A9))) (B9 (F2 (Bt A8 (A2 C 1 ⋯)))) K9) (B9 (F2 (D3 (C7 (A2 C 0 ⋯) (Rh (A2 C 1 ⋯) (T9 C ⋯ T.b_len (A3 (A2 C 0 ⋯) A9)))) (Bt A8 (Tu (A2 C 1 ⋯) (T9 C ⋯ T.b_len (A3 (A2 C 0 ⋯) A9))))))))
theorem Po:FnScope Y0 ["_law_script", "_law_k", "_law_many"] (A4 (top 26)):=⟨rfl,rfl,rfl,by decide +kernel,rfl,by decide +kernel,by decide +kernel⟩
theorem Lf  (T:Txt mg) (F__law_cell:Fn P w K mg base "_law_cell" 1 2 W0) (C:Cxt P w K mg base X Y0 (A4 (top 26)) 1 true):DSs X E0k (B4 (top 26)) Ah :=
 (B0 (F9 C 3 ⋯ (Rh (D3 (Bt (Rh (C5 C F__law_cell (by decide) ⋯ (A3 (A2 C 0 ⋯) (A3 (A2 C 1 ⋯) A9))) A8) A8) (Bt A8 (D3 (A2 C 1 ⋯) A8))) A8)) (B0 (F9 C 3 ⋯ (Rh (D3 (Bt (A2 C 3 ⋯) (A2 C 3 ⋯)) (Tu (A2 C 3 ⋯) A8)) A8)) (B9 (F2 (Rh (Tu (Rh (D3 (Bt (A2 C 3 ⋯) (A2 C 3 ⋯)) (Tu (A2 C 3 ⋯) A8)) A8) A8) (A2 C 2 ⋯))))))
theorem Pn:FnScope N2 ["_law_script", "_law_at"] (A4 (top 27)):=⟨rfl,rfl,rfl,by decide +kernel,rfl,by decide +kernel,by decide +kernel⟩
theorem Ks  (T:Txt mg) (C:Cxt P w K mg base X N2 (A4 (top 27)) 2 true):DS X E0k (stm 27 0) W8 :=
 (Nj C 2 ⋯ (N5 A9))
theorem Kr  (T:Txt mg) (F__law_drawn:Fn P w K mg base "_law_drawn" 2 3 A7) (C:Cxt P w K mg base X N2 (A4 (top 27)) 2 true):DS X E0k (stm 27 1) W7 :=
 (Q4 C 3 ⋯ (W2 C ⋯ T.b_range (A3 A8 A9)) (B0 (F9 C 4 ⋯ (Bt (C7 L7 (C5 C F__law_drawn (by decide) ⋯ (A3 (A2 C 0 ⋯) (A3 (D3 (A2 C 1 ⋯) (Bt A8 (A2 C 3 ⋯))) (A3 A8 A9))))) (C5 C F__law_drawn (by decide) ⋯ (A3 (A2 C 0 ⋯) (A3 (D3 (D3 (A2 C 1 ⋯) (Bt A8 (A2 C 3 ⋯))) A8) (A3 A8 A9)))))) (B9 (He C 2 ⋯ (C7 (E9 (N5 (A3 (D3 (A2 C 4 ⋯) (C7 L7 (A2 C 3 ⋯))) (A3 (D3 (C7 L7 (A2 C 3 ⋯)) (A2 C 4 ⋯)) A9)))) (C5 C F__law_drawn (by decide) ⋯ (A3 (A2 C 0 ⋯) (A3 (D3 (A2 C 1 ⋯) A8) (A3 A8 A9)))))))))
theorem Kq  (T:Txt mg) (C:Cxt P w K mg base X N2 (A4 (top 27)) 2 true):DS X E0k (stm 27 2) W6 :=
 (Yo 2 (F2 (A2 C 2 ⋯)))
theorem Le  (T:Txt mg) (F__law_drawn:Fn P w K mg base "_law_drawn" 2 3 A7) (C:Cxt P w K mg base X N2 (A4 (top 27)) 2 true):DSs X E0k (B4 (top 27)) Ag:=by
 have h:B4 (top 27)=[stm 27 0,stm 27 1,stm 27 2]:=by kernel_rfl
 rw [h];exact (B0 (Ks T C) (B0 (Kr T F__law_drawn C) (B9 (Kq T C))))
theorem Pj:FnScope X8 ["_law_script", "_law_at"] (A4 (top 28)):=⟨rfl,rfl,rfl,by decide +kernel,rfl,by decide +kernel,by decide +kernel⟩
theorem La  (T:Txt mg) (F__law_drawn:Fn P w K mg base "_law_drawn" 2 3 A7) (C:Cxt P w K mg base X X8 (A4 (top 28)) 2 true):DSs X E0k (B4 (top 28)) Ab :=
 (B9 (F2 (Zl (E9 (F7 C [0,1] ["_law_script", "_law_at"] ⋯ (W2 C ⋯ T.b_range (A3 (D3 A8 (C5 C F__law_drawn (by decide) ⋯ (A3 (A2 C 0 ⋯) (A3 (D3 (A2 C 1 ⋯) A8) (A3 A8 A9))))) A9)) (fun X' C'=>U1) (fun X' C'=>(C7 L7 (C5 C' F__law_drawn (by decide) ⋯ (A3 (A2 C' 1 ⋯) (A3 (D3 (A2 C' 2 ⋯) (A2 C' 0 ⋯)) (A3 A8 A9)))))))))))
theorem Pl:FnScope X9 ["_law_book_here"] (A4 (top 29)):=⟨rfl,rfl,rfl,by decide +kernel,rfl,by decide +kernel,by decide +kernel⟩
theorem Lc  (T:Txt mg) (C:Cxt P w K mg base X X9 (A4 (top 29)) 0 true):DSs X E0k (B4 (top 29)) Ae :=
 (B0 (F9 C 1 ⋯ (E9 (N5 A9))) (B0 (Q4 C 2 ⋯ (G9 (A2 C 0 ⋯)) (B9 (Am (Ei C (C7 (A2 C 2 ⋯) A8) L7) (B9 (F9 C 1 ⋯ (D3 (A2 C 1 ⋯) (E9 (F7 C [2] ["_law_deed_here"] ⋯ (W2 C ⋯ T.b_range (A3 (T9 C ⋯ T.b_len (A3 (C7 (A2 C 2 ⋯) A8) A9)) A9)) (fun X' C'=>U1) (fun X' C'=>(L6 (A3 (C7 (A2 C' 1 ⋯) A8) (A3 (A2 C' 0 ⋯) A9))))))))) K9))) (B9 (F2 (A2 C 1 ⋯)))))
theorem Ni:FnScope V7 ["_law_script", "_law_at", "_law_signs_here"] (A4 (top 30)):=⟨rfl,rfl,rfl,by decide +kernel,rfl,by decide +kernel,by decide +kernel⟩
theorem Jp  (T:Txt mg) (F__law_drawn:Fn P w K mg base "_law_drawn" 2 3 A7) (C:Cxt P w K mg base X V7 (A4 (top 30)) 2 true):DSs X E0k (B4 (top 30)) X1 :=
 (B0 (F9 C 3 ⋯ (C7 (D3 (E9 (N5 (A3 Oi A9))) (A2 C 2 ⋯)) (C5 C F__law_drawn (by decide) ⋯ (A3 (A2 C 0 ⋯) (A3 (A2 C 1 ⋯) (A3 (D3 (T9 C ⋯ T.b_len (A3 (A2 C 2 ⋯) A9)) A8) A9)))))) (B9 (F2 (L6 (A3 (A2 C 3 ⋯) (A3 (C7 L7 (C5 C F__law_drawn (by decide) ⋯ (A3 (A2 C 0 ⋯) (A3 (D3 (A2 C 1 ⋯) A8) (A3 A8 A9))))) A9))))))
theorem Sv:FnScope F8 ["_law_script", "_law_at", "_law_one", "_law_known", "_law_names_here"] (A4 (top 31)):=⟨rfl,rfl,rfl,by decide +kernel,rfl,by decide +kernel,by decide +kernel⟩
theorem Mr  (T:Txt mg) (F__law_signs:Fn P w K mg base "_law_signs" 1 1 P2) (C:Cxt P w K mg base X F8 (A4 (top 31)) 3 true):DS X E0k (stm 31 0) Y9 :=
 (F9 C 5 ⋯ (C5 C F__law_signs (by decide) ⋯ (A3 (A2 C 3 ⋯) A9)))
theorem Mq  (T:Txt mg) (F__law_drawn:Fn P w K mg base "_law_drawn" 2 3 A7) (C:Cxt P w K mg base X F8 (A4 (top 31)) 3 true):DS X E0k (stm 31 1) Y8 :=
 (F9 C 6 ⋯ (C5 C F__law_drawn (by decide) ⋯ (A3 (A2 C 0 ⋯) (A3 (A2 C 1 ⋯) (A3 A8 A9)))))
theorem Mp  (T:Txt mg) (F__law_drawn:Fn P w K mg base "_law_drawn" 2 3 A7) (C:Cxt P w K mg base X F8 (A4 (top 31)) 3 true):DS X E0k (stm 31 2) Y7 :=
 (Am (w_t (Cr (cK C (A2 C 6 ⋯) A8) (Y1 (Ki C (A2 C 5 ⋯) (E9 (N5 A9)))))) (B0 (Yn C 8 ⋯ ⋯ [0,1] ["_law_script", "_law_at"] ⋯ (tU C ⋯ T.b_enumerate (A3 (A2 C 5 ⋯) A9)) (fun X' C'=>(P6 (Ei C' (C5 C' F__law_drawn (by decide) ⋯ (A3 (A2 C' 2 ⋯) (A3 (D3 (D3 (A2 C' 3 ⋯) A8) (A2 C' 0 ⋯)) (A3 A8 A9)))) A8))) (fun X' C'=>(A2 C' 1 ⋯))) (B9 (F2 (L6 (A3 L7 (A3 (A2 C 2 ⋯) (A3 (Tt C ⋯ T.b_tuple (A3 (D3 (A2 C 8 ⋯) (Bt (Hs (A2 C 5 ⋯) Nv (Fj A8)) (uG C ⋯ T.b_int (A3 (d_eq C (A2 C 8 ⋯) (E9 (N5 A9))) A9)))) A9)) A9))))))) K9)
theorem Mo  (T:Txt mg) (F__law_anchor:Fn P w K mg base "_law_anchor" 3 3 M0) (F__law_drawn:Fn P w K mg base "_law_drawn" 2 3 A7) (C:Cxt P w K mg base X F8 (A4 (top 31)) 3 true):DS X E0k (stm 31 3) Y6 :=
 (Am (cK C (A2 C 6 ⋯) A8) (B0 (F9 C 9 ⋯ (L6 (A3 (C5 C F__law_anchor (by decide) ⋯ (A3 (A2 C 0 ⋯) (A3 (D3 (A2 C 1 ⋯) A8) (A3 (A2 C 5 ⋯) A9)))) (A3 (C5 C F__law_anchor (by decide) ⋯ (A3 (A2 C 0 ⋯) (A3 (D3 (A2 C 1 ⋯) A8) (A3 (A2 C 5 ⋯) A9)))) A9)))) (B9 (F2 (D3 (L6 (A3 L7 (A3 (A2 C 2 ⋯) (A3 (C7 (A2 C 4 ⋯) (C5 C F__law_drawn (by decide) ⋯ (A3 (A2 C 0 ⋯) (A3 (D3 (A2 C 1 ⋯) A8) (A3 A8 A9))))) A9)))) (A2 C 9 ⋯))))) K9)
theorem Mn  (T:Txt mg) (F__law_drawn:Fn P w K mg base "_law_drawn" 2 3 A7) (C:Cxt P w K mg base X F8 (A4 (top 31)) 3 true):DS X E0k (stm 31 4) Y5 :=
 (Am (Ei C (A2 C 6 ⋯) A8) (B9 (F2 (L6 (A3 L7 (A3 (A2 C 2 ⋯) (A3 (C7 (A2 C 4 ⋯) (C5 C F__law_drawn (by decide) ⋯ (A3 (A2 C 0 ⋯) (A3 (D3 (A2 C 1 ⋯) A8) (A3 A8 A9))))) A9)))))) K9)
theorem Mm  (T:Txt mg) (F__law_drawn:Fn P w K mg base "_law_drawn" 2 3 A7) (C:Cxt P w K mg base X F8 (A4 (top 31)) 3 true):DS X E0k (stm 31 5) Y4 :=
 (Am (w_t (Cr (cK C (A2 C 6 ⋯) A8) (Y1 (Ki C (A2 C 3 ⋯) (L6 A9))))) (B9 (F2 (L6 (A3 L7 (A3 (A2 C 2 ⋯) (A3 (C7 (C7 (A2 C 3 ⋯) (C5 C F__law_drawn (by decide) ⋯ (A3 (A2 C 0 ⋯) (A3 (D3 (A2 C 1 ⋯) A8) (A3 (T9 C ⋯ T.b_len (A3 (A2 C 3 ⋯) A9)) A9))))) A8) A9)))))) K9)
theorem Ml  (T:Txt mg) (F__law_drawn:Fn P w K mg base "_law_drawn" 2 3 A7) (C:Cxt P w K mg base X F8 (A4 (top 31)) 3 true):DS X E0k (stm 31 6) Y3 :=
 (F9 C 7 ⋯ (C7 (D3 (D3 (E9 (N5 (A3 Oi A9))) (A2 C 5 ⋯)) (Hs (A2 C 5 ⋯) (Fj (bJ A8)) Nv)) (C5 C F__law_drawn (by decide) ⋯ (A3 (A2 C 0 ⋯) (A3 (D3 (A2 C 1 ⋯) A8) (A3 (D3 (D3 (T9 C ⋯ T.b_len (A3 (A2 C 5 ⋯) A9)) A8) (T9 C ⋯ T.b_len (A3 (Hs (A2 C 5 ⋯) (Fj (bJ A8)) Nv) A9))) A9))))))
theorem Mk  (T:Txt mg) (F__law_words:Fn P w K mg base "_law_words" 3 2 K3) (C:Cxt P w K mg base X F8 (A4 (top 31)) 3 true):DS X E0k (stm 31 7) Y2 :=
 (F2 (L6 (A3 L7 (A3 (A2 C 2 ⋯) (A3 (A2 C 7 ⋯) (A3 (C5 C F__law_words (by decide) ⋯ (A3 (A2 C 0 ⋯) (A3 (D3 (A2 C 1 ⋯) A8) A9))) A9))))))
theorem Oq  (T:Txt mg) (F__law_anchor:Fn P w K mg base "_law_anchor" 3 3 M0) (F__law_drawn:Fn P w K mg base "_law_drawn" 2 3 A7) (F__law_signs:Fn P w K mg base "_law_signs" 1 1 P2) (F__law_words:Fn P w K mg base "_law_words" 3 2 K3) (C:Cxt P w K mg base X F8 (A4 (top 31)) 3 true):DSs X E0k (B4 (top 31)) Bd:=by
 have h:B4 (top 31)=[stm 31 0,stm 31 1,stm 31 2,stm 31 3,stm 31 4,stm 31 5,stm 31 6,stm 31 7]:=by kernel_rfl
 rw [h];exact (B0 (Mr T F__law_signs C) (B0 (Mq T F__law_drawn C) (B0 (Mp T F__law_drawn C) (B0 (Mo T F__law_anchor F__law_drawn C) (B0 (Mn T F__law_drawn C) (B0 (Mm T F__law_drawn C) (B0 (Ml T F__law_drawn C) (B9 (Mk T F__law_words C)))))))))
theorem Sx:FnScope M7 ["_law_script", "_law_at", "_law_most", "_law_names_here"] (A4 (top 32)):=⟨rfl,rfl,rfl,by decide +kernel,rfl,by decide +kernel,by decide +kernel⟩
theorem Mv  (T:Txt mg) (C:Cxt P w K mg base X M7 (A4 (top 32)) 4 true):DS X E0k (stm 32 0) Z8 :=
 (F9 C 4 ⋯ (L6 A9))
theorem Mu  (T:Txt mg) (C:Cxt P w K mg base X M7 (A4 (top 32)) 4 true):DS X E0k (stm 32 1) Z5 :=
 (F9 C 5 ⋯ (L6 (A3 A8 (A3 L7 A9))))
theorem Mt  (T:Txt mg) (F__law_deed:Fn P w K mg base "_law_deed" 4 5 M6) (F__law_drawn:Fn P w K mg base "_law_drawn" 2 3 A7) (C:Cxt P w K mg base X M7 (A4 (top 32)) 4 true):DS X E0k (stm 32 2) Z4 :=
 (Q4 C 6 ⋯ (W2 C ⋯ T.b_range (A3 (C5 C F__law_drawn (by decide) ⋯ (A3 (A2 C 0 ⋯) (A3 (A2 C 1 ⋯) (A3 (D3 (A2 C 2 ⋯) A8) A9)))) A9)) (B0 (F9 C 7 ⋯ (D3 (C7 (A2 C 5 ⋯) A8) (C5 C F__law_drawn (by decide) ⋯ (A3 (A2 C 0 ⋯) (A3 (D3 (D3 (A2 C 1 ⋯) A8) (Bt A8 (A2 C 6 ⋯))) (A3 A8 A9)))))) (B0 (F9 C 8 ⋯ (C7 L7 (C5 C F__law_drawn (by decide) ⋯ (A3 (A2 C 0 ⋯) (A3 (D3 (D3 (A2 C 1 ⋯) A8) (Bt A8 (A2 C 6 ⋯))) (A3 A8 A9)))))) (B0 (Am (w_t (Cr (Ki C (A2 C 4 ⋯) (L6 A9)) (Y1 (rD C (L6 (A3 (A2 C 7 ⋯) (A3 (A2 C 8 ⋯) A9))) (A2 C 5 ⋯))))) (B9 (F9 C 7 ⋯ (D3 (C7 (A2 C 5 ⋯) A8) A8))) K9) (B0 (F9 C 5 ⋯ (L6 (A3 (A2 C 7 ⋯) (A3 (A2 C 8 ⋯) A9)))) (B0 (F9 C 9 ⋯ (Tt C ⋯ T.b_tuple (A3 (E9 (F7 C [7] ["_law_time"] ⋯ (G9 (A2 C 4 ⋯)) (fun X' C'=>(P6 (cK C' (C7 (C7 (A2 C' 0 ⋯) A8) A8) (A2 C' 1 ⋯)))) (fun X' C'=>(A2 C' 0 ⋯)))) A9))) (B9 (F9 C 4 ⋯ (D3 (A2 C 4 ⋯) (L6 (A3 (C5 C F__law_deed (by decide) ⋯ (A3 (A2 C 0 ⋯) (A3 (D3 (D3 (A2 C 1 ⋯) A8) (Bt A8 (A2 C 6 ⋯))) (A3 (A2 C 5 ⋯) (A3 (A2 C 9 ⋯) (A3 (A2 C 3 ⋯) A9)))))) A9)))))))))))
theorem Ms  (T:Txt mg) (C:Cxt P w K mg base X M7 (A4 (top 32)) 4 true):DS X E0k (stm 32 3) Z0 :=
 (F2 (A2 C 4 ⋯))
theorem Ot  (T:Txt mg) (F__law_deed:Fn P w K mg base "_law_deed" 4 5 M6) (F__law_drawn:Fn P w K mg base "_law_drawn" 2 3 A7) (C:Cxt P w K mg base X M7 (A4 (top 32)) 4 true):DSs X E0k (B4 (top 32)) Bf:=by
 have h:B4 (top 32)=[stm 32 0,stm 32 1,stm 32 2,stm 32 3]:=by kernel_rfl
 rw [h];exact (B0 (Mv T C) (B0 (Mu T C) (B0 (Mt T F__law_deed F__law_drawn C) (B9 (Ms T C)))))
theorem Pm:FnScope N1 ["_law_book_here"] (A4 (top 33)):=⟨rfl,rfl,rfl,by decide +kernel,rfl,by decide +kernel,by decide +kernel⟩
theorem Kp  (T:Txt mg) (C:Cxt P w K mg base X N1 (A4 (top 33)) 0 true):DS X E0k (stm 33 0) Cw :=
 (F9 C 1 ⋯ (E9 (N5 A9)))
theorem Ko  (T:Txt mg) (C:Cxt P w K mg base X N1 (A4 (top 33)) 0 true):DS X E0k (stm 33 1) W5 :=
 (Q4 C 2 ⋯ (G9 (A2 C 0 ⋯)) (B9 (Am (Ei C (C7 (A2 C 2 ⋯) A8) L7) (B0 (F9 C 3 ⋯ (bK (t_isN (C7 (A2 C 2 ⋯) A8)) A8 (D3 (kQ C (A2 C 1 ⋯) (C7 (A2 C 2 ⋯) A8)) A8))) (B9 (F9 C 1 ⋯ (D3 (D3 (Hs (A2 C 1 ⋯) Nv (Fj (A2 C 3 ⋯))) (E9 (F7 C [2] ["_law_deed_here"] ⋯ (W2 C ⋯ T.b_range (A3 (T9 C ⋯ T.b_len (A3 (C7 (A2 C 2 ⋯) A8) A9)) A9)) (fun X' C'=>U1) (fun X' C'=>(L6 (A3 (C7 (A2 C' 1 ⋯) A8) (A3 (A2 C' 0 ⋯) A9))))))) (Hs (A2 C 1 ⋯) (Fj (A2 C 3 ⋯)) Nv))))) K9)))
theorem Kn  (T:Txt mg) (C:Cxt P w K mg base X N1 (A4 (top 33)) 0 true):DS X E0k (stm 33 2) Cv :=
 (F2 (A2 C 1 ⋯))
theorem Ld  (T:Txt mg) (C:Cxt P w K mg base X N1 (A4 (top 33)) 0 true):DSs X E0k (B4 (top 33)) Af:=by
 have h:B4 (top 33)=[stm 33 0,stm 33 1,stm 33 2]:=by kernel_rfl
 rw [h];exact (B0 (Kp T C) (B0 (Ko T C) (B9 (Kn T C))))
theorem Kt:FnScope T7 ["_law_book_here"] (A4 (top 34)):=⟨rfl,rfl,rfl,by decide +kernel,rfl,by decide +kernel,by decide +kernel⟩
theorem Hv  (T:Txt mg) (C:Cxt P w K mg base X T7 (A4 (top 34)) 0 true):DSs X E0k (B4 (top 34)) U4 :=
 (B0 (Nj C 1 ⋯ (N5 A9)) (B0 (Q4 C 2 ⋯ (G9 (d_rev (A2 C 0 ⋯))) (B9 (Am (Yb 1 (w_t (Cr (Ei C (C7 (A2 C 2 ⋯) A8) L7) (Y1 (Lh C (C7 (A2 C 2 ⋯) A8) (A2 C 1 ⋯)))))) (B9 (He C 1 ⋯ (C7 (A2 C 2 ⋯) A8))) K9))) (B9 (Yo 1 (F2 (E9 (F7 C [1] ["_law_off"] ⋯ (G9 (A2 C 0 ⋯)) (fun X' C'=>(P6 (Lh C' (C7 (A2 C' 0 ⋯) A8) (A2 C' 1 ⋯)))) (fun X' C'=>(C7 (A2 C' 0 ⋯) A8)))))))))
theorem Pk:FnScope L8 ["_law_book_here"] (A4 (top 35)):=⟨rfl,rfl,rfl,by decide +kernel,rfl,by decide +kernel,by decide +kernel⟩
theorem Km  (T:Txt mg) (F__law_effects:Fn P w K mg base "_law_effects" 1 1 D8) (C:Cxt P w K mg base X L8 (A4 (top 35)) 1 true):DS X E0k (stm 35 0) Cu :=
 (F9 C 1 ⋯ (C5 C F__law_effects (by decide) ⋯ (A3 (A2 C 0 ⋯) A9)))
theorem Kl  (T:Txt mg) (C:Cxt P w K mg base X L8 (A4 (top 35)) 1 true):DS X E0k (stm 35 1) Ct :=
 (F9 C 2 ⋯ (E9 (N5 A9)))
theorem Kk  (T:Txt mg) (C:Cxt P w K mg base X L8 (A4 (top 35)) 1 true):DS X E0k (stm 35 2) W4 :=
 (Q4 C 3 ⋯ (G9 (A2 C 0 ⋯)) (B9 (Am (w_t (Cr (Ei C (C7 (A2 C 3 ⋯) A8) L7) (Y1 (cL C (C7 (A2 C 3 ⋯) A8) (A2 C 1 ⋯))))) (B9 (F9 C 2 ⋯ (D3 (A2 C 2 ⋯) (pC C ⋯ T.b_list (A3 (C7 (A2 C 3 ⋯) A8) A9))))) K9)))
theorem Kj  (T:Txt mg) (F__law_order:Fn P w K mg base "_law_order" 1 1 P3) (C:Cxt P w K mg base X L8 (A4 (top 35)) 1 true):DS X E0k (stm 35 3) Cs :=
 (F2 (E9 (F7 C [1,2] ["_law_there_here", "_law_gone"] ⋯ (G9 (C5 C F__law_order (by decide) ⋯ (A3 (A2 C 0 ⋯) A9))) (fun X' C'=>(P6 (w_t (Cr (cL C' (C7 (A2 C' 0 ⋯) A8) (A2 C' 1 ⋯)) (Y1 (Lh C' (A2 C' 0 ⋯) (A2 C' 2 ⋯))))))) (fun X' C'=>(A2 C' 0 ⋯)))))
theorem Lb  (T:Txt mg) (F__law_effects:Fn P w K mg base "_law_effects" 1 1 D8) (F__law_order:Fn P w K mg base "_law_order" 1 1 P3) (C:Cxt P w K mg base X L8 (A4 (top 35)) 1 true):DSs X E0k (B4 (top 35)) Ac:=by
 have h:B4 (top 35)=[stm 35 0,stm 35 1,stm 35 2,stm 35 3]:=by kernel_rfl
 rw [h];exact (B0 (Km T F__law_effects C) (B0 (Kl T C) (B0 (Kk T C) (B9 (Kj T F__law_order C)))))
theorem Ss:FnScope Av ["_law_book_here", "_law_signs_here"] (A4 (top 36)):=⟨rfl,rfl,rfl,by decide +kernel,rfl,by decide +kernel,by decide +kernel⟩
theorem Op  (T:Txt mg) (C:Cxt P w K mg base X Av (A4 (top 36)) 0 true):DSs X E0k (B4 (top 36)) Bc :=
 (B0 (Fg C 2 ⋯ (aY C ⋯ T.b_dict (E9 (F7 C [] [] ⋯ (G9 (A2 C 0 ⋯)) (fun X' C'=>(P6 (Ei C' (C7 (A2 C' 0 ⋯) A8) L7))) (fun X' C'=>(L6 (A3 (C7 (A2 C' 0 ⋯) A8) (A3 (C7 (A2 C' 0 ⋯) A8) A9)))))))) (B9 (F2 (Zl (E9 (F7 C [2] ["_law_texts"] ⋯ (G9 (A2 C 1 ⋯)) (fun X' C'=>U1) (fun X' C'=>(C7 (kP C' 1 ⋯ (C7 (A2 C' 0 ⋯) A8)) (C7 (A2 C' 0 ⋯) A8)))))))))
theorem Vf:FnScope Gh ["_law_book_here", "_law_place"] (A4 (top 37)):=⟨rfl,rfl,rfl,by decide +kernel,rfl,by decide +kernel,by decide +kernel⟩
theorem Qc  {CN CM CS CB:vG} (hst:X.stack=X.env::X.outer/\X.env.frame=some X.env.locals) (hex:X.ex=[]) (XX:XSet7 K mg CN CM CS CB) (T:Txt mg) (F_age_at:FnX P w K mg base CN "age_at" 6 2 V9) (C:Cxt P w K mg base X Gh (A4 (top 37)) 6 true):DSs X E0k (B4 (top 37)) Hd :=
 (B9 (rO C hst hex XX F_age_at (by decide) ⋯))
theorem Yl:FnScope V0 ["_law_book_here", "_law_hand"] (A4 (top 38)):=⟨rfl,rfl,rfl,by decide +kernel,rfl,by decide +kernel,by decide +kernel⟩
theorem Sk  (T:Txt mg) (F__law_effects:Fn P w K mg base "_law_effects" 1 1 D8) (C:Cxt P w K mg base X V0 (A4 (top 38)) 1 true):DS X E0k (stm 38 0) Gu :=
 (F9 C 2 ⋯ (C5 C F__law_effects (by decide) ⋯ (A3 (A2 C 0 ⋯) A9)))
theorem Sj  (T:Txt mg) (C:Cxt P w K mg base X V0 (A4 (top 38)) 1 true):DS X E0k (stm 38 1) Gs :=
 (Nj C 3 ⋯ (N5 A9))
theorem Si  (T:Txt mg) (C:Cxt P w K mg base X V0 (A4 (top 38)) 1 true):DS X E0k (stm 38 2) Cc :=
 (Q4 C 4 ⋯ (G9 (E9 (N5 (A3 L7 (A3 L7 (A3 L7 (A3 L7 (A3 L7 A9)))))))) (B0 (Cj C 5 ⋯ ⋯ [4,1] ["_law_word", "_law_hand"] ⋯ (G9 (A2 C 0 ⋯)) (fun X' C'=>(P6 (w_t (Cr (Ei C' (C7 (A2 C' 0 ⋯) A8) (A2 C' 1 ⋯)) (Y1 (Ei C' (C7 (C7 (A2 C' 0 ⋯) A8) A8) (A2 C' 2 ⋯))))))) (fun X' C'=>(C7 (A2 C' 0 ⋯) A8))) (B9 (Am (Ki C (A2 C 5 ⋯) (E9 (N5 A9))) (B9 (He C 3 ⋯ (L6 (A3 (A2 C 4 ⋯) (A3 (T9 C ⋯ T.b_len (A3 (A2 C 5 ⋯) A9)) (A3 (T9 C ⋯ T.b_len (A3 (E9 (F7 C [2] ["_law_on"] ⋯ (G9 (A2 C 5 ⋯)) (fun X' C'=>(P6 (cL C' (A2 C' 0 ⋯) (A2 C' 1 ⋯)))) (fun X' C'=>(A2 C' 0 ⋯)))) A9)) A9)))))) K9))))
theorem Sh  (T:Txt mg) (C:Cxt P w K mg base X V0 (A4 (top 38)) 1 true):DS X E0k (stm 38 3) Gr :=
 (Yo 3 (F2 (A2 C 3 ⋯)))
theorem Uc  (T:Txt mg) (F__law_effects:Fn P w K mg base "_law_effects" 1 1 D8) (C:Cxt P w K mg base X V0 (A4 (top 38)) 1 true):DSs X E0k (B4 (top 38)) Ka:=by
 have h:B4 (top 38)=[stm 38 0,stm 38 1,stm 38 2,stm 38 3]:=by kernel_rfl
 rw [h];exact (B0 (Sk T F__law_effects C) (B0 (Sj T C) (B0 (Si T C) (B9 (Sh T C)))))
theorem rN:FnScope T6 ["_law_script"] (A4 (top 39)):=⟨rfl,rfl,rfl,by decide +kernel,rfl,by decide +kernel,by decide +kernel⟩
theorem gQ  (T:Txt mg) (F__law_book:Fn P w K mg base "_law_book" 5 4 W1) (F__law_names:Fn P w K mg base "_law_names" 3 2 P4) (C:Cxt P w K mg base X T6 (A4 (top 39)) 8 true):DS X E0k (stm 39 0) Uu :=
 (F9 C 1 ⋯ (C5 C F__law_book (by decide) ⋯ (A3 (A2 C 0 ⋯) (A3 A8 (A3 A8 (A3 (C5 C F__law_names (by decide) ⋯ (A3 (A2 C 0 ⋯) (A3 A8 A9))) A9))))))
theorem gP  (T:Txt mg) (F__law_there:Fn P w K mg base "_law_there" 2 1 I9) (C:Cxt P w K mg base X T6 (A4 (top 39)) 8 true):DS X E0k (stm 39 1) Ut :=
 (F9 C 2 ⋯ (C5 C F__law_there (by decide) ⋯ (A3 (A2 C 1 ⋯) A9)))
theorem gO  (T:Txt mg) (C:Cxt P w K mg base X T6 (A4 (top 39)) 8 true):DS X E0k (stm 39 2) Us :=
 (F9 C 3 ⋯ (uF C ⋯ T.b_max (A3 (D3 (E9 (N5 (A3 A8 A9))) (E9 (F7 C [] [] ⋯ (G9 (A2 C 1 ⋯)) (fun X' C'=>U1) (fun X' C'=>(C7 (C7 (A2 C' 0 ⋯) A8) A8))))) A9)))
theorem gN  (T:Txt mg) (C:Cxt P w K mg base X T6 (A4 (top 39)) 8 true):DS X E0k (stm 39 3) Ur :=
 (Nj C 4 ⋯ (N5 A9))
theorem gM  (T:Txt mg) (F__law_text:Fn P w K mg base "_law_text" 1 2 M5) (F__law_there:Fn P w K mg base "_law_there" 2 1 I9) (F_as_of:Fn P w K mg base "as_of" 1 2 V5) (C:Cxt P w K mg base X T6 (A4 (top 39)) 8 true):DS X E0k (stm 39 4) Md :=
 (Q4 C 5 ⋯ (W2 C ⋯ T.b_range (A3 (D3 (A2 C 3 ⋯) A8) A9)) (B0 (F9 C 12 ⋯ (Tt C ⋯ T.b_tuple (A3 (E9 (F7 C [5] ["_law_time"] ⋯ (G9 (A2 C 1 ⋯)) (fun X' C'=>(P6 (rD C' (C7 (C7 (A2 C' 0 ⋯) A8) A8) (A2 C' 1 ⋯)))) (fun X' C'=>(A2 C' 0 ⋯)))) A9))) (B0 (He C 4 ⋯ (C5 C F__law_text (by decide) ⋯ (A3 (A2 C 12 ⋯) (A3 (C5 C F__law_there (by decide) ⋯ (A3 (A2 C 12 ⋯) A9)) A9)))) (B9 (Am (Ki C (C5 C F_as_of (by decide) ⋯ (A3 (A2 C 1 ⋯) (A3 (A2 C 5 ⋯) A9))) (A2 C 12 ⋯)) (B9 (F2 Bi)) K9)))))
theorem gL  (T:Txt mg) (F_as_of:Fn P w K mg base "as_of" 1 2 V5) (F_texts_of:Fn P w K mg base "texts_of" 8 1 Aj) (C:Cxt P w K mg base X T6 (A4 (top 39)) 8 true):DS X E0k (stm 39 5) Mc :=
 (Am (Yb 4 (w_t (w_or (Ki C (C5 C F_texts_of (by decide) ⋯ (A3 (A2 C 1 ⋯) A9)) (A2 C 4 ⋯)) (qD (Ki C (C5 C F_as_of (by decide) ⋯ (A3 (A2 C 1 ⋯) (A3 (D3 (A2 C 3 ⋯) A8) A9))) (A2 C 1 ⋯)))))) (B9 (F2 Bi)) K9)
theorem gK  (T:Txt mg) (F__law_age:Fn P w K mg base "_law_age" 7 2 M1) (C:Cxt P w K mg base X T6 (A4 (top 39)) 8 true):DS X E0k (stm 39 6) Go :=
 (Am (Ki C (E9 (F7 C [1,2] ["_law_book_here", "_law_there_here"] ⋯ (W2 C ⋯ T.b_range (A3 (T9 C ⋯ T.b_len (A3 (A2 C 2 ⋯) A9)) A9)) (fun X' C'=>(P6 (Ki C' (C5 C' F__law_age (by decide) ⋯ (A3 (A2 C' 1 ⋯) (A3 (A2 C' 0 ⋯) A9))) (C7 (C7 (A2 C' 2 ⋯) (A2 C' 0 ⋯)) A8)))) (fun X' C'=>(A2 C' 0 ⋯)))) (E9 (N5 A9))) (B9 (F2 Bi)) K9)
theorem gJ  (T:Txt mg) (F__law_age:Fn P w K mg base "_law_age" 7 2 M1) (C:Cxt P w K mg base X T6 (A4 (top 39)) 8 true):DS X E0k (stm 39 7) Gn :=
 (Am (w_t (w_or (gD (C5 C F__law_age (by decide) ⋯ (A3 (A2 C 1 ⋯) (A3 (bJ A8) A9)))) (qD (gD (C5 C F__law_age (by decide) ⋯ (A3 (A2 C 1 ⋯) (A3 (T9 C ⋯ T.b_len (A3 (A2 C 2 ⋯) A9)) A9))))))) (B9 (F2 Bi)) K9)
theorem gI  (T:Txt mg) (F__law_drawn:Fn P w K mg base "_law_drawn" 2 3 A7) (C:Cxt P w K mg base X T6 (A4 (top 39)) 8 true):DS X E0k (stm 39 8) Mb :=
 (Yo 4 (F9 C 6 ⋯ (C7 (A2 C 4 ⋯) (C5 C F__law_drawn (by decide) ⋯ (A3 (A2 C 0 ⋯) (A3 A8 (A3 (D3 (A2 C 3 ⋯) A8) A9)))))))
theorem gH  (T:Txt mg) (F__law_drawn:Fn P w K mg base "_law_drawn" 2 3 A7) (C:Cxt P w K mg base X T6 (A4 (top 39)) 8 true):DS X E0k (stm 39 9) Uq :=
 (F9 C 7 ⋯ (C5 C F__law_drawn (by decide) ⋯ (A3 (A2 C 0 ⋯) (A3 A8 (A3 (D3 (T9 C ⋯ T.b_len (A3 (A2 C 6 ⋯) A9)) A8) A9)))))
theorem cZ  (T:Txt mg) (F__law_drawn:Fn P w K mg base "_law_drawn" 2 3 A7) (F__law_words:Fn P w K mg base "_law_words" 3 2 K3) (F_first_seen:Fn P w K mg base "first_seen" 8 2 M9) (C:Cxt P w K mg base X T6 (A4 (top 39)) 8 true):DS X E0k (stm 39 10) Ih :=
 (Q4 C 8 ⋯ (G9 (L6 (A3 (kO (A2 C 6 ⋯) (Fj (A2 C 7 ⋯)) (Fj (D3 (A2 C 7 ⋯) (C5 C F__law_drawn (by decide) ⋯ (A3 (A2 C 0 ⋯) (A3 A8 (A3 A8 A9))))))) (A3 (C5 C F__law_words (by decide) ⋯ (A3 (A2 C 0 ⋯) (A3 A8 A9))) (A3 L7 A9))))) (B0 (Cj C 13 ⋯ ⋯ [8,4] ["_law_word", "_law_texts"] ⋯ (W2 C ⋯ T.b_range (A3 (D3 (A2 C 3 ⋯) A8) A9)) (fun X' C'=>(P6 (cL C' (A2 C' 1 ⋯) (C7 (A2 C' 2 ⋯) (A2 C' 0 ⋯))))) (fun X' C'=>(A2 C' 0 ⋯))) (B9 (Am (Ki C (C5 C F_first_seen (by decide) ⋯ (A3 (A2 C 1 ⋯) (A3 (A2 C 8 ⋯) A9))) (C7 (D3 (A2 C 13 ⋯) (E9 (N5 (A3 Oi A9)))) A8)) (B9 (F2 Bi)) K9))))
theorem cY  (T:Txt mg) (F__law_effects:Fn P w K mg base "_law_effects" 1 1 D8) (C:Cxt P w K mg base X T6 (A4 (top 39)) 8 true):DS X E0k (stm 39 11) Qg :=
 (F9 C 9 ⋯ (C5 C F__law_effects (by decide) ⋯ (A3 (A2 C 1 ⋯) A9)))
theorem cX  (T:Txt mg) (C:Cxt P w K mg base X T6 (A4 (top 39)) 8 true):DS X E0k (stm 39 12) Ea :=
 (F9 C 10 ⋯ (E9 (F7 C [] [] ⋯ (G9 (A2 C 2 ⋯)) (fun X' C'=>U1) (fun X' C'=>(C7 (A2 C' 0 ⋯) A8)))) (Yc C ⋯))
theorem cV  (T:Txt mg) (C:Cxt P w K mg base X T6 (A4 (top 39)) 8 true):DS X E0k (stm 39 13) Dz :=
 (Cj C 11 ⋯ ⋯ [9,10] ["_law_on", "_law_kept"] ⋯ (G9 (A2 C 1 ⋯)) (fun X' C'=>(P6 (w_t (Cr (Ei C' (C7 (A2 C' 0 ⋯) A8) L7) (Cr (cL C' (C7 (A2 C' 0 ⋯) A8) (A2 C' 1 ⋯)) (Y1 (Lh C' (C7 (A2 C' 0 ⋯) A8) (A2 C' 2 ⋯)))))))) (fun X' C'=>(A2 C' 0 ⋯)))
theorem cU  (T:Txt mg) (F_lost:Fn P w K mg base "lost" 6 1 Je) (C:Cxt P w K mg base X T6 (A4 (top 39)) 8 true):DS X E0k (stm 39 14) Dy :=
 (Am (Ki C (C5 C F_lost (by decide) ⋯ (A3 (A2 C 1 ⋯) A9)) (E9 (F7 C [] [] ⋯ (G9 (A2 C 11 ⋯)) (fun X' C'=>U1) (fun X' C'=>(L6 (A3 (C7 (A2 C' 0 ⋯) A8) (A3 (C7 (A2 C' 0 ⋯) A8) A9))))))) (B9 (F2 Bi)) K9)
theorem cT  (T:Txt mg) (F__law_by:Fn P w K mg base "_law_by" 2 2 U8) (F_by_hand:Fn P w K mg base "by_hand" 2 2 U7) (C:Cxt P w K mg base X T6 (A4 (top 39)) 8 true):DS X E0k (stm 39 15) Dx :=
 (F2 (d_eq C (E9 (F7 C [1] ["_law_book_here"] ⋯ (G9 L7) (fun X' C'=>(P6 (Ki C' (C5 C' F_by_hand (by decide) ⋯ (A3 (A2 C' 1 ⋯) (A3 (A2 C' 0 ⋯) A9))) (C5 C' F__law_by (by decide) ⋯ (A3 (A2 C' 1 ⋯) (A3 (A2 C' 0 ⋯) A9)))))) (fun X' C'=>(A2 C' 0 ⋯)))) (E9 (N5 A9))))
theorem kY  (T:Txt mg) (F__law_age:Fn P w K mg base "_law_age" 7 2 M1) (F__law_book:Fn P w K mg base "_law_book" 5 4 W1) (F__law_by:Fn P w K mg base "_law_by" 2 2 U8) (F__law_drawn:Fn P w K mg base "_law_drawn" 2 3 A7) (F__law_effects:Fn P w K mg base "_law_effects" 1 1 D8) (F__law_names:Fn P w K mg base "_law_names" 3 2 P4) (F__law_text:Fn P w K mg base "_law_text" 1 2 M5) (F__law_there:Fn P w K mg base "_law_there" 2 1 I9) (F__law_words:Fn P w K mg base "_law_words" 3 2 K3) (F_as_of:Fn P w K mg base "as_of" 1 2 V5) (F_by_hand:Fn P w K mg base "by_hand" 2 2 U7) (F_first_seen:Fn P w K mg base "first_seen" 8 2 M9) (F_lost:Fn P w K mg base "lost" 6 1 Je) (F_texts_of:Fn P w K mg base "texts_of" 8 1 Aj) (C:Cxt P w K mg base X T6 (A4 (top 39)) 8 true):DSs X E0k (B4 (top 39)) aI:=by
 have h:B4 (top 39)=[stm 39 0,stm 39 1,stm 39 2,stm 39 3,stm 39 4,stm 39 5,stm 39 6,stm 39 7,stm 39 8,stm 39 9,stm 39 10,stm 39 11,stm 39 12,stm 39 13,stm 39 14,stm 39 15]:=by kernel_rfl
 rw [h];exact (B0 (gQ T F__law_book F__law_names C) (B0 (gP T F__law_there C) (B0 (gO T C) (B0 (gN T C) (B0 (gM T F__law_text F__law_there F_as_of C) (B0 (gL T F_as_of F_texts_of C) (B0 (gK T F__law_age C) (B0 (gJ T F__law_age C) (B0 (gI T F__law_drawn C) (B0 (gH T F__law_drawn C) (B0 (cZ T F__law_drawn F__law_words F_first_seen C) (B0 (cY T F__law_effects C) (B0 (cX T C) (B0 (cV T C) (B0 (cU T F_lost C) (B9 (cT T F__law_by F_by_hand C)))))))))))))))))
end Sm
end
noncomputable section
namespace Sm
open PySem PySem.Spec PyProof.Rows L2
theorem Og {K:vB} {mg:Str->Option uY} {h:wT} {x:Str} {st:k8} {ps:List Str} {f:vG} {oc:uY} {od an:Option vG} {osl:Array (Option uY)} {kV doc pm cdv ct:uY} (X:K.In h) (G:h.Ns xZ mg) (a:BO K xZ x=some (some (.ref f)))
   (l:K.lookup f=some ⟨oc,od,.func (xQ x x (L5 st) (B4 st) (A4 st) .none kV doc pm an cdv ct),osl⟩) (c:f9 K cdv x=true) (k:xU K (.ref f)=true)
   (hb:∀ (kV doc pm:uY) (an:Option vG) (cdv ct:uY) (us:List uY),us.length=ps.length->EG (xQ x x (L5 st) (B4 st) (A4 st) .none kV doc pm an cdv ct) ⟨us,[]⟩=pure (ps.zip us)):Def K mg x st ps :=
 ⟨f,_,kD l c k,PySem.W.mg_of X G a,(kD l c k).binds hb⟩
theorem fn_Dt {P:vU} {w:wD} {K:vB} {mg:Str->Option uY} {base:wT} {N:List Str} {k:Nat} {x:Str} {st:k8} {ps:List Str} {n:Nat} {go:Dn->Out} {m:List uV->Res uV} (F:Def K mg x st ps) (S:FnScope N ps (A4 st)) (hn:ps.length=n)
   (body:∀ X,Cxt P w K mg base X N (A4 st) k true->(X.stack=X.env::X.outer/\X.env.frame=some X.env.locals)->X.ex=[]->DSs X E0k (B4 st) go) (hm:m=fnD N go):Fn P w K mg base x (k+1) n m:=by
 obtain ⟨f,fd,F,hmg,hb⟩:=F.ex;refine ⟨f,fd,ps,hn,?_,hmg,F.kp,hb⟩;subst hm;refine F.ok S (fun vs H Q E h=>?_) (fun cdv A outer s H vs Q E hr h=>?_)
 . obtain ⟨G,ds,d,_,r,hl,_⟩:=h
   rw [<- r.length,hl,hn]
 . obtain ⟨G,ds,d,hG,r,hl,em,q⟩:=h
   refine ⟨_,body _ ⟨rfl,rfl,rfl,rfl,rfl,rfl,rfl,rfl,hr,fun _ _=>rfl,AZ⟩ ⟨rfl,rfl⟩ rfl G H,G,_,Gv hG r N,?_⟩;unfold fnD at em;cases eg:go (K6 N ds) with
   | rt d'=>rw [eg] at em; cases em; exact fun v G' H' g r'=>q v G' H' g r'
   | nx δ=>rw [eg] at em; cases em; exact fun Z G' H' S'=>q _ G' H' S'.gr rfl
   | bk _=>rw [eg] at em; cases em
   | ct _=>rw [eg] at em; cases em
   | exc _=>rw [eg] at em; cases em
   | no=>rw [eg] at em; cases em
theorem Vz:∀ {l:List (vG×Obj)} {a:vG} {o:Obj},l.lookup a=some o->(a,o)∈l
 | [],_,_,h=>nomatch h
 | (b,q)::r,a,o,h=>by
   rw [List.lookup_cons] at h;cases e:a==b with
   | true=>rw [e] at h; cases h; rw [zY e]; exact .head _
   | false=>rw [e] at h; exact .tail _ (Vz h)
noncomputable def noList (K:vB):Bool:=K.all fun p => !(match p.2.cls with | .type n=>n == "list" | _=>false)
theorem noList.out {K:vB} (h:noList K=true) {a:vG} {o:Obj} (e:K.lookup a=some o):o.cls≠.type "list" := fun z=>by
 have hm:(a,o)∈K:=Vz e;unfold noList at h;have:=k6.mp h _ hm;rw [z] at this;simp at this
theorem M8 {us:List uY} {n:Nat} (h:us.length=n+1):∃ a t,us=a::t/\t.length=n:=by cases us with | nil=>cases h | cons a t=>exact ⟨a,t,rfl,Nat.succ.inj h⟩
theorem oZ {K:vB} {mg:Str->Option uY} {h:wT} {x:Str} {st:k8} {ps:List Str} {f:vG} {oc:uY} {od an:Option vG} {osl:Array (Option uY)} {kV doc pm cdv ct:uY} (X:K.In h) (G:h.Ns xZ mg) (a:BO K xZ x=some (some (.ref f)))
   (l:K.lookup f=some ⟨oc,od,.func (xQ x x (L5 st) (B4 st) (A4 st) .none kV doc pm an cdv ct),osl⟩) (c:f9 K cdv x=true) (k:xU K (.ref f)=true)
   (hb:∀ (kV doc pm:uY) (an:Option vG) (cdv ct:uY) (u0:uY),EG (xQ x x (L5 st) (B4 st) (A4 st) .none kV doc pm an cdv ct) ⟨[u0],[]⟩=pure (ps.zip [u0])) (hp:ps.length=1):Def K mg x st ps :=
 Og X G a l c k fun kV doc pm an cdv ct us hl=>by
   have h0:=hl.trans hp; obtain ⟨u0,t0,rfl,h1⟩:=M8 h0;cases xN.mp h1;exact hb kV doc pm an cdv ct u0
theorem oY {K:vB} {mg:Str->Option uY} {h:wT} {x:Str} {st:k8} {ps:List Str} {f:vG} {oc:uY} {od an:Option vG} {osl:Array (Option uY)} {kV doc pm cdv ct:uY} (X:K.In h) (G:h.Ns xZ mg) (a:BO K xZ x=some (some (.ref f)))
   (l:K.lookup f=some ⟨oc,od,.func (xQ x x (L5 st) (B4 st) (A4 st) .none kV doc pm an cdv ct),osl⟩) (c:f9 K cdv x=true) (k:xU K (.ref f)=true)
   (hb:∀ (kV doc pm:uY) (an:Option vG) (cdv ct:uY) (u0 u1:uY),EG (xQ x x (L5 st) (B4 st) (A4 st) .none kV doc pm an cdv ct) ⟨[u0,u1],[]⟩=pure (ps.zip [u0,u1])) (hp:ps.length=2):Def K mg x st ps :=
 Og X G a l c k fun kV doc pm an cdv ct us hl=>by
   have h0:=hl.trans hp; obtain ⟨u0,t0,rfl,h1⟩:=M8 h0; obtain ⟨u1,t1,rfl,h2⟩:=M8 h1;cases xN.mp h2;exact hb kV doc pm an cdv ct u0 u1
theorem oX {K:vB} {mg:Str->Option uY} {h:wT} {x:Str} {st:k8} {ps:List Str} {f:vG} {oc:uY} {od an:Option vG} {osl:Array (Option uY)} {kV doc pm cdv ct:uY} (X:K.In h) (G:h.Ns xZ mg) (a:BO K xZ x=some (some (.ref f)))
   (l:K.lookup f=some ⟨oc,od,.func (xQ x x (L5 st) (B4 st) (A4 st) .none kV doc pm an cdv ct),osl⟩) (c:f9 K cdv x=true) (k:xU K (.ref f)=true)
   (hb:∀ (kV doc pm:uY) (an:Option vG) (cdv ct:uY) (u0 u1 u2:uY),EG (xQ x x (L5 st) (B4 st) (A4 st) .none kV doc pm an cdv ct) ⟨[u0,u1,u2],[]⟩=pure (ps.zip [u0,u1,u2])) (hp:ps.length=3):Def K mg x st ps :=
 Og X G a l c k fun kV doc pm an cdv ct us hl=>by
   have h0:=hl.trans hp; obtain ⟨u0,t0,rfl,h1⟩:=M8 h0; obtain ⟨u1,t1,rfl,h2⟩:=M8 h1; obtain ⟨u2,t2,rfl,h3⟩:=M8 h2;cases xN.mp h3;exact hb kV doc pm an cdv ct u0 u1 u2
theorem oW {K:vB} {mg:Str->Option uY} {h:wT} {x:Str} {st:k8} {ps:List Str} {f:vG} {oc:uY} {od an:Option vG} {osl:Array (Option uY)} {kV doc pm cdv ct:uY} (X:K.In h) (G:h.Ns xZ mg) (a:BO K xZ x=some (some (.ref f)))
   (l:K.lookup f=some ⟨oc,od,.func (xQ x x (L5 st) (B4 st) (A4 st) .none kV doc pm an cdv ct),osl⟩) (c:f9 K cdv x=true) (k:xU K (.ref f)=true)
   (hb:∀ (kV doc pm:uY) (an:Option vG) (cdv ct:uY) (u0 u1 u2 u3:uY),EG (xQ x x (L5 st) (B4 st) (A4 st) .none kV doc pm an cdv ct) ⟨[u0,u1,u2,u3],[]⟩=pure (ps.zip [u0,u1,u2,u3])) (hp:ps.length=4):Def K mg x st ps :=
 Og X G a l c k fun kV doc pm an cdv ct us hl=>by
   have h0:=hl.trans hp; obtain ⟨u0,t0,rfl,h1⟩:=M8 h0; obtain ⟨u1,t1,rfl,h2⟩:=M8 h1; obtain ⟨u2,t2,rfl,h3⟩:=M8 h2; obtain ⟨u3,t3,rfl,h4⟩:=M8 h3;cases xN.mp h4;exact hb kV doc pm an cdv ct u0 u1 u2 u3
theorem oV {K:vB} {mg:Str->Option uY} {h:wT} {x:Str} {st:k8} {ps:List Str} {f:vG} {oc:uY} {od an:Option vG} {osl:Array (Option uY)} {kV doc pm cdv ct:uY} (X:K.In h) (G:h.Ns xZ mg) (a:BO K xZ x=some (some (.ref f)))
   (l:K.lookup f=some ⟨oc,od,.func (xQ x x (L5 st) (B4 st) (A4 st) .none kV doc pm an cdv ct),osl⟩) (c:f9 K cdv x=true) (k:xU K (.ref f)=true)
   (hb:∀ (kV doc pm:uY) (an:Option vG) (cdv ct:uY) (u0 u1 u2 u3 u4:uY),EG (xQ x x (L5 st) (B4 st) (A4 st) .none kV doc pm an cdv ct) ⟨[u0,u1,u2,u3,u4],[]⟩=pure (ps.zip [u0,u1,u2,u3,u4])) (hp:ps.length=5):Def K mg x st ps :=
 Og X G a l c k fun kV doc pm an cdv ct us hl=>by
   have h0:=hl.trans hp; obtain ⟨u0,t0,rfl,h1⟩:=M8 h0; obtain ⟨u1,t1,rfl,h2⟩:=M8 h1; obtain ⟨u2,t2,rfl,h3⟩:=M8 h2; obtain ⟨u3,t3,rfl,h4⟩:=M8 h3; obtain ⟨u4,t4,rfl,h5⟩:=M8 h4;cases xN.mp h5;exact hb kV doc pm an cdv ct u0 u1 u2 u3 u4
def Defs (K:vB) (mg:Str->Option uY):Prop :=
 Def K mg "law" (top 39) ["_law_script"] /\
 Def K mg "signs_added" (top 6) ["deed"] /\
 Def K mg "adds_behind" (top 8) ["book"] /\
 Def K mg "signs_of" (top 9) ["book"] /\
 Def K mg "undone_in" (top 10) ["book"] /\
 Def K mg "dropped_in" (top 11) ["book", "undone"] /\
 Def K mg "presence_in" (top 12) ["book"] /\
 Def K mg "shown_in" (top 13) ["book"] /\
 Def K mg "text_of" (top 14) ["book"] /\
 Def K mg "as_of" (top 16) ["book", "time"] /\
 Def K mg "times_of" (top 17) ["book"] /\
 Def K mg "text_at" (top 18) ["book", "time"] /\
 Def K mg "texts_of" (top 19) ["book"] /\
 Def K mg "age_at" (top 20) ["book", "place"] /\
 Def K mg "first_seen" (top 21) ["book", "text"] /\
 Def K mg "lost" (top 22) ["book"] /\
 Def K mg "by_hand" (top 23) ["book", "hand"] /\
 Def K mg "_law_cell" (top 25) ["_law_script", "_law_k"] /\
 Def K mg "_law_drawn" (top 26) ["_law_script", "_law_k", "_law_many"] /\
 Def K mg "_law_names" (top 27) ["_law_script", "_law_at"] /\
 Def K mg "_law_words" (top 28) ["_law_script", "_law_at"] /\
 Def K mg "_law_signs" (top 29) ["_law_book_here"] /\
 Def K mg "_law_anchor" (top 30) ["_law_script", "_law_at", "_law_signs_here"] /\
 Def K mg "_law_deed" (top 31) ["_law_script", "_law_at", "_law_one", "_law_known", "_law_names_here"] /\
 Def K mg "_law_book" (top 32) ["_law_script", "_law_at", "_law_most", "_law_names_here"] /\
 Def K mg "_law_order" (top 33) ["_law_book_here"] /\
 Def K mg "_law_effects" (top 34) ["_law_book_here"] /\
 Def K mg "_law_there" (top 35) ["_law_book_here"] /\
 Def K mg "_law_text" (top 36) ["_law_book_here", "_law_signs_here"] /\
 Def K mg "_law_age" (top 37) ["_law_book_here", "_law_place"] /\
 Def K mg "_law_by" (top 38) ["_law_book_here", "_law_hand"]
noncomputable section
variable {P:vU} {w:wD} {K:vB} {mg:Str->Option uY} {base:wT}
theorem tE {f:vG} {fd:AM} (F:L2.Fun K "law" "law" (top 39) f fd) (T:Txt mg) (D:Defs K mg) {CN CM CS CB:vG} (O:ExcAt K mg "NoPlace" CN) (XX:XSet7 K mg CN CM CS CB):FnOk P w K mg base CX0 9 f fd ["_law_script"] (spD 1 bA):=by
 have D_law:=D.1;have R1:=D.2;have D_signs_added:=R1.1;have R2:=R1.2;have D_adds_behind:=R2.1;have R3:=R2.2;have D_signs_of:=R3.1;have R4:=R3.2;have D_undone_in:=R4.1;have R5:=R4.2;have D_dropped_in:=R5.1;have R6:=R5.2;have D_presence_in:=R6.1;have R7:=R6.2;have D_shown_in:=R7.1;have R8:=R7.2;have D_text_of:=R8.1;have R9:=R8.2;have D_as_of:=R9.1;have R10:=R9.2;have D_times_of:=R10.1;have R11:=R10.2;have D_text_at:=R11.1;have R12:=R11.2;have D_texts_of:=R12.1;have R13:=R12.2;have D_age_at:=R13.1;have R14:=R13.2;have D_first_seen:=R14.1;have R15:=R14.2;have D_lost:=R15.1;have R16:=R15.2;have D_by_hand:=R16.1
 have R17:=R16.2;have D__law_cell:=R17.1;have R18:=R17.2;have D__law_drawn:=R18.1;have R19:=R18.2;have D__law_names:=R19.1;have R20:=R19.2;have D__law_words:=R20.1;have R21:=R20.2;have D__law_signs:=R21.1;have R22:=R21.2;have D__law_anchor:=R22.1;have R23:=R22.2;have D__law_deed:=R23.1;have R24:=R23.2;have D__law_book:=R24.1;have R25:=R24.2;have D__law_order:=R25.1;have R26:=R25.2;have D__law_effects:=R26.1;have R27:=R26.2;have D__law_there:=R27.1;have R28:=R27.2;have D__law_text:=R28.1;have R29:=R28.2;have D__law_age:=R29.1;have R30:=R29.2;have D__law_by:=R30;have F_signs_added:Fn P w K mg base "signs_added" 1 1 F1:=X3 (k:=0) D_signs_added Nf rfl (fun X C=>Jm T  C) rfl
 have F_adds_behind:FnN P w K mg base "adds_behind" 2 1 N8:=fn_N (k:=1) D_adds_behind Nh rfl (fun X C=>Jo T F_signs_added C) rfl;have F_signs_of:Fn P w K mg base "signs_of" 3 1 U6:=X3 (k:=2) D_signs_of Vd rfl (fun X C=>Qa T F_adds_behind C) rfl;have F_undone_in:FnN P w K mg base "undone_in" 1 1 E6:=fn_N (k:=0) D_undone_in Sr rfl (fun X C=>Oo T  C) rfl;have F_dropped_in:FnSN P w K mg base "dropped_in" 1 2 L3:=fn_SN (k:=0) D_dropped_in Pi rfl (fun X C=>Kz T  C) rfl;have F_presence_in:Fn P w K mg base "presence_in" 4 1 P8:=X3 (k:=3) D_presence_in Ng rfl (fun X C=>Jn T F_dropped_in F_signs_of F_undone_in C) rfl
 have F_shown_in:Fn P w K mg base "shown_in" 5 1 K7:=X3 (k:=4) D_shown_in Ve rfl (fun X C=>Qb T F_presence_in C) rfl;have F_text_of:Fn P w K mg base "text_of" 6 1 U5:=X3 (k:=5) D_text_of Yi rfl (fun X C=>Tz T F_shown_in C) rfl;have F_as_of:Fn P w K mg base "as_of" 1 2 V5:=X3 (k:=0) D_as_of gX rfl (fun X C=>Zu T  C) rfl;have F_times_of:Fn P w K mg base "times_of" 1 1 Q7:=X3 (k:=0) D_times_of Vb rfl (fun X C=>Py T  C) rfl;have F_text_at:Fn P w K mg base "text_at" 7 2 P1:=X3 (k:=6) D_text_at Yj rfl (fun X C=>Ua T F_as_of F_text_of C) rfl;have F_texts_of:Fn P w K mg base "texts_of" 8 1 Aj:=X3 (k:=7) D_texts_of Vc rfl (fun X C=>Pz T F_text_at F_times_of C) rfl
 have F_age_at:FnX P w K mg base CN "age_at" 6 2 V9:=fnX_D (k:=5) D_age_at dE rfl (fun X E C L hex=>Xf O L hex T F_shown_in C) rfl;have F_first_seen:Fn P w K mg base "first_seen" 8 2 M9:=X3 (k:=7) D_first_seen Ph rfl (fun X C=>Ky T F_text_at F_times_of C) rfl;have F_lost:Fn P w K mg base "lost" 6 1 Je:=X3 (k:=5) D_lost mD rfl (fun X C=>fK T F_shown_in F_undone_in C) rfl;have F_by_hand:Fn P w K mg base "by_hand" 2 2 U7:=X3 (k:=1) D_by_hand Yk rfl (fun X C=>Ub T F_undone_in C) rfl;have F__law_cell:Fn P w K mg base "_law_cell" 1 2 W0:=X3 (k:=0) D__law_cell Sw rfl (fun X C=>Os T  C) rfl;have F__law_drawn:Fn P w K mg base "_law_drawn" 2 3 A7:=X3 (k:=1) D__law_drawn Po rfl (fun X C=>Lf T F__law_cell C) rfl
 have F__law_names:Fn P w K mg base "_law_names" 3 2 P4:=X3 (k:=2) D__law_names Pn rfl (fun X C=>Le T F__law_drawn C) rfl;have F__law_words:Fn P w K mg base "_law_words" 3 2 K3:=X3 (k:=2) D__law_words Pj rfl (fun X C=>La T F__law_drawn C) rfl;have F__law_signs:Fn P w K mg base "_law_signs" 1 1 P2:=X3 (k:=0) D__law_signs Pl rfl (fun X C=>Lc T  C) rfl;have F__law_anchor:Fn P w K mg base "_law_anchor" 3 3 M0:=X3 (k:=2) D__law_anchor Ni rfl (fun X C=>Jp T F__law_drawn C) rfl;have F__law_deed:Fn P w K mg base "_law_deed" 4 5 M6:=X3 (k:=3) D__law_deed Sv rfl (fun X C=>Oq T F__law_anchor F__law_drawn F__law_signs F__law_words C) rfl
 have F__law_book:Fn P w K mg base "_law_book" 5 4 W1:=X3 (k:=4) D__law_book Sx rfl (fun X C=>Ot T F__law_deed F__law_drawn C) rfl;have F__law_order:Fn P w K mg base "_law_order" 1 1 P3:=X3 (k:=0) D__law_order Pm rfl (fun X C=>Ld T  C) rfl;have F__law_effects:Fn P w K mg base "_law_effects" 1 1 D8:=X3 (k:=0) D__law_effects Kt rfl (fun X C=>Hv T  C) rfl;have F__law_there:Fn P w K mg base "_law_there" 2 1 I9:=X3 (k:=1) D__law_there Pk rfl (fun X C=>Lb T F__law_effects F__law_order C) rfl;have F__law_text:Fn P w K mg base "_law_text" 1 2 M5:=X3 (k:=0) D__law_text Ss rfl (fun X C=>Op T  C) rfl;have F__law_age:Fn P w K mg base "_law_age" 7 2 M1:=fn_Dt (k:=6) D__law_age Vf rfl (fun X C hst hex=>Qc hst hex XX T F_age_at C) rfl
 have F__law_by:Fn P w K mg base "_law_by" 2 2 U8:=X3 (k:=1) D__law_by Yl rfl (fun X C=>Uc T F__law_effects C) rfl;exact kE (k:=8) F rN rfl (fun X C=>kY T F__law_age F__law_book F__law_by F__law_drawn F__law_effects F__law_names F__law_text F__law_there F__law_words F_as_of F_by_hand F_first_seen F_lost F_texts_of C) rfl
end
end Sm
open PySem PySem.W PyProof.Rows
theorem Sm.walkD {l:PySem.W.OpenLaw} {q:vU} {loose:List Str} {XP:(Str->Option uY)->wT->Prop} {YP:wD->wT->Prop} {d:DefRec} {K:FQ->vB} (hn:l.most=some 63) (hdf:d.params.defaults=[]) (hnm:d.name = "law")
   (hY:∀ (w:wD) (h:wT),YP w h->(K w.params).In h) (hK:∀ w:wD,Sm.noList (K w.params)=true)
   (F:∀ (w:wD) (mg:Str->Option uY) (h:wT),(K w.params).In h->h.Ns xZ mg->Sm.Txt mg/\Sm.Defs (K w.params) mg/\∃ CN CM CS CB,Sm.ExcAt (K w.params) mg "NoPlace" CN/\Sm.XSet7 (K w.params) mg CN CM CS CB)
   (pure:∀ ns:List Int,ns.length<=63->Sm.bA [.list (ns.map wN)]=.ok (.bool true)) :
   PySem.W.WalkO q loose XP YP l.row.toRowW d [] (fun f vs=>PySem.call f vs):=by
 refine L2.lQ (n:=63) (k:=9) (x := "_law_script") (CX:=fun _=>L2.CX0) (sp:=fun _=>Sm.spD 1 Sm.bA) hn (by decide) hdf ⟨rfl,by decide,by decide,rfl⟩ hY (fun w mg fa h KX G hmg=>?_) (fun w H a ns hl hO hS=>?_) fun _ _ _ _ _ z=>z
 . obtain ⟨T,D,CN,CM,CS,CB,O,XX⟩:=F w mg h KX G
   obtain ⟨f0,fd0,F0,hm0,hb0⟩:=D.1.ex; rw [hnm,hm0] at hmg; cases hmg; refine ⟨fd0,fun s u=>?_,fun base kb nb=>?_⟩
   . obtain ⟨oc,od,kV,doc,pm,an,cdv,ct,osl,rfl,lk,hcd⟩:=F0.ex
     exact .of_eq rfl
   . exact Sm.tE F0 T D O XX
 . rcases hS with hS | ⟨o,its,nn,hk,hc,_⟩
   . refine ⟨H,[.list (ns.map wN)],.bool true,L2.Same.refl _,Sm.RepL.cons ⟨a,_,rfl,hS,Sm.RepL.ints ns⟩ rfl,rfl,pure ns hl,fun v G' H' g r=>r⟩
   . exact absurd hc (Sm.noList.out (hK w) hk)
end
noncomputable section
open PySem
namespace Sm
open L2
noncomputable def Out.seq (o:Out) (g:Dn->Out):Out:=match o with
 | .nx δ=>g δ
 | o=>o
noncomputable def Out.fin (o:Out):Res uV:=match o with
 | .rt d=>.ok d
 | .nx _=>.ok .none
 | .exc c=>.exc c
 | _=>.no
noncomputable def qH (s:Option Sl):Res uV:=match s with
 | some (.sh d)=>.ok d
 | _=>.no
theorem C1 {α β:Type} (a:α) (k:α->Res β):(Res.ok a).bind k=k a:=rfl
theorem Vr {α:Type} (a:α):ofO (some a)=.ok a:=rfl
theorem D1 {α:Type} (a:α) (k:α->Out):K5 (.ok a) k=k a:=rfl
theorem Ck (g1 g2:Dn->Out) (δ:Dn):C3 g1 g2 δ=(g1 δ).seq g2:=by unfold C3 Out.seq; cases g1 δ <;> rfl
theorem Yh (δ:Dn) (g:Dn->Out):(Out.nx δ).seq g=g δ:=rfl
theorem rM (d:uV) (g:Dn->Out):(Out.rt d).seq g=.rt d:=rfl
theorem Ji (N:List Str) (g:Dn->Out) (ds:List uV):fnD N g ds=(g (K6 N ds)).fin:=by unfold fnD Out.fin; cases g (K6 N ds) <;> rfl
theorem uA (d:uV):(Out.rt d).fin=.ok d:=rfl
theorem Bv (i:Nat) (δ:Dn):A0 i δ=qH δ[i]? := rfl
theorem Df (d:uV):qH (some (.sh d))=.ok d:=rfl
theorem rS (c:Dn->Res Bool) (g1 g2:Dn->Out) (δ:Dn):sIf c g1 g2 δ=K5 (c δ) fun b=>if b=true then g1 δ else g2 δ:=rfl
theorem cI (b:Bool):Uk (.bool b)=some b:=rfl
local macro_rules
 | `(tactic| simp_arith) => `(tactic| simp_arith [C1])
 | `(tactic| simp_arith [$ls,*]) => `(tactic| simp only [$ls,*, Ji, K6, Ck, Yh, rM, uA, rS, B6, b2, b1, Bv, Df, E4, E5, A6, A1, vC, C1, Vr, D1, K1, E7, F5, vFn, C0, N6, X5, Bq, vSl, Jv, J3, cI,
 vK,c7,vP,xR,vW,xY,xB,wQ,j9,DH,vZ,wA,i0,g9,wU,reduceIte])
theorem D5 {src:Dn->Res (List uV)} {bnd:uV->Res (List Sl)} {cap:List Nat} {tt:Dn->Res Bool} {el:Dn->Res uV} {δ δc:Dn} {ds ys:List uV} (h:src δ=.ok ds) (hl:ds.length<=1000) (hc:Bl δ cap=δc) (e:C9 bnd δc tt el ds=.ok ys):D7 src bnd cap tt el δ=.ok ys:=by
 unfold D7;rw [h,C1,if_pos (vX hl (by decide)),hc,e]
theorem B5 {f g:Dn->Res uV} {op:uV->uV->Option uV} {δ:Dn} {x y d:uV} (h1:f δ=.ok x) (h2:g δ=.ok y) (h3:op x y=some d):b2 f g op δ=.ok d:=by
 unfold b2;rw [h1,C1,h2,C1,h3]; rfl
theorem I8 {f:Dn->Res (List uV)} {δ:Dn} {ds:List uV} (h:f δ=.ok ds):E4 f δ=.ok (.list ds):=by unfold E4; rw [h]; rfl
theorem D9 {i:Nat} {f:Dn->Res uV} {δ:Dn} {d:uV} (h:f δ=.ok d):E7 i f δ=.nx (δ.set i (.sh d)):=by unfold E7; rw [h]; rfl
theorem Ai {c:Dn->Res Bool} {g1 g2:Dn->Out} {δ:Dn} (h:c δ=.ok true):sIf c g1 g2 δ=g1 δ:=by unfold sIf; rw [h]; rfl
theorem Q9 {c:Dn->Res Bool} {g1 g2:Dn->Out} {δ:Dn} (h:c δ=.ok false):sIf c g1 g2 δ=g2 δ:=by unfold sIf; rw [h]; rfl
theorem B3 {g1 g2:Dn->Out} {δ δ':Dn} (h:g1 δ=.nx δ'):C3 g1 g2 δ=g2 δ':=by unfold C3; rw [h]
theorem Lk {g1 g2:Dn->Out} {δ:Dn} {d:uV} (h:g1 δ=.rt d):C3 g1 g2 δ=.rt d:=by unfold C3; rw [h]
theorem L0 {f:Dn->Res uV} {δ:Dn} {d:uV} (h:f δ=.ok d):K1 f δ=.rt d:=by unfold K1; rw [h]; rfl
theorem P9 {N:List Str} {g:Dn->Out} {ds:List uV} {d:uV} (h:g (K6 N ds)=.rt d):fnD N g ds=.ok d:=by rw [Ji,h]; rfl
theorem A5 {f:Dn->Res uV} {fs:Dn->Res (List uV)} {δ:Dn} {d:uV} {ds:List uV} (h:f δ=.ok d) (h2:fs δ=.ok ds):A1 f fs δ=.ok (d::ds):=by unfold A1; rw [h,C1,h2]; rfl
theorem C4 {fs:Dn->Res (List uV)} {m:List uV->Res uV} {δ:Dn} {ds:List uV} {r:Res uV} (h:fs δ=.ok ds) (h2:m ds=r):C0 fs m δ=r:=by unfold C0; rw [h,C1,h2]
theorem Q1 {f:Dn->Res (List uV)} {δ:Dn} {ds:List uV} (h:f δ=.ok ds):E5 f δ=.ok (.tuple ds):=by unfold E5; rw [h]; rfl
theorem O0 {f:Dn->Res (List uV)} {op:List uV->Option uV} {δ:Dn} {ds:List uV} {d:uV} (h:f δ=.ok ds) (h2:op ds=some d):vFn f op δ=.ok d:=by unfold vFn; rw [h,C1,h2]; rfl
theorem C2 {f:Dn->Res uV} {δ:Dn} {b:Bool} (h:f δ=.ok (.bool b)):B6 f δ=.ok b:=by unfold B6; rw [h]; rfl
abbrev scr (ns:List Int):uV:=.list (ns.map .int)
theorem oG {n j:Nat} (h:j < n):ixN n (j:Int)=some j:=by
 unfold ixN;rw [if_pos (by lia)];simp [h]
theorem K8 {α:Type} {xs:List α} {j:Nat} (h:j < xs.length):atI xs (j:Int)=some xs[j]:=by
 unfold atI;rw [oG h];simp
theorem Lq {α:Type} {xs:List α} {i:Int} (h0:0<=i) (h:i < xs.length):∃ x∈xs,atI xs i=some x:=by
 obtain ⟨j,rfl⟩:=Int.eq_ofNat_of_zero_le h0;have hj:j < xs.length:=by lia
 exact ⟨xs[j],BB _,K8 hj⟩
theorem oP (ns:List Int):vN (scr ns) (.list [])=ns.isEmpty:=by
 cases ns with
 | nil=>rfl
 | cons n ns=>rfl
theorem bN (ns:List Int):dEq (scr ns) (.list [])=some (.bool ns.isEmpty):=by
 unfold dEq;rw [if_pos (vX (zD _ _) (by decide)),oP]
theorem Vw {a b:Int} (h:(-(2 ^ 64) < a/\a < 2 ^ 64)\/(-(2 ^ 64) < b/\b < 2 ^ 64)):O5 (.int a) (.int b)=some (.int (a*b)):=by
 show (if _ then _ else _)=_;rw [if_pos h]
theorem mul7 {b:Int}:O5 (.int 7) (.int b)=some (.int (7*b)):=Vw (.inl ⟨by decide,by decide⟩)
theorem nW {b:Int}:O5 (.int 6553) (.int b)=some (.int (6553*b)):=Vw (.inl ⟨by decide,by decide⟩)
theorem dZ {b:Int}:O5 (.int 104723) (.int b)=some (.int (104723*b)):=Vw (.inl ⟨by decide,by decide⟩)
theorem jJ {b:Int}:O5 (.int b) (.int 69069)=some (.int (b*69069)):=Vw (.inr ⟨by decide,by decide⟩)
theorem mul2 {b:Int}:O5 (.int 2) (.int b)=some (.int (2*b)):=Vw (.inl ⟨by decide,by decide⟩)
theorem jK {b:Int}:O5 (.int 60) (.int b)=some (.int (60*b)):=Vw (.inl ⟨by decide,by decide⟩)
theorem jL {a b:Int} (h:0 < b):Pw (.int a) (.int b)=some (.int (a % b)):=by
 show (if _ then _ else _)=_;rw [if_pos h]
theorem oU {a b:Int} (h:0 < b) (h2:b < 1073741824):Kf (.int a) (.int b)=some (.int (a / b)):=by
 show (if _ then _ else _)=_;rw [if_pos ⟨h,h2⟩]
theorem Q8 {a b:Int}:C6 (.int a) (.int b)=some (.int (a+b)):=rfl
theorem pM (ns:List Int) (hns:ns.length<=63) (k:Int):∃ c,W0 [scr ns,.int k]=.ok (.int c):=by
 unfold W0 Be Aw;cases hn:ns with
 | nil =>
   refine ⟨7*k,?_⟩;simp_arith [bN,List.isEmpty_nil,mul7]
 | cons n r =>
   have e1:=bN (n::r); have hl:(0:Int) < ((n::r).length:Int):=by simp
   have hl2:((n::r).length:Int)<=63:=by rw [<- hn]; lia
   obtain ⟨x,hx,e2⟩:=Lq (xs:=(n::r).map wN) (i:=k % ((n::r).length:Int)) (EE _ (by lia)) (by rw [vA]; exact CI _ hl);obtain ⟨c,_,rfl⟩:=wF.mp hx; refine ⟨c+6553*(k / ((n::r).length:Int)),?_⟩; have e3:M4 [scr (n::r)]=some (.int ((n::r).length:Int)):=by simp [M4,scr]
   have e4:dIx (scr (n::r)) (.int (k % ((n::r).length:Int)))=some (.int c):=e2;generalize hS:scr (n::r)=S at *;generalize hL:((n::r).length:Int)=m at *;simp_arith [e1,List.isEmpty_cons,e3,jL hl,oU hl (show m < 1073741824 by lia),nW,e4,Q8]
theorem G6 (ns:List Int) (hns:ns.length<=63) (k m:Int) (hm:0 < m):∃ r,A7 [scr ns,.int k,.int m]=.ok (.int r)/\0<=r/\r < m:=by
 obtain ⟨c,hc⟩:=pM ns hns k;unfold A7 Ah Y0;generalize scr ns=S at *;simp_arith [hc,jL (show (0:Int) < 2147483563 by decide),Q8,jJ,dZ];generalize hA:(c % 2147483563*69069+104723*(k+1)) % 2147483563=A;have a0:0<=A:=by rw [<- hA]; exact EE _ (by decide)
 have a1:A < 2147483563:=by rw [<- hA]; exact CI _ (by decide)
 simp_arith [Vw (a:=A) (b:=A) (.inl ⟨Int.lt_of_lt_of_le (by decide) a0,Int.lt_trans a1 (by decide)⟩),oU (show (0:Int) < 3 by decide) (by decide),Q8,jL (show (0:Int) < 2147483399 by decide)]
 generalize hB:(A*A+A / 3) % 2147483399=B;have b0:0<=B:=by rw [<- hB]; exact EE _ (by decide)
 have b1:B < 2147483399:=by rw [<- hB]; exact CI _ (by decide)
 simp_arith [Vw (a:=B) (b:=B) (.inl ⟨Int.lt_of_lt_of_le (by decide) b0,Int.lt_trans b1 (by decide)⟩),oU (show (0:Int) < 7 by decide) (by decide),Q8,jL (show (0:Int) < 2147483647 by decide),oU (show (0:Int) < 11 by decide) (by decide),jL hm]
 exact ⟨_,rfl,EE _ (by lia),CI _ hm⟩
theorem jU {x:Str} {i:Int} (h0:0<=i) (h:i < (x.cps.toList.length:Int)):∃ c∈x.cps.toList,dIx (.str x) (.int i)=some (.str ⟨#[c]⟩):=by
 obtain ⟨c,hc,e⟩:=Lq (xs:=x.cps.toList) h0 h;exact ⟨c,hc,by show (atI x.cps.toList i).map _=_; rw [e]; rfl⟩
theorem eJ (c:Nat):(⟨#[c]⟩:Str).length=1:=rfl
theorem Jx:(1000:Nat)<=sizeLine:=by decide
theorem addS {x y:Str} (h:x.length+y.length<=1000):C6 (.str x) (.str y)=some (.str (x++y)):=by
 show (if _ then _ else _)=_;rw [if_pos (vX h Jx)]
theorem Ou {x y:List uV} (h:x.length+y.length<=1000):C6 (.list x) (.list y)=some (.list (x++y)):=by
 show (if _ then _ else _)=_;rw [if_pos (vX h Jx)]
theorem addT {x y:List uV} (h:x.length+y.length<=1000):C6 (.tuple x) (.tuple y)=some (.tuple (x++y)):=by
 show (if _ then _ else _)=_;rw [if_pos (vX h Jx)]
theorem strLen_append (x y:Str):(x++y).length=x.length+y.length:=by
 show (x.cps++y.cps).size=_;rw [Array.size_append]; rfl
def chOk (lo hi:Nat) (x:Str):Prop:=∀ c∈x.cps.toList,lo<=c/\c<=hi
theorem chOk.app {lo hi:Nat} {x y:Str} (hx:chOk lo hi x) (hy:chOk lo hi y):chOk lo hi (x++y):=fun c hc=>by
 have:c∈(x.cps++y.cps).toList:=hc;rw [Array.toList_append] at this;exact (vT.mp this).elim (hx c) (hy c)
theorem chOk.one {lo hi c:Nat} (h:lo<=c/\c<=hi):chOk lo hi ⟨#[c]⟩:=fun d hd=>by
 have:d=c:=by simpa using hd
 rw [this]; exact h
theorem chOk.nil {lo hi:Nat}:chOk lo hi "" := fun c hc=>by
 rw [show ("" : Str).cps.toList=[] from rfl] at hc; exact nomatch hc
theorem mulS {c:Nat} {n:Int} (h0:0<=n) (h:n < 2):∃ y:Str,O5 (.str ⟨#[c]⟩) (.int n)=some (.str y)/\y.length<=1/\∀ d∈y.cps.toList,d=c:=by
 have:n=0\/n=1:=by lia
 rcases this with rfl | rfl
 . refine ⟨L9 0 ⟨#[c]⟩,rfl,(show (0:Nat)<=1 by decide),fun d hd=>?_⟩
   simp [L9] at hd
 . refine ⟨L9 1 ⟨#[c]⟩,rfl,by unfold L9; simp; exact vL _,fun d hd=>?_⟩
   simpa [L9] using hd
def Br (x:Str):Prop:=1<=x.length/\x.length<=6/\chOk 97 122 x
def Ox (x:Str):Prop:=1<=x.length/\x.length<=4/\chOk 32 126 x
theorem ixL {xs:List uV} {i:Int} (h0:0<=i) (h:i < (xs.length:Int)):∃ x∈xs,dIx (.list xs) (.int i)=some x:=Lq h0 h
theorem Fm (ns:List Int) (hns:ns.length<=63) (a k:Int) (hk:0<=k) (hk2:k < 3) (fd:List uV) (hf:fd.length < 1000) (s4:Sl):∃ z w:Str,Br z /\
   (C3 (E7 4 (b2 (b2 (vC (.str "abcdefghijklmnopqrstuvwxyz")) (C0 (A1 (A0 0) (A1 (b2 (A0 1) (b2 (vC (.int 2)) (A0 3) O5) C6) (A1 (vC (.int 26)) A6))) A7) dIx) (C0 (A1 (A0 0) (A1 (b2 (b2 (A0 1) (b2 (vC (.int 2)) (A0 3) O5) C6) (vC (.int 1)) C6) (A1 (vC (.int 2)) A6))) A7) O5)) (X2 2 (b2 (E4 (A1 (b2 (A0 4) (b2 (vC (.str "xyz")) (A0 3) dIx) C6) (A1 (b2 (b2 (vC (.str "xyz")) (A0 3) dIx) (A0 4) C6) A6))) (C0 (A1 (A0 0) (A1 (b2 (A0 1) (vC (.int 6)) C6) (A1 (vC (.int 2)) A6))) A7) dIx)))
     [.sh (scr ns),.sh (.int a),.ow (.list fd),.sh (.int k),s4]=.nx [.sh (scr ns),.sh (.int a),.ow (.list (fd++[.str z])),.sh (.int k),.sh (.str w)]:=by
 obtain ⟨r1,e1,a1,b1⟩:=G6 ns hns (a+2*k) 26 (by decide);obtain ⟨r2,e2,a2,b2'⟩:=G6 ns hns (a+2*k+1) 2 (by decide);obtain ⟨r3,e3,a3,b3⟩:=G6 ns hns (a+6) 2 (by decide);obtain ⟨c1,hc1,f1⟩:=jU (x := "abcdefghijklmnopqrstuvwxyz") a1 (by rw [show ("abcdefghijklmnopqrstuvwxyz" : Str).cps.toList.length=26 from by decide]; exact b1);obtain ⟨y,f2,l2,hy⟩:=mulS (c:=c1) a2 b2';obtain ⟨c2,hc2,f3⟩:=jU (x := "xyz") hk (by rw [show ("xyz" : Str).cps.toList.length=3 from by decide]; exact hk2);have g1:C6 (.str y) (.str ⟨#[c2]⟩)=_:=addS (x:=y) (y:=⟨#[c2]⟩) (by rw [eJ]; lia);have g2:C6 (.str ⟨#[c2]⟩) (.str y)=_:=addS (x:=⟨#[c2]⟩) (y:=y) (by rw [eJ]; lia)
 obtain ⟨x,hx,f4⟩:=ixL (xs:=[.str (y++⟨#[c2]⟩),.str (⟨#[c2]⟩++y)]) a3 b3;have o1:chOk 97 122 y:=fun d hd=>by
   rw [hy d hd]; exact (by decide:∀ c∈("abcdefghijklmnopqrstuvwxyz" : Str).cps.toList,97<=c/\c<=122) c1 hc1
 have o2:chOk 97 122 ⟨#[c2]⟩:=.one ((by decide:∀ c∈("xyz" : Str).cps.toList,97<=c/\c<=122) c2 hc2);have:∃ z,x=.str z/\Br z:=by
   rcases vF.mp hx with h | h
   . exact ⟨_,h,by rw [strLen_append,eJ]; lia,by rw [strLen_append,eJ]; lia,o1.app o2⟩
   . exact ⟨_,vQ.mp h,by rw [strLen_append,eJ]; lia,by rw [strLen_append,eJ]; lia,o2.app o1⟩
 obtain ⟨z,rfl,hz⟩:=this;refine ⟨z,y,hz,?_⟩;have szB:fd.length < sizeLine:=wG hf Jx;simp_arith [mul2,Q8,e1,e2,e3,f1,f2,f3,g1,g2,f4,X2,szB]
theorem jG (ns:List Int) (hns:ns.length<=63) (a:Int):∃ x y z:Str,(Br x/\Br y/\Br z)/\P4 [scr ns,.int a]=.ok (.list [.str x,.str y,.str z]):=by
 obtain ⟨x,w1,hx,e1⟩:=Fm ns hns a 0 (by decide) (by decide) [] (by simp) .un;obtain ⟨y,w2,hy,e2⟩:=Fm ns hns a 1 (by decide) (by decide) [.str x] (by simp) (.sh (.str w1));obtain ⟨z,w3,hz,e3⟩:=Fm ns hns a 2 (by decide) (by decide) [.str x,.str y] (by simp) (.sh (.str w2));refine ⟨x,y,z,⟨hx,hy,hz⟩,?_⟩;unfold P4 Ag W8 W7 W6 N2;have r:Bg [.int 3]=.ok [.int 0,.int 1,.int 2]:=rfl;simp only [Ji,K6,Ck (Hh _ _),Hh,A6,D1,Yh,vK,c7,vP,xR,vW,xY,xB,vZ,wA,Ck (N3 _ _ _),N3,A1,vC,C1,r,E3,st1,i0,g9]
 rw [e1];simp only [xB,vZ,wA];rw [e2];simp only [xY,xB,vZ,wA];rw [e3];rfl
theorem Wz {bnd:uV->Res (List Sl)} {δc:Dn} {el:Dn->Res uV} {P:uV->Prop}:∀ (ds:List uV),(∀ d∈ds,∃ sl y,bnd d=.ok sl/\el (sl++δc)=.ok y/\P y)->∃ ys:List uV,C9 bnd δc J3 el ds=.ok ys/\ys.length=ds.length/\∀ y∈ys,P y
 | [],_=>⟨[],rfl,rfl,fun _ h=>nomatch h⟩
 | d::ds,h=>by
   obtain ⟨sl,y,e1,e2,p⟩:=h d (.head _); obtain ⟨ys,e3,e4,e5⟩:=Wz ds fun d' h'=>h d' (.tail _ h');refine ⟨y::ys,?_,by simp [e4],fun z hz=>?_⟩
   . unfold C9
     rw [e1]; simp only [J3,e2,e3]
   . rcases vF.mp hz with rfl | hz
     . exact p
     . exact e5 z hz
theorem aE {P:Str->Prop}:∀ (ys:List uV),(∀ y∈ys,∃ x,y=.str x/\P x)->∃ xs:List Str,Cd ys=some xs/\xs.length=ys.length/\∀ x∈xs,P x
 | [],_=>⟨[],rfl,rfl,fun _ h=>nomatch h⟩
 | y::ys,h=>by
   obtain ⟨x,rfl,p⟩:=h y (.head _); obtain ⟨xs,e1,e2,e3⟩:=aE ys fun d' h'=>h d' (.tail _ h');exact ⟨x::xs,by show (Cd ys).map _=_; rw [e1]; rfl,by simp [e2],fun z hz=>by
     rcases vF.mp hz with rfl | hz
     . exact p
     . exact e3 z hz⟩
theorem Ed:∀ (xs:List Str),(∀ x∈xs,x.length=1/\wJ x=true/\chOk 32 126 x)->(k7 "" xs).length=xs.length/\wJ (k7 "" xs)=true/\chOk 32 126 (k7 "" xs)
 | [],_=>⟨rfl,by decide +kernel,chOk.nil⟩
 | [x],h=>⟨(h x (.head _)).1,(h x (.head _)).2.1,(h x (.head _)).2.2⟩
 | x::y::r,h=>by
   obtain ⟨l,o,q⟩:=Ed (y::r) fun z hz=>h z (.tail _ hz);obtain ⟨l1,o1,q1⟩:=h x (.head _); show (x ++ "" ++ k7 "" (y::r)).length=_/\wJ (x ++ "" ++ k7 "" (y::r))=true/\chOk 32 126 (x ++ "" ++ k7 "" (y::r));refine ⟨?_,Ce (Ce o1 (by decide +kernel)) o,(q1.app chOk.nil).app q⟩;rw [strLen_append,strLen_append]; have:(("" : Str)).length=0:=rfl; simp only [vP] at l ⊢;lia
theorem Me:∀ (xs:List Str),(∀ x∈xs,x.length=1/\wJ x=true/\chOk 32 126 x)->(xs.map (·.length)).sum=xs.length
 | [],_=>rfl
 | x::r,h=>by
   simp only [vK,List.sum_cons,vP,(h x (.head _)).1,Me r fun z hz=>h z (.tail _ hz)];lia
theorem hV {n:Int} (h0:0<=n) (h:n < 1000):Bg [.int n]=.ok (P0 0 n):=by
 show (if _ then _ else _)=_;rw [if_pos (by lia)]
theorem Eb {fs:Dn->Res (List uV)} {δ:Dn} {n:Int} (h:fs δ=.ok [.int n]) (h0:0<=n) (h1:n < 1000):(fun δ=>(fs δ).bind Bg) δ=.ok (P0 0 n):=by
 show (fs δ).bind Bg=_;rw [h,C1,hV h0 h1]
theorem D6 {f:Dn->Res uV} {δ:Dn} {d:uV} {ds:List uV} (h:f δ=.ok d) (h2:D2 d=.ok ds):(fun δ=>(f δ).bind D2) δ=.ok ds:=by
 show (f δ).bind D2=_;rw [h,C1,h2]
theorem Uf (ns:List Int) (hns:ns.length<=63) (a:Int):∃ x:Str,K3 [scr ns,.int a]=.ok (.str x)/\Ox x:=by
 obtain ⟨r1,e1,a1,b1⟩:=G6 ns hns (a+4) 4 (by decide);unfold K3 Ab X8;have hr:Bg [.int (1+r1)]=.ok (P0 0 (1+r1)):=hV (by lia) (by lia);have hlen:(P0 0 (1+r1)).length<=4/\1<=(P0 0 (1+r1)).length:=by unfold P0; simp; lia
 have hall:∀ d∈P0 0 (1+r1),∃ sl y,C8 d=.ok sl/\(b2 (vC (.str "ab cd~ <")) (C0 (A1 (A0 1) (A1 (b2 (A0 2) (A0 0) C6) (A1 (vC (.int 8)) A6))) A7) dIx) (sl++[.sh (scr ns),.sh (.int a)])=.ok y/\∃ x:Str,y=.str x/\x.length=1/\wJ x=true/\chOk 32 126 x:=fun d hd=>by
   unfold P0 at hd; obtain ⟨i,hi,rfl⟩:=wF.mp hd; have hi':i < 4:=by have:=yQ.mp hi; lia
   obtain ⟨r2,e2,a2,b2'⟩:=G6 ns hns (a+(0+(i:Int))) 8 (by decide);obtain ⟨c,hc,f⟩:=jU (x := "ab cd~ <") a2 (by have:("ab cd~ <" : Str).cps.toList.length=8:=(by decide); rw [this]; exact b2');refine ⟨[.sh (.int (0+(i:Int)))],.str ⟨#[c]⟩,rfl,?_,⟨#[c]⟩,rfl,rfl,?_,.one ((by decide:∀ c∈("ab cd~ <" : Str).cps.toList,32<=c/\c<=126) c hc)⟩
   . simp_arith [Q8,e2,f]
   . have:∀ c∈("ab cd~ <" : Str).cps.toList,c < 0x110000:=by decide
     unfold wJ; simp [this c hc]
 obtain ⟨ys,g1,g2,g3⟩:=Wz (P0 0 (1+r1)) hall;obtain ⟨xs,g4,g5,g6⟩:=aE ys g3;obtain ⟨l1,o1,q1⟩:=Ed xs g6;have s1:=Me xs g6;refine ⟨k7 "" xs,?_,by lia,by lia,q1⟩;have hj:Ri "" (.list ys)=some (.str (k7 "" xs)):=by
   show (Cd ys).bind _=_;rw [g4]; show (if _ then _ else _)=_;have:(("" : Str)).length=0:=rfl; rw [if_pos ⟨by rw [s1,this]; lia,o1,vX (show _<=1000 by lia) Jx⟩]
 have hz:(P0 0 (1+r1)).length<=sizeLine:=vX (show _<=1000 by lia) Jx;simp_arith [Q8,e1,hr,D7,hz,Bl,Option.getD_some,g1,hj]
abbrev idD (t:Int) (h:Str):uV:=.tuple [.int t,.str h]
abbrev IdP:=Int×Str
abbrev idP (p:IdP):uV:=idD p.1 p.2
abbrev sgD (p:IdP) (n:Int):uV:=.tuple [idP p,.int n]
noncomputable def hj (h:Str):Nat:=if h = "a" then 0 else if h = "b" then 1 else 2
noncomputable def key (p:IdP):Int:=3*p.1+hj p.2
def okH (h:Str):Prop:=h = "a" \/ h = "b" \/ h = "c"
def okI (p:IdP):Prop:=1<=p.1/\p.1<=10/\okH p.2
theorem Wi (h:Str):hj h<=2:=by unfold hj; split <;> (try split) <;> lia
def SgOf (T:Int) (ds:List uV) (x:uV):Prop:=∃ (p:IdP) (b:uV) (w:Str) (n:Nat),zP [.str "add",idP p,b,.str w]∈ds/\x=sgD p n/\n < w.length/\p.1 < T/\okI p
theorem SgOf.mono {T:Int} {ds ds':List uV} {x:uV} (h:SgOf T ds x) (k:∀ d∈ds,d∈ds'):SgOf T ds' x:=by
 obtain ⟨p,b,w,n,e,r⟩:=h; exact ⟨p,b,w,n,k _ e,r⟩
def sgR (a b:uV):Prop:=∃ (p q:IdP) (n m:Int),a=sgD p n/\b=sgD q m/\okH p.2/\okH q.2/\(key p < key q\/(p=q/\n < m))
def OrN (S:uV->Prop) (d:uV):Prop:=d=.none\/S d
def sW (x:Str):Prop:=x = "l" \/ x = "r"
def Wf (p:IdP) (S:uV->Prop) (U:IdP->Prop) (d:uV):Prop:=okI p /\
 ((∃ b w,d=.tuple [.str "add",idP p,b,.str w]/\OrN S b/\Ox w) \/
  (∃ sg,d=.tuple [.str "drop",idP p,.tuple sg]/\(∀ x∈sg,S x)/\sg.length<=40/\sg≠[]/\sg.Pairwise sgR) \/
  (∃ n s1 x1 s2 x2,d=.tuple [.str "mark",idP p,.str n,.tuple [s1,.str x1],.tuple [s2,.str x2]]/\OrN S s1/\OrN S s2/\Br n/\sW x1/\sW x2) \/
  (∃ n,d=.tuple [.str "unmark",idP p,.str n]/\Br n) \/
  (∃ q,d=.tuple [.str "undo",idP p,idP q]/\U q))
theorem OrN.mono {S S':uV->Prop} {d:uV} (h:OrN S d) (k:∀ x,S x->S' x):OrN S' d:=h.elim .inl fun z=>.inr (k _ z)
theorem Wf.mono {p:IdP} {S S':uV->Prop} {U U':IdP->Prop} {d:uV} (h:Wf p S U d) (k2:∀ x,S x->S' x) (k3:∀ q,U q->U' q):Wf p S' U' d:=by
 obtain ⟨o,r⟩:=h;refine ⟨o,?_⟩;rcases r with ⟨b,w,e,hb,hw⟩ | ⟨sg,e,hs,hl⟩ | ⟨n,s1,x1,s2,x2,e,h1,h2,h3⟩ | ⟨n,e⟩ | ⟨i,e,hi⟩
 . exact .inl ⟨b,w,e,hb.mono k2,hw⟩
 . exact .inr (.inl ⟨sg,e,fun x hx=>k2 x (hs x hx),hl⟩)
 . exact .inr (.inr (.inl ⟨n,s1,x1,s2,x2,e,h1.mono k2,h2.mono k2,h3⟩))
 . exact .inr (.inr (.inr (.inl ⟨n,e⟩)))
 . exact .inr (.inr (.inr (.inr ⟨i,e,k3 _ hi⟩)))
theorem Al (x y:Str):dEq (.str x) (.str y)=some (.bool (x==y)):=by
 unfold dEq;rw [if_pos (vX (HE _ _) (by simp [yF]))];rfl
theorem bY:(("add" : Str)==("add" : Str))=true:=by decide +kernel
noncomputable def Rp:Dn->Out:=(sIf (B6 (b2 (b2 (A0 2) (vC (.int 0)) dIx) (vC (.str "add")) dEq)) (E7 1 (b2 (A0 1) (E4 (D7 (fun δ=>((A1 (vFn (A1 (b2 (A0 2) (vC (.int 3)) dIx) A6) M4) A6) δ).bind Bg) C8 [2] J3 (E5 (A1 (b2 (A0 1) (vC (.int 1)) dIx) (A1 (A0 0) A6))))) C6)) F5)
theorem Dv {α:Type} {δc:Dn} {el:Dn->Res uV} (g f:α->uV) (h:∀ y:α,el ([.sh (g y)]++δc)=.ok (f y)):∀ ys:List α,C9 C8 δc J3 el (ys.map g)=.ok (ys.map f)
 | []=>rfl
 | y::ys=>by
   rw [vK,vK]; unfold C9; simp only [C8,J3,h y,Dv g f h ys]
theorem Yg {p:IdP} {S:uV->Prop} {U:IdP->Prop} {T:Int} {d:uV} (hd:Wf p S U d) (hT:p.1 < T) (B:uV) (fd:List uV) (hf:fd.length<=100):∃ more:List uV,more.length<=4/\(∀ x∈more,SgOf T [d] x)/\(∀ x∈more,∃ n,x=sgD p n)/\more.Pairwise sgR /\
   Rp [.sh B,.sh (.list fd),.sh d]=.nx [.sh B,.sh (.list (fd++more)),.sh d]:=by
 obtain ⟨o,r⟩:=hd;have ix0:∀ (x:uV) (xs:List uV),dIx (.tuple (x::xs)) (.int 0)=some x:=fun x xs=>K8 (xs:=x::xs) (j:=0) (by simp);have ix1:∀ (x y:uV) (xs:List uV),dIx (.tuple (x::y::xs)) (.int 1)=some y:=fun x y xs=>K8 (xs:=x::y::xs) (j:=1) (by simp);have ix3:∀ (x y z u:uV),dIx (.tuple [x,y,z,u]) (.int 3)=some u:=fun x y z u=>K8 (xs:=[x,y,z,u]) (j:=3) (by simp);have no:∀ d,(B6 (b2 (b2 (A0 2) (vC (.int 0)) dIx) (vC (.str "add")) dEq)) [.sh B,.sh (.list fd),.sh d]=.ok false->∃ more:List uV,more.length<=4/\(∀ x∈more,SgOf T [d] x)/\(∀ x∈more,∃ n,x=sgD p n)/\more.Pairwise sgR/\Rp [.sh B,.sh (.list fd),.sh d]=.nx [.sh B,.sh (.list (fd++more)),.sh d]:=fun d e=>by
   refine ⟨[],by simp,(fun _ h=>nomatch h),(fun _ h=>nomatch h),.nil,?_⟩;unfold Rp; rw [Q9 e,wQ]; rfl
 rcases r with ⟨b,w,rfl,hb,hw⟩ | ⟨sg,rfl,_⟩ | ⟨n,s1,x1,s2,x2,rfl,_⟩ | ⟨n,rfl,_⟩ | ⟨i,rfl,_⟩
 . have er:P0 0 (w.length:Int)=(wS w.length).map fun i:Nat=>wN (0+(i:Int)):=by unfold P0; simp
   have g1:=Dv (δc:=[.sh (.tuple [.str "add",idP p,b,.str w])]) (el:=E5 (A1 (b2 (A0 1) (vC (.int 1)) dIx) (A1 (A0 0) A6))) (fun i:Nat=>wN (0+(i:Int))) (fun i=>sgD p (0+(i:Int))) (fun i=>by simp_arith [ix1]) (wS w.length);have hl:=hw.2.1; refine ⟨(wS w.length).map fun i:Nat=>sgD p (0+(i:Int)),by simp; exact hl,fun x hx=>?_,fun x hx=>?_,?_,?_⟩
   . obtain ⟨i,hi,rfl⟩:=wF.mp hx
     exact ⟨p,b,w,i,.head _,by rw [GE],yQ.mp hi,hT,o⟩
   . obtain ⟨i,hi,rfl⟩:=wF.mp hx
     exact ⟨_,rfl⟩
   . rw [FV]
     exact (DR).imp fun {a b} h=>⟨p,p,_,_,rfl,rfl,o.2.2,o.2.2,.inr ⟨rfl,by lia⟩⟩
   . have ha:C6 (.list fd) (.list ((wS w.length).map fun i:Nat=>sgD p (0+(i:Int))))=_:=Ou (by simp; lia)
     have e1:M4 [.str w]=some (.int (w.length:Int)):=rfl; unfold Rp; rw [Ai (by simp_arith [ix0,Al,bY])];refine D9 (B5 rfl (I8 (D5 (ds:=P0 0 (w.length:Int)) (Eb (by simp_arith [ix3,e1]) (by lia) (by lia)) (by rw [er]; simp; lia) rfl (by rw [er]; exact g1))) ha)
 . exact no _ (by simp_arith [ix0,Al,show (("drop" : Str)==("add" : Str))=false from by decide +kernel])
 . exact no _ (by simp_arith [ix0,Al,show (("mark" : Str)==("add" : Str))=false from by decide +kernel])
 . exact no _ (by simp_arith [ix0,Al,show (("unmark" : Str)==("add" : Str))=false from by decide +kernel])
 . exact no _ (by simp_arith [ix0,Al,show (("undo" : Str)==("add" : Str))=false from by decide +kernel])
abbrev Dp:=uV×IdP
theorem Nc {S:IdP->uV->Prop} {U:IdP->IdP->Prop} {T:Int} (D:List uV) (B:uV):∀ (ds:List Dp),(∀ e∈ds,Wf e.2 (S e.2) (U e.2) e.1/\e.1∈D/\e.2.1 < T)->ds.Pairwise (fun a b=>key a.2 < key b.2)->∀ (fd:List uV) (s2:Sl),fd.length+4*ds.length<=100->(∀ x∈fd,SgOf T D x) ->
   fd.Pairwise sgR->(∀ x∈fd,∃ q n,x=sgD q n/\okH q.2/\∀ e∈ds,key q < key e.2)->∃ (out:List uV) (s2':Sl),out.length<=fd.length+4*ds.length/\(∀ x∈out,SgOf T D x)/\out.Pairwise sgR /\
   E3 (st1 2) Rp (ds.map (·.1)) [.sh B,.sh (.list fd),s2]=.nx [.sh B,.sh (.list out),s2']
 | [],_,_,fd,s2,_,hs,hp,_=>⟨fd,s2,by lia,hs,hp,rfl⟩
 | e::ds,hd,up,fd,s2,hl,hs,hp,hq=>by
   obtain ⟨w,m,ht⟩:=hd e (.head _); obtain ⟨more,l1,s1,i1,p1,e1⟩:=Yg w ht B fd (by simp at hl; lia);have up':=wP.mp up; obtain ⟨out,s2',l2,s3,p3,e2⟩:=Nc D B ds (fun d' h'=>hd d' (.tail _ h')) up'.2 (fd++more) (.sh e.1) (by simp at hl ⊢; lia)
     (fun x hx=>(vT.mp hx).elim (hs x) fun z=>(s1 x z).mono fun q hq=>by rw [vQ.mp hq]; exact m)
     (zW.mpr ⟨hp,p1,fun a ha b hb=>by
       obtain ⟨q,n,rfl,o,k⟩:=hq a ha; obtain ⟨n',rfl⟩:=i1 b hb; exact ⟨q,e.2,n,n',rfl,rfl,o,w.1.2.2,.inl (k e (.head _))⟩⟩)
     (fun x hx=>(vT.mp hx).elim (fun z=>by
       obtain ⟨q,n,h1,h2,h3⟩:=hq x z; exact ⟨q,n,h1,h2,fun e' he'=>h3 e' (.tail _ he')⟩) fun z=>by
       obtain ⟨n',rfl⟩:=i1 x z; exact ⟨e.2,n',rfl,w.1.2.2,fun e' he'=>up'.1 e' he'⟩)
   refine ⟨out,s2',by simp at l2 ⊢; lia,s3,p3,?_⟩;rw [vK]; unfold E3; simp only [st1,vZ,wA]; rw [e1]; exact e2
theorem gS {S:IdP->uV->Prop} {U:IdP->IdP->Prop} {T:Int} (ds:List Dp) (hd:∀ e∈ds,Wf e.2 (S e.2) (U e.2) e.1/\e.2.1 < T) (up:ds.Pairwise (fun a b=>key a.2 < key b.2)) (hl:ds.length<=9) :
   ∃ out:List uV,P2 [.tuple (ds.map (·.1))]=.ok (.list out)/\out.length<=36/\(∀ x∈out,SgOf T (ds.map (·.1)) x)/\out.Pairwise sgR:=by
 obtain ⟨out,s2',l2,s3,p3,e2⟩:=Nc (ds.map (·.1)) (.tuple (ds.map (·.1))) ds (fun e h=>⟨(hd e h).1,xV h,(hd e h).2⟩) up [] .un (by simp; lia) (fun _ h=>nomatch h) .nil (fun _ h=>nomatch h);refine ⟨out,?_,by simp at l2; lia,s3,p3⟩;unfold P2 Ae X9;simp only [Ji,K6,Ck (E7 _ _),E7,E4,A6,D1,C1,Yh,vK,c7,vP,xR,vW,xY,xB,vZ,wA,Ck (N3 _ _ _),N3,Bv,Df,D2,j9,i0,g9];unfold Rp at e2;rw [e2];simp_arith
theorem O9 {c:Dn->Res Bool} {g1 g2:Dn->Out} {δ:Dn} (h:c δ=.ok false):C3 (sIf c g1 F5) g2 δ=g2 δ:=B3 (Q9 h)
theorem mulL {xs:List uV} {n:Int} (h : -(2 ^ 63)<=n/\n < 2 ^ 63/\xs.length*n.toNat<=sizeLine):O5 (.list xs) (.int n)=some (.list (vW n.toNat xs).flatten):=by
 show (if _ then _ else _)=_;rw [if_pos h]
theorem uH (xs:List uV):dNe (.list xs) (.list [])=some (.bool (!xs.isEmpty)):=by
 unfold dNe;rw [if_pos (vX (zD _ _) (by decide))];cases xs <;> rfl
theorem dEqL (xs:List uV):dEq (.list xs) (.list [])=some (.bool xs.isEmpty):=by
 unfold dEq;rw [if_pos (vX (zD _ _) (by decide))];cases xs <;> rfl
theorem pF (xs:List uV):dNe (.tuple xs) (.tuple [])=some (.bool (!xs.isEmpty)):=by
 unfold dNe;rw [if_pos (vX (zD _ _) (by decide))];cases xs <;> rfl
theorem ltI (a b:Int):K0 .Lt (.int a) (.int b)=some (.bool (decide (a < b))):=by
 unfold K0;rw [if_pos (by simp [yF])];rfl
theorem pG (a b:Int):dEq (.int a) (.int b)=some (.bool (a==b)):=by
 unfold dEq;rw [if_pos (vX (HE _ _) (by simp [yF]))];rfl
theorem bI (t:Int) (h:Str):(idD t h).depth<=2:=by simp [idD,yF,xJ]
theorem sY (xs:List uV):M4 [.list xs]=some (.int (xs.length:Int)):=rfl
theorem lenT (xs:List uV):M4 [.tuple xs]=some (.int (xs.length:Int)):=rfl
theorem Ru (ns:List Int) (hns:ns.length<=63) (a:Int) (S:uV->Prop) (sg:List uV) (hs:∀ x∈sg,S x) (hl:sg.length<=36):∃ s x,M0 [scr ns,.int a,.list sg]=.ok (.tuple [s,.str x])/\OrN S s/\sW x:=by
 obtain ⟨r1,e1,a1,b1⟩:=G6 ns hns a ((sg.length:Int)+1) (by lia);obtain ⟨r2,e2,a2,b2'⟩:=G6 ns hns (a+1) 2 (by decide);obtain ⟨c,hc,f2⟩:=jU (x := "lr") a2 (by rw [show ("lr" : Str).cps.toList.length=2 from by decide]; exact b2');have g:=Ou (x:=[.none]) (y:=sg) (by simp; lia);obtain ⟨s,hs',f1⟩:=ixL (xs:=[.none]++sg) a1 (by simp; lia);refine ⟨s,⟨#[c]⟩,?_,?_,?_⟩
 . unfold M0 X1 V7
   generalize [PyData.none]++sg=L at *;simp_arith [g,sY,Q8,e1,f1,e2,f2]
 . rcases vT.mp hs' with h | h
   . exact .inl (vQ.mp h)
   . exact .inr (hs s h)
 . have h':c∈[108,114]:=by rw [show ("lr" : Str).cps.toList=[108,114] from by decide] at hc; exact hc
   simp only [vF,BA,or_false] at h'; rcases h' with rfl | rfl
   . exact .inl (by decide)
   . exact .inr (by decide)
theorem Rk {δc:Dn} {tt:Dn->Res Bool}:∀ (zs:List (uV×uV)),(∀ z∈zs,∃ b,tt ([.sh z.1,.sh z.2]++δc)=.ok b)->∃ ys:List uV,C9 Kh δc tt (A0 1) (zs.map fun z=>.tuple [z.1,z.2])=.ok ys/\ys.Sublist (zs.map (·.2))
 | [],_=>⟨[],rfl,.slnil⟩
 | z::zs,h=>by
   obtain ⟨b,e⟩:=h z (.head _); obtain ⟨ys,e1,e2⟩:=Rk zs fun z' hz=>h z' (.tail _ hz);rw [vK,vK];cases b with
   | true =>
     refine ⟨z.2::ys,?_,e2.cons_cons _⟩; unfold C9; rw [show Kh (.tuple [z.1,z.2])=.ok [.sh z.1,.sh z.2] from rfl];simp only [e,e1]; rfl
   | false =>
     refine ⟨ys,?_,e2.cons _⟩; unfold C9; rw [show Kh (.tuple [z.1,z.2])=.ok [.sh z.1,.sh z.2] from rfl];simp only [e,e1]
theorem oQ (xs:List uV):Ez xs=(xs.mapIdx fun i d=>(wN i,d)).map fun z=>zP [z.1,z.2]:=by
 unfold Ez;apply p7;intro i;simp [Function.comp_def]
theorem kI (xs:List uV):(xs.mapIdx fun i d=>(wN i,d)).map (·.2)=xs:=by
 apply p7;intro i;simp only [wE,JS,Option.map_map];cases xs[i]? <;> rfl
theorem gC {xs:List uV} {x:uV} (h:x∈Bj xs (some (-3)) none):x∈xs:=by
 unfold Bj at h;exact JP (List.mem_of_mem_take h)
theorem pK (xs:List uV) (lo hi:Option Int):(Bj xs lo hi).length<=xs.length:=by
 unfold Bj;rw [DD,DG]; exact vX (zD _ _) (Nat.sub_le _ _)
theorem Tr {o:Out} {d:uV} (h:o=.rt d):o.fin=.ok d:=by rw [h]; rfl
theorem eH {a b:Int} (h:a < b):K0 .Lt (.int a) (.int b)=some (.bool true):=by rw [ltI,decide_eq_true h]
theorem eI {a b:Int} (h:¬ a < b):K0 .Lt (.int a) (.int b)=some (.bool false):=by rw [ltI,decide_eq_false h]
theorem Ef {f g:Dn->Res Bool} {δ:Dn} (h1:f δ=.ok true) (h2:g δ=.ok true):N6 f g δ=.ok true:=by unfold N6; rw [h1,C1,if_pos rfl,h2]
theorem Fy {f g:Dn->Res Bool} {δ:Dn} (h1:f δ=.ok false):N6 f g δ=.ok false:=by unfold N6; rw [h1,C1,if_neg (by decide)]
theorem Eg {f g:Dn->Res Bool} {δ:Dn} (h1:f δ=.ok true) (h2:g δ=.ok false):N6 f g δ=.ok false:=by unfold N6; rw [h1,C1,if_pos rfl,h2]
theorem Xr {f:Dn->Res uV} {lo hi:Dn->Res (Option Int)} {δ:Dn} {x y:uV} {l u:Option Int} (h1:f δ=.ok x) (h2:lo δ=.ok l) (h3:hi δ=.ok u) (h4:fF x l u=some y):vSl f lo hi δ=.ok y:=by unfold vSl; rw [h1,C1,h2,C1,h3,C1,h4]; rfl
theorem pA (ns:List Int) (hns:ns.length<=63) {S:IdP->uV->Prop} {U:IdP->IdP->Prop} (a:Int) (p:IdP) (ho:okI p) (kn0:List Dp) (hk:∀ e∈kn0,Wf e.2 (S e.2) (U e.2) e.1/\e.2.1 < p.1) (up:kn0.Pairwise (fun a b=>key a.2 < key b.2)) (hkl:kn0.length<=9) (x y z:Str) (hxyz:Br x/\Br y/\Br z) :
   ∃ d,M6 [scr ns,.int a,idP p,.tuple (kn0.map (·.1)),.list [.str x,.str y,.str z]]=.ok d/\Wf p (SgOf p.1 (kn0.map (·.1))) (fun q=>∃ e∈kn0,e.2=q) d:=by
 have hids:∀ d∈kn0.map (·.1),∃ q:IdP,dIx d (.int 1)=some (idP q)/\∃ e∈kn0,e.2=q:=fun d hd=>by
   obtain ⟨e,he,rfl⟩:=wF.mp hd; obtain ⟨_,hf⟩:=(hk e he).1; refine ⟨e.2,?_,e,he,rfl⟩; rcases hf with ⟨_,_,q,_⟩ | ⟨_,q,_⟩ | ⟨_,_,_,_,_,q,_⟩ | ⟨_,q,_⟩ | ⟨_,q,_⟩ <;> rw [q] <;> exact K8 (j:=1) (by simp)
 obtain ⟨sg,es,hsl,hsg,hsr⟩:=gS (T:=p.1) kn0 hk up hkl;have hkl':(kn0.map (·.1)).length<=9:=by rw [vA]; exact hkl
 generalize kn0.map (·.1)=kn at *;obtain ⟨way,ew,w0,w1⟩:=G6 ns hns a 12 (by decide);obtain ⟨r5,e5,a5,b5⟩:=G6 ns hns (a+5) 3 (by decide);obtain ⟨nm,hnm,f5⟩:=ixL (xs:=[.str x,.str y,.str z]) a5 b5;have:∃ q,nm=.str q/\Br q:=by
   simp only [vF,BA,or_false] at hnm; rcases hnm with rfl | rfl | rfl
   . exact ⟨_,rfl,hxyz.1⟩
   . exact ⟨_,rfl,hxyz.2.1⟩
   . exact ⟨_,rfl,hxyz.2.2⟩
 obtain ⟨q,rfl,hq⟩:=this;unfold M6 Bd Y9 Y8 Y7 Y6 Y5 Y4 Y3 Y2 F8;rw [Ji];simp only [K6,vK,c7,vP,xR,vW,xY,xB,i0,g9];rw [B3 (D9 (C4 (A5 rfl rfl) es)),B3 (D9 (C4 (A5 rfl (A5 rfl (A5 rfl rfl))) ew))];simp only [vZ,wA];by_cases c1:way < 2/\sg≠[]
 . have t1 : (N6 (B6 (b2 (A0 6) (vC (.int 2)) (K0 .Lt))) (B6 (b2 (A0 5) (E4 A6) dNe))) [.sh (scr ns), .sh (.int a), .sh (idP p), .sh (.tuple kn), .sh (.list [.str x, .str y, .str z]), .sh (.list sg), .sh (.int way), .un, .un, .un] = .ok true := by
     have:sg.isEmpty=false:=by cases sg with | nil=>exact absurd rfl c1.2 | cons _ _=>rfl
     exact Ef (C2 (B5 rfl rfl (eH c1.1))) (C2 (B5 rfl rfl (by rw [uH,this]; rfl)))
   have hall:∀ z∈sg.mapIdx (fun i d=>(wN i,d)),∃ b,(B6 (b2 (C0 (A1 (A0 2) (A1 (b2 (b2 (A0 3) (vC (.int 20)) C6) (A0 0) C6) (A1 (vC (.int 4)) A6))) A7) (vC (.int 0)) dEq)) ([.sh z.1,.sh z.2]++[.sh (scr ns),.sh (.int a)])=.ok b:=fun z hz=>by
     rw [List.mem_mapIdx] at hz; obtain ⟨i,hi,rfl⟩:=hz; obtain ⟨r,er,_,_⟩:=G6 ns hns (a+20+(i:Int)) 4 (by decide);refine ⟨r==0,?_⟩;simp_arith [Q8,er,pG]
   obtain ⟨ys,g1,g2'⟩:=Rk _ hall; rw [kI] at g2'; rw [<- oQ] at g1; have g2:=g2'.length_le; have hel:(Ez sg).length=sg.length:=by unfold Ez; simp
   have n1:D7 (fun δ=>((A1 (A0 5) A6) δ).bind Od) Kh [0,1] (B6 (b2 (C0 (A1 (A0 2) (A1 (b2 (b2 (A0 3) (vC (.int 20)) C6) (A0 0) C6) (A1 (vC (.int 4)) A6))) A7) (vC (.int 0)) dEq)) (A0 1) [.sh (scr ns),.sh (.int a),.sh (idP p),.sh (.tuple kn),.sh (.list [.str x,.str y,.str z]),.sh (.list sg),.sh (.int way),.un,.un,.un]=.ok ys :=
     D5 (ds:=Ez sg) (by show ((A1 (A0 5) A6) _).bind Od=_; rw [A5 (d:=.list sg) (ds:=[]) rfl rfl]; rfl) (by lia) rfl g1
   have hex:∃ ex:List uV,ex.length<=1/\((ys++ex).Sublist sg/\ys++ex≠[])/\O5 (.list (sg.take 1)) (.int (if ys.isEmpty=true then 1 else 0))=some (.list ex):=by
     have lt:(sg.take 1).length<=1:=by simp; lia
     cases ey:ys with
     | nil =>
       refine ⟨(vW 1 (sg.take 1)).flatten,by simpa using lt,⟨by simpa using FU 1 sg,fun z=>c1.2 ?_⟩,?_⟩
       . cases sg with
         | nil=>rfl
         | cons _ _=>simp at z
       . rw [if_pos (show List.isEmpty []=true from rfl)]
         exact mulL ⟨by decide,by decide,vX (show _<=1 by simpa using lt) (by decide)⟩
     | cons y0 yr =>
       refine ⟨[],by simp,⟨by rw [wQ,<- ey]; exact g2',by simp⟩,?_⟩;rw [if_neg (by simp)]; exact mulL ⟨by decide,by decide,by simp⟩
   obtain ⟨ex,exl,exs,hmul⟩:=hex; have hadd:=Ou (x:=ys) (y:=ex) (by lia);have cut1:fF (.list sg) none (some 1)=some (.list (sg.take 1)):=by
     show some (AE (Bj sg none (some 1)))=_;congr 2;cases sg with
     | nil=>rfl
     | cons s r =>
       unfold Bj HT.sIx; simp
   have hint:Rj [.bool ys.isEmpty]=some (.int (if ys.isEmpty=true then 1 else 0)):=rfl;have htup:∀ l,Bu [.list l]=some (.tuple l):=fun _=>rfl;have hnew:Ej 8 (D7 (fun δ=>((A1 (A0 5) A6) δ).bind Od) Kh [0,1] (B6 (b2 (C0 (A1 (A0 2) (A1 (b2 (b2 (A0 3) (vC (.int 20)) C6) (A0 0) C6) (A1 (vC (.int 4)) A6))) A7) (vC (.int 0)) dEq)) (A0 1)) [.sh (scr ns),.sh (.int a),.sh (idP p),.sh (.tuple kn),.sh (.list [.str x,.str y,.str z]),.sh (.list sg),.sh (.int way),.un,.un,.un]=.nx [.sh (scr ns),.sh (.int a),.sh (idP p),.sh (.tuple kn),.sh (.list [.str x,.str y,.str z]),.sh (.list sg),.sh (.int way),.un,.sh (.list ys),.un]:=by
     unfold Ej; rw [n1]; rfl
   have t2:(K1 (E5 (A1 (vC (.str "drop")) (A1 (A0 2) (A1 (vFn (A1 (b2 (A0 8) (b2 (vSl (A0 5) Bq (X5 (vC (.int 1)))) (vFn (A1 (b2 (A0 8) (E4 A6) dEq) A6) Rj) O5) C6) A6) Bu) A6))))) [.sh (scr ns),.sh (.int a),.sh (idP p),.sh (.tuple kn),.sh (.list [.str x,.str y,.str z]),.sh (.list sg),.sh (.int way),.un,.sh (.list ys),.un]=.rt (.tuple [.str "drop",idP p,.tuple (ys++ex)]):=by
     simp_arith [dEqL,hint,cut1,hmul,hadd,htup]
   rw [Lk ((Ai t1).trans ((B3 hnew).trans t2))]; refine ⟨_,rfl,ho,.inr (.inl ⟨_,rfl,fun s hs=>hsg s (exs.1.subset hs),?_,exs.2,hsr.sublist exs.1⟩)⟩;rw [wB];lia
 . have t1 : (N6 (B6 (b2 (A0 6) (vC (.int 2)) (K0 .Lt))) (B6 (b2 (A0 5) (E4 A6) dNe))) [.sh (scr ns), .sh (.int a), .sh (idP p), .sh (.tuple kn), .sh (.list [.str x, .str y, .str z]), .sh (.list sg), .sh (.int way), .un, .un, .un] = .ok false := by
     by_cases h2:way < 2
     . have:sg=[]:=p8 fun z=>c1 ⟨h2,z⟩
       subst this; exact Eg (C2 (B5 rfl rfl (eH h2))) (C2 (B5 rfl rfl (uH [])))
     . exact Fy (C2 (B5 rfl rfl (eI h2)))
   rw [O9 t1];by_cases c2:way < 5
   . obtain ⟨s1,x1,f1,g1,l1⟩:=Ru ns hns (a+1) (SgOf p.1 kn) sg hsg hsl
     obtain ⟨s2,x2,f2,g2,l2⟩:=Ru ns hns (a+3) (SgOf p.1 kn) sg hsg hsl; have hadd:=addT (x:=[.str "mark",idP p,.str q]) (y:=[.tuple [s1,.str x1],.tuple [s2,.str x2]]) (by simp);refine ⟨.tuple [.str "mark",idP p,.str q,.tuple [s1,.str x1],.tuple [s2,.str x2]],?_,ho,.inr (.inr (.inl ⟨q,s1,x1,s2,x2,rfl,g1,g2,hq,l1,l2⟩))⟩; exact Tr (Lk ((Ai (C2 (B5 rfl rfl (eH c2)))).trans ((B3 (D9 (Q1 (A5 (C4 (A5 rfl (A5 (B5 rfl rfl Q8) (A5 rfl rfl))) f1) (A5 (C4 (A5 rfl (A5 (B5 rfl rfl Q8) (A5 rfl rfl))) f2) rfl))))).trans (L0 (B5 (Q1 (A5 rfl (A5 rfl (A5 (B5 rfl (C4 (A5 rfl (A5 (B5 rfl rfl Q8) (A5 rfl rfl))) e5) f5) rfl)))) rfl hadd)))))
   . by_cases c3:way=5
     . refine ⟨.tuple [.str "unmark",idP p,.str q],?_,ho,.inr (.inr (.inr (.inl ⟨q,rfl,hq⟩)))⟩
       rw [O9 (C2 (B5 rfl rfl (eI c2)))]; exact Tr (Lk ((Ai (C2 (B5 rfl rfl (by rw [pG,c3]; rfl)))).trans (L0 (Q1 (A5 rfl (A5 rfl (A5 (B5 rfl (C4 (A5 rfl (A5 (B5 rfl rfl Q8) (A5 rfl rfl))) e5) f5) rfl)))))))
     . have c3':(way==5)=false:=by simpa using c3
       by_cases c4:way < 8/\kn≠[]
       . have hne:kn.isEmpty=false:=by cases kn with | nil=>exact absurd rfl c4.2 | cons _ _=>rfl
         have hpos:(0:Int) < kn.length:=by cases kn with | nil=>exact absurd rfl c4.2 | cons _ _=>simp
         obtain ⟨r6,e6,a6,b6⟩:=G6 ns hns (a+6) (kn.length:Int) hpos; obtain ⟨d,hd,f6⟩:=Lq (xs:=kn) a6 b6; obtain ⟨qi,f7,hu⟩:=hids d hd; have f6':dIx (.tuple kn) (.int r6)=some d:=f6; refine ⟨.tuple [.str "undo",idP p,idP qi],?_,ho,.inr (.inr (.inr (.inr ⟨_,rfl,hu⟩)))⟩; rw [O9 (C2 (B5 rfl rfl (eI c2))),O9 (C2 (B5 rfl rfl (by rw [pG,c3'])))];exact Tr (Lk ((Ai (Ef (C2 (B5 rfl rfl (eH c4.1))) (C2 (B5 rfl rfl (by rw [pF,hne]; rfl))))).trans (L0 (Q1 (A5 rfl (A5 rfl (A5 (B5 (B5 rfl (C4 (A5 rfl (A5 (B5 rfl rfl Q8) (A5 (O0 (A5 rfl rfl) (lenT _)) rfl))) e6) f6') rfl f7) rfl)))))))
       . have t4 : (N6 (B6 (b2 (A0 6) (vC (.int 8)) (K0 .Lt))) (B6 (b2 (A0 3) (E5 A6) dNe))) [.sh (scr ns), .sh (.int a), .sh (idP p), .sh (.tuple kn), .sh (.list [.str x, .str y, .str z]), .sh (.list sg), .sh (.int way), .un, .un, .un] = .ok false := by
           by_cases h2:way < 8
           . have:kn=[]:=p8 fun z=>c4 ⟨h2,z⟩
             subst this; exact Eg (C2 (B5 rfl rfl (eH h2))) (C2 (B5 rfl rfl (pF [])))
           . exact Fy (C2 (B5 rfl rfl (eI h2)))
         obtain ⟨w,ew2,wl⟩:=Uf ns hns (a+8); have g1:=Ou (x:=[.none]) (y:=sg) (by simp; lia);have hc:fF (.list sg) (some (-3)) none=some (.list (Bj sg (some (-3)) none)):=rfl; have hcl:=pK sg (some (-3)) none; have hcm:∀ s∈Bj sg (some (-3)) none,SgOf p.1 kn s:=fun s hs=>hsg s (gC hs);generalize Bj sg (some (-3)) none=ct at *;have g2:=Ou (x:=[.none]++sg) (y:=ct) (by simp; lia);obtain ⟨r7,e7,a7,b7⟩:=G6 ns hns (a+7) ((sg.length:Int)+1+(ct.length:Int)) (by lia);obtain ⟨bh,hbh,f7⟩:=ixL (xs:=[.none]++sg++ct) a7 (by simp; lia);have hneg:Pv (.int 3)=some (.int (-3)):=rfl; have hb:OrN (SgOf p.1 kn) bh:=by
           rcases vT.mp hbh with h | h
           . rcases vT.mp h with h | h
             . exact .inl (vQ.mp h)
             . exact .inr (hsg bh h)
           . exact .inr (hcm bh h)
         generalize [PyData.none]++sg=L1 at *;generalize L1++ct=L2' at *;refine ⟨.tuple [.str "add",idP p,bh,.str w],?_,ho,.inl ⟨bh,w,rfl,hb,wl⟩⟩; rw [O9 (C2 (B5 rfl rfl (eI c2))),O9 (C2 (B5 rfl rfl (by rw [pG,c3']))),O9 t4];have sl:vSl (A0 5) (X5 (b1 (vC (.int 3)) Pv)) Bq [.sh (scr ns),.sh (.int a),.sh (idP p),.sh (.tuple kn),.sh (.list [.str x,.str y,.str z]),.sh (.list sg),.sh (.int way),.un,.un,.un]=.ok (.list ct):=Xr rfl rfl rfl hc; exact Tr ((B3 (D9 (B5 (B5 (B5 rfl rfl g1) sl g2) (C4 (A5 rfl (A5 (B5 rfl rfl Q8) (A5 (B5 (B5 (O0 (A5 rfl rfl) (sY _)) rfl Q8) (O0 (A5 sl rfl) (sY _)) Q8) rfl))) e7) f7))).trans (L0 (Q1 (A5 rfl (A5 rfl (A5 rfl (A5 (C4 (A5 rfl (A5 (B5 rfl rfl Q8) rfl)) ew2) rfl)))))))
noncomputable def bU:Dn->Out:=(C3 (E7 7 (b2 (b2 (A0 5) (vC (.int 0)) dIx) (C0 (A1 (A0 0) (A1 (b2 (b2 (A0 1) (vC (.int 1)) C6) (b2 (vC (.int 60)) (A0 6) O5) C6) (A1 (vC (.int 2)) A6))) A7) C6)) (C3 (E7 8 (b2 (vC (.str "abc")) (C0 (A1 (A0 0) (A1 (b2 (b2 (A0 1) (vC (.int 2)) C6) (b2 (vC (.int 60)) (A0 6) O5) C6) (A1 (vC (.int 3)) A6))) A7) dIx)) (C3 (sIf (N6 (B6 (b2 (A0 4) (E5 A6) dNe)) (B6 (b2 (E5 (A1 (A0 7) (A1 (A0 8) A6))) (A0 5) (K0 .LtE)))) (E7 7 (b2 (b2 (A0 5) (vC (.int 0)) dIx) (vC (.int 1)) C6)) F5) (C3 (E7 5 (E5 (A1 (A0 7) (A1 (A0 8) A6)))) (C3 (E7 9 (vFn (A1 (E4 (D7 (fun δ=>((A0 4) δ).bind D2) C8 [7] (B6 (b2 (b2 (b2 (A0 0) (vC (.int 1)) dIx) (vC (.int 0)) dIx) (A0 1) (K0 .Lt))) (A0 0))) A6) Bu)) (E7 4 (b2 (A0 4) (E5 (A1 (C0 (A1 (A0 0) (A1 (b2 (b2 (A0 1) (vC (.int 3)) C6) (b2 (vC (.int 60)) (A0 6) O5) C6) (A1 (A0 5) (A1 (A0 9) (A1 (A0 3) A6))))) M6) A6)) C6)))))))
theorem leS (h h':Str) (k:okH h) (k':okH h'):(h==h')=decide (hj h=hj h')/\Yp .LtE h h'=decide (hj h<=hj h'):=by
 rcases k with rfl | rfl | rfl <;> rcases k' with rfl | rfl | rfl <;> exact ⟨by decide +kernel,by decide +kernel⟩
theorem leIdE {t t':Int} {h h':Str} (k:okH h) (k':okH h'):K0 .LtE (idD t h) (idD t' h')=some (.bool (decide (key (t,h)<=key (t',h')))):=by
 obtain ⟨e1,e2⟩:=leS h h' k k';have l1:=Wi h;have l2:=Wi h';unfold K0 key;rw [if_pos (vX (bI t h) (by decide))];show (Eo .LtE [.int t,.str h] [.int t',.str h']).map zR=_;simp only [Eo];have f1:vN (.int t) (.int t')=(t==t'):=rfl;have f2:vN (.str h) (.str h')=(h==h'):=rfl;rw [f1,f2,e1];by_cases c1:t=t'
 . subst c1
   rw [if_pos (by simp)];by_cases c2:hj h=hj h'
   . rw [if_pos (by simp [c2])]
     simp [Xn,c2]
   . rw [if_neg (by simp [c2])]
     show (some (Yp .LtE h h')).map zR=_;rw [e2]; simp only [AB];congr 3;apply propext; lia
 . rw [if_neg (by simp [c1])]
   show (some (decide (t<=t'))).map zR=_;simp only [AB];congr 3;apply propext; lia
theorem Wf.id {p:IdP} {S:uV->Prop} {U:IdP->Prop} {d:uV} (w:Wf p S U d):dIx d (.int 1)=some (idP p):=by
 obtain ⟨_,hf⟩:=w;rcases hf with ⟨_,_,q,_⟩ | ⟨_,q,_⟩ | ⟨_,_,_,_,_,q,_⟩ | ⟨_,q,_⟩ | ⟨_,q,_⟩ <;> rw [q] <;> exact K8 (j:=1) (by simp)
theorem ix0 (x:uV) (xs:List uV):dIx (.tuple (x::xs)) (.int 0)=some x:=K8 (xs:=x::xs) (j:=0) (by simp)
theorem abc {c:Nat} (h:c∈("abc" : Str).cps.toList):(⟨#[c]⟩:Str) = "a" \/ (⟨#[c]⟩:Str) = "b" \/ (⟨#[c]⟩:Str) = "c" := by
 have h':c∈[97,98,99]:=by
   have:("abc" : Str).cps.toList=[97,98,99]:=by decide
   rw [this] at h; exact h
 simp only [vF,BA,or_false] at h';rcases h' with rfl | rfl | rfl
 . exact .inl (by decide)
 . exact .inr (.inl (by decide))
 . exact .inr (.inr (by decide))
theorem bQ {δc:Dn} {tt:Dn->Res Bool} (f:Dp->Bool):∀ L:List Dp,(∀ e∈L,tt ([.sh e.1]++δc)=.ok (f e))->C9 C8 δc tt (A0 0) (L.map (·.1))=.ok ((L.filter f).map (·.1))
 | [],_=>rfl
 | e::L,h=>by
   have h1:=h e (.head _); have ih:=bQ f L fun e' he=>h e' (.tail _ he);rw [vK]; unfold C9; rw [show C8 e.1=.ok [.sh e.1] from rfl];simp only [h1,ih];cases hf:f e with
   | true=>rw [DJ hf]; rfl
   | false=>rw [IH (by rw [hf]; decide)]
def Upk (L:List Dp):Prop:=L.Pairwise fun a b=>key a.2 < key b.2
def WfIn (L:List Dp) (e:Dp):Prop:=Wf e.2 (SgOf e.2.1 (L.map (·.1))) (fun q=>(∃ e'∈L,e'.2=q)/\q.1 < e.2.1) e.1
def BkW (L:List Dp):Prop:=(∀ e∈L,WfIn L e)/\Upk L
theorem WfIn.mono {L L':List Dp} {e:Dp} (h:WfIn L e) (k:∀ x∈L,x∈L'):WfIn L' e :=
 Wf.mono h (fun x hx=>hx.mono fun d hd=>by obtain ⟨y,hy,rfl⟩:=wF.mp hd; exact xV (k y hy)) fun q ⟨⟨y,hy,e⟩,hq⟩=>⟨⟨y,k y hy,e⟩,hq⟩
theorem fJ (ns:List Int) (hns:ns.length<=63) (x y z:Str) (hxyz:Br x/\Br y/\Br z) (k:Int) (hk:0<=k) (hk2:k < 9) (j:Nat) (hj:j < 9) (L:List Dp) (hl:L.length=j) (hd:BkW L) (t:Int) (h:Str) (ht:1<=t) (ht2:t<=j+1) (hth:okH h) (s7 s8 s9:Sl) :
   ∃ (d:uV) (t':Int) (h':Str) (s7' s8' s9':Sl),WfIn L (d,(t',h'))/\1<=t'/\t'<=((j+1:Nat):Int)+1/\okH h'/\(L=[]\/key (t,h) < key (t',h'))/\bU [.sh (scr ns),.sh (.int 10),.sh (.int 9),.sh (.list [.str x,.str y,.str z]),.sh (.tuple (L.map (·.1))),.sh (idD t h),.sh (.int k),s7,s8,s9]
     = .nx [.sh (scr ns),.sh (.int 10),.sh (.int 9),.sh (.list [.str x,.str y,.str z]),.sh (.tuple (L.map (·.1)++[d])),.sh (idD t' h'),.sh (.int k),s7',s8',s9']:=by
 obtain ⟨r1,e1,a1,b1⟩:=G6 ns hns (10+1+60*k) 2 (by decide);obtain ⟨r2,e2,a2,b2'⟩:=G6 ns hns (10+2+60*k) 3 (by decide);obtain ⟨c,hc,f2⟩:=jU (x := "abc") a2 (by have:("abc" : Str).cps.toList.length=3:=(by decide); rw [this]; exact b2');have hh:=abc hc;generalize (⟨#[c]⟩:Str)=hd' at *;have eb:=leIdE (t:=t+r1) (t':=t) (show okH hd' from hh) hth;have go : ∀ tt : Int, 1 <= tt -> tt <= j + 2 -> ∃ d, WfIn L (d, (tt, hd')) /\ ∃ kn, (C3 (E7 5 (E5 (A1 (A0 7) (A1 (A0 8) A6)))) (C3 (E7 9 (vFn (A1 (E4 (D7 (fun δ => ((A0 4) δ).bind D2) C8 [7] (B6 (b2 (b2 (b2 (A0 0) (vC (.int 1)) dIx) (vC (.int 0)) dIx) (A0 1) (K0 .Lt))) (A0 0))) A6) Bu)) (E7 4 (b2 (A0 4) (E5 (A1 (C0 (A1 (A0 0) (A1 (b2 (b2 (A0 1) (vC (.int 3)) C6) (b2 (vC (.int 60)) (A0 6) O5) C6) (A1 (A0 5) (A1 (A0 9) (A1 (A0 3) A6))))) M6) A6)) C6))))
     [.sh (scr ns),.sh (.int 10),.sh (.int 9),.sh (.list [.str x,.str y,.str z]),.sh (.tuple (L.map (·.1))),.sh (idD t h),.sh (.int k),.sh (.int tt),.sh (.str hd'),s9]
     = .nx [.sh (scr ns),.sh (.int 10),.sh (.int 9),.sh (.list [.str x,.str y,.str z]),.sh (.tuple (L.map (·.1)++[d])),.sh (idD tt hd'),.sh (.int k),.sh (.int tt),.sh (.str hd'),.sh (.tuple kn)]:=fun tt h1 h2=>by
   have g1:=bQ (δc:=[.sh (.int tt)]) (tt:=B6 (b2 (b2 (b2 (A0 0) (vC (.int 1)) dIx) (vC (.int 0)) dIx) (A0 1) (K0 .Lt))) (fun e=>decide (e.2.1 < tt)) L fun e he=>by
     have:=(hd.1 e he).id;simp_arith [this,ix0,ltI]
   have fm:∀ e∈L.filter fun e=>decide (e.2.1 < tt),e∈L/\e.2.1 < tt:=fun e he=>by
     obtain ⟨m,q⟩:=wW.mp he; exact ⟨m,of_decide_eq_true q⟩
   have fl:=xC (fun e:Dp=>decide (e.2.1 < tt)) L;obtain ⟨d,ed,wd'⟩:=pA ns hns (S:=fun p=>SgOf p.1 (L.map (·.1))) (U:=fun p q=>(∃ e'∈L,e'.2=q)/\q.1 < p.1) (10+3+60*k) (tt,hd') ⟨h1,by simp only; lia,hh⟩ (L.filter fun e=>decide (e.2.1 < tt)) (fun e he=>⟨hd.1 e (fm e he).1,(fm e he).2⟩) (hd.2.filter _) (by lia) x y z hxyz;have wd:WfIn L (d,(tt,hd')):=wd'.mono (fun x hx=>hx.mono fun q hq=>by obtain ⟨e,he,rfl⟩:=wF.mp hq; exact xV (fm e he).1) fun q ⟨e,he,hq⟩=>⟨⟨e,(fm e he).1,hq⟩,hq▸(fm e he).2⟩;have ll:(L.map (·.1)).length=j:=by rw [vA]; exact hl
   generalize (L.filter fun e=>decide (e.2.1 < tt)).map (·.1)=kn at *;refine ⟨d,wd,kn,?_⟩; have hadd:=addT (x:=L.map (·.1)) (y:=[d]) (by simp; lia);have htup:Bu [.list kn]=some (.tuple kn):=rfl; rw [B3 (D9 (Q1 (A5 rfl (A5 rfl rfl))))]; simp only [vZ,wA]; rw [B3 (D9 (O0 (A5 (I8 (D5 (D6 rfl rfl) (by lia) rfl g1)) rfl) htup))]; simp only [vZ,wA];simp_arith [Q8,jK,ed,hadd]
 unfold bU;rw [B3 (D9 (d:=.int (t+r1)) (by simp_arith [ix0,Q8,jK,e1]))];simp only [vZ,wA];rw [B3 (D9 (d:=.str hd') (by simp_arith [Q8,jK,e2,f2]))];simp only [vZ,wA];have hc1:∃ b,(b=false->L=[]\/key (t,h) < key (t+r1,hd'))/\(N6 (B6 (b2 (A0 4) (E5 A6) dNe)) (B6 (b2 (E5 (A1 (A0 7) (A1 (A0 8) A6))) (A0 5) (K0 .LtE)))) [.sh (scr ns),.sh (.int 10),.sh (.int 9),.sh (.list [.str x,.str y,.str z]),.sh (.tuple (L.map (·.1))),.sh (idD t h),.sh (.int k),.sh (.int (t+r1)),.sh (.str hd'),s9]=.ok b:=by
   cases he:(L.map (·.1)).isEmpty with
   | true=>exact ⟨false,fun _=>.inl (by cases L with | nil=>rfl | cons _ _=>cases he),by simp_arith [pF,he,FH]⟩
   | false=>exact ⟨decide (key (t+r1,hd')<=key (t,h)),fun z=>.inr (by have:=of_decide_eq_false z; lia),by simp_arith [pF,he,Bool.not_false,eb]⟩
 obtain ⟨b,hbk,hb⟩:=hc1;cases b with
 | true =>
   obtain ⟨d,wd,kn,ek⟩:=go (t+1) (by lia) (by lia);refine ⟨d,t+1,hd',.sh (.int (t+1)),.sh (.str hd'),.sh (.tuple kn),wd,by lia,by lia,hh,.inr (by have:=Wi h; unfold key; simp only; lia),?_⟩;rw [B3 ((Ai hb).trans (D9 (d:=.int (t+1)) (by simp_arith [ix0,Q8])))];simp only [vZ,wA]; exact ek
 | false =>
   obtain ⟨d,wd,kn,ek⟩:=go (t+r1) (by lia) (by lia);refine ⟨d,t+r1,hd',.sh (.int (t+r1)),.sh (.str hd'),.sh (.tuple kn),wd,by lia,by lia,hh,hbk rfl,?_⟩;rw [O9 hb]; exact ek
theorem BkW.snoc {L:List Dp} {d:uV} {p q:IdP} (h:BkW L) (w:WfIn L (d,q)) (hk:∀ e∈L,key e.2<=key p) (hq:L=[]\/key p < key q):BkW (L++[(d,q)])/\∀ e∈L++[(d,q)],key e.2<=key q:=by
 have lt:∀ e∈L,key e.2 < key q:=fun e he=>by
   rcases hq with z | z
   . rw [z] at he; exact nomatch he
   . have:=hk e he; lia
 have up:∀ x∈L,x∈L++[(d,q)]:=fun x hx=>EQ _ hx;refine ⟨⟨fun e he=>?_,?_⟩,fun e he=>?_⟩
 . rcases vT.mp he with z | z
   . exact (h.1 e z).mono up
   . rw [vQ.mp z]; exact w.mono up
 . exact zW.mpr ⟨h.2,j8 _ _,fun a ha b hb=>by rw [vQ.mp hb]; exact lt a ha⟩
 . rcases vT.mp he with z | z
   . exact Int.le_of_lt (lt e z)
   . rw [vQ.mp z]; exact Int.le_refl _
theorem Rn (ns:List Int) (hns:ns.length<=63) (x y z:Str) (hxyz:Br x/\Br y/\Br z):∀ (l:List uV),(∀ d∈l,∃ k:Int,d=.int k/\0<=k/\k < 9)->∀ (j:Nat) (L:List Dp) (t:Int) (h:Str) (s6 s7 s8 s9:Sl),j+l.length<=9->L.length=j->BkW L->(∀ e∈L,key e.2<=key (t,h))->1<=t->t<=j+1->okH h ->
   ∃ L' s5 s6' s7' s8' s9',BkW L'/\L'.length<=9/\E3 (st1 6) bU l [.sh (scr ns),.sh (.int 10),.sh (.int 9),.sh (.list [.str x,.str y,.str z]),.sh (.tuple (L.map (·.1))),.sh (idD t h),s6,s7,s8,s9]=.nx [.sh (scr ns),.sh (.int 10),.sh (.int 9),.sh (.list [.str x,.str y,.str z]),.sh (.tuple (L'.map (·.1))),s5,s6',s7',s8',s9']
 | [],_,j,L,t,h,s6,s7,s8,s9,hj,hl,hd,_,_,_,_=>⟨L,_,_,_,_,_,hd,by simp at hj; lia,rfl⟩
 | d0::l,hk,j,L,t,h,s6,s7,s8,s9,hj,hl,hd,hb,h1,h2,h3=>by
   obtain ⟨k,rfl,k0,k1⟩:=hk d0 (.head _); simp only [vP] at hj; obtain ⟨d,t',h',s7',s8',s9',wd,t1,t2,t3,kk,e⟩:=fJ ns hns x y z hxyz k k0 k1 j (by lia) L hl hd t h h1 h2 h3 s7 s8 s9;obtain ⟨hB,hB2⟩:=hd.snoc wd hb kk; obtain ⟨L',s5,s6',s7'',s8'',s9'',w',l',e'⟩:=Rn ns hns x y z hxyz l (fun d hd=>hk d (.tail _ hd)) (j+1) (L++[(d,(t',h'))]) t' h' (.sh (.int k)) s7' s8' s9' (by lia) (by simp [hl]) hB hB2 t1 t2 t3;refine ⟨L',s5,s6',s7'',s8'',s9'',w',l',?_⟩; unfold E3; simp only [st1,vZ,wA]; rw [e]; rw [wI] at e'; exact e'
theorem pT (ns:List Int) (hns:ns.length<=63) (x y z:Str) (hxyz:Br x/\Br y/\Br z):∃ L,W1 [scr ns,.int 10,.int 9,.list [.str x,.str y,.str z]]=.ok (.tuple (L.map (·.1)))/\L.length<=9/\BkW L:=by
 obtain ⟨r,e,a,b⟩:=G6 ns hns 10 (9+1) (by decide);have hmem:∀ d∈P0 0 r,∃ k:Int,d=.int k/\0<=k/\k < 9:=fun d hd=>by
   unfold P0 at hd; obtain ⟨i,hi,rfl⟩:=wF.mp hd; have:=yQ.mp hi; exact ⟨_,rfl,by lia,by lia⟩
 have hlen:(P0 0 r).length<=9:=by unfold P0; simp; lia
 obtain ⟨L,s5,s6,s7,s8,s9,w,l,e'⟩:=Rn ns hns x y z hxyz (P0 0 r) hmem 0 [] 1 "a" .un .un .un .un (by lia) rfl ⟨(fun _ h=>nomatch h),.nil⟩ (fun _ h=>nomatch h) (by decide) (by decide) (.inl rfl);refine ⟨L,P9 ?_,l,w⟩;unfold Bf Z8 Z5 Z4 Z0 M7;simp only [K6,vK,c7,vP,xR,vW,xY,xB,i0,g9];rw [B3 (D9 (d:=.tuple []) rfl),B3 (D9 (d:=idD 1 "a") rfl)];simp only [vZ,wA];have hfor:N3 (fun δ=>((A1 (C0 (A1 (A0 0) (A1 (A0 1) (A1 (b2 (A0 2) (vC (.int 1)) C6) A6))) A7) A6) δ).bind Bg) (st1 6) bU [.sh (scr ns),.sh (.int 10),.sh (.int 9),.sh (.list [.str x,.str y,.str z]),.sh (.tuple []),.sh (idD 1 "a"),.un,.un,.un,.un]=.nx [.sh (scr ns),.sh (.int 10),.sh (.int 9),.sh (.list [.str x,.str y,.str z]),.sh (.tuple (L.map (·.1))),s5,s6,s7,s8,s9]:=by
   unfold N3; have:=Eb (fs:=A1 (C0 (A1 (A0 0) (A1 (A0 1) (A1 (b2 (A0 2) (vC (.int 1)) C6) A6))) A7) A6) (δ:=[.sh (scr ns),.sh (.int 10),.sh (.int 9),.sh (.list [.str x,.str y,.str z]),.sh (.tuple []),.sh (idD 1 "a"),.un,.un,.un,.un]) (n:=r) (by simp_arith [Q8,e]) a (by lia);rw [this,D1]; exact e'
 exact (B3 hfor).trans (L0 rfl)
structure Ad where
 p:IdP
 b:Option (IdP×Nat)
 w:Str
abbrev As:=Ad×Nat
abbrev sgn (u:As):IdP×Nat:=(u.1.p,u.2)
noncomputable def blk (e:Ad):List As:=(wS e.w.length).map fun k=>(e,k)
noncomputable def Kw (s:IdP×Nat) (l:List As):List As->List As
 | []=>[]
 | u::r=>if sgn u=s then u::(l++r) else u::Kw s l r
noncomputable def eS (x:Option (IdP×Nat)) (l L:List As):List As:=match x with
 | none=>l++L
 | some s=>Kw s l L
noncomputable def ord (B:List Ad):List As:=B.foldl (fun L a=>eS a.b (blk a) L) []
theorem Dk (B:List Ad) (e:Ad):ord (B++[e])=eS e.b (blk e) (ord B):=by unfold ord; rw [FX]; rfl
inductive Bk:List Ad->Prop where
 | nil:Bk []
 | snoc {B:List Ad} {e:Ad}:Bk B->0 < e.w.length->(∀ a∈B,key a.p < key e.p)->(e.b=none\/∃ a∈B,∃ n,n < a.w.length/\e.b=some (a.p,n))->Bk (B++[e])
theorem aZ {e:Ad} {u:As}:u∈blk e↔u.1=e/\u.2 < e.w.length:=by
 unfold blk;rw [wF];constructor
 . rintro ⟨k,hk,rfl⟩; exact ⟨rfl,yQ.mp hk⟩
 . rintro ⟨h1,h2⟩; exact ⟨u.2,yQ.mpr h2,by rw [<- h1]⟩
theorem Wh {s:IdP×Nat} {l:List As} {v:As}:∀ {L:List As},(∃ u∈L,sgn u=s)->(v∈Kw s l L↔v∈l\/v∈L)
 | [],h=>by obtain ⟨u,hu,_⟩:=h; cases hu
 | u::r,h=>by
   unfold Kw;split
   . rw [vF,vT,vF]
     constructor
     . rintro (h | h | h)
       . exact .inr (.inl h)
       . exact .inl h
       . exact .inr (.inr h)
     . rintro (h | h | h)
       . exact .inr (.inl h)
       . exact .inl h
       . exact .inr (.inr h)
   . rename_i hn
     have h':∃ u∈r,sgn u=s:=by
       obtain ⟨x,hx,e⟩:=h; rcases vF.mp hx with rfl | hx
       . exact absurd e hn
       . exact ⟨x,hx,e⟩
     rw [vF,Wh h',vF];constructor
     . rintro (h | h | h)
       . exact .inr (.inl h)
       . exact .inl h
       . exact .inr (.inr h)
     . rintro (h | h | h)
       . exact .inr (.inl h)
       . exact .inl h
       . exact .inr (.inr h)
theorem Bk.pos {B:List Ad} (h:Bk B):∀ a∈B,0 < a.w.length:=by
 induction h with
 | nil=>intro a h; cases h
 | snoc _ h0 _ _ ih =>
   intro a ha; rcases vT.mp ha with ha | ha
   . exact ih a ha
   . rw [vQ.mp ha]; exact h0
theorem Bk.refs {B:List Ad} (h:Bk B):∀ c∈B,∀ q n,c.b=some (q,n)->∃ a∈B,a.p=q/\n < a.w.length:=by
 induction h with
 | nil=>intro a h; cases h
 | @snoc B e _ h0 _ hb ih =>
   intro c hc q n e1; rcases vT.mp hc with hc | hc
   . obtain ⟨a,ha,r⟩:=ih c hc q n e1; exact ⟨a,vT.mpr (.inl ha),r⟩
   . rw [vQ.mp hc] at e1
     rcases hb with hb | ⟨a,ha,n',hn,hb⟩
     . rw [hb] at e1; cases e1
     . rw [hb] at e1; cases e1; exact ⟨a,vT.mpr (.inl ha),rfl,hn⟩
theorem Bk.nokid {B:List Ad} {e:Ad} (h:Bk B) (hk:∀ a∈B,key a.p < key e.p) (hb:e.b=none\/∃ a∈B,∃ n,n < a.w.length/\e.b=some (a.p,n)):∀ c∈B++[e],∀ n,c.b≠some (e.p,n):=by
 intro c hc n z;have:∃ a∈B,a.p=e.p:=by
   rcases vT.mp hc with hc | hc
   . obtain ⟨a,ha,r,_⟩:=h.refs c hc _ _ z; exact ⟨a,ha,r⟩
   . rw [vQ.mp hc] at z
     rcases hb with hb | ⟨a,ha,n',hn,hb⟩
     . rw [hb] at z; cases z
     . rw [hb] at z; exact ⟨a,ha,congrArg Prod.fst (xH z)⟩
 obtain ⟨a,ha,r⟩:=this;have:=hk a ha;rw [r] at this;lia
theorem V3 {B:List Ad} (h:Bk B):∀ u,u∈ord B↔u.1∈B/\u.2 < u.1.w.length:=by
 induction h with
 | nil=>intro u; constructor <;> intro h <;> simp [ord] at h
 | @snoc B e hB h0 hk hb ih =>
   intro u; have key:u∈eS e.b (blk e) (ord B)↔u∈blk e\/u∈ord B:=by
     rcases hb with hb | ⟨a,ha,n,hn,hb⟩
     . rw [hb]; exact vT
     . rw [hb]; exact Wh ⟨(a,n),(ih (a,n)).mpr ⟨ha,hn⟩,rfl⟩
   rw [Dk,key,aZ,ih,vT,vQ];constructor
   . rintro (⟨h1,h2⟩ | ⟨h1,h2⟩)
     . exact ⟨.inr h1,by rw [h1]; exact h2⟩
     . exact ⟨.inl h1,h2⟩
   . rintro ⟨h1 | h1,h2⟩
     . exact .inr ⟨h1,h2⟩
     . exact .inl ⟨h1,by rw [<- h1]; exact h2⟩
theorem Qz {s:IdP×Nat} {l:List As}:∀ {L:List As},(∃ u∈L,sgn u=s)->(Kw s l L).Perm (l++L)
 | [],h=>by obtain ⟨u,hu,_⟩:=h; cases hu
 | u::r,h=>by
   unfold Kw;split
   . exact (List.perm_middle (l₁:=l) (a:=u) (l₂:=r)).symm
   . rename_i hn
     have h':∃ u∈r,sgn u=s:=by
       obtain ⟨x,hx,e⟩:=h; rcases vF.mp hx with rfl | hx
       . exact absurd e hn
       . exact ⟨x,hx,e⟩
     exact ((Qz h').cons u).trans (List.perm_middle (l₁:=l) (a:=u) (l₂:=r)).symm
theorem Ra {B:List Ad} {e:Ad} (hB:Bk B) (hb:e.b=none\/∃ a∈B,∃ n,n < a.w.length/\e.b=some (a.p,n)):(eS e.b (blk e) (ord B)).Perm (blk e++ord B):=by
 rcases hb with hb | ⟨a,ha,n,hn,hb⟩
 . rw [hb]; exact yM _
 . rw [hb]; exact Qz ⟨(a,n),(V3 hB (a,n)).mpr ⟨ha,hn⟩,rfl⟩
noncomputable def sgs (B:List Ad):List As:=B.flatMap blk
theorem Vp {B:List Ad} (h:Bk B):(ord B).Perm (sgs B):=by
 induction h with
 | nil=>exact yM _
 | @snoc B e hB h0 hk hb ih =>
   rw [Dk]; unfold sgs; rw [List.flatMap_append]; refine (Ra hB hb).trans ?_; refine List.perm_append_comm.trans ?_; rw [List.flatMap_cons,List.flatMap_nil,wQ]; exact List.Perm.append_right _ ih
theorem fL (e:Ad):((blk e).map sgn).Nodup:=by
 unfold blk;rw [zS,HL,FV];refine List.Pairwise.imp ?_ (HL.mp List.nodup_range);intro a b h z;exact h (congrArg Prod.snd z)
theorem dU {B:List Ad} (h:Bk B):((ord B).map sgn).Nodup:=by
 induction h with
 | nil=>exact .nil
 | @snoc B e hB h0 hk hb ih =>
   rw [Dk]; refine ((Ra hB hb).map sgn).nodup_iff.mpr ?_; rw [wI,AR]; refine ⟨fL e,ih,fun x hx y hy z=>?_⟩;obtain ⟨u,hu,rfl⟩:=wF.mp hx; obtain ⟨v,hv,rfl⟩:=wF.mp hy; have h1:=(aZ.mp hu).1; have h2:=((V3 hB v).mp hv).1; have h3:=hk v.1 h2; have h4:u.1.p=v.1.p:=congrArg Prod.fst z; rw [h1] at h4; rw [<- h4] at h3;lia
noncomputable def Fp (B:List Ad) (u:As):List As:=(B.filter fun c=>c.b=some (sgn u)).map fun c=>(c,0)
noncomputable def Kb (B:List Ad):List As:=(B.filter fun c=>c.b=none).map fun c=>(c,0)
noncomputable def nxt (u:As):List As:=if u.2+1 < u.1.w.length then [(u.1,u.2+1)] else []
inductive Run (B:List Ad):List As->List As->Prop where
 | nil:Run B [] []
 | step {u:As} {st out:List As}:Run B ((Fp B u).reverse++(nxt u++st)) out->Run B (u::st) (u::out)
theorem Run.blk {B:List Ad} {e:Ad} (hn:∀ c∈B,∀ n,c.b≠some (e.p,n)) {st out:List As} (h:Run B st out):∀ (j k:Nat),k+j+1=e.w.length->Run B ((e,k)::st) (((wS e.w.length).drop k).map (fun i=>(e,i))++out):=by
 have nk:∀ k,Fp B (e,k)=[]:=fun k=>by
   unfold Fp; rw [AT.mpr (fun c hc=>by simpa using hn c hc k),c7]
 intro j;induction j with
 | zero =>
   intro k hk; have hd:(wS e.w.length).drop k=[k]:=by
     rw [zO (by simp; lia),List.getElem_range,AU (by simp; lia)]
   rw [hd]; refine .step ?_; rw [nk,List.reverse_nil,xB]; unfold nxt; rw [if_neg (by show ¬ (k+1 < e.w.length); lia),xB];exact h
 | succ j ih =>
   intro k hk; have hd:(wS e.w.length).drop k=k::(wS e.w.length).drop (k+1):=by
     rw [zO (by simp; lia),List.getElem_range]
   rw [hd]; refine .step ?_; rw [nk,List.reverse_nil,xB]; unfold nxt; rw [if_pos (by show k+1 < e.w.length; lia)];exact ih (k+1) (by lia)
theorem Run.new {B:List Ad} {e:Ad} (hp:0 < e.w.length) (hn:∀ c∈B,∀ n,c.b≠some (e.p,n)) {st out:List As} (h:Run B st out):Run B ((e,0)::st) (Sm.blk e++out):=by
 have:=h.blk hn (e.w.length - 1) 0 (by lia);rw [CD] at this;exact this
theorem Jg (B:List Ad) (e:Ad) (u:As):Fp (B++[e]) u=Fp B u++if e.b=some (sgn u) then [(e,0)] else []:=by
 unfold Fp;rw [FK,wI];congr 1;by_cases c:e.b=some (sgn u)
 . rw [if_pos c,zC,if_pos (by simpa using c)]; rfl
 . rw [if_neg c,zC,if_neg (by simpa using c)]; rfl
theorem Run.old {B:List Ad} {e:Ad} {st out:List As} (h:Run B st out) (hn:∀ u∈out,e.b≠some (sgn u)):Run (B++[e]) st out:=by
 induction h with
 | nil=>exact .nil
 | @step u st out h ih =>
   refine .step ?_; rw [Jg,if_neg (hn u (.head _)),wQ]; exact ih fun v hv=>hn v (.tail _ hv)
theorem Run.ins {B:List Ad} {e:Ad} {s:IdP×Nat} (he:e.b=some s) (hp:0 < e.w.length) (hk:∀ c∈B++[e],∀ n,c.b≠some (e.p,n)) {st out:List As} (h:Run B st out) (hs:∃ u∈out,sgn u=s) (nd:(out.map sgn).Nodup):Run (B++[e]) st (Kw s (Sm.blk e) out):=by
 induction h with
 | nil=>obtain ⟨u,hu,_⟩:=hs; cases hu
 | @step u st out h ih =>
   rw [vK,zI] at nd; unfold Kw;split
   . rename_i c
     refine .step ?_; rw [Jg,if_pos (by rw [he,c]),BV,wR];refine Run.new hp hk (h.old fun v hv z=>nd.1 ?_);rw [he] at z; cases z; rw [c]; exact xV hv
   . rename_i c
     refine .step ?_; rw [Jg,if_neg (by rw [he]; intro z; cases z; exact c rfl),wQ];refine ih ?_ nd.2; obtain ⟨x,hx,e1⟩:=hs; rcases vF.mp hx with rfl | hx
     . exact absurd e1 c
     . exact ⟨x,hx,e1⟩
theorem aL {B:List Ad} (h:Bk B):Run B (Kb B).reverse (ord B):=by
 induction h with
 | nil=>exact .nil
 | @snoc B e hB h0 hk hb ih =>
   have nk:=hB.nokid hk hb; rw [Dk]; unfold Kb at ih ⊢;rw [FK,wI,BV]; rcases hb with hb | ⟨a,ha,n,hn,hb⟩
   . rw [hb,zC,if_pos (by simpa using hb)]
     exact Run.new h0 nk (ih.old fun u _ z=>by rw [hb] at z; cases z)
   . rw [hb,zC,if_neg (by rw [hb]; simp)]
     exact ih.ins hb h0 nk ⟨(a,n),(V3 hB (a,n)).mpr ⟨ha,hn⟩,rfl⟩ (dU hB)
noncomputable def anD (x:Option (IdP×Nat)):uV:=match x with
 | none=>.none
 | some s=>sgD s.1 s.2
noncomputable def Ad.d (a:Ad):uV:=.tuple [.str "add",idP a.p,anD a.b,.str a.w]
inductive Adds:List Dp->List Ad->Prop where
 | nil:Adds [] []
 | add {L:List Dp} {B:List Ad} (a:Ad):Adds L B->Adds ((a.d,a.p)::L) (a::B)
 | oth {L:List Dp} {B:List Ad} {e:Dp} (k:Str) (x:uV) (xs:List uV):e.1=.tuple (.str k::idP e.2::x::xs)->k ≠ "add" -> Adds L B->Adds (e::L) B
theorem Adds.snoc {L:List Dp} {B:List Ad} (h:Adds L B) (a:Ad):Adds (L++[(a.d,a.p)]) (B++[a]):=by
 induction h with
 | nil=>exact .add a .nil
 | add c _ ih=>exact .add c ih
 | oth k x xs e n _ ih=>exact .oth k x xs e n ih
theorem Adds.snocO {L:List Dp} {B:List Ad} {e:Dp} (h:Adds L B) (k:Str) (x:uV) (xs:List uV) (h1:e.1=.tuple (.str k::idP e.2::x::xs)) (h2:k ≠ "add"):Adds (L++[e]) B:=by
 induction h with
 | nil=>exact .oth k x xs h1 h2 .nil
 | add c _ ih=>exact .add c ih
 | oth k' x' xs' e' n _ ih=>exact .oth k' x' xs' e' n ih
theorem Tm {p q:IdP} (h:idP p=idP q):p=q:=by
 simp only [idP,idD,HK,w8,PyData.int.injEq,PyData.str.injEq,and_true] at h;exact Prod.ext h.1 h.2
theorem Adds.of {L:List Dp} {B:List Ad} (h:Adds L B) {p:IdP} {b:uV} {w:Str} (m:zP [.str "add",idP p,b,.str w]∈L.map (·.1)):∃ a∈B,a.p=p/\a.w=w:=by
 induction h with
 | nil=>cases m
 | add c _ ih =>
   rcases vF.mp m with e | m
   . have e':zP [.str "add",idP p,b,.str w]=.tuple [.str "add",idP c.p,anD c.b,.str c.w]:=e
     injection e' with e'
     injection e' with _ e'
     injection e' with e1 e'
     injection e' with _ e'
     injection e' with e2 _
     injection e2 with e2
     exact ⟨c,.head _,(Tm e1).symm,e2.symm⟩
   . obtain ⟨a,ha,r⟩:=ih m; exact ⟨a,.tail _ ha,r⟩
 | oth k x xs e n _ ih =>
   rcases vF.mp m with e1 | m
   . replace e1:=e1.trans e
     injection e1 with e1
     injection e1 with e1 _
     injection e1 with e1
     exact absurd e1.symm n
   . exact ih m
theorem Wf.shape {p:IdP} {S:uV->Prop} {U:IdP->Prop} {d:uV} (w:Wf p S U d):(∃ b w,d=.tuple [.str "add",idP p,b,.str w]/\OrN S b/\Ox w)\/∃ k x xs,d=.tuple (.str k::idP p::x::xs)/\k ≠ "add" := by
 obtain ⟨o,r⟩:=w;rcases r with h | ⟨sg,rfl,_⟩ | ⟨n,s1,x1,s2,x2,rfl,_⟩ | ⟨n,rfl,_⟩ | ⟨i,rfl,_⟩
 . exact .inl h
 . exact .inr ⟨"drop",_,_,rfl,by decide⟩
 . exact .inr ⟨"mark",_,_,rfl,by decide⟩
 . exact .inr ⟨"unmark",_,_,rfl,by decide⟩
 . exact .inr ⟨"undo",_,_,rfl,by decide⟩
theorem Wc {p q:IdP} (h:key p < key q):p.1<=q.1:=by
 have h1:=Wi p.2;have h2:=Wi q.2;unfold key at h;lia
theorem BkW.init {L:List Dp} {e:Dp} (h:BkW (L++[e])):BkW L:=by
 obtain ⟨hw,hu⟩:=h;have hu':=zW.mp hu;refine ⟨fun x hx=>?_,hu'.1⟩;have hxe:key x.2 < key e.2:=hu'.2.2 x hx e (vQ.mpr rfl);have ht:=Wc hxe;refine Wf.mono (hw x (vT.mpr (.inl hx))) (fun y hy=>?_) fun q hq=>?_
 . obtain ⟨p,b,w,n,hm,e1,hn,hp,ho⟩:=hy
   refine ⟨p,b,w,n,?_,e1,hn,hp,ho⟩; rw [wI] at hm; rcases vT.mp hm with hm | hm
   . exact hm
   . exfalso
     have he:zP [.str "add",idP p,b,.str w]=e.1:=by simpa using hm
     have hid:p=e.2:=by
       have w1:=(hw e (vT.mpr (.inr (.head _)))).id; rw [<- he] at w1; have w2:dIx (zP [.str "add",idP p,b,.str w]) (.int 1)=some (idP p):=K8 (xs:=[.str "add",idP p,b,.str w]) (j:=1) (by simp);rw [w2] at w1; exact Tm (xH w1)
     rw [hid] at hp;lia
 . obtain ⟨⟨e',he',rfl⟩,hq⟩:=hq
   refine ⟨?_,hq⟩; rcases vT.mp he' with he' | he'
   . exact ⟨e',he',rfl⟩
   . rw [vQ.mp he'] at hq
     lia
structure BkA (L:List Dp) (B:List Ad):Prop where
 ad:Adds L B
 bk:Bk B
 wd:∀ a∈B,Ox a.w
 id:∀ a∈B,okI a.p
 inL:∀ a∈B,(a.d,a.p)∈L
 len:B.length<=L.length
theorem bka:∀ (n:Nat) (L:List Dp),L.length=n->BkW L->∃ B,BkA L B
 | 0,L,hn,_=>by
   rw [xN.mp hn]; exact ⟨[],.nil,.nil,(fun _ h=>nomatch h),(fun _ h=>nomatch h),(fun _ h=>nomatch h),vL _⟩
 | n+1,L,hn,h=>by
   have hne:L≠[]:=fun z=>by rw [z] at hn; cases hn
   obtain ⟨L',e,rfl⟩:∃ L' e,L=L'++[e]:=⟨L.dropLast,L.getLast hne,(BQ hne).symm⟩; have h':=h.init; obtain ⟨B,A⟩:=bka n L' (by simpa using hn) h';have hu':=zW.mp h.2; have we:=h.1 e (vT.mpr (.inr (.head _))); rcases we.shape with ⟨b,w,e1,hb,hw⟩ | ⟨k,x,xs,e1,hk⟩
   . have hx : ∃ x : Option (IdP × Nat), b = anD x /\ (x = none \/ ∃ a ∈ B, ∃ n, n < a.w.length /\ x = some (a.p, n)) := by
       rcases hb with rfl | ⟨p,b',w',n',hm,rfl,hn',hp,ho⟩
       . exact ⟨none,rfl,.inl rfl⟩
       . rw [wI] at hm
         rcases vT.mp hm with hm | hm
         . obtain ⟨a,ha,rfl,rfl⟩:=A.ad.of hm
           exact ⟨some (a.p,n'),rfl,.inr ⟨a,ha,n',hn',rfl⟩⟩
         . exfalso
           have he:zP [.str "add",idP p,b',.str w']=e.1:=by simpa using hm
           rw [e1] at he;injection he with he
           injection he with _ he
           injection he with he _
           rw [Tm he] at hp;lia
     obtain ⟨x,rfl,hx⟩:=hx; have ee:e=((⟨e.2,x,w⟩:Ad).d,(⟨e.2,x,w⟩:Ad).p):=Prod.ext e1 rfl; refine ⟨B++[⟨e.2,x,w⟩],?_,.snoc A.bk (by have:=hw.1; show 0 < w.length; lia) (fun a ha=>hu'.2.2 _ (A.inL a ha) e (vQ.mpr rfl)) hx,fun a ha=>?_,fun a ha=>?_,fun a ha=>?_,by simp; exact A.len⟩
     . rw [ee]; exact A.ad.snoc _
     . rcases vT.mp ha with ha | ha
       . exact A.wd a ha
       . rw [vQ.mp ha]; exact hw
     . rcases vT.mp ha with ha | ha
       . exact A.id a ha
       . rw [vQ.mp ha]; exact we.1
     . rcases vT.mp ha with ha | ha
       . exact vT.mpr (.inl (A.inL a ha))
       . rw [vQ.mp ha,<- ee]; exact vT.mpr (.inr (.head _))
   . refine ⟨B,A.ad.snocO k x xs e1 hk,A.bk,A.wd,A.id,fun a ha=>vT.mpr (.inl (A.inL a ha)),by simp; have:=A.len; lia⟩
theorem bka' {L:List Dp} (h:BkW L):∃ B,BkA L B:=bka _ L rfl h
theorem T8 (x:uV) (xs:List uV):dIx (.tuple (x::xs)) (.int 0)=some x:=K8 (xs:=x::xs) (j:=0) (by simp)
theorem Gk (x y:uV) (xs:List uV):dIx (.tuple (x::y::xs)) (.int 1)=some y:=K8 (xs:=x::y::xs) (j:=1) (by simp)
theorem cJ (x y z:uV) (xs:List uV):dIx (.tuple (x::y::z::xs)) (.int 2)=some z:=K8 (xs:=x::y::z::xs) (j:=2) (by simp)
theorem Xy (x y z u:uV) (xs:List uV):dIx (.tuple (x::y::z::u::xs)) (.int 3)=some u:=K8 (xs:=x::y::z::u::xs) (j:=3) (by simp)
theorem nZ (w:Str):M4 [.str w]=some (.int (w.length:Int)):=rfl
theorem gZ (a:Ad):F1 [a.d]=.ok (.int (a.w.length:Int)):=by
 unfold F1 Q3 Q0 Ad.d;simp_arith [vIf,T8,Xy,Al,bY,nZ]
theorem gY {k:Str} {i:uV} {xs:List uV} (h:k ≠ "add"):F1 [.tuple (.str k::i::xs)]=.ok (.int 0):=by
 unfold F1 Q3 Q0;have:(k==("add" : Str))=false:=beq_eq_false_iff_ne.mpr h;simp_arith [vIf,T8,Al,this]
noncomputable def Ti (kvs:Kvs) (x:uV):uV:=(N9 kvs x).getD (.list [])
theorem P5 (x y:Option (IdP×Nat)):vN (anD x) (anD y)=decide (x=y):=by
 cases x with
 | none=>cases y with
   | none=>rfl
   | some s=>rfl
 | some s=>cases y with
   | none=>rfl
   | some t =>
     show ((vN (idP s.1) (idP t.1))&&((vN (.int s.2) (.int t.2))&&true))=_;show (((s.1.1==t.1.1)&&((s.1.2==t.1.2)&&true))&&(((s.2:Int)==(t.2:Int))&&true))=_;rw [zJ]; obtain ⟨⟨a,b⟩,c⟩:=s; obtain ⟨⟨a',b'⟩,c'⟩:=t; simp;intro _ _;lia
def lK (kvs:Kvs):Prop:=∀ p∈kvs,(∃ x,p.1=anD x)/\∃ ds,p.2=.list ds
theorem bX {kvs:Kvs} (h:lK kvs) (x:Option (IdP×Nat)) (v:uV):lK (Ep kvs (anD x) v)/\∀ y,∃ ds,Ti kvs (anD y)=.list ds/\Ti (Ep kvs (anD x) v) (anD y)=.list (if x=y then ds++[v] else ds):=by
 induction kvs with
 | nil =>
   refine ⟨fun p hp=>?_,fun y=>⟨[],rfl,?_⟩⟩
   . rw [vQ.mp hp]; exact ⟨⟨x,rfl⟩,_,rfl⟩
   . show ((List.find? (fun p=>vN p.1 (anD y)) [(anD x,AE [v])]).map (·.2)).getD (.list [])=_
     rw [wO,P5];by_cases c:x=y
     . rw [decide_eq_true c,if_pos c]; rfl
     . rw [decide_eq_false c,if_neg c]; rfl
 | cons p r ih =>
   obtain ⟨⟨z,hz⟩,ds0,hd⟩:=h p (.head _); obtain ⟨i1,i2⟩:=ih fun q hq=>h q (.tail _ hq);unfold Ep; rw [hz,P5];by_cases c:z=x
   . rw [if_pos (decide_eq_true c),hd]
     refine ⟨fun q hq=>?_,fun y=>?_⟩
     . rcases vF.mp hq with rfl | hq
       . exact ⟨⟨z,rfl⟩,_,rfl⟩
       . exact h q (.tail _ hq)
     . unfold Ti N9
       rw [wO,wO,hz,P5];by_cases c2:z=y
       . rw [decide_eq_true c2]
         exact ⟨ds0,by rw [show (some p:Option (uV×uV)).map (·.2)=some p.2 from rfl,hd]; rfl,by rw [if_pos (c.symm.trans c2)]; rfl⟩
       . rw [decide_eq_false c2]
         obtain ⟨ds,e1,_⟩:=i2 y; exact ⟨ds,e1,by rw [if_neg (fun w=>c2 (c.trans w))]; exact e1⟩
   . rw [if_neg (by rw [decide_eq_false c]; decide)]
     refine ⟨fun q hq=>?_,fun y=>?_⟩
     . rcases vF.mp hq with rfl | hq
       . exact ⟨⟨z,hz⟩,_,hd⟩
       . exact i1 q hq
     . unfold Ti N9
       rw [wO,wO,hz,P5];by_cases c2:z=y
       . rw [decide_eq_true c2]
         exact ⟨ds0,by rw [show (some p:Option (uV×uV)).map (·.2)=some p.2 from rfl,hd]; rfl,by rw [if_neg (fun w=>c (c2.trans w.symm)),show (some p:Option (uV×uV)).map (·.2)=some p.2 from rfl,hd]; rfl⟩
       . rw [decide_eq_false c2]
         exact i2 y
theorem Ud (x:Option (IdP×Nat)):nkD (anD x)=true:=by
 cases x with
 | none=>rfl
 | some s=>simp [anD,nkD,El,isK,yF,xJ]
theorem tV {L:List Dp} {B:List Ad} (h:Adds L B) (hp:∀ a∈B,0 < a.w.length) (bk:uV):∀ (kvs:Kvs),lK kvs->∃ out,Hn [.sh bk,.un,.un] 2 (B6 (b2 (C0 (A1 (A0 2) A6) F1) (vC (.int 0)) (Fa .Gt))) (b2 (A0 2) (vC (.int 2)) dIx) (A0 2) (L.map (·.1)) kvs=.ok out /\
   ∀ y,∃ ds,Ti kvs (anD y)=.list ds/\Ti out (anD y)=.list (ds++(B.filter fun a=>a.b=y).map Ad.d):=by
 induction h with
 | nil =>
   intro kvs g; refine ⟨kvs,rfl,fun y=>?_⟩;obtain ⟨ds,e,_⟩:=(bX g none .none).2 y; exact ⟨ds,e,by simpa using e⟩
 | @add L B a _ ih =>
   intro kvs g; obtain ⟨g1,g2⟩:=bX g a.b a.d; obtain ⟨out,e,k⟩:=ih (fun c hc=>hp c (.tail _ hc)) _ g1;have ha:=hp a (.head _); have gt:Fa .Gt (.int (a.w.length:Int)) (.int 0)=some (.bool true):=by
     show some (zR (decide ((0:Int) < a.w.length)))=_;rw [decide_eq_true (by lia)]
   refine ⟨out,?_,fun y=>?_⟩
   . rw [vK]
     unfold Hn; have e1:(B6 (b2 (C0 (A1 (A0 2) A6) F1) (vC (.int 0)) (Fa .Gt))) ([Sl.sh bk,.un,.un].set 2 (.sh a.d))=.ok true:=by simp_arith [gZ,gt]
     have e2:(b2 (A0 2) (vC (.int 2)) dIx) ([Sl.sh bk,.un,.un].set 2 (.sh a.d))=.ok (anD a.b):=by unfold Ad.d; simp_arith [cJ]
     rw [e1,e2]; show (if nkD (anD a.b)=true then _ else _)=_;rw [if_pos (Ud _)]; exact e
   . obtain ⟨ds,e3,e4⟩:=g2 y
     obtain ⟨ds',e5,e6⟩:=k y; rw [e4] at e5; cases e5; refine ⟨ds,e3,?_⟩; rw [e6];by_cases c:a.b=y
     . rw [if_pos c,zC,if_pos (by simpa using c)]; simp
     . rw [if_neg c,zC,if_neg (by simpa using c)]
 | @oth L B e k x xs he hk _ ih =>
   intro kvs g; obtain ⟨out,e2,kk⟩:=ih hp kvs g; refine ⟨out,?_,kk⟩; rw [vK]; unfold Hn; have gt:Fa .Gt (.int 0) (.int 0)=some (.bool false):=rfl; have e1:(B6 (b2 (C0 (A1 (A0 2) A6) F1) (vC (.int 0)) (Fa .Gt))) ([Sl.sh bk,.un,.un].set 2 (.sh e.1))=.ok false:=by rw [he]; simp_arith [gY hk,gt]
   rw [e1]; exact e2
theorem fM {L:List Dp} {B:List Ad} (A:BkA L B) (hl:L.length<=9):∃ out,N8 [.tuple (L.map (·.1))]=.ok out/\∀ y,Ti out (anD y)=.list ((B.filter fun a=>a.b=y).map Ad.d):=by
 obtain ⟨out,e,k⟩:=tV A.ad A.bk.pos (.tuple (L.map (·.1))) [] (fun _ h=>nomatch h);refine ⟨out,?_,fun y=>?_⟩
 . unfold N8 X0 V6 fnW K6 Lw Dh dG Vv
   simp only [vK,c7,vP,xR,i0,g9,vW,xY,xB,vZ,wA,j9,DH,Bv,Df,C1,D2,D1]; rw [if_pos ⟨by rw [vA]; lia,by decide⟩,e];rfl
 . obtain ⟨ds,e1,e2⟩:=k y
   cases e1; exact e2
noncomputable def Xg:Dn->Out:=(C3 (dF 2 4) (C3 (E7 5 (b2 (A0 4) (vC (.int 0)) dIx)) (C3 (E7 6 (b2 (A0 4) (vC (.int 1)) dIx)) (C3 (E7 7 (E5 (A1 (b2 (A0 5) (vC (.int 1)) dIx) (A1 (A0 6) A6)))) (C3 (X2 3 (E5 (A1 (A0 7) (A1 (b2 (b2 (A0 5) (vC (.int 3)) dIx) (A0 6) dIx) A6)))) (C3 (sIf (B6 (b2 (b2 (A0 6) (vC (.int 1)) C6) (vFn (A1 (b2 (A0 5) (vC (.int 3)) dIx) A6) M4) (K0 .Lt))) (X2 2 (E5 (A1 (A0 5) (A1 (b2 (A0 6) (vC (.int 1)) C6) A6)))) F5) (dH 2 (D7 (fun δ=>((Ly 1 (A0 7) (E4 A6)) δ).bind D2) C8 [] J3 (E5 (A1 (A0 0) (A1 (vC (.int 0)) A6)))))))))))
abbrev wt (u:As):uV:=.tuple [u.1.d,.int (u.2:Int)]
noncomputable def ltr (u:As):Str:=⟨#[u.1.w.cps.toList.getD u.2 0]⟩
abbrev sgA (u:As):uV:=sgD u.1.p (u.2:Int)
abbrev tl (u:As):uV:=.tuple [sgA u,.str (ltr u)]
theorem Yf (x:Str):x.length=x.cps.toList.length:=by unfold Str.length; simp
theorem jN {u:As} (h:u.2 < u.1.w.length):dIx (.str u.1.w) (.int (u.2:Int))=some (.str (ltr u)):=by
 have h':u.2 < u.1.w.cps.toList.length:=by rw [<- Yf]; exact h
 show (atI u.1.w.cps.toList (u.2:Int)).map _=_;rw [K8 h'];unfold ltr;rw [u7,wC h'];rfl
theorem mE {i j:Nat} {δ:Dn} {W:List uV} {d:uV} (h:δ[i]? = some (.ow (.list (W++[d])))) (hij:i≠j):dF i j δ=.nx ((δ.set i (.ow (.list W))).set j (.sh d)):=by
 unfold dF;rw [h];simp [hij]
theorem Ap {i:Nat} {δ:Dn} {f:Dn->Res uV} {W:List uV} {d:uV} (h:δ[i]? = some (.ow (.list W))) (hf:f δ=.ok d) (hl:W.length<=1000):X2 i f δ=.nx (δ.set i (.ow (.list (W++[d])))):=by
 unfold X2;rw [h];show K5 (f δ) _=_;rw [hf,D1,if_pos (AJ hl (by decide))]
theorem mF {i:Nat} {δ:Dn} {f:Dn->Res (List uV)} {W ds:List uV} (h:δ[i]? = some (.ow (.list W))) (hf:f δ=.ok ds) (hl:W.length+ds.length<=1000):dH i f δ=.nx (δ.set i (.ow (.list (W++ds)))):=by
 unfold dH;rw [h];show K5 (f δ) _=_;rw [hf,D1,if_pos (vX hl (by decide))]
theorem bP (δc:Dn):∀ ds:List Ad,C9 C8 δc J3 (E5 (A1 (A0 0) (A1 (vC (.int 0)) A6))) (ds.map Ad.d)=.ok (ds.map fun a=>wt (a,0))
 | ds=>Dv Ad.d (fun a=>wt (a,0)) (fun a=>by simp_arith; rfl) ds
theorem Run.len {B:List Ad} {st out:List As} (h:Run B st out):st.length<=out.length:=by
 induction h with
 | nil=>exact vL _
 | step _ ih=>simp only [wB,vP] at ih ⊢; lia
theorem oC (B:List Ad) (u:As):(Fp B u).map wt=((B.filter fun a=>a.b=some (sgn u)).map fun a=>wt (a,0)):=by
 unfold Fp;rw [zS]; rfl
theorem lX {B:List Ad} {b:uV} {kvs:Kvs} (hk:∀ y,Ti kvs (anD y)=.list ((B.filter fun a=>a.b=y).map Ad.d)) {u:As} (hu:u.2 < u.1.w.length) (W T:List uV) (hl:W.length+1+(Fp B u).length<=900) (hT:T.length<=900) (s4 s5 s6 s7:Sl) :
   ∃ t4 t5 t6 t7,Xg [.sh b,.ow (.tuple [.dict kvs,.none]),.ow (.list (W++[wt u])),.ow (.list T),s4,s5,s6,s7]=.nx [.sh b,.ow (.tuple [.dict kvs,.none]),.ow (.list (W++(nxt u).map wt++(Fp B u).map wt)),.ow (.list (T++[tl u])),t4,t5,t6,t7]:=by
 refine ⟨.sh (wt u),.sh u.1.d,.sh (.int u.2),.sh (sgA u),?_⟩;unfold Xg;rw [B3 (mE (W:=W) rfl (by decide))];simp only [vZ,wA];rw [B3 (D9 (d:=u.1.d) (by simp_arith [T8]))];simp only [vZ,wA];rw [B3 (D9 (d:=.int (u.2:Int)) (by simp_arith [Gk]))];simp only [vZ,wA];rw [B3 (D9 (d:=sgA u) (by unfold Ad.d; simp_arith [Gk]))];simp only [vZ,wA];rw [B3 (Ap (W:=T) (d:=tl u) rfl (by unfold Ad.d; simp_arith [Xy,jN hu]) (by lia))];simp only [vZ,wA];have hif : sIf (B6 (b2 (b2 (A0 6) (vC (.int 1)) C6) (vFn (A1 (b2 (A0 5) (vC (.int 3)) dIx) A6) M4) (K0 .Lt))) (X2 2 (E5 (A1 (A0 5) (A1 (b2 (A0 6) (vC (.int 1)) C6) A6)))) F5 [.sh b, .ow (.tuple [.dict kvs, .none]), .ow (.list W), .ow (.list (T ++ [tl u])), .sh (wt u), .sh u.1.d, .sh (.int u.2), .sh (sgA u)]
     = .nx [.sh b,.ow (.tuple [.dict kvs,.none]),.ow (.list (W++(nxt u).map wt)),.ow (.list (T++[tl u])),.sh (wt u),.sh u.1.d,.sh (.int u.2),.sh (sgA u)]:=by
   unfold nxt;by_cases c:u.2+1 < u.1.w.length
   . rw [if_pos c,Ai (by unfold Ad.d; simp_arith [Xy,nZ,Q8,eH (show (u.2:Int)+1 < (u.1.w.length:Int) by lia)])]
     rw [Ap (W:=W) (d:=wt (u.1,u.2+1)) rfl (by simp_arith [Q8]; rfl) (by lia)];rfl
   . rw [if_neg c,Q9 (by unfold Ad.d; simp_arith [Xy,nZ,Q8,eI (show ¬ (u.2:Int)+1 < (u.1.w.length:Int) by lia)])]
     simp [F5]
 rw [B3 hif];have hnl:(nxt u).length<=1:=by unfold nxt; split <;> simp
 have hgl:(B.filter fun a=>a.b=some (sgn u)).length=(Fp B u).length:=by unfold Fp; rw [vA]
 have hget:(fun δ=>((Ly 1 (A0 7) (E4 A6)) δ).bind D2) [.sh b,.ow (.tuple [.dict kvs,.none]),.ow (.list (W++(nxt u).map wt)),.ow (.list (T++[tl u])),.sh (wt u),.sh u.1.d,.sh (.int u.2),.sh (sgA u)]=.ok ((B.filter fun a=>a.b=some (sgn u)).map Ad.d):=by
   refine D6 (d:=.list ((B.filter fun a=>a.b=some (sgn u)).map Ad.d)) ?_ rfl;rw [<- hk (some (sgn u))]; show (if nkD (anD (some (sgn u)))=true then Res.ok ((N9 kvs (anD (some (sgn u)))).getD (.list [])) else Res.no)=_;rw [if_pos (Ud (some (sgn u)))]; rfl
 rw [mF (W:=W++(nxt u).map wt) (ds:=(Fp B u).map wt) rfl (D5 hget (by rw [vA,hgl]; lia) rfl (by rw [oC]; exact bP _ _)) (by simp only [wB,vA]; lia)];rfl
theorem fP {B:List Ad} {b:uV} {kvs:Kvs} (hk:∀ y,Ti kvs (anD y)=.list ((B.filter fun a=>a.b=y).map Ad.d)) {st out:List As} (h:Run B st out):(∀ u∈out,u.2 < u.1.w.length)->∀ (n:Nat) (T:List uV) (s4 s5 s6 s7:Sl),out.length < n->T.length+out.length<=800 ->
   ∃ t4 t5 t6 t7,V8 (Xe 2) Xg n [.sh b,.ow (.tuple [.dict kvs,.none]),.ow (.list (st.reverse.map wt)),.ow (.list T),s4,s5,s6,s7]=.nx [.sh b,.ow (.tuple [.dict kvs,.none]),.ow (.list []),.ow (.list (T++out.map tl)),t4,t5,t6,t7]:=by
 induction h with
 | nil =>
   intro _ n T s4 s5 s6 s7 hn _;cases n with
   | zero=>cases hn
   | succ n =>
     refine ⟨s4,s5,s6,s7,?_⟩; unfold V8; rw [show Xe 2 [Sl.sh b,.ow (.tuple [.dict kvs,.none]),.ow (.list (([]:List As).reverse.map wt)),.ow (.list T),s4,s5,s6,s7]=.ok false from rfl,D1,if_neg (by decide)];simp
 | @step u st out h ih =>
   intro hu n T s4 s5 s6 s7 hn hT; have hlen:=h.len; simp only [wB,z9,vP] at hlen hn hT;cases n with
   | zero=>cases hn
   | succ n =>
     have e1:(u::st).reverse.map wt=st.reverse.map wt++[wt u]:=by rw [AQ,wI]; rfl
     rw [e1]; obtain ⟨a4,a5,a6,a7,e2⟩:=lX (b:=b) hk (hu u (.head _)) (st.reverse.map wt) T (by rw [vA,z9]; lia) (by lia) s4 s5 s6 s7;have e3:(st.reverse.map wt++(nxt u).map wt++(Fp B u).map wt)=((Fp B u).reverse++(nxt u++st)).reverse.map wt:=by
       have hr:(nxt u).reverse=nxt u:=by unfold nxt; split <;> rfl
       rw [BV,BV,JO,hr,wI,wI]
     rw [e3] at e2; obtain ⟨t4,t5,t6,t7,e4⟩:=ih (fun v hv=>hu v (.tail _ hv)) n (T++[tl u]) a4 a5 a6 a7 (by lia) (by rw [wB]; simp; lia);refine ⟨t4,t5,t6,t7,?_⟩; unfold V8; have ec:Xe 2 [Sl.sh b,.ow (.tuple [.dict kvs,.none]),.ow (.list (st.reverse.map wt++[wt u])),.ow (.list T),s4,s5,s6,s7]=.ok true:=by
       show Res.ok (!(st.reverse.map wt++[wt u]).isEmpty)=_;simp
     rw [ec,D1,if_pos rfl,e2]; show V8 (Xe 2) Xg n _=_;rw [e4,wR]; rfl
theorem aG {B:List Ad} (h:∀ a∈B,Ox a.w):(sgs B).length<=4*B.length:=by
 unfold sgs;induction B with
 | nil=>exact vL _
 | cons a B ih =>
   rw [List.flatMap_cons,wB,vP]; have:=ih fun c hc=>h c (.tail _ hc);have h2:=(h a (.head _)).2.1; have h3:(blk a).length=a.w.length:=by unfold blk; simp
   lia
theorem V4 {L:List Dp} {B:List Ad} (A:BkA L B):(ord B).length<=4*L.length:=by
 have h1:=(Vp A.bk).length_eq;have h2:=aG A.wd;have h3:=A.len;lia
theorem Uy {L:List Dp} {B:List Ad} (A:BkA L B) (hl:L.length<=9):U6 [.tuple (L.map (·.1))]=.ok (.list ((ord B).map tl)):=by
 obtain ⟨kvs,e1,hk⟩:=fM A hl;have hol:=V4 A;unfold U6 Cg N0;refine P9 ?_;unfold K6;simp only [vK,c7,vP,xR,i0,g9,vW,xY,xB];rw [B3 (δ':=[.sh (.tuple (L.map (·.1))),.ow (.tuple [.dict kvs,.none]),.un,.un,.un,.un,.un,.un]) (by unfold Ba X4 Gi; simp_arith [e1])];have hrl:(Kb B).length<=36:=by
   have:=(aL A.bk).len; rw [z9] at this;lia
 have hgl:(B.filter fun a=>a.b=none).length=(Kb B).length:=by unfold Kb; rw [vA]
 have hget:(fun δ=>((Ly 1 (vC .none) (E4 A6)) δ).bind D2) [.sh (.tuple (L.map (·.1))),.ow (.tuple [.dict kvs,.none]),.un,.un,.un,.un,.un,.un]=.ok ((B.filter fun a=>a.b=none).map Ad.d):=by
   refine D6 (d:=.list ((B.filter fun a=>a.b=none).map Ad.d)) ?_ rfl;rw [<- hk none]; rfl
 rw [B3 (δ':=[.sh (.tuple (L.map (·.1))),.ow (.tuple [.dict kvs,.none]),.ow (.list (((Kb B).reverse).reverse.map wt)),.un,.un,.un,.un,.un]) (by
   unfold Az Hh; rw [D5 hget (by rw [vA,hgl]; lia) rfl (bP _ _),D1,JO];unfold Kb; rw [zS]; rfl)]
 rw [B3 (δ':=[.sh (.tuple (L.map (·.1))),.ow (.tuple [.dict kvs,.none]),.ow (.list (((Kb B).reverse).reverse.map wt)),.ow (.list []),.un,.un,.un,.un]) (by rfl)];obtain ⟨t4,t5,t6,t7,e2⟩:=fP (b:=.tuple (L.map (·.1))) hk (aL A.bk) (fun u hu=>((V3 A.bk u).mp hu).2) 4096 [] .un .un .un .un (by lia) (by simp; lia);rw [xB] at e2;have e3:Ay=V8 (Xe 2) Xg 4096:=rfl;rw [e3,B3 e2];rfl
noncomputable def Ro:Dn->Out:=(sIf (N6 (B6 (b2 (b2 (A0 2) (vC (.int 0)) dIx) (vC (.str "undo")) dEq)) (B6 (T0 true 1 (b2 (A0 2) (vC (.int 1)) dIx)))) (Hg 1 (b2 (A0 2) (vC (.int 2)) dIx) (vC (.bool true))) F5)
noncomputable def Jq:Dn->Out:=(sIf (N6 (B6 (b2 (b2 (A0 3) (vC (.int 0)) dIx) (vC (.str "drop")) dEq)) (B6 (T0 true 1 (b2 (A0 3) (vC (.int 1)) dIx)))) (N3 (fun δ=>((b2 (A0 3) (vC (.int 2)) dIx) δ).bind D2) (st1 4) (Hg 2 (A0 4) (vC (.bool true)))) F5)
abbrev sgO (s:IdP×Nat):uV:=anD (some s)
inductive Kd (e:Dp):Prop where
 | drop (ss:List (IdP×Nat)):e.1=.tuple [.str "drop",idP e.2,.tuple (ss.map sgO)]->ss.length<=40->Kd e
 | undo (q:IdP):e.1=.tuple [.str "undo",idP e.2,idP q]->Kd e
 | oth (k:Str) (x:uV) (xs:List uV):e.1=.tuple (.str k::idP e.2::x::xs)->k ≠ "drop" -> k ≠ "undo" -> Kd e
theorem Uz {T:Int} {D:List uV}:∀ (sg:List uV),(∀ x∈sg,SgOf T D x)->∃ ss:List (IdP×Nat),sg=ss.map sgO
 | [],_=>⟨[],rfl⟩
 | x::sg,h=>by
   obtain ⟨ss,e⟩:=Uz sg fun y hy=>h y (.tail _ hy);obtain ⟨p,b,w,n,_,e1,_⟩:=h x (.head _); exact ⟨(p,n)::ss,by rw [vK,<- e,e1]; rfl⟩
theorem WfIn.kd {L:List Dp} {e:Dp} (h:WfIn L e):Kd e:=by
 obtain ⟨o,r⟩:=(show Wf _ _ _ _ from h);rcases r with ⟨b,w,e1,_⟩ | ⟨sg,e1,hs,hl,_⟩ | ⟨n,s1,x1,s2,x2,e1,_⟩ | ⟨n,e1,_⟩ | ⟨q,e1,_⟩
 . exact .oth "add" _ _ e1 (by decide) (by decide)
 . obtain ⟨ss,rfl⟩:=Uz sg hs
   exact .drop ss e1 (by simpa using hl)
 . exact .oth "mark" _ _ e1 (by decide) (by decide)
 . exact .oth "unmark" _ _ e1 (by decide) (by decide)
 . exact .undo q e1
theorem Kd.id {e:Dp} (h:Kd e):∃ k x xs,e.1=.tuple (.str k::idP e.2::x::xs):=by
 cases h with
 | drop ss h _=>exact ⟨_,_,_,h⟩
 | undo q h=>exact ⟨_,_,_,h⟩
 | oth k x xs h _ _=>exact ⟨_,_,_,h⟩
abbrev oN (kvs:Kvs):Sl:=.ow (.tuple [.dict kvs,.none])
abbrev fN (kvs:Kvs):Sl:=.fd ((.dict [],.none)::kvs)
theorem Bw {b:Bool} {i:Nat} {f:Dn->Res uV} {δ:Dn} {kvs:Kvs} {kd:uV} (h:kvN δ i=some kvs) (hf:f δ=.ok kd) (hk:nkD kd=true):T0 b i f δ=.ok (.bool ((N9 kvs kd).isSome != b)):=by
 unfold T0;rw [hf,C1,h];show (if nkD kd=true then _ else _)=_;rw [if_pos hk]
theorem Bh (p:IdP):nkD (idP p)=true:=by simp [nkD,El,isK,yF,xJ]
theorem Vg {i:Nat} {fk fv:Dn->Res uV} {δ:Dn} {kvs:Kvs} {kd v:uV} (h:δ[i]? = some (oN kvs)) (hv:fv δ=.ok v) (hk:fk δ=.ok kd) (hn:nkD kd=true) (hl:kvs.length<=1000):Hg i fk fv δ=.nx (δ.set i (oN (P7 kvs kd v))):=by
 unfold Hg;rw [h];show K5 (fv δ) _=_;rw [hv,D1,hk,D1,if_pos ⟨hn,AJ hl (by decide)⟩]
theorem Mi {x y:Str} (h:x≠y):(x==y)=false:=beq_eq_false_iff_ne.mpr h
theorem Qh (x:Str):(x==x)=true:=beq_self_eq_true x
abbrev has (kvs:Kvs) (y:Option (IdP×Nat)):Bool:=(N9 kvs (anD y)).isSome
abbrev Ia (kvs:Kvs):Prop:=∀ p∈kvs,∃ x,p.1=anD x
theorem iD {kvs:Kvs} (h:Ia kvs) (x:Option (IdP×Nat)) (v:uV):Ia (P7 kvs (anD x) v)/\∀ y,has (P7 kvs (anD x) v) y=(decide (x=y)||has kvs y):=by
 induction kvs with
 | nil =>
   refine ⟨fun p hp=>?_,fun y=>?_⟩
   . rw [vQ.mp hp]; exact ⟨x,rfl⟩
   . show ((List.find? (fun p=>vN p.1 (anD y)) [(anD x,v)]).map (·.2)).isSome=_
     rw [wO,P5];cases decide (x=y) <;> rfl
 | cons p r ih =>
   obtain ⟨z,hz⟩:=h p (.head _); obtain ⟨i1,i2⟩:=ih fun q hq=>h q (.tail _ hq);unfold P7; rw [hz,P5];by_cases c:z=x
   . rw [if_pos (decide_eq_true c)]
     refine ⟨fun q hq=>?_,fun y=>?_⟩
     . rcases vF.mp hq with rfl | hq
       . exact ⟨z,rfl⟩
       . exact h q (.tail _ hq)
     . unfold has N9
       rw [wO,wO,hz,P5,c];cases decide (x=y) <;> rfl
   . rw [if_neg (by rw [decide_eq_false c]; decide)]
     refine ⟨fun q hq=>?_,fun y=>?_⟩
     . rcases vF.mp hq with rfl | hq
       . exact ⟨z,hz⟩
       . exact i1 q hq
     . unfold has N9
       rw [wO,wO,hz,P5];cases hd:decide (z=y) with
       | true=>simp
       | false=>exact i2 y
noncomputable def W3 (un:IdP->Bool) (e:Dp) (s:IdP×Nat):Bool:=match e.1 with
 | .tuple (.str k::_::.tuple xs::_)=>(k == "drop")&&(!un e.2)&&(xs.any fun y=>vN y (sgO s))
 | _=>false
theorem Rg {un:IdP->Bool} {e:Dp} {s:IdP×Nat} {k:Str} {i x:uV} {xs:List uV} (h:e.1=.tuple (.str k::i::x::xs)) (hk:k ≠ "drop"):W3 un e s=false:=by
 unfold W3;rw [h];split
 . rename_i heq
   injection heq with heq
   injection heq with h1 _
   injection h1 with h1
   rw [<- h1,Mi hk]; rfl
 . rfl
theorem Vl (b:uV) (ku:Kvs) (s3:Sl):∀ (ss:List (IdP×Nat)) (kvs:Kvs) (s4:Sl),Ia kvs->kvs.length+ss.length<=900->∃ kvs' s4',Ia kvs'/\kvs'.length<=kvs.length+ss.length/\(∀ y,has kvs' y=(has kvs y||ss.any fun s=>decide (some s=y))) /\
   E3 (st1 4) (Hg 2 (A0 4) (vC (.bool true))) (ss.map sgO) [.sh b,fN ku,oN kvs,s3,s4]=.nx [.sh b,fN ku,oN kvs',s3,s4']
 | [],kvs,s4,hk,_=>⟨kvs,s4,hk,by simp,fun y=>by simp,rfl⟩
 | s::ss,kvs,s4,hk,hl=>by
   rw [vP] at hl; obtain ⟨g1,g2⟩:=iD hk (some s) (.bool true); have l1:=Di (k:=sgO s) (v:=zR true) kvs; obtain ⟨kvs',s4',k1,k2,k3,k4⟩:=Vl b ku s3 ss (P7 kvs (sgO s) (.bool true)) (.sh (sgO s)) g1 (by lia);refine ⟨kvs',s4',k1,by rw [vP]; lia,fun y=>?_,?_⟩
   . rw [k3,g2,CV]
     cases decide (some s=y) <;> simp
   . rw [vK]
     unfold E3; simp only [st1,vZ,wA]; rw [Vg (kd:=sgO s) (v:=.bool true) rfl rfl rfl (Ud _) (by lia)]; exact k4
theorem kM {e:Dp} (h:Kd e) (b:uV) (ku kvs:Kvs) (s4:Sl) (hk:Ia kvs) (hl:kvs.length<=800):∃ kvs' s4',Ia kvs'/\kvs'.length<=kvs.length+40/\(∀ s,has kvs' (some s)=(has kvs (some s)||W3 (fun p=>(N9 ku (idP p)).isSome) e s)) /\
   Jq [.sh b,fN ku,oN kvs,.sh e.1,s4]=.nx [.sh b,fN ku,oN kvs',.sh e.1,s4']:=by
 have no : ∀ k x xs, e.1 = .tuple (.str k :: idP e.2 :: x :: xs) -> k ≠ "drop" -> ∃ kvs' s4', Ia kvs' /\ kvs'.length <= kvs.length + 40 /\ (∀ s, has kvs' (some s) = (has kvs (some s) || W3 (fun p => (N9 ku (idP p)).isSome) e s)) /\
     Jq [.sh b,fN ku,oN kvs,.sh e.1,s4]=.nx [.sh b,fN ku,oN kvs',.sh e.1,s4']:=fun k x xs e1 hn=>by
   refine ⟨kvs,s4,hk,by lia,fun s=>by rw [Rg e1 hn,FG],?_⟩;unfold Jq; rw [Q9 (Fy (by rw [e1]; simp_arith [T8,Al,Mi hn]))];rfl
 cases h with
 | undo q h=>exact no _ _ _ h (by decide)
 | oth k x xs h h1 _=>exact no _ _ _ h h1
 | drop ss h hss =>
   have c1:(B6 (b2 (b2 (A0 3) (vC (.int 0)) dIx) (vC (.str "drop")) dEq)) [.sh b,fN ku,oN kvs,.sh e.1,s4]=.ok true:=by rw [h]; simp_arith [T8,Al,Qh]
   have c2:(B6 (T0 true 1 (b2 (A0 3) (vC (.int 1)) dIx))) [.sh b,fN ku,oN kvs,.sh e.1,s4]=.ok ((N9 ku (idP e.2)).isSome != true):=by
     refine C2 (Bw rfl ?_ (Bh e.2)); rw [h]; simp_arith [Gk]
   have hd:∀ s,W3 (fun p=>(N9 ku (idP p)).isSome) e s=(!(N9 ku (idP e.2)).isSome&&ss.any fun t=>decide (some t=some s)):=fun s=>by
     unfold W3; rw [h]; show (("drop" : Str) == "drop" && (!(N9 ku (idP e.2)).isSome)&&((ss.map sgO).any fun y=>vN y (sgO s)))=_;rw [Qh,IC,DU];congr 1;congr 1;funext t;exact P5 _ _
   unfold Jq;cases c:(N9 ku (idP e.2)).isSome with
   | true =>
     rw [c] at c2 hd; rw [Q9 (Eg c1 c2)]; exact ⟨kvs,s4,hk,by lia,fun s=>by rw [hd]; simp,rfl⟩
   | false =>
     rw [c] at c2 hd; obtain ⟨kvs',s4',k1,k2,k3,k4⟩:=Vl b ku (.sh e.1) ss kvs s4 hk (by lia);refine ⟨kvs',s4',k1,by lia,fun s=>by rw [k3,hd]; simp,?_⟩;rw [Ai (Ef c1 c2)]; unfold N3; rw [D6 (d:=.tuple (ss.map sgO)) (ds:=ss.map sgO) (by rw [h]; simp_arith [cJ]) rfl,D1];exact k4
theorem Wu (b:uV) (ku:Kvs):∀ (ds:List Dp),(∀ e∈ds,Kd e)->∀ (kvs:Kvs) (s3 s4:Sl),Ia kvs->kvs.length+40*ds.length<=800->∃ kvs' s3' s4',Ia kvs'/\(∀ s,has kvs' (some s)=(has kvs (some s)||ds.any fun e=>W3 (fun p=>(N9 ku (idP p)).isSome) e s)) /\
   E3 (st1 3) Jq (ds.map (·.1)) [.sh b,fN ku,oN kvs,s3,s4]=.nx [.sh b,fN ku,oN kvs',s3',s4']
 | [],_,kvs,s3,s4,hk,_=>⟨kvs,s3,s4,hk,fun s=>by simp,rfl⟩
 | e::ds,h,kvs,s3,s4,hk,hl=>by
   rw [vP] at hl; obtain ⟨kvs1,t4,g1,g2,g3,g4⟩:=kM (h e (.head _)) b ku kvs s4 hk (by lia);obtain ⟨kvs2,u3,u4,k1,k2,k3⟩:=Wu b ku ds (fun d hd=>h d (.tail _ hd)) kvs1 (.sh e.1) t4 g1 (by lia);refine ⟨kvs2,u3,u4,k1,fun s=>by rw [k2,g3,CV,ID],?_⟩;rw [vK]; unfold E3; simp only [st1,vZ,wA]; rw [g4]; exact k3
theorem uC {L:List Dp} (h:∀ e∈L,Kd e) (hl:L.length<=9) (ku:Kvs):∃ kd,L3 [.sh (.tuple (L.map (·.1))),fN ku]=.ok kd/\∀ s,has kd (some s)=L.any fun e=>W3 (fun p=>(N9 ku (idP p)).isSome) e s:=by
 obtain ⟨kd,s3,s4,k1,k2,k3⟩:=Wu (.tuple (L.map (·.1))) ku L h [] .un .un (fun _ h=>nomatch h) (by simp; lia);refine ⟨kd,?_,fun s=>by rw [k2]; rfl⟩;unfold L3 Aa X7 oK Fe Lw Dh N3 Vv;simp only [vP,xR,i0,g9,vW,xY,xB,vZ,wA,Bv,j9,Df,C1,D2,D1];have k3':=k3;unfold Jq at k3';unfold N3 at k3';rw [k3'];rfl
noncomputable def bT:Dn->Out:=(X2 3 (E5 (A1 (A0 4) (A1 (fS (T0 true 1 (b2 (b2 (A0 4) (vC (.int 0)) dIx) (vC (.int 0)) dIx)) (T0 true 2 (b2 (A0 4) (vC (.int 0)) dIx))) A6))))
abbrev bkD (L:List Dp):uV:=.tuple (L.map (·.1))
structure Pr (L:List Dp) (ku kd:Kvs):Prop where
 u:E6 [bkD L]=.ok ku
 d:L3 [.sh (bkD L),fN ku]=.ok kd
 h:∀ s,has kd (some s)=L.any fun e=>W3 (fun p=>(N9 ku (idP p)).isSome) e s
noncomputable def un (ku:Kvs) (p:IdP):Bool:=(N9 ku (idP p)).isSome
noncomputable def E2 (ku kd:Kvs) (u:As):Bool := !(un ku u.1.p) && !(has kd (some (sgn u)))
theorem bne_true (b:Bool):(b != true) = !b:=by cases b <;> rfl
theorem lR {f g:Dn->Res uV} {δ:Dn} {a b:Bool} (h1:f δ=.ok (.bool a)) (h2:g δ=.ok (.bool b)):fS f g δ=.ok (.bool (a&&b)):=by
 unfold fS;rw [h1,C1];cases a with
 | true=>exact h2
 | false=>rfl
theorem Qn (b:uV) (ku kd:Kvs):∀ (us:List As) (T:List uV) (s4:Sl),T.length+us.length<=800->∃ s4',E3 (st1 4) bT (us.map tl) [.sh b,fN ku,oN kd,.ow (.list T),s4]=.nx [.sh b,fN ku,oN kd,.ow (.list (T++us.map fun u=>.tuple [tl u,.bool (E2 ku kd u)])),s4']
 | [],T,s4,_=>⟨s4,by simp [E3]⟩
 | u::us,T,s4,hl=>by
   rw [vP] at hl; obtain ⟨s4',e⟩:=Qn b ku kd us (T++[.tuple [tl u,.bool (E2 ku kd u)]]) (.sh (tl u)) (by simp; lia);refine ⟨s4',?_⟩; rw [vK]; unfold E3; simp only [st1,vZ,wA]; have e1:(T0 true 1 (b2 (b2 (A0 4) (vC (.int 0)) dIx) (vC (.int 0)) dIx)) [.sh b,fN ku,oN kd,.ow (.list T),.sh (tl u)]=.ok (.bool (!(un ku u.1.p))):=by
     rw [Bw (kvs:=ku) (kd:=idP u.1.p) rfl (by simp_arith [T8]) (Bh _),bne_true]; rfl
   have e2:(T0 true 2 (b2 (A0 4) (vC (.int 0)) dIx)) [.sh b,fN ku,oN kd,.ow (.list T),.sh (tl u)]=.ok (.bool (!(has kd (some (sgn u))))):=by
     rw [Bw (kvs:=kd) (kd:=sgA u) rfl (by simp_arith [T8]) (Ud (some (sgn u))),bne_true]; rfl
   have e3:bT [.sh b,fN ku,oN kd,.ow (.list T),.sh (tl u)]=.nx [.sh b,fN ku,oN kd,.ow (.list (T++[.tuple [tl u,.bool (E2 ku kd u)]])),.sh (tl u)]:=by
     unfold bT; exact Ap rfl (Q1 (A5 (d:=tl u) (by simp_arith) (A5 (lR e1 e2) rfl))) (by lia)
   rw [e3]; show E3 (st1 4) bT (us.map tl) _=_;rw [e,wR]; rfl
theorem nA {L:List Dp} {B:List Ad} (A:BkA L B) (hl:L.length<=9) {ku kd:Kvs} (P:Pr L ku kd):P8 [bkD L]=.ok (.list ((ord B).map fun u=>.tuple [tl u,.bool (E2 ku kd u)])):=by
 have hol:=V4 A;obtain ⟨s4,e⟩:=Qn (bkD L) ku kd (ord B) [] .un (by simp; lia);unfold P8 W9 J2;refine P9 ?_;unfold K6;simp only [vK,c7,vP,xR,i0,g9,vW,xY,xB];rw [B3 (δ':=[.sh (bkD L),oN ku,.un,.un,.un]) (by unfold U3 X4 Gi; simp_arith [P.u])];rw [B3 (δ':=[.sh (bkD L),fN ku,oN kd,.un,.un]) (by
   unfold U2 rT X4 Rw; show K5 (Res.bind (Res.ok (bkD L)) fun d=>L3 [.sh d,fN ku]) _=_;rw [C1,P.d]; rfl)]
 rw [B3 (δ':=[.sh (bkD L),fN ku,oN kd,.ow (.list []),.un]) (by rfl)];rw [xB] at e;have e3:O7 [.sh (bkD L),fN ku,oN kd,.ow (.list []),.un]=.nx [.sh (bkD L),fN ku,oN kd,.ow (.list ((ord B).map fun u=>.tuple [tl u,.bool (E2 ku kd u)])),s4]:=by
   unfold O7 N3; rw [D6 (d:=.list ((ord B).map tl)) (ds:=(ord B).map tl) (by simp_arith [Uy A hl]) rfl,D1];exact e
 rw [B3 e3];rfl
theorem K4 {α:Type} {δc:Dn} {tt:Dn->Res Bool} {el:Dn->Res uV} (g h:α->uV) (f:α->Bool):∀ xs:List α,(∀ x∈xs,tt ([.sh (g x)]++δc)=.ok (f x))->(∀ x∈xs,el ([.sh (g x)]++δc)=.ok (h x))->C9 C8 δc tt el (xs.map g)=.ok ((xs.filter f).map h)
 | [],_,_=>rfl
 | x::xs,ht,he=>by
   have ih:=K4 g h f xs (fun y hy=>ht y (.tail _ hy)) fun y hy=>he y (.tail _ hy);have h1:=ht x (.head _); have h2:=he x (.head _); rw [vK]; unfold C9;cases c:f x with
   | true =>
     rw [c] at h1; simp only [C8,h1,h2,ih]; rw [zC,c,if_pos rfl,vK]
   | false =>
     rw [c] at h1; simp only [C8,h1,ih]; rw [zC,c,if_neg (by decide)]
theorem Nd {L:List Dp} {B:List Ad} (A:BkA L B) (hl:L.length<=9) {ku kd:Kvs} (P:Pr L ku kd):K7 [bkD L]=.ok (.list (((ord B).filter (E2 ku kd)).map tl)):=by
 have hol:=V4 A;have hp:=nA A hl P;unfold K7 Ch Cq;refine P9 (L0 (I8 (D5 (D6 (d:=.list ((ord B).map fun u=>.tuple [tl u,.bool (E2 ku kd u)])) (by simp_arith [hp]) rfl) (by simp; lia) rfl ?_)));exact K4 (fun u=>.tuple [tl u,.bool (E2 ku kd u)]) tl (E2 ku kd) (ord B) (fun u _=>by
   unfold Bl; exact C2 (by simp_arith [Gk])) fun u _=>by unfold Bl; simp_arith [T8]
theorem jO {u:As} (hw:Ox u.1.w) (h:u.2 < u.1.w.length):(ltr u).length=1/\wJ (ltr u)=true/\chOk 32 126 (ltr u):=by
 have h':u.2 < u.1.w.cps.toList.length:=by rw [<- Yf]; exact h
 have hc:=hw.2.2 _ (BB h');have e:u.1.w.cps.toList.getD u.2 0=u.1.w.cps.toList[u.2]:=by rw [u7,wC h']; rfl
 refine ⟨rfl,?_,?_⟩
 . unfold ltr
   rw [e];generalize u.1.w.cps.toList[u.2]=c at hc;unfold wJ; simp;lia
 . unfold ltr
   rw [e]; exact .one hc
theorem Mf {α:Type} (f:α->Str):∀ us:List α,Cd (us.map fun u=>yE (f u))=some (us.map f)
 | []=>rfl
 | u::us=>by
   show (Cd (us.map fun u=>yE (f u))).map _=_;rw [Mf f us]; rfl
theorem Wd {us:List As} (h:∀ u∈us,Ox u.1.w/\u.2 < u.1.w.length) (hl:us.length<=100):Ri "" (.list (us.map fun u=>yE (ltr u)))=some (.str (k7 "" (us.map ltr))):=by
 have hx:∀ x∈us.map ltr,x.length=1/\wJ x=true/\chOk 32 126 x:=fun x hx=>by
   obtain ⟨u,hu,rfl⟩:=wF.mp hx; exact jO (h u hu).1 (h u hu).2
 obtain ⟨l1,o1,_⟩:=Ed _ hx;have s1:=Me _ hx;rw [vA] at l1 s1;show (Cd (us.map fun u=>yE (ltr u))).bind _=_;rw [Mf ltr us];show (if _ then _ else _)=_;have:(("" : Str)).length=0:=rfl;rw [if_pos ⟨by rw [s1,this]; lia,o1,vX (show _<=1000 by lia) Jx⟩]
theorem lU {L:List Dp} {B:List Ad} (A:BkA L B) (hl:L.length<=9) {ku kd:Kvs} (P:Pr L ku kd):U5 [bkD L]=.ok (.str (k7 "" (((ord B).filter (E2 ku kd)).map ltr))):=by
 have hol:=V4 A;have hf:=xC (E2 ku kd) (ord B);have hs:=Nd A hl P;have hj:=Wd (us:=(ord B).filter (E2 ku kd)) (fun u hu=>by
   have:=(V3 A.bk u).mp (wW.mp hu).1; exact ⟨A.wd _ this.1,this.2⟩) (by lia)
 have hc:D7 (fun δ=>((C0 (A1 (A0 0) A6) K7) δ).bind D2) C8 [] J3 (b2 (A0 0) (vC (.int 1)) dIx) [.sh (bkD L)]=.ok (((ord B).filter (E2 ku kd)).map fun u=>yE (ltr u)) :=
   D5 (D6 (d:=.list (((ord B).filter (E2 ku kd)).map tl)) (by simp_arith [hs]) rfl) (by simp; lia) rfl (Dv tl (fun u=>yE (ltr u)) (fun u=>by unfold Bl; simp_arith [Gk]) _)
 unfold U5 Dg Eh;refine P9 (L0 ?_);show (Jv "" _ [.sh (bkD L)])=_;unfold Jv;rw [I8 hc,C1,hj]; rfl
theorem N7 {st:uV->Dn->Option Dn} {body:Dn->Out} {d:uV} {ds:List uV} {δ δ1 δ':Dn} (h1:st d δ=some δ1) (h2:body δ1=.nx δ'):E3 st body (d::ds) δ=E3 st body ds δ':=by
 conv=>lhs; unfold E3
 rw [h1];show (match body δ1 with | .nx δ'=>_ | .ct δ'=>_ | .bk δ'=>_ | o=>_)=_;rw [h2]
theorem Wp (p q:IdP):vN (idP p) (idP q)=decide (p=q):=by
 show ((p.1==q.1)&&((p.2==q.2)&&true))=_;rw [zJ];simp [Prod.ext_iff]
theorem uD (p:IdP):(idP p).depth<=2:=bI p.1 p.2
noncomputable def Lz (d:uV):Option IdP:=match d with
 | .tuple [.str k,_,.tuple [.int t,.str h]]=>if k = "undo" then some (t,h) else none
 | _=>none
theorem Xt {k:Str} {i x:uV} {xs:List uV} (h:k ≠ "undo"):Lz (.tuple (.str k::i::x::xs))=none:=by
 unfold Lz;split
 . rename_i heq
   injection heq with heq
   injection heq with h1 _
   injection h1 with h1
   rw [<- h1,if_neg h]
 . rfl
theorem Ui (i:uV) (q:IdP):Lz (.tuple [.str "undo",i,idP q])=some q:=by
 unfold Lz;exact if_pos rfl
noncomputable def Ku (e:Dp) (o:List IdP):List IdP:=match Lz e.1 with
 | some q=>if e.2∈o then o else o++[q]
 | none=>o
theorem Qr {e:Dp} {q:IdP} (h:e.1=.tuple [.str "undo",idP e.2,idP q]) (o:List IdP):Ku e o=if e.2∈o then o else o++[q]:=by
 unfold Ku; rw [h,Ui]
theorem Vq {e:Dp} {k:Str} {i x:uV} {xs:List uV} (h:e.1=.tuple (.str k::i::x::xs)) (hk:k ≠ "undo") (o:List IdP):Ku e o=o:=by
 unfold Ku; rw [h,Xt hk]
noncomputable def nT:List Dp->List IdP->List IdP
 | [],o=>o
 | e::r,o=>nT r (Ku e o)
abbrev off (L:List Dp):List IdP:=nT L.reverse []
abbrev Ov (kvs:Kvs):Prop:=∀ p∈kvs,∃ x:IdP,p.1=idP x
theorem Qm {kvs:Kvs} (h:Ov kvs) (x:IdP) (v:uV):Ov (P7 kvs (idP x) v)/\∀ y,un (P7 kvs (idP x) v) y=(decide (x=y)||un kvs y):=by
 induction kvs with
 | nil =>
   refine ⟨fun p hp=>?_,fun y=>?_⟩
   . rw [vQ.mp hp]; exact ⟨x,rfl⟩
   . show ((List.find? (fun p=>vN p.1 (idP y)) [(idP x,v)]).map (·.2)).isSome=_
     rw [wO,Wp];cases decide (x=y) <;> rfl
 | cons p r ih =>
   obtain ⟨z,hz⟩:=h p (.head _); obtain ⟨i1,i2⟩:=ih fun q hq=>h q (.tail _ hq);unfold P7; rw [hz,Wp];by_cases c:z=x
   . rw [if_pos (decide_eq_true c)]
     refine ⟨fun q hq=>?_,fun y=>?_⟩
     . rcases vF.mp hq with rfl | hq
       . exact ⟨z,rfl⟩
       . exact h q (.tail _ hq)
     . unfold un N9
       rw [wO,wO,hz,Wp,c];cases decide (x=y) <;> rfl
   . rw [if_neg (by rw [decide_eq_false c]; decide)]
     refine ⟨fun q hq=>?_,fun y=>?_⟩
     . rcases vF.mp hq with rfl | hq
       . exact ⟨z,hz⟩
       . exact i1 q hq
     . unfold un N9
       rw [wO,wO,hz,Wp];cases hd:decide (z=y) with
       | true=>simp
       | false=>exact i2 y
theorem cE {e:Dp} (h:Kd e) (b:uV) (kvs:Kvs) (o:List IdP) (hk:Ov kvs) (ho:∀ p,un kvs p=decide (p∈o)) (hl:kvs.length<=900):∃ kvs',Ov kvs'/\kvs'.length<=kvs.length+1/\(∀ p,un kvs' p=decide (p∈Ku e o))/\Ro [.sh b,oN kvs,.sh e.1]=.nx [.sh b,oN kvs',.sh e.1]:=by
 have no:∀ k x xs,e.1=.tuple (.str k::idP e.2::x::xs)->k ≠ "undo" -> ∃ kvs',Ov kvs'/\kvs'.length<=kvs.length+1/\(∀ p,un kvs' p=decide (p∈Ku e o))/\Ro [.sh b,oN kvs,.sh e.1]=.nx [.sh b,oN kvs',.sh e.1]:=fun k x xs e1 hk2=>by
   refine ⟨kvs,hk,AK _,by rw [Vq e1 hk2]; exact ho,?_⟩;unfold Ro; rw [Q9 (Fy (by rw [e1]; simp_arith [T8,Al,Mi hk2]))];rfl
 cases h with
 | drop ss h _=>exact no _ _ _ h (by decide)
 | oth k x xs h _ h2=>exact no _ _ _ h h2
 | undo q h =>
   have c1:(B6 (b2 (b2 (A0 2) (vC (.int 0)) dIx) (vC (.str "undo")) dEq)) [.sh b,oN kvs,.sh e.1]=.ok true:=by rw [h]; simp_arith [T8,Al,Qh]
   have c2:(B6 (T0 true 1 (b2 (A0 2) (vC (.int 1)) dIx))) [.sh b,oN kvs,.sh e.1]=.ok (!(decide (e.2∈o))):=by
     refine C2 ?_; rw [Bw (kvs:=kvs) (kd:=idP e.2) rfl (by rw [h]; simp_arith [Gk]) (Bh e.2),bne_true];exact congrArg (fun z=>Res.ok (zR (!z))) (ho e.2)
   rw [Qr h]; unfold Ro;by_cases c:e.2∈o
   . rw [decide_eq_true c] at c2
     rw [Q9 (Eg c1 c2),if_pos c]; exact ⟨kvs,hk,AK _,ho,rfl⟩
   . rw [decide_eq_false c] at c2
     obtain ⟨g1,g2⟩:=Qm hk q (.bool true); rw [Ai (Ef c1 c2),Vg (kd:=idP q) (v:=.bool true) rfl rfl (by rw [h]; simp_arith [cJ]) (Bh q) (by lia),if_neg c];refine ⟨_,g1,Di kvs,fun p=>?_,rfl⟩;rw [g2,ho]; rw [zJ]; simp;constructor
     . rintro (h | h)
       . exact .inr h.symm
       . exact .inl h
     . rintro (h | h)
       . exact .inr h
       . exact .inl h.symm
theorem Qe (b:uV):∀ (ds:List Dp),(∀ e∈ds,Kd e)->∀ (kvs:Kvs) (o:List IdP) (s2:Sl),Ov kvs->(∀ p,un kvs p=decide (p∈o))->kvs.length+ds.length<=900->∃ kvs' s2',(∀ p,un kvs' p=decide (p∈nT ds o))/\E3 (st1 2) Ro (ds.map (·.1)) [.sh b,oN kvs,s2]=.nx [.sh b,oN kvs',s2']
 | [],_,kvs,o,s2,_,ho,_=>⟨kvs,s2,ho,rfl⟩
 | e::ds,h,kvs,o,s2,hk,ho,hl=>by
   rw [vP] at hl; obtain ⟨kvs1,k1,l1,o1,e1⟩:=cE (h e (.head _)) b kvs o hk ho (by lia);obtain ⟨kvs2,s2',o2,e2⟩:=Qe b ds (fun d hd=>h d (.tail _ hd)) kvs1 _ (.sh e.1) k1 o1 (by lia);exact ⟨kvs2,s2',o2,(N7 rfl e1).trans e2⟩
theorem lS {L:List Dp} (h:∀ e∈L,Kd e) (hl:L.length<=9):∃ kvs,E6 [.tuple (L.map (·.1))]=.ok kvs/\∀ p,un kvs p=decide (p∈off L):=by
 obtain ⟨kvs,s2,o,e⟩:=Qe (.tuple (L.map (·.1))) L.reverse (fun e he=>h e (List.mem_reverse.mp he)) [] [] .un (fun _ h=>nomatch h) (fun _=>rfl) (by simp; lia);refine ⟨kvs,?_,o⟩;rw [List.map_reverse] at e;unfold E6 Bb Au fnW K6 Lw Dh N3 Vv;simp only [vK,c7,vP,xR,i0,g9,vW,xY,xB,vZ,wA,Bv,j9,Df,C1,Vh,D1];have e':=e;unfold Ro at e';rw [e'];rfl
structure Pq (L:List Dp) (ku kd:Kvs):Prop where
 P:Pr L ku kd
 o:∀ p,un ku p=decide (p∈off L)
theorem qM {L:List Dp} (h:∀ e∈L,Kd e) (hl:L.length<=9):∃ ku kd,Pq L ku kd:=by
 obtain ⟨ku,e1,e4⟩:=lS h hl;obtain ⟨kd,e2,e3⟩:=uC h hl ku;exact ⟨ku,kd,⟨e1,e2,e3⟩,e4⟩
noncomputable def Xk:Dn->Out:=(sIf (cFz 1 (N6 (B6 (b2 (b2 (A0 2) (vC (.int 0)) dIx) (vC (.str "undo")) dEq)) (B6 (b2 (b2 (A0 2) (vC (.int 1)) dIx) (A0 1) (dIn true))))) (X2 1 (b2 (A0 2) (vC (.int 2)) dIx)) F5)
theorem Fq (t:Bool) (p:IdP) (o:List IdP):dIn t (idP p) (.list (o.map idP))=some (.bool (t != decide (p∈o))):=by
 show (if _ then _ else _)=_;rw [if_pos (vX (zD _ _) (vX (uD p) (by decide)))];have:((o.map idP).any fun y=>vN y (idP p))=decide (p∈o):=by
   rw [DU,zJ,BC,decide_eq_true_iff];constructor
   . rintro ⟨q,hq,e⟩
     have e:vN (idP q) (idP p)=true:=e; rw [Wp] at e; rw [<- of_decide_eq_true e]; exact hq
   . intro h
     exact ⟨p,h,by show vN (idP p) (idP p)=true; rw [Wp]; simp⟩
 rw [this];cases t <;> cases decide (p∈o) <;> rfl
theorem On {i:Nat} {c:Dn->Res Bool} {δ δ':Dn} {r:Res Bool} (h:fz i δ=δ') (h2:c δ'=r):cFz i c δ=r:=by unfold cFz; rw [h,h2]
theorem kK {e:Dp} (h:Kd e) (b:uV) (o:List IdP) (hl:o.length<=900):Xk [.sh b,.ow (.list (o.map idP)),.sh e.1]=.nx [.sh b,.ow (.list ((Ku e o).map idP)),.sh e.1]:=by
 have no:∀ k x xs,e.1=.tuple (.str k::idP e.2::x::xs)->k ≠ "undo" -> Xk [.sh b,.ow (.list (o.map idP)),.sh e.1]=.nx [.sh b,.ow (.list ((Ku e o).map idP)),.sh e.1]:=fun k x xs e1 hk2=>by
   rw [Vq e1 hk2]; unfold Xk; rw [Q9 (On (δ':=[.sh b,.sh (.list (o.map idP)),.sh e.1]) rfl (Fy (by rw [e1]; simp_arith [T8,Al,Mi hk2])))];rfl
 cases h with
 | drop ss h _=>exact no _ _ _ h (by decide)
 | oth k x xs h _ h2=>exact no _ _ _ h h2
 | undo q h =>
   have c1:(B6 (b2 (b2 (A0 2) (vC (.int 0)) dIx) (vC (.str "undo")) dEq)) [.sh b,.sh (.list (o.map idP)),.sh e.1]=.ok true:=by rw [h]; simp_arith [T8,Al,Qh]
   have c2:(B6 (b2 (b2 (A0 2) (vC (.int 1)) dIx) (A0 1) (dIn true))) [.sh b,.sh (.list (o.map idP)),.sh e.1]=.ok (!(decide (e.2∈o))):=by
     refine C2 (B5 (x:=idP e.2) (y:=.list (o.map idP)) (by rw [h]; simp_arith [Gk]) (by simp_arith) ?_);rw [Fq];cases decide (e.2∈o) <;> rfl
   rw [Qr h]; unfold Xk;by_cases c:e.2∈o
   . rw [decide_eq_true c] at c2
     rw [Q9 (On rfl (Eg c1 c2)),if_pos c]; rfl
   . rw [decide_eq_false c] at c2
     rw [Ai (On rfl (Ef c1 c2)),if_neg c,wI]; exact Ap rfl (by rw [h]; simp_arith [cJ]) (by rw [vA]; lia)
theorem jC (e:Dp) (o:List IdP):(Ku e o).length<=o.length+1:=by
 unfold Ku;split
 . split
   . lia
   . simp
 . lia
theorem Ws (b:uV):∀ (ds:List Dp),(∀ e∈ds,Kd e)->∀ (o:List IdP) (s2:Sl),o.length+ds.length<=900->∃ s2',E3 (st1 2) Xk (ds.map (·.1)) [.sh b,.ow (.list (o.map idP)),s2]=.nx [.sh b,.ow (.list ((nT ds o).map idP)),s2']
 | [],_,o,s2,_=>⟨s2,rfl⟩
 | e::ds,h,o,s2,hl=>by
   rw [vP] at hl; have e1:=kK (h e (.head _)) b o (by lia);have:=jC e o; obtain ⟨s2',e2⟩:=Ws b ds (fun d hd=>h d (.tail _ hd)) (Ku e o) (.sh e.1) (by lia);exact ⟨s2',(N7 rfl e1).trans e2⟩
noncomputable def onL (L:List Dp):List IdP:=(L.filter fun e => !decide (e.2∈off L)).map (·.2)
theorem Kd.tid {e:Dp} (h:Kd e):dIx e.1 (.int 1)=some (idP e.2):=by
 obtain ⟨k,x,xs,e1⟩:=h.id;rw [e1]; exact Gk _ _ _
theorem lD {f:Dn->Res uV} {op:uV->Option uV} {δ:Dn} {x d:uV} (h1:f δ=.ok x) (h3:op x=some d):b1 f op δ=.ok d:=by unfold b1; rw [h1,C1,h3]; rfl
theorem Zi {L:List Dp} (h:∀ e∈L,Kd e) (hl:L.length<=9):D8 [bkD L]=.ok (.list ((onL L).map idP)):=by
 obtain ⟨s2,e⟩:=Ws (bkD L) L.reverse (fun e he=>h e (List.mem_reverse.mp he)) [] .un (by simp; lia);have c:=K4 (δc:=[.sh (.list ((off L).map idP))]) (tt:=B6 (b2 (b2 (A0 0) (vC (.int 1)) dIx) (A0 1) (dIn true))) (el:=b2 (A0 0) (vC (.int 1)) dIx) (fun e:Dp=>e.1) (fun e:Dp=>idP e.2) (fun e => !decide (e.2∈off L)) L (fun e he=>by
   refine C2 (B5 (x:=idP e.2) (y:=.list ((off L).map idP)) (B5 (x:=e.1) (y:=.int 1) (by simp_arith) rfl (h e he).tid) (by simp_arith) ?_);rw [Fq];cases decide (e.2∈off L) <;> rfl) (fun e he=>B5 (x:=e.1) (y:=.int 1) (by simp_arith) rfl (h e he).tid)
 unfold D8 U4 T7;refine P9 ?_;show C3 _ _ [.sh (bkD L),.un,.un]=_;rw [B3 (δ':=[.sh (bkD L),.ow (.list []),.un]) (by rfl)];rw [B3 (δ':=[.sh (bkD L),.ow (.list ((off L).map idP)),s2]) (by
   unfold N3; rw [D6 (d:=.tuple (L.map (·.1)).reverse) (ds:=(L.map (·.1)).reverse) (lD (op:=pE) (x:=bkD L) rfl rfl) rfl,D1,<- List.map_reverse]; exact e)]
 show K1 _ [.sh (bkD L),.sh (.list ((off L).map idP)),s2]=_;unfold onL;rw [zS];exact L0 (I8 (D5 (D6 (d:=bkD L) rfl rfl) (by rw [vA]; lia) rfl c))
theorem Th {L:List Dp} {e:Dp} (he:e∈L):decide (e.2∈onL L) = !decide (e.2∈off L):=by
 rw [zJ];simp only [decide_eq_true_iff,zZ,decide_eq_false_iff_not];unfold onL;constructor
 . intro h
   obtain ⟨x,hx,e1⟩:=wF.mp h; have:=(wW.mp hx).2; rw [e1] at this;simpa using this
 . intro h
   exact wF.mpr ⟨e,wW.mpr ⟨he,by simpa using h⟩,rfl⟩
theorem aH (u:As) (s:IdP×Nat):vN (sgA u) (sgO s)=decide (sgn u=s):=by
 rw [show sgA u=anD (some (sgn u)) from rfl,P5];congr 1;exact propext ⟨fun h=>xH h,fun h=>congrArg some h⟩
theorem bH (s:IdP×Nat):(sgO s).depth<=3:=by simp [anD,yF,xJ]
def Ix (O:List As) (s:IdP×Nat) (j:Nat):Prop:=(O.map sgA).findIdx? (fun y=>vN y (sgO s))=some j
theorem Ix.eval {O:List As} {s:IdP×Nat} {j:Nat} (h:Ix O s j) (hO:O.length<=100) {f g:Dn->Res uV} {δ:Dn} (hg:g δ=.ok (.list (O.map sgA))) (hf:f δ=.ok (sgO s)):Dw g f δ=.ok (.int (j:Nat)):=by
 unfold Dw;rw [hg,C1];show (f δ).bind _=_;rw [hf,C1];unfold Ix at h;rw [h];show (if _ then _ else _)=_;rw [if_pos ⟨by rw [vA]; lia,vX (bH s) (by decide)⟩]
theorem qS {s:IdP×Nat}:∀ {O:List As},(∃ u∈O,sgn u=s)->∃ X u Y,O=X++u::Y/\sgn u=s/\Ix O s X.length/\∀ l,Kw s l O=X++u::(l++Y)
 | [],h=>by obtain ⟨u,hu,_⟩:=h; cases hu
 | u::r,h=>by
   by_cases c:sgn u=s
   . refine ⟨[],u,r,rfl,c,?_,fun l=>?_⟩
     . unfold Ix
       rw [vK,List.findIdx?_cons,aH,decide_eq_true c]; rfl
     . unfold Kw; rw [if_pos c]; rfl
   . obtain ⟨X, v, Y, e1, e2, e3, e4⟩ := qS (s := s) (O := r) (by
       obtain ⟨x,hx,e⟩:=h; rcases vF.mp hx with rfl | hx
       . exact absurd e c
       . exact ⟨x,hx,e⟩)
     refine ⟨u::X,v,Y,by rw [e1]; rfl,e2,?_,fun l=>?_⟩
     . unfold Ix at e3 ⊢
       rw [vK,List.findIdx?_cons,aH,decide_eq_false c,e3]; rfl
     . unfold Kw; rw [if_neg c,e4]; rfl
theorem pI (xs:List uV) (k:Nat) (h:k<=xs.length):Bj xs none (some (k:Int))=xs.take k:=by
 unfold Bj;rw [HT.sIx_nat,HT.sIx_none];rw [Nat.min_eq_left h]; rfl
theorem pH (xs:List uV) (k:Nat) (h:k<=xs.length):Bj xs (some (k:Int)) none=xs.drop k:=by
 unfold Bj;rw [HT.sIx_nat,HT.sIx_none,Nat.min_eq_left h,<- DG,List.take_length]
theorem uI {δc:Dn} {tt:Dn->Res Bool} {el:Dn->Res uV} {d y:uV} {ds ys:List uV} (h1:tt ([.sh d]++δc)=.ok true) (h2:el ([.sh d]++δc)=.ok y) (h3:C9 C8 δc tt el ds=.ok ys):C9 C8 δc tt el (d::ds)=.ok (y::ys):=by
 unfold C9;simp only [C8,h1,h2,h3]
theorem uJ {δc:Dn} {tt:Dn->Res Bool} {el:Dn->Res uV} {d:uV} {ds ys:List uV} (h1:tt ([.sh d]++δc)=.ok false) (h3:C9 C8 δc tt el ds=.ok ys):C9 C8 δc tt el (d::ds)=.ok ys:=by
 unfold C9;simp only [C8,h1,h3]
theorem Nq {k v:uV}:∀ {kvs:Kvs},(∀ p∈kvs,vN p.1 k=false)->P7 kvs k v=kvs++[(k,v)]
 | [],_=>rfl
 | p::r,h=>by
   unfold P7; rw [if_neg (by rw [h p (.head _)]; decide),Nq fun q hq=>h q (.tail _ hq)]; rfl
theorem Qq {α:Type} (f:α->uV×uV) (hk:∀ a,nkD (f a).1=true):∀ (us vs:List α),(vs++us).Pairwise (fun a b=>vN (f a).1 (f b).1=false)->Cm (us.map fun a=>.tuple [(f a).1,(f a).2]) (vs.map f)=some ((vs++us).map f)
 | [],vs,_=>by rw [wQ]; rfl
 | u::us,vs,pw=>by
   rw [vK]; unfold Cm; rw [if_pos (hk u),Nq (fun p hp=>by
     obtain ⟨a,ha,rfl⟩:=wF.mp hp; exact (zW.mp pw).2.2 a ha u (.head _))]
   have:=Qq f hk us (vs++[u]) (by rw [wR]; exact pw);rw [wI,wR] at this; exact this
theorem Wl {α:Type} (f:α->uV×uV) {u:α} (hu:vN (f u).1 (f u).1=true):∀ {us:List α} {more:Kvs},u∈us->us.Pairwise (fun a b=>vN (f a).1 (f b).1=false)->N9 (us.map f++more) (f u).1=some (f u).2
 | x::us,more,h,pw=>by
   rw [wP] at pw; unfold N9; rw [vK,xY,wO]; rcases vF.mp h with rfl | h
   . rw [hu]; rfl
   . rw [pw.1 u h]; exact Wl f hu h pw.2
noncomputable def Xh:Dn->Out:=(sIf (B6 (b2 (b2 (A0 2) (vC (.int 0)) dIx) (vC (.str "add")) dEq)) (C3 (E7 3 (vIf (fun δ=>((b2 (A0 2) (vC (.int 2)) dIx) δ).bind fun d=>.ok (Nz d)) (vC (.int 0)) (b2 (Dw (A0 1) (b2 (A0 2) (vC (.int 2)) dIx)) (vC (.int 1)) C6))) (E7 1 (b2 (b2 (vSl (A0 1) Bq (X5 (A0 3))) (E4 (D7 (fun δ=>((A1 (vFn (A1 (b2 (A0 2) (vC (.int 3)) dIx) A6) M4) A6) δ).bind Bg) C8 [2] J3 (E5 (A1 (b2 (A0 1) (vC (.int 1)) dIx) (A1 (A0 0) A6))))) C6) (vSl (A0 1) (X5 (A0 3)) Bq) C6))) F5)
theorem uQ (a:Ad) {δ:Dn} (h:δ[2]? = some (.sh a.d)):(A1 (vFn (A1 (b2 (A0 2) (vC (.int 3)) dIx) A6) M4) A6) δ=.ok [.int (a.w.length:Int)]:=by
 refine A5 (O0 (A5 (B5 (x:=a.d) (y:=.int 3) (by rw [Bv,h]; rfl) rfl (Xy _ _ _ _ _)) rfl) (nZ _)) rfl
theorem uR (a:Ad) {δ:Dn} (h:δ[2]? = some (.sh a.d)):(B6 (b2 (b2 (A0 2) (vC (.int 0)) dIx) (vC (.str "add")) dEq)) δ=.ok true:=by
 refine C2 (B5 (x:=.str "add") (y:=.str "add") (B5 (x:=a.d) (y:=.int 0) (by rw [Bv,h]; rfl) rfl (T8 _ _)) rfl ?_);rw [Al,bY]
theorem pW (a:Ad) (hw:Ox a.w) {δ:Dn} (h:δ[2]? = some (.sh a.d)):(D7 (fun δ=>((A1 (vFn (A1 (b2 (A0 2) (vC (.int 3)) dIx) A6) M4) A6) δ).bind Bg) C8 [2] J3 (E5 (A1 (b2 (A0 1) (vC (.int 1)) dIx) (A1 (A0 0) A6)))) δ=.ok ((blk a).map sgA):=by
 have er:P0 0 (a.w.length:Int)=(wS a.w.length).map fun i:Nat=>wN (0+(i:Int)):=by unfold P0; simp
 have g1:=Dv (δc:=[.sh a.d]) (el:=E5 (A1 (b2 (A0 1) (vC (.int 1)) dIx) (A1 (A0 0) A6))) (fun i:Nat=>wN (0+(i:Int))) (fun i=>sgD a.p (0+(i:Int))) (fun i=>by unfold Ad.d; simp_arith [Gk]) (wS a.w.length);have hl:=hw.2.1;have eb:(blk a).map sgA=(wS a.w.length).map fun i:Nat=>sgD a.p (0+(i:Int)):=by
   unfold blk; rw [zS]; refine z8 fun i _=>?_;show sgD a.p (i:Int)=_;rw [GE]
 have g2:C9 C8 [.sh a.d] J3 (E5 (A1 (b2 (A0 1) (vC (.int 1)) dIx) (A1 (A0 0) A6))) (P0 0 (a.w.length:Int))=.ok ((blk a).map sgA):=by rw [er,eb]; exact g1
 have hlr:(P0 0 (a.w.length:Int)).length<=1000:=by rw [er,vA,CO]; lia
 exact D5 (Eb (uQ a h) (by lia) (by lia)) hlr (by unfold Bl; rw [vK,h]; rfl) g2
theorem pU (a:Ad):(blk a).length=a.w.length:=by unfold blk; simp
theorem iV {O:List As} (hO:O.length<=100) (a:Ad) (hw:Ox a.w) (hb:a.b=none\/∃ s,a.b=some s/\∃ u∈O,sgn u=s) (b:uV) (s3:Sl):∃ t3,Xh [.sh b,.sh (.list (O.map sgA)),.sh a.d,s3]=.nx [.sh b,.sh (.list ((eS a.b (blk a) O).map sgA)),.sh a.d,t3]:=by
 have hl:=hw.2.1;obtain ⟨X,Y,e1,e2,e3⟩:∃ X Y,O=X++Y/\eS a.b (blk a) O=X++(blk a++Y)/\(vIf (fun δ=>((b2 (A0 2) (vC (.int 2)) dIx) δ).bind fun d=>.ok (Nz d)) (vC (.int 0)) (b2 (Dw (A0 1) (b2 (A0 2) (vC (.int 2)) dIx)) (vC (.int 1)) C6)) [.sh b,.sh (.list (O.map sgA)),.sh a.d,s3]=.ok (.int (X.length:Nat)):=by
   have ea:(b2 (A0 2) (vC (.int 2)) dIx) [.sh b,.sh (.list (O.map sgA)),.sh a.d,s3]=.ok (anD a.b):=B5 (x:=a.d) (y:=.int 2) rfl rfl (cJ _ _ _ _); rcases hb with hb | ⟨s,hb,hu⟩
   . refine ⟨[],O,rfl,by rw [hb]; rfl,?_⟩
     unfold vIf; simp only [ea,C1]; rw [hb]; rfl
   . obtain ⟨X,u,Y,e1,e2,e3,e4⟩:=qS hu
     refine ⟨X++[u],Y,by rw [e1]; simp,by rw [hb]; show Kw s _ O=_; rw [e4]; simp,?_⟩;unfold vIf; simp only [ea,C1]; rw [hb] at ea ⊢;refine (B5 (x:=.int (X.length:Nat)) (y:=.int 1) (e3.eval hO rfl ea) rfl rfl).trans ?_; rw [wB]; rfl
 refine ⟨.sh (.int (X.length:Nat)),?_⟩;have hXY:X.length+Y.length<=100:=by have:=congrArg BM e1; rw [wB] at this; lia
 have hbl:=pU a;unfold Xh;rw [Ai (uR a rfl),B3 (D9 e3)];simp only [vZ,wA];rw [e2];have c1:Bj (O.map sgA) none (some ((X.length:Nat):Int))=X.map sgA:=by
   rw [pI _ _ (by rw [e1]; simp),e1,wI,<- vA (f:=sgA),List.take_left]
 have c2:Bj (O.map sgA) (some ((X.length:Nat):Int)) none=Y.map sgA:=by
   rw [pH _ _ (by rw [e1]; simp),e1,wI,<- vA (f:=sgA),List.drop_left]
 have q1:(vSl (A0 1) Bq (X5 (A0 3))) [.sh b,.sh (.list (O.map sgA)),.sh a.d,.sh (.int (X.length:Nat))]=.ok (.list (X.map sgA)):=Xr (x:=.list (O.map sgA)) rfl rfl rfl (by show some (AE _)=_; rw [c1]);have q2:(vSl (A0 1) (X5 (A0 3)) Bq) [.sh b,.sh (.list (O.map sgA)),.sh a.d,.sh (.int (X.length:Nat))]=.ok (.list (Y.map sgA)):=Xr (x:=.list (O.map sgA)) rfl rfl rfl (by show some (AE _)=_; rw [c2]);have q3:=I8 (pW a hw (δ:=[.sh b,.sh (.list (O.map sgA)),.sh a.d,.sh (.int (X.length:Nat))]) rfl);have q4:=B5 q1 q3 (Ou (by rw [vA,vA]; lia));have q5:=B5 q4 q2 (Ou (by rw [wB,vA,vA,vA]; lia))
 rw [D9 q5,wI,wI,wR];rfl
theorem Bk.last {B:List Ad} {e:Ad} (h:Bk (B++[e])):Bk B/\(∀ a∈B,key a.p < key e.p)/\(e.b=none\/∃ a∈B,∃ n,n < a.w.length/\e.b=some (a.p,n)):=by
 generalize hC:B++[e]=C at h;cases h with
 | nil=>simp at hC
 | @snoc B1 e1 hB _ hk hb =>
   obtain ⟨e2,e3⟩:=List.append_inj' hC rfl; cases e3; subst e2; exact ⟨hB,hk,hb⟩
theorem Bk.pre {B1:List Ad}:∀ (n:Nat) (B2:List Ad),B2.length=n->Bk (B1++B2)->Bk B1
 | 0,B2,hn,h=>by rw [xN.mp hn,wQ] at h; exact h
 | n+1,B2,hn,h=>by
   have hne:B2≠[]:=fun z=>by rw [z] at hn; cases hn
   obtain ⟨C,e,rfl⟩:∃ C e,B2=C++[e]:=⟨B2.dropLast,B2.getLast hne,(BQ hne).symm⟩; rw [<- wR] at h; exact Bk.pre n C (by simpa using hn) h.last.1
theorem iW (b:uV) {L:List Dp} {B2:List Ad} (h:Adds L B2):∀ (B1:List Ad) (s2 s3:Sl),Bk (B1++B2)->(∀ a∈B1++B2,Ox a.w)->(B1++B2).length<=9->∃ t2 t3,E3 (st1 2) Xh (L.map (·.1)) [.sh b,.sh (.list ((ord B1).map sgA)),s2,s3]=.nx [.sh b,.sh (.list ((ord (B1++B2)).map sgA)),t2,t3]:=by
 induction h with
 | nil=>intro B1 s2 s3 _ _ _; rw [wQ]; exact ⟨s2,s3,rfl⟩
 | @add L B2 a _ ih =>
   intro B1 s2 s3 hB hw hl; have hB':Bk (B1++[a]):=Bk.pre _ B2 rfl (by rw [wR]; exact hB);obtain ⟨k1,k2,k3⟩:=hB'.last; have hlo:(ord B1).length<=100:=by
     have h1:=(Vp k1).length_eq; have h2:=aG (B:=B1) fun c hc=>hw c (vT.mpr (.inl hc));rw [wB] at hl;lia
   obtain ⟨t3,e1⟩:=iV hlo a (hw a (vT.mpr (.inr (.head _)))) (by
     rcases k3 with hb | ⟨c,hc,n,hn,hb⟩
     . exact .inl hb
     . exact .inr ⟨_,hb,(c,n),(V3 k1 (c,n)).mpr ⟨hc,hn⟩,rfl⟩) b s3
   rw [<- Dk] at e1; obtain ⟨u2,u3,e2⟩:=ih (B1++[a]) (.sh a.d) t3 (by rw [wR]; exact hB) (by rw [wR]; exact hw) (by rw [wR]; exact hl);rw [wR] at e2; exact ⟨u2,u3,(N7 rfl e1).trans e2⟩
 | @oth L B2 e k x xs he hk _ ih =>
   intro B1 s2 s3 hB hw hl; obtain ⟨u2,u3,e2⟩:=ih B1 (.sh e.1) s3 hB hw hl; have e3:Xh [.sh b,.sh (.list ((ord B1).map sgA)),.sh e.1,s3]=.nx [.sh b,.sh (.list ((ord B1).map sgA)),.sh e.1,s3]:=by
     unfold Xh; rw [Q9 (by rw [he]; simp_arith [T8,Al,Mi hk])];rfl
   exact ⟨u2,u3,(N7 rfl e3).trans e2⟩
theorem iU {L:List Dp} {B:List Ad} (A:BkA L B) (hl:L.length<=9):P3 [bkD L]=.ok (.list ((ord B).map sgA)):=by
 obtain ⟨t2,t3,e⟩:=iW (bkD L) A.ad [] .un .un A.bk A.wd (by have:=A.len; simp; lia);unfold P3 Af N1;refine P9 ?_;show C3 _ _ [.sh (bkD L),.un,.un,.un]=_;rw [B3 (δ':=[.sh (bkD L),.sh (.list []),.un,.un]) (by rfl)];rw [B3 (δ':=[.sh (bkD L),.sh (.list ((ord B).map sgA)),t2,t3]) (by
   unfold W5 N3; rw [D6 (d:=bkD L) (ds:=L.map (·.1)) rfl rfl,D1]; exact e)]
 rfl
noncomputable def Xi:Dn->Out:=(sIf (N6 (B6 (b2 (b2 (A0 3) (vC (.int 0)) dIx) (vC (.str "drop")) dEq)) (B6 (b2 (b2 (A0 3) (vC (.int 1)) dIx) (A0 1) (dIn false)))) (E7 2 (b2 (A0 2) (vFn (A1 (b2 (A0 3) (vC (.int 2)) dIx) A6) Jl) C6)) F5)
theorem eW {L:List Dp} {un:IdP->Bool} (hu:∀ p,un p=decide (p∈off L)) {e:Dp} (he:e∈L) (h:Kd e) (b:uV) (gs:List (IdP×Nat)) (hl:gs.length<=600):∃ gs':List (IdP×Nat),gs'.length<=gs.length+40/\(∀ s,decide (s∈gs')=(decide (s∈gs)||W3 un e s)) /\
   Xi [.sh b,.sh (.list ((onL L).map idP)),.sh (.list (gs.map sgO)),.sh e.1]=.nx [.sh b,.sh (.list ((onL L).map idP)),.sh (.list (gs'.map sgO)),.sh e.1]:=by
 have no:∀ k x xs,e.1=.tuple (.str k::idP e.2::x::xs)->k ≠ "drop" -> ∃ gs':List (IdP×Nat),gs'.length<=gs.length+40/\(∀ s,decide (s∈gs')=(decide (s∈gs)||W3 un e s))/\Xi [.sh b,.sh (.list ((onL L).map idP)),.sh (.list (gs.map sgO)),.sh e.1]=.nx [.sh b,.sh (.list ((onL L).map idP)),.sh (.list (gs'.map sgO)),.sh e.1]:=fun k x xs e1 hn=>by
   refine ⟨gs,by lia,fun s=>by rw [Rg e1 hn,FG],?_⟩;unfold Xi; rw [Q9 (Fy (by rw [e1]; simp_arith [T8,Al,Mi hn]))];rfl
 cases h with
 | undo q h=>exact no _ _ _ h (by decide)
 | oth k x xs h h1 _=>exact no _ _ _ h h1
 | drop ss h hss =>
   have c1:(B6 (b2 (b2 (A0 3) (vC (.int 0)) dIx) (vC (.str "drop")) dEq)) [.sh b,.sh (.list ((onL L).map idP)),.sh (.list (gs.map sgO)),.sh e.1]=.ok true:=by rw [h]; simp_arith [T8,Al,Qh]
   have c2:(B6 (b2 (b2 (A0 3) (vC (.int 1)) dIx) (A0 1) (dIn false))) [.sh b,.sh (.list ((onL L).map idP)),.sh (.list (gs.map sgO)),.sh e.1]=.ok (!decide (e.2∈off L)):=by
     refine C2 (B5 (x:=idP e.2) (y:=.list ((onL L).map idP)) (by rw [h]; simp_arith [Gk]) (by simp_arith) ?_);rw [Fq,Th he];cases decide (e.2∈off L) <;> rfl
   have hd:∀ s,W3 un e s=(!un e.2&&ss.any fun t=>decide (some t=some s)):=fun s=>by
     unfold W3; rw [h]; show (("drop" : Str) == "drop" && (!un e.2)&&((ss.map sgO).any fun y=>vN y (sgO s)))=_;rw [Qh,IC,DU];congr 1;congr 1;funext t;exact P5 _ _
   unfold Xi;cases c:decide (e.2∈off L) with
   | true =>
     rw [c] at c2; rw [Q9 (Eg c1 c2)]; exact ⟨gs,by lia,fun s=>by rw [hd,hu,c]; simp,rfl⟩
   | false =>
     rw [c] at c2; refine ⟨gs++ss,by simp; lia,fun s=>?_,?_⟩
     . rw [hd,hu,c,zJ]
       simp
     . rw [Ai (Ef c1 c2)]
       have q:=B5 (f:=A0 2) (g:=vFn (A1 (b2 (A0 3) (vC (.int 2)) dIx) A6) Jl) (δ:=[.sh b,.sh (.list ((onL L).map idP)),.sh (.list (gs.map sgO)),.sh e.1]) (x:=.list (gs.map sgO)) (y:=.list (ss.map sgO)) rfl
         (O0 (A5 (B5 (x:=e.1) (y:=.int 2) rfl rfl (by rw [h]; exact cJ _ _ _ _)) rfl) rfl) (Ou (by rw [vA,vA]; lia))
       rw [D9 q,wI]; rfl
theorem Rc {L:List Dp} {un:IdP->Bool} (hu:∀ p,un p=decide (p∈off L)) (b:uV):∀ (M:List Dp),(∀ e∈M,e∈L/\Kd e)->∀ (gs:List (IdP×Nat)) (s3:Sl),gs.length+40*M.length<=600->∃ (gs':List (IdP×Nat)) (t3:Sl),gs'.length<=gs.length+40*M.length/\(∀ s,decide (s∈gs')=(decide (s∈gs)||M.any fun e=>W3 un e s)) /\
   E3 (st1 3) Xi (M.map (·.1)) [.sh b,.sh (.list ((onL L).map idP)),.sh (.list (gs.map sgO)),s3]=.nx [.sh b,.sh (.list ((onL L).map idP)),.sh (.list (gs'.map sgO)),t3]
 | [],_,gs,s3,_=>⟨gs,s3,by simp,fun s=>by simp,rfl⟩
 | e::M,h,gs,s3,hl=>by
   rw [vP] at hl; obtain ⟨g1,l1,m1,e1⟩:=eW hu (h e (.head _)).1 (h e (.head _)).2 b gs (by lia);obtain ⟨g2,t3,l2,m2,e2⟩:=Rc hu b M (fun d hd=>h d (.tail _ hd)) g1 (.sh e.1) (by lia);exact ⟨g2,t3,by rw [vP]; lia,fun s=>by rw [m2,m1,CV,ID],(N7 rfl e1).trans e2⟩
theorem tR (t:Bool) (u:As) (gs:List (IdP×Nat)):dIn t (sgA u) (.list (gs.map sgO))=some (.bool (t != decide (sgn u∈gs))):=by
 show (if _ then _ else _)=_;rw [if_pos (vX (zD _ _) (vX (show (sgA u).depth<=3 from bH (sgn u)) (by decide)))];have:((gs.map sgO).any fun y=>vN y (sgA u))=decide (sgn u∈gs):=by
   rw [DU,zJ,BC,decide_eq_true_iff];constructor
   . rintro ⟨q,hq,e⟩
     have e:vN (sgO q) (sgO (sgn u))=true:=e; rw [P5] at e; rw [<- xH (of_decide_eq_true e)]; exact hq
   . intro h
     exact ⟨sgn u,h,by show vN (sgO (sgn u)) (sgO (sgn u))=true; rw [P5]; simp⟩
 rw [this];cases t <;> cases decide (sgn u∈gs) <;> rfl
theorem Qt {L:List Dp} {B:List Ad} (A:BkA L B) (hk:∀ e∈L,Kd e) (hl:L.length<=9) {ku kd:Kvs} (P:Pq L ku kd):I9 [bkD L]=.ok (.list (((ord B).filter (E2 ku kd)).map sgA)):=by
 have hol:=V4 A;obtain ⟨gs,t3,_,m,e⟩:=Rc (un:=un ku) P.o (bkD L) L (fun e he=>⟨he,hk e he⟩) [] .un (by simp; lia);unfold I9 Ac L8;refine P9 ?_;show C3 _ _ [.sh (bkD L),.un,.un,.un]=_;rw [B3 (δ':=[.sh (bkD L),.sh (.list ((onL L).map idP)),.un,.un]) (D9 (C4 (A5 (d:=bkD L) rfl rfl) (Zi hk hl)))];rw [B3 (δ':=[.sh (bkD L),.sh (.list ((onL L).map idP)),.sh (.list []),.un]) (by rfl)];rw [B3 (δ':=[.sh (bkD L),.sh (.list ((onL L).map idP)),.sh (.list (gs.map sgO)),t3]) (by
   unfold W4 N3; rw [D6 (d:=bkD L) (ds:=L.map (·.1)) rfl rfl,D1]; exact e)]
 have c:=K4 (δc:=[.sh (.list ((onL L).map idP)),.sh (.list (gs.map sgO))]) (tt:=N6 (B6 (b2 (b2 (A0 0) (vC (.int 0)) dIx) (A0 1) (dIn false))) (B6 (b2 (A0 0) (A0 2) (dIn true)))) (el:=A0 0) sgA sgA (E2 ku kd) (ord B) (fun u hu=>by
   have hm:=(V3 A.bk u).mp hu; have h1:(B6 (b2 (b2 (A0 0) (vC (.int 0)) dIx) (A0 1) (dIn false))) ([.sh (sgA u)]++[.sh (.list ((onL L).map idP)),.sh (.list (gs.map sgO))])=.ok (!un ku u.1.p):=by
     refine C2 (B5 (x:=idP u.1.p) (y:=.list ((onL L).map idP)) (by simp_arith [T8]) (by simp_arith) ?_);rw [Fq,Th (A.inL _ hm.1),P.o];cases decide (u.1.p∈off L) <;> rfl
   have h2:(B6 (b2 (A0 0) (A0 2) (dIn true))) ([.sh (sgA u)]++[.sh (.list ((onL L).map idP)),.sh (.list (gs.map sgO))])=.ok (!(has kd (some (sgn u)))):=by
     refine C2 (B5 (x:=sgA u) (y:=.list (gs.map sgO)) (by simp_arith) (by simp_arith) ?_);rw [tR,m,P.P.h,show decide (sgn u∈([]:List (IdP×Nat)))=false from rfl,Bool.false_or];show some (zR (true != L.any fun e=>W3 (un ku) e (sgn u)))=some (zR (!(L.any fun e=>W3 (un ku) e (sgn u))));cases (L.any fun e=>W3 (un ku) e (sgn u)) <;> rfl
   unfold E2;cases hc:un ku u.1.p with
   | true=>rw [hc] at h1; exact Fy h1
   | false =>
     rw [hc] at h1; unfold N6; rw [h1,C1]; exact h2) (fun u _=>by simp_arith)
 exact L0 (I8 (D5 (D6 (d:=.list ((ord B).map sgA)) (C4 (A5 (d:=bkD L) rfl rfl) (iU A hl)) rfl) (by rw [vA]; lia) rfl c))
abbrev adE (a:Ad):uV×uV:=(idP a.p,.str a.w)
theorem fO {L:List Dp} {B:List Ad} (h:Adds L B):C9 C8 [] (B6 (b2 (b2 (A0 0) (vC (.int 0)) dIx) (vC (.str "add")) dEq)) (E5 (A1 (b2 (A0 0) (vC (.int 1)) dIx) (A1 (b2 (A0 0) (vC (.int 3)) dIx) A6))) (L.map (·.1))=.ok (B.map fun a=>.tuple [(adE a).1,(adE a).2]):=by
 induction h with
 | nil=>rfl
 | @add L B a _ ih=>exact uI (by unfold Ad.d; simp_arith [T8,Al,bY]) (by unfold Ad.d; simp_arith [Gk,Xy]) ih
 | @oth L B e k x xs he hk _ ih=>exact uJ (by show B6 _ ([.sh e.1]++[])=_; rw [he]; simp_arith [T8,Al,Mi hk]) ih
theorem Bk.ids {B:List Ad} (h:Bk B):B.Pairwise (fun a b=>vN (adE a).1 (adE b).1=false):=by
 induction h with
 | nil=>exact .nil
 | @snoc B e _ _ hk _ ih =>
   refine zW.mpr ⟨ih,j8 _ _,fun a ha b hb=>?_⟩;rw [vQ.mp hb]; show vN (idP a.p) (idP e.p)=false;rw [Wp,decide_eq_false]; intro z; have:=hk a ha; rw [z] at this;lia
theorem jP {L:List Dp} {B:List Ad} (A:BkA L B) (hl:L.length<=9) {us:List As} (hu:∀ u∈us,u∈ord B) (hul:us.length<=100):M5 [bkD L,.list (us.map sgA)]=.ok (.str (k7 "" (us.map ltr))):=by
 have hj:=Wd (us:=us) (fun u h=>by
   have:=(V3 A.bk u).mp (hu u h); exact ⟨A.wd _ this.1,this.2⟩) hul
 have hp:Cm (B.map fun a=>.tuple [(adE a).1,(adE a).2]) []=some (B.map adE):=Qq adE (fun a=>Bh a.p) B [] A.bk.ids;have hlen:=A.len;unfold M5 Bc Av;refine P9 ?_;show C3 _ _ [.sh (bkD L),.sh (.list (us.map sgA)),.un]=_;have hd:(E4 (D7 (fun δ=>((A0 0) δ).bind D2) C8 [] (B6 (b2 (b2 (A0 0) (vC (.int 0)) dIx) (vC (.str "add")) dEq)) (E5 (A1 (b2 (A0 0) (vC (.int 1)) dIx) (A1 (b2 (A0 0) (vC (.int 3)) dIx) A6))))) [.sh (bkD L),.sh (.list (us.map sgA)),.un]=.ok (.list (B.map fun a=>.tuple [(adE a).1,(adE a).2])) :=
   I8 (D5 (D6 (d:=bkD L) rfl rfl) (by rw [vA]; lia) rfl (fO A.ad))
 rw [B3 (δ':=[.sh (bkD L),.sh (.list (us.map sgA)),oN (B.map adE)]) (by
   unfold X4 Nx; rw [hd,C1]; show K5 (if _ then _ else _) _=_;rw [if_pos (by rw [vA]; lia),hp]; rfl)]
 have c:=K4 (δc:=[oN (B.map adE)]) (tt:=J3) (el:=b2 (Oy 1 (b2 (A0 0) (vC (.int 0)) dIx)) (b2 (A0 0) (vC (.int 1)) dIx) dIx) sgA (fun u=>yE (ltr u)) (fun _=>true) us (fun _ _=>rfl) (fun u h=>by
   have hm:=(V3 A.bk u).mp (hu u h); have hg:N9 (B.map adE) (idP u.1.p)=some (.str u.1.w):=by
     have:=Wl adE (u:=u.1) (by show vN (idP u.1.p) (idP u.1.p)=true; rw [Wp]; simp) (us:=B) (more:=[]) hm.1 A.bk.ids
     rwa [wQ] at this
   refine B5 (x:=.str u.1.w) (y:=.int (u.2:Int)) ?_ (by simp_arith [Gk]) (jN hm.2);unfold Oy; show Res.bind _ (fun kd'=>if nkD kd'=true then ofO (N9 (B.map adE) kd') else Res.no)=_;rw [show (b2 (A0 0) (vC (.int 0)) dIx) ([.sh (sgA u)]++[oN (B.map adE)])=.ok (idP u.1.p) by simp_arith [T8],C1,if_pos (Bh _),hg]; rfl)
 rw [zG.mpr fun _ _=>rfl] at c;refine L0 ?_;unfold Jv;rw [I8 (D5 (D6 (d:=.list (us.map sgA)) rfl rfl) (by rw [vA]; lia) rfl c),C1,hj]; rfl
theorem dI {st:uV->Dn->Option Dn} {body:Dn->Out} {d r:uV} {ds:List uV} {δ δ1:Dn} (h1:st d δ=some δ1) (h2:body δ1=.rt r):E3 st body (d::ds) δ=.rt r:=by
 conv=>lhs; unfold E3
 rw [h1];show (match body δ1 with | .nx δ'=>_ | .ct δ'=>_ | .bk δ'=>_ | o=>_)=_;rw [h2]
theorem kX {c c':Dn->Res Bool} {δ:Dn} (h1:c δ=.ok false) (h2:c' δ=.ok false):cOr c c' δ=.ok false:=by unfold cOr; rw [h1,C1,if_neg (by decide),h2]
def Rf (n:Nat) (d:uV):Prop:=vN d d=true/\d.depth<=n
theorem Rf.all {n:Nat}:∀ {xs:List uV},(∀ x∈xs,Rf n x)->y9 xs xs=true/\xJ xs<=n:=by
 intro xs;induction xs with
 | nil=>intro _; exact ⟨rfl,zL _⟩
 | cons x xs ih =>
   intro h; obtain ⟨i1,i2⟩:=ih fun y hy=>h y (.tail _ hy);obtain ⟨j1,j2⟩:=h x (.head _); rw [y9,xJ,i1,j1]; exact ⟨rfl,by lia⟩
theorem Rf.list {n:Nat} {xs:List uV} (h:∀ x∈xs,Rf n x):Rf (n+1) (.list xs):=by
 obtain ⟨h1,h2⟩:=Rf.all h;exact ⟨h1,by rw [yF]; lia⟩
theorem Rf.tup {n:Nat} {xs:List uV} (h:∀ x∈xs,Rf n x):Rf (n+1) (.tuple xs):=by
 obtain ⟨h1,h2⟩:=Rf.all h;exact ⟨h1,by rw [yF]; lia⟩
theorem Rf.mono {n m:Nat} {d:uV} (h:Rf n d) (k:n<=m):Rf m d:=⟨h.1,vX h.2 k⟩
theorem Rf.ne {n:Nat} {d:uV} (h:Rf n d) (hn:n<=62):dNe d d=some (.bool false):=by
 unfold dNe;rw [if_pos (vX (HE _ _) (vX h.2 (vX hn (by decide)))),h.1]; rfl
theorem Rf.str {n:Nat} (x:Str):Rf n (.str x):=⟨by simp [vN],by simp [yF]⟩
theorem Rf.int {n:Nat} (x:Int):Rf n (.int x):=⟨by simp [vN],by simp [yF]⟩
theorem Rf.none {n:Nat}:Rf n .none:=⟨rfl,by simp [yF]⟩
theorem Rf.nil {n:Nat} {x:uV} (h:x∈([]:List uV)):Rf n x:=nomatch h
theorem Rf.cs {n:Nat} {y:uV} {ys:List uV} (h:Rf n y) (h2:∀ x∈ys,Rf n x):∀ x∈y::ys,Rf n x:=fun x hx=>by
 rcases vF.mp hx with rfl | hx
 . exact h
 . exact h2 x hx
theorem Rf.id (p:IdP):Rf 1 (idP p):=Rf.tup (.cs (.int _) (.cs (.str _) fun _=>.nil))
theorem Rf.sg (p:IdP) (n:Int):Rf 2 (sgD p n):=Rf.tup (.cs (.id p) (.cs (.int _) fun _=>.nil))
theorem Rf.orN {T:Int} {D:List uV} {d:uV} (h:OrN (SgOf T D) d):Rf 2 d:=by
 rcases h with rfl | ⟨p,b,w,n,_,rfl,_⟩
 . exact .none
 . exact .sg p _
theorem Rf.dd {L:List Dp} {e:Dp} (h:WfIn L e):Rf 4 e.1:=by
 obtain ⟨_,h⟩:=(show Wf _ _ _ _ from h);rcases h with ⟨b,w,e1,hb,_⟩ | ⟨sg,e1,hs,_⟩ | ⟨n,s1,x1,s2,x2,e1,h1,h2,_⟩ | ⟨n,e1,_⟩ | ⟨q,e1,_⟩ <;> rw [e1]
 . exact .tup (.cs (.str _) (.cs ((Rf.id _).mono (by decide)) (.cs ((Rf.orN hb).mono (by decide)) (.cs (.str _) fun _=>.nil))))
 . exact .tup (.cs (.str _) (.cs ((Rf.id _).mono (by decide)) (.cs (.tup fun x hx=>Rf.orN (.inr (hs x hx))) fun _=>.nil)))
 . exact .tup (.cs (.str _) (.cs ((Rf.id _).mono (by decide)) (.cs (.str _) (.cs (.tup (.cs (.orN h1) (.cs (.str _) fun _=>.nil))) (.cs (.tup (.cs (.orN h2) (.cs (.str _) fun _=>.nil))) fun _=>.nil)))))
 . exact .tup (.cs (.str _) (.cs ((Rf.id _).mono (by decide)) (.cs (.str _) fun _=>.nil)))
 . exact .tup (.cs (.str _) (.cs ((Rf.id _).mono (by decide)) (.cs ((Rf.id _).mono (by decide)) fun _=>.nil)))
theorem Rf.bk {L:List Dp} (W:BkW L):Rf 5 (bkD L):=Rf.tup fun x hx=>by
 obtain ⟨e,he,rfl⟩:=wF.mp hx;exact .dd (W.1 e he)
theorem BkW.pre {L1:List Dp}:∀ (n:Nat) (L2:List Dp),L2.length=n->BkW (L1++L2)->BkW L1:=by
 intro n;induction n with
 | zero=>intro L2 h W; cases BN h; rw [wQ] at W; exact W
 | succ n ih =>
   intro L2 h W; have hne:L2≠[]:=fun z=>by rw [z] at h; cases h
   rw [<- BQ hne,<- wR] at W; exact ih L2.dropLast (by rw [JR]; lia) W.init
abbrev upT (L:List Dp) (t:Int):List Dp:=L.filter fun e=>decide (e.2.1<=t)
theorem qX (a b:Int):K0 .LtE (.int a) (.int b)=some (.bool (decide (a<=b))):=rfl
theorem qW (a b:Int):K0 .Lt (.int a) (.int b)=some (.bool (decide (a < b))):=rfl
theorem Rz {e:Dp} (h:Kd e) (δ:Dn):(b2 (b2 (A0 0) (vC (.int 1)) dIx) (vC (.int 0)) dIx) ([.sh e.1]++δ)=.ok (.int e.2.1) :=
 B5 (x:=idP e.2) (y:=.int 0) (B5 (x:=e.1) (y:=.int 1) rfl rfl h.tid) rfl (T8 _ _)
theorem aB {L:List Dp} (hk:∀ e∈L,Kd e) (t:Int):C9 C8 [.sh (.int t)] (B6 (b2 (b2 (b2 (A0 0) (vC (.int 1)) dIx) (vC (.int 0)) dIx) (A0 1) (K0 .LtE))) (A0 0) (L.map (·.1))=.ok ((upT L t).map (·.1)) :=
 K4 (fun e:Dp=>e.1) (fun e=>e.1) (fun e=>decide (e.2.1<=t)) L (fun e he=>C2 (B5 (Rz (hk e he) _) rfl (qX _ _))) fun e _=>rfl
theorem lE {L:List Dp} (hk:∀ e∈L,Kd e) (hl:L.length<=9) (t:Int):V5 [bkD L,.int t]=.ok (bkD (upT L t)) :=
 P9 (L0 (O0 (ds:=[.list ((upT L t).map (·.1))]) (A5 (I8 (D5 (δc:=[.sh (.int t)]) (D6 (d:=bkD L) rfl rfl) (by simp; lia) rfl (aB hk t))) rfl) rfl))
theorem qZ {L:List Dp} (hp:L.Pairwise fun a b=>key a.2 < key b.2) (t:Int):∃ R,L=upT L t++R:=by
 induction L with
 | nil=>exact ⟨[],rfl⟩
 | cons e L ih =>
   rw [wP] at hp;by_cases c:e.2.1<=t
   . obtain ⟨R,e1⟩:=ih hp.2
     refine ⟨R,?_⟩; unfold upT; rw [DJ (by simpa using c),xY,<- e1]
   . refine ⟨e::L,?_⟩
     have:upT (e::L) t=[]:=AT.mpr fun x hx=>by
       have hn:t < x.2.1:=by
         rcases vF.mp hx with rfl | hx
         . lia
         . have:=Wc (hp.1 x hx); lia
       simp; lia
     rw [this]; rfl
theorem rB {L:List Dp} {t:Int} (h:∀ e∈L,e.2.1<=t):upT L t=L:=zG.mpr fun e he=>by simpa using h e he
theorem up_W {L:List Dp} (W:BkW L) (t:Int):BkW (upT L t):=by
 obtain ⟨R,e⟩:=qZ W.2 t;rw [e] at W;exact BkW.pre _ R rfl W
theorem rA {L:List Dp} (hl:L.length<=9) (t:Int):(upT L t).length<=9:=vX (xC _ _) hl
noncomputable def txs (L:List Dp) (t:Int):Str:=match U5 [bkD (upT L t)] with
 | .ok (.str x)=>x
 | _ => ""
structure TxA (L:List Dp) (t:Int):Prop where
 p:U5 [bkD (upT L t)]=.ok (.str (txs L t))
 c:chOk 32 126 (txs L t)
 n:(txs L t).length<=36
 l:∃ th,I9 [bkD (upT L t)]=.ok th/\M5 [bkD (upT L t),th]=.ok (.str (txs L t))
theorem Xu {L:List Dp} (W:BkW L) (hl:L.length<=9) (t:Int):TxA L t:=by
 have Wt:=up_W W t;have hk:∀ e∈upT L t,Kd e:=fun e he=>(Wt.1 e he).kd;have hlt:=rA hl t;obtain ⟨B,A⟩:=bka' Wt;obtain ⟨ku,kd,P⟩:=qM hk hlt;have ht:=lU A hlt P.P;have e:txs L t=k7 "" (((ord B).filter (E2 ku kd)).map ltr):=by unfold txs; rw [ht]
 have hol:=V4 A;have hf:=xC (E2 ku kd) (ord B);have hO:∀ u∈(ord B).filter (E2 ku kd),u∈ord B:=fun u hu=>(wW.mp hu).1;obtain ⟨j1,_,j3⟩:=Ed (((ord B).filter (E2 ku kd)).map ltr) fun x hx=>by
   obtain ⟨u,hu,rfl⟩:=wF.mp hx; have:=(V3 A.bk u).mp (hO u hu); exact jO (A.wd _ this.1) this.2
 rw [<- e] at ht j1 j3;refine ⟨ht,j3,by rw [j1,vA]; lia,_,Qt A hk hlt P,?_⟩;rw [e];exact jP A hlt hO (by lia)
theorem Ma {L:List Dp} (W:BkW L) (hl:L.length<=9) (t:Int):P1 [bkD L,.int t]=.ok (.str (txs L t)) :=
 P9 (L0 (C4 (A5 (C4 (A5 rfl (A5 rfl rfl)) (lE (fun e he=>(W.1 e he).kd) hl t)) rfl) (Xu W hl t).p))
theorem Uj {L:List Dp} {s t:Int} (h:∀ e∈L,e.2.1<=s↔e.2.1<=t):txs L s=txs L t:=by
 have:upT L s=upT L t:=List.filter_congr fun e he=>decide_eq_decide.mpr (h e he);unfold txs;rw [this]
theorem pX {W:List uV} {x:uV}:dIx (.list (W++[x])) (.int (-1))=some x:=by
 show atI (W++[x]) (-1)=_;unfold atI ixN;rw [wB,if_neg (by lia),if_pos (by simp; lia)];show (W++[x])[_]? = _;rw [show (-1+((W.length+[x].length:Nat):Int)).toNat=W.length by simp; lia];simp
theorem dL {lo hi:Int} (h:lo < hi):P0 lo hi=.int lo::P0 (lo+1) hi:=by
 unfold P0;obtain ⟨k,hk⟩:∃ k:Nat,(hi - lo).toNat=k+1:=⟨(hi - lo).toNat - 1,by lia⟩;rw [hk,show (hi - (lo+1)).toNat=k by lia,List.range_succ_eq_map,vK,zS];congr 1
 . simp
 . refine z8 fun i _=>?_
   show wN _=wN _;congr 1;simp;lia
theorem hZ {lo hi:Int} (h:hi<=lo):P0 lo hi=[]:=by
 unfold P0;rw [show (hi - lo).toNat=0 by lia]; rfl
theorem Qv:∀ ns:List Int,Ey (ns.map .int)=some ns
 | []=>rfl
 | n::ns=>by show (Ey (ns.map .int)).map (n::·)=_; rw [Qv ns]; rfl
theorem mC (ns:List Int) (h:ns.length < 64):Dt [.list (ns.map .int)]=some (.list ((De (Ak ns)).map .int)):=by
 show (if (ns.map wN).length < 64 then (match Ey (ns.map .int) with | some ns=>some (AE ((De (Ak ns)).map .int)) | none=>_) else none)=_;rw [if_pos (by simpa using h),Qv]
theorem Fv {K:Type} [DecidableEq K] (l:List K):(Ak l).Nodup:=by
 have:∀ (l m:List K),m.Nodup->(l.foldl Cy m).Nodup:=fun l=>by
   induction l with
   | nil=>exact fun m h=>h
   | cons y l ih =>
     intro m h; refine ih _ ?_; unfold Cy;split
     . exact h
     . rename_i hy
       rw [AR]; exact ⟨h,by simp,fun a ha b hb e=>by rw [vQ.mp hb] at e; exact hy (e▸ha)⟩
 exact this l [] List.nodup_nil
noncomputable def tms (L:List Dp):List Int:=De (Ak (0::L.map fun e=>e.2.1))
theorem Bx {L:List Dp} {x:Int}:x∈tms L↔x=0\/∃ e∈L,e.2.1=x:=by
 unfold tms;rw [(Cf _).mem_iff,Ds,vF,wF]
theorem fZ (L:List Dp):(tms L).Pairwise (· < ·):=by
 have h1:=Ux (Ak (0::L.map fun e=>e.2.1));have h2:(tms L).Nodup:=(Cf _).nodup_iff.mpr (Fv _);refine (h1.and h2).imp fun {a b} h=>?_;have:=h.1; have:=h.2; lia
theorem Ul {L:List Dp} (hk:∀ e∈L,Kd e) (hl:L.length<=9):Q7 [bkD L]=.ok (.list ((tms L).map .int)):=by
 refine P9 (L0 (O0 (ds:=[.list ((0::L.map fun e=>e.2.1).map .int)]) (A5 (B5 (x:=.list [.int 0]) (y:=.list (L.map fun e=>.int e.2.1)) rfl (I8 (D5 (δc:=[]) (D6 (d:=bkD L) rfl rfl) (by simp; lia) rfl ?_)) ?_) rfl) ?_))
 . have:=K4 (tt:=J3) (el:=b2 (b2 (A0 0) (vC (.int 1)) dIx) (vC (.int 0)) dIx) (δc:=[]) (fun e:Dp=>e.1) (fun e=>.int e.2.1) (fun _=>true) L (fun _ _=>rfl) fun e he=>Rz (hk e he) _
   rw [zG.mpr (fun _ _=>rfl)] at this;exact this
 . rw [Ou (by simp; lia),vK,zS]; rfl
 . exact mC _ (by simp; lia)
noncomputable def cW:Dn->Res Bool:=(cFz 1 (B6 (b2 (vFn (A1 (A0 1) A6) M4) (A0 2) (K0 .Lt))))
noncomputable def bW:Dn->Out:=(X2 1 (vFz 1 (b2 (A0 1) (b1 (vC (.int 1)) Pv) dIx)))
theorem kU (bk:uV) (W:List uV) (b:Int):cW [.sh bk,.ow (.list W),.sh (.int b)]=.ok (decide ((W.length:Int) < b)) :=
 On rfl (C2 (B5 (x:=.int (W.length:Int)) (y:=.int b) (O0 (A5 rfl rfl) rfl) rfl (qW _ _)))
theorem pad (bk:uV) (y:uV) (hy:Zd y=true):∀ (m fuel:Nat) (W:List uV) (b:Int),m < fuel->(W.length:Int)+1+m=b->W.length+m<=900->V8 cW bW fuel [.sh bk,.ow (.list (W++[y])),.sh (.int b)]=.nx [.sh bk,.ow (.list (W++[y]++vW m y)),.sh (.int b)]
 | _,0,_,_,h,_,_=>by cases h
 | 0,fuel+1,W,b,_,hb,_=>by
   unfold V8; rw [kU,decide_eq_false (by simp; lia),D1,if_neg (by decide)]; simp
 | m+1,fuel+1,W,b,hf,hb,hl=>by
   unfold V8; rw [kU,decide_eq_true (by simp; lia),D1,if_pos rfl];have e:bW [.sh bk,.ow (.list (W++[y])),.sh (.int b)]=.nx [.sh bk,.ow (.list (W++[y]++[y])),.sh (.int b)]:=by
     refine Ap (W:=W++[y]) (d:=y) rfl ?_ (by simp; lia);unfold vFz; have:(b2 (A0 1) (b1 (vC (.int 1)) Pv) dIx) (fz 1 [.sh bk,.ow (.list (W++[y])),.sh (.int b)])=.ok y:=B5 (x:=.list (W++[y])) (y:=.int (-1)) rfl rfl pX; rw [this,C1,if_pos hy]
   rw [e]; show V8 cW bW fuel _=_;rw [pad bk y hy m fuel (W++[y]) b (by lia) (by simp; lia) (by simp; lia),wR (W++[y]),JE,<- zF]
theorem pad0 (bk:uV) (W:List uV) (b:Int) (fuel:Nat) (h:b<=W.length):V8 cW bW (fuel+1) [.sh bk,.ow (.list W),.sh (.int b)]=.nx [.sh bk,.ow (.list W),.sh (.int b)]:=by
 unfold V8;rw [kU,decide_eq_false (by lia),D1,if_neg (by decide)]
noncomputable abbrev TX (L:List Dp) (n:Nat):List uV:=(wS n).map fun (t:Nat)=>yE (txs L (t:Int))
theorem Lu (L:List Dp) (n:Nat):TX L (n+1)=TX L n++[.str (txs L (n:Int))]:=by unfold TX; rw [List.range_succ,wI]; rfl
theorem Gd (L:List Dp) (n:Nat):(TX L n).length=n:=by simp
theorem bZ {L:List Dp} {n:Nat} (x:uV):∀ m,(∀ k,k < m->yE (txs L ((n+k:Nat):Int))=x)->TX L (n+m)=TX L n++vW m x
 | 0,_=>by simp
 | m+1,h=>by
   rw [show n+(m+1)=(n+m)+1 by lia,Lu,bZ x m (fun k hk=>h k (by lia)),h m (by lia),List.replicate_succ',wR]
noncomputable def Zv:Dn->Out:=(C3 (Nk (cFz 1 (B6 (b2 (vFn (A1 (A0 1) A6) M4) (A0 2) (K0 .Lt)))) (X2 1 (vFz 1 (b2 (A0 1) (b1 (vC (.int 1)) Pv) dIx)))) (X2 1 (C0 (A1 (A0 0) (A1 (A0 2) A6)) P1)))
theorem lT {L:List Dp} (W:BkW L) (hl:L.length<=9) {n:Nat} {b:Nat} (hn:n<=b) (hb:b<=20) (hz:n=0->b=0) (hg:∀ e∈L,e.2.1 < n\/(b:Int)<=e.2.1):Zv [.sh (bkD L),.ow (.list (TX L n)),.sh (.int (b:Int))]=.nx [.sh (bkD L),.ow (.list (TX L (b+1))),.sh (.int (b:Int))]:=by
 have e1:Nk cW bW [.sh (bkD L),.ow (.list (TX L n)),.sh (.int (b:Int))]=.nx [.sh (bkD L),.ow (.list (TX L b)),.sh (.int (b:Int))]:=by
   by_cases c:n=b
   . subst c
     exact pad0 _ _ _ 4095 (by rw [Gd]; lia)
   . obtain ⟨n',rfl⟩:∃ n',n=n'+1:=⟨n - 1,by lia⟩
     obtain ⟨m,rfl⟩:∃ m,b=n'+1+m:=⟨b - (n'+1),by lia⟩;have same:∀ k,k < m->yE (txs L ((n'+1+k:Nat):Int))=.str (txs L (n':Int)):=fun k hk=>by
       rw [Uj (s:=((n'+1+k:Nat):Int)) (t:=(n':Int)) fun e he=>by
         rcases hg e he with z | z
         . exact ⟨fun _=>by lia,fun _=>by lia⟩
         . exact ⟨fun _=>by lia,fun _=>by lia⟩]
     rw [bZ _ m same,Lu]; exact pad _ _ rfl m 4096 (TX L n') _ (by lia) (by rw [Gd]; lia) (by rw [Gd]; lia)
 unfold Zv;refine (B3 e1).trans ?_;rw [Lu];exact Ap rfl (C4 (A5 rfl (A5 rfl rfl)) (Ma W hl b)) (by rw [Gd]; lia)
theorem aC {L:List Dp} (W:BkW L) (hl:L.length<=9):∀ (M3:List Int) (n:Nat) (s2:Sl),M3.Pairwise (· < ·)->(∀ x∈M3,(n:Int)<=x/\x<=20)->(∀ e∈L,e.2.1 < n\/e.2.1∈M3)->(n=0->∃ r,M3=0::r)->n<=21->∃ (N:Nat) (t2:Sl),1<=N/\N<=21/\(∀ e∈L,e.2.1 < N)/\(N=n\/(N:Int) - 1∈M3) /\
   E3 (st1 2) Zv (M3.map .int) [.sh (bkD L),.ow (.list (TX L n)),s2]=.nx [.sh (bkD L),.ow (.list (TX L N)),t2]
 | [],n,s2,_,_,hg,hz,hn=>by
   refine ⟨n,s2,?_,hn,fun e he=>(hg e he).elim id (fun h=>nomatch h),.inl rfl,rfl⟩;cases n with
   | zero=>obtain ⟨r,h⟩:=hz rfl; cases h
   | succ n=>lia
 | x::r,n,s2,hp,hx,hg,hz,hn=>by
   rw [wP] at hp; obtain ⟨x1,x2⟩:=hx x (.head _); obtain ⟨b,rfl⟩:∃ b:Nat,x=(b:Int):=⟨x.toNat,by lia⟩;have st:=lT W hl (n:=n) (b:=b) (by lia) (by lia) (fun z=>by obtain ⟨r',h⟩:=hz z; injection h with h; lia) fun e he=>by
     rcases hg e he with z | z
     . exact .inl z
     . rcases vF.mp z with z | z
       . exact .inr (by lia)
       . have:=hp.1 _ z; exact .inr (by lia)
   obtain ⟨N,t2,h1,h2,h3,h5,h4⟩:=aC W hl r (b+1) (.sh (.int (b:Int))) hp.2 (fun y hy=>⟨by have:=hp.1 y hy; lia,(hx y (.tail _ hy)).2⟩) (fun e he=>by
     rcases hg e he with z | z
     . exact .inl (by lia)
     . rcases vF.mp z with z | z
       . exact .inl (by lia)
       . exact .inr z) (fun z=>by cases z) (by lia)
   exact ⟨N,t2,h1,h2,h3,.inr (h5.elim (fun z=>by rw [show (N:Int) - 1=b by lia]; exact .head _) fun z=>.tail _ z),(N7 rfl st).trans h4⟩
theorem gB {L:List Dp} (W:BkW L) (hl:L.length<=9):∃ N:Nat,1<=N/\N<=21/\(∀ e∈L,e.2.1 < N)/\(N:Int) - 1∈tms L/\Aj [bkD L]=.ok (.list (TX L N)):=by
 have ok:∀ e∈L,okI e.2:=fun e he=>(show Wf _ _ _ _ from W.1 e he).1;have h0:(0:Int)∈tms L:=Bx.mpr (.inl rfl);have hge:∀ x∈tms L,0<=x/\x<=20:=fun x hx=>by
   rcases Bx.mp hx with rfl | ⟨e,he,rfl⟩
   . lia
   . have:=ok e he; exact ⟨by have:=this.1; lia,by have:=this.2.1; lia⟩
 have hup:=fZ L;obtain ⟨N,t2,h1,h2,h3,h5,h4⟩:=aC W hl (tms L) 0 .un hup (fun x hx=>by have:=hge x hx; exact ⟨by lia,this.2⟩) (fun e he=>.inr (Bx.mpr (.inr ⟨e,he,rfl⟩))) (fun _=>by
   cases ht:tms L with
   | nil=>rw [ht] at h0; cases h0
   | cons x r =>
     rw [ht] at h0 hup hge; rcases vF.mp h0 with z | z
     . exact ⟨r,by rw [z]⟩
     . have:=(wP.mp hup).1 0 z
       have:=hge x (.head _);lia) (by lia)
 refine ⟨N,h1,h2,h3,h5.elim (fun z=>by lia) id,P9 ?_⟩;show C3 _ _ [.sh (bkD L),.un,.un]=_;refine (B3 (δ':=[.sh (bkD L),.ow (.list (TX L 0)),.un]) rfl).trans ?_;refine (B3 (δ':=[.sh (bkD L),.ow (.list (TX L N)),t2]) ?_).trans rfl;unfold N3;rw [D6 (d:=.list ((tms L).map .int)) (ds:=(tms L).map .int) (C4 (A5 rfl rfl) (Ul (fun e he=>(W.1 e he).kd) hl)) rfl,D1];exact h4
theorem fmax:∀ (l:List Int) (a:Int),a<=l.foldl max a/\(∀ x∈l,x<=l.foldl max a)/\(l.foldl max a=a\/l.foldl max a∈l):=by
 intro l;induction l with
 | nil=>intro a; exact ⟨Int.le_refl _,fun _ h=>(nomatch h),.inl rfl⟩
 | cons x l ih =>
   intro a; obtain ⟨h1,h2,h3⟩:=ih (max a x); rw [AG]; refine ⟨by lia,fun y hy=>?_,?_⟩
   . rcases vF.mp hy with rfl | hy
     . lia
     . exact h2 y hy
   . rcases h3 with z | z
     . by_cases c:a<=x
       . exact .inr (by rw [z,Int.max_eq_right c]; exact .head _)
       . exact .inl (by rw [z,Int.max_eq_left (by lia)])
     . exact .inr (.tail _ z)
theorem Ze:∀ ns:List Int,Jh (ns.map .int)=some ns:=by
 intro ns;induction ns with
 | nil=>rfl
 | cons n ns ih=>show (Jh (ns.map .int)).map (n::·)=_; rw [ih]; rfl
theorem oA {L:List Dp} (hk:∀ e∈L,Kd e) (hl:L.length<=9) {N:Nat} (h1:∀ e∈L,e.2.1 < N) (h2:(N:Int) - 1∈tms L) (h0:1<=N) {δ:Dn} (hb:A0 1 δ=.ok (bkD L)) :
   vFn (A1 (b2 (E4 (A1 (vC (.int 0)) A6)) (E4 (D7 (fun δ=>((A0 1) δ).bind D2) C8 [] J3 (b2 (b2 (A0 0) (vC (.int 1)) dIx) (vC (.int 0)) dIx))) C6) A6) Wx δ=.ok (.int ((N:Int) - 1)):=by
 have hc:=K4 (tt:=J3) (el:=b2 (b2 (A0 0) (vC (.int 1)) dIx) (vC (.int 0)) dIx) (δc:=[]) (fun e:Dp=>e.1) (fun e=>wN e.2.1) (fun _=>true) L (fun _ _=>rfl) fun e he=>Rz (hk e he) _;rw [zG.mpr (fun _ _=>rfl)] at hc;refine O0 (ds:=[.list ((0::L.map fun e=>e.2.1).map .int)]) (A5 (B5 (x:=.list [.int 0]) (y:=.list (L.map fun e=>.int e.2.1)) rfl (I8 (D5 (δc:=[]) (D6 (d:=bkD L) hb rfl) (by simp; lia) rfl hc)) ?_) rfl) ?_
 . rw [Ou (by simp; lia),vK,zS]; rfl
 . obtain ⟨f1,f2,f3⟩:=fmax (L.map fun e=>e.2.1) 0
   have:(L.map fun e=>e.2.1).foldl max 0=(N:Int) - 1:=by
     rcases Bx.mp h2 with z | ⟨e,he,z⟩
     . rcases f3 with q | q
       . lia
       . obtain ⟨e,he,q⟩:=wF.mp q
         have:=h1 e he;lia
     . have g:=f2 _ (wF.mpr ⟨e,he,rfl⟩)
       rcases f3 with q | q
       . lia
       . obtain ⟨e',he',q⟩:=wF.mp q
         have:=h1 e' he';lia
   show ((Jh ((0::L.map fun e=>e.2.1).map .int)).bind sV).map wN=_;rw [Ze]; show some (wN ((L.map fun e=>e.2.1).foldl max 0))=_;rw [this]
noncomputable section
variable {L:List Dp} {B:List Ad} {ku kd:Kvs}
theorem Rv (A:BkA L B) (hl:L.length<=9) (P:Pr L ku kd) (p:Int) (c:Bool) (hc:(decide (0<=p)&&decide (p < (((ord B).filter (E2 ku kd)).length:Int)))=c) :
   Ci (K6 Hy [bkD L,.int p])=if c=true then K1 (b2 (b2 (b2 (A0 2) (A0 1) dIx) (vC (.int 0)) dIx) (vC (.int 0)) dIx) [.sh (bkD L),.sh (.int p),.sh (.list (((ord B).filter (E2 ku kd)).map tl))] else (Hf "NoPlace" (A0 1) [.sh (bkD L),.sh (.int p),.sh (.list (((ord B).filter (E2 ku kd)).map tl))]).seq (K1 (b2 (b2 (b2 (A0 2) (A0 1) dIx) (vC (.int 0)) dIx) (vC (.int 0)) dIx)):=by
 have hv:(Ib (vC (.int 0)) (A0 1) (vFn (A1 (A0 2) A6) M4) (K0 .LtE) (K0 .Lt)) [.sh (bkD L),.sh (.int p),.sh (.list (((ord B).filter (E2 ku kd)).map tl))]=.ok (.bool c):=by
   unfold Ib; show Res.bind (Res.ok (wN 0)) _=_;rw [C1]; show Res.bind (Res.ok (wN p)) _=_;rw [C1,qX,Vr,C1,<- hc];cases h:decide (0<=p) with
   | false=>rfl
   | true =>
     show Res.bind (Res.ok (wN ((((ord B).filter (E2 ku kd)).map tl).length:Int))) _=_;rw [C1,qW,vA]; rfl
 have hn:(pO (B6 (Ib (vC (.int 0)) (A0 1) (vFn (A1 (A0 2) A6) M4) (K0 .LtE) (K0 .Lt)))) [.sh (bkD L),.sh (.int p),.sh (.list (((ord B).filter (E2 ku kd)).map tl))]=.ok (!c):=by
   unfold pO; rw [C2 hv]; rfl
 unfold Ci;refine (B3 (δ':=[.sh (bkD L),.sh (.int p),.sh (.list (((ord B).filter (E2 ku kd)).map tl))]) (D9 ?_)).trans ?_
 . unfold Xs
   rw [A5 (d:=bkD L) (ds:=[]) rfl rfl,C1,Nd A hl P]; rfl
 . cases c with
   | true=>exact O9 hn
   | false=>rw [Ck,Ai hn]; rfl
theorem uP (A:BkA L B) (hl:L.length<=9) (P:Pr L ku kd) {j:Nat} (h:j < ((ord B).filter (E2 ku kd)).length):V9 [bkD L,.int (j:Int)]=.ok (idP ((ord B).filter (E2 ku kd))[j].1.p):=by
 have e:=Rv A hl P (j:Int) true (by rw [decide_eq_true (by lia),decide_eq_true (by lia)]; rfl);rw [if_pos rfl] at e;refine P9 (e.trans (L0 (B5 (x:=sgA ((ord B).filter (E2 ku kd))[j]) (y:=.int 0) (B5 (x:=tl ((ord B).filter (E2 ku kd))[j]) (y:=.int 0) (B5 (x:=.list (((ord B).filter (E2 ku kd)).map tl)) (y:=.int (j:Int)) rfl rfl ?_) rfl (T8 _ _)) rfl (T8 _ _))));have:=K8 (xs:=((ord B).filter (E2 ku kd)).map tl) (j:=j) (by rw [vA]; exact h);rw [List.getElem_map] at this;exact this
theorem dP:∀ n∈wS 41,Ec (.int ((n:Int) - 1))=true:=by decide +kernel
theorem pZ (A:BkA L B) (hl:L.length<=9) (P:Pr L ku kd) {p:Int} (h:p=-1\/p=(((ord B).filter (E2 ku kd)).length:Int)):V9 [bkD L,.int p]=.exc "NoPlace" := by
 have hol:=V4 A;have hf:=xC (E2 ku kd) (ord B);have hp:Ec (.int p)=true:=by
   have:=dP (p+1).toNat (yQ.mpr (by lia))
   rwa [show (((p+1).toNat:Nat):Int) - 1=p by lia] at this
 have e:=Rv A hl P p false (by
   rcases h with z | z
   . rw [decide_eq_false (by lia)]; rfl
   . rw [decide_eq_false (p:=p < _) (by lia),Bool.and_false])
 rw [if_neg (by decide)] at e;have:Hf "NoPlace" (A0 1) [.sh (bkD L),.sh (.int p),.sh (.list (((ord B).filter (E2 ku kd)).map tl))]=.exc "NoPlace" := by
   unfold Hf; show K5 (Res.ok (wN p)) _=_;rw [D1,if_pos (.inr hp)]
 rw [this] at e;unfold V9;rw [Ji,e]; rfl
theorem oB (A:BkA L B) (hl:L.length<=9) (P:Pr L ku kd) {j:Nat} (h:j < ((ord B).filter (E2 ku kd)).length):M1 [bkD L,.int (j:Int)]=.ok (idP ((ord B).filter (E2 ku kd))[j].1.p):=by
 refine P9 ?_;show (match V9 [bkD L,.int (j:Int)] with | .ok d=>Out.rt d | .exc _=>.rt (.bool true) | .no=>.no)=_;rw [uP A hl P h]
theorem Wa (A:BkA L B) (hl:L.length<=9) (P:Pr L ku kd) {p:Int} (h:p=-1\/p=(((ord B).filter (E2 ku kd)).length:Int)):M1 [bkD L,.int p]=.ok (.bool true):=by
 refine P9 ?_;show (match V9 [bkD L,.int p] with | .ok d=>Out.rt d | .exc _=>.rt (.bool true) | .no=>.no)=_;rw [pZ A hl P h]
theorem oO {f:Int->Bool} {t:Int}:∀ {ts:List Int},ts.Pairwise (· < ·)->t∈ts->f t=true->(∀ x∈ts,x < t->f x=false)->ts.find? f=some t:=by
 intro ts;induction ts with
 | nil=>intro _ h; cases h
 | cons x ts ih =>
   intro hp hm h1 h2; rw [wP] at hp; rw [wO]; rcases vF.mp hm with rfl | hm
   . rw [h1]
   . rw [h2 x (.head _) (hp.1 t hm)]
     exact ih hp.2 hm h1 fun y hy=>h2 y (.tail _ hy)
theorem kH {N:Nat} (h0:1<=N) (h1:∀ e∈L,e.2.1 < N/\0<=e.2.1) (f:Int->Bool) (hf:∀ s t:Int,(∀ e∈L,e.2.1<=s↔e.2.1<=t)->f s=f t):(tms L).find? f=((wS N).find? fun t:Nat=>f (t:Int)).map fun t:Nat=>(t:Int):=by
 have hin:∀ x∈tms L,∃ n:Nat,n < N/\x=(n:Int):=fun x hx=>by
   rcases Bx.mp hx with z | ⟨e,he,z⟩
   . exact ⟨0,by lia,z⟩
   . have:=h1 e he
     exact ⟨x.toNat,by lia,by lia⟩
 cases e:(wS N).find? fun t:Nat=>f (t:Int) with
 | none =>
   refine FJ.mpr fun x hx=>?_;obtain ⟨n,hn,rfl⟩:=hin x hx; exact FJ.mp e n (yQ.mpr hn)
 | some t =>
   obtain ⟨g1,g2,g3⟩:=List.find?_range_eq_some.mp e; have g3':∀ j:Nat,j < t->f (j:Int)=false:=fun j hj=>by simpa using g3 j hj
   refine oO (fZ L) ?_ g1 fun x hx hlt=>?_
   . refine Decidable.byContradiction fun hn=>?_
     have ht:t≠0:=fun z=>hn (Bx.mpr (.inl (by rw [z]; rfl)));have hs:=hf ((t - 1:Nat):Int) (t:Int) fun e he=>by
       have:e.2.1≠(t:Int):=fun z=>hn (Bx.mpr (.inr ⟨e,he,z⟩));lia
     rw [g3' (t - 1) (by lia),g1] at hs; cases hs
   . obtain ⟨n,hn,rfl⟩:=hin x hx
     exact g3' n (by lia)
noncomputable def Xj:Dn->Out:=(sIf (B6 (b2 (A0 1) (C0 (A1 (A0 0) (A1 (A0 2) A6)) P1) (dIn false))) (K1 (A0 2)) F5)
noncomputable abbrev Bo (L:List Dp) (w:Str) (t:Int):Bool:=jY w (txs L t)
theorem oJ (W:BkW L) (hl:L.length<=9) (w:Str):∀ (ts:List Int) (s2:Sl),∃ t2,E3 (st1 2) Xj (ts.map .int) [.sh (bkD L),.sh (.str w),s2]=(match ts.find? (Bo L w) with | some t=>.rt (.int t) | none=>.nx [.sh (bkD L),.sh (.str w),t2]):=by
 intro ts;induction ts with
 | nil=>intro s2; exact ⟨s2,rfl⟩
 | cons t ts ih =>
   intro s2; have c:(B6 (b2 (A0 1) (C0 (A1 (A0 0) (A1 (A0 2) A6)) P1) (dIn false))) [.sh (bkD L),.sh (.str w),.sh (.int t)]=.ok (Bo L w t):=C2 (B5 (x:=.str w) (y:=.str (txs L t)) rfl (C4 (A5 rfl (A5 rfl rfl)) (Ma W hl t)) rfl); rw [wO];cases h:Bo L w t with
   | true =>
     rw [h] at c; exact ⟨s2,dI (δ1:=[.sh (bkD L),.sh (.str w),.sh (.int t)]) rfl (by unfold Xj; rw [Ai c]; rfl)⟩
   | false =>
     rw [h] at c; obtain ⟨t2,e⟩:=ih (.sh (.int t)); exact ⟨t2,(N7 (δ1:=[.sh (bkD L),.sh (.str w),.sh (.int t)]) rfl (by unfold Xj; rw [Q9 c]; rfl)).trans e⟩
noncomputable def nL (o:Option Int):uV:=match o with
 | some t=>.int t
 | none=>.none
theorem kG (W:BkW L) (hl:L.length<=9) (w:Str):M9 [bkD L,.str w]=.ok (nL ((tms L).find? (Bo L w))):=by
 obtain ⟨t2,e⟩:=oJ W hl w (tms L) .un;unfold M9 Z9 X6;refine P9 ?_;show C3 _ _ [.sh (bkD L),.sh (.str w),.un]=_;rw [Ck];have:N3 (fun δ=>((C0 (A1 (A0 0) A6) Q7) δ).bind D2) (st1 2) Xj [.sh (bkD L),.sh (.str w),.un]=(match (tms L).find? (Bo L w) with | some t=>.rt (.int t) | none=>.nx [.sh (bkD L),.sh (.str w),t2]):=by
   unfold N3; rw [D6 (d:=.list ((tms L).map .int)) (ds:=(tms L).map .int) (C4 (A5 rfl rfl) (Ul (fun e he=>(W.1 e he).kd) hl)) rfl,D1];exact e
 unfold Xj at this;rw [this];cases (tms L).find? (Bo L w) <;> rfl
end
noncomputable def wdS (e:Dp):Str:=match e.1 with
 | .tuple (.str k::_)=>k
 | _ => ""
theorem Xo {e:Dp} {k:Str} {xs:List uV} (h:e.1=.tuple (.str k::xs)):wdS e=k:=by unfold wdS; rw [h]
theorem Kd.t0 {e:Dp} (h:Kd e):dIx e.1 (.int 0)=some (.str (wdS e)):=by
 obtain ⟨k,x,xs,e1⟩:=h.id;rw [Xo e1,e1]; exact T8 _ _
theorem Lp {c c':Dn->Res Bool} {δ:Dn} {a b:Bool} (h1:c δ=.ok a) (h2:c' δ=.ok b):N6 c c' δ=.ok (a&&b):=by
 unfold N6;rw [h1,C1];cases a with
 | true=>exact h2
 | false=>rfl
noncomputable section
variable {L:List Dp} {B:List Ad} {ku kd:Kvs}
theorem dR:∀ (us:List As) (kvs:Kvs),Ov kvs->∃ out,Cm (us.map fun u=>.tuple [idP u.1.p,.bool true]) kvs=some out/\∀ p,un out p=(un kvs p||us.any fun u=>decide (u.1.p=p)):=by
 intro us;induction us with
 | nil=>intro kvs _; exact ⟨kvs,rfl,fun p=>by simp⟩
 | cons u us ih =>
   intro kvs hk; obtain ⟨g1,g2⟩:=Qm hk u.1.p (.bool true); obtain ⟨out,e,h⟩:=ih _ g1; refine ⟨out,?_,fun p=>?_⟩
   . show (if nkD (idP u.1.p)=true then _ else _)=_
     rw [if_pos (Bh _)]; exact e
   . rw [h,g2,CV,Bool.or_comm (decide _),ID]
noncomputable def Aq (L:List Dp) (T:List As) (e:Dp):Bool:=((wdS e == "add") && !decide (e.2∈off L)) && !(T.any fun u=>decide (u.1.p=e.2))
noncomputable def tx3 (e:Dp):uV:=(dIx e.1 (.int 3)).getD .none
abbrev lsD (e:Dp):uV:=.tuple [idP e.2,tx3 e]
theorem fV (W:BkW L) {e:Dp} (he:e∈L) (h:(wdS e == "add")=true):dIx e.1 (.int 3)=some (tx3 e)/\∃ w,tx3 e=.str w:=by
 rcases (show Wf _ _ _ _ from W.1 e he).shape with ⟨b,w,e1,_⟩ | ⟨k,x,xs,e1,hk⟩
 . have:dIx e.1 (.int 3)=some (.str w):=by rw [e1]; exact Xy _ _ _ _ _
   unfold tx3; rw [this]; exact ⟨rfl,w,rfl⟩
 . rw [Xo e1] at h
   exact absurd (zY h) hk
theorem bB (W:BkW L) {δc:Dn} {tt:Dn->Res Bool} {f:Dp->Bool} {M:List Dp} (hM:∀ e∈M,e∈L/\(wdS e == "add")=true) (ht:∀ e∈M,tt ([.sh e.1]++δc)=.ok (f e)):C9 C8 δc tt (E5 (A1 (b2 (A0 0) (vC (.int 1)) dIx) (A1 (b2 (A0 0) (vC (.int 3)) dIx) A6))) (M.map (·.1))=.ok ((M.filter f).map lsD) :=
 K4 (fun e:Dp=>e.1) lsD f M ht fun e he=>Q1 (A5 (B5 (x:=e.1) (y:=.int 1) rfl rfl (W.1 e (hM e he).1).kd.tid) (A5 (B5 (x:=e.1) (y:=.int 3) rfl rfl (fV W (hM e he).1 (hM e he).2).1) rfl))
theorem We {e:Dp} (h:Kd e) (δ:Dn):(B6 (b2 (b2 (A0 0) (vC (.int 0)) dIx) (vC (.str "add")) dEq)) ([.sh e.1]++δ)=.ok (wdS e == "add"):=C2 (B5 (x:=.str (wdS e)) (y:=.str "add") (B5 (x:=e.1) (y:=.int 0) rfl rfl h.t0) rfl (Al _ _))
theorem nY (A:BkA L B) (W:BkW L) (hl:L.length<=9) (P:Pq L ku kd):Je [bkD L]=.ok (.list ((L.filter (Aq L ((ord B).filter (E2 ku kd)))).map lsD)):=by
 have hk:∀ e∈L,Kd e:=fun e he=>(W.1 e he).kd;have hol:=V4 A;have hf:=xC (E2 ku kd) (ord B);have hsh:=Nd A hl P.P;generalize hT:(ord B).filter (E2 ku kd)=T at hsh hf;obtain ⟨out,e1,e2⟩:=dR T [] (fun _ h=>nomatch h);have c1:=K4 (δc:=[]) (tt:=J3) (el:=E5 (A1 (b2 (b2 (A0 0) (vC (.int 0)) dIx) (vC (.int 0)) dIx) (A1 (vC (.bool true)) A6))) tl (fun u=>zP [idP u.1.p,.bool true]) (fun _=>true) T (fun _ _=>rfl) fun u _=>Q1 (A5 (B5 (x:=sgA u) (y:=.int 0) (B5 (x:=tl u) (y:=.int 0) rfl rfl (T8 _ _)) rfl (T8 _ _)) rfl);rw [zG.mpr fun _ _=>rfl] at c1;have c2:=K4 (δc:=[oN ku]) (tt:=N6 (B6 (b2 (b2 (A0 0) (vC (.int 0)) dIx) (vC (.str "add")) dEq)) (B6 (T0 true 1 (b2 (A0 0) (vC (.int 1)) dIx)))) (el:=A0 0) (fun e:Dp=>e.1) (fun e=>e.1) (fun e=>(wdS e == "add") && !decide (e.2∈off L)) L (fun e he=>Lp (We (hk e he) _) (C2 (by
   rw [Bw (kvs:=ku) (kd:=idP e.2) rfl (B5 (x:=e.1) (y:=.int 1) rfl rfl (hk e he).tid) (Bh e.2),bne_true]; exact congrArg (fun z=>Res.ok (zR (!z))) (P.o e.2)))) fun e _=>rfl
 have c3:=bB W (δc:=[oN out]) (tt:=B6 (T0 true 1 (b2 (A0 0) (vC (.int 1)) dIx))) (f:=fun e => !(T.any fun u=>decide (u.1.p=e.2))) (M:=L.filter fun e=>(wdS e == "add") && !decide (e.2∈off L)) (fun e he=>⟨(wW.mp he).1,by have:=(wW.mp he).2; simp only [vV] at this; exact this.1⟩) fun e he=>C2 (by
   rw [Bw (kvs:=out) (kd:=idP e.2) rfl (B5 (x:=e.1) (y:=.int 1) rfl rfl (hk e (wW.mp he).1).tid) (Bh e.2),bne_true]; exact congrArg (fun z=>Res.ok (zR (!z))) (e2 e.2))
 rw [List.filter_filter] at c3;have hg:(fun e=>(!T.any fun u=>decide (u.1.p=e.2))&&((wdS e == "add") && !decide (e.2∈off L)))=Aq L T:=funext fun e=>Bool.and_comm _ _;rw [hg] at c3;have hlf:=xC (fun e:Dp=>(wdS e == "add") && !decide (e.2∈off L)) L;unfold Je;refine P9 ?_;show C3 _ _ [.sh (bkD L),.un,.un,.un]=_;refine (B3 (δ':=[.sh (bkD L),oN ku,.un,.un]) ?_).trans ?_
 . unfold Ig X4 Gi
   rw [A5 (d:=bkD L) (ds:=[]) rfl rfl,C1,P.P.u]; rfl
 refine (B3 (δ':=[.sh (bkD L),oN ku,oN out,.un]) ?_).trans ?_
 . unfold Ie X4 Nx
   rw [I8 (D5 (δc:=[]) (D6 (d:=.list (T.map tl)) (C4 (A5 (d:=bkD L) rfl rfl) hsh) rfl) (by rw [vA]; lia) rfl c1),C1];show K5 (if _ then _ else _) _=_;rw [if_pos (by rw [vA]; lia),e1]; rfl
 refine (B3 (δ':=[.sh (bkD L),oN ku,oN out,.sh (.list ((L.filter fun e=>(wdS e == "add") && !decide (e.2∈off L)).map (·.1)))]) ?_).trans ?_
 . unfold Ic Ej
   rw [D5 (δc:=[oN ku]) (D6 (d:=bkD L) rfl rfl) (by rw [vA]; lia) rfl c2]; rfl
 exact L0 (I8 (D5 (δc:=[oN out]) (D6 (d:=.list ((L.filter fun e=>(wdS e == "add") && !decide (e.2∈off L)).map (·.1))) rfl rfl) (by rw [vA]; lia) rfl c3))
theorem Rf.ls (W:BkW L) (T:List As):Rf 3 (.list ((L.filter (Aq L T)).map lsD)):=Rf.list fun x hx=>by
 obtain ⟨e,he,rfl⟩:=wF.mp hx;obtain ⟨he,h2⟩:=wW.mp he;unfold Aq at h2;simp only [vV] at h2;obtain ⟨_,w,hw⟩:=fV W he h2.1.1;unfold lsD;rw [hw];exact .tup (.cs (.id _) (.cs (.str _) fun _=>.nil))
end
abbrev kF (g:Str->List uV) (k:Str):uV×uV:=(.str k,.list (g k))
theorem lI (g:Str->List uV) (w:Str) (v:uV):∀ ks:List Str,ks.Nodup->Ep (ks.map (kF g)) (.str w) v=if w∈ks then ks.map (kF fun k=>if k=w then g k++[v] else g k) else ks.map (kF g)++[(.str w,.list [v])]:=by
 intro ks;induction ks with
 | nil=>intro _; rfl
 | cons k ks ih =>
   intro nd; rw [zI] at nd; show (if (k==w)=true then _ else _)=_;by_cases c:k=w
   . subst c
     rw [if_pos (by simp),if_pos (.head _),vK];congr 1
     . show (yE k,AE (g k++[v]))=(.str k,.list (if k=k then _ else _))
       rw [if_pos rfl]
     . refine z8 fun x hx=>?_
       show (yE x,AE (g x))=(.str x,.list (if x=k then _ else _));rw [if_neg (fun z:x=k=>nd.1 (z▸hx))]
   . rw [if_neg (by simpa using c),ih nd.2]
     by_cases h:w∈ks
     . rw [if_pos h,if_pos (.tail _ h),vK]
       congr 1;show _=(yE k,AE (if k=w then _ else _));rw [if_neg c]
     . rw [if_neg h,if_neg (fun z=>(vF.mp z).elim (fun q=>c q.symm) h),vK]; rfl
theorem kC (g:Str->List uV) {w:Str}:∀ {ks:List Str},w∈ks->N9 (ks.map (kF g)) (.str w)=some (.list (g w)):=by
 intro ks;induction ks with
 | nil=>intro h; cases h
 | cons k ks ih =>
   intro h; unfold N9; rw [vK,wO]; show Option.map _ (match (k==w) with | true=>_ | false=>_)=_;by_cases c:k=w
   . subst c; rw [beq_self_eq_true]; rfl
   . rw [beq_eq_false_iff_ne.mpr c]
     exact ih ((vF.mp h).resolve_left fun z=>c z.symm)
noncomputable def vs (l:List (Str×Bool)) (w:Str):List uV:=(l.filter fun p=>p.1==w).map fun p=>.bool p.2
noncomputable def ksW (l:List (Str×Bool)):List Str:=Ak (l.map (·.1))
noncomputable def kv (l:List (Str×Bool)):Kvs:=(ksW l).map (kF (vs l))
theorem qA (l:List (Str×Bool)) (w:Str) (b:Bool):Ep (kv l) (.str w) (.bool b)=kv (l++[(w,b)]):=by
 have hk:ksW (l++[(w,b)])=Cy (ksW l) w:=by unfold ksW Ak; rw [wI,FX]; rfl
 have hv:∀ k,vs (l++[(w,b)]) k=if k=w then vs l k++[.bool b] else vs l k:=fun k=>by
   unfold vs; rw [FK,wI];by_cases c:k=w
   . subst c
     rw [if_pos rfl,DJ (by simp)]; rfl
   . rw [if_neg c,IH (by simpa using fun z=>c z.symm)]; simp
 unfold kv;rw [show Ep ((ksW l).map (kF (vs l))) (.str w) (.bool b)=_ from lI (vs l) w (.bool b) (ksW l) (Fv _),hk];unfold Cy;by_cases c:w∈ksW l
 . rw [if_pos c,if_pos c]
   refine z8 fun k _=>?_;unfold kF; rw [hv]
 . rw [if_neg c,if_neg c,wI]
   have h1:vs l w=[]:=by
     unfold vs; rw [AT.mpr fun p hp z=>c (Ds.mpr (by rw [<- zY z]; exact xV hp))]; rfl
   congr 1
   . refine z8 fun k hk=>?_
     unfold kF; rw [hv,if_neg (fun z:k=w=>c (z▸hk))]
   . show _=[kF _ w]
     unfold kF; rw [hv,if_pos rfl,h1]; rfl
noncomputable section
variable {L:List Dp} {ku kd:Kvs}
noncomputable def hW (L:List Dp) (h:Str) (M:List Dp):List (Str×Bool):=(M.filter fun e=>e.2.2==h).map fun e=>(wdS e,!decide (e.2∈off L))
theorem eV (P:Pq L ku kd) (h:Str):∀ (M:List Dp),(∀ e∈M,Kd e)->∀ l:List (Str×Bool),Hn [.sh (bkD L),.sh (.str h),oN ku,.un,.un] 4 (B6 (b2 (b2 (b2 (A0 4) (vC (.int 1)) dIx) (vC (.int 1)) dIx) (A0 1) dEq)) (b2 (A0 4) (vC (.int 0)) dIx) (T0 true 2 (b2 (A0 4) (vC (.int 1)) dIx)) (M.map (·.1)) (kv l)=.ok (kv (l++hW L h M)):=by
 intro M;induction M with
 | nil=>intro _ l; show Res.ok (kv l)=.ok (kv (l++[])); rw [wQ]
 | cons e M ih =>
   intro hk l; have k0:=hk e (.head _); have c1:(B6 (b2 (b2 (b2 (A0 4) (vC (.int 1)) dIx) (vC (.int 1)) dIx) (A0 1) dEq)) ([Sl.sh (bkD L),.sh (.str h),oN ku,.un,.un].set 4 (.sh e.1))=.ok (e.2.2==h):=C2 (B5 (x:=.str e.2.2) (y:=.str h) (B5 (x:=idP e.2) (y:=.int 1) (B5 (x:=e.1) (y:=.int 1) rfl rfl k0.tid) rfl (Gk _ _ _)) rfl (Al _ _)); rw [vK]; unfold Hn; rw [c1]; have hd:hW L h (e::M)=if (e.2.2==h)=true then (wdS e,!decide (e.2∈off L))::hW L h M else hW L h M:=by
     unfold hW; rw [zC];split <;> rfl
   cases c:(e.2.2==h) with
   | false =>
     rw [hd,c,if_neg (by decide)]; exact ih (fun x hx=>hk x (.tail _ hx)) l
   | true =>
     have c2:(b2 (A0 4) (vC (.int 0)) dIx) ([Sl.sh (bkD L),.sh (.str h),oN ku,.un,.un].set 4 (.sh e.1))=.ok (.str (wdS e)):=B5 (x:=e.1) (y:=.int 0) rfl rfl k0.t0; have c3:(T0 true 2 (b2 (A0 4) (vC (.int 1)) dIx)) ([Sl.sh (bkD L),.sh (.str h),oN ku,.un,.un].set 4 (.sh e.1))=.ok (.bool (!decide (e.2∈off L))):=by
       rw [Bw (kvs:=ku) (kd:=idP e.2) rfl (B5 (x:=e.1) (y:=.int 1) rfl rfl k0.tid) (Bh e.2),bne_true]; exact congrArg (fun z=>Res.ok (zR (!z))) (P.o e.2)
     dsimp only; rw [c2,c3]; show Hn _ _ _ _ _ _ (Ep (kv l) (.str (wdS e)) _)=_;rw [qA,ih (fun x hx=>hk x (.tail _ hx)),hd,c,if_pos rfl,wR]; rfl
abbrev En:List Str:=["add", "drop", "mark", "undo", "unmark"]
theorem oM:En.Pairwise leX:=by
 have:(En.zip En.tail).all (fun p => !ltS p.2 p.1)=true:=by decide +kernel
 refine Iq _ _ ?_;decide +kernel
theorem lM (W:BkW L) {e:Dp} (he:e∈L):wdS e∈En:=by
 obtain ⟨_,h⟩:=(show Wf _ _ _ _ from W.1 e he);rcases h with ⟨b,w,e1,_⟩ | ⟨sg,e1,_⟩ | ⟨n,s1,x1,s2,x2,e1,_⟩ | ⟨n,e1,_⟩ | ⟨q,e1,_⟩ <;> rw [Xo e1] <;> simp
noncomputable def dw (L:List Dp) (h w:Str):List Dp:=L.filter fun e=>(wdS e==w)&&(e.2.2==h)
abbrev dJ (L:List Dp) (h w:Str):uV:=.tuple [.str w,.int ((dw L h w).length:Int),.int ((dw L h w).countP (fun e => !decide (e.2∈off L)):Int)]
noncomputable def byL (L:List Dp) (h:Str):List uV:=(En.filter fun w => !(dw L h w).isEmpty).map (dJ L h)
theorem vs_dw (L:List Dp) (h w:Str):vs (hW L h L) w=(dw L h w).map fun e=>.bool (!decide (e.2∈off L)):=by
 unfold vs hW dw;rw [List.filter_map,zS,List.filter_filter]; rfl
theorem oS {α:Type} (l:List α):(!l.isEmpty)=true↔∃ x,x∈l:=by
 cases l with
 | nil=>simp
 | cons x l=>exact ⟨fun _=>⟨x,.head _⟩,fun _=>rfl⟩
theorem Yx (L:List Dp) (h w:Str):w∈ksW (hW L h L)↔(!(dw L h w).isEmpty)=true:=by
 unfold ksW;rw [Ds,oS];unfold hW dw;simp only [zS,wF,wW,vV,beq_iff_eq,Function.comp];constructor
 . rintro ⟨e,⟨h1,h2⟩,h3⟩; exact ⟨e,h1,h3,h2⟩
 . rintro ⟨e,h1,h3,h2⟩; exact ⟨e,⟨h1,h2⟩,h3⟩
theorem bD (W:BkW L) (h:Str):Ao (ksW (hW L h L))=En.filter fun w => !(dw L h w).isEmpty:=by
 refine Hk ((O1 _).trans ((List.perm_ext_iff_of_nodup (Fv _) (GN _ (show En.Nodup by decide +kernel))).mpr fun w=>?_)) (Mx _) (oM.filter _);rw [wW];refine ⟨fun z=>⟨?_,(Yx L h w).mp z⟩,fun z=>(Yx L h w).mpr z.2⟩;have z:=Ds.mp z;obtain ⟨p,hp,rfl⟩:=wF.mp z;obtain ⟨e,he,rfl⟩:=wF.mp hp;exact lM W (wW.mp he).1
theorem Um:∀ ss:List Str,O6 (ss.map .str)=some ss:=by
 intro ss;induction ss with
 | nil=>rfl
 | cons n ns ih=>show (O6 (ns.map .str)).map (n::·)=_; rw [ih]; rfl
theorem bG:∀ w∈En,(wJ w&&decide (w.length<=1000))=true:=by decide +kernel
theorem Zt (W:BkW L) (hl:L.length<=9) (P:Pq L ku kd) (h:Str):U7 [bkD L,.str h]=.ok (.list (byL L h)):=by
 have hk:∀ e∈L,Kd e:=fun e he=>(W.1 e he).kd;have hg:=eV P h L hk [];have hks:ksW (hW L h L)=ksW (hW L h L):=rfl;have hs:Rx 3 [.sh (bkD L),.sh (.str h),oN ku,oN (kv (hW L h L)),.un]=.ok (.list ((En.filter fun w => !(dw L h w).isEmpty).map .str)):=by
   show (match O6 ((kv (hW L h L)).map (·.1)) with | some ss=>(if _ then _ else _) | none=>_)=_;have:(kv (hW L h L)).map (·.1)=(ksW (hW L h L)).map .str:=by unfold kv; rw [zS]; rfl
   rw [this,Um]; have hp:=O1 (ksW (hW L h L)); rw [bD W h] at hp; have hle:=xC (fun w => !(dw L h w).isEmpty) En;show (if (ksW (hW L h L)).length < 64/\((ksW (hW L h L)).all fun x=>wJ x&&decide (x.length<=1000))=true then _ else _)=_;rw [if_pos ⟨by rw [<- hp.length_eq]; exact AJ hle (by decide),k6.mpr fun w hw=>bG w (wW.mp (hp.mem_iff.mpr hw)).1⟩,bD W h]
 have c:=K4 (δc:=[oN (kv (hW L h L))]) (tt:=J3) (el:=E5 (A1 (A0 0) (A1 (vFn (A1 (Oy 1 (A0 0)) A6) M4) (A1 (Lg (Oy 1 (A0 0)) (vC (.bool true))) A6)))) yE (dJ L h) (fun _=>true) (En.filter fun w => !(dw L h w).isEmpty) (fun _ _=>rfl) fun w hw=>by
   have hm:=(Yx L h w).mpr (wW.mp hw).2; have hi:(Oy 1 (A0 0)) ([.sh (.str w)]++[oN (kv (hW L h L))])=.ok (.list ((dw L h w).map fun e=>.bool (!decide (e.2∈off L)))):=by
     show Res.bind (Res.ok (yE w)) (fun kd'=>if nkD kd'=true then ofO (N9 (kv (hW L h L)) kd') else Res.no)=_;rw [C1,if_pos (show nkD (.str w)=true from by
       have:=bG w (wW.mp hw).1;first
         | rfl
         | (simp [nkD,El,isK]; simpa using this)),show N9 (kv (hW L h L)) (.str w)=_ from kC _ hm,vs_dw]; rfl
   refine Q1 (A5 rfl (A5 (O0 (A5 hi rfl) (show some (wN ((JQ _ _).length:Int))=_ from by rw [vA])) (A5 ?_ rfl)));unfold Lg; rw [hi,C1]; show Res.bind (Res.ok (zR true)) _=_;rw [C1,if_pos (by decide),List.countP_map]; have:((fun y=>vN y (.bool true))∘fun e:Dp=>zR (!decide (e.2∈off L)))=fun e:Dp => !decide (e.2∈off L):=funext fun e=>by
     show ((!decide (e.2∈off L))==true)=_;cases (!decide (e.2∈off L)) <;> rfl
   rw [this]
 rw [zG.mpr fun _ _=>rfl] at c;unfold U7;refine P9 ?_;show C3 _ _ [.sh (bkD L),.sh (.str h),.un,.un,.un]=_;refine (B3 (δ':=[.sh (bkD L),.sh (.str h),oN ku,.un,.un]) ?_).trans ?_
 . unfold Cb X4 Gi
   rw [A5 (d:=bkD L) (ds:=[]) rfl rfl,C1,P.P.u]; rfl
 refine (B3 (δ':=[.sh (bkD L),.sh (.str h),oN ku,oN [],.un]) rfl).trans ?_;refine (B3 (δ':=[.sh (bkD L),.sh (.str h),oN ku,oN (kv (hW L h L)),.un]) ?_).trans ?_
 . unfold Ca dG
   show K5 (Res.bind (Res.ok (bkD L)) D2) _=_;rw [C1]; show K5 (Res.ok (L.map (·.1))) _=_;rw [D1,if_pos ⟨by rw [vA]; lia,by decide⟩];have hg':Hn ((([Sl.sh (bkD L),.sh (.str h),oN ku,oN [],.un].set 3 .un)).set 4 .un) 4 (B6 (b2 (b2 (b2 (A0 4) (vC (.int 1)) dIx) (vC (.int 1)) dIx) (A0 1) dEq)) (b2 (A0 4) (vC (.int 0)) dIx) (T0 true 2 (b2 (A0 4) (vC (.int 1)) dIx)) (L.map (·.1)) []=_:=hg; rw [hg']; rfl
 have hle:=xC (fun w => !(dw L h w).isEmpty) En;exact L0 (I8 (D5 (δc:=[oN (kv (hW L h L))]) (D6 (d:=.list ((En.filter fun w => !(dw L h w).isEmpty).map .str)) hs rfl) (by rw [vA]; exact vX hle (by decide)) rfl c))
noncomputable def kZ:Dn->Out:=(C3 (Ej 5 (D7 (fun δ=>((A0 0) δ).bind D2) C8 [4,1] (N6 (B6 (b2 (b2 (A0 0) (vC (.int 0)) dIx) (A0 1) dEq)) (B6 (b2 (b2 (b2 (A0 0) (vC (.int 1)) dIx) (vC (.int 1)) dIx) (A0 2) dEq))) (b2 (A0 0) (vC (.int 1)) dIx))) (sIf (B6 (b2 (A0 5) (E4 A6) dNe)) (X2 3 (E5 (A1 (A0 4) (A1 (vFn (A1 (A0 5) A6) M4) (A1 (vFn (A1 (E4 (D7 (fun δ=>((A0 5) δ).bind D2) C8 [2] (B6 (b2 (A0 0) (A0 1) (dIn false))) (A0 0))) A6) M4) A6))))) F5))
theorem pP (W:BkW L) (hl:L.length<=9) (h w:Str) (F:List uV) (hF:F.length<=900) (s5:Sl):∃ t5,kZ [.sh (bkD L),.sh (.str h),.sh (.list ((onL L).map idP)),.ow (.list F),.sh (.str w),s5]=.nx [.sh (bkD L),.sh (.str h),.sh (.list ((onL L).map idP)),.ow (.list (F++if (!(dw L h w).isEmpty)=true then [dJ L h w] else [])),.sh (.str w),t5]:=by
 have hk:∀ e∈L,Kd e:=fun e he=>(W.1 e he).kd;have hd:=xC (fun e:Dp=>(wdS e==w)&&(e.2.2==h)) L;have c1:=K4 (δc:=[.sh (.str w),.sh (.str h)]) (tt:=N6 (B6 (b2 (b2 (A0 0) (vC (.int 0)) dIx) (A0 1) dEq)) (B6 (b2 (b2 (b2 (A0 0) (vC (.int 1)) dIx) (vC (.int 1)) dIx) (A0 2) dEq))) (el:=b2 (A0 0) (vC (.int 1)) dIx) (fun e:Dp=>e.1) (fun e=>idP e.2) (fun e=>(wdS e==w)&&(e.2.2==h)) L (fun e he=>Lp (C2 (B5 (x:=.str (wdS e)) (y:=.str w) (B5 (x:=e.1) (y:=.int 0) rfl rfl (hk e he).t0) rfl (Al _ _))) (C2 (B5 (x:=.str e.2.2) (y:=.str h) (B5 (x:=idP e.2) (y:=.int 1) (B5 (x:=e.1) (y:=.int 1) rfl rfl (hk e he).tid) rfl (Gk _ _ _)) rfl (Al _ _)))) fun e he=>B5 (x:=e.1) (y:=.int 1) rfl rfl (hk e he).tid
 have c1:C9 C8 [.sh (.str w),.sh (.str h)] _ _ (L.map (·.1))=.ok ((dw L h w).map fun e=>idP e.2):=c1;have hm:∀ e∈dw L h w,e∈L:=fun e he=>(wW.mp he).1;replace hd:(dw L h w).length<=L.length:=hd;unfold dJ;generalize dw L h w=D at c1 hm hd ⊢;have c2:=K4 (δc:=[.sh (.list ((onL L).map idP))]) (tt:=B6 (b2 (A0 0) (A0 1) (dIn false))) (el:=A0 0) (fun e:Dp=>idP e.2) (fun e=>idP e.2) (fun e => !decide (e.2∈off L)) D (fun e he=>C2 (B5 (x:=idP e.2) (y:=.list ((onL L).map idP)) rfl rfl (by
   rw [Fq,Th (hm e he)];cases decide (e.2∈off L) <;> rfl))) fun e _=>rfl
 refine ⟨.sh (.list (D.map fun e=>idP e.2)),?_⟩;unfold kZ;refine (B3 (δ':=[.sh (bkD L),.sh (.str h),.sh (.list ((onL L).map idP)),.ow (.list F),.sh (.str w),.sh (.list (D.map fun e=>idP e.2))]) ?_).trans ?_
 . unfold Ej
   rw [D5 (δc:=[.sh (.str w),.sh (.str h)]) (D6 (d:=bkD L) rfl rfl) (by rw [vA]; lia) rfl c1]; rfl
 have c0:(B6 (b2 (A0 5) (E4 A6) dNe)) [.sh (bkD L),.sh (.str h),.sh (.list ((onL L).map idP)),.ow (.list F),.sh (.str w),.sh (.list (D.map fun e=>idP e.2))]=.ok (!D.isEmpty):=C2 (B5 (x:=.list (D.map fun e=>idP e.2)) (y:=.list []) rfl rfl (by rw [uH]; cases D <;> rfl))
 cases hz:D.isEmpty with
 | true =>
   rw [hz] at c0; rw [Q9 c0,if_neg (by decide),wQ]; rfl
 | false =>
   rw [hz] at c0; rw [Ai c0,if_pos (show (!false)=true from rfl)]; refine Ap rfl (Q1 (A5 rfl (A5 (O0 (A5 rfl rfl) (show some (wN ((JQ _ _).length:Int))=_ from by rw [vA])) (A5 (O0 (A5 (I8 (D5 (δc:=[.sh (.list ((onL L).map idP))]) (D6 (d:=.list (D.map fun e=>idP e.2)) rfl rfl) (by rw [vA]; lia) rfl c2)) rfl) (show some (wN ((JQ _ _).length:Int))=_ from by rw [vA,List.countP_eq_length_filter])) rfl)))) (by lia)
theorem pQ (W:BkW L) (hl:L.length<=9) (h:Str):∀ (ws:List Str) (F:List uV) (s4 s5:Sl),F.length+ws.length<=900->∃ t4 t5,E3 (st1 4) kZ (ws.map .str) [.sh (bkD L),.sh (.str h),.sh (.list ((onL L).map idP)),.ow (.list F),s4,s5]=.nx [.sh (bkD L),.sh (.str h),.sh (.list ((onL L).map idP)),.ow (.list (F++(ws.filter fun w => !(dw L h w).isEmpty).map (dJ L h))),t4,t5]:=by
 intro ws;induction ws with
 | nil=>intro F s4 s5 _; exact ⟨s4,s5,by show Out.nx _=Out.nx [_,_,_,.ow (.list (F++[])),_,_]; rw [wQ]⟩
 | cons w ws ih =>
   intro F s4 s5 hF; rw [vP] at hF; obtain ⟨t5,e⟩:=pP W hl h w F (by lia) s5;obtain ⟨u4,u5,e'⟩:=ih (F++if (!(dw L h w).isEmpty)=true then [dJ L h w] else []) (.sh (.str w)) t5 (by rw [wB]; split <;> simp <;> lia)
   refine ⟨u4,u5,(N7 rfl e).trans (e'.trans ?_)⟩; rw [zC,wR];split <;> rfl
theorem sZ (W:BkW L) (hl:L.length<=9) (h:Str):U8 [bkD L,.str h]=.ok (.list (byL L h)):=by
 obtain ⟨t4,t5,e⟩:=pQ W hl h En [] .un .un (by decide);unfold U8;refine P9 ?_;show C3 _ _ [.sh (bkD L),.sh (.str h),.un,.un,.un,.un]=_;refine (B3 (D9 (C4 (A5 (d:=bkD L) rfl rfl) (Zi (fun e he=>(W.1 e he).kd) hl)))).trans ?_;refine (B3 (δ':=[.sh (bkD L),.sh (.str h),.sh (.list ((onL L).map idP)),.ow (.list []),.un,.un]) rfl).trans ?_;refine (B3 (δ':=[.sh (bkD L),.sh (.str h),.sh (.list ((onL L).map idP)),.ow (.list ([]++byL L h)),t4,t5]) ?_).trans rfl;unfold Cc N3;rw [D6 (d:=.list (En.map .str)) (ds:=En.map .str) rfl rfl,D1];exact e
theorem Rf.byL (L:List Dp) (h:Str):Rf 2 (.list (Sm.byL L h)):=Rf.list fun x hx=>by
 obtain ⟨e,he,rfl⟩:=wF.mp hx;exact .tup (.cs (.str _) (.cs (.int _) (.cs (.int _) fun _=>.nil)))
end
theorem jB {x:Str} (h:∀ c∈x.cps.toList,c<=126) (hl:x.length<=1000):okS x=true:=by
 unfold okS wJ;rw [decide_eq_true (vX hl Jx),Bool.and_true,Array.all_eq_true'];intro c hc;have:=h c (by simpa using hc);exact decide_eq_true (by lia)
theorem pJ {z:Str} (c:chOk 32 126 z) (n:z.length<=36) (lo hi:Option Int):okS (Kx z lo hi)=true:=by
 unfold Kx;split
 . exact jB (fun x hx=>(c x hx).2) (by lia)
 . refine jB (fun x hx=>?_) ?_
   . have hx:x∈(xX lo hi 1 z.length).filterMap (z.cps[·]?):=by simpa using hx
     obtain ⟨i,_,hi⟩:=CC.mp hx; exact (c x (by rw [<- i5] at hi; exact yR hi)).2
   . rw [Yf]
     have h1:=PyProof.Rows.indices_len_le lo hi z.length; have h2:=List.length_filterMap_le (z.cps[·]?) (xX lo hi 1 z.length); show (FT _).toList.length<=_;simp only [List.toList_toArray];lia
abbrev dl (v0 v1 v2 v3 v4 v5 v6 v7 v8 v9 v10 v11 v12 v13:Sl):Dn:=[v0,v1,v2,v3,v4,v5,v6,v7,v8,v9,v10,v11,v12,v13]
noncomputable section
variable {L:List Dp} {kd:Kvs} {v0 v2 v3 v5 v6 v7 v8 v9 v10 v11 v12 v13:Sl}
noncomputable def lA:Dn->Out:=(C3 (E7 12 (vFn (A1 (E4 (D7 (fun δ=>((A0 1) δ).bind D2) C8 [5] (B6 (b2 (b2 (b2 (A0 0) (vC (.int 1)) dIx) (vC (.int 0)) dIx) (A0 1) (K0 .LtE))) (A0 0))) A6) Bu)) (C3 (X2 4 (C0 (A1 (A0 12) (A1 (C0 (A1 (A0 12) A6) I9) A6)) M5)) (sIf (B6 (b2 (C0 (A1 (A0 1) (A1 (A0 5) A6)) V5) (A0 12) dNe)) (K1 (vC (.bool false))) F5)))
theorem step4 (W:BkW L) (hl:L.length<=9) {t:Nat} (ht:t<=900):lA (dl v0 (.sh (bkD L)) v2 v3 (.ow (.list (TX L t))) (.sh (.int (t:Int))) v6 v7 v8 v9 v10 v11 v12 v13)=.nx (dl v0 (.sh (bkD L)) v2 v3 (.ow (.list (TX L (t+1)))) (.sh (.int (t:Int))) v6 v7 v8 v9 v10 v11 (.sh (bkD (upT L (t:Int)))) v13):=by
 have hk:∀ e∈L,Kd e:=fun e he=>(W.1 e he).kd;obtain ⟨th,l1,l2⟩:=(Xu W hl (t:Int)).l;unfold lA;refine (B3 (δ':=dl v0 (.sh (bkD L)) v2 v3 (.ow (.list (TX L t))) (.sh (.int (t:Int))) v6 v7 v8 v9 v10 v11 (.sh (bkD (upT L (t:Int)))) v13) (D9 (O0 (ds:=[.list ((upT L (t:Int)).map (·.1))]) (A5 (I8 (D5 (δc:=[.sh (.int (t:Int))]) (D6 (d:=bkD L) rfl rfl) (by rw [vA]; lia) rfl (aB hk (t:Int)))) rfl) rfl))).trans ?_;refine (B3 (δ':=dl v0 (.sh (bkD L)) v2 v3 (.ow (.list (TX L (t+1)))) (.sh (.int (t:Int))) v6 v7 v8 v9 v10 v11 (.sh (bkD (upT L (t:Int)))) v13) ?_).trans ?_
 . rw [Lu]
   exact Ap rfl (C4 (A5 (d:=bkD (upT L (t:Int))) rfl (A5 (C4 (A5 (d:=bkD (upT L (t:Int))) rfl rfl) l1) rfl)) l2) (by rw [Gd]; lia)
 . exact (Q9 (C2 (B5 (C4 (A5 (d:=bkD L) rfl (A5 (d:=.int (t:Int)) rfl rfl)) (lE hk hl (t:Int))) (y:=bkD (upT L (t:Int))) rfl ((Rf.bk (up_W W (t:Int))).ne (by decide))))).trans rfl
theorem loop4 (W:BkW L) (hl:L.length<=9) {N:Nat} (hN:N<=21):∀ (m t:Nat),t+m=N->∀ v5 v12:Sl,∃ t5 t12,E3 (st1 5) lA (P0 (t:Int) (N:Int)) (dl v0 (.sh (bkD L)) v2 v3 (.ow (.list (TX L t))) v5 v6 v7 v8 v9 v10 v11 v12 v13)=.nx (dl v0 (.sh (bkD L)) v2 v3 (.ow (.list (TX L N))) t5 v6 v7 v8 v9 v10 v11 t12 v13):=by
 intro m;induction m with
 | zero =>
   intro t h v5 v12; have:t=N:=by lia
   subst this; exact ⟨v5,v12,by rw [hZ (by lia)]; rfl⟩
 | succ m ih =>
   intro t h v5 v12; have e:=step4 (v0:=v0) (v2:=v2) (v3:=v3) (v6:=v6) (v7:=v7) (v8:=v8) (v9:=v9) (v10:=v10) (v11:=v11) (v12:=v12) (v13:=v13) W hl (show t<=900 by lia);obtain ⟨t5,t12,e'⟩:=ih (t+1) (by lia) (.sh (.int (t:Int))) (.sh (bkD (upT L (t:Int))));rw [show ((t+1:Nat):Int)=(t:Int)+1 by lia] at e';exact ⟨t5,t12,by rw [dL (by lia)]; exact (N7 rfl e).trans e'⟩
noncomputable def Zw:Dn->Out:=(C3 (Ej 13 (D7 (fun δ=>((A1 (b2 (A0 3) (vC (.int 1)) C6) A6) δ).bind Bg) C8 [8,4] (B6 (b2 (A0 1) (b2 (A0 2) (A0 0) dIx) (dIn false))) (A0 0))) (sIf (B6 (b2 (C0 (A1 (A0 1) (A1 (A0 8) A6)) M9) (b2 (b2 (A0 13) (E4 (A1 (vC .none) A6)) C6) (vC (.int 0)) dIx) dNe)) (K1 (vC (.bool false))) F5))
theorem Rf.opt (o:Option Int):Rf 1 (nL o):=by
 cases o with
 | none=>exact .none
 | some t=>exact .int t
theorem rL (W:BkW L) (hl:L.length<=9) {N:Nat} (h0:1<=N) (hN:N<=21) (h1:∀ e∈L,e.2.1 < N) (w:Str):∃ t13,Zw (dl v0 (.sh (bkD L)) v2 (.sh (.int ((N:Int) - 1))) (.sh (.list (TX L N))) v5 v6 v7 (.sh (.str w)) v9 v10 v11 v12 v13)=.nx (dl v0 (.sh (bkD L)) v2 (.sh (.int ((N:Int) - 1))) (.sh (.list (TX L N))) v5 v6 v7 (.sh (.str w)) v9 v10 v11 v12 t13):=by
 have ok:∀ e∈L,okI e.2:=fun e he=>(show Wf _ _ _ _ from W.1 e he).1;have c:=K4 (δc:=[.sh (.str w),.sh (.list (TX L N))]) (tt:=B6 (b2 (A0 1) (b2 (A0 2) (A0 0) dIx) (dIn false))) (el:=A0 0) (fun t:Nat=>wN (0+(t:Int))) (fun t=>.int (0+(t:Int))) (fun t=>Bo L w (t:Int)) (wS N) (fun t ht=>C2 (B5 (x:=.str w) (y:=.str (txs L (t:Int))) rfl (B5 (x:=.list (TX L N)) (y:=.int (0+(t:Int))) rfl rfl (by
   have hlt:=yQ.mp ht; rw [GE]; refine (K8 (xs:=TX L N) (j:=t) (by rw [Gd]; exact hlt)).trans ?_;simp)) rfl)) fun _ _=>rfl
 have hf:=kH h0 (fun e he=>⟨h1 e he,by have:=(ok e he).1; lia⟩) (Bo L w) fun s t h=>by unfold Bo; rw [Uj h]
 have hlen:=xC (fun t:Nat=>Bo L w (t:Int)) (wS N);rw [CO] at hlen;have hh:=List.head?_filter (p:=fun t:Nat=>Bo L w (t:Int)) (l:=wS N);generalize hF:(wS N).filter (fun t:Nat=>Bo L w (t:Int))=F at c hlen hh;rw [<- hh] at hf;have hd:dIx (.list (F.map (fun t:Nat=>wN (0+(t:Int)))++[.none])) (.int 0)=some (nL ((tms L).find? (Bo L w))):=by
   rw [hf]; refine (K8 (xs:=F.map (fun t:Nat=>wN (0+(t:Int)))++[.none]) (j:=0) (by simp)).trans ?_;cases F with
   | nil=>rfl
   | cons x F=>simp [nL]
 refine ⟨.sh (.list (F.map fun t:Nat=>wN (0+(t:Int)))),?_⟩;unfold Zw;refine (B3 (δ':=dl v0 (.sh (bkD L)) v2 (.sh (.int ((N:Int) - 1))) (.sh (.list (TX L N))) v5 v6 v7 (.sh (.str w)) v9 v10 v11 v12 (.sh (.list (F.map fun t:Nat=>wN (0+(t:Int)))))) ?_).trans ?_
 . have hr:P0 0 (N:Int)=(wS N).map fun t:Nat=>wN (0+(t:Int)):=by unfold P0; rw [JJ,i9]
   have hs:=Eb (fs:=A1 (b2 (A0 3) (vC (.int 1)) C6) A6) (δ:=dl v0 (.sh (bkD L)) v2 (.sh (.int ((N:Int) - 1))) (.sh (.list (TX L N))) v5 v6 v7 (.sh (.str w)) v9 v10 v11 v12 v13) (n:=(N:Int)) (A5 (B5 (x:=.int ((N:Int) - 1)) (y:=.int 1) rfl rfl (by rw [Q8,FS])) rfl) (by lia) (by lia);rw [hr] at hs; unfold Ej; rw [D5 (δc:=[.sh (.str w),.sh (.list (TX L N))]) hs (by rw [vA,CO]; lia) rfl c]; rfl
 . exact (Q9 (C2 (B5 (C4 (A5 (d:=bkD L) rfl (A5 (d:=.str w) rfl rfl)) (kG W hl w)) (B5 (x:=.list (F.map (fun t:Nat=>wN (0+(t:Int)))++[.none])) (y:=.int 0) (B5 (x:=.list (F.map fun t:Nat=>wN (0+(t:Int)))) (y:=.list [.none]) rfl rfl (Ou (by rw [vA]; simp; lia))) rfl hd) ((Rf.opt _).ne (by decide))))).trans rfl
theorem sX (W:BkW L) (hl:L.length<=9) {N:Nat} (h0:1<=N) (hN:N<=21) (h1:∀ e∈L,e.2.1 < N):∀ (ws:List Str) (v8 v13:Sl),∃ t8 t13,E3 (st1 8) Zw (ws.map .str) (dl v0 (.sh (bkD L)) v2 (.sh (.int ((N:Int) - 1))) (.sh (.list (TX L N))) v5 v6 v7 v8 v9 v10 v11 v12 v13)=.nx (dl v0 (.sh (bkD L)) v2 (.sh (.int ((N:Int) - 1))) (.sh (.list (TX L N))) v5 v6 v7 t8 v9 v10 v11 v12 t13):=by
 intro ws;induction ws with
 | nil=>intro v8 v13; exact ⟨v8,v13,rfl⟩
 | cons w ws ih =>
   intro v8 v13; obtain ⟨t13,e⟩:=rL (v0:=v0) (v2:=v2) (v5:=v5) (v6:=v6) (v7:=v7) (v9:=v9) (v10:=v10) (v11:=v11) (v12:=v12) (v13:=v13) W hl h0 hN h1 w; obtain ⟨u8,u13,e'⟩:=ih (.sh (.str w)) t13; exact ⟨u8,u13,(N7 rfl e).trans e'⟩
end
noncomputable section
variable {L:List Dp} {B:List Ad} {ku kd:Kvs} {v0 v1 v2 v3 v4 v5 v6 v7 v8 v9 v10 v11 v12 v13:Sl}
theorem law6 (A:BkA L B) (hl:L.length<=9) (P:Pq L ku kd):Go (dl v0 (.sh (bkD L)) (.sh (.list (((ord B).filter (E2 ku kd)).map sgA))) v3 v4 v5 v6 v7 v8 v9 v10 v11 v12 v13)=.nx (dl v0 (.sh (bkD L)) (.sh (.list (((ord B).filter (E2 ku kd)).map sgA))) v3 v4 v5 v6 v7 v8 v9 v10 v11 v12 v13):=by
 have hol:=V4 A;have hf:=xC (E2 ku kd) (ord B);have hin:=fun j (h:j < ((ord B).filter (E2 ku kd)).length)=>oB A hl P.P h;generalize (ord B).filter (E2 ku kd)=T at hin hf;have hr:P0 0 (T.length:Int)=(wS T.length).map fun t:Nat=>wN (0+(t:Int)):=by unfold P0; rw [JJ,i9]
 have hs:=Eb (fs:=A1 (vFn (A1 (A0 2) A6) M4) A6) (δ:=dl v0 (.sh (bkD L)) (.sh (.list (T.map sgA))) v3 v4 v5 v6 v7 v8 v9 v10 v11 v12 v13) (n:=(T.length:Int)) (A5 (O0 (A5 rfl rfl) (show some (wN ((T.map sgA).length:Int))=_ by rw [vA])) rfl) (by lia) (by lia);rw [hr] at hs;have c:=K4 (δc:=[.sh (bkD L),.sh (.list (T.map sgA))]) (tt:=B6 (b2 (C0 (A1 (A0 1) (A1 (A0 0) A6)) M1) (b2 (b2 (A0 2) (A0 0) dIx) (vC (.int 0)) dIx) dNe)) (el:=A0 0) (fun t:Nat=>wN (0+(t:Int))) (fun t=>.int (0+(t:Int))) (fun _=>false) (wS T.length) (fun t ht=>by
   have hlt:=yQ.mp ht; have hat:dIx (.list (T.map sgA)) (.int (t:Int))=some (sgA T[t]):=by
     have:=K8 (xs:=T.map sgA) (j:=t) (by rw [vA]; exact hlt);rw [List.getElem_map] at this; exact this
   rw [GE]; exact C2 (B5 (C4 (A5 (d:=bkD L) rfl (A5 (d:=.int (t:Int)) rfl rfl)) (hin t hlt)) (B5 (x:=sgA T[t]) (y:=.int 0) (B5 (x:=.list (T.map sgA)) (y:=.int (t:Int)) rfl rfl hat) rfl (T8 _ _)) ((Rf.id _).ne (by decide)))) fun _ _=>rfl
 rw [AT.mpr fun _ _=>by decide] at c;unfold Go;have e:=I8 (D5 (src:=fun δ=>((A1 (vFn (A1 (A0 2) A6) M4) A6) δ).bind Bg) (δ:=dl v0 (.sh (bkD L)) (.sh (.list (T.map sgA))) v3 v4 v5 v6 v7 v8 v9 v10 v11 v12 v13) (cap:=[1,2]) (δc:=[.sh (bkD L),.sh (.list (T.map sgA))]) hs (by rw [vA,CO]; lia) rfl c);exact (Q9 (C2 (B5 (x:=.list []) (y:=.list []) e rfl rfl))).trans rfl
theorem law7 (A:BkA L B) (hl:L.length<=9) (P:Pq L ku kd):Gn (dl v0 (.sh (bkD L)) (.sh (.list (((ord B).filter (E2 ku kd)).map sgA))) v3 v4 v5 v6 v7 v8 v9 v10 v11 v12 v13)=.nx (dl v0 (.sh (bkD L)) (.sh (.list (((ord B).filter (E2 ku kd)).map sgA))) v3 v4 v5 v6 v7 v8 v9 v10 v11 v12 v13):=by
 unfold Gn;exact (Q9 (kX (C2 (lD (C4 (A5 (d:=bkD L) rfl (A5 (d:=.int (-1)) rfl rfl)) (Wa A hl P.P (.inl rfl))) rfl)) (C2 (lD (C4 (A5 (d:=bkD L) rfl (A5 (d:=.int (((ord B).filter (E2 ku kd)).length:Int)) (O0 (A5 rfl rfl) (show some (wN ((JQ _ _).length:Int))=_ by rw [vA])) rfl)) (Wa A hl P.P (.inr rfl))) rfl)))).trans rfl
abbrev kpt (T:List As):uV:=.list ((T.map fun u=>u.1.p).map idP)
theorem law12 {T:List As} (hT:T.length<=100):Ea (dl v0 v1 (.sh (.list (T.map sgA))) v3 v4 v5 v6 v7 v8 v9 v10 v11 v12 v13)=.nx (dl v0 v1 (.sh (.list (T.map sgA))) v3 v4 v5 v6 v7 v8 v9 (.sh (kpt T)) v11 v12 v13):=by
 have c:=K4 (δc:=[]) (tt:=J3) (el:=b2 (A0 0) (vC (.int 0)) dIx) sgA (fun u=>idP u.1.p) (fun _=>true) T (fun _ _=>rfl) fun u _=>B5 (x:=sgA u) (y:=.int 0) rfl rfl (T8 _ _);rw [zG.mpr fun _ _=>rfl] at c;unfold Ea kpt;rw [zS];exact D9 (I8 (D5 (δc:=[]) (D6 (d:=.list (T.map sgA)) rfl rfl) (by rw [vA]; lia) rfl c))
theorem law13 (W:BkW L) (hl:L.length<=9) (T:List As):Dz (dl v0 (.sh (bkD L)) v2 v3 v4 v5 v6 v7 v8 (.sh (.list ((onL L).map idP))) (.sh (kpt T)) v11 v12 v13)=.nx (dl v0 (.sh (bkD L)) v2 v3 v4 v5 v6 v7 v8 (.sh (.list ((onL L).map idP))) (.sh (kpt T)) (.sh (.list ((L.filter (Aq L T)).map (·.1)))) v12 v13):=by
 have hk:∀ e∈L,Kd e:=fun e he=>(W.1 e he).kd;have c:=K4 (δc:=[.sh (.list ((onL L).map idP)),.sh (kpt T)]) (tt:=N6 (B6 (b2 (b2 (A0 0) (vC (.int 0)) dIx) (vC (.str "add")) dEq)) (N6 (B6 (b2 (b2 (A0 0) (vC (.int 1)) dIx) (A0 1) (dIn false))) (B6 (b2 (b2 (A0 0) (vC (.int 1)) dIx) (A0 2) (dIn true))))) (el:=A0 0) (fun e:Dp=>e.1) (fun e=>e.1) (Aq L T) L (fun e he=>by
   have q:Aq L T e=((wdS e == "add")&&((!decide (e.2∈off L)) && !decide (e.2∈T.map fun u=>u.1.p))):=by
     unfold Aq; rw [Bool.and_assoc];congr 3;rw [zJ]; simp
   rw [q]; refine Lp (We (hk e he) _) (Lp (C2 (B5 (x:=idP e.2) (y:=.list ((onL L).map idP)) (B5 (x:=e.1) (y:=.int 1) rfl rfl (hk e he).tid) rfl ?_)) (C2 (B5 (x:=idP e.2) (y:=kpt T) (B5 (x:=e.1) (y:=.int 1) rfl rfl (hk e he).tid) rfl ?_)))
   . rw [Fq,Th he]
     cases decide (e.2∈off L) <;> rfl
   . rw [Fq]
     cases decide (e.2∈T.map fun u=>u.1.p) <;> rfl) fun _ _=>rfl
 unfold Dz Ej;rw [D5 (δc:=[.sh (.list ((onL L).map idP)),.sh (kpt T)]) (D6 (d:=bkD L) rfl rfl) (by rw [vA]; lia) rfl c]; rfl
theorem law14 (A:BkA L B) (W:BkW L) (hl:L.length<=9) (P:Pq L ku kd):Dy (dl v0 (.sh (bkD L)) v2 v3 v4 v5 v6 v7 v8 v9 v10 (.sh (.list ((L.filter (Aq L ((ord B).filter (E2 ku kd)))).map (·.1)))) v12 v13)=.nx (dl v0 (.sh (bkD L)) v2 v3 v4 v5 v6 v7 v8 v9 v10 (.sh (.list ((L.filter (Aq L ((ord B).filter (E2 ku kd)))).map (·.1)))) v12 v13):=by
 have hlo:=nY A W hl P;generalize (ord B).filter (E2 ku kd)=T at hlo;have hle:=xC (Aq L T) L;have c:=bB W (δc:=[]) (tt:=J3) (f:=fun _=>true) (M:=L.filter (Aq L T)) (fun e he=>by
   obtain ⟨h1,h2⟩:=wW.mp he; unfold Aq at h2; simp only [vV] at h2; exact ⟨h1,h2.1.1⟩) fun _ _=>rfl
 rw [zG.mpr fun _ _=>rfl] at c;unfold Dy;exact (Q9 (C2 (B5 (C4 (A5 (d:=bkD L) rfl rfl) hlo) (I8 (D5 (δc:=[]) (D6 (d:=.list ((L.filter (Aq L T)).map (·.1))) rfl rfl) (by rw [vA]; lia) rfl c)) ((Rf.ls W T).ne (by decide))))).trans rfl
theorem law15 (W:BkW L) (hl:L.length<=9) (P:Pq L ku kd):Dx (dl v0 (.sh (bkD L)) v2 v3 v4 v5 v6 v7 v8 v9 v10 v11 v12 v13)=.rt (.bool true):=by
 have c:=K4 (δc:=[.sh (bkD L)]) (tt:=B6 (b2 (C0 (A1 (A0 1) (A1 (A0 0) A6)) U7) (C0 (A1 (A0 1) (A1 (A0 0) A6)) U8) dNe)) (el:=A0 0) yE yE (fun _=>false) (["a", "b", "c", "d"]:List Str) (fun h _=>C2 (B5 (C4 (A5 (d:=bkD L) rfl (A5 (d:=.str h) rfl rfl)) (Zt W hl P h)) (C4 (A5 (d:=bkD L) rfl (A5 (d:=.str h) rfl rfl)) (sZ W hl h)) ((Rf.byL L h).ne (by decide)))) fun _ _=>rfl;unfold Dx;exact L0 (B5 (x:=.list []) (y:=.list []) (I8 (D5 (δc:=[.sh (bkD L)]) (D6 (d:=.str "abcd") rfl rfl) (by decide) rfl c)) rfl rfl)
end
theorem iE (ns:List Int) (hns:ns.length<=63):bA [.list (ns.map wN)]=.ok (.bool true):=by
 obtain ⟨x,y,z,hxyz,en⟩:=jG ns hns 0;obtain ⟨L,eb,hl,W⟩:=pT ns hns x y z hxyz;obtain ⟨B,A⟩:=bka' W;have hk:∀ e∈L,Kd e:=fun e he=>(W.1 e he).kd;obtain ⟨ku,kd,P⟩:=qM hk hl;obtain ⟨N,n1,n2,n3,n4,et⟩:=gB W hl;have hol:=V4 A;have hf:=xC (E2 ku kd) (ord B);obtain ⟨r1,d1,p1,q1⟩:=G6 ns hns 600 (N:Int) (by lia);obtain ⟨j,rfl⟩:∃ j:Nat,r1=(j:Int):=⟨r1.toNat,by lia⟩;have hX:=Xu W hl (j:Int);obtain ⟨r2,d2,p2,q2⟩:=G6 ns hns 601 (((txs L (j:Int)).length:Int)+1) (by lia);obtain ⟨r3,d3,p3,q3⟩:=G6 ns hns 602 4 (by decide);obtain ⟨w,ew,_⟩:=Uf ns hns 603;refine P9 ?_;show C3 _ _ (dl (.sh (scr ns)) .un .un .un .un .un .un .un .un .un .un .un .un .un)=_
 refine (B3 (δ':=dl (.sh (scr ns)) (.sh (bkD L)) .un .un .un .un .un .un .un .un .un .un .un .un) (D9 (C4 (A5 rfl (A5 rfl (A5 rfl (A5 (C4 (A5 rfl (A5 rfl rfl)) en) rfl)))) eb))).trans ?_;refine (B3 (δ':=dl (.sh (scr ns)) (.sh (bkD L)) (.sh (.list (((ord B).filter (E2 ku kd)).map sgA))) .un .un .un .un .un .un .un .un .un .un .un) (D9 (C4 (A5 (d:=bkD L) rfl rfl) (Qt A hk hl P)))).trans ?_;refine (B3 (δ':=dl (.sh (scr ns)) (.sh (bkD L)) (.sh (.list (((ord B).filter (E2 ku kd)).map sgA))) (.sh (.int ((N:Int) - 1))) .un .un .un .un .un .un .un .un .un .un) (D9 (oA hk hl n3 n4 n1 rfl))).trans ?_;refine (B3 (δ':=dl (.sh (scr ns)) (.sh (bkD L)) (.sh (.list (((ord B).filter (E2 ku kd)).map sgA))) (.sh (.int ((N:Int) - 1))) (.ow (.list (TX L 0))) .un .un .un .un .un .un .un .un .un) rfl).trans ?_
 obtain ⟨t5,t12,e4⟩:=loop4 (v0:=.sh (scr ns)) (v2:=.sh (.list (((ord B).filter (E2 ku kd)).map sgA))) (v3:=.sh (.int ((N:Int) - 1))) (v6:=.un) (v7:=.un) (v8:=.un) (v9:=.un) (v10:=.un) (v11:=.un) (v13:=.un) W hl n2 N 0 (by lia) .un .un;refine (B3 (δ':=dl (.sh (scr ns)) (.sh (bkD L)) (.sh (.list (((ord B).filter (E2 ku kd)).map sgA))) (.sh (.int ((N:Int) - 1))) (.ow (.list (TX L N))) t5 .un .un .un .un .un .un t12 .un) ?_).trans ?_
 . have hs:=Eb (fs:=A1 (b2 (A0 3) (vC (.int 1)) C6) A6) (δ:=dl (.sh (scr ns)) (.sh (bkD L)) (.sh (.list (((ord B).filter (E2 ku kd)).map sgA))) (.sh (.int ((N:Int) - 1))) (.ow (.list (TX L 0))) .un .un .un .un .un .un .un .un .un) (n:=(N:Int)) (A5 (B5 (x:=.int ((N:Int) - 1)) (y:=.int 1) rfl rfl (by rw [Q8,FS])) rfl) (by lia) (by lia)
   unfold Md N3; rw [hs,D1]; exact e4
 have hTX:Rf 1 (.list (TX L N)):=Rf.list fun x hx=>by
   obtain ⟨t,_,rfl⟩:=wF.mp hx; exact .str _
 refine (B3 (δ':=dl (.sh (scr ns)) (.sh (bkD L)) (.sh (.list (((ord B).filter (E2 ku kd)).map sgA))) (.sh (.int ((N:Int) - 1))) (.ow (.list (TX L N))) t5 .un .un .un .un .un .un t12 .un) ?_).trans ?_
 . have ha:=lE hk hl ((N:Int) - 1+5)
   rw [rB fun e he=>by have:=n3 e he; lia] at ha;unfold Mc; exact (Q9 (On (δ':=dl (.sh (scr ns)) (.sh (bkD L)) (.sh (.list (((ord B).filter (E2 ku kd)).map sgA))) (.sh (.int ((N:Int) - 1))) (.sh (.list (TX L N))) t5 .un .un .un .un .un .un t12 .un) rfl (kX (C2 (B5 (C4 (A5 (d:=bkD L) rfl rfl) et) (y:=.list (TX L N)) rfl (hTX.ne (by decide)))) (C2 (B5 (C4 (A5 (d:=bkD L) rfl (A5 (d:=.int ((N:Int) - 1+5)) rfl rfl)) ha) (y:=bkD L) rfl ((Rf.bk W).ne (by decide))))))).trans rfl
 refine (B3 (law6 A hl P)).trans ((B3 (law7 A hl P)).trans ?_);refine (B3 (δ':=dl (.sh (scr ns)) (.sh (bkD L)) (.sh (.list (((ord B).filter (E2 ku kd)).map sgA))) (.sh (.int ((N:Int) - 1))) (.sh (.list (TX L N))) t5 (.sh (.str (txs L (j:Int)))) .un .un .un .un .un t12 .un) ?_).trans ?_
 . unfold Mb sFz
   refine D9 (B5 (x:=.list (TX L N)) (y:=.int (j:Int)) rfl (C4 (A5 (d:=scr ns) rfl (A5 (d:=.int 600) rfl (A5 (d:=.int (N:Int)) (B5 (x:=.int ((N:Int) - 1)) (y:=.int 1) rfl rfl (by rw [Q8,FS])) rfl))) d1) ?_);refine (K8 (xs:=TX L N) (j:=j) (by rw [Gd]; lia)).trans ?_;simp
 refine (B3 (δ':=dl (.sh (scr ns)) (.sh (bkD L)) (.sh (.list (((ord B).filter (E2 ku kd)).map sgA))) (.sh (.int ((N:Int) - 1))) (.sh (.list (TX L N))) t5 (.sh (.str (txs L (j:Int)))) (.sh (.int r2)) .un .un .un .un t12 .un) (D9 (C4 (A5 (d:=scr ns) rfl (A5 (d:=.int 601) rfl (A5 (d:=.int (((txs L (j:Int)).length:Int)+1)) (B5 (x:=.int ((txs L (j:Int)).length:Int)) (y:=.int 1) (O0 (A5 rfl rfl) rfl) rfl Q8) rfl))) d2))).trans ?_;obtain ⟨t8,t13,e10⟩:=sX (v0:=.sh (scr ns)) (v2:=.sh (.list (((ord B).filter (E2 ku kd)).map sgA))) (v5:=t5) (v6:=.sh (.str (txs L (j:Int)))) (v7:=.sh (.int r2)) (v9:=.un) (v10:=.un) (v11:=.un) (v12:=t12) W hl n1 n2 n3 [Kx (txs L (j:Int)) (some r2) (some (r2+r3)),w, ""] .un .un
 refine (B3 (δ':=dl (.sh (scr ns)) (.sh (bkD L)) (.sh (.list (((ord B).filter (E2 ku kd)).map sgA))) (.sh (.int ((N:Int) - 1))) (.sh (.list (TX L N))) t5 (.sh (.str (txs L (j:Int)))) (.sh (.int r2)) t8 .un .un .un t12 t13) ?_).trans ?_
 . unfold Ih N3
   rw [D6 (d:=.tuple (([Kx (txs L (j:Int)) (some r2) (some (r2+r3)),w, ""]:List Str).map .str)) (ds:=([Kx (txs L (j:Int)) (some r2) (some (r2+r3)),w, ""]:List Str).map .str) (Q1 (A5 (d:=.str (Kx (txs L (j:Int)) (some r2) (some (r2+r3)))) ?_ (A5 (C4 (A5 (d:=scr ns) rfl (A5 (d:=.int 603) rfl rfl)) ew) (A5 rfl rfl)))) rfl,D1]
   . exact e10
   . unfold qY X5
     have h3:(b2 (A0 7) (C0 (A1 (A0 0) (A1 (vC (.int 602)) (A1 (vC (.int 4)) A6))) A7) C6) (dl (.sh (scr ns)) (.sh (bkD L)) (.sh (.list (((ord B).filter (E2 ku kd)).map sgA))) (.sh (.int ((N:Int) - 1))) (.sh (.list (TX L N))) t5 (.sh (.str (txs L (j:Int)))) (.sh (.int r2)) .un .un .un .un t12 .un)=.ok (.int (r2+r3)):=B5 (x:=.int r2) (y:=.int r3) rfl (C4 (A5 (d:=scr ns) rfl (A5 (d:=.int 602) rfl (A5 (d:=.int 4) rfl rfl))) d3) Q8; show Res.bind (Res.ok (yE (txs L (j:Int)))) _=_;rw [C1]; show Res.bind (Res.ok (some r2)) _=_;rw [C1,h3,C1]; show Res.bind (Res.ok (some (r2+r3))) _=_;rw [C1]; show ofO (if okS (Kx (txs L (j:Int)) (some r2) (some (r2+r3)))=true then _ else _)=_
     rw [if_pos (pJ hX.c hX.n _ _)]; rfl
 refine (B3 (δ':=dl (.sh (scr ns)) (.sh (bkD L)) (.sh (.list (((ord B).filter (E2 ku kd)).map sgA))) (.sh (.int ((N:Int) - 1))) (.sh (.list (TX L N))) t5 (.sh (.str (txs L (j:Int)))) (.sh (.int r2)) t8 (.sh (.list ((onL L).map idP))) .un .un t12 t13) (D9 (C4 (A5 (d:=bkD L) rfl rfl) (Zi hk hl)))).trans ?_;refine (B3 (law12 (by lia))).trans ((B3 (law13 W hl _)).trans ((B3 (law14 A W hl P)).trans (law15 W hl P)))
end Sm
end
namespace Sm
open PySem PySem.Spec PyProof.Rows L2
noncomputable def E8 (P:FQ) (x:Str) (t:Nat) (v:uY):xP:=⟨PyData.keyHash P x,.str x t,v⟩
noncomputable def nK (i:Nat):Str:=match top i with | .FunctionDef n _ _ _ _ _ _ _ _ _=>n | _ => ""
noncomputable def Q5 (i:Nat) (m:uY) (c:Nat):Obj:=⟨.type "function",none,.func (xQ (nK i) (nK i) (L5 (top i)) (B4 (top i)) (A4 (top i)) .none .none .none m none (.ref c) .none),#[]⟩
noncomputable def Q6 (i t:Nat) (l a:Int) (r:Nat) (u v w:uY) (n:Nat):Obj:=⟨.type "code",none,.fields #[.str (nK i) t,.str (nK i) (t+1),.str "/claim/cut.py" (t+2),.int l 0,.int a 0,.int 0 0,.int 0 0,.int 3 0,.ref r,.bool true,.int 181 0,.ref (r+1),.none,u,v,w,.int n 0,.int l 0,.str "/claim/cut.py" (n+1)],#[]⟩
noncomputable def owM0 (P:FQ):List xP:=[E8 P "__name__" 165 (.str "law_staymark_k70_history" 385),E8 P "__doc__" 166 .none,E8 P "__package__" 167 .none,E8 P "__loader__" 168 (.builtin "__main__.__loader__#opaque"),E8 P "__spec__" 169 .none,E8 P "__annotations__" 170 (.ref 6),E8 P "__builtins__" 171 (.ref 4),E8 P "__file__" 173 (.str "/claim/cut.py" 172),E8 P "__cached__" 174 .none,E8 P "MarkError" 206 (.ref 24),E8 P "NoSign" 222 (.ref 37)]
noncomputable def owM1 (P:FQ):List xP:=[E8 P "NoPlace" 238 (.ref 49),E8 P "NoDeed" 254 (.ref 61),E8 P "signs_added" 263 (.ref 70),E8 P "adds_behind" 274 (.ref 77),E8 P "signs_of" 280 (.ref 82),E8 P "undone_in" 289 (.ref 89),E8 P "dropped_in" 300 (.ref 96),E8 P "presence_in" 311 (.ref 103),E8 P "shown_in" 317 (.ref 108),E8 P "text_of" 323 (.ref 113),E8 P "as_of" 331 (.ref 118)]
noncomputable def owM2 (P:FQ):List xP:=[E8 P "times_of" 337 (.ref 123),E8 P "text_at" 345 (.ref 130),E8 P "texts_of" 354 (.ref 137),E8 P "age_at" 363 (.ref 144),E8 P "first_seen" 372 (.ref 151),E8 P "lost" 378 (.ref 156),E8 P "by_hand" 384 (.ref 161),E8 P "_law_cell" 394 (.ref 168),E8 P "_law_drawn" 404 (.ref 175),E8 P "_law_names" 415 (.ref 182),E8 P "_law_words" 421 (.ref 187)]
noncomputable def owM3 (P:FQ):List xP:=[E8 P "_law_signs" 427 (.ref 192),E8 P "_law_anchor" 437 (.ref 199),E8 P "_law_deed" 443 (.ref 204),E8 P "_law_book" 449 (.ref 209),E8 P "_law_order" 455 (.ref 214),E8 P "_law_effects" 461 (.ref 219),E8 P "_law_there" 467 (.ref 224),E8 P "_law_text" 473 (.ref 229),E8 P "_law_age" 483 (.ref 236),E8 P "_law_by" 489 (.ref 241),E8 P "law" 495 (.ref 246)]
noncomputable def ownK (P:FQ):vB :=
 (nat_lit 3,⟨.type "dict",none,.dict (owM0 P++owM1 P++owM2 P++owM3 P).toArray 44,#[]⟩) ::
 (nat_lit 23,⟨.type "dict",none,.dict #[E8 P "__module__" 196 (.str "staymark.errors" 187),E8 P "__firstlineno__" 200 (.int 2 199),E8 P "__static_attributes__" 201 (.ref 22),E8 P "__weakref__" 203 (.ref 25),E8 P "__doc__" 204 .none] 3,#[]⟩) ::
 (nat_lit 24,⟨.type "type",none,.cls { name := "MarkError",qualname := "MarkError",bases:=[.type "ValueError"],mro:=[.ref 24,.type "ValueError",.type "Exception",.type "BaseException",.type "object"],ns:=23,hasDict:=true,subclasses:=[.ref 37,.ref 49,.ref 61],abstract:=false,hasDel:=false },#[some (.ref 15),none,some (.str "MarkError" 189),some (.str "MarkError" 197),some (.builtin "ValueError.__new__"),some (.bool true)]⟩) ::
 (nat_lit 36,⟨.type "dict",none,.dict #[E8 P "__module__" 214 (.str "staymark.errors" 187),E8 P "__firstlineno__" 218 (.int 4 217),E8 P "__static_attributes__" 219 (.ref 35),E8 P "__doc__" 220 .none] 2,#[]⟩) ::
 (nat_lit 37,⟨.type "type",none,.cls { name := "NoSign",qualname := "NoSign",bases:=[.ref 24],mro:=[.ref 37,.ref 24,.type "ValueError",.type "Exception",.type "BaseException",.type "object"],ns:=36,hasDict:=true,subclasses:=[],abstract:=false,hasDel:=false },#[some (.ref 28),none,some (.str "NoSign" 207),some (.str "NoSign" 215),some (.builtin "ValueError.__new__"),some (.bool true)]⟩) ::
 (nat_lit 48,⟨.type "dict",none,.dict #[E8 P "__module__" 230 (.str "staymark.errors" 187),E8 P "__firstlineno__" 234 (.int 6 233),E8 P "__static_attributes__" 235 (.ref 47),E8 P "__doc__" 236 .none] 2,#[]⟩) ::
 (nat_lit 49,⟨.type "type",none,.cls { name := "NoPlace",qualname := "NoPlace",bases:=[.ref 24],mro:=[.ref 49,.ref 24,.type "ValueError",.type "Exception",.type "BaseException",.type "object"],ns:=48,hasDict:=true,subclasses:=[],abstract:=false,hasDel:=false },#[some (.ref 40),none,some (.str "NoPlace" 223),some (.str "NoPlace" 231),some (.builtin "ValueError.__new__"),some (.bool true)]⟩) ::
 (nat_lit 60,⟨.type "dict",none,.dict #[E8 P "__module__" 246 (.str "staymark.errors" 187),E8 P "__firstlineno__" 250 (.int 8 249),E8 P "__static_attributes__" 251 (.ref 59),E8 P "__doc__" 252 .none] 2,#[]⟩) ::
 (nat_lit 61,⟨.type "type",none,.cls { name := "NoDeed",qualname := "NoDeed",bases:=[.ref 24],mro:=[.ref 61,.ref 24,.type "ValueError",.type "Exception",.type "BaseException",.type "object"],ns:=60,hasDict:=true,subclasses:=[],abstract:=false,hasDel:=false },#[some (.ref 52),none,some (.str "NoDeed" 239),some (.str "NoDeed" 247),some (.builtin "ValueError.__new__"),some (.bool true)]⟩) ::
 (nat_lit 69,Q6 6 257 11 1 64 (.ref 66) (.ref 67) (.ref 68) 261) ::
 (nat_lit 70,Q5 6 (.str "staymark.deeds" 255) 69) ::
 (nat_lit 76,Q6 8 266 14 1 71 (.ref 73) (.ref 74) (.ref 75) 272) ::
 (nat_lit 77,Q5 8 (.str "staymark.orders" 264) 76) ::
 (nat_lit 81,Q6 9 275 20 1 78 .none .none (.ref 80) 278) ::
 (nat_lit 82,Q5 9 (.str "staymark.orders" 264) 81) ::
 (nat_lit 88,Q6 10 281 34 1 83 (.ref 85) (.ref 86) (.ref 87) 287) ::
 (nat_lit 89,Q5 10 (.str "staymark.orders" 264) 88) ::
 (nat_lit 95,Q6 11 290 40 2 90 (.ref 92) (.ref 93) (.ref 94) 298) ::
 (nat_lit 96,Q5 11 (.str "staymark.orders" 264) 95) ::
 (nat_lit 102,Q6 12 301 47 1 97 (.ref 99) (.ref 100) (.ref 101) 309) ::
 (nat_lit 103,Q5 12 (.str "staymark.orders" 264) 102) ::
 (nat_lit 107,Q6 13 312 54 1 104 .none .none (.ref 106) 315) ::
 (nat_lit 108,Q5 13 (.str "staymark.orders" 264) 107) ::
 (nat_lit 112,Q6 14 318 56 1 109 .none .none (.ref 111) 321) ::
 (nat_lit 113,Q5 14 (.str "staymark.orders" 264) 112) ::
 (nat_lit 117,Q6 16 326 59 2 114 .none .none (.ref 116) 329) ::
 (nat_lit 118,Q5 16 (.str "staymark.history" 324) 117) ::
 (nat_lit 122,Q6 17 332 61 1 119 .none .none (.ref 121) 335) ::
 (nat_lit 123,Q5 17 (.str "staymark.history" 324) 122) ::
 (nat_lit 129,Q6 18 338 63 2 124 (.ref 126) (.ref 127) (.ref 128) 343) ::
 (nat_lit 130,Q5 18 (.str "staymark.history" 324) 129) ::
 (nat_lit 136,Q6 19 346 65 1 131 (.ref 133) (.ref 134) (.ref 135) 352) ::
 (nat_lit 137,Q5 19 (.str "staymark.history" 324) 136) ::
 (nat_lit 143,Q6 20 355 72 2 138 (.ref 140) (.ref 141) (.ref 142) 361) ::
 (nat_lit 144,Q5 20 (.str "staymark.history" 324) 143) ::
 (nat_lit 150,Q6 21 364 77 2 145 (.ref 147) (.ref 148) (.ref 149) 370) ::
 (nat_lit 151,Q5 21 (.str "staymark.history" 324) 150) ::
 (nat_lit 155,Q6 22 373 82 1 152 .none .none (.ref 154) 376) ::
 (nat_lit 156,Q5 22 (.str "staymark.history" 324) 155) ::
 (nat_lit 160,Q6 23 379 87 2 157 .none .none (.ref 159) 382) ::
 (nat_lit 161,Q5 23 (.str "staymark.history" 324) 160) ::
 (nat_lit 167,Q6 25 387 95 2 162 (.ref 164) (.ref 165) (.ref 166) 392) ::
 (nat_lit 168,Q5 25 (.str "law_staymark_k70_history" 385) 167) ::
 (nat_lit 174,Q6 26 395 99 3 169 (.ref 171) (.ref 172) (.ref 173) 402) ::
 (nat_lit 175,Q5 26 (.str "law_staymark_k70_history" 385) 174) ::
 (nat_lit 181,Q6 27 405 103 2 176 (.ref 178) (.ref 179) (.ref 180) 413) ::
 (nat_lit 182,Q5 27 (.str "law_staymark_k70_history" 385) 181) ::
 (nat_lit 186,Q6 28 416 109 2 183 .none .none (.ref 185) 419) ::
 (nat_lit 187,Q5 28 (.str "law_staymark_k70_history" 385) 186) ::
 (nat_lit 191,Q6 29 422 111 1 188 .none .none (.ref 190) 425) ::
 (nat_lit 192,Q5 29 (.str "law_staymark_k70_history" 385) 191) ::
 (nat_lit 198,Q6 30 428 117 3 193 (.ref 195) (.ref 196) (.ref 197) 435) ::
 (nat_lit 199,Q5 30 (.str "law_staymark_k70_history" 385) 198) ::
 (nat_lit 203,Q6 31 438 120 5 200 .none .none (.ref 202) 441) ::
 (nat_lit 204,Q5 31 (.str "law_staymark_k70_history" 385) 203) ::
 (nat_lit 208,Q6 32 444 135 4 205 .none .none (.ref 207) 447) ::
 (nat_lit 209,Q5 32 (.str "law_staymark_k70_history" 385) 208) ::
 (nat_lit 213,Q6 33 450 147 1 210 .none .none (.ref 212) 453) ::
 (nat_lit 214,Q5 33 (.str "law_staymark_k70_history" 385) 213) ::
 (nat_lit 218,Q6 34 456 154 1 215 .none .none (.ref 217) 459) ::
 (nat_lit 219,Q5 34 (.str "law_staymark_k70_history" 385) 218) ::
 (nat_lit 223,Q6 35 462 160 1 220 .none .none (.ref 222) 465) ::
 (nat_lit 224,Q5 35 (.str "law_staymark_k70_history" 385) 223) ::
 (nat_lit 228,Q6 36 468 167 2 225 .none .none (.ref 227) 471) ::
 (nat_lit 229,Q5 36 (.str "law_staymark_k70_history" 385) 228) ::
 (nat_lit 235,Q6 37 474 170 2 230 (.ref 232) (.ref 233) (.ref 234) 481) ::
 (nat_lit 236,Q5 37 (.str "law_staymark_k70_history" 385) 235) ::
 (nat_lit 240,Q6 38 484 176 2 237 .none .none (.ref 239) 487) ::
 (nat_lit 241,Q5 38 (.str "law_staymark_k70_history" 385) 240) ::
 (nat_lit 245,Q6 39 490 184 1 242 .none .none (.ref 244) 493) ::
 (nat_lit 246,Q5 39 (.str "law_staymark_k70_history" 385) 245)::[]
end Sm
set_option maxRecDepth 100000 in
set_option maxHeartbeats 0 in
theorem PySem.Challenge.cw_staymark_k70_history_holds : PySem.Challenge.rw_staymark_k70_history.Holds := by
 w_on; o_law; o_head (PySem.W.kHook Sm.ownK [3,23,24,36,37,48,49,60,61,69,70,76,77,81,82,88,89,95,96,102,103,107,108,112,113,117,118,122,123,129,130,136,137,143,144,150,151,155,156,160,161,167,168,174,175,181,182,186,187,191,192,198,199,203,204,208,209,213,214,218,219,223,224,228,229,235,236,240,241,245,246] (fun _=>by kernel_rfl)); (case hw=>w_witness2)
 k_fill
 refine Sm.walkD (l:=PySem.Challenge.rw_staymark_k70_history) rfl rfl rfl (fun w h Y=>PySem.W.kIn_of Y) (fun w=>?hK) ?F Sm.iE
 case hK=>kernel_rfl
 case F =>
   intro w mg h KX G; refine' ⟨⟨?b0,?b1,?b2,?b3,?b4,?b5,?b6,?b7,?b8,?b9,?b10⟩,⟨?d30,?d0,?d1,?d2,?d3,?d4,?d5,?d6,?d7,?d8,?d9,?d10,?d11,?d12,?d13,?d14,?d15,?d16,?d17,?d18,?d19,?d20,?d21,?d22,?d23,?d24,?d25,?d26,?d27,?d28,?d29⟩,_,_,_,_,⟨?x0,?x1⟩,⟨?x2,?x3,?x4,?x5,?x6,?x7,⟨?y0,?y1,?y2,?y3,?y4,?y5,?y6,?y7⟩,?z0,?z1,?z2,?z3,?z4,?z5,?z6,?z7⟩⟩
   case b0 | b1 | b2 | b3 | b4 | b5 | b6 | b7 | b8 | b9 | b10=>exact PySem.W.mg_none_of KX G (by k_is)
   case d0 | d1 | d2 | d3 | d5 | d6 | d7 | d9 | d11 | d14 | d20 | d24 | d25 | d26 | d30=>exact Sm.oZ KX G (by k_is) (by k_is) (by k_is) (by k_is) (fun _ _ _ _ _ _ _=>rfl) rfl
   case d4 | d8 | d10 | d12 | d13 | d15 | d16 | d18 | d19 | d27 | d28 | d29=>exact Sm.oY KX G (by k_is) (by k_is) (by k_is) (by k_is) (fun _ _ _ _ _ _ _ _=>rfl) rfl
   case d17 | d21=>exact Sm.oX KX G (by k_is) (by k_is) (by k_is) (by k_is) (fun _ _ _ _ _ _ _ _ _=>rfl) rfl
   case d22=>exact Sm.oV KX G (by k_is) (by k_is) (by k_is) (by k_is) (fun _ _ _ _ _ _ _ _ _ _ _=>rfl) rfl
   case d23=>exact Sm.oW KX G (by k_is) (by k_is) (by k_is) (by k_is) (fun _ _ _ _ _ _ _ _ _ _=>rfl) rfl
   case x0 | x2 | x3 | x4 | x5=>exact PySem.W.mg_of KX G (by k_is)
   case x1=>k_exc
   case x6 | x7=>exact PySem.W.mg_none_of KX G (by k_is)
   case y0 | y1 | y2 | y3 | y4 | y5 | y6 | y7 | z0 | z1 | z2 | z3 | z4 | z5 | z6 | z7=>(first | k_is | kernel_rfl)
