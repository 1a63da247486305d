import PyProof.Rows.All
import Wide.All
import OpenK.AllK
import Wide.FinOn
import Lean
import PySem.SetOps
import PyProof.SetScanFacts
import PyProof.SetKind
import PyProof.IsRules
import PyProof.EqAt
import PyProof.EqKinds
import PyProof.TupleCall
import PyProof.TupleKey
import PyProof.P3Eq
import Wide.Seal
import PyProof.StrCalls
import PyProof.SeqI3
import PyProof.Draws
import PyProof.EnumMake
import PyProof.DictValues
import PyProof.DictWalks
import PyProof.TupleOfSeq
import PyProof.TupleOfGen
import KE.KDictList
import PyProof.AttrMiss
import PyProof.IsiH_list
import KE.KRevIter
import PyProof.MinMaxWalk
import PyProof.Rows.CallKwBuiltin
import KE.KSortTup
import PyProof.Rows.SortWalk
import PyProof.Rows.SortShell
import PyProof.DictIter
import PyProof.P3In
import PyProof.Rows.SortStr
import PyProof.MeetsStr
import PyProof.FactsAll.str_6
import PyProof.StrCalls2
import PyProof.MeetsStr2
import KE.KIntText
import PyProof.SliceStr2
import PyProof.Rows.Range3
import PyProof.SetRoads
import PyProof.Rows.SetFrom
import PyProof.SetNew
import PyProof.WalksMore
import PyProof.FactsAll.set_2
import PySem.Challenge.RW_staymark_k75_whole_back_and_twins
set_option Elab.async false
set_option linter.all false
set_option maxRecDepth 100000
set_option maxHeartbeats 4000000
set_option compiler.extract_closed false
set_option bootstrap.genMatcherCode false
set_option genSizeOf false
local macro_rules | `(⋯) => `(by kernel_rfl)
open PySem renaming PyData→rG,wpAny_bind→rH,Value→rJ,wpAny_pure→rL,Shared→rM,Addr→rN,Spec→rO,starEach→rP,Program→sE,model→sM,attributeBase→sQ,World→sT,swapsWith→tH,Heap→tL,backTo→tR,DictEntry→tV,Around→tY,wpAny_dictEpoch→uE,mainGlobals→uI,keywordEach→uJ,Paired→uL,wpAny_newObj_type→uP,foldedSetIterable→uQ,wpAny_holding→uW,wpAny_call_entry→uX,cLine→uY,wpAny_callSpecial?_slot→vD,wpAny_mono→vE,wpAny_loadPart'→vG,compareOp→vH,wpAny_dictEntries→vM,Stmt→vN,wpAny_rule→vT,FuncData→vZ,backToKw→wI,sysModules→wK,relabel→wM,CmpOp→wP,Keyword→wU,wpAny_specialOf→wV,mem_of_lookup→xJ,wpAny_truthy_bool→xK,Builtin→xM,wpAny_typeNameOfWhole_keyiter→xV,wpAny_of_eq→xW,wpAny_Call_Name_kw→xX,wpAny_passesOwn→yD,SetTable→yE,wpAny_notOrdered_dict→yI,rawInt→yJ,wpAny_forIn_list→yV,bootBuiltins→yW,bindArgs→zA,wpAny_field→zE,getMethod→zF,builtinLookup_eq_fast→zT,wpAny_isInstance→zV,wpAny_updateDictKeys→a8,sliceBounds→a9,sizeLine_eq→b9,getItem→g9,wpAny_setField→i5,callWith→i6,NameKind→i9,wpAny_sequenceKey→j8,wpAny_Call_method→j9,codeAny→k9,wpAny_attempt→l5,binaryOp→o7,pyNext→t9,codeAny_mono→u8,call_meetsIn→u9,builtinsNs→v4,wpAny_execs_nil→v6,typeLookup_type→v7,letOwnedTupleGo→v8,wpAny_isOneOf_keyiter→w8,isSubtype_type→z5,firstArgMember→z6,Params→z7,IsPart→z9,dictSetHashed→AK,call_meets→AR,assignEach→AS,wpAny_typeOf→AZ,slot_list_getitem→BA,callerA→BB,noFill_tuple_add→BL,beq_builtin_none→BN,subscripted→BR,IsRangeIter→BZ,codeAny_builtin→CA,Within→CC,dictGet→CH,setField→CN,carriedByValue→CO,ReadsAll→CP
open PySem.W renaming Frag→rK,fnOf→sY,keepIn→tJ,findIn→uZ,codeIn→vA,emptyDict→vU,instObj→xA,isFn→yX,nsIn→zP,plainGet→i0,methodCall_KW→j5,lookIn→l6,plainGet_of→o9,methodObj→x4,hasDictIn→x5,takerIn→AF,makesIn→AG,cellsFrom_some→BO,callWith_K0→CI,callWith_K→CQ,plainOver→CZ
open List renaming getElem?_eq_some_iff→rQ,mem_cons→rT,map_cons→rV,size_toArray→rX,length_map→rY,length_append→sA,getElem?_map→sB,length_cons→sD,mem_append→sF,replicate→sG,getElem?_eq_getElem→sH,getElem?_append_left→sI,getElem?_append_right→sK,mem_singleton→sO,set_cons_zero→sR,set_cons_succ→sS,map_append→sV,mem_map→tE,length_eq_zero_iff→tK,nil_append→tM,find?_cons→tP,mem_of_getElem?→tZ,length_take→uD,append_nil→uG,not_mem_nil→uH,getElem?_set→uK,mem_cons_of_mem→uM,drop_eq_getElem_cons→uO,nodup_cons→uR,length_nil→uS,mem_map_of_mem→uU,getElem?_eq_none→vJ,mem_cons_self→vO,getElem?_replicate→vP,getElem?_cons_zero→vQ,cons_append→vR,range→vV,drop_eq_nil_of_le→vW,mem_filter→vX,mem_append_right→wB,length_replicate→wC,pairwise_cons→wG,all_eq_true→wH,nodup_append→wO,replicate_succ→wR,map_nil→wT,filter_cons→wW,length_zipWith→xL,mem_range→xN,flatten_cons→xY,append_assoc→xZ,drop_zero→yG,length_drop→yM,length_reverse→yP,getElem?_range→yQ,lookup→yY,length→yZ,ext_getElem?→zC,length_singleton→zG,take_append_of_le_length→zM,pairwise_append→zN,getElem?_set_ne→zO,length_set→zU,reverse_append→zY,zip_cons_cons→c7,pairwise_singleton→j0,getElem?_cons_succ→j3,take_of_length_le→l0,mem_iff_getElem?→n4,getElem?_reverse→n6,nodup_nil→q9,mem_append_left→t8,filterMap_cons→v9,mem_filterMap→x8,foldl→y4,reverse_cons→AB,lookup_cons→AL,getElem_inj→AM,of_mem_zip→AV,forIn_cons→AW,nodup_iff_pairwise_ne→BI,getD_eq_getElem?_getD→BJ,any_cons→BY,toArray→CJ,map_map→CK,getElem?_set_self→CL,length_filter_le→CW,dropLast_eq_take→CY,reverse_reverse→DB,mem_of_mem_take→DC,getElem?_mapIdx→DD,dropLast_concat→DG
open PySem.Heap renaming get?_push_of_some→rW,get?_push_size→sL,lt_size→sN,get?_update_self→vK,get?_update_ne→yR,SameBut→zZ,size_push→BK
open PySem.PyData renaming eqv→rZ,strOk→sW,depthAll→uC,depth→uF,str→uT,int→wA,canLayAll0→wL,tuple→wQ,eqvAll→yO,bool→l8,none→AH
open Nat renaming le_refl→sC,le_trans→sJ,lt_of_lt_of_le→sP,ne_of_lt→tG,zero_le→uA,not_lt→uV,sub_self→xE,reduceSub→xF,reduceAdd→xG,lt_irrefl→xH,min_le_right→xO,lt_succ_self→zI,le_succ→zR,min_le_left→zX,ne_of_gt→c6,lt_of_le_of_lt→c9,le_succ_of_le→i4,min_eq_left→l9,add_sub_cancel→z8,succ_le_succ→AT,mul_comm→CS,lt_or_ge→CT,le_of_lt→CU,le_of_eq→CV
open Bool renaming and_eq_true→sU,false_eq_true→tU,false_ne_true→vB,not_eq_true'→zD,not_true→zK,or_eq_true→l7
open Option.some renaming inj→sZ,injEq→BX
open PySem.Value renaming ref→tW,none→wN,bool→j4,notImplemented→o8,type→BC,str→BU
open PySem.F renaming plainAttrs_list→uB,type_list_append→wD,slot_list_append→wE,plainAttrs_dict→yU,args_tuple_add_2→c8,entry_tuple_add→i3,slot_tuple_add→i8,type_list_pop→j6,slot_list_pop→j7,type_dict_get→BV,slot_dict_get→BW
open PySem.PassesOwn renaming never→uN
open Array renaming getElem?_eq_getElem→vF,getElem?_toList→xU,length_toList→yN,all_toList→AJ,toList→CG
open PyProof.Rows renaming callWith_type1→vI,slot_tuple_getitem→vS,AllBare→v5,IsTup→w6,slot_tuple_getitem→AO,envOfC→AQ,StrsAre→BD
open Option renaming isSome_iff_exists→wF,map_eq_some_iff→xP,map_some→zL,bind_eq_some_iff→BQ
open List.cons renaming injEq→wJ
open PySem.Calls renaming callWith_builtin→wS,spliced_cons→wY,evalArgs_plain→yF,spliced_nil→zB,Name_function_global→BF,call_len_list→DH
open False renaming elim→wX
open ForInStep renaming yield→wZ
open PySem.Heap.SameBut renaming update→xB
open PySem.Obj renaming mapDictKeys→xD,data_mapFields→xS,isFreed_of_dict→yT,data_mapDictKeys→zQ,isFreed_of_fields→p0,mapFields→CD
open LawfulBEq renaming eq_of_beq→xI
open PySem.NameKind renaming free→xQ
open PySem.Str renaming ofString→xR,join→yK
open PySem.Builtin.Slice renaming slicePlaces→xT,sliceAdjust→zJ,sliceApplied→x6
open PySem.Builtin.Tuple renaming tupleExact→yA,tupleItemsOf→zH,tupleCompareSizes→o0,tupleHashOf→y9
open Classical renaming byContradiction→yB
open PySem.Builtin.List renaming listTooLong→yC
open PySem.Builtin.Range renaming rangeSize→yH,small→AX
open List.Perm renaming refl→zS
open Int renaming emod_lt_of_pos→e8,emod_nonneg→n8
open PySem.Builtin.Dict renaming showsAll→e9,keyAndDefault→z0,updateFrom→AI,mergeDict→AN,missed→BG
open PySem.Builtin.Dict_items renaming ownsTuple→l4
open PySem.Around renaming under_plainId→o5,under→z4
open List.Nodup renaming length_le_of_subset→w5
open Sum renaming inr→AC,inl→AD
open PySem.SeqAt.ReadsAll renaming length→AE
open List.Pairwise renaming filter→AU
open PySem.AutoSeq1 renaming sub_tuple_tuple→AY,idx_int→DJ
open PySem.DictEntry renaming mk→BE
open PySem.PyData.tuple renaming injEq→BH
open PyProof renaming noPylong_small→BP
open PySem.Heap.ExtBut renaming push→CF
open PySem.Code renaming isFrame→CM
section
namespace Sm
open PySem PySem.SetTable
theorem few:∀ (n:Nat) (L:List Nat),(∀ e,e < n->e∈L)->n<=L.length:=by
 intro iN; induction iN with
 | zero=>intro _ _; exact uA _
 | succ n ih =>
   intro L h; have a:=h n (by lia);have b:=ih (L.erase n) (fun e he=>(List.mem_erase_of_ne (by lia)).mpr (h e (by lia)));have c:=List.length_erase_of_mem a; have d:=List.length_pos_of_mem a;lia
theorem room {L:List Nat} {mask:Nat} (h:L.length<=mask):∃ e,e<=mask/\e∉L:=by
 by_cases c:∃ e,e<=mask/\e∉L
 . exact c
 . have:=few (mask+1) L (fun e he=>yB fun hn=>c ⟨e,by lia,hn⟩)
   lia
end Sm
end
section
namespace Sm
open PySem PySem.SetTable
end Sm
end
section
namespace Sm
open PySem PySem.SetTable
end Sm
end
section
namespace Sm
open PySem PySem.SetTable
end Sm
end
section
namespace Sm
open PySem PySem.SetTable
structure Elems (prog:sE) (w:sT) (A:tY) (E:rJ->rM->Prop) (a:rN) where
 D:Type
 dec:DecidableEq D
 I:rM->Prop
 R:rJ->D->Prop
 hash:D->Int
 heap:∀ {s:rM} {h':tL},I s->zZ a s.heap h'->I { s with heap:=h' }
 toks:∀ {s:rM} (tk:Nat),I s->I { s with toks:=tk }
 ref:∀ {v:rJ} {d:D},R v d->∃ b,v=.ref b
 eqB:∀ {s:rM} {y x:rJ} {d d':D} {Q:Bool->rM->Prop},I s->R y d->R x d'->Q (@decide (d=d') (dec d d')) s->wpAny (sM prog w) A (eqBool y x) Q E s
 byV:∀ {s:rM} {x:rJ} {d:D} {Q:Bool->rM->Prop},I s->R x d->(∀ b,Q b s)->wpAny (sM prog w) A (hashByValue 8 x) Q E s
 seen:∀ {s:rM} {x:rJ} {d:D} {ys:List rJ} {Q:Bool->rM->Prop},I s->R x d->(∀ y,y∈ys->∃ d',R y d')->Q false s->wpAny (sM prog w) A (searchCouldBeSeen x ys) Q E s
end Sm
end
section
namespace Sm
open PySem PySem.SetTable
end Sm
end
namespace L2
open PySem PySem.Spec PyProof.Rows
abbrev Key:=Sum Int Str
def mX:Key->rJ->Bool
 | .inl k,v=>Value.isInt k v
 | .inr x,v=>Value.isStrOf x v
def keyH (w:sT):Key->Int
 | .inl k=>hashInt k
 | .inr x=>hashStr w x
theorem K6:∀ {k:Key} {v:rJ},mX k v=true->(∃ i t,k=AD i/\v=Value.int i t)\/(∃ x t,k=AC x/\v=BU x t)
 | .inl i,v,h=>by
   obtain ⟨t,e⟩:=Value.isInt_shape (k:=i) (v:=v) h; exact .inl ⟨i,t,rfl,e⟩
 | .inr x,v,h=>by
   obtain ⟨t,e⟩:=Value.isStrOf_shape (x:=x) (v:=v) h; exact .inr ⟨x,t,rfl,e⟩
theorem pY (a b:Int):decide ((AD a:Key)=AD b)=(a==b):=by
 by_cases e:a=b
 . subst e; simp
 . have h:¬ (AD a:Key)=AD b:=fun q=>e (Sum.inl.inj q)
   rw [decide_eq_false h]; exact (beq_eq_false_iff_ne.mpr e).symm
theorem pV (a b:Str):decide ((AC a:Key)=AC b)=decide (a=b):=by
 by_cases e:a=b
 . subst e; simp
 . have h:¬ (AC a:Key)=AC b:=fun q=>e (Sum.inr.inj q)
   rw [decide_eq_false h,decide_eq_false e]
theorem pX (a:Int) (b:Str):decide ((AD a:Key)=AC b)=false:=decide_eq_false (fun q=>nomatch q)
theorem pW (a:Str) (b:Int):decide ((AC a:Key)=AD b)=false:=decide_eq_false (fun q=>nomatch q)
def Qp (prog:sE) (w:sT):PySem.KeyKind prog w Key where
 is:=mX
 hash:=keyH w
 inj:=fun v a b ha hb=>by
   rcases K6 ha with ⟨i,t,rfl,rfl⟩ | ⟨x,t,rfl,rfl⟩
   . rcases K6 hb with ⟨j,u,rfl,e⟩ | ⟨y,u,rfl,e⟩
     . injection e with e1 _; rw [e1]
     . exact nomatch e
   . rcases K6 hb with ⟨j,u,rfl,e⟩ | ⟨y,u,rfl,e⟩
     . exact nomatch e
     . injection e with e1 _; rw [e1]
 byValue:=fun k v h=>by
   rcases K6 h with ⟨i,t,rfl,rfl⟩ | ⟨x,t,rfl,rfl⟩ <;> rfl
 pyHash:=fun hv h=>by
   rcases K6 hv with ⟨i,t,rfl,rfl⟩ | ⟨x,t,rfl,rfl⟩
   . exact wpAny_pyHash_int h
   . exact wpAny_pyHash_str h
 eqBool:=fun hu hv h=>by
   rcases K6 hu with ⟨i,t,rfl,rfl⟩ | ⟨x,t,rfl,rfl⟩
   . rcases K6 hv with ⟨j,u,rfl,rfl⟩ | ⟨y,u,rfl,rfl⟩
     . rw [pY] at h; exact wpAny_eqBool_int h
     . rw [pX] at h; exact SeqAt.EqAt.int_str i t y u _ _ _ _ h
   . rcases K6 hv with ⟨j,u,rfl,rfl⟩ | ⟨y,u,rfl,rfl⟩
     . rw [pW] at h; exact SeqAt.EqAt.str_int x t j u _ _ _ _ h
     . rw [pV] at h; exact wpAny_eqBool_str h
 «strs» := fun k x t v h=>by
   rcases K6 h with ⟨i,u,rfl,e⟩ | ⟨y,u,rfl,e⟩
   . exact nomatch e
   . injection e with e1 _
     subst e1;cases v <;> rfl
end L2
namespace L2
open PySem PySem.Spec PyProof.Rows
inductive V where
 | non | bl (b:Bool) | int (i:Int) | str (x:Str) | byt (b:Array UInt8) | flt (b:UInt64) | ref (a:rN) | ty (n:String)
 deriving DecidableEq
def RelV:V->rJ->Prop
 | .non,u=>u=wN
 | .bl b,u=>u=j4 b
 | .int i,u=>∃ t,u=Value.int i t
 | .str x,u=>∃ t,u=BU x t
 | .byt b,u=>∃ t,u=Value.bytes b t
 | .flt b,u=>∃ t,u=Value.float b t
 | .ref a,u=>u=tW a
 | .ty n,u=>u=BC n
abbrev Vals:List V->List rJ->Prop:=uL RelV
theorem Vals.length {xs:List V} {us:List rJ} (r:Vals xs us):xs.length=us.length:=Paired.length r
theorem Vals.get:∀ {xs:List V} {us:List rJ} {i:Nat} {x:V},Vals xs us->xs[i]? = some x->∃ u,us[i]? = some u/\RelV x u
 | _,_,_,_,.nil,e=>by simp at e
 | _,_,0,_,.cons r _,e=>by simp at e; subst e; exact ⟨_,rfl,r⟩
 | _,_,i+1,x,.cons _ t,e=>by
   obtain ⟨u,h1,h2⟩:=Vals.get (i:=i) (x:=x) t (by simpa using e);exact ⟨u,by simpa using h1,h2⟩
theorem Vals.append:∀ {xs ys:List V} {us ws:List rJ},Vals xs us->Vals ys ws->Vals (xs++ys) (us++ws)
 | _,_,_,_,.nil,s=>s
 | _,_,_,_,.cons r t,s=>.cons r (Vals.append t s)
theorem Vals.take:∀ {xs:List V} {us:List rJ} (n:Nat),Vals xs us->Vals (xs.take n) (us.take n)
 | _,_,0,_=>.nil
 | _,_,_+1,.nil=>.nil
 | _,_,n+1,.cons r t=>.cons r (Vals.take n t)
theorem Vals.drop:∀ {xs:List V} {us:List rJ} (n:Nat),Vals xs us->Vals (xs.drop n) (us.drop n)
 | _,_,0,r=>r
 | _,_,_+1,.nil=>.nil
 | _,_,n+1,.cons _ t=>Vals.drop n t
def RelO:Option V->Option rJ->Prop
 | some v,some u=>RelV v u
 | none,none=>True
 | _,_=>False
def KV {κ:Type}:List (κ×V)->List (κ×rJ)->Prop:=uL fun (p:κ×V) (q:κ×rJ)=>p.1=q.1/\RelV p.2 q.2
def kV:Key->V
 | .inl i=>.int i
 | .inr x=>.str x
inductive HO where
 | lst (xs:List V)
 | tup (xs:List V)
 | dK (kvs:List (Key×V)) | dT (kvs:List (List Key×V))
 | dN (kvs:List (rG×V))
 | set (S:Int->Bool) (n:Nat)
 | ins (C dx:rN) (fs:List (Str×V))
 | own (x:rN)
 | xd (fs:List (Str×V))
 | met (f x:rN)
 | rng (lo hi:Int)
 | frz (o:Obj) (u:HO)
 | tbl (ps:Array rJ)
 | ext (φ:tL->Prop)
abbrev Hp:=rN->Option HO
def upd (H:Hp) (a:rN) (o:HO):Hp:=fun b=>if b=a then some o else H b
theorem B7 {H:Hp} {a:rN} {o:HO}:upd H a o a=some o:=by unfold upd; rw [if_pos rfl]
theorem B4 {H:Hp} {a b:rN} {o:HO} (h:b≠a):upd H a o b=H b:=by unfold upd; rw [if_neg h]
theorem Xk {H:Hp} {a:rN} {o u:HO}:upd (upd H a o) a u=upd H a u:=by
 funext b; unfold upd; split <;> rfl
theorem P6 {H:Hp} {a b:rN} {o u:HO} (h:H a=some o) (h':H b=some u) (d:o≠u):a≠b:=by
 intro e; subst e; rw [h] at h'; exact d (sZ h')
theorem C0 {H:Hp} {a b:rN} {o:HO} (h:H a=some o) (h':H b=none):a≠b:=by
 intro e; subst e; rw [h] at h'; cases h'
mutual
def isK:rG->Bool
 | .int _=>true
 | .str _=>true
 | .tuple xs=>Fe xs
 | .none | .bool _ | .list _ | .dict _=>false
def Fe:List rG->Bool
 | []=>true
 | x::r=>isK x&&Fe r
end
mutual
def Tt (w:sT):rG->Int
 | .int i=>hashInt i
 | .str x=>hashStr w x
 | .tuple xs=>reduceHash (y9 (Dz w xs))
 | .none | .bool _ | .list _ | .dict _=>0
def Dz (w:sT):List rG->List Int
 | []=>[]
 | x::r=>Tt w x::Dz w r
end
def N7 (w:sT):rG->Int
 | .none=>0xFCA86420
 | d=>Tt w d
def nkD (d:rG):Bool:=match d with
 | .none=>true
 | .str _=>true
 | .tuple xs=>Fe xs&&decide ((wQ xs).depth<=8)
 | _=>false
mutual
def KRep (H:Hp):rG->V->Prop
 | .none,v=>v=.non
 | .int i,v=>v=.int i
 | .str x,v=>v=.str x/\sW x=true/\x.length<=sizeLine
 | .tuple ds,v=>∃ b xs,v=.ref b/\H b=some (.tup xs)/\KRepL H ds xs
 | .bool _,_=>False
 | .list _,_=>False
 | .dict _,_=>False
def KRepL (H:Hp):List rG->List V->Prop
 | [],xs=>xs=[]
 | d::ds,xs=>∃ x r,xs=x::r/\KRep H d x/\KRepL H ds r
end
mutual
theorem KRep.mono {H H':Hp} (ht:∀ b xs,H b=some (.tup xs)->H' b=some (.tup xs)):∀ {d:rG} {v:V},KRep H d v->KRep H' d v
 | .none,_,r=>r
 | .int _,_,r=>r
 | .str _,_,r=>r
 | .tuple _,_,r=>by obtain ⟨b,xs,e,q,l⟩:=r; exact ⟨b,xs,e,ht _ _ q,KRepL.mono ht l⟩
 | .bool _,_,r=>r.elim
 | .list _,_,r=>r.elim
 | .dict _,_,r=>r.elim
theorem KRepL.mono {H H':Hp} (ht:∀ b xs,H b=some (.tup xs)->H' b=some (.tup xs)):∀ {ds:List rG} {xs:List V},KRepL H ds xs->KRepL H' ds xs
 | [],_,r=>r
 | _::_,_,r=>by obtain ⟨x,t,e,q,l⟩:=r; exact ⟨x,t,e,KRep.mono ht q,KRepL.mono ht l⟩
end
def E1 (w:sT) (kvs:List (rG×V)) (xs:List (rJ×rJ)):List tV:=List.zipWith (fun p q=>⟨N7 w p.1,q.1,q.2⟩) kvs xs
section
variable (P:sE) (w:sT)
def ObjOk (H:Hp) (h:tL) (a:rN):HO->Prop
 | .lst xs=>xs.length<=sizeLine/\∃ (its:List rJ) (n:Nat),Vals xs its/\h.get? a=some { cls:=.type "list",data:=.seq its.toArray n }
 | .tup xs=>xs.length<=sizeLine/\∃ its:List rJ,Vals xs its/\w6 h a its.toArray
 | .dK kvs=>kvs.length<=sizeLine/\(a==wK)=false/\∃ vs,KV kvs vs/\h.DictOf (Qp P w) a vs
 | .dT kvs => kvs.length <= sizeLine /\ (a == wK) = false /\ ∃ xs : List (List Key × rN × rJ),
     uL (fun (p:List Key×V) (q:List Key×rN×rJ)=>p.1=q.1/\H q.2.1=some (.tup (p.1.map kV))/\RelV p.2 q.2.2) kvs xs /\
     ∃ o es ep,h.get? a=some o/\o.ExactDict/\o.data=.dict es ep/\es.toList=xs.map (entryOfKey (tupleKind (Qp P w)))/\(xs.map (·.1)).Nodup
 | .dN kvs => kvs.length <= sizeLine /\ (a == wK) = false /\ (kvs.map (·.1)).Nodup /\ (∀ p ∈ kvs, nkD p.1 = true) /\ ∃ xs : List (rJ × rJ),
     uL (fun (p:rG×V) (q:rJ×rJ)=>(∃ v,KRep H p.1 v/\RelV v q.1)/\RelV p.2 q.2) kvs xs/\∃ ep,h.get? a=some { cls:=.type "dict",data:=.dict (E1 w kvs xs).toArray ep }
 | .set S n=>h.SetOf (intKind P w) a S n
 | .ins C dx fs => H dx = some (.own a) /\ fs.length <= 1000 /\ dx ≠ a /\ h.get? a = some (xA C dx) /\
     ∃ mA,h.Ns1 dx mA/\(∀ f,RelO (fs.lookup f) (mA f))/\CC mA (fs.map (·.1))
 | .own _=>∃ o,h.get? a=some o
 | .xd fs=>∃ mA,h.Ns1 a mA/\∀ f,RelO (fs.lookup f) (mA f)
 | .rng lo hi=>∃ t u v,h.get? a=some { cls:=.type "range",data:=.fields #[.int lo t,.int hi u,.int 1 v] }
 | .frz o u=>h.get? a=some o/\ObjOk H h a u
 | .tbl ps=>h.get? a=some { cls:=.none,data:=.fields ps }
 | .met f x=>h.get? a=some (x4 (.ref f) (.ref x))
 | .ext φ=>φ h/\(∃ o,h.get? a=some o)/\∀ h1 h2:tL,φ h1->(∀ o,h1.get? a=some o->h2.get? a=some o)->φ h2
def HOk (H:Hp) (h:tL):Prop:=∀ a o,H a=some o->ObjOk P w H h a o
end
section
variable {P:sE} {w:sT} {H H':Hp} {h h':tL} {a:rN} {o:HO}
theorem ObjOk.lt (x:ObjOk P w H h a o):a < h.objs.size:=by
 cases o with
 | lst xs=>obtain ⟨_,_,_,_,e⟩:=x; exact sN e
 | tup xs=>obtain ⟨_,_,_,p⟩:=x; exact p.lt
 | dK kvs=>obtain ⟨_,_,_,_,o,_,_,e,_⟩:=x; exact sN e
 | dT kvs=>obtain ⟨_,_,_,_,o,_,_,e,_⟩:=x; exact sN e
 | dN kvs=>obtain ⟨_,_,_,_,_,_,_,e⟩:=x; exact sN e
 | set S n=>obtain ⟨o,_,_,_,e,_⟩:=x; exact sN e
 | ins C dx fs=>obtain ⟨_,_,_,e,_⟩:=x; exact sN e
 | own y=>obtain ⟨_,e⟩:=x; exact sN e
 | xd fs=>obtain ⟨_,⟨_,_,_,e,_⟩,_⟩:=x; exact sN e
 | rng lo hi=>obtain ⟨_,_,_,e⟩:=x; exact sN e
 | frz ob u=>obtain ⟨e,_⟩:=x; exact sN e
 | tbl ps=>exact sN (show h.get? a=some _ from x)
 | met f y=>exact sN (show h.get? a=some _ from x)
 | ext φ=>obtain ⟨_,⟨_,e⟩,_⟩:=x; exact sN e
theorem Paired.mapP {α β:Type} {F G:α->β->Prop}:∀ {l₁:List α} {l₂:List β},uL F l₁ l₂->(∀ a b,F a b->G a b)->uL G l₁ l₂
 | _,_,.nil,_=>.nil
 | _,_,.cons r t,f=>.cons (f _ _ r) (Paired.mapP t f)
theorem ObjOk.stay (x:ObjOk P w H h a o) (k:∀ b u,(b=a\/H b=some (.own a))->h.get? b=some u->h'.get? b=some u)
   (ho:∀ b,H b=some (.own a)->H' b=some (.own a)) (ht:∀ b xs,H b=some (.tup xs)->H' b=some (.tup xs)):ObjOk P w H' h' a o:=by
 induction o with
 | lst xs=>obtain ⟨z,its,n,r,e⟩:=x; exact ⟨z,its,n,r,k _ _ (.inl rfl) e⟩
 | tup xs=>obtain ⟨z,its,r,ob,e,c⟩:=x; exact ⟨z,its,r,ob,k _ _ (.inl rfl) e,c⟩
 | dK kvs=>obtain ⟨z,y,vs,r,ob,es,ep,e,c⟩:=x; exact ⟨z,y,vs,r,ob,es,ep,k _ _ (.inl rfl) e,c⟩
 | dT kvs =>
   obtain ⟨z,y,xs,r,ob,es,ep,e,c⟩:=x; exact ⟨z,y,xs,Paired.mapP r fun p q z=>⟨z.1,ht _ _ z.2.1,z.2.2⟩,ob,es,ep,k _ _ (.inl rfl) e,c⟩
 | dN kvs =>
   obtain ⟨z,y,nd,nk,xs,r,ep,e⟩:=x; exact ⟨z,y,nd,nk,xs,Paired.mapP r fun p q hZ2=>by obtain ⟨⟨v,z1,z2⟩,z3⟩:=hZ2; exact ⟨⟨v,z1.mono ht,z2⟩,z3⟩,ep,k _ _ (.inl rfl) e⟩
 | set S n=>obtain ⟨ob,es,ep,t,e,c⟩:=x; exact ⟨ob,es,ep,t,k _ _ (.inl rfl) e,c⟩
 | ins C dx fs =>
   obtain ⟨d,z,ne,e,mA,⟨od,es,ep,e2,c⟩,r⟩:=x; exact ⟨ho _ d,z,ne,k _ _ (.inl rfl) e,mA,⟨od,es,ep,k _ _ (.inr d) e2,c⟩,r⟩
 | own y=>obtain ⟨ob,e⟩:=x; exact ⟨ob,k _ _ (.inl rfl) e⟩
 | xd fs=>obtain ⟨mA,⟨od,es,ep,e,c⟩,r⟩:=x; exact ⟨mA,⟨od,es,ep,k _ _ (.inl rfl) e,c⟩,r⟩
 | rng lo hi=>obtain ⟨t,u,v,e⟩:=x; exact ⟨t,u,v,k _ _ (.inl rfl) e⟩
 | frz ob u ih=>obtain ⟨e,q⟩:=x; exact ⟨k _ _ (.inl rfl) e,ih q⟩
 | tbl ps =>
   have e:h.get? a=some { cls:=.none,data:=.fields ps }:=x; show h'.get? a=some { cls:=.none,data:=.fields ps };exact k a _ (.inl rfl) e
 | met f y =>
   have e:h.get? a=some (x4 (.ref f) (.ref y)):=x; show h'.get? a=some (x4 (.ref f) (.ref y));exact k a _ (.inl rfl) e
 | ext φ=>obtain ⟨p,⟨o,e⟩,st⟩:=x; exact ⟨st _ _ p fun o q=>k _ _ (.inl rfl) q,⟨o,k _ _ (.inl rfl) e⟩,st⟩
theorem HOk.lt (x:HOk P w H h) (e:H a=some o):a < h.objs.size:=(x a o e).lt
theorem HOk.fresh (x:HOk P w H h) (e:h.objs.size<=a):H a=none:=by
 cases q:H a with
 | none=>rfl
 | some u=>exact absurd (sP (x.lt q) e) (xH _)
theorem HOk.kept (x:HOk P w H h) (k:∀ b u,h.get? b=some u->h'.get? b=some u):HOk P w H h':=fun a o e =>
 (x a o e).stay (fun b u _ q=>k b u q) (fun _ q=>q) fun _ _ q=>q
theorem HOk.laid (x:HOk P w H h) (k:∀ b u,h.get? b=some u->h'.get? b=some u) (hp:h.objs.size<=a) (new:ObjOk P w (upd H a o) h' a o):HOk P w (upd H a o) h':=fun b u e=>by
 have hn:=x.fresh hp;by_cases hb:b=a
 . subst hb; rw [B7] at e; cases e; exact new
 . rw [B4 hb] at e
   exact (x b u e).stay (fun c v _ q=>k c v q) (fun c q=>by rw [B4 (C0 q hn)]; exact q) fun c xs q=>by rw [B4 (C0 q hn)]; exact q
end
def Rd (H:Hp) (a:rN) (u:HO):Prop:=H a=some u\/∃ o,H a=some (.frz o u)
theorem Rd.ok {P:sE} {w:sT} {H:Hp} {h:tL} {a:rN} {u:HO} (r:Rd H a u) (x:HOk P w H h):ObjOk P w H h a u:=by
 rcases r with r | ⟨o,r⟩
 . exact x a u r
 . obtain ⟨_,q⟩:=x a _ r
   exact q
def Mut:Option HO->Prop
 | some (.lst _)=>True
 | some (.dK _)=>True
 | some (.dT _)=>True
 | some (.dN _)=>True
 | some (.set _ _)=>True
 | some (.ins _ _ _)=>True
 | some (.ext _)=>True
 | _=>False
section
variable {P:sE} {w:sT} {H:Hp} {h h':tL} {x e:rN} {o':HO}
theorem HOk.write (ok:HOk P w H h) (mu:Mut (H x)) (he:e=x\/H e=some (.own x)) (k:∀ b u,b≠e->h.get? b=some u->h'.get? b=some u) (heo:∃ u,h'.get? e=some u)
   (new:ObjOk P w (upd H x o') h' x o'):HOk P w (upd H x o') h':=fun b u q=>by
 have nown:∀ c y,H c=some (.own y)->c≠x:=fun c y r z=>by subst z; rw [r] at mu; exact mu
 have ntup:∀ c xs,H c=some (.tup xs)->c≠x:=fun c xs r z=>by subst z; rw [r] at mu; exact mu
 by_cases hb:b=x
 . subst hb; rw [B7] at q; cases q; exact new
 . rw [B4 hb] at q
   by_cases hbe:b=e
   . have q' : H b = some (.own x) := by
       rcases he with z | z
       . exact absurd (hbe.trans z) hb
       . rw [hbe]; exact z
     rw [q] at q'; cases q';obtain ⟨v,hv⟩:=heo; exact ⟨v,by rw [hbe]; exact hv⟩
   . refine (ok b u q).stay (fun c v hc r=>k c v ?_ r) (fun c r=>by rw [B4 (nown c b r)]; exact r) fun c xs r=>by rw [B4 (ntup c xs r)]; exact r
     rcases hc with rfl | hc
     . exact hbe
     . rintro rfl
       rcases he with z | z
       . exact nown c b hc z
       . rw [hc] at z; cases z; exact hb rfl
end
structure Un (fs ex:List rN) (H H':Hp) (h h':tL):Prop where
 keep:∀ b o,h.get? b=some o->H b=none->b∉fs->b∉ex->h'.get? b=some o
 slot:∀ b o,h.get? b=some o->H b=none->b∈fs->b∉ex->∃ sl,h'.get? b=some { o with slots:=sl }
 free:∀ b o,h.get? b=some o->H b=none->b∉ex->H' b=none
 there:∀ b o,h.get? b=some o->b∉ex->∃ o',h'.get? b=some o'
 tups:∀ b xs,H b=some (.tup xs)->H' b=some (.tup xs)
 frzs:∀ b o u,H b=some (.frz o u)->H' b=some (.frz o u)
 tbls:∀ b ps,H b=some (.tbl ps)->∃ more,H' b=some (.tbl (ps++more))
section
variable {fs ex:List rN} {H H1:Hp} {h h1 h':tL} {a x e:rN} {o:HO}
theorem Un.any (u:Un fs ex H H1 h h1) {b:rN} {ob:Obj} (q:h.get? b=some ob) (n:H b=none) (hx:b∉ex):∃ sl,h1.get? b=some { ob with slots:=sl }:=by
 by_cases hb:b∈fs
 . exact u.slot b ob q n hb hx
 . exact ⟨ob.slots,u.keep b ob q n hb hx⟩
theorem Un.kept (k:∀ b u,h.get? b=some u->h'.get? b=some u):Un fs ex H H h h' :=
 ⟨fun b ob q _ _ _=>k b ob q,fun b ob q _ _ _=>⟨ob.slots,k b ob q⟩,fun _ _ _ n _=>n,fun b ob q _=>⟨ob,k b ob q⟩,fun _ _ q=>q,fun _ _ _ q=>q,fun _ ps q=>⟨#[],by rw [q]; simp⟩⟩
theorem Un.refl:Un fs ex H H h h:=Un.kept fun _ _ q=>q
theorem Un.laid (k:∀ b u,h.get? b=some u->h'.get? b=some u) (hp:h.objs.size<=a) (hn:H a=none):Un fs ex H (upd H a o) h h' where
 keep:=fun b u q _ _ _=>k b u q
 slot:=fun b u q _ _ _=>⟨u.slots,k b u q⟩
 free:=fun b u q n _=>by rw [B4 (tG (sP (sN q) hp))]; exact n
 there:=fun b u q _=>⟨u,k b u q⟩
 tups:=fun b xs q=>by rw [B4 (C0 q hn)]; exact q
 frzs:=fun b u xs q=>by rw [B4 (C0 q hn)]; exact q
 tbls:=fun b ps q=>⟨#[],by rw [B4 (C0 q hn),q]; simp⟩
theorem Un.write (mu:Mut (H x)) (he:e=x\/H e=some (.own x)) (k:∀ b u,b≠e->h.get? b=some u->h'.get? b=some u) (heo:∃ u,h'.get? e=some u):Un fs ex H (upd H x o) h h':=by
 have hx:∀ b,H b=none->b≠x:=fun b n z=>by subst z; rw [n] at mu; exact mu
 have hb:∀ b,H b=none->b≠e:=fun b n z=>by
   subst z; rcases he with r | r
   . exact hx b n r
   . rw [n] at r; cases r
 have hm:∀ b u,H b=some u->¬ Mut (some u)->b≠x:=fun b u q nm z=>by subst z; rw [q] at mu; exact nm mu
 refine ⟨fun b u q n _ _=>k b u (hb b n) q,fun b u q n _ _=>⟨u.slots,k b u (hb b n) q⟩,fun b u q n _=>by rw [B4 (hx b n)]; exact n,fun b u q _=>?_,
   fun b xs q=>by rw [B4 (hm b _ q fun z=>z)]; exact q,fun b u xs q=>by rw [B4 (hm b _ q fun z=>z)]; exact q,fun b ps q=>⟨#[],by rw [B4 (hm b _ q fun z=>z),q]; simp⟩⟩
 by_cases hbe:b=e
 . subst hbe; exact heo
 . exact ⟨u,k b u hbe q⟩
end
def trk (h:tL) (H:Hp):List rN:=(vV h.objs.size).filter fun a=>(H a).isSome
def Qu (h:tL) (H:Hp):tL:=PySem.W.hideAll h (trk h H)
theorem aZ (h:tL) (H:Hp):(Qu h H).objs.size=h.objs.size:=PySem.W.hideAll_size _ _
theorem gF {h:tL} {H:Hp} {b:rN} {o:Obj} (e:h.get? b=some o) (n:H b=none):(Qu h H).get? b=some o :=
 PySem.W.hideAll_get _ e fun hm=>by
   have q:(H b).isSome=true:=(vX.mp hm).2; rw [n] at q; simp at q
theorem kP {h:tL} {H:Hp} {b:rN} {o:Obj} (e:(Qu h H).get? b=some o):h.get? b=some o/\H b=none:=by
 have e':h.get? b=some o:=PySem.W.of_hideAll (trk h H) e;refine ⟨e',?_⟩;cases q:H b with
 | none=>rfl
 | some x =>
   have hm:b∈trk h H:=vX.mpr ⟨xN.mpr (sN e'),by simp [q]⟩;have z:(Qu h H).get? b=none:=PySem.W.hideAll_none (trk h H) hm; rw [z] at e; cases e
def mJ (g h:tL) (L:rN):List (rN×Obj):=(vV h.objs.size).filterMap fun a=>if a=L\/(g.get? a).isSome=true then none else (h.get? a).map fun o=>(a,o)
def M9 (g h:tL) (L d:rN):List (rN×Obj):=(mJ g h L).filter fun p=>decide (p.1≠d)
end L2
namespace L2
open PySem PySem.Spec PyProof.Rows
structure Mod (K:rK) (mg:Str->Option rJ) (base:tL):Prop where
 kin:K.In base
 glob:base.Ns uI mg
 blt:∃ mb,base.Ns v4 mb/\∀ x:Str,x ≠ "__name__" -> mb x=yW x
 nolimit:base.NoLimit
structure Cx where
 prog:sE
 w:sT
 K:rK
 mg:Str->Option rJ
 base:tL
 A:tY
 N:List Str
 s₀:rM
 H₀:Hp
 env:Env
 outer:List Env
 stack:List Env
 ex:List rN
 fn:Str->Bool
 calm:Bool
 pn:List (rN×Obj)
 xe:rJ->rM->Prop
def frs (l:List Env):List rN:=l.filterMap (·.frame)
abbrev Cx.fs (X:Cx):List rN:=frs X.outer
def Vis (sc:Scope) (x:Str):Prop:=sc.names.lookup x=some .local\/sc.names.lookup x=some .cell\/sc.names.lookup x=some .free
def Loc (sc:Scope) (x:Str):Prop:=sc.names.lookup x=some .local\/sc.names.lookup x=some .cell
def Look (env:Env) (h:tL) (m:Str->Option rJ) (x:Str) (u:rJ):Prop :=
 (env.kindOf x=some .local/\m x=some u)\/((env.kindOf x=some .cell\/env.kindOf x=some .free)/\∃ c,env.cells.lookup x=some c/\h.IsCell c (some u))
structure Cx.Ok (X:Cx):Prop where
 mod:Mod X.K X.mg X.base
 kind:X.env.scope.kind=.function
 glob:X.env.globals=uI
 blt:X.env.builtins=v4
 above:X.s₀.heap.objs.size<=X.env.locals
 inj:∀ x y c,X.env.cells.lookup x=some c->X.env.cells.lookup y=some c->x=y
 has:∀ x,(X.env.kindOf x=some .cell\/X.env.kindOf x=some .free)->∃ c,X.env.cells.lookup x=some c
 cab:∀ x c,X.fn x=true->X.env.cells.lookup x=some c->X.s₀.heap.objs.size<=c
 hd:X.calm=true->X.A.handled=none
 frames:X.A.frames=some X.stack
 stk:X.stack=X.outer\/(X.stack=X.env::X.outer/\X.env.frame=some X.env.locals)
 exf:∀ b∈X.ex,b≠X.env.locals/\∀ x c,X.env.cells.lookup x=some c->c≠b
 bs:∀ b o,X.base.get? b=some o->X.s₀.heap.get? b=some o/\X.H₀ b=none
 bsz:X.base.objs.size<=X.s₀.heap.objs.size
 noex:∀ b o,X.base.get? b=some o->b∉X.ex
 exfs:∀ b∈X.ex,b∉X.fs
 funs:X.s₀.heap.FunFrames X.base X.outer
 frf:∀ b∈X.fs,X.H₀ b=none
structure Inv (X:Cx) (pins:List (rN×Obj)) (σ:List (Option V)) (H:Hp) (s:rM):Prop where
 ok:X.Ok
 os:s.os=X.s₀.os
 bare:v5 s.gens
 base:Un X.fs X.ex X.H₀ H X.s₀.heap s.heap
 loc:∃ m,s.heap.Ns X.env.locals m/\∀ (i:Nat) (x:Str) (v:V),X.N[i]? = some x->σ[i]? = some (some v)->Vis X.env.scope x->∃ u,RelV v u/\Look X.env s.heap m x u
 cell:∀ x c,X.env.cells.lookup x=some c->∃ v,s.heap.IsCell c v
 free:H X.env.locals=none
 freeC:∀ x c,X.env.cells.lookup x=some c->H c=none
 pin:∀ p∈X.pn++pins,s.heap.get? p.1=some p.2/\H p.1=none/\p.1≠X.env.locals/\p.1∉X.fs/\∀ v,p.2.data≠.cell v
 hok:HOk X.prog X.w H s.heap
 len:σ.length=X.N.length
section
variable {X:Cx} {pins:List (rN×Obj)} {σ:List (Option V)} {H H':Hp} {s:rM} {h':tL}
theorem Cx.Ok.nofr (ok:X.Ok) {b:rN} {o:Obj} (e:X.base.get? b=some o):b∉X.fs:=fun hb=>by
 have:=(ok.funs.mem hb).1;rw [e] at this; cases this
theorem Inv.bs (I:Inv X pins σ H s):∀ b o,X.base.get? b=some o->s.heap.get? b=some o/\H b=none:=fun b o e =>
 ⟨I.base.keep b o (I.ok.bs b o e).1 (I.ok.bs b o e).2 (I.ok.nofr e) (I.ok.noex b o e),I.base.free b o (I.ok.bs b o e).1 (I.ok.bs b o e).2 (I.ok.noex b o e)⟩
theorem Inv.bk (I:Inv X pins σ H s):∀ b o,X.base.get? b=some o->s.heap.get? b=some o:=fun b o e=>(I.bs b o e).1
theorem Inv.mod (I:Inv X pins σ H s):Mod X.K X.mg X.base:=I.ok.mod
theorem Inv.kIn (I:Inv X pins σ H s):X.K.In s.heap:=I.ok.mod.kin.keeps I.bk
theorem Inv.fr (I:Inv X pins σ H s):∃ m,Fr X.base X.env.locals s.heap m :=
 let ⟨m,hn,_⟩:=I.loc
 ⟨m,hn,I.bk,sJ I.ok.bsz I.ok.above⟩
theorem Inv.lt (I:Inv X pins σ H s):X.env.locals < s.heap.objs.size:=let ⟨_,hn,_⟩:=I.loc; hn.lt
theorem Inv.sz (I:Inv X pins σ H s):X.s₀.heap.objs.size<=s.heap.objs.size:=sJ I.ok.above (CU I.lt)
theorem Inv.nofs (I:Inv X pins σ H s) {a:rN} (h:s.heap.objs.size<=a):a∉X.fs:=fun hb=>by
 obtain ⟨_,o,ho,_⟩:=I.ok.funs.mem hb;exact absurd (sP (sN ho) (sJ I.sz h)) (xH _)
theorem Inv.cne (I:Inv X pins σ H s):∀ x c,X.env.cells.lookup x=some c->c≠X.env.locals:=fun x c e z=>by
 obtain ⟨v,o,ho,hd⟩:=I.cell x c e;obtain ⟨m,⟨o',es,ep,ho',hd',_⟩,_⟩:=I.loc;rw [z,ho'] at ho; cases ho; rw [hd'] at hd; cases hd
theorem Inv.funs (I:Inv X pins σ H s):s.heap.FunFrames X.base X.outer:=by
 have all:∀ (l:List Env),(∀ b∈frs l,b∈X.fs)->X.s₀.heap.FunFrames X.base l->s.heap.FunFrames X.base l:=by
   intro l;induction l with
   | nil=>intro _ _; trivial
   | cons env r ih =>
     intro hs hl; obtain ⟨hk,⟨L,o,hf,hn,ho,hd⟩,hr⟩:=hl; have hL:L∈X.fs:=hs L (by unfold frs; rw [v9,hf]; exact vO);obtain ⟨sl,e⟩:=I.base.slot L o ho (I.ok.frf L hL) hL fun z=>I.ok.exfs L z hL;exact ⟨hk,⟨L,_,hf,hn,e,hd⟩,ih (fun b hb=>hs b (by unfold frs; rw [v9,hf]; exact uM _ hb)) hr⟩
 exact all X.outer (fun _ hb=>hb) I.ok.funs
theorem Inv.stack (I:Inv X pins σ H s):s.heap.FunFrames X.base X.stack:=by
 rcases I.ok.stk with e | ⟨e,hf⟩
 . rw [e]; exact I.funs
 . rw [e]
   obtain ⟨m,hn,_⟩:=I.loc; refine .cons (by rw [I.ok.kind]; decide) hf hn ?_ I.funs;exact Heap.get?_none_of_le (sJ I.ok.bsz I.ok.above)
theorem Inv.stkSub (I:Inv X pins σ H s):∀ b∈frs X.stack,b∈X.env.locals::X.fs:=fun b hb=>by
 rcases I.ok.stk with e | ⟨e,hf⟩
 . rw [e] at hb; exact uM _ hb
 . rw [e] at hb
   unfold frs at hb; rw [v9,hf] at hb; exact hb
theorem Inv.stkFree (I:Inv X pins σ H s):∀ b∈frs X.stack,H b=none:=fun b hb=>by
 rcases rT.mp (I.stkSub b hb) with e | hb
 . rw [e]; exact I.free
 . obtain ⟨_,o,ho,_⟩:=I.ok.funs.mem hb
   exact I.base.free b o ho (I.ok.frf b hb) fun z=>I.ok.exfs b z hb
theorem Inv.step {g':Array GenState} {t':Nat} {d':Drawn} {ch:List rN} (I:Inv X pins σ H s)
   (hch:∀ b∈ch,(b∈X.ex\/X.s₀.heap.objs.size<=b)/\b≠X.env.locals/\(∀ x c,X.env.cells.lookup x=some c->c≠b)/\∀ p∈X.pn++pins,p.1≠b)
   (keep:∀ b o,b≠X.env.locals->b∉X.fs->b∉ch->s.heap.get? b=some o->H b=none->h'.get? b=some o)
   (slot:∀ b o,b≠X.env.locals->b∈X.fs->b∉ch->s.heap.get? b=some o->H b=none->∃ sl,h'.get? b=some { o with slots:=sl }) (free:∀ b o,b∉ch->s.heap.get? b=some o->H b=none->H' b=none)
   (there:∀ b o,b∉ch->s.heap.get? b=some o->∃ o',h'.get? b=some o')
   (tups:∀ b xs,H b=some (.tup xs)->H' b=some (.tup xs)) (frzs:∀ b o u,H b=some (.frz o u)->H' b=some (.frz o u)) (tbls:∀ b ps,H b=some (.tbl ps)->∃ more,H' b=some (.tbl (ps++more)))
   (ns:∀ m,s.heap.Ns X.env.locals m->h'.Ns X.env.locals m) (hok:HOk X.prog X.w H' h') (hg:v5 g') :
   Inv X pins σ H' { s with heap:=h',gens:=g',drawn:=d',toks:=t' }:=by
 have neL:∀ b o,X.s₀.heap.get? b=some o->b≠X.env.locals:=fun b o e=>tG (sP (sN e) I.ok.above);have neC:∀ b o,X.s₀.heap.get? b=some o->b∉X.ex->b∉ch:=fun b o e hx hb=>by
   rcases (hch b hb).1 with z | z
   . exact hx z
   . exact absurd (sP (sN e) z) (xH _)
 have cellK:∀ x c,X.env.cells.lookup x=some c->∀ v,s.heap.IsCell c v->h'.IsCell c v:=fun x c e v hZ4=>by
   obtain ⟨o,ho,hd⟩:=hZ4; have nch:c∉ch:=fun z=>(hch c z).2.2.1 x c e rfl;by_cases hc:c∈X.fs
   . obtain ⟨sl,q⟩:=slot c o (I.cne x c e) hc nch ho (I.freeC x c e)
     exact ⟨_,q,hd⟩
   . exact ⟨o,keep c o (I.cne x c e) hc nch ho (I.freeC x c e),hd⟩
 refine ⟨I.ok,I.os,hg,⟨fun b o e n hb hx=>?_,fun b o e n hb hx=>?_,fun b o e n hx=>?_,fun b o e hx=>?_,fun b xs e=>tups b xs (I.base.tups b xs e),fun b o xs e=>frzs b o xs (I.base.frzs b o xs e),fun b ps e=>?_⟩,?_,fun x c e=>?_,?_,fun x c e=>?_,fun p hp=>?_,hok,I.len⟩
 . exact keep b o (neL b o e) hb (neC b o e hx) (I.base.keep b o e n hb hx) (I.base.free b o e n hx)
 . obtain ⟨sl,e1⟩:=I.base.slot b o e n hb hx
   obtain ⟨sl',e2⟩:=slot b _ (neL b o e) hb (neC b o e hx) e1 (I.base.free b o e n hx); exact ⟨sl',e2⟩
 . obtain ⟨o',e1⟩:=I.base.there b o e hx
   exact free b o' (neC b o e hx) e1 (I.base.free b o e n hx)
 . obtain ⟨o',e1⟩:=I.base.there b o e hx
   exact there b o' (neC b o e hx) e1
 . obtain ⟨m1,e1⟩:=I.base.tbls b ps e
   obtain ⟨m2,e2⟩:=tbls b _ e1; exact ⟨m1++m2,by rw [e2,Array.append_assoc]⟩
 . obtain ⟨m,hn,hl⟩:=I.loc
   refine ⟨m,ns m hn,fun i x v e1 e2 e3=>?_⟩;obtain ⟨u,r,l⟩:=hl i x v e1 e2 e3; refine ⟨u,r,?_⟩; rcases l with l | ⟨k,c,e,z⟩
   . exact .inl l
   . exact .inr ⟨k,c,e,cellK x c e _ z⟩
 . obtain ⟨v,z⟩:=I.cell x c e
   exact ⟨v,cellK x c e v z⟩
 . obtain ⟨m,⟨o,_,_,ho,_⟩,_⟩:=I.loc
   exact free _ o (fun z=>(hch _ z).2.1 rfl) ho I.free
 . obtain ⟨v,o,ho,hd⟩:=I.cell x c e
   exact free c o (fun z=>(hch c z).2.2.1 x c e rfl) ho (I.freeC x c e)
 . obtain ⟨e,n,ne,nf,d⟩:=I.pin p hp
   have nch:p.1∉ch:=fun z=>(hch p.1 z).2.2.2 p hp rfl;exact ⟨keep p.1 p.2 ne nf nch e n,free p.1 p.2 nch e n,ne,nf,d⟩
theorem Inv.un {t':Nat} (I:Inv X pins σ H s) (u:Un X.fs [] H H' s.heap h') (hok:HOk X.prog X.w H' h'):Inv X pins σ H' { s with heap:=h',toks:=t' }:=by
 obtain ⟨m,⟨o,es,ep,ho,r⟩,_⟩:=id I.loc;obtain ⟨sl,hL⟩:=u.any ho I.free (by simp);exact I.step (g':=s.gens) (d':=s.drawn) (ch:=[]) (fun _ z=>nomatch z) (fun b o _ hb _ e n=>u.keep b o e n hb (by simp)) (fun b o _ hb _ e n=>u.slot b o e n hb (by simp)) (fun b o _ e n=>u.free b o e n (by simp)) (fun b o _ e=>u.there b o e (by simp)) u.tups u.frzs u.tbls (fun m' hm=>by
   obtain ⟨o',es',ep',ho',r'⟩:=hm; rw [ho] at ho'; cases ho'; exact ⟨_,es',ep',hL,r'⟩) hok I.bare
theorem Inv.call {g':Array GenState} {t':Nat} {d':Drawn} {ch:List rN} (I:Inv X pins σ H s) (u:Un (frs X.stack) ch H H' s.heap h') (hok:HOk X.prog X.w H' h') (hg:v5 g')
   (hch:∀ b∈ch,(b∈X.ex\/X.s₀.heap.objs.size<=b)/\b≠X.env.locals/\(∀ x c,X.env.cells.lookup x=some c->c≠b)/\∀ p∈X.pn++pins,p.1≠b) :
   Inv X pins σ H' { s with heap:=h',gens:=g',drawn:=d',toks:=t' }:=by
 obtain ⟨m,⟨o,es,ep,ho,r⟩,_⟩:=id I.loc;obtain ⟨sl,hL⟩:=u.any ho I.free fun z=>(hch _ z).2.1 rfl;exact I.step (ch:=ch) hch (fun b o hL hb hc e n=>u.keep b o e n (fun z=>(rT.mp (I.stkSub b z)).elim hL hb) hc) (fun b o _ _ hc e n=>u.any e n hc) (fun b o hc e n=>u.free b o e n hc) (fun b o hc e=>u.there b o e hc) u.tups u.frzs u.tbls (fun m' hm=>by
   obtain ⟨o',es',ep',ho',r'⟩:=hm; rw [ho] at ho'; cases ho'; exact ⟨_,es',ep',hL,r'⟩) hok hg
theorem Inv.turned {t':Nat} {it:rN} (I:Inv X pins σ H s) (k:∀ b o,b≠it->s.heap.get? b=some o->h'.get? b=some o) (hn:H it=none) (hL:it≠X.env.locals)
   (h1:it∈X.ex\/X.s₀.heap.objs.size<=it) (h2:∀ x c,X.env.cells.lookup x=some c->c≠it) (h3:∀ p∈X.pn++pins,p.1≠it):Inv X pins σ H { s with heap:=h',toks:=t' }:=by
 have nit:∀ b u,H b=some u->b≠it:=fun b u e z=>by rw [z,hn] at e; cases e
 refine I.step (g':=s.gens) (d':=s.drawn) (ch:=[it]) (fun b hb=>?_) (fun b o _ _ hc e _=>k b o (fun z=>hc (by simp [z])) e) (fun b o _ _ hc e _=>⟨o.slots,k b o (fun z=>hc (by simp [z])) e⟩) (fun _ _ _ _ n=>n)
   (fun b o hc e=>⟨o,k b o (fun z=>hc (by simp [z])) e⟩) (fun _ _ e=>e) (fun _ _ _ e=>e) (fun b ps e=>⟨#[],by rw [e]; simp⟩) (fun m hm=>?_) (fun b u e=>?_) I.bare
 . have e:b=it:=by simpa using hb
   subst e; exact ⟨h1,hL,h2,h3⟩
 . obtain ⟨o,es,ep,ho,r⟩:=hm
   exact ⟨o,es,ep,k _ o (Ne.symm hL) ho,r⟩
 . refine (I.hok b u e).stay (fun c v hc q=>k c v ?_ q) (fun _ q=>q) fun _ _ q=>q
   rcases hc with z | z
   . rw [z]; exact nit b u e
   . exact nit c _ z
theorem Inv.tok (I:Inv X pins σ H s) (t:Nat):Inv X pins σ H { s with toks:=t }:=I.un (h':=s.heap) (t':=t) Un.refl I.hok
theorem Inv.kept {t':Nat} (I:Inv X pins σ H s) (k:∀ b u,s.heap.get? b=some u->h'.get? b=some u):Inv X pins σ H { s with heap:=h',toks:=t' }:=I.un (Un.kept k) (I.hok.kept k)
theorem Inv.laid {a:rN} {o:HO} {t':Nat} (I:Inv X pins σ H s) (k:∀ b u,s.heap.get? b=some u->h'.get? b=some u) (hp:s.heap.objs.size<=a) (new:ObjOk X.prog X.w (upd H a o) h' a o) :
   Inv X pins σ (upd H a o) { s with heap:=h',toks:=t' }:=I.un (Un.laid k hp (I.hok.fresh hp)) (I.hok.laid k hp new)
theorem Inv.write {x e:rN} {o:HO} {t':Nat} (I:Inv X pins σ H s) (mu:Mut (H x)) (he:e=x\/H e=some (.own x)) (k:∀ b u,b≠e->s.heap.get? b=some u->h'.get? b=some u) (heo:∃ u,h'.get? e=some u)
   (new:ObjOk X.prog X.w (upd H x o) h' x o):Inv X pins σ (upd H x o) { s with heap:=h',toks:=t' }:=I.un (Un.write mu he k heo) (I.hok.write mu he k heo new)
theorem Inv.weak {σ':List (Option V)} (I:Inv X pins σ H s) (hl:σ'.length=σ.length) (w:∀ (i:Nat) v,σ'[i]? = some (some v)->σ[i]? = some (some v)):Inv X pins σ' H s :=
 ⟨I.ok,I.os,I.bare,I.base,let ⟨m,hn,hl'⟩:=I.loc; ⟨m,hn,fun i x v e1 e2 e3=>hl' i x v e1 (w i v e2) e3⟩,I.cell,I.free,I.freeC,I.pin,I.hok,hl.trans I.len⟩
theorem Inv.pins_of {pins':List (rN×Obj)} (I:Inv X pins σ H s) (h:∀ p∈pins',s.heap.get? p.1=some p.2/\H p.1=none/\p.1≠X.env.locals/\p.1∉X.fs/\∀ v,p.2.data≠.cell v):Inv X pins' σ H s :=
 ⟨I.ok,I.os,I.bare,I.base,I.loc,I.cell,I.free,I.freeC,fun p hp=>(sF.mp hp).elim (fun z=>I.pin p (t8 _ z)) (h p),I.hok,I.len⟩
theorem Tg {N:List Str} (hN:N.Nodup) {i j:Nat} {x:Str} (a:N[i]? = some x) (b:N[j]? = some x):i=j:=by
 obtain ⟨h1,e1⟩:=rQ.mp a;obtain ⟨h2,e2⟩:=rQ.mp b;exact (AM hN).mp (e1.trans e2.symm)
theorem Oh {M:Model} {A:tY} {E:rJ->rM->Prop} {i:Nat} {x:Str} {v:V} {u:rJ} {Q:Unit->rM->Prop} (I:Inv X pins σ H s) (hN:X.N.Nodup) (hi:X.N[i]? = some x) (hx:Loc X.env.scope x) (r:RelV v u)
   (h:∀ s',Inv X pins (σ.set i (some v)) H s'->(∃ a,zZ a s.heap s'.heap/\(a=X.env.locals\/X.env.cells.lookup x=some a))->Q () s') (hf:X.fn x=true\/X.env.scope.names.lookup x=some .local:=by first | exact .inl rfl | exact .inr rfl | assumption):wpAny M A (storeName X.env x u) Q E s:=by
 obtain ⟨m,hn,hl⟩:=id I.loc;have hcls:(X.env.scope.kind==.class||(X.env.scope.kind==.module&&X.env.locals != X.env.globals))=false:=by rw [I.ok.kind]; rfl
 have hiσ:i < σ.length:=by rw [I.len]; exact (rQ.mp hi).1
 have cne:=I.cne;have tracked:∀ {a:rN} {h':tL},(∃ o,s.heap.get? a=some o/\H a=none)->zZ a s.heap h'->HOk X.prog X.w H h':=fun {a h'} ha hs b ob e=>by
   obtain ⟨_,_,hfree⟩:=ha; refine (I.hok b ob e).stay (fun c w' hc q=>(hs.2 c ?_).trans q) (fun _ q=>q) fun _ _ q=>q;rintro rfl;rcases hc with rfl | hc
   . rw [hfree] at e; cases e
   . rw [hfree] at hc; cases hc
 rcases hx with hk | hk
 . refine wpAny_storeName_local hk hn (fun h' hn' hs=>?_) hcls
   obtain ⟨oL,_,_,hoL,_⟩:=id hn; refine h _ ⟨I.ok,I.os,I.bare,⟨fun b o e n hb hx=>?_,fun b o e n hb hx=>?_,I.base.free,fun b o e hx=>?_,I.base.tups,I.base.frzs,I.base.tbls⟩,⟨_,hn',fun j y v' e1 e2 e3=>?_⟩,fun y c e=>?_,I.free,I.freeC,fun p hp=>?_,tracked ⟨oL,hoL,I.free⟩ hs,by simpa using I.len⟩ ⟨_,hs,.inl rfl⟩
   . exact (hs.2 b (tG (sP (sN e) I.ok.above))).trans (I.base.keep b o e n hb hx)
   . obtain ⟨sl,e1⟩:=I.base.slot b o e n hb hx
     exact ⟨sl,(hs.2 b (tG (sP (sN e) I.ok.above))).trans e1⟩
   . obtain ⟨o',e1⟩:=I.base.there b o e hx
     exact ⟨o',(hs.2 b (tG (sP (sN e) I.ok.above))).trans e1⟩
   . by_cases hj:j=i
     . subst hj
       rw [hi] at e1; cases e1;rw [CL hiσ] at e2; cases e2; exact ⟨u,r,.inl ⟨hk,by simp⟩⟩
     . rw [zO (Ne.symm hj)] at e2
       obtain ⟨u',r',q⟩:=hl j y v' e1 e2 e3; refine ⟨u',r',?_⟩; rcases q with ⟨k,e⟩ | ⟨k,c,e,z⟩
       . refine .inl ⟨k,?_⟩
         have:y≠x:=fun e=>hj (Tg hN e1 (e▸hi));simp [this,e]
       . exact .inr ⟨k,c,e,z.sameBut hs (cne y c e)⟩
   . obtain ⟨w',z⟩:=I.cell y c e
     exact ⟨w',z.sameBut hs (cne y c e)⟩
   . obtain ⟨e,n,ne,nf,d⟩:=I.pin p hp
     exact ⟨(hs.2 p.1 ne).trans e,n,ne,nf,d⟩
 . have hfn : X.fn x = true := by
     rcases hf with z | z
     . exact z
     . rw [z] at hk; cases hk
   obtain ⟨c,hc⟩:=I.ok.has x (.inl hk); obtain ⟨w',z⟩:=I.cell x c hc; refine wpAny_storeName_cell I.ok.kind hk hc z (fun h' hc' hs=>?_);obtain ⟨oc,hoc,hocd⟩:=id z; refine h { s with heap:=h' } ⟨I.ok,I.os,I.bare,⟨fun b o e n hb hx=>?_,fun b o e n hb hx=>?_,I.base.free,fun b o e hx=>?_,I.base.tups,I.base.frzs,I.base.tbls⟩,⟨m,hn.sameBut hs (Ne.symm (cne x c hc)),fun j y v' e1 e2 e3=>?_⟩,fun y c' e=>?_,I.free,I.freeC,fun p hp=>?_,tracked ⟨oc,hoc,I.freeC x c hc⟩ hs,by simpa using I.len⟩ ⟨c,hs,.inr hc⟩
   . exact (hs.2 b (tG (sP (sN e) (I.ok.cab x c hfn hc)))).trans (I.base.keep b o e n hb hx)
   . obtain ⟨sl,e1⟩:=I.base.slot b o e n hb hx
     exact ⟨sl,(hs.2 b (tG (sP (sN e) (I.ok.cab x c hfn hc)))).trans e1⟩
   . obtain ⟨o',e1⟩:=I.base.there b o e hx
     exact ⟨o',(hs.2 b (tG (sP (sN e) (I.ok.cab x c hfn hc)))).trans e1⟩
   . by_cases hj:j=i
     . subst hj
       rw [hi] at e1; cases e1;rw [CL hiσ] at e2; cases e2; exact ⟨u,r,.inr ⟨.inl hk,c,hc,hc'⟩⟩
     . rw [zO (Ne.symm hj)] at e2
       obtain ⟨u',r',q⟩:=hl j y v' e1 e2 e3; refine ⟨u',r',?_⟩; rcases q with q | ⟨k,c',e,z'⟩
       . exact .inl q
       . refine .inr ⟨k,c',e,z'.sameBut hs ?_⟩
         rintro rfl;exact hj (Tg hN e1 (I.ok.inj _ _ _ e hc▸hi))
   . by_cases hcc:c'=c
     . subst hcc; exact ⟨_,hc'⟩
     . obtain ⟨w2,z2⟩:=I.cell y c' e
       exact ⟨w2,z2.sameBut hs hcc⟩
   . obtain ⟨e,n,ne,nf,d⟩:=I.pin p hp
     refine ⟨(hs.2 p.1 ?_).trans e,n,ne,nf,d⟩; intro q; rw [q,hoc] at e; have q':oc=p.2:=sZ e; exact d w' (by rw [<- q']; exact hocd)
theorem Rx {M:Model} {A:tY} {E:rJ->rM->Prop} {i:Nat} {x:Str} {v:V} {u:rJ} {Q:Unit->rM->Prop} (I:Inv X pins σ H s) (hN:X.N.Nodup) (hi:X.N[i]? = some x) (hx:Loc X.env.scope x) (r:RelV v u)
   (h:∀ s',Inv X pins (σ.set i (some v)) H s'->Q () s') (hf:X.fn x=true\/X.env.scope.names.lookup x=some .local:=by first | exact .inl rfl | exact .inr rfl | assumption):wpAny M A (storeName X.env x u) Q E s :=
 Oh I hN hi hx r (fun s' I' _=>h s' I') hf
theorem Inv.call' {s':rM} {ch:List rN} (I:Inv X pins σ H s) (ho:s'.os=s.os) (u:Un (frs X.stack) ch H H' s.heap s'.heap) (hok:HOk X.prog X.w H' s'.heap) (hg:v5 s'.gens)
   (hch:∀ b∈ch,(b∈X.ex\/X.s₀.heap.objs.size<=b)/\b≠X.env.locals/\(∀ x c,X.env.cells.lookup x=some c->c≠b)/\∀ p∈X.pn++pins,p.1≠b):Inv X pins σ H' s':=by
 obtain ⟨h',g',d',t',o'⟩:=s';have e:o'=s.os:=ho;subst e;exact I.call (g':=g') (t':=t') (d':=d') u hok hg hch
end
abbrev XK:=rJ->Option rN->Hp->Prop
abbrev St:=List (Option V)
abbrev VK:=V->Hp->Prop
abbrev TE:=St->Hp->VK->Prop
abbrev TT:=St->Hp->(Bool->Hp->Prop)->Prop
abbrev TA:=St->Hp->(List V->Hp->Prop)->Prop
structure Ends where
 nx:St->Hp->Prop
 rt:VK
 bk:St->Hp->Prop:=fun _ _=>False
 ct:St->Hp->Prop:=fun _ _=>False
abbrev TS:=Ends->St->Hp->Prop
def EP (X:Cx) (pins:List (rN×Obj)) (σ:St) (Q:VK) (u:rJ) (s':rM):Prop:=∃ v H',Inv X pins σ H' s'/\RelV v u/\Q v H'
def TP (X:Cx) (pins:List (rN×Obj)) (σ:St) (Q:Bool->Hp->Prop) (b:Bool) (s':rM):Prop:=∃ H',Inv X pins σ H' s'/\Q b H'
def AP (X:Cx) (pins:List (rN×Obj)) (σ:St) (Q:List V->Hp->Prop) (us:List rJ) (s':rM):Prop:=∃ vs H',Inv X pins σ H' s'/\Vals vs us/\Q vs H'
def SP (X:Cx) (pins:List (rN×Obj)) (D:Ends) (f:Flow) (s':rM):Prop :=
 match f with
 | .next=>∃ σ' H',Inv X pins σ' H' s'/\D.nx σ' H'
 | .brk=>∃ σ' H',Inv X pins σ' H' s'/\D.bk σ' H'
 | .cont=>∃ σ' H',Inv X pins σ' H' s'/\D.ct σ' H'
 | .ret u=>∃ v σ' H',Inv X pins σ' H' s'/\RelV v u/\D.rt v H'
def PE (X:Cx) (e:Expr) (t:TE):Prop :=
 ∀ (pins:List (rN×Obj)) (s:rM) (σ:St) (H:Hp) (Q:VK),Inv X pins σ H s->t σ H Q->wpAny (sM X.prog X.w) X.A (eval e X.env) (EP X pins σ Q) X.xe s
def PT (X:Cx) (e:Expr) (t:TT):Prop :=
 ∀ (pins:List (rN×Obj)) (s:rM) (σ:St) (H:Hp) (Q:Bool->Hp->Prop),Inv X pins σ H s->t σ H Q->wpAny (sM X.prog X.w) X.A (isTrue e X.env (eval e X.env)) (TP X pins σ Q) X.xe s
def PW (X:Cx) (e:Expr) (t:TT):Prop :=
 ∀ (whole:Sem rJ) (pins:List (rN×Obj)) (s:rM) (σ:St) (H:Hp) (Q:Bool->Hp->Prop),Inv X pins σ H s->t σ H Q->wpAny (sM X.prog X.w) X.A (isTrue e X.env whole) (TP X pins σ Q) X.xe s
theorem PW.pt {X:Cx} {e:Expr} {t:TT} (h:PW X e t):PT X e t:=h _
def PA (X:Cx) (es:List Expr) (t:TA):Prop :=
 ∀ (pos:Pos) (pins:List (rN×Obj)) (s:rM) (σ:St) (H:Hp) (Q:List V->Hp->Prop),Inv X pins σ H s->t σ H Q->wpAny (sM X.prog X.w) X.A (spliced (tR pos (rP es X.env))) (AP X pins σ Q) X.xe s
def PS (X:Cx) (st:vN) (t:TS):Prop :=
 ∀ (pins:List (rN×Obj)) (s:rM) (σ:St) (H:Hp) (D:Ends),Inv X pins σ H s->t D σ H->wpAny (sM X.prog X.w) X.A (exec st X.env) (SP X pins D) X.xe s
def PSs (X:Cx) (st:List vN) (t:TS):Prop :=
 ∀ (pins:List (rN×Obj)) (s:rM) (σ:St) (H:Hp) (D:Ends),Inv X pins σ H s->t D σ H->wpAny (sM X.prog X.w) X.A (execs st X.env) (SP X pins D) X.xe s
theorem thn {α:Type} {t:Sem α} {Q Q':α->rM->Prop} {M:Model} {A:tY} {E:rJ->rM->Prop} {s:rM} (h:wpAny M A t Q E s) (hQ:∀ a s,Q a s->Q' a s):wpAny M A t Q' E s:=vE h hQ fun _ _ x=>x
end L2
namespace L2
open PySem PySem.Spec PyProof.Rows
section
variable {X:Cx}
def Vd (i:Nat):TE:=fun σ H Q=>∃ v,σ[i]? = some (some v)/\Q v H
def tC (v:V):TE:=fun _ H Q=>Q v H
theorem Wd {i:Nat} {x:Str} {pos:Pos} (hN:X.N[i]? = some x) (hv:Vis X.env.scope x) (hd:(x==("__debug__" : Str))=false:=by decide) (hcd:(x==("__classdict__" : Str))=false:=by decide):PE X (.Name x pos) (Vd i):=by
 intro pins s σ H Q I h;obtain ⟨v,e,h⟩:=h;obtain ⟨m,hn,hl⟩:=I.loc;obtain ⟨u,r,l⟩:=hl i x v hN e hv;have fin:EP X pins σ Q u s:=⟨v,H,I,r,h⟩;rcases l with ⟨hk,hm⟩ | ⟨hk,c,hc,hcell⟩
 . exact wpAny_Name (wpAny_loadName_local I.ok.kind hk hn hm fin) hd
 . rcases hk with hk | hk
   . exact wpAny_Name (wpAny_loadName_cell I.ok.kind hk hc hcell fin) hd
   . exact wpAny_Name (wpAny_loadName_free I.ok.kind hk hc hcell fin hcd) hd
theorem oW {i j pos}:PE X (.Constant (.int i) j pos) (tC (.int i)):=fun _ _ _ H _ I h=>wpAny_Constant_int ⟨.int i,H,I.tok _,⟨_,rfl⟩,h⟩
theorem pe_bl {b j pos}:PE X (.Constant (.bool b) j pos) (tC (.bl b)):=fun _ _ _ H _ I h=>Constant_bool ⟨.bl b,H,I,rfl,h⟩
theorem oV {j pos}:PE X (.Constant .none j pos) (tC .non):=fun _ _ _ H _ I h=>Constant_none ⟨.non,H,I,rfl,h⟩
theorem eP {x j pos}:PE X (.Constant (.str x) j pos) (tC (.str x)):=fun _ _ _ H _ I h=>Calls.Constant_str ⟨.str x,H,I.tok _,⟨_,rfl⟩,h⟩
def Gl (X:Cx) (x:Str):Prop:=X.env.kindOf x=some .globalImplicit
theorem Yn {E:rJ->rM->Prop} {pins:List (rN×Obj)} {s:rM} {σ:St} {H:Hp} {x:Str} {u:rJ} {pos:Pos} {Q:rJ->rM->Prop} (I:Inv X pins σ H s) (hg:Gl X x) (hm:X.mg x=some u) (h:Q u s)
   (hd:(x==("__debug__" : Str))=false:=by decide):wpAny (sM X.prog X.w) X.A (eval (.Name x pos) X.env) Q E s :=
 BF I.ok.kind hg (Calls.loadGlobal_global (by rw [I.ok.glob]; exact I.mod.glob.keeps I.bk) hm h) hd
theorem Fc {E:rJ->rM->Prop} {pins:List (rN×Obj)} {s:rM} {σ:St} {H:Hp} {x:Str} {u:rJ} {pos:Pos} {Q:rJ->rM->Prop} (I:Inv X pins σ H s) (hg:Gl X x) (hm:X.mg x=none) (hv:yW x=some u) (h:Q u s)
   (hn:x ≠ "__name__" := by decide) (hd:(x==("__debug__" : Str))=false:=by decide):wpAny (sM X.prog X.w) X.A (eval (.Name x pos) X.env) Q E s:=by
 obtain ⟨mb,h1,h2⟩:=I.mod.blt;exact BF I.ok.kind hg (Calls.loadGlobal_builtin (by rw [I.ok.glob]; exact I.mod.glob.keeps I.bk) hm (by rw [I.ok.blt]; exact h1.keeps I.bk) ((h2 x hn).trans hv) h) hd
variable {a b:Expr} {ta tb:TE} {pos:Pos}
def PC (X:Cx) (op:wP) (a b:Expr) (t:TE):Prop :=
 ∀ (pins:List (rN×Obj)) (s:rM) (σ:St) (H:Hp) (Q:VK),Inv X pins σ H s->t σ H Q ->
   wpAny (sM X.prog X.w) X.A (eval a X.env) (fun v s₁=>wpAny (sM X.prog X.w) X.A (eval b X.env) (fun u s₂=>wpAny (sM X.prog X.w) X.A (vH op v u) (EP X pins σ Q) X.xe s₂) X.xe s₁) X.xe s
theorem Th (b:Expr) {op:wP} (h:op≠.In) (h2:op≠.NotIn):behindInMarks op b=false:=by
 have e1:(op==CmpOp.In)=false:=by cases op <;> first | rfl | exact absurd rfl h
 have e2:(op==CmpOp.NotIn)=false:=by cases op <;> first | rfl | exact absurd rfl h2
 cases b <;> simp [behindInMarks,e1,e2]
def tIsN (ta:TE):TE:=fun σ H Q=>ta σ H fun x H1=>Q (.bl (decide (x=.non))) H1
theorem RelV.none_iff {x:V} {v:rJ} (r:RelV x v):(v==wN)=decide (x=.non):=by
 cases x with
 | non=>cases r; rfl
 | bl _=>cases r; rfl
 | int _=>obtain ⟨t,rfl⟩:=r; rfl
 | str _=>obtain ⟨t,rfl⟩:=r; rfl
 | byt _=>obtain ⟨t,rfl⟩:=r; rfl
 | flt _=>obtain ⟨t,rfl⟩:=r; rfl
 | ref _=>cases r; rfl
 | ty _=>cases r; rfl
theorem oY {j pos'} (ha:PE X a ta):PC X .Is a (.Constant .none j pos') (tIsN ta):=by
 intro pins s σ H Q I h;refine thn (ha pins s σ H _ I h) fun v s1 hZ2=>?_;obtain ⟨x,H1,I1,r1,q1⟩:=hZ2;exact Constant_none (is_none_gen ⟨.bl _,H1,I1,by rw [r1.none_iff]; rfl,q1⟩)
def tB (t:TE):TT:=fun σ H Q=>t σ H fun x H1=>∃ c,x=.bl c/\Q c H1
theorem oX {op:wP} {t:TE} (h:PC X op a b t) (h1:behindInMarks op b=false:=by first | exact Th _ (by decide) (by decide) | rfl):PE X (.Compare a [op] [b] pos) t:=fun pins s σ H Q I hw=>wpAny_Compare1 (h pins s σ H Q I hw) h1
theorem Wa {op:wP} {t:TE} (h:PC X op a b t) (h1:behindInMarks op b=false:=by first | exact Th _ (by decide) (by decide) | rfl):PT X (.Compare a [op] [b] pos) (tB t):=by
 intro pins s σ H Q I hw;refine wpAny_isTrue_Compare1 (thn (h pins s σ H _ I hw) fun v s1 h1=>thn h1 fun u s2 h2=>thn h2 fun c s3 hY1=>?_) h1;obtain ⟨x,H1,I1,r1,q1⟩:=hY1;obtain ⟨d,rfl,q⟩:=q1;cases r1;exact xK ⟨H1,I1,q⟩
theorem oT {e:Expr} {t:TE} (h:PE X e t) (he:∀ whole,isTrue e X.env whole=(do let v <- whole; standAt e.pos; holding [v] (truthy v)):=by intro _; rfl):PT X e (tB t):=by
 intro pins s σ H Q I hw;refine isTrue_plain (thn (h pins s σ H _ I hw) fun v s1 hY2=>?_) (he _);obtain ⟨x,H1,I1,r1,q1⟩:=hY2;obtain ⟨d,rfl,q⟩:=q1;cases r1;exact xK ⟨H1,I1,q⟩
variable {tA tB':TT} {M9:List Expr}
def tAnd (t u:TT):TT:=fun σ H Q=>t σ H fun c H1=>if c=true then u σ H1 Q else Q false H1
def tOr (t u:TT):TT:=fun σ H Q=>t σ H fun c H1=>if c=true then Q true H1 else u σ H1 Q
def tNot (t:TT):TT:=fun σ H Q=>t σ H fun c H1=>Q (!c) H1
theorem Xy (ha:PT X a tA):PW X (.BoolOp .And [a] pos) tA:=by
 intro wh pins s σ H Q I h;refine isTrue_and (thn (ha pins s σ H Q I h) fun c s1 e=>?_);cases c with
 | true=>exact isTrue_and_nil e
 | false=>exact e
theorem oP (ha:PT X a tA):PW X (.BoolOp .Or [a] pos) tA:=by
 intro wh pins s σ H Q I h;refine isTrue_or (thn (ha pins s σ H Q I h) fun c s1 e=>?_);cases c with
 | false=>exact isTrue_or_nil e
 | true=>exact e
theorem eK (ha:PT X a tA) (hb:PW X (.BoolOp .And (b::M9) pos) tB'):PW X (.BoolOp .And (a::b::M9) pos) (tAnd tA tB'):=by
 intro wh pins s σ H Q I h;refine isTrue_and (thn (ha pins s σ H _ I h) fun c s1 hZ2=>?_);obtain ⟨H1,I1,q1⟩:=hZ2;cases c with
 | true=>exact hb wh pins s1 σ H1 Q I1 q1
 | false=>exact ⟨H1,I1,q1⟩
theorem pw_or (ha:PT X a tA) (hb:PW X (.BoolOp .Or (b::M9) pos) tB'):PW X (.BoolOp .Or (a::b::M9) pos) (tOr tA tB'):=by
 intro wh pins s σ H Q I h;refine isTrue_or (thn (ha pins s σ H _ I h) fun c s1 hZ2=>?_);obtain ⟨H1,I1,q1⟩:=hZ2;cases c with
 | true=>exact ⟨H1,I1,q1⟩
 | false=>exact hb wh pins s1 σ H1 Q I1 q1
theorem Vz (ha:PT X a tA):PT X (.UnaryOp .Not a pos) (tNot tA):=by
 intro pins s σ H Q I h;exact isTrue_not (ha pins s σ H (fun c H1=>Q (!c) H1) I h)
def tAndV (ta tb:TE):TE:=fun σ H Q=>ta σ H fun x H1=>∃ c,x=.bl c/\if c=true then tb σ H1 Q else Q (.bl false) H1
theorem eR {op} {t:TE} (h:PE X a t):PE X (.BoolOp op [a] pos) t:=fun pins s σ H Q I hw=>BoolOp_one (h pins s σ H Q I hw)
theorem eZ (ha:PE X a ta) (hb:PE X (.BoolOp .And (b::M9) pos) tb):PE X (.BoolOp .And (a::b::M9) pos) (tAndV ta tb):=by
 intro pins s σ H Q I h;refine BoolOp_and (thn (ha pins s σ H _ I h) fun v s1 hZ2=>?_);obtain ⟨x,H1,I1,r1,q1⟩:=hZ2;obtain ⟨c,rfl,q1⟩:=q1;cases r1;refine xK ?_;cases c with
 | true=>exact hb pins s1 σ H1 Q I1 q1
 | false=>exact ⟨.bl false,H1,I1,rfl,q1⟩
def tIf (t:TT) (ta tb:TE):TE:=fun σ H Q=>t σ H fun c H1=>if c=true then ta σ H1 Q else tb σ H1 Q
theorem eX {c:Expr} (hc:PT X c tA) (ha:PE X a ta) (hb:PE X b tb):PE X (.IfExp c a b pos) (tIf tA ta tb):=by
 intro pins s σ H Q I h;refine wpAny_IfExp (thn (hc pins s σ H _ I h) fun d s1 hZ2=>?_);obtain ⟨H1,I1,q1⟩:=hZ2;cases d with
 | true=>exact ha pins s1 σ H1 Q I1 q1
 | false=>exact hb pins s1 σ H1 Q I1 q1
end
end L2
namespace L2
open PySem PySem.Spec PyProof.Rows
def SqL (K:rK) (H:Hp) (a:rN) (xs:List V):Prop :=
 Rd H a (.lst xs) \/
   ∃ (o:Obj) (its:Array rJ) (n:Nat),K.lookup a=some o/\o.cls=.type "list" /\ o.dict=none/\o.data=.seq its n/\its.size<=sizeLine/\Vals xs its.toList
def SqT (K:rK) (H:Hp) (a:rN) (xs:List V):Prop :=
 Rd H a (.tup xs) \/
   ∃ (o:Obj) (its:Array rJ) (n:Nat),K.lookup a=some o/\o.cls=.type "tuple" /\ o.data=.seq its n/\its.size<=sizeLine/\Vals xs its.toList
def absV:rJ->Option V
 | .none=>some .non
 | .bool b=>some (.bl b)
 | .int i _=>some (.int i)
 | .str x _=>some (.str x)
 | .bytes b _=>some (.byt b)
 | .float b _=>some (.flt b)
 | .ref a=>some (.ref a)
 | .type n=>some (.ty n)
 | _=>none
theorem RelV.abs {x:V} {u:rJ} (r:RelV x u):absV u=some x:=by
 cases x with
 | non=>cases r; rfl
 | bl _=>cases r; rfl
 | int _=>obtain ⟨t,rfl⟩:=r; rfl
 | str _=>obtain ⟨t,rfl⟩:=r; rfl
 | byt _=>obtain ⟨t,rfl⟩:=r; rfl
 | flt _=>obtain ⟨t,rfl⟩:=r; rfl
 | ref _=>cases r; rfl
 | ty _=>cases r; rfl
theorem RelV.inj {x y:V} {u:rJ} (r:RelV x u) (q:RelV y u):x=y:=sZ (r.abs.symm.trans q.abs)
theorem Vals.inj {xs:List V}:∀ {ys:List V} {us:List rJ},Vals xs us->Vals ys us->xs=ys:=by
 induction xs with
 | nil=>intro ys us h q; cases h; cases q; rfl
 | cons x xs ih=>intro ys us h q; cases h with | cons r t=>cases q with | cons r' t'=>rw [r.inj r',ih t t']
section
variable {X:Cx} {pins:List (rN×Obj)} {σ:St} {H:Hp} {s:rM} {a:rN} {xs ys:List V}
theorem SqL.of {K:rK} (h:H a=some (.lst xs)):SqL K H a xs:=.inl (.inl h)
theorem Inv.list (I:Inv X pins σ H s) (h:SqL X.K H a xs):∃ its:List rJ,Vals xs its/\PlainL s.heap a its.toArray/\xs.length<=sizeLine:=by
 rcases h with h | ⟨o,its,n,hk,hc,hd,hs,hz,r⟩
 . obtain ⟨z,its,n,r,e⟩:=h.ok I.hok
   exact ⟨its,r,⟨_,n,e,rfl,rfl,rfl⟩,z⟩
 . refine ⟨its.toList,r,⟨o,n,I.kIn a o hk,hc,hd,by simpa using hs⟩,?_⟩
   have e:=r.length; simp only [yN] at e;lia
theorem Inv.tuple (I:Inv X pins σ H s) (h:SqT X.K H a xs):∃ its:List rJ,Vals xs its/\w6 s.heap a its.toArray/\xs.length<=sizeLine:=by
 rcases h with h | ⟨o,its,n,hk,hc,hs,hz,r⟩
 . obtain ⟨z,its,r,p⟩:=h.ok I.hok
   exact ⟨its,r,p,z⟩
 . refine ⟨its.toList,r,⟨o,I.kIn a o hk,hc,n,by simpa using hs⟩,?_⟩
   have e:=r.length; simp only [yN] at e;lia
theorem Inv.list_inj (I:Inv X pins σ H s) (h:SqL X.K H a xs) (h':SqL X.K H a ys):xs=ys:=by
 obtain ⟨its,r,⟨o,n,e,_,_,d⟩,_⟩:=I.list h;obtain ⟨its',r',⟨o',n',e',_,_,d'⟩,_⟩:=I.list h';rw [e] at e'; cases e';rw [d] at d';injection d' with d1 _
 have:its=its':=by simpa using congrArg CG d1
 subst this;exact r.inj r'
theorem Inv.tuple_inj (I:Inv X pins σ H s) (h:SqT X.K H a xs) (h':SqT X.K H a ys):xs=ys:=by
 obtain ⟨its,r,⟨o,e,_,n,d⟩,_⟩:=I.tuple h;obtain ⟨its',r',⟨o',e',_,n',d'⟩,_⟩:=I.tuple h';rw [e] at e'; cases e';rw [d] at d';injection d' with d1 _
 have:its=its':=by simpa using congrArg CG d1
 subst this;exact r.inj r'
end
abbrev Cx.wish (X:Cx) (E:rJ->rM->Prop):Cx:={ X with xe:=E }
abbrev Cx.nox (X:Cx):Cx:=X.wish fun _ _=>False
theorem Cx.Ok.wish {X:Cx} (ok:X.Ok) (E:rJ->rM->Prop):(X.wish E).Ok :=
 ⟨ok.mod,ok.kind,ok.glob,ok.blt,ok.above,ok.inj,ok.has,ok.cab,ok.hd,ok.frames,ok.stk,ok.exf,ok.bs,ok.bsz,ok.noex,ok.exfs,ok.funs,ok.frf⟩
theorem Cx.Ok.unwish {X:Cx} {E:rJ->rM->Prop} (ok:(X.wish E).Ok):X.Ok :=
 ⟨ok.mod,ok.kind,ok.glob,ok.blt,ok.above,ok.inj,ok.has,ok.cab,ok.hd,ok.frames,ok.stk,ok.exf,ok.bs,ok.bsz,ok.noex,ok.exfs,ok.funs,ok.frf⟩
section
variable {X:Cx} {pins:List (rN×Obj)} {σ:St} {H:Hp} {s:rM} {E:rJ->rM->Prop}
theorem Inv.wish (I:Inv X pins σ H s) (E:rJ->rM->Prop):Inv (X.wish E) pins σ H s:=⟨I.ok.wish E,I.os,I.bare,I.base,I.loc,I.cell,I.free,I.freeC,I.pin,I.hok,I.len⟩
theorem Inv.unwish (I:Inv (X.wish E) pins σ H s):Inv X pins σ H s:=⟨I.ok.unwish,I.os,I.bare,I.base,I.loc,I.cell,I.free,I.freeC,I.pin,I.hok,I.len⟩
theorem SP.unwish {D:Ends} {f:Flow} {s':rM} (h:SP (X.wish E) pins D f s'):SP X pins D f s':=by
 cases f with
 | next=>obtain ⟨σ',H',I,q⟩:=h; exact ⟨σ',H',I.unwish,q⟩
 | brk=>obtain ⟨σ',H',I,q⟩:=h; exact ⟨σ',H',I.unwish,q⟩
 | cont=>obtain ⟨σ',H',I,q⟩:=h; exact ⟨σ',H',I.unwish,q⟩
 | ret u=>obtain ⟨v,σ',H',I,r,q⟩:=h; exact ⟨v,σ',H',I.unwish,r,q⟩
theorem PSs.nox {st:List vN} {t:TS} (h:PSs X.nox st t):PSs X st t:=fun pins s σ H D I hw =>
 vE (h pins s σ H D (I.wish _) hw) (fun _ _ q=>q.unwish) fun _ _ z=>wX z
end
section
variable {X:Cx} {st:vN} {M9:List vN} {t u:TS} {e:Expr} {te:TE} {pos:Pos}
def tNext:TS:=fun D σ H=>D.nx σ H
def tSeq (t u:TS):TS:=fun D σ H=>t { D with nx:=u D } σ H
theorem Je:PSs X [] tNext:=fun _ _ σ H _ I h=>v6 ⟨σ,H,I,h⟩
theorem P5 (h1:PS X st t) (h2:PSs X M9 u):PSs X (st::M9) (tSeq t u):=by
 intro pins s σ H D I h;refine wpAny_execs_cons (thn (h1 pins s σ H { D with nx:=u D } I h) fun f s1 q=>?_);cases f with
 | next =>
   obtain ⟨σ',H',I',q⟩:=q; exact h2 pins s1 σ' H' D I' q
 | ret v=>exact q
 | brk=>exact q
 | cont=>exact q
theorem N6 (h1:PS X st t):PSs X [st] t:=by
 intro pins s σ H D I h;refine wpAny_execs_cons (thn (h1 pins s σ H D I h) fun f s1 q=>?_);cases f with
 | next=>exact v6 q
 | ret v=>exact q
 | brk=>exact q
 | cont=>exact q
theorem Inv.quiet {pins:List (rN×Obj)} {σ:St} {H:Hp} {s:rM} (I:Inv X pins σ H s):interactive X.env=false:=by simp [interactive,I.ok.kind]
def tDrop (te:TE):TS:=fun D σ H=>te σ H fun _ H1=>D.nx σ H1
theorem W7 (he:PE X e te) (hs:tH e none pos.line X.env=pure false:=by rfl):PS X (.Expr e pos) (tDrop te):=by
 intro pins s σ H D I h;exact wpAny_Expr_any (thn (he pins s σ H _ I h) fun v s1 hZ2=>by obtain ⟨x,H1,I1,r1,q1⟩:=hZ2; exact ⟨σ,H1,I1,q1⟩) I.quiet hs
def tRet (te:TE):TS:=fun D σ H=>te σ H D.rt
theorem Dk (he:PE X e te):PS X (.Return (some e) pos) (tRet te):=by
 intro pins s σ H D I h;exact wpAny_Return_some (thn (he pins s σ H _ I h) fun v s1 hZ2=>by obtain ⟨x,H1,I1,r1,q1⟩:=hZ2; exact ⟨x,σ,H1,I1,r1,q1⟩)
def tIfS (c:TT) (t u:TS):TS:=fun D σ H=>c σ H fun b H1=>if b=true then t D σ H1 else u D σ H1
theorem Tb {c:Expr} {a b:List vN} {tc:TT} (hc:PT X c tc) (ha:PSs X a t) (hb:PSs X b u):PS X (.If c a b pos) (tIfS tc t u):=by
 intro pins s σ H D I h;refine wpAny_If (thn (hc pins s σ H _ I h) fun d s1 hZ2=>?_);obtain ⟨H1,I1,q1⟩:=hZ2;cases d with
 | true=>exact ha pins s1 σ H1 D I1 q1
 | false=>exact hb pins s1 σ H1 D I1 q1
def nM:TS:=fun _ _ _=>False
theorem Oq {sts:List vN}:PSs X sts nM:=fun _ _ _ _ _ _ h=>h.elim
end
abbrev TG:=V->St->Hp->(St->Hp->Prop)->Prop
abbrev TGs:=List V->St->Hp->(St->Hp->Prop)->Prop
def PG (X:Cx) (target:Expr) (t:TG):Prop :=
 ∀ (pins:List (rN×Obj)) (s:rM) (σ:St) (H:Hp) (v:V) (u:rJ) (Q:St->Hp->Prop),Inv X pins σ H s->RelV v u->t v σ H Q ->
   wpAny (sM X.prog X.w) X.A (assign target X.env u) (fun _ s'=>∃ σ' H',Inv X pins σ' H' s'/\Q σ' H') X.xe s
def PGs (X:Cx) (ts:List Expr) (t:TGs):Prop :=
 ∀ (pins:List (rN×Obj)) (s:rM) (σ:St) (H:Hp) (vs:List V) (us:List rJ) (Q:St->Hp->Prop),Inv X pins σ H s->Vals vs us->t vs σ H Q ->
   wpAny (sM X.prog X.w) X.A (assignInOrder ((AS ts X.env).map (·.2)) us) (fun _ s'=>∃ σ' H',Inv X pins σ' H' s'/\Q σ' H') X.xe s
section
variable {X:Cx} {pos:Pos}
def An (i:Nat):TG:=fun v σ H Q=>Q (σ.set i (some v)) H
theorem Am {i:Nat} {x:Str} (hN:X.N.Nodup) (hi:X.N[i]? = some x) (hx:Loc X.env.scope x) (hf:X.fn x=true\/X.env.scope.names.lookup x=some .local:=by first | exact .inl rfl | exact .inr rfl | assumption):PG X (.Name x pos) (An i):=by
 intro pins s σ H v u Q I r h;exact wpAny_assign_Name (Rx I hN hi hx r (fun s' I'=>⟨_,H,I',h⟩) hf)
def qN:TGs:=fun vs σ H Q=>vs=[]/\Q σ H
def Ty (t:TG) (u:TGs):TGs:=fun vs σ H Q=>∃ v r,vs=v::r/\t v σ H fun σ' H'=>u r σ' H' Q
theorem kE:PGs X [] qN:=by
 intro pins s σ H vs us Q I r h;obtain ⟨e,h⟩:=h;subst e;cases r;exact assignInOrder_nil ⟨σ,H,I,h⟩
theorem Tc {e:Expr} {es:List Expr} {t:TG} {u:TGs} (h1:PG X e t) (h2:PGs X es u)
   (hs:(AS (e::es) X.env).map (·.2)=assign e X.env::(AS es X.env).map (·.2):=by rfl):PGs X (e::es) (Ty t u):=by
 intro pins s σ H vs us Q I r h;obtain ⟨v,vr,e1,h⟩:=h;subst e1;cases r with
 | cons r rr =>
   rw [hs]; refine assignInOrder_cons (thn (h1 pins s σ H _ _ _ I r h) fun _ s1 hZ2=>?_);obtain ⟨σ1,H1,I1,q1⟩:=hZ2; exact h2 pins s1 σ1 H1 _ _ Q I1 rr q1
def qM (K:rK) (n:Nat) (t:TGs):TG:=fun v σ H Q=>∃ a xs,v=.ref a/\SqT K H a xs/\xs.length=n/\t xs σ H Q
theorem oU {es:List Expr} {k:Nat} {t:TGs} {n:Nat} (hc:X.calm=true) (h:PGs X es t)
   (hn:(AS es X.env).length=n:=by rfl) (hst:(AS es X.env).findIdx? (·.1)=none:=by rfl):PG X (.Tuple es k pos) (qM X.K n t):=by
 intro pins s σ H v u Q I r hw;obtain ⟨a,xs,e1,hq,hl,hw⟩:=hw;subst e1;cases r;obtain ⟨its,rv,ht,hz⟩:=I.tuple hq;refine assign_Tuple_tuple (I.ok.hd hc) ht (by simp [hn,<- hl,rv.length]) hst fun h' hx=>?_;have I1:Inv X pins σ H { s with heap:=h' }:=I.kept (t':=s.toks) fun b o e=>hx b o (tG (sN e)) e;exact h pins _ σ H xs _ Q I1 (by simpa using rv) hw
def tAsg (te:TE) (g:TG):TS:=fun D σ H=>te σ H fun x H1=>g x σ H1 D.nx
theorem Z9 {i:Nat} {x:Str} {e:Expr} {te:TE} {pos':Pos} (hN:X.N.Nodup) (hi:X.N[i]? = some x) (hx:Loc X.env.scope x) (he:PE X e te) (hs:tH e (some (.Name x pos')) pos.line X.env=pure false:=by rfl) (hf:X.fn x=true\/X.env.scope.names.lookup x=some .local:=by first | exact .inl rfl | exact .inr rfl | assumption) :
   PS X (.Assign [.Name x pos'] e pos) (tAsg te (An i)):=by
 intro pins s σ H D I h;refine wpAny_Assign_Name (thn (he pins s σ H _ I h) fun v s1 hY4=>?_) hs;obtain ⟨y,H1,I1,r1,q1⟩:=hY4;exact Rx I1 hN hi hx r1 (fun s2 I2=>⟨_,H1,I2,q1⟩) hf
end
section
variable {X:Cx} {pos:Pos}
def nJ (c:TT) (tb:TS):TS:=fun D σ H=>∃ W:Nat->St->Hp->Prop,(∃ m,W m σ H)/\∀ m σ H,W m σ H ->
 c σ H fun b H1=>if b=true then ∃ N:St->Hp->Prop,(∀ σ' H',N σ' H'->∃ m',m' < m/\W m' σ' H')/\tb { D with nx:=N,ct:=N,bk:=D.nx } σ H1 else D.nx σ H1
theorem eN {c:Expr} {body:List vN} {tc:TT} {tb:TS} (hp:PassesOwn (sM X.prog X.w) X.A X.env X.xe) (hc:PT X c tc) (hb:PSs X body tb):PS X (.While c body [] pos) (nJ tc tb):=by
 intro pins s σ H D I h;obtain ⟨W,⟨m0,w0⟩,turn⟩:=h;refine wpAny_While (codeAny_whileLoop (fun n s'=>∃ σ' H',Inv X pins σ' H' s'/\W n σ' H') ?_ m0 ⟨σ,H,I,w0⟩);rintro n s1 ⟨σ1,H1,I1,w1⟩;refine yD hp (thn (hc pins s1 σ1 H1 _ I1 (turn n σ1 H1 w1)) fun b s2 hZ2=>?_);obtain ⟨H2,I2,q2⟩:=hZ2;cases b with
 | true =>
   obtain ⟨N,hN,q2⟩:=q2; rw [if_pos rfl]; refine yD hp (thn (hb pins s2 σ1 H2 _ I2 q2) fun f s3 q3=>?_);cases f with
   | next =>
     obtain ⟨σ3,H3,I3,n3⟩:=q3; obtain ⟨m',hm,w3⟩:=hN σ3 H3 n3; exact ⟨m',hm,σ3,H3,I3,w3⟩
   | cont =>
     obtain ⟨σ3,H3,I3,n3⟩:=q3; obtain ⟨m',hm,w3⟩:=hN σ3 H3 n3; exact ⟨m',hm,σ3,H3,I3,w3⟩
   | brk=>exact q3
   | ret v=>exact q3
 | false =>
   rw [if_neg vB]; exact v6 ⟨σ1,H2,I2,q2⟩
end
structure It where
 go:Nat->Hp->Prop
 yld:Nat->Hp->V->Hp->Prop
 stop:Nat->Hp->Prop
def Oa (X:Cx) (pins:List (rN×Obj)) (H:Hp) (b:rN):Prop :=
 H b=none/\b≠X.env.locals/\b∉X.fs/\(b∈X.ex\/X.s₀.heap.objs.size<=b)/\(∀ x c,X.env.cells.lookup x=some c->c≠b)/\∀ p∈X.pn++pins,p.1≠b
theorem Inv.fpOk {X:Cx} {pins:List (rN×Obj)} {σ:St} {H H':Hp} {s:rM} {b:rN} (I:Inv X pins σ H s) (hb:s.heap.objs.size<=b) (hn:H' b=none):Oa X pins H' b:=by
 refine ⟨hn,c6 (sP I.lt hb),I.nofs hb,.inr (sJ I.sz hb),fun x c e z=>?_,fun p hp z=>?_⟩
 . obtain ⟨v,q⟩:=I.cell x c e
   exact absurd (sP q.lt (by rw [z]; exact hb)) (xH _)
 . exact absurd (sP (sN (I.pin p hp).1) (by rw [z]; exact hb)) (xH _)
structure Turn (P:sE) (w:sT) (K:rK) (tg:Expr) (J:It) (fp:List rN) (it:rN) (tn:Nat->tL->Prop):Prop where
 mem:it∈fp
 obj:∀ i h,tn i h->∀ b∈fp,∃ o,h.get? b=some o/\∀ v,o.data≠.cell v
 keep:∀ i h h',tn i h->(∀ b∈fp,∀ o,h.get? b=some o->h'.get? b=some o)->tn i h'
 item:∀ (X:Cx),X.prog=P->X.w=w->X.K=K->X.calm=true->∀ (i:Nat) (pins:List (rN×Obj)) (s:rM) (σ:St) (H:Hp) (E:rJ->rM->Prop),Inv X pins σ H s->(∀ b∈fp,Oa X pins H b)->tn i s.heap->J.go i H ->
   wpAny (sM P w) X.A (t9 (.ref it)) (fun r s1=>∃ u,r=some u /\
     wpAny (sM P w) X.A (v8 tg (.ref it) u) (fun _ s2=>∃ x H',Inv X pins σ H' s2/\RelV x u/\J.yld i H x H'/\tn (i+1) s2.heap/\∀ b∈fp,H' b=none) E s1) E s
 done:∀ (X:Cx),X.prog=P->X.w=w->X.K=K->X.calm=true->∀ (i:Nat) (pins:List (rN×Obj)) (s:rM) (σ:St) (H:Hp) (E:rJ->rM->Prop),Inv X pins σ H s->(∀ b∈fp,Oa X pins H b)->tn i s.heap->J.stop i H ->
   wpAny (sM P w) X.A (t9 (.ref it)) (fun r s1=>r=none/\Inv X pins σ H s1) E s
 self:∀ (A:tY) (i:Nat) (s:rM) (Q:rJ->rM->Prop) (E:rJ->rM->Prop),tn i s.heap->Q (.ref it) s->wpAny (sM P w) A (pyIter (.ref it)) Q E s
abbrev TI:=St->Hp->(It->Hp->Prop)->Prop
def PIE (X:Cx) (pins:List (rN×Obj)) (σ:St) (tg:Expr) (R:It->Hp->Prop) (itv:rJ) (s2:rM):Prop :=
 ∃ (it:rN) (fp:List rN) (tn:Nat->tL->Prop) (J:It) (H':Hp),itv=.ref it/\Inv X pins σ H' s2/\Turn X.prog X.w X.K tg J fp it tn/\tn 0 s2.heap/\(∀ b∈fp,Oa X pins H' b)/\R J H'
def PI (X:Cx) (tg iter:Expr) (wi:TI):Prop :=
 ∀ (pins:List (rN×Obj)) (s:rM) (σ:St) (H:Hp) (R:It->Hp->Prop),Inv X pins σ H s->wi σ H R ->
   wpAny (sM X.prog X.w) X.A (eval iter X.env) (fun v s1=>wpAny (sM X.prog X.w) X.A (pyIter v) (PIE X pins σ tg R) X.xe s1) X.xe s
theorem Me {M:Model} {A:tY} {E:rJ->rM->Prop} {s:rM} {tg:Expr} {it:rN} {u:rJ} {o:Obj} {n:String} {vs:Array rJ} {Q:Unit->rM->Prop} (ho:s.heap.get? it=some o) (hc:o.cls=.type n) (hd:o.data=.fields vs)
   (hn:["enumerate", "zip", "dict_itemiterator", "dict_reverseitemiterator", "odict_iterator", "itertools.zip_longest", "itertools.pairwise"].contains n=false) (hQ:Q () s):wpAny M A (v8 tg (.ref it) u) Q E s:=by
 unfold v8;cases tg <;> first
   | exact rL hQ
   | (cases u <;> first
       | exact rL hQ
       | (refine rH (wpAny_load ho ?_)
          rw [hc,hd]; show wpAny M A (if (["enumerate", "zip", "dict_itemiterator", "dict_reverseitemiterator", "odict_iterator", "itertools.zip_longest", "itertools.pairwise"].contains n&&vs[0]? == some (yJ _))=true then _ else _) Q E s;rw [if_neg (by intro h; rw [hn,Bool.false_and] at h; cases h)];exact rL hQ))
def Itl (K:rK) (a:rN):It :=
 ⟨fun i H=>∃ xs x,SqL K H a xs/\xs[i]? = some x,fun i H x H'=>H'=H/\∀ xs,SqL K H a xs->xs[i]? = some x,fun i H=>∃ xs,SqL K H a xs/\xs.length<=i⟩
def Itt (K:rK) (a:rN):It :=
 ⟨fun i H=>∃ xs x,SqT K H a xs/\xs[i]? = some x,fun i H x H'=>H'=H/\∀ xs,SqT K H a xs->xs[i]? = some x,fun i H=>∃ xs,SqT K H a xs/\xs.length<=i⟩
def Itr (lo:Int) (n:Nat):It:=⟨fun i _=>i < n,fun i H x H'=>H'=H/\x=.int (lo+i),fun i _=>n<=i⟩
theorem Oe {P:sE} {w:sT} {K:rK} {tg:Expr} (a it:rN):Turn P w K tg (Itl K a) [it] it (fun i h=>h.IsListIter it a i) where
 mem:=by simp
 obj:=fun i h st b hb=>by
   have e:b=it:=by simpa using hb
   subst e; obtain ⟨o,e,c,d⟩:=st; exact ⟨o,e,fun v z=>by rw [d] at z; cases z⟩
 keep:=fun i h h' st k=>st.at fun o e=>k it (by simp) o e
 item:=by
   intro X hP hw hK hc i pins s σ H E I hf st hg; subst hP hw hK; obtain ⟨xs,x,hq,hx⟩:=hg; obtain ⟨its,rv,p,hz⟩:=I.list hq; obtain ⟨u,hu,ru⟩:=rv.get hx; obtain ⟨f0,f1,f2,f3,f4,f5⟩:=hf it (by simp);refine wpAny_pyNext_list_item st p.isList (x:=u) (by simpa using hu) fun h' st' sb=>?_;have I1:Inv X pins σ H { s with heap:=h' }:=I.turned (t':=s.toks) (fun b o hb e=>(sb.2 b hb).trans e) f0 f1 f3 f4 f5;obtain ⟨o,e,c,d⟩:=id st'; exact ⟨u,rfl,Me (s:={ s with heap:=h' }) e c d (by decide) ⟨x,H,I1,ru,⟨rfl,fun ys hy=>by rw [I.list_inj hy hq]; exact hx⟩,st',fun b hb=>(hf b hb).1⟩⟩
 done:=by
   intro X hP hw hK hc i pins s σ H E I hf st hg; subst hP hw hK; obtain ⟨xs,hq,hx⟩:=hg; obtain ⟨its,rv,p,hz⟩:=I.list hq; obtain ⟨f0,f1,f2,f3,f4,f5⟩:=hf it (by simp);have hl:=rv.length; exact wpAny_pyNext_list_end (I.ok.hd hc) st p.isList (by simp; lia) fun h' eb=>⟨rfl,I.turned (t':=s.toks) (fun b o hb e=>eb b o hb e) f0 f1 f3 f4 f5⟩
 self:=fun _ _ _ _ _ st h=>wpAny_pyIter_listiter st h
theorem Va {P:sE} {w:sT} {K:rK} {tg:Expr} (a it:rN):Turn P w K tg (Itt K a) [it] it (fun i h=>h.IsTupleIter it a i) where
 mem:=by simp
 obj:=fun i h st b hb=>by
   have e:b=it:=by simpa using hb
   subst e; obtain ⟨o,e,c,d⟩:=st; exact ⟨o,e,fun v z=>by rw [d] at z; cases z⟩
 keep:=fun i h h' st k=>st.at fun o e=>k it (by simp) o e
 item:=by
   intro X hP hw hK hc i pins s σ H E I hf st hg; subst hP hw hK; obtain ⟨xs,x,hq,hx⟩:=hg; obtain ⟨its,rv,p,hz⟩:=I.tuple hq; obtain ⟨u,hu,ru⟩:=rv.get hx; obtain ⟨f0,f1,f2,f3,f4,f5⟩:=hf it (by simp);refine wpAny_pyNext_tuple_item st (show s.heap.IsTuple a its.toArray from p) (x:=u) (by simpa using hu) fun h' st' sb=>?_;have I1:Inv X pins σ H { s with heap:=h' }:=I.turned (t':=s.toks) (fun b o hb e=>(sb.2 b hb).trans e) f0 f1 f3 f4 f5;obtain ⟨o,e,c,d⟩:=id st'; exact ⟨u,rfl,Me (s:={ s with heap:=h' }) e c d (by decide) ⟨x,H,I1,ru,⟨rfl,fun ys hy=>by rw [I.tuple_inj hy hq]; exact hx⟩,st',fun b hb=>(hf b hb).1⟩⟩
 done:=by
   intro X hP hw hK hc i pins s σ H E I hf st hg; subst hP hw hK; obtain ⟨xs,hq,hx⟩:=hg; obtain ⟨its,rv,p,hz⟩:=I.tuple hq; obtain ⟨f0,f1,f2,f3,f4,f5⟩:=hf it (by simp);have hl:=rv.length; exact wpAny_pyNext_tuple_end (I.ok.hd hc) st (show s.heap.IsTuple a its.toArray from p) (by simp; lia) fun h' eb=>⟨rfl,I.turned (t':=s.toks) (fun b o hb e=>eb b o hb e) f0 f1 f3 f4 f5⟩
 self:=fun _ _ _ _ _ st h=>wpAny_pyIter_tupleiter st h
theorem Vb {P:sE} {w:sT} {K:rK} {tg:Expr} (it:rN) (lo:Int) (n:Nat):Turn P w K tg (Itr lo n) [it] it (fun i h=>BZ h it (lo+(i:Nat)*1) ((n:Int) - (i:Nat)) 1) where
 mem:=by simp
 obj:=fun i h st b hb=>by
   have e:b=it:=by simpa using hb
   subst e; exact ⟨_,st,fun v z=>by
     have z':Data.fields _=Data.cell v:=z;cases z'⟩
 keep:=fun i h h' st k=>k it (by simp) _ st
 item:=by
   intro X hP hw hK hc i pins s σ H E I hf st hg; subst hP hw hK; obtain ⟨f0,f1,f2,f3,f4,f5⟩:=hf it (by simp);have W:=Walks.range (prog:=X.prog) (w:=X.w) (I.ok.hd hc) it lo 1 n; refine W.item i s _ _ hg st fun v h' tk hv st' kk=>?_;obtain ⟨t,rfl⟩:=hv; have I1:Inv X pins σ H { s with heap:=h',toks:=tk }:=I.turned (fun b o hb e=>kk b o (by simpa using hb) e) f0 f1 f3 f4 f5;refine ⟨_,rfl,Me (s:={ s with heap:=h',toks:=tk }) (n := "range_iterator") st' rfl rfl (by decide) ⟨.int (lo+i),H,I1,⟨t,?_⟩,⟨rfl,rfl⟩,st',fun b hb=>(hf b hb).1⟩⟩;rw [Int.mul_one]
 done:=by
   intro X hP hw hK hc i pins s σ H E I hf st hg; subst hP hw hK; obtain ⟨f0,f1,f2,f3,f4,f5⟩:=hf it (by simp);exact wpAny_pyNext_range_end (I.ok.hd hc) st (by have:n<=i:=hg; lia) fun h' eb=>⟨rfl,I.turned (t':=s.toks) (fun b o hb e=>eb b o hb e) f0 f1 f3 f4 f5⟩
 self:=fun _ _ _ _ _ st h=>wpAny_pyIter_rangeiter st h
end L2
namespace L2
open PySem PySem.Spec PyProof.Rows
section
variable {X:Cx} {tg:Expr}
def iList (K:rK) (tl:TE):TI:=fun σ H R=>tl σ H fun x H1=>∃ a,x=.ref a/\(∃ xs,SqL K H1 a xs)/\R (Itl K a) H1
theorem kD {l:Expr} {tl:TE} (hl:PE X l tl):PI X tg l (iList X.K tl):=by
 intro pins s σ H R I h;refine thn (hl pins s σ H _ I h) fun v s1 hZ2=>?_;obtain ⟨x,H1,I1,r1,q1⟩:=hZ2;obtain ⟨a,e,⟨xs,hq⟩,q⟩:=q1;subst e;cases r1;obtain ⟨its,rv,p,hz⟩:=I1.list hq;refine wpAny_pyIter_list p.isList ?_;refine ⟨s1.heap.objs.size,[s1.heap.objs.size],_,_,H1,rfl,I1.kept (t':=s1.toks) fun b o e=>rW _ e,Oe a _,⟨_,sL _ rfl,rfl,rfl⟩,fun b hb=>?_,q⟩;have e:b=s1.heap.objs.size:=by simpa using hb
 subst e;exact I1.fpOk (sC _) (I1.hok.fresh (sC _))
theorem Sr {pins:List (rN×Obj)} {σ:St} {H:Hp} {s:rM} {R:It->Hp->Prop} {E:rJ->rM->Prop} {lo hi:Int} {t u v:Tok} {tk:Nat} (I:Inv X pins σ H s) (h1 : -(2 ^ 62)<=lo) (h2:lo < 2 ^ 62) (h3 : -(2 ^ 62)<=hi) (h4:hi < 2 ^ 62)
   (q:R (Itr lo (hi - lo).toNat) H):wpAny (sM X.prog X.w) X.A (pyIter (.ref s.heap.objs.size)) (PIE X pins σ tg R) E { s with heap:=s.heap.push { cls:=.type "range",data:=.fields #[.int lo t,.int hi u,.int 1 v] },toks:=tk }:=by
 refine wpAny_pyIter_range (IsRange.new ..) (small_one h1 h2 h3 h4) ?_;have I1:Inv X pins σ H { s with heap:=s.heap.push { cls:=.type "range",data:=.fields #[.int lo t,.int hi u,.int 1 v] },toks:=tk }:=I.kept fun b o e=>rW _ e;refine ⟨(s.heap.push { cls:=.type "range",data:=.fields #[.int lo t,.int hi u,.int 1 v] }).objs.size,[(s.heap.push { cls:=.type "range",data:=.fields #[.int lo t,.int hi u,.int 1 v] }).objs.size],_,_,H,rfl,
   I1.kept (t':=tk) fun b o e=>rW _ e,Vb _ lo (hi - lo).toNat,?_,fun b hb=>?_,q⟩
 . have e1:lo+((0:Nat):Int)*1=lo:=by simp
   have e2:(((hi - lo).toNat:Nat):Int) - ((0:Nat):Int)=yH lo hi 1:=by rw [rangeSize_one]; split <;> lia
   show BZ _ _ (lo+((0:Nat):Int)*1) ((((hi - lo).toNat:Nat):Int) - ((0:Nat):Int)) 1;rw [e1,e2]; exact sL _ rfl
 . have e:b=(s.heap.push { cls:=.type "range",data:=.fields #[.int lo t,.int hi u,.int 1 v] }).objs.size:=by simpa using hb
   subst e; exact I1.fpOk (sC _) (I1.hok.fresh (sC _))
def iRng1 (ta:TA):TI:=fun σ H R=>ta σ H fun vs H1=>∃ j:Int,vs=[.int j] /\ -(2 ^ 62)<=j/\j < 2 ^ 62/\R (Itr 0 j.toNat) H1
def iRng2 (ta:TA):TI:=fun σ H R=>ta σ H fun vs H1=>∃ i j:Int,vs=[.int i,.int j]/\(-(2 ^ 62)<=i/\i < 2 ^ 62 /\ -(2 ^ 62)<=j/\j < 2 ^ 62)/\R (Itr i (j - i).toNat) H1
theorem aI {a:Expr} {ta:TA} {p pos:Pos} (hg:Gl X "range") (hm:X.mg "range" = none) (ha:PA X [a] ta) (hs:rP [a] X.env=[(false,eval a X.env)]:=by rfl):PI X tg (.Call (.Name "range" p) [a] [] pos) (iRng1 ta):=by
 intro pins s σ H R I h;refine Call_ (Fc I hg hm boot_range (vI (thn (ha pos pins s σ H _ I h) fun us s1 hY6=>?_) hs rfl));obtain ⟨vs,H1,I1,r1,q1⟩:=hY6;obtain ⟨j,e,q1,q2,q⟩:=q1;subst e;cases r1 with
 | cons r rr =>
   cases rr; obtain ⟨t,rfl⟩:=r; exact call_range_1 (Sr I1 (by lia) (by lia) q1 q2 (by simpa using q))
theorem aH {a b:Expr} {ta:TA} {p pos:Pos} (hg:Gl X "range") (hm:X.mg "range" = none) (ha:PA X [a,b] ta) (hs:rP [a,b] X.env=[(false,eval a X.env),(false,eval b X.env)]:=by rfl) (hs2:rP [b] X.env=[(false,eval b X.env)]:=by rfl) :
   PI X tg (.Call (.Name "range" p) [a,b] [] pos) (iRng2 ta):=by
 intro pins s σ H R I h;refine Call_ (Fc I hg hm boot_range (vI (thn (ha pos pins s σ H _ I h) fun us s1 hY7=>?_) (by rw [hs,hs2]) (by rw [hs2]; rfl)));obtain ⟨vs,H1,I1,r1,q1⟩:=hY7;obtain ⟨i,j,e,⟨q1,q2,q3,q4⟩,q⟩:=q1;subst e;cases r1 with
 | cons r rr =>
   cases rr with
   | cons r' rr =>
     cases rr; obtain ⟨t,rfl⟩:=r; obtain ⟨t',rfl⟩:=r'; exact call_range_2 (Sr I1 q1 q2 q3 q4 q)
def tFor (wi:TI) (g:TG) (tb:TS):TS:=fun D σ H=>wi σ H fun J H1=>∃ W:Nat->Nat->St->Hp->Prop,(∃ m,W 0 m σ H1)/\∀ i m σ H,W i m σ H ->
 (J.stop i H/\D.nx σ H)\/(J.go i H/\∃ N:St->Hp->Prop,(∀ σ' H',N σ' H'->∃ m',m' < m/\W (i+1) m' σ' H')/\∀ x H',J.yld i H x H'->g x σ H' fun σ2 H2=>tb { D with nx:=N,ct:=N,bk:=D.nx } σ2 H2)
def Lr (fp:List rN) (h:tL):List (rN×Obj):=fp.filterMap fun b=>(h.get? b).map fun o=>(b,o)
theorem Fb {fp:List rN} {h:tL} {b:rN} {o:Obj} (hb:b∈fp) (e:h.get? b=some o):(b,o)∈Lr fp h:=x8.mpr ⟨b,hb,by rw [e]; rfl⟩
theorem aL {fp:List rN} {h:tL} {p:rN×Obj} (hp:p∈Lr fp h):p.1∈fp/\h.get? p.1=some p.2:=by
 obtain ⟨b,hb,e⟩:=x8.mp hp;cases q:h.get? b with
 | none=>rw [q] at e; cases e
 | some o =>
   rw [q] at e; have e':(b,o)=p:=sZ e; subst e'; exact ⟨hb,q⟩
theorem Inv.pinned {pins:List (rN×Obj)} {σ:St} {H:Hp} {s:rM} {fp:List rN} (I:Inv X pins σ H s) (hf:∀ b∈fp,Oa X pins H b) (ho:∀ b∈fp,∃ o,s.heap.get? b=some o/\∀ v,o.data≠.cell v):Inv X (pins++Lr fp s.heap) σ H s :=
 I.pins_of fun p hp=>(sF.mp hp).elim (fun z=>I.pin p (wB _ z)) fun z=>by
   obtain ⟨hb,e⟩:=aL z; obtain ⟨f0,f1,f2,_⟩:=hf p.1 hb; obtain ⟨o,e',d⟩:=ho p.1 hb; rw [e] at e'; cases e'; exact ⟨e,f0,f1,f2,d⟩
theorem Inv.unpinned {pins pl:List (rN×Obj)} {σ:St} {H:Hp} {s:rM} (I:Inv X (pins++pl) σ H s):Inv X pins σ H s:=I.pins_of fun p hp=>I.pin p (wB _ (t8 _ hp))
theorem Wb {iter:Expr} {body:List vN} {wi:TI} {g:TG} {tb:TS} {pos:Pos} (hp:PassesOwn (sM X.prog X.w) X.A X.env X.xe) (hc:X.calm=true) (hi:PI X tg iter wi) (hg:PG X tg g) (hb:PSs X body tb)
   (hs:∀ x,uQ iter X.env x=pure x:=by intro _; rfl):PS X (.For tg iter body [] pos) (tFor wi g tb):=by
 intro pins s σ H D I h;refine wpAny_For (thn (hi pins s σ H _ I h) fun v s1 h1=>thn h1 fun itv s2 h2=>?_) hs;obtain ⟨it,fp,tn,J,H2,e,I2,T,st2,f2,W,⟨m0,w0⟩,turn⟩:=h2;subst e;have stat:∀ {H':Hp},(∀ b∈fp,H' b=none)->∀ b∈fp,Oa X pins H' b:=fun hn b hb=>⟨hn b hb,(f2 b hb).2⟩;refine codeAny_forLoop_any (fun n s'=>∃ i σ' H',Inv X pins σ' H' s'/\tn i s'.heap/\(∀ b∈fp,H' b=none)/\W i n σ' H') ?_ m0 ⟨0,σ,H2,I2,st2,fun b hb=>(f2 b hb).1,w0⟩;rintro n s3 ⟨i,σ3,H3,I3,st3,fr3,w3⟩;rcases turn i n σ3 H3 w3 with ⟨stop,qn⟩ | ⟨go,N,hN,step⟩
 . refine yD hp (thn (T.done X rfl rfl rfl hc i pins s3 σ3 H3 X.xe I3 (stat fr3) st3 stop) fun r s4 hZ2=>?_)
   obtain ⟨hr,I4⟩:=hZ2; subst hr; exact v6 ⟨σ3,H3,I4,qn⟩
 . refine yD hp (thn (T.item X rfl rfl rfl hc i pins s3 σ3 H3 X.xe I3 (stat fr3) st3 go) fun r s4 hZ2=>?_)
   obtain ⟨u,hr,h4⟩:=hZ2; subst hr; refine yD hp (thn h4 fun _ s5 hZ2=>?_);obtain ⟨x,H5,I5,r5,y5,st5,fr5⟩:=hZ2; have I5':=I5.pinned (stat fr5) (T.obj _ _ st5); refine yD hp (thn (hg _ s5 σ3 H5 x u _ I5' r5 (step x H5 y5)) fun _ s6 hZ2=>?_);obtain ⟨σ6,H6,I6,q6⟩:=hZ2; refine yD hp (thn (hb _ s6 σ6 H6 _ I6 q6) fun f s7 q7=>?_);have again:∀ {σ7:St} {H7:Hp},Inv X (pins++Lr fp s5.heap) σ7 H7 s7->N σ7 H7->∃ m,m < n/\∃ i σ' H',Inv X pins σ' H' s7/\tn i s7.heap/\(∀ b∈fp,H' b=none)/\W i m σ' H':=fun {σ7 H7} I7 n7=>by
     obtain ⟨m',hm,w7⟩:=hN σ7 H7 n7; refine ⟨m',hm,i+1,σ7,H7,I7.unpinned,T.keep _ _ _ st5 fun b hb o e=>(I7.pin (b,o) (wB _ (wB _ (Fb hb e)))).1,fun b hb=>?_,w7⟩;obtain ⟨o,e,d⟩:=T.obj _ _ st5 b hb; exact (I7.pin (b,o) (wB _ (wB _ (Fb hb e)))).2.1
   cases f with
   | next=>obtain ⟨σ7,H7,I7,n7⟩:=q7; exact again I7 n7
   | cont=>obtain ⟨σ7,H7,I7,n7⟩:=q7; exact again I7 n7
   | brk=>obtain ⟨σ7,H7,I7,q7⟩:=q7; exact ⟨σ7,H7,I7.unpinned,q7⟩
   | ret v=>obtain ⟨x7,σ7,H7,I7,r7,q7⟩:=q7; exact ⟨x7,σ7,H7,I7.unpinned,r7,q7⟩
end
end L2
namespace L2
open PySem PySem.Spec PyProof.Rows
abbrev R2:=V->V->Hp->VK->Prop
def OpR (X:Cx) (f:rJ->rJ->Sem rJ) (r:R2):Prop :=
 ∀ (pins:List (rN×Obj)) (s:rM) (σ:St) (H:Hp) (x y:V) (v u:rJ) (Q:VK),Inv X pins σ H s->RelV x v->RelV y u->r x y H Q ->
   wpAny (sM X.prog X.w) X.A (f v u) (EP X pins σ Q) X.xe s
def UnR (X:Cx) (f:rJ->Sem rJ) (r:V->Hp->VK->Prop):Prop :=
 ∀ (pins:List (rN×Obj)) (s:rM) (σ:St) (H:Hp) (x:V) (v:rJ) (Q:VK),Inv X pins σ H s->RelV x v->r x H Q ->
   wpAny (sM X.prog X.w) X.A (f v) (EP X pins σ Q) X.xe s
def Au (X:Cx) (f:rJ) (r:List V->Hp->VK->Prop):Prop :=
 ∀ (pins:List (rN×Obj)) (s:rM) (σ:St) (H:Hp) (xs:List V) (us:List rJ) (Q:VK),Inv X pins σ H s->Vals xs us->r xs H Q ->
   wpAny (sM X.prog X.w) X.A (call f us) (EP X pins σ Q) X.xe s
def TruR (X:Cx) (r:V->Hp->(Bool->Hp->Prop)->Prop):Prop :=
 ∀ (pins:List (rN×Obj)) (s:rM) (σ:St) (H:Hp) (x:V) (v:rJ) (Q:Bool->Hp->Prop),Inv X pins σ H s->RelV x v->r x H Q ->
   wpAny (sM X.prog X.w) X.A (truthy v) (TP X pins σ Q) X.xe s
def tOp (r:R2) (ta tb:TE):TE:=fun σ H Q=>ta σ H fun x H1=>tb σ H1 fun y H2=>r x y H2 Q
def tUn (r:V->Hp->VK->Prop) (ta:TE):TE:=fun σ H Q=>ta σ H fun x H1=>r x H1 Q
def rI (C:Int->Int->Prop) (g:Int->Int->V):R2:=fun x y H Q=>∃ i j,x=.int i/\y=.int j/\C i j/\Q (g i j) H
def rI0 (g:Int->Int->V):R2:=fun x y H Q=>∃ i j,x=.int i/\y=.int j/\Q (g i j) H
def rU (g:Int->V):V->Hp->VK->Prop:=fun x H Q=>∃ i,x=.int i/\Q (g i) H
section
variable {X:Cx} {a b:Expr} {ta tb:TE} {pos:Pos}
theorem rB (ha:PE X a ta) (hb:PE X b tb) {pins:List (rN×Obj)} {s:rM} {σ:St} {H:Hp} {R:V->V->Hp->Prop} (I:Inv X pins σ H s)
   (h:ta σ H fun x H1=>tb σ H1 fun y H2=>R x y H2) {Q:rJ->rM->Prop} {f:rJ->rJ->Sem rJ}
   (hf:∀ v u s2 x y H2,Inv X pins σ H2 s2->RelV x v->RelV y u->R x y H2->wpAny (sM X.prog X.w) X.A (f v u) Q X.xe s2) :
   wpAny (sM X.prog X.w) X.A (eval a X.env) (fun v s₁=>wpAny (sM X.prog X.w) X.A (eval b X.env) (fun u s₂=>wpAny (sM X.prog X.w) X.A (f v u) Q X.xe s₂) X.xe s₁) X.xe s:=by
 refine thn (ha pins s σ H _ I h) fun v s1 hZ2=>?_;obtain ⟨x,H1,I1,r1,q1⟩:=hZ2;refine thn (hb pins s1 σ H1 _ I1 q1) fun u s2 hZ2=>?_;obtain ⟨y,H2,I2,r2,q2⟩:=hZ2;exact hf v u s2 x y H2 I2 r1 r2 q2
theorem pe_op {op:Operator} {r:R2} (ho:OpR X (o7 op) r) (ha:PE X a ta) (hb:PE X b tb):PE X (.BinOp a op b pos) (tOp r ta tb):=by
 intro pins s σ H Q I h;exact wpAny_BinOp (rB ha hb I h fun v u s2 x y H2 I2 rx ry q=>ho pins s2 σ H2 x y v u Q I2 rx ry q)
theorem pe_un {op:UnaryOp} {r:V->Hp->VK->Prop} (ho:UnR X (unaryOp op) r) (ha:PE X a ta):PE X (.UnaryOp op a pos) (tUn r ta):=by
 intro pins s σ H Q I h;exact UnaryOp_ (thn (ha pins s σ H _ I h) fun v s1 hZ2=>by obtain ⟨x,H1,I1,r1,q1⟩:=hZ2; exact ho pins s1 σ H1 x v Q I1 r1 q1)
theorem opI {f:rJ->rJ->Sem rJ} {C:Int->Int->Prop} {g:Int->Int->Int}
   (rule:∀ (i j:Int) (t u:Tok) (s:rM) (Q:rJ->rM->Prop) (E:rJ->rM->Prop),C i j->Q (.int (g i j) s.toks) { s with toks:=s.toks+1 }->wpAny (sM X.prog X.w) X.A (f (.int i t) (.int j u)) Q E s) :
   OpR X f (rI C fun i j=>.int (g i j)):=by
 intro pins s σ H x y v u Q I rx ry h;obtain ⟨i,j,rfl,rfl,hc,q⟩:=h;obtain ⟨t,rfl⟩:=rx;obtain ⟨t',rfl⟩:=ry;exact rule i j t t' s _ _ hc ⟨.int (g i j),H,I.tok _,⟨_,rfl⟩,q⟩
theorem opI0 {f:rJ->rJ->Sem rJ} {g:Int->Int->Int}
   (rule:∀ (i j:Int) (t u:Tok) (s:rM) (Q:rJ->rM->Prop) (E:rJ->rM->Prop),Q (.int (g i j) s.toks) { s with toks:=s.toks+1 }->wpAny (sM X.prog X.w) X.A (f (.int i t) (.int j u)) Q E s) :
   OpR X f (rI0 fun i j=>.int (g i j)):=by
 intro pins s σ H x y v u Q I rx ry h;obtain ⟨i,j,rfl,rfl,q⟩:=h;obtain ⟨t,rfl⟩:=rx;obtain ⟨t',rfl⟩:=ry;exact rule i j t t' s _ _ ⟨.int (g i j),H,I.tok _,⟨_,rfl⟩,q⟩
def CDiv (i j:Int):Prop:=0 < j/\j < 1073741824
def CMul (i j:Int):Prop:=(-(2 ^ 64) < i/\i < 2 ^ 64)\/(-(2 ^ 64) < j/\j < 2 ^ 64)
theorem CMul.ok {i j:Int} (h:CMul i j):IntMulOk i j:=by
 rcases h with ⟨h1,h2⟩ | ⟨h1,h2⟩
 . exact .of_left (intBits_le_64 h1 h2)
 . exact .of_right (intBits_le_64 h1 h2)
theorem pA:OpR X (o7 .Sub) (rI0 fun i j=>.int (i - j)):=opI0 fun _ _ _ _ _ _ _ q=>sub_int q
theorem kI:OpR X (o7 .FloorDiv) (rI CDiv fun i j=>.int (i / j)):=opI fun i j _ _ _ _ _ hc q=>by
 have h1:(0:Int) < j:=hc.1;have h2:j < 1073741824:=hc.2;exact floordiv_int (by lia) (by rw [Int.fdiv_eq_ediv_of_nonneg i (by lia)]; exact q) (.inl (BP (by lia)))
theorem pB:OpR X (o7 .Mod) (rI (fun _ j=>0 < j) fun i j=>.int (i % j)):=opI fun i j _ _ _ _ _ hc q=>by
 have h1:(0:Int) < j:=hc;exact mod_int' (by lia) (by rw [Int.fmod_eq_emod_of_nonneg i (by lia)]; exact q)
theorem unI {f:rJ->Sem rJ} {g:Int->Int}
   (rule:∀ (i:Int) (t:Tok) (s:rM) (Q:rJ->rM->Prop) (E:rJ->rM->Prop),Q (.int (g i) s.toks) { s with toks:=s.toks+1 }->wpAny (sM X.prog X.w) X.A (f (.int i t)) Q E s) :
   UnR X f (rU fun i=>.int (g i)):=by
 intro pins s σ H x v Q I rx h;obtain ⟨i,rfl,q⟩:=h;obtain ⟨t,rfl⟩:=rx;exact rule i t s _ _ ⟨.int (g i),H,I.tok _,⟨_,rfl⟩,q⟩
theorem nG:UnR X (unaryOp .USub) (rU fun i=>.int (-i)):=unI fun _ _ _ _ _ q=>neg_int q
end
section
variable {X:Cx} {a b c:Expr} {ta tb:TE} {pos:Pos}
theorem Dl (b:Expr) {op:wP} (h:op≠.In:=by decide) (h2:op≠.NotIn:=by decide):behindInMarks op b=false:=by
 have e1:(op==CmpOp.In)=false:=by cases op <;> first | rfl | exact absurd rfl h
 have e2:(op==CmpOp.NotIn)=false:=by cases op <;> first | rfl | exact absurd rfl h2
 cases b <;> simp [behindInMarks,e1,e2]
theorem Yg {op:wP} {r:R2} (ho:OpR X (vH op) r) (ha:PE X a ta) (hb:PE X b tb) (hm:behindInMarks op b=false):PE X (.Compare a [op] [b] pos) (tOp r ta tb):=by
 intro pins s σ H Q I h;exact wpAny_Compare1 (rB ha hb I h fun v u s2 x y H2 I2 rx ry q=>ho pins s2 σ H2 x y v u Q I2 rx ry q) hm
def tTest (t:TE):TT:=fun σ H Q=>t σ H fun x H'=>∃ k,x=.bl k/\Q k H'
theorem Ya {op:wP} {r:R2} (ho:OpR X (vH op) r) (ha:PE X a ta) (hb:PE X b tb) (hm:behindInMarks op b=false):PT X (.Compare a [op] [b] pos) (tTest (tOp r ta tb)):=by
 intro pins s σ H Q I h;refine wpAny_isTrue_Compare1 (thn (ha pins s σ H _ I h) fun v s1 hY8=>?_) hm;obtain ⟨x,H1,I1,r1,q1⟩:=hY8;refine thn (hb pins s1 σ H1 _ I1 q1) fun u s2 hY9=>?_;obtain ⟨y,H2,I2,r2,q2⟩:=hY9;refine thn (ho pins s2 σ H2 x y v u _ I2 r1 r2 q2) fun c s3 hY10=>?_;obtain ⟨z,H3,I3,r3,k,e,q3⟩:=hY10;subst e;cases r3;exact xK ⟨H3,I3,q3⟩
def rD (K:rK) (x:V) (H:Hp) (k:Bool):Prop :=
 match x with
 | .non=>k=false
 | .bl b=>k=b
 | .int i=>k=(i != 0)
 | .str y=>y.length<=sizeLine/\k=((y.length:Int) != 0)
 | .byt y=>y.size<=sizeLine/\k=((y.size:Int) != 0)
 | .ref p=>(∃ xs,SqL K H p xs/\k = !xs.isEmpty)\/(∃ xs,SqT K H p xs/\k = !xs.isEmpty)\/∃ kvs,H p=some (.dK kvs)/\k = !kvs.isEmpty
 | _=>False
theorem Wq {κ:Type} {kvs:List (κ×V)} {vs:List (κ×rJ)} (r:KV kvs vs):(!vs.isEmpty) = !kvs.isEmpty:=by
 cases r <;> rfl
theorem Mc {xs:List V} {its:List rJ} (r:Vals xs its):(!its.toArray.isEmpty) = !xs.isEmpty:=by
 cases r <;> simp
theorem Ch:(sizeLine:Nat) < 2 ^ 63:=by rw [b9]; decide
theorem nH:TruR X (fun x H Q=>∃ k,rD X.K x H k/\Q k H):=by
 intro pins s σ H x v Q I rx h;obtain ⟨k,e,q⟩:=h;have hl:=Ch;have hs:sizeLine=16777216:=b9;cases x with
 | non =>
   cases rx; have e':k=false:=e; subst e'; exact truthy_none ⟨H,I,q⟩
 | bl b =>
   cases rx; have e':k=b:=e; subst e'; exact xK ⟨H,I,q⟩
 | int i =>
   obtain ⟨t,rfl⟩:=rx; have e':k=(i != 0):=e; subst e'; exact PySem.P.truthy_int ⟨H,I,q⟩
 | str y =>
   obtain ⟨t,rfl⟩:=rx; obtain ⟨hy,e'⟩:y.length<=sizeLine/\k=((y.length:Int) != 0):=e; subst e'; exact PySem.P.truthy_str (by lia) ⟨H,I.tok _,q⟩
 | byt y =>
   obtain ⟨t,rfl⟩:=rx; obtain ⟨hy,e'⟩:y.size<=sizeLine/\k=((y.size:Int) != 0):=e; subst e'; exact PySem.W.truthy_bytes (by lia) ⟨H,I.tok _,q⟩
 | ref p =>
   cases rx; have e':(∃ xs,SqL X.K H p xs/\k = !xs.isEmpty)\/(∃ xs,SqT X.K H p xs/\k = !xs.isEmpty)\/∃ kvs,H p=some (.dK kvs)/\k = !kvs.isEmpty:=e; rcases e' with ⟨xs,hx,e'⟩ | ⟨xs,hx,e'⟩ | ⟨kvs,hx,e'⟩
   . subst e'
     obtain ⟨its,r,pl,hz⟩:=I.list hx; have hlen:=r.length; exact wpAny_truthy_list pl.isList (by simp only [rX]; lia) ⟨H,I.tok _,by rw [Mc r]; exact q⟩
   . subst e'
     obtain ⟨its,r,pl,hz⟩:=I.tuple hx; have hlen:=r.length; exact truthy_tuple pl (by simp only [rX]; lia) ⟨H,I.tok _,by rw [Mc r]; exact q⟩
   . subst e'
     obtain ⟨hz,hS,vs,r,m⟩:kvs.length<=sizeLine/\(p==wK)=false/\∃ vs,KV kvs vs/\s.heap.DictOf (Qp X.prog X.w) p vs:=I.hok p _ hx; have hlen:kvs.length=vs.length:=Paired.length r; exact wpAny_truthy_dict hS m (by lia) ⟨H,I.tok _,by rw [Wq r]; exact q⟩
 | _=>exact (show False from e).elim
theorem Ga (ha:PE X a ta) (he:∀ whole,isTrue a X.env whole=(do let v <- whole; standAt a.pos; holding [v] (truthy v))) :
   PT X a (fun σ H Q=>ta σ H fun x H'=>∃ k,rD X.K x H' k/\Q k H'):=by
 intro pins s σ H Q I h;exact isTrue_plain (thn (ha pins s σ H _ I h) fun v s1 hZ2=>by obtain ⟨x,H1,I1,r1,q1⟩:=hZ2; exact nH pins s1 σ H1 x v Q I1 r1 q1) (he _)
theorem Jq {x:V} {us:List rJ} (r:Vals [x] us):∃ u,us=[u]/\RelV x u:=by
 cases r with
 | cons r1 r2=>cases r2; exact ⟨_,rfl,r1⟩
theorem Pf:Au X (.type "int") (fun xs H Q=>(∃ i,xs=[.int i]/\Q (.int i) H)\/∃ k,xs=[.bl k]/\Q (.int (if k then 1 else 0)) H):=by
 intro pins s σ H xs us Q I r h;rcases h with ⟨i,rfl,q⟩ | ⟨k,rfl,q⟩
 . obtain ⟨u,rfl,t,rfl⟩:=Jq r
   exact call_int_int ⟨.int i,H,I,⟨_,rfl⟩,q⟩
 . obtain ⟨u,rfl,r1⟩:=Jq r
   cases r1; exact call_int_bool ⟨.int (if k then 1 else 0),H,I.tok _,⟨_,rfl⟩,q⟩
def LenV (K:rK) (x:V) (H:Hp) (n:Nat):Prop :=
 match x with
 | .str y=>y.length<=sizeLine/\n=y.length
 | .byt y=>y.size<=sizeLine/\n=y.size
 | .ref p=>(∃ xs,SqL K H p xs/\n=xs.length)\/∃ xs,SqT K H p xs/\n=xs.length
 | _=>False
theorem Mo:Au X (.builtin "len") (fun xs H Q=>∃ x n,xs=[x]/\LenV X.K x H n/\Q (.int n) H):=by
 intro pins s σ H xs us Q I r h;obtain ⟨x,n,rfl,e,q⟩:=h;obtain ⟨u,rfl,rx⟩:=Jq r;have hl:=Ch;have hs:sizeLine=16777216:=b9;cases x with
 | str y =>
   obtain ⟨t,rfl⟩:=rx; obtain ⟨hy,e'⟩:y.length<=sizeLine/\n=y.length:=e; subst e'; exact len_str (by lia) ⟨.int _,H,I.tok _,⟨_,rfl⟩,q⟩
 | byt y =>
   obtain ⟨t,rfl⟩:=rx; obtain ⟨hy,e'⟩:y.size<=sizeLine/\n=y.size:=e; subst e'; exact PySem.W.len_bytes (by lia) ⟨.int _,H,I.tok _,⟨_,rfl⟩,q⟩
 | ref p =>
   cases rx; have e':(∃ xs,SqL X.K H p xs/\n=xs.length)\/∃ xs,SqT X.K H p xs/\n=xs.length:=e; rcases e' with ⟨xs,hx,e'⟩ | ⟨xs,hx,e'⟩
   . subst e'
     obtain ⟨its,r',pl,hz⟩:=I.list hx; have hlen:=r'.length; exact DH pl.isList (by simp only [rX]; lia) ⟨.int xs.length,H,I.tok _,⟨_,by simp only [rX]; rw [hlen]⟩,q⟩
   . subst e'
     obtain ⟨its,r',pl,hz⟩:=I.tuple hx; have hlen:=r'.length; exact len_tuple pl (by simp only [rX]; lia) ⟨.int xs.length,H,I.tok _,⟨_,by simp only [rX]; rw [hlen]⟩,q⟩
 | _=>exact (show False from e).elim
end
end L2
namespace L2
open PySem PySem.Spec PyProof.Rows
structure ObjM (h:tL) (x dx C:rN) (mA:Str->Option rJ):Prop where
 obj:h.get? x=some (xA C dx)
 ns:h.Ns1 dx mA
 ne:dx≠x
theorem aV {h:tL} {dx:rN} {mA:Str->Option rJ} (n:h.Ns1 dx mA):∃ od,h.get? dx=some od/\∀ name,l6 name od=some (mA name):=by
 obtain ⟨o,es,ep,ho,hd,hk,_,hm⟩:=n;refine ⟨o,ho,fun name=>?_⟩;have e:=hm name;unfold nsFind findBy at e;rw [<- Array.find?_toList] at e;unfold l6;rw [hd];dsimp only;split
 . rename_i y q
   rw [q] at e; exact congrArg some e
 . rename_i q
   rw [q] at e; have a:es.toList.any (·.refKey)=false:=by
     rw [List.any_eq_false]; intro y hy; obtain ⟨z,t,hkey⟩:=hk y (Array.mem_toList_iff.mp hy); simp [DictEntry.refKey,hkey]
   have a':¬ es.toList.any (·.refKey)=true:=by rw [a]; exact vB
   rw [if_neg a']; exact congrArg some e
theorem ObjM.look {h:tL} {x dx C:rN} {mA:Str->Option rJ} (I:ObjM h x dx C mA):∃ od,PySem.W.InstAt h x (xA C dx) C (some od)/\∀ name,l6 name od=some (mA name) :=
 let ⟨od,ho,hl⟩:=aV I.ns
 ⟨od,⟨I.obj,rfl,rfl,ho⟩,hl⟩
section
variable {prog:sE} {w:sT} {A:tY} {E:rJ->rM->Prop} {s:rM} {K:rK} {x dx C f:rN} {mA:Str->Option rJ} {name:Str} {v:rJ}
theorem lD {expr:Bool} {Q:rJ->rM->Prop} (X:K.In s.heap) (I:ObjM s.heap x dx C mA) (hg:i0 K C name=true) (hh:x5 K C=true)
   (ha:uZ K (.ref C) name=some none) (hv:mA name=some v) (hv':PySem.W.handedIn v=true) (h:Q v { s with toks:=s.toks+1 }) :
   wpAny (sM prog w) A (getAttr (.ref x) name expr) Q E s:=by
 obtain ⟨od,J,hl⟩:=I.look;exact PySem.W.get_value X J (o9 hg).1 (PySem.W.findObj_own hh ha rfl (by rw [hl,hv])) hv' h
theorem gH {pl:Sem Bool} {Q:rJ×List rJ->rM->Prop} (X:K.In s.heap) (I:ObjM s.heap x dx C mA) (hg:i0 K C name=true)
   (hf:uZ K (.ref C) name=some (some (.ref f))) (ht:yX K (.ref f)=true) (hv:mA name=none) (h:Q (.ref f,[.ref x]) s) :
   wpAny (sM prog w) A (zF (.ref x) name pl) Q E s:=by
 obtain ⟨od,J,hl⟩:=I.look;exact PySem.W.method_fn X J (o9 hg).1 (o9 hg).2 hf (beq_iff_eq.mp ht) (by show (l6 name od).map (·.isSome)=some false; rw [hl,hv]; rfl) h
theorem iV {ns:List Str} {Q:Unit->rM->Prop} (X:K.In s.heap) (I:ObjM s.heap x dx C mA)
   (hs:uZ K (.ref C) "__setattr__" = some (some (.builtin "object.__setattr__"))) (hp:CZ K C=true) (ht:AF K C name=some none) (hh:x5 K C=true)
   (hw:CC mA ns) (hsz:ns.length<=sizeLine)
   (h:∀ h',ObjM h' x dx C (fun y=>if y=name then some v else mA y)->zZ dx s.heap h'->Q () { s with heap:=h',toks:=s.toks+2 }) :
   wpAny (sM prog w) A (setAttr (.ref x) name v) Q E s:=by
 obtain ⟨od,J,hl⟩:=I.look;refine PySem.W.set_plain X J hs (PySem.W.osa_open (s:={ s with toks:=s.toks+1 }) (r:=none) X J hp ht fun b=>?_);obtain ⟨cd,hc,hd'⟩:=PySem.W.any_some hh;have hx:s.heap.get? x=some ⟨.ref C,some dx,.plain,#[]⟩:=I.obj;refine rH (rL (rH (rH (wpAny_loadPart hx (rH (PySem.W.Looks.here (s:={ s with toks:=s.toks+1 }) (PySem.W.looks_clsIn X hc) ?_))))));rw [hd'];refine rL (a:=some dx) (rH (rL (rH ?_)));refine wpAny_nsSet1 (s:={ s with toks:=s.toks+1 }) I.ns fun h' hn2 hs2=>?_;obtain ⟨oD,esD,epD,hoD,hdD,hcD⟩:=hn2.count (PySem.Within.cons name v hw)
 refine rH (wpAny_lookBehind hoD (by rw [hdD]; exact pastItsLine_dict (sJ hcD (by rw [sD]; lia))) ?_);exact rL (h _ ⟨(hs2.2 _ (Ne.symm I.ne)).trans I.obj,hn2,I.ne⟩ hs2)
theorem fR {R:Result->rM->Prop} {vs:List rJ} {kw:List (Str×rJ)} (X:K.In s.heap) (hm:AG K C=true)
   (hi:uZ K (.ref C) "__init__" = some (some (.ref f))) (hf:PySem.W.typeIn K (.ref f)=some (.type "function"))
   (h:k9 (sM prog w) (A.under (.builtin "type.__call__" ⟨.ref C::vs,kw⟩)) (.call (.ref f) ⟨.ref (s.heap.objs.size+1)::vs,kw⟩) (PySem.W.InitBack (s.heap.objs.size+1) R)
     { s with heap:=(s.heap.push vU).push (xA C s.heap.objs.size) }) :
   k9 (sM prog w) A (.call (.ref C) ⟨vs,kw⟩) R s:=by
 obtain ⟨hh,g,d,t,os⟩:=s;exact PySem.W.make_core (PySem.W.makes_of X hm) (PySem.W.looks_findIn X hi) (fun self=>PySem.W.bind_fn X self hf) (.inl rfl) h
end
def Cf (f:Str) (v:V):List (Str×V)->List (Str×V)
 | []=>[(f,v)]
 | (g,x)::r=>if g=f then (g,v)::r else (g,x)::Cf f v r
theorem Ig (f g:Str) (v:V):∀ fs:List (Str×V),(Cf f v fs).lookup g=if g=f then some v else fs.lookup g
 | []=>by
   show yY g [(f,v)]=_;by_cases h:g=f
   . have hb:(g==f)=true:=beq_iff_eq.mpr h
     simp only [yY,hb,if_pos h]
   . have hb:(g==f)=false:=beq_eq_false_iff_ne.mpr h
     simp only [yY,hb,if_neg h]
 | (k,x)::r=>by
   have ih:=Ig f g v r; rw [show Cf f v ((k,x)::r)=(if k=f then (k,v)::r else (k,x)::Cf f v r) from rfl];by_cases hk:k=f
   . rw [if_pos hk]
     by_cases h:g=k
     . have hb:(g==k)=true:=beq_iff_eq.mpr h
       simp only [yY,hb,if_pos (h.trans hk)]
     . have hb:(g==k)=false:=beq_eq_false_iff_ne.mpr h
       simp only [yY,hb,if_neg (fun e:g=f=>h (e.trans hk.symm))]
   . rw [if_neg hk]
     by_cases h:g=k
     . have hb:(g==k)=true:=beq_iff_eq.mpr h
       simp only [yY,hb,if_neg (fun e:g=f=>hk (h.symm.trans e))]
     . have hb:(g==k)=false:=beq_eq_false_iff_ne.mpr h
       simp only [yY,hb]; exact ih
theorem Hn (f:Str) (v:V):∀ fs:List (Str×V),f∈(Cf f v fs).map (·.1)/\∀ g,g∈fs.map (·.1)->g∈(Cf f v fs).map (·.1)
 | []=>⟨by simp [Cf],fun g h=>by simp at h⟩
 | (k,x)::r=>by
   obtain ⟨i1,i2⟩:=Hn f v r; rw [show Cf f v ((k,x)::r)=(if k=f then (k,v)::r else (k,x)::Cf f v r) from rfl];by_cases hk:k=f
   . rw [if_pos hk]
     subst hk; exact ⟨by simp,fun g h=>by simpa using h⟩
   . rw [if_neg hk]
     refine ⟨?_,fun g h=>?_⟩
     . rw [rV]
       exact uM _ i1
     . rw [rV] at h ⊢
       rcases rT.mp h with e | e
       . exact rT.mpr (.inl e)
       . exact uM _ (i2 g e)
theorem Ih (f:Str) (v:V):∀ fs:List (Str×V),(Cf f v fs).length<=fs.length+1
 | []=>by simp [Cf]
 | (k,x)::r=>by
   have ih:=Ih f v r; rw [show Cf f v ((k,x)::r)=(if k=f then (k,v)::r else (k,x)::Cf f v r) from rfl];by_cases hk:k=f
   . rw [if_pos hk,sD,sD]; lia
   . rw [if_neg hk,sD,sD]; lia
theorem RelO.some_of {v:V} {o:Option rJ} (r:RelO (some v) o):∃ u,o=some u/\RelV v u:=by
 cases o with
 | none=>exact (show False from r).elim
 | some u=>exact ⟨u,rfl,r⟩
theorem RelO.none_of {o:Option rJ} (r:RelO none o):o=none:=by
 cases o with
 | none=>rfl
 | some u=>exact (show False from r).elim
theorem bA {v:V} {u:rJ} (r:RelV v u):PySem.W.handedIn u=true:=by
 cases v with
 | non=>cases (show u=wN from r); rfl
 | bl b=>cases (show u=j4 b from r); rfl
 | int i=>obtain ⟨t,e⟩:=(show ∃ t,u=Value.int i t from r); cases e; rfl
 | str x=>obtain ⟨t,e⟩:=(show ∃ t,u=BU x t from r); cases e; rfl
 | byt b=>obtain ⟨t,e⟩:=(show ∃ t,u=Value.bytes b t from r); cases e; rfl
 | flt b=>obtain ⟨t,e⟩:=(show ∃ t,u=Value.float b t from r); cases e; rfl
 | ref a=>cases (show u=tW a from r); rfl
 | ty n=>cases (show u=BC n from r); rfl
section
variable {P:sE} {w:sT} {H:Hp} {h:tL} {a C dx:rN} {fs:List (Str×V)}
theorem ins_get (hok:HOk P w H h) (e:H a=some (.ins C dx fs)):∃ mA,ObjM h a dx C mA/\(∀ f,RelO (fs.lookup f) (mA f))/\CC mA (fs.map (·.1))/\fs.length<=1000/\H dx=some (.own a):=by
 obtain ⟨d,z,ne,ob,mA,n,r,q⟩:=(show ObjOk P w H h a (.ins C dx fs) from hok a _ e);exact ⟨mA,⟨ob,n,ne⟩,r,q,z,d⟩
end
structure Cls (K:rK) (C:rN):Prop where
 pg:i0 K C Str.empty=true
 hd:x5 K C=true
 po:CZ K C=true
 sa:uZ K (.ref C) "__setattr__" = some (some (.builtin "object.__setattr__"))
theorem Cls.get {K:rK} {C:rN} (c:Cls K C) (f:Str):i0 K C f=true:=c.pg
def NoAttr (K:rK) (C:rN) (f:Str):Prop:=uZ K (.ref C) f=some none
theorem NoAttr.taker {K:rK} {C:rN} {f:Str} (n:NoAttr K C f):AF K C f=some none:=by
 unfold AF;rw [show uZ K (.ref C) f=some none from n];rfl
structure Meth (K:rK) (C:rN) (m:Str) (f:rN):Prop where
 at_:uZ K (.ref C) m=some (some (.ref f))
 fn:yX K (.ref f)=true
 kp:tJ K (.ref f)=true
section
variable {X:Cx} {pins:List (rN×Obj)} {σ:St} {H:Hp} {s:rM} {a C dx:rN} {fs:List (Str×V)} {f:Str} {v:V} {A:tY} {E:rJ->rM->Prop}
theorem Wr {b:Bool} {Q:rJ->rM->Prop} (I:Inv X pins σ H s) (e:H a=some (.ins C dx fs)) (c:Cls X.K C) (n:NoAttr X.K C f) (l:fs.lookup f=some v)
   (h:∀ u s',Inv X pins σ H s'->RelV v u->Q u s'):wpAny (sM X.prog X.w) A (getAttr (.ref a) f b) Q E s:=by
 obtain ⟨mA,O,r,_,_,_⟩:=ins_get I.hok e;obtain ⟨u,hu,ru⟩:=RelO.some_of (v:=v) (o:=mA f) (by rw [<- l]; exact r f);exact lD I.kIn O (c.get f) c.hd n hu (bA ru) (h u _ (I.tok _) ru)
theorem Ff {m:Str} {g:rN} {pl:Sem Bool} {Q:rJ×List rJ->rM->Prop} (I:Inv X pins σ H s) (e:H a=some (.ins C dx fs)) (c:Cls X.K C) (k:Meth X.K C m g) (l:fs.lookup m=none)
   (h:Q (.ref g,[.ref a]) s):wpAny (sM X.prog X.w) A (zF (.ref a) m pl) Q E s:=by
 obtain ⟨mA,O,r,_,_,_⟩:=ins_get I.hok e;have hn:mA m=none:=RelO.none_of (by rw [<- l]; exact r m);exact gH I.kIn O (c.get m) k.at_ k.fn hn h
theorem Vl {y:V} {u:rJ} {Q:Unit->rM->Prop} (I:Inv X pins σ H s) (e:H a=some (.ins C dx fs)) (c:Cls X.K C) (n:NoAttr X.K C f) (hl:fs.length < 1000) (ry:RelV y u)
   (h:∀ s',Inv X pins σ (upd H a (.ins C dx (Cf f y fs))) s'->Q () s'):wpAny (sM X.prog X.w) A (setAttr (.ref a) f u) Q E s:=by
 obtain ⟨mA,O,r,wi,_,ho⟩:=ins_get I.hok e;have hz:(fs.map (·.1)).length<=sizeLine:=by rw [rY,b9]; lia
 refine iV I.kIn O c.sa c.po n.taker c.hd wi hz fun h' O' sb=>h _ ?_;have hd:∃ o,h'.get? dx=some o:=let ⟨o,_,_,e',_⟩:=O'.ns; ⟨o,e'⟩;refine I.write (x:=a) (e:=dx) (by rw [e]; exact True.intro) (.inr ho) (fun b q hb z=>(sb.2 b hb).trans z) hd ?_;refine ⟨by rw [B4 O.ne]; exact ho,?_,O.ne,O'.obj,_,O'.ns,fun g=>?_,fun g hg=>?_⟩
 . have:=Ih f y fs; lia
 . show RelO ((Cf f y fs).lookup g) (if g=f then some u else mA g)
   rw [Ig];by_cases q:g=f
   . rw [if_pos q,if_pos q]; exact ry
   . rw [if_neg q,if_neg q]; exact r g
 . by_cases q:g=f
   . rw [q]; exact (Hn f y fs).1
   . refine (Hn f y fs).2 g (wi g fun z=>hg ?_)
     show (if g=f then some u else mA g)=none;rw [if_neg q]; exact z
theorem Inv.made (I:Inv X pins σ H s):Inv X pins σ (upd (upd H s.heap.objs.size (.own (s.heap.objs.size+1))) (s.heap.objs.size+1) (.ins C s.heap.objs.size []))
   { s with heap:=(s.heap.push vU).push (xA C s.heap.objs.size) }:=by
 have e1:(s.heap.push vU).get? s.heap.objs.size=some vU:=sL s.heap rfl;have e2:((s.heap.push vU).push (xA C s.heap.objs.size)).get? (s.heap.objs.size+1)=some (xA C s.heap.objs.size):=by
   have:=sL (s.heap.push vU) (o:=xA C s.heap.objs.size) rfl
   rwa [BK] at this
 have e3:(s.heap.push vU).Ns s.heap.objs.size (fun _=>none):=⟨vU,#[],_,e1,rfl,(fun e he=>absurd he (by simp)),fun _=>rfl⟩;have I1:=I.laid (a:=s.heap.objs.size) (o:=.own (s.heap.objs.size+1)) (h':=s.heap.push vU) (t':=s.toks) (fun b u q=>rW _ q) (sC _) ⟨_,e1⟩;refine I1.laid (a:=s.heap.objs.size+1) (o:=.ins C s.heap.objs.size []) (t':=s.toks) (fun b u q=>rW _ q) (CV (BK _ _)) ?_;have ne:s.heap.objs.size≠s.heap.objs.size+1:=tG (zI _);refine ⟨by rw [B4 ne,B7],uA _,ne,e2,fun _=>none,(Heap.Ns1.of_empty e3).at fun o q=>rW _ q,fun _=>True.intro,fun y hy=>absurd rfl hy⟩
theorem mI {prog:sE} {w:sT} {env:Env} {e:Expr} {f:Str} {pos:Pos} {s:rM} {Q:rJ->rM->Prop} (hb:sQ e f env (eval e env)=eval e env)
   (h:wpAny (sM prog w) A (eval e env) (fun o s₁=>wpAny (sM prog w) A (getAttr o f true) Q E s₁) E s):wpAny (sM prog w) A (eval (.Attribute e f pos) env) Q E s :=
 Attribute_any_ h (by rw [arm_eval_Attribute,hb])
end
def tFld (K:rK) (ta:TE) (f:Str):TE:=fun σ H Q=>ta σ H fun x H1=>∃ a C dx fs v,x=.ref a/\H1 a=some (.ins C dx fs)/\Cls K C/\NoAttr K C f/\fs.lookup f=some v/\Q v H1
def sFld (K:rK) (ta tv:TE) (f:Str):TS:=fun D σ H=>tv σ H fun y H1=>ta σ H1 fun x H2=>∃ a C dx fs,x=.ref a/\H2 a=some (.ins C dx fs)/\Cls K C/\NoAttr K C f/\fs.length < 1000 /\
 D.nx σ (upd H2 a (.ins C dx (Cf f y fs)))
section
variable {X:Cx} {o e value:Expr} {f:Str} {pos pos':Pos} {ta tv:TE}
theorem O0 (he:PE X e ta) (hb:sQ e f X.env (eval e X.env)=eval e X.env):PE X (.Attribute e f pos) (tFld X.K ta f):=by
 intro pins s σ H Q I h;refine mI hb (thn (he pins s σ H _ I h) fun u s1 hZ2=>?_);obtain ⟨x,H1,I1,rx,a,C,dx,fs,v,ex,ea,c,n,l,q⟩:=hZ2;subst ex;obtain rfl:u=tW a:=rx;exact Wr I1 ea c n l fun u' s2 I2 ru=>⟨v,H1,I2,ru,q⟩
theorem Ez (ha:PE X o ta) (hv:PE X value tv) (hs:tH value (some (.Attribute o f pos')) pos.line X.env=pure false):PS X (.Assign [.Attribute o f pos'] value pos) (sFld X.K ta tv f):=by
 intro pins s σ H D I h;refine plainObj_wpAny_Assign_Attribute (thn (hv pins s σ H _ I h) fun u s1 hY18=>?_) hs;obtain ⟨y,H1,I1,ry,q⟩:=hY18;refine thn (ha pins s1 σ H1 _ I1 q) fun ov s2 hY19=>?_;obtain ⟨x,H2,I2,rx,a,C,dx,fs,ex,ea,c,n,l,q2⟩:=hY19;subst ex;obtain rfl:ov=tW a:=rx;exact Vl I2 ea c n l ry fun s3 I3=>⟨σ,_,I3,q2⟩
theorem mU {pl:Sem Bool} {m:Str} {apos:Pos} {args:List Expr} {pins:List (rN×Obj)} {s:rM} {σ:St} {H:Hp} {Q:rJ->rM->Prop} {te:TE} (he:PE X e te) (I:Inv X pins σ H s)
   (h:te σ H fun x H1=>∃ a C dx fs g,x=.ref a/\H1 a=some (.ins C dx fs)/\Cls X.K C/\Meth X.K C m g/\fs.lookup m=none /\
     ∀ s1,Inv X pins σ H1 s1->wpAny (sM X.prog X.w) X.A (i6 pos (.ref g) [.ref a] (tR pos (rP args X.env)) (wI pos (uJ [] X.env))) Q X.xe s1)
   (ht:eval (.Call (.Attribute e m apos) args [] pos) X.env=(do
     let ov <- eval e X.env
     standAt apos.atName
     let (f,first) <- holding [ov] (zF ov m pl)
     i6 pos f first (tR pos (rP args X.env)) (wI pos (uJ [] X.env)))) :
   wpAny (sM X.prog X.w) X.A (eval (.Call (.Attribute e m apos) args [] pos) X.env) Q X.xe s:=by
 refine j5 (pl:=pl) (thn (he pins s σ H _ I h) fun u s1 hY21=>?_) ht;obtain ⟨x,H1,I1,rx,a,C,dx,fs,g,ex,ea,c,k,l,q⟩:=hY21;subst ex;obtain rfl:u=tW a:=rx;exact Ff I1 ea c k l (q s1 I1)
end
end L2
namespace L2
open PySem PySem.Spec PyProof.Rows
structure Room (k:Nat) (A:tY):Prop where
 hd:A.handled=none
 dp:A.depth+3*k+5 < recursionLimit
 un:A.units+16*k+200 < uY
 gd:A.guards=some []
theorem Room.mono {j k:Nat} {A:tY} (r:Room k A) (h:j<=k):Room j A:=⟨r.hd,by have:=r.dp; lia,by have:=r.un; lia,r.gd⟩
theorem Room.deeper {k:Nat} {A:tY} (r:Room (k+1) A) (env:Env):Room k (A.deeper env) :=
 ⟨r.hd,by have:=r.dp; show A.depth+1+3*k+5 < _; lia,by have:=r.un; show A.units+3+16*k+200 < _; lia,r.gd⟩
theorem Wp {A:tY} {C:rN} {us:List rJ} {kw:List (Str×rJ)}:(A.under (.builtin "type.__call__" ⟨.ref C::us,kw⟩)).depth=A.depth+1:=by
 first | rfl | simp [z4,Code.weight,Code.isCreation,Code.isGuard,Code.isCaller,Code.frames,CM,guardIds]
theorem Wo {A:tY} {C:rN} {us:List rJ} {kw:List (Str×rJ)}:(A.under (.builtin "type.__call__" ⟨.ref C::us,kw⟩)).units=A.units+1:=by
 first | rfl | simp [z4,Code.cUnits,Code.frames,CM]
theorem Room.make {k:Nat} {A:tY} (r:Room (k+1) A) (C:rN) (us:List rJ) (kw:List (Str×rJ)):Room k (A.under (.builtin "type.__call__" ⟨.ref C::us,kw⟩)) :=
 ⟨r.hd,by have:=r.dp; rw [Wp]; lia,by have:=r.un; rw [Wo]; lia,by simp [z4,Code.guards,Code.isGuard,guardIds,pushGuards,r.gd]⟩
theorem Room.depth {k:Nat} {A:tY} (r:Room k A):A.depth < recursionLimit:=by have:=r.dp; lia
theorem Room.units {k:Nat} {A:tY} (r:Room k A):A.units+64 < uY:=by have:=r.un; lia
def cL:TA:=fun _ H Q=>Q [] H
def Xn (ta:TE) (tr:TA):TA:=fun σ H Q=>ta σ H fun x H1=>tr σ H1 fun xs H2=>Q (x::xs) H2
section
variable {X:Cx} {e:Expr} {es:List Expr} {te:TE} {t:TA} {pos:Pos}
theorem F7:PA X [] cL:=fun _ _ _ _ H Q I h=>zB ⟨[],H,I,.nil,h⟩
theorem C8 (ha:PE X e te) (hr:PA X es t) (hs:rP (e::es) X.env=(false,eval e X.env)::rP es X.env:=by rfl):PA X (e::es) (Xn te t):=by
 intro pos pins s σ H Q I h;rw [hs];show wpAny _ _ (spliced ((false,eval e X.env)::tR pos (rP es X.env))) _ _ s;refine wY (thn (ha pins s σ H _ I h) fun u s1 hZ2=>?_);obtain ⟨x,H1,I1,r1,q1⟩:=hZ2;exact thn (hr pos pins s1 σ H1 _ I1 q1) fun us s2 hZ2=>by obtain ⟨xs,H2,I2,r2,q2⟩:=hZ2; exact ⟨x::xs,H2,I2,.cons r1 r2,q2⟩
def tTup (t:TA):TE:=fun σ H Q=>t σ H fun xs H1=>xs.length<=sizeLine/\∀ p,H1 p=none->Q (.ref p) (upd H1 p (.tup xs))
def tLst (t:TA):TE:=fun σ H Q=>t σ H fun xs H1=>xs.length<=sizeLine/\∀ p,H1 p=none->Q (.ref p) (upd H1 p (.lst xs))
theorem Ls {x1} (h:PA X es t):PE X (.Tuple es x1 pos) (tTup t):=by
 intro pins s σ H Q I hq;refine wpAny_Tuple_spliced (thn (h pos pins s σ H _ I hq) fun us s1 hY22=>?_);obtain ⟨xs,H1,I1,r,z,q⟩:=hY22;refine ⟨by rw [<- r.length]; exact z,?_⟩;have hf:H1 s1.heap.objs.size=none:=I1.hok.fresh (sC _);refine ⟨.ref s1.heap.objs.size,upd H1 s1.heap.objs.size (.tup xs),I1.laid (t':=s1.toks) (fun b u e=>rW _ e) (sC _) ?_,rfl,q _ hf⟩;exact ⟨z,us,r,⟨_,sL _ rfl,rfl,_,rfl⟩⟩
theorem Fa (h:PA X es t):PE X (.List es pos) (tLst t):=by
 intro pins s σ H Q I hq;refine wpAny_List_spliced (thn (h pos pins s σ H _ I hq) fun us s1 hY23=>?_);obtain ⟨xs,H1,I1,r,z,q⟩:=hY23;refine ⟨by rw [<- r.length]; exact z,?_⟩;have hf:H1 s1.heap.objs.size=none:=I1.hok.fresh (sC _);refine ⟨.ref s1.heap.objs.size,upd H1 s1.heap.objs.size (.lst xs),I1.laid (t':=s1.toks) (fun b u e=>rW _ e) (sC _) ?_,rfl,q _ hf⟩;exact ⟨z,us,0,r,sL _ rfl⟩
end
abbrev Sp:=List V->Hp->VK->XK->Prop
abbrev CXT:=List Env->Hp->rM->XK->rJ->rM->Prop
structure Env0 (P:sE) (w:sT) (K:rK) (mg:Str->Option rJ) (base:tL) (A:tY) (outer:List Env) (s:rM) (H:Hp):Prop where
 frames:A.frames=some outer
 mod:Mod K mg base
 bs:∀ b o,base.get? b=some o->s.heap.get? b=some o/\H b=none
 bsz:base.objs.size<=s.heap.objs.size
 funs:s.heap.FunFrames base outer
 frf:∀ b∈frs outer,H b=none
 hok:HOk P w H s.heap
 bare:v5 s.gens
def CE (outer:List Env) (P:sE) (w:sT) (H:Hp) (s:rM) (Q:VK) (u:rJ) (s':rM):Prop :=
 ∃ v H',s'.os=s.os/\v5 s'.gens/\Un (frs outer) [] H H' s.heap s'.heap/\HOk P w H' s'.heap/\RelV v u/\Q v H'
def CR (CX:CXT) (outer:List Env) (P:sE) (w:sT) (H:Hp) (s:rM) (Q:VK) (E:XK) (r:Result) (s':rM):Prop :=
 match r with
 | .ok (.ret u)=>CE outer P w H s Q u s'
 | .ok _=>False
 | .error e=>CX outer H s E e s'
structure FnOk (P:sE) (w:sT) (K:rK) (mg:Str->Option rJ) (base:tL) (CX:CXT) (k:Nat) (f:rN) (fd:vZ) (ps:List Str) (sp:Sp):Prop where
 len:∀ vs H Q E,sp vs H Q E->vs.length=ps.length
 run:∀ (A:tY) (outer:List Env) (s:rM) (H:Hp) (args:Args) (us:List rJ) (vs:List V) (Q:VK) (E:XK),Room k A->Env0 P w K mg base A outer s H->BindsTo s fd args (ps.zip us)->Vals vs us->sp vs H Q E ->
   k9 (sM P w) A (.call (.ref f) args) (CR CX outer P w H s Q E) s
theorem FnOk.imp {P:sE} {w:sT} {K:rK} {mg:Str->Option rJ} {base:tL} {CX:CXT} {k:Nat} {f:rN} {fd:vZ} {ps:List Str} {sp sp':Sp} (F:FnOk P w K mg base CX k f fd ps sp)
   (h:∀ vs H Q E,sp' vs H Q E->sp vs H Q E):FnOk P w K mg base CX k f fd ps sp' :=
 ⟨fun vs H Q E q=>F.len vs H Q E (h _ _ _ _ q),fun A outer s H args us vs Q E hr he hb hv hs=>F.run A outer s H args us vs Q E hr he hb hv (h _ _ _ _ hs)⟩
theorem Env0.make {P:sE} {w:sT} {K:rK} {mg:Str->Option rJ} {base:tL} {A:tY} {outer:List Env} {s:rM} {H:Hp} (e:Env0 P w K mg base A outer s H) (C:rN) (us:List rJ) (kw:List (Str×rJ)) :
   Env0 P w K mg base (A.under (.builtin "type.__call__" ⟨.ref C::us,kw⟩)) outer s H:=⟨by first | exact e.frames | (simpa [z4,Code.envs,CM,pushEnvs] using e.frames),e.mod,e.bs,e.bsz,e.funs,e.frf,e.hok,e.bare⟩
section
variable {X:Cx} {pins:List (rN×Obj)} {σ:St} {H:Hp} {s s':rM}
theorem Inv.env0 (I:Inv X pins σ H s):Env0 X.prog X.w X.K X.mg X.base X.A X.stack s H :=
 ⟨I.ok.frames,I.ok.mod,I.bs,sJ I.ok.bsz I.sz,I.stack,I.stkFree,I.hok,I.bare⟩
theorem Inv.after {Q:VK} {u:rJ} (I:Inv X pins σ H s) (h:CE X.stack X.prog X.w H s Q u s'):EP X pins σ Q u s':=by
 obtain ⟨v,H',os,bare,un,hok,r,q⟩:=h;obtain ⟨hh,g,d,t,os'⟩:=s';obtain rfl:os'=s.os:=os;exact ⟨v,H',I.call (h':=hh) (g':=g) (d':=d) (t':=t) (ch:=[]) un hok bare (fun b z=>absurd z (by simp)),r,q⟩
end
def tCall (sp:Sp) (dvs:List V) (E:XK) (t:TA):TE:=fun σ H Q=>t σ H fun vs H1=>sp (vs++dvs) H1 Q E
def cM (C:rN) (m:Str) (sp:Sp) (dvs:List V) (E:XK) (ta:TE) (t:TA):TE:=fun σ H Q=>ta σ H fun x H1=>∃ a dx fs,x=.ref a/\H1 a=some (.ins C dx fs)/\fs.lookup m=none /\
 t σ H1 fun vs H2=>sp (x::(vs++dvs)) H2 Q E
def tMake (C:rN) (sp:Sp) (dvs:List V) (E:XK) (t:TA):TE:=fun σ H Q=>t σ H fun vs H1=>∀ x dx,H1 x=none->H1 dx=none->dx≠x ->
 sp (.ref x::(vs++dvs)) (upd (upd H1 dx (.own x)) x (.ins C dx [])) (fun v H2=>v=.non/\Q (.ref x) H2) E
def Binds (K:rK) (fd:vZ) (ps:List Str) (ds:List rJ):Prop :=
 ∀ (s:rM) (us:List rJ),K.In s.heap->(us++ds).length=ps.length->BindsTo s fd ⟨us,[]⟩ (ps.zip (us++ds))
theorem Binds.all {K:rK} {fd:vZ} {ps:List Str} (h:∀ us:List rJ,us.length=ps.length->zA fd ⟨us,[]⟩=pure (ps.zip us)):Binds K fd ps []:=fun s us _ hl=>by
 rw [uG] at hl ⊢;exact .of_eq (h us hl)
def Fo (CX:CXT) (X:Cx) (E:XK):Prop:=∀ (pins:List (rN×Obj)) (σ:St) (H:Hp) (s:rM) (e:rJ) (s':rM),Inv X pins σ H s->CX X.stack H s E e s'->X.xe e s'
section
variable {X:Cx} {CX:CXT} {k:Nat} {f C:rN} {fd:vZ} {ps:List Str} {sp:Sp} {dvs:List V} {ds:List rJ} {E:XK} {x m:Str} {p pos apos:Pos} {e o:Expr} {es:List Expr} {ta:TE} {t:TA}
theorem Vu {pins:List (rN×Obj)} {σ:St} {H:Hp} {s:rM} {Q:VK} {us:List rJ} {vs:List V} (F:FnOk X.prog X.w X.K X.mg X.base CX k f fd ps sp) (hr:Room k X.A) (hb:Binds X.K fd ps ds) (hd:Vals dvs ds) (hx:Fo CX X E)
   (I:Inv X pins σ H s) (r:Vals vs us) (h:sp (vs++dvs) H Q E):wpAny (sM X.prog X.w) X.A (call (.ref f) us) (EP X pins σ Q) X.xe s:=by
 have r2:Vals (vs++dvs) (us++ds):=r.append hd;have hl:(us++ds).length=ps.length:=by rw [<- r2.length]; exact F.len _ _ _ _ h
 refine wpAny_call (u8 (F.run X.A X.stack s H ⟨us,[]⟩ (us++ds) (vs++dvs) Q E hr I.env0 (hb s us I.kIn hl) r2 h) fun r s' hq=>?_);cases r with
 | error e=>exact hx pins σ H s e s' I hq
 | ok fl =>
   cases fl with
   | ret u=>exact I.after hq
   | next=>exact wX hq
   | brk=>exact wX hq
   | cont=>exact wX hq
theorem Jf (F:FnOk X.prog X.w X.K X.mg X.base CX k f fd ps sp) (hr:Room k X.A) (hg:Gl X x) (hm:X.mg x=some (.ref f)) (hk:tJ X.K (.ref f)=true) (hb:Binds X.K fd ps ds) (hd:Vals dvs ds) (hx:Fo CX X E)
   (ha:PA X (e::es) t) (hdb:(x==("__debug__" : Str))=false:=by decide) (he:rP (e::es) X.env=(false,eval e X.env)::rP es X.env:=by rfl) (hpl:(tR pos (rP es X.env)).any (·.1)=false:=by rfl) :
   PE X (.Call (.Name x p) (e::es) [] pos) (tCall sp dvs E t):=by
 intro pins s σ H Q I h;refine xX (Yn I hg hm ?_ hdb);refine CQ (h₀:=X.base) I.ok.mod.kin hk (thn (ha pos pins s σ H _ I h) fun us s1 hY24=>?_) he hpl;obtain ⟨vs,H1,I1,r,q⟩:=hY24;refine ⟨I1.kIn,?_⟩;exact Vu F hr hb hd hx I1 r q
theorem Yd {pl:Sem Bool} (he:PE X o ta) (c:Cls X.K C) (hm:Meth X.K C m f) (F:FnOk X.prog X.w X.K X.mg X.base CX k f fd ps sp) (hr:Room k X.A) (hb:Binds X.K fd ps ds) (hd:Vals dvs ds) (hx:Fo CX X E) (ha:PA X (e::es) t)
   (hst:rP (e::es) X.env=(false,eval e X.env)::rP es X.env:=by rfl) (hpl:(tR pos (rP es X.env)).any (·.1)=false:=by rfl)
   (ht:eval (.Call (.Attribute o m apos) (e::es) [] pos) X.env=(do
     let ov <- eval o X.env
     standAt apos.atName
     let (f,first) <- holding [ov] (zF ov m pl)
     i6 pos f first (tR pos (rP (e::es) X.env)) (wI pos (uJ [] X.env))):=by rfl) :
   PE X (.Call (.Attribute o m apos) (e::es) [] pos) (cM C m sp dvs E ta t):=by
 intro pins s σ H Q I h;refine j5 (pl:=pl) (thn (he pins s σ H _ I h) fun u s1 hY25=>?_) ht;obtain ⟨x,H1,I1,rx,a,dx,fs,ex,ea,l,q⟩:=hY25;subst ex;obtain rfl:u=tW a:=rx;refine Ff I1 ea c hm l ?_;refine CQ (first:=[.ref a]) (h₀:=X.base) I.ok.mod.kin hm.kp (thn (ha pos pins s1 σ H1 _ I1 q) fun us s2 hY26=>?_) hst hpl;obtain ⟨vs,H2,I2,r,q2⟩:=hY26;refine ⟨I2.kIn,?_⟩;exact Vu (us:=.ref a::us) (vs:=.ref a::vs) F hr hb hd hx I2 (.cons rfl r) q2
theorem Lu {pl:Sem Bool} (he:PE X o ta) (c:Cls X.K C) (hm:Meth X.K C m f) (F:FnOk X.prog X.w X.K X.mg X.base CX k f fd ps sp) (hr:Room k X.A) (hb:Binds X.K fd ps ds) (hd:Vals dvs ds) (hx:Fo CX X E)
   (ht:eval (.Call (.Attribute o m apos) [] [] pos) X.env=(do
     let ov <- eval o X.env
     standAt apos.atName
     let (f,first) <- holding [ov] (zF ov m pl)
     i6 pos f first (tR pos (rP [] X.env)) (wI pos (uJ [] X.env))):=by rfl) :
   PE X (.Call (.Attribute o m apos) [] [] pos) (cM C m sp dvs E ta cL):=by
 intro pins s σ H Q I h;refine j5 (pl:=pl) (thn (he pins s σ H _ I h) fun u s1 hY27=>?_) ht;obtain ⟨x,H1,I1,rx,a,dx,fs,ex,ea,l,q⟩:=hY27;subst ex;obtain rfl:u=tW a:=rx;refine Ff I1 ea c hm l ?_;exact CI (first:=[.ref a]) I1.kIn hm.kp (Vu (us:=[.ref a]) (vs:=[.ref a]) F hr hb hd hx I1 (.cons rfl .nil) q)
structure Mk (K:rK) (C f:rN):Prop where
 makes:AG K C=true
 init:uZ K (.ref C) "__init__" = some (some (.ref f))
 fn:yX K (.ref f)=true
 kp:tJ K (.ref C)=true
theorem eA {pins:List (rN×Obj)} {σ:St} {H:Hp} {s:rM} {Q:VK} {us:List rJ} {vs:List V} (M:Mk X.K C f) (F:FnOk X.prog X.w X.K X.mg X.base CX k f fd ps sp) (hr:Room (k+1) X.A) (hb:Binds X.K fd ps ds) (hd:Vals dvs ds)
   (hx:Fo CX X E) (I:Inv X pins σ H s) (r:Vals vs us)
   (h:∀ x dx,H x=none->H dx=none->dx≠x->sp (.ref x::(vs++dvs)) (upd (upd H dx (.own x)) x (.ins C dx [])) (fun v H2=>v=.non/\Q (.ref x) H2) E) :
   wpAny (sM X.prog X.w) X.A (call (.ref C) us) (EP X pins σ Q) X.xe s:=by
 have hq:=h (s.heap.objs.size+1) s.heap.objs.size (I.hok.fresh (zR _)) (I.hok.fresh (sC _)) (tG (zI _));have I2:=Inv.made (C:=C) I;have r2:Vals (V.ref (s.heap.objs.size+1)::(vs++dvs)) (tW (s.heap.objs.size+1)::(us++ds)):=.cons rfl (r.append hd);have hl:(tW (s.heap.objs.size+1)::us++ds).length=ps.length:=by
   have e:=r2.length; rw [F.len _ _ _ _ hq] at e; exact e.symm
 refine wpAny_call (fR (f:=f) I.kIn M.makes M.init (beq_iff_eq.mp M.fn) (u8 (F.run _ X.stack _ _ ⟨tW (s.heap.objs.size+1)::us,[]⟩ (tW (s.heap.objs.size+1)::(us++ds)) _ _ E (hr.make C us [])
   (I2.env0.make C us []) (hb _ (tW (s.heap.objs.size+1)::us) I2.kIn hl) r2 hq) fun r s' hq'=>?_))
 cases r with
 | error e=>exact hx pins σ _ _ e s' I2 hq'
 | ok fl =>
   cases fl with
   | ret u =>
     obtain ⟨v,H',I3,rv,ev,q3⟩:=I2.after hq'; subst ev; exact ⟨rv,⟨V.ref (s.heap.objs.size+1),H',I3,rfl,q3⟩⟩
   | next=>exact wX hq'
   | brk=>exact wX hq'
   | cont=>exact wX hq'
theorem eW (M:Mk X.K C f) (F:FnOk X.prog X.w X.K X.mg X.base CX k f fd ps sp) (hr:Room (k+1) X.A) (hg:Gl X x) (hm:X.mg x=some (.ref C)) (hb:Binds X.K fd ps ds) (hd:Vals dvs ds) (hx:Fo CX X E)
   (hdb:(x==("__debug__" : Str))=false:=by decide):PE X (.Call (.Name x p) [] [] pos) (tMake C sp dvs E cL):=by
 intro pins s σ H Q I h;refine xX (Yn I hg hm ?_ hdb);exact CI I.kIn M.kp (eA (us:=[]) M F hr hb hd hx I .nil h)
end
structure FnScope (N P:List Str) (sc:Scope):Prop where
 kind:sc.kind=.function
 co:sc.isCoroutine=false
 gen:sc.isGenerator=false
 nd:N.Nodup
 pre:N.take P.length=P
 par:∀ x∈P,sc.names.lookup x=some .local\/sc.names.lookup x=some .cell
 nofree:∀ y∈sc.names,y.2≠.free
theorem Pj {kindOf:Str->Option i9} {x:Str}:∀ {binds:List (Str×rJ)} {m:Str->Option rJ},(∀ v,(x,v)∉binds)->bindL kindOf binds m x=m x
 | [],_,_=>rfl
 | (n,v)::r,m,h=>by
   unfold bindL; rw [Pj fun w hw=>h w (uM _ hw)];split
   . have:x≠n:=by rintro rfl; exact h v vO
     simp [this]
   . rfl
theorem Pl {kindOf:Str->Option i9} {x:Str}:∀ {binds:List (Str×rJ)} {m:Str->Option rJ},(∀ v,(x,v)∉binds)->bindC kindOf binds m x=m x
 | [],_,_=>rfl
 | (n,v)::r,m,h=>by
   unfold bindC; rw [Pl fun w hw=>h w (uM _ hw)];split
   . rfl
   . have:x≠n:=by rintro rfl; exact h v vO
     simp [this]
theorem Pk {kindOf:Str->Option i9} {x:Str} {v:rJ}:∀ {P:List Str} {vs:List rJ} {i:Nat} {m:Str->Option rJ},P.Nodup->P[i]? = some x->vs[i]? = some v->kindOf x=some .local ->
   bindL kindOf (P.zip vs) m x=some v
 | [],_,_,_,_,h,_,_=>by simp at h
 | _::_,[],_,_,_,_,h,_=>by simp at h
 | p::P,w::vs,0,m,nd,h1,h2,hk=>by
   simp at h1 h2; subst h1; subst h2;show bindL kindOf ((p,w)::P.zip vs) m p=_;unfold bindL; rw [Pj fun v hv=>(uR.mp nd).1 (AV hv).1,if_pos hk];simp
 | p::P,w::vs,i+1,m,nd,h1,h2,hk=>by
   show bindL kindOf ((p,w)::P.zip vs) m x=_;unfold bindL; exact Pk (i:=i) (uR.mp nd).2 (by simpa using h1) (by simpa using h2) hk
theorem Pm {kindOf:Str->Option i9} {x:Str} {v:rJ}:∀ {P:List Str} {vs:List rJ} {i:Nat} {m:Str->Option rJ},P.Nodup->P[i]? = some x->vs[i]? = some v->kindOf x≠some .local ->
   bindC kindOf (P.zip vs) m x=some v
 | [],_,_,_,_,h,_,_=>by simp at h
 | _::_,[],_,_,_,_,h,_=>by simp at h
 | p::P,w::vs,0,m,nd,h1,h2,hk=>by
   simp at h1 h2; subst h1; subst h2;show bindC kindOf ((p,w)::P.zip vs) m p=_;unfold bindC; rw [Pl fun v hv=>(uR.mp nd).1 (AV hv).1,if_neg hk];simp
 | p::P,w::vs,i+1,m,nd,h1,h2,hk=>by
   show bindC kindOf ((p,w)::P.zip vs) m x=_;unfold bindC; exact Pm (i:=i) (uR.mp nd).2 (by simpa using h1) (by simpa using h2) hk
def T0 (N:List Str) (vs:List V):St:=vs.map some++sG (N.length - vs.length) none
def bL (CX:CXT) (P:sE) (w:sT) (K:rK) (mg:Str->Option rJ) (base:tL) (N:List Str) (qual:Str) (scope:Scope) (f:rN) (cd:rJ) (A:tY) (outer:List Env) (s:rM) (H:Hp) (E:XK):Cx where
 prog:=P
 w:=w
 K:=K
 mg:=mg
 base:=base
 A:=A.deeper (AQ qual scope s.heap.objs.size f cd)
 N:=N
 s₀:=s
 H₀:=H
 env:=AQ qual scope s.heap.objs.size f cd
 outer:=outer
 stack:=AQ qual scope s.heap.objs.size f cd::outer
 ex:=[]
 calm:=true
 fn:=fun _=>true
 pn:=[]
 xe:=fun e s'=>wpAny (sM P w) (A.deeper (AQ qual scope s.heap.objs.size f cd)) (leaving (AQ qual scope s.heap.objs.size f cd) e) (fun _ s''=>CX outer H s E e s'') (fun e' s''=>CX outer H s E e' s'') s'
theorem Ur {sc:Scope} {n:Nat} {x:Str} (h:sc.names.lookup x=some .cell):∃ c,(cellsFrom n sc.names []).lookup x=some c:=by
 have q:=BO sc.names n [] (.inl h);exact wF.mp q
theorem aW {CX:CXT} {P:sE} {w:sT} {K:rK} {mg:Str->Option rJ} {base:tL} {N ps:List Str} {qual:Str} {scope:Scope} {f:rN} {cd:rJ} {A:tY} {outer:List Env} {s s1:rM} {H:Hp} {E:XK} {us:List rJ} {vs:List V}
   (S:FnScope N ps scope) (hd:A.handled=none) (e0:Env0 P w K mg base A outer s H) (hl:vs.length=ps.length) (r:Vals vs us)
   (x:InCallC s s.heap.objs.size (bindL (AQ qual scope s.heap.objs.size f cd).kindOf (ps.zip us) fun _=>none) (cellsFrom (s.heap.objs.size+1) scope.names []) (bindC (AQ qual scope s.heap.objs.size f cd).kindOf (ps.zip us) fun _=>none) s1) :
   Inv (bL CX P w K mg base N qual scope f cd A outer s H E) [] (T0 N vs) H s1:=by
 have hpl:ps.length<=N.length:=by have:=congrArg yZ S.pre; rw [uD] at this; lia
 obtain ⟨h1,tk,rfl,hk⟩:=x.done;have noA:∀ b:rN,b∉(bL CX P w K mg base N qual scope f cd A outer s H E).ex:=fun b z=>absurd (show b∈([]:List rN) from z) (by simp);refine ⟨⟨e0.mod,S.kind,rfl,rfl,sC _,fun y z c h1 h2=>?_,fun y hy=>?_,fun y c _ h=>?_,fun _=>hd,Around.frames_deeper e0.frames,.inr ⟨rfl,rfl⟩,fun b z=>absurd z (noA b),e0.bs,e0.bsz,fun b _ _=>noA b,fun b z=>absurd z (noA b),e0.funs,e0.frf⟩,
   rfl,e0.bare,Un.kept hk,⟨_,x.toInCall.ns,fun i y v h1 h2 h3=>?_⟩,fun y c h=>⟨_,x.cell y c h⟩,e0.hok.fresh (sC _),fun y c h=>?_,fun p hp=>absurd (show p∈([]:List (rN×Obj)) from hp) (by simp),e0.hok.kept hk,?_⟩
 . exact name_of_addr x.apart (xJ h1) (xJ h2)
 . have hy:scope.names.lookup y=some .cell\/scope.names.lookup y=some .free:=hy
   rcases hy with hy | hy
   . exact Ur hy
   . exact absurd rfl (S.nofree _ (xJ hy))
 . exact CU (x.above y c (xJ h))
 . have hi : i < vs.length := by
     unfold T0 at h2;by_cases hi:i < vs.length
     . exact hi
     . rw [sK (by simpa using hi)] at h2
       rw [vP] at h2;split at h2 <;> cases h2
   have ha:vs[i]? = some v:=by
     unfold T0 at h2; rw [sI (by simpa using hi),sB] at h2;cases e:vs[i]? with
     | none=>rw [e] at h2; cases h2
     | some a=>rw [e] at h2; cases h2; rfl
   obtain ⟨u,hu,rv⟩:=r.get ha; have hp:ps[i]? = some y:=by
     rw [<- S.pre,List.getElem?_take_of_lt (by lia)]; exact h1
   have ndP:ps.Nodup:=by rw [<- S.pre]; exact S.nd.sublist (List.take_sublist _ _)
   refine ⟨u,rv,?_⟩; rcases S.par y (tZ hp) with k | k
   . exact .inl ⟨k,Pk ndP hp hu k⟩
   . obtain ⟨c,e⟩:=Ur (n:=s.heap.objs.size+1) k
     refine .inr ⟨.inl k,c,e,?_⟩; have q:=x.cell y c e; rw [Pm ndP hp hu (by show scope.names.lookup y≠_; rw [k]; decide)] at q;exact q
 . exact e0.hok.fresh (CU (x.above y c (xJ h)))
 . unfold T0
   show _=N.length;rw [sA,rY,wC];lia
theorem fn_of {CX:CXT} {P:sE} {w:sT} {K:rK} {mg:Str->Option rJ} {base:tL} {k:Nat} {f:rN} {name qual:Str} {params:Arguments} {body:List vN} {scope:Scope} {dV kV doc pm cdv ct oc:rJ} {an od:Option rN}
   {osl:Array (Option rJ)} {N ps:List Str} {sp:Sp} (lk:K.lookup f=some ⟨oc,od,.func (sY name qual params body scope dV kV doc pm an cdv ct),osl⟩) (hcd:vA K cdv qual=true) (S:FnScope N ps scope)
   (len:∀ vs H Q E,sp vs H Q E->vs.length=ps.length)
   (hbody:∀ (A:tY) (outer:List Env) (s:rM) (H:Hp) (vs:List V) (Q:VK) (E:XK),Room k (A.deeper (AQ qual scope s.heap.objs.size f cdv))->sp vs H Q E ->
     ∃ t,PSs (bL CX P w K mg base N qual scope f cdv A outer s H E) body t/\t { nx:=fun _ H'=>Q .non H',rt:=Q } (T0 N vs) H) :
   FnOk P w K mg base CX (k+1) f (sY name qual params body scope dV kV doc pm an cdv ct) ps sp:=by
 refine ⟨len,fun A outer s H args us vs Q E hr e0 hb r hsp=>?_⟩;have hl:=len _ _ _ _ hsp;have KX:K.In s.heap:=e0.mod.kin.keeps fun b o e=>(e0.bs b o e).1;have lim:s.heap.NoLimit:=e0.mod.nolimit.keeps fun b o e=>(e0.bs b o e).1;have hkind:∀ y∈ps.zip us,scope.names.lookup y.1=some .local\/(scope.names.lookup y.1=some .cell/\((cellsFrom (s.heap.objs.size+1) scope.names []).lookup y.1).isSome=true):=fun hZ0 hy=>by
   obtain ⟨n,v⟩:=hZ0; rcases S.par n (AV hy).1 with q | q
   . exact .inl q
   . exact .inr ⟨q,BO _ _ _ (.inl q)⟩
 refine codeAny_call_function hr.depth (KX _ _ lk) rfl S.co S.gen rfl (PySem.W.codeRec_of KX hcd) (hb _ _ _ _ ?_);refine wpAny_newFunctionEnv_cells S.kind hkind fun env he s1 x=>?_;subst he;refine ⟨lim.keeps x.toInCall.keep,codeAny_func ?_⟩;obtain ⟨t,ht,hq⟩:=hbody A outer s H vs Q E (hr.deeper _) hsp;have I:Inv (bL CX P w K mg base N qual scope f cdv A outer s H E) [] (T0 N vs) H s1:=aW S hr.hd e0 hl r x;refine vE (ht [] s1 (T0 N vs) H _ I hq) (fun fl s' hs=>?_) fun e s' hs=>hs;have fin:∀ {σ':St} {H':Hp} {v:V} {u:rJ},Inv (bL CX P w K mg base N qual scope f cdv A outer s H E) [] σ' H' s'->RelV v u->Q v H'->CE outer P w H s Q u s' :=
   fun {σ' H' v u} J rv q=>⟨v,H',J.os,J.bare,J.base,J.hok,rv,q⟩
 cases fl with
 | ret u =>
   obtain ⟨v,σ',H',J,rv,q⟩:=hs; exact fin J rv q
 | next =>
   obtain ⟨σ',H',J,q⟩:=hs; exact fin (v:=V.non) (u:=wN) J rfl q
 | brk =>
   obtain ⟨_,_,_,q⟩:=hs; exact wX q
 | cont =>
   obtain ⟨_,_,_,q⟩:=hs; exact wX q
end L2
namespace L2
open PySem PySem.Spec PyProof.Rows
section
variable {X:Cx} {x:Str} {p pos:Pos} {e:Expr} {es:List Expr} {t:TA} {id T:String} {r:List V->Hp->VK->Prop}
def tCB (r:List V->Hp->VK->Prop) (t:TA):TE:=fun σ H Q=>t σ H fun vs H1=>r vs H1 Q
theorem Lv (hc:Au X (.builtin id) r) (hg:Gl X x) (hm:X.mg x=none) (hv:yW x=some (.builtin id)) (ha:PA X (e::es) t) (hn:x ≠ "__name__" := by decide) (hdb:(x==("__debug__" : Str))=false:=by decide)
   (he:rP (e::es) X.env=(false,eval e X.env)::rP es X.env:=by rfl) (hpl:(tR pos (rP es X.env)).any (·.1)=false:=by rfl):PE X (.Call (.Name x p) (e::es) [] pos) (tCB r t):=by
 intro pins s σ H Q I h;refine xX (Fc I hg hm hv ?_ hn hdb);exact PyProof.Rows.callWith_builtin1 (thn (ha pos pins s σ H _ I h) fun us s1 hZ2=>by obtain ⟨vs,H1,I1,r1,q1⟩:=hZ2; exact hc pins s1 σ H1 vs us Q I1 r1 q1) he hpl
theorem Dy (hc:Au X (.type T) r) (hg:Gl X x) (hm:X.mg x=none) (hv:yW x=some (.type T)) (ha:PA X (e::es) t) (hn:x ≠ "__name__" := by decide) (hdb:(x==("__debug__" : Str))=false:=by decide)
   (he:rP (e::es) X.env=(false,eval e X.env)::rP es X.env:=by rfl) (hpl:(tR pos (rP es X.env)).any (·.1)=false:=by rfl):PE X (.Call (.Name x p) (e::es) [] pos) (tCB r t):=by
 intro pins s σ H Q I h;refine xX (Fc I hg hm hv ?_ hn hdb);exact vI (thn (ha pos pins s σ H _ I h) fun us s1 hZ2=>by obtain ⟨vs,H1,I1,r1,q1⟩:=hZ2; exact hc pins s1 σ H1 vs us Q I1 r1 q1) he hpl
end
end L2
namespace HT
open PySem PyProof.Rows
section
variable {prog:sE} {w:sT} {A:tY} {E:rJ->rM->Prop} {s:rM}
theorem cat_tup {t b:rN} {vs ws:List rJ} {Q:rJ->rM->Prop} (ht:w6 s.heap t vs.toArray) (hb:w6 s.heap b ws.toArray) (hv:vs≠[])
   (h1:ws=[]->Q (.ref t) s) (h2:ws≠[]->Q (.ref s.heap.objs.size) { s with heap:=s.heap.push { cls:=.type "tuple",data:=.seq (vs++ws).toArray } })
   (hsz:vs.length+ws.length<=sizeLine):wpAny (sM prog w) A (o7 .Add (.ref t) (.ref b)) Q E s:=by
 obtain ⟨⟨cls,dd,data,sl⟩,ho,hc,n,hd⟩:=id ht;obtain ⟨⟨cls2,dd2,data2,sl2⟩,ho2,hc2,n2,hd2⟩:=id hb;simp only at hc hd hc2 hd2;subst hc hd hc2 hd2;have e:vs.toArray++ws.toArray=(vs++ws).toArray:=by simp
 by_cases hw:ws=[]
 . exact concat_meets ⟨_, ho, rfl⟩ ⟨_, ho2, rfl⟩ BL seq_tuple_add i8 i3 (c8 _ _)
     (tuple_addW1 t b vs.toArray ws.toArray n n2 dd dd2 sl sl2 (by simpa using hv) (by simp [hw])) ⟨ho,ho2,h1 hw⟩
 . refine concat_meets ⟨_, ho, rfl⟩ ⟨_, ho2, rfl⟩ BL seq_tuple_add i8 i3 (c8 _ _)
     (tuple_addW2 t b vs.toArray ws.toArray n n2 dd dd2 sl sl2 (by simpa using hv) (by simpa using hw) (by rw [rX,rX]; exact hsz)) ⟨ho,ho2,?_⟩
   rw [e]; exact h2 hw
def sIx (n d:Nat):Option Int->Nat
 | none=>d
 | some v=>if v < 0 then (v+(n:Int)).toNat else min v.toNat n
theorem nW (n d:Nat) (hd:d<=n) (o:Option Int):sIx n d o<=n:=by
 cases o with
 | none=>exact hd
 | some v =>
   show (if v < 0 then (v+(n:Int)).toNat else min v.toNat n)<=n;by_cases hv:v < 0
   . rw [if_pos hv]; lia
   . rw [if_neg hv]; exact xO _ _
theorem Yz (v:Int) (n d:Nat):(if v < 0 then max (v+(n:Int)) 0 else min v (n:Int))=((sIx n d (some v):Nat):Int):=by
 show (if v < 0 then max (v+(n:Int)) 0 else min v (n:Int))=(((if v < 0 then (v+(n:Int)).toNat else min v.toNat n):Nat):Int);by_cases hv:v < 0
 . simp only [if_pos hv]; lia
 . simp only [if_neg hv]; lia
theorem Xi (lo hi:Option Int) (n:Nat):zJ lo hi 1 (n:Int)=(((sIx n 0 lo:Nat):Int),((sIx n n hi:Nat):Int)):=by
 have h1:¬ ((1:Int) < 0):=by lia
 unfold zJ;simp only [h1,if_false];refine Prod.ext ?_ ?_
 . cases lo with
   | none=>rfl
   | some v=>exact Yz v n 0
 . cases hi with
   | none=>rfl
   | some v=>exact Yz v n n
theorem Wc (i j:Nat):xT (i:Int) (j:Int) 1=j - i:=by
 unfold xT;have h1:(1:Int)>0:=by lia
 simp only [h1,if_true,Int.ediv_one];split <;> lia
theorem Le {v:rJ} {o:Option Int} {Q:Option Int->rM->Prop} (p:z9 v o) (h:Q o s):wpAny (sM prog w) A (Builtin.Slice.slicePartIndex v) Q E s:=by
 cases p with
 | none=>exact slicePart_none h
 | int i t=>exact slicePart_int h
theorem sliceApplied_gen {sl:rN} {vl vu:rJ} {lo hi:Option Int} {n:Nat} {Q:Int×Int×Nat->rM->Prop} (hs:s.heap.IsSliceOf sl vl vu .none) (pl:z9 vl lo) (pu:z9 vu hi)
   (h:Q (((sIx n 0 lo:Nat):Int),1,sIx n n hi - sIx n 0 lo) s):wpAny (sM prog w) A (x6 (.ref sl) (pure (n:Int))) Q E s:=by
 obtain ⟨os,hos,hcs,hds⟩:=id hs;unfold x6 Builtin.Slice.sliceFields;refine rH (rH (zE hos hds (x:=vl) rfl (rH (zE hos hds (x:=vu) rfl (rH (zE hos hds (x:=.none) rfl (rL ?_)))))));refine rH (slicePart_none ?_);show wpAny _ _ (if ((1:Int)==0)=true then _ else _) _ _ s;rw [if_neg (by decide)];refine rH (Le pl (rH (Le pu (rH (rL ?_)))));show wpAny _ _ (match zJ lo hi 1 (n:Int) with | (lo,hi)=>pure (lo,(1:Int),xT lo hi 1)) _ _ s
 rw [Xi lo hi n];show wpAny _ _ (pure (((sIx n 0 lo:Nat):Int),(1:Int),xT ((sIx n 0 lo:Nat):Int) ((sIx n n hi:Nat):Int) 1)) _ _ s;rw [Wc];exact rL h
theorem eO (xs:Array rJ) (i k:Nat):((vV k).filterMap fun (m:Nat)=>xs[((i:Int)+(m:Int)*1).toNat]?).toArray=((xs.toList.drop i).take k).toArray:=by
 have e:(fun (m:Nat)=>xs[((i:Int)+(m:Int)*1).toNat]?)=fun m=>xs[i+m]? := by
   funext m
   have:((i:Int)+(m:Int)*1).toNat=i+m:=by lia
   rw [this]
 rw [e];have:=pick_run xs i k;rw [List.filterMap_map] at this;have e2:((fun x=>xs[x]?)∘fun x=>i+x)=fun m=>xs[i+m]? := rfl;rw [e2] at this;rw [this]
theorem getItem_tuple_cut {t sl:rN} {items:Array rJ} {vl vu:rJ} {lo hi:Option Int} {Q:rJ->rM->Prop} (ht:w6 s.heap t items) (hs:s.heap.IsSliceOf sl vl vu .none) (pl:z9 vl lo) (pu:z9 vu hi)
   (hw:¬ (sIx items.size 0 lo=0/\sIx items.size items.size hi=items.size))
   (h:Q (.ref s.heap.objs.size) { s with heap:=s.heap.push { cls:=.type "tuple",data:=.seq ((items.toList.drop (sIx items.size 0 lo)).take (sIx items.size items.size hi - sIx items.size 0 lo)).toArray } })
   (hsz:items.size<=sizeLine):wpAny (sM prog w) A (g9 (.ref t) (.ref sl)) Q E s:=by
 have htake:sizeOk (.seq ((items.toList.drop (sIx items.size 0 lo)).take (sIx items.size items.size hi - sIx items.size 0 lo)).toArray):=by
   show ((items.toList.drop (sIx items.size 0 lo)).take (sIx items.size items.size hi - sIx items.size 0 lo)).toArray.size<=sizeLine;rw [rX,uD,yM,yN]; omega
 have hj:sIx items.size items.size hi<=items.size:=nW _ _ (sC _) hi;obtain ⟨os,hos,hcs,hds⟩:=id hs;have hTs:s.TypeIs (.ref sl) "slice" := ⟨os,hos,hcs⟩;unfold g9;try with_reducible refine uW ?_
 first | refine rH (rL ?_) | skip
 refine rH (j8 ht.typeIs (by decide) ?_);refine rH (vD (name:=xR "__getitem__") ht.typeIs vS
   (uX vS ht.typeIs entry_tuple_getitem ?_ (args_tuple_getitem _ _)))
 show wpAny _ _ (zH (.ref t)>>=_) _ _ s;refine rH (tupleItemsOf_ ht ?_);refine rH (AZ hTs ?_);rw [if_pos (by decide)];refine rH (sliceApplied_gen hs pl pu ?_);have hno:¬ ((((sIx items.size 0 lo:Nat):Int)==0&&(1:Int)==1&&(sIx items.size items.size hi - sIx items.size 0 lo)==items.size)=true):=by
   intro q; rw [sU,sU] at q; have q1:((sIx items.size 0 lo:Nat):Int)=0:=xI q.1.1; have q2:sIx items.size items.size hi - sIx items.size 0 lo=items.size:=xI q.2; exact hw ⟨by omega,by omega⟩
 show wpAny _ _ (if (((sIx items.size 0 lo:Nat):Int)==0&&(1:Int)==1&&(sIx items.size items.size hi - sIx items.size 0 lo)==items.size)=true then _ else _) _ _ s;rw [if_neg hno,eO];first
   | exact rH (m:=yA _) (uP (rL ⟨_,rfl,rL h⟩) htake)
   | exact rH (m:=yA _) (uP (rH (rL (rL ⟨_,rfl,rL h⟩))) htake)
   | exact rH (rH (m:=yA _) (uP (rL (rL ⟨_,rfl,rL h⟩)) htake))
   | exact rH (rH (m:=yA _) (uP (rL ⟨_,rfl,rL h⟩) htake))
end
end HT
namespace L2
open PySem PySem.Spec PyProof.Rows
abbrev TO:=St->Hp->(Option Int->Hp->Prop)->Prop
def PO (X:Cx) (e:Option Expr) (t:TO):Prop :=
 ∀ (pins:List (rN×Obj)) (s:rM) (σ:St) (H:Hp) (Q:Option Int->Hp->Prop),Inv X pins σ H s->t σ H Q ->
   wpAny (sM X.prog X.w) X.A (evalPart e X.env) (fun u s'=>∃ o H',Inv X pins σ H' s'/\z9 u o/\Q o H') X.xe s
def iP:TO:=fun _ H Q=>Q none H
def tPart (t:TE):TO:=fun σ H Q=>t σ H fun x H1=>∃ i,x=.int i/\Q (some i) H1
section
variable {X:Cx} {e:Expr} {te:TE} {lo hi:Option Expr} {tl th:TO} {pos p2:Pos}
theorem kC:PO X none iP:=by
 intro pins s σ H Q I h;rw [evalPart_none];exact rL ⟨none,H,I,.none,h⟩
theorem kB (h:PE X e te):PO X (some e) (tPart te):=by
 intro pins s σ H Q I hw;rw [evalPart_some];refine thn (h pins s σ H _ I hw) fun u s1 hZ2=>?_;obtain ⟨x,H1,I1,r1,q1⟩:=hZ2;obtain ⟨i,rfl,q⟩:=q1;obtain ⟨t,rfl⟩:=r1;exact ⟨some i,H1,I1,.int i t,q⟩
def SlR (X:Cx) (r:V->Option Int->Option Int->Hp->VK->Prop):Prop :=
 ∀ (pins:List (rN×Obj)) (s:rM) (σ:St) (H:Hp) (x:V) (v vl vu:rJ) (lo hi:Option Int) (sl:rN) (Q:VK),Inv X pins σ H s->RelV x v->s.heap.IsSliceOf sl vl vu .none->z9 vl lo->z9 vu hi->r x lo hi H Q ->
   ∃ T id,typeLookup (.type T) "__getitem__" = pure (some (.builtin id))/\s.TypeIs v T/\wpAny (sM X.prog X.w) X.A (g9 v (.ref sl)) (EP X pins σ Q) X.xe s
def tSl (r:V->Option Int->Option Int->Hp->VK->Prop) (te:TE) (tl th:TO):TE:=fun σ H Q=>te σ H fun x H1=>tl σ H1 fun l H2=>th σ H2 fun u H3=>r x l u H3 Q
theorem eQ {r:V->Option Int->Option Int->Hp->VK->Prop} (hr:SlR X r) (he:PE X e te) (hl:PO X lo tl) (hu:PO X hi th):PE X (.Subscript e (.Slice lo hi none p2) pos) (tSl r te tl th):=by
 intro pins s σ H Q I h;refine Subscript_ (thn (he pins s σ H _ I h) fun v s1 hZ2=>?_);obtain ⟨x,H1,I1,r1,q1⟩:=hZ2;refine wpAny_Slice (thn (hl pins s1 σ H1 _ I1 q1) fun vl s2 hY32=>?_);obtain ⟨l,H2,I2,pl,q2⟩:=hY32;refine thn (hu pins s2 σ H2 _ I2 q2) fun vu s3 hZ2=>?_;obtain ⟨u,H3,I3,pu,q3⟩:=hZ2;rw [evalPart_none];refine rL ?_;have I4:Inv X pins σ H3 { s3 with heap:=s3.heap.push { cls:=.type "slice",data:=.fields #[vl,vu,.none] } }:=I3.kept (t':=s3.toks) fun b ob q=>rW _ q;obtain ⟨T,id,hT,ht,hg⟩:=hr pins { s3 with heap:=s3.heap.push { cls:=.type "slice",data:=.fields #[vl,vu,.none] } } σ H3 x v vl vu l u s3.heap.objs.size Q I4 r1 (Heap.IsSliceOf.new ..) pl pu q3
 show wpAny (sM X.prog X.w) X.A (subscriptTail e (.Slice lo hi none p2) v (.ref s3.heap.objs.size)) (EP X pins σ Q) X.xe { s3 with heap:=s3.heap.push { cls:=.type "slice",data:=.fields #[vl,vu,.none] } };exact tail_any (ops:=[.ref s3.heap.objs.size,v]) ht hT hg (by with_unfolding_all rfl)
def bM (xs:List V) (lo hi:Option Int):List V:=(xs.drop (HT.sIx xs.length 0 lo)).take (HT.sIx xs.length xs.length hi - HT.sIx xs.length 0 lo)
theorem Du (xs:List V) (lo hi:Option Int):(bM xs lo hi).length<=xs.length:=by
 unfold bM;rw [uD,yM];lia
end
end L2
namespace L2
open PySem PySem.Spec PyProof.Rows
def ixN (n:Nat) (i:Int):Option Nat:=if 0<=i then (if i < n then some i.toNat else none) else if -(n:Int)<=i then some (i+n).toNat else none
def atI {α:Type} (xs:List α) (i:Int):Option α:=(ixN xs.length i).bind fun j=>xs[j]?
theorem kW {n:Nat} {i:Int} {j:Nat} (h:ixN n i=some j):seqIndex? i n=some j/\j < n /\ -(n:Int)<=i/\i < n:=by
 unfold ixN at h;by_cases h0:0<=i
 . rw [if_pos h0] at h
   by_cases h1:i < n
   . rw [if_pos h1] at h
     have e:i.toNat=j:=sZ h; exact ⟨by rw [seqIndex_of h0 h1,e],by lia,by lia,h1⟩
   . rw [if_neg h1] at h; cases h
 . rw [if_neg h0] at h
   by_cases h1 : -(n:Int)<=i
   . rw [if_pos h1] at h
     have e:(i+n).toNat=j:=sZ h; exact ⟨by rw [seqIndex_neg (by lia) h1,e],by lia,h1,by lia⟩
   . rw [if_neg h1] at h; cases h
theorem Jk {α:Type} {xs:List α} {i:Int} {v:α} (h:atI xs i=some v):∃ j,seqIndex? i xs.length=some j/\xs[j]? = some v/\j < xs.length /\ -(xs.length:Int)<=i/\i < xs.length:=by
 unfold atI at h;cases e:ixN xs.length i with
 | none=>rw [e] at h; cases h
 | some j =>
   rw [e] at h; obtain ⟨h1,h2,h3,h4⟩:=kW e; exact ⟨j,h1,h,h2,h3,h4⟩
theorem atI_nat {α:Type} {xs:List α} {j:Nat} {v:α} (h:xs[j]? = some v):atI xs (j:Int)=some v:=by
 have hj:j < xs.length:=(rQ.mp h).1;have e:ixN xs.length (j:Int)=some j:=by
   unfold ixN; rw [if_pos (by lia),if_pos (by lia)]; simp
 unfold atI; rw [e]; exact h
def Zg (b:Expr):Prop:=∀ o i,BR b false o i=operate [o,i] (g9 o i)
def IxR (X:Cx) (r:R2):Prop :=
 ∀ (value slice:Expr) (pins:List (rN×Obj)) (s:rM) (σ:St) (H:Hp) (x y:V) (v u:rJ) (Q:VK),Inv X pins σ H s->RelV x v->RelV y u->r x y H Q ->
   BR slice false v u=operate [v,u] (g9 v u)->wpAny (sM X.prog X.w) X.A (subscriptTail value slice v u) (EP X pins σ Q) X.xe s
def MtR (X:Cx) (id:String) (r:V->List V->Hp->VK->Prop):Prop :=
 ∀ (pins:List (rN×Obj)) (s:rM) (σ:St) (H:Hp) (x:V) (xs:List V) (v:rJ) (us:List rJ) (Q:VK),Inv X pins σ H s->RelV x v->Vals xs us->r x xs H Q ->
   wpAny (sM X.prog X.w) X.A (call (.builtin id) (v::us)) (EP X pins σ Q) X.xe s
section
variable {X:Cx} {a b:Expr} {ta tb:TE} {pos:Pos}
theorem IxR.or {r r':R2} (h:IxR X r) (h':IxR X r'):IxR X (fun x y H Q=>r x y H Q\/r' x y H Q):=by
 intro value slice pins s σ H x y v u Q I rx ry q hs;rcases q with q | q
 . exact h value slice pins s σ H x y v u Q I rx ry q hs
 . exact h' value slice pins s σ H x y v u Q I rx ry q hs
theorem pe_ix {r:R2} (hr:IxR X r) (ha:PE X a ta) (hb:PE X b tb) (hs:Zg b):PE X (.Subscript a b pos) (tOp r ta tb):=by
 intro pins s σ H Q I h;exact Subscript_ (rB ha hb I h fun v u s2 x y H2 I2 rx ry q=>hr a b pins s2 σ H2 x y v u Q I2 rx ry q (hs _ _))
def rIxL (K:rK):R2:=fun x y H Q=>∃ p xs i v,x=.ref p/\y=.int i/\SqL K H p xs/\atI xs i=some v/\Q v H
def rIxT (K:rK):R2:=fun x y H Q=>∃ p xs i v,x=.ref p/\y=.int i/\SqT K H p xs/\atI xs i=some v/\Q v H
def rIxS:R2:=fun x y H Q=>∃ z i c,x=.str z/\y=.int i/\z.length<=sizeLine/\atI z.cps.toList i=some c/\Q (.str ⟨#[c]⟩) H
theorem kU:IxR X (rIxL X.K):=by
 intro value slice pins s σ H x y v u Q I rx ry h hs;obtain ⟨p,xs,i,z,rfl,rfl,hq,he,q⟩:=h;cases rx;obtain ⟨t,rfl⟩:=ry;obtain ⟨its,r,pl,hz⟩:=I.list hq;obtain ⟨j,h1,h2,h3,h4,h5⟩:=Jk he;obtain ⟨w,ew,rw'⟩:=r.get h2;have hl:=r.length;have hn:=Ch;have fin:EP X pins σ Q w s:=⟨z,H,I,rw',q⟩;by_cases h0:0<=i
 . have hj : i.toNat = j := by
     rw [seqIndex_of h0 h5] at h1; exact sZ h1
   exact item_listR pl.isList h0 (by lia) (by rw [hj]; simpa using ew) fin hs
 . have hj : (i + (its.toArray.size : Int)).toNat = j := by
     rw [seqIndex_neg (by lia) h4] at h1; rw [rX,<- hl]; exact sZ h1
   exact subscriptTail_builtinR (x:=w) pl.isList.typeIs BA.lookup
     (wpAny_getItem_list_neg (Q:=fun r s'=>r=w/\EP X pins σ Q r s') pl.isList (by lia) (by rw [rX] <;> lia) (by lia) (by rw [hj]; simpa using ew) ⟨rfl,fin⟩) hs
theorem qA:IxR X (rIxT X.K):=by
 intro value slice pins s σ H x y v u Q I rx ry h hs;obtain ⟨p,xs,i,z,rfl,rfl,hq,he,q⟩:=h;cases rx;obtain ⟨t,rfl⟩:=ry;obtain ⟨its,r,pl,hz⟩:=I.tuple hq;obtain ⟨j,h1,h2,h3,h4,h5⟩:=Jk he;obtain ⟨w,ew,rw'⟩:=r.get h2;have hl:=r.length;have hn:=Ch;have fin:EP X pins σ Q w s:=⟨z,H,I,rw',q⟩;exact subscriptTail_builtinR (x:=w) pl.typeIs AO.lookup
   (getItem_tuple (j:=j) (Q:=fun r s'=>r=w/\EP X pins σ Q r s') pl (by lia) (by lia) (by rw [rX,<- hl]; exact h1) (by simpa using ew) ⟨rfl,fin⟩) hs
theorem qC:IxR X rIxS:=by
 intro value slice pins s σ H x y v u Q I rx ry h hs;obtain ⟨z,i,c,rfl,rfl,hz,he,q⟩:=h;obtain ⟨t,rfl⟩:=rx;obtain ⟨t',rfl⟩:=ry;obtain ⟨j,h1,h2,h3,h4,h5⟩:=Jk he;have hl:z.cps.toList.length=z.length:=by simp [Str.length]
 rw [hl] at h1 h4 h5;have hn:=Ch;exact tail_any (typeIs_str s z t) slot_str_getitem.lookup (getItem_str (c:=c) (by
   have e1:decide (i < -(2 ^ 63:Int))=false:=decide_eq_false (by lia);have e2:decide (i≥2 ^ 63)=false:=decide_eq_false (by lia);rw [e1,e2,Bool.or_false]) (by rw [h1]; simpa using h2) ⟨.str ⟨#[c]⟩,H,I.tok _,⟨_,rfl⟩,q⟩) hs
def rIx (K:rK):R2:=fun x y H Q=>rIxL K x y H Q\/rIxT K x y H Q\/rIxS x y H Q
theorem qD:IxR X (rIx X.K):=kU.or (qA.or qC)
theorem Pu (lo hi:Option Int) (n:Nat):(a9 lo hi none n).1=((HT.sIx n 0 lo:Nat):Int)/\(a9 lo hi none n).2.1=((HT.sIx n n hi:Nat):Int)/\(a9 lo hi none n).2.2=1:=by
 refine ⟨?_,?_,rfl⟩
 . cases lo with
   | none=>simp [a9,HT.sIx]
   | some i =>
     simp only [a9,HT.sIx,Option.getD_none,show (1:Int)>0 by decide,if_true];by_cases h:i < 0
     . simp only [h,if_true] <;> lia
     . simp only [h,if_false] <;> lia
 . cases hi with
   | none=>simp [a9,HT.sIx]
   | some i =>
     simp only [a9,HT.sIx,Option.getD_none,show (1:Int)>0 by decide,if_true];by_cases h:i < 0
     . simp only [h,if_true] <;> lia
     . simp only [h,if_false] <;> lia
theorem Ek (its:List rJ) (lo hi:Option Int):slicePick its.toArray lo hi none=((its.drop (HT.sIx its.length 0 lo)).take (HT.sIx its.length its.length hi - HT.sIx its.length 0 lo)).toArray:=by
 obtain ⟨h1,h2,h3⟩:=Pu lo hi its.toArray.size;unfold slicePick;rw [h1,h2,h3];simp only [sliceRange_one,pick_run,rX] <;> rfl
def rSlL (K:rK):V->Option Int->Option Int->Hp->VK->Prop:=fun x lo hi H Q=>∃ a xs,x=.ref a/\SqL K H a xs/\∀ p,H p=none->Q (.ref p) (upd H p (.lst (bM xs lo hi)))
theorem sl_list:SlR X (rSlL X.K):=by
 intro pins s σ H x v vl vu lo hi sl Q I rx hs pl pu h;obtain ⟨a,xs,rfl,hx,q⟩:=h;cases rx;obtain ⟨its,r,ht,hz⟩:=I.list hx;have hlen:=r.length;refine ⟨"list",_,BA.lookup,ht.isList.typeIs,?_⟩;refine wpAny_getItem_list_slice ht.isList hs pl pu .none (by simp) ?_ (by rw [rX] <;> lia)
 rw [Ek,<- hlen];refine ⟨.ref s.heap.objs.size,_,I.laid (t':=s.toks) (o:=.lst (bM xs lo hi)) (fun b ob q=>rW _ q) (sC _) ?_,rfl,q _ (I.hok.fresh (sC _))⟩;exact ⟨sJ (Du xs lo hi) hz,_,0,(r.drop (HT.sIx xs.length 0 lo)).take (HT.sIx xs.length xs.length hi - HT.sIx xs.length 0 lo),sL _ rfl⟩
theorem Rg:Au X (.builtin "len") (fun xs H Q=>∃ p ys,xs=[.ref p]/\(SqL X.K H p ys\/SqT X.K H p ys)/\Q (.int ys.length) H):=by
 intro pins s σ H xs us Q I r h;obtain ⟨p,ys,rfl,hq,q⟩:=h;obtain ⟨u,rfl,rx⟩:=Jq r;cases rx;have hn:=Ch;rcases hq with hq | hq
 . obtain ⟨its,r',pl,hz⟩:=I.list hq
   have hlen:=r'.length; exact DH pl.isList (by simp only [rX] <;> lia) ⟨.int ys.length,H,I.tok _,⟨s.toks+1,by rw [rX,hlen]⟩,q⟩
 . obtain ⟨its,r',pl,hz⟩:=I.tuple hq
   have hlen:=r'.length; exact len_tuple pl (by simp only [rX] <;> lia) ⟨.int ys.length,H,I.tok _,⟨s.toks+1,by rw [rX,hlen]⟩,q⟩
theorem Gm:Au X (.type "list") (fun xs H Q=>∃ p ys,xs=[.ref p]/\(SqL X.K H p ys\/SqT X.K H p ys)/\∀ l,H l=none->Q (.ref l) (upd H l (.lst ys))):=by
 intro pins s σ H xs us Q I r h;obtain ⟨p,ys,rfl,hq,q⟩:=h;obtain ⟨u,rfl,rx⟩:=Jq r;cases rx;have fin : ∀ (its : List rJ), Vals ys its -> ys.length <= sizeLine -> ∀ (h' : tL) (c' : Nat), (∀ b o', s.heap.get? b = some o' -> h'.get? b = some o') ->
     h'.get? s.heap.objs.size=some { cls:=.type "list",dict:=none,data:=.seq its.toArray c',slots := #[] }->EP X pins σ Q (.ref s.heap.objs.size) { s with heap:=h' }:=fun its r' hz h' c' kp e =>
   ⟨.ref s.heap.objs.size,_,I.laid (t':=s.toks) kp (sC _) (show ObjOk X.prog X.w _ h' _ (.lst ys) from ⟨hz,its,c',r',e⟩),rfl,q _ (I.hok.fresh (sC _))⟩
 rcases hq with hq | hq
 . obtain ⟨its,r',pl,hz⟩:=I.list hq
   have hlen:=r'.length; obtain ⟨o,ho,hc,n,hd⟩:=pl.isList; exact call_list_seq p (.inl rfl) ho hc hd (fun h' c' kp e=>fin its r' hz h' c' kp e) (by simp only [rX] <;> lia)
 . obtain ⟨its,r',pl,hz⟩:=I.tuple hq
   have hlen:=r'.length; obtain ⟨o,ho,hc,n,hd⟩:=pl; exact call_list_seq p (.inr rfl) ho hc hd (fun h' c' kp e=>fin its r' hz h' c' kp e) (by simp only [rX] <;> lia)
theorem Eu:Au X (.type "tuple") (fun xs H Q=>∃ p ys,xs=[.ref p]/\((SqL X.K H p ys/\∀ l,H l=none->Q (.ref l) (upd H l (.tup ys)))\/(SqT X.K H p ys/\Q (.ref p) H))):=by
 intro pins s σ H xs us Q I r h;obtain ⟨p,ys,rfl,h⟩:=h;obtain ⟨u,rfl,rx⟩:=Jq r;cases rx;rcases h with ⟨hq,q⟩ | ⟨hq,q⟩
 . obtain ⟨its,r',pl,hz⟩:=I.list hq
   have hlen:=r'.length; refine call_tuple_list pl.isList (fun h' kp=>?_) (by simp only [rX] <;> lia)
   have I1:Inv X pins σ H { s with heap:=h' }:=I.kept (t':=s.toks) kp; have I2:Inv X pins σ (upd H h'.objs.size (.tup ys)) { s with heap:=h'.push { cls:=.type "tuple",data:=.seq its.toArray } } :=
     I1.laid (t':=s.toks) (fun b o e=>rW _ e) (sC _) (show ObjOk X.prog X.w _ _ _ (.tup ys) from ⟨hz,its,r',IsTup.new _ _⟩)
   exact ⟨.ref h'.objs.size,_,I2,rfl,q _ (I1.hok.fresh (sC _))⟩
 . obtain ⟨its,r',pl,hz⟩:=I.tuple hq
   exact call_tuple_same pl ⟨.ref p,H,I,rfl,q⟩
def tyV (K:rK) (T:String) (x:V) (H:Hp):Prop:=match x with
 | .str _=>T = "str"
 | .int _=>T = "int"
 | .ref p => (T = "list" /\ ∃ xs, SqL K H p xs) \/ (T = "tuple" /\ ∃ o, K.lookup p = some o /\ o.cls = .type "tuple" /\ o.dict = none) \/
     (T = "dict" /\ ((∃ kvs,H p=some (.dK kvs))\/∃ kvs,H p=some (.dT kvs)))\/(T = "set" /\ ∃ S n,H p=some (.set S n))
 | _=>False
theorem cB {pins:List (rN×Obj)} {σ:St} {H:Hp} {s:rM} {T:String} {x:V} {v:rJ} (I:Inv X pins σ H s) (r:RelV x v) (ty:tyV X.K T x H) :
   s.TypeIs v T/\∀ a,v=.ref a->∃ ob,s.heap.get? a=some ob/\ob.dict=none:=by
 cases x with
 | str z =>
   obtain ⟨t,rfl⟩:=r;cases (show T = "str" from ty);exact ⟨typeIs_str s z t,fun _ e=>nomatch e⟩
 | int i =>
   obtain ⟨t,rfl⟩:=r;cases (show T = "int" from ty);exact ⟨typeIs_int s i t,fun _ e=>nomatch e⟩
 | ref p =>
   cases r; rcases ty with ⟨rfl,xs,hq⟩ | ⟨rfl,o,hk,hc,hd⟩ | ⟨rfl,hk⟩ | ⟨rfl,S,n,hk⟩
   . obtain ⟨its,_,pl,_⟩:=I.list hq
     refine ⟨pl.isList.typeIs,fun a e=>?_⟩;cases e; obtain ⟨o,n,e,c,hd,_⟩:=pl; exact ⟨o,e,hd⟩
   . refine ⟨⟨o,I.kIn p o hk,hc⟩,fun a e=>?_⟩
     cases e; exact ⟨o,I.kIn _ o hk,hd⟩
   . have z : ∃ o, s.heap.get? p = some o /\ o.ExactDict := by
       rcases hk with ⟨kvs,hk⟩ | ⟨kvs,hk⟩
       . obtain ⟨_,_,_,_,o,_,_,e,ex,_⟩:=I.hok p _ hk
         exact ⟨o,e,ex⟩
       . obtain ⟨_,_,_,_,o,_,_,e,ex,_⟩:=I.hok p _ hk
         exact ⟨o,e,ex⟩
     obtain ⟨o,e,ex⟩:=z; refine ⟨⟨o,e,ex.1⟩,fun a e2=>?_⟩;cases e2; exact ⟨o,e,ex.2.1⟩
   . obtain ⟨o,_,_,_,e,ex,_⟩:=I.hok p _ hk
     refine ⟨⟨o,e,ex.1⟩,fun a e2=>?_⟩;cases e2; exact ⟨o,e,ex.2.1⟩
 | _=>exact wX ty
def tBM0 (K:rK) (T:String) (r:V->List V->Hp->VK->Prop) (to:TE):TE:=fun σ H Q=>to σ H fun x H1=>tyV K T x H1/\r x [] H1 Q
def tBM (K:rK) (T:String) (r:V->List V->Hp->VK->Prop) (to:TE) (t:TA):TE:=fun σ H Q=>to σ H fun x H1=>tyV K T x H1/\t σ H1 fun xs H2=>r x xs H2 Q
variable {o e:Expr} {es:List Expr} {to:TE} {t:TA} {name:Str} {apos cpos:Pos} {T id:String} {r:V->List V->Hp->VK->Prop}
theorem We (pa:PlainAttrs T) (slot:Slot T name id) (hty:typeOf (.builtin id)=pure (.type "method_descriptor")) (hm:MtR X id r) (ho:PE X o to)
   (hbase:sQ o name X.env (eval o X.env)=eval o X.env:=by rfl) (hline:(apos.endLine==cpos.line)=true:=by rfl):PE X (.Call (.Attribute o name apos) [] [] cpos) (tBM0 X.K T r to):=by
 intro pins s σ H Q I h;refine wpAny_Call_method0_late hbase hline (thn (ho pins s σ H _ I h) fun v s1 hZ2=>?_);obtain ⟨x,H1,I1,r1,ty,q1⟩:=hZ2;obtain ⟨h1,h2⟩:=cB I1 r1 ty;exact ⟨T,id,pa,slot,hty,h1,h2,wS rfl (PySem.evalArgs_none (hm pins s1 σ H1 x [] v [] Q I1 r1 .nil q1))⟩
theorem Ie (pa:PlainAttrs T) (slot:Slot T name id) (hty:typeOf (.builtin id)=pure (.type "method_descriptor")) (hm:MtR X id r) (ho:PE X o to) (ha:PA X (e::es) t)
   (hbase:sQ o name X.env (eval o X.env)=eval o X.env:=by rfl)
   (hfew:((tR cpos (rP (e::es) X.env)).all (fun x => !x.1)&&(wI cpos (uJ [] X.env)).all (fun x=>x.1.isSome)
     && decide ((e::es).length+([]:List wU).length+(if ([]:List wU).isEmpty then 0 else 1) < 30))=true:=by rfl)
   (hline:(apos.endLine==cpos.line)=true:=by rfl) (hs:rP (e::es) X.env=(false,eval e X.env)::rP es X.env:=by rfl) (hplain:(tR cpos (rP es X.env)).any (·.1)=false:=by rfl) :
   PE X (.Call (.Attribute o name apos) (e::es) [] cpos) (tBM X.K T r to t):=by
 intro pins s σ H Q I h;refine wpAny_Call_method_late hbase hfew hline rfl (thn (ho pins s σ H _ I h) fun v s1 hZ2=>?_);obtain ⟨x,H1,I1,r1,ty,q1⟩:=hZ2;obtain ⟨h1,h2⟩:=cB I1 r1 ty;refine ⟨T,id,pa,slot,hty,h1,h2,?_⟩;have hA:=ha cpos pins s1 σ H1 _ I1 q1;rw [hs] at hA ⊢;refine wS (by show (false||(tR cpos (rP es X.env)).any (·.1))=false; rw [hplain] <;> rfl) (yF ?_)
 exact thn hA fun us s2 hZ2=>by obtain ⟨vs,H2,I2,r2,q2⟩:=hZ2; exact hm pins s2 σ H2 x vs v us Q I2 r1 r2 q2
end
end L2
namespace L2
open PySem PySem.Spec PyProof.Rows
def MtM (X:Cx) (id:String) (r:V->List V->Hp->VK->Prop):Prop :=
 ∀ (pins:List (rN×Obj)) (s:rM) (σ:St) (H:Hp) (x:V) (xs:List V) (v:rJ) (us:List rJ) (Q:VK),Inv X pins σ H s->RelV x v->Vals xs us->r x xs H Q ->
   wpAny (sM X.prog X.w) X.A (call (.builtin id) (v::us)) (EP X pins σ Q) X.xe s
theorem Vals.zero {us:List rJ} (h:Vals [] us):us=[]:=by cases h; rfl
theorem Vals.uncons {x:V} {xs:List V} {us:List rJ} (h:Vals (x::xs) us):∃ u r,us=u::r/\RelV x u/\Vals xs r:=by cases h with | cons a t=>exact ⟨_,_,rfl,a,t⟩
theorem Vals.one {x:V} {us:List rJ} (h:Vals [x] us):∃ u,us=[u]/\RelV x u:=by
 obtain ⟨u,r,rfl,a,t⟩:=h.uncons;exact ⟨u,by rw [t.zero],a⟩
theorem Vals.dropLast {xs:List V} {us:List rJ} (h:Vals xs us):Vals xs.dropLast us.dropLast:=by
 induction h with
 | nil=>exact .nil
 | cons r t ih =>
   cases t with
   | nil=>exact .nil
   | cons q t'=>exact .cons r ih
theorem Vals.rep {xs:List V} {us:List rJ} (h:Vals xs us):∀ k:Nat,Vals (sG k xs).flatten (sG k us).flatten:=by
 intro iN; induction iN with
 | zero=>skip; exact .nil
 | succ k ih =>
   skip
   rw [wR,wR,xY,xY]; exact Vals.append h (ih)
theorem Wx {α:Type} (l:List α):l.eraseIdx (l.length - 1)=l.dropLast:=by
 induction l with
 | nil=>rfl
 | cons a r ih =>
   cases r with
   | nil=>rfl
   | cons b r =>
     have e:(a::b::r).length - 1=((b::r).length - 1)+1:=by
       have h1:(a::b::r).length=r.length+2:=rfl; have h2:(b::r).length=r.length+1:=rfl;lia
     rw [e,List.eraseIdx_cons_succ,ih];all_goals rfl
theorem bD (its:List rJ):∀ (k:Nat) (acc:List rJ),
   y4 (fun x1 x2=>x1++x2) acc.toArray (sG k its.toArray)=(acc++(sG k its).flatten).toArray:=by
 intro iN; induction iN with
 | zero=>intro acc; simp
 | succ k ih =>
   intro acc; have e:acc.toArray++its.toArray=(acc++its).toArray:=by simp
   have e2:(acc++its)++(sG k its).flatten=acc++(sG (k+1) its).flatten:=by
     rw [wR,xY,xZ]
   rw [<- e2,<- ih (acc++its),<- e,wR,List.foldl_cons]
section
variable {X:Cx} {pins:List (rN×Obj)} {σ:St} {H:Hp} {s:rM} {l:rN} {xs ys:List V}
theorem Inv.lset {its its':List rJ} {n:Nat} {f:Array rJ->Array rJ} {t':Nat} (I:Inv X pins σ H s) (hH:H l=some (.lst xs))
   (e:s.heap.get? l=some { cls:=.type "list",data:=.seq its.toArray n }) (hf:f its.toArray=its'.toArray) (hv:Vals ys its') (hz:ys.length<=sizeLine) :
   Inv X pins σ (upd H l (.lst ys)) { s with heap:=s.heap.update l (Obj.mapSeq f),toks:=t' }:=by
 have q:=PySem.IsL.update e f;rw [hf] at q;refine I.write (x:=l) (e:=l) (by rw [hH]; exact trivial) (.inl rfl) (fun b' u hb hu=>(Heap.get?_update_other s.heap (Obj.mapSeq f) (Ne.symm hb)).trans hu) ⟨_,q⟩ ?_;exact ⟨hz,its',_,hv,q⟩
theorem Inv.lnew {its:List rJ} {t':Nat} (I:Inv X pins σ H s) (hv:Vals ys its) (hz:ys.length<=sizeLine) :
   Inv X pins σ (upd H s.heap.objs.size (.lst ys)) { s with heap:=s.heap.push { cls:=.type "list",data:=.seq its.toArray },toks:=t' } :=
 I.laid (fun _ _ q=>rW _ q) (sC _) ⟨hz,its,0,hv,sL _ rfl⟩
theorem Inv.fresh (I:Inv X pins σ H s):H s.heap.objs.size=none:=I.hok.fresh (sC _)
theorem Inv.lstM (I:Inv X pins σ H s) (hH:H l=some (.lst xs)):xs.length<=sizeLine/\∃ (its:List rJ) (n:Nat),Vals xs its/\xs.length=its.length/\s.heap.get? l=some { cls:=.type "list",data:=.seq its.toArray n }:=by
 obtain ⟨z,its,n,r,e⟩:=I.hok l _ hH;exact ⟨z,its,n,r,r.length,e⟩
theorem Tf {n:Nat} (h:n<=sizeLine):yC n=false:=by
 unfold yC;exact decide_eq_false (by lia)
end
section
variable {X:Cx}
def jO:V->List V->Hp->VK->Prop:=fun x vs H Q=>∃ l xs y,x=.ref l/\vs=[y]/\H l=some (.lst xs)/\xs.length < sizeLine/\Q .non (upd H l (.lst (xs++[y])))
theorem U6:MtM X "list.append" jO:=by
 intro pins s σ H x vs v us Q I rx rv h;obtain ⟨l,xs,y,rfl,rfl,hH,hz,q⟩:=h;cases rx;obtain ⟨u,rfl,ru⟩:=rv.one;obtain ⟨z,its,n,r,hl,e⟩:=I.lstM hH;refine AR F.slot_list_append ⟨_,e,rfl⟩ F.entry_list_append (F.args_list_append_2 _ _) (PySem.list_append l its.toArray n u (by rw [rX]; lia)) ⟨e,?_⟩;refine ⟨.non,_,I.lset (its':=its++[u]) hH e (by simp) (r.append (.cons ru .nil)) ?_,rfl,q⟩;rw [sA,zG];lia
def jM:V->List V->Hp->VK->Prop:=fun x vs H Q=>∃ l b xs zs,x=.ref l/\vs=[.ref b]/\H l=some (.lst xs)/\H b=some (.lst zs)/\xs.length+zs.length<=sizeLine/\Q .non (upd H l (.lst (xs++zs)))
theorem aR:MtM X "list.extend" jM:=by
 intro pins s σ H x vs v us Q I rx rv h;obtain ⟨l,b,xs,zs,rfl,rfl,hH,hB,hz,q⟩:=h;cases rx;obtain ⟨u,rfl,ru⟩:=rv.one;cases ru;obtain ⟨z,its,n,r,hl,e⟩:=I.lstM hH;obtain ⟨z2,its2,n2,r2,hl2,e2⟩:=I.lstM hB;have hsz:its.toArray.size+its2.toArray.size<=sizeLine:=by rw [rX,rX]; lia
 have hlong:¬ (!its.toArray.isEmpty&&yC (its.toArray.size+its2.toArray.size))=true:=by
   rw [Tf hsz,Bool.and_false]; exact vB
 refine AR F.slot_list_extend ⟨_,e,rfl⟩ F.entry_list_extend (F.args_list_extend_2 _ _)
   (AutoSeq1.list_extend_list_list_0 l its.toArray n b its2.toArray n2 hlong (by rw [rX]; lia) (by lia)) ⟨e,e2,?_⟩
 refine ⟨.non,_,I.lset (its':=its++its2) hH e (by simp) (r.append r2) ?_,rfl,q⟩;rw [sA];lia
def rPop:V->List V->Hp->VK->Prop:=fun x vs H Q=>∃ l xs y,x=.ref l/\vs=[]/\H l=some (.lst xs)/\xs[xs.length - 1]? = some y/\Q y (upd H l (.lst xs.dropLast))
theorem Wm:MtM X "list.pop" rPop:=by
 intro pins s σ H x vs v us Q I rx rv h;obtain ⟨l,xs,y,rfl,rfl,hH,hy,q⟩:=h;cases rx;have hus:=rv.zero;subst hus;obtain ⟨z,its,n,r,hl,e⟩:=I.lstM hH;obtain ⟨u,hu,ru⟩:=r.get hy;have hy':its.toArray[its.toArray.size - 1]? = some u:=by
   show its.toArray[its.length - 1]? = some u;rw [<- xU,<- hl]; exact hu
 refine AR F.slot_list_pop ⟨_,e,rfl⟩ F.entry_list_pop (F.args_list_pop_1 _) (MeetsSeq.list_pop_last l its.toArray n u hy' (by rw [rX]; lia)) ⟨e,?_⟩;refine ⟨y,_,I.lset (its':=its.dropLast) hH e ?_ r.dropLast ?_,ru,q⟩
 . show its.toArray.eraseIdxIfInBounds (its.toArray.size - 1)=its.dropLast.toArray
   rw [rX,List.eraseIdxIfInBounds_toArray,Wx]
 . rw [List.length_dropLast]
   lia
theorem Ym {α:Type} (xs:List α) (k:Nat):(sG k xs).flatten.length=k*xs.length:=by
 induction k with
 | zero=>simp
 | succ k ih=>rw [wR,xY,sA,ih,Nat.succ_mul,Nat.add_comm]
end
end L2
namespace Att
open PySem PySem.W PySem.Calls PyProof.Rows
theorem Ip {P:z7} {h:tL}:∀ (ns:List Int) (vs:List rJ),WellAll P h vs (ns.map WData.int)->IntsAre vs ns:=by
 intro ns;induction ns with
 | nil =>
   intro vs w; rw [wT] at w; cases w; exact .nil
 | cons n ns ih =>
   intro vs w; rw [rV] at w;cases w with
   | cons a b =>
     cases a; exact .cons _ _ (ih _ b)
theorem Zv {l:OpenLaw} {n:Nat} (hn:l.most=some n) {P:z7} {h:tL} {args:List WData} {vals:List rJ}
   (hpre:l.row.toRowW.claim.pre args=true) (hwl:WellAll P h vals args) :
   ∃ a vs ns,vals=[tW a]/\args=[WData.list (ns.map WData.int)]/\h.get? a=some { cls:=.type "list",data:=.seq vs.toArray }/\IntsAre vs ns/\ns.length<=n:=by
 have hsh:WShape.hasAll [] args [.list .int]=true:=(pre_splitW hpre).1;have hc:l.pre.holds [] { args:=args }=true:=(pre_splitW hpre).2;obtain ⟨d,r,rfl,h1,h2⟩:=hasAllW_cons hsh;obtain rfl:=hasAllW_nil h2;obtain ⟨xs,rfl,h3⟩:=hasW_list h1;obtain ⟨ns,rfl⟩:=items_int h3;have hlen:ns.length<=n:=by
   unfold OpenLaw.pre at hc; have h4:(WTm.not (.lt (.lit (.int (n:Int))) (.len (.arg 0)))).holds [] { args:=[.list (ns.map .int)] }=true:=by
     have h4:=(holds_andW hc).1; rw [hn] at h4; exact h4
   have h5:=condW_of h4 (w_not (w_lt w_lit (w_len_list (w_arg rfl)))); rw [rY] at h5; refine Nat.le_of_not_lt fun q=>?_;have q':(n:Int) < ((ns.length:Nat):Int):=by lia
   first
     | (rw [decide_eq_true q'] at h5; exact absurd h5 (by decide))
     | (simp at h5; lia)
 cases hwl with
 | cons w1 w2 =>
   cases w2;cases w1 with
   | list ho hall=>exact ⟨_,_,ns,rfl,rfl,ho,Ip ns _ hall,hlen⟩
theorem aF (l:OpenLaw) (args:List WData):l.row.toRowW.claim.post args (.bool true) args=true :=
 postW_of (r:=l.row.toRowW) (X:=(true==true))
   (show WShape.has [] (.bool true) .bool=true by first | rfl | decide | simp [WShape.has,WShape.arms,WShape.armsAll])
   (show (WTm.eq .res (.lit (.bool true))).value [] { args:=args,res:=some (.bool true),after:=args }=some (.bool (true==true)) from w_eq_bool (w_res rfl) w_lit) rfl
theorem attach_call {l:OpenLaw} {n:Nat} {q:sE} {loose:List Str} {XP:(Str->Option rJ)->tL->Prop} {YP:sT->tL->Prop} {d:DefRec}
   (hn:l.most=some n) (hdf:d.params.defaults=[])
   (call:∀ (w:sT) (s₀ s₁:rM) (mg mb:Str->Option rJ) (fa:rN) (o:Obj) (pm cd doc:rJ) (a:rN) (vs:List rJ) (ns:List Int),
     Ground q loose [] XP w s₀ mg mb s₁.heap->YP w s₁.heap ->
     s₁.heap.get? fa=some o->o.data=.func (docDef d.name d.params d.body d.scope pm cd doc)->s₁.heap.CodeRec cd d.name->mg d.name=some (.ref fa) ->
     s₁.heap.get? a=some { cls:=.type "list",data:=.seq vs.toArray }->IntsAre vs ns->ns.length<=n->s₁.gens = #[] ->
     k9 (sM l.prog w) BB (.call (.ref fa) ⟨[.ref a],[]⟩) (fun r s'=>r=.ok (.ret (.bool true))/\OldK s₁.heap s'.heap/\s'.os=s₁.os/\v5 s'.gens) s₁) :
   WalkO q loose XP YP l.row.toRowW d [] (fun f vs=>PySem.call f vs):=by
 intro w s₀ s₁ mg mb G Y fa o pm cd doc dV kV ho hd hcd hD hmg hg args vals as hpre hlay hrd hwl hlo;obtain rfl:dV=.none:=Dflts.none hD hdf;obtain rfl:kV=.none:=Dflts.noKw hD;obtain ⟨a,vs,ns,rfl,rfl,hobj,hints,hlen⟩:=Zv hn hpre hwl;refine enter_call (u8 (call w s₀ s₁ mg mb fa o pm cd doc a vs ns G Y ho (fd_plain hd) hcd hmg hobj hints hlen hg) fun r s' hq=>?_);obtain ⟨rfl,h2,h3,h4⟩:=hq;exact ⟨.inl ⟨.bool true,.bool true,[],rfl,fun _=>rfl,.bool true,aF l _,fun _=>⟨List.Pairwise.nil,fun _ hm=>(nomatch hm)⟩⟩,h2,h3,h4⟩
end Att
namespace L2
open PySem PySem.Spec PyProof.Rows
theorem Oc:∀ {vs:List rJ} {ns:List Int},IntsAre vs ns->Vals (ns.map V.int) vs
 | _,_,.nil=>.nil
 | _,_,.cons n t h=>.cons ⟨t,rfl⟩ (Oc h)
def rE (H:Hp):Prop:=∀ b,H b=none\/∃ o xs,H b=some (.frz o (.lst xs))
theorem fU {P:sE} {w:sT} {K:rK} {mg mb:Str->Option rJ} {CX:CXT} {k:Nat} {fa a:rN} {fd:vZ} {x:Str} {sp:Sp} {s₁:rM} {vs:List rJ} {ns:List Int}
   (KX:K.In s₁.heap) (hns:s₁.heap.Ns uI mg) (hb:s₁.heap.Ns v4 mb) (hbb:∀ x:Str,x ≠ "__name__" -> mb x=yW x) (hlim:s₁.heap.NoLimit) (hg:s₁.gens = #[])
   (ha:s₁.heap.get? a=some { cls:=.type "list",data:=.seq vs.toArray }) (hi:IntsAre vs ns) (hl:ns.length<=sizeLine) (hr:Room k BB)
   (F:∀ base:tL,K.In base->base.Ns uI mg->FnOk P w K mg base CX k fa fd [x] sp) (hbind:∀ (s:rM) (u:rJ),BindsTo s fd ⟨[u],[]⟩ [(x,u)])
   (hsp:∀ H:Hp,rE H->SqL K H a (ns.map V.int)->sp [.ref a] H (fun v _=>v=.bl true) fun _ _ _=>False)
   (hCX:∀ H e s',CX [] H s₁ (fun _ _ _=>False) e s'->False) :
   k9 (sM P w) BB (.call (.ref fa) ⟨[.ref a],[]⟩) (fun r s'=>r=.ok (.ret (.bool true))/\OldK s₁.heap s'.heap/\s'.os=s₁.os/\v5 s'.gens) s₁:=by
 have rv:=Oc hi;have lenV:=hi.length;have core : ∀ H : Hp, rE H -> SqL K H a (ns.map V.int) -> HOk P w H s₁.heap -> (∀ b, H b ≠ none -> b = a) -> (H a ≠ none -> K.lookup a = none) ->
     k9 (sM P w) BB (.call (.ref fa) ⟨[.ref a],[]⟩) (fun r s'=>r=.ok (.ret (.bool true))/\OldK s₁.heap s'.heap/\s'.os=s₁.os/\v5 s'.gens) s₁:=by
   intro H hO hS hok hA hK; have base_of:∀ {b:rN} {o:Obj},s₁.heap.get? b=some o->H b=none->(Qu s₁.heap H).get? b=some o:=fun e n=>gF e n;have noA:∀ {b:rN} {o:Obj} {es:Array tV} {ep:Nat},s₁.heap.get? b=some o->o.data=.dict es ep->H b=none:=fun {b o es ep} e d=>by
     cases q:H b with
     | none=>rfl
     | some u =>
       have e':b=a:=hA b (by rw [q]; simp);subst e'; rw [ha] at e; cases e; have d':Data.seq vs.toArray _=Data.dict es ep:=d;cases d'
   have nsK:∀ {b:rN} {m:Str->Option rJ},s₁.heap.Ns b m->(Qu s₁.heap H).Ns b m:=fun {b m} ⟨o,es,ep,e,d,r⟩=>⟨o,es,ep,base_of e (noA e d),d,r⟩;have hKb:K.In (Qu s₁.heap H):=fun b o e=>base_of (KX b o e) (by
     cases q:H b with
     | none=>rfl
     | some u =>
       have e':b=a:=hA b (by rw [q]; simp);subst e'; rw [hK (by rw [q]; simp)] at e; cases e)
   have hM:Mod K mg (Qu s₁.heap H):=⟨hKb,nsK hns,⟨mb,nsK hb,hbb⟩,let ⟨mc,h1,h2⟩:=hlim; ⟨mc,nsK h1,h2⟩⟩;have e0:Env0 P w K mg (Qu s₁.heap H) BB [] s₁ H:=⟨rfl,hM,fun b o e=>kP e,CV (aZ _ _),trivial,fun b hb=>absurd (show b∈([]:List rN) from hb) (by simp),hok,.of_eq hg⟩;refine u8 ((F _ hKb (nsK hns)).run BB [] s₁ H ⟨[.ref a],[]⟩ [.ref a] [.ref a] _ _ hr e0 (hbind s₁ (.ref a)) (.cons rfl .nil) (hsp H hO hS)) fun r s' h=>?_;cases r with
   | error e=>exact (hCX H e s' h).elim
   | ok fl =>
     cases fl with
     | next=>exact wX h
     | brk=>exact wX h
     | cont=>exact wX h
     | ret u =>
       obtain ⟨v,H',os,bare,un,hok',r',q⟩:=h; have q':v=.bl true:=q; subst q'; obtain rfl:u=j4 true:=r'; refine ⟨rfl,OldK.of_keep fun b o e=>?_,os,bare⟩;cases q:H b with
       | none=>exact un.keep b o e q (by intro z; exact absurd (show b∈([]:List rN) from z) (by simp)) (by simp)
       | some u =>
         rcases hO b with z | ⟨ob,xs,z⟩
         . rw [q] at z; cases z
         . have z2:=un.frzs b ob _ z
           obtain ⟨e1,_⟩:=hok b _ z; obtain ⟨e2,_⟩:=hok' b _ z2; rw [e] at e1; cases e1; exact e2
 cases hk:K.lookup a with
 | some o =>
   have e:=KX a o hk; rw [ha] at e; cases e; refine core (fun _=>none) (fun _=>.inl rfl) (.inr ⟨_,vs.toArray,_,hk,rfl,rfl,rfl,by rw [rX,lenV]; exact hl,by simpa using rv⟩) (fun b u z=>by have z':(none:Option HO)=some u:=z; cases z') (fun b z=>absurd rfl z) fun z=>absurd rfl z
 | none =>
   refine core (fun b=>if b=a then some (.frz { cls:=.type "list",data:=.seq vs.toArray } (.lst (ns.map V.int))) else none) (fun b=>?_) (.inl (.inr ⟨{ cls:=.type "list",data:=.seq vs.toArray },if_pos rfl⟩)) (fun b u z=>?_) (fun b z=>?_) fun _=>hk
   . by_cases hb:b=a
     . exact .inr ⟨_,_,if_pos hb⟩
     . exact .inl (if_neg hb)
   . by_cases hb:b=a
     . have z':=(if_pos hb).symm.trans z
       cases z'; subst hb; exact ⟨ha,by rw [rY]; exact hl,vs,_,rv,ha⟩
     . have z':=(if_neg hb).symm.trans z
       cases z'
   . by_cases hb:b=a
     . exact hb
     . exact absurd (if_neg hb) z
end L2
namespace L2
open PySem PySem.Spec PyProof.Rows
theorem iI {l:PySem.W.OpenLaw} {n k:Nat} {q:sE} {loose:List Str} {XP:(Str->Option rJ)->tL->Prop} {YP:sT->tL->Prop} {d:DefRec} {K:z7->rK} {CX:sT->CXT} {sp:sT->Sp} {x:Str}
   (hn:l.most=some n) (hn2:n<=sizeLine) (hdf:d.params.defaults=[]) (hr:Room k BB)
   (hY:∀ (w:sT) (h:tL),YP w h->(K w.params).In h)
   (F:∀ (w:sT) (mg:Str->Option rJ) (fa:rN) (h:tL),(K w.params).In h->h.Ns uI mg->mg d.name=some (.ref fa) ->
     ∃ fd:vZ,(∀ (s:rM) (u:rJ),BindsTo s fd ⟨[u],[]⟩ [(x,u)]) /\
       ∀ base:tL,(K w.params).In base->base.Ns uI mg->FnOk l.prog w (K w.params) mg base (CX w) k fa fd [x] (sp w))
   (hsp:∀ (w:sT) (H:Hp) (a:rN) (ns:List Int),ns.length<=n->rE H->SqL (K w.params) H a (ns.map V.int)->sp w [.ref a] H (fun v _=>v=.bl true) fun _ _ _=>False)
   (hCX:∀ (w:sT) (H:Hp) (s:rM) (e:rJ) (s':rM),CX w [] H s (fun _ _ _=>False) e s'->False) :
   PySem.W.WalkO q loose XP YP l.row.toRowW d [] (fun f vs=>PySem.call f vs):=by
 refine Att.attach_call hn hdf fun w s₀ s₁ mg mb fa o pm cd doc a vs ns G Y ho hd hcd hmg hobj hints hlen hg=>?_;have KX:=hY w _ Y;obtain ⟨fd,hb,hF⟩:=F w mg fa _ KX G.T.g hmg;exact fU KX G.T.g G.T.b G.T.builtins G.T.nolimit hg hobj hints (sJ hlen hn2) hr hF hb (fun H hO hS=>hsp w H a ns hlen hO hS) fun H e s'=>hCX w H s₁ e s'
end L2
namespace L2
open PySem PySem.Spec PyProof.Rows
def Gh (s:vN) (j:Nat):vN:=match s with
 | .ClassDef _ _ _ body _ _ _ _ _ _ _=>body.getD j (.Pass ⟨0,0,0,0⟩)
 | _=>.Pass ⟨0,0,0,0⟩
def D8 (s:vN):Arguments:=match s with
 | .FunctionDef _ a _ _ _ _ _ _ _ _=>a
 | _=>{ posonlyargs:=[],args:=[],vararg:=none,kwonlyargs:=[],kw_defaults:=[],kwarg:=none,defaults:=[] }
def B6 (s:vN):List vN:=match s with
 | .FunctionDef _ _ b _ _ _ _ _ _ _=>b
 | _=>[]
def A0 (s:vN):Scope:=match s with
 | .FunctionDef _ _ _ _ _ _ sc _ _ _=>sc
 | _=>{ kind:=.function,names:=[],isGenerator:=false,isCoroutine:=false }
abbrev CX0:CXT:=fun _ _ _ _ _ _=>False
abbrev E0:XK:=fun _ _ _=>False
theorem Em {X:Cx}:Fo CX0 X E0:=fun _ _ _ _ _ _ _ h=>h.elim
structure Fun (K:rK) (x qual:Str) (st:vN) (f:rN) (fd:vZ):Prop where
 ex:∃ (oc:rJ) (od:Option rN) (kV doc pm:rJ) (an:Option rN) (cdv ct:rJ) (osl:Array (Option rJ)),
   fd=sY x qual (D8 st) (B6 st) (A0 st) .none kV doc pm an cdv ct/\K.lookup f=some ⟨oc,od,.func fd,osl⟩/\vA K cdv qual=true
 kp:tJ K (.ref f)=true
section
variable {P:sE} {w:sT} {K:rK} {mg:Str->Option rJ} {base:tL}
theorem Fun.ok {x qual:Str} {st:vN} {f:rN} {fd:vZ} {N ps:List Str} {k:Nat} {sp:Sp} (F:Fun K x qual st f fd) (S:FnScope N ps (A0 st)) (len:∀ vs H Q E,sp vs H Q E->vs.length=ps.length)
   (hbody:∀ (cdv:rJ) (A:tY) (outer:List Env) (s:rM) (H:Hp) (vs:List V) (Q:VK) (E:XK),Room k (A.deeper (AQ qual (A0 st) s.heap.objs.size f cdv))->sp vs H Q E ->
     ∃ t,PSs (bL CX0 P w K mg base N qual (A0 st) f cdv A outer s H E).nox (B6 st) t/\t { nx:=fun _ H'=>Q .non H',rt:=Q } (T0 N vs) H):FnOk P w K mg base CX0 (k+1) f fd ps sp:=by
 obtain ⟨oc,od,kV,doc,pm,an,cdv,ct,osl,rfl,lk,hcd⟩:=F.ex;refine fn_of lk hcd S len fun A outer s H vs Q E hr hsp=>?_;obtain ⟨t,h,q⟩:=hbody cdv A outer s H vs Q E hr hsp;exact ⟨t,h.nox,q⟩
theorem Fun.binds {x qual:Str} {st:vN} {f:rN} {fd:vZ} {ps:List Str} (F:Fun K x qual st f fd)
   (h:∀ (kV doc pm:rJ) (an:Option rN) (cdv ct:rJ) (us:List rJ),us.length=ps.length->zA (sY x qual (D8 st) (B6 st) (A0 st) .none kV doc pm an cdv ct) ⟨us,[]⟩=pure (ps.zip us)):Binds K fd ps []:=by
 obtain ⟨oc,od,kV,doc,pm,an,cdv,ct,osl,rfl,lk,hcd⟩:=F.ex;exact .all (h kV doc pm an cdv ct)
theorem Bj {x qual:Str} {st:vN} {f:rN} {oc:rJ} {od an:Option rN} {osl:Array (Option rJ)} {kV doc pm cdv ct:rJ} (l:K.lookup f=some ⟨oc,od,.func (sY x qual (D8 st) (B6 st) (A0 st) .none kV doc pm an cdv ct),osl⟩)
   (c:vA K cdv qual=true) (k:tJ K (.ref f)=true):Fun K x qual st f (sY x qual (D8 st) (B6 st) (A0 st) .none kV doc pm an cdv ct):=⟨⟨oc,od,kV,doc,pm,an,cdv,ct,osl,rfl,l,c⟩,k⟩
end
theorem gA {A B:Prop} (h:B):if false=true then A else B:=by
 rw [if_neg vB];exact h
theorem fZ {A B:Prop} (h:A):if true=true then A else B:=by
 rw [if_pos rfl];exact h
def Same (H H':Hp):Prop:=∀ b o,H b=some o->H' b=some o
theorem Same.refl (H:Hp):Same H H:=fun _ _ h=>h
theorem Same.trans {H H1 H2:Hp} (a:Same H H1) (b:Same H1 H2):Same H H2:=fun c o h=>b c o (a c o h)
theorem Same.free {H H':Hp} (e:Same H H') {l:rN} (h:H' l=Option.none):H l=Option.none:=by
 cases q:H l with
 | none=>rfl
 | some o =>
   rw [e l o q] at h; cases h
end L2
section
namespace Sm
open PySem PySem.SetTable
open L2 (isK Fe Tt Dz)
mutual
theorem qR:∀ (a b:rG),isK a=true->isK b=true->(rZ a b=true↔a=b)
 | .int i,.int j,_,_=>by simp [rZ]
 | .str x,.str y,_,_=>by simp [rZ]
 | .tuple xs,.tuple ys,ha,hb=>by
   simp only [rZ,BH]; exact nA xs ys (by simpa [isK] using ha) (by simpa [isK] using hb)
 | .int _,.str _,_,_ | .int _,.tuple _,_,_ | .str _,.int _,_,_ | .str _,.tuple _,_,_ | .tuple _,.int _,_,_ | .tuple _,.str _,_,_=>by simp [rZ]
 | .none,_,h,_ | .bool _,_,h,_ | .list _,_,h,_ | .dict _,_,h,_=>by simp [isK] at h
 | .int _,.none,_,h | .int _,.bool _,_,h | .int _,.list _,_,h | .int _,.dict _,_,h=>by simp [isK] at h
 | .str _,.none,_,h | .str _,.bool _,_,h | .str _,.list _,_,h | .str _,.dict _,_,h=>by simp [isK] at h
 | .tuple _,.none,_,h | .tuple _,.bool _,_,h | .tuple _,.list _,_,h | .tuple _,.dict _,_,h=>by simp [isK] at h
theorem nA:∀ (a b:List rG),Fe a=true->Fe b=true->(yO a b=true↔a=b)
 | [],[],_,_=>by simp [yO]
 | [],_::_,_,_=>by simp [yO]
 | _::_,[],_,_=>by simp [yO]
 | x::xs,y::ys,ha,hb=>by
   simp only [Fe,sU] at ha hb; simp only [yO,sU,wJ]; rw [qR x y ha.1 hb.1,nA xs ys ha.2 hb.2]
end
section
variable {prog:sE} {w:sT} {E:rJ->rM->Prop}
mutual
theorem Md:∀ (k:rG) (v:rJ) (as:List rN) (A:tY) (s:rM) (Q:Int->rM->Prop),isK k=true->Reads s.heap v k as->A.units+k.depth < uY ->
   (∀ tk,s.toks<=tk->Q (Tt w k) { s with toks:=tk })->wpAny (sM prog w) A (pyHash v) Q E s
 | .int i,_,_,A,s,Q,_,x,_,h=>by cases x; exact wpAny_pyHash_int (h _ (zR _))
 | .str y,_,_,A,s,Q,_,x,_,h=>by cases x; exact wpAny_pyHash_str (h _ (zR _))
 | .tuple xs,_,_,A,s,Q,hk,x,hu,h=>by
   cases x with
   | tuple hg hc hd hr =>
     rename_i _ a o vs n;refine PySem.W.pyHash_slot (T := "tuple") ⟨_,hg,hc⟩ F.slot_tuple_hash F.entry_tuple_hash (F.args_tuple_hash_1 _) (BN _) (.inr (by lia)) ?_;show wpAny _ _ (zH (.ref a)>>=_) _ _ s;refine rH (wpAny_tupleItemsOf hg hd ?_); refine rH ?_; rw [<- Array.forIn_toList]; refine Oy xs _ _ A.in1 s #[] _ (by simpa [isK] using hk) hr (by simp only [uF,Around.in1_units] at hu ⊢; lia) fun tk b ht hb=>?_;show wpAny _ _ (retInt (y9 b.toList)) _ _ _;rw [hb]; exact rH (wpAny_mkInt (rL ⟨_,_,rfl,h _ (i4 ht)⟩))
 | .none,_,_,_,_,_,hk,_,_,_ | .bool _,_,_,_,_,_,hk,_,_,_ | .list _,_,_,_,_,_,hk,_,_,_ | .dict _,_,_,_,_,_,hk,_,_,_=>by simp [isK] at hk
theorem Oy:∀ (xs:List rG) (vs:List rJ) (as:List rN) (A:tY) (s:rM) (b:Array Int) (Q:Array Int->rM->Prop),Fe xs=true->CP s.heap vs xs as ->
   A.units+uC xs < uY->(∀ tk b',s.toks<=tk->b'.toList=b.toList++Dz w xs->Q b' { s with toks:=tk }) ->
   wpAny (sM prog w) A (forIn vs b fun x r=>do let h <- pyHash x; pure PUnit.unit; pure (wZ (r.push h))) Q E s
 | [],_,_,A,s,b,Q,_,x,_,h=>by cases x; exact rL (h s.toks b (sC _) (by simp [Dz]))
 | k::xs,_,_,A,s,b,Q,hk,x,hu,h=>by
   cases x with
   | cons x1 x2 =>
     simp only [Fe,sU,uC] at hk hu; rw [AW]; refine rH (rH (Md k _ _ A s _ hk.1 x1 (by lia) fun tk ht=>?_));refine rH (rL (rL ?_)); exact Oy xs _ _ A _ _ Q hk.2 x2 (by lia) fun tk' b' ht' hb=>h tk' b' (sJ ht ht') (by simp [hb,Dz])
end
end
section
variable {prog:sE} {w:sT} {A:tY} {E:rJ->rM->Prop}
mutual
theorem Ib:∀ (fuel:Nat) (k:rG) (v:rJ) (as:List rN) (s:rM) (Q:Bool->rM->Prop),isK k=true->k.depth<=fuel->Reads s.heap v k as->Q true s ->
   wpAny (sM prog w) A (eqIsQuiet fuel v) Q E s
 | fuel,.int _,_,_,s,Q,_,_,x,h=>by cases x; rw [eqIsQuiet_byValue _ rfl]; exact rL h
 | fuel,.str _,_,_,s,Q,_,_,x,h=>by cases x; rw [eqIsQuiet_byValue _ rfl]; exact rL h
 | 0,.tuple _,_,_,s,Q,_,hd,x,h=>by simp [uF] at hd
 | fuel+1,.tuple xs,_,_,s,Q,hk,hdp,x,h=>by
   cases x with
   | tuple hg hc hd hr =>
     rename_i _ a o vs n;have hT:s.TypeIs (.ref a) "tuple" := ⟨_,hg,hc⟩; unfold eqIsQuiet; refine rH (wV hT F.slot_tuple_eq.lookup ?_); show wpAny _ _ (isInstance (.ref a) (.type "tuple")>>=_) _ _ s;refine rH (zV hT isSubtype_tuple_tuple ?_); simp only [zK,tU,if_false]; refine rH (wpAny_seqItems hg hd ?_); refine rH ?_; show wpAny _ _ (forIn vs _ _) _ _ s;rw [<- Array.forIn_toList]; refine Ln fuel xs _ _ s _ (by simpa [isK] using hk) (by simp only [uF] at hdp; lia) hr ?_;exact rL h
 | _,.none,_,_,_,_,hk,_,_,_ | _,.bool _,_,_,_,_,hk,_,_,_ | _,.list _,_,_,_,_,hk,_,_,_ | _,.dict _,_,_,_,_,hk,_,_,_=>by simp [isK] at hk
theorem Ln:∀ (fuel:Nat) (xs:List rG) (vs:List rJ) (as:List rN) (s:rM) (Q:Option Bool×Unit->rM->Prop),Fe xs=true->uC xs<=fuel->CP s.heap vs xs as ->
   Q (none,()) s ->
   wpAny (sM prog w) A (forIn vs ((none,()):Option Bool×Unit) fun x r=>do
     let b <- eqIsQuiet fuel x
     if (!b)=true then pure (ForInStep.done (some false,())) else do
       pure PUnit.unit
       pure (wZ (none,()))) Q E s
 | _,[],_,_,s,Q,_,_,x,h1=>by cases x; exact rL h1
 | fuel,k::xs,_,_,s,Q,hk,hdp,x,h1=>by
   cases x with
   | cons x1 x2 =>
     simp only [Fe,sU,uC] at hk hdp; rw [AW]; refine rH (rH (Ib fuel k _ _ s _ hk.1 (by lia) x1 ?_));simp only [zK,tU,if_false]; exact rL (Ln fuel xs _ _ s Q hk.2 (by lia) x2 h1)
end
end
end Sm
end
section
namespace Sm
open PySem PySem.Spec PyProof.Rows L2
abbrev St:=L2.St
section
variable {prog:sE} {w:sT} {A:tY} {R:Result->rM->Prop} {s:rM}
theorem Rc {elt target iter:Expr} {ifs:List Expr} {scope:Scope} {pos:Pos} {it acc:rJ} {env:Env} (I:Nat->rM->Prop)
   (turn:∀ n s,I n s->wpAny (sM prog w) A (t9 it) (fun r s₁=>match r with
     | none=>R (.ok .next) s₁
     | some v => wpAny (sM prog w) A (v8 target it v) (fun _ s₁' => wpAny (sM prog w) A (assign target env v) (fun _ s₂ =>
         wpAny (sM prog w) A (forIn ifs true fun c r=>if r=true then do let ok <- isTrue c env (eval c env); pure (wZ ok) else pure (wZ r)) (fun ok s₃ =>
           if ok=true then wpAny (sM prog w) A (eval elt env) (fun x s₄ =>
             wpAny (sM prog w) A (call (.builtin "list.append") [acc,x]) (fun _ s₅=>∃ m,m < n/\I m s₅) (fun _ _=>False) s₄) (fun _ _=>False) s₃
           else ∃ m,m < n/\I m s₃) (fun _ _=>False) s₂) (fun _ _=>False) s₁') (fun _ _=>False) s₁) (fun _ _=>False) s)
   (n:Nat) (h:I n s):k9 (sM prog w) A (.compLoop (.ListComp elt [⟨target,iter,ifs,0⟩] scope pos) 0 it acc env) R s:=by
 refine codeAny_loop rfl I (fun n s hI=>?_) n h;show wpAny _ A ((compTurn (.ListComp elt [⟨target,iter,ifs,0⟩] scope pos) 0 it acc env).onRaise (fun x=>do noteFrame x env; theTreesLotGoes x)) _ _ s;refine wpAny_noted ?_;rw [compTurn_list];refine rH (wpAny_standAt (rH (vE (turn n s hI) (fun r s₁ h₁=>?_) fun _ _ h'=>h'.elim)));cases r with
 | none=>exact rL h₁
 | some v =>
   refine rH (vE h₁ (fun _ s₁' h₁'=>?_) fun _ _ h'=>h'.elim);refine rH (vE h₁' (fun _ s₂ h₂=>rH (vE h₂ (fun ok s₃ h₃=>?_) fun _ _ h'=>h'.elim)) fun _ _ h'=>h'.elim);cases ok with
   | false=>exact rL ⟨rfl,h₃⟩
   | true =>
     exact rH (rH (vE h₃ (fun x s₄ h₄=>rH (vE h₄ (fun _ s₅ h₅=>rL (rL ⟨rfl,h₅⟩)) fun _ _ h'=>h'.elim)) fun _ _ h'=>h'.elim))
end
def Uv (X:Cx) (s₃:rM) (H₃:Hp) (scope:Scope) (cl:List (Str×rN)) (N':List Str) (fp:List rN):Cx :=
 { X with N:=N',s₀:=s₃,H₀:=H₃,env:=compEnvC scope cl s₃.heap.objs.size X.env,outer:=X.stack,stack:=X.stack,ex:=fp,fn:=fun _=>false,pn:=[],xe:=fun _ _=>False }
structure Blk (X X':Cx) (N':List Str) (sc':Scope):Prop where
 prog:X'.prog=X.prog
 w:X'.w=X.w
 K:X'.K=X.K
 mg:X'.mg=X.mg
 base:X'.base=X.base
 A:X'.A=X.A
 calm:X'.calm=X.calm
 N:X'.N=N'
 sc:X'.env.scope=sc'
 xe:X'.xe=fun _ _=>False
structure Clos (X:Cx) (scope:Scope) (cl:List (Str×rN)):Prop where
 clo:closureFor scope X.env=pure cl
 sub:∀ x c,cl.lookup x=some c->X.env.cells.lookup x=some c
 has:∀ x,(wM scope X.env).names.lookup x=some .cell\/(wM scope X.env).names.lookup x=some .free->∃ c,cl.lookup x=some c
section
variable {X:Cx} {pins:List (rN×Obj)} {σ:St} {H:Hp} {s₃:rM}
theorem qZ {scope:Scope} {cl:List (Str×rN)} {N':List Str} {fp:List rN} (I:Inv X pins σ H s₃) (hk:scope.kind=.function) (C:Clos X scope cl) (hfp:∀ b∈fp,Oa X pins H b) (hlt:∀ b∈fp,b < s₃.heap.objs.size) :
   (Uv X s₃ H scope cl N' fp).Ok where
 mod:=I.ok.mod
 kind:=hk
 glob:=I.ok.glob
 blt:=I.ok.blt
 above:=sC _
 inj:=fun x y c h1 h2=>I.ok.inj x y c (C.sub x c h1) (C.sub y c h2)
 has:=fun x h=>C.has x h
 cab:=fun x c h=>nomatch h
 hd:=I.ok.hd
 frames:=I.ok.frames
 stk:=.inl rfl
 exf:=fun b hb=>⟨tG (hlt b hb),fun x c h=>(hfp b hb).2.2.2.2.1 x c (C.sub x c h)⟩
 bs:=fun b o e=>I.bs b o e
 bsz:=sJ I.ok.bsz I.sz
 noex:=fun b o e hb=>by
   rcases (hfp b hb).2.2.2.1 with z | z
   . exact I.ok.noex b o e z
   . exact absurd (sP (sN e) (sJ I.ok.bsz z)) (xH _)
 exfs:=fun b hb z=>by
   rcases rT.mp (I.stkSub b z) with q | q
   . exact (hfp b hb).2.1 q
   . exact (hfp b hb).2.2.1 q
 funs:=I.stack
 frf:=I.stkFree
def Bm (σ:St) (cap:List Nat):St:=cap.map fun j=>σ[j]?.join
theorem mH {scope:Scope} {cl:List (Str×rN)} {xs:List Str} {cap:List Nat} {capN:List Str} {fp:List rN} {h₁:tL} {tk:Nat} (I:Inv X pins σ H s₃) (hk:scope.kind=.function) (C:Clos X scope cl) (hfp:∀ b∈fp,Oa X pins H b) (hlt:∀ b∈fp,b < s₃.heap.objs.size)
   (hcap:cap.map (fun j=>X.N[j]?)=capN.map some) (hcl:∀ x∈capN,(wM scope X.env).names.lookup x=some .cell\/(wM scope X.env).names.lookup x=some .free)
   (hvis:∀ x∈capN,X.env.scope.names.lookup x=some .cell\/X.env.scope.names.lookup x=some .free) {m:Str->Option rJ}
   (hns:h₁.Ns s₃.heap.objs.size m) (old:∀ b o,s₃.heap.get? b=some o->h₁.get? b=some o) :
   Inv (Uv X s₃ H scope cl (xs++capN) fp) [] (xs.map (fun _=>none)++Bm σ cap) H { s₃ with heap:=h₁,toks:=tk }:=by
 have hlen:cap.length=capN.length:=by simpa using congrArg yZ hcap
 refine ⟨qZ I hk C hfp hlt,rfl,I.bare,Un.kept old,⟨m,hns,fun i x v e1 e2 e3=>?_⟩,fun x c e=>?_,I.hok.fresh (sC _),fun x c e=>I.freeC x c (C.sub x c e),fun p hp=>absurd (show p∈([]:List (rN×Obj)) from hp) (by simp),I.hok.kept old,?_⟩
 . have e1':(xs++capN)[i]? = some x:=e1
   by_cases hi:i < xs.length
   . rw [sI (by simpa using hi),sB] at e2
     cases q:xs[i]? with
     | none=>rw [q] at e2; cases e2
     | some z=>rw [q] at e2; cases e2
   . rw [sK (by simpa using hi)] at e2
     rw [sK (by lia)] at e1'; rw [rY] at e2;generalize i - xs.length=j at e1' e2;unfold Bm at e2; rw [sB] at e2; have hc:(cap.map (fun j=>X.N[j]?))[j]? = some (some x):=by rw [hcap,sB,e1']; rfl
     rw [sB] at hc;cases q:cap[j]? with
     | none=>rw [q] at e2; cases e2
     | some k =>
       rw [q] at e2 hc; simp only [zL] at e2 hc; have hc':X.N[k]? = some x:=sZ hc; have hs:σ[k]? = some (some v):=by
         cases z:σ[k]? with
         | none=>rw [z] at e2; cases e2
         | some z'=>rw [z] at e2; cases z' with
           | none=>cases e2
           | some z''=>cases e2; rfl
       have hx:x∈capN:=tZ e1'; obtain ⟨m',hm',hl'⟩:=I.loc; obtain ⟨u,r,l⟩:=hl' k x v hc' hs (by rcases hvis x hx with z | z; exact .inr (.inl z); exact .inr (.inr z));refine ⟨u,r,.inr ⟨hcl x hx,?_⟩⟩; obtain ⟨c,hcc⟩:=C.has x (hcl x hx); refine ⟨c,hcc,?_⟩; rcases l with ⟨z,_⟩ | ⟨_,c',e',z⟩
       . have z':X.env.scope.names.lookup x=some .local:=z
         rcases hvis x hx with y | y <;> (rw [z'] at y; cases y)
       . rw [C.sub x c hcc] at e'; cases e'
         obtain ⟨o,ho,hd⟩:=z; exact ⟨o,old _ _ ho,hd⟩
 . obtain ⟨v,o,ho,hd⟩:=I.cell x c (C.sub x c e)
   exact ⟨v,o,old _ _ ho,hd⟩
 . show (xs.map (fun _=>none)++Bm σ cap).length=(xs++capN).length
   unfold Bm; rw [sA,sA,rY,rY,hlen]
end
def Wk (σ1 σ2:St):Prop:=σ1.length=σ2.length/\∀ (i:Nat) v,σ1[i]? = some (some v)->σ2[i]? = some (some v)
def Xo (wi:TI) (σb:St->St) (g:TG) (tt:TT) (te:TE):TE:=fun σ H Q=>wi σ H fun J H1=>∀ D,H1 D=none->∃ W:Nat->Nat->Hp->Prop,(∃ m,W 0 m (upd H1 D (.lst [])))/\∀ i m H,W i m H ->
 (J.stop i H/\Q (.ref D) H)\/(J.go i H/\∃ N:Hp->Prop,(∀ H',N H'->∃ m',m' < m/\W (i+1) m' H')/\∀ x H',J.yld i H x H'->g x (σb σ) H' fun σ2 H2=>Wk (σb σ) σ2/\tt σ2 H2 fun b H3 =>
   if b=true then te σ2 H3 fun y H4=>∃ acc,H4 D=some (.lst acc)/\acc.length < sizeLine/\N (upd H4 D (.lst (acc++[y]))) else N H3)
def PTs (X:Cx) (ifs:List Expr) (t:TT):Prop :=
 ∀ (pins:List (rN×Obj)) (s:rM) (σ:St) (H:Hp) (Q:Bool->Hp->Prop),Inv X pins σ H s->t σ H Q ->
   wpAny (sM X.prog X.w) X.A (forIn ifs true fun c r=>if r=true then do let ok <- isTrue c X.env (eval c X.env); pure (wZ ok) else pure (wZ r)) (TP X pins σ Q) X.xe s
theorem Xz {X:Cx}:PTs X [] (fun _ H Q=>Q true H):=fun _ _ _ H _ I h=>wpAny_tests_nil ⟨H,I,h⟩
theorem jZ {X:Cx} {c:Expr} {t:TT} (h:PT X c t):PTs X [c] t:=fun pins s σ H Q I q=>wpAny_tests_one (h pins s σ H Q I q)
structure CompFacts (X:Cx) (scope:Scope) (xs capN:List Str) (cap:List Nat):Prop where
 kind:scope.kind=.function
 nocell:∀ y∈scope.names,y.2≠.cell
 names:∀ y∈scope.names,y.2=.local->scope.names.lookup y.1=some .local
 clos:∃ cl,Clos X scope cl
 hcap:cap.map (fun j=>X.N[j]?)=capN.map some
 hcl:∀ x∈capN,(wM scope X.env).names.lookup x=some .cell\/(wM scope X.env).names.lookup x=some .free
 hvis:∀ x∈capN,X.env.scope.names.lookup x=some .cell\/X.env.scope.names.lookup x=some .free
section
variable {X:Cx} {tg elt iter:Expr} {ifs:List Expr} {scope:Scope} {pos:Pos} {wi:TI} {g:TG} {tt:TT} {te:TE} {xs capN:List Str} {cap:List Nat}
theorem Uo {use:Option (rJ->Sem Unit)} {Q:rJ->rM->Prop} {QQ:VK} (hc:X.calm=true) (F:CompFacts X scope xs capN cap) (hi:PI X tg iter wi)
   (hg:∀ X',Blk X X' (xs++capN) (wM scope X.env)->PG X' tg g) (ht:∀ X',Blk X X' (xs++capN) (wM scope X.env)->PTs X' ifs tt) (he:∀ X',Blk X X' (xs++capN) (wM scope X.env)->PE X' elt te)
   (hs:∀ x,uQ iter X.env x=pure x)
   {pins:List (rN×Obj)} {s:rM} {σ:St} {H:Hp} (I:Inv X pins σ H s) (h:Xo wi (fun σ=>xs.map (fun _=>none)++Bm σ cap) g tt te σ H QQ) {ps:Pos}
   (fin:∀ (s':rM) (H':Hp) (D C:rN) (m:Str->Option rJ),Inv X pins σ H' s'->s'.heap.Ns C m->(H' C=none/\X.s₀.heap.objs.size<=C/\C≠X.env.locals/\(∀ x c,X.env.cells.lookup x=some c->c≠C)/\∀ p∈X.pn++pins,p.1≠C) ->
     QQ (.ref D) H'->compPost (sM X.prog X.w) X.A X.xe use Q (.ref D) C (.ok .next) s') :
   wpAny (sM X.prog X.w) X.A (comprehension (.ListComp elt [⟨tg,iter,ifs,0⟩] scope pos) scope X.env ps (newList []) false (eval iter X.env) use) Q X.xe s:=by
 obtain ⟨cl,C⟩:=F.clos;refine wpAny_comprehension_free rfl hs C.clo F.kind F.names (thn (hi pins s σ H _ I h) fun v s1 h1=>thn h1 fun itv s2 h2=>?_);obtain ⟨it,fp,tn,J,H2,e,I2,T,st2,f2,h3⟩:=h2;subst e;refine uP ?_;obtain ⟨W,⟨m0,w0⟩,turn⟩:=h3 s2.heap.objs.size I2.fresh;have I3:Inv X pins σ (upd H2 s2.heap.objs.size (.lst [])) { s2 with heap:=s2.heap.push { cls:=.type "list",dict:=none,data:=.seq ([]:List rJ).toArray } }:=I2.lnew (t':=s2.toks) .nil (uA _);generalize hH3:upd H2 s2.heap.objs.size (HO.lst [])=H3 at I3 w0;generalize hs3:({ s2 with heap:=s2.heap.push { cls:=.type "list",dict:=none,data:=.seq ([]:List rJ).toArray } }:rM)=s3 at I3
 have hD3:H3 s2.heap.objs.size=some (.lst []):=by rw [<- hH3]; exact B7
 have kp3:∀ b o,s2.heap.get? b=some o->s3.heap.get? b=some o:=fun b o e=>by rw [<- hs3]; exact rW _ e
 have hDlt:s2.heap.objs.size < s3.heap.objs.size:=by rw [<- hs3]; show _ < (s2.heap.push _).objs.size; rw [BK]; exact zI _
 have flt:∀ b∈fp,b < s2.heap.objs.size:=fun b hb=>by
   obtain ⟨o,e,_⟩:=T.obj 0 _ st2 b hb; exact sN e
 have flt3:∀ b∈fp,b < s3.heap.objs.size:=fun b hb=>Nat.lt_trans (flt b hb) hDlt;have f3:∀ b∈fp,Oa X pins H3 b:=fun b hb=>⟨by rw [<- hH3,B4 (tG (flt b hb))]; exact (f2 b hb).1,(f2 b hb).2⟩;have st3:tn 0 s3.heap:=T.keep 0 _ _ st2 fun b hb o e=>kp3 b o e;show wpAny _ _ (newFunctionEnv scope X.env.globals cl [] X.env.qual none .none (some X.env)) _ _ s3;refine wpAny_newFunctionEnv F.nocell (by intro y hy; simp at hy) (fun h₁ hns₁ hsb₁=>?_) F.kind;have old:∀ b o,s3.heap.get? b=some o->h₁.get? b=some o:=fun b o e=>hsb₁.extBut b o (tG (sN e)) (rW _ e);have B:Blk X (Uv X s3 H3 scope cl (xs++capN) fp) (xs++capN) (wM scope X.env):=⟨rfl,rfl,rfl,rfl,rfl,rfl,rfl,rfl,rfl,rfl⟩
 have J0:Inv (Uv X s3 H3 scope cl (xs++capN) fp) [] (xs.map (fun _=>none)++Bm σ cap) H3 { s3 with heap:=h₁,toks:=s3.toks+([]:List (Str×rJ)).length } :=
   mH I3 F.kind C f3 flt3 F.hcap F.hcl F.hvis hns₁ old
 have st4:tn 0 h₁:=T.keep 0 _ _ st3 fun b hb o e=>old b o e;have hg':=hg _ B;have ht':=ht _ B;have he':=he _ B;generalize hX':Uv X s3 H3 scope cl (xs++capN) fp=X' at B J0 hg' ht' he';have hex:X'.ex=fp:=by rw [<- hX']; rfl
 have hloc:X'.env.locals=s3.heap.objs.size:=by rw [<- hX']; rfl
 have henv:X'.env=compEnvC scope cl s3.heap.objs.size X.env:=by rw [<- hX']; rfl
 have hpn:X'.pn=[]:=by rw [<- hX']; rfl
 have hxe:X'.xe=fun _ _=>False:=by rw [<- hX']; rfl
 have hH0:X'.H₀=H3:=by rw [<- hX']; rfl
 have hs0:X'.s₀=s3:=by rw [<- hX']; rfl
 have hfs:X'.fs=frs X.stack:=by rw [<- hX']; rfl
 have hP:X'.prog=X.prog:=B.prog;have hw:X'.w=X.w:=B.w;have hA:X'.A=X.A:=B.A;have nfs:∀ b∈fp,b∉X'.fs:=fun b hb z=>J0.ok.exfs b (by rw [hex]; exact hb) z;have stat:∀ {pn':List (rN×Obj)} {H':Hp},(∀ b∈fp,H' b=none)->(∀ p∈pn',p.1∉fp)->∀ b∈fp,Oa X' pn' H' b:=fun {pn' H'} hn hp b hb =>
   ⟨hn b hb,by rw [hloc]; exact tG (flt3 b hb),nfs b hb,.inl (by rw [hex]; exact hb),fun x c e=>(J0.ok.exf b (by rw [hex]; exact hb)).2 x c e,fun p hp' z=>by
     rw [hpn,tM] at hp'; exact hp p hp' (z▸hb)⟩
 have loop : ∀ s₀' : rM, Inv X' [] (xs.map (fun _ => none) ++ Bm σ cap) H3 s₀' -> tn 0 s₀'.heap ->
     k9 (sM X.prog X.w) X.A (.compLoop (.ListComp elt [⟨tg,iter,ifs,0⟩] scope pos) 0 (.ref it) (.ref s2.heap.objs.size) X'.env) (compPost (sM X.prog X.w) X.A X.xe use Q (.ref s2.heap.objs.size) s3.heap.objs.size) s₀':=by
   intro s₀' J1 st5; refine Rc (fun n s'=>∃ i H',Inv X' [] (xs.map (fun _=>none)++Bm σ cap) H' s'/\tn i s'.heap/\(∀ b∈fp,H' b=none)/\W i n H') ?_ m0 ⟨0,H3,J1,st5,fun b hb=>(f3 b hb).1,w0⟩;rintro n s4 ⟨i,H4,J4,st4,fr4,w4⟩;rcases turn i n H4 w4 with ⟨stop,qn⟩ | ⟨go,N,hN,step⟩
   . have hd:=T.done X' B.prog B.w B.K (B.calm.trans hc) i [] s4 _ H4 (fun _ _=>False) J4 (stat fr4 (by simp)) st4 stop
     rw [hA] at hd; refine thn hd fun r s5 hZ2=>?_;obtain ⟨hr,J5⟩:=hZ2; subst hr; have un:Un (frs X.stack) fp H3 H4 s3.heap s5.heap:=by
       have:=J5.base; rw [hfs,hex,hH0,hs0] at this; exact this
     have ho:s5.os=s3.os:=by rw [J5.os,hs0]
     have hok5:HOk X.prog X.w H4 s5.heap:=by have:=J5.hok; rw [hP,hw] at this; exact this
     have I5:Inv X pins σ H4 s5:=I3.call' ho un hok5 J5.bare fun b hb=>⟨(f3 b hb).2.2.2.1,(f3 b hb).2.1,(f3 b hb).2.2.2.2.1,(f3 b hb).2.2.2.2.2⟩;obtain ⟨m5,hm5,_⟩:=J5.loc; rw [hloc] at hm5; refine fin s5 H4 _ s3.heap.objs.size m5 I5 hm5 ⟨by have:=J5.free; rw [hloc] at this; exact this,I3.sz,c6 I3.lt,fun x c e z=>?_,fun p hp z=>?_⟩ qn
     . obtain ⟨v,q⟩:=I3.cell x c e
       exact absurd q.lt (by rw [z]; exact xH _)
     . exact absurd (sN (I3.pin p hp).1) (by rw [z]; exact xH _)
   . have hd:=T.item X' B.prog B.w B.K (B.calm.trans hc) i [] s4 _ H4 (fun _ _=>False) J4 (stat fr4 (by simp)) st4 go
     rw [hA] at hd; refine thn hd fun r s5 hZ2=>?_;obtain ⟨u,hr,h5⟩:=hZ2; subst hr; refine thn h5 fun _ s6 hZ2=>?_;obtain ⟨x,H6,J6,r6,y6,st6,fr6⟩:=hZ2; have J6':=J6.pinned (stat fr6 (by simp)) (T.obj _ _ st6);rw [tM] at J6'; have hgx:=hg' _ s6 _ H6 x u _ J6' r6 (step x H6 y6); rw [hP,hw,hA,hxe] at hgx; refine thn hgx fun _ s7 hZ2=>?_;obtain ⟨σ7,H7,J7,wk7,q7⟩:=hZ2; have htx:=ht' _ s7 σ7 H7 _ J7 q7; rw [hP,hw,hA,hxe] at htx; refine thn htx fun ok s8 hZ2=>?_;obtain ⟨H8,J8,q8⟩:=hZ2; have again:∀ {H9:Hp} {s9:rM},Inv X' (Lr fp s6.heap) σ7 H9 s9->N H9->(∃ m,m < n/\∃ i H',Inv X' [] (xs.map (fun _=>none)++Bm σ cap) H' s9/\tn i s9.heap/\(∀ b∈fp,H' b=none)/\W i m H'):=fun {H9 s9} J9 n9=>by
       obtain ⟨m',hm,w9⟩:=hN H9 n9; have pin9:∀ b∈fp,∀ o,s6.heap.get? b=some o->s9.heap.get? b=some o/\H9 b=none:=fun b hb o e=>by
         have:=J9.pin (b,o) (wB _ (Fb hb e)); exact ⟨this.1,this.2.1⟩
       refine ⟨m',hm,i+1,H9,(J9.weak wk7.1 wk7.2).pins_of (fun p hp=>nomatch hp),T.keep _ _ _ st6 fun b hb o e=>(pin9 b hb o e).1,fun b hb=>?_,w9⟩;obtain ⟨o,e,d⟩:=T.obj _ _ st6 b hb; exact (pin9 b hb o e).2
     cases ok with
     | false =>
       rw [if_neg (by decide)] at q8 ⊢;exact again J8 q8
     | true =>
       rw [if_pos rfl] at q8 ⊢;have hex:=he' _ s8 σ7 H8 _ J8 q8; rw [hP,hw,hA,hxe] at hex; refine thn hex fun y s9 hZ2=>?_;obtain ⟨x9,H9,J9,r9,acc,ha,hz,n9⟩:=hZ2; have hap:=U6 (X:=X') _ s9 σ7 H9 (.ref s2.heap.objs.size) [x9] (.ref s2.heap.objs.size) [y] (fun _ H'=>N H') J9 rfl (.cons r9 .nil) ⟨_,acc,x9,rfl,rfl,ha,hz,n9⟩;rw [hP,hw,hA,hxe] at hap; exact thn hap fun _ s10 hZ2=>by obtain ⟨_,H10,J10,_,n10⟩:=hZ2; exact again J10 n10
 have e0:({ (newEnv scope s3.heap.objs.size X.env.globals cl X.env.qual none .none (some X.env) v4:Env) with scope:=wM scope X.env }:Env)=X'.env:=by rw [henv]; rfl
 have e1:(newEnv scope s3.heap.objs.size X.env.globals cl X.env.qual none .none (some X.env) v4:Env).locals=s3.heap.objs.size:=rfl;show k9 _ _ (.compStart _ 0 (.ref it) (.ref s2.heap.objs.size) ({ (newEnv scope s3.heap.objs.size X.env.globals cl X.env.qual none .none (some X.env) v4:Env) with scope:=wM scope X.env }:Env)) (compPost _ _ _ _ _ _ s3.heap.objs.size) _;rw [e0];exact codeAny_compStart_list (loop _ J0 st4) (T.self _ 0 _ _ _ st4 (loop _ J0 st4))
theorem Yf (hc:X.calm=true) (F:X.Ok->CompFacts X scope xs capN cap) (hi:PI X tg iter wi)
   (hg:∀ X',Blk X X' (xs++capN) (wM scope X.env)->PG X' tg g) (ht:∀ X',Blk X X' (xs++capN) (wM scope X.env)->PTs X' ifs tt) (he:∀ X',Blk X X' (xs++capN) (wM scope X.env)->PE X' elt te)
   (hs:∀ x,uQ iter X.env x=pure x:=by intro _; rfl):PE X (.ListComp elt [⟨tg,iter,ifs,0⟩] scope pos) (Xo wi (fun σ=>xs.map (fun _=>none)++Bm σ cap) g tt te):=by
 intro pins s σ H Q I h;rw [eval_ListComp];refine Uo (use:=none) hc (F I.ok) hi hg ht he hs I h fun s' H' D C m I' hm hZ7 q=>?_;obtain ⟨c1,c2,c3,c4,c5⟩:=hZ7;refine ⟨m,hm,fun h' sb=>?_⟩;exact ⟨.ref D,H',I'.turned (t':=s'.toks) (fun b o hb e=>(sb.2 b hb).trans e) c1 c3 (.inr c2) c4 c5,rfl,q⟩
theorem Lq {i:Nat} {y:Str} {py spos:Pos} (hc:X.calm=true) (F:X.Ok->CompFacts X scope xs capN cap) (hi:PI X tg iter wi)
   (hg:∀ X',Blk X X' (xs++capN) (wM scope X.env)->PG X' tg g) (ht:∀ X',Blk X X' (xs++capN) (wM scope X.env)->PTs X' ifs tt) (he:∀ X',Blk X X' (xs++capN) (wM scope X.env)->PE X' elt te)
   (hN:X.N.Nodup) (hy:X.N[i]? = some y) (hl:X.env.scope.names.lookup y=some .local) (hsw:tH (.ListComp elt [⟨tg,iter,ifs,0⟩] scope pos) (some (.Name y py)) spos.line X.env=pure true)
   (hs:∀ x,uQ iter X.env x=pure x:=by intro _; rfl):PS X (.Assign [.Name y py] (.ListComp elt [⟨tg,iter,ifs,0⟩] scope pos) spos) (tAsg (Xo wi (fun σ=>xs.map (fun _=>none)++Bm σ cap) g tt te) (An i)):=by
 intro pins s σ H D0 I h;rw [exec_Assign_Name_used _ _ _ _ hsw];refine rH (wpAny_standAt (rH ?_));show wpAny _ _ (do let _ <- comprehension (.ListComp elt [⟨tg,iter,ifs,0⟩] scope pos) scope X.env _ (newList []) false (eval iter X.env) (some (assign (.Name y py) X.env))) _ _ s;refine rH (vE (Uo (use:=some (assign (.Name y py) X.env)) (Q:=fun _ s'=>SP X pins D0 .next s') hc (F I.ok) hi hg ht he hs I h fun s' H' D C m I' hm hY33 q=>?_) (fun _ s' hq=>rL (rL hq)) fun _ _ e=>e);obtain ⟨c1,c2,c3,c4,c5⟩:=hY33;show wpAny _ _ (assign (.Name y py) X.env (.ref D)) _ _ s'
 refine wpAny_assign_Name (Oh I' hN hy (.inl hl) (v:=.ref D) rfl (fun s'' I'' hY34=>?_) (.inr hl));obtain ⟨a,sa,ea⟩:=hY34;have haC:a≠C:=by
   rcases ea with z | z
   . rw [z]; exact Ne.symm c3
   . exact c4 _ _ z
 refine ⟨m,hm.sameBut sa (Ne.symm haC),fun h' sb=>?_⟩;exact ⟨_,H',I''.turned (t':=s''.toks) (fun b o hb e=>(sb.2 b hb).trans e) c1 c3 (.inr c2) c4 c5,q⟩
end
end Sm
end
section
namespace L2
open PySem PySem.Spec PyProof.Rows
section
variable {X:Cx} {pins:List (rN×Obj)} {σ:St} {H:Hp} {s:rM}
theorem Inv.big (I:Inv X pins σ H s):wK < s.heap.objs.size:=by
 have h:uI < s.heap.objs.size:=(I.mod.glob.keeps I.bk).lt;exact Nat.lt_trans (by decide) h
end
def rF (i:Expr):Prop:=∀ ov iv,BR i false ov iv=operate [ov,iv] (g9 ov iv)
theorem iQ {prog:sE} {w:sT} {A:tY} {E:rJ->rM->Prop} {s:rM} {env:Env} {value slice:Expr} {pos:Pos} {T id:String} {Q:rJ->rM->Prop}
   (hl:typeLookup (.type T) "__getitem__" = pure (some (.builtin id))) (hs:rF slice)
   (h:wpAny (sM prog w) A (eval value env) (fun o s₁=>wpAny (sM prog w) A (eval slice env) (fun i s₂=>s₂.TypeIs o T/\wpAny (sM prog w) A (g9 o i) Q E s₂) E s₁) E s) :
   wpAny (sM prog w) A (eval (.Subscript value slice pos) env) Q E s:=by
 refine Subscript_ (vE h (fun o s₁ h₁=>vE h₁ (fun i s₂ h₂=>?_) fun _ _ x=>x) fun _ _ x=>x);obtain ⟨hT,h₂⟩:=h₂;unfold subscriptTail;refine rH ?_;rw [getitemInPython_of_ne hT.not_modules];refine rH (wV hT hl ?_);have fin:wpAny (sM prog w) A (BR slice false o i) (fun r s₃=>wpAny (sM prog w) A (letTemporaryGo value o r>>=fun _=>pure r) Q E s₃) E s₂:=by
   rw [hs o i]; exact wpAny_operating (vE h₂ (fun r s₃ h₃=>rH (wpAny_letTemporaryGo (rL h₃))) fun _ _ x=>x)
 first
   | exact rL (rH fin)
   | exact rH (rL (rH fin))
   | exact rH fin
theorem gQ {P:sE} {w:sT} {H:Hp} (h:tL) (hb:wK < h.objs.size):ObjOk P w H (h.push { cls:=.type "dict",data:=.dict #[] }) h.objs.size (.dT []) :=
 ⟨uA _,beq_eq_false_iff_ne.mpr (Ne.symm (tG hb)),[],.nil,_,#[],0,sL _ rfl,⟨rfl,rfl,rfl⟩,rfl,rfl,q9⟩
def nQ:TE:=fun _ H Q=>∀ p,H p=none->Q (.ref p) (upd H p (.dT []))
section
variable {X:Cx} {pos:Pos}
theorem eY:PE X (.Dict [] [] pos) nQ:=fun pins s σ H Q I h =>
 wpAny_Dict_empty ⟨.ref s.heap.objs.size,_,I.laid (a:=s.heap.objs.size) (o:=.dT []) (t':=s.toks) (fun _ _ q=>rW _ q) (sC _) (gQ s.heap I.big),rfl,h _ (I.hok.fresh (sC _))⟩
end
structure M1 (X:Cx) (o:Expr) (m:Str) (apos:Pos) (e:Expr) (cpos:Pos):Prop where
 base:sQ o m X.env (eval o X.env)=eval o X.env
 few:((tR cpos (rP [e] X.env)).all (fun x => !x.1)&&(wI cpos (uJ [] X.env)).all (fun x=>x.1.isSome)
   && decide (([e]:List Expr).length+([]:List wU).length+(if ([]:List wU).isEmpty then 0 else 1) < 30))=true
 line:(apos.endLine==cpos.line)=true
 trees:tR cpos (rP [e] X.env)=[(false,eval e X.env)]
structure M2 (X:Cx) (o:Expr) (m:Str) (apos:Pos) (e f:Expr) (cpos:Pos):Prop where
 base:sQ o m X.env (eval o X.env)=eval o X.env
 few:((tR cpos (rP [e,f] X.env)).all (fun x => !x.1)&&(wI cpos (uJ [] X.env)).all (fun x=>x.1.isSome)
   && decide (([e,f]:List Expr).length+([]:List wU).length+(if ([]:List wU).isEmpty then 0 else 1) < 30))=true
 line:(apos.endLine==cpos.line)=true
 trees:tR cpos (rP [e,f] X.env)=[(false,eval e X.env),(false,eval f X.env)]
end L2
end
section
namespace Sm
open PySem PySem.Spec PyProof.Rows L2
inductive Res (α:Type) where
 | ok (a:α)
 | exc (c:Str)
 | no
noncomputable def Res.bind {α β:Type}:Res α->(α->Res β)->Res β
 | .ok a,k=>k a
 | .exc c,_=>.exc c
 | .no,_=>.no
noncomputable def ofO {α:Type}:Option α->Res α
 | some a=>.ok a
 | none=>.no
inductive Sl where
 | un
 | sh (d:rG)
 | ow (d:rG)
 | fd (kvs:List (rG×rG))
abbrev Dn:=List Sl
mutual
noncomputable def Rep (G:Hp):rG->V->Prop
 | .none,v=>v=.non
 | .bool b,v=>v=.bl b
 | .int i,v=>v=.int i
 | .str x,v=>v=.str x/\sW x=true/\x.length<=sizeLine
 | .list ds,v=>∃ a xs,v=.ref a/\Rd G a (.lst xs)/\RepL G ds xs
 | .tuple ds,v=>∃ a xs,v=.ref a/\G a=some (.tup xs)/\RepL G ds xs
 | .dict _,_=>False
noncomputable def RepL (G:Hp):List rG->List V->Prop
 | [],xs=>xs=[]
 | d::ds,xs=>∃ x r,xs=x::r/\Rep G d x/\RepL G ds r
end
theorem Rd.mono {G G':Hp} (h:Same G G') {a:rN} {u:HO} (r:Rd G a u):Rd G' a u:=by
 rcases r with r | ⟨o,r⟩
 . exact .inl (h _ _ r)
 . exact .inr ⟨o,h _ _ r⟩
mutual
theorem Rep.mono {G G':Hp} (h:Same G G'):∀ {d:rG} {v:V},Rep G d v->Rep G' d v
 | .none,_,r=>r
 | .bool _,_,r=>r
 | .int _,_,r=>r
 | .str _,_,r=>r
 | .list _,_,r=>by obtain ⟨a,xs,e,q,l⟩:=r; exact ⟨a,xs,e,Rd.mono h q,RepL.mono h l⟩
 | .tuple _,_,r=>by obtain ⟨a,xs,e,q,l⟩:=r; exact ⟨a,xs,e,h _ _ q,RepL.mono h l⟩
 | .dict _,_,r=>r.elim
theorem RepL.mono {G G':Hp} (h:Same G G'):∀ {ds:List rG} {xs:List V},RepL G ds xs->RepL G' ds xs
 | [],_,r=>r
 | _::_,_,r=>by obtain ⟨x,t,e,q,l⟩:=r; exact ⟨x,t,e,Rep.mono h q,RepL.mono h l⟩
end
mutual
theorem Rep.lay {G:Hp}:∀ {d:rG} {v:V},Rep G d v->d.canLay0=true
 | .none,_,r=>rfl
 | .bool _,_,r=>rfl
 | .int _,_,r=>rfl
 | .str _,_,r=>r.2.1
 | .list _,_,r=>by obtain ⟨a,xs,e,q,l⟩:=r; exact RepL.lay l
 | .tuple _,_,r=>by obtain ⟨a,xs,e,q,l⟩:=r; exact RepL.lay l
 | .dict _,_,r=>r.elim
theorem RepL.lay {G:Hp}:∀ {ds:List rG} {xs:List V},RepL G ds xs->wL ds=true
 | [],_,r=>rfl
 | _::_,_,r=>by
   obtain ⟨x,t,e,q,l⟩:=r; rw [wL,Rep.lay q,RepL.lay l]; rfl
end
noncomputable section
variable {G:Hp}
theorem RepL.cons {d:rG} {ds:List rG} {x:V} {xs:List V} (h:Rep G d x) (t:RepL G ds xs):RepL G (d::ds) (x::xs):=⟨x,xs,rfl,h,t⟩
theorem RepL.length:∀ {ds:List rG} {xs:List V},RepL G ds xs->ds.length=xs.length:=by
 intro iN; induction iN with
 | nil=>intro _ r; cases (show _=_ from r); rfl
 | cons d ds ih=>intro _ r; obtain ⟨x,t,rfl,q,l⟩:=r; simp [ih l]
theorem RepL.get:∀ {ds:List rG} {xs:List V} {i:Nat} {d:rG},RepL G ds xs->ds[i]? = some d->∃ x,xs[i]? = some x/\Rep G d x
 | [],_,_,_,_,e=>by simp at e
 | d::ds,_,0,_,r,e=>by obtain ⟨x,t,rfl,q,l⟩:=r; simp at e; subst e; exact ⟨x,rfl,q⟩
 | d::ds,_,i+1,_,r,e=>by
   obtain ⟨x,t,rfl,q,l⟩:=r; obtain ⟨y,h1,h2⟩:=RepL.get (i:=i) l (by simpa using e);exact ⟨y,by simpa using h1,h2⟩
theorem RepL.append:∀ {ds es:List rG} {xs ys:List V},RepL G ds xs->RepL G es ys->RepL G (ds++es) (xs++ys):=by
 intro iN; induction iN with
 | nil=>intro _ _ _ r q; cases (show _=_ from r); exact q
 | cons d ds ih=>intro _ _ _ r q; obtain ⟨x,t,rfl,h,l⟩:=r; exact RepL.cons h (ih l q)
theorem RepL.drop:∀ (n:Nat) {ds:List rG} {xs:List V},RepL G ds xs->RepL G (ds.drop n) (xs.drop n)
 | 0,_,_,r=>r
 | _+1,[],_,r=>by cases (show _=_ from r); exact rfl
 | n+1,d::ds,_,r=>by obtain ⟨x,t,rfl,h,l⟩:=r; exact RepL.drop n l
theorem RepL.take:∀ (n:Nat) {ds:List rG} {xs:List V},RepL G ds xs->RepL G (ds.take n) (xs.take n)
 | 0,_,_,r=>rfl
 | _+1,[],_,r=>by cases (show _=_ from r); exact rfl
 | n+1,d::ds,_,r=>by obtain ⟨x,t,rfl,h,l⟩:=r; exact RepL.cons h (RepL.take n l)
theorem RepL.rep {ds:List rG} {xs:List V} (r:RepL G ds xs):∀ k:Nat,RepL G (sG k ds).flatten (sG k xs).flatten:=by
 intro iN; induction iN with
 | zero=>skip; exact rfl
 | succ k ih =>
   skip
   rw [wR,wR,xY,xY]; exact RepL.append r (ih)
theorem RepL.ints (ns:List Int):RepL G (ns.map wA) (ns.map V.int):=by
 induction ns with
 | nil=>exact rfl
 | cons n ns ih=>exact RepL.cons rfl ih
theorem RepL.dropLast {ds:List rG} {xs:List V} (r:RepL G ds xs):RepL G ds.dropLast xs.dropLast:=by
 rw [CY,CY,r.length];exact RepL.take _ r
end
structure Grow (G H G' H':Hp):Prop where
 g:Same G G'
 h:Same H H'
 gh:Same G' H'
 fr:∀ b o,G' b=some o->G b=some o\/H b=none\/∃ xs,o=HO.tup xs
theorem Grow.refl {G H:Hp} (h:Same G H):Grow G H G H:=⟨Same.refl _,Same.refl _,h,fun _ _ e=>.inl e⟩
theorem Grow.trans {G H G1 H1 G2 H2:Hp} (a:Grow G H G1 H1) (b:Grow G1 H1 G2 H2):Grow G H G2 H2 :=
 ⟨a.g.trans b.g,a.h.trans b.h,b.gh,fun c o e=>by
   rcases b.fr c o e with q | q | q
   . exact a.fr c o q
   . exact .inr (.inl (a.h.free q))
   . exact .inr (.inr q)⟩
theorem Same.upd {H:Hp} {p:rN} {o:HO} (h:H p=none):Same H (upd H p o):=fun b u e=>by
 rw [B4 (C0 e h)]; exact e
theorem Grow.new {G H:Hp} {p:rN} {o:HO} (s:Same G H) (h:H p=none):Grow G H (upd G p o) (upd H p o):=by
 have hg:G p=none:=s.free h;refine ⟨Same.upd hg,Same.upd h,fun b u e=>?_,fun b u e=>?_⟩
 . by_cases hb:b=p
   . subst hb; rw [B7] at e ⊢; exact e
   . rw [B4 hb] at e ⊢; exact s _ _ e
 . by_cases hb:b=p
   . subst hb; exact .inr (.inl h)
   . rw [B4 hb] at e; exact .inl e
theorem Grow.own {G H:Hp} {p:rN} {o:HO} (s:Same G H) (h:H p=none):Grow G H G (upd H p o) :=
 ⟨Same.refl _,Same.upd h,s.trans (Same.upd h),fun _ _ e=>.inl e⟩
noncomputable def pZ:Key->rG
 | .inl i=>.int i
 | .inr x=>.str x
noncomputable def mW (kk:List (Key×V)):List (List Key×V):=kk.map fun p=>([p.1],p.2)
noncomputable def OwnK (G H:Hp) (a:rN):List rG->Prop
 | [.dict kvs]=>∃ kk:List (Key×V),H a=some (.dK kk)/\kvs.map (·.1)=(mW kk).map (fun p=>wQ (p.1.map pZ))/\RepL G (kvs.map (·.2)) ((mW kk).map (·.2))
 | [.dict kvs,.none]=>∃ kk:List (rG×V),H a=some (.dN kk)/\kvs.map (·.1)=kk.map (·.1)/\RepL G (kvs.map (·.2)) (kk.map (·.2))
 | _=>False
theorem OwnK.keep {G G' H H':Hp} {a:rN} {xs:List rG} (g:Same G G') (e:∀ o,H a=some o->H' a=some o) (h:OwnK G H a xs):OwnK G' H' a xs:=by
 unfold OwnK at h ⊢;split at h
 . obtain ⟨kk,h1,h2,h3⟩:=h
   exact ⟨kk,e _ h1,h2,h3.mono g⟩
 . obtain ⟨kk,h1,h2,h3⟩:=h
   exact ⟨kk,e _ h1,h2,h3.mono g⟩
 . exact h.elim
theorem OwnK.is {G H:Hp} {a:rN} {xs:List rG} (h:OwnK G H a xs):∃ o,H a=.some o:=by
 unfold OwnK at h;split at h
 . obtain ⟨kk,h1,_⟩:=h
   exact ⟨_,h1⟩
 . obtain ⟨kk,h1,_⟩:=h
   exact ⟨_,h1⟩
 . exact h.elim
noncomputable def OwnOk (G H:Hp) (a:rN):rG->Prop
 | .list ds=>∃ xs,H a=some (.lst xs)/\RepL G ds xs
 | .dict kvs=>∃ kk:List (List Key×V),H a=some (.dT kk)/\kvs.map (·.1)=kk.map (fun p=>wQ (p.1.map pZ))/\RepL G (kvs.map (·.2)) (kk.map (·.2))
 | .tuple xs=>OwnK G H a xs
 | _=>False
def FdOk (G:Hp) (o:Option V) (kvs:List (rG×rG)):Prop:=match kvs with
 | (.dict [],.none)::r=>∃ a,∃ kk:List (rG×V),o=some (.ref a)/\Rd G a (.dN kk)/\r.map (·.1)=kk.map (·.1)/\RepL G (r.map (·.2)) (kk.map (·.2))
 | _=>∃ a ob,∃ kk:List (List Key×V),o=some (.ref a)/\G a=some (.frz ob (.dT kk))/\kvs.map (·.1)=kk.map (fun p=>wQ (p.1.map pZ))/\RepL G (kvs.map (·.2)) (kk.map (·.2))
theorem FdOk.mono {G G':Hp} {o:Option V} {kvs:List (rG×rG)} (g:Same G G') (h:FdOk G o kvs):FdOk G' o kvs:=by
 unfold FdOk at h ⊢;split at h
 . obtain ⟨a,kk,h1,h2,h3,h4⟩:=h
   exact ⟨a,kk,h1,Rd.mono g h2,h3,h4.mono g⟩
 . obtain ⟨a,ob,kk,h1,h2,h3,h4⟩:=h
   exact ⟨a,ob,kk,h1,g _ _ h2,h3,h4.mono g⟩
noncomputable def SlOk (G H:Hp) (o:Option V):Sl->Prop
 | .un=>True
 | .sh d=>∃ v,o=some v/\Rep G d v
 | .ow d=>∃ a,o=some (.ref a)/\G a=none/\OwnOk G H a d
 | .fd kvs=>FdOk G o kvs
structure SR (G H:Hp) (σ:St) (δ:Dn):Prop where
 sub:Same G H
 len:σ.length=δ.length
 sl:∀ (i:Nat) (s:Sl),δ[i]? = some s->SlOk G H (σ[i]?.join) s
 ap:∀ (i j:Nat) (a:rN) (d e:rG),δ[i]? = some (.ow d)->δ[j]? = some (.ow e)->σ[i]?.join=some (.ref a)->σ[j]?.join=some (.ref a)->i=j
theorem OwnOk.some {G H:Hp} {a:rN} {d:rG} (h:OwnOk G H a d):∃ o,H a=some o:=by
 cases d with
 | list ds=>obtain ⟨xs,e,_⟩:=h; exact ⟨_,e⟩
 | dict kvs=>obtain ⟨xs,e,_⟩:=h; exact ⟨_,e⟩
 | tuple xs=>exact OwnK.is h
 | _=>exact (show False from h).elim
theorem OwnOk.grow {G H G' H':Hp} (g:Grow G H G' H') {a:rN} {d:rG} (h:OwnOk G H a d):OwnOk G' H' a d:=by
 cases d with
 | list ds=>obtain ⟨xs,e,r⟩:=h; exact ⟨xs,g.h _ _ e,r.mono g.g⟩
 | dict kvs=>obtain ⟨xs,e,k,r⟩:=h; exact ⟨xs,g.h _ _ e,k,r.mono g.g⟩
 | tuple xs=>exact OwnK.keep g.g (fun o e=>g.h _ _ e) h
 | _=>exact (show False from h).elim
theorem OwnOk.noTup {G H:Hp} {a:rN} {d:rG} (h:OwnOk G H a d) {xs:List V} (e:H a=.some (HO.tup xs)):False:=by
 cases d with
 | list ds=>obtain ⟨_,z,_⟩:=h; rw [e] at z; cases z
 | dict kvs=>obtain ⟨_,z,_⟩:=h; rw [e] at z; cases z
 | tuple ys =>
   have h':OwnK G H a ys:=h; unfold OwnK at h';split at h'
   . obtain ⟨_,z,_⟩:=h'; rw [e] at z; cases z
   . obtain ⟨_,z,_⟩:=h'; rw [e] at z; cases z
   . exact h'
 | _=>exact (show False from h).elim
theorem SlOk.grow {G H G' H':Hp} (g:Grow G H G' H') {o:Option V} {s:Sl} (h:SlOk G H o s):SlOk G' H' o s:=by
 cases s with
 | un=>trivial
 | sh d=>obtain ⟨v,e,r⟩:=h; exact ⟨v,e,r.mono g.g⟩
 | fd kvs=>exact FdOk.mono g.g h
 | ow d =>
   obtain ⟨a,e,n,r⟩:=h; refine ⟨a,e,?_,r.grow g⟩;cases q:G' a with
   | none=>rfl
   | some u =>
     obtain ⟨o',eo⟩:=r.some; rcases g.fr a u q with z | z | ⟨xs,rfl⟩
     . rw [n] at z; cases z
     . rw [eo] at z; cases z
     . exact ((r.grow g).noTup (g.gh _ _ q)).elim
theorem SR.grow {G H G' H':Hp} {σ:St} {δ:Dn} (S:SR G H σ δ) (g:Grow G H G' H'):SR G' H' σ δ :=
 ⟨g.gh,S.len,fun i s e=>(S.sl i s e).grow g,S.ap⟩
abbrev EK:=Str->Hp->Prop
def Aft (E:EK) (G H:Hp) (r:Res rG) (Q:VK):Prop:=match r with
 | .ok d=>∀ v G' H',Grow G H G' H'->Rep G' d v->Q v H'
 | .exc c=>∀ G' H',Grow G H G' H'->E c H'
 | .no=>False
def tD (E:EK) (f:Dn->Res rG):TE:=fun σ H Q=>∃ G δ,SR G H σ δ/\Aft E G H (f δ) Q
abbrev DE (X:Cx) (E:EK) (e:Expr) (f:Dn->Res rG):Prop:=PE X e (tD E f)
theorem Aft.grow {E:EK} {G H G' H':Hp} {r:Res rG} {Q:VK} (g:Grow G H G' H') (a:Aft E G H r Q):Aft E G' H' r Q:=by
 cases r with
 | ok d=>exact fun v G2 H2 g2 q=>a v G2 H2 (g.trans g2) q
 | exc c=>exact fun G2 H2 g2=>a G2 H2 (g.trans g2)
 | no=>exact a
theorem PE.imp {X:Cx} {e:Expr} {t t':TE} (h:PE X e t) (i:∀ σ H Q,t' σ H Q->t σ H Q):PE X e t':=fun pins s σ H Q I q=>h pins s σ H Q I (i _ _ _ q)
theorem P9 {E:EK} {G H:Hp} {σ:St} {δ:Dn} {f:Dn->Res rG} {k:rG->Res rG} {Q R:VK} (S:SR G H σ δ) (a:Aft E G H ((f δ).bind k) Q)
   (h:∀ d v G1 H1,Grow G H G1 H1->Rep G1 d v->SR G1 H1 σ δ->Aft E G1 H1 (k d) Q->R v H1):tD E f σ H R:=by
 refine ⟨G,δ,S,?_⟩;cases e:f δ with
 | ok d =>
   rw [e] at a; exact fun v G' H' g r=>h d v G' H' g r (S.grow g) (Aft.grow g a)
 | exc c=>rw [e] at a; exact a
 | no=>rw [e] at a; exact a
noncomputable section
variable {X:Cx} {E:EK} {pos:Pos}
noncomputable def vC (d:rG):Dn->Res rG:=fun _=>.ok d
noncomputable def A7 (i:Nat):Dn->Res rG:=fun δ=>match δ[i]? with
 | some (.sh d)=>.ok d
 | _=>.no
theorem B9 {i:Int} {j:Nat}:DE X E (.Constant (.int i) j pos) (vC (.int i)):=PE.imp oW fun σ H Q hZ3=>by obtain ⟨G,δ,S,a⟩:=hZ3; exact a _ G H (Grow.refl S.sub) rfl
theorem Bl {b:Bool} {j:Nat}:DE X E (.Constant (.bool b) j pos) (vC (.bool b)):=PE.imp pe_bl fun σ H Q hZ3=>by obtain ⟨G,δ,S,a⟩:=hZ3; exact a _ G H (Grow.refl S.sub) rfl
theorem Ra {j:Nat}:DE X E (.Constant .none j pos) (vC .none):=PE.imp oV fun σ H Q hZ3=>by obtain ⟨G,δ,S,a⟩:=hZ3; exact a _ G H (Grow.refl S.sub) rfl
theorem O3 {x:Str} {j:Nat} (h:sW x=true:=by decide +kernel) (hl:x.length<=sizeLine:=by decide +kernel):DE X E (.Constant (.str x) j pos) (vC (.str x)) :=
 PE.imp eP fun σ H Q hZ3=>by obtain ⟨G,δ,S,a⟩:=hZ3; exact a _ G H (Grow.refl S.sub) ⟨rfl,h,hl⟩
theorem qT {i:Nat} {x:Str} (hN:X.N[i]? = some x) (hv:Vis X.env.scope x) (hd:(x==("__debug__" : Str))=false) (hcd:(x==("__classdict__" : Str))=false):DE X E (.Name x pos) (A7 i) :=
 PE.imp (Wd hN hv hd hcd) fun σ H Q hZ3=>by
   obtain ⟨G,δ,S,a⟩:=hZ3; unfold A7 at a;split at a
   . rename_i d e
     obtain ⟨v,e1,r⟩:=S.sl i _ e; refine ⟨v,?_,a _ G H (Grow.refl S.sub) r⟩;cases q:σ[i]? with
     | none=>rw [q] at e1; cases e1
     | some w=>rw [q] at e1; cases w with
       | none=>cases e1
       | some w=>cases e1; rfl
   . exact a.elim
noncomputable def b2 (f g:Dn->Res rG) (op:rG->rG->Option rG):Dn->Res rG:=fun δ=>(f δ).bind fun x=>(g δ).bind fun y=>ofO (op x y)
def OpD (r:R2) (op:rG->rG->Option rG):Prop:=∀ (G H:Hp) (x y:V) (a b d:rG) (Q:VK),Same G H->Rep G a x->Rep G b y->op a b=some d->(∀ v G' H',Grow G H G' H'->Rep G' d v->Q v H')->r x y H Q
theorem cO {r:R2} {op:rG->rG->Option rG} {f g:Dn->Res rG} (ho:OpD r op) {σ:St} {H:Hp} {Q:VK} (h:tD E (b2 f g op) σ H Q):tOp r (tD E f) (tD E g) σ H Q:=by
 obtain ⟨G,δ,S,a⟩:=h;refine P9 S a fun d1 v1 G1 H1 g1 r1 S1 a1=>?_;refine P9 S1 a1 fun d2 v2 G2 H2 g2 r2 S2 a2=>?_;cases e:op d1 d2 with
 | none=>rw [e] at a2; exact a2.elim
 | some d=>rw [e] at a2; exact ho G2 H2 v1 v2 d1 d2 d Q S2.sub (r1.mono g2.g) r2 e a2
theorem Ul {a b:Expr} {o:Operator} {r:R2} {op:rG->rG->Option rG} {f g:Dn->Res rG} (hr:OpR X (o7 o) r) (ho:OpD r op) (ha:DE X E a f) (hb:DE X E b g):DE X E (.BinOp a o b pos) (b2 f g op) :=
 PE.imp (pe_op hr ha hb) fun _ _ _ h=>cO ho h
theorem d_cmp {a b:Expr} {o:wP} {r:R2} {op:rG->rG->Option rG} {f g:Dn->Res rG} (hr:OpR X (vH o) r) (ho:OpD r op) (ha:DE X E a f) (hb:DE X E b g) (hm:behindInMarks o b=false):DE X E (.Compare a [o] [b] pos) (b2 f g op) :=
 PE.imp (Yg hr ha hb hm) fun _ _ _ h=>cO ho h
end
end Sm
end
noncomputable section
namespace Sm
open PySem PySem.Spec PyProof.Rows L2
noncomputable section
variable {X:Cx} {pins:List (rN×Obj)} {σ:St} {H G:Hp} {s:rM}
theorem Al (I:Inv X pins σ H s) {a:rN} {xs:List V} (hG:Same G H) (r:Rd G a (.lst xs)):xs.length<=sizeLine/\∃ (its:List rJ) (n:Nat),Vals xs its/\s.heap.get? a=some { cls:=.type "list",data:=.seq its.toArray n } :=
 (Rd.ok (Rd.mono hG r) I.hok:ObjOk X.prog X.w H s.heap a (.lst xs))
theorem Hg (I:Inv X pins σ H s) {a:rN} {xs:List V} (hG:Same G H) (r:G a=some (.tup xs)):xs.length<=sizeLine/\∃ its:List rJ,Vals xs its/\w6 s.heap a its.toArray :=
 (I.hok a _ (hG _ _ r):ObjOk X.prog X.w H s.heap a (.tup xs))
mutual
theorem Rep.reads (I:Inv X pins σ H s) (hG:Same G H):∀ {d:rG} {v:V} {u:rJ},Rep G d v->RelV v u->∃ as,Reads s.heap u d as
 | .none,_,_,r,q=>by cases (show _=_ from r); cases q; exact ⟨_,.none⟩
 | .bool _,_,_,r,q=>by cases (show _=_ from r); cases q; exact ⟨_,.bool _⟩
 | .int _,_,_,r,q=>by cases (show _=_ from r); obtain ⟨t,rfl⟩:=q; exact ⟨_,.int _ _⟩
 | .str _,_,_,r,q=>by cases r.1; obtain ⟨t,rfl⟩:=q; exact ⟨_,.str _ _⟩
 | .list _,_,_,r,q=>by
   obtain ⟨a,xs,rfl,h,l⟩:=r; cases q; obtain ⟨z,its,n,rv,e⟩:=Al I hG h; obtain ⟨as,ra⟩:=RepL.reads I hG l rv; exact ⟨_,.list e rfl rfl (by simpa using ra)⟩
 | .tuple _,_,_,r,q=>by
   obtain ⟨a,xs,rfl,h,l⟩:=r; cases q; obtain ⟨z,its,rv,o,e,c,n,hd⟩:=Hg I hG h; obtain ⟨as,ra⟩:=RepL.reads I hG l rv; exact ⟨_,.tuple e c hd (by simpa using ra)⟩
 | .dict _,_,_,r,_=>r.elim
theorem RepL.reads (I:Inv X pins σ H s) (hG:Same G H):∀ {ds:List rG} {xs:List V} {us:List rJ},RepL G ds xs->Vals xs us->∃ as,CP s.heap us ds as
 | [],_,_,r,q=>by cases (show _=_ from r); cases q; exact ⟨_,.nil⟩
 | _::_,_,_,r,q=>by
   obtain ⟨x,t,rfl,h,l⟩:=r;cases q with
   | cons q qs =>
     obtain ⟨as,r1⟩:=Rep.reads I hG h q; obtain ⟨bs,r2⟩:=RepL.reads I hG l qs; exact ⟨_,.cons r1 r2⟩
end
end
noncomputable def dEq (a b:rG):Option rG:=if min a.depth b.depth<=64 then some (.bool (rZ a b)) else none
noncomputable def dNe (a b:rG):Option rG:=if min a.depth b.depth<=64 then some (.bool (!PyData.eqv a b)) else none
def jN (neg:Bool):R2:=fun x y H Q=>∃ G a b,Same G H/\Rep G a x/\Rep G b y/\min a.depth b.depth<=64/\Q (.bl (if neg then !PyData.eqv a b else rZ a b)) H
noncomputable section
variable {X:Cx}
theorem Wg (hu:X.A.units+64 < uY):OpR X (vH .Eq) (jN false):=by
 rintro pins s σ H x y v u Q I rx ry ⟨G,a,b,hG,ra,rb,hm,q⟩;obtain ⟨as,r1⟩:=ra.reads I hG rx;obtain ⟨bs,r2⟩:=rb.reads I hG ry;exact SeqAt.compareEq_reads r1 r2 ra.lay rb.lay (by lia) ⟨.bl _,H,I,rfl,q⟩
theorem fB (hu:X.A.units+64 < uY):OpR X (vH .NotEq) (jN true):=by
 rintro pins s σ H x y v u Q I rx ry ⟨G,a,b,hG,ra,rb,hm,q⟩;obtain ⟨as,r1⟩:=ra.reads I hG rx;obtain ⟨bs,r2⟩:=rb.reads I hG ry;exact SeqAt.compareNe_reads r1 r2 ra.lay rb.lay (by lia) ⟨.bl _,H,I,rfl,q⟩
theorem Wh:OpD (jN false) dEq:=by
 intro G H x y a b d Q hG ra rb e q;unfold dEq at e;split at e
 . rename_i h; cases e; exact ⟨G,a,b,hG,ra,rb,h,q _ G H (Grow.refl hG) rfl⟩
 . cases e
theorem fC:OpD (jN true) dNe:=by
 intro G H x y a b d Q hG ra rb e q;unfold dNe at e;split at e
 . rename_i h; cases e; exact ⟨G,a,b,hG,ra,rb,h,q _ G H (Grow.refl hG) rfl⟩
 . cases e
end
noncomputable def mY (x y:Str):Bool := !(Builtin.Str.occurrences y x 0 y.length 1).isEmpty
noncomputable def dIn (neg:Bool) (a b:rG):Option rG:=match b with
 | .list ds=>if min (uC ds) a.depth<=62 then some (.bool (if neg then !ds.any fun y=>rZ y a else ds.any fun y=>rZ y a)) else none
 | .tuple ds=>if min (uC ds) a.depth<=62 then some (.bool (if neg then !ds.any fun y=>rZ y a else ds.any fun y=>rZ y a)) else none
 | .str y=>match a with
   | .str x=>some (.bool (if neg then !mY x y else mY x y))
   | _=>none
 | _=>none
def oF (neg:Bool):R2:=fun x y H Q=>∃ G a b d,Same G H/\Rep G a x/\Rep G b y/\dIn neg a b=some (.bool d)/\Q (.bl d) H
noncomputable section
variable {X:Cx}
theorem pC (hu:X.A.units+64 < uY):OpR X (vH .In) (oF false):=by
 rintro pins s σ H x y v u Q I rx ry ⟨G,a,b,d,hG,ra,rb,e,q⟩;cases b with
 | list ds =>
   replace e:(if _ then _ else _)=some _:=e;split at e
   . rename_i h
     cases e; obtain ⟨as,r1⟩:=ra.reads I hG rx; obtain ⟨bs,r2⟩:=rb.reads I hG ry; exact SeqAt.in_list_reads r2 r1 rb.lay ra.lay (by lia) ⟨.bl _,H,I,rfl,q⟩
   . cases e
 | tuple ds =>
   replace e:(if _ then _ else _)=some _:=e;split at e
   . rename_i h
     cases e; obtain ⟨as,r1⟩:=ra.reads I hG rx; obtain ⟨bs,r2⟩:=rb.reads I hG ry; exact SeqAt.in_tuple_reads r2 r1 rb.lay ra.lay (by lia) ⟨.bl _,H,I,rfl,q⟩
   . cases e
 | str z =>
   cases a with
   | str z' =>
     cases e;cases ra.1; cases rb.1;obtain ⟨t,rfl⟩:=rx; obtain ⟨t',rfl⟩:=ry; exact in_str ⟨.bl _,H,I,rfl,q⟩
   | _=>cases e
 | _=>cases e
theorem aK (hu:X.A.units+64 < uY):OpR X (vH .NotIn) (oF true):=by
 rintro pins s σ H x y v u Q I rx ry ⟨G,a,b,d,hG,ra,rb,e,q⟩;cases b with
 | list ds =>
   replace e:(if _ then _ else _)=some _:=e;split at e
   . rename_i h
     cases e; obtain ⟨as,r1⟩:=ra.reads I hG rx; obtain ⟨bs,r2⟩:=rb.reads I hG ry; exact SeqAt.notIn_list_reads r2 r1 rb.lay ra.lay (by lia) ⟨.bl _,H,I,rfl,q⟩
   . cases e
 | tuple ds =>
   replace e:(if _ then _ else _)=some _:=e;split at e
   . rename_i h
     cases e; obtain ⟨as,r1⟩:=ra.reads I hG rx; obtain ⟨bs,r2⟩:=rb.reads I hG ry; exact SeqAt.notIn_tuple_reads r2 r1 rb.lay ra.lay (by lia) ⟨.bl _,H,I,rfl,q⟩
   . cases e
 | str z =>
   cases a with
   | str z' =>
     cases e;cases ra.1; cases rb.1;obtain ⟨t,rfl⟩:=rx; obtain ⟨t',rfl⟩:=ry; exact notIn_str ⟨.bl _,H,I,rfl,q⟩
   | _=>cases e
 | _=>cases e
theorem Um {neg:Bool} {a b d:rG} (e:dIn neg a b=some d):∃ k,d=.bool k:=by
 cases b with
 | list ds=>replace e:(if _ then _ else _)=some _:=e; split at e <;> cases e; exact ⟨_,rfl⟩
 | tuple ds=>replace e:(if _ then _ else _)=some _:=e; split at e <;> cases e; exact ⟨_,rfl⟩
 | str z=>cases a with
   | str z'=>cases e; exact ⟨_,rfl⟩
   | _=>cases e
 | _=>cases e
theorem fD {neg:Bool}:OpD (oF neg) (dIn neg):=by
 intro G H x y a b d Q hG ra rb e q;obtain ⟨k,rfl⟩:=Um e;exact ⟨G,a,b,k,hG,ra,rb,e,q _ G H (Grow.refl hG) rfl⟩
end
noncomputable def C5:rG->rG->Option rG
 | .int i,.int j=>some (.int (i+j))
 | .str x,.str y=>if x.length+y.length<=sizeLine then some (.str (x++y)) else none
 | .list xs,.list ys=>if xs.length+ys.length<=sizeLine then some (.list (xs++ys)) else none
 | .tuple xs,.tuple ys=>if xs.length+ys.length<=sizeLine then some (.tuple (xs++ys)) else none
 | _,_=>none
def mQ:R2:=fun x y H Q=>∃ G a b d,Same G H/\Rep G a x/\Rep G b y/\C5 a b=some d/\∀ v G' H',Grow G H G' H'->Rep G' d v->Q v H'
theorem Bz {x y:Str} (hx:sW x=true) (hy:sW y=true):sW (x++y)=true:=by
 unfold sW at *;show (x.cps++y.cps).all _=true;rw [Array.all_append,hx,hy]; rfl
theorem Jx (x y:Str):(x++y).length=x.length+y.length:=by
 show (x.cps++y.cps).size=_;rw [Array.size_append]; rfl
noncomputable section
variable {X:Cx}
theorem Ys {pins:List (rN×Obj)} {σ:St} {H G:Hp} {s:rM} {Q:VK} {ds:List rG} {xs:List V} {its:List rJ} {t':Nat} (I:Inv X pins σ H s) (hG:Same G H) (rv:Vals xs its) (rl:RepL G ds xs) (hz:xs.length<=sizeLine)
   (q:∀ v G' H',Grow G H G' H'->Rep G' (.tuple ds) v->Q v H'):EP X pins σ Q (.ref s.heap.objs.size) { s with heap:=s.heap.push { cls:=.type "tuple",data:=.seq its.toArray },toks:=t' }:=by
 refine ⟨.ref s.heap.objs.size,_,I.laid (t':=t') (o:=.tup xs) (fun b ob q=>rW _ q) (sC _) ⟨hz,its,rv,IsTup.new _ _⟩,rfl,q _ (upd G s.heap.objs.size (.tup xs)) _ (Grow.new hG I.fresh) ⟨_,xs,rfl,B7,rl.mono (Same.upd (hG.free I.fresh))⟩⟩
theorem Qy {pins:List (rN×Obj)} {σ:St} {H G:Hp} {s:rM} {Q:VK} {ds:List rG} {xs:List V} {its:List rJ} {t':Nat} (I:Inv X pins σ H s) (hG:Same G H) (rv:Vals xs its) (rl:RepL G ds xs) (hz:xs.length<=sizeLine)
   (q:∀ v G' H',Grow G H G' H'->Rep G' (.list ds) v->Q v H'):EP X pins σ Q (.ref s.heap.objs.size) { s with heap:=s.heap.push { cls:=.type "list",data:=.seq its.toArray },toks:=t' }:=by
 refine ⟨.ref s.heap.objs.size,_,I.lnew (t':=t') rv hz,rfl,q _ (upd G s.heap.objs.size (.lst xs)) _ (Grow.new hG I.fresh) ⟨_,xs,rfl,.inl B7,rl.mono (Same.upd (hG.free I.fresh))⟩⟩
theorem kK:OpR X (o7 .Add) mQ:=by
 rintro pins s σ H x y v u Q I rx ry ⟨G,a,b,d,hG,ra,rb,e,q⟩;cases a with
 | int i=>cases b with
   | int j =>
     cases e;cases (show _=_ from ra); cases (show _=_ from rb);obtain ⟨t,rfl⟩:=rx; obtain ⟨t',rfl⟩:=ry; exact add_int ⟨.int _,H,I.tok _,⟨_,rfl⟩,q _ G H (Grow.refl hG) rfl⟩
   | _=>cases e
 | str i=>cases b with
   | str j =>
     replace e:(if _ then _ else _)=some d:=e;split at e
     . rename_i hz
       cases e; obtain ⟨e1,o1,_⟩:=ra; obtain ⟨e2,o2,_⟩:=rb;cases e1; cases e2;obtain ⟨t,rfl⟩:=rx; obtain ⟨t',rfl⟩:=ry; exact add_str (fun t' tk=>⟨.str (i++j),H,I.tok _,⟨_,rfl⟩,q _ G H (Grow.refl hG) ⟨rfl,Bz o1 o2,by rw [Jx]; exact hz⟩⟩) hz
     . cases e
   | _=>cases e
 | list xs=>cases b with
   | list ys =>
     replace e:(if _ then _ else _)=some d:=e;split at e
     . rename_i hz
       cases e; obtain ⟨l,vs,rfl,h1,l1⟩:=ra; obtain ⟨l',ws,rfl,h2,l2⟩:=rb;cases rx; cases ry;obtain ⟨z1,its1,n1,v1,e1⟩:=Al I hG h1; obtain ⟨z2,its2,n2,v2,e2⟩:=Al I hG h2; have q1:=v1.length; have q2:=v2.length; have q3:=l1.length; have q4:=l2.length; refine PySem.P.add_list e1 e2 ?_ (by rw [rX,rX]; lia);have ea:its1.toArray++its2.toArray=(its1++its2).toArray:=by simp
       rw [ea]; exact Qy (t':=s.toks) I hG (v1.append v2) (l1.append l2) (by rw [sA]; lia) q
     . cases e
   | _=>cases e
 | tuple xs=>cases b with
   | tuple ys =>
     replace e:(if _ then _ else _)=some d:=e;split at e
     . rename_i hz
       cases e; obtain ⟨l,vs,rfl,h1,l1⟩:=ra; obtain ⟨l',ws,rfl,h2,l2⟩:=rb;cases rx; cases ry;obtain ⟨z1,its1,v1,p1⟩:=Hg I hG h1; obtain ⟨z2,its2,v2,p2⟩:=Hg I hG h2; have q1:=v1.length; have q2:=v2.length; have q3:=l1.length; have q4:=l2.length;by_cases hx:its1=[]
       . subst hx
         obtain ⟨⟨cls,dd,data,sl⟩,ho,hc,n,hd⟩:=id p1; obtain ⟨⟨cls2,dd2,data2,sl2⟩,ho2,hc2,n2,hd2⟩:=id p2; simp only at hc hd hc2 hd2; subst hc hd hc2 hd2; refine concat_meets ⟨_,ho,rfl⟩ ⟨_,ho2,rfl⟩ BL seq_tuple_add i8 i3 (c8 _ _)
           (tuple_addW0 l l' _ _ n n2 dd dd2 sl sl2 (by simp)) ⟨ho,ho2,?_⟩
         have hxs:xs=[]:=by
           have:xs.length=0:=by rw [q3,q1]; rfl
           exact tK.mp this
         subst hxs; exact ⟨.ref l',H,I,rfl,q _ G H (Grow.refl hG) ⟨l',ws,rfl,h2,l2⟩⟩
       . refine HT.cat_tup p1 p2 hx (fun hy=>?_) (fun hy=>?_) (by lia)
         . subst hy
           have hys:ys=[]:=by
             have:ys.length=0:=by rw [q4,q2]; rfl
             exact tK.mp this
           subst hys; rw [uG] at q; exact ⟨.ref l,H,I,rfl,q _ G H (Grow.refl hG) ⟨l,vs,rfl,h1,l1⟩⟩
         . exact Ys (t':=s.toks) I hG (v1.append v2) (l1.append l2) (by rw [sA]; lia) q
     . cases e
   | _=>cases e
 | _=>cases e
theorem kO:OpD mQ C5:=fun G H x y a b d Q hG ra rb e q=>⟨G,a,b,d,hG,ra,rb,e,q⟩
noncomputable def V0:rG->rG->Option rG
 | .int i,.int j=>some (.int (i - j))
 | _,_=>none
noncomputable def Nv:rG->rG->Option rG
 | .int i,.int j=>if 0 < j then some (.int (i % j)) else none
 | _,_=>none
noncomputable def Ii:rG->rG->Option rG
 | .int i,.int j=>if 0 < j/\j < 1073741824 then some (.int (i / j)) else none
 | _,_=>none
theorem Qm {r:R2} {op:rG->rG->Option rG} (h:∀ a b d,op a b=some d->∃ i j k,a=.int i/\b=.int j/\d=.int k/\∀ H Q,Q (V.int k) H->r (.int i) (.int j) H Q):OpD r op:=by
 intro G H x y a b d Q hG ra rb e q;obtain ⟨i,j,k,rfl,rfl,rfl,hr⟩:=h a b d e;cases (show _=_ from ra); cases (show _=_ from rb);exact hr H Q (q _ G H (Grow.refl hG) rfl)
theorem kL:OpD (rI0 fun i j=>.int (i - j)) V0:=Qm fun a b d e=>by
 unfold V0 at e;split at e
 . cases e; exact ⟨_,_,_,rfl,rfl,rfl,fun H Q q=>⟨_,_,rfl,rfl,q⟩⟩
 . cases e
theorem kN:OpD (rI (fun _ j=>0 < j) fun i j=>.int (i % j)) Nv:=Qm fun a b d e=>by
 unfold Nv at e;split at e
 . split at e
   . rename_i h; cases e; exact ⟨_,_,_,rfl,rfl,rfl,fun H Q q=>⟨_,_,rfl,rfl,h,q⟩⟩
   . cases e
 . cases e
theorem fE:OpD (rI CDiv fun i j=>.int (i / j)) Ii:=Qm fun a b d e=>by
 unfold Ii at e;split at e
 . split at e
   . rename_i h; cases e; exact ⟨_,_,_,rfl,rfl,rfl,fun H Q q=>⟨_,_,rfl,rfl,h,q⟩⟩
   . cases e
 . cases e
end
end Sm
end
noncomputable section
namespace Sm
open PySem PySem.Spec PyProof.Rows L2
open PySem.AutoSeq1 (wpAny_loadPart')
noncomputable def P0 (n:Nat) (x:Str):Str:=⟨(sG n x.cps).foldl (· ++ ·) #[]⟩
theorem bE (l:List (Array Nat)):∀ acc:Array Nat,(l.foldl (· ++ ·) acc).toList=acc.toList++(l.map CG).flatten:=by
 induction l with
 | nil=>intro acc; simp
 | cons a l ih=>intro acc; rw [List.foldl_cons,ih]; simp
theorem V1 (n:Nat) (x:Str):(P0 n x).cps.toList=(sG n x.cps.toList).flatten:=by
 unfold P0;rw [bE]; simp
theorem Zm {x:Str} (h:sW x=true) (n:Nat):sW (P0 n x)=true:=by
 unfold sW at *;rw [<- AJ,wH] at *;rw [V1];intro c hc;obtain ⟨l,hl,hc⟩:=List.mem_flatten.mp hc;rw [List.eq_of_mem_replicate hl] at hc;exact h c hc
theorem Jy (n:Nat) (x:Str):(P0 n x).length=n*x.length:=by
 show (P0 n x).cps.size=n*x.cps.size;rw [<- yN,V1,Ym,yN]
theorem Rw (x:Str):P0 0 x=Str.empty:=rfl
theorem Vf (x:Str):P0 1 x=x:=by
 have:(P0 1 x).cps=x.cps:=by
   apply Array.toList_inj.mp;rw [V1]; simp
 cases x; cases h:P0 1 _; rw [h] at this; cases this; rfl
theorem Vg {x:Str} (n:Nat) (h:x.length=0):P0 n x=x:=by
 have hx:x.cps = #[]:=Array.size_eq_zero_iff.mp h;have:(P0 n x).cps=x.cps:=by
   apply Array.toList_inj.mp;rw [V1,hx]; simp
 cases x; cases h:P0 n _; rw [h] at this; cases this; rfl
noncomputable def P3:rG->rG->Option rG
 | .int i,.int j=>if (-(2 ^ 64) < i/\i < 2 ^ 64)\/(-(2 ^ 64) < j/\j < 2 ^ 64) then some (.int (i*j)) else none
 | .str x,.int n=>if -(2 ^ 63)<=n/\n < 2 ^ 63/\x.length*n.toNat<=sizeLine then some (.str (P0 n.toNat x)) else none
 | .list xs,.int n=>if -(2 ^ 63)<=n/\n < 2 ^ 63/\xs.length*n.toNat<=sizeLine then some (.list (sG n.toNat xs).flatten) else none
 | _,_=>none
def mO:R2:=fun x y H Q=>∃ G a b d,Same G H/\Rep G a x/\Rep G b y/\P3 a b=some d/\∀ v G' H',Grow G H G' H'->Rep G' d v->Q v H'
theorem kM:OpD mO P3:=fun G H x y a b d Q hG ra rb e q=>⟨G,a,b,d,hG,ra,rb,e,q⟩
theorem aM:fillsNumberSlot (.type "tuple") "mul" = pure false:=by
 unfold fillsNumberSlot;first | rfl | kernel_rfl | decide +kernel
theorem jK:seqRepeat? (.type "tuple")=pure (some (.builtin "tuple.__mul__")):=by
 unfold seqRepeat?;first | rfl | kernel_rfl
theorem gB (a:Int) (t:Tok) (l:rN) (items:Array rJ) (n:Nat) (dd:Option rN) (sl:Array (Option rJ)) :
   Meets (xM.«int.__rmul__» ⟨[.int a t,.ref l],[]⟩) (fun _ R s=>s.heap.get? l=some { cls:=.type "tuple",dict:=dd,data:=.seq items n,slots:=sl }/\R (.ok (.ret o8)) s) :=
 .of_wp fun prog w A R s h=>by obtain ⟨hp,g,d,tk,os⟩:=s; obtain ⟨hl,h⟩:=h; wp_walk; exact ⟨_,rfl,h⟩
theorem cE (l:rN) (items:Array rJ) (n:Nat) (x:Int) (u:Tok) (dd:Option rN) (sl:Array (Option rJ)) (h1:¬ (decide (x < -(2 ^ 63:Int))||decide (x≥2 ^ 63))=true) (h2:¬ (items.isEmpty||x==1)=true) (h3:¬ (decide (x<=0)||items.isEmpty)=true)
   (h4:¬ (items.size:Int)*x>(2 ^ 63 - 1) / 8) (h5:¬ Builtin.Tuple.tupleTooMany (items.size*x)=true) (h6:(y4 (fun x1 x2=>x1++x2) #[] (sG x.toNat items)).size<=sizeLine) :
   Meets (xM.«tuple.__mul__» ⟨[.ref l,.int x u],[]⟩) (fun _ R s=>s.heap.get? l=some { cls:=.type "tuple",dict:=dd,data:=.seq items n,slots:=sl }/\R (.ok (.ret (tW s.heap.objs.size))) { s with heap:=s.heap.push { cls:=BC "tuple",data:=Data.seq (y4 (fun x1 x2=>x1++x2) #[] (sG x.toNat items)) },toks:=s.toks }) :=
 .of_wp fun prog w A R s h=>by
   obtain ⟨hp,g,d,tk,os⟩:=s; obtain ⟨hl,h⟩:=h;have f1:=DJ
   wp_walk using vG hl
   rw [if_neg h1]
   wp_walk using vG hl
   rw [if_neg h4]
   wp_walk using vG hl
   exact ⟨_,rfl,h⟩
theorem cD (l:rN) (items:Array rJ) (n:Nat) (x:Int) (u:Tok) (dd:Option rN) (sl:Array (Option rJ)) (h1:¬ (decide (x < -(2 ^ 63:Int))||decide (x≥2 ^ 63))=true) (h2:(items.isEmpty||x==1)=true) :
   Meets (xM.«tuple.__mul__» ⟨[.ref l,.int x u],[]⟩) (fun _ R s=>s.heap.get? l=some { cls:=.type "tuple",dict:=dd,data:=.seq items n,slots:=sl }/\R (.ok (.ret (.ref l))) s) :=
 .of_wp fun prog w A R s h=>by
   obtain ⟨hp,g,d,tk,os⟩:=s; obtain ⟨hl,h⟩:=h;have f1:=DJ
   wp_walk using vG hl
   rw [if_neg h1]
   wp_walk using vG hl
   exact ⟨_,rfl,h⟩
noncomputable section
variable {X:Cx}
theorem kH:OpR X (o7 .Mult) mO:=by
 rintro pins s σ H x y v u Q I rx ry ⟨G,a,b,d,hG,ra,rb,e,q⟩;have h63:=Ch;obtain ⟨k,rfl⟩:∃ k,b=.int k:=by unfold P3 at e; split at e <;> first | exact ⟨_,rfl⟩ | cases e
 cases (show _=_ from rb);obtain ⟨t',rfl⟩:=ry;cases a with
 | int i =>
   replace e:(if _ then _ else _)=some d:=e;split at e
   . rename_i hc
     cases e;cases (show _=_ from ra);obtain ⟨t,rfl⟩:=rx; exact mul_int ⟨.int _,H,I.tok _,⟨_,rfl⟩,q _ G H (Grow.refl hG) rfl⟩ (CMul.ok hc)
   . cases e
 | str z =>
   replace e:(if _ then _ else _)=some d:=e;split at e
   . rename_i hc
     obtain ⟨hc1,hc2,hc3⟩:=hc; cases e; obtain ⟨e1,o1,l1⟩:=ra; cases e1; obtain ⟨t,rfl⟩:=rx; have fin:∀ tk,Q (.str (P0 k.toNat z)) H/\Inv X pins σ H { s with toks:=tk }:=fun tk=>⟨q _ G H (Grow.refl hG) ⟨rfl,Zm o1 _,by rw [Jy,CS]; exact hc3⟩,I.tok _⟩;refine PySem.P.mul_str (by rw [decide_eq_false (by lia),decide_eq_false (by lia)]; rfl) (fun h1 _=>?_) (fun h1 _=>?_) ?_
     . intro hgt
       have hk:(0:Int) < k:=by lia
       have h2:(2 ^ 63 - 1) / k+1<=(z.length:Int):=by lia
       have h3:(2 ^ 63 - 1:Int) < ((2 ^ 63 - 1) / k+1)*k:=Int.lt_ediv_add_one_mul_self _ hk; have h4:((2 ^ 63 - 1) / k+1)*k<=(z.length:Int)*k:=Int.mul_le_mul_of_nonneg_right h2 (by lia);have h5:(z.length:Int)*k=((z.length*k.toNat:Nat):Int):=by
         rw [Int.natCast_mul,Int.toNat_of_nonneg (by lia)]
       lia
     . unfold Builtin.Str.tooLong
       exact decide_eq_false (by lia)
     . by_cases h1:k < 1
       . rw [if_pos h1]
         have:k.toNat=0:=by lia
         rw [this,Rw] at fin; exact ⟨by decide,⟨.str _,H,(fin _).2,⟨_,rfl⟩,(fin 0).1⟩⟩
       . rw [if_neg h1]
         by_cases h2:(k==1||z.length==0)=true
         . rw [if_pos h2]
           rw [l7] at h2; have ez:P0 k.toNat z=z:=by
             rcases h2 with h2 | h2
             . have:k=1:=xI h2
               subst this; exact Vf z
             . exact Vg _ (xI h2)
           rw [ez] at fin; exact ⟨.str _,H,I,⟨_,rfl⟩,(fin 0).1⟩
         . rw [if_neg h2]
           exact ⟨by show (P0 k.toNat z).length<=_; rw [Jy,CS]; exact hc3,⟨.str _,H,(fin _).2,⟨_,rfl⟩,(fin 0).1⟩⟩
   . cases e
 | list xs =>
   replace e:(if _ then _ else _)=some d:=e;split at e
   . rename_i hc
     obtain ⟨hc1,hc2,hc3⟩:=hc; cases e; obtain ⟨l,vs,rfl,h1,l1⟩:=ra; cases rx; have q3:=l1.length; obtain ⟨z,its,n,r,e⟩:=Al I hG h1; have hl:=r.length; have hlen:its.toArray.size*k.toNat<=sizeLine:=by rw [rX,<- hl,<- q3]; exact hc3
     have hcap:¬ its.toArray.size*k.toNat>(2 ^ 63 - 1) / 8:=by
       have:(sizeLine:Nat)<=(2 ^ 63 - 1) / 8:=by decide
       lia
     have hfit:¬ (!Builtin.List.listFitsIndex k)=true:=by
       rw [fitsIndex_both hc1 hc2]; exact vB
     have hlong:¬ yC (its.toArray.size*k.toNat)=true:=by
       rw [Tf hlen]; exact vB
     have hnew:y4 (fun x1 x2=>x1++x2) #[] (sG (if its.toArray.isEmpty=true then 0 else k.toNat) its.toArray)=(sG k.toNat its).flatten.toArray:=by
       have f0:∀ m:Nat,y4 (fun x1 x2=>x1++x2) #[] (sG m its.toArray)=(sG m its).flatten.toArray:=fun m=>by
         have:=bD its m []; rw [tM] at this; exact this
       rw [f0];cases its with
       | nil=>simp
       | cons a r'=>rw [if_neg (by simp)]
     refine wpAny_binaryOp_repeat_ref (T := "list") (U := "int") (by decide) ⟨_,e,rfl⟩ (fun s'=>typeIs_int s' k t') noFill_list_mul F.fills_int_mul F.slot_int_rmul repeat_list F.slot_int_index.lookup
       (AR F.slot_int_rmul (typeIs_int s k t') F.entry_int_rmul (F.args_int_rmul_2 _ _) (int___rmul___int_list k t' l its.toArray n)
         ⟨e,rfl,⟨_,e,rfl⟩,AR F.slot_list_mul ⟨_,e,rfl⟩ F.entry_list_mul (F.args_list_mul_2 _ _) (AutoListH.list___mul___list_int_3 l its.toArray n k t' hfit hcap hlong) ⟨e,?_⟩⟩)
     rw [hnew]; exact Qy (t':=s.toks) I hG (r.rep k.toNat) (l1.rep k.toNat) (by rw [Ym,CS,<- q3]; exact hc3) q
   . cases e
 | _=>cases e
end
end Sm
end
noncomputable section
namespace Sm
open PySem PySem.Spec PyProof.Rows L2
open PySem.AutoSeq1 (wpAny_loadPart')
open PySem.MeetsSeq PySem.MeetsSeq2 PySem.MeetsSeq3
noncomputable def aY:wP->Int->Int->Bool
 | .Lt,i,j=>decide (i < j)
 | .LtE,i,j=>decide (i<=j)
 | .Gt,i,j=>decide (j < i)
 | _,i,j=>decide (j<=i)
noncomputable def Vt:wP->Str->Str->Bool
 | .Lt,x,y=>decide (x.cps.toList < y.cps.toList)
 | .LtE,x,y => !decide (y.cps.toList < x.cps.toList)
 | .Gt,x,y=>decide (y.cps.toList < x.cps.toList)
 | _,x,y => !decide (x.cps.toList < y.cps.toList)
noncomputable def Ux:wP->Nat->Nat->Bool
 | .Lt,m,n=>decide (m < n)
 | .LtE,m,n=>decide (m<=n)
 | .Gt,m,n=>decide (m>n)
 | _,m,n=>decide (m≥n)
noncomputable def mT:wP->Bool
 | .Lt=>true | .LtE=>true | .Gt=>true | .GtE=>true | _=>false
mutual
noncomputable def Nw (op:wP):rG->rG->Option Bool
 | .int i,.int j=>some (aY op i j)
 | .str x,.str y=>some (Vt op x y)
 | .tuple xs,.tuple ys=>Eg op xs ys
 | _,_=>none
noncomputable def Eg (op:wP):List rG->List rG->Option Bool
 | [],ys=>some (Ux op 0 ys.length)
 | x::xs,[]=>some (Ux op (xs.length+1) 0)
 | x::xs,y::ys=>if rZ x y=true then Eg op xs ys else Nw op x y
end
def iD (op:wP) (A:tY) (s:rM) (u v:rJ) (k:Bool):Prop:=∀ (prog:sE) (w:sT) (E:rJ->rM->Prop) (Q:rJ->rM->Prop),Q (.bool k) s->wpAny (sM prog w) A (richCompare op u v) Q E s
theorem oC {op:wP} (h:mT op=true) (A:tY) (s:rM) (i j:Int) (t u:Tok):iD op A s (.int i t) (.int j u) (aY op i j):=fun prog w E Q q=>by
 cases op with
 | Lt=>exact (lt_int q:wpAny (sM prog w) A (vH .Lt (.int i t) (.int j u)) Q E s)
 | LtE=>exact (le_int q:wpAny (sM prog w) A (vH .LtE (.int i t) (.int j u)) Q E s)
 | Gt=>exact (gt_int q:wpAny (sM prog w) A (vH .Gt (.int i t) (.int j u)) Q E s)
 | GtE=>exact (ge_int q:wpAny (sM prog w) A (vH .GtE (.int i t) (.int j u)) Q E s)
 | _=>cases h
theorem oB {op:wP} (h:mT op=true) (A:tY) (s:rM) (x y:Str) (t u:Tok):iD op A s (.str x t) (.str y u) (Vt op x y):=fun prog w E Q q=>by
 cases op with
 | Lt=>exact (PySem.P.lt_str q:wpAny (sM prog w) A (vH .Lt (.str x t) (.str y u)) Q E s)
 | LtE=>exact (PySem.P.le_str (by simpa [Vt] using q):wpAny (sM prog w) A (vH .LtE (.str x t) (.str y u)) Q E s)
 | Gt=>exact (PySem.P.gt_str q:wpAny (sM prog w) A (vH .Gt (.str x t) (.str y u)) Q E s)
 | GtE=>exact (PySem.P.ge_str (by simpa [Vt] using q):wpAny (sM prog w) A (vH .GtE (.str x t) (.str y u)) Q E s)
 | _=>cases h
def Ar (op:wP) (A:tY) (s:rM) (vs ws:List rJ) (ds es:List rG):Prop :=
 ∀ (i:Nat) (v w:rJ) (d e:rG),vs[i]? = some v->ws[i]? = some w->ds[i]? = some d->es[i]? = some e->SeqAt.EqAt A s v w (rZ d e)/\∀ k,Nw op d e=some k->iD op A s v w k
theorem Mx (l b:rN) (items items2:Array rJ) (n n2:Nat) (dd dd2:Option rN) (sl sl2:Array (Option rJ)) (ds es:List rG) (k:Bool) (hz1:items.toList.length=ds.length) (hz2:items2.toList.length=es.length) (hk:Eg .Lt ds es=some k) :
   Meets (xM.«tuple.__lt__» ⟨[.ref l,.ref b],[]⟩)
     (fun A R s=>s.heap.get? l=some { cls:=.type "tuple",dict:=dd,data:=.seq items n,slots:=sl }/\s.heap.get? b=some { cls:=.type "tuple",dict:=dd2,data:=.seq items2 n2,slots:=sl2 } /\
       Ar .Lt A.in1 s items.toList items2.toList ds es/\R (.ok (.ret (.bool k))) s) :=
 .of_wp fun prog w A R s h=>by
   obtain ⟨hp,g,d,tk,os⟩:=s; obtain ⟨hl,hb,hI,h⟩:=h;have f2:=AY; have z1:items.size=ds.length:=by rw [<- hz1]; simp
   have z2:items2.size=es.length:=by rw [<- hz2]; simp
   wp_walk using vG hl,vG hb,yV _ (fun M9 b s'=>b.1=none/\s'=⟨hp,g,d,tk,os⟩/\∃ (vs ws:List rJ) (ds' es':List rG),M9=vs.zip ws /\
     vs.length=ds'.length/\ws.length=es'.length/\ds'.length+items2.size=es'.length+items.size/\Ar .Lt A.in1 ⟨hp,g,d,tk,os⟩ vs ws ds' es'/\Eg .Lt ds' es'=some k) _
   case turn =>
     rintro ⟨y,x⟩ M9 b s' ⟨hb',rfl,vs,ws,ds',es',hz,hv,hw,hlen,hI',hR⟩;cases vs with
     | nil=>rw [List.zip_nil_left] at hz; cases hz
     | cons v0 vs =>
       cases ws with
       | nil=>rw [List.zip_nil_right] at hz; cases hz
       | cons w0 ws =>
         cases ds' with
         | nil=>simp at hv
         | cons d0 ds' =>
           cases es' with
           | nil=>simp at hw
           | cons e0 es' =>
             rw [c7] at hz;injection hz with hyx hrest
             injection hyx with hy hx
             subst hy hx; simp only [sD] at hlen hv hw; obtain ⟨he,hc⟩:=hI' 0 y x d0 e0 rfl rfl rfl rfl; have hI2:Ar .Lt A.in1 ⟨hp,g,d,tk,os⟩ vs ws ds' es':=fun i v w d e h1 h2 h3 h4=>hI' (i+1) v w d e (by simpa using h1) (by simpa using h2) (by simpa using h3) (by simpa using h4);rw [Eg] at hR; refine rH (he prog w _ _ ?_);cases q:rZ d0 e0 with
             | true =>
               rw [q,if_pos rfl] at hR
               wp_walk
               exact ⟨rfl,rfl,_,_,_,_,hrest,by lia,by lia,by lia,hI2,hR⟩
             | false =>
               rw [q,if_neg (by decide)] at hR; have hri:=hc k hR prog w
               wp_walk using hri
               exact ⟨_,rfl,by simpa using h⟩
   case fin =>
     rintro ⟨b1,b2⟩ s' ⟨hb',rfl,vs,ws,ds',es',hz,hv,hw,hlen,hI',hR⟩;simp only at hb'; subst hb'; have hv':k=decide (items.size < items2.size):=by
       cases ds' with
       | nil =>
         rw [Eg] at hR; have:=sZ hR; rw [<- this]; simp only [uS] at hlen; simp only [Ux]; exact decide_eq_decide.mpr (by lia)
       | cons d0 ds' =>
         cases es' with
         | nil =>
           rw [Eg] at hR; have:=sZ hR; rw [<- this]; simp only [uS,sD] at hlen; simp only [Ux]; exact decide_eq_decide.mpr (by lia)
         | cons e0 es' =>
           cases vs with
           | nil=>simp at hv
           | cons v0 vs =>
             cases ws with
             | nil=>simp at hw
             | cons w0 ws=>rw [c7] at hz; cases hz
     rw [hv'] at h
     wp_walk
     exact ⟨_,rfl,by simpa [o0] using h⟩
   case h =>
     exact ⟨rfl,rfl,items.toList,items2.toList,ds,es,rfl,hz1,hz2,by lia,hI,hk⟩
theorem My (l b:rN) (items items2:Array rJ) (n n2:Nat) (dd dd2:Option rN) (sl sl2:Array (Option rJ)) (ds es:List rG) (k:Bool) (hz1:items.toList.length=ds.length) (hz2:items2.toList.length=es.length) (hk:Eg .LtE ds es=some k) :
   Meets (xM.«tuple.__le__» ⟨[.ref l,.ref b],[]⟩)
     (fun A R s=>s.heap.get? l=some { cls:=.type "tuple",dict:=dd,data:=.seq items n,slots:=sl }/\s.heap.get? b=some { cls:=.type "tuple",dict:=dd2,data:=.seq items2 n2,slots:=sl2 } /\
       Ar .LtE A.in1 s items.toList items2.toList ds es/\R (.ok (.ret (.bool k))) s) :=
 .of_wp fun prog w A R s h=>by
   obtain ⟨hp,g,d,tk,os⟩:=s; obtain ⟨hl,hb,hI,h⟩:=h;have f2:=AY; have z1:items.size=ds.length:=by rw [<- hz1]; simp
   have z2:items2.size=es.length:=by rw [<- hz2]; simp
   wp_walk using vG hl,vG hb,yV _ (fun M9 b s'=>b.1=none/\s'=⟨hp,g,d,tk,os⟩/\∃ (vs ws:List rJ) (ds' es':List rG),M9=vs.zip ws /\
     vs.length=ds'.length/\ws.length=es'.length/\ds'.length+items2.size=es'.length+items.size/\Ar .LtE A.in1 ⟨hp,g,d,tk,os⟩ vs ws ds' es'/\Eg .LtE ds' es'=some k) _
   case turn =>
     rintro ⟨y,x⟩ M9 b s' ⟨hb',rfl,vs,ws,ds',es',hz,hv,hw,hlen,hI',hR⟩;cases vs with
     | nil=>rw [List.zip_nil_left] at hz; cases hz
     | cons v0 vs =>
       cases ws with
       | nil=>rw [List.zip_nil_right] at hz; cases hz
       | cons w0 ws =>
         cases ds' with
         | nil=>simp at hv
         | cons d0 ds' =>
           cases es' with
           | nil=>simp at hw
           | cons e0 es' =>
             rw [c7] at hz;injection hz with hyx hrest
             injection hyx with hy hx
             subst hy hx; simp only [sD] at hlen hv hw; obtain ⟨he,hc⟩:=hI' 0 y x d0 e0 rfl rfl rfl rfl; have hI2:Ar .LtE A.in1 ⟨hp,g,d,tk,os⟩ vs ws ds' es':=fun i v w d e h1 h2 h3 h4=>hI' (i+1) v w d e (by simpa using h1) (by simpa using h2) (by simpa using h3) (by simpa using h4);rw [Eg] at hR; refine rH (he prog w _ _ ?_);cases q:rZ d0 e0 with
             | true =>
               rw [q,if_pos rfl] at hR
               wp_walk
               exact ⟨rfl,rfl,_,_,_,_,hrest,by lia,by lia,by lia,hI2,hR⟩
             | false =>
               rw [q,if_neg (by decide)] at hR; have hri:=hc k hR prog w
               wp_walk using hri
               exact ⟨_,rfl,by simpa using h⟩
   case fin =>
     rintro ⟨b1,b2⟩ s' ⟨hb',rfl,vs,ws,ds',es',hz,hv,hw,hlen,hI',hR⟩;simp only at hb'; subst hb'; have hv':k=decide (items.size<=items2.size):=by
       cases ds' with
       | nil =>
         rw [Eg] at hR; have:=sZ hR; rw [<- this]; simp only [uS] at hlen; simp only [Ux]; exact decide_eq_decide.mpr (by lia)
       | cons d0 ds' =>
         cases es' with
         | nil =>
           rw [Eg] at hR; have:=sZ hR; rw [<- this]; simp only [uS,sD] at hlen; simp only [Ux]; exact decide_eq_decide.mpr (by lia)
         | cons e0 es' =>
           cases vs with
           | nil=>simp at hv
           | cons v0 vs =>
             cases ws with
             | nil=>simp at hw
             | cons w0 ws=>rw [c7] at hz; cases hz
     rw [hv'] at h
     wp_walk
     exact ⟨_,rfl,by simpa [o0] using h⟩
   case h =>
     exact ⟨rfl,rfl,items.toList,items2.toList,ds,es,rfl,hz1,hz2,by lia,hI,hk⟩
theorem eD {op:wP} (ho:op=.Lt\/op=.LtE) {A:tY} {s:rM} {l b:rN} {items items2:Array rJ} {ds es:List rG} {k:Bool} (hl:w6 s.heap l items) (hb:w6 s.heap b items2) (hz1:items.toList.length=ds.length) (hz2:items2.toList.length=es.length)
   (hI:Ar op A.in1 s items.toList items2.toList ds es) (hk:Eg op ds es=some k) (hu:A.units < uY):iD op A s (.ref l) (.ref b) k:=fun prog w E Q q=>by
 obtain ⟨⟨cls,dd,data,sl⟩,ho1,hc,n,hd⟩:=id hl;obtain ⟨⟨cls2,dd2,data2,sl2⟩,ho2,hc2,n2,hd2⟩:=id hb;simp only at hc hd hc2 hd2;subst hc hd hc2 hd2;rcases ho with rfl | rfl
 . exact richCompare_meets_room (op := .Lt) ⟨_, ho1, rfl⟩ ⟨_, ho2, rfl⟩ PySem.F.slot_tuple_lt PySem.F.entry_tuple_lt (PySem.F.args_tuple_lt_2 _ _) (Mx l b items items2 n n2 dd dd2 sl sl2 ds es k hz1 hz2 hk)
     ⟨ho1,ho2,hI,show j4 k≠o8/\Q (.bool k) s from ⟨(fun x=>nomatch x),q⟩⟩ hu
 . exact richCompare_meets_room (op := .LtE) ⟨_, ho1, rfl⟩ ⟨_, ho2, rfl⟩ PySem.F.slot_tuple_le PySem.F.entry_tuple_le (PySem.F.args_tuple_le_2 _ _) (My l b items items2 n n2 dd dd2 sl sl2 ds es k hz1 hz2 hk)
     ⟨ho1,ho2,hI,show j4 k≠o8/\Q (.bool k) s from ⟨(fun x=>nomatch x),q⟩⟩ hu
theorem qX {op:wP} {i:Int} {b:rG} {k:Bool} (e:Nw op (.int i) b=some k):∃ j,b=.int j/\k=aY op i j:=by cases b <;> cases e; exact ⟨_,rfl,rfl⟩
theorem qW {op:wP} {i:Str} {b:rG} {k:Bool} (e:Nw op (.str i) b=some k):∃ j,b=.str j/\k=Vt op i j:=by cases b <;> cases e; exact ⟨_,rfl,rfl⟩
theorem qV {op:wP} {i:List rG} {b:rG} {k:Bool} (e:Nw op (.tuple i) b=some k):∃ j,b=.tuple j/\Eg op i j=some k:=by cases b with | tuple j=>exact ⟨j,rfl,e⟩ | _=>cases e
noncomputable def ordB:rG->Bool
 | .int _=>true | .str _=>true | .tuple _=>true | _=>false
theorem Rf {op:wP} {a b:rG} {k:Bool} (h:ordB a=false) (e:Nw op a b=some k):False:=by cases a <;> first | (cases h; done) | cases e
mutual
theorem Xt {op:wP} (ho:op=.Lt\/op=.LtE):∀ (a b:rG) (A:tY) (s:rM) (u v:rJ) (as bs:List rN) (k:Bool),Reads s.heap u a as->Reads s.heap v b bs->a.canLay0=true->b.canLay0=true->A.units+a.depth < uY->Nw op a b=some k->iD op A s u v k
 | .int i,b,A,s,_,_,_,_,k,ra,rb,_,_,_,e=>by
   obtain ⟨j,rfl,rfl⟩:=qX e;cases ra; cases rb; exact oC (by rcases ho with rfl | rfl <;> rfl) A s i j _ _
 | .str x,b,A,s,_,_,_,_,k,ra,rb,_,_,_,e=>by
   obtain ⟨j,rfl,rfl⟩:=qW e;cases ra; cases rb; exact oB (by rcases ho with rfl | rfl <;> rfl) A s x j _ _
 | .tuple xs,b,A,s,_,_,_,_,k,ra,rb,ha,hb,hu,e=>by
   obtain ⟨ys,rfl,e⟩:=qV e;cases ra with
   | tuple h1 h2 h3 h4 =>
     cases rb with
     | tuple k1 k2 k3 k4 =>
       have hu':A.units+(uC xs+1) < uY:=hu; refine eD ho ⟨_,h1,h2,_,h3⟩ ⟨_,k1,k2,_,k3⟩ (AE _ _ _ h4) (AE _ _ _ k4) ?_ e (by lia);exact Sq ho xs ys A.in1 s _ _ _ _ h4 k4 ha hb (by show A.units+1+_ < _; lia)
 | .none,b,_,_,_,_,_,_,_,_,_,_,_,_,e=>(Rf (a:=.none) rfl e).elim
 | .bool c,b,_,_,_,_,_,_,_,_,_,_,_,_,e=>(Rf (a:=.bool c) rfl e).elim
 | .list c,b,_,_,_,_,_,_,_,_,_,_,_,_,e=>(Rf (a:=.list c) rfl e).elim
 | .dict c,b,_,_,_,_,_,_,_,_,_,_,_,_,e=>(Rf (a:=.dict c) rfl e).elim
theorem Sq {op:wP} (ho:op=.Lt\/op=.LtE):∀ (xs ys:List rG) (A:tY) (s:rM) (vs ws:List rJ) (as bs:List rN),CP s.heap vs xs as->CP s.heap ws ys bs->wL xs=true->wL ys=true->A.units+uC xs < uY->Ar op A s vs ws xs ys
 | [],_,_,_,_,_,_,_,_,_,_,_,_=>fun i v w d e h1 h2 h3 h4=>by simp at h3
 | _::_,[],_,_,_,_,_,_,_,_,_,_,_=>fun i v w d e h1 h2 h3 h4=>by simp at h4
 | x::xs,y::ys,A,s,_,_,_,_,ra,rb,ha,hb,hu=>by
   have ha':x.canLay0=true/\wL xs=true:=by simpa [wL] using ha
   have hb':y.canLay0=true/\wL ys=true:=by simpa [wL] using hb
   have hu':A.units+max x.depth (uC xs) < uY:=hu;cases ra with
   | cons r1 r2 =>
     cases rb with
     | cons q1 q2 =>
       intro i v w d e h1 h2 h3 h4;cases i with
       | zero =>
         simp at h1 h2 h3 h4;subst h1 h2 h3 h4; exact ⟨SeqAt.eqAt_reads _ _ _ _ _ _ _ _ r1 q1 ha'.1 hb'.1 (by lia),fun k hk=>Xt ho _ _ A s _ _ _ _ k r1 q1 ha'.1 hb'.1 (by lia) hk⟩
       | succ i=>exact Sq ho xs ys A s _ _ _ _ r2 q2 ha'.2 hb'.2 (by lia) i v w d e (by simpa using h1) (by simpa using h2) (by simpa using h3) (by simpa using h4)
end
noncomputable def U2 (op:wP) (a b:rG):Option rG:=if a.depth<=60 then (Nw op a b).map .bool else none
def mP (op:wP):R2:=fun x y H Q=>∃ G a b k,Same G H/\Rep G a x/\Rep G b y/\a.depth<=60/\Nw op a b=some k/\Q (.bl k) H
noncomputable section
variable {X:Cx}
theorem Yi {op:wP} (ho:op=.Lt\/op=.LtE) (hu:X.A.units+64 < uY):OpR X (vH op) (mP op):=by
 rintro pins s σ H x y v u Q I rx ry ⟨G,a,b,k,hG,ra,rb,hd,e,q⟩;obtain ⟨as,r1⟩:=ra.reads I hG rx;obtain ⟨bs,r2⟩:=rb.reads I hG ry;have:=Xt ho a b X.A s v u as bs k r1 r2 ra.lay rb.lay (by lia) e X.prog X.w X.xe (EP X pins σ Q) ⟨.bl k,H,I,rfl,q⟩;rcases ho with rfl | rfl
 . exact this
 . exact this
theorem kJ {op:wP} (ho:op=.Gt\/op=.GtE):OpR X (vH op) (fun x y H Q=>∃ i j,x=.int i/\y=.int j/\Q (.bl (aY op i j)) H):=by
 rintro pins s σ H x y v u Q I rx ry ⟨i,j,e1,e2,q⟩;subst e1 e2;obtain ⟨t,rfl⟩:=rx;obtain ⟨t',rfl⟩:=ry;rcases ho with rfl | rfl
 . exact gt_int ⟨.bl _,H,I,rfl,q⟩
 . exact ge_int ⟨.bl _,H,I,rfl,q⟩
theorem Yj {op:wP}:OpD (mP op) (U2 op):=by
 intro G H x y a b d Q hG ra rb e q;unfold U2 at e;split at e
 . rename_i h
   cases e1:Nw op a b with
   | none=>rw [e1] at e; cases e
   | some k=>rw [e1] at e; cases e; exact ⟨G,a,b,k,hG,ra,rb,h,e1,q _ G H (Grow.refl hG) rfl⟩
 . cases e
noncomputable def Et (op:wP):rG->rG->Option rG
 | .int i,.int j=>some (.bool (aY op i j))
 | _,_=>none
theorem fF {op:wP}:OpD (fun x y H Q=>∃ i j,x=.int i/\y=.int j/\Q (.bl (aY op i j)) H) (Et op):=by
 intro G H x y a b d Q hG ra rb e q;cases a with
 | int i=>cases b with
   | int j=>cases e; cases (show _=_ from ra); cases (show _=_ from rb); exact ⟨i,j,rfl,rfl,q _ G H (Grow.refl hG) rfl⟩
   | _=>cases e
 | _=>cases e
end
end Sm
end
noncomputable section
namespace Sm
open PySem PySem.Spec PyProof.Rows L2
theorem Res.bind_assoc {α β γ:Type} (r:Res α) (f:α->Res β) (g:β->Res γ):(r.bind f).bind g=r.bind fun x=>(f x).bind g:=by cases r <;> rfl
structure Cxt (P:sE) (w:sT) (K:rK) (mg:Str->Option rJ) (base:tL) (X:Cx) (N:List Str) (sc:Scope) (k:Nat) (df:Bool):Prop where
 hP:X.prog=P
 hw:X.w=w
 hK:X.K=K
 hmg:X.mg=mg
 hb:X.base=base
 hN:X.N=N
 hs:X.env.scope=sc
 calm:X.calm=true
 room:Room k X.A
 fn:df=true->∀ x,X.fn x=true
 own:PassesOwn (sM X.prog X.w) X.A X.env X.xe
def Ee (scope sc:Scope):Scope :=
 { scope with names:=scope.names.map fun (n,k)=>if (k==.free&&sc.kind==.function&&sc.names.lookup n==some .cell) then (n,.cell) else (n,k) }
theorem Xs {X:Cx} {scope sc:Scope} (h:X.env.scope=sc):wM scope X.env=Ee scope sc:=by subst h; rfl
noncomputable section
variable {P:sE} {w:sT} {K:rK} {mg:Str->Option rJ} {base:tL} {X:Cx} {N:List Str} {sc:Scope} {k:Nat} {df:Bool} {E:EK} {pos:Pos}
theorem Cxt.blk (C:Cxt P w K mg base X N sc k df) {X':Cx} {N':List Str} {scope:Scope} (B:Blk X X' N' (wM scope X.env)):Cxt P w K mg base X' N' (Ee scope sc) k false :=
 ⟨B.prog.trans C.hP,B.w.trans C.hw,B.K.trans C.hK,B.mg.trans C.hmg,B.base.trans C.hb,B.N,B.sc.trans (Xs C.hs),B.calm.trans C.calm,by rw [B.A]; exact C.room,(fun h=>by cases h),by rw [B.xe]; exact uN⟩
theorem Cxt.hu (C:Cxt P w K mg base X N sc k df):X.A.units+64 < uY:=C.room.units
noncomputable def okVar (N:List Str) (sc:Scope) (i:Nat) (x:Str):Bool :=
 (N[i]? == some x)&&(match sc.names.lookup x with | some .local=>true | some .cell=>true | some .free=>true | _=>false) && !(x==("__debug__" : Str)) && !(x==("__classdict__" : Str))
theorem A9 (C:Cxt P w K mg base X N sc k df) (i:Nat) {x:Str} (h:okVar N sc i x=true):DE X E (.Name x pos) (A7 i):=by
 unfold okVar at h;simp only [sU,zD] at h;obtain ⟨⟨⟨h1,h2⟩,h3⟩,h4⟩:=h;refine qT (by rw [C.hN]; exact xI h1) ?_ h3 h4;rw [C.hs];unfold Vis;cases q:sc.names.lookup x with
 | none=>rw [q] at h2; cases h2
 | some z =>
   rw [q] at h2;cases z with
   | «local» => exact .inl rfl
   | cell=>exact .inr (.inl rfl)
   | free=>exact .inr (.inr rfl)
   | _=>cases h2
noncomputable def okGl (sc:Scope) (x:Str):Bool:=(sc.names.lookup x==some .globalImplicit) && !(x==("__debug__" : Str)) && !(x==("__name__" : Str))
theorem okGl.gl (C:Cxt P w K mg base X N sc k df) {x:Str} (h:okGl sc x=true):Gl X x/\(x==("__debug__" : Str))=false/\x ≠ "__name__" := by
 unfold okGl at h;simp only [sU,zD] at h;obtain ⟨⟨h1,h2⟩,h3⟩:=h;refine ⟨?_,h2,by simpa using h3⟩;unfold Gl;show X.env.scope.names.lookup x=_;rw [C.hs]; exact xI h1
variable {a b c:Expr} {f g f':Dn->Res rG}
theorem D4 (ha:DE X E a f) (hb:DE X E b g):DE X E (.BinOp a .Add b pos) (b2 f g C5):=Ul kK kO ha hb
theorem Er (ha:DE X E a f) (hb:DE X E b g):DE X E (.BinOp a .Sub b pos) (b2 f g V0):=Ul pA kL ha hb
theorem Cs (ha:DE X E a f) (hb:DE X E b g):DE X E (.BinOp a .Mult b pos) (b2 f g P3):=Ul kH kM ha hb
theorem Pa (ha:DE X E a f) (hb:DE X E b g):DE X E (.BinOp a .Mod b pos) (b2 f g Nv):=Ul pB kN ha hb
theorem Rb (ha:DE X E a f) (hb:DE X E b g):DE X E (.BinOp a .FloorDiv b pos) (b2 f g Ii):=Ul kI fE ha hb
theorem d_eq (C:Cxt P w K mg base X N sc k df) (ha:DE X E a f) (hb:DE X E b g):DE X E (.Compare a [.Eq] [b] pos) (b2 f g dEq):=d_cmp (Wg C.hu) Wh ha hb (Dl _)
noncomputable def vChain (f g f':Dn->Res rG) (op op':rG->rG->Option rG):Dn->Res rG:=fun δ=>(f δ).bind fun x=>(g δ).bind fun y=>(ofO (op x y)).bind fun z=>match z with
 | .bool true=>(f' δ).bind fun u=>ofO (op' y u)
 | .bool false=>.ok (.bool false)
 | _=>.no
noncomputable def Ci:rG->Bool
 | .none=>true
 | _=>false
noncomputable def b1 (f:Dn->Res rG) (op:rG->Option rG):Dn->Res rG:=fun δ=>(f δ).bind fun x=>ofO (op x)
theorem Rep.non {G:Hp} {d:rG} {v:V} (r:Rep G d v):decide (v=.non)=Ci d:=by
 cases d with
 | none=>cases (show _=_ from r); rfl
 | bool _=>cases (show _=_ from r); rfl
 | int _=>cases (show _=_ from r); rfl
 | str _=>cases r.1; rfl
 | list _=>obtain ⟨a,xs,rfl,_⟩:=r; rfl
 | tuple _=>obtain ⟨a,xs,rfl,_⟩:=r; rfl
 | dict _=>exact (show False from r).elim
noncomputable def Ir:rG->Option rG
 | .int i=>some (.int (-i))
 | _=>none
theorem Uj (ha:DE X E a f):DE X E (.UnaryOp .USub a pos) (b1 f Ir):=by
 refine PE.imp (pe_un nG ha) fun σ H Q hZ3=>?_;obtain ⟨G,δ,S,aft⟩:=hZ3;refine P9 S aft fun d1 v1 G1 H1 g1 r1 S1 a1=>?_;cases d1 with
 | int i=>cases (show _=_ from r1); exact ⟨i,rfl,a1 _ G1 H1 (Grow.refl S1.sub) rfl⟩
 | _=>exact (show False from a1).elim
noncomputable def bY (f g:Dn->Res rG):Dn->Res rG:=fun δ=>(f δ).bind fun x=>match x with
 | .bool true=>g δ
 | .bool false=>.ok (.bool false)
 | _=>.no
variable {M9:List Expr}
theorem d_one {op:BoolOp} (ha:DE X E a f):DE X E (.BoolOp op [a] pos) f:=eR ha
theorem d_and (ha:DE X E a f) (hb:DE X E (.BoolOp .And (b::M9) pos) g):DE X E (.BoolOp .And (a::b::M9) pos) (bY f g):=by
 refine PE.imp (eZ ha hb) fun σ H Q hZ3=>?_;obtain ⟨G,δ,S,aft⟩:=hZ3;refine P9 S aft fun d1 v1 G1 H1 g1 r1 S1 a1=>?_;cases d1 with
 | bool kk =>
   refine ⟨kk,r1,?_⟩;cases kk with
   | true=>rw [if_pos rfl]; exact ⟨G1,δ,S1,a1⟩
   | false=>rw [if_neg (by decide)]; exact a1 _ G1 H1 (Grow.refl S1.sub) rfl
 | _=>exact (show False from a1).elim
def AftT (E:EK) (G H:Hp) (r:Res Bool) (Q:Bool->Hp->Prop):Prop:=match r with
 | .ok d=>∀ G' H',Grow G H G' H'->Q d H'
 | .exc c=>∀ G' H',Grow G H G' H'->E c H'
 | .no=>False
def tT (E:EK) (f:Dn->Res Bool):TT:=fun σ H Q=>∃ G δ,SR G H σ δ/\AftT E G H (f δ) Q
abbrev DT (X:Cx) (E:EK) (e:Expr) (f:Dn->Res Bool):Prop:=PT X e (tT E f)
abbrev DW (X:Cx) (E:EK) (e:Expr) (f:Dn->Res Bool):Prop:=PW X e (tT E f)
theorem AftT.grow {E:EK} {G H G' H':Hp} {r:Res Bool} {Q:Bool->Hp->Prop} (g:Grow G H G' H') (a:AftT E G H r Q):AftT E G' H' r Q:=by
 cases r with
 | ok d=>exact fun G2 H2 g2=>a G2 H2 (g.trans g2)
 | exc c=>exact fun G2 H2 g2=>a G2 H2 (g.trans g2)
 | no=>exact a
theorem PT.imp {X:Cx} {e:Expr} {t t':TT} (h:PT X e t) (i:∀ σ H Q,t' σ H Q->t σ H Q):PT X e t':=fun pins s σ H Q I q=>h pins s σ H Q I (i _ _ _ q)
theorem PW.imp {X:Cx} {e:Expr} {t t':TT} (h:PW X e t) (i:∀ σ H Q,t' σ H Q->t σ H Q):PW X e t':=fun wh pins s σ H Q I q=>h wh pins s σ H Q I (i _ _ _ q)
theorem Ec {E:EK} {G H:Hp} {σ:St} {δ:Dn} {f:Dn->Res rG} {k:rG->Res Bool} {Q:Bool->Hp->Prop} {R:VK} (S:SR G H σ δ) (a:AftT E G H ((f δ).bind k) Q)
   (h:∀ d v G1 H1,Grow G H G1 H1->Rep G1 d v->SR G1 H1 σ δ->AftT E G1 H1 (k d) Q->R v H1):tD E f σ H R:=by
 refine ⟨G,δ,S,?_⟩;cases e:f δ with
 | ok d =>
   rw [e] at a; exact fun v G' H' g r=>h d v G' H' g r (S.grow g) (AftT.grow g a)
 | exc c=>rw [e] at a; exact a
 | no=>rw [e] at a; exact a
theorem Xf {E:EK} {G H:Hp} {σ:St} {δ:Dn} {f:Dn->Res Bool} {k:Bool->Res Bool} {Q R:Bool->Hp->Prop} (S:SR G H σ δ) (a:AftT E G H ((f δ).bind k) Q)
   (h:∀ d G1 H1,Grow G H G1 H1->SR G1 H1 σ δ->AftT E G1 H1 (k d) Q->R d H1):tT E f σ H R:=by
 refine ⟨G,δ,S,?_⟩;cases e:f δ with
 | ok d =>
   rw [e] at a; exact fun G' H' g=>h d G' H' g (S.grow g) (AftT.grow g a)
 | exc c=>rw [e] at a; exact a
 | no=>rw [e] at a; exact a
theorem Xg {E:EK} {G H:Hp} {σ:St} {δ:Dn} {f:Dn->Res Bool} {k:Bool->Res rG} {Q:VK} {R:Bool->Hp->Prop} (S:SR G H σ δ) (a:Aft E G H ((f δ).bind k) Q)
   (h:∀ d G1 H1,Grow G H G1 H1->SR G1 H1 σ δ->Aft E G1 H1 (k d) Q->R d H1):tT E f σ H R:=by
 refine ⟨G,δ,S,?_⟩;cases e:f δ with
 | ok d =>
   rw [e] at a; exact fun G' H' g=>h d G' H' g (S.grow g) (Aft.grow g a)
 | exc c=>rw [e] at a; exact a
 | no=>rw [e] at a; exact a
noncomputable def cF:rG->Option Bool
 | .none=>some false
 | .bool b=>some b
 | .int i=>some (i != 0)
 | .str x=>some (x.length != 0)
 | .list xs=>some (!xs.isEmpty)
 | .tuple xs=>some (!xs.isEmpty)
 | .dict _=>none
noncomputable def D3 (f:Dn->Res rG):Dn->Res Bool:=fun δ=>(f δ).bind fun d=>ofO (cF d)
theorem RepL.isEmpty {G:Hp} {ds:List rG} {xs:List V} (r:RepL G ds xs):ds.isEmpty=xs.isEmpty:=by
 have:=r.length;cases ds <;> cases xs <;> simp at this ⊢
theorem Rep.truV {G H:Hp} (hG:Same G H) {d:rG} {v:V} (r:Rep G d v) {kk:Bool} (e:cF d=some kk):rD K v H kk:=by
 cases d with
 | none=>cases (show _=_ from r); cases e; rfl
 | bool _=>cases (show _=_ from r); cases e; rfl
 | int _=>cases (show _=_ from r); cases e; rfl
 | str x =>
   cases r.1; cases e;refine ⟨r.2.2,?_⟩; show (x.length != 0)=((x.length:Int) != 0);rw [Bool.eq_iff_iff]; simp
 | list _=>obtain ⟨a,xs,rfl,h1,l1⟩:=r; cases e; exact .inl ⟨xs,.inl (Rd.mono hG h1),by rw [l1.isEmpty]⟩
 | tuple _=>obtain ⟨a,xs,rfl,h1,l1⟩:=r; cases e; exact .inr (.inl ⟨xs,.inl (.inl (hG _ _ h1)),by rw [l1.isEmpty]⟩)
 | dict _=>cases e
theorem t_val (ha:DE X E a f) (he:∀ whole,isTrue a X.env whole=(do let v <- whole; standAt a.pos; holding [v] (truthy v)):=by intro _; rfl):DT X E a (D3 f):=by
 refine PT.imp (Ga ha he) fun σ H Q hZ3=>?_;obtain ⟨G,δ,S,aft⟩:=hZ3;refine Ec S aft fun d1 v1 G1 H1 g1 r1 S1 a1=>?_;cases e:cF d1 with
 | none=>rw [e] at a1; exact a1.elim
 | some kk=>rw [e] at a1; exact ⟨kk,r1.truV S1.sub e,a1 G1 H1 (Grow.refl S1.sub)⟩
theorem Go {o:wP} {r:R2} {op:rG->rG->Option rG} (hr:OpR X (vH o) r) (ho:OpD r op) (hbool:∀ x y d,op x y=some d->∃ kk,d=.bool kk) (ha:DE X E a f) (hb:DE X E b g) (hm:behindInMarks o b=false) :
   DT X E (.Compare a [o] [b] pos) (D3 (b2 f g op)):=by
 refine PT.imp (Ya hr ha hb hm) fun σ H Q hZ3=>?_;obtain ⟨G,δ,S,aft⟩:=hZ3;have aft':AftT E G H ((f δ).bind fun x=>(g δ).bind fun y=>(ofO (op x y)).bind fun d=>ofO (cF d)) Q:=by
   unfold D3 b2 at aft; simp only [Res.bind_assoc] at aft; exact aft
 refine Ec S aft' fun d1 v1 G1 H1 g1 r1 S1 a1=>?_;refine Ec S1 a1 fun d2 v2 G2 H2 g2 r2 S2 a2=>?_;cases e:op d1 d2 with
 | none=>rw [e] at a2; exact a2.elim
 | some d =>
   rw [e] at a2; obtain ⟨kk,rfl⟩:=hbool _ _ _ e; exact ho G2 H2 v1 v2 d1 d2 _ _ S2.sub (r1.mono g2.g) r2 e fun v G3 H3 g3 r3=>⟨kk,r3,a2 G3 H3 g3⟩
theorem lZ (x y d:rG) (e:dEq x y=some d):∃ kk,d=.bool kk:=by unfold dEq at e; split at e <;> cases e; exact ⟨_,rfl⟩
theorem lY (x y d:rG) (e:dNe x y=some d):∃ kk,d=.bool kk:=by unfold dNe at e; split at e <;> cases e; exact ⟨_,rfl⟩
theorem Ut {op:wP} (x y d:rG) (e:U2 op x y=some d):∃ kk,d=.bool kk:=by
 unfold U2 at e; split at e
 . obtain ⟨kk,_,rfl⟩:=xP.mp e; exact ⟨_,rfl⟩
 . cases e
theorem bN {op:wP} (x y d:rG) (e:Et op x y=some d):∃ kk,d=.bool kk:=by
 unfold Et at e; split at e
 . cases e; exact ⟨_,rfl⟩
 . cases e
theorem Rt (C:Cxt P w K mg base X N sc k df) (ha:DE X E a f) (hb:DE X E b g):DT X E (.Compare a [.Eq] [b] pos) (D3 (b2 f g dEq)):=Go (Wg C.hu) Wh lZ ha hb (Dl _)
theorem cI (C:Cxt P w K mg base X N sc k df) (ha:DE X E a f) (hb:DE X E b g):DT X E (.Compare a [.NotEq] [b] pos) (D3 (b2 f g dNe)):=Go (fB C.hu) fC lY ha hb (Dl _)
theorem cJ (C:Cxt P w K mg base X N sc k df) (ha:DE X E a f) (hb:DE X E b g):DT X E (.Compare a [.Lt] [b] pos) (D3 (b2 f g (U2 .Lt))):=Go (Yi (.inl rfl) C.hu) Yj Ut ha hb (Dl _)
theorem t_le (C:Cxt P w K mg base X N sc k df) (ha:DE X E a f) (hb:DE X E b g):DT X E (.Compare a [.LtE] [b] pos) (D3 (b2 f g (U2 .LtE))):=Go (Yi (.inr rfl) C.hu) Yj Ut ha hb (Dl _)
theorem t_gt (C:Cxt P w K mg base X N sc k df) (ha:DE X E a f) (hb:DE X E b g):DT X E (.Compare a [.Gt] [b] pos) (D3 (b2 f g (Et .Gt))):=Go (kJ (.inl rfl)) fF bN ha hb (Dl _)
theorem iO (C:Cxt P w K mg base X N sc k df) (ha:DE X E a f) (hb:DE X E b g) (hm:behindInMarks .NotIn b=false:=by with_unfolding_all rfl):DT X E (.Compare a [.NotIn] [b] pos) (D3 (b2 f g (dIn true))):=Go (aK C.hu) fD (fun _ _ _ e=>Um e) ha hb hm
theorem t_isN {j:Nat} {p:Pos} (ha:DE X E a f):DT X E (.Compare a [.Is] [.Constant .none j p] pos) (fun δ=>(f δ).bind fun d=>.ok (Ci d)):=by
 refine PT.imp (Wa (oY ha)) fun σ H Q hZ3=>?_;obtain ⟨G,δ,S,aft⟩:=hZ3;exact Ec S aft fun d1 v1 G1 H1 g1 r1 S1 a1=>by rw [r1.non]; exact ⟨_,rfl,a1 G1 H1 (Grow.refl S1.sub)⟩
variable {c1 c2:Dn->Res Bool}
noncomputable def Bw (c c':Dn->Res Bool):Dn->Res Bool:=fun δ=>(c δ).bind fun b=>if b=true then c' δ else .ok false
theorem Jn (ha:DT X E a c1):DW X E (.BoolOp .And [a] pos) c1:=Xy ha
theorem Rp (ha:DT X E a c1) (hb:DW X E (.BoolOp .And (b::M9) pos) c2):DW X E (.BoolOp .And (a::b::M9) pos) (Bw c1 c2):=by
 refine PW.imp (eK ha hb) fun σ H Q hZ3=>?_;obtain ⟨G,δ,S,aft⟩:=hZ3;refine Xf S aft fun d G1 H1 g1 S1 a1=>?_;cases d with
 | true=>rw [if_pos rfl]; exact ⟨G1,δ,S1,a1⟩
 | false=>rw [if_neg (by decide)]; exact a1 G1 H1 (Grow.refl S1.sub)
theorem w_t (h:DW X E a c1):DT X E a c1:=h.pt
noncomputable def vIf (c:Dn->Res Bool) (f g:Dn->Res rG):Dn->Res rG:=fun δ=>(c δ).bind fun b=>if b=true then f δ else g δ
theorem lS (hc:DT X E c c1) (ha:DE X E a f) (hb:DE X E b g):DE X E (.IfExp c a b pos) (vIf c1 f g):=by
 refine PE.imp (eX hc ha hb) fun σ H Q hZ3=>?_;obtain ⟨G,δ,S,aft⟩:=hZ3;refine Xg S aft fun d G1 H1 g1 S1 a1=>?_;cases d with
 | true=>rw [if_pos rfl]; exact ⟨G1,δ,S1,a1⟩
 | false=>rw [if_neg (by decide)]; exact ⟨G1,δ,S1,a1⟩
end
end Sm
end
noncomputable section
namespace Sm
open PySem PySem.Spec PyProof.Rows L2
noncomputable section
variable {w:sT} {K:rK} {X:Cx} {k:Nat} {E:EK} {pos:Pos} {a b c e:Expr} {es:List Expr} {f g:Dn->Res rG} {fs:Dn->Res (List rG)}
def AftL (E:EK) (G H:Hp) (r:Res (List rG)) (Q:List V->Hp->Prop):Prop:=match r with
 | .ok ds=>∀ vs G' H',Grow G H G' H'->RepL G' ds vs->Q vs H'
 | .exc c=>∀ G' H',Grow G H G' H'->E c H'
 | .no=>False
def tA (E:EK) (fs:Dn->Res (List rG)):TA:=fun σ H Q=>∃ G δ,SR G H σ δ/\AftL E G H (fs δ) Q
structure DA (X:Cx) (E:EK) (es:List Expr) (n:Nat) (fs:Dn->Res (List rG)):Prop where
 pa:PA X es (tA E fs)
 len:∀ δ ds,fs δ=.ok ds->ds.length=n
theorem PA.imp {X:Cx} {es:List Expr} {t t':TA} (h:PA X es t) (i:∀ σ H Q,t' σ H Q->t σ H Q):PA X es t':=fun p pins s σ H Q I q=>h p pins s σ H Q I (i _ _ _ q)
theorem AftL.grow {E:EK} {G H G' H':Hp} {r:Res (List rG)} {Q:List V->Hp->Prop} (g:Grow G H G' H') (a:AftL E G H r Q):AftL E G' H' r Q:=by
 cases r with
 | ok d=>exact fun v G2 H2 g2 q=>a v G2 H2 (g.trans g2) q
 | exc c=>exact fun G2 H2 g2=>a G2 H2 (g.trans g2)
 | no=>exact a
theorem Jl {α:Type} {E:EK} {G H:Hp} {σ:St} {δ:Dn} {f:Dn->Res rG} {k:rG->Res α} {R:VK} {W:Hp->Hp->Res α->Prop} (S:SR G H σ δ) (a:W G H ((f δ).bind k)) (hg:∀ {G H G' H':Hp} {r:Res α},Grow G H G' H'->W G H r->W G' H' r)
   (hx:∀ c,W G H (.exc c)->∀ G' H',Grow G H G' H'->E c H') (hn:W G H .no->False)
   (h:∀ d v G1 H1,Grow G H G1 H1->Rep G1 d v->SR G1 H1 σ δ->W G1 H1 (k d)->R v H1):tD E f σ H R:=by
 refine ⟨G,δ,S,?_⟩;cases e:f δ with
 | ok d=>rw [e] at a; exact fun v G' H' g r=>h d v G' H' g r (S.grow g) (hg g a)
 | exc c=>rw [e] at a; exact hx c a
 | no=>rw [e] at a; exact hn a
theorem U0 {α:Type} {E:EK} {G H:Hp} {σ:St} {δ:Dn} {fs:Dn->Res (List rG)} {k:List rG->Res α} {R:List V->Hp->Prop} {W:Hp->Hp->Res α->Prop} (S:SR G H σ δ) (a:W G H ((fs δ).bind k)) (hg:∀ {G H G' H':Hp} {r:Res α},Grow G H G' H'->W G H r->W G' H' r)
   (hx:∀ c,W G H (.exc c)->∀ G' H',Grow G H G' H'->E c H') (hn:W G H .no->False)
   (h:∀ ds vs G1 H1,fs δ=.ok ds->Grow G H G1 H1->RepL G1 ds vs->SR G1 H1 σ δ->W G1 H1 (k ds)->R vs H1):tA E fs σ H R:=by
 refine ⟨G,δ,S,?_⟩;cases e:fs δ with
 | ok d=>rw [e] at a; exact fun v G' H' g r=>h d v G' H' e g r (S.grow g) (hg g a)
 | exc c=>rw [e] at a; exact hx c a
 | no=>rw [e] at a; exact hn a
noncomputable def B3:Dn->Res (List rG):=fun _=>.ok []
noncomputable def A6 (f:Dn->Res rG) (fs:Dn->Res (List rG)):Dn->Res (List rG):=fun δ=>(f δ).bind fun d=>(fs δ).bind fun ds=>.ok (d::ds)
theorem B8:DA X E [] 0 B3:=⟨PA.imp F7 fun σ H Q hZ3=>by obtain ⟨G,δ,S,a⟩:=hZ3; exact a [] G H (Grow.refl S.sub) rfl,fun δ ds e=>by cases e; rfl⟩
noncomputable def Qn:Expr->Bool
 | .Starred .. => false
 | _=>true
theorem Oi {a:Expr} {es:List Expr} {env:Env} (h:Qn a=true):rP (a::es) env=(false,eval a env)::rP es env:=by
 cases a <;> first | rfl | cases h
theorem A8 {n:Nat} (ha:DE X E a f) (hr:DA X E es n fs) (hs:Qn a=true:=by rfl):DA X E (a::es) (n+1) (A6 f fs):=by
 refine ⟨PA.imp (C8 ha hr.pa (Oi hs)) fun σ H Q ⟨G,δ,S,aft⟩=>?_,fun δ ds e=>?_⟩
 . refine Jl (W:=fun G H r=>AftL E G H r Q) S aft (fun g a=>AftL.grow g a) (fun c a=>a) (fun a=>a) fun d v G1 H1 g1 r1 S1 a1=>?_
   refine U0 (W:=fun G H r=>AftL E G H r Q) S1 a1 (fun g a=>AftL.grow g a) (fun c a=>a) (fun a=>a) fun ds vs G2 H2 e g2 r2 S2 a2=>?_;exact a2 _ G2 H2 (Grow.refl S2.sub) (RepL.cons (r1.mono g2.g) r2)
 . unfold A6 at e
   cases h1:f δ with
   | ok d =>
     rw [h1] at e;cases h2:fs δ with
     | ok ds' =>
       simp only [Res.bind,h2] at e; cases e; rw [sD,hr.len δ ds' h2]
     | exc c=>simp only [Res.bind,h2] at e; cases e
     | no=>simp only [Res.bind,h2] at e; cases e
   | exc c=>rw [h1] at e; cases e
   | no=>rw [h1] at e; cases e
noncomputable def E6 (fs:Dn->Res (List rG)):Dn->Res rG:=fun δ=>(fs δ).bind fun ds=>.ok (.tuple ds)
noncomputable def N8 (fs:Dn->Res (List rG)):Dn->Res rG:=fun δ=>(fs δ).bind fun ds=>.ok (.list ds)
theorem K8 {n x1:Nat} (h:DA X E es n fs) (hn:n<=sizeLine:=by decide):DE X E (.Tuple es x1 pos) (E6 fs):=by
 refine PE.imp (Ls h.pa) fun σ H Q hZ3=>?_;obtain ⟨G,δ,S,aft⟩:=hZ3;refine U0 (W:=fun G H r=>Aft E G H r Q) S aft (fun g a=>Aft.grow g a) (fun c a=>a) (fun a=>a) fun ds vs G1 H1 e g1 r1 S1 a1=>?_;refine ⟨by rw [<- r1.length,h.len δ ds e]; exact hn,fun p hp=>?_⟩;exact a1 _ (upd G1 p (.tup vs)) _ (Grow.new S1.sub hp) ⟨p,vs,rfl,B7,r1.mono (Same.upd (S1.sub.free hp))⟩
def iG (E:EK) (G H:Hp) (r:Res (List rG)) (Q:VK):Prop:=match r with
 | .ok ds=>∀ p xs G' H',Grow G H G' H'->H p=none->G' p=none->H' p=some (.lst xs)->RepL G' ds xs->Q (.ref p) H'
 | .exc c=>∀ G' H',Grow G H G' H'->E c H'
 | .no=>False
def tF (E:EK) (f:Dn->Res (List rG)):TE:=fun σ H Q=>∃ G δ,SR G H σ δ/\iG E G H (f δ) Q
abbrev DF (X:Cx) (E:EK) (e:Expr) (f:Dn->Res (List rG)):Prop:=PE X e (tF E f)
theorem Grow.share {G H G' H':Hp} {p:rN} {o:HO} (g:Grow G H G' H') (hp:H p=none) (hg:G' p=none) (hH:H' p=some o):Grow G H (upd G' p o) H' :=
 ⟨g.g.trans (Same.upd hg),g.h,fun b u e=>by
   by_cases hb:b=p
   . subst hb; rw [B7] at e; cases e; exact hH
   . rw [B4 hb] at e; exact g.gh _ _ e,fun b u e=>by
   by_cases hb:b=p
   . subst hb; exact .inr (.inl hp)
   . rw [B4 hb] at e; exact g.fr _ _ e⟩
theorem U3 (h:DF X E e fs):DE X E e (N8 fs):=by
 refine PE.imp h fun σ H Q hY35=>?_;obtain ⟨G,δ,S,aft⟩:=hY35;refine ⟨G,δ,S,?_⟩;unfold N8 at aft;cases e:fs δ with
 | ok ds =>
   rw [e] at aft; exact fun p xs G' H' g hp hg hH r=>aft _ _ H' (g.share hp hg hH) ⟨p,xs,rfl,.inl B7,r.mono (Same.upd hg)⟩
 | exc c=>rw [e] at aft; exact aft
 | no=>rw [e] at aft; exact aft
theorem Ao {n:Nat} (h:DA X E es n fs) (hn:n<=sizeLine:=by decide):DF X E (.List es pos) fs:=by
 refine PE.imp (Fa h.pa) fun σ H Q hY36=>?_;obtain ⟨G,δ,S,aft⟩:=hY36;refine ⟨G,δ,S,?_⟩;cases e:fs δ with
 | ok ds =>
   rw [e] at aft; refine fun vs G1 H1 g1 r1=>⟨by rw [<- r1.length,h.len δ ds e]; exact hn,fun p hp=>?_⟩;exact aft p vs G1 _ (g1.trans (Grow.own g1.gh hp)) (g1.h.free hp) (g1.gh.free hp) B7 r1
 | exc c=>rw [e] at aft; exact aft
 | no=>rw [e] at aft; exact aft
noncomputable def dIx:rG->rG->Option rG
 | .list ds,.int i=>atI ds i
 | .tuple ds,.int i=>atI ds i
 | .str x,.int i=>(atI x.cps.toList i).map fun c=>.str ⟨#[c]⟩
 | _,_=>none
theorem Zd {G:Hp} {ds:List rG} {xs:List V} {i:Int} {d:rG} (r:RepL G ds xs) (e:atI ds i=some d):∃ x,atI xs i=some x/\Rep G d x:=by
 unfold atI at e ⊢;rw [<- r.length];cases q:ixN ds.length i with
 | none=>rw [q] at e; cases e
 | some j=>rw [q] at e; exact r.get e
theorem pD:OpD (rIx K) dIx:=by
 intro G H x y a b d Q hG ra rb e q;cases b with
 | int i =>
   cases (show _=_ from rb);cases a with
   | list ds =>
     obtain ⟨p,xs,rfl,h1,l1⟩:=ra; obtain ⟨v,e1,r1⟩:=Zd l1 e; exact .inl ⟨p,xs,i,v,rfl,rfl,.inl (Rd.mono hG h1),e1,q _ G H (Grow.refl hG) r1⟩
   | tuple ds =>
     obtain ⟨p,xs,rfl,h1,l1⟩:=ra; obtain ⟨v,e1,r1⟩:=Zd l1 e; exact .inr (.inl ⟨p,xs,i,v,rfl,rfl,.inl (.inl (hG _ _ h1)),e1,q _ G H (Grow.refl hG) r1⟩)
   | str z =>
     obtain ⟨e0,o1,l1⟩:=ra; subst e0; obtain ⟨cc,e1,rfl⟩:=xP.mp e; refine .inr (.inr ⟨z,i,cc,rfl,rfl,l1,e1,q _ G H (Grow.refl hG) ⟨rfl,?_,?_⟩⟩)
     . obtain ⟨j,_,h2,_⟩:=Jk e1
       have hm:cc∈z.cps.toList:=tZ h2; unfold sW at *;rw [<- AJ,wH] at o1; have:=o1 cc hm;simpa using this
     . show 1<=sizeLine; decide
   | _=>cases e
 | _=>cases a <;> cases e
theorem I0 (ha:DE X E a f) (hb:DE X E b g) (hs:Zg b:=by exact fun _ _=>rfl):DE X E (.Subscript a b pos) (b2 f g dIx) :=
 PE.imp (pe_ix qD ha hb hs) fun _ _ _ h=>cO pD h
noncomputable def Fj (xs:List rG) (lo hi:Option Int):List rG:=(xs.drop (HT.sIx xs.length 0 lo)).take (HT.sIx xs.length xs.length hi - HT.sIx xs.length 0 lo)
noncomputable def bK (d:rG) (lo hi:Option Int):Option rG:=match d with
 | .list ds=>some (.list (Fj ds lo hi))
 | .tuple ds=>some (.tuple (Fj ds lo hi))
 | _=>none
theorem Yv {G:Hp} {ds:List rG} {xs:List V} (r:RepL G ds xs) (lo hi:Option Int):RepL G (Fj ds lo hi) (bM xs lo hi):=by
 unfold Fj bM;rw [r.length];exact (r.drop _).take _
noncomputable def rSlD:V->Option Int->Option Int->Hp->VK->Prop:=fun x lo hi H Q=>∃ G a d,Same G H/\Rep G a x/\bK a lo hi=some d/\∀ v G' H',Grow G H G' H'->Rep G' d v->Q v H'
theorem Ef {prog:sE} {w:sT} {A:tY} {E:rJ->rM->Prop} {s:rM} {t sl:rN} {items:Array rJ} {vl vu:rJ} {lo hi:Option Int} {Q:rJ->rM->Prop} (ht:w6 s.heap t items) (hs:s.heap.IsSliceOf sl vl vu .none) (pl:z9 vl lo) (pu:z9 vu hi)
   (hw:HT.sIx items.size 0 lo=0/\HT.sIx items.size items.size hi=items.size) (h:Q (.ref t) s):wpAny (sM prog w) A (g9 (.ref t) (.ref sl)) Q E s:=by
 obtain ⟨os,hos,hcs,hds⟩:=id hs;have hTs:s.TypeIs (.ref sl) "slice" := ⟨os,hos,hcs⟩;unfold g9;try with_reducible refine uW ?_
 first | refine rH (rL ?_) | skip
 refine rH (j8 ht.typeIs (by decide) ?_);refine rH (vD (name:=xR "__getitem__") ht.typeIs vS
   (uX vS ht.typeIs entry_tuple_getitem ?_ (args_tuple_getitem _ _)))
 show wpAny _ _ (zH (.ref t)>>=_) _ _ s;refine rH (tupleItemsOf_ ht ?_);refine rH (AZ hTs ?_);rw [if_pos (by decide)];refine rH (HT.sliceApplied_gen hs pl pu ?_);show wpAny _ _ (if (((HT.sIx items.size 0 lo:Nat):Int)==0&&(1:Int)==1&&(HT.sIx items.size items.size hi - HT.sIx items.size 0 lo)==items.size)=true then _ else _) _ _ s;rw [if_pos (by rw [hw.1,hw.2]; simp)];unfold Builtin.Tuple.tupleIsExact;refine rH (rH (AZ ht.typeIs (rL ?_)));rw [if_pos (by decide)];first
   | exact rH (vT (rL ⟨_,rfl,rL h⟩))
   | exact rH (vT (rH (rL (rL ⟨_,rfl,rL h⟩))))
theorem sl_D:SlR X rSlD:=by
 rintro pins s σ H x v vl vu lo hi sl Q I rx hs pl pu ⟨G,a,d,hG,ra,e,q⟩;cases a with
 | list ds =>
   cases e; obtain ⟨p,xs,rfl,h1,l1⟩:=ra; cases rx; obtain ⟨z,its,n,r,e1⟩:=Al I hG h1; have hlen:=r.length; have hl:s.heap.IsList p its.toArray:=⟨_,e1,rfl,n,rfl⟩; refine ⟨"list",_,BA.lookup,hl.typeIs,?_⟩; refine wpAny_getItem_list_slice hl hs pl pu .none (by simp) ?_ (by rw [rX] <;> lia)
   rw [Ek,<- hlen]; exact Qy (t':=s.toks) I hG ((r.drop (HT.sIx xs.length 0 lo)).take (HT.sIx xs.length xs.length hi - HT.sIx xs.length 0 lo)) (Yv l1 lo hi) (sJ (Du xs lo hi) z) q
 | tuple ds =>
   cases e; obtain ⟨p,xs,rfl,h1,l1⟩:=ra; cases rx; obtain ⟨z,its,r,ht⟩:=Hg I hG h1; have hlen:its.toArray.size=xs.length:=by rw [rX]; exact r.length.symm
   refine ⟨"tuple",_,vS.lookup,ht.typeIs,?_⟩;by_cases hw:HT.sIx xs.length 0 lo=0/\HT.sIx xs.length xs.length hi=xs.length
   . refine Ef ht hs pl pu (by rw [hlen]; exact hw) ⟨.ref p,H,I,rfl,q _ G H (Grow.refl hG) ⟨p,xs,rfl,h1,?_⟩⟩
     have:Fj ds lo hi=ds:=by
       unfold Fj; rw [l1.length,hw.1,hw.2,yG,Nat.sub_zero,<- l1.length,List.take_length]
     rw [this]; exact l1
   . refine HT.getItem_tuple_cut ht hs pl pu (by rw [hlen]; exact hw) ?_ (by rw [hlen]; exact z)
     rw [hlen]; exact Ys (t':=s.toks) I hG ((r.drop (HT.sIx xs.length 0 lo)).take (HT.sIx xs.length xs.length hi - HT.sIx xs.length 0 lo)) (Yv l1 lo hi) (sJ (Du xs lo hi) z) q
 | _=>cases e
def AftO (E:EK) (G H:Hp) (r:Res (Option Int)) (Q:Option Int->Hp->Prop):Prop:=match r with
 | .ok ds=>∀ G' H',Grow G H G' H'->Q ds H'
 | .exc c=>∀ G' H',Grow G H G' H'->E c H'
 | .no=>False
def tO (E:EK) (f:Dn->Res (Option Int)):TO:=fun σ H Q=>∃ G δ,SR G H σ δ/\AftO E G H (f δ) Q
abbrev DO (X:Cx) (E:EK) (e:Option Expr) (f:Dn->Res (Option Int)):Prop:=PO X e (tO E f)
theorem PO.imp {X:Cx} {e:Option Expr} {t t':TO} (h:PO X e t) (i:∀ σ H Q,t' σ H Q->t σ H Q):PO X e t':=fun pins s σ H Q I q=>h pins s σ H Q I (i _ _ _ q)
noncomputable def Lz:Dn->Res (Option Int):=fun _=>.ok none
noncomputable def Ly (f:Dn->Res rG):Dn->Res (Option Int):=fun δ=>(f δ).bind fun d=>match d with
 | .int i=>.ok (some i)
 | _=>.no
theorem AftO.grow {E:EK} {G H G' H':Hp} {r:Res (Option Int)} {Q:Option Int->Hp->Prop} (g:Grow G H G' H') (a:AftO E G H r Q):AftO E G' H' r Q:=by
 cases r with
 | ok d=>exact fun G2 H2 g2=>a G2 H2 (g.trans g2)
 | exc c=>exact fun G2 H2 g2=>a G2 H2 (g.trans g2)
 | no=>exact a
theorem Wj:DO X E none Lz:=PO.imp kC fun σ H Q hZ3=>by obtain ⟨G,δ,S,a⟩:=hZ3; exact a G H (Grow.refl S.sub)
theorem Wi (h:DE X E e f):DO X E (some e) (Ly f):=by
 refine PO.imp (kB h) fun σ H Q hZ3=>?_;obtain ⟨G,δ,S,aft⟩:=hZ3;refine Jl (W:=fun G H r=>AftO E G H r Q) S aft (fun g a=>AftO.grow g a) (fun c a=>a) (fun a=>a) fun d v G1 H1 g1 r1 S1 a1=>?_;cases d with
 | int i=>exact ⟨i,r1,a1 G1 H1 (Grow.refl S1.sub)⟩
 | _=>exact (show False from a1).elim
theorem Uw {α:Type} {E:EK} {G H:Hp} {σ:St} {δ:Dn} {fs:Dn->Res (Option Int)} {k:Option Int->Res α} {R:Option Int->Hp->Prop} {W:Hp->Hp->Res α->Prop} (S:SR G H σ δ) (a:W G H ((fs δ).bind k)) (hg:∀ {G H G' H':Hp} {r:Res α},Grow G H G' H'->W G H r->W G' H' r)
   (hx:∀ c,W G H (.exc c)->∀ G' H',Grow G H G' H'->E c H') (hn:W G H .no->False)
   (h:∀ ds G1 H1,Grow G H G1 H1->SR G1 H1 σ δ->W G1 H1 (k ds)->R ds H1):tO E fs σ H R:=by
 refine ⟨G,δ,S,?_⟩;cases e:fs δ with
 | ok d=>rw [e] at a; exact fun G' H' g=>h d G' H' g (S.grow g) (hg g a)
 | exc c=>rw [e] at a; exact hx c a
 | no=>rw [e] at a; exact hn a
noncomputable def vSl (f:Dn->Res rG) (lo hi:Dn->Res (Option Int)):Dn->Res rG:=fun δ=>(f δ).bind fun x=>(lo δ).bind fun l=>(hi δ).bind fun u=>ofO (bK x l u)
variable {lo hi:Option Expr} {fl fh:Dn->Res (Option Int)} {p2:Pos}
theorem Qz (he:DE X E e f) (hl:DO X E lo fl) (hu:DO X E hi fh):DE X E (.Subscript e (.Slice lo hi none p2) pos) (vSl f fl fh):=by
 refine PE.imp (eQ sl_D he hl hu) fun σ H Q hZ3=>?_;obtain ⟨G,δ,S,aft⟩:=hZ3;refine P9 S aft fun d v G1 H1 g1 r1 S1 a1=>?_;refine Uw (W:=fun G H r=>Aft E G H r Q) S1 a1 (fun g a=>Aft.grow g a) (fun c a=>a) (fun a=>a) fun l G2 H2 g2 S2 a2=>?_;refine Uw (W:=fun G H r=>Aft E G H r Q) S2 a2 (fun g a=>Aft.grow g a) (fun c a=>a) (fun a=>a) fun u G3 H3 g3 S3 a3=>?_;cases e:bK d l u with
 | none=>rw [e] at a3; exact a3.elim
 | some z=>rw [e] at a3; exact ⟨G3,d,z,S3.sub,r1.mono (g2.g.trans g3.g),e,a3⟩
end
end Sm
end
noncomputable section
namespace Sm
open PySem PySem.Spec PyProof.Rows L2
noncomputable section
variable {P:sE} {w:sT} {K:rK} {mg:Str->Option rJ} {base:tL} {X:Cx} {N:List Str} {sc:Scope} {k:Nat} {df:Bool} {E:EK} {pos p:Pos} {a b c e:Expr} {es:List Expr} {f g:Dn->Res rG} {fs:Dn->Res (List rG)}
noncomputable def rCD (op:List rG->Option rG):List V->Hp->VK->Prop:=fun vs H Q=>∃ G ds d,Same G H/\RepL G ds vs/\op ds=some d/\∀ v G' H',Grow G H G' H'->Rep G' d v->Q v H'
noncomputable def vFn (fs:Dn->Res (List rG)) (op:List rG->Option rG):Dn->Res rG:=fun δ=>(fs δ).bind fun ds=>ofO (op ds)
theorem mK {op:List rG->Option rG} {σ:St} {H:Hp} {Q:VK} (h:tD E (vFn fs op) σ H Q):tCB (rCD op) (tA E fs) σ H Q:=by
 obtain ⟨G,δ,S,aft⟩:=h;refine U0 (W:=fun G H r=>Aft E G H r Q) S aft (fun g a=>Aft.grow g a) (fun c a=>a) (fun a=>a) fun ds vs G1 H1 e g1 r1 S1 a1=>?_;cases e:op ds with
 | none=>rw [e] at a1; exact a1.elim
 | some d=>rw [e] at a1; exact ⟨G1,ds,d,S1.sub,r1,e,a1⟩
theorem gZ {x:Str} {id:String} {n:Nat} {op:List rG->Option rG} (C:Cxt P w K mg base X N sc k df) (hc:Au X (.builtin id) (rCD op)) (h:okGl sc x=true) (hm:mg x=none) (hv:yW x=some (.builtin id)) (ha:DA X E (e::es) n fs)
   (he:rP (e::es) X.env=(false,eval e X.env)::rP es X.env:=by rfl) (hpl:(tR pos (rP es X.env)).any (·.1)=false:=by rfl):DE X E (.Call (.Name x p) (e::es) [] pos) (vFn fs op):=by
 obtain ⟨h1,h2,h3⟩:=okGl.gl C h;exact PE.imp (Lv hc h1 (by rw [C.hmg]; exact hm) hv ha.pa h3 h2 he hpl) fun _ _ _ q=>mK q
theorem Uk {x:Str} {T:String} {n:Nat} {op:List rG->Option rG} (C:Cxt P w K mg base X N sc k df) (hc:Au X (.type T) (rCD op)) (h:okGl sc x=true) (hm:mg x=none) (hv:yW x=some (.type T)) (ha:DA X E (e::es) n fs)
   (he:rP (e::es) X.env=(false,eval e X.env)::rP es X.env:=by rfl) (hpl:(tR pos (rP es X.env)).any (·.1)=false:=by rfl):DE X E (.Call (.Name x p) (e::es) [] pos) (vFn fs op):=by
 obtain ⟨h1,h2,h3⟩:=okGl.gl C h;exact PE.imp (Dy hc h1 (by rw [C.hmg]; exact hm) hv ha.pa h3 h2 he hpl) fun _ _ _ q=>mK q
theorem Np {G:Hp} {d:rG} {vs:List V} (r:RepL G [d] vs):∃ v,vs=[v]/\Rep G d v:=by
 obtain ⟨x,t,rfl,h,l⟩:=r; cases (show _=_ from l); exact ⟨x,rfl,h⟩
theorem oA {G:Hp} {d d':rG} {vs:List V} (r:RepL G [d,d'] vs):∃ v v',vs=[v,v']/\Rep G d v/\Rep G d' v':=by
 obtain ⟨x,t,rfl,h,l⟩:=r;obtain ⟨y,rfl,h'⟩:=Np l;exact ⟨x,y,rfl,h,h'⟩
noncomputable def W8:List rG->Option rG
 | [.list ds]=>some (.int ds.length)
 | [.tuple ds]=>some (.int ds.length)
 | [.str x]=>some (.int x.length)
 | _=>none
theorem Xc:Au X (.builtin "len") (rCD W8):=by
 rintro pins s σ H xs us Q I r ⟨G,ds,d,hG,rl,e,q⟩;unfold W8 at e;split at e
 . rename_i ys
   cases e; obtain ⟨v,rfl,a,vs,rfl,h1,l1⟩:=Np rl; exact Mo pins s σ H _ us Q I r ⟨_,ys.length,rfl,.inl ⟨vs,.inl (Rd.mono hG h1),l1.length⟩,q _ G H (Grow.refl hG) rfl⟩
 . rename_i ys
   cases e; obtain ⟨v,rfl,a,vs,rfl,h1,l1⟩:=Np rl; exact Mo pins s σ H _ us Q I r ⟨_,ys.length,rfl,.inr ⟨vs,.inl (.inl (hG _ _ h1)),l1.length⟩,q _ G H (Grow.refl hG) rfl⟩
 . rename_i x
   cases e; obtain ⟨v,rfl,r1⟩:=Np rl;cases r1.1;exact Mo pins s σ H _ us Q I r ⟨_,x.length,rfl,⟨r1.2.2,rfl⟩,q _ G H (Grow.refl hG) rfl⟩
 . cases e
theorem Dt {n:Nat} (C:Cxt P w K mg base X N sc k df) (h:okGl sc "len" = true) (hm:mg "len" = none) (ha:DA X E (e::es) n fs)
   (he:rP (e::es) X.env=(false,eval e X.env)::rP es X.env:=by rfl) (hpl:(tR pos (rP es X.env)).any (·.1)=false:=by rfl):DE X E (.Call (.Name "len" p) (e::es) [] pos) (vFn fs W8) :=
 gZ C Xc h hm PySem.boot_len ha he hpl
noncomputable def Za:List rG->Option (List Bool)
 | []=>some []
 | .bool b::ds=>(Za ds).map (b::·)
 | _::_=>none
noncomputable def dAll:List rG->Option rG
 | [.list ds]=>(Za ds).map fun bs=>.bool (bs.all id)
 | _=>none
noncomputable def dListF:List rG->Option rG
 | [.list ds]=>some (.list ds)
 | [.tuple ds]=>some (.list ds)
 | _=>none
noncomputable def Es:List rG->Option rG
 | [.list ds]=>some (.tuple ds)
 | [.tuple ds]=>some (.tuple ds)
 | _=>none
noncomputable def Pc:List rG->Option rG
 | [.int i]=>some (.int i)
 | [.bool b]=>some (.int (if b then 1 else 0))
 | _=>none
theorem Xa:Au X (.type "tuple") (rCD Es):=by
 rintro pins s σ H xs us Q I r ⟨G,ds,d,hG,rl,e,q⟩;unfold Es at e;split at e
 . rename_i ys
   cases e; obtain ⟨v,rfl,a,vs,rfl,h1,l1⟩:=Np rl; exact Eu pins s σ H _ us Q I r ⟨a,vs,rfl,.inl ⟨.inl (Rd.mono hG h1),fun l hl=>q _ (upd G l (.tup vs)) _ (Grow.new hG hl) ⟨l,vs,rfl,B7,l1.mono (Same.upd (hG.free hl))⟩⟩⟩
 . rename_i ys
   cases e; obtain ⟨v,rfl,a,vs,rfl,h1,l1⟩:=Np rl; exact Eu pins s σ H _ us Q I r ⟨a,vs,rfl,.inr ⟨.inl (.inl (hG _ _ h1)),q _ G H (Grow.refl hG) ⟨a,vs,rfl,h1,l1⟩⟩⟩
 . cases e
theorem Xd:Au X (.type "int") (rCD Pc):=by
 rintro pins s σ H xs us Q I r ⟨G,ds,d,hG,rl,e,q⟩;unfold Pc at e;split at e
 . rename_i i
   cases e; obtain ⟨v,rfl,e1⟩:=Np rl;cases (show _=_ from e1);exact Pf pins s σ H _ us Q I r (.inl ⟨i,rfl,q _ G H (Grow.refl hG) rfl⟩)
 . rename_i b
   cases e; obtain ⟨v,rfl,e1⟩:=Np rl;cases (show _=_ from e1);refine Pf pins s σ H _ us Q I r (.inr ⟨b,rfl,?_⟩); have:=q (.int (if b then 1 else 0)) G H (Grow.refl hG) rfl;cases b <;> exact this
 . cases e
theorem gW {n:Nat} (C:Cxt P w K mg base X N sc k df) (h:okGl sc "tuple" = true) (hm:mg "tuple" = none) (ha:DA X E (e::es) n fs)
   (he:rP (e::es) X.env=(false,eval e X.env)::rP es X.env:=by rfl) (hpl:(tR pos (rP es X.env)).any (·.1)=false:=by rfl):DE X E (.Call (.Name "tuple" p) (e::es) [] pos) (vFn fs Es) :=
 Uk C Xa h hm (by decide +kernel) ha he hpl
theorem qU {n:Nat} (C:Cxt P w K mg base X N sc k df) (h:okGl sc "int" = true) (hm:mg "int" = none) (ha:DA X E (e::es) n fs)
   (he:rP (e::es) X.env=(false,eval e X.env)::rP es X.env:=by rfl) (hpl:(tR pos (rP es X.env)).any (·.1)=false:=by rfl):DE X E (.Call (.Name "int" p) (e::es) [] pos) (vFn fs Pc) :=
 Uk C Xd h hm (by decide +kernel) ha he hpl
noncomputable def Bx:List rG->Option (List Str)
 | []=>some []
 | .str b::ds=>(Bx ds).map (b::·)
 | _::_=>none
noncomputable def Pb (x:Str):rG->Option rG
 | .list ds=>(Bx ds).bind fun ys=>if (ys.map (·.length)).sum+ys.length*x.length<=16777216/\sW (yK x ys)=true/\(yK x ys).length<=sizeLine then some (.str (yK x ys)) else none
 | _=>none
theorem Rv {G:Hp}:∀ {ds:List rG} {xs:List V} {us:List rJ} {ys:List Str},RepL G ds xs->Vals xs us->Bx ds=some ys->BD us ys
 | [],_,_,_,r,q,e=>by cases (show _=_ from r); cases q; cases e; exact .nil
 | .str b::ds,_,_,_,r,q,e=>by
   obtain ⟨x,t,rfl,h,l⟩:=r;cases h.1;cases q with
   | cons q qs =>
     obtain ⟨tk,rfl⟩:=q; obtain ⟨bs,e1,rfl⟩:=xP.mp e; exact .cons _ _ (Rv l qs e1)
 | .none::_,_,_,_,_,_,e=>by cases e
 | .int _::_,_,_,_,_,_,e=>by cases e
 | .bool _::_,_,_,_,_,_,e=>by cases e
 | .list _::_,_,_,_,_,_,e=>by cases e
 | .tuple _::_,_,_,_,_,_,e=>by cases e
 | .dict _::_,_,_,_,_,_,e=>by cases e
theorem kS:MtR X "str.join" (fun x vs H Q=>∃ G z v d r,Same G H/\x=.str z/\vs=[v]/\Rep G d v/\Pb z d=some (.str r)/\Q (.str r) H):=by
 rintro pins s σ H x vs v us Q I rx rv ⟨G,z,y,d,r,hG,e1,e2,rd,e,q⟩;subst e1 e2;obtain ⟨t,rfl⟩:=rx;obtain ⟨u,rfl,ru⟩:=rv.one;cases d with
 | list ds =>
   obtain ⟨ys,e3,e4⟩:=BQ.mp e;split at e4
   . rename_i hc
     cases e4; obtain ⟨l,xs,rfl,h1,l1⟩:=rd; cases ru; obtain ⟨zz,its,n,rv2,e5⟩:=Al I hG h1; refine join_list ⟨_,e5,rfl,n,rfl⟩ (by simpa using Rv l1 rv2 e3) hc.1 fun t' k=>⟨.str _,H,I.tok _,⟨t',?_⟩,q⟩;rw [xI (join_plain_closes z ys)]
   . cases e4
 | _=>cases e
noncomputable def Od (x:Str) (f:Dn->Res rG):Dn->Res rG:=fun δ=>(f δ).bind fun d=>ofO (Pb x d)
theorem bJ {z:Str} {d d':rG} (e:Pb z d=some d'):∃ r,d'=.str r/\sW r=true/\r.length<=sizeLine:=by
 cases d with
 | list ds =>
   obtain ⟨ys,e3,e4⟩:=BQ.mp e;split at e4
   . rename_i hc; cases e4; exact ⟨_,rfl,hc.2.1,hc.2.2⟩
   . cases e4
 | _=>cases e
theorem gX {z:Str} {j:Nat} {p1 apos cpos:Pos} (ha:DE X E a f) (hbase:sQ (.Constant (.str z) j p1) "join" X.env (eval (.Constant (.str z) j p1) X.env)=eval (.Constant (.str z) j p1) X.env:=by rfl)
   (hfew:((tR cpos (rP [a] X.env)).all (fun x => !x.1)&&(wI cpos (uJ [] X.env)).all (fun x=>x.1.isSome)
     && decide ([a].length+([]:List wU).length+(if ([]:List wU).isEmpty then 0 else 1) < 30))=true:=by rfl)
   (hline:(apos.endLine==cpos.line)=true:=by rfl) (hs:rP [a] X.env=(false,eval a X.env)::rP [] X.env:=by rfl) (hplain:(tR cpos (rP [] X.env)).any (·.1)=false:=by rfl) :
   DE X E (.Call (.Attribute (.Constant (.str z) j p1) "join" apos) [a] [] cpos) (Od z f):=by
 refine PE.imp (Ie PySem.F.plainAttrs_str PySem.F.slot_str_join PySem.F.type_str_join kS eP (C8 ha F7 hs) hbase hfew hline hs hplain) fun σ H Q hY54=>?_;obtain ⟨G,δ,S,aft⟩:=hY54;refine ⟨rfl,?_⟩;refine P9 S aft fun d v G1 H1 g1 r1 S1 a1=>?_;cases e:Pb z d with
 | none=>rw [e] at a1; exact a1.elim
 | some d' =>
   obtain ⟨r,rfl,o1,o2⟩:=bJ e; rw [e] at a1; exact ⟨G1,z,v,d,r,S1.sub,rfl,rfl,r1,e,a1 _ G1 H1 (Grow.refl S1.sub) ⟨rfl,o1,o2⟩⟩
def spD (n:Nat) (m:List rG->Res rG):Sp:=fun vs H Q _=>∃ G ds d,Same G H/\RepL G ds vs/\ds.length=n/\m ds=.ok d/\∀ v G' H',Grow G H G' H'->Rep G' d v->Q v H'
structure Fn (P:sE) (w:sT) (K:rK) (mg:Str->Option rJ) (base:tL) (x:Str) (k n:Nat) (m:List rG->Res rG):Prop where
 ex:∃ f fd ps,ps.length=n/\FnOk P w K mg base CX0 k f fd ps (spD n m)/\mg x=some (.ref f)/\tJ K (.ref f)=true/\Binds K fd ps []
def E0k:EK:=fun _ _=>False
noncomputable def C9 (fs:Dn->Res (List rG)) (m:List rG->Res rG):Dn->Res rG:=fun δ=>(fs δ).bind m
theorem F4 {x:Str} {j n:Nat} {m:List rG->Res rG} (C:Cxt P w K mg base X N sc k df) (F:Fn P w K mg base x j n m) (hj:j<=k) (h:okGl sc x=true) (ha:DA X E0k (e::es) n fs)
   (he:rP (e::es) X.env=(false,eval e X.env)::rP es X.env:=by rfl) (hpl:(tR pos (rP es X.env)).any (·.1)=false:=by rfl):DE X E0k (.Call (.Name x p) (e::es) [] pos) (C9 fs m):=by
 obtain ⟨f,fd,ps,hps,F,hm,hk,hb⟩:=F.ex;obtain ⟨h1,h2,h3⟩:=okGl.gl C h;have F':FnOk X.prog X.w X.K X.mg X.base CX0 j f fd ps (spD n m):=by rw [C.hP,C.hw,C.hK,C.hmg,C.hb]; exact F
 refine PE.imp (Jf F' (C.room.mono hj) h1 (by rw [C.hmg]; exact hm) (by rw [C.hK]; exact hk) (by rw [C.hK]; exact hb) .nil (Em (X:=X)) ha.pa h2 he hpl) fun σ H Q hY55=>?_;obtain ⟨G,δ,S,aft⟩:=hY55;refine U0 (W:=fun G H r=>Aft E0k G H r Q) S aft (fun g a=>Aft.grow g a) (fun c a=>a) (fun a=>a) fun ds vs G1 H1 e g1 r1 S1 a1=>?_;rw [uG];cases q:m ds with
 | ok d=>rw [q] at a1; exact ⟨G1,ds,d,S1.sub,r1,ha.len δ ds e,q,a1⟩
 | exc c=>rw [q] at a1; exact (a1 G1 H1 (Grow.refl S1.sub)).elim
 | no=>rw [q] at a1; exact a1.elim
end
end Sm
end
noncomputable section
namespace Sm
open PySem PySem.Spec PyProof.Rows L2
def Its (z:Str):It:=⟨fun i _=>i < z.cps.size,fun i H x H'=>H'=H/\∃ c,z.cps[i]? = some c/\x=.str ⟨#[c]⟩,fun i _=>z.cps.size<=i⟩
theorem Vc {P:sE} {w:sT} {K:rK} {tg:Expr} (it:rN) (z:Str) (t:Tok):Turn P w K tg (Its z) [it] it (fun i h=>h.IsStrIter it "str_ascii_iterator" z t i) where
 mem:=by simp
 obj:=fun i h st b hb=>by
   have e:b=it:=by simpa using hb
   subst e; obtain ⟨o,e,c,d⟩:=st; exact ⟨o,e,fun v z=>by rw [d] at z; cases z⟩
 keep:=fun i h h' st k=>by
   obtain ⟨o,e,c,d⟩:=st; exact ⟨o,k it (by simp) o e,c,d⟩
 item:=by
   intro X hP hw hK hc i pins s σ H E I hf st hg; subst hP hw hK; obtain ⟨f0,f1,f2,f3,f4,f5⟩:=hf it (by simp);have hi:i < z.cps.size:=hg; refine wpAny_pyNext_ascii_item st (c:=z.cps[i]) (by simp [hi]) fun h' st' sb=>?_;have I1:Inv X pins σ H { s with heap:=h',toks:=s.toks+1 }:=I.turned (fun b o hb e=>(sb.2 b hb).trans e) f0 f1 f3 f4 f5;obtain ⟨o,e,c,d⟩:=id st'; exact ⟨_,rfl,Me (s:={ s with heap:=h',toks:=s.toks+1 }) e c d (by decide) ⟨.str ⟨#[z.cps[i]]⟩,H,I1,⟨_,rfl⟩,⟨rfl,_,by simp [hi],rfl⟩,st',fun b hb=>(hf b hb).1⟩⟩
 done:=by
   intro X hP hw hK hc i pins s σ H E I hf st hg; subst hP hw hK; obtain ⟨f0,f1,f2,f3,f4,f5⟩:=hf it (by simp);have hi:z.cps.size<=i:=hg; exact wpAny_pyNext_ascii_end (I.ok.hd hc) st (by simpa using hi) fun h' eb=>⟨rfl,I.turned (t':=s.toks) (fun b o hb e=>eb b o hb e) f0 f1 f3 f4 f5⟩
 self:=fun _ _ _ _ _ st h=>wpAny_pyIter_striter_ascii st h
theorem Zi {P:sE} {w:sT} {K:rK} {tg:Expr} (it:rN) (z:Str) (t:Tok):Turn P w K tg (Its z) [it] it (fun i h=>h.IsStrIter it "str_iterator" z t i) where
 mem:=by simp
 obj:=fun i h st b hb=>by
   have e:b=it:=by simpa using hb
   subst e; obtain ⟨o,e,c,d⟩:=st; exact ⟨o,e,fun v z=>by rw [d] at z; cases z⟩
 keep:=fun i h h' st k=>by
   obtain ⟨o,e,c,d⟩:=st; exact ⟨o,k it (by simp) o e,c,d⟩
 item:=by
   intro X hP hw hK hc i pins s σ H E I hf st hg; subst hP hw hK; obtain ⟨f0,f1,f2,f3,f4,f5⟩:=hf it (by simp);have hi:i < z.cps.size:=hg; refine wpAny_pyNext_wide_item st (c:=z.cps[i]) (by simp [hi]) fun h' st' sb=>?_;have I1:Inv X pins σ H { s with heap:=h',toks:=s.toks+1 }:=I.turned (fun b o hb e=>(sb.2 b hb).trans e) f0 f1 f3 f4 f5;obtain ⟨o,e,c,d⟩:=id st'; exact ⟨_,rfl,Me (s:={ s with heap:=h',toks:=s.toks+1 }) e c d (by decide) ⟨.str ⟨#[z.cps[i]]⟩,H,I1,⟨_,rfl⟩,⟨rfl,_,by simp [hi],rfl⟩,st',fun b hb=>(hf b hb).1⟩⟩
 done:=by
   intro X hP hw hK hc i pins s σ H E I hf st hg; subst hP hw hK; obtain ⟨f0,f1,f2,f3,f4,f5⟩:=hf it (by simp);have hi:z.cps.size<=i:=hg; exact wpAny_pyNext_wide_end (I.ok.hd hc) st (by simpa using hi) fun h' eb=>⟨rfl,I.turned (t':=s.toks) (fun b o hb e=>eb b o hb e) f0 f1 f3 f4 f5⟩
 self:=fun _ _ _ _ _ st h=>wpAny_pyIter_striter_wide st h
def Ite (K:rK) (a:rN):It :=
 ⟨fun i H=>∃ xs x,SqL K H a xs/\xs[i]? = some x,fun i H x H'=>∃ p y,H p=none/\x=.ref p/\H'=upd H p (.tup [.int i,y])/\∀ xs,SqL K H a xs->xs[i]? = some y,fun i H=>∃ xs,SqL K H a xs/\xs.length<=i⟩
theorem Zj {P:sE} {w:sT} {K:rK} {elts:List Expr} {x1:Nat} {tp:Pos} (a e it:rN) (hne:e≠it):Turn P w K (.Tuple elts x1 tp) (Ite K a) [e,it] e (fun i h=>(∃ old,IsEnum h e it (i:Int) old)/\h.IsListIter it a i) where
 mem:=by simp
 obj:=fun i h st b hb=>by
   obtain ⟨⟨old,h1⟩,o,h2,c,d⟩:=st; rcases rT.mp hb with rfl | hb
   . exact ⟨_,h1,fun v z=>by cases z⟩
   . have e':b=it:=by simpa using hb
     subst e'; exact ⟨o,h2,fun v z=>by rw [d] at z; cases z⟩
 keep:=fun i h h' st k=>by
   obtain ⟨⟨old,h1⟩,o,h2,c,d⟩:=st; exact ⟨⟨old,k e (by simp) _ h1⟩,o,k it (by simp) o h2,c,d⟩
 item:=by
   intro X hP hw hK hc i pins s σ H E I hf st hg; subst hP hw hK; obtain ⟨⟨old,he⟩,st⟩:=st; obtain ⟨xs,x,hq,hx⟩:=hg; obtain ⟨its,rv,p,hz⟩:=I.list hq; obtain ⟨u,hu,ru⟩:=rv.get hx; obtain ⟨f0,f1,f2,f3,f4,f5⟩:=hf e (by simp);obtain ⟨g0,g1,g2,g3,g4,g5⟩:=hf it (by simp);refine wpAny_pyNext_enum_item he st p.isList (x:=u) (by simpa using hu) hne fun h' he' st' ht' hsz kp=>?_;refine ⟨_,rfl,wpAny_letOwnedTupleGo_enum he' fun h2 he2 sb=>?_⟩;have hfr:H s.heap.objs.size=none:=I.fresh; have elt:e < s.heap.objs.size:=sN he; have ilt:it < s.heap.objs.size:=by obtain ⟨o,h,_⟩:=st; exact sN h
   have kp2:∀ b o,b≠e->b≠it->s.heap.get? b=some o->h2.get? b=some o:=fun b o h1 h3 q=>(sb.2 b h1).trans (kp b o h1 h3 q);have I1:Inv X pins σ H { s with heap:=h2,toks:=s.toks+1 }:=by
     refine I.step (g':=s.gens) (d':=s.drawn) (ch:=[e,it]) (fun b hb=>?_) (fun b o _ _ hcb q _=>kp2 b o (fun z=>hcb (by simp [z])) (fun z=>hcb (by simp [z])) q) (fun b o _ _ hcb q _=>⟨o.slots,kp2 b o (fun z=>hcb (by simp [z])) (fun z=>hcb (by simp [z])) q⟩) (fun _ _ _ _ n=>n)
       (fun b o hcb q=>⟨o,kp2 b o (fun z=>hcb (by simp [z])) (fun z=>hcb (by simp [z])) q⟩) (fun _ _ q=>q) (fun _ _ _ q=>q) (fun b ps q=>⟨#[],by rw [q]; simp⟩) (fun m hm=>?_) (fun b u' q=>?_) I.bare
     . rcases rT.mp hb with rfl | hb
       . exact ⟨f3,f1,f4,f5⟩
       . have e':b=it:=by simpa using hb
         subst e'; exact ⟨g3,g1,g4,g5⟩
     . obtain ⟨o,es,ep,ho,r⟩:=hm
       exact ⟨o,es,ep,kp2 _ o (Ne.symm f1) (Ne.symm g1) ho,r⟩
     . refine (I.hok b u' q).stay (fun c v hcc q'=>kp2 c v ?_ ?_ q') (fun _ q'=>q') fun _ _ q'=>q'
       . rintro rfl
         rcases hcc with z | z
         . subst z; rw [f0] at q; cases q
         . rw [f0] at z; cases z
       . rintro rfl
         rcases hcc with z | z
         . subst z; rw [g0] at q; cases q
         . rw [g0] at z; cases z
   have htt:h2.get? s.heap.objs.size=some { cls:=.type "tuple",data:=.seq #[.int i s.toks,u] }:=(sb.2 _ (c6 elt)).trans ht'; have Hold:∀ b o,H b=some o->b≠s.heap.objs.size:=fun b o q z=>by subst z; rw [hfr] at q; cases q
   have I2:Inv X pins σ (upd H s.heap.objs.size (.tup [.int i,x])) { s with heap:=h2,toks:=s.toks+1 }:=by
     have nb:∀ b o,b≠s.heap.objs.size->s.heap.get? b=some o->True:=fun _ _ _ _=>trivial;have base':Un X.fs X.ex X.H₀ (upd H s.heap.objs.size (.tup [.int i,x])) X.s₀.heap h2:=by
       have B:=I1.base; have ne0:∀ b o,X.s₀.heap.get? b=some o->b≠s.heap.objs.size:=fun b o q=>tG (sP (sN q) I.sz);exact ⟨B.keep,B.slot,fun b o q n hx=>by rw [B4 (ne0 b o q)]; exact B.free b o q n hx,B.there,
         fun b ys q=>by rw [B4 (Hold b _ (B.tups b ys q))]; exact B.tups b ys q,fun b o' u' q=>by rw [B4 (Hold b _ (B.frzs b o' u' q))]; exact B.frzs b o' u' q,
         fun b ps q=>by obtain ⟨m,q'⟩:=B.tbls b ps q; exact ⟨m,by rw [B4 (Hold b _ q')]; exact q'⟩⟩
     have hok':HOk X.prog X.w (upd H s.heap.objs.size (.tup [.int i,x])) h2:=fun b o q=>by
       by_cases hb:b=s.heap.objs.size
       . subst hb
         rw [B7] at q; cases q; refine ⟨by show 2<=sizeLine; decide,[.int i s.toks,u],.cons ⟨_,rfl⟩ (.cons ru .nil),⟨_,htt,rfl,0,rfl⟩⟩
       . rw [B4 hb] at q
         exact (I1.hok b o q).stay (fun _ _ _ q'=>q') (fun c q'=>by rw [B4 (Hold c _ q')]; exact q') fun c ys q'=>by rw [B4 (Hold c _ q')]; exact q'
     refine ⟨I1.ok,I1.os,I1.bare,base',I1.loc,I1.cell,?_,fun y c q=>?_,fun p hp=>?_,hok',I1.len⟩
     . rw [B4 (tG I.lt)]; exact I1.free
     . obtain ⟨v,oc,hoc,_⟩:=I.cell y c q
       rw [B4 (tG (sN hoc))]; exact I1.freeC y c q
     . obtain ⟨q1,q2,q3,q4,q5⟩:=I1.pin p hp
       refine ⟨q1,?_,q3,q4,q5⟩; rw [B4 (tG (sN (I.pin p hp).1))]; exact q2
   refine ⟨.ref s.heap.objs.size,_,I2,rfl,⟨_,x,hfr,rfl,rfl,fun ys hy=>by rw [I.list_inj hy hq]; exact hx⟩,⟨⟨_,by push_cast; exact he2⟩,?_⟩,fun b hb=>?_⟩
   . obtain ⟨o,q,c,d⟩:=st'
     exact ⟨o,(sb.2 it (Ne.symm hne)).trans q,c,d⟩
   . rcases rT.mp hb with rfl | hb
     . rw [B4 (tG elt)]; exact f0
     . have e':b=it:=by simpa using hb
       subst e'; rw [B4 (tG ilt)]; exact g0
 done:=by
   intro X hP hw hK hc i pins s σ H E I hf st hg; subst hP hw hK; obtain ⟨⟨old,he⟩,st⟩:=st; obtain ⟨xs,hq,hx⟩:=hg; obtain ⟨its,rv,p,hz⟩:=I.list hq; obtain ⟨g0,g1,g2,g3,g4,g5⟩:=hf it (by simp);have hl:=rv.length; exact wpAny_pyNext_enum_end (I.ok.hd hc) he st p.isList (by simp; lia) fun h' eb=>⟨rfl,I.turned (t':=s.toks) (fun b o hb e=>eb b o hb e) g0 g1 g3 g4 g5⟩
 self:=fun _ _ _ _ _ st h=>by
   obtain ⟨⟨old,he⟩,_⟩:=st; exact wpAny_pyIter_enum he h
end Sm
end
noncomputable section
namespace Sm
open PySem PySem.Spec PyProof.Rows L2
structure Walk (J:It) (G:Hp) (ds:List rG):Prop where
 go:∀ (i:Nat) (H:Hp),i < ds.length->Same G H->J.go i H
 yld:∀ (i:Nat) (d:rG) (G2 H:Hp) (x:V) (H':Hp),ds[i]? = some d->Same G G2->Same G2 H->J.yld i H x H'->∃ G3,Grow G2 H G3 H'/\Rep G3 d x
 stop:∀ (i:Nat) (H:Hp),ds.length<=i->Same G H->J.stop i H
def AftI (E:EK) (G H:Hp) (r:Res (List rG)) (R:It->Hp->Prop):Prop:=match r with
 | .ok ds=>∀ J G' H',Grow G H G' H'->Walk J G' ds->R J H'
 | .exc c=>∀ G' H',Grow G H G' H'->E c H'
 | .no=>False
def tI (E:EK) (f:Dn->Res (List rG)):TI:=fun σ H R=>∃ G δ,SR G H σ δ/\AftI E G H (f δ) R
abbrev DI (X:Cx) (E:EK) (tg e:Expr) (f:Dn->Res (List rG)):Prop:=PI X tg e (tI E f)
theorem AftI.grow {E:EK} {G H G' H':Hp} {r:Res (List rG)} {Q:It->Hp->Prop} (g:Grow G H G' H') (a:AftI E G H r Q):AftI E G' H' r Q:=by
 cases r with
 | ok d=>exact fun v G2 H2 g2 q=>a v G2 H2 (g.trans g2) q
 | exc c=>exact fun G2 H2 g2=>a G2 H2 (g.trans g2)
 | no=>exact a
theorem PI.imp {X:Cx} {tg e:Expr} {t t':TI} (h:PI X tg e t) (i:∀ σ H Q,t' σ H Q->t σ H Q):PI X tg e t':=fun pins s σ H Q I q=>h pins s σ H Q I (i _ _ _ q)
noncomputable def Pv (x:Str):List rG:=x.cps.toList.map fun c=>.str ⟨#[c]⟩
noncomputable def L4:rG->Res (List rG)
 | .list ds=>.ok ds
 | .tuple ds=>.ok ds
 | .str x=>.ok (Pv x)
 | _=>.no
theorem Ob {K:rK} {G:Hp} {a:rN} {xs:List V} {ds:List rG} (h:Rd G a (.lst xs)) (l:RepL G ds xs):Walk (Itl K a) G ds where
 go:=fun i H hi hG=>by
   have hi':i < xs.length:=by rw [<- l.length]; exact hi
   exact ⟨xs,xs[i],.inl (Rd.mono hG h),by simp [hi']⟩
 yld:=fun i d G2 H x H' e h1 h2 hy=>by
   obtain ⟨rfl,hy⟩:=hy; obtain ⟨y,e1,r⟩:=l.get e; have:=hy xs (.inl (Rd.mono (h1.trans h2) h)); rw [e1] at this; cases this; exact ⟨G2,Grow.refl h2,r.mono h1⟩
 stop:=fun i H hi hG=>⟨xs,.inl (Rd.mono hG h),by rw [<- l.length]; exact hi⟩
theorem bW {K:rK} {G:Hp} {a:rN} {xs:List V} {ds:List rG} (h:G a=some (.tup xs)) (l:RepL G ds xs):Walk (Itt K a) G ds where
 go:=fun i H hi hG=>by
   have hi':i < xs.length:=by rw [<- l.length]; exact hi
   exact ⟨xs,xs[i],.inl (.inl (hG _ _ h)),by simp [hi']⟩
 yld:=fun i d G2 H x H' e h1 h2 hy=>by
   obtain ⟨rfl,hy⟩:=hy; obtain ⟨y,e1,r⟩:=l.get e; have:=hy xs (.inl (.inl (h2 _ _ (h1 _ _ h)))); rw [e1] at this; cases this; exact ⟨G2,Grow.refl h2,r.mono h1⟩
 stop:=fun i H hi hG=>⟨xs,.inl (.inl (hG _ _ h)),by rw [<- l.length]; exact hi⟩
theorem Rn {G:Hp} {z:Str} (ho:sW z=true):Walk (Its z) G (Pv z) where
 go:=fun i H hi hG=>by
   show i < z.cps.size;simpa [Pv] using hi
 yld:=fun i d G2 H x H' e h1 h2 hy=>by
   obtain ⟨rfl,c,hc,rfl⟩:=hy; have e':(z.cps.toList.map fun c=>uT ⟨#[c]⟩)[i]? = some d:=e;rw [sB,xU,hc] at e';cases e'; refine ⟨G2,Grow.refl h2,rfl,?_,by show 1<=sizeLine; decide⟩;unfold sW at ho ⊢;rw [<- AJ,wH] at ho; have:=ho c (by rw [<- xU] at hc; exact tZ hc);simpa using this
 stop:=fun i H hi hG=>by
   show z.cps.size<=i;simpa [Pv] using hi
theorem Jm {G:Hp} (lo:Int) (n:Nat):Walk (Itr lo n) G ((vV n).map fun (i:Nat)=>wA (lo+i)) where
 go:=fun i H hi hG=>by
   show i < n;simpa using hi
 yld:=fun i d G2 H x H' e h1 h2 hy=>by
   obtain ⟨rfl,rfl⟩:=hy; rw [sB] at e;by_cases hi:i < n
   . rw [yQ hi] at e; cases e; exact ⟨G2,Grow.refl h2,rfl⟩
   . rw [vJ (by simpa using hi)] at e; cases e
 stop:=fun i H hi hG=>by
   show n<=i;simpa using hi
noncomputable def Ep (ds:List rG):List rG:=ds.mapIdx fun i d=>.tuple [.int i,d]
theorem Zh {K:rK} {G:Hp} {a:rN} {xs:List V} {ds:List rG} (h:Rd G a (.lst xs)) (l:RepL G ds xs):Walk (Ite K a) G (Ep ds) where
 go:=fun i H hi hG=>by
   have hi':i < xs.length:=by rw [<- l.length]; simpa [Ep] using hi
   exact ⟨xs,xs[i],.inl (Rd.mono hG h),by simp [hi']⟩
 yld:=fun i d G2 H x H' e h1 h2 hy=>by
   obtain ⟨p,y,hp,rfl,rfl,hy⟩:=hy; unfold Ep at e; rw [DD] at e; obtain ⟨d0,e0,rfl⟩:=xP.mp e; obtain ⟨y',e1,r⟩:=l.get e0; have:=hy xs (.inl (Rd.mono (h1.trans h2) h)); rw [e1] at this; cases this; refine ⟨upd G2 p (.tup [.int i,y]),Grow.new h2 hp,p,_,rfl,B7,RepL.cons rfl (RepL.cons (r.mono (h1.trans (Same.upd (h2.free hp)))) rfl)⟩
 stop:=fun i H hi hG=>⟨xs,.inl (Rd.mono hG h),by rw [<- l.length]; simpa [Ep] using hi⟩
noncomputable section
variable {P:sE} {w:sT} {K:rK} {mg:Str->Option rJ} {base:tL} {X:Cx} {N:List Str} {sc:Scope} {k:Nat} {df:Bool} {E:EK} {pos p:Pos} {tg a b c e:Expr} {f g:Dn->Res rG} {fs src:Dn->Res (List rG)}
theorem Dm (ha:DE X E a f):DI X E tg a (fun δ=>(f δ).bind L4):=by
 rintro pins s σ H R I ⟨G,δ,S,aft⟩;have h:=Jl (R:=fun v H1=>∃ G1 d,Same G1 H1/\Rep G1 d v/\AftI E G1 H1 (L4 d) R) (W:=fun G H r=>AftI E G H r R) S aft (fun g a=>AftI.grow g a) (fun c a=>a) (fun a=>a) fun d v G1 H1 g1 r1 S1 a1=>⟨G1,d,S1.sub,r1,a1⟩;refine thn (ha pins s σ H _ I h) fun v s1 hZ2=>?_;obtain ⟨x,H1,I1,rx,G1,d,hG,rd,a1⟩:=hZ2;cases d with
 | list ds =>
   obtain ⟨p,xs,rfl,h1,l1⟩:=rd; cases rx; obtain ⟨zz,its,n,rv,e1⟩:=Al I1 hG h1; refine wpAny_pyIter_list ⟨_,e1,rfl,n,rfl⟩ ?_; refine ⟨s1.heap.objs.size,[s1.heap.objs.size],_,_,H1,rfl,I1.kept (t':=s1.toks) fun b o e=>rW _ e,Oe p _,⟨_,sL _ rfl,rfl,rfl⟩,fun b hb=>?_,a1 _ G1 H1 (Grow.refl hG) (Ob h1 l1)⟩;have e:b=s1.heap.objs.size:=by simpa using hb
   subst e; exact I1.fpOk (sC _) I1.fresh
 | tuple ds =>
   obtain ⟨p,xs,rfl,h1,l1⟩:=rd; cases rx; obtain ⟨zz,its,rv,pt⟩:=Hg I1 hG h1; refine wpAny_pyIter_tuple (show s1.heap.IsTuple p its.toArray from pt) ?_;refine ⟨s1.heap.objs.size,[s1.heap.objs.size],_,_,H1,rfl,I1.kept (t':=s1.toks) fun b o e=>rW _ e,Va p _,⟨_,sL _ rfl,rfl,rfl⟩,fun b hb=>?_,a1 _ G1 H1 (Grow.refl hG) (bW h1 l1)⟩;have e:b=s1.heap.objs.size:=by simpa using hb
   subst e; exact I1.fpOk (sC _) I1.fresh
 | str z =>
   obtain ⟨e0,o1,l1⟩:=rd; subst e0; obtain ⟨t,rfl⟩:=rx;cases ha:z.cps.all (· < 128)
   . refine wpAny_pyIter_wide ha ?_
     refine ⟨s1.heap.objs.size,[s1.heap.objs.size],_,_,H1,rfl,I1.kept (t':=s1.toks) fun b o e=>rW _ e,Zi _ z t,⟨_,sL _ rfl,rfl,rfl⟩,fun b hb=>?_,a1 _ G1 H1 (Grow.refl hG) (Rn o1)⟩;have e:b=s1.heap.objs.size:=by simpa using hb
     subst e; exact I1.fpOk (sC _) I1.fresh
   . refine wpAny_pyIter_ascii ha ?_
     refine ⟨s1.heap.objs.size,[s1.heap.objs.size],_,_,H1,rfl,I1.kept (t':=s1.toks) fun b o e=>rW _ e,Vc _ z t,⟨_,sL _ rfl,rfl,rfl⟩,fun b hb=>?_,a1 _ G1 H1 (Grow.refl hG) (Rn o1)⟩;have e:b=s1.heap.objs.size:=by simpa using hb
     subst e; exact I1.fpOk (sC _) I1.fresh
 | _=>exact (show False from a1).elim
noncomputable def M4 (lo hi:Int):List rG:=(vV (hi - lo).toNat).map fun (i:Nat)=>wA (lo+i)
noncomputable def Ai:List rG->Res (List rG)
 | [.int j]=>if -(2 ^ 62)<=j/\j < 2 ^ 62 then .ok (M4 0 j) else .no
 | _=>.no
noncomputable def Vw:List rG->Res (List rG)
 | [.int i,.int j]=>if -(2 ^ 62)<=i/\i < 2 ^ 62 /\ -(2 ^ 62)<=j/\j < 2 ^ 62 then .ok (M4 i j) else .no
 | _=>.no
theorem V9 {n:Nat} (C:Cxt P w K mg base X N sc k df) (h:okGl sc "range" = true) (hm:mg "range" = none) (ha:DA X E [a] n fs) (hs:rP [a] X.env=[(false,eval a X.env)]:=by rfl) :
   DI X E tg (.Call (.Name "range" p) [a] [] pos) (fun δ=>(fs δ).bind Ai):=by
 refine PI.imp (aI (okGl.gl C h).1 (by rw [C.hmg]; exact hm) ha.pa hs) fun σ H Q hY56=>?_;obtain ⟨G,δ,S,aft⟩:=hY56;refine U0 (W:=fun G H r=>AftI E G H r Q) S aft (fun g a=>AftI.grow g a) (fun c a=>a) (fun a=>a) fun ds vs G1 H1 e g1 r1 S1 a1=>?_;unfold Ai at a1;split at a1
 . rename_i j
   split at a1
   . rename_i hc
     obtain ⟨v,rfl,e1⟩:=Np r1;cases (show _=_ from e1);refine ⟨j,rfl,hc.1,hc.2,a1 _ G1 H1 (Grow.refl S1.sub) ?_⟩; have:=Jm (G:=G1) 0 j.toNat; unfold M4; rw [Int.sub_zero]; exact this
   . exact a1.elim
 . exact a1.elim
theorem gE {n:Nat} (C:Cxt P w K mg base X N sc k df) (h:okGl sc "range" = true) (hm:mg "range" = none) (ha:DA X E [a,b] n fs) (hs:rP [a,b] X.env=[(false,eval a X.env),(false,eval b X.env)]:=by rfl) (hs2:rP [b] X.env=[(false,eval b X.env)]:=by rfl) :
   DI X E tg (.Call (.Name "range" p) [a,b] [] pos) (fun δ=>(fs δ).bind Vw):=by
 refine PI.imp (aH (okGl.gl C h).1 (by rw [C.hmg]; exact hm) ha.pa hs hs2) fun σ H Q hY57=>?_;obtain ⟨G,δ,S,aft⟩:=hY57;refine U0 (W:=fun G H r=>AftI E G H r Q) S aft (fun g a=>AftI.grow g a) (fun c a=>a) (fun a=>a) fun ds vs G1 H1 e g1 r1 S1 a1=>?_;unfold Vw at a1;split at a1
 . rename_i i j
   split at a1
   . rename_i hc
     obtain ⟨v,v',rfl,e1,e2⟩:=oA r1;cases (show _=_ from e1); cases (show _=_ from e2);exact ⟨i,j,rfl,hc,a1 _ G1 H1 (Grow.refl S1.sub) (Jm i (j - i).toNat)⟩
   . exact a1.elim
 . exact a1.elim
noncomputable def Mi:List rG->Res (List rG)
 | [.list ds]=>.ok (Ep ds)
 | _=>.no
theorem qG {n x1:Nat} {elts:List Expr} {tp:Pos} (C:Cxt P w K mg base X N sc k df) (h:okGl sc "enumerate" = true) (hm:mg "enumerate" = none) (ha:DA X E [a] n fs) (he:rP [a] X.env=(false,eval a X.env)::rP [] X.env:=by rfl) (hpl:(tR pos (rP [] X.env)).any (·.1)=false:=by rfl) :
   DI X E (.Tuple elts x1 tp) (.Call (.Name "enumerate" p) [a] [] pos) (fun δ=>(fs δ).bind Mi):=by
 rintro pins s σ H R I ⟨G,δ,S,aft⟩;obtain ⟨h1,h2,h3⟩:=okGl.gl C h;have hh:=U0 (R:=fun vs H1=>∃ G1 ds,Same G1 H1/\RepL G1 ds vs/\AftI E G1 H1 (Mi ds) R) (W:=fun G H r=>AftI E G H r R) S aft (fun g a=>AftI.grow g a) (fun c a=>a) (fun a=>a) fun ds vs G1 H1 e g1 r1 S1 a1=>⟨G1,ds,S1.sub,r1,a1⟩;refine xX (Fc I h1 (by rw [C.hmg]; exact hm) boot_enumerate ?_ h3 h2);refine vI (thn (ha.pa pos pins s σ H _ I hh) fun us s1 hY58=>?_) he hpl;obtain ⟨vs,H1,I1,rv,G1,ds,hG,rl,a1⟩:=hY58;unfold Mi at a1;split at a1
 . rename_i ys
   obtain ⟨v,rfl,l,xs,rfl,q1,l1⟩:=Np rl; obtain ⟨u,rfl,ru⟩:=Jq rv; cases ru; obtain ⟨zz,its,nn,rw',e1⟩:=Al I1 hG q1; refine call_enumerate_list ⟨_,e1,rfl,nn,rfl⟩ fun h' he' hit hsz kp=>?_;have I2:Inv X pins σ H1 { s1 with heap:=h' }:=I1.kept (t':=s1.toks) kp; refine wpAny_pyIter_enum he' ?_; refine ⟨s1.heap.objs.size+1,[s1.heap.objs.size+1,s1.heap.objs.size],_,_,H1,rfl,I2,Zj l _ _ (c6 (zI _)),⟨⟨_,he'⟩,hit⟩,fun b hb=>?_,a1 _ G1 H1 (Grow.refl hG) (Zh q1 l1)⟩;rcases rT.mp hb with rfl | hb
   . exact I1.fpOk (zR _) (I1.hok.fresh (zR _))
   . have e:b=s1.heap.objs.size:=by simpa using hb
     subst e; exact I1.fpOk (sC _) I1.fresh
 . exact a1.elim
noncomputable def L3 (d:rG):Res (List Sl):=.ok [.sh d]
noncomputable def Ij:rG->Res (List Sl)
 | .tuple [a,b]=>.ok [.sh a,.sh b]
 | _=>.no
noncomputable def D7 (bnd:rG->Res (List Sl)) (δc:Dn) (tt:Dn->Res Bool) (el:Dn->Res rG):List rG->Res (List rG)
 | []=>.ok []
 | d::ds=>match bnd d with
   | .ok sl=>match tt (sl++δc) with
     | .ok true=>match el (sl++δc) with
       | .ok y=>match D7 bnd δc tt el ds with
         | .ok r=>.ok (y::r)
         | _=>.no
       | _=>.no
     | .ok false=>D7 bnd δc tt el ds
     | _=>.no
   | _=>.no
noncomputable def Bv (δ:Dn) (cap:List Nat):Dn:=cap.map fun j=>δ[j]?.getD .un
noncomputable def N0 (src:Dn->Res (List rG)) (bnd:rG->Res (List Sl)) (cap:List Nat) (tt:Dn->Res Bool) (el:Dn->Res rG):Dn->Res (List rG):=fun δ=>(src δ).bind fun ds=>if ds.length<=sizeLine then D7 bnd (Bv δ cap) tt el ds else .no
def GOk (g:TG) (m:Nat) (bnd:rG->Res (List Sl)):Prop:=∀ (G H:Hp) (d:rG) (x:V) (sl:List Sl) (τ:St) (Q:St->Hp->Prop),Same G H->Rep G d x->bnd d=.ok sl->(∀ vs:List V,vs.length=m->sl.length=m->(∀ (i:Nat) s,sl[i]? = some s->SlOk G H (vs[i]?) s/\∃ d,s=.sh d)->Q (vs.map some++τ) H)->g x (sG m none++τ) H Q
theorem gok1:GOk (An 0) 1 L3:=by
 intro G H d x sl τ Q hG r e h;cases e;exact h [x] rfl rfl fun i s hs=>by
   cases i with
   | zero=>cases hs; exact ⟨⟨x,rfl,r⟩,d,rfl⟩
   | succ i=>simp at hs
theorem gok2:GOk (qM K 2 (Ty (An 0) (Ty (An 1) qN))) 2 Ij:=by
 intro G H d x sl τ Q hG r e h;cases d with
 | tuple ds =>
   match ds,e with
   | [a,b],e =>
     cases e; obtain ⟨p,xs,rfl,h1,l1⟩:=r; obtain ⟨v,v',rfl,r1,r2⟩:=oA l1; refine ⟨p,_,rfl,.inl (.inl (hG _ _ h1)),rfl,v,[v'],rfl,v',[],rfl,rfl,?_⟩; exact h [v,v'] rfl rfl fun i s hs=>by
       match i with
       | 0=>cases hs; exact ⟨⟨v,rfl,r1⟩,a,rfl⟩
       | 1=>cases hs; exact ⟨⟨v',rfl,r2⟩,b,rfl⟩
       | i+2=>simp at hs
 | _=>cases e
theorem SR.cap {G H:Hp} {σ:St} {δ:Dn} (S:SR G H σ δ) (cap:List Nat) (hnd:cap.Nodup) {vs:List V} {sl:List Sl} (hv:vs.length=sl.length) (h:∀ (i:Nat) s,sl[i]? = some s->SlOk G H (vs[i]?) s/\∃ d,s=.sh d):SR G H (vs.map some++Bm σ cap) (sl++Bv δ cap):=by
 have hlt:∀ i,i < sl.length->(vs.map some++Bm σ cap)[i]? = (vs[i]?).map some:=fun i hi=>by
   rw [sI (by rw [rY,hv]; exact hi),sB]
 have hge:∀ i,¬ i < sl.length->(vs.map some++Bm σ cap)[i]? = (cap[i - sl.length]?).map fun j=>σ[j]?.join:=fun i hi=>by
   rw [sK (by rw [rY,hv]; lia)];unfold Bm; rw [sB,rY,hv]
 have hd:∀ i,¬ i < sl.length->(sl++Bv δ cap)[i]? = (cap[i - sl.length]?).map fun j=>δ[j]?.getD .un:=fun i hi=>by
   rw [sK (by lia)]; unfold Bv; rw [sB]
 refine ⟨S.sub,by simp [hv,Bm,Bv],fun i s e=>?_,fun i j a d d' ei ej hi hj=>?_⟩
 . by_cases hi:i < sl.length
   . rw [sI hi] at e
     rw [hlt i hi]; have:=(h i s e).1;cases q:vs[i]? with
     | none=>rw [q] at this; exact this
     | some v=>rw [q] at this; exact this
   . rw [hd i hi] at e
     rw [hge i hi];cases q:cap[i - sl.length]? with
     | none=>rw [q] at e; cases e
     | some j =>
       rw [q] at e; simp only [zL,BX] at e; subst e; show SlOk G H (some (σ[j]?.join)).join _;cases q2:δ[j]? with
       | none=>trivial
       | some s=>exact S.sl j s q2
 . have key : ∀ i d, (sl ++ Bv δ cap)[i]? = some (.ow d) -> ¬ i < sl.length /\ ∃ j, cap[i - sl.length]? = some j /\ δ[j]? = some (.ow d) := fun i d e => by
     have hi:¬ i < sl.length:=fun hi=>by
       rw [sI hi] at e; obtain ⟨_,d',z⟩:=h i _ e; cases z
     refine ⟨hi,?_⟩; rw [hd i hi] at e;cases q:cap[i - sl.length]? with
     | none=>rw [q] at e; cases e
     | some j =>
       rw [q] at e; simp only [zL,BX] at e; refine ⟨j,rfl,?_⟩;cases q2:δ[j]? with
       | none=>rw [q2] at e; cases e
       | some s=>rw [q2] at e; cases e; rfl
   obtain ⟨n1,j1,c1,o1⟩:=key i d ei; obtain ⟨n2,j2,c2,o2⟩:=key j d' ej; rw [hge i n1,c1] at hi; rw [hge j n2,c2] at hj; have hi':σ[j1]?.join=some (.ref a):=hi; have hj':σ[j2]?.join=some (.ref a):=hj; have:=S.ap j1 j2 a d d' o1 o2 hi' hj'; subst this; have:=(List.getElem?_inj (rQ.mp c1).1 hnd).mp (c1.trans c2.symm);lia
theorem fQ (xs:List Str):xs.map (fun _=>(none:Option V))=sG xs.length none:=by
 induction xs with
 | nil=>rfl
 | cons a t ih=>rw [rV,ih]; rfl
theorem Pt {xs:List Str} {cap:List Nat} {g:TG} {m:Nat} {bnd:rG->Res (List Sl)} {tt:Dn->Res Bool} {el:Dn->Res rG} (hx:xs.length=m) (hnd:cap.Nodup) (hg:GOk g m bnd) {σ:St} {H:Hp} {Q:VK} (h:tF E (N0 src bnd cap tt el) σ H Q) :
   Xo (tI E src) (fun σ=>xs.map (fun _=>none)++Bm σ cap) g (tT E0k tt) (tD E0k el) σ H Q:=by
 obtain ⟨G,δ,S,aft⟩:=h;refine ⟨G,δ,S,?_⟩;unfold N0 at aft;cases e:src δ with
 | exc c=>rw [e] at aft; exact aft
 | no=>rw [e] at aft; exact aft
 | ok ds =>
   rw [e] at aft; intro J G1 H1 g1 W D hD; have aft1:iG E G H (if ds.length<=sizeLine then D7 bnd (Bv δ cap) tt el ds else .no) Q:=aft;by_cases hz:ds.length<=sizeLine
   . rw [if_pos hz] at aft1
     have S1:=S.grow g1; have hmap:xs.map (fun _=>(none:Option V))=sG m none:=by rw [<- hx]; exact fQ xs
     refine ⟨fun i n H'=>n=ds.length - i/\i<=ds.length/\∃ G' acc yd,Grow G1 H1 G' H'/\G' D=none/\H' D=some (.lst acc)/\RepL G' yd acc/\yd.length<=i /\
       iG E G H (match D7 bnd (Bv δ cap) tt el (ds.drop i) with | .ok r=>.ok (yd++r) | _=>.no) Q,⟨_,rfl,uA _,G1,[],[],Grow.own g1.gh hD,g1.gh.free hD,B7,rfl,sC _,?_⟩,?_⟩
     . rw [yG]
       cases q:D7 bnd (Bv δ cap) tt el ds with
       | ok r=>rw [q] at aft1; exact aft1
       | exc c =>
         exfalso;have:∀ l c,D7 bnd (Bv δ cap) tt el l≠.exc c:=by
           intro l c;induction l with
           | nil=>intro z; cases z
           | cons d l ih =>
             unfold D7; intro z;split at z
             . split at z
               . split at z
                 . split at z <;> cases z
                 . cases z
               . exact ih z
               . cases z
             . cases z
         exact this ds c q
       | no=>rw [q] at aft1; exact aft1
     . rintro i n H' ⟨rfl,hi,G',acc,yd,g2,nD,hDa,ry,hyl,aft2⟩
       by_cases hlt:i < ds.length
       . refine .inr ⟨W.go i H' hlt (g2.g.trans g2.gh), fun H'' => ∃ n', n' < ds.length - i /\ (n' = ds.length - (i + 1) /\ i + 1 <= ds.length /\ ∃ G' acc yd, Grow G1 H1 G' H'' /\ G' D = none /\ H'' D = some (.lst acc) /\ RepL G' yd acc /\ yd.length <= i + 1 /\
           iG E G H (match D7 bnd (Bv δ cap) tt el (ds.drop (i+1)) with | .ok r=>.ok (yd++r) | _=>.no) Q),fun H'' q=>?_,fun x H'' hy=>?_⟩
         . obtain ⟨n',h1,h2⟩:=q
           exact ⟨n',h1,h2⟩
         . have hd:ds[i]? = some ds[i]:=sH hlt
           have hdrop:ds.drop i=ds[i]::ds.drop (i+1):=uO hlt; obtain ⟨G3,g3,r3⟩:=W.yld i _ G' H' x H'' hd g2.g g2.gh hy; have g13:=g2.trans g3; have nD3:G3 D=none:=by
             cases q:G3 D with
             | none=>rfl
             | some u => rcases g3.fr D u q with z | z | ⟨xs, rfl⟩
                         . rw [nD] at z; cases z
                         . rw [hDa] at z; cases z
                         . have:=g3.gh _ _ q; rw [g3.h _ _ hDa] at this; cases this
           rw [hdrop] at aft2; unfold D7 at aft2; rw [hmap];cases eb:bnd ds[i] with
           | exc c=>rw [eb] at aft2; exact aft2.elim
           | no=>rw [eb] at aft2; exact aft2.elim
           | ok sl =>
             rw [eb] at aft2; refine hg G3 H'' _ x sl _ _ g3.gh r3 eb fun vs hv hs hsl=>⟨⟨by rw [sA,sA,wC,rY,hv],fun j v z=>?_⟩,?_⟩
             . by_cases hj:j < m
               . rw [sI (by rw [wC]; exact hj),vP] at z
                 split at z <;> cases z
               . rw [sK (by rw [wC]; exact uV.mp hj),wC] at z
                 rw [sK (by rw [rY,hv]; exact uV.mp hj),rY,hv];exact z
             . have Sb:SR G3 H'' (vs.map some++Bm σ cap) (sl++Bv δ cap):=(S1.grow g13).cap cap hnd (hv.trans hs.symm) hsl
               refine ⟨G3,_,Sb,?_⟩; simp only at aft2;cases et:tt (sl++Bv δ cap) with
               | exc c=>rw [et] at aft2; exact aft2.elim
               | no=>rw [et] at aft2; exact aft2.elim
               | ok kk =>
                 rw [et] at aft2; intro G4 H4 g4; have nD4:G4 D=none:=by
                   cases q:G4 D with
                   | none=>rfl
                   | some u => rcases g4.fr D u q with z | z | ⟨xs, rfl⟩
                               . rw [nD3] at z; cases z
                               . rw [g3.h _ _ hDa] at z; cases z
                               . have:=g4.gh _ _ q; rw [g4.h _ _ (g3.h _ _ hDa)] at this; cases this
                 have hD4:H4 D=some (.lst acc):=g4.h _ _ (g3.h _ _ hDa);cases kk with
                 | false =>
                   rw [if_neg (by decide)]; exact ⟨_,by lia,rfl,hlt,G4,acc,yd,g13.trans g4,nD4,hD4,ry.mono (g3.g.trans g4.g),by lia,aft2⟩
                 | true =>
                   rw [if_pos rfl]; refine ⟨G4,_,Sb.grow g4,?_⟩; simp only at aft2;cases ee:el (sl++Bv δ cap) with
                   | exc c=>rw [ee] at aft2; exact aft2.elim
                   | no=>rw [ee] at aft2; exact aft2.elim
                   | ok y =>
                     rw [ee] at aft2; intro v G5 H5 g5 r5; have nD5:G5 D=none:=by
                       cases q:G5 D with
                       | none=>rfl
                       | some u => rcases g5.fr D u q with z | z | ⟨xs, rfl⟩
                                   . rw [nD4] at z; cases z
                                   . rw [hD4] at z; cases z
                                   . have:=g5.gh _ _ q; rw [g5.h _ _ hD4] at this; cases this
                     have hD5:H5 D=some (.lst acc):=g5.h _ _ hD4; have hal:acc.length<=i:=by rw [<- ry.length]; exact hyl
                     refine ⟨acc,hD5,by lia,_,by lia,rfl,hlt,G5,acc++[v],yd++[y],?_,nD5,B7,?_,by rw [sA,zG]; lia,?_⟩
                     . have g15:=(g13.trans g4).trans g5
                       refine ⟨g15.g,fun b o q=>?_,fun b o q=>?_,g15.fr⟩
                       . rw [B4 (C0 q hD)]; exact g15.h _ _ q
                       . rw [B4 (C0 q nD5)]; exact g15.gh _ _ q
                     . exact (ry.mono (g3.g.trans (g4.g.trans g5.g))).append (RepL.cons r5 rfl)
                     . simp only at aft2
                       cases er:D7 bnd (Bv δ cap) tt el (ds.drop (i+1)) with
                       | ok r =>
                         rw [er] at aft2; simp only [xZ,List.singleton_append]; exact aft2
                       | exc c=>rw [er] at aft2; exact aft2
                       | no=>rw [er] at aft2; exact aft2
       . refine .inl ⟨W.stop i H' (uV.mp hlt) (g2.g.trans g2.gh),?_⟩
         have:ds.drop i=[]:=vW (uV.mp hlt); rw [this] at aft2; unfold D7 at aft2; have aft3:iG E G H (.ok (yd++[])) Q:=aft2; rw [uG] at aft3; exact aft3 D acc G' H' (g1.trans g2) (g1.h.free hD) nD hDa ry
   . rw [if_neg hz] at aft1; exact aft1.elim
end
end Sm
end
noncomputable section
namespace Sm
open PySem PySem.Spec PyProof.Rows L2
noncomputable def Cm (cells:List (Str×rN)):List (Str×i9)->List (Str×rN)->List (Str×rN)
 | [],cs=>cs
 | (n,kd)::r,cs=>if kd==.free then Cm cells r ((n,(cells.lookup n).getD 0)::cs) else Cm cells r cs
theorem Uq {env:Env}:∀ (names:List (Str×i9)) (cs:List (Str×rN)),(∀ y∈names,y.2=.free->∃ c,env.cells.lookup y.1=some c) ->
   (forIn names cs fun (x:Str×i9) (r:List (Str×rN))=>if (x.2==xQ)=true then do let c <- cellOf env x.1; pure (wZ ((x.1,c)::r)) else pure (wZ r))=(pure (Cm env.cells names cs):Sem (List (Str×rN)))
 | [],cs,_=>rfl
 | (n,kd)::r,cs,h=>by
   rw [AW]; have ih:=fun cs=>Uq r cs fun y hy=>h y (uM _ hy);unfold Cm;by_cases hk:(kd==xQ)=true
   . obtain ⟨c,hc⟩:=h (n,kd) vO (xI hk)
     have hc':cellOf env n=pure c:=by unfold cellOf; rw [show env.cells.lookup n=some c from hc]
     simp only [hk,if_true,hc',pure_bind]; rw [show env.cells.lookup n=some c from hc]; exact ih _
   . simp only [hk,if_false,pure_bind]
     exact ih _
theorem Fk {cells:List (Str×rN)}:∀ {names:List (Str×i9)} {cs:List (Str×rN)} {y:Str×rN},y∈Cm cells names cs->y∈cs\/((y.1,xQ)∈names/\y.2=(cells.lookup y.1).getD 0)
 | [],cs,y,h=>.inl h
 | (n,kd)::r,cs,y,h=>by
   unfold Cm at h;by_cases hk:(kd==xQ)=true
   . rw [if_pos hk] at h
     have hk':=xI hk; subst hk'; rcases Fk h with z | ⟨z1,z2⟩
     . rcases rT.mp z with rfl | z
       . exact .inr ⟨vO,rfl⟩
       . exact .inl z
     . exact .inr ⟨uM _ z1,z2⟩
   . rw [if_neg hk] at h
     rcases Fk h with z | ⟨z1,z2⟩
     . exact .inl z
     . exact .inr ⟨uM _ z1,z2⟩
theorem Fm {cells:List (Str×rN)} {x:Str}:∀ {names:List (Str×i9)} {cs:List (Str×rN)},((x,xQ)∈names\/∃ c,(x,c)∈cs)->∃ c,(x,c)∈Cm cells names cs
 | [],cs,h=>by
   rcases h with h | h
   . cases h
   . exact h
 | (n,kd)::r,cs,h=>by
   unfold Cm;by_cases hk:(kd==xQ)=true
   . rw [if_pos hk]
     refine Fm ?_; rcases h with h | ⟨c,h⟩
     . rcases rT.mp h with q | q
       . cases q; exact .inr ⟨_,vO⟩
       . exact .inl q
     . exact .inr ⟨c,uM _ h⟩
   . rw [if_neg hk]
     refine Fm ?_; rcases h with h | ⟨c,h⟩
     . rcases rT.mp h with q | q
       . cases q; exact absurd rfl hk
       . exact .inl q
     . exact .inr ⟨c,h⟩
theorem Cr {α:Type} {x:Str} {c:α} {l:List (Str×α)} (h:l.lookup x=some c):(x,c)∈l:=xJ h
theorem Eo {α:Type} {x:Str}:∀ {l:List (Str×α)} {c:α},(x,c)∈l->∃ c',l.lookup x=some c'
 | [],_,h=>by cases h
 | (n,d)::r,c,h=>by
   rw [AL];cases q:x==n with
   | true=>exact ⟨d,rfl⟩
   | false =>
     rcases rT.mp h with z | z
     . cases z; simp at q
     . exact Eo z
theorem lW {X:Cx} (ok:X.Ok) {scope:Scope} (hnc:∀ y∈scope.names,y.2≠.cell) (hfree:∀ y∈scope.names,y.2=.free->X.env.scope.names.lookup y.1=some .cell\/X.env.scope.names.lookup y.1=some .free):∃ cl,Clos X scope cl:=by
 have hc:∀ y∈scope.names,y.2=.free->∃ c,X.env.cells.lookup y.1=some c:=fun y hy hf=>ok.has y.1 (hfree y hy hf);refine ⟨Cm X.env.cells scope.names [],⟨?_,fun x c h=>?_,fun x h=>?_⟩⟩
 . have:=Uq (env:=X.env) scope.names [] hc
   unfold closureFor; simp only;rw [this]; rfl
 . rcases Fk (Cr h) with z | ⟨z1,z2⟩
   . cases z
   . obtain ⟨c',e⟩:=hc _ z1 rfl
     have e':X.env.cells.lookup x=some c':=e; have z2':c=(X.env.cells.lookup x).getD 0:=z2; rw [e'] at z2' ⊢;rw [z2']; rfl
 . have hm : (x, xQ) ∈ scope.names := by
     have key:∀ kd,(wM scope X.env).names.lookup x=some kd->(kd=.cell\/kd=.free)->(x,xQ)∈scope.names:=fun kd hl hkd=>by
       have hm:=Cr hl; unfold wM at hm; simp only [tE] at hm; obtain ⟨⟨n,k0⟩,hy,e⟩:=hm; simp only at e;split at e
       . rename_i hc'
         cases e; have:k0=.free:=by
           rw [sU,sU] at hc'; exact xI hc'.1.1
         subst this; exact hy
       . cases e
         rcases hkd with rfl | rfl
         . exact absurd rfl (hnc _ hy)
         . exact hy
     rcases h with h | h
     . exact key _ h (.inl rfl)
     . exact key _ h (.inr rfl)
   obtain ⟨c,hc'⟩:=Fm (cells:=X.env.cells) (names:=scope.names) (cs:=[]) (x:=x) (.inl hm); exact Eo hc'
noncomputable def okComp (N:List Str) (sc scope:Scope) (xs capN:List Str) (cap:List Nat):Bool :=
 decide (scope.kind=.function)&&scope.names.all (fun y=>decide (y.2≠.cell))&&scope.names.all (fun y=>decide (y.2=.local->scope.names.lookup y.1=some .local)) &&
 scope.names.all (fun y=>decide (y.2=.free->sc.names.lookup y.1=some .cell\/sc.names.lookup y.1=some .free))&&decide (cap.map (fun j=>N[j]?)=capN.map some) &&
 capN.all (fun x=>decide ((Ee scope sc).names.lookup x=some .cell\/(Ee scope sc).names.lookup x=some .free))&&capN.all (fun x=>decide (sc.names.lookup x=some .cell\/sc.names.lookup x=some .free)) &&
 decide ((xs++capN).Nodup)&&xs.all (fun x=>decide ((Ee scope sc).names.lookup x=some .local))&&decide (cap.Nodup)
noncomputable section
variable {P:sE} {w:sT} {K:rK} {mg:Str->Option rJ} {base:tL} {X:Cx} {N:List Str} {sc:Scope} {k:Nat} {df:Bool} {E:EK} {pos px:Pos} {a c elt iter:Expr} {ifs:List Expr} {f g el:Dn->Res rG} {src:Dn->Res (List rG)} {tt:Dn->Res Bool} {scope:Scope} {capN:List Str} {cap:List Nat}
structure CompOk (N:List Str) (sc scope:Scope) (xs capN:List Str) (cap:List Nat):Prop where
 h1:scope.kind=.function
 h2:∀ y∈scope.names,y.2≠.cell
 h3:∀ y∈scope.names,y.2=.local->scope.names.lookup y.1=some .local
 h4:∀ y∈scope.names,y.2=.free->sc.names.lookup y.1=some .cell\/sc.names.lookup y.1=some .free
 h5:cap.map (fun j=>N[j]?)=capN.map some
 h6:∀ x∈capN,(Ee scope sc).names.lookup x=some .cell\/(Ee scope sc).names.lookup x=some .free
 h7:∀ x∈capN,sc.names.lookup x=some .cell\/sc.names.lookup x=some .free
 h8:(xs++capN).Nodup
 h9:∀ x∈xs,(Ee scope sc).names.lookup x=some .local
 h10:cap.Nodup
theorem okComp.ok {xs:List Str} (h:okComp N sc scope xs capN cap=true):CompOk N sc scope xs capN cap:=by
 unfold okComp at h;simp only [sU,wH,decide_eq_true_eq] at h;obtain ⟨⟨⟨⟨⟨⟨⟨⟨⟨h1,h2⟩,h3⟩,h4⟩,h5⟩,h6⟩,h7⟩,h8⟩,h9⟩,h10⟩:=h;exact ⟨h1,h2,h3,h4,h5,h6,h7,h8,h9,h10⟩
theorem Cl {xs:List Str} (C:Cxt P w K mg base X N sc k df) (h:CompOk N sc scope xs capN cap) (ok:X.Ok):CompFacts X scope xs capN cap:=by
 refine ⟨h.h1,h.h2,h.h3,lW ok h.h2 fun y hy hf=>?_,by rw [C.hN]; exact h.h5,fun x hx=>?_,fun x hx=>?_⟩
 . rw [C.hs]; exact h.h4 y hy hf
 . rw [Xs C.hs]; exact h.h6 x hx
 . rw [C.hs]; exact h.h7 x hx
abbrev DTs (X:Cx) (E:EK) (ifs:List Expr) (f:Dn->Res Bool):Prop:=PTs X ifs (tT E f)
noncomputable def Af:Dn->Res Bool:=fun _=>.ok true
theorem Js:DTs X E [] Af:=fun pins s σ H Q I hZ6=>by obtain ⟨G,δ,S,a⟩:=hZ6; exact Xz pins s σ H Q I (a G H (Grow.refl S.sub))
theorem Pq (h:DT X E c tt):DTs X E [c] tt:=jZ h
theorem Cj {x:Str} (C:Cxt P w K mg base X N sc k df) (cap:List Nat) (capN:List Str) (ho:okComp N sc scope [x] capN cap=true) (hi:DI X E (.Name x px) iter src)
   (ht:∀ X',Cxt P w K mg base X' ([x]++capN) (Ee scope sc) k false->DTs X' E0k ifs tt) (he:∀ X',Cxt P w K mg base X' ([x]++capN) (Ee scope sc) k false->DE X' E0k elt el)
   (hs:∀ x,uQ iter X.env x=pure x:=by intro _; rfl):DF X E (.ListComp elt [⟨.Name x px,iter,ifs,0⟩] scope pos) (N0 src L3 cap tt el):=by
 have o:=okComp.ok ho;refine PE.imp (Yf (g:=An 0) C.calm (Cl C o) hi (fun X' B=>?_) (fun X' B=>ht X' (C.blk B)) (fun X' B=>he X' (C.blk B)) hs) fun σ H Q h=>Pt (m:=1) rfl o.h10 gok1 h;have C':=C.blk B;have hl:X'.env.scope.names.lookup x=some .local:=by rw [C'.hs]; exact o.h9 x (by simp)
 exact Am (by rw [C'.hN]; exact o.h8) (by rw [C'.hN]; rfl) (.inl hl) (.inr hl)
end
end Sm
end
noncomputable section
namespace Sm
open PySem PySem.Spec PyProof.Rows L2
inductive Out where
 | nx (δ:Dn)
 | rt (d:rG)
 | bk (δ:Dn)
 | ct (δ:Dn)
 | exc (c:Str)
 | no
structure SSt (G0 H0 G H:Hp) (σ:St) (δ:Dn):Prop where
 gr:Grow G0 H0 G H
 sr:SR G H σ δ
 fr:∀ (i:Nat) (d:rG) (a:rN),δ[i]? = some (.ow d)->σ[i]?.join=some (.ref a)->H0 a=none
theorem SSt.grow {G0 H0 G H G' H':Hp} {σ:St} {δ:Dn} (S:SSt G0 H0 G H σ δ) (g:Grow G H G' H'):SSt G0 H0 G' H' σ δ:=⟨S.gr.trans g,S.sr.grow g,S.fr⟩
def Hw (E:EK) (G0 H0:Hp) (o:Out) (D:Ends):Prop:=match o with
 | .nx δ=>∀ σ G H,SSt G0 H0 G H σ δ->D.nx σ H
 | .rt d=>∀ v G H,Grow G0 H0 G H->Rep G d v->D.rt v H
 | .bk δ=>∀ σ G H,SSt G0 H0 G H σ δ->D.bk σ H
 | .ct δ=>∀ σ G H,SSt G0 H0 G H σ δ->D.ct σ H
 | .exc c=>∀ G H,Grow G0 H0 G H->E c H
 | .no=>False
def tS (E:EK) (G0 H0:Hp) (g:Dn->Out):TS:=fun D σ H=>∃ G δ,SSt G0 H0 G H σ δ/\Hw E G0 H0 (g δ) D
def DS (X:Cx) (E:EK) (st:vN) (g:Dn->Out):Prop:=∀ G0 H0,PS X st (tS E G0 H0 g)
def DSs (X:Cx) (E:EK) (st:List vN) (g:Dn->Out):Prop:=∀ G0 H0,PSs X st (tS E G0 H0 g)
theorem PS.imp {X:Cx} {st:vN} {t t':TS} (h:PS X st t) (i:∀ D σ H,t' D σ H->t D σ H):PS X st t':=fun pins s σ H D I q=>h pins s σ H D I (i _ _ _ q)
theorem PSs.imp {X:Cx} {st:List vN} {t t':TS} (h:PSs X st t) (i:∀ D σ H,t' D σ H->t D σ H):PSs X st t':=fun pins s σ H D I q=>h pins s σ H D I (i _ _ _ q)
noncomputable def N9 {α:Type} (r:Res α) (k:α->Out):Out:=match r with
 | .ok a=>k a
 | .exc c=>.exc c
 | .no=>.no
theorem Mv {E:EK} {G0 H0 G H:Hp} {σ:St} {δ:Dn} {f:Dn->Res rG} {k:rG->Out} {D:Ends} {R:VK} (S:SSt G0 H0 G H σ δ) (a:Hw E G0 H0 (N9 (f δ) k) D)
   (h:∀ d v G1 H1,Grow G H G1 H1->Rep G1 d v->SSt G0 H0 G1 H1 σ δ->Hw E G0 H0 (k d) D->R v H1):tD E f σ H R:=by
 refine ⟨G,δ,S.sr,?_⟩;cases e:f δ with
 | ok d=>rw [e] at a; exact fun v G' H' g r=>h d v G' H' g r (S.grow g) a
 | exc c=>rw [e] at a; exact fun G' H' g=>a G' H' (S.gr.trans g)
 | no=>rw [e] at a; exact a
theorem Xh {E:EK} {G0 H0 G H:Hp} {σ:St} {δ:Dn} {f:Dn->Res (List rG)} {k:List rG->Out} {D:Ends} {R:VK} (S:SSt G0 H0 G H σ δ) (a:Hw E G0 H0 (N9 (f δ) k) D)
   (h:∀ ds p xs G1 H1,Grow G H G1 H1->H p=none->G1 p=none->H1 p=some (.lst xs)->RepL G1 ds xs->SSt G0 H0 G1 H1 σ δ->Hw E G0 H0 (k ds) D->R (.ref p) H1):tF E f σ H R:=by
 refine ⟨G,δ,S.sr,?_⟩;cases e:f δ with
 | ok d=>rw [e] at a; exact fun p xs G' H' g q1 q2 q3 q4=>h d p xs G' H' g q1 q2 q3 q4 (S.grow g) a
 | exc c=>rw [e] at a; exact fun G' H' g=>a G' H' (S.gr.trans g)
 | no=>rw [e] at a; exact a
theorem iA {E:EK} {G0 H0 G H:Hp} {σ:St} {δ:Dn} {f:Dn->Res Bool} {k:Bool->Out} {D:Ends} {R:Bool->Hp->Prop} (S:SSt G0 H0 G H σ δ) (a:Hw E G0 H0 (N9 (f δ) k) D)
   (h:∀ d G1 H1,Grow G H G1 H1->SSt G0 H0 G1 H1 σ δ->Hw E G0 H0 (k d) D->R d H1):tT E f σ H R:=by
 refine ⟨G,δ,S.sr,?_⟩;cases e:f δ with
 | ok d=>rw [e] at a; exact fun G' H' g=>h d G' H' g (S.grow g) a
 | exc c=>rw [e] at a; exact fun G' H' g=>a G' H' (S.gr.trans g)
 | no=>rw [e] at a; exact a
theorem iB {E:EK} {G0 H0 G H:Hp} {σ:St} {δ:Dn} {f:Dn->Res (List rG)} {k:List rG->Out} {D:Ends} {R:It->Hp->Prop} (S:SSt G0 H0 G H σ δ) (a:Hw E G0 H0 (N9 (f δ) k) D)
   (h:∀ ds J G1 H1,Grow G H G1 H1->Walk J G1 ds->SSt G0 H0 G1 H1 σ δ->Hw E G0 H0 (k ds) D->R J H1):tI E f σ H R:=by
 refine ⟨G,δ,S.sr,?_⟩;cases e:f δ with
 | ok d=>rw [e] at a; exact fun J G' H' g q=>h d J G' H' g q (S.grow g) a
 | exc c=>rw [e] at a; exact fun G' H' g=>a G' H' (S.gr.trans g)
 | no=>rw [e] at a; exact a
theorem D1 {α:Type} {l:List α} {i j:Nat} {v:α}:(l.set i v)[j]? = if i=j/\i < l.length then some v else l[j]? := by
 rw [uK];by_cases h:i=j
 . subst h
   by_cases hl:i < l.length
   . simp [hl]
   . simp [hl,vJ (uV.mp hl)]
 . simp [h]
theorem SSt.set_sh {G0 H0 G H:Hp} {σ:St} {δ:Dn} (S:SSt G0 H0 G H σ δ) {i:Nat} {v:V} {d:rG} (r:Rep G d v):SSt G0 H0 G H (σ.set i (some v)) (δ.set i (.sh d)):=by
 have hl:=S.sr.len;have key:∀ (j:Nat) (d':rG),(δ.set i (.sh d))[j]? = some (.ow d')->(σ.set i (some v))[j]? = σ[j]? /\ δ[j]? = some (.ow d'):=fun j d' e=>by
   rw [D1] at e;split at e
   . cases e
   . rename_i hn
     refine ⟨?_,e⟩; rw [D1,if_neg (by rw [hl]; exact hn)]
 refine ⟨S.gr,⟨S.sr.sub,by simp [hl],fun j s e=>?_,fun j1 j2 a d1 d2 e1 e2 h1 h2=>?_⟩,fun j d' a e h=>?_⟩
 . rw [D1] at e ⊢
   rw [hl];split at e
   . rename_i hc; cases e; rw [if_pos hc]; exact ⟨v,rfl,r⟩
   . rename_i hc; rw [if_neg hc]; exact S.sr.sl j s e
 . obtain ⟨k1,o1⟩:=key j1 d1 e1
   obtain ⟨k2,o2⟩:=key j2 d2 e2; rw [k1] at h1; rw [k2] at h2; exact S.sr.ap j1 j2 a d1 d2 o1 o2 h1 h2
 . obtain ⟨k1,o1⟩:=key j d' e
   rw [k1] at h; exact S.fr j d' a o1 h
theorem SSt.set_ow {G0 H0 G H:Hp} {σ:St} {δ:Dn} (S:SSt G0 H0 G H σ δ) {i:Nat} {p:rN} {d:rG} (h0:H0 p=none) (hg:G p=none) (ho:OwnOk G H p d) (hf:∀ (j:Nat) d',δ[j]? = some (.ow d')->σ[j]?.join≠some (.ref p)):SSt G0 H0 G H (σ.set i (some (.ref p))) (δ.set i (.ow d)):=by
 have hl:=S.sr.len;have key:∀ (j:Nat) (d':rG),(δ.set i (.ow d))[j]? = some (.ow d')->(i=j/\i < δ.length/\d'=d/\(σ.set i (some (.ref p)))[j]? = some (some (.ref p)))\/((σ.set i (some (.ref p)))[j]? = σ[j]? /\ δ[j]? = some (.ow d')):=fun j d' e=>by
   rw [D1] at e;split at e
   . rename_i hc; cases e; exact .inl ⟨hc.1,hc.2,rfl,by rw [D1,if_pos (by rw [hl]; exact hc)]⟩
   . rename_i hn
     refine .inr ⟨?_,e⟩; rw [D1,if_neg (by rw [hl]; exact hn)]
 refine ⟨S.gr,⟨S.sr.sub,by simp [hl],fun j s e=>?_,fun j1 j2 a d1 d2 e1 e2 h1 h2=>?_⟩,fun j d' a e h=>?_⟩
 . rw [D1] at e ⊢
   rw [hl];split at e
   . rename_i hc; cases e; rw [if_pos hc]; exact ⟨p,rfl,hg,ho⟩
   . rename_i hc; rw [if_neg hc]; exact S.sr.sl j s e
 . rcases key j1 d1 e1 with ⟨a1,b1,_,c1⟩ | ⟨k1,o1⟩
   . rcases key j2 d2 e2 with ⟨a2,b2,_,c2⟩ | ⟨k2,o2⟩
     . exact a1.symm.trans a2
     . rw [c1] at h1; cases h1
       rw [k2] at h2; exact absurd h2 (hf j2 d2 o2)
   . rcases key j2 d2 e2 with ⟨a2,b2,_,c2⟩ | ⟨k2,o2⟩
     . rw [c2] at h2; cases h2
       rw [k1] at h1; exact absurd h1 (hf j1 d1 o1)
     . rw [k1] at h1; rw [k2] at h2
       exact S.sr.ap j1 j2 a d1 d2 o1 o2 h1 h2
 . rcases key j d' e with ⟨a1,b1,_,c1⟩ | ⟨k1,o1⟩
   . rw [c1] at h; cases h; exact h0
   . rw [k1] at h; exact S.fr j d' a o1 h
theorem SSt.write {G0 H0 G H:Hp} {σ:St} {δ:Dn} (S:SSt G0 H0 G H σ δ) {i:Nat} {p:rN} {d d':rG} {o:HO} (hi:δ[i]? = some (.ow d)) (hp:σ[i]?.join=some (.ref p)) (hg:G p=none) (ho:OwnOk G (upd H p o) p d'):SSt G0 H0 G (upd H p o) σ (δ.set i (.ow d')):=by
 have h0:=S.fr i d p hi hp;have hil:i < δ.length:=(rQ.mp hi).1;have hsub:Same G (upd H p o):=fun b u e=>by rw [B4 (C0 e hg)]; exact S.sr.sub _ _ e
 have key:∀ (j:Nat) (e:rG),(δ.set i (.ow d'))[j]? = some (.ow e)->∃ e',δ[j]? = some (.ow e'):=fun j e h=>by
   rw [D1] at h;split at h
   . rename_i hc; rw [<- hc.1]; exact ⟨d,hi⟩
   . exact ⟨e,h⟩
 refine ⟨⟨S.gr.g,fun b u e=>by rw [B4 (C0 e h0)]; exact S.gr.h _ _ e,hsub,S.gr.fr⟩,⟨hsub,by simp [S.sr.len],fun j s e=>?_,fun j1 j2 a d1 d2 e1 e2 h1 h2=>?_⟩,fun j e a h1 h2=>?_⟩
 . rw [D1] at e
   split at e
   . rename_i hc; cases e; rw [<- hc.1]; exact ⟨p,hp,hg,ho⟩
   . rename_i hc
     have hs:=S.sr.sl j s e;cases s with
     | un=>trivial
     | sh d=>exact hs
     | fd _=>exact hs
     | ow d2 =>
       obtain ⟨a,e1,n1,ok⟩:=hs; refine ⟨a,e1,n1,?_⟩; have hne:a≠p:=by
         rintro rfl;exact hc ⟨S.sr.ap i j a d d2 hi e hp e1,hil⟩
       cases d2 with
       | list ds=>obtain ⟨xs,q,r⟩:=ok; exact ⟨xs,by rw [B4 hne]; exact q,r⟩
       | dict kvs=>obtain ⟨xs,q,r⟩:=ok; exact ⟨xs,by rw [B4 hne]; exact q,r⟩
       | tuple xs=>exact OwnK.keep (Same.refl _) (fun o q=>by rw [B4 hne]; exact q) ok
       | _=>exact (show False from ok).elim
 . obtain ⟨e1',o1⟩:=key j1 d1 e1
   obtain ⟨e2',o2⟩:=key j2 d2 e2; exact S.sr.ap j1 j2 a _ _ o1 o2 h1 h2
 . obtain ⟨e',o1⟩:=key j e h1
   exact S.fr j e' a o1 h2
noncomputable def fz (i:Nat) (δ:Dn):Dn:=match δ[i]? with
 | some (.ow (.list ds))=>δ.set i (.sh (.list ds))
 | _=>δ
theorem SSt.fz {G0 H0 G H:Hp} {σ:St} {δ:Dn} (S:SSt G0 H0 G H σ δ) (i:Nat):∃ G',SSt G0 H0 G' H σ (fz i δ):=by
 unfold Sm.fz;split
 . rename_i ds hi
   obtain ⟨p,hp,hg,xs,hx,r⟩:=S.sr.sl i _ hi; have h0:=S.fr i _ p hi hp; have g:Grow G0 H0 (upd G p (.lst xs)) H:=S.gr.share h0 hg hx; have hv:σ[i]? = some (some (.ref p)):=by
     cases q:σ[i]? with
     | none=>rw [q] at hp; cases hp
     | some z=>rw [q] at hp; cases z with
       | none=>cases hp
       | some z=>cases hp; rfl
   have key:∀ (j:Nat) (d':rG),(δ.set i (.sh (.list ds)))[j]? = some (.ow d')->δ[j]? = some (.ow d')/\j≠i:=fun j d' e=>by
     rw [D1] at e;split at e
     . cases e
     . rename_i hn
       refine ⟨e,fun z=>?_⟩;subst z; exact hn ⟨rfl,(rQ.mp hi).1⟩
   refine ⟨_,g,⟨g.gh,by simp [S.sr.len],fun j s e=>?_,fun j1 j2 a d1 d2 e1 e2 h1 h2=>S.sr.ap j1 j2 a d1 d2 (key j1 d1 e1).1 (key j2 d2 e2).1 h1 h2⟩,fun j d' a e h=>S.fr j d' a (key j d' e).1 h⟩;have sm:Same G (upd G p (.lst xs)):=Same.upd hg;by_cases hj:i=j/\i < δ.length
   . rw [D1,if_pos hj] at e
     cases e; rw [<- hj.1,hv]; exact ⟨_,rfl,p,xs,rfl,.inl B7,r.mono sm⟩
   . have e2:=e
     rw [D1,if_neg hj] at e2; have hs:=S.sr.sl j s e2;cases s with
     | un=>trivial
     | sh d=>obtain ⟨v,e1,r1⟩:=hs; exact ⟨v,e1,r1.mono sm⟩
     | fd _=>exact FdOk.mono sm hs
     | ow d2 =>
       obtain ⟨a,e1,n1,ok⟩:=hs; have hne:a≠p:=by
         rintro rfl;exact (key j d2 e).2 (S.sr.ap j i a d2 _ e2 hi e1 hp)
       refine ⟨a,e1,by rw [B4 hne]; exact n1,?_⟩;cases d2 with
       | list ds=>obtain ⟨xs,q,r⟩:=ok; exact ⟨xs,q,r.mono sm⟩
       | dict kvs=>obtain ⟨xs,q,k,r⟩:=ok; exact ⟨xs,q,k,r.mono sm⟩
       | tuple xs=>exact OwnK.keep sm (fun o q=>q) ok
       | _=>exact (show False from ok).elim
 . exact ⟨G,S⟩
noncomputable section
variable {P:sE} {w:sT} {K:rK} {mg:Str->Option rJ} {base:tL} {X:Cx} {N:List Str} {sc:Scope} {k:Nat} {df:Bool} {E:EK} {pos p px py:Pos} {a b c e elt iter:Expr} {ifs:List Expr} {f g el:Dn->Res rG} {fs src:Dn->Res (List rG)} {tt:Dn->Res Bool} {scope:Scope} {capN:List Str} {cap:List Nat} {st:vN} {sts sts':List vN} {g1 g2:Dn->Out}
noncomputable def Q8:Dn->Out:=fun δ=>.nx δ
noncomputable def E8 (g1 g2:Dn->Out):Dn->Out:=fun δ=>match g1 δ with
 | .nx δ'=>g2 δ'
 | o=>o
theorem Ay:DSs X E [] Q8:=fun G0 H0=>PSs.imp Je fun D σ H hZ3=>by obtain ⟨G,δ,S,a⟩:=hZ3; exact a σ G H S
theorem C6 (h1:DS X E st g1) (h2:DSs X E sts g2):DSs X E (st::sts) (E8 g1 g2):=fun G0 H0=>by
 refine PSs.imp (P5 (h1 G0 H0) (h2 G0 H0)) fun D σ H hY59=>?_;obtain ⟨G,δ,S,a⟩:=hY59;refine ⟨G,δ,S,?_⟩;unfold E8 at a;cases e:g1 δ with
 | nx δ'=>rw [e] at a; exact fun σ' G' H' S'=>⟨G',δ',S',a⟩
 | rt d=>rw [e] at a; exact a
 | bk d=>rw [e] at a; exact a
 | ct d=>rw [e] at a; exact a
 | exc d=>rw [e] at a; exact a
 | no=>rw [e] at a; exact a
theorem E7 (h1:DS X E st g1):DSs X E [st] g1:=fun G0 H0=>N6 (h1 G0 H0)
noncomputable def sFz (i:Nat) (g:Dn->Out):Dn->Out:=fun δ=>g (fz i δ)
theorem s_fz (i:Nat) (h:DS X E st g1):DS X E st (sFz i g1):=fun G0 H0=>PS.imp (h G0 H0) fun D σ H hZ3=>by
 obtain ⟨G,δ,S,a⟩:=hZ3;obtain ⟨G',S'⟩:=S.fz i;exact ⟨G',_,S',a⟩
noncomputable def Ah (f:Dn->Res rG):Dn->Out:=fun δ=>N9 (f δ) .rt
theorem V5 (h:DE X E e f):DS X E (.Return (some e) pos) (Ah f):=fun G0 H0=>PS.imp (Dk h) fun D σ H ⟨G,δ,S,a⟩ =>
 Mv S a fun d v G1 H1 g1 r1 S1 a1=>a1 v G1 H1 S1.gr r1
noncomputable def sIf (c:Dn->Res Bool) (g1 g2:Dn->Out):Dn->Out:=fun δ=>N9 (c δ) fun b=>if b=true then g1 δ else g2 δ
theorem Nm (hc:DT X E c tt) (h1:DSs X E sts g1) (h2:DSs X E sts' g2):DS X E (.If c sts sts' pos) (sIf tt g1 g2):=fun G0 H0=>PS.imp (Tb hc (h1 G0 H0) (h2 G0 H0)) fun D σ H ⟨G,δ,S,a⟩ =>
 iA S a fun d G1 H1 g1 S1 a1=>by
   cases d with
   | true=>rw [if_pos rfl]; exact ⟨G1,δ,S1,a1⟩
   | false=>rw [if_neg (by decide)]; exact ⟨G1,δ,S1,a1⟩
noncomputable def okSet (N:List Str) (sc:Scope) (df:Bool) (i:Nat) (x:Str):Bool:=decide (N.Nodup)&&decide (N[i]? = some x)&&(decide (sc.names.lookup x=some .local)||(decide (sc.names.lookup x=some .cell)&&df))
theorem okSet.ok (C:Cxt P w K mg base X N sc k df) {i:Nat} {x:Str} (h:okSet N sc df i x=true):X.N.Nodup/\X.N[i]? = some x/\Loc X.env.scope x/\(X.fn x=true\/X.env.scope.names.lookup x=some .local):=by
 unfold okSet at h;simp only [sU,l7,decide_eq_true_eq] at h;obtain ⟨⟨h1,h2⟩,h3⟩:=h;rw [C.hN];refine ⟨h1,h2,?_⟩;unfold L2.Loc;rw [C.hs];rcases h3 with h3 | ⟨h3,h4⟩
 . exact ⟨.inl h3,.inr h3⟩
 . exact ⟨.inr h3,.inl (C.fn h4 x)⟩
noncomputable def M3 (i:Nat) (f:Dn->Res rG):Dn->Out:=fun δ=>N9 (f δ) fun d=>.nx (δ.set i (.sh d))
theorem Q6 {x:Str} (C:Cxt P w K mg base X N sc k df) (i:Nat) (ho:okSet N sc df i x=true) (h:DE X E e f) (hs:tH e (some (.Name x p)) pos.line X.env=pure false:=by rfl):DS X E (.Assign [.Name x p] e pos) (M3 i f):=fun G0 H0=>by
 obtain ⟨h1,h2,h3,h4⟩:=okSet.ok C ho;exact PS.imp (Z9 h1 h2 h3 h hs h4) fun D σ H hZ3=>by obtain ⟨G,δ,S,a⟩:=hZ3; exact Mv S a fun d v G1 H1 g1 r1 S1 a1=>a1 _ G1 H1 (S1.set_sh r1)
theorem Fg {G0 H0 G H:Hp} {σ:St} {δ:Dn} (S:SSt G0 H0 G H σ δ) {p:rN} (hp:H p=none) (j:Nat) (d':rG) (e:δ[j]? = some (.ow d')):σ[j]?.join≠some (.ref p):=fun z=>by
 obtain ⟨a,e1,_,ok⟩:=S.sr.sl j _ e;rw [e1] at z; cases z;obtain ⟨o,q⟩:=ok.some;rw [hp] at q; cases q
noncomputable def Vs (i:Nat) (f:Dn->Res (List rG)):Dn->Out:=fun δ=>N9 (f δ) fun ds=>.nx (δ.set i (.ow (.list ds)))
theorem Yh {G0 H0:Hp} {D:Ends} {σ:St} {H:Hp} {i:Nat} (h:tS E G0 H0 (Vs i fs) D σ H):tF E fs σ H fun v H1=>D.nx (σ.set i (some v)) H1:=by
 obtain ⟨G,δ,S,a⟩:=h;refine Xh S a fun ds p xs G1 H1 g1 q1 q2 q3 q4 S1 a1=>?_;exact a1 _ G1 H1 (S1.set_ow (S.gr.h.free q1) q2 ⟨xs,q3,q4⟩ (Fg S q1))
theorem mN {x:Str} (C:Cxt P w K mg base X N sc k df) (i:Nat) (ho:okSet N sc df i x=true) (h:DF X E e fs) (hs:tH e (some (.Name x p)) pos.line X.env=pure false:=by rfl):DS X E (.Assign [.Name x p] e pos) (Vs i fs):=fun G0 H0=>by
 obtain ⟨h1,h2,h3,h4⟩:=okSet.ok C ho;exact PS.imp (Z9 h1 h2 h3 h hs h4) fun D σ H q=>Yh q
noncomputable def Hi (sc scope:Scope) (x:Str) (l1 l2:Nat):Bool:=decide (sc.kind=.function)&&decide (sc.names.lookup x=some .local)&&decide (l1=l2) && !(scope.names.any fun (n,kd)=>n==x&&(kd==.local||kd==.cell))
theorem Og {x:Str} {elt:Expr} {gens:List Comprehension} {ln:Nat} (C:Cxt P w K mg base X N sc k df) (h:Hi sc scope x p.line pos.line=true):tH (.ListComp elt gens scope pos) (some (.Name x p)) ln X.env=pure true:=by
 unfold Hi at h;simp only [sU,decide_eq_true_eq] at h;obtain ⟨⟨⟨h1,h2⟩,h3⟩,h4⟩:=h;unfold tH;show pure (X.env.blockKind==.function&&X.env.kindOf x==some .local&&p.line==pos.line && !(scope.names.any fun (n,kd)=>n==x&&(kd==.local||kd==.cell)))=_;have e1:X.env.blockKind=.function:=by unfold Env.blockKind; rw [C.hs,h1]; rfl
 have e2:X.env.kindOf x=some .local:=by show X.env.scope.names.lookup x=_; rw [C.hs]; exact h2
 rw [e1,e2,h3,h4];simp
noncomputable section
variable {x y:Str} {i:Nat} {py spos:Pos}
theorem Vq (C:Cxt P w K mg base X N sc k df) (i:Nat) (hset:okSet N sc df i y=true) (hsw:Hi sc scope y py.line pos.line=true) (cap:List Nat) (capN:List Str) (ho:okComp N sc scope [x] capN cap=true) (hi:DI X E (.Name x px) iter src)
   (ht:∀ X',Cxt P w K mg base X' ([x]++capN) (Ee scope sc) k false->DTs X' E0k ifs tt) (he:∀ X',Cxt P w K mg base X' ([x]++capN) (Ee scope sc) k false->DE X' E0k elt el)
   (hs:∀ x,uQ iter X.env x=pure x:=by intro _; rfl):DS X E (.Assign [.Name y py] (.ListComp elt [⟨.Name x px,iter,ifs,0⟩] scope pos) spos) (Vs i (N0 src L3 cap tt el)):=fun G0 H0=>by
 obtain ⟨h1,h2,h3,h4⟩:=okSet.ok C hset;have o:=okComp.ok ho;have hl:X.env.scope.names.lookup y=some .local:=by
   rw [C.hs]; unfold Hi at hsw; simp only [sU,decide_eq_true_eq] at hsw; exact hsw.1.1.2
 refine PS.imp (Lq (g:=An 0) C.calm (Cl C o) hi (fun X' B=>?_) (fun X' B=>ht X' (C.blk B)) (fun X' B=>he X' (C.blk B)) h1 h2 hl (Og C hsw) hs) fun D σ H h=>Pt (m:=1) rfl o.h10 gok1 (Yh h);have C':=C.blk B;have hl:X'.env.scope.names.lookup x=some .local:=by rw [C'.hs]; exact o.h9 x (by simp)
 exact Am (by rw [C'.hN]; exact o.h8) (by rw [C'.hN]; rfl) (.inl hl) (.inr hl)
noncomputable def dZ (i:Nat) (f:Dn->Res (List rG)):Dn->Out:=fun δ=>N9 (f δ) fun ds=>.nx (δ.set i (.sh (.list ds)))
theorem kQ {G0 H0:Hp} {D:Ends} {σ:St} {H:Hp} {i:Nat} (h:tS E G0 H0 (dZ i fs) D σ H):tF E fs σ H fun v H1=>D.nx (σ.set i (some v)) H1:=by
 obtain ⟨G,δ,S,a⟩:=h;refine Xh S a fun ds p xs G1 H1 g1 q1 q2 q3 q4 S1 a1=>?_;exact a1 _ _ H1 ((S.grow (g1.share q1 q2 q3)).set_sh ⟨p,xs,rfl,.inl B7,q4.mono (Same.upd q2)⟩)
end
end
end Sm
end
noncomputable section
namespace Sm
open PySem PySem.Spec PyProof.Rows L2
noncomputable section
variable {P:sE} {w:sT} {K:rK} {mg:Str->Option rJ} {base:tL} {X:Cx} {N:List Str} {sc:Scope} {k:Nat} {df:Bool} {E:EK} {pos p px py tp spos:Pos} {tg a b c e elt iter:Expr} {ifs:List Expr} {es:List Expr} {f g el:Dn->Res rG} {src:Dn->Res (List rG)} {tt:Dn->Res Bool} {scope:Scope} {capN:List Str} {cap:List Nat} {st:vN} {sts:List vN} {g1:Dn->Out} {x y:Str} {i:Nat}
theorem Vr {x1:Nat} {x2:Str} (C:Cxt P w K mg base X N sc k df) (i:Nat) (hset:okSet N sc df i y=true) (hsw:Hi sc scope y py.line pos.line=true) (cap:List Nat) (capN:List Str) (ho:okComp N sc scope [x,x2] capN cap=true) (hi:DI X E (.Tuple [.Name x px,.Name x2 p] x1 tp) iter src)
   (ht:∀ X',Cxt P w K mg base X' ([x,x2]++capN) (Ee scope sc) k false->DTs X' E0k ifs tt) (he:∀ X',Cxt P w K mg base X' ([x,x2]++capN) (Ee scope sc) k false->DE X' E0k elt el)
   (hs:∀ x,uQ iter X.env x=pure x:=by intro _; rfl):DS X E (.Assign [.Name y py] (.ListComp elt [⟨.Tuple [.Name x px,.Name x2 p] x1 tp,iter,ifs,0⟩] scope pos) spos) (dZ i (N0 src Ij cap tt el)):=fun G0 H0=>by
 obtain ⟨h1,h2,h3,h4⟩:=okSet.ok C hset;have o:=okComp.ok ho;have hl:X.env.scope.names.lookup y=some .local:=by
   rw [C.hs]; unfold Hi at hsw; simp only [sU,decide_eq_true_eq] at hsw; exact hsw.1.1.2
 refine PS.imp (Lq (g:=qM K 2 (Ty (An 0) (Ty (An 1) qN))) C.calm (Cl C o) hi (fun X' B=>?_) (fun X' B=>ht X' (C.blk B)) (fun X' B=>he X' (C.blk B)) h1 h2 hl (Og C hsw) hs) fun D σ H h=>Pt (m:=2) rfl o.h10 gok2 (kQ h);have C':=C.blk B;have hl:X'.env.scope.names.lookup x=some .local:=by rw [C'.hs]; exact o.h9 x (by simp)
 have hl2:X'.env.scope.names.lookup x2=some .local:=by rw [C'.hs]; exact o.h9 x2 (by simp)
 have nd:X'.N.Nodup:=by rw [C'.hN]; exact o.h8
 have p1:PG X' (.Name x px) (An 0):=Am nd (by rw [C'.hN]; rfl) (.inl hl) (.inr hl);have p2:PG X' (.Name x2 p) (An 1):=Am nd (by rw [C'.hN]; rfl) (.inl hl2) (.inr hl2);have:=oU (n:=2) (k:=x1) (pos:=tp) C'.calm (Tc p1 (Tc p2 kE));rw [C'.hK] at this;exact this
noncomputable def Ll (i:Nat) (f:Dn->Res rG):Dn->Out:=fun δ=>match δ[i]? with
 | some (.ow (.list ds))=>N9 (f δ) fun d=>if ds.length < sizeLine then .nx (δ.set i (.ow (.list (ds++[d])))) else .no
 | _=>.no
theorem dW {cpos apos:Pos} (C:Cxt P w K mg base X N sc k df) (i:Nat) (h:okVar N sc i x=true) (ha:DE X E a f)
   (hbase:sQ (.Name x p) "append" X.env (eval (.Name x p) X.env)=eval (.Name x p) X.env:=by rfl)
   (hfew:((tR cpos (rP [a] X.env)).all (fun x => !x.1)&&(wI cpos (uJ [] X.env)).all (fun x=>x.1.isSome)
     && decide ([a].length+([]:List wU).length+(if ([]:List wU).isEmpty then 0 else 1) < 30))=true:=by rfl)
   (hline:(apos.endLine==cpos.line)=true:=by rfl) (hs:rP [a] X.env=(false,eval a X.env)::rP [] X.env:=by rfl) (hplain:(tR cpos (rP [] X.env)).any (·.1)=false:=by rfl)
   (hsw:tH (.Call (.Attribute (.Name x p) "append" apos) [a] [] cpos) none pos.line X.env=pure false:=by rfl) :
   DS X E (.Expr (.Call (.Attribute (.Name x p) "append" apos) [a] [] cpos) pos) (Ll i f):=fun G0 H0=>by
 have hv:PE X (.Name x p) (Vd i):=by
   unfold okVar at h; simp only [sU,zD] at h; obtain ⟨⟨⟨h1,h2⟩,h3⟩,h4⟩:=h; refine Wd (by rw [C.hN]; exact xI h1) ?_ h3 h4;rw [C.hs]; unfold Vis;cases q:sc.names.lookup x with
   | none=>rw [q] at h2; cases h2
   | some z =>
     rw [q] at h2;cases z with
     | «local» => exact .inl rfl
     | cell=>exact .inr (.inl rfl)
     | free=>exact .inr (.inr rfl)
     | _=>cases h2
 refine PS.imp (W7 (Ie uB wE wD U6 hv (C8 ha F7 hs) hbase hfew hline hs hplain) hsw) fun D σ H hZ3=>?_;obtain ⟨G,δ,S,aft⟩:=hZ3;unfold Ll at aft;split at aft
 . rename_i ds hi
   obtain ⟨q,hq,hg,xs,hx,rl⟩:=S.sr.sl i _ hi; have hσ:σ[i]? = some (some (.ref q)):=by
     cases z:σ[i]? with
     | none=>rw [z] at hq; cases hq
     | some z'=>rw [z] at hq; cases z' with
       | none=>cases hq
       | some z''=>cases hq; rfl
   refine ⟨.ref q,hσ,.inl ⟨rfl,xs,.inl (.inl hx)⟩,?_⟩; refine Mv S aft fun d v G1 H1 g1 r1 S1 a1=>?_;split at a1
   . rename_i hz
     have hx1:H1 q=some (.lst xs):=g1.h _ _ hx; obtain ⟨q',hq',hg',_⟩:=S1.sr.sl i _ hi; rw [hq] at hq'; cases hq'; refine ⟨q,xs,v,rfl,rfl,hx1,by rw [<- rl.length]; exact hz,?_⟩;exact a1 σ G1 _ (S1.write hi hq hg' ⟨xs++[v],B7,(rl.mono g1.g).append (RepL.cons r1 rfl)⟩)
   . exact a1.elim
 . exact aft.elim
noncomputable def L5 (st:rG->Dn->Option Dn) (body:Dn->Out):List rG->Dn->Out
 | [],δ=>.nx δ
 | d::ds,δ=>match st d δ with
   | some δ1=>match body δ1 with
     | .nx δ'=>L5 st body ds δ'
     | .ct δ'=>L5 st body ds δ'
     | .bk δ'=>.nx δ'
     | o=>o
   | none=>.no
noncomputable def Ct (src:Dn->Res (List rG)) (st:rG->Dn->Option Dn) (body:Dn->Out):Dn->Out:=fun δ=>N9 (src δ) fun ds=>L5 st body ds δ
noncomputable def st1 (i:Nat):rG->Dn->Option Dn:=fun d δ=>some (δ.set i (.sh d))
noncomputable def st2 (i j:Nat):rG->Dn->Option Dn:=fun d δ=>match d with
 | .tuple [a,b]=>some ((δ.set i (.sh a)).set j (.sh b))
 | _=>none
def TgOk (K:rK) (g:TG) (st:rG->Dn->Option Dn):Prop:=∀ (G0 H0 G H:Hp) (σ:St) (δ δ1:Dn) (d:rG) (x:V) (Q:St->Hp->Prop),SSt G0 H0 G H σ δ->Rep G d x->st d δ=some δ1->(∀ σ',SSt G0 H0 G H σ' δ1->Q σ' H)->g x σ H Q
theorem tg1 (i:Nat):TgOk K (An i) (st1 i):=fun G0 H0 G H σ δ δ1 d x Q S r e h=>by cases e; exact h _ (S.set_sh r)
theorem SSt.rebase {G0 H0 G1 H1 G H:Hp} {σ:St} {δ:Dn} (g:Grow G0 H0 G1 H1) (S:SSt G0 H0 G H σ δ) (h:Same G1 G):SSt G1 H0 G H σ δ :=
 ⟨⟨h,S.gr.h,S.gr.gh,fun b o e=>(S.gr.fr b o e).imp (fun z=>g.g _ _ z) id⟩,S.sr,S.fr⟩
theorem Grow.unbase {G0 H0 G1 H1 G H:Hp} (g:Grow G0 H0 G1 H1) (h:Grow G1 H0 G H):Grow G0 H0 G H :=
 ⟨g.g.trans h.g,h.h,h.gh,fun b o e=>(h.fr b o e).elim (fun z=>g.fr b o z) .inr⟩
theorem SSt.unbase {G0 H0 G1 H1 G H:Hp} {σ:St} {δ:Dn} (g:Grow G0 H0 G1 H1) (S:SSt G1 H0 G H σ δ):SSt G0 H0 G H σ δ:=⟨g.unbase S.gr,S.sr,S.fr⟩
theorem nV {gt:TG} {st:rG->Dn->Option Dn} (C:Cxt P w K mg base X N sc k df) (hi:DI X E tg iter src) (hg:PG X tg gt) (ht:TgOk K gt st) (hb:DSs X E sts g1) (hs:∀ x,uQ iter X.env x=pure x):DS X E (.For tg iter sts [] pos) (Ct src st g1):=fun G0 H0=>by
 have hb':PSs X sts (fun D σ H=>∃ Gb,tS E Gb H0 g1 D σ H):=fun pins s σ H D I hZ6=>by obtain ⟨Gb,q⟩:=hZ6; exact hb Gb H0 pins s σ H D I q
 refine PS.imp (Wb C.own C.calm hi hg hb' hs) fun D σ H hZ3=>?_;obtain ⟨G,δ,S,aft⟩:=hZ3;refine iB S aft fun ds J G1 H1 gr W S1 a1=>?_;have g01:=S1.gr;refine ⟨fun i n σ' H'=>n=ds.length - i/\i<=ds.length/\∃ G' δ',SSt G1 H0 G' H' σ' δ'/\Hw E G0 H0 (L5 st g1 (ds.drop i) δ') D,⟨_,rfl,uA _,G1,δ,S1.rebase g01 (Same.refl _),by rw [yG]; exact a1⟩,?_⟩;rintro i n σ' H' ⟨rfl,hi,G',δ',S',a'⟩;by_cases hlt:i < ds.length
 . have hd:ds[i]? = some ds[i]:=sH hlt
   have hdrop:ds.drop i=ds[i]::ds.drop (i+1):=uO hlt; rw [hdrop] at a'; unfold L5 at a'; refine .inr ⟨W.go i H' hlt (S'.gr.g.trans S'.sr.sub),fun σ2 H2=>∃ G' δ',SSt G1 H0 G' H2 σ2 δ'/\Hw E G0 H0 (L5 st g1 (ds.drop (i+1)) δ') D,fun σ2 H2 q=>⟨_,by omega,rfl,hlt,q⟩,fun x H'' hy=>?_⟩;obtain ⟨G3,g3,r3⟩:=W.yld i _ G' H' x H'' hd S'.gr.g S'.sr.sub hy; have S3:=S'.grow g3;cases es:st ds[i] δ' with
   | none=>rw [es] at a'; exact a'.elim
   | some δ1 =>
     rw [es] at a'; refine ht G1 H0 G3 H'' σ' δ' δ1 _ x _ S3 r3 es fun σ2 S4=>⟨G1,G3,δ1,S4,?_⟩;simp only at a';cases eo:g1 δ1 with
     | nx δ2=>rw [eo] at a'; exact fun σ3 G4 H4 S5=>⟨G4,δ2,S5,a'⟩
     | ct δ2=>rw [eo] at a'; exact fun σ3 G4 H4 S5=>⟨G4,δ2,S5,a'⟩
     | bk δ2=>rw [eo] at a'; exact fun σ3 G4 H4 S5=>a' σ3 G4 H4 (S5.unbase g01)
     | rt d=>rw [eo] at a'; exact fun v G4 H4 g r=>a' v G4 H4 (g01.unbase g) r
     | exc c=>rw [eo] at a'; exact fun G4 H4 g=>a' G4 H4 (g01.unbase g)
     | no=>rw [eo] at a'; exact a'
 . refine .inl ⟨W.stop i H' (uV.mp hlt) (S'.gr.g.trans S'.sr.sub),?_⟩
   have:ds.drop i=[]:=vW (uV.mp hlt); rw [this] at a'; exact a' σ' G' H' (S'.unbase g01)
theorem He (C:Cxt P w K mg base X N sc k df) (i:Nat) (ho:okSet N sc df i x=true) (hi:DI X E (.Name x p) iter src) (hb:DSs X E sts g1) (hs:∀ x,uQ iter X.env x=pure x:=by intro _; rfl):DS X E (.For (.Name x p) iter sts [] pos) (Ct src (st1 i) g1):=by
 obtain ⟨h1,h2,h3,h4⟩:=okSet.ok C ho;exact nV C hi (Am h1 h2 h3 h4) (tg1 i) hb hs
end
end Sm
end
noncomputable section
namespace Sm
open PySem PySem.Spec PyProof.Rows L2
noncomputable section
variable {P:sE} {w:sT} {K:rK} {mg:Str->Option rJ} {base:tL} {X:Cx} {N:List Str} {sc:Scope} {k:Nat} {df:Bool} {E:EK} {p:Pos} {a c e:Expr} {f g:Dn->Res rG} {x:Str} {i:Nat}
theorem okVar.pe (C:Cxt P w K mg base X N sc k df) (h:okVar N sc i x=true):PE X (.Name x p) (Vd i):=by
 unfold okVar at h;simp only [sU,zD] at h;obtain ⟨⟨⟨h1,h2⟩,h3⟩,h4⟩:=h;refine Wd (by rw [C.hN]; exact xI h1) ?_ h3 h4;rw [C.hs];unfold Vis;cases q:sc.names.lookup x with
 | none=>rw [q] at h2; cases h2
 | some z =>
   rw [q] at h2;cases z with
   | «local» => exact .inl rfl
   | cell=>exact .inr (.inl rfl)
   | free=>exact .inr (.inr rfl)
   | _=>cases h2
theorem SR.own {G H:Hp} {σ:St} {δ:Dn} (S:SR G H σ δ) {d:rG} (hi:δ[i]? = some (.ow d)):∃ q,σ[i]? = some (some (.ref q))/\G q=none/\OwnOk G H q d:=by
 obtain ⟨q,hq,hg,ok⟩:=S.sl i _ hi;refine ⟨q,?_,hg,ok⟩;cases z:σ[i]? with
 | none=>rw [z] at hq; cases hq
 | some z'=>rw [z] at hq; cases z' with
   | none=>cases hq
   | some z''=>cases hq; rfl
noncomputable def K3 (N:List Str) (ds:List rG):Dn:=ds.map .sh++sG (N.length - ds.length) .un
noncomputable def fnD (N:List Str) (g:Dn->Out):List rG->Res rG:=fun ds=>match g (K3 N ds) with
 | .rt d=>.ok d
 | .nx _=>.ok .none
 | .exc c=>.exc c
 | _=>.no
theorem Jz {G H:Hp} (hG:Same G H) {ds:List rG} {vs:List V} (r:RepL G ds vs) (N:List Str):SSt G H G H (T0 N vs) (K3 N ds):=by
 have hl:=r.length;have noow:∀ (i:Nat) (d:rG),(K3 N ds)[i]? ≠ some (.ow d):=fun i d e=>by
   unfold K3 at e;by_cases hi:i < ds.length
   . rw [sI (by simpa using hi),sB] at e
     cases q:ds[i]? with
     | none=>rw [q] at e; cases e
     | some z=>rw [q] at e; cases e
   . rw [sK (by simpa using uV.mp hi),vP] at e
     split at e <;> cases e
 refine ⟨Grow.refl hG,⟨hG,by unfold L2.T0 K3; simp [hl],fun i s e=>?_,fun i j a d d' e _ _ _=>absurd e (noow i d)⟩,fun i d a e _=>absurd e (noow i d)⟩;unfold K3 at e;by_cases hi:i < ds.length
 . rw [sI (by simpa using hi),sB] at e
   cases q:ds[i]? with
   | none=>rw [q] at e; cases e
   | some z =>
     rw [q] at e; cases e;obtain ⟨v,e1,rv⟩:=r.get q; unfold L2.T0; rw [sI (by rw [rY,<- hl]; exact hi),sB,e1];exact ⟨v,rfl,rv⟩
 . rw [sK (by simpa using uV.mp hi),vP] at e
   split at e <;> cases e
   trivial
structure Def (K:rK) (mg:Str->Option rJ) (x:Str) (st:vN) (ps:List Str):Prop where
 ex:∃ f fd,L2.Fun K x x st f fd/\mg x=some (.ref f)/\Binds K fd ps []
theorem qO {x:Str} {st:vN} {ps:List Str} {n:Nat} {go:Dn->Out} {m:List rG->Res rG} {f:rN} {fd:vZ} (F:L2.Fun K x x st f fd) (S:FnScope N ps (A0 st)) (hn:ps.length=n)
   (body:∀ X,Cxt P w K mg base X N (A0 st) k true->DSs X E0k (B6 st) go) (hm:m=fnD N go):FnOk P w K mg base CX0 (k+1) f fd ps (spD n m):=by
 subst hm;refine F.ok S (fun vs H Q E h=>?_) (fun cdv A outer s H vs Q E hr h=>?_)
 . obtain ⟨G,ds,d,_,r,hl,_⟩:=h
   rw [<- r.length,hl,hn]
 . obtain ⟨G,ds,d,hG,r,hl,em,q⟩:=h
   refine ⟨_,body _ ⟨rfl,rfl,rfl,rfl,rfl,rfl,rfl,rfl,hr,fun _ _=>rfl,uN⟩ G H,G,_,Jz hG r N,?_⟩;unfold fnD at em;cases eg:go (K3 N ds) with
   | rt d'=>rw [eg] at em; cases em; exact fun v G' H' g r'=>q v G' H' g r'
   | nx δ=>rw [eg] at em; cases em; exact fun σ G' H' S'=>q _ G' H' S'.gr rfl
   | bk _=>rw [eg] at em; cases em
   | ct _=>rw [eg] at em; cases em
   | exc _=>rw [eg] at em; cases em
   | no=>rw [eg] at em; cases em
theorem Iq {x:Str} {st:vN} {ps:List Str} {n:Nat} {go:Dn->Out} {m:List rG->Res rG} (F:Def K mg x st ps) (S:FnScope N ps (A0 st)) (hn:ps.length=n)
   (body:∀ X,Cxt P w K mg base X N (A0 st) k true->DSs X E0k (B6 st) go) (hm:m=fnD N go):Fn P w K mg base x (k+1) n m:=by
 obtain ⟨f,fd,F,hmg,hb⟩:=F.ex;exact ⟨f,fd,ps,hn,qO F S hn body hm,hmg,F.kp,hb⟩
end
end Sm
end
noncomputable section
namespace Sm
open PySem PySem.Spec PyProof.Rows L2
end Sm
end
noncomputable section
namespace Sm
open PySem PySem.Spec PyProof.Rows L2
end Sm
end
noncomputable section
namespace Sm
open PySem PySem.Spec PyProof.Rows L2
end Sm
end
noncomputable section
namespace Sm
open PySem PySem.Spec PyProof.Rows L2
end Sm
end
noncomputable section
namespace Sm
open PySem PySem.Spec PyProof.Rows L2 PySem.Builtin.Str
end Sm
end
noncomputable section
namespace Sm
open PySem PySem.Spec PyProof.Rows L2
end Sm
end
noncomputable section
namespace Sm
open PySem PySem.Spec PyProof.Rows L2
end Sm
end
noncomputable section
namespace Sm
open PySem PySem.Spec PyProof.Rows L2
end Sm
end
noncomputable section
namespace Sm
open PySem PySem.Spec PyProof.Rows L2
open AutoSeq1 (wpAny_loadPart')
end Sm
end
noncomputable section
namespace Sm
open PySem PySem.Spec PyProof.Rows L2
end Sm
end
noncomputable section
namespace Sm
open PySem PySem.W PyProof.Rows
noncomputable section
variable {prog:sE} {w:sT} {A:tY} {E:rJ->rM->Prop} {s:rM}
theorem Re {T:String} {r d:rN} {n:Nat} {P:Nat->rJ->Prop} {OK:tL->Prop} {Q:List rJ->rM->Prop} (K:KdlSrc prog w T r d n P OK) (hh:A.handled=none) (hok:OK s.heap) (hn:n<=sizeLine)
   (hQ:∀ (h':tL) tk acc,(∀ b o,s.heap.get? b=some o->h'.get? b=some o)->ItemsOf P acc n->Q acc.toList { s with heap:=h',toks:=tk }):wpAny (sM prog w) A (collect (.ref r)) Q E s:=by
 have hlt:=K.there _ hok;have hS:(s.heap.push { cls:=.type "list",data:=.seq ([]:List rJ).toArray }).get? s.heap.objs.size=some { cls:=.type "list",data:=.seq #[] 0 }:=sL _ rfl;unfold collect;refine rH (wpAny_runValue (CA F.entry_proto_collect ?_));rw [o5 F.plain_proto_collect _];refine rH (uP (rL ⟨plainId_quiet F.plain_list_iadd _,CA F.entry_list_iadd ?_⟩));rw [o5 F.plain_list_iadd _];refine vE (kdl_extend (A:=A) (s:={ s with heap:=s.heap.push { cls:=.type "list",data:=.seq ([]:List rJ).toArray } })
   (R:=fun res s'=>∃ h' tk acc c,res=.ok (.ret (.ref s.heap.objs.size))/\s'={ s with heap:=h',toks:=tk }/\(∀ b o,s.heap.get? b=some o->h'.get? b=some o) /\
     h'.get? s.heap.objs.size=some { cls:=.type "list",dict:=none,data:=.seq acc c,slots := #[] }/\ItemsOf P acc n)
   K hh (K.keep _ _ hok fun b _ o e=>rW _ e) s.heap.objs.size (c6 hlt.1) (c6 hlt.2) (.ref s.heap.objs.size) 0 hS
   (fun h' tk acc c hk hS' hacc=>⟨h',tk,acc,c,rfl,rfl,fun b o e=>hk b o (tG (sN e)) (rW _ e),hS',hacc⟩) hn) (fun fin s' h=>?_) (fun e s' h=>?_)
 . cases fin with
   | done f =>
     obtain ⟨h',tk,acc,c,e,rfl,hk,hS',hacc⟩:=h; cases e; exact rH (wpAny_load hS' (rL (hQ h' tk acc hk hacc)))
   | again c' =>
     refine ⟨h.1,u8 h.2 fun r s'' hr=>?_⟩;obtain ⟨h',tk,acc,c,rfl,rfl,hk,hS',hacc⟩:=hr; exact rH (wpAny_load hS' (rL (hQ h' tk acc hk hacc)))
 . obtain ⟨_,_,_,_,e,_⟩:=h
   cases e
end
end Sm
end
noncomputable section
namespace Sm
open PySem PySem.Spec PyProof.Rows L2
end Sm
end
noncomputable section
namespace Sm
open PySem PySem.Spec PyProof.Rows L2
end Sm
end
noncomputable section
namespace Sm
open PySem PySem.Spec
end Sm
end
noncomputable section
namespace Sm
open PySem PySem.Spec PyProof.Rows L2
end Sm
end
noncomputable section
namespace Sm
open PySem PySem.Spec PyProof.Rows L2
abbrev Kvs:=List (rG×rG)
noncomputable def Jo (g1:Dn->Out) (g2:Dn->Res Kvs):Dn->Res Kvs:=fun δ=>match g1 δ with
 | .nx δ'=>g2 δ'
 | .exc c=>.exc c
 | _=>.no
noncomputable def fnW (N:List Str) (g:Dn->Res Kvs):List rG->Res Kvs:=fun ds=>g (K3 N ds)
noncomputable def Rm (fs:Dn->Res (List rG)) (m:List rG->Res Kvs):Dn->Res Kvs:=fun δ=>(fs δ).bind m
end Sm
end
noncomputable section
namespace Sm
open PySem PySem.Spec PyProof.Rows L2
theorem Qg:Slot "reversed" "__init__" "object.__init__" :=
 .of (owner := "object") (n := "__init__") (by rw [v7,zT]; kernel_rfl) (by decide +kernel) (by decide +kernel) (by decide +kernel) (by first | exact .inl (by decide +kernel) | exact .inr (by decide +kernel)) (by rw [z5]; kernel_rfl)
theorem Hf:TypeCalled "reversed" "reversed.__new__" "object.__init__" :=
 ⟨by decide +kernel,by decide +kernel,⟨_,_,F.mro_reversed⟩,F.made_reversed,by decide +kernel,F.sub_reversed_self,Qg⟩
theorem T5:Slot "reversed" "__next__" "reversed.__next__" :=
 .of (owner := "reversed") (n := "__next__") (by rw [v7,zT]; kernel_rfl) (by decide +kernel) (by decide +kernel) (by decide +kernel) (by first | exact .inl (by decide +kernel) | exact .inr (by decide +kernel)) (by rw [z5]; kernel_rfl)
theorem Fu:Slot "reversed" "__iter__" "reversed.__iter__" :=
 .of (owner := "reversed") (n := "__iter__") (by rw [v7,zT]; kernel_rfl) (by decide +kernel) (by decide +kernel) (by decide +kernel) (by first | exact .inl (by decide +kernel) | exact .inr (by decide +kernel)) (by rw [z5]; kernel_rfl)
theorem El:entryFor table "reversed.__next__" = some xM.«reversed.__next__» := entryFor_of_tree ⋯
theorem Nn:entryFor table "reversed.__iter__" = some xM.«dict_keyiterator.__iter__» := by
 exact entryFor_alias (id' := "dict_keyiterator.__iter__") ⋯ (by decide +kernel) (by decide +kernel) ⋯
theorem Fv (a:rJ):argsOk "reversed.__next__" ⟨[a],[]⟩:=by unfold argsOk; kernel_rfl
theorem Qh (a:rJ):argsOk "reversed.__iter__" ⟨[a],[]⟩:=by unfold argsOk; kernel_rfl
theorem jD:typeLookup (.type "tuple") "__reversed__" = pure none:=by rw [v7,zT]; kernel_rfl
theorem jF:isSubtype (.type "tuple") (.type "dict")=pure false:=by rw [z5]; kernel_rfl
def IsRvT (h:tL) (a l:rN) (i:Int):Prop:=∃ o,h.get? a=some o/\o.cls=.type "reversed" /\ o.data=.fields #[.ref l,yJ i]
noncomputable section
variable {prog:sE} {w:sT} {A:tY} {E:rJ->rM->Prop} {s:rM}
theorem IsRvT.typeIs {a l:rN} {i:Int} (x:IsRvT s.heap a l i):s.TypeIs (.ref a) "reversed" := let ⟨o,ho,hc,_⟩:=x; ⟨o,ho,hc⟩
theorem jG {l:rN} {items:Array rJ} {Q₁:rJ->rM->Prop} (hl:w6 s.heap l items) (hz:items.size<=sizeLine)
   (h:∀ tk,Q₁ (.ref s.heap.objs.size) { s with heap:=s.heap.push { cls:=.type "reversed",data:=.fields #[.ref l,yJ ((items.size:Int) - 1)] },toks:=tk }) :
   k9 (sM prog w) A (.call (.builtin "reversed.__new__") ⟨[.type "reversed",.ref l],[]⟩) (wants Q₁ E) s:=by
 refine codeAny_of_tree (rH (xW (F.newCall_reversed_1 _) (rL ⟨plainId_quiet F.plain_reversed_new _,CA F.entry_reversed_new ?_⟩)));rw [o5 F.plain_reversed_new _];unfold xM.«reversed.__new__»;refine rH (xW (newClass_reversed _) (rH (xW (a:=()) (by first | rfl | kernel_rfl) (rH (xW (a:=()) (by first | rfl | kernel_rfl) ?_)))));refine rH (wV hl.typeIs jD ?_);try dsimp only
 refine rH (rH (zV hl.typeIs jF ?_));simp only [tU,if_false];refine rH (wV hl.typeIs AO.lookup ?_);dsimp only;rw [if_pos (by decide +kernel)];refine rL ?_;simp only [zK,tU,if_false];have hn:=Ch;refine rH (len_tuple hl (by lia) (rH (xW (a:=some (items.size:Int)) rfl ?_)));refine rH ?_;show wpAny _ _ (newObj (BC "reversed") (.fields #[.ref l,yJ ((items.size:Int) - 1)])) _ _ _;exact uP (rL (h _))
theorem jH {l:rN} {items:Array rJ} {Q:rJ->rM->Prop} (hl:w6 s.heap l items) (hz:items.size<=sizeLine)
   (h:∀ tk,Q (.ref s.heap.objs.size) { s with heap:=s.heap.push { cls:=.type "reversed",data:=.fields #[.ref l,yJ ((items.size:Int) - 1)] },toks:=tk }):wpAny (sM prog w) A (call (.type "reversed") [.ref l]) Q E s:=by
 refine callType_codes (Q₁:=fun obj t=>t.TypeIs obj "reversed" /\ Q obj t) Hf (F.typeCall_reversed_1 _) F.entry_object_init (jG hl hz fun tk=>⟨⟨_,sL _ rfl,rfl⟩,h tk⟩) fun obj t ht=>?_;exact ⟨ht.1,F.args_object_init_2 obj _,object_init_meets Hf.init.lookup Hf.made (by decide) prog w A.in1 _ t ⟨ht.1,rfl,ht.2⟩⟩
theorem jE {it l:rN} {i:Nat} {items:Array rJ} {x:rJ} {Q:Option rJ->rM->Prop} (hit:IsRvT s.heap it l (i:Int)) (hl:w6 s.heap l items) (hz:items.size<=sizeLine) (hx:items[i]? = some x)
   (hQ:∀ h' tk,IsRvT h' it l ((i:Int) - 1)->zZ it s.heap h'->Q (some x) { s with heap:=h',toks:=tk }):wpAny (sM prog w) A (t9 (.ref it)) Q E s:=by
 obtain ⟨o,ho,hc,hd⟩:=id hit;have hi:i < items.size:=by
   rcases CT i items.size with h | h
   . exact h
   . simp [h] at hx
 have hn:=Ch;unfold t9;refine rH (l5 ?_);refine vD (name:=xR "__next__") hit.typeIs T5 ?_;refine uX T5 hit.typeIs El ?_ (Fv _);unfold xM.«reversed.__next__»;refine rH (xW (a:=(tW it,[])) rfl ?_);try dsimp only
 refine rH (zE ho hd (x:=.ref l) rfl (rH (zE ho hd (x:=yJ (i:Int)) rfl ?_)));show wpAny _ _ (if (i:Int) < 0 then _ else _) _ _ s;rw [if_neg (by lia)];refine rH (wV hl.typeIs AO.lookup ?_);rw [if_neg (by simp)];refine rH (wpAny_mkInt (rH (l5 ?_)));refine getItem_tuple (s:={ s with toks:=s.toks+1 }) (j:=i) hl (by lia) (by lia) ?_ hx ?_
 . unfold seqIndex?
   first | (simp; lia) | (rw [if_neg (by lia),if_pos (by lia)]; simp) | (split <;> simp_all <;> lia)
 . try dsimp only
   refine rH (zE (s:={ s with toks:=s.toks+1 }) ho hd (x:=yJ (i:Int)) rfl ?_); show wpAny _ _ (CN (.ref it) 1 (yJ ((i:Int) - 1))>>=_) _ _ _;refine rH (i5 (s:={ s with toks:=s.toks+1 }) ho hd (by simp) ?_);refine rL ⟨x,rfl,rL (hQ _ _ ?_ (xB ..))⟩; exact ⟨_,vK _ ho (p0 (xS hd _)),(Obj.cls_mapFields ..).trans hc,by rw [xS hd]; simp⟩
theorem nZ {it l:rN} {j:Int} {Q:Option rJ->rM->Prop} (hj:j < 0) (hh:A.handled=none) (hit:IsRvT s.heap it l j)
   (hQ:∀ h',Heap.ExtBut it s.heap h'->Q none { s with heap:=h' }):wpAny (sM prog w) A (t9 (.ref it)) Q E s:=by
 obtain ⟨o,ho,hc,hd⟩:=id hit;unfold t9;refine rH (l5 ?_);refine vD (name:=xR "__next__") hit.typeIs T5 ?_;refine uX T5 hit.typeIs El ?_ (Fv _);unfold xM.«reversed.__next__»;refine rH (xW (a:=(tW it,[])) rfl ?_);try dsimp only
 refine rH (zE ho hd (x:=.ref l) rfl (rH (zE ho hd (x:=yJ j) rfl ?_)));show wpAny _ _ (if j < 0 then _ else _) _ _ s;rw [if_pos hj];refine rH (vT ?_);have ho1:=vK (CD (·.setIfInBounds 1 (yJ (-1)))) ho (p0 (xS hd _));have hd1:=xS hd (fun a=>a.setIfInBounds 1 (yJ (-1)));refine rH ?_;show wpAny _ _ (CN (.ref it) 1 (yJ (-1))>>=fun _=>CN (.ref it) 0 .none) _ _ _;refine rH (i5 ho hd (by simp) (i5 ho1 hd1 (by simp) (rH ?_)))
 show wpAny _ _ (newExc (.type "StopIteration") []>>=_) _ _ _;refine rH ?_;simp only [newExc,newTuple];refine rH (uP ?_ (by size_fits));refine rH (m:=z6 _ _) (xW (a:=wN) (by first | rfl | (simp only [z6]; rfl)) (uP ?_ (by size_fits)));simp only [raiseNew];refine rH (wpAny_handled ?_);rw [show A.in1.handled=none from hh];refine rH (rL (wpAny_throw (rH ?_)));refine zV (T := "StopIteration") (b:=true) ⟨_,sL _ rfl,rfl⟩ isSubtype_stop ?_;refine rL (hQ _ (CF (CF ?_ _) _))
 intro b ob hb eb;exact ((xB ..).extBut b ob hb ((xB ..).extBut b ob hb eb))
theorem Xq {it l:rN} {i:Int} {Q:rJ->rM->Prop} (hit:IsRvT s.heap it l i) (h:Q (.ref it) s):wpAny (sM prog w) A (pyIter (.ref it)) Q E s:=by
 refine wpAny_pyIter_slot hit.typeIs Fu (uX Fu hit.typeIs Nn ?_ (Qh _));show wpAny _ _ (ret (.ref it)) _ _ s;exact rL ⟨_,rfl, "reversed",_,hit.typeIs,T5.lookup,h⟩
end
def ItV (K:rK) (a:rN) (n:Nat):It :=
 ⟨fun i H=>i < n/\∃ xs x,SqT K H a xs/\xs.length=n/\xs[n - 1 - i]? = some x,fun i H x H'=>H'=H/\∀ xs,SqT K H a xs->xs[n - 1 - i]? = some x,fun i H=>n<=i⟩
theorem cC {P:sE} {w:sT} {K:rK} {tg:Expr} (a it:rN) (n:Nat):Turn P w K tg (ItV K a n) [it] it (fun i h=>IsRvT h it a ((n:Int) - 1 - i)) where
 mem:=by simp
 obj:=fun i h st b hb=>by
   have e:b=it:=by simpa using hb
   subst e; obtain ⟨o,e,c,d⟩:=st; exact ⟨o,e,fun v z=>by rw [d] at z; cases z⟩
 keep:=fun i h h' st k=>by
   obtain ⟨o,e,r⟩:=st; exact ⟨o,k it (by simp) o e,r⟩
 item:=by
   intro X hP hw hK hc i pins s σ H E I hf st hg; subst hP hw hK; obtain ⟨hi,xs,x,hq,hn,hx⟩:=hg; obtain ⟨its,rv,p,hz⟩:=I.tuple hq; obtain ⟨u,hu,ru⟩:=rv.get hx; have hl:=rv.length; obtain ⟨f0,f1,f2,f3,f4,f5⟩:=hf it (by simp);have e1:(n:Int) - 1 - (i:Int)=((n - 1 - i:Nat):Int):=by lia
   rw [e1] at st; refine jE st (show w6 s.heap a its.toArray from p) (by simp only [rX]; lia) (x:=u) (by simpa using hu) fun h' tk st' sb=>?_;have I1:Inv X pins σ H { s with heap:=h',toks:=tk }:=I.turned (t':=tk) (fun b o hb e=>(sb.2 b hb).trans e) f0 f1 f3 f4 f5;obtain ⟨o,e,c,d⟩:=id st'; refine ⟨u,rfl,Me (s:={ s with heap:=h',toks:=tk }) e c d (by decide) ⟨x,H,I1,ru,⟨rfl,fun ys hy=>by rw [I.tuple_inj hy hq]; exact hx⟩,?_,fun b hb=>(hf b hb).1⟩⟩;have e2:((n - 1 - i:Nat):Int) - 1=(n:Int) - 1 - ((i+1:Nat):Int):=by lia
   rw [e2] at st'; exact st'
 done:=by
   intro X hP hw hK hc i pins s σ H E I hf st hg; subst hP hw hK; have hi:n<=i:=hg; obtain ⟨f0,f1,f2,f3,f4,f5⟩:=hf it (by simp);exact nZ (by lia) (I.ok.hd hc) st fun h' eb=>⟨rfl,I.turned (t':=s.toks) (fun b o hb e=>eb b o hb e) f0 f1 f3 f4 f5⟩
 self:=fun _ _ _ _ _ st h=>Xq st h
theorem bX {K:rK} {G:Hp} {a:rN} {xs:List V} {ds:List rG} (h:G a=some (.tup xs)) (l:RepL G ds xs):Walk (ItV K a xs.length) G ds.reverse where
 go:=fun i H hi hG=>by
   have hi':i < xs.length:=by rw [<- l.length]; simpa using hi
   exact ⟨hi',xs,xs[xs.length - 1 - i],.inl (.inl (hG _ _ h)),rfl,by simp⟩
 yld:=fun i d G2 H x H' e h1 h2 hy=>by
   obtain ⟨rfl,hy⟩:=hy; have hlen:=l.length; have hi:i < ds.length:=by
     rcases CT i ds.length with z | z
     . exact z
     . rw [vJ (by simpa using z)] at e; cases e
   rw [n6 hi] at e; obtain ⟨y,e1,r⟩:=l.get e; have:=hy xs (.inl (.inl (h2 _ _ (h1 _ _ h)))); rw [hlen] at e1; rw [e1] at this; cases this; exact ⟨G2,Grow.refl h2,r.mono h1⟩
 stop:=fun i H hi hG=>by
   show xs.length<=i;rw [<- l.length]; simpa using hi
noncomputable def Sn:rG->Res (List rG)
 | .tuple ds=>.ok ds.reverse
 | _=>.no
noncomputable section
variable {P:sE} {w:sT} {K:rK} {mg:Str->Option rJ} {base:tL} {X:Cx} {N:List Str} {sc:Scope} {k:Nat} {df:Bool} {E:EK} {pos p:Pos} {tg a:Expr} {f:Dn->Res rG}
theorem i_rev (C:Cxt P w K mg base X N sc k df) (h:okGl sc "reversed" = true) (hm:mg "reversed" = none) (ha:DE X E a f) (he:rP [a] X.env=(false,eval a X.env)::rP [] X.env:=by rfl) (hpl:(tR pos (rP [] X.env)).any (·.1)=false:=by rfl) :
   DI X E tg (.Call (.Name "reversed" p) [a] [] pos) (fun δ=>(f δ).bind Sn):=by
 rintro pins s σ H R I ⟨G,δ,S,aft⟩;obtain ⟨h1,h2,h3⟩:=okGl.gl C h;have hh:=Jl (R:=fun v H1=>∃ v0 G1 d,[v]=[v0]/\Same G1 H1/\Rep G1 d v0/\AftI E G1 H1 (Sn d) R) (W:=fun G H r=>AftI E G H r R) S aft (fun g a=>AftI.grow g a) (fun c a=>a) (fun a=>a) fun d v G1 H1 g1 r1 S1 a1=>⟨v,G1,d,rfl,S1.sub,r1,a1⟩;refine xX (Fc I h1 (by rw [C.hmg]; exact hm) (show yW "reversed" = some (.type "reversed") by decide +kernel) ?_ h3 h2);refine vI (thn ((C8 ha F7 he) pos pins s σ H (fun vs H1=>∃ v G1 d,vs=[v]/\Same G1 H1/\Rep G1 d v/\AftI E G1 H1 (Sn d) R) I ?_) fun us s1 ⟨vs,H1,I1,rx,v,G1,d,ev,hG,rd,a1⟩=>?_) he hpl
 . exact hh
 . subst ev
   obtain ⟨u,rfl,ru⟩:=Vals.one rx;cases d with
   | tuple ds =>
     obtain ⟨q,xs,rfl,hq,l1⟩:=rd; cases ru; obtain ⟨zz,its,rv,e1⟩:=Hg I1 hG hq; have hl:=rv.length; refine jH (show w6 s1.heap q its.toArray from e1) (by simp only [rX]; lia) fun tk=>?_;have I2:Inv X pins σ H1 { s1 with heap:=s1.heap.push { cls:=.type "reversed",data:=.fields #[.ref q,yJ ((its.toArray.size:Int) - 1)] },toks:=tk }:=I1.kept (t':=tk) fun b o e=>rW _ e;have st:IsRvT (s1.heap.push { cls:=.type "reversed",data:=.fields #[.ref q,yJ ((its.toArray.size:Int) - 1)] }) s1.heap.objs.size q ((xs.length:Int) - 1 - ((0:Nat):Int)):=⟨_,sL _ rfl,rfl,by simp [hl]⟩
     refine Xq (s:={ s1 with heap:=s1.heap.push { cls:=.type "reversed",data:=.fields #[.ref q,yJ ((its.toArray.size:Int) - 1)] },toks:=tk }) st ?_; refine ⟨s1.heap.objs.size,[s1.heap.objs.size],_,_,H1,rfl,I2,cC q _ xs.length,st,fun b hb=>?_,a1 _ G1 H1 (Grow.refl hG) (bX hq l1)⟩;have e:b=s1.heap.objs.size:=by simpa using hb
     subst e; exact I1.fpOk (sC _) (I1.hok.fresh (sC _))
   | _=>exact (show False from a1).elim
end
end Sm
end
noncomputable section
namespace Sm
open PySem PySem.Spec PyProof.Rows L2
end Sm
end
noncomputable section
namespace Sm
open PySem PySem.Spec PySem.W PyProof.Rows
end Sm
end
noncomputable section
namespace Sm
open PySem PySem.Spec PySem.W PyProof.Rows L2
end Sm
end
noncomputable section
namespace Sm
open PySem PySem.Spec PyProof.Rows L2
noncomputable section
variable {prog:sE} {w:sT} {A:tY} {E:rJ->rM->Prop} {s:rM}
theorem fY {d:rN} {od:Obj} {es:Array tV} {ep:Nat} {Q:rJ->rM->Prop} (hd:(d==wK)=false) (hT:s.TypeIs (.ref d) "dict") (ho:s.heap.get? d=some od) (hdat:od.data=.dict es ep)
   (hQ:Q (.ref s.heap.objs.size) { s with heap:=s.heap.push { cls:=.type "dict_keyiterator",data:=.fields #[.ref d,.int 0 0,.int es.size 0,.int ep 0] } }) :
   wpAny (sM prog w) A (pyIter (.ref d)) Q E s:=by
 refine wpAny_pyIter_slot hT F.slot_dict_iter (uX F.slot_dict_iter hT F.entry_dict_iter ?_ (F.args_dict_iter_1 _));unfold xM.«dict.__iter__» Builtin.Dict.dictSlotNone;refine rH (rH (yI hT (rL ?_)));have hz:∀ (R:rJ->rM->Prop),wpAny (sM prog w) A.in1 (e9 d) (fun _ t=>t=s) R s:=fun R=>by
   unfold e9; rw [hd]; exact rL rfl
 refine rH (xW (a:=d) rfl (rH (vE (hz E) (fun _ t e=>?_) fun _ _ e=>e)));subst e;refine rH (vM ho hdat (rH (uE ho hdat ?_)));refine rH (uP (rL ⟨_,rfl, "dict_keyiterator",_,⟨_,sL _ rfl,rfl⟩,F.slot_dict_keyiterator_next.lookup,?_⟩));simpa [yJ] using hQ
theorem fH {it d:rN} {i ep:Nat} {od:Obj} {es:Array tV} {Q:Option rJ->rM->Prop} (hit:s.heap.IsKeyIter it d i es.size ep) (hod:s.heap.get? d=some od) (hdd:od.data=.dict es ep) (hlt:i < es.size)
   (hQ:∀ h',h'.IsKeyIter it d (i+1) es.size ep->zZ it s.heap h'->Q (some es[i].key) { s with heap:=h' }):wpAny (sM prog w) A (t9 (.ref it)) Q E s:=by
 obtain ⟨o,ho,hc,hd⟩:=id hit;have hnew:(s.heap.update it (CD (·.setIfInBounds 1 (yJ ((i:Int)+1))))).IsKeyIter it d (i+1) es.size ep:=by
   refine ⟨_,vK _ ho (p0 (xS hd _)),(Obj.cls_mapFields ..).trans hc,?_⟩; rw [xS hd]; simp [yJ]
 have hty:Shared.TypeIs { s with heap:=s.heap.update it (CD (·.setIfInBounds 1 (yJ ((i:Int)+1)))) } (.ref it) "dict_keyiterator" := hnew.typeIs;unfold t9;refine rH (l5 ?_);refine vD (name:=xR "__next__") hit.typeIs F.slot_dict_keyiterator_next ?_;refine uX F.slot_dict_keyiterator_next hit.typeIs F.entry_dict_keyiterator_next ?_ (F.args_dict_keyiterator_next_1 _);refine rH (rL (rH (rH ?_)));refine rH (xV hit.typeIs (rL ?_));refine rH (wpAny_fieldsOf ho hd ?_)
 simp only [show l4 "dict_keyiterator" = false by decide,tU,if_false];show wpAny _ _ (if (tW d==wN)=true then _ else _) _ _ s;rw [if_neg (by exact vB)];refine rH (rL (rH (vM hod hdd ?_)));rw [if_neg (by simp)];refine rH (rL (rH (uE hod hdd ?_)));rw [if_neg (by simp)];refine rL ?_;simp only [show ¬ ((i:Int) < 0) from by lia,if_false,Int.toNat_natCast,vF hlt];refine rH (rH (xV hit.typeIs (rL ?_)))
 refine rH (w8 hit.typeIs ?_);show wpAny _ _ (CN (.ref it) 1 (yJ ((i:Int)+1))>>=_) _ _ s;refine rH (i5 ho hd (by simp) (rH (uW ?_)));refine rH (w8 hty ?_);first
   | exact rL (rL ⟨_,rfl,rL (hQ _ hnew (xB ..))⟩)
   | (refine rH (w8 hty ?_); exact rL (rL ⟨_,rfl,rL (hQ _ hnew (xB ..))⟩))
theorem lJ {it d:rN} {i ep:Nat} {od:Obj} {es:Array tV} {Q:Option rJ->rM->Prop} (hh:A.handled=none) (hi:es.size<=i) (hit:s.heap.IsKeyIter it d i es.size ep) (hod:s.heap.get? d=some od) (hdd:od.data=.dict es ep)
   (hQ:∀ h',Heap.ExtBut it s.heap h'->Q none { s with heap:=h' }):wpAny (sM prog w) A (t9 (.ref it)) Q E s:=by
 obtain ⟨o,ho,hc,hd⟩:=id hit;unfold t9;refine rH (l5 ?_);refine vD (name:=xR "__next__") hit.typeIs F.slot_dict_keyiterator_next ?_;refine uX F.slot_dict_keyiterator_next hit.typeIs F.entry_dict_keyiterator_next ?_ (F.args_dict_keyiterator_next_1 _);refine rH (rL (rH (rH ?_)));refine rH (xV hit.typeIs (rL ?_));refine rH (wpAny_fieldsOf ho hd ?_);simp only [show l4 "dict_keyiterator" = false by decide,tU,if_false]
 show wpAny _ _ (if (tW d==wN)=true then _ else _) _ _ s;rw [if_neg (by exact vB)];refine rH (rL (rH (vM hod hdd ?_)));rw [if_neg (by simp)];refine rH (rL (rH (uE hod hdd ?_)));rw [if_neg (by simp)];refine rL ?_;simp only [show ¬ ((i:Int) < 0) from by lia,if_false,Int.toNat_natCast,Array.getElem?_eq_none hi];refine rH (rH (xV hit.typeIs (rL ?_)));show wpAny _ _ (CN (.ref it) 0 .none>>=_) _ _ s;refine rH (i5 ho hd (by simp) ?_)
 show wpAny _ _ (newExc (.type "StopIteration") []>>=_) _ _ _;refine rH ?_;simp only [newExc,newTuple];refine rH (uP ?_ (by size_fits));refine rH (m:=z6 _ _) (xW (a:=wN) (by first | rfl | (simp only [z6]; rfl)) (uP ?_ (by size_fits)));simp only [raiseNew];refine rH (wpAny_handled ?_);rw [show A.in1.handled=none from hh];refine rH (rL (wpAny_throw (rH ?_)));refine zV (T := "StopIteration") (b:=true) ⟨_,sL _ rfl,rfl⟩ isSubtype_stop ?_;exact rL (hQ _ (((xB ..).extBut.push _).push _))
end
end Sm
end
noncomputable section
namespace Sm
open PySem PySem.Spec PyProof.Rows L2
end Sm
end
noncomputable section
namespace Sm
open PySem PySem.Spec PyProof.Rows L2
end Sm
end
noncomputable section
namespace Sm
open PySem PySem.Spec PyProof.Rows PySem.W L2
structure NAt (h:tL) (v:rJ) (d:rG):Prop where
 rd:∃ as,Reads h v d as
 nk:d=.none\/(isK d=true/\((∃ xs,d=.tuple xs)\/∃ z,d=.str z))
 lay:d.canLay0=true
 dp:d.depth<=8
theorem Hq {a b:rG} (ha:a=.none\/(isK a=true/\((∃ xs,a=.tuple xs)\/∃ z,a=.str z))) (hb:b=.none\/(isK b=true/\((∃ xs,b=.tuple xs)\/∃ z,b=.str z))):rZ a b=true↔a=b:=by
 rcases ha with rfl | ⟨ha,ha'⟩
 . rcases hb with rfl | ⟨_,⟨ys,rfl⟩ | ⟨z,rfl⟩⟩
   . exact ⟨fun _=>rfl,fun _=>rfl⟩
   . exact ⟨fun h=>(by simp [rZ] at h),fun h=>nomatch h⟩
   . exact ⟨fun h=>(by simp [rZ] at h),fun h=>nomatch h⟩
 . rcases hb with rfl | ⟨hb,_⟩
   . rcases ha' with ⟨xs,rfl⟩ | ⟨z,rfl⟩
     . exact ⟨fun h=>(by simp [rZ] at h),fun h=>nomatch h⟩
     . exact ⟨fun h=>(by simp [rZ] at h),fun h=>nomatch h⟩
   . exact qR _ _ ha hb
noncomputable section
variable {prog:sE} {w:sT} {A:tY} {E:rJ->rM->Prop} {s:rM}
theorem NAt.val {h:tL} {v:rJ} {d:rG} (x:NAt h v d):(d=.none/\v=.none)\/(∃ z t,d=.str z/\v=.str z t)\/∃ b,v=.ref b:=by
 obtain ⟨as,r⟩:=x.rd;rcases x.nk with rfl | ⟨_,⟨xs,rfl⟩ | ⟨z,rfl⟩⟩
 . cases r; exact .inl ⟨rfl,rfl⟩
 . cases r; exact .inr (.inr ⟨_,rfl⟩)
 . cases r; exact .inr (.inl ⟨_,_,rfl,rfl⟩)
theorem NAt.hash {v:rJ} {d:rG} {Q:Int->rM->Prop} (x:NAt s.heap v d) (hu:A.units+8 < uY) (q:∀ tk,Q (N7 w d) { s with toks:=tk }):wpAny (sM prog w) A (pyHash v) Q E s:=by
 obtain ⟨as,r⟩:=x.rd;rcases x.nk with rfl | ⟨hk,hk'⟩
 . cases r
   unfold pyHash; have hv:[wN].any Value.onHeap=false:=rfl; have hT:s.TypeIs wN "NoneType" := rfl; refine rH ?_; rw [cRoomFor,if_neg (by rw [hv]; decide)];refine rL (rH (wV hT F.slot_NoneType_hash.lookup ?_)); show wpAny _ _ (if (some (Value.builtin "NoneType.__hash__")==some wN)=true then _ else _) Q E s;rw [if_neg (by rw [BN]; decide)];refine rH (wV hT F.slot_NoneType_hash.lookup ?_); show wpAny _ _ (callSpecialIfBoundUnlessNone? wN "__hash__" _>>=_) Q E s;refine rH (wpAny_callSpecialIfBoundUnlessNone?_slot hT F.slot_NoneType_hash (uX F.slot_NoneType_hash hT F.entry_NoneType_hash (show wpAny _ _ (do ret (<- mkInt 0xFCA86420)) _ _ s from wpAny_ret_mkInt ?_) (F.args_NoneType_hash_1 _)))
   show wpAny _ _ (if (decide (-(2:Int) ^ 63<=0xFCA86420)&&decide ((0xFCA86420:Int) < 2 ^ 63))=true then _ else _) Q E _;rw [if_pos (by decide)]; exact rL (q _)
 . have e:N7 w d=Tt w d:=by rcases hk' with ⟨_,rfl⟩ | ⟨_,rfl⟩ <;> rfl
   rw [e] at q; exact Md _ _ as A s Q hk r (by have:=x.dp; lia) fun tk _=>q tk
theorem NAt.quiet {v:rJ} {d:rG} {Q:Bool->rM->Prop} (x:NAt s.heap v d) (q:Q true s):wpAny (sM prog w) A (eqIsQuiet 8 v) Q E s:=by
 obtain ⟨as,r⟩:=x.rd;rcases x.nk with rfl | ⟨hk,hk'⟩
 . cases r; exact rL q
 . exact Ib 8 _ _ as s Q hk x.dp r q
theorem NAt.eq {v u:rJ} {a b:rG} {Q:Bool->rM->Prop} (x:NAt s.heap v a) (y:NAt s.heap u b) (hu:A.units+8 < uY) (q:Q (rZ a b) s):wpAny (sM prog w) A (eqBool v u) Q E s:=by
 obtain ⟨as,r⟩:=x.rd;obtain ⟨bs,r'⟩:=y.rd;exact SeqAt.eqBoolOverData prog w A E s v u a b as bs Q r r' x.lay y.lay (by have:=x.dp; lia) q
structure EsN (w:sT) (h:tL) (es:Array tV) (ks:List rG):Prop where
 len:es.size=ks.length
 ent:∀ (i:Nat) e,es[i]? = some e->∃ k,ks[i]? = some k/\NAt h e.key k/\e.hash=N7 w k
 nd:ks.Nodup
theorem Mh {d:rN} {o:Obj} {es:Array tV} {ep:Nat} {ks:List rG} {key:rJ} {k:rG} {Q:Option Nat->rM->Prop} (hu:A.units+8 < uY) (ho:s.heap.get? d=some o) (hd:o.data=.dict es ep) (N:EsN w s.heap es ks) (x:NAt s.heap key k)
   (q1:∀ i,ks[i]? = some k->Q (some i) s) (q0:k∉ks->Q none s):wpAny (sM prog w) A (dictFind d key (N7 w k)) Q E s:=by
 have same:∀ i j a,ks[i]? = some a->ks[j]? = some a->i=j:=fun i j a h1 h2=>by
   have hi:=(rQ.mp h1).1; have hj:=(rQ.mp h2).1; have e1:=(rQ.mp h1).2; have e2:=(rQ.mp h2).2; exact (AM (h₀:=hi) (h₁:=hj) N.nd).mp (e1.trans e2.symm)
 unfold dictFind;try with_reducible refine uW ?_
 refine rH (vM ho hd ?_);dsimp only;have hin:∀ i∈placesWithHash es.size (fun i=>es[i]?.map (·.hash)) (N7 w k),∃ e,es[i]? = some e/\(e.hash==N7 w k)=true:=fun i hi=>by
   unfold placesWithHash at hi; have:=(vX.mp hi).2; simp only at this;cases he:es[i]? with
   | none=>rw [he] at this; cases this
   | some e=>rw [he] at this; exact ⟨e,rfl,by simpa using this⟩
 have hat:∀ i,ks[i]? = some k->i∈placesWithHash es.size (fun i=>es[i]?.map (·.hash)) (N7 w k):=fun i hi=>by
   have hlt:i < es.size:=by rw [N.len]; exact (rQ.mp hi).1
   have he:es[i]? = some es[i]:=vF hlt; obtain ⟨k',e1,_,e3⟩:=N.ent i _ he; rw [hi] at e1; cases e1; unfold placesWithHash; refine vX.mpr ⟨xN.mpr hlt,?_⟩; show (es[i]?.map (·.hash)==some (N7 w k))=true;rw [he]; simp [e3]
 have hnd:(placesWithHash es.size (fun i=>es[i]?.map (·.hash)) (N7 w k)).Nodup:=AU _ List.nodup_range;generalize placesWithHash es.size (fun i=>es[i]?.map (·.hash)) (N7 w k)=places at *;have lst:∀ i,(ks[i]? = some k->i∈([]:List Nat))->ks[i]? ≠ some k:=fun i h z=>nomatch h z;have no:(∀ i,ks[i]? = some k->i∈([]:List Nat))->k∉ks:=fun h z=>by
   obtain ⟨i,hi⟩:=n4.mp z; exact nomatch h i hi
 have plain:wpAny (sM prog w) A (dictWalkPlain d key (N7 w k) es places) Q E s:=by
   unfold dictWalkPlain; refine rH ?_; refine yV _ (fun M9 r s'=>s'=s/\r=(none,())/\(∀ i∈M9,i∈places)/\∀ i,ks[i]? = some k->i∈M9) _ ?_ ?_ _ _ ⟨rfl,rfl,fun _ h=>h,hat⟩
   . rintro i more r s' ⟨rfl,rfl,hsub,hall⟩
     obtain ⟨e,he,hh⟩:=hin i (hsub i (.head _)); obtain ⟨k',e1,y,_⟩:=N.ent i e he; rw [he]; dsimp only; rw [if_pos hh]; refine rH (uE ho hd ?_); refine rH (y.eq x hu ?_); refine rH (uE ho hd ?_); rw [if_neg (by simp)];by_cases c:k'=k
     . subst c
       rw [if_pos ((Hq y.nk x.nk).mpr rfl)]; refine rH (vT (rL ?_)); exact rL (q1 i e1)
     . rw [if_neg (fun z=>c ((Hq y.nk x.nk).mp z))]
       refine rH (vT (rL ?_)); refine ⟨rfl,rfl,fun j hj=>hsub j (.tail _ hj),fun j hj=>?_⟩;rcases rT.mp (hall j hj) with rfl | z
       . rw [e1] at hj; cases hj; exact absurd rfl c
       . exact z
   . rintro r s' ⟨rfl,rfl,_,hall⟩
     exact rL (q0 (no hall))
 have hwalk : ∀ (f : Nat -> Option (Option Nat) × Option Nat -> Sem (ForInStep (Option (Option Nat) × Option Nat))), (∀ i e k' r2 (Q' : ForInStep (Option (Option Nat) × Option Nat) -> rM -> Prop), es[i]? = some e -> (e.hash == N7 w k) = true -> NAt s.heap e.key k' ->
     (k'=k->r2=none/\Q' (.done (some (some i),none)) s/\Q' (.yield (none,some i)) s)->(k'≠k->Q' (.yield (none,r2)) s)->wpAny (sM prog w) A (f i (none,r2)) Q' E s) ->
     wpAny (sM prog w) A (forIn places (none,none) f) (fun r s'=>s'=s/\((r.1=none/\((r.2=none/\k∉ks)\/∃ i,r.2=some i/\ks[i]? = some k))\/∃ i,r.1=some (some i)/\ks[i]? = some k)) E s:=fun f hf=>by
   refine yV _ (fun M9 r s'=>s'=s/\r.1=none/\(∀ i∈M9,i∈places)/\M9.Nodup/\((r.2=none/\∀ i,ks[i]? = some k->i∈M9)\/∃ i,r.2=some i/\ks[i]? = some k/\i∉M9)) _ ?_ ?_ _ _ ⟨rfl,rfl,fun _ h=>h,hnd,.inl ⟨rfl,hat⟩⟩
   . rintro i more ⟨r1,r2⟩ s' ⟨rfl,rfl,hsub,hn,hr⟩
     obtain ⟨e,he,hh⟩:=hin i (hsub i (.head _)); obtain ⟨k',e1,y,_⟩:=N.ent i e he; rw [uR] at hn; refine hf i e k' r2 _ he hh y (fun c=>?_) fun c=>?_
     . subst c
       have h2:r2=none:=by
         rcases hr with ⟨z,_⟩ | ⟨j,_,z2,z3⟩
         . exact z
         . exact absurd (same i j _ e1 z2▸vO) z3
       exact ⟨h2,⟨rfl,.inr ⟨i,rfl,e1⟩⟩,rfl,rfl,fun j hj=>hsub j (.tail _ hj),hn.2,.inr ⟨i,rfl,e1,hn.1⟩⟩
     . refine ⟨rfl,rfl,fun j hj=>hsub j (.tail _ hj),hn.2,?_⟩
       rcases hr with ⟨z,hall⟩ | ⟨j,z1,z2,z3⟩
       . refine .inl ⟨z,fun j hj=>?_⟩
         rcases rT.mp (hall j hj) with rfl | z'
         . rw [e1] at hj; cases hj; exact absurd rfl c
         . exact z'
       . exact .inr ⟨j,z1,z2,fun z=>z3 (.tail _ z)⟩
   . rintro ⟨r1,r2⟩ s' ⟨rfl,rfl,_,_,hr⟩
     rcases hr with ⟨rfl,hall⟩ | ⟨j,rfl,z2,_⟩
     . exact ⟨rfl,.inl ⟨rfl,.inl ⟨rfl,no hall⟩⟩⟩
     . exact ⟨rfl,.inl ⟨rfl,.inr ⟨j,rfl,z2⟩⟩⟩
 have tell:∀ (Q':Bool->rM->Prop),Q' false s->wpAny (sM prog w) A (tableMayTell key (places.filterMap fun i=>es[i]?.map (·.key))) Q' E s:=fun Q' q'=>by
   unfold tableMayTell;split
   . exact rL q'
   . refine rH (x.quiet ?_)
     rw [if_neg (by decide)]; refine rH ?_; refine yV _ (fun M9 r s'=>s'=s/\r=(none,())/\∀ v∈M9,∃ k',NAt s.heap v k') _ ?_ ?_ _ _ ⟨rfl,rfl,fun v hv=>?_⟩
     . rintro v more r s' ⟨rfl,rfl,hr⟩
       obtain ⟨k',y⟩:=hr v (.head _); refine rH (y.quiet ?_); rw [if_neg (by decide)]; exact rL ⟨rfl,rfl,fun v hv=>hr v (.tail _ hv)⟩
     . rintro r s' ⟨rfl,rfl,_⟩
       exact rL q'
     . obtain ⟨i,_,hi⟩:=x8.mp hv
       cases he:es[i]? with
       | none=>rw [he] at hi; cases hi
       | some e =>
         rw [he] at hi; have hk:e.key=v:=by simpa using hi
         obtain ⟨k',_,y,_⟩:=N.ent i e he; exact ⟨k',hk▸y⟩
 have fork:∀ (m:Bool->Sem (Option Nat)),wpAny (sM prog w) A (m false) Q E s->wpAny (sM prog w) A (if ((places.filterMap fun i=>es[i]?.map (·.key))==[key])=true then (pure false>>=m) else (tableMayTell key (places.filterMap fun i=>es[i]?.map (·.key))>>=m)) Q E s:=fun m h=>by
   split
   . exact rH (rL h)
   . exact rH (tell _ h)
 rcases x.val with ⟨_,rfl⟩ | ⟨z,t,rfl,rfl⟩ | ⟨b,rfl⟩
 . dsimp only
   by_cases hc:(wN::places.filterMap fun i=>es[i]?.map (·.key)).all CO=true
   . rw [if_pos hc]; exact plain
   . rw [if_neg hc]
     refine fork _ ?_; rw [if_neg (by simp)]; refine rH (vE (hwalk _ fun i e k' r2 Q' he hh y c1 c0=>?_) (fun r s' z=>?_) fun _ _ z=>z)
     . dsimp only
       rw [he]; dsimp only; rw [if_pos hh]; refine rH (uE ho hd (rH (y.eq x hu (rH (uE ho hd ?_))))); rw [if_neg (by simp)];by_cases c:k'=k
       . obtain ⟨rfl,d1,d2⟩:=c1 c
         rw [if_pos ((Hq y.nk x.nk).mpr c),if_neg (by simp)]; refine rH (vT ?_);split
         . exact rL d1
         . exact rL d2
       . rw [if_neg (fun z=>c ((Hq y.nk x.nk).mp z))]
         refine rH (vT ?_); rw [if_neg (by simp)]; exact rL (c0 c)
     . obtain ⟨r1,r2⟩:=r
       obtain ⟨rfl,z⟩:=z; rcases z with ⟨rfl,z⟩ | ⟨i,rfl,z⟩
       . rcases z with ⟨rfl,z⟩ | ⟨i,rfl,z⟩
         . exact rL (q0 z)
         . exact rL (q1 i z)
       . exact rL (q1 i z)
 . by_cases hall:(es.all fun e=>isExactStrKey e.key)=true
   . dsimp only
     rw [if_pos hall]; have isk:∀ (i:Nat) e,es[i]? = some e->(e.key.isStr z=true↔ks[i]? = some (.str z)):=fun i e he=>by
       obtain ⟨k',e1,y,_⟩:=N.ent i e he; rw [e1]; rcases y.val with ⟨rfl,hv⟩ | ⟨z',t',rfl,hv⟩ | ⟨b,hv⟩
       . rw [hv]; exact ⟨fun h=>(by cases h),fun h=>absurd h (by simp)⟩
       . rw [hv]
         show (z'==z)=true↔_;rw [beq_iff_eq]; exact ⟨fun h=>(by rw [h]),fun h=>(by cases h; rfl)⟩
       . rw [hv]
         have:=Array.all_eq_true'.mp hall e (Array.mem_of_getElem? he); rw [hv] at this; cases this
     unfold foundByValue;cases hf:es.findIdx? (·.key.isStr z) with
     | none =>
       refine rL (q0 fun hm=>?_);obtain ⟨i,hi⟩:=n4.mp hm; have hlt:i < es.size:=by rw [N.len]; exact (rQ.mp hi).1
       have:=Array.findIdx?_eq_none_iff.mp hf es[i] (Array.getElem_mem hlt); rw [(isk i _ (vF hlt)).mpr hi] at this; cases this
     | some i =>
       obtain ⟨hlt,hp,_⟩:=Array.findIdx?_eq_some_iff_getElem.mp hf; have he:es[i]? = some es[i]:=vF hlt; have hi:=(isk i _ he).mp hp; obtain ⟨k',e1,y,_⟩:=N.ent i _ he; rw [hi] at e1; cases e1; dsimp only; rw [he]; dsimp only; refine rH (uE ho hd (rH (y.eq x hu (rH (uE ho hd ?_))))); rw [if_neg (by simp),if_pos ((Hq y.nk x.nk).mpr rfl)]; exact rH (vT (rL (q1 i hi)))
   . dsimp only
     rw [if_neg hall];by_cases hc:(BU z t::places.filterMap fun i=>es[i]?.map (·.key)).all CO=true
     . rw [if_pos hc]; exact plain
     . rw [if_neg hc]
       refine fork _ ?_; rw [if_neg (by simp)]; refine rH (vE (hwalk _ fun i e k' r2 Q' he hh y c1 c0=>?_) (fun r s' z=>?_) fun _ _ z=>z)
       . dsimp only
         rw [he]; dsimp only; rw [if_pos hh]; refine rH (uE ho hd (rH (y.eq x hu (rH (uE ho hd ?_))))); rw [if_neg (by simp)];by_cases c:k'=.str z
         . obtain ⟨rfl,d1,d2⟩:=c1 c
           rw [if_pos ((Hq y.nk x.nk).mpr c),if_neg (by simp)]; refine rH (vT ?_);split
           . exact rL d1
           . exact rL d2
         . rw [if_neg (fun z=>c ((Hq y.nk x.nk).mp z))]
           refine rH (vT ?_); rw [if_neg (by simp)]; exact rL (c0 c)
       . obtain ⟨r1,r2⟩:=r
         obtain ⟨rfl,z⟩:=z; rcases z with ⟨rfl,z⟩ | ⟨i,rfl,z⟩
         . rcases z with ⟨rfl,z⟩ | ⟨i,rfl,z⟩
           . exact rL (q0 z)
           . exact rL (q1 i z)
         . exact rL (q1 i z)
 . dsimp only
   by_cases hc:(tW b::places.filterMap fun i=>es[i]?.map (·.key)).all CO=true
   . rw [if_pos hc]; exact plain
   . have hno : (es.any fun e => e.key == .ref b && e.hash != N7 w k) = false := by
       rw [Array.any_eq_false]; intro i hi; obtain ⟨k',e1,y,e3⟩:=N.ent i es[i] (vF hi);by_cases c:es[i].key=.ref b
       . have : k' = k := by
           rw [c] at y; obtain ⟨as,r1⟩:=x.rd; obtain ⟨bs,r2⟩:=y.rd; exact SeqAt.Reads.unique k' k _ _ _ y.lay r2 r1
         rw [e3,this]; simp
       . intro z
         rw [sU] at z; exact c (xI z.1)
     rw [if_neg hc,if_neg (by rw [hno]; decide)];refine fork _ ?_; rw [if_neg (by simp)]; refine rH (vE (hwalk _ fun i e k' r2 Q' he hh y c1 c0=>?_) (fun r s' z=>?_) fun _ _ z=>z)
     . dsimp only
       rw [he]; dsimp only; rw [if_pos hh]; refine rH (uE ho hd (rH (y.eq x hu (rH (uE ho hd ?_))))); rw [if_neg (by simp)];by_cases c:k'=k
       . obtain ⟨rfl,d1,d2⟩:=c1 c
         rw [if_pos ((Hq y.nk x.nk).mpr c),if_neg (by simp)]; refine rH (vT ?_);split
         . exact rL d1
         . exact rL d2
       . rw [if_neg (fun z=>c ((Hq y.nk x.nk).mp z))]
         refine rH (vT ?_); rw [if_neg (by simp)]; exact rL (c0 c)
     . obtain ⟨r1,r2⟩:=r
       obtain ⟨rfl,z⟩:=z; rcases z with ⟨rfl,z⟩ | ⟨i,rfl,z⟩
       . rcases z with ⟨rfl,z⟩ | ⟨i,rfl,z⟩
         . exact rL (q0 z)
         . exact rL (q1 i z)
       . exact rL (q1 i z)
end
end Sm
end
noncomputable section
namespace Sm
open PySem PySem.Spec PyProof.Rows PySem.W L2
noncomputable section
variable {prog:sE} {w:sT} {A:tY} {E:rJ->rM->Prop} {s:rM}
theorem hu8 {A:tY} (h:A.units+16 < uY):A.in1.units+8 < uY:=by simp only [Around.in1_units]; lia
theorem EsN.get {h:tL} {es:Array tV} {ks:List rG} (N:EsN w h es ks) {i:Nat} {k:rG} (hi:ks[i]? = some k):∃ e,es[i]? = some e:=by
 have hlt:i < es.size:=by rw [N.len]; exact (rQ.mp hi).1
 exact ⟨_,vF hlt⟩
theorem Ea {d:rN} {o:Obj} {es:Array tV} {ep:Nat} {ks:List rG} {key:rJ} {k:rG} {Q:Option rJ->rM->Prop} (hu:A.units+8 < uY) (ho:s.heap.get? d=some o) (hd:o.data=.dict es ep) (N:EsN w s.heap es ks) (x:NAt s.heap key k)
   (q1:∀ (i:Nat) (e:tV) tk,ks[i]? = some k->es[i]? = some e->Q (some e.val) { s with toks:=tk }) (q0:∀ tk,k∉ks->Q none { s with toks:=tk }):wpAny (sM prog w) A (CH d key) Q E s:=by
 unfold CH;try with_reducible refine uW ?_
 refine rH (x.hash hu fun tk=>?_);refine rH (Mh (s:={ s with toks:=tk }) hu ho hd N x (fun i hi=>?_) fun hn=>rL (q0 tk hn));obtain ⟨e,he⟩:=N.get hi;refine rH (vM (s:={ s with toks:=tk }) ho hd (rL ?_));rw [he];exact q1 i e tk hi he
theorem Wn (d:rN) (key dflt:rJ) (hd:(d==wK)=false):MeetsIn prog w (xM.«dict.get» ⟨[.ref d,key,dflt],[]⟩) (fun A R s=>∃ (o:Obj) (es:Array tV) (ep:Nat) (ks:List rG) (k:rG),A.units+16 < uY/\s.heap.get? d=some o/\o.data=.dict es ep/\EsN w s.heap es ks/\NAt s.heap key k /\
   (∀ (i:Nat) (e:tV) tk,ks[i]? = some k->es[i]? = some e->R (.ok (.ret e.val)) { s with toks:=tk })/\∀ tk,k∉ks->R (.ok (.ret dflt)) { s with toks:=tk }) :=
 .of_wp fun A R s hZ3=>by
   obtain ⟨o,es,ep,ks,k,hu,ho,hD,N,x,h1,h0⟩:=hZ3; show wpAny _ _ (CH d key>>=_) _ _ s;refine rH (Ea (hu8 hu) ho hD N x (fun i e tk hi he=>rL ⟨_,rfl,h1 i e tk hi he⟩) fun tk hn=>?_);show wpAny _ _ (BG d key>>=_) _ _ _;exact rH (wpAny_missed_other hd (rL ⟨dflt,rfl,h0 tk hn⟩))
theorem aS (d:rN) (key:rJ) (hd:(d==wK)=false):MeetsIn prog w (xM.«dict.__contains__» ⟨[.ref d,key],[]⟩) (fun A R s=>∃ (o:Obj) (es:Array tV) (ep:Nat) (ks:List rG) (k:rG),A.units+16 < uY/\s.heap.get? d=some o/\o.data=.dict es ep/\EsN w s.heap es ks/\NAt s.heap key k /\
   (∀ tk,k∈ks->R (.ok (.ret (.bool true))) { s with toks:=tk })/\∀ tk,k∉ks->R (.ok (.ret (.bool false))) { s with toks:=tk }) :=
 .of_wp fun A R s hZ3=>by
   obtain ⟨o,es,ep,ks,k,hu,ho,hD,N,x,h1,h0⟩:=hZ3; show wpAny _ _ (CH d key>>=_) _ _ s;refine rH (Ea (hu8 hu) ho hD N x (fun i e tk hi he=>rL ⟨_,rfl,h1 tk (tZ hi)⟩) fun tk hn=>?_);show wpAny _ _ (Builtin.Dict.pendingKey? d key>>=_) _ _ _;exact rH (wpAny_pendingKey_other hd (rL ⟨_,rfl,h0 tk hn⟩))
theorem Tl (d:rN) (key:rJ):MeetsIn prog w (xM.«dict.__getitem__» ⟨[.ref d,key],[]⟩) (fun A R s=>∃ (o:Obj) (es:Array tV) (ep:Nat) (ks:List rG) (k:rG),A.units+16 < uY/\s.heap.get? d=some o/\o.data=.dict es ep/\EsN w s.heap es ks/\NAt s.heap key k/\k∈ks /\
   (∀ (i:Nat) (e:tV) tk,ks[i]? = some k->es[i]? = some e->R (.ok (.ret e.val)) { s with toks:=tk })) :=
 .of_wp fun A R s hZ3=>by
   obtain ⟨o,es,ep,ks,k,hu,ho,hD,N,x,hm,h1⟩:=hZ3; show wpAny _ _ (CH d key>>=_) _ _ s;exact rH (Ea (hu8 hu) ho hD N x (fun i e tk hi he=>rL ⟨_,rfl,h1 i e tk hi he⟩) fun tk hn=>absurd hm hn)
theorem Nq (d:rN) (key dflt:rJ) (hd:(d==wK)=false):MeetsIn prog w (xM.«dict.setdefault» ⟨[.ref d,key,dflt],[]⟩) (fun A R s=>∃ (L:List tV) (ep:Nat) (ks:List rG) (k:rG),A.units+16 < uY/\s.heap.get? d=some { cls:=.type "dict",data:=.dict (CJ L) ep }/\L.length<=sizeLine/\EsN w s.heap L.toArray ks/\NAt s.heap key k /\
   (∀ (i:Nat) (e:tV) tk,ks[i]? = some k->L[i]? = some e->R (.ok (.ret e.val)) { s with toks:=tk }) /\
   ∀ (h':tL) (tk:Nat),k∉ks->(∀ b o,b≠d->s.heap.get? b=some o->h'.get? b=some o)->h'.get? d=some { cls:=.type "dict",data:=.dict (L++[BE (N7 w k) key dflt]).toArray (ep+1) }->R (.ok (.ret dflt)) { s with heap:=h',toks:=tk }) :=
 .of_wp fun A R s hZ3=>by
   obtain ⟨L,ep,ks,k,hu,ho,hz,N,x,h1,h0⟩:=hZ3; unfold xM.«dict.setdefault»;refine rH ?_; unfold z0; refine rH (yI ⟨_,ho,rfl⟩ ?_); show wpAny _ _ (pure (d,key,some dflt)) _ _ s;refine rL ?_; show wpAny _ _ (if (d==wK)=true then _ else (dictSetDefault d key dflt>>=_)) _ _ s;rw [if_neg (by rw [hd]; exact vB)];refine rH ?_; unfold dictSetDefault;try with_reducible refine uW ?_
   refine rH (x.hash (hu8 hu) fun tk=>?_);refine rH (Mh (s:={ s with toks:=tk }) (hu8 hu) ho rfl N x (fun i hi=>?_) fun hn=>?_)
   . obtain ⟨e,he⟩:=N.get hi
     refine rH (vM (s:={ s with toks:=tk }) ho rfl ?_); rw [he]; exact rH (vT (rL (rL ⟨_,rfl,h1 i e tk hi (by simpa using he)⟩)))
   . refine rH (vT (rH (a8 (hz:=by simpa using hz) (s:={ s with toks:=tk }) ho rfl (rL (rL ⟨dflt,rfl,h0 _ tk hn (fun b o hb e=>?_) ?_⟩)))))
     . exact (yR _ _ _ _ hb).trans e
     . have:=vK (xD fun x=>x.push ⟨N7 w k,key,dflt⟩) ho (yT (zQ rfl _))
       rw [this]; simp [xD]
end
end Sm
end
noncomputable section
namespace Sm
open PySem PySem.Spec PyProof.Rows PySem.W L2
mutual
theorem Tp {H:Hp}:∀ {d:rG} {v:V},KRep H d v->Rep H d v
 | .none,_,r=>r
 | .int _,_,r=>r
 | .str _,_,r=>r
 | .tuple _,_,r=>by obtain ⟨b,xs,e,q,l⟩:=r; exact ⟨b,xs,e,q,Ou l⟩
 | .bool _,_,r=>(show False from r).elim
 | .list _,_,r=>(show False from r).elim
 | .dict _,_,r=>(show False from r).elim
theorem Ou {H:Hp}:∀ {ds:List rG} {xs:List V},KRepL H ds xs->RepL H ds xs
 | [],_,r=>r
 | _::_,_,r=>by obtain ⟨x,t,e,q,l⟩:=r; exact ⟨x,t,e,Tp q,Ou l⟩
end
mutual
theorem So {G H:Hp} (hG:Same G H):∀ {d:rG} {v:V},isK d=true->Rep G d v->KRep H d v
 | .int _,_,_,r=>r
 | .str _,_,_,r=>r
 | .tuple _,_,k,r=>by obtain ⟨b,xs,e,q,l⟩:=r; exact ⟨b,xs,e,hG _ _ q,On hG (by simpa [isK] using k) l⟩
 | .none,_,k,_=>by simp [isK] at k
 | .bool _,_,k,_=>by simp [isK] at k
 | .list _,_,k,_=>by simp [isK] at k
 | .dict _,_,k,_=>by simp [isK] at k
theorem On {G H:Hp} (hG:Same G H):∀ {ds:List rG} {xs:List V},Fe ds=true->RepL G ds xs->KRepL H ds xs
 | [],_,_,r=>r
 | _::_,_,k,r=>by
   simp only [Fe,sU] at k; obtain ⟨x,t,e,q,l⟩:=r; exact ⟨x,t,e,So hG k.1 q,On hG k.2 l⟩
end
theorem O1 {d:rG} (hn:nkD d=true):(d=.none\/(isK d=true/\((∃ xs,d=.tuple xs)\/∃ z,d=.str z)))/\d.depth<=8:=by
 unfold nkD at hn;split at hn
 . exact ⟨.inl rfl,by simp [uF]⟩
 . exact ⟨.inr ⟨by simp [isK],.inr ⟨_,rfl⟩⟩,by simp [uF]⟩
 . rw [sU] at hn
   exact ⟨.inr ⟨by simpa [isK] using hn.1,.inl ⟨_,rfl⟩⟩,of_decide_eq_true hn.2⟩
 . cases hn
theorem Dg {G H:Hp} (hG:Same G H) {d:rG} {v:V} (hn:nkD d=true) (r:Rep G d v):KRep H d v:=by
 rcases (O1 hn).1 with rfl | ⟨k,_⟩
 . exact r
 . exact So hG k r
noncomputable def K7 (kvs:List (rG×V)) (k:rG):Option V:=(kvs.find? fun p=>rZ p.1 k).map (·.2)
noncomputable def F6 (kvs:List (rG×rG)) (k:rG):Option rG:=(kvs.find? fun p=>rZ p.1 k).map (·.2)
theorem Bt {G:Hp} {k:rG}:∀ {kvs:List (rG×rG)} {kk:List (rG×V)},kvs.map (·.1)=kk.map (·.1)->RepL G (kvs.map (·.2)) (kk.map (·.2)) ->
   (F6 kvs k=none/\K7 kk k=none)\/∃ d v,F6 kvs k=some d/\K7 kk k=some v/\Rep G d v
 | [],[],_,_=>.inl ⟨rfl,rfl⟩
 | [],_::_,e,_=>by cases e
 | _::_,[],e,_=>by cases e
 | p::kvs,q::kk,e,r=>by
   simp only [rV,wJ] at e; obtain ⟨x,t,ex,rx,l⟩:=r; simp only [rV,wJ] at ex; unfold F6 K7; rw [tP,tP,e.1];cases hq:rZ q.1 k with
   | true=>exact .inr ⟨p.2,q.2,rfl,rfl,by rw [ex.1]; exact rx⟩
   | false=>exact Bt (k:=k) e.2 (by rw [ex.2]; exact l)
theorem Bu {k:rG} (hk:nkD k=true):∀ {kk:List (rG×V)} {i:Nat} {v:V},(∀ p∈kk,nkD p.1=true)->(kk.map (·.1)).Nodup->kk[i]? = some (k,v)->K7 kk k=some v
 | [],_,_,_,_,h=>by simp at h
 | p::kk,i,v,hn,nd,h=>by
   unfold K7; rw [tP]; have hp:=Hq (O1 (hn p (.head _))).1 (O1 hk).1;cases i with
   | zero =>
     simp at h;subst h; rw [hp.mpr rfl]; rfl
   | succ i =>
     rw [rV,uR] at nd; have hm:(k,v)∈kk:=tZ (by simpa using h);cases hq:rZ p.1 k with
     | true=>exact absurd (by rw [hp.mp hq]; exact uU hm) nd.1
     | false=>exact Bu hk (fun q hq=>hn q (.tail _ hq)) nd.2 (by simpa using h)
theorem Dq {k:rG} (hk:nkD k=true) {kk:List (rG×V)} (hn:∀ p∈kk,nkD p.1=true) (h:k∉kk.map (·.1)):K7 kk k=none:=by
 unfold K7;rw [List.find?_eq_none.mpr]; · rfl
 intro p hp z;exact h (by rw [<- (Hq (O1 (hn p hp)).1 (O1 hk).1).mp z]; exact uU hp)
theorem Paired.at' {α β:Type} {F:α->β->Prop}:∀ {l₁:List α} {l₂:List β} {i:Nat} {a:α},uL F l₁ l₂->l₁[i]? = some a->∃ b,l₂[i]? = some b/\F a b
 | _,_,i,_,.nil,h=>by simp at h
 | _,_,0,_,.cons r _,h=>by simp at h; subst h; exact ⟨_,rfl,r⟩
 | _,_,i+1,_,.cons _ t,h=>Paired.at' (i:=i) t (by simpa using h)
noncomputable section
variable {X:Cx} {pins:List (rN×Obj)} {σ:St} {H:Hp} {s:rM} {a:rN} {A:tY} {E:rJ->rM->Prop}
theorem Bi (I:Inv X pins σ H s) {d:rG} {v:V} {u:rJ} (r:KRep H d v) (hv:RelV v u) (hn:nkD d=true):NAt s.heap u d:=by
 have rr:=Tp r;exact ⟨rr.reads I (Same.refl _) hv,(O1 hn).1,rr.lay,(O1 hn).2⟩
abbrev PrN (H:Hp):rG×V->rJ×rJ->Prop:=fun p q=>(∃ v,KRep H p.1 v/\RelV v q.1)/\RelV p.2 q.2
theorem Ck {w:sT} {kvs:List (rG×V)} {xs:List (rJ×rJ)} (r:uL (PrN H) kvs xs) {i:Nat} {e:tV} (he:(E1 w kvs xs)[i]? = some e) :
   ∃ p q,kvs[i]? = some p/\xs[i]? = some q/\PrN H p q/\e=⟨N7 w p.1,q.1,q.2⟩:=by
 unfold E1 at he;rw [List.getElem?_zipWith] at he;cases hp:kvs[i]? with
 | none=>rw [hp] at he; simp at he
 | some p =>
   obtain ⟨q,hq,hF⟩:=Paired.at' r hp; rw [hp,hq] at he; simp at he;exact ⟨p,q,rfl,hq,hF,he.symm⟩
theorem Paired.len' {α β:Type} {F:α->β->Prop}:∀ {l₁:List α} {l₂:List β},uL F l₁ l₂->l₁.length=l₂.length
 | _,_,.nil=>rfl
 | _,_,.cons _ t=>by simp [Paired.len' t]
theorem Ds (I:Inv X pins σ H s) {kvs:List (rG×V)} {xs:List (rJ×rJ)} (r:uL (PrN H) kvs xs) (nk:∀ p∈kvs,nkD p.1=true) (nd:(kvs.map (·.1)).Nodup):EsN X.w s.heap (E1 X.w kvs xs).toArray (kvs.map (·.1)) where
 len:=by
   have:=Paired.len' r; simp [E1,this]
 ent:=fun i e he=>by
   obtain ⟨p,q,h1,h2,⟨⟨v,h3,h4⟩,h5⟩,rfl⟩:=Ck r (by simpa using he);exact ⟨p.1,by rw [sB,h1]; rfl,Bi I h3 h4 (nk p (tZ h1)),rfl⟩
 nd:=nd
theorem pL {kvs:List (rG×V)} {kd:rG} {y d:V} {u r:rJ} {Q:rJ->rM->Prop} (hu:A.units+16 < uY) (I:Inv X pins σ H s) (e:Rd H a (.dN kvs)) (rk:KRep H kd y) (hk:nkD kd=true) (ry:RelV y u) (rd:RelV d r)
   (h:∀ w' s',Inv X pins σ H s'->RelV ((K7 kvs kd).getD d) w'->Q w' s'):wpAny (sM X.prog X.w) A (call (.builtin "dict.get") [.ref a,u,r]) Q E s:=by
 obtain ⟨z,hd,nd,nk,xs,rel,ep,e1⟩:=e.ok I.hok;refine u9 F.slot_dict_get ⟨_,e1,rfl⟩ F.entry_dict_get (F.args_dict_get_3 _ _ _) (Wn a u r hd) ⟨_,_,ep,kvs.map (·.1),kd,hu,e1,rfl,Ds I rel nk nd,Bi I rk ry hk,fun i e tk hi he=>h _ _ (I.tok _) ?_,fun tk hn=>h _ _ (I.tok _) ?_⟩
 . obtain ⟨p,q,h1,h2,⟨_,h5⟩,rfl⟩:=Ck rel (by simpa using he)
   rw [sB,h1] at hi; have hp:p=(kd,p.2):=by
     have:p.1=kd:=by simpa using hi
     rw [<- this]
   rw [hp] at h1; rw [Bu hk nk nd h1]; exact h5
 . rw [Dq hk nk hn]
   exact rd
end
def nO (td ty tx:TE):TE:=fun σ H Q=>td σ H fun x H1=>∃ a kvs,x=.ref a/\Rd H1 a (.dN kvs)/\ty σ H1 fun y H2=>tx σ H2 fun z H3=>∃ kvs kd,Rd H3 a (.dN kvs)/\KRep H3 kd y/\nkD kd=true/\Q ((K7 kvs kd).getD z) H3
noncomputable section
variable {X:Cx} {o e f:Expr} {apos cpos:Pos} {td ty tx:TE}
theorem eU (hu:X.A.units+16 < uY) (ho:PE X o td) (he:PE X e ty) (hf:PE X f tx) (m:M2 X o "get" apos e f cpos):PE X (.Call (.Attribute o "get" apos) [e,f] [] cpos) (nO td ty tx):=by
 intro pins s σ H Q I h;refine j9 m.base m.few m.line yU BW BV (thn (ho pins s σ H _ I h) fun u s1 hZ2=>?_);obtain ⟨x,H1,I1,rx,a,kvs,ex,d,q1⟩:=hZ2;subst ex;obtain rfl:u=tW a:=rx;obtain ⟨_,_,_,_,_,_,ep,e1⟩:=d.ok I1.hok;refine ⟨⟨_,e1,rfl⟩,fun b q=>by cases q; exact ⟨_,e1,rfl⟩,?_⟩;rw [m.trees];refine wS rfl (yF (wY (thn (he pins s1 σ H1 _ I1 q1) fun iv s2 hY79=>?_)));obtain ⟨y,H2,I2,ry,q2⟩:=hY79;refine wY (thn (hf pins s2 σ H2 _ I2 q2) fun fv s3 hY80=>?_)
 obtain ⟨z,H3,I3,rz,kvs,kd,g,rk,hk,q3⟩:=hY80;refine zB ?_;exact pL hu I3 g rk hk ry rz fun w' s4 I4 rw'=>⟨_,H3,I4,rw',q3⟩
end
noncomputable def kvN (δ:Dn) (i:Nat):Option Kvs:=match δ[i]? with
 | some (.ow (.tuple [.dict kvs,.none]))=>some kvs
 | some (.fd ((.dict [],.none)::kvs))=>some kvs
 | _=>none
theorem SR.kvN {G H:Hp} {σ:St} {δ:Dn} {i:Nat} {kvs:Kvs} (S:SR G H σ δ) (h:kvN δ i=some kvs):∃ q,∃ kk:List (rG×V),σ[i]? = some (some (.ref q))/\Rd H q (.dN kk)/\kvs.map (·.1)=kk.map (·.1)/\RepL G (kvs.map (·.2)) (kk.map (·.2)):=by
 unfold Sm.kvN at h;split at h
 . rename_i kvs' hi
   cases h; obtain ⟨q,hσ,hq,ho⟩:=S.own hi; obtain ⟨kk,hx,hk,hv⟩:=(show OwnK G H q [.dict kvs,.none] from ho);exact ⟨q,kk,hσ,.inl hx,hk,hv⟩
 . rename_i kvs' hi
   cases h; obtain ⟨q,kk,hp,hx,hk,hv⟩:=(show FdOk G (σ[i]?.join) ((.dict [],.none)::kvs) from S.sl i _ hi);refine ⟨q,kk,?_,Rd.mono S.sub hx,hk,hv⟩;cases e:σ[i]? with
   | none=>rw [e] at hp; cases hp
   | some z =>
     rw [e] at hp;cases z with
     | none=>cases hp
     | some z=>cases hp; rfl
 . cases h
noncomputable def Jr (i:Nat) (f g:Dn->Res rG):Dn->Res rG:=fun δ=>match kvN δ i with
 | some kvs=>(f δ).bind fun kd=>(g δ).bind fun dd=>if nkD kd=true then .ok ((F6 kvs kd).getD dd) else .no
 | none=>.no
noncomputable section
variable {P:sE} {w:sT} {K:rK} {mg:Str->Option rJ} {base:tL} {X:Cx} {N:List Str} {sc:Scope} {k:Nat} {df:Bool} {E:EK} {p apos cpos:Pos} {a b:Expr} {f g:Dn->Res rG} {x:Str}
theorem gY (C:Cxt P w K mg base X N sc k df) (i:Nat) (h:okVar N sc i x=true) (hk:DE X E a f) (hg:DE X E b g) (m:M2 X (.Name x p) "get" apos a b cpos:=by exact ⟨rfl,rfl,rfl,rfl⟩):DE X E (.Call (.Attribute (.Name x p) "get" apos) [a,b] [] cpos) (Jr i f g):=by
 refine PE.imp (eU (by have:=C.hu; lia) (okVar.pe C h) hk hg m) fun σ H Q hY81=>?_;obtain ⟨G,δ,S,aft⟩:=hY81;unfold Jr at aft;split at aft
 . rename_i kvs hi
   obtain ⟨q,kk,hσ,hx,hkeys,hvals⟩:=S.kvN hi; refine ⟨.ref q,hσ,q,kk,rfl,hx,?_⟩; refine P9 S aft fun kd v G1 H1 g1 r1 S1 a1=>?_;refine P9 S1 a1 fun dd v2 G2 H2 g2 r2 S2 a2=>?_;split at a2
   . rename_i hn
     refine ⟨kk,kd,Rd.mono g2.h (Rd.mono g1.h hx),Dg S2.sub hn (r1.mono g2.g),hn,?_⟩; rcases Bt (k:=kd) hkeys hvals with ⟨n1,n2⟩ | ⟨d0,v0,n1,n2,rd⟩
     . rw [n1] at a2; rw [n2]
       exact a2 _ G2 H2 (Grow.refl S2.sub) r2
     . rw [n1] at a2; rw [n2]
       exact a2 _ G2 H2 (Grow.refl S2.sub) (rd.mono (g1.g.trans g2.g))
   . exact a2.elim
 . exact aft.elim
end
end Sm
end
noncomputable section
namespace Sm
open PySem PySem.Spec PyProof.Rows PySem.W L2
theorem Mj {w:sT} {kvs:List (rG×V)} {xs:List (rJ×rJ)} {p:rG×V} {q:rJ×rJ} (h:kvs.length=xs.length):E1 w (kvs++[p]) (xs++[q])=E1 w kvs xs++[⟨N7 w p.1,q.1,q.2⟩]:=by
 unfold E1;rw [List.zipWith_append h]; rfl
theorem Paired.app' {α β:Type} {F:α->β->Prop} {a:α} {b:β} (h:F a b):∀ {l₁:List α} {l₂:List β},uL F l₁ l₂->uL F (l₁++[a]) (l₂++[b])
 | _,_,.nil=>.cons h .nil
 | _,_,.cons r t=>.cons r (Paired.app' h t)
noncomputable section
variable {X:Cx} {pins:List (rN×Obj)} {σ:St} {H:Hp} {s:rM} {a:rN} {A:tY} {E:rJ->rM->Prop}
theorem pJ {kvs:List (rG×V)} {kd:rG} {y d:V} {u r:rJ} {Q:rJ->rM->Prop} (hu:A.units+16 < uY) (I:Inv X pins σ H s) (e:H a=some (.dN kvs)) (rk:KRep H kd y) (hk:nkD kd=true) (hz:kvs.length < sizeLine) (ry:RelV y u) (rd:RelV d r)
   (h1:∀ v w' s',K7 kvs kd=some v->Inv X pins σ H s'->RelV v w'->Q w' s') (h0:∀ s',K7 kvs kd=none->Inv X pins σ (upd H a (.dN (kvs++[(kd,d)]))) s'->Q r s'):wpAny (sM X.prog X.w) A (call (.builtin "dict.setdefault") [.ref a,u,r]) Q E s:=by
 obtain ⟨z,hd,nd,nk,xs,rel,ep,e1⟩:=I.hok a _ e;have hl:=Paired.len' rel;have hlen:(E1 X.w kvs xs).length<=sizeLine:=by
   unfold E1; rw [xL]; lia
 refine u9 F.slot_dict_setdefault ⟨_,e1,rfl⟩ F.entry_dict_setdefault (F.args_dict_setdefault_3 _ _ _) (Nq a u r hd) ⟨_,ep,kvs.map (·.1),kd,hu,e1,hlen,Ds I rel nk nd,Bi I rk ry hk,fun i e tk hi he=>?_,fun h' tk hn hkeep hnew=>?_⟩
 . obtain ⟨p,q,g1,g2,⟨_,g5⟩,rfl⟩:=Ck rel he
   rw [sB,g1] at hi; have hp:p=(kd,p.2):=by
     have:p.1=kd:=by simpa using hi
     rw [<- this]
   rw [hp] at g1; exact h1 p.2 _ _ (Bu hk nk nd g1) (I.tok _) g5
 . refine h0 _ (Dq hk nk hn) ?_
   have ht:∀ b ys,H b=some (.tup ys)->(upd H a (.dN (kvs++[(kd,d)]))) b=some (.tup ys):=fun b ys z=>by
     rw [B4 (P6 z e (fun z=>by cases z))]; exact z
   refine I.write (x:=a) (e:=a) (t':=tk) (by rw [e]; exact trivial) (.inl rfl) (fun b o hb q=>hkeep b o hb q) ⟨_,hnew⟩ ⟨by rw [sA]; show _+1<=_; lia,hd,?_,?_,xs++[(u,r)],?_,ep+1,?_⟩
   . rw [sV,wO]
     refine ⟨nd,by simp,fun x hx y hy=>?_⟩;have:y=kd:=by simpa using hy
     subst this; exact fun z=>hn (z▸hx)
   . intro p hp
     rcases sF.mp hp with hp | hp
     . exact nk p hp
     . rw [sO.mp hp]; exact hk
   . exact Paired.app' ⟨⟨y,rk.mono ht,ry⟩,rd⟩ (Paired.mapP rel fun p q hZ2=>by obtain ⟨⟨v,z1,z2⟩,z3⟩:=hZ2; exact ⟨⟨v,z1.mono ht,z2⟩,z3⟩)
   . rw [Mj hl]; exact hnew
end
def nN (td ty tx:TE):TE:=fun σ H Q=>td σ H fun x H1=>∃ a kvs,x=.ref a/\H1 a=some (.dN kvs)/\ty σ H1 fun y H2=>tx σ H2 fun z H3=>∃ kvs kd,H3 a=some (.dN kvs)/\KRep H3 kd y/\nkD kd=true/\kvs.length < sizeLine /\
 (∀ v,K7 kvs kd=some v->Q v H3)/\(K7 kvs kd=none->Q z (upd H3 a (.dN (kvs++[(kd,z)]))))
noncomputable section
variable {X:Cx} {o e f:Expr} {apos cpos:Pos} {td ty tx:TE}
theorem eS (hu:X.A.units+16 < uY) (ho:PE X o td) (he:PE X e ty) (hf:PE X f tx) (m:M2 X o "setdefault" apos e f cpos):PE X (.Call (.Attribute o "setdefault" apos) [e,f] [] cpos) (nN td ty tx):=by
 intro pins s σ H Q I h;refine j9 m.base m.few m.line yU PySem.F.slot_dict_setdefault PySem.F.type_dict_setdefault (thn (ho pins s σ H _ I h) fun u s1 hZ2=>?_);obtain ⟨x,H1,I1,rx,a,kvs,ex,d,q1⟩:=hZ2;subst ex;obtain rfl:u=tW a:=rx;obtain ⟨_,_,_,_,_,_,ep,e1⟩:=I1.hok a _ d;refine ⟨⟨_,e1,rfl⟩,fun b q=>by cases q; exact ⟨_,e1,rfl⟩,?_⟩;rw [m.trees];refine wS rfl (yF (wY (thn (he pins s1 σ H1 _ I1 q1) fun iv s2 hY82=>?_)));obtain ⟨y,H2,I2,ry,q2⟩:=hY82;refine wY (thn (hf pins s2 σ H2 _ I2 q2) fun fv s3 hY83=>?_)
 obtain ⟨z,H3,I3,rz,kvs,kd,g,rk,hk,hz,q3,q4⟩:=hY83;refine zB ?_;exact pJ hu I3 g rk hk hz ry rz (fun v w' s4 hv I4 rw'=>⟨v,H3,I4,rw',q3 v hv⟩) fun s4 hv I4=>⟨z,_,I4,rz,q4 hv⟩
end
noncomputable def Iz:List (rG×rG)->rG->rG->List (rG×rG)
 | [],k,v=>[(k,.list [v])]
 | p::r,k,v=>if rZ p.1 k=true then (match p.2 with | .list ds=>(p.1,.list (ds++[v])) | d=>(p.1,d))::r else p::Iz r k v
end Sm
end
noncomputable section
namespace Sm
open PySem PySem.Spec PyProof.Rows PySem.W L2
noncomputable def NL (G H H1:Hp):List (rG×rG)->List (rG×rN×List V)->Prop
 | [],[]=>True
 | p::kvs,r::kk=>p.1=r.1/\(∃ ds,p.2=.list ds/\RepL G ds r.2.2)/\(H r.2.1=some (.lst r.2.2)/\G r.2.1=none/\H1 r.2.1=none)/\NL G H H1 kvs kk
 | _,_=>False
abbrev prs (kk:List (rG×rN×List V)):List (rG×V):=kk.map fun r=>(r.1,.ref r.2.1)
noncomputable section
variable {G G' H H' H1:Hp}
theorem NL.keep (g:Same G G'):∀ {kvs:List (rG×rG)} {kk:List (rG×rN×List V)},(∀ r∈kk,H r.2.1=some (.lst r.2.2)->G r.2.1=none->H1 r.2.1=none->H' r.2.1=some (.lst r.2.2)/\G' r.2.1=none)->NL G H H1 kvs kk->NL G' H' H1 kvs kk
 | [],[],_,h=>h
 | [],_::_,_,h=>h
 | _::_,[],_,h=>h
 | _::_,r::_,k,⟨h1,⟨ds,h2,h3⟩,⟨h4,h5,h6⟩,h7⟩=>⟨h1,⟨ds,h2,h3.mono g⟩,⟨(k r (.head _) h4 h5 h6).1,(k r (.head _) h4 h5 h6).2,h6⟩,NL.keep g (fun r hr=>k r (.tail _ hr)) h7⟩
theorem NL.grow (g:Grow G H G' H') {kvs:List (rG×rG)} {kk:List (rG×rN×List V)} (h:NL G H H1 kvs kk):NL G' H' H1 kvs kk:=by
 refine h.keep g.g fun r _ e n _=>⟨g.h _ _ e,?_⟩;cases q:G' r.2.1 with
 | none=>rfl
 | some u =>
   rcases g.fr _ u q with y | y | ⟨ys,rfl⟩
   . rw [n] at y; cases y
   . rw [e] at y; cases y
   . have:=g.gh _ _ q; rw [g.h _ _ e] at this; cases this
theorem NL.mem:∀ {kvs:List (rG×rG)} {kk:List (rG×rN×List V)},NL G H H1 kvs kk->∀ r∈kk,H r.2.1=some (.lst r.2.2)/\G r.2.1=none/\H1 r.2.1=none
 | [],[],_,_,m=>nomatch m
 | [],_::_,h,_,_=>h.elim
 | _::_,[],h,_,_=>h.elim
 | _::_,r::_,⟨_,_,h4,h7⟩,x,m=>by
   rcases rT.mp m with rfl | m
   . exact h4
   . exact NL.mem h7 x m
theorem NL.keys:∀ {kvs:List (rG×rG)} {kk:List (rG×rN×List V)},NL G H H1 kvs kk->kvs.map (·.1)=(prs kk).map (·.1)
 | [],[],_=>rfl
 | [],_::_,h=>h.elim
 | _::_,[],h=>h.elim
 | _::_,_::_,⟨h1,_,_,h7⟩=>by
   simp only [rV,h1]; rw [NL.keys h7]
theorem NL.new {p:rN} {y:V} {kd vd:rG} (rv:Rep G vd y) (hp:H p=some (.lst [y])/\G p=none/\H1 p=none):∀ {kvs:List (rG×rG)} {kk:List (rG×rN×List V)},NL G H H1 kvs kk->K7 (prs kk) kd=none->NL G H H1 (Iz kvs kd vd) (kk++[(kd,p,[y])])
 | [],[],_,_=>⟨rfl,⟨[vd],rfl,RepL.cons rv rfl⟩,hp,trivial⟩
 | [],_::_,h,_=>h.elim
 | _::_,[],h,_=>h.elim
 | q::kvs,r::kk,⟨h1,h2,h4,h7⟩,e=>by
   unfold K7 at e; rw [show prs (r::kk)=(r.1,.ref r.2.1)::prs kk from rfl,tP] at e;cases z:rZ r.1 kd with
   | true=>rw [z] at e; cases e
   | false =>
     rw [z] at e; unfold Iz; rw [h1,z,if_neg (by decide)]; exact ⟨h1,h2,h4,NL.new rv hp h7 e⟩
theorem NL.put {kd:rG} {v:V}:∀ {kvs:List (rG×rG)} {kk:List (rG×rN×List V)},NL G H H1 kvs kk->(kk.map (·.2.1)).Nodup->K7 (prs kk) kd=some v ->
   ∃ l xs,v=.ref l/\(∃ r∈kk,r.2=(l,xs))/\∀ (y:V) (vd:rG),Rep G vd y->∃ kk',prs kk'=prs kk/\kk'.map (·.2.1)=kk.map (·.2.1)/\(∀ r∈kk',r.2.2.length<=xs.length+1\/r∈kk)/\NL G (upd H l (.lst (xs++[y]))) H1 (Iz kvs kd vd) kk'
 | [],[],_,_,e=>by cases e
 | [],_::_,h,_,_=>h.elim
 | _::_,[],h,_,_=>h.elim
 | q::kvs,r::kk,⟨h1,⟨ds,h2,h3⟩,⟨h4,h5,h6⟩,h7⟩,nd,e=>by
   rw [rV,uR] at nd; unfold K7 at e; rw [show prs (r::kk)=(r.1,.ref r.2.1)::prs kk from rfl,tP] at e;cases z:rZ r.1 kd with
   | true =>
     rw [z] at e; cases e; refine ⟨r.2.1,r.2.2,rfl,⟨r,.head _,rfl⟩,fun y vd rv=>⟨(r.1,r.2.1,r.2.2++[y])::kk,rfl,rfl,fun x hx=>?_,?_⟩⟩
     . rcases rT.mp hx with rfl | hx
       . left; simp
       . exact .inr (.tail _ hx)
     . unfold Iz
       rw [h1,z,if_pos rfl,h2]; refine ⟨rfl,⟨ds++[vd],rfl,h3.append (RepL.cons rv rfl)⟩,⟨B7,h5,h6⟩,h7.keep (Same.refl _) fun x hx e n _=>⟨?_,n⟩⟩;rw [B4 (fun w=>nd.1 (by rw [<- w]; exact uU hx))]; exact e
   | false =>
     rw [z] at e; obtain ⟨l,xs,e1,⟨r0,m0,e0⟩,k⟩:=NL.put h7 nd.2 e; have hl:l∈kk.map (·.2.1):=tE.mpr ⟨r0,m0,by rw [e0]⟩;refine ⟨l,xs,e1,⟨r0,.tail _ m0,e0⟩,fun y vd rv=>?_⟩;obtain ⟨kk',k1,k2,k3,k4⟩:=k y vd rv; refine ⟨r::kk',congrArg (List.cons (r.1,V.ref r.2.1)) k1,congrArg (List.cons r.2.1) k2,fun x hx=>?_,?_⟩
     . rcases rT.mp hx with rfl | hx
       . exact .inr (.head _)
       . rcases k3 x hx with w | w
         . exact .inl w
         . exact .inr (.tail _ w)
     . unfold Iz
       rw [h1,z,if_neg (by decide)]; exact ⟨h1,⟨ds,h2,h3⟩,⟨by rw [B4 (fun w=>nd.1 (by rw [w]; exact hl))]; exact h4,h5,h6⟩,k4⟩
noncomputable def shG (as:List rN) (G H:Hp):Hp:=fun b=>open Classical in if b∈as then H b else G b
theorem dI {as:List rN} {b:rN} (h:b∈as):shG as G H b=H b:=by unfold shG; rw [if_pos h]
theorem Fq {as:List rN} {b:rN} (h:b∉as):shG as G H b=G b:=by unfold shG; rw [if_neg h]
theorem NL.same {kvs:List (rG×rG)} {kk:List (rG×rN×List V)} (h:NL G H H1 kvs kk):Same G (shG (kk.map (·.2.1)) G H):=fun b u e=>by
 by_cases m:b∈kk.map (·.2.1)
 . obtain ⟨r,hr,rfl⟩:=tE.mp m
   rw [(h.mem r hr).2.1] at e; cases e
 . rw [Fq m]; exact e
theorem NL.vals {as:List rN} (s:Same G (shG as G H)):∀ {kvs:List (rG×rG)} {kk:List (rG×rN×List V)},NL G H H1 kvs kk->(∀ r∈kk,r.2.1∈as)->RepL (shG as G H) (kvs.map (·.2)) ((prs kk).map (·.2))
 | [],[],_,_=>rfl
 | [],_::_,h,_=>h.elim
 | _::_,[],h,_=>h.elim
 | q::kvs,r::kk,⟨_,⟨ds,h2,h3⟩,⟨h4,_,_⟩,h7⟩,m=>by
   rw [rV,h2]; exact RepL.cons ⟨r.2.1,r.2.2,rfl,.inl (by rw [dI (m r (.head _))]; exact h4),h3.mono s⟩ (NL.vals s h7 fun x hx=>m x (.tail _ hx))
end
theorem SR.forget {G H:Hp} {σ:St} {δ:Dn} (S:SR G H σ δ) (i:Nat):SR G H σ (δ.set i .un):=by
 have key:∀ (j:Nat) (s:Sl),(δ.set i .un)[j]? = some s->s=.un\/δ[j]? = some s:=fun j s e=>by
   rw [D1] at e;split at e
   . cases e; exact .inl rfl
   . exact .inr e
 refine ⟨S.sub,by simp [S.len],fun j s e=>?_,fun j1 j2 a d1 d2 e1 e2 h1 h2=>?_⟩
 . rcases key j s e with rfl | e
   . trivial
   . exact S.sl j s e
 . rcases key j1 _ e1 with z | e1
   . cases z
   . rcases key j2 _ e2 with z | e2
     . cases z
     . exact S.ap j1 j2 a d1 d2 e1 e2 h1 h2
theorem SSt.forget {G0 H0 G H:Hp} {σ:St} {δ:Dn} (S:SSt G0 H0 G H σ δ) (i:Nat):SSt G0 H0 G H σ (δ.set i .un) :=
 ⟨S.gr,S.sr.forget i,fun j d a e h=>by
   rw [D1] at e;split at e
   . cases e
   . exact S.fr j d a e h⟩
theorem OwnOk.off {G H H':Hp} {a:rN} {d:rG} (e:H' a=H a) (h:OwnOk G H a d):OwnOk G H' a d:=by
 cases d with
 | list ds=>obtain ⟨xs,q,r⟩:=h; exact ⟨xs,e.trans q,r⟩
 | dict kvs=>obtain ⟨xs,q,r⟩:=h; exact ⟨xs,e.trans q,r⟩
 | tuple xs=>exact OwnK.keep (Same.refl _) (fun o q=>e.trans q) h
 | _=>exact (show False from h).elim
theorem SSt.off {G0 H0 G H H':Hp} {σ:St} {δ:Dn} (S:SSt G0 H0 G H σ δ) (h0:Same H0 H') (hg:Same G H') (k:∀ (j:Nat) (d:rG) (a:rN),δ[j]? = some (.ow d)->σ[j]?.join=some (.ref a)->H' a=H a):SSt G0 H0 G H' σ δ:=by
 refine ⟨⟨S.gr.g,h0,hg,S.gr.fr⟩,⟨hg,S.sr.len,fun j s e=>?_,S.sr.ap⟩,S.fr⟩;have hs:=S.sr.sl j s e;cases s with
 | un=>trivial
 | sh d=>exact hs
 | fd _=>exact hs
 | ow d =>
   obtain ⟨a,e1,n1,ok⟩:=hs; exact ⟨a,e1,n1,ok.off (k j d a e e1)⟩
end Sm
end
noncomputable section
namespace Sm
open PySem PySem.Spec PyProof.Rows PySem.W L2
noncomputable def Nt (δ:Dn) (t:Nat) (c:Dn->Res Bool) (fk fv:Dn->Res rG):List rG->List (rG×rG)->Res Kvs
 | [],kvs=>.ok kvs
 | d::ds,kvs=>match c (δ.set t (.sh d)) with
   | .ok true=>match fk (δ.set t (.sh d)) with
     | .ok kd=>match fv (δ.set t (.sh d)) with
       | .ok vd=>if nkD kd=true then Nt δ t c fk fv ds (Iz kvs kd vd) else .no
       | _=>.no
     | _=>.no
   | .ok false=>Nt δ t c fk fv ds kvs
   | _=>.no
noncomputable def jB (i t:Nat) (src:Dn->Res (List rG)) (c:Dn->Res Bool) (fk fv:Dn->Res rG):Dn->Out:=fun δ=>match δ[i]? with
 | some (.ow (.tuple [.dict [],.none]))=>N9 (src (δ.set i .un)) fun ds=>if ds.length < 1000/\i≠t then (match Nt ((δ.set i .un).set t .un) t c fk fv ds [] with
   | .ok kvs=>.nx ((δ.set i (.ow (.tuple [.dict kvs,.none]))).set t .un)
   | _=>.no) else .no
 | _=>.no
structure GrpAt (G1 H0 H1:Hp) (i:Nat) (q:rN) (δv:Dn) (n:Nat) (τ:St) (Hc:Hp) (kvs:List (rG×rG)):Prop where
 ex:∃ Gc kk,SSt G1 H0 Gc Hc τ δv/\Gc q=none/\Hc q=some (.dN (prs kk))/\NL Gc Hc H1 kvs kk/\(kk.map (·.2.1)).Nodup/\kk.length<=n/\∀ r∈kk,r.2.2.length<=n
 hi:τ[i]? = some (some (.ref q))
 ap:∀ (j:Nat) (d:rG) (a:rN),δv[j]? = some (.ow d)->τ[j]?.join=some (.ref a)->a≠q/\∃ o,H1 a=some o
 kp:∀ b o,H1 b=some o->∃ o',Hc b=some o'
theorem Ld {H1 H:Hp} {p:rN} {o:HO} (h:∀ b o,H1 b=some o->∃ o',H b=some o'):∀ b u,H1 b=some u->∃ o',(upd H p o) b=some o':=fun b u e=>by
 by_cases z:b=p
 . subst z; exact ⟨_,B7⟩
 . rw [B4 z]; exact h b u e
theorem O5 {H1 H H':Hp} (s:Same H H') (h:∀ b o,H1 b=some o->∃ o',H b=some o'):∀ b u,H1 b=some u->∃ o',H' b=some o':=fun b u e=>by
 obtain ⟨o',z⟩:=h b u e;exact ⟨o',s _ _ z⟩
theorem Grow.stay {G H G' H':Hp} (g:Grow G H G' H') {q:rN} {o:HO} (n:G q=none) (e:H q=some o) (h:∀ ys,o≠.tup ys):G' q=none:=by
 cases z:G' q with
 | none=>rfl
 | some u =>
   rcases g.fr q u z with y | y | ⟨ys,rfl⟩
   . rw [n] at y; cases y
   . rw [e] at y; cases y
   . have:=g.gh _ _ z; rw [g.h _ _ e] at this; cases this; exact absurd rfl (h ys)
theorem Bq {H0 H:Hp} {p:rN} {o:HO} (s:Same H0 H) (h:H0 p=none):Same H0 (upd H p o):=fun b u e=>by
 rw [B4 (C0 e h)]; exact s _ _ e
theorem OwnOk.monoG {G G' H:Hp} {a:rN} {d:rG} (g:Same G G') (h:OwnOk G H a d):OwnOk G' H a d:=by
 cases d with
 | list ds=>obtain ⟨xs,q,r⟩:=h; exact ⟨xs,q,r.mono g⟩
 | dict kvs=>obtain ⟨xs,q,k,r⟩:=h; exact ⟨xs,q,k,r.mono g⟩
 | tuple xs=>exact OwnK.keep g (fun o q=>q) h
 | _=>exact (show False from h).elim
noncomputable section
variable {P:sE} {w:sT} {K:rK} {mg:Str->Option rJ} {base:tL} {X:Cx} {N:List Str} {sc:Scope} {k:Nat} {df:Bool} {E:EK} {p px pl ap1 cp1 ap2 cp2 ep ip pos:Pos} {ke ve ce iter:Expr} {fk fv:Dn->Res rG} {c:Dn->Res Bool} {src:Dn->Res (List rG)} {x y:Str}
theorem s_grp (C:Cxt P w K mg base X N sc k df) (i t:Nat) (ht:okSet N sc df t y=true) (h:okVar N sc i x=true) (hi:DI X E (.Name y px) iter src) (hc:DT X E ce c) (hk:DE X E ke fk) (hv:DE X E ve fv)
   (m2:M2 X (.Name x p) "setdefault" ap1 ke (.List [] pl) cp1) (hs:∀ x,uQ iter X.env x=pure x)
   (hbase:sQ (.Call (.Attribute (.Name x p) "setdefault" ap1) [ke,.List [] pl] [] cp1) "append" X.env (eval (.Call (.Attribute (.Name x p) "setdefault" ap1) [ke,.List [] pl] [] cp1) X.env)=eval (.Call (.Attribute (.Name x p) "setdefault" ap1) [ke,.List [] pl] [] cp1) X.env)
   (hfew:((tR cp2 (rP [ve] X.env)).all (fun x => !x.1)&&(wI cp2 (uJ [] X.env)).all (fun x=>x.1.isSome)&&decide ([ve].length+([]:List wU).length+(if ([]:List wU).isEmpty then 0 else 1) < 30))=true)
   (hline:(ap2.endLine==cp2.line)=true) (hst:rP [ve] X.env=(false,eval ve X.env)::rP [] X.env) (hplain:(tR cp2 (rP [] X.env)).any (·.1)=false)
   (hsw:tH (.Call (.Attribute (.Call (.Attribute (.Name x p) "setdefault" ap1) [ke,.List [] pl] [] cp1) "append" ap2) [ve] [] cp2) none ep.line X.env=pure false) :
   DS X E (.For (.Name y px) iter [.If ce [.Expr (.Call (.Attribute (.Call (.Attribute (.Name x p) "setdefault" ap1) [ke,.List [] pl] [] cp1) "append" ap2) [ve] [] cp2) ep] [] ip] [] pos) (jB i t src c fk fv):=fun G0 H0=>by
 obtain ⟨d1,d2,d3,d4⟩:=okSet.ok C ht;have app:=W7 (pos:=ep) (Ie uB wE wD U6 (eS (by have:=C.hu; lia) (okVar.pe C h (p:=p)) hk (Fa (pos:=pl) F7) m2) (C8 hv F7 hst) hbase hfew hline hst hplain) hsw;refine PS.imp (Wb (pos:=pos) C.own C.calm hi (Am d1 d2 d3 d4) (N6 (Tb (pos:=ip) hc (N6 app) Je)) hs) fun D σ H hh=>?_;obtain ⟨G,δ,S,aft⟩:=hh;unfold jB at aft;split at aft
 . rename_i hsl
   obtain ⟨q,hσ,hgq,ho⟩:=S.sr.own hsl; obtain ⟨kk0,hx,hkeys,_⟩:=(show OwnK G H q [.dict [],.none] from ho);have hk0:kk0=[]:=by
     cases kk0 with
     | nil=>rfl
     | cons _ _=>cases hkeys
   subst hk0; have hil:i < δ.length:=(rQ.mp hsl).1; have hq0:H0 q=none:=S.fr i _ q hsl (by rw [hσ]; rfl);refine iB (S.forget i) aft fun ds J G1 H1 gr W S1 a1=>?_;split at a1
   . rename_i hcond
     obtain ⟨hlen,hit⟩:=hcond; have g01:=S1.gr;cases eout:Nt ((δ.set i .un).set t .un) t c fk fv ds [] with
     | ok out =>
       rw [eout] at a1; have S2:=(S1.forget t).rebase g01 (Same.refl _);generalize hδv:(δ.set i .un).set t .un=δv at *;have apv:∀ (j:Nat) (d:rG) (a:rN),δv[j]? = some (.ow d)->δ[j]? = some (.ow d)/\j≠i:=fun j d a e=>by
         rw [<- hδv,D1] at e;split at e
         . cases e
         . rw [D1] at e
           split at e
           . cases e
           . rename_i hn
             exact ⟨e,fun z=>by subst z; exact hn ⟨rfl,hil⟩⟩
       have hG1q:G1 q=none:=by
         cases z:G1 q with
         | none=>rfl
         | some u =>
           rcases gr.fr q u z with y | y | ⟨ys,rfl⟩
           . rw [hgq] at y; cases y
           . rw [hx] at y; cases y
           . have:=gr.gh _ _ z; rw [gr.h _ _ hx] at this; cases this
       refine ⟨fun n m τ Hc=>m=ds.length - n/\n<=ds.length/\∃ kvs,GrpAt G1 H0 H1 i q δv n τ Hc kvs/\Nt δv t c fk fv (ds.drop n) kvs=.ok out,⟨_,rfl,uA _,[],⟨⟨G1,[],S2,hG1q,gr.h _ _ hx,trivial,.nil,sC _,fun _ h=>nomatch h⟩,hσ,fun j d a e1 e2=>?_,fun b o e=>⟨o,e⟩⟩,by rw [yG]; exact eout⟩,?_⟩
       . obtain ⟨e3,hne⟩:=apv j d a e1
         refine ⟨fun z=>hne (S.sr.ap j i q d _ e3 hsl (z▸e2) (by rw [hσ]; rfl)),?_⟩;obtain ⟨a',h1,_,h3⟩:=S.sr.sl j _ e3; rw [e2] at h1; cases h1; obtain ⟨o,z⟩:=h3.some; exact ⟨o,gr.h _ _ z⟩
       rintro n m τ Hc ⟨rfl,hn,kvs,⟨⟨Gc,kk,Sc,gq,dq,nl,nd,kl,rl⟩,hτ,ap,kp⟩,eg⟩;by_cases hlt:n < ds.length
       . have hd:ds[n]? = some ds[n]:=sH hlt
         rw [uO hlt] at eg; unfold Nt at eg; refine .inr ⟨W.go n Hc hlt (Sc.gr.g.trans Sc.sr.sub),fun τ2 H2=>∃ kvs,GrpAt G1 H0 H1 i q δv (n+1) τ2 H2 kvs/\Nt δv t c fk fv (ds.drop (n+1)) kvs=.ok out,fun τ2 H2 z=>⟨_,by lia,rfl,hlt,z⟩,fun v H'' hy=>?_⟩;obtain ⟨G3,g3,r3⟩:=W.yld n _ Gc Hc v H'' hd Sc.gr.g Sc.sr.sub hy; have S3:=(Sc.grow g3).set_sh (i:=t) r3; have nl3:=nl.grow g3; have dq3:=g3.h _ _ dq; have gq3:G3 q=none:=g3.stay gq dq fun ys z=>by cases z
         have h01:Same H0 H1:=S1.gr.h; have hback:((δv.set t (.sh ds[n])).set t .un)=δv:=by rw [<- hδv]; simp
         have hτ':(τ.set t (some v))[i]? = some (some (.ref q)):=by rw [zO (Ne.symm hit)]; exact hτ
         have htv:∀ (j:Nat) (d:rG),δv[j]? = some (.ow d)->j≠t:=fun j d e z=>by
           subst z; rw [<- hδv,D1] at e;split at e
           . cases e
           . rename_i hn
             have:=(rQ.mp e).1; rw [zU] at this; exact hn ⟨rfl,by rw [zU]; exact this⟩
         have ap':∀ (j:Nat) (d:rG) (a:rN),δv[j]? = some (.ow d)->(τ.set t (some v))[j]?.join=some (.ref a)->a≠q/\∃ o,H1 a=some o:=fun j d a e1 e2=>by
           rw [zO (Ne.symm (htv j d e1))] at e2; exact ap j d a e1 e2
         have apb:∀ (j:Nat) (d:rG) (a:rN),(δv.set t (.sh ds[n]))[j]? = some (.ow d)->(τ.set t (some v))[j]?.join=some (.ref a)->a≠q/\∃ o,H1 a=some o:=fun j d a e1 e2=>by
           rw [D1] at e1;split at e1
           . cases e1
           . exact ap' j d a e1 e2
         show tIfS _ _ _ _ (τ.set t (some v)) H'';generalize hδb:δv.set t (.sh ds[n])=δb at *;generalize τ.set t (some v)=τ' at *;have fin:∀ (Gz Hz:Hp) (kz:List (rG×rG)) (kkz:List (rG×rN×List V)),SSt G1 H0 Gz Hz τ' δb->Gz q=none->Hz q=some (.dN (prs kkz))->NL Gz Hz H1 kz kkz->(kkz.map (·.2.1)).Nodup->kkz.length<=n+1->(∀ r∈kkz,r.2.2.length<=n+1)->(∀ b o,H1 b=some o->∃ o',Hz b=some o')->GrpAt G1 H0 H1 i q δv (n+1) τ' Hz kz:=fun Gz Hz kz kkz s1 s2 s3 s4 s5 s6 s7 s8=>by
           have:=s1.forget t; rw [hback] at this; exact ⟨⟨Gz,kkz,this,s2,s3,s4,s5,s6,s7⟩,hτ',ap',s8⟩
         refine ⟨G3,δb,S3.sr,?_⟩;cases ec:c δb with
         | exc _=>rw [ec] at eg; cases eg
         | no=>rw [ec] at eg; cases eg
         | ok bb =>
           rw [ec] at eg; intro G4 H4 g4; have S4:=S3.grow g4; have nl4:=nl3.grow g4; have dq4:=g4.h _ _ dq3; have kp4:=O5 g4.h (O5 g3.h kp); have gq4:G4 q=none:=g4.stay gq3 dq3 fun ys z=>by cases z
           cases bb with
           | false =>
             rw [if_neg (by decide)]; exact ⟨kvs,fin G4 H4 kvs kk S4 gq4 dq4 nl4 nd (by lia) (fun r hr=>i4 (rl r hr)) kp4,eg⟩
           | true =>
             rw [if_pos rfl]; dsimp only at eg;cases efk:fk δb with
             | exc _=>rw [efk] at eg; cases eg
             | no=>rw [efk] at eg; cases eg
             | ok kd =>
               rw [efk] at eg; dsimp only at eg;cases efv:fv δb with
               | exc _=>rw [efv] at eg; cases eg
               | no=>rw [efv] at eg; cases eg
               | ok vd =>
                 rw [efv] at eg; dsimp only at eg;split at eg
                 . rename_i hnk
                   refine ⟨.ref q,hτ',q,prs kk,rfl,dq4,G4,δb,S4.sr,?_⟩; rw [efk]; intro y5 G5 H5 g5 r5; have S5:=S4.grow g5; refine ⟨uA _,fun p hp=>?_⟩;have g6:Grow G5 H5 G5 (upd H5 p (.lst [])):=Grow.own S5.sr.sub hp; have S6:=S5.grow g6; have nl6:=(nl4.grow g5).grow g6; have dq5:=g5.h _ _ dq4; have hpq:q≠p:=C0 dq5 hp; have dq6:(upd H5 p (.lst [])) q=some (.dN (prs kk)):=g6.h _ _ dq5; have gq5:G5 q=none:=g5.stay gq4 dq4 fun ys z=>by cases z
                   have hz:(prs kk).length < sizeLine:=by
                     have:(1000:Nat)<=sizeLine:=by decide
                     rw [rY]; lia
                   refine ⟨prs kk,kd,dq6,Dg S6.sr.sub hnk r5,hnk,hz,fun v0 hv0=>?_,fun hn0=>?_⟩
                   . obtain ⟨l,xs,e1,⟨r0,m0,e0⟩,_⟩:=NL.put nl6 nd hv0
                     subst e1; have hm6:=nl6.mem r0 m0; rw [e0] at hm6; refine ⟨.inl ⟨rfl,xs,.inl (.inl hm6.1)⟩,G5,δb,S6.sr,?_⟩; rw [efv]; intro y7 G7 H7 g7 r7; have S7:=S6.grow g7; have nl7:=nl6.grow g7; have dq7:=g7.h _ _ dq6; have gq7:G7 q=none:=g7.stay gq5 dq6 fun ys z=>by cases z
                     have hm7:=nl7.mem r0 m0; rw [e0] at hm7; have hxs:xs.length<=n:=by have:=rl r0 m0; rw [e0] at this; exact this
                     have hql:q≠l:=P6 dq7 hm7.1 fun z=>by cases z
                     obtain ⟨l',xs',e1',⟨r1,m1,e1r⟩,kp⟩:=NL.put nl7 nd hv0;cases e1'; have hm1:=nl7.mem r1 m1; rw [e1r] at hm1; have exs:xs'=xs:=by have:=hm1.1.symm.trans hm7.1; cases this; rfl
                     subst exs; obtain ⟨kk',k1,k2,k3,k4⟩:=kp y7 vd r7; refine ⟨l,xs',y7,rfl,rfl,hm7.1,c9 hxs (sP (show n < 1000 by lia) (by decide)),Iz kvs kd vd,fin G7 _ _ kk' (S7.off (Bq S7.gr.h (h01.free hm7.2.2)) (Bq S7.sr.sub hm7.2.1) fun j d a z1 z2=>?_) gq7 (by rw [B4 hql,k1]; exact dq7) k4 (by rw [k2]; exact nd) ?_ (fun r hr=>?_) (Ld (O5 g7.h (O5 g6.h (O5 g5.h kp4)))),eg⟩
                     . obtain ⟨_,o,ho⟩:=apb j d a z1 z2
                       rw [B4 (C0 ho hm7.2.2)]
                     . have:=congrArg yZ k2
                       rw [rY,rY] at this;lia
                     . rcases k3 r hr with z | z
                       . lia
                       . exact i4 (rl r z)
                   . have hH1p : H1 p = none := by
                       cases z:H1 p with
                       | none=>rfl
                       | some u =>
                         obtain ⟨o',w⟩:=O5 g5.h kp4 p u z; rw [hp] at w; cases w
                     have hG5p:G5 p=none:=S5.sr.sub.free hp; have hp6:(upd H5 p (.lst [])) p=some (.lst []):=B7; have S7:SSt G1 H0 G5 (upd (upd H5 p (.lst [])) q (.dN (prs kk++[(kd,.ref p)]))) τ' δb:=S6.off (Bq S6.gr.h hq0) (Bq S6.sr.sub gq5) fun j d a z1 z2=>by rw [B4 (apb j d a z1 z2).1]
                     have hp7:(upd (upd H5 p (.lst [])) q (.dN (prs kk++[(kd,.ref p)]))) p=some (.lst []):=by rw [B4 (Ne.symm hpq)]; exact hp6
                     refine ⟨.inl ⟨rfl,[],.inl (.inl hp7)⟩,G5,δb,S7.sr,?_⟩; rw [efv]; intro y8 G8 H8 g8 r8; have S8:=S7.grow g8; have hp8:=g8.h _ _ hp7; have gp8:G8 p=none:=g8.stay hG5p hp7 fun ys z=>by cases z
                     have dq7:(upd (upd H5 p (.lst [])) q (.dN (prs kk++[(kd,.ref p)]))) q=some (.dN (prs kk++[(kd,.ref p)])):=B7; have dq8:=g8.h _ _ dq7; have gq8:G8 q=none:=g8.stay gq5 dq7 fun ys z=>by cases z
                     have nl7:NL G5 (upd (upd H5 p (.lst [])) q (.dN (prs kk++[(kd,.ref p)]))) H1 kvs kk:=nl6.keep (Same.refl _) fun r _ e n _=>⟨by rw [B4 (P6 e dq6 fun z=>by cases z)]; exact e,n⟩;have hne:∀ r∈kk,r.2.1≠p:=fun r hr=>C0 ((nl4.grow g5).mem r hr).1 hp;have nl9:NL G8 (upd H8 p (.lst [y8])) H1 kvs kk:=(nl7.grow g8).keep (Same.refl _) fun r hr e n _=>⟨by rw [B4 (hne r hr)]; exact e,n⟩;refine ⟨p,[],y8,rfl,rfl,hp8,by show 0 < sizeLine; decide,Iz kvs kd vd,fin G8 _ _ (kk++[(kd,p,[y8])]) (S8.off (Bq S8.gr.h (h01.free hH1p)) (Bq S8.sr.sub gp8) fun j d a z1 z2=>?_) gq8 ?_ (NL.new r8 ⟨B7,gp8,hH1p⟩ nl9 hn0) ?_ (by rw [sA]; show _+1<=_; lia) (fun r hr=>?_) (Ld (O5 g8.h (Ld (O5 g6.h (O5 g5.h kp4))))),eg⟩
                     . obtain ⟨_,o,ho⟩:=apb j d a z1 z2
                       show (upd H8 p (.lst ([]++[y8]))) a=H8 a;rw [B4 (C0 ho hH1p)]
                     . show (upd H8 p (.lst ([]++[y8]))) q=_
                       rw [B4 hpq,dq8]; unfold prs; rw [sV]; rfl
                     . rw [sV,wO]
                       refine ⟨nd,by simp,fun a ha b hb=>?_⟩;obtain ⟨r,hr,rfl⟩:=tE.mp ha; have:b=p:=by simpa using hb
                       subst this; exact hne r hr
                     . rcases sF.mp hr with hr | hr
                       . exact i4 (rl r hr)
                       . rw [sO.mp hr]; show 1<=n+1; lia
                 . cases eg
       . refine .inl ⟨W.stop n Hc (uV.mp hlt) (Sc.gr.g.trans Sc.sr.sub),?_⟩
         rw [vW (uV.mp hlt)] at eg; cases eg; have hq':q∉kk.map (·.2.1):=fun z=>by
           obtain ⟨r,hr,e⟩:=tE.mp z; have:=(nl.mem r hr).1; rw [e,dq] at this; cases this
         have Su:=Sc.unbase g01; have sm:=nl.same; have gh:Same (shG (kk.map (·.2.1)) Gc Hc) Hc:=fun b u e=>by
           by_cases m:b∈kk.map (·.2.1)
           . rw [dI m] at e; exact e
           . rw [Fq m] at e; exact Sc.sr.sub _ _ e
         refine a1 τ (shG (kk.map (·.2.1)) Gc Hc) Hc ⟨⟨Su.gr.g.trans sm,Su.gr.h,gh,fun b o e=>?_⟩,⟨gh,?_,fun j s e=>?_,fun j1 j2 a e1' e2' z1 z2 h1 h2=>?_⟩,fun j d a e h=>?_⟩
         . by_cases m:b∈kk.map (·.2.1)
           . obtain ⟨r,hr,rfl⟩:=tE.mp m
             exact .inr (.inl (S1.gr.h.free (nl.mem r hr).2.2))
           . rw [Fq m] at e; exact Su.gr.fr b o e
         . have:=Sc.sr.len
           rw [<- hδv] at this;simpa using this
         . rw [D1] at e
           split at e
           . cases e; trivial
           . rename_i hjt
             rw [D1] at e;split at e
             . rename_i hji
               cases e; rw [<- hji.1,hτ]; exact ⟨q,rfl,by rw [Fq hq']; exact gq,prs kk,dq,nl.keys,nl.vals sm fun r hr=>uU hr⟩
             . rename_i hji
               have ev:δv[j]? = some s:=by
                 rw [<- hδv,D1,if_neg (by simpa using hjt),D1,if_neg hji]; exact e
               have hs:=Sc.sr.sl j s ev;cases s with
               | un=>trivial
               | sh d=>obtain ⟨v,e1,r1⟩:=hs; exact ⟨v,e1,r1.mono sm⟩
               | fd _=>exact FdOk.mono sm hs
               | ow d =>
                 obtain ⟨a,e1,n1,ok⟩:=hs; have hna:a∉kk.map (·.2.1):=fun z=>by
                   obtain ⟨r,hr,er⟩:=tE.mp z; obtain ⟨_,o,ho⟩:=ap j d a ev e1; have:=(nl.mem r hr).2.2; rw [er,ho] at this; cases this
                 exact ⟨a,e1,by rw [Fq hna]; exact n1,ok.monoG sm⟩
         . have key : ∀ (j : Nat) (d : rG), ((δ.set i (.ow (.tuple [.dict out, .none]))).set t .un)[j]? = some (.ow d) -> j = i \/ δv[j]? = some (.ow d) := fun j d e => by
             rw [D1] at e;split at e
             . cases e
             . rename_i hjt
               rw [D1] at e;split at e
               . rename_i hji; exact .inl hji.1.symm
               . rename_i hji
                 exact .inr (by rw [<- hδv,D1,if_neg (by simpa using hjt),D1,if_neg hji]; exact e)
           rcases key j1 _ z1 with rfl | y1
           . rcases key j2 _ z2 with rfl | y2
             . rfl
             . rw [hτ] at h1; cases h1
               exact absurd rfl (ap j2 _ _ y2 h2).1
           . rcases key j2 _ z2 with rfl | y2
             . rw [hτ] at h2; cases h2
               exact absurd rfl (ap j1 _ _ y1 h1).1
             . exact Sc.sr.ap j1 j2 a _ _ y1 y2 h1 h2
         . rw [D1] at e
           split at e
           . cases e
           . rename_i hjt
             rw [D1] at e;split at e
             . rename_i hji
               rw [<- hji.1,hτ] at h; cases h;exact hq0
             . rename_i hji
               exact Sc.fr j d a (by rw [<- hδv,D1,if_neg (by simpa using hjt),D1,if_neg hji]; exact e) h
     | exc _=>rw [eout] at a1; exact (show False from a1).elim
     | no=>rw [eout] at a1; exact (show False from a1).elim
   . exact (show False from a1).elim
 . exact (show False from aft).elim
end
end Sm
end
noncomputable section
namespace Sm
open PySem PySem.Spec PyProof.Rows PySem.W L2
theorem Td {X:Cx} {pos:Pos}:PE X (.Dict [] [] pos) (fun σ H Q=>∀ q,H q=none->Q (.ref q) (upd H q (.dN []))):=by
 intro pins s σ H Q I h;refine vE (eY (X:=X) (pos:=pos) pins s σ H (fun v H1=>∃ q,v=.ref q/\H q=none/\H1=upd H q (.dT [])) I fun q hq=>⟨q,rfl,hq,rfl⟩) (fun v s1 hh=>?_) fun _ _ e=>e;obtain ⟨x,H1,I1,rx,q,rfl,hq,rfl⟩:=hh;have hx:(upd H q (.dT [])) q=some (.dT []):=B7;obtain ⟨z,hs,xs,rel,o,es,ep,e1,hex,hdat,hes,hnd⟩:=I1.hok q _ hx;have hxs:xs=[]:=by
   cases rel; rfl
 subst hxs;have hes':es = #[]:=by
   have:es.toList=[]:=hes; exact Array.toList_eq_nil_iff.mp this
 subst hes';obtain ⟨oc,od,odt,osl⟩:=o;obtain ⟨c1,c2,c3⟩:=hex;simp only at c1 c2 c3 hdat;subst c1 c2 c3 hdat;refine ⟨.ref q,upd H q (.dN []),?_,rx,h q hq⟩;have:=I1.write (x:=q) (e:=q) (o:=.dN []) (t':=s1.toks) (h':=s1.heap) (by rw [hx]; exact trivial) (.inl rfl) (fun b u _ w=>w) ⟨_,e1⟩ ⟨uA _,hs,.nil,(fun _ h=>nomatch h),[],.nil,ep,e1⟩;rw [Xk] at this;exact this
noncomputable def Ew (i:Nat):Dn->Out:=fun δ=>.nx (δ.set i (.ow (.tuple [.dict [],.none])))
noncomputable section
variable {P:sE} {w:sT} {K:rK} {mg:Str->Option rJ} {base:tL} {X:Cx} {N:List Str} {sc:Scope} {k:Nat} {df:Bool} {E:EK} {pos p p2:Pos} {a:Expr} {x:Str}
theorem Qd (C:Cxt P w K mg base X N sc k df) (i:Nat) (ho:okSet N sc df i x=true) (hs:tH (.Dict [] [] p2) (some (.Name x p)) pos.line X.env=pure false:=by rfl):DS X E (.Assign [.Name x p] (.Dict [] [] p2) pos) (Ew i):=fun G0 H0=>by
 obtain ⟨h1,h2,h3,h4⟩:=okSet.ok C ho;refine PS.imp (Z9 h1 h2 h3 Td hs h4) fun D σ H hh q hq=>?_;obtain ⟨G,δ,S,a⟩:=hh;have S1:=S.grow (Grow.own (o:=.dN []) S.sr.sub hq);exact a _ G _ (S1.set_ow (S.gr.h.free hq) (S.sr.sub.free hq) (show OwnK G _ q [.dict [],.none] from ⟨[],B7,rfl,rfl⟩) (Fg S hq))
end
def AftN (E:EK) (G H:Hp) (r:Res Kvs) (Q:VK):Prop:=match r with
 | .ok kvs=>∀ p G' H',Grow G H G' H'->H p=none->G' p=none->OwnOk G' H' p (.tuple [.dict kvs,.none])->Q (.ref p) H'
 | .exc c=>∀ G' H',Grow G H G' H'->E c H'
 | .no=>False
def tN (E:EK) (f:Dn->Res Kvs):TE:=fun σ H Q=>∃ G δ,SR G H σ δ/\AftN E G H (f δ) Q
abbrev DN (X:Cx) (E:EK) (e:Expr) (f:Dn->Res Kvs):Prop:=PE X e (tN E f)
def DSN (X:Cx) (E:EK) (sts:List vN) (g:Dn->Res Kvs):Prop:=∀ G0 H0,PSs X sts (fun D σ H=>∃ G δ,SSt G0 H0 G H σ δ/\AftN E G0 H0 (g δ) D.rt)
noncomputable def Tj (i:Nat):Dn->Res Kvs:=fun δ=>match δ[i]? with
 | some (.ow (.tuple [.dict kvs,.none]))=>.ok kvs
 | _=>.no
def spN (n:Nat) (m:List rG->Res Kvs):Sp:=fun vs H Q _=>∃ G ds kvs,Same G H/\RepL G ds vs/\ds.length=n/\m ds=.ok kvs/\∀ p G' H',Grow G H G' H'->H p=none->G' p=none->OwnOk G' H' p (.tuple [.dict kvs,.none])->Q (.ref p) H'
structure FnN (P:sE) (w:sT) (K:rK) (mg:Str->Option rJ) (base:tL) (x:Str) (k n:Nat) (m:List rG->Res Kvs):Prop where
 ex:∃ f fd ps,ps.length=n/\FnOk P w K mg base CX0 k f fd ps (spN n m)/\mg x=some (.ref f)/\tJ K (.ref f)=true/\Binds K fd ps []
noncomputable def Hy (i:Nat) (f:Dn->Res Kvs):Dn->Out:=fun δ=>N9 (f δ) fun kvs=>.nx (δ.set i (.ow (.tuple [.dict kvs,.none])))
noncomputable section
variable {P:sE} {w:sT} {K:rK} {mg:Str->Option rJ} {base:tL} {X:Cx} {N:List Str} {sc:Scope} {k:Nat} {df:Bool} {E:EK} {pos p:Pos} {e:Expr} {es:List Expr} {fs:Dn->Res (List rG)} {fx:Dn->Res Kvs} {x:Str} {st:vN} {sts:List vN} {g1:Dn->Out} {g2:Dn->Res Kvs}
theorem fI (C:Cxt P w K mg base X N sc k df) (i:Nat) (h:okVar N sc i x=true):DSN X E [.Return (some (.Name x p)) pos] (Tj i):=fun G0 H0=>by
 refine PSs.imp (N6 (Dk (okVar.pe C h))) fun D σ H hh=>?_;obtain ⟨G,δ,S,a⟩:=hh;unfold Tj at a;split at a
 . rename_i kvs hi
   obtain ⟨q,hσ,hg,ho⟩:=S.sr.own hi; exact ⟨.ref q,hσ,a q G H S.gr (S.fr i _ q hi (by rw [hσ]; rfl)) hg ho⟩
 . exact (show False from a).elim
theorem Hj (h1:DS X E st g1) (h2:DSN X E sts g2):DSN X E (st::sts) (Jo g1 g2):=fun G0 H0=>by
 refine PSs.imp (P5 (h1 G0 H0) (h2 G0 H0)) fun D σ H hh=>?_;obtain ⟨G,δ,S,a⟩:=hh;refine ⟨G,δ,S,?_⟩;unfold Jo at a;cases e:g1 δ with
 | nx δ'=>rw [e] at a; exact fun σ' G' H' S'=>⟨G',δ',S',a⟩
 | exc d=>rw [e] at a; exact a
 | rt d=>rw [e] at a; exact (show False from a).elim
 | bk d=>rw [e] at a; exact (show False from a).elim
 | ct d=>rw [e] at a; exact (show False from a).elim
 | no=>rw [e] at a; exact (show False from a).elim
theorem fn_N {x:Str} {st:vN} {ps:List Str} {n:Nat} {go:Dn->Res Kvs} {m:List rG->Res Kvs} (F:Def K mg x st ps) (S:FnScope N ps (A0 st)) (hn:ps.length=n)
   (body:∀ X,Cxt P w K mg base X N (A0 st) k true->DSN X E0k (B6 st) go) (hm:m=fnW N go):FnN P w K mg base x (k+1) n m:=by
 obtain ⟨f,fd,F,hmg,hb⟩:=F.ex;refine ⟨f,fd,ps,hn,?_,hmg,F.kp,hb⟩;subst hm;refine F.ok S (fun vs H Q E h=>?_) (fun cdv A outer s H vs Q E hr h=>?_)
 . obtain ⟨G,ds,d,_,r,hl,_⟩:=h
   rw [<- r.length,hl,hn]
 . obtain ⟨G,ds,kvs,hG,r,hl,em,q⟩:=h
   refine ⟨_,body _ ⟨rfl,rfl,rfl,rfl,rfl,rfl,rfl,rfl,hr,fun _ _=>rfl,uN⟩ G H,G,_,Jz hG r N,?_⟩;unfold fnW at em; rw [em]; exact q
theorem fK {x:Str} {j n:Nat} {m:List rG->Res Kvs} (C:Cxt P w K mg base X N sc k df) (F:FnN P w K mg base x j n m) (hj:j<=k) (h:okGl sc x=true) (ha:DA X E0k (e::es) n fs)
   (he:rP (e::es) X.env=(false,eval e X.env)::rP es X.env:=by rfl) (hpl:(tR pos (rP es X.env)).any (·.1)=false:=by rfl):DN X E0k (.Call (.Name x p) (e::es) [] pos) (Rm fs m):=by
 obtain ⟨f,fd,ps,hps,F,hm,hk,hb⟩:=F.ex;obtain ⟨h1,h2,h3⟩:=okGl.gl C h;have F':FnOk X.prog X.w X.K X.mg X.base CX0 j f fd ps (spN n m):=by rw [C.hP,C.hw,C.hK,C.hmg,C.hb]; exact F
 refine PE.imp (Jf F' (C.room.mono hj) h1 (by rw [C.hmg]; exact hm) (by rw [C.hK]; exact hk) (by rw [C.hK]; exact hb) .nil (Em (X:=X)) ha.pa h2 he hpl) fun σ H Q hh=>?_;obtain ⟨G,δ,S,aft⟩:=hh;have gw:∀ {G H G' H':Hp} {r:Res Kvs},Grow G H G' H'->AftN E0k G H r Q->AftN E0k G' H' r Q:=fun {G H G' H' r} g a=>by
   cases r with
   | ok kvs=>exact fun p G2 H2 g2 hp hp' ho=>a p G2 H2 (g.trans g2) (g.h.free hp) hp' ho
   | exc c=>exact fun G2 H2 g2=>a G2 H2 (g.trans g2)
   | no=>exact a
 refine U0 (W:=fun G H r=>AftN E0k G H r Q) S aft (fun g a=>gw g a) (fun c a=>a) (fun a=>a) fun ds vs G1 H1 e g1 r1 S1 a1=>?_;rw [uG];cases q:m ds with
 | ok d=>rw [q] at a1; exact ⟨G1,ds,d,S1.sub,r1,ha.len δ ds e,q,a1⟩
 | exc c=>rw [q] at a1; exact (a1 G1 H1 (Grow.refl S1.sub)).elim
 | no=>rw [q] at a1; exact a1.elim
theorem Vp (C:Cxt P w K mg base X N sc k df) (i:Nat) (ho:okSet N sc df i x=true) (h:DN X E e fx) (hs:tH e (some (.Name x p)) pos.line X.env=pure false:=by rfl):DS X E (.Assign [.Name x p] e pos) (Hy i fx):=fun G0 H0=>by
 obtain ⟨h1,h2,h3,h4⟩:=okSet.ok C ho;refine PS.imp (Z9 h1 h2 h3 h hs h4) fun D σ H hh=>?_;obtain ⟨G,δ,S,a⟩:=hh;refine ⟨G,δ,S.sr,?_⟩;unfold Hy at a;cases q:fx δ with
 | ok kvs =>
   rw [q] at a; intro p G' H' g hp hp' ho; have S1:=S.grow g; exact a _ G' H' (S1.set_ow (S.gr.h.free hp) hp' ho (Fg S hp))
 | exc c=>rw [q] at a; exact fun G' H' g=>a G' H' (S.gr.trans g)
 | no=>rw [q] at a; exact a
end
end Sm
end
noncomputable section
namespace Sm
open PySem PySem.Spec PyProof.Rows PySem.W L2
noncomputable def De (c:Dn->Res Bool) (body:Dn->Out):Nat->Dn->Out
 | 0,_=>.no
 | n+1,δ=>N9 (c δ) fun b=>if b=true then (match body δ with
   | .nx δ'=>De c body n δ'
   | .ct δ'=>De c body n δ'
   | .bk δ'=>.nx δ'
   | o=>o) else .nx δ
noncomputable def dY (c:Dn->Res Bool) (body:Dn->Out):Dn->Out:=De c body 4096
noncomputable def Us (i:Nat):Dn->Res Bool:=fun δ=>match δ[i]? with
 | some (.ow (.list ds))=>.ok (!ds.isEmpty)
 | _=>.no
noncomputable def Zz (i j:Nat):Dn->Out:=fun δ=>match δ[i]? with
 | some (.ow (.list ds))=>match ds[ds.length - 1]? with
   | some d=>if i≠j then .nx ((δ.set i (.ow (.list ds.dropLast))).set j (.sh d)) else .no
   | none=>.no
 | _=>.no
noncomputable def aA (i:Nat) (f:Dn->Res (List rG)):Dn->Out:=fun δ=>match δ[i]? with
 | some (.ow (.list xs))=>N9 (f δ) fun ds=>if xs.length+ds.length<=100000 then .nx (δ.set i (.ow (.list (xs++ds)))) else .no
 | _=>.no
noncomputable section
variable {P:sE} {w:sT} {K:rK} {mg:Str->Option rJ} {base:tL} {X:Cx} {N:List Str} {sc:Scope} {k:Nat} {df:Bool} {E:EK} {pos p py apos cpos:Pos} {ce a:Expr} {sts:List vN} {c:Dn->Res Bool} {g1:Dn->Out} {fs:Dn->Res (List rG)} {x y:Str}
theorem iX (C:Cxt P w K mg base X N sc k df) (hc:DT X E ce c) (hb:DSs X E sts g1):DS X E (.While ce sts [] pos) (dY c g1):=fun G0 H0=>by
 refine PS.imp (eN (pos:=pos) C.own hc (hb G0 H0)) fun D σ H hh=>?_;obtain ⟨G,δ,S,a⟩:=hh;refine ⟨fun m σ' H'=>∃ G' δ',SSt G0 H0 G' H' σ' δ'/\Hw E G0 H0 (De c g1 m δ') D,⟨4096,G,δ,S,a⟩,fun m σ' H' hw=>?_⟩;obtain ⟨G',δ',S',a'⟩:=hw;cases m with
 | zero=>exact (show False from a').elim
 | succ m =>
   unfold De at a'; refine iA S' a' fun b G1 H1 gr S1 a1=>?_;cases b with
   | false =>
     rw [if_neg (by decide)] at a1 ⊢;exact a1 σ' G1 H1 S1
   | true =>
     rw [if_pos rfl] at a1 ⊢;refine ⟨fun σ2 H2=>∃ G' δ',SSt G0 H0 G' H2 σ2 δ'/\Hw E G0 H0 (De c g1 m δ') D,fun σ2 H2 z=>⟨m,zI m,z⟩,G1,δ',S1,?_⟩;cases eo:g1 δ' with
     | nx δ2=>rw [eo] at a1; exact fun σ3 G4 H4 S5=>⟨G4,δ2,S5,a1⟩
     | ct δ2=>rw [eo] at a1; exact fun σ3 G4 H4 S5=>⟨G4,δ2,S5,a1⟩
     | bk δ2=>rw [eo] at a1; exact fun σ3 G4 H4 S5=>a1 σ3 G4 H4 S5
     | rt d=>rw [eo] at a1; exact a1
     | exc d=>rw [eo] at a1; exact a1
     | no=>rw [eo] at a1; exact a1
theorem t_own (C:Cxt P w K mg base X N sc k df) (i:Nat) (h:okVar N sc i x=true) (he:∀ whole,isTrue (.Name x p) X.env whole=(do let v <- whole; standAt (Expr.Name x p).pos; holding [v] (truthy v)):=by intro _; rfl):DT X E (.Name x p) (Us i):=by
 refine PT.imp (Ga (okVar.pe C h) he) fun σ H Q hh=>?_;obtain ⟨G,δ,S,a⟩:=hh;unfold Us at a;split at a
 . rename_i ds hi
   obtain ⟨q,hσ,hg,xs,hx,rl⟩:=S.own hi; have he:ds.isEmpty=xs.isEmpty:=by
     have:=rl.length;cases ds <;> cases xs <;> simp at this ⊢
   refine ⟨.ref q,hσ,!xs.isEmpty,.inl ⟨xs,.inl (.inl hx),rfl⟩,?_⟩; rw [<- he]; exact a G H (Grow.refl S.sub)
 . exact (show False from a).elim
theorem s_pop (C:Cxt P w K mg base X N sc k df) (i j:Nat) (h:okVar N sc i x=true) (ho:okSet N sc df j y=true)
   (hbase:sQ (.Name x p) "pop" X.env (eval (.Name x p) X.env)=eval (.Name x p) X.env:=by rfl) (hline:(apos.endLine==cpos.line)=true:=by rfl)
   (hs:tH (.Call (.Attribute (.Name x p) "pop" apos) [] [] cpos) (some (.Name y py)) pos.line X.env=pure false:=by rfl) :
   DS X E (.Assign [.Name y py] (.Call (.Attribute (.Name x p) "pop" apos) [] [] cpos) pos) (Zz i j):=fun G0 H0=>by
 obtain ⟨h1,h2,h3,h4⟩:=okSet.ok C ho;refine PS.imp (Z9 h1 h2 h3 (We uB j7 j6 Wm (okVar.pe C h) hbase hline) hs h4) fun D σ H hh=>?_;obtain ⟨G,δ,S,a⟩:=hh;unfold Zz at a;split at a
 . rename_i ds hi
   split at a
   . rename_i d hd
     split at a
     . rename_i hij
       obtain ⟨q,hσ,hg,xs,hx,rl⟩:=S.sr.own hi; obtain ⟨v,hv,rv⟩:=rl.get hd; rw [rl.length] at hv; refine ⟨.ref q,hσ,.inl ⟨rfl,xs,.inl (.inl hx)⟩,q,xs,v,rfl,rfl,hx,hv,?_⟩; have S1:=S.write (o:=.lst xs.dropLast) (d':=.list ds.dropLast) hi (by rw [hσ]; rfl) hg ⟨_,B7,rl.dropLast⟩;exact a _ G _ (S1.set_sh rv)
     . exact (show False from a).elim
   . exact (show False from a).elim
 . exact (show False from a).elim
theorem s_ext (C:Cxt P w K mg base X N sc k df) (i:Nat) (h:okVar N sc i x=true) (ha:DF X E a fs)
   (hbase:sQ (.Name x p) "extend" X.env (eval (.Name x p) X.env)=eval (.Name x p) X.env:=by rfl)
   (hfew:((tR cpos (rP [a] X.env)).all (fun x => !x.1)&&(wI cpos (uJ [] X.env)).all (fun x=>x.1.isSome)
     && decide ([a].length+([]:List wU).length+(if ([]:List wU).isEmpty then 0 else 1) < 30))=true:=by rfl)
   (hline:(apos.endLine==cpos.line)=true:=by rfl) (hs:rP [a] X.env=(false,eval a X.env)::rP [] X.env:=by rfl) (hplain:(tR cpos (rP [] X.env)).any (·.1)=false:=by rfl)
   (hsw:tH (.Call (.Attribute (.Name x p) "extend" apos) [a] [] cpos) none pos.line X.env=pure false:=by rfl) :
   DS X E (.Expr (.Call (.Attribute (.Name x p) "extend" apos) [a] [] cpos) pos) (aA i fs):=fun G0 H0=>by
 refine PS.imp (W7 (Ie uB PySem.F.slot_list_extend PySem.F.type_list_extend aR (okVar.pe C h) (C8 ha F7 hs) hbase hfew hline hs hplain) hsw) fun D σ H hh=>?_;obtain ⟨G,δ,S,aft⟩:=hh;unfold aA at aft;split at aft
 . rename_i ds hi
   obtain ⟨q,hσ,hg,xs,hx,rl⟩:=S.sr.own hi; refine ⟨.ref q,hσ,.inl ⟨rfl,xs,.inl (.inl hx)⟩,?_⟩; refine Xh S aft fun es b zs G1 H1 g1 q1 q2 q3 q4 S1 a1=>?_;split at a1
   . rename_i hlen
     have hx1:=g1.h _ _ hx; have hqb:q≠b:=C0 hx q1; have hg1:G1 q=none:=g1.stay hg hx fun ys z=>by cases z
     have l1:=rl.length; have l2:=q4.length; refine ⟨q,b,xs,zs,rfl,rfl,hx1,q3,sJ (by lia) (show 100000<=sizeLine by decide),?_⟩;exact a1 σ G1 _ (S1.write (o:=.lst (xs++zs)) (d':=.list (ds++es)) hi (by rw [hσ]; rfl) hg1 ⟨_,B7,(rl.mono g1.g).append q4⟩)
   . exact (show False from a1).elim
 . exact (show False from aft).elim
end
end Sm
end
noncomputable section
namespace Sm
open PySem PySem.Spec PyProof.Rows PySem.W L2
noncomputable section
variable {X:Cx} {pins:List (rN×Obj)} {σ:St} {H:Hp} {s:rM} {a:rN} {A:tY} {E:rJ->rM->Prop}
theorem n_at {kvs:List (rG×V)} {xs:List (rJ×rJ)} {kd:rG} {w:sT} {i:Nat} {e:tV} (rel:uL (PrN H) kvs xs) (hk:nkD kd=true) (nk:∀ p∈kvs,nkD p.1=true) (nd:(kvs.map (·.1)).Nodup) (hi:(kvs.map (·.1))[i]? = some kd) (he:(E1 w kvs xs)[i]? = some e) :
   ∃ v,kvs[i]? = some (kd,v)/\K7 kvs kd=some v/\RelV v e.val:=by
 obtain ⟨p,q,h1,h2,⟨_,h5⟩,rfl⟩:=Ck rel he;rw [sB,h1] at hi;have hp:p=(kd,p.2):=by
   have:p.1=kd:=by simpa using hi
   rw [<- this]
 rw [hp] at h1;exact ⟨p.2,h1,Bu hk nk nd h1,h5⟩
theorem pK {kvs:List (rG×V)} {kd:rG} {y v:V} {u:rJ} {Q:rJ->rM->Prop} (hu:A.units+16 < uY) (I:Inv X pins σ H s) (e:Rd H a (.dN kvs)) (rk:KRep H kd y) (hk:nkD kd=true) (ry:RelV y u) (hv:K7 kvs kd=some v)
   (h:∀ w' s',Inv X pins σ H s'->RelV v w'->Q w' s'):wpAny (sM X.prog X.w) A (g9 (.ref a) u) Q E s:=by
 obtain ⟨z,hd,nd,nk,xs,rel,ep,e1⟩:=e.ok I.hok;have hT:s.TypeIs (.ref a) "dict" := ⟨_,e1,rfl⟩;have hm:kd∈kvs.map (·.1):=yB fun z=>by rw [Dq hk nk z] at hv; cases hv
 unfold g9;try with_reducible refine uW ?_
 refine rH (j8 hT (by decide) ?_);refine rH (vD (name:=xR "__getitem__") hT F.slot_dict_getitem ?_);refine u9 F.slot_dict_getitem hT F.entry_dict_getitem (F.args_dict_getitem_2 _ _) (Tl a u) ⟨_,_,ep,kvs.map (·.1),kd,hu,e1,rfl,Ds I rel nk nd,Bi I rk ry hk,hm,fun i e tk hi he=>?_⟩;obtain ⟨v',_,h2,h3⟩:=n_at rel hk nk nd hi (by simpa using he);rw [hv] at h2; cases h2;exact rL (h _ _ (I.tok _) h3)
theorem n_has {kvs:List (rG×V)} {kd:rG} (hk:nkD kd=true) (nk:∀ p∈kvs,nkD p.1=true) (nd:(kvs.map (·.1)).Nodup) (hm:kd∈kvs.map (·.1)):(K7 kvs kd).isSome=true:=by
 obtain ⟨⟨k',v⟩,hp,rfl⟩:=tE.mp hm;obtain ⟨i,hi⟩:=n4.mp hp;rw [Bu hk nk nd hi]; rfl
theorem Wl {kvs:List (rG×V)} {kd:rG} {y:V} {u:rJ} {Q:Bool->rM->Prop} (hu:A.units+16 < uY) (I:Inv X pins σ H s) (e:Rd H a (.dN kvs)) (rk:KRep H kd y) (hk:nkD kd=true) (ry:RelV y u)
   (h:∀ s',Inv X pins σ H s'->Q (K7 kvs kd).isSome s'):wpAny (sM X.prog X.w) A (contains (.ref a) u) Q E s:=by
 obtain ⟨z,hd,nd,nk,xs,rel,ep,e1⟩:=e.ok I.hok;have hT:s.TypeIs (.ref a) "dict" := ⟨_,e1,rfl⟩;unfold contains;try with_reducible refine uW ?_
 refine rH (wV hT F.slot_dict_contains.lookup ?_);show wpAny _ _ (if (some (Value.builtin "dict.__contains__")==some wN)=true then _ else _) _ _ s;rw [if_neg (by rw [BN]; exact vB)];refine rH (wpAny_callSpecialUnlessNone?_slot (name:=xR "__contains__") hT F.slot_dict_contains ?_);refine u9 F.slot_dict_contains hT F.entry_dict_contains (F.args_dict_contains_2 _ _) (aS a u hd) ⟨_,_,ep,kvs.map (·.1),kd,hu,e1,rfl,Ds I rel nk nd,Bi I rk ry hk,fun tk hm=>?_,fun tk hn=>?_⟩
 . have:=h _ (I.tok tk)
   rw [n_has hk nk nd hm] at this; exact xK this
 . have:=h _ (I.tok tk)
   rw [Dq hk nk hn] at this; exact xK this
end
def tNIx (td ty:TE):TE:=fun σ H Q=>td σ H fun x H1=>ty σ H1 fun y H2=>∃ a kvs kd v,x=.ref a/\Rd H2 a (.dN kvs)/\KRep H2 kd y/\nkD kd=true/\K7 kvs kd=some v/\Q v H2
def tNIn (b:Bool) (ty td:TE):TE:=fun σ H Q=>ty σ H fun y H1=>td σ H1 fun x H2=>∃ a kvs kd,x=.ref a/\Rd H2 a (.dN kvs)/\KRep H2 kd y/\nkD kd=true/\Q (.bl ((K7 kvs kd).isSome != b)) H2
noncomputable section
variable {X:Cx} {o i:Expr} {pos:Pos} {td ty:TE}
theorem eT (hu:X.A.units+16 < uY) (ho:PE X o td) (hi:PE X i ty) (hs:rF i):PE X (.Subscript o i pos) (tNIx td ty):=by
 intro pins s σ H Q I h;refine iQ PySem.F.slot_dict_getitem.lookup hs (thn (ho pins s σ H _ I h) fun u s1 hY84=>?_);obtain ⟨x,H1,I1,rx,q1⟩:=hY84;refine thn (hi pins s1 σ H1 _ I1 q1) fun iv s2 hZ2=>?_;obtain ⟨y,H2,I2,ry,a,kvs,kd,v,ex,g,rk,hk,hv,q2⟩:=hZ2;subst ex;obtain rfl:u=tW a:=rx;obtain ⟨_,_,_,_,_,_,ep,e1⟩:=g.ok I2.hok;exact ⟨⟨_,e1,rfl⟩,pK hu I2 g rk hk ry hv fun w' s3 I3 rw'=>⟨v,H2,I3,rw',q2⟩⟩
theorem Hh (hu:X.A.units+16 < uY) (hi:PE X i ty) (ho:PE X o td):PC X .NotIn i o (tNIn true ty td):=by
 intro pins s σ H Q I h;refine thn (hi pins s σ H _ I h) fun iv s1 hY86=>?_;obtain ⟨y,H1,I1,ry,q1⟩:=hY86;refine thn (ho pins s1 σ H1 _ I1 q1) fun u s2 hZ2=>?_;obtain ⟨x,H2,I2,rx,a,kvs,kd,ex,g,rk,hk,q2⟩:=hZ2;subst ex;obtain rfl:u=tW a:=rx;show wpAny _ _ (do return j4 (!(<- contains (tW a) iv))) _ _ s2;rw [Bool.bne_true] at q2;exact rH (Wl hu I2 g rk hk ry fun s3 I3=>rL ⟨.bl (!(K7 kvs kd).isSome),H2,I3,rfl,q2⟩)
end
noncomputable def vIxN (i:Nat) (f:Dn->Res rG):Dn->Res rG:=fun δ=>match kvN δ i with
 | some kvs=>(f δ).bind fun kd=>if nkD kd=true then ofO (F6 kvs kd) else .no
 | none=>.no
noncomputable def Ag (b:Bool) (i:Nat) (f:Dn->Res rG):Dn->Res rG:=fun δ=>(f δ).bind fun kd=>match kvN δ i with
 | some kvs=>if nkD kd=true then .ok (.bool ((F6 kvs kd).isSome != b)) else .no
 | none=>.no
noncomputable section
variable {P:sE} {w:sT} {K:rK} {mg:Str->Option rJ} {base:tL} {X:Cx} {N:List Str} {sc:Scope} {k:Nat} {df:Bool} {E:EK} {p pos:Pos} {a b:Expr} {f g:Dn->Res rG} {x:Str}
theorem d_ixN (C:Cxt P w K mg base X N sc k df) (i:Nat) (h:okVar N sc i x=true) (hk:DE X E a f) (hs:rF a:=by exact fun _ _=>rfl):DE X E (.Subscript (.Name x p) a pos) (vIxN i f):=by
 refine PE.imp (eT (by have:=C.hu; lia) (okVar.pe C h) hk hs) fun σ H Q hY87=>?_;obtain ⟨G,δ,S,aft⟩:=hY87;unfold vIxN at aft;split at aft
 . rename_i kvs hi
   obtain ⟨q,kk,hσ,hx,hkeys,hvals⟩:=S.kvN hi; refine ⟨.ref q,hσ,?_⟩; refine P9 S aft fun kd v G1 H1 g1 r1 S1 a1=>?_;split at a1
   . rename_i hn
     rcases Bt (k:=kd) hkeys hvals with ⟨n1,n2⟩ | ⟨d0,v0,n1,n2,rd⟩
     . rw [n1] at a1; exact a1.elim
     . rw [n1] at a1
       exact ⟨q,kk,kd,v0,rfl,Rd.mono g1.h hx,Dg S1.sub hn r1,hn,n2,a1 _ G1 H1 (Grow.refl S1.sub) (rd.mono g1.g)⟩
   . exact a1.elim
 . exact aft.elim
theorem Yo {t:Bool} {i:Nat} {σ:St} {H:Hp} {Q:VK} (h:tD E (Ag t i f) σ H Q):tNIn t (tD E f) (Vd i) σ H Q:=by
 obtain ⟨G,δ,S,aft⟩:=h;refine P9 S aft fun kd v G1 H1 g1 r1 S1 a1=>?_;split at a1
 . rename_i kvs hi
   split at a1
   . rename_i hn
     obtain ⟨q,kk,hσ,hx,hkeys,hvals⟩:=S1.kvN hi; refine ⟨.ref q,hσ,q,kk,kd,rfl,hx,Dg S1.sub hn r1,hn,?_⟩; have:(K7 kk kd).isSome=(F6 kvs kd).isSome:=by
       rcases Bt (k:=kd) hkeys hvals with ⟨n1,n2⟩ | ⟨d0,v0,n1,n2,_⟩ <;> rw [n1,n2] <;> rfl
     rw [this]; exact a1 _ G1 H1 (Grow.refl S1.sub) rfl
   . exact a1.elim
 . exact a1.elim
theorem gC {t:Bool} {i:Nat} {δ:Dn} {d:rG} (e:Ag t i f δ=.ok d):∃ b,d=.bool b:=by
 unfold Ag Res.bind at e;split at e
 . split at e
   . dsimp only at e
     split at e
     . cases e; exact ⟨_,rfl⟩
     . cases e
   . cases e
 . cases e
 . cases e
theorem hE {t:Bool} {i:Nat} {G H:Hp} {δ:Dn} {Q:Bool->Hp->Prop} (aft:AftT E G H (D3 (Ag t i f) δ) Q):Aft E G H (Ag t i f δ) (fun v H'=>∃ b,v=.bl b/\Q b H'):=by
 unfold D3 at aft;cases e:Ag t i f δ with
 | ok d =>
   obtain ⟨b,rfl⟩:=gC e; rw [e] at aft; intro v G' H' g r; exact ⟨b,r,aft G' H' g⟩
 | exc c=>rw [e] at aft; exact aft
 | no=>rw [e] at aft; exact aft
theorem Ui (C:Cxt P w K mg base X N sc k df) (i:Nat) (h:okVar N sc i x=true) (hk:DE X E a f) (hm:behindInMarks .NotIn (.Name x p)=false:=by with_unfolding_all rfl):DE X E (.Compare a [.NotIn] [.Name x p] pos) (Ag true i f) :=
 PE.imp (oX (Hh (by have:=C.hu; lia) hk (okVar.pe C h)) hm) fun _ _ _ h=>Yo h
theorem Rs (C:Cxt P w K mg base X N sc k df) (i:Nat) (h:okVar N sc i x=true) (hk:DE X E a f) (hm:behindInMarks .NotIn (.Name x p)=false:=by with_unfolding_all rfl):DT X E (.Compare a [.NotIn] [.Name x p] pos) (D3 (Ag true i f)):=by
 refine PT.imp (Wa (Hh (by have:=C.hu; lia) hk (okVar.pe C h)) hm) fun σ H Q hY89=>?_;obtain ⟨G,δ,S,aft⟩:=hY89;refine Yo ⟨G,δ,S,?_⟩;exact hE aft
end
end Sm
end
noncomputable section
namespace Sm
open PySem PySem.Spec PyProof.Rows PySem.W L2
noncomputable def O6 {α:Type}:List (rG×α)->rG->α->List (rG×α)
 | [],k,v=>[(k,v)]
 | p::r,k,v=>if rZ p.1 k=true then (p.1,v)::r else p::O6 r k v
theorem Fz {α:Type} {k:rG} {v:α}:∀ (l:List (rG×α)),(O6 l k v).length<=l.length+1:=by
 intro iN; induction iN with
 | nil=>skip; exact sC _
 | cons p r ih =>
   skip
   unfold O6;split
   . simp
   . simp only [sD]; exact AT (ih)
theorem jY {k:rG} {v:V} (hk:nkD k=true):∀ {kk:List (rG×V)} {i:Nat} {v0:V},(∀ p∈kk,nkD p.1=true)->(kk.map (·.1)).Nodup->kk[i]? = some (k,v0)->O6 kk k v=kk.modify i fun p=>(p.1,v):=by
 intro iN; induction iN with
 | nil=>intro _ _ _ _ h; simp at h
 | cons p kk ih =>
   intro i v0 hn nd h; unfold O6; have hp:=Hq (O1 (hn p (.head _))).1 (O1 hk).1;cases i with
   | zero =>
     simp at h;subst h; rw [if_pos (hp.mpr rfl)]; rfl
   | succ i =>
     rw [rV,uR] at nd; have hm:(k,v0)∈kk:=tZ (by simpa using h);rw [if_neg (fun z=>nd.1 (by rw [hp.mp z]; exact uU hm)),ih (fun q hq=>hn q (.tail _ hq)) nd.2 (by simpa using h)];rfl
theorem jX {k:rG} {v:V} (hk:nkD k=true):∀ {kk:List (rG×V)},(∀ p∈kk,nkD p.1=true)->k∉kk.map (·.1)->O6 kk k v=kk++[(k,v)]:=by
 intro iN; induction iN with
 | nil=>intro _ _; exact rfl
 | cons p kk ih =>
   intro hn h; unfold O6; rw [rV,rT,not_or] at h; rw [if_neg (fun z=>h.1 ((Hq (O1 (hn p (.head _))).1 (O1 hk).1).mp z).symm),ih (fun q hq=>hn q (.tail _ hq)) h.2];rfl
theorem Lp {G:Hp} {k d:rG} {v:V} (r:Rep G d v):∀ {kvs:Kvs} {kk:List (rG×V)},kvs.map (·.1)=kk.map (·.1)->RepL G (kvs.map (·.2)) (kk.map (·.2))->(O6 kvs k d).map (·.1)=(O6 kk k v).map (·.1)/\RepL G ((O6 kvs k d).map (·.2)) ((O6 kk k v).map (·.2))
 | [],[],_,_=>⟨rfl,RepL.cons r rfl⟩
 | [],_::_,e,_=>by cases e
 | _::_,[],e,_=>by cases e
 | p::kvs,q::kk,e,l=>by
   simp only [rV,wJ] at e; obtain ⟨x,t,ex,rx,l⟩:=l; simp only [rV,wJ] at ex; unfold O6; rw [e.1];split
   . exact ⟨by simp only [rV]; rw [e.2],RepL.cons r (by rw [ex.2]; exact l)⟩
   . obtain ⟨h1,h2⟩:=Lp (k:=k) r e.2 (by rw [ex.2]; exact l)
     exact ⟨by simp only [rV]; rw [e.1,h1],RepL.cons (show Rep G p.2 q.2 by rw [ex.1]; exact rx) h2⟩
theorem Ud {w:sT} {v:V} {r:rJ}:∀ (kk:List (rG×V)) (xs:List (rJ×rJ)) (i:Nat),(E1 w kk xs).modify i (fun e=>{ e with val:=r })=E1 w (kk.modify i fun p=>(p.1,v)) (xs.modify i fun q=>(q.1,r))
 | [],xs,i=>by cases i <;> simp [E1]
 | _::_,[],i=>by cases i <;> simp [E1]
 | p::kk,q::xs,0=>rfl
 | p::kk,q::xs,i+1=>by
   have:=Ud (w:=w) (v:=v) (r:=r) kk xs i; simp only [E1,List.zipWith_cons_cons,List.modify_succ_cons] at this ⊢;rw [this]
theorem Lw {α β:Type} {F:α->β->Prop} {f:α->α} {g:β->β} (h:∀ a b,F a b->F (f a) (g b)):∀ {l₁:List α} {l₂:List β} (i:Nat),uL F l₁ l₂->uL F (l₁.modify i f) (l₂.modify i g)
 | _,_,i,.nil=>by cases i <;> exact .nil
 | _,_,0,.cons r t=>.cons (h _ _ r) t
 | _,_,i+1,.cons r t=>.cons r (Lw h i t)
noncomputable section
variable {prog:sE} {w:sT} {A:tY} {E:rJ->rM->Prop} {s:rM}
theorem bI {d:rN} {key v:rJ} {L:List tV} {ep:Nat} {ks:List rG} {k:rG} {Q:Unit->rM->Prop} (hu:A.units+8 < uY) (ho:s.heap.get? d=some { cls:=.type "dict",data:=.dict (CJ L) ep }) (hz:L.length<=sizeLine) (N:EsN w s.heap L.toArray ks) (x:NAt s.heap key k)
   (h1:∀ (i:Nat) (h':tL) (tk:Nat),ks[i]? = some k->(∀ b o,b≠d->s.heap.get? b=some o->h'.get? b=some o)->h'.get? d=some { cls:=.type "dict",data:=.dict (L.modify i fun e=>{ e with val:=v }).toArray ep }->Q () { s with heap:=h',toks:=tk })
   (h0:∀ (h':tL) (tk:Nat),k∉ks->(∀ b o,b≠d->s.heap.get? b=some o->h'.get? b=some o)->h'.get? d=some { cls:=.type "dict",data:=.dict (L++[BE (N7 w k) key v]).toArray (ep+1) }->Q () { s with heap:=h',toks:=tk }) :
   wpAny (sM prog w) A (dictSet d key v) Q E s:=by
 unfold dictSet;try with_reducible refine uW ?_
 refine rH (x.hash hu fun tk=>?_);unfold AK;try with_reducible refine uW ?_
 refine rH (Mh (s:={ s with toks:=tk }) hu ho rfl N x (fun i hi=>?_) fun hn=>?_)
 . refine rH (vT (rH (wpAny_updateDict (s:={ s with toks:=tk }) ho rfl (wpAny_point (h1 i _ tk hi (fun b o hb e=>?_) ?_)))))
   . exact (yR _ _ _ _ hb).trans e
   . have:=vK (Obj.mapDict fun x=>x.modify i fun e=>{ e with val:=v }) ho (yT (Obj.data_mapDict rfl _))
     rw [this]; simp [Obj.mapDict]
 . refine rH (vT (a8 (hz:=by simpa using hz) (s:={ s with toks:=tk }) ho rfl (h0 _ tk hn (fun b o hb e=>?_) ?_)))
   . exact (yR _ _ _ _ hb).trans e
   . have:=vK (xD fun x=>x.push ⟨N7 w k,key,v⟩) ho (yT (zQ rfl _))
     rw [this]; simp [xD]
end
noncomputable section
variable {X:Cx} {pins:List (rN×Obj)} {σ:St} {H:Hp} {s:rM} {a:rN} {A:tY} {E:rJ->rM->Prop}
theorem aO {kvs:List (rG×V)} {kd:rG} {y d:V} {u r:rJ} {Q:Unit->rM->Prop} (hu:A.units+8 < uY) (I:Inv X pins σ H s) (e:H a=some (.dN kvs)) (rk:KRep H kd y) (hk:nkD kd=true) (hz:kvs.length < sizeLine) (ry:RelV y u) (rd:RelV d r)
   (h:∀ s',Inv X pins σ (upd H a (.dN (O6 kvs kd d))) s'->(∀ b o,b≠a->s.heap.get? b=some o->s'.heap.get? b=some o)->Q () s'):wpAny (sM X.prog X.w) A (dictSet a u r) Q E s:=by
 obtain ⟨z,hd,nd,nk,xs,rel,ep,e1⟩:=I.hok a _ e;have hl:=Paired.len' rel;have hlen:(E1 X.w kvs xs).length<=sizeLine:=by
   unfold E1; rw [xL]; lia
 have ht:∀ b ys,H b=some (.tup ys)->(upd H a (.dN (O6 kvs kd d))) b=some (.tup ys):=fun b ys z=>by
   rw [B4 (P6 z e (fun z=>by cases z))]; exact z
 refine bI (ep:=ep) (ks:=kvs.map (·.1)) (k:=kd) hu e1 hlen (Ds I rel nk nd) (Bi I rk ry hk) (fun i h' tk hi hkeep hnew=>?_) (fun h' tk hn hkeep hnew=>?_)
 . refine h _ ?_ hkeep
   have hlt:i < kvs.length:=by have:=(rQ.mp hi).1; simpa using this
   have hp:kvs[i]? = some (kd,kvs[i].2):=by
     rw [sH hlt]; have h2:=hi; rw [sB,sH hlt] at h2; have:kvs[i].1=kd:=by simpa using h2
     rw [<- this]
   have ep':=jY (v:=d) hk nk nd hp; refine I.write (x:=a) (e:=a) (t':=tk) (by rw [e]; exact trivial) (.inl rfl) (fun b o hb q=>hkeep b o hb q) ⟨_,hnew⟩ ?_;have hkeys:(O6 kvs kd d).map (·.1)=kvs.map (·.1):=by
     rw [ep']; apply zC;intro j; rw [sB,sB,List.getElem?_modify];by_cases c:i=j
     . simp only [c,if_pos]; cases kvs[j]? <;> rfl
     . simp only [c,if_neg,if_false]; cases kvs[j]? <;> rfl
   refine ⟨sJ (Fz kvs) hz,hd,by rw [hkeys]; exact nd,fun p hp=>?_,xs.modify i (fun q=>(q.1,r)),?_,ep,?_⟩
   . have:p.1∈kvs.map (·.1):=by rw [<- hkeys]; exact uU hp
     obtain ⟨p',m,em⟩:=tE.mp this; rw [<- em]; exact nk p' m
   . rw [ep']
     exact Paired.mapP (Lw (fun p q hZ2=>by obtain ⟨⟨v,z1,z2⟩,_⟩:=hZ2; exact ⟨⟨v,z1,z2⟩,rd⟩) i rel) fun p q hZ2=>by obtain ⟨⟨v,z1,z2⟩,z3⟩:=hZ2; exact ⟨⟨v,z1.mono (ep'▸ht),z2⟩,z3⟩
   . rw [ep',<- Ud]; exact hnew
 . refine h _ ?_ hkeep
   have ep':=jX (v:=d) hk nk hn; refine I.write (x:=a) (e:=a) (t':=tk) (by rw [e]; exact trivial) (.inl rfl) (fun b o hb q=>hkeep b o hb q) ⟨_,hnew⟩ ⟨sJ (Fz kvs) hz,hd,?_,?_,xs++[(u,r)],?_,ep+1,?_⟩
   . rw [ep',sV,wO]
     refine ⟨nd,by simp,fun x hx y hy=>?_⟩;have:y=kd:=by simpa using hy
     subst this; exact fun z=>hn (z▸hx)
   . rw [ep']
     intro p hp; rcases sF.mp hp with hp | hp
     . exact nk p hp
     . rw [sO.mp hp]; exact hk
   . have:=Paired.app' (F:=PrN (upd H a (.dN (O6 kvs kd d)))) (a:=(kd,d)) (b:=(u,r)) ⟨⟨y,rk.mono ht,ry⟩,rd⟩ (Paired.mapP rel fun p q hZ2=>by obtain ⟨⟨v,z1,z2⟩,z3⟩:=hZ2; exact ⟨⟨v,z1.mono ht,z2⟩,z3⟩)
     rw [<- ep'] at this; exact this
   . rw [ep',Mj hl]; exact hnew
theorem n_put {kvs:List (rG×V)} {kd:rG} {y d:V} {u r:rJ} {Q:Unit->rM->Prop} (hu:A.units+16 < uY) (I:Inv X pins σ H s) (e:H a=some (.dN kvs)) (rk:KRep H kd y) (hk:nkD kd=true) (hz:kvs.length < sizeLine) (ry:RelV y u) (rd:RelV d r)
   (h:∀ s',Inv X pins σ (upd H a (.dN (O6 kvs kd d))) s'->Q () s'):wpAny (sM X.prog X.w) A (setItem (.ref a) u r) Q E s:=by
 obtain ⟨z,hd,nd,nk,xs,rel,ep,e1⟩:=I.hok a _ e;have hT:s.TypeIs (.ref a) "dict" := ⟨_,e1,rfl⟩;unfold setItem;try with_reducible refine uW ?_
 refine rH (j8 hT (by decide) ?_);refine rH (vD (name:=xR "__setitem__") hT F.slot_dict_setitem ?_);refine uX F.slot_dict_setitem hT F.entry_dict_setitem ?_ (F.args_dict_setitem_3 _ _ _);show wpAny _ _ (Builtin.Dict.notOrdered "__setitem__" ⟨[.ref a,u,r],[]⟩>>=_) _ _ s;refine rH (yI hT ?_);show wpAny _ _ (dictSet a u r>>=_) _ _ s;exact rH (aO (hu8 hu) I e rk hk hz ry rd fun s' I' _=>rL ⟨.none,rfl,rL (h s' I')⟩)
end
def sNPut (td ty tv:TE):TS:=fun D σ H=>tv σ H fun v H1=>td σ H1 fun x H2=>ty σ H2 fun y H3=>∃ a kvs kd,x=.ref a/\H3 a=some (.dN kvs)/\KRep H3 kd y/\nkD kd=true/\kvs.length < sizeLine/\D.nx σ (upd H3 a (.dN (O6 kvs kd v)))
theorem Yb {X:Cx} {o i value:Expr} {pos pos':Pos} {td ty tv:TE} (hu:X.A.units+16 < uY) (ho:PE X o td) (hi:PE X i ty) (hv:PE X value tv) (hs:tH value (some (.Subscript o i pos')) pos.line X.env=pure false) :
   PS X (.Assign [.Subscript o i pos'] value pos) (sNPut td ty tv):=by
 intro pins s σ H D I h;refine wpAny_Assign_Subscript (thn (hv pins s σ H _ I h) fun r s1 hY90=>?_) hs;obtain ⟨v,H1,I1,rv,q1⟩:=hY90;refine thn (ho pins s1 σ H1 _ I1 q1) fun u s2 hY91=>?_;obtain ⟨x,H2,I2,rx,q2⟩:=hY91;refine thn (hi pins s2 σ H2 _ I2 q2) fun iv s3 hY92=>?_;obtain ⟨y,H3,I3,ry,a,kvs,kd,ex,g,rk,hk,hz,q3⟩:=hY92;subst ex;obtain rfl:u=tW a:=rx;exact n_put hu I3 g rk hk hz ry rv fun s4 I4=>⟨σ,_,I4,q3⟩
noncomputable def Fs (i:Nat) (fk fv:Dn->Res rG):Dn->Out:=fun δ=>match δ[i]? with
 | some (.ow (.tuple [.dict kvs,.none]))=>N9 (fv δ) fun v=>N9 (fk δ) fun kd=>if nkD kd=true/\kvs.length < 100000 then .nx (δ.set i (.ow (.tuple [.dict (O6 kvs kd v),.none]))) else .no
 | _=>.no
noncomputable section
variable {P:sE} {w:sT} {K:rK} {mg:Str->Option rJ} {base:tL} {X:Cx} {N:List Str} {sc:Scope} {k:Nat} {df:Bool} {E:EK} {p p2 pos:Pos} {a b:Expr} {f g:Dn->Res rG} {x:Str}
theorem dS (C:Cxt P w K mg base X N sc k df) (i:Nat) (h:okVar N sc i x=true) (hk:DE X E a f) (hv:DE X E b g) (hs:tH b (some (.Subscript (.Name x p) a p2)) pos.line X.env=pure false:=by rfl):DS X E (.Assign [.Subscript (.Name x p) a p2] b pos) (Fs i f g):=fun G0 H0=>by
 refine PS.imp (Yb (by have:=C.hu; lia) (okVar.pe C h) hk hv hs) fun D σ H hY93=>?_;obtain ⟨G,δ,S,aft⟩:=hY93;unfold Fs at aft;split at aft
 . rename_i kvs hi
   refine Mv S aft fun v x1 G1 H1 g1 r1 S1 a1=>?_;obtain ⟨q,hσ,hg,ho⟩:=S1.sr.own hi; refine ⟨.ref q,hσ,?_⟩; refine Mv S1 a1 fun kd x2 G2 H2 g2 r2 S2 a2=>?_;obtain ⟨q',hσ',hg',ho'⟩:=S2.sr.own hi; rw [hσ] at hσ'; cases hσ'; obtain ⟨kk,hx,hkeys,hvals⟩:=(show OwnK G2 H2 q [.dict kvs,.none] from ho');split at a2
   . rename_i hc
     have hl:kk.length=kvs.length:=by
       have:=congrArg yZ hkeys;simpa using this.symm
     have hlen:kk.length < sizeLine:=by
       rw [hl]; exact sP hc.2 (by decide)
     refine ⟨q,kk,kd,rfl,hx,Dg S2.sr.sub hc.1 r2,hc.1,hlen,?_⟩; obtain ⟨p1,p2⟩:=Lp (k:=kd) (r1.mono g2.g) hkeys hvals; exact a2 σ G2 _ (S2.write hi (by rw [hσ]; rfl) hg' (show OwnK G2 _ q [.dict _,.none] from ⟨_,B7,p1,p2⟩))
   . exact (show False from a2).elim
 . exact (show False from aft).elim
end
noncomputable def fzN (i:Nat) (δ:Dn):Dn:=match δ[i]? with
 | some (.ow (.tuple [.dict kvs,.none]))=>δ.set i (.fd ((.dict [],.none)::kvs))
 | _=>δ
theorem SSt.fzN {G0 H0 G H:Hp} {σ:St} {δ:Dn} (S:SSt G0 H0 G H σ δ) (i:Nat):∃ G',SSt G0 H0 G' H σ (fzN i δ):=by
 unfold Sm.fzN;split
 . rename_i kvs hi
   obtain ⟨p,hp,hg,ho⟩:=S.sr.sl i _ hi; obtain ⟨kk,hx,hk,r⟩:=(show OwnK G H p [.dict kvs,.none] from ho);have h0:=S.fr i _ p hi hp; have sm:Same G (upd G p (.dN kk)):=Same.upd hg; have gh:Same (upd G p (.dN kk)) H:=fun b u e=>by
     by_cases hb:b=p
     . subst hb; rw [B7] at e; cases e; exact hx
     . rw [B4 hb] at e; exact S.sr.sub _ _ e
   have gr:Grow G0 H0 (upd G p (.dN kk)) H:=⟨S.gr.g.trans sm,S.gr.h,gh,fun b u e=>by
     by_cases hb:b=p
     . subst hb; exact .inr (.inl h0)
     . rw [B4 hb] at e; exact S.gr.fr b u e⟩
   have hil:i < δ.length:=(rQ.mp hi).1; have key:∀ (j:Nat) (d':rG),(δ.set i (.fd ((.dict [],.none)::kvs)))[j]? = some (.ow d')->δ[j]? = some (.ow d')/\j≠i:=fun j d' e=>by
     rw [D1] at e;split at e
     . cases e
     . rename_i hn
       exact ⟨e,fun z=>by subst z; exact hn ⟨rfl,hil⟩⟩
   refine ⟨_,gr,⟨gh,by simp [S.sr.len],fun j s e=>?_,fun j1 j2 a d1 d2 e1 e2 h1 h2=>S.sr.ap j1 j2 a d1 d2 (key j1 d1 e1).1 (key j2 d2 e2).1 h1 h2⟩,fun j d' a e h=>S.fr j d' a (key j d' e).1 h⟩;by_cases hj:i=j/\i < δ.length
   . rw [D1,if_pos hj] at e
     cases e; rw [<- hj.1]; exact ⟨p,kk,hp,.inl B7,hk,r.mono sm⟩
   . have e2:=e
     rw [D1,if_neg hj] at e2; have hs:=S.sr.sl j s e2;cases s with
     | un=>trivial
     | sh d=>obtain ⟨v,e1,r1⟩:=hs; exact ⟨v,e1,r1.mono sm⟩
     | fd _=>exact FdOk.mono sm hs
     | ow d2 =>
       obtain ⟨a,e1,n1,ok⟩:=hs; have hne:a≠p:=by
         rintro rfl;exact (key j d2 e).2 (S.sr.ap j i a d2 _ e2 hi e1 hp)
       exact ⟨a,e1,by rw [B4 hne]; exact n1,ok.monoG sm⟩
 . exact ⟨G,S⟩
noncomputable def nY (i:Nat) (g:Dn->Out):Dn->Out:=fun δ=>g (fzN i δ)
theorem s_fzN {X:Cx} {E:EK} {st:vN} {g1:Dn->Out} (i:Nat) (h:DS X E st g1):DS X E st (nY i g1):=fun G0 H0=>PS.imp (h G0 H0) fun D σ H hZ3=>by
 obtain ⟨G,δ,S,a⟩:=hZ3;obtain ⟨G',S'⟩:=S.fzN i;exact ⟨G',_,S',a⟩
end Sm
end
noncomputable section
namespace Sm
open PySem PySem.Spec PyProof.Rows PySem.W L2
def SlV (G:Hp) (v:V):Sl->Prop
 | .sh d=>Rep G d v
 | .fd kvs=>FdOk G (some v) kvs
 | _=>False
noncomputable def SlL (G:Hp):List Sl->List V->Prop
 | [],vs=>vs=[]
 | s::ss,vs=>∃ v r,vs=v::r/\SlV G v s/\SlL G ss r
theorem SlL.length {G:Hp}:∀ {ss:List Sl} {vs:List V},SlL G ss vs->ss.length=vs.length:=by
 intro iN; induction iN with
 | nil=>intro vs h; rw [show vs=[] from h]; rfl
 | cons _ _ ih=>intro _ h; obtain ⟨v,r,rfl,_,l⟩:=h; simp [ih l]
theorem SlL.get {G:Hp}:∀ {ss:List Sl} {vs:List V} {i:Nat} {s:Sl},SlL G ss vs->ss[i]? = some s->∃ v,vs[i]? = some v/\SlV G v s
 | [],_,i,_,_,e=>by simp at e
 | _::_,_,0,_,h,e=>by obtain ⟨v,r,rfl,q,_⟩:=h; simp at e; subst e; exact ⟨v,rfl,q⟩
 | _::_,_,i+1,_,h,e=>by obtain ⟨v,r,rfl,_,l⟩:=h; exact SlL.get (i:=i) l (by simpa using e)
noncomputable def Ev (N:List Str) (ss:List Sl):Dn:=ss++sG (N.length - ss.length) .un
theorem cT {G H:Hp} (hG:Same G H) {ss:List Sl} {vs:List V} (r:SlL G ss vs) (N:List Str):SSt G H G H (T0 N vs) (Ev N ss):=by
 have hl:=r.length;have noow:∀ (i:Nat) (d:rG),(Ev N ss)[i]? ≠ some (.ow d):=fun i d e=>by
   unfold Ev at e;by_cases hi:i < ss.length
   . rw [sI hi] at e
     obtain ⟨_,_,z⟩:=r.get e; exact z
   . rw [sK (uV.mp hi),vP] at e
     split at e <;> cases e
 refine ⟨Grow.refl hG,⟨hG,by unfold L2.T0 Ev; simp [hl],fun i s e=>?_,fun i j a d d' e _ _ _=>absurd e (noow i d)⟩,fun i d a e _=>absurd e (noow i d)⟩;unfold Ev at e;by_cases hi:i < ss.length
 . rw [sI hi] at e
   obtain ⟨v,e1,rv⟩:=r.get e; unfold L2.T0; rw [sI (by rw [rY,<- hl]; exact hi),sB,e1];cases s with
   | sh d=>exact ⟨v,rfl,rv⟩
   | fd kvs=>exact rv
   | un=>exact rv.elim
   | ow d=>exact rv.elim
 . rw [sK (uV.mp hi),vP] at e
   split at e <;> cases e
   trivial
def spSN (n:Nat) (m:List Sl->Res Kvs):Sp:=fun vs H Q _=>∃ G ss kvs,Same G H/\SlL G ss vs/\ss.length=n/\m ss=.ok kvs/\∀ p G' H',Grow G H G' H'->H p=none->G' p=none->OwnOk G' H' p (.tuple [.dict kvs,.none])->Q (.ref p) H'
structure FnSN (P:sE) (w:sT) (K:rK) (mg:Str->Option rJ) (base:tL) (x:Str) (k n:Nat) (m:List Sl->Res Kvs):Prop where
 ex:∃ f fd ps,ps.length=n/\FnOk P w K mg base CX0 k f fd ps (spSN n m)/\mg x=some (.ref f)/\tJ K (.ref f)=true/\Binds K fd ps []
noncomputable def lF (N:List Str) (g:Dn->Res Kvs):List Sl->Res Kvs:=fun ss=>g (Ev N ss)
noncomputable def Po (f:Dn->Res rG) (i:Nat) (m:List Sl->Res Kvs):Dn->Res Kvs:=fun δ=>(f δ).bind fun d=>match δ[i]? with
 | some (.fd kvs)=>m [.sh d,.fd kvs]
 | _=>.no
theorem FdOk.is {G:Hp} {o:Option V} {kvs:Kvs} (h:FdOk G o kvs):∃ a,o=some (.ref a):=by
 unfold FdOk at h;split at h
 . obtain ⟨a,kk,h1,_⟩:=h; exact ⟨a,h1⟩
 . obtain ⟨a,ob,kk,h1,_⟩:=h; exact ⟨a,h1⟩
theorem SR.fdV {G H:Hp} {σ:St} {δ:Dn} {i:Nat} {kvs:Kvs} (S:SR G H σ δ) (hi:δ[i]? = some (.fd kvs)):∃ v,σ[i]? = some (some v)/\FdOk G (some v) kvs:=by
 have h:FdOk G (σ[i]?.join) kvs:=S.sl i _ hi;obtain ⟨a,e⟩:=h.is;rw [e] at h;refine ⟨.ref a,?_,h⟩;cases z:σ[i]? with
 | none=>rw [z] at e; cases e
 | some z' =>
   rw [z] at e;cases z' with
   | none=>cases e
   | some z''=>cases e; rfl
noncomputable section
variable {P:sE} {w:sT} {K:rK} {mg:Str->Option rJ} {base:tL} {X:Cx} {N:List Str} {sc:Scope} {k:Nat} {df:Bool} {E:EK} {pos p p1:Pos} {a e:Expr} {f:Dn->Res rG} {x y:Str}
theorem fn_SN {x:Str} {st:vN} {ps:List Str} {n:Nat} {go:Dn->Res Kvs} {m:List Sl->Res Kvs} (F:Def K mg x st ps) (S:FnScope N ps (A0 st)) (hn:ps.length=n)
   (body:∀ X,Cxt P w K mg base X N (A0 st) k true->DSN X E0k (B6 st) go) (hm:m=lF N go):FnSN P w K mg base x (k+1) n m:=by
 obtain ⟨f,fd,F,hmg,hb⟩:=F.ex;refine ⟨f,fd,ps,hn,?_,hmg,F.kp,hb⟩;subst hm;refine F.ok S (fun vs H Q E h=>?_) (fun cdv A outer s H vs Q E hr h=>?_)
 . obtain ⟨G,ss,d,_,r,hl,_⟩:=h
   rw [<- r.length,hl,hn]
 . obtain ⟨G,ss,kvs,hG,r,hl,em,q⟩:=h
   refine ⟨_,body _ ⟨rfl,rfl,rfl,rfl,rfl,rfl,rfl,rfl,hr,fun _ _=>rfl,uN⟩ G H,G,_,cT hG r N,?_⟩;unfold lF at em; rw [em]; exact q
theorem AftN.grow {G H G' H':Hp} {r:Res Kvs} {Q:VK} (g:Grow G H G' H') (a:AftN E G H r Q):AftN E G' H' r Q:=by
 cases r with
 | ok kvs=>exact fun p G2 H2 g2 hp hp' ho=>a p G2 H2 (g.trans g2) (g.h.free hp) hp' ho
 | exc c=>exact fun G2 H2 g2=>a G2 H2 (g.trans g2)
 | no=>exact a
theorem rC {G H:Hp} {σ:St} {δ:Dn} {k:rG->Res Kvs} {Q R:VK} (S:SR G H σ δ) (a:AftN E G H ((f δ).bind k) Q)
   (h:∀ d v G1 H1,Grow G H G1 H1->Rep G1 d v->SR G1 H1 σ δ->AftN E G1 H1 (k d) Q->R v H1):tD E f σ H R:=by
 refine ⟨G,δ,S,?_⟩;cases e:f δ with
 | ok d=>rw [e] at a; exact fun v G' H' g r=>h d v G' H' g r (S.grow g) (a.grow g)
 | exc c=>rw [e] at a; exact a
 | no=>rw [e] at a; exact a
theorem fJ {j:Nat} {m:List Sl->Res Kvs} (C:Cxt P w K mg base X N sc k df) (F:FnSN P w K mg base y j 2 m) (hj:j<=k) (h:okGl sc y=true) (ha:DE X E0k e f) (i:Nat) (hv:okVar N sc i x=true)
   (he:rP [e,.Name x p1] X.env=(false,eval e X.env)::rP [.Name x p1] X.env:=by rfl) (he2:rP [.Name x p1] X.env=(false,eval (.Name x p1) X.env)::rP [] X.env:=by rfl) (hpl:(tR pos (rP [.Name x p1] X.env)).any (·.1)=false:=by rfl) :
   DN X E0k (.Call (.Name y p) [e,.Name x p1] [] pos) (Po f i m):=by
 obtain ⟨fa,fd,ps,hps,F,hm,hk,hb⟩:=F.ex;obtain ⟨h1,h2,h3⟩:=okGl.gl C h;have F':FnOk X.prog X.w X.K X.mg X.base CX0 j fa fd ps (spSN 2 m):=by rw [C.hP,C.hw,C.hK,C.hmg,C.hb]; exact F
 refine PE.imp (Jf F' (C.room.mono hj) h1 (by rw [C.hmg]; exact hm) (by rw [C.hK]; exact hk) (by rw [C.hK]; exact hb) .nil (Em (X:=X)) (C8 ha (C8 (okVar.pe C hv) F7 he2) he) h2 he hpl) fun σ H Q hh=>?_;obtain ⟨G,δ,S,aft⟩:=hh;refine rC S aft fun d v G1 H1 g1 r1 S1 a1=>?_;split at a1
 . rename_i kvs hi
   obtain ⟨u,hσ,fo⟩:=S1.fdV hi; refine ⟨u,hσ,?_⟩;cases em:m [.sh d,.fd kvs] with
   | ok r=>rw [em] at a1; exact ⟨G1,[.sh d,.fd kvs],r,S1.sub,⟨v,_,rfl,r1,u,_,rfl,fo,rfl⟩,rfl,em,a1⟩
   | exc c=>rw [em] at a1; exact (a1 G1 H1 (Grow.refl S1.sub)).elim
   | no=>rw [em] at a1; exact a1.elim
 . exact (show False from a1).elim
end
end Sm
end
noncomputable section
namespace Sm
open PySem PySem.Spec PyProof.Rows PySem.W L2
end Sm
end
noncomputable section
namespace Sm
open PySem PySem.Spec PyProof.Rows PySem.W L2
theorem gS {P:sE} {w:sT} {H:Hp} (h:tL) (hb:wK < h.objs.size):ObjOk P w H (h.push { cls:=.type "dict",data:=.dict #[] }) h.objs.size (.dN []) :=
 ⟨uA _,beq_eq_false_iff_ne.mpr (Ne.symm (tG hb)),.nil,(fun _ h=>nomatch h),[],.nil,0,sL _ rfl⟩
end Sm
end
noncomputable section
namespace Sm
open PySem PySem.Spec PySem.W PyProof.Rows L2
end Sm
end
noncomputable section
namespace Sm
open PySem PySem.Spec PySem.W PyProof.Rows L2
end Sm
end
noncomputable section
namespace Sm
open PySem PySem.Spec PyProof.Rows PySem.W L2
noncomputable section
variable {prog:sE} {w:sT} {A:tY} {E:rJ->rM->Prop} {s:rM}
theorem Uz (hh:A.handled=none) (I d:rN) (hne:d≠I) (od:Obj) (es:Array tV) (ep:Nat) (hdd:od.data=.dict es ep) :
   Walks prog w A I [I,d] [I] es.size (fun i v=>∃ e,es[i]? = some e/\v=e.key) (fun i h=>h.IsKeyIter I d i es.size ep/\h.get? d=some od) where
 sub:=fun b hb=>by simp at hb; simp [hb]
 frame:=fun _ _ _ st hk=>⟨st.1.at fun o e=>hk I (by simp) o e,hk d (by simp) _ st.2⟩
 item:=fun i s Q E hi st hQ=>by
   refine fH st.1 st.2 hdd hi fun h' n hs=>?_;exact hQ _ h' s.toks ⟨es[i],by simp [hi],rfl⟩ ⟨n,hs.extBut d _ hne st.2⟩ fun b o hb e=>hs.extBut b o (fun z=>hb (by simp [z])) e
 done:=fun s Q E st hQ=>lJ hh (sC _) st.1 st.2 hdd fun h' he=>hQ h' s.toks fun b o hb e=>he b o (fun z=>hb (by simp [z])) e
 self:=fun _ _ _ _ st hQ=>wpAny_pyIter_keyiter st.1 hQ
theorem Zu {d:rN} {od:Obj} {es:Array tV} {ep:Nat} (lo:(d==wK)=false) (hcl:od.cls=.type "dict") (hdd:od.data=.dict es ep) :
   KdlSrc prog w "dict" d d es.size (fun i v=>∃ e,es[i]? = some e/\v=e.key) (fun h=>h.get? d=some od) where
 type:=fun _ hm=>⟨od,hm,hcl⟩
 there:=fun _ hm=>⟨sN hm,sN hm⟩
 keep:=fun _ _ hm hk=>hk d (.inr rfl) _ hm
 notList:=by decide
 notTuple:=by decide
 hint:=fun _ _ _ _ hm hq=>kdl_hint_dict ⟨od,hm,hcl⟩ hq
 iter:=fun _ _ hh hm=>⟨_,_,(fun _ _ hq=>fY lo ⟨od,hm,hcl⟩ hm hdd hq),Uz hh _ d (tG (sN hm)) od es ep hdd,⟨⟨_,sL _ rfl,rfl,rfl⟩,rW _ hm⟩⟩
theorem dE {d:rN} {od:Obj} {es:Array tV} {ep:Nat} {ss:List Str} {Q:rJ->rM->Prop} (lo:(d==wK)=false) (hcl:od.cls=.type "dict") (hdd:od.data=.dict es ep) (hh:A.handled=none) (hd:s.heap.get? d=some od)
   (hS:BD (es.toList.map (·.key)) ss) (h64:es.size < 64)
   (h:∀ (h1:tL) tk (out:Array rJ) (ss':List Str),(∀ b o,s.heap.get? b=some o->h1.get? b=some o)->BD out.toList ss'->ss'.Perm ss->sortedS ss'=true ->
     Q (.ref h1.objs.size) { s with heap:=sortedHeap (h1.push (seqObj "list" (es.toList.map (·.key)).toArray 0)) h1.objs.size (es.toList.map (·.key)) out,toks:=tk }) :
   wpAny (sM prog w) A (call (.builtin "sorted") [.ref d]) Q E s:=by
 refine Calls.call_function_entry kind_sorted plain_sorted entry_sorted (args_sorted1 _) (rH (m:=checkCount "sorted" 1 1 _) (rL (rH (Re (Zu lo hcl hdd) hh hd (by rw [b9]; lia) fun h1 tk acc hk hacc=>?_))));have hacc2:acc.toList=es.toList.map (·.key):=by
   apply zC;intro j;by_cases hj:j < es.size
   . have hja:j < acc.size:=by rw [hacc.1]; exact hj
     obtain ⟨e,e1,e2⟩:=hacc.2 j acc[j] (by simp [hja]);rw [sB,xU,xU,e1,vF hja,e2]; rfl
   . rw [vJ (by simpa [hacc.1] using uV.mp hj),vJ (by simpa using uV.mp hj)]
 rw [hacc2];generalize hvs:es.toList.map (·.key)=vs at *;have hvl:vs.length=es.size:=by rw [<- hvs]; simp
 refine rH (wpAny_newList ?_ (by rw [b9]; lia));have hoL:(h1.push (seqObj "list" vs.toArray 0)).get? h1.objs.size=some (seqObj "list" vs.toArray 0):=sL _ rfl;show wpAny _ _ _ _ _ { s with heap:=h1.push (seqObj "list" vs.toArray 0),toks:=tk };refine rH (uW (uX slot_list_sort ⟨_,hoL,rfl⟩ entry_list_sort (list_sort_treeK strKind_oneLt hoL hS.keysOf (fun v₁ v₂ M9 e=>keyKind_strs (by rw [<- e]; exact hS)) (by lia) fun st' hp hs=>⟨_,rfl,?_⟩) (args_list_sort _)));obtain ⟨ss',k1,k2,k3⟩:=sorted_out_str hS hp hs;exact rL ⟨_,rfl,h h1 tk _ ss' hk k1 k2 k3⟩
end
noncomputable def ltS (a b:Str):Bool:=ltCps a.cps.toList b.cps.toList
noncomputable def aX (p:Str):List Str->List Str
 | []=>[p]
 | q::r=>if ltS q p=true then q::aX p r else p::q::r
noncomputable def Cz:List Str->List Str
 | []=>[]
 | p::r=>aX p (Cz r)
noncomputable def Q2:List rG->Option (List Str)
 | []=>some []
 | .str x::r=>(Q2 r).map (x::·)
 | _::_=>none
def leX (a b:Str):Prop:=¬ b.cps.toList < a.cps.toList
theorem mV {a b:Str}:ltS b a=false↔leX a b:=by unfold ltS leX; rw [ltCps_eq]; simp
theorem leX.trans {a b c:Str} (h1:leX a b) (h2:leX b c):leX a c:=List.le_trans (l₁:=a.cps.toList) (l₂:=b.cps.toList) (l₃:=c.cps.toList) h1 h2
theorem leX.anti {a b:Str} (h1:leX a b) (h2:leX b a):a=b:=by
 have:=List.le_antisymm (as:=a.cps.toList) (bs:=b.cps.toList) h1 h2;obtain ⟨⟨x⟩⟩:=a;obtain ⟨⟨y⟩⟩:=b;simp at this;rw [this]
theorem Om:∀ (p:Str) (l:List Str),risingS p l=true->(p::l).Pairwise leX
 | p,[],_=>j0 _ _
 | p,x::r,h=>by
   have h':(!ltCps x.cps.toList p.cps.toList&&risingS x r)=true:=h; rw [sU] at h'; have ih:=Om x r h'.2; have hx:leX p x:=mV.mp (by have:=h'.1; unfold ltS; simpa using this);refine wG.mpr ⟨fun y hy=>?_,ih⟩;rcases rT.mp hy with rfl | hy
   . exact hx
   . exact hx.trans ((wG.mp ih).1 y hy)
theorem Vj:∀ {l:List Str},sortedS l=true->l.Pairwise leX:=by
 intro iN; induction iN with
 | nil=>intro _; exact .nil
 | cons x r ih=>intro h; exact Om x r h
theorem Lo:∀ {l m:List Str},l.Perm m->l.Pairwise leX->m.Pairwise leX->l=m
 | [],m,h,_,_=>(List.Perm.nil_eq h)
 | a::l,[],h,_,_=>absurd h.length_eq (by simp)
 | a::l,b::m,h,h1,h2=>by
   rw [wG] at h1 h2; have e:a=b:=by
     rcases rT.mp (h.mem_iff.mp (vO (a:=a) (l:=l))) with e | e
     . exact e
     . rcases rT.mp (h.mem_iff.mpr (vO (a:=b) (l:=m))) with e' | e'
       . exact e'.symm
       . exact (h1.1 b e').anti (h2.1 a e)
   subst e; rw [Lo (List.Perm.cons_inv h) h1.2 h2.2]
theorem Ov (p:Str):∀ l,(aX p l).Perm (p::l):=by
 intro iN; induction iN with
 | nil=>skip; exact zS _
 | cons q r ih =>
   skip
   unfold aX;split
   . exact ((ih).cons q).trans (List.Perm.swap p q r)
   . exact zS _
theorem Z2:∀ l,(Cz l).Perm l:=by
 intro iN; induction iN with
 | nil=>skip; exact zS _
 | cons p r ih=>skip; exact (Ov p (Cz r)).trans ((ih).cons p)
theorem kZ (p:Str):∀ l,l.Pairwise leX->(aX p l).Pairwise leX:=by
 intro iN; induction iN with
 | nil=>intro _; exact j0 _ _
 | cons q r ih =>
   intro h; rw [wG] at h; unfold aX;split
   . rename_i c
     refine wG.mpr ⟨fun x hx=>?_,ih h.2⟩;rcases rT.mp ((Ov p r).mem_iff.mp hx) with rfl | hx
     . unfold ltS at c; rw [ltCps_eq] at c; exact List.lt_asymm (of_decide_eq_true c)
     . exact h.1 x hx
   . rename_i c
     have hq:leX p q:=mV.mp (by simpa using c);refine wG.mpr ⟨fun x hx=>?_,wG.mpr h⟩;rcases rT.mp hx with rfl | hx
     . exact hq
     . exact hq.trans (h.1 x hx)
theorem Sd:∀ l,(Cz l).Pairwise leX:=by
 intro iN; induction iN with
 | nil=>skip; exact .nil
 | cons p r ih=>skip; exact kZ p _ (ih)
theorem Jt:∀ {ds:List rG} {ss:List Str},Q2 ds=some ss->ds=ss.map .str:=by
 intro iN; induction iN with
 | nil=>intro ss e; cases e; rfl
 | cons d ds ih =>
   intro ss e;cases d with
   | str x =>
     obtain ⟨r,e1,e2⟩:=xP.mp (show (Q2 ds).map (x::·)=some ss from e);rw [<- e2,ih e1]; rfl
   | _=>cases e
noncomputable section
variable {X:Cx}
def oE (xs:List V) (H:Hp) (Q:VK):Prop:=∃ d,∃ kk:List (rG×V),∃ ss:List Str,xs=[.ref d]/\Rd H d (.dN kk)/\kk.map (·.1)=ss.map .str/\ss.length < 64 /\
 ∀ l,H l=none->Q (.ref l) (upd H l (.lst ((Cz ss).map .str)))
theorem Fi {w:sT} {H:Hp}:∀ {kk:List (rG×V)} {xs:List (rJ×rJ)} {ss:List Str},uL (fun (p:rG×V) (q:rJ×rJ)=>(∃ v,KRep H p.1 v/\RelV v q.1)/\RelV p.2 q.2) kk xs->kk.map (·.1)=ss.map uT->BD ((E1 w kk xs).map (·.key)) ss
 | _,_,[],r,e=>by
   cases r with
   | nil=>exact .nil
   | cons _ _=>cases e
 | _,_,x::ss,r,e=>by
   cases r with
   | nil=>cases e
   | @cons p q kk xs h r =>
     injection e with e1 e2
     obtain ⟨⟨v,h1,h2⟩,_⟩:=h; rw [show p.1=uT x from e1] at h1; obtain ⟨rfl,_⟩:=h1; obtain ⟨t,ht⟩:=h2; show BD (q.1::(E1 w kk xs).map (·.key)) (x::ss);rw [ht]; exact .cons x t (Fi r e2)
theorem Jp:∀ {vs:List rJ} {ss:List Str},BD vs ss->Vals (ss.map V.str) vs
 | _,_,.nil=>.nil
 | _,_,.cons x t h=>.cons ⟨t,rfl⟩ (Jp h)
theorem Xb (hh:X.A.handled=none):Au X (.builtin "sorted") oE:=by
 rintro pins s σ H xs us Q I r ⟨d,kk,ss,hx,hd,hkk,h64,q⟩;subst hx;obtain ⟨u,rfl,ru⟩:=Vals.one r;cases (show u=tW d from ru);obtain ⟨z,lo,nd,nk,ys,rel,ep,ho⟩:=hd.ok I.hok;have hS:=Fi (w:=X.w) rel hkk;have hlen:(E1 X.w kk ys).length=ss.length:=by
   have:=hS.strs; rw [<- this]; simp
 refine dE (ss:=ss) lo rfl rfl hh ho hS (by rw [rX]; exact c9 (CV hlen) h64) fun h1 tk out ss' hk k1 k2 k3=>?_;have hsrt:ss'=Cz ss:=Lo (k2.trans (Z2 ss).symm) (Vj k3) (Sd ss);subst hsrt;have I1:Inv X pins σ H { s with heap:=h1,toks:=tk }:=I.kept (t':=tk) hk;have ho1:(h1.push (seqObj "list" ((E1 X.w kk ys).toArray.toList.map (·.key)).toArray 0)).get? h1.objs.size=some (seqObj "list" ((E1 X.w kk ys).toArray.toList.map (·.key)).toArray 0):=sL _ rfl;obtain ⟨ee,hat⟩:=sortedHeap_at (out:=out) ho1;have hfr:H h1.objs.size=none:=I1.hok.fresh (sC _)
 refine ⟨.ref h1.objs.size,_,I1.laid (o:=.lst ((Cz ss).map .str)) (t':=tk) (fun b o e=>?_) (sC _) ⟨?_,out.toList,ee,Jp k1,hat⟩,rfl,q _ hfr⟩
 . have hlt:b < h1.objs.size:=sN e
   rw [sortedHeap_old (tG hlt) (by rw [size_push']; exact Nat.lt_succ_of_lt hlt)];exact rW _ e
 . rw [rY,(Z2 ss).length_eq,b9]; lia
end
noncomputable section
variable {x:Str}
theorem Vx {G:Hp}:∀ (ss:List Str),(∀ x∈ss,sW x=true/\x.length<=sizeLine)->RepL G (ss.map .str) (ss.map .str):=by
 intro iN; induction iN with
 | nil=>intro _; exact rfl
 | cons x ss ih=>intro h; exact RepL.cons ⟨rfl,h x (.head _)⟩ (ih fun y hy=>h y (.tail _ hy))
end
end Sm
end
noncomputable section
namespace Sm
open PySem PySem.Spec PyProof.Rows L2
end Sm
end
noncomputable section
namespace Sm
open PySem PySem.Spec PyProof.Rows L2
end Sm
end
noncomputable section
namespace Sm
open PySem PySem.Spec PyProof.Rows L2
end Sm
end
noncomputable section
namespace Sm
open PySem PySem.Spec PyProof.Rows L2
end Sm
end
noncomputable section
namespace Sm
open PySem PySem.Spec PyProof.Rows L2
end Sm
end
noncomputable section
namespace Sm
open PySem PySem.Spec PyProof.Rows L2
end Sm
namespace Sm
open PySem PySem.Spec PyProof.Rows L2
end Sm
end
noncomputable section
namespace Sm
open PySem PySem.Spec PyProof.Rows L2
end Sm
end
noncomputable section
namespace Sm
open PySem PySem.Spec PyProof.Rows L2
noncomputable section
variable {a b c d:Expr}
noncomputable def st3 (i j l:Nat):rG->Dn->Option Dn:=fun d δ=>match d with
 | .tuple [a,b,c]=>some (((δ.set i (.sh a)).set j (.sh b)).set l (.sh c))
 | _=>none
end
end Sm
end
noncomputable section
namespace Sm
open PySem PySem.Spec PyProof.Rows L2
end Sm
end
noncomputable section
namespace Sm
open PySem PySem.Spec PyProof.Rows PySem.W L2
end Sm
end
noncomputable section
namespace Sm
open PySem PySem.Spec PyProof.Rows PySem.W L2
end Sm
end
noncomputable section
namespace Sm
open PySem PySem.W PyProof.Rows
end Sm
end
noncomputable section
namespace Sm
open PySem PySem.W PyProof.Rows
end Sm
end
noncomputable section
namespace Sm
open PySem PySem.W PyProof.Rows
end Sm
end
noncomputable section
namespace Sm
open PySem PySem.W PyProof.Rows
end Sm
end
noncomputable section
namespace Sm
open PySem PySem.W PyProof.Rows
end Sm
end
noncomputable section
namespace Sm
open PySem PySem.W PyProof.Rows
end Sm
end
noncomputable section
namespace Sm
open PySem PySem.Spec PyProof.Rows PySem.W L2
theorem cP:∀ {vs:List rJ} {ss:List Str},BD vs ss->∀ (i:Nat) (v:rJ),vs[i]? = some v->∃ t,v=.str (ss.getD i default) t
 | _,_,.nil,_,_,e=>by cases e
 | _,_,.cons x t h,0,_,e=>by cases e; exact ⟨t,rfl⟩
 | _,_,.cons x t h,i+1,v,e=>cP h i v e
end Sm
end
noncomputable section
namespace Sm
open PySem PySem.Spec PyProof.Rows PySem.W L2
end Sm
end
noncomputable section
namespace Sm
open PySem PySem.Spec PyProof.Rows PySem.W L2
noncomputable section
variable {prog:sE} {w:sT} {A:tY} {E:rJ->rM->Prop} {s:rM}
theorem Wz {d:rN} {key v:rJ} {L:List tV} {ep:Nat} {ks:List rG} {k:rG} {Q:Unit->rM->Prop} (hu:A.units+8 < uY) (ho:s.heap.get? d=some { cls:=.type "dict",data:=.dict (CJ L) ep }) (hz:L.length<=sizeLine) (N:EsN w s.heap L.toArray ks) (x:NAt s.heap key k) (hn:k∉ks)
   (h0:∀ (h':tL),(∀ b o,b≠d->s.heap.get? b=some o->h'.get? b=some o)->h'.get? d=some { cls:=.type "dict",data:=.dict (L++[BE (N7 w k) key v]).toArray (ep+1) }->Q () { s with heap:=h' }) :
   wpAny (sM prog w) A (AK d key (N7 w k) v) Q E s:=by
 unfold AK;try with_reducible refine uW ?_
 refine rH (Mh hu ho rfl N x (fun i hi=>absurd (tZ hi) hn) fun _=>?_);refine rH (vT (a8 (hz:=by simpa using hz) ho rfl (h0 _ (fun b o hb e=>?_) ?_)))
 . exact (yR _ _ _ _ hb).trans e
 . have:=vK (xD fun x=>x.push ⟨N7 w k,key,v⟩) ho (yT (zQ rfl _))
   rw [this]; simp [xD]
end
noncomputable section
variable {X:Cx} {pins:List (rN×Obj)} {σ:St} {H:Hp} {s:rM} {a:rN} {A:tY} {E:rJ->rM->Prop}
theorem aP {kvs:List (rG×V)} {kd:rG} {y d:V} {u r:rJ} {Q:Unit->rM->Prop} (hu:A.units+8 < uY) (I:Inv X pins σ H s) (e:H a=some (.dN kvs)) (rk:KRep H kd y) (hk:nkD kd=true) (hz:kvs.length < sizeLine) (ry:RelV y u) (rd:RelV d r) (hn:kd∉kvs.map (·.1))
   (h:∀ s',Inv X pins σ (upd H a (.dN (kvs++[(kd,d)]))) s'->(∀ b o,b≠a->s.heap.get? b=some o->s'.heap.get? b=some o)->Q () s'):wpAny (sM X.prog X.w) A (AK a u (N7 X.w kd) r) Q E s:=by
 obtain ⟨z,hd,nd,nk,xs,rel,ep,e1⟩:=I.hok a _ e;have hl:=Paired.len' rel;have hlen:(E1 X.w kvs xs).length<=sizeLine:=by
   unfold E1; rw [xL]; lia
 have ht:∀ b ys,H b=some (.tup ys)->(upd H a (.dN (kvs++[(kd,d)]))) b=some (.tup ys):=fun b ys z=>by
   rw [B4 (P6 z e (fun z=>by cases z))]; exact z
 refine Wz (ep:=ep) (ks:=kvs.map (·.1)) (k:=kd) hu e1 hlen (Ds I rel nk nd) (Bi I rk ry hk) hn (fun h' hkeep hnew=>?_);refine h _ ?_ hkeep;refine I.write (x:=a) (e:=a) (t':=s.toks) (by rw [e]; exact trivial) (.inl rfl) (fun b o hb q=>hkeep b o hb q) ⟨_,hnew⟩ ⟨by rw [sA]; exact hz,hd,?_,?_,xs++[(u,r)],?_,ep+1,?_⟩
 . rw [sV,wO]
   refine ⟨nd,by simp,fun x hx y hy=>?_⟩;have:y=kd:=by simpa using hy
   subst this; exact fun z=>hn (z▸hx)
 . intro p hp
   rcases sF.mp hp with hp | hp
   . exact nk p hp
   . rw [sO.mp hp]; exact hk
 . exact Paired.app' (F:=PrN (upd H a (.dN (kvs++[(kd,d)])))) (a:=(kd,d)) (b:=(u,r)) ⟨⟨y,rk.mono ht,ry⟩,rd⟩ (Paired.mapP rel fun p q hZ2=>by obtain ⟨⟨v,z1,z2⟩,z3⟩:=hZ2; exact ⟨⟨v,z1.mono ht,z2⟩,z3⟩)
 . rw [Mj hl]; exact hnew
theorem pN {id:String} {o p:rN} {kk:List (rG×V)} {ss:List Str} {Q:Unit->rM->Prop} (hu:A.units+8 < uY) (I:Inv X pins σ (upd H p (.dN [])) s) (hp:H p=none) (hd:Rd H o (.dN kk)) (hs:kk.map (·.1)=ss.map uT) (hl:kk.length<=8)
   (h:∀ s',Inv X pins σ (upd H p (.dN kk)) s'->Q () s'):wpAny (sM X.prog X.w) A (AN id p o) Q E s:=by
 have hne:o≠p:=fun z=>by
   subst z; rcases hd with z | ⟨_,z⟩ <;> rw [hp] at z <;> cases z
 have hdp:∀ q,Rd (upd H p q) o (.dN kk):=fun q=>by
   rcases hd with z | ⟨u,z⟩
   . exact .inl (by rw [B4 hne]; exact z)
   . exact .inr ⟨u,by rw [B4 hne]; exact z⟩
 obtain ⟨z,lo,nd,nk,ys,rel,ep,ho⟩:=(hdp _).ok I.hok;have hlen:=Paired.len' rel;have hez:(E1 X.w kk ys).length=kk.length:=by unfold E1; rw [xL]; lia
 have hpb:(p==o)=false:=by simpa using fun e=>hne e.symm
 unfold AN e9;rw [hpb];simp only [tU,if_false];rw [lo];simp only [tU,if_false];refine rH (rL (rH (vM ho rfl ?_)));have hfew:(decide ((E1 X.w kk ys).toArray.size<=8)&&(E1 X.w kk ys).toArray.all fun e=>(keyPart e.key).isSome)=true:=by
   rw [sU]; refine ⟨decide_eq_true (by rw [rX]; lia),?_⟩;rw [List.all_toArray,wH]; intro e he; obtain ⟨i,hi,rfl⟩:=List.getElem_of_mem he; have hS:=Fi (w:=X.w) rel hs; obtain ⟨t,et⟩:=cP hS i (E1 X.w kk ys)[i].key (by rw [sB,sH hi]; rfl);rw [et]; rfl
 rw [hfew];simp only [zK,tU,if_false];refine rH (uE ho rfl ?_);refine rH (vM ho rfl ?_);refine rH ?_;rw [Std.Legacy.Range.forIn_eq_forIn_range'];simp only [Std.Legacy.Range.size,Nat.sub_zero,z8,Nat.div_one,rX,hez];refine yV _ (fun M9 _ s'=>∃ i,M9=List.range' i (kk.length - i)/\i<=kk.length/\s'.heap.get? o=s.heap.get? o/\Inv X pins σ (upd H p (.dN (kk.take i))) s') _ ?_ ?_ _ _ ⟨0,by simp,uA _,rfl,I⟩
 . rintro x M9 b s' ⟨i,hr,hi,hkp,J⟩
   have hlt:i < kk.length:=by
     rcases CT i kk.length with h | h
     . exact h
     . rw [Nat.sub_eq_zero_of_le h] at hr; simp at hr
   have e1:kk.length - i=(kk.length - (i+1))+1:=by lia
   rw [e1,List.range'_succ] at hr; cases hr; have ho':=hkp.trans ho; have hlt':x < (E1 X.w kk ys).length:=by lia
   refine rH (vM ho' rfl ?_); rw [show (E1 X.w kk ys).toArray[x]? = some (E1 X.w kk ys)[x] from by simp [hlt']];dsimp only; obtain ⟨q,r,h1,h2,⟨⟨v,h3,h4⟩,h5⟩,he⟩:=Ck rel (sH hlt'); rw [he]; have hq:kk[x]=q:=by rw [sH hlt] at h1; exact sZ h1
   have htk:kk.take (x+1)=kk.take x++[q]:=by rw [List.take_succ,sH hlt,hq]; rfl
   have hnq:q.1∉(kk.take x).map (·.1):=fun hm=>by
     rw [<- List.take_append_drop (x+1) kk,htk,sV,sV] at nd; exact (wO.mp (wO.mp nd).1).2.2 q.1 hm q.1 (.head _) rfl
   have hkr:KRep (upd H p (.dN (kk.take x))) q.1 v:=h3.mono fun b zs e=>by
     have hb:b≠p:=fun z=>by rw [z,B7] at e; cases e
     rw [B4 hb] at e ⊢;exact e
   refine rH (uW (aP hu J B7 hkr (nk q (tZ h1)) (by rw [uD]; exact sP (show _ < 10 by lia) (by decide)) h4 h5 hnq fun s2 J2 kp2=>?_));have ho2:=kp2 o _ hne ho'; refine rH (uE ho2 rfl ?_); simp only [bne_self_eq_false,tU,if_false]; rw [Xk,<- htk] at J2; exact rL ⟨x+1,rfl,hlt,ho2.trans ho.symm,J2⟩
 . rintro b s' ⟨i,hr,hi,_,J⟩
   have:i=kk.length:=by
     have:=congrArg yZ hr; simp at this; lia
   subst this; rw [List.take_length] at J; exact rL (h s' J)
theorem Xe (hu:X.A.units+64 < uY):Au X (.type "dict") (fun vs H Q=>∃ (a:rN) (kk:List (rG×V)) (ss:List Str),vs=[.ref a]/\Rd H a (.dN kk)/\kk.map (·.1)=ss.map uT/\kk.length<=8/\∀ p,H p=none->Q (.ref p) (upd H p (.dN kk))):=by
 rintro pins s σ H xs us Q I r ⟨a,kk,ss,e0,hd,hs,hl,q⟩;subst e0;cases r with
 | cons r0 rr =>
   cases rr; obtain ⟨rfl⟩:=(show _=tW a from r0);refine callType_codes (Q₁:=fun obj s₁=>obj=.ref s.heap.objs.size/\s₁={ s with heap:=s.heap.push { cls:=.type "dict",data:=.dict #[] } }) F.kt_called_dict (F.kt_typeCall_dict_1 _) F.entry_dict_init (kt_code_dict_new _ ⟨rfl,rfl⟩) ?_;rintro obj s₁ ⟨rfl,rfl⟩;have hfr:=I.hok.fresh (sC s.heap.objs.size); have I1:=I.laid (a:=s.heap.objs.size) (o:=.dN []) (h':=s.heap.push { cls:=.type "dict",data:=.dict #[] }) (t':=s.toks) (fun _ _ q=>rW _ q) (sC _) (gS s.heap I.big);have hTd:({ s with heap:=s.heap.push { cls:=.type "dict",data:=.dict #[] } }:rM).TypeIs (.ref s.heap.objs.size) "dict" := ⟨_,sL _ rfl,rfl⟩; refine ⟨hTd,F.args_dict_init_2 _ _,?_⟩; obtain ⟨_,_,_,_,ys,_,ep,ho⟩:=hd.ok I.hok; have hTa:({ s with heap:=s.heap.push { cls:=.type "dict",data:=.dict #[] } }:rM).TypeIs (.ref a) "dict" := ⟨_,rW _ ho,rfl⟩; unfold xM.«dict.__init__»
   refine rH ?_; unfold Builtin.Dict.selfAndRest; refine rH (yI hTd ?_); show wpAny _ _ (pure (s.heap.objs.size,[tW a])) _ _ _;refine rL ?_; show wpAny _ _ (AI "dict.__init__" s.heap.objs.size (.ref a) [] .none) _ _ _;unfold AI; refine rH (AZ hTa ?_); rw [if_neg (by decide)]; refine rH ?_; unfold Builtin.Dict.merge; refine rH ?_; unfold Builtin.Dict.readDirectly; refine rH (zV hTa isSubtype_dict_dict ?_); simp only [zK,tU,if_false]; refine rH (wV hTa F.slot_dict_iter.lookup (rL ?_)); simp only [beq_self_eq_true,if_true]; refine rH (rL ?_); refine pN (by show X.A.units+1+1+8 < uY; lia) I1 hfr hd hs hl fun s' J=>?_
   show wpAny _ _ (Builtin.Dict.addKeywords s.heap.objs.size []>>=_) _ _ _;refine rH (rL (rL ?_)); exact ⟨rfl,.ref s.heap.objs.size,_,J,rfl,q _ hfr⟩
theorem Wy {w:sT}:∀ (kk:List (rG×V)) (xs:List (rJ×rJ)) (i:Nat),kk.length=xs.length->(E1 w kk xs).eraseIdx i=E1 w (kk.eraseIdx i) (xs.eraseIdx i):=by
 intro iN; induction iN with
 | nil=>intro xs i h; rfl
 | cons p kk ih =>
   intro xs i h;cases xs with
   | nil=>cases h
   | cons q xs =>
     cases i with
     | zero=>rfl
     | succ i =>
       have:=ih xs i (by simpa using h);show _::(E1 w kk xs).eraseIdx i=_::E1 w (kk.eraseIdx i) (xs.eraseIdx i);rw [this]
theorem Ge {α β:Type} {F:α->β->Prop}:∀ {l:List α} {m:List β} (i:Nat),uL F l m->uL F (l.eraseIdx i) (m.eraseIdx i)
 | _,_,_,.nil=>.nil
 | _,_,0,.cons _ t=>t
 | _,_,i+1,.cons h t=>.cons h (Ge i t)
theorem n_pop {kvs:List (rG×V)} {kd:rG} {y v:V} {u:rJ} {i:Nat} {Q:rJ->rM->Prop} (hu:A.units+16 < uY) (I:Inv X pins σ H s) (e:H a=some (.dN kvs)) (rk:KRep H kd y) (hk:nkD kd=true) (ry:RelV y u) (hp:(keyPart u).isSome=true) (hi:kvs[i]? = some (kd,v))
   (h:∀ w' s',Inv X pins σ (upd H a (.dN (kvs.eraseIdx i))) s'->RelV v w'->Q w' s'):wpAny (sM X.prog X.w) A (call (.builtin "dict.pop") [.ref a,u]) Q E s:=by
 obtain ⟨z,hd,nd,nk,xs,rel,ep,e1⟩:=I.hok a _ e;have hl:=Paired.len' rel;have hT:s.TypeIs (.ref a) "dict" := ⟨_,e1,rfl⟩;have hilt:i < kvs.length:=(rQ.mp hi).1;have N:=Ds I rel nk nd;refine uX F.slot_dict_pop hT F.entry_dict_pop ?_ (F.args_dict_pop_2 _ _);unfold xM.«dict.pop»;refine rH ?_;unfold z0;refine rH (yI hT ?_);show wpAny _ _ (pure (a,u,none)) _ _ s;refine rL ?_;simp only [hp,if_true];refine rH (rL ?_);simp only [tU,if_false];refine rH ?_;unfold Builtin.Dict.takeOut
 try with_reducible refine uW ?_
 refine rH ((Bi I rk ry hk).hash (by show A.units+1+8 < uY; lia) fun tk=>?_);refine rH (Mh (s:={ s with toks:=tk }) (by show A.units+1+8 < uY; lia) e1 rfl N (Bi I rk ry hk) (fun j hj=>?_) fun hn=>absurd (tE.mpr ⟨_,tZ hi,rfl⟩) hn);have hji:j=i:=by
   have h1:(kvs.map (·.1))[i]? = some kd:=by rw [sB,hi]; rfl
   have b1:=(rQ.mp hj).1; have b2:=(rQ.mp h1).1; rw [sH b1] at hj; rw [sH b2] at h1; exact (AM nd).mp (sZ (hj.trans h1.symm))
 subst hji;have hel:j < (E1 X.w kvs xs).length:=by unfold E1; rw [xL]; lia
 obtain ⟨p,q,h1,h2,⟨_,h5⟩,he⟩:=Ck rel (sH hel);rw [hi] at h1;cases h1;refine rH (vM (s:={ s with toks:=tk }) e1 rfl ?_);rw [show (E1 X.w kvs xs).toArray[j]? = some (E1 X.w kvs xs)[j] from by simp [hel]];dsimp only;refine rH (a8 (s:={ s with toks:=tk }) e1 rfl ?_ (hz:=?_))
 . refine rL ?_
   simp only [Option.isNone_some,tU,if_false]; refine rH (wpAny_letGo ?_); rw [he]; refine rL ⟨_,rfl,h _ _ ?_ h5⟩; have hnew:=vK (xD fun x=>x.eraseIdxIfInBounds j) e1 (yT (zQ rfl _));have ht:∀ b ys,H b=some (.tup ys)->(upd H a (.dN (kvs.eraseIdx j))) b=some (.tup ys):=fun b ys z=>by
     rw [B4 (P6 z e (fun z=>by cases z))]; exact z
   refine I.write (x:=a) (e:=a) (t':=tk) (by rw [e]; exact trivial) (.inl rfl) (fun b o hb q=>(yR _ _ _ _ hb).trans q) ⟨_,hnew⟩ ⟨?_,hd,?_,?_,xs.eraseIdx j,?_,ep+1,?_⟩
   . exact sJ (List.length_eraseIdx_le _ _) z
   . exact nd.sublist ((List.eraseIdx_sublist _ _).map _)
   . exact fun p hp=>nk p (List.mem_of_mem_eraseIdx hp)
   . exact Paired.mapP (Ge j rel) fun p q hZ2=>by obtain ⟨⟨v,z1,z2⟩,z3⟩:=hZ2; exact ⟨⟨v,z1.mono ht,z2⟩,z3⟩
   . rw [hnew,<- Wy _ _ _ hl]
     simp [xD,hel]
 . have hz':(E1 X.w kvs xs).length<=sizeLine:=by unfold E1; rw [xL]; lia
   simp [hel];exact hz'
end
end Sm
end
noncomputable section
namespace Sm
open PySem PySem.Spec PyProof.Rows PySem.W L2
structure Alb where
 bk:Kvs
 st:List rG
 tk:List rG
structure AlbL where
 x:rN
 dx:rN
 db:rN
 ds:rN
 dt:rN
structure AlbAt (C:rN) (G H:Hp) (l:AlbL) (A:Alb):Prop where
 hx:H l.x=some (.ins C l.dx [("books",.ref l.db),("steps",.ref l.ds),("taken",.ref l.dt)])
 hb:∃ kk:List (rG×V),H l.db=some (.dN kk)/\A.bk.map (·.1)=kk.map (·.1)/\RepL G (A.bk.map (·.2)) (kk.map (·.2))
 hs:∃ xs,H l.ds=some (.lst xs)/\RepL G A.st xs
 ht:∃ xs,H l.dt=some (.lst xs)/\RepL G A.tk xs
 gx:G l.x=none
 gb:G l.db=none
 gs:G l.ds=none
 gt:G l.dt=none
 ne:l.ds≠l.dt
theorem Grow.out {G H G' H':Hp} (g:Grow G H G' H') {p:rN} {o:HO} (hG:G p=none) (hH:H p=some o) (hn:∀ xs,o≠.tup xs):G' p=none:=by
 cases e:G' p with
 | none=>rfl
 | some u =>
   rcases g.fr p u e with q | q | ⟨xs,q⟩
   . rw [hG] at q; cases q
   . rw [hH] at q; cases q
   . have h1:=g.gh p u e
     have h2:=g.h p o hH; rw [h1] at h2; cases h2; exact absurd q (hn xs)
theorem AlbAt.grow {C:rN} {G H G' H':Hp} {l:AlbL} {A:Alb} (g:Grow G H G' H') (a:AlbAt C G H l A):AlbAt C G' H' l A:=by
 obtain ⟨kk,b1,b2,b3⟩:=a.hb;obtain ⟨xs,s1,s2⟩:=a.hs;obtain ⟨ys,t1,t2⟩:=a.ht;exact ⟨g.h _ _ a.hx,⟨kk,g.h _ _ b1,b2,b3.mono g.g⟩,⟨xs,g.h _ _ s1,s2.mono g.g⟩,⟨ys,g.h _ _ t1,t2.mono g.g⟩,
   g.out a.gx a.hx (fun _ z=>nomatch z),g.out a.gb b1 (fun _ z=>nomatch z),g.out a.gs s1 (fun _ z=>nomatch z),g.out a.gt t1 (fun _ z=>nomatch z),a.ne⟩
end Sm
end
noncomputable section
namespace Sm
open PySem PySem.Spec PyProof.Rows PySem.W L2
noncomputable section
variable {P:sE} {w:sT} {K:rK} {mg:Str->Option rJ} {base:tL} {X:Cx} {N:List Str} {sc:Scope} {k:Nat} {df:Bool} {C:rN}
theorem Ye {f x:Str} {i:Nat} {p1 p2 p3 p4:Pos} (c:Cxt P w K mg base X N sc k df) (hi:okVar N sc i x=true) (hl:okGl sc "len" = true) (hm:mg "len" = none)
   (hb:sQ (.Name x p2) f X.env (eval (.Name x p2) X.env)=eval (.Name x p2) X.env:=by rfl)
   (he:rP [.Attribute (.Name x p2) f p3] X.env=(false,eval (.Attribute (.Name x p2) f p3) X.env)::rP [] X.env:=by rfl) (hpl:(tR p4 (rP [] X.env)).any (·.1)=false:=by rfl) :
   PE X (.Call (.Name "len" p1) [.Attribute (.Name x p2) f p3] [] p4) (fun σ H Q=>∃ a dx fs q ys,σ[i]? = some (some (.ref a))/\H a=some (.ins C dx fs)/\Cls K C/\NoAttr K C f/\fs.lookup f=some (.ref q)/\H q=some (.lst ys)/\Q (.int ys.length) H):=by
 obtain ⟨g1,g2,g3⟩:=okGl.gl c hl;refine PE.imp (Lv Rg g1 (by rw [c.hmg]; exact hm) PySem.boot_len (C8 (O0 (okVar.pe c hi) hb) F7 he) g3 g2 he hpl) fun σ H Q h=>?_;obtain ⟨a,dx,fs,q,ys,h1,h2,h3,h4,h5,h6,h7⟩:=h;rw [<- c.hK] at h3 h4;exact ⟨.ref a,h1,a,C,dx,fs,.ref q,rfl,h2,h3,h4,h5,q,ys,rfl,.inl (.inl (.inl h6)),h7⟩
theorem dU {p1 p2 p3 p4 q1 q2 q3 q4 tp rp:Pos} {x1:Nat} (c:Cxt P w K mg base X N sc k df) (hi:okVar N sc 0 "self" = true) (hl:okGl sc "len" = true) (hm:mg "len" = none) (cl:Cls K C) (n1:NoAttr K C "steps") (n2:NoAttr K C "taken")
   (b1:sQ (.Name "self" p2) "steps" X.env (eval (.Name "self" p2) X.env)=eval (.Name "self" p2) X.env:=by rfl) (b2:sQ (.Name "self" q2) "taken" X.env (eval (.Name "self" q2) X.env)=eval (.Name "self" q2) X.env:=by rfl) :
   PSs X [.Return (some (.Tuple [.Call (.Name "len" p1) [.Attribute (.Name "self" p2) "steps" p3] [] p4,.Call (.Name "len" q1) [.Attribute (.Name "self" q2) "taken" q3] [] q4] x1 tp)) rp]
     (fun D σ H=>∃ G l A,σ[0]? = some (some (.ref l.x))/\Same G H/\AlbAt C G H l A/\∀ v G' H',Grow G H G' H'->Rep G' (.tuple [.int (A.st.length:Int),.int (A.tk.length:Int)]) v->D.rt v H'):=by
 refine PSs.imp (N6 (Dk (Ls (C8 (Ye (C:=C) c hi hl hm b1) (C8 (Ye (C:=C) c hi hl hm b2) F7))))) fun D σ H h=>?_;obtain ⟨G,l,A,h1,h2,h3,h4⟩:=h;obtain ⟨xs,s1,s2⟩:=h3.hs;obtain ⟨ys,t1,t2⟩:=h3.ht;refine ⟨l.x,l.dx,_,l.ds,xs,h1,h3.hx,cl,n1,rfl,s1,l.x,l.dx,_,l.dt,ys,h1,h3.hx,cl,n2,rfl,t1,(by show 2<=sizeLine; decide),fun t ht=>?_⟩;refine h4 _ (upd G t _) _ (Grow.new h2 ht) ⟨t,_,rfl,B7,?_⟩;rw [<- s2.length,<- t2.length];exact RepL.cons rfl (RepL.cons rfl rfl)
def Ps (C : rN) : TE := fun σ H Q => ∃ G l A ss, σ[0]? = some (some (.ref l.x)) /\ Same G H /\ AlbAt C G H l A /\ Q2 (A.bk.map (·.1)) = some ss /\ ss.length < 64 /\ (ss.all fun x => sW x && decide (x.length <= 1000)) = true /\
       ∀ v G' H',Grow G H G' H'->Rep G' (.list ((Cz ss).map .str)) v->Q v H'
theorem iY {p1 p2 p3 p4 rp:Pos} (c:Cxt P w K mg base X N sc k df) (hi:okVar N sc 0 "self" = true) (hl:okGl sc "sorted" = true) (hm:mg "sorted" = none) (cl:Cls K C) (n1:NoAttr K C "books")
   (b1:sQ (.Name "self" p2) "books" X.env (eval (.Name "self" p2) X.env)=eval (.Name "self" p2) X.env:=by rfl)
   (he:rP [.Attribute (.Name "self" p2) "books" p3] X.env=(false,eval (.Attribute (.Name "self" p2) "books" p3) X.env)::rP [] X.env:=by rfl) (hpl:(tR p4 (rP [] X.env)).any (·.1)=false:=by rfl) :
   PSs X [.Return (some (.Call (.Name "sorted" p1) [.Attribute (.Name "self" p2) "books" p3] [] p4)) rp]
     (fun D σ H=>Ps C σ H D.rt):=by
 obtain ⟨g1,g2,g3⟩:=okGl.gl c hl;have pe:PE X (.Call (.Name "sorted" p1) [.Attribute (.Name "self" p2) "books" p3] [] p4) (Ps C):=by
   intro pins s σ H Q I q; refine (PE.imp (Lv (Xb (I.ok.hd c.calm)) g1 (by rw [c.hmg]; exact hm) (by decide +kernel) (C8 (O0 (okVar.pe c hi) b1) F7 he) g3 g2 he hpl) fun σ H Q h=>?_) pins s σ H Q I q;obtain ⟨G,l,A,ss,h1,h2,h3,h4,h5,h6,h7⟩:=h; obtain ⟨kk,k1,k2,k3⟩:=h3.hb; rw [<- c.hK] at cl n1; refine ⟨.ref l.x,h1,l.x,C,l.dx,_,.ref l.db,rfl,h3.hx,cl,n1,rfl,l.db,kk,ss,rfl,.inl k1,by rw [<- k2]; exact Jt h4,h5,fun t ht=>?_⟩;refine h7 _ (upd G t (.lst ((Cz ss).map .str))) _ (Grow.new h2 ht) ⟨t,_,rfl,.inl B7,Vx _ fun y hy=>?_⟩;have:=wH.mp h6 y ((Z2 ss).mem_iff.mp hy); rw [sU] at this; exact ⟨this.1,sJ (of_decide_eq_true this.2) (by decide)⟩
 exact PSs.imp (N6 (Dk pe)) fun D σ H h=>h
end
end Sm
end
noncomputable section
namespace Sm
open PySem PySem.Spec PyProof.Rows PySem.W L2
def tNPop (td ty:TE):TE:=fun σ H Q=>td σ H fun x H1=>∃ a kvs,x=.ref a/\H1 a=some (.dN kvs)/\ty σ H1 fun y H3=>∃ (kvs:List (rG×V)) (z:Str) (i:Nat) (v:V),H3 a=some (.dN kvs)/\KRep H3 (.str z) y/\kvs[i]? = some (.str z,v)/\Q v (upd H3 a (.dN (kvs.eraseIdx i)))
noncomputable section
variable {X:Cx} {o e:Expr} {apos cpos:Pos} {td ty:TE}
theorem kF (hu:X.A.units+16 < uY) (ho:PE X o td) (he:PE X e ty) (m:M1 X o "pop" apos e cpos):PE X (.Call (.Attribute o "pop" apos) [e] [] cpos) (tNPop td ty):=by
 intro pins s σ H Q I h;refine j9 m.base m.few m.line yU PySem.F.slot_dict_pop PySem.F.type_dict_pop (thn (ho pins s σ H _ I h) fun u s1 hZ2=>?_);obtain ⟨x,H1,I1,rx,a,kvs,ex,d,q1⟩:=hZ2;subst ex;obtain rfl:u=tW a:=rx;obtain ⟨_,_,_,_,_,_,ep,e1⟩:=I1.hok a _ d;refine ⟨⟨_,e1,rfl⟩,fun b q=>by cases q; exact ⟨_,e1,rfl⟩,?_⟩;rw [m.trees];refine wS rfl (yF (wY (thn (he pins s1 σ H1 _ I1 q1) fun iv s2 hY79=>?_)));obtain ⟨y,H2,I2,ry,kvs,z,i,v,g,rk,hi,q3⟩:=hY79;refine zB ?_;have hp:(keyPart iv).isSome=true:=by
   obtain ⟨rfl,_⟩:=rk; obtain ⟨t,rfl⟩:=ry; rfl
 exact n_pop hu I2 g rk rfl ry hp hi fun w' s4 I4 rw'=>⟨_,_,I4,rw',q3⟩
end
theorem AlbAt.setB {C:rN} {G H:Hp} {l:AlbL} {A:Alb} (a:AlbAt C G H l A) {kk:List (rG×V)} {bk:Kvs} (h1:bk.map (·.1)=kk.map (·.1)) (h2:RepL G (bk.map (·.2)) (kk.map (·.2))):AlbAt C G (upd H l.db (.dN kk)) l { A with bk:=bk }:=by
 obtain ⟨kk0,b1,_,_⟩:=a.hb;obtain ⟨xs,s1,s2⟩:=a.hs;obtain ⟨ys,t1,t2⟩:=a.ht;refine ⟨?_,⟨kk,B7,h1,h2⟩,⟨xs,?_,s2⟩,⟨ys,?_,t2⟩,a.gx,a.gb,a.gs,a.gt,a.ne⟩
 . rw [B4 (P6 a.hx b1 (fun z=>nomatch z))]; exact a.hx
 . rw [B4 (P6 s1 b1 (fun z=>nomatch z))]; exact s1
 . rw [B4 (P6 t1 b1 (fun z=>nomatch z))]; exact t1
theorem AlbAt.same {C:rN} {G H:Hp} {l:AlbL} {A:Alb} (a:AlbAt C G H l A) (hG:Same G H) (kk:List (rG×V)):Same G (upd H l.db (.dN kk)):=fun b o e=>by
 rw [B4 (fun z=>by rw [z,a.gb] at e; cases e)]; exact hG b o e
theorem Lm {G:Hp}:∀ {ds:List rG} {vs:List V} (i:Nat),RepL G ds vs->RepL G (ds.eraseIdx i) (vs.eraseIdx i)
 | [],_,i,r=>by cases (show _=_ from r); exact rfl
 | d::ds,_,0,r=>by obtain ⟨v,t,rfl,_,l⟩:=r; exact l
 | d::ds,_,i+1,r=>by obtain ⟨v,t,rfl,h,l⟩:=r; exact ⟨v,_,rfl,h,Lm i l⟩
theorem Bs {α β:Type} (f:α->β):∀ (l:List α) (i:Nat),(l.eraseIdx i).map f=(l.map f).eraseIdx i
 | [],_=>rfl
 | _::_,0=>rfl
 | a::l,i+1=>by show f a::(l.eraseIdx i).map f=f a::(l.map f).eraseIdx i; rw [Bs f l i]
noncomputable section
variable {P:sE} {w:sT} {K:rK} {mg:Str->Option rJ} {base:tL} {X:Cx} {N:List Str} {sc:Scope} {k:Nat} {df:Bool} {C:rN}
noncomputable def Ql (bk:Kvs) (n:Str) (b:rG) (i:Nat):Kvs:=if Ci b=true then bk.eraseIdx i else O6 bk (.str n) b
def nK (C:rN):TS:=fun D σ H=>∃ G l A n b v1 v2 i,σ=[some (.ref l.x),some v1,some v2]/\Same G H/\AlbAt C G H l A/\Rep G (.str n) v1/\Rep G b v2/\A.bk.length < 1000/\(Ci b=true->∃ d,A.bk[i]? = some (.str n,d)) /\
 ∀ G' H1 H',Grow G H G' H1->(∀ q,q≠l.db->H' q=H1 q)->Same G' H'->AlbAt C G' H' l { A with bk:=Ql A.bk n b i }->D.nx σ H'
theorem dX {p1 p2 p3 p4 p5 p6 p7 p8 q1 q2 q3 q4 q5 q6 q7 q8:Pos} {j:Nat} (c:Cxt P w K mg base X N sc k df) (h0:okVar N sc 0 "self" = true) (h1:okVar N sc 1 "name" = true) (h2:okVar N sc 2 "book" = true) (cl:Cls K C) (n1:NoAttr K C "books")
   (b1:sQ (.Name "self" p4) "books" X.env (eval (.Name "self" p4) X.env)=eval (.Name "self" p4) X.env:=by rfl) (b2:sQ (.Name "self" q1) "books" X.env (eval (.Name "self" q1) X.env)=eval (.Name "self" q1) X.env:=by rfl)
   (m:M1 X (.Attribute (.Name "self" p4) "books" p5) "pop" p6 (.Name "name" p7) p8:=by exact ⟨rfl,rfl,rfl,rfl⟩) (sw1:tH (.Call (.Attribute (.Attribute (.Name "self" p4) "books" p5) "pop" p6) [.Name "name" p7] [] p8) none q6.line X.env=pure false:=by rfl)
   (sw2:tH (.Name "book" q4) (some (.Subscript (.Attribute (.Name "self" q1) "books" q2) (.Name "name" q3) q5)) p3.line X.env=pure false:=by rfl) :
   PS X (.If (.Compare (.Name "book" p1) [.Is] [.Constant .none j p2] q7) [.Expr (.Call (.Attribute (.Attribute (.Name "self" p4) "books" p5) "pop" p6) [.Name "name" p7] [] p8) q6] [.Assign [.Subscript (.Attribute (.Name "self" q1) "books" q2) (.Name "name" q3) q5] (.Name "book" q4) p3] q8) (nK C):=by
 have hu:X.A.units+16 < uY:=by have:=c.hu; lia
 refine PS.imp (Tb (t_isN (E:=E0k) (A9 c 2 h2)) (N6 (W7 (kF hu (O0 (okVar.pe c h0) b1) (okVar.pe c h1) m) sw1)) (N6 (Yb hu (O0 (okVar.pe c h0) b2) (okVar.pe c h1) (okVar.pe c h2) sw2))) fun D σ H h=>?_;obtain ⟨G,l,A,n,b,v1,v2,i,rfl,hG,a,r1,r2,hl,hi,q⟩:=h;rw [<- c.hK] at cl n1;refine ⟨G,[.un,.sh (.str n),.sh b],⟨hG,rfl,fun i s e=>?_,fun i j a d e h=>?_⟩,?_⟩
 . match i with
   | 0=>cases e; exact trivial
   | 1=>cases e; exact ⟨v1,rfl,r1⟩
   | 2=>cases e; exact ⟨v2,rfl,r2⟩
   | i+3=>cases e
 . match i with
   | 0=>cases h
   | 1=>cases h
   | 2=>cases h
   | i+3=>cases h
 show ∀ G' H',Grow G H G' H'->if Ci b=true then _ else _;intro G' H1 g;have a1:=a.grow g;obtain ⟨kk,k1,k2,k3⟩:=a1.hb;have hlk:kk.length=A.bk.length:=by have:=congrArg yZ k2; simpa using this.symm
 have kr:KRep H1 (.str n) v1:=Dg g.gh rfl (r1.mono g.g);cases hb:Ci b with
 | true =>
   rw [if_pos rfl]; obtain ⟨d,hd⟩:=hi hb; have hik:∃ v,kk[i]? = some (.str n,v):=by
     have:(kk.map (·.1))[i]? = some (.str n):=by rw [<- k2,sB,hd]; rfl
     rw [sB] at this;cases e:kk[i]? with
     | none=>rw [e] at this; cases this
     | some z=>rw [e] at this; obtain ⟨z1,z2⟩:=z; cases sZ this; exact ⟨z2,rfl⟩
   obtain ⟨v,hv⟩:=hik; refine ⟨.ref l.x,rfl,l.x,C,l.dx,_,.ref l.db,rfl,a1.hx,cl,n1,rfl,l.db,kk,rfl,k1,v1,rfl,kk,n,i,v,k1,kr,hv,?_⟩; refine q G' H1 _ g (fun z hz=>B4 hz) (a1.same g.gh _) ?_;have:Ql A.bk n b i=A.bk.eraseIdx i:=by unfold Ql; rw [hb,if_pos rfl]
   rw [this]; exact a1.setB (by rw [Bs,Bs,k2]) (by rw [Bs,Bs]; exact Lm i k3)
 | false =>
   rw [if_neg (by decide)]; refine ⟨v2,rfl,.ref l.x,rfl,l.x,C,l.dx,_,.ref l.db,rfl,a1.hx,cl,n1,rfl,v1,rfl,l.db,kk,.str n,rfl,k1,kr,rfl,sP (show kk.length < 1000 by lia) (by decide),?_⟩;refine q G' H1 _ g (fun z hz=>B4 hz) (a1.same g.gh _) ?_;have:Ql A.bk n b i=O6 A.bk (.str n) b:=by unfold Ql; rw [hb,if_neg (by decide)]
   rw [this]; obtain ⟨z1,z2⟩:=Lp (k:=.str n) (r2.mono g.g) k2 k3; exact a1.setB z1 z2
end
end Sm
end
noncomputable section
namespace Sm
open PySem PySem.Spec PyProof.Rows PySem.W L2
theorem AlbAt.setS {C:rN} {G H:Hp} {l:AlbL} {A:Alb} (a:AlbAt C G H l A) {xs:List V} {st:List rG} (h:RepL G st xs):AlbAt C G (upd H l.ds (.lst xs)) l { A with st:=st }:=by
 obtain ⟨kk,b1,b2,b3⟩:=a.hb;obtain ⟨xs0,s1,_⟩:=a.hs;obtain ⟨ys,t1,t2⟩:=a.ht;refine ⟨?_,⟨kk,?_,b2,b3⟩,⟨xs,B7,h⟩,⟨ys,?_,t2⟩,a.gx,a.gb,a.gs,a.gt,a.ne⟩
 . rw [B4 (P6 a.hx s1 (fun z=>nomatch z))]; exact a.hx
 . rw [B4 (P6 b1 s1 (fun z=>nomatch z))]; exact b1
 . rw [B4 a.ne.symm]; exact t1
theorem AlbAt.setT {C:rN} {G H:Hp} {l:AlbL} {A:Alb} (a:AlbAt C G H l A) {xs:List V} {tk:List rG} (h:RepL G tk xs):AlbAt C G (upd H l.dt (.lst xs)) l { A with tk:=tk }:=by
 obtain ⟨kk,b1,b2,b3⟩:=a.hb;obtain ⟨xs0,s1,s2⟩:=a.hs;obtain ⟨ys,t1,_⟩:=a.ht;refine ⟨?_,⟨kk,?_,b2,b3⟩,⟨xs0,?_,s2⟩,⟨xs,B7,h⟩,a.gx,a.gb,a.gs,a.gt,a.ne⟩
 . rw [B4 (P6 a.hx t1 (fun z=>nomatch z))]; exact a.hx
 . rw [B4 (P6 b1 t1 (fun z=>nomatch z))]; exact b1
 . rw [B4 a.ne]; exact s1
theorem AlbAt.newT {C:rN} {G H:Hp} {l:AlbL} {A:Alb} (a:AlbAt C G H l A) {t:rN} (ht:H t=none) (hG:Same G H):AlbAt C G (upd (upd H t (.lst [])) l.x (.ins C l.dx [("books",.ref l.db),("steps",.ref l.ds),("taken",.ref t)])) { l with dt:=t } { A with tk:=[] }:=by
 obtain ⟨kk,b1,b2,b3⟩:=a.hb;obtain ⟨xs,s1,s2⟩:=a.hs;have hGt:G t=none:=by
   cases e:G t with
   | none=>rfl
   | some o=>rw [hG t o e] at ht; cases ht
 have n0:t≠l.x:=fun z=>by rw [z,a.hx] at ht; cases ht
 refine ⟨B7,⟨kk,?_,b2,b3⟩,⟨xs,?_,s2⟩,⟨[],?_,rfl⟩,a.gx,a.gb,a.gs,hGt,?_⟩
 . rw [B4 (P6 b1 a.hx (fun z=>nomatch z)),B4 (C0 b1 ht)]; exact b1
 . rw [B4 (P6 s1 a.hx (fun z=>nomatch z)),B4 (C0 s1 ht)]; exact s1
 . rw [B4 n0]; exact B7
 . exact C0 s1 ht
end Sm
end
noncomputable section
namespace Sm
open PySem PySem.Spec PyProof.Rows PySem.W L2
end Sm
end
noncomputable section
namespace Sm
open PySem PySem.Spec PyProof.Rows PySem.W L2
end Sm
end
noncomputable section
namespace Sm
end Sm
end
noncomputable section
namespace Sm
open PySem PySem.W PyProof.Rows
end Sm
end
noncomputable section
namespace Sm
open PySem PySem.W PyProof.Rows
end Sm
end
noncomputable section
namespace Sm
open PySem PySem.W PyProof.Rows
end Sm
end
noncomputable section
namespace Sm
open PySem PySem.Spec PyProof.Rows PySem.W L2
end Sm
end
noncomputable section
namespace Sm
open PySem PySem.Spec PyProof.Rows PySem.W L2
noncomputable section
variable {X:Cx} {pins:List (rN×Obj)} {σ:St} {H:Hp} {s:rM} {A:tY} {E:rJ->rM->Prop} {a:rN}
theorem Tm {prog:sE} {w:sT} (d:rN) (key:rJ) (hd:(d==wK)=false):MeetsIn prog w (xM.«dict.get» ⟨[.ref d,key],[]⟩) (fun A R s=>∃ (o:Obj) (es:Array tV) (ep:Nat) (ks:List rG) (k:rG),A.units+16 < uY/\s.heap.get? d=some o/\o.data=.dict es ep/\EsN w s.heap es ks/\NAt s.heap key k /\
   (∀ (i:Nat) (e:tV) tk,ks[i]? = some k->es[i]? = some e->R (.ok (.ret e.val)) { s with toks:=tk })/\∀ tk,k∉ks->R (.ok (.ret .none)) { s with toks:=tk }) :=
 .of_wp fun A R s hZ3=>by
   obtain ⟨o,es,ep,ks,k,hu,ho,hD,N,x,h1,h0⟩:=hZ3; show wpAny _ _ (CH d key>>=_) _ _ s;refine rH (Ea (hu8 hu) ho hD N x (fun i e tk hi he=>rL ⟨_,rfl,h1 i e tk hi he⟩) fun tk hn=>?_);show wpAny _ _ (BG d key>>=_) _ _ _;exact rH (wpAny_missed_other hd (rL ⟨.none,rfl,h0 tk hn⟩))
theorem pM {kvs:List (rG×V)} {kd:rG} {y:V} {u:rJ} {Q:rJ->rM->Prop} (hu:A.units+16 < uY) (I:Inv X pins σ H s) (e:Rd H a (.dN kvs)) (rk:KRep H kd y) (hk:nkD kd=true) (ry:RelV y u)
   (h:∀ w' s',Inv X pins σ H s'->RelV ((K7 kvs kd).getD .non) w'->Q w' s'):wpAny (sM X.prog X.w) A (call (.builtin "dict.get") [.ref a,u]) Q E s:=by
 obtain ⟨z,hd,nd,nk,xs,rel,ep,e1⟩:=e.ok I.hok;refine u9 F.slot_dict_get ⟨_,e1,rfl⟩ F.entry_dict_get (F.args_dict_get_2 _ _) (Tm a u hd) ⟨_,_,ep,kvs.map (·.1),kd,hu,e1,rfl,Ds I rel nk nd,Bi I rk ry hk,fun i e tk hi he=>h _ _ (I.tok _) ?_,fun tk hn=>h _ _ (I.tok _) ?_⟩
 . obtain ⟨p,q,h1,h2,⟨_,h5⟩,rfl⟩:=Ck rel (by simpa using he)
   rw [sB,h1] at hi; have hp:p=(kd,p.2):=by
     have:p.1=kd:=by simpa using hi
     rw [<- this]
   rw [hp] at h1; rw [Bu hk nk nd h1]; exact h5
 . rw [Dq hk nk hn]
   exact rfl
end
def nP (td ty:TE):TE:=fun σ H Q=>td σ H fun x H1=>∃ a kvs,x=.ref a/\Rd H1 a (.dN kvs)/\ty σ H1 fun y H3=>∃ kvs kd,Rd H3 a (.dN kvs)/\KRep H3 kd y/\nkD kd=true/\Q ((K7 kvs kd).getD .non) H3
noncomputable section
variable {X:Cx} {o e:Expr} {apos cpos:Pos} {td ty:TE}
theorem eV (hu:X.A.units+16 < uY) (ho:PE X o td) (he:PE X e ty) (m:M1 X o "get" apos e cpos):PE X (.Call (.Attribute o "get" apos) [e] [] cpos) (nP td ty):=by
 intro pins s σ H Q I h;refine j9 m.base m.few m.line yU BW BV (thn (ho pins s σ H _ I h) fun u s1 hZ2=>?_);obtain ⟨x,H1,I1,rx,a,kvs,ex,d,q1⟩:=hZ2;subst ex;obtain rfl:u=tW a:=rx;obtain ⟨_,_,_,_,_,_,ep,e1⟩:=d.ok I1.hok;refine ⟨⟨_,e1,rfl⟩,fun b q=>by cases q; exact ⟨_,e1,rfl⟩,?_⟩;rw [m.trees];refine wS rfl (yF (wY (thn (he pins s1 σ H1 _ I1 q1) fun iv s2 hY79=>?_)));obtain ⟨y,H2,I2,ry,kvs,kd,g,rk,hk,q3⟩:=hY79;refine zB ?_;exact pM hu I2 g rk hk ry fun w' s4 I4 rw'=>⟨_,H2,I4,rw',q3⟩
end
end Sm
end
noncomputable section
namespace Sm
open PySem PySem.Spec PyProof.Rows PySem.W L2
end Sm
end
noncomputable section
namespace Sm
open PySem PySem.Spec PyProof.Rows PySem.W L2
noncomputable def AlbL.parts (l:AlbL):List rN:=[l.x,l.db,l.ds,l.dt]
structure GrowP (P:rN->Prop) (G H G' H':Hp):Prop where
 g:Same G G'
 h:∀ b o,H b=some o->¬ P b->H' b=some o
 gh:Same G' H'
 fr:∀ b o,G' b=some o->G b=some o\/H b=none\/∃ xs,o=HO.tup xs
 nn:∀ b,H' b=none->H b=none
theorem Grow.P {P:rN->Prop} {G H G' H':Hp} (g:Grow G H G' H'):GrowP P G H G' H':=⟨g.g,fun b o e _=>g.h b o e,g.gh,g.fr,fun b e=>g.h.free e⟩
theorem GrowP.trans {P P1:rN->Prop} {G0 H0 G H G' H':Hp} (a:GrowP P G0 H0 G H) (b:GrowP P1 G H G' H') (hp:∀ b,P1 b->P b\/H0 b=none):GrowP P G0 H0 G' H':=by
 refine ⟨a.g.trans b.g,fun c o e n=>b.h c o (a.h c o e n) fun q=>?_,b.gh,fun c o e=>?_,fun c e=>a.nn c (b.nn c e)⟩
 . rcases hp c q with z | z
   . exact n z
   . rw [z] at e; cases e
 . rcases b.fr c o e with q | q | q
   . exact a.fr c o q
   . exact .inr (.inl (a.nn c q))
   . exact .inr (.inr q)
theorem GrowP.out {P:rN->Prop} {G H G' H':Hp} (g:GrowP P G H G' H') {p:rN} {o:HO} (hG:G p=none) (hH:H p=some o) (hP:¬ P p) (hn:∀ xs,o≠.tup xs):G' p=none:=by
 cases e:G' p with
 | none=>rfl
 | some u =>
   rcases g.fr p u e with q | q | ⟨xs,q⟩
   . rw [hG] at q; cases q
   . rw [hH] at q; cases q
   . have h1:=g.gh p u e
     rw [g.h p o hH hP] at h1; cases h1; exact absurd q (hn xs)
noncomputable section
variable {C:rN} {G H G' H':Hp} {l:AlbL} {A:Alb} {P:rN->Prop} {σ:St} {δ:Dn}
theorem AlbAt.there (a:AlbAt C G H l A) {b:rN} (hb:b∈l.parts):G b=none/\∃ o,H b=some o/\∀ xs,o≠.tup xs:=by
 obtain ⟨kk,b1,_,_⟩:=a.hb;obtain ⟨xs,s1,_⟩:=a.hs;obtain ⟨ys,t1,_⟩:=a.ht;unfold AlbL.parts at hb;rcases rT.mp hb with rfl | hb
 . exact ⟨a.gx,_,a.hx,fun _ z=>nomatch z⟩
 rcases rT.mp hb with rfl | hb
 . exact ⟨a.gb,_,b1,fun _ z=>nomatch z⟩
 rcases rT.mp hb with rfl | hb
 . exact ⟨a.gs,_,s1,fun _ z=>nomatch z⟩
 rcases rT.mp hb with rfl | hb
 . exact ⟨a.gt,_,t1,fun _ z=>nomatch z⟩
 . cases hb
theorem AlbAt.growP (g:GrowP P G H G' H') (a:AlbAt C G H l A) (hp:∀ b∈l.parts,¬ P b):AlbAt C G' H' l A:=by
 obtain ⟨kk,b1,b2,b3⟩:=a.hb;obtain ⟨xs,s1,s2⟩:=a.hs;obtain ⟨ys,t1,t2⟩:=a.ht;have p1:¬ P l.x:=hp _ (by simp [AlbL.parts]);have p2:¬ P l.db:=hp _ (by simp [AlbL.parts]);have p3:¬ P l.ds:=hp _ (by simp [AlbL.parts]);have p4:¬ P l.dt:=hp _ (by simp [AlbL.parts]);exact ⟨g.h _ _ a.hx p1,⟨kk,g.h _ _ b1 p2,b2,b3.mono g.g⟩,⟨xs,g.h _ _ s1 p3,s2.mono g.g⟩,⟨ys,g.h _ _ t1 p4,t2.mono g.g⟩,
   g.out a.gx a.hx p1 (fun _ z=>nomatch z),g.out a.gb b1 p2 (fun _ z=>nomatch z),g.out a.gs s1 p3 (fun _ z=>nomatch z),g.out a.gt t1 p4 (fun _ z=>nomatch z),a.ne⟩
theorem OwnOk.growP (g:GrowP P G H G' H') {a:rN} {d:rG} (hp:¬ P a) (h:OwnOk G H a d):OwnOk G' H' a d:=by
 cases d with
 | list ds=>obtain ⟨xs,e,r⟩:=h; exact ⟨xs,g.h _ _ e hp,r.mono g.g⟩
 | dict kvs=>obtain ⟨xs,e,k,r⟩:=h; exact ⟨xs,g.h _ _ e hp,k,r.mono g.g⟩
 | tuple xs=>exact OwnK.keep g.g (fun o e=>g.h _ _ e hp) h
 | _=>exact (show False from h).elim
theorem SR.growP (g:GrowP P G H G' H') (S:SR G H σ δ) (hp:∀ (i:Nat) d a,δ[i]? = some (.ow d)->σ[i]?.join=some (.ref a)->¬ P a):SR G' H' σ δ:=by
 refine ⟨g.gh,S.len,fun i s e=>?_,S.ap⟩;have h:=S.sl i s e;cases s with
 | un=>trivial
 | sh d=>obtain ⟨v,e,r⟩:=h; exact ⟨v,e,r.mono g.g⟩
 | fd kvs=>exact FdOk.mono g.g h
 | ow d =>
   obtain ⟨a,ea,n,r⟩:=h; have np:=hp i d a e ea; refine ⟨a,ea,?_,r.growP g np⟩; obtain ⟨o,eo⟩:=r.some; exact g.out n eo np fun xs z=>r.noTup (z▸eo)
theorem SR.st (S:SR G H σ δ):SSt G (fun _=>none) G H σ δ:=⟨⟨Same.refl _,fun _ _ e=>(nomatch e),S.sub,fun _ _ e=>.inl e⟩,S,fun _ _ _ _ _=>rfl⟩
end
structure En where
 P:rN->Prop
 xs:List rN
 G:Hp
 H:Hp
structure ASt (C:rN) (ρ:List Nat) (e:En) (G H:Hp) (σ:St) (δ:Dn) (ls:List AlbL) (als:List Alb):Prop where
 gr:GrowP e.P e.G e.H G H
 sr:SR G H σ δ
 fr:∀ (i:Nat) d a,δ[i]? = some (.ow d)->σ[i]?.join=some (.ref a)->e.H a=none
 x0:∀ (j:Nat) a,e.xs[j]? = some a->∃ l,ls[j]? = some l/\l.x=a
 at_:∀ (j:Nat) l,ls[j]? = some l->∃ i A,als[j]? = some A/\ρ[j]? = some i/\σ[i]? = some (some (.ref l.x))/\AlbAt C G H l A
 le:ls.length=als.length
 new:∀ (j:Nat) l,ls[j]? = some l->∀ b∈l.parts,e.P b\/e.H b=none
 sep:∀ (j k:Nat) l l',ls[j]? = some l->ls[k]? = some l'->(∃ b,b∈l.parts/\b∈l'.parts)->j=k
 os:∀ (i:Nat) d a,δ[i]? = some (.ow d)->σ[i]?.join=some (.ref a)->∀ (j:Nat) l,ls[j]? = some l->a∉l.parts
noncomputable section
variable {C:rN} {ρ:List Nat} {e:En} {G H G' H':Hp} {σ:St} {δ:Dn} {ls:List AlbL} {als:List Alb} {l l':AlbL} {A':Alb} {i j:Nat} {d:rG}
theorem ASt.growP {P:rN->Prop} (S:ASt C ρ e G H σ δ ls als) (g:GrowP P G H G' H') (h0:∀ b,P b->e.P b\/e.H b=none) (h1:∀ (i:Nat) d a,δ[i]? = some (.ow d)->σ[i]?.join=some (.ref a)->¬ P a) (h2:∀ (j:Nat) l,ls[j]? = some l->∀ b∈l.parts,¬ P b):ASt C ρ e G' H' σ δ ls als :=
 ⟨S.gr.trans g h0,S.sr.growP g h1,S.fr,S.x0,fun j l h=>by
   obtain ⟨i,A,a1,a2,a3,a4⟩:=S.at_ j l h; exact ⟨i,A,a1,a2,a3,a4.growP g (h2 j l h)⟩,S.le,S.new,S.sep,S.os⟩
theorem ASt.grow (S:ASt C ρ e G H σ δ ls als) (g:Grow G H G' H'):ASt C ρ e G' H' σ δ ls als :=
 S.growP (P:=fun _=>False) g.P (fun _ z=>z.elim) (fun _ _ _ _ _ z=>z) (fun _ _ _ _ _ z=>z)
theorem ASt.step (S:ASt C ρ e G H σ δ ls als) (hj:ls[j]? = some l) (g:GrowP (· ∈ l.parts) G H G' H') (hx:l'.x=l.x) (a:AlbAt C G' H' l' A') (hn:∀ b∈l'.parts,b∈l.parts\/H b=none):ASt C ρ e G' H' σ δ (ls.set j l') (als.set j A'):=by
 have hlt:j < ls.length:=(rQ.mp hj).1;have hlt2:j < als.length:=by rw [<- S.le]; exact hlt
 have key:∀ (k:Nat) m,(ls.set j l')[k]? = some m->(j=k/\m=l')\/(j≠k/\ls[k]? = some m):=fun k m h=>by
   rw [uK] at h;by_cases q:j=k
   . rw [if_pos q,if_pos hlt] at h
     exact .inl ⟨q,(sZ h).symm⟩
   . rw [if_neg q] at h; exact .inr ⟨q,h⟩
 have hin:∀ (k:Nat) m,ls[k]? = some m->∀ b∈m.parts,∃ o,H b=some o:=fun k m h b hb=>by
   obtain ⟨_,_,_,_,_,a4⟩:=S.at_ k m h; obtain ⟨_,o,ho,_⟩:=a4.there hb; exact ⟨o,ho⟩
 have dis:∀ (k:Nat) m,j≠k->ls[k]? = some m->∀ b∈m.parts,b∉l'.parts:=fun k m hk h b hb hb'=>by
   rcases hn b hb' with q | q
   . exact hk (S.sep j k l m hj h ⟨b,q,hb⟩)
   . obtain ⟨o,ho⟩:=hin k m h b hb
     rw [q] at ho; cases ho
 refine ⟨S.gr.trans g fun b q=>S.new j l hj b q,S.sr.growP g fun i d a h1 h2=>S.os i d a h1 h2 j l hj,S.fr,fun k x h=>?_,fun k m h=>?_,by rw [zU,zU]; exact S.le,fun k m h b hb=>?_,fun k k' m m' h h' hb=>?_,fun i d x h1 h2 k m h hb=>?_⟩
 . obtain ⟨m,m1,m2⟩:=S.x0 k x h
   by_cases q:j=k
   . subst q
     rw [hj] at m1; cases m1;exact ⟨l',by rw [uK,if_pos rfl,if_pos hlt],hx.trans m2⟩
   . exact ⟨m,by rw [uK,if_neg q]; exact m1,m2⟩
 . rcases key k m h with ⟨rfl,rfl⟩ | ⟨q,h⟩
   . obtain ⟨i,A,a1,a2,a3,a4⟩:=S.at_ _ l hj
     exact ⟨i,A',by rw [uK,if_pos rfl,if_pos hlt2],a2,by rw [hx]; exact a3,a⟩
   . obtain ⟨i,A,a1,a2,a3,a4⟩:=S.at_ k m h
     refine ⟨i,A,by rw [uK,if_neg q]; exact a1,a2,a3,a4.growP g fun b hb hb'=>q (S.sep j k l m hj h ⟨b,hb',hb⟩)⟩
 . rcases key k m h with ⟨rfl,rfl⟩ | ⟨q,h⟩
   . rcases hn b hb with z | z
     . exact S.new _ l hj b z
     . exact .inr (S.gr.nn b z)
   . exact S.new k m h b hb
 . obtain ⟨b,b1,b2⟩:=hb
   rcases key k m h with ⟨y1,y2⟩ | ⟨q,h2⟩
   . rcases key k' m' h' with ⟨z1,z2⟩ | ⟨q',h3⟩
     . exact y1.symm.trans z1
     . rw [y2] at b1; exact absurd b1 (dis k' m' q' h3 b b2)
   . rcases key k' m' h' with ⟨z1,z2⟩ | ⟨q',h3⟩
     . rw [z2] at b2; exact absurd b2 (dis k m q h2 b b1)
     . exact S.sep k k' m m' h2 h3 ⟨b,b1,b2⟩
 . rcases key k m h with ⟨rfl,rfl⟩ | ⟨q,h⟩
   . rcases hn x hb with z | z
     . exact S.os i d x h1 h2 _ l hj z
     . obtain ⟨y,y1,y2,y3⟩:=S.sr.sl i _ h1
       rw [h2] at y1; cases y1;obtain ⟨o,ho⟩:=y3.some; rw [z] at ho; cases ho
   . exact S.os i d x h1 h2 k m h hb
end
end Sm
end
noncomputable section
namespace Sm
open PySem PySem.Spec PyProof.Rows PySem.W L2
abbrev FQ:=Dn->List Alb->Option (rG×List Alb)
abbrev FQT:=Dn->List Alb->Option (Bool×List Alb)
def tQ (C:rN) (ρ:List Nat) (f:FQ):TE:=fun σ H Q=>∃ (e:En) (G:Hp) (δ:Dn) (ls:List AlbL) (als:List Alb) (d:rG) (als':List Alb),ASt C ρ e G H σ δ ls als/\f δ als=some (d,als') /\
 ∀ v G' H' ls',Same G G'->ASt C ρ e G' H' σ δ ls' als'->Rep G' d v->Q v H'
noncomputable def tQT (C:rN) (ρ:List Nat) (f:FQT):TT:=fun σ H Q=>∃ (e:En) (G:Hp) (δ:Dn) (ls:List AlbL) (als:List Alb) (d:Bool) (als':List Alb),ASt C ρ e G H σ δ ls als/\f δ als=some (d,als') /\
 ∀ G' H' ls',Same G G'->ASt C ρ e G' H' σ δ ls' als'->Q d H'
abbrev QE (X:Cx) (C:rN) (ρ:List Nat) (e:Expr) (f:FQ):Prop:=PE X e (tQ C ρ f)
abbrev QT (X:Cx) (C:rN) (ρ:List Nat) (e:Expr) (f:FQT):Prop:=PT X e (tQT C ρ f)
noncomputable def qL (f:Dn->Res rG):FQ:=fun δ als=>match f δ with
 | .ok d=>some (d,als)
 | _=>none
noncomputable def qLT (f:Dn->Res Bool):FQT:=fun δ als=>match f δ with
 | .ok d=>some (d,als)
 | _=>none
noncomputable def q2 (f g:FQ) (op:rG->rG->Option rG):FQ:=fun δ als=>match f δ als with
 | some (x,a1)=>match g δ a1 with
   | some (y,a2)=>match op x y with
     | some d=>some (d,a2)
     | none=>none
   | none=>none
 | none=>none
def qB (f:FQ):FQT:=fun δ als=>match f δ als with
 | some (.bool b,a1)=>some (b,a1)
 | _=>none
def qOr (f g:FQT):FQT:=fun δ als=>match f δ als with
 | some (true,a1)=>some (true,a1)
 | some (false,a1)=>g δ a1
 | none=>none
def Fy (f g:FQT):FQT:=fun δ als=>match f δ als with
 | some (true,a1)=>g δ a1
 | some (false,a1)=>some (false,a1)
 | none=>none
def eH (f:FQT):FQT:=fun δ als=>match f δ als with
 | some (b,a1)=>some (!b,a1)
 | none=>none
def aE (f g:FQ):FQ:=fun δ als=>match f δ als with
 | some (.bool true,a1)=>g δ a1
 | some (.bool false,a1)=>some (.bool false,a1)
 | _=>none
def Ic (f g:FQ):FQ:=fun δ als=>match f δ als with
 | some (x,a1)=>match g δ a1 with
   | some (y,a2)=>some (.tuple [x,y],a2)
   | none=>none
 | none=>none
noncomputable section
variable {P:sE} {w:sT} {K:rK} {mg:Str->Option rJ} {base:tL} {X:Cx} {N:List Str} {sc:Scope} {k:Nat} {df:Bool} {C:rN} {ρ:List Nat} {a b:Expr} {f g:FQ} {tf tg:FQT} {pos:Pos} {σ:St} {H:Hp} {M9:List Expr}
theorem E4 {f:Dn->Res rG} (h:DE X E0k a f):QE X C ρ a (qL f):=PE.imp h fun σ H Q hz=>by
 obtain ⟨e,G,δ,ls,als,d,als',S,ef,q⟩:=hz;refine ⟨G,δ,S.sr,?_⟩;unfold qL at ef;cases e1:f δ with
 | ok d1=>rw [e1] at ef; cases ef; exact fun v G' H' gr r=>q v G' H' ls gr.g (S.grow gr) r
 | exc c=>rw [e1] at ef; cases ef
 | no=>rw [e1] at ef; cases ef
theorem Qi {f:Dn->Res Bool} (h:DT X E0k a f):QT X C ρ a (qLT f):=PT.imp h fun σ H Q hz=>by
 obtain ⟨e,G,δ,ls,als,d,als',S,ef,q⟩:=hz;refine ⟨G,δ,S.sr,?_⟩;unfold qLT at ef;cases e1:f δ with
 | ok d1=>rw [e1] at ef; cases ef; exact fun G' H' gr=>q G' H' ls gr.g (S.grow gr)
 | exc c=>rw [e1] at ef; cases ef
 | no=>rw [e1] at ef; cases ef
theorem tQ_2 {r:R2} {op:rG->rG->Option rG} {Q:VK} (ho:OpD r op) (h:tQ C ρ (q2 f g op) σ H Q):tOp r (tQ C ρ f) (tQ C ρ g) σ H Q:=by
 obtain ⟨e,G,δ,ls,als,d,als',S,ef,q⟩:=h;unfold q2 at ef;split at ef
 . rename_i d1 a1 e1
   split at ef
   . rename_i d2 a2 e2
     split at ef
     . rename_i d3 e3
       cases ef; refine ⟨e,G,δ,ls,als,d1,a1,S,e1,fun v1 G1 H1 ls1 s1 S1 r1=>⟨e,G1,δ,ls1,a1,d2,_,S1,e2,fun v2 G2 H2 ls2 s2 S2 r2=>?_⟩⟩;exact ho G2 H2 v1 v2 d1 d2 _ Q S2.sr.sub (r1.mono s2) r2 e3 fun v G3 H3 g3 r3=>q v G3 H3 ls2 (s1.trans (s2.trans g3.g)) (S2.grow g3) r3
     . cases ef
   . cases ef
 . cases ef
theorem eI {Q:Bool->Hp->Prop} (h:tQT C ρ (qB f) σ H Q):tQ C ρ f σ H fun x H1=>∃ c,x=.bl c/\Q c H1:=by
 obtain ⟨e,G,δ,ls,als,d,als',S,ef,q⟩:=h;unfold qB at ef;split at ef
 . rename_i b1 a1 e1
   cases ef; exact ⟨e,G,δ,ls,als,_,_,S,e1,fun v G' H' ls' s S' r=>⟨_,r,q G' H' ls' s S'⟩⟩
 . cases ef
theorem oO {o:wP} {r:R2} {op:rG->rG->Option rG} (hr:OpR X (vH o) r) (ho:OpD r op) (ha:QE X C ρ a f) (hb:QE X C ρ b g) (hm:behindInMarks o b=false):QE X C ρ (.Compare a [o] [b] pos) (q2 f g op) :=
 PE.imp (Yg hr ha hb hm) fun _ _ _ h=>tQ_2 ho h
theorem Xu {o:wP} {r:R2} {op:rG->rG->Option rG} (hr:OpR X (vH o) r) (ho:OpD r op) (ha:QE X C ρ a f) (hb:QE X C ρ b g) (hm:behindInMarks o b=false):QT X C ρ (.Compare a [o] [b] pos) (qB (q2 f g op)) :=
 PT.imp (Ya hr ha hb hm) fun _ _ _ h=>tQ_2 ho (eI h)
theorem oM (c:Cxt P w K mg base X N sc k df) (ha:QE X C ρ a f) (hb:QE X C ρ b g):QE X C ρ (.Compare a [.Eq] [b] pos) (q2 f g dEq):=oO (Wg c.hu) Wh ha hb (Dl _)
theorem Dh (c:Cxt P w K mg base X N sc k df) (ha:QE X C ρ a f) (hb:QE X C ρ b g):QT X C ρ (.Compare a [.NotEq] [b] pos) (qB (q2 f g dNe)):=Xu (fB c.hu) fC ha hb (Dl _)
theorem qt_in (c:Cxt P w K mg base X N sc k df) (ha:QE X C ρ a f) (hb:QE X C ρ b g) (hm:behindInMarks .In b=false:=by with_unfolding_all rfl):QT X C ρ (.Compare a [.In] [b] pos) (qB (q2 f g (dIn false))):=Xu (pC c.hu) fD ha hb hm
theorem oG (h:QE X C ρ a f) (he:∀ whole,isTrue a X.env whole=(do let v <- whole; standAt a.pos; holding [v] (truthy v)):=by intro _; rfl):QT X C ρ a (qB f):=PT.imp (oT h he) fun _ _ _ h=>eI h
theorem Oo (ha:QT X C ρ a tf) (hb:QT X C ρ b tg):QT X C ρ (.BoolOp .Or [a,b] pos) (qOr tf tg):=PT.imp (PW.pt (pw_or ha (oP hb))) fun σ H Q h=>by
 obtain ⟨e,G,δ,ls,als,d,als',S,ef,q⟩:=h;unfold qOr at ef;split at ef
 . rename_i a1 e1
   cases ef; exact ⟨e,G,δ,ls,als,_,_,S,e1,fun G' H' ls' s S'=>fZ (q G' H' ls' s S')⟩
 . rename_i a1 e1
   exact ⟨e,G,δ,ls,als,_,_,S,e1,fun G' H' ls' s S'=>gA ⟨e,G',δ,ls',a1,d,als',S',ef,fun G2 H2 ls2 s2 S2=>q G2 H2 ls2 (s.trans s2) S2⟩⟩
 . cases ef
theorem oI (ha:QT X C ρ a tf) (hb:QT X C ρ b tg):QT X C ρ (.BoolOp .And [a,b] pos) (Fy tf tg):=PT.imp (PW.pt (eK ha (Xy hb))) fun σ H Q h=>by
 obtain ⟨e,G,δ,ls,als,d,als',S,ef,q⟩:=h;unfold Fy at ef;split at ef
 . rename_i a1 e1
   exact ⟨e,G,δ,ls,als,_,_,S,e1,fun G' H' ls' s S'=>fZ ⟨e,G',δ,ls',a1,d,als',S',ef,fun G2 H2 ls2 s2 S2=>q G2 H2 ls2 (s.trans s2) S2⟩⟩
 . rename_i a1 e1
   cases ef; exact ⟨e,G,δ,ls,als,_,_,S,e1,fun G' H' ls' s S'=>gA (q G' H' ls' s S')⟩
 . cases ef
theorem oH (ha:QT X C ρ a tf):QT X C ρ (.UnaryOp .Not a pos) (eH tf):=PT.imp (Vz ha) fun σ H Q h=>by
 obtain ⟨e,G,δ,ls,als,d,als',S,ef,q⟩:=h;unfold eH at ef;split at ef
 . rename_i b1 a1 e1
   cases ef; exact ⟨e,G,δ,ls,als,_,_,S,e1,fun G' H' ls' s S'=>q G' H' ls' s S'⟩
 . cases ef
theorem mS (ha:QE X C ρ a f) (hb:QE X C ρ (.BoolOp .And (b::M9) pos) g):QE X C ρ (.BoolOp .And (a::b::M9) pos) (aE f g):=PE.imp (eZ ha hb) fun σ H Q h=>by
 obtain ⟨e,G,δ,ls,als,d,als',S,ef,q⟩:=h;unfold aE at ef;split at ef
 . rename_i a1 e1
   exact ⟨e,G,δ,ls,als,_,_,S,e1,fun v G' H' ls' s S' r=>⟨true,r,fZ ⟨e,G',δ,ls',a1,d,als',S',ef,fun v2 G2 H2 ls2 s2 S2 r2=>q v2 G2 H2 ls2 (s.trans s2) S2 r2⟩⟩⟩
 . rename_i a1 e1
   cases ef; exact ⟨e,G,δ,ls,als,_,_,S,e1,fun v G' H' ls' s S' r=>⟨false,r,gA (q _ G' H' ls' s S' rfl)⟩⟩
 . cases ef
theorem Qj {x1:Nat} (ha:QE X C ρ a f) (hb:QE X C ρ b g) (h1:rP [a,b] X.env=(false,eval a X.env)::rP [b] X.env:=by rfl) (h2:rP [b] X.env=(false,eval b X.env)::rP [] X.env:=by rfl):QE X C ρ (.Tuple [a,b] x1 pos) (Ic f g) :=
 PE.imp (Ls (C8 ha (C8 hb F7 h2) h1)) fun σ H Q h=>by
 obtain ⟨e,G,δ,ls,als,d,als',S,ef,q⟩:=h;unfold Ic at ef;split at ef
 . rename_i d1 a1 e1
   split at ef
   . rename_i d2 a2 e2
     cases ef; refine ⟨e,G,δ,ls,als,d1,a1,S,e1,fun v1 G1 H1 ls1 s1 S1 r1=>⟨e,G1,δ,ls1,a1,d2,_,S1,e2,fun v2 G2 H2 ls2 s2 S2 r2=>⟨(by show 2<=sizeLine; decide),fun t ht=>?_⟩⟩⟩;have gr:=Grow.new (o:=.tup [v1,v2]) S2.sr.sub ht; refine q _ _ _ ls2 (s1.trans (s2.trans gr.g)) (S2.grow gr) ⟨t,_,rfl,B7,?_⟩; exact RepL.cons (r1.mono (s2.trans gr.g)) (RepL.cons (r2.mono gr.g) rfl)
   . cases ef
 . cases ef
end
noncomputable def Nr (p:Nat) (v:V) (vs:List V):List V:=vs.take p++v::vs.drop p
abbrev FM:=List rG->Alb->Option (rG×Alb)
def spA (C:rN) (p n:Nat) (m:FM):Sp:=fun vs H Q _=>∃ G ds ws l A d A',vs=Nr p (.ref l.x) ws/\ds.length=n/\Same G H/\RepL G ds ws/\AlbAt C G H l A/\m ds A=some (d,A') /\
 ∀ v G' H' l',GrowP (· ∈ l.parts) G H G' H'->l'.x=l.x->AlbAt C G' H' l' A'->(∀ b∈l'.parts,b∈l.parts\/H b=none)->Rep G' d v->Q v H'
def spR (C:rN) (p n:Nat) (m:List rG->Alb->Option rG):Sp:=fun vs H Q _=>∃ G ds ws l A d,vs=Nr p (.ref l.x) ws/\ds.length=n/\Same G H/\RepL G ds ws/\AlbAt C G H l A/\m ds A=some d /\
 ∀ v G' H',Grow G H G' H'->Rep G' d v->Q v H'
noncomputable def rdM (m:List rG->Alb->Option rG):FM:=fun ds A=>match m ds A with
 | some d=>some (d,A)
 | none=>none
theorem spR.of {C:rN} {p n:Nat} {m:List rG->Alb->Option rG} (vs:List V) (H:Hp) (Q:VK) (E:XK) (h:spA C p n (rdM m) vs H Q E):spR C p n m vs H Q E:=by
 obtain ⟨G,ds,ws,l,A,d,A',h1,h2,h3,h4,h5,h6,h7⟩:=h;unfold rdM at h6;split at h6
 . rename_i d1 e1
   cases h6; exact ⟨G,ds,ws,l,_,_,h1,h2,h3,h4,h5,e1,fun v G' H' g r=>h7 v G' H' l g.P rfl (h5.grow g) (fun b hb=>.inl hb) r⟩
 . cases h6
structure MethA (P:sE) (w:sT) (K:rK) (mg:Str->Option rJ) (base:tL) (C:rN) (x:Str) (k n:Nat) (m:FM):Prop where
 ex:∃ f fd ps,FnOk P w K mg base CX0 k f fd ps (spA C 0 n m)/\Meth K C x f/\Binds K fd ps []
structure MethR (P:sE) (w:sT) (K:rK) (mg:Str->Option rJ) (base:tL) (C:rN) (x:Str) (k n:Nat) (m:List rG->Alb->Option rG):Prop where
 ex:∃ f fd ps,FnOk P w K mg base CX0 k f fd ps (spR C 0 n m)/\Meth K C x f/\Binds K fd ps []
structure FnA (P:sE) (w:sT) (K:rK) (mg:Str->Option rJ) (base:tL) (C:rN) (x:Str) (k p n:Nat) (m:FM):Prop where
 ex:∃ f fd ps,FnOk P w K mg base CX0 k f fd ps (spA C p n m)/\mg x=some (.ref f)/\tJ K (.ref f)=true/\Binds K fd ps []
noncomputable section
variable {P:sE} {w:sT} {K:rK} {mg:Str->Option rJ} {base:tL} {X:Cx} {N:List Str} {sc:Scope} {k k':Nat} {df:Bool} {C:rN} {ρ:List Nat} {e:Expr} {es:List Expr} {fs:Dn->Res (List rG)} {f:Dn->Res rG} {m:FM} {n p i j:Nat} {x y:Str} {pos apos vpos:Pos}
theorem MethR.a {m:List rG->Alb->Option rG} (h:MethR P w K mg base C x k n m):MethA P w K mg base C x k n (rdM m):=by
 obtain ⟨f,fd,ps,h1,h2,h3⟩:=h.ex;exact ⟨f,fd,ps,h1.imp spR.of,h2,h3⟩
noncomputable def C2 (j:Nat) (fs:Dn->Res (List rG)) (m:FM):FQ:=fun δ als=>match als[j]?,fs δ with
 | some A,.ok ds=>match m ds A with
   | some (d,A')=>some (d,als.set j A')
   | none=>none
 | _,_=>none
theorem Ey {δ:Dn} {als als':List Alb} {d:rG} (h:C2 j fs m δ als=some (d,als')):∃ A ds A',als[j]? = some A/\fs δ=.ok ds/\m ds A=some (d,A')/\als'=als.set j A':=by
 unfold C2 at h;split at h
 . rename_i A ds e1 e2
   split at h
   . rename_i d1 A1 e3
     cases h; exact ⟨A,ds,_,e1,e2,e3,rfl⟩
   . cases h
 . cases h
theorem ASt.get {e:En} {G H:Hp} {σ:St} {δ:Dn} {ls:List AlbL} {als:List Alb} {A:Alb} (S:ASt C ρ e G H σ δ ls als) (h:als[j]? = some A) (hρ:ρ[j]? = some i):∃ l,ls[j]? = some l/\σ[i]? = some (some (.ref l.x))/\AlbAt C G H l A:=by
 have hj:j < ls.length:=by rw [S.le]; exact (rQ.mp h).1
 obtain ⟨i',A',a1,a2,a3,a4⟩:=S.at_ j _ (sH hj);rw [hρ] at a2; cases a2;rw [h] at a1; cases a1;exact ⟨_,sH hj,a3,a4⟩
noncomputable def noFld (y:Str):Bool := !(y==("books" : Str)) && !(y==("steps" : Str)) && !(y==("taken" : Str))
theorem noFld.lk {v1 v2 v3:V} (h:noFld y=true):yY y [(("books" : Str),v1),("steps",v2),("taken",v3)]=none:=by
 unfold noFld at h;simp only [sU,zD] at h;obtain ⟨⟨h1,h2⟩,h3⟩:=h;simp only [AL,h1,h2,h3,List.lookup_nil]
theorem Dj (c:Cxt P w K mg base X N sc k df) (j:Nat) (hi:okVar N sc i x=true) (hρ:ρ[j]? = some i) (cl:Cls K C) (F:MethA P w K mg base C y k' n m) (hk:k'<=k) (hf:noFld y=true) (ha:DA X E0k (e::es) n fs) {pl:Sem Bool}
   (hst:rP (e::es) X.env=(false,eval e X.env)::rP es X.env:=by rfl) (hpl:(tR pos (rP es X.env)).any (·.1)=false:=by rfl)
   (ht:eval (.Call (.Attribute (.Name x vpos) y apos) (e::es) [] pos) X.env=(do
     let ov <- eval (.Name x vpos) X.env
     standAt apos.atName
     let (f,first) <- holding [ov] (zF ov y pl)
     i6 pos f first (tR pos (rP (e::es) X.env)) (wI pos (uJ [] X.env))):=by rfl) :
   QE X C ρ (.Call (.Attribute (.Name x vpos) y apos) (e::es) [] pos) (C2 j fs m):=by
 obtain ⟨f,fd,ps,F,M,B⟩:=F.ex;have F':FnOk X.prog X.w X.K X.mg X.base CX0 k' f fd ps (spA C 0 n m):=by rw [c.hP,c.hw,c.hK,c.hmg,c.hb]; exact F
 refine PE.imp (Yd (okVar.pe c hi) (by rw [c.hK]; exact cl) (by rw [c.hK]; exact M) F' (c.room.mono hk) (by rw [c.hK]; exact B) .nil (Em (X:=X)) ha.pa hst hpl ht) fun σ H Q h=>?_;obtain ⟨en,G,δ,ls,als,d,als',S,ef,q⟩:=h;obtain ⟨A,ds,A',e1,e2,e3,rfl⟩:=Ey ef;obtain ⟨l,hl,a3,a4⟩:=S.get e1 hρ;refine ⟨.ref l.x,a3,l.x,l.dx,_,rfl,a4.hx,noFld.lk hf,G,δ,S.sr,?_⟩;rw [e2];intro vs G1 H1 g1 r1;have S1:=S.grow g1;rw [uG];exact ⟨G1,ds,vs,l,A,d,A',rfl,ha.len δ ds e2,S1.sr.sub,r1,a4.grow g1,e3,fun v G' H' l' g hx a hn r=>q v G' H' _ (g1.g.trans g.g) (S1.step hl g hx a hn) r⟩
theorem M5 (c:Cxt P w K mg base X N sc k df) (j:Nat) (hi:okVar N sc i x=true) (hρ:ρ[j]? = some i) (cl:Cls K C) (F:MethA P w K mg base C y k' 0 m) (hk:k'<=k) (hf:noFld y=true) {pl:Sem Bool}
   (ht:eval (.Call (.Attribute (.Name x vpos) y apos) [] [] pos) X.env=(do
     let ov <- eval (.Name x vpos) X.env
     standAt apos.atName
     let (f,first) <- holding [ov] (zF ov y pl)
     i6 pos f first (tR pos (rP [] X.env)) (wI pos (uJ [] X.env))):=by rfl) :
   QE X C ρ (.Call (.Attribute (.Name x vpos) y apos) [] [] pos) (C2 j B3 m):=by
 obtain ⟨f,fd,ps,F,M,B⟩:=F.ex;have F':FnOk X.prog X.w X.K X.mg X.base CX0 k' f fd ps (spA C 0 0 m):=by rw [c.hP,c.hw,c.hK,c.hmg,c.hb]; exact F
 refine PE.imp (Lu (okVar.pe c hi) (by rw [c.hK]; exact cl) (by rw [c.hK]; exact M) F' (c.room.mono hk) (by rw [c.hK]; exact B) .nil (Em (X:=X)) ht) fun σ H Q h=>?_;obtain ⟨en,G,δ,ls,als,d,als',S,ef,q⟩:=h;obtain ⟨A,ds,A',e1,e2,e3,rfl⟩:=Ey ef;obtain ⟨l,hl,a3,a4⟩:=S.get e1 hρ;cases e2;refine ⟨.ref l.x,a3,l.x,l.dx,_,rfl,a4.hx,noFld.lk hf,?_⟩;exact ⟨G,[],[],l,A,d,A',rfl,rfl,S.sr.sub,rfl,a4,e3,fun v G' H' l' g hx a hn r=>q v G' H' _ g.g (S.step hl g hx a hn) r⟩
def tAl (C:rN) (ρ:List Nat) (j p:Nat) (fs:Dn->Res (List rG)):TA:=fun σ H Q=>∃ (e:En) (G:Hp) (δ:Dn) (ls:List AlbL) (als:List Alb) (ds:List rG) (l:AlbL),ASt C ρ e G H σ δ ls als/\fs δ=.ok ds/\ls[j]? = some l /\
 ∀ vs G' H',Grow G H G' H'->RepL G' ds vs->Q (Nr p (.ref l.x) vs) H'
structure QAl (X:Cx) (C:rN) (ρ:List Nat) (es:List Expr) (j p n:Nat) (fs:Dn->Res (List rG)):Prop where
 pa:PA X es (tAl C ρ j p fs)
 len:∀ δ ds,fs δ=.ok ds->ds.length=n
theorem K9 (c:Cxt P w K mg base X N sc k df) (j:Nat) (hi:okVar N sc i x=true) (hρ:ρ[j]? = some i) (ha:DA X E0k es n fs) (hs:rP (.Name x vpos::es) X.env=(false,eval (.Name x vpos) X.env)::rP es X.env:=by rfl):QAl X C ρ (.Name x vpos::es) j 0 n fs:=by
 refine ⟨PA.imp (C8 (okVar.pe c hi) ha.pa hs) fun σ H Q h=>?_,ha.len⟩;obtain ⟨en,G,δ,ls,als,ds,l,S,e2,hl,q⟩:=h;obtain ⟨i',A',a1,a2,a3,a4⟩:=S.at_ j _ hl;rw [hρ] at a2; cases a2;exact ⟨.ref l.x,a3,G,δ,S.sr,by rw [e2]; exact fun vs G' H' g r=>q vs G' H' g r⟩
theorem Eb (ha:DE X E0k e f) (hr:QAl X C ρ es j p n fs) (hs:Qn e=true:=by rfl):QAl X C ρ (e::es) j (p+1) (n+1) (A6 f fs):=by
 refine ⟨PA.imp (C8 ha hr.pa (Oi hs)) fun σ H Q h=>?_,fun δ ds e=>?_⟩
 . obtain ⟨en,G,δ,ls,als,ds,l,S,e2,hl,q⟩:=h
   refine ⟨G,δ,S.sr,?_⟩; unfold A6 at e2;cases h1:f δ with
   | exc c=>rw [h1] at e2; cases e2
   | no=>rw [h1] at e2; cases e2
   | ok d =>
     rw [h1] at e2;cases h2:fs δ with
     | exc c=>rw [show (Res.ok d).bind _=(fs δ).bind _ from rfl,h2] at e2; cases e2
     | no=>rw [show (Res.ok d).bind _=(fs δ).bind _ from rfl,h2] at e2; cases e2
     | ok ds' =>
       rw [show (Res.ok d).bind _=(fs δ).bind _ from rfl,h2] at e2; cases e2;exact fun v G1 H1 g1 r1=>⟨en,G1,δ,ls,als,ds',l,S.grow g1,h2,hl,fun vs G2 H2 g2 r2=>q (v::vs) G2 H2 (g1.trans g2) (RepL.cons (r1.mono g2.g) r2)⟩
 . unfold A6 at e
   cases h1:f δ with
   | exc c=>rw [h1] at e; cases e
   | no=>rw [h1] at e; cases e
   | ok d =>
     rw [h1] at e;cases h2:fs δ with
     | exc c=>rw [show (Res.ok d).bind _=(fs δ).bind _ from rfl,h2] at e; cases e
     | no=>rw [show (Res.ok d).bind _=(fs δ).bind _ from rfl,h2] at e; cases e
     | ok ds' =>
       rw [show (Res.ok d).bind _=(fs δ).bind _ from rfl,h2] at e; cases e;rw [sD,hr.len δ ds' h2]
theorem K4 (c:Cxt P w K mg base X N sc k df) (F:FnA P w K mg base C y k' p n m) (hk:k'<=k) (h:okGl sc y=true) (ha:QAl X C ρ (e::es) j p n fs) (hρ:ρ[j]? = some i)
   (he:rP (e::es) X.env=(false,eval e X.env)::rP es X.env:=by rfl) (hpl:(tR pos (rP es X.env)).any (·.1)=false:=by rfl):QE X C ρ (.Call (.Name y vpos) (e::es) [] pos) (C2 j fs m):=by
 obtain ⟨f,fd,ps,F,hm,kp,B⟩:=F.ex;obtain ⟨h1,h2,h3⟩:=okGl.gl c h;have F':FnOk X.prog X.w X.K X.mg X.base CX0 k' f fd ps (spA C p n m):=by rw [c.hP,c.hw,c.hK,c.hmg,c.hb]; exact F
 refine PE.imp (Jf F' (c.room.mono hk) h1 (by rw [c.hmg]; exact hm) (by rw [c.hK]; exact kp) (by rw [c.hK]; exact B) .nil (Em (X:=X)) ha.pa h2 he hpl) fun σ H Q h=>?_;obtain ⟨en,G,δ,ls,als,d,als',S,ef,q⟩:=h;obtain ⟨A,ds,A',e1,e2,e3,rfl⟩:=Ey ef;obtain ⟨l,hl,a3,a4⟩:=S.get e1 hρ;refine ⟨en,G,δ,ls,als,ds,l,S,e2,hl,fun vs G1 H1 g1 r1=>?_⟩;have S1:=S.grow g1;show spA C p n m (Nr p (.ref l.x) vs++[]) H1 Q E0;rw [uG];exact ⟨G1,ds,vs,l,A,d,A',rfl,ha.len δ ds e2,S1.sr.sub,r1,a4.grow g1,e3,fun v G' H' l' g hx a hn r=>q v G' H' _ (g1.g.trans g.g) (S1.step hl g hx a hn) r⟩
end
end Sm
end
noncomputable section
namespace Sm
open PySem PySem.Spec PyProof.Rows PySem.W L2
noncomputable section
variable {C:rN} {ρ:List Nat} {e:En} {G H G' G1 H1:Hp} {σ:St} {δ:Dn} {ls:List AlbL} {als:List Alb} {i j:Nat} {v:V} {d d':rG} {p:rN}
theorem oZ (hl:σ.length=δ.length) {s:Sl} (hs:∀ d,s≠.ow d) (j:Nat) (d':rG) (h:(δ.set i s)[j]? = some (.ow d')):(σ.set i (some v))[j]? = σ[j]? /\ δ[j]? = some (.ow d'):=by
 rw [D1] at h;split at h
 . exact absurd (sZ h) (hs d')
 . rename_i hn
   refine ⟨?_,h⟩; rw [D1,if_neg (by rw [hl]; exact hn)]
theorem ASt.slot (S:ASt C ρ e G H σ δ ls als) (hi:i∉ρ) {σ':St} (hσ:∀ k,k≠i->σ'[k]? = σ[k]?):∀ (j:Nat) l,ls[j]? = some l->∃ i A,als[j]? = some A/\ρ[j]? = some i/\σ'[i]? = some (some (.ref l.x))/\AlbAt C G H l A:=fun j l h=>by
 obtain ⟨i',A,a1,a2,a3,a4⟩:=S.at_ j l h;refine ⟨i',A,a1,a2,?_,a4⟩;rw [hσ i' fun z=>hi (z▸tZ a2)];exact a3
theorem Oj {α:Type} {l:List α} {v:α}:∀ k,k≠i->(l.set i v)[k]? = l[k]? := fun k hk=>by rw [uK,if_neg (fun z=>hk z.symm)]
theorem ASt.setD (S:ASt C ρ e G H σ δ ls als) (r:Rep G d v) (hi:i∉ρ):ASt C ρ e G H (σ.set i (some v)) (δ.set i (.sh d)) ls als:=by
 have key:=oZ (i:=i) (v:=v) (s:=.sh d) S.sr.len (fun _ z=>nomatch z);refine ⟨S.gr,(S.sr.st.set_sh r).sr,fun j d' a h1 h2=>?_,S.x0,S.slot hi Oj,S.le,S.new,S.sep,fun j d' a h1 h2=>?_⟩
 . obtain ⟨k1,k2⟩:=key j d' h1
   rw [k1] at h2; exact S.fr j d' a k2 h2
 . obtain ⟨k1,k2⟩:=key j d' h1
   rw [k1] at h2; exact S.os j d' a k2 h2
theorem ASt.setO (S:ASt C ρ e G H σ δ ls als) (h0:e.H p=none) (hg:G p=none) (ho:OwnOk G H p d) (hf:∀ (j:Nat) d',δ[j]? = some (.ow d')->σ[j]?.join≠some (.ref p)) (hp:∀ (j:Nat) l,ls[j]? = some l->p∉l.parts) (hi:i∉ρ):ASt C ρ e G H (σ.set i (some (.ref p))) (δ.set i (.ow d)) ls als:=by
 have hl:=S.sr.len;have key:∀ (j:Nat) (d':rG) a,(δ.set i (.ow d))[j]? = some (.ow d')->(σ.set i (some (.ref p)))[j]?.join=some (.ref a)->a=p\/(δ[j]? = some (.ow d')/\σ[j]?.join=some (.ref a)):=fun j d' a h1 h2=>by
   rw [D1] at h1 h2; rw [hl] at h2;split at h1
   . rename_i hc
     rw [if_pos hc] at h2; cases h2; exact .inl rfl
   . rename_i hn
     rw [if_neg hn] at h2; exact .inr ⟨h1,h2⟩
 refine ⟨S.gr,(S.sr.st.set_ow rfl hg ho hf).sr,fun j d' a h1 h2=>?_,S.x0,S.slot hi Oj,S.le,S.new,S.sep,fun j d' a h1 h2=>?_⟩
 . rcases key j d' a h1 h2 with rfl | ⟨k1,k2⟩
   . exact h0
   . exact S.fr j d' a k1 k2
 . rcases key j d' a h1 h2 with rfl | ⟨k1,k2⟩
   . exact hp
   . exact S.os j d' a k1 k2
theorem ASt.writeO {o:HO} (S:ASt C ρ e G H σ δ ls als) (hi:δ[i]? = some (.ow d)) (hp:σ[i]?.join=some (.ref p)) (hg:G p=none) (ho:OwnOk G (upd H p o) p d'):ASt C ρ e G (upd H p o) σ (δ.set i (.ow d')) ls als:=by
 have hw:GrowP (· = p) G H G (upd H p o):=⟨Same.refl _,fun b u q n=>by rw [B4 n]; exact q,fun b u q=>by rw [B4 (C0 q hg)]; exact S.sr.sub _ _ q,fun _ _ q=>.inl q,fun b q=>by
   by_cases z:b=p
   . rw [z,B7] at q; cases q
   . rw [B4 z] at q; exact q⟩
 have key:∀ (j:Nat) (u:rG),(δ.set i (.ow d'))[j]? = some (.ow u)->∃ u',δ[j]? = some (.ow u'):=fun j u h=>by
   rw [D1] at h;split at h
   . rename_i hc; rw [<- hc.1]; exact ⟨d,hi⟩
   . exact ⟨u,h⟩
 refine ⟨S.gr.trans hw fun b z=>.inr (z▸S.fr i d p hi hp),(S.sr.st.write hi hp hg ho).sr,fun j u a h1 h2=>?_,S.x0,fun j l h=>?_,S.le,S.new,S.sep,fun j u a h1 h2=>?_⟩
 . obtain ⟨u',k1⟩:=key j u h1
   exact S.fr j u' a k1 h2
 . obtain ⟨i',A,a1,a2,a3,a4⟩:=S.at_ j l h
   exact ⟨i',A,a1,a2,a3,a4.growP hw fun b hb z=>S.os i d p hi hp j l h (z▸hb)⟩
 . obtain ⟨u',k1⟩:=key j u h1
   exact S.os j u' a k1 h2
open Classical in
theorem ASt.fz (S:ASt C ρ e G H σ δ ls als) (i:Nat):∃ G',ASt C ρ e G' H σ (fz i δ) ls als:=by
 let H0:Hp:=fun b=>if e.H b=none/\∀ (j:Nat) l,ls[j]? = some l->b∉l.parts then none else H b
 have Z:SSt G H0 G H σ δ:=by
   refine ⟨⟨Same.refl _,fun b o q=>?_,S.sr.sub,fun _ _ q=>.inl q⟩,S.sr,fun j d a h1 h2=>?_⟩
   . show H b=some o
     have q':(if e.H b=none/\∀ (j:Nat) l,ls[j]? = some l->b∉l.parts then none else H b)=some o:=q;split at q'
     . cases q'
     . exact q'
   . show (if e.H a=none/\∀ (j:Nat) l,ls[j]? = some l->a∉l.parts then none else H a)=none
     rw [if_pos ⟨S.fr j d a h1 h2,S.os j d a h1 h2⟩]
 obtain ⟨G',S'⟩:=Z.fz i;have out:∀ (j:Nat) l,ls[j]? = some l->∀ b∈l.parts,G' b=none:=fun j l h b hb=>by
   obtain ⟨_,A,_,_,_,a4⟩:=S.at_ j l h; obtain ⟨n1,o,n2,n3⟩:=a4.there hb;cases q:G' b with
   | none=>rfl
   | some u =>
     rcases S'.gr.fr b u q with z | z | ⟨xs,z⟩
     . rw [n1] at z; cases z
     . have z':(if e.H b=none/\∀ (j:Nat) l,ls[j]? = some l->b∉l.parts then none else H b)=none:=z
       rw [if_neg (fun y=>y.2 j l h hb),n2] at z'; cases z'
     . have:=S'.gr.gh b u q
       rw [n2] at this; cases this;exact absurd z (n3 xs)
 have key:∀ (j:Nat) (d':rG),(Sm.fz i δ)[j]? = some (.ow d')->δ[j]? = some (.ow d'):=fun j d' h=>by
   unfold Sm.fz at h;split at h
   . rw [D1] at h
     split at h
     . cases h
     . exact h
   . exact h
 refine ⟨G',⟨S.gr.g.trans S'.gr.g,S.gr.h,S'.gr.gh,fun b o q=>?_,S.gr.nn⟩,S'.sr,fun j d a h1 h2=>S.fr j d a (key j d h1) h2,S.x0,fun j l h=>?_,S.le,S.new,S.sep,fun j d a h1 h2=>S.os j d a (key j d h1) h2⟩
 . rcases S'.gr.fr b o q with z | z | z
   . exact S.gr.fr b o z
   . have z':(if e.H b=none/\∀ (j:Nat) l,ls[j]? = some l->b∉l.parts then none else H b)=none:=z
     split at z'
     . rename_i y; exact .inr (.inl y.1)
     . exact .inr (.inl (S.gr.nn b z'))
   . exact .inr (.inr z)
 . obtain ⟨i',A,a1,a2,a3,a4⟩:=S.at_ j l h
   obtain ⟨kk,b1,b2,b3⟩:=a4.hb; obtain ⟨xs,s1,s2⟩:=a4.hs; obtain ⟨ys,t1,t2⟩:=a4.ht; exact ⟨i',A,a1,a2,a3,a4.hx,⟨kk,b1,b2,b3.mono S'.gr.g⟩,⟨xs,s1,s2.mono S'.gr.g⟩,⟨ys,t1,t2.mono S'.gr.g⟩,out j l h _ (by simp [AlbL.parts]),out j l h _ (by simp [AlbL.parts]),out j l h _ (by simp [AlbL.parts]),out j l h _ (by simp [AlbL.parts]),a4.ne⟩
def En.at_ (e:En) (G:Hp):En:={ e with G:=G }
theorem ASt.rebase (S:ASt C ρ e G H σ δ ls als) (h:Same G1 G) (h0:Same e.G G1):ASt C ρ (e.at_ G1) G H σ δ ls als :=
 ⟨⟨h,S.gr.h,S.gr.gh,fun b o q=>(S.gr.fr b o q).imp (fun z=>h0 _ _ z) id,S.gr.nn⟩,S.sr,S.fr,S.x0,S.at_,S.le,S.new,S.sep,S.os⟩
theorem ASt.unbase (g:GrowP e.P e.G e.H G1 H1) (S:ASt C ρ (e.at_ G1) G H σ δ ls als):ASt C ρ e G H σ δ ls als :=
 ⟨⟨g.g.trans S.gr.g,S.gr.h,S.gr.gh,fun b o q=>(S.gr.fr b o q).elim (fun z=>g.fr b o z) .inr,S.gr.nn⟩,S.sr,S.fr,S.x0,S.at_,S.le,S.new,S.sep,S.os⟩
end
inductive OutQ where
 | nx (δ:Dn) (als:List Alb)
 | rt (d:rG) (als:List Alb)
 | no
abbrev FS:=Dn->List Alb->OutQ
def iF (C:rN) (ρ:List Nat) (e:En) (o:OutQ) (D:Ends):Prop:=match o with
 | .nx δ als=>∀ σ G H ls,ASt C ρ e G H σ δ ls als->D.nx σ H
 | .rt d als=>∀ v G H σ δ ls,ASt C ρ e G H σ δ ls als->Rep G d v->D.rt v H
 | .no=>False
def tQS (C:rN) (ρ:List Nat) (g:FS):TS:=fun D σ H=>∃ (e:En) (G:Hp) (δ:Dn) (ls:List AlbL) (als:List Alb),ASt C ρ e G H σ δ ls als/\iF C ρ e (g δ als) D
def QS (X:Cx) (C:rN) (ρ:List Nat) (st:vN) (g:FS):Prop:=PS X st (tQS C ρ g)
def QSs (X:Cx) (C:rN) (ρ:List Nat) (st:List vN) (g:FS):Prop:=PSs X st (tQS C ρ g)
noncomputable def W5 {α:Type} (r:Option (α×List Alb)) (k:α->List Alb->OutQ):OutQ:=match r with
 | some (a,als)=>k a als
 | none=>.no
def W0:FS:=fun δ als=>.nx δ als
def K2 (g1 g2:FS):FS:=fun δ als=>match g1 δ als with
 | .nx δ' als'=>g2 δ' als'
 | o=>o
def gNo:FS:=fun _ _=>.no
def T8 (f:FQ):FS:=fun δ als=>W5 (f δ als) fun _ als'=>.nx δ als'
def Aj (f:FQ):FS:=fun δ als=>W5 (f δ als) fun d als'=>.rt d als'
def Gi (i:Nat) (f:FQ):FS:=fun δ als=>W5 (f δ als) fun d als'=>.nx (δ.set i (.sh d)) als'
def gIf (c:FQT) (g1 g2:FS):FS:=fun δ als=>W5 (c δ als) fun b als'=>if b=true then g1 δ als' else g2 δ als'
def gFz (i:Nat) (g:FS):FS:=fun δ als=>g (fz i δ) als
def mZ (i:Nat):FS:=fun δ als=>.nx (δ.set i (.ow (.list []))) als
def Yr (i:Nat) (f:FQ):FS:=fun δ als=>W5 (f δ als) fun d als'=>.nx (δ.set i (.ow (.list [d]))) als'
def Nu (i:Nat) (f:FQ):FS:=fun δ als=>match δ[i]? with
 | some (.ow (.list ds))=>W5 (f δ als) fun d als'=>if ds.length < sizeLine then .nx (δ.set i (.ow (.list (ds++[d])))) als' else .no
 | _=>.no
noncomputable def Vv (i:Nat) (body:FS):List rG->FS
 | [],δ,als=>.nx δ als
 | d::ds,δ,als=>match body (δ.set i (.sh d)) als with
   | .nx δ' als'=>Vv i body ds δ' als'
   | o=>o
noncomputable def Mf (src:Dn->Res (List rG)) (i:Nat) (body:FS):FS:=fun δ als=>match src δ with
 | .ok ds=>Vv i body ds δ als
 | _=>.no
theorem Mw {C:rN} {ρ:List Nat} {e:En} {G H:Hp} {σ:St} {δ:Dn} {ls:List AlbL} {als:List Alb} {f:FQ} {k:rG->List Alb->OutQ} {D:Ends} {R:VK} (S:ASt C ρ e G H σ δ ls als) (a:iF C ρ e (W5 (f δ als) k) D)
   (h:∀ d v G1 H1 ls1 als1,Same G G1->Rep G1 d v->ASt C ρ e G1 H1 σ δ ls1 als1->iF C ρ e (k d als1) D->R v H1):tQ C ρ f σ H R:=by
 unfold W5 at a;split at a
 . rename_i d als1 e1
   exact ⟨e,G,δ,ls,als,d,als1,S,e1,fun v G' H' ls' s S' r=>h d v G' H' ls' als1 s r S' a⟩
 . exact a.elim
noncomputable section
variable {P:sE} {w:sT} {K:rK} {mg:Str->Option rJ} {base:tL} {X:Cx} {N:List Str} {sc:Scope} {k:Nat} {df:Bool} {C:rN} {ρ:List Nat} {a c e iter:Expr} {f g:FQ} {tf:FQT} {g1 g2:FS} {st:vN} {sts sts':List vN} {pos p2 px:Pos} {i:Nat} {x:Str} {src:Dn->Res (List rG)}
theorem Bf:QSs X C ρ [] W0:=PSs.imp Je fun D σ H h=>by obtain ⟨e,G,δ,ls,als,S,a⟩:=h; exact a σ G H ls S
theorem C4 (h1:QS X C ρ st g1) (h2:QSs X C ρ sts g2):QSs X C ρ (st::sts) (K2 g1 g2):=PSs.imp (P5 h1 h2) fun D σ H h=>by
 obtain ⟨e,G,δ,ls,als,S,a⟩:=h;refine ⟨e,G,δ,ls,als,S,?_⟩;unfold K2 at a;cases q:g1 δ als with
 | nx δ' als'=>rw [q] at a; exact fun σ' G' H' ls' S'=>⟨e,G',δ',ls',als',S',a⟩
 | rt d als'=>rw [q] at a; exact a
 | no=>rw [q] at a; exact a
theorem F9 (h1:QS X C ρ st g1):QSs X C ρ [st] g1:=N6 h1
theorem Ss:QSs X C ρ sts gNo:=PSs.imp Oq fun D σ H h=>by obtain ⟨e,G,δ,ls,als,S,a⟩:=h; exact a.elim
theorem T6 (h:QE X C ρ e f) (hs:tH e none pos.line X.env=pure false:=by rfl):QS X C ρ (.Expr e pos) (T8 f):=PS.imp (W7 h hs) fun D σ H z=>by
 obtain ⟨en,G,δ,ls,als,S,a⟩:=z;exact Mw S a fun d v G1 H1 ls1 als1 s r S1 a1=>a1 σ G1 H1 ls1 S1
theorem Q5 (h:QE X C ρ e f):QS X C ρ (.Return (some e) pos) (Aj f):=PS.imp (Dk h) fun D σ H z=>by
 obtain ⟨en,G,δ,ls,als,S,a⟩:=z;exact Mw S a fun d v G1 H1 ls1 als1 s r S1 a1=>a1 v G1 H1 σ δ ls1 S1 r
theorem mR (i:Nat) (h:QS X C ρ st g1):QS X C ρ st (gFz i g1):=PS.imp h fun D σ H z=>by
 obtain ⟨en,G,δ,ls,als,S,a⟩:=z;obtain ⟨G',S'⟩:=S.fz i;exact ⟨en,G',_,ls,als,S',a⟩
theorem Di (hc:QT X C ρ c tf) (h1:QSs X C ρ sts g1) (h2:QSs X C ρ sts' g2):QS X C ρ (.If c sts sts' pos) (gIf tf g1 g2):=PS.imp (Tb hc h1 h2) fun D σ H z=>by
 obtain ⟨en,G,δ,ls,als,S,a⟩:=z;unfold gIf W5 at a;split at a
 . rename_i d als1 e1
   refine ⟨en,G,δ,ls,als,d,als1,S,e1,fun G' H' ls' s S'=>?_⟩;cases d with
   | true=>exact fZ ⟨en,G',δ,ls',als1,S',a⟩
   | false=>exact gA ⟨en,G',δ,ls',als1,S',a⟩
 . exact a.elim
theorem Be (cx:Cxt P w K mg base X N sc k df) (i:Nat) (ho:okSet N sc df i x=true) (hi:i∉ρ) (h:QE X C ρ e f) (hs:tH e (some (.Name x px)) pos.line X.env=pure false:=by rfl):QS X C ρ (.Assign [.Name x px] e pos) (Gi i f):=by
 obtain ⟨h1,h2,h3,h4⟩:=okSet.ok cx ho;refine PS.imp (Z9 h1 h2 h3 h hs h4) fun D σ H z=>?_;obtain ⟨en,G,δ,ls,als,S,a⟩:=z;exact Mw S a fun d v G1 H1 ls1 als1 s r S1 a1=>a1 _ G1 H1 ls1 (S1.setD r hi)
theorem Ti {en:En} {G H:Hp} {σ:St} {δ:Dn} {ls:List AlbL} {als:List Alb} (S:ASt C ρ en G H σ δ ls als) {q:rN} (hq:H q=none) {d:rG} {o:HO} (hi:i∉ρ) (ho:OwnOk G (upd H q o) q d):ASt C ρ en G (upd H q o) (σ.set i (some (.ref q))) (δ.set i (.ow d)) ls als:=by
 have S1:=S.grow (Grow.own (o:=o) S.sr.sub hq);refine S1.setO (S.gr.nn q hq) (S.sr.sub.free hq) ho (fun j d' hj z=>?_) (fun j l h hb=>?_) hi
 . obtain ⟨y,y1,y2,y3⟩:=S.sr.sl j _ hj
   rw [z] at y1; cases y1;obtain ⟨u,hu⟩:=y3.some; rw [hq] at hu; cases hu
 . obtain ⟨_,A,_,_,_,a4⟩:=S.at_ j l h
   obtain ⟨_,u,hu,_⟩:=a4.there hb; rw [hq] at hu; cases hu
theorem jT (cx:Cxt P w K mg base X N sc k df) (i:Nat) (ho:okSet N sc df i x=true) (hi:i∉ρ) (hs:tH (.List [] p2) (some (.Name x px)) pos.line X.env=pure false:=by rfl):QS X C ρ (.Assign [.Name x px] (.List [] p2) pos) (mZ i):=by
 obtain ⟨h1,h2,h3,h4⟩:=okSet.ok cx ho;refine PS.imp (Z9 h1 h2 h3 (Fa F7) hs h4) fun D σ H z=>?_;obtain ⟨en,G,δ,ls,als,S,a⟩:=z;exact ⟨uA _,fun q hq=>a _ G _ ls (Ti S hq hi ⟨[],B7,rfl⟩)⟩
theorem jS (cx:Cxt P w K mg base X N sc k df) (i:Nat) (ho:okSet N sc df i x=true) (hi:i∉ρ) (h:QE X C ρ e f) (hs:tH (.List [e] p2) (some (.Name x px)) pos.line X.env=pure false:=by rfl)
   (he:rP [e] X.env=(false,eval e X.env)::rP [] X.env:=by rfl):QS X C ρ (.Assign [.Name x px] (.List [e] p2) pos) (Yr i f):=by
 obtain ⟨h1,h2,h3,h4⟩:=okSet.ok cx ho;refine PS.imp (Z9 h1 h2 h3 (Fa (C8 h F7 he)) hs h4) fun D σ H z=>?_;obtain ⟨en,G,δ,ls,als,S,a⟩:=z;refine Mw S a fun d v G1 H1 ls1 als1 s r S1 a1=>?_;exact ⟨(by show 1<=sizeLine; decide),fun q hq=>a1 _ G1 _ ls1 (Ti S1 hq hi ⟨[v],B7,RepL.cons r rfl⟩)⟩
theorem eF {cpos apos:Pos} (cx:Cxt P w K mg base X N sc k df) (i:Nat) (h:okVar N sc i x=true) (ha:QE X C ρ a f)
   (hbase:sQ (.Name x px) "append" X.env (eval (.Name x px) X.env)=eval (.Name x px) X.env:=by rfl)
   (hfew:((tR cpos (rP [a] X.env)).all (fun x => !x.1)&&(wI cpos (uJ [] X.env)).all (fun x=>x.1.isSome)
     && decide ([a].length+([]:List wU).length+(if ([]:List wU).isEmpty then 0 else 1) < 30))=true:=by rfl)
   (hline:(apos.endLine==cpos.line)=true:=by rfl) (hs:rP [a] X.env=(false,eval a X.env)::rP [] X.env:=by rfl) (hplain:(tR cpos (rP [] X.env)).any (·.1)=false:=by rfl)
   (hsw:tH (.Call (.Attribute (.Name x px) "append" apos) [a] [] cpos) none pos.line X.env=pure false:=by rfl) :
   QS X C ρ (.Expr (.Call (.Attribute (.Name x px) "append" apos) [a] [] cpos) pos) (Nu i f):=by
 refine PS.imp (W7 (Ie uB wE wD U6 (okVar.pe cx h) (C8 ha F7 hs) hbase hfew hline hs hplain) hsw) fun D σ H z=>?_;obtain ⟨en,G,δ,ls,als,S,aft⟩:=z;unfold Nu at aft;split at aft
 . rename_i ds hi
   obtain ⟨q,hσ,hg,xs,hx,rl⟩:=S.sr.own hi; refine ⟨.ref q,hσ,.inl ⟨rfl,xs,.inl (.inl hx)⟩,?_⟩; refine Mw S aft fun d v G1 H1 ls1 als1 s r S1 a1=>?_;obtain ⟨q',hσ',hg',xs',hx',rl'⟩:=S1.sr.own hi; rw [hσ] at hσ'; cases hσ';split at a1
   . rename_i hz
     refine ⟨q,xs',v,rfl,rfl,hx',by rw [<- rl'.length]; exact hz,?_⟩;exact a1 σ G1 _ ls1 (S1.writeO hi (by rw [hσ]; rfl) hg' ⟨xs'++[v],B7,rl'.append (RepL.cons r rfl)⟩)
   . exact a1.elim
 . exact aft.elim
theorem Ex (cx:Cxt P w K mg base X N sc k df) (i:Nat) (ho:okSet N sc df i x=true) (hn:i∉ρ) (hi:DI X E0k (.Name x px) iter src) (hb:QSs X C ρ sts g1) (hs:∀ x,uQ iter X.env x=pure x:=by intro _; rfl):QS X C ρ (.For (.Name x px) iter sts [] pos) (Mf src i g1):=by
 obtain ⟨h1,h2,h3,h4⟩:=okSet.ok cx ho;refine PS.imp (Wb cx.own cx.calm hi (Am h1 h2 h3 h4) hb hs) fun D σ H z=>?_;obtain ⟨en,G,δ,ls,als,S,aft⟩:=z;refine ⟨G,δ,S.sr,?_⟩;unfold Mf at aft;split at aft
 . rename_i ds es
   rw [es]; intro J G1 H1 gr W; have S1:=S.grow gr; have g01:=S1.gr; refine ⟨fun t n σ' H'=>n=ds.length - t/\t<=ds.length/\∃ G' δ' ls' als',ASt C ρ (en.at_ G1) G' H' σ' δ' ls' als'/\iF C ρ en (Vv i g1 (ds.drop t) δ' als') D,⟨_,rfl,uA _,G1,δ,ls,als,S1.rebase (Same.refl _) g01.g,by rw [yG]; exact aft⟩,?_⟩;rintro t n σ' H' ⟨rfl,ht,G',δ',ls',als',S',a'⟩;by_cases hlt:t < ds.length
   . have hd:ds[t]? = some ds[t]:=sH hlt
     have hdrop:ds.drop t=ds[t]::ds.drop (t+1):=uO hlt; rw [hdrop] at a'; unfold Vv at a'; refine .inr ⟨W.go t H' hlt (S'.gr.g.trans S'.sr.sub),fun σ2 H2=>∃ G' δ' ls' als',ASt C ρ (en.at_ G1) G' H2 σ2 δ' ls' als'/\iF C ρ en (Vv i g1 (ds.drop (t+1)) δ' als') D,fun σ2 H2 q=>⟨_,by omega,rfl,hlt,q⟩,fun y H'' hy=>?_⟩;obtain ⟨G3,g3,r3⟩:=W.yld t _ G' H' y H'' hd S'.gr.g S'.sr.sub hy; have S4:=(S'.grow g3).setD (i:=i) r3 hn; refine ⟨en.at_ G1,G3,_,ls',als',S4,?_⟩;cases eo:g1 (δ'.set i (.sh ds[t])) als' with
     | nx δ2 als2=>rw [eo] at a'; exact fun σ3 G4 H4 ls4 S5=>⟨G4,δ2,ls4,als2,S5,a'⟩
     | rt d als2=>rw [eo] at a'; exact fun v G4 H4 σ4 δ4 ls4 S5 r=>a' v G4 H4 σ4 δ4 ls4 (S5.unbase g01) r
     | no=>rw [eo] at a'; exact a'
   . refine .inl ⟨W.stop t H' (uV.mp hlt) (S'.gr.g.trans S'.sr.sub),?_⟩
     have:ds.drop t=[]:=vW (uV.mp hlt); rw [this] at a'; exact a' σ' G' H' ls' (S'.unbase g01)
 . exact aft.elim
end
end Sm
end
noncomputable section
namespace Sm
open PySem PySem.Spec PyProof.Rows PySem.W L2
noncomputable def Cv (N:List Str) (p:Nat) (ds:List rG):Dn:=((ds.map Sl.sh).take p++Sl.un::(ds.map Sl.sh).drop p)++sG (N.length - (ds.length+1)) .un
noncomputable def mA (N:List Str) (p:Nat) (go:FS):FM:=fun ds A=>match go (Cv N p ds) [A] with
 | .rt d [A']=>some (d,A')
 | .nx _ [A']=>some (.none,A')
 | _=>none
theorem ins_get {α:Type} (l:List α) (x:α) (p i:Nat) (hp:p<=l.length):(l.take p++x::l.drop p)[i]? = if i < p then l[i]? else if i=p then some x else l[i - 1]? := by
 by_cases h:i < p
 . rw [if_pos h,sI (by rw [uD]; lia),List.getElem?_take,if_pos h]
 . rw [if_neg h,sK (by rw [uD]; lia),uD,l9 hp]
   by_cases h2:i=p
   . rw [if_pos h2,h2,xE]; rfl
   . rw [if_neg h2]
     have:i - p=(i - 1 - p)+1:=by lia
     rw [this,j3,List.getElem?_drop];congr 1; lia
theorem Aa {p:Nat} {v:V} {vs:List V} (hp:p<=vs.length):(Nr p v vs).length=vs.length+1:=by
 unfold Nr;rw [sA,sD,uD,yM]; lia
theorem iS {C:rN} {G H:Hp} (hG:Same G H) {ds:List rG} {ws:List V} (r:RepL G ds ws) (N:List Str) {p:Nat} (hp:p<=ds.length) {l:AlbL} {A:Alb} (a:AlbAt C G H l A) :
   ASt C [p] ⟨(· ∈ l.parts),[l.x],G,H⟩ G H (T0 N (Nr p (.ref l.x) ws)) (Cv N p ds) [l] [A]:=by
 have hl:=r.length;have hpw:p<=ws.length:=by rw [<- hl]; exact hp
 have hpd:p<=(ds.map Sl.sh).length:=by rw [rY]; exact hp
 have hil:=Aa (v:=V.ref l.x) hpw;have hdl:((ds.map Sl.sh).take p++Sl.un::(ds.map Sl.sh).drop p).length=ds.length+1:=by
   rw [sA,sD,uD,yM,rY]; lia
 have sg:∀ i,i < ds.length+1->(T0 N (Nr p (.ref l.x) ws))[i]? = (if i < p then (ws[i]?).map some else if i=p then some (some (.ref l.x)) else (ws[i - 1]?).map some):=fun i hi=>by
   unfold L2.T0; rw [sI (by rw [rY,hil,<- hl]; exact hi),sB];unfold Nr; rw [ins_get ws _ p i hpw];split
   . rfl
   . split
     . rfl
     . rfl
 have dg:∀ (i:Nat) (s:Sl),(Cv N p ds)[i]? = some s->s=.un\/∃ d k,s=.sh d/\ds[k]? = some d/\(T0 N (Nr p (.ref l.x) ws))[i]? = (ws[k]?).map some:=fun i s e=>by
   unfold Cv at e;by_cases hi:i < ds.length+1
   . rw [sI (by rw [hdl]; exact hi),ins_get _ _ p i hpd] at e
     rw [sg i hi];by_cases h1:i < p
     . rw [if_pos h1,sB] at e
       rw [if_pos h1];cases q:ds[i]? with
       | none=>rw [q] at e; cases e
       | some d=>rw [q] at e; cases e; exact .inr ⟨d,i,rfl,q,rfl⟩
     . rw [if_neg h1] at e
       rw [if_neg h1];by_cases h2:i=p
       . rw [if_pos h2] at e; cases e; exact .inl rfl
       . rw [if_neg h2,sB] at e
         rw [if_neg h2];cases q:ds[i - 1]? with
         | none=>rw [q] at e; cases e
         | some d=>rw [q] at e; cases e; exact .inr ⟨d,i - 1,rfl,q,rfl⟩
   . rw [sK (by rw [hdl]; lia),vP] at e
     split at e <;> cases e
     exact .inl rfl
 have noow:∀ (i:Nat) (d:rG),(Cv N p ds)[i]? ≠ some (.ow d):=fun i d e=>by
   rcases dg i _ e with z | ⟨_,_,z,_⟩ <;> cases z
 refine ⟨⟨Same.refl _,fun _ _ e _=>e,hG,fun _ _ e=>.inl e,fun _ e=>e⟩,⟨hG,?_,fun i s e=>?_,fun i j x d d' e _ _ _=>absurd e (noow i d)⟩,fun i d x e _=>absurd e (noow i d),fun j x h=>?_,fun j m h=>?_,rfl,fun j m h b hb=>?_,fun j k m m' h h' _=>?_,fun i d x e _=>absurd e (noow i d)⟩
 . unfold L2.T0 Cv
   rw [sA,sA,rY,hil,hdl,wC,wC,hl]
 . rcases dg i s e with rfl | ⟨d,k,rfl,q,z⟩
   . trivial
   . obtain ⟨v,e1,rv⟩:=r.get q
     exact ⟨v,by rw [z,e1]; rfl,rv⟩
 . cases j with
   | zero=>cases h; exact ⟨l,rfl,rfl⟩
   | succ j=>cases h
 . cases j with
   | zero =>
     cases h; exact ⟨p,A,rfl,rfl,by rw [sg p (by lia),if_neg (xH p),if_pos rfl],a⟩
   | succ j=>cases h
 . cases j with
   | zero=>cases h; exact .inl hb
   | succ j=>cases h
 . cases j with
   | zero=>cases k with
     | zero=>rfl
     | succ k=>cases h'
   | succ j=>cases h
noncomputable section
variable {P:sE} {w:sT} {K:rK} {mg:Str->Option rJ} {base:tL} {X:Cx} {N:List Str} {k:Nat} {C:rN}
theorem gO {x qual:Str} {st:vN} {ps:List Str} {n p:Nat} {go:FS} {f:rN} {fd:vZ} (F:L2.Fun K x qual st f fd) (S:FnScope N ps (A0 st)) (hn:ps.length=n+1) (hp:p<=n)
   (body:∀ X,Cxt P w K mg base X N (A0 st) k true->QSs X C [p] (B6 st) go):FnOk P w K mg base CX0 (k+1) f fd ps (spA C p n (mA N p go)):=by
 refine F.ok S (fun vs H Q E h=>?_) (fun cdv A outer s H vs Q E hr h=>?_)
 . obtain ⟨G,ds,ws,l,A,d,A',rfl,hl,hG,r,_⟩:=h
   rw [Aa (by rw [<- r.length,hl]; exact hp),<- r.length,hl,hn]
 . obtain ⟨G,ds,ws,l,B,d,B',rfl,hl,hG,r,a,em,q⟩:=h
   refine ⟨_,body _ ⟨rfl,rfl,rfl,rfl,rfl,rfl,rfl,rfl,hr,fun _ _=>rfl,uN⟩,⟨(· ∈ l.parts),[l.x],G,H⟩,G,_,[l],[B],iS hG r N (by rw [hl]; exact hp) a,?_⟩;have fin:∀ G' H' σ δ ls (v:V),ASt C [p] ⟨(· ∈ l.parts),[l.x],G,H⟩ G' H' σ δ ls [B']->Rep G' d v->Q v H':=fun G' H' σ δ ls v S' r'=>by
     obtain ⟨l',h1,h2⟩:=S'.x0 0 l.x rfl; obtain ⟨i,A1,a1,a2,a3,a4⟩:=S'.at_ 0 l' h1; cases a1; exact q v G' H' l' S'.gr h2 a4 (S'.new 0 l' h1) r'
   unfold mA at em;split at em
   . rename_i d1 A1 eg
     cases em; rw [eg]; exact fun v G' H' σ δ ls S' r'=>fin G' H' σ δ ls v S' r'
   . rename_i δ1 A1 eg
     cases em; rw [eg]; exact fun σ G' H' ls S'=>fin G' H' σ δ1 ls .non S' rfl
   . cases em
theorem Q4 {d:rG} {n:Str}:rZ d (.str n)=true↔d=.str n:=by
 cases d with
 | str z=>exact qR _ _ rfl rfl
 | none=>simp [rZ]
 | bool _=>simp [rZ]
 | int _=>simp [rZ]
 | list _=>simp [rZ]
 | tuple _=>simp [rZ]
 | dict _=>simp [rZ]
noncomputable def Ml:Kvs->Str->Kvs
 | [],_=>[]
 | p::r,n=>if rZ p.1 (.str n)=true then r else p::Ml r n
theorem gT {n:Str}:∀ {bk:Kvs} {d:rG},F6 bk (.str n)=some d->∃ i,bk[i]? = some (.str n,d)/\Ml bk n=bk.eraseIdx i
 | [],_,h=>by cases h
 | p::r,d,h=>by
   unfold F6 at h; rw [tP] at h; unfold Ml;cases hq:rZ p.1 (.str n) with
   | true =>
     rw [hq] at h; cases h; rw [if_pos rfl]; refine ⟨0,?_,rfl⟩; have:=Q4.mp hq; obtain ⟨p1,p2⟩:=p; cases this; rfl
   | false =>
     rw [hq] at h; rw [if_neg (by decide)]; obtain ⟨i,h1,h2⟩:=gT (n:=n) (bk:=r) (d:=d) h; exact ⟨i+1,by simpa using h1,by rw [h2]; rfl⟩
def Hl:FM:=fun ds A=>match ds with
 | [.str n, b] => if A.bk.length < 1000 then (if Ci b = true then (match F6 A.bk (.str n) with
     | some _=>some (.none,{ A with bk:=Ml A.bk n })
     | none=>none) else some (.none,{ A with bk:=O6 A.bk (.str n) b })) else none
 | _=>none
theorem N3 {P:rN->Prop} {G H G1 H1:Hp} {p:rN} {o:HO} (g:Grow G H G1 H1) (hp:P p) (hg:G1 p=none):GrowP P G H G1 (upd H1 p o) :=
 ⟨g.g,fun b u e n=>by rw [B4 (fun (z:b=p)=>n (by rw [z]; exact hp))]; exact g.h b u e,fun b u e=>by rw [B4 (C0 e hg)]; exact g.gh b u e,g.fr,fun b e=>by
   by_cases z:b=p
   . rw [z,B7] at e; cases e
   . rw [B4 z] at e; exact g.h.free e⟩
theorem gM {x qual:Str} {st:vN} {f:rN} {fd:vZ} (F:L2.Fun K x qual st f fd) (S:FnScope ["self", "name", "book"] ["self", "name", "book"] (A0 st))
   (body:∀ X,Cxt P w K mg base X ["self", "name", "book"] (A0 st) k true->PSs X (B6 st) (nK C)):FnOk P w K mg base CX0 (k+1) f fd ["self", "name", "book"] (spA C 0 2 Hl):=by
 refine F.ok S (fun vs H Q E h=>?_) (fun cdv A outer s H vs Q E hr h=>?_)
 . obtain ⟨G,ds,ws,l,A,d,A',rfl,hl,hG,r,_⟩:=h
   rw [Aa (uA _),<- r.length,hl]; rfl
 . obtain ⟨G,ds,ws,l,B,d,B',rfl,hl,hG,r,a,em,q⟩:=h
   refine ⟨_,body _ ⟨rfl,rfl,rfl,rfl,rfl,rfl,rfl,rfl,hr,fun _ _=>rfl,uN⟩,?_⟩;unfold Hl at em;split at em
   . rename_i n b
     obtain ⟨v1,t1,rfl,r1,l1⟩:=r; obtain ⟨v2,t2,rfl,r2,l2⟩:=l1;cases (show _=_ from l2);split at em
     . rename_i hz
       have fin:∀ i G' H1 H',Grow G H G' H1->(∀ q,q≠l.db->H' q=H1 q)->Same G' H'->AlbAt C G' H' l { B with bk:=Ql B.bk n b i }->d=.none->B'={ B with bk:=Ql B.bk n b i }->Q .non H':=fun i G' H1 H' g1 g2 g3 a' ed eB=>by
         subst ed; subst eB; refine q .non G' H' l ⟨g1.g,fun z o e n=>?_,g3,g1.fr,fun z e=>?_⟩ rfl a' (fun _ h=>.inl h) rfl
         . rw [g2 z fun y=>n (by rw [y]; simp [AlbL.parts])]; exact g1.h z o e
         . by_cases y:z=l.db
           . obtain ⟨_,y1,_⟩:=a'.hb
             rw [y,y1] at e; cases e
           . rw [g2 z y] at e; exact g1.h.free e
       split at em
       . rename_i hb
         split at em
         . rename_i d0 ed
           obtain ⟨i,i1,i2⟩:=gT ed; refine ⟨G,l,B,n,b,v1,v2,i,rfl,hG,a,r1,r2,hz,fun _=>⟨_,i1⟩,fun G' H1 H' g1 g2 g3 a'=>fin i G' H1 H' g1 g2 g3 a' ?_ ?_⟩
           . cases em; rfl
           . cases em; unfold Ql; rw [if_pos hb,i2]
         . cases em
       . rename_i hb
         refine ⟨G,l,B,n,b,v1,v2,0,rfl,hG,a,r1,r2,hz,fun z=>absurd z hb,fun G' H1 H' g1 g2 g3 a'=>fin 0 G' H1 H' g1 g2 g3 a' ?_ ?_⟩
         . cases em; rfl
         . cases em; unfold Ql; rw [if_neg hb]
     . cases em
   . cases em
end
end Sm
end
noncomputable section
namespace Sm
open PySem PySem.Spec PyProof.Rows PySem.W L2
noncomputable section
variable {P:sE} {w:sT} {K:rK} {mg:Str->Option rJ} {base:tL} {X:Cx} {N:List Str} {sc:Scope} {k:Nat} {df:Bool} {C:rN}
def Sw:FQ:=fun δ als=>match als with
 | [A]=>match A.st[A.st.length - 1]? with
   | some d=>some (d,[{ A with st:=A.st.dropLast }])
   | none=>none
 | _=>none
theorem oK {p1 p2 p3 p4:Pos} (c:Cxt P w K mg base X N sc k df) (h0:okVar N sc 0 "self" = true) (cl:Cls K C) (n1:NoAttr K C "steps")
   (b1:sQ (.Name "self" p1) "steps" X.env (eval (.Name "self" p1) X.env)=eval (.Name "self" p1) X.env:=by rfl)
   (b3:sQ (.Attribute (.Name "self" p1) "steps" p2) "pop" X.env (eval (.Attribute (.Name "self" p1) "steps" p2) X.env)=eval (.Attribute (.Name "self" p1) "steps" p2) X.env:=by rfl) (hline:(p3.endLine==p4.line)=true:=by rfl) :
   QE X C [0] (.Call (.Attribute (.Attribute (.Name "self" p1) "steps" p2) "pop" p3) [] [] p4) Sw:=by
 refine PE.imp (We uB j7 j6 Wm (O0 (okVar.pe c h0) b1) b3 hline) fun σ H Q h=>?_;obtain ⟨en,G,δ,ls,als,d,als',S,ef,q⟩:=h;unfold Sw at ef;split at ef
 . rename_i A
   split at ef
   . rename_i d1 hd
     cases ef; obtain ⟨l,hl,a3,a⟩:=S.get (j:=0) (i:=0) rfl rfl; rw [<- c.hK] at cl n1; obtain ⟨xs,s1,s2⟩:=a.hs; obtain ⟨v,hv,rv⟩:=s2.get hd; rw [s2.length] at hv; refine ⟨.ref l.x,a3,l.x,C,l.dx,_,.ref l.ds,rfl,a.hx,cl,n1,rfl,.inl ⟨rfl,_,SqL.of s1⟩,l.ds,xs,v,rfl,rfl,s1,hv,?_⟩; exact q v G _ _ (Same.refl _) (S.step hl (N3 (Grow.refl S.sr.sub) (by simp [AlbL.parts]) a.gs) rfl (a.setS s2.dropLast) (fun _ h=>.inl h)) rv
   . cases ef
 . cases ef
noncomputable def gL (f:Dn->Res rG):FS:=fun δ als=>match als,f δ with
 | [A],.ok d=>if A.st.length < 1000 then .nx δ [{ A with st:=A.st++[d] }] else .no
 | _,_=>.no
theorem jW {p1 p2 p3 p4 p5:Pos} {e:Expr} {f:Dn->Res rG} (c:Cxt P w K mg base X N sc k df) (h0:okVar N sc 0 "self" = true) (cl:Cls K C) (n1:NoAttr K C "steps") (he:DE X E0k e f)
   (b1:sQ (.Name "self" p1) "steps" X.env (eval (.Name "self" p1) X.env)=eval (.Name "self" p1) X.env:=by rfl)
   (b3:sQ (.Attribute (.Name "self" p1) "steps" p2) "append" X.env (eval (.Attribute (.Name "self" p1) "steps" p2) X.env)=eval (.Attribute (.Name "self" p1) "steps" p2) X.env:=by rfl)
   (hfew:((tR p4 (rP [e] X.env)).all (fun x => !x.1)&&(wI p4 (uJ [] X.env)).all (fun x=>x.1.isSome)
     && decide ([e].length+([]:List wU).length+(if ([]:List wU).isEmpty then 0 else 1) < 30))=true:=by rfl)
   (hline:(p3.endLine==p4.line)=true:=by rfl) (hs:rP [e] X.env=(false,eval e X.env)::rP [] X.env:=by rfl) (hplain:(tR p4 (rP [] X.env)).any (·.1)=false:=by rfl)
   (hsw:tH (.Call (.Attribute (.Attribute (.Name "self" p1) "steps" p2) "append" p3) [e] [] p4) none p5.line X.env=pure false:=by rfl) :
   QS X C [0] (.Expr (.Call (.Attribute (.Attribute (.Name "self" p1) "steps" p2) "append" p3) [e] [] p4) p5) (gL f):=by
 refine PS.imp (W7 (Ie uB wE wD U6 (O0 (okVar.pe c h0) b1) (C8 he F7 hs) b3 hfew hline hs hplain) hsw) fun D σ H h=>?_;obtain ⟨en,G,δ,ls,als,S,aft⟩:=h;unfold gL at aft;split at aft
 . rename_i A d ed
   split at aft
   . rename_i hz
     obtain ⟨l,hl,a3,a⟩:=S.get (j:=0) (i:=0) rfl rfl; rw [<- c.hK] at cl n1; obtain ⟨xs,s1,s2⟩:=a.hs; refine ⟨.ref l.x,a3,l.x,C,l.dx,_,.ref l.ds,rfl,a.hx,cl,n1,rfl,.inl ⟨rfl,_,SqL.of s1⟩,G,δ,S.sr,?_⟩; rw [ed]; intro v G1 H1 g1 r1; have a1:=a.grow g1; obtain ⟨xs1,s3,s4⟩:=a1.hs; have hlen:xs1.length < sizeLine:=by rw [<- s4.length]; exact sP hz (by decide)
     refine ⟨l.ds,xs1,v,rfl,rfl,s3,hlen,?_⟩; exact aft σ G1 _ _ (S.step hl (N3 g1 (by simp [AlbL.parts]) a1.gs) rfl (a1.setS (s4.append (RepL.cons r1 rfl))) (fun _ h=>.inl h))
   . exact aft.elim
 . exact aft.elim
def Sy:FQT:=fun δ als=>match als with
 | [A]=>some (A.st.isEmpty,[A])
 | _=>none
theorem jQ {p1 p2 p3:Pos} (c:Cxt P w K mg base X N sc k df) (h0:okVar N sc 0 "self" = true) (cl:Cls K C) (n1:NoAttr K C "steps")
   (b1:sQ (.Name "self" p1) "steps" X.env (eval (.Name "self" p1) X.env)=eval (.Name "self" p1) X.env:=by rfl)
   (he:∀ whole,isTrue (.Attribute (.Name "self" p1) "steps" p2) X.env whole=(do let v <- whole; standAt (Expr.Attribute (.Name "self" p1) "steps" p2).pos; holding [v] (truthy v)):=by intro _; rfl) :
   QT X C [0] (.UnaryOp .Not (.Attribute (.Name "self" p1) "steps" p2) p3) Sy:=by
 refine PT.imp (Vz (Ga (O0 (okVar.pe c h0) b1) he)) fun σ H Q h=>?_;obtain ⟨en,G,δ,ls,als,d,als',S,ef,q⟩:=h;unfold Sy at ef;split at ef
 . rename_i A
   cases ef; obtain ⟨l,hl,a3,a⟩:=S.get (j:=0) (i:=0) rfl rfl; rw [<- c.hK] at cl n1; obtain ⟨xs,s1,s2⟩:=a.hs; refine ⟨.ref l.x,a3,l.x,C,l.dx,_,.ref l.ds,rfl,a.hx,cl,n1,rfl,!xs.isEmpty,.inl ⟨xs,.inl (.inl s1),rfl⟩,?_⟩; show Q (!!xs.isEmpty) H;rw [Bool.not_not,<- s2.isEmpty]; exact q G H ls (Same.refl _) S
 . cases ef
def Sv:FQ:=fun δ als=>match als with
 | [A]=>match A.tk[A.tk.length - 1]? with
   | some d=>some (d,[{ A with tk:=A.tk.dropLast }])
   | none=>none
 | _=>none
theorem oJ {p1 p2 p3 p4:Pos} (c:Cxt P w K mg base X N sc k df) (h0:okVar N sc 0 "self" = true) (cl:Cls K C) (n1:NoAttr K C "taken")
   (b1:sQ (.Name "self" p1) "taken" X.env (eval (.Name "self" p1) X.env)=eval (.Name "self" p1) X.env:=by rfl)
   (b3:sQ (.Attribute (.Name "self" p1) "taken" p2) "pop" X.env (eval (.Attribute (.Name "self" p1) "taken" p2) X.env)=eval (.Attribute (.Name "self" p1) "taken" p2) X.env:=by rfl) (hline:(p3.endLine==p4.line)=true:=by rfl) :
   QE X C [0] (.Call (.Attribute (.Attribute (.Name "self" p1) "taken" p2) "pop" p3) [] [] p4) Sv:=by
 refine PE.imp (We uB j7 j6 Wm (O0 (okVar.pe c h0) b1) b3 hline) fun σ H Q h=>?_;obtain ⟨en,G,δ,ls,als,d,als',S,ef,q⟩:=h;unfold Sv at ef;split at ef
 . rename_i A
   split at ef
   . rename_i d1 hd
     cases ef; obtain ⟨l,hl,a3,a⟩:=S.get (j:=0) (i:=0) rfl rfl; rw [<- c.hK] at cl n1; obtain ⟨xs,s1,s2⟩:=a.ht; obtain ⟨v,hv,rv⟩:=s2.get hd; rw [s2.length] at hv; refine ⟨.ref l.x,a3,l.x,C,l.dx,_,.ref l.dt,rfl,a.hx,cl,n1,rfl,.inl ⟨rfl,_,SqL.of s1⟩,l.dt,xs,v,rfl,rfl,s1,hv,?_⟩; exact q v G _ _ (Same.refl _) (S.step hl (N3 (Grow.refl S.sr.sub) (by simp [AlbL.parts]) a.gt) rfl (a.setT s2.dropLast) (fun _ h=>.inl h)) rv
   . cases ef
 . cases ef
noncomputable def gK (f:Dn->Res rG):FS:=fun δ als=>match als,f δ with
 | [A],.ok d=>if A.tk.length < 1000 then .nx δ [{ A with tk:=A.tk++[d] }] else .no
 | _,_=>.no
theorem jV {p1 p2 p3 p4 p5:Pos} {e:Expr} {f:Dn->Res rG} (c:Cxt P w K mg base X N sc k df) (h0:okVar N sc 0 "self" = true) (cl:Cls K C) (n1:NoAttr K C "taken") (he:DE X E0k e f)
   (b1:sQ (.Name "self" p1) "taken" X.env (eval (.Name "self" p1) X.env)=eval (.Name "self" p1) X.env:=by rfl)
   (b3:sQ (.Attribute (.Name "self" p1) "taken" p2) "append" X.env (eval (.Attribute (.Name "self" p1) "taken" p2) X.env)=eval (.Attribute (.Name "self" p1) "taken" p2) X.env:=by rfl)
   (hfew:((tR p4 (rP [e] X.env)).all (fun x => !x.1)&&(wI p4 (uJ [] X.env)).all (fun x=>x.1.isSome)
     && decide ([e].length+([]:List wU).length+(if ([]:List wU).isEmpty then 0 else 1) < 30))=true:=by rfl)
   (hline:(p3.endLine==p4.line)=true:=by rfl) (hs:rP [e] X.env=(false,eval e X.env)::rP [] X.env:=by rfl) (hplain:(tR p4 (rP [] X.env)).any (·.1)=false:=by rfl)
   (hsw:tH (.Call (.Attribute (.Attribute (.Name "self" p1) "taken" p2) "append" p3) [e] [] p4) none p5.line X.env=pure false:=by rfl) :
   QS X C [0] (.Expr (.Call (.Attribute (.Attribute (.Name "self" p1) "taken" p2) "append" p3) [e] [] p4) p5) (gK f):=by
 refine PS.imp (W7 (Ie uB wE wD U6 (O0 (okVar.pe c h0) b1) (C8 he F7 hs) b3 hfew hline hs hplain) hsw) fun D σ H h=>?_;obtain ⟨en,G,δ,ls,als,S,aft⟩:=h;unfold gK at aft;split at aft
 . rename_i A d ed
   split at aft
   . rename_i hz
     obtain ⟨l,hl,a3,a⟩:=S.get (j:=0) (i:=0) rfl rfl; rw [<- c.hK] at cl n1; obtain ⟨xs,s1,s2⟩:=a.ht; refine ⟨.ref l.x,a3,l.x,C,l.dx,_,.ref l.dt,rfl,a.hx,cl,n1,rfl,.inl ⟨rfl,_,SqL.of s1⟩,G,δ,S.sr,?_⟩; rw [ed]; intro v G1 H1 g1 r1; have a1:=a.grow g1; obtain ⟨xs1,s3,s4⟩:=a1.ht; have hlen:xs1.length < sizeLine:=by rw [<- s4.length]; exact sP hz (by decide)
     refine ⟨l.dt,xs1,v,rfl,rfl,s3,hlen,?_⟩; exact aft σ G1 _ _ (S.step hl (N3 g1 (by simp [AlbL.parts]) a1.gt) rfl (a1.setT (s4.append (RepL.cons r1 rfl))) (fun _ h=>.inl h))
   . exact aft.elim
 . exact aft.elim
def Sx:FQT:=fun δ als=>match als with
 | [A]=>some (A.tk.isEmpty,[A])
 | _=>none
theorem jP {p1 p2 p3:Pos} (c:Cxt P w K mg base X N sc k df) (h0:okVar N sc 0 "self" = true) (cl:Cls K C) (n1:NoAttr K C "taken")
   (b1:sQ (.Name "self" p1) "taken" X.env (eval (.Name "self" p1) X.env)=eval (.Name "self" p1) X.env:=by rfl)
   (he:∀ whole,isTrue (.Attribute (.Name "self" p1) "taken" p2) X.env whole=(do let v <- whole; standAt (Expr.Attribute (.Name "self" p1) "taken" p2).pos; holding [v] (truthy v)):=by intro _; rfl) :
   QT X C [0] (.UnaryOp .Not (.Attribute (.Name "self" p1) "taken" p2) p3) Sx:=by
 refine PT.imp (Vz (Ga (O0 (okVar.pe c h0) b1) he)) fun σ H Q h=>?_;obtain ⟨en,G,δ,ls,als,d,als',S,ef,q⟩:=h;unfold Sx at ef;split at ef
 . rename_i A
   cases ef; obtain ⟨l,hl,a3,a⟩:=S.get (j:=0) (i:=0) rfl rfl; rw [<- c.hK] at cl n1; obtain ⟨xs,s1,s2⟩:=a.ht; refine ⟨.ref l.x,a3,l.x,C,l.dx,_,.ref l.dt,rfl,a.hx,cl,n1,rfl,!xs.isEmpty,.inl ⟨xs,.inl (.inl s1),rfl⟩,?_⟩; show Q (!!xs.isEmpty) H;rw [Bool.not_not,<- s2.isEmpty]; exact q G H ls (Same.refl _) S
 . cases ef
theorem SR.get_sh {G H:Hp} {σ:St} {δ:Dn} (S:SR G H σ δ) {i:Nat} {d:rG} (h:δ[i]? = some (.sh d)):∃ v,σ[i]? = some (some v)/\Rep G d v:=by
 obtain ⟨v,e,r⟩:=S.sl i _ h;cases q:σ[i]? with
 | none=>rw [q] at e; cases e
 | some z=>rw [q] at e; cases z with
   | none=>cases e
   | some z=>cases e; exact ⟨_,rfl,r⟩
def gI:FS:=fun δ als=>match als,δ with
 | [A],[_,.sh wd,.sh (.str n),.sh b]=>if A.st.length < 1000 then .nx δ [{ A with st:=A.st++[.tuple [wd,.str n,(F6 A.bk (.str n)).getD .none,b]] }] else .no
 | _,_=>.no
theorem jR {p1 p2 p3 p4 p5 p6 p7 p8 p9 q1 q2 q3 q4 q5:Pos} {x1:Nat} (c:Cxt P w K mg base X N sc k df) (h0:okVar N sc 0 "self" = true) (h1:okVar N sc 1 "word" = true) (h2:okVar N sc 2 "name" = true) (h3:okVar N sc 3 "book" = true) (cl:Cls K C) (n1:NoAttr K C "books") (n2:NoAttr K C "steps")
   (b1:sQ (.Name "self" p1) "steps" X.env (eval (.Name "self" p1) X.env)=eval (.Name "self" p1) X.env:=by rfl) (b2:sQ (.Name "self" p6) "books" X.env (eval (.Name "self" p6) X.env)=eval (.Name "self" p6) X.env:=by rfl)
   (b3:sQ (.Attribute (.Name "self" p1) "steps" p2) "append" X.env (eval (.Attribute (.Name "self" p1) "steps" p2) X.env)=eval (.Attribute (.Name "self" p1) "steps" p2) X.env:=by rfl)
   (m:M1 X (.Attribute (.Name "self" p6) "books" p7) "get" p8 (.Name "name" p9) q1:=by exact ⟨rfl,rfl,rfl,rfl⟩)
   (hfew:((tR q4 (rP [.Tuple [.Name "word" p4,.Name "name" p5,.Call (.Attribute (.Attribute (.Name "self" p6) "books" p7) "get" p8) [.Name "name" p9] [] q1,.Name "book" q2] x1 q3] X.env)).all (fun x => !x.1)&&(wI q4 (uJ [] X.env)).all (fun x=>x.1.isSome)
     && decide ([Expr.Tuple [.Name "word" p4,.Name "name" p5,.Call (.Attribute (.Attribute (.Name "self" p6) "books" p7) "get" p8) [.Name "name" p9] [] q1,.Name "book" q2] x1 q3].length+([]:List wU).length+(if ([]:List wU).isEmpty then 0 else 1) < 30))=true:=by rfl)
   (hline:(p3.endLine==q4.line)=true:=by rfl)
   (hsw:tH (.Call (.Attribute (.Attribute (.Name "self" p1) "steps" p2) "append" p3) [.Tuple [.Name "word" p4,.Name "name" p5,.Call (.Attribute (.Attribute (.Name "self" p6) "books" p7) "get" p8) [.Name "name" p9] [] q1,.Name "book" q2] x1 q3] [] q4) none q5.line X.env=pure false:=by rfl) :
   QS X C [0] (.Expr (.Call (.Attribute (.Attribute (.Name "self" p1) "steps" p2) "append" p3) [.Tuple [.Name "word" p4,.Name "name" p5,.Call (.Attribute (.Attribute (.Name "self" p6) "books" p7) "get" p8) [.Name "name" p9] [] q1,.Name "book" q2] x1 q3] [] q4) q5) gI:=by
 have hu:X.A.units+16 < uY:=by have:=c.hu; lia
 refine PS.imp (W7 (Ie uB wE wD U6 (O0 (okVar.pe c h0) b1) (C8 (Ls (C8 (okVar.pe c h1) (C8 (okVar.pe c h2) (C8 (eV hu (O0 (okVar.pe c h0) b2) (okVar.pe c h2) m) (C8 (okVar.pe c h3) F7))))) F7) b3 hfew hline) hsw) fun D σ H h=>?_;obtain ⟨en,G,δ,ls,als,S,aft⟩:=h;unfold gI at aft;split at aft
 . rename_i A s0 wd n b
   split at aft
   . rename_i hl0
     obtain ⟨l,hl,a3,a⟩:=S.get (j:=0) (i:=0) rfl rfl; obtain ⟨v1,e1,r1⟩:=S.sr.get_sh (i:=1) rfl; obtain ⟨v2,e2,r2⟩:=S.sr.get_sh (i:=2) rfl; obtain ⟨v3,e3,r3⟩:=S.sr.get_sh (i:=3) rfl; have hG:=S.sr.sub; rw [<- c.hK] at cl n1 n2; obtain ⟨kk,k1,k2,k3⟩:=a.hb; obtain ⟨xs,s1,s2⟩:=a.hs; have kr:KRep H (.str n) v2:=Dg hG rfl r2; have hxl:xs.length=A.st.length:=s2.length.symm; refine ⟨.ref l.x,a3,l.x,C,l.dx,_,.ref l.ds,rfl,a.hx,cl,n2,rfl,.inl ⟨rfl,_,SqL.of s1⟩,v1,e1,v2,e2,.ref l.x,a3,l.x,C,l.dx,_,.ref l.db,rfl,a.hx,cl,n1,rfl,l.db,kk,rfl,.inl k1,v2,e2,kk,.str n,.inl k1,kr,rfl,v3,e3,(by show 4<=sizeLine; decide),fun t ht=>?_⟩;have hts:l.ds≠t:=C0 s1 ht; have gr:=Grow.new (o:=.tup [v1,v2,(K7 kk (.str n)).getD .non,v3]) hG ht; refine ⟨l.ds,xs,.ref t,rfl,rfl,by rw [B4 hts]; exact s1,sP (show xs.length < 1000 by lia) (by decide),?_⟩
     have a1:=a.grow gr; refine aft σ _ _ _ (S.step hl (N3 gr (by simp [AlbL.parts]) a1.gs) rfl (a1.setS (xs:=xs++[.ref t]) ?_) (fun _ h=>.inl h));refine (s2.mono gr.g).append (RepL.cons ⟨t,_,rfl,B7,?_⟩ rfl); have rg:Rep G ((F6 A.bk (.str n)).getD .none) ((K7 kk (.str n)).getD .non):=by
       rcases Bt (k:=.str n) k2 k3 with ⟨z1,z2⟩ | ⟨d0,v0,z1,z2,rd⟩
       . rw [z1,z2]; exact rfl
       . rw [z1,z2]; exact rd
     exact RepL.cons (r1.mono gr.g) (RepL.cons (r2.mono gr.g) (RepL.cons (rg.mono gr.g) (RepL.cons (r3.mono gr.g) rfl)))
   . exact aft.elim
 . exact aft.elim
def Ws:FS:=fun δ als=>match als with
 | [A]=>.nx δ [{ A with tk:=[] }]
 | _=>.no
theorem eE {p1 p2 p3 p4:Pos} (c:Cxt P w K mg base X N sc k df) (h0:okVar N sc 0 "self" = true) (cl:Cls K C) (n1:NoAttr K C "taken") (hs:tH (.List [] p3) (some (.Attribute (.Name "self" p1) "taken" p2)) p4.line X.env=pure false:=by rfl) :
   QS X C [0] (.Assign [.Attribute (.Name "self" p1) "taken" p2] (.List [] p3) p4) Ws:=by
 refine PS.imp (Ez (okVar.pe c h0) (Fa F7) hs) fun D σ H h=>?_;obtain ⟨en,G,δ,ls,als,S,aft⟩:=h;unfold Ws at aft;split at aft
 . rename_i A
   obtain ⟨l,hl,a3,a⟩:=S.get (j:=0) (i:=0) rfl rfl; have hG:=S.sr.sub; rw [<- c.hK] at cl n1; refine ⟨uA _,fun t ht=>?_⟩;have hxt:l.x≠t:=C0 a.hx ht; refine ⟨.ref l.x,a3,l.x,C,l.dx,_,rfl,by rw [B4 hxt]; exact a.hx,cl,n1,(by show 3 < 1000; decide),?_⟩;refine aft σ G _ _ (S.step (l':={ l with dt:=t }) hl (N3 (Grow.own (o:=.lst []) hG ht) (by simp [AlbL.parts]) a.gx) rfl (a.newT ht hG) (fun b hb=>?_));unfold AlbL.parts at hb ⊢;simp only [rT,uH,or_false] at hb ⊢;rcases hb with rfl | rfl | rfl | rfl
   . exact .inl (.inl rfl)
   . exact .inl (.inr (.inl rfl))
   . exact .inl (.inr (.inr (.inl rfl)))
   . exact .inr ht
 . exact aft.elim
def Ve (C:rN):TS:=fun D σ H=>∃ G l A n v1 d,σ[0]? = some (some (.ref l.x))/\σ[1]? = some (some v1)/\Same G H/\AlbAt C G H l A/\Rep G (.str n) v1/\F6 A.bk (.str n)=some d/\∀ v,Rep G d v->D.rt v H
theorem iZ {p1 p2 p3 p4 p5 q1 q2 q3 q4 q5:Pos} {sts:List vN} (c:Cxt P w K mg base X N sc k df) (h0:okVar N sc 0 "self" = true) (h1:okVar N sc 1 "name" = true) (cl:Cls K C) (n1:NoAttr K C "books")
   (b1:sQ (.Name "self" p2) "books" X.env (eval (.Name "self" p2) X.env)=eval (.Name "self" p2) X.env:=by rfl) (b2:sQ (.Name "self" q1) "books" X.env (eval (.Name "self" q1) X.env)=eval (.Name "self" q1) X.env:=by rfl)
   (hm:behindInMarks .NotIn (.Attribute (.Name "self" p2) "books" p3)=false:=by with_unfolding_all rfl) :
   PSs X [.If (.Compare (.Name "name" p1) [.NotIn] [.Attribute (.Name "self" p2) "books" p3] p4) sts [] p5,.Return (some (.Subscript (.Attribute (.Name "self" q1) "books" q2) (.Name "name" q3) q4)) q5] (Ve C):=by
 have hu:X.A.units+16 < uY:=by have:=c.hu; lia
 refine PSs.imp (P5 (Tb (Wa (Hh hu (okVar.pe c h1) (O0 (okVar.pe c h0) b1)) hm) Oq Je) (N6 (Dk (eT hu (O0 (okVar.pe c h0) b2) (okVar.pe c h1) (fun _ _=>rfl))))) fun D σ H h=>?_;obtain ⟨G,l,A,n,v1,d,e0,e1,hG,a,r1,hd,q⟩:=h;rw [<- c.hK] at cl n1;obtain ⟨kk,k1,k2,k3⟩:=a.hb;have kr:KRep H (.str n) v1:=Dg hG rfl r1;rcases Bt (k:=.str n) k2 k3 with ⟨z1,z2⟩ | ⟨d0,v0,z1,z2,rd⟩
 . rw [z1] at hd; cases hd
 . rw [z1] at hd; cases hd
   refine ⟨v1,e1,.ref l.x,e0,l.x,C,l.dx,_,.ref l.db,rfl,a.hx,cl,n1,rfl,l.db,kk,.str n,rfl,.inl k1,kr,rfl,false,by rw [z2]; rfl,?_⟩;exact gA ⟨.ref l.x,e0,l.x,C,l.dx,_,.ref l.db,rfl,a.hx,cl,n1,rfl,v1,e1,l.db,kk,.str n,v0,rfl,.inl k1,kr,rfl,z2,q v0 rd⟩
noncomputable def W4:List rG->Alb->Option rG:=fun ds A=>match ds with
 | [.str n]=>F6 A.bk (.str n)
 | _=>none
noncomputable def M7:List rG->Alb->Option rG:=fun ds A=>match Q2 (A.bk.map (·.1)) with
 | some ss=>if ss.length < 64/\(ss.all fun x=>sW x&&decide (x.length<=1000))=true then some (.list ((Cz ss).map .str)) else none
 | none=>none
noncomputable def C7:List rG->Alb->Option rG:=fun _ A=>some (.tuple [.int (A.st.length:Int),.int (A.tk.length:Int)])
theorem Wv {x qual:Str} {st:vN} {f:rN} {fd:vZ} (F:L2.Fun K x qual st f fd) (S:FnScope ["self", "name"] ["self", "name"] (A0 st))
   (body:∀ X,Cxt P w K mg base X ["self", "name"] (A0 st) k true->PSs X (B6 st) (Ve C)):FnOk P w K mg base CX0 (k+1) f fd ["self", "name"] (spR C 0 1 W4):=by
 refine F.ok S (fun vs H Q E h=>?_) (fun cdv A outer s H vs Q E hr h=>?_)
 . obtain ⟨G,ds,ws,l,A,d,rfl,hl,hG,r,_⟩:=h
   rw [Aa (uA _),<- r.length,hl]; rfl
 . obtain ⟨G,ds,ws,l,B,d,rfl,hl,hG,r,a,em,q⟩:=h
   refine ⟨_,body _ ⟨rfl,rfl,rfl,rfl,rfl,rfl,rfl,rfl,hr,fun _ _=>rfl,uN⟩,?_⟩;unfold W4 at em;split at em
   . rename_i n
     obtain ⟨v1,t1,rfl,r1,l1⟩:=r;cases (show _=_ from l1);exact ⟨G,l,B,n,v1,d,rfl,rfl,hG,a,r1,em,fun v rv=>q v G H (Grow.refl hG) rv⟩
   . cases em
theorem Wu {x qual:Str} {st:vN} {f:rN} {fd:vZ} (F:L2.Fun K x qual st f fd) (S:FnScope ["self"] ["self"] (A0 st))
   (body:∀ X,Cxt P w K mg base X ["self"] (A0 st) k true->PSs X (B6 st) (fun D σ H=>Ps C σ H D.rt)):FnOk P w K mg base CX0 (k+1) f fd ["self"] (spR C 0 0 M7):=by
 refine F.ok S (fun vs H Q E h=>?_) (fun cdv A outer s H vs Q E hr h=>?_)
 . obtain ⟨G,ds,ws,l,A,d,rfl,hl,hG,r,_⟩:=h
   rw [Aa (uA _),<- r.length,hl]; rfl
 . obtain ⟨G,ds,ws,l,B,d,rfl,hl,hG,r,a,em,q⟩:=h
   refine ⟨_,body _ ⟨rfl,rfl,rfl,rfl,rfl,rfl,rfl,rfl,hr,fun _ _=>rfl,uN⟩,?_⟩;unfold M7 at em;split at em
   . rename_i ss es
     split at em
     . rename_i hc
       cases em; exact ⟨G,l,B,ss,rfl,hG,a,es,hc.1,hc.2,fun v G' H' g rv=>q v G' H' g rv⟩
     . cases em
   . cases em
def Xm (C:rN):TS:=fun D σ H=>∃ G l A,σ[0]? = some (some (.ref l.x))/\Same G H/\AlbAt C G H l A/\∀ v G' H',Grow G H G' H'->Rep G' (.tuple [.int (A.st.length:Int),.int (A.tk.length:Int)]) v->D.rt v H'
theorem Ub {x qual:Str} {st:vN} {f:rN} {fd:vZ} (F:L2.Fun K x qual st f fd) (S:FnScope ["self"] ["self"] (A0 st))
   (body:∀ X,Cxt P w K mg base X ["self"] (A0 st) k true->PSs X (B6 st) (Xm C)):FnOk P w K mg base CX0 (k+1) f fd ["self"] (spR C 0 0 C7):=by
 refine F.ok S (fun vs H Q E h=>?_) (fun cdv A outer s H vs Q E hr h=>?_)
 . obtain ⟨G,ds,ws,l,A,d,rfl,hl,hG,r,_⟩:=h
   rw [Aa (uA _),<- r.length,hl]; rfl
 . obtain ⟨G,ds,ws,l,B,d,rfl,hl,hG,r,a,em,q⟩:=h
   cases em; exact ⟨_,body _ ⟨rfl,rfl,rfl,rfl,rfl,rfl,rfl,rfl,hr,fun _ _=>rfl,uN⟩,G,l,B,rfl,hG,a,fun v G' H' g rv=>q v G' H' g rv⟩
end
end Sm
end
noncomputable section
namespace Sm
open PySem PySem.Spec PyProof.Rows PySem.W L2
noncomputable def Cg (A:Alb):List rG->Option (List rG)
 | []=>some []
 | n::r=>match W4 [n] A,Cg A r with
   | some b,some t=>some (.tuple [n,b]::t)
   | _,_=>none
noncomputable def I8:List rG->Alb->Option rG:=fun _ A=>match M7 [] A with
 | some (.list ns)=>match Cg A ns with
   | some r=>some (.list r)
   | none=>none
 | _=>none
def nL (C:rN):TS:=fun D σ H=>∃ G l A d,σ[0]? = some (some (.ref l.x))/\Same G H/\AlbAt C G H l A/\I8 [] A=some d/\∀ v G' H',Grow G H G' H'->Rep G' d v->D.rt v H'
noncomputable section
variable {P:sE} {w:sT} {K:rK} {mg:Str->Option rJ} {base:tL} {X:Cx} {N:List Str} {sc:Scope} {k k1 k2:Nat} {df:Bool} {C:rN}
theorem s_now {x y:Str} {p1 p2 p3 p4 p5 q1 q2 q3 q4 q5 q6 q7:Pos} {x1:Nat} {scope:Scope} {pl:Sem Bool} {pl':Cx->Sem Bool} (c:Cxt P w K mg base X N sc k df) (ho:okComp N sc scope [x] [y] [0]=true) (h0:okVar N sc 0 y=true) (h1:okVar ([x]++[y]) (Ee scope sc) 0 x=true) (h2:okVar ([x]++[y]) (Ee scope sc) 1 y=true)
   (cl:Cls K C) (F1:MethR P w K mg base C "names" k1 0 M7) (F2:MethR P w K mg base C "fetch" k2 1 W4) (hk1:k1<=k) (hk2:k2<=k)
   (t1:eval (.Call (.Attribute (.Name y p1) "names" p2) [] [] p3) X.env=(do
     let ov <- eval (.Name y p1) X.env
     standAt p2.atName
     let (f,first) <- holding [ov] (zF ov "names" pl)
     i6 p3 f first (tR p3 (rP [] X.env)) (wI p3 (uJ [] X.env))):=by rfl)
   (hst:∀ X':Cx,rP [.Name x q4] X'.env=(false,eval (.Name x q4) X'.env)::rP [] X'.env:=by intro _; rfl) (hpl:∀ X':Cx,(tR q5 (rP [] X'.env)).any (·.1)=false:=by intro _; rfl)
   (t2:∀ X':Cx,eval (.Call (.Attribute (.Name y q2) "fetch" q3) [.Name x q4] [] q5) X'.env=(do
     let ov <- eval (.Name y q2) X'.env
     standAt q3.atName
     let (f,first) <- holding [ov] (zF ov "fetch" (pl' X'))
     i6 q5 f first (tR q5 (rP [.Name x q4] X'.env)) (wI q5 (uJ [] X'.env))):=by intro _; rfl)
   (hs1:∀ X':Cx,rP [.Name x q1,.Call (.Attribute (.Name y q2) "fetch" q3) [.Name x q4] [] q5] X'.env=(false,eval (.Name x q1) X'.env)::rP [.Call (.Attribute (.Name y q2) "fetch" q3) [.Name x q4] [] q5] X'.env:=by intro _; rfl)
   (hs2:∀ X':Cx,rP [.Call (.Attribute (.Name y q2) "fetch" q3) [.Name x q4] [] q5] X'.env=(false,eval (.Call (.Attribute (.Name y q2) "fetch" q3) [.Name x q4] [] q5) X'.env)::rP [] X'.env:=by intro _; rfl)
   (hs:∀ z,uQ (.Call (.Attribute (.Name y p1) "names" p2) [] [] p3) X.env z=pure z:=by intro _; rfl) :
   PSs X [.Return (some (.ListComp (.Tuple [.Name x q1,.Call (.Attribute (.Name y q2) "fetch" q3) [.Name x q4] [] q5] x1 q6) [⟨.Name x p4,.Call (.Attribute (.Name y p1) "names" p2) [] [] p3,[],0⟩] scope p5)) q7] (nL C):=by
 have o:=okComp.ok ho;obtain ⟨f1,fd1,ps1,F1,M1,B1⟩:=F1.ex;obtain ⟨f2,fd2,ps2,F2,M2,B2⟩:=F2.ex;have F1':FnOk X.prog X.w X.K X.mg X.base CX0 k1 f1 fd1 ps1 (spR C 0 0 M7):=by rw [c.hP,c.hw,c.hK,c.hmg,c.hb]; exact F1
 have hi:=kD (tg:=.Name x p4) (Lu (okVar.pe c h0) (by rw [c.hK]; exact cl) (by rw [c.hK]; exact M1) F1' (c.room.mono hk1) (by rw [c.hK]; exact B1) .nil (Em (X:=X)) t1);have he:∀ X',Blk X X' ([x]++[y]) (wM scope X.env)->PE X' (.Tuple [.Name x q1,.Call (.Attribute (.Name y q2) "fetch" q3) [.Name x q4] [] q5] x1 q6) (tTup (Xn (Vd 0) (Xn (cM C "fetch" (spR C 0 1 W4) [] E0 (Vd 1) (Xn (Vd 0) cL)) cL))):=fun X' B=>by
   have c':=c.blk B; have F2':FnOk X'.prog X'.w X'.K X'.mg X'.base CX0 k2 f2 fd2 ps2 (spR C 0 1 W4):=by rw [c'.hP,c'.hw,c'.hK,c'.hmg,c'.hb]; exact F2
   exact Ls (C8 (okVar.pe c' h1) (C8 (Yd (okVar.pe c' h2) (by rw [c'.hK]; exact cl) (by rw [c'.hK]; exact M2) F2' (c'.room.mono hk2) (by rw [c'.hK]; exact B2) .nil (Em (X:=X')) (C8 (okVar.pe c' h1) F7 (hst X')) (hst X') (hpl X') (t2 X')) F7 (hs2 X')) (hs1 X'))
 refine PSs.imp (N6 (Dk (Yf (g:=An 0) c.calm (Cl c o) hi (fun X' B=>?_) (fun X' B=>Xz) he hs))) fun D σ H h=>?_
 . have C':=c.blk B
   have hl:X'.env.scope.names.lookup x=some .local:=by rw [C'.hs]; exact o.h9 x (by simp)
   exact Am (by rw [C'.hN]; exact o.h8) (by rw [C'.hN]; rfl) (.inl hl) (.inr hl)
 obtain ⟨G,l,A,d,e0,hG,a,em,q⟩:=h;unfold I8 at em;split at em
 . rename_i ns en
   split at em
   . rename_i rows er
     cases em; refine ⟨.ref l.x,e0,l.x,l.dx,_,rfl,a.hx,noFld.lk (by decide +kernel),G,[],[],l,A,.list ns,rfl,rfl,hG,rfl,a,en,fun v G1 H1 g1 r1=>?_⟩;obtain ⟨p,xs,rfl,hp,hl⟩:=r1; refine ⟨p,rfl,⟨xs,.inl (Rd.mono g1.gh hp)⟩,fun D' hD=>?_⟩;have W:=Ob (K:=X.K) hp hl; have hσb:([x].map (fun _=>(none:Option V))++Bm σ [0])=[none,some (.ref l.x)]:=by
       unfold Bm; simp only [rV,wT,e0,vR,tM,Option.join_some]
     rw [show (fun σ:St=>[x].map (fun _=>(none:Option V))++Bm σ [0]) σ=[none,some (.ref l.x)] from hσb];refine ⟨fun i n H'=>n=ns.length - i/\i<=ns.length/\∃ G' acc yd r,Grow G1 H1 G' H'/\G' D'=none/\H' D'=some (.lst acc)/\RepL G' yd acc/\yd.length=i/\Cg A (ns.drop i)=some r/\rows=yd++r,
       ⟨_,rfl,uA _,G1,[],[],rows,Grow.own g1.gh hD,g1.gh.free hD,B7,rfl,rfl,by rw [yG]; exact er,rfl⟩,?_⟩
     rintro i n H' ⟨rfl,hi,G',acc,yd,r,g2,nD,hDa,ry,hyl,hr,hrows⟩;by_cases hlt:i < ns.length
     . have hd:ns[i]? = some ns[i]:=sH hlt
       have hdrop:ns.drop i=ns[i]::ns.drop (i+1):=uO hlt; refine .inr ⟨W.go i H' hlt (g2.g.trans g2.gh),fun H''=>∃ n',n' < ns.length - i/\(n'=ns.length - (i+1)/\i+1<=ns.length/\∃ G' acc yd r,Grow G1 H1 G' H''/\G' D'=none/\H'' D'=some (.lst acc)/\RepL G' yd acc/\yd.length=i+1/\Cg A (ns.drop (i+1))=some r/\rows=yd++r),fun H'' q=>?_,fun z H'' hy=>?_⟩
       . obtain ⟨n',z1,z2⟩:=q
         exact ⟨n',z1,z2⟩
       . obtain ⟨G3,g3,r3⟩:=W.yld i _ G' H' z H'' hd g2.g g2.gh hy
         have g13:=g2.trans g3; have nD3:G3 D'=none:=g3.out nD hDa (fun _ z=>nomatch z);rw [hdrop] at hr; unfold Cg at hr;split at hr
         . rename_i b t eb et
           cases hr; have a3:=a.grow (g1.trans g13); refine ⟨⟨rfl,fun j v z=>?_⟩,fZ ⟨z,rfl,.ref l.x,rfl,l.x,l.dx,_,rfl,a3.hx,noFld.lk (by decide +kernel),z,rfl,G3,[ns[i]],[z],l,A,b,rfl,rfl,g3.gh,RepL.cons r3 rfl,a3,eb,fun v G4 H4 g4 r4=>⟨(by show 2<=sizeLine; decide),fun t ht=>?_⟩⟩⟩
           . match j with
             | 0=>cases z
             | 1=>exact z
             | j+2=>cases z
           . have g5:=Grow.new (o:=.tup [z,v]) g4.gh ht
             have g35:=g4.trans g5; have hD5:(upd H4 t (.tup [z,v])) D'=some (.lst acc):=g35.h _ _ (g3.h _ _ hDa); have nD5:(upd G4 t (.tup [z,v])) D'=none:=g35.out nD3 (g3.h _ _ hDa) (fun _ z=>nomatch z);have hal:acc.length=i:=by rw [<- ry.length]; exact hyl
             have hns:ns.length<=1000:=by
               unfold M7 at en;split at en
               . split at en
                 . rename_i ss _ hc
                   cases en; rw [rY,(Z2 ss).length_eq]; lia
                 . cases en
               . cases en
             refine ⟨acc,hD5,by rw [hal]; exact sP (show i < 1000 by lia) (by decide),_,by lia,rfl,hlt,upd G4 t (.tup [z,v]),acc++[.ref t],yd++[.tuple [ns[i],b]],_,?_,nD5,B7,?_,by rw [sA,hyl]; rfl,et,by rw [hrows,xZ]; rfl⟩
             . have g15:=g13.trans g35
               refine ⟨g15.g,fun b o q=>?_,fun b o q=>?_,g15.fr⟩
               . rw [B4 (C0 q hD)]; exact g15.h _ _ q
               . rw [B4 (C0 q nD5)]; exact g15.gh _ _ q
             . refine (ry.mono (g3.g.trans g35.g)).append (RepL.cons ⟨t,_,rfl,B7,?_⟩ rfl)
               exact RepL.cons (r3.mono g35.g) (RepL.cons (r4.mono g5.g) rfl)
         . cases hr
     . refine .inl ⟨W.stop i H' (uV.mp hlt) (g2.g.trans g2.gh),?_⟩
       have:ns.drop i=[]:=vW (uV.mp hlt); rw [this] at hr; cases hr; rw [uG] at hrows; subst hrows; have sh:=(g1.trans g2).share (g1.h.free hD) nD hDa; exact q (.ref D') _ H' sh ⟨D',acc,rfl,.inl B7,ry.mono (Same.upd nD)⟩
   . cases em
 . cases em
theorem gN {x qual:Str} {st:vN} {ps:List Str} {f:rN} {fd:vZ} (F:L2.Fun K x qual st f fd) (S:FnScope N ps (A0 st)) (hn:ps.length=1)
   (body:∀ X,Cxt P w K mg base X N (A0 st) k true->PSs X (B6 st) (nL C)):FnOk P w K mg base CX0 (k+1) f fd ps (spR C 0 0 I8):=by
 refine F.ok S (fun vs H Q E h=>?_) (fun cdv A outer s H vs Q E hr h=>?_)
 . obtain ⟨G,ds,ws,l,A,d,rfl,hl,hG,r,_⟩:=h
   rw [Aa (uA _),<- r.length,hl,hn]
 . obtain ⟨G,ds,ws,l,B,d,rfl,hl,hG,r,a,em,q⟩:=h
   exact ⟨_,body _ ⟨rfl,rfl,rfl,rfl,rfl,rfl,rfl,rfl,hr,fun _ _=>rfl,uN⟩,G,l,B,d,rfl,hG,a,em,fun v G' H' g rv=>q v G' H' g rv⟩
end
end Sm
end
noncomputable section
namespace Sm
open PySem PySem.Spec PyProof.Rows PySem.W L2
def Ja:Alb:=⟨[],[],[]⟩
def Vi (C:rN):Sp:=fun vs H Q _=>∃ G x dx,vs=[.ref x]/\Same G H/\G x=none/\H x=some (.ins C dx []) /\
 ∀ l H',l.x=x->GrowP (· = x) G H G H'->AlbAt C G H' l Ja->(∀ b∈l.parts,b=x\/H b=none)->Q .non H'
def cN (C:rN):TS:=fun D σ H=>∃ G x dx,σ[0]? = some (some (.ref x))/\Same G H/\G x=none/\H x=some (.ins C dx []) /\
 ∀ l H',l.x=x->GrowP (· = x) G H G H'->AlbAt C G H' l Ja->(∀ b∈l.parts,b=x\/H b=none)->D.nx σ H'
noncomputable section
variable {P:sE} {w:sT} {K:rK} {mg:Str->Option rJ} {base:tL} {X:Cx} {N:List Str} {sc:Scope} {k:Nat} {df:Bool} {C:rN}
theorem nU {p1 p2 p3 p4 q1 q2 q3 q4 r1 r2 r3 r4:Pos} (c:Cxt P w K mg base X N sc k df) (h0:okVar N sc 0 "self" = true) (cl:Cls K C) (n1:NoAttr K C "books") (n2:NoAttr K C "steps") (n3:NoAttr K C "taken")
   (s1:tH (.Dict [] [] p3) (some (.Attribute (.Name "self" p1) "books" p2)) p4.line X.env=pure false:=by rfl) (s2:tH (.List [] q3) (some (.Attribute (.Name "self" q1) "steps" q2)) q4.line X.env=pure false:=by rfl) (s3:tH (.List [] r3) (some (.Attribute (.Name "self" r1) "taken" r2)) r4.line X.env=pure false:=by rfl) :
   PSs X [.Assign [.Attribute (.Name "self" p1) "books" p2] (.Dict [] [] p3) p4,.Assign [.Attribute (.Name "self" q1) "steps" q2] (.List [] q3) q4,.Assign [.Attribute (.Name "self" r1) "taken" r2] (.List [] r3) r4] (cN C):=by
 refine PSs.imp (P5 (Ez (okVar.pe c h0) Td s1) (P5 (Ez (okVar.pe c h0) (Fa F7) s2) (N6 (Ez (okVar.pe c h0) (Fa F7) s3)))) fun D σ H h=>?_;obtain ⟨G,x,dx,e0,hG,gx,hx,q⟩:=h;rw [<- c.hK] at cl n1 n2 n3;intro d1 h1;have x1:x≠d1:=C0 hx h1;refine ⟨.ref x,e0,x,C,dx,[],rfl,by rw [B4 x1]; exact hx,cl,n1,(by show 0 < 1000; decide),?_⟩;have g1:GrowP (· = x) G H G (upd (upd H d1 (.dN [])) x (.ins C dx [("books",.ref d1)])):=N3 (Grow.own hG h1) rfl gx;refine ⟨uA _,fun d2 h2=>?_⟩;have h2':upd (upd H d1 (.dN [])) x (.ins C dx [("books",.ref d1)]) d2=none:=h2;have x2:x≠d2:=C0 (o:=.ins C dx [("books",.ref d1)]) B7 h2'
 refine ⟨.ref x,e0,x,C,dx,[("books",.ref d1)],rfl,by rw [B4 x2]; exact B7,cl,n2,(by show 1 < 1000; decide),?_⟩;have g2:GrowP (· = x) G _ G (upd (upd (upd (upd H d1 (.dN [])) x (.ins C dx [("books",.ref d1)])) d2 (.lst [])) x (.ins C dx [("books",.ref d1),("steps",.ref d2)])):=N3 (Grow.own g1.gh h2') rfl gx;refine ⟨uA _,fun d3 h3=>?_⟩;have h3':upd (upd (upd (upd H d1 (.dN [])) x (.ins C dx [("books",.ref d1)])) d2 (.lst [])) x (.ins C dx [("books",.ref d1),("steps",.ref d2)]) d3=none:=h3;have x3:x≠d3:=C0 (o:=.ins C dx [("books",.ref d1),("steps",.ref d2)]) B7 h3';refine ⟨.ref x,e0,x,C,dx,[("books",.ref d1),("steps",.ref d2)],rfl,by rw [B4 x3]; exact B7,cl,n3,(by show 2 < 1000; decide),?_⟩
 have g3:GrowP (· = x) G _ G (upd (upd (upd (upd (upd (upd H d1 (.dN [])) x (.ins C dx [("books",.ref d1)])) d2 (.lst [])) x (.ins C dx [("books",.ref d1),("steps",.ref d2)])) d3 (.lst [])) x (.ins C dx [("books",.ref d1),("steps",.ref d2),("taken",.ref d3)])):=N3 (Grow.own g2.gh h3') rfl gx;have k1:upd (upd H d1 (.dN [])) x (.ins C dx [("books",.ref d1)]) d1=some (.dN []):=by rw [B4 x1.symm]; exact B7
 have k2:upd (upd (upd (upd H d1 (.dN [])) x (.ins C dx [("books",.ref d1)])) d2 (.lst [])) x (.ins C dx [("books",.ref d1),("steps",.ref d2)]) d2=some (.lst []):=by rw [B4 x2.symm]; exact B7
 refine q ⟨x,dx,d1,d2,d3⟩ _ rfl ((g1.trans g2 fun b z=>.inl z).trans g3 fun b z=>.inl z) ⟨B7,⟨[],g3.h _ _ (g2.h _ _ k1 x1.symm) x1.symm,rfl,rfl⟩,⟨[],g3.h _ _ k2 x2.symm,rfl⟩,⟨[],?_,rfl⟩,gx,hG.free h1,g1.gh.free h2',g2.gh.free h3',C0 k2 h3'⟩ (fun b hb=>?_)
 . rw [B4 x3.symm]; exact B7
 . unfold AlbL.parts at hb
   simp only [rT,uH,or_false] at hb; rcases hb with rfl | rfl | rfl | rfl
   . exact .inl rfl
   . exact .inr h1
   . exact .inr (g1.nn _ h2')
   . exact .inr (g1.nn _ (g2.nn _ h3'))
theorem bG {x qual:Str} {st:vN} {f:rN} {fd:vZ} (F:L2.Fun K x qual st f fd) (S:FnScope ["self"] ["self"] (A0 st))
   (body:∀ X,Cxt P w K mg base X ["self"] (A0 st) k true->PSs X (B6 st) (cN C)):FnOk P w K mg base CX0 (k+1) f fd ["self"] (Vi C):=by
 refine F.ok S (fun vs H Q E h=>?_) (fun cdv A outer s H vs Q E hr h=>?_)
 . obtain ⟨G,x,dx,rfl,_⟩:=h; rfl
 . obtain ⟨G,x,dx,rfl,hG,gx,hx,q⟩:=h
   exact ⟨_,body _ ⟨rfl,rfl,rfl,rfl,rfl,rfl,rfl,rfl,hr,fun _ _=>rfl,uN⟩,G,x,dx,rfl,hG,gx,hx,fun l H' h1 h2 h3 h4=>q l H' h1 h2 h3 h4⟩
structure MkA (P:sE) (w:sT) (K:rK) (mg:Str->Option rJ) (base:tL) (C:rN) (x:Str) (k:Nat):Prop where
 ex:∃ f fd ps,Mk K C f/\FnOk P w K mg base CX0 k f fd ps (Vi C)/\mg x=some (.ref C)/\Binds K fd ps []
def tNewA (C:rN):TE:=fun σ H Q=>∃ G,Same G H/\∀ l H',Grow G H G H'->AlbAt C G H' l Ja->(∀ b∈l.parts,H b=none)->Q (.ref l.x) H'
theorem Yc {x:Str} {p1 p2:Pos} {j:Nat} (c:Cxt P w K mg base X N sc k df) (F:MkA P w K mg base C x j) (hj:j+1<=k) (h:okGl sc x=true):PE X (.Call (.Name x p1) [] [] p2) (tNewA C):=by
 obtain ⟨f,fd,ps,M,F,hm,B⟩:=F.ex;obtain ⟨h1,h2,h3⟩:=okGl.gl c h;have F':FnOk X.prog X.w X.K X.mg X.base CX0 j f fd ps (Vi C):=by rw [c.hP,c.hw,c.hK,c.hmg,c.hb]; exact F
 refine PE.imp (eW (by rw [c.hK]; exact M) F' (c.room.mono hj) h1 (by rw [c.hmg]; exact hm) (by rw [c.hK]; exact B) .nil (Em (X:=X)) h2) fun σ H Q z=>?_;obtain ⟨G,hG,q⟩:=z;intro x dx hx hdx hne;have g0:=Grow.own (o:=.own x) hG hdx;have hx1:upd H dx (.own x) x=none:=by rw [B4 hne.symm]; exact hx
 have g1:=g0.trans (Grow.own (o:=.ins C dx []) g0.gh hx1);refine ⟨G,x,dx,rfl,g1.gh,hG.free hx,B7,fun l H' e1 e2 e3 e4=>⟨rfl,?_⟩⟩;subst e1;refine q l H' ⟨Same.refl _,fun b o e=>e2.h b o (g1.h b o e) (C0 e hx),e2.gh,fun _ _ e=>.inl e⟩ e3 fun b hb=>?_;rcases e4 b hb with rfl | z
 . exact hx
 . exact g1.h.free z
theorem AlbAt.newB {G H:Hp} {l:AlbL} {A:Alb} (a:AlbAt C G H l A) {t:rN} (ht:H t=none) (hG:Same G H) {kk:List (rG×V)} {bk:Kvs} (h1:bk.map (·.1)=kk.map (·.1)) (h2:RepL G (bk.map (·.2)) (kk.map (·.2))) :
   AlbAt C G (upd (upd H t (.dN kk)) l.x (.ins C l.dx [("books",.ref t),("steps",.ref l.ds),("taken",.ref l.dt)])) { l with db:=t } { A with bk:=bk }:=by
 obtain ⟨xs,s1,s2⟩:=a.hs;obtain ⟨ys,t1,t2⟩:=a.ht;have n0:t≠l.x:=fun z=>by rw [z,a.hx] at ht; cases ht
 refine ⟨B7,⟨kk,?_,h1,h2⟩,⟨xs,?_,s2⟩,⟨ys,?_,t2⟩,a.gx,hG.free ht,a.gs,a.gt,a.ne⟩
 . show upd (upd H t (.dN kk)) l.x _ t=_
   rw [B4 n0]; exact B7
 . rw [B4 (P6 s1 a.hx (fun z=>nomatch z)),B4 (C0 s1 ht)]; exact s1
 . rw [B4 (P6 t1 a.hx (fun z=>nomatch z)),B4 (C0 t1 ht)]; exact t1
theorem AlbAt.newS {G H:Hp} {l:AlbL} {A:Alb} (a:AlbAt C G H l A) {t:rN} (ht:H t=none) (hG:Same G H) {xs:List V} {st:List rG} (h:RepL G st xs) :
   AlbAt C G (upd (upd H t (.lst xs)) l.x (.ins C l.dx [("books",.ref l.db),("steps",.ref t),("taken",.ref l.dt)])) { l with ds:=t } { A with st:=st }:=by
 obtain ⟨kk,b1,b2,b3⟩:=a.hb;obtain ⟨ys,t1,t2⟩:=a.ht;have n0:t≠l.x:=fun z=>by rw [z,a.hx] at ht; cases ht
 refine ⟨B7,⟨kk,?_,b2,b3⟩,⟨xs,?_,h⟩,⟨ys,?_,t2⟩,a.gx,a.gb,hG.free ht,a.gt,?_⟩
 . rw [B4 (P6 b1 a.hx (fun z=>nomatch z)),B4 (C0 b1 ht)]; exact b1
 . show upd (upd H t (.lst xs)) l.x _ t=_
   rw [B4 n0]; exact B7
 . rw [B4 (P6 t1 a.hx (fun z=>nomatch z)),B4 (C0 t1 ht)]; exact t1
 . exact (C0 t1 ht).symm
theorem AlbAt.newU {G H:Hp} {l:AlbL} {A:Alb} (a:AlbAt C G H l A) {t:rN} (ht:H t=none) (hG:Same G H) {xs:List V} {tk:List rG} (h:RepL G tk xs) :
   AlbAt C G (upd (upd H t (.lst xs)) l.x (.ins C l.dx [("books",.ref l.db),("steps",.ref l.ds),("taken",.ref t)])) { l with dt:=t } { A with tk:=tk }:=by
 obtain ⟨kk,b1,b2,b3⟩:=a.hb;obtain ⟨ys,s1,s2⟩:=a.hs;have n0:t≠l.x:=fun z=>by rw [z,a.hx] at ht; cases ht
 refine ⟨B7,⟨kk,?_,b2,b3⟩,⟨ys,?_,s2⟩,⟨xs,?_,h⟩,a.gx,a.gb,a.gs,hG.free ht,?_⟩
 . rw [B4 (P6 b1 a.hx (fun z=>nomatch z)),B4 (C0 b1 ht)]; exact b1
 . rw [B4 (P6 s1 a.hx (fun z=>nomatch z)),B4 (C0 s1 ht)]; exact s1
 . show upd (upd H t (.lst xs)) l.x _ t=_
   rw [B4 n0]; exact B7
 . exact C0 s1 ht
theorem oS {v a b c:V}:Cf "books" v [("books",a),("steps",b),("taken",c)]=([("books",v),("steps",b),("taken",c)]:List (Str×V)):=rfl
theorem oR {v a b c:V}:Cf "steps" v [("books",a),("steps",b),("taken",c)]=([("books",a),("steps",v),("taken",c)]:List (Str×V)):=rfl
theorem oQ {v a b c:V}:Cf "taken" v [("books",a),("steps",b),("taken",c)]=([("books",a),("steps",b),("taken",v)]:List (Str×V)):=rfl
structure Tw (C:rN) (G H Hk:Hp) (l:AlbL) (B:Alb):Prop where
 g:Grow G H G Hk
 a:AlbAt C G Hk l B
 n:∀ b∈l.parts,H b=none
theorem Tw.next {G H Hk:Hp} {l l':AlbL} {B B':Alb} (T:Tw C G H Hk l B) {t:rN} (ht:Hk t=none) {o u:HO} (a:AlbAt C G (upd (upd Hk t o) l.x u) l' B') (hp:∀ b∈l'.parts,b∈l.parts\/b=t):Tw C G H (upd (upd Hk t o) l.x u) l' B':=by
 have hx:H l.x=none:=T.n _ (by simp [AlbL.parts]);have g:=N3 (P:=(· = l.x)) (o:=u) (Grow.own (o:=o) T.g.gh ht) rfl T.a.gx;refine ⟨⟨Same.refl _,fun b v e=>g.h b v (T.g.h b v e) (C0 e hx),g.gh,fun _ _ e=>.inl e⟩,a,fun b hb=>?_⟩;rcases hp b hb with z | rfl
 . exact T.n b z
 . exact T.g.h.free ht
def cK (C:rN):TS:=fun D σ H=>∃ G l A ss,σ=[some (.ref l.x),none]/\Same G H/\AlbAt C G H l A/\Q2 (A.bk.map (·.1))=some ss/\A.bk.length<=8 /\
 ∀ l' H',Grow G H G H'->AlbAt C G H' l' A->(∀ b∈l'.parts,H b=none)->D.rt (.ref l'.x) H'
theorem nT {p1 p2 p3 p4 q1 q2 q3 q4 q5 q6 q7 r1 r2 r3 r4 r5 r6 r7 u1 u2 u3 u4 u5 u6 u7 v1 v2:Pos} {j:Nat} (c:Cxt P w K mg base X ["self", "other"] sc k df) (h0:okVar ["self", "other"] sc 0 "self" = true) (h1:okVar ["self", "other"] sc 1 "other" = true) (hset:okSet ["self", "other"] sc df 1 "other" = true) (F:MkA P w K mg base C "Album" j) (hj:j+1<=k) (hA:okGl sc "Album" = true)
   (hd:okGl sc "dict" = true) (md:mg "dict" = none) (hl:okGl sc "list" = true) (ml:mg "list" = none) (cl:Cls K C) (n1:NoAttr K C "books") (n2:NoAttr K C "steps") (n3:NoAttr K C "taken")
   (s0:tH (.Call (.Name "Album" p1) [] [] p2) (some (.Name "other" p3)) p4.line X.env=pure false:=by rfl)
   (s1:tH (.Call (.Name "dict" q3) [.Attribute (.Name "self" q4) "books" q5] [] q6) (some (.Attribute (.Name "other" q1) "books" q2)) q7.line X.env=pure false:=by rfl)
   (s2:tH (.Call (.Name "list" r3) [.Attribute (.Name "self" r4) "steps" r5] [] r6) (some (.Attribute (.Name "other" r1) "steps" r2)) r7.line X.env=pure false:=by rfl)
   (s3:tH (.Call (.Name "list" u3) [.Attribute (.Name "self" u4) "taken" u5] [] u6) (some (.Attribute (.Name "other" u1) "taken" u2)) u7.line X.env=pure false:=by rfl)
   (b1:sQ (.Name "self" q4) "books" X.env (eval (.Name "self" q4) X.env)=eval (.Name "self" q4) X.env:=by rfl) (b2:sQ (.Name "self" r4) "steps" X.env (eval (.Name "self" r4) X.env)=eval (.Name "self" r4) X.env:=by rfl) (b3:sQ (.Name "self" u4) "taken" X.env (eval (.Name "self" u4) X.env)=eval (.Name "self" u4) X.env:=by rfl)
   (he1:rP [.Attribute (.Name "self" q4) "books" q5] X.env=(false,eval (.Attribute (.Name "self" q4) "books" q5) X.env)::rP [] X.env:=by rfl) (hp1:(tR q6 (rP [] X.env)).any (·.1)=false:=by rfl)
   (he2:rP [.Attribute (.Name "self" r4) "steps" r5] X.env=(false,eval (.Attribute (.Name "self" r4) "steps" r5) X.env)::rP [] X.env:=by rfl) (hp2:(tR r6 (rP [] X.env)).any (·.1)=false:=by rfl)
   (he3:rP [.Attribute (.Name "self" u4) "taken" u5] X.env=(false,eval (.Attribute (.Name "self" u4) "taken" u5) X.env)::rP [] X.env:=by rfl) (hp3:(tR u6 (rP [] X.env)).any (·.1)=false:=by rfl) :
   PSs X [.Assign [.Name "other" p3] (.Call (.Name "Album" p1) [] [] p2) p4,.Assign [.Attribute (.Name "other" q1) "books" q2] (.Call (.Name "dict" q3) [.Attribute (.Name "self" q4) "books" q5] [] q6) q7,
     .Assign [.Attribute (.Name "other" r1) "steps" r2] (.Call (.Name "list" r3) [.Attribute (.Name "self" r4) "steps" r5] [] r6) r7,.Assign [.Attribute (.Name "other" u1) "taken" u2] (.Call (.Name "list" u3) [.Attribute (.Name "self" u4) "taken" u5] [] u6) u7,.Return (some (.Name "other" v1)) v2] (cK C):=by
 obtain ⟨o1,o2,o3,o4⟩:=okSet.ok c hset;obtain ⟨d1,d2,d3⟩:=okGl.gl c hd;obtain ⟨l1,l2,l3⟩:=okGl.gl c hl;have pd:=Ez (okVar.pe c h1 (p:=q1)) (Dy (Xe c.hu) d1 (by rw [c.hmg]; exact md) (by decide +kernel) (C8 (O0 (okVar.pe c h0) b1) F7 he1) d3 d2 he1 hp1) s1;have pl:=Ez (okVar.pe c h1 (p:=r1)) (Dy Gm l1 (by rw [c.hmg]; exact ml) (by decide +kernel) (C8 (O0 (okVar.pe c h0) b2) F7 he2) l3 l2 he2 hp2) s2;have pt:=Ez (okVar.pe c h1 (p:=u1)) (Dy Gm l1 (by rw [c.hmg]; exact ml) (by decide +kernel) (C8 (O0 (okVar.pe c h0) b3) F7 he3) l3 l2 he3 hp3) s3;refine PSs.imp (P5 (Z9 o1 o2 o3 (Yc c F hj hA) s0 o4) (P5 pd (P5 pl (P5 pt (N6 (Dk (okVar.pe c h1))))))) fun D σ H h=>?_
 obtain ⟨G,l,A,ss,rfl,hG,a,hss,h8,q⟩:=h;rw [<- c.hK] at cl n1 n2 n3;refine ⟨G,hG,fun m H1 g1 a1 n1'=>?_⟩;have T1:Tw C G H H1 m Ja:=⟨g1,a1,n1'⟩;have as1:=a.grow T1.g;obtain ⟨kk,k1,k2,k3⟩:=as1.hb;refine ⟨.ref l.x,rfl,l.x,C,l.dx,_,.ref l.db,rfl,as1.hx,cl,n1,rfl,l.db,kk,ss,rfl,.inl k1,by rw [<- k2]; exact Jt hss,?_,fun t1 ht1=>?_⟩
 . have:=congrArg yZ k2
   rw [rY,rY] at this;lia
 have hm1:m.x≠t1:=C0 T1.a.hx ht1;refine ⟨.ref m.x,rfl,m.x,C,m.dx,_,rfl,by rw [B4 hm1]; exact T1.a.hx,cl,n1,(by show 3 < 1000; decide),?_⟩;rw [oS];have T2:Tw C G H _ { m with db:=t1 } { Ja with bk:=A.bk }:=T1.next ht1 (T1.a.newB ht1 T1.g.gh k2 k3) (fun b hb=>by
   unfold AlbL.parts at hb ⊢;simp only [rT,uH,or_false] at hb ⊢;rcases hb with h | h | h | h
   . exact .inl (.inl h)
   . exact .inr h
   . exact .inl (.inr (.inr (.inl h)))
   . exact .inl (.inr (.inr (.inr h))))
 have as2:=a.grow T2.g;obtain ⟨xs,x1,x2⟩:=as2.hs;refine ⟨.ref l.x,rfl,l.x,C,l.dx,_,.ref l.ds,rfl,as2.hx,cl,n2,rfl,l.ds,xs,rfl,.inl (SqL.of x1),fun t2 ht2=>?_⟩;have hm2:m.x≠t2:=C0 T2.a.hx ht2;refine ⟨.ref m.x,rfl,m.x,C,m.dx,_,rfl,(B4 hm2).trans T2.a.hx,cl,n2,(by show 3 < 1000; decide),?_⟩;rw [oR];have T3:Tw C G H _ { m with db:=t1,ds:=t2 } { Ja with bk:=A.bk,st:=A.st }:=T2.next ht2 (T2.a.newS ht2 T2.g.gh x2) (fun b hb=>by
   unfold AlbL.parts at hb ⊢;simp only [rT,uH,or_false] at hb ⊢;rcases hb with h | h | h | h
   . exact .inl (.inl h)
   . exact .inl (.inr (.inl h))
   . exact .inr h
   . exact .inl (.inr (.inr (.inr h))))
 have as3:=a.grow T3.g;obtain ⟨ys,y1,y2⟩:=as3.ht;refine ⟨.ref l.x,rfl,l.x,C,l.dx,_,.ref l.dt,rfl,as3.hx,cl,n3,rfl,l.dt,ys,rfl,.inl (SqL.of y1),fun t3 ht3=>?_⟩;have hm3:m.x≠t3:=C0 T3.a.hx ht3;refine ⟨.ref m.x,rfl,m.x,C,m.dx,_,rfl,(B4 hm3).trans T3.a.hx,cl,n3,(by show 3 < 1000; decide),?_⟩;rw [oQ];have T4:Tw C G H _ { m with db:=t1,ds:=t2,dt:=t3 } A:=T3.next ht3 (T3.a.newU ht3 T3.g.gh y2) (fun b hb=>by
   unfold AlbL.parts at hb ⊢;simp only [rT,uH,or_false] at hb ⊢;rcases hb with h | h | h | h
   . exact .inl (.inl h)
   . exact .inl (.inr (.inl h))
   . exact .inl (.inr (.inr (.inl h)))
   . exact .inr h)
 exact ⟨.ref m.x,rfl,q { m with db:=t1,ds:=t2,dt:=t3 } _ T4.g T4.a T4.n⟩
def Vh (C:rN):Sp:=fun vs H Q _=>∃ G l A ss,vs=[.ref l.x]/\Same G H/\AlbAt C G H l A/\Q2 (A.bk.map (·.1))=some ss/\A.bk.length<=8 /\
 ∀ l' H',Grow G H G H'->AlbAt C G H' l' A->(∀ b∈l'.parts,H b=none)->Q (.ref l'.x) H'
theorem bF {x qual:Str} {st:vN} {f:rN} {fd:vZ} (F:L2.Fun K x qual st f fd) (S:FnScope ["self", "other"] ["self"] (A0 st))
   (body:∀ X,Cxt P w K mg base X ["self", "other"] (A0 st) k true->PSs X (B6 st) (cK C)):FnOk P w K mg base CX0 (k+1) f fd ["self"] (Vh C):=by
 refine F.ok S (fun vs H Q E h=>?_) (fun cdv A outer s H vs Q E hr h=>?_)
 . obtain ⟨G,l,A,ss,rfl,_⟩:=h; rfl
 . obtain ⟨G,l,A,ss,rfl,h1,h2,h3,h4,q⟩:=h
   exact ⟨_,body _ ⟨rfl,rfl,rfl,rfl,rfl,rfl,rfl,rfl,hr,fun _ _=>rfl,uN⟩,G,l,A,ss,rfl,h1,h2,h3,h4,fun l' H' g a n=>q l' H' g a n⟩
structure MethT (P:sE) (w:sT) (K:rK) (mg:Str->Option rJ) (base:tL) (C:rN) (k:Nat):Prop where
 ex:∃ f fd ps,FnOk P w K mg base CX0 k f fd ps (Vh C)/\Meth K C "twin" f/\Binds K fd ps []
end
end Sm
end
noncomputable section
namespace Sm
open PySem PySem.Spec PyProof.Rows PySem.W L2
noncomputable section
variable {C:rN} {ρ:List Nat} {e:En} {G H G' H':Hp} {σ:St} {δ:Dn} {ls:List AlbL} {als:List Alb} {l':AlbL} {A:Alb} {i:Nat}
theorem ASt.more (S:ASt C ρ e G H σ δ ls als) (g:Grow G H G' H') (a:AlbAt C G' H' l' A) (hn:∀ b∈l'.parts,H b=none) (hρ:ρ[als.length]? = some i) (nd:ρ.Nodup) (hu:δ[i]? = some .un):ASt C ρ e G' H' (σ.set i (some (.ref l'.x))) δ (ls++[l']) (als++[A]):=by
 have S1:=S.grow g;have hl:=S.sr.len;have hi:i < σ.length:=by rw [hl]; exact (rQ.mp hu).1
 have key:∀ (k:Nat) m,(ls++[l'])[k]? = some m->(k=ls.length/\m=l')\/(k < ls.length/\ls[k]? = some m):=fun k m h=>by
   by_cases q:k < ls.length
   . rw [sI q] at h; exact .inr ⟨q,h⟩
   . rw [sK (uV.mp q)] at h
     cases z:k - ls.length with
     | zero=>rw [z] at h; cases h; exact .inl ⟨by lia,rfl⟩
     | succ n=>rw [z] at h; cases h
 have hin:∀ (k:Nat) m,ls[k]? = some m->∀ b∈m.parts,∃ o,H b=some o:=fun k m h b hb=>by
   obtain ⟨_,_,_,_,_,a4⟩:=S.at_ k m h; obtain ⟨_,o,ho,_⟩:=a4.there hb; exact ⟨o,ho⟩
 have hso:∀ (j:Nat) d,δ[j]? = some (.ow d)->(σ.set i (some (.ref l'.x)))[j]? = σ[j]? := fun j d h=>by
   rw [uK];by_cases z:i=j
   . subst z; rw [hu] at h; cases h
   . rw [if_neg z]
 refine ⟨S1.gr,⟨S1.sr.sub,by rw [zU]; exact hl,fun j s h=>?_,fun j k x d d' h1 h2 h3 h4=>?_⟩,fun j d x h1 h2=>?_,fun j x h=>?_,fun j m h=>?_,by rw [sA,sA,S.le]; rfl,fun j m h b hb=>?_,fun j k m m' h h' hb=>?_,fun j d x h1 h2 k m h hb=>?_⟩
 . rw [uK]
   by_cases z:i=j
   . subst z; rw [hu] at h; cases h; trivial
   . rw [if_neg z]; exact S1.sr.sl j s h
 . rw [hso j d h1] at h3
   rw [hso k d' h2] at h4; exact S1.sr.ap j k x d d' h1 h2 h3 h4
 . rw [hso j d h1] at h2
   exact S.fr j d x h1 h2
 . obtain ⟨m,m1,m2⟩:=S.x0 j x h
   exact ⟨m,by rw [sI (rQ.mp m1).1]; exact m1,m2⟩
 . rcases key j m h with ⟨rfl,rfl⟩ | ⟨q,h⟩
   . exact ⟨i,A,by rw [S.le,sK (sC _),xE]; rfl,by rw [S.le]; exact hρ,by rw [uK,if_pos rfl,if_pos hi],a⟩
   . obtain ⟨i',A',a1,a2,a3,a4⟩:=S1.at_ j m h
     have hne:i≠i':=fun z=>by
       subst z; have:=(List.getElem?_inj (rQ.mp hρ).1 nd).mp (hρ.trans a2.symm); rw [<- S.le] at this;lia
     exact ⟨i',A',by rw [sI (rQ.mp a1).1]; exact a1,a2,by rw [uK,if_neg hne]; exact a3,a4⟩
 . rcases key j m h with ⟨_,rfl⟩ | ⟨q,h⟩
   . exact .inr (S.gr.nn b (hn b hb))
   . exact S.new j m h b hb
 . obtain ⟨b,b1,b2⟩:=hb
   rcases key j m h with ⟨y1,y2⟩ | ⟨q,h2⟩
   . rcases key k m' h' with ⟨z1,z2⟩ | ⟨q',h3⟩
     . exact y1.trans z1.symm
     . obtain ⟨o,ho⟩:=hin k m' h3 b b2
       rw [y2] at b1; rw [hn b b1] at ho; cases ho
   . rcases key k m' h' with ⟨z1,z2⟩ | ⟨q',h3⟩
     . obtain ⟨o,ho⟩:=hin j m h2 b b1
       rw [z2] at b2; rw [hn b b2] at ho; cases ho
     . exact S.sep j k m m' h2 h3 ⟨b,b1,b2⟩
 . rw [hso j d h1] at h2
   rcases key k m h with ⟨_,rfl⟩ | ⟨q,h⟩
   . obtain ⟨y,y1,y2,y3⟩:=S.sr.sl j _ h1
     rw [h2] at y1; cases y1;obtain ⟨o,ho⟩:=y3.some; rw [hn x hb] at ho; cases ho
   . exact S.os j d x h1 h2 k m h hb
end
noncomputable section
variable {P:sE} {w:sT} {K:rK} {mg:Str->Option rJ} {base:tL} {X:Cx} {N:List Str} {sc:Scope} {k k':Nat} {df:Bool} {C:rN} {ρ:List Nat} {i j j' i':Nat} {x y:Str} {p1 p2 p3 p4 p5:Pos}
def gJ (j i:Nat):FS:=fun δ als=>match δ[i]? with
 | some .un=>if als.length=j then .nx δ (als++[Ja]) else .no
 | _=>.no
theorem jU (c:Cxt P w K mg base X N sc k df) (j:Nat) (ho:okSet N sc df i y=true) (hρ:ρ[j]? = some i) (nd:ρ.Nodup) (F:MkA P w K mg base C x k') (hk:k'+1<=k) (h:okGl sc x=true) (hs:tH (.Call (.Name x p1) [] [] p2) (some (.Name y p3)) p4.line X.env=pure false:=by rfl) :
   QS X C ρ (.Assign [.Name y p3] (.Call (.Name x p1) [] [] p2) p4) (gJ j i):=by
 obtain ⟨h1,h2,h3,h4⟩:=okSet.ok c ho;refine PS.imp (Z9 h1 h2 h3 (Yc c F hk h) hs h4) fun D σ H z=>?_;obtain ⟨en,G,δ,ls,als,S,aft⟩:=z;unfold gJ at aft;split at aft
 . rename_i hu
   split at aft
   . rename_i hj
     exact ⟨G,S.sr.sub,fun l H' g a n=>aft _ G H' _ (S.more g a n (by rw [hj]; exact hρ) nd hu)⟩
   . exact aft.elim
 . exact aft.elim
def Yq (j j' i':Nat):FS:=fun δ als=>match δ[i']?,als[j]? with
 | some .un,some A=>if als.length=j'/\(Q2 (A.bk.map (·.1))).isSome=true/\A.bk.length<=8 then .nx δ (als++[A]) else .no
 | _,_=>.no
theorem Xv (c:Cxt P w K mg base X N sc k df) (j j':Nat) (hi:okVar N sc i x=true) (hρ:ρ[j]? = some i) (ho:okSet N sc df i' y=true) (hρ':ρ[j']? = some i') (nd:ρ.Nodup) (cl:Cls K C) (F:MethT P w K mg base C k') (hk:k'<=k) {pl:Sem Bool}
   (hs:tH (.Call (.Attribute (.Name x p1) "twin" p2) [] [] p3) (some (.Name y p4)) p5.line X.env=pure false:=by rfl)
   (ht:eval (.Call (.Attribute (.Name x p1) "twin" p2) [] [] p3) X.env=(do
     let ov <- eval (.Name x p1) X.env
     standAt p2.atName
     let (f,first) <- holding [ov] (zF ov "twin" pl)
     i6 p3 f first (tR p3 (rP [] X.env)) (wI p3 (uJ [] X.env))):=by rfl) :
   QS X C ρ (.Assign [.Name y p4] (.Call (.Attribute (.Name x p1) "twin" p2) [] [] p3) p5) (Yq j j' i'):=by
 obtain ⟨h1,h2,h3,h4⟩:=okSet.ok c ho;obtain ⟨f,fd,ps,F,M,B⟩:=F.ex;have F':FnOk X.prog X.w X.K X.mg X.base CX0 k' f fd ps (Vh C):=by rw [c.hP,c.hw,c.hK,c.hmg,c.hb]; exact F
 refine PS.imp (Z9 h1 h2 h3 (Lu (okVar.pe c hi) (by rw [c.hK]; exact cl) (by rw [c.hK]; exact M) F' (c.room.mono hk) (by rw [c.hK]; exact B) .nil (Em (X:=X)) ht) hs h4) fun D σ H z=>?_;obtain ⟨en,G,δ,ls,als,S,aft⟩:=z;unfold Yq at aft;split at aft
 . rename_i A hu hA
   split at aft
   . rename_i hc
     obtain ⟨l,hl,a3,a4⟩:=S.get hA hρ; obtain ⟨ss,hss⟩:=wF.mp hc.2.1; exact ⟨.ref l.x,a3,l.x,l.dx,_,rfl,a4.hx,noFld.lk (by decide +kernel),G,l,A,ss,rfl,S.sr.sub,a4,hss,hc.2.2,fun l' H' g a n=>aft _ G H' _ (S.more g a n (by rw [hc.1]; exact hρ') nd hu)⟩
   . exact aft.elim
 . exact aft.elim
noncomputable def mL (N:List Str) (go:FS):List rG->Res rG:=fun ds=>match go (K3 N ds) [] with
 | .rt d _=>.ok d
 | _=>.no
end
end Sm
end
noncomputable section
namespace Sm
open PySem PySem.Spec PyProof.Rows L2
def Itm (lo:Int) (n:Nat):It:=⟨fun i _=>i < n,fun i H x H'=>H'=H/\x=.int (lo+(i:Nat)*(-1)),fun i _=>n<=i⟩
theorem Rr {P:sE} {w:sT} {K:rK} {tg:Expr} (it:rN) (lo:Int) (n:Nat):Turn P w K tg (Itm lo n) [it] it (fun i h=>BZ h it (lo+(i:Nat)*(-1)) ((n:Int) - (i:Nat)) (-1)) where
 mem:=by simp
 obj:=fun i h st b hb=>by
   have e:b=it:=by simpa using hb
   subst e; exact ⟨_,st,fun v z=>by have z':Data.fields _=Data.cell v:=z; cases z'⟩
 keep:=fun i h h' st k=>k it (by simp) _ st
 item:=by
   intro X hP hw hK hc i pins s σ H E I hf st hg; subst hP hw hK; obtain ⟨f0,f1,f2,f3,f4,f5⟩:=hf it (by simp);refine (Walks.range (prog:=X.prog) (w:=X.w) (I.ok.hd hc) it lo (-1) n).item i s _ _ hg st fun v h' tk hv st' kk=>?_;obtain ⟨t,rfl⟩:=hv; have I1:Inv X pins σ H { s with heap:=h',toks:=tk }:=I.turned (fun b o hb e=>kk b o (by simpa using hb) e) f0 f1 f3 f4 f5;exact ⟨_,rfl,Me (s:={ s with heap:=h',toks:=tk }) (n := "range_iterator") st' rfl rfl (by decide) ⟨.int (lo+(i:Nat)*(-1)),H,I1,⟨t,rfl⟩,⟨rfl,rfl⟩,st',fun b hb=>(hf b hb).1⟩⟩
 done:=by
   intro X hP hw hK hc i pins s σ H E I hf st hg; subst hP hw hK; obtain ⟨f0,f1,f2,f3,f4,f5⟩:=hf it (by simp);exact wpAny_pyNext_range_end (I.ok.hd hc) st (by have:n<=i:=hg; omega) fun h' eb=>⟨rfl,I.turned (t':=s.toks) (fun b o hb e=>eb b o hb e) f0 f1 f3 f4 f5⟩
 self:=fun _ _ _ _ _ st h=>wpAny_pyIter_rangeiter st h
theorem dF {a b:Int}:yH a b (-1)=((a - b).toNat:Int):=by
 unfold yH;rw [if_neg (by decide)];simp only [Int.neg_neg,Int.ediv_one];split <;> omega
theorem iT {a b:Int} (ha : -1<=a) (ha':a < 100000) (hb : -1<=b) (hb':b < 100000):AX a b (-1)=true:=by
 unfold AX;rw [dF];simp only [Builtin.Range.rangeFitsLong,sU,l7,decide_eq_true_eq,beq_iff_eq,show ¬ ((-1:Int)>0) by decide,if_false];omega
noncomputable def Cq (lo:Int) (n:Nat):List rG:=(vV n).map fun (i:Nat)=>wA (lo+i*(-1))
noncomputable def aC:List rG->Res (List rG)
 | [.int i,.int j,.int c]=>if (-1<=i/\i < 100000 /\ -1<=j/\j < 100000)/\c=-1 then .ok (Cq i (i - j).toNat) else .no
 | _=>.no
theorem Ro {G:Hp} (lo:Int) (n:Nat):Walk (Itm lo n) G (Cq lo n) where
 go:=fun i H hi hG=>by
   show i < n;simpa [Cq] using hi
 yld:=fun i d G2 H x H' e h1 h2 hy=>by
   obtain ⟨rfl,rfl⟩:=hy; unfold Cq at e; rw [sB] at e;by_cases hi:i < n
   . rw [yQ hi] at e; cases e; exact ⟨G2,Grow.refl h2,rfl⟩
   . rw [vJ (by simpa using hi)] at e; cases e
 stop:=fun i H hi hG=>by
   show n<=i;simpa [Cq] using hi
noncomputable section
variable {P:sE} {w:sT} {K:rK} {mg:Str->Option rJ} {base:tL} {X:Cx} {N:List Str} {sc:Scope} {k:Nat} {df:Bool} {E:EK} {pos p:Pos} {a b c tg:Expr} {fs:Dn->Res (List rG)}
def iRngM (ta:TA):TI:=fun σ H R=>ta σ H fun vs H1=>∃ i j:Int,vs=[.int i,.int j,.int (-1)]/\(-1<=i/\i < 100000 /\ -1<=j/\j < 100000)/\R (Itm i (i - j).toNat) H1
theorem aG {ta:TA} (hg:Gl X "range") (hm:X.mg "range" = none) (ha:PA X [a,b,c] ta) (hs:rP [a,b,c] X.env=[(false,eval a X.env),(false,eval b X.env),(false,eval c X.env)]:=by rfl) (hs2:rP [b,c] X.env=[(false,eval b X.env),(false,eval c X.env)]:=by rfl) :
   PI X tg (.Call (.Name "range" p) [a,b,c] [] pos) (iRngM ta):=by
 intro pins s σ H R I h;refine Call_ (Fc I hg hm boot_range (vI (thn (ha pos pins s σ H _ I h) fun us s1 hY95=>?_) (by rw [hs,hs2]) (by rw [hs2]; rfl)));obtain ⟨vs,H1,I1,r1,q1⟩:=hY95;obtain ⟨i,j,e,⟨q1,q2,q3,q4⟩,q⟩:=q1;subst e;cases r1 with
 | cons r rr =>
   cases rr with
   | cons r' rr =>
     cases rr with
     | cons r'' rr =>
       cases rr; obtain ⟨t,rfl⟩:=r; obtain ⟨t',rfl⟩:=r'; obtain ⟨t2,rfl⟩:=r''; refine call_range_3 (by decide) ?_ (Or.inl (BP (by omega)));refine wpAny_pyIter_range (IsRange.new ..) (iT q1 q2 q3 q4) ?_; have I2:Inv X pins σ H1 { s1 with heap:=s1.heap.push { cls:=.type "range",data:=.fields #[.int i t,.int j t',.int (-1) t2] } }:=I1.kept (t':=s1.toks) fun b o e=>rW _ e;refine ⟨(s1.heap.push { cls:=.type "range",data:=.fields #[.int i t,.int j t',.int (-1) t2] }).objs.size,[(s1.heap.push { cls:=.type "range",data:=.fields #[.int i t,.int j t',.int (-1) t2] }).objs.size],_,_,H1,rfl,
         I2.kept (t':=s1.toks) fun b o e=>rW _ e,Rr _ i (i - j).toNat,?_,fun b hb=>?_,q⟩
       . have e1:i+((0:Nat):Int)*(-1)=i:=by simp
         have e2:(((i - j).toNat:Nat):Int) - ((0:Nat):Int)=yH i j (-1):=by rw [dF]; omega
         show BZ _ _ (i+((0:Nat):Int)*(-1)) ((((i - j).toNat:Nat):Int) - ((0:Nat):Int)) (-1);rw [e1,e2]; exact sL _ rfl
       . have e:b=(s1.heap.push { cls:=.type "range",data:=.fields #[.int i t,.int j t',.int (-1) t2] }).objs.size:=by simpa using hb
         subst e; exact I2.fpOk (sC _) (I2.hok.fresh (sC _))
theorem gD {n:Nat} (C:Cxt P w K mg base X N sc k df) (h:okGl sc "range" = true) (hm:mg "range" = none) (ha:DA X E [a,b,c] n fs) (hs:rP [a,b,c] X.env=[(false,eval a X.env),(false,eval b X.env),(false,eval c X.env)]:=by rfl) (hs2:rP [b,c] X.env=[(false,eval b X.env),(false,eval c X.env)]:=by rfl) :
   DI X E tg (.Call (.Name "range" p) [a,b,c] [] pos) (fun δ=>(fs δ).bind aC):=by
 refine PI.imp (aG (okGl.gl C h).1 (by rw [C.hmg]; exact hm) ha.pa hs hs2) fun σ H Q hY96=>?_;obtain ⟨G,δ,S,aft⟩:=hY96;refine U0 (W:=fun G H r=>AftI E G H r Q) S aft (fun g a=>AftI.grow g a) (fun c a=>a) (fun a=>a) fun ds vs G1 H1 e g1 r1 S1 a1=>?_;unfold aC at a1;split at a1
 . rename_i i j c
   split at a1
   . rename_i hc
     obtain ⟨hc,rfl⟩:=hc; obtain ⟨v,r,rfl,e1,l⟩:=r1; obtain ⟨v',v'',rfl,e2,e3⟩:=oA l;cases (show _=_ from e1); cases (show _=_ from e2); cases (show _=_ from e3);exact ⟨i,j,rfl,hc,a1 _ G1 H1 (Grow.refl S1.sub) (Ro i _)⟩
   . exact a1.elim
 . exact a1.elim
theorem q_one {C:rN} {ρ:List Nat} {op:BoolOp} {f:FQ} (ha:QE X C ρ a f):QE X C ρ (.BoolOp op [a] pos) f:=eR ha
end
structure DefM (K:rK) (C:rN) (x qual:Str) (st:vN) (ps:List Str):Prop where
 ex:∃ f fd,L2.Fun K x qual st f fd/\Meth K C x f/\Binds K fd ps []
structure AlbC (K:rK) (C:rN):Prop where
 cl:Cls K C
 nb:NoAttr K C "books"
 ns:NoAttr K C "steps"
 nt:NoAttr K C "taken"
noncomputable section
variable {P:sE} {w:sT} {K:rK} {mg:Str->Option rJ} {base:tL} {N:List Str} {k n p:Nat} {C:rN} {x qual:Str} {st:vN} {ps:List Str} {go:FS}
theorem Mb (D:DefM K C x qual st ps) (S:FnScope N ps (A0 st)) (hn:ps.length=n+1) (body:∀ X,Cxt P w K mg base X N (A0 st) k true->QSs X C [0] (B6 st) go):MethA P w K mg base C x (k+1) n (mA N 0 go):=by
 obtain ⟨f,fd,F,M,B⟩:=D.ex;exact ⟨f,fd,ps,gO F S hn (uA _) body,M,B⟩
theorem qP (D:Def K mg x st ps) (S:FnScope N ps (A0 st)) (hn:ps.length=n+1) (hp:p<=n) (body:∀ X,Cxt P w K mg base X N (A0 st) k true->QSs X C [p] (B6 st) go):FnA P w K mg base C x (k+1) p n (mA N p go):=by
 obtain ⟨f,fd,F,hmg,B⟩:=D.ex;exact ⟨f,fd,ps,gO F S hn hp body,hmg,F.kp,B⟩
end
end Sm
end
noncomputable section
namespace Sm
open PySem PySem.Spec PyProof.Rows L2
def top (i:Nat):vN:=PySem.Challenge.pw_staymark_k75_whole_back_and_twins.main.body.getD i (.Pass ⟨0,0,0,0⟩)
def stm (i j:Nat):vN:=(B6 (top i)).getD j (.Pass ⟨0,0,0,0⟩)
structure Txt (mg:Str->Option rJ):Prop where
 b_dict:mg "dict" = none
 b_enumerate:mg "enumerate" = none
 b_int:mg "int" = none
 b_len:mg "len" = none
 b_list:mg "list" = none
 b_range:mg "range" = none
 b_reversed:mg "reversed" = none
 b_sorted:mg "sorted" = none
 b_tuple:mg "tuple" = none
noncomputable def Q1:List Str:=["deed"]
noncomputable def Q3:Dn->Out:=(Ah (vIf (D3 (b2 (b2 (A7 0) (vC (.int 0)) dIx) (vC (.str "add")) dEq)) (vFn (A6 (b2 (A7 0) (vC (.int 3)) dIx) B3) W8) (vC (.int 0))))
noncomputable def E5:List rG->Res rG:=fnD Q1 Q3
noncomputable def V3:List Str:=["book", "behind", "deed"]
noncomputable def W2:Dn->Res Kvs:=(Jo (Ew 1) (Jo (jB 1 2 (fun δ=>((A7 0) δ).bind L4) (D3 (b2 (C9 (A6 (A7 2) B3) E5) (vC (.int 0)) (Et .Gt))) (b2 (A7 2) (vC (.int 2)) dIx) (A7 2)) (Tj 1)))
noncomputable def N2:List rG->Res Kvs:=fnW V3 W2
noncomputable def M8:List Str:=["book", "behind", "waiting", "told", "step", "deed", "number", "sign"]
noncomputable def Ax:Dn->Out:=(Hy 1 (Rm (A6 (A7 0) B3) N2))
noncomputable def Aw:Dn->Out:=(Vs 2 (N0 (fun δ=>((Jr 1 (vC .none) (N8 B3)) δ).bind L4) L3 [] Af (E6 (A6 (A7 0) (A6 (vC (.int 0)) B3)))))
noncomputable def Ei:Dn->Out:=(Vs 3 B3)
noncomputable def Av:Dn->Out:=(dY (Us 2) (E8 (Zz 2 4) (E8 (M3 5 (b2 (A7 4) (vC (.int 0)) dIx)) (E8 (M3 6 (b2 (A7 4) (vC (.int 1)) dIx)) (E8 (M3 7 (E6 (A6 (b2 (A7 5) (vC (.int 1)) dIx) (A6 (A7 6) B3)))) (E8 (Ll 3 (E6 (A6 (A7 7) (A6 (b2 (b2 (A7 5) (vC (.int 3)) dIx) (A7 6) dIx) B3)))) (E8 (sIf (D3 (b2 (b2 (A7 6) (vC (.int 1)) C5) (vFn (A6 (b2 (A7 5) (vC (.int 3)) dIx) B3) W8) (U2 .Lt))) (Ll 2 (E6 (A6 (A7 5) (A6 (b2 (A7 6) (vC (.int 1)) C5) B3)))) Q8) (aA 2 (N0 (fun δ=>((Jr 1 (A7 7) (N8 B3)) δ).bind L4) L3 [] Af (E6 (A6 (A7 0) (A6 (vC (.int 0)) B3))))))))))))
noncomputable def Eh:Dn->Out:=(sFz 3 (Ah (A7 3)))
noncomputable def Cc:Dn->Out:=(E8 Ax (E8 Aw (E8 Ei (E8 Av Eh))))
noncomputable def U8:List rG->Res rG:=fnD M8 Cc
noncomputable def Ap:List Str:=["book", "undone", "deed"]
noncomputable def Az:Dn->Res Kvs:=(Jo (Ew 1) (Jo (Ct (fun δ=>((A7 0) δ).bind Sn) (st1 2) (sIf (Bw (D3 (b2 (b2 (A7 2) (vC (.int 0)) dIx) (vC (.str "undo")) dEq)) (D3 (Ag true 1 (b2 (A7 2) (vC (.int 1)) dIx)))) (Fs 1 (b2 (A7 2) (vC (.int 2)) dIx) (vC (.bool true))) Q8)) (Tj 1)))
noncomputable def O2:List rG->Res Kvs:=fnW Ap Az
noncomputable def X0:List Str:=["book", "undone", "dropped", "deed", "sign"]
noncomputable def Z4:Dn->Res Kvs:=(Jo (Ew 2) (Jo (Ct (fun δ=>((A7 0) δ).bind L4) (st1 3) (sIf (Bw (D3 (b2 (b2 (A7 3) (vC (.int 0)) dIx) (vC (.str "drop")) dEq)) (D3 (Ag true 1 (b2 (A7 3) (vC (.int 1)) dIx)))) (Ct (fun δ=>((b2 (A7 3) (vC (.int 2)) dIx) δ).bind L4) (st1 4) (Fs 2 (A7 4) (vC (.bool true)))) Q8)) (Tj 2)))
noncomputable def K5:List Sl->Res Kvs:=lF X0 Z4
noncomputable def F8:List Str:=["book", "undone", "dropped", "told", "pair"]
noncomputable def U5:Dn->Out:=(Hy 1 (Rm (A6 (A7 0) B3) O2))
noncomputable def U4:Dn->Out:=(nY 1 (Hy 2 (Po (A7 0) 1 K5)))
noncomputable def Bo:Dn->Out:=(Vs 3 B3)
noncomputable def O4:Dn->Out:=(Ct (fun δ=>((C9 (A6 (A7 0) B3) U8) δ).bind L4) (st1 4) (Ll 3 (E6 (A6 (A7 4) (A6 (bY (Ag true 1 (b2 (b2 (A7 4) (vC (.int 0)) dIx) (vC (.int 0)) dIx)) (Ag true 2 (b2 (A7 4) (vC (.int 0)) dIx))) B3)))))
noncomputable def Bn:Dn->Out:=(sFz 3 (Ah (A7 3)))
noncomputable def W1:Dn->Out:=(E8 U5 (E8 U4 (E8 Bo (E8 O4 Bn))))
noncomputable def P7:List rG->Res rG:=fnD F8 W1
noncomputable def Cn:List Str:=["book"]
noncomputable def Cd:Dn->Out:=(Ah (N8 (N0 (fun δ=>((C9 (A6 (A7 0) B3) P7) δ).bind L4) L3 [] (D3 (b2 (A7 0) (vC (.int 1)) dIx)) (b2 (A7 0) (vC (.int 0)) dIx))))
noncomputable def U9:List rG->Res rG:=fnD Cn Cd
noncomputable def Ed:List Str:=["book"]
noncomputable def Db:Dn->Out:=(Ah (Od "" (N8 (N0 (fun δ=>((C9 (A6 (A7 0) B3) U9) δ).bind L4) L3 [] Af (b2 (A7 0) (vC (.int 1)) dIx)))))
noncomputable def U7:List rG->Res rG:=fnD Ed Db
noncomputable def Aq:List Str:=["_law_script", "_law_k"]
noncomputable def Bc:Dn->Out:=(E8 (sIf (D3 (b2 (A7 0) (N8 B3) dEq)) (Ah (b2 (vC (.int 7)) (A7 1) P3)) Q8) (Ah (b2 (b2 (A7 0) (b2 (A7 1) (vFn (A6 (A7 0) B3) W8) Nv) dIx) (b2 (vC (.int 6553)) (b2 (A7 1) (vFn (A6 (A7 0) B3) W8) Ii) P3) C5)))
noncomputable def V7:List rG->Res rG:=fnD Aq Bc
noncomputable def X3:List Str:=["_law_script", "_law_k", "_law_many", "_law_cell_here"]
noncomputable def Z8:Dn->Out:=(E8 (M3 3 (b2 (b2 (b2 (b2 (C9 (A6 (A7 0) (A6 (A7 1) B3)) V7) (vC (.int 2147483563)) Nv) (vC (.int 69069)) P3) (b2 (vC (.int 104723)) (b2 (A7 1) (vC (.int 1)) C5) P3) C5) (vC (.int 2147483563)) Nv)) (E8 (M3 3 (b2 (b2 (b2 (A7 3) (A7 3) P3) (b2 (A7 3) (vC (.int 3)) Ii) C5) (vC (.int 2147483399)) Nv)) (Ah (b2 (b2 (b2 (b2 (b2 (A7 3) (A7 3) P3) (b2 (A7 3) (vC (.int 7)) Ii) C5) (vC (.int 2147483647)) Nv) (vC (.int 11)) Ii) (A7 2) Nv))))
noncomputable def B0:List rG->Res rG:=fnD X3 Z8
noncomputable def X1:List Str:=["_law_script", "_law_at"]
noncomputable def Z5:Dn->Out:=(Ah (Od "" (N8 (N0 (fun δ=>((A6 (b2 (vC (.int 1)) (C9 (A6 (A7 0) (A6 (b2 (A7 1) (vC (.int 4)) C5) (A6 (vC (.int 4)) B3))) B0) C5) B3) δ).bind Ai) L3 [0,1] Af (b2 (vC (.str "ab cd~ <")) (C9 (A6 (A7 1) (A6 (b2 (A7 2) (A7 0) C5) (A6 (vC (.int 8)) B3))) B0) dIx)))))
noncomputable def O7:List rG->Res rG:=fnD X1 Z5
noncomputable def X2:List Str:=["_law_book_here", "_law_found", "_law_deed_here"]
noncomputable def Z6:Dn->Out:=(E8 (M3 1 (N8 B3)) (E8 (Ct (fun δ=>((A7 0) δ).bind L4) (st1 2) (sIf (D3 (b2 (b2 (A7 2) (vC (.int 0)) dIx) (vC (.str "add")) dEq)) (M3 1 (b2 (A7 1) (N8 (N0 (fun δ=>((A6 (vFn (A6 (b2 (A7 2) (vC (.int 3)) dIx) B3) W8) B3) δ).bind Ai) L3 [2] Af (E6 (A6 (b2 (A7 1) (vC (.int 1)) dIx) (A6 (A7 0) B3))))) C5)) Q8)) (Ah (A7 1))))
noncomputable def O8:List rG->Res rG:=fnD X2 Z6
noncomputable def V4:List Str:=["_law_script", "_law_at", "_law_signs_here", "_law_sign"]
noncomputable def W3:Dn->Out:=(E8 (M3 3 (b2 (b2 (N8 (A6 (vC .none) B3)) (A7 2) C5) (C9 (A6 (A7 0) (A6 (A7 1) (A6 (b2 (vFn (A6 (A7 2) B3) W8) (vC (.int 1)) C5) B3))) B0) dIx)) (Ah (E6 (A6 (A7 3) (A6 (b2 (vC (.str "lr")) (C9 (A6 (A7 0) (A6 (b2 (A7 1) (vC (.int 1)) C5) (A6 (vC (.int 2)) B3))) B0) dIx) B3)))))
noncomputable def L0:List rG->Res rG:=fnD V4 W3
noncomputable def F5:List Str:=["_law_script", "_law_at", "_law_one", "_law_known", "_law_names", "_law_signs_here", "_law_way", "_law_behind", "_law_some", "_law_ends"]
noncomputable def Y1:Dn->Out:=(M3 5 (C9 (A6 (A7 3) B3) O8))
noncomputable def Y0:Dn->Out:=(M3 6 (C9 (A6 (A7 0) (A6 (A7 1) (A6 (vC (.int 12)) B3))) B0))
noncomputable def X9:Dn->Out:=(sIf (Bw (D3 (b2 (A7 6) (vC (.int 2)) (U2 .Lt))) (D3 (b2 (A7 5) (N8 B3) dNe))) (E8 (dZ 8 (N0 (fun δ=>((A6 (A7 5) B3) δ).bind Mi) Ij [0,1] (D3 (b2 (C9 (A6 (A7 2) (A6 (b2 (b2 (A7 3) (vC (.int 20)) C5) (A7 0) C5) (A6 (vC (.int 4)) B3))) B0) (vC (.int 0)) dEq)) (A7 1))) (Ah (E6 (A6 (vC (.str "drop")) (A6 (A7 2) (A6 (vFn (A6 (b2 (A7 8) (b2 (vSl (A7 5) Lz (Ly (vC (.int 1)))) (vFn (A6 (b2 (A7 8) (N8 B3) dEq) B3) Pc) P3) C5) B3) Es) B3)))))) Q8)
noncomputable def X8:Dn->Out:=(sIf (D3 (b2 (A7 6) (vC (.int 5)) (U2 .Lt))) (E8 (M3 9 (E6 (A6 (C9 (A6 (A7 0) (A6 (b2 (A7 1) (vC (.int 1)) C5) (A6 (A7 5) B3))) L0) (A6 (C9 (A6 (A7 0) (A6 (b2 (A7 1) (vC (.int 3)) C5) (A6 (A7 5) B3))) L0) B3)))) (Ah (b2 (E6 (A6 (vC (.str "mark")) (A6 (A7 2) (A6 (b2 (A7 4) (C9 (A6 (A7 0) (A6 (b2 (A7 1) (vC (.int 5)) C5) (A6 (vC (.int 3)) B3))) B0) dIx) B3)))) (A7 9) C5))) Q8)
noncomputable def X7:Dn->Out:=(sIf (D3 (b2 (A7 6) (vC (.int 5)) dEq)) (Ah (E6 (A6 (vC (.str "unmark")) (A6 (A7 2) (A6 (b2 (A7 4) (C9 (A6 (A7 0) (A6 (b2 (A7 1) (vC (.int 5)) C5) (A6 (vC (.int 3)) B3))) B0) dIx) B3))))) Q8)
noncomputable def X6:Dn->Out:=(sIf (Bw (D3 (b2 (A7 6) (vC (.int 8)) (U2 .Lt))) (D3 (b2 (A7 3) (E6 B3) dNe))) (Ah (E6 (A6 (vC (.str "undo")) (A6 (A7 2) (A6 (b2 (b2 (A7 3) (C9 (A6 (A7 0) (A6 (b2 (A7 1) (vC (.int 6)) C5) (A6 (vFn (A6 (A7 3) B3) W8) B3))) B0) dIx) (vC (.int 1)) dIx) B3))))) Q8)
noncomputable def X5:Dn->Out:=(M3 7 (b2 (b2 (b2 (N8 (A6 (vC .none) B3)) (A7 5) C5) (vSl (A7 5) (Ly (b1 (vC (.int 3)) Ir)) Lz) C5) (C9 (A6 (A7 0) (A6 (b2 (A7 1) (vC (.int 7)) C5) (A6 (b2 (b2 (vFn (A6 (A7 5) B3) W8) (vC (.int 1)) C5) (vFn (A6 (vSl (A7 5) (Ly (b1 (vC (.int 3)) Ir)) Lz) B3) W8) C5) B3))) B0) dIx))
noncomputable def X4:Dn->Out:=(Ah (E6 (A6 (vC (.str "add")) (A6 (A7 2) (A6 (A7 7) (A6 (C9 (A6 (A7 0) (A6 (b2 (A7 1) (vC (.int 8)) C5) B3)) O7) B3))))))
noncomputable def Bb:Dn->Out:=(E8 Y1 (E8 Y0 (E8 X9 (E8 X8 (E8 X7 (E8 X6 (E8 X5 X4)))))))
noncomputable def L7:List rG->Res rG:=fnD F5 Bb
noncomputable def L9:List Str:=["_law_script", "_law_at", "_law_most", "_law_names", "_law_found", "_law_one", "_law_k", "_law_time", "_law_hand", "_law_known"]
noncomputable def Y5:Dn->Out:=(M3 4 (E6 B3))
noncomputable def Y4:Dn->Out:=(M3 5 (E6 (A6 (vC (.int 1)) (A6 (vC (.str "a")) B3))))
noncomputable def Y3:Dn->Out:=(Ct (fun δ=>((A6 (C9 (A6 (A7 0) (A6 (A7 1) (A6 (b2 (A7 2) (vC (.int 1)) C5) B3))) B0) B3) δ).bind Ai) (st1 6) (E8 (M3 7 (b2 (b2 (A7 5) (vC (.int 0)) dIx) (C9 (A6 (A7 0) (A6 (b2 (b2 (A7 1) (vC (.int 1)) C5) (b2 (vC (.int 60)) (A7 6) P3) C5) (A6 (vC (.int 2)) B3))) B0) C5)) (E8 (M3 8 (b2 (vC (.str "abc")) (C9 (A6 (A7 0) (A6 (b2 (b2 (A7 1) (vC (.int 2)) C5) (b2 (vC (.int 60)) (A7 6) P3) C5) (A6 (vC (.int 3)) B3))) B0) dIx)) (E8 (sIf (Bw (D3 (b2 (A7 4) (E6 B3) dNe)) (D3 (b2 (E6 (A6 (A7 7) (A6 (A7 8) B3))) (A7 5) (U2 .LtE)))) (M3 7 (b2 (b2 (A7 5) (vC (.int 0)) dIx) (vC (.int 1)) C5)) Q8) (E8 (M3 5 (E6 (A6 (A7 7) (A6 (A7 8) B3)))) (E8 (M3 9 (vFn (A6 (N8 (N0 (fun δ=>((A7 4) δ).bind L4) L3 [7] (D3 (b2 (b2 (b2 (A7 0) (vC (.int 1)) dIx) (vC (.int 0)) dIx) (A7 1) (U2 .Lt))) (A7 0))) B3) Es)) (M3 4 (b2 (A7 4) (E6 (A6 (C9 (A6 (A7 0) (A6 (b2 (b2 (A7 1) (vC (.int 3)) C5) (b2 (vC (.int 60)) (A7 6) P3) C5) (A6 (A7 5) (A6 (A7 9) (A6 (A7 3) B3))))) L7) B3)) C5))))))))
noncomputable def Y2:Dn->Out:=(Ah (A7 4))
noncomputable def Bd:Dn->Out:=(E8 Y5 (E8 Y4 (E8 Y3 Y2)))
noncomputable def Q9:List rG->Res rG:=fnD L9 Bd
end Sm
end
noncomputable section
namespace Sm
open PySem PySem.Spec PyProof.Rows L2
def mt (j:Nat):vN:=Gh (top 16) j
def stq (i j:Nat):vN:=(B6 (top i)).getD j (.Pass ⟨0,0,0,0⟩)
def P4:FS:=(K2 gI (K2 Ws (T8 (C2 0 (A6 (A7 2) (A6 (A7 3) B3)) Hl))))
def m_take_step:FM:=mA ["self", "word", "name", "book"] 0 P4
def Dc:FS:=(K2 (T8 (C2 0 (A6 (vC (.str "keep")) (A6 (A7 1) (A6 (A7 2) B3))) m_take_step)) (Aj (qL (C9 (A6 (A7 2) B3) U7))))
def m_keep:FM:=mA ["self", "name", "book"] 0 Dc
def Z3:FS:=(K2 (Gi 2 (C2 0 (A6 (A7 1) B3) (rdM W4))) (K2 (T8 (C2 0 (A6 (vC (.str "forget")) (A6 (A7 1) (A6 (vC .none) B3))) m_take_step)) (Aj (qL (A7 2)))))
def m_forget:FM:=mA ["self", "name", "book"] 0 Z3
def Dd:FS:=(K2 (gIf Sy gNo W0) (K2 (Gi 1 Sw) (K2 (gK (A7 1)) (K2 (T8 (C2 0 (A6 (b2 (A7 1) (vC (.int 1)) dIx) (A6 (b2 (A7 1) (vC (.int 2)) dIx) B3)) Hl)) (Aj (qL (b2 (A7 1) (vC (.int 0)) dIx)))))))
def m_back:FM:=mA ["self", "step"] 0 Dd
def Bp:FS:=(K2 (gIf Sx gNo W0) (K2 (Gi 1 Sv) (K2 (gL (A7 1)) (K2 (T8 (C2 0 (A6 (b2 (A7 1) (vC (.int 1)) dIx) (A6 (b2 (A7 1) (vC (.int 3)) dIx) B3)) Hl)) (Aj (qL (b2 (A7 1) (vC (.int 0)) dIx)))))))
def m_forth:FM:=mA ["self", "step"] 0 Bp
def Y7:FS:=(Gi 3 (qL (b2 (N8 (A6 (vC (.str "one")) (A6 (vC (.str "two")) (A6 (vC (.str "x")) B3)))) (C9 (A6 (A7 0) (A6 (A7 1) (A6 (vC (.int 3)) B3))) B0) dIx)))
def Y6:FS:=(Gi 4 (qL (C9 (A6 (A7 0) (A6 (b2 (A7 1) (vC (.int 10)) C5) (A6 (vC (.int 4)) (A6 (N8 (A6 (vC (.str "a")) (A6 (vC (.str "b")) (A6 (vC (.str "c")) B3)))) B3)))) Q9)))
def Cw:FS:=(gIf (Fy (qB (q2 (qL (A7 3)) (C2 0 B3 (rdM M7)) (dIn false))) (qLT (D3 (b2 (C9 (A6 (A7 0) (A6 (b2 (A7 1) (vC (.int 1)) C5) (A6 (vC (.int 3)) B3))) B0) (vC (.int 0)) dEq)))) (T8 (C2 0 (A6 (A7 3) B3) m_forget)) (T8 (C2 0 (A6 (A7 3) (A6 (A7 4) B3)) m_keep)))
noncomputable def R0:List Str:=["_law_script", "_law_at", "_law_album", "_law_name", "_law_book_here"]
def V2:FS:=(K2 Y7 (K2 Y6 Cw))
def G6:FM:=mA R0 2 V2
def Cp:FS:=(Mf (fun δ=>((A6 (vC (.int 2)) B3) δ).bind Ai) 2 (T8 (C2 0 (A6 (A7 0) (A6 (b2 (vC (.int 2000)) (b2 (vC (.int 280)) (A7 2) P3) C5) B3)) G6)))
def Co:FS:=(Aj (Ic (C2 0 B3 (rdM I8)) (C2 0 B3 (rdM C7))))
noncomputable def U1:List Str:=["_law_script", "_law_album", "_law_k"]
def Z7:FS:=(K2 Cp Co)
def M6:FM:=mA U1 1 Z7
def Z1:FS:=(Gi 2 (qL (b2 (vFn (A6 (A7 1) B3) W8) (vC (.int 1)) V0)))
def Cy:FS:=(mZ 3)
def Z0:FS:=(Mf (fun δ=>((A6 (b2 (A7 2) (vC (.int 1)) V0) (A6 (b1 (vC (.int 1)) Ir) (A6 (b1 (vC (.int 1)) Ir) B3))) δ).bind aC) 4 (K2 (Nu 3 (C2 0 B3 m_back)) (gIf (qOr (qB (q2 (C2 0 B3 (rdM I8)) (qL (b2 (A7 1) (A7 4) dIx)) dNe)) (qB (q2 (C2 0 B3 (rdM C7)) (qL (E6 (A6 (A7 4) (A6 (b2 (A7 2) (A7 4) V0) B3)))) dNe))) (Aj (qL (vC (.bool false)))) W0)))
def Y9:FS:=(gFz 3 (Mf (fun δ=>((A6 (vC (.int 1)) (A6 (b2 (A7 2) (vC (.int 1)) C5) B3)) δ).bind Vw) 4 (K2 (gIf (qOr (qB (q2 (C2 0 B3 m_forth) (qL (b2 (A7 3) (b2 (A7 2) (A7 4) V0) dIx)) dNe)) (qB (q2 (C2 0 B3 (rdM I8)) (qL (b2 (A7 1) (A7 4) dIx)) dNe))) (Aj (qL (vC (.bool false)))) W0) (gIf (qB (q2 (C2 0 B3 (rdM C7)) (qL (E6 (A6 (A7 4) (A6 (b2 (A7 2) (A7 4) V0) B3)))) dNe)) (Aj (qL (vC (.bool false)))) W0))))
def Y8:FS:=(Aj (qL (b2 (N8 (N0 (fun δ=>((A7 3) δ).bind L4) L3 [] (D3 (b2 (A7 0) (E6 (A6 (vC (.str "keep")) (A6 (vC (.str "forget")) B3))) (dIn true))) (A7 0))) (N8 B3) dEq)))
noncomputable def L8:List Str:=["_law_album", "_law_rows", "_law_many", "_law_words_here", "_law_k"]
def Ba:FS:=(K2 Z1 (K2 Cy (K2 Z0 (K2 Y9 Y8))))
def V6:FM:=mA L8 0 Ba
def Sa:FS:=(gJ 0 1)
def Rz:FS:=(Yr 2 (C2 0 B3 (rdM I8)))
def Lc:FS:=(Mf (fun δ=>((A6 (b2 (vC (.int 2)) (C9 (A6 (A7 0) (A6 (vC (.int 0)) (A6 (vC (.int 5)) B3))) B0) C5) B3) δ).bind Ai) 3 (K2 (T8 (C2 0 (A6 (A7 0) (A6 (b2 (vC (.int 10)) (b2 (vC (.int 280)) (A7 3) P3) C5) B3)) G6)) (Nu 2 (C2 0 B3 (rdM I8)))))
def Lb:FS:=(gFz 2 (Gi 4 (qL (b2 (vFn (A6 (A7 2) B3) W8) (vC (.int 1)) V0))))
def La:FS:=(gIf (qOr (qB (q2 (C2 0 B3 (rdM C7)) (qL (E6 (A6 (A7 4) (A6 (vC (.int 0)) B3)))) dNe)) (eH (qB (C2 0 (A6 (A7 2) B3) V6)))) (Aj (qL (vC (.bool false)))) W0)
def Kz:FS:=(Gi 5 (qL (b2 (vC (.int 1)) (C9 (A6 (A7 0) (A6 (vC (.int 1)) (A6 (A7 4) B3))) B0) C5)))
def Ky:FS:=(Mf (fun δ=>((A6 (A7 5) B3) δ).bind Ai) 6 (T8 (C2 0 B3 m_back)))
def Kx:FS:=(Gi 7 (Ic (C2 0 B3 (rdM I8)) (C2 0 B3 (rdM C7))))
def Kw:FS:=(Yq 0 1 8)
def Kv:FS:=(Yq 1 2 9)
def Hd:FS:=(gIf (qLT (D3 (b2 (A7 7) (E6 (A6 (b2 (A7 2) (b2 (A7 4) (A7 5) V0) dIx) (A6 (E6 (A6 (b2 (A7 4) (A7 5) V0) (A6 (A7 5) B3))) B3))) dNe))) (Aj (qL (vC (.bool false)))) W0)
def Hb:FS:=(Gi 10 (C2 0 (A6 (A7 0) B3) M6))
def Ha:FS:=(gIf (qOr (qLT (D3 (b2 (b2 (A7 10) (vC (.int 1)) dIx) (E6 (A6 (b2 (b2 (A7 4) (A7 5) V0) (vC (.int 2)) C5) (A6 (vC (.int 0)) B3))) dNe))) (qB (q2 (Ic (C2 1 B3 (rdM I8)) (C2 1 B3 (rdM C7))) (qL (A7 7)) dNe))) (Aj (qL (vC (.bool false)))) W0)
def Gy:FS:=(gIf (qOr (qB (q2 (C2 1 (A6 (A7 0) B3) M6) (qL (A7 10)) dNe)) (qB (q2 (Ic (C2 2 B3 (rdM I8)) (C2 2 B3 (rdM C7))) (qL (A7 7)) dNe))) (Aj (qL (vC (.bool false)))) W0)
def Gx:FS:=(Mf (fun δ=>((A6 (A7 5) B3) δ).bind Ai) 6 (T8 (C2 2 B3 m_forth)))
def Gw:FS:=(Mf (fun δ=>((A6 (b2 (b2 (A7 4) (A7 5) V0) (vC (.int 2)) C5) B3) δ).bind Ai) 6 (gIf (qOr (qB (q2 (C2 1 B3 m_back) (C2 0 B3 m_back) dNe)) (qB (q2 (C2 1 B3 (rdM I8)) (C2 0 B3 (rdM I8)) dNe))) (Aj (qL (vC (.bool false)))) W0))
def Gv:FS:=(Aj (aE (q2 (C2 2 B3 (rdM I8)) (qL (b2 (A7 2) (b1 (vC (.int 1)) Ir) dIx)) dEq) (aE (q2 (C2 1 B3 (rdM I8)) (qL (N8 B3)) dEq) (q2 (C2 2 B3 (rdM C7)) (qL (E6 (A6 (A7 4) (A6 (vC (.int 0)) B3)))) dEq))))
noncomputable def O9:List Str:=["_law_script", "_law_album", "_law_rows", "_law_k", "_law_many", "_law_back", "_law_turn", "_law_here", "_law_twin", "_law_third", "_law_there"]
def Jc:FS:=(K2 Sa (K2 Rz (K2 Lc (K2 Lb (K2 La (K2 Kz (K2 Ky (K2 Kx (K2 Kw (K2 Kv (K2 Hd (K2 Hb (K2 Ha (K2 Gy (K2 Gx (K2 Gw Gv))))))))))))))))
noncomputable def Yl:List rG->Res rG:=mL O9 Jc
end Sm
end
noncomputable section
namespace Sm
open PySem PySem.Spec PyProof.Rows L2
variable {P:sE} {w:sT} {K:rK} {mg:Str->Option rJ} {base:tL} {X:Cx}
theorem Lg:FnScope Q1 ["deed"] (A0 (top 6)):=⟨rfl,rfl,rfl,by decide +kernel,rfl,by decide +kernel,by decide +kernel⟩
theorem Hr  (T:Txt mg) (C:Cxt P w K mg base X Q1 (A0 (top 6)) 0 true):DSs X E0k (B6 (top 6)) Q3 :=
 (E7 (V5 (lS (Rt C (I0 (A9 C 0 ⋯) B9) O3) (Dt C ⋯ T.b_len (A8 (I0 (A9 C 0 ⋯) B9) B8)) B9)))
theorem Li:FnScope V3 ["book"] (A0 (top 8)):=⟨rfl,rfl,rfl,by decide +kernel,rfl,by decide +kernel,by decide +kernel⟩
theorem Ht  (T:Txt mg) (F_signs_added:Fn P w K mg base "signs_added" 1 1 E5) (C:Cxt P w K mg base X V3 (A0 (top 8)) 1 true):DSN X E0k (B6 (top 8)) W2 :=
 (Hj (Qd C 1 ⋯) (Hj (s_grp C 1 2 ⋯ ⋯ (Dm (A9 C 0 ⋯)) (t_gt C (F4 C F_signs_added (by decide) ⋯ (A8 (A9 C 2 ⋯) B8)) B9) (I0 (A9 C 2 ⋯) B9) (A9 C 2 ⋯) ⟨rfl,rfl,rfl,rfl⟩ (fun _=>rfl) rfl rfl rfl rfl rfl rfl) (fI C 1 ⋯)))
theorem Sg:FnScope M8 ["book"] (A0 (top 9)):=⟨rfl,rfl,rfl,by decide +kernel,rfl,by decide +kernel,by decide +kernel⟩
theorem Nf  (T:Txt mg) (F_adds_behind:FnN P w K mg base "adds_behind" 2 1 N2) (C:Cxt P w K mg base X M8 (A0 (top 9)) 2 true):DS X E0k (stm 9 0) Ax :=
 (Vp C 1 ⋯ (fK C F_adds_behind (by decide) ⋯ (A8 (A9 C 0 ⋯) B8)))
theorem Nd  (T:Txt mg) (C:Cxt P w K mg base X M8 (A0 (top 9)) 2 true):DS X E0k (stm 9 1) Aw :=
 (Vq C 2 ⋯ ⋯ [] [] ⋯ (Dm (gY C 1 ⋯ Ra (U3 (Ao B8)))) (fun X' C'=>Js) (fun X' C'=>(K8 (A8 (A9 C' 0 ⋯) (A8 B9 B8)))))
theorem Nc  (T:Txt mg) (C:Cxt P w K mg base X M8 (A0 (top 9)) 2 true):DS X E0k (stm 9 2) Ei :=
 (mN C 3 ⋯ (Ao B8))
theorem Nb  (T:Txt mg) (C:Cxt P w K mg base X M8 (A0 (top 9)) 2 true):DS X E0k (stm 9 3) Av :=
 (iX C (t_own C 2 ⋯) (C6 (s_pop C 2 4 ⋯ ⋯) (C6 (Q6 C 5 ⋯ (I0 (A9 C 4 ⋯) B9)) (C6 (Q6 C 6 ⋯ (I0 (A9 C 4 ⋯) B9)) (C6 (Q6 C 7 ⋯ (K8 (A8 (I0 (A9 C 5 ⋯) B9) (A8 (A9 C 6 ⋯) B8)))) (C6 (dW C 3 ⋯ (K8 (A8 (A9 C 7 ⋯) (A8 (I0 (I0 (A9 C 5 ⋯) B9) (A9 C 6 ⋯)) B8)))) (C6 (Nm (cJ C (D4 (A9 C 6 ⋯) B9) (Dt C ⋯ T.b_len (A8 (I0 (A9 C 5 ⋯) B9) B8))) (E7 (dW C 2 ⋯ (K8 (A8 (A9 C 5 ⋯) (A8 (D4 (A9 C 6 ⋯) B9) B8))))) Ay) (E7 (s_ext C 2 ⋯ (Cj C [] [] ⋯ (Dm (gY C 1 ⋯ (A9 C 7 ⋯) (U3 (Ao B8)))) (fun X' C'=>Js) (fun X' C'=>(K8 (A8 (A9 C' 0 ⋯) (A8 B9 B8))))))))))))))
theorem Na  (T:Txt mg) (C:Cxt P w K mg base X M8 (A0 (top 9)) 2 true):DS X E0k (stm 9 4) Eh :=
 (s_fz 3 (V5 (A9 C 3 ⋯)))
theorem Nx  (T:Txt mg) (F_adds_behind:FnN P w K mg base "adds_behind" 2 1 N2) (C:Cxt P w K mg base X M8 (A0 (top 9)) 2 true):DSs X E0k (B6 (top 9)) Cc:=by
 have h:B6 (top 9)=[stm 9 0,stm 9 1,stm 9 2,stm 9 3,stm 9 4]:=by kernel_rfl
 rw [h];exact (C6 (Nf T F_adds_behind C) (C6 (Nd T C) (C6 (Nc T C) (C6 (Nb T C) (E7 (Na T C))))))
theorem Px:FnScope Ap ["book"] (A0 (top 10)):=⟨rfl,rfl,rfl,by decide +kernel,rfl,by decide +kernel,by decide +kernel⟩
theorem Mp  (T:Txt mg) (C:Cxt P w K mg base X Ap (A0 (top 10)) 0 true):DSN X E0k (B6 (top 10)) Az :=
 (Hj (Qd C 1 ⋯) (Hj (He C 2 ⋯ (i_rev C ⋯ T.b_reversed (A9 C 0 ⋯)) (E7 (Nm (w_t (Rp (Rt C (I0 (A9 C 2 ⋯) B9) O3) (Jn (Rs C 1 ⋯ (I0 (A9 C 2 ⋯) B9))))) (E7 (dS C 1 ⋯ (I0 (A9 C 2 ⋯) B9) Bl)) Ay))) (fI C 1 ⋯)))
theorem Nh:FnScope X0 ["book", "undone"] (A0 (top 11)):=⟨rfl,rfl,rfl,by decide +kernel,rfl,by decide +kernel,by decide +kernel⟩
theorem Iu  (T:Txt mg) (C:Cxt P w K mg base X X0 (A0 (top 11)) 0 true):DSN X E0k (B6 (top 11)) Z4 :=
 (Hj (Qd C 2 ⋯) (Hj (He C 3 ⋯ (Dm (A9 C 0 ⋯)) (E7 (Nm (w_t (Rp (Rt C (I0 (A9 C 3 ⋯) B9) O3) (Jn (Rs C 1 ⋯ (I0 (A9 C 3 ⋯) B9))))) (E7 (He C 4 ⋯ (Dm (I0 (A9 C 3 ⋯) B9)) (E7 (dS C 2 ⋯ (A9 C 4 ⋯) Bl)))) Ay))) (fI C 2 ⋯)))
theorem Lh:FnScope F8 ["book"] (A0 (top 12)):=⟨rfl,rfl,rfl,by decide +kernel,rfl,by decide +kernel,by decide +kernel⟩
theorem Gu  (T:Txt mg) (F_undone_in:FnN P w K mg base "undone_in" 1 1 O2) (C:Cxt P w K mg base X F8 (A0 (top 12)) 3 true):DS X E0k (stm 12 0) U5 :=
 (Vp C 1 ⋯ (fK C F_undone_in (by decide) ⋯ (A8 (A9 C 0 ⋯) B8)))
theorem Gs  (T:Txt mg) (F_dropped_in:FnSN P w K mg base "dropped_in" 1 2 K5) (C:Cxt P w K mg base X F8 (A0 (top 12)) 3 true):DS X E0k (stm 12 1) U4 :=
 (s_fzN 1 (Vp C 2 ⋯ (fJ C F_dropped_in (by decide) ⋯ (A9 C 0 ⋯) 1 ⋯)))
theorem Gr  (T:Txt mg) (C:Cxt P w K mg base X F8 (A0 (top 12)) 3 true):DS X E0k (stm 12 2) Bo :=
 (mN C 3 ⋯ (Ao B8))
theorem Gq  (T:Txt mg) (F_signs_of:Fn P w K mg base "signs_of" 3 1 U8) (C:Cxt P w K mg base X F8 (A0 (top 12)) 3 true):DS X E0k (stm 12 3) O4 :=
 (He C 4 ⋯ (Dm (F4 C F_signs_of (by decide) ⋯ (A8 (A9 C 0 ⋯) B8))) (E7 (dW C 3 ⋯ (K8 (A8 (A9 C 4 ⋯) (A8 (d_and (Ui C 1 ⋯ (I0 (I0 (A9 C 4 ⋯) B9) B9)) (d_one (Ui C 2 ⋯ (I0 (A9 C 4 ⋯) B9)))) B8))))))
theorem Gp  (T:Txt mg) (C:Cxt P w K mg base X F8 (A0 (top 12)) 3 true):DS X E0k (stm 12 4) Bn :=
 (s_fz 3 (V5 (A9 C 3 ⋯)))
theorem Hs  (T:Txt mg) (F_dropped_in:FnSN P w K mg base "dropped_in" 1 2 K5) (F_signs_of:Fn P w K mg base "signs_of" 3 1 U8) (F_undone_in:FnN P w K mg base "undone_in" 1 1 O2) (C:Cxt P w K mg base X F8 (A0 (top 12)) 3 true):DSs X E0k (B6 (top 12)) W1:=by
 have h:B6 (top 12)=[stm 12 0,stm 12 1,stm 12 2,stm 12 3,stm 12 4]:=by kernel_rfl
 rw [h];exact (C6 (Gu T F_undone_in C) (C6 (Gs T F_dropped_in C) (C6 (Gr T C) (C6 (Gq T F_signs_of C) (E7 (Gp T C))))))
theorem Sh:FnScope Cn ["book"] (A0 (top 13)):=⟨rfl,rfl,rfl,by decide +kernel,rfl,by decide +kernel,by decide +kernel⟩
theorem Ny  (T:Txt mg) (F_presence_in:Fn P w K mg base "presence_in" 4 1 P7) (C:Cxt P w K mg base X Cn (A0 (top 13)) 4 true):DSs X E0k (B6 (top 13)) Cd :=
 (E7 (V5 (U3 (Cj C [] [] ⋯ (Dm (F4 C F_presence_in (by decide) ⋯ (A8 (A9 C 0 ⋯) B8))) (fun X' C'=>(Pq (t_val (I0 (A9 C' 0 ⋯) B9)))) (fun X' C'=>(I0 (A9 C' 0 ⋯) B9))))))
theorem Vo:FnScope Ed ["book"] (A0 (top 14)):=⟨rfl,rfl,rfl,by decide +kernel,rfl,by decide +kernel,by decide +kernel⟩
theorem Ri  (T:Txt mg) (F_shown_in:Fn P w K mg base "shown_in" 5 1 U9) (C:Cxt P w K mg base X Ed (A0 (top 14)) 5 true):DSs X E0k (B6 (top 14)) Db :=
 (E7 (V5 (gX (U3 (Cj C [] [] ⋯ (Dm (F4 C F_shown_in (by decide) ⋯ (A8 (A9 C 0 ⋯) B8))) (fun X' C'=>Js) (fun X' C'=>(I0 (A9 C' 0 ⋯) B9)))))))
theorem Qb:FnScope Aq ["_law_script", "_law_k"] (A0 (top 18)):=⟨rfl,rfl,rfl,by decide +kernel,rfl,by decide +kernel,by decide +kernel⟩
theorem Mt  (T:Txt mg) (C:Cxt P w K mg base X Aq (A0 (top 18)) 0 true):DSs X E0k (B6 (top 18)) Bc :=
 (C6 (Nm (Rt C (A9 C 0 ⋯) (U3 (Ao B8))) (E7 (V5 (Cs B9 (A9 C 1 ⋯)))) Ay) (E7 (V5 (D4 (I0 (A9 C 0 ⋯) (Pa (A9 C 1 ⋯) (Dt C ⋯ T.b_len (A8 (A9 C 0 ⋯) B8)))) (Cs B9 (Rb (A9 C 1 ⋯) (Dt C ⋯ T.b_len (A8 (A9 C 0 ⋯) B8))))))))
theorem Nl:FnScope X3 ["_law_script", "_law_k", "_law_many"] (A0 (top 19)):=⟨rfl,rfl,rfl,by decide +kernel,rfl,by decide +kernel,by decide +kernel⟩
theorem Iy  (T:Txt mg) (F__law_cell:Fn P w K mg base "_law_cell" 1 2 V7) (C:Cxt P w K mg base X X3 (A0 (top 19)) 1 true):DSs X E0k (B6 (top 19)) Z8 :=
 (C6 (Q6 C 3 ⋯ (Pa (D4 (Cs (Pa (F4 C F__law_cell (by decide) ⋯ (A8 (A9 C 0 ⋯) (A8 (A9 C 1 ⋯) B8))) B9) B9) (Cs B9 (D4 (A9 C 1 ⋯) B9))) B9)) (C6 (Q6 C 3 ⋯ (Pa (D4 (Cs (A9 C 3 ⋯) (A9 C 3 ⋯)) (Rb (A9 C 3 ⋯) B9)) B9)) (E7 (V5 (Pa (Rb (Pa (D4 (Cs (A9 C 3 ⋯) (A9 C 3 ⋯)) (Rb (A9 C 3 ⋯) B9)) B9) B9) (A9 C 2 ⋯))))))
theorem Ni:FnScope X1 ["_law_script", "_law_at"] (A0 (top 20)):=⟨rfl,rfl,rfl,by decide +kernel,rfl,by decide +kernel,by decide +kernel⟩
theorem Iv  (T:Txt mg) (F__law_drawn:Fn P w K mg base "_law_drawn" 2 3 B0) (C:Cxt P w K mg base X X1 (A0 (top 20)) 2 true):DSs X E0k (B6 (top 20)) Z5 :=
 (E7 (V5 (gX (U3 (Cj C [0,1] ["_law_script", "_law_at"] ⋯ (V9 C ⋯ T.b_range (A8 (D4 B9 (F4 C F__law_drawn (by decide) ⋯ (A8 (A9 C 0 ⋯) (A8 (D4 (A9 C 1 ⋯) B9) (A8 B9 B8))))) B8)) (fun X' C'=>Js) (fun X' C'=>(I0 O3 (F4 C' F__law_drawn (by decide) ⋯ (A8 (A9 C' 1 ⋯) (A8 (D4 (A9 C' 2 ⋯) (A9 C' 0 ⋯)) (A8 B9 B8)))))))))))
theorem Nj:FnScope X2 ["_law_book_here"] (A0 (top 21)):=⟨rfl,rfl,rfl,by decide +kernel,rfl,by decide +kernel,by decide +kernel⟩
theorem Iw  (T:Txt mg) (C:Cxt P w K mg base X X2 (A0 (top 21)) 0 true):DSs X E0k (B6 (top 21)) Z6 :=
 (C6 (Q6 C 1 ⋯ (U3 (Ao B8))) (C6 (He C 2 ⋯ (Dm (A9 C 0 ⋯)) (E7 (Nm (Rt C (I0 (A9 C 2 ⋯) B9) O3) (E7 (Q6 C 1 ⋯ (D4 (A9 C 1 ⋯) (U3 (Cj C [2] ["_law_deed_here"] ⋯ (V9 C ⋯ T.b_range (A8 (Dt C ⋯ T.b_len (A8 (I0 (A9 C 2 ⋯) B9) B8)) B8)) (fun X' C'=>Js) (fun X' C'=>(K8 (A8 (I0 (A9 C' 1 ⋯) B9) (A8 (A9 C' 0 ⋯) B8))))))))) Ay))) (E7 (V5 (A9 C 1 ⋯)))))
theorem Lj:FnScope V4 ["_law_script", "_law_at", "_law_signs_here"] (A0 (top 22)):=⟨rfl,rfl,rfl,by decide +kernel,rfl,by decide +kernel,by decide +kernel⟩
theorem Hu  (T:Txt mg) (F__law_drawn:Fn P w K mg base "_law_drawn" 2 3 B0) (C:Cxt P w K mg base X V4 (A0 (top 22)) 2 true):DSs X E0k (B6 (top 22)) W3 :=
 (C6 (Q6 C 3 ⋯ (I0 (D4 (U3 (Ao (A8 Ra B8))) (A9 C 2 ⋯)) (F4 C F__law_drawn (by decide) ⋯ (A8 (A9 C 0 ⋯) (A8 (A9 C 1 ⋯) (A8 (D4 (Dt C ⋯ T.b_len (A8 (A9 C 2 ⋯) B8)) B9) B8)))))) (E7 (V5 (K8 (A8 (A9 C 3 ⋯) (A8 (I0 O3 (F4 C F__law_drawn (by decide) ⋯ (A8 (A9 C 0 ⋯) (A8 (D4 (A9 C 1 ⋯) B9) (A8 B9 B8))))) B8))))))
theorem Qa:FnScope F5 ["_law_script", "_law_at", "_law_one", "_law_known", "_law_names"] (A0 (top 23)):=⟨rfl,rfl,rfl,by decide +kernel,rfl,by decide +kernel,by decide +kernel⟩
theorem Kq  (T:Txt mg) (F__law_signs:Fn P w K mg base "_law_signs" 1 1 O8) (C:Cxt P w K mg base X F5 (A0 (top 23)) 3 true):DS X E0k (stm 23 0) Y1 :=
 (Q6 C 5 ⋯ (F4 C F__law_signs (by decide) ⋯ (A8 (A9 C 3 ⋯) B8)))
theorem Kp  (T:Txt mg) (F__law_drawn:Fn P w K mg base "_law_drawn" 2 3 B0) (C:Cxt P w K mg base X F5 (A0 (top 23)) 3 true):DS X E0k (stm 23 1) Y0 :=
 (Q6 C 6 ⋯ (F4 C F__law_drawn (by decide) ⋯ (A8 (A9 C 0 ⋯) (A8 (A9 C 1 ⋯) (A8 B9 B8)))))
theorem Ko  (T:Txt mg) (F__law_drawn:Fn P w K mg base "_law_drawn" 2 3 B0) (C:Cxt P w K mg base X F5 (A0 (top 23)) 3 true):DS X E0k (stm 23 2) X9 :=
 (Nm (w_t (Rp (cJ C (A9 C 6 ⋯) B9) (Jn (cI C (A9 C 5 ⋯) (U3 (Ao B8)))))) (C6 (Vr C 8 ⋯ ⋯ [0,1] ["_law_script", "_law_at"] ⋯ (qG C ⋯ T.b_enumerate (A8 (A9 C 5 ⋯) B8)) (fun X' C'=>(Pq (Rt C' (F4 C' F__law_drawn (by decide) ⋯ (A8 (A9 C' 2 ⋯) (A8 (D4 (D4 (A9 C' 3 ⋯) B9) (A9 C' 0 ⋯)) (A8 B9 B8)))) B9))) (fun X' C'=>(A9 C' 1 ⋯))) (E7 (V5 (K8 (A8 O3 (A8 (A9 C 2 ⋯) (A8 (gW C ⋯ T.b_tuple (A8 (D4 (A9 C 8 ⋯) (Cs (Qz (A9 C 5 ⋯) Wj (Wi B9)) (qU C ⋯ T.b_int (A8 (d_eq C (A9 C 8 ⋯) (U3 (Ao B8))) B8)))) B8)) B8))))))) Ay)
theorem Kn  (T:Txt mg) (F__law_anchor:Fn P w K mg base "_law_anchor" 3 3 L0) (F__law_drawn:Fn P w K mg base "_law_drawn" 2 3 B0) (C:Cxt P w K mg base X F5 (A0 (top 23)) 3 true):DS X E0k (stm 23 3) X8 :=
 (Nm (cJ C (A9 C 6 ⋯) B9) (C6 (Q6 C 9 ⋯ (K8 (A8 (F4 C F__law_anchor (by decide) ⋯ (A8 (A9 C 0 ⋯) (A8 (D4 (A9 C 1 ⋯) B9) (A8 (A9 C 5 ⋯) B8)))) (A8 (F4 C F__law_anchor (by decide) ⋯ (A8 (A9 C 0 ⋯) (A8 (D4 (A9 C 1 ⋯) B9) (A8 (A9 C 5 ⋯) B8)))) B8)))) (E7 (V5 (D4 (K8 (A8 O3 (A8 (A9 C 2 ⋯) (A8 (I0 (A9 C 4 ⋯) (F4 C F__law_drawn (by decide) ⋯ (A8 (A9 C 0 ⋯) (A8 (D4 (A9 C 1 ⋯) B9) (A8 B9 B8))))) B8)))) (A9 C 9 ⋯))))) Ay)
theorem Km  (T:Txt mg) (F__law_drawn:Fn P w K mg base "_law_drawn" 2 3 B0) (C:Cxt P w K mg base X F5 (A0 (top 23)) 3 true):DS X E0k (stm 23 4) X7 :=
 (Nm (Rt C (A9 C 6 ⋯) B9) (E7 (V5 (K8 (A8 O3 (A8 (A9 C 2 ⋯) (A8 (I0 (A9 C 4 ⋯) (F4 C F__law_drawn (by decide) ⋯ (A8 (A9 C 0 ⋯) (A8 (D4 (A9 C 1 ⋯) B9) (A8 B9 B8))))) B8)))))) Ay)
theorem Kl  (T:Txt mg) (F__law_drawn:Fn P w K mg base "_law_drawn" 2 3 B0) (C:Cxt P w K mg base X F5 (A0 (top 23)) 3 true):DS X E0k (stm 23 5) X6 :=
 (Nm (w_t (Rp (cJ C (A9 C 6 ⋯) B9) (Jn (cI C (A9 C 3 ⋯) (K8 B8))))) (E7 (V5 (K8 (A8 O3 (A8 (A9 C 2 ⋯) (A8 (I0 (I0 (A9 C 3 ⋯) (F4 C F__law_drawn (by decide) ⋯ (A8 (A9 C 0 ⋯) (A8 (D4 (A9 C 1 ⋯) B9) (A8 (Dt C ⋯ T.b_len (A8 (A9 C 3 ⋯) B8)) B8))))) B9) B8)))))) Ay)
theorem Kk  (T:Txt mg) (F__law_drawn:Fn P w K mg base "_law_drawn" 2 3 B0) (C:Cxt P w K mg base X F5 (A0 (top 23)) 3 true):DS X E0k (stm 23 6) X5 :=
 (Q6 C 7 ⋯ (I0 (D4 (D4 (U3 (Ao (A8 Ra B8))) (A9 C 5 ⋯)) (Qz (A9 C 5 ⋯) (Wi (Uj B9)) Wj)) (F4 C F__law_drawn (by decide) ⋯ (A8 (A9 C 0 ⋯) (A8 (D4 (A9 C 1 ⋯) B9) (A8 (D4 (D4 (Dt C ⋯ T.b_len (A8 (A9 C 5 ⋯) B8)) B9) (Dt C ⋯ T.b_len (A8 (Qz (A9 C 5 ⋯) (Wi (Uj B9)) Wj) B8))) B8))))))
theorem Kj  (T:Txt mg) (F__law_words:Fn P w K mg base "_law_words" 3 2 O7) (C:Cxt P w K mg base X F5 (A0 (top 23)) 3 true):DS X E0k (stm 23 7) X4 :=
 (V5 (K8 (A8 O3 (A8 (A9 C 2 ⋯) (A8 (A9 C 7 ⋯) (A8 (F4 C F__law_words (by decide) ⋯ (A8 (A9 C 0 ⋯) (A8 (D4 (A9 C 1 ⋯) B9) B8))) B8))))))
theorem Ms  (T:Txt mg) (F__law_anchor:Fn P w K mg base "_law_anchor" 3 3 L0) (F__law_drawn:Fn P w K mg base "_law_drawn" 2 3 B0) (F__law_signs:Fn P w K mg base "_law_signs" 1 1 O8) (F__law_words:Fn P w K mg base "_law_words" 3 2 O7) (C:Cxt P w K mg base X F5 (A0 (top 23)) 3 true):DSs X E0k (B6 (top 23)) Bb:=by
 have h:B6 (top 23)=[stm 23 0,stm 23 1,stm 23 2,stm 23 3,stm 23 4,stm 23 5,stm 23 6,stm 23 7]:=by kernel_rfl
 rw [h];exact (C6 (Kq T F__law_signs C) (C6 (Kp T F__law_drawn C) (C6 (Ko T F__law_drawn C) (C6 (Kn T F__law_anchor F__law_drawn C) (C6 (Km T F__law_drawn C) (C6 (Kl T F__law_drawn C) (C6 (Kk T F__law_drawn C) (E7 (Kj T F__law_words C)))))))))
theorem Qc:FnScope L9 ["_law_script", "_law_at", "_law_most", "_law_names"] (A0 (top 24)):=⟨rfl,rfl,rfl,by decide +kernel,rfl,by decide +kernel,by decide +kernel⟩
theorem Ku  (T:Txt mg) (C:Cxt P w K mg base X L9 (A0 (top 24)) 4 true):DS X E0k (stm 24 0) Y5 :=
 (Q6 C 4 ⋯ (K8 B8))
theorem Kt  (T:Txt mg) (C:Cxt P w K mg base X L9 (A0 (top 24)) 4 true):DS X E0k (stm 24 1) Y4 :=
 (Q6 C 5 ⋯ (K8 (A8 B9 (A8 O3 B8))))
theorem Ks  (T:Txt mg) (F__law_deed:Fn P w K mg base "_law_deed" 4 5 L7) (F__law_drawn:Fn P w K mg base "_law_drawn" 2 3 B0) (C:Cxt P w K mg base X L9 (A0 (top 24)) 4 true):DS X E0k (stm 24 2) Y3 :=
 (He C 6 ⋯ (V9 C ⋯ T.b_range (A8 (F4 C F__law_drawn (by decide) ⋯ (A8 (A9 C 0 ⋯) (A8 (A9 C 1 ⋯) (A8 (D4 (A9 C 2 ⋯) B9) B8)))) B8)) (C6 (Q6 C 7 ⋯ (D4 (I0 (A9 C 5 ⋯) B9) (F4 C F__law_drawn (by decide) ⋯ (A8 (A9 C 0 ⋯) (A8 (D4 (D4 (A9 C 1 ⋯) B9) (Cs B9 (A9 C 6 ⋯))) (A8 B9 B8)))))) (C6 (Q6 C 8 ⋯ (I0 O3 (F4 C F__law_drawn (by decide) ⋯ (A8 (A9 C 0 ⋯) (A8 (D4 (D4 (A9 C 1 ⋯) B9) (Cs B9 (A9 C 6 ⋯))) (A8 B9 B8)))))) (C6 (Nm (w_t (Rp (cI C (A9 C 4 ⋯) (K8 B8)) (Jn (t_le C (K8 (A8 (A9 C 7 ⋯) (A8 (A9 C 8 ⋯) B8))) (A9 C 5 ⋯))))) (E7 (Q6 C 7 ⋯ (D4 (I0 (A9 C 5 ⋯) B9) B9))) Ay) (C6 (Q6 C 5 ⋯ (K8 (A8 (A9 C 7 ⋯) (A8 (A9 C 8 ⋯) B8)))) (C6 (Q6 C 9 ⋯ (gW C ⋯ T.b_tuple (A8 (U3 (Cj C [7] ["_law_time"] ⋯ (Dm (A9 C 4 ⋯)) (fun X' C'=>(Pq (cJ C' (I0 (I0 (A9 C' 0 ⋯) B9) B9) (A9 C' 1 ⋯)))) (fun X' C'=>(A9 C' 0 ⋯)))) B8))) (E7 (Q6 C 4 ⋯ (D4 (A9 C 4 ⋯) (K8 (A8 (F4 C F__law_deed (by decide) ⋯ (A8 (A9 C 0 ⋯) (A8 (D4 (D4 (A9 C 1 ⋯) B9) (Cs B9 (A9 C 6 ⋯))) (A8 (A9 C 5 ⋯) (A8 (A9 C 9 ⋯) (A8 (A9 C 3 ⋯) B8)))))) B8)))))))))))
theorem Kr  (T:Txt mg) (C:Cxt P w K mg base X L9 (A0 (top 24)) 4 true):DS X E0k (stm 24 3) Y2 :=
 (V5 (A9 C 4 ⋯))
theorem Mu  (T:Txt mg) (F__law_deed:Fn P w K mg base "_law_deed" 4 5 L7) (F__law_drawn:Fn P w K mg base "_law_drawn" 2 3 B0) (C:Cxt P w K mg base X L9 (A0 (top 24)) 4 true):DSs X E0k (B6 (top 24)) Bd:=by
 have h:B6 (top 24)=[stm 24 0,stm 24 1,stm 24 2,stm 24 3]:=by kernel_rfl
 rw [h];exact (C6 (Ku T C) (C6 (Kt T C) (C6 (Ks T F__law_deed F__law_drawn C) (E7 (Kr T C)))))
end Sm
end
noncomputable section
namespace Sm
open PySem PySem.Spec PyProof.Rows L2
noncomputable section
variable {P:sE} {w:sT} {K:rK} {mg:Str->Option rJ} {base:tL} {X:Cx} {C:rN}
theorem Pw:FnScope ["self"] ["self"] (A0 (mt 0)):=⟨rfl,rfl,rfl,by decide +kernel,rfl,by decide +kernel,by decide +kernel⟩
theorem iW:FnScope ["self", "name", "book"] ["self", "name", "book"] (A0 (mt 1)):=⟨rfl,rfl,rfl,by decide +kernel,rfl,by decide +kernel,by decide +kernel⟩
theorem Ng:FnScope ["self", "word", "name", "book"] ["self", "word", "name", "book"] (A0 (mt 2)):=⟨rfl,rfl,rfl,by decide +kernel,rfl,by decide +kernel,by decide +kernel⟩
theorem dO:FnScope ["self", "name", "book"] ["self", "name", "book"] (A0 (mt 3)):=⟨rfl,rfl,rfl,by decide +kernel,rfl,by decide +kernel,by decide +kernel⟩
theorem Zy:FnScope ["self", "name"] ["self", "name"] (A0 (mt 4)):=⟨rfl,rfl,rfl,by decide +kernel,rfl,by decide +kernel,by decide +kernel⟩
theorem Vm:FnScope ["self", "name", "book"] ["self", "name"] (A0 (mt 5)):=⟨rfl,rfl,rfl,by decide +kernel,rfl,by decide +kernel,by decide +kernel⟩
theorem Zw:FnScope ["self"] ["self"] (A0 (mt 7)):=⟨rfl,rfl,rfl,by decide +kernel,rfl,by decide +kernel,by decide +kernel⟩
theorem dP:FnScope ["self", "step"] ["self"] (A0 (mt 8)):=⟨rfl,rfl,rfl,by decide +kernel,rfl,by decide +kernel,by decide +kernel⟩
theorem Zx:FnScope ["self", "step"] ["self"] (A0 (mt 9)):=⟨rfl,rfl,rfl,by decide +kernel,rfl,by decide +kernel,by decide +kernel⟩
theorem Vn:FnScope ["self"] ["self"] (A0 (mt 10)):=⟨rfl,rfl,rfl,by decide +kernel,rfl,by decide +kernel,by decide +kernel⟩
theorem dM:FnScope ["self", "other"] ["self"] (A0 (mt 11)):=⟨rfl,rfl,rfl,by decide +kernel,rfl,by decide +kernel,by decide +kernel⟩
theorem mF (A:AlbC K C) (c:Cxt P w K mg base X ["self"] (A0 (mt 0)) 0 true):PSs X (B6 (mt 0)) (cN C):=nU c ⋯ A.cl A.nb A.ns A.nt
theorem qY (A:AlbC K C) (c:Cxt P w K mg base X ["self", "name", "book"] (A0 (mt 1)) 0 true):PSs X (B6 (mt 1)) (nK C):=N6 (dX c ⋯ ⋯ ⋯ A.cl A.nb)
theorem hW (A:AlbC K C) (c:Cxt P w K mg base X ["self", "name"] (A0 (mt 4)) 0 true):PSs X (B6 (mt 4)) (Ve C):=iZ c ⋯ ⋯ A.cl A.nb
theorem hU (T:Txt mg) (A:AlbC K C) (c:Cxt P w K mg base X ["self"] (A0 (mt 7)) 0 true):PSs X (B6 (mt 7)) (fun D σ H=>Ps C σ H D.rt):=iY c ⋯ ⋯ T.b_sorted A.cl A.nb
theorem bQ (T:Txt mg) (A:AlbC K C) (c:Cxt P w K mg base X ["self"] (A0 (mt 10)) 0 true):PSs X (B6 (mt 10)) (Xm C):=dU c ⋯ ⋯ T.b_len A.cl A.ns A.nt
theorem mD (T:Txt mg) (A:AlbC K C) (MK:MkA P w K mg base C "Album" 1) (c:Cxt P w K mg base X ["self", "other"] (A0 (mt 11)) 2 true):PSs X (B6 (mt 11)) (cK C):=nT c ⋯ ⋯ ⋯ MK (by decide) ⋯ ⋯ T.b_dict ⋯ T.b_list A.cl A.nb A.ns A.nt
theorem Rj (A:AlbC K C) (M_put:MethA P w K mg base C "put" 1 2 Hl) (c:Cxt P w K mg base X ["self", "word", "name", "book"] (A0 (mt 2)) 1 true):QSs X C [0] (B6 (mt 2)) P4 :=
 (C4 (jR c ⋯ ⋯ ⋯ ⋯ A.cl A.nb A.ns) (C4 (eE c ⋯ A.cl A.nt) (F9 (T6 (Dj c 0 ⋯ rfl A.cl M_put (by decide) (by decide +kernel) (A8 (A9 c 2 ⋯) (A8 (A9 c 3 ⋯) B8)))))))
theorem mE (A:AlbC K C) (M_take_step:MethA P w K mg base C "take_step" 2 3 m_take_step) (F_text_of:Fn P w K mg base "text_of" 6 1 U7) (c:Cxt P w K mg base X ["self", "name", "book"] (A0 (mt 3)) 6 true):QSs X C [0] (B6 (mt 3)) Dc :=
 (C4 (T6 (Dj c 0 ⋯ rfl A.cl M_take_step (by decide) (by decide +kernel) (A8 O3 (A8 (A9 c 1 ⋯) (A8 (A9 c 2 ⋯) B8))))) (F9 (Q5 (E4 (F4 c F_text_of (by decide) ⋯ (A8 (A9 c 2 ⋯) B8))))))
theorem bP (A:AlbC K C) (M_fetch:MethR P w K mg base C "fetch" 1 1 W4) (M_take_step:MethA P w K mg base C "take_step" 2 3 m_take_step) (c:Cxt P w K mg base X ["self", "name", "book"] (A0 (mt 5)) 2 true):QSs X C [0] (B6 (mt 5)) Z3 :=
 (C4 (Be c 2 ⋯ (by decide) (Dj c 0 ⋯ rfl A.cl M_fetch.a (by decide) (by decide +kernel) (A8 (A9 c 1 ⋯) B8))) (C4 (T6 (Dj c 0 ⋯ rfl A.cl M_take_step (by decide) (by decide +kernel) (A8 O3 (A8 (A9 c 1 ⋯) (A8 Ra B8))))) (F9 (Q5 (E4 (A9 c 2 ⋯))))))
theorem mG (A:AlbC K C) (M_put:MethA P w K mg base C "put" 1 2 Hl) (c:Cxt P w K mg base X ["self", "step"] (A0 (mt 8)) 1 true):QSs X C [0] (B6 (mt 8)) Dd :=
 (C4 (Di (jQ c ⋯ A.cl A.ns) Ss Bf) (C4 (Be c 1 ⋯ (by decide) (oK c ⋯ A.cl A.ns)) (C4 (jV c ⋯ A.cl A.nt (A9 c 1 ⋯)) (C4 (T6 (Dj c 0 ⋯ rfl A.cl M_put (by decide) (by decide +kernel) (A8 (I0 (A9 c 1 ⋯) B9) (A8 (I0 (A9 c 1 ⋯) B9) B8)))) (F9 (Q5 (E4 (I0 (A9 c 1 ⋯) B9))))))))
theorem hV (A:AlbC K C) (M_put:MethA P w K mg base C "put" 1 2 Hl) (c:Cxt P w K mg base X ["self", "step"] (A0 (mt 9)) 1 true):QSs X C [0] (B6 (mt 9)) Bp :=
 (C4 (Di (jP c ⋯ A.cl A.nt) Ss Bf) (C4 (Be c 1 ⋯ (by decide) (oJ c ⋯ A.cl A.nt)) (C4 (jW c ⋯ A.cl A.ns (A9 c 1 ⋯)) (C4 (T6 (Dj c 0 ⋯ rfl A.cl M_put (by decide) (by decide +kernel) (A8 (I0 (A9 c 1 ⋯) B9) (A8 (I0 (A9 c 1 ⋯) B9) B8)))) (F9 (Q5 (E4 (I0 (A9 c 1 ⋯) B9))))))))
theorem Si:FnScope ["_law_album"] ["_law_album"] (A0 (top 26)):=⟨rfl,rfl,rfl,by decide +kernel,rfl,by decide +kernel,by decide +kernel⟩
theorem Nz (A:AlbC K C) (M_names:MethR P w K mg base C "names" 1 0 M7) (M_fetch:MethR P w K mg base C "fetch" 1 1 W4) (c:Cxt P w K mg base X ["_law_album"] (A0 (top 26)) 1 true):PSs X (B6 (top 26)) (nL C):=s_now c ⋯ ⋯ ⋯ ⋯ A.cl M_names M_fetch (by decide) (by decide)
theorem Py:FnScope R0 ["_law_script", "_law_at", "_law_album"] (A0 (top 25)):=⟨rfl,rfl,rfl,by decide +kernel,rfl,by decide +kernel,by decide +kernel⟩
theorem Kc (T:Txt mg) (A:AlbC K C) (F__law_drawn:Fn P w K mg base "_law_drawn" 2 3 B0) (c:Cxt P w K mg base X R0 (A0 (top 25)) 7 true):QS X C [2] (stq 25 0) Y7 :=
 (Be c 3 ⋯ (by decide) (E4 (I0 (U3 (Ao (A8 O3 (A8 O3 (A8 O3 B8))))) (F4 c F__law_drawn (by decide) ⋯ (A8 (A9 c 0 ⋯) (A8 (A9 c 1 ⋯) (A8 B9 B8)))))))
theorem Kb (T:Txt mg) (A:AlbC K C) (F__law_book:Fn P w K mg base "_law_book" 5 4 Q9) (c:Cxt P w K mg base X R0 (A0 (top 25)) 7 true):QS X C [2] (stq 25 1) Y6 :=
 (Be c 4 ⋯ (by decide) (E4 (F4 c F__law_book (by decide) ⋯ (A8 (A9 c 0 ⋯) (A8 (D4 (A9 c 1 ⋯) B9) (A8 B9 (A8 (U3 (Ao (A8 O3 (A8 O3 (A8 O3 B8))))) B8)))))))
theorem Ka (T:Txt mg) (A:AlbC K C) (M_forget:MethA P w K mg base C "forget" 3 1 m_forget) (M_keep:MethA P w K mg base C "keep" 7 2 m_keep) (M_names:MethR P w K mg base C "names" 1 0 M7) (F__law_drawn:Fn P w K mg base "_law_drawn" 2 3 B0) (c:Cxt P w K mg base X R0 (A0 (top 25)) 7 true):QS X C [2] (stq 25 2) Cw :=
 (Di (oI (qt_in c (E4 (A9 c 3 ⋯)) (M5 c 0 ⋯ rfl A.cl M_names.a (by decide) (by decide +kernel))) (Qi (Rt c (F4 c F__law_drawn (by decide) ⋯ (A8 (A9 c 0 ⋯) (A8 (D4 (A9 c 1 ⋯) B9) (A8 B9 B8)))) B9))) (F9 (T6 (Dj c 0 ⋯ rfl A.cl M_forget (by decide) (by decide +kernel) (A8 (A9 c 3 ⋯) B8)))) (F9 (T6 (Dj c 0 ⋯ rfl A.cl M_keep (by decide) (by decide +kernel) (A8 (A9 c 3 ⋯) (A8 (A9 c 4 ⋯) B8))))))
theorem Mq (T:Txt mg) (A:AlbC K C) (M_forget:MethA P w K mg base C "forget" 3 1 m_forget) (M_keep:MethA P w K mg base C "keep" 7 2 m_keep) (M_names:MethR P w K mg base C "names" 1 0 M7) (F__law_book:Fn P w K mg base "_law_book" 5 4 Q9) (F__law_drawn:Fn P w K mg base "_law_drawn" 2 3 B0) (c:Cxt P w K mg base X R0 (A0 (top 25)) 7 true):QSs X C [2] (B6 (top 25)) V2:=by
 have h:B6 (top 25)=[stq 25 0,stq 25 1,stq 25 2]:=by kernel_rfl
 rw [h];exact (C4 (Kc T A F__law_drawn c) (C4 (Kb T A F__law_book c) (F9 (Ka T A M_forget M_keep M_names F__law_drawn c))))
theorem Nk:FnScope U1 ["_law_script", "_law_album"] (A0 (top 27)):=⟨rfl,rfl,rfl,by decide +kernel,rfl,by decide +kernel,by decide +kernel⟩
theorem Il (T:Txt mg) (A:AlbC K C) (F__law_step:FnA P w K mg base C "_law_step" 8 2 2 G6) (c:Cxt P w K mg base X U1 (A0 (top 27)) 8 true):QS X C [1] (stq 27 0) Cp :=
 (Ex c 2 ⋯ (by decide) (V9 c ⋯ T.b_range (A8 B9 B8)) (F9 (T6 (K4 c F__law_step (by decide) ⋯ (Eb (A9 c 0 ⋯) (Eb (D4 B9 (Cs B9 (A9 c 2 ⋯))) (K9 c 0 ⋯ rfl B8))) rfl))))
theorem Ik (T:Txt mg) (A:AlbC K C) (M_counts:MethR P w K mg base C "counts" 1 0 C7) (F__law_now:FnA P w K mg base C "_law_now" 2 0 0 (rdM I8)) (c:Cxt P w K mg base X U1 (A0 (top 27)) 8 true):QS X C [1] (stq 27 1) Co :=
 (Q5 (Qj (K4 c F__law_now (by decide) ⋯ (K9 c 0 ⋯ rfl B8) rfl) (M5 c 0 ⋯ rfl A.cl M_counts.a (by decide) (by decide +kernel))))
theorem Ix (T:Txt mg) (A:AlbC K C) (M_counts:MethR P w K mg base C "counts" 1 0 C7) (F__law_now:FnA P w K mg base C "_law_now" 2 0 0 (rdM I8)) (F__law_step:FnA P w K mg base C "_law_step" 8 2 2 G6) (c:Cxt P w K mg base X U1 (A0 (top 27)) 8 true):QSs X C [1] (B6 (top 27)) Z7:=by
 have h:B6 (top 27)=[stq 27 0,stq 27 1]:=by kernel_rfl
 rw [h];exact (C4 (Il T A F__law_step c) (F9 (Ik T A M_counts F__law_now c)))
theorem Pz:FnScope L8 ["_law_album", "_law_rows"] (A0 (top 28)):=⟨rfl,rfl,rfl,by decide +kernel,rfl,by decide +kernel,by decide +kernel⟩
theorem Ki (T:Txt mg) (A:AlbC K C) (c:Cxt P w K mg base X L8 (A0 (top 28)) 2 true):QS X C [0] (stq 28 0) Z1 :=
 (Be c 2 ⋯ (by decide) (E4 (Er (Dt c ⋯ T.b_len (A8 (A9 c 1 ⋯) B8)) B9)))
theorem Kh (T:Txt mg) (A:AlbC K C) (c:Cxt P w K mg base X L8 (A0 (top 28)) 2 true):QS X C [0] (stq 28 1) Cy :=
 (jT c 3 ⋯ (by decide))
theorem Kg (T:Txt mg) (A:AlbC K C) (M_back:MethA P w K mg base C "back" 2 0 m_back) (M_counts:MethR P w K mg base C "counts" 1 0 C7) (F__law_now:FnA P w K mg base C "_law_now" 2 0 0 (rdM I8)) (c:Cxt P w K mg base X L8 (A0 (top 28)) 2 true):QS X C [0] (stq 28 2) Z0 :=
 (Ex c 4 ⋯ (by decide) (gD c ⋯ T.b_range (A8 (Er (A9 c 2 ⋯) B9) (A8 (Uj B9) (A8 (Uj B9) B8)))) (C4 (eF c 3 ⋯ (M5 c 0 ⋯ rfl A.cl M_back (by decide) (by decide +kernel))) (F9 (Di (Oo (Dh c (K4 c F__law_now (by decide) ⋯ (K9 c 0 ⋯ rfl B8) rfl) (E4 (I0 (A9 c 1 ⋯) (A9 c 4 ⋯)))) (Dh c (M5 c 0 ⋯ rfl A.cl M_counts.a (by decide) (by decide +kernel)) (E4 (K8 (A8 (A9 c 4 ⋯) (A8 (Er (A9 c 2 ⋯) (A9 c 4 ⋯)) B8)))))) (F9 (Q5 (E4 Bl))) Bf))))
theorem Kf (T:Txt mg) (A:AlbC K C) (M_counts:MethR P w K mg base C "counts" 1 0 C7) (M_forth:MethA P w K mg base C "forth" 2 0 m_forth) (F__law_now:FnA P w K mg base C "_law_now" 2 0 0 (rdM I8)) (c:Cxt P w K mg base X L8 (A0 (top 28)) 2 true):QS X C [0] (stq 28 3) Y9 :=
 (mR 3 (Ex c 4 ⋯ (by decide) (gE c ⋯ T.b_range (A8 B9 (A8 (D4 (A9 c 2 ⋯) B9) B8))) (C4 (Di (Oo (Dh c (M5 c 0 ⋯ rfl A.cl M_forth (by decide) (by decide +kernel)) (E4 (I0 (A9 c 3 ⋯) (Er (A9 c 2 ⋯) (A9 c 4 ⋯))))) (Dh c (K4 c F__law_now (by decide) ⋯ (K9 c 0 ⋯ rfl B8) rfl) (E4 (I0 (A9 c 1 ⋯) (A9 c 4 ⋯))))) (F9 (Q5 (E4 Bl))) Bf) (F9 (Di (Dh c (M5 c 0 ⋯ rfl A.cl M_counts.a (by decide) (by decide +kernel)) (E4 (K8 (A8 (A9 c 4 ⋯) (A8 (Er (A9 c 2 ⋯) (A9 c 4 ⋯)) B8))))) (F9 (Q5 (E4 Bl))) Bf)))))
theorem Ke (T:Txt mg) (A:AlbC K C) (c:Cxt P w K mg base X L8 (A0 (top 28)) 2 true):QS X C [0] (stq 28 4) Y8 :=
 (Q5 (E4 (d_eq c (U3 (Cj c [] [] ⋯ (Dm (A9 c 3 ⋯)) (fun X' C'=>(Pq (iO C' (A9 C' 0 ⋯) (K8 (A8 O3 (A8 O3 B8)))))) (fun X' C'=>(A9 C' 0 ⋯)))) (U3 (Ao B8)))))
theorem Mr (T:Txt mg) (A:AlbC K C) (M_back:MethA P w K mg base C "back" 2 0 m_back) (M_counts:MethR P w K mg base C "counts" 1 0 C7) (M_forth:MethA P w K mg base C "forth" 2 0 m_forth) (F__law_now:FnA P w K mg base C "_law_now" 2 0 0 (rdM I8)) (c:Cxt P w K mg base X L8 (A0 (top 28)) 2 true):QSs X C [0] (B6 (top 28)) Ba:=by
 have h:B6 (top 28)=[stq 28 0,stq 28 1,stq 28 2,stq 28 3,stq 28 4]:=by kernel_rfl
 rw [h];exact (C4 (Ki T A c) (C4 (Kh T A c) (C4 (Kg T A M_back M_counts F__law_now c) (C4 (Kf T A M_counts M_forth F__law_now c) (F9 (Ke T A c))))))
theorem nS:FnScope O9 ["_law_script"] (A0 (top 29)):=⟨rfl,rfl,rfl,by decide +kernel,rfl,by decide +kernel,by decide +kernel⟩
theorem dD (T:Txt mg) (A:AlbC K C) (MK:MkA P w K mg base C "Album" 1) (c:Cxt P w K mg base X O9 (A0 (top 29)) 9 true):QS X C [1,8,9] (stq 29 0) Sa :=
 (jU c 0 ⋯ rfl (by decide) MK (by decide) ⋯)
theorem dC (T:Txt mg) (A:AlbC K C) (F__law_now:FnA P w K mg base C "_law_now" 2 0 0 (rdM I8)) (c:Cxt P w K mg base X O9 (A0 (top 29)) 9 true):QS X C [1,8,9] (stq 29 1) Rz :=
 (jS c 2 ⋯ (by decide) (K4 c F__law_now (by decide) ⋯ (K9 c 0 ⋯ rfl B8) rfl))
theorem dB (T:Txt mg) (A:AlbC K C) (F__law_drawn:Fn P w K mg base "_law_drawn" 2 3 B0) (F__law_now:FnA P w K mg base C "_law_now" 2 0 0 (rdM I8)) (F__law_step:FnA P w K mg base C "_law_step" 8 2 2 G6) (c:Cxt P w K mg base X O9 (A0 (top 29)) 9 true):QS X C [1,8,9] (stq 29 2) Lc :=
 (Ex c 3 ⋯ (by decide) (V9 c ⋯ T.b_range (A8 (D4 B9 (F4 c F__law_drawn (by decide) ⋯ (A8 (A9 c 0 ⋯) (A8 B9 (A8 B9 B8))))) B8)) (C4 (T6 (K4 c F__law_step (by decide) ⋯ (Eb (A9 c 0 ⋯) (Eb (D4 B9 (Cs B9 (A9 c 3 ⋯))) (K9 c 0 ⋯ rfl B8))) rfl)) (F9 (eF c 2 ⋯ (K4 c F__law_now (by decide) ⋯ (K9 c 0 ⋯ rfl B8) rfl)))))
theorem dA (T:Txt mg) (A:AlbC K C) (c:Cxt P w K mg base X O9 (A0 (top 29)) 9 true):QS X C [1,8,9] (stq 29 3) Lb :=
 (mR 2 (Be c 4 ⋯ (by decide) (E4 (Er (Dt c ⋯ T.b_len (A8 (A9 c 2 ⋯) B8)) B9))))
theorem cZ (T:Txt mg) (A:AlbC K C) (M_counts:MethR P w K mg base C "counts" 1 0 C7) (F__law_goes:FnA P w K mg base C "_law_goes" 3 0 1 V6) (c:Cxt P w K mg base X O9 (A0 (top 29)) 9 true):QS X C [1,8,9] (stq 29 4) La :=
 (Di (Oo (Dh c (M5 c 0 ⋯ rfl A.cl M_counts.a (by decide) (by decide +kernel)) (E4 (K8 (A8 (A9 c 4 ⋯) (A8 B9 B8))))) (oH (oG (K4 c F__law_goes (by decide) ⋯ (K9 c 0 ⋯ rfl (A8 (A9 c 2 ⋯) B8)) rfl)))) (F9 (Q5 (E4 Bl))) Bf)
theorem cY (T:Txt mg) (A:AlbC K C) (F__law_drawn:Fn P w K mg base "_law_drawn" 2 3 B0) (c:Cxt P w K mg base X O9 (A0 (top 29)) 9 true):QS X C [1,8,9] (stq 29 5) Kz :=
 (Be c 5 ⋯ (by decide) (E4 (D4 B9 (F4 c F__law_drawn (by decide) ⋯ (A8 (A9 c 0 ⋯) (A8 B9 (A8 (A9 c 4 ⋯) B8)))))))
theorem cX (T:Txt mg) (A:AlbC K C) (M_back:MethA P w K mg base C "back" 2 0 m_back) (c:Cxt P w K mg base X O9 (A0 (top 29)) 9 true):QS X C [1,8,9] (stq 29 6) Ky :=
 (Ex c 6 ⋯ (by decide) (V9 c ⋯ T.b_range (A8 (A9 c 5 ⋯) B8)) (F9 (T6 (M5 c 0 ⋯ rfl A.cl M_back (by decide) (by decide +kernel)))))
theorem cW (T:Txt mg) (A:AlbC K C) (M_counts:MethR P w K mg base C "counts" 1 0 C7) (F__law_now:FnA P w K mg base C "_law_now" 2 0 0 (rdM I8)) (c:Cxt P w K mg base X O9 (A0 (top 29)) 9 true):QS X C [1,8,9] (stq 29 7) Kx :=
 (Be c 7 ⋯ (by decide) (Qj (K4 c F__law_now (by decide) ⋯ (K9 c 0 ⋯ rfl B8) rfl) (M5 c 0 ⋯ rfl A.cl M_counts.a (by decide) (by decide +kernel))))
theorem cV (T:Txt mg) (A:AlbC K C) (MT:MethT P w K mg base C 3) (c:Cxt P w K mg base X O9 (A0 (top 29)) 9 true):QS X C [1,8,9] (stq 29 8) Kw :=
 (Xv c 0 1 ⋯ rfl ⋯ rfl (by decide) A.cl MT (by decide))
theorem cU (T:Txt mg) (A:AlbC K C) (MT:MethT P w K mg base C 3) (c:Cxt P w K mg base X O9 (A0 (top 29)) 9 true):QS X C [1,8,9] (stq 29 9) Kv :=
 (Xv c 1 2 ⋯ rfl ⋯ rfl (by decide) A.cl MT (by decide))
theorem Zt (T:Txt mg) (A:AlbC K C) (c:Cxt P w K mg base X O9 (A0 (top 29)) 9 true):QS X C [1,8,9] (stq 29 10) Hd :=
 (Di (Qi (cI c (A9 c 7 ⋯) (K8 (A8 (I0 (A9 c 2 ⋯) (Er (A9 c 4 ⋯) (A9 c 5 ⋯))) (A8 (K8 (A8 (Er (A9 c 4 ⋯) (A9 c 5 ⋯)) (A8 (A9 c 5 ⋯) B8))) B8))))) (F9 (Q5 (E4 Bl))) Bf)
theorem Zs (T:Txt mg) (A:AlbC K C) (F__law_go_on:FnA P w K mg base C "_law_go_on" 9 1 1 M6) (c:Cxt P w K mg base X O9 (A0 (top 29)) 9 true):QS X C [1,8,9] (stq 29 11) Hb :=
 (Be c 10 ⋯ (by decide) (K4 c F__law_go_on (by decide) ⋯ (Eb (A9 c 0 ⋯) (K9 c 0 ⋯ rfl B8)) rfl))
theorem Zr (T:Txt mg) (A:AlbC K C) (M_counts:MethR P w K mg base C "counts" 1 0 C7) (F__law_now:FnA P w K mg base C "_law_now" 2 0 0 (rdM I8)) (c:Cxt P w K mg base X O9 (A0 (top 29)) 9 true):QS X C [1,8,9] (stq 29 12) Ha :=
 (Di (Oo (Qi (cI c (I0 (A9 c 10 ⋯) B9) (K8 (A8 (D4 (Er (A9 c 4 ⋯) (A9 c 5 ⋯)) B9) (A8 B9 B8))))) (Dh c (Qj (K4 c F__law_now (by decide) ⋯ (K9 c 1 ⋯ rfl B8) rfl) (M5 c 1 ⋯ rfl A.cl M_counts.a (by decide) (by decide +kernel))) (E4 (A9 c 7 ⋯)))) (F9 (Q5 (E4 Bl))) Bf)
theorem Zq (T:Txt mg) (A:AlbC K C) (M_counts:MethR P w K mg base C "counts" 1 0 C7) (F__law_go_on:FnA P w K mg base C "_law_go_on" 9 1 1 M6) (F__law_now:FnA P w K mg base C "_law_now" 2 0 0 (rdM I8)) (c:Cxt P w K mg base X O9 (A0 (top 29)) 9 true):QS X C [1,8,9] (stq 29 13) Gy :=
 (Di (Oo (Dh c (K4 c F__law_go_on (by decide) ⋯ (Eb (A9 c 0 ⋯) (K9 c 1 ⋯ rfl B8)) rfl) (E4 (A9 c 10 ⋯))) (Dh c (Qj (K4 c F__law_now (by decide) ⋯ (K9 c 2 ⋯ rfl B8) rfl) (M5 c 2 ⋯ rfl A.cl M_counts.a (by decide) (by decide +kernel))) (E4 (A9 c 7 ⋯)))) (F9 (Q5 (E4 Bl))) Bf)
theorem Zp (T:Txt mg) (A:AlbC K C) (M_forth:MethA P w K mg base C "forth" 2 0 m_forth) (c:Cxt P w K mg base X O9 (A0 (top 29)) 9 true):QS X C [1,8,9] (stq 29 14) Gx :=
 (Ex c 6 ⋯ (by decide) (V9 c ⋯ T.b_range (A8 (A9 c 5 ⋯) B8)) (F9 (T6 (M5 c 2 ⋯ rfl A.cl M_forth (by decide) (by decide +kernel)))))
theorem Zo (T:Txt mg) (A:AlbC K C) (M_back:MethA P w K mg base C "back" 2 0 m_back) (F__law_now:FnA P w K mg base C "_law_now" 2 0 0 (rdM I8)) (c:Cxt P w K mg base X O9 (A0 (top 29)) 9 true):QS X C [1,8,9] (stq 29 15) Gw :=
 (Ex c 6 ⋯ (by decide) (V9 c ⋯ T.b_range (A8 (D4 (Er (A9 c 4 ⋯) (A9 c 5 ⋯)) B9) B8)) (F9 (Di (Oo (Dh c (M5 c 1 ⋯ rfl A.cl M_back (by decide) (by decide +kernel)) (M5 c 0 ⋯ rfl A.cl M_back (by decide) (by decide +kernel))) (Dh c (K4 c F__law_now (by decide) ⋯ (K9 c 1 ⋯ rfl B8) rfl) (K4 c F__law_now (by decide) ⋯ (K9 c 0 ⋯ rfl B8) rfl))) (F9 (Q5 (E4 Bl))) Bf)))
theorem Zn (T:Txt mg) (A:AlbC K C) (M_counts:MethR P w K mg base C "counts" 1 0 C7) (F__law_now:FnA P w K mg base C "_law_now" 2 0 0 (rdM I8)) (c:Cxt P w K mg base X O9 (A0 (top 29)) 9 true):QS X C [1,8,9] (stq 29 16) Gv :=
 (Q5 (mS (oM c (K4 c F__law_now (by decide) ⋯ (K9 c 2 ⋯ rfl B8) rfl) (E4 (I0 (A9 c 2 ⋯) (Uj B9)))) (mS (oM c (K4 c F__law_now (by decide) ⋯ (K9 c 1 ⋯ rfl B8) rfl) (E4 (U3 (Ao B8)))) (q_one (oM c (M5 c 2 ⋯ rfl A.cl M_counts.a (by decide) (by decide +kernel)) (E4 (K8 (A8 (A9 c 4 ⋯) (A8 B9 B8)))))))))
theorem hJ (T:Txt mg) (A:AlbC K C) (M_back:MethA P w K mg base C "back" 2 0 m_back) (M_counts:MethR P w K mg base C "counts" 1 0 C7) (M_forth:MethA P w K mg base C "forth" 2 0 m_forth) (F__law_drawn:Fn P w K mg base "_law_drawn" 2 3 B0) (F__law_go_on:FnA P w K mg base C "_law_go_on" 9 1 1 M6) (F__law_goes:FnA P w K mg base C "_law_goes" 3 0 1 V6) (F__law_now:FnA P w K mg base C "_law_now" 2 0 0 (rdM I8)) (F__law_step:FnA P w K mg base C "_law_step" 8 2 2 G6) (MK:MkA P w K mg base C "Album" 1) (MT:MethT P w K mg base C 3) (c:Cxt P w K mg base X O9 (A0 (top 29)) 9 true):QSs X C [1,8,9] (B6 (top 29)) Jc:=by
 have h:B6 (top 29)=[stq 29 0,stq 29 1,stq 29 2,stq 29 3,stq 29 4,stq 29 5,stq 29 6,stq 29 7,stq 29 8,stq 29 9,stq 29 10,stq 29 11,stq 29 12,stq 29 13,stq 29 14,stq 29 15,stq 29 16]:=by kernel_rfl
 rw [h];exact (C4 (dD T A MK c) (C4 (dC T A F__law_now c) (C4 (dB T A F__law_drawn F__law_now F__law_step c) (C4 (dA T A c) (C4 (cZ T A M_counts F__law_goes c) (C4 (cY T A F__law_drawn c) (C4 (cX T A M_back c) (C4 (cW T A M_counts F__law_now c) (C4 (cV T A MT c) (C4 (cU T A MT c) (C4 (Zt T A c) (C4 (Zs T A F__law_go_on c) (C4 (Zr T A M_counts F__law_now c) (C4 (Zq T A M_counts F__law_go_on F__law_now c) (C4 (Zp T A M_forth c) (C4 (Zo T A M_back F__law_now c) (F9 (Zn T A M_counts F__law_now c))))))))))))))))))
end
end Sm
end
noncomputable section
namespace Sm
open PySem PySem.Spec PyProof.Rows L2
theorem Mm {K:rK} {mg:Str->Option rJ} {h:tL} {x:Str} {st:vN} {ps:List Str} {f:rN} {oc:rJ} {od an:Option rN} {osl:Array (Option rJ)} {kV doc pm cdv ct:rJ} (X:K.In h) (G:h.Ns uI mg) (a:zP K uI x=some (some (.ref f)))
   (l:K.lookup f=some ⟨oc,od,.func (sY x x (D8 st) (B6 st) (A0 st) .none kV doc pm an cdv ct),osl⟩) (c:vA K cdv x=true) (k:tJ K (.ref f)=true)
   (hb:∀ (kV doc pm:rJ) (an:Option rN) (cdv ct:rJ) (us:List rJ),us.length=ps.length->zA (sY x x (D8 st) (B6 st) (A0 st) .none kV doc pm an cdv ct) ⟨us,[]⟩=pure (ps.zip us)):Def K mg x st ps :=
 ⟨f,_,Bj l c k,PySem.W.mg_of X G a,(Bj l c k).binds hb⟩
theorem Tn:∀ {l:List (rN×Obj)} {a:rN} {o:Obj},l.lookup a=some o->(a,o)∈l
 | [],_,_,h=>nomatch h
 | (b,q)::r,a,o,h=>by
   rw [AL] at h;cases e:a==b with
   | true=>rw [e] at h; cases h; rw [xI e]; exact .head _
   | false=>rw [e] at h; exact .tail _ (Tn h)
noncomputable def noList (K:rK):Bool:=K.all fun p => !(match p.2.cls with | .type n=>n == "list" | _=>false)
theorem noList.out {K:rK} (h:noList K=true) {a:rN} {o:Obj} (e:K.lookup a=some o):o.cls≠.type "list" := fun z=>by
 have hm:(a,o)∈K:=Tn e;unfold noList at h;have:=wH.mp h _ hm;rw [z] at this;simp at this
theorem E2 {us:List rJ} {n:Nat} (h:us.length=n+1):∃ a t,us=a::t/\t.length=n:=by cases us with | nil=>cases h | cons a t=>exact ⟨a,t,rfl,Nat.succ.inj h⟩
theorem lQ {K:rK} {mg:Str->Option rJ} {h:tL} {x:Str} {st:vN} {ps:List Str} {f:rN} {oc:rJ} {od an:Option rN} {osl:Array (Option rJ)} {kV doc pm cdv ct:rJ} (X:K.In h) (G:h.Ns uI mg) (a:zP K uI x=some (some (.ref f)))
   (l:K.lookup f=some ⟨oc,od,.func (sY x x (D8 st) (B6 st) (A0 st) .none kV doc pm an cdv ct),osl⟩) (c:vA K cdv x=true) (k:tJ K (.ref f)=true)
   (hb:∀ (kV doc pm:rJ) (an:Option rN) (cdv ct:rJ) (u0:rJ),zA (sY x x (D8 st) (B6 st) (A0 st) .none kV doc pm an cdv ct) ⟨[u0],[]⟩=pure (ps.zip [u0])) (hp:ps.length=1):Def K mg x st ps :=
 Mm X G a l c k fun kV doc pm an cdv ct us hl=>by
   have h0:=hl.trans hp; obtain ⟨u0,t0,rfl,h1⟩:=E2 h0;cases tK.mp h1;exact hb kV doc pm an cdv ct u0
theorem Uh {K:rK} {C:rN} {x qual:Str} {st:vN} {ps:List Str} {f:rN} {oc:rJ} {od an:Option rN} {osl:Array (Option rJ)} {kV doc pm cdv ct:rJ} (a:uZ K (.ref C) x=some (some (.ref f))) (i:yX K (.ref f)=true)
   (l:K.lookup f=some ⟨oc,od,.func (sY x qual (D8 st) (B6 st) (A0 st) .none kV doc pm an cdv ct),osl⟩) (c:vA K cdv qual=true) (k:tJ K (.ref f)=true)
   (hb:∀ (kV doc pm:rJ) (an:Option rN) (cdv ct:rJ) (u0:rJ),zA (sY x qual (D8 st) (B6 st) (A0 st) .none kV doc pm an cdv ct) ⟨[u0],[]⟩=pure (ps.zip [u0])) (hp:ps.length=1):DefM K C x qual st ps :=
 ⟨f,_,Bj l c k,⟨a,i,k⟩,(Bj l c k).binds fun kV doc pm an cdv ct us hl=>by
   have h0:=hl.trans hp; obtain ⟨u0,t0,rfl,h1⟩:=E2 h0;cases tK.mp h1;exact hb kV doc pm an cdv ct u0⟩
theorem lP {K:rK} {mg:Str->Option rJ} {h:tL} {x:Str} {st:vN} {ps:List Str} {f:rN} {oc:rJ} {od an:Option rN} {osl:Array (Option rJ)} {kV doc pm cdv ct:rJ} (X:K.In h) (G:h.Ns uI mg) (a:zP K uI x=some (some (.ref f)))
   (l:K.lookup f=some ⟨oc,od,.func (sY x x (D8 st) (B6 st) (A0 st) .none kV doc pm an cdv ct),osl⟩) (c:vA K cdv x=true) (k:tJ K (.ref f)=true)
   (hb:∀ (kV doc pm:rJ) (an:Option rN) (cdv ct:rJ) (u0 u1:rJ),zA (sY x x (D8 st) (B6 st) (A0 st) .none kV doc pm an cdv ct) ⟨[u0,u1],[]⟩=pure (ps.zip [u0,u1])) (hp:ps.length=2):Def K mg x st ps :=
 Mm X G a l c k fun kV doc pm an cdv ct us hl=>by
   have h0:=hl.trans hp; obtain ⟨u0,t0,rfl,h1⟩:=E2 h0; obtain ⟨u1,t1,rfl,h2⟩:=E2 h1;cases tK.mp h2;exact hb kV doc pm an cdv ct u0 u1
theorem gV {K:rK} {C:rN} {x qual:Str} {st:vN} {ps:List Str} {f:rN} {oc:rJ} {od an:Option rN} {osl:Array (Option rJ)} {kV doc pm cdv ct:rJ} (a:uZ K (.ref C) x=some (some (.ref f))) (i:yX K (.ref f)=true)
   (l:K.lookup f=some ⟨oc,od,.func (sY x qual (D8 st) (B6 st) (A0 st) .none kV doc pm an cdv ct),osl⟩) (c:vA K cdv qual=true) (k:tJ K (.ref f)=true)
   (hb:∀ (kV doc pm:rJ) (an:Option rN) (cdv ct:rJ) (u0 u1:rJ),zA (sY x qual (D8 st) (B6 st) (A0 st) .none kV doc pm an cdv ct) ⟨[u0,u1],[]⟩=pure (ps.zip [u0,u1])) (hp:ps.length=2):DefM K C x qual st ps :=
 ⟨f,_,Bj l c k,⟨a,i,k⟩,(Bj l c k).binds fun kV doc pm an cdv ct us hl=>by
   have h0:=hl.trans hp; obtain ⟨u0,t0,rfl,h1⟩:=E2 h0; obtain ⟨u1,t1,rfl,h2⟩:=E2 h1;cases tK.mp h2;exact hb kV doc pm an cdv ct u0 u1⟩
theorem lO {K:rK} {mg:Str->Option rJ} {h:tL} {x:Str} {st:vN} {ps:List Str} {f:rN} {oc:rJ} {od an:Option rN} {osl:Array (Option rJ)} {kV doc pm cdv ct:rJ} (X:K.In h) (G:h.Ns uI mg) (a:zP K uI x=some (some (.ref f)))
   (l:K.lookup f=some ⟨oc,od,.func (sY x x (D8 st) (B6 st) (A0 st) .none kV doc pm an cdv ct),osl⟩) (c:vA K cdv x=true) (k:tJ K (.ref f)=true)
   (hb:∀ (kV doc pm:rJ) (an:Option rN) (cdv ct:rJ) (u0 u1 u2:rJ),zA (sY x x (D8 st) (B6 st) (A0 st) .none kV doc pm an cdv ct) ⟨[u0,u1,u2],[]⟩=pure (ps.zip [u0,u1,u2])) (hp:ps.length=3):Def K mg x st ps :=
 Mm X G a l c k fun kV doc pm an cdv ct us hl=>by
   have h0:=hl.trans hp; obtain ⟨u0,t0,rfl,h1⟩:=E2 h0; obtain ⟨u1,t1,rfl,h2⟩:=E2 h1; obtain ⟨u2,t2,rfl,h3⟩:=E2 h2;cases tK.mp h3;exact hb kV doc pm an cdv ct u0 u1 u2
theorem Ug {K:rK} {C:rN} {x qual:Str} {st:vN} {ps:List Str} {f:rN} {oc:rJ} {od an:Option rN} {osl:Array (Option rJ)} {kV doc pm cdv ct:rJ} (a:uZ K (.ref C) x=some (some (.ref f))) (i:yX K (.ref f)=true)
   (l:K.lookup f=some ⟨oc,od,.func (sY x qual (D8 st) (B6 st) (A0 st) .none kV doc pm an cdv ct),osl⟩) (c:vA K cdv qual=true) (k:tJ K (.ref f)=true)
   (hb:∀ (kV doc pm:rJ) (an:Option rN) (cdv ct:rJ) (u0 u1 u2:rJ),zA (sY x qual (D8 st) (B6 st) (A0 st) .none kV doc pm an cdv ct) ⟨[u0,u1,u2],[]⟩=pure (ps.zip [u0,u1,u2])) (hp:ps.length=3):DefM K C x qual st ps :=
 ⟨f,_,Bj l c k,⟨a,i,k⟩,(Bj l c k).binds fun kV doc pm an cdv ct us hl=>by
   have h0:=hl.trans hp; obtain ⟨u0,t0,rfl,h1⟩:=E2 h0; obtain ⟨u1,t1,rfl,h2⟩:=E2 h1; obtain ⟨u2,t2,rfl,h3⟩:=E2 h2;cases tK.mp h3;exact hb kV doc pm an cdv ct u0 u1 u2⟩
theorem lN {K:rK} {mg:Str->Option rJ} {h:tL} {x:Str} {st:vN} {ps:List Str} {f:rN} {oc:rJ} {od an:Option rN} {osl:Array (Option rJ)} {kV doc pm cdv ct:rJ} (X:K.In h) (G:h.Ns uI mg) (a:zP K uI x=some (some (.ref f)))
   (l:K.lookup f=some ⟨oc,od,.func (sY x x (D8 st) (B6 st) (A0 st) .none kV doc pm an cdv ct),osl⟩) (c:vA K cdv x=true) (k:tJ K (.ref f)=true)
   (hb:∀ (kV doc pm:rJ) (an:Option rN) (cdv ct:rJ) (u0 u1 u2 u3:rJ),zA (sY x x (D8 st) (B6 st) (A0 st) .none kV doc pm an cdv ct) ⟨[u0,u1,u2,u3],[]⟩=pure (ps.zip [u0,u1,u2,u3])) (hp:ps.length=4):Def K mg x st ps :=
 Mm X G a l c k fun kV doc pm an cdv ct us hl=>by
   have h0:=hl.trans hp; obtain ⟨u0,t0,rfl,h1⟩:=E2 h0; obtain ⟨u1,t1,rfl,h2⟩:=E2 h1; obtain ⟨u2,t2,rfl,h3⟩:=E2 h2; obtain ⟨u3,t3,rfl,h4⟩:=E2 h3;cases tK.mp h4;exact hb kV doc pm an cdv ct u0 u1 u2 u3
theorem gU {K:rK} {C:rN} {x qual:Str} {st:vN} {ps:List Str} {f:rN} {oc:rJ} {od an:Option rN} {osl:Array (Option rJ)} {kV doc pm cdv ct:rJ} (a:uZ K (.ref C) x=some (some (.ref f))) (i:yX K (.ref f)=true)
   (l:K.lookup f=some ⟨oc,od,.func (sY x qual (D8 st) (B6 st) (A0 st) .none kV doc pm an cdv ct),osl⟩) (c:vA K cdv qual=true) (k:tJ K (.ref f)=true)
   (hb:∀ (kV doc pm:rJ) (an:Option rN) (cdv ct:rJ) (u0 u1 u2 u3:rJ),zA (sY x qual (D8 st) (B6 st) (A0 st) .none kV doc pm an cdv ct) ⟨[u0,u1,u2,u3],[]⟩=pure (ps.zip [u0,u1,u2,u3])) (hp:ps.length=4):DefM K C x qual st ps :=
 ⟨f,_,Bj l c k,⟨a,i,k⟩,(Bj l c k).binds fun kV doc pm an cdv ct us hl=>by
   have h0:=hl.trans hp; obtain ⟨u0,t0,rfl,h1⟩:=E2 h0; obtain ⟨u1,t1,rfl,h2⟩:=E2 h1; obtain ⟨u2,t2,rfl,h3⟩:=E2 h2; obtain ⟨u3,t3,rfl,h4⟩:=E2 h3;cases tK.mp h4;exact hb kV doc pm an cdv ct u0 u1 u2 u3⟩
theorem lM {K:rK} {mg:Str->Option rJ} {h:tL} {x:Str} {st:vN} {ps:List Str} {f:rN} {oc:rJ} {od an:Option rN} {osl:Array (Option rJ)} {kV doc pm cdv ct:rJ} (X:K.In h) (G:h.Ns uI mg) (a:zP K uI x=some (some (.ref f)))
   (l:K.lookup f=some ⟨oc,od,.func (sY x x (D8 st) (B6 st) (A0 st) .none kV doc pm an cdv ct),osl⟩) (c:vA K cdv x=true) (k:tJ K (.ref f)=true)
   (hb:∀ (kV doc pm:rJ) (an:Option rN) (cdv ct:rJ) (u0 u1 u2 u3 u4:rJ),zA (sY x x (D8 st) (B6 st) (A0 st) .none kV doc pm an cdv ct) ⟨[u0,u1,u2,u3,u4],[]⟩=pure (ps.zip [u0,u1,u2,u3,u4])) (hp:ps.length=5):Def K mg x st ps :=
 Mm X G a l c k fun kV doc pm an cdv ct us hl=>by
   have h0:=hl.trans hp; obtain ⟨u0,t0,rfl,h1⟩:=E2 h0; obtain ⟨u1,t1,rfl,h2⟩:=E2 h1; obtain ⟨u2,t2,rfl,h3⟩:=E2 h2; obtain ⟨u3,t3,rfl,h4⟩:=E2 h3; obtain ⟨u4,t4,rfl,h5⟩:=E2 h4;cases tK.mp h5;exact hb kV doc pm an cdv ct u0 u1 u2 u3 u4
def Defs (K:rK) (mg:Str->Option rJ):Prop :=
 Def K mg "law" (top 29) ["_law_script"] /\
 Def K mg "signs_added" (top 6) ["deed"] /\
 Def K mg "adds_behind" (top 8) ["book"] /\
 Def K mg "signs_of" (top 9) ["book"] /\
 Def K mg "undone_in" (top 10) ["book"] /\
 Def K mg "dropped_in" (top 11) ["book", "undone"] /\
 Def K mg "presence_in" (top 12) ["book"] /\
 Def K mg "shown_in" (top 13) ["book"] /\
 Def K mg "text_of" (top 14) ["book"] /\
 Def K mg "_law_cell" (top 18) ["_law_script", "_law_k"] /\
 Def K mg "_law_drawn" (top 19) ["_law_script", "_law_k", "_law_many"] /\
 Def K mg "_law_words" (top 20) ["_law_script", "_law_at"] /\
 Def K mg "_law_signs" (top 21) ["_law_book_here"] /\
 Def K mg "_law_anchor" (top 22) ["_law_script", "_law_at", "_law_signs_here"] /\
 Def K mg "_law_deed" (top 23) ["_law_script", "_law_at", "_law_one", "_law_known", "_law_names"] /\
 Def K mg "_law_book" (top 24) ["_law_script", "_law_at", "_law_most", "_law_names"] /\
 Def K mg "_law_step" (top 25) ["_law_script", "_law_at", "_law_album"] /\
 Def K mg "_law_now" (top 26) ["_law_album"] /\
 Def K mg "_law_go_on" (top 27) ["_law_script", "_law_album"] /\
 Def K mg "_law_goes" (top 28) ["_law_album", "_law_rows"]
structure Albs (K:rK) (mg:Str->Option rJ) (C:rN):Prop where
 al:AlbC K C
 mgA:mg "Album" = some (.ref C)
 ini:DefM K C "__init__" "Album.__init__" (mt 0) ["self"]
 mks:AG K C=true
 kpC:tJ K (.ref C)=true
 m_put:DefM K C "put" "Album.put" (mt 1) ["self", "name", "book"]
 m_take_step:DefM K C "take_step" "Album.take_step" (mt 2) ["self", "word", "name", "book"]
 m_keep:DefM K C "keep" "Album.keep" (mt 3) ["self", "name", "book"]
 m_fetch:DefM K C "fetch" "Album.fetch" (mt 4) ["self", "name"]
 m_forget:DefM K C "forget" "Album.forget" (mt 5) ["self", "name"]
 m_names:DefM K C "names" "Album.names" (mt 7) ["self"]
 m_back:DefM K C "back" "Album.back" (mt 8) ["self"]
 m_forth:DefM K C "forth" "Album.forth" (mt 9) ["self"]
 m_counts:DefM K C "counts" "Album.counts" (mt 10) ["self"]
 m_twin:DefM K C "twin" "Album.twin" (mt 11) ["self"]
theorem lE {P:sE} {w:sT} {K:rK} {mg:Str->Option rJ} {base:tL} {N:List Str} {k:Nat} {C:rN} {ρ:List Nat} {x:Str} {st:vN} {ps:List Str} {n:Nat} {go:FS} {f:rN} {fd:vZ} (F:L2.Fun K x x st f fd) (S:FnScope N ps (A0 st)) (hn:ps.length=n)
   (body:∀ X,Cxt P w K mg base X N (A0 st) k true->QSs X C ρ (B6 st) go):FnOk P w K mg base CX0 (k+1) f fd ps (spD n (mL N go)):=by
 refine F.ok S (fun vs H Q E h=>?_) (fun cdv A outer s H vs Q E hr h=>?_)
 . obtain ⟨G,ds,d,_,r,hl,_⟩:=h
   rw [<- r.length,hl,hn]
 . obtain ⟨G,ds,d,hG,r,hl,em,q⟩:=h
   have S0:=Jz hG r N; have nil:∀ (j:Nat) (l:AlbL),([]:List AlbL)[j]? = some l->False:=fun j l h=>by cases j <;> cases h
   refine ⟨_,body _ ⟨rfl,rfl,rfl,rfl,rfl,rfl,rfl,rfl,hr,fun _ _=>rfl,uN⟩,⟨fun _=>False,[],G,H⟩,G,K3 N ds,[],[],
     ⟨⟨Same.refl _,fun _ _ e _=>e,hG,fun _ _ e=>.inl e,fun _ e=>e⟩,S0.sr,S0.fr,fun j a h=>(by cases j <;> cases h),fun j l h=>(nil j l h).elim,rfl,fun j l h=>(nil j l h).elim,fun j k l l' h=>(nil j l h).elim,fun i d a _ _ j l h=>(nil j l h).elim⟩,?_⟩
   unfold mL at em;split at em
   . rename_i d1 als1 eg
     cases em; rw [eg]; exact fun v G' H' σ δ ls S' r'=>q v G' H' ⟨S'.gr.g,fun b o e=>S'.gr.h b o e (fun z=>z),S'.gr.gh,S'.gr.fr⟩ r'
   . cases em
noncomputable section
variable {P:sE} {w:sT} {K:rK} {mg:Str->Option rJ} {base:tL} {C:rN}
theorem fT {f0:rN} {fd0:vZ} (F0:L2.Fun K "law" "law" (top 29) f0 fd0) (hm0:mg "law" = some (.ref f0)) (hb0:Binds K fd0 ["_law_script"] []) (T:Txt mg) (D:Defs K mg) (Z:Albs K mg C):FnOk P w K mg base CX0 10 f0 fd0 ["_law_script"] (spD 1 Yl):=by
 have D_law:=D.1;have R1:=D.2;have D_signs_added:=R1.1;have R2:=R1.2;have D_adds_behind:=R2.1;have R3:=R2.2;have D_signs_of:=R3.1;have R4:=R3.2;have D_undone_in:=R4.1;have R5:=R4.2;have D_dropped_in:=R5.1;have R6:=R5.2;have D_presence_in:=R6.1;have R7:=R6.2;have D_shown_in:=R7.1;have R8:=R7.2;have D_text_of:=R8.1;have R9:=R8.2;have D__law_cell:=R9.1;have R10:=R9.2;have D__law_drawn:=R10.1;have R11:=R10.2;have D__law_words:=R11.1;have R12:=R11.2;have D__law_signs:=R12.1;have R13:=R12.2;have D__law_anchor:=R13.1;have R14:=R13.2;have D__law_deed:=R14.1;have R15:=R14.2;have D__law_book:=R15.1;have R16:=R15.2
 have D__law_step:=R16.1;have R17:=R16.2;have D__law_now:=R17.1;have R18:=R17.2;have D__law_go_on:=R18.1;have R19:=R18.2;have D__law_goes:=R19;have F_signs_added:Fn P w K mg base "signs_added" 1 1 E5:=Iq (k:=0) D_signs_added Lg rfl (fun X C=>Hr T  C) rfl;have F_adds_behind:FnN P w K mg base "adds_behind" 2 1 N2:=fn_N (k:=1) D_adds_behind Li rfl (fun X C=>Ht T F_signs_added C) rfl;have F_signs_of:Fn P w K mg base "signs_of" 3 1 U8:=Iq (k:=2) D_signs_of Sg rfl (fun X C=>Nx T F_adds_behind C) rfl;have F_undone_in:FnN P w K mg base "undone_in" 1 1 O2:=fn_N (k:=0) D_undone_in Px rfl (fun X C=>Mp T  C) rfl
 have F_dropped_in:FnSN P w K mg base "dropped_in" 1 2 K5:=fn_SN (k:=0) D_dropped_in Nh rfl (fun X C=>Iu T  C) rfl;have F_presence_in:Fn P w K mg base "presence_in" 4 1 P7:=Iq (k:=3) D_presence_in Lh rfl (fun X C=>Hs T F_dropped_in F_signs_of F_undone_in C) rfl;have F_shown_in:Fn P w K mg base "shown_in" 5 1 U9:=Iq (k:=4) D_shown_in Sh rfl (fun X C=>Ny T F_presence_in C) rfl;have F_text_of:Fn P w K mg base "text_of" 6 1 U7:=Iq (k:=5) D_text_of Vo rfl (fun X C=>Ri T F_shown_in C) rfl;have F__law_cell:Fn P w K mg base "_law_cell" 1 2 V7:=Iq (k:=0) D__law_cell Qb rfl (fun X C=>Mt T  C) rfl;have F__law_drawn:Fn P w K mg base "_law_drawn" 2 3 B0:=Iq (k:=1) D__law_drawn Nl rfl (fun X C=>Iy T F__law_cell C) rfl
 have F__law_words:Fn P w K mg base "_law_words" 3 2 O7:=Iq (k:=2) D__law_words Ni rfl (fun X C=>Iv T F__law_drawn C) rfl;have F__law_signs:Fn P w K mg base "_law_signs" 1 1 O8:=Iq (k:=0) D__law_signs Nj rfl (fun X C=>Iw T  C) rfl;have F__law_anchor:Fn P w K mg base "_law_anchor" 3 3 L0:=Iq (k:=2) D__law_anchor Lj rfl (fun X C=>Hu T F__law_drawn C) rfl;have F__law_deed:Fn P w K mg base "_law_deed" 4 5 L7:=Iq (k:=3) D__law_deed Qa rfl (fun X C=>Ms T F__law_anchor F__law_drawn F__law_signs F__law_words C) rfl;have F__law_book:Fn P w K mg base "_law_book" 5 4 Q9:=Iq (k:=4) D__law_book Qc rfl (fun X C=>Mu T F__law_deed F__law_drawn C) rfl
 have A:=Z.al;have MK:MkA P w K mg base C "Album" 1:=by
   obtain ⟨f,fd,F,M,B⟩:=Z.ini.ex; exact ⟨f,fd,_,⟨Z.mks,M.at_,M.fn,Z.kpC⟩,bG (k:=0) F Pw (fun X c=>mF A c),Z.mgA,B⟩
 have M_put:MethA P w K mg base C "put" 1 2 Hl:=by
   obtain ⟨f,fd,F,M,B⟩:=Z.m_put.ex; exact ⟨f,fd,_,gM (k:=0) F iW (fun X c=>qY A c),M,B⟩
 have M_fetch:MethR P w K mg base C "fetch" 1 1 W4:=by
   obtain ⟨f,fd,F,M,B⟩:=Z.m_fetch.ex; exact ⟨f,fd,_,Wv (k:=0) F Zy (fun X c=>hW A c),M,B⟩
 have M_names:MethR P w K mg base C "names" 1 0 M7:=by
   obtain ⟨f,fd,F,M,B⟩:=Z.m_names.ex; exact ⟨f,fd,_,Wu (k:=0) F Zw (fun X c=>hU T A c),M,B⟩
 have M_counts:MethR P w K mg base C "counts" 1 0 C7:=by
   obtain ⟨f,fd,F,M,B⟩:=Z.m_counts.ex; exact ⟨f,fd,_,Ub (k:=0) F Vn (fun X c=>bQ T A c),M,B⟩
 have MT:MethT P w K mg base C 3:=by
   obtain ⟨f,fd,F,M,B⟩:=Z.m_twin.ex; exact ⟨f,fd,_,bF (k:=2) F dM (fun X c=>mD T A MK c),M,B⟩
 have M_take_step:MethA P w K mg base C "take_step" 2 3 m_take_step:=Mb (k:=1) Z.m_take_step Ng rfl (fun X c=>Rj A M_put c);have M_keep:MethA P w K mg base C "keep" 7 2 m_keep:=Mb (k:=6) Z.m_keep dO rfl (fun X c=>mE A M_take_step F_text_of c);have M_forget:MethA P w K mg base C "forget" 3 1 m_forget:=Mb (k:=2) Z.m_forget Vm rfl (fun X c=>bP A M_fetch M_take_step c);have M_back:MethA P w K mg base C "back" 2 0 m_back:=Mb (k:=1) Z.m_back dP rfl (fun X c=>mG A M_put c);have M_forth:MethA P w K mg base C "forth" 2 0 m_forth:=Mb (k:=1) Z.m_forth Zx rfl (fun X c=>hV A M_put c);have F__law_now:FnA P w K mg base C "_law_now" 2 0 0 (rdM I8):=by
   obtain ⟨f,fd,F,hm,B⟩:=D__law_now.ex; exact ⟨f,fd,_,(gN (k:=1) F Si rfl (fun X c=>Nz A M_names M_fetch c)).imp spR.of,hm,F.kp,B⟩
 have F__law_step:FnA P w K mg base C "_law_step" 8 2 2 G6:=qP (k:=7) D__law_step Py rfl (by decide) (fun X c=>Mq T A M_forget M_keep M_names F__law_book F__law_drawn c);have F__law_go_on:FnA P w K mg base C "_law_go_on" 9 1 1 M6:=qP (k:=8) D__law_go_on Nk rfl (by decide) (fun X c=>Ix T A M_counts F__law_now F__law_step c);have F__law_goes:FnA P w K mg base C "_law_goes" 3 0 1 V6:=qP (k:=2) D__law_goes Pz rfl (by decide) (fun X c=>Mr T A M_back M_counts M_forth F__law_now c);exact lE (k:=9) F0 nS rfl (fun X c=>hJ T A M_back M_counts M_forth F__law_drawn F__law_go_on F__law_goes F__law_now F__law_step MK MT c)
end
end Sm
open PySem PySem.W PyProof.Rows
theorem Sm.walkD {l:PySem.W.OpenLaw} {q:sE} {loose:List Str} {XP:(Str->Option rJ)->tL->Prop} {YP:sT->tL->Prop} {d:DefRec} {K:z7->rK} (hn:l.most=some 63) (hdf:d.params.defaults=[]) (hnm:d.name = "law")
   (hY:∀ (w:sT) (h:tL),YP w h->(K w.params).In h) (hK:∀ w:sT,Sm.noList (K w.params)=true)
   (F:∀ (w:sT) (mg:Str->Option rJ) (h:tL),(K w.params).In h->h.Ns uI mg->Sm.Txt mg/\Sm.Defs (K w.params) mg/\∃ C,Sm.Albs (K w.params) mg C)
   (pure:∀ ns:List Int,ns.length<=63->Sm.Yl [.list (ns.map wA)]=.ok (.bool true)) :
   PySem.W.WalkO q loose XP YP l.row.toRowW d [] (fun f vs=>PySem.call f vs):=by
 refine L2.iI (n:=63) (k:=10) (x := "_law_script") (CX:=fun _=>L2.CX0) (sp:=fun _=>Sm.spD 1 Sm.Yl) hn (by decide) hdf ⟨rfl,by decide,by decide,rfl⟩ hY (fun w mg fa h KX G hmg=>?_) (fun w H a ns hl hO hS=>?_) fun _ _ _ _ _ z=>z
 . obtain ⟨T,D,C,Z⟩:=F w mg h KX G
   obtain ⟨f0,fd0,F0,hm0,hb0⟩:=D.1.ex; rw [hnm,hm0] at hmg; cases hmg; refine ⟨fd0,fun s u=>?_,fun base kb nb=>?_⟩
   . obtain ⟨oc,od,kV,doc,pm,an,cdv,ct,osl,rfl,lk,hcd⟩:=F0.ex
     exact .of_eq rfl
   . exact Sm.fT F0 hm0 hb0 T D Z
 . rcases hS with hS | ⟨o,its,nn,hk,hc,_⟩
   . refine ⟨H,[.list (ns.map wA)],.bool true,L2.Same.refl _,Sm.RepL.cons ⟨a,_,rfl,hS,Sm.RepL.ints ns⟩ rfl,rfl,pure ns hl,fun v G' H' g r=>r⟩
   . exact absurd hc (Sm.noList.out (hK w) hk)
end
noncomputable section
open PySem
namespace Sm
open L2
noncomputable def Out.seq (o:Out) (g:Dn->Out):Out:=match o with
 | .nx δ=>g δ
 | o=>o
noncomputable def Out.fin (o:Out):Res rG:=match o with
 | .rt d=>.ok d
 | .nx _=>.ok .none
 | .exc c=>.exc c
 | _=>.no
noncomputable def mM (s:Option Sl):Res rG:=match s with
 | some (.sh d)=>.ok d
 | _=>.no
theorem E3 {α β:Type} (a:α) (k:α->Res β):(Res.ok a).bind k=k a:=rfl
theorem fG {α:Type} (a:α):ofO (some a)=.ok a:=rfl
theorem K1 {α:Type} (a:α) (k:α->Out):N9 (.ok a) k=k a:=rfl
theorem Qe (g1 g2:Dn->Out) (δ:Dn):E8 g1 g2 δ=(g1 δ).seq g2:=by unfold E8 Out.seq; cases g1 δ <;> rfl
theorem dL (δ:Dn) (g:Dn->Out):(Out.nx δ).seq g=g δ:=rfl
theorem nR (d:rG) (g:Dn->Out):(Out.rt d).seq g=.rt d:=rfl
theorem Qv (N:List Str) (g:Dn->Out) (ds:List rG):fnD N g ds=(g (K3 N ds)).fin:=by unfold fnD Out.fin; cases g (K3 N ds) <;> rfl
theorem qQ (d:rG):(Out.rt d).fin=.ok d:=rfl
theorem Fp (i:Nat) (δ:Dn):A7 i δ=mM δ[i]? := rfl
theorem Da (d:rG):mM (some (.sh d))=.ok d:=rfl
theorem nX (c:Dn->Res Bool) (g1 g2:Dn->Out) (δ:Dn):sIf c g1 g2 δ=N9 (c δ) fun b=>if b=true then g1 δ else g2 δ:=rfl
theorem Zk (b:Bool):cF (.bool b)=some b:=rfl
local macro_rules
 | `(tactic| simp_arith) => `(tactic| simp_arith [E3])
 | `(tactic| simp_arith [$ls,*]) => `(tactic| simp only [$ls,*, Qv, K3, Qe, dL, nR, qQ, nX, D3, b2, b1, Fp, Da, N8, E6, B3, A6, vC, E3, fG, K1, Ah, M3, Q8, vFn, C9, Bw, Ly, Lz, vSl, Od, Af, Zk,
 rV,wT,sD,uS,sG,vR,tM,uG,vQ,j3,sR,sS,xG,xF,tU,reduceIte])
theorem V8 {src:Dn->Res (List rG)} {bnd:rG->Res (List Sl)} {cap:List Nat} {tt:Dn->Res Bool} {el:Dn->Res rG} {δ δc:Dn} {ds ys:List rG} (h:src δ=.ok ds) (hl:ds.length<=1000) (hc:Bv δ cap=δc) (e:D7 bnd δc tt el ds=.ok ys):N0 src bnd cap tt el δ=.ok ys:=by
 unfold N0;rw [h,E3,if_pos (sJ hl (by decide)),hc,e]
theorem D2 {f g:Dn->Res rG} {op:rG->rG->Option rG} {δ:Dn} {x y d:rG} (h1:f δ=.ok x) (h2:g δ=.ok y) (h3:op x y=some d):b2 f g op δ=.ok d:=by
 unfold b2;rw [h1,E3,h2,E3,h3]; rfl
theorem Dv {f:Dn->Res (List rG)} {δ:Dn} {ds:List rG} (h:f δ=.ok ds):N8 f δ=.ok (.list ds):=by unfold N8; rw [h]; rfl
theorem M0 {i:Nat} {f:Dn->Res rG} {δ:Dn} {d:rG} (h:f δ=.ok d):M3 i f δ=.nx (δ.set i (.sh d)):=by unfold M3; rw [h]; rfl
theorem Ft {c:Dn->Res Bool} {g1 g2:Dn->Out} {δ:Dn} (h:c δ=.ok true):sIf c g1 g2 δ=g1 δ:=by unfold sIf; rw [h]; rfl
theorem Lk {c:Dn->Res Bool} {g1 g2:Dn->Out} {δ:Dn} (h:c δ=.ok false):sIf c g1 g2 δ=g2 δ:=by unfold sIf; rw [h]; rfl
theorem D5 {g1 g2:Dn->Out} {δ δ':Dn} (h:g1 δ=.nx δ'):E8 g1 g2 δ=g2 δ':=by unfold E8; rw [h]
theorem Jd {g1 g2:Dn->Out} {δ:Dn} {d:rG} (h:g1 δ=.rt d):E8 g1 g2 δ=.rt d:=by unfold E8; rw [h]
theorem Ce {f:Dn->Res rG} {δ:Dn} {d:rG} (h:f δ=.ok d):Ah f δ=.rt d:=by unfold Ah; rw [h]; rfl
theorem Uc {N:List Str} {g:Dn->Out} {ds:List rG} {d:rG} (h:g (K3 N ds)=.rt d):fnD N g ds=.ok d:=by rw [Qv,h]; rfl
theorem B5 {f:Dn->Res rG} {fs:Dn->Res (List rG)} {δ:Dn} {d:rG} {ds:List rG} (h:f δ=.ok d) (h2:fs δ=.ok ds):A6 f fs δ=.ok (d::ds):=by unfold A6; rw [h,E3,h2]; rfl
theorem S9 {fs:Dn->Res (List rG)} {m:List rG->Res rG} {δ:Dn} {ds:List rG} {r:Res rG} (h:fs δ=.ok ds) (h2:m ds=r):C9 fs m δ=r:=by unfold C9; rw [h,E3,h2]
theorem N5 {f:Dn->Res (List rG)} {δ:Dn} {ds:List rG} (h:f δ=.ok ds):E6 f δ=.ok (.tuple ds):=by unfold E6; rw [h]; rfl
theorem Pp {f:Dn->Res (List rG)} {op:List rG->Option rG} {δ:Dn} {ds:List rG} {d:rG} (h:f δ=.ok ds) (h2:op ds=some d):vFn f op δ=.ok d:=by unfold vFn; rw [h,E3,h2]; rfl
theorem G9 {f:Dn->Res rG} {δ:Dn} {b:Bool} (h:f δ=.ok (.bool b)):D3 f δ=.ok b:=by unfold D3; rw [h]; rfl
abbrev scr (ns:List Int):rG:=.list (ns.map .int)
theorem kX {n j:Nat} (h:j < n):ixN n (j:Int)=some j:=by
 unfold ixN;rw [if_pos (by omega)];simp [h]
theorem atI_nat {α:Type} {xs:List α} {j:Nat} (h:j < xs.length):atI xs (j:Int)=some xs[j]:=by
 unfold atI;rw [kX h];simp
theorem Jj {α:Type} {xs:List α} {i:Int} (h0:0<=i) (h:i < xs.length):∃ x∈xs,atI xs i=some x:=by
 obtain ⟨j,rfl⟩:=Int.eq_ofNat_of_zero_le h0;have hj:j < xs.length:=by omega
 exact ⟨xs[j],List.getElem_mem _,atI_nat hj⟩
theorem lH (ns:List Int):rZ (scr ns) (.list [])=ns.isEmpty:=by
 cases ns with
 | nil=>rfl
 | cons n ns=>rfl
theorem Yu (ns:List Int):dEq (scr ns) (.list [])=some (.bool ns.isEmpty):=by
 unfold dEq;rw [if_pos (sJ (xO _ _) (by decide)),lH]
theorem Tk {a b:Int} (h:(-(2 ^ 64) < a/\a < 2 ^ 64)\/(-(2 ^ 64) < b/\b < 2 ^ 64)):P3 (.int a) (.int b)=some (.int (a*b)):=by
 show (if _ then _ else _)=_;rw [if_pos h]
theorem mul7 {b:Int}:P3 (.int 7) (.int b)=some (.int (7*b)):=Tk (.inl ⟨by decide,by decide⟩)
theorem kR {b:Int}:P3 (.int 6553) (.int b)=some (.int (6553*b)):=Tk (.inl ⟨by decide,by decide⟩)
theorem aQ {b:Int}:P3 (.int 104723) (.int b)=some (.int (104723*b)):=Tk (.inl ⟨by decide,by decide⟩)
theorem fL {b:Int}:P3 (.int b) (.int 69069)=some (.int (b*69069)):=Tk (.inr ⟨by decide,by decide⟩)
theorem fM {b:Int}:P3 (.int 60) (.int b)=some (.int (60*b)):=Tk (.inl ⟨by decide,by decide⟩)
theorem fP {a b:Int} (h:0 < b):Nv (.int a) (.int b)=some (.int (a % b)):=by
 show (if _ then _ else _)=_;rw [if_pos h]
theorem lK {a b:Int} (h:0 < b) (h2:b < 1073741824):Ii (.int a) (.int b)=some (.int (a / b)):=by
 show (if _ then _ else _)=_;rw [if_pos ⟨h,h2⟩]
theorem Q0 {a b:Int}:C5 (.int a) (.int b)=some (.int (a+b)):=rfl
theorem lX (ns:List Int) (hns:ns.length<=63) (k:Int):∃ c,V7 [scr ns,.int k]=.ok (.int c):=by
 unfold V7 Bc Aq;cases hn:ns with
 | nil =>
   refine ⟨7*k,?_⟩;simp_arith [Yu,List.isEmpty_nil,mul7]
 | cons n r =>
   have e1:=Yu (n::r); have hl:(0:Int) < ((n::r).length:Int):=by simp
   have hl2:((n::r).length:Int)<=63:=by rw [<- hn]; omega
   obtain ⟨x,hx,e2⟩:=Jj (xs:=(n::r).map wA) (i:=k % ((n::r).length:Int)) (n8 _ (by omega)) (by rw [rY]; exact e8 _ hl);obtain ⟨c,_,rfl⟩:=tE.mp hx; refine ⟨c+6553*(k / ((n::r).length:Int)),?_⟩; have e3:W8 [scr (n::r)]=some (.int ((n::r).length:Int)):=by simp [W8,scr]
   have e4:dIx (scr (n::r)) (.int (k % ((n::r).length:Int)))=some (.int c):=e2;generalize hS:scr (n::r)=S at *;generalize hL:((n::r).length:Int)=m at *;simp_arith [e1,List.isEmpty_cons,e3,fP hl,lK hl (show m < 1073741824 by omega),kR,e4,Q0]
theorem I9 (ns:List Int) (hns:ns.length<=63) (k m:Int) (hm:0 < m):∃ r,B0 [scr ns,.int k,.int m]=.ok (.int r)/\0<=r/\r < m:=by
 obtain ⟨c,hc⟩:=lX ns hns k;unfold B0 Z8 X3;generalize scr ns=S at *;simp_arith [hc,fP (show (0:Int) < 2147483563 by decide),Q0,fL,aQ];generalize hA:(c % 2147483563*69069+104723*(k+1)) % 2147483563=A;have a0:0<=A:=by rw [<- hA]; exact n8 _ (by decide)
 have a1:A < 2147483563:=by rw [<- hA]; exact e8 _ (by decide)
 simp_arith [Tk (a:=A) (b:=A) (.inl ⟨Int.lt_of_lt_of_le (by decide) a0,Int.lt_trans a1 (by decide)⟩),lK (show (0:Int) < 3 by decide) (by decide),Q0,fP (show (0:Int) < 2147483399 by decide)]
 generalize hB:(A*A+A / 3) % 2147483399=B;have b0:0<=B:=by rw [<- hB]; exact n8 _ (by decide)
 have b1:B < 2147483399:=by rw [<- hB]; exact e8 _ (by decide)
 simp_arith [Tk (a:=B) (b:=B) (.inl ⟨Int.lt_of_lt_of_le (by decide) b0,Int.lt_trans b1 (by decide)⟩),lK (show (0:Int) < 7 by decide) (by decide),Q0,fP (show (0:Int) < 2147483647 by decide),lK (show (0:Int) < 11 by decide) (by decide),fP hm]
 exact ⟨_,rfl,n8 _ (by omega),e8 _ hm⟩
theorem qE {x:Str} {i:Int} (h0:0<=i) (h:i < (x.cps.toList.length:Int)):∃ c∈x.cps.toList,dIx (.str x) (.int i)=some (.str ⟨#[c]⟩):=by
 obtain ⟨c,hc,e⟩:=Jj (xs:=x.cps.toList) h0 h;exact ⟨c,hc,by show (atI x.cps.toList i).map _=_; rw [e]; rfl⟩
theorem Ru:(1000:Nat)<=sizeLine:=by decide
theorem iC {x y:List rG} (h:x.length+y.length<=1000):C5 (.list x) (.list y)=some (.list (x++y)):=by
 show (if _ then _ else _)=_;rw [if_pos (sJ h Ru)]
theorem addT {x y:List rG} (h:x.length+y.length<=1000):C5 (.tuple x) (.tuple y)=some (.tuple (x++y)):=by
 show (if _ then _ else _)=_;rw [if_pos (sJ h Ru)]
theorem Ej (x y:Str):(x++y).length=x.length+y.length:=by
 show (x.cps++y.cps).size=_;rw [Array.size_append]; rfl
def chOk (lo hi:Nat) (x:Str):Prop:=∀ c∈x.cps.toList,lo<=c/\c<=hi
theorem chOk.app {lo hi:Nat} {x y:Str} (hx:chOk lo hi x) (hy:chOk lo hi y):chOk lo hi (x++y):=fun c hc=>by
 have:c∈(x.cps++y.cps).toList:=hc;rw [Array.toList_append] at this;exact (sF.mp this).elim (hx c) (hy c)
theorem chOk.one {lo hi c:Nat} (h:lo<=c/\c<=hi):chOk lo hi ⟨#[c]⟩:=fun d hd=>by
 have:d=c:=by simpa using hd
 rw [this]; exact h
theorem chOk.nil {lo hi:Nat}:chOk lo hi "" := fun c hc=>by
 rw [show ("" : Str).cps.toList=[] from rfl] at hc; exact nomatch hc
def Cu (x:Str):Prop:=1<=x.length/\x.length<=6/\chOk 97 122 x
def Uy (x:Str):Prop:=1<=x.length/\x.length<=4/\chOk 32 126 x
theorem ixL {xs:List rG} {i:Int} (h0:0<=i) (h:i < (xs.length:Int)):∃ x∈xs,dIx (.list xs) (.int i)=some x:=Jj h0 h
theorem Up {bnd:rG->Res (List Sl)} {δc:Dn} {el:Dn->Res rG} {P:rG->Prop}:∀ (ds:List rG),(∀ d∈ds,∃ sl y,bnd d=.ok sl/\el (sl++δc)=.ok y/\P y)->∃ ys:List rG,D7 bnd δc Af el ds=.ok ys/\ys.length=ds.length/\∀ y∈ys,P y
 | [],_=>⟨[],rfl,rfl,fun _ h=>nomatch h⟩
 | d::ds,h=>by
   obtain ⟨sl,y,e1,e2,p⟩:=h d (.head _); obtain ⟨ys,e3,e4,e5⟩:=Up ds fun d' h'=>h d' (.tail _ h');refine ⟨y::ys,?_,by simp [e4],fun z hz=>?_⟩
   . unfold D7
     rw [e1]; simp only [Af,e2,e3]
   . rcases rT.mp hz with rfl | hz
     . exact p
     . exact e5 z hz
theorem Xp {P:Str->Prop}:∀ (ys:List rG),(∀ y∈ys,∃ x,y=.str x/\P x)->∃ xs:List Str,Bx ys=some xs/\xs.length=ys.length/\∀ x∈xs,P x
 | [],_=>⟨[],rfl,rfl,fun _ h=>nomatch h⟩
 | y::ys,h=>by
   obtain ⟨x,rfl,p⟩:=h y (.head _); obtain ⟨xs,e1,e2,e3⟩:=Xp ys fun d' h'=>h d' (.tail _ h');exact ⟨x::xs,by show (Bx ys).map _=_; rw [e1]; rfl,by simp [e2],fun z hz=>by
     rcases rT.mp hz with rfl | hz
     . exact p
     . exact e3 z hz⟩
theorem Ho:∀ (xs:List Str),(∀ x∈xs,x.length=1/\sW x=true/\chOk 32 126 x)->(yK "" xs).length=xs.length/\sW (yK "" xs)=true/\chOk 32 126 (yK "" xs)
 | [],_=>⟨rfl,by decide +kernel,chOk.nil⟩
 | [x],h=>⟨(h x (.head _)).1,(h x (.head _)).2.1,(h x (.head _)).2.2⟩
 | x::y::r,h=>by
   obtain ⟨l,o,q⟩:=Ho (y::r) fun z hz=>h z (.tail _ hz);obtain ⟨l1,o1,q1⟩:=h x (.head _); show (x ++ "" ++ yK "" (y::r)).length=_/\sW (x ++ "" ++ yK "" (y::r))=true/\chOk 32 126 (x ++ "" ++ yK "" (y::r));refine ⟨?_,Bz (Bz o1 (by decide +kernel)) o,(q1.app chOk.nil).app q⟩;rw [Ej,Ej]; have:(("" : Str)).length=0:=rfl; simp only [sD] at l ⊢;omega
theorem Ju:∀ (xs:List Str),(∀ x∈xs,x.length=1/\sW x=true/\chOk 32 126 x)->(xs.map (·.length)).sum=xs.length
 | [],_=>rfl
 | x::r,h=>by
   simp only [rV,List.sum_cons,sD,(h x (.head _)).1,Ju r fun z hz=>h z (.tail _ hz)];omega
theorem eC {n:Int} (h0:0<=n) (h:n < 1000):Ai [.int n]=.ok (M4 0 n):=by
 show (if _ then _ else _)=_;rw [if_pos (by omega)]
theorem Cb {fs:Dn->Res (List rG)} {δ:Dn} {n:Int} (h:fs δ=.ok [.int n]) (h0:0<=n) (h1:n < 1000):(fun δ=>(fs δ).bind Ai) δ=.ok (M4 0 n):=by
 show (fs δ).bind Ai=_;rw [h,E3,eC h0 h1]
theorem Ak {f:Dn->Res rG} {δ:Dn} {d:rG} {ds:List rG} (h:f δ=.ok d) (h2:L4 d=.ok ds):(fun δ=>(f δ).bind L4) δ=.ok ds:=by
 show (f δ).bind L4=_;rw [h,E3,h2]
theorem bT (ns:List Int) (hns:ns.length<=63) (a:Int):∃ x:Str,O7 [scr ns,.int a]=.ok (.str x)/\Uy x:=by
 obtain ⟨r1,e1,a1,b1⟩:=I9 ns hns (a+4) 4 (by decide);unfold O7 Z5 X1;have hr:Ai [.int (1+r1)]=.ok (M4 0 (1+r1)):=eC (by omega) (by omega);have hlen:(M4 0 (1+r1)).length<=4/\1<=(M4 0 (1+r1)).length:=by unfold M4; simp; omega
 have hall:∀ d∈M4 0 (1+r1),∃ sl y,L3 d=.ok sl/\(b2 (vC (.str "ab cd~ <")) (C9 (A6 (A7 1) (A6 (b2 (A7 2) (A7 0) C5) (A6 (vC (.int 8)) B3))) B0) dIx) (sl++[.sh (scr ns),.sh (.int a)])=.ok y/\∃ x:Str,y=.str x/\x.length=1/\sW x=true/\chOk 32 126 x:=fun d hd=>by
   unfold M4 at hd; obtain ⟨i,hi,rfl⟩:=tE.mp hd; have hi':i < 4:=by have:=xN.mp hi; omega
   obtain ⟨r2,e2,a2,b2'⟩:=I9 ns hns (a+(0+(i:Int))) 8 (by decide);obtain ⟨c,hc,f⟩:=qE (x := "ab cd~ <") a2 (by have:("ab cd~ <" : Str).cps.toList.length=8:=(by decide); rw [this]; exact b2');refine ⟨[.sh (.int (0+(i:Int)))],.str ⟨#[c]⟩,rfl,?_,⟨#[c]⟩,rfl,rfl,?_,.one ((by decide:∀ c∈("ab cd~ <" : Str).cps.toList,32<=c/\c<=126) c hc)⟩
   . simp_arith [Q0,e2,f]
   . have:∀ c∈("ab cd~ <" : Str).cps.toList,c < 0x110000:=by decide
     unfold sW; simp [this c hc]
 obtain ⟨ys,g1,g2,g3⟩:=Up (M4 0 (1+r1)) hall;obtain ⟨xs,g4,g5,g6⟩:=Xp ys g3;obtain ⟨l1,o1,q1⟩:=Ho xs g6;have s1:=Ju xs g6;refine ⟨yK "" xs,?_,by omega,by omega,q1⟩;have hj:Pb "" (.list ys)=some (.str (yK "" xs)):=by
   show (Bx ys).bind _=_;rw [g4]; show (if _ then _ else _)=_;have:(("" : Str)).length=0:=rfl; rw [if_pos ⟨by rw [s1,this]; omega,o1,sJ (show _<=1000 by omega) Ru⟩]
 have hz:(M4 0 (1+r1)).length<=sizeLine:=sJ (show _<=1000 by omega) Ru;simp_arith [Q0,e1,hr,N0,hz,Bv,Option.getD_some,g1,hj]
abbrev idD (t:Int) (h:Str):rG:=.tuple [.int t,.str h]
abbrev IdP:=Int×Str
abbrev idP (p:IdP):rG:=idD p.1 p.2
abbrev sgD (p:IdP) (n:Int):rG:=.tuple [idP p,.int n]
noncomputable def hj (h:Str):Nat:=if h = "a" then 0 else if h = "b" then 1 else 2
noncomputable def key (p:IdP):Int:=3*p.1+hj p.2
def okH (h:Str):Prop:=h = "a" \/ h = "b" \/ h = "c"
def okI (p:IdP):Prop:=1<=p.1/\p.1<=10/\okH p.2
theorem Ts (h:Str):hj h<=2:=by unfold hj; split <;> (try split) <;> omega
def SgOf (T:Int) (ds:List rG) (x:rG):Prop:=∃ (p:IdP) (b:rG) (w:Str) (n:Nat),wQ [.str "add",idP p,b,.str w]∈ds/\x=sgD p n/\n < w.length/\p.1 < T/\okI p
theorem SgOf.mono {T:Int} {ds ds':List rG} {x:rG} (h:SgOf T ds x) (k:∀ d∈ds,d∈ds'):SgOf T ds' x:=by
 obtain ⟨p,b,w,n,e,r⟩:=h; exact ⟨p,b,w,n,k _ e,r⟩
def sgR (a b:rG):Prop:=∃ (p q:IdP) (n m:Int),a=sgD p n/\b=sgD q m/\okH p.2/\okH q.2/\(key p < key q\/(p=q/\n < m))
def OrN (S:rG->Prop) (d:rG):Prop:=d=.none\/S d
def pQ (x:Str):Prop:=x = "l" \/ x = "r"
def Wf (p:IdP) (S:rG->Prop) (U:IdP->Prop) (d:rG):Prop:=okI p /\
 ((∃ b w,d=.tuple [.str "add",idP p,b,.str w]/\OrN S b/\Uy w) \/
  (∃ sg,d=.tuple [.str "drop",idP p,.tuple sg]/\(∀ x∈sg,S x)/\sg.length<=40/\sg≠[]/\sg.Pairwise sgR) \/
  (∃ n s1 x1 s2 x2,d=.tuple [.str "mark",idP p,.str n,.tuple [s1,.str x1],.tuple [s2,.str x2]]/\OrN S s1/\OrN S s2/\Cu n/\pQ x1/\pQ x2) \/
  (∃ n,d=.tuple [.str "unmark",idP p,.str n]/\Cu n) \/
  (∃ q,d=.tuple [.str "undo",idP p,idP q]/\U q))
theorem OrN.mono {S S':rG->Prop} {d:rG} (h:OrN S d) (k:∀ x,S x->S' x):OrN S' d:=h.elim .inl fun z=>.inr (k _ z)
theorem Wf.mono {p:IdP} {S S':rG->Prop} {U U':IdP->Prop} {d:rG} (h:Wf p S U d) (k2:∀ x,S x->S' x) (k3:∀ q,U q->U' q):Wf p S' U' d:=by
 obtain ⟨o,r⟩:=h;refine ⟨o,?_⟩;rcases r with ⟨b,w,e,hb,hw⟩ | ⟨sg,e,hs,hl⟩ | ⟨n,s1,x1,s2,x2,e,h1,h2,h3⟩ | ⟨n,e⟩ | ⟨i,e,hi⟩
 . exact .inl ⟨b,w,e,hb.mono k2,hw⟩
 . exact .inr (.inl ⟨sg,e,fun x hx=>k2 x (hs x hx),hl⟩)
 . exact .inr (.inr (.inl ⟨n,s1,x1,s2,x2,e,h1.mono k2,h2.mono k2,h3⟩))
 . exact .inr (.inr (.inr (.inl ⟨n,e⟩)))
 . exact .inr (.inr (.inr (.inr ⟨i,e,k3 _ hi⟩)))
theorem Mn (x y:Str):dEq (.str x) (.str y)=some (.bool (x==y)):=by
 unfold dEq;rw [if_pos (sJ (zX _ _) (by simp [uF]))];rfl
theorem nB:(("add" : Str)==("add" : Str))=true:=by decide +kernel
noncomputable def Pi:Dn->Out:=(sIf (D3 (b2 (b2 (A7 2) (vC (.int 0)) dIx) (vC (.str "add")) dEq)) (M3 1 (b2 (A7 1) (N8 (N0 (fun δ=>((A6 (vFn (A6 (b2 (A7 2) (vC (.int 3)) dIx) B3) W8) B3) δ).bind Ai) L3 [2] Af (E6 (A6 (b2 (A7 1) (vC (.int 1)) dIx) (A6 (A7 0) B3))))) C5)) Q8)
theorem Gk {α:Type} {δc:Dn} {el:Dn->Res rG} (g f:α->rG) (h:∀ y:α,el ([.sh (g y)]++δc)=.ok (f y)):∀ ys:List α,D7 L3 δc Af el (ys.map g)=.ok (ys.map f)
 | []=>rfl
 | y::ys=>by
   rw [rV,rV]; unfold D7; simp only [L3,Af,h y,Gk g f h ys]
theorem Vk {p:IdP} {S:rG->Prop} {U:IdP->Prop} {T:Int} {d:rG} (hd:Wf p S U d) (hT:p.1 < T) (B:rG) (fd:List rG) (hf:fd.length<=100):∃ more:List rG,more.length<=4/\(∀ x∈more,SgOf T [d] x)/\(∀ x∈more,∃ n,x=sgD p n)/\more.Pairwise sgR /\
   Pi [.sh B,.sh (.list fd),.sh d]=.nx [.sh B,.sh (.list (fd++more)),.sh d]:=by
 obtain ⟨o,r⟩:=hd;have ix0:∀ (x:rG) (xs:List rG),dIx (.tuple (x::xs)) (.int 0)=some x:=fun x xs=>atI_nat (xs:=x::xs) (j:=0) (by simp);have ix1:∀ (x y:rG) (xs:List rG),dIx (.tuple (x::y::xs)) (.int 1)=some y:=fun x y xs=>atI_nat (xs:=x::y::xs) (j:=1) (by simp);have ix3:∀ (x y z u:rG),dIx (.tuple [x,y,z,u]) (.int 3)=some u:=fun x y z u=>atI_nat (xs:=[x,y,z,u]) (j:=3) (by simp);have no:∀ d,(D3 (b2 (b2 (A7 2) (vC (.int 0)) dIx) (vC (.str "add")) dEq)) [.sh B,.sh (.list fd),.sh d]=.ok false->∃ more:List rG,more.length<=4/\(∀ x∈more,SgOf T [d] x)/\(∀ x∈more,∃ n,x=sgD p n)/\more.Pairwise sgR/\Pi [.sh B,.sh (.list fd),.sh d]=.nx [.sh B,.sh (.list (fd++more)),.sh d]:=fun d e=>by
   refine ⟨[],by simp,(fun _ h=>nomatch h),(fun _ h=>nomatch h),.nil,?_⟩;unfold Pi; rw [Lk e,uG]; rfl
 rcases r with ⟨b,w,rfl,hb,hw⟩ | ⟨sg,rfl,_⟩ | ⟨n,s1,x1,s2,x2,rfl,_⟩ | ⟨n,rfl,_⟩ | ⟨i,rfl,_⟩
 . have er:M4 0 (w.length:Int)=(vV w.length).map fun i:Nat=>wA (0+(i:Int)):=by unfold M4; simp
   have g1:=Gk (δc:=[.sh (.tuple [.str "add",idP p,b,.str w])]) (el:=E6 (A6 (b2 (A7 1) (vC (.int 1)) dIx) (A6 (A7 0) B3))) (fun i:Nat=>wA (0+(i:Int))) (fun i=>sgD p (0+(i:Int))) (fun i=>by simp_arith [ix1]) (vV w.length);have hl:=hw.2.1; refine ⟨(vV w.length).map fun i:Nat=>sgD p (0+(i:Int)),by simp; exact hl,fun x hx=>?_,fun x hx=>?_,?_,?_⟩
   . obtain ⟨i,hi,rfl⟩:=tE.mp hx
     exact ⟨p,b,w,i,.head _,by rw [Int.zero_add],xN.mp hi,hT,o⟩
   . obtain ⟨i,hi,rfl⟩:=tE.mp hx
     exact ⟨_,rfl⟩
   . rw [List.pairwise_map]
     exact (List.pairwise_lt_range).imp fun {a b} h=>⟨p,p,_,_,rfl,rfl,o.2.2,o.2.2,.inr ⟨rfl,by omega⟩⟩
   . have ha:C5 (.list fd) (.list ((vV w.length).map fun i:Nat=>sgD p (0+(i:Int))))=_:=iC (by simp; omega)
     have e1:W8 [.str w]=some (.int (w.length:Int)):=rfl; unfold Pi; rw [Ft (by simp_arith [ix0,Mn,nB])];refine M0 (D2 rfl (Dv (V8 (ds:=M4 0 (w.length:Int)) (Cb (by simp_arith [ix3,e1]) (by omega) (by omega)) (by rw [er]; simp; omega) rfl (by rw [er]; exact g1))) ha)
 . exact no _ (by simp_arith [ix0,Mn,show (("drop" : Str)==("add" : Str))=false from by decide +kernel])
 . exact no _ (by simp_arith [ix0,Mn,show (("mark" : Str)==("add" : Str))=false from by decide +kernel])
 . exact no _ (by simp_arith [ix0,Mn,show (("unmark" : Str)==("add" : Str))=false from by decide +kernel])
 . exact no _ (by simp_arith [ix0,Mn,show (("undo" : Str)==("add" : Str))=false from by decide +kernel])
abbrev Dp:=rG×IdP
theorem Lf {S:IdP->rG->Prop} {U:IdP->IdP->Prop} {T:Int} (D:List rG) (B:rG):∀ (ds:List Dp),(∀ e∈ds,Wf e.2 (S e.2) (U e.2) e.1/\e.1∈D/\e.2.1 < T)->ds.Pairwise (fun a b=>key a.2 < key b.2)->∀ (fd:List rG) (s2:Sl),fd.length+4*ds.length<=100->(∀ x∈fd,SgOf T D x) ->
   fd.Pairwise sgR->(∀ x∈fd,∃ q n,x=sgD q n/\okH q.2/\∀ e∈ds,key q < key e.2)->∃ (out:List rG) (s2':Sl),out.length<=fd.length+4*ds.length/\(∀ x∈out,SgOf T D x)/\out.Pairwise sgR /\
   L5 (st1 2) Pi (ds.map (·.1)) [.sh B,.sh (.list fd),s2]=.nx [.sh B,.sh (.list out),s2']
 | [],_,_,fd,s2,_,hs,hp,_=>⟨fd,s2,by omega,hs,hp,rfl⟩
 | e::ds,hd,up,fd,s2,hl,hs,hp,hq=>by
   obtain ⟨w,m,ht⟩:=hd e (.head _); obtain ⟨more,l1,s1,i1,p1,e1⟩:=Vk w ht B fd (by simp at hl; omega);have up':=wG.mp up; obtain ⟨out,s2',l2,s3,p3,e2⟩:=Lf D B ds (fun d' h'=>hd d' (.tail _ h')) up'.2 (fd++more) (.sh e.1) (by simp at hl ⊢; omega)
     (fun x hx=>(sF.mp hx).elim (hs x) fun z=>(s1 x z).mono fun q hq=>by rw [sO.mp hq]; exact m)
     (zN.mpr ⟨hp,p1,fun a ha b hb=>by
       obtain ⟨q,n,rfl,o,k⟩:=hq a ha; obtain ⟨n',rfl⟩:=i1 b hb; exact ⟨q,e.2,n,n',rfl,rfl,o,w.1.2.2,.inl (k e (.head _))⟩⟩)
     (fun x hx=>(sF.mp hx).elim (fun z=>by
       obtain ⟨q,n,h1,h2,h3⟩:=hq x z; exact ⟨q,n,h1,h2,fun e' he'=>h3 e' (.tail _ he')⟩) fun z=>by
       obtain ⟨n',rfl⟩:=i1 x z; exact ⟨e.2,n',rfl,w.1.2.2,fun e' he'=>up'.1 e' he'⟩)
   refine ⟨out,s2',by simp at l2 ⊢; omega,s3,p3,?_⟩;rw [rV]; unfold L5; simp only [st1,sR,sS]; rw [e1]; exact e2
theorem dG {S:IdP->rG->Prop} {U:IdP->IdP->Prop} {T:Int} (ds:List Dp) (hd:∀ e∈ds,Wf e.2 (S e.2) (U e.2) e.1/\e.2.1 < T) (up:ds.Pairwise (fun a b=>key a.2 < key b.2)) (hl:ds.length<=9) :
   ∃ out:List rG,O8 [.tuple (ds.map (·.1))]=.ok (.list out)/\out.length<=36/\(∀ x∈out,SgOf T (ds.map (·.1)) x)/\out.Pairwise sgR:=by
 obtain ⟨out,s2',l2,s3,p3,e2⟩:=Lf (ds.map (·.1)) (.tuple (ds.map (·.1))) ds (fun e h=>⟨(hd e h).1,uU h,(hd e h).2⟩) up [] .un (by simp; omega) (fun _ h=>nomatch h) .nil (fun _ h=>nomatch h);refine ⟨out,?_,by simp at l2; omega,s3,p3⟩;unfold O8 Z6 X2;simp only [Qv,K3,Qe (M3 _ _),M3,N8,B3,K1,E3,dL,rV,wT,sD,uS,sG,vR,tM,sR,sS,Qe (Ct _ _ _),Ct,Fp,Da,L4,vQ,xG,xF];unfold Pi at e2;rw [e2];simp_arith
theorem Q7 {c:Dn->Res Bool} {g1 g2:Dn->Out} {δ:Dn} (h:c δ=.ok false):E8 (sIf c g1 Q8) g2 δ=g2 δ:=D5 (Lk h)
theorem mulL {xs:List rG} {n:Int} (h : -(2 ^ 63)<=n/\n < 2 ^ 63/\xs.length*n.toNat<=sizeLine):P3 (.list xs) (.int n)=some (.list (sG n.toNat xs).flatten):=by
 show (if _ then _ else _)=_;rw [if_pos h]
theorem dNeL (xs:List rG):dNe (.list xs) (.list [])=some (.bool (!xs.isEmpty)):=by
 unfold dNe;rw [if_pos (sJ (xO _ _) (by decide))];cases xs <;> rfl
theorem dEqL (xs:List rG):dEq (.list xs) (.list [])=some (.bool xs.isEmpty):=by
 unfold dEq;rw [if_pos (sJ (xO _ _) (by decide))];cases xs <;> rfl
theorem lT (xs:List rG):dNe (.tuple xs) (.tuple [])=some (.bool (!xs.isEmpty)):=by
 unfold dNe;rw [if_pos (sJ (xO _ _) (by decide))];cases xs <;> rfl
theorem ltI (a b:Int):U2 .Lt (.int a) (.int b)=some (.bool (decide (a < b))):=by
 unfold U2;rw [if_pos (by simp [uF])];rfl
theorem lU (a b:Int):dEq (.int a) (.int b)=some (.bool (a==b)):=by
 unfold dEq;rw [if_pos (sJ (zX _ _) (by simp [uF]))];rfl
theorem lL (t:Int) (h:Str):(idD t h).depth<=2:=by simp [idD,uF,uC]
theorem pS (xs:List rG):W8 [.list xs]=some (.int (xs.length:Int)):=rfl
theorem lenT (xs:List rG):W8 [.tuple xs]=some (.int (xs.length:Int)):=rfl
theorem Pn (ns:List Int) (hns:ns.length<=63) (a:Int) (S:rG->Prop) (sg:List rG) (hs:∀ x∈sg,S x) (hl:sg.length<=36):∃ s x,L0 [scr ns,.int a,.list sg]=.ok (.tuple [s,.str x])/\OrN S s/\pQ x:=by
 obtain ⟨r1,e1,a1,b1⟩:=I9 ns hns a ((sg.length:Int)+1) (by omega);obtain ⟨r2,e2,a2,b2'⟩:=I9 ns hns (a+1) 2 (by decide);obtain ⟨c,hc,f2⟩:=qE (x := "lr") a2 (by rw [show ("lr" : Str).cps.toList.length=2 from by decide]; exact b2');have g:=iC (x:=[.none]) (y:=sg) (by simp; omega);obtain ⟨s,hs',f1⟩:=ixL (xs:=[.none]++sg) a1 (by simp; omega);refine ⟨s,⟨#[c]⟩,?_,?_,?_⟩
 . unfold L0 W3 V4
   generalize [AH]++sg=L at *;simp_arith [g,pS,Q0,e1,f1,e2,f2]
 . rcases sF.mp hs' with h | h
   . exact .inl (sO.mp h)
   . exact .inr (hs s h)
 . have h':c∈[108,114]:=by rw [show ("lr" : Str).cps.toList=[108,114] from by decide] at hc; exact hc
   simp only [rT,uH,or_false] at h'; rcases h' with rfl | rfl
   . exact .inl (by decide)
   . exact .inr (by decide)
theorem Pe {δc:Dn} {tt:Dn->Res Bool}:∀ (zs:List (rG×rG)),(∀ z∈zs,∃ b,tt ([.sh z.1,.sh z.2]++δc)=.ok b)->∃ ys:List rG,D7 Ij δc tt (A7 1) (zs.map fun z=>.tuple [z.1,z.2])=.ok ys/\ys.Sublist (zs.map (·.2))
 | [],_=>⟨[],rfl,.slnil⟩
 | z::zs,h=>by
   obtain ⟨b,e⟩:=h z (.head _); obtain ⟨ys,e1,e2⟩:=Pe zs fun z' hz=>h z' (.tail _ hz);rw [rV,rV];cases b with
   | true =>
     refine ⟨z.2::ys,?_,e2.cons_cons _⟩; unfold D7; rw [show Ij (.tuple [z.1,z.2])=.ok [.sh z.1,.sh z.2] from rfl];simp only [e,e1]; rfl
   | false =>
     refine ⟨ys,?_,e2.cons _⟩; unfold D7; rw [show Ij (.tuple [z.1,z.2])=.ok [.sh z.1,.sh z.2] from rfl];simp only [e,e1]
theorem lI (xs:List rG):Ep xs=(xs.mapIdx fun i d=>(wA i,d)).map fun z=>wQ [z.1,z.2]:=by
 unfold Ep;apply zC;intro i;simp [Function.comp_def]
theorem gP (xs:List rG):(xs.mapIdx fun i d=>(wA i,d)).map (·.2)=xs:=by
 apply zC;intro i;simp only [sB,DD,Option.map_map];cases xs[i]? <;> rfl
theorem cH {xs:List rG} {x:rG} (h:x∈Fj xs (some (-3)) none):x∈xs:=by
 unfold Fj at h;exact List.mem_of_mem_drop (DC h)
theorem lV (xs:List rG) (lo hi:Option Int):(Fj xs lo hi).length<=xs.length:=by
 unfold Fj;rw [uD,yM]; exact sJ (xO _ _) (Nat.sub_le _ _)
theorem Qx {o:Out} {d:rG} (h:o=.rt d):o.fin=.ok d:=by rw [h]; rfl
theorem aT {a b:Int} (h:a < b):U2 .Lt (.int a) (.int b)=some (.bool true):=by rw [ltI,decide_eq_true h]
theorem aU {a b:Int} (h:¬ a < b):U2 .Lt (.int a) (.int b)=some (.bool false):=by rw [ltI,decide_eq_false h]
theorem Jh {f g:Dn->Res Bool} {δ:Dn} (h1:f δ=.ok true) (h2:g δ=.ok true):Bw f g δ=.ok true:=by unfold Bw; rw [h1,E3,if_pos rfl,h2]
theorem Rh {f g:Dn->Res Bool} {δ:Dn} (h1:f δ=.ok false):Bw f g δ=.ok false:=by unfold Bw; rw [h1,E3,if_neg (by decide)]
theorem Ji {f g:Dn->Res Bool} {δ:Dn} (h1:f δ=.ok true) (h2:g δ=.ok false):Bw f g δ=.ok false:=by unfold Bw; rw [h1,E3,if_pos rfl,h2]
theorem nC {f:Dn->Res rG} {lo hi:Dn->Res (Option Int)} {δ:Dn} {x y:rG} {l u:Option Int} (h1:f δ=.ok x) (h2:lo δ=.ok l) (h3:hi δ=.ok u) (h4:bK x l u=some y):vSl f lo hi δ=.ok y:=by unfold vSl; rw [h1,E3,h2,E3,h3,E3,h4]; rfl
theorem lR (ns:List Int) (hns:ns.length<=63) {S:IdP->rG->Prop} {U:IdP->IdP->Prop} (a:Int) (p:IdP) (ho:okI p) (kn0:List Dp) (hk:∀ e∈kn0,Wf e.2 (S e.2) (U e.2) e.1/\e.2.1 < p.1) (up:kn0.Pairwise (fun a b=>key a.2 < key b.2)) (hkl:kn0.length<=9) (x y z:Str) (hxyz:Cu x/\Cu y/\Cu z) :
   ∃ d,L7 [scr ns,.int a,idP p,.tuple (kn0.map (·.1)),.list [.str x,.str y,.str z]]=.ok d/\Wf p (SgOf p.1 (kn0.map (·.1))) (fun q=>∃ e∈kn0,e.2=q) d:=by
 have hids:∀ d∈kn0.map (·.1),∃ q:IdP,dIx d (.int 1)=some (idP q)/\∃ e∈kn0,e.2=q:=fun d hd=>by
   obtain ⟨e,he,rfl⟩:=tE.mp hd; obtain ⟨_,hf⟩:=(hk e he).1; refine ⟨e.2,?_,e,he,rfl⟩; rcases hf with ⟨_,_,q,_⟩ | ⟨_,q,_⟩ | ⟨_,_,_,_,_,q,_⟩ | ⟨_,q,_⟩ | ⟨_,q,_⟩ <;> rw [q] <;> exact atI_nat (j:=1) (by simp)
 obtain ⟨sg,es,hsl,hsg,hsr⟩:=dG (T:=p.1) kn0 hk up hkl;have hkl':(kn0.map (·.1)).length<=9:=by rw [rY]; exact hkl
 generalize kn0.map (·.1)=kn at *;obtain ⟨way,ew,w0,w1⟩:=I9 ns hns a 12 (by decide);obtain ⟨r5,e5,a5,b5⟩:=I9 ns hns (a+5) 3 (by decide);obtain ⟨nm,hnm,f5⟩:=ixL (xs:=[.str x,.str y,.str z]) a5 b5;have:∃ q,nm=.str q/\Cu q:=by
   simp only [rT,uH,or_false] at hnm; rcases hnm with rfl | rfl | rfl
   . exact ⟨_,rfl,hxyz.1⟩
   . exact ⟨_,rfl,hxyz.2.1⟩
   . exact ⟨_,rfl,hxyz.2.2⟩
 obtain ⟨q,rfl,hq⟩:=this;unfold L7 Bb Y1 Y0 X9 X8 X7 X6 X5 X4 F5;rw [Qv];simp only [K3,rV,wT,sD,uS,sG,vR,tM,xG,xF];rw [D5 (M0 (S9 (B5 rfl rfl) es)),D5 (M0 (S9 (B5 rfl (B5 rfl (B5 rfl rfl))) ew))];simp only [sR,sS];by_cases c1:way < 2/\sg≠[]
 . have t1 : (Bw (D3 (b2 (A7 6) (vC (.int 2)) (U2 .Lt))) (D3 (b2 (A7 5) (N8 B3) dNe))) [.sh (scr ns), .sh (.int a), .sh (idP p), .sh (.tuple kn), .sh (.list [.str x, .str y, .str z]), .sh (.list sg), .sh (.int way), .un, .un, .un] = .ok true := by
     have:sg.isEmpty=false:=by cases sg with | nil=>exact absurd rfl c1.2 | cons _ _=>rfl
     exact Jh (G9 (D2 rfl rfl (aT c1.1))) (G9 (D2 rfl rfl (by rw [dNeL,this]; rfl)))
   have hall:∀ z∈sg.mapIdx (fun i d=>(wA i,d)),∃ b,(D3 (b2 (C9 (A6 (A7 2) (A6 (b2 (b2 (A7 3) (vC (.int 20)) C5) (A7 0) C5) (A6 (vC (.int 4)) B3))) B0) (vC (.int 0)) dEq)) ([.sh z.1,.sh z.2]++[.sh (scr ns),.sh (.int a)])=.ok b:=fun z hz=>by
     rw [List.mem_mapIdx] at hz; obtain ⟨i,hi,rfl⟩:=hz; obtain ⟨r,er,_,_⟩:=I9 ns hns (a+20+(i:Int)) 4 (by decide);refine ⟨r==0,?_⟩;simp_arith [Q0,er,lU]
   obtain ⟨ys,g1,g2'⟩:=Pe _ hall; rw [gP] at g2'; rw [<- lI] at g1; have g2:=g2'.length_le; have hel:(Ep sg).length=sg.length:=by unfold Ep; simp
   have n1:N0 (fun δ=>((A6 (A7 5) B3) δ).bind Mi) Ij [0,1] (D3 (b2 (C9 (A6 (A7 2) (A6 (b2 (b2 (A7 3) (vC (.int 20)) C5) (A7 0) C5) (A6 (vC (.int 4)) B3))) B0) (vC (.int 0)) dEq)) (A7 1) [.sh (scr ns),.sh (.int a),.sh (idP p),.sh (.tuple kn),.sh (.list [.str x,.str y,.str z]),.sh (.list sg),.sh (.int way),.un,.un,.un]=.ok ys :=
     V8 (ds:=Ep sg) (by show ((A6 (A7 5) B3) _).bind Mi=_; rw [B5 (d:=.list sg) (ds:=[]) rfl rfl]; rfl) (by omega) rfl g1
   have hex:∃ ex:List rG,ex.length<=1/\((ys++ex).Sublist sg/\ys++ex≠[])/\P3 (.list (sg.take 1)) (.int (if ys.isEmpty=true then 1 else 0))=some (.list ex):=by
     have lt:(sg.take 1).length<=1:=by simp; omega
     cases ey:ys with
     | nil =>
       refine ⟨(sG 1 (sg.take 1)).flatten,by simpa using lt,⟨by simpa using List.take_sublist 1 sg,fun z=>c1.2 ?_⟩,?_⟩
       . cases sg with
         | nil=>rfl
         | cons _ _=>simp at z
       . rw [if_pos (show List.isEmpty []=true from rfl)]
         exact mulL ⟨by decide,by decide,sJ (show _<=1 by simpa using lt) (by decide)⟩
     | cons y0 yr =>
       refine ⟨[],by simp,⟨by rw [uG,<- ey]; exact g2',by simp⟩,?_⟩;rw [if_neg (by simp)]; exact mulL ⟨by decide,by decide,by simp⟩
   obtain ⟨ex,exl,exs,hmul⟩:=hex; have hadd:=iC (x:=ys) (y:=ex) (by omega);have cut1:bK (.list sg) none (some 1)=some (.list (sg.take 1)):=by
     show some (PyData.list (Fj sg none (some 1)))=_;congr 2;cases sg with
     | nil=>rfl
     | cons s r =>
       unfold Fj HT.sIx; simp
   have hint:Pc [.bool ys.isEmpty]=some (.int (if ys.isEmpty=true then 1 else 0)):=rfl;have htup:∀ l,Es [.list l]=some (.tuple l):=fun _=>rfl;have hnew:dZ 8 (N0 (fun δ=>((A6 (A7 5) B3) δ).bind Mi) Ij [0,1] (D3 (b2 (C9 (A6 (A7 2) (A6 (b2 (b2 (A7 3) (vC (.int 20)) C5) (A7 0) C5) (A6 (vC (.int 4)) B3))) B0) (vC (.int 0)) dEq)) (A7 1)) [.sh (scr ns),.sh (.int a),.sh (idP p),.sh (.tuple kn),.sh (.list [.str x,.str y,.str z]),.sh (.list sg),.sh (.int way),.un,.un,.un]=.nx [.sh (scr ns),.sh (.int a),.sh (idP p),.sh (.tuple kn),.sh (.list [.str x,.str y,.str z]),.sh (.list sg),.sh (.int way),.un,.sh (.list ys),.un]:=by
     unfold dZ; rw [n1]; rfl
   have t2:(Ah (E6 (A6 (vC (.str "drop")) (A6 (A7 2) (A6 (vFn (A6 (b2 (A7 8) (b2 (vSl (A7 5) Lz (Ly (vC (.int 1)))) (vFn (A6 (b2 (A7 8) (N8 B3) dEq) B3) Pc) P3) C5) B3) Es) B3))))) [.sh (scr ns),.sh (.int a),.sh (idP p),.sh (.tuple kn),.sh (.list [.str x,.str y,.str z]),.sh (.list sg),.sh (.int way),.un,.sh (.list ys),.un]=.rt (.tuple [.str "drop",idP p,.tuple (ys++ex)]):=by
     simp_arith [dEqL,hint,cut1,hmul,hadd,htup]
   rw [Jd ((Ft t1).trans ((D5 hnew).trans t2))]; refine ⟨_,rfl,ho,.inr (.inl ⟨_,rfl,fun s hs=>hsg s (exs.1.subset hs),?_,exs.2,hsr.sublist exs.1⟩)⟩;rw [sA]; omega
 . have t1 : (Bw (D3 (b2 (A7 6) (vC (.int 2)) (U2 .Lt))) (D3 (b2 (A7 5) (N8 B3) dNe))) [.sh (scr ns), .sh (.int a), .sh (idP p), .sh (.tuple kn), .sh (.list [.str x, .str y, .str z]), .sh (.list sg), .sh (.int way), .un, .un, .un] = .ok false := by
     by_cases h2:way < 2
     . have:sg=[]:=yB fun z=>c1 ⟨h2,z⟩
       subst this; exact Ji (G9 (D2 rfl rfl (aT h2))) (G9 (D2 rfl rfl (dNeL [])))
     . exact Rh (G9 (D2 rfl rfl (aU h2)))
   rw [Q7 t1];by_cases c2:way < 5
   . obtain ⟨s1,x1,f1,g1,l1⟩:=Pn ns hns (a+1) (SgOf p.1 kn) sg hsg hsl
     obtain ⟨s2,x2,f2,g2,l2⟩:=Pn ns hns (a+3) (SgOf p.1 kn) sg hsg hsl; have hadd:=addT (x:=[.str "mark",idP p,.str q]) (y:=[.tuple [s1,.str x1],.tuple [s2,.str x2]]) (by simp);refine ⟨.tuple [.str "mark",idP p,.str q,.tuple [s1,.str x1],.tuple [s2,.str x2]],?_,ho,.inr (.inr (.inl ⟨q,s1,x1,s2,x2,rfl,g1,g2,hq,l1,l2⟩))⟩; exact Qx (Jd ((Ft (G9 (D2 rfl rfl (aT c2)))).trans ((D5 (M0 (N5 (B5 (S9 (B5 rfl (B5 (D2 rfl rfl Q0) (B5 rfl rfl))) f1) (B5 (S9 (B5 rfl (B5 (D2 rfl rfl Q0) (B5 rfl rfl))) f2) rfl))))).trans (Ce (D2 (N5 (B5 rfl (B5 rfl (B5 (D2 rfl (S9 (B5 rfl (B5 (D2 rfl rfl Q0) (B5 rfl rfl))) e5) f5) rfl)))) rfl hadd)))))
   . by_cases c3:way=5
     . refine ⟨.tuple [.str "unmark",idP p,.str q],?_,ho,.inr (.inr (.inr (.inl ⟨q,rfl,hq⟩)))⟩
       rw [Q7 (G9 (D2 rfl rfl (aU c2)))]; exact Qx (Jd ((Ft (G9 (D2 rfl rfl (by rw [lU,c3]; rfl)))).trans (Ce (N5 (B5 rfl (B5 rfl (B5 (D2 rfl (S9 (B5 rfl (B5 (D2 rfl rfl Q0) (B5 rfl rfl))) e5) f5) rfl)))))))
     . have c3':(way==5)=false:=by simpa using c3
       by_cases c4:way < 8/\kn≠[]
       . have hne:kn.isEmpty=false:=by cases kn with | nil=>exact absurd rfl c4.2 | cons _ _=>rfl
         have hpos:(0:Int) < kn.length:=by cases kn with | nil=>exact absurd rfl c4.2 | cons _ _=>simp
         obtain ⟨r6,e6,a6,b6⟩:=I9 ns hns (a+6) (kn.length:Int) hpos; obtain ⟨d,hd,f6⟩:=Jj (xs:=kn) a6 b6; obtain ⟨qi,f7,hu⟩:=hids d hd; have f6':dIx (.tuple kn) (.int r6)=some d:=f6; refine ⟨.tuple [.str "undo",idP p,idP qi],?_,ho,.inr (.inr (.inr (.inr ⟨_,rfl,hu⟩)))⟩; rw [Q7 (G9 (D2 rfl rfl (aU c2))),Q7 (G9 (D2 rfl rfl (by rw [lU,c3'])))];exact Qx (Jd ((Ft (Jh (G9 (D2 rfl rfl (aT c4.1))) (G9 (D2 rfl rfl (by rw [lT,hne]; rfl))))).trans (Ce (N5 (B5 rfl (B5 rfl (B5 (D2 (D2 rfl (S9 (B5 rfl (B5 (D2 rfl rfl Q0) (B5 (Pp (B5 rfl rfl) (lenT _)) rfl))) e6) f6') rfl f7) rfl)))))))
       . have t4 : (Bw (D3 (b2 (A7 6) (vC (.int 8)) (U2 .Lt))) (D3 (b2 (A7 3) (E6 B3) dNe))) [.sh (scr ns), .sh (.int a), .sh (idP p), .sh (.tuple kn), .sh (.list [.str x, .str y, .str z]), .sh (.list sg), .sh (.int way), .un, .un, .un] = .ok false := by
           by_cases h2:way < 8
           . have:kn=[]:=yB fun z=>c4 ⟨h2,z⟩
             subst this; exact Ji (G9 (D2 rfl rfl (aT h2))) (G9 (D2 rfl rfl (lT [])))
           . exact Rh (G9 (D2 rfl rfl (aU h2)))
         obtain ⟨w,ew2,wl⟩:=bT ns hns (a+8); have g1:=iC (x:=[.none]) (y:=sg) (by simp; omega);have hc:bK (.list sg) (some (-3)) none=some (.list (Fj sg (some (-3)) none)):=rfl; have hcl:=lV sg (some (-3)) none; have hcm:∀ s∈Fj sg (some (-3)) none,SgOf p.1 kn s:=fun s hs=>hsg s (cH hs);generalize Fj sg (some (-3)) none=ct at *;have g2:=iC (x:=[.none]++sg) (y:=ct) (by simp; omega);obtain ⟨r7,e7,a7,b7⟩:=I9 ns hns (a+7) ((sg.length:Int)+1+(ct.length:Int)) (by omega);obtain ⟨bh,hbh,f7⟩:=ixL (xs:=[.none]++sg++ct) a7 (by simp; omega);have hneg:Ir (.int 3)=some (.int (-3)):=rfl; have hb:OrN (SgOf p.1 kn) bh:=by
           rcases sF.mp hbh with h | h
           . rcases sF.mp h with h | h
             . exact .inl (sO.mp h)
             . exact .inr (hsg bh h)
           . exact .inr (hcm bh h)
         generalize [AH]++sg=L1 at *;generalize L1++ct=L2' at *;refine ⟨.tuple [.str "add",idP p,bh,.str w],?_,ho,.inl ⟨bh,w,rfl,hb,wl⟩⟩; rw [Q7 (G9 (D2 rfl rfl (aU c2))),Q7 (G9 (D2 rfl rfl (by rw [lU,c3']))),Q7 t4];have sl:vSl (A7 5) (Ly (b1 (vC (.int 3)) Ir)) Lz [.sh (scr ns),.sh (.int a),.sh (idP p),.sh (.tuple kn),.sh (.list [.str x,.str y,.str z]),.sh (.list sg),.sh (.int way),.un,.un,.un]=.ok (.list ct):=nC rfl rfl rfl hc; exact Qx ((D5 (M0 (D2 (D2 (D2 rfl rfl g1) sl g2) (S9 (B5 rfl (B5 (D2 rfl rfl Q0) (B5 (D2 (D2 (Pp (B5 rfl rfl) (pS _)) rfl Q0) (Pp (B5 sl rfl) (pS _)) Q0) rfl))) e7) f7))).trans (Ce (N5 (B5 rfl (B5 rfl (B5 rfl (B5 (S9 (B5 rfl (B5 (D2 rfl rfl Q0) rfl)) ew2) rfl)))))))
noncomputable def Zc:Dn->Out:=(E8 (M3 7 (b2 (b2 (A7 5) (vC (.int 0)) dIx) (C9 (A6 (A7 0) (A6 (b2 (b2 (A7 1) (vC (.int 1)) C5) (b2 (vC (.int 60)) (A7 6) P3) C5) (A6 (vC (.int 2)) B3))) B0) C5)) (E8 (M3 8 (b2 (vC (.str "abc")) (C9 (A6 (A7 0) (A6 (b2 (b2 (A7 1) (vC (.int 2)) C5) (b2 (vC (.int 60)) (A7 6) P3) C5) (A6 (vC (.int 3)) B3))) B0) dIx)) (E8 (sIf (Bw (D3 (b2 (A7 4) (E6 B3) dNe)) (D3 (b2 (E6 (A6 (A7 7) (A6 (A7 8) B3))) (A7 5) (U2 .LtE)))) (M3 7 (b2 (b2 (A7 5) (vC (.int 0)) dIx) (vC (.int 1)) C5)) Q8) (E8 (M3 5 (E6 (A6 (A7 7) (A6 (A7 8) B3)))) (E8 (M3 9 (vFn (A6 (N8 (N0 (fun δ=>((A7 4) δ).bind L4) L3 [7] (D3 (b2 (b2 (b2 (A7 0) (vC (.int 1)) dIx) (vC (.int 0)) dIx) (A7 1) (U2 .Lt))) (A7 0))) B3) Es)) (M3 4 (b2 (A7 4) (E6 (A6 (C9 (A6 (A7 0) (A6 (b2 (b2 (A7 1) (vC (.int 3)) C5) (b2 (vC (.int 60)) (A7 6) P3) C5) (A6 (A7 5) (A6 (A7 9) (A6 (A7 3) B3))))) L7) B3)) C5)))))))
theorem leS (h h':Str) (k:okH h) (k':okH h'):(h==h')=decide (hj h=hj h')/\Vt .LtE h h'=decide (hj h<=hj h'):=by
 rcases k with rfl | rfl | rfl <;> rcases k' with rfl | rfl | rfl <;> exact ⟨by decide +kernel,by decide +kernel⟩
theorem leIdE {t t':Int} {h h':Str} (k:okH h) (k':okH h'):U2 .LtE (idD t h) (idD t' h')=some (.bool (decide (key (t,h)<=key (t',h')))):=by
 obtain ⟨e1,e2⟩:=leS h h' k k';have l1:=Ts h;have l2:=Ts h';unfold U2 key;rw [if_pos (sJ (lL t h) (by decide))];show (Eg .LtE [.int t,.str h] [.int t',.str h']).map l8=_;simp only [Eg];have f1:rZ (.int t) (.int t')=(t==t'):=rfl;have f2:rZ (.str h) (.str h')=(h==h'):=rfl;rw [f1,f2,e1];by_cases c1:t=t'
 . subst c1
   rw [if_pos (by simp)];by_cases c2:hj h=hj h'
   . rw [if_pos (by simp [c2])]
     simp [Ux,c2]
   . rw [if_neg (by simp [c2])]
     show (some (Vt .LtE h h')).map l8=_;rw [e2]; simp only [zL];congr 3;apply propext; omega
 . rw [if_neg (by simp [c1])]
   show (some (decide (t<=t'))).map l8=_;simp only [zL];congr 3;apply propext; omega
theorem Wf.id {p:IdP} {S:rG->Prop} {U:IdP->Prop} {d:rG} (w:Wf p S U d):dIx d (.int 1)=some (idP p):=by
 obtain ⟨_,hf⟩:=w;rcases hf with ⟨_,_,q,_⟩ | ⟨_,q,_⟩ | ⟨_,_,_,_,_,q,_⟩ | ⟨_,q,_⟩ | ⟨_,q,_⟩ <;> rw [q] <;> exact atI_nat (j:=1) (by simp)
theorem ix0 (x:rG) (xs:List rG):dIx (.tuple (x::xs)) (.int 0)=some x:=atI_nat (xs:=x::xs) (j:=0) (by simp)
theorem abc {c:Nat} (h:c∈("abc" : Str).cps.toList):(⟨#[c]⟩:Str) = "a" \/ (⟨#[c]⟩:Str) = "b" \/ (⟨#[c]⟩:Str) = "c" := by
 have h':c∈[97,98,99]:=by
   have:("abc" : Str).cps.toList=[97,98,99]:=by decide
   rw [this] at h; exact h
 simp only [rT,uH,or_false] at h';rcases h' with rfl | rfl | rfl
 . exact .inl (by decide)
 . exact .inr (.inl (by decide))
 . exact .inr (.inr (by decide))
theorem Yy {δc:Dn} {tt:Dn->Res Bool} (f:Dp->Bool):∀ L:List Dp,(∀ e∈L,tt ([.sh e.1]++δc)=.ok (f e))->D7 L3 δc tt (A7 0) (L.map (·.1))=.ok ((L.filter f).map (·.1))
 | [],_=>rfl
 | e::L,h=>by
   have h1:=h e (.head _); have ih:=Yy f L fun e' he=>h e' (.tail _ he);rw [rV]; unfold D7; rw [show L3 e.1=.ok [.sh e.1] from rfl];simp only [h1,ih];cases hf:f e with
   | true=>rw [List.filter_cons_of_pos hf]; rfl
   | false=>rw [List.filter_cons_of_neg (by rw [hf]; decide)]
def Upk (L:List Dp):Prop:=L.Pairwise fun a b=>key a.2 < key b.2
def WfIn (L:List Dp) (e:Dp):Prop:=Wf e.2 (SgOf e.2.1 (L.map (·.1))) (fun q=>(∃ e'∈L,e'.2=q)/\q.1 < e.2.1) e.1
def BkW (L:List Dp):Prop:=(∀ e∈L,WfIn L e)/\Upk L
theorem WfIn.mono {L L':List Dp} {e:Dp} (h:WfIn L e) (k:∀ x∈L,x∈L'):WfIn L' e :=
 Wf.mono h (fun x hx=>hx.mono fun d hd=>by obtain ⟨y,hy,rfl⟩:=tE.mp hd; exact uU (k y hy)) fun q ⟨⟨y,hy,e⟩,hq⟩=>⟨⟨y,k y hy,e⟩,hq⟩
theorem bO (a0:Int) (ns:List Int) (hns:ns.length<=63) (x y z:Str) (hxyz:Cu x/\Cu y/\Cu z) (k:Int) (hk:0<=k) (hk2:k < 9) (j:Nat) (hj:j < 9) (L:List Dp) (hl:L.length=j) (hd:BkW L) (t:Int) (h:Str) (ht:1<=t) (ht2:t<=j+1) (hth:okH h) (s7 s8 s9:Sl) :
   ∃ (d:rG) (t':Int) (h':Str) (s7' s8' s9':Sl),WfIn L (d,(t',h'))/\1<=t'/\t'<=((j+1:Nat):Int)+1/\okH h'/\(L=[]\/key (t,h) < key (t',h'))/\Zc [.sh (scr ns),.sh (.int a0),.sh (.int 4),.sh (.list [.str x,.str y,.str z]),.sh (.tuple (L.map (·.1))),.sh (idD t h),.sh (.int k),s7,s8,s9]
     = .nx [.sh (scr ns),.sh (.int a0),.sh (.int 4),.sh (.list [.str x,.str y,.str z]),.sh (.tuple (L.map (·.1)++[d])),.sh (idD t' h'),.sh (.int k),s7',s8',s9']:=by
 obtain ⟨r1,e1,a1,b1⟩:=I9 ns hns (a0+1+60*k) 2 (by decide);obtain ⟨r2,e2,a2,b2'⟩:=I9 ns hns (a0+2+60*k) 3 (by decide);obtain ⟨c,hc,f2⟩:=qE (x := "abc") a2 (by have:("abc" : Str).cps.toList.length=3:=(by decide); rw [this]; exact b2');have hh:=abc hc;generalize (⟨#[c]⟩:Str)=hd' at *;have eb:=leIdE (t:=t+r1) (t':=t) (show okH hd' from hh) hth;have go : ∀ tt : Int, 1 <= tt -> tt <= j + 2 -> ∃ d, WfIn L (d, (tt, hd')) /\ ∃ kn, (E8 (M3 5 (E6 (A6 (A7 7) (A6 (A7 8) B3)))) (E8 (M3 9 (vFn (A6 (N8 (N0 (fun δ => ((A7 4) δ).bind L4) L3 [7] (D3 (b2 (b2 (b2 (A7 0) (vC (.int 1)) dIx) (vC (.int 0)) dIx) (A7 1) (U2 .Lt))) (A7 0))) B3) Es)) (M3 4 (b2 (A7 4) (E6 (A6 (C9 (A6 (A7 0) (A6 (b2 (b2 (A7 1) (vC (.int 3)) C5) (b2 (vC (.int 60)) (A7 6) P3) C5) (A6 (A7 5) (A6 (A7 9) (A6 (A7 3) B3))))) L7) B3)) C5))))
     [.sh (scr ns),.sh (.int a0),.sh (.int 4),.sh (.list [.str x,.str y,.str z]),.sh (.tuple (L.map (·.1))),.sh (idD t h),.sh (.int k),.sh (.int tt),.sh (.str hd'),s9]
     = .nx [.sh (scr ns),.sh (.int a0),.sh (.int 4),.sh (.list [.str x,.str y,.str z]),.sh (.tuple (L.map (·.1)++[d])),.sh (idD tt hd'),.sh (.int k),.sh (.int tt),.sh (.str hd'),.sh (.tuple kn)]:=fun tt h1 h2=>by
   have g1:=Yy (δc:=[.sh (.int tt)]) (tt:=D3 (b2 (b2 (b2 (A7 0) (vC (.int 1)) dIx) (vC (.int 0)) dIx) (A7 1) (U2 .Lt))) (fun e=>decide (e.2.1 < tt)) L fun e he=>by
     have:=(hd.1 e he).id;simp_arith [this,ix0,ltI]
   have fm:∀ e∈L.filter fun e=>decide (e.2.1 < tt),e∈L/\e.2.1 < tt:=fun e he=>by
     obtain ⟨m,q⟩:=vX.mp he; exact ⟨m,of_decide_eq_true q⟩
   have fl:=CW (fun e:Dp=>decide (e.2.1 < tt)) L;obtain ⟨d,ed,wd'⟩:=lR ns hns (S:=fun p=>SgOf p.1 (L.map (·.1))) (U:=fun p q=>(∃ e'∈L,e'.2=q)/\q.1 < p.1) (a0+3+60*k) (tt,hd') ⟨h1,by simp only; omega,hh⟩ (L.filter fun e=>decide (e.2.1 < tt)) (fun e he=>⟨hd.1 e (fm e he).1,(fm e he).2⟩) (hd.2.filter _) (by omega) x y z hxyz;have wd:WfIn L (d,(tt,hd')):=wd'.mono (fun x hx=>hx.mono fun q hq=>by obtain ⟨e,he,rfl⟩:=tE.mp hq; exact uU (fm e he).1) fun q ⟨e,he,hq⟩=>⟨⟨e,(fm e he).1,hq⟩,hq▸(fm e he).2⟩;have ll:(L.map (·.1)).length=j:=by rw [rY]; exact hl
   generalize (L.filter fun e=>decide (e.2.1 < tt)).map (·.1)=kn at *;refine ⟨d,wd,kn,?_⟩; have hadd:=addT (x:=L.map (·.1)) (y:=[d]) (by simp; omega);have htup:Es [.list kn]=some (.tuple kn):=rfl; rw [D5 (M0 (N5 (B5 rfl (B5 rfl rfl))))]; simp only [sR,sS]; rw [D5 (M0 (Pp (B5 (Dv (V8 (Ak rfl rfl) (by omega) rfl g1)) rfl) htup))]; simp only [sR,sS];simp_arith [Q0,fM,ed,hadd]
 unfold Zc;rw [D5 (M0 (d:=.int (t+r1)) (by simp_arith [ix0,Q0,fM,e1]))];simp only [sR,sS];rw [D5 (M0 (d:=.str hd') (by simp_arith [Q0,fM,e2,f2]))];simp only [sR,sS];have hc1:∃ b,(b=false->L=[]\/key (t,h) < key (t+r1,hd'))/\(Bw (D3 (b2 (A7 4) (E6 B3) dNe)) (D3 (b2 (E6 (A6 (A7 7) (A6 (A7 8) B3))) (A7 5) (U2 .LtE)))) [.sh (scr ns),.sh (.int a0),.sh (.int 4),.sh (.list [.str x,.str y,.str z]),.sh (.tuple (L.map (·.1))),.sh (idD t h),.sh (.int k),.sh (.int (t+r1)),.sh (.str hd'),s9]=.ok b:=by
   cases he:(L.map (·.1)).isEmpty with
   | true=>exact ⟨false,fun _=>.inl (by cases L with | nil=>rfl | cons _ _=>cases he),by simp_arith [lT,he,zK]⟩
   | false=>exact ⟨decide (key (t+r1,hd')<=key (t,h)),fun z=>.inr (by have:=of_decide_eq_false z; omega),by simp_arith [lT,he,Bool.not_false,eb]⟩
 obtain ⟨b,hbk,hb⟩:=hc1;cases b with
 | true =>
   obtain ⟨d,wd,kn,ek⟩:=go (t+1) (by omega) (by omega);refine ⟨d,t+1,hd',.sh (.int (t+1)),.sh (.str hd'),.sh (.tuple kn),wd,by omega,by omega,hh,.inr (by have:=Ts h; unfold key; simp only; omega),?_⟩;rw [D5 ((Ft hb).trans (M0 (d:=.int (t+1)) (by simp_arith [ix0,Q0])))];simp only [sR,sS]; exact ek
 | false =>
   obtain ⟨d,wd,kn,ek⟩:=go (t+r1) (by omega) (by omega);refine ⟨d,t+r1,hd',.sh (.int (t+r1)),.sh (.str hd'),.sh (.tuple kn),wd,by omega,by omega,hh,hbk rfl,?_⟩;rw [Q7 hb]; exact ek
theorem BkW.snoc {L:List Dp} {d:rG} {p q:IdP} (h:BkW L) (w:WfIn L (d,q)) (hk:∀ e∈L,key e.2<=key p) (hq:L=[]\/key p < key q):BkW (L++[(d,q)])/\∀ e∈L++[(d,q)],key e.2<=key q:=by
 have lt:∀ e∈L,key e.2 < key q:=fun e he=>by
   rcases hq with z | z
   . rw [z] at he; exact nomatch he
   . have:=hk e he; omega
 have up:∀ x∈L,x∈L++[(d,q)]:=fun x hx=>t8 _ hx;refine ⟨⟨fun e he=>?_,?_⟩,fun e he=>?_⟩
 . rcases sF.mp he with z | z
   . exact (h.1 e z).mono up
   . rw [sO.mp z]; exact w.mono up
 . exact zN.mpr ⟨h.2,j0 _ _,fun a ha b hb=>by rw [sO.mp hb]; exact lt a ha⟩
 . rcases sF.mp he with z | z
   . exact Int.le_of_lt (lt e z)
   . rw [sO.mp z]; exact Int.le_refl _
theorem Pg (a0:Int) (ns:List Int) (hns:ns.length<=63) (x y z:Str) (hxyz:Cu x/\Cu y/\Cu z):∀ (l:List rG),(∀ d∈l,∃ k:Int,d=.int k/\0<=k/\k < 9)->∀ (j:Nat) (L:List Dp) (t:Int) (h:Str) (s6 s7 s8 s9:Sl),j+l.length<=9->L.length=j->BkW L->(∀ e∈L,key e.2<=key (t,h))->1<=t->t<=j+1->okH h ->
   ∃ L' s5 s6' s7' s8' s9',BkW L'/\L'.length<=9/\L5 (st1 6) Zc l [.sh (scr ns),.sh (.int a0),.sh (.int 4),.sh (.list [.str x,.str y,.str z]),.sh (.tuple (L.map (·.1))),.sh (idD t h),s6,s7,s8,s9]=.nx [.sh (scr ns),.sh (.int a0),.sh (.int 4),.sh (.list [.str x,.str y,.str z]),.sh (.tuple (L'.map (·.1))),s5,s6',s7',s8',s9']
 | [],_,j,L,t,h,s6,s7,s8,s9,hj,hl,hd,_,_,_,_=>⟨L,_,_,_,_,_,hd,by simp at hj; omega,rfl⟩
 | d0::l,hk,j,L,t,h,s6,s7,s8,s9,hj,hl,hd,hb,h1,h2,h3=>by
   obtain ⟨k,rfl,k0,k1⟩:=hk d0 (.head _); simp only [sD] at hj; obtain ⟨d,t',h',s7',s8',s9',wd,t1,t2,t3,kk,e⟩:=bO a0 ns hns x y z hxyz k k0 k1 j (by omega) L hl hd t h h1 h2 h3 s7 s8 s9;obtain ⟨hB,hB2⟩:=hd.snoc wd hb kk; obtain ⟨L',s5,s6',s7'',s8'',s9'',w',l',e'⟩:=Pg a0 ns hns x y z hxyz l (fun d hd=>hk d (.tail _ hd)) (j+1) (L++[(d,(t',h'))]) t' h' (.sh (.int k)) s7' s8' s9' (by omega) (by simp [hl]) hB hB2 t1 t2 t3;refine ⟨L',s5,s6',s7'',s8'',s9'',w',l',?_⟩; unfold L5; simp only [st1,sR,sS]; rw [e]; rw [sV] at e'; exact e'
theorem mB (a0:Int) (ns:List Int) (hns:ns.length<=63) (x y z:Str) (hxyz:Cu x/\Cu y/\Cu z):∃ L,Q9 [scr ns,.int a0,.int 4,.list [.str x,.str y,.str z]]=.ok (.tuple (L.map (·.1)))/\L.length<=9/\BkW L:=by
 obtain ⟨r,e,a,b⟩:=I9 ns hns a0 (4+1) (by decide);have hmem:∀ d∈M4 0 r,∃ k:Int,d=.int k/\0<=k/\k < 9:=fun d hd=>by
   unfold M4 at hd; obtain ⟨i,hi,rfl⟩:=tE.mp hd; have:=xN.mp hi; exact ⟨_,rfl,by omega,by omega⟩
 have hlen:(M4 0 r).length<=9:=by unfold M4; simp; omega
 obtain ⟨L,s5,s6,s7,s8,s9,w,l,e'⟩:=Pg a0 ns hns x y z hxyz (M4 0 r) hmem 0 [] 1 "a" .un .un .un .un (by omega) rfl ⟨(fun _ h=>nomatch h),.nil⟩ (fun _ h=>nomatch h) (by decide) (by decide) (.inl rfl);refine ⟨L,Uc ?_,l,w⟩;unfold Bd Y5 Y4 Y3 Y2 L9;simp only [K3,rV,wT,sD,uS,sG,vR,tM,xG,xF];rw [D5 (M0 (d:=.tuple []) rfl),D5 (M0 (d:=idD 1 "a") rfl)];simp only [sR,sS];have hfor:Ct (fun δ=>((A6 (C9 (A6 (A7 0) (A6 (A7 1) (A6 (b2 (A7 2) (vC (.int 1)) C5) B3))) B0) B3) δ).bind Ai) (st1 6) Zc [.sh (scr ns),.sh (.int a0),.sh (.int 4),.sh (.list [.str x,.str y,.str z]),.sh (.tuple []),.sh (idD 1 "a"),.un,.un,.un,.un]=.nx [.sh (scr ns),.sh (.int a0),.sh (.int 4),.sh (.list [.str x,.str y,.str z]),.sh (.tuple (L.map (·.1))),s5,s6,s7,s8,s9]:=by
   unfold Ct; have:=Cb (fs:=A6 (C9 (A6 (A7 0) (A6 (A7 1) (A6 (b2 (A7 2) (vC (.int 1)) C5) B3))) B0) B3) (δ:=[.sh (scr ns),.sh (.int a0),.sh (.int 4),.sh (.list [.str x,.str y,.str z]),.sh (.tuple []),.sh (idD 1 "a"),.un,.un,.un,.un]) (n:=r) (by simp_arith [Q0,e]) a (by omega);rw [this,K1]; exact e'
 exact (D5 hfor).trans (Ce rfl)
structure Ad where
 p:IdP
 b:Option (IdP×Nat)
 w:Str
abbrev As:=Ad×Nat
abbrev sgn (u:As):IdP×Nat:=(u.1.p,u.2)
noncomputable def blk (e:Ad):List As:=(vV e.w.length).map fun k=>(e,k)
noncomputable def Tr (s:IdP×Nat) (l:List As):List As->List As
 | []=>[]
 | u::r=>if sgn u=s then u::(l++r) else u::Tr s l r
noncomputable def lA (x:Option (IdP×Nat)) (l L:List As):List As:=match x with
 | none=>l++L
 | some s=>Tr s l L
noncomputable def ord (B:List Ad):List As:=B.foldl (fun L a=>lA a.b (blk a) L) []
theorem Gf (B:List Ad) (e:Ad):ord (B++[e])=lA e.b (blk e) (ord B):=by unfold ord; rw [List.foldl_append]; rfl
inductive Bk:List Ad->Prop where
 | nil:Bk []
 | snoc {B:List Ad} {e:Ad}:Bk B->0 < e.w.length->(∀ a∈B,key a.p < key e.p)->(e.b=none\/∃ a∈B,∃ n,n < a.w.length/\e.b=some (a.p,n))->Bk (B++[e])
theorem Yk {e:Ad} {u:As}:u∈blk e↔u.1=e/\u.2 < e.w.length:=by
 unfold blk;rw [tE];constructor
 . rintro ⟨k,hk,rfl⟩; exact ⟨rfl,xN.mp hk⟩
 . rintro ⟨h1,h2⟩; exact ⟨u.2,xN.mpr h2,by rw [<- h1]⟩
theorem Tq {s:IdP×Nat} {l:List As} {v:As}:∀ {L:List As},(∃ u∈L,sgn u=s)->(v∈Tr s l L↔v∈l\/v∈L)
 | [],h=>by obtain ⟨u,hu,_⟩:=h; cases hu
 | u::r,h=>by
   unfold Tr;split
   . rw [rT,sF,rT]
     constructor
     . rintro (h | h | h)
       . exact .inr (.inl h)
       . exact .inl h
       . exact .inr (.inr h)
     . rintro (h | h | h)
       . exact .inr (.inl h)
       . exact .inl h
       . exact .inr (.inr h)
   . rename_i hn
     have h':∃ u∈r,sgn u=s:=by
       obtain ⟨x,hx,e⟩:=h; rcases rT.mp hx with rfl | hx
       . exact absurd e hn
       . exact ⟨x,hx,e⟩
     rw [rT,Tq h',rT];constructor
     . rintro (h | h | h)
       . exact .inr (.inl h)
       . exact .inl h
       . exact .inr (.inr h)
     . rintro (h | h | h)
       . exact .inr (.inl h)
       . exact .inl h
       . exact .inr (.inr h)
theorem Bk.pos {B:List Ad} (h:Bk B):∀ a∈B,0 < a.w.length:=by
 induction h with
 | nil=>intro a h; cases h
 | snoc _ h0 _ _ ih =>
   intro a ha; rcases sF.mp ha with ha | ha
   . exact ih a ha
   . rw [sO.mp ha]; exact h0
theorem Bk.refs {B:List Ad} (h:Bk B):∀ c∈B,∀ q n,c.b=some (q,n)->∃ a∈B,a.p=q/\n < a.w.length:=by
 induction h with
 | nil=>intro a h; cases h
 | @snoc B e _ h0 _ hb ih =>
   intro c hc q n e1; rcases sF.mp hc with hc | hc
   . obtain ⟨a,ha,r⟩:=ih c hc q n e1; exact ⟨a,sF.mpr (.inl ha),r⟩
   . rw [sO.mp hc] at e1
     rcases hb with hb | ⟨a,ha,n',hn,hb⟩
     . rw [hb] at e1; cases e1
     . rw [hb] at e1; cases e1; exact ⟨a,sF.mpr (.inl ha),rfl,hn⟩
theorem Bk.nokid {B:List Ad} {e:Ad} (h:Bk B) (hk:∀ a∈B,key a.p < key e.p) (hb:e.b=none\/∃ a∈B,∃ n,n < a.w.length/\e.b=some (a.p,n)):∀ c∈B++[e],∀ n,c.b≠some (e.p,n):=by
 intro c hc n z;have:∃ a∈B,a.p=e.p:=by
   rcases sF.mp hc with hc | hc
   . obtain ⟨a,ha,r,_⟩:=h.refs c hc _ _ z; exact ⟨a,ha,r⟩
   . rw [sO.mp hc] at z
     rcases hb with hb | ⟨a,ha,n',hn,hb⟩
     . rw [hb] at z; cases z
     . rw [hb] at z; exact ⟨a,ha,congrArg Prod.fst (sZ z)⟩
 obtain ⟨a,ha,r⟩:=this;have:=hk a ha;rw [r] at this;omega
theorem Gg {B:List Ad} (h:Bk B):∀ u,u∈ord B↔u.1∈B/\u.2 < u.1.w.length:=by
 induction h with
 | nil=>intro u; constructor <;> intro h <;> simp [ord] at h
 | @snoc B e hB h0 hk hb ih =>
   intro u; have key:u∈lA e.b (blk e) (ord B)↔u∈blk e\/u∈ord B:=by
     rcases hb with hb | ⟨a,ha,n,hn,hb⟩
     . rw [hb]; exact sF
     . rw [hb]; exact Tq ⟨(a,n),(ih (a,n)).mpr ⟨ha,hn⟩,rfl⟩
   rw [Gf,key,Yk,ih,sF,sO];constructor
   . rintro (⟨h1,h2⟩ | ⟨h1,h2⟩)
     . exact ⟨.inr h1,by rw [h1]; exact h2⟩
     . exact ⟨.inl h1,h2⟩
   . rintro ⟨h1 | h1,h2⟩
     . exact .inr ⟨h1,h2⟩
     . exact .inl ⟨h1,by rw [<- h1]; exact h2⟩
theorem Ow {s:IdP×Nat} {l:List As}:∀ {L:List As},(∃ u∈L,sgn u=s)->(Tr s l L).Perm (l++L)
 | [],h=>by obtain ⟨u,hu,_⟩:=h; cases hu
 | u::r,h=>by
   unfold Tr;split
   . exact (List.perm_middle (l₁:=l) (a:=u) (l₂:=r)).symm
   . rename_i hn
     have h':∃ u∈r,sgn u=s:=by
       obtain ⟨x,hx,e⟩:=h; rcases rT.mp hx with rfl | hx
       . exact absurd e hn
       . exact ⟨x,hx,e⟩
     exact ((Ow h').cons u).trans (List.perm_middle (l₁:=l) (a:=u) (l₂:=r)).symm
theorem Ox {B:List Ad} {e:Ad} (hB:Bk B) (hb:e.b=none\/∃ a∈B,∃ n,n < a.w.length/\e.b=some (a.p,n)):(lA e.b (blk e) (ord B)).Perm (blk e++ord B):=by
 rcases hb with hb | ⟨a,ha,n,hn,hb⟩
 . rw [hb]; exact zS _
 . rw [hb]; exact Ow ⟨(a,n),(Gg hB (a,n)).mpr ⟨ha,hn⟩,rfl⟩
noncomputable def sgs (B:List Ad):List As:=B.flatMap blk
theorem fA {B:List Ad} (h:Bk B):(ord B).Perm (sgs B):=by
 induction h with
 | nil=>exact zS _
 | @snoc B e hB h0 hk hb ih =>
   rw [Gf]; unfold sgs; rw [List.flatMap_append]; refine (Ox hB hb).trans ?_; refine List.perm_append_comm.trans ?_; rw [List.flatMap_cons,List.flatMap_nil,uG]; exact List.Perm.append_right _ ih
theorem bR (e:Ad):((blk e).map sgn).Nodup:=by
 unfold blk;rw [CK,BI,List.pairwise_map];refine List.Pairwise.imp ?_ (BI.mp List.nodup_range);intro a b h z;exact h (congrArg Prod.snd z)
theorem aJ {B:List Ad} (h:Bk B):((ord B).map sgn).Nodup:=by
 induction h with
 | nil=>exact .nil
 | @snoc B e hB h0 hk hb ih =>
   rw [Gf]; refine ((Ox hB hb).map sgn).nodup_iff.mpr ?_; rw [sV,wO]; refine ⟨bR e,ih,fun x hx y hy z=>?_⟩;obtain ⟨u,hu,rfl⟩:=tE.mp hx; obtain ⟨v,hv,rfl⟩:=tE.mp hy; have h1:=(Yk.mp hu).1; have h2:=((Gg hB v).mp hv).1; have h3:=hk v.1 h2; have h4:u.1.p=v.1.p:=congrArg Prod.fst z; rw [h1] at h4; rw [<- h4] at h3; omega
noncomputable def Fd (B:List Ad) (u:As):List As:=(B.filter fun c=>c.b=some (sgn u)).map fun c=>(c,0)
noncomputable def Ia (B:List Ad):List As:=(B.filter fun c=>c.b=none).map fun c=>(c,0)
noncomputable def nxt (u:As):List As:=if u.2+1 < u.1.w.length then [(u.1,u.2+1)] else []
inductive Run (B:List Ad):List As->List As->Prop where
 | nil:Run B [] []
 | step {u:As} {st out:List As}:Run B ((Fd B u).reverse++(nxt u++st)) out->Run B (u::st) (u::out)
theorem Run.blk {B:List Ad} {e:Ad} (hn:∀ c∈B,∀ n,c.b≠some (e.p,n)) {st out:List As} (h:Run B st out):∀ (j k:Nat),k+j+1=e.w.length->Run B ((e,k)::st) (((vV e.w.length).drop k).map (fun i=>(e,i))++out):=by
 have nk:∀ k,Fd B (e,k)=[]:=fun k=>by
   unfold Fd; rw [List.filter_eq_nil_iff.mpr (fun c hc=>by simpa using hn c hc k),wT]
 intro j;induction j with
 | zero =>
   intro k hk; have hd:(vV e.w.length).drop k=[k]:=by
     rw [uO (by simp; omega),List.getElem_range,vW (by simp; omega)]
   rw [hd]; refine .step ?_; rw [nk,List.reverse_nil,tM]; unfold nxt; rw [if_neg (by show ¬ (k+1 < e.w.length); omega),tM];exact h
 | succ j ih =>
   intro k hk; have hd:(vV e.w.length).drop k=k::(vV e.w.length).drop (k+1):=by
     rw [uO (by simp; omega),List.getElem_range]
   rw [hd]; refine .step ?_; rw [nk,List.reverse_nil,tM]; unfold nxt; rw [if_pos (by show k+1 < e.w.length; omega)];exact ih (k+1) (by omega)
theorem Run.new {B:List Ad} {e:Ad} (hp:0 < e.w.length) (hn:∀ c∈B,∀ n,c.b≠some (e.p,n)) {st out:List As} (h:Run B st out):Run B ((e,0)::st) (Sm.blk e++out):=by
 have:=h.blk hn (e.w.length - 1) 0 (by omega);rw [yG] at this;exact this
theorem Hm (B:List Ad) (e:Ad) (u:As):Fd (B++[e]) u=Fd B u++if e.b=some (sgn u) then [(e,0)] else []:=by
 unfold Fd;rw [List.filter_append,sV];congr 1;by_cases c:e.b=some (sgn u)
 . rw [if_pos c,wW,if_pos (by simpa using c)]; rfl
 . rw [if_neg c,wW,if_neg (by simpa using c)]; rfl
theorem Run.old {B:List Ad} {e:Ad} {st out:List As} (h:Run B st out) (hn:∀ u∈out,e.b≠some (sgn u)):Run (B++[e]) st out:=by
 induction h with
 | nil=>exact .nil
 | @step u st out h ih =>
   refine .step ?_; rw [Hm,if_neg (hn u (.head _)),uG]; exact ih fun v hv=>hn v (.tail _ hv)
theorem Run.ins {B:List Ad} {e:Ad} {s:IdP×Nat} (he:e.b=some s) (hp:0 < e.w.length) (hk:∀ c∈B++[e],∀ n,c.b≠some (e.p,n)) {st out:List As} (h:Run B st out) (hs:∃ u∈out,sgn u=s) (nd:(out.map sgn).Nodup):Run (B++[e]) st (Tr s (Sm.blk e) out):=by
 induction h with
 | nil=>obtain ⟨u,hu,_⟩:=hs; cases hu
 | @step u st out h ih =>
   rw [rV,uR] at nd; unfold Tr;split
   . rename_i c
     refine .step ?_; rw [Hm,if_pos (by rw [he,c]),zY,xZ];refine Run.new hp hk (h.old fun v hv z=>nd.1 ?_);rw [he] at z; cases z; rw [c]; exact uU hv
   . rename_i c
     refine .step ?_; rw [Hm,if_neg (by rw [he]; intro z; cases z; exact c rfl),uG];refine ih ?_ nd.2; obtain ⟨x,hx,e1⟩:=hs; rcases rT.mp hx with rfl | hx
     . exact absurd e1 c
     . exact ⟨x,hx,e1⟩
theorem Xr {B:List Ad} (h:Bk B):Run B (Ia B).reverse (ord B):=by
 induction h with
 | nil=>exact .nil
 | @snoc B e hB h0 hk hb ih =>
   have nk:=hB.nokid hk hb; rw [Gf]; unfold Ia at ih ⊢;rw [List.filter_append,sV,zY]; rcases hb with hb | ⟨a,ha,n,hn,hb⟩
   . rw [hb,wW,if_pos (by simpa using hb)]
     exact Run.new h0 nk (ih.old fun u _ z=>by rw [hb] at z; cases z)
   . rw [hb,wW,if_neg (by rw [hb]; simp)]
     exact ih.ins hb h0 nk ⟨(a,n),(Gg hB (a,n)).mpr ⟨ha,hn⟩,rfl⟩ (aJ hB)
noncomputable def anD (x:Option (IdP×Nat)):rG:=match x with
 | none=>.none
 | some s=>sgD s.1 s.2
noncomputable def Ad.d (a:Ad):rG:=.tuple [.str "add",idP a.p,anD a.b,.str a.w]
inductive Adds:List Dp->List Ad->Prop where
 | nil:Adds [] []
 | add {L:List Dp} {B:List Ad} (a:Ad):Adds L B->Adds ((a.d,a.p)::L) (a::B)
 | oth {L:List Dp} {B:List Ad} {e:Dp} (k:Str) (x:rG) (xs:List rG):e.1=.tuple (.str k::idP e.2::x::xs)->k ≠ "add" -> Adds L B->Adds (e::L) B
theorem Adds.snoc {L:List Dp} {B:List Ad} (h:Adds L B) (a:Ad):Adds (L++[(a.d,a.p)]) (B++[a]):=by
 induction h with
 | nil=>exact .add a .nil
 | add c _ ih=>exact .add c ih
 | oth k x xs e n _ ih=>exact .oth k x xs e n ih
theorem Adds.snocO {L:List Dp} {B:List Ad} {e:Dp} (h:Adds L B) (k:Str) (x:rG) (xs:List rG) (h1:e.1=.tuple (.str k::idP e.2::x::xs)) (h2:k ≠ "add"):Adds (L++[e]) B:=by
 induction h with
 | nil=>exact .oth k x xs h1 h2 .nil
 | add c _ ih=>exact .add c ih
 | oth k' x' xs' e' n _ ih=>exact .oth k' x' xs' e' n ih
theorem Qt {p q:IdP} (h:idP p=idP q):p=q:=by
 simp only [idP,idD,BH,wJ,PyData.int.injEq,PyData.str.injEq,and_true] at h;exact Prod.ext h.1 h.2
theorem Adds.of {L:List Dp} {B:List Ad} (h:Adds L B) {p:IdP} {b:rG} {w:Str} (m:wQ [.str "add",idP p,b,.str w]∈L.map (·.1)):∃ a∈B,a.p=p/\a.w=w:=by
 induction h with
 | nil=>cases m
 | add c _ ih =>
   rcases rT.mp m with e | m
   . have e':wQ [.str "add",idP p,b,.str w]=.tuple [.str "add",idP c.p,anD c.b,.str c.w]:=e
     injection e' with e'
     injection e' with _ e'
     injection e' with e1 e'
     injection e' with _ e'
     injection e' with e2 _
     injection e2 with e2
     exact ⟨c,.head _,(Qt e1).symm,e2.symm⟩
   . obtain ⟨a,ha,r⟩:=ih m; exact ⟨a,.tail _ ha,r⟩
 | oth k x xs e n _ ih =>
   rcases rT.mp m with e1 | m
   . replace e1:=e1.trans e
     injection e1 with e1
     injection e1 with e1 _
     injection e1 with e1
     exact absurd e1.symm n
   . exact ih m
theorem Wf.shape {p:IdP} {S:rG->Prop} {U:IdP->Prop} {d:rG} (w:Wf p S U d):(∃ b w,d=.tuple [.str "add",idP p,b,.str w]/\OrN S b/\Uy w)\/∃ k x xs,d=.tuple (.str k::idP p::x::xs)/\k ≠ "add" := by
 obtain ⟨o,r⟩:=w;rcases r with h | ⟨sg,rfl,_⟩ | ⟨n,s1,x1,s2,x2,rfl,_⟩ | ⟨n,rfl,_⟩ | ⟨i,rfl,_⟩
 . exact .inl h
 . exact .inr ⟨"drop",_,_,rfl,by decide⟩
 . exact .inr ⟨"mark",_,_,rfl,by decide⟩
 . exact .inr ⟨"unmark",_,_,rfl,by decide⟩
 . exact .inr ⟨"undo",_,_,rfl,by decide⟩
theorem fV {p q:IdP} (h:key p < key q):p.1<=q.1:=by
 have h1:=Ts p.2;have h2:=Ts q.2;unfold key at h;omega
theorem BkW.init {L:List Dp} {e:Dp} (h:BkW (L++[e])):BkW L:=by
 obtain ⟨hw,hu⟩:=h;have hu':=zN.mp hu;refine ⟨fun x hx=>?_,hu'.1⟩;have hxe:key x.2 < key e.2:=hu'.2.2 x hx e (sO.mpr rfl);have ht:=fV hxe;refine Wf.mono (hw x (sF.mpr (.inl hx))) (fun y hy=>?_) fun q hq=>?_
 . obtain ⟨p,b,w,n,hm,e1,hn,hp,ho⟩:=hy
   refine ⟨p,b,w,n,?_,e1,hn,hp,ho⟩; rw [sV] at hm; rcases sF.mp hm with hm | hm
   . exact hm
   . exfalso
     have he:wQ [.str "add",idP p,b,.str w]=e.1:=by simpa using hm
     have hid:p=e.2:=by
       have w1:=(hw e (sF.mpr (.inr (.head _)))).id; rw [<- he] at w1; have w2:dIx (wQ [.str "add",idP p,b,.str w]) (.int 1)=some (idP p):=atI_nat (xs:=[.str "add",idP p,b,.str w]) (j:=1) (by simp);rw [w2] at w1; exact Qt (sZ w1)
     rw [hid] at hp; omega
 . obtain ⟨⟨e',he',rfl⟩,hq⟩:=hq
   refine ⟨?_,hq⟩; rcases sF.mp he' with he' | he'
   . exact ⟨e',he',rfl⟩
   . rw [sO.mp he'] at hq
     omega
structure BkA (L:List Dp) (B:List Ad):Prop where
 ad:Adds L B
 bk:Bk B
 wd:∀ a∈B,Uy a.w
 id:∀ a∈B,okI a.p
 inL:∀ a∈B,(a.d,a.p)∈L
 len:B.length<=L.length
theorem bka:∀ (n:Nat) (L:List Dp),L.length=n->BkW L->∃ B,BkA L B
 | 0,L,hn,_=>by
   rw [tK.mp hn]; exact ⟨[],.nil,.nil,(fun _ h=>nomatch h),(fun _ h=>nomatch h),(fun _ h=>nomatch h),sC _⟩
 | n+1,L,hn,h=>by
   have hne:L≠[]:=fun z=>by rw [z] at hn; cases hn
   obtain ⟨L',e,rfl⟩:∃ L' e,L=L'++[e]:=⟨L.dropLast,L.getLast hne,(List.dropLast_concat_getLast hne).symm⟩; have h':=h.init; obtain ⟨B,A⟩:=bka n L' (by simpa using hn) h';have hu':=zN.mp h.2; have we:=h.1 e (sF.mpr (.inr (.head _))); rcases we.shape with ⟨b,w,e1,hb,hw⟩ | ⟨k,x,xs,e1,hk⟩
   . have hx : ∃ x : Option (IdP × Nat), b = anD x /\ (x = none \/ ∃ a ∈ B, ∃ n, n < a.w.length /\ x = some (a.p, n)) := by
       rcases hb with rfl | ⟨p,b',w',n',hm,rfl,hn',hp,ho⟩
       . exact ⟨none,rfl,.inl rfl⟩
       . rw [sV] at hm
         rcases sF.mp hm with hm | hm
         . obtain ⟨a,ha,rfl,rfl⟩:=A.ad.of hm
           exact ⟨some (a.p,n'),rfl,.inr ⟨a,ha,n',hn',rfl⟩⟩
         . exfalso
           have he:wQ [.str "add",idP p,b',.str w']=e.1:=by simpa using hm
           rw [e1] at he;injection he with he
           injection he with _ he
           injection he with he _
           rw [Qt he] at hp; omega
     obtain ⟨x,rfl,hx⟩:=hx; have ee:e=((⟨e.2,x,w⟩:Ad).d,(⟨e.2,x,w⟩:Ad).p):=Prod.ext e1 rfl; refine ⟨B++[⟨e.2,x,w⟩],?_,.snoc A.bk (by have:=hw.1; show 0 < w.length; omega) (fun a ha=>hu'.2.2 _ (A.inL a ha) e (sO.mpr rfl)) hx,fun a ha=>?_,fun a ha=>?_,fun a ha=>?_,by simp; exact A.len⟩
     . rw [ee]; exact A.ad.snoc _
     . rcases sF.mp ha with ha | ha
       . exact A.wd a ha
       . rw [sO.mp ha]; exact hw
     . rcases sF.mp ha with ha | ha
       . exact A.id a ha
       . rw [sO.mp ha]; exact we.1
     . rcases sF.mp ha with ha | ha
       . exact sF.mpr (.inl (A.inL a ha))
       . rw [sO.mp ha,<- ee]; exact sF.mpr (.inr (.head _))
   . refine ⟨B,A.ad.snocO k x xs e1 hk,A.bk,A.wd,A.id,fun a ha=>sF.mpr (.inl (A.inL a ha)),by simp; have:=A.len; omega⟩
theorem bka' {L:List Dp} (h:BkW L):∃ B,BkA L B:=bka _ L rfl h
theorem Mz (x:rG) (xs:List rG):dIx (.tuple (x::xs)) (.int 0)=some x:=atI_nat (xs:=x::xs) (j:=0) (by simp)
theorem Zl (x y:rG) (xs:List rG):dIx (.tuple (x::y::xs)) (.int 1)=some y:=atI_nat (xs:=x::y::xs) (j:=1) (by simp)
theorem nI (x y z:rG) (xs:List rG):dIx (.tuple (x::y::z::xs)) (.int 2)=some z:=atI_nat (xs:=x::y::z::xs) (j:=2) (by simp)
theorem iL (x y z u:rG) (xs:List rG):dIx (.tuple (x::y::z::u::xs)) (.int 3)=some u:=atI_nat (xs:=x::y::z::u::xs) (j:=3) (by simp)
theorem pR (w:Str):W8 [.str w]=some (.int (w.length:Int)):=rfl
theorem dR (a:Ad):E5 [a.d]=.ok (.int (a.w.length:Int)):=by
 unfold E5 Q3 Q1 Ad.d;simp_arith [vIf,Mz,iL,Mn,nB,pR]
theorem dQ {k:Str} {i:rG} {xs:List rG} (h:k ≠ "add"):E5 [.tuple (.str k::i::xs)]=.ok (.int 0):=by
 unfold E5 Q3 Q1;have:(k==("add" : Str))=false:=beq_eq_false_iff_ne.mpr h;simp_arith [vIf,Mz,Mn,this]
noncomputable def Qr (kvs:Kvs) (x:rG):rG:=(F6 kvs x).getD (.list [])
theorem W9 (x y:Option (IdP×Nat)):rZ (anD x) (anD y)=decide (x=y):=by
 cases x with
 | none=>cases y with
   | none=>rfl
   | some s=>rfl
 | some s=>cases y with
   | none=>rfl
   | some t =>
     show ((rZ (idP s.1) (idP t.1))&&((rZ (.int s.2) (.int t.2))&&true))=_;show (((s.1.1==t.1.1)&&((s.1.2==t.1.2)&&true))&&(((s.2:Int)==(t.2:Int))&&true))=_;rw [Bool.eq_iff_iff]; obtain ⟨⟨a,b⟩,c⟩:=s; obtain ⟨⟨a',b'⟩,c'⟩:=t; simp;intro _ _; omega
def iE (kvs:Kvs):Prop:=∀ p∈kvs,(∃ x,p.1=anD x)/\∃ ds,p.2=.list ds
theorem Zf {kvs:Kvs} (h:iE kvs) (x:Option (IdP×Nat)) (v:rG):iE (Iz kvs (anD x) v)/\∀ y,∃ ds,Qr kvs (anD y)=.list ds/\Qr (Iz kvs (anD x) v) (anD y)=.list (if x=y then ds++[v] else ds):=by
 induction kvs with
 | nil =>
   refine ⟨fun p hp=>?_,fun y=>⟨[],rfl,?_⟩⟩
   . rw [sO.mp hp]; exact ⟨⟨x,rfl⟩,_,rfl⟩
   . show ((List.find? (fun p=>rZ p.1 (anD y)) [(anD x,PyData.list [v])]).map (·.2)).getD (.list [])=_
     rw [tP,W9];by_cases c:x=y
     . rw [decide_eq_true c,if_pos c]; rfl
     . rw [decide_eq_false c,if_neg c]; rfl
 | cons p r ih =>
   obtain ⟨⟨z,hz⟩,ds0,hd⟩:=h p (.head _); obtain ⟨i1,i2⟩:=ih fun q hq=>h q (.tail _ hq);unfold Iz; rw [hz,W9];by_cases c:z=x
   . rw [if_pos (decide_eq_true c),hd]
     refine ⟨fun q hq=>?_,fun y=>?_⟩
     . rcases rT.mp hq with rfl | hq
       . exact ⟨⟨z,rfl⟩,_,rfl⟩
       . exact h q (.tail _ hq)
     . unfold Qr F6
       rw [tP,tP,hz,W9];by_cases c2:z=y
       . rw [decide_eq_true c2]
         exact ⟨ds0,by rw [show (some p:Option (rG×rG)).map (·.2)=some p.2 from rfl,hd]; rfl,by rw [if_pos (c.symm.trans c2)]; rfl⟩
       . rw [decide_eq_false c2]
         obtain ⟨ds,e1,_⟩:=i2 y; exact ⟨ds,e1,by rw [if_neg (fun w=>c2 (c.trans w))]; exact e1⟩
   . rw [if_neg (by rw [decide_eq_false c]; decide)]
     refine ⟨fun q hq=>?_,fun y=>?_⟩
     . rcases rT.mp hq with rfl | hq
       . exact ⟨⟨z,hz⟩,_,hd⟩
       . exact i1 q hq
     . unfold Qr F6
       rw [tP,tP,hz,W9];by_cases c2:z=y
       . rw [decide_eq_true c2]
         exact ⟨ds0,by rw [show (some p:Option (rG×rG)).map (·.2)=some p.2 from rfl,hd]; rfl,by rw [if_neg (fun w=>c (c2.trans w.symm)),show (some p:Option (rG×rG)).map (·.2)=some p.2 from rfl,hd]; rfl⟩
       . rw [decide_eq_false c2]
         exact i2 y
theorem Rl (x:Option (IdP×Nat)):nkD (anD x)=true:=by
 cases x with
 | none=>rfl
 | some s=>simp [anD,nkD,Fe,isK,uF,uC]
theorem qH {L:List Dp} {B:List Ad} (h:Adds L B) (hp:∀ a∈B,0 < a.w.length) (bk:rG):∀ (kvs:Kvs),iE kvs->∃ out,Nt [.sh bk,.un,.un] 2 (D3 (b2 (C9 (A6 (A7 2) B3) E5) (vC (.int 0)) (Et .Gt))) (b2 (A7 2) (vC (.int 2)) dIx) (A7 2) (L.map (·.1)) kvs=.ok out /\
   ∀ y,∃ ds,Qr kvs (anD y)=.list ds/\Qr out (anD y)=.list (ds++(B.filter fun a=>a.b=y).map Ad.d):=by
 induction h with
 | nil =>
   intro kvs g; refine ⟨kvs,rfl,fun y=>?_⟩;obtain ⟨ds,e,_⟩:=(Zf g none .none).2 y; exact ⟨ds,e,by simpa using e⟩
 | @add L B a _ ih =>
   intro kvs g; obtain ⟨g1,g2⟩:=Zf g a.b a.d; obtain ⟨out,e,k⟩:=ih (fun c hc=>hp c (.tail _ hc)) _ g1;have ha:=hp a (.head _); have gt:Et .Gt (.int (a.w.length:Int)) (.int 0)=some (.bool true):=by
     show some (l8 (decide ((0:Int) < a.w.length)))=_;rw [decide_eq_true (by omega)]
   refine ⟨out,?_,fun y=>?_⟩
   . rw [rV]
     unfold Nt; have e1:(D3 (b2 (C9 (A6 (A7 2) B3) E5) (vC (.int 0)) (Et .Gt))) ([Sl.sh bk,.un,.un].set 2 (.sh a.d))=.ok true:=by simp_arith [dR,gt]
     have e2:(b2 (A7 2) (vC (.int 2)) dIx) ([Sl.sh bk,.un,.un].set 2 (.sh a.d))=.ok (anD a.b):=by unfold Ad.d; simp_arith [nI]
     rw [e1,e2]; show (if nkD (anD a.b)=true then _ else _)=_;rw [if_pos (Rl _)]; exact e
   . obtain ⟨ds,e3,e4⟩:=g2 y
     obtain ⟨ds',e5,e6⟩:=k y; rw [e4] at e5; cases e5; refine ⟨ds,e3,?_⟩; rw [e6];by_cases c:a.b=y
     . rw [if_pos c,wW,if_pos (by simpa using c)]; simp
     . rw [if_neg c,wW,if_neg (by simpa using c)]
 | @oth L B e k x xs he hk _ ih =>
   intro kvs g; obtain ⟨out,e2,kk⟩:=ih hp kvs g; refine ⟨out,?_,kk⟩; rw [rV]; unfold Nt; have gt:Et .Gt (.int 0) (.int 0)=some (.bool false):=rfl; have e1:(D3 (b2 (C9 (A6 (A7 2) B3) E5) (vC (.int 0)) (Et .Gt))) ([Sl.sh bk,.un,.un].set 2 (.sh e.1))=.ok false:=by rw [he]; simp_arith [dQ hk,gt]
   rw [e1]; exact e2
theorem bS {L:List Dp} {B:List Ad} (A:BkA L B) (hl:L.length<=9):∃ out,N2 [.tuple (L.map (·.1))]=.ok out/\∀ y,Qr out (anD y)=.list ((B.filter fun a=>a.b=y).map Ad.d):=by
 obtain ⟨out,e,k⟩:=qH A.ad A.bk.pos (.tuple (L.map (·.1))) [] (fun _ h=>nomatch h);refine ⟨out,?_,fun y=>?_⟩
 . unfold N2 W2 V3 fnW K3 Jo Ew jB Tj
   simp only [rV,wT,sD,uS,xG,xF,sG,vR,tM,sR,sS,vQ,j3,Fp,Da,E3,L4,K1]; rw [if_pos ⟨by rw [rY]; omega,by decide⟩,e];rfl
 . obtain ⟨ds,e1,e2⟩:=k y
   cases e1; exact e2
noncomputable def Uu:Dn->Out:=(E8 (Zz 2 4) (E8 (M3 5 (b2 (A7 4) (vC (.int 0)) dIx)) (E8 (M3 6 (b2 (A7 4) (vC (.int 1)) dIx)) (E8 (M3 7 (E6 (A6 (b2 (A7 5) (vC (.int 1)) dIx) (A6 (A7 6) B3)))) (E8 (Ll 3 (E6 (A6 (A7 7) (A6 (b2 (b2 (A7 5) (vC (.int 3)) dIx) (A7 6) dIx) B3)))) (E8 (sIf (D3 (b2 (b2 (A7 6) (vC (.int 1)) C5) (vFn (A6 (b2 (A7 5) (vC (.int 3)) dIx) B3) W8) (U2 .Lt))) (Ll 2 (E6 (A6 (A7 5) (A6 (b2 (A7 6) (vC (.int 1)) C5) B3)))) Q8) (aA 2 (N0 (fun δ=>((Jr 1 (A7 7) (N8 B3)) δ).bind L4) L3 [] Af (E6 (A6 (A7 0) (A6 (vC (.int 0)) B3)))))))))))
abbrev wt (u:As):rG:=.tuple [u.1.d,.int (u.2:Int)]
noncomputable def ltr (u:As):Str:=⟨#[u.1.w.cps.toList.getD u.2 0]⟩
abbrev sgA (u:As):rG:=sgD u.1.p (u.2:Int)
abbrev tl (u:As):rG:=.tuple [sgA u,.str (ltr u)]
theorem cR (x:Str):x.length=x.cps.toList.length:=by unfold Str.length; simp
theorem pO {u:As} (h:u.2 < u.1.w.length):dIx (.str u.1.w) (.int (u.2:Int))=some (.str (ltr u)):=by
 have h':u.2 < u.1.w.cps.toList.length:=by rw [<- cR]; exact h
 show (atI u.1.w.cps.toList (u.2:Int)).map _=_;rw [atI_nat h'];unfold ltr;rw [BJ,sH h'];rfl
theorem jA {i j:Nat} {δ:Dn} {W:List rG} {d:rG} (h:δ[i]? = some (.ow (.list (W++[d])))) (hij:i≠j):Zz i j δ=.nx ((δ.set i (.ow (.list W))).set j (.sh d)):=by
 unfold Zz;rw [h];simp [hij]
theorem Qf {i:Nat} {δ:Dn} {f:Dn->Res rG} {W:List rG} {d:rG} (h:δ[i]? = some (.ow (.list W))) (hf:f δ=.ok d) (hl:W.length<=1000):Ll i f δ=.nx (δ.set i (.ow (.list (W++[d])))):=by
 unfold Ll;rw [h];show N9 (f δ) _=_;rw [hf,K1,if_pos (c9 hl (by decide))]
theorem jC {i:Nat} {δ:Dn} {f:Dn->Res (List rG)} {W ds:List rG} (h:δ[i]? = some (.ow (.list W))) (hf:f δ=.ok ds) (hl:W.length+ds.length<=1000):aA i f δ=.nx (δ.set i (.ow (.list (W++ds)))):=by
 unfold aA;rw [h];show N9 (f δ) _=_;rw [hf,K1,if_pos (sJ hl (by decide))]
theorem Yw (δc:Dn):∀ ds:List Ad,D7 L3 δc Af (E6 (A6 (A7 0) (A6 (vC (.int 0)) B3))) (ds.map Ad.d)=.ok (ds.map fun a=>wt (a,0))
 | ds=>Gk Ad.d (fun a=>wt (a,0)) (fun a=>by simp_arith; rfl) ds
theorem Run.len {B:List Ad} {st out:List As} (h:Run B st out):st.length<=out.length:=by
 induction h with
 | nil=>exact sC _
 | step _ ih=>simp only [sA,sD] at ih ⊢; omega
theorem kT (B:List Ad) (u:As):(Fd B u).map wt=((B.filter fun a=>a.b=some (sgn u)).map fun a=>wt (a,0)):=by
 unfold Fd;rw [CK]; rfl
theorem iR {B:List Ad} {b:rG} {kvs:Kvs} (hk:∀ y,Qr kvs (anD y)=.list ((B.filter fun a=>a.b=y).map Ad.d)) {u:As} (hu:u.2 < u.1.w.length) (W T:List rG) (hl:W.length+1+(Fd B u).length<=900) (hT:T.length<=900) (s4 s5 s6 s7:Sl) :
   ∃ t4 t5 t6 t7,Uu [.sh b,.ow (.tuple [.dict kvs,.none]),.ow (.list (W++[wt u])),.ow (.list T),s4,s5,s6,s7]=.nx [.sh b,.ow (.tuple [.dict kvs,.none]),.ow (.list (W++(nxt u).map wt++(Fd B u).map wt)),.ow (.list (T++[tl u])),t4,t5,t6,t7]:=by
 refine ⟨.sh (wt u),.sh u.1.d,.sh (.int u.2),.sh (sgA u),?_⟩;unfold Uu;rw [D5 (jA (W:=W) rfl (by decide))];simp only [sR,sS];rw [D5 (M0 (d:=u.1.d) (by simp_arith [Mz]))];simp only [sR,sS];rw [D5 (M0 (d:=.int (u.2:Int)) (by simp_arith [Zl]))];simp only [sR,sS];rw [D5 (M0 (d:=sgA u) (by unfold Ad.d; simp_arith [Zl]))];simp only [sR,sS];rw [D5 (Qf (W:=T) (d:=tl u) rfl (by unfold Ad.d; simp_arith [iL,pO hu]) (by omega))];simp only [sR,sS];have hif : sIf (D3 (b2 (b2 (A7 6) (vC (.int 1)) C5) (vFn (A6 (b2 (A7 5) (vC (.int 3)) dIx) B3) W8) (U2 .Lt))) (Ll 2 (E6 (A6 (A7 5) (A6 (b2 (A7 6) (vC (.int 1)) C5) B3)))) Q8 [.sh b, .ow (.tuple [.dict kvs, .none]), .ow (.list W), .ow (.list (T ++ [tl u])), .sh (wt u), .sh u.1.d, .sh (.int u.2), .sh (sgA u)]
     = .nx [.sh b,.ow (.tuple [.dict kvs,.none]),.ow (.list (W++(nxt u).map wt)),.ow (.list (T++[tl u])),.sh (wt u),.sh u.1.d,.sh (.int u.2),.sh (sgA u)]:=by
   unfold nxt;by_cases c:u.2+1 < u.1.w.length
   . rw [if_pos c,Ft (by unfold Ad.d; simp_arith [iL,pR,Q0,aT (show (u.2:Int)+1 < (u.1.w.length:Int) by omega)])]
     rw [Qf (W:=W) (d:=wt (u.1,u.2+1)) rfl (by simp_arith [Q0]; rfl) (by omega)];rfl
   . rw [if_neg c,Lk (by unfold Ad.d; simp_arith [iL,pR,Q0,aU (show ¬ (u.2:Int)+1 < (u.1.w.length:Int) by omega)])]
     simp [Q8]
 rw [D5 hif];have hnl:(nxt u).length<=1:=by unfold nxt; split <;> simp
 have hgl:(B.filter fun a=>a.b=some (sgn u)).length=(Fd B u).length:=by unfold Fd; rw [rY]
 have hget:(fun δ=>((Jr 1 (A7 7) (N8 B3)) δ).bind L4) [.sh b,.ow (.tuple [.dict kvs,.none]),.ow (.list (W++(nxt u).map wt)),.ow (.list (T++[tl u])),.sh (wt u),.sh u.1.d,.sh (.int u.2),.sh (sgA u)]=.ok ((B.filter fun a=>a.b=some (sgn u)).map Ad.d):=by
   refine Ak (d:=.list ((B.filter fun a=>a.b=some (sgn u)).map Ad.d)) ?_ rfl;rw [<- hk (some (sgn u))]; show (if nkD (anD (some (sgn u)))=true then Res.ok ((F6 kvs (anD (some (sgn u)))).getD (.list [])) else Res.no)=_;rw [if_pos (Rl (some (sgn u)))]; rfl
 rw [jC (W:=W++(nxt u).map wt) (ds:=(Fd B u).map wt) rfl (V8 hget (by rw [rY,hgl]; omega) rfl (by rw [kT]; exact Yw _ _)) (by simp only [sA,rY]; omega)];rfl
theorem bU {B:List Ad} {b:rG} {kvs:Kvs} (hk:∀ y,Qr kvs (anD y)=.list ((B.filter fun a=>a.b=y).map Ad.d)) {st out:List As} (h:Run B st out):(∀ u∈out,u.2 < u.1.w.length)->∀ (n:Nat) (T:List rG) (s4 s5 s6 s7:Sl),out.length < n->T.length+out.length<=800 ->
   ∃ t4 t5 t6 t7,De (Us 2) Uu n [.sh b,.ow (.tuple [.dict kvs,.none]),.ow (.list (st.reverse.map wt)),.ow (.list T),s4,s5,s6,s7]=.nx [.sh b,.ow (.tuple [.dict kvs,.none]),.ow (.list []),.ow (.list (T++out.map tl)),t4,t5,t6,t7]:=by
 induction h with
 | nil =>
   intro _ n T s4 s5 s6 s7 hn _;cases n with
   | zero=>cases hn
   | succ n =>
     refine ⟨s4,s5,s6,s7,?_⟩; unfold De; rw [show Us 2 [Sl.sh b,.ow (.tuple [.dict kvs,.none]),.ow (.list (([]:List As).reverse.map wt)),.ow (.list T),s4,s5,s6,s7]=.ok false from rfl,K1,if_neg (by decide)];simp
 | @step u st out h ih =>
   intro hu n T s4 s5 s6 s7 hn hT; have hlen:=h.len; simp only [sA,yP,sD] at hlen hn hT;cases n with
   | zero=>cases hn
   | succ n =>
     have e1:(u::st).reverse.map wt=st.reverse.map wt++[wt u]:=by rw [AB,sV]; rfl
     rw [e1]; obtain ⟨a4,a5,a6,a7,e2⟩:=iR (b:=b) hk (hu u (.head _)) (st.reverse.map wt) T (by rw [rY,yP]; omega) (by omega) s4 s5 s6 s7;have e3:(st.reverse.map wt++(nxt u).map wt++(Fd B u).map wt)=((Fd B u).reverse++(nxt u++st)).reverse.map wt:=by
       have hr:(nxt u).reverse=nxt u:=by unfold nxt; split <;> rfl
       rw [zY,zY,DB,hr,sV,sV]
     rw [e3] at e2; obtain ⟨t4,t5,t6,t7,e4⟩:=ih (fun v hv=>hu v (.tail _ hv)) n (T++[tl u]) a4 a5 a6 a7 (by omega) (by rw [sA]; simp; omega);refine ⟨t4,t5,t6,t7,?_⟩; unfold De; have ec:Us 2 [Sl.sh b,.ow (.tuple [.dict kvs,.none]),.ow (.list (st.reverse.map wt++[wt u])),.ow (.list T),s4,s5,s6,s7]=.ok true:=by
       show Res.ok (!(st.reverse.map wt++[wt u]).isEmpty)=_;simp
     rw [ec,K1,if_pos rfl,e2]; show De (Us 2) Uu n _=_;rw [e4,xZ]; rfl
theorem iU {B:List Ad} (h:∀ a∈B,Uy a.w):(sgs B).length<=4*B.length:=by
 unfold sgs;induction B with
 | nil=>exact sC _
 | cons a B ih =>
   rw [List.flatMap_cons,sA,sD]; have:=ih fun c hc=>h c (.tail _ hc);have h2:=(h a (.head _)).2.1; have h3:(blk a).length=a.w.length:=by unfold blk; simp
   omega
theorem Jg {L:List Dp} {B:List Ad} (A:BkA L B):(ord B).length<=4*L.length:=by
 have h1:=(fA A.bk).length_eq;have h2:=iU A.wd;have h3:=A.len;omega
theorem Se {L:List Dp} {B:List Ad} (A:BkA L B) (hl:L.length<=9):U8 [.tuple (L.map (·.1))]=.ok (.list ((ord B).map tl)):=by
 obtain ⟨kvs,e1,hk⟩:=bS A hl;have hol:=Jg A;unfold U8 Cc M8;refine Uc ?_;unfold K3;simp only [rV,wT,sD,uS,xG,xF,sG,vR,tM];rw [D5 (δ':=[.sh (.tuple (L.map (·.1))),.ow (.tuple [.dict kvs,.none]),.un,.un,.un,.un,.un,.un]) (by unfold Ax Hy Rm; simp_arith [e1])];have hrl:(Ia B).length<=36:=by
   have:=(Xr A.bk).len; rw [yP] at this; omega
 have hgl:(B.filter fun a=>a.b=none).length=(Ia B).length:=by unfold Ia; rw [rY]
 have hget:(fun δ=>((Jr 1 (vC .none) (N8 B3)) δ).bind L4) [.sh (.tuple (L.map (·.1))),.ow (.tuple [.dict kvs,.none]),.un,.un,.un,.un,.un,.un]=.ok ((B.filter fun a=>a.b=none).map Ad.d):=by
   refine Ak (d:=.list ((B.filter fun a=>a.b=none).map Ad.d)) ?_ rfl;rw [<- hk none]; rfl
 rw [D5 (δ':=[.sh (.tuple (L.map (·.1))),.ow (.tuple [.dict kvs,.none]),.ow (.list (((Ia B).reverse).reverse.map wt)),.un,.un,.un,.un,.un]) (by
   unfold Aw Vs; rw [V8 hget (by rw [rY,hgl]; omega) rfl (Yw _ _),K1,DB];unfold Ia; rw [CK]; rfl)]
 rw [D5 (δ':=[.sh (.tuple (L.map (·.1))),.ow (.tuple [.dict kvs,.none]),.ow (.list (((Ia B).reverse).reverse.map wt)),.ow (.list []),.un,.un,.un,.un]) (by rfl)];obtain ⟨t4,t5,t6,t7,e2⟩:=bU (b:=.tuple (L.map (·.1))) hk (Xr A.bk) (fun u hu=>((Gg A.bk u).mp hu).2) 4096 [] .un .un .un .un (by omega) (by simp; omega);rw [tM] at e2;have e3:Av=De (Us 2) Uu 4096:=rfl;rw [e3,D5 e2];rfl
noncomputable def Ph:Dn->Out:=(sIf (Bw (D3 (b2 (b2 (A7 2) (vC (.int 0)) dIx) (vC (.str "undo")) dEq)) (D3 (Ag true 1 (b2 (A7 2) (vC (.int 1)) dIx)))) (Fs 1 (b2 (A7 2) (vC (.int 2)) dIx) (vC (.bool true))) Q8)
noncomputable def Hv:Dn->Out:=(sIf (Bw (D3 (b2 (b2 (A7 3) (vC (.int 0)) dIx) (vC (.str "drop")) dEq)) (D3 (Ag true 1 (b2 (A7 3) (vC (.int 1)) dIx)))) (Ct (fun δ=>((b2 (A7 3) (vC (.int 2)) dIx) δ).bind L4) (st1 4) (Fs 2 (A7 4) (vC (.bool true)))) Q8)
abbrev sgO (s:IdP×Nat):rG:=anD (some s)
inductive Kd (e:Dp):Prop where
 | drop (ss:List (IdP×Nat)):e.1=.tuple [.str "drop",idP e.2,.tuple (ss.map sgO)]->ss.length<=40->Kd e
 | undo (q:IdP):e.1=.tuple [.str "undo",idP e.2,idP q]->Kd e
 | oth (k:Str) (x:rG) (xs:List rG):e.1=.tuple (.str k::idP e.2::x::xs)->k ≠ "drop" -> k ≠ "undo" -> Kd e
theorem Sf {T:Int} {D:List rG}:∀ (sg:List rG),(∀ x∈sg,SgOf T D x)->∃ ss:List (IdP×Nat),sg=ss.map sgO
 | [],_=>⟨[],rfl⟩
 | x::sg,h=>by
   obtain ⟨ss,e⟩:=Sf sg fun y hy=>h y (.tail _ hy);obtain ⟨p,b,w,n,_,e1,_⟩:=h x (.head _); exact ⟨(p,n)::ss,by rw [rV,<- e,e1]; rfl⟩
theorem WfIn.kd {L:List Dp} {e:Dp} (h:WfIn L e):Kd e:=by
 obtain ⟨o,r⟩:=(show Wf _ _ _ _ from h);rcases r with ⟨b,w,e1,_⟩ | ⟨sg,e1,hs,hl,_⟩ | ⟨n,s1,x1,s2,x2,e1,_⟩ | ⟨n,e1,_⟩ | ⟨q,e1,_⟩
 . exact .oth "add" _ _ e1 (by decide) (by decide)
 . obtain ⟨ss,rfl⟩:=Sf sg hs
   exact .drop ss e1 (by simpa using hl)
 . exact .oth "mark" _ _ e1 (by decide) (by decide)
 . exact .oth "unmark" _ _ e1 (by decide) (by decide)
 . exact .undo q e1
abbrev oN (kvs:Kvs):Sl:=.ow (.tuple [.dict kvs,.none])
abbrev fN (kvs:Kvs):Sl:=.fd ((.dict [],.none)::kvs)
theorem Jb {b:Bool} {i:Nat} {f:Dn->Res rG} {δ:Dn} {kvs:Kvs} {kd:rG} (h:kvN δ i=some kvs) (hf:f δ=.ok kd) (hk:nkD kd=true):Ag b i f δ=.ok (.bool ((F6 kvs kd).isSome != b)):=by
 unfold Ag;rw [hf,E3,h];show (if nkD kd=true then _ else _)=_;rw [if_pos hk]
theorem Qs (p:IdP):nkD (idP p)=true:=by simp [nkD,Fe,isK,uF,uC]
theorem Sj {i:Nat} {fk fv:Dn->Res rG} {δ:Dn} {kvs:Kvs} {kd v:rG} (h:δ[i]? = some (oN kvs)) (hv:fv δ=.ok v) (hk:fk δ=.ok kd) (hn:nkD kd=true) (hl:kvs.length<=1000):Fs i fk fv δ=.nx (δ.set i (oN (O6 kvs kd v))):=by
 unfold Fs;rw [h];show N9 (fv δ) _=_;rw [hv,K1,hk,K1,if_pos ⟨hn,c9 hl (by decide)⟩]
theorem cQ {x y:Str} (h:x≠y):(x==y)=false:=beq_eq_false_iff_ne.mpr h
theorem cS (x:Str):(x==x)=true:=beq_self_eq_true x
theorem cA {e:Dp} (h:Kd e) (b:rG) (kvs:Kvs) (hl:kvs.length<=900):∃ kvs',kvs'.length<=kvs.length+1/\Ph [.sh b,oN kvs,.sh e.1]=.nx [.sh b,oN kvs',.sh e.1]:=by
 have no:∀ k x xs,e.1=.tuple (.str k::idP e.2::x::xs)->k ≠ "undo" -> ∃ kvs',kvs'.length<=kvs.length+1/\Ph [.sh b,oN kvs,.sh e.1]=.nx [.sh b,oN kvs',.sh e.1]:=fun k x xs e1 hk=>by
   refine ⟨kvs,zR _,?_⟩; unfold Ph; rw [Lk (Rh (by rw [e1]; simp_arith [Mz,Mn,cQ hk]))];rfl
 cases h with
 | drop ss h _=>exact no _ _ _ h (by decide)
 | oth k x xs h _ h2=>exact no _ _ _ h h2
 | undo q h =>
   have c1:(D3 (b2 (b2 (A7 2) (vC (.int 0)) dIx) (vC (.str "undo")) dEq)) [.sh b,oN kvs,.sh e.1]=.ok true:=by rw [h]; simp_arith [Mz,Mn,cS]
   have c2:(D3 (Ag true 1 (b2 (A7 2) (vC (.int 1)) dIx))) [.sh b,oN kvs,.sh e.1]=.ok ((F6 kvs (idP e.2)).isSome != true):=by
     refine G9 (Jb rfl ?_ (Qs e.2)); rw [h]; simp_arith [Zl]
   unfold Ph;cases c:((F6 kvs (idP e.2)).isSome != true) with
   | false =>
     rw [c] at c2; rw [Lk (Ji c1 c2)]; exact ⟨kvs,zR _,rfl⟩
   | true =>
     rw [c] at c2; rw [Ft (Jh c1 c2),Sj (kd:=idP q) (v:=.bool true) rfl rfl (by rw [h]; simp_arith [nI]) (Qs q) (by omega)];exact ⟨_,Fz kvs,rfl⟩
theorem Rq (b:rG):∀ (ds:List Dp),(∀ e∈ds,Kd e)->∀ (kvs:Kvs) (s2:Sl),kvs.length+ds.length<=900->∃ kvs' s2',L5 (st1 2) Ph (ds.map (·.1)) [.sh b,oN kvs,s2]=.nx [.sh b,oN kvs',s2']
 | [],_,kvs,s2,_=>⟨kvs,s2,rfl⟩
 | e::ds,h,kvs,s2,hl=>by
   rw [sD] at hl; obtain ⟨kvs1,l1,e1⟩:=cA (h e (.head _)) b kvs (by omega);obtain ⟨kvs2,s2',e2⟩:=Rq b ds (fun d hd=>h d (.tail _ hd)) kvs1 (.sh e.1) (by omega);refine ⟨kvs2,s2',?_⟩; rw [rV]; unfold L5; simp only [st1,sR,sS]; rw [e1]; exact e2
theorem nF {L:List Dp} (h:∀ e∈L,Kd e) (hl:L.length<=9):∃ kvs,O2 [.tuple (L.map (·.1))]=.ok kvs:=by
 obtain ⟨kvs,s2,e⟩:=Rq (.tuple (L.map (·.1))) L.reverse (fun e he=>h e (List.mem_reverse.mp he)) [] .un (by simp; omega);refine ⟨kvs,?_⟩;rw [List.map_reverse] at e;unfold O2 Az Ap fnW K3 Jo Ew Ct Tj;simp only [rV,wT,sD,uS,xG,xF,sG,vR,tM,sR,sS,Fp,vQ,Da,E3,Sn,K1];have e':=e;unfold Ph at e';rw [e'];rfl
abbrev has (kvs:Kvs) (y:Option (IdP×Nat)):Bool:=(F6 kvs (anD y)).isSome
abbrev Gn (kvs:Kvs):Prop:=∀ p∈kvs,∃ x,p.1=anD x
theorem eL {kvs:Kvs} (h:Gn kvs) (x:Option (IdP×Nat)) (v:rG):Gn (O6 kvs (anD x) v)/\∀ y,has (O6 kvs (anD x) v) y=(decide (x=y)||has kvs y):=by
 induction kvs with
 | nil =>
   refine ⟨fun p hp=>?_,fun y=>?_⟩
   . rw [sO.mp hp]; exact ⟨x,rfl⟩
   . show ((List.find? (fun p=>rZ p.1 (anD y)) [(anD x,v)]).map (·.2)).isSome=_
     rw [tP,W9];cases decide (x=y) <;> rfl
 | cons p r ih =>
   obtain ⟨z,hz⟩:=h p (.head _); obtain ⟨i1,i2⟩:=ih fun q hq=>h q (.tail _ hq);unfold O6; rw [hz,W9];by_cases c:z=x
   . rw [if_pos (decide_eq_true c)]
     refine ⟨fun q hq=>?_,fun y=>?_⟩
     . rcases rT.mp hq with rfl | hq
       . exact ⟨z,rfl⟩
       . exact h q (.tail _ hq)
     . unfold has F6
       rw [tP,tP,hz,W9,c];cases decide (x=y) <;> rfl
   . rw [if_neg (by rw [decide_eq_false c]; decide)]
     refine ⟨fun q hq=>?_,fun y=>?_⟩
     . rcases rT.mp hq with rfl | hq
       . exact ⟨z,hz⟩
       . exact i1 q hq
     . unfold has F6
       rw [tP,tP,hz,W9];cases hd:decide (z=y) with
       | true=>simp
       | false=>exact i2 y
noncomputable def Gj (un:IdP->Bool) (e:Dp) (s:IdP×Nat):Bool:=match e.1 with
 | .tuple (.str k::_::.tuple xs::_)=>(k == "drop")&&(!un e.2)&&(xs.any fun y=>rZ y (sgO s))
 | _=>false
theorem bH {un:IdP->Bool} {e:Dp} {s:IdP×Nat} {k:Str} {i x:rG} {xs:List rG} (h:e.1=.tuple (.str k::i::x::xs)) (hk:k ≠ "drop"):Gj un e s=false:=by
 unfold Gj;rw [h];split
 . rename_i heq
   injection heq with heq
   injection heq with h1 _
   injection h1 with h1
   rw [<- h1,cQ hk]; rfl
 . rfl
theorem Sz (b:rG) (ku:Kvs) (s3:Sl):∀ (ss:List (IdP×Nat)) (kvs:Kvs) (s4:Sl),Gn kvs->kvs.length+ss.length<=900->∃ kvs' s4',Gn kvs'/\kvs'.length<=kvs.length+ss.length/\(∀ y,has kvs' y=(has kvs y||ss.any fun s=>decide (some s=y))) /\
   L5 (st1 4) (Fs 2 (A7 4) (vC (.bool true))) (ss.map sgO) [.sh b,fN ku,oN kvs,s3,s4]=.nx [.sh b,fN ku,oN kvs',s3,s4']
 | [],kvs,s4,hk,_=>⟨kvs,s4,hk,by simp,fun y=>by simp,rfl⟩
 | s::ss,kvs,s4,hk,hl=>by
   rw [sD] at hl; obtain ⟨g1,g2⟩:=eL hk (some s) (.bool true); have l1:=Fz (k:=sgO s) (v:=l8 true) kvs; obtain ⟨kvs',s4',k1,k2,k3,k4⟩:=Sz b ku s3 ss (O6 kvs (sgO s) (.bool true)) (.sh (sgO s)) g1 (by omega);refine ⟨kvs',s4',k1,by rw [sD]; omega,fun y=>?_,?_⟩
   . rw [k3,g2,BY]
     cases decide (some s=y) <;> simp
   . rw [rV]
     unfold L5; simp only [st1,sR,sS]; rw [Sj (kd:=sgO s) (v:=.bool true) rfl rfl rfl (Rl _) (by omega)]; exact k4
theorem gR {e:Dp} (h:Kd e) (b:rG) (ku kvs:Kvs) (s4:Sl) (hk:Gn kvs) (hl:kvs.length<=800):∃ kvs' s4',Gn kvs'/\kvs'.length<=kvs.length+40/\(∀ s,has kvs' (some s)=(has kvs (some s)||Gj (fun p=>(F6 ku (idP p)).isSome) e s)) /\
   Hv [.sh b,fN ku,oN kvs,.sh e.1,s4]=.nx [.sh b,fN ku,oN kvs',.sh e.1,s4']:=by
 have no : ∀ k x xs, e.1 = .tuple (.str k :: idP e.2 :: x :: xs) -> k ≠ "drop" -> ∃ kvs' s4', Gn kvs' /\ kvs'.length <= kvs.length + 40 /\ (∀ s, has kvs' (some s) = (has kvs (some s) || Gj (fun p => (F6 ku (idP p)).isSome) e s)) /\
     Hv [.sh b,fN ku,oN kvs,.sh e.1,s4]=.nx [.sh b,fN ku,oN kvs',.sh e.1,s4']:=fun k x xs e1 hn=>by
   refine ⟨kvs,s4,hk,by omega,fun s=>by rw [bH e1 hn,Bool.or_false],?_⟩;unfold Hv; rw [Lk (Rh (by rw [e1]; simp_arith [Mz,Mn,cQ hn]))];rfl
 cases h with
 | undo q h=>exact no _ _ _ h (by decide)
 | oth k x xs h h1 _=>exact no _ _ _ h h1
 | drop ss h hss =>
   have c1:(D3 (b2 (b2 (A7 3) (vC (.int 0)) dIx) (vC (.str "drop")) dEq)) [.sh b,fN ku,oN kvs,.sh e.1,s4]=.ok true:=by rw [h]; simp_arith [Mz,Mn,cS]
   have c2:(D3 (Ag true 1 (b2 (A7 3) (vC (.int 1)) dIx))) [.sh b,fN ku,oN kvs,.sh e.1,s4]=.ok ((F6 ku (idP e.2)).isSome != true):=by
     refine G9 (Jb rfl ?_ (Qs e.2)); rw [h]; simp_arith [Zl]
   have hd:∀ s,Gj (fun p=>(F6 ku (idP p)).isSome) e s=(!(F6 ku (idP e.2)).isSome&&ss.any fun t=>decide (some t=some s)):=fun s=>by
     unfold Gj; rw [h]; show (("drop" : Str) == "drop" && (!(F6 ku (idP e.2)).isSome)&&((ss.map sgO).any fun y=>rZ y (sgO s)))=_;rw [cS,Bool.true_and,List.any_map];congr 1;congr 1;funext t;exact W9 _ _
   unfold Hv;cases c:(F6 ku (idP e.2)).isSome with
   | true =>
     rw [c] at c2 hd; rw [Lk (Ji c1 c2)]; exact ⟨kvs,s4,hk,by omega,fun s=>by rw [hd]; simp,rfl⟩
   | false =>
     rw [c] at c2 hd; obtain ⟨kvs',s4',k1,k2,k3,k4⟩:=Sz b ku (.sh e.1) ss kvs s4 hk (by omega);refine ⟨kvs',s4',k1,by omega,fun s=>by rw [k3,hd]; simp,?_⟩;rw [Ft (Jh c1 c2)]; unfold Ct; rw [Ak (d:=.tuple (ss.map sgO)) (ds:=ss.map sgO) (by rw [h]; simp_arith [nI]) rfl,K1];exact k4
theorem Ue (b:rG) (ku:Kvs):∀ (ds:List Dp),(∀ e∈ds,Kd e)->∀ (kvs:Kvs) (s3 s4:Sl),Gn kvs->kvs.length+40*ds.length<=800->∃ kvs' s3' s4',Gn kvs'/\(∀ s,has kvs' (some s)=(has kvs (some s)||ds.any fun e=>Gj (fun p=>(F6 ku (idP p)).isSome) e s)) /\
   L5 (st1 3) Hv (ds.map (·.1)) [.sh b,fN ku,oN kvs,s3,s4]=.nx [.sh b,fN ku,oN kvs',s3',s4']
 | [],_,kvs,s3,s4,hk,_=>⟨kvs,s3,s4,hk,fun s=>by simp,rfl⟩
 | e::ds,h,kvs,s3,s4,hk,hl=>by
   rw [sD] at hl; obtain ⟨kvs1,t4,g1,g2,g3,g4⟩:=gR (h e (.head _)) b ku kvs s4 hk (by omega);obtain ⟨kvs2,u3,u4,k1,k2,k3⟩:=Ue b ku ds (fun d hd=>h d (.tail _ hd)) kvs1 (.sh e.1) t4 g1 (by omega);refine ⟨kvs2,u3,u4,k1,fun s=>by rw [k2,g3,BY,Bool.or_assoc],?_⟩;rw [rV]; unfold L5; simp only [st1,sR,sS]; rw [g4]; exact k3
theorem qS {L:List Dp} (h:∀ e∈L,Kd e) (hl:L.length<=9) (ku:Kvs):∃ kd,K5 [.sh (.tuple (L.map (·.1))),fN ku]=.ok kd/\∀ s,has kd (some s)=L.any fun e=>Gj (fun p=>(F6 ku (idP p)).isSome) e s:=by
 obtain ⟨kd,s3,s4,k1,k2,k3⟩:=Ue (.tuple (L.map (·.1))) ku L h [] .un .un (fun _ h=>nomatch h) (by simp; omega);refine ⟨kd,?_,fun s=>by rw [k2]; rfl⟩;unfold K5 Z4 X0 lF Ev Jo Ew Ct Tj;simp only [sD,uS,xG,xF,sG,vR,tM,sR,sS,Fp,vQ,Da,E3,L4,K1];have k3':=k3;unfold Hv at k3';unfold Ct at k3';rw [k3'];rfl
noncomputable def Zb:Dn->Out:=(Ll 3 (E6 (A6 (A7 4) (A6 (bY (Ag true 1 (b2 (b2 (A7 4) (vC (.int 0)) dIx) (vC (.int 0)) dIx)) (Ag true 2 (b2 (A7 4) (vC (.int 0)) dIx))) B3))))
abbrev bkD (L:List Dp):rG:=.tuple (L.map (·.1))
structure Pr (L:List Dp) (ku kd:Kvs):Prop where
 u:O2 [bkD L]=.ok ku
 d:K5 [.sh (bkD L),fN ku]=.ok kd
 h:∀ s,has kd (some s)=L.any fun e=>Gj (fun p=>(F6 ku (idP p)).isSome) e s
theorem pr_ex {L:List Dp} (h:∀ e∈L,Kd e) (hl:L.length<=9):∃ ku kd,Pr L ku kd:=by
 obtain ⟨ku,e1⟩:=nF h hl;obtain ⟨kd,e2,e3⟩:=qS h hl ku;exact ⟨ku,kd,e1,e2,e3⟩
noncomputable def un (ku:Kvs) (p:IdP):Bool:=(F6 ku (idP p)).isSome
noncomputable def Gd (ku kd:Kvs) (u:As):Bool := !(un ku u.1.p) && !(has kd (some (sgn u)))
theorem bne_true (b:Bool):(b != true) = !b:=by cases b <;> rfl
theorem iJ {f g:Dn->Res rG} {δ:Dn} {a b:Bool} (h1:f δ=.ok (.bool a)) (h2:g δ=.ok (.bool b)):bY f g δ=.ok (.bool (a&&b)):=by
 unfold bY;rw [h1,E3];cases a with
 | true=>exact h2
 | false=>rfl
theorem Os (b:rG) (ku kd:Kvs):∀ (us:List As) (T:List rG) (s4:Sl),T.length+us.length<=800->∃ s4',L5 (st1 4) Zb (us.map tl) [.sh b,fN ku,oN kd,.ow (.list T),s4]=.nx [.sh b,fN ku,oN kd,.ow (.list (T++us.map fun u=>.tuple [tl u,.bool (Gd ku kd u)])),s4']
 | [],T,s4,_=>⟨s4,by simp [L5]⟩
 | u::us,T,s4,hl=>by
   rw [sD] at hl; obtain ⟨s4',e⟩:=Os b ku kd us (T++[.tuple [tl u,.bool (Gd ku kd u)]]) (.sh (tl u)) (by simp; omega);refine ⟨s4',?_⟩; rw [rV]; unfold L5; simp only [st1,sR,sS]; have e1:(Ag true 1 (b2 (b2 (A7 4) (vC (.int 0)) dIx) (vC (.int 0)) dIx)) [.sh b,fN ku,oN kd,.ow (.list T),.sh (tl u)]=.ok (.bool (!(un ku u.1.p))):=by
     rw [Jb (kvs:=ku) (kd:=idP u.1.p) rfl (by simp_arith [Mz]) (Qs _),bne_true]; rfl
   have e2:(Ag true 2 (b2 (A7 4) (vC (.int 0)) dIx)) [.sh b,fN ku,oN kd,.ow (.list T),.sh (tl u)]=.ok (.bool (!(has kd (some (sgn u))))):=by
     rw [Jb (kvs:=kd) (kd:=sgA u) rfl (by simp_arith [Mz]) (Rl (some (sgn u))),bne_true]; rfl
   have e3:Zb [.sh b,fN ku,oN kd,.ow (.list T),.sh (tl u)]=.nx [.sh b,fN ku,oN kd,.ow (.list (T++[.tuple [tl u,.bool (Gd ku kd u)]])),.sh (tl u)]:=by
     unfold Zb; exact Qf rfl (N5 (B5 (d:=tl u) (by simp_arith) (B5 (iJ e1 e2) rfl))) (by omega)
   rw [e3]; show L5 (st1 4) Zb (us.map tl) _=_;rw [e,xZ]; rfl
theorem kA {L:List Dp} {B:List Ad} (A:BkA L B) (hl:L.length<=9) {ku kd:Kvs} (P:Pr L ku kd):P7 [bkD L]=.ok (.list ((ord B).map fun u=>.tuple [tl u,.bool (Gd ku kd u)])):=by
 have hol:=Jg A;obtain ⟨s4,e⟩:=Os (bkD L) ku kd (ord B) [] .un (by simp; omega);unfold P7 W1 F8;refine Uc ?_;unfold K3;simp only [rV,wT,sD,uS,xG,xF,sG,vR,tM];rw [D5 (δ':=[.sh (bkD L),oN ku,.un,.un,.un]) (by unfold U5 Hy Rm; simp_arith [P.u])];rw [D5 (δ':=[.sh (bkD L),fN ku,oN kd,.un,.un]) (by
   unfold U4 nY Hy Po; show N9 (Res.bind (Res.ok (bkD L)) fun d=>K5 [.sh d,fN ku]) _=_;rw [E3,P.d]; rfl)]
 rw [D5 (δ':=[.sh (bkD L),fN ku,oN kd,.ow (.list []),.un]) (by rfl)];rw [tM] at e;have e3:O4 [.sh (bkD L),fN ku,oN kd,.ow (.list []),.un]=.nx [.sh (bkD L),fN ku,oN kd,.ow (.list ((ord B).map fun u=>.tuple [tl u,.bool (Gd ku kd u)])),s4]:=by
   unfold O4 Ct; rw [Ak (d:=.list ((ord B).map tl)) (ds:=(ord B).map tl) (by simp_arith [Se A hl]) rfl,K1];exact e
 rw [D5 e3];rfl
theorem Yx {α:Type} {δc:Dn} {tt:Dn->Res Bool} {el:Dn->Res rG} (g h:α->rG) (f:α->Bool):∀ xs:List α,(∀ x∈xs,tt ([.sh (g x)]++δc)=.ok (f x))->(∀ x∈xs,el ([.sh (g x)]++δc)=.ok (h x))->D7 L3 δc tt el (xs.map g)=.ok ((xs.filter f).map h)
 | [],_,_=>rfl
 | x::xs,ht,he=>by
   have ih:=Yx g h f xs (fun y hy=>ht y (.tail _ hy)) fun y hy=>he y (.tail _ hy);have h1:=ht x (.head _); have h2:=he x (.head _); rw [rV]; unfold D7;cases c:f x with
   | true =>
     rw [c] at h1; simp only [L3,h1,h2,ih]; rw [wW,c,if_pos rfl,rV]
   | false =>
     rw [c] at h1; simp only [L3,h1,ih]; rw [wW,c,if_neg (by decide)]
theorem dH {L:List Dp} {B:List Ad} (A:BkA L B) (hl:L.length<=9) {ku kd:Kvs} (P:Pr L ku kd):U9 [bkD L]=.ok (.list (((ord B).filter (Gd ku kd)).map tl)):=by
 have hol:=Jg A;have hp:=kA A hl P;unfold U9 Cd Cn;refine Uc (Ce (Dv (V8 (Ak (d:=.list ((ord B).map fun u=>.tuple [tl u,.bool (Gd ku kd u)])) (by simp_arith [hp]) rfl) (by simp; omega) rfl ?_)));exact Yx (fun u=>.tuple [tl u,.bool (Gd ku kd u)]) tl (Gd ku kd) (ord B) (fun u _=>by
   unfold Bv; exact G9 (by simp_arith [Zl])) fun u _=>by unfold Bv; simp_arith [Mz]
theorem pP {u:As} (hw:Uy u.1.w) (h:u.2 < u.1.w.length):(ltr u).length=1/\sW (ltr u)=true/\chOk 32 126 (ltr u):=by
 have h':u.2 < u.1.w.cps.toList.length:=by rw [<- cR]; exact h
 have hc:=hw.2.2 _ (List.getElem_mem h');have e:u.1.w.cps.toList.getD u.2 0=u.1.w.cps.toList[u.2]:=by rw [BJ,sH h']; rfl
 refine ⟨rfl,?_,?_⟩
 . unfold ltr
   rw [e];generalize u.1.w.cps.toList[u.2]=c at hc;unfold sW; simp;omega
 . unfold ltr
   rw [e]; exact .one hc
theorem Jw {α:Type} (f:α->Str):∀ us:List α,Bx (us.map fun u=>uT (f u))=some (us.map f)
 | []=>rfl
 | u::us=>by
   show (Bx (us.map fun u=>uT (f u))).map _=_;rw [Jw f us]; rfl
theorem fX {us:List As} (h:∀ u∈us,Uy u.1.w/\u.2 < u.1.w.length) (hl:us.length<=100):Pb "" (.list (us.map fun u=>uT (ltr u)))=some (.str (yK "" (us.map ltr))):=by
 have hx:∀ x∈us.map ltr,x.length=1/\sW x=true/\chOk 32 126 x:=fun x hx=>by
   obtain ⟨u,hu,rfl⟩:=tE.mp hx; exact pP (h u hu).1 (h u hu).2
 obtain ⟨l1,o1,_⟩:=Ho _ hx;have s1:=Ju _ hx;rw [rY] at l1 s1;show (Bx (us.map fun u=>uT (ltr u))).bind _=_;rw [Jw ltr us];show (if _ then _ else _)=_;have:(("" : Str)).length=0:=rfl;rw [if_pos ⟨by rw [s1,this]; omega,o1,sJ (show _<=1000 by omega) Ru⟩]
theorem iM {L:List Dp} {B:List Ad} (A:BkA L B) (hl:L.length<=9) {ku kd:Kvs} (P:Pr L ku kd):U7 [bkD L]=.ok (.str (yK "" (((ord B).filter (Gd ku kd)).map ltr))):=by
 have hol:=Jg A;have hf:=CW (Gd ku kd) (ord B);have hs:=dH A hl P;have hj:=fX (us:=(ord B).filter (Gd ku kd)) (fun u hu=>by
   have:=(Gg A.bk u).mp (vX.mp hu).1; exact ⟨A.wd _ this.1,this.2⟩) (by omega)
 have hc:N0 (fun δ=>((C9 (A6 (A7 0) B3) U9) δ).bind L4) L3 [] Af (b2 (A7 0) (vC (.int 1)) dIx) [.sh (bkD L)]=.ok (((ord B).filter (Gd ku kd)).map fun u=>uT (ltr u)) :=
   V8 (Ak (d:=.list (((ord B).filter (Gd ku kd)).map tl)) (by simp_arith [hs]) rfl) (by simp; omega) rfl (Gk tl (fun u=>uT (ltr u)) (fun u=>by unfold Bv; simp_arith [Zl]) _)
 unfold U7 Db Ed;refine Uc (Ce ?_);show (Od "" _ [.sh (bkD L)])=_;unfold Od;rw [Dv hc,E3,hj]; rfl
structure Fl (n:Nat) (d:rG):Prop where
 e:rZ d d=true
 h:d.depth<=n
theorem Fl.mono {n m:Nat} {d:rG} (h:Fl n d) (k:n<=m):Fl m d:=⟨h.e,sJ h.h k⟩
theorem Ww {n:Nat}:∀ {xs:List rG},(∀ x∈xs,Fl n x)->yO xs xs=true/\uC xs<=n
 | [],_=>⟨rfl,by simp [uC]⟩
 | x::xs,h=>by
   have h1:=h x (.head _); obtain ⟨a,b⟩:=Ww (xs:=xs) fun y hy=>h y (.tail _ hy);exact ⟨by rw [yO,h1.e,a]; rfl,by rw [uC]; exact Nat.max_le.mpr ⟨h1.h,b⟩⟩
theorem Fl.tup {n:Nat} {xs:List rG} (h:∀ x∈xs,Fl n x):Fl (n+1) (.tuple xs):=by
 obtain ⟨a,b⟩:=Ww h;exact ⟨by rw [rZ]; exact a,by rw [uF]; exact AT b⟩
theorem Fl.lst {n:Nat} {xs:List rG} (h:∀ x∈xs,Fl n x):Fl (n+1) (.list xs):=by
 obtain ⟨a,b⟩:=Ww h;exact ⟨by rw [rZ]; exact a,by rw [uF]; exact AT b⟩
theorem T9 {n:Nat} (x:Str):Fl n (.str x):=⟨by simp [rZ],by simp [uF]⟩
theorem Qw {n:Nat} (x:Int):Fl n (.int x):=⟨by simp [rZ],by simp [uF]⟩
theorem lG {n:Nat}:Fl n .none:=⟨rfl,by simp [uF]⟩
theorem Fl.two {n:Nat} {a b:rG} (h1:Fl n a) (h2:Fl n b):Fl (n+1) (.tuple [a,b]):=Fl.tup fun x hx=>by
 rcases rT.mp hx with rfl | hx
 . exact h1
 . rw [sO.mp hx]; exact h2
theorem Fl.ne {n:Nat} {a:rG} (h:Fl n a) (hn:n<=64):dNe a a=some (.bool false):=by
 unfold dNe;rw [if_pos (sJ (zX _ _) (sJ h.h hn)),h.e]; rfl
theorem Fl.eq {n:Nat} {a:rG} (h:Fl n a) (hn:n<=64):dEq a a=some (.bool true):=by
 unfold dEq;rw [if_pos (sJ (zX _ _) (sJ h.h hn)),h.e]
theorem Mg {n:Nat} (p:IdP):Fl (n+1) (idP p):=Fl.two (Qw _) (T9 _)
theorem fl_sg {n:Nat} (p:IdP) (k:Int):Fl (n+2) (sgD p k):=Fl.two (Mg _) (Qw _)
theorem WfIn.fl {L:List Dp} {e:Dp} (h:WfIn L e):Fl 4 e.1:=by
 obtain ⟨o,r⟩:=(show Wf _ _ _ _ from h);have sg:∀ {T:Int} {ds:List rG} {x:rG},SgOf T ds x->Fl 2 x:=fun h=>by
   obtain ⟨p,b,w,n,_,e1,_⟩:=h; rw [e1]; exact fl_sg _ _
 have on:∀ {T:Int} {ds:List rG} {x:rG},OrN (SgOf T ds) x->Fl 2 x:=fun h=>by
   rcases h with rfl | h
   . exact lG
   . exact sg h
 rcases r with ⟨b,w,e1,hb,_⟩ | ⟨ss,e1,hs,_⟩ | ⟨n,s1,x1,s2,x2,e1,h1,h2,_⟩ | ⟨n,e1,_⟩ | ⟨q,e1,_⟩
 . rw [e1]
   refine Fl.tup (n:=3) fun x hx=>?_;simp only [rT,uH,or_false] at hx; rcases hx with rfl | rfl | rfl | rfl
   . exact T9 _
   . exact Mg _
   . exact (on hb).mono (by decide)
   . exact T9 _
 . rw [e1]
   refine Fl.tup (n:=3) fun x hx=>?_;simp only [rT,uH,or_false] at hx; rcases hx with rfl | rfl | rfl
   . exact T9 _
   . exact Mg _
   . exact Fl.tup fun y hy=>sg (hs y hy)
 . rw [e1]
   refine Fl.tup (n:=3) fun x hx=>?_;simp only [rT,uH,or_false] at hx; rcases hx with rfl | rfl | rfl | rfl | rfl
   . exact T9 _
   . exact Mg _
   . exact T9 _
   . exact Fl.two (on h1) (T9 _)
   . exact Fl.two (on h2) (T9 _)
 . rw [e1]
   refine Fl.tup (n:=3) fun x hx=>?_;simp only [rT,uH,or_false] at hx; rcases hx with rfl | rfl | rfl
   . exact T9 _
   . exact Mg _
   . exact T9 _
 . rw [e1]
   refine Fl.tup (n:=3) fun x hx=>?_;simp only [rT,uH,or_false] at hx; rcases hx with rfl | rfl | rfl
   . exact T9 _
   . exact Mg _
   . exact Mg _
structure GoodB (b:rG):Prop where
 fl:Fl 5 b
 tx:∃ s,U7 [b]=.ok s
 nn:Ci b=false
theorem mC (a0:Int) (ns:List Int) (hns:ns.length<=63):∃ b,Q9 [scr ns,.int a0,.int 4,.list [.str "a",.str "b",.str "c"]]=.ok b/\GoodB b:=by
 have one:Cu "a" /\ Cu "b" /\ Cu "c" := by
   refine ⟨⟨by decide,by decide,?_⟩,⟨by decide,by decide,?_⟩,⟨by decide,by decide,?_⟩⟩ <;> (unfold chOk; decide)
 obtain ⟨L,e,hl,hw⟩:=mB a0 ns hns "a" "b" "c" one;obtain ⟨B,A⟩:=bka' hw;obtain ⟨ku,kd,P⟩:=pr_ex (fun e he=>(hw.1 e he).kd) hl;refine ⟨_,e,Fl.tup fun x hx=>?_,⟨_,iM A hl P⟩,rfl⟩;obtain ⟨y,hy,rfl⟩:=tE.mp hx;exact (hw.1 y hy).fl
abbrev F3:=Str->Option rG
noncomputable def up3 (f:F3) (n:Str) (v:Option rG):F3:=fun m=>if m=n then v else f m
noncomputable def nms:List Str:=["one", "two", "x"]
structure BkOk (bk:Kvs) (f:F3):Prop where
 ks:∃ ss:List Str,bk.map (·.1)=ss.map .str/\ss.Nodup/\∀ n∈ss,n∈nms
 get:∀ n,F6 bk (.str n)=f n
 gd:∀ n b,f n=some b->GoodB b
theorem Ca {a b:Str} (h:uT a=.str b):a=b:=by cases h; rfl
theorem Ab {k:rG} {v:rG} {r:Kvs} {n:Str} (h:k=.str n):F6 ((k,v)::r) (.str n)=some v:=by
 unfold F6;rw [tP,show rZ (k,v).1 (.str n)=true from Q4.mpr h]; rfl
theorem N4 {k:rG} {v:rG} {r:Kvs} {n:Str} (h:k≠.str n):F6 ((k,v)::r) (.str n)=F6 r (.str n):=by
 unfold F6;cases hq:rZ k (.str n) with
 | true=>exact absurd (Q4.mp hq) h
 | false=>rw [tP,show rZ (k,v).1 (.str n)=false from hq]
theorem Tu {n m:Str} {b:rG}:∀ (bk:Kvs),F6 (O6 bk (.str n) b) (.str m)=if m=n then some b else F6 bk (.str m)
 | []=>by
   show F6 [(.str n,b)] (.str m)=_;by_cases h:m=n
   . rw [if_pos h,Ab (by rw [h])]
   . rw [if_neg h,N4 (fun z=>h (Ca z).symm)]
 | (k,v)::r=>by
   unfold O6;by_cases hk:rZ k (.str n)=true
   . rw [if_pos hk]
     have hk':=Q4.mp hk;by_cases h:m=n
     . rw [if_pos h,Ab (by rw [h]; exact hk')]
     . rw [if_neg h,N4 (fun z=>h (Ca (hk'.symm.trans z)).symm),N4 (fun z=>h (Ca (hk'.symm.trans z)).symm)]
   . rw [if_neg hk]
     have hne:k≠.str n:=fun z=>hk (Q4.mpr z);by_cases h:k=.str m
     . rw [Ab h,Ab h,if_neg (fun z=>hne (by rw [h,z]))]
     . rw [N4 h,N4 h]; exact Tu r
theorem Yp {m:Str}:∀ (bk:Kvs),uT m∉bk.map (·.1)->F6 bk (.str m)=none
 | [],_=>rfl
 | (k,v)::r,h=>by
   rw [N4 (fun z=>h (by rw [<- z]; exact .head _))];exact Yp r fun z=>h (.tail _ z)
theorem Tx {n m:Str}:∀ (bk:Kvs),(bk.map (·.1)).Nodup->F6 (Ml bk n) (.str m)=if m=n then none else F6 bk (.str m)
 | [],_=>by
   show F6 [] _=_;by_cases h:m=n
   . rw [if_pos h]; exact rfl
   . rw [if_neg h]
 | (k,v)::r,nd=>by
   unfold Ml; rw [rV,uR] at nd;by_cases hk:rZ k (.str n)=true
   . rw [if_pos hk]
     have hk':=Q4.mp hk;by_cases h:m=n
     . rw [if_pos h,h]; exact Yp r (by rw [<- hk']; exact nd.1)
     . rw [if_neg h,N4 (fun z=>h (Ca (hk'.symm.trans z)).symm)]
   . rw [if_neg hk]
     have hne:k≠.str n:=fun z=>hk (Q4.mpr z);by_cases h:k=.str m
     . rw [Ab h,Ab h,if_neg (fun z=>hne (by rw [h,z]))]
     . rw [N4 h,N4 h]; exact Tx r nd.2
theorem Ta {n:Str} {b:rG}:∀ (bk:Kvs) (ss:List Str),bk.map (·.1)=ss.map .str->(O6 bk (.str n) b).map (·.1)=(if n∈ss then ss else ss++[n]).map .str
 | [],ss,h=>by
   cases ss with
   | nil=>rw [if_neg (by simp)]; rfl
   | cons _ _=>cases h
 | (k,v)::r,ss,h=>by
   cases ss with
   | nil=>cases h
   | cons s ss =>
     simp only [rV,wJ] at h; obtain ⟨h1,h2⟩:=h; unfold O6;by_cases hk:rZ k (.str n)=true
     . have hn:s=n:=Ca (h1.symm.trans (Q4.mp hk))
       rw [if_pos hk,if_pos (by rw [hn]; exact .head _),rV,rV,h1,h2]
     . have hn:n≠s:=fun z=>hk (Q4.mpr (by rw [z]; exact h1))
       rw [if_neg hk,rV,Ta r ss h2,h1];by_cases hm:n∈ss
       . rw [if_pos hm,if_pos (.tail _ hm)]; rfl
       . rw [if_neg hm,if_neg (fun z=>by rcases rT.mp z with y | y; exact hn y; exact hm y)]; rfl
theorem Uf {n:Str}:∀ (bk:Kvs) (ss:List Str),bk.map (·.1)=ss.map .str->(Ml bk n).map (·.1)=(ss.erase n).map .str
 | [],ss,h=>by
   cases ss with
   | nil=>rfl
   | cons _ _=>cases h
 | (k,v)::r,ss,h=>by
   cases ss with
   | nil=>cases h
   | cons s ss =>
     simp only [rV,wJ] at h; obtain ⟨h1,h2⟩:=h; unfold Ml;by_cases hk:rZ k (.str n)=true
     . have hn:s=n:=Ca (h1.symm.trans (Q4.mp hk))
       rw [if_pos hk,List.erase_cons,if_pos (by rw [hn]; exact beq_self_eq_true n),h2]
     . have hn:s≠n:=fun z=>hk (Q4.mpr (by rw [<- z]; exact h1))
       rw [if_neg hk,List.erase_cons,if_neg (by rw [beq_eq_false_iff_ne.mpr hn]; decide),rV,rV,Uf r ss h2,h1]
theorem BkOk.put {bk:Kvs} {f:F3} (h:BkOk bk f) {n:Str} {b:rG} (hn:n∈nms) (hb:GoodB b):BkOk (O6 bk (.str n) b) (up3 f n (some b)):=by
 obtain ⟨ss,k1,k2,k3⟩:=h.ks;refine ⟨⟨_,Ta bk ss k1,?_,fun m hm=>?_⟩,fun m=>?_,fun m c hc=>?_⟩
 . by_cases hm:n∈ss
   . rw [if_pos hm]; exact k2
   . rw [if_neg hm]
     refine wO.mpr ⟨k2,uR.mpr ⟨by simp,q9⟩,fun a ha c hc z=>?_⟩;rw [sO.mp hc] at z; exact hm (z▸ha)
 . split at hm
   . exact k3 m hm
   . rcases sF.mp hm with z | z
     . exact k3 m z
     . rw [sO.mp z]; exact hn
 . rw [Tu,h.get]; rfl
 . unfold up3 at hc
   split at hc
   . cases hc; exact hb
   . exact h.gd m c hc
theorem Qq {ss:List Str} (h:ss.Nodup):(ss.map uT).Nodup:=by
 induction ss with
 | nil=>exact q9
 | cons a r ih =>
   rw [uR] at h; rw [rV,uR]; refine ⟨fun z=>?_,ih h.2⟩;obtain ⟨y,hy,e⟩:=tE.mp z; exact h.1 (Ca e▸hy)
theorem BkOk.nd {bk:Kvs} {f:F3} (h:BkOk bk f):(bk.map (·.1)).Nodup:=by
 obtain ⟨ss,k1,k2,k3⟩:=h.ks;rw [k1]; exact Qq k2
theorem BkOk.del {bk:Kvs} {f:F3} (h:BkOk bk f) (n:Str):BkOk (Ml bk n) (up3 f n none):=by
 obtain ⟨ss,k1,k2,k3⟩:=h.ks;refine ⟨⟨_,Uf bk ss k1,k2.erase n,fun m hm=>k3 m (List.mem_of_mem_erase hm)⟩,fun m=>?_,fun m c hc=>?_⟩
 . rw [Tx bk h.nd,h.get]; rfl
 . unfold up3 at hc
   split at hc
   . cases hc
   . exact h.gd m c hc
theorem BkOk.len {bk:Kvs} {f:F3} (h:BkOk bk f):bk.length<=3:=by
 obtain ⟨ss,k1,k2,k3⟩:=h.ks;have:=congrArg yZ k1;rw [rY,rY] at this;rw [this];exact w5 k2 k3
theorem rA:BkOk [] (fun _=>none):=⟨⟨[],rfl,q9,fun _ h=>nomatch h⟩,fun _=>rfl,fun _ _ h=>nomatch h⟩
theorem Tv {n:Str}:∀ (bk:Kvs) (ss:List Str),bk.map (·.1)=ss.map .str->((F6 bk (.str n)).isSome=true↔n∈ss)
 | [],ss,h=>by
   cases ss with
   | nil=>exact ⟨fun z=>(nomatch z),fun z=>(nomatch z)⟩
   | cons _ _=>cases h
 | (k,v)::r,ss,h=>by
   cases ss with
   | nil=>cases h
   | cons s ss =>
     simp only [rV,wJ] at h; obtain ⟨h1,h2⟩:=h;by_cases hs:s=n
     . rw [Ab (by rw [<- hs]; exact h1)]
       exact ⟨fun _=>by rw [hs]; exact .head _,fun _=>rfl⟩
     . rw [N4 (fun z=>hs (Ca (h1.symm.trans z))),Tv r ss h2]
       exact ⟨fun z=>.tail _ z,fun z=>by rcases rT.mp z with y | y; exact absurd y.symm hs; exact y⟩
theorem Hx:∀ ss:List Str,Q2 (ss.map .str)=some ss
 | []=>rfl
 | s::ss=>by
   show (Q2 (ss.map .str)).map (s::·)=_;rw [Hx ss]; rfl
noncomputable def Qo (f:F3):List Str:=nms.filter fun n=>(f n).isSome
theorem pH (f:F3):(Qo f).Pairwise leX:=by
 refine AU _ ?_;unfold nms leX;decide +kernel
theorem BkOk.sort {bk:Kvs} {f:F3} (h:BkOk bk f):∃ ss,Q2 (bk.map (·.1))=some ss/\Cz ss=Qo f/\ss.length<=3/\∀ n∈ss,n∈nms:=by
 obtain ⟨ss,k1,k2,k3⟩:=h.ks;refine ⟨ss,by rw [k1]; exact Hx ss,?_,w5 k2 k3,k3⟩;refine Lo ((Z2 ss).trans ?_) (Sd ss) (pH f);refine (List.perm_ext_iff_of_nodup k2 (List.Nodup.sublist List.filter_sublist (by unfold nms; decide +kernel))).mpr fun n=>?_;rw [vX,<- h.get n,Tv bk ss k1];exact ⟨fun z=>⟨k3 n z,z⟩,fun z=>z.2⟩
noncomputable section
variable {δ δ':Dn} {als als':List Alb} {f:FQ} {tf:FQT} {g1 g2:FS} {d:rG} {i j:Nat} {fs:Dn->Res (List rG)} {m:FM} {A A':Alb} {ds:List rG} {fd:Dn->Res rG} {ft:Dn->Res Bool} {b:Bool}
theorem C3 (h:g1 δ als=.nx δ' als'):K2 g1 g2 δ als=g2 δ' als':=by unfold K2; rw [h]
theorem D6 (h1:als[j]? = some A) (h2:fs δ=.ok ds) (h3:m ds A=some (d,A')):C2 j fs m δ als=some (d,als.set j A'):=by
 unfold C2;rw [h1,h2];simp only [h3]
theorem L6 (h:f δ als=some (d,als')):T8 f δ als=.nx δ als':=by unfold T8 W5; rw [h]
theorem Ac (h:f δ als=some (d,als')):Aj f δ als=.rt d als':=by unfold Aj W5; rw [h]
theorem P8 (h:f δ als=some (d,als')):Gi i f δ als=.nx (δ.set i (.sh d)) als':=by unfold Gi W5; rw [h]
theorem bB (h:f δ als=some (d,als')):Yr i f δ als=.nx (δ.set i (.ow (.list [d]))) als':=by unfold Yr W5; rw [h]
theorem gIf_t (h:tf δ als=some (true,als')):gIf tf g1 g2 δ als=g1 δ als':=by unfold gIf W5; rw [h]; exact if_pos rfl
theorem Dr (h:tf δ als=some (false,als')):gIf tf g1 g2 δ als=g2 δ als':=by unfold gIf W5; rw [h]; exact if_neg (by decide)
theorem K0 (h:fd δ=.ok d):qL fd δ als=some (d,als):=by unfold qL; rw [h]
theorem Qk (h:ft δ=.ok b):qLT ft δ als=some (b,als):=by unfold qLT; rw [h]
theorem Tz (h1:δ[i]? = some (.ow (.list ds))) (h:f δ als=some (d,als')) (hl:ds.length < 1000):Nu i f δ als=.nx (δ.set i (.ow (.list (ds++[d])))) als':=by
 unfold Nu;rw [h1];simp only;unfold W5;rw [h];exact if_pos (sP hl (by decide))
theorem jL {m:List rG->Alb->Option rG} (h:m ds A=some d):rdM m ds A=some (d,A):=by unfold rdM; rw [h]
theorem dJ (h:als[j]? = some A):als.set j A=als:=by
 refine zC fun k=>?_;rw [uK];split
 . rename_i e
   subst e; rw [h,if_pos (rQ.mp h).1]
 . rfl
theorem E9 {m:List rG->Alb->Option rG} (h1:als[j]? = some A) (h2:fs δ=.ok ds) (h3:m ds A=some d):C2 j fs (rdM m) δ als=some (d,als):=by
 rw [D6 h1 h2 (jL h3),dJ h1]
theorem T7 (h:f δ als=some (.bool b,als')):qB f δ als=some (b,als'):=by unfold qB; rw [h]
theorem P2 {f g:FQ} {op:rG->rG->Option rG} {x y:rG} {a1 a2:List Alb} (h1:f δ als=some (x,a1)) (h2:g δ a1=some (y,a2)) (h3:op x y=some d):q2 f g op δ als=some (d,a2):=by
 unfold q2;rw [h1];simp only [h2,h3]
theorem Op {f g:FQT} {a1:List Alb} (h1:f δ als=some (false,a1)):qOr f g δ als=g δ a1:=by unfold qOr; rw [h1]
theorem eJ {f g:FQ} {a1:List Alb} (h1:f δ als=some (.bool true,a1)):aE f g δ als=g δ a1:=by unfold aE; rw [h1]
theorem Xw {f g:FQT} {a1:List Alb} (h1:f δ als=some (true,a1)):Fy f g δ als=g δ a1:=by unfold Fy; rw [h1]
theorem Xx {f g:FQT} {a1:List Alb} (h1:f δ als=some (false,a1)):Fy f g δ als=some (false,a1):=by unfold Fy; rw [h1]
theorem eG {f:FQT} {a1:List Alb} (h1:f δ als=some (b,a1)):eH f δ als=some (!b,a1):=by unfold eH; rw [h1]
theorem Dx {f g:FQ} {x y:rG} {a1 a2:List Alb} (h1:f δ als=some (x,a1)) (h2:g δ a1=some (y,a2)):Ic f g δ als=some (.tuple [x,y],a2):=by
 unfold Ic;rw [h1];simp only [h2]
theorem Ot {N:List Str} {p:Nat} {go:FS} (h:go (Cv N p ds) [A]=.rt d [A']):mA N p go ds A=some (d,A'):=by unfold mA; rw [h]
theorem fS {N:List Str} {p:Nat} {go:FS} (h:go (Cv N p ds) [A]=.nx δ [A']):mA N p go ds A=some (.none,A'):=by unfold mA; rw [h]
end
theorem hX {A A':Alb} {pre:List rG} {w n o v:rG} (h:A.st=pre++[.tuple [w,n,o,v]]) (ht:A.tk.length < 1000) (hp:Hl [n,o] { bk:=A.bk,st:=pre,tk:=A.tk++[.tuple [w,n,o,v]] }=some (.none,A')):m_back [] A=some (w,A'):=by
 have e0:Sy [.un,.un] [A]=some (false,[A]):=by
   show some (A.st.isEmpty,[A])=_;rw [h]; cases pre <;> rfl
 have e1:Sw [.un,.un] [A]=some (.tuple [w,n,o,v],[{ A with st:=pre }]):=by
   unfold Sw; simp only [h]; rw [sA,zG,z8,sK (sC _),xE]; simp only [vQ,DG]
 refine Ot (N:=["self", "step"]) (p:=0) (go:=Dd) ?_;show Dd [.un,.un] [A]=_;unfold Dd;have f0:gIf Sy gNo W0 [.un,.un] [A]=.nx [.un,.un] [A]:=Dr e0;refine (C3 f0).trans ?_;refine (C3 (P8 e1)).trans ?_;refine (C3 (δ':=[.un,.sh (.tuple [w,n,o,v])]) (als':=[{ bk:=A.bk,st:=pre,tk:=A.tk++[.tuple [w,n,o,v]] }]) (if_pos ht)).trans ?_;refine (C3 (L6 (D6 rfl rfl hp))).trans ?_;exact Ac (K0 rfl)
theorem bC {A A':Alb} {pre:List rG} {w n o v:rG} (h:A.tk=pre++[.tuple [w,n,o,v]]) (ht:A.st.length < 1000) (hp:Hl [n,v] { bk:=A.bk,st:=A.st++[.tuple [w,n,o,v]],tk:=pre }=some (.none,A')):m_forth [] A=some (w,A'):=by
 have e0:Sx [.un,.un] [A]=some (false,[A]):=by
   show some (A.tk.isEmpty,[A])=_;rw [h]; cases pre <;> rfl
 have e1:Sv [.un,.un] [A]=some (.tuple [w,n,o,v],[{ A with tk:=pre }]):=by
   unfold Sv; simp only [h]; rw [sA,zG,z8,sK (sC _),xE]; simp only [vQ,DG]
 refine Ot (N:=["self", "step"]) (p:=0) (go:=Bp) ?_;show Bp [.un,.un] [A]=_;unfold Bp;have f0:gIf Sx gNo W0 [.un,.un] [A]=.nx [.un,.un] [A]:=Dr e0;refine (C3 f0).trans ?_;refine (C3 (P8 e1)).trans ?_;refine (C3 (δ':=[.un,.sh (.tuple [w,n,o,v])]) (als':=[{ bk:=A.bk,st:=A.st++[.tuple [w,n,o,v]],tk:=pre }]) (if_pos ht)).trans ?_;refine (C3 (L6 (D6 rfl rfl hp))).trans ?_;exact Ac (K0 rfl)
theorem cG {A A':Alb} {w b:rG} {n:Str} (ht:A.st.length < 1000) (hp:Hl [.str n,b] { bk:=A.bk,st:=A.st++[.tuple [w,.str n,(F6 A.bk (.str n)).getD .none,b]],tk:=[] }=some (.none,A')):m_take_step [w,.str n,b] A=some (.none,A'):=by
 refine fS (N:=["self", "word", "name", "book"]) (p:=0) (go:=P4) (δ:=[.un,.sh w,.sh (.str n),.sh b]) ?_;show P4 [.un,.sh w,.sh (.str n),.sh b] [A]=_;unfold P4;refine (C3 (δ':=[.un,.sh w,.sh (.str n),.sh b]) (als':=[{ A with st:=A.st++[.tuple [w,.str n,(F6 A.bk (.str n)).getD .none,b]] }]) (if_pos ht)).trans ?_;refine (C3 (δ':=[.un,.sh w,.sh (.str n),.sh b]) (als':=[{ A with st:=A.st++[.tuple [w,.str n,(F6 A.bk (.str n)).getD .none,b]],tk:=[] }]) rfl).trans ?_;exact L6 (D6 rfl rfl hp)
theorem fW {A A':Alb} {b s:rG} {n:Str} (h:m_take_step [.str "keep",.str n,b] A=some (.none,A')) (ht:U7 [b]=.ok s):m_keep [.str n,b] A=some (s,A'):=by
 refine Ot (N:=["self", "name", "book"]) (p:=0) (go:=Dc) ?_;show Dc [.un,.sh (.str n),.sh b] [A]=_;unfold Dc;refine (C3 (L6 (D6 rfl rfl h))).trans ?_;exact Ac (K0 ht)
theorem Wt {A A':Alb} {b:rG} {n:Str} (hf:F6 A.bk (.str n)=some b) (h:m_take_step [.str "forget",.str n,.none] A=some (.none,A')):m_forget [.str n] A=some (b,A'):=by
 refine Ot (N:=["self", "name", "book"]) (p:=0) (go:=Z3) ?_;show Z3 [.un,.sh (.str n),.un] [A]=_;unfold Z3;refine (C3 (P8 (E9 (m:=W4) (ds:=[.str n]) rfl rfl hf))).trans ?_;refine (C3 (L6 (D6 rfl rfl h))).trans ?_;exact Ac (K0 rfl)
noncomputable def Lx (o:Option rG):rG:=o.getD .none
noncomputable def pG (f:F3):List rG:=(Qo f).map fun n=>.tuple [.str n,Lx (f n)]
theorem Te {A:Alb} {f:F3} (h:BkOk A.bk f):∀ (l:List Str),(∀ n∈l,(f n).isSome=true)->Cg A (l.map .str)=some (l.map fun n=>.tuple [.str n,Lx (f n)])
 | [],_=>rfl
 | n::l,hl=>by
   obtain ⟨b,hb⟩:=wF.mp (hl n (.head _)); have e1:W4 [.str n] A=some b:=(h.get n).trans hb; rw [rV]; unfold Cg; rw [e1,Te h l fun m hm=>hl m (.tail _ hm),rV,hb];rfl
theorem aN {n:Str} (h:n∈nms):(sW n&&decide (n.length<=1000))=true:=by
 have:nms.all (fun x=>sW x&&decide (x.length<=1000))=true:=by decide +kernel
 exact wH.mp this n h
theorem Ma {A:Alb} {f:F3} (h:BkOk A.bk f):M7 [] A=some (.list ((Qo f).map .str)):=by
 obtain ⟨ss,s1,s2,s3,s4⟩:=h.sort;unfold M7;rw [s1];simp only;rw [if_pos ⟨by omega,wH.mpr fun x hx=>aN (s4 x hx)⟩,s2]
theorem pE {A:Alb} {f:F3} (h:BkOk A.bk f):I8 [] A=some (.list (pG f)):=by
 unfold I8;rw [Ma h];simp only;rw [Te h (Qo f) fun n hn=>(vX.mp hn).2];rfl
theorem pF {bk:Kvs} {f:F3} (h:BkOk bk f):Fl 7 (.list (pG f)):=Fl.lst fun x hx=>by
 obtain ⟨n,hn,rfl⟩:=tE.mp hx;obtain ⟨b,hb⟩:=wF.mp (vX.mp hn).2;refine Fl.two (T9 _) ?_;rw [hb];exact (h.gd n b hb).fl
structure Stp where
 wd:Str
 n:Str
 o:Option rG
 v:Option rG
noncomputable def Stp.d (s:Stp):rG:=.tuple [.str s.wd,.str s.n,Lx s.o,Lx s.v]
noncomputable def stt (h:List Stp):F3:=h.foldl (fun f s=>up3 f s.n s.v) (fun _=>none)
theorem Jv (h:List Stp) (s:Stp):stt (h++[s])=up3 (stt h) s.n s.v:=by
 unfold stt;rw [List.foldl_append]; rfl
structure SOk (f:F3) (s:Stp):Prop where
 fo:f s.n=s.o
 nm:s.n∈nms
 go:∀ b,s.o=some b->GoodB b
 gv:∀ b,s.v=some b->GoodB b
 one:s.o.isSome=true\/s.v.isSome=true
 wd:s.wd = "keep" \/ s.wd = "forget"
def Hst (h:List Stp):Prop:=∀ (i:Nat) s,h[i]? = some s->SOk (stt (h.take i)) s
theorem Vy {A:Alb} {f:F3} {n:Str} {v:Option rG} (h:BkOk A.bk f) (hn:n∈nms) (hv:∀ b,v=some b->GoodB b) (hs:v=none->(f n).isSome=true):∃ bk',Hl [.str n,Lx v] A=some (.none,{ A with bk:=bk' })/\BkOk bk' (up3 f n v):=by
 have hl:A.bk.length < 1000:=by have:=h.len; omega
 cases v with
 | none =>
   refine ⟨Ml A.bk n,?_,h.del n⟩; obtain ⟨b,hb⟩:=wF.mp (hs rfl); have e:F6 A.bk (.str n)=some b:=(h.get n).trans hb; show (if A.bk.length < 1000 then (match F6 A.bk (.str n) with
     | some _=>some (AH,{ A with bk:=Ml A.bk n })
     | none=>none) else none)=_
   rw [if_pos hl,e]
 | some b =>
   refine ⟨O6 A.bk (.str n) b,?_,h.put hn (hv b rfl)⟩; show (if A.bk.length < 1000 then (if Ci b=true then _ else some (AH,{ A with bk:=O6 A.bk (.str n) b })) else none)=_;rw [if_pos hl,if_neg (by rw [(hv b rfl).nn]; decide)]
theorem bZ {g:F3} {n:Str} {v o:Option rG} (h:g n=o):up3 (up3 g n v) n o=g:=by
 funext m
 unfold up3;by_cases e:m=n
 . rw [if_pos e,e,h]
 . rw [if_neg e,if_neg e]
theorem nE {g:F3} {n:Str} {v:Option rG}:up3 g n v n=v:=by unfold up3; rw [if_pos rfl]
structure At (h:List Stp) (k:Nat) (A:Alb):Prop where
 bk:BkOk A.bk (stt (h.take k))
 st:A.st=(h.take k).map Stp.d
 tk:A.tk=(h.drop k).reverse.map Stp.d
 le:k<=h.length
theorem Dw {h:List Stp} {k:Nat} {s:Stp} (e:h[k]? = some s):h.take (k+1)=h.take k++[s]:=by
 rw [List.take_add_one,e]; rfl
theorem Oz {h:List Stp} {k:Nat} {s:Stp} (e:h[k]? = some s):h.drop k=s::h.drop (k+1):=by
 obtain ⟨hk,rfl⟩:=rQ.mp e;exact uO hk
theorem Rk {h:List Stp} {k:Nat} {A:Alb} (H:Hst h) (hl:h.length<=100) (a:At h (k+1) A):∃ s A',h[k]? = some s/\m_back [] A=some (.str s.wd,A')/\At h k A':=by
 have hk:k < h.length:=a.le;have e:h[k]? = some h[k]:=sH hk;generalize h[k]=s at e;have so:=H k s e;have bk:=a.bk;rw [Dw e,Jv] at bk;have st:=a.st;rw [Dw e,sV] at st;obtain ⟨bk',p1,p2⟩:=Vy (A:={ bk:=A.bk,st:=(h.take k).map Stp.d,tk:=A.tk++[s.d] }) (v:=s.o) bk so.nm so.go (fun z=>by
   rw [nE]; rcases so.one with y | y
   . rw [z] at y; cases y
   . exact y)
 rw [bZ so.fo] at p2;have tl:A.tk.length < 1000:=by rw [a.tk]; simp; omega
 refine ⟨s,_,e,hX (pre:=(h.take k).map Stp.d) (w:=.str s.wd) (n:=.str s.n) (o:=Lx s.o) (v:=Lx s.v) st tl p1,p2,rfl,?_,by omega⟩;show A.tk++[s.d]=_;rw [a.tk,Oz e,AB,sV]; rfl
theorem Ua {h:List Stp} {k:Nat} {A:Alb} (H:Hst h) (hl:h.length<=100) (a:At h k A) (hk:k < h.length):∃ s A',h[k]? = some s/\m_forth [] A=some (.str s.wd,A')/\At h (k+1) A':=by
 have e:h[k]? = some h[k]:=sH hk;generalize h[k]=s at e;have so:=H k s e;have tk:=a.tk;rw [Oz e,AB,sV] at tk;obtain ⟨bk',p1,p2⟩:=Vy (A:={ bk:=A.bk,st:=A.st++[s.d],tk:=(h.drop (k+1)).reverse.map Stp.d }) (v:=s.v) a.bk so.nm so.gv (fun z=>by
   rw [so.fo]; rcases so.one with y | y
   . exact y
   . rw [z] at y; cases y)
 have sl:A.st.length < 1000:=by rw [a.st]; simp; omega
 refine ⟨s,_,e,bC (pre:=(h.drop (k+1)).reverse.map Stp.d) (w:=.str s.wd) (n:=.str s.n) (o:=Lx s.o) (v:=Lx s.v) tk sl p1,?_,?_,rfl,hk⟩
 . rw [Dw e,Jv]; exact p2
 . show A.st++[s.d]=_
   rw [a.st,Dw e,sV]; rfl
theorem Xl {h:List Stp} {k:Nat} {A:Alb} (H:Hst h) (hl:h.length<=100) (a:At h k A) {wd n:Str} {v:Option rG} (hn:n∈nms) (hv:∀ b,v=some b->GoodB b) (h1:(stt (h.take k) n).isSome=true\/v.isSome=true) (hw:wd = "keep" \/ wd = "forget") :
   ∃ s A',m_take_step [.str wd,.str n,Lx v] A=some (.none,A')/\Hst (h.take k++[s])/\At (h.take k++[s]) (k+1) A':=by
 have htl:(h.take k).length=k:=by rw [uD]; have:=a.le; omega
 have sok:SOk (stt (h.take k)) ⟨wd,n,stt (h.take k) n,v⟩:=⟨rfl,hn,fun b hb=>a.bk.gd n b hb,hv,h1,hw⟩;obtain ⟨bk',p1,p2⟩:=Vy (A:={ bk:=A.bk,st:=A.st++[.tuple [.str wd,.str n,(F6 A.bk (.str n)).getD .none,Lx v]],tk:=[] }) (v:=v) a.bk hn hv (fun z=>by
   rcases h1 with y | y
   . exact y
   . rw [z] at y; cases y)
 have sl:A.st.length < 1000:=by rw [a.st,rY,htl]; have:=a.le; omega
 have hall:(h.take k++[(⟨wd,n,stt (h.take k) n,v⟩:Stp)]).take (k+1)=h.take k++[(⟨wd,n,stt (h.take k) n,v⟩:Stp)]:=l0 (by rw [sA,htl]; exact sC _);refine ⟨⟨wd,n,stt (h.take k) n,v⟩,_,cG sl p1,fun i s e=>?_,?_,?_,?_,by rw [sA,htl]; exact sC _⟩
 . by_cases hi:i < k
   . rw [sI (by rw [htl]; exact hi),List.getElem?_take,if_pos hi] at e
     rw [zM (by rw [htl]; omega),List.take_take,l9 (by omega)];exact H i s e
   . rw [sK (by rw [htl]; omega),htl] at e
     have:i=k:=by
       cases z:i - k with
       | zero=>omega
       | succ m=>rw [z] at e; cases e
     subst this; rw [xE] at e; cases e; rw [zM (by rw [htl]; exact sC _),List.take_take,Nat.min_self];exact sok
 . rw [hall,Jv]; exact p2
 . show A.st++[_]=_
   rw [hall,sV,a.st,a.bk.get n]; rfl
 . rw [vW (by rw [sA,htl]; exact sC _)]; rfl
theorem pI {r:Int} (a:0<=r) (b:r < 3):∃ n∈nms,dIx (.list [.str "one",.str "two",.str "x"]) (.int r)=some (.str n):=by
 have:r=0\/r=1\/r=2:=by omega
 rcases this with rfl | rfl | rfl
 . exact ⟨"one",by decide +kernel,rfl⟩
 . exact ⟨"two",by decide +kernel,rfl⟩
 . exact ⟨"x",by decide +kernel,rfl⟩
theorem Ze {n:Str}:∀ (l:List Str),((l.map uT).any fun y=>rZ y (.str n))=true->n∈l
 | [],h=>nomatch h
 | a::l,h=>by
   rw [rV,BY,l7] at h; rcases h with h | h
   . rw [Ca (Q4.mp h)]; exact .head _
   . exact .tail _ (Ze l h)
theorem Yt (n:Str) (l:List Str):dIn false (.str n) (.list (l.map .str))=some (.bool ((l.map uT).any fun y=>rZ y (.str n))):=by
 unfold dIn;simp only;rw [if_pos (sJ (xO _ _) (by simp [uF]))];rfl
theorem Ry {ns:List Int} (hns:ns.length<=63) {h:List Stp} {k:Nat} {A:Alb} (H:Hst h) (hl:h.length<=100) (a:At h k A) (a0:Int):∃ s A',G6 [scr ns,.int a0] A=some (.none,A')/\Hst (h.take k++[s])/\At (h.take k++[s]) (k+1) A':=by
 obtain ⟨r,e1,r1,r2⟩:=I9 ns hns a0 3 (by decide);obtain ⟨n,hn,e2⟩:=pI r1 r2;obtain ⟨b,e3,gb⟩:=mC (a0+10) ns hns;obtain ⟨r',e4,_,_⟩:=I9 ns hns (a0+1) 3 (by decide);have f0:Y7 [.sh (scr ns),.sh (.int a0),.un,.un,.un] [A]=.nx [.sh (scr ns),.sh (.int a0),.un,.sh (.str n),.un] [A]:=by
   refine P8 (K0 ?_); show ((B0 [scr ns,.int a0,.int 3]).bind fun y=>ofO (dIx (.list [.str "one",.str "two",.str "x"]) y))=_;rw [e1]; show ofO (dIx _ _)=_;rw [e2]; rfl
 have f1:Y6 [.sh (scr ns),.sh (.int a0),.un,.sh (.str n),.un] [A]=.nx [.sh (scr ns),.sh (.int a0),.un,.sh (.str n),.sh b] [A]:=by
   refine P8 (K0 ?_); exact e3
 have tt:∀ x als',Fy (qB (q2 (qL (A7 3)) (C2 0 B3 (rdM M7)) (dIn false))) (qLT (D3 (b2 (C9 (A6 (A7 0) (A6 (b2 (A7 1) (vC (.int 1)) C5) (A6 (vC (.int 3)) B3))) B0) (vC (.int 0)) dEq))) [.sh (scr ns),.sh (.int a0),.un,.sh (.str n),.sh b] [A]=some (x,als')->als'=[A]/\(x=true->(stt (h.take k) n).isSome=true):=fun x als'=>by
   have g1:qB (q2 (qL (A7 3)) (C2 0 B3 (rdM M7)) (dIn false)) [.sh (scr ns),.sh (.int a0),.un,.sh (.str n),.sh b] [A]=some (((Qo (stt (h.take k))).map uT).any fun y=>rZ y (.str n),[A]) :=
     T7 (P2 (K0 rfl) (E9 (m:=M7) (ds:=[]) rfl rfl (Ma a.bk)) (Yt n _))
   cases hq:((Qo (stt (h.take k))).map uT).any fun y=>rZ y (.str n) with
   | false =>
     rw [hq] at g1; rw [Xx g1]; intro z; cases z; exact ⟨rfl,fun z=>nomatch z⟩
   | true =>
     rw [hq] at g1; rw [Xw g1]; unfold qLT; intro z;split at z
     . cases z; exact ⟨rfl,fun _=>(vX.mp (Ze _ hq)).2⟩
     . cases z
 have te:∃ x,Fy (qB (q2 (qL (A7 3)) (C2 0 B3 (rdM M7)) (dIn false))) (qLT (D3 (b2 (C9 (A6 (A7 0) (A6 (b2 (A7 1) (vC (.int 1)) C5) (A6 (vC (.int 3)) B3))) B0) (vC (.int 0)) dEq))) [.sh (scr ns),.sh (.int a0),.un,.sh (.str n),.sh b] [A]=some (x,[A]):=by
   have g1:qB (q2 (qL (A7 3)) (C2 0 B3 (rdM M7)) (dIn false)) [.sh (scr ns),.sh (.int a0),.un,.sh (.str n),.sh b] [A]=some (((Qo (stt (h.take k))).map uT).any fun y=>rZ y (.str n),[A]) :=
     T7 (P2 (K0 rfl) (E9 (m:=M7) (ds:=[]) rfl rfl (Ma a.bk)) (Yt n _))
   cases hq:((Qo (stt (h.take k))).map uT).any fun y=>rZ y (.str n) with
   | false=>rw [hq] at g1; exact ⟨false,Xx g1⟩
   | true =>
     rw [hq] at g1; rw [Xw g1]; refine ⟨decide (r'=0),Qk ?_⟩; show ((B0 [scr ns,.int (a0+1),.int 3]).bind fun x=>ofO (dEq x (.int 0))).bind _=_;rw [e4]; show (ofO (dEq (.int r') (.int 0))).bind _=_;have:dEq (.int r') (.int 0)=some (.bool (decide (r'=0))):=by
       unfold dEq; rw [if_pos (sJ (zX _ _) (by simp [uF]))];simp only [rZ];congr 2
     rw [this]; rfl
 obtain ⟨x,ex⟩:=te;have hx:=(tt x _ ex).2;cases x with
 | true =>
   obtain ⟨s,A',t1,t2,t3⟩:=Xl H hl a (wd := "forget") (v:=none) hn (fun _ z=>nomatch z) (.inl (hx rfl)) (.inr rfl);obtain ⟨bb,hbb⟩:=wF.mp (hx rfl); refine ⟨s,A',fS (δ:=[.sh (scr ns),.sh (.int a0),.un,.sh (.str n),.sh b]) ?_,t2,t3⟩; show V2 [.sh (scr ns),.sh (.int a0),.un,.un,.un] [A]=_;refine (C3 f0).trans ((C3 f1).trans ?_); refine (gIf_t ex).trans (L6 (D6 rfl rfl (Wt ((a.bk.get n).trans hbb) t1)))
 | false =>
   obtain ⟨s,A',t1,t2,t3⟩:=Xl H hl a (wd := "keep") (v:=some b) hn (fun c z=>by cases z; exact gb) (.inr rfl) (.inl rfl);obtain ⟨tx,htx⟩:=gb.tx; refine ⟨s,A',fS (δ:=[.sh (scr ns),.sh (.int a0),.un,.sh (.str n),.sh b]) ?_,t2,t3⟩; show V2 [.sh (scr ns),.sh (.int a0),.un,.un,.un] [A]=_;refine (C3 f0).trans ((C3 f1).trans ?_); refine (Dr ex).trans (L6 (D6 rfl rfl (fW t1 htx)))
theorem Sk {i:Nat} {body:FS} (I:Nat->Dn->List Alb->Prop):∀ (l:List rG) (t:Nat) (δ:Dn) (als:List Alb),I t δ als->(∀ (s:Nat) d δ als,l[s]? = some d->I (t+s) δ als->∃ δ' als',body (δ.set i (.sh d)) als=.nx δ' als'/\I (t+s+1) δ' als')->∃ δ' als',Vv i body l δ als=.nx δ' als'/\I (t+l.length) δ' als'
 | [],t,δ,als,h,_=>⟨δ,als,rfl,h⟩
 | d::l,t,δ,als,h,st=>by
   obtain ⟨δ1,als1,e1,h1⟩:=st 0 d δ als rfl h; obtain ⟨δ2,als2,e2,h2⟩:=Sk (body:=body) I l (t+1) δ1 als1 h1 fun s d' δ' als' hd hI=>by
     have:=st (s+1) d' δ' als' (by simpa using hd) (by rw [show t+(s+1)=t+1+s by omega]; exact hI);rw [show t+(s+1)+1=t+1+s+1 by omega] at this;exact this
   refine ⟨δ2,als2,?_,by rw [sD,show t+(l.length+1)=t+1+l.length by omega]; exact h2⟩;unfold Vv; rw [e1]; exact e2
theorem Ae {src:Dn->Res (List rG)} {i:Nat} {body:FS} (I:Nat->Dn->List Alb->Prop) {ds:List rG} {δ:Dn} {als:List Alb} (hs:src δ=.ok ds) (h0:I 0 δ als)
   (step:∀ (s:Nat) d δ als,ds[s]? = some d->I s δ als->∃ δ' als',body (δ.set i (.sh d)) als=.nx δ' als'/\I (s+1) δ' als'):∃ δ' als',Mf src i body δ als=.nx δ' als'/\I ds.length δ' als':=by
 obtain ⟨δ',als',e,h⟩:=Sk (body:=body) (i:=i) I ds 0 δ als h0 fun s d δ als hd hI=>by
   rw [Nat.zero_add] at hI ⊢;exact step s d δ als hd hI
 refine ⟨δ',als',?_,by rw [Nat.zero_add] at h; exact h⟩;unfold Mf;rw [hs];exact e
theorem jJ {i j:Int} (h0:0<=i) (h1:i < 1000) (h2:0<=j) (h3:j < 1000):Vw [.int i,.int j]=.ok (M4 i j):=by
 unfold Vw;simp only;rw [if_pos (by omega)]
theorem Br {i j:Int} {s:Nat} {d:rG} (h:(M4 i j)[s]? = some d):d=.int (i+(s:Nat))/\(s:Int) < j - i:=by
 unfold M4 at h;rw [sB] at h;by_cases hs:s < (j - i).toNat
 . rw [yQ hs] at h
   cases h; exact ⟨rfl,by omega⟩
 . rw [vJ (by simpa using hs)] at h; cases h
theorem Df (i j:Int):(M4 i j).length=(j - i).toNat:=by unfold M4; simp
theorem aD {lo:Int} {n s:Nat} {d:rG} (h:(Cq lo n)[s]? = some d):d=.int (lo+(s:Nat)*(-1))/\s < n:=by
 unfold Cq at h;rw [sB] at h;by_cases hs:s < n
 . rw [yQ hs] at h
   cases h; exact ⟨rfl,hs⟩
 . rw [vJ (by simpa using hs)] at h; cases h
theorem Ol (lo:Int) (n:Nat):(Cq lo n).length=n:=by unfold Cq; simp
noncomputable def J3 (h:List Stp) (k:Nat):rG:=.list (pG (stt (h.take k)))
noncomputable def C1 (h:List Stp) (j:Nat):List rG:=(vV (j+1)).map (J3 h)
noncomputable def N1 (a b:Nat):rG:=.tuple [.int (a:Int),.int (b:Int)]
noncomputable def W6 (h:List Stp) (t:Nat):List rG:=(h.reverse.take t).map fun s=>.str s.wd
theorem kY {xs:List rG} {k:Nat} {d:rG} (h:xs[k]? = some d):dIx (.list xs) (.int (k:Int))=some d:=L2.atI_nat (xs:=xs) (j:=k) h
theorem Fx {h:List Stp} {j k:Nat} (hk:k<=j):(C1 h j)[k]? = some (J3 h k):=by
 unfold C1;rw [sB,yQ (by omega)]; rfl
theorem Fw (h:List Stp) (j:Nat):(C1 h j).length=j+1:=by unfold C1; simp
theorem At.now {h:List Stp} {k:Nat} {A:Alb} (a:At h k A):I8 [] A=some (J3 h k):=pE a.bk
theorem At.fl {h:List Stp} {k:Nat} {A:Alb} (a:At h k A):Fl 7 (J3 h k):=pF a.bk
theorem At.cnt {h:List Stp} {k:Nat} {A:Alb} (a:At h k A):C7 [] A=some (N1 k (h.length - k)):=by
 unfold C7 N1;have:=a.le;rw [a.st,a.tk,rY,rY,yP,uD,yM,l9 this]
theorem Fh (a b:Nat):Fl 1 (N1 a b):=Fl.two (Qw _) (Qw _)
theorem bV {h:List Stp} {t:Nat} {s:Stp} (e:h[h.length - 1 - t]? = some s) (ht:t < h.length):W6 h (t+1)=W6 h t++[.str s.wd]:=by
 unfold W6;rw [List.take_add_one,n6 ht,e,sV]; rfl
theorem iH {h:List Stp} {t:Nat} {s:Stp} (e:h[t]? = some s):(W6 h h.length)[h.length - (t+1)]? = some (.str s.wd):=by
 have ht:t < h.length:=(rQ.mp e).1;unfold W6;rw [l0 (by simp),sB,n6 (by omega),show h.length - 1 - (h.length - (t+1))=t by omega,e]; rfl
theorem Xj (h:List Stp) (t:Nat):(W6 h t).length<=h.length:=by
 unfold W6;rw [rY,uD,yP]; omega
theorem qK {h:List Stp} {m:Nat} (H:Hst h) (hl:h.length=m) (hm:m<=50) {A:Alb} (a:At h m A):∃ δ' als',Z0 [.un,.sh (.list (C1 h m)),.sh (.int (m:Int)),.ow (.list []),.un] [A]=.nx δ' als' /\
   ∃ A' kk,At h 0 A'/\als'=[A']/\δ'=[.un,.sh (.list (C1 h m)),.sh (.int (m:Int)),.ow (.list (W6 h m)),kk]:=by
 have hs:(fun δ=>((A6 (b2 (A7 2) (vC (.int 1)) V0) (A6 (b1 (vC (.int 1)) Ir) (A6 (b1 (vC (.int 1)) Ir) B3))) δ).bind aC) [.un,.sh (.list (C1 h m)),.sh (.int (m:Int)),.ow (.list []),.un]=.ok (Cq ((m:Int) - 1) m):=by
   show aC [.int ((m:Int) - 1),.int (-1),.int (-1)]=_;show (if (-1<=(m:Int) - 1/\(m:Int) - 1 < 100000/\(-1:Int)<=-1/\(-1:Int) < 100000)/\(-1:Int)=-1 then Res.ok (Cq ((m:Int) - 1) ((m:Int) - 1 - -1).toNat) else .no)=_;rw [if_pos ⟨by omega,rfl⟩,show ((m:Int) - 1 - -1).toNat=m by omega]
 obtain ⟨δ',als',e,A',kk,r1,r2,r3⟩:=Ae (src:=fun δ=>((A6 (b2 (A7 2) (vC (.int 1)) V0) (A6 (b1 (vC (.int 1)) Ir) (A6 (b1 (vC (.int 1)) Ir) B3))) δ).bind aC) (ds:=Cq ((m:Int) - 1) m) (δ:=[.un,.sh (.list (C1 h m)),.sh (.int (m:Int)),.ow (.list []),.un]) (als:=[A]) (i:=4) (fun t δ als=>∃ A' kk,At h (m - t) A'/\als=[A']/\δ=[.un,.sh (.list (C1 h m)),.sh (.int (m:Int)),.ow (.list (W6 h t)),kk])
   (body:=(K2 (Nu 3 (C2 0 B3 m_back)) (gIf (qOr (qB (q2 (C2 0 B3 (rdM I8)) (qL (b2 (A7 1) (A7 4) dIx)) dNe)) (qB (q2 (C2 0 B3 (rdM C7)) (qL (E6 (A6 (A7 4) (A6 (b2 (A7 2) (A7 4) V0) B3)))) dNe))) (Aj (qL (vC (.bool false)))) W0))) hs ⟨A,_,a,rfl,rfl⟩ (by
     rintro t d δ als hd ⟨B,kk,b,rfl,rfl⟩;obtain ⟨hd',ht⟩:=aD hd; have ed:d=.int ((m - t - 1:Nat):Int):=by rw [hd']; congr 1; omega
     subst ed; rw [show m - t=(m - t - 1)+1 by omega] at b;obtain ⟨s,B',e1,b1,b'⟩:=Rk H (by omega) b;have ew:=bV (t:=t) (s:=s) (by rw [hl,show m - 1 - t=m - t - 1 by omega]; exact e1) (by omega);have g1:Nu 3 (C2 0 B3 m_back) [.un,.sh (.list (C1 h m)),.sh (.int (m:Int)),.ow (.list (W6 h t)),.sh (.int ((m - t - 1:Nat):Int))] [B]=.nx [.un,.sh (.list (C1 h m)),.sh (.int (m:Int)),.ow (.list (W6 h t++[.str s.wd])),.sh (.int ((m - t - 1:Nat):Int))] [B'] :=
       Tz rfl (D6 rfl rfl b1) (by have:=Xj h t; omega)
     rw [<- ew] at g1; refine ⟨_,_,(C3 g1).trans (Dr ?_),B',.sh (.int ((m - t - 1:Nat):Int)),by rw [show m - (t+1)=m - t - 1 by omega]; exact b',rfl,rfl⟩;refine (Op (T7 (P2 (E9 (m:=I8) (ds:=[]) rfl rfl b'.now) (K0 ?_) (b'.fl.ne (by decide))))).trans (T7 (P2 (E9 (m:=C7) (ds:=[]) rfl rfl b'.cnt) (K0 ?_) ((Fh _ _).ne (by decide))))
     . show ofO (dIx (.list (C1 h m)) (.int ((m - t - 1:Nat):Int)))=_
       rw [kY (Fx (by omega))]; rfl
     . refine (N5 (B5 rfl (B5 rfl rfl))).trans ?_
       unfold N1; rw [hl,show (m:Int) - ((m - t - 1:Nat):Int)=((m - (m - t - 1):Nat):Int) by omega])
 rw [Ol,xE] at r1;rw [Ol] at r3;exact ⟨δ',als',e,A',kk,r1,r2,r3⟩
theorem qJ {h:List Stp} {m:Nat} (H:Hst h) (hl:h.length=m) (hm:m<=50) {A:Alb} (a:At h 0 A) (kk:Sl):∃ δ' als',Y9 [.un,.sh (.list (C1 h m)),.sh (.int (m:Int)),.ow (.list (W6 h m)),kk] [A]=.nx δ' als' /\
   ∃ A' kk,At h m A'/\als'=[A']/\δ'=[.un,.sh (.list (C1 h m)),.sh (.int (m:Int)),.sh (.list (W6 h m)),kk]:=by
 have hs:(fun δ=>((A6 (vC (.int 1)) (A6 (b2 (A7 2) (vC (.int 1)) C5) B3)) δ).bind Vw) [.un,.sh (.list (C1 h m)),.sh (.int (m:Int)),.sh (.list (W6 h m)),kk]=.ok (M4 1 ((m:Int)+1)):=by
   have e0:(A6 (vC (.int 1)) (A6 (b2 (A7 2) (vC (.int 1)) C5) B3)) [.un,.sh (.list (C1 h m)),.sh (.int (m:Int)),.sh (.list (W6 h m)),kk]=.ok [.int 1,.int ((m:Int)+1)]:=B5 rfl (B5 (D2 (x:=.int (m:Int)) (y:=.int 1) rfl rfl Q0) rfl); simp only;rw [e0,E3]; exact jJ (by omega) (by omega) (by omega) (by omega)
 obtain ⟨δ',als',e,A',kk',r1,r2,r3⟩:=Ae (src:=fun δ=>((A6 (vC (.int 1)) (A6 (b2 (A7 2) (vC (.int 1)) C5) B3)) δ).bind Vw) (ds:=M4 1 ((m:Int)+1)) (δ:=[.un,.sh (.list (C1 h m)),.sh (.int (m:Int)),.sh (.list (W6 h m)),kk]) (als:=[A]) (i:=4) (fun t δ als=>∃ A' kk,At h t A'/\als=[A']/\δ=[.un,.sh (.list (C1 h m)),.sh (.int (m:Int)),.sh (.list (W6 h m)),kk])
   (body:=(K2 (gIf (qOr (qB (q2 (C2 0 B3 m_forth) (qL (b2 (A7 3) (b2 (A7 2) (A7 4) V0) dIx)) dNe)) (qB (q2 (C2 0 B3 (rdM I8)) (qL (b2 (A7 1) (A7 4) dIx)) dNe))) (Aj (qL (vC (.bool false)))) W0) (gIf (qB (q2 (C2 0 B3 (rdM C7)) (qL (E6 (A6 (A7 4) (A6 (b2 (A7 2) (A7 4) V0) B3)))) dNe)) (Aj (qL (vC (.bool false)))) W0))) hs ⟨A,_,a,rfl,rfl⟩ (by
     rintro t d δ als hd ⟨B,kk,b,rfl,rfl⟩;obtain ⟨hd',ht⟩:=Br hd; have ed:d=.int ((t+1:Nat):Int):=by rw [hd',show (1:Int)+(t:Nat)=((t+1:Nat):Int) by omega]
     subst ed; obtain ⟨s,B',e1,b1,b'⟩:=Ua H (by omega) b (by omega);refine ⟨[.un,.sh (.list (C1 h m)),.sh (.int (m:Int)),.sh (.list (W6 h m)),.sh (.int ((t+1:Nat):Int))],[B'],(C3 (δ':=[.un,.sh (.list (C1 h m)),.sh (.int (m:Int)),.sh (.list (W6 h m)),.sh (.int ((t+1:Nat):Int))]) (als':=[B']) (Dr ?_)).trans (Dr ?_),B',_,b',rfl,rfl⟩
     . refine (Op (T7 (P2 (D6 rfl rfl b1) (K0 ?_) ((T9 (n:=0) _).ne (by decide))))).trans (T7 (P2 (E9 (m:=I8) (ds:=[]) rfl rfl b'.now) (K0 ?_) (b'.fl.ne (by decide))))
       . show ofO (dIx (.list (W6 h m)) (.int ((m:Int) - ((t+1:Nat):Int))))=_
         rw [show (m:Int) - ((t+1:Nat):Int)=((m - (t+1):Nat):Int) by omega];have:=iH e1; rw [hl] at this; rw [kY this]; rfl
       . show ofO (dIx (.list (C1 h m)) (.int ((t+1:Nat):Int)))=_
         rw [kY (Fx (by omega))]; rfl
     . refine T7 (P2 (E9 (m:=C7) (ds:=[]) rfl rfl b'.cnt) (K0 ?_) ((Fh _ _).ne (by decide)))
       refine (N5 (B5 rfl (B5 rfl rfl))).trans ?_; unfold N1; rw [hl,show (m:Int) - ((t+1:Nat):Int)=((m - (t+1):Nat):Int) by omega])
 rw [Df,show ((m:Int)+1 - 1).toNat=m by omega] at r1;exact ⟨δ',als',e,A',kk',r1,r2,r3⟩
theorem Pd {δc:Dn} {tt:Dn->Res Bool} {el:Dn->Res rG}:∀ (ds:List rG),(∀ d∈ds,tt ([.sh d]++δc)=.ok false)->D7 L3 δc tt el ds=.ok []
 | [],_=>rfl
 | d::ds,h=>by
   unfold D7; simp only [L3]; rw [h d (.head _)]; exact Pd ds fun x hx=>h x (.tail _ hx)
theorem qI {h:List Stp} {m:Nat} (H:Hst h) (hl:h.length=m) (hm:m<=50) {A:Alb} (kk:Sl):Y8 [.un,.sh (.list (C1 h m)),.sh (.int (m:Int)),.sh (.list (W6 h m)),kk] [A]=.rt (.bool true) [A]:=by
 have ht:∀ d∈W6 h m,(D3 (b2 (A7 0) (E6 (A6 (vC (.str "keep")) (A6 (vC (.str "forget")) B3))) (dIn true))) ([.sh d]++[])=.ok false:=fun d hd=>by
   unfold W6 at hd; obtain ⟨s,hs,rfl⟩:=tE.mp hd; obtain ⟨i,hi⟩:=List.getElem?_of_mem (List.mem_reverse.mp (DC hs)); rcases (H i s hi).wd with z | z
   . rw [z]; rfl
   . rw [z]; rfl
 refine Ac (K0 ?_);have e1:(N8 (N0 (fun δ=>((A7 3) δ).bind L4) L3 [] (D3 (b2 (A7 0) (E6 (A6 (vC (.str "keep")) (A6 (vC (.str "forget")) B3))) (dIn true))) (A7 0))) [.un,.sh (.list (C1 h m)),.sh (.int (m:Int)),.sh (.list (W6 h m)),kk]=.ok (.list []) :=
   Dv (V8 (Ak rfl rfl) (by have:=Xj h m; omega) rfl (Pd _ ht))
 show (N8 _ _).bind _=_;rw [e1]; rfl
theorem lC {h:List Stp} {m:Nat} (H:Hst h) (hl:h.length=m) (hm:m<=50) {A:Alb} (a:At h m A):∃ A',V6 [.list (C1 h m)] A=some (.bool true,A')/\At h m A':=by
 obtain ⟨δ1,als1,e1,A1,k1,a1,rfl,rfl⟩:=qK H hl hm a;obtain ⟨δ2,als2,e2,A2,k2,a2,rfl,rfl⟩:=qJ H hl hm a1 k1;refine ⟨A2,Ot ?_,a2⟩;show Ba [.un,.sh (.list (C1 h m)),.un,.un,.un] [A]=_;have f0:Z1 [.un,.sh (.list (C1 h m)),.un,.un,.un] [A]=.nx [.un,.sh (.list (C1 h m)),.sh (.int (m:Int)),.un,.un] [A]:=by
   refine P8 (K0 ?_); show ofO (V0 (.int ((C1 h m).length:Int)) (.int 1))=_;rw [Fw]; show Res.ok (wA (((m+1:Nat):Int) - 1))=_;rw [show ((m+1:Nat):Int) - 1=(m:Int) by omega]
 refine (C3 f0).trans ?_;refine (C3 (δ':=[.un,.sh (.list (C1 h m)),.sh (.int (m:Int)),.ow (.list []),.un]) (als':=[A]) rfl).trans ?_;exact (C3 e1).trans ((C3 e2).trans (qI H hl hm k2))
theorem fO {b:Int}:P3 (.int 280) (.int b)=some (.int (280*b)):=Tk (.inl ⟨by decide,by decide⟩)
theorem gG {ns:List Int} (hns:ns.length<=63) {h:List Stp} {k:Nat} {A:Alb} (H:Hst h) (hl:h.length<=50) (a:At h k A) :
   ∃ h' A',M6 [scr ns] A=some (.tuple [J3 h' (k+2),N1 (k+2) 0],A')/\Hst h'/\h'.length=k+2/\At h' (k+2) A':=by
 have hk:=a.le;obtain ⟨δ',als',e,h',A',kk,H',a',hlen,hl',r2,r3⟩:=Ae (src:=fun δ=>((A6 (vC (.int 2)) B3) δ).bind Ai) (ds:=M4 0 2) (δ:=[.sh (scr ns),.un,.un]) (als:=[A]) (i:=2)
   (fun t δ als=>∃ h' A' kk,Hst h'/\At h' (k+t) A'/\(t=0\/h'.length=k+t)/\h'.length<=50+t/\als=[A']/\δ=[.sh (scr ns),.un,kk])
   (body:=(T8 (C2 0 (A6 (A7 0) (A6 (b2 (vC (.int 2000)) (b2 (vC (.int 280)) (A7 2) P3) C5) B3)) G6))) (Cb (n:=2) rfl (by decide) (by decide)) ⟨h,A,_,H,a,.inl rfl,by omega,rfl,rfl⟩ (by
     rintro t d δ als hd ⟨h1,B,kk,H1,b,_,hl1,rfl,rfl⟩;obtain ⟨hd',ht⟩:=Br hd; subst hd'; obtain ⟨s,B',e1,H2,b'⟩:=Ry hns H1 (by omega) b (2000+280*(0+(t:Nat)));have hb:=b.le; have len:(h1.take (k+t)++[s]).length=k+(t+1):=by rw [sA,uD,l9 hb]; rfl
     refine ⟨_,_,L6 (D6 rfl (B5 (d:=scr ns) rfl (B5 (D2 (x:=.int 2000) (y:=.int (280*(0+(t:Nat)))) rfl (D2 (x:=.int 280) (y:=.int (0+(t:Nat))) rfl rfl fO) Q0) rfl)) e1),_,B',_,H2,b',.inr len,by rw [len]; omega,rfl,rfl⟩)
 have l2:(M4 0 2).length=2:=rfl;rw [l2] at a' hlen;have hlen':h'.length=k+2:=by
   rcases hlen with z | z
   . cases z
   . exact z
 subst r2 r3;refine ⟨h',A',Ot ?_,H',hlen',a'⟩;show Z7 [.sh (scr ns),.un,.un] [A]=_;refine (C3 e).trans (Ac (Dx (E9 (m:=I8) (ds:=[]) rfl rfl a'.now) (E9 (m:=C7) (ds:=[]) rfl rfl ?_)));have:=a'.cnt;rw [hlen',xE] at this;exact this
abbrev DL (ns:List Int) (rows k many back turn here there:Sl):Dn:=[.sh (scr ns),.un,rows,k,many,back,turn,here,.un,.un,there]
theorem hZ:At [] 0 Ja:=⟨rA,rfl,rfl,sC _⟩
theorem lB:Hst []:=fun i s e=>by cases e
theorem jI {h:List Stp} {s:Stp} {k:Nat} (hk:k<=h.length):J3 (h++[s]) k=J3 h k:=by
 unfold J3;rw [zM hk]
theorem aB {h:List Stp} {s:Stp}:C1 (h++[s]) (h.length+1)=C1 h h.length++[J3 (h++[s]) (h.length+1)]:=by
 unfold C1;rw [List.range_succ (n:=h.length+1),sV];congr 1;refine List.map_congr_left fun k hk=>jI ?_;have:=xN.mp hk;omega
theorem law_2 {ns:List Int} (hns:ns.length<=63):∃ (m:Nat) (h:List Stp) (A:Alb) (kk:Sl),2<=m/\m<=6/\Hst h/\h.length=m/\At h m A/\Lc (DL ns (.ow (.list [J3 [] 0])) .un .un .un .un .un .un) [Ja]=.nx (DL ns (.ow (.list (C1 h m))) kk .un .un .un .un .un) [A]:=by
 obtain ⟨r,e1,r1,r2⟩:=I9 ns hns 0 5 (by decide);obtain ⟨m,hm⟩:∃ m:Nat,2+r=(m:Int):=⟨(2+r).toNat,by omega⟩;have hs:(fun δ=>((A6 (b2 (vC (.int 2)) (C9 (A6 (A7 0) (A6 (vC (.int 0)) (A6 (vC (.int 5)) B3))) B0) C5) B3) δ).bind Ai) (DL ns (.ow (.list [J3 [] 0])) .un .un .un .un .un .un)=.ok (M4 0 (m:Int)):=by
   refine Cb (B5 (D2 (x:=.int 2) (y:=.int r) rfl e1 (by rw [Q0,hm])) rfl) (by omega) (by omega)
 obtain ⟨δ',als',e,h,A,kk,H,hl,a,q2,q3⟩:=Ae (src:=fun δ=>((A6 (b2 (vC (.int 2)) (C9 (A6 (A7 0) (A6 (vC (.int 0)) (A6 (vC (.int 5)) B3))) B0) C5) B3) δ).bind Ai) (ds:=M4 0 (m:Int)) (δ:=DL ns (.ow (.list [J3 [] 0])) .un .un .un .un .un .un) (als:=[Ja]) (i:=3)
   (fun t δ als=>∃ h A kk,Hst h/\h.length=t/\At h t A/\als=[A]/\δ=DL ns (.ow (.list (C1 h t))) kk .un .un .un .un .un)
   (body:=(K2 (T8 (C2 0 (A6 (A7 0) (A6 (b2 (vC (.int 10)) (b2 (vC (.int 280)) (A7 3) P3) C5) B3)) G6)) (Nu 2 (C2 0 B3 (rdM I8))))) hs ⟨[],Ja,.un,lB,rfl,hZ,rfl,rfl⟩ (by
     rintro t d δ als hd ⟨h1,B,kk,H1,hl1,b,rfl,rfl⟩;obtain ⟨hd',ht⟩:=Br hd; subst hd'; obtain ⟨s,B',e1,H2,b'⟩:=Ry hns H1 (by omega) b (10+280*(0+(t:Nat)));rw [l0 (by omega)] at H2 b'; have g1:T8 (C2 0 (A6 (A7 0) (A6 (b2 (vC (.int 10)) (b2 (vC (.int 280)) (A7 3) P3) C5) B3)) G6) (DL ns (.ow (.list (C1 h1 t))) (.sh (.int (0+(t:Nat)))) .un .un .un .un .un) [B]=.nx (DL ns (.ow (.list (C1 h1 t))) (.sh (.int (0+(t:Nat)))) .un .un .un .un .un) [B'] :=
       L6 (D6 rfl (B5 (d:=scr ns) rfl (B5 (D2 (x:=.int 10) (y:=.int (280*(0+(t:Nat)))) rfl (D2 (x:=.int 280) (y:=.int (0+(t:Nat))) rfl rfl fO) Q0) rfl)) e1)
     have g2:Nu 2 (C2 0 B3 (rdM I8)) (DL ns (.ow (.list (C1 h1 t))) (.sh (.int (0+(t:Nat)))) .un .un .un .un .un) [B']=.nx (DL ns (.ow (.list (C1 h1 t++[J3 (h1++[s]) (t+1)]))) (.sh (.int (0+(t:Nat)))) .un .un .un .un .un) [B'] :=
       Tz rfl (E9 (m:=I8) (ds:=[]) rfl rfl b'.now) (by rw [Fw]; omega)
     have er:C1 (h1++[s]) (t+1)=C1 h1 t++[J3 (h1++[s]) (t+1)]:=by
       have:=aB (h:=h1) (s:=s); rw [hl1] at this; exact this
     rw [<- er] at g2; exact ⟨_,_,(C3 g1).trans g2,h1++[s],B',_,H2,by rw [sA,hl1]; rfl,b',rfl,rfl⟩)
 have l2:(M4 0 (m:Int)).length=m:=by rw [Df]; omega
 rw [l2] at hl a q3;subst q2 q3;exact ⟨m,h,A,kk,by omega,by omega,H,hl,a,e⟩
theorem law_6 {ns:List Int} {h:List Stp} {m n:Nat} (H:Hst h) (hl:h.length=m) (hm:m<=50) (hn:n<=m) {A:Alb} (a:At h m A) (rows k3 many turn:Sl) :
   ∃ A' kk,At h (m - n) A'/\Ky (DL ns rows k3 many (.sh (.int (n:Int))) turn .un .un) [A]=.nx (DL ns rows k3 many (.sh (.int (n:Int))) kk .un .un) [A']:=by
 obtain ⟨δ',als',e,A',kk,a',q2,q3⟩:=Ae (src:=fun δ=>((A6 (A7 5) B3) δ).bind Ai) (ds:=M4 0 (n:Int)) (δ:=DL ns rows k3 many (.sh (.int (n:Int))) turn .un .un) (als:=[A]) (i:=6)
   (fun t δ als=>∃ A kk,At h (m - t) A/\als=[A]/\δ=DL ns rows k3 many (.sh (.int (n:Int))) kk .un .un)
   (body:=T8 (C2 0 B3 m_back)) (Cb (n:=(n:Int)) rfl (by omega) (by omega)) ⟨A,turn,a,rfl,rfl⟩ (by
     rintro t d δ als hd ⟨B,kk,b,rfl,rfl⟩;obtain ⟨hd',ht⟩:=Br hd; subst hd'; rw [show m - t=(m - t - 1)+1 by omega] at b;obtain ⟨s,B',e1,b1,b'⟩:=Rk H (by omega) b;exact ⟨_,_,L6 (D6 rfl rfl b1),B',_,by rw [show m - (t+1)=m - t - 1 by omega]; exact b',rfl,rfl⟩)
 have l2:(M4 0 (n:Int)).length=n:=by rw [Df]; omega
 rw [l2] at a';subst q2 q3;exact ⟨A',kk,a',e⟩
theorem pU {ns:List Int} {h:List Stp} {m n:Nat} (H:Hst h) (hl:h.length=m) (hm:m<=50) (hn:n<=m) {A B:Alb} (a:At h (m - n) A) (rows k3 many turn here there:Sl) :
   ∃ A' kk,At h m A'/\Gx (DL ns rows k3 many (.sh (.int (n:Int))) turn here there) [B,B,A]=.nx (DL ns rows k3 many (.sh (.int (n:Int))) kk here there) [B,B,A']:=by
 obtain ⟨δ',als',e,A',kk,a',q2,q3⟩:=Ae (src:=fun δ=>((A6 (A7 5) B3) δ).bind Ai) (ds:=M4 0 (n:Int)) (δ:=DL ns rows k3 many (.sh (.int (n:Int))) turn here there) (als:=[B,B,A]) (i:=6)
   (fun t δ als=>∃ A kk,At h (m - n+t) A/\als=[B,B,A]/\δ=DL ns rows k3 many (.sh (.int (n:Int))) kk here there)
   (body:=T8 (C2 2 B3 m_forth)) (Cb (n:=(n:Int)) rfl (by omega) (by omega)) ⟨A,turn,a,rfl,rfl⟩ (by
     rintro t d δ als hd ⟨C,kk,b,rfl,rfl⟩;obtain ⟨hd',ht⟩:=Br hd; subst hd'; obtain ⟨s,B',e1,b1,b'⟩:=Ua H (by omega) b (by omega);exact ⟨_,_,L6 (D6 rfl rfl b1),B',_,b',rfl,rfl⟩)
 have l2:(M4 0 (n:Int)).length=n:=by rw [Df]; omega
 rw [l2,show m - n+n=m by omega] at a';subst q2 q3;exact ⟨A',kk,a',e⟩
theorem pT {ns:List Int} {h:List Stp} {m n p:Nat} (H:Hst h) (hp:(m:Int) - (n:Int)+2=(p:Int)) (hl:h.length=p) (hm:p<=50) {A B:Alb} (b:At h p B) (rows k3 turn here there:Sl) :
   ∃ B' kk,At h 0 B'/\Gw (DL ns rows k3 (.sh (.int (m:Int))) (.sh (.int (n:Int))) turn here there) [B,B,A]=.nx (DL ns rows k3 (.sh (.int (m:Int))) (.sh (.int (n:Int))) kk here there) [B',B',A]:=by
 obtain ⟨δ',als',e,B',kk,b',q2,q3⟩:=Ae (src:=fun δ=>((A6 (b2 (b2 (A7 4) (A7 5) V0) (vC (.int 2)) C5) B3) δ).bind Ai) (ds:=M4 0 (p:Int)) (δ:=DL ns rows k3 (.sh (.int (m:Int))) (.sh (.int (n:Int))) turn here there) (als:=[B,B,A]) (i:=6)
   (fun t δ als=>∃ B kk,At h (p - t) B/\als=[B,B,A]/\δ=DL ns rows k3 (.sh (.int (m:Int))) (.sh (.int (n:Int))) kk here there)
   (body:=(gIf (qOr (qB (q2 (C2 1 B3 m_back) (C2 0 B3 m_back) dNe)) (qB (q2 (C2 1 B3 (rdM I8)) (C2 0 B3 (rdM I8)) dNe))) (Aj (qL (vC (.bool false)))) W0))
   (Cb (n:=(p:Int)) (B5 (D2 (x:=.int ((m:Int) - (n:Int))) (y:=.int 2) rfl rfl (by rw [Q0,hp])) rfl) (by omega) (by omega)) ⟨B,turn,b,rfl,rfl⟩ (by
     rintro t d δ als hd ⟨C,kk,c,rfl,rfl⟩;obtain ⟨hd',ht⟩:=Br hd; subst hd'; rw [show p - t=(p - t - 1)+1 by omega] at c;obtain ⟨s,C',e1,c1,c'⟩:=Rk H (by omega) c;refine ⟨DL ns rows k3 (.sh (.int (m:Int))) (.sh (.int (n:Int))) (.sh (.int (0+(t:Nat)))) here there,[C',C',A],Dr ?_,C',_,by rw [show p - (t+1)=p - t - 1 by omega]; exact c',rfl,rfl⟩;refine (Op (T7 (P2 (D6 (A:=C) (A':=C') rfl rfl c1) (D6 (A:=C) (A':=C') rfl rfl c1) ((T9 (n:=0) _).ne (by decide))))).trans (T7 (P2 (E9 (m:=I8) (ds:=[]) (A:=C') rfl rfl c'.now) (E9 (m:=I8) (ds:=[]) (A:=C') rfl rfl c'.now) (c'.fl.ne (by decide)))))
 have l2:(M4 0 (p:Int)).length=p:=by rw [Df]; omega
 rw [l2,xE] at b';subst q2 q3;exact ⟨B',kk,b',e⟩
theorem qF {h:List Stp} {m:Nat}:dIx (.list (C1 h m)) (.int (-1))=some (J3 h m):=by
 show (ixN (C1 h m).length (-1)).bind _=_;rw [Fw];unfold ixN;rw [if_neg (by omega),if_pos (by omega),show (-1+((m+1:Nat):Int)).toNat=m by omega];exact Fx (sC _)
theorem row0 (h:List Stp):J3 h 0=.list []:=by
 unfold J3;rw [List.take_zero];rfl
theorem iK {A:Alb} {h:List Stp} {k:Nat} (a:At h k A):(Q2 (A.bk.map (·.1))).isSome=true/\A.bk.length<=8:=by
 obtain ⟨ss,s1,_⟩:=a.bk.sort;have:=a.bk.len;exact ⟨by rw [s1]; rfl,by omega⟩
theorem hC (x:rG) (y:rG):dIx (.tuple [x,y]) (.int 1)=some y:=rfl
theorem eM:∀ ns:List Int,ns.length<=63->Yl [.list (ns.map wA)]=.ok (.bool true):=by
 intro ns hns;obtain ⟨m,h,A,k3,m2,m6,H,hl,a,e2⟩:=law_2 hns;obtain ⟨A1,g1,a1⟩:=lC H hl (by omega) a;obtain ⟨r,er,r1,r2⟩:=I9 ns hns 1 (m:Int) (by omega);obtain ⟨n,hn⟩:∃ n:Nat,1+r=(n:Int):=⟨(1+r).toNat,by omega⟩;obtain ⟨A2,k6,a2,e6⟩:=law_6 (ns:=ns) H hl (by omega) (n:=n) (by omega) a1 (.sh (.list (C1 h m))) k3 (.sh (.int (m:Int))) .un;have c2:=a2.cnt;rw [hl,show m - (m - n)=n by omega] at c2;obtain ⟨h',A3,g3,H3,hl3,a3⟩:=gG hns H (by omega) a2;have hfl:Fl 8 (.tuple [J3 h (m - n),N1 (m - n) n]):=Fl.two a2.fl ((Fh _ _).mono (by decide));have tfl:Fl 8 (.tuple [J3 h' (m - n+2),N1 (m - n+2) 0]):=Fl.two a3.fl ((Fh _ _).mono (by decide))
 obtain ⟨A4,k7,a4,e14⟩:=pU (ns:=ns) (B:=A3) H hl (by omega) (n:=n) (by omega) a2 (.sh (.list (C1 h m))) k3 (.sh (.int (m:Int))) k6 (.sh (.tuple [J3 h (m - n),N1 (m - n) n])) (.sh (.tuple [J3 h' (m - n+2),N1 (m - n+2) 0]));obtain ⟨A5,k8,a5,e15⟩:=pT (ns:=ns) (A:=A4) H3 (m:=m) (n:=n) (p:=m - n+2) (by omega) hl3 (by omega) a3 (.sh (.list (C1 h m))) k3 k7 (.sh (.tuple [J3 h (m - n),N1 (m - n) n])) (.sh (.tuple [J3 h' (m - n+2),N1 (m - n+2) 0]));have tw:=iK a2;have f3:Lb (DL ns (.ow (.list (C1 h m))) k3 .un .un .un .un .un) [A]=.nx (DL ns (.sh (.list (C1 h m))) k3 (.sh (.int (m:Int))) .un .un .un .un) [A]:=by
   show Gi 4 (qL (b2 (vFn (A6 (A7 2) B3) W8) (vC (.int 1)) V0)) (DL ns (.sh (.list (C1 h m))) k3 .un .un .un .un .un) [A]=_;refine P8 (K0 ?_); show ofO (V0 (.int ((C1 h m).length:Int)) (.int 1))=_;rw [Fw]; show Res.ok (wA (((m+1:Nat):Int) - 1))=_;rw [show ((m+1:Nat):Int) - 1=(m:Int) by omega]
 have c0:=a.cnt;rw [hl,xE] at c0;have f4:La (DL ns (.sh (.list (C1 h m))) k3 (.sh (.int (m:Int))) .un .un .un .un) [A]=.nx (DL ns (.sh (.list (C1 h m))) k3 (.sh (.int (m:Int))) .un .un .un .un) [A1]:=by
   refine Dr ((Op (T7 (P2 (E9 (m:=C7) (ds:=[]) rfl rfl c0) (K0 (N5 (B5 rfl (B5 rfl rfl)))) ((Fh m 0).ne (by decide))))).trans (eG (b:=true) (T7 (D6 rfl rfl g1))))
 have f5:Kz (DL ns (.sh (.list (C1 h m))) k3 (.sh (.int (m:Int))) .un .un .un .un) [A1]=.nx (DL ns (.sh (.list (C1 h m))) k3 (.sh (.int (m:Int))) (.sh (.int (n:Int))) .un .un .un) [A1]:=by
   refine P8 (K0 (D2 (x:=.int 1) (y:=.int r) rfl er (by rw [Q0,hn])))
 have f7:Kx (DL ns (.sh (.list (C1 h m))) k3 (.sh (.int (m:Int))) (.sh (.int (n:Int))) k6 .un .un) [A2]=.nx (DL ns (.sh (.list (C1 h m))) k3 (.sh (.int (m:Int))) (.sh (.int (n:Int))) k6 (.sh (.tuple [J3 h (m - n),N1 (m - n) n])) .un) [A2] :=
   P8 (Dx (E9 (m:=I8) (ds:=[]) rfl rfl a2.now) (E9 (m:=C7) (ds:=[]) rfl rfl c2))
 have f8:Kw (DL ns (.sh (.list (C1 h m))) k3 (.sh (.int (m:Int))) (.sh (.int (n:Int))) k6 (.sh (.tuple [J3 h (m - n),N1 (m - n) n])) .un) [A2]=.nx (DL ns (.sh (.list (C1 h m))) k3 (.sh (.int (m:Int))) (.sh (.int (n:Int))) k6 (.sh (.tuple [J3 h (m - n),N1 (m - n) n])) .un) [A2,A2]:=if_pos ⟨rfl,tw.1,tw.2⟩;have f9:Kv (DL ns (.sh (.list (C1 h m))) k3 (.sh (.int (m:Int))) (.sh (.int (n:Int))) k6 (.sh (.tuple [J3 h (m - n),N1 (m - n) n])) .un) [A2,A2]=.nx (DL ns (.sh (.list (C1 h m))) k3 (.sh (.int (m:Int))) (.sh (.int (n:Int))) k6 (.sh (.tuple [J3 h (m - n),N1 (m - n) n])) .un) [A2,A2,A2]:=if_pos ⟨rfl,tw.1,tw.2⟩
 have dmn:(m:Int) - (n:Int)=((m - n:Nat):Int):=by omega
 have f10:Hd (DL ns (.sh (.list (C1 h m))) k3 (.sh (.int (m:Int))) (.sh (.int (n:Int))) k6 (.sh (.tuple [J3 h (m - n),N1 (m - n) n])) .un) [A2,A2,A2]=.nx (DL ns (.sh (.list (C1 h m))) k3 (.sh (.int (m:Int))) (.sh (.int (n:Int))) k6 (.sh (.tuple [J3 h (m - n),N1 (m - n) n])) .un) [A2,A2,A2]:=by
   refine Dr (Qk ?_); have e0:(b2 (A7 7) (E6 (A6 (b2 (A7 2) (b2 (A7 4) (A7 5) V0) dIx) (A6 (E6 (A6 (b2 (A7 4) (A7 5) V0) (A6 (A7 5) B3))) B3))) dNe) (DL ns (.sh (.list (C1 h m))) k3 (.sh (.int (m:Int))) (.sh (.int (n:Int))) k6 (.sh (.tuple [J3 h (m - n),N1 (m - n) n])) .un)=.ok (.bool false):=by
     have s1:(b2 (A7 4) (A7 5) V0) (DL ns (.sh (.list (C1 h m))) k3 (.sh (.int (m:Int))) (.sh (.int (n:Int))) k6 (.sh (.tuple [J3 h (m - n),N1 (m - n) n])) .un)=.ok (.int ((m - n:Nat):Int)):=D2 (x:=.int (m:Int)) (y:=.int (n:Int)) rfl rfl (by rw [<- dmn]; rfl);refine D2 rfl (N5 (B5 (D2 rfl s1 (kY (Fx (by omega)))) (B5 (N5 (B5 s1 (B5 rfl rfl))) rfl))) ?_;exact hfl.ne (by decide)
   show (b2 _ _ _ _).bind _=_;rw [e0]; rfl
 have f11:Hb (DL ns (.sh (.list (C1 h m))) k3 (.sh (.int (m:Int))) (.sh (.int (n:Int))) k6 (.sh (.tuple [J3 h (m - n),N1 (m - n) n])) .un) [A2,A2,A2]=.nx (DL ns (.sh (.list (C1 h m))) k3 (.sh (.int (m:Int))) (.sh (.int (n:Int))) k6 (.sh (.tuple [J3 h (m - n),N1 (m - n) n])) (.sh (.tuple [J3 h' (m - n+2),N1 (m - n+2) 0]))) [A3,A2,A2] :=
   P8 (D6 rfl rfl g3)
 have f12:Ha (DL ns (.sh (.list (C1 h m))) k3 (.sh (.int (m:Int))) (.sh (.int (n:Int))) k6 (.sh (.tuple [J3 h (m - n),N1 (m - n) n])) (.sh (.tuple [J3 h' (m - n+2),N1 (m - n+2) 0]))) [A3,A2,A2]=.nx (DL ns (.sh (.list (C1 h m))) k3 (.sh (.int (m:Int))) (.sh (.int (n:Int))) k6 (.sh (.tuple [J3 h (m - n),N1 (m - n) n])) (.sh (.tuple [J3 h' (m - n+2),N1 (m - n+2) 0]))) [A3,A2,A2]:=by
   have e0:(b2 (b2 (A7 10) (vC (.int 1)) dIx) (E6 (A6 (b2 (b2 (A7 4) (A7 5) V0) (vC (.int 2)) C5) (A6 (vC (.int 0)) B3))) dNe) (DL ns (.sh (.list (C1 h m))) k3 (.sh (.int (m:Int))) (.sh (.int (n:Int))) k6 (.sh (.tuple [J3 h (m - n),N1 (m - n) n])) (.sh (.tuple [J3 h' (m - n+2),N1 (m - n+2) 0])))=.ok (.bool false):=by
     have s1:(b2 (b2 (A7 4) (A7 5) V0) (vC (.int 2)) C5) (DL ns (.sh (.list (C1 h m))) k3 (.sh (.int (m:Int))) (.sh (.int (n:Int))) k6 (.sh (.tuple [J3 h (m - n),N1 (m - n) n])) (.sh (.tuple [J3 h' (m - n+2),N1 (m - n+2) 0])))=.ok (.int ((m - n+2:Nat):Int)):=D2 (x:=.int ((m:Int) - (n:Int))) (y:=.int 2) rfl rfl (by rw [Q0,show (m:Int) - (n:Int)+2=((m - n+2:Nat):Int) by omega]);refine D2 (D2 rfl rfl (hC _ _)) (N5 (B5 s1 (B5 rfl rfl))) ?_; exact (Fh (m - n+2) 0).ne (by decide)
   refine Dr ((Op (Qk ?_)).trans (T7 (P2 (Dx (E9 (m:=I8) (ds:=[]) (A:=A2) rfl rfl a2.now) (E9 (m:=C7) (ds:=[]) (A:=A2) rfl rfl c2)) (K0 rfl) (hfl.ne (by decide)))));show (b2 _ _ _ _).bind _=_;rw [e0]; rfl
 have f13:Gy (DL ns (.sh (.list (C1 h m))) k3 (.sh (.int (m:Int))) (.sh (.int (n:Int))) k6 (.sh (.tuple [J3 h (m - n),N1 (m - n) n])) (.sh (.tuple [J3 h' (m - n+2),N1 (m - n+2) 0]))) [A3,A2,A2]=.nx (DL ns (.sh (.list (C1 h m))) k3 (.sh (.int (m:Int))) (.sh (.int (n:Int))) k6 (.sh (.tuple [J3 h (m - n),N1 (m - n) n])) (.sh (.tuple [J3 h' (m - n+2),N1 (m - n+2) 0]))) [A3,A3,A2] :=
   Dr ((Op (T7 (P2 (D6 (A:=A2) (A':=A3) rfl rfl g3) (K0 rfl) (tfl.ne (by decide))))).trans (T7 (P2 (Dx (E9 (m:=I8) (ds:=[]) (A:=A2) rfl rfl a2.now) (E9 (m:=C7) (ds:=[]) (A:=A2) rfl rfl c2)) (K0 rfl) (hfl.ne (by decide)))))
 have c4:=a4.cnt;rw [hl,xE] at c4;have n5:=a5.now;rw [row0] at n5;have f16:Gv (DL ns (.sh (.list (C1 h m))) k3 (.sh (.int (m:Int))) (.sh (.int (n:Int))) k8 (.sh (.tuple [J3 h (m - n),N1 (m - n) n])) (.sh (.tuple [J3 h' (m - n+2),N1 (m - n+2) 0]))) [A5,A5,A4]=.rt (.bool true) [A5,A5,A4]:=by
   refine Ac ?_; refine (eJ (P2 (E9 (m:=I8) (ds:=[]) (A:=A4) rfl rfl a4.now) (K0 (D2 rfl (y:=.int (-1)) rfl qF)) (a4.fl.eq (by decide)))).trans ?_;refine (eJ (P2 (E9 (m:=I8) (ds:=[]) (A:=A5) rfl rfl n5) (K0 (Dv rfl)) ((Fl.lst (n:=0) (xs:=[]) (fun _ h=>nomatch h)).eq (by decide)))).trans ?_;exact P2 (E9 (m:=C7) (ds:=[]) (A:=A4) rfl rfl c4) (K0 (N5 (B5 rfl (B5 rfl rfl)))) ((Fh m 0).eq (by decide))
 have run:Jc (DL ns .un .un .un .un .un .un .un) []=.rt (.bool true) [A5,A5,A4]:=by
   refine (C3 (δ':=DL ns .un .un .un .un .un .un .un) (als':=[Ja]) rfl).trans ?_; refine (C3 (bB (E9 (m:=I8) (ds:=[]) rfl rfl hZ.now))).trans ?_; refine (C3 e2).trans ?_; refine (C3 f3).trans ?_; refine (C3 f4).trans ?_; refine (C3 f5).trans ?_; refine (C3 e6).trans ?_; refine (C3 f7).trans ?_; refine (C3 f8).trans ?_; refine (C3 f9).trans ?_; refine (C3 f10).trans ?_; refine (C3 f11).trans ?_; refine (C3 f12).trans ?_; refine (C3 f13).trans ?_; refine (C3 e14).trans ?_; refine (C3 e15).trans ?_; exact f16
 show mL O9 Jc [scr ns]=_;unfold mL;rw [show K3 O9 [scr ns]=DL ns .un .un .un .un .un .un .un from rfl,run]
end Sm
end
namespace Sm
open PySem PySem.Spec PyProof.Rows L2
noncomputable def D9 (P:z7) (x:Str) (t:Nat) (v:rJ):tV:=⟨PyData.keyHash P x,.str x t,v⟩
noncomputable def kG (i:Nat):Str:=match top i with | .FunctionDef n _ _ _ _ _ _ _ _ _=>n | _ => ""
noncomputable def Bg (i:Nat) (m:rJ) (c:Nat):Obj:=⟨.type "function",none,.func (sY (kG i) (kG i) (D8 (top i)) (B6 (top i)) (A0 (top i)) .none .none .none m none (.ref c) .none),#[]⟩
noncomputable def Bh (i t:Nat) (l a:Int) (r:Nat) (u v w:rJ) (n:Nat):Obj:=⟨.type "code",none,.fields #[.str (kG i) t,.str (kG i) (t+1),.str "/claim/cut.py" (t+2),.int l 0,.int a 0,.int 0 0,.int 0 0,.int 3 0,.ref r,.bool true,.int 181 0,.ref (r+1),.none,u,v,w,.int n 0,.int l 0,.str "/claim/cut.py" (n+1)],#[]⟩
noncomputable def owO_ (i j:Nat):Str:=match Gh (top i) j with | .FunctionDef n _ _ _ _ _ _ _ _ _=>n | _ => ""
noncomputable def Im (i j:Nat) (q:Str) (m:rJ) (c:Nat):Obj:=⟨.type "function",none,.func (sY (owO_ i j) q (D8 (Gh (top i) j)) (B6 (Gh (top i) j)) (A0 (Gh (top i) j)) .none .none .none m none (.ref c) .none),#[]⟩
noncomputable def Io (i j:Nat) (q:Str) (t:Nat) (l a:Int) (r:Nat) (u v w:rJ) (n:Nat):Obj:=⟨.type "code",none,.fields #[.str (owO_ i j) t,.str q (t+1),.str "/claim/cut.py" (t+2),.int l 0,.int a 0,.int 0 0,.int 0 0,.int 3 0,.ref r,.bool true,.int 181 0,.ref (r+1),.none,u,v,w,.int n 0,.int l 0,.str "/claim/cut.py" (n+1)],#[]⟩
noncomputable def owM0 (P:z7):List tV:=[D9 P "__name__" 165 (.str "law_staymark_k75_whole_back_and_twins" 439),D9 P "__doc__" 166 .none,D9 P "__package__" 167 .none,D9 P "__loader__" 168 (.builtin "__main__.__loader__#opaque"),D9 P "__spec__" 169 .none,D9 P "__annotations__" 170 (.ref 6),D9 P "__builtins__" 171 (.ref 4),D9 P "__file__" 173 (.str "/claim/cut.py" 172),D9 P "__cached__" 174 .none,D9 P "_wall" 193 (.ref 21),D9 P "MarkError" 213 (.ref 31)]
noncomputable def owM1 (P:z7):List tV:=[D9 P "NoName" 229 (.ref 44),D9 P "NoneLeft" 245 (.ref 56),D9 P "signs_added" 254 (.ref 65),D9 P "adds_behind" 265 (.ref 72),D9 P "signs_of" 271 (.ref 77),D9 P "undone_in" 280 (.ref 84),D9 P "dropped_in" 291 (.ref 91),D9 P "presence_in" 302 (.ref 98),D9 P "shown_in" 308 (.ref 103),D9 P "text_of" 314 (.ref 108),D9 P "Album" 438 (.ref 202)]
noncomputable def owM2 (P:z7):List tV:=[D9 P "_law_cell" 448 (.ref 213),D9 P "_law_drawn" 458 (.ref 220),D9 P "_law_words" 464 (.ref 225),D9 P "_law_signs" 470 (.ref 230),D9 P "_law_anchor" 480 (.ref 237),D9 P "_law_deed" 486 (.ref 242),D9 P "_law_book" 492 (.ref 247),D9 P "_law_step" 503 (.ref 254),D9 P "_law_now" 509 (.ref 259),D9 P "_law_go_on" 518 (.ref 266),D9 P "_law_goes" 524 (.ref 271)]
noncomputable def owM3 (P:z7):List tV:=[D9 P "law" 541 (.ref 278)]
noncomputable def ownK (P:z7):rK :=
 (nat_lit 3,⟨.type "dict",none,.dict (owM0 P++owM1 P++owM2 P++owM3 P).toArray 34,#[]⟩) ::
 (nat_lit 20,Bh 0 187 1 1 15 (.ref 17) (.ref 18) (.ref 19) 191) ::
 (nat_lit 21,Bg 0 (.str "__main__" 164) 20) ::
 (nat_lit 30,⟨.type "dict",none,.dict #[D9 P "__module__" 203 (.str "staymark.errors" 194),D9 P "__firstlineno__" 207 (.int 5 206),D9 P "__static_attributes__" 208 (.ref 29),D9 P "__weakref__" 210 (.ref 32),D9 P "__doc__" 211 .none] 3,#[]⟩) ::
 (nat_lit 31,⟨.type "type",none,.cls { name := "MarkError",qualname := "MarkError",bases:=[.type "ValueError"],mro:=[.ref 31,.type "ValueError",.type "Exception",.type "BaseException",.type "object"],ns:=30,hasDict:=true,subclasses:=[.ref 44,.ref 56],abstract:=false,hasDel:=false },#[some (.ref 22),none,some (.str "MarkError" 196),some (.str "MarkError" 204),some (.builtin "ValueError.__new__"),some (.bool true)]⟩) ::
 (nat_lit 43,⟨.type "dict",none,.dict #[D9 P "__module__" 221 (.str "staymark.errors" 194),D9 P "__firstlineno__" 225 (.int 7 224),D9 P "__static_attributes__" 226 (.ref 42),D9 P "__doc__" 227 .none] 2,#[]⟩) ::
 (nat_lit 44,⟨.type "type",none,.cls { name := "NoName",qualname := "NoName",bases:=[.ref 31],mro:=[.ref 44,.ref 31,.type "ValueError",.type "Exception",.type "BaseException",.type "object"],ns:=43,hasDict:=true,subclasses:=[],abstract:=false,hasDel:=false },#[some (.ref 35),none,some (.str "NoName" 214),some (.str "NoName" 222),some (.builtin "ValueError.__new__"),some (.bool true)]⟩) ::
 (nat_lit 55,⟨.type "dict",none,.dict #[D9 P "__module__" 237 (.str "staymark.errors" 194),D9 P "__firstlineno__" 241 (.int 9 240),D9 P "__static_attributes__" 242 (.ref 54),D9 P "__doc__" 243 .none] 2,#[]⟩) ::
 (nat_lit 56,⟨.type "type",none,.cls { name := "NoneLeft",qualname := "NoneLeft",bases:=[.ref 31],mro:=[.ref 56,.ref 31,.type "ValueError",.type "Exception",.type "BaseException",.type "object"],ns:=55,hasDict:=true,subclasses:=[],abstract:=false,hasDel:=false },#[some (.ref 47),none,some (.str "NoneLeft" 230),some (.str "NoneLeft" 238),some (.builtin "ValueError.__new__"),some (.bool true)]⟩) ::
 (nat_lit 64,Bh 6 248 12 1 59 (.ref 61) (.ref 62) (.ref 63) 252) ::
 (nat_lit 65,Bg 6 (.str "staymark.deeds" 246) 64) ::
 (nat_lit 71,Bh 8 257 15 1 66 (.ref 68) (.ref 69) (.ref 70) 263) ::
 (nat_lit 72,Bg 8 (.str "staymark.orders" 255) 71) ::
 (nat_lit 76,Bh 9 266 21 1 73 .none .none (.ref 75) 269) ::
 (nat_lit 77,Bg 9 (.str "staymark.orders" 255) 76) ::
 (nat_lit 83,Bh 10 272 35 1 78 (.ref 80) (.ref 81) (.ref 82) 278) ::
 (nat_lit 84,Bg 10 (.str "staymark.orders" 255) 83) ::
 (nat_lit 90,Bh 11 281 41 2 85 (.ref 87) (.ref 88) (.ref 89) 289) ::
 (nat_lit 91,Bg 11 (.str "staymark.orders" 255) 90) ::
 (nat_lit 97,Bh 12 292 48 1 92 (.ref 94) (.ref 95) (.ref 96) 300) ::
 (nat_lit 98,Bg 12 (.str "staymark.orders" 255) 97) ::
 (nat_lit 102,Bh 13 303 55 1 99 .none .none (.ref 101) 306) ::
 (nat_lit 103,Bg 13 (.str "staymark.orders" 255) 102) ::
 (nat_lit 107,Bh 14 309 57 1 104 .none .none (.ref 106) 312) ::
 (nat_lit 108,Bg 14 (.str "staymark.orders" 255) 107) ::
 (nat_lit 121,Io 16 0 "Album.__init__" 329 62 1 116 (.ref 118) (.ref 119) (.ref 120) 333) ::
 (nat_lit 122,Im 16 0 "Album.__init__" (.str "staymark.albums" 315) 121) ::
 (nat_lit 128,Io 16 1 "Album.put" 336 67 3 123 (.ref 125) (.ref 126) (.ref 127) 342) ::
 (nat_lit 129,Im 16 1 "Album.put" (.str "staymark.albums" 315) 128) ::
 (nat_lit 135,Io 16 2 "Album.take_step" 345 73 4 130 (.ref 132) (.ref 133) (.ref 134) 352) ::
 (nat_lit 136,Im 16 2 "Album.take_step" (.str "staymark.albums" 315) 135) ::
 (nat_lit 142,Io 16 3 "Album.keep" 355 78 3 137 (.ref 139) (.ref 140) (.ref 141) 361) ::
 (nat_lit 143,Im 16 3 "Album.keep" (.str "staymark.albums" 315) 142) ::
 (nat_lit 149,Io 16 4 "Album.fetch" 364 82 2 144 (.ref 146) (.ref 147) (.ref 148) 369) ::
 (nat_lit 150,Im 16 4 "Album.fetch" (.str "staymark.albums" 315) 149) ::
 (nat_lit 156,Io 16 5 "Album.forget" 372 87 2 151 (.ref 153) (.ref 154) (.ref 155) 378) ::
 (nat_lit 157,Im 16 5 "Album.forget" (.str "staymark.albums" 315) 156) ::
 (nat_lit 163,Io 16 6 "Album.join_in" 381 92 3 158 (.ref 160) (.ref 161) (.ref 162) 387) ::
 (nat_lit 164,Im 16 6 "Album.join_in" (.str "staymark.albums" 315) 163) ::
 (nat_lit 170,Io 16 7 "Album.names" 390 95 1 165 (.ref 167) (.ref 168) (.ref 169) 394) ::
 (nat_lit 171,Im 16 7 "Album.names" (.str "staymark.albums" 315) 170) ::
 (nat_lit 177,Io 16 8 "Album.back" 397 98 1 172 (.ref 174) (.ref 175) (.ref 176) 402) ::
 (nat_lit 178,Im 16 8 "Album.back" (.str "staymark.albums" 315) 177) ::
 (nat_lit 184,Io 16 9 "Album.forth" 405 106 1 179 (.ref 181) (.ref 182) (.ref 183) 410) ::
 (nat_lit 185,Im 16 9 "Album.forth" (.str "staymark.albums" 315) 184) ::
 (nat_lit 191,Io 16 10 "Album.counts" 413 114 1 186 (.ref 188) (.ref 189) (.ref 190) 417) ::
 (nat_lit 192,Im 16 10 "Album.counts" (.str "staymark.albums" 315) 191) ::
 (nat_lit 198,Io 16 11 "Album.twin" 420 117 1 193 (.ref 195) (.ref 196) (.ref 197) 425) ::
 (nat_lit 199,Im 16 11 "Album.twin" (.str "staymark.albums" 315) 198) ::
 (nat_lit 201,⟨.type "dict",none,.dict #[D9 P "__module__" 324 (.str "staymark.albums" 315),D9 P "__firstlineno__" 328 (.int 60 327),D9 P "__init__" 335 (.ref 122),D9 P "put" 344 (.ref 129),D9 P "take_step" 354 (.ref 136),D9 P "keep" 363 (.ref 143),D9 P "fetch" 371 (.ref 150),D9 P "forget" 380 (.ref 157),D9 P "join_in" 389 (.ref 164),D9 P "names" 396 (.ref 171),D9 P "back" 404 (.ref 178),D9 P "forth" 412 (.ref 185),D9 P "counts" 419 (.ref 192),D9 P "twin" 427 (.ref 199),D9 P "__static_attributes__" 431 (.ref 200),D9 P "__dict__" 433 (.ref 203),D9 P "__weakref__" 435 (.ref 204),D9 P "__doc__" 436 .none] 4,#[]⟩) ::
 (nat_lit 202,⟨.type "type",none,.cls { name := "Album",qualname := "Album",bases:=[.type "object"],mro:=[.ref 202,.type "object"],ns:=201,hasDict:=true,subclasses:=[],abstract:=false,hasDel:=false },#[none,none,some (.str "Album" 317),some (.str "Album" 325),some (.builtin "object.__new__"),some (.bool true)]⟩) ::
 (nat_lit 212,Bh 18 441 124 2 207 (.ref 209) (.ref 210) (.ref 211) 446) ::
 (nat_lit 213,Bg 18 (.str "law_staymark_k75_whole_back_and_twins" 439) 212) ::
 (nat_lit 219,Bh 19 449 128 3 214 (.ref 216) (.ref 217) (.ref 218) 456) ::
 (nat_lit 220,Bg 19 (.str "law_staymark_k75_whole_back_and_twins" 439) 219) ::
 (nat_lit 224,Bh 20 459 132 2 221 .none .none (.ref 223) 462) ::
 (nat_lit 225,Bg 20 (.str "law_staymark_k75_whole_back_and_twins" 439) 224) ::
 (nat_lit 229,Bh 21 465 134 1 226 .none .none (.ref 228) 468) ::
 (nat_lit 230,Bg 21 (.str "law_staymark_k75_whole_back_and_twins" 439) 229) ::
 (nat_lit 236,Bh 22 471 140 3 231 (.ref 233) (.ref 234) (.ref 235) 478) ::
 (nat_lit 237,Bg 22 (.str "law_staymark_k75_whole_back_and_twins" 439) 236) ::
 (nat_lit 241,Bh 23 481 143 5 238 .none .none (.ref 240) 484) ::
 (nat_lit 242,Bg 23 (.str "law_staymark_k75_whole_back_and_twins" 439) 241) ::
 (nat_lit 246,Bh 24 487 158 4 243 .none .none (.ref 245) 490) ::
 (nat_lit 247,Bg 24 (.str "law_staymark_k75_whole_back_and_twins" 439) 246) ::
 (nat_lit 253,Bh 25 493 170 3 248 (.ref 250) (.ref 251) (.ref 252) 501) ::
 (nat_lit 254,Bg 25 (.str "law_staymark_k75_whole_back_and_twins" 439) 253) ::
 (nat_lit 258,Bh 26 504 177 1 255 .none .none (.ref 257) 507) ::
 (nat_lit 259,Bg 26 (.str "law_staymark_k75_whole_back_and_twins" 439) 258) ::
 (nat_lit 265,Bh 27 510 179 2 260 (.ref 262) (.ref 263) (.ref 264) 516) ::
 (nat_lit 266,Bg 27 (.str "law_staymark_k75_whole_back_and_twins" 439) 265) ::
 (nat_lit 270,Bh 28 519 183 2 267 .none .none (.ref 269) 522) ::
 (nat_lit 271,Bg 28 (.str "law_staymark_k75_whole_back_and_twins" 439) 270) ::
 (nat_lit 277,Bh 29 525 196 1 272 (.ref 274) (.ref 275) (.ref 276) 539) ::
 (nat_lit 278,Bg 29 (.str "law_staymark_k75_whole_back_and_twins" 439) 277)::[]
end Sm
set_option maxRecDepth 100000 in
set_option maxHeartbeats 0 in
theorem PySem.Challenge.cw_staymark_k75_whole_back_and_twins_holds : PySem.Challenge.rw_staymark_k75_whole_back_and_twins.Holds := by
 w_on; o_law; o_head (PySem.W.kHook Sm.ownK [3,20,21,30,31,43,44,55,56,64,65,71,72,76,77,83,84,90,91,97,98,102,103,107,108,121,122,128,129,135,136,142,143,149,150,156,157,163,164,170,171,177,178,184,185,191,192,198,199,201,202,212,213,219,220,224,225,229,230,236,237,241,242,246,247,253,254,258,259,265,266,270,271,277,278] (fun _=>by kernel_rfl)); (case hw=>w_witness2)
 k_fill
 refine Sm.walkD (l:=PySem.Challenge.rw_staymark_k75_whole_back_and_twins) rfl rfl rfl (fun w h Y=>PySem.W.kIn_of Y) (fun w=>?hK) ?F Sm.eM
 case hK=>kernel_rfl
 case F =>
   intro w mg h KX G; refine' ⟨⟨?b0,?b1,?b2,?b3,?b4,?b5,?b6,?b7,?b8⟩,⟨?d19,?d0,?d1,?d2,?d3,?d4,?d5,?d6,?d7,?d8,?d9,?d10,?d11,?d12,?d13,?d14,?d15,?d16,?d17,?d18⟩,_,⟨⟨⟨?e0,?e1,?e2,?e3⟩,?e4,?e5,?e6⟩,?mgA,?m0,?f0,?f1,?m1,?m2,?m3,?m4,?m5,?m6,?m7,?m8,?m9,?m10⟩⟩
   case mgA=>exact PySem.W.mg_of KX G (by k_is)
   case b0 | b1 | b2 | b3 | b4 | b5 | b6 | b7 | b8=>exact PySem.W.mg_none_of KX G (by k_is)
   case d0 | d1 | d2 | d3 | d5 | d6 | d7 | d11 | d16 | d19=>exact Sm.lQ KX G (by k_is) (by k_is) (by k_is) (by k_is) (fun _ _ _ _ _ _ _=>rfl) rfl
   case d4 | d8 | d10 | d17 | d18=>exact Sm.lP KX G (by k_is) (by k_is) (by k_is) (by k_is) (fun _ _ _ _ _ _ _ _=>rfl) rfl
   case d9 | d12 | d15=>exact Sm.lO KX G (by k_is) (by k_is) (by k_is) (by k_is) (fun _ _ _ _ _ _ _ _ _=>rfl) rfl
   case d13=>exact Sm.lM KX G (by k_is) (by k_is) (by k_is) (by k_is) (fun _ _ _ _ _ _ _ _ _ _ _=>rfl) rfl
   case d14=>exact Sm.lN KX G (by k_is) (by k_is) (by k_is) (by k_is) (fun _ _ _ _ _ _ _ _ _ _=>rfl) rfl
   case m0=>(refine' Sm.Uh ?a ?i ?l ?c ?k (fun _ _ _ _ _ _ _=>rfl) rfl; (case a=>k_is); (case i=>k_is); (case l=>k_is); (case c=>k_is); (case k=>k_is))
   case m1=>(refine' Sm.Ug ?a ?i ?l ?c ?k (fun _ _ _ _ _ _ _ _ _=>rfl) rfl; (case a=>k_is); (case i=>k_is); (case l=>k_is); (case c=>k_is); (case k=>k_is))
   case m2=>(refine' Sm.gU ?a ?i ?l ?c ?k (fun _ _ _ _ _ _ _ _ _ _=>rfl) rfl; (case a=>k_is); (case i=>k_is); (case l=>k_is); (case c=>k_is); (case k=>k_is))
   case m3=>(refine' Sm.Ug ?a ?i ?l ?c ?k (fun _ _ _ _ _ _ _ _ _=>rfl) rfl; (case a=>k_is); (case i=>k_is); (case l=>k_is); (case c=>k_is); (case k=>k_is))
   case m4 | m5=>(refine' Sm.gV ?a ?i ?l ?c ?k (fun _ _ _ _ _ _ _ _=>rfl) rfl; (case a=>k_is); (case i=>k_is); (case l=>k_is); (case c=>k_is); (case k=>k_is))
   case m6 | m7 | m8 | m9 | m10=>(refine' Sm.Uh ?a ?i ?l ?c ?k (fun _ _ _ _ _ _ _=>rfl) rfl; (case a=>k_is); (case i=>k_is); (case l=>k_is); (case c=>k_is); (case k=>k_is))
   case e0 | e1 | e2 | e3=>k_is
   case e4 | e5 | e6=>(unfold L2.NoAttr; k_is)
   case f0 | f1=>k_is
