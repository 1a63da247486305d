import PyProof.Rows.All
import Wide.All
import OpenK.AllK
import Wide.FinOn
import Lean
import PySem.SetOps
import PyProof.SetScanFacts
import PyProof.SetKind
import PyProof.IsRules
import PyProof.EqAt
import PyProof.EqKinds
import PyProof.TupleCall
import PyProof.TupleKey
import PyProof.P3Eq
import Wide.Seal
import PyProof.StrCalls
import PyProof.SeqI3
import PyProof.Draws
import PyProof.EnumMake
import PyProof.DictValues
import PyProof.DictWalks
import PyProof.TupleOfSeq
import PyProof.TupleOfGen
import KE.KDictList
import PyProof.AttrMiss
import PyProof.IsiH_list
import KE.KRevIter
import PyProof.MinMaxWalk
import PyProof.Rows.CallKwBuiltin
import KE.KSortTup
import PyProof.Rows.SortWalk
import PyProof.Rows.SortShell
import PyProof.DictIter
import PyProof.P3In
import PyProof.Rows.SortStr
import PyProof.MeetsStr
import PyProof.FactsAll.str_6
import PyProof.StrCalls2
import PyProof.MeetsStr2
import KE.KIntText
import PyProof.SliceStr2
import PyProof.Rows.Range3
import PyProof.SetRoads
import PyProof.Rows.SetFrom
import PyProof.SetNew
import PyProof.WalksMore
import PySem.Challenge.RW_staymark_k72_whole_step_by_step
set_option Elab.async false
set_option linter.all false
set_option maxRecDepth 100000
set_option maxHeartbeats 4000000
set_option compiler.extract_closed false
section
namespace Sm
open PySem PySem.SetTable
theorem Aq {xs:Array Nat} (hr:xs.toList.Pairwise (· < ·)) {a b d:Nat} (h:a < b) (hb:b < xs.size):xs.getD a d < xs.getD b d:=by
 have ha:a < xs.size:=by omega
 have:=(List.pairwise_iff_getElem.mp hr) a b (by simpa using ha) (by simpa using hb) h
 simpa [Array.getD,ha,hb] using this
theorem Kw (xs:Array Nat) (j:Nat) (hr:xs.toList.Pairwise (· < ·)) :
   ∀ (fuel lo hi:Nat),lo<=hi->hi<=xs.size->hi - lo<=fuel->(∀ i,i < lo->xs.getD i j < j)->(∀ i,hi<=i->i < xs.size->j<=xs.getD i j) ->
     below.go xs j fuel lo hi<=hi/\(∀ i,i < below.go xs j fuel lo hi->xs.getD i j < j)/\(∀ i,below.go xs j fuel lo hi<=i->i < xs.size->j<=xs.getD i j)
 | 0,lo,hi,h1,h2,h3,h4,h5=>by
   have:lo=hi:=by omega
   subst this; exact ⟨Nat.le_refl _,h4,h5⟩
 | fuel+1,lo,hi,h1,h2,h3,h4,h5=>by
   unfold below.go
   by_cases hl:lo < hi
   . rw [if_pos hl]
     by_cases hm:xs.getD ((lo+hi) / 2) j < j
     . simp only [hm,if_true]
       refine Kw xs j hr fuel _ hi (by omega) h2 (by omega) ?_ h5
       intro i hi'
       by_cases he:i=(lo+hi) / 2
       . subst he; exact hm
       . exact Nat.lt_trans (Aq hr (by omega) (by omega)) hm
     . simp only [hm,if_false]
       have r:=Kw xs j hr fuel lo ((lo+hi) / 2) (by omega) (by omega) (by omega) h4 (by
         intro i hi' hs
         by_cases he:i=(lo+hi) / 2
         . subst he; omega
         . have:=Aq hr (d:=j) (show (lo+hi) / 2 < i by omega) hs
           omega)
       exact ⟨by omega,r.2⟩
   . rw [if_neg hl]
     have:lo=hi:=by omega
     subst this; exact ⟨Nat.le_refl _,h4,h5⟩
theorem Ea (xs:Array Nat) (j:Nat) (hr:xs.toList.Pairwise (· < ·)) :
   below xs j<=xs.size/\(∀ i,i < below xs j->xs.getD i j < j)/\(∀ i,below xs j<=i->i < xs.size->j<=xs.getD i j) :=
 Kw xs j hr xs.size 0 xs.size (Nat.zero_le _) (Nat.le_refl _) (by omega) (fun _ h=>absurd h (Nat.not_lt_zero _)) (fun _ h h'=>absurd h' (by omega))
theorem eO {xs:Array Nat} (hr:xs.toList.Pairwise (· < ·)) {i j:Nat} (h:xs[i]? = some j):below xs j=i:=by
 obtain ⟨h1,h2,h3⟩:=Ea xs j hr
 have hi:i < xs.size:=by
   rcases Nat.lt_or_ge i xs.size with h' | h'
   . exact h'
   . rw [Array.getElem?_eq_none h'] at h; exact nomatch h
 have e:xs.getD i j=j:=by simp only [Array.getD,hi,dif_pos]; rw [Array.getElem?_eq_getElem hi] at h; simpa using h
 rcases Nat.lt_trichotomy (below xs j) i with hl | hl | hl
 . have a:=h3 _ (Nat.le_refl _) (by omega)
   have b:=Aq hr (d:=j) hl hi; omega
 . exact hl
 . have:=h2 i hl; omega
theorem Wu (j:Nat):has #[] j=false:=rfl
theorem Xy {t:SetTable} (hr:t.place.toList.Pairwise (· < ·)) {i j:Nat} (h:t.place[i]? = some j):t.slot j=.live i:=by
 unfold slot
 simp only [eO hr h,h,beq_self_eq_true,if_true]
theorem few:∀ (n:Nat) (L:List Nat),(∀ e,e < n->e∈L)->n<=L.length
 | 0,_,_=>Nat.zero_le _
 | n+1,L,h=>by
   have a:=h n (by omega)
   have b:=few n (L.erase n) (fun e he=>(List.mem_erase_of_ne (by omega)).mpr (h e (by omega)))
   have c:=List.length_erase_of_mem a; have d:=List.length_pos_of_mem a; omega
theorem room {L:List Nat} {mask:Nat} (h:L.length<=mask):∃ e,e<=mask/\e∉L:=by
 by_cases c:∃ e,e<=mask/\e∉L
 . exact c
 . have:=few (mask+1) L (fun e he=>Classical.byContradiction fun hn=>c ⟨e,by omega,hn⟩)
   omega
end Sm
end
section
namespace Sm
open PySem PySem.SetTable
theorem Yq {t:SetTable} {j:Nat} (h:j∈t.place.toList):∃ i:Nat,t.place[i]? = some j:=by
 rw [<- Array.mem_def] at h
 obtain ⟨i,hi,e⟩:=Array.getElem_of_mem h
 exact ⟨i,by rw [Array.getElem?_eq_getElem hi,e]⟩
theorem Lp {xs:Array Nat} (hr:xs.toList.Pairwise (· < ·)) {j:Nat} (hj:j∉xs.toList):(insertAt xs (below xs j) j).toList.Pairwise (· < ·):=by
 obtain ⟨h1,h2,h3⟩:=Ea xs j hr
 rw [SetTable.toList_insertAt,List.pairwise_append]
 have ht:∀ a,a∈xs.toList.take (below xs j)->a < j:=by
   intro a ha; obtain ⟨i,hi,e⟩:=List.getElem_of_mem ha; have hi':i < below xs j:=by simp at hi; omega
   have:=h2 i hi'; have hs:i < xs.size:=by omega
   simp only [List.getElem_take,Array.getElem_toList] at e
   simpa [Array.getD,hs,e] using this
 have hd:∀ a,a∈xs.toList.drop (below xs j)->j < a:=by
   intro a ha; have hm:=List.mem_of_mem_drop ha; obtain ⟨i,hi,e⟩:=List.getElem_of_mem ha; simp only [List.getElem_drop,Array.getElem_toList] at e; simp at hi
   have:=h3 (below xs j+i) (by omega) (by omega)
   have hs:below xs j+i < xs.size:=by omega
   simp [Array.getD,hs,e] at this
   rcases Nat.lt_or_ge j a with c | c
   . exact c
   . have:j=a:=by omega
     subst this; exact absurd hm hj
 refine ⟨hr.sublist (List.take_sublist _ _),?_,?_⟩
 . rw [List.pairwise_cons]
   exact ⟨hd,hr.sublist (List.drop_sublist _ _)⟩
 . intro a ha b hb
   rw [List.mem_cons] at hb; rcases hb with hb | hb
   . subst hb; exact ht a ha
   . exact Nat.lt_trans (ht a ha) (hd b hb)
end Sm
end
section
namespace Sm
open PySem PySem.SetTable
end Sm
end
section
namespace Sm
open PySem PySem.SetTable
def Uj (mask:Nat) (ow:Array (Option Nat)):List (Nat×Nat):=(List.range (mask+1)).filterMap fun j=>(ow.getD j none).map (j,·)
theorem dB (mask:Nat) (ow:Array (Option Nat)):(Uj mask ow).Pairwise (fun a b=>a.1 < b.1):=by
 unfold Uj
 rw [List.pairwise_filterMap]
 refine List.pairwise_lt_range.imp ?_
 intro a b hab x hx y hy
 rw [Option.map_eq_some_iff] at hx hy
 obtain ⟨_,_,rfl⟩:=hx
 obtain ⟨_,_,rfl⟩:=hy
 exact hab
end Sm
end
section
namespace Sm
open PySem PySem.SetTable
structure Elems (prog:Program) (w:World) (A:Around) (E:Value->Shared->Prop) (a:Addr) where
 D:Type
 dec:DecidableEq D
 I:Shared->Prop
 R:Value->D->Prop
 hash:D->Int
 heap:∀ {s:Shared} {h':Heap},I s->Heap.SameBut a s.heap h'->I { s with heap:=h' }
 toks:∀ {s:Shared} (tk:Nat),I s->I { s with toks:=tk }
 ref:∀ {v:Value} {d:D},R v d->∃ b,v=.ref b
 eqB:∀ {s:Shared} {y x:Value} {d d':D} {Q:Bool->Shared->Prop},I s->R y d->R x d'->Q (@decide (d=d') (dec d d')) s->wpAny (model prog w) A (eqBool y x) Q E s
 byV:∀ {s:Shared} {x:Value} {d:D} {Q:Bool->Shared->Prop},I s->R x d->(∀ b,Q b s)->wpAny (model prog w) A (hashByValue 8 x) Q E s
 seen:∀ {s:Shared} {x:Value} {d:D} {ys:List Value} {Q:Bool->Shared->Prop},I s->R x d->(∀ y,y∈ys->∃ d',R y d')->Q false s->wpAny (model prog w) A (searchCouldBeSeen x ys) Q E s
end Sm
end
section
namespace Sm
open PySem PySem.SetTable
end Sm
end
namespace L2
open PySem PySem.Spec PyProof.Rows
abbrev Key:=Sum Int Str
def jO:Key->Value->Bool
 | .inl k,v=>Value.isInt k v
 | .inr x,v=>Value.isStrOf x v
def keyH (w:World):Key->Int
 | .inl k=>hashInt k
 | .inr x=>hashStr w x
theorem F9:∀ {k:Key} {v:Value},jO k v=true->(∃ i t,k=Sum.inl i/\v=Value.int i t)\/(∃ x t,k=Sum.inr x/\v=Value.str x t)
 | .inl i,v,h=>by
   obtain ⟨t,e⟩:=Value.isInt_shape (k:=i) (v:=v) h; exact .inl ⟨i,t,rfl,e⟩
 | .inr x,v,h=>by
   obtain ⟨t,e⟩:=Value.isStrOf_shape (x:=x) (v:=v) h; exact .inr ⟨x,t,rfl,e⟩
theorem mI (a b:Int):decide ((Sum.inl a:Key)=Sum.inl b)=(a==b):=by
 by_cases e:a=b
 . subst e; simp
 . have h:¬ (Sum.inl a:Key)=Sum.inl b:=fun q=>e (Sum.inl.inj q)
   rw [decide_eq_false h]; exact (beq_eq_false_iff_ne.mpr e).symm
theorem mF (a b:Str):decide ((Sum.inr a:Key)=Sum.inr b)=decide (a=b):=by
 by_cases e:a=b
 . subst e; simp
 . have h:¬ (Sum.inr a:Key)=Sum.inr b:=fun q=>e (Sum.inr.inj q)
   rw [decide_eq_false h,decide_eq_false e]
theorem mH (a:Int) (b:Str):decide ((Sum.inl a:Key)=Sum.inr b)=false:=decide_eq_false (fun q=>nomatch q)
theorem mG (a:Str) (b:Int):decide ((Sum.inr a:Key)=Sum.inl b)=false:=decide_eq_false (fun q=>nomatch q)
def Ox (prog:Program) (w:World):PySem.KeyKind prog w Key where
 is:=jO
 hash:=keyH w
 inj:=fun v a b ha hb=>by
   rcases F9 ha with ⟨i,t,rfl,rfl⟩ | ⟨x,t,rfl,rfl⟩
   . rcases F9 hb with ⟨j,u,rfl,e⟩ | ⟨y,u,rfl,e⟩
     . injection e with e1 _; rw [e1]
     . exact nomatch e
   . rcases F9 hb with ⟨j,u,rfl,e⟩ | ⟨y,u,rfl,e⟩
     . exact nomatch e
     . injection e with e1 _; rw [e1]
 byValue:=fun k v h=>by
   rcases F9 h with ⟨i,t,rfl,rfl⟩ | ⟨x,t,rfl,rfl⟩ <;> rfl
 pyHash:=fun hv h=>by
   rcases F9 hv with ⟨i,t,rfl,rfl⟩ | ⟨x,t,rfl,rfl⟩
   . exact wpAny_pyHash_int h
   . exact wpAny_pyHash_str h
 eqBool:=fun hu hv h=>by
   rcases F9 hu with ⟨i,t,rfl,rfl⟩ | ⟨x,t,rfl,rfl⟩
   . rcases F9 hv with ⟨j,u,rfl,rfl⟩ | ⟨y,u,rfl,rfl⟩
     . rw [mI] at h; exact wpAny_eqBool_int h
     . rw [mH] at h; exact SeqAt.EqAt.int_str i t y u _ _ _ _ h
   . rcases F9 hv with ⟨j,u,rfl,rfl⟩ | ⟨y,u,rfl,rfl⟩
     . rw [mG] at h; exact SeqAt.EqAt.str_int x t j u _ _ _ _ h
     . rw [mF] at h; exact wpAny_eqBool_str h
 «strs» := fun k x t v h=>by
   rcases F9 h with ⟨i,u,rfl,e⟩ | ⟨y,u,rfl,e⟩
   . exact nomatch e
   . injection e with e1 _
     subst e1
     cases v <;> rfl
end L2
namespace L2
open PySem PySem.Spec PyProof.Rows
inductive V where
 | non | bl (b:Bool) | int (i:Int) | str (x:Str) | byt (b:Array UInt8) | flt (b:UInt64) | ref (a:Addr) | ty (n:String)
 deriving DecidableEq
def RelV:V->Value->Prop
 | .non,u=>u=Value.none
 | .bl b,u=>u=Value.bool b
 | .int i,u=>∃ t,u=Value.int i t
 | .str x,u=>∃ t,u=Value.str x t
 | .byt b,u=>∃ t,u=Value.bytes b t
 | .flt b,u=>∃ t,u=Value.float b t
 | .ref a,u=>u=Value.ref a
 | .ty n,u=>u=Value.type n
abbrev Vals:List V->List Value->Prop:=Paired RelV
theorem Vals.length {xs:List V} {us:List Value} (r:Vals xs us):xs.length=us.length:=Paired.length r
theorem Vals.get:∀ {xs:List V} {us:List Value} {i:Nat} {x:V},Vals xs us->xs[i]? = some x->∃ u,us[i]? = some u/\RelV x u
 | _,_,_,_,.nil,e=>by simp at e
 | _,_,0,_,.cons r _,e=>by simp at e; subst e; exact ⟨_,rfl,r⟩
 | _,_,i+1,x,.cons _ t,e=>by
   obtain ⟨u,h1,h2⟩:=Vals.get (i:=i) (x:=x) t (by simpa using e)
   exact ⟨u,by simpa using h1,h2⟩
theorem Vals.set {x:V} {u:Value} (r:RelV x u):∀ {xs:List V} {us:List Value} (i:Nat),Vals xs us->Vals (xs.set i x) (us.set i u)
 | _,_,_,.nil=>.nil
 | _,_,0,.cons _ t=>.cons r t
 | _,_,i+1,.cons q t=>.cons q (Vals.set r i t)
theorem Vals.append:∀ {xs ys:List V} {us ws:List Value},Vals xs us->Vals ys ws->Vals (xs++ys) (us++ws)
 | _,_,_,_,.nil,s=>s
 | _,_,_,_,.cons r t,s=>.cons r (Vals.append t s)
theorem Vals.take:∀ {xs:List V} {us:List Value} (n:Nat),Vals xs us->Vals (xs.take n) (us.take n)
 | _,_,0,_=>.nil
 | _,_,_+1,.nil=>.nil
 | _,_,n+1,.cons r t=>.cons r (Vals.take n t)
theorem Vals.drop:∀ {xs:List V} {us:List Value} (n:Nat),Vals xs us->Vals (xs.drop n) (us.drop n)
 | _,_,0,r=>r
 | _,_,_+1,.nil=>.nil
 | _,_,n+1,.cons _ t=>Vals.drop n t
def RelO:Option V->Option Value->Prop
 | some v,some u=>RelV v u
 | none,none=>True
 | _,_=>False
def KV {κ:Type}:List (κ×V)->List (κ×Value)->Prop:=Paired fun (p:κ×V) (q:κ×Value)=>p.1=q.1/\RelV p.2 q.2
def kV:Key->V
 | .inl i=>.int i
 | .inr x=>.str x
inductive HO where
 | lst (xs:List V)
 | tup (xs:List V)
 | dK (kvs:List (Key×V)) | dT (kvs:List (List Key×V))
 | dN (kvs:List (PyData×V))
 | set (S:Int->Bool) (n:Nat)
 | ins (C dx:Addr) (fs:List (Str×V))
 | own (x:Addr)
 | xd (fs:List (Str×V))
 | met (f x:Addr)
 | rng (lo hi:Int)
 | frz (o:Obj) (u:HO)
 | tbl (ps:Array Value)
 | ext (φ:Heap->Prop)
abbrev Hp:=Addr->Option HO
def upd (H:Hp) (a:Addr) (o:HO):Hp:=fun b=>if b=a then some o else H b
theorem B7 {H:Hp} {a:Addr} {o:HO}:upd H a o a=some o:=by unfold upd; rw [if_pos rfl]
theorem B6 {H:Hp} {a b:Addr} {o:HO} (h:b≠a):upd H a o b=H b:=by unfold upd; rw [if_neg h]
theorem Nx {H:Hp} {a:Addr} {o u:HO}:upd (upd H a o) a u=upd H a u:=by
 funext b; unfold upd; split <;> rfl
theorem Ke {H:Hp} {a b:Addr} {o u:HO} (h:H a=some o) (h':H b=some u) (d:o≠u):a≠b:=by
 intro e; subst e; rw [h] at h'; exact d (Option.some.inj h')
theorem C9 {H:Hp} {a b:Addr} {o:HO} (h:H a=some o) (h':H b=none):a≠b:=by
 intro e; subst e; rw [h] at h'; cases h'
mutual
def isK:PyData->Bool
 | .int _=>true
 | .str _=>true
 | .tuple xs=>Dr xs
 | .none | .bool _ | .list _ | .dict _=>false
def Dr:List PyData->Bool
 | []=>true
 | x::r=>isK x&&Dr r
end
mutual
def Sh (w:World):PyData->Int
 | .int i=>hashInt i
 | .str x=>hashStr w x
 | .tuple xs=>reduceHash (Builtin.Tuple.tupleHashOf (Cp w xs))
 | .none | .bool _ | .list _ | .dict _=>0
def Cp (w:World):List PyData->List Int
 | []=>[]
 | x::r=>Sh w x::Cp w r
end
def O7 (w:World):PyData->Int
 | .none=>0xFCA86420
 | d=>Sh w d
def nkD (d:PyData):Bool:=match d with
 | .none=>true
 | .str _=>true
 | .tuple xs=>Dr xs&&decide ((PyData.tuple xs).depth<=8)
 | _=>false
mutual
def KRep (H:Hp):PyData->V->Prop
 | .none,v=>v=.non
 | .int i,v=>v=.int i
 | .str x,v=>v=.str x/\PyData.strOk x=true/\x.length<=sizeLine
 | .tuple ds,v=>∃ b xs,v=.ref b/\H b=some (.tup xs)/\KRepL H ds xs
 | .bool _,_=>False
 | .list _,_=>False
 | .dict _,_=>False
def KRepL (H:Hp):List PyData->List V->Prop
 | [],xs=>xs=[]
 | d::ds,xs=>∃ x r,xs=x::r/\KRep H d x/\KRepL H ds r
end
mutual
theorem KRep.mono {H H':Hp} (ht:∀ b xs,H b=some (.tup xs)->H' b=some (.tup xs)):∀ {d:PyData} {v:V},KRep H d v->KRep H' d v
 | .none,_,r=>r
 | .int _,_,r=>r
 | .str _,_,r=>r
 | .tuple _,_,r=>by obtain ⟨b,xs,e,q,l⟩:=r; exact ⟨b,xs,e,ht _ _ q,KRepL.mono ht l⟩
 | .bool _,_,r=>r.elim
 | .list _,_,r=>r.elim
 | .dict _,_,r=>r.elim
theorem KRepL.mono {H H':Hp} (ht:∀ b xs,H b=some (.tup xs)->H' b=some (.tup xs)):∀ {ds:List PyData} {xs:List V},KRepL H ds xs->KRepL H' ds xs
 | [],_,r=>r
 | _::_,_,r=>by obtain ⟨x,t,e,q,l⟩:=r; exact ⟨x,t,e,KRep.mono ht q,KRepL.mono ht l⟩
end
def Q2 (w:World) (kvs:List (PyData×V)) (xs:List (Value×Value)):List DictEntry:=List.zipWith (fun p q=>⟨O7 w p.1,q.1,q.2⟩) kvs xs
section
variable (P:Program) (w:World)
def ObjOk (H:Hp) (h:Heap) (a:Addr):HO->Prop
 | .lst xs=>xs.length<=sizeLine/\∃ (its:List Value) (n:Nat),Vals xs its/\h.get? a=some { cls:=.type "list",data:=.seq its.toArray n }
 | .tup xs=>xs.length<=sizeLine/\∃ its:List Value,Vals xs its/\IsTup h a its.toArray
 | .dK kvs=>kvs.length<=sizeLine/\(a==sysModules)=false/\∃ vs,KV kvs vs/\h.DictOf (Ox P w) a vs
 | .dT kvs => kvs.length <= sizeLine /\ (a == sysModules) = false /\ ∃ xs : List (List Key × Addr × Value),
     Paired (fun (p:List Key×V) (q:List Key×Addr×Value)=>p.1=q.1/\H q.2.1=some (.tup (p.1.map kV))/\RelV p.2 q.2.2) kvs xs /\
     ∃ o es ep,h.get? a=some o/\o.ExactDict/\o.data=.dict es ep/\es.toList=xs.map (entryOfKey (tupleKind (Ox P w)))/\(xs.map (·.1)).Nodup
 | .dN kvs => kvs.length <= sizeLine /\ (a == sysModules) = false /\ (kvs.map (·.1)).Nodup /\ (∀ p ∈ kvs, nkD p.1 = true) /\ ∃ xs : List (Value × Value),
     Paired (fun (p:PyData×V) (q:Value×Value)=>(∃ v,KRep H p.1 v/\RelV v q.1)/\RelV p.2 q.2) kvs xs/\∃ ep,h.get? a=some { cls:=.type "dict",data:=.dict (Q2 w kvs xs).toArray ep }
 | .set S n=>h.SetOf (intKind P w) a S n
 | .ins C dx fs => H dx = some (.own a) /\ fs.length <= 1000 /\ dx ≠ a /\ h.get? a = some (PySem.W.instObj C dx) /\
     ∃ mA,h.Ns1 dx mA/\(∀ f,RelO (fs.lookup f) (mA f))/\PySem.Within mA (fs.map (·.1))
 | .own _=>∃ o,h.get? a=some o
 | .xd fs=>∃ mA,h.Ns1 a mA/\∀ f,RelO (fs.lookup f) (mA f)
 | .rng lo hi=>∃ t u v,h.get? a=some { cls:=.type "range",data:=.fields #[.int lo t,.int hi u,.int 1 v] }
 | .frz o u=>h.get? a=some o/\ObjOk H h a u
 | .tbl ps=>h.get? a=some { cls:=.none,data:=.fields ps }
 | .met f x=>h.get? a=some (PySem.W.methodObj (.ref f) (.ref x))
 | .ext φ=>φ h/\(∃ o,h.get? a=some o)/\∀ h1 h2:Heap,φ h1->(∀ o,h1.get? a=some o->h2.get? a=some o)->φ h2
def HOk (H:Hp) (h:Heap):Prop:=∀ a o,H a=some o->ObjOk P w H h a o
end
section
variable {P:Program} {w:World} {H H':Hp} {h h':Heap} {a:Addr} {o:HO}
theorem ObjOk.lt (x:ObjOk P w H h a o):a < h.objs.size:=by
 cases o with
 | lst xs=>obtain ⟨_,_,_,_,e⟩:=x; exact Heap.lt_size e
 | tup xs=>obtain ⟨_,_,_,p⟩:=x; exact p.lt
 | dK kvs=>obtain ⟨_,_,_,_,o,_,_,e,_⟩:=x; exact Heap.lt_size e
 | dT kvs=>obtain ⟨_,_,_,_,o,_,_,e,_⟩:=x; exact Heap.lt_size e
 | dN kvs=>obtain ⟨_,_,_,_,_,_,_,e⟩:=x; exact Heap.lt_size e
 | set S n=>obtain ⟨o,_,_,_,e,_⟩:=x; exact Heap.lt_size e
 | ins C dx fs=>obtain ⟨_,_,_,e,_⟩:=x; exact Heap.lt_size e
 | own y=>obtain ⟨_,e⟩:=x; exact Heap.lt_size e
 | xd fs=>obtain ⟨_,⟨_,_,_,e,_⟩,_⟩:=x; exact Heap.lt_size e
 | rng lo hi=>obtain ⟨_,_,_,e⟩:=x; exact Heap.lt_size e
 | frz ob u=>obtain ⟨e,_⟩:=x; exact Heap.lt_size e
 | tbl ps=>exact Heap.lt_size (show h.get? a=some _ from x)
 | met f y=>exact Heap.lt_size (show h.get? a=some _ from x)
 | ext φ=>obtain ⟨_,⟨_,e⟩,_⟩:=x; exact Heap.lt_size e
theorem Paired.mapP {α β:Type} {F G:α->β->Prop}:∀ {l₁:List α} {l₂:List β},Paired F l₁ l₂->(∀ a b,F a b->G a b)->Paired G l₁ l₂
 | _,_,.nil,_=>.nil
 | _,_,.cons r t,f=>.cons (f _ _ r) (Paired.mapP t f)
theorem ObjOk.stay (x:ObjOk P w H h a o) (k:∀ b u,(b=a\/H b=some (.own a))->h.get? b=some u->h'.get? b=some u)
   (ho:∀ b,H b=some (.own a)->H' b=some (.own a)) (ht:∀ b xs,H b=some (.tup xs)->H' b=some (.tup xs)):ObjOk P w H' h' a o:=by
 induction o with
 | lst xs=>obtain ⟨z,its,n,r,e⟩:=x; exact ⟨z,its,n,r,k _ _ (.inl rfl) e⟩
 | tup xs=>obtain ⟨z,its,r,ob,e,c⟩:=x; exact ⟨z,its,r,ob,k _ _ (.inl rfl) e,c⟩
 | dK kvs=>obtain ⟨z,y,vs,r,ob,es,ep,e,c⟩:=x; exact ⟨z,y,vs,r,ob,es,ep,k _ _ (.inl rfl) e,c⟩
 | dT kvs =>
   obtain ⟨z,y,xs,r,ob,es,ep,e,c⟩:=x; exact ⟨z,y,xs,Paired.mapP r fun p q z=>⟨z.1,ht _ _ z.2.1,z.2.2⟩,ob,es,ep,k _ _ (.inl rfl) e,c⟩
 | dN kvs =>
   obtain ⟨z,y,nd,nk,xs,r,ep,e⟩:=x; exact ⟨z,y,nd,nk,xs,Paired.mapP r fun p q ⟨⟨v,z1,z2⟩,z3⟩=>⟨⟨v,z1.mono ht,z2⟩,z3⟩,ep,k _ _ (.inl rfl) e⟩
 | set S n=>obtain ⟨ob,es,ep,t,e,c⟩:=x; exact ⟨ob,es,ep,t,k _ _ (.inl rfl) e,c⟩
 | ins C dx fs =>
   obtain ⟨d,z,ne,e,mA,⟨od,es,ep,e2,c⟩,r⟩:=x; exact ⟨ho _ d,z,ne,k _ _ (.inl rfl) e,mA,⟨od,es,ep,k _ _ (.inr d) e2,c⟩,r⟩
 | own y=>obtain ⟨ob,e⟩:=x; exact ⟨ob,k _ _ (.inl rfl) e⟩
 | xd fs=>obtain ⟨mA,⟨od,es,ep,e,c⟩,r⟩:=x; exact ⟨mA,⟨od,es,ep,k _ _ (.inl rfl) e,c⟩,r⟩
 | rng lo hi=>obtain ⟨t,u,v,e⟩:=x; exact ⟨t,u,v,k _ _ (.inl rfl) e⟩
 | frz ob u ih=>obtain ⟨e,q⟩:=x; exact ⟨k _ _ (.inl rfl) e,ih q⟩
 | tbl ps =>
   have e:h.get? a=some { cls:=.none,data:=.fields ps }:=x; show h'.get? a=some { cls:=.none,data:=.fields ps }
   exact k a _ (.inl rfl) e
 | met f y =>
   have e:h.get? a=some (PySem.W.methodObj (.ref f) (.ref y)):=x; show h'.get? a=some (PySem.W.methodObj (.ref f) (.ref y))
   exact k a _ (.inl rfl) e
 | ext φ=>obtain ⟨p,⟨o,e⟩,st⟩:=x; exact ⟨st _ _ p fun o q=>k _ _ (.inl rfl) q,⟨o,k _ _ (.inl rfl) e⟩,st⟩
theorem HOk.lt (x:HOk P w H h) (e:H a=some o):a < h.objs.size:=(x a o e).lt
theorem HOk.fresh (x:HOk P w H h) (e:h.objs.size<=a):H a=none:=by
 cases q:H a with
 | none=>rfl
 | some u=>exact absurd (Nat.lt_of_lt_of_le (x.lt q) e) (Nat.lt_irrefl _)
theorem HOk.kept (x:HOk P w H h) (k:∀ b u,h.get? b=some u->h'.get? b=some u):HOk P w H h':=fun a o e =>
 (x a o e).stay (fun b u _ q=>k b u q) (fun _ q=>q) fun _ _ q=>q
theorem HOk.laid (x:HOk P w H h) (k:∀ b u,h.get? b=some u->h'.get? b=some u) (hp:h.objs.size<=a) (new:ObjOk P w (upd H a o) h' a o):HOk P w (upd H a o) h':=fun b u e=>by
 have hn:=x.fresh hp
 by_cases hb:b=a
 . subst hb; rw [B7] at e; cases e; exact new
 . rw [B6 hb] at e
   exact (x b u e).stay (fun c v _ q=>k c v q) (fun c q=>by rw [B6 (C9 q hn)]; exact q) fun c xs q=>by rw [B6 (C9 q hn)]; exact q
end
def Rd (H:Hp) (a:Addr) (u:HO):Prop:=H a=some u\/∃ o,H a=some (.frz o u)
theorem Rd.ok {P:Program} {w:World} {H:Hp} {h:Heap} {a:Addr} {u:HO} (r:Rd H a u) (x:HOk P w H h):ObjOk P w H h a u:=by
 rcases r with r | ⟨o,r⟩
 . exact x a u r
 . obtain ⟨_,q⟩:=x a _ r
   exact q
def Mut:Option HO->Prop
 | some (.lst _)=>True
 | some (.dK _)=>True
 | some (.dT _)=>True
 | some (.dN _)=>True
 | some (.set _ _)=>True
 | some (.ins _ _ _)=>True
 | some (.ext _)=>True
 | _=>False
section
variable {P:Program} {w:World} {H:Hp} {h h':Heap} {x e:Addr} {o':HO}
theorem HOk.write (ok:HOk P w H h) (mu:Mut (H x)) (he:e=x\/H e=some (.own x)) (k:∀ b u,b≠e->h.get? b=some u->h'.get? b=some u) (heo:∃ u,h'.get? e=some u)
   (new:ObjOk P w (upd H x o') h' x o'):HOk P w (upd H x o') h':=fun b u q=>by
 have nown:∀ c y,H c=some (.own y)->c≠x:=fun c y r z=>by subst z; rw [r] at mu; exact mu
 have ntup:∀ c xs,H c=some (.tup xs)->c≠x:=fun c xs r z=>by subst z; rw [r] at mu; exact mu
 by_cases hb:b=x
 . subst hb; rw [B7] at q; cases q; exact new
 . rw [B6 hb] at q
   by_cases hbe:b=e
   . have q' : H b = some (.own x) := by
       rcases he with z | z
       . exact absurd (hbe.trans z) hb
       . rw [hbe]; exact z
     rw [q] at q'; cases q'
     obtain ⟨v,hv⟩:=heo; exact ⟨v,by rw [hbe]; exact hv⟩
   . refine (ok b u q).stay (fun c v hc r=>k c v ?_ r) (fun c r=>by rw [B6 (nown c b r)]; exact r) fun c xs r=>by rw [B6 (ntup c xs r)]; exact r
     rcases hc with rfl | hc
     . exact hbe
     . rintro rfl
       rcases he with z | z
       . exact nown c b hc z
       . rw [hc] at z; cases z; exact hb rfl
end
structure Un (fs ex:List Addr) (H H':Hp) (h h':Heap):Prop where
 keep:∀ b o,h.get? b=some o->H b=none->b∉fs->b∉ex->h'.get? b=some o
 slot:∀ b o,h.get? b=some o->H b=none->b∈fs->b∉ex->∃ sl,h'.get? b=some { o with slots:=sl }
 free:∀ b o,h.get? b=some o->H b=none->b∉ex->H' b=none
 there:∀ b o,h.get? b=some o->b∉ex->∃ o',h'.get? b=some o'
 tups:∀ b xs,H b=some (.tup xs)->H' b=some (.tup xs)
 frzs:∀ b o u,H b=some (.frz o u)->H' b=some (.frz o u)
 tbls:∀ b ps,H b=some (.tbl ps)->∃ more,H' b=some (.tbl (ps++more))
section
variable {fs ex:List Addr} {H H1:Hp} {h h1 h':Heap} {a x e:Addr} {o:HO}
theorem Un.any (u:Un fs ex H H1 h h1) {b:Addr} {ob:Obj} (q:h.get? b=some ob) (n:H b=none) (hx:b∉ex):∃ sl,h1.get? b=some { ob with slots:=sl }:=by
 by_cases hb:b∈fs
 . exact u.slot b ob q n hb hx
 . exact ⟨ob.slots,u.keep b ob q n hb hx⟩
theorem Un.kept (k:∀ b u,h.get? b=some u->h'.get? b=some u):Un fs ex H H h h' :=
 ⟨fun b ob q _ _ _=>k b ob q,fun b ob q _ _ _=>⟨ob.slots,k b ob q⟩,fun _ _ _ n _=>n,fun b ob q _=>⟨ob,k b ob q⟩,fun _ _ q=>q,fun _ _ _ q=>q,fun _ ps q=>⟨#[],by rw [q]; simp⟩⟩
theorem Un.refl:Un fs ex H H h h:=Un.kept fun _ _ q=>q
theorem Un.laid (k:∀ b u,h.get? b=some u->h'.get? b=some u) (hp:h.objs.size<=a) (hn:H a=none):Un fs ex H (upd H a o) h h' where
 keep:=fun b u q _ _ _=>k b u q
 slot:=fun b u q _ _ _=>⟨u.slots,k b u q⟩
 free:=fun b u q n _=>by rw [B6 (Nat.ne_of_lt (Nat.lt_of_lt_of_le (Heap.lt_size q) hp))]; exact n
 there:=fun b u q _=>⟨u,k b u q⟩
 tups:=fun b xs q=>by rw [B6 (C9 q hn)]; exact q
 frzs:=fun b u xs q=>by rw [B6 (C9 q hn)]; exact q
 tbls:=fun b ps q=>⟨#[],by rw [B6 (C9 q hn),q]; simp⟩
theorem Un.write (mu:Mut (H x)) (he:e=x\/H e=some (.own x)) (k:∀ b u,b≠e->h.get? b=some u->h'.get? b=some u) (heo:∃ u,h'.get? e=some u):Un fs ex H (upd H x o) h h':=by
 have hx:∀ b,H b=none->b≠x:=fun b n z=>by subst z; rw [n] at mu; exact mu
 have hb:∀ b,H b=none->b≠e:=fun b n z=>by
   subst z; rcases he with r | r
   . exact hx b n r
   . rw [n] at r; cases r
 have hm:∀ b u,H b=some u->¬ Mut (some u)->b≠x:=fun b u q nm z=>by subst z; rw [q] at mu; exact nm mu
 refine ⟨fun b u q n _ _=>k b u (hb b n) q,fun b u q n _ _=>⟨u.slots,k b u (hb b n) q⟩,fun b u q n _=>by rw [B6 (hx b n)]; exact n,fun b u q _=>?_,
   fun b xs q=>by rw [B6 (hm b _ q fun z=>z)]; exact q,fun b u xs q=>by rw [B6 (hm b _ q fun z=>z)]; exact q,fun b ps q=>⟨#[],by rw [B6 (hm b _ q fun z=>z),q]; simp⟩⟩
 by_cases hbe:b=e
 . subst hbe; exact heo
 . exact ⟨u,k b u hbe q⟩
end
def trk (h:Heap) (H:Hp):List Addr:=(List.range h.objs.size).filter fun a=>(H a).isSome
def Pg (h:Heap) (H:Hp):Heap:=PySem.W.hideAll h (trk h H)
theorem Yz (h:Heap) (H:Hp):(Pg h H).objs.size=h.objs.size:=PySem.W.hideAll_size _ _
theorem dQ {h:Heap} {H:Hp} {b:Addr} {o:Obj} (e:h.get? b=some o) (n:H b=none):(Pg h H).get? b=some o :=
 PySem.W.hideAll_get _ e fun hm=>by
   have q:(H b).isSome=true:=(List.mem_filter.mp hm).2; rw [n] at q; simp at q
theorem gV {h:Heap} {H:Hp} {b:Addr} {o:Obj} (e:(Pg h H).get? b=some o):h.get? b=some o/\H b=none:=by
 have e':h.get? b=some o:=PySem.W.of_hideAll (trk h H) e
 refine ⟨e',?_⟩
 cases q:H b with
 | none=>rfl
 | some x =>
   have hm:b∈trk h H:=List.mem_filter.mpr ⟨List.mem_range.mpr (Heap.lt_size e'),by simp [q]⟩
   have z:(Pg h H).get? b=none:=PySem.W.hideAll_none (trk h H) hm; rw [z] at e; cases e
def iY (g h:Heap) (L:Addr):List (Addr×Obj):=(List.range h.objs.size).filterMap fun a=>if a=L\/(g.get? a).isSome=true then none else (h.get? a).map fun o=>(a,o)
def K1 (g h:Heap) (L d:Addr):List (Addr×Obj):=(iY g h L).filter fun p=>decide (p.1≠d)
end L2
namespace L2
open PySem PySem.Spec PyProof.Rows
structure Mod (K:PySem.W.Frag) (mg:Str->Option Value) (base:Heap):Prop where
 kin:K.In base
 glob:base.Ns mainGlobals mg
 blt:∃ mb,base.Ns builtinsNs mb/\∀ x:Str,x ≠ "__name__" -> mb x=bootBuiltins x
 nolimit:base.NoLimit
structure Cx where
 prog:Program
 w:World
 K:PySem.W.Frag
 mg:Str->Option Value
 base:Heap
 A:Around
 N:List Str
 s₀:Shared
 H₀:Hp
 env:Env
 outer:List Env
 stack:List Env
 ex:List Addr
 fn:Str->Bool
 calm:Bool
 pn:List (Addr×Obj)
 xe:Value->Shared->Prop
def frs (l:List Env):List Addr:=l.filterMap (·.frame)
abbrev Cx.fs (X:Cx):List Addr:=frs X.outer
def Vis (sc:Scope) (x:Str):Prop:=sc.names.lookup x=some .local\/sc.names.lookup x=some .cell\/sc.names.lookup x=some .free
def Loc (sc:Scope) (x:Str):Prop:=sc.names.lookup x=some .local\/sc.names.lookup x=some .cell
def Look (env:Env) (h:Heap) (m:Str->Option Value) (x:Str) (u:Value):Prop :=
 (env.kindOf x=some .local/\m x=some u)\/((env.kindOf x=some .cell\/env.kindOf x=some .free)/\∃ c,env.cells.lookup x=some c/\h.IsCell c (some u))
structure Cx.Ok (X:Cx):Prop where
 mod:Mod X.K X.mg X.base
 kind:X.env.scope.kind=.function
 glob:X.env.globals=mainGlobals
 blt:X.env.builtins=builtinsNs
 above:X.s₀.heap.objs.size<=X.env.locals
 inj:∀ x y c,X.env.cells.lookup x=some c->X.env.cells.lookup y=some c->x=y
 has:∀ x,(X.env.kindOf x=some .cell\/X.env.kindOf x=some .free)->∃ c,X.env.cells.lookup x=some c
 cab:∀ x c,X.fn x=true->X.env.cells.lookup x=some c->X.s₀.heap.objs.size<=c
 hd:X.calm=true->X.A.handled=none
 frames:X.A.frames=some X.stack
 stk:X.stack=X.outer\/(X.stack=X.env::X.outer/\X.env.frame=some X.env.locals)
 exf:∀ b∈X.ex,b≠X.env.locals/\∀ x c,X.env.cells.lookup x=some c->c≠b
 bs:∀ b o,X.base.get? b=some o->X.s₀.heap.get? b=some o/\X.H₀ b=none
 bsz:X.base.objs.size<=X.s₀.heap.objs.size
 noex:∀ b o,X.base.get? b=some o->b∉X.ex
 exfs:∀ b∈X.ex,b∉X.fs
 funs:X.s₀.heap.FunFrames X.base X.outer
 frf:∀ b∈X.fs,X.H₀ b=none
structure Inv (X:Cx) (pins:List (Addr×Obj)) (Z:List (Option V)) (H:Hp) (s:Shared):Prop where
 ok:X.Ok
 os:s.os=X.s₀.os
 bare:AllBare s.gens
 base:Un X.fs X.ex X.H₀ H X.s₀.heap s.heap
 loc:∃ m,s.heap.Ns X.env.locals m/\∀ (i:Nat) (x:Str) (v:V),X.N[i]? = some x->Z[i]? = some (some v)->Vis X.env.scope x->∃ u,RelV v u/\Look X.env s.heap m x u
 cell:∀ x c,X.env.cells.lookup x=some c->∃ v,s.heap.IsCell c v
 free:H X.env.locals=none
 freeC:∀ x c,X.env.cells.lookup x=some c->H c=none
 pin:∀ p∈X.pn++pins,s.heap.get? p.1=some p.2/\H p.1=none/\p.1≠X.env.locals/\p.1∉X.fs/\∀ v,p.2.data≠.cell v
 hok:HOk X.prog X.w H s.heap
 len:Z.length=X.N.length
section
variable {X:Cx} {pins:List (Addr×Obj)} {Z:List (Option V)} {H H':Hp} {s:Shared} {h':Heap}
theorem Cx.Ok.nofr (ok:X.Ok) {b:Addr} {o:Obj} (e:X.base.get? b=some o):b∉X.fs:=fun hb=>by
 have:=(ok.funs.mem hb).1
 rw [e] at this; cases this
theorem Inv.bs (I:Inv X pins Z H s):∀ b o,X.base.get? b=some o->s.heap.get? b=some o/\H b=none:=fun b o e =>
 ⟨I.base.keep b o (I.ok.bs b o e).1 (I.ok.bs b o e).2 (I.ok.nofr e) (I.ok.noex b o e),I.base.free b o (I.ok.bs b o e).1 (I.ok.bs b o e).2 (I.ok.noex b o e)⟩
theorem Inv.bk (I:Inv X pins Z H s):∀ b o,X.base.get? b=some o->s.heap.get? b=some o:=fun b o e=>(I.bs b o e).1
theorem Inv.mod (I:Inv X pins Z H s):Mod X.K X.mg X.base:=I.ok.mod
theorem Inv.kIn (I:Inv X pins Z H s):X.K.In s.heap:=I.ok.mod.kin.keeps I.bk
theorem Inv.fr (I:Inv X pins Z H s):∃ m,Fr X.base X.env.locals s.heap m :=
 let ⟨m,hn,_⟩:=I.loc
 ⟨m,hn,I.bk,Nat.le_trans I.ok.bsz I.ok.above⟩
theorem Inv.lt (I:Inv X pins Z H s):X.env.locals < s.heap.objs.size:=let ⟨_,hn,_⟩:=I.loc; hn.lt
theorem Inv.sz (I:Inv X pins Z H s):X.s₀.heap.objs.size<=s.heap.objs.size:=Nat.le_trans I.ok.above (Nat.le_of_lt I.lt)
theorem Inv.nofs (I:Inv X pins Z H s) {a:Addr} (h:s.heap.objs.size<=a):a∉X.fs:=fun hb=>by
 obtain ⟨_,o,ho,_⟩:=I.ok.funs.mem hb
 exact absurd (Nat.lt_of_lt_of_le (Heap.lt_size ho) (Nat.le_trans I.sz h)) (Nat.lt_irrefl _)
theorem Inv.cne (I:Inv X pins Z H s):∀ x c,X.env.cells.lookup x=some c->c≠X.env.locals:=fun x c e z=>by
 obtain ⟨v,o,ho,hd⟩:=I.cell x c e
 obtain ⟨m,⟨o',es,ep,ho',hd',_⟩,_⟩:=I.loc
 rw [z,ho'] at ho; cases ho; rw [hd'] at hd; cases hd
theorem Inv.funs (I:Inv X pins Z H s):s.heap.FunFrames X.base X.outer:=by
 have all:∀ (l:List Env),(∀ b∈frs l,b∈X.fs)->X.s₀.heap.FunFrames X.base l->s.heap.FunFrames X.base l:=by
   intro l
   induction l with
   | nil=>intro _ _; trivial
   | cons env r ih =>
     intro hs hl; obtain ⟨hk,⟨L,o,hf,hn,ho,hd⟩,hr⟩:=hl; have hL:L∈X.fs:=hs L (by unfold frs; rw [List.filterMap_cons,hf]; exact List.mem_cons_self)
     obtain ⟨sl,e⟩:=I.base.slot L o ho (I.ok.frf L hL) hL fun z=>I.ok.exfs L z hL
     exact ⟨hk,⟨L,_,hf,hn,e,hd⟩,ih (fun b hb=>hs b (by unfold frs; rw [List.filterMap_cons,hf]; exact List.mem_cons_of_mem _ hb)) hr⟩
 exact all X.outer (fun _ hb=>hb) I.ok.funs
theorem Inv.stack (I:Inv X pins Z H s):s.heap.FunFrames X.base X.stack:=by
 rcases I.ok.stk with e | ⟨e,hf⟩
 . rw [e]; exact I.funs
 . rw [e]
   obtain ⟨m,hn,_⟩:=I.loc; refine .cons (by rw [I.ok.kind]; decide) hf hn ?_ I.funs
   exact Heap.get?_none_of_le (Nat.le_trans I.ok.bsz I.ok.above)
theorem Inv.stkSub (I:Inv X pins Z H s):∀ b∈frs X.stack,b∈X.env.locals::X.fs:=fun b hb=>by
 rcases I.ok.stk with e | ⟨e,hf⟩
 . rw [e] at hb; exact List.mem_cons_of_mem _ hb
 . rw [e] at hb
   unfold frs at hb; rw [List.filterMap_cons,hf] at hb; exact hb
theorem Inv.stkFree (I:Inv X pins Z H s):∀ b∈frs X.stack,H b=none:=fun b hb=>by
 rcases List.mem_cons.mp (I.stkSub b hb) with e | hb
 . rw [e]; exact I.free
 . obtain ⟨_,o,ho,_⟩:=I.ok.funs.mem hb
   exact I.base.free b o ho (I.ok.frf b hb) fun z=>I.ok.exfs b z hb
theorem Inv.step {g':Array GenState} {t':Nat} {d':Drawn} {ch:List Addr} (I:Inv X pins Z H s)
   (hch:∀ b∈ch,(b∈X.ex\/X.s₀.heap.objs.size<=b)/\b≠X.env.locals/\(∀ x c,X.env.cells.lookup x=some c->c≠b)/\∀ p∈X.pn++pins,p.1≠b)
   (keep:∀ b o,b≠X.env.locals->b∉X.fs->b∉ch->s.heap.get? b=some o->H b=none->h'.get? b=some o)
   (slot:∀ b o,b≠X.env.locals->b∈X.fs->b∉ch->s.heap.get? b=some o->H b=none->∃ sl,h'.get? b=some { o with slots:=sl }) (free:∀ b o,b∉ch->s.heap.get? b=some o->H b=none->H' b=none)
   (there:∀ b o,b∉ch->s.heap.get? b=some o->∃ o',h'.get? b=some o')
   (tups:∀ b xs,H b=some (.tup xs)->H' b=some (.tup xs)) (frzs:∀ b o u,H b=some (.frz o u)->H' b=some (.frz o u)) (tbls:∀ b ps,H b=some (.tbl ps)->∃ more,H' b=some (.tbl (ps++more)))
   (ns:∀ m,s.heap.Ns X.env.locals m->h'.Ns X.env.locals m) (hok:HOk X.prog X.w H' h') (hg:AllBare g') :
   Inv X pins Z H' { s with heap:=h',gens:=g',drawn:=d',toks:=t' }:=by
 have neL:∀ b o,X.s₀.heap.get? b=some o->b≠X.env.locals:=fun b o e=>Nat.ne_of_lt (Nat.lt_of_lt_of_le (Heap.lt_size e) I.ok.above)
 have neC:∀ b o,X.s₀.heap.get? b=some o->b∉X.ex->b∉ch:=fun b o e hx hb=>by
   rcases (hch b hb).1 with z | z
   . exact hx z
   . exact absurd (Nat.lt_of_lt_of_le (Heap.lt_size e) z) (Nat.lt_irrefl _)
 have cellK:∀ x c,X.env.cells.lookup x=some c->∀ v,s.heap.IsCell c v->h'.IsCell c v:=fun x c e v ⟨o,ho,hd⟩=>by
   have nch:c∉ch:=fun z=>(hch c z).2.2.1 x c e rfl
   by_cases hc:c∈X.fs
   . obtain ⟨sl,q⟩:=slot c o (I.cne x c e) hc nch ho (I.freeC x c e)
     exact ⟨_,q,hd⟩
   . exact ⟨o,keep c o (I.cne x c e) hc nch ho (I.freeC x c e),hd⟩
 refine ⟨I.ok,I.os,hg,⟨fun b o e n hb hx=>?_,fun b o e n hb hx=>?_,fun b o e n hx=>?_,fun b o e hx=>?_,fun b xs e=>tups b xs (I.base.tups b xs e),fun b o xs e=>frzs b o xs (I.base.frzs b o xs e),fun b ps e=>?_⟩,?_,fun x c e=>?_,?_,fun x c e=>?_,fun p hp=>?_,hok,I.len⟩
 . exact keep b o (neL b o e) hb (neC b o e hx) (I.base.keep b o e n hb hx) (I.base.free b o e n hx)
 . obtain ⟨sl,e1⟩:=I.base.slot b o e n hb hx
   obtain ⟨sl',e2⟩:=slot b _ (neL b o e) hb (neC b o e hx) e1 (I.base.free b o e n hx); exact ⟨sl',e2⟩
 . obtain ⟨o',e1⟩:=I.base.there b o e hx
   exact free b o' (neC b o e hx) e1 (I.base.free b o e n hx)
 . obtain ⟨o',e1⟩:=I.base.there b o e hx
   exact there b o' (neC b o e hx) e1
 . obtain ⟨m1,e1⟩:=I.base.tbls b ps e
   obtain ⟨m2,e2⟩:=tbls b _ e1; exact ⟨m1++m2,by rw [e2,Array.append_assoc]⟩
 . obtain ⟨m,hn,hl⟩:=I.loc
   refine ⟨m,ns m hn,fun i x v e1 e2 e3=>?_⟩
   obtain ⟨u,r,l⟩:=hl i x v e1 e2 e3; refine ⟨u,r,?_⟩; rcases l with l | ⟨k,c,e,z⟩
   . exact .inl l
   . exact .inr ⟨k,c,e,cellK x c e _ z⟩
 . obtain ⟨v,z⟩:=I.cell x c e
   exact ⟨v,cellK x c e v z⟩
 . obtain ⟨m,⟨o,_,_,ho,_⟩,_⟩:=I.loc
   exact free _ o (fun z=>(hch _ z).2.1 rfl) ho I.free
 . obtain ⟨v,o,ho,hd⟩:=I.cell x c e
   exact free c o (fun z=>(hch c z).2.2.1 x c e rfl) ho (I.freeC x c e)
 . obtain ⟨e,n,ne,nf,d⟩:=I.pin p hp
   have nch:p.1∉ch:=fun z=>(hch p.1 z).2.2.2 p hp rfl
   exact ⟨keep p.1 p.2 ne nf nch e n,free p.1 p.2 nch e n,ne,nf,d⟩
theorem Inv.un {t':Nat} (I:Inv X pins Z H s) (u:Un X.fs [] H H' s.heap h') (hok:HOk X.prog X.w H' h'):Inv X pins Z H' { s with heap:=h',toks:=t' }:=by
 obtain ⟨m,⟨o,es,ep,ho,r⟩,_⟩:=id I.loc
 obtain ⟨sl,hL⟩:=u.any ho I.free (by simp)
 exact I.step (g':=s.gens) (d':=s.drawn) (ch:=[]) (fun _ z=>nomatch z) (fun b o _ hb _ e n=>u.keep b o e n hb (by simp)) (fun b o _ hb _ e n=>u.slot b o e n hb (by simp)) (fun b o _ e n=>u.free b o e n (by simp)) (fun b o _ e=>u.there b o e (by simp)) u.tups u.frzs u.tbls (fun m' hm=>by
   obtain ⟨o',es',ep',ho',r'⟩:=hm; rw [ho] at ho'; cases ho'; exact ⟨_,es',ep',hL,r'⟩) hok I.bare
theorem Inv.call {g':Array GenState} {t':Nat} {d':Drawn} {ch:List Addr} (I:Inv X pins Z H s) (u:Un (frs X.stack) ch H H' s.heap h') (hok:HOk X.prog X.w H' h') (hg:AllBare g')
   (hch:∀ b∈ch,(b∈X.ex\/X.s₀.heap.objs.size<=b)/\b≠X.env.locals/\(∀ x c,X.env.cells.lookup x=some c->c≠b)/\∀ p∈X.pn++pins,p.1≠b) :
   Inv X pins Z H' { s with heap:=h',gens:=g',drawn:=d',toks:=t' }:=by
 obtain ⟨m,⟨o,es,ep,ho,r⟩,_⟩:=id I.loc
 obtain ⟨sl,hL⟩:=u.any ho I.free fun z=>(hch _ z).2.1 rfl
 exact I.step (ch:=ch) hch (fun b o hL hb hc e n=>u.keep b o e n (fun z=>(List.mem_cons.mp (I.stkSub b z)).elim hL hb) hc) (fun b o _ _ hc e n=>u.any e n hc) (fun b o hc e n=>u.free b o e n hc) (fun b o hc e=>u.there b o e hc) u.tups u.frzs u.tbls (fun m' hm=>by
   obtain ⟨o',es',ep',ho',r'⟩:=hm; rw [ho] at ho'; cases ho'; exact ⟨_,es',ep',hL,r'⟩) hok hg
theorem Inv.turned {t':Nat} {it:Addr} (I:Inv X pins Z H s) (k:∀ b o,b≠it->s.heap.get? b=some o->h'.get? b=some o) (hn:H it=none) (hL:it≠X.env.locals)
   (h1:it∈X.ex\/X.s₀.heap.objs.size<=it) (h2:∀ x c,X.env.cells.lookup x=some c->c≠it) (h3:∀ p∈X.pn++pins,p.1≠it):Inv X pins Z H { s with heap:=h',toks:=t' }:=by
 have nit:∀ b u,H b=some u->b≠it:=fun b u e z=>by rw [z,hn] at e; cases e
 refine I.step (g':=s.gens) (d':=s.drawn) (ch:=[it]) (fun b hb=>?_) (fun b o _ _ hc e _=>k b o (fun z=>hc (by simp [z])) e) (fun b o _ _ hc e _=>⟨o.slots,k b o (fun z=>hc (by simp [z])) e⟩) (fun _ _ _ _ n=>n)
   (fun b o hc e=>⟨o,k b o (fun z=>hc (by simp [z])) e⟩) (fun _ _ e=>e) (fun _ _ _ e=>e) (fun b ps e=>⟨#[],by rw [e]; simp⟩) (fun m hm=>?_) (fun b u e=>?_) I.bare
 . have e:b=it:=by simpa using hb
   subst e; exact ⟨h1,hL,h2,h3⟩
 . obtain ⟨o,es,ep,ho,r⟩:=hm
   exact ⟨o,es,ep,k _ o (Ne.symm hL) ho,r⟩
 . refine (I.hok b u e).stay (fun c v hc q=>k c v ?_ q) (fun _ q=>q) fun _ _ q=>q
   rcases hc with z | z
   . rw [z]; exact nit b u e
   . exact nit c _ z
theorem Inv.tok (I:Inv X pins Z H s) (t:Nat):Inv X pins Z H { s with toks:=t }:=I.un (h':=s.heap) (t':=t) Un.refl I.hok
theorem Inv.kept {t':Nat} (I:Inv X pins Z H s) (k:∀ b u,s.heap.get? b=some u->h'.get? b=some u):Inv X pins Z H { s with heap:=h',toks:=t' }:=I.un (Un.kept k) (I.hok.kept k)
theorem Inv.laid {a:Addr} {o:HO} {t':Nat} (I:Inv X pins Z H s) (k:∀ b u,s.heap.get? b=some u->h'.get? b=some u) (hp:s.heap.objs.size<=a) (new:ObjOk X.prog X.w (upd H a o) h' a o) :
   Inv X pins Z (upd H a o) { s with heap:=h',toks:=t' }:=I.un (Un.laid k hp (I.hok.fresh hp)) (I.hok.laid k hp new)
theorem Inv.write {x e:Addr} {o:HO} {t':Nat} (I:Inv X pins Z H s) (mu:Mut (H x)) (he:e=x\/H e=some (.own x)) (k:∀ b u,b≠e->s.heap.get? b=some u->h'.get? b=some u) (heo:∃ u,h'.get? e=some u)
   (new:ObjOk X.prog X.w (upd H x o) h' x o):Inv X pins Z (upd H x o) { s with heap:=h',toks:=t' }:=I.un (Un.write mu he k heo) (I.hok.write mu he k heo new)
theorem Inv.weak {Z':List (Option V)} (I:Inv X pins Z H s) (hl:Z'.length=Z.length) (w:∀ (i:Nat) v,Z'[i]? = some (some v)->Z[i]? = some (some v)):Inv X pins Z' H s :=
 ⟨I.ok,I.os,I.bare,I.base,let ⟨m,hn,hl'⟩:=I.loc; ⟨m,hn,fun i x v e1 e2 e3=>hl' i x v e1 (w i v e2) e3⟩,I.cell,I.free,I.freeC,I.pin,I.hok,hl.trans I.len⟩
theorem Inv.pins_of {pins':List (Addr×Obj)} (I:Inv X pins Z H s) (h:∀ p∈pins',s.heap.get? p.1=some p.2/\H p.1=none/\p.1≠X.env.locals/\p.1∉X.fs/\∀ v,p.2.data≠.cell v):Inv X pins' Z H s :=
 ⟨I.ok,I.os,I.bare,I.base,I.loc,I.cell,I.free,I.freeC,fun p hp=>(List.mem_append.mp hp).elim (fun z=>I.pin p (List.mem_append_left _ z)) (h p),I.hok,I.len⟩
theorem Rr {N:List Str} (hN:N.Nodup) {i j:Nat} {x:Str} (a:N[i]? = some x) (b:N[j]? = some x):i=j:=by
 obtain ⟨h1,e1⟩:=List.getElem?_eq_some_iff.mp a
 obtain ⟨h2,e2⟩:=List.getElem?_eq_some_iff.mp b
 exact (List.getElem_inj hN).mp (e1.trans e2.symm)
theorem Mf {M:Model} {A:Around} {E:Value->Shared->Prop} {i:Nat} {x:Str} {v:V} {u:Value} {Q:Unit->Shared->Prop} (I:Inv X pins Z H s) (hN:X.N.Nodup) (hi:X.N[i]? = some x) (hx:Loc X.env.scope x) (r:RelV v u)
   (h:∀ s',Inv X pins (Z.set i (some v)) H s'->(∃ a,Heap.SameBut a s.heap s'.heap/\(a=X.env.locals\/X.env.cells.lookup x=some a))->Q () s') (hf:X.fn x=true\/X.env.scope.names.lookup x=some .local:=by first | exact .inl rfl | exact .inr rfl | assumption):wpAny M A (storeName X.env x u) Q E s:=by
 obtain ⟨m,hn,hl⟩:=id I.loc
 have hcls:(X.env.scope.kind==.class||(X.env.scope.kind==.module&&X.env.locals != X.env.globals))=false:=by rw [I.ok.kind]; rfl
 have hiσ:i < Z.length:=by rw [I.len]; exact (List.getElem?_eq_some_iff.mp hi).1
 have cne:=I.cne
 have tracked:∀ {a:Addr} {h':Heap},(∃ o,s.heap.get? a=some o/\H a=none)->Heap.SameBut a s.heap h'->HOk X.prog X.w H h':=fun {a h'} ha hs b ob e=>by
   obtain ⟨_,_,hfree⟩:=ha; refine (I.hok b ob e).stay (fun c w' hc q=>(hs.2 c ?_).trans q) (fun _ q=>q) fun _ _ q=>q
   rintro rfl
   rcases hc with rfl | hc
   . rw [hfree] at e; cases e
   . rw [hfree] at hc; cases hc
 rcases hx with hk | hk
 . refine wpAny_storeName_local hk hn (fun h' hn' hs=>?_) hcls
   obtain ⟨oL,_,_,hoL,_⟩:=id hn; refine h _ ⟨I.ok,I.os,I.bare,⟨fun b o e n hb hx=>?_,fun b o e n hb hx=>?_,I.base.free,fun b o e hx=>?_,I.base.tups,I.base.frzs,I.base.tbls⟩,⟨_,hn',fun j y v' e1 e2 e3=>?_⟩,fun y c e=>?_,I.free,I.freeC,fun p hp=>?_,tracked ⟨oL,hoL,I.free⟩ hs,by simpa using I.len⟩ ⟨_,hs,.inl rfl⟩
   . exact (hs.2 b (Nat.ne_of_lt (Nat.lt_of_lt_of_le (Heap.lt_size e) I.ok.above))).trans (I.base.keep b o e n hb hx)
   . obtain ⟨sl,e1⟩:=I.base.slot b o e n hb hx
     exact ⟨sl,(hs.2 b (Nat.ne_of_lt (Nat.lt_of_lt_of_le (Heap.lt_size e) I.ok.above))).trans e1⟩
   . obtain ⟨o',e1⟩:=I.base.there b o e hx
     exact ⟨o',(hs.2 b (Nat.ne_of_lt (Nat.lt_of_lt_of_le (Heap.lt_size e) I.ok.above))).trans e1⟩
   . by_cases hj:j=i
     . subst hj
       rw [hi] at e1; cases e1
       rw [List.getElem?_set_self hiσ] at e2; cases e2; exact ⟨u,r,.inl ⟨hk,by simp⟩⟩
     . rw [List.getElem?_set_ne (Ne.symm hj)] at e2
       obtain ⟨u',r',q⟩:=hl j y v' e1 e2 e3; refine ⟨u',r',?_⟩; rcases q with ⟨k,e⟩ | ⟨k,c,e,z⟩
       . refine .inl ⟨k,?_⟩
         have:y≠x:=fun e=>hj (Rr hN e1 (e▸hi))
         simp [this,e]
       . exact .inr ⟨k,c,e,z.sameBut hs (cne y c e)⟩
   . obtain ⟨w',z⟩:=I.cell y c e
     exact ⟨w',z.sameBut hs (cne y c e)⟩
   . obtain ⟨e,n,ne,nf,d⟩:=I.pin p hp
     exact ⟨(hs.2 p.1 ne).trans e,n,ne,nf,d⟩
 . have hfn : X.fn x = true := by
     rcases hf with z | z
     . exact z
     . rw [z] at hk; cases hk
   obtain ⟨c,hc⟩:=I.ok.has x (.inl hk); obtain ⟨w',z⟩:=I.cell x c hc; refine wpAny_storeName_cell I.ok.kind hk hc z (fun h' hc' hs=>?_)
   obtain ⟨oc,hoc,hocd⟩:=id z; refine h { s with heap:=h' } ⟨I.ok,I.os,I.bare,⟨fun b o e n hb hx=>?_,fun b o e n hb hx=>?_,I.base.free,fun b o e hx=>?_,I.base.tups,I.base.frzs,I.base.tbls⟩,⟨m,hn.sameBut hs (Ne.symm (cne x c hc)),fun j y v' e1 e2 e3=>?_⟩,fun y c' e=>?_,I.free,I.freeC,fun p hp=>?_,tracked ⟨oc,hoc,I.freeC x c hc⟩ hs,by simpa using I.len⟩ ⟨c,hs,.inr hc⟩
   . exact (hs.2 b (Nat.ne_of_lt (Nat.lt_of_lt_of_le (Heap.lt_size e) (I.ok.cab x c hfn hc)))).trans (I.base.keep b o e n hb hx)
   . obtain ⟨sl,e1⟩:=I.base.slot b o e n hb hx
     exact ⟨sl,(hs.2 b (Nat.ne_of_lt (Nat.lt_of_lt_of_le (Heap.lt_size e) (I.ok.cab x c hfn hc)))).trans e1⟩
   . obtain ⟨o',e1⟩:=I.base.there b o e hx
     exact ⟨o',(hs.2 b (Nat.ne_of_lt (Nat.lt_of_lt_of_le (Heap.lt_size e) (I.ok.cab x c hfn hc)))).trans e1⟩
   . by_cases hj:j=i
     . subst hj
       rw [hi] at e1; cases e1
       rw [List.getElem?_set_self hiσ] at e2; cases e2; exact ⟨u,r,.inr ⟨.inl hk,c,hc,hc'⟩⟩
     . rw [List.getElem?_set_ne (Ne.symm hj)] at e2
       obtain ⟨u',r',q⟩:=hl j y v' e1 e2 e3; refine ⟨u',r',?_⟩; rcases q with q | ⟨k,c',e,z'⟩
       . exact .inl q
       . refine .inr ⟨k,c',e,z'.sameBut hs ?_⟩
         rintro rfl
         exact hj (Rr hN e1 (I.ok.inj _ _ _ e hc▸hi))
   . by_cases hcc:c'=c
     . subst hcc; exact ⟨_,hc'⟩
     . obtain ⟨w2,z2⟩:=I.cell y c' e
       exact ⟨w2,z2.sameBut hs hcc⟩
   . obtain ⟨e,n,ne,nf,d⟩:=I.pin p hp
     refine ⟨(hs.2 p.1 ?_).trans e,n,ne,nf,d⟩; intro q; rw [q,hoc] at e; have q':oc=p.2:=Option.some.inj e; exact d w' (by rw [<- q']; exact hocd)
theorem Qk {M:Model} {A:Around} {E:Value->Shared->Prop} {i:Nat} {x:Str} {v:V} {u:Value} {Q:Unit->Shared->Prop} (I:Inv X pins Z H s) (hN:X.N.Nodup) (hi:X.N[i]? = some x) (hx:Loc X.env.scope x) (r:RelV v u)
   (h:∀ s',Inv X pins (Z.set i (some v)) H s'->Q () s') (hf:X.fn x=true\/X.env.scope.names.lookup x=some .local:=by first | exact .inl rfl | exact .inr rfl | assumption):wpAny M A (storeName X.env x u) Q E s :=
 Mf I hN hi hx r (fun s' I' _=>h s' I') hf
theorem Inv.call' {s':Shared} {ch:List Addr} (I:Inv X pins Z H s) (ho:s'.os=s.os) (u:Un (frs X.stack) ch H H' s.heap s'.heap) (hok:HOk X.prog X.w H' s'.heap) (hg:AllBare s'.gens)
   (hch:∀ b∈ch,(b∈X.ex\/X.s₀.heap.objs.size<=b)/\b≠X.env.locals/\(∀ x c,X.env.cells.lookup x=some c->c≠b)/\∀ p∈X.pn++pins,p.1≠b):Inv X pins Z H' s':=by
 obtain ⟨h',g',d',t',o'⟩:=s'
 have e:o'=s.os:=ho
 subst e
 exact I.call (g':=g') (t':=t') (d':=d') u hok hg hch
end
abbrev XK:=Value->Option Addr->Hp->Prop
abbrev St:=List (Option V)
abbrev VK:=V->Hp->Prop
abbrev TE:=St->Hp->VK->Prop
abbrev TT:=St->Hp->(Bool->Hp->Prop)->Prop
abbrev TA:=St->Hp->(List V->Hp->Prop)->Prop
structure Ends where
 nx:St->Hp->Prop
 rt:VK
 bk:St->Hp->Prop:=fun _ _=>False
 ct:St->Hp->Prop:=fun _ _=>False
abbrev TS:=Ends->St->Hp->Prop
def EP (X:Cx) (pins:List (Addr×Obj)) (Z:St) (Q:VK) (u:Value) (s':Shared):Prop:=∃ v H',Inv X pins Z H' s'/\RelV v u/\Q v H'
def TP (X:Cx) (pins:List (Addr×Obj)) (Z:St) (Q:Bool->Hp->Prop) (b:Bool) (s':Shared):Prop:=∃ H',Inv X pins Z H' s'/\Q b H'
def AP (X:Cx) (pins:List (Addr×Obj)) (Z:St) (Q:List V->Hp->Prop) (us:List Value) (s':Shared):Prop:=∃ vs H',Inv X pins Z H' s'/\Vals vs us/\Q vs H'
def SP (X:Cx) (pins:List (Addr×Obj)) (D:Ends) (f:Flow) (s':Shared):Prop :=
 match f with
 | .next=>∃ Z' H',Inv X pins Z' H' s'/\D.nx Z' H'
 | .brk=>∃ Z' H',Inv X pins Z' H' s'/\D.bk Z' H'
 | .cont=>∃ Z' H',Inv X pins Z' H' s'/\D.ct Z' H'
 | .ret u=>∃ v Z' H',Inv X pins Z' H' s'/\RelV v u/\D.rt v H'
def PE (X:Cx) (e:Expr) (t:TE):Prop :=
 ∀ (pins:List (Addr×Obj)) (s:Shared) (Z:St) (H:Hp) (Q:VK),Inv X pins Z H s->t Z H Q->wpAny (model X.prog X.w) X.A (eval e X.env) (EP X pins Z Q) X.xe s
def PT (X:Cx) (e:Expr) (t:TT):Prop :=
 ∀ (pins:List (Addr×Obj)) (s:Shared) (Z:St) (H:Hp) (Q:Bool->Hp->Prop),Inv X pins Z H s->t Z H Q->wpAny (model X.prog X.w) X.A (isTrue e X.env (eval e X.env)) (TP X pins Z Q) X.xe s
def PW (X:Cx) (e:Expr) (t:TT):Prop :=
 ∀ (whole:Sem Value) (pins:List (Addr×Obj)) (s:Shared) (Z:St) (H:Hp) (Q:Bool->Hp->Prop),Inv X pins Z H s->t Z H Q->wpAny (model X.prog X.w) X.A (isTrue e X.env whole) (TP X pins Z Q) X.xe s
theorem PW.pt {X:Cx} {e:Expr} {t:TT} (h:PW X e t):PT X e t:=h _
def PA (X:Cx) (es:List Expr) (t:TA):Prop :=
 ∀ (pos:Pos) (pins:List (Addr×Obj)) (s:Shared) (Z:St) (H:Hp) (Q:List V->Hp->Prop),Inv X pins Z H s->t Z H Q->wpAny (model X.prog X.w) X.A (spliced (backTo pos (starEach es X.env))) (AP X pins Z Q) X.xe s
def PS (X:Cx) (st:Stmt) (t:TS):Prop :=
 ∀ (pins:List (Addr×Obj)) (s:Shared) (Z:St) (H:Hp) (D:Ends),Inv X pins Z H s->t D Z H->wpAny (model X.prog X.w) X.A (exec st X.env) (SP X pins D) X.xe s
def PSs (X:Cx) (st:List Stmt) (t:TS):Prop :=
 ∀ (pins:List (Addr×Obj)) (s:Shared) (Z:St) (H:Hp) (D:Ends),Inv X pins Z H s->t D Z H->wpAny (model X.prog X.w) X.A (execs st X.env) (SP X pins D) X.xe s
theorem thn {α:Type} {t:Sem α} {Q Q':α->Shared->Prop} {M:Model} {A:Around} {E:Value->Shared->Prop} {s:Shared} (h:wpAny M A t Q E s) (hQ:∀ a s,Q a s->Q' a s):wpAny M A t Q' E s:=wpAny_mono h hQ fun _ _ x=>x
end L2
namespace L2
open PySem PySem.Spec PyProof.Rows
section
variable {X:Cx}
theorem bin {a b:Expr} {ta tb:TE} (ha:PE X a ta) (hb:PE X b tb) {pins:List (Addr×Obj)} {s:Shared} {Z:St} {H:Hp} {R:V->V->Hp->Prop} (I:Inv X pins Z H s) (h:ta Z H fun x H1=>tb Z H1 fun y H2=>R x y H2)
   {α:Type} {Q:α->Shared->Prop} {f:Value->Value->Sem α}
   (hf:∀ v u s2 x y H2,Inv X pins Z H2 s2->RelV x v->RelV y u->R x y H2->wpAny (model X.prog X.w) X.A (f v u) Q X.xe s2) :
   wpAny (model X.prog X.w) X.A (eval a X.env) (fun v s₁=>wpAny (model X.prog X.w) X.A (eval b X.env) (fun u s₂=>wpAny (model X.prog X.w) X.A (f v u) Q X.xe s₂) X.xe s₁) X.xe s:=by
 refine thn (ha pins s Z H _ I h) fun v s1 ⟨x,H1,I1,r1,q1⟩=>?_
 refine thn (hb pins s1 Z H1 _ I1 q1) fun u s2 ⟨y,H2,I2,r2,q2⟩=>?_
 exact hf v u s2 x y H2 I2 r1 r2 q2
def fH (i:Nat):TE:=fun Z H Q=>∃ v,Z[i]? = some (some v)/\Q v H
def tC (v:V):TE:=fun _ H Q=>Q v H
theorem Uf {i:Nat} {x:Str} {pos:Pos} (hN:X.N[i]? = some x) (hv:Vis X.env.scope x) (hd:(x==("__debug__" : Str))=false:=by decide) (hcd:(x==("__classdict__" : Str))=false:=by decide):PE X (.Name x pos) (fH i):=by
 intro pins s Z H Q I h
 obtain ⟨v,e,h⟩:=h
 obtain ⟨m,hn,hl⟩:=I.loc
 obtain ⟨u,r,l⟩:=hl i x v hN e hv
 have fin:EP X pins Z Q u s:=⟨v,H,I,r,h⟩
 rcases l with ⟨hk,hm⟩ | ⟨hk,c,hc,hcell⟩
 . exact wpAny_Name (wpAny_loadName_local I.ok.kind hk hn hm fin) hd
 . rcases hk with hk | hk
   . exact wpAny_Name (wpAny_loadName_cell I.ok.kind hk hc hcell fin) hd
   . exact wpAny_Name (wpAny_loadName_free I.ok.kind hk hc hcell fin hcd) hd
theorem lK {i j pos}:PE X (.Constant (.int i) j pos) (tC (.int i)):=fun _ _ _ H _ I h=>wpAny_Constant_int ⟨.int i,H,I.tok _,⟨_,rfl⟩,h⟩
theorem pe_bl {b j pos}:PE X (.Constant (.bool b) j pos) (tC (.bl b)):=fun _ _ _ H _ I h=>Constant_bool ⟨.bl b,H,I,rfl,h⟩
theorem lI {j pos}:PE X (.Constant .none j pos) (tC .non):=fun _ _ _ H _ I h=>Constant_none ⟨.non,H,I,rfl,h⟩
theorem bX {x j pos}:PE X (.Constant (.str x) j pos) (tC (.str x)):=fun _ _ _ H _ I h=>Calls.Constant_str ⟨.str x,H,I.tok _,⟨_,rfl⟩,h⟩
def Gl (X:Cx) (x:Str):Prop:=X.env.kindOf x=some .globalImplicit
theorem hU {E:Value->Shared->Prop} {pins:List (Addr×Obj)} {s:Shared} {Z:St} {H:Hp} {x:Str} {u:Value} {pos:Pos} {Q:Value->Shared->Prop} (I:Inv X pins Z H s) (hg:Gl X x) (hm:X.mg x=some u) (h:Q u s)
   (hd:(x==("__debug__" : Str))=false:=by decide):wpAny (model X.prog X.w) X.A (eval (.Name x pos) X.env) Q E s :=
 Calls.Name_function_global I.ok.kind hg (Calls.loadGlobal_global (by rw [I.ok.glob]; exact I.mod.glob.keeps I.bk) hm h) hd
theorem Fv {E:Value->Shared->Prop} {pins:List (Addr×Obj)} {s:Shared} {Z:St} {H:Hp} {x:Str} {u:Value} {pos:Pos} {Q:Value->Shared->Prop} (I:Inv X pins Z H s) (hg:Gl X x) (hm:X.mg x=none) (hv:bootBuiltins x=some u) (h:Q u s)
   (hn:x ≠ "__name__" := by decide) (hd:(x==("__debug__" : Str))=false:=by decide):wpAny (model X.prog X.w) X.A (eval (.Name x pos) X.env) Q E s:=by
 obtain ⟨mb,h1,h2⟩:=I.mod.blt
 exact Calls.Name_function_global I.ok.kind hg (Calls.loadGlobal_builtin (by rw [I.ok.glob]; exact I.mod.glob.keeps I.bk) hm (by rw [I.ok.blt]; exact h1.keeps I.bk) ((h2 x hn).trans hv) h) hd
variable {a b:Expr} {ta tb:TE} {pos:Pos}
def PC (X:Cx) (op:CmpOp) (a b:Expr) (t:TE):Prop :=
 ∀ (pins:List (Addr×Obj)) (s:Shared) (Z:St) (H:Hp) (Q:VK),Inv X pins Z H s->t Z H Q ->
   wpAny (model X.prog X.w) X.A (eval a X.env) (fun v s₁=>wpAny (model X.prog X.w) X.A (eval b X.env) (fun u s₂=>wpAny (model X.prog X.w) X.A (compareOp op v u) (EP X pins Z Q) X.xe s₂) X.xe s₁) X.xe s
theorem Rs (b:Expr) {op:CmpOp} (h:op≠.In) (h2:op≠.NotIn):behindInMarks op b=false:=by
 have e1:(op==CmpOp.In)=false:=by cases op <;> first | rfl | exact absurd rfl h
 have e2:(op==CmpOp.NotIn)=false:=by cases op <;> first | rfl | exact absurd rfl h2
 cases b <;> simp [behindInMarks,e1,e2]
def tB (t:TE):TT:=fun Z H Q=>t Z H fun x H1=>∃ c,x=.bl c/\Q c H1
theorem cF {op:CmpOp} {t:TE} (h:PC X op a b t) (h1:behindInMarks op b=false:=by first | exact Rs _ (by decide) (by decide) | rfl):PE X (.Compare a [op] [b] pos) t:=fun pins s Z H Q I hw=>wpAny_Compare1 (h pins s Z H Q I hw) h1
theorem lD {op:CmpOp} {t:TE} (h:PC X op a b t) (h1:behindInMarks op b=false:=by first | exact Rs _ (by decide) (by decide) | rfl):PT X (.Compare a [op] [b] pos) (tB t):=by
 intro pins s Z H Q I hw
 refine wpAny_isTrue_Compare1 (thn (h pins s Z H _ I hw) fun v s1 h1=>thn h1 fun u s2 h2=>thn h2 fun c s3 ⟨x,H1,I1,r1,q1⟩=>?_) h1
 obtain ⟨d,rfl,q⟩:=q1
 cases r1
 exact wpAny_truthy_bool ⟨H1,I1,q⟩
variable {tA tB':TT} {K1:List Expr}
def tAnd (t u:TT):TT:=fun Z H Q=>t Z H fun c H1=>if c=true then u Z H1 Q else Q false H1
def tOr (t u:TT):TT:=fun Z H Q=>t Z H fun c H1=>if c=true then Q true H1 else u Z H1 Q
def tNot (t:TT):TT:=fun Z H Q=>t Z H fun c H1=>Q (!c) H1
theorem gE (ha:PT X a tA):PW X (.BoolOp .And [a] pos) tA:=by
 intro wh pins s Z H Q I h
 refine isTrue_and (thn (ha pins s Z H Q I h) fun c s1 e=>?_)
 cases c with
 | true=>exact isTrue_and_nil e
 | false=>exact e
theorem kZ (ha:PT X a tA):PW X (.BoolOp .Or [a] pos) tA:=by
 intro wh pins s Z H Q I h
 refine isTrue_or (thn (ha pins s Z H Q I h) fun c s1 e=>?_)
 cases c with
 | false=>exact isTrue_or_nil e
 | true=>exact e
theorem lA (ha:PT X a tA) (hb:PW X (.BoolOp .And (b::K1) pos) tB'):PW X (.BoolOp .And (a::b::K1) pos) (tAnd tA tB'):=by
 intro wh pins s Z H Q I h
 refine isTrue_and (thn (ha pins s Z H _ I h) fun c s1 ⟨H1,I1,q1⟩=>?_)
 cases c with
 | true=>exact hb wh pins s1 Z H1 Q I1 q1
 | false=>exact ⟨H1,I1,q1⟩
theorem pw_or (ha:PT X a tA) (hb:PW X (.BoolOp .Or (b::K1) pos) tB'):PW X (.BoolOp .Or (a::b::K1) pos) (tOr tA tB'):=by
 intro wh pins s Z H Q I h
 refine isTrue_or (thn (ha pins s Z H _ I h) fun c s1 ⟨H1,I1,q1⟩=>?_)
 cases c with
 | true=>exact ⟨H1,I1,q1⟩
 | false=>exact hb wh pins s1 Z H1 Q I1 q1
theorem lC (ha:PT X a tA):PT X (.UnaryOp .Not a pos) (tNot tA):=by
 intro pins s Z H Q I h
 exact isTrue_not (ha pins s Z H (fun c H1=>Q (!c) H1) I h)
def tAndV (ta tb:TE):TE:=fun Z H Q=>ta Z H fun x H1=>∃ c,x=.bl c/\if c=true then tb Z H1 Q else Q (.bl false) H1
theorem lH {op} {t:TE} (h:PE X a t):PE X (.BoolOp op [a] pos) t:=fun pins s Z H Q I hw=>BoolOp_one (h pins s Z H Q I hw)
theorem lM (ha:PE X a ta) (hb:PE X (.BoolOp .And (b::K1) pos) tb):PE X (.BoolOp .And (a::b::K1) pos) (tAndV ta tb):=by
 intro pins s Z H Q I h
 refine BoolOp_and (thn (ha pins s Z H _ I h) fun v s1 ⟨x,H1,I1,r1,q1⟩=>?_)
 obtain ⟨c,rfl,q1⟩:=q1
 cases r1
 refine wpAny_truthy_bool ?_
 cases c with
 | true=>exact hb pins s1 Z H1 Q I1 q1
 | false=>exact ⟨.bl false,H1,I1,rfl,q1⟩
def tIf (t:TT) (ta tb:TE):TE:=fun Z H Q=>t Z H fun c H1=>if c=true then ta Z H1 Q else tb Z H1 Q
theorem cC {c:Expr} (hc:PT X c tA) (ha:PE X a ta) (hb:PE X b tb):PE X (.IfExp c a b pos) (tIf tA ta tb):=by
 intro pins s Z H Q I h
 refine wpAny_IfExp (thn (hc pins s Z H _ I h) fun d s1 ⟨H1,I1,q1⟩=>?_)
 cases d with
 | true=>exact ha pins s1 Z H1 Q I1 q1
 | false=>exact hb pins s1 Z H1 Q I1 q1
end
end L2
namespace L2
open PySem PySem.Spec PyProof.Rows
def SqL (K:PySem.W.Frag) (H:Hp) (a:Addr) (xs:List V):Prop :=
 Rd H a (.lst xs) \/
   ∃ (o:Obj) (its:Array Value) (n:Nat),K.lookup a=some o/\o.cls=.type "list" /\ o.dict=none/\o.data=.seq its n/\its.size<=sizeLine/\Vals xs its.toList
def SqT (K:PySem.W.Frag) (H:Hp) (a:Addr) (xs:List V):Prop :=
 Rd H a (.tup xs) \/
   ∃ (o:Obj) (its:Array Value) (n:Nat),K.lookup a=some o/\o.cls=.type "tuple" /\ o.data=.seq its n/\its.size<=sizeLine/\Vals xs its.toList
def absV:Value->Option V
 | .none=>some .non
 | .bool b=>some (.bl b)
 | .int i _=>some (.int i)
 | .str x _=>some (.str x)
 | .bytes b _=>some (.byt b)
 | .float b _=>some (.flt b)
 | .ref a=>some (.ref a)
 | .type n=>some (.ty n)
 | _=>none
theorem RelV.abs {x:V} {u:Value} (r:RelV x u):absV u=some x:=by
 cases x with
 | non=>cases r; rfl
 | bl _=>cases r; rfl
 | int _=>obtain ⟨t,rfl⟩:=r; rfl
 | str _=>obtain ⟨t,rfl⟩:=r; rfl
 | byt _=>obtain ⟨t,rfl⟩:=r; rfl
 | flt _=>obtain ⟨t,rfl⟩:=r; rfl
 | ref _=>cases r; rfl
 | ty _=>cases r; rfl
theorem RelV.inj {x y:V} {u:Value} (r:RelV x u) (q:RelV y u):x=y:=Option.some.inj (r.abs.symm.trans q.abs)
theorem Vals.inj:∀ {xs ys:List V} {us:List Value},Vals xs us->Vals ys us->xs=ys
 | _,_,_,.nil,.nil=>rfl
 | _,_,_,.cons r t,.cons r' t'=>by rw [r.inj r',Vals.inj t t']
section
variable {X:Cx} {pins:List (Addr×Obj)} {Z:St} {H:Hp} {s:Shared} {a:Addr} {xs ys:List V}
theorem Inv.list (I:Inv X pins Z H s) (h:SqL X.K H a xs):∃ its:List Value,Vals xs its/\PlainL s.heap a its.toArray/\xs.length<=sizeLine:=by
 rcases h with h | ⟨o,its,n,hk,hc,hd,hs,hz,r⟩
 . obtain ⟨z,its,n,r,e⟩:=h.ok I.hok
   exact ⟨its,r,⟨_,n,e,rfl,rfl,rfl⟩,z⟩
 . refine ⟨its.toList,r,⟨o,n,I.kIn a o hk,hc,hd,by simpa using hs⟩,?_⟩
   have e:=r.length; simp only [Array.length_toList] at e; omega
theorem Inv.tuple (I:Inv X pins Z H s) (h:SqT X.K H a xs):∃ its:List Value,Vals xs its/\IsTup s.heap a its.toArray/\xs.length<=sizeLine:=by
 rcases h with h | ⟨o,its,n,hk,hc,hs,hz,r⟩
 . obtain ⟨z,its,r,p⟩:=h.ok I.hok
   exact ⟨its,r,p,z⟩
 . refine ⟨its.toList,r,⟨o,I.kIn a o hk,hc,n,by simpa using hs⟩,?_⟩
   have e:=r.length; simp only [Array.length_toList] at e; omega
theorem Inv.list_inj (I:Inv X pins Z H s) (h:SqL X.K H a xs) (h':SqL X.K H a ys):xs=ys:=by
 obtain ⟨its,r,⟨o,n,e,_,_,d⟩,_⟩:=I.list h
 obtain ⟨its',r',⟨o',n',e',_,_,d'⟩,_⟩:=I.list h'
 rw [e] at e'; cases e'
 rw [d] at d'
 injection d' with d1 _
 have:its=its':=by simpa using congrArg Array.toList d1
 subst this
 exact r.inj r'
theorem Inv.tuple_inj (I:Inv X pins Z H s) (h:SqT X.K H a xs) (h':SqT X.K H a ys):xs=ys:=by
 obtain ⟨its,r,⟨o,e,_,n,d⟩,_⟩:=I.tuple h
 obtain ⟨its',r',⟨o',e',_,n',d'⟩,_⟩:=I.tuple h'
 rw [e] at e'; cases e'
 rw [d] at d'
 injection d' with d1 _
 have:its=its':=by simpa using congrArg Array.toList d1
 subst this
 exact r.inj r'
end
abbrev Cx.wish (X:Cx) (E:Value->Shared->Prop):Cx:={ X with xe:=E }
abbrev Cx.nox (X:Cx):Cx:=X.wish fun _ _=>False
theorem Cx.Ok.wish {X:Cx} (ok:X.Ok) (E:Value->Shared->Prop):(X.wish E).Ok :=
 ⟨ok.mod,ok.kind,ok.glob,ok.blt,ok.above,ok.inj,ok.has,ok.cab,ok.hd,ok.frames,ok.stk,ok.exf,ok.bs,ok.bsz,ok.noex,ok.exfs,ok.funs,ok.frf⟩
theorem Cx.Ok.unwish {X:Cx} {E:Value->Shared->Prop} (ok:(X.wish E).Ok):X.Ok :=
 ⟨ok.mod,ok.kind,ok.glob,ok.blt,ok.above,ok.inj,ok.has,ok.cab,ok.hd,ok.frames,ok.stk,ok.exf,ok.bs,ok.bsz,ok.noex,ok.exfs,ok.funs,ok.frf⟩
section
variable {X:Cx} {pins:List (Addr×Obj)} {Z:St} {H:Hp} {s:Shared} {E:Value->Shared->Prop}
theorem Inv.wish (I:Inv X pins Z H s) (E:Value->Shared->Prop):Inv (X.wish E) pins Z H s:=⟨I.ok.wish E,I.os,I.bare,I.base,I.loc,I.cell,I.free,I.freeC,I.pin,I.hok,I.len⟩
theorem Inv.unwish (I:Inv (X.wish E) pins Z H s):Inv X pins Z H s:=⟨I.ok.unwish,I.os,I.bare,I.base,I.loc,I.cell,I.free,I.freeC,I.pin,I.hok,I.len⟩
theorem SP.unwish {D:Ends} {f:Flow} {s':Shared} (h:SP (X.wish E) pins D f s'):SP X pins D f s':=by
 cases f with
 | next=>obtain ⟨Z',H',I,q⟩:=h; exact ⟨Z',H',I.unwish,q⟩
 | brk=>obtain ⟨Z',H',I,q⟩:=h; exact ⟨Z',H',I.unwish,q⟩
 | cont=>obtain ⟨Z',H',I,q⟩:=h; exact ⟨Z',H',I.unwish,q⟩
 | ret u=>obtain ⟨v,Z',H',I,r,q⟩:=h; exact ⟨v,Z',H',I.unwish,r,q⟩
theorem PSs.nox {st:List Stmt} {t:TS} (h:PSs X.nox st t):PSs X st t:=fun pins s Z H D I hw =>
 wpAny_mono (h pins s Z H D (I.wish _) hw) (fun _ _ q=>q.unwish) fun _ _ z=>False.elim z
end
section
variable {X:Cx} {st:Stmt} {K1:List Stmt} {t u:TS} {e:Expr} {te:TE} {pos:Pos}
def tNext:TS:=fun D Z H=>D.nx Z H
def tSeq (t u:TS):TS:=fun D Z H=>t { D with nx:=u D } Z H
theorem Vx:PSs X [] tNext:=fun _ _ Z H _ I h=>wpAny_execs_nil ⟨Z,H,I,h⟩
theorem Rg (h1:PS X st t) (h2:PSs X K1 u):PSs X (st::K1) (tSeq t u):=by
 intro pins s Z H D I h
 refine wpAny_execs_cons (thn (h1 pins s Z H { D with nx:=u D } I h) fun f s1 q=>?_)
 cases f with
 | next =>
   obtain ⟨Z',H',I',q⟩:=q; exact h2 pins s1 Z' H' D I' q
 | ret v=>exact q
 | brk=>exact q
 | cont=>exact q
theorem Hv (h1:PS X st t):PSs X [st] t:=by
 intro pins s Z H D I h
 refine wpAny_execs_cons (thn (h1 pins s Z H D I h) fun f s1 q=>?_)
 cases f with
 | next=>exact wpAny_execs_nil q
 | ret v=>exact q
 | brk=>exact q
 | cont=>exact q
theorem Inv.quiet {pins:List (Addr×Obj)} {Z:St} {H:Hp} {s:Shared} (I:Inv X pins Z H s):interactive X.env=false:=by simp [interactive,I.ok.kind]
def tDrop (te:TE):TS:=fun D Z H=>te Z H fun _ H1=>D.nx Z H1
theorem Oq (he:PE X e te) (hs:swapsWith e none pos.line X.env=pure false:=by rfl):PS X (.Expr e pos) (tDrop te):=by
 intro pins s Z H D I h
 exact wpAny_Expr_any (thn (he pins s Z H _ I h) fun v s1 ⟨x,H1,I1,r1,q1⟩=>⟨Z,H1,I1,q1⟩) I.quiet hs
def tRet (te:TE):TS:=fun D Z H=>te Z H D.rt
theorem bT (he:PE X e te):PS X (.Return (some e) pos) (tRet te):=by
 intro pins s Z H D I h
 exact wpAny_Return_some (thn (he pins s Z H _ I h) fun v s1 ⟨x,H1,I1,r1,q1⟩=>⟨x,Z,H1,I1,r1,q1⟩)
def tIfS (c:TT) (t u:TS):TS:=fun D Z H=>c Z H fun b H1=>if b=true then t D Z H1 else u D Z H1
theorem jI {c:Expr} {a b:List Stmt} {tc:TT} (hc:PT X c tc) (ha:PSs X a t) (hb:PSs X b u):PS X (.If c a b pos) (tIfS tc t u):=by
 intro pins s Z H D I h
 refine wpAny_If (thn (hc pins s Z H _ I h) fun d s1 ⟨H1,I1,q1⟩=>?_)
 cases d with
 | true=>exact ha pins s1 Z H1 D I1 q1
 | false=>exact hb pins s1 Z H1 D I1 q1
end
abbrev TG:=V->St->Hp->(St->Hp->Prop)->Prop
abbrev TGs:=List V->St->Hp->(St->Hp->Prop)->Prop
def PG (X:Cx) (target:Expr) (t:TG):Prop :=
 ∀ (pins:List (Addr×Obj)) (s:Shared) (Z:St) (H:Hp) (v:V) (u:Value) (Q:St->Hp->Prop),Inv X pins Z H s->RelV v u->t v Z H Q ->
   wpAny (model X.prog X.w) X.A (assign target X.env u) (fun _ s'=>∃ Z' H',Inv X pins Z' H' s'/\Q Z' H') X.xe s
def PGs (X:Cx) (ts:List Expr) (t:TGs):Prop :=
 ∀ (pins:List (Addr×Obj)) (s:Shared) (Z:St) (H:Hp) (vs:List V) (us:List Value) (Q:St->Hp->Prop),Inv X pins Z H s->Vals vs us->t vs Z H Q ->
   wpAny (model X.prog X.w) X.A (assignInOrder ((assignEach ts X.env).map (·.2)) us) (fun _ s'=>∃ Z' H',Inv X pins Z' H' s'/\Q Z' H') X.xe s
abbrev nF:=V->V->V->Hp->(Hp->Prop)->Prop
def PSet (X:Cx) (t:nF):Prop :=
 ∀ (pins:List (Addr×Obj)) (s:Shared) (Z:St) (H:Hp) (o i v:V) (ov iv u:Value) (Q:Hp->Prop),Inv X pins Z H s->RelV o ov->RelV i iv->RelV v u->t o i v H Q ->
   wpAny (model X.prog X.w) X.A (setItem ov iv u) (fun _ s'=>∃ H',Inv X pins Z H' s'/\Q H') X.xe s
section
variable {X:Cx} {pos:Pos}
def L4 (i:Nat):TG:=fun v Z H Q=>Q (Z.set i (some v)) H
theorem O4 {i:Nat} {x:Str} (hN:X.N.Nodup) (hi:X.N[i]? = some x) (hx:Loc X.env.scope x) (hf:X.fn x=true\/X.env.scope.names.lookup x=some .local:=by first | exact .inl rfl | exact .inr rfl | assumption):PG X (.Name x pos) (L4 i):=by
 intro pins s Z H v u Q I r h
 exact wpAny_assign_Name (Qk I hN hi hx r (fun s' I'=>⟨_,H,I',h⟩) hf)
def Zc:TGs:=fun vs Z H Q=>vs=[]/\Q Z H
def Y9 (t:TG) (u:TGs):TGs:=fun vs Z H Q=>∃ v r,vs=v::r/\t v Z H fun Z' H'=>u r Z' H' Q
theorem Os:PGs X [] Zc:=by
 intro pins s Z H vs us Q I r h
 obtain ⟨e,h⟩:=h
 subst e
 cases r
 exact assignInOrder_nil ⟨Z,H,I,h⟩
theorem U3 {e:Expr} {es:List Expr} {t:TG} {u:TGs} (h1:PG X e t) (h2:PGs X es u)
   (hs:(assignEach (e::es) X.env).map (·.2)=assign e X.env::(assignEach es X.env).map (·.2):=by rfl):PGs X (e::es) (Y9 t u):=by
 intro pins s Z H vs us Q I r h
 obtain ⟨v,vr,e1,h⟩:=h
 subst e1
 cases r with
 | cons r rr =>
   rw [hs]; refine assignInOrder_cons (thn (h1 pins s Z H _ _ _ I r h) fun _ s1 ⟨Z1,H1,I1,q1⟩=>?_)
   exact h2 pins s1 Z1 H1 _ _ Q I1 rr q1
def Za (K:PySem.W.Frag) (n:Nat) (t:TGs):TG:=fun v Z H Q=>∃ a xs,v=.ref a/\SqT K H a xs/\xs.length=n/\t xs Z H Q
theorem Ue {es:List Expr} {k:Nat} {t:TGs} {n:Nat} (hc:X.calm=true) (h:PGs X es t)
   (hn:(assignEach es X.env).length=n:=by rfl) (hst:(assignEach es X.env).findIdx? (·.1)=none:=by rfl):PG X (.Tuple es k pos) (Za X.K n t):=by
 intro pins s Z H v u Q I r hw
 obtain ⟨a,xs,e1,hq,hl,hw⟩:=hw
 subst e1
 cases r
 obtain ⟨its,rv,ht,hz⟩:=I.tuple hq
 refine assign_Tuple_tuple (I.ok.hd hc) ht (by simp [hn,<- hl,rv.length]) hst fun h' hx=>?_
 have I1:Inv X pins Z H { s with heap:=h' }:=I.kept (t':=s.toks) fun b o e=>hx b o (Nat.ne_of_lt (Heap.lt_size e)) e
 exact h pins _ Z H xs _ Q I1 (by simpa using rv) hw
def gSub (to ti:TE) (t:nF):TG:=fun v Z H Q=>to Z H fun o H1=>ti Z H1 fun i H2=>t o i v H2 fun H3=>Q Z H3
theorem lF {o i:Expr} {to ti:TE} {t:nF} (ho:PE X o to) (hi:PE X i ti) (hs:PSet X t)
   (ha:∀ v,assign (.Subscript o i pos) X.env v=(do
     let ov <- holding [v] (eval o X.env)
     let iv <- holding [v,ov] (eval i X.env)
     standAt pos
     holding [v,ov,iv] (setItem ov iv v)
     release [v,ov,iv] []):=by intro _; rfl):PG X (.Subscript o i pos) (gSub to ti t):=by
 intro pins s Z H v u Q I r h
 rw [ha]
 refine wpAny_bind (wpAny_holding (thn (ho pins s Z H _ I h) fun ov s1 ⟨x,H1,I1,r1,q1⟩=>?_))
 refine wpAny_bind (wpAny_holding (thn (hi pins s1 Z H1 _ I1 q1) fun iv s2 ⟨y,H2,I2,r2,q2⟩=>?_))
 refine wpAny_bind (wpAny_standAt (wpAny_bind (wpAny_holding (thn (hs pins s2 Z H2 x y v ov iv u _ I2 r1 r2 r q2) fun _ s3 ⟨H3,I3,q3⟩=>?_))))
 exact wpAny_release ⟨Z,H3,I3,q3⟩
def kM (te:TE) (g:TG):TS:=fun D Z H=>te Z H fun x H1=>g x Z H1 D.nx
theorem lE {tg e:Expr} {te:TE} {g:TG} (he:PE X e te) (hg:PG X tg g) (hs:swapsWithSole [tg] e pos.line X.env=pure false:=by rfl) (hw:swappedStores [tg] e X.env=pure none:=by rfl)
   (h1:(assignEach [tg] X.env).map (·.2)=[assign tg X.env]:=by rfl):PS X (.Assign [tg] e pos) (kM te g):=by
 intro pins s Z H D I h
 refine wpAny_Assign_stores (thn (he pins s Z H _ I h) fun v s1 ⟨x,H1,I1,r1,q1⟩=>?_) hs hw
 rw [h1]
 exact thn (hg pins s1 Z H1 x v _ I1 r1 q1) fun _ s2 q=>q
theorem Jx {i:Nat} {x:Str} {e:Expr} {te:TE} {pos':Pos} (hN:X.N.Nodup) (hi:X.N[i]? = some x) (hx:Loc X.env.scope x) (he:PE X e te) (hs:swapsWith e (some (.Name x pos')) pos.line X.env=pure false:=by rfl) (hf:X.fn x=true\/X.env.scope.names.lookup x=some .local:=by first | exact .inl rfl | exact .inr rfl | assumption) :
   PS X (.Assign [.Name x pos'] e pos) (kM te (L4 i)):=by
 intro pins s Z H D I h
 refine wpAny_Assign_Name (thn (he pins s Z H _ I h) fun v s1 ⟨y,H1,I1,r1,q1⟩=>?_) hs
 exact Qk I1 hN hi hx r1 (fun s2 I2=>⟨_,H1,I2,q1⟩) hf
end
section
variable {X:Cx} {pos:Pos}
def kH (c:TT) (tb:TS):TS:=fun D Z H=>∃ W:Nat->St->Hp->Prop,(∃ m,W m Z H)/\∀ m Z H,W m Z H ->
 c Z H fun b H1=>if b=true then ∃ N:St->Hp->Prop,(∀ Z' H',N Z' H'->∃ m',m' < m/\W m' Z' H')/\tb { D with nx:=N,ct:=N,bk:=D.nx } Z H1 else D.nx Z H1
theorem bS {c:Expr} {body:List Stmt} {tc:TT} {tb:TS} (hp:PassesOwn (model X.prog X.w) X.A X.env X.xe) (hc:PT X c tc) (hb:PSs X body tb):PS X (.While c body [] pos) (kH tc tb):=by
 intro pins s Z H D I h
 obtain ⟨W,⟨m0,w0⟩,turn⟩:=h
 refine wpAny_While (codeAny_whileLoop (fun n s'=>∃ Z' H',Inv X pins Z' H' s'/\W n Z' H') ?_ m0 ⟨Z,H,I,w0⟩)
 rintro n s1 ⟨Z1,H1,I1,w1⟩
 refine wpAny_passesOwn hp (thn (hc pins s1 Z1 H1 _ I1 (turn n Z1 H1 w1)) fun b s2 ⟨H2,I2,q2⟩=>?_)
 cases b with
 | true =>
   obtain ⟨N,hN,q2⟩:=q2; rw [if_pos rfl]; refine wpAny_passesOwn hp (thn (hb pins s2 Z1 H2 _ I2 q2) fun f s3 q3=>?_)
   cases f with
   | next =>
     obtain ⟨Z3,H3,I3,n3⟩:=q3; obtain ⟨m',hm,w3⟩:=hN Z3 H3 n3; exact ⟨m',hm,Z3,H3,I3,w3⟩
   | cont =>
     obtain ⟨Z3,H3,I3,n3⟩:=q3; obtain ⟨m',hm,w3⟩:=hN Z3 H3 n3; exact ⟨m',hm,Z3,H3,I3,w3⟩
   | brk=>exact q3
   | ret v=>exact q3
 | false =>
   rw [if_neg Bool.false_ne_true]; exact wpAny_execs_nil ⟨Z1,H2,I2,q2⟩
end
structure It where
 go:Nat->Hp->Prop
 yld:Nat->Hp->V->Hp->Prop
 stop:Nat->Hp->Prop
def Ky (X:Cx) (pins:List (Addr×Obj)) (H:Hp) (b:Addr):Prop :=
 H b=none/\b≠X.env.locals/\b∉X.fs/\(b∈X.ex\/X.s₀.heap.objs.size<=b)/\(∀ x c,X.env.cells.lookup x=some c->c≠b)/\∀ p∈X.pn++pins,p.1≠b
theorem Inv.fpOk {X:Cx} {pins:List (Addr×Obj)} {Z:St} {H H':Hp} {s:Shared} {b:Addr} (I:Inv X pins Z H s) (hb:s.heap.objs.size<=b) (hn:H' b=none):Ky X pins H' b:=by
 refine ⟨hn,Nat.ne_of_gt (Nat.lt_of_lt_of_le I.lt hb),I.nofs hb,.inr (Nat.le_trans I.sz hb),fun x c e z=>?_,fun p hp z=>?_⟩
 . obtain ⟨v,q⟩:=I.cell x c e
   exact absurd (Nat.lt_of_lt_of_le q.lt (by rw [z]; exact hb)) (Nat.lt_irrefl _)
 . exact absurd (Nat.lt_of_lt_of_le (Heap.lt_size (I.pin p hp).1) (by rw [z]; exact hb)) (Nat.lt_irrefl _)
structure Turn (P:Program) (w:World) (K:PySem.W.Frag) (tg:Expr) (J:It) (fp:List Addr) (it:Addr) (tn:Nat->Heap->Prop):Prop where
 mem:it∈fp
 obj:∀ i h,tn i h->∀ b∈fp,∃ o,h.get? b=some o/\∀ v,o.data≠.cell v
 keep:∀ i h h',tn i h->(∀ b∈fp,∀ o,h.get? b=some o->h'.get? b=some o)->tn i h'
 item:∀ (X:Cx),X.prog=P->X.w=w->X.K=K->X.calm=true->∀ (i:Nat) (pins:List (Addr×Obj)) (s:Shared) (Z:St) (H:Hp) (E:Value->Shared->Prop),Inv X pins Z H s->(∀ b∈fp,Ky X pins H b)->tn i s.heap->J.go i H ->
   wpAny (model P w) X.A (pyNext (.ref it)) (fun r s1=>∃ u,r=some u /\
     wpAny (model P w) X.A (letOwnedTupleGo tg (.ref it) u) (fun _ s2=>∃ x H',Inv X pins Z H' s2/\RelV x u/\J.yld i H x H'/\tn (i+1) s2.heap/\∀ b∈fp,H' b=none) E s1) E s
 done:∀ (X:Cx),X.prog=P->X.w=w->X.K=K->X.calm=true->∀ (i:Nat) (pins:List (Addr×Obj)) (s:Shared) (Z:St) (H:Hp) (E:Value->Shared->Prop),Inv X pins Z H s->(∀ b∈fp,Ky X pins H b)->tn i s.heap->J.stop i H ->
   wpAny (model P w) X.A (pyNext (.ref it)) (fun r s1=>r=none/\Inv X pins Z H s1) E s
 self:∀ (A:Around) (i:Nat) (s:Shared) (Q:Value->Shared->Prop) (E:Value->Shared->Prop),tn i s.heap->Q (.ref it) s->wpAny (model P w) A (pyIter (.ref it)) Q E s
abbrev TI:=St->Hp->(It->Hp->Prop)->Prop
def PIE (X:Cx) (pins:List (Addr×Obj)) (Z:St) (tg:Expr) (R:It->Hp->Prop) (itv:Value) (s2:Shared):Prop :=
 ∃ (it:Addr) (fp:List Addr) (tn:Nat->Heap->Prop) (J:It) (H':Hp),itv=.ref it/\Inv X pins Z H' s2/\Turn X.prog X.w X.K tg J fp it tn/\tn 0 s2.heap/\(∀ b∈fp,Ky X pins H' b)/\R J H'
def PI (X:Cx) (tg iter:Expr) (wi:TI):Prop :=
 ∀ (pins:List (Addr×Obj)) (s:Shared) (Z:St) (H:Hp) (R:It->Hp->Prop),Inv X pins Z H s->wi Z H R ->
   wpAny (model X.prog X.w) X.A (eval iter X.env) (fun v s1=>wpAny (model X.prog X.w) X.A (pyIter v) (PIE X pins Z tg R) X.xe s1) X.xe s
theorem Mz {M:Model} {A:Around} {E:Value->Shared->Prop} {s:Shared} {tg:Expr} {it:Addr} {u:Value} {o:Obj} {n:String} {vs:Array Value} {Q:Unit->Shared->Prop} (ho:s.heap.get? it=some o) (hc:o.cls=.type n) (hd:o.data=.fields vs)
   (hn:["enumerate", "zip", "dict_itemiterator", "dict_reverseitemiterator", "odict_iterator", "itertools.zip_longest", "itertools.pairwise"].contains n=false) (hQ:Q () s):wpAny M A (letOwnedTupleGo tg (.ref it) u) Q E s:=by
 unfold letOwnedTupleGo
 cases tg <;> first
   | exact wpAny_pure hQ
   | (cases u <;> first
       | exact wpAny_pure hQ
       | (refine wpAny_bind (wpAny_load ho ?_)
          rw [hc,hd]; show wpAny M A (if (["enumerate", "zip", "dict_itemiterator", "dict_reverseitemiterator", "odict_iterator", "itertools.zip_longest", "itertools.pairwise"].contains n&&vs[0]? == some (rawInt _))=true then _ else _) Q E s
          rw [if_neg (by intro h; rw [hn,Bool.false_and] at h; cases h)]
          exact wpAny_pure hQ))
def Itl (K:PySem.W.Frag) (a:Addr):It :=
 ⟨fun i H=>∃ xs x,SqL K H a xs/\xs[i]? = some x,fun i H x H'=>H'=H/\∀ xs,SqL K H a xs->xs[i]? = some x,fun i H=>∃ xs,SqL K H a xs/\xs.length<=i⟩
def Itt (K:PySem.W.Frag) (a:Addr):It :=
 ⟨fun i H=>∃ xs x,SqT K H a xs/\xs[i]? = some x,fun i H x H'=>H'=H/\∀ xs,SqT K H a xs->xs[i]? = some x,fun i H=>∃ xs,SqT K H a xs/\xs.length<=i⟩
def Itr (lo:Int) (n:Nat):It:=⟨fun i _=>i < n,fun i H x H'=>H'=H/\x=.int (lo+i),fun i _=>n<=i⟩
theorem Xs {P:Program} {w:World} {K:PySem.W.Frag} {tg:Expr} (a it:Addr):Turn P w K tg (Itl K a) [it] it (fun i h=>h.IsListIter it a i) where
 mem:=by simp
 obj:=fun i h st b hb=>by
   have e:b=it:=by simpa using hb
   subst e; obtain ⟨o,e,c,d⟩:=st; exact ⟨o,e,fun v z=>by rw [d] at z; cases z⟩
 keep:=fun i h h' st k=>st.at fun o e=>k it (by simp) o e
 item:=by
   intro X hP hw hK hc i pins s Z H E I hf st hg; subst hP hw hK; obtain ⟨xs,x,hq,hx⟩:=hg; obtain ⟨its,rv,p,hz⟩:=I.list hq; obtain ⟨u,hu,ru⟩:=rv.get hx; obtain ⟨f0,f1,f2,f3,f4,f5⟩:=hf it (by simp)
   refine wpAny_pyNext_list_item st p.isList (x:=u) (by simpa using hu) fun h' st' sb=>?_
   have I1:Inv X pins Z H { s with heap:=h' }:=I.turned (t':=s.toks) (fun b o hb e=>(sb.2 b hb).trans e) f0 f1 f3 f4 f5
   obtain ⟨o,e,c,d⟩:=id st'; exact ⟨u,rfl,Mz (s:={ s with heap:=h' }) e c d (by decide) ⟨x,H,I1,ru,⟨rfl,fun ys hy=>by rw [I.list_inj hy hq]; exact hx⟩,st',fun b hb=>(hf b hb).1⟩⟩
 done:=by
   intro X hP hw hK hc i pins s Z H E I hf st hg; subst hP hw hK; obtain ⟨xs,hq,hx⟩:=hg; obtain ⟨its,rv,p,hz⟩:=I.list hq; obtain ⟨f0,f1,f2,f3,f4,f5⟩:=hf it (by simp)
   have hl:=rv.length; exact wpAny_pyNext_list_end (I.ok.hd hc) st p.isList (by simp; omega) fun h' eb=>⟨rfl,I.turned (t':=s.toks) (fun b o hb e=>eb b o hb e) f0 f1 f3 f4 f5⟩
 self:=fun _ _ _ _ _ st h=>wpAny_pyIter_listiter st h
theorem Tn {P:Program} {w:World} {K:PySem.W.Frag} {tg:Expr} (a it:Addr):Turn P w K tg (Itt K a) [it] it (fun i h=>h.IsTupleIter it a i) where
 mem:=by simp
 obj:=fun i h st b hb=>by
   have e:b=it:=by simpa using hb
   subst e; obtain ⟨o,e,c,d⟩:=st; exact ⟨o,e,fun v z=>by rw [d] at z; cases z⟩
 keep:=fun i h h' st k=>st.at fun o e=>k it (by simp) o e
 item:=by
   intro X hP hw hK hc i pins s Z H E I hf st hg; subst hP hw hK; obtain ⟨xs,x,hq,hx⟩:=hg; obtain ⟨its,rv,p,hz⟩:=I.tuple hq; obtain ⟨u,hu,ru⟩:=rv.get hx; obtain ⟨f0,f1,f2,f3,f4,f5⟩:=hf it (by simp)
   refine wpAny_pyNext_tuple_item st (show s.heap.IsTuple a its.toArray from p) (x:=u) (by simpa using hu) fun h' st' sb=>?_
   have I1:Inv X pins Z H { s with heap:=h' }:=I.turned (t':=s.toks) (fun b o hb e=>(sb.2 b hb).trans e) f0 f1 f3 f4 f5
   obtain ⟨o,e,c,d⟩:=id st'; exact ⟨u,rfl,Mz (s:={ s with heap:=h' }) e c d (by decide) ⟨x,H,I1,ru,⟨rfl,fun ys hy=>by rw [I.tuple_inj hy hq]; exact hx⟩,st',fun b hb=>(hf b hb).1⟩⟩
 done:=by
   intro X hP hw hK hc i pins s Z H E I hf st hg; subst hP hw hK; obtain ⟨xs,hq,hx⟩:=hg; obtain ⟨its,rv,p,hz⟩:=I.tuple hq; obtain ⟨f0,f1,f2,f3,f4,f5⟩:=hf it (by simp)
   have hl:=rv.length; exact wpAny_pyNext_tuple_end (I.ok.hd hc) st (show s.heap.IsTuple a its.toArray from p) (by simp; omega) fun h' eb=>⟨rfl,I.turned (t':=s.toks) (fun b o hb e=>eb b o hb e) f0 f1 f3 f4 f5⟩
 self:=fun _ _ _ _ _ st h=>wpAny_pyIter_tupleiter st h
theorem Tp {P:Program} {w:World} {K:PySem.W.Frag} {tg:Expr} (it:Addr) (lo:Int) (n:Nat):Turn P w K tg (Itr lo n) [it] it (fun i h=>IsRangeIter h it (lo+(i:Nat)*1) ((n:Int) - (i:Nat)) 1) where
 mem:=by simp
 obj:=fun i h st b hb=>by
   have e:b=it:=by simpa using hb
   subst e; exact ⟨_,st,fun v z=>by
     have z':Data.fields _=Data.cell v:=z
     cases z'⟩
 keep:=fun i h h' st k=>k it (by simp) _ st
 item:=by
   intro X hP hw hK hc i pins s Z H E I hf st hg; subst hP hw hK; obtain ⟨f0,f1,f2,f3,f4,f5⟩:=hf it (by simp)
   have W:=Walks.range (prog:=X.prog) (w:=X.w) (I.ok.hd hc) it lo 1 n; refine W.item i s _ _ hg st fun v h' tk hv st' kk=>?_
   obtain ⟨t,rfl⟩:=hv; have I1:Inv X pins Z H { s with heap:=h',toks:=tk }:=I.turned (fun b o hb e=>kk b o (by simpa using hb) e) f0 f1 f3 f4 f5
   refine ⟨_,rfl,Mz (s:={ s with heap:=h',toks:=tk }) (n := "range_iterator") st' rfl rfl (by decide) ⟨.int (lo+i),H,I1,⟨t,?_⟩,⟨rfl,rfl⟩,st',fun b hb=>(hf b hb).1⟩⟩
   rw [Int.mul_one]
 done:=by
   intro X hP hw hK hc i pins s Z H E I hf st hg; subst hP hw hK; obtain ⟨f0,f1,f2,f3,f4,f5⟩:=hf it (by simp)
   exact wpAny_pyNext_range_end (I.ok.hd hc) st (by have:n<=i:=hg; omega) fun h' eb=>⟨rfl,I.turned (t':=s.toks) (fun b o hb e=>eb b o hb e) f0 f1 f3 f4 f5⟩
 self:=fun _ _ _ _ _ st h=>wpAny_pyIter_rangeiter st h
end L2
namespace L2
open PySem PySem.Spec PyProof.Rows
section
variable {X:Cx} {tg:Expr}
theorem Ra {pins:List (Addr×Obj)} {Z:St} {H:Hp} {s:Shared} {R:It->Hp->Prop} {E:Value->Shared->Prop} {lo hi:Int} {t u v:Tok} {tk:Nat} (I:Inv X pins Z H s) (h1 : -(2 ^ 62)<=lo) (h2:lo < 2 ^ 62) (h3 : -(2 ^ 62)<=hi) (h4:hi < 2 ^ 62)
   (q:R (Itr lo (hi - lo).toNat) H):wpAny (model X.prog X.w) X.A (pyIter (.ref s.heap.objs.size)) (PIE X pins Z tg R) E { s with heap:=s.heap.push { cls:=.type "range",data:=.fields #[.int lo t,.int hi u,.int 1 v] },toks:=tk }:=by
 refine wpAny_pyIter_range (IsRange.new ..) (small_one h1 h2 h3 h4) ?_
 have I1:Inv X pins Z H { s with heap:=s.heap.push { cls:=.type "range",data:=.fields #[.int lo t,.int hi u,.int 1 v] },toks:=tk }:=I.kept fun b o e=>Heap.get?_push_of_some _ e
 refine ⟨(s.heap.push { cls:=.type "range",data:=.fields #[.int lo t,.int hi u,.int 1 v] }).objs.size,[(s.heap.push { cls:=.type "range",data:=.fields #[.int lo t,.int hi u,.int 1 v] }).objs.size],_,_,H,rfl,
   I1.kept (t':=tk) fun b o e=>Heap.get?_push_of_some _ e,Tp _ lo (hi - lo).toNat,?_,fun b hb=>?_,q⟩
 . have e1:lo+((0:Nat):Int)*1=lo:=by simp
   have e2:(((hi - lo).toNat:Nat):Int) - ((0:Nat):Int)=Builtin.Range.rangeSize lo hi 1:=by rw [rangeSize_one]; split <;> omega
   show IsRangeIter _ _ (lo+((0:Nat):Int)*1) ((((hi - lo).toNat:Nat):Int) - ((0:Nat):Int)) 1
   rw [e1,e2]; exact Heap.get?_push_size _ rfl
 . have e:b=(s.heap.push { cls:=.type "range",data:=.fields #[.int lo t,.int hi u,.int 1 v] }).objs.size:=by simpa using hb
   subst e; exact I1.fpOk (Nat.le_refl _) (I1.hok.fresh (Nat.le_refl _))
def iRng1 (ta:TA):TI:=fun Z H R=>ta Z H fun vs H1=>∃ j:Int,vs=[.int j] /\ -(2 ^ 62)<=j/\j < 2 ^ 62/\R (Itr 0 j.toNat) H1
def iRng2 (ta:TA):TI:=fun Z H R=>ta Z H fun vs H1=>∃ i j:Int,vs=[.int i,.int j]/\(-(2 ^ 62)<=i/\i < 2 ^ 62 /\ -(2 ^ 62)<=j/\j < 2 ^ 62)/\R (Itr i (j - i).toNat) H1
theorem Yj {a:Expr} {ta:TA} {p pos:Pos} (hg:Gl X "range") (hm:X.mg "range" = none) (ha:PA X [a] ta) (hs:starEach [a] X.env=[(false,eval a X.env)]:=by rfl):PI X tg (.Call (.Name "range" p) [a] [] pos) (iRng1 ta):=by
 intro pins s Z H R I h
 refine Call_ (Fv I hg hm boot_range (PyProof.Rows.callWith_type1 (thn (ha pos pins s Z H _ I h) fun us s1 ⟨vs,H1,I1,r1,q1⟩=>?_) hs rfl))
 obtain ⟨j,e,q1,q2,q⟩:=q1
 subst e
 cases r1 with
 | cons r rr =>
   cases rr; obtain ⟨t,rfl⟩:=r; exact call_range_1 (Ra I1 (by omega) (by omega) q1 q2 (by simpa using q))
theorem Yi {a b:Expr} {ta:TA} {p pos:Pos} (hg:Gl X "range") (hm:X.mg "range" = none) (ha:PA X [a,b] ta) (hs:starEach [a,b] X.env=[(false,eval a X.env),(false,eval b X.env)]:=by rfl) (hs2:starEach [b] X.env=[(false,eval b X.env)]:=by rfl) :
   PI X tg (.Call (.Name "range" p) [a,b] [] pos) (iRng2 ta):=by
 intro pins s Z H R I h
 refine Call_ (Fv I hg hm boot_range (PyProof.Rows.callWith_type1 (thn (ha pos pins s Z H _ I h) fun us s1 ⟨vs,H1,I1,r1,q1⟩=>?_) (by rw [hs,hs2]) (by rw [hs2]; rfl)))
 obtain ⟨i,j,e,⟨q1,q2,q3,q4⟩,q⟩:=q1
 subst e
 cases r1 with
 | cons r rr =>
   cases rr with
   | cons r' rr =>
     cases rr; obtain ⟨t,rfl⟩:=r; obtain ⟨t',rfl⟩:=r'; exact call_range_2 (Ra I1 q1 q2 q3 q4 q)
def tFor (wi:TI) (g:TG) (tb:TS):TS:=fun D Z H=>wi Z H fun J H1=>∃ W:Nat->Nat->St->Hp->Prop,(∃ m,W 0 m Z H1)/\∀ i m Z H,W i m Z H ->
 (J.stop i H/\D.nx Z H)\/(J.go i H/\∃ N:St->Hp->Prop,(∀ Z' H',N Z' H'->∃ m',m' < m/\W (i+1) m' Z' H')/\∀ x H',J.yld i H x H'->g x Z H' fun Z2 H2=>tb { D with nx:=N,ct:=N,bk:=D.nx } Z2 H2)
def Jy (fp:List Addr) (h:Heap):List (Addr×Obj):=fp.filterMap fun b=>(h.get? b).map fun o=>(b,o)
theorem Dm {fp:List Addr} {h:Heap} {b:Addr} {o:Obj} (hb:b∈fp) (e:h.get? b=some o):(b,o)∈Jy fp h:=List.mem_filterMap.mpr ⟨b,hb,by rw [e]; rfl⟩
theorem Ym {fp:List Addr} {h:Heap} {p:Addr×Obj} (hp:p∈Jy fp h):p.1∈fp/\h.get? p.1=some p.2:=by
 obtain ⟨b,hb,e⟩:=List.mem_filterMap.mp hp
 cases q:h.get? b with
 | none=>rw [q] at e; cases e
 | some o =>
   rw [q] at e; have e':(b,o)=p:=Option.some.inj e; subst e'; exact ⟨hb,q⟩
theorem Inv.pinned {pins:List (Addr×Obj)} {Z:St} {H:Hp} {s:Shared} {fp:List Addr} (I:Inv X pins Z H s) (hf:∀ b∈fp,Ky X pins H b) (ho:∀ b∈fp,∃ o,s.heap.get? b=some o/\∀ v,o.data≠.cell v):Inv X (pins++Jy fp s.heap) Z H s :=
 I.pins_of fun p hp=>(List.mem_append.mp hp).elim (fun z=>I.pin p (List.mem_append_right _ z)) fun z=>by
   obtain ⟨hb,e⟩:=Ym z; obtain ⟨f0,f1,f2,_⟩:=hf p.1 hb; obtain ⟨o,e',d⟩:=ho p.1 hb; rw [e] at e'; cases e'; exact ⟨e,f0,f1,f2,d⟩
theorem Inv.unpinned {pins pl:List (Addr×Obj)} {Z:St} {H:Hp} {s:Shared} (I:Inv X (pins++pl) Z H s):Inv X pins Z H s:=I.pins_of fun p hp=>I.pin p (List.mem_append_right _ (List.mem_append_left _ hp))
theorem bU {iter:Expr} {body:List Stmt} {wi:TI} {g:TG} {tb:TS} {pos:Pos} (hp:PassesOwn (model X.prog X.w) X.A X.env X.xe) (hc:X.calm=true) (hi:PI X tg iter wi) (hg:PG X tg g) (hb:PSs X body tb)
   (hs:∀ x,foldedSetIterable iter X.env x=pure x:=by intro _; rfl):PS X (.For tg iter body [] pos) (tFor wi g tb):=by
 intro pins s Z H D I h
 refine wpAny_For (thn (hi pins s Z H _ I h) fun v s1 h1=>thn h1 fun itv s2 h2=>?_) hs
 obtain ⟨it,fp,tn,J,H2,e,I2,T,st2,f2,W,⟨m0,w0⟩,turn⟩:=h2
 subst e
 have stat:∀ {H':Hp},(∀ b∈fp,H' b=none)->∀ b∈fp,Ky X pins H' b:=fun hn b hb=>⟨hn b hb,(f2 b hb).2⟩
 refine codeAny_forLoop_any (fun n s'=>∃ i Z' H',Inv X pins Z' H' s'/\tn i s'.heap/\(∀ b∈fp,H' b=none)/\W i n Z' H') ?_ m0 ⟨0,Z,H2,I2,st2,fun b hb=>(f2 b hb).1,w0⟩
 rintro n s3 ⟨i,Z3,H3,I3,st3,fr3,w3⟩
 rcases turn i n Z3 H3 w3 with ⟨stop,qn⟩ | ⟨go,N,hN,step⟩
 . refine wpAny_passesOwn hp (thn (T.done X rfl rfl rfl hc i pins s3 Z3 H3 X.xe I3 (stat fr3) st3 stop) fun r s4 ⟨hr,I4⟩=>?_)
   subst hr; exact wpAny_execs_nil ⟨Z3,H3,I4,qn⟩
 . refine wpAny_passesOwn hp (thn (T.item X rfl rfl rfl hc i pins s3 Z3 H3 X.xe I3 (stat fr3) st3 go) fun r s4 ⟨u,hr,h4⟩=>?_)
   subst hr; refine wpAny_passesOwn hp (thn h4 fun _ s5 ⟨x,H5,I5,r5,y5,st5,fr5⟩=>?_)
   have I5':=I5.pinned (stat fr5) (T.obj _ _ st5); refine wpAny_passesOwn hp (thn (hg _ s5 Z3 H5 x u _ I5' r5 (step x H5 y5)) fun _ s6 ⟨Z6,H6,I6,q6⟩=>?_)
   refine wpAny_passesOwn hp (thn (hb _ s6 Z6 H6 _ I6 q6) fun f s7 q7=>?_)
   have again:∀ {Z7:St} {H7:Hp},Inv X (pins++Jy fp s5.heap) Z7 H7 s7->N Z7 H7->∃ m,m < n/\∃ i Z' H',Inv X pins Z' H' s7/\tn i s7.heap/\(∀ b∈fp,H' b=none)/\W i m Z' H':=fun {Z7 H7} I7 n7=>by
     obtain ⟨m',hm,w7⟩:=hN Z7 H7 n7; refine ⟨m',hm,i+1,Z7,H7,I7.unpinned,T.keep _ _ _ st5 fun b hb o e=>(I7.pin (b,o) (List.mem_append_right _ (List.mem_append_right _ (Dm hb e)))).1,fun b hb=>?_,w7⟩
     obtain ⟨o,e,d⟩:=T.obj _ _ st5 b hb; exact (I7.pin (b,o) (List.mem_append_right _ (List.mem_append_right _ (Dm hb e)))).2.1
   cases f with
   | next=>obtain ⟨Z7,H7,I7,n7⟩:=q7; exact again I7 n7
   | cont=>obtain ⟨Z7,H7,I7,n7⟩:=q7; exact again I7 n7
   | brk=>obtain ⟨Z7,H7,I7,q7⟩:=q7; exact ⟨Z7,H7,I7.unpinned,q7⟩
   | ret v=>obtain ⟨x7,Z7,H7,I7,r7,q7⟩:=q7; exact ⟨x7,Z7,H7,I7.unpinned,r7,q7⟩
end
end L2
namespace L2
open PySem PySem.Spec PyProof.Rows
abbrev R2:=V->V->Hp->VK->Prop
def OpR (X:Cx) (f:Value->Value->Sem Value) (r:R2):Prop :=
 ∀ (pins:List (Addr×Obj)) (s:Shared) (Z:St) (H:Hp) (x y:V) (v u:Value) (Q:VK),Inv X pins Z H s->RelV x v->RelV y u->r x y H Q ->
   wpAny (model X.prog X.w) X.A (f v u) (EP X pins Z Q) X.xe s
def UnR (X:Cx) (f:Value->Sem Value) (r:V->Hp->VK->Prop):Prop :=
 ∀ (pins:List (Addr×Obj)) (s:Shared) (Z:St) (H:Hp) (x:V) (v:Value) (Q:VK),Inv X pins Z H s->RelV x v->r x H Q ->
   wpAny (model X.prog X.w) X.A (f v) (EP X pins Z Q) X.xe s
def Aw (X:Cx) (f:Value) (r:List V->Hp->VK->Prop):Prop :=
 ∀ (pins:List (Addr×Obj)) (s:Shared) (Z:St) (H:Hp) (xs:List V) (us:List Value) (Q:VK),Inv X pins Z H s->Vals xs us->r xs H Q ->
   wpAny (model X.prog X.w) X.A (call f us) (EP X pins Z Q) X.xe s
def TruR (X:Cx) (r:V->Hp->(Bool->Hp->Prop)->Prop):Prop :=
 ∀ (pins:List (Addr×Obj)) (s:Shared) (Z:St) (H:Hp) (x:V) (v:Value) (Q:Bool->Hp->Prop),Inv X pins Z H s->RelV x v->r x H Q ->
   wpAny (model X.prog X.w) X.A (truthy v) (TP X pins Z Q) X.xe s
def tOp (r:R2) (ta tb:TE):TE:=fun Z H Q=>ta Z H fun x H1=>tb Z H1 fun y H2=>r x y H2 Q
def tUn (r:V->Hp->VK->Prop) (ta:TE):TE:=fun Z H Q=>ta Z H fun x H1=>r x H1 Q
def rI (C:Int->Int->Prop) (g:Int->Int->V):R2:=fun x y H Q=>∃ i j,x=.int i/\y=.int j/\C i j/\Q (g i j) H
def rI0 (g:Int->Int->V):R2:=fun x y H Q=>∃ i j,x=.int i/\y=.int j/\Q (g i j) H
def rU (g:Int->V):V->Hp->VK->Prop:=fun x H Q=>∃ i,x=.int i/\Q (g i) H
section
variable {X:Cx} {a b:Expr} {ta tb:TE} {pos:Pos}
theorem nA (ha:PE X a ta) (hb:PE X b tb) {pins:List (Addr×Obj)} {s:Shared} {Z:St} {H:Hp} {R:V->V->Hp->Prop} (I:Inv X pins Z H s)
   (h:ta Z H fun x H1=>tb Z H1 fun y H2=>R x y H2) {Q:Value->Shared->Prop} {f:Value->Value->Sem Value}
   (hf:∀ v u s2 x y H2,Inv X pins Z H2 s2->RelV x v->RelV y u->R x y H2->wpAny (model X.prog X.w) X.A (f v u) Q X.xe s2) :
   wpAny (model X.prog X.w) X.A (eval a X.env) (fun v s₁=>wpAny (model X.prog X.w) X.A (eval b X.env) (fun u s₂=>wpAny (model X.prog X.w) X.A (f v u) Q X.xe s₂) X.xe s₁) X.xe s:=by
 refine thn (ha pins s Z H _ I h) fun v s1 ⟨x,H1,I1,r1,q1⟩=>?_
 refine thn (hb pins s1 Z H1 _ I1 q1) fun u s2 ⟨y,H2,I2,r2,q2⟩=>?_
 exact hf v u s2 x y H2 I2 r1 r2 q2
theorem pe_op {op:Operator} {r:R2} (ho:OpR X (binaryOp op) r) (ha:PE X a ta) (hb:PE X b tb):PE X (.BinOp a op b pos) (tOp r ta tb):=by
 intro pins s Z H Q I h
 exact wpAny_BinOp (nA ha hb I h fun v u s2 x y H2 I2 rx ry q=>ho pins s2 Z H2 x y v u Q I2 rx ry q)
theorem pe_un {op:UnaryOp} {r:V->Hp->VK->Prop} (ho:UnR X (unaryOp op) r) (ha:PE X a ta):PE X (.UnaryOp op a pos) (tUn r ta):=by
 intro pins s Z H Q I h
 exact UnaryOp_ (thn (ha pins s Z H _ I h) fun v s1 ⟨x,H1,I1,r1,q1⟩=>ho pins s1 Z H1 x v Q I1 r1 q1)
theorem opI {f:Value->Value->Sem Value} {C:Int->Int->Prop} {g:Int->Int->Int}
   (rule:∀ (i j:Int) (t u:Tok) (s:Shared) (Q:Value->Shared->Prop) (E:Value->Shared->Prop),C i j->Q (.int (g i j) s.toks) { s with toks:=s.toks+1 }->wpAny (model X.prog X.w) X.A (f (.int i t) (.int j u)) Q E s) :
   OpR X f (rI C fun i j=>.int (g i j)):=by
 intro pins s Z H x y v u Q I rx ry h
 obtain ⟨i,j,rfl,rfl,hc,q⟩:=h
 obtain ⟨t,rfl⟩:=rx
 obtain ⟨t',rfl⟩:=ry
 exact rule i j t t' s _ _ hc ⟨.int (g i j),H,I.tok _,⟨_,rfl⟩,q⟩
theorem opI0 {f:Value->Value->Sem Value} {g:Int->Int->Int}
   (rule:∀ (i j:Int) (t u:Tok) (s:Shared) (Q:Value->Shared->Prop) (E:Value->Shared->Prop),Q (.int (g i j) s.toks) { s with toks:=s.toks+1 }->wpAny (model X.prog X.w) X.A (f (.int i t) (.int j u)) Q E s) :
   OpR X f (rI0 fun i j=>.int (g i j)):=by
 intro pins s Z H x y v u Q I rx ry h
 obtain ⟨i,j,rfl,rfl,q⟩:=h
 obtain ⟨t,rfl⟩:=rx
 obtain ⟨t',rfl⟩:=ry
 exact rule i j t t' s _ _ ⟨.int (g i j),H,I.tok _,⟨_,rfl⟩,q⟩
def CDiv (i j:Int):Prop:=0 < j/\j < 1073741824
def CMul (i j:Int):Prop:=(-(2 ^ 64) < i/\i < 2 ^ 64)\/(-(2 ^ 64) < j/\j < 2 ^ 64)
theorem CMul.ok {i j:Int} (h:CMul i j):IntMulOk i j:=by
 rcases h with ⟨h1,h2⟩ | ⟨h1,h2⟩
 . exact .of_left (intBits_le_64 h1 h2)
 . exact .of_right (intBits_le_64 h1 h2)
theorem lO:OpR X (binaryOp .Sub) (rI0 fun i j=>.int (i - j)):=opI0 fun _ _ _ _ _ _ _ q=>sub_int q
theorem gN:OpR X (binaryOp .FloorDiv) (rI CDiv fun i j=>.int (i / j)):=opI fun i j _ _ _ _ _ hc q=>by
 have h1:(0:Int) < j:=hc.1
 have h2:j < 1073741824:=hc.2
 exact floordiv_int (by omega) (by rw [Int.fdiv_eq_ediv_of_nonneg i (by omega)]; exact q) (.inl (PyProof.noPylong_small (by omega)))
theorem lQ:OpR X (binaryOp .Mod) (rI (fun _ j=>0 < j) fun i j=>.int (i % j)):=opI fun i j _ _ _ _ _ hc q=>by
 have h1:(0:Int) < j:=hc
 exact mod_int' (by omega) (by rw [Int.fmod_eq_emod_of_nonneg i (by omega)]; exact q)
theorem unI {f:Value->Sem Value} {g:Int->Int}
   (rule:∀ (i:Int) (t:Tok) (s:Shared) (Q:Value->Shared->Prop) (E:Value->Shared->Prop),Q (.int (g i) s.toks) { s with toks:=s.toks+1 }->wpAny (model X.prog X.w) X.A (f (.int i t)) Q E s) :
   UnR X f (rU fun i=>.int (g i)):=by
 intro pins s Z H x v Q I rx h
 obtain ⟨i,rfl,q⟩:=h
 obtain ⟨t,rfl⟩:=rx
 exact rule i t s _ _ ⟨.int (g i),H,I.tok _,⟨_,rfl⟩,q⟩
theorem kA:UnR X (unaryOp .USub) (rU fun i=>.int (-i)):=unI fun _ _ _ _ _ q=>neg_int q
end
section
variable {X:Cx} {a b c:Expr} {ta tb:TE} {pos:Pos}
theorem Fp (b:Expr) {op:CmpOp} (h:op≠.In:=by decide) (h2:op≠.NotIn:=by decide):behindInMarks op b=false:=by
 have e1:(op==CmpOp.In)=false:=by cases op <;> first | rfl | exact absurd rfl h
 have e2:(op==CmpOp.NotIn)=false:=by cases op <;> first | rfl | exact absurd rfl h2
 cases b <;> simp [behindInMarks,e1,e2]
theorem gL {op:CmpOp} {r:R2} (ho:OpR X (compareOp op) r) (ha:PE X a ta) (hb:PE X b tb) (hm:behindInMarks op b=false):PE X (.Compare a [op] [b] pos) (tOp r ta tb):=by
 intro pins s Z H Q I h
 exact wpAny_Compare1 (nA ha hb I h fun v u s2 x y H2 I2 rx ry q=>ho pins s2 Z H2 x y v u Q I2 rx ry q) hm
def tTest (t:TE):TT:=fun Z H Q=>t Z H fun x H'=>∃ k,x=.bl k/\Q k H'
theorem gH {op:CmpOp} {r:R2} (ho:OpR X (compareOp op) r) (ha:PE X a ta) (hb:PE X b tb) (hm:behindInMarks op b=false):PT X (.Compare a [op] [b] pos) (tTest (tOp r ta tb)):=by
 intro pins s Z H Q I h
 refine wpAny_isTrue_Compare1 (thn (ha pins s Z H _ I h) fun v s1 ⟨x,H1,I1,r1,q1⟩=>thn (hb pins s1 Z H1 _ I1 q1) fun u s2 ⟨y,H2,I2,r2,q2⟩ =>
   thn (ho pins s2 Z H2 x y v u _ I2 r1 r2 q2) fun c s3 ⟨z,H3,I3,r3,k,e,q3⟩=>?_) hm
 subst e
 cases r3
 exact wpAny_truthy_bool ⟨H3,I3,q3⟩
def nC (K:PySem.W.Frag) (x:V) (H:Hp) (k:Bool):Prop :=
 match x with
 | .non=>k=false
 | .bl b=>k=b
 | .int i=>k=(i != 0)
 | .str y=>y.length<=sizeLine/\k=((y.length:Int) != 0)
 | .byt y=>y.size<=sizeLine/\k=((y.size:Int) != 0)
 | .ref p=>(∃ xs,SqL K H p xs/\k = !xs.isEmpty)\/(∃ xs,SqT K H p xs/\k = !xs.isEmpty)\/∃ kvs,H p=some (.dK kvs)/\k = !kvs.isEmpty
 | _=>False
theorem Um {κ:Type} {kvs:List (κ×V)} {vs:List (κ×Value)} (r:KV kvs vs):(!vs.isEmpty) = !kvs.isEmpty:=by
 cases r <;> rfl
theorem Ki {xs:List V} {its:List Value} (r:Vals xs its):(!its.toArray.isEmpty) = !xs.isEmpty:=by
 cases r <;> simp
theorem Be:(sizeLine:Nat) < 2 ^ 63:=by rw [sizeLine_eq]; decide
theorem kC:TruR X (fun x H Q=>∃ k,nC X.K x H k/\Q k H):=by
 intro pins s Z H x v Q I rx h
 obtain ⟨k,e,q⟩:=h
 have hl:=Be
 have hs:sizeLine=16777216:=sizeLine_eq
 cases x with
 | non =>
   cases rx; have e':k=false:=e; subst e'; exact truthy_none ⟨H,I,q⟩
 | bl b =>
   cases rx; have e':k=b:=e; subst e'; exact wpAny_truthy_bool ⟨H,I,q⟩
 | int i =>
   obtain ⟨t,rfl⟩:=rx; have e':k=(i != 0):=e; subst e'; exact PySem.P.truthy_int ⟨H,I,q⟩
 | str y =>
   obtain ⟨t,rfl⟩:=rx; obtain ⟨hy,e'⟩:y.length<=sizeLine/\k=((y.length:Int) != 0):=e; subst e'; exact PySem.P.truthy_str (by omega) ⟨H,I.tok _,q⟩
 | byt y =>
   obtain ⟨t,rfl⟩:=rx; obtain ⟨hy,e'⟩:y.size<=sizeLine/\k=((y.size:Int) != 0):=e; subst e'; exact PySem.W.truthy_bytes (by omega) ⟨H,I.tok _,q⟩
 | ref p =>
   cases rx; have e':(∃ xs,SqL X.K H p xs/\k = !xs.isEmpty)\/(∃ xs,SqT X.K H p xs/\k = !xs.isEmpty)\/∃ kvs,H p=some (.dK kvs)/\k = !kvs.isEmpty:=e; rcases e' with ⟨xs,hx,e'⟩ | ⟨xs,hx,e'⟩ | ⟨kvs,hx,e'⟩
   . subst e'
     obtain ⟨its,r,pl,hz⟩:=I.list hx; have hlen:=r.length; exact wpAny_truthy_list pl.isList (by simp only [List.size_toArray]; omega) ⟨H,I.tok _,by rw [Ki r]; exact q⟩
   . subst e'
     obtain ⟨its,r,pl,hz⟩:=I.tuple hx; have hlen:=r.length; exact truthy_tuple pl (by simp only [List.size_toArray]; omega) ⟨H,I.tok _,by rw [Ki r]; exact q⟩
   . subst e'
     obtain ⟨hz,hS,vs,r,m⟩:kvs.length<=sizeLine/\(p==sysModules)=false/\∃ vs,KV kvs vs/\s.heap.DictOf (Ox X.prog X.w) p vs:=I.hok p _ hx; have hlen:kvs.length=vs.length:=Paired.length r; exact wpAny_truthy_dict hS m (by omega) ⟨H,I.tok _,by rw [Um r]; exact q⟩
 | _=>exact (show False from e).elim
theorem Rf (ha:PE X a ta) (he:∀ whole,isTrue a X.env whole=(do let v <- whole; standAt a.pos; holding [v] (truthy v))) :
   PT X a (fun Z H Q=>ta Z H fun x H'=>∃ k,nC X.K x H' k/\Q k H'):=by
 intro pins s Z H Q I h
 exact isTrue_plain (thn (ha pins s Z H _ I h) fun v s1 ⟨x,H1,I1,r1,q1⟩=>kC pins s1 Z H1 x v Q I1 r1 q1) (he _)
theorem Py {x:V} {us:List Value} (r:Vals [x] us):∃ u,us=[u]/\RelV x u:=by
 cases r with
 | cons r1 r2=>cases r2; exact ⟨_,rfl,r1⟩
theorem Nj:Aw X (.type "int") (fun xs H Q=>(∃ i,xs=[.int i]/\Q (.int i) H)\/∃ k,xs=[.bl k]/\Q (.int (if k then 1 else 0)) H):=by
 intro pins s Z H xs us Q I r h
 rcases h with ⟨i,rfl,q⟩ | ⟨k,rfl,q⟩
 . obtain ⟨u,rfl,t,rfl⟩:=Py r
   exact call_int_int ⟨.int i,H,I,⟨_,rfl⟩,q⟩
 . obtain ⟨u,rfl,r1⟩:=Py r
   cases r1; exact call_int_bool ⟨.int (if k then 1 else 0),H,I.tok _,⟨_,rfl⟩,q⟩
def LenV (K:PySem.W.Frag) (x:V) (H:Hp) (n:Nat):Prop :=
 match x with
 | .str y=>y.length<=sizeLine/\n=y.length
 | .byt y=>y.size<=sizeLine/\n=y.size
 | .ref p=>(∃ xs,SqL K H p xs/\n=xs.length)\/∃ xs,SqT K H p xs/\n=xs.length
 | _=>False
theorem Kq:Aw X (.builtin "len") (fun xs H Q=>∃ x n,xs=[x]/\LenV X.K x H n/\Q (.int n) H):=by
 intro pins s Z H xs us Q I r h
 obtain ⟨x,n,rfl,e,q⟩:=h
 obtain ⟨u,rfl,rx⟩:=Py r
 have hl:=Be
 have hs:sizeLine=16777216:=sizeLine_eq
 cases x with
 | str y =>
   obtain ⟨t,rfl⟩:=rx; obtain ⟨hy,e'⟩:y.length<=sizeLine/\n=y.length:=e; subst e'; exact len_str (by omega) ⟨.int _,H,I.tok _,⟨_,rfl⟩,q⟩
 | byt y =>
   obtain ⟨t,rfl⟩:=rx; obtain ⟨hy,e'⟩:y.size<=sizeLine/\n=y.size:=e; subst e'; exact PySem.W.len_bytes (by omega) ⟨.int _,H,I.tok _,⟨_,rfl⟩,q⟩
 | ref p =>
   cases rx; have e':(∃ xs,SqL X.K H p xs/\n=xs.length)\/∃ xs,SqT X.K H p xs/\n=xs.length:=e; rcases e' with ⟨xs,hx,e'⟩ | ⟨xs,hx,e'⟩
   . subst e'
     obtain ⟨its,r',pl,hz⟩:=I.list hx; have hlen:=r'.length; exact Calls.call_len_list pl.isList (by simp only [List.size_toArray]; omega) ⟨.int xs.length,H,I.tok _,⟨_,by simp only [List.size_toArray]; rw [hlen]⟩,q⟩
   . subst e'
     obtain ⟨its,r',pl,hz⟩:=I.tuple hx; have hlen:=r'.length; exact len_tuple pl (by simp only [List.size_toArray]; omega) ⟨.int xs.length,H,I.tok _,⟨_,by simp only [List.size_toArray]; rw [hlen]⟩,q⟩
 | _=>exact (show False from e).elim
end
end L2
namespace L2
open PySem PySem.Spec PyProof.Rows
end L2
namespace L2
open PySem PySem.Spec PyProof.Rows
structure Room (k:Nat) (A:Around):Prop where
 hd:A.handled=none
 dp:A.depth+3*k+5 < recursionLimit
 un:A.units+16*k+200 < cLine
 gd:A.guards=some []
theorem Room.mono {j k:Nat} {A:Around} (r:Room k A) (h:j<=k):Room j A:=⟨r.hd,by have:=r.dp; omega,by have:=r.un; omega,r.gd⟩
theorem Room.deeper {k:Nat} {A:Around} (r:Room (k+1) A) (env:Env):Room k (A.deeper env) :=
 ⟨r.hd,by have:=r.dp; show A.depth+1+3*k+5 < _; omega,by have:=r.un; show A.units+3+16*k+200 < _; omega,r.gd⟩
theorem Room.depth {k:Nat} {A:Around} (r:Room k A):A.depth < recursionLimit:=by have:=r.dp; omega
theorem Room.units {k:Nat} {A:Around} (r:Room k A):A.units+64 < cLine:=by have:=r.un; omega
def tNil:TA:=fun _ H Q=>Q [] H
def tCons (ta:TE) (tr:TA):TA:=fun Z H Q=>ta Z H fun x H1=>tr Z H1 fun xs H2=>Q (x::xs) H2
section
variable {X:Cx} {e:Expr} {es:List Expr} {te:TE} {t:TA} {pos:Pos}
theorem Ai:PA X [] tNil:=fun _ _ _ _ H Q I h=>Calls.spliced_nil ⟨[],H,I,.nil,h⟩
theorem Q9 (ha:PE X e te) (hr:PA X es t) (hs:starEach (e::es) X.env=(false,eval e X.env)::starEach es X.env:=by rfl):PA X (e::es) (tCons te t):=by
 intro pos pins s Z H Q I h
 rw [hs]
 show wpAny _ _ (spliced ((false,eval e X.env)::backTo pos (starEach es X.env))) _ _ s
 refine Calls.spliced_cons (thn (ha pins s Z H _ I h) fun u s1 ⟨x,H1,I1,r1,q1⟩=>?_)
 exact thn (hr pos pins s1 Z H1 _ I1 q1) fun us s2 ⟨xs,H2,I2,r2,q2⟩=>⟨x::xs,H2,I2,.cons r1 r2,q2⟩
def tTup (t:TA):TE:=fun Z H Q=>t Z H fun xs H1=>xs.length<=sizeLine/\∀ p,H1 p=none->Q (.ref p) (upd H1 p (.tup xs))
def tLst (t:TA):TE:=fun Z H Q=>t Z H fun xs H1=>xs.length<=sizeLine/\∀ p,H1 p=none->Q (.ref p) (upd H1 p (.lst xs))
theorem lG {x1} (h:PA X es t):PE X (.Tuple es x1 pos) (tTup t):=by
 intro pins s Z H Q I hq
 refine wpAny_Tuple_spliced (thn (h pos pins s Z H _ I hq) fun us s1 ⟨xs,H1,I1,r,z,q⟩=>⟨by rw [<- r.length]; exact z,?_⟩)
 have hf:H1 s1.heap.objs.size=none:=I1.hok.fresh (Nat.le_refl _)
 refine ⟨.ref s1.heap.objs.size,upd H1 s1.heap.objs.size (.tup xs),I1.laid (t':=s1.toks) (fun b u e=>Heap.get?_push_of_some _ e) (Nat.le_refl _) ?_,rfl,q _ hf⟩
 exact ⟨z,us,r,⟨_,Heap.get?_push_size _ rfl,rfl,_,rfl⟩⟩
theorem cB (h:PA X es t):PE X (.List es pos) (tLst t):=by
 intro pins s Z H Q I hq
 refine wpAny_List_spliced (thn (h pos pins s Z H _ I hq) fun us s1 ⟨xs,H1,I1,r,z,q⟩=>⟨by rw [<- r.length]; exact z,?_⟩)
 have hf:H1 s1.heap.objs.size=none:=I1.hok.fresh (Nat.le_refl _)
 refine ⟨.ref s1.heap.objs.size,upd H1 s1.heap.objs.size (.lst xs),I1.laid (t':=s1.toks) (fun b u e=>Heap.get?_push_of_some _ e) (Nat.le_refl _) ?_,rfl,q _ hf⟩
 exact ⟨z,us,0,r,Heap.get?_push_size _ rfl⟩
end
abbrev Sp:=List V->Hp->VK->XK->Prop
abbrev CXT:=List Env->Hp->Shared->XK->Value->Shared->Prop
structure Env0 (P:Program) (w:World) (K:PySem.W.Frag) (mg:Str->Option Value) (base:Heap) (A:Around) (outer:List Env) (s:Shared) (H:Hp):Prop where
 frames:A.frames=some outer
 mod:Mod K mg base
 bs:∀ b o,base.get? b=some o->s.heap.get? b=some o/\H b=none
 bsz:base.objs.size<=s.heap.objs.size
 funs:s.heap.FunFrames base outer
 frf:∀ b∈frs outer,H b=none
 hok:HOk P w H s.heap
 bare:AllBare s.gens
def CE (outer:List Env) (P:Program) (w:World) (H:Hp) (s:Shared) (Q:VK) (u:Value) (s':Shared):Prop :=
 ∃ v H',s'.os=s.os/\AllBare s'.gens/\Un (frs outer) [] H H' s.heap s'.heap/\HOk P w H' s'.heap/\RelV v u/\Q v H'
def CR (CX:CXT) (outer:List Env) (P:Program) (w:World) (H:Hp) (s:Shared) (Q:VK) (E:XK) (r:Result) (s':Shared):Prop :=
 match r with
 | .ok (.ret u)=>CE outer P w H s Q u s'
 | .ok _=>False
 | .error e=>CX outer H s E e s'
structure FnOk (P:Program) (w:World) (K:PySem.W.Frag) (mg:Str->Option Value) (base:Heap) (CX:CXT) (k:Nat) (f:Addr) (fd:FuncData) (ps:List Str) (sp:Sp):Prop where
 len:∀ vs H Q E,sp vs H Q E->vs.length=ps.length
 run:∀ (A:Around) (outer:List Env) (s:Shared) (H:Hp) (args:Args) (us:List Value) (vs:List V) (Q:VK) (E:XK),Room k A->Env0 P w K mg base A outer s H->BindsTo s fd args (ps.zip us)->Vals vs us->sp vs H Q E ->
   codeAny (model P w) A (.call (.ref f) args) (CR CX outer P w H s Q E) s
section
variable {X:Cx} {pins:List (Addr×Obj)} {Z:St} {H:Hp} {s s':Shared}
theorem Inv.env0 (I:Inv X pins Z H s):Env0 X.prog X.w X.K X.mg X.base X.A X.stack s H :=
 ⟨I.ok.frames,I.ok.mod,I.bs,Nat.le_trans I.ok.bsz I.sz,I.stack,I.stkFree,I.hok,I.bare⟩
theorem Inv.after {Q:VK} {u:Value} (I:Inv X pins Z H s) (h:CE X.stack X.prog X.w H s Q u s'):EP X pins Z Q u s':=by
 obtain ⟨v,H',os,bare,un,hok,r,q⟩:=h
 obtain ⟨hh,g,d,t,os'⟩:=s'
 obtain rfl:os'=s.os:=os
 exact ⟨v,H',I.call (h':=hh) (g':=g) (d':=d) (t':=t) (ch:=[]) un hok bare (fun b z=>absurd z (by simp)),r,q⟩
end
def tCall (sp:Sp) (dvs:List V) (E:XK) (t:TA):TE:=fun Z H Q=>t Z H fun vs H1=>sp (vs++dvs) H1 Q E
def Binds (K:PySem.W.Frag) (fd:FuncData) (ps:List Str) (ds:List Value):Prop :=
 ∀ (s:Shared) (us:List Value),K.In s.heap->(us++ds).length=ps.length->BindsTo s fd ⟨us,[]⟩ (ps.zip (us++ds))
theorem Binds.all {K:PySem.W.Frag} {fd:FuncData} {ps:List Str} (h:∀ us:List Value,us.length=ps.length->bindArgs fd ⟨us,[]⟩=pure (ps.zip us)):Binds K fd ps []:=fun s us _ hl=>by
 rw [List.append_nil] at hl ⊢
 exact .of_eq (h us hl)
def Vh (CX:CXT) (X:Cx) (E:XK):Prop:=∀ (pins:List (Addr×Obj)) (Z:St) (H:Hp) (s:Shared) (e:Value) (s':Shared),Inv X pins Z H s->CX X.stack H s E e s'->X.xe e s'
section
variable {X:Cx} {CX:CXT} {k:Nat} {f:Addr} {fd:FuncData} {ps:List Str} {sp:Sp} {dvs:List V} {ds:List Value} {E:XK} {x:Str} {p pos:Pos} {e:Expr} {es:List Expr} {t:TA}
theorem kW {pins:List (Addr×Obj)} {Z:St} {H:Hp} {s:Shared} {Q:VK} {us:List Value} {vs:List V} (F:FnOk X.prog X.w X.K X.mg X.base CX k f fd ps sp) (hr:Room k X.A) (hb:Binds X.K fd ps ds) (hd:Vals dvs ds) (hx:Vh CX X E)
   (I:Inv X pins Z H s) (r:Vals vs us) (h:sp (vs++dvs) H Q E):wpAny (model X.prog X.w) X.A (call (.ref f) us) (EP X pins Z Q) X.xe s:=by
 have r2:Vals (vs++dvs) (us++ds):=r.append hd
 have hl:(us++ds).length=ps.length:=by rw [<- r2.length]; exact F.len _ _ _ _ h
 refine wpAny_call (codeAny_mono (F.run X.A X.stack s H ⟨us,[]⟩ (us++ds) (vs++dvs) Q E hr I.env0 (hb s us I.kIn hl) r2 h) fun r s' hq=>?_)
 cases r with
 | error e=>exact hx pins Z H s e s' I hq
 | ok fl =>
   cases fl with
   | ret u=>exact I.after hq
   | next=>exact False.elim hq
   | brk=>exact False.elim hq
   | cont=>exact False.elim hq
theorem Ot (F:FnOk X.prog X.w X.K X.mg X.base CX k f fd ps sp) (hr:Room k X.A) (hg:Gl X x) (hm:X.mg x=some (.ref f)) (hk:PySem.W.keepIn X.K (.ref f)=true) (hb:Binds X.K fd ps ds) (hd:Vals dvs ds) (hx:Vh CX X E)
   (ha:PA X (e::es) t) (hdb:(x==("__debug__" : Str))=false:=by decide) (he:starEach (e::es) X.env=(false,eval e X.env)::starEach es X.env:=by rfl) (hpl:(backTo pos (starEach es X.env)).any (·.1)=false:=by rfl) :
   PE X (.Call (.Name x p) (e::es) [] pos) (tCall sp dvs E t):=by
 intro pins s Z H Q I h
 refine wpAny_Call_Name_kw (hU I hg hm ?_ hdb)
 refine PySem.W.callWith_K (h₀:=X.base) I.ok.mod.kin hk (thn (ha pos pins s Z H _ I h) fun us s1 ⟨vs,H1,I1,r,q⟩=>⟨I1.kIn,?_⟩) he hpl
 exact kW F hr hb hd hx I1 r q
end
structure FnScope (N P:List Str) (sc:Scope):Prop where
 kind:sc.kind=.function
 co:sc.isCoroutine=false
 gen:sc.isGenerator=false
 nd:N.Nodup
 pre:N.take P.length=P
 par:∀ x∈P,sc.names.lookup x=some .local\/sc.names.lookup x=some .cell
 nofree:∀ y∈sc.names,y.2≠.free
theorem Nn {kindOf:Str->Option NameKind} {x:Str}:∀ {binds:List (Str×Value)} {m:Str->Option Value},(∀ v,(x,v)∉binds)->bindL kindOf binds m x=m x
 | [],_,_=>rfl
 | (n,v)::r,m,h=>by
   unfold bindL; rw [Nn fun w hw=>h w (List.mem_cons_of_mem _ hw)]
   split
   . have:x≠n:=by rintro rfl; exact h v List.mem_cons_self
     simp [this]
   . rfl
theorem Nq {kindOf:Str->Option NameKind} {x:Str}:∀ {binds:List (Str×Value)} {m:Str->Option Value},(∀ v,(x,v)∉binds)->bindC kindOf binds m x=m x
 | [],_,_=>rfl
 | (n,v)::r,m,h=>by
   unfold bindC; rw [Nq fun w hw=>h w (List.mem_cons_of_mem _ hw)]
   split
   . rfl
   . have:x≠n:=by rintro rfl; exact h v List.mem_cons_self
     simp [this]
theorem Np {kindOf:Str->Option NameKind} {x:Str} {v:Value}:∀ {P:List Str} {vs:List Value} {i:Nat} {m:Str->Option Value},P.Nodup->P[i]? = some x->vs[i]? = some v->kindOf x=some .local ->
   bindL kindOf (P.zip vs) m x=some v
 | [],_,_,_,_,h,_,_=>by simp at h
 | _::_,[],_,_,_,_,h,_=>by simp at h
 | p::P,w::vs,0,m,nd,h1,h2,hk=>by
   simp at h1 h2; subst h1; subst h2
   show bindL kindOf ((p,w)::P.zip vs) m p=_
   unfold bindL; rw [Nn fun v hv=>(List.nodup_cons.mp nd).1 (List.of_mem_zip hv).1,if_pos hk]
   simp
 | p::P,w::vs,i+1,m,nd,h1,h2,hk=>by
   show bindL kindOf ((p,w)::P.zip vs) m x=_
   unfold bindL; exact Np (i:=i) (List.nodup_cons.mp nd).2 (by simpa using h1) (by simpa using h2) hk
theorem Nr {kindOf:Str->Option NameKind} {x:Str} {v:Value}:∀ {P:List Str} {vs:List Value} {i:Nat} {m:Str->Option Value},P.Nodup->P[i]? = some x->vs[i]? = some v->kindOf x≠some .local ->
   bindC kindOf (P.zip vs) m x=some v
 | [],_,_,_,_,h,_,_=>by simp at h
 | _::_,[],_,_,_,_,h,_=>by simp at h
 | p::P,w::vs,0,m,nd,h1,h2,hk=>by
   simp at h1 h2; subst h1; subst h2
   show bindC kindOf ((p,w)::P.zip vs) m p=_
   unfold bindC; rw [Nq fun v hv=>(List.nodup_cons.mp nd).1 (List.of_mem_zip hv).1,if_neg hk]
   simp
 | p::P,w::vs,i+1,m,nd,h1,h2,hk=>by
   show bindC kindOf ((p,w)::P.zip vs) m x=_
   unfold bindC; exact Nr (i:=i) (List.nodup_cons.mp nd).2 (by simpa using h1) (by simpa using h2) hk
def Y7 (N:List Str) (vs:List V):St:=vs.map some++List.replicate (N.length - vs.length) none
def Zi (CX:CXT) (P:Program) (w:World) (K:PySem.W.Frag) (mg:Str->Option Value) (base:Heap) (N:List Str) (qual:Str) (scope:Scope) (f:Addr) (cd:Value) (A:Around) (outer:List Env) (s:Shared) (H:Hp) (E:XK):Cx where
 prog:=P
 w:=w
 K:=K
 mg:=mg
 base:=base
 A:=A.deeper (envOfC qual scope s.heap.objs.size f cd)
 N:=N
 s₀:=s
 H₀:=H
 env:=envOfC qual scope s.heap.objs.size f cd
 outer:=outer
 stack:=envOfC qual scope s.heap.objs.size f cd::outer
 ex:=[]
 calm:=true
 fn:=fun _=>true
 pn:=[]
 xe:=fun e s'=>wpAny (model P w) (A.deeper (envOfC qual scope s.heap.objs.size f cd)) (leaving (envOfC qual scope s.heap.objs.size f cd) e) (fun _ s''=>CX outer H s E e s'') (fun e' s''=>CX outer H s E e' s'') s'
theorem Tb {sc:Scope} {n:Nat} {x:Str} (h:sc.names.lookup x=some .cell):∃ c,(cellsFrom n sc.names []).lookup x=some c:=by
 have q:=PySem.W.cellsFrom_some sc.names n [] (.inl h)
 exact Option.isSome_iff_exists.mp q
theorem Yw {CX:CXT} {P:Program} {w:World} {K:PySem.W.Frag} {mg:Str->Option Value} {base:Heap} {N ps:List Str} {qual:Str} {scope:Scope} {f:Addr} {cd:Value} {A:Around} {outer:List Env} {s s1:Shared} {H:Hp} {E:XK} {us:List Value} {vs:List V}
   (S:FnScope N ps scope) (hd:A.handled=none) (e0:Env0 P w K mg base A outer s H) (hl:vs.length=ps.length) (r:Vals vs us)
   (x:InCallC s s.heap.objs.size (bindL (envOfC qual scope s.heap.objs.size f cd).kindOf (ps.zip us) fun _=>none) (cellsFrom (s.heap.objs.size+1) scope.names []) (bindC (envOfC qual scope s.heap.objs.size f cd).kindOf (ps.zip us) fun _=>none) s1) :
   Inv (Zi CX P w K mg base N qual scope f cd A outer s H E) [] (Y7 N vs) H s1:=by
 have hpl:ps.length<=N.length:=by have:=congrArg List.length S.pre; rw [List.length_take] at this; omega
 obtain ⟨h1,tk,rfl,hk⟩:=x.done
 have noA:∀ b:Addr,b∉(Zi CX P w K mg base N qual scope f cd A outer s H E).ex:=fun b z=>absurd (show b∈([]:List Addr) from z) (by simp)
 refine ⟨⟨e0.mod,S.kind,rfl,rfl,Nat.le_refl _,fun y z c h1 h2=>?_,fun y hy=>?_,fun y c _ h=>?_,fun _=>hd,Around.frames_deeper e0.frames,.inr ⟨rfl,rfl⟩,fun b z=>absurd z (noA b),e0.bs,e0.bsz,fun b _ _=>noA b,fun b z=>absurd z (noA b),e0.funs,e0.frf⟩,
   rfl,e0.bare,Un.kept hk,⟨_,x.toInCall.ns,fun i y v h1 h2 h3=>?_⟩,fun y c h=>⟨_,x.cell y c h⟩,e0.hok.fresh (Nat.le_refl _),fun y c h=>?_,fun p hp=>absurd (show p∈([]:List (Addr×Obj)) from hp) (by simp),e0.hok.kept hk,?_⟩
 . exact name_of_addr x.apart (PySem.mem_of_lookup h1) (PySem.mem_of_lookup h2)
 . have hy:scope.names.lookup y=some .cell\/scope.names.lookup y=some .free:=hy
   rcases hy with hy | hy
   . exact Tb hy
   . exact absurd rfl (S.nofree _ (PySem.mem_of_lookup hy))
 . exact Nat.le_of_lt (x.above y c (PySem.mem_of_lookup h))
 . have hi : i < vs.length := by
     unfold Y7 at h2
     by_cases hi:i < vs.length
     . exact hi
     . rw [List.getElem?_append_right (by simpa using hi)] at h2
       rw [List.getElem?_replicate] at h2
       split at h2 <;> cases h2
   have ha:vs[i]? = some v:=by
     unfold Y7 at h2; rw [List.getElem?_append_left (by simpa using hi),List.getElem?_map] at h2
     cases e:vs[i]? with
     | none=>rw [e] at h2; cases h2
     | some a=>rw [e] at h2; cases h2; rfl
   obtain ⟨u,hu,rv⟩:=r.get ha; have hp:ps[i]? = some y:=by
     rw [<- S.pre,List.getElem?_take_of_lt (by omega)]; exact h1
   have ndP:ps.Nodup:=by rw [<- S.pre]; exact S.nd.sublist (List.take_sublist _ _)
   refine ⟨u,rv,?_⟩; rcases S.par y (List.mem_of_getElem? hp) with k | k
   . exact .inl ⟨k,Np ndP hp hu k⟩
   . obtain ⟨c,e⟩:=Tb (n:=s.heap.objs.size+1) k
     refine .inr ⟨.inl k,c,e,?_⟩; have q:=x.cell y c e; rw [Nr ndP hp hu (by show scope.names.lookup y≠_; rw [k]; decide)] at q
     exact q
 . exact e0.hok.fresh (Nat.le_of_lt (x.above y c (PySem.mem_of_lookup h)))
 . unfold Y7
   show _=N.length
   rw [List.length_append,List.length_map,List.length_replicate]; omega
theorem fn_of {CX:CXT} {P:Program} {w:World} {K:PySem.W.Frag} {mg:Str->Option Value} {base:Heap} {k:Nat} {f:Addr} {name qual:Str} {params:Arguments} {body:List Stmt} {scope:Scope} {dV kV doc pm cdv ct oc:Value} {an od:Option Addr}
   {osl:Array (Option Value)} {N ps:List Str} {sp:Sp} (lk:K.lookup f=some ⟨oc,od,.func (PySem.W.fnOf name qual params body scope dV kV doc pm an cdv ct),osl⟩) (hcd:PySem.W.codeIn K cdv qual=true) (S:FnScope N ps scope)
   (len:∀ vs H Q E,sp vs H Q E->vs.length=ps.length)
   (hbody:∀ (A:Around) (outer:List Env) (s:Shared) (H:Hp) (vs:List V) (Q:VK) (E:XK),Room k (A.deeper (envOfC qual scope s.heap.objs.size f cdv))->sp vs H Q E ->
     ∃ t,PSs (Zi CX P w K mg base N qual scope f cdv A outer s H E) body t/\t { nx:=fun _ H'=>Q .non H',rt:=Q } (Y7 N vs) H) :
   FnOk P w K mg base CX (k+1) f (PySem.W.fnOf name qual params body scope dV kV doc pm an cdv ct) ps sp:=by
 refine ⟨len,fun A outer s H args us vs Q E hr e0 hb r hsp=>?_⟩
 have hl:=len _ _ _ _ hsp
 have KX:K.In s.heap:=e0.mod.kin.keeps fun b o e=>(e0.bs b o e).1
 have lim:s.heap.NoLimit:=e0.mod.nolimit.keeps fun b o e=>(e0.bs b o e).1
 have hkind:∀ y∈ps.zip us,scope.names.lookup y.1=some .local\/(scope.names.lookup y.1=some .cell/\((cellsFrom (s.heap.objs.size+1) scope.names []).lookup y.1).isSome=true):=fun ⟨n,v⟩ hy=>by
   rcases S.par n (List.of_mem_zip hy).1 with q | q
   . exact .inl q
   . exact .inr ⟨q,PySem.W.cellsFrom_some _ _ _ (.inl q)⟩
 refine codeAny_call_function hr.depth (KX _ _ lk) rfl S.co S.gen rfl (PySem.W.codeRec_of KX hcd) (hb _ _ _ _ ?_)
 refine wpAny_newFunctionEnv_cells S.kind hkind fun env he s1 x=>?_
 subst he
 refine ⟨lim.keeps x.toInCall.keep,codeAny_func ?_⟩
 obtain ⟨t,ht,hq⟩:=hbody A outer s H vs Q E (hr.deeper _) hsp
 have I:Inv (Zi CX P w K mg base N qual scope f cdv A outer s H E) [] (Y7 N vs) H s1:=Yw S hr.hd e0 hl r x
 refine wpAny_mono (ht [] s1 (Y7 N vs) H _ I hq) (fun fl s' hs=>?_) fun e s' hs=>hs
 have fin:∀ {Z':St} {H':Hp} {v:V} {u:Value},Inv (Zi CX P w K mg base N qual scope f cdv A outer s H E) [] Z' H' s'->RelV v u->Q v H'->CE outer P w H s Q u s' :=
   fun {Z' H' v u} J rv q=>⟨v,H',J.os,J.bare,J.base,J.hok,rv,q⟩
 cases fl with
 | ret u =>
   obtain ⟨v,Z',H',J,rv,q⟩:=hs; exact fin J rv q
 | next =>
   obtain ⟨Z',H',J,q⟩:=hs; exact fin (v:=V.non) (u:=Value.none) J rfl q
 | brk =>
   obtain ⟨_,_,_,q⟩:=hs; exact False.elim q
 | cont =>
   obtain ⟨_,_,_,q⟩:=hs; exact False.elim q
end L2
namespace L2
open PySem PySem.Spec PyProof.Rows
section
variable {X:Cx} {x:Str} {p pos:Pos} {e:Expr} {es:List Expr} {t:TA} {id T:String} {r:List V->Hp->VK->Prop}
def tCB (r:List V->Hp->VK->Prop) (t:TA):TE:=fun Z H Q=>t Z H fun vs H1=>r vs H1 Q
theorem Ri (hc:Aw X (.builtin id) r) (hg:Gl X x) (hm:X.mg x=none) (hv:bootBuiltins x=some (.builtin id)) (ha:PA X (e::es) t) (hn:x ≠ "__name__" := by decide) (hdb:(x==("__debug__" : Str))=false:=by decide)
   (he:starEach (e::es) X.env=(false,eval e X.env)::starEach es X.env:=by rfl) (hpl:(backTo pos (starEach es X.env)).any (·.1)=false:=by rfl):PE X (.Call (.Name x p) (e::es) [] pos) (tCB r t):=by
 intro pins s Z H Q I h
 refine wpAny_Call_Name_kw (Fv I hg hm hv ?_ hn hdb)
 exact PyProof.Rows.callWith_builtin1 (thn (ha pos pins s Z H _ I h) fun us s1 ⟨vs,H1,I1,r1,q1⟩=>hc pins s1 Z H1 vs us Q I1 r1 q1) he hpl
theorem Fm (hc:Aw X (.type T) r) (hg:Gl X x) (hm:X.mg x=none) (hv:bootBuiltins x=some (.type T)) (ha:PA X (e::es) t) (hn:x ≠ "__name__" := by decide) (hdb:(x==("__debug__" : Str))=false:=by decide)
   (he:starEach (e::es) X.env=(false,eval e X.env)::starEach es X.env:=by rfl) (hpl:(backTo pos (starEach es X.env)).any (·.1)=false:=by rfl):PE X (.Call (.Name x p) (e::es) [] pos) (tCB r t):=by
 intro pins s Z H Q I h
 refine wpAny_Call_Name_kw (Fv I hg hm hv ?_ hn hdb)
 exact PyProof.Rows.callWith_type1 (thn (ha pos pins s Z H _ I h) fun us s1 ⟨vs,H1,I1,r1,q1⟩=>hc pins s1 Z H1 vs us Q I1 r1 q1) he hpl
end
end L2
namespace HT
open PySem PyProof.Rows
section
variable {prog:Program} {w:World} {A:Around} {E:Value->Shared->Prop} {s:Shared}
theorem cat_tup {t b:Addr} {vs ws:List Value} {Q:Value->Shared->Prop} (ht:IsTup s.heap t vs.toArray) (hb:IsTup s.heap b ws.toArray) (hv:vs≠[])
   (h1:ws=[]->Q (.ref t) s) (h2:ws≠[]->Q (.ref s.heap.objs.size) { s with heap:=s.heap.push { cls:=.type "tuple",data:=.seq (vs++ws).toArray } })
   (hsz:vs.length+ws.length<=sizeLine):wpAny (model prog w) A (binaryOp .Add (.ref t) (.ref b)) Q E s:=by
 obtain ⟨⟨cls,dd,data,sl⟩,ho,hc,n,hd⟩:=id ht
 obtain ⟨⟨cls2,dd2,data2,sl2⟩,ho2,hc2,n2,hd2⟩:=id hb
 simp only at hc hd hc2 hd2
 subst hc hd hc2 hd2
 have e:vs.toArray++ws.toArray=(vs++ws).toArray:=by simp
 by_cases hw:ws=[]
 . exact concat_meets ⟨_, ho, rfl⟩ ⟨_, ho2, rfl⟩ noFill_tuple_add seq_tuple_add PySem.F.slot_tuple_add PySem.F.entry_tuple_add (PySem.F.args_tuple_add_2 _ _)
     (tuple_addW1 t b vs.toArray ws.toArray n n2 dd dd2 sl sl2 (by simpa using hv) (by simp [hw])) ⟨ho,ho2,h1 hw⟩
 . refine concat_meets ⟨_, ho, rfl⟩ ⟨_, ho2, rfl⟩ noFill_tuple_add seq_tuple_add PySem.F.slot_tuple_add PySem.F.entry_tuple_add (PySem.F.args_tuple_add_2 _ _)
     (tuple_addW2 t b vs.toArray ws.toArray n n2 dd dd2 sl sl2 (by simpa using hv) (by simpa using hw) (by rw [List.size_toArray,List.size_toArray]; exact hsz)) ⟨ho,ho2,?_⟩
   rw [e]; exact h2 hw
def sIx (n d:Nat):Option Int->Nat
 | none=>d
 | some v=>if v < 0 then (v+(n:Int)).toNat else min v.toNat n
theorem kR (n d:Nat) (hd:d<=n) (o:Option Int):sIx n d o<=n:=by
 cases o with
 | none=>exact hd
 | some v =>
   show (if v < 0 then (v+(n:Int)).toNat else min v.toNat n)<=n
   by_cases hv:v < 0
   . rw [if_pos hv]; omega
   . rw [if_neg hv]; exact Nat.min_le_right _ _
theorem Xb (v:Int) (n d:Nat):(if v < 0 then max (v+(n:Int)) 0 else min v (n:Int))=((sIx n d (some v):Nat):Int):=by
 show (if v < 0 then max (v+(n:Int)) 0 else min v (n:Int))=(((if v < 0 then (v+(n:Int)).toNat else min v.toNat n):Nat):Int)
 by_cases hv:v < 0
 . simp only [if_pos hv]; omega
 . simp only [if_neg hv]; omega
theorem Vg (lo hi:Option Int) (n:Nat):Builtin.Slice.sliceAdjust lo hi 1 (n:Int)=(((sIx n 0 lo:Nat):Int),((sIx n n hi:Nat):Int)):=by
 have h1:¬ ((1:Int) < 0):=by omega
 unfold Builtin.Slice.sliceAdjust
 simp only [h1,if_false]
 refine Prod.ext ?_ ?_
 . cases lo with
   | none=>rfl
   | some v=>exact Xb v n 0
 . cases hi with
   | none=>rfl
   | some v=>exact Xb v n n
theorem Ud (i j:Nat):Builtin.Slice.slicePlaces (i:Int) (j:Int) 1=j - i:=by
 unfold Builtin.Slice.slicePlaces
 have h1:(1:Int)>0:=by omega
 simp only [h1,if_true,Int.ediv_one]
 split <;> omega
theorem Ji {v:Value} {o:Option Int} {Q:Option Int->Shared->Prop} (p:IsPart v o) (h:Q o s):wpAny (model prog w) A (Builtin.Slice.slicePartIndex v) Q E s:=by
 cases p with
 | none=>exact slicePart_none h
 | int i t=>exact slicePart_int h
theorem sliceApplied_gen {sl:Addr} {vl vu:Value} {lo hi:Option Int} {n:Nat} {Q:Int×Int×Nat->Shared->Prop} (hs:s.heap.IsSliceOf sl vl vu .none) (pl:IsPart vl lo) (pu:IsPart vu hi)
   (h:Q (((sIx n 0 lo:Nat):Int),1,sIx n n hi - sIx n 0 lo) s):wpAny (model prog w) A (Builtin.Slice.sliceApplied (.ref sl) (pure (n:Int))) Q E s:=by
 obtain ⟨os,hos,hcs,hds⟩:=id hs
 unfold Builtin.Slice.sliceApplied Builtin.Slice.sliceFields
 refine wpAny_bind (wpAny_bind (wpAny_field hos hds (x:=vl) rfl (wpAny_bind (wpAny_field hos hds (x:=vu) rfl (wpAny_bind (wpAny_field hos hds (x:=.none) rfl (wpAny_pure ?_)))))))
 refine wpAny_bind (slicePart_none ?_)
 show wpAny _ _ (if ((1:Int)==0)=true then _ else _) _ _ s
 rw [if_neg (by decide)]
 refine wpAny_bind (Ji pl (wpAny_bind (Ji pu (wpAny_bind (wpAny_pure ?_)))))
 show wpAny _ _ (match Builtin.Slice.sliceAdjust lo hi 1 (n:Int) with | (lo,hi)=>pure (lo,(1:Int),Builtin.Slice.slicePlaces lo hi 1)) _ _ s
 rw [Vg lo hi n]
 show wpAny _ _ (pure (((sIx n 0 lo:Nat):Int),(1:Int),Builtin.Slice.slicePlaces ((sIx n 0 lo:Nat):Int) ((sIx n n hi:Nat):Int) 1)) _ _ s
 rw [Ud]
 exact wpAny_pure h
theorem bV (xs:Array Value) (i k:Nat):((List.range k).filterMap fun (m:Nat)=>xs[((i:Int)+(m:Int)*1).toNat]?).toArray=((xs.toList.drop i).take k).toArray:=by
 have e:(fun (m:Nat)=>xs[((i:Int)+(m:Int)*1).toNat]?)=fun m=>xs[i+m]? := by
   funext m
   have:((i:Int)+(m:Int)*1).toNat=i+m:=by omega
   rw [this]
 rw [e]
 have:=pick_run xs i k
 rw [List.filterMap_map] at this
 have e2:((fun x=>xs[x]?)∘fun x=>i+x)=fun m=>xs[i+m]? := rfl
 rw [e2] at this
 rw [this]
theorem getItem_tuple_cut {t sl:Addr} {items:Array Value} {vl vu:Value} {lo hi:Option Int} {Q:Value->Shared->Prop} (ht:IsTup s.heap t items) (hs:s.heap.IsSliceOf sl vl vu .none) (pl:IsPart vl lo) (pu:IsPart vu hi)
   (hw:¬ (sIx items.size 0 lo=0/\sIx items.size items.size hi=items.size))
   (h:Q (.ref s.heap.objs.size) { s with heap:=s.heap.push { cls:=.type "tuple",data:=.seq ((items.toList.drop (sIx items.size 0 lo)).take (sIx items.size items.size hi - sIx items.size 0 lo)).toArray } })
   (hsz:items.size<=sizeLine):wpAny (model prog w) A (getItem (.ref t) (.ref sl)) Q E s:=by
 have htake:sizeOk (.seq ((items.toList.drop (sIx items.size 0 lo)).take (sIx items.size items.size hi - sIx items.size 0 lo)).toArray):=by
   show ((items.toList.drop (sIx items.size 0 lo)).take (sIx items.size items.size hi - sIx items.size 0 lo)).toArray.size<=sizeLine
   rw [List.size_toArray,List.length_take,List.length_drop,Array.length_toList]; omega
 have hj:sIx items.size items.size hi<=items.size:=kR _ _ (Nat.le_refl _) hi
 obtain ⟨os,hos,hcs,hds⟩:=id hs
 have hTs:s.TypeIs (.ref sl) "slice" := ⟨os,hos,hcs⟩
 unfold getItem
 try with_reducible refine wpAny_holding ?_
 first | refine wpAny_bind (wpAny_pure ?_) | skip
 refine wpAny_bind (wpAny_sequenceKey ht.typeIs (by decide) ?_)
 refine wpAny_bind (wpAny_callSpecial?_slot (name:=Str.ofString "__getitem__") ht.typeIs PyProof.Rows.slot_tuple_getitem
   (wpAny_call_entry PyProof.Rows.slot_tuple_getitem ht.typeIs entry_tuple_getitem ?_ (args_tuple_getitem _ _)))
 show wpAny _ _ (Builtin.Tuple.tupleItemsOf (.ref t)>>=_) _ _ s
 refine wpAny_bind (tupleItemsOf_ ht ?_)
 refine wpAny_bind (wpAny_typeOf hTs ?_)
 rw [if_pos (by decide)]
 refine wpAny_bind (sliceApplied_gen hs pl pu ?_)
 have hno:¬ ((((sIx items.size 0 lo:Nat):Int)==0&&(1:Int)==1&&(sIx items.size items.size hi - sIx items.size 0 lo)==items.size)=true):=by
   intro q; rw [Bool.and_eq_true,Bool.and_eq_true] at q; have q1:((sIx items.size 0 lo:Nat):Int)=0:=eq_of_beq q.1.1; have q2:sIx items.size items.size hi - sIx items.size 0 lo=items.size:=eq_of_beq q.2; exact hw ⟨by omega,by omega⟩
 show wpAny _ _ (if (((sIx items.size 0 lo:Nat):Int)==0&&(1:Int)==1&&(sIx items.size items.size hi - sIx items.size 0 lo)==items.size)=true then _ else _) _ _ s
 rw [if_neg hno,bV]
 first
   | exact wpAny_bind (m:=Builtin.Tuple.tupleExact _) (wpAny_newObj_type (wpAny_pure ⟨_,rfl,wpAny_pure h⟩) htake)
   | exact wpAny_bind (m:=Builtin.Tuple.tupleExact _) (wpAny_newObj_type (wpAny_bind (wpAny_pure (wpAny_pure ⟨_,rfl,wpAny_pure h⟩))) htake)
   | exact wpAny_bind (wpAny_bind (m:=Builtin.Tuple.tupleExact _) (wpAny_newObj_type (wpAny_pure (wpAny_pure ⟨_,rfl,wpAny_pure h⟩)) htake))
   | exact wpAny_bind (wpAny_bind (m:=Builtin.Tuple.tupleExact _) (wpAny_newObj_type (wpAny_pure ⟨_,rfl,wpAny_pure h⟩) htake))
end
end HT
namespace L2
open PySem PySem.Spec PyProof.Rows
abbrev TO:=St->Hp->(Option Int->Hp->Prop)->Prop
def PO (X:Cx) (e:Option Expr) (t:TO):Prop :=
 ∀ (pins:List (Addr×Obj)) (s:Shared) (Z:St) (H:Hp) (Q:Option Int->Hp->Prop),Inv X pins Z H s->t Z H Q ->
   wpAny (model X.prog X.w) X.A (evalPart e X.env) (fun u s'=>∃ o H',Inv X pins Z H' s'/\IsPart u o/\Q o H') X.xe s
def fI:TO:=fun _ H Q=>Q none H
def tPart (t:TE):TO:=fun Z H Q=>t Z H fun x H1=>∃ i,x=.int i/\Q (some i) H1
section
variable {X:Cx} {e:Expr} {te:TE} {lo hi:Option Expr} {tl th:TO} {pos p2:Pos}
theorem gK:PO X none fI:=by
 intro pins s Z H Q I h
 rw [evalPart_none]
 exact wpAny_pure ⟨none,H,I,.none,h⟩
theorem gJ (h:PE X e te):PO X (some e) (tPart te):=by
 intro pins s Z H Q I hw
 rw [evalPart_some]
 refine thn (h pins s Z H _ I hw) fun u s1 ⟨x,H1,I1,r1,q1⟩=>?_
 obtain ⟨i,rfl,q⟩:=q1
 obtain ⟨t,rfl⟩:=r1
 exact ⟨some i,H1,I1,.int i t,q⟩
def SlR (X:Cx) (r:V->Option Int->Option Int->Hp->VK->Prop):Prop :=
 ∀ (pins:List (Addr×Obj)) (s:Shared) (Z:St) (H:Hp) (x:V) (v vl vu:Value) (lo hi:Option Int) (sl:Addr) (Q:VK),Inv X pins Z H s->RelV x v->s.heap.IsSliceOf sl vl vu .none->IsPart vl lo->IsPart vu hi->r x lo hi H Q ->
   ∃ T id,typeLookup (.type T) "__getitem__" = pure (some (.builtin id))/\s.TypeIs v T/\wpAny (model X.prog X.w) X.A (getItem v (.ref sl)) (EP X pins Z Q) X.xe s
def tSl (r:V->Option Int->Option Int->Hp->VK->Prop) (te:TE) (tl th:TO):TE:=fun Z H Q=>te Z H fun x H1=>tl Z H1 fun l H2=>th Z H2 fun u H3=>r x l u H3 Q
theorem Rh {r:V->Option Int->Option Int->Hp->VK->Prop} (hr:SlR X r) (he:PE X e te) (hl:PO X lo tl) (hu:PO X hi th):PE X (.Subscript e (.Slice lo hi none p2) pos) (tSl r te tl th):=by
 intro pins s Z H Q I h
 refine Subscript_ (thn (he pins s Z H _ I h) fun v s1 ⟨x,H1,I1,r1,q1⟩=>?_)
 refine wpAny_Slice (thn (hl pins s1 Z H1 _ I1 q1) fun vl s2 ⟨l,H2,I2,pl,q2⟩=>thn (hu pins s2 Z H2 _ I2 q2) fun vu s3 ⟨u,H3,I3,pu,q3⟩=>?_)
 rw [evalPart_none]
 refine wpAny_pure ?_
 have I4:Inv X pins Z H3 { s3 with heap:=s3.heap.push { cls:=.type "slice",data:=.fields #[vl,vu,.none] } }:=I3.kept (t':=s3.toks) fun b ob q=>Heap.get?_push_of_some _ q
 obtain ⟨T,id,hT,ht,hg⟩:=hr pins { s3 with heap:=s3.heap.push { cls:=.type "slice",data:=.fields #[vl,vu,.none] } } Z H3 x v vl vu l u s3.heap.objs.size Q I4 r1 (Heap.IsSliceOf.new ..) pl pu q3
 show wpAny (model X.prog X.w) X.A (subscriptTail e (.Slice lo hi none p2) v (.ref s3.heap.objs.size)) (EP X pins Z Q) X.xe { s3 with heap:=s3.heap.push { cls:=.type "slice",data:=.fields #[vl,vu,.none] } }
 exact tail_any (ops:=[.ref s3.heap.objs.size,v]) ht hT hg (by with_unfolding_all rfl)
def Zj (xs:List V) (lo hi:Option Int):List V:=(xs.drop (HT.sIx xs.length 0 lo)).take (HT.sIx xs.length xs.length hi - HT.sIx xs.length 0 lo)
theorem Cj (xs:List V) (lo hi:Option Int):(Zj xs lo hi).length<=xs.length:=by
 unfold Zj
 rw [List.length_take,List.length_drop]
 omega
end
end L2
namespace L2
open PySem PySem.Spec PyProof.Rows
def ixN (n:Nat) (i:Int):Option Nat:=if 0<=i then (if i < n then some i.toNat else none) else if -(n:Int)<=i then some (i+n).toNat else none
def atI {α:Type} (xs:List α) (i:Int):Option α:=(ixN xs.length i).bind fun j=>xs[j]?
theorem Wp {n:Nat} {i:Int} {j:Nat} (h:ixN n i=some j):seqIndex? i n=some j/\j < n /\ -(n:Int)<=i/\i < n:=by
 unfold ixN at h
 by_cases h0:0<=i
 . rw [if_pos h0] at h
   by_cases h1:i < n
   . rw [if_pos h1] at h
     have e:i.toNat=j:=Option.some.inj h; exact ⟨by rw [seqIndex_of h0 h1,e],by omega,by omega,h1⟩
   . rw [if_neg h1] at h; cases h
 . rw [if_neg h0] at h
   by_cases h1 : -(n:Int)<=i
   . rw [if_pos h1] at h
     have e:(i+n).toNat=j:=Option.some.inj h; exact ⟨by rw [seqIndex_neg (by omega) h1,e],by omega,h1,by omega⟩
   . rw [if_neg h1] at h; cases h
theorem Ia {α:Type} {xs:List α} {i:Int} {v:α} (h:atI xs i=some v):∃ j,seqIndex? i xs.length=some j/\xs[j]? = some v/\j < xs.length /\ -(xs.length:Int)<=i/\i < xs.length:=by
 unfold atI at h
 cases e:ixN xs.length i with
 | none=>rw [e] at h; cases h
 | some j =>
   rw [e] at h; obtain ⟨h1,h2,h3,h4⟩:=Wp e; exact ⟨j,h1,h,h2,h3,h4⟩
def Xk (b:Expr):Prop:=∀ o i,subscripted b false o i=operate [o,i] (getItem o i)
def IxR (X:Cx) (r:R2):Prop :=
 ∀ (value slice:Expr) (pins:List (Addr×Obj)) (s:Shared) (Z:St) (H:Hp) (x y:V) (v u:Value) (Q:VK),Inv X pins Z H s->RelV x v->RelV y u->r x y H Q ->
   subscripted slice false v u=operate [v,u] (getItem v u)->wpAny (model X.prog X.w) X.A (subscriptTail value slice v u) (EP X pins Z Q) X.xe s
def MtR (X:Cx) (id:String) (r:V->List V->Hp->VK->Prop):Prop :=
 ∀ (pins:List (Addr×Obj)) (s:Shared) (Z:St) (H:Hp) (x:V) (xs:List V) (v:Value) (us:List Value) (Q:VK),Inv X pins Z H s->RelV x v->Vals xs us->r x xs H Q ->
   wpAny (model X.prog X.w) X.A (call (.builtin id) (v::us)) (EP X pins Z Q) X.xe s
section
variable {X:Cx} {a b:Expr} {ta tb:TE} {pos:Pos}
theorem IxR.or {r r':R2} (h:IxR X r) (h':IxR X r'):IxR X (fun x y H Q=>r x y H Q\/r' x y H Q):=by
 intro value slice pins s Z H x y v u Q I rx ry q hs
 rcases q with q | q
 . exact h value slice pins s Z H x y v u Q I rx ry q hs
 . exact h' value slice pins s Z H x y v u Q I rx ry q hs
theorem pe_ix {r:R2} (hr:IxR X r) (ha:PE X a ta) (hb:PE X b tb) (hs:Xk b):PE X (.Subscript a b pos) (tOp r ta tb):=by
 intro pins s Z H Q I h
 exact Subscript_ (nA ha hb I h fun v u s2 x y H2 I2 rx ry q=>hr a b pins s2 Z H2 x y v u Q I2 rx ry q (hs _ _))
def rIxL (K:PySem.W.Frag):R2:=fun x y H Q=>∃ p xs i v,x=.ref p/\y=.int i/\SqL K H p xs/\atI xs i=some v/\Q v H
def rIxT (K:PySem.W.Frag):R2:=fun x y H Q=>∃ p xs i v,x=.ref p/\y=.int i/\SqT K H p xs/\atI xs i=some v/\Q v H
def rIxS:R2:=fun x y H Q=>∃ z i c,x=.str z/\y=.int i/\z.length<=sizeLine/\atI z.cps.toList i=some c/\Q (.str ⟨#[c]⟩) H
theorem hW:IxR X (rIxL X.K):=by
 intro value slice pins s Z H x y v u Q I rx ry h hs
 obtain ⟨p,xs,i,z,rfl,rfl,hq,he,q⟩:=h
 cases rx
 obtain ⟨t,rfl⟩:=ry
 obtain ⟨its,r,pl,hz⟩:=I.list hq
 obtain ⟨j,h1,h2,h3,h4,h5⟩:=Ia he
 obtain ⟨w,ew,rw'⟩:=r.get h2
 have hl:=r.length
 have hn:=Be
 have fin:EP X pins Z Q w s:=⟨z,H,I,rw',q⟩
 by_cases h0:0<=i
 . have hj : i.toNat = j := by
     rw [seqIndex_of h0 h5] at h1; exact Option.some.inj h1
   exact item_listR pl.isList h0 (by omega) (by rw [hj]; simpa using ew) fin hs
 . have hj : (i + (its.toArray.size : Int)).toNat = j := by
     rw [seqIndex_neg (by omega) h4] at h1; rw [List.size_toArray,<- hl]; exact Option.some.inj h1
   exact subscriptTail_builtinR (x:=w) pl.isList.typeIs slot_list_getitem.lookup
     (wpAny_getItem_list_neg (Q:=fun r s'=>r=w/\EP X pins Z Q r s') pl.isList (by omega) (by rw [List.size_toArray] <;> omega) (by omega) (by rw [hj]; simpa using ew) ⟨rfl,fin⟩) hs
theorem mK:IxR X (rIxT X.K):=by
 intro value slice pins s Z H x y v u Q I rx ry h hs
 obtain ⟨p,xs,i,z,rfl,rfl,hq,he,q⟩:=h
 cases rx
 obtain ⟨t,rfl⟩:=ry
 obtain ⟨its,r,pl,hz⟩:=I.tuple hq
 obtain ⟨j,h1,h2,h3,h4,h5⟩:=Ia he
 obtain ⟨w,ew,rw'⟩:=r.get h2
 have hl:=r.length
 have hn:=Be
 have fin:EP X pins Z Q w s:=⟨z,H,I,rw',q⟩
 exact subscriptTail_builtinR (x:=w) pl.typeIs slot_tuple_getitem.lookup
   (getItem_tuple (j:=j) (Q:=fun r s'=>r=w/\EP X pins Z Q r s') pl (by omega) (by omega) (by rw [List.size_toArray,<- hl]; exact h1) (by simpa using ew) ⟨rfl,fin⟩) hs
theorem mL:IxR X rIxS:=by
 intro value slice pins s Z H x y v u Q I rx ry h hs
 obtain ⟨z,i,c,rfl,rfl,hz,he,q⟩:=h
 obtain ⟨t,rfl⟩:=rx
 obtain ⟨t',rfl⟩:=ry
 obtain ⟨j,h1,h2,h3,h4,h5⟩:=Ia he
 have hl:z.cps.toList.length=z.length:=by simp [Str.length]
 rw [hl] at h1 h4 h5
 have hn:=Be
 exact tail_any (typeIs_str s z t) slot_str_getitem.lookup (getItem_str (c:=c) (by
   have e1:decide (i < -(2 ^ 63:Int))=false:=decide_eq_false (by omega)
   have e2:decide (i≥2 ^ 63)=false:=decide_eq_false (by omega)
   rw [e1,e2,Bool.or_false]) (by rw [h1]; simpa using h2) ⟨.str ⟨#[c]⟩,H,I.tok _,⟨_,rfl⟩,q⟩) hs
def rIx (K:PySem.W.Frag):R2:=fun x y H Q=>rIxL K x y H Q\/rIxT K x y H Q\/rIxS x y H Q
theorem mM:IxR X (rIx X.K):=hW.or (mK.or mL)
theorem Ui (its:List Value) (n j:Nat) (u:Value):Obj.mapSeq (·.setIfInBounds j u) { cls:=.type "list",data:=.seq its.toArray n }={ cls:=.type "list",data:=.seq (its.set j u).toArray n }:=by
 simp [Obj.mapSeq]
theorem Inv.lst {pins:List (Addr×Obj)} {Z:St} {H:Hp} {s:Shared} {p:Addr} {xs:List V} (I:Inv X pins Z H s) (h:H p=some (.lst xs)) :
   ∃ (its:List Value) (n:Nat),Vals xs its/\s.heap.get? p=some { cls:=.type "list",data:=.seq its.toArray n }/\xs.length<=sizeLine:=by
 obtain ⟨z,its,n,r,e⟩:=I.hok p _ h
 exact ⟨its,n,r,e,z⟩
theorem Inv.lstUpd {pins:List (Addr×Obj)} {Z:St} {H:Hp} {s:Shared} {p:Addr} {xs ys:List V} {its its':List Value} {n n':Nat} {f:Obj->Obj} (I:Inv X pins Z H s) (h:H p=some (.lst xs))
   (ho:s.heap.get? p=some { cls:=.type "list",data:=.seq its.toArray n }) (hf:f { cls:=.type "list",data:=.seq its.toArray n }={ cls:=.type "list",data:=.seq its'.toArray n' }) (r:Vals ys its') (hz:ys.length<=sizeLine) (t:Nat) :
   Inv X pins Z (upd H p (.lst ys)) { s with heap:=s.heap.update p f,toks:=t }:=by
 have e:(s.heap.update p f).get? p=some { cls:=.type "list",data:=.seq its'.toArray n' }:=by
   rw [Heap.get?_update_self f ho (by rw [hf] <;> rfl),hf]
 refine I.write (x:=p) (e:=p) (by rw [h]; trivial) (.inl rfl) (fun b u hb q=>(Heap.get?_update_other _ _ (Ne.symm hb)).trans q) ⟨_,e⟩ ?_
 exact ⟨hz,its',n',r,e⟩
def rSetL:V->V->V->Hp->(Hp->Prop)->Prop:=fun o i v H Q=>∃ p xs k j,o=.ref p/\i=.int k/\H p=some (.lst xs)/\ixN xs.length k=some j/\Q (upd H p (.lst (xs.set j v)))
theorem aZ:PSet X rSetL:=by
 intro pins s Z H o i v ov iv u Q I ro ri rv h
 obtain ⟨p,xs,k,j,rfl,rfl,hp,hj,q⟩:=h
 cases ro
 obtain ⟨t,rfl⟩:=ri
 obtain ⟨its,n,r,ho,hz⟩:=I.lst hp
 obtain ⟨h1,h2,h3,h4⟩:=Wp hj
 have hl:=r.length
 have hn:=Be
 have I':Inv X pins Z (upd H p (.lst (xs.set j v))) { s with heap:=s.heap.update p (Obj.mapSeq (·.setIfInBounds j u)) } :=
   I.lstUpd hp ho (Ui its n j u) (r.set rv j) (by rw [List.length_set]; exact hz) s.toks
 by_cases h0:0<=k
 . have hk : k.toNat = j := by
     rw [seqIndex_of h0 h4] at h1; exact Option.some.inj h1
   exact PySem.W.ki_setAt ho h0 (by omega) (by rw [List.size_toArray,<- hl]; exact h4) (by rw [hk]; exact ⟨_,I',q⟩)
 . have hk : (k + (its.toArray.size : Int)).toNat = j := by
     rw [seqIndex_neg (by omega) h3] at h1; rw [List.size_toArray,<- hl]; exact Option.some.inj h1
   exact PySem.W.ki_setBack ho (by omega) (by rw [List.size_toArray,<- hl]; exact h3) (by omega) (by rw [hk]; exact ⟨_,I',q⟩)
theorem Oc (lo hi:Option Int) (n:Nat):(sliceBounds lo hi none n).1=((HT.sIx n 0 lo:Nat):Int)/\(sliceBounds lo hi none n).2.1=((HT.sIx n n hi:Nat):Int)/\(sliceBounds lo hi none n).2.2=1:=by
 refine ⟨?_,?_,rfl⟩
 . cases lo with
   | none=>simp [sliceBounds,HT.sIx]
   | some i =>
     simp only [sliceBounds,HT.sIx,Option.getD_none,show (1:Int)>0 by decide,if_true]
     by_cases h:i < 0
     . simp only [h,if_true] <;> omega
     . simp only [h,if_false] <;> omega
 . cases hi with
   | none=>simp [sliceBounds,HT.sIx]
   | some i =>
     simp only [sliceBounds,HT.sIx,Option.getD_none,show (1:Int)>0 by decide,if_true]
     by_cases h:i < 0
     . simp only [h,if_true] <;> omega
     . simp only [h,if_false] <;> omega
theorem Cw (its:List Value) (lo hi:Option Int):slicePick its.toArray lo hi none=((its.drop (HT.sIx its.length 0 lo)).take (HT.sIx its.length its.length hi - HT.sIx its.length 0 lo)).toArray:=by
 obtain ⟨h1,h2,h3⟩:=Oc lo hi its.toArray.size
 unfold slicePick
 rw [h1,h2,h3]
 simp only [sliceRange_one,pick_run,List.size_toArray] <;> rfl
def rSlL (K:PySem.W.Frag):V->Option Int->Option Int->Hp->VK->Prop:=fun x lo hi H Q=>∃ a xs,x=.ref a/\SqL K H a xs/\∀ p,H p=none->Q (.ref p) (upd H p (.lst (Zj xs lo hi)))
theorem sl_list:SlR X (rSlL X.K):=by
 intro pins s Z H x v vl vu lo hi sl Q I rx hs pl pu h
 obtain ⟨a,xs,rfl,hx,q⟩:=h
 cases rx
 obtain ⟨its,r,ht,hz⟩:=I.list hx
 have hlen:=r.length
 refine ⟨"list",_,slot_list_getitem.lookup,ht.isList.typeIs,?_⟩
 refine wpAny_getItem_list_slice ht.isList hs pl pu .none (by simp) ?_ (by rw [List.size_toArray] <;> omega)
 rw [Cw,<- hlen]
 refine ⟨.ref s.heap.objs.size,_,I.laid (t':=s.toks) (o:=.lst (Zj xs lo hi)) (fun b ob q=>Heap.get?_push_of_some _ q) (Nat.le_refl _) ?_,rfl,q _ (I.hok.fresh (Nat.le_refl _))⟩
 exact ⟨Nat.le_trans (Cj xs lo hi) hz,_,0,(r.drop (HT.sIx xs.length 0 lo)).take (HT.sIx xs.length xs.length hi - HT.sIx xs.length 0 lo),Heap.get?_push_size _ rfl⟩
theorem Df:Aw X (.type "tuple") (fun xs H Q=>∃ p ys,xs=[.ref p]/\((SqL X.K H p ys/\∀ l,H l=none->Q (.ref l) (upd H l (.tup ys)))\/(SqT X.K H p ys/\Q (.ref p) H))):=by
 intro pins s Z H xs us Q I r h
 obtain ⟨p,ys,rfl,h⟩:=h
 obtain ⟨u,rfl,rx⟩:=Py r
 cases rx
 rcases h with ⟨hq,q⟩ | ⟨hq,q⟩
 . obtain ⟨its,r',pl,hz⟩:=I.list hq
   have hlen:=r'.length; refine call_tuple_list pl.isList (fun h' kp=>?_) (by simp only [List.size_toArray] <;> omega)
   have I1:Inv X pins Z H { s with heap:=h' }:=I.kept (t':=s.toks) kp; have I2:Inv X pins Z (upd H h'.objs.size (.tup ys)) { s with heap:=h'.push { cls:=.type "tuple",data:=.seq its.toArray } } :=
     I1.laid (t':=s.toks) (fun b o e=>Heap.get?_push_of_some _ e) (Nat.le_refl _) (show ObjOk X.prog X.w _ _ _ (.tup ys) from ⟨hz,its,r',IsTup.new _ _⟩)
   exact ⟨.ref h'.objs.size,_,I2,rfl,q _ (I1.hok.fresh (Nat.le_refl _))⟩
 . obtain ⟨its,r',pl,hz⟩:=I.tuple hq
   exact call_tuple_same pl ⟨.ref p,H,I,rfl,q⟩
def tyV (K:PySem.W.Frag) (T:String) (x:V) (H:Hp):Prop:=match x with
 | .str _=>T = "str"
 | .int _=>T = "int"
 | .ref p => (T = "list" /\ ∃ xs, SqL K H p xs) \/ (T = "tuple" /\ ∃ o, K.lookup p = some o /\ o.cls = .type "tuple" /\ o.dict = none) \/
     (T = "dict" /\ ((∃ kvs,H p=some (.dK kvs))\/∃ kvs,H p=some (.dT kvs)))\/(T = "set" /\ ∃ S n,H p=some (.set S n))
 | _=>False
theorem Zx {pins:List (Addr×Obj)} {Z:St} {H:Hp} {s:Shared} {T:String} {x:V} {v:Value} (I:Inv X pins Z H s) (r:RelV x v) (ty:tyV X.K T x H) :
   s.TypeIs v T/\∀ a,v=.ref a->∃ ob,s.heap.get? a=some ob/\ob.dict=none:=by
 cases x with
 | str z =>
   obtain ⟨t,rfl⟩:=r
   cases (show T = "str" from ty)
   exact ⟨typeIs_str s z t,fun _ e=>nomatch e⟩
 | int i =>
   obtain ⟨t,rfl⟩:=r
   cases (show T = "int" from ty)
   exact ⟨typeIs_int s i t,fun _ e=>nomatch e⟩
 | ref p =>
   cases r; rcases ty with ⟨rfl,xs,hq⟩ | ⟨rfl,o,hk,hc,hd⟩ | ⟨rfl,hk⟩ | ⟨rfl,S,n,hk⟩
   . obtain ⟨its,_,pl,_⟩:=I.list hq
     refine ⟨pl.isList.typeIs,fun a e=>?_⟩
     cases e; obtain ⟨o,n,e,c,hd,_⟩:=pl; exact ⟨o,e,hd⟩
   . refine ⟨⟨o,I.kIn p o hk,hc⟩,fun a e=>?_⟩
     cases e; exact ⟨o,I.kIn _ o hk,hd⟩
   . have z : ∃ o, s.heap.get? p = some o /\ o.ExactDict := by
       rcases hk with ⟨kvs,hk⟩ | ⟨kvs,hk⟩
       . obtain ⟨_,_,_,_,o,_,_,e,ex,_⟩:=I.hok p _ hk
         exact ⟨o,e,ex⟩
       . obtain ⟨_,_,_,_,o,_,_,e,ex,_⟩:=I.hok p _ hk
         exact ⟨o,e,ex⟩
     obtain ⟨o,e,ex⟩:=z; refine ⟨⟨o,e,ex.1⟩,fun a e2=>?_⟩
     cases e2; exact ⟨o,e,ex.2.1⟩
   . obtain ⟨o,_,_,_,e,ex,_⟩:=I.hok p _ hk
     refine ⟨⟨o,e,ex.1⟩,fun a e2=>?_⟩
     cases e2; exact ⟨o,e,ex.2.1⟩
 | _=>exact False.elim ty
def tBM0 (K:PySem.W.Frag) (T:String) (r:V->List V->Hp->VK->Prop) (to:TE):TE:=fun Z H Q=>to Z H fun x H1=>tyV K T x H1/\r x [] H1 Q
def tBM (K:PySem.W.Frag) (T:String) (r:V->List V->Hp->VK->Prop) (to:TE) (t:TA):TE:=fun Z H Q=>to Z H fun x H1=>tyV K T x H1/\t Z H1 fun xs H2=>r x xs H2 Q
variable {o e:Expr} {es:List Expr} {to:TE} {t:TA} {name:Str} {apos cpos:Pos} {T id:String} {r:V->List V->Hp->VK->Prop}
theorem lL (pa:PlainAttrs T) (slot:Slot T name id) (hty:typeOf (.builtin id)=pure (.type "method_descriptor")) (hm:MtR X id r) (ho:PE X o to)
   (hbase:attributeBase o name X.env (eval o X.env)=eval o X.env:=by rfl) (hline:(apos.endLine==cpos.line)=true:=by rfl):PE X (.Call (.Attribute o name apos) [] [] cpos) (tBM0 X.K T r to):=by
 intro pins s Z H Q I h
 refine wpAny_Call_method0_late hbase hline (thn (ho pins s Z H _ I h) fun v s1 ⟨x,H1,I1,r1,ty,q1⟩=>?_)
 obtain ⟨h1,h2⟩:=Zx I1 r1 ty
 exact ⟨T,id,pa,slot,hty,h1,h2,Calls.callWith_builtin rfl (PySem.evalArgs_none (hm pins s1 Z H1 x [] v [] Q I1 r1 .nil q1))⟩
theorem Wc (pa:PlainAttrs T) (slot:Slot T name id) (hty:typeOf (.builtin id)=pure (.type "method_descriptor")) (hm:MtR X id r) (ho:PE X o to) (ha:PA X (e::es) t)
   (hbase:attributeBase o name X.env (eval o X.env)=eval o X.env:=by rfl)
   (hfew:((backTo cpos (starEach (e::es) X.env)).all (fun x => !x.1)&&(backToKw cpos (keywordEach [] X.env)).all (fun x=>x.1.isSome)
     && decide ((e::es).length+([]:List Keyword).length+(if ([]:List Keyword).isEmpty then 0 else 1) < 30))=true:=by rfl)
   (hline:(apos.endLine==cpos.line)=true:=by rfl) (hs:starEach (e::es) X.env=(false,eval e X.env)::starEach es X.env:=by rfl) (hplain:(backTo cpos (starEach es X.env)).any (·.1)=false:=by rfl) :
   PE X (.Call (.Attribute o name apos) (e::es) [] cpos) (tBM X.K T r to t):=by
 intro pins s Z H Q I h
 refine wpAny_Call_method_late hbase hfew hline rfl (thn (ho pins s Z H _ I h) fun v s1 ⟨x,H1,I1,r1,ty,q1⟩=>?_)
 obtain ⟨h1,h2⟩:=Zx I1 r1 ty
 refine ⟨T,id,pa,slot,hty,h1,h2,?_⟩
 have hA:=ha cpos pins s1 Z H1 _ I1 q1
 rw [hs] at hA ⊢
 refine Calls.callWith_builtin (by show (false||(backTo cpos (starEach es X.env)).any (·.1))=false; rw [hplain] <;> rfl) (Calls.evalArgs_plain ?_)
 exact thn hA fun us s2 ⟨vs,H2,I2,r2,q2⟩=>hm pins s2 Z H2 x vs v us Q I2 r1 r2 q2
end
end L2
namespace L2
open PySem PySem.Spec PyProof.Rows
def MtM (X:Cx) (id:String) (r:V->List V->Hp->VK->Prop):Prop :=
 ∀ (pins:List (Addr×Obj)) (s:Shared) (Z:St) (H:Hp) (x:V) (xs:List V) (v:Value) (us:List Value) (Q:VK),Inv X pins Z H s->RelV x v->Vals xs us->r x xs H Q ->
   wpAny (model X.prog X.w) X.A (call (.builtin id) (v::us)) (EP X pins Z Q) X.xe s
theorem Vals.one:∀ {x:V} {us:List Value},Vals [x] us->∃ u,us=[u]/\RelV x u
 | _,_,.cons r .nil=>⟨_,rfl,r⟩
theorem Vals.zero:∀ {us:List Value},Vals [] us->us=[]
 | _,.nil=>rfl
theorem Vals.dropLast {xs:List V} {us:List Value} (h:Vals xs us):Vals xs.dropLast us.dropLast:=by
 induction h with
 | nil=>exact .nil
 | cons r t ih =>
   cases t with
   | nil=>exact .nil
   | cons q t'=>exact .cons r ih
theorem Vals.rep {xs:List V} {us:List Value} (h:Vals xs us):∀ k:Nat,Vals (List.replicate k xs).flatten (List.replicate k us).flatten
 | 0=>.nil
 | k+1=>by
   rw [List.replicate_succ,List.replicate_succ,List.flatten_cons,List.flatten_cons]; exact Vals.append h (Vals.rep h k)
theorem Up {α:Type} (l:List α):l.eraseIdx (l.length - 1)=l.dropLast:=by
 induction l with
 | nil=>rfl
 | cons a r ih =>
   cases r with
   | nil=>rfl
   | cons b r =>
     have e:(a::b::r).length - 1=((b::r).length - 1)+1:=by
       have h1:(a::b::r).length=r.length+2:=rfl; have h2:(b::r).length=r.length+1:=rfl; omega
     rw [e,List.eraseIdx_cons_succ,ih]
     all_goals rfl
theorem Na (its:List Value):∀ (k:Nat) (acc:List Value),
   List.foldl (fun x1 x2=>x1++x2) acc.toArray (List.replicate k its.toArray)=(acc++(List.replicate k its).flatten).toArray
 | 0,acc=>by simp
 | k+1,acc=>by
   have e:acc.toArray++its.toArray=(acc++its).toArray:=by simp
   have e2:(acc++its)++(List.replicate k its).flatten=acc++(List.replicate (k+1) its).flatten:=by
     rw [List.replicate_succ,List.flatten_cons,List.append_assoc]
   rw [<- e2,<- Na its k (acc++its),<- e,List.replicate_succ,List.foldl_cons]
section
variable {X:Cx} {pins:List (Addr×Obj)} {Z:St} {H:Hp} {s:Shared} {l:Addr} {xs ys:List V}
theorem Inv.lset {its its':List Value} {n:Nat} {f:Array Value->Array Value} {t':Nat} (I:Inv X pins Z H s) (hH:H l=some (.lst xs))
   (e:s.heap.get? l=some { cls:=.type "list",data:=.seq its.toArray n }) (hf:f its.toArray=its'.toArray) (hv:Vals ys its') (hz:ys.length<=sizeLine) :
   Inv X pins Z (upd H l (.lst ys)) { s with heap:=s.heap.update l (Obj.mapSeq f),toks:=t' }:=by
 have q:=PySem.IsL.update e f
 rw [hf] at q
 refine I.write (x:=l) (e:=l) (by rw [hH]; exact trivial) (.inl rfl) (fun b' u hb hu=>(Heap.get?_update_other s.heap (Obj.mapSeq f) (Ne.symm hb)).trans hu) ⟨_,q⟩ ?_
 exact ⟨hz,its',_,hv,q⟩
theorem Inv.lnew {its:List Value} {t':Nat} (I:Inv X pins Z H s) (hv:Vals ys its) (hz:ys.length<=sizeLine) :
   Inv X pins Z (upd H s.heap.objs.size (.lst ys)) { s with heap:=s.heap.push { cls:=.type "list",data:=.seq its.toArray },toks:=t' } :=
 I.laid (fun _ _ q=>Heap.get?_push_of_some _ q) (Nat.le_refl _) ⟨hz,its,0,hv,Heap.get?_push_size _ rfl⟩
theorem Inv.fresh (I:Inv X pins Z H s):H s.heap.objs.size=none:=I.hok.fresh (Nat.le_refl _)
theorem Inv.lstM (I:Inv X pins Z H s) (hH:H l=some (.lst xs)):xs.length<=sizeLine/\∃ (its:List Value) (n:Nat),Vals xs its/\xs.length=its.length/\s.heap.get? l=some { cls:=.type "list",data:=.seq its.toArray n }:=by
 obtain ⟨z,its,n,r,e⟩:=I.hok l _ hH
 exact ⟨z,its,n,r,r.length,e⟩
theorem Rq {n:Nat} (h:n<=sizeLine):Builtin.List.listTooLong n=false:=by
 unfold Builtin.List.listTooLong
 exact decide_eq_false (by omega)
end
section
variable {X:Cx}
def gD:V->List V->Hp->VK->Prop:=fun x vs H Q=>∃ l xs y,x=.ref l/\vs=[y]/\H l=some (.lst xs)/\xs.length < sizeLine/\Q .non (upd H l (.lst (xs++[y])))
theorem Ft:MtM X "list.append" gD:=by
 intro pins s Z H x vs v us Q I rx rv h
 obtain ⟨l,xs,y,rfl,rfl,hH,hz,q⟩:=h
 cases rx
 obtain ⟨u,rfl,ru⟩:=rv.one
 obtain ⟨z,its,n,r,hl,e⟩:=I.lstM hH
 refine call_meets F.slot_list_append ⟨_,e,rfl⟩ F.entry_list_append (F.args_list_append_2 _ _) (PySem.list_append l its.toArray n u (by rw [List.size_toArray]; omega)) ⟨e,?_⟩
 refine ⟨.non,_,I.lset (its':=its++[u]) hH e (by simp) (r.append (.cons ru .nil)) ?_,rfl,q⟩
 rw [List.length_append,List.length_singleton]
 omega
def gB:V->List V->Hp->VK->Prop:=fun x vs H Q=>∃ l b xs zs,x=.ref l/\vs=[.ref b]/\H l=some (.lst xs)/\H b=some (.lst zs)/\xs.length+zs.length<=sizeLine/\Q .non (upd H l (.lst (xs++zs)))
theorem Yp:MtM X "list.extend" gB:=by
 intro pins s Z H x vs v us Q I rx rv h
 obtain ⟨l,b,xs,zs,rfl,rfl,hH,hB,hz,q⟩:=h
 cases rx
 obtain ⟨u,rfl,ru⟩:=rv.one
 cases ru
 obtain ⟨z,its,n,r,hl,e⟩:=I.lstM hH
 obtain ⟨z2,its2,n2,r2,hl2,e2⟩:=I.lstM hB
 have hsz:its.toArray.size+its2.toArray.size<=sizeLine:=by rw [List.size_toArray,List.size_toArray]; omega
 have hlong:¬ (!its.toArray.isEmpty&&Builtin.List.listTooLong (its.toArray.size+its2.toArray.size))=true:=by
   rw [Rq hsz,Bool.and_false]; exact Bool.false_ne_true
 refine call_meets F.slot_list_extend ⟨_,e,rfl⟩ F.entry_list_extend (F.args_list_extend_2 _ _)
   (AutoSeq1.list_extend_list_list_0 l its.toArray n b its2.toArray n2 hlong (by rw [List.size_toArray]; omega) (by omega)) ⟨e,e2,?_⟩
 refine ⟨.non,_,I.lset (its':=its++its2) hH e (by simp) (r.append r2) ?_,rfl,q⟩
 rw [List.length_append]
 omega
def rPop:V->List V->Hp->VK->Prop:=fun x vs H Q=>∃ l xs y,x=.ref l/\vs=[]/\H l=some (.lst xs)/\xs[xs.length - 1]? = some y/\Q y (upd H l (.lst xs.dropLast))
theorem lY:MtM X "list.pop" rPop:=by
 intro pins s Z H x vs v us Q I rx rv h
 obtain ⟨l,xs,y,rfl,rfl,hH,hy,q⟩:=h
 cases rx
 have hus:=rv.zero
 subst hus
 obtain ⟨z,its,n,r,hl,e⟩:=I.lstM hH
 obtain ⟨u,hu,ru⟩:=r.get hy
 have hy':its.toArray[its.toArray.size - 1]? = some u:=by
   show its.toArray[its.length - 1]? = some u
   rw [<- Array.getElem?_toList,<- hl]; exact hu
 refine call_meets F.slot_list_pop ⟨_,e,rfl⟩ F.entry_list_pop (F.args_list_pop_1 _) (MeetsSeq.list_pop_last l its.toArray n u hy' (by rw [List.size_toArray]; omega)) ⟨e,?_⟩
 refine ⟨y,_,I.lset (its':=its.dropLast) hH e ?_ r.dropLast ?_,ru,q⟩
 . show its.toArray.eraseIdxIfInBounds (its.toArray.size - 1)=its.dropLast.toArray
   rw [List.size_toArray,List.eraseIdxIfInBounds_toArray,Up]
 . rw [List.length_dropLast]
   omega
theorem Wo {α:Type} (xs:List α) (k:Nat):(List.replicate k xs).flatten.length=k*xs.length:=by
 induction k with
 | zero=>simp
 | succ k ih=>rw [List.replicate_succ,List.flatten_cons,List.length_append,ih,Nat.succ_mul,Nat.add_comm]
end
end L2
namespace Att
open PySem PySem.W PySem.Calls PyProof.Rows
theorem Hk {P:Params} {h:Heap}:∀ (ns:List Int) (vs:List Value),WellAll P h vs (ns.map WData.int)->IntsAre vs ns:=by
 intro ns
 induction ns with
 | nil =>
   intro vs w; rw [List.map_nil] at w; cases w; exact .nil
 | cons n ns ih =>
   intro vs w; rw [List.map_cons] at w
   cases w with
   | cons a b =>
     cases a; exact .cons _ _ (ih _ b)
theorem Ya {l:OpenLaw} {n:Nat} (hn:l.most=some n) {P:Params} {h:Heap} {args:List WData} {vals:List Value}
   (hpre:l.row.toRowW.claim.pre args=true) (hwl:WellAll P h vals args) :
   ∃ a vs ns,vals=[Value.ref a]/\args=[WData.list (ns.map WData.int)]/\h.get? a=some { cls:=.type "list",data:=.seq vs.toArray }/\IntsAre vs ns/\ns.length<=n:=by
 have hsh:WShape.hasAll [] args [.list .int]=true:=(pre_splitW hpre).1
 have hc:l.pre.holds [] { args:=args }=true:=(pre_splitW hpre).2
 obtain ⟨d,r,rfl,h1,h2⟩:=hasAllW_cons hsh
 obtain rfl:=hasAllW_nil h2
 obtain ⟨xs,rfl,h3⟩:=hasW_list h1
 obtain ⟨ns,rfl⟩:=items_int h3
 have hlen:ns.length<=n:=by
   unfold OpenLaw.pre at hc; have h4:(WTm.not (.lt (.lit (.int (n:Int))) (.len (.arg 0)))).holds [] { args:=[.list (ns.map .int)] }=true:=by
     have h4:=(holds_andW hc).1; rw [hn] at h4; exact h4
   have h5:=condW_of h4 (w_not (w_lt w_lit (w_len_list (w_arg rfl)))); rw [List.length_map] at h5; refine Nat.le_of_not_lt fun q=>?_
   have q':(n:Int) < ((ns.length:Nat):Int):=by omega
   first
     | (rw [decide_eq_true q'] at h5; exact absurd h5 (by decide))
     | (simp at h5; omega)
 cases hwl with
 | cons w1 w2 =>
   cases w2
   cases w1 with
   | list ho hall=>exact ⟨_,_,ns,rfl,rfl,ho,Hk ns _ hall,hlen⟩
theorem Yh (l:OpenLaw) (args:List WData):l.row.toRowW.claim.post args (.bool true) args=true :=
 postW_of (r:=l.row.toRowW) (X:=(true==true))
   (show WShape.has [] (.bool true) .bool=true by first | rfl | decide | simp [WShape.has,WShape.arms,WShape.armsAll])
   (show (WTm.eq .res (.lit (.bool true))).value [] { args:=args,res:=some (.bool true),after:=args }=some (.bool (true==true)) from w_eq_bool (w_res rfl) w_lit) rfl
theorem attach_call {l:OpenLaw} {n:Nat} {q:Program} {loose:List Str} {XP:(Str->Option Value)->Heap->Prop} {YP:World->Heap->Prop} {d:DefRec}
   (hn:l.most=some n) (hdf:d.params.defaults=[])
   (call:∀ (w:World) (s₀ s₁:Shared) (mg mb:Str->Option Value) (fa:Addr) (o:Obj) (pm cd doc:Value) (a:Addr) (vs:List Value) (ns:List Int),
     Ground q loose [] XP w s₀ mg mb s₁.heap->YP w s₁.heap ->
     s₁.heap.get? fa=some o->o.data=.func (docDef d.name d.params d.body d.scope pm cd doc)->s₁.heap.CodeRec cd d.name->mg d.name=some (.ref fa) ->
     s₁.heap.get? a=some { cls:=.type "list",data:=.seq vs.toArray }->IntsAre vs ns->ns.length<=n->s₁.gens = #[] ->
     codeAny (model l.prog w) callerA (.call (.ref fa) ⟨[.ref a],[]⟩) (fun r s'=>r=.ok (.ret (.bool true))/\OldK s₁.heap s'.heap/\s'.os=s₁.os/\AllBare s'.gens) s₁) :
   WalkO q loose XP YP l.row.toRowW d [] (fun f vs=>PySem.call f vs):=by
 intro w s₀ s₁ mg mb G Y fa o pm cd doc dV kV ho hd hcd hD hmg hg args vals as hpre hlay hrd hwl hlo
 obtain rfl:dV=.none:=Dflts.none hD hdf
 obtain rfl:kV=.none:=Dflts.noKw hD
 obtain ⟨a,vs,ns,rfl,rfl,hobj,hints,hlen⟩:=Ya hn hpre hwl
 refine enter_call (codeAny_mono (call w s₀ s₁ mg mb fa o pm cd doc a vs ns G Y ho (fd_plain hd) hcd hmg hobj hints hlen hg) fun r s' hq=>?_)
 obtain ⟨rfl,h2,h3,h4⟩:=hq
 exact ⟨.inl ⟨.bool true,.bool true,[],rfl,fun _=>rfl,.bool true,Yh l _,fun _=>⟨List.Pairwise.nil,fun _ hm=>(nomatch hm)⟩⟩,h2,h3,h4⟩
end Att
namespace L2
open PySem PySem.Spec PyProof.Rows
theorem Ma:∀ {vs:List Value} {ns:List Int},IntsAre vs ns->Vals (ns.map V.int) vs
 | _,_,.nil=>.nil
 | _,_,.cons n t h=>.cons ⟨t,rfl⟩ (Ma h)
def nG (H:Hp):Prop:=∀ b,H b=none\/∃ o xs,H b=some (.frz o (.lst xs))
theorem dD {P:Program} {w:World} {K:PySem.W.Frag} {mg mb:Str->Option Value} {CX:CXT} {k:Nat} {fa a:Addr} {fd:FuncData} {x:Str} {sp:Sp} {s₁:Shared} {vs:List Value} {ns:List Int}
   (KX:K.In s₁.heap) (hns:s₁.heap.Ns mainGlobals mg) (hb:s₁.heap.Ns builtinsNs mb) (hbb:∀ x:Str,x ≠ "__name__" -> mb x=bootBuiltins x) (hlim:s₁.heap.NoLimit) (hg:s₁.gens = #[])
   (ha:s₁.heap.get? a=some { cls:=.type "list",data:=.seq vs.toArray }) (hi:IntsAre vs ns) (hl:ns.length<=sizeLine) (hr:Room k callerA)
   (F:∀ base:Heap,K.In base->base.Ns mainGlobals mg->FnOk P w K mg base CX k fa fd [x] sp) (hbind:∀ (s:Shared) (u:Value),BindsTo s fd ⟨[u],[]⟩ [(x,u)])
   (hsp:∀ H:Hp,nG H->SqL K H a (ns.map V.int)->sp [.ref a] H (fun v _=>v=.bl true) fun _ _ _=>False)
   (hCX:∀ H e s',CX [] H s₁ (fun _ _ _=>False) e s'->False) :
   codeAny (model P w) callerA (.call (.ref fa) ⟨[.ref a],[]⟩) (fun r s'=>r=.ok (.ret (.bool true))/\OldK s₁.heap s'.heap/\s'.os=s₁.os/\AllBare s'.gens) s₁:=by
 have rv:=Ma hi
 have lenV:=hi.length
 have core : ∀ H : Hp, nG H -> SqL K H a (ns.map V.int) -> HOk P w H s₁.heap -> (∀ b, H b ≠ none -> b = a) -> (H a ≠ none -> K.lookup a = none) ->
     codeAny (model P w) callerA (.call (.ref fa) ⟨[.ref a],[]⟩) (fun r s'=>r=.ok (.ret (.bool true))/\OldK s₁.heap s'.heap/\s'.os=s₁.os/\AllBare s'.gens) s₁:=by
   intro H hO hS hok hA hK; have base_of:∀ {b:Addr} {o:Obj},s₁.heap.get? b=some o->H b=none->(Pg s₁.heap H).get? b=some o:=fun e n=>dQ e n
   have noA:∀ {b:Addr} {o:Obj} {es:Array DictEntry} {ep:Nat},s₁.heap.get? b=some o->o.data=.dict es ep->H b=none:=fun {b o es ep} e d=>by
     cases q:H b with
     | none=>rfl
     | some u =>
       have e':b=a:=hA b (by rw [q]; simp)
       subst e'; rw [ha] at e; cases e; have d':Data.seq vs.toArray _=Data.dict es ep:=d
       cases d'
   have nsK:∀ {b:Addr} {m:Str->Option Value},s₁.heap.Ns b m->(Pg s₁.heap H).Ns b m:=fun {b m} ⟨o,es,ep,e,d,r⟩=>⟨o,es,ep,base_of e (noA e d),d,r⟩
   have hKb:K.In (Pg s₁.heap H):=fun b o e=>base_of (KX b o e) (by
     cases q:H b with
     | none=>rfl
     | some u =>
       have e':b=a:=hA b (by rw [q]; simp)
       subst e'; rw [hK (by rw [q]; simp)] at e; cases e)
   have hM:Mod K mg (Pg s₁.heap H):=⟨hKb,nsK hns,⟨mb,nsK hb,hbb⟩,let ⟨mc,h1,h2⟩:=hlim; ⟨mc,nsK h1,h2⟩⟩
   have e0:Env0 P w K mg (Pg s₁.heap H) callerA [] s₁ H:=⟨rfl,hM,fun b o e=>gV e,Nat.le_of_eq (Yz _ _),trivial,fun b hb=>absurd (show b∈([]:List Addr) from hb) (by simp),hok,.of_eq hg⟩
   refine codeAny_mono ((F _ hKb (nsK hns)).run callerA [] s₁ H ⟨[.ref a],[]⟩ [.ref a] [.ref a] _ _ hr e0 (hbind s₁ (.ref a)) (.cons rfl .nil) (hsp H hO hS)) fun r s' h=>?_
   cases r with
   | error e=>exact (hCX H e s' h).elim
   | ok fl =>
     cases fl with
     | next=>exact False.elim h
     | brk=>exact False.elim h
     | cont=>exact False.elim h
     | ret u =>
       obtain ⟨v,H',os,bare,un,hok',r',q⟩:=h; have q':v=.bl true:=q; subst q'; obtain rfl:u=Value.bool true:=r'; refine ⟨rfl,OldK.of_keep fun b o e=>?_,os,bare⟩
       cases q:H b with
       | none=>exact un.keep b o e q (by intro z; exact absurd (show b∈([]:List Addr) from z) (by simp)) (by simp)
       | some u =>
         rcases hO b with z | ⟨ob,xs,z⟩
         . rw [q] at z; cases z
         . have z2:=un.frzs b ob _ z
           obtain ⟨e1,_⟩:=hok b _ z; obtain ⟨e2,_⟩:=hok' b _ z2; rw [e] at e1; cases e1; exact e2
 cases hk:K.lookup a with
 | some o =>
   have e:=KX a o hk; rw [ha] at e; cases e; refine core (fun _=>none) (fun _=>.inl rfl) (.inr ⟨_,vs.toArray,_,hk,rfl,rfl,rfl,by rw [List.size_toArray,lenV]; exact hl,by simpa using rv⟩) (fun b u z=>by have z':(none:Option HO)=some u:=z; cases z') (fun b z=>absurd rfl z) fun z=>absurd rfl z
 | none =>
   refine core (fun b=>if b=a then some (.frz { cls:=.type "list",data:=.seq vs.toArray } (.lst (ns.map V.int))) else none) (fun b=>?_) (.inl (.inr ⟨{ cls:=.type "list",data:=.seq vs.toArray },if_pos rfl⟩)) (fun b u z=>?_) (fun b z=>?_) fun _=>hk
   . by_cases hb:b=a
     . exact .inr ⟨_,_,if_pos hb⟩
     . exact .inl (if_neg hb)
   . by_cases hb:b=a
     . have z':=(if_pos hb).symm.trans z
       cases z'; subst hb; exact ⟨ha,by rw [List.length_map]; exact hl,vs,_,rv,ha⟩
     . have z':=(if_neg hb).symm.trans z
       cases z'
   . by_cases hb:b=a
     . exact hb
     . exact absurd (if_neg hb) z
end L2
namespace L2
open PySem PySem.Spec PyProof.Rows
theorem fB {l:PySem.W.OpenLaw} {n k:Nat} {q:Program} {loose:List Str} {XP:(Str->Option Value)->Heap->Prop} {YP:World->Heap->Prop} {d:DefRec} {K:Params->PySem.W.Frag} {CX:World->CXT} {sp:World->Sp} {x:Str}
   (hn:l.most=some n) (hn2:n<=sizeLine) (hdf:d.params.defaults=[]) (hr:Room k callerA)
   (hY:∀ (w:World) (h:Heap),YP w h->(K w.params).In h)
   (F:∀ (w:World) (mg:Str->Option Value) (fa:Addr) (h:Heap),(K w.params).In h->h.Ns mainGlobals mg->mg d.name=some (.ref fa) ->
     ∃ fd:FuncData,(∀ (s:Shared) (u:Value),BindsTo s fd ⟨[u],[]⟩ [(x,u)]) /\
       ∀ base:Heap,(K w.params).In base->base.Ns mainGlobals mg->FnOk l.prog w (K w.params) mg base (CX w) k fa fd [x] (sp w))
   (hsp:∀ (w:World) (H:Hp) (a:Addr) (ns:List Int),ns.length<=n->nG H->SqL (K w.params) H a (ns.map V.int)->sp w [.ref a] H (fun v _=>v=.bl true) fun _ _ _=>False)
   (hCX:∀ (w:World) (H:Hp) (s:Shared) (e:Value) (s':Shared),CX w [] H s (fun _ _ _=>False) e s'->False) :
   PySem.W.WalkO q loose XP YP l.row.toRowW d [] (fun f vs=>PySem.call f vs):=by
 refine Att.attach_call hn hdf fun w s₀ s₁ mg mb fa o pm cd doc a vs ns G Y ho hd hcd hmg hobj hints hlen hg=>?_
 have KX:=hY w _ Y
 obtain ⟨fd,hb,hF⟩:=F w mg fa _ KX G.T.g hmg
 exact dD KX G.T.g G.T.b G.T.builtins G.T.nolimit hg hobj hints (Nat.le_trans hlen hn2) hr hF hb (fun H hO hS=>hsp w H a ns hlen hO hS) fun H e s'=>hCX w H s₁ e s'
end L2
namespace L2
open PySem PySem.Spec PyProof.Rows
def J2 (s:Stmt):Arguments:=match s with
 | .FunctionDef _ a _ _ _ _ _ _ _ _=>a
 | _=>{ posonlyargs:=[],args:=[],vararg:=none,kwonlyargs:=[],kw_defaults:=[],kwarg:=none,defaults:=[] }
def B8 (s:Stmt):List Stmt:=match s with
 | .FunctionDef _ _ b _ _ _ _ _ _ _=>b
 | _=>[]
def A6 (s:Stmt):Scope:=match s with
 | .FunctionDef _ _ _ _ _ _ sc _ _ _=>sc
 | _=>{ kind:=.function,names:=[],isGenerator:=false,isCoroutine:=false }
abbrev CX0:CXT:=fun _ _ _ _ _ _=>False
abbrev E0:XK:=fun _ _ _=>False
theorem cG {X:Cx}:Vh CX0 X E0:=fun _ _ _ _ _ _ _ h=>h.elim
structure Fun (K:PySem.W.Frag) (x qual:Str) (st:Stmt) (f:Addr) (fd:FuncData):Prop where
 ex:∃ (oc:Value) (od:Option Addr) (kV doc pm:Value) (an:Option Addr) (cdv ct:Value) (osl:Array (Option Value)),
   fd=PySem.W.fnOf x qual (J2 st) (B8 st) (A6 st) .none kV doc pm an cdv ct/\K.lookup f=some ⟨oc,od,.func fd,osl⟩/\PySem.W.codeIn K cdv qual=true
 kp:PySem.W.keepIn K (.ref f)=true
section
variable {P:Program} {w:World} {K:PySem.W.Frag} {mg:Str->Option Value} {base:Heap}
theorem Fun.ok {x qual:Str} {st:Stmt} {f:Addr} {fd:FuncData} {N ps:List Str} {k:Nat} {sp:Sp} (F:Fun K x qual st f fd) (S:FnScope N ps (A6 st)) (len:∀ vs H Q E,sp vs H Q E->vs.length=ps.length)
   (hbody:∀ (cdv:Value) (A:Around) (outer:List Env) (s:Shared) (H:Hp) (vs:List V) (Q:VK) (E:XK),Room k (A.deeper (envOfC qual (A6 st) s.heap.objs.size f cdv))->sp vs H Q E ->
     ∃ t,PSs (Zi CX0 P w K mg base N qual (A6 st) f cdv A outer s H E).nox (B8 st) t/\t { nx:=fun _ H'=>Q .non H',rt:=Q } (Y7 N vs) H):FnOk P w K mg base CX0 (k+1) f fd ps sp:=by
 obtain ⟨oc,od,kV,doc,pm,an,cdv,ct,osl,rfl,lk,hcd⟩:=F.ex
 refine fn_of lk hcd S len fun A outer s H vs Q E hr hsp=>?_
 obtain ⟨t,h,q⟩:=hbody cdv A outer s H vs Q E hr hsp
 exact ⟨t,h.nox,q⟩
theorem Fun.binds {x qual:Str} {st:Stmt} {f:Addr} {fd:FuncData} {ps:List Str} (F:Fun K x qual st f fd)
   (h:∀ (kV doc pm:Value) (an:Option Addr) (cdv ct:Value) (us:List Value),us.length=ps.length->bindArgs (PySem.W.fnOf x qual (J2 st) (B8 st) (A6 st) .none kV doc pm an cdv ct) ⟨us,[]⟩=pure (ps.zip us)):Binds K fd ps []:=by
 obtain ⟨oc,od,kV,doc,pm,an,cdv,ct,osl,rfl,lk,hcd⟩:=F.ex
 exact .all (h kV doc pm an cdv ct)
theorem dU {x qual:Str} {st:Stmt} {f:Addr} {oc:Value} {od an:Option Addr} {osl:Array (Option Value)} {kV doc pm cdv ct:Value} (l:K.lookup f=some ⟨oc,od,.func (PySem.W.fnOf x qual (J2 st) (B8 st) (A6 st) .none kV doc pm an cdv ct),osl⟩)
   (c:PySem.W.codeIn K cdv qual=true) (k:PySem.W.keepIn K (.ref f)=true):Fun K x qual st f (PySem.W.fnOf x qual (J2 st) (B8 st) (A6 st) .none kV doc pm an cdv ct):=⟨⟨oc,od,kV,doc,pm,an,cdv,ct,osl,rfl,l,c⟩,k⟩
end
def Same (H H':Hp):Prop:=∀ b o,H b=some o->H' b=some o
theorem Same.refl (H:Hp):Same H H:=fun _ _ h=>h
theorem Same.trans {H H1 H2:Hp} (a:Same H H1) (b:Same H1 H2):Same H H2:=fun c o h=>b c o (a c o h)
theorem Same.free {H H':Hp} (e:Same H H') {l:Addr} (h:H' l=Option.none):H l=Option.none:=by
 cases q:H l with
 | none=>rfl
 | some o =>
   rw [e l o q] at h; cases h
end L2
section
namespace Sm
open PySem PySem.SetTable
open L2 (isK Dr Sh Cp)
mutual
theorem eqvK:∀ (a b:PyData),isK a=true->isK b=true->(PyData.eqv a b=true↔a=b)
 | .int i,.int j,_,_=>by simp [PyData.eqv]
 | .str x,.str y,_,_=>by simp [PyData.eqv]
 | .tuple xs,.tuple ys,ha,hb=>by
   simp only [PyData.eqv,PyData.tuple.injEq]; exact jQ xs ys (by simpa [isK] using ha) (by simpa [isK] using hb)
 | .int _,.str _,_,_ | .int _,.tuple _,_,_ | .str _,.int _,_,_ | .str _,.tuple _,_,_ | .tuple _,.int _,_,_ | .tuple _,.str _,_,_=>by simp [PyData.eqv]
 | .none,_,h,_ | .bool _,_,h,_ | .list _,_,h,_ | .dict _,_,h,_=>by simp [isK] at h
 | .int _,.none,_,h | .int _,.bool _,_,h | .int _,.list _,_,h | .int _,.dict _,_,h=>by simp [isK] at h
 | .str _,.none,_,h | .str _,.bool _,_,h | .str _,.list _,_,h | .str _,.dict _,_,h=>by simp [isK] at h
 | .tuple _,.none,_,h | .tuple _,.bool _,_,h | .tuple _,.list _,_,h | .tuple _,.dict _,_,h=>by simp [isK] at h
theorem jQ:∀ (a b:List PyData),Dr a=true->Dr b=true->(PyData.eqvAll a b=true↔a=b)
 | [],[],_,_=>by simp [PyData.eqvAll]
 | [],_::_,_,_=>by simp [PyData.eqvAll]
 | _::_,[],_,_=>by simp [PyData.eqvAll]
 | x::xs,y::ys,ha,hb=>by
   simp only [Dr,Bool.and_eq_true] at ha hb; simp only [PyData.eqvAll,Bool.and_eq_true,List.cons.injEq]; rw [eqvK x y ha.1 hb.1,jQ xs ys ha.2 hb.2]
end
section
variable {prog:Program} {w:World} {E:Value->Shared->Prop}
mutual
theorem Kk:∀ (k:PyData) (v:Value) (as:List Addr) (A:Around) (s:Shared) (Q:Int->Shared->Prop),isK k=true->Reads s.heap v k as->A.units+k.depth < cLine ->
   (∀ tk,s.toks<=tk->Q (Sh w k) { s with toks:=tk })->wpAny (model prog w) A (pyHash v) Q E s
 | .int i,_,_,A,s,Q,_,x,_,h=>by cases x; exact wpAny_pyHash_int (h _ (Nat.le_succ _))
 | .str y,_,_,A,s,Q,_,x,_,h=>by cases x; exact wpAny_pyHash_str (h _ (Nat.le_succ _))
 | .tuple xs,_,_,A,s,Q,hk,x,hu,h=>by
   cases x with
   | tuple hg hc hd hr =>
     rename_i _ a o vs n
     refine PySem.W.pyHash_slot (T := "tuple") ⟨_,hg,hc⟩ F.slot_tuple_hash F.entry_tuple_hash (F.args_tuple_hash_1 _) (beq_builtin_none _) (.inr (by omega)) ?_
     show wpAny _ _ (Builtin.Tuple.tupleItemsOf (.ref a)>>=_) _ _ s
     refine wpAny_bind (wpAny_tupleItemsOf hg hd ?_); refine wpAny_bind ?_; rw [<- Array.forIn_toList]; refine My xs _ _ A.in1 s #[] _ (by simpa [isK] using hk) hr (by simp only [PyData.depth,Around.in1_units] at hu ⊢; omega) fun tk b ht hb=>?_
     show wpAny _ _ (retInt (Builtin.Tuple.tupleHashOf b.toList)) _ _ _
     rw [hb]; exact wpAny_bind (wpAny_mkInt (wpAny_pure ⟨_,_,rfl,h _ (Nat.le_succ_of_le ht)⟩))
 | .none,_,_,_,_,_,hk,_,_,_ | .bool _,_,_,_,_,_,hk,_,_,_ | .list _,_,_,_,_,_,hk,_,_,_ | .dict _,_,_,_,_,_,hk,_,_,_=>by simp [isK] at hk
theorem My:∀ (xs:List PyData) (vs:List Value) (as:List Addr) (A:Around) (s:Shared) (b:Array Int) (Q:Array Int->Shared->Prop),Dr xs=true->ReadsAll s.heap vs xs as ->
   A.units+PyData.depthAll xs < cLine->(∀ tk b',s.toks<=tk->b'.toList=b.toList++Cp w xs->Q b' { s with toks:=tk }) ->
   wpAny (model prog w) A (forIn vs b fun x r=>do let h <- pyHash x; pure PUnit.unit; pure (ForInStep.yield (r.push h))) Q E s
 | [],_,_,A,s,b,Q,_,x,_,h=>by cases x; exact wpAny_pure (h s.toks b (Nat.le_refl _) (by simp [Cp]))
 | k::xs,_,_,A,s,b,Q,hk,x,hu,h=>by
   cases x with
   | cons x1 x2 =>
     simp only [Dr,Bool.and_eq_true,PyData.depthAll] at hk hu; rw [List.forIn_cons]; refine wpAny_bind (wpAny_bind (Kk k _ _ A s _ hk.1 x1 (by omega) fun tk ht=>?_))
     refine wpAny_bind (wpAny_pure (wpAny_pure ?_)); exact My xs _ _ A _ _ Q hk.2 x2 (by omega) fun tk' b' ht' hb=>h tk' b' (Nat.le_trans ht ht') (by simp [hb,Cp])
end
end
section
variable {prog:Program} {w:World} {A:Around} {E:Value->Shared->Prop}
mutual
theorem Ha:∀ (fuel:Nat) (k:PyData) (v:Value) (as:List Addr) (s:Shared) (Q:Bool->Shared->Prop),isK k=true->k.depth<=fuel->Reads s.heap v k as->Q true s ->
   wpAny (model prog w) A (eqIsQuiet fuel v) Q E s
 | fuel,.int _,_,_,s,Q,_,_,x,h=>by cases x; rw [eqIsQuiet_byValue _ rfl]; exact wpAny_pure h
 | fuel,.str _,_,_,s,Q,_,_,x,h=>by cases x; rw [eqIsQuiet_byValue _ rfl]; exact wpAny_pure h
 | 0,.tuple _,_,_,s,Q,_,hd,x,h=>by simp [PyData.depth] at hd
 | fuel+1,.tuple xs,_,_,s,Q,hk,hdp,x,h=>by
   cases x with
   | tuple hg hc hd hr =>
     rename_i _ a o vs n
     have hT:s.TypeIs (.ref a) "tuple" := ⟨_,hg,hc⟩; unfold eqIsQuiet; refine wpAny_bind (wpAny_specialOf hT F.slot_tuple_eq.lookup ?_); show wpAny _ _ (isInstance (.ref a) (.type "tuple")>>=_) _ _ s
     refine wpAny_bind (wpAny_isInstance hT isSubtype_tuple_tuple ?_); simp only [Bool.not_true,Bool.false_eq_true,if_false]; refine wpAny_bind (wpAny_seqItems hg hd ?_); refine wpAny_bind ?_; show wpAny _ _ (forIn vs _ _) _ _ s
     rw [<- Array.forIn_toList]; refine Jt fuel xs _ _ s _ (by simpa [isK] using hk) (by simp only [PyData.depth] at hdp; omega) hr ?_
     exact wpAny_pure h
 | _,.none,_,_,_,_,hk,_,_,_ | _,.bool _,_,_,_,_,hk,_,_,_ | _,.list _,_,_,_,_,hk,_,_,_ | _,.dict _,_,_,_,_,hk,_,_,_=>by simp [isK] at hk
theorem Jt:∀ (fuel:Nat) (xs:List PyData) (vs:List Value) (as:List Addr) (s:Shared) (Q:Option Bool×Unit->Shared->Prop),Dr xs=true->PyData.depthAll xs<=fuel->ReadsAll s.heap vs xs as ->
   Q (none,()) s ->
   wpAny (model prog w) A (forIn vs ((none,()):Option Bool×Unit) fun x r=>do
     let b <- eqIsQuiet fuel x
     if (!b)=true then pure (ForInStep.done (some false,())) else do
       pure PUnit.unit
       pure (ForInStep.yield (none,()))) Q E s
 | _,[],_,_,s,Q,_,_,x,h1=>by cases x; exact wpAny_pure h1
 | fuel,k::xs,_,_,s,Q,hk,hdp,x,h1=>by
   cases x with
   | cons x1 x2 =>
     simp only [Dr,Bool.and_eq_true,PyData.depthAll] at hk hdp; rw [List.forIn_cons]; refine wpAny_bind (wpAny_bind (Ha fuel k _ _ s _ hk.1 (by omega) x1 ?_))
     simp only [Bool.not_true,Bool.false_eq_true,if_false]; exact wpAny_pure (Jt fuel xs _ _ s Q hk.2 (by omega) x2 h1)
end
end
end Sm
end
section
namespace Sm
open PySem PySem.Spec PyProof.Rows L2
abbrev St:=L2.St
section
variable {prog:Program} {w:World} {A:Around} {R:Result->Shared->Prop} {s:Shared}
theorem Pn {elt target iter:Expr} {ifs:List Expr} {scope:Scope} {pos:Pos} {it acc:Value} {env:Env} (I:Nat->Shared->Prop)
   (turn:∀ n s,I n s->wpAny (model prog w) A (pyNext it) (fun r s₁=>match r with
     | none=>R (.ok .next) s₁
     | some v => wpAny (model prog w) A (letOwnedTupleGo target it v) (fun _ s₁' => wpAny (model prog w) A (assign target env v) (fun _ s₂ =>
         wpAny (model prog w) A (forIn ifs true fun c r=>if r=true then do let ok <- isTrue c env (eval c env); pure (ForInStep.yield ok) else pure (ForInStep.yield r)) (fun ok s₃ =>
           if ok=true then wpAny (model prog w) A (eval elt env) (fun x s₄ =>
             wpAny (model prog w) A (call (.builtin "list.append") [acc,x]) (fun _ s₅=>∃ m,m < n/\I m s₅) (fun _ _=>False) s₄) (fun _ _=>False) s₃
           else ∃ m,m < n/\I m s₃) (fun _ _=>False) s₂) (fun _ _=>False) s₁') (fun _ _=>False) s₁) (fun _ _=>False) s)
   (n:Nat) (h:I n s):codeAny (model prog w) A (.compLoop (.ListComp elt [⟨target,iter,ifs,0⟩] scope pos) 0 it acc env) R s:=by
 refine codeAny_loop rfl I (fun n s hI=>?_) n h
 show wpAny _ A ((compTurn (.ListComp elt [⟨target,iter,ifs,0⟩] scope pos) 0 it acc env).onRaise (fun x=>do noteFrame x env; theTreesLotGoes x)) _ _ s
 refine wpAny_noted ?_
 rw [compTurn_list]
 refine wpAny_bind (wpAny_standAt (wpAny_bind (wpAny_mono (turn n s hI) (fun r s₁ h₁=>?_) fun _ _ h'=>h'.elim)))
 cases r with
 | none=>exact wpAny_pure h₁
 | some v =>
   refine wpAny_bind (wpAny_mono h₁ (fun _ s₁' h₁'=>?_) fun _ _ h'=>h'.elim)
   refine wpAny_bind (wpAny_mono h₁' (fun _ s₂ h₂=>wpAny_bind (wpAny_mono h₂ (fun ok s₃ h₃=>?_) fun _ _ h'=>h'.elim)) fun _ _ h'=>h'.elim)
   cases ok with
   | false=>exact wpAny_pure ⟨rfl,h₃⟩
   | true =>
     exact wpAny_bind (wpAny_bind (wpAny_mono h₃ (fun x s₄ h₄=>wpAny_bind (wpAny_mono h₄ (fun _ s₅ h₅=>wpAny_pure (wpAny_pure ⟨rfl,h₅⟩)) fun _ _ h'=>h'.elim)) fun _ _ h'=>h'.elim))
end
def Tg (X:Cx) (s₃:Shared) (H₃:Hp) (scope:Scope) (cl:List (Str×Addr)) (N':List Str) (fp:List Addr):Cx :=
 { X with N:=N',s₀:=s₃,H₀:=H₃,env:=compEnvC scope cl s₃.heap.objs.size X.env,outer:=X.stack,stack:=X.stack,ex:=fp,fn:=fun _=>false,pn:=[],xe:=fun _ _=>False }
structure Blk (X X':Cx) (N':List Str) (sc':Scope):Prop where
 prog:X'.prog=X.prog
 w:X'.w=X.w
 K:X'.K=X.K
 mg:X'.mg=X.mg
 base:X'.base=X.base
 A:X'.A=X.A
 calm:X'.calm=X.calm
 N:X'.N=N'
 sc:X'.env.scope=sc'
 xe:X'.xe=fun _ _=>False
structure Clos (X:Cx) (scope:Scope) (cl:List (Str×Addr)):Prop where
 clo:closureFor scope X.env=pure cl
 sub:∀ x c,cl.lookup x=some c->X.env.cells.lookup x=some c
 has:∀ x,(relabel scope X.env).names.lookup x=some .cell\/(relabel scope X.env).names.lookup x=some .free->∃ c,cl.lookup x=some c
section
variable {X:Cx} {pins:List (Addr×Obj)} {Z:St} {H:Hp} {s₃:Shared}
theorem mY {scope:Scope} {cl:List (Str×Addr)} {N':List Str} {fp:List Addr} (I:Inv X pins Z H s₃) (hk:scope.kind=.function) (C:Clos X scope cl) (hfp:∀ b∈fp,Ky X pins H b) (hlt:∀ b∈fp,b < s₃.heap.objs.size) :
   (Tg X s₃ H scope cl N' fp).Ok where
 mod:=I.ok.mod
 kind:=hk
 glob:=I.ok.glob
 blt:=I.ok.blt
 above:=Nat.le_refl _
 inj:=fun x y c h1 h2=>I.ok.inj x y c (C.sub x c h1) (C.sub y c h2)
 has:=fun x h=>C.has x h
 cab:=fun x c h=>nomatch h
 hd:=I.ok.hd
 frames:=I.ok.frames
 stk:=.inl rfl
 exf:=fun b hb=>⟨Nat.ne_of_lt (hlt b hb),fun x c h=>(hfp b hb).2.2.2.2.1 x c (C.sub x c h)⟩
 bs:=fun b o e=>I.bs b o e
 bsz:=Nat.le_trans I.ok.bsz I.sz
 noex:=fun b o e hb=>by
   rcases (hfp b hb).2.2.2.1 with z | z
   . exact I.ok.noex b o e z
   . exact absurd (Nat.lt_of_lt_of_le (Heap.lt_size e) (Nat.le_trans I.ok.bsz z)) (Nat.lt_irrefl _)
 exfs:=fun b hb z=>by
   rcases List.mem_cons.mp (I.stkSub b z) with q | q
   . exact (hfp b hb).2.1 q
   . exact (hfp b hb).2.2.1 q
 funs:=I.stack
 frf:=I.stkFree
def Bq (Z:St) (cap:List Nat):St:=cap.map fun j=>Z[j]?.join
theorem iV {scope:Scope} {cl:List (Str×Addr)} {xs:List Str} {cap:List Nat} {capN:List Str} {fp:List Addr} {h₁:Heap} {tk:Nat} (I:Inv X pins Z H s₃) (hk:scope.kind=.function) (C:Clos X scope cl) (hfp:∀ b∈fp,Ky X pins H b) (hlt:∀ b∈fp,b < s₃.heap.objs.size)
   (hcap:cap.map (fun j=>X.N[j]?)=capN.map some) (hcl:∀ x∈capN,(relabel scope X.env).names.lookup x=some .cell\/(relabel scope X.env).names.lookup x=some .free)
   (hvis:∀ x∈capN,X.env.scope.names.lookup x=some .cell\/X.env.scope.names.lookup x=some .free) {m:Str->Option Value}
   (hns:h₁.Ns s₃.heap.objs.size m) (old:∀ b o,s₃.heap.get? b=some o->h₁.get? b=some o) :
   Inv (Tg X s₃ H scope cl (xs++capN) fp) [] (xs.map (fun _=>none)++Bq Z cap) H { s₃ with heap:=h₁,toks:=tk }:=by
 have hlen:cap.length=capN.length:=by simpa using congrArg List.length hcap
 refine ⟨mY I hk C hfp hlt,rfl,I.bare,Un.kept old,⟨m,hns,fun i x v e1 e2 e3=>?_⟩,fun x c e=>?_,I.hok.fresh (Nat.le_refl _),fun x c e=>I.freeC x c (C.sub x c e),fun p hp=>absurd (show p∈([]:List (Addr×Obj)) from hp) (by simp),I.hok.kept old,?_⟩
 . have e1':(xs++capN)[i]? = some x:=e1
   by_cases hi:i < xs.length
   . rw [List.getElem?_append_left (by simpa using hi),List.getElem?_map] at e2
     cases q:xs[i]? with
     | none=>rw [q] at e2; cases e2
     | some z=>rw [q] at e2; cases e2
   . rw [List.getElem?_append_right (by simpa using hi)] at e2
     rw [List.getElem?_append_right (by omega)] at e1'; rw [List.length_map] at e2
     generalize i - xs.length=j at e1' e2
     unfold Bq at e2; rw [List.getElem?_map] at e2; have hc:(cap.map (fun j=>X.N[j]?))[j]? = some (some x):=by rw [hcap,List.getElem?_map,e1']; rfl
     rw [List.getElem?_map] at hc
     cases q:cap[j]? with
     | none=>rw [q] at e2; cases e2
     | some k =>
       rw [q] at e2 hc; simp only [Option.map_some] at e2 hc; have hc':X.N[k]? = some x:=Option.some.inj hc; have hs:Z[k]? = some (some v):=by
         cases z:Z[k]? with
         | none=>rw [z] at e2; cases e2
         | some z'=>rw [z] at e2; cases z' with
           | none=>cases e2
           | some z''=>cases e2; rfl
       have hx:x∈capN:=List.mem_of_getElem? e1'; obtain ⟨m',hm',hl'⟩:=I.loc; obtain ⟨u,r,l⟩:=hl' k x v hc' hs (by rcases hvis x hx with z | z; exact .inr (.inl z); exact .inr (.inr z))
       refine ⟨u,r,.inr ⟨hcl x hx,?_⟩⟩; obtain ⟨c,hcc⟩:=C.has x (hcl x hx); refine ⟨c,hcc,?_⟩; rcases l with ⟨z,_⟩ | ⟨_,c',e',z⟩
       . have z':X.env.scope.names.lookup x=some .local:=z
         rcases hvis x hx with y | y <;> (rw [z'] at y; cases y)
       . rw [C.sub x c hcc] at e'; cases e'
         obtain ⟨o,ho,hd⟩:=z; exact ⟨o,old _ _ ho,hd⟩
 . obtain ⟨v,o,ho,hd⟩:=I.cell x c (C.sub x c e)
   exact ⟨v,o,old _ _ ho,hd⟩
 . show (xs.map (fun _=>none)++Bq Z cap).length=(xs++capN).length
   unfold Bq; rw [List.length_append,List.length_append,List.length_map,List.length_map,hlen]
end
def Wk (Z1 Z2:St):Prop:=Z1.length=Z2.length/\∀ (i:Nat) v,Z1[i]? = some (some v)->Z2[i]? = some (some v)
def Vk (wi:TI) (Zb:St->St) (g:TG) (tt:TT) (te:TE):TE:=fun Z H Q=>wi Z H fun J H1=>∀ D,H1 D=none->∃ W:Nat->Nat->Hp->Prop,(∃ m,W 0 m (upd H1 D (.lst [])))/\∀ i m H,W i m H ->
 (J.stop i H/\Q (.ref D) H)\/(J.go i H/\∃ N:Hp->Prop,(∀ H',N H'->∃ m',m' < m/\W (i+1) m' H')/\∀ x H',J.yld i H x H'->g x (Zb Z) H' fun Z2 H2=>Wk (Zb Z) Z2/\tt Z2 H2 fun b H3 =>
   if b=true then te Z2 H3 fun y H4=>∃ acc,H4 D=some (.lst acc)/\acc.length < sizeLine/\N (upd H4 D (.lst (acc++[y]))) else N H3)
def PTs (X:Cx) (ifs:List Expr) (t:TT):Prop :=
 ∀ (pins:List (Addr×Obj)) (s:Shared) (Z:St) (H:Hp) (Q:Bool->Hp->Prop),Inv X pins Z H s->t Z H Q ->
   wpAny (model X.prog X.w) X.A (forIn ifs true fun c r=>if r=true then do let ok <- isTrue c X.env (eval c X.env); pure (ForInStep.yield ok) else pure (ForInStep.yield r)) (TP X pins Z Q) X.xe s
theorem gG {X:Cx}:PTs X [] (fun _ H Q=>Q true H):=fun _ _ _ H _ I h=>wpAny_tests_nil ⟨H,I,h⟩
theorem gF {X:Cx} {c:Expr} {t:TT} (h:PT X c t):PTs X [c] t:=fun pins s Z H Q I q=>wpAny_tests_one (h pins s Z H Q I q)
structure CompFacts (X:Cx) (scope:Scope) (xs capN:List Str) (cap:List Nat):Prop where
 kind:scope.kind=.function
 nocell:∀ y∈scope.names,y.2≠.cell
 names:∀ y∈scope.names,y.2=.local->scope.names.lookup y.1=some .local
 clos:∃ cl,Clos X scope cl
 hcap:cap.map (fun j=>X.N[j]?)=capN.map some
 hcl:∀ x∈capN,(relabel scope X.env).names.lookup x=some .cell\/(relabel scope X.env).names.lookup x=some .free
 hvis:∀ x∈capN,X.env.scope.names.lookup x=some .cell\/X.env.scope.names.lookup x=some .free
section
variable {X:Cx} {tg elt iter:Expr} {ifs:List Expr} {scope:Scope} {pos:Pos} {wi:TI} {g:TG} {tt:TT} {te:TE} {xs capN:List Str} {cap:List Nat}
theorem Sx {use:Option (Value->Sem Unit)} {Q:Value->Shared->Prop} {QQ:VK} (hc:X.calm=true) (F:CompFacts X scope xs capN cap) (hi:PI X tg iter wi)
   (hg:∀ X',Blk X X' (xs++capN) (relabel scope X.env)->PG X' tg g) (ht:∀ X',Blk X X' (xs++capN) (relabel scope X.env)->PTs X' ifs tt) (he:∀ X',Blk X X' (xs++capN) (relabel scope X.env)->PE X' elt te)
   (hs:∀ x,foldedSetIterable iter X.env x=pure x)
   {pins:List (Addr×Obj)} {s:Shared} {Z:St} {H:Hp} (I:Inv X pins Z H s) (h:Vk wi (fun Z=>xs.map (fun _=>none)++Bq Z cap) g tt te Z H QQ) {ps:Pos}
   (fin:∀ (s':Shared) (H':Hp) (D C:Addr) (m:Str->Option Value),Inv X pins Z H' s'->s'.heap.Ns C m->(H' C=none/\X.s₀.heap.objs.size<=C/\C≠X.env.locals/\(∀ x c,X.env.cells.lookup x=some c->c≠C)/\∀ p∈X.pn++pins,p.1≠C) ->
     QQ (.ref D) H'->compPost (model X.prog X.w) X.A X.xe use Q (.ref D) C (.ok .next) s') :
   wpAny (model X.prog X.w) X.A (comprehension (.ListComp elt [⟨tg,iter,ifs,0⟩] scope pos) scope X.env ps (newList []) false (eval iter X.env) use) Q X.xe s:=by
 obtain ⟨cl,C⟩:=F.clos
 refine wpAny_comprehension_free rfl hs C.clo F.kind F.names (thn (hi pins s Z H _ I h) fun v s1 h1=>thn h1 fun itv s2 h2=>?_)
 obtain ⟨it,fp,tn,J,H2,e,I2,T,st2,f2,h3⟩:=h2
 subst e
 refine wpAny_newObj_type ?_
 obtain ⟨W,⟨m0,w0⟩,turn⟩:=h3 s2.heap.objs.size I2.fresh
 have I3:Inv X pins Z (upd H2 s2.heap.objs.size (.lst [])) { s2 with heap:=s2.heap.push { cls:=.type "list",dict:=none,data:=.seq ([]:List Value).toArray } }:=I2.lnew (t':=s2.toks) .nil (Nat.zero_le _)
 generalize hH3:upd H2 s2.heap.objs.size (HO.lst [])=H3 at I3 w0
 generalize hs3:({ s2 with heap:=s2.heap.push { cls:=.type "list",dict:=none,data:=.seq ([]:List Value).toArray } }:Shared)=s3 at I3
 have hD3:H3 s2.heap.objs.size=some (.lst []):=by rw [<- hH3]; exact B7
 have kp3:∀ b o,s2.heap.get? b=some o->s3.heap.get? b=some o:=fun b o e=>by rw [<- hs3]; exact Heap.get?_push_of_some _ e
 have hDlt:s2.heap.objs.size < s3.heap.objs.size:=by rw [<- hs3]; show _ < (s2.heap.push _).objs.size; rw [Heap.size_push]; exact Nat.lt_succ_self _
 have flt:∀ b∈fp,b < s2.heap.objs.size:=fun b hb=>by
   obtain ⟨o,e,_⟩:=T.obj 0 _ st2 b hb; exact Heap.lt_size e
 have flt3:∀ b∈fp,b < s3.heap.objs.size:=fun b hb=>Nat.lt_trans (flt b hb) hDlt
 have f3:∀ b∈fp,Ky X pins H3 b:=fun b hb=>⟨by rw [<- hH3,B6 (Nat.ne_of_lt (flt b hb))]; exact (f2 b hb).1,(f2 b hb).2⟩
 have st3:tn 0 s3.heap:=T.keep 0 _ _ st2 fun b hb o e=>kp3 b o e
 show wpAny _ _ (newFunctionEnv scope X.env.globals cl [] X.env.qual none .none (some X.env)) _ _ s3
 refine wpAny_newFunctionEnv F.nocell (by intro y hy; simp at hy) (fun h₁ hns₁ hsb₁=>?_) F.kind
 have old:∀ b o,s3.heap.get? b=some o->h₁.get? b=some o:=fun b o e=>hsb₁.extBut b o (Nat.ne_of_lt (Heap.lt_size e)) (Heap.get?_push_of_some _ e)
 have B:Blk X (Tg X s3 H3 scope cl (xs++capN) fp) (xs++capN) (relabel scope X.env):=⟨rfl,rfl,rfl,rfl,rfl,rfl,rfl,rfl,rfl,rfl⟩
 have J0:Inv (Tg X s3 H3 scope cl (xs++capN) fp) [] (xs.map (fun _=>none)++Bq Z cap) H3 { s3 with heap:=h₁,toks:=s3.toks+([]:List (Str×Value)).length } :=
   iV I3 F.kind C f3 flt3 F.hcap F.hcl F.hvis hns₁ old
 have st4:tn 0 h₁:=T.keep 0 _ _ st3 fun b hb o e=>old b o e
 have hg':=hg _ B
 have ht':=ht _ B
 have he':=he _ B
 generalize hX':Tg X s3 H3 scope cl (xs++capN) fp=X' at B J0 hg' ht' he'
 have hex:X'.ex=fp:=by rw [<- hX']; rfl
 have hloc:X'.env.locals=s3.heap.objs.size:=by rw [<- hX']; rfl
 have henv:X'.env=compEnvC scope cl s3.heap.objs.size X.env:=by rw [<- hX']; rfl
 have hpn:X'.pn=[]:=by rw [<- hX']; rfl
 have hxe:X'.xe=fun _ _=>False:=by rw [<- hX']; rfl
 have hH0:X'.H₀=H3:=by rw [<- hX']; rfl
 have hs0:X'.s₀=s3:=by rw [<- hX']; rfl
 have hfs:X'.fs=frs X.stack:=by rw [<- hX']; rfl
 have hP:X'.prog=X.prog:=B.prog
 have hw:X'.w=X.w:=B.w
 have hA:X'.A=X.A:=B.A
 have nfs:∀ b∈fp,b∉X'.fs:=fun b hb z=>J0.ok.exfs b (by rw [hex]; exact hb) z
 have stat:∀ {pn':List (Addr×Obj)} {H':Hp},(∀ b∈fp,H' b=none)->(∀ p∈pn',p.1∉fp)->∀ b∈fp,Ky X' pn' H' b:=fun {pn' H'} hn hp b hb =>
   ⟨hn b hb,by rw [hloc]; exact Nat.ne_of_lt (flt3 b hb),nfs b hb,.inl (by rw [hex]; exact hb),fun x c e=>(J0.ok.exf b (by rw [hex]; exact hb)).2 x c e,fun p hp' z=>by
     rw [hpn,List.nil_append] at hp'; exact hp p hp' (z▸hb)⟩
 have loop : ∀ s₀' : Shared, Inv X' [] (xs.map (fun _ => none) ++ Bq Z cap) H3 s₀' -> tn 0 s₀'.heap ->
     codeAny (model X.prog X.w) X.A (.compLoop (.ListComp elt [⟨tg,iter,ifs,0⟩] scope pos) 0 (.ref it) (.ref s2.heap.objs.size) X'.env) (compPost (model X.prog X.w) X.A X.xe use Q (.ref s2.heap.objs.size) s3.heap.objs.size) s₀':=by
   intro s₀' J1 st5; refine Pn (fun n s'=>∃ i H',Inv X' [] (xs.map (fun _=>none)++Bq Z cap) H' s'/\tn i s'.heap/\(∀ b∈fp,H' b=none)/\W i n H') ?_ m0 ⟨0,H3,J1,st5,fun b hb=>(f3 b hb).1,w0⟩
   rintro n s4 ⟨i,H4,J4,st4,fr4,w4⟩
   rcases turn i n H4 w4 with ⟨stop,qn⟩ | ⟨go,N,hN,step⟩
   . have hd:=T.done X' B.prog B.w B.K (B.calm.trans hc) i [] s4 _ H4 (fun _ _=>False) J4 (stat fr4 (by simp)) st4 stop
     rw [hA] at hd; refine thn hd fun r s5 ⟨hr,J5⟩=>?_
     subst hr; have un:Un (frs X.stack) fp H3 H4 s3.heap s5.heap:=by
       have:=J5.base; rw [hfs,hex,hH0,hs0] at this; exact this
     have ho:s5.os=s3.os:=by rw [J5.os,hs0]
     have hok5:HOk X.prog X.w H4 s5.heap:=by have:=J5.hok; rw [hP,hw] at this; exact this
     have I5:Inv X pins Z H4 s5:=I3.call' ho un hok5 J5.bare fun b hb=>⟨(f3 b hb).2.2.2.1,(f3 b hb).2.1,(f3 b hb).2.2.2.2.1,(f3 b hb).2.2.2.2.2⟩
     obtain ⟨m5,hm5,_⟩:=J5.loc; rw [hloc] at hm5; refine fin s5 H4 _ s3.heap.objs.size m5 I5 hm5 ⟨by have:=J5.free; rw [hloc] at this; exact this,I3.sz,Nat.ne_of_gt I3.lt,fun x c e z=>?_,fun p hp z=>?_⟩ qn
     . obtain ⟨v,q⟩:=I3.cell x c e
       exact absurd q.lt (by rw [z]; exact Nat.lt_irrefl _)
     . exact absurd (Heap.lt_size (I3.pin p hp).1) (by rw [z]; exact Nat.lt_irrefl _)
   . have hd:=T.item X' B.prog B.w B.K (B.calm.trans hc) i [] s4 _ H4 (fun _ _=>False) J4 (stat fr4 (by simp)) st4 go
     rw [hA] at hd; refine thn hd fun r s5 ⟨u,hr,h5⟩=>?_
     subst hr; refine thn h5 fun _ s6 ⟨x,H6,J6,r6,y6,st6,fr6⟩=>?_
     have J6':=J6.pinned (stat fr6 (by simp)) (T.obj _ _ st6)
     rw [List.nil_append] at J6'; have hgx:=hg' _ s6 _ H6 x u _ J6' r6 (step x H6 y6); rw [hP,hw,hA,hxe] at hgx; refine thn hgx fun _ s7 ⟨Z7,H7,J7,wk7,q7⟩=>?_
     have htx:=ht' _ s7 Z7 H7 _ J7 q7; rw [hP,hw,hA,hxe] at htx; refine thn htx fun ok s8 ⟨H8,J8,q8⟩=>?_
     have again:∀ {H9:Hp} {s9:Shared},Inv X' (Jy fp s6.heap) Z7 H9 s9->N H9->(∃ m,m < n/\∃ i H',Inv X' [] (xs.map (fun _=>none)++Bq Z cap) H' s9/\tn i s9.heap/\(∀ b∈fp,H' b=none)/\W i m H'):=fun {H9 s9} J9 n9=>by
       obtain ⟨m',hm,w9⟩:=hN H9 n9; have pin9:∀ b∈fp,∀ o,s6.heap.get? b=some o->s9.heap.get? b=some o/\H9 b=none:=fun b hb o e=>by
         have:=J9.pin (b,o) (List.mem_append_right _ (Dm hb e)); exact ⟨this.1,this.2.1⟩
       refine ⟨m',hm,i+1,H9,(J9.weak wk7.1 wk7.2).pins_of (fun p hp=>nomatch hp),T.keep _ _ _ st6 fun b hb o e=>(pin9 b hb o e).1,fun b hb=>?_,w9⟩
       obtain ⟨o,e,d⟩:=T.obj _ _ st6 b hb; exact (pin9 b hb o e).2
     cases ok with
     | false =>
       rw [if_neg (by decide)] at q8 ⊢
       exact again J8 q8
     | true =>
       rw [if_pos rfl] at q8 ⊢
       have hex:=he' _ s8 Z7 H8 _ J8 q8; rw [hP,hw,hA,hxe] at hex; refine thn hex fun y s9 ⟨x9,H9,J9,r9,acc,ha,hz,n9⟩=>?_
       have hap:=Ft (X:=X') _ s9 Z7 H9 (.ref s2.heap.objs.size) [x9] (.ref s2.heap.objs.size) [y] (fun _ H'=>N H') J9 rfl (.cons r9 .nil) ⟨_,acc,x9,rfl,rfl,ha,hz,n9⟩
       rw [hP,hw,hA,hxe] at hap; exact thn hap fun _ s10 ⟨_,H10,J10,_,n10⟩=>again J10 n10
 have e0:({ (newEnv scope s3.heap.objs.size X.env.globals cl X.env.qual none .none (some X.env) builtinsNs:Env) with scope:=relabel scope X.env }:Env)=X'.env:=by rw [henv]; rfl
 have e1:(newEnv scope s3.heap.objs.size X.env.globals cl X.env.qual none .none (some X.env) builtinsNs:Env).locals=s3.heap.objs.size:=rfl
 show codeAny _ _ (.compStart _ 0 (.ref it) (.ref s2.heap.objs.size) ({ (newEnv scope s3.heap.objs.size X.env.globals cl X.env.qual none .none (some X.env) builtinsNs:Env) with scope:=relabel scope X.env }:Env)) (compPost _ _ _ _ _ _ s3.heap.objs.size) _
 rw [e0]
 exact codeAny_compStart_list (loop _ J0 st4) (T.self _ 0 _ _ _ st4 (loop _ J0 st4))
theorem Wb (hc:X.calm=true) (F:X.Ok->CompFacts X scope xs capN cap) (hi:PI X tg iter wi)
   (hg:∀ X',Blk X X' (xs++capN) (relabel scope X.env)->PG X' tg g) (ht:∀ X',Blk X X' (xs++capN) (relabel scope X.env)->PTs X' ifs tt) (he:∀ X',Blk X X' (xs++capN) (relabel scope X.env)->PE X' elt te)
   (hs:∀ x,foldedSetIterable iter X.env x=pure x:=by intro _; rfl):PE X (.ListComp elt [⟨tg,iter,ifs,0⟩] scope pos) (Vk wi (fun Z=>xs.map (fun _=>none)++Bq Z cap) g tt te):=by
 intro pins s Z H Q I h
 rw [eval_ListComp]
 refine Sx (use:=none) hc (F I.ok) hi hg ht he hs I h fun s' H' D C m I' hm ⟨c1,c2,c3,c4,c5⟩ q=>?_
 refine ⟨m,hm,fun h' sb=>?_⟩
 exact ⟨.ref D,H',I'.turned (t':=s'.toks) (fun b o hb e=>(sb.2 b hb).trans e) c1 c3 (.inr c2) c4 c5,rfl,q⟩
theorem Jw {i:Nat} {y:Str} {py spos:Pos} (hc:X.calm=true) (F:X.Ok->CompFacts X scope xs capN cap) (hi:PI X tg iter wi)
   (hg:∀ X',Blk X X' (xs++capN) (relabel scope X.env)->PG X' tg g) (ht:∀ X',Blk X X' (xs++capN) (relabel scope X.env)->PTs X' ifs tt) (he:∀ X',Blk X X' (xs++capN) (relabel scope X.env)->PE X' elt te)
   (hN:X.N.Nodup) (hy:X.N[i]? = some y) (hl:X.env.scope.names.lookup y=some .local) (hsw:swapsWith (.ListComp elt [⟨tg,iter,ifs,0⟩] scope pos) (some (.Name y py)) spos.line X.env=pure true)
   (hs:∀ x,foldedSetIterable iter X.env x=pure x:=by intro _; rfl):PS X (.Assign [.Name y py] (.ListComp elt [⟨tg,iter,ifs,0⟩] scope pos) spos) (kM (Vk wi (fun Z=>xs.map (fun _=>none)++Bq Z cap) g tt te) (L4 i)):=by
 intro pins s Z H D0 I h
 rw [exec_Assign_Name_used _ _ _ _ hsw]
 refine wpAny_bind (wpAny_standAt (wpAny_bind ?_))
 show wpAny _ _ (do let _ <- comprehension (.ListComp elt [⟨tg,iter,ifs,0⟩] scope pos) scope X.env _ (newList []) false (eval iter X.env) (some (assign (.Name y py) X.env))) _ _ s
 refine wpAny_bind (wpAny_mono (Sx (use:=some (assign (.Name y py) X.env)) (Q:=fun _ s'=>SP X pins D0 .next s') hc (F I.ok) hi hg ht he hs I h fun s' H' D C m I' hm ⟨c1,c2,c3,c4,c5⟩ q=>?_) (fun _ s' hq=>wpAny_pure (wpAny_pure hq)) fun _ _ e=>e)
 show wpAny _ _ (assign (.Name y py) X.env (.ref D)) _ _ s'
 refine wpAny_assign_Name (Mf I' hN hy (.inl hl) (v:=.ref D) rfl (fun s'' I'' ⟨a,sa,ea⟩=>?_) (.inr hl))
 have haC:a≠C:=by
   rcases ea with z | z
   . rw [z]; exact Ne.symm c3
   . exact c4 _ _ z
 refine ⟨m,hm.sameBut sa (Ne.symm haC),fun h' sb=>?_⟩
 exact ⟨_,H',I''.turned (t':=s''.toks) (fun b o hb e=>(sb.2 b hb).trans e) c1 c3 (.inr c2) c4 c5,q⟩
end
end Sm
end
section
namespace L2
open PySem PySem.Spec PyProof.Rows
section
variable {X:Cx} {pins:List (Addr×Obj)} {Z:St} {H:Hp} {s:Shared}
theorem Inv.big (I:Inv X pins Z H s):sysModules < s.heap.objs.size:=by
 have h:mainGlobals < s.heap.objs.size:=(I.mod.glob.keeps I.bk).lt
 exact Nat.lt_trans (by decide) h
end
def nH (i:Expr):Prop:=∀ ov iv,subscripted i false ov iv=operate [ov,iv] (getItem ov iv)
theorem fJ {prog:Program} {w:World} {A:Around} {E:Value->Shared->Prop} {s:Shared} {env:Env} {value slice:Expr} {pos:Pos} {T id:String} {Q:Value->Shared->Prop}
   (hl:typeLookup (.type T) "__getitem__" = pure (some (.builtin id))) (hs:nH slice)
   (h:wpAny (model prog w) A (eval value env) (fun o s₁=>wpAny (model prog w) A (eval slice env) (fun i s₂=>s₂.TypeIs o T/\wpAny (model prog w) A (getItem o i) Q E s₂) E s₁) E s) :
   wpAny (model prog w) A (eval (.Subscript value slice pos) env) Q E s:=by
 refine Subscript_ (wpAny_mono h (fun o s₁ h₁=>wpAny_mono h₁ (fun i s₂ h₂=>?_) fun _ _ x=>x) fun _ _ x=>x)
 obtain ⟨hT,h₂⟩:=h₂
 unfold subscriptTail
 refine wpAny_bind ?_
 rw [getitemInPython_of_ne hT.not_modules]
 refine wpAny_bind (wpAny_specialOf hT hl ?_)
 have fin:wpAny (model prog w) A (subscripted slice false o i) (fun r s₃=>wpAny (model prog w) A (letTemporaryGo value o r>>=fun _=>pure r) Q E s₃) E s₂:=by
   rw [hs o i]; exact wpAny_operating (wpAny_mono h₂ (fun r s₃ h₃=>wpAny_bind (wpAny_letTemporaryGo (wpAny_pure h₃))) fun _ _ x=>x)
 first
   | exact wpAny_pure (wpAny_bind fin)
   | exact wpAny_bind (wpAny_pure (wpAny_bind fin))
   | exact wpAny_bind fin
theorem dZ {P:Program} {w:World} {H:Hp} (h:Heap) (hb:sysModules < h.objs.size):ObjOk P w H (h.push { cls:=.type "dict",data:=.dict #[] }) h.objs.size (.dT []) :=
 ⟨Nat.zero_le _,beq_eq_false_iff_ne.mpr (Ne.symm (Nat.ne_of_lt hb)),[],.nil,_,#[],0,Heap.get?_push_size _ rfl,⟨rfl,rfl,rfl⟩,rfl,rfl,List.nodup_nil⟩
def kL:TE:=fun _ H Q=>∀ p,H p=none->Q (.ref p) (upd H p (.dT []))
section
variable {X:Cx} {pos:Pos}
theorem cD:PE X (.Dict [] [] pos) kL:=fun pins s Z H Q I h =>
 wpAny_Dict_empty ⟨.ref s.heap.objs.size,_,I.laid (a:=s.heap.objs.size) (o:=.dT []) (t':=s.toks) (fun _ _ q=>Heap.get?_push_of_some _ q) (Nat.le_refl _) (dZ s.heap I.big),rfl,h _ (I.hok.fresh (Nat.le_refl _))⟩
end
structure M2 (X:Cx) (o:Expr) (m:Str) (apos:Pos) (e f:Expr) (cpos:Pos):Prop where
 base:attributeBase o m X.env (eval o X.env)=eval o X.env
 few:((backTo cpos (starEach [e,f] X.env)).all (fun x => !x.1)&&(backToKw cpos (keywordEach [] X.env)).all (fun x=>x.1.isSome)
   && decide (([e,f]:List Expr).length+([]:List Keyword).length+(if ([]:List Keyword).isEmpty then 0 else 1) < 30))=true
 line:(apos.endLine==cpos.line)=true
 trees:backTo cpos (starEach [e,f] X.env)=[(false,eval e X.env),(false,eval f X.env)]
end L2
end
section
namespace Sm
open PySem PySem.Spec PyProof.Rows L2
inductive Res (α:Type) where
 | ok (a:α)
 | exc (c:Str)
 | no
noncomputable def Res.bind {α β:Type}:Res α->(α->Res β)->Res β
 | .ok a,k=>k a
 | .exc c,_=>.exc c
 | .no,_=>.no
noncomputable def ofO {α:Type}:Option α->Res α
 | some a=>.ok a
 | none=>.no
inductive Sl where
 | un
 | sh (d:PyData)
 | ow (d:PyData)
 | fd (kvs:List (PyData×PyData))
abbrev Dn:=List Sl
mutual
noncomputable def Rep (G:Hp):PyData->V->Prop
 | .none,v=>v=.non
 | .bool b,v=>v=.bl b
 | .int i,v=>v=.int i
 | .str x,v=>v=.str x/\PyData.strOk x=true/\x.length<=sizeLine
 | .list ds,v=>∃ a xs,v=.ref a/\Rd G a (.lst xs)/\RepL G ds xs
 | .tuple ds,v=>∃ a xs,v=.ref a/\G a=some (.tup xs)/\RepL G ds xs
 | .dict _,_=>False
noncomputable def RepL (G:Hp):List PyData->List V->Prop
 | [],xs=>xs=[]
 | d::ds,xs=>∃ x r,xs=x::r/\Rep G d x/\RepL G ds r
end
theorem Rd.mono {G G':Hp} (h:Same G G') {a:Addr} {u:HO} (r:Rd G a u):Rd G' a u:=by
 rcases r with r | ⟨o,r⟩
 . exact .inl (h _ _ r)
 . exact .inr ⟨o,h _ _ r⟩
mutual
theorem Rep.mono {G G':Hp} (h:Same G G'):∀ {d:PyData} {v:V},Rep G d v->Rep G' d v
 | .none,_,r=>r
 | .bool _,_,r=>r
 | .int _,_,r=>r
 | .str _,_,r=>r
 | .list _,_,r=>by obtain ⟨a,xs,e,q,l⟩:=r; exact ⟨a,xs,e,Rd.mono h q,RepL.mono h l⟩
 | .tuple _,_,r=>by obtain ⟨a,xs,e,q,l⟩:=r; exact ⟨a,xs,e,h _ _ q,RepL.mono h l⟩
 | .dict _,_,r=>r.elim
theorem RepL.mono {G G':Hp} (h:Same G G'):∀ {ds:List PyData} {xs:List V},RepL G ds xs->RepL G' ds xs
 | [],_,r=>r
 | _::_,_,r=>by obtain ⟨x,t,e,q,l⟩:=r; exact ⟨x,t,e,Rep.mono h q,RepL.mono h l⟩
end
mutual
theorem Rep.lay {G:Hp}:∀ {d:PyData} {v:V},Rep G d v->d.canLay0=true
 | .none,_,r=>rfl
 | .bool _,_,r=>rfl
 | .int _,_,r=>rfl
 | .str _,_,r=>r.2.1
 | .list _,_,r=>by obtain ⟨a,xs,e,q,l⟩:=r; exact RepL.lay l
 | .tuple _,_,r=>by obtain ⟨a,xs,e,q,l⟩:=r; exact RepL.lay l
 | .dict _,_,r=>r.elim
theorem RepL.lay {G:Hp}:∀ {ds:List PyData} {xs:List V},RepL G ds xs->PyData.canLayAll0 ds=true
 | [],_,r=>rfl
 | _::_,_,r=>by
   obtain ⟨x,t,e,q,l⟩:=r; rw [PyData.canLayAll0,Rep.lay q,RepL.lay l]; rfl
end
noncomputable section
variable {G:Hp}
theorem RepL.cons {d:PyData} {ds:List PyData} {x:V} {xs:List V} (h:Rep G d x) (t:RepL G ds xs):RepL G (d::ds) (x::xs):=⟨x,xs,rfl,h,t⟩
theorem RepL.length:∀ {ds:List PyData} {xs:List V},RepL G ds xs->ds.length=xs.length
 | [],_,r=>by cases (show _=_ from r); rfl
 | d::ds,_,r=>by obtain ⟨x,t,rfl,q,l⟩:=r; simp [RepL.length l]
theorem RepL.get:∀ {ds:List PyData} {xs:List V} {i:Nat} {d:PyData},RepL G ds xs->ds[i]? = some d->∃ x,xs[i]? = some x/\Rep G d x
 | [],_,_,_,_,e=>by simp at e
 | d::ds,_,0,_,r,e=>by obtain ⟨x,t,rfl,q,l⟩:=r; simp at e; subst e; exact ⟨x,rfl,q⟩
 | d::ds,_,i+1,_,r,e=>by
   obtain ⟨x,t,rfl,q,l⟩:=r; obtain ⟨y,h1,h2⟩:=RepL.get (i:=i) l (by simpa using e)
   exact ⟨y,by simpa using h1,h2⟩
theorem RepL.append:∀ {ds es:List PyData} {xs ys:List V},RepL G ds xs->RepL G es ys->RepL G (ds++es) (xs++ys)
 | [],_,_,_,r,q=>by cases (show _=_ from r); exact q
 | d::ds,_,_,_,r,q=>by obtain ⟨x,t,rfl,h,l⟩:=r; exact RepL.cons h (RepL.append l q)
theorem RepL.drop:∀ (n:Nat) {ds:List PyData} {xs:List V},RepL G ds xs->RepL G (ds.drop n) (xs.drop n)
 | 0,_,_,r=>r
 | _+1,[],_,r=>by cases (show _=_ from r); exact rfl
 | n+1,d::ds,_,r=>by obtain ⟨x,t,rfl,h,l⟩:=r; exact RepL.drop n l
theorem RepL.take:∀ (n:Nat) {ds:List PyData} {xs:List V},RepL G ds xs->RepL G (ds.take n) (xs.take n)
 | 0,_,_,r=>rfl
 | _+1,[],_,r=>by cases (show _=_ from r); exact rfl
 | n+1,d::ds,_,r=>by obtain ⟨x,t,rfl,h,l⟩:=r; exact RepL.cons h (RepL.take n l)
theorem RepL.rep {ds:List PyData} {xs:List V} (r:RepL G ds xs):∀ k:Nat,RepL G (List.replicate k ds).flatten (List.replicate k xs).flatten
 | 0=>rfl
 | k+1=>by
   rw [List.replicate_succ,List.replicate_succ,List.flatten_cons,List.flatten_cons]; exact RepL.append r (RepL.rep r k)
theorem RepL.ints (ns:List Int):RepL G (ns.map PyData.int) (ns.map V.int):=by
 induction ns with
 | nil=>exact rfl
 | cons n ns ih=>exact RepL.cons rfl ih
theorem RepL.dropLast {ds:List PyData} {xs:List V} (r:RepL G ds xs):RepL G ds.dropLast xs.dropLast:=by
 rw [List.dropLast_eq_take,List.dropLast_eq_take,r.length]
 exact RepL.take _ r
end
structure Grow (G H G' H':Hp):Prop where
 g:Same G G'
 h:Same H H'
 gh:Same G' H'
 fr:∀ b o,G' b=some o->G b=some o\/H b=none\/∃ xs,o=HO.tup xs
theorem Grow.refl {G H:Hp} (h:Same G H):Grow G H G H:=⟨Same.refl _,Same.refl _,h,fun _ _ e=>.inl e⟩
theorem Grow.trans {G H G1 H1 G2 H2:Hp} (a:Grow G H G1 H1) (b:Grow G1 H1 G2 H2):Grow G H G2 H2 :=
 ⟨a.g.trans b.g,a.h.trans b.h,b.gh,fun c o e=>by
   rcases b.fr c o e with q | q | q
   . exact a.fr c o q
   . exact .inr (.inl (a.h.free q))
   . exact .inr (.inr q)⟩
theorem Same.upd {H:Hp} {p:Addr} {o:HO} (h:H p=none):Same H (upd H p o):=fun b u e=>by
 rw [B6 (C9 e h)]; exact e
theorem Grow.new {G H:Hp} {p:Addr} {o:HO} (s:Same G H) (h:H p=none):Grow G H (upd G p o) (upd H p o):=by
 have hg:G p=none:=s.free h
 refine ⟨Same.upd hg,Same.upd h,fun b u e=>?_,fun b u e=>?_⟩
 . by_cases hb:b=p
   . subst hb; rw [B7] at e ⊢; exact e
   . rw [B6 hb] at e ⊢; exact s _ _ e
 . by_cases hb:b=p
   . subst hb; exact .inr (.inl h)
   . rw [B6 hb] at e; exact .inl e
theorem Grow.own {G H:Hp} {p:Addr} {o:HO} (s:Same G H) (h:H p=none):Grow G H G (upd H p o) :=
 ⟨Same.refl _,Same.upd h,s.trans (Same.upd h),fun _ _ e=>.inl e⟩
noncomputable def mJ:Key->PyData
 | .inl i=>.int i
 | .inr x=>.str x
noncomputable def jN (kk:List (Key×V)):List (List Key×V):=kk.map fun p=>([p.1],p.2)
noncomputable def OwnK (G H:Hp) (a:Addr):List PyData->Prop
 | [.dict kvs]=>∃ kk:List (Key×V),H a=some (.dK kk)/\kvs.map (·.1)=(jN kk).map (fun p=>PyData.tuple (p.1.map mJ))/\RepL G (kvs.map (·.2)) ((jN kk).map (·.2))
 | [.dict kvs,.none]=>∃ kk:List (PyData×V),H a=some (.dN kk)/\kvs.map (·.1)=kk.map (·.1)/\RepL G (kvs.map (·.2)) (kk.map (·.2))
 | _=>False
theorem OwnK.keep {G G' H H':Hp} {a:Addr} {xs:List PyData} (g:Same G G') (e:∀ o,H a=some o->H' a=some o) (h:OwnK G H a xs):OwnK G' H' a xs:=by
 unfold OwnK at h ⊢
 split at h
 . obtain ⟨kk,h1,h2,h3⟩:=h
   exact ⟨kk,e _ h1,h2,h3.mono g⟩
 . obtain ⟨kk,h1,h2,h3⟩:=h
   exact ⟨kk,e _ h1,h2,h3.mono g⟩
 . exact h.elim
theorem OwnK.is {G H:Hp} {a:Addr} {xs:List PyData} (h:OwnK G H a xs):∃ o,H a=.some o:=by
 unfold OwnK at h
 split at h
 . obtain ⟨kk,h1,_⟩:=h
   exact ⟨_,h1⟩
 . obtain ⟨kk,h1,_⟩:=h
   exact ⟨_,h1⟩
 . exact h.elim
noncomputable def OwnOk (G H:Hp) (a:Addr):PyData->Prop
 | .list ds=>∃ xs,H a=some (.lst xs)/\RepL G ds xs
 | .dict kvs=>∃ kk:List (List Key×V),H a=some (.dT kk)/\kvs.map (·.1)=kk.map (fun p=>PyData.tuple (p.1.map mJ))/\RepL G (kvs.map (·.2)) (kk.map (·.2))
 | .tuple xs=>OwnK G H a xs
 | _=>False
def FdOk (G:Hp) (o:Option V) (kvs:List (PyData×PyData)):Prop:=match kvs with
 | (.dict [],.none)::r=>∃ a,∃ kk:List (PyData×V),o=some (.ref a)/\Rd G a (.dN kk)/\r.map (·.1)=kk.map (·.1)/\RepL G (r.map (·.2)) (kk.map (·.2))
 | _=>∃ a ob,∃ kk:List (List Key×V),o=some (.ref a)/\G a=some (.frz ob (.dT kk))/\kvs.map (·.1)=kk.map (fun p=>PyData.tuple (p.1.map mJ))/\RepL G (kvs.map (·.2)) (kk.map (·.2))
theorem FdOk.mono {G G':Hp} {o:Option V} {kvs:List (PyData×PyData)} (g:Same G G') (h:FdOk G o kvs):FdOk G' o kvs:=by
 unfold FdOk at h ⊢
 split at h
 . obtain ⟨a,kk,h1,h2,h3,h4⟩:=h
   exact ⟨a,kk,h1,Rd.mono g h2,h3,h4.mono g⟩
 . obtain ⟨a,ob,kk,h1,h2,h3,h4⟩:=h
   exact ⟨a,ob,kk,h1,g _ _ h2,h3,h4.mono g⟩
noncomputable def SlOk (G H:Hp) (o:Option V):Sl->Prop
 | .un=>True
 | .sh d=>∃ v,o=some v/\Rep G d v
 | .ow d=>∃ a,o=some (.ref a)/\G a=none/\OwnOk G H a d
 | .fd kvs=>FdOk G o kvs
structure SR (G H:Hp) (Z:St) (δ:Dn):Prop where
 sub:Same G H
 len:Z.length=δ.length
 sl:∀ (i:Nat) (s:Sl),δ[i]? = some s->SlOk G H (Z[i]?.join) s
 ap:∀ (i j:Nat) (a:Addr) (d e:PyData),δ[i]? = some (.ow d)->δ[j]? = some (.ow e)->Z[i]?.join=some (.ref a)->Z[j]?.join=some (.ref a)->i=j
theorem OwnOk.some {G H:Hp} {a:Addr} {d:PyData} (h:OwnOk G H a d):∃ o,H a=some o:=by
 cases d with
 | list ds=>obtain ⟨xs,e,_⟩:=h; exact ⟨_,e⟩
 | dict kvs=>obtain ⟨xs,e,_⟩:=h; exact ⟨_,e⟩
 | tuple xs=>exact OwnK.is h
 | _=>exact (show False from h).elim
theorem OwnOk.grow {G H G' H':Hp} (g:Grow G H G' H') {a:Addr} {d:PyData} (h:OwnOk G H a d):OwnOk G' H' a d:=by
 cases d with
 | list ds=>obtain ⟨xs,e,r⟩:=h; exact ⟨xs,g.h _ _ e,r.mono g.g⟩
 | dict kvs=>obtain ⟨xs,e,k,r⟩:=h; exact ⟨xs,g.h _ _ e,k,r.mono g.g⟩
 | tuple xs=>exact OwnK.keep g.g (fun o e=>g.h _ _ e) h
 | _=>exact (show False from h).elim
theorem OwnOk.noTup {G H:Hp} {a:Addr} {d:PyData} (h:OwnOk G H a d) {xs:List V} (e:H a=.some (HO.tup xs)):False:=by
 cases d with
 | list ds=>obtain ⟨_,z,_⟩:=h; rw [e] at z; cases z
 | dict kvs=>obtain ⟨_,z,_⟩:=h; rw [e] at z; cases z
 | tuple ys =>
   have h':OwnK G H a ys:=h; unfold OwnK at h'
   split at h'
   . obtain ⟨_,z,_⟩:=h'; rw [e] at z; cases z
   . obtain ⟨_,z,_⟩:=h'; rw [e] at z; cases z
   . exact h'
 | _=>exact (show False from h).elim
theorem SlOk.grow {G H G' H':Hp} (g:Grow G H G' H') {o:Option V} {s:Sl} (h:SlOk G H o s):SlOk G' H' o s:=by
 cases s with
 | un=>trivial
 | sh d=>obtain ⟨v,e,r⟩:=h; exact ⟨v,e,r.mono g.g⟩
 | fd kvs=>exact FdOk.mono g.g h
 | ow d =>
   obtain ⟨a,e,n,r⟩:=h; refine ⟨a,e,?_,r.grow g⟩
   cases q:G' a with
   | none=>rfl
   | some u =>
     obtain ⟨o',eo⟩:=r.some; rcases g.fr a u q with z | z | ⟨xs,rfl⟩
     . rw [n] at z; cases z
     . rw [eo] at z; cases z
     . exact ((r.grow g).noTup (g.gh _ _ q)).elim
theorem SR.grow {G H G' H':Hp} {Z:St} {δ:Dn} (S:SR G H Z δ) (g:Grow G H G' H'):SR G' H' Z δ :=
 ⟨g.gh,S.len,fun i s e=>(S.sl i s e).grow g,S.ap⟩
abbrev EK:=Str->Hp->Prop
def Aft (E:EK) (G H:Hp) (r:Res PyData) (Q:VK):Prop:=match r with
 | .ok d=>∀ v G' H',Grow G H G' H'->Rep G' d v->Q v H'
 | .exc c=>∀ G' H',Grow G H G' H'->E c H'
 | .no=>False
def tD (E:EK) (f:Dn->Res PyData):TE:=fun Z H Q=>∃ G δ,SR G H Z δ/\Aft E G H (f δ) Q
abbrev DE (X:Cx) (E:EK) (e:Expr) (f:Dn->Res PyData):Prop:=PE X e (tD E f)
theorem Aft.grow {E:EK} {G H G' H':Hp} {r:Res PyData} {Q:VK} (g:Grow G H G' H') (a:Aft E G H r Q):Aft E G' H' r Q:=by
 cases r with
 | ok d=>exact fun v G2 H2 g2 q=>a v G2 H2 (g.trans g2) q
 | exc c=>exact fun G2 H2 g2=>a G2 H2 (g.trans g2)
 | no=>exact a
theorem PE.imp {X:Cx} {e:Expr} {t t':TE} (h:PE X e t) (i:∀ Z H Q,t' Z H Q->t Z H Q):PE X e t':=fun pins s Z H Q I q=>h pins s Z H Q I (i _ _ _ q)
theorem M9 {E:EK} {G H:Hp} {Z:St} {δ:Dn} {f:Dn->Res PyData} {k:PyData->Res PyData} {Q R:VK} (S:SR G H Z δ) (a:Aft E G H ((f δ).bind k) Q)
   (h:∀ d v G1 H1,Grow G H G1 H1->Rep G1 d v->SR G1 H1 Z δ->Aft E G1 H1 (k d) Q->R v H1):tD E f Z H R:=by
 refine ⟨G,δ,S,?_⟩
 cases e:f δ with
 | ok d =>
   rw [e] at a; exact fun v G' H' g r=>h d v G' H' g r (S.grow g) (Aft.grow g a)
 | exc c=>rw [e] at a; exact a
 | no=>rw [e] at a; exact a
noncomputable section
variable {X:Cx} {E:EK} {pos:Pos}
noncomputable def vC (d:PyData):Dn->Res PyData:=fun _=>.ok d
noncomputable def A3 (i:Nat):Dn->Res PyData:=fun δ=>match δ[i]? with
 | some (.sh d)=>.ok d
 | _=>.no
theorem B0 {i:Int} {j:Nat}:DE X E (.Constant (.int i) j pos) (vC (.int i)):=PE.imp lK fun Z H Q ⟨G,δ,S,a⟩=>a _ G H (Grow.refl S.sub) rfl
theorem Bf {b:Bool} {j:Nat}:DE X E (.Constant (.bool b) j pos) (vC (.bool b)):=PE.imp pe_bl fun Z H Q ⟨G,δ,S,a⟩=>a _ G H (Grow.refl S.sub) rfl
theorem Ut {j:Nat}:DE X E (.Constant .none j pos) (vC .none):=PE.imp lI fun Z H Q ⟨G,δ,S,a⟩=>a _ G H (Grow.refl S.sub) rfl
theorem N7 {x:Str} {j:Nat} (h:PyData.strOk x=true:=by decide +kernel) (hl:x.length<=sizeLine:=by decide +kernel):DE X E (.Constant (.str x) j pos) (vC (.str x)) :=
 PE.imp bX fun Z H Q ⟨G,δ,S,a⟩=>a _ G H (Grow.refl S.sub) ⟨rfl,h,hl⟩
theorem mT {i:Nat} {x:Str} (hN:X.N[i]? = some x) (hv:Vis X.env.scope x) (hd:(x==("__debug__" : Str))=false) (hcd:(x==("__classdict__" : Str))=false):DE X E (.Name x pos) (A3 i) :=
 PE.imp (Uf hN hv hd hcd) fun Z H Q ⟨G,δ,S,a⟩=>by
   unfold A3 at a
   split at a
   . rename_i d e
     obtain ⟨v,e1,r⟩:=S.sl i _ e; refine ⟨v,?_,a _ G H (Grow.refl S.sub) r⟩
     cases q:Z[i]? with
     | none=>rw [q] at e1; cases e1
     | some w=>rw [q] at e1; cases w with
       | none=>cases e1
       | some w=>cases e1; rfl
   . exact a.elim
noncomputable def b2 (f g:Dn->Res PyData) (op:PyData->PyData->Option PyData):Dn->Res PyData:=fun δ=>(f δ).bind fun x=>(g δ).bind fun y=>ofO (op x y)
def OpD (r:R2) (op:PyData->PyData->Option PyData):Prop:=∀ (G H:Hp) (x y:V) (a b d:PyData) (Q:VK),Same G H->Rep G a x->Rep G b y->op a b=some d->(∀ v G' H',Grow G H G' H'->Rep G' d v->Q v H')->r x y H Q
theorem aI {r:R2} {op:PyData->PyData->Option PyData} {f g:Dn->Res PyData} (ho:OpD r op) {Z:St} {H:Hp} {Q:VK} (h:tD E (b2 f g op) Z H Q):tOp r (tD E f) (tD E g) Z H Q:=by
 obtain ⟨G,δ,S,a⟩:=h
 refine M9 S a fun d1 v1 G1 H1 g1 r1 S1 a1=>?_
 refine M9 S1 a1 fun d2 v2 G2 H2 g2 r2 S2 a2=>?_
 cases e:op d1 d2 with
 | none=>rw [e] at a2; exact a2.elim
 | some d=>rw [e] at a2; exact ho G2 H2 v1 v2 d1 d2 d Q S2.sub (r1.mono g2.g) r2 e a2
theorem Sw {a b:Expr} {o:Operator} {r:R2} {op:PyData->PyData->Option PyData} {f g:Dn->Res PyData} (hr:OpR X (binaryOp o) r) (ho:OpD r op) (ha:DE X E a f) (hb:DE X E b g):DE X E (.BinOp a o b pos) (b2 f g op) :=
 PE.imp (pe_op hr ha hb) fun _ _ _ h=>aI ho h
theorem d_cmp {a b:Expr} {o:CmpOp} {r:R2} {op:PyData->PyData->Option PyData} {f g:Dn->Res PyData} (hr:OpR X (compareOp o) r) (ho:OpD r op) (ha:DE X E a f) (hb:DE X E b g) (hm:behindInMarks o b=false):DE X E (.Compare a [o] [b] pos) (b2 f g op) :=
 PE.imp (gL hr ha hb hm) fun _ _ _ h=>aI ho h
end
end Sm
end
noncomputable section
namespace Sm
open PySem PySem.Spec PyProof.Rows L2
noncomputable section
variable {X:Cx} {pins:List (Addr×Obj)} {Z:St} {H G:Hp} {s:Shared}
theorem V3 (I:Inv X pins Z H s) {a:Addr} {xs:List V} (hG:Same G H) (r:Rd G a (.lst xs)):xs.length<=sizeLine/\∃ (its:List Value) (n:Nat),Vals xs its/\s.heap.get? a=some { cls:=.type "list",data:=.seq its.toArray n } :=
 (Rd.ok (Rd.mono hG r) I.hok:ObjOk X.prog X.w H s.heap a (.lst xs))
theorem Fk (I:Inv X pins Z H s) {a:Addr} {xs:List V} (hG:Same G H) (r:G a=some (.tup xs)):xs.length<=sizeLine/\∃ its:List Value,Vals xs its/\IsTup s.heap a its.toArray :=
 (I.hok a _ (hG _ _ r):ObjOk X.prog X.w H s.heap a (.tup xs))
mutual
theorem Rep.reads (I:Inv X pins Z H s) (hG:Same G H):∀ {d:PyData} {v:V} {u:Value},Rep G d v->RelV v u->∃ as,Reads s.heap u d as
 | .none,_,_,r,q=>by cases (show _=_ from r); cases q; exact ⟨_,.none⟩
 | .bool _,_,_,r,q=>by cases (show _=_ from r); cases q; exact ⟨_,.bool _⟩
 | .int _,_,_,r,q=>by cases (show _=_ from r); obtain ⟨t,rfl⟩:=q; exact ⟨_,.int _ _⟩
 | .str _,_,_,r,q=>by cases r.1; obtain ⟨t,rfl⟩:=q; exact ⟨_,.str _ _⟩
 | .list _,_,_,r,q=>by
   obtain ⟨a,xs,rfl,h,l⟩:=r; cases q; obtain ⟨z,its,n,rv,e⟩:=V3 I hG h; obtain ⟨as,ra⟩:=RepL.reads I hG l rv; exact ⟨_,.list e rfl rfl (by simpa using ra)⟩
 | .tuple _,_,_,r,q=>by
   obtain ⟨a,xs,rfl,h,l⟩:=r; cases q; obtain ⟨z,its,rv,o,e,c,n,hd⟩:=Fk I hG h; obtain ⟨as,ra⟩:=RepL.reads I hG l rv; exact ⟨_,.tuple e c hd (by simpa using ra)⟩
 | .dict _,_,_,r,_=>r.elim
theorem RepL.reads (I:Inv X pins Z H s) (hG:Same G H):∀ {ds:List PyData} {xs:List V} {us:List Value},RepL G ds xs->Vals xs us->∃ as,ReadsAll s.heap us ds as
 | [],_,_,r,q=>by cases (show _=_ from r); cases q; exact ⟨_,.nil⟩
 | _::_,_,_,r,q=>by
   obtain ⟨x,t,rfl,h,l⟩:=r
   cases q with
   | cons q qs =>
     obtain ⟨as,r1⟩:=Rep.reads I hG h q; obtain ⟨bs,r2⟩:=RepL.reads I hG l qs; exact ⟨_,.cons r1 r2⟩
end
end
noncomputable def dEq (a b:PyData):Option PyData:=if min a.depth b.depth<=64 then some (.bool (PyData.eqv a b)) else none
noncomputable def dNe (a b:PyData):Option PyData:=if min a.depth b.depth<=64 then some (.bool (!PyData.eqv a b)) else none
def gC (neg:Bool):R2:=fun x y H Q=>∃ G a b,Same G H/\Rep G a x/\Rep G b y/\min a.depth b.depth<=64/\Q (.bl (if neg then !PyData.eqv a b else PyData.eqv a b)) H
noncomputable section
variable {X:Cx}
theorem cI (hu:X.A.units+64 < cLine):OpR X (compareOp .Eq) (gC false):=by
 intro pins s Z H x y v u Q I rx ry ⟨G,a,b,hG,ra,rb,hm,q⟩
 obtain ⟨as,r1⟩:=ra.reads I hG rx
 obtain ⟨bs,r2⟩:=rb.reads I hG ry
 exact SeqAt.compareEq_reads r1 r2 ra.lay rb.lay (by omega) ⟨.bl _,H,I,rfl,q⟩
theorem lP (hu:X.A.units+64 < cLine):OpR X (compareOp .NotEq) (gC true):=by
 intro pins s Z H x y v u Q I rx ry ⟨G,a,b,hG,ra,rb,hm,q⟩
 obtain ⟨as,r1⟩:=ra.reads I hG rx
 obtain ⟨bs,r2⟩:=rb.reads I hG ry
 exact SeqAt.compareNe_reads r1 r2 ra.lay rb.lay (by omega) ⟨.bl _,H,I,rfl,q⟩
theorem cK:OpD (gC false) dEq:=by
 intro G H x y a b d Q hG ra rb e q
 unfold dEq at e
 split at e
 . rename_i h; cases e; exact ⟨G,a,b,hG,ra,rb,h,q _ G H (Grow.refl hG) rfl⟩
 . cases e
theorem lR:OpD (gC true) dNe:=by
 intro G H x y a b d Q hG ra rb e q
 unfold dNe at e
 split at e
 . rename_i h; cases e; exact ⟨G,a,b,hG,ra,rb,h,q _ G H (Grow.refl hG) rfl⟩
 . cases e
end
noncomputable def jP (x y:Str):Bool := !(Builtin.Str.occurrences y x 0 y.length 1).isEmpty
noncomputable def dIn (neg:Bool) (a b:PyData):Option PyData:=match b with
 | .list ds=>if min (PyData.depthAll ds) a.depth<=62 then some (.bool (if neg then !ds.any fun y=>PyData.eqv y a else ds.any fun y=>PyData.eqv y a)) else none
 | .tuple ds=>if min (PyData.depthAll ds) a.depth<=62 then some (.bool (if neg then !ds.any fun y=>PyData.eqv y a else ds.any fun y=>PyData.eqv y a)) else none
 | .str y=>match a with
   | .str x=>some (.bool (if neg then !jP x y else jP x y))
   | _=>none
 | _=>none
noncomputable def C4:PyData->PyData->Option PyData
 | .int i,.int j=>some (.int (i+j))
 | .str x,.str y=>if x.length+y.length<=sizeLine then some (.str (x++y)) else none
 | .list xs,.list ys=>if xs.length+ys.length<=sizeLine then some (.list (xs++ys)) else none
 | .tuple xs,.tuple ys=>if xs.length+ys.length<=sizeLine then some (.tuple (xs++ys)) else none
 | _,_=>none
def jH:R2:=fun x y H Q=>∃ G a b d,Same G H/\Rep G a x/\Rep G b y/\C4 a b=some d/\∀ v G' H',Grow G H G' H'->Rep G' d v->Q v H'
theorem Az {x y:Str} (hx:PyData.strOk x=true) (hy:PyData.strOk y=true):PyData.strOk (x++y)=true:=by
 unfold PyData.strOk at *
 show (x.cps++y.cps).all _=true
 rw [Array.all_append,hx,hy]; rfl
theorem Ip (x y:Str):(x++y).length=x.length+y.length:=by
 show (x.cps++y.cps).size=_
 rw [Array.size_append]; rfl
noncomputable section
variable {X:Cx}
theorem Wv {pins:List (Addr×Obj)} {Z:St} {H G:Hp} {s:Shared} {Q:VK} {ds:List PyData} {xs:List V} {its:List Value} {t':Nat} (I:Inv X pins Z H s) (hG:Same G H) (rv:Vals xs its) (rl:RepL G ds xs) (hz:xs.length<=sizeLine)
   (q:∀ v G' H',Grow G H G' H'->Rep G' (.tuple ds) v->Q v H'):EP X pins Z Q (.ref s.heap.objs.size) { s with heap:=s.heap.push { cls:=.type "tuple",data:=.seq its.toArray },toks:=t' }:=by
 refine ⟨.ref s.heap.objs.size,_,I.laid (t':=t') (o:=.tup xs) (fun b ob q=>Heap.get?_push_of_some _ q) (Nat.le_refl _) ⟨hz,its,rv,IsTup.new _ _⟩,rfl,q _ (upd G s.heap.objs.size (.tup xs)) _ (Grow.new hG I.fresh) ⟨_,xs,rfl,B7,rl.mono (Same.upd (hG.free I.fresh))⟩⟩
theorem Pi {pins:List (Addr×Obj)} {Z:St} {H G:Hp} {s:Shared} {Q:VK} {ds:List PyData} {xs:List V} {its:List Value} {t':Nat} (I:Inv X pins Z H s) (hG:Same G H) (rv:Vals xs its) (rl:RepL G ds xs) (hz:xs.length<=sizeLine)
   (q:∀ v G' H',Grow G H G' H'->Rep G' (.list ds) v->Q v H'):EP X pins Z Q (.ref s.heap.objs.size) { s with heap:=s.heap.push { cls:=.type "list",data:=.seq its.toArray },toks:=t' }:=by
 refine ⟨.ref s.heap.objs.size,_,I.lnew (t':=t') rv hz,rfl,q _ (upd G s.heap.objs.size (.lst xs)) _ (Grow.new hG I.fresh) ⟨_,xs,rfl,.inl B7,rl.mono (Same.upd (hG.free I.fresh))⟩⟩
theorem gP:OpR X (binaryOp .Add) jH:=by
 intro pins s Z H x y v u Q I rx ry ⟨G,a,b,d,hG,ra,rb,e,q⟩
 cases a with
 | int i=>cases b with
   | int j =>
     cases e
     cases (show _=_ from ra); cases (show _=_ from rb)
     obtain ⟨t,rfl⟩:=rx; obtain ⟨t',rfl⟩:=ry; exact add_int ⟨.int _,H,I.tok _,⟨_,rfl⟩,q _ G H (Grow.refl hG) rfl⟩
   | _=>cases e
 | str i=>cases b with
   | str j =>
     replace e:(if _ then _ else _)=some d:=e
     split at e
     . rename_i hz
       cases e; obtain ⟨e1,o1,_⟩:=ra; obtain ⟨e2,o2,_⟩:=rb
       cases e1; cases e2
       obtain ⟨t,rfl⟩:=rx; obtain ⟨t',rfl⟩:=ry; exact add_str (fun t' tk=>⟨.str (i++j),H,I.tok _,⟨_,rfl⟩,q _ G H (Grow.refl hG) ⟨rfl,Az o1 o2,by rw [Ip]; exact hz⟩⟩) hz
     . cases e
   | _=>cases e
 | list xs=>cases b with
   | list ys =>
     replace e:(if _ then _ else _)=some d:=e
     split at e
     . rename_i hz
       cases e; obtain ⟨l,vs,rfl,h1,l1⟩:=ra; obtain ⟨l',ws,rfl,h2,l2⟩:=rb
       cases rx; cases ry
       obtain ⟨z1,its1,n1,v1,e1⟩:=V3 I hG h1; obtain ⟨z2,its2,n2,v2,e2⟩:=V3 I hG h2; have q1:=v1.length; have q2:=v2.length; have q3:=l1.length; have q4:=l2.length; refine PySem.P.add_list e1 e2 ?_ (by rw [List.size_toArray,List.size_toArray]; omega)
       have ea:its1.toArray++its2.toArray=(its1++its2).toArray:=by simp
       rw [ea]; exact Pi (t':=s.toks) I hG (v1.append v2) (l1.append l2) (by rw [List.length_append]; omega) q
     . cases e
   | _=>cases e
 | tuple xs=>cases b with
   | tuple ys =>
     replace e:(if _ then _ else _)=some d:=e
     split at e
     . rename_i hz
       cases e; obtain ⟨l,vs,rfl,h1,l1⟩:=ra; obtain ⟨l',ws,rfl,h2,l2⟩:=rb
       cases rx; cases ry
       obtain ⟨z1,its1,v1,p1⟩:=Fk I hG h1; obtain ⟨z2,its2,v2,p2⟩:=Fk I hG h2; have q1:=v1.length; have q2:=v2.length; have q3:=l1.length; have q4:=l2.length
       by_cases hx:its1=[]
       . subst hx
         obtain ⟨⟨cls,dd,data,sl⟩,ho,hc,n,hd⟩:=id p1; obtain ⟨⟨cls2,dd2,data2,sl2⟩,ho2,hc2,n2,hd2⟩:=id p2; simp only at hc hd hc2 hd2; subst hc hd hc2 hd2; refine concat_meets ⟨_,ho,rfl⟩ ⟨_,ho2,rfl⟩ noFill_tuple_add seq_tuple_add PySem.F.slot_tuple_add PySem.F.entry_tuple_add (PySem.F.args_tuple_add_2 _ _)
           (tuple_addW0 l l' _ _ n n2 dd dd2 sl sl2 (by simp)) ⟨ho,ho2,?_⟩
         have hxs:xs=[]:=by
           have:xs.length=0:=by rw [q3,q1]; rfl
           exact List.length_eq_zero_iff.mp this
         subst hxs; exact ⟨.ref l',H,I,rfl,q _ G H (Grow.refl hG) ⟨l',ws,rfl,h2,l2⟩⟩
       . refine HT.cat_tup p1 p2 hx (fun hy=>?_) (fun hy=>?_) (by omega)
         . subst hy
           have hys:ys=[]:=by
             have:ys.length=0:=by rw [q4,q2]; rfl
             exact List.length_eq_zero_iff.mp this
           subst hys; rw [List.append_nil] at q; exact ⟨.ref l,H,I,rfl,q _ G H (Grow.refl hG) ⟨l,vs,rfl,h1,l1⟩⟩
         . exact Wv (t':=s.toks) I hG (v1.append v2) (l1.append l2) (by rw [List.length_append]; omega) q
     . cases e
   | _=>cases e
 | _=>cases e
theorem gT:OpD jH C4:=fun G H x y a b d Q hG ra rb e q=>⟨G,a,b,d,hG,ra,rb,e,q⟩
noncomputable def Pm:PyData->PyData->Option PyData
 | .int i,.int j=>some (.int (i - j))
 | _,_=>none
noncomputable def Lv:PyData->PyData->Option PyData
 | .int i,.int j=>if 0 < j then some (.int (i % j)) else none
 | _,_=>none
noncomputable def Hb:PyData->PyData->Option PyData
 | .int i,.int j=>if 0 < j/\j < 1073741824 then some (.int (i / j)) else none
 | _,_=>none
theorem Ou {r:R2} {op:PyData->PyData->Option PyData} (h:∀ a b d,op a b=some d->∃ i j k,a=.int i/\b=.int j/\d=.int k/\∀ H Q,Q (V.int k) H->r (.int i) (.int j) H Q):OpD r op:=by
 intro G H x y a b d Q hG ra rb e q
 obtain ⟨i,j,k,rfl,rfl,rfl,hr⟩:=h a b d e
 cases (show _=_ from ra); cases (show _=_ from rb)
 exact hr H Q (q _ G H (Grow.refl hG) rfl)
theorem gQ:OpD (rI0 fun i j=>.int (i - j)) Pm:=Ou fun a b d e=>by
 unfold Pm at e
 split at e
 . cases e; exact ⟨_,_,_,rfl,rfl,rfl,fun H Q q=>⟨_,_,rfl,rfl,q⟩⟩
 . cases e
theorem gS:OpD (rI (fun _ j=>0 < j) fun i j=>.int (i % j)) Lv:=Ou fun a b d e=>by
 unfold Lv at e
 split at e
 . split at e
   . rename_i h; cases e; exact ⟨_,_,_,rfl,rfl,rfl,fun H Q q=>⟨_,_,rfl,rfl,h,q⟩⟩
   . cases e
 . cases e
theorem cJ:OpD (rI CDiv fun i j=>.int (i / j)) Hb:=Ou fun a b d e=>by
 unfold Hb at e
 split at e
 . split at e
   . rename_i h; cases e; exact ⟨_,_,_,rfl,rfl,rfl,fun H Q q=>⟨_,_,rfl,rfl,h,q⟩⟩
   . cases e
 . cases e
end
end Sm
end
noncomputable section
namespace Sm
open PySem PySem.Spec PyProof.Rows L2
open PySem.AutoSeq1 (wpAny_loadPart')
noncomputable def G6 (n:Nat) (x:Str):Str:=⟨(List.replicate n x.cps).foldl (· ++ ·) #[]⟩
theorem Zd (l:List (Array Nat)):∀ acc:Array Nat,(l.foldl (· ++ ·) acc).toList=acc.toList++(l.map Array.toList).flatten:=by
 induction l with
 | nil=>intro acc; simp
 | cons a l ih=>intro acc; rw [List.foldl_cons,ih]; simp
theorem Q8 (n:Nat) (x:Str):(G6 n x).cps.toList=(List.replicate n x.cps.toList).flatten:=by
 unfold G6
 rw [Zd]; simp
theorem Xw {x:Str} (h:PyData.strOk x=true) (n:Nat):PyData.strOk (G6 n x)=true:=by
 unfold PyData.strOk at *
 rw [<- Array.all_toList,List.all_eq_true] at *
 rw [Q8]
 intro c hc
 obtain ⟨l,hl,hc⟩:=List.mem_flatten.mp hc
 rw [List.eq_of_mem_replicate hl] at hc
 exact h c hc
theorem Iq (n:Nat) (x:Str):(G6 n x).length=n*x.length:=by
 show (G6 n x).cps.size=n*x.cps.size
 rw [<- Array.length_toList,Q8,Wo,Array.length_toList]
theorem Qj (x:Str):G6 0 x=Str.empty:=rfl
theorem Tu (x:Str):G6 1 x=x:=by
 have:(G6 1 x).cps=x.cps:=by
   apply Array.toList_inj.mp
   rw [Q8]; simp
 cases x; cases h:G6 1 _; rw [h] at this; cases this; rfl
theorem Tv {x:Str} (n:Nat) (h:x.length=0):G6 n x=x:=by
 have hx:x.cps = #[]:=Array.size_eq_zero_iff.mp h
 have:(G6 n x).cps=x.cps:=by
   apply Array.toList_inj.mp
   rw [Q8,hx]; simp
 cases x; cases h:G6 n _; rw [h] at this; cases this; rfl
noncomputable def M8:PyData->PyData->Option PyData
 | .int i,.int j=>if (-(2 ^ 64) < i/\i < 2 ^ 64)\/(-(2 ^ 64) < j/\j < 2 ^ 64) then some (.int (i*j)) else none
 | .str x,.int n=>if -(2 ^ 63)<=n/\n < 2 ^ 63/\x.length*n.toNat<=sizeLine then some (.str (G6 n.toNat x)) else none
 | .list xs,.int n=>if -(2 ^ 63)<=n/\n < 2 ^ 63/\xs.length*n.toNat<=sizeLine then some (.list (List.replicate n.toNat xs).flatten) else none
 | _,_=>none
def jF:R2:=fun x y H Q=>∃ G a b d,Same G H/\Rep G a x/\Rep G b y/\M8 a b=some d/\∀ v G' H',Grow G H G' H'->Rep G' d v->Q v H'
theorem gR:OpD jF M8:=fun G H x y a b d Q hG ra rb e q=>⟨G,a,b,d,hG,ra,rb,e,q⟩
theorem Yn:fillsNumberSlot (.type "tuple") "mul" = pure false:=by
 unfold fillsNumberSlot
 first | rfl | kernel_rfl | decide +kernel
theorem gA:seqRepeat? (.type "tuple")=pure (some (.builtin "tuple.__mul__")):=by
 unfold seqRepeat?
 first | rfl | kernel_rfl
theorem dI (a:Int) (t:Tok) (l:Addr) (items:Array Value) (n:Nat) (dd:Option Addr) (sl:Array (Option Value)) :
   Meets (Builtin.«int.__rmul__» ⟨[.int a t,.ref l],[]⟩) (fun _ R s=>s.heap.get? l=some { cls:=.type "tuple",dict:=dd,data:=.seq items n,slots:=sl }/\R (.ok (.ret Value.notImplemented)) s) :=
 .of_wp fun prog w A R s h=>by obtain ⟨hp,g,d,tk,os⟩:=s; obtain ⟨hl,h⟩:=h; wp_walk; exact ⟨_,rfl,h⟩
theorem aA (l:Addr) (items:Array Value) (n:Nat) (x:Int) (u:Tok) (dd:Option Addr) (sl:Array (Option Value)) (h1:¬ (decide (x < -(2 ^ 63:Int))||decide (x≥2 ^ 63))=true) (h2:¬ (items.isEmpty||x==1)=true) (h3:¬ (decide (x<=0)||items.isEmpty)=true)
   (h4:¬ (items.size:Int)*x>(2 ^ 63 - 1) / 8) (h5:¬ Builtin.Tuple.tupleTooMany (items.size*x)=true) (h6:(List.foldl (fun x1 x2=>x1++x2) #[] (List.replicate x.toNat items)).size<=sizeLine) :
   Meets (Builtin.«tuple.__mul__» ⟨[.ref l,.int x u],[]⟩) (fun _ R s=>s.heap.get? l=some { cls:=.type "tuple",dict:=dd,data:=.seq items n,slots:=sl }/\R (.ok (.ret (Value.ref s.heap.objs.size))) { s with heap:=s.heap.push { cls:=Value.type "tuple",data:=Data.seq (List.foldl (fun x1 x2=>x1++x2) #[] (List.replicate x.toNat items)) },toks:=s.toks }) :=
 .of_wp fun prog w A R s h=>by
   obtain ⟨hp,g,d,tk,os⟩:=s; obtain ⟨hl,h⟩:=h
   have f1:=AutoSeq1.idx_int
   wp_walk using wpAny_loadPart' hl
   rw [if_neg h1]
   wp_walk using wpAny_loadPart' hl
   rw [if_neg h4]
   wp_walk using wpAny_loadPart' hl
   exact ⟨_,rfl,h⟩
theorem Zz (l:Addr) (items:Array Value) (n:Nat) (x:Int) (u:Tok) (dd:Option Addr) (sl:Array (Option Value)) (h1:¬ (decide (x < -(2 ^ 63:Int))||decide (x≥2 ^ 63))=true) (h2:(items.isEmpty||x==1)=true) :
   Meets (Builtin.«tuple.__mul__» ⟨[.ref l,.int x u],[]⟩) (fun _ R s=>s.heap.get? l=some { cls:=.type "tuple",dict:=dd,data:=.seq items n,slots:=sl }/\R (.ok (.ret (.ref l))) s) :=
 .of_wp fun prog w A R s h=>by
   obtain ⟨hp,g,d,tk,os⟩:=s; obtain ⟨hl,h⟩:=h
   have f1:=AutoSeq1.idx_int
   wp_walk using wpAny_loadPart' hl
   rw [if_neg h1]
   wp_walk using wpAny_loadPart' hl
   exact ⟨_,rfl,h⟩
noncomputable section
variable {X:Cx}
theorem gM:OpR X (binaryOp .Mult) jF:=by
 intro pins s Z H x y v u Q I rx ry ⟨G,a,b,d,hG,ra,rb,e,q⟩
 have h63:=Be
 obtain ⟨k,rfl⟩:∃ k,b=.int k:=by unfold M8 at e; split at e <;> first | exact ⟨_,rfl⟩ | cases e
 cases (show _=_ from rb)
 obtain ⟨t',rfl⟩:=ry
 cases a with
 | int i =>
   replace e:(if _ then _ else _)=some d:=e
   split at e
   . rename_i hc
     cases e
     cases (show _=_ from ra)
     obtain ⟨t,rfl⟩:=rx; exact mul_int ⟨.int _,H,I.tok _,⟨_,rfl⟩,q _ G H (Grow.refl hG) rfl⟩ (CMul.ok hc)
   . cases e
 | str z =>
   replace e:(if _ then _ else _)=some d:=e
   split at e
   . rename_i hc
     obtain ⟨hc1,hc2,hc3⟩:=hc; cases e; obtain ⟨e1,o1,l1⟩:=ra; cases e1; obtain ⟨t,rfl⟩:=rx; have fin:∀ tk,Q (.str (G6 k.toNat z)) H/\Inv X pins Z H { s with toks:=tk }:=fun tk=>⟨q _ G H (Grow.refl hG) ⟨rfl,Xw o1 _,by rw [Iq,Nat.mul_comm]; exact hc3⟩,I.tok _⟩
     refine PySem.P.mul_str (by rw [decide_eq_false (by omega),decide_eq_false (by omega)]; rfl) (fun h1 _=>?_) (fun h1 _=>?_) ?_
     . intro hgt
       have hk:(0:Int) < k:=by omega
       have h2:(2 ^ 63 - 1) / k+1<=(z.length:Int):=by omega
       have h3:(2 ^ 63 - 1:Int) < ((2 ^ 63 - 1) / k+1)*k:=Int.lt_ediv_add_one_mul_self _ hk; have h4:((2 ^ 63 - 1) / k+1)*k<=(z.length:Int)*k:=Int.mul_le_mul_of_nonneg_right h2 (by omega)
       have h5:(z.length:Int)*k=((z.length*k.toNat:Nat):Int):=by
         rw [Int.natCast_mul,Int.toNat_of_nonneg (by omega)]
       omega
     . unfold Builtin.Str.tooLong
       exact decide_eq_false (by omega)
     . by_cases h1:k < 1
       . rw [if_pos h1]
         have:k.toNat=0:=by omega
         rw [this,Qj] at fin; exact ⟨by decide,⟨.str _,H,(fin _).2,⟨_,rfl⟩,(fin 0).1⟩⟩
       . rw [if_neg h1]
         by_cases h2:(k==1||z.length==0)=true
         . rw [if_pos h2]
           rw [Bool.or_eq_true] at h2; have ez:G6 k.toNat z=z:=by
             rcases h2 with h2 | h2
             . have:k=1:=eq_of_beq h2
               subst this; exact Tu z
             . exact Tv _ (eq_of_beq h2)
           rw [ez] at fin; exact ⟨.str _,H,I,⟨_,rfl⟩,(fin 0).1⟩
         . rw [if_neg h2]
           exact ⟨by show (G6 k.toNat z).length<=_; rw [Iq,Nat.mul_comm]; exact hc3,⟨.str _,H,(fin _).2,⟨_,rfl⟩,(fin 0).1⟩⟩
   . cases e
 | list xs =>
   replace e:(if _ then _ else _)=some d:=e
   split at e
   . rename_i hc
     obtain ⟨hc1,hc2,hc3⟩:=hc; cases e; obtain ⟨l,vs,rfl,h1,l1⟩:=ra; cases rx; have q3:=l1.length; obtain ⟨z,its,n,r,e⟩:=V3 I hG h1; have hl:=r.length; have hlen:its.toArray.size*k.toNat<=sizeLine:=by rw [List.size_toArray,<- hl,<- q3]; exact hc3
     have hcap:¬ its.toArray.size*k.toNat>(2 ^ 63 - 1) / 8:=by
       have:(sizeLine:Nat)<=(2 ^ 63 - 1) / 8:=by decide
       omega
     have hfit:¬ (!Builtin.List.listFitsIndex k)=true:=by
       rw [fitsIndex_both hc1 hc2]; exact Bool.false_ne_true
     have hlong:¬ Builtin.List.listTooLong (its.toArray.size*k.toNat)=true:=by
       rw [Rq hlen]; exact Bool.false_ne_true
     have hnew:List.foldl (fun x1 x2=>x1++x2) #[] (List.replicate (if its.toArray.isEmpty=true then 0 else k.toNat) its.toArray)=(List.replicate k.toNat its).flatten.toArray:=by
       have f0:∀ m:Nat,List.foldl (fun x1 x2=>x1++x2) #[] (List.replicate m its.toArray)=(List.replicate m its).flatten.toArray:=fun m=>by
         have:=Na its m []; rw [List.nil_append] at this; exact this
       rw [f0]
       cases its with
       | nil=>simp
       | cons a r'=>rw [if_neg (by simp)]
     refine wpAny_binaryOp_repeat_ref (T := "list") (U := "int") (by decide) ⟨_,e,rfl⟩ (fun s'=>typeIs_int s' k t') noFill_list_mul F.fills_int_mul F.slot_int_rmul repeat_list F.slot_int_index.lookup
       (call_meets F.slot_int_rmul (typeIs_int s k t') F.entry_int_rmul (F.args_int_rmul_2 _ _) (int___rmul___int_list k t' l its.toArray n)
         ⟨e,rfl,⟨_,e,rfl⟩,call_meets F.slot_list_mul ⟨_,e,rfl⟩ F.entry_list_mul (F.args_list_mul_2 _ _) (AutoListH.list___mul___list_int_3 l its.toArray n k t' hfit hcap hlong) ⟨e,?_⟩⟩)
     rw [hnew]; exact Pi (t':=s.toks) I hG (r.rep k.toNat) (l1.rep k.toNat) (by rw [Wo,Nat.mul_comm,<- q3]; exact hc3) q
   . cases e
 | _=>cases e
end
end Sm
end
noncomputable section
namespace Sm
open PySem PySem.Spec PyProof.Rows L2
open PySem.AutoSeq1 (wpAny_loadPart')
open PySem.MeetsSeq PySem.MeetsSeq2 PySem.MeetsSeq3
noncomputable def dO:CmpOp->Int->Int->Bool
 | .Lt,i,j=>decide (i < j)
 | .LtE,i,j=>decide (i<=j)
 | .Gt,i,j=>decide (j < i)
 | _,i,j=>decide (j<=i)
noncomputable def Yd:CmpOp->Str->Str->Bool
 | .Lt,x,y=>decide (x.cps.toList < y.cps.toList)
 | .LtE,x,y => !decide (y.cps.toList < x.cps.toList)
 | .Gt,x,y=>decide (y.cps.toList < x.cps.toList)
 | _,x,y => !decide (x.cps.toList < y.cps.toList)
noncomputable def Ti:CmpOp->Nat->Nat->Bool
 | .Lt,m,n=>decide (m < n)
 | .LtE,m,n=>decide (m<=n)
 | .Gt,m,n=>decide (m>n)
 | _,m,n=>decide (m≥n)
noncomputable def Wg:CmpOp->Bool
 | .Lt=>true | .LtE=>true | .Gt=>true | .GtE=>true | _=>false
mutual
noncomputable def Zk (op:CmpOp):PyData->PyData->Option Bool
 | .int i,.int j=>some (dO op i j)
 | .str x,.str y=>some (Yd op x y)
 | .tuple xs,.tuple ys=>Dx op xs ys
 | _,_=>none
noncomputable def Dx (op:CmpOp):List PyData->List PyData->Option Bool
 | [],ys=>some (Ti op 0 ys.length)
 | x::xs,[]=>some (Ti op (xs.length+1) 0)
 | x::xs,y::ys=>if PyData.eqv x y=true then Dx op xs ys else Zk op x y
end
def eV (op:CmpOp) (A:Around) (s:Shared) (u v:Value) (k:Bool):Prop:=∀ (prog:Program) (w:World) (E:Value->Shared->Prop) (Q:Value->Shared->Prop),Q (.bool k) s->wpAny (model prog w) A (richCompare op u v) Q E s
theorem kY {op:CmpOp} (h:Wg op=true) (A:Around) (s:Shared) (i j:Int) (t u:Tok):eV op A s (.int i t) (.int j u) (dO op i j):=fun prog w E Q q=>by
 cases op with
 | Lt=>exact (lt_int q:wpAny (model prog w) A (compareOp .Lt (.int i t) (.int j u)) Q E s)
 | LtE=>exact (le_int q:wpAny (model prog w) A (compareOp .LtE (.int i t) (.int j u)) Q E s)
 | Gt=>exact (gt_int q:wpAny (model prog w) A (compareOp .Gt (.int i t) (.int j u)) Q E s)
 | GtE=>exact (ge_int q:wpAny (model prog w) A (compareOp .GtE (.int i t) (.int j u)) Q E s)
 | _=>cases h
theorem kX {op:CmpOp} (h:Wg op=true) (A:Around) (s:Shared) (x y:Str) (t u:Tok):eV op A s (.str x t) (.str y u) (Yd op x y):=fun prog w E Q q=>by
 cases op with
 | Lt=>exact (PySem.P.lt_str q:wpAny (model prog w) A (compareOp .Lt (.str x t) (.str y u)) Q E s)
 | LtE=>exact (PySem.P.le_str (by simpa [Yd] using q):wpAny (model prog w) A (compareOp .LtE (.str x t) (.str y u)) Q E s)
 | Gt=>exact (PySem.P.gt_str q:wpAny (model prog w) A (compareOp .Gt (.str x t) (.str y u)) Q E s)
 | GtE=>exact (PySem.P.ge_str (by simpa [Yd] using q):wpAny (model prog w) A (compareOp .GtE (.str x t) (.str y u)) Q E s)
 | _=>cases h
def Z8 (op:CmpOp) (A:Around) (s:Shared) (vs ws:List Value) (ds es:List PyData):Prop :=
 ∀ (i:Nat) (v w:Value) (d e:PyData),vs[i]? = some v->ws[i]? = some w->ds[i]? = some d->es[i]? = some e->SeqAt.EqAt A s v w (PyData.eqv d e)/\∀ k,Zk op d e=some k->eV op A s v w k
theorem Kz (l b:Addr) (items items2:Array Value) (n n2:Nat) (dd dd2:Option Addr) (sl sl2:Array (Option Value)) (ds es:List PyData) (k:Bool) (hz1:items.toList.length=ds.length) (hz2:items2.toList.length=es.length) (hk:Dx .Lt ds es=some k) :
   Meets (Builtin.«tuple.__lt__» ⟨[.ref l,.ref b],[]⟩)
     (fun A R s=>s.heap.get? l=some { cls:=.type "tuple",dict:=dd,data:=.seq items n,slots:=sl }/\s.heap.get? b=some { cls:=.type "tuple",dict:=dd2,data:=.seq items2 n2,slots:=sl2 } /\
       Z8 .Lt A.in1 s items.toList items2.toList ds es/\R (.ok (.ret (.bool k))) s) :=
 .of_wp fun prog w A R s h=>by
   obtain ⟨hp,g,d,tk,os⟩:=s; obtain ⟨hl,hb,hI,h⟩:=h
   have f2:=AutoSeq1.sub_tuple_tuple; have z1:items.size=ds.length:=by rw [<- hz1]; simp
   have z2:items2.size=es.length:=by rw [<- hz2]; simp
   wp_walk using wpAny_loadPart' hl,wpAny_loadPart' hb,wpAny_forIn_list _ (fun K1 b s'=>b.1=none/\s'=⟨hp,g,d,tk,os⟩/\∃ (vs ws:List Value) (ds' es':List PyData),K1=vs.zip ws /\
     vs.length=ds'.length/\ws.length=es'.length/\ds'.length+items2.size=es'.length+items.size/\Z8 .Lt A.in1 ⟨hp,g,d,tk,os⟩ vs ws ds' es'/\Dx .Lt ds' es'=some k) _
   case turn =>
     rintro ⟨y,x⟩ K1 b s' ⟨hb',rfl,vs,ws,ds',es',hz,hv,hw,hlen,hI',hR⟩
     cases vs with
     | nil=>rw [List.zip_nil_left] at hz; cases hz
     | cons v0 vs =>
       cases ws with
       | nil=>rw [List.zip_nil_right] at hz; cases hz
       | cons w0 ws =>
         cases ds' with
         | nil=>simp at hv
         | cons d0 ds' =>
           cases es' with
           | nil=>simp at hw
           | cons e0 es' =>
             rw [List.zip_cons_cons] at hz
             injection hz with hyx hrest
             injection hyx with hy hx
             subst hy hx; simp only [List.length_cons] at hlen hv hw; obtain ⟨he,hc⟩:=hI' 0 y x d0 e0 rfl rfl rfl rfl; have hI2:Z8 .Lt A.in1 ⟨hp,g,d,tk,os⟩ vs ws ds' es':=fun i v w d e h1 h2 h3 h4=>hI' (i+1) v w d e (by simpa using h1) (by simpa using h2) (by simpa using h3) (by simpa using h4)
             rw [Dx] at hR; refine wpAny_bind (he prog w _ _ ?_)
             cases q:PyData.eqv d0 e0 with
             | true =>
               rw [q,if_pos rfl] at hR
               wp_walk
               exact ⟨rfl,rfl,_,_,_,_,hrest,by omega,by omega,by omega,hI2,hR⟩
             | false =>
               rw [q,if_neg (by decide)] at hR; have hri:=hc k hR prog w
               wp_walk using hri
               exact ⟨_,rfl,by simpa using h⟩
   case fin =>
     rintro ⟨b1,b2⟩ s' ⟨hb',rfl,vs,ws,ds',es',hz,hv,hw,hlen,hI',hR⟩
     simp only at hb'; subst hb'; have hv':k=decide (items.size < items2.size):=by
       cases ds' with
       | nil =>
         rw [Dx] at hR; have:=Option.some.inj hR; rw [<- this]; simp only [List.length_nil] at hlen; simp only [Ti]; exact decide_eq_decide.mpr (by omega)
       | cons d0 ds' =>
         cases es' with
         | nil =>
           rw [Dx] at hR; have:=Option.some.inj hR; rw [<- this]; simp only [List.length_nil,List.length_cons] at hlen; simp only [Ti]; exact decide_eq_decide.mpr (by omega)
         | cons e0 es' =>
           cases vs with
           | nil=>simp at hv
           | cons v0 vs =>
             cases ws with
             | nil=>simp at hw
             | cons w0 ws=>rw [List.zip_cons_cons] at hz; cases hz
     rw [hv'] at h
     wp_walk
     exact ⟨_,rfl,by simpa [Builtin.Tuple.tupleCompareSizes] using h⟩
   case h =>
     exact ⟨rfl,rfl,items.toList,items2.toList,ds,es,rfl,hz1,hz2,by omega,hI,hk⟩
theorem La (l b:Addr) (items items2:Array Value) (n n2:Nat) (dd dd2:Option Addr) (sl sl2:Array (Option Value)) (ds es:List PyData) (k:Bool) (hz1:items.toList.length=ds.length) (hz2:items2.toList.length=es.length) (hk:Dx .LtE ds es=some k) :
   Meets (Builtin.«tuple.__le__» ⟨[.ref l,.ref b],[]⟩)
     (fun A R s=>s.heap.get? l=some { cls:=.type "tuple",dict:=dd,data:=.seq items n,slots:=sl }/\s.heap.get? b=some { cls:=.type "tuple",dict:=dd2,data:=.seq items2 n2,slots:=sl2 } /\
       Z8 .LtE A.in1 s items.toList items2.toList ds es/\R (.ok (.ret (.bool k))) s) :=
 .of_wp fun prog w A R s h=>by
   obtain ⟨hp,g,d,tk,os⟩:=s; obtain ⟨hl,hb,hI,h⟩:=h
   have f2:=AutoSeq1.sub_tuple_tuple; have z1:items.size=ds.length:=by rw [<- hz1]; simp
   have z2:items2.size=es.length:=by rw [<- hz2]; simp
   wp_walk using wpAny_loadPart' hl,wpAny_loadPart' hb,wpAny_forIn_list _ (fun K1 b s'=>b.1=none/\s'=⟨hp,g,d,tk,os⟩/\∃ (vs ws:List Value) (ds' es':List PyData),K1=vs.zip ws /\
     vs.length=ds'.length/\ws.length=es'.length/\ds'.length+items2.size=es'.length+items.size/\Z8 .LtE A.in1 ⟨hp,g,d,tk,os⟩ vs ws ds' es'/\Dx .LtE ds' es'=some k) _
   case turn =>
     rintro ⟨y,x⟩ K1 b s' ⟨hb',rfl,vs,ws,ds',es',hz,hv,hw,hlen,hI',hR⟩
     cases vs with
     | nil=>rw [List.zip_nil_left] at hz; cases hz
     | cons v0 vs =>
       cases ws with
       | nil=>rw [List.zip_nil_right] at hz; cases hz
       | cons w0 ws =>
         cases ds' with
         | nil=>simp at hv
         | cons d0 ds' =>
           cases es' with
           | nil=>simp at hw
           | cons e0 es' =>
             rw [List.zip_cons_cons] at hz
             injection hz with hyx hrest
             injection hyx with hy hx
             subst hy hx; simp only [List.length_cons] at hlen hv hw; obtain ⟨he,hc⟩:=hI' 0 y x d0 e0 rfl rfl rfl rfl; have hI2:Z8 .LtE A.in1 ⟨hp,g,d,tk,os⟩ vs ws ds' es':=fun i v w d e h1 h2 h3 h4=>hI' (i+1) v w d e (by simpa using h1) (by simpa using h2) (by simpa using h3) (by simpa using h4)
             rw [Dx] at hR; refine wpAny_bind (he prog w _ _ ?_)
             cases q:PyData.eqv d0 e0 with
             | true =>
               rw [q,if_pos rfl] at hR
               wp_walk
               exact ⟨rfl,rfl,_,_,_,_,hrest,by omega,by omega,by omega,hI2,hR⟩
             | false =>
               rw [q,if_neg (by decide)] at hR; have hri:=hc k hR prog w
               wp_walk using hri
               exact ⟨_,rfl,by simpa using h⟩
   case fin =>
     rintro ⟨b1,b2⟩ s' ⟨hb',rfl,vs,ws,ds',es',hz,hv,hw,hlen,hI',hR⟩
     simp only at hb'; subst hb'; have hv':k=decide (items.size<=items2.size):=by
       cases ds' with
       | nil =>
         rw [Dx] at hR; have:=Option.some.inj hR; rw [<- this]; simp only [List.length_nil] at hlen; simp only [Ti]; exact decide_eq_decide.mpr (by omega)
       | cons d0 ds' =>
         cases es' with
         | nil =>
           rw [Dx] at hR; have:=Option.some.inj hR; rw [<- this]; simp only [List.length_nil,List.length_cons] at hlen; simp only [Ti]; exact decide_eq_decide.mpr (by omega)
         | cons e0 es' =>
           cases vs with
           | nil=>simp at hv
           | cons v0 vs =>
             cases ws with
             | nil=>simp at hw
             | cons w0 ws=>rw [List.zip_cons_cons] at hz; cases hz
     rw [hv'] at h
     wp_walk
     exact ⟨_,rfl,by simpa [Builtin.Tuple.tupleCompareSizes] using h⟩
   case h =>
     exact ⟨rfl,rfl,items.toList,items2.toList,ds,es,rfl,hz1,hz2,by omega,hI,hk⟩
theorem bN {op:CmpOp} (ho:op=.Lt\/op=.LtE) {A:Around} {s:Shared} {l b:Addr} {items items2:Array Value} {ds es:List PyData} {k:Bool} (hl:IsTup s.heap l items) (hb:IsTup s.heap b items2) (hz1:items.toList.length=ds.length) (hz2:items2.toList.length=es.length)
   (hI:Z8 op A.in1 s items.toList items2.toList ds es) (hk:Dx op ds es=some k) (hu:A.units < cLine):eV op A s (.ref l) (.ref b) k:=fun prog w E Q q=>by
 obtain ⟨⟨cls,dd,data,sl⟩,ho1,hc,n,hd⟩:=id hl
 obtain ⟨⟨cls2,dd2,data2,sl2⟩,ho2,hc2,n2,hd2⟩:=id hb
 simp only at hc hd hc2 hd2
 subst hc hd hc2 hd2
 rcases ho with rfl | rfl
 . exact richCompare_meets_room (op := .Lt) ⟨_, ho1, rfl⟩ ⟨_, ho2, rfl⟩ PySem.F.slot_tuple_lt PySem.F.entry_tuple_lt (PySem.F.args_tuple_lt_2 _ _) (Kz l b items items2 n n2 dd dd2 sl sl2 ds es k hz1 hz2 hk)
     ⟨ho1,ho2,hI,show Value.bool k≠Value.notImplemented/\Q (.bool k) s from ⟨(fun x=>nomatch x),q⟩⟩ hu
 . exact richCompare_meets_room (op := .LtE) ⟨_, ho1, rfl⟩ ⟨_, ho2, rfl⟩ PySem.F.slot_tuple_le PySem.F.entry_tuple_le (PySem.F.args_tuple_le_2 _ _) (La l b items items2 n n2 dd dd2 sl sl2 ds es k hz1 hz2 hk)
     ⟨ho1,ho2,hI,show Value.bool k≠Value.notImplemented/\Q (.bool k) s from ⟨(fun x=>nomatch x),q⟩⟩ hu
mutual
theorem Vu {op:CmpOp} (ho:op=.Lt\/op=.LtE):∀ (a b:PyData) (A:Around) (s:Shared) (u v:Value) (as bs:List Addr) (k:Bool),Reads s.heap u a as->Reads s.heap v b bs->a.canLay0=true->b.canLay0=true->A.units+a.depth < cLine->Zk op a b=some k->eV op A s u v k
 | .int i,b,A,s,_,_,_,_,k,ra,rb,_,_,_,e=>by
   have oo:Wg op=true:=by rcases ho with rfl | rfl <;> rfl
   cases b with
   | int j=>cases ra; cases rb; cases e; exact kY oo A s i j _ _
   | _=>cases e
 | .str x,b,A,s,_,_,_,_,k,ra,rb,_,_,_,e=>by
   have oo:Wg op=true:=by rcases ho with rfl | rfl <;> rfl
   cases b with
   | str j=>cases ra; cases rb; cases e; exact kX oo A s x j _ _
   | _=>cases e
 | .tuple xs,b,A,s,_,_,_,_,k,ra,rb,ha,hb,hu,e=>by
   cases b with
   | tuple ys =>
     cases ra with
     | tuple h1 h2 h3 h4 =>
       cases rb with
       | tuple k1 k2 k3 k4 =>
         have hu':A.units+(PyData.depthAll xs+1) < cLine:=hu; refine bN ho ⟨_,h1,h2,_,h3⟩ ⟨_,k1,k2,_,k3⟩ (SeqAt.ReadsAll.length _ _ _ h4) (SeqAt.ReadsAll.length _ _ _ k4) ?_ e (by omega)
         exact Qz ho xs ys A.in1 s _ _ _ _ h4 k4 ha hb (by show A.units+1+_ < _; omega)
   | _=>cases e
 | .none,b,_,_,_,_,_,_,_,_,_,_,_,_,e=>by cases b <;> cases e
 | .bool _,b,_,_,_,_,_,_,_,_,_,_,_,_,e=>by cases b <;> cases e
 | .list _,b,_,_,_,_,_,_,_,_,_,_,_,_,e=>by cases b <;> cases e
 | .dict _,b,_,_,_,_,_,_,_,_,_,_,_,_,e=>by cases b <;> cases e
theorem Qz {op:CmpOp} (ho:op=.Lt\/op=.LtE):∀ (xs ys:List PyData) (A:Around) (s:Shared) (vs ws:List Value) (as bs:List Addr),ReadsAll s.heap vs xs as->ReadsAll s.heap ws ys bs->PyData.canLayAll0 xs=true->PyData.canLayAll0 ys=true->A.units+PyData.depthAll xs < cLine->Z8 op A s vs ws xs ys
 | [],_,_,_,_,_,_,_,_,_,_,_,_=>fun i v w d e h1 h2 h3 h4=>by simp at h3
 | _::_,[],_,_,_,_,_,_,_,_,_,_,_=>fun i v w d e h1 h2 h3 h4=>by simp at h4
 | x::xs,y::ys,A,s,_,_,_,_,ra,rb,ha,hb,hu=>by
   have ha':x.canLay0=true/\PyData.canLayAll0 xs=true:=by simpa [PyData.canLayAll0] using ha
   have hb':y.canLay0=true/\PyData.canLayAll0 ys=true:=by simpa [PyData.canLayAll0] using hb
   have hu':A.units+max x.depth (PyData.depthAll xs) < cLine:=hu
   cases ra with
   | cons r1 r2 =>
     cases rb with
     | cons q1 q2 =>
       intro i v w d e h1 h2 h3 h4
       cases i with
       | zero =>
         simp at h1 h2 h3 h4
         subst h1 h2 h3 h4; exact ⟨SeqAt.eqAt_reads _ _ _ _ _ _ _ _ r1 q1 ha'.1 hb'.1 (by omega),fun k hk=>Vu ho _ _ A s _ _ _ _ k r1 q1 ha'.1 hb'.1 (by omega) hk⟩
       | succ i=>exact Qz ho xs ys A s _ _ _ _ r2 q2 ha'.2 hb'.2 (by omega) i v w d e (by simpa using h1) (by simpa using h2) (by simpa using h3) (by simpa using h4)
end
noncomputable def N6 (op:CmpOp) (a b:PyData):Option PyData:=if a.depth<=60 then (Zk op a b).map .bool else none
def jG (op:CmpOp):R2:=fun x y H Q=>∃ G a b k,Same G H/\Rep G a x/\Rep G b y/\a.depth<=60/\Zk op a b=some k/\Q (.bl k) H
noncomputable section
variable {X:Cx}
theorem Wh {op:CmpOp} (ho:op=.Lt\/op=.LtE) (hu:X.A.units+64 < cLine):OpR X (compareOp op) (jG op):=by
 intro pins s Z H x y v u Q I rx ry ⟨G,a,b,k,hG,ra,rb,hd,e,q⟩
 obtain ⟨as,r1⟩:=ra.reads I hG rx
 obtain ⟨bs,r2⟩:=rb.reads I hG ry
 have:=Vu ho a b X.A s v u as bs k r1 r2 ra.lay rb.lay (by omega) e X.prog X.w X.xe (EP X pins Z Q) ⟨.bl k,H,I,rfl,q⟩
 rcases ho with rfl | rfl
 . exact this
 . exact this
theorem gO {op:CmpOp} (ho:op=.Gt\/op=.GtE):OpR X (compareOp op) (fun x y H Q=>∃ i j,x=.int i/\y=.int j/\Q (.bl (dO op i j)) H):=by
 intro pins s Z H x y v u Q I rx ry ⟨i,j,e1,e2,q⟩
 subst e1 e2
 obtain ⟨t,rfl⟩:=rx
 obtain ⟨t',rfl⟩:=ry
 rcases ho with rfl | rfl
 . exact gt_int ⟨.bl _,H,I,rfl,q⟩
 . exact ge_int ⟨.bl _,H,I,rfl,q⟩
theorem Wi {op:CmpOp}:OpD (jG op) (N6 op):=by
 intro G H x y a b d Q hG ra rb e q
 unfold N6 at e
 split at e
 . rename_i h
   cases e1:Zk op a b with
   | none=>rw [e1] at e; cases e
   | some k=>rw [e1] at e; cases e; exact ⟨G,a,b,k,hG,ra,rb,h,e1,q _ G H (Grow.refl hG) rfl⟩
 . cases e
noncomputable def De (op:CmpOp):PyData->PyData->Option PyData
 | .int i,.int j=>some (.bool (dO op i j))
 | _,_=>none
theorem cL {op:CmpOp}:OpD (fun x y H Q=>∃ i j,x=.int i/\y=.int j/\Q (.bl (dO op i j)) H) (De op):=by
 intro G H x y a b d Q hG ra rb e q
 cases a with
 | int i=>cases b with
   | int j=>cases e; cases (show _=_ from ra); cases (show _=_ from rb); exact ⟨i,j,rfl,rfl,q _ G H (Grow.refl hG) rfl⟩
   | _=>cases e
 | _=>cases e
end
end Sm
end
noncomputable section
namespace Sm
open PySem PySem.Spec PyProof.Rows L2
theorem Res.bind_assoc {α β γ:Type} (r:Res α) (f:α->Res β) (g:β->Res γ):(r.bind f).bind g=r.bind fun x=>(f x).bind g:=by cases r <;> rfl
structure Cxt (P:Program) (w:World) (K:PySem.W.Frag) (mg:Str->Option Value) (base:Heap) (X:Cx) (N:List Str) (sc:Scope) (k:Nat) (df:Bool):Prop where
 hP:X.prog=P
 hw:X.w=w
 hK:X.K=K
 hmg:X.mg=mg
 hb:X.base=base
 hN:X.N=N
 hs:X.env.scope=sc
 calm:X.calm=true
 room:Room k X.A
 fn:df=true->∀ x,X.fn x=true
 own:PassesOwn (model X.prog X.w) X.A X.env X.xe
def Cr (scope sc:Scope):Scope :=
 { scope with names:=scope.names.map fun (n,k)=>if (k==.free&&sc.kind==.function&&sc.names.lookup n==some .cell) then (n,.cell) else (n,k) }
theorem Vt {X:Cx} {scope sc:Scope} (h:X.env.scope=sc):relabel scope X.env=Cr scope sc:=by subst h; rfl
noncomputable section
variable {P:Program} {w:World} {K:PySem.W.Frag} {mg:Str->Option Value} {base:Heap} {X:Cx} {N:List Str} {sc:Scope} {k:Nat} {df:Bool} {E:EK} {pos:Pos}
theorem Cxt.blk (C:Cxt P w K mg base X N sc k df) {X':Cx} {N':List Str} {scope:Scope} (B:Blk X X' N' (relabel scope X.env)):Cxt P w K mg base X' N' (Cr scope sc) k false :=
 ⟨B.prog.trans C.hP,B.w.trans C.hw,B.K.trans C.hK,B.mg.trans C.hmg,B.base.trans C.hb,B.N,B.sc.trans (Vt C.hs),B.calm.trans C.calm,by rw [B.A]; exact C.room,(fun h=>by cases h),by rw [B.xe]; exact PassesOwn.never⟩
theorem Cxt.hu (C:Cxt P w K mg base X N sc k df):X.A.units+64 < cLine:=C.room.units
noncomputable def okVar (N:List Str) (sc:Scope) (i:Nat) (x:Str):Bool :=
 (N[i]? == some x)&&(match sc.names.lookup x with | some .local=>true | some .cell=>true | some .free=>true | _=>false) && !(x==("__debug__" : Str)) && !(x==("__classdict__" : Str))
theorem A4 (C:Cxt P w K mg base X N sc k df) (i:Nat) {x:Str} (h:okVar N sc i x=true):DE X E (.Name x pos) (A3 i):=by
 unfold okVar at h
 simp only [Bool.and_eq_true,Bool.not_eq_true'] at h
 obtain ⟨⟨⟨h1,h2⟩,h3⟩,h4⟩:=h
 refine mT (by rw [C.hN]; exact eq_of_beq h1) ?_ h3 h4
 rw [C.hs]
 unfold Vis
 cases q:sc.names.lookup x with
 | none=>rw [q] at h2; cases h2
 | some z =>
   rw [q] at h2
   cases z with
   | «local» => exact .inl rfl
   | cell=>exact .inr (.inl rfl)
   | free=>exact .inr (.inr rfl)
   | _=>cases h2
noncomputable def okGl (sc:Scope) (x:Str):Bool:=(sc.names.lookup x==some .globalImplicit) && !(x==("__debug__" : Str)) && !(x==("__name__" : Str))
theorem okGl.gl (C:Cxt P w K mg base X N sc k df) {x:Str} (h:okGl sc x=true):Gl X x/\(x==("__debug__" : Str))=false/\x ≠ "__name__" := by
 unfold okGl at h
 simp only [Bool.and_eq_true,Bool.not_eq_true'] at h
 obtain ⟨⟨h1,h2⟩,h3⟩:=h
 refine ⟨?_,h2,by simpa using h3⟩
 unfold Gl
 show X.env.scope.names.lookup x=_
 rw [C.hs]; exact eq_of_beq h1
variable {a b c:Expr} {f g f':Dn->Res PyData}
theorem C8 (ha:DE X E a f) (hb:DE X E b g):DE X E (.BinOp a .Add b pos) (b2 f g C4):=Sw gP gT ha hb
theorem jR (ha:DE X E a f) (hb:DE X E b g):DE X E (.BinOp a .Sub b pos) (b2 f g Pm):=Sw lO gQ ha hb
theorem Av (ha:DE X E a f) (hb:DE X E b g):DE X E (.BinOp a .Mult b pos) (b2 f g M8):=Sw gM gR ha hb
theorem Nd (ha:DE X E a f) (hb:DE X E b g):DE X E (.BinOp a .Mod b pos) (b2 f g Lv):=Sw lQ gS ha hb
theorem Pl (ha:DE X E a f) (hb:DE X E b g):DE X E (.BinOp a .FloorDiv b pos) (b2 f g Hb):=Sw gN cJ ha hb
theorem mW (C:Cxt P w K mg base X N sc k df) (ha:DE X E a f) (hb:DE X E b g):DE X E (.Compare a [.Eq] [b] pos) (b2 f g dEq):=d_cmp (cI C.hu) cK ha hb (Fp _)
noncomputable def vChain (f g f':Dn->Res PyData) (op op':PyData->PyData->Option PyData):Dn->Res PyData:=fun δ=>(f δ).bind fun x=>(g δ).bind fun y=>(ofO (op x y)).bind fun z=>match z with
 | .bool true=>(f' δ).bind fun u=>ofO (op' y u)
 | .bool false=>.ok (.bool false)
 | _=>.no
noncomputable def b1 (f:Dn->Res PyData) (op:PyData->Option PyData):Dn->Res PyData:=fun δ=>(f δ).bind fun x=>ofO (op x)
noncomputable def Dv:PyData->Option PyData
 | .int i=>some (.int (-i))
 | _=>none
theorem Ss (ha:DE X E a f):DE X E (.UnaryOp .USub a pos) (b1 f Dv):=by
 refine PE.imp (pe_un kA ha) fun Z H Q ⟨G,δ,S,aft⟩=>?_
 refine M9 S aft fun d1 v1 G1 H1 g1 r1 S1 a1=>?_
 cases d1 with
 | int i=>cases (show _=_ from r1); exact ⟨i,rfl,a1 _ G1 H1 (Grow.refl S1.sub) rfl⟩
 | _=>exact (show False from a1).elim
noncomputable def Pz (f g:Dn->Res PyData):Dn->Res PyData:=fun δ=>(f δ).bind fun x=>match x with
 | .bool true=>g δ
 | .bool false=>.ok (.bool false)
 | _=>.no
variable {K1:List Expr}
theorem jS {op:BoolOp} (ha:DE X E a f):DE X E (.BoolOp op [a] pos) f:=lH ha
theorem jT (ha:DE X E a f) (hb:DE X E (.BoolOp .And (b::K1) pos) g):DE X E (.BoolOp .And (a::b::K1) pos) (Pz f g):=by
 refine PE.imp (lM ha hb) fun Z H Q ⟨G,δ,S,aft⟩=>?_
 refine M9 S aft fun d1 v1 G1 H1 g1 r1 S1 a1=>?_
 cases d1 with
 | bool kk =>
   refine ⟨kk,r1,?_⟩
   cases kk with
   | true=>rw [if_pos rfl]; exact ⟨G1,δ,S1,a1⟩
   | false=>rw [if_neg (by decide)]; exact a1 _ G1 H1 (Grow.refl S1.sub) rfl
 | _=>exact (show False from a1).elim
def AftT (E:EK) (G H:Hp) (r:Res Bool) (Q:Bool->Hp->Prop):Prop:=match r with
 | .ok d=>∀ G' H',Grow G H G' H'->Q d H'
 | .exc c=>∀ G' H',Grow G H G' H'->E c H'
 | .no=>False
def tT (E:EK) (f:Dn->Res Bool):TT:=fun Z H Q=>∃ G δ,SR G H Z δ/\AftT E G H (f δ) Q
abbrev DT (X:Cx) (E:EK) (e:Expr) (f:Dn->Res Bool):Prop:=PT X e (tT E f)
abbrev DW (X:Cx) (E:EK) (e:Expr) (f:Dn->Res Bool):Prop:=PW X e (tT E f)
theorem AftT.grow {E:EK} {G H G' H':Hp} {r:Res Bool} {Q:Bool->Hp->Prop} (g:Grow G H G' H') (a:AftT E G H r Q):AftT E G' H' r Q:=by
 cases r with
 | ok d=>exact fun G2 H2 g2=>a G2 H2 (g.trans g2)
 | exc c=>exact fun G2 H2 g2=>a G2 H2 (g.trans g2)
 | no=>exact a
theorem PT.imp {X:Cx} {e:Expr} {t t':TT} (h:PT X e t) (i:∀ Z H Q,t' Z H Q->t Z H Q):PT X e t':=fun pins s Z H Q I q=>h pins s Z H Q I (i _ _ _ q)
theorem PW.imp {X:Cx} {e:Expr} {t t':TT} (h:PW X e t) (i:∀ Z H Q,t' Z H Q->t Z H Q):PW X e t':=fun wh pins s Z H Q I q=>h wh pins s Z H Q I (i _ _ _ q)
theorem Gn {E:EK} {G H:Hp} {Z:St} {δ:Dn} {f:Dn->Res PyData} {k:PyData->Res Bool} {Q:Bool->Hp->Prop} {R:VK} (S:SR G H Z δ) (a:AftT E G H ((f δ).bind k) Q)
   (h:∀ d v G1 H1,Grow G H G1 H1->Rep G1 d v->SR G1 H1 Z δ->AftT E G1 H1 (k d) Q->R v H1):tD E f Z H R:=by
 refine ⟨G,δ,S,?_⟩
 cases e:f δ with
 | ok d =>
   rw [e] at a; exact fun v G' H' g r=>h d v G' H' g r (S.grow g) (AftT.grow g a)
 | exc c=>rw [e] at a; exact a
 | no=>rw [e] at a; exact a
theorem Eb {E:EK} {G H:Hp} {Z:St} {δ:Dn} {f:Dn->Res Bool} {k:Bool->Res Bool} {Q R:Bool->Hp->Prop} (S:SR G H Z δ) (a:AftT E G H ((f δ).bind k) Q)
   (h:∀ d G1 H1,Grow G H G1 H1->SR G1 H1 Z δ->AftT E G1 H1 (k d) Q->R d H1):tT E f Z H R:=by
 refine ⟨G,δ,S,?_⟩
 cases e:f δ with
 | ok d =>
   rw [e] at a; exact fun G' H' g=>h d G' H' g (S.grow g) (AftT.grow g a)
 | exc c=>rw [e] at a; exact a
 | no=>rw [e] at a; exact a
theorem Ve {E:EK} {G H:Hp} {Z:St} {δ:Dn} {f:Dn->Res Bool} {k:Bool->Res PyData} {Q:VK} {R:Bool->Hp->Prop} (S:SR G H Z δ) (a:Aft E G H ((f δ).bind k) Q)
   (h:∀ d G1 H1,Grow G H G1 H1->SR G1 H1 Z δ->Aft E G1 H1 (k d) Q->R d H1):tT E f Z H R:=by
 refine ⟨G,δ,S,?_⟩
 cases e:f δ with
 | ok d =>
   rw [e] at a; exact fun G' H' g=>h d G' H' g (S.grow g) (Aft.grow g a)
 | exc c=>rw [e] at a; exact a
 | no=>rw [e] at a; exact a
noncomputable def aB:PyData->Option Bool
 | .none=>some false
 | .bool b=>some b
 | .int i=>some (i != 0)
 | .str x=>some (x.length != 0)
 | .list xs=>some (!xs.isEmpty)
 | .tuple xs=>some (!xs.isEmpty)
 | .dict _=>none
noncomputable def C3 (f:Dn->Res PyData):Dn->Res Bool:=fun δ=>(f δ).bind fun d=>ofO (aB d)
theorem RepL.isEmpty {G:Hp} {ds:List PyData} {xs:List V} (r:RepL G ds xs):ds.isEmpty=xs.isEmpty:=by
 have:=r.length
 cases ds <;> cases xs <;> simp at this ⊢
theorem Rep.truV {G H:Hp} (hG:Same G H) {d:PyData} {v:V} (r:Rep G d v) {kk:Bool} (e:aB d=some kk):nC K v H kk:=by
 cases d with
 | none=>cases (show _=_ from r); cases e; rfl
 | bool _=>cases (show _=_ from r); cases e; rfl
 | int _=>cases (show _=_ from r); cases e; rfl
 | str x =>
   cases r.1; cases e
   refine ⟨r.2.2,?_⟩; show (x.length != 0)=((x.length:Int) != 0)
   rw [Bool.eq_iff_iff]; simp
 | list _=>obtain ⟨a,xs,rfl,h1,l1⟩:=r; cases e; exact .inl ⟨xs,.inl (Rd.mono hG h1),by rw [l1.isEmpty]⟩
 | tuple _=>obtain ⟨a,xs,rfl,h1,l1⟩:=r; cases e; exact .inr (.inl ⟨xs,.inl (.inl (hG _ _ h1)),by rw [l1.isEmpty]⟩)
 | dict _=>cases e
theorem Gv (ha:DE X E a f) (he:∀ whole,isTrue a X.env whole=(do let v <- whole; standAt a.pos; holding [v] (truthy v)):=by intro _; rfl):DT X E a (C3 f):=by
 refine PT.imp (Rf ha he) fun Z H Q ⟨G,δ,S,aft⟩=>?_
 refine Gn S aft fun d1 v1 G1 H1 g1 r1 S1 a1=>?_
 cases e:aB d1 with
 | none=>rw [e] at a1; exact a1.elim
 | some kk=>rw [e] at a1; exact ⟨kk,r1.truV S1.sub e,a1 G1 H1 (Grow.refl S1.sub)⟩
theorem Ik {o:CmpOp} {r:R2} {op:PyData->PyData->Option PyData} (hr:OpR X (compareOp o) r) (ho:OpD r op) (hbool:∀ x y d,op x y=some d->∃ kk,d=.bool kk) (ha:DE X E a f) (hb:DE X E b g) (hm:behindInMarks o b=false) :
   DT X E (.Compare a [o] [b] pos) (C3 (b2 f g op)):=by
 refine PT.imp (gH hr ha hb hm) fun Z H Q ⟨G,δ,S,aft⟩=>?_
 have aft':AftT E G H ((f δ).bind fun x=>(g δ).bind fun y=>(ofO (op x y)).bind fun d=>ofO (aB d)) Q:=by
   unfold C3 b2 at aft; simp only [Res.bind_assoc] at aft; exact aft
 refine Gn S aft' fun d1 v1 G1 H1 g1 r1 S1 a1=>?_
 refine Gn S1 a1 fun d2 v2 G2 H2 g2 r2 S2 a2=>?_
 cases e:op d1 d2 with
 | none=>rw [e] at a2; exact a2.elim
 | some d =>
   rw [e] at a2; obtain ⟨kk,rfl⟩:=hbool _ _ _ e; exact ho G2 H2 v1 v2 d1 d2 _ _ S2.sub (r1.mono g2.g) r2 e fun v G3 H3 g3 r3=>⟨kk,r3,a2 G3 H3 g3⟩
theorem iT (x y d:PyData) (e:dEq x y=some d):∃ kk,d=.bool kk:=by unfold dEq at e; split at e <;> cases e; exact ⟨_,rfl⟩
theorem iS (x y d:PyData) (e:dNe x y=some d):∃ kk,d=.bool kk:=by unfold dNe at e; split at e <;> cases e; exact ⟨_,rfl⟩
theorem Te {op:CmpOp} (x y d:PyData) (e:N6 op x y=some d):∃ kk,d=.bool kk:=by
 unfold N6 at e; split at e
 . obtain ⟨kk,_,rfl⟩:=Option.map_eq_some_iff.mp e; exact ⟨_,rfl⟩
 . cases e
theorem Zm {op:CmpOp} (x y d:PyData) (e:De op x y=some d):∃ kk,d=.bool kk:=by
 unfold De at e; split at e
 . cases e; exact ⟨_,rfl⟩
 . cases e
theorem Lb (C:Cxt P w K mg base X N sc k df) (ha:DE X E a f) (hb:DE X E b g):DT X E (.Compare a [.Eq] [b] pos) (C3 (b2 f g dEq)):=Ik (cI C.hu) cK iT ha hb (Fp _)
theorem Tt (C:Cxt P w K mg base X N sc k df) (ha:DE X E a f) (hb:DE X E b g):DT X E (.Compare a [.NotEq] [b] pos) (C3 (b2 f g dNe)):=Ik (lP C.hu) lR iS ha hb (Fp _)
theorem Xv (C:Cxt P w K mg base X N sc k df) (ha:DE X E a f) (hb:DE X E b g):DT X E (.Compare a [.Lt] [b] pos) (C3 (b2 f g (N6 .Lt))):=Ik (Wh (.inl rfl) C.hu) Wi Te ha hb (Fp _)
theorem t_le (C:Cxt P w K mg base X N sc k df) (ha:DE X E a f) (hb:DE X E b g):DT X E (.Compare a [.LtE] [b] pos) (C3 (b2 f g (N6 .LtE))):=Ik (Wh (.inr rfl) C.hu) Wi Te ha hb (Fp _)
theorem t_gt (C:Cxt P w K mg base X N sc k df) (ha:DE X E a f) (hb:DE X E b g):DT X E (.Compare a [.Gt] [b] pos) (C3 (b2 f g (De .Gt))):=Ik (gO (.inl rfl)) cL Zm ha hb (Fp _)
variable {c1 c2:Dn->Res Bool}
noncomputable def Zl (c:Dn->Res Bool):Dn->Res Bool:=fun δ=>(c δ).bind fun b=>.ok (!b)
noncomputable def P9 (c c':Dn->Res Bool):Dn->Res Bool:=fun δ=>(c δ).bind fun b=>if b=true then c' δ else .ok false
noncomputable def cOr (c c':Dn->Res Bool):Dn->Res Bool:=fun δ=>(c δ).bind fun b=>if b=true then .ok true else c' δ
theorem t_not (ha:DT X E a c1):DT X E (.UnaryOp .Not a pos) (Zl c1):=by
 refine PT.imp (lC ha) fun Z H Q ⟨G,δ,S,aft⟩=>?_
 exact Eb S aft fun d G1 H1 g1 S1 a1=>a1 G1 H1 (Grow.refl S1.sub)
theorem Br (ha:DT X E a c1):DW X E (.BoolOp .And [a] pos) c1:=gE ha
theorem w_or1 (ha:DT X E a c1):DW X E (.BoolOp .Or [a] pos) c1:=kZ ha
theorem Gs (ha:DT X E a c1) (hb:DW X E (.BoolOp .And (b::K1) pos) c2):DW X E (.BoolOp .And (a::b::K1) pos) (P9 c1 c2):=by
 refine PW.imp (lA ha hb) fun Z H Q ⟨G,δ,S,aft⟩=>?_
 refine Eb S aft fun d G1 H1 g1 S1 a1=>?_
 cases d with
 | true=>rw [if_pos rfl]; exact ⟨G1,δ,S1,a1⟩
 | false=>rw [if_neg (by decide)]; exact a1 G1 H1 (Grow.refl S1.sub)
theorem w_or (ha:DT X E a c1) (hb:DW X E (.BoolOp .Or (b::K1) pos) c2):DW X E (.BoolOp .Or (a::b::K1) pos) (cOr c1 c2):=by
 refine PW.imp (pw_or ha hb) fun Z H Q ⟨G,δ,S,aft⟩=>?_
 refine Eb S aft fun d G1 H1 g1 S1 a1=>?_
 cases d with
 | true=>rw [if_pos rfl]; exact a1 G1 H1 (Grow.refl S1.sub)
 | false=>rw [if_neg (by decide)]; exact ⟨G1,δ,S1,a1⟩
theorem w_t (h:DW X E a c1):DT X E a c1:=h.pt
noncomputable def vIf (c:Dn->Res Bool) (f g:Dn->Res PyData):Dn->Res PyData:=fun δ=>(c δ).bind fun b=>if b=true then f δ else g δ
theorem iM (hc:DT X E c c1) (ha:DE X E a f) (hb:DE X E b g):DE X E (.IfExp c a b pos) (vIf c1 f g):=by
 refine PE.imp (cC hc ha hb) fun Z H Q ⟨G,δ,S,aft⟩=>?_
 refine Ve S aft fun d G1 H1 g1 S1 a1=>?_
 cases d with
 | true=>rw [if_pos rfl]; exact ⟨G1,δ,S1,a1⟩
 | false=>rw [if_neg (by decide)]; exact ⟨G1,δ,S1,a1⟩
end
end Sm
end
noncomputable section
namespace Sm
open PySem PySem.Spec PyProof.Rows L2
noncomputable section
variable {w:World} {K:PySem.W.Frag} {X:Cx} {k:Nat} {E:EK} {pos:Pos} {a b c e:Expr} {es:List Expr} {f g:Dn->Res PyData} {fs:Dn->Res (List PyData)}
def AftL (E:EK) (G H:Hp) (r:Res (List PyData)) (Q:List V->Hp->Prop):Prop:=match r with
 | .ok ds=>∀ vs G' H',Grow G H G' H'->RepL G' ds vs->Q vs H'
 | .exc c=>∀ G' H',Grow G H G' H'->E c H'
 | .no=>False
def tA (E:EK) (fs:Dn->Res (List PyData)):TA:=fun Z H Q=>∃ G δ,SR G H Z δ/\AftL E G H (fs δ) Q
structure DA (X:Cx) (E:EK) (es:List Expr) (n:Nat) (fs:Dn->Res (List PyData)):Prop where
 pa:PA X es (tA E fs)
 len:∀ δ ds,fs δ=.ok ds->ds.length=n
theorem PA.imp {X:Cx} {es:List Expr} {t t':TA} (h:PA X es t) (i:∀ Z H Q,t' Z H Q->t Z H Q):PA X es t':=fun p pins s Z H Q I q=>h p pins s Z H Q I (i _ _ _ q)
theorem AftL.grow {E:EK} {G H G' H':Hp} {r:Res (List PyData)} {Q:List V->Hp->Prop} (g:Grow G H G' H') (a:AftL E G H r Q):AftL E G' H' r Q:=by
 cases r with
 | ok d=>exact fun v G2 H2 g2 q=>a v G2 H2 (g.trans g2) q
 | exc c=>exact fun G2 H2 g2=>a G2 H2 (g.trans g2)
 | no=>exact a
theorem Ib {α:Type} {E:EK} {G H:Hp} {Z:St} {δ:Dn} {f:Dn->Res PyData} {k:PyData->Res α} {R:VK} {W:Hp->Hp->Res α->Prop} (S:SR G H Z δ) (a:W G H ((f δ).bind k)) (hg:∀ {G H G' H':Hp} {r:Res α},Grow G H G' H'->W G H r->W G' H' r)
   (hx:∀ c,W G H (.exc c)->∀ G' H',Grow G H G' H'->E c H') (hn:W G H .no->False)
   (h:∀ d v G1 H1,Grow G H G1 H1->Rep G1 d v->SR G1 H1 Z δ->W G1 H1 (k d)->R v H1):tD E f Z H R:=by
 refine ⟨G,δ,S,?_⟩
 cases e:f δ with
 | ok d=>rw [e] at a; exact fun v G' H' g r=>h d v G' H' g r (S.grow g) (hg g a)
 | exc c=>rw [e] at a; exact hx c a
 | no=>rw [e] at a; exact hn a
theorem Q0 {α:Type} {E:EK} {G H:Hp} {Z:St} {δ:Dn} {fs:Dn->Res (List PyData)} {k:List PyData->Res α} {R:List V->Hp->Prop} {W:Hp->Hp->Res α->Prop} (S:SR G H Z δ) (a:W G H ((fs δ).bind k)) (hg:∀ {G H G' H':Hp} {r:Res α},Grow G H G' H'->W G H r->W G' H' r)
   (hx:∀ c,W G H (.exc c)->∀ G' H',Grow G H G' H'->E c H') (hn:W G H .no->False)
   (h:∀ ds vs G1 H1,fs δ=.ok ds->Grow G H G1 H1->RepL G1 ds vs->SR G1 H1 Z δ->W G1 H1 (k ds)->R vs H1):tA E fs Z H R:=by
 refine ⟨G,δ,S,?_⟩
 cases e:fs δ with
 | ok d=>rw [e] at a; exact fun v G' H' g r=>h d v G' H' e g r (S.grow g) (hg g a)
 | exc c=>rw [e] at a; exact hx c a
 | no=>rw [e] at a; exact hn a
noncomputable def A9:Dn->Res (List PyData):=fun _=>.ok []
noncomputable def A0 (f:Dn->Res PyData) (fs:Dn->Res (List PyData)):Dn->Res (List PyData):=fun δ=>(f δ).bind fun d=>(fs δ).bind fun ds=>.ok (d::ds)
theorem B4:DA X E [] 0 A9:=⟨PA.imp Ai fun Z H Q ⟨G,δ,S,a⟩=>a [] G H (Grow.refl S.sub) rfl,fun δ ds e=>by cases e; rfl⟩
noncomputable def Ov:Expr->Bool
 | .Starred .. => false
 | _=>true
theorem Xx {a:Expr} {es:List Expr} {env:Env} (h:Ov a=true):starEach (a::es) env=(false,eval a env)::starEach es env:=by
 cases a <;> first | rfl | cases h
theorem A5 {n:Nat} (ha:DE X E a f) (hr:DA X E es n fs) (hs:Ov a=true:=by rfl):DA X E (a::es) (n+1) (A0 f fs):=by
 refine ⟨PA.imp (Q9 ha hr.pa (Xx hs)) fun Z H Q ⟨G,δ,S,aft⟩=>?_,fun δ ds e=>?_⟩
 . refine Ib (W:=fun G H r=>AftL E G H r Q) S aft (fun g a=>AftL.grow g a) (fun c a=>a) (fun a=>a) fun d v G1 H1 g1 r1 S1 a1=>?_
   refine Q0 (W:=fun G H r=>AftL E G H r Q) S1 a1 (fun g a=>AftL.grow g a) (fun c a=>a) (fun a=>a) fun ds vs G2 H2 e g2 r2 S2 a2=>?_
   exact a2 _ G2 H2 (Grow.refl S2.sub) (RepL.cons (r1.mono g2.g) r2)
 . unfold A0 at e
   cases h1:f δ with
   | ok d =>
     rw [h1] at e
     cases h2:fs δ with
     | ok ds' =>
       simp only [Res.bind,h2] at e; cases e; rw [List.length_cons,hr.len δ ds' h2]
     | exc c=>simp only [Res.bind,h2] at e; cases e
     | no=>simp only [Res.bind,h2] at e; cases e
   | exc c=>rw [h1] at e; cases e
   | no=>rw [h1] at e; cases e
noncomputable def E9 (fs:Dn->Res (List PyData)):Dn->Res PyData:=fun δ=>(fs δ).bind fun ds=>.ok (.tuple ds)
noncomputable def F3 (fs:Dn->Res (List PyData)):Dn->Res PyData:=fun δ=>(fs δ).bind fun ds=>.ok (.list ds)
theorem L5 {n x1:Nat} (h:DA X E es n fs) (hn:n<=sizeLine:=by decide):DE X E (.Tuple es x1 pos) (E9 fs):=by
 refine PE.imp (lG h.pa) fun Z H Q ⟨G,δ,S,aft⟩=>?_
 refine Q0 (W:=fun G H r=>Aft E G H r Q) S aft (fun g a=>Aft.grow g a) (fun c a=>a) (fun a=>a) fun ds vs G1 H1 e g1 r1 S1 a1=>?_
 refine ⟨by rw [<- r1.length,h.len δ ds e]; exact hn,fun p hp=>?_⟩
 exact a1 _ (upd G1 p (.tup vs)) _ (Grow.new S1.sub hp) ⟨p,vs,rfl,B7,r1.mono (Same.upd (S1.sub.free hp))⟩
def eX (E:EK) (G H:Hp) (r:Res (List PyData)) (Q:VK):Prop:=match r with
 | .ok ds=>∀ p xs G' H',Grow G H G' H'->H p=none->G' p=none->H' p=some (.lst xs)->RepL G' ds xs->Q (.ref p) H'
 | .exc c=>∀ G' H',Grow G H G' H'->E c H'
 | .no=>False
def tF (E:EK) (f:Dn->Res (List PyData)):TE:=fun Z H Q=>∃ G δ,SR G H Z δ/\eX E G H (f δ) Q
abbrev DF (X:Cx) (E:EK) (e:Expr) (f:Dn->Res (List PyData)):Prop:=PE X e (tF E f)
theorem Grow.share {G H G' H':Hp} {p:Addr} {o:HO} (g:Grow G H G' H') (hp:H p=none) (hg:G' p=none) (hH:H' p=some o):Grow G H (upd G' p o) H' :=
 ⟨g.g.trans (Same.upd hg),g.h,fun b u e=>by
   by_cases hb:b=p
   . subst hb; rw [B7] at e; cases e; exact hH
   . rw [B6 hb] at e; exact g.gh _ _ e,fun b u e=>by
   by_cases hb:b=p
   . subst hb; exact .inr (.inl hp)
   . rw [B6 hb] at e; exact g.fr _ _ e⟩
theorem L9 (h:DF X E e fs):DE X E e (F3 fs):=by
 refine PE.imp h fun Z H Q ⟨G,δ,S,aft⟩=>⟨G,δ,S,?_⟩
 unfold F3 at aft
 cases e:fs δ with
 | ok ds =>
   rw [e] at aft; exact fun p xs G' H' g hp hg hH r=>aft _ _ H' (g.share hp hg hH) ⟨p,xs,rfl,.inl B7,r.mono (Same.upd hg)⟩
 | exc c=>rw [e] at aft; exact aft
 | no=>rw [e] at aft; exact aft
theorem P5 {n:Nat} (h:DA X E es n fs) (hn:n<=sizeLine:=by decide):DF X E (.List es pos) fs:=by
 refine PE.imp (cB h.pa) fun Z H Q ⟨G,δ,S,aft⟩=>⟨G,δ,S,?_⟩
 cases e:fs δ with
 | ok ds =>
   rw [e] at aft; refine fun vs G1 H1 g1 r1=>⟨by rw [<- r1.length,h.len δ ds e]; exact hn,fun p hp=>?_⟩
   exact aft p vs G1 _ (g1.trans (Grow.own g1.gh hp)) (g1.h.free hp) (g1.gh.free hp) B7 r1
 | exc c=>rw [e] at aft; exact aft
 | no=>rw [e] at aft; exact aft
noncomputable def dIx:PyData->PyData->Option PyData
 | .list ds,.int i=>atI ds i
 | .tuple ds,.int i=>atI ds i
 | .str x,.int i=>(atI x.cps.toList i).map fun c=>.str ⟨#[c]⟩
 | _,_=>none
theorem Xh {G:Hp} {ds:List PyData} {xs:List V} {i:Int} {d:PyData} (r:RepL G ds xs) (e:atI ds i=some d):∃ x,atI xs i=some x/\Rep G d x:=by
 unfold atI at e ⊢
 rw [<- r.length]
 cases q:ixN ds.length i with
 | none=>rw [q] at e; cases e
 | some j=>rw [q] at e; exact r.get e
theorem lS:OpD (rIx K) dIx:=by
 intro G H x y a b d Q hG ra rb e q
 cases b with
 | int i =>
   cases (show _=_ from rb)
   cases a with
   | list ds =>
     obtain ⟨p,xs,rfl,h1,l1⟩:=ra; obtain ⟨v,e1,r1⟩:=Xh l1 e; exact .inl ⟨p,xs,i,v,rfl,rfl,.inl (Rd.mono hG h1),e1,q _ G H (Grow.refl hG) r1⟩
   | tuple ds =>
     obtain ⟨p,xs,rfl,h1,l1⟩:=ra; obtain ⟨v,e1,r1⟩:=Xh l1 e; exact .inr (.inl ⟨p,xs,i,v,rfl,rfl,.inl (.inl (hG _ _ h1)),e1,q _ G H (Grow.refl hG) r1⟩)
   | str z =>
     obtain ⟨e0,o1,l1⟩:=ra; subst e0; obtain ⟨cc,e1,rfl⟩:=Option.map_eq_some_iff.mp e; refine .inr (.inr ⟨z,i,cc,rfl,rfl,l1,e1,q _ G H (Grow.refl hG) ⟨rfl,?_,?_⟩⟩)
     . obtain ⟨j,_,h2,_⟩:=Ia e1
       have hm:cc∈z.cps.toList:=List.mem_of_getElem? h2; unfold PyData.strOk at *
       rw [<- Array.all_toList,List.all_eq_true] at o1; have:=o1 cc hm
       simpa using this
     . show 1<=sizeLine; decide
   | _=>cases e
 | _=>cases a <;> cases e
theorem D9 (ha:DE X E a f) (hb:DE X E b g) (hs:Xk b:=by exact fun _ _=>rfl):DE X E (.Subscript a b pos) (b2 f g dIx) :=
 PE.imp (pe_ix mM ha hb hs) fun _ _ _ h=>aI lS h
noncomputable def Dw (xs:List PyData) (lo hi:Option Int):List PyData:=(xs.drop (HT.sIx xs.length 0 lo)).take (HT.sIx xs.length xs.length hi - HT.sIx xs.length 0 lo)
noncomputable def Zh (d:PyData) (lo hi:Option Int):Option PyData:=match d with
 | .list ds=>some (.list (Dw ds lo hi))
 | .tuple ds=>some (.tuple (Dw ds lo hi))
 | _=>none
theorem Wx {G:Hp} {ds:List PyData} {xs:List V} (r:RepL G ds xs) (lo hi:Option Int):RepL G (Dw ds lo hi) (Zj xs lo hi):=by
 unfold Dw Zj
 rw [r.length]
 exact (r.drop _).take _
noncomputable def rSlD:V->Option Int->Option Int->Hp->VK->Prop:=fun x lo hi H Q=>∃ G a d,Same G H/\Rep G a x/\Zh a lo hi=some d/\∀ v G' H',Grow G H G' H'->Rep G' d v->Q v H'
theorem Cs {prog:Program} {w:World} {A:Around} {E:Value->Shared->Prop} {s:Shared} {t sl:Addr} {items:Array Value} {vl vu:Value} {lo hi:Option Int} {Q:Value->Shared->Prop} (ht:IsTup s.heap t items) (hs:s.heap.IsSliceOf sl vl vu .none) (pl:IsPart vl lo) (pu:IsPart vu hi)
   (hw:HT.sIx items.size 0 lo=0/\HT.sIx items.size items.size hi=items.size) (h:Q (.ref t) s):wpAny (model prog w) A (getItem (.ref t) (.ref sl)) Q E s:=by
 obtain ⟨os,hos,hcs,hds⟩:=id hs
 have hTs:s.TypeIs (.ref sl) "slice" := ⟨os,hos,hcs⟩
 unfold getItem
 try with_reducible refine wpAny_holding ?_
 first | refine wpAny_bind (wpAny_pure ?_) | skip
 refine wpAny_bind (wpAny_sequenceKey ht.typeIs (by decide) ?_)
 refine wpAny_bind (wpAny_callSpecial?_slot (name:=Str.ofString "__getitem__") ht.typeIs PyProof.Rows.slot_tuple_getitem
   (wpAny_call_entry PyProof.Rows.slot_tuple_getitem ht.typeIs entry_tuple_getitem ?_ (args_tuple_getitem _ _)))
 show wpAny _ _ (Builtin.Tuple.tupleItemsOf (.ref t)>>=_) _ _ s
 refine wpAny_bind (tupleItemsOf_ ht ?_)
 refine wpAny_bind (wpAny_typeOf hTs ?_)
 rw [if_pos (by decide)]
 refine wpAny_bind (HT.sliceApplied_gen hs pl pu ?_)
 show wpAny _ _ (if (((HT.sIx items.size 0 lo:Nat):Int)==0&&(1:Int)==1&&(HT.sIx items.size items.size hi - HT.sIx items.size 0 lo)==items.size)=true then _ else _) _ _ s
 rw [if_pos (by rw [hw.1,hw.2]; simp)]
 unfold Builtin.Tuple.tupleIsExact
 refine wpAny_bind (wpAny_bind (wpAny_typeOf ht.typeIs (wpAny_pure ?_)))
 rw [if_pos (by decide)]
 first
   | exact wpAny_bind (wpAny_rule (wpAny_pure ⟨_,rfl,wpAny_pure h⟩))
   | exact wpAny_bind (wpAny_rule (wpAny_bind (wpAny_pure (wpAny_pure ⟨_,rfl,wpAny_pure h⟩))))
theorem sl_D:SlR X rSlD:=by
 intro pins s Z H x v vl vu lo hi sl Q I rx hs pl pu ⟨G,a,d,hG,ra,e,q⟩
 cases a with
 | list ds =>
   cases e; obtain ⟨p,xs,rfl,h1,l1⟩:=ra; cases rx; obtain ⟨z,its,n,r,e1⟩:=V3 I hG h1; have hlen:=r.length; have hl:s.heap.IsList p its.toArray:=⟨_,e1,rfl,n,rfl⟩; refine ⟨"list",_,slot_list_getitem.lookup,hl.typeIs,?_⟩; refine wpAny_getItem_list_slice hl hs pl pu .none (by simp) ?_ (by rw [List.size_toArray] <;> omega)
   rw [Cw,<- hlen]; exact Pi (t':=s.toks) I hG ((r.drop (HT.sIx xs.length 0 lo)).take (HT.sIx xs.length xs.length hi - HT.sIx xs.length 0 lo)) (Wx l1 lo hi) (Nat.le_trans (Cj xs lo hi) z) q
 | tuple ds =>
   cases e; obtain ⟨p,xs,rfl,h1,l1⟩:=ra; cases rx; obtain ⟨z,its,r,ht⟩:=Fk I hG h1; have hlen:its.toArray.size=xs.length:=by rw [List.size_toArray]; exact r.length.symm
   refine ⟨"tuple",_,PyProof.Rows.slot_tuple_getitem.lookup,ht.typeIs,?_⟩
   by_cases hw:HT.sIx xs.length 0 lo=0/\HT.sIx xs.length xs.length hi=xs.length
   . refine Cs ht hs pl pu (by rw [hlen]; exact hw) ⟨.ref p,H,I,rfl,q _ G H (Grow.refl hG) ⟨p,xs,rfl,h1,?_⟩⟩
     have:Dw ds lo hi=ds:=by
       unfold Dw; rw [l1.length,hw.1,hw.2,List.drop_zero,Nat.sub_zero,<- l1.length,List.take_length]
     rw [this]; exact l1
   . refine HT.getItem_tuple_cut ht hs pl pu (by rw [hlen]; exact hw) ?_ (by rw [hlen]; exact z)
     rw [hlen]; exact Wv (t':=s.toks) I hG ((r.drop (HT.sIx xs.length 0 lo)).take (HT.sIx xs.length xs.length hi - HT.sIx xs.length 0 lo)) (Wx l1 lo hi) (Nat.le_trans (Cj xs lo hi) z) q
 | _=>cases e
def AftO (E:EK) (G H:Hp) (r:Res (Option Int)) (Q:Option Int->Hp->Prop):Prop:=match r with
 | .ok ds=>∀ G' H',Grow G H G' H'->Q ds H'
 | .exc c=>∀ G' H',Grow G H G' H'->E c H'
 | .no=>False
def tO (E:EK) (f:Dn->Res (Option Int)):TO:=fun Z H Q=>∃ G δ,SR G H Z δ/\AftO E G H (f δ) Q
abbrev DO (X:Cx) (E:EK) (e:Option Expr) (f:Dn->Res (Option Int)):Prop:=PO X e (tO E f)
theorem PO.imp {X:Cx} {e:Option Expr} {t t':TO} (h:PO X e t) (i:∀ Z H Q,t' Z H Q->t Z H Q):PO X e t':=fun pins s Z H Q I q=>h pins s Z H Q I (i _ _ _ q)
noncomputable def Cf:Dn->Res (Option Int):=fun _=>.ok none
noncomputable def An (f:Dn->Res PyData):Dn->Res (Option Int):=fun δ=>(f δ).bind fun d=>match d with
 | .int i=>.ok (some i)
 | _=>.no
theorem AftO.grow {E:EK} {G H G' H':Hp} {r:Res (Option Int)} {Q:Option Int->Hp->Prop} (g:Grow G H G' H') (a:AftO E G H r Q):AftO E G' H' r Q:=by
 cases r with
 | ok d=>exact fun G2 H2 g2=>a G2 H2 (g.trans g2)
 | exc c=>exact fun G2 H2 g2=>a G2 H2 (g.trans g2)
 | no=>exact a
theorem Kc:DO X E none Cf:=PO.imp gK fun Z H Q ⟨G,δ,S,a⟩=>a G H (Grow.refl S.sub)
theorem Kb (h:DE X E e f):DO X E (some e) (An f):=by
 refine PO.imp (gJ h) fun Z H Q ⟨G,δ,S,aft⟩=>?_
 refine Ib (W:=fun G H r=>AftO E G H r Q) S aft (fun g a=>AftO.grow g a) (fun c a=>a) (fun a=>a) fun d v G1 H1 g1 r1 S1 a1=>?_
 cases d with
 | int i=>exact ⟨i,r1,a1 G1 H1 (Grow.refl S1.sub)⟩
 | _=>exact (show False from a1).elim
theorem Ex {α:Type} {E:EK} {G H:Hp} {Z:St} {δ:Dn} {fs:Dn->Res (Option Int)} {k:Option Int->Res α} {R:Option Int->Hp->Prop} {W:Hp->Hp->Res α->Prop} (S:SR G H Z δ) (a:W G H ((fs δ).bind k)) (hg:∀ {G H G' H':Hp} {r:Res α},Grow G H G' H'->W G H r->W G' H' r)
   (hx:∀ c,W G H (.exc c)->∀ G' H',Grow G H G' H'->E c H') (hn:W G H .no->False)
   (h:∀ ds G1 H1,Grow G H G1 H1->SR G1 H1 Z δ->W G1 H1 (k ds)->R ds H1):tO E fs Z H R:=by
 refine ⟨G,δ,S,?_⟩
 cases e:fs δ with
 | ok d=>rw [e] at a; exact fun G' H' g=>h d G' H' g (S.grow g) (hg g a)
 | exc c=>rw [e] at a; exact hx c a
 | no=>rw [e] at a; exact hn a
noncomputable def vSl (f:Dn->Res PyData) (lo hi:Dn->Res (Option Int)):Dn->Res PyData:=fun δ=>(f δ).bind fun x=>(lo δ).bind fun l=>(hi δ).bind fun u=>ofO (Zh x l u)
variable {lo hi:Option Expr} {fl fh:Dn->Res (Option Int)} {p2:Pos}
theorem Pk (he:DE X E e f) (hl:DO X E lo fl) (hu:DO X E hi fh):DE X E (.Subscript e (.Slice lo hi none p2) pos) (vSl f fl fh):=by
 refine PE.imp (Rh sl_D he hl hu) fun Z H Q ⟨G,δ,S,aft⟩=>?_
 refine M9 S aft fun d v G1 H1 g1 r1 S1 a1=>?_
 refine Ex (W:=fun G H r=>Aft E G H r Q) S1 a1 (fun g a=>Aft.grow g a) (fun c a=>a) (fun a=>a) fun l G2 H2 g2 S2 a2=>?_
 refine Ex (W:=fun G H r=>Aft E G H r Q) S2 a2 (fun g a=>Aft.grow g a) (fun c a=>a) (fun a=>a) fun u G3 H3 g3 S3 a3=>?_
 cases e:Zh d l u with
 | none=>rw [e] at a3; exact a3.elim
 | some z=>rw [e] at a3; exact ⟨G3,d,z,S3.sub,r1.mono (g2.g.trans g3.g),e,a3⟩
end
end Sm
end
noncomputable section
namespace Sm
open PySem PySem.Spec PyProof.Rows L2
noncomputable section
variable {P:Program} {w:World} {K:PySem.W.Frag} {mg:Str->Option Value} {base:Heap} {X:Cx} {N:List Str} {sc:Scope} {k:Nat} {df:Bool} {E:EK} {pos p:Pos} {a b c e:Expr} {es:List Expr} {f g:Dn->Res PyData} {fs:Dn->Res (List PyData)}
noncomputable def rCD (op:List PyData->Option PyData):List V->Hp->VK->Prop:=fun vs H Q=>∃ G ds d,Same G H/\RepL G ds vs/\op ds=some d/\∀ v G' H',Grow G H G' H'->Rep G' d v->Q v H'
noncomputable def vFn (fs:Dn->Res (List PyData)) (op:List PyData->Option PyData):Dn->Res PyData:=fun δ=>(fs δ).bind fun ds=>ofO (op ds)
theorem jD {op:List PyData->Option PyData} {Z:St} {H:Hp} {Q:VK} (h:tD E (vFn fs op) Z H Q):tCB (rCD op) (tA E fs) Z H Q:=by
 obtain ⟨G,δ,S,aft⟩:=h
 refine Q0 (W:=fun G H r=>Aft E G H r Q) S aft (fun g a=>Aft.grow g a) (fun c a=>a) (fun a=>a) fun ds vs G1 H1 e g1 r1 S1 a1=>?_
 cases e:op ds with
 | none=>rw [e] at a1; exact a1.elim
 | some d=>rw [e] at a1; exact ⟨G1,ds,d,S1.sub,r1,e,a1⟩
theorem eE {x:Str} {id:String} {n:Nat} {op:List PyData->Option PyData} (C:Cxt P w K mg base X N sc k df) (hc:Aw X (.builtin id) (rCD op)) (h:okGl sc x=true) (hm:mg x=none) (hv:bootBuiltins x=some (.builtin id)) (ha:DA X E (e::es) n fs)
   (he:starEach (e::es) X.env=(false,eval e X.env)::starEach es X.env:=by rfl) (hpl:(backTo pos (starEach es X.env)).any (·.1)=false:=by rfl):DE X E (.Call (.Name x p) (e::es) [] pos) (vFn fs op):=by
 obtain ⟨h1,h2,h3⟩:=okGl.gl C h
 exact PE.imp (Ri hc h1 (by rw [C.hmg]; exact hm) hv ha.pa h3 h2 he hpl) fun _ _ _ q=>jD q
theorem Sv {x:Str} {T:String} {n:Nat} {op:List PyData->Option PyData} (C:Cxt P w K mg base X N sc k df) (hc:Aw X (.type T) (rCD op)) (h:okGl sc x=true) (hm:mg x=none) (hv:bootBuiltins x=some (.type T)) (ha:DA X E (e::es) n fs)
   (he:starEach (e::es) X.env=(false,eval e X.env)::starEach es X.env:=by rfl) (hpl:(backTo pos (starEach es X.env)).any (·.1)=false:=by rfl):DE X E (.Call (.Name x p) (e::es) [] pos) (vFn fs op):=by
 obtain ⟨h1,h2,h3⟩:=okGl.gl C h
 exact PE.imp (Fm hc h1 (by rw [C.hmg]; exact hm) hv ha.pa h3 h2 he hpl) fun _ _ _ q=>jD q
theorem Lq {G:Hp} {d:PyData} {vs:List V} (r:RepL G [d] vs):∃ v,vs=[v]/\Rep G d v:=by
 obtain ⟨x,t,rfl,h,l⟩:=r; cases (show _=_ from l); exact ⟨x,rfl,h⟩
theorem bM {G:Hp} {d d':PyData} {vs:List V} (r:RepL G [d,d'] vs):∃ v v',vs=[v,v']/\Rep G d v/\Rep G d' v':=by
 obtain ⟨x,t,rfl,h,l⟩:=r
 obtain ⟨y,rfl,h'⟩:=Lq l
 exact ⟨x,y,rfl,h,h'⟩
noncomputable def L6:List PyData->Option PyData
 | [.list ds]=>some (.int ds.length)
 | [.tuple ds]=>some (.int ds.length)
 | [.str x]=>some (.int x.length)
 | _=>none
theorem Uw:Aw X (.builtin "len") (rCD L6):=by
 intro pins s Z H xs us Q I r ⟨G,ds,d,hG,rl,e,q⟩
 unfold L6 at e
 split at e
 . rename_i ys
   cases e; obtain ⟨v,rfl,a,vs,rfl,h1,l1⟩:=Lq rl; exact Kq pins s Z H _ us Q I r ⟨_,ys.length,rfl,.inl ⟨vs,.inl (Rd.mono hG h1),l1.length⟩,q _ G H (Grow.refl hG) rfl⟩
 . rename_i ys
   cases e; obtain ⟨v,rfl,a,vs,rfl,h1,l1⟩:=Lq rl; exact Kq pins s Z H _ us Q I r ⟨_,ys.length,rfl,.inr ⟨vs,.inl (.inl (hG _ _ h1)),l1.length⟩,q _ G H (Grow.refl hG) rfl⟩
 . rename_i x
   cases e; obtain ⟨v,rfl,r1⟩:=Lq rl
   cases r1.1
   exact Kq pins s Z H _ us Q I r ⟨_,x.length,rfl,⟨r1.2.2,rfl⟩,q _ G H (Grow.refl hG) rfl⟩
 . cases e
theorem Y4 {n:Nat} (C:Cxt P w K mg base X N sc k df) (h:okGl sc "len" = true) (hm:mg "len" = none) (ha:DA X E (e::es) n fs)
   (he:starEach (e::es) X.env=(false,eval e X.env)::starEach es X.env:=by rfl) (hpl:(backTo pos (starEach es X.env)).any (·.1)=false:=by rfl):DE X E (.Call (.Name "len" p) (e::es) [] pos) (vFn fs L6) :=
 eE C Uw h hm PySem.boot_len ha he hpl
noncomputable def Xd:List PyData->Option (List Bool)
 | []=>some []
 | .bool b::ds=>(Xd ds).map (b::·)
 | _::_=>none
noncomputable def dAll:List PyData->Option PyData
 | [.list ds]=>(Xd ds).map fun bs=>.bool (bs.all id)
 | _=>none
noncomputable def dListF:List PyData->Option PyData
 | [.list ds]=>some (.list ds)
 | [.tuple ds]=>some (.list ds)
 | _=>none
noncomputable def Ci:List PyData->Option PyData
 | [.list ds]=>some (.tuple ds)
 | [.tuple ds]=>some (.tuple ds)
 | _=>none
noncomputable def Ng:List PyData->Option PyData
 | [.int i]=>some (.int i)
 | [.bool b]=>some (.int (if b then 1 else 0))
 | _=>none
theorem Uv:Aw X (.type "tuple") (rCD Ci):=by
 intro pins s Z H xs us Q I r ⟨G,ds,d,hG,rl,e,q⟩
 unfold Ci at e
 split at e
 . rename_i ys
   cases e; obtain ⟨v,rfl,a,vs,rfl,h1,l1⟩:=Lq rl; exact Df pins s Z H _ us Q I r ⟨a,vs,rfl,.inl ⟨.inl (Rd.mono hG h1),fun l hl=>q _ (upd G l (.tup vs)) _ (Grow.new hG hl) ⟨l,vs,rfl,B7,l1.mono (Same.upd (hG.free hl))⟩⟩⟩
 . rename_i ys
   cases e; obtain ⟨v,rfl,a,vs,rfl,h1,l1⟩:=Lq rl; exact Df pins s Z H _ us Q I r ⟨a,vs,rfl,.inr ⟨.inl (.inl (hG _ _ h1)),q _ G H (Grow.refl hG) ⟨a,vs,rfl,h1,l1⟩⟩⟩
 . cases e
theorem Ux:Aw X (.type "int") (rCD Ng):=by
 intro pins s Z H xs us Q I r ⟨G,ds,d,hG,rl,e,q⟩
 unfold Ng at e
 split at e
 . rename_i i
   cases e; obtain ⟨v,rfl,e1⟩:=Lq rl
   cases (show _=_ from e1)
   exact Nj pins s Z H _ us Q I r (.inl ⟨i,rfl,q _ G H (Grow.refl hG) rfl⟩)
 . rename_i b
   cases e; obtain ⟨v,rfl,e1⟩:=Lq rl
   cases (show _=_ from e1)
   refine Nj pins s Z H _ us Q I r (.inr ⟨b,rfl,?_⟩); have:=q (.int (if b then 1 else 0)) G H (Grow.refl hG) rfl
   cases b <;> exact this
 . cases e
theorem Us {n:Nat} (C:Cxt P w K mg base X N sc k df) (h:okGl sc "tuple" = true) (hm:mg "tuple" = none) (ha:DA X E (e::es) n fs)
   (he:starEach (e::es) X.env=(false,eval e X.env)::starEach es X.env:=by rfl) (hpl:(backTo pos (starEach es X.env)).any (·.1)=false:=by rfl):DE X E (.Call (.Name "tuple" p) (e::es) [] pos) (vFn fs Ci) :=
 Sv C Uv h hm (by decide +kernel) ha he hpl
theorem mV {n:Nat} (C:Cxt P w K mg base X N sc k df) (h:okGl sc "int" = true) (hm:mg "int" = none) (ha:DA X E (e::es) n fs)
   (he:starEach (e::es) X.env=(false,eval e X.env)::starEach es X.env:=by rfl) (hpl:(backTo pos (starEach es X.env)).any (·.1)=false:=by rfl):DE X E (.Call (.Name "int" p) (e::es) [] pos) (vFn fs Ng) :=
 Sv C Ux h hm (by decide +kernel) ha he hpl
noncomputable def Ay:List PyData->Option (List Str)
 | []=>some []
 | .str b::ds=>(Ay ds).map (b::·)
 | _::_=>none
noncomputable def Nf (x:Str):PyData->Option PyData
 | .list ds=>(Ay ds).bind fun ys=>if (ys.map (·.length)).sum+ys.length*x.length<=16777216/\PyData.strOk (Str.join x ys)=true/\(Str.join x ys).length<=sizeLine then some (.str (Str.join x ys)) else none
 | _=>none
theorem Qi {G:Hp}:∀ {ds:List PyData} {xs:List V} {us:List Value} {ys:List Str},RepL G ds xs->Vals xs us->Ay ds=some ys->StrsAre us ys
 | [],_,_,_,r,q,e=>by cases (show _=_ from r); cases q; cases e; exact .nil
 | .str b::ds,_,_,_,r,q,e=>by
   obtain ⟨x,t,rfl,h,l⟩:=r
   cases h.1
   cases q with
   | cons q qs =>
     obtain ⟨tk,rfl⟩:=q; obtain ⟨bs,e1,rfl⟩:=Option.map_eq_some_iff.mp e; exact .cons _ _ (Qi l qs e1)
 | .none::_,_,_,_,_,_,e=>by cases e
 | .int _::_,_,_,_,_,_,e=>by cases e
 | .bool _::_,_,_,_,_,_,e=>by cases e
 | .list _::_,_,_,_,_,_,e=>by cases e
 | .tuple _::_,_,_,_,_,_,e=>by cases e
 | .dict _::_,_,_,_,_,_,e=>by cases e
theorem hE:MtR X "str.join" (fun x vs H Q=>∃ G z v d r,Same G H/\x=.str z/\vs=[v]/\Rep G d v/\Nf z d=some (.str r)/\Q (.str r) H):=by
 intro pins s Z H x vs v us Q I rx rv ⟨G,z,y,d,r,hG,e1,e2,rd,e,q⟩
 subst e1 e2
 obtain ⟨t,rfl⟩:=rx
 obtain ⟨u,rfl,ru⟩:=rv.one
 cases d with
 | list ds =>
   obtain ⟨ys,e3,e4⟩:=Option.bind_eq_some_iff.mp e
   split at e4
   . rename_i hc
     cases e4; obtain ⟨l,xs,rfl,h1,l1⟩:=rd; cases ru; obtain ⟨zz,its,n,rv2,e5⟩:=V3 I hG h1; refine join_list ⟨_,e5,rfl,n,rfl⟩ (by simpa using Qi l1 rv2 e3) hc.1 fun t' k=>⟨.str _,H,I.tok _,⟨t',?_⟩,q⟩
     rw [eq_of_beq (join_plain_closes z ys)]
   . cases e4
 | _=>cases e
noncomputable def Mb (x:Str) (f:Dn->Res PyData):Dn->Res PyData:=fun δ=>(f δ).bind fun d=>ofO (Nf x d)
theorem Zf {z:Str} {d d':PyData} (e:Nf z d=some d'):∃ r,d'=.str r/\PyData.strOk r=true/\r.length<=sizeLine:=by
 cases d with
 | list ds =>
   obtain ⟨ys,e3,e4⟩:=Option.bind_eq_some_iff.mp e
   split at e4
   . rename_i hc; cases e4; exact ⟨_,rfl,hc.2.1,hc.2.2⟩
   . cases e4
 | _=>cases e
theorem eC {z:Str} {j:Nat} {p1 apos cpos:Pos} (ha:DE X E a f) (hbase:attributeBase (.Constant (.str z) j p1) "join" X.env (eval (.Constant (.str z) j p1) X.env)=eval (.Constant (.str z) j p1) X.env:=by rfl)
   (hfew:((backTo cpos (starEach [a] X.env)).all (fun x => !x.1)&&(backToKw cpos (keywordEach [] X.env)).all (fun x=>x.1.isSome)
     && decide ([a].length+([]:List Keyword).length+(if ([]:List Keyword).isEmpty then 0 else 1) < 30))=true:=by rfl)
   (hline:(apos.endLine==cpos.line)=true:=by rfl) (hs:starEach [a] X.env=(false,eval a X.env)::starEach [] X.env:=by rfl) (hplain:(backTo cpos (starEach [] X.env)).any (·.1)=false:=by rfl) :
   DE X E (.Call (.Attribute (.Constant (.str z) j p1) "join" apos) [a] [] cpos) (Mb z f):=by
 refine PE.imp (Wc PySem.F.plainAttrs_str PySem.F.slot_str_join PySem.F.type_str_join hE bX (Q9 ha Ai hs) hbase hfew hline hs hplain) fun Z H Q ⟨G,δ,S,aft⟩=>⟨rfl,?_⟩
 refine M9 S aft fun d v G1 H1 g1 r1 S1 a1=>?_
 cases e:Nf z d with
 | none=>rw [e] at a1; exact a1.elim
 | some d' =>
   obtain ⟨r,rfl,o1,o2⟩:=Zf e; rw [e] at a1; exact ⟨G1,z,v,d,r,S1.sub,rfl,rfl,r1,e,a1 _ G1 H1 (Grow.refl S1.sub) ⟨rfl,o1,o2⟩⟩
def spD (n:Nat) (m:List PyData->Res PyData):Sp:=fun vs H Q _=>∃ G ds d,Same G H/\RepL G ds vs/\ds.length=n/\m ds=.ok d/\∀ v G' H',Grow G H G' H'->Rep G' d v->Q v H'
structure Fn (P:Program) (w:World) (K:PySem.W.Frag) (mg:Str->Option Value) (base:Heap) (x:Str) (k n:Nat) (m:List PyData->Res PyData):Prop where
 ex:∃ f fd ps,ps.length=n/\FnOk P w K mg base CX0 k f fd ps (spD n m)/\mg x=some (.ref f)/\PySem.W.keepIn K (.ref f)=true/\Binds K fd ps []
def E0k:EK:=fun _ _=>False
noncomputable def C2 (fs:Dn->Res (List PyData)) (m:List PyData->Res PyData):Dn->Res PyData:=fun δ=>(fs δ).bind m
theorem C7 {x:Str} {j n:Nat} {m:List PyData->Res PyData} (C:Cxt P w K mg base X N sc k df) (F:Fn P w K mg base x j n m) (hj:j<=k) (h:okGl sc x=true) (ha:DA X E0k (e::es) n fs)
   (he:starEach (e::es) X.env=(false,eval e X.env)::starEach es X.env:=by rfl) (hpl:(backTo pos (starEach es X.env)).any (·.1)=false:=by rfl):DE X E0k (.Call (.Name x p) (e::es) [] pos) (C2 fs m):=by
 obtain ⟨f,fd,ps,hps,F,hm,hk,hb⟩:=F.ex
 obtain ⟨h1,h2,h3⟩:=okGl.gl C h
 have F':FnOk X.prog X.w X.K X.mg X.base CX0 j f fd ps (spD n m):=by rw [C.hP,C.hw,C.hK,C.hmg,C.hb]; exact F
 refine PE.imp (Ot F' (C.room.mono hj) h1 (by rw [C.hmg]; exact hm) (by rw [C.hK]; exact hk) (by rw [C.hK]; exact hb) .nil (cG (X:=X)) ha.pa h2 he hpl) fun Z H Q ⟨G,δ,S,aft⟩=>?_
 refine Q0 (W:=fun G H r=>Aft E0k G H r Q) S aft (fun g a=>Aft.grow g a) (fun c a=>a) (fun a=>a) fun ds vs G1 H1 e g1 r1 S1 a1=>?_
 rw [List.append_nil]
 cases q:m ds with
 | ok d=>rw [q] at a1; exact ⟨G1,ds,d,S1.sub,r1,ha.len δ ds e,q,a1⟩
 | exc c=>rw [q] at a1; exact (a1 G1 H1 (Grow.refl S1.sub)).elim
 | no=>rw [q] at a1; exact a1.elim
end
end Sm
end
noncomputable section
namespace Sm
open PySem PySem.Spec PyProof.Rows L2
def Its (z:Str):It:=⟨fun i _=>i < z.cps.size,fun i H x H'=>H'=H/\∃ c,z.cps[i]? = some c/\x=.str ⟨#[c]⟩,fun i _=>z.cps.size<=i⟩
theorem Tq {P:Program} {w:World} {K:PySem.W.Frag} {tg:Expr} (it:Addr) (z:Str) (t:Tok):Turn P w K tg (Its z) [it] it (fun i h=>h.IsStrIter it "str_ascii_iterator" z t i) where
 mem:=by simp
 obj:=fun i h st b hb=>by
   have e:b=it:=by simpa using hb
   subst e; obtain ⟨o,e,c,d⟩:=st; exact ⟨o,e,fun v z=>by rw [d] at z; cases z⟩
 keep:=fun i h h' st k=>by
   obtain ⟨o,e,c,d⟩:=st; exact ⟨o,k it (by simp) o e,c,d⟩
 item:=by
   intro X hP hw hK hc i pins s Z H E I hf st hg; subst hP hw hK; obtain ⟨f0,f1,f2,f3,f4,f5⟩:=hf it (by simp)
   have hi:i < z.cps.size:=hg; refine wpAny_pyNext_ascii_item st (c:=z.cps[i]) (by simp [hi]) fun h' st' sb=>?_
   have I1:Inv X pins Z H { s with heap:=h',toks:=s.toks+1 }:=I.turned (fun b o hb e=>(sb.2 b hb).trans e) f0 f1 f3 f4 f5
   obtain ⟨o,e,c,d⟩:=id st'; exact ⟨_,rfl,Mz (s:={ s with heap:=h',toks:=s.toks+1 }) e c d (by decide) ⟨.str ⟨#[z.cps[i]]⟩,H,I1,⟨_,rfl⟩,⟨rfl,_,by simp [hi],rfl⟩,st',fun b hb=>(hf b hb).1⟩⟩
 done:=by
   intro X hP hw hK hc i pins s Z H E I hf st hg; subst hP hw hK; obtain ⟨f0,f1,f2,f3,f4,f5⟩:=hf it (by simp)
   have hi:z.cps.size<=i:=hg; exact wpAny_pyNext_ascii_end (I.ok.hd hc) st (by simpa using hi) fun h' eb=>⟨rfl,I.turned (t':=s.toks) (fun b o hb e=>eb b o hb e) f0 f1 f3 f4 f5⟩
 self:=fun _ _ _ _ _ st h=>wpAny_pyIter_striter_ascii st h
theorem Xr {P:Program} {w:World} {K:PySem.W.Frag} {tg:Expr} (it:Addr) (z:Str) (t:Tok):Turn P w K tg (Its z) [it] it (fun i h=>h.IsStrIter it "str_iterator" z t i) where
 mem:=by simp
 obj:=fun i h st b hb=>by
   have e:b=it:=by simpa using hb
   subst e; obtain ⟨o,e,c,d⟩:=st; exact ⟨o,e,fun v z=>by rw [d] at z; cases z⟩
 keep:=fun i h h' st k=>by
   obtain ⟨o,e,c,d⟩:=st; exact ⟨o,k it (by simp) o e,c,d⟩
 item:=by
   intro X hP hw hK hc i pins s Z H E I hf st hg; subst hP hw hK; obtain ⟨f0,f1,f2,f3,f4,f5⟩:=hf it (by simp)
   have hi:i < z.cps.size:=hg; refine wpAny_pyNext_wide_item st (c:=z.cps[i]) (by simp [hi]) fun h' st' sb=>?_
   have I1:Inv X pins Z H { s with heap:=h',toks:=s.toks+1 }:=I.turned (fun b o hb e=>(sb.2 b hb).trans e) f0 f1 f3 f4 f5
   obtain ⟨o,e,c,d⟩:=id st'; exact ⟨_,rfl,Mz (s:={ s with heap:=h',toks:=s.toks+1 }) e c d (by decide) ⟨.str ⟨#[z.cps[i]]⟩,H,I1,⟨_,rfl⟩,⟨rfl,_,by simp [hi],rfl⟩,st',fun b hb=>(hf b hb).1⟩⟩
 done:=by
   intro X hP hw hK hc i pins s Z H E I hf st hg; subst hP hw hK; obtain ⟨f0,f1,f2,f3,f4,f5⟩:=hf it (by simp)
   have hi:z.cps.size<=i:=hg; exact wpAny_pyNext_wide_end (I.ok.hd hc) st (by simpa using hi) fun h' eb=>⟨rfl,I.turned (t':=s.toks) (fun b o hb e=>eb b o hb e) f0 f1 f3 f4 f5⟩
 self:=fun _ _ _ _ _ st h=>wpAny_pyIter_striter_wide st h
def Ite (K:PySem.W.Frag) (a:Addr):It :=
 ⟨fun i H=>∃ xs x,SqL K H a xs/\xs[i]? = some x,fun i H x H'=>∃ p y,H p=none/\x=.ref p/\H'=upd H p (.tup [.int i,y])/\∀ xs,SqL K H a xs->xs[i]? = some y,fun i H=>∃ xs,SqL K H a xs/\xs.length<=i⟩
theorem Xt {P:Program} {w:World} {K:PySem.W.Frag} {elts:List Expr} {x1:Nat} {tp:Pos} (a e it:Addr) (hne:e≠it):Turn P w K (.Tuple elts x1 tp) (Ite K a) [e,it] e (fun i h=>(∃ old,IsEnum h e it (i:Int) old)/\h.IsListIter it a i) where
 mem:=by simp
 obj:=fun i h st b hb=>by
   obtain ⟨⟨old,h1⟩,o,h2,c,d⟩:=st; rcases List.mem_cons.mp hb with rfl | hb
   . exact ⟨_,h1,fun v z=>by cases z⟩
   . have e':b=it:=by simpa using hb
     subst e'; exact ⟨o,h2,fun v z=>by rw [d] at z; cases z⟩
 keep:=fun i h h' st k=>by
   obtain ⟨⟨old,h1⟩,o,h2,c,d⟩:=st; exact ⟨⟨old,k e (by simp) _ h1⟩,o,k it (by simp) o h2,c,d⟩
 item:=by
   intro X hP hw hK hc i pins s Z H E I hf st hg; subst hP hw hK; obtain ⟨⟨old,he⟩,st⟩:=st; obtain ⟨xs,x,hq,hx⟩:=hg; obtain ⟨its,rv,p,hz⟩:=I.list hq; obtain ⟨u,hu,ru⟩:=rv.get hx; obtain ⟨f0,f1,f2,f3,f4,f5⟩:=hf e (by simp)
   obtain ⟨g0,g1,g2,g3,g4,g5⟩:=hf it (by simp)
   refine wpAny_pyNext_enum_item he st p.isList (x:=u) (by simpa using hu) hne fun h' he' st' ht' hsz kp=>?_
   refine ⟨_,rfl,wpAny_letOwnedTupleGo_enum he' fun h2 he2 sb=>?_⟩
   have hfr:H s.heap.objs.size=none:=I.fresh; have elt:e < s.heap.objs.size:=Heap.lt_size he; have ilt:it < s.heap.objs.size:=by obtain ⟨o,h,_⟩:=st; exact Heap.lt_size h
   have kp2:∀ b o,b≠e->b≠it->s.heap.get? b=some o->h2.get? b=some o:=fun b o h1 h3 q=>(sb.2 b h1).trans (kp b o h1 h3 q)
   have I1:Inv X pins Z H { s with heap:=h2,toks:=s.toks+1 }:=by
     refine I.step (g':=s.gens) (d':=s.drawn) (ch:=[e,it]) (fun b hb=>?_) (fun b o _ _ hcb q _=>kp2 b o (fun z=>hcb (by simp [z])) (fun z=>hcb (by simp [z])) q) (fun b o _ _ hcb q _=>⟨o.slots,kp2 b o (fun z=>hcb (by simp [z])) (fun z=>hcb (by simp [z])) q⟩) (fun _ _ _ _ n=>n)
       (fun b o hcb q=>⟨o,kp2 b o (fun z=>hcb (by simp [z])) (fun z=>hcb (by simp [z])) q⟩) (fun _ _ q=>q) (fun _ _ _ q=>q) (fun b ps q=>⟨#[],by rw [q]; simp⟩) (fun m hm=>?_) (fun b u' q=>?_) I.bare
     . rcases List.mem_cons.mp hb with rfl | hb
       . exact ⟨f3,f1,f4,f5⟩
       . have e':b=it:=by simpa using hb
         subst e'; exact ⟨g3,g1,g4,g5⟩
     . obtain ⟨o,es,ep,ho,r⟩:=hm
       exact ⟨o,es,ep,kp2 _ o (Ne.symm f1) (Ne.symm g1) ho,r⟩
     . refine (I.hok b u' q).stay (fun c v hcc q'=>kp2 c v ?_ ?_ q') (fun _ q'=>q') fun _ _ q'=>q'
       . rintro rfl
         rcases hcc with z | z
         . subst z; rw [f0] at q; cases q
         . rw [f0] at z; cases z
       . rintro rfl
         rcases hcc with z | z
         . subst z; rw [g0] at q; cases q
         . rw [g0] at z; cases z
   have htt:h2.get? s.heap.objs.size=some { cls:=.type "tuple",data:=.seq #[.int i s.toks,u] }:=(sb.2 _ (Nat.ne_of_gt elt)).trans ht'; have Hold:∀ b o,H b=some o->b≠s.heap.objs.size:=fun b o q z=>by subst z; rw [hfr] at q; cases q
   have I2:Inv X pins Z (upd H s.heap.objs.size (.tup [.int i,x])) { s with heap:=h2,toks:=s.toks+1 }:=by
     have nb:∀ b o,b≠s.heap.objs.size->s.heap.get? b=some o->True:=fun _ _ _ _=>trivial
     have base':Un X.fs X.ex X.H₀ (upd H s.heap.objs.size (.tup [.int i,x])) X.s₀.heap h2:=by
       have B:=I1.base; have ne0:∀ b o,X.s₀.heap.get? b=some o->b≠s.heap.objs.size:=fun b o q=>Nat.ne_of_lt (Nat.lt_of_lt_of_le (Heap.lt_size q) I.sz)
       exact ⟨B.keep,B.slot,fun b o q n hx=>by rw [B6 (ne0 b o q)]; exact B.free b o q n hx,B.there,
         fun b ys q=>by rw [B6 (Hold b _ (B.tups b ys q))]; exact B.tups b ys q,fun b o' u' q=>by rw [B6 (Hold b _ (B.frzs b o' u' q))]; exact B.frzs b o' u' q,
         fun b ps q=>by obtain ⟨m,q'⟩:=B.tbls b ps q; exact ⟨m,by rw [B6 (Hold b _ q')]; exact q'⟩⟩
     have hok':HOk X.prog X.w (upd H s.heap.objs.size (.tup [.int i,x])) h2:=fun b o q=>by
       by_cases hb:b=s.heap.objs.size
       . subst hb
         rw [B7] at q; cases q; refine ⟨by show 2<=sizeLine; decide,[.int i s.toks,u],.cons ⟨_,rfl⟩ (.cons ru .nil),⟨_,htt,rfl,0,rfl⟩⟩
       . rw [B6 hb] at q
         exact (I1.hok b o q).stay (fun _ _ _ q'=>q') (fun c q'=>by rw [B6 (Hold c _ q')]; exact q') fun c ys q'=>by rw [B6 (Hold c _ q')]; exact q'
     refine ⟨I1.ok,I1.os,I1.bare,base',I1.loc,I1.cell,?_,fun y c q=>?_,fun p hp=>?_,hok',I1.len⟩
     . rw [B6 (Nat.ne_of_lt I.lt)]; exact I1.free
     . obtain ⟨v,oc,hoc,_⟩:=I.cell y c q
       rw [B6 (Nat.ne_of_lt (Heap.lt_size hoc))]; exact I1.freeC y c q
     . obtain ⟨q1,q2,q3,q4,q5⟩:=I1.pin p hp
       refine ⟨q1,?_,q3,q4,q5⟩; rw [B6 (Nat.ne_of_lt (Heap.lt_size (I.pin p hp).1))]; exact q2
   refine ⟨.ref s.heap.objs.size,_,I2,rfl,⟨_,x,hfr,rfl,rfl,fun ys hy=>by rw [I.list_inj hy hq]; exact hx⟩,⟨⟨_,by push_cast; exact he2⟩,?_⟩,fun b hb=>?_⟩
   . obtain ⟨o,q,c,d⟩:=st'
     exact ⟨o,(sb.2 it (Ne.symm hne)).trans q,c,d⟩
   . rcases List.mem_cons.mp hb with rfl | hb
     . rw [B6 (Nat.ne_of_lt elt)]; exact f0
     . have e':b=it:=by simpa using hb
       subst e'; rw [B6 (Nat.ne_of_lt ilt)]; exact g0
 done:=by
   intro X hP hw hK hc i pins s Z H E I hf st hg; subst hP hw hK; obtain ⟨⟨old,he⟩,st⟩:=st; obtain ⟨xs,hq,hx⟩:=hg; obtain ⟨its,rv,p,hz⟩:=I.list hq; obtain ⟨g0,g1,g2,g3,g4,g5⟩:=hf it (by simp)
   have hl:=rv.length; exact wpAny_pyNext_enum_end (I.ok.hd hc) he st p.isList (by simp; omega) fun h' eb=>⟨rfl,I.turned (t':=s.toks) (fun b o hb e=>eb b o hb e) g0 g1 g3 g4 g5⟩
 self:=fun _ _ _ _ _ st h=>by
   obtain ⟨⟨old,he⟩,_⟩:=st; exact wpAny_pyIter_enum he h
end Sm
end
noncomputable section
namespace Sm
open PySem PySem.Spec PyProof.Rows L2
structure Walk (J:It) (G:Hp) (ds:List PyData):Prop where
 go:∀ (i:Nat) (H:Hp),i < ds.length->Same G H->J.go i H
 yld:∀ (i:Nat) (d:PyData) (G2 H:Hp) (x:V) (H':Hp),ds[i]? = some d->Same G G2->Same G2 H->J.yld i H x H'->∃ G3,Grow G2 H G3 H'/\Rep G3 d x
 stop:∀ (i:Nat) (H:Hp),ds.length<=i->Same G H->J.stop i H
def AftI (E:EK) (G H:Hp) (r:Res (List PyData)) (R:It->Hp->Prop):Prop:=match r with
 | .ok ds=>∀ J G' H',Grow G H G' H'->Walk J G' ds->R J H'
 | .exc c=>∀ G' H',Grow G H G' H'->E c H'
 | .no=>False
def tI (E:EK) (f:Dn->Res (List PyData)):TI:=fun Z H R=>∃ G δ,SR G H Z δ/\AftI E G H (f δ) R
abbrev DI (X:Cx) (E:EK) (tg e:Expr) (f:Dn->Res (List PyData)):Prop:=PI X tg e (tI E f)
theorem AftI.grow {E:EK} {G H G' H':Hp} {r:Res (List PyData)} {Q:It->Hp->Prop} (g:Grow G H G' H') (a:AftI E G H r Q):AftI E G' H' r Q:=by
 cases r with
 | ok d=>exact fun v G2 H2 g2 q=>a v G2 H2 (g.trans g2) q
 | exc c=>exact fun G2 H2 g2=>a G2 H2 (g.trans g2)
 | no=>exact a
theorem PI.imp {X:Cx} {tg e:Expr} {t t':TI} (h:PI X tg e t) (i:∀ Z H Q,t' Z H Q->t Z H Q):PI X tg e t':=fun pins s Z H Q I q=>h pins s Z H Q I (i _ _ _ q)
noncomputable def Od (x:Str):List PyData:=x.cps.toList.map fun c=>.str ⟨#[c]⟩
noncomputable def E3:PyData->Res (List PyData)
 | .list ds=>.ok ds
 | .tuple ds=>.ok ds
 | .str x=>.ok (Od x)
 | _=>.no
theorem Xn {K:PySem.W.Frag} {G:Hp} {a:Addr} {xs:List V} {ds:List PyData} (h:Rd G a (.lst xs)) (l:RepL G ds xs):Walk (Itl K a) G ds where
 go:=fun i H hi hG=>by
   have hi':i < xs.length:=by rw [<- l.length]; exact hi
   exact ⟨xs,xs[i],.inl (Rd.mono hG h),by simp [hi']⟩
 yld:=fun i d G2 H x H' e h1 h2 hy=>by
   obtain ⟨rfl,hy⟩:=hy; obtain ⟨y,e1,r⟩:=l.get e; have:=hy xs (.inl (Rd.mono (h1.trans h2) h)); rw [e1] at this; cases this; exact ⟨G2,Grow.refl h2,r.mono h1⟩
 stop:=fun i H hi hG=>⟨xs,.inl (Rd.mono hG h),by rw [<- l.length]; exact hi⟩
theorem Zu {K:PySem.W.Frag} {G:Hp} {a:Addr} {xs:List V} {ds:List PyData} (h:G a=some (.tup xs)) (l:RepL G ds xs):Walk (Itt K a) G ds where
 go:=fun i H hi hG=>by
   have hi':i < xs.length:=by rw [<- l.length]; exact hi
   exact ⟨xs,xs[i],.inl (.inl (hG _ _ h)),by simp [hi']⟩
 yld:=fun i d G2 H x H' e h1 h2 hy=>by
   obtain ⟨rfl,hy⟩:=hy; obtain ⟨y,e1,r⟩:=l.get e; have:=hy xs (.inl (.inl (h2 _ _ (h1 _ _ h)))); rw [e1] at this; cases this; exact ⟨G2,Grow.refl h2,r.mono h1⟩
 stop:=fun i H hi hG=>⟨xs,.inl (.inl (hG _ _ h)),by rw [<- l.length]; exact hi⟩
theorem Px {G:Hp} {z:Str} (ho:PyData.strOk z=true):Walk (Its z) G (Od z) where
 go:=fun i H hi hG=>by
   show i < z.cps.size
   simpa [Od] using hi
 yld:=fun i d G2 H x H' e h1 h2 hy=>by
   obtain ⟨rfl,c,hc,rfl⟩:=hy; have e':(z.cps.toList.map fun c=>PyData.str ⟨#[c]⟩)[i]? = some d:=e
   rw [List.getElem?_map,Array.getElem?_toList,hc] at e'
   cases e'; refine ⟨G2,Grow.refl h2,rfl,?_,by show 1<=sizeLine; decide⟩
   unfold PyData.strOk at ho ⊢
   rw [<- Array.all_toList,List.all_eq_true] at ho; have:=ho c (by rw [<- Array.getElem?_toList] at hc; exact List.mem_of_getElem? hc)
   simpa using this
 stop:=fun i H hi hG=>by
   show z.cps.size<=i
   simpa [Od] using hi
theorem Ic {G:Hp} (lo:Int) (n:Nat):Walk (Itr lo n) G ((List.range n).map fun (i:Nat)=>PyData.int (lo+i)) where
 go:=fun i H hi hG=>by
   show i < n
   simpa using hi
 yld:=fun i d G2 H x H' e h1 h2 hy=>by
   obtain ⟨rfl,rfl⟩:=hy; rw [List.getElem?_map] at e
   by_cases hi:i < n
   . rw [List.getElem?_range hi] at e; cases e; exact ⟨G2,Grow.refl h2,rfl⟩
   . rw [List.getElem?_eq_none (by simpa using hi)] at e; cases e
 stop:=fun i H hi hG=>by
   show n<=i
   simpa using hi
noncomputable def Dc (ds:List PyData):List PyData:=ds.mapIdx fun i d=>.tuple [.int i,d]
theorem Xo {K:PySem.W.Frag} {G:Hp} {a:Addr} {xs:List V} {ds:List PyData} (h:Rd G a (.lst xs)) (l:RepL G ds xs):Walk (Ite K a) G (Dc ds) where
 go:=fun i H hi hG=>by
   have hi':i < xs.length:=by rw [<- l.length]; simpa [Dc] using hi
   exact ⟨xs,xs[i],.inl (Rd.mono hG h),by simp [hi']⟩
 yld:=fun i d G2 H x H' e h1 h2 hy=>by
   obtain ⟨p,y,hp,rfl,rfl,hy⟩:=hy; unfold Dc at e; rw [List.getElem?_mapIdx] at e; obtain ⟨d0,e0,rfl⟩:=Option.map_eq_some_iff.mp e; obtain ⟨y',e1,r⟩:=l.get e0; have:=hy xs (.inl (Rd.mono (h1.trans h2) h)); rw [e1] at this; cases this; refine ⟨upd G2 p (.tup [.int i,y]),Grow.new h2 hp,p,_,rfl,B7,RepL.cons rfl (RepL.cons (r.mono (h1.trans (Same.upd (h2.free hp)))) rfl)⟩
 stop:=fun i H hi hG=>⟨xs,.inl (Rd.mono hG h),by rw [<- l.length]; simpa [Dc] using hi⟩
noncomputable section
variable {P:Program} {w:World} {K:PySem.W.Frag} {mg:Str->Option Value} {base:Heap} {X:Cx} {N:List Str} {sc:Scope} {k:Nat} {df:Bool} {E:EK} {pos p:Pos} {tg a b c e:Expr} {f g:Dn->Res PyData} {fs src:Dn->Res (List PyData)}
theorem P4 (ha:DE X E a f):DI X E tg a (fun δ=>(f δ).bind E3):=by
 intro pins s Z H R I ⟨G,δ,S,aft⟩
 have h:=Ib (R:=fun v H1=>∃ G1 d,Same G1 H1/\Rep G1 d v/\AftI E G1 H1 (E3 d) R) (W:=fun G H r=>AftI E G H r R) S aft (fun g a=>AftI.grow g a) (fun c a=>a) (fun a=>a) fun d v G1 H1 g1 r1 S1 a1=>⟨G1,d,S1.sub,r1,a1⟩
 refine thn (ha pins s Z H _ I h) fun v s1 ⟨x,H1,I1,rx,G1,d,hG,rd,a1⟩=>?_
 cases d with
 | list ds =>
   obtain ⟨p,xs,rfl,h1,l1⟩:=rd; cases rx; obtain ⟨zz,its,n,rv,e1⟩:=V3 I1 hG h1; refine wpAny_pyIter_list ⟨_,e1,rfl,n,rfl⟩ ?_; refine ⟨s1.heap.objs.size,[s1.heap.objs.size],_,_,H1,rfl,I1.kept (t':=s1.toks) fun b o e=>Heap.get?_push_of_some _ e,Xs p _,⟨_,Heap.get?_push_size _ rfl,rfl,rfl⟩,fun b hb=>?_,a1 _ G1 H1 (Grow.refl hG) (Xn h1 l1)⟩
   have e:b=s1.heap.objs.size:=by simpa using hb
   subst e; exact I1.fpOk (Nat.le_refl _) I1.fresh
 | tuple ds =>
   obtain ⟨p,xs,rfl,h1,l1⟩:=rd; cases rx; obtain ⟨zz,its,rv,pt⟩:=Fk I1 hG h1; refine wpAny_pyIter_tuple (show s1.heap.IsTuple p its.toArray from pt) ?_
   refine ⟨s1.heap.objs.size,[s1.heap.objs.size],_,_,H1,rfl,I1.kept (t':=s1.toks) fun b o e=>Heap.get?_push_of_some _ e,Tn p _,⟨_,Heap.get?_push_size _ rfl,rfl,rfl⟩,fun b hb=>?_,a1 _ G1 H1 (Grow.refl hG) (Zu h1 l1)⟩
   have e:b=s1.heap.objs.size:=by simpa using hb
   subst e; exact I1.fpOk (Nat.le_refl _) I1.fresh
 | str z =>
   obtain ⟨e0,o1,l1⟩:=rd; subst e0; obtain ⟨t,rfl⟩:=rx
   cases ha:z.cps.all (· < 128)
   . refine wpAny_pyIter_wide ha ?_
     refine ⟨s1.heap.objs.size,[s1.heap.objs.size],_,_,H1,rfl,I1.kept (t':=s1.toks) fun b o e=>Heap.get?_push_of_some _ e,Xr _ z t,⟨_,Heap.get?_push_size _ rfl,rfl,rfl⟩,fun b hb=>?_,a1 _ G1 H1 (Grow.refl hG) (Px o1)⟩
     have e:b=s1.heap.objs.size:=by simpa using hb
     subst e; exact I1.fpOk (Nat.le_refl _) I1.fresh
   . refine wpAny_pyIter_ascii ha ?_
     refine ⟨s1.heap.objs.size,[s1.heap.objs.size],_,_,H1,rfl,I1.kept (t':=s1.toks) fun b o e=>Heap.get?_push_of_some _ e,Tq _ z t,⟨_,Heap.get?_push_size _ rfl,rfl,rfl⟩,fun b hb=>?_,a1 _ G1 H1 (Grow.refl hG) (Px o1)⟩
     have e:b=s1.heap.objs.size:=by simpa using hb
     subst e; exact I1.fpOk (Nat.le_refl _) I1.fresh
 | _=>exact (show False from a1).elim
noncomputable def P3 (lo hi:Int):List PyData:=(List.range (hi - lo).toNat).map fun (i:Nat)=>PyData.int (lo+i)
noncomputable def Fi:List PyData->Res (List PyData)
 | [.int j]=>if -(2 ^ 62)<=j/\j < 2 ^ 62 then .ok (P3 0 j) else .no
 | _=>.no
noncomputable def Yf:List PyData->Res (List PyData)
 | [.int i,.int j]=>if -(2 ^ 62)<=i/\i < 2 ^ 62 /\ -(2 ^ 62)<=j/\j < 2 ^ 62 then .ok (P3 i j) else .no
 | _=>.no
theorem Es {n:Nat} (C:Cxt P w K mg base X N sc k df) (h:okGl sc "range" = true) (hm:mg "range" = none) (ha:DA X E [a] n fs) (hs:starEach [a] X.env=[(false,eval a X.env)]:=by rfl) :
   DI X E tg (.Call (.Name "range" p) [a] [] pos) (fun δ=>(fs δ).bind Fi):=by
 refine PI.imp (Yj (okGl.gl C h).1 (by rw [C.hmg]; exact hm) ha.pa hs) fun Z H Q ⟨G,δ,S,aft⟩=>?_
 refine Q0 (W:=fun G H r=>AftI E G H r Q) S aft (fun g a=>AftI.grow g a) (fun c a=>a) (fun a=>a) fun ds vs G1 H1 e g1 r1 S1 a1=>?_
 unfold Fi at a1
 split at a1
 . rename_i j
   split at a1
   . rename_i hc
     obtain ⟨v,rfl,e1⟩:=Lq r1
     cases (show _=_ from e1)
     refine ⟨j,rfl,hc.1,hc.2,a1 _ G1 H1 (Grow.refl S1.sub) ?_⟩; have:=Ic (G:=G1) 0 j.toNat; unfold P3; rw [Int.sub_zero]; exact this
   . exact a1.elim
 . exact a1.elim
theorem dM {n:Nat} (C:Cxt P w K mg base X N sc k df) (h:okGl sc "range" = true) (hm:mg "range" = none) (ha:DA X E [a,b] n fs) (hs:starEach [a,b] X.env=[(false,eval a X.env),(false,eval b X.env)]:=by rfl) (hs2:starEach [b] X.env=[(false,eval b X.env)]:=by rfl) :
   DI X E tg (.Call (.Name "range" p) [a,b] [] pos) (fun δ=>(fs δ).bind Yf):=by
 refine PI.imp (Yi (okGl.gl C h).1 (by rw [C.hmg]; exact hm) ha.pa hs hs2) fun Z H Q ⟨G,δ,S,aft⟩=>?_
 refine Q0 (W:=fun G H r=>AftI E G H r Q) S aft (fun g a=>AftI.grow g a) (fun c a=>a) (fun a=>a) fun ds vs G1 H1 e g1 r1 S1 a1=>?_
 unfold Yf at a1
 split at a1
 . rename_i i j
   split at a1
   . rename_i hc
     obtain ⟨v,v',rfl,e1,e2⟩:=bM r1
     cases (show _=_ from e1); cases (show _=_ from e2)
     exact ⟨i,j,rfl,hc,a1 _ G1 H1 (Grow.refl S1.sub) (Ic i (j - i).toNat)⟩
   . exact a1.elim
 . exact a1.elim
noncomputable def Kn:List PyData->Res (List PyData)
 | [.list ds]=>.ok (Dc ds)
 | _=>.no
theorem mN {n x1:Nat} {elts:List Expr} {tp:Pos} (C:Cxt P w K mg base X N sc k df) (h:okGl sc "enumerate" = true) (hm:mg "enumerate" = none) (ha:DA X E [a] n fs) (he:starEach [a] X.env=(false,eval a X.env)::starEach [] X.env:=by rfl) (hpl:(backTo pos (starEach [] X.env)).any (·.1)=false:=by rfl) :
   DI X E (.Tuple elts x1 tp) (.Call (.Name "enumerate" p) [a] [] pos) (fun δ=>(fs δ).bind Kn):=by
 intro pins s Z H R I ⟨G,δ,S,aft⟩
 obtain ⟨h1,h2,h3⟩:=okGl.gl C h
 have hh:=Q0 (R:=fun vs H1=>∃ G1 ds,Same G1 H1/\RepL G1 ds vs/\AftI E G1 H1 (Kn ds) R) (W:=fun G H r=>AftI E G H r R) S aft (fun g a=>AftI.grow g a) (fun c a=>a) (fun a=>a) fun ds vs G1 H1 e g1 r1 S1 a1=>⟨G1,ds,S1.sub,r1,a1⟩
 refine wpAny_Call_Name_kw (Fv I h1 (by rw [C.hmg]; exact hm) boot_enumerate ?_ h3 h2)
 refine PyProof.Rows.callWith_type1 (thn (ha.pa pos pins s Z H _ I hh) fun us s1 ⟨vs,H1,I1,rv,G1,ds,hG,rl,a1⟩=>?_) he hpl
 unfold Kn at a1
 split at a1
 . rename_i ys
   obtain ⟨v,rfl,l,xs,rfl,q1,l1⟩:=Lq rl; obtain ⟨u,rfl,ru⟩:=Py rv; cases ru; obtain ⟨zz,its,nn,rw',e1⟩:=V3 I1 hG q1; refine call_enumerate_list ⟨_,e1,rfl,nn,rfl⟩ fun h' he' hit hsz kp=>?_
   have I2:Inv X pins Z H1 { s1 with heap:=h' }:=I1.kept (t':=s1.toks) kp; refine wpAny_pyIter_enum he' ?_; refine ⟨s1.heap.objs.size+1,[s1.heap.objs.size+1,s1.heap.objs.size],_,_,H1,rfl,I2,Xt l _ _ (Nat.ne_of_gt (Nat.lt_succ_self _)),⟨⟨_,he'⟩,hit⟩,fun b hb=>?_,a1 _ G1 H1 (Grow.refl hG) (Xo q1 l1)⟩
   rcases List.mem_cons.mp hb with rfl | hb
   . exact I1.fpOk (Nat.le_succ _) (I1.hok.fresh (Nat.le_succ _))
   . have e:b=s1.heap.objs.size:=by simpa using hb
     subst e; exact I1.fpOk (Nat.le_refl _) I1.fresh
 . exact a1.elim
noncomputable def F5 (d:PyData):Res (List Sl):=.ok [.sh d]
noncomputable def He:PyData->Res (List Sl)
 | .tuple [a,b]=>.ok [.sh a,.sh b]
 | _=>.no
noncomputable def D7 (bnd:PyData->Res (List Sl)) (δc:Dn) (tt:Dn->Res Bool) (el:Dn->Res PyData):List PyData->Res (List PyData)
 | []=>.ok []
 | d::ds=>match bnd d with
   | .ok sl=>match tt (sl++δc) with
     | .ok true=>match el (sl++δc) with
       | .ok y=>match D7 bnd δc tt el ds with
         | .ok r=>.ok (y::r)
         | _=>.no
       | _=>.no
     | .ok false=>D7 bnd δc tt el ds
     | _=>.no
   | _=>.no
noncomputable def Y6 (δ:Dn) (cap:List Nat):Dn:=cap.map fun j=>δ[j]?.getD .un
noncomputable def F1 (src:Dn->Res (List PyData)) (bnd:PyData->Res (List Sl)) (cap:List Nat) (tt:Dn->Res Bool) (el:Dn->Res PyData):Dn->Res (List PyData):=fun δ=>(src δ).bind fun ds=>if ds.length<=sizeLine then D7 bnd (Y6 δ cap) tt el ds else .no
def GOk (g:TG) (m:Nat) (bnd:PyData->Res (List Sl)):Prop:=∀ (G H:Hp) (d:PyData) (x:V) (sl:List Sl) (τ:St) (Q:St->Hp->Prop),Same G H->Rep G d x->bnd d=.ok sl->(∀ vs:List V,vs.length=m->sl.length=m->(∀ (i:Nat) s,sl[i]? = some s->SlOk G H (vs[i]?) s/\∃ d,s=.sh d)->Q (vs.map some++τ) H)->g x (List.replicate m none++τ) H Q
theorem gok1:GOk (L4 0) 1 F5:=by
 intro G H d x sl τ Q hG r e h
 cases e
 exact h [x] rfl rfl fun i s hs=>by
   cases i with
   | zero=>cases hs; exact ⟨⟨x,rfl,r⟩,d,rfl⟩
   | succ i=>simp at hs
theorem gok2:GOk (Za K 2 (Y9 (L4 0) (Y9 (L4 1) Zc))) 2 He:=by
 intro G H d x sl τ Q hG r e h
 cases d with
 | tuple ds =>
   match ds,e with
   | [a,b],e =>
     cases e; obtain ⟨p,xs,rfl,h1,l1⟩:=r; obtain ⟨v,v',rfl,r1,r2⟩:=bM l1; refine ⟨p,_,rfl,.inl (.inl (hG _ _ h1)),rfl,v,[v'],rfl,v',[],rfl,rfl,?_⟩; exact h [v,v'] rfl rfl fun i s hs=>by
       match i with
       | 0=>cases hs; exact ⟨⟨v,rfl,r1⟩,a,rfl⟩
       | 1=>cases hs; exact ⟨⟨v',rfl,r2⟩,b,rfl⟩
       | i+2=>simp at hs
 | _=>cases e
theorem SR.cap {G H:Hp} {Z:St} {δ:Dn} (S:SR G H Z δ) (cap:List Nat) (hnd:cap.Nodup) {vs:List V} {sl:List Sl} (hv:vs.length=sl.length) (h:∀ (i:Nat) s,sl[i]? = some s->SlOk G H (vs[i]?) s/\∃ d,s=.sh d):SR G H (vs.map some++Bq Z cap) (sl++Y6 δ cap):=by
 have hlt:∀ i,i < sl.length->(vs.map some++Bq Z cap)[i]? = (vs[i]?).map some:=fun i hi=>by
   rw [List.getElem?_append_left (by rw [List.length_map,hv]; exact hi),List.getElem?_map]
 have hge:∀ i,¬ i < sl.length->(vs.map some++Bq Z cap)[i]? = (cap[i - sl.length]?).map fun j=>Z[j]?.join:=fun i hi=>by
   rw [List.getElem?_append_right (by rw [List.length_map,hv]; omega)]
   unfold Bq; rw [List.getElem?_map,List.length_map,hv]
 have hd:∀ i,¬ i < sl.length->(sl++Y6 δ cap)[i]? = (cap[i - sl.length]?).map fun j=>δ[j]?.getD .un:=fun i hi=>by
   rw [List.getElem?_append_right (by omega)]; unfold Y6; rw [List.getElem?_map]
 refine ⟨S.sub,by simp [hv,Bq,Y6],fun i s e=>?_,fun i j a d d' ei ej hi hj=>?_⟩
 . by_cases hi:i < sl.length
   . rw [List.getElem?_append_left hi] at e
     rw [hlt i hi]; have:=(h i s e).1
     cases q:vs[i]? with
     | none=>rw [q] at this; exact this
     | some v=>rw [q] at this; exact this
   . rw [hd i hi] at e
     rw [hge i hi]
     cases q:cap[i - sl.length]? with
     | none=>rw [q] at e; cases e
     | some j =>
       rw [q] at e; simp only [Option.map_some,Option.some.injEq] at e; subst e; show SlOk G H (some (Z[j]?.join)).join _
       cases q2:δ[j]? with
       | none=>trivial
       | some s=>exact S.sl j s q2
 . have key : ∀ i d, (sl ++ Y6 δ cap)[i]? = some (.ow d) -> ¬ i < sl.length /\ ∃ j, cap[i - sl.length]? = some j /\ δ[j]? = some (.ow d) := fun i d e => by
     have hi:¬ i < sl.length:=fun hi=>by
       rw [List.getElem?_append_left hi] at e; obtain ⟨_,d',z⟩:=h i _ e; cases z
     refine ⟨hi,?_⟩; rw [hd i hi] at e
     cases q:cap[i - sl.length]? with
     | none=>rw [q] at e; cases e
     | some j =>
       rw [q] at e; simp only [Option.map_some,Option.some.injEq] at e; refine ⟨j,rfl,?_⟩
       cases q2:δ[j]? with
       | none=>rw [q2] at e; cases e
       | some s=>rw [q2] at e; cases e; rfl
   obtain ⟨n1,j1,c1,o1⟩:=key i d ei; obtain ⟨n2,j2,c2,o2⟩:=key j d' ej; rw [hge i n1,c1] at hi; rw [hge j n2,c2] at hj; have hi':Z[j1]?.join=some (.ref a):=hi; have hj':Z[j2]?.join=some (.ref a):=hj; have:=S.ap j1 j2 a d d' o1 o2 hi' hj'; subst this; have:=(List.getElem?_inj (List.getElem?_eq_some_iff.mp c1).1 hnd).mp (c1.trans c2.symm); omega
theorem dA (xs:List Str):xs.map (fun _=>(none:Option V))=List.replicate xs.length none:=by
 induction xs with
 | nil=>rfl
 | cons a t ih=>rw [List.map_cons,ih]; rfl
theorem Hu {xs:List Str} {cap:List Nat} {g:TG} {m:Nat} {bnd:PyData->Res (List Sl)} {tt:Dn->Res Bool} {el:Dn->Res PyData} (hx:xs.length=m) (hnd:cap.Nodup) (hg:GOk g m bnd) {Z:St} {H:Hp} {Q:VK} (h:tF E (F1 src bnd cap tt el) Z H Q) :
   Vk (tI E src) (fun Z=>xs.map (fun _=>none)++Bq Z cap) g (tT E0k tt) (tD E0k el) Z H Q:=by
 obtain ⟨G,δ,S,aft⟩:=h
 refine ⟨G,δ,S,?_⟩
 unfold F1 at aft
 cases e:src δ with
 | exc c=>rw [e] at aft; exact aft
 | no=>rw [e] at aft; exact aft
 | ok ds =>
   rw [e] at aft; intro J G1 H1 g1 W D hD; have aft1:eX E G H (if ds.length<=sizeLine then D7 bnd (Y6 δ cap) tt el ds else .no) Q:=aft
   by_cases hz:ds.length<=sizeLine
   . rw [if_pos hz] at aft1
     have S1:=S.grow g1; have hmap:xs.map (fun _=>(none:Option V))=List.replicate m none:=by rw [<- hx]; exact dA xs
     refine ⟨fun i n H'=>n=ds.length - i/\i<=ds.length/\∃ G' acc yd,Grow G1 H1 G' H'/\G' D=none/\H' D=some (.lst acc)/\RepL G' yd acc/\yd.length<=i /\
       eX E G H (match D7 bnd (Y6 δ cap) tt el (ds.drop i) with | .ok r=>.ok (yd++r) | _=>.no) Q,⟨_,rfl,Nat.zero_le _,G1,[],[],Grow.own g1.gh hD,g1.gh.free hD,B7,rfl,Nat.le_refl _,?_⟩,?_⟩
     . rw [List.drop_zero]
       cases q:D7 bnd (Y6 δ cap) tt el ds with
       | ok r=>rw [q] at aft1; exact aft1
       | exc c =>
         exfalso
         have:∀ l c,D7 bnd (Y6 δ cap) tt el l≠.exc c:=by
           intro l c
           induction l with
           | nil=>intro z; cases z
           | cons d l ih =>
             unfold D7; intro z
             split at z
             . split at z
               . split at z
                 . split at z <;> cases z
                 . cases z
               . exact ih z
               . cases z
             . cases z
         exact this ds c q
       | no=>rw [q] at aft1; exact aft1
     . rintro i n H' ⟨rfl,hi,G',acc,yd,g2,nD,hDa,ry,hyl,aft2⟩
       by_cases hlt:i < ds.length
       . refine .inr ⟨W.go i H' hlt (g2.g.trans g2.gh), fun H'' => ∃ n', n' < ds.length - i /\ (n' = ds.length - (i + 1) /\ i + 1 <= ds.length /\ ∃ G' acc yd, Grow G1 H1 G' H'' /\ G' D = none /\ H'' D = some (.lst acc) /\ RepL G' yd acc /\ yd.length <= i + 1 /\
           eX E G H (match D7 bnd (Y6 δ cap) tt el (ds.drop (i+1)) with | .ok r=>.ok (yd++r) | _=>.no) Q),fun H'' q=>?_,fun x H'' hy=>?_⟩
         . obtain ⟨n',h1,h2⟩:=q
           exact ⟨n',h1,h2⟩
         . have hd:ds[i]? = some ds[i]:=List.getElem?_eq_getElem hlt
           have hdrop:ds.drop i=ds[i]::ds.drop (i+1):=List.drop_eq_getElem_cons hlt; obtain ⟨G3,g3,r3⟩:=W.yld i _ G' H' x H'' hd g2.g g2.gh hy; have g13:=g2.trans g3; have nD3:G3 D=none:=by
             cases q:G3 D with
             | none=>rfl
             | some u => rcases g3.fr D u q with z | z | ⟨xs, rfl⟩
                         . rw [nD] at z; cases z
                         . rw [hDa] at z; cases z
                         . have:=g3.gh _ _ q; rw [g3.h _ _ hDa] at this; cases this
           rw [hdrop] at aft2; unfold D7 at aft2; rw [hmap]
           cases eb:bnd ds[i] with
           | exc c=>rw [eb] at aft2; exact aft2.elim
           | no=>rw [eb] at aft2; exact aft2.elim
           | ok sl =>
             rw [eb] at aft2; refine hg G3 H'' _ x sl _ _ g3.gh r3 eb fun vs hv hs hsl=>⟨⟨by rw [List.length_append,List.length_append,List.length_replicate,List.length_map,hv],fun j v z=>?_⟩,?_⟩
             . by_cases hj:j < m
               . rw [List.getElem?_append_left (by rw [List.length_replicate]; exact hj),List.getElem?_replicate] at z
                 split at z <;> cases z
               . rw [List.getElem?_append_right (by rw [List.length_replicate]; exact Nat.not_lt.mp hj),List.length_replicate] at z
                 rw [List.getElem?_append_right (by rw [List.length_map,hv]; exact Nat.not_lt.mp hj),List.length_map,hv]
                 exact z
             . have Sb:SR G3 H'' (vs.map some++Bq Z cap) (sl++Y6 δ cap):=(S1.grow g13).cap cap hnd (hv.trans hs.symm) hsl
               refine ⟨G3,_,Sb,?_⟩; simp only at aft2
               cases et:tt (sl++Y6 δ cap) with
               | exc c=>rw [et] at aft2; exact aft2.elim
               | no=>rw [et] at aft2; exact aft2.elim
               | ok kk =>
                 rw [et] at aft2; intro G4 H4 g4; have nD4:G4 D=none:=by
                   cases q:G4 D with
                   | none=>rfl
                   | some u => rcases g4.fr D u q with z | z | ⟨xs, rfl⟩
                               . rw [nD3] at z; cases z
                               . rw [g3.h _ _ hDa] at z; cases z
                               . have:=g4.gh _ _ q; rw [g4.h _ _ (g3.h _ _ hDa)] at this; cases this
                 have hD4:H4 D=some (.lst acc):=g4.h _ _ (g3.h _ _ hDa)
                 cases kk with
                 | false =>
                   rw [if_neg (by decide)]; exact ⟨_,by omega,rfl,hlt,G4,acc,yd,g13.trans g4,nD4,hD4,ry.mono (g3.g.trans g4.g),by omega,aft2⟩
                 | true =>
                   rw [if_pos rfl]; refine ⟨G4,_,Sb.grow g4,?_⟩; simp only at aft2
                   cases ee:el (sl++Y6 δ cap) with
                   | exc c=>rw [ee] at aft2; exact aft2.elim
                   | no=>rw [ee] at aft2; exact aft2.elim
                   | ok y =>
                     rw [ee] at aft2; intro v G5 H5 g5 r5; have nD5:G5 D=none:=by
                       cases q:G5 D with
                       | none=>rfl
                       | some u => rcases g5.fr D u q with z | z | ⟨xs, rfl⟩
                                   . rw [nD4] at z; cases z
                                   . rw [hD4] at z; cases z
                                   . have:=g5.gh _ _ q; rw [g5.h _ _ hD4] at this; cases this
                     have hD5:H5 D=some (.lst acc):=g5.h _ _ hD4; have hal:acc.length<=i:=by rw [<- ry.length]; exact hyl
                     refine ⟨acc,hD5,by omega,_,by omega,rfl,hlt,G5,acc++[v],yd++[y],?_,nD5,B7,?_,by rw [List.length_append,List.length_singleton]; omega,?_⟩
                     . have g15:=(g13.trans g4).trans g5
                       refine ⟨g15.g,fun b o q=>?_,fun b o q=>?_,g15.fr⟩
                       . rw [B6 (C9 q hD)]; exact g15.h _ _ q
                       . rw [B6 (C9 q nD5)]; exact g15.gh _ _ q
                     . exact (ry.mono (g3.g.trans (g4.g.trans g5.g))).append (RepL.cons r5 rfl)
                     . simp only at aft2
                       cases er:D7 bnd (Y6 δ cap) tt el (ds.drop (i+1)) with
                       | ok r =>
                         rw [er] at aft2; simp only [List.append_assoc,List.singleton_append]; exact aft2
                       | exc c=>rw [er] at aft2; exact aft2
                       | no=>rw [er] at aft2; exact aft2
       . refine .inl ⟨W.stop i H' (Nat.not_lt.mp hlt) (g2.g.trans g2.gh),?_⟩
         have:ds.drop i=[]:=List.drop_eq_nil_of_le (Nat.not_lt.mp hlt); rw [this] at aft2; unfold D7 at aft2; have aft3:eX E G H (.ok (yd++[])) Q:=aft2; rw [List.append_nil] at aft3; exact aft3 D acc G' H' (g1.trans g2) (g1.h.free hD) nD hDa ry
   . rw [if_neg hz] at aft1; exact aft1.elim
end
end Sm
end
noncomputable section
namespace Sm
open PySem PySem.Spec PyProof.Rows L2
noncomputable def Bh (cells:List (Str×Addr)):List (Str×NameKind)->List (Str×Addr)->List (Str×Addr)
 | [],cs=>cs
 | (n,kd)::r,cs=>if kd==.free then Bh cells r ((n,(cells.lookup n).getD 0)::cs) else Bh cells r cs
theorem Sz {env:Env}:∀ (names:List (Str×NameKind)) (cs:List (Str×Addr)),(∀ y∈names,y.2=.free->∃ c,env.cells.lookup y.1=some c) ->
   (forIn names cs fun (x:Str×NameKind) (r:List (Str×Addr))=>if (x.2==NameKind.free)=true then do let c <- cellOf env x.1; pure (ForInStep.yield ((x.1,c)::r)) else pure (ForInStep.yield r))=(pure (Bh env.cells names cs):Sem (List (Str×Addr)))
 | [],cs,_=>rfl
 | (n,kd)::r,cs,h=>by
   rw [List.forIn_cons]; have ih:=fun cs=>Sz r cs fun y hy=>h y (List.mem_cons_of_mem _ hy)
   unfold Bh
   by_cases hk:(kd==NameKind.free)=true
   . obtain ⟨c,hc⟩:=h (n,kd) List.mem_cons_self (eq_of_beq hk)
     have hc':cellOf env n=pure c:=by unfold cellOf; rw [show env.cells.lookup n=some c from hc]
     simp only [hk,if_true,hc',pure_bind]; rw [show env.cells.lookup n=some c from hc]; exact ih _
   . simp only [hk,if_false,pure_bind]
     exact ih _
theorem Dy {cells:List (Str×Addr)}:∀ {names:List (Str×NameKind)} {cs:List (Str×Addr)} {y:Str×Addr},y∈Bh cells names cs->y∈cs\/((y.1,NameKind.free)∈names/\y.2=(cells.lookup y.1).getD 0)
 | [],cs,y,h=>.inl h
 | (n,kd)::r,cs,y,h=>by
   unfold Bh at h
   by_cases hk:(kd==NameKind.free)=true
   . rw [if_pos hk] at h
     have hk':=eq_of_beq hk; subst hk'; rcases Dy h with z | ⟨z1,z2⟩
     . rcases List.mem_cons.mp z with rfl | z
       . exact .inr ⟨List.mem_cons_self,rfl⟩
       . exact .inl z
     . exact .inr ⟨List.mem_cons_of_mem _ z1,z2⟩
   . rw [if_neg hk] at h
     rcases Dy h with z | ⟨z1,z2⟩
     . exact .inl z
     . exact .inr ⟨List.mem_cons_of_mem _ z1,z2⟩
theorem Dz {cells:List (Str×Addr)} {x:Str}:∀ {names:List (Str×NameKind)} {cs:List (Str×Addr)},((x,NameKind.free)∈names\/∃ c,(x,c)∈cs)->∃ c,(x,c)∈Bh cells names cs
 | [],cs,h=>by
   rcases h with h | h
   . cases h
   . exact h
 | (n,kd)::r,cs,h=>by
   unfold Bh
   by_cases hk:(kd==NameKind.free)=true
   . rw [if_pos hk]
     refine Dz ?_; rcases h with h | ⟨c,h⟩
     . rcases List.mem_cons.mp h with q | q
       . cases q; exact .inr ⟨_,List.mem_cons_self⟩
       . exact .inl q
     . exact .inr ⟨c,List.mem_cons_of_mem _ h⟩
   . rw [if_neg hk]
     refine Dz ?_; rcases h with h | ⟨c,h⟩
     . rcases List.mem_cons.mp h with q | q
       . cases q; exact absurd rfl hk
       . exact .inl q
     . exact .inr ⟨c,h⟩
theorem Bn {α:Type} {x:Str} {c:α} {l:List (Str×α)} (h:l.lookup x=some c):(x,c)∈l:=PySem.mem_of_lookup h
theorem Da {α:Type} {x:Str}:∀ {l:List (Str×α)} {c:α},(x,c)∈l->∃ c',l.lookup x=some c'
 | [],_,h=>by cases h
 | (n,d)::r,c,h=>by
   rw [List.lookup_cons]
   cases q:x==n with
   | true=>exact ⟨d,rfl⟩
   | false =>
     rcases List.mem_cons.mp h with z | z
     . cases z; simp at q
     . exact Da z
theorem iP {X:Cx} (ok:X.Ok) {scope:Scope} (hnc:∀ y∈scope.names,y.2≠.cell) (hfree:∀ y∈scope.names,y.2=.free->X.env.scope.names.lookup y.1=some .cell\/X.env.scope.names.lookup y.1=some .free):∃ cl,Clos X scope cl:=by
 have hc:∀ y∈scope.names,y.2=.free->∃ c,X.env.cells.lookup y.1=some c:=fun y hy hf=>ok.has y.1 (hfree y hy hf)
 refine ⟨Bh X.env.cells scope.names [],⟨?_,fun x c h=>?_,fun x h=>?_⟩⟩
 . have:=Sz (env:=X.env) scope.names [] hc
   unfold closureFor; simp only
   rw [this]; rfl
 . rcases Dy (Bn h) with z | ⟨z1,z2⟩
   . cases z
   . obtain ⟨c',e⟩:=hc _ z1 rfl
     have e':X.env.cells.lookup x=some c':=e; have z2':c=(X.env.cells.lookup x).getD 0:=z2; rw [e'] at z2' ⊢
     rw [z2']; rfl
 . have hm : (x, NameKind.free) ∈ scope.names := by
     have key:∀ kd,(relabel scope X.env).names.lookup x=some kd->(kd=.cell\/kd=.free)->(x,NameKind.free)∈scope.names:=fun kd hl hkd=>by
       have hm:=Bn hl; unfold relabel at hm; simp only [List.mem_map] at hm; obtain ⟨⟨n,k0⟩,hy,e⟩:=hm; simp only at e
       split at e
       . rename_i hc'
         cases e; have:k0=.free:=by
           rw [Bool.and_eq_true,Bool.and_eq_true] at hc'; exact eq_of_beq hc'.1.1
         subst this; exact hy
       . cases e
         rcases hkd with rfl | rfl
         . exact absurd rfl (hnc _ hy)
         . exact hy
     rcases h with h | h
     . exact key _ h (.inl rfl)
     . exact key _ h (.inr rfl)
   obtain ⟨c,hc'⟩:=Dz (cells:=X.env.cells) (names:=scope.names) (cs:=[]) (x:=x) (.inl hm); exact Da hc'
noncomputable def okComp (N:List Str) (sc scope:Scope) (xs capN:List Str) (cap:List Nat):Bool :=
 decide (scope.kind=.function)&&scope.names.all (fun y=>decide (y.2≠.cell))&&scope.names.all (fun y=>decide (y.2=.local->scope.names.lookup y.1=some .local)) &&
 scope.names.all (fun y=>decide (y.2=.free->sc.names.lookup y.1=some .cell\/sc.names.lookup y.1=some .free))&&decide (cap.map (fun j=>N[j]?)=capN.map some) &&
 capN.all (fun x=>decide ((Cr scope sc).names.lookup x=some .cell\/(Cr scope sc).names.lookup x=some .free))&&capN.all (fun x=>decide (sc.names.lookup x=some .cell\/sc.names.lookup x=some .free)) &&
 decide ((xs++capN).Nodup)&&xs.all (fun x=>decide ((Cr scope sc).names.lookup x=some .local))&&decide (cap.Nodup)
noncomputable section
variable {P:Program} {w:World} {K:PySem.W.Frag} {mg:Str->Option Value} {base:Heap} {X:Cx} {N:List Str} {sc:Scope} {k:Nat} {df:Bool} {E:EK} {pos px:Pos} {a c elt iter:Expr} {ifs:List Expr} {f g el:Dn->Res PyData} {src:Dn->Res (List PyData)} {tt:Dn->Res Bool} {scope:Scope} {capN:List Str} {cap:List Nat}
structure CompOk (N:List Str) (sc scope:Scope) (xs capN:List Str) (cap:List Nat):Prop where
 h1:scope.kind=.function
 h2:∀ y∈scope.names,y.2≠.cell
 h3:∀ y∈scope.names,y.2=.local->scope.names.lookup y.1=some .local
 h4:∀ y∈scope.names,y.2=.free->sc.names.lookup y.1=some .cell\/sc.names.lookup y.1=some .free
 h5:cap.map (fun j=>N[j]?)=capN.map some
 h6:∀ x∈capN,(Cr scope sc).names.lookup x=some .cell\/(Cr scope sc).names.lookup x=some .free
 h7:∀ x∈capN,sc.names.lookup x=some .cell\/sc.names.lookup x=some .free
 h8:(xs++capN).Nodup
 h9:∀ x∈xs,(Cr scope sc).names.lookup x=some .local
 h10:cap.Nodup
theorem okComp.ok {xs:List Str} (h:okComp N sc scope xs capN cap=true):CompOk N sc scope xs capN cap:=by
 unfold okComp at h
 simp only [Bool.and_eq_true,List.all_eq_true,decide_eq_true_eq] at h
 obtain ⟨⟨⟨⟨⟨⟨⟨⟨⟨h1,h2⟩,h3⟩,h4⟩,h5⟩,h6⟩,h7⟩,h8⟩,h9⟩,h10⟩:=h
 exact ⟨h1,h2,h3,h4,h5,h6,h7,h8,h9,h10⟩
theorem Bg {xs:List Str} (C:Cxt P w K mg base X N sc k df) (h:CompOk N sc scope xs capN cap) (ok:X.Ok):CompFacts X scope xs capN cap:=by
 refine ⟨h.h1,h.h2,h.h3,iP ok h.h2 fun y hy hf=>?_,by rw [C.hN]; exact h.h5,fun x hx=>?_,fun x hx=>?_⟩
 . rw [C.hs]; exact h.h4 y hy hf
 . rw [Vt C.hs]; exact h.h6 x hx
 . rw [C.hs]; exact h.h7 x hx
abbrev DTs (X:Cx) (E:EK) (ifs:List Expr) (f:Dn->Res Bool):Prop:=PTs X ifs (tT E f)
noncomputable def P8:Dn->Res Bool:=fun _=>.ok true
theorem Dg:DTs X E [] P8:=fun pins s Z H Q I ⟨G,δ,S,a⟩=>gG pins s Z H Q I (a G H (Grow.refl S.sub))
theorem Fa (h:DT X E c tt):DTs X E [c] tt:=gF h
theorem S0 {x:Str} (C:Cxt P w K mg base X N sc k df) (cap:List Nat) (capN:List Str) (ho:okComp N sc scope [x] capN cap=true) (hi:DI X E (.Name x px) iter src)
   (ht:∀ X',Cxt P w K mg base X' ([x]++capN) (Cr scope sc) k false->DTs X' E0k ifs tt) (he:∀ X',Cxt P w K mg base X' ([x]++capN) (Cr scope sc) k false->DE X' E0k elt el)
   (hs:∀ x,foldedSetIterable iter X.env x=pure x:=by intro _; rfl):DF X E (.ListComp elt [⟨.Name x px,iter,ifs,0⟩] scope pos) (F1 src F5 cap tt el):=by
 have o:=okComp.ok ho
 refine PE.imp (Wb (g:=L4 0) C.calm (Bg C o) hi (fun X' B=>?_) (fun X' B=>ht X' (C.blk B)) (fun X' B=>he X' (C.blk B)) hs) fun Z H Q h=>Hu (m:=1) rfl o.h10 gok1 h
 have C':=C.blk B
 have hl:X'.env.scope.names.lookup x=some .local:=by rw [C'.hs]; exact o.h9 x (by simp)
 exact O4 (by rw [C'.hN]; exact o.h8) (by rw [C'.hN]; rfl) (.inl hl) (.inr hl)
end
end Sm
end
noncomputable section
namespace Sm
open PySem PySem.Spec PyProof.Rows L2
inductive Out where
 | nx (δ:Dn)
 | rt (d:PyData)
 | bk (δ:Dn)
 | ct (δ:Dn)
 | exc (c:Str)
 | no
structure SSt (G0 H0 G H:Hp) (Z:St) (δ:Dn):Prop where
 gr:Grow G0 H0 G H
 sr:SR G H Z δ
 fr:∀ (i:Nat) (d:PyData) (a:Addr),δ[i]? = some (.ow d)->Z[i]?.join=some (.ref a)->H0 a=none
theorem SSt.grow {G0 H0 G H G' H':Hp} {Z:St} {δ:Dn} (S:SSt G0 H0 G H Z δ) (g:Grow G H G' H'):SSt G0 H0 G' H' Z δ:=⟨S.gr.trans g,S.sr.grow g,S.fr⟩
def Gr (E:EK) (G0 H0:Hp) (o:Out) (D:Ends):Prop:=match o with
 | .nx δ=>∀ Z G H,SSt G0 H0 G H Z δ->D.nx Z H
 | .rt d=>∀ v G H,Grow G0 H0 G H->Rep G d v->D.rt v H
 | .bk δ=>∀ Z G H,SSt G0 H0 G H Z δ->D.bk Z H
 | .ct δ=>∀ Z G H,SSt G0 H0 G H Z δ->D.ct Z H
 | .exc c=>∀ G H,Grow G0 H0 G H->E c H
 | .no=>False
def tS (E:EK) (G0 H0:Hp) (g:Dn->Out):TS:=fun D Z H=>∃ G δ,SSt G0 H0 G H Z δ/\Gr E G0 H0 (g δ) D
def DS (X:Cx) (E:EK) (st:Stmt) (g:Dn->Out):Prop:=∀ G0 H0,PS X st (tS E G0 H0 g)
def DSs (X:Cx) (E:EK) (st:List Stmt) (g:Dn->Out):Prop:=∀ G0 H0,PSs X st (tS E G0 H0 g)
theorem PS.imp {X:Cx} {st:Stmt} {t t':TS} (h:PS X st t) (i:∀ D Z H,t' D Z H->t D Z H):PS X st t':=fun pins s Z H D I q=>h pins s Z H D I (i _ _ _ q)
theorem PSs.imp {X:Cx} {st:List Stmt} {t t':TS} (h:PSs X st t) (i:∀ D Z H,t' D Z H->t D Z H):PSs X st t':=fun pins s Z H D I q=>h pins s Z H D I (i _ _ _ q)
noncomputable def K2 {α:Type} (r:Res α) (k:α->Out):Out:=match r with
 | .ok a=>k a
 | .exc c=>.exc c
 | .no=>.no
theorem Ec {E:EK} {G0 H0 G H:Hp} {Z:St} {δ:Dn} {f:Dn->Res PyData} {k:PyData->Out} {D:Ends} {R:VK} (S:SSt G0 H0 G H Z δ) (a:Gr E G0 H0 (K2 (f δ) k) D)
   (h:∀ d v G1 H1,Grow G H G1 H1->Rep G1 d v->SSt G0 H0 G1 H1 Z δ->Gr E G0 H0 (k d) D->R v H1):tD E f Z H R:=by
 refine ⟨G,δ,S.sr,?_⟩
 cases e:f δ with
 | ok d=>rw [e] at a; exact fun v G' H' g r=>h d v G' H' g r (S.grow g) a
 | exc c=>rw [e] at a; exact fun G' H' g=>a G' H' (S.gr.trans g)
 | no=>rw [e] at a; exact a
theorem Vf {E:EK} {G0 H0 G H:Hp} {Z:St} {δ:Dn} {f:Dn->Res (List PyData)} {k:List PyData->Out} {D:Ends} {R:VK} (S:SSt G0 H0 G H Z δ) (a:Gr E G0 H0 (K2 (f δ) k) D)
   (h:∀ ds p xs G1 H1,Grow G H G1 H1->H p=none->G1 p=none->H1 p=some (.lst xs)->RepL G1 ds xs->SSt G0 H0 G1 H1 Z δ->Gr E G0 H0 (k ds) D->R (.ref p) H1):tF E f Z H R:=by
 refine ⟨G,δ,S.sr,?_⟩
 cases e:f δ with
 | ok d=>rw [e] at a; exact fun p xs G' H' g q1 q2 q3 q4=>h d p xs G' H' g q1 q2 q3 q4 (S.grow g) a
 | exc c=>rw [e] at a; exact fun G' H' g=>a G' H' (S.gr.trans g)
 | no=>rw [e] at a; exact a
theorem eS {E:EK} {G0 H0 G H:Hp} {Z:St} {δ:Dn} {f:Dn->Res Bool} {k:Bool->Out} {D:Ends} {R:Bool->Hp->Prop} (S:SSt G0 H0 G H Z δ) (a:Gr E G0 H0 (K2 (f δ) k) D)
   (h:∀ d G1 H1,Grow G H G1 H1->SSt G0 H0 G1 H1 Z δ->Gr E G0 H0 (k d) D->R d H1):tT E f Z H R:=by
 refine ⟨G,δ,S.sr,?_⟩
 cases e:f δ with
 | ok d=>rw [e] at a; exact fun G' H' g=>h d G' H' g (S.grow g) a
 | exc c=>rw [e] at a; exact fun G' H' g=>a G' H' (S.gr.trans g)
 | no=>rw [e] at a; exact a
theorem eT {E:EK} {G0 H0 G H:Hp} {Z:St} {δ:Dn} {f:Dn->Res (List PyData)} {k:List PyData->Out} {D:Ends} {R:It->Hp->Prop} (S:SSt G0 H0 G H Z δ) (a:Gr E G0 H0 (K2 (f δ) k) D)
   (h:∀ ds J G1 H1,Grow G H G1 H1->Walk J G1 ds->SSt G0 H0 G1 H1 Z δ->Gr E G0 H0 (k ds) D->R J H1):tI E f Z H R:=by
 refine ⟨G,δ,S.sr,?_⟩
 cases e:f δ with
 | ok d=>rw [e] at a; exact fun J G' H' g q=>h d J G' H' g q (S.grow g) a
 | exc c=>rw [e] at a; exact fun G' H' g=>a G' H' (S.gr.trans g)
 | no=>rw [e] at a; exact a
theorem D5 {α:Type} {l:List α} {i j:Nat} {v:α}:(l.set i v)[j]? = if i=j/\i < l.length then some v else l[j]? := by
 rw [List.getElem?_set]
 by_cases h:i=j
 . subst h
   by_cases hl:i < l.length
   . simp [hl]
   . simp [hl,List.getElem?_eq_none (Nat.not_lt.mp hl)]
 . simp [h]
theorem SSt.set_sh {G0 H0 G H:Hp} {Z:St} {δ:Dn} (S:SSt G0 H0 G H Z δ) {i:Nat} {v:V} {d:PyData} (r:Rep G d v):SSt G0 H0 G H (Z.set i (some v)) (δ.set i (.sh d)):=by
 have hl:=S.sr.len
 have key:∀ (j:Nat) (d':PyData),(δ.set i (.sh d))[j]? = some (.ow d')->(Z.set i (some v))[j]? = Z[j]? /\ δ[j]? = some (.ow d'):=fun j d' e=>by
   rw [D5] at e
   split at e
   . cases e
   . rename_i hn
     refine ⟨?_,e⟩; rw [D5,if_neg (by rw [hl]; exact hn)]
 refine ⟨S.gr,⟨S.sr.sub,by simp [hl],fun j s e=>?_,fun j1 j2 a d1 d2 e1 e2 h1 h2=>?_⟩,fun j d' a e h=>?_⟩
 . rw [D5] at e ⊢
   rw [hl]
   split at e
   . rename_i hc; cases e; rw [if_pos hc]; exact ⟨v,rfl,r⟩
   . rename_i hc; rw [if_neg hc]; exact S.sr.sl j s e
 . obtain ⟨k1,o1⟩:=key j1 d1 e1
   obtain ⟨k2,o2⟩:=key j2 d2 e2; rw [k1] at h1; rw [k2] at h2; exact S.sr.ap j1 j2 a d1 d2 o1 o2 h1 h2
 . obtain ⟨k1,o1⟩:=key j d' e
   rw [k1] at h; exact S.fr j d' a o1 h
theorem SSt.set_ow {G0 H0 G H:Hp} {Z:St} {δ:Dn} (S:SSt G0 H0 G H Z δ) {i:Nat} {p:Addr} {d:PyData} (h0:H0 p=none) (hg:G p=none) (ho:OwnOk G H p d) (hf:∀ (j:Nat) d',δ[j]? = some (.ow d')->Z[j]?.join≠some (.ref p)):SSt G0 H0 G H (Z.set i (some (.ref p))) (δ.set i (.ow d)):=by
 have hl:=S.sr.len
 have key:∀ (j:Nat) (d':PyData),(δ.set i (.ow d))[j]? = some (.ow d')->(i=j/\i < δ.length/\d'=d/\(Z.set i (some (.ref p)))[j]? = some (some (.ref p)))\/((Z.set i (some (.ref p)))[j]? = Z[j]? /\ δ[j]? = some (.ow d')):=fun j d' e=>by
   rw [D5] at e
   split at e
   . rename_i hc; cases e; exact .inl ⟨hc.1,hc.2,rfl,by rw [D5,if_pos (by rw [hl]; exact hc)]⟩
   . rename_i hn
     refine .inr ⟨?_,e⟩; rw [D5,if_neg (by rw [hl]; exact hn)]
 refine ⟨S.gr,⟨S.sr.sub,by simp [hl],fun j s e=>?_,fun j1 j2 a d1 d2 e1 e2 h1 h2=>?_⟩,fun j d' a e h=>?_⟩
 . rw [D5] at e ⊢
   rw [hl]
   split at e
   . rename_i hc; cases e; rw [if_pos hc]; exact ⟨p,rfl,hg,ho⟩
   . rename_i hc; rw [if_neg hc]; exact S.sr.sl j s e
 . rcases key j1 d1 e1 with ⟨a1,b1,_,c1⟩ | ⟨k1,o1⟩
   . rcases key j2 d2 e2 with ⟨a2,b2,_,c2⟩ | ⟨k2,o2⟩
     . exact a1.symm.trans a2
     . rw [c1] at h1; cases h1
       rw [k2] at h2; exact absurd h2 (hf j2 d2 o2)
   . rcases key j2 d2 e2 with ⟨a2,b2,_,c2⟩ | ⟨k2,o2⟩
     . rw [c2] at h2; cases h2
       rw [k1] at h1; exact absurd h1 (hf j1 d1 o1)
     . rw [k1] at h1; rw [k2] at h2
       exact S.sr.ap j1 j2 a d1 d2 o1 o2 h1 h2
 . rcases key j d' e with ⟨a1,b1,_,c1⟩ | ⟨k1,o1⟩
   . rw [c1] at h; cases h; exact h0
   . rw [k1] at h; exact S.fr j d' a o1 h
theorem SSt.write {G0 H0 G H:Hp} {Z:St} {δ:Dn} (S:SSt G0 H0 G H Z δ) {i:Nat} {p:Addr} {d d':PyData} {o:HO} (hi:δ[i]? = some (.ow d)) (hp:Z[i]?.join=some (.ref p)) (hg:G p=none) (ho:OwnOk G (upd H p o) p d'):SSt G0 H0 G (upd H p o) Z (δ.set i (.ow d')):=by
 have h0:=S.fr i d p hi hp
 have hil:i < δ.length:=(List.getElem?_eq_some_iff.mp hi).1
 have hsub:Same G (upd H p o):=fun b u e=>by rw [B6 (C9 e hg)]; exact S.sr.sub _ _ e
 have key:∀ (j:Nat) (e:PyData),(δ.set i (.ow d'))[j]? = some (.ow e)->∃ e',δ[j]? = some (.ow e'):=fun j e h=>by
   rw [D5] at h
   split at h
   . rename_i hc; rw [<- hc.1]; exact ⟨d,hi⟩
   . exact ⟨e,h⟩
 refine ⟨⟨S.gr.g,fun b u e=>by rw [B6 (C9 e h0)]; exact S.gr.h _ _ e,hsub,S.gr.fr⟩,⟨hsub,by simp [S.sr.len],fun j s e=>?_,fun j1 j2 a d1 d2 e1 e2 h1 h2=>?_⟩,fun j e a h1 h2=>?_⟩
 . rw [D5] at e
   split at e
   . rename_i hc; cases e; rw [<- hc.1]; exact ⟨p,hp,hg,ho⟩
   . rename_i hc
     have hs:=S.sr.sl j s e
     cases s with
     | un=>trivial
     | sh d=>exact hs
     | fd _=>exact hs
     | ow d2 =>
       obtain ⟨a,e1,n1,ok⟩:=hs; refine ⟨a,e1,n1,?_⟩; have hne:a≠p:=by
         rintro rfl
         exact hc ⟨S.sr.ap i j a d d2 hi e hp e1,hil⟩
       cases d2 with
       | list ds=>obtain ⟨xs,q,r⟩:=ok; exact ⟨xs,by rw [B6 hne]; exact q,r⟩
       | dict kvs=>obtain ⟨xs,q,r⟩:=ok; exact ⟨xs,by rw [B6 hne]; exact q,r⟩
       | tuple xs=>exact OwnK.keep (Same.refl _) (fun o q=>by rw [B6 hne]; exact q) ok
       | _=>exact (show False from ok).elim
 . obtain ⟨e1',o1⟩:=key j1 d1 e1
   obtain ⟨e2',o2⟩:=key j2 d2 e2; exact S.sr.ap j1 j2 a _ _ o1 o2 h1 h2
 . obtain ⟨e',o1⟩:=key j e h1
   exact S.fr j e' a o1 h2
noncomputable def fz (i:Nat) (δ:Dn):Dn:=match δ[i]? with
 | some (.ow (.list ds))=>δ.set i (.sh (.list ds))
 | _=>δ
theorem SSt.fz {G0 H0 G H:Hp} {Z:St} {δ:Dn} (S:SSt G0 H0 G H Z δ) (i:Nat):∃ G',SSt G0 H0 G' H Z (fz i δ):=by
 unfold Sm.fz
 split
 . rename_i ds hi
   obtain ⟨p,hp,hg,xs,hx,r⟩:=S.sr.sl i _ hi; have h0:=S.fr i _ p hi hp; have g:Grow G0 H0 (upd G p (.lst xs)) H:=S.gr.share h0 hg hx; have hv:Z[i]? = some (some (.ref p)):=by
     cases q:Z[i]? with
     | none=>rw [q] at hp; cases hp
     | some z=>rw [q] at hp; cases z with
       | none=>cases hp
       | some z=>cases hp; rfl
   have key:∀ (j:Nat) (d':PyData),(δ.set i (.sh (.list ds)))[j]? = some (.ow d')->δ[j]? = some (.ow d')/\j≠i:=fun j d' e=>by
     rw [D5] at e
     split at e
     . cases e
     . rename_i hn
       refine ⟨e,fun z=>?_⟩
       subst z; exact hn ⟨rfl,(List.getElem?_eq_some_iff.mp hi).1⟩
   refine ⟨_,g,⟨g.gh,by simp [S.sr.len],fun j s e=>?_,fun j1 j2 a d1 d2 e1 e2 h1 h2=>S.sr.ap j1 j2 a d1 d2 (key j1 d1 e1).1 (key j2 d2 e2).1 h1 h2⟩,fun j d' a e h=>S.fr j d' a (key j d' e).1 h⟩
   have sm:Same G (upd G p (.lst xs)):=Same.upd hg
   by_cases hj:i=j/\i < δ.length
   . rw [D5,if_pos hj] at e
     cases e; rw [<- hj.1,hv]; exact ⟨_,rfl,p,xs,rfl,.inl B7,r.mono sm⟩
   . have e2:=e
     rw [D5,if_neg hj] at e2; have hs:=S.sr.sl j s e2
     cases s with
     | un=>trivial
     | sh d=>obtain ⟨v,e1,r1⟩:=hs; exact ⟨v,e1,r1.mono sm⟩
     | fd _=>exact FdOk.mono sm hs
     | ow d2 =>
       obtain ⟨a,e1,n1,ok⟩:=hs; have hne:a≠p:=by
         rintro rfl
         exact (key j d2 e).2 (S.sr.ap j i a d2 _ e2 hi e1 hp)
       refine ⟨a,e1,by rw [B6 hne]; exact n1,?_⟩
       cases d2 with
       | list ds=>obtain ⟨xs,q,r⟩:=ok; exact ⟨xs,q,r.mono sm⟩
       | dict kvs=>obtain ⟨xs,q,k,r⟩:=ok; exact ⟨xs,q,k,r.mono sm⟩
       | tuple xs=>exact OwnK.keep sm (fun o q=>q) ok
       | _=>exact (show False from ok).elim
 . exact ⟨G,S⟩
noncomputable section
variable {P:Program} {w:World} {K:PySem.W.Frag} {mg:Str->Option Value} {base:Heap} {X:Cx} {N:List Str} {sc:Scope} {k:Nat} {df:Bool} {E:EK} {pos p px py:Pos} {a b c e elt iter:Expr} {ifs:List Expr} {f g el:Dn->Res PyData} {fs src:Dn->Res (List PyData)} {tt:Dn->Res Bool} {scope:Scope} {capN:List Str} {cap:List Nat} {st:Stmt} {sts sts':List Stmt} {g1 g2:Dn->Out}
noncomputable def E8:Dn->Out:=fun δ=>.nx δ
noncomputable def C0 (g1 g2:Dn->Out):Dn->Out:=fun δ=>match g1 δ with
 | .nx δ'=>g2 δ'
 | o=>o
theorem M4:DSs X E [] E8:=fun G0 H0=>PSs.imp Vx fun D Z H ⟨G,δ,S,a⟩=>a Z G H S
theorem B3 (h1:DS X E st g1) (h2:DSs X E sts g2):DSs X E (st::sts) (C0 g1 g2):=fun G0 H0=>by
 refine PSs.imp (Rg (h1 G0 H0) (h2 G0 H0)) fun D Z H ⟨G,δ,S,a⟩=>⟨G,δ,S,?_⟩
 unfold C0 at a
 cases e:g1 δ with
 | nx δ'=>rw [e] at a; exact fun Z' G' H' S'=>⟨G',δ',S',a⟩
 | rt d=>rw [e] at a; exact a
 | bk d=>rw [e] at a; exact a
 | ct d=>rw [e] at a; exact a
 | exc d=>rw [e] at a; exact a
 | no=>rw [e] at a; exact a
theorem C1 (h1:DS X E st g1):DSs X E [st] g1:=fun G0 H0=>Hv (h1 G0 H0)
noncomputable def sFz (i:Nat) (g:Dn->Out):Dn->Out:=fun δ=>g (fz i δ)
theorem bG (i:Nat) (h:DS X E st g1):DS X E st (sFz i g1):=fun G0 H0=>PS.imp (h G0 H0) fun D Z H ⟨G,δ,S,a⟩=>by
 obtain ⟨G',S'⟩:=S.fz i
 exact ⟨G',_,S',a⟩
noncomputable def L0 (f:Dn->Res PyData):Dn->Out:=fun δ=>K2 (f δ) .rt
theorem F6 (h:DE X E e f):DS X E (.Return (some e) pos) (L0 f):=fun G0 H0=>PS.imp (bT h) fun D Z H ⟨G,δ,S,a⟩ =>
 Ec S a fun d v G1 H1 g1 r1 S1 a1=>a1 v G1 H1 S1.gr r1
noncomputable def sIf (c:Dn->Res Bool) (g1 g2:Dn->Out):Dn->Out:=fun δ=>K2 (c δ) fun b=>if b=true then g1 δ else g2 δ
theorem Bp (hc:DT X E c tt) (h1:DSs X E sts g1) (h2:DSs X E sts' g2):DS X E (.If c sts sts' pos) (sIf tt g1 g2):=fun G0 H0=>PS.imp (jI hc (h1 G0 H0) (h2 G0 H0)) fun D Z H ⟨G,δ,S,a⟩ =>
 eS S a fun d G1 H1 g1 S1 a1=>by
   cases d with
   | true=>rw [if_pos rfl]; exact ⟨G1,δ,S1,a1⟩
   | false=>rw [if_neg (by decide)]; exact ⟨G1,δ,S1,a1⟩
noncomputable def okSet (N:List Str) (sc:Scope) (df:Bool) (i:Nat) (x:Str):Bool:=decide (N.Nodup)&&decide (N[i]? = some x)&&(decide (sc.names.lookup x=some .local)||(decide (sc.names.lookup x=some .cell)&&df))
theorem okSet.ok (C:Cxt P w K mg base X N sc k df) {i:Nat} {x:Str} (h:okSet N sc df i x=true):X.N.Nodup/\X.N[i]? = some x/\Loc X.env.scope x/\(X.fn x=true\/X.env.scope.names.lookup x=some .local):=by
 unfold okSet at h
 simp only [Bool.and_eq_true,Bool.or_eq_true,decide_eq_true_eq] at h
 obtain ⟨⟨h1,h2⟩,h3⟩:=h
 rw [C.hN]
 refine ⟨h1,h2,?_⟩
 unfold L2.Loc
 rw [C.hs]
 rcases h3 with h3 | ⟨h3,h4⟩
 . exact ⟨.inl h3,.inr h3⟩
 . exact ⟨.inr h3,.inl (C.fn h4 x)⟩
noncomputable def D3 (i:Nat) (f:Dn->Res PyData):Dn->Out:=fun δ=>K2 (f δ) fun d=>.nx (δ.set i (.sh d))
theorem E1 {x:Str} (C:Cxt P w K mg base X N sc k df) (i:Nat) (ho:okSet N sc df i x=true) (h:DE X E e f) (hs:swapsWith e (some (.Name x p)) pos.line X.env=pure false:=by rfl):DS X E (.Assign [.Name x p] e pos) (D3 i f):=fun G0 H0=>by
 obtain ⟨h1,h2,h3,h4⟩:=okSet.ok C ho
 exact PS.imp (Jx h1 h2 h3 h hs h4) fun D Z H ⟨G,δ,S,a⟩=>Ec S a fun d v G1 H1 g1 r1 S1 a1=>a1 _ G1 H1 (S1.set_sh r1)
theorem Dt {G0 H0 G H:Hp} {Z:St} {δ:Dn} (S:SSt G0 H0 G H Z δ) {p:Addr} (hp:H p=none) (j:Nat) (d':PyData) (e:δ[j]? = some (.ow d')):Z[j]?.join≠some (.ref p):=fun z=>by
 obtain ⟨a,e1,_,ok⟩:=S.sr.sl j _ e
 rw [e1] at z; cases z
 obtain ⟨o,q⟩:=ok.some
 rw [hp] at q; cases q
noncomputable def Hj (i:Nat) (f:Dn->Res (List PyData)):Dn->Out:=fun δ=>K2 (f δ) fun ds=>.nx (δ.set i (.ow (.list ds)))
theorem We {G0 H0:Hp} {D:Ends} {Z:St} {H:Hp} {i:Nat} (h:tS E G0 H0 (Hj i fs) D Z H):tF E fs Z H fun v H1=>D.nx (Z.set i (some v)) H1:=by
 obtain ⟨G,δ,S,a⟩:=h
 refine Vf S a fun ds p xs G1 H1 g1 q1 q2 q3 q4 S1 a1=>?_
 exact a1 _ G1 H1 (S1.set_ow (S.gr.h.free q1) q2 ⟨xs,q3,q4⟩ (Dt S q1))
theorem Qu {x:Str} (C:Cxt P w K mg base X N sc k df) (i:Nat) (ho:okSet N sc df i x=true) (h:DF X E e fs) (hs:swapsWith e (some (.Name x p)) pos.line X.env=pure false:=by rfl):DS X E (.Assign [.Name x p] e pos) (Hj i fs):=fun G0 H0=>by
 obtain ⟨h1,h2,h3,h4⟩:=okSet.ok C ho
 exact PS.imp (Jx h1 h2 h3 h hs h4) fun D Z H q=>We q
noncomputable def Fo (sc scope:Scope) (x:Str) (l1 l2:Nat):Bool:=decide (sc.kind=.function)&&decide (sc.names.lookup x=some .local)&&decide (l1=l2) && !(scope.names.any fun (n,kd)=>n==x&&(kd==.local||kd==.cell))
theorem Me {x:Str} {elt:Expr} {gens:List Comprehension} {ln:Nat} (C:Cxt P w K mg base X N sc k df) (h:Fo sc scope x p.line pos.line=true):swapsWith (.ListComp elt gens scope pos) (some (.Name x p)) ln X.env=pure true:=by
 unfold Fo at h
 simp only [Bool.and_eq_true,decide_eq_true_eq] at h
 obtain ⟨⟨⟨h1,h2⟩,h3⟩,h4⟩:=h
 unfold swapsWith
 show pure (X.env.blockKind==.function&&X.env.kindOf x==some .local&&p.line==pos.line && !(scope.names.any fun (n,kd)=>n==x&&(kd==.local||kd==.cell)))=_
 have e1:X.env.blockKind=.function:=by unfold Env.blockKind; rw [C.hs,h1]; rfl
 have e2:X.env.kindOf x=some .local:=by show X.env.scope.names.lookup x=_; rw [C.hs]; exact h2
 rw [e1,e2,h3,h4]
 simp
noncomputable section
variable {x y:Str} {i:Nat} {py spos:Pos}
theorem Ub (C:Cxt P w K mg base X N sc k df) (i:Nat) (hset:okSet N sc df i y=true) (hsw:Fo sc scope y py.line pos.line=true) (cap:List Nat) (capN:List Str) (ho:okComp N sc scope [x] capN cap=true) (hi:DI X E (.Name x px) iter src)
   (ht:∀ X',Cxt P w K mg base X' ([x]++capN) (Cr scope sc) k false->DTs X' E0k ifs tt) (he:∀ X',Cxt P w K mg base X' ([x]++capN) (Cr scope sc) k false->DE X' E0k elt el)
   (hs:∀ x,foldedSetIterable iter X.env x=pure x:=by intro _; rfl):DS X E (.Assign [.Name y py] (.ListComp elt [⟨.Name x px,iter,ifs,0⟩] scope pos) spos) (Hj i (F1 src F5 cap tt el)):=fun G0 H0=>by
 obtain ⟨h1,h2,h3,h4⟩:=okSet.ok C hset
 have o:=okComp.ok ho
 have hl:X.env.scope.names.lookup y=some .local:=by
   rw [C.hs]; unfold Fo at hsw; simp only [Bool.and_eq_true,decide_eq_true_eq] at hsw; exact hsw.1.1.2
 refine PS.imp (Jw (g:=L4 0) C.calm (Bg C o) hi (fun X' B=>?_) (fun X' B=>ht X' (C.blk B)) (fun X' B=>he X' (C.blk B)) h1 h2 hl (Me C hsw) hs) fun D Z H h=>Hu (m:=1) rfl o.h10 gok1 (We h)
 have C':=C.blk B
 have hl:X'.env.scope.names.lookup x=some .local:=by rw [C'.hs]; exact o.h9 x (by simp)
 exact O4 (by rw [C'.hN]; exact o.h8) (by rw [C'.hN]; rfl) (.inl hl) (.inr hl)
noncomputable def bI (i:Nat) (f:Dn->Res (List PyData)):Dn->Out:=fun δ=>K2 (f δ) fun ds=>.nx (δ.set i (.sh (.list ds)))
theorem gX {G0 H0:Hp} {D:Ends} {Z:St} {H:Hp} {i:Nat} (h:tS E G0 H0 (bI i fs) D Z H):tF E fs Z H fun v H1=>D.nx (Z.set i (some v)) H1:=by
 obtain ⟨G,δ,S,a⟩:=h
 refine Vf S a fun ds p xs G1 H1 g1 q1 q2 q3 q4 S1 a1=>?_
 exact a1 _ _ H1 ((S.grow (g1.share q1 q2 q3)).set_sh ⟨p,xs,rfl,.inl B7,q4.mono (Same.upd q2)⟩)
end
end
end Sm
end
noncomputable section
namespace Sm
open PySem PySem.Spec PyProof.Rows L2
noncomputable section
variable {P:Program} {w:World} {K:PySem.W.Frag} {mg:Str->Option Value} {base:Heap} {X:Cx} {N:List Str} {sc:Scope} {k:Nat} {df:Bool} {E:EK} {pos p px py tp spos:Pos} {tg a b c e elt iter:Expr} {ifs:List Expr} {es:List Expr} {f g el:Dn->Res PyData} {src:Dn->Res (List PyData)} {tt:Dn->Res Bool} {scope:Scope} {capN:List Str} {cap:List Nat} {st:Stmt} {sts:List Stmt} {g1:Dn->Out} {x y:Str} {i:Nat}
theorem Uc {x1:Nat} {x2:Str} (C:Cxt P w K mg base X N sc k df) (i:Nat) (hset:okSet N sc df i y=true) (hsw:Fo sc scope y py.line pos.line=true) (cap:List Nat) (capN:List Str) (ho:okComp N sc scope [x,x2] capN cap=true) (hi:DI X E (.Tuple [.Name x px,.Name x2 p] x1 tp) iter src)
   (ht:∀ X',Cxt P w K mg base X' ([x,x2]++capN) (Cr scope sc) k false->DTs X' E0k ifs tt) (he:∀ X',Cxt P w K mg base X' ([x,x2]++capN) (Cr scope sc) k false->DE X' E0k elt el)
   (hs:∀ x,foldedSetIterable iter X.env x=pure x:=by intro _; rfl):DS X E (.Assign [.Name y py] (.ListComp elt [⟨.Tuple [.Name x px,.Name x2 p] x1 tp,iter,ifs,0⟩] scope pos) spos) (bI i (F1 src He cap tt el)):=fun G0 H0=>by
 obtain ⟨h1,h2,h3,h4⟩:=okSet.ok C hset
 have o:=okComp.ok ho
 have hl:X.env.scope.names.lookup y=some .local:=by
   rw [C.hs]; unfold Fo at hsw; simp only [Bool.and_eq_true,decide_eq_true_eq] at hsw; exact hsw.1.1.2
 refine PS.imp (Jw (g:=Za K 2 (Y9 (L4 0) (Y9 (L4 1) Zc))) C.calm (Bg C o) hi (fun X' B=>?_) (fun X' B=>ht X' (C.blk B)) (fun X' B=>he X' (C.blk B)) h1 h2 hl (Me C hsw) hs) fun D Z H h=>Hu (m:=2) rfl o.h10 gok2 (gX h)
 have C':=C.blk B
 have hl:X'.env.scope.names.lookup x=some .local:=by rw [C'.hs]; exact o.h9 x (by simp)
 have hl2:X'.env.scope.names.lookup x2=some .local:=by rw [C'.hs]; exact o.h9 x2 (by simp)
 have nd:X'.N.Nodup:=by rw [C'.hN]; exact o.h8
 have p1:PG X' (.Name x px) (L4 0):=O4 nd (by rw [C'.hN]; rfl) (.inl hl) (.inr hl)
 have p2:PG X' (.Name x2 p) (L4 1):=O4 nd (by rw [C'.hN]; rfl) (.inl hl2) (.inr hl2)
 have:=Ue (n:=2) (k:=x1) (pos:=tp) C'.calm (U3 p1 (U3 p2 Os))
 rw [C'.hK] at this
 exact this
noncomputable def Y5 (i:Nat) (f:Dn->Res PyData):Dn->Out:=fun δ=>match δ[i]? with
 | some (.ow (.list ds))=>K2 (f δ) fun d=>if ds.length < sizeLine then .nx (δ.set i (.ow (.list (ds++[d])))) else .no
 | _=>.no
theorem Jp {cpos apos:Pos} (C:Cxt P w K mg base X N sc k df) (i:Nat) (h:okVar N sc i x=true) (ha:DE X E a f)
   (hbase:attributeBase (.Name x p) "append" X.env (eval (.Name x p) X.env)=eval (.Name x p) X.env:=by rfl)
   (hfew:((backTo cpos (starEach [a] X.env)).all (fun x => !x.1)&&(backToKw cpos (keywordEach [] X.env)).all (fun x=>x.1.isSome)
     && decide ([a].length+([]:List Keyword).length+(if ([]:List Keyword).isEmpty then 0 else 1) < 30))=true:=by rfl)
   (hline:(apos.endLine==cpos.line)=true:=by rfl) (hs:starEach [a] X.env=(false,eval a X.env)::starEach [] X.env:=by rfl) (hplain:(backTo cpos (starEach [] X.env)).any (·.1)=false:=by rfl)
   (hsw:swapsWith (.Call (.Attribute (.Name x p) "append" apos) [a] [] cpos) none pos.line X.env=pure false:=by rfl) :
   DS X E (.Expr (.Call (.Attribute (.Name x p) "append" apos) [a] [] cpos) pos) (Y5 i f):=fun G0 H0=>by
 have hv:PE X (.Name x p) (fH i):=by
   unfold okVar at h; simp only [Bool.and_eq_true,Bool.not_eq_true'] at h; obtain ⟨⟨⟨h1,h2⟩,h3⟩,h4⟩:=h; refine Uf (by rw [C.hN]; exact eq_of_beq h1) ?_ h3 h4
   rw [C.hs]; unfold Vis
   cases q:sc.names.lookup x with
   | none=>rw [q] at h2; cases h2
   | some z =>
     rw [q] at h2
     cases z with
     | «local» => exact .inl rfl
     | cell=>exact .inr (.inl rfl)
     | free=>exact .inr (.inr rfl)
     | _=>cases h2
 refine PS.imp (Oq (Wc PySem.F.plainAttrs_list PySem.F.slot_list_append PySem.F.type_list_append Ft hv (Q9 ha Ai hs) hbase hfew hline hs hplain) hsw) fun D Z H ⟨G,δ,S,aft⟩=>?_
 unfold Y5 at aft
 split at aft
 . rename_i ds hi
   obtain ⟨q,hq,hg,xs,hx,rl⟩:=S.sr.sl i _ hi; have hσ:Z[i]? = some (some (.ref q)):=by
     cases z:Z[i]? with
     | none=>rw [z] at hq; cases hq
     | some z'=>rw [z] at hq; cases z' with
       | none=>cases hq
       | some z''=>cases hq; rfl
   refine ⟨.ref q,hσ,.inl ⟨rfl,xs,.inl (.inl hx)⟩,?_⟩; refine Ec S aft fun d v G1 H1 g1 r1 S1 a1=>?_
   split at a1
   . rename_i hz
     have hx1:H1 q=some (.lst xs):=g1.h _ _ hx; obtain ⟨q',hq',hg',_⟩:=S1.sr.sl i _ hi; rw [hq] at hq'; cases hq'; refine ⟨q,xs,v,rfl,rfl,hx1,by rw [<- rl.length]; exact hz,?_⟩
     exact a1 Z G1 _ (S1.write hi hq hg' ⟨xs++[v],B7,(rl.mono g1.g).append (RepL.cons r1 rfl)⟩)
   . exact a1.elim
 . exact aft.elim
noncomputable def E6 (st:PyData->Dn->Option Dn) (body:Dn->Out):List PyData->Dn->Out
 | [],δ=>.nx δ
 | d::ds,δ=>match st d δ with
   | some δ1=>match body δ1 with
     | .nx δ'=>E6 st body ds δ'
     | .ct δ'=>E6 st body ds δ'
     | .bk δ'=>.nx δ'
     | o=>o
   | none=>.no
noncomputable def N9 (src:Dn->Res (List PyData)) (st:PyData->Dn->Option Dn) (body:Dn->Out):Dn->Out:=fun δ=>K2 (src δ) fun ds=>E6 st body ds δ
noncomputable def st1 (i:Nat):PyData->Dn->Option Dn:=fun d δ=>some (δ.set i (.sh d))
noncomputable def st2 (i j:Nat):PyData->Dn->Option Dn:=fun d δ=>match d with
 | .tuple [a,b]=>some ((δ.set i (.sh a)).set j (.sh b))
 | _=>none
def nE (K:PySem.W.Frag) (g:TG) (st:PyData->Dn->Option Dn):Prop:=∀ (G0 H0 G H:Hp) (Z:St) (δ δ1:Dn) (d:PyData) (x:V) (Q:St->Hp->Prop),SSt G0 H0 G H Z δ->Rep G d x->st d δ=some δ1->(∀ Z',SSt G0 H0 G H Z' δ1->Q Z' H)->g x Z H Q
theorem tg1 (i:Nat):nE K (L4 i) (st1 i):=fun G0 H0 G H Z δ δ1 d x Q S r e h=>by cases e; exact h _ (S.set_sh r)
theorem SSt.rebase {G0 H0 G1 H1 G H:Hp} {Z:St} {δ:Dn} (g:Grow G0 H0 G1 H1) (S:SSt G0 H0 G H Z δ) (h:Same G1 G):SSt G1 H0 G H Z δ :=
 ⟨⟨h,S.gr.h,S.gr.gh,fun b o e=>(S.gr.fr b o e).imp (fun z=>g.g _ _ z) id⟩,S.sr,S.fr⟩
theorem Grow.unbase {G0 H0 G1 H1 G H:Hp} (g:Grow G0 H0 G1 H1) (h:Grow G1 H0 G H):Grow G0 H0 G H :=
 ⟨g.g.trans h.g,h.h,h.gh,fun b o e=>(h.fr b o e).elim (fun z=>g.fr b o z) .inr⟩
theorem SSt.unbase {G0 H0 G1 H1 G H:Hp} {Z:St} {δ:Dn} (g:Grow G0 H0 G1 H1) (S:SSt G1 H0 G H Z δ):SSt G0 H0 G H Z δ:=⟨g.unbase S.gr,S.sr,S.fr⟩
theorem bH {gt:TG} {st:PyData->Dn->Option Dn} (C:Cxt P w K mg base X N sc k df) (hi:DI X E tg iter src) (hg:PG X tg gt) (ht:nE K gt st) (hb:DSs X E sts g1) (hs:∀ x,foldedSetIterable iter X.env x=pure x):DS X E (.For tg iter sts [] pos) (N9 src st g1):=fun G0 H0=>by
 have hb':PSs X sts (fun D Z H=>∃ Gb,tS E Gb H0 g1 D Z H):=fun pins s Z H D I ⟨Gb,q⟩=>hb Gb H0 pins s Z H D I q
 refine PS.imp (bU C.own C.calm hi hg hb' hs) fun D Z H ⟨G,δ,S,aft⟩=>?_
 refine eT S aft fun ds J G1 H1 gr W S1 a1=>?_
 have g01:=S1.gr
 refine ⟨fun i n Z' H'=>n=ds.length - i/\i<=ds.length/\∃ G' δ',SSt G1 H0 G' H' Z' δ'/\Gr E G0 H0 (E6 st g1 (ds.drop i) δ') D,⟨_,rfl,Nat.zero_le _,G1,δ,S1.rebase g01 (Same.refl _),by rw [List.drop_zero]; exact a1⟩,?_⟩
 rintro i n Z' H' ⟨rfl,hi,G',δ',S',a'⟩
 by_cases hlt:i < ds.length
 . have hd:ds[i]? = some ds[i]:=List.getElem?_eq_getElem hlt
   have hdrop:ds.drop i=ds[i]::ds.drop (i+1):=List.drop_eq_getElem_cons hlt; rw [hdrop] at a'; unfold E6 at a'; refine .inr ⟨W.go i H' hlt (S'.gr.g.trans S'.sr.sub),fun Z2 H2=>∃ G' δ',SSt G1 H0 G' H2 Z2 δ'/\Gr E G0 H0 (E6 st g1 (ds.drop (i+1)) δ') D,fun Z2 H2 q=>⟨_,by omega,rfl,hlt,q⟩,fun x H'' hy=>?_⟩
   obtain ⟨G3,g3,r3⟩:=W.yld i _ G' H' x H'' hd S'.gr.g S'.sr.sub hy; have S3:=S'.grow g3
   cases es:st ds[i] δ' with
   | none=>rw [es] at a'; exact a'.elim
   | some δ1 =>
     rw [es] at a'; refine ht G1 H0 G3 H'' Z' δ' δ1 _ x _ S3 r3 es fun Z2 S4=>⟨G1,G3,δ1,S4,?_⟩
     simp only at a'
     cases eo:g1 δ1 with
     | nx δ2=>rw [eo] at a'; exact fun Z3 G4 H4 S5=>⟨G4,δ2,S5,a'⟩
     | ct δ2=>rw [eo] at a'; exact fun Z3 G4 H4 S5=>⟨G4,δ2,S5,a'⟩
     | bk δ2=>rw [eo] at a'; exact fun Z3 G4 H4 S5=>a' Z3 G4 H4 (S5.unbase g01)
     | rt d=>rw [eo] at a'; exact fun v G4 H4 g r=>a' v G4 H4 (g01.unbase g) r
     | exc c=>rw [eo] at a'; exact fun G4 H4 g=>a' G4 H4 (g01.unbase g)
     | no=>rw [eo] at a'; exact a'
 . refine .inl ⟨W.stop i H' (Nat.not_lt.mp hlt) (S'.gr.g.trans S'.sr.sub),?_⟩
   have:ds.drop i=[]:=List.drop_eq_nil_of_le (Nat.not_lt.mp hlt); rw [this] at a'; exact a' Z' G' H' (S'.unbase g01)
theorem Y1 (C:Cxt P w K mg base X N sc k df) (i:Nat) (ho:okSet N sc df i x=true) (hi:DI X E (.Name x p) iter src) (hb:DSs X E sts g1) (hs:∀ x,foldedSetIterable iter X.env x=pure x:=by intro _; rfl):DS X E (.For (.Name x p) iter sts [] pos) (N9 src (st1 i) g1):=by
 obtain ⟨h1,h2,h3,h4⟩:=okSet.ok C ho
 exact bH C hi (O4 h1 h2 h3 h4) (tg1 i) hb hs
end
end Sm
end
noncomputable section
namespace Sm
open PySem PySem.Spec PyProof.Rows L2
noncomputable section
variable {P:Program} {w:World} {K:PySem.W.Frag} {mg:Str->Option Value} {base:Heap} {X:Cx} {N:List Str} {sc:Scope} {k:Nat} {df:Bool} {E:EK} {p:Pos} {a c e:Expr} {f g:Dn->Res PyData} {x:Str} {i:Nat}
theorem okVar.pe (C:Cxt P w K mg base X N sc k df) (h:okVar N sc i x=true):PE X (.Name x p) (fH i):=by
 unfold okVar at h
 simp only [Bool.and_eq_true,Bool.not_eq_true'] at h
 obtain ⟨⟨⟨h1,h2⟩,h3⟩,h4⟩:=h
 refine Uf (by rw [C.hN]; exact eq_of_beq h1) ?_ h3 h4
 rw [C.hs]
 unfold Vis
 cases q:sc.names.lookup x with
 | none=>rw [q] at h2; cases h2
 | some z =>
   rw [q] at h2
   cases z with
   | «local» => exact .inl rfl
   | cell=>exact .inr (.inl rfl)
   | free=>exact .inr (.inr rfl)
   | _=>cases h2
theorem SR.own {G H:Hp} {Z:St} {δ:Dn} (S:SR G H Z δ) {d:PyData} (hi:δ[i]? = some (.ow d)):∃ q,Z[i]? = some (some (.ref q))/\G q=none/\OwnOk G H q d:=by
 obtain ⟨q,hq,hg,ok⟩:=S.sl i _ hi
 refine ⟨q,?_,hg,ok⟩
 cases z:Z[i]? with
 | none=>rw [z] at hq; cases hq
 | some z'=>rw [z] at hq; cases z' with
   | none=>cases hq
   | some z''=>cases hq; rfl
noncomputable def J3 (N:List Str) (ds:List PyData):Dn:=ds.map .sh++List.replicate (N.length - ds.length) .un
noncomputable def fnD (N:List Str) (g:Dn->Out):List PyData->Res PyData:=fun ds=>match g (J3 N ds) with
 | .rt d=>.ok d
 | .nx _=>.ok .none
 | .exc c=>.exc c
 | _=>.no
theorem Ql {G H:Hp} (hG:Same G H) {ds:List PyData} {vs:List V} (r:RepL G ds vs) (N:List Str):SSt G H G H (Y7 N vs) (J3 N ds):=by
 have hl:=r.length
 have noow:∀ (i:Nat) (d:PyData),(J3 N ds)[i]? ≠ some (.ow d):=fun i d e=>by
   unfold J3 at e
   by_cases hi:i < ds.length
   . rw [List.getElem?_append_left (by simpa using hi),List.getElem?_map] at e
     cases q:ds[i]? with
     | none=>rw [q] at e; cases e
     | some z=>rw [q] at e; cases e
   . rw [List.getElem?_append_right (by simpa using Nat.not_lt.mp hi),List.getElem?_replicate] at e
     split at e <;> cases e
 refine ⟨Grow.refl hG,⟨hG,by unfold L2.Y7 J3; simp [hl],fun i s e=>?_,fun i j a d d' e _ _ _=>absurd e (noow i d)⟩,fun i d a e _=>absurd e (noow i d)⟩
 unfold J3 at e
 by_cases hi:i < ds.length
 . rw [List.getElem?_append_left (by simpa using hi),List.getElem?_map] at e
   cases q:ds[i]? with
   | none=>rw [q] at e; cases e
   | some z =>
     rw [q] at e; cases e
     obtain ⟨v,e1,rv⟩:=r.get q; unfold L2.Y7; rw [List.getElem?_append_left (by rw [List.length_map,<- hl]; exact hi),List.getElem?_map,e1]
     exact ⟨v,rfl,rv⟩
 . rw [List.getElem?_append_right (by simpa using Nat.not_lt.mp hi),List.getElem?_replicate] at e
   split at e <;> cases e
   trivial
structure Def (K:PySem.W.Frag) (mg:Str->Option Value) (x:Str) (st:Stmt) (ps:List Str):Prop where
 ex:∃ f fd,L2.Fun K x x st f fd/\mg x=some (.ref f)/\Binds K fd ps []
theorem dW {x:Str} {st:Stmt} {ps:List Str} {n:Nat} {go:Dn->Out} {m:List PyData->Res PyData} {f:Addr} {fd:FuncData} (F:L2.Fun K x x st f fd) (S:FnScope N ps (A6 st)) (hn:ps.length=n)
   (body:∀ X,Cxt P w K mg base X N (A6 st) k true->DSs X E0k (B8 st) go) (hm:m=fnD N go):FnOk P w K mg base CX0 (k+1) f fd ps (spD n m):=by
 subst hm
 refine F.ok S (fun vs H Q E h=>?_) (fun cdv A outer s H vs Q E hr h=>?_)
 . obtain ⟨G,ds,d,_,r,hl,_⟩:=h
   rw [<- r.length,hl,hn]
 . obtain ⟨G,ds,d,hG,r,hl,em,q⟩:=h
   refine ⟨_,body _ ⟨rfl,rfl,rfl,rfl,rfl,rfl,rfl,rfl,hr,fun _ _=>rfl,PassesOwn.never⟩ G H,G,_,Ql hG r N,?_⟩
   unfold fnD at em
   cases eg:go (J3 N ds) with
   | rt d'=>rw [eg] at em; cases em; exact fun v G' H' g r'=>q v G' H' g r'
   | nx δ=>rw [eg] at em; cases em; exact fun Z G' H' S'=>q _ G' H' S'.gr rfl
   | bk _=>rw [eg] at em; cases em
   | ct _=>rw [eg] at em; cases em
   | exc _=>rw [eg] at em; cases em
   | no=>rw [eg] at em; cases em
theorem Au {x:Str} {st:Stmt} {ps:List Str} {n:Nat} {go:Dn->Out} {m:List PyData->Res PyData} (F:Def K mg x st ps) (S:FnScope N ps (A6 st)) (hn:ps.length=n)
   (body:∀ X,Cxt P w K mg base X N (A6 st) k true->DSs X E0k (B8 st) go) (hm:m=fnD N go):Fn P w K mg base x (k+1) n m:=by
 obtain ⟨f,fd,F,hmg,hb⟩:=F.ex
 exact ⟨f,fd,ps,hn,dW F S hn body hm,hmg,F.kp,hb⟩
end
end Sm
end
noncomputable section
namespace Sm
open PySem PySem.Spec PyProof.Rows L2
def Made (h:Heap) (H:Hp) (h0:Heap) (a:Addr) (c:Value):Prop :=
 ∃ oe vs a0,h.get? a=some oe/\oe.cls=c/\oe.data=.fields vs/\vs[0]? = some a0/\h0.get? a=none/\H a=none/\vs[1]? = some .none
end Sm
end
noncomputable section
namespace Sm
open PySem PySem.Spec PyProof.Rows L2
end Sm
end
noncomputable section
namespace Sm
open PySem PySem.Spec PyProof.Rows L2
noncomputable section
variable {X:Cx} {k:Nat} {E:EK} {p:Pos} {a b c e:Expr} {g:Dn->Res PyData} {i:Nat} {tt:Dn->Res Bool}
noncomputable def cFz (i:Nat) (c:Dn->Res Bool):Dn->Res Bool:=fun δ=>c (fz i δ)
theorem SR.fz {G H:Hp} {Z:St} {δ:Dn} (S:SR G H Z δ) (i:Nat):∃ G',SR G' H Z (fz i δ):=by
 unfold Sm.fz
 split
 . rename_i ds hi
   obtain ⟨p,hp,hg,xs,hx,r⟩:=S.sl i _ hi; have hv:Z[i]? = some (some (.ref p)):=by
     cases q:Z[i]? with
     | none=>rw [q] at hp; cases hp
     | some z=>rw [q] at hp; cases z with
       | none=>cases hp
       | some z=>cases hp; rfl
   have key:∀ (j:Nat) (d':PyData),(δ.set i (.sh (.list ds)))[j]? = some (.ow d')->δ[j]? = some (.ow d')/\j≠i:=fun j d' e=>by
     rw [D5] at e
     split at e
     . cases e
     . rename_i hn
       refine ⟨e,fun z=>?_⟩
       subst z; exact hn ⟨rfl,(List.getElem?_eq_some_iff.mp hi).1⟩
   have sm:Same G (upd G p (.lst xs)):=Same.upd hg; have sub:Same (upd G p (.lst xs)) H:=fun b u e=>by
     by_cases hb:b=p
     . subst hb; rw [B7] at e; rw [hx]; exact e
     . rw [B6 hb] at e; exact S.sub _ _ e
   refine ⟨_,sub,by simp [S.len],fun j s e=>?_,fun j1 j2 a d1 d2 e1 e2 h1 h2=>S.ap j1 j2 a d1 d2 (key j1 d1 e1).1 (key j2 d2 e2).1 h1 h2⟩
   by_cases hj:i=j/\i < δ.length
   . rw [D5,if_pos hj] at e
     cases e; rw [<- hj.1,hv]; exact ⟨_,rfl,p,xs,rfl,.inl B7,r.mono sm⟩
   . have e2:=e
     rw [D5,if_neg hj] at e2; have hs:=S.sl j s e2
     cases s with
     | un=>trivial
     | sh d=>obtain ⟨v,e1,r1⟩:=hs; exact ⟨v,e1,r1.mono sm⟩
     | fd _=>exact FdOk.mono sm hs
     | ow d2 =>
       obtain ⟨a,e1,n1,ok⟩:=hs; have hne:a≠p:=by
         rintro rfl
         exact (key j d2 e).2 (S.ap j i a d2 _ e2 hi e1 hp)
       refine ⟨a,e1,by rw [B6 hne]; exact n1,?_⟩
       cases d2 with
       | list ds=>obtain ⟨xs,q,r⟩:=ok; exact ⟨xs,q,r.mono sm⟩
       | dict kvs=>obtain ⟨xs,q,k,r⟩:=ok; exact ⟨xs,q,k,r.mono sm⟩
       | tuple xs=>exact OwnK.keep sm (fun o q=>q) ok
       | _=>exact (show False from ok).elim
 . exact ⟨G,S⟩
theorem kG (i:Nat) (h:DT X E c tt):DT X E c (cFz i tt):=PT.imp h fun Z H Q ⟨G,δ,S,a⟩=>by
 obtain ⟨G',S'⟩:=S.fz i
 refine ⟨G',_,S',?_⟩
 unfold cFz at a
 cases e:tt (fz i δ) with
 | ok d=>rw [e] at a; exact fun G2 H2 g=>a G H2 ⟨Same.refl _,g.h,S.sub.trans g.h,fun _ _ z=>.inl z⟩
 | exc c=>rw [e] at a; exact fun G2 H2 g=>a G H2 ⟨Same.refl _,g.h,S.sub.trans g.h,fun _ _ z=>.inl z⟩
 | no=>rw [e] at a; exact a
end
end Sm
end
noncomputable section
namespace Sm
open PySem PySem.Spec PyProof.Rows L2
noncomputable section
variable {P:Program} {w:World} {K:PySem.W.Frag} {mg:Str->Option Value} {base:Heap} {X:Cx} {N:List Str} {sc:Scope} {k:Nat} {df:Bool} {E:EK} {pos p p2:Pos} {a b c e:Expr} {f g:Dn->Res PyData} {x:Str} {i:Nat}
noncomputable def Ds:PyData->Bool
 | .none=>true
 | .bool _=>true
 | .int _=>true
 | .str _=>true
 | _=>false
theorem Rep.atom {G G':Hp} {d:PyData} {v:V} (r:Rep G d v) (h:Ds d=true):Rep G' d v:=by
 cases d with
 | none=>exact r
 | bool _=>exact r
 | int _=>exact r
 | str _=>exact r
 | _=>cases h
noncomputable def vFz (i:Nat) (f:Dn->Res PyData):Dn->Res PyData:=fun δ=>(f (fz i δ)).bind fun d=>if Ds d=true then .ok d else .no
theorem mU (i:Nat) (h:DE X E e f):DE X E e (vFz i f):=PE.imp h fun Z H Q ⟨G,δ,S,a⟩=>by
 obtain ⟨G',S'⟩:=S.fz i
 refine ⟨G',_,S',?_⟩
 unfold vFz at a
 cases q:f (fz i δ) with
 | ok d =>
   rw [q] at a; simp only [Res.bind] at a
   split at a
   . rename_i hd
     exact fun v G2 H2 g r=>a v G H2 ⟨Same.refl _,g.h,S.sub.trans g.h,fun _ _ z=>.inl z⟩ (r.atom hd)
   . exact (show False from a).elim
 | exc c=>rw [q] at a; exact fun G2 H2 g=>a G H2 ⟨Same.refl _,g.h,S.sub.trans g.h,fun _ _ z=>.inl z⟩
 | no=>rw [q] at a; exact a
noncomputable def Qw (i:Nat) (fk fv:Dn->Res PyData):Dn->Out:=fun δ=>match δ[i]? with
 | some (.ow (.list ds))=>K2 (fv δ) fun v=>K2 (fk δ) fun kd=>match kd with
   | .int k=>(match ixN ds.length k with
     | some j=>.nx (δ.set i (.ow (.list (ds.set j v))))
     | none=>.no)
   | _=>.no
 | _=>.no
theorem RepL.set {G:Hp} {d:PyData} {v:V} (r:Rep G d v):∀ {ds:List PyData} {vs:List V} (j:Nat),RepL G ds vs->RepL G (ds.set j d) (vs.set j v)
 | [],_,_,h=>by cases (show _=_ from h); rfl
 | _::_,_,0,h=>by
   obtain ⟨v0,r0,rfl,h1,h2⟩:=h; exact ⟨v,r0,rfl,r,h2⟩
 | _::_,_,j+1,h=>by
   obtain ⟨v0,r0,rfl,h1,h2⟩:=h; exact ⟨v0,_,rfl,h1,RepL.set r j h2⟩
theorem kP (C:Cxt P w K mg base X N sc k df) (i:Nat) (h:okVar N sc i x=true) (hk:DE X E a f) (hv:DE X E b g)
   (hs:swapsWithSole [.Subscript (.Name x p) a p2] b pos.line X.env=pure false:=by rfl) (hw:swappedStores [.Subscript (.Name x p) a p2] b X.env=pure none:=by rfl)
   (h1:(assignEach [.Subscript (.Name x p) a p2] X.env).map (·.2)=[assign (.Subscript (.Name x p) a p2) X.env]:=by rfl)
   (ha:∀ v,assign (.Subscript (.Name x p) a p2) X.env v=(do
     let ov <- holding [v] (eval (.Name x p) X.env)
     let iv <- holding [v,ov] (eval a X.env)
     standAt p2
     holding [v,ov,iv] (setItem ov iv v)
     release [v,ov,iv] []):=by intro _; rfl):DS X E (.Assign [.Subscript (.Name x p) a p2] b pos) (Qw i f g):=fun G0 H0=>by
 refine PS.imp (lE hv (lF (okVar.pe C h) hk aZ ha) hs hw h1) fun D Z H ⟨G,δ,S,aft⟩=>?_
 unfold Qw at aft
 split at aft
 . rename_i ds hi
   refine Ec S aft fun v x1 G1 H1 g1 r1 S1 a1=>?_
   obtain ⟨q,hσ,hg,xs,hx,hvals⟩:=S1.sr.own hi; refine ⟨.ref q,hσ,?_⟩; refine Ec S1 a1 fun kd x2 G2 H2 g2 r2 S2 a2=>?_
   obtain ⟨q',hσ',hg',xs',hx',hvals'⟩:=S2.sr.own hi; rw [hσ] at hσ'; cases hσ'
   cases kd with
   | int kk =>
     cases (show _=_ from r2)
     simp only at a2
     cases ej:ixN ds.length kk with
     | none=>rw [ej] at a2; exact (show False from a2).elim
     | some j =>
       rw [ej] at a2; refine ⟨q,xs',kk,j,rfl,rfl,hx',by rw [<- hvals'.length]; exact ej,?_⟩
       exact a2 Z G2 _ (S2.write hi (by rw [hσ]; rfl) hg' ⟨_,B7,RepL.set (r1.mono g2.g) j hvals'⟩)
   | _=>exact (show False from a2).elim
 . exact aft.elim
end
end Sm
end
noncomputable section
namespace Sm
open PySem PySem.Spec PyProof.Rows L2 PySem.Builtin.Str
end Sm
end
noncomputable section
namespace Sm
open PySem PySem.Spec PyProof.Rows L2
end Sm
end
noncomputable section
namespace Sm
open PySem PySem.Spec PyProof.Rows L2
end Sm
end
noncomputable section
namespace Sm
open PySem PySem.Spec PyProof.Rows L2
end Sm
end
noncomputable section
namespace Sm
open PySem PySem.Spec PyProof.Rows L2
open AutoSeq1 (wpAny_loadPart')
end Sm
end
noncomputable section
namespace Sm
open PySem PySem.Spec PyProof.Rows L2
end Sm
end
noncomputable section
namespace Sm
open PySem PySem.W PyProof.Rows
end Sm
end
noncomputable section
namespace Sm
open PySem PySem.Spec PyProof.Rows L2
end Sm
end
noncomputable section
namespace Sm
open PySem PySem.Spec PyProof.Rows L2
end Sm
end
noncomputable section
namespace Sm
open PySem PySem.Spec
theorem Pb:typeLookup (.type "list") "keys" = pure none:=by
 rw [typeLookup_type,builtinLookup_eq_fast]; kernel_rfl
theorem Pc:typeLookup (.type "list") "__getattr__" = pure none:=by
 rw [typeLookup_type,builtinLookup_eq_fast]; kernel_rfl
noncomputable section
variable {prog:Program} {w:World} {A:Around} {E:Value->Shared->Prop} {h:Heap} {g:Array GenState} {d:Drawn} {t:Nat} {os:OsState} {a:Addr} {vs:Array Value} {n:Nat}
theorem Yv {tk:Tok} {Q:Fin->Shared->Prop} (hA:A.handled=none) (hx:h.get? a=some { cls:=.type "list",data:=.seq vs n })
   (hq:∀ h' tk' e,Heap.NewAttrErr h h' e (.ref a) "keys" -> E (.ref e) ⟨h',g,d,tk',os⟩) :
   wpAny (model prog w) A (Builtin.«object.__getattribute__» ⟨[.ref a,.str "keys" tk],[]⟩) Q E ⟨h,g,d,t,os⟩:=by
 have hT:(⟨h,g,d,t,os⟩:Shared).TypeIs (.ref a) "list" := ⟨_,hx,rfl⟩
 have f4:=Pb
 unfold Builtin.«object.__getattribute__»
 repeat (any_goals (first | assumption | wp_step))
 exact wpAny_raiseAttrError hA hq (attrMsg_fits (by decide +kernel) (by decide))
theorem Yu {Q:Option Value->Shared->Prop} (hA:A.handled=none) (hx:h.get? a=some { cls:=.type "list",data:=.seq vs n })
   (hq:∀ h' tk',(∀ b o,h.get? b=some o->h'.get? b=some o)->Q none ⟨h',g,d,tk',os⟩):wpAny (model prog w) A (getAttr? (.ref a) "keys") Q E ⟨h,g,d,t,os⟩:=by
 have hT:∀ s':Shared,s'.heap=h->s'.TypeIs (.ref a) "list" := fun s' e=>⟨_,by rw [e]; exact hx,rfl⟩
 have f1:=sub_AttributeError
 have f2:=F.slot_list_getattribute.lookup
 have f3:=F.slot_list_getattribute.bind (.ref a)
 have f5:=Pc
 unfold getAttr? getAttrBy? getAttrBy
 refine wpAny_bind (wpAny_mkText (wpAny_bind (wpAny_attempt ?_)))
 have hT1:=hT ⟨h,g,d,t+1,os⟩ rfl
 repeat (any_goals (first | assumption | wp_step))
 refine codeAny_call_builtin F.slot_list_getattribute.plain F.entry_list_ga
   (F.slot_list_getattribute.check _ _ _ _ _ _ _ _ hT1 (F.args_list_getattribute_2 _ _)
     (Yv hA hx fun h' tk' e hx'=>?_))
 obtain ⟨t',u',he⟩:=hx'.there
 have kp:=hx'.keeps
 show wpAny _ _ (getattributeRaised _ _ _ _ _ _ _) _ _ _
 unfold getattributeRaised
 repeat (any_goals (first | assumption | wp_step))
 exact hq _ _ kp
end
end Sm
end
noncomputable section
namespace Sm
open PySem PySem.Spec PyProof.Rows L2
theorem Bo:entryFor table "dict.update.loop" = some Builtin.«dict.update.loop» := entryFor_of_tree (by kernel_rfl)
theorem Bm:plainId "dict.update.loop" = true:=by decide +kernel
end Sm
end
noncomputable section
namespace Sm
open PySem PySem.Spec PyProof.Rows L2
abbrev Kvs:=List (PyData×PyData)
noncomputable def Ie (g1:Dn->Out) (g2:Dn->Res Kvs):Dn->Res Kvs:=fun δ=>match g1 δ with
 | .nx δ'=>g2 δ'
 | .exc c=>.exc c
 | _=>.no
noncomputable def fnW (N:List Str) (g:Dn->Res Kvs):List PyData->Res Kvs:=fun ds=>g (J3 N ds)
noncomputable def Pw (fs:Dn->Res (List PyData)) (m:List PyData->Res Kvs):Dn->Res Kvs:=fun δ=>(fs δ).bind m
end Sm
end
noncomputable section
namespace Sm
open PySem PySem.Spec PyProof.Rows L2
theorem Oo:Slot "reversed" "__init__" "object.__init__" :=
 .of (owner := "object") (n := "__init__") (by rw [typeLookup_type,builtinLookup_eq_fast]; kernel_rfl) (by decide +kernel) (by decide +kernel) (by decide +kernel) (by first | exact .inl (by decide +kernel) | exact .inr (by decide +kernel)) (by rw [isSubtype_type]; kernel_rfl)
theorem Fg:TypeCalled "reversed" "reversed.__new__" "object.__init__" :=
 ⟨by decide +kernel,by decide +kernel,⟨_,_,F.mro_reversed⟩,F.made_reversed,by decide +kernel,F.sub_reversed_self,Oo⟩
theorem P0:Slot "reversed" "__next__" "reversed.__next__" :=
 .of (owner := "reversed") (n := "__next__") (by rw [typeLookup_type,builtinLookup_eq_fast]; kernel_rfl) (by decide +kernel) (by decide +kernel) (by decide +kernel) (by first | exact .inl (by decide +kernel) | exact .inr (by decide +kernel)) (by rw [isSubtype_type]; kernel_rfl)
theorem Ep:Slot "reversed" "__iter__" "reversed.__iter__" :=
 .of (owner := "reversed") (n := "__iter__") (by rw [typeLookup_type,builtinLookup_eq_fast]; kernel_rfl) (by decide +kernel) (by decide +kernel) (by decide +kernel) (by first | exact .inl (by decide +kernel) | exact .inr (by decide +kernel)) (by rw [isSubtype_type]; kernel_rfl)
theorem Cz:entryFor table "reversed.__next__" = some Builtin.«reversed.__next__» := entryFor_of_tree (by kernel_rfl)
theorem Lo:entryFor table "reversed.__iter__" = some Builtin.«dict_keyiterator.__iter__» := by
 exact entryFor_alias (id' := "dict_keyiterator.__iter__") (by kernel_rfl) (by decide +kernel) (by decide +kernel) (by kernel_rfl)
theorem Er (a:Value):argsOk "reversed.__next__" ⟨[a],[]⟩:=by unfold argsOk; kernel_rfl
theorem Op (a:Value):argsOk "reversed.__iter__" ⟨[a],[]⟩:=by unfold argsOk; kernel_rfl
theorem fU:typeLookup (.type "tuple") "__reversed__" = pure none:=by rw [typeLookup_type,builtinLookup_eq_fast]; kernel_rfl
theorem fW:isSubtype (.type "tuple") (.type "dict")=pure false:=by rw [isSubtype_type]; kernel_rfl
def IsRvT (h:Heap) (a l:Addr) (i:Int):Prop:=∃ o,h.get? a=some o/\o.cls=.type "reversed" /\ o.data=.fields #[.ref l,rawInt i]
noncomputable section
variable {prog:Program} {w:World} {A:Around} {E:Value->Shared->Prop} {s:Shared}
theorem IsRvT.typeIs {a l:Addr} {i:Int} (x:IsRvT s.heap a l i):s.TypeIs (.ref a) "reversed" := let ⟨o,ho,hc,_⟩:=x; ⟨o,ho,hc⟩
theorem fX {l:Addr} {items:Array Value} {Q₁:Value->Shared->Prop} (hl:IsTup s.heap l items) (hz:items.size<=sizeLine)
   (h:∀ tk,Q₁ (.ref s.heap.objs.size) { s with heap:=s.heap.push { cls:=.type "reversed",data:=.fields #[.ref l,rawInt ((items.size:Int) - 1)] },toks:=tk }) :
   codeAny (model prog w) A (.call (.builtin "reversed.__new__") ⟨[.type "reversed",.ref l],[]⟩) (wants Q₁ E) s:=by
 refine codeAny_of_tree (wpAny_bind (wpAny_of_eq (F.newCall_reversed_1 _) (wpAny_pure ⟨plainId_quiet F.plain_reversed_new _,codeAny_builtin F.entry_reversed_new ?_⟩)))
 rw [Around.under_plainId F.plain_reversed_new _]
 unfold Builtin.«reversed.__new__»
 refine wpAny_bind (wpAny_of_eq (newClass_reversed _) (wpAny_bind (wpAny_of_eq (a:=()) (by first | rfl | kernel_rfl) (wpAny_bind (wpAny_of_eq (a:=()) (by first | rfl | kernel_rfl) ?_)))))
 refine wpAny_bind (wpAny_specialOf hl.typeIs fU ?_)
 try dsimp only
 refine wpAny_bind (wpAny_bind (wpAny_isInstance hl.typeIs fW ?_))
 simp only [Bool.false_eq_true,if_false]
 refine wpAny_bind (wpAny_specialOf hl.typeIs slot_tuple_getitem.lookup ?_)
 dsimp only
 rw [if_pos (by decide +kernel)]
 refine wpAny_pure ?_
 simp only [Bool.not_true,Bool.false_eq_true,if_false]
 have hn:=Be
 refine wpAny_bind (len_tuple hl (by omega) (wpAny_bind (wpAny_of_eq (a:=some (items.size:Int)) rfl ?_)))
 refine wpAny_bind ?_
 show wpAny _ _ (newObj (Value.type "reversed") (.fields #[.ref l,rawInt ((items.size:Int) - 1)])) _ _ _
 exact wpAny_newObj_type (wpAny_pure (h _))
theorem fY {l:Addr} {items:Array Value} {Q:Value->Shared->Prop} (hl:IsTup s.heap l items) (hz:items.size<=sizeLine)
   (h:∀ tk,Q (.ref s.heap.objs.size) { s with heap:=s.heap.push { cls:=.type "reversed",data:=.fields #[.ref l,rawInt ((items.size:Int) - 1)] },toks:=tk }):wpAny (model prog w) A (call (.type "reversed") [.ref l]) Q E s:=by
 refine callType_codes (Q₁:=fun obj t=>t.TypeIs obj "reversed" /\ Q obj t) Fg (F.typeCall_reversed_1 _) F.entry_object_init (fX hl hz fun tk=>⟨⟨_,Heap.get?_push_size _ rfl,rfl⟩,h tk⟩) fun obj t ht=>?_
 exact ⟨ht.1,F.args_object_init_2 obj _,object_init_meets Fg.init.lookup Fg.made (by decide) prog w A.in1 _ t ⟨ht.1,rfl,ht.2⟩⟩
theorem fV {it l:Addr} {i:Nat} {items:Array Value} {x:Value} {Q:Option Value->Shared->Prop} (hit:IsRvT s.heap it l (i:Int)) (hl:IsTup s.heap l items) (hz:items.size<=sizeLine) (hx:items[i]? = some x)
   (hQ:∀ h' tk,IsRvT h' it l ((i:Int) - 1)->Heap.SameBut it s.heap h'->Q (some x) { s with heap:=h',toks:=tk }):wpAny (model prog w) A (pyNext (.ref it)) Q E s:=by
 obtain ⟨o,ho,hc,hd⟩:=id hit
 have hi:i < items.size:=by
   rcases Nat.lt_or_ge i items.size with h | h
   . exact h
   . simp [h] at hx
 have hn:=Be
 unfold pyNext
 refine wpAny_bind (wpAny_attempt ?_)
 refine wpAny_callSpecial?_slot (name:=Str.ofString "__next__") hit.typeIs P0 ?_
 refine wpAny_call_entry P0 hit.typeIs Cz ?_ (Er _)
 unfold Builtin.«reversed.__next__»
 refine wpAny_bind (wpAny_of_eq (a:=(Value.ref it,[])) rfl ?_)
 try dsimp only
 refine wpAny_bind (wpAny_field ho hd (x:=.ref l) rfl (wpAny_bind (wpAny_field ho hd (x:=rawInt (i:Int)) rfl ?_)))
 show wpAny _ _ (if (i:Int) < 0 then _ else _) _ _ s
 rw [if_neg (by omega)]
 refine wpAny_bind (wpAny_specialOf hl.typeIs slot_tuple_getitem.lookup ?_)
 rw [if_neg (by simp)]
 refine wpAny_bind (wpAny_mkInt (wpAny_bind (wpAny_attempt ?_)))
 refine getItem_tuple (s:={ s with toks:=s.toks+1 }) (j:=i) hl (by omega) (by omega) ?_ hx ?_
 . unfold seqIndex?
   first | (simp; omega) | (rw [if_neg (by omega),if_pos (by omega)]; simp) | (split <;> simp_all <;> omega)
 . try dsimp only
   refine wpAny_bind (wpAny_field (s:={ s with toks:=s.toks+1 }) ho hd (x:=rawInt (i:Int)) rfl ?_); show wpAny _ _ (setField (.ref it) 1 (rawInt ((i:Int) - 1))>>=_) _ _ _
   refine wpAny_bind (wpAny_setField (s:={ s with toks:=s.toks+1 }) ho hd (by simp) ?_)
   refine wpAny_pure ⟨x,rfl,wpAny_pure (hQ _ _ ?_ (Heap.SameBut.update ..))⟩; exact ⟨_,Heap.get?_update_self _ ho (Obj.isFreed_of_fields (Obj.data_mapFields hd _)),(Obj.cls_mapFields ..).trans hc,by rw [Obj.data_mapFields hd]; simp⟩
theorem kU {it l:Addr} {j:Int} {Q:Option Value->Shared->Prop} (hj:j < 0) (hh:A.handled=none) (hit:IsRvT s.heap it l j)
   (hQ:∀ h',Heap.ExtBut it s.heap h'->Q none { s with heap:=h' }):wpAny (model prog w) A (pyNext (.ref it)) Q E s:=by
 obtain ⟨o,ho,hc,hd⟩:=id hit
 unfold pyNext
 refine wpAny_bind (wpAny_attempt ?_)
 refine wpAny_callSpecial?_slot (name:=Str.ofString "__next__") hit.typeIs P0 ?_
 refine wpAny_call_entry P0 hit.typeIs Cz ?_ (Er _)
 unfold Builtin.«reversed.__next__»
 refine wpAny_bind (wpAny_of_eq (a:=(Value.ref it,[])) rfl ?_)
 try dsimp only
 refine wpAny_bind (wpAny_field ho hd (x:=.ref l) rfl (wpAny_bind (wpAny_field ho hd (x:=rawInt j) rfl ?_)))
 show wpAny _ _ (if j < 0 then _ else _) _ _ s
 rw [if_pos hj]
 refine wpAny_bind (wpAny_rule ?_)
 have ho1:=Heap.get?_update_self (Obj.mapFields (·.setIfInBounds 1 (rawInt (-1)))) ho (Obj.isFreed_of_fields (Obj.data_mapFields hd _))
 have hd1:=Obj.data_mapFields hd (fun a=>a.setIfInBounds 1 (rawInt (-1)))
 refine wpAny_bind ?_
 show wpAny _ _ (setField (.ref it) 1 (rawInt (-1))>>=fun _=>setField (.ref it) 0 .none) _ _ _
 refine wpAny_bind (wpAny_setField ho hd (by simp) (wpAny_setField ho1 hd1 (by simp) (wpAny_bind ?_)))
 show wpAny _ _ (newExc (.type "StopIteration") []>>=_) _ _ _
 refine wpAny_bind ?_
 simp only [newExc,newTuple]
 refine wpAny_bind (wpAny_newObj_type ?_ (by size_fits))
 refine wpAny_bind (m:=firstArgMember _ _) (wpAny_of_eq (a:=Value.none) (by first | rfl | (simp only [firstArgMember]; rfl)) (wpAny_newObj_type ?_ (by size_fits)))
 simp only [raiseNew]
 refine wpAny_bind (wpAny_handled ?_)
 rw [show A.in1.handled=none from hh]
 refine wpAny_bind (wpAny_pure (wpAny_throw (wpAny_bind ?_)))
 refine wpAny_isInstance (T := "StopIteration") (b:=true) ⟨_,Heap.get?_push_size _ rfl,rfl⟩ isSubtype_stop ?_
 refine wpAny_pure (hQ _ (Heap.ExtBut.push (Heap.ExtBut.push ?_ _) _))
 intro b ob hb eb
 exact ((Heap.SameBut.update ..).extBut b ob hb ((Heap.SameBut.update ..).extBut b ob hb eb))
theorem Vq {it l:Addr} {i:Int} {Q:Value->Shared->Prop} (hit:IsRvT s.heap it l i) (h:Q (.ref it) s):wpAny (model prog w) A (pyIter (.ref it)) Q E s:=by
 refine wpAny_pyIter_slot hit.typeIs Ep (wpAny_call_entry Ep hit.typeIs Lo ?_ (Op _))
 show wpAny _ _ (ret (.ref it)) _ _ s
 exact wpAny_pure ⟨_,rfl, "reversed",_,hit.typeIs,P0.lookup,h⟩
end
def ItV (K:PySem.W.Frag) (a:Addr) (n:Nat):It :=
 ⟨fun i H=>i < n/\∃ xs x,SqT K H a xs/\xs.length=n/\xs[n - 1 - i]? = some x,fun i H x H'=>H'=H/\∀ xs,SqT K H a xs->xs[n - 1 - i]? = some x,fun i H=>n<=i⟩
theorem Zy {P:Program} {w:World} {K:PySem.W.Frag} {tg:Expr} (a it:Addr) (n:Nat):Turn P w K tg (ItV K a n) [it] it (fun i h=>IsRvT h it a ((n:Int) - 1 - i)) where
 mem:=by simp
 obj:=fun i h st b hb=>by
   have e:b=it:=by simpa using hb
   subst e; obtain ⟨o,e,c,d⟩:=st; exact ⟨o,e,fun v z=>by rw [d] at z; cases z⟩
 keep:=fun i h h' st k=>by
   obtain ⟨o,e,r⟩:=st; exact ⟨o,k it (by simp) o e,r⟩
 item:=by
   intro X hP hw hK hc i pins s Z H E I hf st hg; subst hP hw hK; obtain ⟨hi,xs,x,hq,hn,hx⟩:=hg; obtain ⟨its,rv,p,hz⟩:=I.tuple hq; obtain ⟨u,hu,ru⟩:=rv.get hx; have hl:=rv.length; obtain ⟨f0,f1,f2,f3,f4,f5⟩:=hf it (by simp)
   have e1:(n:Int) - 1 - (i:Int)=((n - 1 - i:Nat):Int):=by omega
   rw [e1] at st; refine fV st (show IsTup s.heap a its.toArray from p) (by simp only [List.size_toArray]; omega) (x:=u) (by simpa using hu) fun h' tk st' sb=>?_
   have I1:Inv X pins Z H { s with heap:=h',toks:=tk }:=I.turned (t':=tk) (fun b o hb e=>(sb.2 b hb).trans e) f0 f1 f3 f4 f5
   obtain ⟨o,e,c,d⟩:=id st'; refine ⟨u,rfl,Mz (s:={ s with heap:=h',toks:=tk }) e c d (by decide) ⟨x,H,I1,ru,⟨rfl,fun ys hy=>by rw [I.tuple_inj hy hq]; exact hx⟩,?_,fun b hb=>(hf b hb).1⟩⟩
   have e2:((n - 1 - i:Nat):Int) - 1=(n:Int) - 1 - ((i+1:Nat):Int):=by omega
   rw [e2] at st'; exact st'
 done:=by
   intro X hP hw hK hc i pins s Z H E I hf st hg; subst hP hw hK; have hi:n<=i:=hg; obtain ⟨f0,f1,f2,f3,f4,f5⟩:=hf it (by simp)
   exact kU (by omega) (I.ok.hd hc) st fun h' eb=>⟨rfl,I.turned (t':=s.toks) (fun b o hb e=>eb b o hb e) f0 f1 f3 f4 f5⟩
 self:=fun _ _ _ _ _ st h=>Vq st h
theorem Zv {K:PySem.W.Frag} {G:Hp} {a:Addr} {xs:List V} {ds:List PyData} (h:G a=some (.tup xs)) (l:RepL G ds xs):Walk (ItV K a xs.length) G ds.reverse where
 go:=fun i H hi hG=>by
   have hi':i < xs.length:=by rw [<- l.length]; simpa using hi
   exact ⟨hi',xs,xs[xs.length - 1 - i],.inl (.inl (hG _ _ h)),rfl,by simp⟩
 yld:=fun i d G2 H x H' e h1 h2 hy=>by
   obtain ⟨rfl,hy⟩:=hy; have hlen:=l.length; have hi:i < ds.length:=by
     rcases Nat.lt_or_ge i ds.length with z | z
     . exact z
     . rw [List.getElem?_eq_none (by simpa using z)] at e; cases e
   rw [List.getElem?_reverse hi] at e; obtain ⟨y,e1,r⟩:=l.get e; have:=hy xs (.inl (.inl (h2 _ _ (h1 _ _ h)))); rw [hlen] at e1; rw [e1] at this; cases this; exact ⟨G2,Grow.refl h2,r.mono h1⟩
 stop:=fun i H hi hG=>by
   show xs.length<=i
   rw [<- l.length]; simpa using hi
noncomputable def Qx:PyData->Res (List PyData)
 | .tuple ds=>.ok ds.reverse
 | _=>.no
noncomputable section
variable {P:Program} {w:World} {K:PySem.W.Frag} {mg:Str->Option Value} {base:Heap} {X:Cx} {N:List Str} {sc:Scope} {k:Nat} {df:Bool} {E:EK} {pos p:Pos} {tg a:Expr} {f:Dn->Res PyData}
theorem i_rev (C:Cxt P w K mg base X N sc k df) (h:okGl sc "reversed" = true) (hm:mg "reversed" = none) (ha:DE X E a f) (he:starEach [a] X.env=(false,eval a X.env)::starEach [] X.env:=by rfl) (hpl:(backTo pos (starEach [] X.env)).any (·.1)=false:=by rfl) :
   DI X E tg (.Call (.Name "reversed" p) [a] [] pos) (fun δ=>(f δ).bind Qx):=by
 intro pins s Z H R I ⟨G,δ,S,aft⟩
 obtain ⟨h1,h2,h3⟩:=okGl.gl C h
 have hh:=Ib (R:=fun v H1=>∃ v0 G1 d,[v]=[v0]/\Same G1 H1/\Rep G1 d v0/\AftI E G1 H1 (Qx d) R) (W:=fun G H r=>AftI E G H r R) S aft (fun g a=>AftI.grow g a) (fun c a=>a) (fun a=>a) fun d v G1 H1 g1 r1 S1 a1=>⟨v,G1,d,rfl,S1.sub,r1,a1⟩
 refine wpAny_Call_Name_kw (Fv I h1 (by rw [C.hmg]; exact hm) (show bootBuiltins "reversed" = some (.type "reversed") by decide +kernel) ?_ h3 h2)
 refine PyProof.Rows.callWith_type1 (thn ((Q9 ha Ai he) pos pins s Z H (fun vs H1=>∃ v G1 d,vs=[v]/\Same G1 H1/\Rep G1 d v/\AftI E G1 H1 (Qx d) R) I ?_) fun us s1 ⟨vs,H1,I1,rx,v,G1,d,ev,hG,rd,a1⟩=>?_) he hpl
 . exact hh
 . subst ev
   obtain ⟨u,rfl,ru⟩:=Vals.one rx
   cases d with
   | tuple ds =>
     obtain ⟨q,xs,rfl,hq,l1⟩:=rd; cases ru; obtain ⟨zz,its,rv,e1⟩:=Fk I1 hG hq; have hl:=rv.length; refine fY (show IsTup s1.heap q its.toArray from e1) (by simp only [List.size_toArray]; omega) fun tk=>?_
     have I2:Inv X pins Z H1 { s1 with heap:=s1.heap.push { cls:=.type "reversed",data:=.fields #[.ref q,rawInt ((its.toArray.size:Int) - 1)] },toks:=tk }:=I1.kept (t':=tk) fun b o e=>Heap.get?_push_of_some _ e
     have st:IsRvT (s1.heap.push { cls:=.type "reversed",data:=.fields #[.ref q,rawInt ((its.toArray.size:Int) - 1)] }) s1.heap.objs.size q ((xs.length:Int) - 1 - ((0:Nat):Int)):=⟨_,Heap.get?_push_size _ rfl,rfl,by simp [hl]⟩
     refine Vq (s:={ s1 with heap:=s1.heap.push { cls:=.type "reversed",data:=.fields #[.ref q,rawInt ((its.toArray.size:Int) - 1)] },toks:=tk }) st ?_; refine ⟨s1.heap.objs.size,[s1.heap.objs.size],_,_,H1,rfl,I2,Zy q _ xs.length,st,fun b hb=>?_,a1 _ G1 H1 (Grow.refl hG) (Zv hq l1)⟩
     have e:b=s1.heap.objs.size:=by simpa using hb
     subst e; exact I1.fpOk (Nat.le_refl _) (I1.hok.fresh (Nat.le_refl _))
   | _=>exact (show False from a1).elim
end
end Sm
end
noncomputable section
namespace Sm
open PySem PySem.Spec PyProof.Rows L2
end Sm
end
noncomputable section
namespace Sm
open PySem PySem.Spec PySem.W PyProof.Rows
end Sm
end
noncomputable section
namespace Sm
open PySem PySem.Spec PySem.W PyProof.Rows L2
end Sm
end
noncomputable section
namespace Sm
open PySem PySem.Spec PyProof.Rows L2
end Sm
end
noncomputable section
namespace Sm
open PySem PySem.Spec PyProof.Rows L2
end Sm
end
noncomputable section
namespace Sm
open PySem PySem.Spec PyProof.Rows L2
end Sm
end
noncomputable section
namespace Sm
open PySem PySem.Spec PyProof.Rows PySem.W L2
structure NAt (h:Heap) (v:Value) (d:PyData):Prop where
 rd:∃ as,Reads h v d as
 nk:d=.none\/(isK d=true/\((∃ xs,d=.tuple xs)\/∃ z,d=.str z))
 lay:d.canLay0=true
 dp:d.depth<=8
theorem Gd {a b:PyData} (ha:a=.none\/(isK a=true/\((∃ xs,a=.tuple xs)\/∃ z,a=.str z))) (hb:b=.none\/(isK b=true/\((∃ xs,b=.tuple xs)\/∃ z,b=.str z))):PyData.eqv a b=true↔a=b:=by
 rcases ha with rfl | ⟨ha,ha'⟩
 . rcases hb with rfl | ⟨_,⟨ys,rfl⟩ | ⟨z,rfl⟩⟩
   . exact ⟨fun _=>rfl,fun _=>rfl⟩
   . exact ⟨fun h=>(by simp [PyData.eqv] at h),fun h=>nomatch h⟩
   . exact ⟨fun h=>(by simp [PyData.eqv] at h),fun h=>nomatch h⟩
 . rcases hb with rfl | ⟨hb,_⟩
   . rcases ha' with ⟨xs,rfl⟩ | ⟨z,rfl⟩
     . exact ⟨fun h=>(by simp [PyData.eqv] at h),fun h=>nomatch h⟩
     . exact ⟨fun h=>(by simp [PyData.eqv] at h),fun h=>nomatch h⟩
   . exact eqvK _ _ ha hb
noncomputable section
variable {prog:Program} {w:World} {A:Around} {E:Value->Shared->Prop} {s:Shared}
theorem NAt.val {h:Heap} {v:Value} {d:PyData} (x:NAt h v d):(d=.none/\v=.none)\/(∃ z t,d=.str z/\v=.str z t)\/∃ b,v=.ref b:=by
 obtain ⟨as,r⟩:=x.rd
 rcases x.nk with rfl | ⟨_,⟨xs,rfl⟩ | ⟨z,rfl⟩⟩
 . cases r; exact .inl ⟨rfl,rfl⟩
 . cases r; exact .inr (.inr ⟨_,rfl⟩)
 . cases r; exact .inr (.inl ⟨_,_,rfl,rfl⟩)
theorem NAt.hash {v:Value} {d:PyData} {Q:Int->Shared->Prop} (x:NAt s.heap v d) (hu:A.units+8 < cLine) (q:∀ tk,Q (O7 w d) { s with toks:=tk }):wpAny (model prog w) A (pyHash v) Q E s:=by
 obtain ⟨as,r⟩:=x.rd
 rcases x.nk with rfl | ⟨hk,hk'⟩
 . cases r
   unfold pyHash; have hv:[Value.none].any Value.onHeap=false:=rfl; have hT:s.TypeIs Value.none "NoneType" := rfl; refine wpAny_bind ?_; rw [cRoomFor,if_neg (by rw [hv]; decide)]
   refine wpAny_pure (wpAny_bind (wpAny_specialOf hT F.slot_NoneType_hash.lookup ?_)); show wpAny _ _ (if (some (Value.builtin "NoneType.__hash__")==some Value.none)=true then _ else _) Q E s
   rw [if_neg (by rw [beq_builtin_none]; decide)]
   refine wpAny_bind (wpAny_specialOf hT F.slot_NoneType_hash.lookup ?_); show wpAny _ _ (callSpecialIfBoundUnlessNone? Value.none "__hash__" _>>=_) Q E s
   refine wpAny_bind (wpAny_callSpecialIfBoundUnlessNone?_slot hT F.slot_NoneType_hash (wpAny_call_entry F.slot_NoneType_hash hT F.entry_NoneType_hash (show wpAny _ _ (do ret (<- mkInt 0xFCA86420)) _ _ s from wpAny_ret_mkInt ?_) (F.args_NoneType_hash_1 _)))
   show wpAny _ _ (if (decide (-(2:Int) ^ 63<=0xFCA86420)&&decide ((0xFCA86420:Int) < 2 ^ 63))=true then _ else _) Q E _
   rw [if_pos (by decide)]; exact wpAny_pure (q _)
 . have e:O7 w d=Sh w d:=by rcases hk' with ⟨_,rfl⟩ | ⟨_,rfl⟩ <;> rfl
   rw [e] at q; exact Kk _ _ as A s Q hk r (by have:=x.dp; omega) fun tk _=>q tk
theorem NAt.quiet {v:Value} {d:PyData} {Q:Bool->Shared->Prop} (x:NAt s.heap v d) (q:Q true s):wpAny (model prog w) A (eqIsQuiet 8 v) Q E s:=by
 obtain ⟨as,r⟩:=x.rd
 rcases x.nk with rfl | ⟨hk,hk'⟩
 . cases r; exact wpAny_pure q
 . exact Ha 8 _ _ as s Q hk x.dp r q
theorem NAt.eq {v u:Value} {a b:PyData} {Q:Bool->Shared->Prop} (x:NAt s.heap v a) (y:NAt s.heap u b) (hu:A.units+8 < cLine) (q:Q (PyData.eqv a b) s):wpAny (model prog w) A (eqBool v u) Q E s:=by
 obtain ⟨as,r⟩:=x.rd
 obtain ⟨bs,r'⟩:=y.rd
 exact SeqAt.eqBoolOverData prog w A E s v u a b as bs Q r r' x.lay y.lay (by have:=x.dp; omega) q
structure EsN (w:World) (h:Heap) (es:Array DictEntry) (ks:List PyData):Prop where
 len:es.size=ks.length
 ent:∀ (i:Nat) e,es[i]? = some e->∃ k,ks[i]? = some k/\NAt h e.key k/\e.hash=O7 w k
 nd:ks.Nodup
theorem Uo {d:Addr} {o:Obj} {es:Array DictEntry} {ep:Nat} {ks:List PyData} {key:Value} {k:PyData} {Q:Option Nat->Shared->Prop} (hu:A.units+8 < cLine) (ho:s.heap.get? d=some o) (hd:o.data=.dict es ep) (N:EsN w s.heap es ks) (x:NAt s.heap key k)
   (q1:∀ i,ks[i]? = some k->Q (some i) s) (q0:k∉ks->Q none s):wpAny (model prog w) A (dictFind d key (O7 w k)) Q E s:=by
 have same:∀ i j a,ks[i]? = some a->ks[j]? = some a->i=j:=fun i j a h1 h2=>by
   have hi:=(List.getElem?_eq_some_iff.mp h1).1; have hj:=(List.getElem?_eq_some_iff.mp h2).1; have e1:=(List.getElem?_eq_some_iff.mp h1).2; have e2:=(List.getElem?_eq_some_iff.mp h2).2; exact (List.getElem_inj (h₀:=hi) (h₁:=hj) N.nd).mp (e1.trans e2.symm)
 unfold dictFind
 try with_reducible refine wpAny_holding ?_
 refine wpAny_bind (wpAny_dictEntries ho hd ?_)
 dsimp only
 have hin:∀ i∈placesWithHash es.size (fun i=>es[i]?.map (·.hash)) (O7 w k),∃ e,es[i]? = some e/\(e.hash==O7 w k)=true:=fun i hi=>by
   unfold placesWithHash at hi; have:=(List.mem_filter.mp hi).2; simp only at this
   cases he:es[i]? with
   | none=>rw [he] at this; cases this
   | some e=>rw [he] at this; exact ⟨e,rfl,by simpa using this⟩
 have hat:∀ i,ks[i]? = some k->i∈placesWithHash es.size (fun i=>es[i]?.map (·.hash)) (O7 w k):=fun i hi=>by
   have hlt:i < es.size:=by rw [N.len]; exact (List.getElem?_eq_some_iff.mp hi).1
   have he:es[i]? = some es[i]:=Array.getElem?_eq_getElem hlt; obtain ⟨k',e1,_,e3⟩:=N.ent i _ he; rw [hi] at e1; cases e1; unfold placesWithHash; refine List.mem_filter.mpr ⟨List.mem_range.mpr hlt,?_⟩; show (es[i]?.map (·.hash)==some (O7 w k))=true
   rw [he]; simp [e3]
 have hnd:(placesWithHash es.size (fun i=>es[i]?.map (·.hash)) (O7 w k)).Nodup:=List.Pairwise.filter _ List.nodup_range
 generalize placesWithHash es.size (fun i=>es[i]?.map (·.hash)) (O7 w k)=places at *
 have lst:∀ i,(ks[i]? = some k->i∈([]:List Nat))->ks[i]? ≠ some k:=fun i h z=>nomatch h z
 have no:(∀ i,ks[i]? = some k->i∈([]:List Nat))->k∉ks:=fun h z=>by
   obtain ⟨i,hi⟩:=List.mem_iff_getElem?.mp z; exact nomatch h i hi
 have plain:wpAny (model prog w) A (dictWalkPlain d key (O7 w k) es places) Q E s:=by
   unfold dictWalkPlain; refine wpAny_bind ?_; refine wpAny_forIn_list _ (fun K1 r s'=>s'=s/\r=(none,())/\(∀ i∈K1,i∈places)/\∀ i,ks[i]? = some k->i∈K1) _ ?_ ?_ _ _ ⟨rfl,rfl,fun _ h=>h,hat⟩
   . rintro i more r s' ⟨rfl,rfl,hsub,hall⟩
     obtain ⟨e,he,hh⟩:=hin i (hsub i (.head _)); obtain ⟨k',e1,y,_⟩:=N.ent i e he; rw [he]; dsimp only; rw [if_pos hh]; refine wpAny_bind (wpAny_dictEpoch ho hd ?_); refine wpAny_bind (y.eq x hu ?_); refine wpAny_bind (wpAny_dictEpoch ho hd ?_); rw [if_neg (by simp)]
     by_cases c:k'=k
     . subst c
       rw [if_pos ((Gd y.nk x.nk).mpr rfl)]; refine wpAny_bind (wpAny_rule (wpAny_pure ?_)); exact wpAny_pure (q1 i e1)
     . rw [if_neg (fun z=>c ((Gd y.nk x.nk).mp z))]
       refine wpAny_bind (wpAny_rule (wpAny_pure ?_)); refine ⟨rfl,rfl,fun j hj=>hsub j (.tail _ hj),fun j hj=>?_⟩
       rcases List.mem_cons.mp (hall j hj) with rfl | z
       . rw [e1] at hj; cases hj; exact absurd rfl c
       . exact z
   . rintro r s' ⟨rfl,rfl,_,hall⟩
     exact wpAny_pure (q0 (no hall))
 have hwalk : ∀ (f : Nat -> Option (Option Nat) × Option Nat -> Sem (ForInStep (Option (Option Nat) × Option Nat))), (∀ i e k' r2 (Q' : ForInStep (Option (Option Nat) × Option Nat) -> Shared -> Prop), es[i]? = some e -> (e.hash == O7 w k) = true -> NAt s.heap e.key k' ->
     (k'=k->r2=none/\Q' (.done (some (some i),none)) s/\Q' (.yield (none,some i)) s)->(k'≠k->Q' (.yield (none,r2)) s)->wpAny (model prog w) A (f i (none,r2)) Q' E s) ->
     wpAny (model prog w) A (forIn places (none,none) f) (fun r s'=>s'=s/\((r.1=none/\((r.2=none/\k∉ks)\/∃ i,r.2=some i/\ks[i]? = some k))\/∃ i,r.1=some (some i)/\ks[i]? = some k)) E s:=fun f hf=>by
   refine wpAny_forIn_list _ (fun K1 r s'=>s'=s/\r.1=none/\(∀ i∈K1,i∈places)/\K1.Nodup/\((r.2=none/\∀ i,ks[i]? = some k->i∈K1)\/∃ i,r.2=some i/\ks[i]? = some k/\i∉K1)) _ ?_ ?_ _ _ ⟨rfl,rfl,fun _ h=>h,hnd,.inl ⟨rfl,hat⟩⟩
   . rintro i more ⟨r1,r2⟩ s' ⟨rfl,rfl,hsub,hn,hr⟩
     obtain ⟨e,he,hh⟩:=hin i (hsub i (.head _)); obtain ⟨k',e1,y,_⟩:=N.ent i e he; rw [List.nodup_cons] at hn; refine hf i e k' r2 _ he hh y (fun c=>?_) fun c=>?_
     . subst c
       have h2:r2=none:=by
         rcases hr with ⟨z,_⟩ | ⟨j,_,z2,z3⟩
         . exact z
         . exact absurd (same i j _ e1 z2▸List.mem_cons_self) z3
       exact ⟨h2,⟨rfl,.inr ⟨i,rfl,e1⟩⟩,rfl,rfl,fun j hj=>hsub j (.tail _ hj),hn.2,.inr ⟨i,rfl,e1,hn.1⟩⟩
     . refine ⟨rfl,rfl,fun j hj=>hsub j (.tail _ hj),hn.2,?_⟩
       rcases hr with ⟨z,hall⟩ | ⟨j,z1,z2,z3⟩
       . refine .inl ⟨z,fun j hj=>?_⟩
         rcases List.mem_cons.mp (hall j hj) with rfl | z'
         . rw [e1] at hj; cases hj; exact absurd rfl c
         . exact z'
       . exact .inr ⟨j,z1,z2,fun z=>z3 (.tail _ z)⟩
   . rintro ⟨r1,r2⟩ s' ⟨rfl,rfl,_,_,hr⟩
     rcases hr with ⟨rfl,hall⟩ | ⟨j,rfl,z2,_⟩
     . exact ⟨rfl,.inl ⟨rfl,.inl ⟨rfl,no hall⟩⟩⟩
     . exact ⟨rfl,.inl ⟨rfl,.inr ⟨j,rfl,z2⟩⟩⟩
 have tell:∀ (Q':Bool->Shared->Prop),Q' false s->wpAny (model prog w) A (tableMayTell key (places.filterMap fun i=>es[i]?.map (·.key))) Q' E s:=fun Q' q'=>by
   unfold tableMayTell
   split
   . exact wpAny_pure q'
   . refine wpAny_bind (x.quiet ?_)
     rw [if_neg (by decide)]; refine wpAny_bind ?_; refine wpAny_forIn_list _ (fun K1 r s'=>s'=s/\r=(none,())/\∀ v∈K1,∃ k',NAt s.heap v k') _ ?_ ?_ _ _ ⟨rfl,rfl,fun v hv=>?_⟩
     . rintro v more r s' ⟨rfl,rfl,hr⟩
       obtain ⟨k',y⟩:=hr v (.head _); refine wpAny_bind (y.quiet ?_); rw [if_neg (by decide)]; exact wpAny_pure ⟨rfl,rfl,fun v hv=>hr v (.tail _ hv)⟩
     . rintro r s' ⟨rfl,rfl,_⟩
       exact wpAny_pure q'
     . obtain ⟨i,_,hi⟩:=List.mem_filterMap.mp hv
       cases he:es[i]? with
       | none=>rw [he] at hi; cases hi
       | some e =>
         rw [he] at hi; have hk:e.key=v:=by simpa using hi
         obtain ⟨k',_,y,_⟩:=N.ent i e he; exact ⟨k',hk▸y⟩
 have fork:∀ (m:Bool->Sem (Option Nat)),wpAny (model prog w) A (m false) Q E s->wpAny (model prog w) A (if ((places.filterMap fun i=>es[i]?.map (·.key))==[key])=true then (pure false>>=m) else (tableMayTell key (places.filterMap fun i=>es[i]?.map (·.key))>>=m)) Q E s:=fun m h=>by
   split
   . exact wpAny_bind (wpAny_pure h)
   . exact wpAny_bind (tell _ h)
 rcases x.val with ⟨_,rfl⟩ | ⟨z,t,rfl,rfl⟩ | ⟨b,rfl⟩
 . dsimp only
   by_cases hc:(Value.none::places.filterMap fun i=>es[i]?.map (·.key)).all carriedByValue=true
   . rw [if_pos hc]; exact plain
   . rw [if_neg hc]
     refine fork _ ?_; rw [if_neg (by simp)]; refine wpAny_bind (wpAny_mono (hwalk _ fun i e k' r2 Q' he hh y c1 c0=>?_) (fun r s' z=>?_) fun _ _ z=>z)
     . dsimp only
       rw [he]; dsimp only; rw [if_pos hh]; refine wpAny_bind (wpAny_dictEpoch ho hd (wpAny_bind (y.eq x hu (wpAny_bind (wpAny_dictEpoch ho hd ?_))))); rw [if_neg (by simp)]
       by_cases c:k'=k
       . obtain ⟨rfl,d1,d2⟩:=c1 c
         rw [if_pos ((Gd y.nk x.nk).mpr c),if_neg (by simp)]; refine wpAny_bind (wpAny_rule ?_)
         split
         . exact wpAny_pure d1
         . exact wpAny_pure d2
       . rw [if_neg (fun z=>c ((Gd y.nk x.nk).mp z))]
         refine wpAny_bind (wpAny_rule ?_); rw [if_neg (by simp)]; exact wpAny_pure (c0 c)
     . obtain ⟨r1,r2⟩:=r
       obtain ⟨rfl,z⟩:=z; rcases z with ⟨rfl,z⟩ | ⟨i,rfl,z⟩
       . rcases z with ⟨rfl,z⟩ | ⟨i,rfl,z⟩
         . exact wpAny_pure (q0 z)
         . exact wpAny_pure (q1 i z)
       . exact wpAny_pure (q1 i z)
 . by_cases hall:(es.all fun e=>isExactStrKey e.key)=true
   . dsimp only
     rw [if_pos hall]; have isk:∀ (i:Nat) e,es[i]? = some e->(e.key.isStr z=true↔ks[i]? = some (.str z)):=fun i e he=>by
       obtain ⟨k',e1,y,_⟩:=N.ent i e he; rw [e1]; rcases y.val with ⟨rfl,hv⟩ | ⟨z',t',rfl,hv⟩ | ⟨b,hv⟩
       . rw [hv]; exact ⟨fun h=>(by cases h),fun h=>absurd h (by simp)⟩
       . rw [hv]
         show (z'==z)=true↔_
         rw [beq_iff_eq]; exact ⟨fun h=>(by rw [h]),fun h=>(by cases h; rfl)⟩
       . rw [hv]
         have:=Array.all_eq_true'.mp hall e (Array.mem_of_getElem? he); rw [hv] at this; cases this
     unfold foundByValue
     cases hf:es.findIdx? (·.key.isStr z) with
     | none =>
       refine wpAny_pure (q0 fun hm=>?_)
       obtain ⟨i,hi⟩:=List.mem_iff_getElem?.mp hm; have hlt:i < es.size:=by rw [N.len]; exact (List.getElem?_eq_some_iff.mp hi).1
       have:=Array.findIdx?_eq_none_iff.mp hf es[i] (Array.getElem_mem hlt); rw [(isk i _ (Array.getElem?_eq_getElem hlt)).mpr hi] at this; cases this
     | some i =>
       obtain ⟨hlt,hp,_⟩:=Array.findIdx?_eq_some_iff_getElem.mp hf; have he:es[i]? = some es[i]:=Array.getElem?_eq_getElem hlt; have hi:=(isk i _ he).mp hp; obtain ⟨k',e1,y,_⟩:=N.ent i _ he; rw [hi] at e1; cases e1; dsimp only; rw [he]; dsimp only; refine wpAny_bind (wpAny_dictEpoch ho hd (wpAny_bind (y.eq x hu (wpAny_bind (wpAny_dictEpoch ho hd ?_))))); rw [if_neg (by simp),if_pos ((Gd y.nk x.nk).mpr rfl)]; exact wpAny_bind (wpAny_rule (wpAny_pure (q1 i hi)))
   . dsimp only
     rw [if_neg hall]
     by_cases hc:(Value.str z t::places.filterMap fun i=>es[i]?.map (·.key)).all carriedByValue=true
     . rw [if_pos hc]; exact plain
     . rw [if_neg hc]
       refine fork _ ?_; rw [if_neg (by simp)]; refine wpAny_bind (wpAny_mono (hwalk _ fun i e k' r2 Q' he hh y c1 c0=>?_) (fun r s' z=>?_) fun _ _ z=>z)
       . dsimp only
         rw [he]; dsimp only; rw [if_pos hh]; refine wpAny_bind (wpAny_dictEpoch ho hd (wpAny_bind (y.eq x hu (wpAny_bind (wpAny_dictEpoch ho hd ?_))))); rw [if_neg (by simp)]
         by_cases c:k'=.str z
         . obtain ⟨rfl,d1,d2⟩:=c1 c
           rw [if_pos ((Gd y.nk x.nk).mpr c),if_neg (by simp)]; refine wpAny_bind (wpAny_rule ?_)
           split
           . exact wpAny_pure d1
           . exact wpAny_pure d2
         . rw [if_neg (fun z=>c ((Gd y.nk x.nk).mp z))]
           refine wpAny_bind (wpAny_rule ?_); rw [if_neg (by simp)]; exact wpAny_pure (c0 c)
       . obtain ⟨r1,r2⟩:=r
         obtain ⟨rfl,z⟩:=z; rcases z with ⟨rfl,z⟩ | ⟨i,rfl,z⟩
         . rcases z with ⟨rfl,z⟩ | ⟨i,rfl,z⟩
           . exact wpAny_pure (q0 z)
           . exact wpAny_pure (q1 i z)
         . exact wpAny_pure (q1 i z)
 . dsimp only
   by_cases hc:(Value.ref b::places.filterMap fun i=>es[i]?.map (·.key)).all carriedByValue=true
   . rw [if_pos hc]; exact plain
   . have hno : (es.any fun e => e.key == .ref b && e.hash != O7 w k) = false := by
       rw [Array.any_eq_false]; intro i hi; obtain ⟨k',e1,y,e3⟩:=N.ent i es[i] (Array.getElem?_eq_getElem hi)
       by_cases c:es[i].key=.ref b
       . have : k' = k := by
           rw [c] at y; obtain ⟨as,r1⟩:=x.rd; obtain ⟨bs,r2⟩:=y.rd; exact SeqAt.Reads.unique k' k _ _ _ y.lay r2 r1
         rw [e3,this]; simp
       . intro z
         rw [Bool.and_eq_true] at z; exact c (eq_of_beq z.1)
     rw [if_neg hc,if_neg (by rw [hno]; decide)]
     refine fork _ ?_; rw [if_neg (by simp)]; refine wpAny_bind (wpAny_mono (hwalk _ fun i e k' r2 Q' he hh y c1 c0=>?_) (fun r s' z=>?_) fun _ _ z=>z)
     . dsimp only
       rw [he]; dsimp only; rw [if_pos hh]; refine wpAny_bind (wpAny_dictEpoch ho hd (wpAny_bind (y.eq x hu (wpAny_bind (wpAny_dictEpoch ho hd ?_))))); rw [if_neg (by simp)]
       by_cases c:k'=k
       . obtain ⟨rfl,d1,d2⟩:=c1 c
         rw [if_pos ((Gd y.nk x.nk).mpr c),if_neg (by simp)]; refine wpAny_bind (wpAny_rule ?_)
         split
         . exact wpAny_pure d1
         . exact wpAny_pure d2
       . rw [if_neg (fun z=>c ((Gd y.nk x.nk).mp z))]
         refine wpAny_bind (wpAny_rule ?_); rw [if_neg (by simp)]; exact wpAny_pure (c0 c)
     . obtain ⟨r1,r2⟩:=r
       obtain ⟨rfl,z⟩:=z; rcases z with ⟨rfl,z⟩ | ⟨i,rfl,z⟩
       . rcases z with ⟨rfl,z⟩ | ⟨i,rfl,z⟩
         . exact wpAny_pure (q0 z)
         . exact wpAny_pure (q1 i z)
       . exact wpAny_pure (q1 i z)
end
end Sm
end
noncomputable section
namespace Sm
open PySem PySem.Spec PyProof.Rows PySem.W L2
noncomputable section
variable {prog:Program} {w:World} {A:Around} {E:Value->Shared->Prop} {s:Shared}
theorem hu8 {A:Around} (h:A.units+16 < cLine):A.in1.units+8 < cLine:=by simp only [Around.in1_units]; omega
theorem EsN.get {h:Heap} {es:Array DictEntry} {ks:List PyData} (N:EsN w h es ks) {i:Nat} {k:PyData} (hi:ks[i]? = some k):∃ e,es[i]? = some e:=by
 have hlt:i < es.size:=by rw [N.len]; exact (List.getElem?_eq_some_iff.mp hi).1
 exact ⟨_,Array.getElem?_eq_getElem hlt⟩
theorem Ge {d:Addr} {o:Obj} {es:Array DictEntry} {ep:Nat} {ks:List PyData} {key:Value} {k:PyData} {Q:Option Value->Shared->Prop} (hu:A.units+8 < cLine) (ho:s.heap.get? d=some o) (hd:o.data=.dict es ep) (N:EsN w s.heap es ks) (x:NAt s.heap key k)
   (q1:∀ (i:Nat) (e:DictEntry) tk,ks[i]? = some k->es[i]? = some e->Q (some e.val) { s with toks:=tk }) (q0:∀ tk,k∉ks->Q none { s with toks:=tk }):wpAny (model prog w) A (dictGet d key) Q E s:=by
 unfold dictGet
 try with_reducible refine wpAny_holding ?_
 refine wpAny_bind (x.hash hu fun tk=>?_)
 refine wpAny_bind (Uo (s:={ s with toks:=tk }) hu ho hd N x (fun i hi=>?_) fun hn=>wpAny_pure (q0 tk hn))
 obtain ⟨e,he⟩:=N.get hi
 refine wpAny_bind (wpAny_dictEntries (s:={ s with toks:=tk }) ho hd (wpAny_pure ?_))
 rw [he]
 exact q1 i e tk hi he
theorem Uh (d:Addr) (key dflt:Value) (hd:(d==sysModules)=false):MeetsIn prog w (Builtin.«dict.get» ⟨[.ref d,key,dflt],[]⟩) (fun A R s=>∃ (o:Obj) (es:Array DictEntry) (ep:Nat) (ks:List PyData) (k:PyData),A.units+16 < cLine/\s.heap.get? d=some o/\o.data=.dict es ep/\EsN w s.heap es ks/\NAt s.heap key k /\
   (∀ (i:Nat) (e:DictEntry) tk,ks[i]? = some k->es[i]? = some e->R (.ok (.ret e.val)) { s with toks:=tk })/\∀ tk,k∉ks->R (.ok (.ret dflt)) { s with toks:=tk }) :=
 .of_wp fun A R s ⟨o,es,ep,ks,k,hu,ho,hD,N,x,h1,h0⟩=>by
   show wpAny _ _ (dictGet d key>>=_) _ _ s
   refine wpAny_bind (Ge (hu8 hu) ho hD N x (fun i e tk hi he=>wpAny_pure ⟨_,rfl,h1 i e tk hi he⟩) fun tk hn=>?_)
   show wpAny _ _ (Builtin.Dict.missed d key>>=_) _ _ _
   exact wpAny_bind (wpAny_missed_other hd (wpAny_pure ⟨dflt,rfl,h0 tk hn⟩))
theorem Yr (d:Addr) (key:Value) (hd:(d==sysModules)=false):MeetsIn prog w (Builtin.«dict.__contains__» ⟨[.ref d,key],[]⟩) (fun A R s=>∃ (o:Obj) (es:Array DictEntry) (ep:Nat) (ks:List PyData) (k:PyData),A.units+16 < cLine/\s.heap.get? d=some o/\o.data=.dict es ep/\EsN w s.heap es ks/\NAt s.heap key k /\
   (∀ tk,k∈ks->R (.ok (.ret (.bool true))) { s with toks:=tk })/\∀ tk,k∉ks->R (.ok (.ret (.bool false))) { s with toks:=tk }) :=
 .of_wp fun A R s ⟨o,es,ep,ks,k,hu,ho,hD,N,x,h1,h0⟩=>by
   show wpAny _ _ (dictGet d key>>=_) _ _ s
   refine wpAny_bind (Ge (hu8 hu) ho hD N x (fun i e tk hi he=>wpAny_pure ⟨_,rfl,h1 tk (List.mem_of_getElem? hi)⟩) fun tk hn=>?_)
   show wpAny _ _ (Builtin.Dict.pendingKey? d key>>=_) _ _ _
   exact wpAny_bind (wpAny_pendingKey_other hd (wpAny_pure ⟨_,rfl,h0 tk hn⟩))
theorem Rw (d:Addr) (key:Value):MeetsIn prog w (Builtin.«dict.__getitem__» ⟨[.ref d,key],[]⟩) (fun A R s=>∃ (o:Obj) (es:Array DictEntry) (ep:Nat) (ks:List PyData) (k:PyData),A.units+16 < cLine/\s.heap.get? d=some o/\o.data=.dict es ep/\EsN w s.heap es ks/\NAt s.heap key k/\k∈ks /\
   (∀ (i:Nat) (e:DictEntry) tk,ks[i]? = some k->es[i]? = some e->R (.ok (.ret e.val)) { s with toks:=tk })) :=
 .of_wp fun A R s ⟨o,es,ep,ks,k,hu,ho,hD,N,x,hm,h1⟩=>by
   show wpAny _ _ (dictGet d key>>=_) _ _ s
   exact wpAny_bind (Ge (hu8 hu) ho hD N x (fun i e tk hi he=>wpAny_pure ⟨_,rfl,h1 i e tk hi he⟩) fun tk hn=>absurd hm hn)
theorem Lr (d:Addr) (key dflt:Value) (hd:(d==sysModules)=false):MeetsIn prog w (Builtin.«dict.setdefault» ⟨[.ref d,key,dflt],[]⟩) (fun A R s=>∃ (L:List DictEntry) (ep:Nat) (ks:List PyData) (k:PyData),A.units+16 < cLine/\s.heap.get? d=some { cls:=.type "dict",data:=.dict (List.toArray L) ep }/\L.length<=sizeLine/\EsN w s.heap L.toArray ks/\NAt s.heap key k /\
   (∀ (i:Nat) (e:DictEntry) tk,ks[i]? = some k->L[i]? = some e->R (.ok (.ret e.val)) { s with toks:=tk }) /\
   ∀ (h':Heap) (tk:Nat),k∉ks->(∀ b o,b≠d->s.heap.get? b=some o->h'.get? b=some o)->h'.get? d=some { cls:=.type "dict",data:=.dict (L++[DictEntry.mk (O7 w k) key dflt]).toArray (ep+1) }->R (.ok (.ret dflt)) { s with heap:=h',toks:=tk }) :=
 .of_wp fun A R s ⟨L,ep,ks,k,hu,ho,hz,N,x,h1,h0⟩=>by
   unfold Builtin.«dict.setdefault»
   refine wpAny_bind ?_; unfold Builtin.Dict.keyAndDefault; refine wpAny_bind (wpAny_notOrdered_dict ⟨_,ho,rfl⟩ ?_); show wpAny _ _ (pure (d,key,some dflt)) _ _ s
   refine wpAny_pure ?_; show wpAny _ _ (if (d==sysModules)=true then _ else (dictSetDefault d key dflt>>=_)) _ _ s
   rw [if_neg (by rw [hd]; exact Bool.false_ne_true)]
   refine wpAny_bind ?_; unfold dictSetDefault
   try with_reducible refine wpAny_holding ?_
   refine wpAny_bind (x.hash (hu8 hu) fun tk=>?_)
   refine wpAny_bind (Uo (s:={ s with toks:=tk }) (hu8 hu) ho rfl N x (fun i hi=>?_) fun hn=>?_)
   . obtain ⟨e,he⟩:=N.get hi
     refine wpAny_bind (wpAny_dictEntries (s:={ s with toks:=tk }) ho rfl ?_); rw [he]; exact wpAny_bind (wpAny_rule (wpAny_pure (wpAny_pure ⟨_,rfl,h1 i e tk hi (by simpa using he)⟩)))
   . refine wpAny_bind (wpAny_rule (wpAny_bind (wpAny_updateDictKeys (hz:=by simpa using hz) (s:={ s with toks:=tk }) ho rfl (wpAny_pure (wpAny_pure ⟨dflt,rfl,h0 _ tk hn (fun b o hb e=>?_) ?_⟩)))))
     . exact (Heap.get?_update_ne _ _ _ _ hb).trans e
     . have:=Heap.get?_update_self (Obj.mapDictKeys fun x=>x.push ⟨O7 w k,key,dflt⟩) ho (Obj.isFreed_of_dict (Obj.data_mapDictKeys rfl _))
       rw [this]; simp [Obj.mapDictKeys]
end
end Sm
end
noncomputable section
namespace Sm
open PySem PySem.Spec PyProof.Rows PySem.W L2
mutual
theorem Ry {H:Hp}:∀ {d:PyData} {v:V},KRep H d v->Rep H d v
 | .none,_,r=>r
 | .int _,_,r=>r
 | .str _,_,r=>r
 | .tuple _,_,r=>by obtain ⟨b,xs,e,q,l⟩:=r; exact ⟨b,xs,e,q,Ms l⟩
 | .bool _,_,r=>(show False from r).elim
 | .list _,_,r=>(show False from r).elim
 | .dict _,_,r=>(show False from r).elim
theorem Ms {H:Hp}:∀ {ds:List PyData} {xs:List V},KRepL H ds xs->RepL H ds xs
 | [],_,r=>r
 | _::_,_,r=>by obtain ⟨x,t,e,q,l⟩:=r; exact ⟨x,t,e,Ry q,Ms l⟩
end
mutual
theorem Qy {G H:Hp} (hG:Same G H):∀ {d:PyData} {v:V},isK d=true->Rep G d v->KRep H d v
 | .int _,_,_,r=>r
 | .str _,_,_,r=>r
 | .tuple _,_,k,r=>by obtain ⟨b,xs,e,q,l⟩:=r; exact ⟨b,xs,e,hG _ _ q,Mk hG (by simpa [isK] using k) l⟩
 | .none,_,k,_=>by simp [isK] at k
 | .bool _,_,k,_=>by simp [isK] at k
 | .list _,_,k,_=>by simp [isK] at k
 | .dict _,_,k,_=>by simp [isK] at k
theorem Mk {G H:Hp} (hG:Same G H):∀ {ds:List PyData} {xs:List V},Dr ds=true->RepL G ds xs->KRepL H ds xs
 | [],_,_,r=>r
 | _::_,_,k,r=>by
   simp only [Dr,Bool.and_eq_true] at k; obtain ⟨x,t,e,q,l⟩:=r; exact ⟨x,t,e,Qy hG k.1 q,Mk hG k.2 l⟩
end
theorem M5 {d:PyData} (hn:nkD d=true):(d=.none\/(isK d=true/\((∃ xs,d=.tuple xs)\/∃ z,d=.str z)))/\d.depth<=8:=by
 unfold nkD at hn
 split at hn
 . exact ⟨.inl rfl,by simp [PyData.depth]⟩
 . exact ⟨.inr ⟨by simp [isK],.inr ⟨_,rfl⟩⟩,by simp [PyData.depth]⟩
 . rw [Bool.and_eq_true] at hn
   exact ⟨.inr ⟨by simpa [isK] using hn.1,.inl ⟨_,rfl⟩⟩,of_decide_eq_true hn.2⟩
 . cases hn
theorem Fj {G H:Hp} (hG:Same G H) {d:PyData} {v:V} (hn:nkD d=true) (r:Rep G d v):KRep H d v:=by
 rcases (M5 hn).1 with rfl | ⟨k,_⟩
 . exact r
 . exact Qy hG k r
noncomputable def K4 (kvs:List (PyData×V)) (k:PyData):Option V:=(kvs.find? fun p=>PyData.eqv p.1 k).map (·.2)
noncomputable def M7 (kvs:List (PyData×PyData)) (k:PyData):Option PyData:=(kvs.find? fun p=>PyData.eqv p.1 k).map (·.2)
theorem Et {G:Hp} {k:PyData}:∀ {kvs:List (PyData×PyData)} {kk:List (PyData×V)},kvs.map (·.1)=kk.map (·.1)->RepL G (kvs.map (·.2)) (kk.map (·.2)) ->
   (M7 kvs k=none/\K4 kk k=none)\/∃ d v,M7 kvs k=some d/\K4 kk k=some v/\Rep G d v
 | [],[],_,_=>.inl ⟨rfl,rfl⟩
 | [],_::_,e,_=>by cases e
 | _::_,[],e,_=>by cases e
 | p::kvs,q::kk,e,r=>by
   simp only [List.map_cons,List.cons.injEq] at e; obtain ⟨x,t,ex,rx,l⟩:=r; simp only [List.map_cons,List.cons.injEq] at ex; unfold M7 K4; rw [List.find?_cons,List.find?_cons,e.1]
   cases hq:PyData.eqv q.1 k with
   | true=>exact .inr ⟨p.2,q.2,rfl,rfl,by rw [ex.1]; exact rx⟩
   | false=>exact Et (k:=k) e.2 (by rw [ex.2]; exact l)
theorem Ch {k:PyData} (hk:nkD k=true):∀ {kk:List (PyData×V)} {i:Nat} {v:V},(∀ p∈kk,nkD p.1=true)->(kk.map (·.1)).Nodup->kk[i]? = some (k,v)->K4 kk k=some v
 | [],_,_,_,_,h=>by simp at h
 | p::kk,i,v,hn,nd,h=>by
   unfold K4; rw [List.find?_cons]; have hp:=Gd (M5 (hn p (.head _))).1 (M5 hk).1
   cases i with
   | zero =>
     simp at h
     subst h; rw [hp.mpr rfl]; rfl
   | succ i =>
     rw [List.map_cons,List.nodup_cons] at nd; have hm:(k,v)∈kk:=List.mem_of_getElem? (by simpa using h)
     cases hq:PyData.eqv p.1 k with
     | true=>exact absurd (by rw [hp.mp hq]; exact List.mem_map_of_mem hm) nd.1
     | false=>exact Ch hk (fun q hq=>hn q (.tail _ hq)) nd.2 (by simpa using h)
theorem Eu {k:PyData} (hk:nkD k=true) {kk:List (PyData×V)} (hn:∀ p∈kk,nkD p.1=true) (h:k∉kk.map (·.1)):K4 kk k=none:=by
 unfold K4
 rw [List.find?_eq_none.mpr]; · rfl
 intro p hp z
 exact h (by rw [<- (Gd (M5 (hn p hp)).1 (M5 hk).1).mp z]; exact List.mem_map_of_mem hp)
theorem Paired.at' {α β:Type} {F:α->β->Prop}:∀ {l₁:List α} {l₂:List β} {i:Nat} {a:α},Paired F l₁ l₂->l₁[i]? = some a->∃ b,l₂[i]? = some b/\F a b
 | _,_,i,_,.nil,h=>by simp at h
 | _,_,0,_,.cons r _,h=>by simp at h; subst h; exact ⟨_,rfl,r⟩
 | _,_,i+1,_,.cons _ t,h=>Paired.at' (i:=i) t (by simpa using h)
noncomputable section
variable {X:Cx} {pins:List (Addr×Obj)} {Z:St} {H:Hp} {s:Shared} {a:Addr} {A:Around} {E:Value->Shared->Prop}
theorem Fq (I:Inv X pins Z H s) {d:PyData} {v:V} {u:Value} (r:KRep H d v) (hv:RelV v u) (hn:nkD d=true):NAt s.heap u d:=by
 have rr:=Ry r
 exact ⟨rr.reads I (Same.refl _) hv,(M5 hn).1,rr.lay,(M5 hn).2⟩
abbrev PrN (H:Hp):PyData×V->Value×Value->Prop:=fun p q=>(∃ v,KRep H p.1 v/\RelV v q.1)/\RelV p.2 q.2
theorem Hw {w:World} {kvs:List (PyData×V)} {xs:List (Value×Value)} (r:Paired (PrN H) kvs xs) {i:Nat} {e:DictEntry} (he:(Q2 w kvs xs)[i]? = some e) :
   ∃ p q,kvs[i]? = some p/\xs[i]? = some q/\PrN H p q/\e=⟨O7 w p.1,q.1,q.2⟩:=by
 unfold Q2 at he
 rw [List.getElem?_zipWith] at he
 cases hp:kvs[i]? with
 | none=>rw [hp] at he; simp at he
 | some p =>
   obtain ⟨q,hq,hF⟩:=Paired.at' r hp; rw [hp,hq] at he; simp at he
   exact ⟨p,q,rfl,hq,hF,he.symm⟩
theorem Paired.len' {α β:Type} {F:α->β->Prop}:∀ {l₁:List α} {l₂:List β},Paired F l₁ l₂->l₁.length=l₂.length
 | _,_,.nil=>rfl
 | _,_,.cons _ t=>by simp [Paired.len' t]
theorem Km (I:Inv X pins Z H s) {kvs:List (PyData×V)} {xs:List (Value×Value)} (r:Paired (PrN H) kvs xs) (nk:∀ p∈kvs,nkD p.1=true) (nd:(kvs.map (·.1)).Nodup):EsN X.w s.heap (Q2 X.w kvs xs).toArray (kvs.map (·.1)) where
 len:=by
   have:=Paired.len' r; simp [Q2,this]
 ent:=fun i e he=>by
   obtain ⟨p,q,h1,h2,⟨⟨v,h3,h4⟩,h5⟩,rfl⟩:=Hw r (by simpa using he)
   exact ⟨p.1,by rw [List.getElem?_map,h1]; rfl,Fq I h3 h4 (nk p (List.mem_of_getElem? h1)),rfl⟩
 nd:=nd
theorem lX {kvs:List (PyData×V)} {kd:PyData} {y d:V} {u r:Value} {Q:Value->Shared->Prop} (hu:A.units+16 < cLine) (I:Inv X pins Z H s) (e:Rd H a (.dN kvs)) (rk:KRep H kd y) (hk:nkD kd=true) (ry:RelV y u) (rd:RelV d r)
   (h:∀ w' s',Inv X pins Z H s'->RelV ((K4 kvs kd).getD d) w'->Q w' s'):wpAny (model X.prog X.w) A (call (.builtin "dict.get") [.ref a,u,r]) Q E s:=by
 obtain ⟨z,hd,nd,nk,xs,rel,ep,e1⟩:=e.ok I.hok
 refine call_meetsIn F.slot_dict_get ⟨_,e1,rfl⟩ F.entry_dict_get (F.args_dict_get_3 _ _ _) (Uh a u r hd) ⟨_,_,ep,kvs.map (·.1),kd,hu,e1,rfl,Km I rel nk nd,Fq I rk ry hk,fun i e tk hi he=>h _ _ (I.tok _) ?_,fun tk hn=>h _ _ (I.tok _) ?_⟩
 . obtain ⟨p,q,h1,h2,⟨_,h5⟩,rfl⟩:=Hw rel (by simpa using he)
   rw [List.getElem?_map,h1] at hi; have hp:p=(kd,p.2):=by
     have:p.1=kd:=by simpa using hi
     rw [<- this]
   rw [hp] at h1; rw [Ch hk nk nd h1]; exact h5
 . rw [Eu hk nk hn]
   exact rd
end
def kK (td ty tx:TE):TE:=fun Z H Q=>td Z H fun x H1=>∃ a kvs,x=.ref a/\Rd H1 a (.dN kvs)/\ty Z H1 fun y H2=>tx Z H2 fun z H3=>∃ kvs kd,Rd H3 a (.dN kvs)/\KRep H3 kd y/\nkD kd=true/\Q ((K4 kvs kd).getD z) H3
noncomputable section
variable {X:Cx} {o e f:Expr} {apos cpos:Pos} {td ty tx:TE}
theorem bZ (hu:X.A.units+16 < cLine) (ho:PE X o td) (he:PE X e ty) (hf:PE X f tx) (m:M2 X o "get" apos e f cpos):PE X (.Call (.Attribute o "get" apos) [e,f] [] cpos) (kK td ty tx):=by
 intro pins s Z H Q I h
 refine wpAny_Call_method m.base m.few m.line PySem.F.plainAttrs_dict PySem.F.slot_dict_get PySem.F.type_dict_get (thn (ho pins s Z H _ I h) fun u s1 ⟨x,H1,I1,rx,a,kvs,ex,d,q1⟩=>?_)
 subst ex
 obtain rfl:u=Value.ref a:=rx
 obtain ⟨_,_,_,_,_,_,ep,e1⟩:=d.ok I1.hok
 refine ⟨⟨_,e1,rfl⟩,fun b q=>by cases q; exact ⟨_,e1,rfl⟩,?_⟩
 rw [m.trees]
 refine Calls.callWith_builtin rfl (Calls.evalArgs_plain (Calls.spliced_cons (thn (he pins s1 Z H1 _ I1 q1) fun iv s2 ⟨y,H2,I2,ry,q2⟩ =>
   Calls.spliced_cons (thn (hf pins s2 Z H2 _ I2 q2) fun fv s3 ⟨z,H3,I3,rz,kvs,kd,g,rk,hk,q3⟩=>Calls.spliced_nil ?_))))
 exact lX hu I3 g rk hk ry rz fun w' s4 I4 rw'=>⟨_,H3,I4,rw',q3⟩
end
noncomputable def kvN (δ:Dn) (i:Nat):Option Kvs:=match δ[i]? with
 | some (.ow (.tuple [.dict kvs,.none]))=>some kvs
 | some (.fd ((.dict [],.none)::kvs))=>some kvs
 | _=>none
theorem SR.kvN {G H:Hp} {Z:St} {δ:Dn} {i:Nat} {kvs:Kvs} (S:SR G H Z δ) (h:kvN δ i=some kvs):∃ q,∃ kk:List (PyData×V),Z[i]? = some (some (.ref q))/\Rd H q (.dN kk)/\kvs.map (·.1)=kk.map (·.1)/\RepL G (kvs.map (·.2)) (kk.map (·.2)):=by
 unfold Sm.kvN at h
 split at h
 . rename_i kvs' hi
   cases h; obtain ⟨q,hσ,hq,ho⟩:=S.own hi; obtain ⟨kk,hx,hk,hv⟩:=(show OwnK G H q [.dict kvs,.none] from ho)
   exact ⟨q,kk,hσ,.inl hx,hk,hv⟩
 . rename_i kvs' hi
   cases h; obtain ⟨q,kk,hp,hx,hk,hv⟩:=(show FdOk G (Z[i]?.join) ((.dict [],.none)::kvs) from S.sl i _ hi)
   refine ⟨q,kk,?_,Rd.mono S.sub hx,hk,hv⟩
   cases e:Z[i]? with
   | none=>rw [e] at hp; cases hp
   | some z =>
     rw [e] at hp
     cases z with
     | none=>cases hp
     | some z=>cases hp; rfl
 . cases h
noncomputable def Ih (i:Nat) (f g:Dn->Res PyData):Dn->Res PyData:=fun δ=>match kvN δ i with
 | some kvs=>(f δ).bind fun kd=>(g δ).bind fun dd=>if nkD kd=true then .ok ((M7 kvs kd).getD dd) else .no
 | none=>.no
noncomputable section
variable {P:Program} {w:World} {K:PySem.W.Frag} {mg:Str->Option Value} {base:Heap} {X:Cx} {N:List Str} {sc:Scope} {k:Nat} {df:Bool} {E:EK} {p apos cpos:Pos} {a b:Expr} {f g:Dn->Res PyData} {x:Str}
theorem eD (C:Cxt P w K mg base X N sc k df) (i:Nat) (h:okVar N sc i x=true) (hk:DE X E a f) (hg:DE X E b g) (m:M2 X (.Name x p) "get" apos a b cpos:=by exact ⟨rfl,rfl,rfl,rfl⟩):DE X E (.Call (.Attribute (.Name x p) "get" apos) [a,b] [] cpos) (Ih i f g):=by
 refine PE.imp (bZ (by have:=C.hu; omega) (okVar.pe C h) hk hg m) fun Z H Q ⟨G,δ,S,aft⟩=>?_
 unfold Ih at aft
 split at aft
 . rename_i kvs hi
   obtain ⟨q,kk,hσ,hx,hkeys,hvals⟩:=S.kvN hi; refine ⟨.ref q,hσ,q,kk,rfl,hx,?_⟩; refine M9 S aft fun kd v G1 H1 g1 r1 S1 a1=>?_
   refine M9 S1 a1 fun dd v2 G2 H2 g2 r2 S2 a2=>?_
   split at a2
   . rename_i hn
     refine ⟨kk,kd,Rd.mono g2.h (Rd.mono g1.h hx),Fj S2.sub hn (r1.mono g2.g),hn,?_⟩; rcases Et (k:=kd) hkeys hvals with ⟨n1,n2⟩ | ⟨d0,v0,n1,n2,rd⟩
     . rw [n1] at a2; rw [n2]
       exact a2 _ G2 H2 (Grow.refl S2.sub) r2
     . rw [n1] at a2; rw [n2]
       exact a2 _ G2 H2 (Grow.refl S2.sub) (rd.mono (g1.g.trans g2.g))
   . exact a2.elim
 . exact aft.elim
end
end Sm
end
noncomputable section
namespace Sm
open PySem PySem.Spec PyProof.Rows PySem.W L2
theorem Sk {w:World} {kvs:List (PyData×V)} {xs:List (Value×Value)} {p:PyData×V} {q:Value×Value} (h:kvs.length=xs.length):Q2 w (kvs++[p]) (xs++[q])=Q2 w kvs xs++[⟨O7 w p.1,q.1,q.2⟩]:=by
 unfold Q2
 rw [List.zipWith_append h]; rfl
theorem Paired.app' {α β:Type} {F:α->β->Prop} {a:α} {b:β} (h:F a b):∀ {l₁:List α} {l₂:List β},Paired F l₁ l₂->Paired F (l₁++[a]) (l₂++[b])
 | _,_,.nil=>.cons h .nil
 | _,_,.cons r t=>.cons r (Paired.app' h t)
noncomputable section
variable {X:Cx} {pins:List (Addr×Obj)} {Z:St} {H:Hp} {s:Shared} {a:Addr} {A:Around} {E:Value->Shared->Prop}
theorem lV {kvs:List (PyData×V)} {kd:PyData} {y d:V} {u r:Value} {Q:Value->Shared->Prop} (hu:A.units+16 < cLine) (I:Inv X pins Z H s) (e:H a=some (.dN kvs)) (rk:KRep H kd y) (hk:nkD kd=true) (hz:kvs.length < sizeLine) (ry:RelV y u) (rd:RelV d r)
   (h1:∀ v w' s',K4 kvs kd=some v->Inv X pins Z H s'->RelV v w'->Q w' s') (h0:∀ s',K4 kvs kd=none->Inv X pins Z (upd H a (.dN (kvs++[(kd,d)]))) s'->Q r s'):wpAny (model X.prog X.w) A (call (.builtin "dict.setdefault") [.ref a,u,r]) Q E s:=by
 obtain ⟨z,hd,nd,nk,xs,rel,ep,e1⟩:=I.hok a _ e
 have hl:=Paired.len' rel
 have hlen:(Q2 X.w kvs xs).length<=sizeLine:=by
   unfold Q2; rw [List.length_zipWith]; omega
 refine call_meetsIn F.slot_dict_setdefault ⟨_,e1,rfl⟩ F.entry_dict_setdefault (F.args_dict_setdefault_3 _ _ _) (Lr a u r hd) ⟨_,ep,kvs.map (·.1),kd,hu,e1,hlen,Km I rel nk nd,Fq I rk ry hk,fun i e tk hi he=>?_,fun h' tk hn hkeep hnew=>?_⟩
 . obtain ⟨p,q,g1,g2,⟨_,g5⟩,rfl⟩:=Hw rel he
   rw [List.getElem?_map,g1] at hi; have hp:p=(kd,p.2):=by
     have:p.1=kd:=by simpa using hi
     rw [<- this]
   rw [hp] at g1; exact h1 p.2 _ _ (Ch hk nk nd g1) (I.tok _) g5
 . refine h0 _ (Eu hk nk hn) ?_
   have ht:∀ b ys,H b=some (.tup ys)->(upd H a (.dN (kvs++[(kd,d)]))) b=some (.tup ys):=fun b ys z=>by
     rw [B6 (Ke z e (fun z=>by cases z))]; exact z
   refine I.write (x:=a) (e:=a) (t':=tk) (by rw [e]; exact trivial) (.inl rfl) (fun b o hb q=>hkeep b o hb q) ⟨_,hnew⟩ ⟨by rw [List.length_append]; show _+1<=_; omega,hd,?_,?_,xs++[(u,r)],?_,ep+1,?_⟩
   . rw [List.map_append,List.nodup_append]
     refine ⟨nd,by simp,fun x hx y hy=>?_⟩
     have:y=kd:=by simpa using hy
     subst this; exact fun z=>hn (z▸hx)
   . intro p hp
     rcases List.mem_append.mp hp with hp | hp
     . exact nk p hp
     . rw [List.mem_singleton.mp hp]; exact hk
   . exact Paired.app' ⟨⟨y,rk.mono ht,ry⟩,rd⟩ (Paired.mapP rel fun p q ⟨⟨v,z1,z2⟩,z3⟩=>⟨⟨v,z1.mono ht,z2⟩,z3⟩)
   . rw [Sk hl]; exact hnew
end
def kI (td ty tx:TE):TE:=fun Z H Q=>td Z H fun x H1=>∃ a kvs,x=.ref a/\H1 a=some (.dN kvs)/\ty Z H1 fun y H2=>tx Z H2 fun z H3=>∃ kvs kd,H3 a=some (.dN kvs)/\KRep H3 kd y/\nkD kd=true/\kvs.length < sizeLine /\
 (∀ v,K4 kvs kd=some v->Q v H3)/\(K4 kvs kd=none->Q z (upd H3 a (.dN (kvs++[(kd,z)]))))
noncomputable section
variable {X:Cx} {o e f:Expr} {apos cpos:Pos} {td ty tx:TE}
theorem bY (hu:X.A.units+16 < cLine) (ho:PE X o td) (he:PE X e ty) (hf:PE X f tx) (m:M2 X o "setdefault" apos e f cpos):PE X (.Call (.Attribute o "setdefault" apos) [e,f] [] cpos) (kI td ty tx):=by
 intro pins s Z H Q I h
 refine wpAny_Call_method m.base m.few m.line PySem.F.plainAttrs_dict PySem.F.slot_dict_setdefault PySem.F.type_dict_setdefault (thn (ho pins s Z H _ I h) fun u s1 ⟨x,H1,I1,rx,a,kvs,ex,d,q1⟩=>?_)
 subst ex
 obtain rfl:u=Value.ref a:=rx
 obtain ⟨_,_,_,_,_,_,ep,e1⟩:=I1.hok a _ d
 refine ⟨⟨_,e1,rfl⟩,fun b q=>by cases q; exact ⟨_,e1,rfl⟩,?_⟩
 rw [m.trees]
 refine Calls.callWith_builtin rfl (Calls.evalArgs_plain (Calls.spliced_cons (thn (he pins s1 Z H1 _ I1 q1) fun iv s2 ⟨y,H2,I2,ry,q2⟩ =>
   Calls.spliced_cons (thn (hf pins s2 Z H2 _ I2 q2) fun fv s3 ⟨z,H3,I3,rz,kvs,kd,g,rk,hk,hz,q3,q4⟩=>Calls.spliced_nil ?_))))
 exact lV hu I3 g rk hk hz ry rz (fun v w' s4 hv I4 rw'=>⟨v,H3,I4,rw',q3 v hv⟩) fun s4 hv I4=>⟨z,_,I4,rz,q4 hv⟩
end
noncomputable def Ht:List (PyData×PyData)->PyData->PyData->List (PyData×PyData)
 | [],k,v=>[(k,.list [v])]
 | p::r,k,v=>if PyData.eqv p.1 k=true then (match p.2 with | .list ds=>(p.1,.list (ds++[v])) | d=>(p.1,d))::r else p::Ht r k v
end Sm
end
noncomputable section
namespace Sm
open PySem PySem.Spec PyProof.Rows PySem.W L2
noncomputable def NL (G H H1:Hp):List (PyData×PyData)->List (PyData×Addr×List V)->Prop
 | [],[]=>True
 | p::kvs,r::kk=>p.1=r.1/\(∃ ds,p.2=.list ds/\RepL G ds r.2.2)/\(H r.2.1=some (.lst r.2.2)/\G r.2.1=none/\H1 r.2.1=none)/\NL G H H1 kvs kk
 | _,_=>False
abbrev prs (kk:List (PyData×Addr×List V)):List (PyData×V):=kk.map fun r=>(r.1,.ref r.2.1)
noncomputable section
variable {G G' H H' H1:Hp}
theorem NL.keep (g:Same G G'):∀ {kvs:List (PyData×PyData)} {kk:List (PyData×Addr×List V)},(∀ r∈kk,H r.2.1=some (.lst r.2.2)->G r.2.1=none->H1 r.2.1=none->H' r.2.1=some (.lst r.2.2)/\G' r.2.1=none)->NL G H H1 kvs kk->NL G' H' H1 kvs kk
 | [],[],_,h=>h
 | [],_::_,_,h=>h
 | _::_,[],_,h=>h
 | _::_,r::_,k,⟨h1,⟨ds,h2,h3⟩,⟨h4,h5,h6⟩,h7⟩=>⟨h1,⟨ds,h2,h3.mono g⟩,⟨(k r (.head _) h4 h5 h6).1,(k r (.head _) h4 h5 h6).2,h6⟩,NL.keep g (fun r hr=>k r (.tail _ hr)) h7⟩
theorem NL.grow (g:Grow G H G' H') {kvs:List (PyData×PyData)} {kk:List (PyData×Addr×List V)} (h:NL G H H1 kvs kk):NL G' H' H1 kvs kk:=by
 refine h.keep g.g fun r _ e n _=>⟨g.h _ _ e,?_⟩
 cases q:G' r.2.1 with
 | none=>rfl
 | some u =>
   rcases g.fr _ u q with y | y | ⟨ys,rfl⟩
   . rw [n] at y; cases y
   . rw [e] at y; cases y
   . have:=g.gh _ _ q; rw [g.h _ _ e] at this; cases this
theorem NL.mem:∀ {kvs:List (PyData×PyData)} {kk:List (PyData×Addr×List V)},NL G H H1 kvs kk->∀ r∈kk,H r.2.1=some (.lst r.2.2)/\G r.2.1=none/\H1 r.2.1=none
 | [],[],_,_,m=>nomatch m
 | [],_::_,h,_,_=>h.elim
 | _::_,[],h,_,_=>h.elim
 | _::_,r::_,⟨_,_,h4,h7⟩,x,m=>by
   rcases List.mem_cons.mp m with rfl | m
   . exact h4
   . exact NL.mem h7 x m
theorem NL.keys:∀ {kvs:List (PyData×PyData)} {kk:List (PyData×Addr×List V)},NL G H H1 kvs kk->kvs.map (·.1)=(prs kk).map (·.1)
 | [],[],_=>rfl
 | [],_::_,h=>h.elim
 | _::_,[],h=>h.elim
 | _::_,_::_,⟨h1,_,_,h7⟩=>by
   simp only [List.map_cons,h1]; rw [NL.keys h7]
theorem NL.new {p:Addr} {y:V} {kd vd:PyData} (rv:Rep G vd y) (hp:H p=some (.lst [y])/\G p=none/\H1 p=none):∀ {kvs:List (PyData×PyData)} {kk:List (PyData×Addr×List V)},NL G H H1 kvs kk->K4 (prs kk) kd=none->NL G H H1 (Ht kvs kd vd) (kk++[(kd,p,[y])])
 | [],[],_,_=>⟨rfl,⟨[vd],rfl,RepL.cons rv rfl⟩,hp,trivial⟩
 | [],_::_,h,_=>h.elim
 | _::_,[],h,_=>h.elim
 | q::kvs,r::kk,⟨h1,h2,h4,h7⟩,e=>by
   unfold K4 at e; rw [show prs (r::kk)=(r.1,.ref r.2.1)::prs kk from rfl,List.find?_cons] at e
   cases z:PyData.eqv r.1 kd with
   | true=>rw [z] at e; cases e
   | false =>
     rw [z] at e; unfold Ht; rw [h1,z,if_neg (by decide)]; exact ⟨h1,h2,h4,NL.new rv hp h7 e⟩
theorem NL.put {kd:PyData} {v:V}:∀ {kvs:List (PyData×PyData)} {kk:List (PyData×Addr×List V)},NL G H H1 kvs kk->(kk.map (·.2.1)).Nodup->K4 (prs kk) kd=some v ->
   ∃ l xs,v=.ref l/\(∃ r∈kk,r.2=(l,xs))/\∀ (y:V) (vd:PyData),Rep G vd y->∃ kk',prs kk'=prs kk/\kk'.map (·.2.1)=kk.map (·.2.1)/\(∀ r∈kk',r.2.2.length<=xs.length+1\/r∈kk)/\NL G (upd H l (.lst (xs++[y]))) H1 (Ht kvs kd vd) kk'
 | [],[],_,_,e=>by cases e
 | [],_::_,h,_,_=>h.elim
 | _::_,[],h,_,_=>h.elim
 | q::kvs,r::kk,⟨h1,⟨ds,h2,h3⟩,⟨h4,h5,h6⟩,h7⟩,nd,e=>by
   rw [List.map_cons,List.nodup_cons] at nd; unfold K4 at e; rw [show prs (r::kk)=(r.1,.ref r.2.1)::prs kk from rfl,List.find?_cons] at e
   cases z:PyData.eqv r.1 kd with
   | true =>
     rw [z] at e; cases e; refine ⟨r.2.1,r.2.2,rfl,⟨r,.head _,rfl⟩,fun y vd rv=>⟨(r.1,r.2.1,r.2.2++[y])::kk,rfl,rfl,fun x hx=>?_,?_⟩⟩
     . rcases List.mem_cons.mp hx with rfl | hx
       . left; simp
       . exact .inr (.tail _ hx)
     . unfold Ht
       rw [h1,z,if_pos rfl,h2]; refine ⟨rfl,⟨ds++[vd],rfl,h3.append (RepL.cons rv rfl)⟩,⟨B7,h5,h6⟩,h7.keep (Same.refl _) fun x hx e n _=>⟨?_,n⟩⟩
       rw [B6 (fun w=>nd.1 (by rw [<- w]; exact List.mem_map_of_mem hx))]; exact e
   | false =>
     rw [z] at e; obtain ⟨l,xs,e1,⟨r0,m0,e0⟩,k⟩:=NL.put h7 nd.2 e; have hl:l∈kk.map (·.2.1):=List.mem_map.mpr ⟨r0,m0,by rw [e0]⟩
     refine ⟨l,xs,e1,⟨r0,.tail _ m0,e0⟩,fun y vd rv=>?_⟩
     obtain ⟨kk',k1,k2,k3,k4⟩:=k y vd rv; refine ⟨r::kk',congrArg (List.cons (r.1,V.ref r.2.1)) k1,congrArg (List.cons r.2.1) k2,fun x hx=>?_,?_⟩
     . rcases List.mem_cons.mp hx with rfl | hx
       . exact .inr (.head _)
       . rcases k3 x hx with w | w
         . exact .inl w
         . exact .inr (.tail _ w)
     . unfold Ht
       rw [h1,z,if_neg (by decide)]; exact ⟨h1,⟨ds,h2,h3⟩,⟨by rw [B6 (fun w=>nd.1 (by rw [w]; exact hl))]; exact h4,h5,h6⟩,k4⟩
noncomputable def shG (as:List Addr) (G H:Hp):Hp:=fun b=>open Classical in if b∈as then H b else G b
theorem aY {as:List Addr} {b:Addr} (h:b∈as):shG as G H b=H b:=by unfold shG; rw [if_pos h]
theorem Ej {as:List Addr} {b:Addr} (h:b∉as):shG as G H b=G b:=by unfold shG; rw [if_neg h]
theorem NL.same {kvs:List (PyData×PyData)} {kk:List (PyData×Addr×List V)} (h:NL G H H1 kvs kk):Same G (shG (kk.map (·.2.1)) G H):=fun b u e=>by
 by_cases m:b∈kk.map (·.2.1)
 . obtain ⟨r,hr,rfl⟩:=List.mem_map.mp m
   rw [(h.mem r hr).2.1] at e; cases e
 . rw [Ej m]; exact e
theorem NL.vals {as:List Addr} (s:Same G (shG as G H)):∀ {kvs:List (PyData×PyData)} {kk:List (PyData×Addr×List V)},NL G H H1 kvs kk->(∀ r∈kk,r.2.1∈as)->RepL (shG as G H) (kvs.map (·.2)) ((prs kk).map (·.2))
 | [],[],_,_=>rfl
 | [],_::_,h,_=>h.elim
 | _::_,[],h,_=>h.elim
 | q::kvs,r::kk,⟨_,⟨ds,h2,h3⟩,⟨h4,_,_⟩,h7⟩,m=>by
   rw [List.map_cons,h2]; exact RepL.cons ⟨r.2.1,r.2.2,rfl,.inl (by rw [aY (m r (.head _))]; exact h4),h3.mono s⟩ (NL.vals s h7 fun x hx=>m x (.tail _ hx))
end
theorem SR.forget {G H:Hp} {Z:St} {δ:Dn} (S:SR G H Z δ) (i:Nat):SR G H Z (δ.set i .un):=by
 have key:∀ (j:Nat) (s:Sl),(δ.set i .un)[j]? = some s->s=.un\/δ[j]? = some s:=fun j s e=>by
   rw [D5] at e
   split at e
   . cases e; exact .inl rfl
   . exact .inr e
 refine ⟨S.sub,by simp [S.len],fun j s e=>?_,fun j1 j2 a d1 d2 e1 e2 h1 h2=>?_⟩
 . rcases key j s e with rfl | e
   . trivial
   . exact S.sl j s e
 . rcases key j1 _ e1 with z | e1
   . cases z
   . rcases key j2 _ e2 with z | e2
     . cases z
     . exact S.ap j1 j2 a d1 d2 e1 e2 h1 h2
theorem SSt.forget {G0 H0 G H:Hp} {Z:St} {δ:Dn} (S:SSt G0 H0 G H Z δ) (i:Nat):SSt G0 H0 G H Z (δ.set i .un) :=
 ⟨S.gr,S.sr.forget i,fun j d a e h=>by
   rw [D5] at e
   split at e
   . cases e
   . exact S.fr j d a e h⟩
theorem OwnOk.off {G H H':Hp} {a:Addr} {d:PyData} (e:H' a=H a) (h:OwnOk G H a d):OwnOk G H' a d:=by
 cases d with
 | list ds=>obtain ⟨xs,q,r⟩:=h; exact ⟨xs,e.trans q,r⟩
 | dict kvs=>obtain ⟨xs,q,r⟩:=h; exact ⟨xs,e.trans q,r⟩
 | tuple xs=>exact OwnK.keep (Same.refl _) (fun o q=>e.trans q) h
 | _=>exact (show False from h).elim
theorem SSt.off {G0 H0 G H H':Hp} {Z:St} {δ:Dn} (S:SSt G0 H0 G H Z δ) (h0:Same H0 H') (hg:Same G H') (k:∀ (j:Nat) (d:PyData) (a:Addr),δ[j]? = some (.ow d)->Z[j]?.join=some (.ref a)->H' a=H a):SSt G0 H0 G H' Z δ:=by
 refine ⟨⟨S.gr.g,h0,hg,S.gr.fr⟩,⟨hg,S.sr.len,fun j s e=>?_,S.sr.ap⟩,S.fr⟩
 have hs:=S.sr.sl j s e
 cases s with
 | un=>trivial
 | sh d=>exact hs
 | fd _=>exact hs
 | ow d =>
   obtain ⟨a,e1,n1,ok⟩:=hs; exact ⟨a,e1,n1,ok.off (k j d a e e1)⟩
end Sm
end
noncomputable section
namespace Sm
open PySem PySem.Spec PyProof.Rows PySem.W L2
noncomputable def Lu (δ:Dn) (t:Nat) (c:Dn->Res Bool) (fk fv:Dn->Res PyData):List PyData->List (PyData×PyData)->Res Kvs
 | [],kvs=>.ok kvs
 | d::ds,kvs=>match c (δ.set t (.sh d)) with
   | .ok true=>match fk (δ.set t (.sh d)) with
     | .ok kd=>match fv (δ.set t (.sh d)) with
       | .ok vd=>if nkD kd=true then Lu δ t c fk fv ds (Ht kvs kd vd) else .no
       | _=>.no
     | _=>.no
   | .ok false=>Lu δ t c fk fv ds kvs
   | _=>.no
noncomputable def fS (i t:Nat) (src:Dn->Res (List PyData)) (c:Dn->Res Bool) (fk fv:Dn->Res PyData):Dn->Out:=fun δ=>match δ[i]? with
 | some (.ow (.tuple [.dict [],.none]))=>K2 (src (δ.set i .un)) fun ds=>if ds.length < 1000/\i≠t then (match Lu ((δ.set i .un).set t .un) t c fk fv ds [] with
   | .ok kvs=>.nx ((δ.set i (.ow (.tuple [.dict kvs,.none]))).set t .un)
   | _=>.no) else .no
 | _=>.no
structure GrpAt (G1 H0 H1:Hp) (i:Nat) (q:Addr) (δv:Dn) (n:Nat) (τ:St) (Hc:Hp) (kvs:List (PyData×PyData)):Prop where
 ex:∃ Gc kk,SSt G1 H0 Gc Hc τ δv/\Gc q=none/\Hc q=some (.dN (prs kk))/\NL Gc Hc H1 kvs kk/\(kk.map (·.2.1)).Nodup/\kk.length<=n/\∀ r∈kk,r.2.2.length<=n
 hi:τ[i]? = some (some (.ref q))
 ap:∀ (j:Nat) (d:PyData) (a:Addr),δv[j]? = some (.ow d)->τ[j]?.join=some (.ref a)->a≠q/\∃ o,H1 a=some o
 kp:∀ b o,H1 b=some o->∃ o',Hc b=some o'
theorem Jg {H1 H:Hp} {p:Addr} {o:HO} (h:∀ b o,H1 b=some o->∃ o',H b=some o'):∀ b u,H1 b=some u->∃ o',(upd H p o) b=some o':=fun b u e=>by
 by_cases z:b=p
 . subst z; exact ⟨_,B7⟩
 . rw [B6 z]; exact h b u e
theorem N1 {H1 H H':Hp} (s:Same H H') (h:∀ b o,H1 b=some o->∃ o',H b=some o'):∀ b u,H1 b=some u->∃ o',H' b=some o':=fun b u e=>by
 obtain ⟨o',z⟩:=h b u e
 exact ⟨o',s _ _ z⟩
theorem Grow.stay {G H G' H':Hp} (g:Grow G H G' H') {q:Addr} {o:HO} (n:G q=none) (e:H q=some o) (h:∀ ys,o≠.tup ys):G' q=none:=by
 cases z:G' q with
 | none=>rfl
 | some u =>
   rcases g.fr q u z with y | y | ⟨ys,rfl⟩
   . rw [n] at y; cases y
   . rw [e] at y; cases y
   . have:=g.gh _ _ z; rw [g.h _ _ e] at this; cases this; exact absurd rfl (h ys)
theorem Al {H0 H:Hp} {p:Addr} {o:HO} (s:Same H0 H) (h:H0 p=none):Same H0 (upd H p o):=fun b u e=>by
 rw [B6 (C9 e h)]; exact s _ _ e
theorem OwnOk.monoG {G G' H:Hp} {a:Addr} {d:PyData} (g:Same G G') (h:OwnOk G H a d):OwnOk G' H a d:=by
 cases d with
 | list ds=>obtain ⟨xs,q,r⟩:=h; exact ⟨xs,q,r.mono g⟩
 | dict kvs=>obtain ⟨xs,q,k,r⟩:=h; exact ⟨xs,q,k,r.mono g⟩
 | tuple xs=>exact OwnK.keep g (fun o q=>q) h
 | _=>exact (show False from h).elim
noncomputable section
variable {P:Program} {w:World} {K:PySem.W.Frag} {mg:Str->Option Value} {base:Heap} {X:Cx} {N:List Str} {sc:Scope} {k:Nat} {df:Bool} {E:EK} {p px pl ap1 cp1 ap2 cp2 ep ip pos:Pos} {ke ve ce iter:Expr} {fk fv:Dn->Res PyData} {c:Dn->Res Bool} {src:Dn->Res (List PyData)} {x y:Str}
theorem s_grp (C:Cxt P w K mg base X N sc k df) (i t:Nat) (ht:okSet N sc df t y=true) (h:okVar N sc i x=true) (hi:DI X E (.Name y px) iter src) (hc:DT X E ce c) (hk:DE X E ke fk) (hv:DE X E ve fv)
   (m2:M2 X (.Name x p) "setdefault" ap1 ke (.List [] pl) cp1) (hs:∀ x,foldedSetIterable iter X.env x=pure x)
   (hbase:attributeBase (.Call (.Attribute (.Name x p) "setdefault" ap1) [ke,.List [] pl] [] cp1) "append" X.env (eval (.Call (.Attribute (.Name x p) "setdefault" ap1) [ke,.List [] pl] [] cp1) X.env)=eval (.Call (.Attribute (.Name x p) "setdefault" ap1) [ke,.List [] pl] [] cp1) X.env)
   (hfew:((backTo cp2 (starEach [ve] X.env)).all (fun x => !x.1)&&(backToKw cp2 (keywordEach [] X.env)).all (fun x=>x.1.isSome)&&decide ([ve].length+([]:List Keyword).length+(if ([]:List Keyword).isEmpty then 0 else 1) < 30))=true)
   (hline:(ap2.endLine==cp2.line)=true) (hst:starEach [ve] X.env=(false,eval ve X.env)::starEach [] X.env) (hplain:(backTo cp2 (starEach [] X.env)).any (·.1)=false)
   (hsw:swapsWith (.Call (.Attribute (.Call (.Attribute (.Name x p) "setdefault" ap1) [ke,.List [] pl] [] cp1) "append" ap2) [ve] [] cp2) none ep.line X.env=pure false) :
   DS X E (.For (.Name y px) iter [.If ce [.Expr (.Call (.Attribute (.Call (.Attribute (.Name x p) "setdefault" ap1) [ke,.List [] pl] [] cp1) "append" ap2) [ve] [] cp2) ep] [] ip] [] pos) (fS i t src c fk fv):=fun G0 H0=>by
 obtain ⟨d1,d2,d3,d4⟩:=okSet.ok C ht
 have app:=Oq (pos:=ep) (Wc PySem.F.plainAttrs_list PySem.F.slot_list_append PySem.F.type_list_append Ft (bY (by have:=C.hu; omega) (okVar.pe C h (p:=p)) hk (cB (pos:=pl) Ai) m2) (Q9 hv Ai hst) hbase hfew hline hst hplain) hsw
 refine PS.imp (bU (pos:=pos) C.own C.calm hi (O4 d1 d2 d3 d4) (Hv (jI (pos:=ip) hc (Hv app) Vx)) hs) fun D Z H hh=>?_
 obtain ⟨G,δ,S,aft⟩:=hh
 unfold fS at aft
 split at aft
 . rename_i hsl
   obtain ⟨q,hσ,hgq,ho⟩:=S.sr.own hsl; obtain ⟨kk0,hx,hkeys,_⟩:=(show OwnK G H q [.dict [],.none] from ho)
   have hk0:kk0=[]:=by
     cases kk0 with
     | nil=>rfl
     | cons _ _=>cases hkeys
   subst hk0; have hil:i < δ.length:=(List.getElem?_eq_some_iff.mp hsl).1; have hq0:H0 q=none:=S.fr i _ q hsl (by rw [hσ]; rfl)
   refine eT (S.forget i) aft fun ds J G1 H1 gr W S1 a1=>?_
   split at a1
   . rename_i hcond
     obtain ⟨hlen,hit⟩:=hcond; have g01:=S1.gr
     cases eout:Lu ((δ.set i .un).set t .un) t c fk fv ds [] with
     | ok out =>
       rw [eout] at a1; have S2:=(S1.forget t).rebase g01 (Same.refl _)
       generalize hδv:(δ.set i .un).set t .un=δv at *
       have apv:∀ (j:Nat) (d:PyData) (a:Addr),δv[j]? = some (.ow d)->δ[j]? = some (.ow d)/\j≠i:=fun j d a e=>by
         rw [<- hδv,D5] at e
         split at e
         . cases e
         . rw [D5] at e
           split at e
           . cases e
           . rename_i hn
             exact ⟨e,fun z=>by subst z; exact hn ⟨rfl,hil⟩⟩
       have hG1q:G1 q=none:=by
         cases z:G1 q with
         | none=>rfl
         | some u =>
           rcases gr.fr q u z with y | y | ⟨ys,rfl⟩
           . rw [hgq] at y; cases y
           . rw [hx] at y; cases y
           . have:=gr.gh _ _ z; rw [gr.h _ _ hx] at this; cases this
       refine ⟨fun n m τ Hc=>m=ds.length - n/\n<=ds.length/\∃ kvs,GrpAt G1 H0 H1 i q δv n τ Hc kvs/\Lu δv t c fk fv (ds.drop n) kvs=.ok out,⟨_,rfl,Nat.zero_le _,[],⟨⟨G1,[],S2,hG1q,gr.h _ _ hx,trivial,.nil,Nat.le_refl _,fun _ h=>nomatch h⟩,hσ,fun j d a e1 e2=>?_,fun b o e=>⟨o,e⟩⟩,by rw [List.drop_zero]; exact eout⟩,?_⟩
       . obtain ⟨e3,hne⟩:=apv j d a e1
         refine ⟨fun z=>hne (S.sr.ap j i q d _ e3 hsl (z▸e2) (by rw [hσ]; rfl)),?_⟩
         obtain ⟨a',h1,_,h3⟩:=S.sr.sl j _ e3; rw [e2] at h1; cases h1; obtain ⟨o,z⟩:=h3.some; exact ⟨o,gr.h _ _ z⟩
       rintro n m τ Hc ⟨rfl,hn,kvs,⟨⟨Gc,kk,Sc,gq,dq,nl,nd,kl,rl⟩,hτ,ap,kp⟩,eg⟩
       by_cases hlt:n < ds.length
       . have hd:ds[n]? = some ds[n]:=List.getElem?_eq_getElem hlt
         rw [List.drop_eq_getElem_cons hlt] at eg; unfold Lu at eg; refine .inr ⟨W.go n Hc hlt (Sc.gr.g.trans Sc.sr.sub),fun τ2 H2=>∃ kvs,GrpAt G1 H0 H1 i q δv (n+1) τ2 H2 kvs/\Lu δv t c fk fv (ds.drop (n+1)) kvs=.ok out,fun τ2 H2 z=>⟨_,by omega,rfl,hlt,z⟩,fun v H'' hy=>?_⟩
         obtain ⟨G3,g3,r3⟩:=W.yld n _ Gc Hc v H'' hd Sc.gr.g Sc.sr.sub hy; have S3:=(Sc.grow g3).set_sh (i:=t) r3; have nl3:=nl.grow g3; have dq3:=g3.h _ _ dq; have gq3:G3 q=none:=g3.stay gq dq fun ys z=>by cases z
         have h01:Same H0 H1:=S1.gr.h; have hback:((δv.set t (.sh ds[n])).set t .un)=δv:=by rw [<- hδv]; simp
         have hτ':(τ.set t (some v))[i]? = some (some (.ref q)):=by rw [List.getElem?_set_ne (Ne.symm hit)]; exact hτ
         have htv:∀ (j:Nat) (d:PyData),δv[j]? = some (.ow d)->j≠t:=fun j d e z=>by
           subst z; rw [<- hδv,D5] at e
           split at e
           . cases e
           . rename_i hn
             have:=(List.getElem?_eq_some_iff.mp e).1; rw [List.length_set] at this; exact hn ⟨rfl,by rw [List.length_set]; exact this⟩
         have ap':∀ (j:Nat) (d:PyData) (a:Addr),δv[j]? = some (.ow d)->(τ.set t (some v))[j]?.join=some (.ref a)->a≠q/\∃ o,H1 a=some o:=fun j d a e1 e2=>by
           rw [List.getElem?_set_ne (Ne.symm (htv j d e1))] at e2; exact ap j d a e1 e2
         have apb:∀ (j:Nat) (d:PyData) (a:Addr),(δv.set t (.sh ds[n]))[j]? = some (.ow d)->(τ.set t (some v))[j]?.join=some (.ref a)->a≠q/\∃ o,H1 a=some o:=fun j d a e1 e2=>by
           rw [D5] at e1
           split at e1
           . cases e1
           . exact ap' j d a e1 e2
         show tIfS _ _ _ _ (τ.set t (some v)) H''
         generalize hδb:δv.set t (.sh ds[n])=δb at *
         generalize τ.set t (some v)=τ' at *
         have fin:∀ (Gz Hz:Hp) (kz:List (PyData×PyData)) (kkz:List (PyData×Addr×List V)),SSt G1 H0 Gz Hz τ' δb->Gz q=none->Hz q=some (.dN (prs kkz))->NL Gz Hz H1 kz kkz->(kkz.map (·.2.1)).Nodup->kkz.length<=n+1->(∀ r∈kkz,r.2.2.length<=n+1)->(∀ b o,H1 b=some o->∃ o',Hz b=some o')->GrpAt G1 H0 H1 i q δv (n+1) τ' Hz kz:=fun Gz Hz kz kkz s1 s2 s3 s4 s5 s6 s7 s8=>by
           have:=s1.forget t; rw [hback] at this; exact ⟨⟨Gz,kkz,this,s2,s3,s4,s5,s6,s7⟩,hτ',ap',s8⟩
         refine ⟨G3,δb,S3.sr,?_⟩
         cases ec:c δb with
         | exc _=>rw [ec] at eg; cases eg
         | no=>rw [ec] at eg; cases eg
         | ok bb =>
           rw [ec] at eg; intro G4 H4 g4; have S4:=S3.grow g4; have nl4:=nl3.grow g4; have dq4:=g4.h _ _ dq3; have kp4:=N1 g4.h (N1 g3.h kp); have gq4:G4 q=none:=g4.stay gq3 dq3 fun ys z=>by cases z
           cases bb with
           | false =>
             rw [if_neg (by decide)]; exact ⟨kvs,fin G4 H4 kvs kk S4 gq4 dq4 nl4 nd (by omega) (fun r hr=>Nat.le_succ_of_le (rl r hr)) kp4,eg⟩
           | true =>
             rw [if_pos rfl]; dsimp only at eg
             cases efk:fk δb with
             | exc _=>rw [efk] at eg; cases eg
             | no=>rw [efk] at eg; cases eg
             | ok kd =>
               rw [efk] at eg; dsimp only at eg
               cases efv:fv δb with
               | exc _=>rw [efv] at eg; cases eg
               | no=>rw [efv] at eg; cases eg
               | ok vd =>
                 rw [efv] at eg; dsimp only at eg
                 split at eg
                 . rename_i hnk
                   refine ⟨.ref q,hτ',q,prs kk,rfl,dq4,G4,δb,S4.sr,?_⟩; rw [efk]; intro y5 G5 H5 g5 r5; have S5:=S4.grow g5; refine ⟨Nat.zero_le _,fun p hp=>?_⟩
                   have g6:Grow G5 H5 G5 (upd H5 p (.lst [])):=Grow.own S5.sr.sub hp; have S6:=S5.grow g6; have nl6:=(nl4.grow g5).grow g6; have dq5:=g5.h _ _ dq4; have hpq:q≠p:=C9 dq5 hp; have dq6:(upd H5 p (.lst [])) q=some (.dN (prs kk)):=g6.h _ _ dq5; have gq5:G5 q=none:=g5.stay gq4 dq4 fun ys z=>by cases z
                   have hz:(prs kk).length < sizeLine:=by
                     have:(1000:Nat)<=sizeLine:=by decide
                     rw [List.length_map]; omega
                   refine ⟨prs kk,kd,dq6,Fj S6.sr.sub hnk r5,hnk,hz,fun v0 hv0=>?_,fun hn0=>?_⟩
                   . obtain ⟨l,xs,e1,⟨r0,m0,e0⟩,_⟩:=NL.put nl6 nd hv0
                     subst e1; have hm6:=nl6.mem r0 m0; rw [e0] at hm6; refine ⟨.inl ⟨rfl,xs,.inl (.inl hm6.1)⟩,G5,δb,S6.sr,?_⟩; rw [efv]; intro y7 G7 H7 g7 r7; have S7:=S6.grow g7; have nl7:=nl6.grow g7; have dq7:=g7.h _ _ dq6; have gq7:G7 q=none:=g7.stay gq5 dq6 fun ys z=>by cases z
                     have hm7:=nl7.mem r0 m0; rw [e0] at hm7; have hxs:xs.length<=n:=by have:=rl r0 m0; rw [e0] at this; exact this
                     have hql:q≠l:=Ke dq7 hm7.1 fun z=>by cases z
                     obtain ⟨l',xs',e1',⟨r1,m1,e1r⟩,kp⟩:=NL.put nl7 nd hv0
                     cases e1'; have hm1:=nl7.mem r1 m1; rw [e1r] at hm1; have exs:xs'=xs:=by have:=hm1.1.symm.trans hm7.1; cases this; rfl
                     subst exs; obtain ⟨kk',k1,k2,k3,k4⟩:=kp y7 vd r7; refine ⟨l,xs',y7,rfl,rfl,hm7.1,Nat.lt_of_le_of_lt hxs (Nat.lt_of_lt_of_le (show n < 1000 by omega) (by decide)),Ht kvs kd vd,fin G7 _ _ kk' (S7.off (Al S7.gr.h (h01.free hm7.2.2)) (Al S7.sr.sub hm7.2.1) fun j d a z1 z2=>?_) gq7 (by rw [B6 hql,k1]; exact dq7) k4 (by rw [k2]; exact nd) ?_ (fun r hr=>?_) (Jg (N1 g7.h (N1 g6.h (N1 g5.h kp4)))),eg⟩
                     . obtain ⟨_,o,ho⟩:=apb j d a z1 z2
                       rw [B6 (C9 ho hm7.2.2)]
                     . have:=congrArg List.length k2
                       rw [List.length_map,List.length_map] at this; omega
                     . rcases k3 r hr with z | z
                       . omega
                       . exact Nat.le_succ_of_le (rl r z)
                   . have hH1p : H1 p = none := by
                       cases z:H1 p with
                       | none=>rfl
                       | some u =>
                         obtain ⟨o',w⟩:=N1 g5.h kp4 p u z; rw [hp] at w; cases w
                     have hG5p:G5 p=none:=S5.sr.sub.free hp; have hp6:(upd H5 p (.lst [])) p=some (.lst []):=B7; have S7:SSt G1 H0 G5 (upd (upd H5 p (.lst [])) q (.dN (prs kk++[(kd,.ref p)]))) τ' δb:=S6.off (Al S6.gr.h hq0) (Al S6.sr.sub gq5) fun j d a z1 z2=>by rw [B6 (apb j d a z1 z2).1]
                     have hp7:(upd (upd H5 p (.lst [])) q (.dN (prs kk++[(kd,.ref p)]))) p=some (.lst []):=by rw [B6 (Ne.symm hpq)]; exact hp6
                     refine ⟨.inl ⟨rfl,[],.inl (.inl hp7)⟩,G5,δb,S7.sr,?_⟩; rw [efv]; intro y8 G8 H8 g8 r8; have S8:=S7.grow g8; have hp8:=g8.h _ _ hp7; have gp8:G8 p=none:=g8.stay hG5p hp7 fun ys z=>by cases z
                     have dq7:(upd (upd H5 p (.lst [])) q (.dN (prs kk++[(kd,.ref p)]))) q=some (.dN (prs kk++[(kd,.ref p)])):=B7; have dq8:=g8.h _ _ dq7; have gq8:G8 q=none:=g8.stay gq5 dq7 fun ys z=>by cases z
                     have nl7:NL G5 (upd (upd H5 p (.lst [])) q (.dN (prs kk++[(kd,.ref p)]))) H1 kvs kk:=nl6.keep (Same.refl _) fun r _ e n _=>⟨by rw [B6 (Ke e dq6 fun z=>by cases z)]; exact e,n⟩
                     have hne:∀ r∈kk,r.2.1≠p:=fun r hr=>C9 ((nl4.grow g5).mem r hr).1 hp
                     have nl9:NL G8 (upd H8 p (.lst [y8])) H1 kvs kk:=(nl7.grow g8).keep (Same.refl _) fun r hr e n _=>⟨by rw [B6 (hne r hr)]; exact e,n⟩
                     refine ⟨p,[],y8,rfl,rfl,hp8,by show 0 < sizeLine; decide,Ht kvs kd vd,fin G8 _ _ (kk++[(kd,p,[y8])]) (S8.off (Al S8.gr.h (h01.free hH1p)) (Al S8.sr.sub gp8) fun j d a z1 z2=>?_) gq8 ?_ (NL.new r8 ⟨B7,gp8,hH1p⟩ nl9 hn0) ?_ (by rw [List.length_append]; show _+1<=_; omega) (fun r hr=>?_) (Jg (N1 g8.h (Jg (N1 g6.h (N1 g5.h kp4))))),eg⟩
                     . obtain ⟨_,o,ho⟩:=apb j d a z1 z2
                       show (upd H8 p (.lst ([]++[y8]))) a=H8 a
                       rw [B6 (C9 ho hH1p)]
                     . show (upd H8 p (.lst ([]++[y8]))) q=_
                       rw [B6 hpq,dq8]; unfold prs; rw [List.map_append]; rfl
                     . rw [List.map_append,List.nodup_append]
                       refine ⟨nd,by simp,fun a ha b hb=>?_⟩
                       obtain ⟨r,hr,rfl⟩:=List.mem_map.mp ha; have:b=p:=by simpa using hb
                       subst this; exact hne r hr
                     . rcases List.mem_append.mp hr with hr | hr
                       . exact Nat.le_succ_of_le (rl r hr)
                       . rw [List.mem_singleton.mp hr]; show 1<=n+1; omega
                 . cases eg
       . refine .inl ⟨W.stop n Hc (Nat.not_lt.mp hlt) (Sc.gr.g.trans Sc.sr.sub),?_⟩
         rw [List.drop_eq_nil_of_le (Nat.not_lt.mp hlt)] at eg; cases eg; have hq':q∉kk.map (·.2.1):=fun z=>by
           obtain ⟨r,hr,e⟩:=List.mem_map.mp z; have:=(nl.mem r hr).1; rw [e,dq] at this; cases this
         have Su:=Sc.unbase g01; have sm:=nl.same; have gh:Same (shG (kk.map (·.2.1)) Gc Hc) Hc:=fun b u e=>by
           by_cases m:b∈kk.map (·.2.1)
           . rw [aY m] at e; exact e
           . rw [Ej m] at e; exact Sc.sr.sub _ _ e
         refine a1 τ (shG (kk.map (·.2.1)) Gc Hc) Hc ⟨⟨Su.gr.g.trans sm,Su.gr.h,gh,fun b o e=>?_⟩,⟨gh,?_,fun j s e=>?_,fun j1 j2 a e1' e2' z1 z2 h1 h2=>?_⟩,fun j d a e h=>?_⟩
         . by_cases m:b∈kk.map (·.2.1)
           . obtain ⟨r,hr,rfl⟩:=List.mem_map.mp m
             exact .inr (.inl (S1.gr.h.free (nl.mem r hr).2.2))
           . rw [Ej m] at e; exact Su.gr.fr b o e
         . have:=Sc.sr.len
           rw [<- hδv] at this
           simpa using this
         . rw [D5] at e
           split at e
           . cases e; trivial
           . rename_i hjt
             rw [D5] at e
             split at e
             . rename_i hji
               cases e; rw [<- hji.1,hτ]; exact ⟨q,rfl,by rw [Ej hq']; exact gq,prs kk,dq,nl.keys,nl.vals sm fun r hr=>List.mem_map_of_mem hr⟩
             . rename_i hji
               have ev:δv[j]? = some s:=by
                 rw [<- hδv,D5,if_neg (by simpa using hjt),D5,if_neg hji]; exact e
               have hs:=Sc.sr.sl j s ev
               cases s with
               | un=>trivial
               | sh d=>obtain ⟨v,e1,r1⟩:=hs; exact ⟨v,e1,r1.mono sm⟩
               | fd _=>exact FdOk.mono sm hs
               | ow d =>
                 obtain ⟨a,e1,n1,ok⟩:=hs; have hna:a∉kk.map (·.2.1):=fun z=>by
                   obtain ⟨r,hr,er⟩:=List.mem_map.mp z; obtain ⟨_,o,ho⟩:=ap j d a ev e1; have:=(nl.mem r hr).2.2; rw [er,ho] at this; cases this
                 exact ⟨a,e1,by rw [Ej hna]; exact n1,ok.monoG sm⟩
         . have key : ∀ (j : Nat) (d : PyData), ((δ.set i (.ow (.tuple [.dict out, .none]))).set t .un)[j]? = some (.ow d) -> j = i \/ δv[j]? = some (.ow d) := fun j d e => by
             rw [D5] at e
             split at e
             . cases e
             . rename_i hjt
               rw [D5] at e
               split at e
               . rename_i hji; exact .inl hji.1.symm
               . rename_i hji
                 exact .inr (by rw [<- hδv,D5,if_neg (by simpa using hjt),D5,if_neg hji]; exact e)
           rcases key j1 _ z1 with rfl | y1
           . rcases key j2 _ z2 with rfl | y2
             . rfl
             . rw [hτ] at h1; cases h1
               exact absurd rfl (ap j2 _ _ y2 h2).1
           . rcases key j2 _ z2 with rfl | y2
             . rw [hτ] at h2; cases h2
               exact absurd rfl (ap j1 _ _ y1 h1).1
             . exact Sc.sr.ap j1 j2 a _ _ y1 y2 h1 h2
         . rw [D5] at e
           split at e
           . cases e
           . rename_i hjt
             rw [D5] at e
             split at e
             . rename_i hji
               rw [<- hji.1,hτ] at h; cases h
               exact hq0
             . rename_i hji
               exact Sc.fr j d a (by rw [<- hδv,D5,if_neg (by simpa using hjt),D5,if_neg hji]; exact e) h
     | exc _=>rw [eout] at a1; exact (show False from a1).elim
     | no=>rw [eout] at a1; exact (show False from a1).elim
   . exact (show False from a1).elim
 . exact (show False from aft).elim
end
end Sm
end
noncomputable section
namespace Sm
open PySem PySem.Spec PyProof.Rows PySem.W L2
theorem cE {X:Cx} {pos:Pos}:PE X (.Dict [] [] pos) (fun Z H Q=>∀ q,H q=none->Q (.ref q) (upd H q (.dN []))):=by
 intro pins s Z H Q I h
 refine wpAny_mono (cD (X:=X) (pos:=pos) pins s Z H (fun v H1=>∃ q,v=.ref q/\H q=none/\H1=upd H q (.dT [])) I fun q hq=>⟨q,rfl,hq,rfl⟩) (fun v s1 hh=>?_) fun _ _ e=>e
 obtain ⟨x,H1,I1,rx,q,rfl,hq,rfl⟩:=hh
 have hx:(upd H q (.dT [])) q=some (.dT []):=B7
 obtain ⟨z,hs,xs,rel,o,es,ep,e1,hex,hdat,hes,hnd⟩:=I1.hok q _ hx
 have hxs:xs=[]:=by
   cases rel; rfl
 subst hxs
 have hes':es = #[]:=by
   have:es.toList=[]:=hes; exact Array.toList_eq_nil_iff.mp this
 subst hes'
 obtain ⟨oc,od,odt,osl⟩:=o
 obtain ⟨c1,c2,c3⟩:=hex
 simp only at c1 c2 c3 hdat
 subst c1 c2 c3 hdat
 refine ⟨.ref q,upd H q (.dN []),?_,rx,h q hq⟩
 have:=I1.write (x:=q) (e:=q) (o:=.dN []) (t':=s1.toks) (h':=s1.heap) (by rw [hx]; exact trivial) (.inl rfl) (fun b u _ w=>w) ⟨_,e1⟩ ⟨Nat.zero_le _,hs,.nil,(fun _ h=>nomatch h),[],.nil,ep,e1⟩
 rw [Nx] at this
 exact this
noncomputable def Dj (i:Nat):Dn->Out:=fun δ=>.nx (δ.set i (.ow (.tuple [.dict [],.none])))
noncomputable section
variable {P:Program} {w:World} {K:PySem.W.Frag} {mg:Str->Option Value} {base:Heap} {X:Cx} {N:List Str} {sc:Scope} {k:Nat} {df:Bool} {E:EK} {pos p p2:Pos} {a:Expr} {x:Str}
theorem On (C:Cxt P w K mg base X N sc k df) (i:Nat) (ho:okSet N sc df i x=true) (hs:swapsWith (.Dict [] [] p2) (some (.Name x p)) pos.line X.env=pure false:=by rfl):DS X E (.Assign [.Name x p] (.Dict [] [] p2) pos) (Dj i):=fun G0 H0=>by
 obtain ⟨h1,h2,h3,h4⟩:=okSet.ok C ho
 refine PS.imp (Jx h1 h2 h3 cE hs h4) fun D Z H hh q hq=>?_
 obtain ⟨G,δ,S,a⟩:=hh
 have S1:=S.grow (Grow.own (o:=.dN []) S.sr.sub hq)
 exact a _ G _ (S1.set_ow (S.gr.h.free hq) (S.sr.sub.free hq) (show OwnK G _ q [.dict [],.none] from ⟨[],B7,rfl,rfl⟩) (Dt S hq))
end
def AftN (E:EK) (G H:Hp) (r:Res Kvs) (Q:VK):Prop:=match r with
 | .ok kvs=>∀ p G' H',Grow G H G' H'->H p=none->G' p=none->OwnOk G' H' p (.tuple [.dict kvs,.none])->Q (.ref p) H'
 | .exc c=>∀ G' H',Grow G H G' H'->E c H'
 | .no=>False
def tN (E:EK) (f:Dn->Res Kvs):TE:=fun Z H Q=>∃ G δ,SR G H Z δ/\AftN E G H (f δ) Q
abbrev DN (X:Cx) (E:EK) (e:Expr) (f:Dn->Res Kvs):Prop:=PE X e (tN E f)
def DSN (X:Cx) (E:EK) (sts:List Stmt) (g:Dn->Res Kvs):Prop:=∀ G0 H0,PSs X sts (fun D Z H=>∃ G δ,SSt G0 H0 G H Z δ/\AftN E G0 H0 (g δ) D.rt)
noncomputable def Ru (i:Nat):Dn->Res Kvs:=fun δ=>match δ[i]? with
 | some (.ow (.tuple [.dict kvs,.none]))=>.ok kvs
 | _=>.no
def spN (n:Nat) (m:List PyData->Res Kvs):Sp:=fun vs H Q _=>∃ G ds kvs,Same G H/\RepL G ds vs/\ds.length=n/\m ds=.ok kvs/\∀ p G' H',Grow G H G' H'->H p=none->G' p=none->OwnOk G' H' p (.tuple [.dict kvs,.none])->Q (.ref p) H'
structure FnN (P:Program) (w:World) (K:PySem.W.Frag) (mg:Str->Option Value) (base:Heap) (x:Str) (k n:Nat) (m:List PyData->Res Kvs):Prop where
 ex:∃ f fd ps,ps.length=n/\FnOk P w K mg base CX0 k f fd ps (spN n m)/\mg x=some (.ref f)/\PySem.W.keepIn K (.ref f)=true/\Binds K fd ps []
noncomputable def Cy (i:Nat) (f:Dn->Res Kvs):Dn->Out:=fun δ=>K2 (f δ) fun kvs=>.nx (δ.set i (.ow (.tuple [.dict kvs,.none])))
noncomputable section
variable {P:Program} {w:World} {K:PySem.W.Frag} {mg:Str->Option Value} {base:Heap} {X:Cx} {N:List Str} {sc:Scope} {k:Nat} {df:Bool} {E:EK} {pos p:Pos} {e:Expr} {es:List Expr} {fs:Dn->Res (List PyData)} {fx:Dn->Res Kvs} {x:Str} {st:Stmt} {sts:List Stmt} {g1:Dn->Out} {g2:Dn->Res Kvs}
theorem cS (C:Cxt P w K mg base X N sc k df) (i:Nat) (h:okVar N sc i x=true):DSN X E [.Return (some (.Name x p)) pos] (Ru i):=fun G0 H0=>by
 refine PSs.imp (Hv (bT (okVar.pe C h))) fun D Z H hh=>?_
 obtain ⟨G,δ,S,a⟩:=hh
 unfold Ru at a
 split at a
 . rename_i kvs hi
   obtain ⟨q,hσ,hg,ho⟩:=S.sr.own hi; exact ⟨.ref q,hσ,a q G H S.gr (S.fr i _ q hi (by rw [hσ]; rfl)) hg ho⟩
 . exact (show False from a).elim
theorem Fs (h1:DS X E st g1) (h2:DSN X E sts g2):DSN X E (st::sts) (Ie g1 g2):=fun G0 H0=>by
 refine PSs.imp (Rg (h1 G0 H0) (h2 G0 H0)) fun D Z H hh=>?_
 obtain ⟨G,δ,S,a⟩:=hh
 refine ⟨G,δ,S,?_⟩
 unfold Ie at a
 cases e:g1 δ with
 | nx δ'=>rw [e] at a; exact fun Z' G' H' S'=>⟨G',δ',S',a⟩
 | exc d=>rw [e] at a; exact a
 | rt d=>rw [e] at a; exact (show False from a).elim
 | bk d=>rw [e] at a; exact (show False from a).elim
 | ct d=>rw [e] at a; exact (show False from a).elim
 | no=>rw [e] at a; exact (show False from a).elim
theorem fn_N {x:Str} {st:Stmt} {ps:List Str} {n:Nat} {go:Dn->Res Kvs} {m:List PyData->Res Kvs} (F:Def K mg x st ps) (S:FnScope N ps (A6 st)) (hn:ps.length=n)
   (body:∀ X,Cxt P w K mg base X N (A6 st) k true->DSN X E0k (B8 st) go) (hm:m=fnW N go):FnN P w K mg base x (k+1) n m:=by
 obtain ⟨f,fd,F,hmg,hb⟩:=F.ex
 refine ⟨f,fd,ps,hn,?_,hmg,F.kp,hb⟩
 subst hm
 refine F.ok S (fun vs H Q E h=>?_) (fun cdv A outer s H vs Q E hr h=>?_)
 . obtain ⟨G,ds,d,_,r,hl,_⟩:=h
   rw [<- r.length,hl,hn]
 . obtain ⟨G,ds,kvs,hG,r,hl,em,q⟩:=h
   refine ⟨_,body _ ⟨rfl,rfl,rfl,rfl,rfl,rfl,rfl,rfl,hr,fun _ _=>rfl,PassesOwn.never⟩ G H,G,_,Ql hG r N,?_⟩
   unfold fnW at em; rw [em]; exact q
theorem cU {x:Str} {j n:Nat} {m:List PyData->Res Kvs} (C:Cxt P w K mg base X N sc k df) (F:FnN P w K mg base x j n m) (hj:j<=k) (h:okGl sc x=true) (ha:DA X E0k (e::es) n fs)
   (he:starEach (e::es) X.env=(false,eval e X.env)::starEach es X.env:=by rfl) (hpl:(backTo pos (starEach es X.env)).any (·.1)=false:=by rfl):DN X E0k (.Call (.Name x p) (e::es) [] pos) (Pw fs m):=by
 obtain ⟨f,fd,ps,hps,F,hm,hk,hb⟩:=F.ex
 obtain ⟨h1,h2,h3⟩:=okGl.gl C h
 have F':FnOk X.prog X.w X.K X.mg X.base CX0 j f fd ps (spN n m):=by rw [C.hP,C.hw,C.hK,C.hmg,C.hb]; exact F
 refine PE.imp (Ot F' (C.room.mono hj) h1 (by rw [C.hmg]; exact hm) (by rw [C.hK]; exact hk) (by rw [C.hK]; exact hb) .nil (cG (X:=X)) ha.pa h2 he hpl) fun Z H Q hh=>?_
 obtain ⟨G,δ,S,aft⟩:=hh
 have gw:∀ {G H G' H':Hp} {r:Res Kvs},Grow G H G' H'->AftN E0k G H r Q->AftN E0k G' H' r Q:=fun {G H G' H' r} g a=>by
   cases r with
   | ok kvs=>exact fun p G2 H2 g2 hp hp' ho=>a p G2 H2 (g.trans g2) (g.h.free hp) hp' ho
   | exc c=>exact fun G2 H2 g2=>a G2 H2 (g.trans g2)
   | no=>exact a
 refine Q0 (W:=fun G H r=>AftN E0k G H r Q) S aft (fun g a=>gw g a) (fun c a=>a) (fun a=>a) fun ds vs G1 H1 e g1 r1 S1 a1=>?_
 rw [List.append_nil]
 cases q:m ds with
 | ok d=>rw [q] at a1; exact ⟨G1,ds,d,S1.sub,r1,ha.len δ ds e,q,a1⟩
 | exc c=>rw [q] at a1; exact (a1 G1 H1 (Grow.refl S1.sub)).elim
 | no=>rw [q] at a1; exact a1.elim
theorem Om (C:Cxt P w K mg base X N sc k df) (i:Nat) (ho:okSet N sc df i x=true) (h:DN X E e fx) (hs:swapsWith e (some (.Name x p)) pos.line X.env=pure false:=by rfl):DS X E (.Assign [.Name x p] e pos) (Cy i fx):=fun G0 H0=>by
 obtain ⟨h1,h2,h3,h4⟩:=okSet.ok C ho
 refine PS.imp (Jx h1 h2 h3 h hs h4) fun D Z H hh=>?_
 obtain ⟨G,δ,S,a⟩:=hh
 refine ⟨G,δ,S.sr,?_⟩
 unfold Cy at a
 cases q:fx δ with
 | ok kvs =>
   rw [q] at a; intro p G' H' g hp hp' ho; have S1:=S.grow g; exact a _ G' H' (S1.set_ow (S.gr.h.free hp) hp' ho (Dt S hp))
 | exc c=>rw [q] at a; exact fun G' H' g=>a G' H' (S.gr.trans g)
 | no=>rw [q] at a; exact a
end
end Sm
end
noncomputable section
namespace Sm
open PySem PySem.Spec PyProof.Rows PySem.W L2
noncomputable def U2 (c:Dn->Res Bool) (body:Dn->Out):Nat->Dn->Out
 | 0,_=>.no
 | n+1,δ=>K2 (c δ) fun b=>if b=true then (match body δ with
   | .nx δ'=>U2 c body n δ'
   | .ct δ'=>U2 c body n δ'
   | .bk δ'=>.nx δ'
   | o=>o) else .nx δ
noncomputable def Jq (c:Dn->Res Bool) (body:Dn->Out):Dn->Out:=U2 c body 4096
noncomputable def Tc (i:Nat):Dn->Res Bool:=fun δ=>match δ[i]? with
 | some (.ow (.list ds))=>.ok (!ds.isEmpty)
 | _=>.no
noncomputable def Yb (i j:Nat):Dn->Out:=fun δ=>match δ[i]? with
 | some (.ow (.list ds))=>match ds[ds.length - 1]? with
   | some d=>if i≠j then .nx ((δ.set i (.ow (.list ds.dropLast))).set j (.sh d)) else .no
   | none=>.no
 | _=>.no
noncomputable def Yc (i:Nat) (f:Dn->Res (List PyData)):Dn->Out:=fun δ=>match δ[i]? with
 | some (.ow (.list xs))=>K2 (f δ) fun ds=>if xs.length+ds.length<=100000 then .nx (δ.set i (.ow (.list (xs++ds)))) else .no
 | _=>.no
noncomputable section
variable {P:Program} {w:World} {K:PySem.W.Frag} {mg:Str->Option Value} {base:Heap} {X:Cx} {N:List Str} {sc:Scope} {k:Nat} {df:Bool} {E:EK} {pos p py apos cpos:Pos} {ce a:Expr} {sts:List Stmt} {c:Dn->Res Bool} {g1:Dn->Out} {fs:Dn->Res (List PyData)} {x y:Str}
theorem Vp (C:Cxt P w K mg base X N sc k df) (hc:DT X E ce c) (hb:DSs X E sts g1):DS X E (.While ce sts [] pos) (Jq c g1):=fun G0 H0=>by
 refine PS.imp (bS (pos:=pos) C.own hc (hb G0 H0)) fun D Z H hh=>?_
 obtain ⟨G,δ,S,a⟩:=hh
 refine ⟨fun m Z' H'=>∃ G' δ',SSt G0 H0 G' H' Z' δ'/\Gr E G0 H0 (U2 c g1 m δ') D,⟨4096,G,δ,S,a⟩,fun m Z' H' hw=>?_⟩
 obtain ⟨G',δ',S',a'⟩:=hw
 cases m with
 | zero=>exact (show False from a').elim
 | succ m =>
   unfold U2 at a'; refine eS S' a' fun b G1 H1 gr S1 a1=>?_
   cases b with
   | false =>
     rw [if_neg (by decide)] at a1 ⊢
     exact a1 Z' G1 H1 S1
   | true =>
     rw [if_pos rfl] at a1 ⊢
     refine ⟨fun Z2 H2=>∃ G' δ',SSt G0 H0 G' H2 Z2 δ'/\Gr E G0 H0 (U2 c g1 m δ') D,fun Z2 H2 z=>⟨m,Nat.lt_succ_self m,z⟩,G1,δ',S1,?_⟩
     cases eo:g1 δ' with
     | nx δ2=>rw [eo] at a1; exact fun Z3 G4 H4 S5=>⟨G4,δ2,S5,a1⟩
     | ct δ2=>rw [eo] at a1; exact fun Z3 G4 H4 S5=>⟨G4,δ2,S5,a1⟩
     | bk δ2=>rw [eo] at a1; exact fun Z3 G4 H4 S5=>a1 Z3 G4 H4 S5
     | rt d=>rw [eo] at a1; exact a1
     | exc d=>rw [eo] at a1; exact a1
     | no=>rw [eo] at a1; exact a1
theorem t_own (C:Cxt P w K mg base X N sc k df) (i:Nat) (h:okVar N sc i x=true) (he:∀ whole,isTrue (.Name x p) X.env whole=(do let v <- whole; standAt (Expr.Name x p).pos; holding [v] (truthy v)):=by intro _; rfl):DT X E (.Name x p) (Tc i):=by
 refine PT.imp (Rf (okVar.pe C h) he) fun Z H Q hh=>?_
 obtain ⟨G,δ,S,a⟩:=hh
 unfold Tc at a
 split at a
 . rename_i ds hi
   obtain ⟨q,hσ,hg,xs,hx,rl⟩:=S.own hi; have he:ds.isEmpty=xs.isEmpty:=by
     have:=rl.length
     cases ds <;> cases xs <;> simp at this ⊢
   refine ⟨.ref q,hσ,!xs.isEmpty,.inl ⟨xs,.inl (.inl hx),rfl⟩,?_⟩; rw [<- he]; exact a G H (Grow.refl S.sub)
 . exact (show False from a).elim
theorem s_pop (C:Cxt P w K mg base X N sc k df) (i j:Nat) (h:okVar N sc i x=true) (ho:okSet N sc df j y=true)
   (hbase:attributeBase (.Name x p) "pop" X.env (eval (.Name x p) X.env)=eval (.Name x p) X.env:=by rfl) (hline:(apos.endLine==cpos.line)=true:=by rfl)
   (hs:swapsWith (.Call (.Attribute (.Name x p) "pop" apos) [] [] cpos) (some (.Name y py)) pos.line X.env=pure false:=by rfl) :
   DS X E (.Assign [.Name y py] (.Call (.Attribute (.Name x p) "pop" apos) [] [] cpos) pos) (Yb i j):=fun G0 H0=>by
 obtain ⟨h1,h2,h3,h4⟩:=okSet.ok C ho
 refine PS.imp (Jx h1 h2 h3 (lL PySem.F.plainAttrs_list PySem.F.slot_list_pop PySem.F.type_list_pop lY (okVar.pe C h) hbase hline) hs h4) fun D Z H hh=>?_
 obtain ⟨G,δ,S,a⟩:=hh
 unfold Yb at a
 split at a
 . rename_i ds hi
   split at a
   . rename_i d hd
     split at a
     . rename_i hij
       obtain ⟨q,hσ,hg,xs,hx,rl⟩:=S.sr.own hi; obtain ⟨v,hv,rv⟩:=rl.get hd; rw [rl.length] at hv; refine ⟨.ref q,hσ,.inl ⟨rfl,xs,.inl (.inl hx)⟩,q,xs,v,rfl,rfl,hx,hv,?_⟩; have S1:=S.write (o:=.lst xs.dropLast) (d':=.list ds.dropLast) hi (by rw [hσ]; rfl) hg ⟨_,B7,rl.dropLast⟩
       exact a _ G _ (S1.set_sh rv)
     . exact (show False from a).elim
   . exact (show False from a).elim
 . exact (show False from a).elim
theorem s_ext (C:Cxt P w K mg base X N sc k df) (i:Nat) (h:okVar N sc i x=true) (ha:DF X E a fs)
   (hbase:attributeBase (.Name x p) "extend" X.env (eval (.Name x p) X.env)=eval (.Name x p) X.env:=by rfl)
   (hfew:((backTo cpos (starEach [a] X.env)).all (fun x => !x.1)&&(backToKw cpos (keywordEach [] X.env)).all (fun x=>x.1.isSome)
     && decide ([a].length+([]:List Keyword).length+(if ([]:List Keyword).isEmpty then 0 else 1) < 30))=true:=by rfl)
   (hline:(apos.endLine==cpos.line)=true:=by rfl) (hs:starEach [a] X.env=(false,eval a X.env)::starEach [] X.env:=by rfl) (hplain:(backTo cpos (starEach [] X.env)).any (·.1)=false:=by rfl)
   (hsw:swapsWith (.Call (.Attribute (.Name x p) "extend" apos) [a] [] cpos) none pos.line X.env=pure false:=by rfl) :
   DS X E (.Expr (.Call (.Attribute (.Name x p) "extend" apos) [a] [] cpos) pos) (Yc i fs):=fun G0 H0=>by
 refine PS.imp (Oq (Wc PySem.F.plainAttrs_list PySem.F.slot_list_extend PySem.F.type_list_extend Yp (okVar.pe C h) (Q9 ha Ai hs) hbase hfew hline hs hplain) hsw) fun D Z H hh=>?_
 obtain ⟨G,δ,S,aft⟩:=hh
 unfold Yc at aft
 split at aft
 . rename_i ds hi
   obtain ⟨q,hσ,hg,xs,hx,rl⟩:=S.sr.own hi; refine ⟨.ref q,hσ,.inl ⟨rfl,xs,.inl (.inl hx)⟩,?_⟩; refine Vf S aft fun es b zs G1 H1 g1 q1 q2 q3 q4 S1 a1=>?_
   split at a1
   . rename_i hlen
     have hx1:=g1.h _ _ hx; have hqb:q≠b:=C9 hx q1; have hg1:G1 q=none:=g1.stay hg hx fun ys z=>by cases z
     have l1:=rl.length; have l2:=q4.length; refine ⟨q,b,xs,zs,rfl,rfl,hx1,q3,Nat.le_trans (by omega) (show 100000<=sizeLine by decide),?_⟩
     exact a1 Z G1 _ (S1.write (o:=.lst (xs++zs)) (d':=.list (ds++es)) hi (by rw [hσ]; rfl) hg1 ⟨_,B7,(rl.mono g1.g).append q4⟩)
   . exact (show False from a1).elim
 . exact (show False from aft).elim
end
end Sm
end
noncomputable section
namespace Sm
open PySem PySem.Spec PyProof.Rows PySem.W L2
noncomputable section
variable {X:Cx} {pins:List (Addr×Obj)} {Z:St} {H:Hp} {s:Shared} {a:Addr} {A:Around} {E:Value->Shared->Prop}
theorem n_at {kvs:List (PyData×V)} {xs:List (Value×Value)} {kd:PyData} {w:World} {i:Nat} {e:DictEntry} (rel:Paired (PrN H) kvs xs) (hk:nkD kd=true) (nk:∀ p∈kvs,nkD p.1=true) (nd:(kvs.map (·.1)).Nodup) (hi:(kvs.map (·.1))[i]? = some kd) (he:(Q2 w kvs xs)[i]? = some e) :
   ∃ v,kvs[i]? = some (kd,v)/\K4 kvs kd=some v/\RelV v e.val:=by
 obtain ⟨p,q,h1,h2,⟨_,h5⟩,rfl⟩:=Hw rel he
 rw [List.getElem?_map,h1] at hi
 have hp:p=(kd,p.2):=by
   have:p.1=kd:=by simpa using hi
   rw [<- this]
 rw [hp] at h1
 exact ⟨p.2,h1,Ch hk nk nd h1,h5⟩
theorem lW {kvs:List (PyData×V)} {kd:PyData} {y v:V} {u:Value} {Q:Value->Shared->Prop} (hu:A.units+16 < cLine) (I:Inv X pins Z H s) (e:Rd H a (.dN kvs)) (rk:KRep H kd y) (hk:nkD kd=true) (ry:RelV y u) (hv:K4 kvs kd=some v)
   (h:∀ w' s',Inv X pins Z H s'->RelV v w'->Q w' s'):wpAny (model X.prog X.w) A (getItem (.ref a) u) Q E s:=by
 obtain ⟨z,hd,nd,nk,xs,rel,ep,e1⟩:=e.ok I.hok
 have hT:s.TypeIs (.ref a) "dict" := ⟨_,e1,rfl⟩
 have hm:kd∈kvs.map (·.1):=Classical.byContradiction fun z=>by rw [Eu hk nk z] at hv; cases hv
 unfold getItem
 try with_reducible refine wpAny_holding ?_
 refine wpAny_bind (wpAny_sequenceKey hT (by decide) ?_)
 refine wpAny_bind (wpAny_callSpecial?_slot (name:=Str.ofString "__getitem__") hT F.slot_dict_getitem ?_)
 refine call_meetsIn F.slot_dict_getitem hT F.entry_dict_getitem (F.args_dict_getitem_2 _ _) (Rw a u) ⟨_,_,ep,kvs.map (·.1),kd,hu,e1,rfl,Km I rel nk nd,Fq I rk ry hk,hm,fun i e tk hi he=>?_⟩
 obtain ⟨v',_,h2,h3⟩:=n_at rel hk nk nd hi (by simpa using he)
 rw [hv] at h2; cases h2
 exact wpAny_pure (h _ _ (I.tok _) h3)
theorem n_has {kvs:List (PyData×V)} {kd:PyData} (hk:nkD kd=true) (nk:∀ p∈kvs,nkD p.1=true) (nd:(kvs.map (·.1)).Nodup) (hm:kd∈kvs.map (·.1)):(K4 kvs kd).isSome=true:=by
 obtain ⟨⟨k',v⟩,hp,rfl⟩:=List.mem_map.mp hm
 obtain ⟨i,hi⟩:=List.mem_iff_getElem?.mp hp
 rw [Ch hk nk nd hi]; rfl
theorem Kf {kvs:List (PyData×V)} {kd:PyData} {y:V} {u:Value} {Q:Bool->Shared->Prop} (hu:A.units+16 < cLine) (I:Inv X pins Z H s) (e:Rd H a (.dN kvs)) (rk:KRep H kd y) (hk:nkD kd=true) (ry:RelV y u)
   (h:∀ s',Inv X pins Z H s'->Q (K4 kvs kd).isSome s'):wpAny (model X.prog X.w) A (contains (.ref a) u) Q E s:=by
 obtain ⟨z,hd,nd,nk,xs,rel,ep,e1⟩:=e.ok I.hok
 have hT:s.TypeIs (.ref a) "dict" := ⟨_,e1,rfl⟩
 unfold contains
 try with_reducible refine wpAny_holding ?_
 refine wpAny_bind (wpAny_specialOf hT F.slot_dict_contains.lookup ?_)
 show wpAny _ _ (if (some (Value.builtin "dict.__contains__")==some Value.none)=true then _ else _) _ _ s
 rw [if_neg (by rw [beq_builtin_none]; exact Bool.false_ne_true)]
 refine wpAny_bind (wpAny_callSpecialUnlessNone?_slot (name:=Str.ofString "__contains__") hT F.slot_dict_contains ?_)
 refine call_meetsIn F.slot_dict_contains hT F.entry_dict_contains (F.args_dict_contains_2 _ _) (Yr a u hd) ⟨_,_,ep,kvs.map (·.1),kd,hu,e1,rfl,Km I rel nk nd,Fq I rk ry hk,fun tk hm=>?_,fun tk hn=>?_⟩
 . have:=h _ (I.tok tk)
   rw [n_has hk nk nd hm] at this; exact wpAny_truthy_bool this
 . have:=h _ (I.tok tk)
   rw [Eu hk nk hn] at this; exact wpAny_truthy_bool this
end
def tNIx (td ty:TE):TE:=fun Z H Q=>td Z H fun x H1=>ty Z H1 fun y H2=>∃ a kvs kd v,x=.ref a/\Rd H2 a (.dN kvs)/\KRep H2 kd y/\nkD kd=true/\K4 kvs kd=some v/\Q v H2
def kJ (b:Bool) (ty td:TE):TE:=fun Z H Q=>ty Z H fun y H1=>td Z H1 fun x H2=>∃ a kvs kd,x=.ref a/\Rd H2 a (.dN kvs)/\KRep H2 kd y/\nkD kd=true/\Q (.bl ((K4 kvs kd).isSome != b)) H2
noncomputable section
variable {X:Cx} {o i:Expr} {pos:Pos} {td ty:TE}
theorem lJ (hu:X.A.units+16 < cLine) (ho:PE X o td) (hi:PE X i ty) (hs:nH i):PE X (.Subscript o i pos) (tNIx td ty):=by
 intro pins s Z H Q I h
 refine fJ PySem.F.slot_dict_getitem.lookup hs (thn (ho pins s Z H _ I h) fun u s1 ⟨x,H1,I1,rx,q1⟩=>thn (hi pins s1 Z H1 _ I1 q1) fun iv s2 ⟨y,H2,I2,ry,a,kvs,kd,v,ex,g,rk,hk,hv,q2⟩=>?_)
 subst ex
 obtain rfl:u=Value.ref a:=rx
 obtain ⟨_,_,_,_,_,_,ep,e1⟩:=g.ok I2.hok
 exact ⟨⟨_,e1,rfl⟩,lW hu I2 g rk hk ry hv fun w' s3 I3 rw'=>⟨v,H2,I3,rw',q2⟩⟩
theorem lN (hu:X.A.units+16 < cLine) (hi:PE X i ty) (ho:PE X o td):PC X .In i o (kJ false ty td):=by
 intro pins s Z H Q I h
 refine thn (hi pins s Z H _ I h) fun iv s1 ⟨y,H1,I1,ry,q1⟩=>thn (ho pins s1 Z H1 _ I1 q1) fun u s2 ⟨x,H2,I2,rx,a,kvs,kd,ex,g,rk,hk,q2⟩=>?_
 subst ex
 obtain rfl:u=Value.ref a:=rx
 show wpAny _ _ (do return Value.bool (<- contains (Value.ref a) iv)) _ _ s2
 rw [Bool.bne_false] at q2
 exact wpAny_bind (Kf hu I2 g rk hk ry fun s3 I3=>wpAny_pure ⟨.bl (K4 kvs kd).isSome,H2,I3,rfl,q2⟩)
theorem Mn (hu:X.A.units+16 < cLine) (hi:PE X i ty) (ho:PE X o td):PC X .NotIn i o (kJ true ty td):=by
 intro pins s Z H Q I h
 refine thn (hi pins s Z H _ I h) fun iv s1 ⟨y,H1,I1,ry,q1⟩=>thn (ho pins s1 Z H1 _ I1 q1) fun u s2 ⟨x,H2,I2,rx,a,kvs,kd,ex,g,rk,hk,q2⟩=>?_
 subst ex
 obtain rfl:u=Value.ref a:=rx
 show wpAny _ _ (do return Value.bool (!(<- contains (Value.ref a) iv))) _ _ s2
 rw [Bool.bne_true] at q2
 exact wpAny_bind (Kf hu I2 g rk hk ry fun s3 I3=>wpAny_pure ⟨.bl (!(K4 kvs kd).isSome),H2,I3,rfl,q2⟩)
end
noncomputable def vIxN (i:Nat) (f:Dn->Res PyData):Dn->Res PyData:=fun δ=>match kvN δ i with
 | some kvs=>(f δ).bind fun kd=>if nkD kd=true then ofO (M7 kvs kd) else .no
 | none=>.no
noncomputable def T5 (b:Bool) (i:Nat) (f:Dn->Res PyData):Dn->Res PyData:=fun δ=>(f δ).bind fun kd=>match kvN δ i with
 | some kvs=>if nkD kd=true then .ok (.bool ((M7 kvs kd).isSome != b)) else .no
 | none=>.no
noncomputable section
variable {P:Program} {w:World} {K:PySem.W.Frag} {mg:Str->Option Value} {base:Heap} {X:Cx} {N:List Str} {sc:Scope} {k:Nat} {df:Bool} {E:EK} {p pos:Pos} {a b:Expr} {f g:Dn->Res PyData} {x:Str}
theorem d_ixN (C:Cxt P w K mg base X N sc k df) (i:Nat) (h:okVar N sc i x=true) (hk:DE X E a f) (hs:nH a:=by exact fun _ _=>rfl):DE X E (.Subscript (.Name x p) a pos) (vIxN i f):=by
 refine PE.imp (lJ (by have:=C.hu; omega) (okVar.pe C h) hk hs) fun Z H Q ⟨G,δ,S,aft⟩=>?_
 unfold vIxN at aft
 split at aft
 . rename_i kvs hi
   obtain ⟨q,kk,hσ,hx,hkeys,hvals⟩:=S.kvN hi; refine ⟨.ref q,hσ,?_⟩; refine M9 S aft fun kd v G1 H1 g1 r1 S1 a1=>?_
   split at a1
   . rename_i hn
     rcases Et (k:=kd) hkeys hvals with ⟨n1,n2⟩ | ⟨d0,v0,n1,n2,rd⟩
     . rw [n1] at a1; exact a1.elim
     . rw [n1] at a1
       exact ⟨q,kk,kd,v0,rfl,Rd.mono g1.h hx,Fj S1.sub hn r1,hn,n2,a1 _ G1 H1 (Grow.refl S1.sub) (rd.mono g1.g)⟩
   . exact a1.elim
 . exact aft.elim
theorem Pd {t:Bool} {i:Nat} {Z:St} {H:Hp} {Q:VK} (h:tD E (T5 t i f) Z H Q):kJ t (tD E f) (fH i) Z H Q:=by
 obtain ⟨G,δ,S,aft⟩:=h
 refine M9 S aft fun kd v G1 H1 g1 r1 S1 a1=>?_
 split at a1
 . rename_i kvs hi
   split at a1
   . rename_i hn
     obtain ⟨q,kk,hσ,hx,hkeys,hvals⟩:=S1.kvN hi; refine ⟨.ref q,hσ,q,kk,kd,rfl,hx,Fj S1.sub hn r1,hn,?_⟩; have:(K4 kk kd).isSome=(M7 kvs kd).isSome:=by
       rcases Et (k:=kd) hkeys hvals with ⟨n1,n2⟩ | ⟨d0,v0,n1,n2,_⟩ <;> rw [n1,n2] <;> rfl
     rw [this]; exact a1 _ G1 H1 (Grow.refl S1.sub) rfl
   . exact a1.elim
 . exact a1.elim
theorem dJ {t:Bool} {i:Nat} {δ:Dn} {d:PyData} (e:T5 t i f δ=.ok d):∃ b,d=.bool b:=by
 unfold T5 Res.bind at e
 split at e
 . split at e
   . dsimp only at e
     split at e
     . cases e; exact ⟨_,rfl⟩
     . cases e
   . cases e
 . cases e
 . cases e
theorem eK {t:Bool} {i:Nat} {G H:Hp} {δ:Dn} {Q:Bool->Hp->Prop} (aft:AftT E G H (C3 (T5 t i f) δ) Q):Aft E G H (T5 t i f δ) (fun v H'=>∃ b,v=.bl b/\Q b H'):=by
 unfold C3 at aft
 cases e:T5 t i f δ with
 | ok d =>
   obtain ⟨b,rfl⟩:=dJ e; rw [e] at aft; intro v G' H' g r; exact ⟨b,r,aft G' H' g⟩
 | exc c=>rw [e] at aft; exact aft
 | no=>rw [e] at aft; exact aft
theorem d_inN (C:Cxt P w K mg base X N sc k df) (i:Nat) (h:okVar N sc i x=true) (hk:DE X E a f) (hm:behindInMarks .In (.Name x p)=false:=by with_unfolding_all rfl):DE X E (.Compare a [.In] [.Name x p] pos) (T5 false i f) :=
 PE.imp (cF (lN (by have:=C.hu; omega) hk (okVar.pe C h)) hm) fun _ _ _ h=>Pd h
theorem Sr (C:Cxt P w K mg base X N sc k df) (i:Nat) (h:okVar N sc i x=true) (hk:DE X E a f) (hm:behindInMarks .NotIn (.Name x p)=false:=by with_unfolding_all rfl):DE X E (.Compare a [.NotIn] [.Name x p] pos) (T5 true i f) :=
 PE.imp (cF (Mn (by have:=C.hu; omega) hk (okVar.pe C h)) hm) fun _ _ _ h=>Pd h
theorem Qc (C:Cxt P w K mg base X N sc k df) (i:Nat) (h:okVar N sc i x=true) (hk:DE X E a f) (hm:behindInMarks .NotIn (.Name x p)=false:=by with_unfolding_all rfl):DT X E (.Compare a [.NotIn] [.Name x p] pos) (C3 (T5 true i f)):=by
 refine PT.imp (lD (Mn (by have:=C.hu; omega) hk (okVar.pe C h)) hm) fun Z H Q ⟨G,δ,S,aft⟩=>Pd ⟨G,δ,S,?_⟩
 exact eK aft
end
end Sm
end
noncomputable section
namespace Sm
open PySem PySem.Spec PyProof.Rows PySem.W L2
noncomputable def O0 {α:Type}:List (PyData×α)->PyData->α->List (PyData×α)
 | [],k,v=>[(k,v)]
 | p::r,k,v=>if PyData.eqv p.1 k=true then (p.1,v)::r else p::O0 r k v
theorem Am {α:Type} {k:PyData} {v:α}:∀ (l:List (PyData×α)),(O0 l k v).length<=l.length+1
 | []=>Nat.le_refl _
 | p::r=>by
   unfold O0
   split
   . simp
   . simp only [List.length_cons]; exact Nat.succ_le_succ (Am r)
theorem Vw {k:PyData} {v:V} (hk:nkD k=true):∀ {kk:List (PyData×V)} {i:Nat} {v0:V},(∀ p∈kk,nkD p.1=true)->(kk.map (·.1)).Nodup->kk[i]? = some (k,v0)->O0 kk k v=kk.modify i fun p=>(p.1,v)
 | [],_,_,_,_,h=>by simp at h
 | p::kk,i,v0,hn,nd,h=>by
   unfold O0; have hp:=Gd (M5 (hn p (.head _))).1 (M5 hk).1
   cases i with
   | zero =>
     simp at h
     subst h; rw [if_pos (hp.mpr rfl)]; rfl
   | succ i =>
     rw [List.map_cons,List.nodup_cons] at nd; have hm:(k,v0)∈kk:=List.mem_of_getElem? (by simpa using h)
     rw [if_neg (fun z=>nd.1 (by rw [hp.mp z]; exact List.mem_map_of_mem hm)),Vw hk (fun q hq=>hn q (.tail _ hq)) nd.2 (by simpa using h)]
     rfl
theorem Vv {k:PyData} {v:V} (hk:nkD k=true):∀ {kk:List (PyData×V)},(∀ p∈kk,nkD p.1=true)->k∉kk.map (·.1)->O0 kk k v=kk++[(k,v)]
 | [],_,_=>rfl
 | p::kk,hn,h=>by
   unfold O0; rw [List.map_cons,List.mem_cons,not_or] at h; rw [if_neg (fun z=>h.1 ((Gd (M5 (hn p (.head _))).1 (M5 hk).1).mp z).symm),Vv hk (fun q hq=>hn q (.tail _ hq)) h.2]
   rfl
theorem Ju {G:Hp} {k d:PyData} {v:V} (r:Rep G d v):∀ {kvs:Kvs} {kk:List (PyData×V)},kvs.map (·.1)=kk.map (·.1)->RepL G (kvs.map (·.2)) (kk.map (·.2))->(O0 kvs k d).map (·.1)=(O0 kk k v).map (·.1)/\RepL G ((O0 kvs k d).map (·.2)) ((O0 kk k v).map (·.2))
 | [],[],_,_=>⟨rfl,RepL.cons r rfl⟩
 | [],_::_,e,_=>by cases e
 | _::_,[],e,_=>by cases e
 | p::kvs,q::kk,e,l=>by
   simp only [List.map_cons,List.cons.injEq] at e; obtain ⟨x,t,ex,rx,l⟩:=l; simp only [List.map_cons,List.cons.injEq] at ex; unfold O0; rw [e.1]
   split
   . exact ⟨by simp only [List.map_cons]; rw [e.2],RepL.cons r (by rw [ex.2]; exact l)⟩
   . obtain ⟨h1,h2⟩:=Ju (k:=k) r e.2 (by rw [ex.2]; exact l)
     exact ⟨by simp only [List.map_cons]; rw [e.1,h1],RepL.cons (show Rep G p.2 q.2 by rw [ex.1]; exact rx) h2⟩
theorem Sj {w:World} {v:V} {r:Value}:∀ (kk:List (PyData×V)) (xs:List (Value×Value)) (i:Nat),(Q2 w kk xs).modify i (fun e=>{ e with val:=r })=Q2 w (kk.modify i fun p=>(p.1,v)) (xs.modify i fun q=>(q.1,r))
 | [],xs,i=>by cases i <;> simp [Q2]
 | _::_,[],i=>by cases i <;> simp [Q2]
 | p::kk,q::xs,0=>rfl
 | p::kk,q::xs,i+1=>by
   have:=Sj (w:=w) (v:=v) (r:=r) kk xs i; simp only [Q2,List.zipWith_cons_cons,List.modify_succ_cons] at this ⊢
   rw [this]
theorem Ka {α β:Type} {F:α->β->Prop} {f:α->α} {g:β->β} (h:∀ a b,F a b->F (f a) (g b)):∀ {l₁:List α} {l₂:List β} (i:Nat),Paired F l₁ l₂->Paired F (l₁.modify i f) (l₂.modify i g)
 | _,_,i,.nil=>by cases i <;> exact .nil
 | _,_,0,.cons r t=>.cons (h _ _ r) t
 | _,_,i+1,.cons r t=>.cons r (Ka h i t)
noncomputable section
variable {prog:Program} {w:World} {A:Around} {E:Value->Shared->Prop} {s:Shared}
theorem Ze {d:Addr} {key v:Value} {L:List DictEntry} {ep:Nat} {ks:List PyData} {k:PyData} {Q:Unit->Shared->Prop} (hu:A.units+8 < cLine) (ho:s.heap.get? d=some { cls:=.type "dict",data:=.dict (List.toArray L) ep }) (hz:L.length<=sizeLine) (N:EsN w s.heap L.toArray ks) (x:NAt s.heap key k)
   (h1:∀ (i:Nat) (h':Heap) (tk:Nat),ks[i]? = some k->(∀ b o,b≠d->s.heap.get? b=some o->h'.get? b=some o)->h'.get? d=some { cls:=.type "dict",data:=.dict (L.modify i fun e=>{ e with val:=v }).toArray ep }->Q () { s with heap:=h',toks:=tk })
   (h0:∀ (h':Heap) (tk:Nat),k∉ks->(∀ b o,b≠d->s.heap.get? b=some o->h'.get? b=some o)->h'.get? d=some { cls:=.type "dict",data:=.dict (L++[DictEntry.mk (O7 w k) key v]).toArray (ep+1) }->Q () { s with heap:=h',toks:=tk }) :
   wpAny (model prog w) A (dictSet d key v) Q E s:=by
 unfold dictSet
 try with_reducible refine wpAny_holding ?_
 refine wpAny_bind (x.hash hu fun tk=>?_)
 unfold dictSetHashed
 try with_reducible refine wpAny_holding ?_
 refine wpAny_bind (Uo (s:={ s with toks:=tk }) hu ho rfl N x (fun i hi=>?_) fun hn=>?_)
 . refine wpAny_bind (wpAny_rule (wpAny_bind (wpAny_updateDict (s:={ s with toks:=tk }) ho rfl (wpAny_point (h1 i _ tk hi (fun b o hb e=>?_) ?_)))))
   . exact (Heap.get?_update_ne _ _ _ _ hb).trans e
   . have:=Heap.get?_update_self (Obj.mapDict fun x=>x.modify i fun e=>{ e with val:=v }) ho (Obj.isFreed_of_dict (Obj.data_mapDict rfl _))
     rw [this]; simp [Obj.mapDict]
 . refine wpAny_bind (wpAny_rule (wpAny_updateDictKeys (hz:=by simpa using hz) (s:={ s with toks:=tk }) ho rfl (h0 _ tk hn (fun b o hb e=>?_) ?_)))
   . exact (Heap.get?_update_ne _ _ _ _ hb).trans e
   . have:=Heap.get?_update_self (Obj.mapDictKeys fun x=>x.push ⟨O7 w k,key,v⟩) ho (Obj.isFreed_of_dict (Obj.data_mapDictKeys rfl _))
     rw [this]; simp [Obj.mapDictKeys]
end
noncomputable section
variable {X:Cx} {pins:List (Addr×Obj)} {Z:St} {H:Hp} {s:Shared} {a:Addr} {A:Around} {E:Value->Shared->Prop}
theorem Mp {kvs:List (PyData×V)} {kd:PyData} {y d:V} {u r:Value} {Q:Unit->Shared->Prop} (hu:A.units+8 < cLine) (I:Inv X pins Z H s) (e:H a=some (.dN kvs)) (rk:KRep H kd y) (hk:nkD kd=true) (hz:kvs.length < sizeLine) (ry:RelV y u) (rd:RelV d r)
   (h:∀ s',Inv X pins Z (upd H a (.dN (O0 kvs kd d))) s'->(∀ b o,b≠a->s.heap.get? b=some o->s'.heap.get? b=some o)->Q () s'):wpAny (model X.prog X.w) A (dictSet a u r) Q E s:=by
 obtain ⟨z,hd,nd,nk,xs,rel,ep,e1⟩:=I.hok a _ e
 have hl:=Paired.len' rel
 have hlen:(Q2 X.w kvs xs).length<=sizeLine:=by
   unfold Q2; rw [List.length_zipWith]; omega
 have ht:∀ b ys,H b=some (.tup ys)->(upd H a (.dN (O0 kvs kd d))) b=some (.tup ys):=fun b ys z=>by
   rw [B6 (Ke z e (fun z=>by cases z))]; exact z
 refine Ze (ep:=ep) (ks:=kvs.map (·.1)) (k:=kd) hu e1 hlen (Km I rel nk nd) (Fq I rk ry hk) (fun i h' tk hi hkeep hnew=>?_) (fun h' tk hn hkeep hnew=>?_)
 . refine h _ ?_ hkeep
   have hlt:i < kvs.length:=by have:=(List.getElem?_eq_some_iff.mp hi).1; simpa using this
   have hp:kvs[i]? = some (kd,kvs[i].2):=by
     rw [List.getElem?_eq_getElem hlt]; have h2:=hi; rw [List.getElem?_map,List.getElem?_eq_getElem hlt] at h2; have:kvs[i].1=kd:=by simpa using h2
     rw [<- this]
   have ep':=Vw (v:=d) hk nk nd hp; refine I.write (x:=a) (e:=a) (t':=tk) (by rw [e]; exact trivial) (.inl rfl) (fun b o hb q=>hkeep b o hb q) ⟨_,hnew⟩ ?_
   have hkeys:(O0 kvs kd d).map (·.1)=kvs.map (·.1):=by
     rw [ep']; apply List.ext_getElem?
     intro j; rw [List.getElem?_map,List.getElem?_map,List.getElem?_modify]
     by_cases c:i=j
     . simp only [c,if_pos]; cases kvs[j]? <;> rfl
     . simp only [c,if_neg,if_false]; cases kvs[j]? <;> rfl
   refine ⟨Nat.le_trans (Am kvs) hz,hd,by rw [hkeys]; exact nd,fun p hp=>?_,xs.modify i (fun q=>(q.1,r)),?_,ep,?_⟩
   . have:p.1∈kvs.map (·.1):=by rw [<- hkeys]; exact List.mem_map_of_mem hp
     obtain ⟨p',m,em⟩:=List.mem_map.mp this; rw [<- em]; exact nk p' m
   . rw [ep']
     exact Paired.mapP (Ka (fun p q ⟨⟨v,z1,z2⟩,_⟩=>⟨⟨v,z1,z2⟩,rd⟩) i rel) fun p q ⟨⟨v,z1,z2⟩,z3⟩=>⟨⟨v,z1.mono (ep'▸ht),z2⟩,z3⟩
   . rw [ep',<- Sj]; exact hnew
 . refine h _ ?_ hkeep
   have ep':=Vv (v:=d) hk nk hn; refine I.write (x:=a) (e:=a) (t':=tk) (by rw [e]; exact trivial) (.inl rfl) (fun b o hb q=>hkeep b o hb q) ⟨_,hnew⟩ ⟨Nat.le_trans (Am kvs) hz,hd,?_,?_,xs++[(u,r)],?_,ep+1,?_⟩
   . rw [ep',List.map_append,List.nodup_append]
     refine ⟨nd,by simp,fun x hx y hy=>?_⟩
     have:y=kd:=by simpa using hy
     subst this; exact fun z=>hn (z▸hx)
   . rw [ep']
     intro p hp; rcases List.mem_append.mp hp with hp | hp
     . exact nk p hp
     . rw [List.mem_singleton.mp hp]; exact hk
   . have:=Paired.app' (F:=PrN (upd H a (.dN (O0 kvs kd d)))) (a:=(kd,d)) (b:=(u,r)) ⟨⟨y,rk.mono ht,ry⟩,rd⟩ (Paired.mapP rel fun p q ⟨⟨v,z1,z2⟩,z3⟩=>⟨⟨v,z1.mono ht,z2⟩,z3⟩)
     rw [<- ep'] at this; exact this
   . rw [ep',Sk hl]; exact hnew
theorem n_put {kvs:List (PyData×V)} {kd:PyData} {y d:V} {u r:Value} {Q:Unit->Shared->Prop} (hu:A.units+16 < cLine) (I:Inv X pins Z H s) (e:H a=some (.dN kvs)) (rk:KRep H kd y) (hk:nkD kd=true) (hz:kvs.length < sizeLine) (ry:RelV y u) (rd:RelV d r)
   (h:∀ s',Inv X pins Z (upd H a (.dN (O0 kvs kd d))) s'->Q () s'):wpAny (model X.prog X.w) A (setItem (.ref a) u r) Q E s:=by
 obtain ⟨z,hd,nd,nk,xs,rel,ep,e1⟩:=I.hok a _ e
 have hT:s.TypeIs (.ref a) "dict" := ⟨_,e1,rfl⟩
 unfold setItem
 try with_reducible refine wpAny_holding ?_
 refine wpAny_bind (wpAny_sequenceKey hT (by decide) ?_)
 refine wpAny_bind (wpAny_callSpecial?_slot (name:=Str.ofString "__setitem__") hT F.slot_dict_setitem ?_)
 refine wpAny_call_entry F.slot_dict_setitem hT F.entry_dict_setitem ?_ (F.args_dict_setitem_3 _ _ _)
 show wpAny _ _ (Builtin.Dict.notOrdered "__setitem__" ⟨[.ref a,u,r],[]⟩>>=_) _ _ s
 refine wpAny_bind (wpAny_notOrdered_dict hT ?_)
 show wpAny _ _ (dictSet a u r>>=_) _ _ s
 exact wpAny_bind (Mp (hu8 hu) I e rk hk hz ry rd fun s' I' _=>wpAny_pure ⟨.none,rfl,wpAny_pure (h s' I')⟩)
end
def sNPut (td ty tv:TE):TS:=fun D Z H=>tv Z H fun v H1=>td Z H1 fun x H2=>ty Z H2 fun y H3=>∃ a kvs kd,x=.ref a/\H3 a=some (.dN kvs)/\KRep H3 kd y/\nkD kd=true/\kvs.length < sizeLine/\D.nx Z (upd H3 a (.dN (O0 kvs kd v)))
theorem gI {X:Cx} {o i value:Expr} {pos pos':Pos} {td ty tv:TE} (hu:X.A.units+16 < cLine) (ho:PE X o td) (hi:PE X i ty) (hv:PE X value tv) (hs:swapsWith value (some (.Subscript o i pos')) pos.line X.env=pure false) :
   PS X (.Assign [.Subscript o i pos'] value pos) (sNPut td ty tv):=by
 intro pins s Z H D I h
 refine wpAny_Assign_Subscript (thn (hv pins s Z H _ I h) fun r s1 ⟨v,H1,I1,rv,q1⟩=>thn (ho pins s1 Z H1 _ I1 q1) fun u s2 ⟨x,H2,I2,rx,q2⟩=>thn (hi pins s2 Z H2 _ I2 q2) fun iv s3 ⟨y,H3,I3,ry,a,kvs,kd,ex,g,rk,hk,hz,q3⟩=>?_) hs
 subst ex
 obtain rfl:u=Value.ref a:=rx
 exact n_put hu I3 g rk hk hz ry rv fun s4 I4=>⟨Z,_,I4,q3⟩
noncomputable def Eo (i:Nat) (fk fv:Dn->Res PyData):Dn->Out:=fun δ=>match δ[i]? with
 | some (.ow (.tuple [.dict kvs,.none]))=>K2 (fv δ) fun v=>K2 (fk δ) fun kd=>if nkD kd=true/\kvs.length < 100000 then .nx (δ.set i (.ow (.tuple [.dict (O0 kvs kd v),.none]))) else .no
 | _=>.no
noncomputable section
variable {P:Program} {w:World} {K:PySem.W.Frag} {mg:Str->Option Value} {base:Heap} {X:Cx} {N:List Str} {sc:Scope} {k:Nat} {df:Bool} {E:EK} {p p2 pos:Pos} {a b:Expr} {f g:Dn->Res PyData} {x:Str}
theorem bF (C:Cxt P w K mg base X N sc k df) (i:Nat) (h:okVar N sc i x=true) (hk:DE X E a f) (hv:DE X E b g) (hs:swapsWith b (some (.Subscript (.Name x p) a p2)) pos.line X.env=pure false:=by rfl):DS X E (.Assign [.Subscript (.Name x p) a p2] b pos) (Eo i f g):=fun G0 H0=>by
 refine PS.imp (gI (by have:=C.hu; omega) (okVar.pe C h) hk hv hs) fun D Z H ⟨G,δ,S,aft⟩=>?_
 unfold Eo at aft
 split at aft
 . rename_i kvs hi
   refine Ec S aft fun v x1 G1 H1 g1 r1 S1 a1=>?_
   obtain ⟨q,hσ,hg,ho⟩:=S1.sr.own hi; refine ⟨.ref q,hσ,?_⟩; refine Ec S1 a1 fun kd x2 G2 H2 g2 r2 S2 a2=>?_
   obtain ⟨q',hσ',hg',ho'⟩:=S2.sr.own hi; rw [hσ] at hσ'; cases hσ'; obtain ⟨kk,hx,hkeys,hvals⟩:=(show OwnK G2 H2 q [.dict kvs,.none] from ho')
   split at a2
   . rename_i hc
     have hl:kk.length=kvs.length:=by
       have:=congrArg List.length hkeys
       simpa using this.symm
     have hlen:kk.length < sizeLine:=by
       rw [hl]; exact Nat.lt_of_lt_of_le hc.2 (by decide)
     refine ⟨q,kk,kd,rfl,hx,Fj S2.sr.sub hc.1 r2,hc.1,hlen,?_⟩; obtain ⟨p1,p2⟩:=Ju (k:=kd) (r1.mono g2.g) hkeys hvals; exact a2 Z G2 _ (S2.write hi (by rw [hσ]; rfl) hg' (show OwnK G2 _ q [.dict _,.none] from ⟨_,B7,p1,p2⟩))
   . exact (show False from a2).elim
 . exact (show False from aft).elim
end
noncomputable def fzN (i:Nat) (δ:Dn):Dn:=match δ[i]? with
 | some (.ow (.tuple [.dict kvs,.none]))=>δ.set i (.fd ((.dict [],.none)::kvs))
 | _=>δ
theorem SSt.fzN {G0 H0 G H:Hp} {Z:St} {δ:Dn} (S:SSt G0 H0 G H Z δ) (i:Nat):∃ G',SSt G0 H0 G' H Z (fzN i δ):=by
 unfold Sm.fzN
 split
 . rename_i kvs hi
   obtain ⟨p,hp,hg,ho⟩:=S.sr.sl i _ hi; obtain ⟨kk,hx,hk,r⟩:=(show OwnK G H p [.dict kvs,.none] from ho)
   have h0:=S.fr i _ p hi hp; have sm:Same G (upd G p (.dN kk)):=Same.upd hg; have gh:Same (upd G p (.dN kk)) H:=fun b u e=>by
     by_cases hb:b=p
     . subst hb; rw [B7] at e; cases e; exact hx
     . rw [B6 hb] at e; exact S.sr.sub _ _ e
   have gr:Grow G0 H0 (upd G p (.dN kk)) H:=⟨S.gr.g.trans sm,S.gr.h,gh,fun b u e=>by
     by_cases hb:b=p
     . subst hb; exact .inr (.inl h0)
     . rw [B6 hb] at e; exact S.gr.fr b u e⟩
   have hil:i < δ.length:=(List.getElem?_eq_some_iff.mp hi).1; have key:∀ (j:Nat) (d':PyData),(δ.set i (.fd ((.dict [],.none)::kvs)))[j]? = some (.ow d')->δ[j]? = some (.ow d')/\j≠i:=fun j d' e=>by
     rw [D5] at e
     split at e
     . cases e
     . rename_i hn
       exact ⟨e,fun z=>by subst z; exact hn ⟨rfl,hil⟩⟩
   refine ⟨_,gr,⟨gh,by simp [S.sr.len],fun j s e=>?_,fun j1 j2 a d1 d2 e1 e2 h1 h2=>S.sr.ap j1 j2 a d1 d2 (key j1 d1 e1).1 (key j2 d2 e2).1 h1 h2⟩,fun j d' a e h=>S.fr j d' a (key j d' e).1 h⟩
   by_cases hj:i=j/\i < δ.length
   . rw [D5,if_pos hj] at e
     cases e; rw [<- hj.1]; exact ⟨p,kk,hp,.inl B7,hk,r.mono sm⟩
   . have e2:=e
     rw [D5,if_neg hj] at e2; have hs:=S.sr.sl j s e2
     cases s with
     | un=>trivial
     | sh d=>obtain ⟨v,e1,r1⟩:=hs; exact ⟨v,e1,r1.mono sm⟩
     | fd _=>exact FdOk.mono sm hs
     | ow d2 =>
       obtain ⟨a,e1,n1,ok⟩:=hs; have hne:a≠p:=by
         rintro rfl
         exact (key j d2 e).2 (S.sr.ap j i a d2 _ e2 hi e1 hp)
       exact ⟨a,e1,by rw [B6 hne]; exact n1,ok.monoG sm⟩
 . exact ⟨G,S⟩
noncomputable def kT (i:Nat) (g:Dn->Out):Dn->Out:=fun δ=>g (fzN i δ)
theorem s_fzN {X:Cx} {E:EK} {st:Stmt} {g1:Dn->Out} (i:Nat) (h:DS X E st g1):DS X E st (kT i g1):=fun G0 H0=>PS.imp (h G0 H0) fun D Z H ⟨G,δ,S,a⟩=>by
 obtain ⟨G',S'⟩:=S.fzN i
 exact ⟨G',_,S',a⟩
end Sm
end
noncomputable section
namespace Sm
open PySem PySem.Spec PyProof.Rows PySem.W L2
def SlV (G:Hp) (v:V):Sl->Prop
 | .sh d=>Rep G d v
 | .fd kvs=>FdOk G (some v) kvs
 | _=>False
noncomputable def SlL (G:Hp):List Sl->List V->Prop
 | [],vs=>vs=[]
 | s::ss,vs=>∃ v r,vs=v::r/\SlV G v s/\SlL G ss r
theorem SlL.length {G:Hp}:∀ {ss:List Sl} {vs:List V},SlL G ss vs->ss.length=vs.length
 | [],vs,h=>by rw [show vs=[] from h]; rfl
 | _::_,_,h=>by obtain ⟨v,r,rfl,_,l⟩:=h; simp [SlL.length l]
theorem SlL.get {G:Hp}:∀ {ss:List Sl} {vs:List V} {i:Nat} {s:Sl},SlL G ss vs->ss[i]? = some s->∃ v,vs[i]? = some v/\SlV G v s
 | [],_,i,_,_,e=>by simp at e
 | _::_,_,0,_,h,e=>by obtain ⟨v,r,rfl,q,_⟩:=h; simp at e; subst e; exact ⟨v,rfl,q⟩
 | _::_,_,i+1,_,h,e=>by obtain ⟨v,r,rfl,_,l⟩:=h; exact SlL.get (i:=i) l (by simpa using e)
noncomputable def Dh (N:List Str) (ss:List Sl):Dn:=ss++List.replicate (N.length - ss.length) .un
theorem aN {G H:Hp} (hG:Same G H) {ss:List Sl} {vs:List V} (r:SlL G ss vs) (N:List Str):SSt G H G H (Y7 N vs) (Dh N ss):=by
 have hl:=r.length
 have noow:∀ (i:Nat) (d:PyData),(Dh N ss)[i]? ≠ some (.ow d):=fun i d e=>by
   unfold Dh at e
   by_cases hi:i < ss.length
   . rw [List.getElem?_append_left hi] at e
     obtain ⟨_,_,z⟩:=r.get e; exact z
   . rw [List.getElem?_append_right (Nat.not_lt.mp hi),List.getElem?_replicate] at e
     split at e <;> cases e
 refine ⟨Grow.refl hG,⟨hG,by unfold L2.Y7 Dh; simp [hl],fun i s e=>?_,fun i j a d d' e _ _ _=>absurd e (noow i d)⟩,fun i d a e _=>absurd e (noow i d)⟩
 unfold Dh at e
 by_cases hi:i < ss.length
 . rw [List.getElem?_append_left hi] at e
   obtain ⟨v,e1,rv⟩:=r.get e; unfold L2.Y7; rw [List.getElem?_append_left (by rw [List.length_map,<- hl]; exact hi),List.getElem?_map,e1]
   cases s with
   | sh d=>exact ⟨v,rfl,rv⟩
   | fd kvs=>exact rv
   | un=>exact rv.elim
   | ow d=>exact rv.elim
 . rw [List.getElem?_append_right (Nat.not_lt.mp hi),List.getElem?_replicate] at e
   split at e <;> cases e
   trivial
def spSN (n:Nat) (m:List Sl->Res Kvs):Sp:=fun vs H Q _=>∃ G ss kvs,Same G H/\SlL G ss vs/\ss.length=n/\m ss=.ok kvs/\∀ p G' H',Grow G H G' H'->H p=none->G' p=none->OwnOk G' H' p (.tuple [.dict kvs,.none])->Q (.ref p) H'
structure FnSN (P:Program) (w:World) (K:PySem.W.Frag) (mg:Str->Option Value) (base:Heap) (x:Str) (k n:Nat) (m:List Sl->Res Kvs):Prop where
 ex:∃ f fd ps,ps.length=n/\FnOk P w K mg base CX0 k f fd ps (spSN n m)/\mg x=some (.ref f)/\PySem.W.keepIn K (.ref f)=true/\Binds K fd ps []
noncomputable def iA (N:List Str) (g:Dn->Res Kvs):List Sl->Res Kvs:=fun ss=>g (Dh N ss)
noncomputable def Nw (f:Dn->Res PyData) (i:Nat) (m:List Sl->Res Kvs):Dn->Res Kvs:=fun δ=>(f δ).bind fun d=>match δ[i]? with
 | some (.fd kvs)=>m [.sh d,.fd kvs]
 | _=>.no
theorem FdOk.is {G:Hp} {o:Option V} {kvs:Kvs} (h:FdOk G o kvs):∃ a,o=some (.ref a):=by
 unfold FdOk at h
 split at h
 . obtain ⟨a,kk,h1,_⟩:=h; exact ⟨a,h1⟩
 . obtain ⟨a,ob,kk,h1,_⟩:=h; exact ⟨a,h1⟩
theorem SR.fdV {G H:Hp} {Z:St} {δ:Dn} {i:Nat} {kvs:Kvs} (S:SR G H Z δ) (hi:δ[i]? = some (.fd kvs)):∃ v,Z[i]? = some (some v)/\FdOk G (some v) kvs:=by
 have h:FdOk G (Z[i]?.join) kvs:=S.sl i _ hi
 obtain ⟨a,e⟩:=h.is
 rw [e] at h
 refine ⟨.ref a,?_,h⟩
 cases z:Z[i]? with
 | none=>rw [z] at e; cases e
 | some z' =>
   rw [z] at e
   cases z' with
   | none=>cases e
   | some z''=>cases e; rfl
noncomputable section
variable {P:Program} {w:World} {K:PySem.W.Frag} {mg:Str->Option Value} {base:Heap} {X:Cx} {N:List Str} {sc:Scope} {k:Nat} {df:Bool} {E:EK} {pos p p1:Pos} {a e:Expr} {f:Dn->Res PyData} {x y:Str}
theorem fn_SN {x:Str} {st:Stmt} {ps:List Str} {n:Nat} {go:Dn->Res Kvs} {m:List Sl->Res Kvs} (F:Def K mg x st ps) (S:FnScope N ps (A6 st)) (hn:ps.length=n)
   (body:∀ X,Cxt P w K mg base X N (A6 st) k true->DSN X E0k (B8 st) go) (hm:m=iA N go):FnSN P w K mg base x (k+1) n m:=by
 obtain ⟨f,fd,F,hmg,hb⟩:=F.ex
 refine ⟨f,fd,ps,hn,?_,hmg,F.kp,hb⟩
 subst hm
 refine F.ok S (fun vs H Q E h=>?_) (fun cdv A outer s H vs Q E hr h=>?_)
 . obtain ⟨G,ss,d,_,r,hl,_⟩:=h
   rw [<- r.length,hl,hn]
 . obtain ⟨G,ss,kvs,hG,r,hl,em,q⟩:=h
   refine ⟨_,body _ ⟨rfl,rfl,rfl,rfl,rfl,rfl,rfl,rfl,hr,fun _ _=>rfl,PassesOwn.never⟩ G H,G,_,aN hG r N,?_⟩
   unfold iA at em; rw [em]; exact q
theorem AftN.grow {G H G' H':Hp} {r:Res Kvs} {Q:VK} (g:Grow G H G' H') (a:AftN E G H r Q):AftN E G' H' r Q:=by
 cases r with
 | ok kvs=>exact fun p G2 H2 g2 hp hp' ho=>a p G2 H2 (g.trans g2) (g.h.free hp) hp' ho
 | exc c=>exact fun G2 H2 g2=>a G2 H2 (g.trans g2)
 | no=>exact a
theorem eU {G H:Hp} {Z:St} {δ:Dn} {k:PyData->Res Kvs} {Q R:VK} (S:SR G H Z δ) (a:AftN E G H ((f δ).bind k) Q)
   (h:∀ d v G1 H1,Grow G H G1 H1->Rep G1 d v->SR G1 H1 Z δ->AftN E G1 H1 (k d) Q->R v H1):tD E f Z H R:=by
 refine ⟨G,δ,S,?_⟩
 cases e:f δ with
 | ok d=>rw [e] at a; exact fun v G' H' g r=>h d v G' H' g r (S.grow g) (a.grow g)
 | exc c=>rw [e] at a; exact a
 | no=>rw [e] at a; exact a
theorem cT {j:Nat} {m:List Sl->Res Kvs} (C:Cxt P w K mg base X N sc k df) (F:FnSN P w K mg base y j 2 m) (hj:j<=k) (h:okGl sc y=true) (ha:DE X E0k e f) (i:Nat) (hv:okVar N sc i x=true)
   (he:starEach [e,.Name x p1] X.env=(false,eval e X.env)::starEach [.Name x p1] X.env:=by rfl) (he2:starEach [.Name x p1] X.env=(false,eval (.Name x p1) X.env)::starEach [] X.env:=by rfl) (hpl:(backTo pos (starEach [.Name x p1] X.env)).any (·.1)=false:=by rfl) :
   DN X E0k (.Call (.Name y p) [e,.Name x p1] [] pos) (Nw f i m):=by
 obtain ⟨fa,fd,ps,hps,F,hm,hk,hb⟩:=F.ex
 obtain ⟨h1,h2,h3⟩:=okGl.gl C h
 have F':FnOk X.prog X.w X.K X.mg X.base CX0 j fa fd ps (spSN 2 m):=by rw [C.hP,C.hw,C.hK,C.hmg,C.hb]; exact F
 refine PE.imp (Ot F' (C.room.mono hj) h1 (by rw [C.hmg]; exact hm) (by rw [C.hK]; exact hk) (by rw [C.hK]; exact hb) .nil (cG (X:=X)) (Q9 ha (Q9 (okVar.pe C hv) Ai he2) he) h2 he hpl) fun Z H Q hh=>?_
 obtain ⟨G,δ,S,aft⟩:=hh
 refine eU S aft fun d v G1 H1 g1 r1 S1 a1=>?_
 split at a1
 . rename_i kvs hi
   obtain ⟨u,hσ,fo⟩:=S1.fdV hi; refine ⟨u,hσ,?_⟩
   cases em:m [.sh d,.fd kvs] with
   | ok r=>rw [em] at a1; exact ⟨G1,[.sh d,.fd kvs],r,S1.sub,⟨v,_,rfl,r1,u,_,rfl,fo,rfl⟩,rfl,em,a1⟩
   | exc c=>rw [em] at a1; exact (a1 G1 H1 (Grow.refl S1.sub)).elim
   | no=>rw [em] at a1; exact a1.elim
 . exact (show False from a1).elim
end
end Sm
end
noncomputable section
namespace Sm
open PySem PySem.Spec PyProof.Rows PySem.W L2
end Sm
end
noncomputable section
namespace Sm
open PySem PySem.Spec PyProof.Rows PySem.W L2
noncomputable def Kh {α:Type} (acc prs:List (PyData×α)):List (PyData×α):=prs.foldl (fun acc kv=>O0 acc kv.1 kv.2) acc
def PairN (H:Hp) (y:V) (kv:PyData×V):Prop:=∃ t k,y=.ref t/\H t=some (.tup [k,kv.2])/\KRep H kv.1 k/\nkD kv.1=true
theorem PairN.mono {H H':Hp} {y:V} {kv:PyData×V} (h:PairN H y kv) (k:∀ b xs,H b=some (.tup xs)->H' b=some (.tup xs)):PairN H' y kv:=by
 obtain ⟨t,b,e,h1,h2,h3⟩:=h
 exact ⟨t,b,e,k _ _ h1,h2.mono k,h3⟩
theorem eB {P:Program} {w:World} {H:Hp} (h:Heap) (hb:sysModules < h.objs.size):ObjOk P w H (h.push { cls:=.type "dict",data:=.dict #[] }) h.objs.size (.dN []) :=
 ⟨Nat.zero_le _,beq_eq_false_iff_ne.mpr (Ne.symm (Nat.ne_of_lt hb)),.nil,(fun _ h=>nomatch h),[],.nil,0,Heap.get?_push_size _ rfl⟩
noncomputable section
variable {X:Cx} {pins:List (Addr×Obj)} {Z:St}
theorem Uq {A:Around} {a d it:Addr} (hh:A.handled=none) (hu:A.units+16 < cLine) {ys:List V} {R:Result->Shared->Prop}:∀ (n i:Nat) (s:Shared) (H:Hp) (acc:List (PyData×V)) (prs:List (PyData×V)),n=prs.length ->
   Inv X pins Z H s->H d=some (.dN acc)->Rd H a (.lst ys)->s.heap.IsListIter it a i->Ky X pins H it->Paired (PairN H) (ys.drop i) prs->i+prs.length=ys.length->acc.length+prs.length < 10000->ys.length < 10000 ->
   (∀ s',Inv X pins Z (upd H d (.dN (Kh acc prs))) s'->R (.ok (.ret .none)) s') ->
   codeAny (model X.prog X.w) A (.builtin "dict.update.loop" ⟨[.ref d,.ref it,rawInt i,.none],[]⟩) R s:=by
 intro n
 induction n with
 | zero =>
   intro i s H acc prs hn I hd hl st fp hp hlen hacc hys hR; have:prs=[]:=List.length_eq_zero_iff.mp hn.symm; subst this; refine codeAny_builtin Bo ?_; rw [Around.under_plainId Bm _]; obtain ⟨its,rv,p,hz⟩:=I.list (.inl hl); have hl':=rv.length; simp only [List.length_nil,Nat.add_zero] at hlen; show wpAny _ A.in1 (pyNext (.ref it)>>=_) _ _ s
   obtain ⟨f0,f1,f2,f3,f4,f5⟩:=fp; refine wpAny_bind (wpAny_pyNext_list_end hh st p.isList (by simp; omega) fun h' eb=>?_)
   have I1:Inv X pins Z H { s with heap:=h' }:=I.turned (t':=s.toks) (fun b o hb e=>eb b o hb e) f0 f1 f3 f4 f5
   have hsame:upd H d (.dN (Kh acc []))=H:=by
     funext b
     unfold upd
     split
     . rename_i e; rw [e,hd]; rfl
     . rfl
   rw [hsame] at hR; show wpAny _ A.in1 (Builtin.Dict.addKeywords d []>>=_) _ _ _
   exact wpAny_bind (wpAny_pure (wpAny_pure (hR _ I1)))
 | succ n ih =>
   intro i s H acc prs hn I hd hl st fp hp hlen hacc hys hR
   cases prs with
   | nil=>simp at hn
   | cons kv prs =>
     simp only [List.length_cons] at hn hlen hacc; have hi:i < ys.length:=by omega
     have hdrop:ys.drop i=ys[i]::ys.drop (i+1):=List.drop_eq_getElem_cons hi; rw [hdrop] at hp
     cases hp with
     | cons h0 hp =>
       obtain ⟨t,kk,ey,ht,hb,hnk⟩:=h0; refine codeAny_builtin Bo ?_; rw [Around.under_plainId Bm _]; obtain ⟨its,rv,p,hz⟩:=I.list (.inl hl); obtain ⟨u,hu',ru⟩:=rv.get (List.getElem?_eq_getElem hi); rw [ey] at ru
       cases (show u=Value.ref t from ru)
       obtain ⟨f0,f1,f2,f3,f4,f5⟩:=fp; show wpAny _ A.in1 (pyNext (.ref it)>>=_) _ _ s
       refine wpAny_bind (wpAny_pyNext_list_item st p.isList (x:=.ref t) (by simpa using hu') fun h' st' sb=>?_)
       have I1:Inv X pins Z H { s with heap:=h' }:=I.turned (t':=s.toks) (fun b o hb e=>(sb.2 b hb).trans e) f0 f1 f3 f4 f5
       obtain ⟨its2,rv2,p2,_⟩:=I1.tuple (.inl (.inl ht))
       cases rv2 with
       | @cons _ u1 _ _ r1 rr =>
         cases rr with
         | @cons _ u2 _ _ r2 rr2 =>
           cases rr2; obtain ⟨ot,hot,hotc,nt,hotd⟩:=p2; obtain ⟨c0,d0,da0,sl0⟩:=ot; simp only at hotc hotd; subst hotc hotd; refine wpAny_bind (wpAny_holding (wpAny_bind (wpAny_tryCatch ?_))); unfold Builtin.Dict.pairItems; have hT:({ s with heap:=h' }:Shared).TypeIs (.ref t) "tuple" := ⟨_,hot,rfl⟩
           generalize hDS:dictSet=DS
           repeat (any_goals (first | assumption | wp_step))
           subst hDS; refine Mp (A:=A.in1) (by show A.units+1+8 < cLine; omega) I1 hd hb hnk (Nat.lt_of_lt_of_le (show acc.length < 10000 by omega) (by decide)) r1 r2 fun s3 I3 sb3=>?_
           have hne:it≠d:=fun z=>by rw [z,hd] at f0; cases f0
           have hne2:∀ c xs,H c=some (.tup xs)->upd H d (.dN (O0 acc kv.1 kv.2)) c=some (.tup xs):=fun c xs e=>by rw [B6 (Ke e hd (fun z=>nomatch z))]; exact e
           refine wpAny_pure ⟨Code.quiet_builtin _ (by decide +kernel),?_⟩
           refine ih (i+1) s3 _ (O0 acc kv.1 kv.2) prs (by omega) I3 B7 ?_ (st'.at fun o e=>sb3 it o hne e) ⟨by rw [B6 hne]; exact f0,f1,f2,f3,f4,f5⟩ (Paired.mapP hp fun _ _ z=>z.mono hne2) (by omega) (by have:=Am (k:=kv.1) (v:=kv.2) acc; omega) hys fun s' J=>?_
           . rcases hl with z | ⟨o,z⟩
             . exact .inl (by rw [B6 (Ke z hd (fun z=>nomatch z))]; exact z)
             . exact .inr ⟨o,by rw [B6 (Ke z hd (fun z=>nomatch z))]; exact z⟩
           . rw [Nx] at J
             exact hR s' J
theorem Uy (hh:X.A.handled=none) (hu:X.A.units+64 < cLine):Aw X (.type "dict") (fun vs H Q=>∃ a ys prs,vs=[.ref a]/\Rd H a (.lst ys)/\Paired (PairN H) ys prs/\ys.length < 1000/\∀ p,H p=none->Q (.ref p) (upd H p (.dN (Kh [] prs)))):=by
 intro pins s Z H xs us Q I r ⟨a,ys,prs,e0,hl,hp,hn,q⟩
 subst e0
 cases r with
 | cons r0 rr =>
   cases rr; obtain ⟨rfl⟩:=(show _=Value.ref a from r0)
   refine callType_codes (Q₁:=fun obj s₁=>obj=.ref s.heap.objs.size/\s₁={ s with heap:=s.heap.push { cls:=.type "dict",data:=.dict #[] } }) F.kt_called_dict (F.kt_typeCall_dict_1 _) F.entry_dict_init (kt_code_dict_new _ ⟨rfl,rfl⟩) ?_
   rintro obj s₁ ⟨rfl,rfl⟩
   have hfr:=I.hok.fresh (Nat.le_refl s.heap.objs.size); have I1:=I.laid (a:=s.heap.objs.size) (o:=.dN []) (h':=s.heap.push { cls:=.type "dict",data:=.dict #[] }) (t':=s.toks) (fun _ _ q=>Heap.get?_push_of_some _ q) (Nat.le_refl _) (eB s.heap I.big)
   have hTd:({ s with heap:=s.heap.push { cls:=.type "dict",data:=.dict #[] } }:Shared).TypeIs (.ref s.heap.objs.size) "dict" := ⟨_,Heap.get?_push_size _ rfl,rfl⟩; refine ⟨hTd,F.args_dict_init_2 _ _,?_⟩; have hl1:Rd (upd H s.heap.objs.size (.dN [])) a (.lst ys):=by
     rcases hl with z | ⟨o,z⟩
     . exact .inl (by rw [B6 (C9 z hfr)]; exact z)
     . exact .inr ⟨o,by rw [B6 (C9 z hfr)]; exact z⟩
   obtain ⟨_,its,nn,rv,hobj⟩:=(show ObjOk X.prog X.w _ _ a (.lst ys) from hl1.ok I1.hok)
   unfold Builtin.«dict.__init__»
   refine wpAny_bind ?_; unfold Builtin.Dict.selfAndRest; refine wpAny_bind (wpAny_notOrdered_dict hTd ?_); show wpAny _ _ (pure (s.heap.objs.size,[Value.ref a])) _ _ _
   refine wpAny_pure ?_; show wpAny _ _ (Builtin.Dict.updateFrom "dict.__init__" s.heap.objs.size (.ref a) [] .none) _ _ _
   unfold Builtin.Dict.updateFrom; refine wpAny_bind (wpAny_typeOf (T := "list") ⟨_,hobj,rfl⟩ ?_); rw [if_pos (by decide)]; refine wpAny_bind (Yu hh hobj fun h1 tk1 kp=>?_)
   rw [if_pos (by rfl)]; have I2:Inv X pins Z (upd H s.heap.objs.size (.dN [])) { s with heap:=h1,toks:=tk1 }:=I1.kept (t':=tk1) kp; refine wpAny_bind (wpAny_rule ?_); obtain ⟨its2,rv2,p2,_⟩:=I2.list (.inl hl1); refine wpAny_bind (wpAny_pyIter_list p2.isList ?_); have I3:Inv X pins Z (upd H s.heap.objs.size (.dN [])) { s with heap:=h1.push { cls:=.type "list_iterator",data:=.fields #[.ref a,.int 0 0] },toks:=tk1 }:=I2.kept (t':=tk1) fun b o e=>Heap.get?_push_of_some _ e
   have hpz:Paired (PairN (upd H s.heap.objs.size (.dN []))) ys prs:=Paired.mapP hp fun _ _ z=>z.mono fun b xs e=>by rw [B6 (C9 e hfr)]; exact e
   have hle:prs.length=ys.length:=(Paired.len' hp).symm; refine wpAny_pure ⟨Code.quiet_builtin _ (by decide +kernel),?_⟩
   refine Uq (A:=X.A.in1) hh (by show X.A.units+1+16 < cLine; omega) (ys:=ys) prs.length 0 _ _ [] prs rfl I3 B7 hl1 ⟨_,Heap.get?_push_size _ rfl,rfl,rfl⟩ (I2.fpOk (Nat.le_refl _) (I2.hok.fresh (Nat.le_refl _))) hpz (by omega) (by simp; omega) (by omega) fun s' J=>?_
   rw [Nx] at J; exact ⟨rfl,.ref s.heap.objs.size,_,J,rfl,q _ hfr⟩
end
noncomputable def Dk:List PyData->Kvs->Option Kvs
 | [],kvs=>some kvs
 | .tuple [kd,v]::ds,kvs=>if nkD kd=true then Dk ds (O0 kvs kd v) else none
 | _::_,_=>none
theorem Jz {G:Hp}:∀ (ds:List PyData) (ys:List V) (kvs kvs':Kvs) (kv:List (PyData×V)),RepL G ds ys->Dk ds kvs=some kvs'->kvs.map (·.1)=kv.map (·.1)->RepL G (kvs.map (·.2)) (kv.map (·.2)) ->
   ∃ prs,Paired (PairN G) ys prs/\kvs'.map (·.1)=(Kh kv prs).map (·.1)/\RepL G (kvs'.map (·.2)) ((Kh kv prs).map (·.2))
 | [],ys,kvs,kvs',kv,r,e,h1,h2=>by
   cases (show _=_ from r)
   cases e; exact ⟨[],.nil,h1,h2⟩
 | d::ds,ys,kvs,kvs',kv,r,e,h1,h2=>by
   obtain ⟨y,t,rfl,rd,rl⟩:=r; unfold Dk at e
   split at e
   . rename_i heq
     cases heq
   . rename_i kd v ds' heq
     cases heq
     split at e
     . rename_i ek
       obtain ⟨p,xs,rfl,hp,lp⟩:=rd; obtain ⟨v1,v2,rfl,r1,r2⟩:=bM lp; obtain ⟨p1,p2⟩:=Ju (k:=kd) r2 h1 h2; obtain ⟨prs,q1,q2,q3⟩:=Jz ds t _ kvs' _ rl e p1 p2; exact ⟨(kd,v2)::prs,.cons ⟨p,v1,rfl,hp,Fj (Same.refl G) ek r1,ek⟩ q1,q2,q3⟩
     . cases e
   . cases e
noncomputable def Ow (f:Dn->Res PyData):Dn->Res Kvs:=fun δ=>(f δ).bind fun d=>match d with
 | .list ds=>if ds.length < 1000 then ofO (Dk ds []) else .no
 | _=>.no
noncomputable section
variable {P:Program} {w:World} {K:PySem.W.Frag} {mg:Str->Option Value} {base:Heap} {X:Cx} {N:List Str} {sc:Scope} {k:Nat} {df:Bool} {E:EK} {p2 cp:Pos} {e:Expr} {f:Dn->Res PyData}
theorem gY (C:Cxt P w K mg base X N sc k df) (hd:okGl sc "dict" = true) (hm:mg "dict" = none) (hf:DE X E e f) (hst:Ov e=true:=by rfl)
   (he:starEach [e] X.env=(false,eval e X.env)::starEach [] X.env:=by rfl) (hpl:(backTo cp (starEach [] X.env)).any (·.1)=false:=by rfl) :
   DN X E (.Call (.Name "dict" p2) [e] [] cp) (Ow f):=by
 obtain ⟨k1,k2,k3⟩:=okGl.gl C hd
 refine PE.imp (Fm (Uy C.room.hd C.hu) k1 (by rw [C.hmg]; exact hm) (by decide +kernel) (Q9 hf Ai he) k3 k2 he hpl) fun Z H Q hh=>?_
 obtain ⟨G,δ,S,aft⟩:=hh
 refine eU S aft fun d v G1 H1 g1 r1 S1 a1=>?_
 split at a1
 . rename_i ds
   split at a1
   . rename_i hlen
     cases ek:Dk ds [] with
     | none=>rw [ek] at a1; exact (show False from a1).elim
     | some kvs =>
       rw [ek] at a1; obtain ⟨a,ys,rfl,ha,la⟩:=r1; obtain ⟨prs,q1,q2,q3⟩:=Jz ds ys [] kvs [] la ek rfl rfl; refine ⟨a,ys,prs,rfl,Rd.mono S1.sub ha,Paired.mapP q1 fun _ _ z=>z.mono fun b xs e=>S1.sub _ _ e,by rw [<- la.length]; exact hlen,fun q hq=>?_⟩
       exact a1 q G1 _ (Grow.own S1.sub hq) hq (S1.sub.free hq) (show OwnK G1 _ q [.dict kvs,.none] from ⟨_,B7,q2,q3⟩)
   . exact (show False from a1).elim
 . exact (show False from a1).elim
end
end Sm
end
noncomputable section
namespace Sm
open PySem PySem.Spec PySem.W PyProof.Rows L2
end Sm
end
noncomputable section
namespace Sm
open PySem PySem.Spec PySem.W PyProof.Rows L2
end Sm
end
noncomputable section
namespace Sm
open PySem PySem.Spec PyProof.Rows PySem.W L2
noncomputable def ltS (a b:Str):Bool:=ltCps a.cps.toList b.cps.toList
noncomputable def Yy (p:Str):List Str->List Str
 | []=>[p]
 | q::r=>if ltS q p=true then q::Yy p r else p::q::r
noncomputable def U0:List Str->List Str
 | []=>[]
 | p::r=>Yy p (U0 r)
noncomputable def Q7:List PyData->Option (List Str)
 | []=>some []
 | .str x::r=>(Q7 r).map (x::·)
 | _::_=>none
def leX (a b:Str):Prop:=¬ b.cps.toList < a.cps.toList
theorem jK {a b:Str}:ltS b a=false↔leX a b:=by unfold ltS leX; rw [ltCps_eq]; simp
theorem leX.trans {a b c:Str} (h1:leX a b) (h2:leX b c):leX a c:=List.le_trans (l₁:=a.cps.toList) (l₂:=b.cps.toList) (l₃:=c.cps.toList) h1 h2
theorem leX.anti {a b:Str} (h1:leX a b) (h2:leX b a):a=b:=by
 have:=List.le_antisymm (as:=a.cps.toList) (bs:=b.cps.toList) h1 h2
 obtain ⟨⟨x⟩⟩:=a
 obtain ⟨⟨y⟩⟩:=b
 simp at this
 rw [this]
theorem Mj:∀ (p:Str) (l:List Str),risingS p l=true->(p::l).Pairwise leX
 | p,[],_=>List.pairwise_singleton _ _
 | p,x::r,h=>by
   have h':(!ltCps x.cps.toList p.cps.toList&&risingS x r)=true:=h; rw [Bool.and_eq_true] at h'; have ih:=Mj x r h'.2; have hx:leX p x:=jK.mp (by have:=h'.1; unfold ltS; simpa using this)
   refine List.pairwise_cons.mpr ⟨fun y hy=>?_,ih⟩
   rcases List.mem_cons.mp hy with rfl | hy
   . exact hx
   . exact hx.trans ((List.pairwise_cons.mp ih).1 y hy)
theorem Tw:∀ {l:List Str},sortedS l=true->l.Pairwise leX
 | [],_=>.nil
 | x::r,h=>Mj x r h
theorem Rc:∀ {l m:List Str},l.Perm m->l.Pairwise leX->m.Pairwise leX->l=m
 | [],m,h,_,_=>(List.Perm.nil_eq h)
 | a::l,[],h,_,_=>absurd h.length_eq (by simp)
 | a::l,b::m,h,h1,h2=>by
   rw [List.pairwise_cons] at h1 h2; have e:a=b:=by
     rcases List.mem_cons.mp (h.mem_iff.mp (List.mem_cons_self (a:=a) (l:=l))) with e | e
     . exact e
     . rcases List.mem_cons.mp (h.mem_iff.mpr (List.mem_cons_self (a:=b) (l:=m))) with e' | e'
       . exact e'.symm
       . exact (h1.1 b e').anti (h2.1 a e)
   subst e; rw [Rc (List.Perm.cons_inv h) h1.2 h2.2]
theorem Ga (p:Str):∀ l,(Yy p l).Perm (p::l)
 | []=>List.Perm.refl _
 | q::r=>by
   unfold Yy
   split
   . exact ((Ga p r).cons q).trans (List.Perm.swap p q r)
   . exact List.Perm.refl _
theorem X4:∀ l,(U0 l).Perm l
 | []=>List.Perm.refl _
 | p::r=>(Ga p (U0 r)).trans ((X4 r).cons p)
theorem Wr (p:Str):∀ l,l.Pairwise leX->(Yy p l).Pairwise leX
 | [],_=>List.pairwise_singleton _ _
 | q::r,h=>by
   rw [List.pairwise_cons] at h; unfold Yy
   split
   . rename_i c
     refine List.pairwise_cons.mpr ⟨fun x hx=>?_,Wr p r h.2⟩
     rcases List.mem_cons.mp ((Ga p r).mem_iff.mp hx) with rfl | hx
     . unfold ltS at c; rw [ltCps_eq] at c; exact List.lt_asymm (of_decide_eq_true c)
     . exact h.1 x hx
   . rename_i c
     have hq:leX p q:=jK.mp (by simpa using c)
     refine List.pairwise_cons.mpr ⟨fun x hx=>?_,List.pairwise_cons.mpr h⟩
     rcases List.mem_cons.mp hx with rfl | hx
     . exact hq
     . exact hq.trans (h.1 x hx)
theorem Qm:∀ l,(U0 l).Pairwise leX
 | []=>.nil
 | p::r=>Wr p _ (Qm r)
noncomputable section
theorem Ig:∀ {vs:List Value} {ss:List Str},StrsAre vs ss->Vals (ss.map V.str) vs
 | _,_,.nil=>.nil
 | _,_,.cons x t h=>.cons ⟨t,rfl⟩ (Ig h)
end
noncomputable section
variable {x:Str}
theorem Js {G:Hp}:∀ (ss:List Str),(∀ x∈ss,PyData.strOk x=true/\x.length<=sizeLine)->RepL G (ss.map .str) (ss.map .str)
 | [],_=>rfl
 | x::ss,h=>RepL.cons ⟨rfl,h x (.head _)⟩ (Js ss fun y hy=>h y (.tail _ hy))
end
end Sm
end
noncomputable section
namespace Sm
open PySem PySem.Spec PyProof.Rows L2
end Sm
end
noncomputable section
namespace Sm
open PySem PySem.Spec PyProof.Rows L2
noncomputable def okS (x:Str):Bool:=PyData.strOk x&&decide (x.length<=sizeLine)
noncomputable section
theorem okS.out {x:Str} (h:okS x=true):PyData.strOk x=true/\x.length<=sizeLine:=by
 unfold okS at h
 simp only [Bool.and_eq_true,decide_eq_true_eq] at h
 exact h
end
end Sm
end
noncomputable section
namespace Sm
open PySem PySem.Spec PyProof.Rows L2
end Sm
end
noncomputable section
namespace Sm
open PySem PySem.Spec PyProof.Rows L2
end Sm
end
noncomputable section
namespace Sm
open PySem PySem.Spec PyProof.Rows L2
end Sm
end
noncomputable section
namespace Sm
open PySem PySem.Spec PyProof.Rows L2
end Sm
namespace Sm
open PySem PySem.Spec PyProof.Rows L2
end Sm
end
noncomputable section
namespace Sm
open PySem PySem.Spec PyProof.Rows L2
noncomputable def Gf (x:Str) (lo hi:Option Int):Str:=if (((PySem.Builtin.Str.strSliceIndices lo hi 1 x.length).length==x.length)=true) then x else ⟨((PySem.Builtin.Str.strSliceIndices lo hi 1 x.length).filterMap (x.cps[·]?)).toArray⟩
noncomputable def jU (d:PyData) (lo hi:Option Int):Option PyData:=match d with
 | .str x=>if okS (Gf x lo hi)=true then some (.str (Gf x lo hi)) else none
 | _=>none
theorem Wd {v:Value} {o:Option Int} (h:IsPart v o):∃ l:Option (Int×Tok),v=partValue l/\l.map (·.1)=o:=by
 cases h with
 | none=>exact ⟨none,rfl,rfl⟩
 | int i t=>exact ⟨some (i,t),rfl,rfl⟩
noncomputable section
variable {X:Cx}
noncomputable def rSlS:V->Option Int->Option Int->Hp->VK->Prop:=fun x lo hi H Q=>∃ z,x=.str z/\(Gf z lo hi).length<=sizeLine/\Q (.str (Gf z lo hi)) H
theorem sl_S:SlR X rSlS:=by
 intro pins s Z H x v vl vu lo hi sl Q I rx hs pl pu ⟨z,e,hl,q⟩
 subst e
 obtain ⟨t,rfl⟩:=rx
 obtain ⟨l,rfl,rfl⟩:=Wd pl
 obtain ⟨u,rfl,rfl⟩:=Wd pu
 refine ⟨"str",_,F.slot_str_getitem.lookup,typeIs_str _ _ _,?_⟩
 refine wpAny_getItem_str_slice (l:=l) (u:=u) (st:=none) hs rfl ?_
 unfold sliceMade slicePicked
 unfold Gf at q hl
 show (if ((1:Int)==1&&(PySem.Builtin.Str.strSliceIndices (l.map (·.1)) (u.map (·.1)) 1 z.length).length==z.length)=true then Made.val (.str z t) else .str ⟨((PySem.Builtin.Str.strSliceIndices (l.map (·.1)) (u.map (·.1)) 1 z.length).filterMap (z.cps[·]?)).toArray⟩).post _ s
 have e1:((1:Int)==1)=true:=rfl
 rw [e1,Bool.true_and]
 split
 . rename_i h
   rw [if_pos h] at q; exact ⟨.str z,H,I,⟨_,rfl⟩,q⟩
 . rename_i h
   rw [if_neg h] at q hl; exact ⟨hl,.str _,H,I.tok _,⟨_,rfl⟩,q⟩
noncomputable def Tk (f:Dn->Res PyData) (fl fh:Dn->Res (Option Int)):Dn->Res PyData:=fun δ=>(f δ).bind fun d=>(fl δ).bind fun l=>(fh δ).bind fun u=>ofO (jU d l u)
theorem Sq {E:EK} {e:Expr} {lo hi:Option Expr} {f:Dn->Res PyData} {fl fh:Dn->Res (Option Int)} {p2 pos:Pos} (he:DE X E e f) (hl:DO X E lo fl) (hu:DO X E hi fh):DE X E (.Subscript e (.Slice lo hi none p2) pos) (Tk f fl fh):=by
 refine PE.imp (Rh sl_S he hl hu) fun Z H Q ⟨G,δ,S,aft⟩=>?_
 refine M9 S aft fun d v G1 H1 g1 r1 S1 a1=>?_
 refine Ex (W:=fun G H r=>Aft E G H r Q) S1 a1 (fun g a=>Aft.grow g a) (fun c a=>a) (fun a=>a) fun l G2 H2 g2 S2 a2=>?_
 refine Ex (W:=fun G H r=>Aft E G H r Q) S2 a2 (fun g a=>Aft.grow g a) (fun c a=>a) (fun a=>a) fun u G3 H3 g3 S3 a3=>?_
 cases d with
 | str z =>
   simp only [jU] at a3
   split at a3
   . rename_i ok
     exact ⟨z,r1.1,(okS.out ok).2,a3 _ G3 H3 (Grow.refl S3.sub) ⟨rfl,okS.out ok⟩⟩
   . exact (show False from a3).elim
 | _=>exact (show False from a3).elim
end
end Sm
end
noncomputable section
namespace Sm
open PySem PySem.Spec PyProof.Rows L2
noncomputable def rngD2 (lo:Int) (n:Nat):List PyData:=(List.range n).map fun (i:Nat)=>PyData.int (lo+i*2)
noncomputable def rng3:List PyData->Res (List PyData)
 | [.int i,.int j,.int 2]=>if 0<=i/\i < 100000/\0<=j/\j < 100000 then .ok (rngD2 i ((j - i+1) / 2).toNat) else .no
 | _=>.no
noncomputable section
variable {P:Program} {w:World} {K:PySem.W.Frag} {mg:Str->Option Value} {base:Heap} {X:Cx} {N:List Str} {sc:Scope} {k:Nat} {df:Bool} {E:EK} {pos p px py pz tp:Pos} {a b c d e iter:Expr} {sts:List Stmt} {g1:Dn->Out} {src:Dn->Res (List PyData)} {x y z:Str}
noncomputable def st3 (i j l:Nat):PyData->Dn->Option Dn:=fun d δ=>match d with
 | .tuple [a,b,c]=>some (((δ.set i (.sh a)).set j (.sh b)).set l (.sh c))
 | _=>none
theorem tg3 (i j l:Nat):nE K (Za K 3 (Y9 (L4 i) (Y9 (L4 j) (Y9 (L4 l) Zc)))) (st3 i j l):=fun G0 H0 G H Z δ δ1 d x Q S r e h=>by
 cases d with
 | tuple ds =>
   match ds,e with
   | [a,b,c],e =>
     cases e; obtain ⟨p,xs,rfl,e1,l1⟩:=r; obtain ⟨v,t,rfl,r1,l2⟩:=l1; obtain ⟨v',v'',rfl,r2,r3⟩:=bM l2; exact ⟨p,_,rfl,.inl (.inl (S.sr.sub _ _ e1)),rfl,v,[v',v''],rfl,v',[v''],rfl,v'',[],rfl,rfl,h _ (((S.set_sh r1).set_sh r2).set_sh r3)⟩
 | _=>cases e
theorem kQ {x1:Nat} (C:Cxt P w K mg base X N sc k df) (i j l:Nat) (hi':okSet N sc df i x=true) (hj:okSet N sc df j y=true) (hl:okSet N sc df l z=true) (hi:DI X E (.Tuple [.Name x px,.Name y py,.Name z pz] x1 tp) iter src) (hb:DSs X E sts g1) (hs:∀ x,foldedSetIterable iter X.env x=pure x:=by intro _; rfl) :
   DS X E (.For (.Tuple [.Name x px,.Name y py,.Name z pz] x1 tp) iter sts [] pos) (N9 src (st3 i j l) g1):=by
 obtain ⟨h1',h2,h3,h4⟩:=okSet.ok C hi'
 obtain ⟨_,q2,q3,q4⟩:=okSet.ok C hj
 obtain ⟨_,u2,u3,u4⟩:=okSet.ok C hl
 have pg:=Ue (n:=3) (k:=x1) (pos:=tp) C.calm (U3 (O4 (pos:=px) h1' h2 h3 h4) (U3 (O4 (pos:=py) h1' q2 q3 q4) (U3 (O4 (pos:=pz) h1' u2 u3 u4) Os)))
 rw [C.hK] at pg
 exact bH C hi pg (tg3 i j l) hb hs
end
end Sm
end
noncomputable section
namespace Sm
open PySem PySem.Spec PyProof.Rows L2
noncomputable def Db:List PyData->Option (List Int)
 | []=>some []
 | .int i::r=>(Db r).map (i::·)
 | _::_=>none
noncomputable def Yx (p:Int):List Int->List Int
 | []=>[p]
 | q::r=>if q < p then q::Yx p r else p::q::r
noncomputable def Cb:List Int->List Int
 | []=>[]
 | p::r=>Yx p (Cb r)
theorem Fz (p:Int):∀ l,(Yx p l).Perm (p::l)
 | []=>List.Perm.refl _
 | q::r=>by
   unfold Yx
   split
   . exact ((Fz p r).cons q).trans (List.Perm.swap p q r)
   . exact List.Perm.refl _
theorem X3:∀ l,(Cb l).Perm l
 | []=>List.Perm.refl _
 | p::r=>(Fz p (Cb r)).trans ((X3 r).cons p)
theorem Wq (p:Int):∀ l:List Int,l.Pairwise (· <= ·)->(Yx p l).Pairwise (· <= ·)
 | [],_=>List.pairwise_singleton _ _
 | q::r,h=>by
   rw [List.pairwise_cons] at h; unfold Yx
   split
   . refine List.pairwise_cons.mpr ⟨fun x hx=>?_,Wq p r h.2⟩
     rcases List.mem_cons.mp ((Fz p r).mem_iff.mp hx) with rfl | hx
     . omega
     . exact h.1 x hx
   . refine List.pairwise_cons.mpr ⟨fun x hx=>?_,List.pairwise_cons.mpr h⟩
     rcases List.mem_cons.mp hx with rfl | hx
     . omega
     . have:=h.1 x hx; omega
theorem Jf:∀ l,(Cb l).Pairwise (· <= ·)
 | []=>.nil
 | p::r=>Wq p _ (Jf r)
theorem Qa:∀ {l m:List Int},l.Perm m->l.Pairwise (· <= ·)->m.Pairwise (· <= ·)->l=m
 | [],m,h,_,_=>(List.Perm.nil_eq h)
 | a::l,[],h,_,_=>absurd h.length_eq (by simp)
 | a::l,b::m,h,h1,h2=>by
   rw [List.pairwise_cons] at h1 h2; have e:a=b:=by
     rcases List.mem_cons.mp (h.mem_iff.mp (List.mem_cons_self (a:=a) (l:=l))) with e | e
     . exact e
     . rcases List.mem_cons.mp (h.mem_iff.mpr (List.mem_cons_self (a:=b) (l:=m))) with e' | e'
       . exact e'.symm
       . have:=h1.1 b e'; have:=h2.1 a e; omega
   subst e; rw [Qa (List.Perm.cons_inv h) h1.2 h2.2]
theorem repZ {G:Hp}:∀ {ds:List PyData} {xs:List V} {us:List Value} {ns:List Int},RepL G ds xs->Vals xs us->Db ds=some ns->IntsAre us ns
 | [],_,_,_,r,q,e=>by cases (show _=_ from r); cases q; cases e; exact .nil
 | d::ds,_,_,ns,r,q,e=>by
   cases d with
   | int i =>
     obtain ⟨x,t,rfl,h,l⟩:=r; obtain ⟨m,e1,e2⟩:=Option.map_eq_some_iff.mp (show (Db ds).map (i::·)=some ns from e)
     cases (show x=.int i from h)
     cases q with
     | cons hq q =>
       obtain ⟨t,rfl⟩:=hq; rw [<- e2]; exact .cons i t (repZ l q e1)
   | _=>cases e
theorem jC:∀ {vs:List Value} {ns:List Int},IntsAre vs ns->Vals (ns.map V.int) vs
 | _,_,.nil=>.nil
 | _,_,.cons x t h=>.cons ⟨t,rfl⟩ (jC h)
end Sm
end
noncomputable section
namespace Sm
open PySem PySem.Spec PyProof.Rows PySem.W L2
end Sm
end
noncomputable section
namespace Sm
open PySem PySem.Spec PyProof.Rows PySem.W L2
theorem repT {G:Hp}:∀ {ds:List PyData} {xs:List V} {us:List Value} {ss:List Str},RepL G ds xs->Vals xs us->Q7 ds=some ss->StrsAre us ss/\∀ x∈ss,PyData.strOk x=true/\x.length<=sizeLine
 | [],_,_,_,r,q,e=>by cases (show _=_ from r); cases q; cases e; exact ⟨.nil,fun _ h=>nomatch h⟩
 | d::ds,_,_,ns,r,q,e=>by
   cases d with
   | str i =>
     obtain ⟨x,t,rfl,h,l⟩:=r; obtain ⟨m,e1,e2⟩:=Option.map_eq_some_iff.mp (show (Q7 ds).map (i::·)=some ns from e)
     obtain ⟨rfl,h2⟩:=h
     cases q with
     | cons hq q =>
       obtain ⟨t,rfl⟩:=hq; obtain ⟨k1,k2⟩:=repT l q e1; rw [<- e2]; refine ⟨.cons i t k1,fun y hy=>?_⟩
       rcases List.mem_cons.mp hy with rfl | hy
       . exact h2
       . exact k2 y hy
   | _=>cases e
end Sm
end
noncomputable section
namespace Sm
open PySem PySem.W PyProof.Rows
theorem O2:Slot "set_iterator" "__next__" "set_iterator.__next__" :=
 .of (owner := "set_iterator") (n := "__next__") (by rw [typeLookup_type,builtinLookup_eq_fast]; kernel_rfl) (by decide +kernel) (by decide +kernel) (by decide +kernel) (by first | exact .inl (by decide +kernel) | exact .inr (by decide +kernel)) (by rw [isSubtype_type]; kernel_rfl)
theorem Vn:Slot "set_iterator" "__iter__" "set_iterator.__iter__" :=
 .of (owner := "set_iterator") (n := "__iter__") (by rw [typeLookup_type,builtinLookup_eq_fast]; kernel_rfl) (by decide +kernel) (by decide +kernel) (by decide +kernel) (by first | exact .inl (by decide +kernel) | exact .inr (by decide +kernel)) (by rw [isSubtype_type]; kernel_rfl)
theorem Eh:entryFor table "set_iterator.__next__" = some Builtin.«set_iterator.__next__» := entryFor_of_tree (by kernel_rfl)
theorem aW:entryFor table "set_iterator.__iter__" = some Builtin.«dict_keyiterator.__iter__» := entryFor_alias (id' := "dict_keyiterator.__iter__") (by kernel_rfl) rfl (by decide +kernel) (by kernel_rfl)
theorem Xz:entryFor table "set.__iter__" = some Builtin.«frozenset.__iter__» := entryFor_alias (id' := "frozenset.__iter__") (by kernel_rfl) rfl (by decide +kernel) (by kernel_rfl)
theorem Ei (a:Value):argsOk "set_iterator.__next__" ⟨[a],[]⟩:=by unfold argsOk; kernel_rfl
theorem aX (a:Value):argsOk "set_iterator.__iter__" ⟨[a],[]⟩:=by unfold argsOk; kernel_rfl
end Sm
end
noncomputable section
namespace Sm
open PySem PySem.W PyProof.Rows
abbrev Bl (f:Value) (i:Nat) (a:Addr) (n ep:Nat):Obj:={ cls:=.type "set_iterator",data:=.fields #[f,.int i 0,.ref a,.int n 0,.int ep 0] }
theorem Du {α:Type}:∀ {l:List α} {i:Nat} {x:α},l[i]? = some x->(x::l.eraseIdx i).Perm l
 | [],_,_,h=>by cases h
 | y::l,0,x,h=>by cases h; exact List.Perm.refl _
 | y::l,i+1,x,h=>(List.Perm.swap y x _).trans ((Du (l:=l) (i:=i) h).cons y)
theorem Wa {α:Type} (nx:Nat->Nat):∀ (n k:Nat) (l:List α) (out:Array α),l.length=n->(pickOrder.go nx n k l out).toList.Perm (out.toList++l)
 | 0,k,l,out,h=>by
   cases List.eq_nil_of_length_eq_zero h
   rw [List.append_nil]; exact List.Perm.refl _
 | n+1,k,l,out,h=>by
   unfold pickOrder.go; have hi:nx k % l.length < l.length:=Nat.mod_lt _ (by omega)
   rw [List.getElem?_eq_getElem hi]; refine (Wa nx n (k+1) _ _ (by rw [List.length_eraseIdx_of_lt hi]; omega)).trans ?_
   rw [Array.toList_push,List.append_assoc]; exact List.Perm.append_left _ (Du (List.getElem?_eq_getElem hi))
theorem Fl {α:Type} (nx:Nat->Nat) (xs:Array α):(pickOrder nx xs).toList.Perm xs.toList:=Wa nx xs.size 0 xs.toList #[] (by simp)
noncomputable section
variable {prog:Program} {w:World} {A:Around} {E:Value->Shared->Prop} {s:Shared}
theorem Xl {src:Source} {n:Nat} {Q:Nat->Shared->Prop} (h:n≠0) (hQ:∀ i d,i < n->Q i { s with drawn:=d }):wpAny (model prog w) A (choose src n) Q E s:=fun Γ p hΓ=>by
 unfold choose
 rw [Sem.wp_choose]
 exact ⟨h,hQ _ _ (Nat.mod_lt _ (Nat.pos_of_ne_zero h))⟩
theorem Ef {α:Type}:∀ (n:Nat) (xs:List α) (s:Shared) (Q:List α->Shared->Prop),xs.length=n->(∀ ys d,ys.Perm xs->Q ys { s with drawn:=d })->wpAny (model prog w) A (drawOrder n xs) Q E s
 | 0,xs,s,Q,h,q=>by
   cases List.eq_nil_of_length_eq_zero h
   exact wpAny_pure (q [] s.drawn (List.Perm.refl _))
 | n+1,[],s,Q,h,q=>by cases h
 | n+1,x::xs,s,Q,h,q=>by
   refine wpAny_bind (Xl (by simp) fun i d hi=>?_)
   rw [List.getElem?_eq_getElem hi]; refine wpAny_bind (Ef n _ _ _ (by rw [List.length_eraseIdx_of_lt hi]; omega) fun ys d' hp=>wpAny_pure (q _ d' ?_))
   exact (hp.cons _).trans (Du (List.getElem?_eq_getElem hi))
theorem Jh {a:Addr} {o:Obj} {es:Array (Int×Value)} {ep sl i:Nat} {t:SetTable} {Q:Option (Value×Nat)->Shared->Prop} (hb:w.params.followText "set-order" = true) (ho:s.heap.get? a=some o) (hd:o.data=.set es ep t) (hf:t.fits es.size=true)
   (hQ:Q (((pickOrder (w.params.setOrder a ep) es)[i]?).map fun e=>(e.2,sl)) s):wpAny (model prog w) A (setNext a sl i ep) Q E s:=by
 unfold setNext setWalk setsByText
 refine wpAny_bind (wpAny_setState_of ho hd hf ?_)
 refine wpAny_bind (wpAny_bind (wpAny_askSetting (wpAny_pure ?_)))
 have hb':(model prog w).w.params.followText "set-order" = true:=hb
 simp only [hb',if_true,bne_self_eq_false,Bool.false_eq_true,if_false]
 refine wpAny_bind (wpAny_bind (wpAny_setState_of ho hd hf ?_))
 refine wpAny_bind (wpAny_bind (wpAny_askSetting (wpAny_pure ?_)))
 simp only [hb',if_true]
 exact wpAny_bind (wpAny_askSetting (wpAny_pure (wpAny_pure hQ)))
theorem Mg {a:Addr} {o:Obj} {es:Array (Int×Value)} {ep sl i:Nat} {t:SetTable} {Q:Option (Value×Nat)->Shared->Prop} (hb:w.params.followText "set-order" = false) (ho:s.heap.get? a=some o) (hd:o.data=.set es ep t) (hf:t.fits es.size=true)
   (hdr:(!t.plain&&decide (es.size>1))=false) (hl:t.led=true)
   (hQ:Q (match es[SetTable.below t.place sl]?,t.place[SetTable.below t.place sl]? with | some (_,x),some j=>some (x,j+1) | _,_=>none) s):wpAny (model prog w) A (setNext a sl i ep) Q E s:=by
 unfold setNext setsByText
 refine wpAny_bind (wpAny_setState_of ho hd hf ?_)
 refine wpAny_bind (wpAny_bind (wpAny_askSetting (wpAny_pure ?_)))
 have hb':(model prog w).w.params.followText "set-order" = false:=hb
 simp only [hb',Bool.false_eq_true,if_false]
 refine wpAny_ite_split (fun h=>absurd (show (!t.plain&&decide (es.size>1))=true from h) (by rw [hdr]; decide)) fun _=>wpAny_bind ?_
 show wpAny _ _ (if (!t.led && !es.isEmpty)=true then _ else _) _ _ _
 rw [hl]
 exact wpAny_pure (wpAny_pure hQ)
theorem Wj {I a:Addr} {sl i nx ep:Nat} {o:Obj} {es:Array (Int×Value)} {t:SetTable} {x:Value} {Q:Option Value->Shared->Prop} (hit:s.heap.get? I=some (Bl (.int sl 0) i a es.size ep)) (ho:s.heap.get? a=some o) (hd:o.data=.set es ep t) (hf:t.fits es.size=true)
   (hx:∀ (A:Around) (E:Value->Shared->Prop) (Q:Option (Value×Nat)->Shared->Prop),Q (some (x,nx)) s->wpAny (model prog w) A (setNext a sl i ep) Q E s)
   (hQ:∀ h',h'.get? I=some (Bl (.int nx 0) (i+1) a es.size ep)->Heap.SameBut I s.heap h'->Q (some x) { s with heap:=h' }):wpAny (model prog w) A (pyNext (.ref I)) Q E s:=by
 have hT:s.TypeIs (.ref I) "set_iterator" := ⟨_,hit,rfl⟩
 unfold pyNext
 refine wpAny_bind (wpAny_attempt ?_)
 refine wpAny_callSpecial?_slot (name:=Str.ofString "__next__") hT O2 (wpAny_call_entry O2 hT Eh ?_ (Ei _))
 unfold Builtin.«set_iterator.__next__» slotArgs
 refine wpAny_bind (wpAny_pure ?_)
 refine wpAny_bind (wpAny_fieldsOf hit rfl ?_)
 refine wpAny_bind (wpAny_setEntries_of ho hd hf ?_)
 simp only [bne_self_eq_false,Bool.false_eq_true,if_false]
 refine wpAny_bind (hx _ _ _ ?_)
 refine wpAny_bind (wpAny_setField_rec hit (by simp) fun h1 q1 b1=>?_)
 refine wpAny_bind (wpAny_setField_rec (s:={ s with heap:=h1 }) q1 (by simp) fun h2 q2 b2=>?_)
 exact wpAny_pure ⟨_,rfl,wpAny_pure (hQ h2 q2 (b1.trans b2))⟩
theorem Rb {A:Around} {I:Addr} {Q:Option Value->Shared->Prop} (hh:A.handled=none) (k:Nat) (hk:k < 5) (y:Value) {h0:Heap} (hq:Heap.ExtBut I h0 s.heap) (hit:∃ vs,s.heap.get? I=some { cls:=.type "set_iterator",data:=.fields vs }/\vs.size=5)
   (hQ:∀ h',Heap.ExtBut I h0 h'->Q none { s with heap:=h' }) :
   wpAny (model prog w) A.in1 (do
       setField (Value.ref I) k y
       let e <- newExc (Value.type "StopIteration") []
       raiseNew e) (fun fin s'=>∃ v,fin=Fin.done (Flow.ret v)/\wpAny (model prog w) A (pure (some v)) Q E s')
     (fun e s' => wpAny (model prog w) A (do
         let d <- isInstance e (Value.type "StopIteration")
         if d=true then pure none else throw e) Q E s') s:=by
 obtain ⟨vs,hit,hv⟩:=hit
 refine wpAny_bind (wpAny_setField_rec hit (by omega) fun h1 q1 b1=>?_)
 refine wpAny_bind ?_
 simp only [newExc,newTuple]
 refine wpAny_bind (wpAny_newObj_type ?_ (by size_fits))
 refine wpAny_bind (m:=firstArgMember _ _) (wpAny_of_eq (a:=Value.none) (by first | rfl | (simp only [firstArgMember]; rfl)) (wpAny_newObj_type ?_ (by size_fits)))
 simp only [raiseNew]
 refine wpAny_bind (wpAny_handled ?_)
 rw [show A.in1.handled=none from hh]
 refine wpAny_bind (wpAny_pure (wpAny_throw (wpAny_bind ?_)))
 refine wpAny_isInstance (T := "StopIteration") (b:=true) ⟨_,Heap.get?_push_size _ rfl,rfl⟩ isSubtype_stop ?_
 exact wpAny_pure (hQ _ (((hq.trans b1.extBut).push _).push _))
theorem dY {I a:Addr} {sl i ep:Nat} {o:Obj} {es:Array (Int×Value)} {t:SetTable} {Q:Option Value->Shared->Prop} (hh:A.handled=none) (hit:s.heap.get? I=some (Bl (.int sl 0) i a es.size ep)) (ho:s.heap.get? a=some o) (hd:o.data=.set es ep t) (hf:t.fits es.size=true)
   (hx:∀ (A:Around) (E:Value->Shared->Prop) (Q:Option (Value×Nat)->Shared->Prop),Q none s->wpAny (model prog w) A (setNext a sl i ep) Q E s)
   (hQ:∀ h',Heap.ExtBut I s.heap h'->Q none { s with heap:=h' }):wpAny (model prog w) A (pyNext (.ref I)) Q E s:=by
 have hT:s.TypeIs (.ref I) "set_iterator" := ⟨_,hit,rfl⟩
 unfold pyNext
 refine wpAny_bind (wpAny_attempt ?_)
 refine wpAny_callSpecial?_slot (name:=Str.ofString "__next__") hT O2 (wpAny_call_entry O2 hT Eh ?_ (Ei _))
 unfold Builtin.«set_iterator.__next__» slotArgs
 refine wpAny_bind (wpAny_pure ?_)
 refine wpAny_bind (wpAny_fieldsOf hit rfl ?_)
 refine wpAny_bind (wpAny_setEntries_of ho hd hf ?_)
 simp only [bne_self_eq_false,Bool.false_eq_true,if_false]
 refine wpAny_bind (hx _ _ _ ?_)
 exact Rb hh 2 (by decide) .none (Heap.SameBut.refl I _).extBut ⟨_,hit,rfl⟩ hQ
theorem gW {I a tp:Addr} {i ep pl c:Nat} {o:Obj} {es:Array (Int×Value)} {t:SetTable} {x:Value} {hv:Int} {ps:Array Value} {Q:Option Value->Shared->Prop} (hit:s.heap.get? I=some (Bl (.ref tp) i a es.size ep)) (ho:s.heap.get? a=some o) (hd:o.data=.set es ep t) (hf:t.fits es.size=true)
   (htp:s.heap.get? tp=some { cls:=.type "tuple",data:=.seq ps c }) (hp:ps[i]? = some (.int pl 0)) (hx:es[pl]? = some (hv,x))
   (hQ:∀ h',h'.get? I=some (Bl (.ref tp) (i+1) a es.size ep)->Heap.SameBut I s.heap h'->Q (some x) { s with heap:=h' }):wpAny (model prog w) A (pyNext (.ref I)) Q E s:=by
 have hT:s.TypeIs (.ref I) "set_iterator" := ⟨_,hit,rfl⟩
 unfold pyNext
 refine wpAny_bind (wpAny_attempt ?_)
 refine wpAny_callSpecial?_slot (name:=Str.ofString "__next__") hT O2 (wpAny_call_entry O2 hT Eh ?_ (Ei _))
 unfold Builtin.«set_iterator.__next__» slotArgs
 refine wpAny_bind (wpAny_pure ?_)
 refine wpAny_bind (wpAny_fieldsOf hit rfl ?_)
 refine wpAny_bind (wpAny_setEntries_of ho hd hf ?_)
 simp only [bne_self_eq_false,Bool.false_eq_true,if_false]
 refine wpAny_bind (wpAny_seqItems htp rfl ?_)
 simp only [Int.toNat_natCast,hp]
 unfold setNextDrawn
 refine wpAny_bind (wpAny_bind (wpAny_setState_of ho hd hf ?_))
 simp only [bne_self_eq_false,Bool.false_eq_true,if_false,hx]
 refine wpAny_pure ?_
 refine wpAny_bind (wpAny_setField_rec hit (by simp) fun h1 q1 b1=>?_)
 exact wpAny_pure ⟨_,rfl,wpAny_pure (hQ h1 q1 b1)⟩
theorem mR {I a tp:Addr} {i ep c:Nat} {o:Obj} {es:Array (Int×Value)} {t:SetTable} {ps:Array Value} {Q:Option Value->Shared->Prop} (hh:A.handled=none) (hit:s.heap.get? I=some (Bl (.ref tp) i a es.size ep)) (ho:s.heap.get? a=some o) (hd:o.data=.set es ep t) (hf:t.fits es.size=true)
   (htp:s.heap.get? tp=some { cls:=.type "tuple",data:=.seq ps c }) (hp:ps[i]? = none)
   (hQ:∀ h',Heap.ExtBut I s.heap h'->Q none { s with heap:=h' }):wpAny (model prog w) A (pyNext (.ref I)) Q E s:=by
 have hT:s.TypeIs (.ref I) "set_iterator" := ⟨_,hit,rfl⟩
 unfold pyNext
 refine wpAny_bind (wpAny_attempt ?_)
 refine wpAny_callSpecial?_slot (name:=Str.ofString "__next__") hT O2 (wpAny_call_entry O2 hT Eh ?_ (Ei _))
 unfold Builtin.«set_iterator.__next__» slotArgs
 refine wpAny_bind (wpAny_pure ?_)
 refine wpAny_bind (wpAny_fieldsOf hit rfl ?_)
 refine wpAny_bind (wpAny_setEntries_of ho hd hf ?_)
 simp only [bne_self_eq_false,Bool.false_eq_true,if_false]
 refine wpAny_bind (wpAny_seqItems htp rfl ?_)
 simp only [Int.toNat_natCast,hp]
 refine wpAny_bind (wpAny_setField_rec hit (by simp) fun h1 q1 b1=>?_)
 exact Rb (s:={ s with heap:=h1 }) hh 2 (by decide) .none b1.extBut ⟨_,q1,rfl⟩ hQ
theorem Og {I a:Addr} {f:Value} {i n ep:Nat} {Q:Value->Shared->Prop} (hit:s.heap.get? I=some (Bl f i a n ep)) (h:Q (.ref I) s):wpAny (model prog w) A (pyIter (.ref I)) Q E s:=by
 have hT:s.TypeIs (.ref I) "set_iterator" := ⟨_,hit,rfl⟩
 refine wpAny_pyIter_slot hT Vn (wpAny_call_entry Vn hT aW ?_ (aX _))
 show wpAny _ _ (ret (.ref I)) _ _ s
 exact wpAny_pure ⟨_,rfl, "set_iterator",_,hT,O2.lookup,h⟩
theorem fA (hh:A.handled=none) (I a tp:Addr) (h1:a≠I) (h2:tp≠I) (o:Obj) (es:Array (Int×Value)) (ep c:Nat) (t:SetTable) (hd:o.data=.set es ep t) (hf:t.fits es.size=true) (pl:List Nat) (hl:pl.length=es.size) (hp:∀ j∈pl,j < es.size) :
   Walks prog w A I [I,a,tp] [I] es.size (fun i v=>(pl.map fun j=>(es[j]?.map (·.2)).getD .none)[i]? = some v) (fun i h=>h.get? I=some (Bl (.ref tp) i a es.size ep)/\h.get? a=some o/\h.get? tp=some { cls:=.type "tuple",data:=.seq ((pl.map fun j:Nat=>Value.int (j:Int) 0).toArray) c }) where
 sub:=fun b hb=>by simp at hb; simp [hb]
 frame:=fun _ _ _ st hk=>⟨hk I (by simp) _ st.1,hk a (by simp) _ st.2.1,hk tp (by simp) _ st.2.2⟩
 item:=fun i s Q E hi st hQ=>by
   have hi':i < pl.length:=by omega
   have hj:=hp pl[i] (List.getElem_mem hi'); refine gW (pl:=pl[i]) (hv:=es[pl[i]].1) (x:=es[pl[i]].2) st.1 st.2.1 hd hf st.2.2 (by simp [hi']) (by simp [hj]) fun h' q b=>?_
   refine hQ _ h' s.toks ?_ ⟨q,b.extBut a _ h1 st.2.1,b.extBut tp _ h2 st.2.2⟩ fun b' o' hb e=>b.extBut b' o' (fun z=>hb (by simp [z])) e
   simp [hi',hj]
 done:=fun s Q E st hQ=>mR hh st.1 st.2.1 hd hf st.2.2 (by simp [hl]) fun h' he=>hQ h' s.toks fun b o hb e=>he b o (fun z=>hb (by simp [z])) e
 self:=fun _ _ _ _ st hQ=>Og st.1 hQ
theorem eY (hh:A.handled=none) (I a:Addr) (h1:a≠I) (o:Obj) (es:Array (Int×Value)) (ep:Nat) (t:SetTable) (hd:o.data=.set es ep t) (hf:t.fits es.size=true) (hb:w.params.followText "set-order" = true) :
   Walks prog w A I [I,a] [I] es.size (fun i v=>((pickOrder (w.params.setOrder a ep) es).toList.map (·.2))[i]? = some v) (fun i h=>h.get? I=some (Bl (.int 0 0) i a es.size ep)/\h.get? a=some o) where
 sub:=fun b hb=>by simp at hb; simp [hb]
 frame:=fun _ _ _ st hk=>⟨hk I (by simp) _ st.1,hk a (by simp) _ st.2⟩
 item:=fun i s Q E hi st hQ=>by
   have hsz:(pickOrder (w.params.setOrder a ep) es).size=es.size:=by rw [<- Array.length_toList,(Fl _ es).length_eq,Array.length_toList]
   have hi':i < (pickOrder (w.params.setOrder a ep) es).size:=by omega
   refine Wj (sl:=0) (nx:=0) (x:=(pickOrder (w.params.setOrder a ep) es)[i].2) st.1 st.2 hd hf (fun A E Q q=>Jh hb st.2 hd hf ?_) fun h' q b=>?_
   . rw [Array.getElem?_eq_getElem hi']; exact q
   refine hQ _ h' s.toks ?_ ⟨q,b.extBut a _ h1 st.2⟩ fun b' o' hb e=>b.extBut b' o' (fun z=>hb (by simp [z])) e
   simp [hi']
 done:=fun s Q E st hQ=>by
   have hsz:(pickOrder (w.params.setOrder a ep) es).size=es.size:=by rw [<- Array.length_toList,(Fl _ es).length_eq,Array.length_toList]
   refine dY (sl:=0) hh st.1 st.2 hd hf (fun A E Q q=>Jh hb st.2 hd hf ?_) fun h' he=>hQ h' s.toks fun b o hb e=>he b o (fun z=>hb (by simp [z])) e
   rw [Array.getElem?_eq_none (by omega)]; exact q
 self:=fun _ _ _ _ st hQ=>Og st.1 hQ
def Jj (xs:Array Nat):Nat->Nat
 | 0=>0
 | i+1=>xs.getD i 0+1
theorem Th {xs:Array Nat} (hr:xs.toList.Pairwise (· < ·)):∀ {i:Nat},i<=xs.size->SetTable.below xs (Jj xs i)=i:=fun {i} hi=>by
 obtain ⟨h1,h2,h3⟩:=Ea xs (Jj xs i) hr
 have ge:∀ k d,k < xs.size->xs.getD k d=xs.getD k 0:=fun k d hk=>by simp [Array.getD,hk]
 rcases Nat.lt_trichotomy (SetTable.below xs (Jj xs i)) i with hl | hl | hl
 . have e:=h3 _ (Nat.le_refl _) (Nat.lt_of_lt_of_le hl hi)
   cases i with
   | zero=>omega
   | succ i =>
     rw [ge _ _ (by omega)] at e; rw [show Jj xs (i+1)=xs.getD i 0+1 from rfl] at e hl; rcases Nat.lt_or_ge (SetTable.below xs (xs.getD i 0+1)) i with z | z
     . have:=Aq hr (d:=0) z (by omega); omega
     . have z2:SetTable.below xs (xs.getD i 0+1)=i:=by omega
       rw [z2] at e; omega
 . exact hl
 . have e:=h2 i hl
   rw [ge _ _ (by omega)] at e
   cases i with
   | zero=>exact absurd e (Nat.not_lt_zero _)
   | succ i=>rw [show Jj xs (i+1)=xs.getD i 0+1 from rfl] at e; have:=Aq hr (d:=0) (show i < i+1 by omega) (by omega); omega
theorem eZ (hh:A.handled=none) (I a:Addr) (h1:a≠I) (o:Obj) (es:Array (Int×Value)) (ep:Nat) (t:SetTable) (hd:o.data=.set es ep t) (hf:t.fits es.size=true) (hb:w.params.followText "set-order" = false) (hdr:(!t.plain&&decide (es.size>1))=false) (hl:t.led=true) (hr:t.place.toList.Pairwise (· < ·)) :
   Walks prog w A I [I,a] [I] es.size (fun i v=>(es.toList.map (·.2))[i]? = some v) (fun i h=>h.get? I=some (Bl (.int (Jj t.place i) 0) i a es.size ep)/\h.get? a=some o) where
 sub:=fun b hb=>by simp at hb; simp [hb]
 frame:=fun _ _ _ st hk=>⟨hk I (by simp) _ st.1,hk a (by simp) _ st.2⟩
 item:=fun i s Q E hi st hQ=>by
   have hsz:t.place.size=es.size:=by unfold SetTable.fits at hf; simp at hf; exact hf.1
   have hi':i < t.place.size:=by omega
   refine Wj (sl:=Jj t.place i) (nx:=Jj t.place (i+1)) (x:=es[i].2) st.1 st.2 hd hf (fun A E Q q=>Mg hb st.2 hd hf hdr hl ?_) fun h' q b=>?_
   . rw [Th hr (by omega),Array.getElem?_eq_getElem hi,Array.getElem?_eq_getElem hi']
     have:Jj t.place (i+1)=t.place[i]+1:=by unfold Jj; simp [Array.getD,hi']
     rw [this] at q; exact q
   refine hQ _ h' s.toks ?_ ⟨q,b.extBut a _ h1 st.2⟩ fun b' o' hb e=>b.extBut b' o' (fun z=>hb (by simp [z])) e
   simp [hi]
 done:=fun s Q E st hQ=>by
   have hsz:t.place.size=es.size:=by unfold SetTable.fits at hf; simp at hf; exact hf.1
   refine dY (sl:=Jj t.place es.size) hh st.1 st.2 hd hf (fun A E Q q=>Mg hb st.2 hd hf hdr hl ?_) fun h' he=>hQ h' s.toks fun b o hb e=>he b o (fun z=>hb (by simp [z])) e
   rw [Th hr (by omega),Array.getElem?_eq_none (Nat.le_refl _)]; exact q
 self:=fun _ _ _ _ st hQ=>Og st.1 hQ
end
end Sm
end
noncomputable section
namespace Sm
open PySem PySem.W PyProof.Rows
def Go (w:World) (t:SetTable):Prop:=t.led = !(w.params.followText "set-order")/\t.dummies = #[]/\t.place.toList.Pairwise (· < ·)
theorem Yk {es:Array (Int×Value)} {pl:List Nat} (h:pl.Perm (List.range es.size)):(pl.map fun j=>(es[j]?.map (·.2)).getD .none).Perm (es.toList.map (·.2)):=by
 refine (h.map _).trans ?_
 have:(List.range es.size).map (fun j=>(es[j]?.map (·.2)).getD .none)=es.toList.map (·.2):=by
   apply List.ext_getElem
   . simp
   . intro i h1 h2
     simp at h1
     simp [h1]
 rw [this]
noncomputable section
variable {prog:Program} {w:World} {A:Around} {E:Value->Shared->Prop} {s:Shared}
theorem dG {a:Addr} {o:Obj} {es:Array (Int×Value)} {ep:Nat} {t:SetTable} {Q:Value->Shared->Prop} (ho:s.heap.get? a=some o) (hex:o.ExactSet) (hd:o.data=.set es ep t) (hf:t.fits es.size=true) (ht:Go w t) (hz:es.size<=4096) (hh:A.handled=none)
   (hQ:∀ (h1:Heap) (d1:Drawn) (I:Addr) (fp:List Addr) (ord:List Value) (St:Nat->Heap->Prop),(∀ b o,s.heap.get? b=some o->h1.get? b=some o)->s.heap.get? I=none->(∀ b∈fp,b=a\/s.heap.get? b=none)->ord.Perm (es.toList.map (·.2)) ->
     Walks prog w A I fp [I] es.size (fun i v=>ord[i]? = some v) St->St 0 h1->Q (.ref I) { s with heap:=h1,drawn:=d1 }):wpAny (model prog w) A (pyIter (.ref a)) Q E s:=by
 have hT:s.TypeIs (.ref a) "set" := ⟨o,ho,hex.1⟩
 have hlt:a < s.heap.objs.size:=Heap.lt_size ho
 refine wpAny_pyIter_slot hT F.slot_set_iter (wpAny_call_entry F.slot_set_iter hT Xz ?_ (F.args_set_iter_1 _))
 unfold Builtin.«frozenset.__iter__» Builtin.Frozenset.slot0 slotArgs Builtin.Frozenset.sizeOf setDrawn setsByText setEpoch
 refine wpAny_bind (wpAny_bind (wpAny_pure (wpAny_pure ?_)))
 refine wpAny_bind (wpAny_bind (wpAny_setEntries_of ho hd hf (wpAny_pure ?_)))
 refine wpAny_bind (wpAny_bind (wpAny_setState_of ho hd hf ?_))
 refine wpAny_bind (wpAny_bind (wpAny_askSetting (wpAny_pure (wpAny_pure ?_))))
 show wpAny _ _ (if (!(w.params.followText "set-order")&&(!t.plain&&decide (es.size>1)))=true then _ else _) _ _ _
 cases hb:w.params.followText "set-order" with
 | true =>
   refine wpAny_ite_split (fun h=>by cases h) fun _=>wpAny_bind (wpAny_pure ?_)
   refine wpAny_bind (wpAny_bind (wpAny_setState_of ho hd hf (wpAny_pure ?_))); refine wpAny_bind (wpAny_newObj_type (wpAny_pure ⟨_,rfl, "set_iterator",_,⟨_,Heap.get?_push_size _ rfl,rfl⟩,O2.lookup,?_⟩)); exact hQ (s.heap.push (Bl (.int 0 0) 0 a es.size ep)) s.drawn s.heap.objs.size _ _ _ (fun b o e=>Heap.get?_push_of_some _ e) (Heap.get?_none_of_le (Nat.le_refl _)) (fun b hb=>by
     rcases List.mem_cons.mp hb with rfl | hb
     . exact .inr (Heap.get?_none_of_le (Nat.le_refl _))
     . exact .inl (List.mem_singleton.mp hb)) ((Fl _ es).map _) (eY hh _ a (Nat.ne_of_lt hlt) o es ep t hd hf hb) ⟨Heap.get?_push_size _ rfl,Heap.get?_push_of_some _ ho⟩
 | false =>
   have hl:t.led=true:=by rw [ht.1,hb]; rfl
   cases hp:(!t.plain&&decide (es.size>1)) with
   | false =>
     refine wpAny_ite_split (fun h=>by cases h) fun _=>wpAny_bind (wpAny_pure ?_)
     refine wpAny_bind (wpAny_bind (wpAny_setState_of ho hd hf (wpAny_pure ?_))); refine wpAny_bind (wpAny_newObj_type (wpAny_pure ⟨_,rfl, "set_iterator",_,⟨_,Heap.get?_push_size _ rfl,rfl⟩,O2.lookup,?_⟩)); exact hQ (s.heap.push (Bl (.int 0 0) 0 a es.size ep)) s.drawn s.heap.objs.size _ _ _ (fun b o e=>Heap.get?_push_of_some _ e) (Heap.get?_none_of_le (Nat.le_refl _)) (fun b hb=>by
       rcases List.mem_cons.mp hb with rfl | hb
       . exact .inr (Heap.get?_none_of_le (Nat.le_refl _))
       . exact .inl (List.mem_singleton.mp hb)) (List.Perm.refl _) (eZ hh _ a (Nat.ne_of_lt hlt) o es ep t hd hf hb hp hl ht.2.2) ⟨Heap.get?_push_size _ rfl,Heap.get?_push_of_some _ ho⟩
   | true =>
     refine wpAny_ite_split (fun _=>?_) fun h=>absurd rfl h
     refine wpAny_bind (Ef _ _ _ _ (by simp) fun pl d hpl=>?_)
     unfold newTuple; have hplen:pl.length=es.size:=by rw [hpl.length_eq]; simp
     refine wpAny_bind (wpAny_newObj_type ?_ (by show (List.toArray _).size<=_; rw [sizeLine_eq]; simp; omega))
     refine wpAny_bind (wpAny_bind (wpAny_setState_of (s:={ s with heap:=s.heap.push _,drawn:=d }) (Heap.get?_push_of_some _ ho) hd hf (wpAny_pure ?_))); refine wpAny_bind (wpAny_newObj_type (wpAny_pure ⟨_,rfl, "set_iterator",_,⟨_,Heap.get?_push_size _ rfl,rfl⟩,O2.lookup,?_⟩)); have hsz:∀ o:Obj,(s.heap.push o).objs.size=s.heap.objs.size+1:=fun o=>Heap.size_push ..
     refine hQ _ d _ [(s.heap.push { cls:=.type "tuple",data:=.seq ((pl.map fun j:Nat=>Value.int (j:Int) 0).toArray) 0 }).objs.size,a,s.heap.objs.size] _ _ (fun b o e=>Heap.get?_push_of_some _ (Heap.get?_push_of_some _ e)) (Heap.get?_none_of_le (by rw [hsz]; omega)) (fun b hb=>?_) (Yk hpl)
       (fA hh _ a s.heap.objs.size (by rw [hsz]; exact Nat.ne_of_lt (Nat.lt_succ_of_lt hlt)) (by rw [hsz]; exact Nat.ne_of_lt (Nat.lt_succ_self _)) o es ep 0 t hd hf pl hplen (fun j hj=>List.mem_range.mp (hpl.mem_iff.mp hj))) ⟨Heap.get?_push_size _ rfl,Heap.get?_push_of_some _ (Heap.get?_push_of_some _ ho),Heap.get?_push_of_some _ (Heap.get?_push_size _ rfl)⟩
     rcases List.mem_cons.mp hb with rfl | hb
     . exact .inr (Heap.get?_none_of_le (by rw [hsz]; omega))
     rcases List.mem_cons.mp hb with rfl | hb
     . exact .inl rfl
     . rw [List.mem_singleton.mp hb]; exact .inr (Heap.get?_none_of_le (Nat.le_refl _))
end
end Sm
end
noncomputable section
namespace Sm
open PySem PySem.W PyProof.Rows
noncomputable section
variable {prog:Program} {w:World} {A:Around} {E:Value->Shared->Prop} {s:Shared}
theorem dP {r:Addr} {Q:Bool->Shared->Prop} (hT:s.TypeIs (.ref r) "set") (h:Q false s):wpAny (model prog w) A (Builtin.List.listLengthHint (.ref r)) Q E s:=by
 unfold Builtin.List.listLengthHint
 refine wpAny_bind (wpAny_specialOf hT PySem.F.slot_set_len.lookup ?_)
 generalize hid:("set.__len__" : String)=z
 wp_delta
 rw [show splitId z=some ("set", "__len__") from by subst hid; decide +kernel]
 subst hid
 refine wpAny_bind (wpAny_isInstance (T := "set") (b:=true) hT (by rw [isSubtype_type]; kernel_rfl) ?_)
 refine wpAny_ite_split (fun hab=>absurd hab (by decide)) (fun _=>wpAny_ite_split (fun _=>?_) (fun hab=>absurd (by decide +kernel) hab))
 exact wpAny_bind (wpAny_typeOf hT (wpAny_pure h))
theorem Hd {a:Addr} {o:Obj} {es:Array (Int×Value)} {ep:Nat} {t:SetTable} {Q:List Value->Shared->Prop} (ho:s.heap.get? a=some o) (hex:o.ExactSet) (hd:o.data=.set es ep t) (hf:t.fits es.size=true) (ht:Go w t) (hz:es.size<=4096) (hh:A.handled=none)
   (hQ:∀ (h1:Heap) (d1:Drawn) tk (ord:List Value),(∀ b o,s.heap.get? b=some o->h1.get? b=some o)->ord.Perm (es.toList.map (·.2))->Q ord { s with heap:=h1,drawn:=d1,toks:=tk }):wpAny (model prog w) A (collect (.ref a)) Q E s:=by
 have hlt:a < s.heap.objs.size:=Heap.lt_size ho
 have hzl:es.size<=sizeLine:=by rw [sizeLine_eq]; omega
 have hnS:s.heap.get? s.heap.objs.size=none:=Heap.get?_none_of_le (Nat.le_refl _)
 let hp:=s.heap.push { cls:=.type "list",data:=.seq ([]:List Value).toArray }
 have hS:hp.get? s.heap.objs.size=some { cls:=.type "list",data:=.seq #[] 0 }:=Heap.get?_push_size _ rfl
 have ho':hp.get? a=some o:=Heap.get?_push_of_some _ ho
 unfold collect
 refine wpAny_bind (wpAny_runValue (codeAny_builtin F.entry_proto_collect ?_))
 rw [Around.under_plainId F.plain_proto_collect _]
 refine wpAny_bind (wpAny_newObj_type (wpAny_pure ⟨plainId_quiet F.plain_list_iadd _,codeAny_builtin F.entry_list_iadd ?_⟩))
 rw [Around.under_plainId F.plain_list_iadd _]
 show wpAny _ _ (Builtin.List.listExtendWith (.ref s.heap.objs.size) (.ref a) (.ref s.heap.objs.size)) _ _ { s with heap:=hp }
 unfold Builtin.List.listExtendWith
 have hT:Shared.TypeIs { s with heap:=hp } (.ref a) "set" := ⟨o,ho',hex.1⟩
 refine wpAny_bind (wpAny_typeOf hT ?_)
 have h1:Builtin.List.listSameRef (.ref s.heap.objs.size) (.ref a)=false:=by simp [Builtin.List.listSameRef]; exact Nat.ne_of_gt hlt
 rw [h1,show (Value.type "set" == Value.type "list")=false from by decide,show (Value.type "set" == Value.type "tuple")=false from by decide]
 simp only [Bool.or_false,Bool.false_eq_true,if_false]
 refine wpAny_bind (dG (s:={ s with heap:=hp }) ho' hex hd hf ht hz hh fun h1 d1 I fp ord St hk hI hfp hord W st=>?_)
 refine wpAny_bind (wpAny_holding (dP (s:={ s with heap:=h1,drawn:=d1 }) ⟨o,hk _ _ ho',hex.1⟩ ?_))
 have hS1:=hk _ _ hS
 have hSf:s.heap.objs.size∉fp:=fun hb=>by
   rcases hfp _ hb with e | e
   . exact absurd (show s.heap.objs.size=a from e) (Nat.ne_of_gt hlt)
   . rw [show hp.get? s.heap.objs.size=none from e] at hS; cases hS
 have key : ∀ (h : Heap) (c : Nat), St 0 h -> (∀ b o, s.heap.get? b = some o -> h.get? b = some o) -> h.get? s.heap.objs.size = some { cls := .type "list", data := .seq #[] c } ->
     codeAny (model prog w) A (.builtin "list.extend.loop" ⟨[.ref s.heap.objs.size,.ref I,.ref s.heap.objs.size],[]⟩) (wants (fun v s'=>v=.ref s.heap.objs.size/\∃ h1 d1 tk acc c',s'={ s with heap:=h1,drawn:=d1,toks:=tk }/\(∀ b o,s.heap.get? b=some o->h1.get? b=some o)/\h1.get? s.heap.objs.size=some { cls:=.type "list",dict:=none,data:=.seq acc c',slots := #[] }/\ItemsOf (fun i v=>ord[i]? = some v) acc es.size) E) { s with heap:=h,drawn:=d1 }:=by
   intro h c hst hk2 hc; refine codeAny_extend_loopS W.toS hzl s.heap.objs.size hSf (.ref s.heap.objs.size) es.size 0 _ #[] c rfl (Nat.zero_le _) hst hc (ItemsOf.nil _) fun s' acc' c' hm hS' hacc=>?_
   rw [Moved.eq_with hm]; refine ⟨rfl,s'.heap,d1,s'.toks,acc',c',rfl,fun b o e=>hm.heap b o (fun hmem=>?_) (hk2 b o e),hS',hacc⟩
   rcases List.mem_cons.mp hmem with e' | hmem
   . rw [e',hnS] at e; cases e
   . have hI':hp.get? I=none:=hI
     rw [List.mem_singleton.mp hmem] at e; rw [show hp.get? I=some o from Heap.get?_push_of_some _ e] at hI'; cases hI'
 have fin : ∀ (r : Result) (s' : Shared), wants (fun v s' => v = .ref s.heap.objs.size /\ ∃ h1 d1 tk acc c', s' = { s with heap := h1, drawn := d1, toks := tk } /\ (∀ b o, s.heap.get? b = some o -> h1.get? b = some o) /\ h1.get? s.heap.objs.size = some { cls := .type "list", dict := none, data := .seq acc c', slots := #[] } /\ ItemsOf (fun i v => ord[i]? = some v) acc es.size) E r s' ->
     wants (fun v s'=>wpAny (model prog w) A (match v with | .ref a=>load a>>=fun o=>(match o.data with | .seq xs _=>pure xs.toList | _=>unsupported "internal:collect") | _=>unsupported "internal:collect") Q E s') E r s':=fun r s' h=>by
   cases r with
   | error e=>exact h
   | ok fl =>
     cases fl with
     | ret v =>
       obtain ⟨rfl,h2,d2,tk,acc,c',rfl,hk2,hS2,hacc⟩:=h; refine wpAny_bind (wpAny_load hS2 (wpAny_pure ?_)); have:acc.toList=ord:=by
         have hol:ord.length=es.size:=by rw [hord.length_eq]; simp
         apply List.ext_getElem?
         intro j
         by_cases hj:j < es.size
         . have hja:j < acc.size:=by rw [hacc.1]; exact hj
           rw [hacc.2 j acc[j] (by simp [hja])]; simp [hja]
         . rw [List.getElem?_eq_none (by simpa [hacc.1] using Nat.not_lt.mp hj),List.getElem?_eq_none (by omega)]
       rw [this]; exact hQ h2 d2 tk ord hk2 hord
     | _=>exact h
 refine wpAny_ite_split (fun _=>?_) fun _=>wpAny_pure ⟨plainId_quiet F.plain_extend_loop _,codeAny_mono (key h1 0 st (fun b o e=>hk b o (Heap.get?_push_of_some _ e)) hS1) fin⟩
 refine wpAny_bind (wpAny_rule (wpAny_bind ?_))
 show wpAny _ _ (updateSeq s.heap.objs.size (·.push .none)>>=fun _=>updateSeq s.heap.objs.size (·.pop)) _ _ _
 refine wpAny_bind (wpAny_updateSeq (s:={ s with heap:=h1,drawn:=d1 }) hS1 rfl ?_)
 have u2:=Heap.get?_update_self (Obj.mapSeq (·.push Value.none)) hS1 rfl
 refine wpAny_updateSeq (hz:=by seq_fits) u2 rfl ?_
 have u3:=Heap.get?_update_self (Obj.mapSeq (·.pop)) u2 rfl
 have oth:∀ b o,b≠s.heap.objs.size->h1.get? b=some o->((h1.update s.heap.objs.size (Obj.mapSeq (·.push Value.none))).update s.heap.objs.size (Obj.mapSeq (·.pop))).get? b=some o:=fun b o hb e=>by rw [Heap.get?_update_other _ _ (Ne.symm hb),Heap.get?_update_other _ _ (Ne.symm hb)]; exact e
 refine wpAny_pure ⟨plainId_quiet F.plain_extend_loop _,codeAny_mono (key _ _ (W.frame 0 _ _ st fun b hb o e=>oth b o (fun z=>hSf (z▸hb)) e) (fun b o e=>oth b o (fun z=>?_) (hk b o (Heap.get?_push_of_some _ e))) u3) fin⟩
 rw [z,hnS] at e; cases e
end
end Sm
end
noncomputable section
namespace Sm
open PySem PySem.W PyProof.Rows
theorem Ml {t:SetTable} {hf:Nat->Int} {h:Int} (hd:t.dummies = #[]):∀ (n:Nat) (p:SetTable.Probe) {j:Nat} {dm:Option Nat},p.dummy=none->SetTable.probe.go t hf h n p=some (.empty j dm)->dm=none/\t.slot j=.empty
 | 0,_,_,_,_,e=>by cases e
 | n+1,p,j,dm,hp,e=>by
   have ha:(t.advance p).dummy=none:=by unfold SetTable.advance; split <;> exact hp
   unfold SetTable.probe.go at e
   split at e
   . rename_i hs
     cases e; exact ⟨hp,hs⟩
   . rename_i hs
     exfalso
     unfold SetTable.slot at hs; rw [hd,Wu] at hs; simp only [Bool.false_eq_true,if_false] at hs
     split at hs <;> cases hs
   . split at e
     . cases e
     . exact Ml hd n _ ha e
theorem Ax {w:World} {t:SetTable} (h:Go w t) (n:Nat):Go w (t.standIn n):=⟨h.1,rfl,by
 show (Array.range n).toList.Pairwise (· < ·)
 rw [Array.toList_range]; exact List.pairwise_lt_range⟩
theorem aE {w:World} {t:SetTable} (T:Go w t) (es:Array (Int×Value)) (h:Int) (x:Value):Go w (layNew t es h x).2.1:=by
 unfold layNew
 split
 . rename_i sl wd hfr
   have hp:Go w (t.put sl).1:=by
     unfold SetTable.freeSlot SetTable.probe at hfr
     split at hfr
     . rename_i j dm e
       obtain ⟨rfl,hs⟩:=Ml T.2.1 _ _ rfl e; cases hfr; refine ⟨T.1,?_,Lp T.2.2 fun hj=>?_⟩
       . show (if SetTable.has t.dummies _ then _ else t.dummies) = #[]
         rw [T.2.1,Wu]; rfl
       . obtain ⟨i,hi⟩:=Yq hj
         rw [Xy T.2.2 (show t.place[i]? = some j from hi)] at hs; cases hs
     . cases hfr
   show Go w ((t.put sl).1.orStandIn _)
   unfold SetTable.orStandIn
   split
   . exact hp
   . exact Ax hp _
 . exact Ax T _
theorem Tr {w:World} {t:SetTable} (T:Go w t) (es:Array (Int×Value)) (n:Nat):Go w (relayAll t es n).2.1:=by
 unfold relayAll
 split
 . rename_i t' ord e
   unfold SetTable.relaid SetTable.laid at e; obtain ⟨ow,e1,e2⟩:=Option.bind_eq_some_iff.mp e; cases e2; dsimp only
   split
   . refine ⟨T.1,rfl,?_⟩
     have:=dB (SetTable.sizeAbove n - 1) ow; unfold Uj at this; exact List.pairwise_map.mpr this
   . exact Ax T _
 . exact Ax T _
noncomputable section
variable {prog:Program} {w:World} {K:Type} [DecidableEq K] {knd:KeyKind prog w K} {A:Around} {E:Value->Shared->Prop} {s:Shared}
def SetT (knd:KeyKind prog w K) (h:Heap) (a:Addr) (L:List (Int×Value)):Prop :=
 ∃ o es ep t,h.get? a=some o/\o.ExactSet/\o.data=.set es ep t/\es.toList.Perm L/\ElemsOf knd L/\L.length < scanBound/\t.fits es.size=true/\Go w t
theorem SetT.store {h:Heap} {a:Addr} {o:Obj} {es:Array (Int×Value)} {ep:Nat} {t:SetTable} {L:List (Int×Value)} (ho:h.get? a=some o) (hex:o.ExactSet) (hd:o.data=.set es ep t) {es':Array (Int×Value)} {t':SetTable}
   (hp:es'.toList.Perm L) (hel:ElemsOf knd L) (hb:L.length < scanBound) (hf:t'.fits es'.size=true) (T:Go w t'):∃ o',(h.update a (Obj.putSet es' t')).get? a=some o'/\o'.ExactSet/\o'.data=.set es' (ep+1) t'/\SetT knd (h.update a (Obj.putSet es' t')) a L:=by
 have hg:=Heap.get?_update_self (Obj.putSet es' t') ho (by rw [putSet_of es' t' hd]; rfl)
 rw [putSet_of es' t' hd] at hg
 exact ⟨_,hg,hex,rfl,_,es',ep+1,t',hg,hex,rfl,hp,hel,hb,hf,T⟩
theorem addST {a:Addr} {L:List (Int×Value)} {k:K} {x:Value} {Q:Bool->Shared->Prop} (hkey:knd.is k x=true) (hsc:x.scannable=true) (hS:SetT knd s.heap a L) (hroom:L.length+1 < scanBound)
   (hQ:∀ h' b,Heap.SameBut a s.heap h'->SetT knd h' a (if L.any (fun e=>knd.is k e.2) then L else L++[(knd.hash k,x)])->Q b { s with heap:=h' }):wpAny (model prog w) A (setAddHashed a x (knd.hash k)) Q E s:=by
 obtain ⟨o,es,ep,t,ho,hex,hd,hp,hel,hb,hf,T⟩:=hS
 have hel0:ElemsOf knd es.toList:=hel.perm hp
 have hsz:es.size=L.length:=by rw [<- hp.length_eq,Array.length_toList]
 have hany:L.any (fun e=>knd.is k e.2)=es.toList.any (fun e=>knd.is k e.2):=by
   rw [Bool.eq_iff_iff,List.any_eq_true,List.any_eq_true]; exact ⟨fun ⟨e,h1,h2⟩=>⟨e,hp.mem_iff.mpr h1,h2⟩,fun ⟨e,h1,h2⟩=>⟨e,hp.mem_iff.mp h1,h2⟩⟩
 unfold setAddHashed setAddHashedIn
 refine wpAny_holding (wpAny_bind (wpAny_setState_of ho hd hf ?_))
 dsimp only
 rw [byScan_of hsc (by omega) hel0,if_pos rfl]
 unfold setAddByScan
 refine wpAny_bind (wpAny_bind (wpAny_rule (wpAny_bind (wpAny_setScan_of hkey ho hd hf hel0 ?_))))
 cases hr:List.findIdx? (fun e=>knd.is k e.2) es.toList with
 | some j =>
   obtain ⟨hj,hpj,_⟩:=List.findIdx?_eq_some_iff_getElem.mp hr; have:L.any (fun e=>knd.is k e.2)=true:=by rw [hany,List.any_eq_true]; exact ⟨_,List.getElem_mem hj,hpj⟩
   refine wpAny_pure (wpAny_pure ?_); have q:=hQ s.heap false (Heap.SameBut.refl a s.heap); rw [this,if_pos rfl] at q; exact q ⟨o,es,ep,t,ho,hex,hd,hp,hel,hb,hf,T⟩
 | none =>
   have:L.any (fun e=>knd.is k e.2)=false:=by
     rw [hany,List.any_eq_false]; intro e he; rw [List.findIdx?_eq_none_iff.mp hr e he]; decide
   rw [this] at hQ; simp only [Bool.false_eq_true,if_false] at hQ; have gw:∀ (b:Bool) {s₁:Shared} {Q':Unit->Shared->Prop},Q' () s₁->wpAny (model prog w) A (match b with | true=>rule "set.scan.the-table-gave-way" | false=>pure ()) Q' E s₁ :=
     fun b s₁ Q' hq=>by cases b; exact wpAny_pure hq; exact wpAny_rule hq
   have p1:=layNew_perm t es (knd.hash k) x; have f1:=layNew_fits t es (knd.hash k) x; have T1:=aE T es (knd.hash k) x
   generalize layNew t es (knd.hash k) x=R at p1 f1 T1 ⊢
   obtain ⟨es1,t1,wd,gv⟩:=R; dsimp only at p1 f1 T1 ⊢
   rw [Array.toList_push] at p1; have p2:es1.toList.Perm (L++[(knd.hash k,x)]):=p1.trans (hp.append_right _); have el2:ElemsOf knd (L++[(knd.hash k,x)]):=hel.push hkey hsc; have b2:(L++[(knd.hash k,x)]).length < scanBound:=by simpa using hroom
   have z1:es1.size < scanBound:=by rw [<- Array.length_toList,p2.length_eq]; exact b2
   refine wpAny_bind (gw _ ?_); have tail : ∀ t2 : SetTable, t2.fits es1.size = true -> Go w t2 -> wpAny (model prog w) A (do
       storeSet a es1 t2
       if (!wd && t2.tooFull) = true then do
           (match (relayAll t2 es1 (SetTable.grown es1.size)).2.2 with | true=>rule "set.scan.the-table-gave-way" | false=>pure ())
           storeSet a (relayAll t2 es1 (SetTable.grown es1.size)).1 (relayAll t2 es1 (SetTable.grown es1.size)).2.1
           pure (some true)
         else pure (some true)) (fun r s'=>∃ h',r=some true/\s'={ s with heap:=h' }/\Heap.SameBut a s.heap h'/\SetT knd h' a (L++[(knd.hash k,x)])) E s:=fun t2 f2 T2=>by
     refine wpAny_bind (wpAny_storeSet_of ho hd ?_ (fits_of_scanBound z1)); obtain ⟨o1,g1,x1,d1,S1⟩:=SetT.store (knd:=knd) ho hex hd p2 el2 b2 f2 T2; have sb1:=Heap.SameBut.update s.heap a (Obj.putSet es1 t2)
     split
     . have p3:=relayAll_perm t2 es1 (SetTable.grown es1.size)
       have f3:=relayAll_fits t2 es1 (SetTable.grown es1.size); have T3:=Tr T2 es1 (SetTable.grown es1.size)
       generalize relayAll t2 es1 (SetTable.grown es1.size)=R at p3 f3 T3 ⊢
       obtain ⟨es3,t3,gv3⟩:=R; dsimp only at p3 f3 T3 ⊢
       have z3:es3.size < scanBound:=by rw [<- Array.length_toList,p3.length_eq,Array.length_toList]; exact z1
       refine wpAny_bind (gw _ (wpAny_bind (wpAny_storeSet_of g1 d1 ?_ (fits_of_scanBound z3)))); obtain ⟨_,_,_,_,S3⟩:=SetT.store (knd:=knd) g1 x1 d1 (p3.trans p2) el2 b2 f3 T3; exact wpAny_pure ⟨_,rfl,rfl,sb1.trans (Heap.SameBut.update _ a _),S3⟩
     . exact wpAny_pure ⟨_,rfl,rfl,sb1,S1⟩
   have close:∀ (r:Option Bool) (s':Shared),(∃ h',r=some true/\s'={ s with heap:=h' }/\Heap.SameBut a s.heap h'/\SetT knd h' a (L++[(knd.hash k,x)]))->wpAny (model prog w) A (match r with | some added=>pure added | none=>setAddHashedIn a x (knd.hash k) 99999) Q E s':=fun r s' ⟨h',e1,e2,sb,S'⟩=>by
     subst e1 e2; exact wpAny_pure (hQ h' true sb S')
   split
   . refine wpAny_bind ?_
     rw [hashByValue_scannable 8 hsc]; refine wpAny_pure (wpAny_mono (tail _ ?_ ?_) close fun _ _ e=>e)
     . split
       . exact f1
       . exact SetTable.fits_plain_off f1
     . split
       . exact T1
       . exact T1
   . exact wpAny_bind (wpAny_pure (wpAny_mono (tail _ f1 T1) close fun _ _ e=>e))
end
end Sm
end
noncomputable section
namespace Sm
open PySem PySem.W PyProof.Rows
noncomputable section
variable {prog:Program} {w:World} {K:Type} [DecidableEq K]
noncomputable def IsKs (knd:KeyKind prog w K):List Value->List K->Prop
 | [],ks=>ks=[]
 | v::vs,ks=>∃ k r,ks=k::r/\knd.is k v=true/\IsKs knd vs r
noncomputable def Cv (l:List K) (k:K):List K:=if k∈l then l else l++[k]
noncomputable def Oy (ks:Nat->K):Nat->List K
 | 0=>[]
 | i+1=>Cv (Oy ks i) (ks i)
theorem Kg (ks:Nat->K):∀ i,(Oy ks i).length<=i
 | 0=>Nat.le_refl _
 | i+1=>by
   have:=Kg ks i; unfold Oy Cv
   split
   . omega
   . simp; omega
theorem IsKs.len {knd:KeyKind prog w K}:∀ {vs:List Value} {ks:List K},IsKs knd vs ks->vs.length=ks.length
 | [],_,h=>by cases (show _=_ from h); rfl
 | v::vs,_,h=>by obtain ⟨k,r,rfl,_,h⟩:=h; simp [h.len]
theorem IsKs.push {knd:KeyKind prog w K} {v:Value} {k:K} (hv:knd.is k v=true):∀ {vs:List Value} {ks:List K},IsKs knd vs ks->IsKs knd (vs++[v]) (ks++[k])
 | [],_,h=>by cases (show _=_ from h); exact ⟨k,[],rfl,hv,rfl⟩
 | u::vs,_,h=>by obtain ⟨k',r,rfl,h1,h⟩:=h; exact ⟨k',_,rfl,h1,h.push hv⟩
theorem IsKs.any {knd:KeyKind prog w K} {k:K}:∀ {vs:List Value} {ks:List K},IsKs knd vs ks->vs.any (fun v=>knd.is k v)=decide (k∈ks)
 | [],_,h=>by cases (show _=_ from h); rfl
 | u::vs,_,h=>by
   obtain ⟨k',r,rfl,h1,h⟩:=h; rw [List.any_cons,h.any]
   by_cases e:k=k'
   . subst e; rw [h1]; simp
   . have : knd.is k u = false := by
       cases c:knd.is k u with
       | false=>rfl
       | true=>exact absurd (knd.inj u k k' c h1) e
     rw [this]; simp [e]
theorem IsKs.perm {knd:KeyKind prog w K} {us vs:List Value} (p:us.Perm vs):∀ {ks:List K},IsKs knd vs ks->∃ ks',ks'.Perm ks/\IsKs knd us ks':=by
 induction p with
 | nil=>exact fun h=>⟨_,List.Perm.refl _,h⟩
 | cons x _ ih =>
   intro ks h; obtain ⟨k,r,rfl,h1,h⟩:=h; obtain ⟨r',p,h'⟩:=ih h; exact ⟨k::r',p.cons k,k,r',rfl,h1,h'⟩
 | swap x y l =>
   intro ks h; obtain ⟨k,r,rfl,h1,k2,r2,rfl,h2,h⟩:=h; exact ⟨k2::k::r2,List.Perm.swap ..,k2,_,rfl,h2,k,_,rfl,h1,h⟩
 | trans _ _ ih1 ih2 =>
   intro ks h; obtain ⟨k1,p1,h1⟩:=ih2 h; obtain ⟨k2,p2,h2⟩:=ih1 h1; exact ⟨k2,p2.trans p1,h2⟩
def SetK (knd:KeyKind prog w K) (h:Heap) (a:Addr) (ks:List K):Prop:=∃ L,SetT knd h a L/\IsKs knd (L.map (·.2)) ks
theorem SetK.at {knd:KeyKind prog w K} {h h':Heap} {a:Addr} {ks:List K} (S:SetK knd h a ks) (e:∀ o,h.get? a=some o->h'.get? a=some o):SetK knd h' a ks:=by
 obtain ⟨L,⟨o,es,ep,t,ho,r⟩,k⟩:=S
 exact ⟨L,⟨o,es,ep,t,e _ ho,r⟩,k⟩
theorem addK' {knd:KeyKind prog w K} {A:Around} {E:Value->Shared->Prop} {s:Shared} {a:Addr} {ks:List K} {k:K} {x:Value} {Q:Bool->Shared->Prop} (hkey:knd.is k x=true) (hsc:x.scannable=true) (hS:SetK knd s.heap a ks) (hroom:ks.length+1 < scanBound)
   (hQ:∀ h' b,Heap.SameBut a s.heap h'->SetK knd h' a (Cv ks k)->Q b { s with heap:=h' }):wpAny (model prog w) A (setAddHashed a x (knd.hash k)) Q E s:=by
 obtain ⟨L,hT,hK⟩:=hS
 have hl:L.length=ks.length:=by rw [<- hK.len,List.length_map]
 refine addST hkey hsc hT (by omega) fun h' b sb hT'=>hQ h' b sb ⟨_,hT',?_⟩
 have:L.any (fun e=>knd.is k e.2)=decide (k∈ks):=by rw [<- hK.any,List.any_map]; rfl
 rw [this]
 unfold Cv
 by_cases c:k∈ks
 . simp only [c,decide_true,if_true]; exact hK
 . simp only [c,decide_false,Bool.false_eq_true,if_false,List.map_append]; exact hK.push hkey
end
noncomputable section
variable {prog:Program} {w:World} {K:Type} [DecidableEq K] {knd:KeyKind prog w K} {A:Around} {R:Result->Shared->Prop} {E:Value->Shared->Prop} {I:Addr} {fp wr:List Addr} {G:Array GenState->Array GenState->Prop} {n:Nat} {P:Nat->Value->Prop} {St:Nat->Shared->Prop} {s:Shared}
theorem jL (W:WalksS prog w A.in1 I fp wr G n P St) (S:Addr) (hSf:S∉fp) (ks:Nat->K) (hval:∀ i v,P i v->knd.is (ks i) v=true/\v.scannable=true) (hb:n+1 < scanBound) :
   ∀ (m i:Nat) (s:Shared),n - i=m->i<=n->St i s->SetK knd s.heap S (Oy ks i)->(∀ s',Moved (S::wr) G s s'->SetK knd s'.heap S (Oy ks n)->R (.ok (.ret .none)) s') ->
     codeAny (model prog w) A (.builtin "set.update.loop" ⟨[.ref S,.ref I],[]⟩) R s
 | 0,i,s,hk,hi,hst,hS,hR=>by
   have hin:i=n:=by omega
   subst hin; refine codeAny_builtin F.entry_set_update_loop ?_; rw [Around.under_plainId F.plain_set_update_loop _]; show wpAny _ A.in1 (pyNext (.ref I)>>=_) _ _ s
   refine wpAny_bind (W.done s _ _ hst fun s' hm=>?_)
   show wpAny _ A.in1 (ret Value.none) _ _ s'
   exact wpAny_pure (hR s' (hm.mono fun b hb=>List.mem_cons_of_mem _ hb) (hS.at fun o e=>hm.heap S o (fun h=>hSf (W.sub _ h)) e))
 | m+1,i,s,hk,hi,hst,hS,hR=>by
   refine codeAny_builtin F.entry_set_update_loop ?_; rw [Around.under_plainId F.plain_set_update_loop _]; show wpAny _ A.in1 (pyNext (.ref I)>>=_) _ _ s
   refine wpAny_bind (W.item i s _ _ (by omega) hst fun v s' hP hst' hm=>?_)
   obtain ⟨hv,hsc⟩:=hval i v hP; have hS':=hS.at fun o e=>hm.heap S o (fun h=>hSf (W.sub _ h)) e
   show wpAny _ A.in1 (holding [v] (setAdd S v)>>=_) _ _ s'
   unfold setAdd; refine wpAny_bind (wpAny_holding (wpAny_holding (wpAny_bind (knd.pyHash hv ?_)))); refine addK' (s:={ s' with toks:=s'.toks+1 }) hv hsc hS' (by have:=Kg ks i; omega) fun h' b hsb hS2=>?_
   have sub:∀ b∈wr,b∈S::wr:=fun b hb=>List.mem_cons_of_mem _ hb
   refine wpAny_pure ⟨plainId_quiet F.plain_set_update_loop _,jL W S hSf ks hval hb m (i+1) _ (by omega) (by omega) (W.frame _ s' _ _ hst' (Nat.le_succ _) fun b hb o e=>?_) hS2 fun s'' hm'' hS''=>?_⟩
   . rw [hsb.2 b fun h:b=S=>hSf (h▸hb)]; exact e
   . refine hR s'' (Moved.trans W.gtrans ((hm.mono sub).then_heap (Nat.le_succ _) fun b o hb e=>?_) hm'') hS''
     rw [hsb.2 b fun h:b=S=>hb (h▸List.mem_cons_self)]; exact e
abbrev Lh (w:World):Obj:={ cls:=.type "set",dict:=none,data:=.set #[] 0 (.fresh 0 0 (!(w.params.followText "set-order"))) }
theorem cN (a:Value) {Q₁:Value->Shared->Prop} (h:Q₁ (.ref s.heap.objs.size) { s with heap:=s.heap.push (Lh w) }):codeAny (model prog w) A (.call (.builtin "set.__new__") ⟨[.type "set",a],[]⟩) (wants Q₁ E) s:=by
 refine codeAny_of_tree (wpAny_bind (wpAny_of_eq (F.newCall_set_1 a) (wpAny_pure ⟨plainId_quiet F.plain_set_new _,codeAny_builtin F.entry_set_new ?_⟩)))
 rw [Around.under_plainId F.plain_set_new _]
 unfold Builtin.«set.__new__» Builtin.Frozenset.newClass
 have hsub:=sub_set_self
 obtain ⟨hp,g,d,tk,os⟩:=s
 wp_walk
 refine wpAny_askSetting (wpAny_pure ?_)
 dsimp only
 simp only [newObj]
 exact wpAny_bind (wpAny_alloc (wpAny_pure (wpAny_pure h)))
theorem bA {h:Heap} {a:Addr} (hg:h.get? a=some (Lh w)):SetK knd h a [] :=
 ⟨[],⟨_,#[],0,_,hg,⟨rfl,rfl,rfl⟩,rfl,List.Perm.nil,(fun e he=>nomatch he),by decide,rfl,rfl,rfl,List.Pairwise.nil⟩,rfl⟩
theorem Ni {l:Addr} {items:Array Value} {ks:Nat->K} {Q:Value->Shared->Prop} (hh:A.handled=none) (hl:s.heap.IsList l items) (hk:∀ i v,items[i]? = some v->knd.is (ks i) v=true/\v.scannable=true) (hn:items.size<=3000)
   (h:∀ (s':Shared),s'.gens=s.gens->s'.drawn=s.drawn->s'.os=s.os->(∀ b o,s.heap.get? b=some o->s'.heap.get? b=some o)->SetK knd s'.heap s.heap.objs.size (Oy ks items.size)->Q (.ref s.heap.objs.size) s') :
   wpAny (model prog w) A (call (.type "set") [.ref l]) Q E s:=by
 obtain ⟨c,tl,hmro⟩:=F.called_set.mro
 have hmade:=F.called_set.made
 have hsub:=F.called_set.sub
 refine wpAny_call (codeAny_of_tree ?_)
 show wpAny _ _ (callAny (.type "set") _) _ _ _
 refine wpAny_pure ⟨Code.quiet_builtin _ (by decide +kernel),codeAny_builtin F.entry_type_call ?_⟩
 rw [Around.under_plain (weight_type_call_type "set" [.ref l] []) rfl]
 have h1:=F.called_set.notType
 have h2:=F.called_set.canCreate
 have hct:=F.typeCall_set_1 (.ref l)
 repeat (any_goals (first | assumption | wp_step))
 refine codeAny_mono (cN (.ref l) (E:=E) (Q₁:=fun obj s₁=>obj=.ref s.heap.objs.size/\s₁={ s with heap:=s.heap.push (Lh w) }) ⟨rfl,rfl⟩) fun r s₁ hr=>?_
 cases r with
 | error e=>exact hr
 | ok fl =>
   cases fl with
   | ret obj =>
     obtain ⟨rfl,rfl⟩:=hr; have hS:(s.heap.push (Lh w)).get? s.heap.objs.size=some (Lh w):=Heap.get?_push_size _ rfl; have hT:Shared.TypeIs { s with heap:=s.heap.push (Lh w) } (.ref s.heap.objs.size) "set" := ⟨_,hS,rfl⟩; have hli:=F.called_set.init.lookup; have hbi:=F.called_set.init.bind (.ref s.heap.objs.size)
     repeat (any_goals (first | assumption | wp_step))
     refine codeAny_mono (codeAny_call_builtin (R:=wants (fun r s₂=>r=.none/\s₂.gens=s.gens/\s₂.drawn=s.drawn/\s₂.os=s.os/\(∀ b o,s.heap.get? b=some o->s₂.heap.get? b=some o)/\SetK knd s₂.heap s.heap.objs.size (Oy ks items.size)) E)
       F.called_set.init.plain F.entry_set_init (check_set_init_1 hT ?_)) fun r₂ s₂ hr₂=>?_
     . obtain ⟨ol,hol,hcl,nl,hdl⟩:=hl
       obtain ⟨ocls,odict,odata,oslots⟩:=ol; simp only at hcl hdl; subst hcl hdl; have hol':(s.heap.push (Lh w)).get? l=some { cls:=.type "list",dict:=odict,data:=.seq items nl,slots:=oslots }:=Heap.get?_push_of_some _ hol; have hsls:=F.sub_list_set; have hslf:=F.sub_list_frozenset; have hne:(Value.type "list" == Value.type "dict")=false:=by decide
       have hl1:(s.heap.push (Lh w)).IsList l items:=⟨_,hol',rfl,nl,rfl⟩; unfold Builtin.«set.__init__» noKeywords Builtin.Frozenset.updateFrom
       generalize hPI:pyIter=PI
       wp_walk
       subst hPI; refine wpAny_pyIter_list hl1 (wpAny_bind (wpAny_runValue ?_)); have hlS:l < s.heap.objs.size:=Heap.lt_size hol; have hh3:A.in1.in1.in1.handled=none:=by simp [hh]
       have hneI:l≠(s.heap.push (Lh w)).objs.size:=by rw [Heap.size_push]; exact Nat.ne_of_lt (Nat.lt_succ_of_lt hlS)
       have hSf:s.heap.objs.size∉[(s.heap.push (Lh w)).objs.size,l]:=by
         rw [Heap.size_push]; simp only [List.mem_cons,List.not_mem_nil,or_false,not_or]
         exact ⟨Nat.ne_of_lt (Nat.lt_succ_self _),Nat.ne_of_gt hlS⟩
       refine jL ((Walks.list hh3 _ l hneI items).toS) s.heap.objs.size hSf ks hk (by show _ < 4096; omega) (items.size - 0) 0 _ (by omega) (Nat.zero_le _) ⟨⟨_,Heap.get?_push_size _ rfl,rfl,rfl⟩,(hl1.push _)⟩ (bA (Heap.get?_push_of_some _ hS)) fun s' hm hS'=>?_
       show wpAny _ _ _ _ _ _
       refine wpAny_pure ?_; show wpAny _ _ (ret Value.none) _ _ _
       refine wpAny_pure ⟨rfl,hm.gens,hm.drawn,hm.os,fun b o e=>hm.heap b o (fun hb=>?_) (Heap.get?_push_of_some _ (Heap.get?_push_of_some _ e)),hS'⟩
       have hlt:=Heap.lt_size e; rcases List.mem_cons.mp hb with e' | hb
       . rw [e'] at hlt; exact Nat.lt_irrefl _ hlt
       . rw [List.mem_singleton.mp hb,Heap.size_push] at hlt; exact Nat.lt_irrefl _ (Nat.lt_of_succ_lt hlt)
     . cases r₂ with
       | error e=>exact hr₂
       | ok fl₂ =>
         cases fl₂ with
         | ret r =>
           obtain ⟨rfl,g1,g2,g3,g4,hS'⟩:=hr₂
           repeat (any_goals (first | assumption | wp_step))
           exact h _ g1 g2 g3 g4 hS'
         | _=>exact hr₂.elim
   | _=>exact hr.elim
end
end Sm
end
noncomputable section
namespace Sm
open PySem PySem.Spec PyProof.Rows PySem.W L2
noncomputable def O8 {K:Type} [DecidableEq K] (l:List K):List K:=l.foldl Cv []
theorem Mq {K:Type} [DecidableEq K] (ks:Nat->K):∀ i,Oy ks i=((List.range i).map ks).foldl Cv []
 | 0=>rfl
 | i+1=>by rw [List.range_succ,List.map_append,List.foldl_append,<- Mq ks i]; rfl
theorem Fu {K:Type} [DecidableEq K] (l:List K) (d:K):Oy (fun i=>l.getD i d) l.length=O8 l:=by
 rw [Mq]
 have:(List.range l.length).map (fun i=>l.getD i d)=l:=by
   apply List.ext_getElem
   . simp
   . intro i h1 h2; simp [h2]
 rw [this]; rfl
theorem So {K:Type} [DecidableEq K] [Inhabited K] (l:List K):(O8 l).length<=l.length:=by rw [<- Fu l default]; exact Kg _ _
theorem Kp {K:Type} [DecidableEq K] {l:List K} {x:K}:x∈O8 l↔x∈l:=by
 have:∀ (l m:List K),x∈l.foldl Cv m↔x∈m\/x∈l:=fun l=>by
   induction l with
   | nil=>intro m; simp
   | cons y l ih =>
     intro m; rw [List.foldl_cons,ih]; unfold Cv
     split
     . rename_i hy
       constructor
       . rintro (h | h)
         . exact .inl h
         . exact .inr (.tail _ h)
       . rintro (h | h)
         . exact .inl h
         . rcases List.mem_cons.mp h with rfl | h
           . exact .inl hy
           . exact .inr h
     . simp [or_assoc]
 rw [O8,this]; simp
theorem Fy:∀ {ds:List PyData} {ns:List Int},Db ds=some ns->ds.length=ns.length
 | [],_,e=>by cases e; rfl
 | d::ds,ns,e=>by
   cases d with
   | int i =>
     obtain ⟨m,e1,e2⟩:=Option.map_eq_some_iff.mp (show (Db ds).map (i::·)=some ns from e)
     rw [<- e2,List.length_cons,List.length_cons,Fy e1]
   | _=>cases e
theorem Bt:∀ {ds:List PyData} {ns:List Str},Q7 ds=some ns->ds.length=ns.length
 | [],_,e=>by cases e; rfl
 | d::ds,ns,e=>by
   cases d with
   | str i =>
     obtain ⟨m,e1,e2⟩:=Option.map_eq_some_iff.mp (show (Q7 ds).map (i::·)=some ns from e)
     rw [<- e2,List.length_cons,List.length_cons,Bt e1]
   | _=>cases e
theorem aJ:∀ {vs:List Value} {ss:List Str},StrsAre vs ss->∀ (i:Nat) (v:Value),vs[i]? = some v->∃ t,v=.str (ss.getD i default) t
 | _,_,.nil,_,_,e=>by cases e
 | _,_,.cons x t h,0,_,e=>by cases e; exact ⟨t,rfl⟩
 | _,_,.cons x t h,i+1,v,e=>aJ h i v e
noncomputable def P7:List PyData->Option PyData
 | [.list ds]=>if ds.length < 64 then match Db ds with
   | some ns=>some (.list ((Cb (O8 ns)).map .int))
   | none=>match Q7 ds with
     | some ss=>some (.list ((U0 (O8 ss)).map .str))
     | none=>none
   else none
 | _=>none
noncomputable section
variable {prog:Program} {w:World} {A:Around} {E:Value->Shared->Prop} {s:Shared}
theorem Mu:∀ {vs:List Value} {ks:List Int},IsKs (intKind prog w) vs ks->IntsAre vs ks
 | [],_,h=>by cases (show _=_ from h); exact .nil
 | v::vs,_,h=>by
   obtain ⟨k,r,rfl,h1,h⟩:=h; obtain ⟨t,rfl⟩:=Value.isInt_shape h1; exact .cons k t (Mu h)
theorem Mt:∀ {vs:List Value} {ks:List Str},IsKs (strKind prog w) vs ks->StrsAre vs ks
 | [],_,h=>by cases (show _=_ from h); exact .nil
 | v::vs,_,h=>by
   obtain ⟨k,r,rfl,h1,h⟩:=h; obtain ⟨t,rfl⟩:=Value.isStrOf_shape h1; exact .cons k t (Mt h)
theorem fL {a:Addr} {ks:List Int} {Q:Value->Shared->Prop} (S:SetK (intKind prog w) s.heap a ks) (h64:ks.length < 64) (hh:A.handled=none)
   (h:∀ (h1:Heap) d1 tk (vs:List Value) (out:Array Value) (ns:List Int),(∀ b o,s.heap.get? b=some o->h1.get? b=some o)->IntsAre out.toList ns->ns.Perm ks->ns.Pairwise (· <= ·) ->
     Q (.ref h1.objs.size) { s with heap:=sortedHeap (h1.push (seqObj "list" vs.toArray 0)) h1.objs.size vs out,drawn:=d1,toks:=tk }) :
   wpAny (model prog w) A (call (.builtin "sorted") [.ref a]) Q E s:=by
 obtain ⟨L,⟨o,es,ep,t,ho,hex,hd,hp,hel,hb,hf,T⟩,hK⟩:=S
 have hl:L.length=ks.length:=by rw [<- hK.len,List.length_map]
 refine Calls.call_function_entry kind_sorted plain_sorted entry_sorted (args_sorted1 _) (wpAny_bind (m:=checkCount "sorted" 1 1 _) (wpAny_pure (wpAny_bind (Hd ho hex hd hf T (by rw [<- Array.length_toList,hp.length_eq]; omega) hh fun h1 d1 tk vs hk hvs=>?_))))
 obtain ⟨ks',p1,k1⟩:=hK.perm (hvs.trans (hp.map _))
 have hvl:vs.length=ks.length:=by rw [k1.len,p1.length_eq]
 have hI:=Mu k1
 refine wpAny_bind (wpAny_newList ?_ (by rw [sizeLine_eq]; omega))
 have hoL:(h1.push (seqObj "list" vs.toArray 0)).get? h1.objs.size=some (seqObj "list" vs.toArray 0):=Heap.get?_push_size _ rfl
 show wpAny _ _ _ _ _ { s with heap:=h1.push (seqObj "list" vs.toArray 0),drawn:=d1,toks:=tk }
 refine wpAny_bind (wpAny_holding (wpAny_call_entry slot_list_sort ⟨_,hoL,rfl⟩ entry_list_sort (list_sort_tree hoL hI (by omega) fun out ns' a1 a2 a3=>⟨_,rfl,?_⟩) (args_list_sort _)))
 exact wpAny_pure ⟨_,rfl,h h1 d1 tk vs out ns' hk a1 (a2.trans p1) a3⟩
theorem fM {a:Addr} {ks:List Str} {Q:Value->Shared->Prop} (S:SetK (strKind prog w) s.heap a ks) (h64:ks.length < 64) (hh:A.handled=none)
   (h:∀ (h1:Heap) d1 tk (vs:List Value) (out:Array Value) (ns:List Str),(∀ b o,s.heap.get? b=some o->h1.get? b=some o)->StrsAre out.toList ns->ns.Perm ks->sortedS ns=true ->
     Q (.ref h1.objs.size) { s with heap:=sortedHeap (h1.push (seqObj "list" vs.toArray 0)) h1.objs.size vs out,drawn:=d1,toks:=tk }) :
   wpAny (model prog w) A (call (.builtin "sorted") [.ref a]) Q E s:=by
 obtain ⟨L,⟨o,es,ep,t,ho,hex,hd,hp,hel,hb,hf,T⟩,hK⟩:=S
 have hl:L.length=ks.length:=by rw [<- hK.len,List.length_map]
 refine Calls.call_function_entry kind_sorted plain_sorted entry_sorted (args_sorted1 _) (wpAny_bind (m:=checkCount "sorted" 1 1 _) (wpAny_pure (wpAny_bind (Hd ho hex hd hf T (by rw [<- Array.length_toList,hp.length_eq]; omega) hh fun h1 d1 tk vs hk hvs=>?_))))
 obtain ⟨ks',p1,k1⟩:=hK.perm (hvs.trans (hp.map _))
 have hvl:vs.length=ks.length:=by rw [k1.len,p1.length_eq]
 have hS:=Mt k1
 refine wpAny_bind (wpAny_newList ?_ (by rw [sizeLine_eq]; omega))
 have hoL:(h1.push (seqObj "list" vs.toArray 0)).get? h1.objs.size=some (seqObj "list" vs.toArray 0):=Heap.get?_push_size _ rfl
 show wpAny _ _ _ _ _ { s with heap:=h1.push (seqObj "list" vs.toArray 0),drawn:=d1,toks:=tk }
 refine wpAny_bind (wpAny_holding (wpAny_call_entry slot_list_sort ⟨_,hoL,rfl⟩ entry_list_sort (list_sort_treeK strKind_oneLt hoL hS.keysOf (fun v₁ v₂ K1 e=>keyKind_strs (by rw [<- e]; exact hS)) (by omega) fun st' hp hs=>⟨_,rfl,?_⟩) (args_list_sort _)))
 obtain ⟨ss',a1,a2,a3⟩:=sorted_out_str hS hp hs
 exact wpAny_pure ⟨_,rfl,h h1 d1 tk vs _ ss' hk a1 (a2.trans p1) a3⟩
end
theorem Inv.dr {X:Cx} {pins:List (Addr×Obj)} {Z:List (Option V)} {H:Hp} {s:Shared} (d:Drawn) (I:Inv X pins Z H s):Inv X pins Z H { s with drawn:=d }:=⟨I.ok,I.os,I.bare,I.base,I.loc,I.cell,I.free,I.freeC,I.pin,I.hok,I.len⟩
noncomputable def jA (X:Cx) (a:Addr) (ks:List Int):HO:=.ext fun h=>SetK (intKind X.prog X.w) h a ks
noncomputable def jB (X:Cx) (a:Addr) (ks:List Str):HO:=.ext fun h=>SetK (strKind X.prog X.w) h a ks
noncomputable section
variable {P:Program} {w:World} {K:PySem.W.Frag} {mg:Str->Option Value} {base:Heap} {X:Cx} {N:List Str} {sc:Scope} {k:Nat} {df:Bool} {E:EK} {pos p p1 pos1:Pos} {e:Expr} {fs:Dn->Res (List PyData)}
def rSet (X:Cx) (xs:List V) (H:Hp) (Q:VK):Prop:=∃ G ds,Same G H/\RepL G [.list ds] xs/\ds.length < 64 /\
 ((∃ ns,Db ds=some ns/\∀ a,H a=none->Q (.ref a) (upd H a (jA X a (O8 ns))))\/(∃ ss,Q7 ds=some ss/\((∀ x∈ss,PyData.strOk x=true/\x.length<=sizeLine)->∀ a,H a=none->Q (.ref a) (upd H a (jB X a (O8 ss))))))
theorem eI (hh:X.A.handled=none):Aw X (.type "set") (rSet X):=by
 intro pins s Z H xs us Q I r ⟨G,ds,hG,rl,hl,q⟩
 obtain ⟨v,t0,rfl,rv,e0⟩:=rl
 cases (show t0=[] from e0)
 obtain ⟨u,rfl,ru⟩:=r.one
 obtain ⟨l,vs,rfl,h1,l1⟩:=rv
 cases (show u=Value.ref l from ru)
 obtain ⟨z,its,n,rr,ho⟩:=V3 I hG h1
 have hfr:H s.heap.objs.size=none:=I.hok.fresh (Nat.le_refl _)
 have fin:∀ (s':Shared) (o:HO),s'.gens=s.gens->s'.drawn=s.drawn->s'.os=s.os->(∀ b o,s.heap.get? b=some o->s'.heap.get? b=some o)->ObjOk X.prog X.w (upd H s.heap.objs.size o) s'.heap s.heap.objs.size o->Inv X pins Z (upd H s.heap.objs.size o) s':=fun s' o g1 g2 g3 g4 ok=>by
   obtain ⟨hp,g,d,tk,os⟩:=s'
   cases g1; cases g2; cases g3
   exact I.laid (t':=tk) g4 (Nat.le_refl _) ok
 rcases q with ⟨ns,e1,q⟩ | ⟨ss,e1,q⟩
 . have hI:=repZ l1 rr e1
   have hle:its.length=ns.length:=hI.length; have hln:ns.length=ds.length:=(Fy e1).symm; refine Ni (knd:=intKind X.prog X.w) (ks:=fun i=>ns.getD i 0) hh ⟨_,ho,rfl,n,rfl⟩ (fun i v hv=>?_) (by simp; omega) fun s' g1 g2 g3 g4 S=>?_
   . obtain ⟨t,rfl⟩:=hI.int_at i v (by simpa using hv)
     exact ⟨by simp [intKind,Value.isInt],rfl⟩
   . have S':SetK (intKind X.prog X.w) s'.heap s.heap.objs.size (O8 ns):=by rw [<- Fu ns 0,<- hle]; simpa using S
     refine ⟨.ref s.heap.objs.size,_,fin s' (jA X s.heap.objs.size (O8 ns)) g1 g2 g3 g4 ⟨S',?_,fun h1 h2 a b=>SetK.at a b⟩,rfl,q _ hfr⟩
     obtain ⟨_,⟨o,_,_,_,ho,_⟩,_⟩:=S'; exact ⟨o,ho⟩
 . obtain ⟨hI,hok⟩:=repT l1 rr e1
   have hst:=hI.strs; have hle:its.length=ss.length:=by have:=congrArg List.length hst; simpa using this
   have hln:ss.length=ds.length:=(Bt e1).symm; refine Ni (knd:=strKind X.prog X.w) (ks:=fun i=>ss.getD i default) hh ⟨_,ho,rfl,n,rfl⟩ (fun i v hv=>?_) (by simp; omega) fun s' g1 g2 g3 g4 S=>?_
   . obtain ⟨t,rfl⟩:=aJ hI i v (by simpa using hv)
     exact ⟨by simp [PySem.strKind,Value.isStrOf],rfl⟩
   . have S':SetK (strKind X.prog X.w) s'.heap s.heap.objs.size (O8 ss):=by rw [<- Fu ss default,<- hle]; simpa using S
     refine ⟨.ref s.heap.objs.size,_,fin s' (jB X s.heap.objs.size (O8 ss)) g1 g2 g3 g4 ⟨S',?_,fun h1 h2 a b=>SetK.at a b⟩,rfl,q hok _ hfr⟩
     obtain ⟨_,⟨o,_,_,_,ho,_⟩,_⟩:=S'; exact ⟨o,ho⟩
def bO (X:Cx) (xs:List V) (H:Hp) (Q:VK):Prop:=∃ a,xs=[.ref a] /\
 ((∃ ks,H a=some (jA X a ks)/\ks.length < 64/\∀ l,H l=none->Q (.ref l) (upd H l (.lst ((Cb ks).map .int))))\/(∃ ks,H a=some (jB X a ks)/\ks.length < 64/\∀ l,H l=none->Q (.ref l) (upd H l (.lst ((U0 ks).map .str)))))
theorem Po (hh:X.A.handled=none):Aw X (.builtin "sorted") (bO X):=by
 intro pins s Z H xs us Q I r ⟨a,hxs,q⟩
 subst hxs
 obtain ⟨u,rfl,ru⟩:=r.one
 cases (show u=Value.ref a from ru)
 have fin : ∀ (h1 : Heap) d1 tk (vs : List Value) (out : Array Value) (xs : List V), (∀ b o, s.heap.get? b = some o -> h1.get? b = some o) -> xs.length < 64 -> Vals xs out.toList -> (∀ l, H l = none -> Q (.ref l) (upd H l (.lst xs))) ->
     EP X pins Z Q (.ref h1.objs.size) { s with heap:=sortedHeap (h1.push (seqObj "list" vs.toArray 0)) h1.objs.size vs out,drawn:=d1,toks:=tk }:=fun h1 d1 tk vs out xs hk hl hv hq=>by
   have I1:Inv X pins Z H { s with heap:=h1,drawn:=d1,toks:=tk }:=Inv.dr d1 (I.kept (t':=tk) hk); have hfr:H h1.objs.size=none:=I1.hok.fresh (Nat.le_refl _); have ho1:(h1.push (seqObj "list" vs.toArray 0)).get? h1.objs.size=some (seqObj "list" vs.toArray 0):=Heap.get?_push_size _ rfl; obtain ⟨ee,hat⟩:=sortedHeap_at (out:=out) ho1; refine ⟨.ref h1.objs.size,_,I1.laid (o:=.lst xs) (t':=tk) (fun b o e=>?_) (Nat.le_refl _) ⟨by rw [sizeLine_eq]; omega,out.toList,ee,hv,by simpa using hat⟩,rfl,hq _ hfr⟩
   have hlt:b < h1.objs.size:=Heap.lt_size e; rw [sortedHeap_old (Nat.ne_of_lt hlt) (by rw [size_push']; exact Nat.lt_succ_of_lt hlt)]
   exact Heap.get?_push_of_some _ e
 rcases q with ⟨ks,hd,h64,q⟩ | ⟨ks,hd,h64,q⟩
 . obtain ⟨S,_⟩:=I.hok a _ hd
   refine fL S h64 hh fun h1 d1 tk vs out ns hk a1 a2 a3=>?_
   have hsrt:ns=Cb ks:=Qa (a2.trans (X3 ks).symm) a3 (Jf ks); subst hsrt; exact fin h1 d1 tk vs out _ hk (by rw [List.length_map,(X3 ks).length_eq]; exact h64) (jC a1) q
 . obtain ⟨S,_⟩:=I.hok a _ hd
   refine fM S h64 hh fun h1 d1 tk vs out ns hk a1 a2 a3=>?_
   have hsrt:ns=U0 ks:=Rc (a2.trans (X4 ks).symm) (Tw a3) (Qm ks); subst hsrt; exact fin h1 d1 tk vs out _ hk (by rw [List.length_map,(X4 ks).length_eq]; exact h64) (Ig a1) q
theorem Nc {n:Nat} (C:Cxt P w K mg base X N sc k df) (h:okGl sc "sorted" = true) (hm:mg "sorted" = none) (h':okGl sc "set" = true) (hm':mg "set" = none) (ha:DA X E [e] n fs)
   (he:starEach [.Call (.Name "set" p1) [e] [] pos1] X.env=(false,eval (.Call (.Name "set" p1) [e] [] pos1) X.env)::starEach [] X.env:=by rfl) (hpl:(backTo pos (starEach [] X.env)).any (·.1)=false:=by rfl)
   (he':starEach [e] X.env=(false,eval e X.env)::starEach [] X.env:=by rfl) (hpl':(backTo pos1 (starEach [] X.env)).any (·.1)=false:=by rfl):DE X E (.Call (.Name "sorted" p) [.Call (.Name "set" p1) [e] [] pos1] [] pos) (vFn fs P7):=by
 obtain ⟨g1,g2,g3⟩:=okGl.gl C h
 obtain ⟨g4,g5,g6⟩:=okGl.gl C h'
 intro pins s Z H Q I q
 have hh:=I.ok.hd C.calm
 refine (PE.imp (Ri (Po hh) g1 (by rw [C.hmg]; exact hm) (by decide +kernel) (Q9 (Fm (eI hh) g4 (by rw [C.hmg]; exact hm') (by decide +kernel) ha.pa g6 g5 he' hpl') Ai he) g3 g2 he hpl) fun Z H Q ⟨G,δ,S,aft⟩=>?_) pins s Z H Q I q
 refine Q0 (W:=fun G H r=>Aft E G H r Q) S aft (fun g a=>Aft.grow g a) (fun c a=>a) (fun a=>a) fun ds vs G1 H1 e g1 r1 S1 a1=>?_
 cases e:P7 ds with
 | none=>rw [e] at a1; exact a1.elim
 | some d =>
   rw [e] at a1; unfold P7 at e
   split at e
   . rename_i ys hfs
     split at e
     . rename_i hc
       split at e
       . rename_i ns en
         cases e; refine ⟨G1,ys,S1.sub,r1,hc,.inl ⟨ns,en,fun a ha=>⟨a,rfl,.inl ⟨_,B7,?_,fun l hl=>?_⟩⟩⟩⟩
         . have:=So ns; have:=Fy en; omega
         . have hla:l≠a:=fun z=>by subst z; rw [B7] at hl; cases hl
           have hG1a:G1 a=none:=S1.sub.free ha; refine a1 _ (upd (upd G1 a (jA X a (O8 ns))) l (.lst ((Cb (O8 ns)).map .int))) _ ((Grow.new S1.sub ha).trans (Grow.new (Grow.new S1.sub ha).gh hl)) ⟨_,_,rfl,.inl B7,RepL.ints _⟩
       . rename_i en0
         split at e
         . rename_i ss en
           cases e; refine ⟨G1,ys,S1.sub,r1,hc,.inr ⟨ss,en,fun hok a ha=>⟨a,rfl,.inr ⟨_,B7,?_,fun l hl=>?_⟩⟩⟩⟩
           . have:=So ss; have:=Bt en; omega
           . refine a1 _ (upd (upd G1 a (jB X a (O8 ss))) l (.lst ((U0 (O8 ss)).map .str))) _ ((Grow.new S1.sub ha).trans (Grow.new (Grow.new S1.sub ha).gh hl)) ⟨_,_,rfl,.inl B7,Js _ fun y hy=>hok y (Kp.mp ((X4 _).mem_iff.mp hy))⟩
         . cases e
     . cases e
   . cases e
end
end Sm
end
noncomputable section
namespace Sm
open PySem PySem.Spec PyProof.Rows PySem.W L2
noncomputable def Nt:PyData->Res (List Sl)
 | .tuple [a,b,c]=>.ok [.sh a,.sh b,.sh c]
 | _=>.no
theorem gok3 {K:PySem.W.Frag}:GOk (Za K 3 (Y9 (L4 0) (Y9 (L4 1) (Y9 (L4 2) Zc)))) 3 Nt:=by
 intro G H d x sl τ Q hG r e h
 cases d with
 | tuple ds =>
   match ds,e with
   | [a,b,c],e =>
     cases e; obtain ⟨p,xs,rfl,h1,l1⟩:=r; obtain ⟨v,t1,rfl,r1,l2⟩:=l1; obtain ⟨v',v'',rfl,r2,r3⟩:=bM l2; refine ⟨p,_,rfl,.inl (.inl (hG _ _ h1)),rfl,v,[v',v''],rfl,v',[v''],rfl,v'',[],rfl,rfl,?_⟩; exact h [v,v',v''] rfl rfl fun i s hs=>by
       match i with
       | 0=>cases hs; exact ⟨⟨v,rfl,r1⟩,a,rfl⟩
       | 1=>cases hs; exact ⟨⟨v',rfl,r2⟩,b,rfl⟩
       | 2=>cases hs; exact ⟨⟨v'',rfl,r3⟩,c,rfl⟩
       | i+3=>simp at hs
 | _=>cases e
noncomputable section
variable {P:Program} {w:World} {K:PySem.W.Frag} {mg:Str->Option Value} {base:Heap} {X:Cx} {N:List Str} {sc scope:Scope} {k:Nat} {df:Bool} {E:EK} {pos tp px py pz:Pos} {iter elt:Expr} {ifs:List Expr} {src:Dn->Res (List PyData)} {tt:Dn->Res Bool} {el:Dn->Res PyData}
theorem iC {x y z:Str} {x1:Nat} (C:Cxt P w K mg base X N sc k df) (cap:List Nat) (capN:List Str) (ho:okComp N sc scope [x,y,z] capN cap=true) (hi:DI X E (.Tuple [.Name x px,.Name y py,.Name z pz] x1 tp) iter src)
   (ht:∀ X',Cxt P w K mg base X' ([x,y,z]++capN) (Cr scope sc) k false->DTs X' E0k ifs tt) (he:∀ X',Cxt P w K mg base X' ([x,y,z]++capN) (Cr scope sc) k false->DE X' E0k elt el)
   (hs:∀ x,foldedSetIterable iter X.env x=pure x:=by intro _; rfl):DF X E (.ListComp elt [⟨.Tuple [.Name x px,.Name y py,.Name z pz] x1 tp,iter,ifs,0⟩] scope pos) (F1 src Nt cap tt el):=by
 have o:=okComp.ok ho
 refine PE.imp (Wb (g:=Za K 3 (Y9 (L4 0) (Y9 (L4 1) (Y9 (L4 2) Zc)))) C.calm (Bg C o) hi (fun X' B=>?_) (fun X' B=>ht X' (C.blk B)) (fun X' B=>he X' (C.blk B)) hs) fun Z H Q h=>Hu (m:=3) rfl o.h10 gok3 h
 have C':=C.blk B
 have hl:∀ u∈[x,y,z],X'.env.scope.names.lookup u=some .local:=fun u hu=>by rw [C'.hs]; exact o.h9 u hu
 have nd:X'.N.Nodup:=by rw [C'.hN]; exact o.h8
 have p1:PG X' (.Name x px) (L4 0):=O4 nd (by rw [C'.hN]; rfl) (.inl (hl x (by simp))) (.inr (hl x (by simp)))
 have p2:PG X' (.Name y py) (L4 1):=O4 nd (by rw [C'.hN]; rfl) (.inl (hl y (by simp))) (.inr (hl y (by simp)))
 have p3:PG X' (.Name z pz) (L4 2):=O4 nd (by rw [C'.hN]; rfl) (.inl (hl z (by simp))) (.inr (hl z (by simp)))
 have:=Ue (n:=3) (k:=x1) (pos:=tp) C'.calm (U3 p1 (U3 p2 (U3 p3 Os)))
 rw [C'.hK] at this
 exact this
end
noncomputable def dH:PyData->Bool
 | .tuple ds=>ds.all Ds
 | d=>Ds d
theorem RepL.atoms {G G':Hp}:∀ {ds:List PyData} {vs:List V},RepL G ds vs->ds.all Ds=true->RepL G' ds vs
 | [],_,r,_=>r
 | d::ds,_,r,h=>by
   obtain ⟨x,t,rfl,r1,r2⟩:=r; rw [List.all_cons,Bool.and_eq_true] at h; exact ⟨x,t,rfl,r1.atom h.1,RepL.atoms r2 h.2⟩
theorem dS {G H:Hp} (hG:Same G H) {b:Addr} {xs:List V} (hx:H b=some (.tup xs)):∃ G',Grow G H G' H/\G' b=some (.tup xs):=by
 cases eb:G b with
 | some u =>
   have:=hG _ _ eb; rw [hx] at this; exact ⟨G,Grow.refl hG,by rw [eb,<- this]⟩
 | none =>
   refine ⟨upd G b (.tup xs),⟨Same.upd eb,Same.refl _,fun c u e=>?_,fun c u e=>?_⟩,B7⟩
   . by_cases hc:c=b
     . subst hc; rw [B7] at e; cases e; exact hx
     . rw [B6 hc] at e; exact hG _ _ e
   . by_cases hc:c=b
     . subst hc; rw [B7] at e; cases e; exact .inr (.inr ⟨_,rfl⟩)
     . rw [B6 hc] at e; exact .inl e
noncomputable def Xp (i:Nat) (f:Dn->Res PyData):Dn->Res PyData:=fun δ=>(f (fz i δ)).bind fun d=>if dH d=true then .ok d else .no
noncomputable section
variable {X:Cx} {E:EK} {e:Expr} {f:Dn->Res PyData}
theorem iL (i:Nat) (h:DE X E e f):DE X E e (Xp i f):=PE.imp h fun Z H Q ⟨G,δ,S,a⟩=>by
 obtain ⟨G',S'⟩:=S.fz i
 refine ⟨G',_,S',?_⟩
 unfold Xp at a
 have g0:∀ {G2 H2:Hp},Grow G' H G2 H2->Grow G H G H2:=fun g=>⟨Same.refl _,g.h,S.sub.trans g.h,fun _ _ z=>.inl z⟩
 cases q:f (fz i δ) with
 | ok d =>
   rw [q] at a; simp only [Res.bind] at a
   split at a
   . rename_i hd
     intro v G2 H2 g r; have hat:Ds d=true->Q v H2:=fun z=>a v G H2 (g0 g) (r.atom z)
     cases d with
     | tuple ds =>
       obtain ⟨b,xs,rfl,hb,rl⟩:=r; obtain ⟨G3,g3,h3⟩:=dS (g0 g).gh (g.gh _ _ hb); exact a _ G3 H2 ((g0 g).trans g3) ⟨b,xs,rfl,h3,rl.atoms hd⟩
     | _=>exact hat hd
   . exact (show False from a).elim
 | exc c=>rw [q] at a; exact fun G2 H2 g=>a G H2 (g0 g)
 | no=>rw [q] at a; exact a
end
end Sm
end
noncomputable section
namespace Sm
open PySem PySem.Spec PyProof.Rows L2
def top (i:Nat):Stmt:=PySem.Challenge.pw_staymark_k72_whole_step_by_step.main.body.getD i (.Pass ⟨0,0,0,0⟩)
def stm (i j:Nat):Stmt:=(B8 (top i)).getD j (.Pass ⟨0,0,0,0⟩)
structure Txt (mg:Str->Option Value):Prop where
 b_dict:mg "dict" = none
 b_enumerate:mg "enumerate" = none
 b_int:mg "int" = none
 b_len:mg "len" = none
 b_range:mg "range" = none
 b_reversed:mg "reversed" = none
 b_set:mg "set" = none
 b_sorted:mg "sorted" = none
 b_tuple:mg "tuple" = none
noncomputable def O1:List Str:=["deed"]
noncomputable def O3:Dn->Out:=(L0 (vIf (C3 (b2 (b2 (A3 0) (vC (.int 0)) dIx) (vC (.str "add")) dEq)) (vFn (A0 (b2 (A3 0) (vC (.int 3)) dIx) A9) L6) (vC (.int 0))))
noncomputable def E2:List PyData->Res PyData:=fnD O1 O3
noncomputable def S9:List Str:=["book", "behind", "deed"]
noncomputable def V0:Dn->Res Kvs:=(Ie (Dj 1) (Ie (fS 1 2 (fun δ=>((A3 0) δ).bind E3) (C3 (b2 (C2 (A0 (A3 2) A9) E2) (vC (.int 0)) (De .Gt))) (b2 (A3 2) (vC (.int 2)) dIx) (A3 2)) (Ru 1)))
noncomputable def L8:List PyData->Res Kvs:=fnW S9 V0
noncomputable def K7:List Str:=["book", "behind", "waiting", "told", "step", "deed", "number", "sign"]
noncomputable def Ac:Dn->Out:=(Cy 1 (Pw (A0 (A3 0) A9) L8))
noncomputable def Ab:Dn->Out:=(Hj 2 (F1 (fun δ=>((Ih 1 (vC .none) (F3 A9)) δ).bind E3) F5 [] P8 (E9 (A0 (A3 0) (A0 (vC (.int 0)) A9)))))
noncomputable def Cu:Dn->Out:=(Hj 3 A9)
noncomputable def Aa:Dn->Out:=(Jq (Tc 2) (C0 (Yb 2 4) (C0 (D3 5 (b2 (A3 4) (vC (.int 0)) dIx)) (C0 (D3 6 (b2 (A3 4) (vC (.int 1)) dIx)) (C0 (D3 7 (E9 (A0 (b2 (A3 5) (vC (.int 1)) dIx) (A0 (A3 6) A9)))) (C0 (Y5 3 (E9 (A0 (A3 7) (A0 (b2 (b2 (A3 5) (vC (.int 3)) dIx) (A3 6) dIx) A9)))) (C0 (sIf (C3 (b2 (b2 (A3 6) (vC (.int 1)) C4) (vFn (A0 (b2 (A3 5) (vC (.int 3)) dIx) A9) L6) (N6 .Lt))) (Y5 2 (E9 (A0 (A3 5) (A0 (b2 (A3 6) (vC (.int 1)) C4) A9)))) E8) (Yc 2 (F1 (fun δ=>((Ih 1 (A3 7) (F3 A9)) δ).bind E3) F5 [] P8 (E9 (A0 (A3 0) (A0 (vC (.int 0)) A9))))))))))))
noncomputable def Ct:Dn->Out:=(sFz 3 (L0 (A3 3)))
noncomputable def Ba:Dn->Out:=(C0 Ac (C0 Ab (C0 Cu (C0 Aa Ct))))
noncomputable def Q6:List PyData->Res PyData:=fnD K7 Ba
noncomputable def Z4:List Str:=["book", "undone", "deed"]
noncomputable def Ae:Dn->Res Kvs:=(Ie (Dj 1) (Ie (N9 (fun δ=>((A3 0) δ).bind Qx) (st1 2) (sIf (P9 (C3 (b2 (b2 (A3 2) (vC (.int 0)) dIx) (vC (.str "undo")) dEq)) (C3 (T5 true 1 (b2 (A3 2) (vC (.int 1)) dIx)))) (Eo 1 (b2 (A3 2) (vC (.int 2)) dIx) (vC (.bool true))) E8)) (Ru 1)))
noncomputable def M6:List PyData->Res Kvs:=fnW Z4 Ae
noncomputable def V5:List Str:=["book", "undone", "dropped", "deed", "sign"]
noncomputable def X5:Dn->Res Kvs:=(Ie (Dj 2) (Ie (N9 (fun δ=>((A3 0) δ).bind E3) (st1 3) (sIf (P9 (C3 (b2 (b2 (A3 3) (vC (.int 0)) dIx) (vC (.str "drop")) dEq)) (C3 (T5 true 1 (b2 (A3 3) (vC (.int 1)) dIx)))) (N9 (fun δ=>((b2 (A3 3) (vC (.int 2)) dIx) δ).bind E3) (st1 4) (Eo 2 (A3 4) (vC (.bool true)))) E8)) (Ru 2)))
noncomputable def F7:List Sl->Res Kvs:=iA V5 X5
noncomputable def E7:List Str:=["book", "undone", "dropped", "told", "pair"]
noncomputable def Q5:Dn->Out:=(Cy 1 (Pw (A0 (A3 0) A9) M6))
noncomputable def Q4:Dn->Out:=(kT 1 (Cy 2 (Nw (A3 0) 1 F7)))
noncomputable def Ak:Dn->Out:=(Hj 3 A9)
noncomputable def N0:Dn->Out:=(N9 (fun δ=>((C2 (A0 (A3 0) A9) Q6) δ).bind E3) (st1 4) (Y5 3 (E9 (A0 (A3 4) (A0 (Pz (T5 true 1 (b2 (b2 (A3 4) (vC (.int 0)) dIx) (vC (.int 0)) dIx)) (T5 true 2 (b2 (A3 4) (vC (.int 0)) dIx))) A9)))))
noncomputable def Aj:Dn->Out:=(sFz 3 (L0 (A3 3)))
noncomputable def U9:Dn->Out:=(C0 Q5 (C0 Q4 (C0 Ak (C0 N0 Aj))))
noncomputable def F2:List PyData->Res PyData:=fnD E7 U9
noncomputable def Bi:List Str:=["book"]
noncomputable def Bb:Dn->Out:=(L0 (F3 (F1 (fun δ=>((C2 (A0 (A3 0) A9) F2) δ).bind E3) F5 [] (C3 (b2 (A3 0) (vC (.int 1)) dIx)) (b2 (A3 0) (vC (.int 0)) dIx))))
noncomputable def G9:List PyData->Res PyData:=fnD Bi Bb
noncomputable def Cq:List Str:=["book"]
noncomputable def Cd:Dn->Out:=(L0 (Mb "" (F3 (F1 (fun δ=>((C2 (A0 (A3 0) A9) G9) δ).bind E3) F5 [] P8 (b2 (A3 0) (vC (.int 1)) dIx)))))
noncomputable def K0:List PyData->Res PyData:=fnD Cq Cd
noncomputable def Pu:List Str:=["change", "sign", "there"]
noncomputable def Mh:Dn->Out:=(C0 (sIf (C3 (A3 2)) (L0 (E9 (A0 (b2 (A3 0) (vC (.int 0)) dIx) (A0 (b2 (A3 0) (vC (.int 1)) dIx) (A0 (b2 (b2 (A3 0) (vC (.int 2)) dIx) (A3 1) C4) A9))))) E8) (L0 (E9 (A0 (b2 (A3 0) (vC (.int 0)) dIx) (A0 (b2 (b2 (A3 0) (vC (.int 1)) dIx) (A3 1) C4) (A0 (b2 (A3 0) (vC (.int 2)) dIx) A9))))))
noncomputable def Y8:List PyData->Res PyData:=fnD Pu Mh
noncomputable def D4:List Str:=["less", "more", "then", "told", "touching", "place", "step", "pair", "there", "was"]
noncomputable def M3:Dn->Out:=(Cy 2 (Ow (F3 (F1 (fun δ=>((C2 (A0 (A3 0) A9) G9) δ).bind E3) F5 [] P8 (E9 (A0 (b2 (A3 0) (vC (.int 0)) dIx) (A0 (vC (.bool true)) A9)))))))
noncomputable def T9:Dn->Out:=(Hj 3 A9)
noncomputable def T8:Dn->Out:=(D3 4 (vC (.bool false)))
noncomputable def T7:Dn->Out:=(D3 5 (vC (.int 0)))
noncomputable def M1:Dn->Out:=(N9 (fun δ=>((C2 (A0 (A3 1) A9) F2) δ).bind E3) (st1 6) (C0 (D3 7 (b2 (A3 6) (vC (.int 0)) dIx)) (C0 (D3 8 (b2 (A3 6) (vC (.int 1)) dIx)) (C0 (D3 9 (T5 false 2 (b2 (A3 7) (vC (.int 0)) dIx))) (C0 (sIf (P9 (C3 (A3 9)) (C3 (A3 8))) (D3 4 (vC (.bool false))) (sIf (cOr (C3 (A3 9)) (C3 (A3 8))) (C0 (sIf (Zl (C3 (A3 4))) (Y5 3 (E9 (A0 (A3 5) (A0 (vC (.str "")) (A0 (vC (.str "")) A9))))) E8) (C0 (D3 4 (vC (.bool true))) (Qw 3 (b1 (vC (.int 1)) Dv) (Xp 3 (C2 (A0 (b2 (A3 3) (b1 (vC (.int 1)) Dv) dIx) (A0 (b2 (A3 7) (vC (.int 1)) dIx) (A0 (A3 8) A9))) Y8))))) E8)) (sIf (C3 (A3 8)) (D3 5 (b2 (A3 5) (vC (.int 1)) C4)) E8))))))
noncomputable def T6:Dn->Out:=(sFz 3 (L0 (A3 3)))
noncomputable def N8:Dn->Out:=(C0 M3 (C0 T9 (C0 T8 (C0 T7 (C0 M1 T6)))))
noncomputable def E4:List PyData->Res PyData:=fnD D4 N8
noncomputable def Bj:List Str:=["text", "changes", "changed", "change", "place"]
noncomputable def X6:Dn->Out:=(C0 (D3 2 (A3 0)) (C0 (N9 (fun δ=>((A3 1) δ).bind E3) (st1 3) (C0 (D3 4 (b2 (A3 3) (vC (.int 0)) dIx)) (D3 2 (b2 (b2 (Tk (A3 2) Cf (An (A3 4))) (b2 (A3 3) (vC (.int 2)) dIx) C4) (Tk (A3 2) (An (b2 (A3 4) (vFn (A0 (b2 (A3 3) (vC (.int 1)) dIx) A9) L6) C4)) Cf) C4)))) (L0 (A3 2))))
noncomputable def F8:List PyData->Res PyData:=fnD Bj X6
noncomputable def Pv:List Str:=["book", "time"]
noncomputable def Mi:Dn->Out:=(L0 (vFn (A0 (F3 (F1 (fun δ=>((A3 0) δ).bind E3) F5 [1] (C3 (b2 (b2 (b2 (A3 0) (vC (.int 1)) dIx) (vC (.int 0)) dIx) (A3 1) (N6 .LtE))) (A3 0))) A9) Ci))
noncomputable def R0:List PyData->Res PyData:=fnD Pv Mi
noncomputable def Ed:List Str:=["book"]
noncomputable def Ek:Dn->Out:=(L0 (vFn (A0 (b2 (F3 (A0 (vC (.int 0)) A9)) (F3 (F1 (fun δ=>((A3 0) δ).bind E3) F5 [] P8 (b2 (b2 (A3 0) (vC (.int 1)) dIx) (vC (.int 0)) dIx))) C4) A9) P7))
noncomputable def Bd:List PyData->Res PyData:=fnD Ed Ek
noncomputable def Gq:List Str:=["book", "time"]
noncomputable def Gx:Dn->Out:=(L0 (C2 (A0 (C2 (A0 (A3 0) (A0 (A3 1) A9)) R0) A9) K0))
noncomputable def Ap:List PyData->Res PyData:=fnD Gq Gx
noncomputable def Ee:List Str:=["book", "told", "time"]
noncomputable def El:Dn->Out:=(C0 (Hj 1 A9) (C0 (N9 (fun δ=>((C2 (A0 (A3 0) A9) Bd) δ).bind E3) (st1 2) (C0 (Jq (cFz 1 (C3 (b2 (vFn (A0 (A3 1) A9) L6) (A3 2) (N6 .Lt)))) (Y5 1 (vFz 1 (b2 (A3 1) (b1 (vC (.int 1)) Dv) dIx)))) (Y5 1 (C2 (A0 (A3 0) (A0 (A3 2) A9)) Ap)))) (sFz 1 (L0 (A3 1)))))
noncomputable def Y3:List PyData->Res PyData:=fnD Ee El
noncomputable def Z5:List Str:=["_law_script", "_law_k"]
noncomputable def Ag:Dn->Out:=(C0 (sIf (C3 (b2 (A3 0) (F3 A9) dEq)) (L0 (b2 (vC (.int 7)) (A3 1) M8)) E8) (L0 (b2 (b2 (A3 0) (b2 (A3 1) (vFn (A0 (A3 0) A9) L6) Lv) dIx) (b2 (vC (.int 6553)) (b2 (A3 1) (vFn (A0 (A3 0) A9) L6) Hb) M8) C4)))
noncomputable def U4:List PyData->Res PyData:=fnD Z5 Ag
noncomputable def V8:List Str:=["_law_script", "_law_k", "_law_many", "_law_cell_here"]
noncomputable def Y0:Dn->Out:=(C0 (D3 3 (b2 (b2 (b2 (b2 (C2 (A0 (A3 0) (A0 (A3 1) A9)) U4) (vC (.int 2147483563)) Lv) (vC (.int 69069)) M8) (b2 (vC (.int 104723)) (b2 (A3 1) (vC (.int 1)) C4) M8) C4) (vC (.int 2147483563)) Lv)) (C0 (D3 3 (b2 (b2 (b2 (A3 3) (A3 3) M8) (b2 (A3 3) (vC (.int 3)) Hb) C4) (vC (.int 2147483399)) Lv)) (L0 (b2 (b2 (b2 (b2 (b2 (A3 3) (A3 3) M8) (b2 (A3 3) (vC (.int 7)) Hb) C4) (vC (.int 2147483647)) Lv) (vC (.int 11)) Hb) (A3 2) Lv))))
noncomputable def A8:List PyData->Res PyData:=fnD V8 Y0
noncomputable def K8:List Str:=["_law_script", "_law_at", "_law_found", "_law_k", "_law_word"]
noncomputable def U8:Dn->Out:=(Hj 2 A9)
noncomputable def U7:Dn->Out:=(N9 (fun δ=>((A0 (vC (.int 3)) A9) δ).bind Fi) (st1 3) (C0 (D3 4 (b2 (b2 (vC (.str "abcdefghijklmnopqrstuvwxyz")) (C2 (A0 (A3 0) (A0 (b2 (A3 1) (b2 (vC (.int 2)) (A3 3) M8) C4) (A0 (vC (.int 26)) A9))) A8) dIx) (C2 (A0 (A3 0) (A0 (b2 (b2 (A3 1) (b2 (vC (.int 2)) (A3 3) M8) C4) (vC (.int 1)) C4) (A0 (vC (.int 2)) A9))) A8) M8)) (Y5 2 (b2 (F3 (A0 (b2 (A3 4) (b2 (vC (.str "xyz")) (A3 3) dIx) C4) (A0 (b2 (b2 (vC (.str "xyz")) (A3 3) dIx) (A3 4) C4) A9))) (C2 (A0 (A3 0) (A0 (b2 (A3 1) (vC (.int 6)) C4) (A0 (vC (.int 2)) A9))) A8) dIx))))
noncomputable def U6:Dn->Out:=(sFz 2 (L0 (A3 2)))
noncomputable def X9:Dn->Out:=(C0 U8 (C0 U7 U6))
noncomputable def N5:List PyData->Res PyData:=fnD K8 X9
noncomputable def V6:List Str:=["_law_script", "_law_at"]
noncomputable def X7:Dn->Out:=(L0 (Mb "" (F3 (F1 (fun δ=>((A0 (b2 (vC (.int 1)) (C2 (A0 (A3 0) (A0 (b2 (A3 1) (vC (.int 4)) C4) (A0 (vC (.int 4)) A9))) A8) C4) A9) δ).bind Fi) F5 [0,1] P8 (b2 (vC (.str "ab cd~ <")) (C2 (A0 (A3 1) (A0 (b2 (A3 2) (A3 0) C4) (A0 (vC (.int 8)) A9))) A8) dIx)))))
noncomputable def N3:List PyData->Res PyData:=fnD V6 X7
noncomputable def V7:List Str:=["_law_book_here", "_law_found", "_law_deed_here"]
noncomputable def X8:Dn->Out:=(C0 (D3 1 (F3 A9)) (C0 (N9 (fun δ=>((A3 0) δ).bind E3) (st1 2) (sIf (C3 (b2 (b2 (A3 2) (vC (.int 0)) dIx) (vC (.str "add")) dEq)) (D3 1 (b2 (A3 1) (F3 (F1 (fun δ=>((A0 (vFn (A0 (b2 (A3 2) (vC (.int 3)) dIx) A9) L6) A9) δ).bind Fi) F5 [2] P8 (E9 (A0 (b2 (A3 1) (vC (.int 1)) dIx) (A0 (A3 0) A9))))) C4)) E8)) (L0 (A3 1))))
noncomputable def N4:List PyData->Res PyData:=fnD V7 X8
noncomputable def T4:List Str:=["_law_script", "_law_at", "_law_signs_here", "_law_sign"]
noncomputable def V1:Dn->Out:=(C0 (D3 3 (b2 (b2 (F3 (A0 (vC .none) A9)) (A3 2) C4) (C2 (A0 (A3 0) (A0 (A3 1) (A0 (b2 (vFn (A0 (A3 2) A9) L6) (vC (.int 1)) C4) A9))) A8) dIx)) (L0 (E9 (A0 (A3 3) (A0 (b2 (vC (.str "lr")) (C2 (A0 (A3 0) (A0 (b2 (A3 1) (vC (.int 1)) C4) (A0 (vC (.int 2)) A9))) A8) dIx) A9)))))
noncomputable def I0:List PyData->Res PyData:=fnD T4 V1
noncomputable def E5:List Str:=["_law_script", "_law_at", "_law_one", "_law_known", "_law_names_here", "_law_signs_here", "_law_way", "_law_behind", "_law_some", "_law_ends"]
noncomputable def W8:Dn->Out:=(D3 5 (C2 (A0 (A3 3) A9) N4))
noncomputable def W7:Dn->Out:=(D3 6 (C2 (A0 (A3 0) (A0 (A3 1) (A0 (vC (.int 12)) A9))) A8))
noncomputable def W6:Dn->Out:=(sIf (P9 (C3 (b2 (A3 6) (vC (.int 2)) (N6 .Lt))) (C3 (b2 (A3 5) (F3 A9) dNe))) (C0 (bI 8 (F1 (fun δ=>((A0 (A3 5) A9) δ).bind Kn) He [0,1] (C3 (b2 (C2 (A0 (A3 2) (A0 (b2 (b2 (A3 3) (vC (.int 20)) C4) (A3 0) C4) (A0 (vC (.int 4)) A9))) A8) (vC (.int 0)) dEq)) (A3 1))) (L0 (E9 (A0 (vC (.str "drop")) (A0 (A3 2) (A0 (vFn (A0 (b2 (A3 8) (b2 (vSl (A3 5) Cf (An (vC (.int 1)))) (vFn (A0 (b2 (A3 8) (F3 A9) dEq) A9) Ng) M8) C4) A9) Ci) A9)))))) E8)
noncomputable def W5:Dn->Out:=(sIf (C3 (b2 (A3 6) (vC (.int 5)) (N6 .Lt))) (C0 (D3 9 (E9 (A0 (C2 (A0 (A3 0) (A0 (b2 (A3 1) (vC (.int 1)) C4) (A0 (A3 5) A9))) I0) (A0 (C2 (A0 (A3 0) (A0 (b2 (A3 1) (vC (.int 3)) C4) (A0 (A3 5) A9))) I0) A9)))) (L0 (b2 (E9 (A0 (vC (.str "mark")) (A0 (A3 2) (A0 (b2 (A3 4) (C2 (A0 (A3 0) (A0 (b2 (A3 1) (vC (.int 5)) C4) (A0 (vC (.int 3)) A9))) A8) dIx) A9)))) (A3 9) C4))) E8)
noncomputable def W4:Dn->Out:=(sIf (C3 (b2 (A3 6) (vC (.int 5)) dEq)) (L0 (E9 (A0 (vC (.str "unmark")) (A0 (A3 2) (A0 (b2 (A3 4) (C2 (A0 (A3 0) (A0 (b2 (A3 1) (vC (.int 5)) C4) (A0 (vC (.int 3)) A9))) A8) dIx) A9))))) E8)
noncomputable def W3:Dn->Out:=(sIf (P9 (C3 (b2 (A3 6) (vC (.int 8)) (N6 .Lt))) (C3 (b2 (A3 3) (E9 A9) dNe))) (L0 (E9 (A0 (vC (.str "undo")) (A0 (A3 2) (A0 (b2 (b2 (A3 3) (C2 (A0 (A3 0) (A0 (b2 (A3 1) (vC (.int 6)) C4) (A0 (vFn (A0 (A3 3) A9) L6) A9))) A8) dIx) (vC (.int 1)) dIx) A9))))) E8)
noncomputable def W2:Dn->Out:=(D3 7 (b2 (b2 (b2 (F3 (A0 (vC .none) A9)) (A3 5) C4) (vSl (A3 5) (An (b1 (vC (.int 3)) Dv)) Cf) C4) (C2 (A0 (A3 0) (A0 (b2 (A3 1) (vC (.int 7)) C4) (A0 (b2 (b2 (vFn (A0 (A3 5) A9) L6) (vC (.int 1)) C4) (vFn (A0 (vSl (A3 5) (An (b1 (vC (.int 3)) Dv)) Cf) A9) L6) C4) A9))) A8) dIx))
noncomputable def W1:Dn->Out:=(L0 (E9 (A0 (vC (.str "add")) (A0 (A3 2) (A0 (A3 7) (A0 (C2 (A0 (A3 0) (A0 (b2 (A3 1) (vC (.int 8)) C4) A9)) N3) A9))))))
noncomputable def Af:Dn->Out:=(C0 W8 (C0 W7 (C0 W6 (C0 W5 (C0 W4 (C0 W3 (C0 W2 W1)))))))
noncomputable def K3:List PyData->Res PyData:=fnD E5 Af
noncomputable def K5:List Str:=["_law_script", "_law_at", "_law_most", "_law_names_here", "_law_found", "_law_one", "_law_k", "_law_time", "_law_hand", "_law_known"]
noncomputable def X2:Dn->Out:=(D3 4 (E9 A9))
noncomputable def X1:Dn->Out:=(D3 5 (E9 (A0 (vC (.int 1)) (A0 (vC (.str "a")) A9))))
noncomputable def X0:Dn->Out:=(N9 (fun δ=>((A0 (C2 (A0 (A3 0) (A0 (A3 1) (A0 (b2 (A3 2) (vC (.int 1)) C4) A9))) A8) A9) δ).bind Fi) (st1 6) (C0 (D3 7 (b2 (b2 (A3 5) (vC (.int 0)) dIx) (C2 (A0 (A3 0) (A0 (b2 (b2 (A3 1) (vC (.int 1)) C4) (b2 (vC (.int 60)) (A3 6) M8) C4) (A0 (vC (.int 2)) A9))) A8) C4)) (C0 (D3 8 (b2 (vC (.str "abc")) (C2 (A0 (A3 0) (A0 (b2 (b2 (A3 1) (vC (.int 2)) C4) (b2 (vC (.int 60)) (A3 6) M8) C4) (A0 (vC (.int 3)) A9))) A8) dIx)) (C0 (sIf (P9 (C3 (b2 (A3 4) (E9 A9) dNe)) (C3 (b2 (E9 (A0 (A3 7) (A0 (A3 8) A9))) (A3 5) (N6 .LtE)))) (D3 7 (b2 (b2 (A3 5) (vC (.int 0)) dIx) (vC (.int 1)) C4)) E8) (C0 (D3 5 (E9 (A0 (A3 7) (A0 (A3 8) A9)))) (C0 (D3 9 (vFn (A0 (F3 (F1 (fun δ=>((A3 4) δ).bind E3) F5 [7] (C3 (b2 (b2 (b2 (A3 0) (vC (.int 1)) dIx) (vC (.int 0)) dIx) (A3 1) (N6 .Lt))) (A3 0))) A9) Ci)) (D3 4 (b2 (A3 4) (E9 (A0 (C2 (A0 (A3 0) (A0 (b2 (b2 (A3 1) (vC (.int 3)) C4) (b2 (vC (.int 60)) (A3 6) M8) C4) (A0 (A3 5) (A0 (A3 9) (A0 (A3 3) A9))))) K3) A9)) C4))))))))
noncomputable def W9:Dn->Out:=(L0 (A3 4))
noncomputable def Ah:Dn->Out:=(C0 X2 (C0 X1 (C0 X0 W9)))
noncomputable def U5:List PyData->Res PyData:=fnD K5 Ah
noncomputable def Ey:List Str:=["_law_script", "_law_book_here", "_law_texts", "_law_text", "_law_many", "_law_time", "_law_changes", "_law_place", "_law_old", "_law_new", "_law_words_here"]
noncomputable def Qh:Dn->Out:=(D3 1 (C2 (A0 (A3 0) (A0 (vC (.int 10)) (A0 (vC (.int 9)) (A0 (C2 (A0 (A3 0) (A0 (vC (.int 0)) A9)) N5) A9)))) U5))
noncomputable def Qg:Dn->Out:=(D3 2 (C2 (A0 (A3 1) A9) Y3))
noncomputable def Qf:Dn->Out:=(D3 3 (vC (.str "")))
noncomputable def Qe:Dn->Out:=(D3 4 (vC (.int 0)))
noncomputable def Il:Dn->Out:=(N9 (fun δ=>((A0 (vC (.int 1)) (A0 (vFn (A0 (A3 2) A9) L6) A9)) δ).bind Yf) (st1 5) (C0 (D3 6 (C2 (A0 (C2 (A0 (A3 1) (A0 (b2 (A3 5) (vC (.int 1)) Pm) A9)) R0) (A0 (C2 (A0 (A3 1) (A0 (A3 5) A9)) R0) A9)) E4)) (C0 (D3 3 (C2 (A0 (A3 3) (A0 (A3 6) A9)) F8)) (C0 (sIf (C3 (b2 (A3 3) (b2 (A3 2) (A3 5) dIx) dNe)) (L0 (vC (.bool false))) E8) (C0 (N9 (fun δ=>((A3 6) δ).bind E3) (st3 7 8 9) (D3 4 (b2 (b2 (A3 4) (vFn (A0 (A3 9) A9) L6) C4) (vFn (A0 (A3 8) A9) L6) Pm))) (C0 (D3 10 (vFn (A0 (F3 (F1 (fun δ=>((A3 1) δ).bind E3) F5 [5] (C3 (b2 (b2 (b2 (A3 0) (vC (.int 1)) dIx) (vC (.int 0)) dIx) (A3 1) dEq)) (b2 (A3 0) (vC (.int 0)) dIx))) A9) P7)) (C0 (sIf (P9 (C3 (b2 (A3 10) (F3 (A0 (vC (.str "drop")) A9)) dEq)) (C3 (b2 (F3 (F1 (fun δ=>((A3 6) δ).bind E3) Nt [] (C3 (b2 (A3 2) (vC (.str "")) dNe)) (A3 2))) (F3 A9) dNe))) (L0 (vC (.bool false))) E8) (sIf (P9 (C3 (b2 (A3 10) (F3 (A0 (vC (.str "mark")) A9)) dEq)) (C3 (b2 (A3 6) (F3 A9) dNe))) (L0 (vC (.bool false))) E8))))))))
noncomputable def Qd:Dn->Out:=(L0 (Pz (b2 (A3 3) (C2 (A0 (A3 1) A9) K0) dEq) (b2 (A3 4) (vFn (A0 (A3 3) A9) L6) dEq)))
noncomputable def Vo:Dn->Out:=(C0 Qh (C0 Qg (C0 Qf (C0 Qe (C0 Il Qd)))))
noncomputable def Wm:List PyData->Res PyData:=fnD Ey Vo
end Sm
end
noncomputable section
namespace Sm
open PySem PySem.Spec PyProof.Rows L2
variable {P:Program} {w:World} {K:PySem.W.Frag} {mg:Str->Option Value} {base:Heap} {X:Cx}
theorem Jl:FnScope O1 ["deed"] (A6 (top 1)):=⟨rfl,rfl,rfl,by decide +kernel,rfl,by decide +kernel,by decide +kernel⟩
theorem Gg  (T:Txt mg) (C:Cxt P w K mg base X O1 (A6 (top 1)) 0 true):DSs X E0k (B8 (top 1)) O3 :=
 (C1 (F6 (iM (Lb C (D9 (A4 C 0 (by kernel_rfl)) B0) N7) (Y4 C (by kernel_rfl) T.b_len (A5 (D9 (A4 C 0 (by kernel_rfl)) B0) B4)) B0)))
theorem Jn:FnScope S9 ["book"] (A6 (top 3)):=⟨rfl,rfl,rfl,by decide +kernel,rfl,by decide +kernel,by decide +kernel⟩
theorem Gi  (T:Txt mg) (F_signs_added:Fn P w K mg base "signs_added" 1 1 E2) (C:Cxt P w K mg base X S9 (A6 (top 3)) 1 true):DSN X E0k (B8 (top 3)) V0 :=
 (Fs (On C 1 (by kernel_rfl)) (Fs (s_grp C 1 2 (by kernel_rfl) (by kernel_rfl) (P4 (A4 C 0 (by kernel_rfl))) (t_gt C (C7 C F_signs_added (by decide) (by kernel_rfl) (A5 (A4 C 2 (by kernel_rfl)) B4)) B0) (D9 (A4 C 2 (by kernel_rfl)) B0) (A4 C 2 (by kernel_rfl)) ⟨rfl,rfl,rfl,rfl⟩ (fun _=>rfl) rfl rfl rfl rfl rfl rfl) (cS C 1 (by kernel_rfl))))
theorem Qs:FnScope K7 ["book"] (A6 (top 4)):=⟨rfl,rfl,rfl,by decide +kernel,rfl,by decide +kernel,by decide +kernel⟩
theorem Lg  (T:Txt mg) (F_adds_behind:FnN P w K mg base "adds_behind" 2 1 L8) (C:Cxt P w K mg base X K7 (A6 (top 4)) 2 true):DS X E0k (stm 4 0) Ac :=
 (Om C 1 (by kernel_rfl) (cU C F_adds_behind (by decide) (by kernel_rfl) (A5 (A4 C 0 (by kernel_rfl)) B4)))
theorem Lf  (T:Txt mg) (C:Cxt P w K mg base X K7 (A6 (top 4)) 2 true):DS X E0k (stm 4 1) Ab :=
 (Ub C 2 (by kernel_rfl) (by kernel_rfl) [] [] (by kernel_rfl) (P4 (eD C 1 (by kernel_rfl) Ut (L9 (P5 B4)))) (fun X' C'=>Dg) (fun X' C'=>(L5 (A5 (A4 C' 0 (by kernel_rfl)) (A5 B0 B4)))))
theorem Le  (T:Txt mg) (C:Cxt P w K mg base X K7 (A6 (top 4)) 2 true):DS X E0k (stm 4 2) Cu :=
 (Qu C 3 (by kernel_rfl) (P5 B4))
theorem Ld  (T:Txt mg) (C:Cxt P w K mg base X K7 (A6 (top 4)) 2 true):DS X E0k (stm 4 3) Aa :=
 (Vp C (t_own C 2 (by kernel_rfl)) (B3 (s_pop C 2 4 (by kernel_rfl) (by kernel_rfl)) (B3 (E1 C 5 (by kernel_rfl) (D9 (A4 C 4 (by kernel_rfl)) B0)) (B3 (E1 C 6 (by kernel_rfl) (D9 (A4 C 4 (by kernel_rfl)) B0)) (B3 (E1 C 7 (by kernel_rfl) (L5 (A5 (D9 (A4 C 5 (by kernel_rfl)) B0) (A5 (A4 C 6 (by kernel_rfl)) B4)))) (B3 (Jp C 3 (by kernel_rfl) (L5 (A5 (A4 C 7 (by kernel_rfl)) (A5 (D9 (D9 (A4 C 5 (by kernel_rfl)) B0) (A4 C 6 (by kernel_rfl))) B4)))) (B3 (Bp (Xv C (C8 (A4 C 6 (by kernel_rfl)) B0) (Y4 C (by kernel_rfl) T.b_len (A5 (D9 (A4 C 5 (by kernel_rfl)) B0) B4))) (C1 (Jp C 2 (by kernel_rfl) (L5 (A5 (A4 C 5 (by kernel_rfl)) (A5 (C8 (A4 C 6 (by kernel_rfl)) B0) B4))))) M4) (C1 (s_ext C 2 (by kernel_rfl) (S0 C [] [] (by kernel_rfl) (P4 (eD C 1 (by kernel_rfl) (A4 C 7 (by kernel_rfl)) (L9 (P5 B4)))) (fun X' C'=>Dg) (fun X' C'=>(L5 (A5 (A4 C' 0 (by kernel_rfl)) (A5 B0 B4))))))))))))))
theorem Lc  (T:Txt mg) (C:Cxt P w K mg base X K7 (A6 (top 4)) 2 true):DS X E0k (stm 4 4) Ct :=
 (bG 3 (F6 (A4 C 3 (by kernel_rfl))))
theorem Ly  (T:Txt mg) (F_adds_behind:FnN P w K mg base "adds_behind" 2 1 L8) (C:Cxt P w K mg base X K7 (A6 (top 4)) 2 true):DSs X E0k (B8 (top 4)) Ba:=by
 have h:B8 (top 4)=[stm 4 0,stm 4 1,stm 4 2,stm 4 3,stm 4 4]:=by kernel_rfl
 rw [h]
 exact (B3 (Lg T F_adds_behind C) (B3 (Lf T C) (B3 (Le T C) (B3 (Ld T C) (C1 (Lc T C))))))
theorem Oh:FnScope Z4 ["book"] (A6 (top 5)):=⟨rfl,rfl,rfl,by decide +kernel,rfl,by decide +kernel,by decide +kernel⟩
theorem Ks  (T:Txt mg) (C:Cxt P w K mg base X Z4 (A6 (top 5)) 0 true):DSN X E0k (B8 (top 5)) Ae :=
 (Fs (On C 1 (by kernel_rfl)) (Fs (Y1 C 2 (by kernel_rfl) (i_rev C (by kernel_rfl) T.b_reversed (A4 C 0 (by kernel_rfl))) (C1 (Bp (w_t (Gs (Lb C (D9 (A4 C 2 (by kernel_rfl)) B0) N7) (Br (Qc C 1 (by kernel_rfl) (D9 (A4 C 2 (by kernel_rfl)) B0))))) (C1 (bF C 1 (by kernel_rfl) (D9 (A4 C 2 (by kernel_rfl)) B0) Bf)) M4))) (cS C 1 (by kernel_rfl))))
theorem Li:FnScope V5 ["book", "undone"] (A6 (top 6)):=⟨rfl,rfl,rfl,by decide +kernel,rfl,by decide +kernel,by decide +kernel⟩
theorem Hm  (T:Txt mg) (C:Cxt P w K mg base X V5 (A6 (top 6)) 0 true):DSN X E0k (B8 (top 6)) X5 :=
 (Fs (On C 2 (by kernel_rfl)) (Fs (Y1 C 3 (by kernel_rfl) (P4 (A4 C 0 (by kernel_rfl))) (C1 (Bp (w_t (Gs (Lb C (D9 (A4 C 3 (by kernel_rfl)) B0) N7) (Br (Qc C 1 (by kernel_rfl) (D9 (A4 C 3 (by kernel_rfl)) B0))))) (C1 (Y1 C 4 (by kernel_rfl) (P4 (D9 (A4 C 3 (by kernel_rfl)) B0)) (C1 (bF C 2 (by kernel_rfl) (A4 C 4 (by kernel_rfl)) Bf)))) M4))) (cS C 2 (by kernel_rfl))))
theorem Jm:FnScope E7 ["book"] (A6 (top 7)):=⟨rfl,rfl,rfl,by decide +kernel,rfl,by decide +kernel,by decide +kernel⟩
theorem Ff  (T:Txt mg) (F_undone_in:FnN P w K mg base "undone_in" 1 1 M6) (C:Cxt P w K mg base X E7 (A6 (top 7)) 3 true):DS X E0k (stm 7 0) Q5 :=
 (Om C 1 (by kernel_rfl) (cU C F_undone_in (by decide) (by kernel_rfl) (A5 (A4 C 0 (by kernel_rfl)) B4)))
theorem Fe  (T:Txt mg) (F_dropped_in:FnSN P w K mg base "dropped_in" 1 2 F7) (C:Cxt P w K mg base X E7 (A6 (top 7)) 3 true):DS X E0k (stm 7 1) Q4 :=
 (s_fzN 1 (Om C 2 (by kernel_rfl) (cT C F_dropped_in (by decide) (by kernel_rfl) (A4 C 0 (by kernel_rfl)) 1 (by kernel_rfl))))
theorem Fd  (T:Txt mg) (C:Cxt P w K mg base X E7 (A6 (top 7)) 3 true):DS X E0k (stm 7 2) Ak :=
 (Qu C 3 (by kernel_rfl) (P5 B4))
theorem Fc  (T:Txt mg) (F_signs_of:Fn P w K mg base "signs_of" 3 1 Q6) (C:Cxt P w K mg base X E7 (A6 (top 7)) 3 true):DS X E0k (stm 7 3) N0 :=
 (Y1 C 4 (by kernel_rfl) (P4 (C7 C F_signs_of (by decide) (by kernel_rfl) (A5 (A4 C 0 (by kernel_rfl)) B4))) (C1 (Jp C 3 (by kernel_rfl) (L5 (A5 (A4 C 4 (by kernel_rfl)) (A5 (jT (Sr C 1 (by kernel_rfl) (D9 (D9 (A4 C 4 (by kernel_rfl)) B0) B0)) (jS (Sr C 2 (by kernel_rfl) (D9 (A4 C 4 (by kernel_rfl)) B0)))) B4))))))
theorem Fb  (T:Txt mg) (C:Cxt P w K mg base X E7 (A6 (top 7)) 3 true):DS X E0k (stm 7 4) Aj :=
 (bG 3 (F6 (A4 C 3 (by kernel_rfl))))
theorem Gh  (T:Txt mg) (F_dropped_in:FnSN P w K mg base "dropped_in" 1 2 F7) (F_signs_of:Fn P w K mg base "signs_of" 3 1 Q6) (F_undone_in:FnN P w K mg base "undone_in" 1 1 M6) (C:Cxt P w K mg base X E7 (A6 (top 7)) 3 true):DSs X E0k (B8 (top 7)) U9:=by
 have h:B8 (top 7)=[stm 7 0,stm 7 1,stm 7 2,stm 7 3,stm 7 4]:=by kernel_rfl
 rw [h]
 exact (B3 (Ff T F_undone_in C) (B3 (Fe T F_dropped_in C) (B3 (Fd T C) (B3 (Fc T F_signs_of C) (C1 (Fb T C))))))
theorem Qt:FnScope Bi ["book"] (A6 (top 8)):=⟨rfl,rfl,rfl,by decide +kernel,rfl,by decide +kernel,by decide +kernel⟩
theorem Lz  (T:Txt mg) (F_presence_in:Fn P w K mg base "presence_in" 4 1 F2) (C:Cxt P w K mg base X Bi (A6 (top 8)) 4 true):DSs X E0k (B8 (top 8)) Bb :=
 (C1 (F6 (L9 (S0 C [] [] (by kernel_rfl) (P4 (C7 C F_presence_in (by decide) (by kernel_rfl) (A5 (A4 C 0 (by kernel_rfl)) B4))) (fun X' C'=>(Fa (Gv (D9 (A4 C' 0 (by kernel_rfl)) B0)))) (fun X' C'=>(D9 (A4 C' 0 (by kernel_rfl)) B0))))))
theorem Tz:FnScope Cq ["book"] (A6 (top 9)):=⟨rfl,rfl,rfl,by decide +kernel,rfl,by decide +kernel,by decide +kernel⟩
theorem Pp  (T:Txt mg) (F_shown_in:Fn P w K mg base "shown_in" 5 1 G9) (C:Cxt P w K mg base X Cq (A6 (top 9)) 5 true):DSs X E0k (B8 (top 9)) Cd :=
 (C1 (F6 (eC (L9 (S0 C [] [] (by kernel_rfl) (P4 (C7 C F_shown_in (by decide) (by kernel_rfl) (A5 (A4 C 0 (by kernel_rfl)) B4))) (fun X' C'=>Dg) (fun X' C'=>(D9 (A4 C' 0 (by kernel_rfl)) B0)))))))
theorem bB:FnScope Pu ["change", "sign", "there"] (A6 (top 11)):=⟨rfl,rfl,rfl,by decide +kernel,rfl,by decide +kernel,by decide +kernel⟩
theorem Uz  (T:Txt mg) (C:Cxt P w K mg base X Pu (A6 (top 11)) 0 true):DSs X E0k (B8 (top 11)) Mh :=
 (B3 (Bp (Gv (A4 C 2 (by kernel_rfl))) (C1 (F6 (L5 (A5 (D9 (A4 C 0 (by kernel_rfl)) B0) (A5 (D9 (A4 C 0 (by kernel_rfl)) B0) (A5 (C8 (D9 (A4 C 0 (by kernel_rfl)) B0) (A4 C 1 (by kernel_rfl))) B4)))))) M4) (C1 (F6 (L5 (A5 (D9 (A4 C 0 (by kernel_rfl)) B0) (A5 (C8 (D9 (A4 C 0 (by kernel_rfl)) B0) (A4 C 1 (by kernel_rfl))) (A5 (D9 (A4 C 0 (by kernel_rfl)) B0) B4)))))))
theorem Di:FnScope D4 ["less", "more"] (A6 (top 12)):=⟨rfl,rfl,rfl,by decide +kernel,rfl,by decide +kernel,by decide +kernel⟩
theorem Ca  (T:Txt mg) (F_shown_in:Fn P w K mg base "shown_in" 5 1 G9) (C:Cxt P w K mg base X D4 (A6 (top 12)) 5 true):DS X E0k (stm 12 0) M3 :=
 (Om C 2 (by kernel_rfl) (gY C (by kernel_rfl) T.b_dict (L9 (S0 C [] [] (by kernel_rfl) (P4 (C7 C F_shown_in (by decide) (by kernel_rfl) (A5 (A4 C 0 (by kernel_rfl)) B4))) (fun X' C'=>Dg) (fun X' C'=>(L5 (A5 (D9 (A4 C' 0 (by kernel_rfl)) B0) (A5 Bf B4))))))))
theorem Bz  (T:Txt mg) (C:Cxt P w K mg base X D4 (A6 (top 12)) 5 true):DS X E0k (stm 12 1) T9 :=
 (Qu C 3 (by kernel_rfl) (P5 B4))
theorem Bx  (T:Txt mg) (C:Cxt P w K mg base X D4 (A6 (top 12)) 5 true):DS X E0k (stm 12 2) T8 :=
 (E1 C 4 (by kernel_rfl) Bf)
theorem Bw  (T:Txt mg) (C:Cxt P w K mg base X D4 (A6 (top 12)) 5 true):DS X E0k (stm 12 3) T7 :=
 (E1 C 5 (by kernel_rfl) B0)
theorem Bv  (T:Txt mg) (F_grown:Fn P w K mg base "grown" 1 3 Y8) (F_presence_in:Fn P w K mg base "presence_in" 4 1 F2) (C:Cxt P w K mg base X D4 (A6 (top 12)) 5 true):DS X E0k (stm 12 4) M1 :=
 (Y1 C 6 (by kernel_rfl) (P4 (C7 C F_presence_in (by decide) (by kernel_rfl) (A5 (A4 C 1 (by kernel_rfl)) B4))) (B3 (E1 C 7 (by kernel_rfl) (D9 (A4 C 6 (by kernel_rfl)) B0)) (B3 (E1 C 8 (by kernel_rfl) (D9 (A4 C 6 (by kernel_rfl)) B0)) (B3 (E1 C 9 (by kernel_rfl) (d_inN C 2 (by kernel_rfl) (D9 (A4 C 7 (by kernel_rfl)) B0))) (B3 (Bp (w_t (Gs (Gv (A4 C 9 (by kernel_rfl))) (Br (Gv (A4 C 8 (by kernel_rfl)))))) (C1 (E1 C 4 (by kernel_rfl) Bf)) (C1 (Bp (w_t (w_or (Gv (A4 C 9 (by kernel_rfl))) (w_or1 (Gv (A4 C 8 (by kernel_rfl)))))) (B3 (Bp (t_not (Gv (A4 C 4 (by kernel_rfl)))) (C1 (Jp C 3 (by kernel_rfl) (L5 (A5 (A4 C 5 (by kernel_rfl)) (A5 N7 (A5 N7 B4)))))) M4) (B3 (E1 C 4 (by kernel_rfl) Bf) (C1 (kP C 3 (by kernel_rfl) (Ss B0) (iL 3 (C7 C F_grown (by decide) (by kernel_rfl) (A5 (D9 (A4 C 3 (by kernel_rfl)) (Ss B0)) (A5 (D9 (A4 C 7 (by kernel_rfl)) B0) (A5 (A4 C 8 (by kernel_rfl)) B4))))))))) M4))) (C1 (Bp (Gv (A4 C 8 (by kernel_rfl))) (C1 (E1 C 5 (by kernel_rfl) (C8 (A4 C 5 (by kernel_rfl)) B0))) M4)))))))
theorem Bu  (T:Txt mg) (C:Cxt P w K mg base X D4 (A6 (top 12)) 5 true):DS X E0k (stm 12 5) T6 :=
 (bG 3 (F6 (A4 C 3 (by kernel_rfl))))
theorem Cl  (T:Txt mg) (F_grown:Fn P w K mg base "grown" 1 3 Y8) (F_presence_in:Fn P w K mg base "presence_in" 4 1 F2) (F_shown_in:Fn P w K mg base "shown_in" 5 1 G9) (C:Cxt P w K mg base X D4 (A6 (top 12)) 5 true):DSs X E0k (B8 (top 12)) N8:=by
 have h:B8 (top 12)=[stm 12 0,stm 12 1,stm 12 2,stm 12 3,stm 12 4,stm 12 5]:=by kernel_rfl
 rw [h]
 exact (B3 (Ca T F_shown_in C) (B3 (Bz T C) (B3 (Bx T C) (B3 (Bw T C) (B3 (Bv T F_grown F_presence_in C) (C1 (Bu T C)))))))
theorem Lj:FnScope Bj ["text", "changes"] (A6 (top 13)):=⟨rfl,rfl,rfl,by decide +kernel,rfl,by decide +kernel,by decide +kernel⟩
theorem Hn  (T:Txt mg) (C:Cxt P w K mg base X Bj (A6 (top 13)) 0 true):DSs X E0k (B8 (top 13)) X6 :=
 (B3 (E1 C 2 (by kernel_rfl) (A4 C 0 (by kernel_rfl))) (B3 (Y1 C 3 (by kernel_rfl) (P4 (A4 C 1 (by kernel_rfl))) (B3 (E1 C 4 (by kernel_rfl) (D9 (A4 C 3 (by kernel_rfl)) B0)) (C1 (E1 C 2 (by kernel_rfl) (C8 (C8 (Sq (A4 C 2 (by kernel_rfl)) Kc (Kb (A4 C 4 (by kernel_rfl)))) (D9 (A4 C 3 (by kernel_rfl)) B0)) (Sq (A4 C 2 (by kernel_rfl)) (Kb (C8 (A4 C 4 (by kernel_rfl)) (Y4 C (by kernel_rfl) T.b_len (A5 (D9 (A4 C 3 (by kernel_rfl)) B0) B4)))) Kc)))))) (C1 (F6 (A4 C 2 (by kernel_rfl))))))
theorem bC:FnScope Pv ["book", "time"] (A6 (top 15)):=⟨rfl,rfl,rfl,by decide +kernel,rfl,by decide +kernel,by decide +kernel⟩
theorem Va  (T:Txt mg) (C:Cxt P w K mg base X Pv (A6 (top 15)) 0 true):DSs X E0k (B8 (top 15)) Mi :=
 (C1 (F6 (Us C (by kernel_rfl) T.b_tuple (A5 (L9 (S0 C [1] ["time"] (by kernel_rfl) (P4 (A4 C 0 (by kernel_rfl))) (fun X' C'=>(Fa (t_le C' (D9 (D9 (A4 C' 0 (by kernel_rfl)) B0) B0) (A4 C' 1 (by kernel_rfl))))) (fun X' C'=>(A4 C' 0 (by kernel_rfl))))) B4))))
theorem Qq:FnScope Ed ["book"] (A6 (top 16)):=⟨rfl,rfl,rfl,by decide +kernel,rfl,by decide +kernel,by decide +kernel⟩
theorem Lw  (T:Txt mg) (C:Cxt P w K mg base X Ed (A6 (top 16)) 0 true):DSs X E0k (B8 (top 16)) Ek :=
 (C1 (F6 (Nc C (by kernel_rfl) T.b_sorted (by kernel_rfl) T.b_set (A5 (C8 (L9 (P5 (A5 B0 B4))) (L9 (S0 C [] [] (by kernel_rfl) (P4 (A4 C 0 (by kernel_rfl))) (fun X' C'=>Dg) (fun X' C'=>(D9 (D9 (A4 C' 0 (by kernel_rfl)) B0) B0))))) B4))))
theorem Ua:FnScope Gq ["book", "time"] (A6 (top 17)):=⟨rfl,rfl,rfl,by decide +kernel,rfl,by decide +kernel,by decide +kernel⟩
theorem Ps  (T:Txt mg) (F_as_of:Fn P w K mg base "as_of" 1 2 R0) (F_text_of:Fn P w K mg base "text_of" 6 1 K0) (C:Cxt P w K mg base X Gq (A6 (top 17)) 6 true):DSs X E0k (B8 (top 17)) Gx :=
 (C1 (F6 (C7 C F_text_of (by decide) (by kernel_rfl) (A5 (C7 C F_as_of (by decide) (by kernel_rfl) (A5 (A4 C 0 (by kernel_rfl)) (A5 (A4 C 1 (by kernel_rfl)) B4))) B4))))
theorem Qr:FnScope Ee ["book"] (A6 (top 18)):=⟨rfl,rfl,rfl,by decide +kernel,rfl,by decide +kernel,by decide +kernel⟩
theorem Lx  (T:Txt mg) (F_text_at:Fn P w K mg base "text_at" 7 2 Ap) (F_times_of:Fn P w K mg base "times_of" 1 1 Bd) (C:Cxt P w K mg base X Ee (A6 (top 18)) 7 true):DSs X E0k (B8 (top 18)) El :=
 (B3 (Qu C 1 (by kernel_rfl) (P5 B4)) (B3 (Y1 C 2 (by kernel_rfl) (P4 (C7 C F_times_of (by decide) (by kernel_rfl) (A5 (A4 C 0 (by kernel_rfl)) B4))) (B3 (Vp C (kG 1 (Xv C (Y4 C (by kernel_rfl) T.b_len (A5 (A4 C 1 (by kernel_rfl)) B4)) (A4 C 2 (by kernel_rfl)))) (C1 (Jp C 1 (by kernel_rfl) (mU 1 (D9 (A4 C 1 (by kernel_rfl)) (Ss B0)))))) (C1 (Jp C 1 (by kernel_rfl) (C7 C F_text_at (by decide) (by kernel_rfl) (A5 (A4 C 0 (by kernel_rfl)) (A5 (A4 C 2 (by kernel_rfl)) B4))))))) (C1 (bG 1 (F6 (A4 C 1 (by kernel_rfl)))))))
theorem Oj:FnScope Z5 ["_law_script", "_law_k"] (A6 (top 20)):=⟨rfl,rfl,rfl,by decide +kernel,rfl,by decide +kernel,by decide +kernel⟩
theorem Ku  (T:Txt mg) (C:Cxt P w K mg base X Z5 (A6 (top 20)) 0 true):DSs X E0k (B8 (top 20)) Ag :=
 (B3 (Bp (Lb C (A4 C 0 (by kernel_rfl)) (L9 (P5 B4))) (C1 (F6 (Av B0 (A4 C 1 (by kernel_rfl))))) M4) (C1 (F6 (C8 (D9 (A4 C 0 (by kernel_rfl)) (Nd (A4 C 1 (by kernel_rfl)) (Y4 C (by kernel_rfl) T.b_len (A5 (A4 C 0 (by kernel_rfl)) B4)))) (Av B0 (Pl (A4 C 1 (by kernel_rfl)) (Y4 C (by kernel_rfl) T.b_len (A5 (A4 C 0 (by kernel_rfl)) B4))))))))
theorem Ln:FnScope V8 ["_law_script", "_law_k", "_law_many"] (A6 (top 21)):=⟨rfl,rfl,rfl,by decide +kernel,rfl,by decide +kernel,by decide +kernel⟩
theorem Hs  (T:Txt mg) (F__law_cell:Fn P w K mg base "_law_cell" 1 2 U4) (C:Cxt P w K mg base X V8 (A6 (top 21)) 1 true):DSs X E0k (B8 (top 21)) Y0 :=
 (B3 (E1 C 3 (by kernel_rfl) (Nd (C8 (Av (Nd (C7 C F__law_cell (by decide) (by kernel_rfl) (A5 (A4 C 0 (by kernel_rfl)) (A5 (A4 C 1 (by kernel_rfl)) B4))) B0) B0) (Av B0 (C8 (A4 C 1 (by kernel_rfl)) B0))) B0)) (B3 (E1 C 3 (by kernel_rfl) (Nd (C8 (Av (A4 C 3 (by kernel_rfl)) (A4 C 3 (by kernel_rfl))) (Pl (A4 C 3 (by kernel_rfl)) B0)) B0)) (C1 (F6 (Nd (Pl (Nd (C8 (Av (A4 C 3 (by kernel_rfl)) (A4 C 3 (by kernel_rfl))) (Pl (A4 C 3 (by kernel_rfl)) B0)) B0) B0) (A4 C 2 (by kernel_rfl)))))))
theorem Lm:FnScope K8 ["_law_script", "_law_at"] (A6 (top 22)):=⟨rfl,rfl,rfl,by decide +kernel,rfl,by decide +kernel,by decide +kernel⟩
theorem Hi  (T:Txt mg) (C:Cxt P w K mg base X K8 (A6 (top 22)) 2 true):DS X E0k (stm 22 0) U8 :=
 (Qu C 2 (by kernel_rfl) (P5 B4))
theorem Hh  (T:Txt mg) (F__law_drawn:Fn P w K mg base "_law_drawn" 2 3 A8) (C:Cxt P w K mg base X K8 (A6 (top 22)) 2 true):DS X E0k (stm 22 1) U7 :=
 (Y1 C 3 (by kernel_rfl) (Es C (by kernel_rfl) T.b_range (A5 B0 B4)) (B3 (E1 C 4 (by kernel_rfl) (Av (D9 N7 (C7 C F__law_drawn (by decide) (by kernel_rfl) (A5 (A4 C 0 (by kernel_rfl)) (A5 (C8 (A4 C 1 (by kernel_rfl)) (Av B0 (A4 C 3 (by kernel_rfl)))) (A5 B0 B4))))) (C7 C F__law_drawn (by decide) (by kernel_rfl) (A5 (A4 C 0 (by kernel_rfl)) (A5 (C8 (C8 (A4 C 1 (by kernel_rfl)) (Av B0 (A4 C 3 (by kernel_rfl)))) B0) (A5 B0 B4)))))) (C1 (Jp C 2 (by kernel_rfl) (D9 (L9 (P5 (A5 (C8 (A4 C 4 (by kernel_rfl)) (D9 N7 (A4 C 3 (by kernel_rfl)))) (A5 (C8 (D9 N7 (A4 C 3 (by kernel_rfl))) (A4 C 4 (by kernel_rfl))) B4)))) (C7 C F__law_drawn (by decide) (by kernel_rfl) (A5 (A4 C 0 (by kernel_rfl)) (A5 (C8 (A4 C 1 (by kernel_rfl)) B0) (A5 B0 B4)))))))))
theorem Hg  (T:Txt mg) (C:Cxt P w K mg base X K8 (A6 (top 22)) 2 true):DS X E0k (stm 22 2) U6 :=
 (bG 2 (F6 (A4 C 2 (by kernel_rfl))))
theorem Hr  (T:Txt mg) (F__law_drawn:Fn P w K mg base "_law_drawn" 2 3 A8) (C:Cxt P w K mg base X K8 (A6 (top 22)) 2 true):DSs X E0k (B8 (top 22)) X9:=by
 have h:B8 (top 22)=[stm 22 0,stm 22 1,stm 22 2]:=by kernel_rfl
 rw [h]
 exact (B3 (Hi T C) (B3 (Hh T F__law_drawn C) (C1 (Hg T C))))
theorem Lk:FnScope V6 ["_law_script", "_law_at"] (A6 (top 23)):=⟨rfl,rfl,rfl,by decide +kernel,rfl,by decide +kernel,by decide +kernel⟩
theorem Ho  (T:Txt mg) (F__law_drawn:Fn P w K mg base "_law_drawn" 2 3 A8) (C:Cxt P w K mg base X V6 (A6 (top 23)) 2 true):DSs X E0k (B8 (top 23)) X7 :=
 (C1 (F6 (eC (L9 (S0 C [0,1] ["_law_script", "_law_at"] (by kernel_rfl) (Es C (by kernel_rfl) T.b_range (A5 (C8 B0 (C7 C F__law_drawn (by decide) (by kernel_rfl) (A5 (A4 C 0 (by kernel_rfl)) (A5 (C8 (A4 C 1 (by kernel_rfl)) B0) (A5 B0 B4))))) B4)) (fun X' C'=>Dg) (fun X' C'=>(D9 N7 (C7 C' F__law_drawn (by decide) (by kernel_rfl) (A5 (A4 C' 1 (by kernel_rfl)) (A5 (C8 (A4 C' 2 (by kernel_rfl)) (A4 C' 0 (by kernel_rfl))) (A5 B0 B4)))))))))))
theorem Ll:FnScope V7 ["_law_book_here"] (A6 (top 24)):=⟨rfl,rfl,rfl,by decide +kernel,rfl,by decide +kernel,by decide +kernel⟩
theorem Hq  (T:Txt mg) (C:Cxt P w K mg base X V7 (A6 (top 24)) 0 true):DSs X E0k (B8 (top 24)) X8 :=
 (B3 (E1 C 1 (by kernel_rfl) (L9 (P5 B4))) (B3 (Y1 C 2 (by kernel_rfl) (P4 (A4 C 0 (by kernel_rfl))) (C1 (Bp (Lb C (D9 (A4 C 2 (by kernel_rfl)) B0) N7) (C1 (E1 C 1 (by kernel_rfl) (C8 (A4 C 1 (by kernel_rfl)) (L9 (S0 C [2] ["_law_deed_here"] (by kernel_rfl) (Es C (by kernel_rfl) T.b_range (A5 (Y4 C (by kernel_rfl) T.b_len (A5 (D9 (A4 C 2 (by kernel_rfl)) B0) B4)) B4)) (fun X' C'=>Dg) (fun X' C'=>(L5 (A5 (D9 (A4 C' 1 (by kernel_rfl)) B0) (A5 (A4 C' 0 (by kernel_rfl)) B4))))))))) M4))) (C1 (F6 (A4 C 1 (by kernel_rfl))))))
theorem Jo:FnScope T4 ["_law_script", "_law_at", "_law_signs_here"] (A6 (top 25)):=⟨rfl,rfl,rfl,by decide +kernel,rfl,by decide +kernel,by decide +kernel⟩
theorem Gj  (T:Txt mg) (F__law_drawn:Fn P w K mg base "_law_drawn" 2 3 A8) (C:Cxt P w K mg base X T4 (A6 (top 25)) 2 true):DSs X E0k (B8 (top 25)) V1 :=
 (B3 (E1 C 3 (by kernel_rfl) (D9 (C8 (L9 (P5 (A5 Ut B4))) (A4 C 2 (by kernel_rfl))) (C7 C F__law_drawn (by decide) (by kernel_rfl) (A5 (A4 C 0 (by kernel_rfl)) (A5 (A4 C 1 (by kernel_rfl)) (A5 (C8 (Y4 C (by kernel_rfl) T.b_len (A5 (A4 C 2 (by kernel_rfl)) B4)) B0) B4)))))) (C1 (F6 (L5 (A5 (A4 C 3 (by kernel_rfl)) (A5 (D9 N7 (C7 C F__law_drawn (by decide) (by kernel_rfl) (A5 (A4 C 0 (by kernel_rfl)) (A5 (C8 (A4 C 1 (by kernel_rfl)) B0) (A5 B0 B4))))) B4))))))
theorem Oi:FnScope E5 ["_law_script", "_law_at", "_law_one", "_law_known", "_law_names_here"] (A6 (top 26)):=⟨rfl,rfl,rfl,by decide +kernel,rfl,by decide +kernel,by decide +kernel⟩
theorem Ja  (T:Txt mg) (F__law_signs:Fn P w K mg base "_law_signs" 1 1 N4) (C:Cxt P w K mg base X E5 (A6 (top 26)) 3 true):DS X E0k (stm 26 0) W8 :=
 (E1 C 5 (by kernel_rfl) (C7 C F__law_signs (by decide) (by kernel_rfl) (A5 (A4 C 3 (by kernel_rfl)) B4)))
theorem Iz  (T:Txt mg) (F__law_drawn:Fn P w K mg base "_law_drawn" 2 3 A8) (C:Cxt P w K mg base X E5 (A6 (top 26)) 3 true):DS X E0k (stm 26 1) W7 :=
 (E1 C 6 (by kernel_rfl) (C7 C F__law_drawn (by decide) (by kernel_rfl) (A5 (A4 C 0 (by kernel_rfl)) (A5 (A4 C 1 (by kernel_rfl)) (A5 B0 B4)))))
theorem Iy  (T:Txt mg) (F__law_drawn:Fn P w K mg base "_law_drawn" 2 3 A8) (C:Cxt P w K mg base X E5 (A6 (top 26)) 3 true):DS X E0k (stm 26 2) W6 :=
 (Bp (w_t (Gs (Xv C (A4 C 6 (by kernel_rfl)) B0) (Br (Tt C (A4 C 5 (by kernel_rfl)) (L9 (P5 B4)))))) (B3 (Uc C 8 (by kernel_rfl) (by kernel_rfl) [0,1] ["_law_script", "_law_at"] (by kernel_rfl) (mN C (by kernel_rfl) T.b_enumerate (A5 (A4 C 5 (by kernel_rfl)) B4)) (fun X' C'=>(Fa (Lb C' (C7 C' F__law_drawn (by decide) (by kernel_rfl) (A5 (A4 C' 2 (by kernel_rfl)) (A5 (C8 (C8 (A4 C' 3 (by kernel_rfl)) B0) (A4 C' 0 (by kernel_rfl))) (A5 B0 B4)))) B0))) (fun X' C'=>(A4 C' 1 (by kernel_rfl)))) (C1 (F6 (L5 (A5 N7 (A5 (A4 C 2 (by kernel_rfl)) (A5 (Us C (by kernel_rfl) T.b_tuple (A5 (C8 (A4 C 8 (by kernel_rfl)) (Av (Pk (A4 C 5 (by kernel_rfl)) Kc (Kb B0)) (mV C (by kernel_rfl) T.b_int (A5 (mW C (A4 C 8 (by kernel_rfl)) (L9 (P5 B4))) B4)))) B4)) B4))))))) M4)
theorem Ix  (T:Txt mg) (F__law_anchor:Fn P w K mg base "_law_anchor" 3 3 I0) (F__law_drawn:Fn P w K mg base "_law_drawn" 2 3 A8) (C:Cxt P w K mg base X E5 (A6 (top 26)) 3 true):DS X E0k (stm 26 3) W5 :=
 (Bp (Xv C (A4 C 6 (by kernel_rfl)) B0) (B3 (E1 C 9 (by kernel_rfl) (L5 (A5 (C7 C F__law_anchor (by decide) (by kernel_rfl) (A5 (A4 C 0 (by kernel_rfl)) (A5 (C8 (A4 C 1 (by kernel_rfl)) B0) (A5 (A4 C 5 (by kernel_rfl)) B4)))) (A5 (C7 C F__law_anchor (by decide) (by kernel_rfl) (A5 (A4 C 0 (by kernel_rfl)) (A5 (C8 (A4 C 1 (by kernel_rfl)) B0) (A5 (A4 C 5 (by kernel_rfl)) B4)))) B4)))) (C1 (F6 (C8 (L5 (A5 N7 (A5 (A4 C 2 (by kernel_rfl)) (A5 (D9 (A4 C 4 (by kernel_rfl)) (C7 C F__law_drawn (by decide) (by kernel_rfl) (A5 (A4 C 0 (by kernel_rfl)) (A5 (C8 (A4 C 1 (by kernel_rfl)) B0) (A5 B0 B4))))) B4)))) (A4 C 9 (by kernel_rfl)))))) M4)
theorem Iw  (T:Txt mg) (F__law_drawn:Fn P w K mg base "_law_drawn" 2 3 A8) (C:Cxt P w K mg base X E5 (A6 (top 26)) 3 true):DS X E0k (stm 26 4) W4 :=
 (Bp (Lb C (A4 C 6 (by kernel_rfl)) B0) (C1 (F6 (L5 (A5 N7 (A5 (A4 C 2 (by kernel_rfl)) (A5 (D9 (A4 C 4 (by kernel_rfl)) (C7 C F__law_drawn (by decide) (by kernel_rfl) (A5 (A4 C 0 (by kernel_rfl)) (A5 (C8 (A4 C 1 (by kernel_rfl)) B0) (A5 B0 B4))))) B4)))))) M4)
theorem Iv  (T:Txt mg) (F__law_drawn:Fn P w K mg base "_law_drawn" 2 3 A8) (C:Cxt P w K mg base X E5 (A6 (top 26)) 3 true):DS X E0k (stm 26 5) W3 :=
 (Bp (w_t (Gs (Xv C (A4 C 6 (by kernel_rfl)) B0) (Br (Tt C (A4 C 3 (by kernel_rfl)) (L5 B4))))) (C1 (F6 (L5 (A5 N7 (A5 (A4 C 2 (by kernel_rfl)) (A5 (D9 (D9 (A4 C 3 (by kernel_rfl)) (C7 C F__law_drawn (by decide) (by kernel_rfl) (A5 (A4 C 0 (by kernel_rfl)) (A5 (C8 (A4 C 1 (by kernel_rfl)) B0) (A5 (Y4 C (by kernel_rfl) T.b_len (A5 (A4 C 3 (by kernel_rfl)) B4)) B4))))) B0) B4)))))) M4)
theorem Iu  (T:Txt mg) (F__law_drawn:Fn P w K mg base "_law_drawn" 2 3 A8) (C:Cxt P w K mg base X E5 (A6 (top 26)) 3 true):DS X E0k (stm 26 6) W2 :=
 (E1 C 7 (by kernel_rfl) (D9 (C8 (C8 (L9 (P5 (A5 Ut B4))) (A4 C 5 (by kernel_rfl))) (Pk (A4 C 5 (by kernel_rfl)) (Kb (Ss B0)) Kc)) (C7 C F__law_drawn (by decide) (by kernel_rfl) (A5 (A4 C 0 (by kernel_rfl)) (A5 (C8 (A4 C 1 (by kernel_rfl)) B0) (A5 (C8 (C8 (Y4 C (by kernel_rfl) T.b_len (A5 (A4 C 5 (by kernel_rfl)) B4)) B0) (Y4 C (by kernel_rfl) T.b_len (A5 (Pk (A4 C 5 (by kernel_rfl)) (Kb (Ss B0)) Kc) B4))) B4))))))
theorem Ir  (T:Txt mg) (F__law_words:Fn P w K mg base "_law_words" 3 2 N3) (C:Cxt P w K mg base X E5 (A6 (top 26)) 3 true):DS X E0k (stm 26 7) W1 :=
 (F6 (L5 (A5 N7 (A5 (A4 C 2 (by kernel_rfl)) (A5 (A4 C 7 (by kernel_rfl)) (A5 (C7 C F__law_words (by decide) (by kernel_rfl) (A5 (A4 C 0 (by kernel_rfl)) (A5 (C8 (A4 C 1 (by kernel_rfl)) B0) B4))) B4))))))
theorem Kt  (T:Txt mg) (F__law_anchor:Fn P w K mg base "_law_anchor" 3 3 I0) (F__law_drawn:Fn P w K mg base "_law_drawn" 2 3 A8) (F__law_signs:Fn P w K mg base "_law_signs" 1 1 N4) (F__law_words:Fn P w K mg base "_law_words" 3 2 N3) (C:Cxt P w K mg base X E5 (A6 (top 26)) 3 true):DSs X E0k (B8 (top 26)) Af:=by
 have h:B8 (top 26)=[stm 26 0,stm 26 1,stm 26 2,stm 26 3,stm 26 4,stm 26 5,stm 26 6,stm 26 7]:=by kernel_rfl
 rw [h]
 exact (B3 (Ja T F__law_signs C) (B3 (Iz T F__law_drawn C) (B3 (Iy T F__law_drawn C) (B3 (Ix T F__law_anchor F__law_drawn C) (B3 (Iw T F__law_drawn C) (B3 (Iv T F__law_drawn C) (B3 (Iu T F__law_drawn C) (C1 (Ir T F__law_words C)))))))))
theorem Ol:FnScope K5 ["_law_script", "_law_at", "_law_most", "_law_names_here"] (A6 (top 27)):=⟨rfl,rfl,rfl,by decide +kernel,rfl,by decide +kernel,by decide +kernel⟩
theorem Je  (T:Txt mg) (C:Cxt P w K mg base X K5 (A6 (top 27)) 4 true):DS X E0k (stm 27 0) X2 :=
 (E1 C 4 (by kernel_rfl) (L5 B4))
theorem Jd  (T:Txt mg) (C:Cxt P w K mg base X K5 (A6 (top 27)) 4 true):DS X E0k (stm 27 1) X1 :=
 (E1 C 5 (by kernel_rfl) (L5 (A5 B0 (A5 N7 B4))))
theorem Jc  (T:Txt mg) (F__law_deed:Fn P w K mg base "_law_deed" 4 5 K3) (F__law_drawn:Fn P w K mg base "_law_drawn" 2 3 A8) (C:Cxt P w K mg base X K5 (A6 (top 27)) 4 true):DS X E0k (stm 27 2) X0 :=
 (Y1 C 6 (by kernel_rfl) (Es C (by kernel_rfl) T.b_range (A5 (C7 C F__law_drawn (by decide) (by kernel_rfl) (A5 (A4 C 0 (by kernel_rfl)) (A5 (A4 C 1 (by kernel_rfl)) (A5 (C8 (A4 C 2 (by kernel_rfl)) B0) B4)))) B4)) (B3 (E1 C 7 (by kernel_rfl) (C8 (D9 (A4 C 5 (by kernel_rfl)) B0) (C7 C F__law_drawn (by decide) (by kernel_rfl) (A5 (A4 C 0 (by kernel_rfl)) (A5 (C8 (C8 (A4 C 1 (by kernel_rfl)) B0) (Av B0 (A4 C 6 (by kernel_rfl)))) (A5 B0 B4)))))) (B3 (E1 C 8 (by kernel_rfl) (D9 N7 (C7 C F__law_drawn (by decide) (by kernel_rfl) (A5 (A4 C 0 (by kernel_rfl)) (A5 (C8 (C8 (A4 C 1 (by kernel_rfl)) B0) (Av B0 (A4 C 6 (by kernel_rfl)))) (A5 B0 B4)))))) (B3 (Bp (w_t (Gs (Tt C (A4 C 4 (by kernel_rfl)) (L5 B4)) (Br (t_le C (L5 (A5 (A4 C 7 (by kernel_rfl)) (A5 (A4 C 8 (by kernel_rfl)) B4))) (A4 C 5 (by kernel_rfl)))))) (C1 (E1 C 7 (by kernel_rfl) (C8 (D9 (A4 C 5 (by kernel_rfl)) B0) B0))) M4) (B3 (E1 C 5 (by kernel_rfl) (L5 (A5 (A4 C 7 (by kernel_rfl)) (A5 (A4 C 8 (by kernel_rfl)) B4)))) (B3 (E1 C 9 (by kernel_rfl) (Us C (by kernel_rfl) T.b_tuple (A5 (L9 (S0 C [7] ["_law_time"] (by kernel_rfl) (P4 (A4 C 4 (by kernel_rfl))) (fun X' C'=>(Fa (Xv C' (D9 (D9 (A4 C' 0 (by kernel_rfl)) B0) B0) (A4 C' 1 (by kernel_rfl))))) (fun X' C'=>(A4 C' 0 (by kernel_rfl))))) B4))) (C1 (E1 C 4 (by kernel_rfl) (C8 (A4 C 4 (by kernel_rfl)) (L5 (A5 (C7 C F__law_deed (by decide) (by kernel_rfl) (A5 (A4 C 0 (by kernel_rfl)) (A5 (C8 (C8 (A4 C 1 (by kernel_rfl)) B0) (Av B0 (A4 C 6 (by kernel_rfl)))) (A5 (A4 C 5 (by kernel_rfl)) (A5 (A4 C 9 (by kernel_rfl)) (A5 (A4 C 3 (by kernel_rfl)) B4)))))) B4)))))))))))
theorem Jb  (T:Txt mg) (C:Cxt P w K mg base X K5 (A6 (top 27)) 4 true):DS X E0k (stm 27 3) W9 :=
 (F6 (A4 C 4 (by kernel_rfl)))
theorem Kv  (T:Txt mg) (F__law_deed:Fn P w K mg base "_law_deed" 4 5 K3) (F__law_drawn:Fn P w K mg base "_law_drawn" 2 3 A8) (C:Cxt P w K mg base X K5 (A6 (top 27)) 4 true):DSs X E0k (B8 (top 27)) Ah:=by
 have h:B8 (top 27)=[stm 27 0,stm 27 1,stm 27 2,stm 27 3]:=by kernel_rfl
 rw [h]
 exact (B3 (Je T C) (B3 (Jd T C) (B3 (Jc T F__law_deed F__law_drawn C) (C1 (Jb T C)))))
theorem kO:FnScope Ey ["_law_script"] (A6 (top 28)):=⟨rfl,rfl,rfl,by decide +kernel,rfl,by decide +kernel,by decide +kernel⟩
theorem aT  (T:Txt mg) (F__law_book:Fn P w K mg base "_law_book" 5 4 U5) (F__law_names:Fn P w K mg base "_law_names" 3 2 N5) (C:Cxt P w K mg base X Ey (A6 (top 28)) 8 true):DS X E0k (stm 28 0) Qh :=
 (E1 C 1 (by kernel_rfl) (C7 C F__law_book (by decide) (by kernel_rfl) (A5 (A4 C 0 (by kernel_rfl)) (A5 B0 (A5 B0 (A5 (C7 C F__law_names (by decide) (by kernel_rfl) (A5 (A4 C 0 (by kernel_rfl)) (A5 B0 B4))) B4))))))
theorem aS  (T:Txt mg) (F_texts_of:Fn P w K mg base "texts_of" 8 1 Y3) (C:Cxt P w K mg base X Ey (A6 (top 28)) 8 true):DS X E0k (stm 28 1) Qg :=
 (E1 C 2 (by kernel_rfl) (C7 C F_texts_of (by decide) (by kernel_rfl) (A5 (A4 C 1 (by kernel_rfl)) B4)))
theorem aR  (T:Txt mg) (C:Cxt P w K mg base X Ey (A6 (top 28)) 8 true):DS X E0k (stm 28 2) Qf :=
 (E1 C 3 (by kernel_rfl) N7)
theorem aQ  (T:Txt mg) (C:Cxt P w K mg base X Ey (A6 (top 28)) 8 true):DS X E0k (stm 28 3) Qe :=
 (E1 C 4 (by kernel_rfl) B0)
theorem aP  (T:Txt mg) (F_as_of:Fn P w K mg base "as_of" 1 2 R0) (F_changed_by:Fn P w K mg base "changed_by" 1 2 F8) (F_changes_between:Fn P w K mg base "changes_between" 6 2 E4) (C:Cxt P w K mg base X Ey (A6 (top 28)) 8 true):DS X E0k (stm 28 4) Il :=
 (Y1 C 5 (by kernel_rfl) (dM C (by kernel_rfl) T.b_range (A5 B0 (A5 (Y4 C (by kernel_rfl) T.b_len (A5 (A4 C 2 (by kernel_rfl)) B4)) B4))) (B3 (E1 C 6 (by kernel_rfl) (C7 C F_changes_between (by decide) (by kernel_rfl) (A5 (C7 C F_as_of (by decide) (by kernel_rfl) (A5 (A4 C 1 (by kernel_rfl)) (A5 (jR (A4 C 5 (by kernel_rfl)) B0) B4))) (A5 (C7 C F_as_of (by decide) (by kernel_rfl) (A5 (A4 C 1 (by kernel_rfl)) (A5 (A4 C 5 (by kernel_rfl)) B4))) B4)))) (B3 (E1 C 3 (by kernel_rfl) (C7 C F_changed_by (by decide) (by kernel_rfl) (A5 (A4 C 3 (by kernel_rfl)) (A5 (A4 C 6 (by kernel_rfl)) B4)))) (B3 (Bp (Tt C (A4 C 3 (by kernel_rfl)) (D9 (A4 C 2 (by kernel_rfl)) (A4 C 5 (by kernel_rfl)))) (C1 (F6 Bf)) M4) (B3 (kQ C 7 8 9 (by kernel_rfl) (by kernel_rfl) (by kernel_rfl) (P4 (A4 C 6 (by kernel_rfl))) (C1 (E1 C 4 (by kernel_rfl) (jR (C8 (A4 C 4 (by kernel_rfl)) (Y4 C (by kernel_rfl) T.b_len (A5 (A4 C 9 (by kernel_rfl)) B4))) (Y4 C (by kernel_rfl) T.b_len (A5 (A4 C 8 (by kernel_rfl)) B4)))))) (B3 (E1 C 10 (by kernel_rfl) (Nc C (by kernel_rfl) T.b_sorted (by kernel_rfl) T.b_set (A5 (L9 (S0 C [5] ["_law_time"] (by kernel_rfl) (P4 (A4 C 1 (by kernel_rfl))) (fun X' C'=>(Fa (Lb C' (D9 (D9 (A4 C' 0 (by kernel_rfl)) B0) B0) (A4 C' 1 (by kernel_rfl))))) (fun X' C'=>(D9 (A4 C' 0 (by kernel_rfl)) B0)))) B4))) (B3 (Bp (w_t (Gs (Lb C (A4 C 10 (by kernel_rfl)) (L9 (P5 (A5 N7 B4)))) (Br (Tt C (L9 (iC C [] [] (by kernel_rfl) (P4 (A4 C 6 (by kernel_rfl))) (fun X' C'=>(Fa (Tt C' (A4 C' 2 (by kernel_rfl)) N7))) (fun X' C'=>(A4 C' 2 (by kernel_rfl))))) (L9 (P5 B4)))))) (C1 (F6 Bf)) M4) (C1 (Bp (w_t (Gs (Lb C (A4 C 10 (by kernel_rfl)) (L9 (P5 (A5 N7 B4)))) (Br (Tt C (A4 C 6 (by kernel_rfl)) (L9 (P5 B4)))))) (C1 (F6 Bf)) M4)))))))))
theorem aO  (T:Txt mg) (F_text_of:Fn P w K mg base "text_of" 6 1 K0) (C:Cxt P w K mg base X Ey (A6 (top 28)) 8 true):DS X E0k (stm 28 5) Qd :=
 (F6 (jT (mW C (A4 C 3 (by kernel_rfl)) (C7 C F_text_of (by decide) (by kernel_rfl) (A5 (A4 C 1 (by kernel_rfl)) B4))) (jS (mW C (A4 C 4 (by kernel_rfl)) (Y4 C (by kernel_rfl) T.b_len (A5 (A4 C 3 (by kernel_rfl)) B4))))))
theorem eL  (T:Txt mg) (F__law_book:Fn P w K mg base "_law_book" 5 4 U5) (F__law_names:Fn P w K mg base "_law_names" 3 2 N5) (F_as_of:Fn P w K mg base "as_of" 1 2 R0) (F_changed_by:Fn P w K mg base "changed_by" 1 2 F8) (F_changes_between:Fn P w K mg base "changes_between" 6 2 E4) (F_text_of:Fn P w K mg base "text_of" 6 1 K0) (F_texts_of:Fn P w K mg base "texts_of" 8 1 Y3) (C:Cxt P w K mg base X Ey (A6 (top 28)) 8 true):DSs X E0k (B8 (top 28)) Vo:=by
 have h:B8 (top 28)=[stm 28 0,stm 28 1,stm 28 2,stm 28 3,stm 28 4,stm 28 5]:=by kernel_rfl
 rw [h]
 exact (B3 (aT T F__law_book F__law_names C) (B3 (aS T F_texts_of C) (B3 (aR T C) (B3 (aQ T C) (B3 (aP T F_as_of F_changed_by F_changes_between C) (C1 (aO T F_text_of C)))))))
end Sm
end
noncomputable section
namespace Sm
open PySem PySem.Spec PyProof.Rows L2
theorem Ko {K:PySem.W.Frag} {mg:Str->Option Value} {h:Heap} {x:Str} {st:Stmt} {ps:List Str} {f:Addr} {oc:Value} {od an:Option Addr} {osl:Array (Option Value)} {kV doc pm cdv ct:Value} (X:K.In h) (G:h.Ns mainGlobals mg) (a:PySem.W.nsIn K mainGlobals x=some (some (.ref f)))
   (l:K.lookup f=some ⟨oc,od,.func (PySem.W.fnOf x x (J2 st) (B8 st) (A6 st) .none kV doc pm an cdv ct),osl⟩) (c:PySem.W.codeIn K cdv x=true) (k:PySem.W.keepIn K (.ref f)=true)
   (hb:∀ (kV doc pm:Value) (an:Option Addr) (cdv ct:Value) (us:List Value),us.length=ps.length->bindArgs (PySem.W.fnOf x x (J2 st) (B8 st) (A6 st) .none kV doc pm an cdv ct) ⟨us,[]⟩=pure (ps.zip us)):Def K mg x st ps :=
 ⟨f,_,dU l c k,PySem.W.mg_of X G a,(dU l c k).binds hb⟩
theorem Rx:∀ {l:List (Addr×Obj)} {a:Addr} {o:Obj},l.lookup a=some o->(a,o)∈l
 | [],_,_,h=>nomatch h
 | (b,q)::r,a,o,h=>by
   rw [List.lookup_cons] at h
   cases e:a==b with
   | true=>rw [e] at h; cases h; rw [eq_of_beq e]; exact .head _
   | false=>rw [e] at h; exact .tail _ (Rx h)
noncomputable def noList (K:PySem.W.Frag):Bool:=K.all fun p => !(match p.2.cls with | .type n=>n == "list" | _=>false)
theorem noList.out {K:PySem.W.Frag} (h:noList K=true) {a:Addr} {o:Obj} (e:K.lookup a=some o):o.cls≠.type "list" := fun z=>by
 have hm:(a,o)∈K:=Rx e
 unfold noList at h
 have:=List.all_eq_true.mp h _ hm
 rw [z] at this
 simp at this
theorem K6 {us:List Value} {n:Nat} (h:us.length=n+1):∃ a t,us=a::t/\t.length=n:=by cases us with | nil=>cases h | cons a t=>exact ⟨a,t,rfl,Nat.succ.inj h⟩
theorem P6 {K:PySem.W.Frag} {mg:Str->Option Value} {h:Heap} {x:Str} {st:Stmt} {ps:List Str} {f:Addr} {oc:Value} {od an:Option Addr} {osl:Array (Option Value)} {kV doc pm cdv ct:Value} (X:K.In h) (G:h.Ns mainGlobals mg) (a:PySem.W.nsIn K mainGlobals x=some (some (.ref f)))
   (l:K.lookup f=some ⟨oc,od,.func (PySem.W.fnOf x x (J2 st) (B8 st) (A6 st) .none kV doc pm an cdv ct),osl⟩) (c:PySem.W.codeIn K cdv x=true) (k:PySem.W.keepIn K (.ref f)=true)
   (hb:∀ (kV doc pm:Value) (an:Option Addr) (cdv ct:Value) (u0:Value),bindArgs (PySem.W.fnOf x x (J2 st) (B8 st) (A6 st) .none kV doc pm an cdv ct) ⟨[u0],[]⟩=pure (ps.zip [u0])) (hp:ps.length=1):Def K mg x st ps :=
 Ko X G a l c k fun kV doc pm an cdv ct us hl=>by
   have h0:=hl.trans hp; obtain ⟨u0,t0,rfl,h1⟩:=K6 h0
   cases List.length_eq_zero_iff.mp h1
   exact hb kV doc pm an cdv ct u0
theorem Z0 {K:PySem.W.Frag} {mg:Str->Option Value} {h:Heap} {x:Str} {st:Stmt} {ps:List Str} {f:Addr} {oc:Value} {od an:Option Addr} {osl:Array (Option Value)} {kV doc pm cdv ct:Value} (X:K.In h) (G:h.Ns mainGlobals mg) (a:PySem.W.nsIn K mainGlobals x=some (some (.ref f)))
   (l:K.lookup f=some ⟨oc,od,.func (PySem.W.fnOf x x (J2 st) (B8 st) (A6 st) .none kV doc pm an cdv ct),osl⟩) (c:PySem.W.codeIn K cdv x=true) (k:PySem.W.keepIn K (.ref f)=true)
   (hb:∀ (kV doc pm:Value) (an:Option Addr) (cdv ct:Value) (u0 u1:Value),bindArgs (PySem.W.fnOf x x (J2 st) (B8 st) (A6 st) .none kV doc pm an cdv ct) ⟨[u0,u1],[]⟩=pure (ps.zip [u0,u1])) (hp:ps.length=2):Def K mg x st ps :=
 Ko X G a l c k fun kV doc pm an cdv ct us hl=>by
   have h0:=hl.trans hp; obtain ⟨u0,t0,rfl,h1⟩:=K6 h0; obtain ⟨u1,t1,rfl,h2⟩:=K6 h1
   cases List.length_eq_zero_iff.mp h2
   exact hb kV doc pm an cdv ct u0 u1
theorem Pj {K:PySem.W.Frag} {mg:Str->Option Value} {h:Heap} {x:Str} {st:Stmt} {ps:List Str} {f:Addr} {oc:Value} {od an:Option Addr} {osl:Array (Option Value)} {kV doc pm cdv ct:Value} (X:K.In h) (G:h.Ns mainGlobals mg) (a:PySem.W.nsIn K mainGlobals x=some (some (.ref f)))
   (l:K.lookup f=some ⟨oc,od,.func (PySem.W.fnOf x x (J2 st) (B8 st) (A6 st) .none kV doc pm an cdv ct),osl⟩) (c:PySem.W.codeIn K cdv x=true) (k:PySem.W.keepIn K (.ref f)=true)
   (hb:∀ (kV doc pm:Value) (an:Option Addr) (cdv ct:Value) (u0 u1 u2:Value),bindArgs (PySem.W.fnOf x x (J2 st) (B8 st) (A6 st) .none kV doc pm an cdv ct) ⟨[u0,u1,u2],[]⟩=pure (ps.zip [u0,u1,u2])) (hp:ps.length=3):Def K mg x st ps :=
 Ko X G a l c k fun kV doc pm an cdv ct us hl=>by
   have h0:=hl.trans hp; obtain ⟨u0,t0,rfl,h1⟩:=K6 h0; obtain ⟨u1,t1,rfl,h2⟩:=K6 h1; obtain ⟨u2,t2,rfl,h3⟩:=K6 h2
   cases List.length_eq_zero_iff.mp h3
   exact hb kV doc pm an cdv ct u0 u1 u2
theorem iJ {K:PySem.W.Frag} {mg:Str->Option Value} {h:Heap} {x:Str} {st:Stmt} {ps:List Str} {f:Addr} {oc:Value} {od an:Option Addr} {osl:Array (Option Value)} {kV doc pm cdv ct:Value} (X:K.In h) (G:h.Ns mainGlobals mg) (a:PySem.W.nsIn K mainGlobals x=some (some (.ref f)))
   (l:K.lookup f=some ⟨oc,od,.func (PySem.W.fnOf x x (J2 st) (B8 st) (A6 st) .none kV doc pm an cdv ct),osl⟩) (c:PySem.W.codeIn K cdv x=true) (k:PySem.W.keepIn K (.ref f)=true)
   (hb:∀ (kV doc pm:Value) (an:Option Addr) (cdv ct:Value) (u0 u1 u2 u3:Value),bindArgs (PySem.W.fnOf x x (J2 st) (B8 st) (A6 st) .none kV doc pm an cdv ct) ⟨[u0,u1,u2,u3],[]⟩=pure (ps.zip [u0,u1,u2,u3])) (hp:ps.length=4):Def K mg x st ps :=
 Ko X G a l c k fun kV doc pm an cdv ct us hl=>by
   have h0:=hl.trans hp; obtain ⟨u0,t0,rfl,h1⟩:=K6 h0; obtain ⟨u1,t1,rfl,h2⟩:=K6 h1; obtain ⟨u2,t2,rfl,h3⟩:=K6 h2; obtain ⟨u3,t3,rfl,h4⟩:=K6 h3
   cases List.length_eq_zero_iff.mp h4
   exact hb kV doc pm an cdv ct u0 u1 u2 u3
theorem iI {K:PySem.W.Frag} {mg:Str->Option Value} {h:Heap} {x:Str} {st:Stmt} {ps:List Str} {f:Addr} {oc:Value} {od an:Option Addr} {osl:Array (Option Value)} {kV doc pm cdv ct:Value} (X:K.In h) (G:h.Ns mainGlobals mg) (a:PySem.W.nsIn K mainGlobals x=some (some (.ref f)))
   (l:K.lookup f=some ⟨oc,od,.func (PySem.W.fnOf x x (J2 st) (B8 st) (A6 st) .none kV doc pm an cdv ct),osl⟩) (c:PySem.W.codeIn K cdv x=true) (k:PySem.W.keepIn K (.ref f)=true)
   (hb:∀ (kV doc pm:Value) (an:Option Addr) (cdv ct:Value) (u0 u1 u2 u3 u4:Value),bindArgs (PySem.W.fnOf x x (J2 st) (B8 st) (A6 st) .none kV doc pm an cdv ct) ⟨[u0,u1,u2,u3,u4],[]⟩=pure (ps.zip [u0,u1,u2,u3,u4])) (hp:ps.length=5):Def K mg x st ps :=
 Ko X G a l c k fun kV doc pm an cdv ct us hl=>by
   have h0:=hl.trans hp; obtain ⟨u0,t0,rfl,h1⟩:=K6 h0; obtain ⟨u1,t1,rfl,h2⟩:=K6 h1; obtain ⟨u2,t2,rfl,h3⟩:=K6 h2; obtain ⟨u3,t3,rfl,h4⟩:=K6 h3; obtain ⟨u4,t4,rfl,h5⟩:=K6 h4
   cases List.length_eq_zero_iff.mp h5
   exact hb kV doc pm an cdv ct u0 u1 u2 u3 u4
def Defs (K:PySem.W.Frag) (mg:Str->Option Value):Prop :=
 Def K mg "law" (top 28) ["_law_script"] /\
 Def K mg "signs_added" (top 1) ["deed"] /\
 Def K mg "adds_behind" (top 3) ["book"] /\
 Def K mg "signs_of" (top 4) ["book"] /\
 Def K mg "undone_in" (top 5) ["book"] /\
 Def K mg "dropped_in" (top 6) ["book", "undone"] /\
 Def K mg "presence_in" (top 7) ["book"] /\
 Def K mg "shown_in" (top 8) ["book"] /\
 Def K mg "text_of" (top 9) ["book"] /\
 Def K mg "grown" (top 11) ["change", "sign", "there"] /\
 Def K mg "changes_between" (top 12) ["less", "more"] /\
 Def K mg "changed_by" (top 13) ["text", "changes"] /\
 Def K mg "as_of" (top 15) ["book", "time"] /\
 Def K mg "times_of" (top 16) ["book"] /\
 Def K mg "text_at" (top 17) ["book", "time"] /\
 Def K mg "texts_of" (top 18) ["book"] /\
 Def K mg "_law_cell" (top 20) ["_law_script", "_law_k"] /\
 Def K mg "_law_drawn" (top 21) ["_law_script", "_law_k", "_law_many"] /\
 Def K mg "_law_names" (top 22) ["_law_script", "_law_at"] /\
 Def K mg "_law_words" (top 23) ["_law_script", "_law_at"] /\
 Def K mg "_law_signs" (top 24) ["_law_book_here"] /\
 Def K mg "_law_anchor" (top 25) ["_law_script", "_law_at", "_law_signs_here"] /\
 Def K mg "_law_deed" (top 26) ["_law_script", "_law_at", "_law_one", "_law_known", "_law_names_here"] /\
 Def K mg "_law_book" (top 27) ["_law_script", "_law_at", "_law_most", "_law_names_here"]
noncomputable section
variable {P:Program} {w:World} {K:PySem.W.Frag} {mg:Str->Option Value} {base:Heap}
theorem mE {f:Addr} {fd:FuncData} (F:L2.Fun K "law" "law" (top 28) f fd) (T:Txt mg) (D:Defs K mg):FnOk P w K mg base CX0 9 f fd ["_law_script"] (spD 1 Wm):=by
 have D_law:=D.1
 have R1:=D.2
 have D_signs_added:=R1.1
 have R2:=R1.2
 have D_adds_behind:=R2.1
 have R3:=R2.2
 have D_signs_of:=R3.1
 have R4:=R3.2
 have D_undone_in:=R4.1
 have R5:=R4.2
 have D_dropped_in:=R5.1
 have R6:=R5.2
 have D_presence_in:=R6.1
 have R7:=R6.2
 have D_shown_in:=R7.1
 have R8:=R7.2
 have D_text_of:=R8.1
 have R9:=R8.2
 have D_grown:=R9.1
 have R10:=R9.2
 have D_changes_between:=R10.1
 have R11:=R10.2
 have D_changed_by:=R11.1
 have R12:=R11.2
 have D_as_of:=R12.1
 have R13:=R12.2
 have D_times_of:=R13.1
 have R14:=R13.2
 have D_text_at:=R14.1
 have R15:=R14.2
 have D_texts_of:=R15.1
 have R16:=R15.2
 have D__law_cell:=R16.1
 have R17:=R16.2
 have D__law_drawn:=R17.1
 have R18:=R17.2
 have D__law_names:=R18.1
 have R19:=R18.2
 have D__law_words:=R19.1
 have R20:=R19.2
 have D__law_signs:=R20.1
 have R21:=R20.2
 have D__law_anchor:=R21.1
 have R22:=R21.2
 have D__law_deed:=R22.1
 have R23:=R22.2
 have D__law_book:=R23
 have F_signs_added:Fn P w K mg base "signs_added" 1 1 E2:=Au (k:=0) D_signs_added Jl rfl (fun X C=>Gg T  C) rfl
 have F_adds_behind:FnN P w K mg base "adds_behind" 2 1 L8:=fn_N (k:=1) D_adds_behind Jn rfl (fun X C=>Gi T F_signs_added C) rfl
 have F_signs_of:Fn P w K mg base "signs_of" 3 1 Q6:=Au (k:=2) D_signs_of Qs rfl (fun X C=>Ly T F_adds_behind C) rfl
 have F_undone_in:FnN P w K mg base "undone_in" 1 1 M6:=fn_N (k:=0) D_undone_in Oh rfl (fun X C=>Ks T  C) rfl
 have F_dropped_in:FnSN P w K mg base "dropped_in" 1 2 F7:=fn_SN (k:=0) D_dropped_in Li rfl (fun X C=>Hm T  C) rfl
 have F_presence_in:Fn P w K mg base "presence_in" 4 1 F2:=Au (k:=3) D_presence_in Jm rfl (fun X C=>Gh T F_dropped_in F_signs_of F_undone_in C) rfl
 have F_shown_in:Fn P w K mg base "shown_in" 5 1 G9:=Au (k:=4) D_shown_in Qt rfl (fun X C=>Lz T F_presence_in C) rfl
 have F_text_of:Fn P w K mg base "text_of" 6 1 K0:=Au (k:=5) D_text_of Tz rfl (fun X C=>Pp T F_shown_in C) rfl
 have F_grown:Fn P w K mg base "grown" 1 3 Y8:=Au (k:=0) D_grown bB rfl (fun X C=>Uz T  C) rfl
 have F_changes_between:Fn P w K mg base "changes_between" 6 2 E4:=Au (k:=5) D_changes_between Di rfl (fun X C=>Cl T F_grown F_presence_in F_shown_in C) rfl
 have F_changed_by:Fn P w K mg base "changed_by" 1 2 F8:=Au (k:=0) D_changed_by Lj rfl (fun X C=>Hn T  C) rfl
 have F_as_of:Fn P w K mg base "as_of" 1 2 R0:=Au (k:=0) D_as_of bC rfl (fun X C=>Va T  C) rfl
 have F_times_of:Fn P w K mg base "times_of" 1 1 Bd:=Au (k:=0) D_times_of Qq rfl (fun X C=>Lw T  C) rfl
 have F_text_at:Fn P w K mg base "text_at" 7 2 Ap:=Au (k:=6) D_text_at Ua rfl (fun X C=>Ps T F_as_of F_text_of C) rfl
 have F_texts_of:Fn P w K mg base "texts_of" 8 1 Y3:=Au (k:=7) D_texts_of Qr rfl (fun X C=>Lx T F_text_at F_times_of C) rfl
 have F__law_cell:Fn P w K mg base "_law_cell" 1 2 U4:=Au (k:=0) D__law_cell Oj rfl (fun X C=>Ku T  C) rfl
 have F__law_drawn:Fn P w K mg base "_law_drawn" 2 3 A8:=Au (k:=1) D__law_drawn Ln rfl (fun X C=>Hs T F__law_cell C) rfl
 have F__law_names:Fn P w K mg base "_law_names" 3 2 N5:=Au (k:=2) D__law_names Lm rfl (fun X C=>Hr T F__law_drawn C) rfl
 have F__law_words:Fn P w K mg base "_law_words" 3 2 N3:=Au (k:=2) D__law_words Lk rfl (fun X C=>Ho T F__law_drawn C) rfl
 have F__law_signs:Fn P w K mg base "_law_signs" 1 1 N4:=Au (k:=0) D__law_signs Ll rfl (fun X C=>Hq T  C) rfl
 have F__law_anchor:Fn P w K mg base "_law_anchor" 3 3 I0:=Au (k:=2) D__law_anchor Jo rfl (fun X C=>Gj T F__law_drawn C) rfl
 have F__law_deed:Fn P w K mg base "_law_deed" 4 5 K3:=Au (k:=3) D__law_deed Oi rfl (fun X C=>Kt T F__law_anchor F__law_drawn F__law_signs F__law_words C) rfl
 have F__law_book:Fn P w K mg base "_law_book" 5 4 U5:=Au (k:=4) D__law_book Ol rfl (fun X C=>Kv T F__law_deed F__law_drawn C) rfl
 exact dW (k:=8) F kO rfl (fun X C=>eL T F__law_book F__law_names F_as_of F_changed_by F_changes_between F_text_of F_texts_of C) rfl
end
end Sm
open PySem PySem.W PyProof.Rows
theorem Sm.walkD {l:PySem.W.OpenLaw} {q:Program} {loose:List Str} {XP:(Str->Option Value)->Heap->Prop} {YP:World->Heap->Prop} {d:DefRec} {K:Params->PySem.W.Frag} (hn:l.most=some 63) (hdf:d.params.defaults=[]) (hnm:d.name = "law")
   (hY:∀ (w:World) (h:Heap),YP w h->(K w.params).In h) (hK:∀ w:World,Sm.noList (K w.params)=true)
   (F:∀ (w:World) (mg:Str->Option Value) (h:Heap),(K w.params).In h->h.Ns mainGlobals mg->Sm.Txt mg/\Sm.Defs (K w.params) mg)
   (pure:∀ ns:List Int,ns.length<=63->Sm.Wm [.list (ns.map PyData.int)]=.ok (.bool true)) :
   PySem.W.WalkO q loose XP YP l.row.toRowW d [] (fun f vs=>PySem.call f vs):=by
 refine L2.fB (n:=63) (k:=9) (x := "_law_script") (CX:=fun _=>L2.CX0) (sp:=fun _=>Sm.spD 1 Sm.Wm) hn (by decide) hdf ⟨rfl,by decide,by decide,rfl⟩ hY (fun w mg fa h KX G hmg=>?_) (fun w H a ns hl hO hS=>?_) fun _ _ _ _ _ z=>z
 . obtain ⟨T,D⟩:=F w mg h KX G
   obtain ⟨f0,fd0,F0,hm0,hb0⟩:=D.1.ex; rw [hnm,hm0] at hmg; cases hmg; refine ⟨fd0,fun s u=>?_,fun base kb nb=>?_⟩
   . obtain ⟨oc,od,kV,doc,pm,an,cdv,ct,osl,rfl,lk,hcd⟩:=F0.ex
     exact .of_eq rfl
   . exact Sm.mE F0 T D
 . rcases hS with hS | ⟨o,its,nn,hk,hc,_⟩
   . refine ⟨H,[.list (ns.map PyData.int)],.bool true,L2.Same.refl _,Sm.RepL.cons ⟨a,_,rfl,hS,Sm.RepL.ints ns⟩ rfl,rfl,pure ns hl,fun v G' H' g r=>r⟩
   . exact absurd hc (Sm.noList.out (hK w) hk)
end
noncomputable section
open PySem
namespace Sm
open L2
noncomputable def Out.seq (o:Out) (g:Dn->Out):Out:=match o with
 | .nx δ=>g δ
 | o=>o
noncomputable def Out.fin (o:Out):Res PyData:=match o with
 | .rt d=>.ok d
 | .nx _=>.ok .none
 | .exc c=>.exc c
 | _=>.no
noncomputable def jE (s:Option Sl):Res PyData:=match s with
 | some (.sh d)=>.ok d
 | _=>.no
theorem C6 {α β:Type} (a:α) (k:α->Res β):(Res.ok a).bind k=k a:=rfl
theorem cM {α:Type} (a:α):ofO (some a)=.ok a:=rfl
theorem D1 {α:Type} (a:α) (k:α->Out):K2 (.ok a) k=k a:=rfl
theorem En (g1 g2:Dn->Out) (δ:Dn):C0 g1 g2 δ=(g1 δ).seq g2:=by unfold C0 Out.seq; cases g1 δ <;> rfl
theorem Ty (δ:Dn) (g:Dn->Out):(Out.nx δ).seq g=g δ:=rfl
theorem kN (d:PyData) (g:Dn->Out):(Out.rt d).seq g=.rt d:=rfl
theorem Kl (N:List Str) (g:Dn->Out) (ds:List PyData):fnD N g ds=(g (J3 N ds)).fin:=by unfold fnD Out.fin; cases g (J3 N ds) <;> rfl
theorem mP (d:PyData):(Out.rt d).fin=.ok d:=rfl
theorem Cm (i:Nat) (δ:Dn):A3 i δ=jE δ[i]? := rfl
theorem Cc (d:PyData):jE (some (.sh d))=.ok d:=rfl
theorem kS (c:Dn->Res Bool) (g1 g2:Dn->Out) (δ:Dn):sIf c g1 g2 δ=K2 (c δ) fun b=>if b=true then g1 δ else g2 δ:=rfl
theorem jY (f g:Dn->Res PyData) (δ:Dn) (h:f δ=.ok (.bool true)):Pz f g δ=g δ:=by unfold Pz; rw [h]; rfl
theorem Xu (b:Bool):aB (.bool b)=some b:=rfl
local macro_rules
 | `(tactic| simp_arith) => `(tactic| simp_arith [C6])
 | `(tactic| simp_arith [$ls,*]) => `(tactic| simp only [$ls,*, Kl, J3, En, Ty, kN, mP, kS, C3, b2, b1, Cm, Cc, F3, E9, A9, A0, vC, C6, cM, D1, L0, D3, E8, vFn, C2, P9, An, Cf, vSl, Mb, P8, Xu,
 List.map_cons,List.map_nil,List.length_cons,List.length_nil,List.replicate,List.cons_append,List.nil_append,List.append_nil,List.getElem?_cons_zero,List.getElem?_cons_succ,List.set_cons_zero,List.set_cons_succ,Nat.reduceAdd,Nat.reduceSub,Bool.false_eq_true,reduceIte])
theorem L3 {src:Dn->Res (List PyData)} {bnd:PyData->Res (List Sl)} {cap:List Nat} {tt:Dn->Res Bool} {el:Dn->Res PyData} {δ δc:Dn} {ds ys:List PyData} (h:src δ=.ok ds) (hl:ds.length<=1000) (hc:Y6 δ cap=δc) (e:D7 bnd δc tt el ds=.ok ys):F1 src bnd cap tt el δ=.ok ys:=by
 unfold F1
 rw [h,C6,if_pos (Nat.le_trans hl (by decide)),hc,e]
theorem B9 {f g:Dn->Res PyData} {op:PyData->PyData->Option PyData} {δ:Dn} {x y d:PyData} (h1:f δ=.ok x) (h2:g δ=.ok y) (h3:op x y=some d):b2 f g op δ=.ok d:=by
 unfold b2
 rw [h1,C6,h2,C6,h3]; rfl
theorem V2 {f:Dn->Res (List PyData)} {δ:Dn} {ds:List PyData} (h:f δ=.ok ds):F3 f δ=.ok (.list ds):=by unfold F3; rw [h]; rfl
theorem D6 {i:Nat} {f:Dn->Res PyData} {δ:Dn} {d:PyData} (h:f δ=.ok d):D3 i f δ=.nx (δ.set i (.sh d)):=by unfold D3; rw [h]; rfl
theorem Y2 {c:Dn->Res Bool} {g1 g2:Dn->Out} {δ:Dn} (h:c δ=.ok true):sIf c g1 g2 δ=g1 δ:=by unfold sIf; rw [h]; rfl
theorem U1 {c:Dn->Res Bool} {g1 g2:Dn->Out} {δ:Dn} (h:c δ=.ok false):sIf c g1 g2 δ=g2 δ:=by unfold sIf; rw [h]; rfl
theorem B5 {g1 g2:Dn->Out} {δ δ':Dn} (h:g1 δ=.nx δ'):C0 g1 g2 δ=g2 δ':=by unfold C0; rw [h]
theorem Em {g1 g2:Dn->Out} {δ:Dn} {d:PyData} (h:g1 δ=.rt d):C0 g1 g2 δ=.rt d:=by unfold C0; rw [h]
theorem N2 {f:Dn->Res PyData} {δ:Dn} {d:PyData} (h:f δ=.ok d):L0 f δ=.rt d:=by unfold L0; rw [h]; rfl
theorem Ar {N:List Str} {g:Dn->Out} {ds:List PyData} {d:PyData} (h:g (J3 N ds)=.rt d):fnD N g ds=.ok d:=by rw [Kl,h]; rfl
theorem A7 {f:Dn->Res PyData} {fs:Dn->Res (List PyData)} {δ:Dn} {d:PyData} {ds:List PyData} (h:f δ=.ok d) (h2:fs δ=.ok ds):A0 f fs δ=.ok (d::ds):=by unfold A0; rw [h,C6,h2]; rfl
theorem D2 {fs:Dn->Res (List PyData)} {m:List PyData->Res PyData} {δ:Dn} {ds:List PyData} {r:Res PyData} (h:fs δ=.ok ds) (h2:m ds=r):C2 fs m δ=r:=by unfold C2; rw [h,C6,h2]
theorem O9 {f:Dn->Res (List PyData)} {δ:Dn} {ds:List PyData} (h:f δ=.ok ds):E9 f δ=.ok (.tuple ds):=by unfold E9; rw [h]; rfl
theorem Q3 {f:Dn->Res (List PyData)} {op:List PyData->Option PyData} {δ:Dn} {ds:List PyData} {d:PyData} (h:f δ=.ok ds) (h2:op ds=some d):vFn f op δ=.ok d:=by unfold vFn; rw [h,C6,h2]; rfl
theorem C5 {f:Dn->Res PyData} {δ:Dn} {b:Bool} (h:f δ=.ok (.bool b)):C3 f δ=.ok b:=by unfold C3; rw [h]; rfl
abbrev scr (ns:List Int):PyData:=.list (ns.map .int)
theorem hX {n j:Nat} (h:j < n):ixN n (j:Int)=some j:=by
 unfold ixN
 rw [if_pos (by omega)]
 simp [h]
theorem M0 {α:Type} {xs:List α} {j:Nat} (h:j < xs.length):atI xs (j:Int)=some xs[j]:=by
 unfold atI
 rw [hX h]
 simp
theorem Hy {α:Type} {xs:List α} {i:Int} (h0:0<=i) (h:i < xs.length):∃ x∈xs,atI xs i=some x:=by
 obtain ⟨j,rfl⟩:=Int.eq_ofNat_of_zero_le h0
 have hj:j < xs.length:=by omega
 exact ⟨xs[j],List.getElem_mem _,M0 hj⟩
theorem iD (ns:List Int):PyData.eqv (scr ns) (.list [])=ns.isEmpty:=by
 cases ns with
 | nil=>rfl
 | cons n ns=>rfl
theorem Ww (ns:List Int):dEq (scr ns) (.list [])=some (.bool ns.isEmpty):=by
 unfold dEq
 rw [if_pos (Nat.le_trans (Nat.min_le_right _ _) (by decide)),iD]
theorem Rv {a b:Int} (h:(-(2 ^ 64) < a/\a < 2 ^ 64)\/(-(2 ^ 64) < b/\b < 2 ^ 64)):M8 (.int a) (.int b)=some (.int (a*b)):=by
 show (if _ then _ else _)=_
 rw [if_pos h]
theorem mul7 {b:Int}:M8 (.int 7) (.int b)=some (.int (7*b)):=Rv (.inl ⟨by decide,by decide⟩)
theorem gZ {b:Int}:M8 (.int 6553) (.int b)=some (.int (6553*b)):=Rv (.inl ⟨by decide,by decide⟩)
theorem Yo {b:Int}:M8 (.int 104723) (.int b)=some (.int (104723*b)):=Rv (.inl ⟨by decide,by decide⟩)
theorem cV {b:Int}:M8 (.int b) (.int 69069)=some (.int (b*69069)):=Rv (.inr ⟨by decide,by decide⟩)
theorem mul2 {b:Int}:M8 (.int 2) (.int b)=some (.int (2*b)):=Rv (.inl ⟨by decide,by decide⟩)
theorem cX {b:Int}:M8 (.int 60) (.int b)=some (.int (60*b)):=Rv (.inl ⟨by decide,by decide⟩)
theorem cY {a b:Int} (h:0 < b):Lv (.int a) (.int b)=some (.int (a % b)):=by
 show (if _ then _ else _)=_
 rw [if_pos h]
theorem iG {a b:Int} (h:0 < b) (h2:b < 1073741824):Hb (.int a) (.int b)=some (.int (a / b)):=by
 show (if _ then _ else _)=_
 rw [if_pos ⟨h,h2⟩]
theorem Q1 {a b:Int}:C4 (.int a) (.int b)=some (.int (a+b)):=rfl
theorem iQ (ns:List Int) (hns:ns.length<=63) (k:Int):∃ c,U4 [scr ns,.int k]=.ok (.int c):=by
 unfold U4 Ag Z5
 cases hn:ns with
 | nil =>
   refine ⟨7*k,?_⟩
   simp_arith [Ww,List.isEmpty_nil,mul7]
 | cons n r =>
   have e1:=Ww (n::r); have hl:(0:Int) < ((n::r).length:Int):=by simp
   have hl2:((n::r).length:Int)<=63:=by rw [<- hn]; omega
   obtain ⟨x,hx,e2⟩:=Hy (xs:=(n::r).map PyData.int) (i:=k % ((n::r).length:Int)) (Int.emod_nonneg _ (by omega)) (by rw [List.length_map]; exact Int.emod_lt_of_pos _ hl)
   obtain ⟨c,_,rfl⟩:=List.mem_map.mp hx; refine ⟨c+6553*(k / ((n::r).length:Int)),?_⟩; have e3:L6 [scr (n::r)]=some (.int ((n::r).length:Int)):=by simp [L6,scr]
   have e4:dIx (scr (n::r)) (.int (k % ((n::r).length:Int)))=some (.int c):=e2
   generalize hS:scr (n::r)=S at *
   generalize hL:((n::r).length:Int)=m at *
   simp_arith [e1,List.isEmpty_cons,e3,cY hl,iG hl (show m < 1073741824 by omega),gZ,e4,Q1]
theorem F4 (ns:List Int) (hns:ns.length<=63) (k m:Int) (hm:0 < m):∃ r,A8 [scr ns,.int k,.int m]=.ok (.int r)/\0<=r/\r < m:=by
 obtain ⟨c,hc⟩:=iQ ns hns k
 unfold A8 Y0 V8
 generalize scr ns=S at *
 simp_arith [hc,cY (show (0:Int) < 2147483563 by decide),Q1,cV,Yo]
 generalize hA:(c % 2147483563*69069+104723*(k+1)) % 2147483563=A
 have a0:0<=A:=by rw [<- hA]; exact Int.emod_nonneg _ (by decide)
 have a1:A < 2147483563:=by rw [<- hA]; exact Int.emod_lt_of_pos _ (by decide)
 simp_arith [Rv (a:=A) (b:=A) (.inl ⟨Int.lt_of_lt_of_le (by decide) a0,Int.lt_trans a1 (by decide)⟩),iG (show (0:Int) < 3 by decide) (by decide),Q1,cY (show (0:Int) < 2147483399 by decide)]
 generalize hB:(A*A+A / 3) % 2147483399=B
 have b0:0<=B:=by rw [<- hB]; exact Int.emod_nonneg _ (by decide)
 have b1:B < 2147483399:=by rw [<- hB]; exact Int.emod_lt_of_pos _ (by decide)
 simp_arith [Rv (a:=B) (b:=B) (.inl ⟨Int.lt_of_lt_of_le (by decide) b0,Int.lt_trans b1 (by decide)⟩),iG (show (0:Int) < 7 by decide) (by decide),Q1,cY (show (0:Int) < 2147483647 by decide),iG (show (0:Int) < 11 by decide) (by decide),cY hm]
 exact ⟨_,rfl,Int.emod_nonneg _ (by omega),Int.emod_lt_of_pos _ hm⟩
theorem dF {x:Str} {i:Int} (h0:0<=i) (h:i < (x.cps.toList.length:Int)):∃ c∈x.cps.toList,dIx (.str x) (.int i)=some (.str ⟨#[c]⟩):=by
 obtain ⟨c,hc,e⟩:=Hy (xs:=x.cps.toList) h0 h
 exact ⟨c,hc,by show (atI x.cps.toList i).map _=_; rw [e]; rfl⟩
theorem Ul (c:Nat):(⟨#[c]⟩:Str).length=1:=rfl
theorem Gw:(1000:Nat)<=sizeLine:=by decide
theorem nB {x y:Str} (h:x.length+y.length<=1000):C4 (.str x) (.str y)=some (.str (x++y)):=by
 show (if _ then _ else _)=_
 rw [if_pos (Nat.le_trans h Gw)]
theorem Zr {x y:List PyData} (h:x.length+y.length<=1000):C4 (.list x) (.list y)=some (.list (x++y)):=by
 show (if _ then _ else _)=_
 rw [if_pos (Nat.le_trans h Gw)]
theorem addT {x y:List PyData} (h:x.length+y.length<=1000):C4 (.tuple x) (.tuple y)=some (.tuple (x++y)):=by
 show (if _ then _ else _)=_
 rw [if_pos (Nat.le_trans h Gw)]
theorem L7 (x y:Str):(x++y).length=x.length+y.length:=by
 show (x.cps++y.cps).size=_
 rw [Array.size_append]; rfl
def chOk (lo hi:Nat) (x:Str):Prop:=∀ c∈x.cps.toList,lo<=c/\c<=hi
theorem chOk.app {lo hi:Nat} {x y:Str} (hx:chOk lo hi x) (hy:chOk lo hi y):chOk lo hi (x++y):=fun c hc=>by
 have:c∈(x.cps++y.cps).toList:=hc
 rw [Array.toList_append] at this
 exact (List.mem_append.mp this).elim (hx c) (hy c)
theorem chOk.one {lo hi c:Nat} (h:lo<=c/\c<=hi):chOk lo hi ⟨#[c]⟩:=fun d hd=>by
 have:d=c:=by simpa using hd
 rw [this]; exact h
theorem chOk.nil {lo hi:Nat}:chOk lo hi "" := fun c hc=>by
 rw [show ("" : Str).cps.toList=[] from rfl] at hc; exact nomatch hc
theorem mulS {c:Nat} {n:Int} (h0:0<=n) (h:n < 2):∃ y:Str,M8 (.str ⟨#[c]⟩) (.int n)=some (.str y)/\y.length<=1/\∀ d∈y.cps.toList,d=c:=by
 have:n=0\/n=1:=by omega
 rcases this with rfl | rfl
 . refine ⟨G6 0 ⟨#[c]⟩,rfl,(show (0:Nat)<=1 by decide),fun d hd=>?_⟩
   simp [G6] at hd
 . refine ⟨G6 1 ⟨#[c]⟩,rfl,by unfold G6; simp; exact Nat.le_refl _,fun d hd=>?_⟩
   simpa [G6] using hd
def Ao (x:Str):Prop:=1<=x.length/\x.length<=6/\chOk 97 122 x
def Tj (x:Str):Prop:=1<=x.length/\x.length<=4/\chOk 32 126 x
theorem ixL {xs:List PyData} {i:Int} (h0:0<=i) (h:i < (xs.length:Int)):∃ x∈xs,dIx (.list xs) (.int i)=some x:=Hy h0 h
theorem Dl (ns:List Int) (hns:ns.length<=63) (a k:Int) (hk:0<=k) (hk2:k < 3) (fd:List PyData) (hf:fd.length < 1000) (s4:Sl):∃ z w:Str,Ao z /\
   (C0 (D3 4 (b2 (b2 (vC (.str "abcdefghijklmnopqrstuvwxyz")) (C2 (A0 (A3 0) (A0 (b2 (A3 1) (b2 (vC (.int 2)) (A3 3) M8) C4) (A0 (vC (.int 26)) A9))) A8) dIx) (C2 (A0 (A3 0) (A0 (b2 (b2 (A3 1) (b2 (vC (.int 2)) (A3 3) M8) C4) (vC (.int 1)) C4) (A0 (vC (.int 2)) A9))) A8) M8)) (Y5 2 (b2 (F3 (A0 (b2 (A3 4) (b2 (vC (.str "xyz")) (A3 3) dIx) C4) (A0 (b2 (b2 (vC (.str "xyz")) (A3 3) dIx) (A3 4) C4) A9))) (C2 (A0 (A3 0) (A0 (b2 (A3 1) (vC (.int 6)) C4) (A0 (vC (.int 2)) A9))) A8) dIx)))
     [.sh (scr ns),.sh (.int a),.ow (.list fd),.sh (.int k),s4]=.nx [.sh (scr ns),.sh (.int a),.ow (.list (fd++[.str z])),.sh (.int k),.sh (.str w)]:=by
 obtain ⟨r1,e1,a1,b1⟩:=F4 ns hns (a+2*k) 26 (by decide)
 obtain ⟨r2,e2,a2,b2'⟩:=F4 ns hns (a+2*k+1) 2 (by decide)
 obtain ⟨r3,e3,a3,b3⟩:=F4 ns hns (a+6) 2 (by decide)
 obtain ⟨c1,hc1,f1⟩:=dF (x := "abcdefghijklmnopqrstuvwxyz") a1 (by rw [show ("abcdefghijklmnopqrstuvwxyz" : Str).cps.toList.length=26 from by decide]; exact b1)
 obtain ⟨y,f2,l2,hy⟩:=mulS (c:=c1) a2 b2'
 obtain ⟨c2,hc2,f3⟩:=dF (x := "xyz") hk (by rw [show ("xyz" : Str).cps.toList.length=3 from by decide]; exact hk2)
 have g1:C4 (.str y) (.str ⟨#[c2]⟩)=_:=nB (x:=y) (y:=⟨#[c2]⟩) (by rw [Ul]; omega)
 have g2:C4 (.str ⟨#[c2]⟩) (.str y)=_:=nB (x:=⟨#[c2]⟩) (y:=y) (by rw [Ul]; omega)
 obtain ⟨x,hx,f4⟩:=ixL (xs:=[.str (y++⟨#[c2]⟩),.str (⟨#[c2]⟩++y)]) a3 b3
 have o1:chOk 97 122 y:=fun d hd=>by
   rw [hy d hd]; exact (by decide:∀ c∈("abcdefghijklmnopqrstuvwxyz" : Str).cps.toList,97<=c/\c<=122) c1 hc1
 have o2:chOk 97 122 ⟨#[c2]⟩:=.one ((by decide:∀ c∈("xyz" : Str).cps.toList,97<=c/\c<=122) c2 hc2)
 have:∃ z,x=.str z/\Ao z:=by
   rcases List.mem_cons.mp hx with h | h
   . exact ⟨_,h,by rw [L7,Ul]; omega,by rw [L7,Ul]; omega,o1.app o2⟩
   . exact ⟨_,List.mem_singleton.mp h,by rw [L7,Ul]; omega,by rw [L7,Ul]; omega,o2.app o1⟩
 obtain ⟨z,rfl,hz⟩:=this
 refine ⟨z,y,hz,?_⟩
 have szB:fd.length < sizeLine:=Nat.lt_of_lt_of_le hf Gw
 simp_arith [mul2,Q1,e1,e2,e3,f1,f2,f3,g1,g2,f4,Y5,szB]
theorem cR (ns:List Int) (hns:ns.length<=63) (a:Int):∃ x y z:Str,(Ao x/\Ao y/\Ao z)/\N5 [scr ns,.int a]=.ok (.list [.str x,.str y,.str z]):=by
 obtain ⟨x,w1,hx,e1⟩:=Dl ns hns a 0 (by decide) (by decide) [] (by simp) .un
 obtain ⟨y,w2,hy,e2⟩:=Dl ns hns a 1 (by decide) (by decide) [.str x] (by simp) (.sh (.str w1))
 obtain ⟨z,w3,hz,e3⟩:=Dl ns hns a 2 (by decide) (by decide) [.str x,.str y] (by simp) (.sh (.str w2))
 refine ⟨x,y,z,⟨hx,hy,hz⟩,?_⟩
 unfold N5 X9 U8 U7 U6 K8
 have r:Fi [.int 3]=.ok [.int 0,.int 1,.int 2]:=rfl
 simp only [Kl,J3,En (Hj _ _),Hj,A9,D1,Ty,List.map_cons,List.map_nil,List.length_cons,List.length_nil,List.replicate,List.cons_append,List.nil_append,List.set_cons_zero,List.set_cons_succ,En (N9 _ _ _),N9,A0,vC,C6,r,E6,st1,Nat.reduceAdd,Nat.reduceSub]
 rw [e1]
 simp only [List.nil_append,List.set_cons_zero,List.set_cons_succ]
 rw [e2]
 simp only [List.cons_append,List.nil_append,List.set_cons_zero,List.set_cons_succ]
 rw [e3]
 rfl
theorem Sy {bnd:PyData->Res (List Sl)} {δc:Dn} {el:Dn->Res PyData} {P:PyData->Prop}:∀ (ds:List PyData),(∀ d∈ds,∃ sl y,bnd d=.ok sl/\el (sl++δc)=.ok y/\P y)->∃ ys:List PyData,D7 bnd δc P8 el ds=.ok ys/\ys.length=ds.length/\∀ y∈ys,P y
 | [],_=>⟨[],rfl,rfl,fun _ h=>nomatch h⟩
 | d::ds,h=>by
   obtain ⟨sl,y,e1,e2,p⟩:=h d (.head _); obtain ⟨ys,e3,e4,e5⟩:=Sy ds fun d' h'=>h d' (.tail _ h')
   refine ⟨y::ys,?_,by simp [e4],fun z hz=>?_⟩
   . unfold D7
     rw [e1]; simp only [P8,e2,e3]
   . rcases List.mem_cons.mp hz with rfl | hz
     . exact p
     . exact e5 z hz
theorem Vl {P:Str->Prop}:∀ (ys:List PyData),(∀ y∈ys,∃ x,y=.str x/\P x)->∃ xs:List Str,Ay ys=some xs/\xs.length=ys.length/\∀ x∈xs,P x
 | [],_=>⟨[],rfl,rfl,fun _ h=>nomatch h⟩
 | y::ys,h=>by
   obtain ⟨x,rfl,p⟩:=h y (.head _); obtain ⟨xs,e1,e2,e3⟩:=Vl ys fun d' h'=>h d' (.tail _ h')
   exact ⟨x::xs,by show (Ay ys).map _=_; rw [e1]; rfl,by simp [e2],fun z hz=>by
     rcases List.mem_cons.mp hz with rfl | hz
     . exact p
     . exact e3 z hz⟩
theorem Fx:∀ (xs:List Str),(∀ x∈xs,x.length=1/\PyData.strOk x=true/\chOk 32 126 x)->(Str.join "" xs).length=xs.length/\PyData.strOk (Str.join "" xs)=true/\chOk 32 126 (Str.join "" xs)
 | [],_=>⟨rfl,by decide +kernel,chOk.nil⟩
 | [x],h=>⟨(h x (.head _)).1,(h x (.head _)).2.1,(h x (.head _)).2.2⟩
 | x::y::r,h=>by
   obtain ⟨l,o,q⟩:=Fx (y::r) fun z hz=>h z (.tail _ hz)
   obtain ⟨l1,o1,q1⟩:=h x (.head _); show (x ++ "" ++ Str.join "" (y::r)).length=_/\PyData.strOk (x ++ "" ++ Str.join "" (y::r))=true/\chOk 32 126 (x ++ "" ++ Str.join "" (y::r))
   refine ⟨?_,Az (Az o1 (by decide +kernel)) o,(q1.app chOk.nil).app q⟩
   rw [L7,L7]; have:(("" : Str)).length=0:=rfl; simp only [List.length_cons] at l ⊢
   omega
theorem Im:∀ (xs:List Str),(∀ x∈xs,x.length=1/\PyData.strOk x=true/\chOk 32 126 x)->(xs.map (·.length)).sum=xs.length
 | [],_=>rfl
 | x::r,h=>by
   simp only [List.map_cons,List.sum_cons,List.length_cons,(h x (.head _)).1,Im r fun z hz=>h z (.tail _ hz)]
   omega
theorem bK {n:Int} (h0:0<=n) (h:n < 1000):Fi [.int n]=.ok (P3 0 n):=by
 show (if _ then _ else _)=_
 rw [if_pos (by omega)]
theorem Vm {fs:Dn->Res (List PyData)} {δ:Dn} {n:Int} (h:fs δ=.ok [.int n]) (h0:0<=n) (h1:n < 1000):(fun δ=>(fs δ).bind Fi) δ=.ok (P3 0 n):=by
 show (fs δ).bind Fi=_
 rw [h,C6,bK h0 h1]
theorem I9 {f:Dn->Res PyData} {δ:Dn} {d:PyData} {ds:List PyData} (h:f δ=.ok d) (h2:E3 d=.ok ds):(fun δ=>(f δ).bind E3) δ=.ok ds:=by
 show (f δ).bind E3=_
 rw [h,C6,h2]
theorem Zs (ns:List Int) (hns:ns.length<=63) (a:Int):∃ x:Str,N3 [scr ns,.int a]=.ok (.str x)/\Tj x:=by
 obtain ⟨r1,e1,a1,b1⟩:=F4 ns hns (a+4) 4 (by decide)
 unfold N3 X7 V6
 have hr:Fi [.int (1+r1)]=.ok (P3 0 (1+r1)):=bK (by omega) (by omega)
 have hlen:(P3 0 (1+r1)).length<=4/\1<=(P3 0 (1+r1)).length:=by unfold P3; simp; omega
 have hall:∀ d∈P3 0 (1+r1),∃ sl y,F5 d=.ok sl/\(b2 (vC (.str "ab cd~ <")) (C2 (A0 (A3 1) (A0 (b2 (A3 2) (A3 0) C4) (A0 (vC (.int 8)) A9))) A8) dIx) (sl++[.sh (scr ns),.sh (.int a)])=.ok y/\∃ x:Str,y=.str x/\x.length=1/\PyData.strOk x=true/\chOk 32 126 x:=fun d hd=>by
   unfold P3 at hd; obtain ⟨i,hi,rfl⟩:=List.mem_map.mp hd; have hi':i < 4:=by have:=List.mem_range.mp hi; omega
   obtain ⟨r2,e2,a2,b2'⟩:=F4 ns hns (a+(0+(i:Int))) 8 (by decide)
   obtain ⟨c,hc,f⟩:=dF (x := "ab cd~ <") a2 (by have:("ab cd~ <" : Str).cps.toList.length=8:=(by decide); rw [this]; exact b2')
   refine ⟨[.sh (.int (0+(i:Int)))],.str ⟨#[c]⟩,rfl,?_,⟨#[c]⟩,rfl,rfl,?_,.one ((by decide:∀ c∈("ab cd~ <" : Str).cps.toList,32<=c/\c<=126) c hc)⟩
   . simp_arith [Q1,e2,f]
   . have:∀ c∈("ab cd~ <" : Str).cps.toList,c < 0x110000:=by decide
     unfold PyData.strOk; simp [this c hc]
 obtain ⟨ys,g1,g2,g3⟩:=Sy (P3 0 (1+r1)) hall
 obtain ⟨xs,g4,g5,g6⟩:=Vl ys g3
 obtain ⟨l1,o1,q1⟩:=Fx xs g6
 have s1:=Im xs g6
 refine ⟨Str.join "" xs,?_,by omega,by omega,q1⟩
 have hj:Nf "" (.list ys)=some (.str (Str.join "" xs)):=by
   show (Ay ys).bind _=_
   rw [g4]; show (if _ then _ else _)=_
   have:(("" : Str)).length=0:=rfl; rw [if_pos ⟨by rw [s1,this]; omega,o1,Nat.le_trans (show _<=1000 by omega) Gw⟩]
 have hz:(P3 0 (1+r1)).length<=sizeLine:=Nat.le_trans (show _<=1000 by omega) Gw
 simp_arith [Q1,e1,hr,F1,hz,Y6,Option.getD_some,g1,hj]
abbrev idD (t:Int) (h:Str):PyData:=.tuple [.int t,.str h]
abbrev IdP:=Int×Str
abbrev idP (p:IdP):PyData:=idD p.1 p.2
abbrev sgD (p:IdP) (n:Int):PyData:=.tuple [idP p,.int n]
noncomputable def hj (h:Str):Nat:=if h = "a" then 0 else if h = "b" then 1 else 2
noncomputable def key (p:IdP):Int:=3*p.1+hj p.2
def okH (h:Str):Prop:=h = "a" \/ h = "b" \/ h = "c"
def okI (p:IdP):Prop:=1<=p.1/\p.1<=10/\okH p.2
theorem Sg (h:Str):hj h<=2:=by unfold hj; split <;> (try split) <;> omega
def SgOf (T:Int) (ds:List PyData) (x:PyData):Prop:=∃ (p:IdP) (b:PyData) (w:Str) (n:Nat),PyData.tuple [.str "add",idP p,b,.str w]∈ds/\x=sgD p n/\n < w.length/\p.1 < T/\okI p
theorem SgOf.mono {T:Int} {ds ds':List PyData} {x:PyData} (h:SgOf T ds x) (k:∀ d∈ds,d∈ds'):SgOf T ds' x:=by
 obtain ⟨p,b,w,n,e,r⟩:=h; exact ⟨p,b,w,n,k _ e,r⟩
def sgR (a b:PyData):Prop:=∃ (p q:IdP) (n m:Int),a=sgD p n/\b=sgD q m/\okH p.2/\okH q.2/\(key p < key q\/(p=q/\n < m))
def OrN (S:PyData->Prop) (d:PyData):Prop:=d=.none\/S d
def mC (x:Str):Prop:=x = "l" \/ x = "r"
def Wf (p:IdP) (S:PyData->Prop) (U:IdP->Prop) (d:PyData):Prop:=okI p /\
 ((∃ b w,d=.tuple [.str "add",idP p,b,.str w]/\OrN S b/\Tj w) \/
  (∃ sg,d=.tuple [.str "drop",idP p,.tuple sg]/\(∀ x∈sg,S x)/\sg.length<=40/\sg≠[]/\sg.Pairwise sgR) \/
  (∃ n s1 x1 s2 x2,d=.tuple [.str "mark",idP p,.str n,.tuple [s1,.str x1],.tuple [s2,.str x2]]/\OrN S s1/\OrN S s2/\Ao n/\mC x1/\mC x2) \/
  (∃ n,d=.tuple [.str "unmark",idP p,.str n]/\Ao n) \/
  (∃ q,d=.tuple [.str "undo",idP p,idP q]/\U q))
theorem OrN.mono {S S':PyData->Prop} {d:PyData} (h:OrN S d) (k:∀ x,S x->S' x):OrN S' d:=h.elim .inl fun z=>.inr (k _ z)
theorem Wf.mono {p:IdP} {S S':PyData->Prop} {U U':IdP->Prop} {d:PyData} (h:Wf p S U d) (k2:∀ x,S x->S' x) (k3:∀ q,U q->U' q):Wf p S' U' d:=by
 obtain ⟨o,r⟩:=h
 refine ⟨o,?_⟩
 rcases r with ⟨b,w,e,hb,hw⟩ | ⟨sg,e,hs,hl⟩ | ⟨n,s1,x1,s2,x2,e,h1,h2,h3⟩ | ⟨n,e⟩ | ⟨i,e,hi⟩
 . exact .inl ⟨b,w,e,hb.mono k2,hw⟩
 . exact .inr (.inl ⟨sg,e,fun x hx=>k2 x (hs x hx),hl⟩)
 . exact .inr (.inr (.inl ⟨n,s1,x1,s2,x2,e,h1.mono k2,h2.mono k2,h3⟩))
 . exact .inr (.inr (.inr (.inl ⟨n,e⟩)))
 . exact .inr (.inr (.inr (.inr ⟨i,e,k3 _ hi⟩)))
theorem Hl (x y:Str):dEq (.str x) (.str y)=some (.bool (x==y)):=by
 unfold dEq
 rw [if_pos (Nat.le_trans (Nat.min_le_left _ _) (by simp [PyData.depth]))]
 rfl
theorem jV:(("add" : Str)==("add" : Str))=true:=by decide +kernel
noncomputable def Nm:Dn->Out:=(sIf (C3 (b2 (b2 (A3 2) (vC (.int 0)) dIx) (vC (.str "add")) dEq)) (D3 1 (b2 (A3 1) (F3 (F1 (fun δ=>((A0 (vFn (A0 (b2 (A3 2) (vC (.int 3)) dIx) A9) L6) A9) δ).bind Fi) F5 [2] P8 (E9 (A0 (b2 (A3 1) (vC (.int 1)) dIx) (A0 (A3 0) A9))))) C4)) E8)
theorem Ck {α:Type} {δc:Dn} {el:Dn->Res PyData} (g f:α->PyData) (h:∀ y:α,el ([.sh (g y)]++δc)=.ok (f y)):∀ ys:List α,D7 F5 δc P8 el (ys.map g)=.ok (ys.map f)
 | []=>rfl
 | y::ys=>by
   rw [List.map_cons,List.map_cons]; unfold D7; simp only [F5,P8,h y,Ck g f h ys]
theorem Tx {p:IdP} {S:PyData->Prop} {U:IdP->Prop} {T:Int} {d:PyData} (hd:Wf p S U d) (hT:p.1 < T) (B:PyData) (fd:List PyData) (hf:fd.length<=100):∃ more:List PyData,more.length<=4/\(∀ x∈more,SgOf T [d] x)/\(∀ x∈more,∃ n,x=sgD p n)/\more.Pairwise sgR /\
   Nm [.sh B,.sh (.list fd),.sh d]=.nx [.sh B,.sh (.list (fd++more)),.sh d]:=by
 obtain ⟨o,r⟩:=hd
 have ix0:∀ (x:PyData) (xs:List PyData),dIx (.tuple (x::xs)) (.int 0)=some x:=fun x xs=>M0 (xs:=x::xs) (j:=0) (by simp)
 have ix1:∀ (x y:PyData) (xs:List PyData),dIx (.tuple (x::y::xs)) (.int 1)=some y:=fun x y xs=>M0 (xs:=x::y::xs) (j:=1) (by simp)
 have ix3:∀ (x y z u:PyData),dIx (.tuple [x,y,z,u]) (.int 3)=some u:=fun x y z u=>M0 (xs:=[x,y,z,u]) (j:=3) (by simp)
 have no:∀ d,(C3 (b2 (b2 (A3 2) (vC (.int 0)) dIx) (vC (.str "add")) dEq)) [.sh B,.sh (.list fd),.sh d]=.ok false->∃ more:List PyData,more.length<=4/\(∀ x∈more,SgOf T [d] x)/\(∀ x∈more,∃ n,x=sgD p n)/\more.Pairwise sgR/\Nm [.sh B,.sh (.list fd),.sh d]=.nx [.sh B,.sh (.list (fd++more)),.sh d]:=fun d e=>by
   refine ⟨[],by simp,(fun _ h=>nomatch h),(fun _ h=>nomatch h),.nil,?_⟩
   unfold Nm; rw [U1 e,List.append_nil]; rfl
 rcases r with ⟨b,w,rfl,hb,hw⟩ | ⟨sg,rfl,_⟩ | ⟨n,s1,x1,s2,x2,rfl,_⟩ | ⟨n,rfl,_⟩ | ⟨i,rfl,_⟩
 . have er:P3 0 (w.length:Int)=(List.range w.length).map fun i:Nat=>PyData.int (0+(i:Int)):=by unfold P3; simp
   have g1:=Ck (δc:=[.sh (.tuple [.str "add",idP p,b,.str w])]) (el:=E9 (A0 (b2 (A3 1) (vC (.int 1)) dIx) (A0 (A3 0) A9))) (fun i:Nat=>PyData.int (0+(i:Int))) (fun i=>sgD p (0+(i:Int))) (fun i=>by simp_arith [ix1]) (List.range w.length)
   have hl:=hw.2.1; refine ⟨(List.range w.length).map fun i:Nat=>sgD p (0+(i:Int)),by simp; exact hl,fun x hx=>?_,fun x hx=>?_,?_,?_⟩
   . obtain ⟨i,hi,rfl⟩:=List.mem_map.mp hx
     exact ⟨p,b,w,i,.head _,by rw [Int.zero_add],List.mem_range.mp hi,hT,o⟩
   . obtain ⟨i,hi,rfl⟩:=List.mem_map.mp hx
     exact ⟨_,rfl⟩
   . rw [List.pairwise_map]
     exact (List.pairwise_lt_range).imp fun {a b} h=>⟨p,p,_,_,rfl,rfl,o.2.2,o.2.2,.inr ⟨rfl,by omega⟩⟩
   . have ha:C4 (.list fd) (.list ((List.range w.length).map fun i:Nat=>sgD p (0+(i:Int))))=_:=Zr (by simp; omega)
     have e1:L6 [.str w]=some (.int (w.length:Int)):=rfl; unfold Nm; rw [Y2 (by simp_arith [ix0,Hl,jV])]
     refine D6 (B9 rfl (V2 (L3 (ds:=P3 0 (w.length:Int)) (Vm (by simp_arith [ix3,e1]) (by omega) (by omega)) (by rw [er]; simp; omega) rfl (by rw [er]; exact g1))) ha)
 . exact no _ (by simp_arith [ix0,Hl,show (("drop" : Str)==("add" : Str))=false from by decide +kernel])
 . exact no _ (by simp_arith [ix0,Hl,show (("mark" : Str)==("add" : Str))=false from by decide +kernel])
 . exact no _ (by simp_arith [ix0,Hl,show (("unmark" : Str)==("add" : Str))=false from by decide +kernel])
 . exact no _ (by simp_arith [ix0,Hl,show (("undo" : Str)==("add" : Str))=false from by decide +kernel])
abbrev Dp:=PyData×IdP
theorem Jk {S:IdP->PyData->Prop} {U:IdP->IdP->Prop} {T:Int} (D:List PyData) (B:PyData):∀ (ds:List Dp),(∀ e∈ds,Wf e.2 (S e.2) (U e.2) e.1/\e.1∈D/\e.2.1 < T)->ds.Pairwise (fun a b=>key a.2 < key b.2)->∀ (fd:List PyData) (s2:Sl),fd.length+4*ds.length<=100->(∀ x∈fd,SgOf T D x) ->
   fd.Pairwise sgR->(∀ x∈fd,∃ q n,x=sgD q n/\okH q.2/\∀ e∈ds,key q < key e.2)->∃ (out:List PyData) (s2':Sl),out.length<=fd.length+4*ds.length/\(∀ x∈out,SgOf T D x)/\out.Pairwise sgR /\
   E6 (st1 2) Nm (ds.map (·.1)) [.sh B,.sh (.list fd),s2]=.nx [.sh B,.sh (.list out),s2']
 | [],_,_,fd,s2,_,hs,hp,_=>⟨fd,s2,by omega,hs,hp,rfl⟩
 | e::ds,hd,up,fd,s2,hl,hs,hp,hq=>by
   obtain ⟨w,m,ht⟩:=hd e (.head _); obtain ⟨more,l1,s1,i1,p1,e1⟩:=Tx w ht B fd (by simp at hl; omega)
   have up':=List.pairwise_cons.mp up; obtain ⟨out,s2',l2,s3,p3,e2⟩:=Jk D B ds (fun d' h'=>hd d' (.tail _ h')) up'.2 (fd++more) (.sh e.1) (by simp at hl ⊢; omega)
     (fun x hx=>(List.mem_append.mp hx).elim (hs x) fun z=>(s1 x z).mono fun q hq=>by rw [List.mem_singleton.mp hq]; exact m)
     (List.pairwise_append.mpr ⟨hp,p1,fun a ha b hb=>by
       obtain ⟨q,n,rfl,o,k⟩:=hq a ha; obtain ⟨n',rfl⟩:=i1 b hb; exact ⟨q,e.2,n,n',rfl,rfl,o,w.1.2.2,.inl (k e (.head _))⟩⟩)
     (fun x hx=>(List.mem_append.mp hx).elim (fun z=>by
       obtain ⟨q,n,h1,h2,h3⟩:=hq x z; exact ⟨q,n,h1,h2,fun e' he'=>h3 e' (.tail _ he')⟩) fun z=>by
       obtain ⟨n',rfl⟩:=i1 x z; exact ⟨e.2,n',rfl,w.1.2.2,fun e' he'=>up'.1 e' he'⟩)
   refine ⟨out,s2',by simp at l2 ⊢; omega,s3,p3,?_⟩
   rw [List.map_cons]; unfold E6; simp only [st1,List.set_cons_zero,List.set_cons_succ]; rw [e1]; exact e2
theorem aV {S:IdP->PyData->Prop} {U:IdP->IdP->Prop} {T:Int} (ds:List Dp) (hd:∀ e∈ds,Wf e.2 (S e.2) (U e.2) e.1/\e.2.1 < T) (up:ds.Pairwise (fun a b=>key a.2 < key b.2)) (hl:ds.length<=9) :
   ∃ out:List PyData,N4 [.tuple (ds.map (·.1))]=.ok (.list out)/\out.length<=36/\(∀ x∈out,SgOf T (ds.map (·.1)) x)/\out.Pairwise sgR:=by
 obtain ⟨out,s2',l2,s3,p3,e2⟩:=Jk (ds.map (·.1)) (.tuple (ds.map (·.1))) ds (fun e h=>⟨(hd e h).1,List.mem_map_of_mem h,(hd e h).2⟩) up [] .un (by simp; omega) (fun _ h=>nomatch h) .nil (fun _ h=>nomatch h)
 refine ⟨out,?_,by simp at l2; omega,s3,p3⟩
 unfold N4 X8 V7
 simp only [Kl,J3,En (D3 _ _),D3,F3,A9,D1,C6,Ty,List.map_cons,List.map_nil,List.length_cons,List.length_nil,List.replicate,List.cons_append,List.nil_append,List.set_cons_zero,List.set_cons_succ,En (N9 _ _ _),N9,Cm,Cc,E3,List.getElem?_cons_zero,Nat.reduceAdd,Nat.reduceSub]
 unfold Nm at e2
 rw [e2]
 simp_arith
theorem O6 {c:Dn->Res Bool} {g1 g2:Dn->Out} {δ:Dn} (h:c δ=.ok false):C0 (sIf c g1 E8) g2 δ=g2 δ:=B5 (U1 h)
theorem mulL {xs:List PyData} {n:Int} (h : -(2 ^ 63)<=n/\n < 2 ^ 63/\xs.length*n.toNat<=sizeLine):M8 (.list xs) (.int n)=some (.list (List.replicate n.toNat xs).flatten):=by
 show (if _ then _ else _)=_
 rw [if_pos h]
theorem dNeL (xs:List PyData):dNe (.list xs) (.list [])=some (.bool (!xs.isEmpty)):=by
 unfold dNe
 rw [if_pos (Nat.le_trans (Nat.min_le_right _ _) (by decide))]
 cases xs <;> rfl
theorem dEqL (xs:List PyData):dEq (.list xs) (.list [])=some (.bool xs.isEmpty):=by
 unfold dEq
 rw [if_pos (Nat.le_trans (Nat.min_le_right _ _) (by decide))]
 cases xs <;> rfl
theorem iN (xs:List PyData):dNe (.tuple xs) (.tuple [])=some (.bool (!xs.isEmpty)):=by
 unfold dNe
 rw [if_pos (Nat.le_trans (Nat.min_le_right _ _) (by decide))]
 cases xs <;> rfl
theorem ltI (a b:Int):N6 .Lt (.int a) (.int b)=some (.bool (decide (a < b))):=by
 unfold N6
 rw [if_pos (by simp [PyData.depth])]
 rfl
theorem Zg (a b:Int):dEq (.int a) (.int b)=some (.bool (a==b)):=by
 unfold dEq
 rw [if_pos (Nat.le_trans (Nat.min_le_left _ _) (by simp [PyData.depth]))]
 rfl
theorem iH (t:Int) (h:Str):(idD t h).depth<=2:=by simp [idD,PyData.depth,PyData.depthAll]
theorem mD (xs:List PyData):L6 [.list xs]=some (.int (xs.length:Int)):=rfl
theorem lenT (xs:List PyData):L6 [.tuple xs]=some (.int (xs.length:Int)):=rfl
theorem Nu (ns:List Int) (hns:ns.length<=63) (a:Int) (S:PyData->Prop) (sg:List PyData) (hs:∀ x∈sg,S x) (hl:sg.length<=36):∃ s x,I0 [scr ns,.int a,.list sg]=.ok (.tuple [s,.str x])/\OrN S s/\mC x:=by
 obtain ⟨r1,e1,a1,b1⟩:=F4 ns hns a ((sg.length:Int)+1) (by omega)
 obtain ⟨r2,e2,a2,b2'⟩:=F4 ns hns (a+1) 2 (by decide)
 obtain ⟨c,hc,f2⟩:=dF (x := "lr") a2 (by rw [show ("lr" : Str).cps.toList.length=2 from by decide]; exact b2')
 have g:=Zr (x:=[.none]) (y:=sg) (by simp; omega)
 obtain ⟨s,hs',f1⟩:=ixL (xs:=[.none]++sg) a1 (by simp; omega)
 refine ⟨s,⟨#[c]⟩,?_,?_,?_⟩
 . unfold I0 V1 T4
   generalize [PyData.none]++sg=L at *
   simp_arith [g,mD,Q1,e1,f1,e2,f2]
 . rcases List.mem_append.mp hs' with h | h
   . exact .inl (List.mem_singleton.mp h)
   . exact .inr (hs s h)
 . have h':c∈[108,114]:=by rw [show ("lr" : Str).cps.toList=[108,114] from by decide] at hc; exact hc
   simp only [List.mem_cons,List.not_mem_nil,or_false] at h'; rcases h' with rfl | rfl
   . exact .inl (by decide)
   . exact .inr (by decide)
theorem Nh {δc:Dn} {tt:Dn->Res Bool}:∀ (zs:List (PyData×PyData)),(∀ z∈zs,∃ b,tt ([.sh z.1,.sh z.2]++δc)=.ok b)->∃ ys:List PyData,D7 He δc tt (A3 1) (zs.map fun z=>.tuple [z.1,z.2])=.ok ys/\ys.Sublist (zs.map (·.2))
 | [],_=>⟨[],rfl,.slnil⟩
 | z::zs,h=>by
   obtain ⟨b,e⟩:=h z (.head _); obtain ⟨ys,e1,e2⟩:=Nh zs fun z' hz=>h z' (.tail _ hz)
   rw [List.map_cons,List.map_cons]
   cases b with
   | true =>
     refine ⟨z.2::ys,?_,e2.cons_cons _⟩; unfold D7; rw [show He (.tuple [z.1,z.2])=.ok [.sh z.1,.sh z.2] from rfl]
     simp only [e,e1]; rfl
   | false =>
     refine ⟨ys,?_,e2.cons _⟩; unfold D7; rw [show He (.tuple [z.1,z.2])=.ok [.sh z.1,.sh z.2] from rfl]
     simp only [e,e1]
theorem iF (xs:List PyData):Dc xs=(xs.mapIdx fun i d=>(PyData.int i,d)).map fun z=>PyData.tuple [z.1,z.2]:=by
 unfold Dc
 apply List.ext_getElem?
 intro i
 simp [Function.comp_def]
theorem dX (xs:List PyData):(xs.mapIdx fun i d=>(PyData.int i,d)).map (·.2)=xs:=by
 apply List.ext_getElem?
 intro i
 simp only [List.getElem?_map,List.getElem?_mapIdx,Option.map_map]
 cases xs[i]? <;> rfl
theorem aH {xs:List PyData} {x:PyData} (h:x∈Dw xs (some (-3)) none):x∈xs:=by
 unfold Dw at h
 exact List.mem_of_mem_drop (List.mem_of_mem_take h)
theorem iO (xs:List PyData) (lo hi:Option Int):(Dw xs lo hi).length<=xs.length:=by
 unfold Dw
 rw [List.length_take,List.length_drop]; exact Nat.le_trans (Nat.min_le_right _ _) (Nat.sub_le _ _)
theorem Ph {o:Out} {d:PyData} (h:o=.rt d):o.fin=.ok d:=by rw [h]; rfl
theorem Ys {a b:Int} (h:a < b):N6 .Lt (.int a) (.int b)=some (.bool true):=by rw [ltI,decide_eq_true h]
theorem Yt {a b:Int} (h:¬ a < b):N6 .Lt (.int a) (.int b)=some (.bool false):=by rw [ltI,decide_eq_false h]
theorem Hx {f g:Dn->Res Bool} {δ:Dn} (h1:f δ=.ok true) (h2:g δ=.ok true):P9 f g δ=.ok true:=by unfold P9; rw [h1,C6,if_pos rfl,h2]
theorem Kr {f g:Dn->Res Bool} {δ:Dn} (h1:f δ=.ok false):P9 f g δ=.ok false:=by unfold P9; rw [h1,C6,if_neg (by decide)]
theorem Ew {f g:Dn->Res Bool} {δ:Dn} (h1:f δ=.ok true) (h2:g δ=.ok false):P9 f g δ=.ok false:=by unfold P9; rw [h1,C6,if_pos rfl,h2]
theorem jX {f:Dn->Res PyData} {lo hi:Dn->Res (Option Int)} {δ:Dn} {x y:PyData} {l u:Option Int} (h1:f δ=.ok x) (h2:lo δ=.ok l) (h3:hi δ=.ok u) (h4:Zh x l u=some y):vSl f lo hi δ=.ok y:=by unfold vSl; rw [h1,C6,h2,C6,h3,C6,h4]; rfl
theorem iK (ns:List Int) (hns:ns.length<=63) {S:IdP->PyData->Prop} {U:IdP->IdP->Prop} (a:Int) (p:IdP) (ho:okI p) (kn0:List Dp) (hk:∀ e∈kn0,Wf e.2 (S e.2) (U e.2) e.1/\e.2.1 < p.1) (up:kn0.Pairwise (fun a b=>key a.2 < key b.2)) (hkl:kn0.length<=9) (x y z:Str) (hxyz:Ao x/\Ao y/\Ao z) :
   ∃ d,K3 [scr ns,.int a,idP p,.tuple (kn0.map (·.1)),.list [.str x,.str y,.str z]]=.ok d/\Wf p (SgOf p.1 (kn0.map (·.1))) (fun q=>∃ e∈kn0,e.2=q) d:=by
 have hids:∀ d∈kn0.map (·.1),∃ q:IdP,dIx d (.int 1)=some (idP q)/\∃ e∈kn0,e.2=q:=fun d hd=>by
   obtain ⟨e,he,rfl⟩:=List.mem_map.mp hd; obtain ⟨_,hf⟩:=(hk e he).1; refine ⟨e.2,?_,e,he,rfl⟩; rcases hf with ⟨_,_,q,_⟩ | ⟨_,q,_⟩ | ⟨_,_,_,_,_,q,_⟩ | ⟨_,q,_⟩ | ⟨_,q,_⟩ <;> rw [q] <;> exact M0 (j:=1) (by simp)
 obtain ⟨sg,es,hsl,hsg,hsr⟩:=aV (T:=p.1) kn0 hk up hkl
 have hkl':(kn0.map (·.1)).length<=9:=by rw [List.length_map]; exact hkl
 generalize kn0.map (·.1)=kn at *
 obtain ⟨way,ew,w0,w1⟩:=F4 ns hns a 12 (by decide)
 obtain ⟨r5,e5,a5,b5⟩:=F4 ns hns (a+5) 3 (by decide)
 obtain ⟨nm,hnm,f5⟩:=ixL (xs:=[.str x,.str y,.str z]) a5 b5
 have:∃ q,nm=.str q/\Ao q:=by
   simp only [List.mem_cons,List.not_mem_nil,or_false] at hnm; rcases hnm with rfl | rfl | rfl
   . exact ⟨_,rfl,hxyz.1⟩
   . exact ⟨_,rfl,hxyz.2.1⟩
   . exact ⟨_,rfl,hxyz.2.2⟩
 obtain ⟨q,rfl,hq⟩:=this
 unfold K3 Af W8 W7 W6 W5 W4 W3 W2 W1 E5
 rw [Kl]
 simp only [J3,List.map_cons,List.map_nil,List.length_cons,List.length_nil,List.replicate,List.cons_append,List.nil_append,Nat.reduceAdd,Nat.reduceSub]
 rw [B5 (D6 (D2 (A7 rfl rfl) es)),B5 (D6 (D2 (A7 rfl (A7 rfl (A7 rfl rfl))) ew))]
 simp only [List.set_cons_zero,List.set_cons_succ]
 by_cases c1:way < 2/\sg≠[]
 . have t1 : (P9 (C3 (b2 (A3 6) (vC (.int 2)) (N6 .Lt))) (C3 (b2 (A3 5) (F3 A9) dNe))) [.sh (scr ns), .sh (.int a), .sh (idP p), .sh (.tuple kn), .sh (.list [.str x, .str y, .str z]), .sh (.list sg), .sh (.int way), .un, .un, .un] = .ok true := by
     have:sg.isEmpty=false:=by cases sg with | nil=>exact absurd rfl c1.2 | cons _ _=>rfl
     exact Hx (C5 (B9 rfl rfl (Ys c1.1))) (C5 (B9 rfl rfl (by rw [dNeL,this]; rfl)))
   have hall:∀ z∈sg.mapIdx (fun i d=>(PyData.int i,d)),∃ b,(C3 (b2 (C2 (A0 (A3 2) (A0 (b2 (b2 (A3 3) (vC (.int 20)) C4) (A3 0) C4) (A0 (vC (.int 4)) A9))) A8) (vC (.int 0)) dEq)) ([.sh z.1,.sh z.2]++[.sh (scr ns),.sh (.int a)])=.ok b:=fun z hz=>by
     rw [List.mem_mapIdx] at hz; obtain ⟨i,hi,rfl⟩:=hz; obtain ⟨r,er,_,_⟩:=F4 ns hns (a+20+(i:Int)) 4 (by decide)
     refine ⟨r==0,?_⟩
     simp_arith [Q1,er,Zg]
   obtain ⟨ys,g1,g2'⟩:=Nh _ hall; rw [dX] at g2'; rw [<- iF] at g1; have g2:=g2'.length_le; have hel:(Dc sg).length=sg.length:=by unfold Dc; simp
   have n1:F1 (fun δ=>((A0 (A3 5) A9) δ).bind Kn) He [0,1] (C3 (b2 (C2 (A0 (A3 2) (A0 (b2 (b2 (A3 3) (vC (.int 20)) C4) (A3 0) C4) (A0 (vC (.int 4)) A9))) A8) (vC (.int 0)) dEq)) (A3 1) [.sh (scr ns),.sh (.int a),.sh (idP p),.sh (.tuple kn),.sh (.list [.str x,.str y,.str z]),.sh (.list sg),.sh (.int way),.un,.un,.un]=.ok ys :=
     L3 (ds:=Dc sg) (by show ((A0 (A3 5) A9) _).bind Kn=_; rw [A7 (d:=.list sg) (ds:=[]) rfl rfl]; rfl) (by omega) rfl g1
   have hex:∃ ex:List PyData,ex.length<=1/\((ys++ex).Sublist sg/\ys++ex≠[])/\M8 (.list (sg.take 1)) (.int (if ys.isEmpty=true then 1 else 0))=some (.list ex):=by
     have lt:(sg.take 1).length<=1:=by simp; omega
     cases ey:ys with
     | nil =>
       refine ⟨(List.replicate 1 (sg.take 1)).flatten,by simpa using lt,⟨by simpa using List.take_sublist 1 sg,fun z=>c1.2 ?_⟩,?_⟩
       . cases sg with
         | nil=>rfl
         | cons _ _=>simp at z
       . rw [if_pos (show List.isEmpty []=true from rfl)]
         exact mulL ⟨by decide,by decide,Nat.le_trans (show _<=1 by simpa using lt) (by decide)⟩
     | cons y0 yr =>
       refine ⟨[],by simp,⟨by rw [List.append_nil,<- ey]; exact g2',by simp⟩,?_⟩
       rw [if_neg (by simp)]; exact mulL ⟨by decide,by decide,by simp⟩
   obtain ⟨ex,exl,exs,hmul⟩:=hex; have hadd:=Zr (x:=ys) (y:=ex) (by omega)
   have cut1:Zh (.list sg) none (some 1)=some (.list (sg.take 1)):=by
     show some (PyData.list (Dw sg none (some 1)))=_
     congr 2
     cases sg with
     | nil=>rfl
     | cons s r =>
       unfold Dw HT.sIx; simp
   have hint:Ng [.bool ys.isEmpty]=some (.int (if ys.isEmpty=true then 1 else 0)):=rfl
   have htup:∀ l,Ci [.list l]=some (.tuple l):=fun _=>rfl
   have hnew:bI 8 (F1 (fun δ=>((A0 (A3 5) A9) δ).bind Kn) He [0,1] (C3 (b2 (C2 (A0 (A3 2) (A0 (b2 (b2 (A3 3) (vC (.int 20)) C4) (A3 0) C4) (A0 (vC (.int 4)) A9))) A8) (vC (.int 0)) dEq)) (A3 1)) [.sh (scr ns),.sh (.int a),.sh (idP p),.sh (.tuple kn),.sh (.list [.str x,.str y,.str z]),.sh (.list sg),.sh (.int way),.un,.un,.un]=.nx [.sh (scr ns),.sh (.int a),.sh (idP p),.sh (.tuple kn),.sh (.list [.str x,.str y,.str z]),.sh (.list sg),.sh (.int way),.un,.sh (.list ys),.un]:=by
     unfold bI; rw [n1]; rfl
   have t2:(L0 (E9 (A0 (vC (.str "drop")) (A0 (A3 2) (A0 (vFn (A0 (b2 (A3 8) (b2 (vSl (A3 5) Cf (An (vC (.int 1)))) (vFn (A0 (b2 (A3 8) (F3 A9) dEq) A9) Ng) M8) C4) A9) Ci) A9))))) [.sh (scr ns),.sh (.int a),.sh (idP p),.sh (.tuple kn),.sh (.list [.str x,.str y,.str z]),.sh (.list sg),.sh (.int way),.un,.sh (.list ys),.un]=.rt (.tuple [.str "drop",idP p,.tuple (ys++ex)]):=by
     simp_arith [dEqL,hint,cut1,hmul,hadd,htup]
   rw [Em ((Y2 t1).trans ((B5 hnew).trans t2))]; refine ⟨_,rfl,ho,.inr (.inl ⟨_,rfl,fun s hs=>hsg s (exs.1.subset hs),?_,exs.2,hsr.sublist exs.1⟩)⟩
   rw [List.length_append]; omega
 . have t1 : (P9 (C3 (b2 (A3 6) (vC (.int 2)) (N6 .Lt))) (C3 (b2 (A3 5) (F3 A9) dNe))) [.sh (scr ns), .sh (.int a), .sh (idP p), .sh (.tuple kn), .sh (.list [.str x, .str y, .str z]), .sh (.list sg), .sh (.int way), .un, .un, .un] = .ok false := by
     by_cases h2:way < 2
     . have:sg=[]:=Classical.byContradiction fun z=>c1 ⟨h2,z⟩
       subst this; exact Ew (C5 (B9 rfl rfl (Ys h2))) (C5 (B9 rfl rfl (dNeL [])))
     . exact Kr (C5 (B9 rfl rfl (Yt h2)))
   rw [O6 t1]
   by_cases c2:way < 5
   . obtain ⟨s1,x1,f1,g1,l1⟩:=Nu ns hns (a+1) (SgOf p.1 kn) sg hsg hsl
     obtain ⟨s2,x2,f2,g2,l2⟩:=Nu ns hns (a+3) (SgOf p.1 kn) sg hsg hsl; have hadd:=addT (x:=[.str "mark",idP p,.str q]) (y:=[.tuple [s1,.str x1],.tuple [s2,.str x2]]) (by simp)
     refine ⟨.tuple [.str "mark",idP p,.str q,.tuple [s1,.str x1],.tuple [s2,.str x2]],?_,ho,.inr (.inr (.inl ⟨q,s1,x1,s2,x2,rfl,g1,g2,hq,l1,l2⟩))⟩; exact Ph (Em ((Y2 (C5 (B9 rfl rfl (Ys c2)))).trans ((B5 (D6 (O9 (A7 (D2 (A7 rfl (A7 (B9 rfl rfl Q1) (A7 rfl rfl))) f1) (A7 (D2 (A7 rfl (A7 (B9 rfl rfl Q1) (A7 rfl rfl))) f2) rfl))))).trans (N2 (B9 (O9 (A7 rfl (A7 rfl (A7 (B9 rfl (D2 (A7 rfl (A7 (B9 rfl rfl Q1) (A7 rfl rfl))) e5) f5) rfl)))) rfl hadd)))))
   . by_cases c3:way=5
     . refine ⟨.tuple [.str "unmark",idP p,.str q],?_,ho,.inr (.inr (.inr (.inl ⟨q,rfl,hq⟩)))⟩
       rw [O6 (C5 (B9 rfl rfl (Yt c2)))]; exact Ph (Em ((Y2 (C5 (B9 rfl rfl (by rw [Zg,c3]; rfl)))).trans (N2 (O9 (A7 rfl (A7 rfl (A7 (B9 rfl (D2 (A7 rfl (A7 (B9 rfl rfl Q1) (A7 rfl rfl))) e5) f5) rfl)))))))
     . have c3':(way==5)=false:=by simpa using c3
       by_cases c4:way < 8/\kn≠[]
       . have hne:kn.isEmpty=false:=by cases kn with | nil=>exact absurd rfl c4.2 | cons _ _=>rfl
         have hpos:(0:Int) < kn.length:=by cases kn with | nil=>exact absurd rfl c4.2 | cons _ _=>simp
         obtain ⟨r6,e6,a6,b6⟩:=F4 ns hns (a+6) (kn.length:Int) hpos; obtain ⟨d,hd,f6⟩:=Hy (xs:=kn) a6 b6; obtain ⟨qi,f7,hu⟩:=hids d hd; have f6':dIx (.tuple kn) (.int r6)=some d:=f6; refine ⟨.tuple [.str "undo",idP p,idP qi],?_,ho,.inr (.inr (.inr (.inr ⟨_,rfl,hu⟩)))⟩; rw [O6 (C5 (B9 rfl rfl (Yt c2))),O6 (C5 (B9 rfl rfl (by rw [Zg,c3'])))]
         exact Ph (Em ((Y2 (Hx (C5 (B9 rfl rfl (Ys c4.1))) (C5 (B9 rfl rfl (by rw [iN,hne]; rfl))))).trans (N2 (O9 (A7 rfl (A7 rfl (A7 (B9 (B9 rfl (D2 (A7 rfl (A7 (B9 rfl rfl Q1) (A7 (Q3 (A7 rfl rfl) (lenT _)) rfl))) e6) f6') rfl f7) rfl)))))))
       . have t4 : (P9 (C3 (b2 (A3 6) (vC (.int 8)) (N6 .Lt))) (C3 (b2 (A3 3) (E9 A9) dNe))) [.sh (scr ns), .sh (.int a), .sh (idP p), .sh (.tuple kn), .sh (.list [.str x, .str y, .str z]), .sh (.list sg), .sh (.int way), .un, .un, .un] = .ok false := by
           by_cases h2:way < 8
           . have:kn=[]:=Classical.byContradiction fun z=>c4 ⟨h2,z⟩
             subst this; exact Ew (C5 (B9 rfl rfl (Ys h2))) (C5 (B9 rfl rfl (iN [])))
           . exact Kr (C5 (B9 rfl rfl (Yt h2)))
         obtain ⟨w,ew2,wl⟩:=Zs ns hns (a+8); have g1:=Zr (x:=[.none]) (y:=sg) (by simp; omega)
         have hc:Zh (.list sg) (some (-3)) none=some (.list (Dw sg (some (-3)) none)):=rfl; have hcl:=iO sg (some (-3)) none; have hcm:∀ s∈Dw sg (some (-3)) none,SgOf p.1 kn s:=fun s hs=>hsg s (aH hs)
         generalize Dw sg (some (-3)) none=ct at *
         have g2:=Zr (x:=[.none]++sg) (y:=ct) (by simp; omega)
         obtain ⟨r7,e7,a7,b7⟩:=F4 ns hns (a+7) ((sg.length:Int)+1+(ct.length:Int)) (by omega)
         obtain ⟨bh,hbh,f7⟩:=ixL (xs:=[.none]++sg++ct) a7 (by simp; omega)
         have hneg:Dv (.int 3)=some (.int (-3)):=rfl; have hb:OrN (SgOf p.1 kn) bh:=by
           rcases List.mem_append.mp hbh with h | h
           . rcases List.mem_append.mp h with h | h
             . exact .inl (List.mem_singleton.mp h)
             . exact .inr (hsg bh h)
           . exact .inr (hcm bh h)
         generalize [PyData.none]++sg=L1 at *
         generalize L1++ct=L2' at *
         refine ⟨.tuple [.str "add",idP p,bh,.str w],?_,ho,.inl ⟨bh,w,rfl,hb,wl⟩⟩; rw [O6 (C5 (B9 rfl rfl (Yt c2))),O6 (C5 (B9 rfl rfl (by rw [Zg,c3']))),O6 t4]
         have sl:vSl (A3 5) (An (b1 (vC (.int 3)) Dv)) Cf [.sh (scr ns),.sh (.int a),.sh (idP p),.sh (.tuple kn),.sh (.list [.str x,.str y,.str z]),.sh (.list sg),.sh (.int way),.un,.un,.un]=.ok (.list ct):=jX rfl rfl rfl hc; exact Ph ((B5 (D6 (B9 (B9 (B9 rfl rfl g1) sl g2) (D2 (A7 rfl (A7 (B9 rfl rfl Q1) (A7 (B9 (B9 (Q3 (A7 rfl rfl) (mD _)) rfl Q1) (Q3 (A7 sl rfl) (mD _)) Q1) rfl))) e7) f7))).trans (N2 (O9 (A7 rfl (A7 rfl (A7 rfl (A7 (D2 (A7 rfl (A7 (B9 rfl rfl Q1) rfl)) ew2) rfl)))))))
noncomputable def Xf:Dn->Out:=(C0 (D3 7 (b2 (b2 (A3 5) (vC (.int 0)) dIx) (C2 (A0 (A3 0) (A0 (b2 (b2 (A3 1) (vC (.int 1)) C4) (b2 (vC (.int 60)) (A3 6) M8) C4) (A0 (vC (.int 2)) A9))) A8) C4)) (C0 (D3 8 (b2 (vC (.str "abc")) (C2 (A0 (A3 0) (A0 (b2 (b2 (A3 1) (vC (.int 2)) C4) (b2 (vC (.int 60)) (A3 6) M8) C4) (A0 (vC (.int 3)) A9))) A8) dIx)) (C0 (sIf (P9 (C3 (b2 (A3 4) (E9 A9) dNe)) (C3 (b2 (E9 (A0 (A3 7) (A0 (A3 8) A9))) (A3 5) (N6 .LtE)))) (D3 7 (b2 (b2 (A3 5) (vC (.int 0)) dIx) (vC (.int 1)) C4)) E8) (C0 (D3 5 (E9 (A0 (A3 7) (A0 (A3 8) A9)))) (C0 (D3 9 (vFn (A0 (F3 (F1 (fun δ=>((A3 4) δ).bind E3) F5 [7] (C3 (b2 (b2 (b2 (A3 0) (vC (.int 1)) dIx) (vC (.int 0)) dIx) (A3 1) (N6 .Lt))) (A3 0))) A9) Ci)) (D3 4 (b2 (A3 4) (E9 (A0 (C2 (A0 (A3 0) (A0 (b2 (b2 (A3 1) (vC (.int 3)) C4) (b2 (vC (.int 60)) (A3 6) M8) C4) (A0 (A3 5) (A0 (A3 9) (A0 (A3 3) A9))))) K3) A9)) C4)))))))
theorem leS (h h':Str) (k:okH h) (k':okH h'):(h==h')=decide (hj h=hj h')/\Yd .LtE h h'=decide (hj h<=hj h'):=by
 rcases k with rfl | rfl | rfl <;> rcases k' with rfl | rfl | rfl <;> exact ⟨by decide +kernel,by decide +kernel⟩
theorem leIdE {t t':Int} {h h':Str} (k:okH h) (k':okH h'):N6 .LtE (idD t h) (idD t' h')=some (.bool (decide (key (t,h)<=key (t',h')))):=by
 obtain ⟨e1,e2⟩:=leS h h' k k'
 have l1:=Sg h
 have l2:=Sg h'
 unfold N6 key
 rw [if_pos (Nat.le_trans (iH t h) (by decide))]
 show (Dx .LtE [.int t,.str h] [.int t',.str h']).map PyData.bool=_
 simp only [Dx]
 have f1:PyData.eqv (.int t) (.int t')=(t==t'):=rfl
 have f2:PyData.eqv (.str h) (.str h')=(h==h'):=rfl
 rw [f1,f2,e1]
 by_cases c1:t=t'
 . subst c1
   rw [if_pos (by simp)]
   by_cases c2:hj h=hj h'
   . rw [if_pos (by simp [c2])]
     simp [Ti,c2]
   . rw [if_neg (by simp [c2])]
     show (some (Yd .LtE h h')).map PyData.bool=_
     rw [e2]; simp only [Option.map_some]
     congr 3
     apply propext; omega
 . rw [if_neg (by simp [c1])]
   show (some (decide (t<=t'))).map PyData.bool=_
   simp only [Option.map_some]
   congr 3
   apply propext; omega
theorem Wf.id {p:IdP} {S:PyData->Prop} {U:IdP->Prop} {d:PyData} (w:Wf p S U d):dIx d (.int 1)=some (idP p):=by
 obtain ⟨_,hf⟩:=w
 rcases hf with ⟨_,_,q,_⟩ | ⟨_,q,_⟩ | ⟨_,_,_,_,_,q,_⟩ | ⟨_,q,_⟩ | ⟨_,q,_⟩ <;> rw [q] <;> exact M0 (j:=1) (by simp)
theorem ix0 (x:PyData) (xs:List PyData):dIx (.tuple (x::xs)) (.int 0)=some x:=M0 (xs:=x::xs) (j:=0) (by simp)
theorem abc {c:Nat} (h:c∈("abc" : Str).cps.toList):(⟨#[c]⟩:Str) = "a" \/ (⟨#[c]⟩:Str) = "b" \/ (⟨#[c]⟩:Str) = "c" := by
 have h':c∈[97,98,99]:=by
   have:("abc" : Str).cps.toList=[97,98,99]:=by decide
   rw [this] at h; exact h
 simp only [List.mem_cons,List.not_mem_nil,or_false] at h'
 rcases h' with rfl | rfl | rfl
 . exact .inl (by decide)
 . exact .inr (.inl (by decide))
 . exact .inr (.inr (by decide))
theorem Xa {δc:Dn} {tt:Dn->Res Bool} (f:Dp->Bool):∀ L:List Dp,(∀ e∈L,tt ([.sh e.1]++δc)=.ok (f e))->D7 F5 δc tt (A3 0) (L.map (·.1))=.ok ((L.filter f).map (·.1))
 | [],_=>rfl
 | e::L,h=>by
   have h1:=h e (.head _); have ih:=Xa f L fun e' he=>h e' (.tail _ he)
   rw [List.map_cons]; unfold D7; rw [show F5 e.1=.ok [.sh e.1] from rfl]
   simp only [h1,ih]
   cases hf:f e with
   | true=>rw [List.filter_cons_of_pos hf]; rfl
   | false=>rw [List.filter_cons_of_neg (by rw [hf]; decide)]
def Upk (L:List Dp):Prop:=L.Pairwise fun a b=>key a.2 < key b.2
def WfIn (L:List Dp) (e:Dp):Prop:=Wf e.2 (SgOf e.2.1 (L.map (·.1))) (fun q=>(∃ e'∈L,e'.2=q)/\q.1 < e.2.1) e.1
def BkW (L:List Dp):Prop:=(∀ e∈L,WfIn L e)/\Upk L
theorem WfIn.mono {L L':List Dp} {e:Dp} (h:WfIn L e) (k:∀ x∈L,x∈L'):WfIn L' e :=
 Wf.mono h (fun x hx=>hx.mono fun d hd=>by obtain ⟨y,hy,rfl⟩:=List.mem_map.mp hd; exact List.mem_map_of_mem (k y hy)) fun q ⟨⟨y,hy,e⟩,hq⟩=>⟨⟨y,k y hy,e⟩,hq⟩
theorem Zn (ns:List Int) (hns:ns.length<=63) (x y z:Str) (hxyz:Ao x/\Ao y/\Ao z) (k:Int) (hk:0<=k) (hk2:k < 9) (j:Nat) (hj:j < 9) (L:List Dp) (hl:L.length=j) (hd:BkW L) (t:Int) (h:Str) (ht:1<=t) (ht2:t<=j+1) (hth:okH h) (s7 s8 s9:Sl) :
   ∃ (d:PyData) (t':Int) (h':Str) (s7' s8' s9':Sl),WfIn L (d,(t',h'))/\1<=t'/\t'<=((j+1:Nat):Int)+1/\okH h'/\(L=[]\/key (t,h) < key (t',h'))/\Xf [.sh (scr ns),.sh (.int 10),.sh (.int 9),.sh (.list [.str x,.str y,.str z]),.sh (.tuple (L.map (·.1))),.sh (idD t h),.sh (.int k),s7,s8,s9]
     = .nx [.sh (scr ns),.sh (.int 10),.sh (.int 9),.sh (.list [.str x,.str y,.str z]),.sh (.tuple (L.map (·.1)++[d])),.sh (idD t' h'),.sh (.int k),s7',s8',s9']:=by
 obtain ⟨r1,e1,a1,b1⟩:=F4 ns hns (10+1+60*k) 2 (by decide)
 obtain ⟨r2,e2,a2,b2'⟩:=F4 ns hns (10+2+60*k) 3 (by decide)
 obtain ⟨c,hc,f2⟩:=dF (x := "abc") a2 (by have:("abc" : Str).cps.toList.length=3:=(by decide); rw [this]; exact b2')
 have hh:=abc hc
 generalize (⟨#[c]⟩:Str)=hd' at *
 have eb:=leIdE (t:=t+r1) (t':=t) (show okH hd' from hh) hth
 have go : ∀ tt : Int, 1 <= tt -> tt <= j + 2 -> ∃ d, WfIn L (d, (tt, hd')) /\ ∃ kn, (C0 (D3 5 (E9 (A0 (A3 7) (A0 (A3 8) A9)))) (C0 (D3 9 (vFn (A0 (F3 (F1 (fun δ => ((A3 4) δ).bind E3) F5 [7] (C3 (b2 (b2 (b2 (A3 0) (vC (.int 1)) dIx) (vC (.int 0)) dIx) (A3 1) (N6 .Lt))) (A3 0))) A9) Ci)) (D3 4 (b2 (A3 4) (E9 (A0 (C2 (A0 (A3 0) (A0 (b2 (b2 (A3 1) (vC (.int 3)) C4) (b2 (vC (.int 60)) (A3 6) M8) C4) (A0 (A3 5) (A0 (A3 9) (A0 (A3 3) A9))))) K3) A9)) C4))))
     [.sh (scr ns),.sh (.int 10),.sh (.int 9),.sh (.list [.str x,.str y,.str z]),.sh (.tuple (L.map (·.1))),.sh (idD t h),.sh (.int k),.sh (.int tt),.sh (.str hd'),s9]
     = .nx [.sh (scr ns),.sh (.int 10),.sh (.int 9),.sh (.list [.str x,.str y,.str z]),.sh (.tuple (L.map (·.1)++[d])),.sh (idD tt hd'),.sh (.int k),.sh (.int tt),.sh (.str hd'),.sh (.tuple kn)]:=fun tt h1 h2=>by
   have g1:=Xa (δc:=[.sh (.int tt)]) (tt:=C3 (b2 (b2 (b2 (A3 0) (vC (.int 1)) dIx) (vC (.int 0)) dIx) (A3 1) (N6 .Lt))) (fun e=>decide (e.2.1 < tt)) L fun e he=>by
     have:=(hd.1 e he).id
     simp_arith [this,ix0,ltI]
   have fm:∀ e∈L.filter fun e=>decide (e.2.1 < tt),e∈L/\e.2.1 < tt:=fun e he=>by
     obtain ⟨m,q⟩:=List.mem_filter.mp he; exact ⟨m,of_decide_eq_true q⟩
   have fl:=List.length_filter_le (fun e:Dp=>decide (e.2.1 < tt)) L
   obtain ⟨d,ed,wd'⟩:=iK ns hns (S:=fun p=>SgOf p.1 (L.map (·.1))) (U:=fun p q=>(∃ e'∈L,e'.2=q)/\q.1 < p.1) (10+3+60*k) (tt,hd') ⟨h1,by simp only; omega,hh⟩ (L.filter fun e=>decide (e.2.1 < tt)) (fun e he=>⟨hd.1 e (fm e he).1,(fm e he).2⟩) (hd.2.filter _) (by omega) x y z hxyz
   have wd:WfIn L (d,(tt,hd')):=wd'.mono (fun x hx=>hx.mono fun q hq=>by obtain ⟨e,he,rfl⟩:=List.mem_map.mp hq; exact List.mem_map_of_mem (fm e he).1) fun q ⟨e,he,hq⟩=>⟨⟨e,(fm e he).1,hq⟩,hq▸(fm e he).2⟩
   have ll:(L.map (·.1)).length=j:=by rw [List.length_map]; exact hl
   generalize (L.filter fun e=>decide (e.2.1 < tt)).map (·.1)=kn at *
   refine ⟨d,wd,kn,?_⟩; have hadd:=addT (x:=L.map (·.1)) (y:=[d]) (by simp; omega)
   have htup:Ci [.list kn]=some (.tuple kn):=rfl; rw [B5 (D6 (O9 (A7 rfl (A7 rfl rfl))))]; simp only [List.set_cons_zero,List.set_cons_succ]; rw [B5 (D6 (Q3 (A7 (V2 (L3 (I9 rfl rfl) (by omega) rfl g1)) rfl) htup))]; simp only [List.set_cons_zero,List.set_cons_succ]
   simp_arith [Q1,cX,ed,hadd]
 unfold Xf
 rw [B5 (D6 (d:=.int (t+r1)) (by simp_arith [ix0,Q1,cX,e1]))]
 simp only [List.set_cons_zero,List.set_cons_succ]
 rw [B5 (D6 (d:=.str hd') (by simp_arith [Q1,cX,e2,f2]))]
 simp only [List.set_cons_zero,List.set_cons_succ]
 have hc1:∃ b,(b=false->L=[]\/key (t,h) < key (t+r1,hd'))/\(P9 (C3 (b2 (A3 4) (E9 A9) dNe)) (C3 (b2 (E9 (A0 (A3 7) (A0 (A3 8) A9))) (A3 5) (N6 .LtE)))) [.sh (scr ns),.sh (.int 10),.sh (.int 9),.sh (.list [.str x,.str y,.str z]),.sh (.tuple (L.map (·.1))),.sh (idD t h),.sh (.int k),.sh (.int (t+r1)),.sh (.str hd'),s9]=.ok b:=by
   cases he:(L.map (·.1)).isEmpty with
   | true=>exact ⟨false,fun _=>.inl (by cases L with | nil=>rfl | cons _ _=>cases he),by simp_arith [iN,he,Bool.not_true]⟩
   | false=>exact ⟨decide (key (t+r1,hd')<=key (t,h)),fun z=>.inr (by have:=of_decide_eq_false z; omega),by simp_arith [iN,he,Bool.not_false,eb]⟩
 obtain ⟨b,hbk,hb⟩:=hc1
 cases b with
 | true =>
   obtain ⟨d,wd,kn,ek⟩:=go (t+1) (by omega) (by omega)
   refine ⟨d,t+1,hd',.sh (.int (t+1)),.sh (.str hd'),.sh (.tuple kn),wd,by omega,by omega,hh,.inr (by have:=Sg h; unfold key; simp only; omega),?_⟩
   rw [B5 ((Y2 hb).trans (D6 (d:=.int (t+1)) (by simp_arith [ix0,Q1])))]
   simp only [List.set_cons_zero,List.set_cons_succ]; exact ek
 | false =>
   obtain ⟨d,wd,kn,ek⟩:=go (t+r1) (by omega) (by omega)
   refine ⟨d,t+r1,hd',.sh (.int (t+r1)),.sh (.str hd'),.sh (.tuple kn),wd,by omega,by omega,hh,hbk rfl,?_⟩
   rw [O6 hb]; exact ek
theorem BkW.snoc {L:List Dp} {d:PyData} {p q:IdP} (h:BkW L) (w:WfIn L (d,q)) (hk:∀ e∈L,key e.2<=key p) (hq:L=[]\/key p < key q):BkW (L++[(d,q)])/\∀ e∈L++[(d,q)],key e.2<=key q:=by
 have lt:∀ e∈L,key e.2 < key q:=fun e he=>by
   rcases hq with z | z
   . rw [z] at he; exact nomatch he
   . have:=hk e he; omega
 have up:∀ x∈L,x∈L++[(d,q)]:=fun x hx=>List.mem_append_left _ hx
 refine ⟨⟨fun e he=>?_,?_⟩,fun e he=>?_⟩
 . rcases List.mem_append.mp he with z | z
   . exact (h.1 e z).mono up
   . rw [List.mem_singleton.mp z]; exact w.mono up
 . exact List.pairwise_append.mpr ⟨h.2,List.pairwise_singleton _ _,fun a ha b hb=>by rw [List.mem_singleton.mp hb]; exact lt a ha⟩
 . rcases List.mem_append.mp he with z | z
   . exact Int.le_of_lt (lt e z)
   . rw [List.mem_singleton.mp z]; exact Int.le_refl _
theorem Nk (ns:List Int) (hns:ns.length<=63) (x y z:Str) (hxyz:Ao x/\Ao y/\Ao z):∀ (l:List PyData),(∀ d∈l,∃ k:Int,d=.int k/\0<=k/\k < 9)->∀ (j:Nat) (L:List Dp) (t:Int) (h:Str) (s6 s7 s8 s9:Sl),j+l.length<=9->L.length=j->BkW L->(∀ e∈L,key e.2<=key (t,h))->1<=t->t<=j+1->okH h ->
   ∃ L' s5 s6' s7' s8' s9',BkW L'/\L'.length<=9/\E6 (st1 6) Xf l [.sh (scr ns),.sh (.int 10),.sh (.int 9),.sh (.list [.str x,.str y,.str z]),.sh (.tuple (L.map (·.1))),.sh (idD t h),s6,s7,s8,s9]=.nx [.sh (scr ns),.sh (.int 10),.sh (.int 9),.sh (.list [.str x,.str y,.str z]),.sh (.tuple (L'.map (·.1))),s5,s6',s7',s8',s9']
 | [],_,j,L,t,h,s6,s7,s8,s9,hj,hl,hd,_,_,_,_=>⟨L,_,_,_,_,_,hd,by simp at hj; omega,rfl⟩
 | d0::l,hk,j,L,t,h,s6,s7,s8,s9,hj,hl,hd,hb,h1,h2,h3=>by
   obtain ⟨k,rfl,k0,k1⟩:=hk d0 (.head _); simp only [List.length_cons] at hj; obtain ⟨d,t',h',s7',s8',s9',wd,t1,t2,t3,kk,e⟩:=Zn ns hns x y z hxyz k k0 k1 j (by omega) L hl hd t h h1 h2 h3 s7 s8 s9
   obtain ⟨hB,hB2⟩:=hd.snoc wd hb kk; obtain ⟨L',s5,s6',s7'',s8'',s9'',w',l',e'⟩:=Nk ns hns x y z hxyz l (fun d hd=>hk d (.tail _ hd)) (j+1) (L++[(d,(t',h'))]) t' h' (.sh (.int k)) s7' s8' s9' (by omega) (by simp [hl]) hB hB2 t1 t2 t3
   refine ⟨L',s5,s6',s7'',s8'',s9'',w',l',?_⟩; unfold E6; simp only [st1,List.set_cons_zero,List.set_cons_succ]; rw [e]; rw [List.map_append] at e'; exact e'
theorem iU (ns:List Int) (hns:ns.length<=63) (x y z:Str) (hxyz:Ao x/\Ao y/\Ao z):∃ L,U5 [scr ns,.int 10,.int 9,.list [.str x,.str y,.str z]]=.ok (.tuple (L.map (·.1)))/\L.length<=9/\BkW L:=by
 obtain ⟨r,e,a,b⟩:=F4 ns hns 10 (9+1) (by decide)
 have hmem:∀ d∈P3 0 r,∃ k:Int,d=.int k/\0<=k/\k < 9:=fun d hd=>by
   unfold P3 at hd; obtain ⟨i,hi,rfl⟩:=List.mem_map.mp hd; have:=List.mem_range.mp hi; exact ⟨_,rfl,by omega,by omega⟩
 have hlen:(P3 0 r).length<=9:=by unfold P3; simp; omega
 obtain ⟨L,s5,s6,s7,s8,s9,w,l,e'⟩:=Nk ns hns x y z hxyz (P3 0 r) hmem 0 [] 1 "a" .un .un .un .un (by omega) rfl ⟨(fun _ h=>nomatch h),.nil⟩ (fun _ h=>nomatch h) (by decide) (by decide) (.inl rfl)
 refine ⟨L,Ar ?_,l,w⟩
 unfold Ah X2 X1 X0 W9 K5
 simp only [J3,List.map_cons,List.map_nil,List.length_cons,List.length_nil,List.replicate,List.cons_append,List.nil_append,Nat.reduceAdd,Nat.reduceSub]
 rw [B5 (D6 (d:=.tuple []) rfl),B5 (D6 (d:=idD 1 "a") rfl)]
 simp only [List.set_cons_zero,List.set_cons_succ]
 have hfor:N9 (fun δ=>((A0 (C2 (A0 (A3 0) (A0 (A3 1) (A0 (b2 (A3 2) (vC (.int 1)) C4) A9))) A8) A9) δ).bind Fi) (st1 6) Xf [.sh (scr ns),.sh (.int 10),.sh (.int 9),.sh (.list [.str x,.str y,.str z]),.sh (.tuple []),.sh (idD 1 "a"),.un,.un,.un,.un]=.nx [.sh (scr ns),.sh (.int 10),.sh (.int 9),.sh (.list [.str x,.str y,.str z]),.sh (.tuple (L.map (·.1))),s5,s6,s7,s8,s9]:=by
   unfold N9; have:=Vm (fs:=A0 (C2 (A0 (A3 0) (A0 (A3 1) (A0 (b2 (A3 2) (vC (.int 1)) C4) A9))) A8) A9) (δ:=[.sh (scr ns),.sh (.int 10),.sh (.int 9),.sh (.list [.str x,.str y,.str z]),.sh (.tuple []),.sh (idD 1 "a"),.un,.un,.un,.un]) (n:=r) (by simp_arith [Q1,e]) a (by omega)
   rw [this,D1]; exact e'
 exact (B5 hfor).trans (N2 rfl)
structure Ad where
 p:IdP
 b:Option (IdP×Nat)
 w:Str
abbrev As:=Ad×Nat
abbrev sgn (u:As):IdP×Nat:=(u.1.p,u.2)
noncomputable def blk (e:Ad):List As:=(List.range e.w.length).map fun k=>(e,k)
noncomputable def Ls (s:IdP×Nat) (l:List As):List As->List As
 | []=>[]
 | u::r=>if sgn u=s then u::(l++r) else u::Ls s l r
noncomputable def hZ (x:Option (IdP×Nat)) (l L:List As):List As:=match x with
 | none=>l++L
 | some s=>Ls s l L
noncomputable def ord (B:List Ad):List As:=B.foldl (fun L a=>hZ a.b (blk a) L) []
theorem Ce (B:List Ad) (e:Ad):ord (B++[e])=hZ e.b (blk e) (ord B):=by unfold ord; rw [List.foldl_append]; rfl
inductive Bk:List Ad->Prop where
 | nil:Bk []
 | snoc {B:List Ad} {e:Ad}:Bk B->0 < e.w.length->(∀ a∈B,key a.p < key e.p)->(e.b=none\/∃ a∈B,∃ n,n < a.w.length/\e.b=some (a.p,n))->Bk (B++[e])
theorem Oz {e:Ad} {u:As}:u∈blk e↔u.1=e/\u.2 < e.w.length:=by
 unfold blk
 rw [List.mem_map]
 constructor
 . rintro ⟨k,hk,rfl⟩; exact ⟨rfl,List.mem_range.mp hk⟩
 . rintro ⟨h1,h2⟩; exact ⟨u.2,List.mem_range.mpr h2,by rw [<- h1]⟩
theorem Se {s:IdP×Nat} {l:List As} {v:As}:∀ {L:List As},(∃ u∈L,sgn u=s)->(v∈Ls s l L↔v∈l\/v∈L)
 | [],h=>by obtain ⟨u,hu,_⟩:=h; cases hu
 | u::r,h=>by
   unfold Ls
   split
   . rw [List.mem_cons,List.mem_append,List.mem_cons]
     constructor
     . rintro (h | h | h)
       . exact .inr (.inl h)
       . exact .inl h
       . exact .inr (.inr h)
     . rintro (h | h | h)
       . exact .inr (.inl h)
       . exact .inl h
       . exact .inr (.inr h)
   . rename_i hn
     have h':∃ u∈r,sgn u=s:=by
       obtain ⟨x,hx,e⟩:=h; rcases List.mem_cons.mp hx with rfl | hx
       . exact absurd e hn
       . exact ⟨x,hx,e⟩
     rw [List.mem_cons,Se h',List.mem_cons]
     constructor
     . rintro (h | h | h)
       . exact .inr (.inl h)
       . exact .inl h
       . exact .inr (.inr h)
     . rintro (h | h | h)
       . exact .inr (.inl h)
       . exact .inl h
       . exact .inr (.inr h)
theorem Sd {s:IdP×Nat} {l:List As} {f:As->Bool} (hl:∀ u∈l,f u=false):∀ {L:List As},(∀ u∈L,f u=true)->(Ls s l L).filter f=L
 | [],_=>rfl
 | u::r,h=>by
   have h0:=h u (.head _); have hr:r.filter f=r:=List.filter_eq_self.mpr fun x hx=>h x (.tail _ hx)
   unfold Ls
   split
   . rw [List.filter_cons,h0,if_pos rfl,List.filter_append,hr,List.filter_eq_nil_iff.mpr (fun x hx=>by rw [hl x hx]; decide),List.nil_append]
   . rw [List.filter_cons,h0,if_pos rfl,Sd hl fun x hx=>h x (.tail _ hx)]
theorem Bk.pos {B:List Ad} (h:Bk B):∀ a∈B,0 < a.w.length:=by
 induction h with
 | nil=>intro a h; cases h
 | snoc _ h0 _ _ ih =>
   intro a ha; rcases List.mem_append.mp ha with ha | ha
   . exact ih a ha
   . rw [List.mem_singleton.mp ha]; exact h0
theorem Bk.refs {B:List Ad} (h:Bk B):∀ c∈B,∀ q n,c.b=some (q,n)->∃ a∈B,a.p=q/\n < a.w.length:=by
 induction h with
 | nil=>intro a h; cases h
 | @snoc B e _ h0 _ hb ih =>
   intro c hc q n e1; rcases List.mem_append.mp hc with hc | hc
   . obtain ⟨a,ha,r⟩:=ih c hc q n e1; exact ⟨a,List.mem_append.mpr (.inl ha),r⟩
   . rw [List.mem_singleton.mp hc] at e1
     rcases hb with hb | ⟨a,ha,n',hn,hb⟩
     . rw [hb] at e1; cases e1
     . rw [hb] at e1; cases e1; exact ⟨a,List.mem_append.mpr (.inl ha),rfl,hn⟩
theorem Bk.nokid {B:List Ad} {e:Ad} (h:Bk B) (hk:∀ a∈B,key a.p < key e.p) (hb:e.b=none\/∃ a∈B,∃ n,n < a.w.length/\e.b=some (a.p,n)):∀ c∈B++[e],∀ n,c.b≠some (e.p,n):=by
 intro c hc n z
 have:∃ a∈B,a.p=e.p:=by
   rcases List.mem_append.mp hc with hc | hc
   . obtain ⟨a,ha,r,_⟩:=h.refs c hc _ _ z; exact ⟨a,ha,r⟩
   . rw [List.mem_singleton.mp hc] at z
     rcases hb with hb | ⟨a,ha,n',hn,hb⟩
     . rw [hb] at z; cases z
     . rw [hb] at z; exact ⟨a,ha,congrArg Prod.fst (Option.some.inj z)⟩
 obtain ⟨a,ha,r⟩:=this
 have:=hk a ha
 rw [r] at this
 omega
theorem Bc {B:List Ad} (h:Bk B):∀ u,u∈ord B↔u.1∈B/\u.2 < u.1.w.length:=by
 induction h with
 | nil=>intro u; constructor <;> intro h <;> simp [ord] at h
 | @snoc B e hB h0 hk hb ih =>
   intro u; have key:u∈hZ e.b (blk e) (ord B)↔u∈blk e\/u∈ord B:=by
     rcases hb with hb | ⟨a,ha,n,hn,hb⟩
     . rw [hb]; exact List.mem_append
     . rw [hb]; exact Se ⟨(a,n),(ih (a,n)).mpr ⟨ha,hn⟩,rfl⟩
   rw [Ce,key,Oz,ih,List.mem_append,List.mem_singleton]
   constructor
   . rintro (⟨h1,h2⟩ | ⟨h1,h2⟩)
     . exact ⟨.inr h1,by rw [h1]; exact h2⟩
     . exact ⟨.inl h1,h2⟩
   . rintro ⟨h1 | h1,h2⟩
     . exact .inr ⟨h1,h2⟩
     . exact .inl ⟨h1,by rw [<- h1]; exact h2⟩
theorem Mw {s:IdP×Nat} {l:List As}:∀ {L:List As},(∃ u∈L,sgn u=s)->(Ls s l L).Perm (l++L)
 | [],h=>by obtain ⟨u,hu,_⟩:=h; cases hu
 | u::r,h=>by
   unfold Ls
   split
   . exact (List.perm_middle (l₁:=l) (a:=u) (l₂:=r)).symm
   . rename_i hn
     have h':∃ u∈r,sgn u=s:=by
       obtain ⟨x,hx,e⟩:=h; rcases List.mem_cons.mp hx with rfl | hx
       . exact absurd e hn
       . exact ⟨x,hx,e⟩
     exact ((Mw h').cons u).trans (List.perm_middle (l₁:=l) (a:=u) (l₂:=r)).symm
theorem Mx {B:List Ad} {e:Ad} (hB:Bk B) (hb:e.b=none\/∃ a∈B,∃ n,n < a.w.length/\e.b=some (a.p,n)):(hZ e.b (blk e) (ord B)).Perm (blk e++ord B):=by
 rcases hb with hb | ⟨a,ha,n,hn,hb⟩
 . rw [hb]; exact List.Perm.refl _
 . rw [hb]; exact Mw ⟨(a,n),(Bc hB (a,n)).mpr ⟨ha,hn⟩,rfl⟩
noncomputable def sgs (B:List Ad):List As:=B.flatMap blk
theorem cH {B:List Ad} (h:Bk B):(ord B).Perm (sgs B):=by
 induction h with
 | nil=>exact List.Perm.refl _
 | @snoc B e hB h0 hk hb ih =>
   rw [Ce]; unfold sgs; rw [List.flatMap_append]; refine (Mx hB hb).trans ?_; refine List.perm_append_comm.trans ?_; rw [List.flatMap_cons,List.flatMap_nil,List.append_nil]; exact List.Perm.append_right _ ih
theorem Zo (e:Ad):((blk e).map sgn).Nodup:=by
 unfold blk
 rw [List.map_map,List.nodup_iff_pairwise_ne,List.pairwise_map]
 refine List.Pairwise.imp ?_ (List.nodup_iff_pairwise_ne.mp List.nodup_range)
 intro a b h z
 exact h (congrArg Prod.snd z)
theorem Co {B:List Ad} (h:Bk B):((ord B).map sgn).Nodup:=by
 induction h with
 | nil=>exact .nil
 | @snoc B e hB h0 hk hb ih =>
   rw [Ce]; refine ((Mx hB hb).map sgn).nodup_iff.mpr ?_; rw [List.map_append,List.nodup_append]; refine ⟨Zo e,ih,fun x hx y hy z=>?_⟩
   obtain ⟨u,hu,rfl⟩:=List.mem_map.mp hx; obtain ⟨v,hv,rfl⟩:=List.mem_map.mp hy; have h1:=(Oz.mp hu).1; have h2:=((Bc hB v).mp hv).1; have h3:=hk v.1 h2; have h4:u.1.p=v.1.p:=congrArg Prod.fst z; rw [h1] at h4; rw [<- h4] at h3; omega
noncomputable def Dq (B:List Ad) (u:As):List As:=(B.filter fun c=>c.b=some (sgn u)).map fun c=>(c,0)
noncomputable def Gy (B:List Ad):List As:=(B.filter fun c=>c.b=none).map fun c=>(c,0)
noncomputable def nxt (u:As):List As:=if u.2+1 < u.1.w.length then [(u.1,u.2+1)] else []
inductive Run (B:List Ad):List As->List As->Prop where
 | nil:Run B [] []
 | step {u:As} {st out:List As}:Run B ((Dq B u).reverse++(nxt u++st)) out->Run B (u::st) (u::out)
theorem Run.blk {B:List Ad} {e:Ad} (hn:∀ c∈B,∀ n,c.b≠some (e.p,n)) {st out:List As} (h:Run B st out):∀ (j k:Nat),k+j+1=e.w.length->Run B ((e,k)::st) (((List.range e.w.length).drop k).map (fun i=>(e,i))++out):=by
 have nk:∀ k,Dq B (e,k)=[]:=fun k=>by
   unfold Dq; rw [List.filter_eq_nil_iff.mpr (fun c hc=>by simpa using hn c hc k),List.map_nil]
 intro j
 induction j with
 | zero =>
   intro k hk; have hd:(List.range e.w.length).drop k=[k]:=by
     rw [List.drop_eq_getElem_cons (by simp; omega),List.getElem_range,List.drop_eq_nil_of_le (by simp; omega)]
   rw [hd]; refine .step ?_; rw [nk,List.reverse_nil,List.nil_append]; unfold nxt; rw [if_neg (by show ¬ (k+1 < e.w.length); omega),List.nil_append]
   exact h
 | succ j ih =>
   intro k hk; have hd:(List.range e.w.length).drop k=k::(List.range e.w.length).drop (k+1):=by
     rw [List.drop_eq_getElem_cons (by simp; omega),List.getElem_range]
   rw [hd]; refine .step ?_; rw [nk,List.reverse_nil,List.nil_append]; unfold nxt; rw [if_pos (by show k+1 < e.w.length; omega)]
   exact ih (k+1) (by omega)
theorem Run.new {B:List Ad} {e:Ad} (hp:0 < e.w.length) (hn:∀ c∈B,∀ n,c.b≠some (e.p,n)) {st out:List As} (h:Run B st out):Run B ((e,0)::st) (Sm.blk e++out):=by
 have:=h.blk hn (e.w.length - 1) 0 (by omega)
 rw [List.drop_zero] at this
 exact this
theorem Fw (B:List Ad) (e:Ad) (u:As):Dq (B++[e]) u=Dq B u++if e.b=some (sgn u) then [(e,0)] else []:=by
 unfold Dq
 rw [List.filter_append,List.map_append]
 congr 1
 by_cases c:e.b=some (sgn u)
 . rw [if_pos c,List.filter_cons,if_pos (by simpa using c)]; rfl
 . rw [if_neg c,List.filter_cons,if_neg (by simpa using c)]; rfl
theorem Run.old {B:List Ad} {e:Ad} {st out:List As} (h:Run B st out) (hn:∀ u∈out,e.b≠some (sgn u)):Run (B++[e]) st out:=by
 induction h with
 | nil=>exact .nil
 | @step u st out h ih =>
   refine .step ?_; rw [Fw,if_neg (hn u (.head _)),List.append_nil]; exact ih fun v hv=>hn v (.tail _ hv)
theorem Run.ins {B:List Ad} {e:Ad} {s:IdP×Nat} (he:e.b=some s) (hp:0 < e.w.length) (hk:∀ c∈B++[e],∀ n,c.b≠some (e.p,n)) {st out:List As} (h:Run B st out) (hs:∃ u∈out,sgn u=s) (nd:(out.map sgn).Nodup):Run (B++[e]) st (Ls s (Sm.blk e) out):=by
 induction h with
 | nil=>obtain ⟨u,hu,_⟩:=hs; cases hu
 | @step u st out h ih =>
   rw [List.map_cons,List.nodup_cons] at nd; unfold Ls
   split
   . rename_i c
     refine .step ?_; rw [Fw,if_pos (by rw [he,c]),List.reverse_append,List.append_assoc]
     refine Run.new hp hk (h.old fun v hv z=>nd.1 ?_)
     rw [he] at z; cases z; rw [c]; exact List.mem_map_of_mem hv
   . rename_i c
     refine .step ?_; rw [Fw,if_neg (by rw [he]; intro z; cases z; exact c rfl),List.append_nil]
     refine ih ?_ nd.2; obtain ⟨x,hx,e1⟩:=hs; rcases List.mem_cons.mp hx with rfl | hx
     . exact absurd e1 c
     . exact ⟨x,hx,e1⟩
theorem Vr {B:List Ad} (h:Bk B):Run B (Gy B).reverse (ord B):=by
 induction h with
 | nil=>exact .nil
 | @snoc B e hB h0 hk hb ih =>
   have nk:=hB.nokid hk hb; rw [Ce]; unfold Gy at ih ⊢
   rw [List.filter_append,List.map_append,List.reverse_append]; rcases hb with hb | ⟨a,ha,n,hn,hb⟩
   . rw [hb,List.filter_cons,if_pos (by simpa using hb)]
     exact Run.new h0 nk (ih.old fun u _ z=>by rw [hb] at z; cases z)
   . rw [hb,List.filter_cons,if_neg (by rw [hb]; simp)]
     exact ih.ins hb h0 nk ⟨(a,n),(Bc hB (a,n)).mpr ⟨ha,hn⟩,rfl⟩ (Co hB)
noncomputable def anD (x:Option (IdP×Nat)):PyData:=match x with
 | none=>.none
 | some s=>sgD s.1 s.2
noncomputable def Ad.d (a:Ad):PyData:=.tuple [.str "add",idP a.p,anD a.b,.str a.w]
inductive Adds:List Dp->List Ad->Prop where
 | nil:Adds [] []
 | add {L:List Dp} {B:List Ad} (a:Ad):Adds L B->Adds ((a.d,a.p)::L) (a::B)
 | oth {L:List Dp} {B:List Ad} {e:Dp} (k:Str) (x:PyData) (xs:List PyData):e.1=.tuple (.str k::idP e.2::x::xs)->k ≠ "add" -> Adds L B->Adds (e::L) B
theorem Adds.snoc {L:List Dp} {B:List Ad} (h:Adds L B) (a:Ad):Adds (L++[(a.d,a.p)]) (B++[a]):=by
 induction h with
 | nil=>exact .add a .nil
 | add c _ ih=>exact .add c ih
 | oth k x xs e n _ ih=>exact .oth k x xs e n ih
theorem Adds.snocO {L:List Dp} {B:List Ad} {e:Dp} (h:Adds L B) (k:Str) (x:PyData) (xs:List PyData) (h1:e.1=.tuple (.str k::idP e.2::x::xs)) (h2:k ≠ "add"):Adds (L++[e]) B:=by
 induction h with
 | nil=>exact .oth k x xs h1 h2 .nil
 | add c _ ih=>exact .add c ih
 | oth k' x' xs' e' n _ ih=>exact .oth k' x' xs' e' n ih
theorem Pf {p q:IdP} (h:idP p=idP q):p=q:=by
 simp only [idP,idD,PyData.tuple.injEq,List.cons.injEq,PyData.int.injEq,PyData.str.injEq,and_true] at h
 exact Prod.ext h.1 h.2
theorem Adds.of {L:List Dp} {B:List Ad} (h:Adds L B) {p:IdP} {b:PyData} {w:Str} (m:PyData.tuple [.str "add",idP p,b,.str w]∈L.map (·.1)):∃ a∈B,a.p=p/\a.w=w:=by
 induction h with
 | nil=>cases m
 | add c _ ih =>
   rcases List.mem_cons.mp m with e | m
   . have e':PyData.tuple [.str "add",idP p,b,.str w]=.tuple [.str "add",idP c.p,anD c.b,.str c.w]:=e
     injection e' with e'
     injection e' with _ e'
     injection e' with e1 e'
     injection e' with _ e'
     injection e' with e2 _
     injection e2 with e2
     exact ⟨c,.head _,(Pf e1).symm,e2.symm⟩
   . obtain ⟨a,ha,r⟩:=ih m; exact ⟨a,.tail _ ha,r⟩
 | oth k x xs e n _ ih =>
   rcases List.mem_cons.mp m with e1 | m
   . replace e1:=e1.trans e
     injection e1 with e1
     injection e1 with e1 _
     injection e1 with e1
     exact absurd e1.symm n
   . exact ih m
theorem Wf.shape {p:IdP} {S:PyData->Prop} {U:IdP->Prop} {d:PyData} (w:Wf p S U d):(∃ b w,d=.tuple [.str "add",idP p,b,.str w]/\OrN S b/\Tj w)\/∃ k x xs,d=.tuple (.str k::idP p::x::xs)/\k ≠ "add" := by
 obtain ⟨o,r⟩:=w
 rcases r with h | ⟨sg,rfl,_⟩ | ⟨n,s1,x1,s2,x2,rfl,_⟩ | ⟨n,rfl,_⟩ | ⟨i,rfl,_⟩
 . exact .inl h
 . exact .inr ⟨"drop",_,_,rfl,by decide⟩
 . exact .inr ⟨"mark",_,_,rfl,by decide⟩
 . exact .inr ⟨"unmark",_,_,rfl,by decide⟩
 . exact .inr ⟨"undo",_,_,rfl,by decide⟩
theorem Rz {p q:IdP} (h:key p < key q):p.1<=q.1:=by
 have h1:=Sg p.2
 have h2:=Sg q.2
 unfold key at h
 omega
theorem BkW.init {L:List Dp} {e:Dp} (h:BkW (L++[e])):BkW L:=by
 obtain ⟨hw,hu⟩:=h
 have hu':=List.pairwise_append.mp hu
 refine ⟨fun x hx=>?_,hu'.1⟩
 have hxe:key x.2 < key e.2:=hu'.2.2 x hx e (List.mem_singleton.mpr rfl)
 have ht:=Rz hxe
 refine Wf.mono (hw x (List.mem_append.mpr (.inl hx))) (fun y hy=>?_) fun q hq=>?_
 . obtain ⟨p,b,w,n,hm,e1,hn,hp,ho⟩:=hy
   refine ⟨p,b,w,n,?_,e1,hn,hp,ho⟩; rw [List.map_append] at hm; rcases List.mem_append.mp hm with hm | hm
   . exact hm
   . exfalso
     have he:PyData.tuple [.str "add",idP p,b,.str w]=e.1:=by simpa using hm
     have hid:p=e.2:=by
       have w1:=(hw e (List.mem_append.mpr (.inr (.head _)))).id; rw [<- he] at w1; have w2:dIx (PyData.tuple [.str "add",idP p,b,.str w]) (.int 1)=some (idP p):=M0 (xs:=[.str "add",idP p,b,.str w]) (j:=1) (by simp)
       rw [w2] at w1; exact Pf (Option.some.inj w1)
     rw [hid] at hp; omega
 . obtain ⟨⟨e',he',rfl⟩,hq⟩:=hq
   refine ⟨?_,hq⟩; rcases List.mem_append.mp he' with he' | he'
   . exact ⟨e',he',rfl⟩
   . rw [List.mem_singleton.mp he'] at hq
     omega
structure BkA (L:List Dp) (B:List Ad):Prop where
 ad:Adds L B
 bk:Bk B
 wd:∀ a∈B,Tj a.w
 id:∀ a∈B,okI a.p
 inL:∀ a∈B,(a.d,a.p)∈L
 len:B.length<=L.length
theorem bka:∀ (n:Nat) (L:List Dp),L.length=n->BkW L->∃ B,BkA L B
 | 0,L,hn,_=>by
   rw [List.length_eq_zero_iff.mp hn]; exact ⟨[],.nil,.nil,(fun _ h=>nomatch h),(fun _ h=>nomatch h),(fun _ h=>nomatch h),Nat.le_refl _⟩
 | n+1,L,hn,h=>by
   have hne:L≠[]:=fun z=>by rw [z] at hn; cases hn
   obtain ⟨L',e,rfl⟩:∃ L' e,L=L'++[e]:=⟨L.dropLast,L.getLast hne,(List.dropLast_concat_getLast hne).symm⟩; have h':=h.init; obtain ⟨B,A⟩:=bka n L' (by simpa using hn) h'
   have hu':=List.pairwise_append.mp h.2; have we:=h.1 e (List.mem_append.mpr (.inr (.head _))); rcases we.shape with ⟨b,w,e1,hb,hw⟩ | ⟨k,x,xs,e1,hk⟩
   . have hx : ∃ x : Option (IdP × Nat), b = anD x /\ (x = none \/ ∃ a ∈ B, ∃ n, n < a.w.length /\ x = some (a.p, n)) := by
       rcases hb with rfl | ⟨p,b',w',n',hm,rfl,hn',hp,ho⟩
       . exact ⟨none,rfl,.inl rfl⟩
       . rw [List.map_append] at hm
         rcases List.mem_append.mp hm with hm | hm
         . obtain ⟨a,ha,rfl,rfl⟩:=A.ad.of hm
           exact ⟨some (a.p,n'),rfl,.inr ⟨a,ha,n',hn',rfl⟩⟩
         . exfalso
           have he:PyData.tuple [.str "add",idP p,b',.str w']=e.1:=by simpa using hm
           rw [e1] at he
           injection he with he
           injection he with _ he
           injection he with he _
           rw [Pf he] at hp; omega
     obtain ⟨x,rfl,hx⟩:=hx; have ee:e=((⟨e.2,x,w⟩:Ad).d,(⟨e.2,x,w⟩:Ad).p):=Prod.ext e1 rfl; refine ⟨B++[⟨e.2,x,w⟩],?_,.snoc A.bk (by have:=hw.1; show 0 < w.length; omega) (fun a ha=>hu'.2.2 _ (A.inL a ha) e (List.mem_singleton.mpr rfl)) hx,fun a ha=>?_,fun a ha=>?_,fun a ha=>?_,by simp; exact A.len⟩
     . rw [ee]; exact A.ad.snoc _
     . rcases List.mem_append.mp ha with ha | ha
       . exact A.wd a ha
       . rw [List.mem_singleton.mp ha]; exact hw
     . rcases List.mem_append.mp ha with ha | ha
       . exact A.id a ha
       . rw [List.mem_singleton.mp ha]; exact we.1
     . rcases List.mem_append.mp ha with ha | ha
       . exact List.mem_append.mpr (.inl (A.inL a ha))
       . rw [List.mem_singleton.mp ha,<- ee]; exact List.mem_append.mpr (.inr (.head _))
   . refine ⟨B,A.ad.snocO k x xs e1 hk,A.bk,A.wd,A.id,fun a ha=>List.mem_append.mpr (.inl (A.inL a ha)),by simp; have:=A.len; omega⟩
theorem mZ {L:List Dp} (h:BkW L):∃ B,BkA L B:=bka _ L rfl h
theorem Bs (x:PyData) (xs:List PyData):dIx (.tuple (x::xs)) (.int 0)=some x:=M0 (xs:=x::xs) (j:=0) (by simp)
theorem Ij (x y:PyData) (xs:List PyData):dIx (.tuple (x::y::xs)) (.int 1)=some y:=M0 (xs:=x::y::xs) (j:=1) (by simp)
theorem aC (x y z:PyData) (xs:List PyData):dIx (.tuple (x::y::z::xs)) (.int 2)=some z:=M0 (xs:=x::y::z::xs) (j:=2) (by simp)
theorem fG (x y z u:PyData) (xs:List PyData):dIx (.tuple (x::y::z::u::xs)) (.int 3)=some u:=M0 (xs:=x::y::z::u::xs) (j:=3) (by simp)
theorem Uk (w:Str):L6 [.str w]=some (.int (w.length:Int)):=rfl
theorem bE (a:Ad):E2 [a.d]=.ok (.int (a.w.length:Int)):=by
 unfold E2 O3 O1 Ad.d
 simp_arith [vIf,Bs,fG,Hl,jV,Uk]
theorem bD {k:Str} {i:PyData} {xs:List PyData} (h:k ≠ "add"):E2 [.tuple (.str k::i::xs)]=.ok (.int 0):=by
 unfold E2 O3 O1
 have:(k==("add" : Str))=false:=beq_eq_false_iff_ne.mpr h
 simp_arith [vIf,Bs,Hl,this]
noncomputable def Pa (kvs:Kvs) (x:PyData):PyData:=(M7 kvs x).getD (.list [])
theorem O5 (x y:Option (IdP×Nat)):PyData.eqv (anD x) (anD y)=decide (x=y):=by
 cases x with
 | none=>cases y with
   | none=>rfl
   | some s=>rfl
 | some s=>cases y with
   | none=>rfl
   | some t =>
     show ((PyData.eqv (idP s.1) (idP t.1))&&((PyData.eqv (.int s.2) (.int t.2))&&true))=_
     show (((s.1.1==t.1.1)&&((s.1.2==t.1.2)&&true))&&(((s.2:Int)==(t.2:Int))&&true))=_
     rw [Bool.eq_iff_iff]; obtain ⟨⟨a,b⟩,c⟩:=s; obtain ⟨⟨a',b'⟩,c'⟩:=t; simp
     intro _ _; omega
def eW (kvs:Kvs):Prop:=∀ p∈kvs,(∃ x,p.1=anD x)/\∃ ds,p.2=.list ds
theorem Xi {kvs:Kvs} (h:eW kvs) (x:Option (IdP×Nat)) (v:PyData):eW (Ht kvs (anD x) v)/\∀ y,∃ ds,Pa kvs (anD y)=.list ds/\Pa (Ht kvs (anD x) v) (anD y)=.list (if x=y then ds++[v] else ds):=by
 induction kvs with
 | nil =>
   refine ⟨fun p hp=>?_,fun y=>⟨[],rfl,?_⟩⟩
   . rw [List.mem_singleton.mp hp]; exact ⟨⟨x,rfl⟩,_,rfl⟩
   . show ((List.find? (fun p=>PyData.eqv p.1 (anD y)) [(anD x,PyData.list [v])]).map (·.2)).getD (.list [])=_
     rw [List.find?_cons,O5]
     by_cases c:x=y
     . rw [decide_eq_true c,if_pos c]; rfl
     . rw [decide_eq_false c,if_neg c]; rfl
 | cons p r ih =>
   obtain ⟨⟨z,hz⟩,ds0,hd⟩:=h p (.head _); obtain ⟨i1,i2⟩:=ih fun q hq=>h q (.tail _ hq)
   unfold Ht; rw [hz,O5]
   by_cases c:z=x
   . rw [if_pos (decide_eq_true c),hd]
     refine ⟨fun q hq=>?_,fun y=>?_⟩
     . rcases List.mem_cons.mp hq with rfl | hq
       . exact ⟨⟨z,rfl⟩,_,rfl⟩
       . exact h q (.tail _ hq)
     . unfold Pa M7
       rw [List.find?_cons,List.find?_cons,hz,O5]
       by_cases c2:z=y
       . rw [decide_eq_true c2]
         exact ⟨ds0,by rw [show (some p:Option (PyData×PyData)).map (·.2)=some p.2 from rfl,hd]; rfl,by rw [if_pos (c.symm.trans c2)]; rfl⟩
       . rw [decide_eq_false c2]
         obtain ⟨ds,e1,_⟩:=i2 y; exact ⟨ds,e1,by rw [if_neg (fun w=>c2 (c.trans w))]; exact e1⟩
   . rw [if_neg (by rw [decide_eq_false c]; decide)]
     refine ⟨fun q hq=>?_,fun y=>?_⟩
     . rcases List.mem_cons.mp hq with rfl | hq
       . exact ⟨⟨z,hz⟩,_,hd⟩
       . exact i1 q hq
     . unfold Pa M7
       rw [List.find?_cons,List.find?_cons,hz,O5]
       by_cases c2:z=y
       . rw [decide_eq_true c2]
         exact ⟨ds0,by rw [show (some p:Option (PyData×PyData)).map (·.2)=some p.2 from rfl,hd]; rfl,by rw [if_neg (fun w=>c (c2.trans w.symm)),show (some p:Option (PyData×PyData)).map (·.2)=some p.2 from rfl,hd]; rfl⟩
       . rw [decide_eq_false c2]
         exact i2 y
theorem Gm (x:Option (IdP×Nat)):nkD (anD x)=true:=by
 cases x with
 | none=>rfl
 | some s=>simp [anD,nkD,Dr,isK,PyData.depth,PyData.depthAll]
theorem mO {L:List Dp} {B:List Ad} (h:Adds L B) (hp:∀ a∈B,0 < a.w.length) (bk:PyData):∀ (kvs:Kvs),eW kvs->∃ out,Lu [.sh bk,.un,.un] 2 (C3 (b2 (C2 (A0 (A3 2) A9) E2) (vC (.int 0)) (De .Gt))) (b2 (A3 2) (vC (.int 2)) dIx) (A3 2) (L.map (·.1)) kvs=.ok out /\
   ∀ y,∃ ds,Pa kvs (anD y)=.list ds/\Pa out (anD y)=.list (ds++(B.filter fun a=>a.b=y).map Ad.d):=by
 induction h with
 | nil =>
   intro kvs g; refine ⟨kvs,rfl,fun y=>?_⟩
   obtain ⟨ds,e,_⟩:=(Xi g none .none).2 y; exact ⟨ds,e,by simpa using e⟩
 | @add L B a _ ih =>
   intro kvs g; obtain ⟨g1,g2⟩:=Xi g a.b a.d; obtain ⟨out,e,k⟩:=ih (fun c hc=>hp c (.tail _ hc)) _ g1
   have ha:=hp a (.head _); have gt:De .Gt (.int (a.w.length:Int)) (.int 0)=some (.bool true):=by
     show some (PyData.bool (decide ((0:Int) < a.w.length)))=_
     rw [decide_eq_true (by omega)]
   refine ⟨out,?_,fun y=>?_⟩
   . rw [List.map_cons]
     unfold Lu; have e1:(C3 (b2 (C2 (A0 (A3 2) A9) E2) (vC (.int 0)) (De .Gt))) ([Sl.sh bk,.un,.un].set 2 (.sh a.d))=.ok true:=by simp_arith [bE,gt]
     have e2:(b2 (A3 2) (vC (.int 2)) dIx) ([Sl.sh bk,.un,.un].set 2 (.sh a.d))=.ok (anD a.b):=by unfold Ad.d; simp_arith [aC]
     rw [e1,e2]; show (if nkD (anD a.b)=true then _ else _)=_
     rw [if_pos (Gm _)]; exact e
   . obtain ⟨ds,e3,e4⟩:=g2 y
     obtain ⟨ds',e5,e6⟩:=k y; rw [e4] at e5; cases e5; refine ⟨ds,e3,?_⟩; rw [e6]
     by_cases c:a.b=y
     . rw [if_pos c,List.filter_cons,if_pos (by simpa using c)]; simp
     . rw [if_neg c,List.filter_cons,if_neg (by simpa using c)]
 | @oth L B e k x xs he hk _ ih =>
   intro kvs g; obtain ⟨out,e2,kk⟩:=ih hp kvs g; refine ⟨out,?_,kk⟩; rw [List.map_cons]; unfold Lu; have gt:De .Gt (.int 0) (.int 0)=some (.bool false):=rfl; have e1:(C3 (b2 (C2 (A0 (A3 2) A9) E2) (vC (.int 0)) (De .Gt))) ([Sl.sh bk,.un,.un].set 2 (.sh e.1))=.ok false:=by rw [he]; simp_arith [bD hk,gt]
   rw [e1]; exact e2
theorem Zp {L:List Dp} {B:List Ad} (A:BkA L B) (hl:L.length<=9):∃ out,L8 [.tuple (L.map (·.1))]=.ok out/\∀ y,Pa out (anD y)=.list ((B.filter fun a=>a.b=y).map Ad.d):=by
 obtain ⟨out,e,k⟩:=mO A.ad A.bk.pos (.tuple (L.map (·.1))) [] (fun _ h=>nomatch h)
 refine ⟨out,?_,fun y=>?_⟩
 . unfold L8 V0 S9 fnW J3 Ie Dj fS Ru
   simp only [List.map_cons,List.map_nil,List.length_cons,List.length_nil,Nat.reduceAdd,Nat.reduceSub,List.replicate,List.cons_append,List.nil_append,List.set_cons_zero,List.set_cons_succ,List.getElem?_cons_zero,List.getElem?_cons_succ,Cm,Cc,C6,E3,D1]; rw [if_pos ⟨by rw [List.length_map]; omega,by decide⟩,e]
   rfl
 . obtain ⟨ds,e1,e2⟩:=k y
   cases e1; exact e2
noncomputable def Tf:Dn->Out:=(C0 (Yb 2 4) (C0 (D3 5 (b2 (A3 4) (vC (.int 0)) dIx)) (C0 (D3 6 (b2 (A3 4) (vC (.int 1)) dIx)) (C0 (D3 7 (E9 (A0 (b2 (A3 5) (vC (.int 1)) dIx) (A0 (A3 6) A9)))) (C0 (Y5 3 (E9 (A0 (A3 7) (A0 (b2 (b2 (A3 5) (vC (.int 3)) dIx) (A3 6) dIx) A9)))) (C0 (sIf (C3 (b2 (b2 (A3 6) (vC (.int 1)) C4) (vFn (A0 (b2 (A3 5) (vC (.int 3)) dIx) A9) L6) (N6 .Lt))) (Y5 2 (E9 (A0 (A3 5) (A0 (b2 (A3 6) (vC (.int 1)) C4) A9)))) E8) (Yc 2 (F1 (fun δ=>((Ih 1 (A3 7) (F3 A9)) δ).bind E3) F5 [] P8 (E9 (A0 (A3 0) (A0 (vC (.int 0)) A9)))))))))))
abbrev wt (u:As):PyData:=.tuple [u.1.d,.int (u.2:Int)]
noncomputable def ltr (u:As):Str:=⟨#[u.1.w.cps.toList.getD u.2 0]⟩
abbrev sgA (u:As):PyData:=sgD u.1.p (u.2:Int)
abbrev tl (u:As):PyData:=.tuple [sgA u,.str (ltr u)]
theorem Ob (x:Str):x.length=x.cps.toList.length:=by unfold Str.length; simp
theorem lZ {u:As} (h:u.2 < u.1.w.length):dIx (.str u.1.w) (.int (u.2:Int))=some (.str (ltr u)):=by
 have h':u.2 < u.1.w.cps.toList.length:=by rw [<- Ob]; exact h
 show (atI u.1.w.cps.toList (u.2:Int)).map _=_
 rw [M0 h']
 unfold ltr
 rw [List.getD_eq_getElem?_getD,List.getElem?_eq_getElem h']
 rfl
theorem fR {i j:Nat} {δ:Dn} {W:List PyData} {d:PyData} (h:δ[i]? = some (.ow (.list (W++[d])))) (hij:i≠j):Yb i j δ=.nx ((δ.set i (.ow (.list W))).set j (.sh d)):=by
 unfold Yb
 rw [h]
 simp [hij]
theorem Cn {i:Nat} {δ:Dn} {f:Dn->Res PyData} {W:List PyData} {d:PyData} (h:δ[i]? = some (.ow (.list W))) (hf:f δ=.ok d) (hl:W.length<=1000):Y5 i f δ=.nx (δ.set i (.ow (.list (W++[d])))):=by
 unfold Y5
 rw [h]
 show K2 (f δ) _=_
 rw [hf,D1,if_pos (Nat.lt_of_le_of_lt hl (by decide))]
theorem fT {i:Nat} {δ:Dn} {f:Dn->Res (List PyData)} {W ds:List PyData} (h:δ[i]? = some (.ow (.list W))) (hf:f δ=.ok ds) (hl:W.length+ds.length<=1000):Yc i f δ=.nx (δ.set i (.ow (.list (W++ds)))):=by
 unfold Yc
 rw [h]
 show K2 (f δ) _=_
 rw [hf,D1,if_pos (Nat.le_trans hl (by decide))]
theorem Wz (δc:Dn):∀ ds:List Ad,D7 F5 δc P8 (E9 (A0 (A3 0) (A0 (vC (.int 0)) A9))) (ds.map Ad.d)=.ok (ds.map fun a=>wt (a,0))
 | ds=>Ck Ad.d (fun a=>wt (a,0)) (fun a=>by simp_arith; rfl) ds
theorem Run.len {B:List Ad} {st out:List As} (h:Run B st out):st.length<=out.length:=by
 induction h with
 | nil=>exact Nat.le_refl _
 | step _ ih=>simp only [List.length_append,List.length_cons] at ih ⊢; omega
theorem hV (B:List Ad) (u:As):(Dq B u).map wt=((B.filter fun a=>a.b=some (sgn u)).map fun a=>wt (a,0)):=by
 unfold Dq
 rw [List.map_map]; rfl
theorem fK {B:List Ad} {b:PyData} {kvs:Kvs} (hk:∀ y,Pa kvs (anD y)=.list ((B.filter fun a=>a.b=y).map Ad.d)) {u:As} (hu:u.2 < u.1.w.length) (W T:List PyData) (hl:W.length+1+(Dq B u).length<=900) (hT:T.length<=900) (s4 s5 s6 s7:Sl) :
   ∃ t4 t5 t6 t7,Tf [.sh b,.ow (.tuple [.dict kvs,.none]),.ow (.list (W++[wt u])),.ow (.list T),s4,s5,s6,s7]=.nx [.sh b,.ow (.tuple [.dict kvs,.none]),.ow (.list (W++(nxt u).map wt++(Dq B u).map wt)),.ow (.list (T++[tl u])),t4,t5,t6,t7]:=by
 refine ⟨.sh (wt u),.sh u.1.d,.sh (.int u.2),.sh (sgA u),?_⟩
 unfold Tf
 rw [B5 (fR (W:=W) rfl (by decide))]
 simp only [List.set_cons_zero,List.set_cons_succ]
 rw [B5 (D6 (d:=u.1.d) (by simp_arith [Bs]))]
 simp only [List.set_cons_zero,List.set_cons_succ]
 rw [B5 (D6 (d:=.int (u.2:Int)) (by simp_arith [Ij]))]
 simp only [List.set_cons_zero,List.set_cons_succ]
 rw [B5 (D6 (d:=sgA u) (by unfold Ad.d; simp_arith [Ij]))]
 simp only [List.set_cons_zero,List.set_cons_succ]
 rw [B5 (Cn (W:=T) (d:=tl u) rfl (by unfold Ad.d; simp_arith [fG,lZ hu]) (by omega))]
 simp only [List.set_cons_zero,List.set_cons_succ]
 have hif : sIf (C3 (b2 (b2 (A3 6) (vC (.int 1)) C4) (vFn (A0 (b2 (A3 5) (vC (.int 3)) dIx) A9) L6) (N6 .Lt))) (Y5 2 (E9 (A0 (A3 5) (A0 (b2 (A3 6) (vC (.int 1)) C4) A9)))) E8 [.sh b, .ow (.tuple [.dict kvs, .none]), .ow (.list W), .ow (.list (T ++ [tl u])), .sh (wt u), .sh u.1.d, .sh (.int u.2), .sh (sgA u)]
     = .nx [.sh b,.ow (.tuple [.dict kvs,.none]),.ow (.list (W++(nxt u).map wt)),.ow (.list (T++[tl u])),.sh (wt u),.sh u.1.d,.sh (.int u.2),.sh (sgA u)]:=by
   unfold nxt
   by_cases c:u.2+1 < u.1.w.length
   . rw [if_pos c,Y2 (by unfold Ad.d; simp_arith [fG,Uk,Q1,Ys (show (u.2:Int)+1 < (u.1.w.length:Int) by omega)])]
     rw [Cn (W:=W) (d:=wt (u.1,u.2+1)) rfl (by simp_arith [Q1]; rfl) (by omega)]
     rfl
   . rw [if_neg c,U1 (by unfold Ad.d; simp_arith [fG,Uk,Q1,Yt (show ¬ (u.2:Int)+1 < (u.1.w.length:Int) by omega)])]
     simp [E8]
 rw [B5 hif]
 have hnl:(nxt u).length<=1:=by unfold nxt; split <;> simp
 have hgl:(B.filter fun a=>a.b=some (sgn u)).length=(Dq B u).length:=by unfold Dq; rw [List.length_map]
 have hget:(fun δ=>((Ih 1 (A3 7) (F3 A9)) δ).bind E3) [.sh b,.ow (.tuple [.dict kvs,.none]),.ow (.list (W++(nxt u).map wt)),.ow (.list (T++[tl u])),.sh (wt u),.sh u.1.d,.sh (.int u.2),.sh (sgA u)]=.ok ((B.filter fun a=>a.b=some (sgn u)).map Ad.d):=by
   refine I9 (d:=.list ((B.filter fun a=>a.b=some (sgn u)).map Ad.d)) ?_ rfl
   rw [<- hk (some (sgn u))]; show (if nkD (anD (some (sgn u)))=true then Res.ok ((M7 kvs (anD (some (sgn u)))).getD (.list [])) else Res.no)=_
   rw [if_pos (Gm (some (sgn u)))]; rfl
 rw [fT (W:=W++(nxt u).map wt) (ds:=(Dq B u).map wt) rfl (L3 hget (by rw [List.length_map,hgl]; omega) rfl (by rw [hV]; exact Wz _ _)) (by simp only [List.length_append,List.length_map]; omega)]
 rfl
theorem Zt {B:List Ad} {b:PyData} {kvs:Kvs} (hk:∀ y,Pa kvs (anD y)=.list ((B.filter fun a=>a.b=y).map Ad.d)) {st out:List As} (h:Run B st out):(∀ u∈out,u.2 < u.1.w.length)->∀ (n:Nat) (T:List PyData) (s4 s5 s6 s7:Sl),out.length < n->T.length+out.length<=800 ->
   ∃ t4 t5 t6 t7,U2 (Tc 2) Tf n [.sh b,.ow (.tuple [.dict kvs,.none]),.ow (.list (st.reverse.map wt)),.ow (.list T),s4,s5,s6,s7]=.nx [.sh b,.ow (.tuple [.dict kvs,.none]),.ow (.list []),.ow (.list (T++out.map tl)),t4,t5,t6,t7]:=by
 induction h with
 | nil =>
   intro _ n T s4 s5 s6 s7 hn _
   cases n with
   | zero=>cases hn
   | succ n =>
     refine ⟨s4,s5,s6,s7,?_⟩; unfold U2; rw [show Tc 2 [Sl.sh b,.ow (.tuple [.dict kvs,.none]),.ow (.list (([]:List As).reverse.map wt)),.ow (.list T),s4,s5,s6,s7]=.ok false from rfl,D1,if_neg (by decide)]
     simp
 | @step u st out h ih =>
   intro hu n T s4 s5 s6 s7 hn hT; have hlen:=h.len; simp only [List.length_append,List.length_reverse,List.length_cons] at hlen hn hT
   cases n with
   | zero=>cases hn
   | succ n =>
     have e1:(u::st).reverse.map wt=st.reverse.map wt++[wt u]:=by rw [List.reverse_cons,List.map_append]; rfl
     rw [e1]; obtain ⟨a4,a5,a6,a7,e2⟩:=fK (b:=b) hk (hu u (.head _)) (st.reverse.map wt) T (by rw [List.length_map,List.length_reverse]; omega) (by omega) s4 s5 s6 s7
     have e3:(st.reverse.map wt++(nxt u).map wt++(Dq B u).map wt)=((Dq B u).reverse++(nxt u++st)).reverse.map wt:=by
       have hr:(nxt u).reverse=nxt u:=by unfold nxt; split <;> rfl
       rw [List.reverse_append,List.reverse_append,List.reverse_reverse,hr,List.map_append,List.map_append]
     rw [e3] at e2; obtain ⟨t4,t5,t6,t7,e4⟩:=ih (fun v hv=>hu v (.tail _ hv)) n (T++[tl u]) a4 a5 a6 a7 (by omega) (by rw [List.length_append]; simp; omega)
     refine ⟨t4,t5,t6,t7,?_⟩; unfold U2; have ec:Tc 2 [Sl.sh b,.ow (.tuple [.dict kvs,.none]),.ow (.list (st.reverse.map wt++[wt u])),.ow (.list T),s4,s5,s6,s7]=.ok true:=by
       show Res.ok (!(st.reverse.map wt++[wt u]).isEmpty)=_
       simp
     rw [ec,D1,if_pos rfl,e2]; show U2 (Tc 2) Tf n _=_
     rw [e4,List.append_assoc]; rfl
theorem fO {B:List Ad} (h:∀ a∈B,Tj a.w):(sgs B).length<=4*B.length:=by
 unfold sgs
 induction B with
 | nil=>exact Nat.le_refl _
 | cons a B ih =>
   rw [List.flatMap_cons,List.length_append,List.length_cons]; have:=ih fun c hc=>h c (.tail _ hc)
   have h2:=(h a (.head _)).2.1; have h3:(blk a).length=a.w.length:=by unfold blk; simp
   omega
theorem V4 {L:List Dp} {B:List Ad} (A:BkA L B):(ord B).length<=4*L.length:=by
 have h1:=(cH A.bk).length_eq
 have h2:=fO A.wd
 have h3:=A.len
 omega
theorem Qn {L:List Dp} {B:List Ad} (A:BkA L B) (hl:L.length<=9):Q6 [.tuple (L.map (·.1))]=.ok (.list ((ord B).map tl)):=by
 obtain ⟨kvs,e1,hk⟩:=Zp A hl
 have hol:=V4 A
 unfold Q6 Ba K7
 refine Ar ?_
 unfold J3
 simp only [List.map_cons,List.map_nil,List.length_cons,List.length_nil,Nat.reduceAdd,Nat.reduceSub,List.replicate,List.cons_append,List.nil_append]
 rw [B5 (δ':=[.sh (.tuple (L.map (·.1))),.ow (.tuple [.dict kvs,.none]),.un,.un,.un,.un,.un,.un]) (by unfold Ac Cy Pw; simp_arith [e1])]
 have hrl:(Gy B).length<=36:=by
   have:=(Vr A.bk).len; rw [List.length_reverse] at this; omega
 have hgl:(B.filter fun a=>a.b=none).length=(Gy B).length:=by unfold Gy; rw [List.length_map]
 have hget:(fun δ=>((Ih 1 (vC .none) (F3 A9)) δ).bind E3) [.sh (.tuple (L.map (·.1))),.ow (.tuple [.dict kvs,.none]),.un,.un,.un,.un,.un,.un]=.ok ((B.filter fun a=>a.b=none).map Ad.d):=by
   refine I9 (d:=.list ((B.filter fun a=>a.b=none).map Ad.d)) ?_ rfl
   rw [<- hk none]; rfl
 rw [B5 (δ':=[.sh (.tuple (L.map (·.1))),.ow (.tuple [.dict kvs,.none]),.ow (.list (((Gy B).reverse).reverse.map wt)),.un,.un,.un,.un,.un]) (by
   unfold Ab Hj; rw [L3 hget (by rw [List.length_map,hgl]; omega) rfl (Wz _ _),D1,List.reverse_reverse]
   unfold Gy; rw [List.map_map]; rfl)]
 rw [B5 (δ':=[.sh (.tuple (L.map (·.1))),.ow (.tuple [.dict kvs,.none]),.ow (.list (((Gy B).reverse).reverse.map wt)),.ow (.list []),.un,.un,.un,.un]) (by rfl)]
 obtain ⟨t4,t5,t6,t7,e2⟩:=Zt (b:=.tuple (L.map (·.1))) hk (Vr A.bk) (fun u hu=>((Bc A.bk u).mp hu).2) 4096 [] .un .un .un .un (by omega) (by simp; omega)
 rw [List.nil_append] at e2
 have e3:Aa=U2 (Tc 2) Tf 4096:=rfl
 rw [e3,B5 e2]
 rfl
noncomputable def Nl:Dn->Out:=(sIf (P9 (C3 (b2 (b2 (A3 2) (vC (.int 0)) dIx) (vC (.str "undo")) dEq)) (C3 (T5 true 1 (b2 (A3 2) (vC (.int 1)) dIx)))) (Eo 1 (b2 (A3 2) (vC (.int 2)) dIx) (vC (.bool true))) E8)
noncomputable def Gk:Dn->Out:=(sIf (P9 (C3 (b2 (b2 (A3 3) (vC (.int 0)) dIx) (vC (.str "drop")) dEq)) (C3 (T5 true 1 (b2 (A3 3) (vC (.int 1)) dIx)))) (N9 (fun δ=>((b2 (A3 3) (vC (.int 2)) dIx) δ).bind E3) (st1 4) (Eo 2 (A3 4) (vC (.bool true)))) E8)
abbrev sgO (s:IdP×Nat):PyData:=anD (some s)
inductive Kd (e:Dp):Prop where
 | drop (ss:List (IdP×Nat)):e.1=.tuple [.str "drop",idP e.2,.tuple (ss.map sgO)]->ss.length<=40->Kd e
 | undo (q:IdP):e.1=.tuple [.str "undo",idP e.2,idP q]->Kd e
 | oth (k:Str) (x:PyData) (xs:List PyData):e.1=.tuple (.str k::idP e.2::x::xs)->k ≠ "drop" -> k ≠ "undo" -> Kd e
theorem Qp {T:Int} {D:List PyData}:∀ (sg:List PyData),(∀ x∈sg,SgOf T D x)->∃ ss:List (IdP×Nat),sg=ss.map sgO
 | [],_=>⟨[],rfl⟩
 | x::sg,h=>by
   obtain ⟨ss,e⟩:=Qp sg fun y hy=>h y (.tail _ hy)
   obtain ⟨p,b,w,n,_,e1,_⟩:=h x (.head _); exact ⟨(p,n)::ss,by rw [List.map_cons,<- e,e1]; rfl⟩
theorem WfIn.kd {L:List Dp} {e:Dp} (h:WfIn L e):Kd e:=by
 obtain ⟨o,r⟩:=(show Wf _ _ _ _ from h)
 rcases r with ⟨b,w,e1,_⟩ | ⟨sg,e1,hs,hl,_⟩ | ⟨n,s1,x1,s2,x2,e1,_⟩ | ⟨n,e1,_⟩ | ⟨q,e1,_⟩
 . exact .oth "add" _ _ e1 (by decide) (by decide)
 . obtain ⟨ss,rfl⟩:=Qp sg hs
   exact .drop ss e1 (by simpa using hl)
 . exact .oth "mark" _ _ e1 (by decide) (by decide)
 . exact .oth "unmark" _ _ e1 (by decide) (by decide)
 . exact .undo q e1
theorem Kd.id {e:Dp} (h:Kd e):∃ k x xs,e.1=.tuple (.str k::idP e.2::x::xs):=by
 cases h with
 | drop ss h _=>exact ⟨_,_,_,h⟩
 | undo q h=>exact ⟨_,_,_,h⟩
 | oth k x xs h _ _=>exact ⟨_,_,_,h⟩
abbrev oN (kvs:Kvs):Sl:=.ow (.tuple [.dict kvs,.none])
abbrev fN (kvs:Kvs):Sl:=.fd ((.dict [],.none)::kvs)
theorem Eg {b:Bool} {i:Nat} {f:Dn->Res PyData} {δ:Dn} {kvs:Kvs} {kd:PyData} (h:kvN δ i=some kvs) (hf:f δ=.ok kd) (hk:nkD kd=true):T5 b i f δ=.ok (.bool ((M7 kvs kd).isSome != b)):=by
 unfold T5
 rw [hf,C6,h]
 show (if nkD kd=true then _ else _)=_
 rw [if_pos hk]
theorem Pe (p:IdP):nkD (idP p)=true:=by simp [nkD,Dr,isK,PyData.depth,PyData.depthAll]
theorem Qv {i:Nat} {fk fv:Dn->Res PyData} {δ:Dn} {kvs:Kvs} {kd v:PyData} (h:δ[i]? = some (oN kvs)) (hv:fv δ=.ok v) (hk:fk δ=.ok kd) (hn:nkD kd=true) (hl:kvs.length<=1000):Eo i fk fv δ=.nx (δ.set i (oN (O0 kvs kd v))):=by
 unfold Eo
 rw [h]
 show K2 (fv δ) _=_
 rw [hv,D1,hk,D1,if_pos ⟨hn,Nat.lt_of_le_of_lt hl (by decide)⟩]
theorem aK {x y:Str} (h:x≠y):(x==y)=false:=beq_eq_false_iff_ne.mpr h
theorem aL (x:Str):(x==x)=true:=beq_self_eq_true x
abbrev has (kvs:Kvs) (y:Option (IdP×Nat)):Bool:=(M7 kvs (anD y)).isSome
abbrev Ez (kvs:Kvs):Prop:=∀ p∈kvs,∃ x,p.1=anD x
theorem bQ {kvs:Kvs} (h:Ez kvs) (x:Option (IdP×Nat)) (v:PyData):Ez (O0 kvs (anD x) v)/\∀ y,has (O0 kvs (anD x) v) y=(decide (x=y)||has kvs y):=by
 induction kvs with
 | nil =>
   refine ⟨fun p hp=>?_,fun y=>?_⟩
   . rw [List.mem_singleton.mp hp]; exact ⟨x,rfl⟩
   . show ((List.find? (fun p=>PyData.eqv p.1 (anD y)) [(anD x,v)]).map (·.2)).isSome=_
     rw [List.find?_cons,O5]
     cases decide (x=y) <;> rfl
 | cons p r ih =>
   obtain ⟨z,hz⟩:=h p (.head _); obtain ⟨i1,i2⟩:=ih fun q hq=>h q (.tail _ hq)
   unfold O0; rw [hz,O5]
   by_cases c:z=x
   . rw [if_pos (decide_eq_true c)]
     refine ⟨fun q hq=>?_,fun y=>?_⟩
     . rcases List.mem_cons.mp hq with rfl | hq
       . exact ⟨z,rfl⟩
       . exact h q (.tail _ hq)
     . unfold has M7
       rw [List.find?_cons,List.find?_cons,hz,O5,c]
       cases decide (x=y) <;> rfl
   . rw [if_neg (by rw [decide_eq_false c]; decide)]
     refine ⟨fun q hq=>?_,fun y=>?_⟩
     . rcases List.mem_cons.mp hq with rfl | hq
       . exact ⟨z,hz⟩
       . exact i1 q hq
     . unfold has M7
       rw [List.find?_cons,List.find?_cons,hz,O5]
       cases hd:decide (z=y) with
       | true=>simp
       | false=>exact i2 y
noncomputable def Dd (un:IdP->Bool) (e:Dp) (s:IdP×Nat):Bool:=match e.1 with
 | .tuple (.str k::_::.tuple xs::_)=>(k == "drop")&&(!un e.2)&&(xs.any fun y=>PyData.eqv y (sgO s))
 | _=>false
theorem Nb {un:IdP->Bool} {e:Dp} {s:IdP×Nat} {k:Str} {i x:PyData} {xs:List PyData} (h:e.1=.tuple (.str k::i::x::xs)) (hk:k ≠ "drop"):Dd un e s=false:=by
 unfold Dd
 rw [h]
 split
 . rename_i heq
   injection heq with heq
   injection heq with h1 _
   injection h1 with h1
   rw [<- h1,aK hk]; rfl
 . rfl
theorem Re (b:PyData) (ku:Kvs) (s3:Sl):∀ (ss:List (IdP×Nat)) (kvs:Kvs) (s4:Sl),Ez kvs->kvs.length+ss.length<=900->∃ kvs' s4',Ez kvs'/\kvs'.length<=kvs.length+ss.length/\(∀ y,has kvs' y=(has kvs y||ss.any fun s=>decide (some s=y))) /\
   E6 (st1 4) (Eo 2 (A3 4) (vC (.bool true))) (ss.map sgO) [.sh b,fN ku,oN kvs,s3,s4]=.nx [.sh b,fN ku,oN kvs',s3,s4']
 | [],kvs,s4,hk,_=>⟨kvs,s4,hk,by simp,fun y=>by simp,rfl⟩
 | s::ss,kvs,s4,hk,hl=>by
   rw [List.length_cons] at hl; obtain ⟨g1,g2⟩:=bQ hk (some s) (.bool true); have l1:=Am (k:=sgO s) (v:=PyData.bool true) kvs; obtain ⟨kvs',s4',k1,k2,k3,k4⟩:=Re b ku s3 ss (O0 kvs (sgO s) (.bool true)) (.sh (sgO s)) g1 (by omega)
   refine ⟨kvs',s4',k1,by rw [List.length_cons]; omega,fun y=>?_,?_⟩
   . rw [k3,g2,List.any_cons]
     cases decide (some s=y) <;> simp
   . rw [List.map_cons]
     unfold E6; simp only [st1,List.set_cons_zero,List.set_cons_succ]; rw [Qv (kd:=sgO s) (v:=.bool true) rfl rfl rfl (Gm _) (by omega)]; exact k4
theorem eA {e:Dp} (h:Kd e) (b:PyData) (ku kvs:Kvs) (s4:Sl) (hk:Ez kvs) (hl:kvs.length<=800):∃ kvs' s4',Ez kvs'/\kvs'.length<=kvs.length+40/\(∀ s,has kvs' (some s)=(has kvs (some s)||Dd (fun p=>(M7 ku (idP p)).isSome) e s)) /\
   Gk [.sh b,fN ku,oN kvs,.sh e.1,s4]=.nx [.sh b,fN ku,oN kvs',.sh e.1,s4']:=by
 have no : ∀ k x xs, e.1 = .tuple (.str k :: idP e.2 :: x :: xs) -> k ≠ "drop" -> ∃ kvs' s4', Ez kvs' /\ kvs'.length <= kvs.length + 40 /\ (∀ s, has kvs' (some s) = (has kvs (some s) || Dd (fun p => (M7 ku (idP p)).isSome) e s)) /\
     Gk [.sh b,fN ku,oN kvs,.sh e.1,s4]=.nx [.sh b,fN ku,oN kvs',.sh e.1,s4']:=fun k x xs e1 hn=>by
   refine ⟨kvs,s4,hk,by omega,fun s=>by rw [Nb e1 hn,Bool.or_false],?_⟩
   unfold Gk; rw [U1 (Kr (by rw [e1]; simp_arith [Bs,Hl,aK hn]))]
   rfl
 cases h with
 | undo q h=>exact no _ _ _ h (by decide)
 | oth k x xs h h1 _=>exact no _ _ _ h h1
 | drop ss h hss =>
   have c1:(C3 (b2 (b2 (A3 3) (vC (.int 0)) dIx) (vC (.str "drop")) dEq)) [.sh b,fN ku,oN kvs,.sh e.1,s4]=.ok true:=by rw [h]; simp_arith [Bs,Hl,aL]
   have c2:(C3 (T5 true 1 (b2 (A3 3) (vC (.int 1)) dIx))) [.sh b,fN ku,oN kvs,.sh e.1,s4]=.ok ((M7 ku (idP e.2)).isSome != true):=by
     refine C5 (Eg rfl ?_ (Pe e.2)); rw [h]; simp_arith [Ij]
   have hd:∀ s,Dd (fun p=>(M7 ku (idP p)).isSome) e s=(!(M7 ku (idP e.2)).isSome&&ss.any fun t=>decide (some t=some s)):=fun s=>by
     unfold Dd; rw [h]; show (("drop" : Str) == "drop" && (!(M7 ku (idP e.2)).isSome)&&((ss.map sgO).any fun y=>PyData.eqv y (sgO s)))=_
     rw [aL,Bool.true_and,List.any_map]
     congr 1
     congr 1
     funext t
     exact O5 _ _
   unfold Gk
   cases c:(M7 ku (idP e.2)).isSome with
   | true =>
     rw [c] at c2 hd; rw [U1 (Ew c1 c2)]; exact ⟨kvs,s4,hk,by omega,fun s=>by rw [hd]; simp,rfl⟩
   | false =>
     rw [c] at c2 hd; obtain ⟨kvs',s4',k1,k2,k3,k4⟩:=Re b ku (.sh e.1) ss kvs s4 hk (by omega)
     refine ⟨kvs',s4',k1,by omega,fun s=>by rw [k3,hd]; simp,?_⟩
     rw [Y2 (Hx c1 c2)]; unfold N9; rw [I9 (d:=.tuple (ss.map sgO)) (ds:=ss.map sgO) (by rw [h]; simp_arith [aC]) rfl,D1]
     exact k4
theorem Sn (b:PyData) (ku:Kvs):∀ (ds:List Dp),(∀ e∈ds,Kd e)->∀ (kvs:Kvs) (s3 s4:Sl),Ez kvs->kvs.length+40*ds.length<=800->∃ kvs' s3' s4',Ez kvs'/\(∀ s,has kvs' (some s)=(has kvs (some s)||ds.any fun e=>Dd (fun p=>(M7 ku (idP p)).isSome) e s)) /\
   E6 (st1 3) Gk (ds.map (·.1)) [.sh b,fN ku,oN kvs,s3,s4]=.nx [.sh b,fN ku,oN kvs',s3',s4']
 | [],_,kvs,s3,s4,hk,_=>⟨kvs,s3,s4,hk,fun s=>by simp,rfl⟩
 | e::ds,h,kvs,s3,s4,hk,hl=>by
   rw [List.length_cons] at hl; obtain ⟨kvs1,t4,g1,g2,g3,g4⟩:=eA (h e (.head _)) b ku kvs s4 hk (by omega)
   obtain ⟨kvs2,u3,u4,k1,k2,k3⟩:=Sn b ku ds (fun d hd=>h d (.tail _ hd)) kvs1 (.sh e.1) t4 g1 (by omega)
   refine ⟨kvs2,u3,u4,k1,fun s=>by rw [k2,g3,List.any_cons,Bool.or_assoc],?_⟩
   rw [List.map_cons]; unfold E6; simp only [st1,List.set_cons_zero,List.set_cons_succ]; rw [g4]; exact k3
theorem mS {L:List Dp} (h:∀ e∈L,Kd e) (hl:L.length<=9) (ku:Kvs):∃ kd,F7 [.sh (.tuple (L.map (·.1))),fN ku]=.ok kd/\∀ s,has kd (some s)=L.any fun e=>Dd (fun p=>(M7 ku (idP p)).isSome) e s:=by
 obtain ⟨kd,s3,s4,k1,k2,k3⟩:=Sn (.tuple (L.map (·.1))) ku L h [] .un .un (fun _ h=>nomatch h) (by simp; omega)
 refine ⟨kd,?_,fun s=>by rw [k2]; rfl⟩
 unfold F7 X5 V5 iA Dh Ie Dj N9 Ru
 simp only [List.length_cons,List.length_nil,Nat.reduceAdd,Nat.reduceSub,List.replicate,List.cons_append,List.nil_append,List.set_cons_zero,List.set_cons_succ,Cm,List.getElem?_cons_zero,Cc,C6,E3,D1]
 have k3':=k3
 unfold Gk at k3'
 unfold N9 at k3'
 rw [k3']
 rfl
noncomputable def Xe:Dn->Out:=(Y5 3 (E9 (A0 (A3 4) (A0 (Pz (T5 true 1 (b2 (b2 (A3 4) (vC (.int 0)) dIx) (vC (.int 0)) dIx)) (T5 true 2 (b2 (A3 4) (vC (.int 0)) dIx))) A9))))
abbrev bkD (L:List Dp):PyData:=.tuple (L.map (·.1))
structure Pr (L:List Dp) (ku kd:Kvs):Prop where
 u:M6 [bkD L]=.ok ku
 d:F7 [.sh (bkD L),fN ku]=.ok kd
 h:∀ s,has kd (some s)=L.any fun e=>Dd (fun p=>(M7 ku (idP p)).isSome) e s
noncomputable def un (ku:Kvs) (p:IdP):Bool:=(M7 ku (idP p)).isSome
noncomputable def I8 (ku kd:Kvs) (u:As):Bool := !(un ku u.1.p) && !(has kd (some (sgn u)))
theorem bne_true (b:Bool):(b != true) = !b:=by cases b <;> rfl
theorem fC {f g:Dn->Res PyData} {δ:Dn} {a b:Bool} (h1:f δ=.ok (.bool a)) (h2:g δ=.ok (.bool b)):Pz f g δ=.ok (.bool (a&&b)):=by
 unfold Pz
 rw [h1,C6]
 cases a with
 | true=>exact h2
 | false=>rfl
theorem Mm (b:PyData) (ku kd:Kvs):∀ (us:List As) (T:List PyData) (s4:Sl),T.length+us.length<=800->∃ s4',E6 (st1 4) Xe (us.map tl) [.sh b,fN ku,oN kd,.ow (.list T),s4]=.nx [.sh b,fN ku,oN kd,.ow (.list (T++us.map fun u=>.tuple [tl u,.bool (I8 ku kd u)])),s4']
 | [],T,s4,_=>⟨s4,by simp [E6]⟩
 | u::us,T,s4,hl=>by
   rw [List.length_cons] at hl; obtain ⟨s4',e⟩:=Mm b ku kd us (T++[.tuple [tl u,.bool (I8 ku kd u)]]) (.sh (tl u)) (by simp; omega)
   refine ⟨s4',?_⟩; rw [List.map_cons]; unfold E6; simp only [st1,List.set_cons_zero,List.set_cons_succ]; have e1:(T5 true 1 (b2 (b2 (A3 4) (vC (.int 0)) dIx) (vC (.int 0)) dIx)) [.sh b,fN ku,oN kd,.ow (.list T),.sh (tl u)]=.ok (.bool (!(un ku u.1.p))):=by
     rw [Eg (kvs:=ku) (kd:=idP u.1.p) rfl (by simp_arith [Bs]) (Pe _),bne_true]; rfl
   have e2:(T5 true 2 (b2 (A3 4) (vC (.int 0)) dIx)) [.sh b,fN ku,oN kd,.ow (.list T),.sh (tl u)]=.ok (.bool (!(has kd (some (sgn u))))):=by
     rw [Eg (kvs:=kd) (kd:=sgA u) rfl (by simp_arith [Bs]) (Gm (some (sgn u))),bne_true]; rfl
   have e3:Xe [.sh b,fN ku,oN kd,.ow (.list T),.sh (tl u)]=.nx [.sh b,fN ku,oN kd,.ow (.list (T++[.tuple [tl u,.bool (I8 ku kd u)]])),.sh (tl u)]:=by
     unfold Xe; exact Cn rfl (O9 (A7 (d:=tl u) (by simp_arith) (A7 (fC e1 e2) rfl))) (by omega)
   rw [e3]; show E6 (st1 4) Xe (us.map tl) _=_
   rw [e,List.append_assoc]; rfl
theorem Vy {L:List Dp} {B:List Ad} (A:BkA L B) (hl:L.length<=9) {ku kd:Kvs} (P:Pr L ku kd):F2 [bkD L]=.ok (.list ((ord B).map fun u=>.tuple [tl u,.bool (I8 ku kd u)])):=by
 have hol:=V4 A
 obtain ⟨s4,e⟩:=Mm (bkD L) ku kd (ord B) [] .un (by simp; omega)
 unfold F2 U9 E7
 refine Ar ?_
 unfold J3
 simp only [List.map_cons,List.map_nil,List.length_cons,List.length_nil,Nat.reduceAdd,Nat.reduceSub,List.replicate,List.cons_append,List.nil_append]
 rw [B5 (δ':=[.sh (bkD L),oN ku,.un,.un,.un]) (by unfold Q5 Cy Pw; simp_arith [P.u])]
 rw [B5 (δ':=[.sh (bkD L),fN ku,oN kd,.un,.un]) (by
   unfold Q4 kT Cy Nw; show K2 (Res.bind (Res.ok (bkD L)) fun d=>F7 [.sh d,fN ku]) _=_
   rw [C6,P.d]; rfl)]
 rw [B5 (δ':=[.sh (bkD L),fN ku,oN kd,.ow (.list []),.un]) (by rfl)]
 rw [List.nil_append] at e
 have e3:N0 [.sh (bkD L),fN ku,oN kd,.ow (.list []),.un]=.nx [.sh (bkD L),fN ku,oN kd,.ow (.list ((ord B).map fun u=>.tuple [tl u,.bool (I8 ku kd u)])),s4]:=by
   unfold N0 N9; rw [I9 (d:=.list ((ord B).map tl)) (ds:=(ord B).map tl) (by simp_arith [Qn A hl]) rfl,D1]
   exact e
 rw [B5 e3]
 rfl
theorem Ev {α:Type} {δc:Dn} {tt:Dn->Res Bool} {el:Dn->Res PyData} (g h:α->PyData) (f:α->Bool):∀ xs:List α,(∀ x∈xs,tt ([.sh (g x)]++δc)=.ok (f x))->(∀ x∈xs,el ([.sh (g x)]++δc)=.ok (h x))->D7 F5 δc tt el (xs.map g)=.ok ((xs.filter f).map h)
 | [],_,_=>rfl
 | x::xs,ht,he=>by
   have ih:=Ev g h f xs (fun y hy=>ht y (.tail _ hy)) fun y hy=>he y (.tail _ hy)
   have h1:=ht x (.head _); have h2:=he x (.head _); rw [List.map_cons]; unfold D7
   cases c:f x with
   | true =>
     rw [c] at h1; simp only [F5,h1,h2,ih]; rw [List.filter_cons,c,if_pos rfl,List.map_cons]
   | false =>
     rw [c] at h1; simp only [F5,h1,ih]; rw [List.filter_cons,c,if_neg (by decide)]
theorem Qo {L:List Dp} {B:List Ad} (A:BkA L B) (hl:L.length<=9) {ku kd:Kvs} (P:Pr L ku kd):G9 [bkD L]=.ok (.list (((ord B).filter (I8 ku kd)).map tl)):=by
 have hol:=V4 A
 have hp:=Vy A hl P
 unfold G9 Bb Bi
 refine Ar (N2 (V2 (L3 (I9 (d:=.list ((ord B).map fun u=>.tuple [tl u,.bool (I8 ku kd u)])) (by simp_arith [hp]) rfl) (by simp; omega) rfl ?_)))
 exact Ev (fun u=>.tuple [tl u,.bool (I8 ku kd u)]) tl (I8 ku kd) (ord B) (fun u _=>by
   unfold Y6; exact C5 (by simp_arith [Ij])) fun u _=>by unfold Y6; simp_arith [Bs]
theorem mB {u:As} (hw:Tj u.1.w) (h:u.2 < u.1.w.length):(ltr u).length=1/\PyData.strOk (ltr u)=true/\chOk 32 126 (ltr u):=by
 have h':u.2 < u.1.w.cps.toList.length:=by rw [<- Ob]; exact h
 have hc:=hw.2.2 _ (List.getElem_mem h')
 have e:u.1.w.cps.toList.getD u.2 0=u.1.w.cps.toList[u.2]:=by rw [List.getD_eq_getElem?_getD,List.getElem?_eq_getElem h']; rfl
 refine ⟨rfl,?_,?_⟩
 . unfold ltr
   rw [e]
   generalize u.1.w.cps.toList[u.2]=c at hc
   unfold PyData.strOk; simp
   omega
 . unfold ltr
   rw [e]; exact .one hc
theorem Io {α:Type} (f:α->Str):∀ us:List α,Ay (us.map fun u=>PyData.str (f u))=some (us.map f)
 | []=>rfl
 | u::us=>by
   show (Ay (us.map fun u=>PyData.str (f u))).map _=_
   rw [Io f us]; rfl
theorem dE {us:List As} (h:∀ u∈us,Tj u.1.w/\u.2 < u.1.w.length) (hl:us.length<=100):Nf "" (.list (us.map fun u=>PyData.str (ltr u)))=some (.str (Str.join "" (us.map ltr))):=by
 have hx:∀ x∈us.map ltr,x.length=1/\PyData.strOk x=true/\chOk 32 126 x:=fun x hx=>by
   obtain ⟨u,hu,rfl⟩:=List.mem_map.mp hx; exact mB (h u hu).1 (h u hu).2
 obtain ⟨l1,o1,_⟩:=Fx _ hx
 have s1:=Im _ hx
 rw [List.length_map] at l1 s1
 show (Ay (us.map fun u=>PyData.str (ltr u))).bind _=_
 rw [Io ltr us]
 show (if _ then _ else _)=_
 have:(("" : Str)).length=0:=rfl
 rw [if_pos ⟨by rw [s1,this]; omega,o1,Nat.le_trans (show _<=1000 by omega) Gw⟩]
theorem Vj {L:List Dp} {B:List Ad} (A:BkA L B) (hl:L.length<=9) {ku kd:Kvs} (P:Pr L ku kd):K0 [bkD L]=.ok (.str (Str.join "" (((ord B).filter (I8 ku kd)).map ltr))):=by
 have hol:=V4 A
 have hf:=List.length_filter_le (I8 ku kd) (ord B)
 have hs:=Qo A hl P
 have hj:=dE (us:=(ord B).filter (I8 ku kd)) (fun u hu=>by
   have:=(Bc A.bk u).mp (List.mem_filter.mp hu).1; exact ⟨A.wd _ this.1,this.2⟩) (by omega)
 have hc:F1 (fun δ=>((C2 (A0 (A3 0) A9) G9) δ).bind E3) F5 [] P8 (b2 (A3 0) (vC (.int 1)) dIx) [.sh (bkD L)]=.ok (((ord B).filter (I8 ku kd)).map fun u=>PyData.str (ltr u)) :=
   L3 (I9 (d:=.list (((ord B).filter (I8 ku kd)).map tl)) (by simp_arith [hs]) rfl) (by simp; omega) rfl (Ck tl (fun u=>PyData.str (ltr u)) (fun u=>by unfold Y6; simp_arith [Ij]) _)
 unfold K0 Cd Cq
 refine Ar (N2 ?_)
 show (Mb "" _ [.sh (bkD L)])=_
 unfold Mb
 rw [V2 hc,C6,hj]; rfl
theorem V9 {st:PyData->Dn->Option Dn} {body:Dn->Out} {d:PyData} {ds:List PyData} {δ δ1 δ':Dn} (h1:st d δ=some δ1) (h2:body δ1=.nx δ'):E6 st body (d::ds) δ=E6 st body ds δ':=by
 conv=>lhs; unfold E6
 rw [h1]
 show (match body δ1 with | .nx δ'=>_ | .ct δ'=>_ | .bk δ'=>_ | o=>_)=_
 rw [h2]
theorem iE (p q:IdP):PyData.eqv (idP p) (idP q)=decide (p=q):=by
 show ((p.1==q.1)&&((p.2==q.2)&&true))=_
 rw [Bool.eq_iff_iff]
 simp [Prod.ext_iff]
noncomputable def Ii (d:PyData):Option IdP:=match d with
 | .tuple [.str k,_,.tuple [.int t,.str h]]=>if k = "undo" then some (t,h) else none
 | _=>none
theorem Tl {k:Str} {i x:PyData} {xs:List PyData} (h:k ≠ "undo"):Ii (.tuple (.str k::i::x::xs))=none:=by
 unfold Ii
 split
 . rename_i heq
   injection heq with heq
   injection heq with h1 _
   injection h1 with h1
   rw [<- h1,if_neg h]
 . rfl
theorem Qb (i:PyData) (q:IdP):Ii (.tuple [.str "undo",i,idP q])=some q:=by
 unfold Ii
 exact if_pos rfl
noncomputable def Ro (e:Dp) (o:List IdP):List IdP:=match Ii e.1 with
 | some q=>if e.2∈o then o else o++[q]
 | none=>o
theorem Yl {e:Dp} {q:IdP} (h:e.1=.tuple [.str "undo",idP e.2,idP q]) (o:List IdP):Ro e o=if e.2∈o then o else o++[q]:=by
 unfold Ro; rw [h,Qb]
theorem Rn {e:Dp} {k:Str} {i x:PyData} {xs:List PyData} (h:e.1=.tuple (.str k::i::x::xs)) (hk:k ≠ "undo") (o:List IdP):Ro e o=o:=by
 unfold Ro; rw [h,Tl hk]
noncomputable def Rm:List Dp->List IdP->List IdP
 | [],o=>o
 | e::r,o=>Rm r (Ro e o)
abbrev off (L:List Dp):List IdP:=Rm L.reverse []
abbrev Nv (kvs:Kvs):Prop:=∀ p∈kvs,∃ x:IdP,p.1=idP x
theorem Yg {kvs:Kvs} (h:Nv kvs) (x:IdP) (v:PyData):Nv (O0 kvs (idP x) v)/\∀ y,un (O0 kvs (idP x) v) y=(decide (x=y)||un kvs y):=by
 induction kvs with
 | nil =>
   refine ⟨fun p hp=>?_,fun y=>?_⟩
   . rw [List.mem_singleton.mp hp]; exact ⟨x,rfl⟩
   . show ((List.find? (fun p=>PyData.eqv p.1 (idP y)) [(idP x,v)]).map (·.2)).isSome=_
     rw [List.find?_cons,iE]
     cases decide (x=y) <;> rfl
 | cons p r ih =>
   obtain ⟨z,hz⟩:=h p (.head _); obtain ⟨i1,i2⟩:=ih fun q hq=>h q (.tail _ hq)
   unfold O0; rw [hz,iE]
   by_cases c:z=x
   . rw [if_pos (decide_eq_true c)]
     refine ⟨fun q hq=>?_,fun y=>?_⟩
     . rcases List.mem_cons.mp hq with rfl | hq
       . exact ⟨z,rfl⟩
       . exact h q (.tail _ hq)
     . unfold un M7
       rw [List.find?_cons,List.find?_cons,hz,iE,c]
       cases decide (x=y) <;> rfl
   . rw [if_neg (by rw [decide_eq_false c]; decide)]
     refine ⟨fun q hq=>?_,fun y=>?_⟩
     . rcases List.mem_cons.mp hq with rfl | hq
       . exact ⟨z,hz⟩
       . exact i1 q hq
     . unfold un M7
       rw [List.find?_cons,List.find?_cons,hz,iE]
       cases hd:decide (z=y) with
       | true=>simp
       | false=>exact i2 y
theorem Xq {e:Dp} (h:Kd e) (b:PyData) (kvs:Kvs) (o:List IdP) (hk:Nv kvs) (ho:∀ p,un kvs p=decide (p∈o)) (hl:kvs.length<=900):∃ kvs',Nv kvs'/\kvs'.length<=kvs.length+1/\(∀ p,un kvs' p=decide (p∈Ro e o))/\Nl [.sh b,oN kvs,.sh e.1]=.nx [.sh b,oN kvs',.sh e.1]:=by
 have no:∀ k x xs,e.1=.tuple (.str k::idP e.2::x::xs)->k ≠ "undo" -> ∃ kvs',Nv kvs'/\kvs'.length<=kvs.length+1/\(∀ p,un kvs' p=decide (p∈Ro e o))/\Nl [.sh b,oN kvs,.sh e.1]=.nx [.sh b,oN kvs',.sh e.1]:=fun k x xs e1 hk2=>by
   refine ⟨kvs,hk,Nat.le_succ _,by rw [Rn e1 hk2]; exact ho,?_⟩
   unfold Nl; rw [U1 (Kr (by rw [e1]; simp_arith [Bs,Hl,aK hk2]))]
   rfl
 cases h with
 | drop ss h _=>exact no _ _ _ h (by decide)
 | oth k x xs h _ h2=>exact no _ _ _ h h2
 | undo q h =>
   have c1:(C3 (b2 (b2 (A3 2) (vC (.int 0)) dIx) (vC (.str "undo")) dEq)) [.sh b,oN kvs,.sh e.1]=.ok true:=by rw [h]; simp_arith [Bs,Hl,aL]
   have c2:(C3 (T5 true 1 (b2 (A3 2) (vC (.int 1)) dIx))) [.sh b,oN kvs,.sh e.1]=.ok (!(decide (e.2∈o))):=by
     refine C5 ?_; rw [Eg (kvs:=kvs) (kd:=idP e.2) rfl (by rw [h]; simp_arith [Ij]) (Pe e.2),bne_true]
     exact congrArg (fun z=>Res.ok (PyData.bool (!z))) (ho e.2)
   rw [Yl h]; unfold Nl
   by_cases c:e.2∈o
   . rw [decide_eq_true c] at c2
     rw [U1 (Ew c1 c2),if_pos c]; exact ⟨kvs,hk,Nat.le_succ _,ho,rfl⟩
   . rw [decide_eq_false c] at c2
     obtain ⟨g1,g2⟩:=Yg hk q (.bool true); rw [Y2 (Hx c1 c2),Qv (kd:=idP q) (v:=.bool true) rfl rfl (by rw [h]; simp_arith [aC]) (Pe q) (by omega),if_neg c]
     refine ⟨_,g1,Am kvs,fun p=>?_,rfl⟩
     rw [g2,ho]; rw [Bool.eq_iff_iff]; simp
     constructor
     . rintro (h | h)
       . exact .inr h.symm
       . exact .inl h
     . rintro (h | h)
       . exact .inr h
       . exact .inl h.symm
theorem Mc (b:PyData):∀ (ds:List Dp),(∀ e∈ds,Kd e)->∀ (kvs:Kvs) (o:List IdP) (s2:Sl),Nv kvs->(∀ p,un kvs p=decide (p∈o))->kvs.length+ds.length<=900->∃ kvs' s2',(∀ p,un kvs' p=decide (p∈Rm ds o))/\E6 (st1 2) Nl (ds.map (·.1)) [.sh b,oN kvs,s2]=.nx [.sh b,oN kvs',s2']
 | [],_,kvs,o,s2,_,ho,_=>⟨kvs,s2,ho,rfl⟩
 | e::ds,h,kvs,o,s2,hk,ho,hl=>by
   rw [List.length_cons] at hl; obtain ⟨kvs1,k1,l1,o1,e1⟩:=Xq (h e (.head _)) b kvs o hk ho (by omega)
   obtain ⟨kvs2,s2',o2,e2⟩:=Mc b ds (fun d hd=>h d (.tail _ hd)) kvs1 _ (.sh e.1) k1 o1 (by omega)
   exact ⟨kvs2,s2',o2,(V9 rfl e1).trans e2⟩
theorem fE {L:List Dp} (h:∀ e∈L,Kd e) (hl:L.length<=9):∃ kvs,M6 [.tuple (L.map (·.1))]=.ok kvs/\∀ p,un kvs p=decide (p∈off L):=by
 obtain ⟨kvs,s2,o,e⟩:=Mc (.tuple (L.map (·.1))) L.reverse (fun e he=>h e (List.mem_reverse.mp he)) [] [] .un (fun _ h=>nomatch h) (fun _=>rfl) (by simp; omega)
 refine ⟨kvs,?_,o⟩
 rw [List.map_reverse] at e
 unfold M6 Ae Z4 fnW J3 Ie Dj N9 Ru
 simp only [List.map_cons,List.map_nil,List.length_cons,List.length_nil,Nat.reduceAdd,Nat.reduceSub,List.replicate,List.cons_append,List.nil_append,List.set_cons_zero,List.set_cons_succ,Cm,List.getElem?_cons_zero,Cc,C6,Qx,D1]
 have e':=e
 unfold Nl at e'
 rw [e']
 rfl
structure Pq (L:List Dp) (ku kd:Kvs):Prop where
 P:Pr L ku kd
 o:∀ p,un ku p=decide (p∈off L)
theorem Vz {L:List Dp} (h:∀ e∈L,Kd e) (hl:L.length<=9):∃ ku kd,Pq L ku kd:=by
 obtain ⟨ku,e1,e4⟩:=fE h hl
 obtain ⟨kd,e2,e3⟩:=mS h hl ku
 exact ⟨ku,kd,⟨e1,e2,e3⟩,e4⟩
theorem mX {i:Nat} {c:Dn->Res Bool} {δ δ':Dn} {r:Res Bool} (h:fz i δ=δ') (h2:c δ'=r):cFz i c δ=r:=by unfold cFz; rw [h,h2]
theorem Kd.tid {e:Dp} (h:Kd e):dIx e.1 (.int 1)=some (idP e.2):=by
 obtain ⟨k,x,xs,e1⟩:=h.id
 rw [e1]; exact Ij _ _ _
theorem Bk.last {B:List Ad} {e:Ad} (h:Bk (B++[e])):Bk B/\(∀ a∈B,key a.p < key e.p)/\(e.b=none\/∃ a∈B,∃ n,n < a.w.length/\e.b=some (a.p,n)):=by
 generalize hC:B++[e]=C at h
 cases h with
 | nil=>simp at hC
 | @snoc B1 e1 hB _ hk hb =>
   obtain ⟨e2,e3⟩:=List.append_inj' hC rfl; cases e3; subst e2; exact ⟨hB,hk,hb⟩
theorem Adds.init {e:Dp}:∀ {L:List Dp} {B:List Ad},Adds (L++[e]) B->∃ B',Adds L B'/\(B=B'\/∃ a,B=B'++[a])
 | [],B,h=>by
   cases h with
   | add a h=>cases h; exact ⟨[],.nil,.inr ⟨a,rfl⟩⟩
   | oth k x xs h1 h2 h=>cases h; exact ⟨[],.nil,.inl rfl⟩
 | y::L,B,h=>by
   cases h with
   | add a h =>
     obtain ⟨B',h1,h2⟩:=Adds.init (L:=L) h; refine ⟨a::B',.add a h1,?_⟩; rcases h2 with rfl | ⟨c,rfl⟩
     . exact .inl rfl
     . exact .inr ⟨c,rfl⟩
   | oth k x xs h1 h2 h =>
     obtain ⟨B',h3,h4⟩:=Adds.init (L:=L) h; exact ⟨B',.oth k x xs h1 h2 h3,h4⟩
theorem Adds.inL {L:List Dp} {B:List Ad} (h:Adds L B):B.length<=L.length/\∀ a∈B,(a.d,a.p)∈L:=by
 induction h with
 | nil=>exact ⟨Nat.le_refl _,fun _ h=>nomatch h⟩
 | add a _ ih =>
   refine ⟨Nat.succ_le_succ ih.1,fun c hc=>?_⟩
   rcases List.mem_cons.mp hc with rfl | hc
   . exact .head _
   . exact .tail _ (ih.2 c hc)
 | oth k x xs _ _ _ ih=>exact ⟨Nat.le_succ_of_le ih.1,fun c hc=>.tail _ (ih.2 c hc)⟩
theorem BkA.init {L:List Dp} {e:Dp} {B:List Ad} (A:BkA (L++[e]) B):∃ B',BkA L B'/\(B=B'\/∃ a,B=B'++[a]):=by
 obtain ⟨B',h1,h2⟩:=A.ad.init
 have sub:∀ a∈B',a∈B:=fun a ha=>by
   rcases h2 with rfl | ⟨c,rfl⟩
   . exact ha
   . exact List.mem_append.mpr (.inl ha)
 refine ⟨B',⟨h1,?_,fun a ha=>A.wd a (sub a ha),fun a ha=>A.id a (sub a ha),h1.inL.2,h1.inL.1⟩,h2⟩
 have:=A.bk
 rcases h2 with rfl | ⟨c,rfl⟩
 . exact this
 . exact this.last.1
noncomputable def inO (O:List As) (u:As):Bool:=O.any fun v=>decide (sgn v=sgn u)
theorem Sf {O:List As} {u:As} (h:u∈O):inO O u=true:=List.any_eq_true.mpr ⟨u,h,decide_eq_true rfl⟩
theorem Ug {B B':List Ad} (hB:Bk B) (h:B=B'\/∃ a,B=B'++[a]):(ord B).filter (inO (ord B'))=ord B':=by
 rcases h with rfl | ⟨a,rfl⟩
 . exact List.filter_eq_self.mpr fun u hu=>Sf hu
 . obtain ⟨h1,h2,h3⟩:=hB.last
   have no:∀ u∈blk a,inO (ord B') u=false:=fun u hu=>by
     unfold inO; rw [List.any_eq_false]; intro v hv z; have z:=of_decide_eq_true z; have h4:=h2 v.1 ((Bc h1 v).mp hv).1; have h5:v.1.p=u.1.p:=congrArg Prod.fst z; rw [(Oz.mp hu).1] at h5; rw [h5] at h4; omega
   rw [Ce]; rcases h3 with hb | ⟨c,hc,n,hn,hb⟩
   . rw [hb]
     show (blk a++ord B').filter _=_
     rw [List.filter_append,List.filter_eq_nil_iff.mpr (fun u hu=>by rw [no u hu]; decide),List.nil_append]
     exact List.filter_eq_self.mpr fun u hu=>Sf hu
   . rw [hb]
     exact Sd no fun u hu=>Sf hu
theorem lT {O:List As} (nd:(O.map sgn).Nodup) {u v:As} (hu:u∈O) (hv:v∈O) (h:sgn u=sgn v):u=v:=by
 induction O with
 | nil=>cases hu
 | cons x O ih =>
   rw [List.map_cons,List.nodup_cons] at nd; rcases List.mem_cons.mp hu with e1 | h1
   . rcases List.mem_cons.mp hv with e2 | h2
     . exact e1.trans e2.symm
     . exact absurd (List.mem_map_of_mem (f:=sgn) h2) (by rw [<- h,e1]; exact nd.1)
   . rcases List.mem_cons.mp hv with e2 | h2
     . exact absurd (List.mem_map_of_mem (f:=sgn) h1) (by rw [h,e2]; exact nd.1)
     . exact ih nd.2 h1 h2
theorem Kj {O:List As} (nd:(O.map sgn).Nodup) (f:As->Bool) {u:As} (hu:u∈O):inO (O.filter f) u=f u:=by
 cases c:f u with
 | true=>exact Sf (List.mem_filter.mpr ⟨hu,c⟩)
 | false =>
   unfold inO; rw [List.any_eq_false]; intro v hv z; have hv:=List.mem_filter.mp hv; rw [lT nd hv.1 hu (of_decide_eq_true z),c] at hv; exact absurd hv.2 (by decide)
theorem BkW.pre {L1:List Dp}:∀ (n:Nat) (L2:List Dp),L2.length=n->BkW (L1++L2)->BkW L1
 | 0,L2,h,W=>by cases List.eq_nil_of_length_eq_zero h; rw [List.append_nil] at W; exact W
 | n+1,L2,h,W=>by
   have hne:L2≠[]:=fun z=>by rw [z] at h; cases h
   rw [<- List.dropLast_concat_getLast hne,<- List.append_assoc] at W; exact BkW.pre n L2.dropLast (by rw [List.length_dropLast]; omega) W.init
theorem iX {x y:Option (IdP×Nat)} (h:anD x=anD y):x=y:=by
 have:=O5 x y
 rw [h,O5] at this
 exact of_decide_eq_true (this.symm.trans (decide_eq_true rfl))
theorem Zq {L:List Dp} {B B':List Ad} (h:Adds L B) (h':Adds L B'):B=B':=by
 induction h generalizing B' with
 | nil=>cases h'; rfl
 | add a _ ih =>
   generalize hy:((a.d,a.p):Dp)=y at h'
   cases h' with
   | add a' h' =>
     have e1:=congrArg Prod.fst hy; have e2:a=a':=by
       have e3:=congrArg Prod.snd hy
       cases a; cases a'
       simp only [Ad.d] at e1 e3
       injection e1 with e1
       injection e1 with _ e1
       injection e1 with _ e1
       injection e1 with e4 e1
       injection e1 with e5 _
       injection e5 with e5
       subst e3 e5; rw [iX e4]
     rw [e2,ih h']
   | oth k x xs h1 h2 h' =>
     rw [<- hy] at h1
     injection h1 with h1
     injection h1 with h1 _
     injection h1 with h1
     exact absurd h1.symm h2
 | oth k x xs h1 h2 _ ih =>
   rename_i e _
   cases e
   cases h' with
   | add a' h' =>
     injection h1 with h1
     injection h1 with h1 _
     injection h1 with h1
     exact absurd h1.symm h2
   | oth k' x' xs' h1' h2' h'=>exact ih h'
structure Sub (B B1:List Ad):Prop where
 f:(ord B).filter (inO (ord B1))=ord B1
 m:∀ a∈B1,a∈B
theorem BkA.pre {L1:List Dp}:∀ (n:Nat) (L2:List Dp) (B:List Ad),L2.length=n->BkA (L1++L2) B->∃ B1,BkA L1 B1/\Sub B B1/\((∀ e∈L2,∃ k x xs,e.1=.tuple (.str k::idP e.2::x::xs)/\k ≠ "add")->B1=B)
 | 0,L2,B,h,A=>by
   cases List.eq_nil_of_length_eq_zero h
   rw [List.append_nil] at A; exact ⟨B,A,⟨List.filter_eq_self.mpr fun u hu=>Sf hu,fun a h=>h⟩,fun _=>rfl⟩
 | n+1,L2,B,h,A=>by
   have hne:L2≠[]:=fun z=>by rw [z] at h; cases h
   rw [<- List.dropLast_concat_getLast hne,<- List.append_assoc] at A; obtain ⟨B',A',hB⟩:=A.init; obtain ⟨B1,A1,⟨s1,s2⟩,s3⟩:=BkA.pre n L2.dropLast B' (by rw [List.length_dropLast]; omega) A'
   have f1:=Ug A.bk hB; refine ⟨B1,A1,⟨?_,fun a ha=>?_⟩,fun hk=>?_⟩
   . have : (ord B).filter (inO (ord B1)) = ((ord B).filter (inO (ord B'))).filter (inO (ord B1)) := by
       rw [List.filter_filter]; refine List.filter_congr fun u _=>?_
       cases c:inO (ord B1) u with
       | false=>rfl
       | true =>
         obtain ⟨v,hv,e⟩:=List.any_eq_true.mp c; have:v∈ord B':=by rw [<- s1] at hv; exact (List.mem_filter.mp hv).1
         have:inO (ord B') u=true:=List.any_eq_true.mpr ⟨v,this,e⟩; rw [this]; rfl
     rw [this,f1,s1]
   . rcases hB with rfl | ⟨c,rfl⟩
     . exact s2 a ha
     . exact List.mem_append.mpr (.inl (s2 a ha))
   . have e1:=s3 fun e he=>hk e ((List.dropLast_sublist L2).subset he)
     rw [e1]; obtain ⟨k,x,xs,e2,e3⟩:=hk _ (List.getLast_mem hne); have h1:=(A'.ad).snocO k x xs e2 e3; exact Zq h1 A.ad
noncomputable def mk (l:List Nat):Str:=⟨l.toArray⟩
noncomputable def cp (u:As):Nat:=u.1.w.cps.toList.getD u.2 0
def Ok (l:List Nat):Prop:=∀ c∈l,32<=c/\c<=126
theorem cZ (a b:List Nat):mk a++mk b=mk (a++b):=by
 show (⟨a.toArray++b.toArray⟩:Str)=⟨(a++b).toArray⟩
 simp
theorem Cg (l:List Nat):(mk l).length=l.length:=by rw [Ob]; rfl
theorem mk_ok {l:List Nat} (h:Ok l):chOk 32 126 (mk l):=fun c hc=>h c hc
theorem Wl (us:List As):Str.join "" (us.map ltr)=mk (us.map cp):=by
 have one:∀ (x:Str) (r:List Str),Str.join "" (x::r)=x++Str.join "" r:=fun x r=>by
   cases r with
   | nil =>
     show x=x++(⟨#[]⟩:Str)
     show x=(⟨x.cps ++ #[]⟩:Str)
     cases x; simp
   | cons y r =>
     show x++("" : Str)++Str.join "" (y::r)=_
     have:x++("" : Str)=x:=by
       show (⟨x.cps ++ #[]⟩:Str)=x
       cases x; simp
     rw [this]
 induction us with
 | nil=>rfl
 | cons u us ih =>
   rw [List.map_cons,one,ih,List.map_cons]; exact cZ [cp u] _
theorem jJ {α:Type} (l:List α):∀ (n a:Nat),a+n<=l.length->((List.range n).map fun k=>a+k).filterMap (l[·]?)=(l.drop a).take n
 | 0,a,_=>by simp
 | n+1,a,h=>by
   have hlt:a+n < l.length:=by omega
   rw [List.range_succ,List.map_append,List.filterMap_append,jJ l n a (by omega),List.take_add_one,List.getElem?_drop]; simp [hlt]
theorem Wy {l:List Nat} {lo hi:Option Int} {a b:Nat} (e:PySem.Builtin.Str.strSliceIndices lo hi 1 l.length=PySem.Builtin.Str.strSliceIndices (some (a:Int)) (some (b:Int)) 1 l.length) (hab:a<=b) (hb:b<=l.length):Gf (mk l) lo hi=mk ((l.drop a).take (b - a)):=by
 unfold Gf
 rw [Cg,e,PySem.StrLaws.strSliceIndices_plain hab hb]
 have p:=jJ l (b - a) a (by omega)
 have p':((List.range (b - a)).map fun k=>a+k).filterMap ((mk l).cps[·]?)=(l.drop a).take (b - a):=by
   rw [<- p,show (fun k=>(mk l).cps[k]?)=(fun k=>l[k]?) from funext fun k=>by show l.toArray[k]? = l[k]?; simp]
 split
 . rename_i h
   simp only [List.length_map,List.length_range,beq_iff_eq] at h; have ha:a=0:=by omega
   have hb:b=l.length:=by omega
   subst ha hb; simp
 . rw [p']; rfl
theorem eF (l:List Nat) (k:Nat) (h:k<=l.length):Gf (mk l) none (some (k:Int))=mk (l.take k):=by
 rw [Wy (a:=0) (b:=k) (by unfold PySem.Builtin.Str.strSliceIndices; simp; rw [show max (0:Int) (min 0 (l.length:Int))=0 from by omega]) (Nat.zero_le _) h]; simp
theorem eG (l:List Nat) (k:Nat) (h:k<=l.length):Gf (mk l) (some (k:Int)) none=mk (l.drop k):=by
 rw [Wy (a:=k) (b:=l.length) (by unfold PySem.Builtin.Str.strSliceIndices; simp; rw [if_neg (show ¬ ((l.length:Int) < 0) by omega),show max (0:Int) (min (l.length:Int) (l.length:Int))=l.length from by omega]) h (Nat.le_refl _),List.take_of_length_le (by simp)]
abbrev Chg:=Nat×List Nat×List Nat
noncomputable def chD (c:Chg):PyData:=.tuple [.int (c.1:Int),.str (mk c.2.1),.str (mk c.2.2)]
noncomputable def Kx (x:List Nat) (c:Chg):List Nat:=x.take c.1++(c.2.2++x.drop (c.1+c.2.1.length))
noncomputable def app (x:List Nat) (cs:List Chg):List Nat:=cs.foldl Kx x
abbrev CS:=List Chg×Option Chg×Nat
noncomputable def K9 (w t:Bool) (c:Nat) (s:CS):CS:=match w,t with
 | true,true=>(s.1++s.2.1.toList,none,s.2.2+1)
 | true,false=>let q:=s.2.1.getD (s.2.2,[],[]); (s.1,some (q.1,q.2.1++[c],q.2.2),s.2.2)
 | false,true=>let q:=s.2.1.getD (s.2.2,[],[]); (s.1,some (q.1,q.2.1,q.2.2++[c]),s.2.2+1)
 | false,false=>s
abbrev D8 (s:CS):List Chg:=s.1++s.2.1.toList
noncomputable def Fh (w t:As->Bool) (s:CS) (us:List As):CS:=us.foldl (fun s u=>K9 (w u) (t u) (cp u) s) s
structure CI (s:CS) (W T:List Nat) (n:Nat):Prop where
 p:s.2.2=T.length
 a:match s.2.1 with
   | none=>∀ R,app (W++R) s.1=T++R
   | some q=>∃ A,T=A++q.2.2/\A.length=q.1/\∀ R,app (W++R) s.1=A++(q.2.1++R)
 sum:((D8 s).map fun c=>(c.2.2.length:Int) - c.2.1.length).sum=(T.length:Int) - W.length
 ok:∀ c∈D8 s,Ok c.2.1/\Ok c.2.2
 ns:((D8 s).map fun c=>c.2.2.length).sum<=n
 ln:(D8 s).length<=n
 in':∀ (k:Nat) (R:List Nat) c,(D8 s)[k]? = some c->c.1+c.2.1.length<=(app (W++R) ((D8 s).take k)).length
theorem eQ (x:List Nat) (cs:List Chg) (c:Chg):app x (cs++[c])=Kx (app x cs) c:=by unfold app; rw [List.foldl_append]; rfl
theorem iW (A o n R:List Nat):Kx (A++(o++R)) (A.length,o,n)=A++(n++R):=by
 unfold Kx
 rw [List.take_left,show A.length+o.length=(A++o).length from by simp,<- List.append_assoc A o R,List.drop_left]
theorem CI.app {s:CS} {W T:List Nat} {n:Nat} (h:CI s W T n) (R:List Nat):Sm.app (W++R) (D8 s)=T++R:=by
 obtain ⟨T0,op,p⟩:=s
 have:=h.a
 cases op with
 | none=>simp only [D8,Option.toList_none,List.append_nil]; exact this R
 | some q =>
   obtain ⟨A,e1,e2,e3⟩:=this; obtain ⟨q1,o,m⟩:=q; simp only [D8,Option.toList_some]; rw [eQ,e3 R]; simp only at e1 e2; rw [<- e2,iW,e1,List.append_assoc]
theorem CI.nil:CI ([],none,0) [] [] 0:=⟨rfl,fun R=>rfl,rfl,(fun c h=>nomatch h),Nat.le_refl _,Nat.le_refl _,fun k R c h=>by cases h⟩
theorem Md {α:Type} {a:List α} {o:Option α} {k:Nat} {c:α} (h:(a++o.toList)[k]? = some c):(k < a.length/\a[k]? = some c/\(a++o.toList).take k=a.take k)\/(k=a.length/\o=some c/\(a++o.toList).take k=a):=by
 rcases Nat.lt_or_ge k a.length with z | z
 . rw [List.getElem?_append_left z] at h
   exact .inl ⟨z,h,List.take_append_of_le_length (Nat.le_of_lt z)⟩
 . rw [List.getElem?_append_right z] at h
   cases o with
   | none=>cases h
   | some d =>
     have:k - a.length=0:=by
       cases e:k - a.length with
       | zero=>rfl
       | succ m=>rw [e] at h; cases h
     rw [this] at h; have hk:k=a.length:=by omega
     subst hk; cases h; exact .inr ⟨rfl,rfl,List.take_left⟩
theorem CI.open {T0:List Chg} {op:Option Chg} {p:Nat} {W T:List Nat} {n:Nat} (h:CI (T0,op,p) W T n):∃ A q,op.getD (p,[],[])=q/\T=A++q.2.2/\A.length=q.1/\(∀ R,Sm.app (W++R) T0=A++(q.2.1++R))/\Ok q.2.1/\Ok q.2.2 /\
   ((T0++[q]).map fun c=>(c.2.2.length:Int) - c.2.1.length).sum=(T.length:Int) - W.length/\((T0++[q]).map fun c=>c.2.2.length).sum<=n/\T0.length+1<=n+1/\((∀ c∈D8 (T0,op,p),c.2.2=[])->q.2.2=[]):=by
 have a:=h.a
 have hp:=h.p
 have hs:=h.sum
 have hn:=h.ns
 have hl:=h.ln
 simp only [D8] at hs hn hl a hp
 cases op with
 | none =>
   simp only [Option.toList_none,List.append_nil] at hs hn hl; refine ⟨T,(p,[],[]),rfl,(List.append_nil T).symm,hp.symm,fun R=>a R,(fun c hc=>nomatch hc),(fun c hc=>nomatch hc),?_,?_,by omega,fun _=>rfl⟩
   . rw [List.map_append,List.sum_append,hs]; simp
   . rw [List.map_append,List.sum_append]; simpa using hn
 | some q =>
   simp only [Option.toList_some,List.length_append,List.length_cons,List.length_nil] at hs hn hl; obtain ⟨A,e1,e2,e3⟩:=a; have hk:=h.ok q (by simp [D8])
   exact ⟨A,q,rfl,e1,e2,e3,hk.1,hk.2,hs,hn,by omega,fun z=>z q (by simp [D8])⟩
theorem CI.step {s:CS} {W T:List Nat} {n:Nat} (h:CI s W T n) (w t:Bool) {c:Nat} (hc:32<=c/\c<=126):CI (K9 w t c s) (if w then W++[c] else W) (if t then T++[c] else T) (n+1):=by
 obtain ⟨T0,op,p⟩:=s
 have hO:Ok [c]:=fun d hd=>by rw [List.mem_singleton.mp hd]; exact hc
 have okA:∀ {a b:List Nat},Ok a->Ok b->Ok (a++b):=fun ha hb d hd=>(List.mem_append.mp hd).elim (ha d) (hb d)
 have hp:=h.p
 simp only at hp
 have mono:∀ {X:List Nat} (k:Nat) (R:List Nat) (d:Chg),(D8 (T0,op,p))[k]? = some d->d.1+d.2.1.length<=(Sm.app (W++([c]++R)) ((D8 (T0,op,p)).take k)).length:=fun k R d e=>h.in' k _ d e
 cases w with
 | true =>
   cases t with
   | true =>
     refine ⟨by simp [K9,hp],fun R=>?_,?_,?_,?_,?_,?_⟩
     . have:=h.app ([c]++R)
       simp only [K9,if_true,D8,List.append_assoc] at this ⊢
       exact this
     . have:=h.sum
       simp only [K9,D8,Option.toList_none,List.append_nil,if_true,List.length_append,List.length_cons,List.length_nil] at this ⊢
       omega
     . have:=h.ok
       simpa only [K9,D8,Option.toList_none,List.append_nil] using this
     . have:=h.ns
       simp only [K9,D8,Option.toList_none,List.append_nil] at this ⊢
       omega
     . have:=h.ln
       simp only [K9,D8,Option.toList_none,List.append_nil] at this ⊢
       omega
     . intro k R d e
       simp only [K9,D8,Option.toList_none,List.append_nil,if_true,List.append_assoc] at e ⊢
       exact h.in' k _ d e
   | false =>
     obtain ⟨A,q,e0,e1,e2,e3,o1,o2,s1,n1,l1,_⟩:=h.open; simp only [K9,e0,if_true,Bool.false_eq_true,if_false]; refine ⟨hp,⟨A,e1,e2,fun R=>?_⟩,?_,?_,?_,?_,?_⟩
     . have:=e3 ([c]++R)
       simp only [List.append_assoc] at this ⊢
       exact this
     . simp only [D8,Option.toList_some,List.map_append,List.sum_append,List.map_cons,List.map_nil,List.sum_cons,List.sum_nil,List.length_append,List.length_cons,List.length_nil] at s1 ⊢
       omega
     . intro d hd
       simp only [D8,Option.toList_some] at hd; rcases List.mem_append.mp hd with hd | hd
       . exact h.ok d (List.mem_append.mpr (.inl hd))
       . rw [List.mem_singleton.mp hd]; exact ⟨okA o1 hO,o2⟩
     . simp only [D8,Option.toList_some,List.map_append,List.sum_append,List.map_cons,List.map_nil,List.sum_cons,List.sum_nil] at n1 ⊢
       omega
     . simp only [D8,Option.toList_some,List.length_append,List.length_cons,List.length_nil]; omega
     . intro k R d e
       rcases Md e with ⟨z,e',e4⟩ | ⟨z,e',e4⟩
       . rw [show D8 (T0,some (q.1,q.2.1++[c],q.2.2),p)=T0++(some (q.1,q.2.1++[c],q.2.2)).toList from rfl,e4]
         have:=h.in' k ([c]++R) d (by rw [show D8 (T0,op,p)=T0++op.toList from rfl,List.getElem?_append_left z]; exact e')
         rw [show (D8 (T0,op,p)).take k=T0.take k from List.take_append_of_le_length (Nat.le_of_lt z),<- List.append_assoc] at this; exact this
       . cases e'
         rw [show D8 (T0,some (q.1,q.2.1++[c],q.2.2),p)=T0++(some (q.1,q.2.1++[c],q.2.2)).toList from rfl,e4,List.append_assoc,e3 ([c]++R)]
         simp only [List.length_append,List.length_cons,List.length_nil]; omega
 | false =>
   cases t with
   | true =>
     obtain ⟨A,q,e0,e1,e2,e3,o1,o2,s1,n1,l1,_⟩:=h.open; simp only [K9,e0,if_true,Bool.false_eq_true,if_false]; refine ⟨by simp [hp],⟨A,by rw [e1,List.append_assoc],e2,e3⟩,?_,?_,?_,?_,?_⟩
     . simp only [D8,Option.toList_some,List.map_append,List.sum_append,List.map_cons,List.map_nil,List.sum_cons,List.sum_nil,List.length_append,List.length_cons,List.length_nil] at s1 ⊢
       omega
     . intro d hd
       simp only [D8,Option.toList_some] at hd; rcases List.mem_append.mp hd with hd | hd
       . exact h.ok d (List.mem_append.mpr (.inl hd))
       . rw [List.mem_singleton.mp hd]; exact ⟨o1,okA o2 hO⟩
     . simp only [D8,Option.toList_some,List.map_append,List.sum_append,List.map_cons,List.map_nil,List.sum_cons,List.sum_nil,List.length_append,List.length_cons,List.length_nil] at n1 ⊢
       omega
     . simp only [D8,Option.toList_some,List.length_append,List.length_cons,List.length_nil]; omega
     . intro k R d e
       rcases Md e with ⟨z,e',e4⟩ | ⟨z,e',e4⟩
       . rw [show D8 (T0,some (q.1,q.2.1,q.2.2++[c]),p+1)=T0++(some (q.1,q.2.1,q.2.2++[c])).toList from rfl,e4]
         have:=h.in' k R d (by rw [show D8 (T0,op,p)=T0++op.toList from rfl,List.getElem?_append_left z]; exact e')
         rw [show (D8 (T0,op,p)).take k=T0.take k from List.take_append_of_le_length (Nat.le_of_lt z)] at this; exact this
       . cases e'
         rw [show D8 (T0,some (q.1,q.2.1,q.2.2++[c]),p+1)=T0++(some (q.1,q.2.1,q.2.2++[c])).toList from rfl,e4,e3 R]
         simp only [List.length_append]; omega
   | false =>
     simp only [K9,Bool.false_eq_true,if_false]; exact ⟨h.p,h.a,h.sum,h.ok,Nat.le_succ_of_le h.ns,Nat.le_succ_of_le h.ln,h.in'⟩
theorem bJ (w t:As->Bool):∀ (us:List As) {s:CS} {W T:List Nat} {n:Nat},(∀ u∈us,32<=cp u/\cp u<=126)->CI s W T n->CI (Fh w t s us) (W++(us.filter w).map cp) (T++(us.filter t).map cp) (n+us.length)
 | [],s,W,T,n,_,h=>by simpa [Fh] using h
 | u::us,s,W,T,n,hu,h=>by
   have:=bJ w t us (fun v hv=>hu v (.tail _ hv)) (h.step (w u) (t u) (hu u (.head _)))
   have e1:(if w u then W++[cp u] else W)++(us.filter w).map cp=W++((u::us).filter w).map cp:=by
     cases c:w u <;> simp [c]
   have e2:(if t u then T++[cp u] else T)++(us.filter t).map cp=T++((u::us).filter t).map cp:=by
     cases c:t u <;> simp [c]
   rw [e1,e2,show n+1+us.length=n+(u::us).length from by simp; omega] at this
   exact this
theorem Vs {w t:As->Bool}:∀ (us:List As) (s:CS),(∀ u∈us,t u=true->w u=true)->(∀ c∈D8 s,c.2.2=[])->∀ c∈D8 (Fh w t s us),c.2.2=[]
 | [],s,_,h=>h
 | u::us,s,hu,h=>by
   refine Vs us _ (fun v hv=>hu v (.tail _ hv)) fun c hc=>?_
   obtain ⟨T0,op,p⟩:=s; have hh:=hu u (.head _); have hc:c∈D8 (K9 (w u) (t u) (cp u) (T0,op,p)):=hc
   cases ew:w u with
   | true =>
     cases et:t u with
     | true=>rw [ew,et] at hc; exact h c (by simpa [K9,D8] using hc)
     | false =>
       rw [ew,et] at hc; simp only [K9,D8,Option.toList_some] at hc; rcases List.mem_append.mp hc with hc | hc
       . exact h c (List.mem_append.mpr (.inl hc))
       . rw [List.mem_singleton.mp hc]
         cases op with
         | none=>rfl
         | some q=>exact h q (by simp [D8])
   | false =>
     cases et:t u with
     | true=>rw [hh et] at ew; cases ew
     | false=>rw [ew,et] at hc; exact h c hc
theorem Jr {w t:As->Bool}:∀ (us:List As) (p:Nat),(∀ u∈us,t u=w u)->D8 (Fh w t ([],none,p) us)=[]
 | [],_,_=>rfl
 | u::us,p,hu=>by
   have e:=hu u (.head _); show D8 (Fh w t (K9 (w u) (t u) (cp u) ([],none,p)) us)=[]
   cases ew:w u with
   | true=>rw [show t u=true from by rw [e,ew]]; exact Jr us _ fun v hv=>hu v (.tail _ hv)
   | false=>rw [show t u=false from by rw [e,ew]]; exact Jr us _ fun v hv=>hu v (.tail _ hv)
noncomputable def Si (t:Bool) (c:Nat) (q:Chg):Chg:=if t then (q.1,q.2.1,q.2.2++[c]) else (q.1,q.2.1++[c],q.2.2)
theorem iZ {a b:List Nat} (h:a.length+b.length<=1000):C4 (.str (mk a)) (.str (mk b))=some (.str (mk (a++b))):=by
 rw [nB (by rw [Cg,Cg]; exact h),cZ]
theorem dR (q:Chg) (u:As) (t:Bool) (h1:q.2.1.length<=500) (h2:q.2.2.length<=500):Y8 [chD q,.str (ltr u),.bool t]=.ok (chD (Si t (cp u) q)):=by
 obtain ⟨p,o,n⟩:=q
 refine Ar ?_
 have hl:ltr u=mk [cp u]:=rfl
 have i0:dIx (chD (p,o,n)) (.int 0)=some (.int (p:Int)):=Bs _ _
 have i1:dIx (chD (p,o,n)) (.int 1)=some (.str (mk o)):=Ij _ _ _
 have i2:dIx (chD (p,o,n)) (.int 2)=some (.str (mk n)):=aC _ _ _ _
 show C0 _ _ [.sh (chD (p,o,n)),.sh (.str (ltr u)),.sh (.bool t)]=_
 cases t with
 | true =>
   refine Em ((Y2 (C5 rfl)).trans (N2 (O9 (A7 (B9 rfl rfl i0) (A7 (B9 rfl rfl i1) (A7 (B9 (B9 rfl rfl i2) rfl ?_) rfl)))))); rw [hl]; exact iZ (by simp at h2 ⊢; omega)
 | false =>
   refine (B5 (δ':=[.sh (chD (p,o,n)),.sh (.str (ltr u)),.sh (.bool false)]) (U1 (C5 rfl))).trans ?_; refine N2 (O9 (A7 (B9 rfl rfl i0) (A7 (B9 (B9 rfl rfl i1) rfl ?_) (A7 (B9 rfl rfl i2) rfl)))); rw [hl]; exact iZ (by simp at h1 ⊢; omega)
theorem Sa (n:Nat):ixN (n+1) (-1)=some n:=by
 unfold ixN
 rw [if_neg (by omega),if_pos (by omega)]
 congr 1
 omega
theorem Xg {W:List PyData} {x:PyData}:dIx (.list (W++[x])) (.int (-1))=some x:=by
 show atI (W++[x]) (-1)=_
 unfold atI
 rw [List.length_append,show W.length+[x].length=W.length+1 from rfl,Sa]
 simp
noncomputable def lB:Dn->Out:=(Qw 3 (b1 (vC (.int 1)) Dv) (Xp 3 (C2 (A0 (b2 (A3 3) (b1 (vC (.int 1)) Dv) dIx) (A0 (b2 (A3 7) (vC (.int 1)) dIx) (A0 (A3 8) A9))) Y8)))
noncomputable def kF:Dn->Out:=(C0 (sIf (Zl (C3 (A3 4))) (Y5 3 (E9 (A0 (A3 5) (A0 (vC (.str "")) (A0 (vC (.str "")) A9))))) E8) (C0 (D3 4 (vC (.bool true))) lB))
noncomputable def eN:Dn->Out:=(C0 (D3 7 (b2 (A3 6) (vC (.int 0)) dIx)) (C0 (D3 8 (b2 (A3 6) (vC (.int 1)) dIx)) (C0 (D3 9 (T5 false 2 (b2 (A3 7) (vC (.int 0)) dIx))) (C0 (sIf (P9 (C3 (A3 9)) (C3 (A3 8))) (D3 4 (vC (.bool false))) (sIf (cOr (C3 (A3 9)) (C3 (A3 8))) kF E8)) (sIf (C3 (A3 8)) (D3 5 (b2 (A3 5) (vC (.int 1)) C4)) E8)))))
noncomputable section
variable (b1 b2:PyData) (kt:Kvs)
abbrev dC (W:List PyData) (tc:Bool) (p:Nat) (s6 s7 s8 s9:Sl):Dn:=[.sh b1,.sh b2,oN kt,.ow (.list W),.sh (.bool tc),.sh (.int (p:Int)),s6,s7,s8,s9]
theorem iB (q:Chg):dH (chD q)=true:=rfl
theorem bP (W:List PyData) (q:Chg) (p:Nat) (u:As) (t w:Bool) (s6:Sl) (h1:q.2.1.length<=500) (h2:q.2.2.length<=500):lB (dC b1 b2 kt (W++[chD q]) true p s6 (.sh (tl u)) (.sh (.bool t)) (.sh (.bool w)))=.nx (dC b1 b2 kt (W++[chD (Si t (cp u) q)]) true p s6 (.sh (tl u)) (.sh (.bool t)) (.sh (.bool w))):=by
 have e1:(Xp 3 (C2 (A0 (Sm.b2 (A3 3) (Sm.b1 (vC (.int 1)) Dv) dIx) (A0 (Sm.b2 (A3 7) (vC (.int 1)) dIx) (A0 (A3 8) A9))) Y8)) (dC b1 b2 kt (W++[chD q]) true p s6 (.sh (tl u)) (.sh (.bool t)) (.sh (.bool w)))=.ok (chD (Si t (cp u) q)):=by
   unfold Xp; have:(C2 (A0 (Sm.b2 (A3 3) (Sm.b1 (vC (.int 1)) Dv) dIx) (A0 (Sm.b2 (A3 7) (vC (.int 1)) dIx) (A0 (A3 8) A9))) Y8) (fz 3 (dC b1 b2 kt (W++[chD q]) true p s6 (.sh (tl u)) (.sh (.bool t)) (.sh (.bool w))))=.ok (chD (Si t (cp u) q)) :=
     D2 (A7 (B9 (x:=.list (W++[chD q])) (y:=.int (-1)) rfl rfl Xg) (A7 (B9 (x:=tl u) (y:=.int 1) rfl rfl (Ij _ _ _)) (A7 rfl rfl))) (dR q u t h1 h2)
   rw [this,C6,if_pos (iB _)]
 unfold lB Qw
 show K2 (_:Res PyData) _=_
 rw [e1,D1]
 show (match ixN (W++[chD q]).length (-1) with | some j=>_ | none=>_)=_
 rw [List.length_append,show W.length+[chD q].length=W.length+1 from rfl,Sa]
 show Out.nx (dC b1 b2 kt ((W++[chD q]).set W.length _) true p s6 (.sh (tl u)) (.sh (.bool t)) (.sh (.bool w)))=_
 rw [List.set_append_right _ _ (Nat.le_refl _),Nat.sub_self]; rfl
theorem kE (T0:List Chg) (op:Option Chg) (p:Nat) (u:As) (t w:Bool) (s6:Sl) (hl:T0.length<=500) (h1:(op.getD (p,[],[])).2.1.length<=500) (h2:(op.getD (p,[],[])).2.2.length<=500) :
   kF (dC b1 b2 kt ((T0++op.toList).map chD) op.isSome p s6 (.sh (tl u)) (.sh (.bool t)) (.sh (.bool w)))=.nx (dC b1 b2 kt ((T0++[Si t (cp u) (op.getD (p,[],[]))]).map chD) true p s6 (.sh (tl u)) (.sh (.bool t)) (.sh (.bool w))):=by
 unfold kF
 cases op with
 | none =>
   have e1:(sIf (Zl (C3 (A3 4))) (Y5 3 (E9 (A0 (A3 5) (A0 (vC (.str "")) (A0 (vC (.str "")) A9))))) E8) (dC b1 b2 kt ((T0++(none:Option Chg).toList).map chD) false p s6 (.sh (tl u)) (.sh (.bool t)) (.sh (.bool w)))=.nx (dC b1 b2 kt (T0.map chD++[chD (p,[],[])]) false p s6 (.sh (tl u)) (.sh (.bool t)) (.sh (.bool w))):=by
     refine (Y2 (by unfold Zl; rw [C5 (b:=false) rfl]; rfl)).trans ?_
     refine Cn (W:=T0.map chD) (by simp) (d:=chD (p,[],[])) (O9 (A7 rfl (A7 rfl (A7 rfl rfl)))) (by simp; omega)
   refine (B5 e1).trans ((B5 (δ':=dC b1 b2 kt (T0.map chD++[chD (p,[],[])]) true p s6 (.sh (tl u)) (.sh (.bool t)) (.sh (.bool w))) rfl).trans ?_); rw [bP b1 b2 kt (T0.map chD) (p,[],[]) p u t w s6 h1 h2,List.map_append]; rfl
 | some q =>
   refine (B5 (δ':=dC b1 b2 kt ((T0++(some q).toList).map chD) true p s6 (.sh (tl u)) (.sh (.bool t)) (.sh (.bool w))) ((U1 (by unfold Zl; rw [C5 (b:=true) rfl]; rfl)).trans rfl)).trans ((B5 (δ':=dC b1 b2 kt (T0.map chD++[chD q]) true p s6 (.sh (tl u)) (.sh (.bool t)) (.sh (.bool w))) ?_).trans ?_)
   . rw [List.map_append]; rfl
   . rw [bP b1 b2 kt (T0.map chD) q p u t w s6 h1 h2,List.map_append]; rfl
theorem aM {T0:List Chg} {op:Option Chg} {p:Nat} (u:As) (t w:Bool) (hw:(M7 kt (sgA u)).isSome=w) (hl:T0.length<=500) (h1:(op.getD (p,[],[])).2.1.length<=500) (h2:(op.getD (p,[],[])).2.2.length<=500) (s7 s8 s9:Sl) :
   eN (dC b1 b2 kt ((D8 (T0,op,p)).map chD) op.isSome p (.sh (.tuple [tl u,.bool t])) s7 s8 s9) =
     .nx (dC b1 b2 kt ((D8 (K9 w t (cp u) (T0,op,p))).map chD) (K9 w t (cp u) (T0,op,p)).2.1.isSome (K9 w t (cp u) (T0,op,p)).2.2 (.sh (.tuple [tl u,.bool t])) (.sh (tl u)) (.sh (.bool t)) (.sh (.bool w))):=by
 unfold eN
 refine (B5 (D6 (B9 (x:=.tuple [tl u,.bool t]) (y:=.int 0) rfl rfl (Bs _ _)))).trans ?_
 refine (B5 (D6 (B9 (x:=.tuple [tl u,.bool t]) (y:=.int 1) rfl rfl (Ij _ _ _)))).trans ?_
 have ew:T5 false 2 (Sm.b2 (A3 7) (vC (.int 0)) dIx) (dC b1 b2 kt ((D8 (T0,op,p)).map chD) op.isSome p (.sh (.tuple [tl u,.bool t])) (.sh (tl u)) (.sh (.bool t)) s9)=.ok (.bool w):=by
   refine (Eg (kvs:=kt) (kd:=sgA u) rfl (B9 (x:=tl u) (y:=.int 0) rfl rfl (Bs _ _)) (Gm (some (sgn u)))).trans ?_; rw [hw]; cases w <;> rfl
 refine (B5 (D6 ew)).trans ?_
 show C0 _ _ (dC b1 b2 kt ((D8 (T0,op,p)).map chD) op.isSome p (.sh (.tuple [tl u,.bool t])) (.sh (tl u)) (.sh (.bool t)) (.sh (.bool w)))=_
 have plus:∀ (W:List PyData) (tc:Bool),(sIf (C3 (A3 8)) (D3 5 (Sm.b2 (A3 5) (vC (.int 1)) C4)) E8) (dC b1 b2 kt W tc p (.sh (.tuple [tl u,.bool t])) (.sh (tl u)) (.sh (.bool t)) (.sh (.bool w)))=.nx (dC b1 b2 kt W tc (if t then p+1 else p) (.sh (.tuple [tl u,.bool t])) (.sh (tl u)) (.sh (.bool t)) (.sh (.bool w))):=fun W tc=>by
   cases t with
   | true=>exact (Y2 (C5 rfl)).trans (D6 (d:=.int ((p+1:Nat):Int)) (B9 (x:=.int (p:Int)) (y:=.int 1) rfl rfl rfl))
   | false=>exact (U1 (C5 rfl)).trans rfl
 have cA:(P9 (C3 (A3 9)) (C3 (A3 8))) (dC b1 b2 kt ((D8 (T0,op,p)).map chD) op.isSome p (.sh (.tuple [tl u,.bool t])) (.sh (tl u)) (.sh (.bool t)) (.sh (.bool w)))=.ok (w&&t):=by
   unfold P9; rw [C5 (b:=w) rfl,C6]
   cases w with
   | false=>rfl
   | true=>rw [if_pos rfl,C5 (b:=t) rfl]; rfl
 have cO:(cOr (C3 (A3 9)) (C3 (A3 8))) (dC b1 b2 kt ((D8 (T0,op,p)).map chD) op.isSome p (.sh (.tuple [tl u,.bool t])) (.sh (tl u)) (.sh (.bool t)) (.sh (.bool w)))=.ok (w||t):=by
   unfold cOr; rw [C5 (b:=w) rfl,C6]
   cases w with
   | false=>rw [if_neg (by decide),C5 (b:=t) rfl]; rfl
   | true=>rfl
 have tch:=kE b1 b2 kt T0 op p u t w (.sh (.tuple [tl u,.bool t])) hl h1 h2
 cases w with
 | true =>
   cases t with
   | true =>
     refine (B5 ((Y2 cA).trans (D6 (d:=.bool false) rfl))).trans ?_; refine (plus _ false).trans ?_; simp only [K9,D8,Option.toList_none,List.append_nil]; rfl
   | false =>
     refine (B5 ((U1 cA).trans ((Y2 cO).trans tch))).trans ?_; exact plus _ true
 | false =>
   cases t with
   | true =>
     refine (B5 ((U1 cA).trans ((Y2 cO).trans tch))).trans ?_; exact plus _ true
   | false =>
     refine (B5 ((U1 cA).trans ((U1 cO).trans rfl))).trans ?_; exact plus _ _
theorem jM (w t:As->Bool):∀ (us:List As) (s:CS) {W T:List Nat} {n:Nat},CI s W T n->n+us.length<=400->(∀ u∈us,(M7 kt (sgA u)).isSome=w u/\32<=cp u/\cp u<=126)->(∀ c∈D8 s,c.2.1.length<=n)->∀ s6 s7 s8 s9:Sl,∃ t6 t7 t8 t9,
   E6 (st1 6) eN (us.map fun u=>.tuple [tl u,.bool (t u)]) (dC b1 b2 kt ((D8 s).map chD) s.2.1.isSome s.2.2 s6 s7 s8 s9)=.nx (dC b1 b2 kt ((D8 (Fh w t s us)).map chD) (Fh w t s us).2.1.isSome (Fh w t s us).2.2 t6 t7 t8 t9)
 | [],s,W,T,n,h,hn,hu,ho,s6,s7,s8,s9=>⟨s6,s7,s8,s9,rfl⟩
 | u::us,s,W,T,n,h,hn,hu,ho,s6,s7,s8,s9=>by
   obtain ⟨T0,op,p⟩:=s; obtain ⟨hw,hc⟩:=hu u (.head _); simp only [List.length_cons] at hn; have hln:=h.ln; have hns:=h.ns; simp only [D8,List.length_append] at hln; have b1':(op.getD (p,[],[])).2.1.length<=500/\(op.getD (p,[],[])).2.2.length<=500:=by
     cases op with
     | none=>exact ⟨Nat.zero_le _,Nat.zero_le _⟩
     | some q =>
       refine ⟨by have:=ho q (by simp [D8]); simp only [Option.getD_some]; omega,?_⟩
       simp only [D8,Option.toList_some,List.map_append,List.sum_append,List.map_cons,List.map_nil,List.sum_cons,List.sum_nil] at hns; simp only [Option.getD_some]; omega
   have st:=aM b1 b2 kt (T0:=T0) (op:=op) (p:=p) u (t u) (w u) hw (by omega) b1'.1 b1'.2 s7 s8 s9
   have ho':∀ c∈D8 (K9 (w u) (t u) (cp u) (T0,op,p)),c.2.1.length<=n+1:=fun c hc'=>by
     have old:∀ c∈T0++op.toList,c.2.1.length<=n+1:=fun c hc=>Nat.le_succ_of_le (ho c hc)
     cases ew:w u with
     | true =>
       cases et:t u with
       | true=>rw [ew,et] at hc'; exact old c (by simpa [K9,D8] using hc')
       | false =>
         rw [ew,et] at hc'; simp only [K9,D8,Option.toList_some] at hc'; rcases List.mem_append.mp hc' with z | z
         . exact old c (List.mem_append.mpr (.inl z))
         . rw [List.mem_singleton.mp z]
           cases op with
           | none=>simp
           | some q=>have:=ho q (by simp [D8]); simp; omega
     | false =>
       cases et:t u with
       | true =>
         rw [ew,et] at hc'; simp only [K9,D8,Option.toList_some] at hc'; rcases List.mem_append.mp hc' with z | z
         . exact old c (List.mem_append.mpr (.inl z))
         . rw [List.mem_singleton.mp z]
           cases op with
           | none=>simp
           | some q=>have:=ho q (by simp [D8]); simp; omega
       | false=>rw [ew,et] at hc'; exact old c hc'
   obtain ⟨t6,t7,t8,t9,e⟩:=jM w t us (K9 (w u) (t u) (cp u) (T0,op,p)) (h.step (w u) (t u) hc) (by omega) (fun v hv=>hu v (.tail _ hv)) ho' (.sh (.tuple [tl u,.bool (t u)])) (.sh (tl u)) (.sh (.bool (t u))) (.sh (.bool (w u)))
   exact ⟨t6,t7,t8,t9,(V9 rfl st).trans e⟩
end
theorem Oe (u v:As):PyData.eqv (sgA u) (sgA v)=decide (sgn u=sgn v):=by
 rw [show sgA u=anD (some (sgn u)) from rfl,show sgA v=anD (some (sgn v)) from rfl,O5]
 congr 1
 exact propext ⟨fun h=>Option.some.inj h,fun h=>congrArg some h⟩
theorem Jv {k v:PyData}:∀ {kvs:Kvs},(∀ p∈kvs,PyData.eqv p.1 k=false)->O0 kvs k v=kvs++[(k,v)]
 | [],_=>rfl
 | p::r,h=>by
   unfold O0; rw [if_neg (by rw [h p (.head _)]; decide),Jv fun q hq=>h q (.tail _ hq)]; rfl
theorem Mo {α:Type} (f:α->PyData×PyData) (hk:∀ a,nkD (f a).1=true):∀ (us vs:List α),(vs++us).Pairwise (fun a b=>PyData.eqv (f a).1 (f b).1=false)->Dk (us.map fun a=>.tuple [(f a).1,(f a).2]) (vs.map f)=some ((vs++us).map f)
 | [],vs,_=>by rw [List.append_nil]; rfl
 | u::us,vs,pw=>by
   rw [List.map_cons]; unfold Dk; rw [if_pos (hk u),Jv (fun p hp=>by
     obtain ⟨a,ha,rfl⟩:=List.mem_map.mp hp; exact (List.pairwise_append.mp pw).2.2 a ha u (.head _))]
   have:=Mo f hk us (vs++[u]) (by rw [List.append_assoc]; exact pw)
   rw [List.map_append,List.append_assoc] at this; exact this
abbrev thE (v:As):PyData×PyData:=(sgA v,.bool true)
theorem aF (us:List As) (u:As):(M7 (us.map thE) (sgA u)).isSome=inO us u:=by
 unfold M7 inO
 rw [Option.isSome_map,Bool.eq_iff_iff,List.find?_isSome,List.any_eq_true]
 constructor
 . rintro ⟨x,hx,e⟩
   obtain ⟨v,hv,rfl⟩:=List.mem_map.mp hx; rw [Oe] at e; exact ⟨v,hv,e⟩
 . rintro ⟨v,hv,e⟩
   exact ⟨thE v,List.mem_map_of_mem hv,by rw [Oe]; exact e⟩
structure Two (L1 L2:List Dp) (B1 B2:List Ad) (ku1 kd1 ku2 kd2:Kvs):Prop where
 A1:BkA L1 B1
 A2:BkA L2 B2
 P1:Pq L1 ku1 kd1
 P2:Pq L2 ku2 kd2
 S:Sub B2 B1
 l1:L1.length<=9
 l2:L2.length<=9
abbrev txL (B:List Ad) (ku kd:Kvs):List Nat:=((ord B).filter (I8 ku kd)).map cp
noncomputable section
variable {L1 L2:List Dp} {B1 B2:List Ad} {ku1 kd1 ku2 kd2:Kvs}
abbrev Hf (B1:List Ad) (ku1 kd1:Kvs):As->Bool:=inO ((ord B1).filter (I8 ku1 kd1))
theorem Two.was (D:Two L1 L2 B1 B2 ku1 kd1 ku2 kd2):(ord B2).filter (Hf B1 ku1 kd1)=(ord B1).filter (I8 ku1 kd1):=by
 have nd:=Co D.A1.bk
 have e:(ord B2).filter (Hf B1 ku1 kd1)=((ord B2).filter (inO (ord B1))).filter (I8 ku1 kd1):=by
   rw [List.filter_filter]; refine List.filter_congr fun u hu=>?_
   cases c:inO (ord B1) u with
   | true =>
     have:u∈ord B1:=by rw [<- D.S.f]; exact List.mem_filter.mpr ⟨hu,c⟩
     rw [show Hf B1 ku1 kd1 u=I8 ku1 kd1 u from Kj nd _ this,Bool.and_true]
   | false =>
     rw [Bool.and_false]
     cases c':Hf B1 ku1 kd1 u with
     | false=>rfl
     | true =>
       obtain ⟨v,hv,q⟩:=List.any_eq_true.mp c'; have:inO (ord B1) u=true:=List.any_eq_true.mpr ⟨v,(List.mem_filter.mp hv).1,q⟩; rw [this] at c; cases c
 rw [e,D.S.f]
theorem eH {L:List Dp} {B:List Ad} (A:BkA L B) {u:As} (hu:u∈ord B):32<=cp u/\cp u<=126:=by
 have h:=(Bc A.bk u).mp hu
 have w:=A.wd _ h.1
 have hl:u.2 < u.1.w.cps.toList.length:=by rw [<- Ob]; exact h.2
 unfold cp
 rw [List.getD_eq_getElem?_getD,List.getElem?_eq_getElem hl]
 exact w.2.2 _ (List.getElem_mem hl)
noncomputable def Ta (B1 B2:List Ad) (ku1 kd1 ku2 kd2:Kvs):List Chg:=D8 (Fh (Hf B1 ku1 kd1) (I8 ku2 kd2) ([],none,0) (ord B2))
theorem Two.ci (D:Two L1 L2 B1 B2 ku1 kd1 ku2 kd2):CI (Fh (Hf B1 ku1 kd1) (I8 ku2 kd2) ([],none,0) (ord B2)) (txL B1 ku1 kd1) (txL B2 ku2 kd2) (ord B2).length:=by
 have:=bJ (Hf B1 ku1 kd1) (I8 ku2 kd2) (ord B2) (fun u hu=>eH D.A2 hu) CI.nil
 rw [D.was,List.nil_append,List.nil_append,Nat.zero_add] at this
 exact this
theorem Two.ch (D:Two L1 L2 B1 B2 ku1 kd1 ku2 kd2):E4 [bkD L1,bkD L2]=.ok (.list ((Ta B1 B2 ku1 kd1 ku2 kd2).map chD)):=by
 have hs:=Qo D.A1 D.l1 D.P1.P
 have hp:=Vy D.A2 D.l2 D.P2.P
 have ol1:=V4 D.A1
 have ol2:=V4 D.A2
 have hl1:=D.l1
 have hl2:=D.l2
 have fl:((ord B1).filter (I8 ku1 kd1)).length<=(ord B1).length:=List.length_filter_le _ _
 have nd:((ord B1).filter (I8 ku1 kd1)).Pairwise (fun a b=>PyData.eqv (thE a).1 (thE b).1=false):=by
   have h1:=Co D.A1.bk; rw [List.Nodup,List.pairwise_map] at h1; refine (h1.filter _).imp fun {a b} h=>?_
   rw [Oe,decide_eq_false h]
 have e0:Ow (F3 (F1 (fun δ=>((C2 (A0 (A3 0) A9) G9) δ).bind E3) F5 [] P8 (E9 (A0 (b2 (A3 0) (vC (.int 0)) dIx) (A0 (vC (.bool true)) A9))))) [.sh (bkD L1),.sh (bkD L2),.un,.un,.un,.un,.un,.un,.un,.un]=.ok (((ord B1).filter (I8 ku1 kd1)).map thE):=by
   unfold Ow; rw [V2 (L3 (ys:=((ord B1).filter (I8 ku1 kd1)).map fun v=>.tuple [sgA v,.bool true]) (I9 (d:=.list (((ord B1).filter (I8 ku1 kd1)).map tl)) (D2 (A7 rfl rfl) hs) rfl) (by simp; omega) rfl (Ck tl _ (fun v=>O9 (A7 (B9 (x:=tl v) (y:=.int 0) rfl rfl (Bs _ _)) (A7 rfl rfl))) _)),C6]
   show (if (((ord B1).filter (I8 ku1 kd1)).map fun v=>PyData.tuple [sgA v,.bool true]).length < 1000 then _ else _)=_
   rw [if_pos (by simp; omega)]
   have:=Mo thE (fun a=>Gm (some (sgn a))) ((ord B1).filter (I8 ku1 kd1)) [] (by simpa using nd)
   rw [List.map_nil,List.nil_append] at this; rw [this]; rfl
 obtain ⟨t6,t7,t8,t9,e4⟩:=jM (bkD L1) (bkD L2) (((ord B1).filter (I8 ku1 kd1)).map thE) (Hf B1 ku1 kd1) (I8 ku2 kd2) (ord B2) ([],none,0) CI.nil (by omega) (fun u hu=>⟨aF _ u,eH D.A2 hu⟩) (fun c h=>nomatch h) .un .un .un .un
 unfold E4 N8
 refine Ar ?_
 show C0 _ _ [.sh (bkD L1),.sh (bkD L2),.un,.un,.un,.un,.un,.un,.un,.un]=_
 refine (B5 (δ':=[.sh (bkD L1),.sh (bkD L2),oN (((ord B1).filter (I8 ku1 kd1)).map thE),.un,.un,.un,.un,.un,.un,.un]) (by unfold M3 Cy; rw [e0]; rfl)).trans ?_
 refine (B5 rfl).trans ((B5 rfl).trans ((B5 rfl).trans ?_))
 refine (B5 (δ':=dC (bkD L1) (bkD L2) (((ord B1).filter (I8 ku1 kd1)).map thE) ((D8 (Fh (Hf B1 ku1 kd1) (I8 ku2 kd2) ([],none,0) (ord B2))).map chD) (Fh (Hf B1 ku1 kd1) (I8 ku2 kd2) ([],none,0) (ord B2)).2.1.isSome (Fh (Hf B1 ku1 kd1) (I8 ku2 kd2) ([],none,0) (ord B2)).2.2 t6 t7 t8 t9) ?_).trans rfl
 unfold M1 N9
 rw [I9 (d:=.list ((ord B2).map fun u=>.tuple [tl u,.bool (I8 ku2 kd2 u)])) (ds:=(ord B2).map fun u=>.tuple [tl u,.bool (I8 ku2 kd2 u)]) (D2 (A7 rfl rfl) hp) rfl,D1]
 exact e4
theorem Two.app (D:Two L1 L2 B1 B2 ku1 kd1 ku2 kd2):Sm.app (txL B1 ku1 kd1) (Ta B1 B2 ku1 kd1 ku2 kd2)=txL B2 ku2 kd2:=by
 have:=D.ci.app []
 rw [List.append_nil,List.append_nil] at this
 exact this
end
theorem lU {x:Str} (h:chOk 32 126 x) (hl:x.length<=1000) (lo hi:Option Int):okS (Gf x lo hi)=true:=by
 have sm:∀ y:Str,(∀ c∈y.cps.toList,c<=126)->PyData.strOk y=true:=fun y hy=>by
   unfold PyData.strOk; rw [Array.all_eq_true']; intro c hc; have:=hy c (by simpa using hc)
   simp
   omega
 have hs:(1000:Nat)<=sizeLine:=Gw
 unfold Gf
 split
 . unfold okS
   rw [sm x fun c hc=>(h c hc).2,decide_eq_true (Nat.le_trans hl hs)]; rfl
 . unfold okS
   rw [sm _ (fun c hc=>by
     obtain ⟨i,_,e⟩:=List.mem_filterMap.mp (show c∈List.filterMap _ _ from hc)
     exact (h c (by simpa using Array.mem_of_getElem? e)).2),decide_eq_true]
   . rfl
   . refine Nat.le_trans ?_ (Nat.le_trans hl hs)
     show (List.filterMap _ _).toArray.size<=_
     rw [List.size_toArray]; exact Nat.le_trans (List.length_filterMap_le _ _) (PyProof.Rows.indices_len_le lo hi x.length)
theorem aU {f:Dn->Res PyData} {fl fh:Dn->Res (Option Int)} {δ:Dn} {x:Str} {l u:Option Int} (h1:f δ=.ok (.str x)) (h2:fl δ=.ok l) (h3:fh δ=.ok u) (h:chOk 32 126 x) (hl:x.length<=1000):Tk f fl fh δ=.ok (.str (Gf x l u)):=by
 unfold Tk
 rw [h1,C6,h2,C6,h3,C6]
 show ofO (if okS (Gf x l u)=true then _ else _)=_
 rw [if_pos (lU h hl l u)]; rfl
theorem Rp {f:Dn->Res PyData} {δ:Dn} {i:Int} (h:f δ=.ok (.int i)):An f δ=.ok (some i):=by
 unfold An
 rw [h]; rfl
noncomputable def Vd:Dn->Out:=(C0 (D3 4 (b2 (A3 3) (vC (.int 0)) dIx)) (D3 2 (b2 (b2 (Tk (A3 2) Cf (An (A3 4))) (b2 (A3 3) (vC (.int 2)) dIx) C4) (Tk (A3 2) (An (b2 (A3 4) (vFn (A0 (b2 (A3 3) (vC (.int 1)) dIx) A9) L6) C4)) Cf) C4)))
theorem iR (x0 x1:Sl) (x:List Nat) (c:Chg) (hx:Ok x) (hl:x.length+c.2.2.length<=900) (hc:c.1+c.2.1.length<=x.length) (s4:Sl):Vd [x0,x1,.sh (.str (mk x)),.sh (chD c),s4]=.nx [x0,x1,.sh (.str (mk (Kx x c))),.sh (chD c),.sh (.int (c.1:Int))]:=by
 obtain ⟨p,o,n⟩:=c
 simp only at hl hc
 have i0:dIx (chD (p,o,n)) (.int 0)=some (.int (p:Int)):=Bs _ _
 have i1:dIx (chD (p,o,n)) (.int 1)=some (.str (mk o)):=Ij _ _ _
 have i2:dIx (chD (p,o,n)) (.int 2)=some (.str (mk n)):=aC _ _ _ _
 have cx:=mk_ok hx
 have lx:(mk x).length<=1000:=by rw [Cg]; omega
 unfold Vd
 refine (B5 (D6 (B9 (x:=chD (p,o,n)) (y:=.int 0) rfl rfl i0))).trans ?_
 refine D6 (B9 (x:=.str (mk (x.take p++n))) (y:=.str (mk (x.drop (p+o.length)))) (B9 (x:=.str (mk (x.take p))) (y:=.str (mk n)) ?_ (B9 (x:=chD (p,o,n)) (y:=.int 2) rfl rfl i2) (iZ ?_)) ?_ ?_)
 . rw [aU (x:=mk x) (l:=none) (u:=some (p:Int)) rfl rfl (Rp rfl) cx lx,eF _ _ (by omega)]
 . rw [List.length_take]; omega
 . rw [aU (x:=mk x) (l:=some ((p+o.length:Nat):Int)) (u:=none) rfl (Rp (B9 (x:=.int (p:Int)) (y:=.int (o.length:Int)) rfl (Q3 (A7 (B9 (x:=chD (p,o,n)) (y:=.int 1) rfl rfl i1) rfl) (by rw [Uk,Cg])) (by rw [Q1]; rfl))) rfl cx lx,eG _ _ hc]
 . refine (iZ (by simp only [List.length_append,List.length_take,List.length_drop]; omega)).trans ?_
   unfold Kx; rw [List.append_assoc]
theorem gU {x:List Nat} {c:Chg} (hx:Ok x) (hn:Ok c.2.2):Ok (Kx x c):=fun d hd=>by
 unfold Kx at hd
 rcases List.mem_append.mp hd with h | h
 . exact hx d (List.mem_of_mem_take h)
 . rcases List.mem_append.mp h with h | h
   . exact hn d h
   . exact hx d (List.mem_of_mem_drop h)
theorem Xc (x0 x1:Sl):∀ (cs:List Chg) (x:List Nat) (s3 s4:Sl),Ok x->(∀ c∈cs,Ok c.2.2)->x.length+(cs.map fun c=>c.2.2.length).sum<=900->(∀ (k:Nat) c,cs[k]? = some c->c.1+c.2.1.length<=(app x (cs.take k)).length)->∃ t3 t4,
   E6 (st1 3) Vd (cs.map chD) [x0,x1,.sh (.str (mk x)),s3,s4]=.nx [x0,x1,.sh (.str (mk (app x cs))),t3,t4]
 | [],x,s3,s4,_,_,_,_=>⟨s3,s4,rfl⟩
 | c::cs,x,s3,s4,hx,hn,hl,hk=>by
   simp only [List.map_cons,List.sum_cons] at hl; have Ul:(Kx x c).length<=x.length+c.2.2.length:=by
     unfold Kx; simp only [List.length_append,List.length_take,List.length_drop]; have:=hk 0 c rfl; simp [app] at this; omega
   obtain ⟨t3,t4,e⟩:=Xc x0 x1 cs (Kx x c) (.sh (chD c)) (.sh (.int (c.1:Int))) (gU hx (hn c (.head _))) (fun d hd=>hn d (.tail _ hd)) (by omega) fun k d hd=>by
     have:=hk (k+1) d (by simpa using hd)
     exact this
   exact ⟨t3,t4,(V9 rfl (iR x0 x1 x c hx (by omega) (hk 0 c rfl) s4)).trans e⟩
theorem Uu (cs:List Chg) (x:List Nat) (hx:Ok x) (hn:∀ c∈cs,Ok c.2.2) (hl:x.length+(cs.map fun c=>c.2.2.length).sum<=900) (hk:∀ (k:Nat) c,cs[k]? = some c->c.1+c.2.1.length<=(app x (cs.take k)).length):F8 [.str (mk x),.list (cs.map chD)]=.ok (.str (mk (app x cs))):=by
 obtain ⟨t3,t4,e⟩:=Xc (.sh (.str (mk x))) (.sh (.list (cs.map chD))) cs x .un .un hx hn hl hk
 unfold F8 X6
 refine Ar ?_
 show C0 _ _ [.sh (.str (mk x)),.sh (.list (cs.map chD)),.un,.un,.un]=_
 refine (B5 rfl).trans ?_
 refine (B5 (δ':=[.sh (.str (mk x)),.sh (.list (cs.map chD)),.sh (.str (mk (app x cs))),t3,t4]) ?_).trans rfl
 unfold N9
 rw [I9 (d:=.list (cs.map chD)) (ds:=cs.map chD) rfl rfl,D1]
 exact e
abbrev upT (L:List Dp) (t:Int):List Dp:=L.filter fun e=>decide (e.2.1<=t)
theorem cmpLe (a b:Int):N6 .LtE (.int a) (.int b)=some (.bool (decide (a<=b))):=rfl
theorem cmpLt (a b:Int):N6 .Lt (.int a) (.int b)=some (.bool (decide (a < b))):=rfl
theorem Oa {e:Dp} (h:Kd e) (δ:Dn):(b2 (b2 (A3 0) (vC (.int 1)) dIx) (vC (.int 0)) dIx) ([.sh e.1]++δ)=.ok (.int e.2.1) :=
 B9 (x:=idP e.2) (y:=.int 0) (B9 (x:=e.1) (y:=.int 1) rfl rfl h.tid) rfl (Bs _ _)
theorem eP {L:List Dp} (hk:∀ e∈L,Kd e) (hl:L.length<=9) (t:Int):R0 [bkD L,.int t]=.ok (bkD (upT L t)):=by
 refine Ar (N2 (Q3 (ds:=[.list ((upT L t).map (·.1))]) (A7 (V2 (L3 (δc:=[.sh (.int t)]) (I9 (d:=bkD L) rfl rfl) (by simp; omega) rfl ?_)) rfl) rfl))
 exact Ev (fun e:Dp=>e.1) (fun e=>e.1) (fun e=>decide (e.2.1<=t)) L (fun e he=>C5 (B9 (Oa (hk e he) _) rfl (cmpLe _ _))) fun e _=>rfl
theorem Zw {L:List Dp} (hp:L.Pairwise fun a b=>key a.2 < key b.2) (t:Int):∃ R,L=upT L t++R/\∀ e∈R,e∈L/\t < e.2.1:=by
 induction L with
 | nil=>exact ⟨[],rfl,fun _ h=>nomatch h⟩
 | cons e L ih =>
   rw [List.pairwise_cons] at hp
   by_cases c:e.2.1<=t
   . obtain ⟨R,e1,e2⟩:=ih hp.2
     refine ⟨R,?_,fun x hx=>⟨.tail _ (e2 x hx).1,(e2 x hx).2⟩⟩
     unfold upT; rw [List.filter_cons_of_pos (by simpa using c),List.cons_append,<- e1]
   . have hn : ∀ x ∈ e :: L, t < x.2.1 := fun x hx => by
       rcases List.mem_cons.mp hx with rfl | hx
       . omega
       . have:=Rz (hp.1 x hx); omega
     refine ⟨e::L,?_,fun x hx=>⟨hx,hn x hx⟩⟩
     have:upT (e::L) t=[]:=List.filter_eq_nil_iff.mpr fun x hx=>by have:=hn x hx; simp; omega
     rw [this]; rfl
theorem up_up (L:List Dp) {s t:Int} (h:s<=t):upT (upT L t) s=upT L s:=by
 unfold upT
 rw [List.filter_filter]
 refine List.filter_congr fun e _=>?_
 by_cases c:e.2.1<=s
 . simp [c]; omega
 . simp [c]
theorem jZ {L:List Dp} {t:Int} (h:∀ e∈L,e.2.1<=t):upT L t=L:=List.filter_eq_self.mpr fun e he=>by simpa using h e he
theorem fD {L:List Dp} (W:BkW L) (t:Int):BkW (upT L t):=by
 obtain ⟨R,e,_⟩:=Zw W.2 t
 rw [e] at W
 exact BkW.pre _ R rfl W
theorem Z9 {L:List Dp} (hl:L.length<=9) (t:Int):(upT L t).length<=9:=Nat.le_trans (List.length_filter_le _ _) hl
noncomputable def txt (L:List Dp) (t:Int):List Nat:=match K0 [bkD (upT L t)] with
 | .ok (.str x)=>x.cps.toList
 | _=>[]
theorem Ny {L:List Dp} (hl:L.length<=9) {t:Int} {B:List Ad} {ku kd:Kvs} (A:BkA (upT L t) B) (P:Pr (upT L t) ku kd):txt L t=txL B ku kd:=by
 unfold txt
 rw [Vj A (Z9 hl t) P,Wl]
 rfl
theorem Tm {L:List Dp} (W:BkW L) (hl:L.length<=9) (t:Int):K0 [bkD (upT L t)]=.ok (.str (mk (txt L t)))/\Ok (txt L t)/\(txt L t).length<=36:=by
 have Wt:=fD W t
 obtain ⟨B,A⟩:=mZ Wt
 obtain ⟨ku,kd,P⟩:=Vz (fun e he=>(Wt.1 e he).kd) (Z9 hl t)
 have e:=Ny hl A P.P
 refine ⟨?_,?_,?_⟩
 . rw [Vj A (Z9 hl t) P.P,Wl,e]
 . rw [e]
   intro c hc; obtain ⟨u,hu,rfl⟩:=List.mem_map.mp hc; exact eH A (List.mem_filter.mp hu).1
 . rw [e,List.length_map]
   have h1:=V4 A; have h2:=List.length_filter_le (I8 ku kd) (ord B); have h3:=Z9 hl t; omega
theorem Ts {L:List Dp} (W:BkW L) (hl:L.length<=9) (t:Int):Ap [bkD L,.int t]=.ok (.str (mk (txt L t))) :=
 Ar (N2 (D2 (A7 (D2 (A7 rfl (A7 rfl rfl)) (eP (fun e he=>(W.1 e he).kd) hl t)) rfl) (Tm W hl t).1))
theorem kB {L:List Dp} (W:BkW L) (hl:L.length<=9) {s t:Int} (h:s<=t):∃ B1 B2 ku1 kd1 ku2 kd2 R,Two (upT L s) (upT L t) B1 B2 ku1 kd1 ku2 kd2/\upT L t=upT L s++R/\(∀ e∈R,e∈L/\s < e.2.1/\e.2.1<=t)/\((∀ e∈R,∃ k x xs,e.1=.tuple (.str k::idP e.2::x::xs)/\k ≠ "add")->B1=B2):=by
 have Wt:=fD W t
 have Ws:=fD W s
 obtain ⟨B2,A2⟩:=mZ Wt
 obtain ⟨R,e1,e2⟩:=Zw Wt.2 s
 rw [up_up L h] at e1
 have A2':=A2
 rw [e1] at A2'
 obtain ⟨B1,A1,S,q⟩:=BkA.pre R.length R B2 rfl A2'
 obtain ⟨ku1,kd1,P1⟩:=Vz (fun e he=>(Ws.1 e he).kd) (Z9 hl s)
 obtain ⟨ku2,kd2,P2⟩:=Vz (fun e he=>(Wt.1 e he).kd) (Z9 hl t)
 refine ⟨B1,B2,ku1,kd1,ku2,kd2,R,⟨A1,A2,P1,P2,S,Z9 hl s,Z9 hl t⟩,e1,fun e he=>?_,q⟩
 have:=e2 e he
 have hm:=List.mem_filter.mp this.1
 exact ⟨hm.1,this.2,by simpa using hm.2⟩
theorem Ye {lo hi:Int} (h:lo < hi):P3 lo hi=.int lo::P3 (lo+1) hi:=by
 unfold P3
 obtain ⟨k,hk⟩:∃ k:Nat,(hi - lo).toNat=k+1:=⟨(hi - lo).toNat - 1,by omega⟩
 rw [hk,show (hi - (lo+1)).toNat=k by omega,List.range_succ_eq_map,List.map_cons,List.map_map]
 congr 1
 . simp
 . refine List.map_congr_left fun i _=>?_
   show PyData.int _=PyData.int _
   congr 1
   simp
   omega
theorem bL {lo hi:Int} (h:hi<=lo):P3 lo hi=[]:=by
 unfold P3
 rw [show (hi - lo).toNat=0 by omega]; rfl
theorem fZ {i j:Int} (h1:0<=i) (h2:i<=1000) (h3:0<=j) (h4:j<=1000):Yf [.int i,.int j]=.ok (P3 i j):=by
 show (if _ then _ else _)=_
 rw [if_pos (by omega)]
theorem Mv:∀ ns:List Int,Db (ns.map .int)=some ns
 | []=>rfl
 | n::ns=>by show (Db (ns.map .int)).map (n::·)=_; rw [Mv ns]; rfl
theorem fP (ns:List Int) (h:ns.length < 64):P7 [.list (ns.map .int)]=some (.list ((Cb (O8 ns)).map .int)):=by
 show (if (ns.map PyData.int).length < 64 then (match Db (ns.map .int) with | some ns=>some (PyData.list ((Cb (O8 ns)).map .int)) | none=>_) else none)=_
 rw [if_pos (by simpa using h),Mv]
theorem Gu:∀ ss:List Str,Q7 (ss.map .str)=some ss
 | []=>rfl
 | n::ns=>by show (Q7 (ns.map .str)).map (n::·)=_; rw [Gu ns]; rfl
theorem fQ (ss:List Str) (h:ss.length < 64):P7 [.list (ss.map .str)]=some (.list ((U0 (O8 ss)).map .str)):=by
 cases ss with
 | nil=>rfl
 | cons x r =>
   show (if ((x::r).map PyData.str).length < 64 then (match Q7 ((x::r).map .str) with | some ss=>some (PyData.list ((U0 (O8 ss)).map .str)) | none=>none) else none)=_
   rw [if_pos (by simpa using h),Gu]
theorem Ur {K:Type} [DecidableEq K] (l:List K):(O8 l).Nodup:=by
 have:∀ (l m:List K),m.Nodup->(l.foldl Cv m).Nodup:=fun l=>by
   induction l with
   | nil=>exact fun m h=>h
   | cons y l ih =>
     intro m h; refine ih _ ?_; unfold Cv
     split
     . exact h
     . rename_i hy
       rw [List.nodup_append]; exact ⟨h,by simp,fun a ha b hb e=>by rw [List.mem_singleton.mp hb] at e; exact hy (e▸ha)⟩
 exact this l [] List.nodup_nil
noncomputable def tms (L:List Dp):List Int:=Cb (O8 (0::L.map fun e=>e.2.1))
theorem Nz {L:List Dp} {x:Int}:x∈tms L↔x=0\/∃ e∈L,e.2.1=x:=by
 unfold tms
 rw [(X3 _).mem_iff,Kp,List.mem_cons,List.mem_map]
theorem kD (L:List Dp):(tms L).Pairwise (· < ·):=by
 have h1:=Jf (O8 (0::L.map fun e=>e.2.1))
 have h2:(tms L).Nodup:=(X3 _).nodup_iff.mpr (Ur _)
 refine (h1.and h2).imp fun {a b} h=>?_
 have:=h.1; have:=h.2; omega
theorem aD {L:List Dp} (hk:∀ e∈L,Kd e) (hl:L.length<=9):Bd [bkD L]=.ok (.list ((tms L).map .int)):=by
 refine Ar (N2 (Q3 (ds:=[.list ((0::L.map fun e=>e.2.1).map .int)]) (A7 (B9 (x:=.list [.int 0]) (y:=.list (L.map fun e=>.int e.2.1)) rfl (V2 (L3 (δc:=[]) (I9 (d:=bkD L) rfl rfl) (by simp; omega) rfl ?_)) ?_) rfl) ?_))
 . have:=Ev (tt:=P8) (el:=b2 (b2 (A3 0) (vC (.int 1)) dIx) (vC (.int 0)) dIx) (δc:=[]) (fun e:Dp=>e.1) (fun e=>.int e.2.1) (fun _=>true) L (fun _ _=>rfl) fun e he=>Oa (hk e he) _
   rw [List.filter_eq_self.mpr (fun _ _=>rfl)] at this
   exact this
 . rw [Zr (by simp; omega),List.map_cons,List.map_map]; rfl
 . exact fP _ (by simp; omega)
noncomputable def cW:Dn->Res Bool:=(cFz 1 (C3 (b2 (vFn (A0 (A3 1) A9) L6) (A3 2) (N6 .Lt))))
noncomputable def bW:Dn->Out:=(Y5 1 (vFz 1 (b2 (A3 1) (b1 (vC (.int 1)) Dv) dIx)))
theorem eJ (bk:PyData) (W:List PyData) (b:Int):cW [.sh bk,.ow (.list W),.sh (.int b)]=.ok (decide ((W.length:Int) < b)) :=
 mX rfl (C5 (B9 (x:=.int (W.length:Int)) (y:=.int b) (Q3 (A7 rfl rfl) rfl) rfl (cmpLt _ _)))
theorem pad (bk:PyData) (y:PyData) (hy:Ds y=true):∀ (m fuel:Nat) (W:List PyData) (b:Int),m < fuel->(W.length:Int)+1+m=b->W.length+m<=900->U2 cW bW fuel [.sh bk,.ow (.list (W++[y])),.sh (.int b)]=.nx [.sh bk,.ow (.list (W++[y]++List.replicate m y)),.sh (.int b)]
 | _,0,_,_,h,_,_=>by cases h
 | 0,fuel+1,W,b,_,hb,_=>by
   unfold U2; rw [eJ,decide_eq_false (by simp; omega),D1,if_neg (by decide)]; simp
 | m+1,fuel+1,W,b,hf,hb,hl=>by
   unfold U2; rw [eJ,decide_eq_true (by simp; omega),D1,if_pos rfl]
   have e:bW [.sh bk,.ow (.list (W++[y])),.sh (.int b)]=.nx [.sh bk,.ow (.list (W++[y]++[y])),.sh (.int b)]:=by
     refine Cn (W:=W++[y]) (d:=y) rfl ?_ (by simp; omega)
     unfold vFz; have:(b2 (A3 1) (b1 (vC (.int 1)) Dv) dIx) (fz 1 [.sh bk,.ow (.list (W++[y])),.sh (.int b)])=.ok y:=B9 (x:=.list (W++[y])) (y:=.int (-1)) rfl rfl Xg; rw [this,C6,if_pos hy]
   rw [e]; show U2 cW bW fuel _=_
   rw [pad bk y hy m fuel (W++[y]) b (by omega) (by simp; omega) (by simp; omega),List.append_assoc (W++[y]),List.singleton_append,<- List.replicate_succ]
theorem pad0 (bk:PyData) (W:List PyData) (b:Int) (fuel:Nat) (h:b<=W.length):U2 cW bW (fuel+1) [.sh bk,.ow (.list W),.sh (.int b)]=.nx [.sh bk,.ow (.list W),.sh (.int b)]:=by
 unfold U2
 rw [eJ,decide_eq_false (by omega),D1,if_neg (by decide)]
noncomputable abbrev txD (L:List Dp) (t:Int):PyData:=.str (mk (txt L t))
noncomputable abbrev TX (L:List Dp) (n:Nat):List PyData:=(List.range n).map fun (t:Nat)=>txD L (t:Int)
theorem Pt (L:List Dp) (n:Nat):TX L (n+1)=TX L n++[txD L (n:Int)]:=by unfold TX; rw [List.range_succ,List.map_append]; rfl
theorem Gp (L:List Dp) (n:Nat):(TX L n).length=n:=by simp
theorem Xj {L:List Dp} {n:Nat} (x:PyData):∀ m,(∀ k,k < m->txD L ((n+k:Nat):Int)=x)->TX L (n+m)=TX L n++List.replicate m x
 | 0,_=>by simp
 | m+1,h=>by
   rw [show n+(m+1)=(n+m)+1 by omega,Pt,Xj x m (fun k hk=>h k (by omega)),h m (by omega),List.replicate_succ',List.append_assoc]
noncomputable def Vb:Dn->Out:=(C0 (Jq (cFz 1 (C3 (b2 (vFn (A0 (A3 1) A9) L6) (A3 2) (N6 .Lt)))) (Y5 1 (vFz 1 (b2 (A3 1) (b1 (vC (.int 1)) Dv) dIx)))) (Y5 1 (C2 (A0 (A3 0) (A0 (A3 2) A9)) Ap)))
theorem fF {L:List Dp} (W:BkW L) (hl:L.length<=9) {n:Nat} {b:Nat} (hn:n<=b) (hb:b<=20) (hz:n=0->b=0) (hg:∀ e∈L,e.2.1 < n\/(b:Int)<=e.2.1):Vb [.sh (bkD L),.ow (.list (TX L n)),.sh (.int (b:Int))]=.nx [.sh (bkD L),.ow (.list (TX L (b+1))),.sh (.int (b:Int))]:=by
 have e1:Jq cW bW [.sh (bkD L),.ow (.list (TX L n)),.sh (.int (b:Int))]=.nx [.sh (bkD L),.ow (.list (TX L b)),.sh (.int (b:Int))]:=by
   by_cases c:n=b
   . subst c
     exact pad0 _ _ _ 4095 (by rw [Gp]; omega)
   . obtain ⟨n',rfl⟩:∃ n',n=n'+1:=⟨n - 1,by omega⟩
     obtain ⟨m,rfl⟩:∃ m,b=n'+1+m:=⟨b - (n'+1),by omega⟩
     have same:∀ k,k < m->txD L ((n'+1+k:Nat):Int)=txD L (n':Int):=fun k hk=>by
       have:upT L ((n'+1+k:Nat):Int)=upT L (n':Int):=List.filter_congr fun e he=>by
         rcases hg e he with z | z
         . rw [decide_eq_true (by omega),decide_eq_true (by omega)]
         . rw [decide_eq_false (by omega),decide_eq_false (by omega)]
       unfold txD txt; rw [this]
     rw [Xj _ m same,Pt]; exact pad _ _ rfl m 4096 (TX L n') _ (by omega) (by rw [Gp]; omega) (by rw [Gp]; omega)
 unfold Vb
 refine (B5 e1).trans ?_
 rw [Pt]
 exact Cn rfl (D2 (A7 rfl (A7 rfl rfl)) (Ts W hl b)) (by rw [Gp]; omega)
theorem Vi {L:List Dp} (W:BkW L) (hl:L.length<=9):∀ (K1:List Int) (n:Nat) (s2:Sl),K1.Pairwise (· < ·)->(∀ x∈K1,(n:Int)<=x/\x<=20)->(∀ e∈L,e.2.1 < n\/e.2.1∈K1)->(n=0->∃ r,K1=0::r)->n<=21->∃ (N:Nat) (t2:Sl),1<=N/\N<=21/\(∀ e∈L,e.2.1 < N) /\
   E6 (st1 2) Vb (K1.map .int) [.sh (bkD L),.ow (.list (TX L n)),s2]=.nx [.sh (bkD L),.ow (.list (TX L N)),t2]
 | [],n,s2,_,_,hg,hz,hn=>by
   refine ⟨n,s2,?_,hn,fun e he=>(hg e he).elim id (fun h=>nomatch h),rfl⟩
   cases n with
   | zero=>obtain ⟨r,h⟩:=hz rfl; cases h
   | succ n=>omega
 | x::r,n,s2,hp,hx,hg,hz,hn=>by
   rw [List.pairwise_cons] at hp; obtain ⟨x1,x2⟩:=hx x (.head _); obtain ⟨b,rfl⟩:∃ b:Nat,x=(b:Int):=⟨x.toNat,by omega⟩
   have st:=fF W hl (n:=n) (b:=b) (by omega) (by omega) (fun z=>by obtain ⟨r',h⟩:=hz z; injection h with h; omega) fun e he=>by
     rcases hg e he with z | z
     . exact .inl z
     . rcases List.mem_cons.mp z with z | z
       . exact .inr (by omega)
       . have:=hp.1 _ z; exact .inr (by omega)
   obtain ⟨N,t2,h1,h2,h3,h4⟩:=Vi W hl r (b+1) (.sh (.int (b:Int))) hp.2 (fun y hy=>⟨by have:=hp.1 y hy; omega,(hx y (.tail _ hy)).2⟩) (fun e he=>by
     rcases hg e he with z | z
     . exact .inl (by omega)
     . rcases List.mem_cons.mp z with z | z
       . exact .inl (by omega)
       . exact .inr z) (fun z=>by cases z) (by omega)
   exact ⟨N,t2,h1,h2,h3,(V9 rfl st).trans h4⟩
theorem aG {L:List Dp} (W:BkW L) (hl:L.length<=9):∃ N:Nat,1<=N/\N<=21/\(∀ e∈L,e.2.1 < N)/\Y3 [bkD L]=.ok (.list (TX L N)):=by
 have ok:∀ e∈L,okI e.2:=fun e he=>(show Wf _ _ _ _ from W.1 e he).1
 have h0:(0:Int)∈tms L:=Nz.mpr (.inl rfl)
 have hge:∀ x∈tms L,0<=x/\x<=20:=fun x hx=>by
   rcases Nz.mp hx with rfl | ⟨e,he,rfl⟩
   . omega
   . have:=ok e he; exact ⟨by have:=this.1; omega,by have:=this.2.1; omega⟩
 have hup:=kD L
 obtain ⟨N,t2,h1,h2,h3,h4⟩:=Vi W hl (tms L) 0 .un hup (fun x hx=>by have:=hge x hx; exact ⟨by omega,this.2⟩) (fun e he=>.inr (Nz.mpr (.inr ⟨e,he,rfl⟩))) (fun _=>by
   cases ht:tms L with
   | nil=>rw [ht] at h0; cases h0
   | cons x r =>
     rw [ht] at h0 hup hge; rcases List.mem_cons.mp h0 with z | z
     . exact ⟨r,by rw [z]⟩
     . have:=(List.pairwise_cons.mp hup).1 0 z
       have:=hge x (.head _); omega) (by omega)
 refine ⟨N,h1,h2,h3,Ar ?_⟩
 show C0 _ _ [.sh (bkD L),.un,.un]=_
 refine (B5 (δ':=[.sh (bkD L),.ow (.list (TX L 0)),.un]) rfl).trans ?_
 refine (B5 (δ':=[.sh (bkD L),.ow (.list (TX L N)),t2]) ?_).trans rfl
 unfold N9
 rw [I9 (d:=.list ((tms L).map .int)) (ds:=(tms L).map .int) (D2 (A7 rfl rfl) (aD (fun e he=>(W.1 e he).kd) hl)) rfl,D1]
 exact h4
theorem Rl:∀ (A B:List Dp) (o:List IdP),Rm (A++B) o=Rm B (Rm A o)
 | [],_,_=>rfl
 | e::A,B,o=>Rl A B _
theorem Rk:∀ (R:List Dp) (o:List IdP),(∀ e∈R,∃ k x xs,e.1=.tuple (.str k::idP e.2::x::xs)/\k ≠ "undo")->Rm R o=o
 | [],_,_=>rfl
 | e::R,o,h=>by
   obtain ⟨k,x,xs,e1,e2⟩:=h e (.head _); show Rm R (Ro e o)=o
   rw [Rn e1 e2]; exact Rk R o fun e he=>h e (.tail _ he)
noncomputable def wdS (e:Dp):Str:=match e.1 with
 | .tuple (.str k::_)=>k
 | _ => ""
theorem jW {e:Dp} {k:Str} {xs:List PyData} (h:e.1=.tuple (.str k::xs)):wdS e=k:=by unfold wdS; rw [h]
theorem Kd.wd {e:Dp} (h:Kd e):∃ x xs,e.1=.tuple (.str (wdS e)::idP e.2::x::xs):=by
 obtain ⟨k,x,xs,e1⟩:=h.id
 exact ⟨x,xs,by rw [jW e1]; exact e1⟩
noncomputable section
variable {L1 L2:List Dp} {B1 B2:List Ad} {ku1 kd1 ku2 kd2:Kvs} {R:List Dp}
theorem Two.un (D:Two L1 L2 B1 B2 ku1 kd1 ku2 kd2) (e:L2=L1++R) (h:∀ e∈R,∃ k x xs,e.1=.tuple (.str k::idP e.2::x::xs)/\k ≠ "undo"):(fun p=>(M7 ku2 (idP p)).isSome)=fun p=>(M7 ku1 (idP p)).isSome:=by
 funext p
 have h1:=D.P1.o p
 have h2:=D.P2.o p
 have:off L2=off L1:=by
   unfold off; rw [e,List.reverse_append,Rl,Rk R.reverse [] fun x hx=>h x (List.mem_reverse.mp hx)]
 rw [this] at h2
 exact h2.trans h1.symm
theorem Two.wasO (D:Two L1 L2 B1 B2 ku1 kd1 ku2 kd2) (hB:B1=B2) {u:As} (hu:u∈ord B2):Hf B1 ku1 kd1 u=I8 ku1 kd1 u:=by
 subst hB
 exact Kj (Co D.A1.bk) _ hu
theorem Two.drops (D:Two L1 L2 B1 B2 ku1 kd1 ku2 kd2) (e:L2=L1++R) (hB:B1=B2) (h:∀ e∈R,∃ k x xs,e.1=.tuple (.str k::idP e.2::x::xs)/\k ≠ "undo"):∀ c∈Ta B1 B2 ku1 kd1 ku2 kd2,c.2.2=[]:=by
 refine Vs (ord B2) _ (fun u hu hp=>?_) fun c h=>nomatch h
 rw [D.wasO hB hu]
 have hun:=D.un e h
 unfold I8 Sm.un at hp ⊢
 rw [Bool.and_eq_true] at hp ⊢
 refine ⟨by rw [<- hp.1,congrFun hun u.1.p],?_⟩
 rw [D.P1.P.h]
 rw [D.P2.P.h,e,List.any_append,hun] at hp
 have:=hp.2
 rw [Bool.not_eq_true',Bool.or_eq_false_iff] at this
 rw [this.1]; rfl
theorem Two.marks (D:Two L1 L2 B1 B2 ku1 kd1 ku2 kd2) (e:L2=L1++R) (hB:B1=B2) (h:∀ e∈R,∃ k x xs,e.1=.tuple (.str k::idP e.2::x::xs)/\k ≠ "undo") (h2:∀ e∈R,∃ k x xs,e.1=.tuple (.str k::idP e.2::x::xs)/\k ≠ "drop"):Ta B1 B2 ku1 kd1 ku2 kd2=[]:=by
 refine Jr (ord B2) 0 fun u hu=>?_
 rw [D.wasO hB hu]
 have hun:=D.un e h
 unfold I8 Sm.un
 rw [congrFun hun u.1.p,D.P1.P.h,D.P2.P.h,e,List.any_append,hun]
 have:R.any (fun e=>Dd (fun p=>(M7 ku1 (idP p)).isSome) e (sgn u))=false:=by
   rw [List.any_eq_false]; intro x hx; obtain ⟨k,y,ys,e1,e2⟩:=h2 x hx; rw [Nb e1 e2]; decide
 rw [this,Bool.or_false]
end
abbrev wds (L:List Dp) (t:Int):List Str:=(L.filter fun e=>decide (e.2.1=t)).map wdS
theorem Xm {L:List Dp} (hk:∀ e∈L,Kd e) (hl:L.length<=9) (t:Int) {δ:Dn} (h1:δ[1]? = some (.sh (bkD L))) (h5:δ[5]? = some (.sh (.int t))) :
   (vFn (A0 (F3 (F1 (fun δ=>((A3 1) δ).bind E3) F5 [5] (C3 (b2 (b2 (b2 (A3 0) (vC (.int 1)) dIx) (vC (.int 0)) dIx) (A3 1) dEq)) (b2 (A3 0) (vC (.int 0)) dIx))) A9) P7) δ=.ok (.list ((U0 (O8 (wds L t))).map .str)):=by
 have hv:A3 1 δ=.ok (bkD L):=by rw [Cm,h1]; rfl
 have hc:Y6 δ [5]=[.sh (.int t)]:=by unfold Y6; rw [List.map_cons,h5]; rfl
 refine Q3 (ds:=[.list ((wds L t).map .str)]) (A7 (V2 (L3 (δc:=[.sh (.int t)]) (I9 (d:=bkD L) (ds:=L.map (·.1)) hv rfl) (by simp; omega) hc ?_)) rfl) (fQ _ ?_)
 . have := Ev (tt := C3 (b2 (b2 (b2 (A3 0) (vC (.int 1)) dIx) (vC (.int 0)) dIx) (A3 1) dEq)) (el := b2 (A3 0) (vC (.int 0)) dIx) (δc := [.sh (.int t)]) (fun e : Dp => e.1) (fun e => .str (wdS e)) (fun e => decide (e.2.1 = t)) L (fun e he => C5 (B9 (Oa (hk e he) _) rfl (by rw [Zg]; congr 2))) fun e he => by
     obtain ⟨x,xs,e1⟩:=(hk e he).wd; exact B9 (x:=e.1) (y:=.int 0) rfl rfl (by rw [e1]; exact Bs _ _)
   rw [this,List.map_map]; rfl
 . have:=List.length_filter_le (fun e:Dp=>decide (e.2.1=t)) L
   simp; omega
theorem eqW (X:List Str) (y:Str):∃ b,dEq (.list (X.map .str)) (.list [.str y])=some (.bool b)/\(b=true->X=[y]):=by
 unfold dEq
 rw [if_pos (Nat.le_trans (Nat.min_le_right _ _) (by simp [PyData.depth,PyData.depthAll]))]
 refine ⟨_,rfl,fun h=>?_⟩
 match X,h with
 | [],h=>cases h
 | [x],h =>
   have:(x==y)=true:=by simpa [PyData.eqv,PyData.eqvAll] using h
   rw [eq_of_beq this]
 | x::z::r,h=>simp [PyData.eqv,PyData.eqvAll] at h
theorem Rj {L:List Dp} {t:Int} {y:Str} (h:U0 (O8 (wds L t))=[y]):∀ e∈L,e.2.1=t->wdS e=y:=fun e he ht=>by
 have:wdS e∈U0 (O8 (wds L t)):=(X4 _).mem_iff.mpr (Kp.mpr (List.mem_map.mpr ⟨e,List.mem_filter.mpr ⟨he,by simpa using ht⟩,rfl⟩))
 rw [h] at this
 exact List.mem_singleton.mp this
theorem cP (x:Str):dNe (.str x) (.str x)=some (.bool false):=by
 unfold dNe
 rw [if_pos (Nat.le_trans (Nat.min_le_left _ _) (by simp [PyData.depth]))]
 show some (PyData.bool (!(x==x)))=_
 rw [beq_self_eq_true]; rfl
theorem mQ (x:Str):dEq (.str x) (.str x)=some (.bool true):=by rw [Hl,beq_self_eq_true]
theorem cQ:dNe (.list []) (.list [])=some (.bool false):=rfl
theorem Rt (δc:Dn):∀ cs:List Chg,(∀ c∈cs,c.2.2=[])->D7 Nt δc (C3 (b2 (A3 2) (vC (.str "")) dNe)) (A3 2) (cs.map chD)=.ok []
 | [],_=>rfl
 | c::cs,h=>by
   obtain ⟨p,o,n⟩:=c; have hn:n=[]:=h _ (.head _); subst hn; rw [List.map_cons]; unfold D7; have e1:Nt (chD (p,o,[]))=.ok [.sh (.int (p:Int)),.sh (.str (mk o)),.sh (.str (mk []))]:=rfl; have e2:(C3 (b2 (A3 2) (vC (.str "")) dNe)) ([.sh (.int (p:Int)),.sh (.str (mk o)),.sh (.str (mk []))]++δc)=.ok false:=C5 (B9 (x:=.str (mk [])) (y:=.str "") rfl rfl (cP (mk []))); rw [e1]; dsimp only; rw [e2]; exact Rt δc cs fun c hc=>h c (.tail _ hc)
noncomputable def eM:Dn->Out:=(D3 4 (b2 (b2 (A3 4) (vFn (A0 (A3 9) A9) L6) C4) (vFn (A0 (A3 8) A9) L6) Pm))
theorem subI {a b:Int}:Pm (.int a) (.int b)=some (.int (a - b)):=rfl
theorem Mr (x0 x1 x2 x3 x5 x6 x10:Sl):∀ (cs:List Chg) (m:Int) (s7 s8 s9:Sl),∃ t7 t8 t9,E6 (st3 7 8 9) eM (cs.map chD) [x0,x1,x2,x3,.sh (.int m),x5,x6,s7,s8,s9,x10]=.nx [x0,x1,x2,x3,.sh (.int (m+(cs.map fun c=>(c.2.2.length:Int) - c.2.1.length).sum)),x5,x6,t7,t8,t9,x10]
 | [],m,s7,s8,s9=>⟨s7,s8,s9,by rw [List.map_nil,List.map_nil,List.sum_nil,Int.add_zero]; rfl⟩
 | c::cs,m,s7,s8,s9=>by
   obtain ⟨p,o,n⟩:=c; have e1:eM [x0,x1,x2,x3,.sh (.int m),x5,x6,.sh (.int (p:Int)),.sh (.str (mk o)),.sh (.str (mk n)),x10]=.nx [x0,x1,x2,x3,.sh (.int (m+n.length - o.length)),x5,x6,.sh (.int (p:Int)),.sh (.str (mk o)),.sh (.str (mk n)),x10] :=
     D6 (B9 (x:=.int (m+n.length)) (y:=.int (o.length:Int)) (B9 (x:=.int m) (y:=.int (n.length:Int)) rfl (Q3 (A7 rfl rfl) (by rw [Uk,Cg])) Q1) (Q3 (A7 rfl rfl) (by rw [Uk,Cg])) subI)
   obtain ⟨t7,t8,t9,e⟩:=Mr x0 x1 x2 x3 x5 x6 x10 cs (m+n.length - o.length) (.sh (.int (p:Int))) (.sh (.str (mk o))) (.sh (.str (mk n))); refine ⟨t7,t8,t9,(V9 rfl e1).trans (e.trans ?_)⟩; have:m+n.length - o.length+(cs.map fun c=>(c.2.2.length:Int) - c.2.1.length).sum=m+(((p,o,n)::cs).map fun c:Chg=>(c.2.2.length:Int) - c.2.1.length).sum:=by
     rw [List.map_cons,List.sum_cons]; simp only; omega
   rw [this]
noncomputable def Vc:Dn->Out:=(C0 (D3 6 (C2 (A0 (C2 (A0 (A3 1) (A0 (b2 (A3 5) (vC (.int 1)) Pm) A9)) R0) (A0 (C2 (A0 (A3 1) (A0 (A3 5) A9)) R0) A9)) E4)) (C0 (D3 3 (C2 (A0 (A3 3) (A0 (A3 6) A9)) F8)) (C0 (sIf (C3 (b2 (A3 3) (b2 (A3 2) (A3 5) dIx) dNe)) (L0 (vC (.bool false))) E8) (C0 (N9 (fun δ=>((A3 6) δ).bind E3) (st3 7 8 9) (D3 4 (b2 (b2 (A3 4) (vFn (A0 (A3 9) A9) L6) C4) (vFn (A0 (A3 8) A9) L6) Pm))) (C0 (D3 10 (vFn (A0 (F3 (F1 (fun δ=>((A3 1) δ).bind E3) F5 [5] (C3 (b2 (b2 (b2 (A3 0) (vC (.int 1)) dIx) (vC (.int 0)) dIx) (A3 1) dEq)) (b2 (A3 0) (vC (.int 0)) dIx))) A9) P7)) (C0 (sIf (P9 (C3 (b2 (A3 10) (F3 (A0 (vC (.str "drop")) A9)) dEq)) (C3 (b2 (F3 (F1 (fun δ=>((A3 6) δ).bind E3) Nt [] (C3 (b2 (A3 2) (vC (.str "")) dNe)) (A3 2))) (F3 A9) dNe))) (L0 (vC (.bool false))) E8) (sIf (P9 (C3 (b2 (A3 10) (F3 (A0 (vC (.str "mark")) A9)) dEq)) (C3 (b2 (A3 6) (F3 A9) dNe))) (L0 (vC (.bool false))) E8)))))))
noncomputable abbrev dL (ns:List Int) (L:List Dp) (N:Nat) (x:List Nat) (m:Int) (s5 s6 s7 s8 s9 s10:Sl):Dn:=[.sh (scr ns),.sh (bkD L),.sh (.list (TX L N)),.sh (.str (mk x)),.sh (.int m),s5,s6,s7,s8,s9,s10]
theorem Td {c c':Dn->Res Bool} {δ:Dn} {b:Bool} (h1:c δ=.ok b) (h2:b=true->c' δ=.ok false):P9 c c' δ=.ok false:=by
 cases b with
 | false=>exact Kr h1
 | true=>exact Ew h1 (h2 rfl)
theorem hJ (ns:List Int) {L:List Dp} (W:BkW L) (hl:L.length<=9) {N:Nat} (hN:N<=21) {t:Nat} (h1:1<=t) (h2:t < N) (s6 s7 s8 s9 s10:Sl):∃ t6 t7 t8 t9 t10,
   Vc (dL ns L N (txt L ((t:Int) - 1)) ((txt L ((t:Int) - 1)).length:Int) (.sh (.int (t:Int))) s6 s7 s8 s9 s10)=.nx (dL ns L N (txt L (t:Int)) ((txt L (t:Int)).length:Int) (.sh (.int (t:Int))) t6 t7 t8 t9 t10):=by
 have hk:∀ e∈L,Kd e:=fun e he=>(W.1 e he).kd
 obtain ⟨B1,B2,ku1,kd1,ku2,kd2,R,D,eR,hR,hB⟩:=kB W hl (show (t:Int) - 1<=t by omega)
 have x1:=Ny hl D.A1 D.P1.P
 have x2:=Ny hl D.A2 D.P2.P
 obtain ⟨_,o1,l1⟩:=Tm W hl ((t:Int) - 1)
 have hch:=D.ch
 have hci:=D.ci
 have happ:=D.app
 have ol:=V4 D.A2
 have ul:=Z9 hl (t:Int)
 rw [<- x1,<- x2] at hci happ
 have hsum:=hci.sum
 have hns:=hci.ns
 have hcb:F8 [.str (mk (txt L ((t:Int) - 1))),.list ((Ta B1 B2 ku1 kd1 ku2 kd2).map chD)]=.ok (.str (mk (txt L (t:Int)))):=by
   have:=Uu (Ta B1 B2 ku1 kd1 ku2 kd2) (txt L ((t:Int) - 1)) o1 (fun c hc=>(hci.ok c hc).2) (by
     have:((Ta B1 B2 ku1 kd1 ku2 kd2).map fun c=>c.2.2.length).sum<=(ord B2).length:=hns
     omega) fun k c e=>by
     have:=hci.in' k [] c e; rw [List.append_nil] at this; exact this
   rw [this,happ]
 have hR':∀ y:Str,(∀ e∈L,e.2.1=(t:Int)->wdS e=y)->∀ k:Str,y≠k->∀ e∈R,∃ k' x xs,e.1=.tuple (.str k'::idP e.2::x::xs)/\k'≠k:=fun y hy k hne e he=>by
   obtain ⟨hm,q1,q2⟩:=hR e he; obtain ⟨x,xs,e1⟩:=(hk e hm).wd; exact ⟨_,x,xs,e1,by rw [hy e hm (by omega)]; exact hne⟩
 generalize hcs:Ta B1 B2 ku1 kd1 ku2 kd2=cs at hch hcb hsum
 have hsum':(cs.map fun c=>(c.2.2.length:Int) - c.2.1.length).sum=((txt L (t:Int)).length:Int) - (txt L ((t:Int) - 1)).length:=by rw [<- hcs]; exact hci.sum
 obtain ⟨t7,t8,t9,em⟩:=Mr (.sh (scr ns)) (.sh (bkD L)) (.sh (.list (TX L N))) (.sh (.str (mk (txt L (t:Int))))) (.sh (.int (t:Int))) (.sh (.list (cs.map chD))) s10 cs ((txt L ((t:Int) - 1)).length:Int) s7 s8 s9
 rw [hsum',show ((txt L ((t:Int) - 1)).length:Int)+(((txt L (t:Int)).length:Int) - (txt L ((t:Int) - 1)).length)=(txt L (t:Int)).length by omega] at em
 refine ⟨.sh (.list (cs.map chD)),t7,t8,t9,.sh (.list ((U0 (O8 (wds L (t:Int)))).map .str)),?_⟩
 unfold Vc
 refine (B5 (δ':=dL ns L N (txt L ((t:Int) - 1)) ((txt L ((t:Int) - 1)).length:Int) (.sh (.int (t:Int))) (.sh (.list (cs.map chD))) s7 s8 s9 s10) (D6 (D2 (A7 (D2 (A7 rfl (A7 (B9 rfl rfl subI) rfl)) (eP hk hl _)) (A7 (D2 (A7 rfl (A7 rfl rfl)) (eP hk hl _)) rfl)) hch))).trans ?_
 refine (B5 (δ':=dL ns L N (txt L (t:Int)) ((txt L ((t:Int) - 1)).length:Int) (.sh (.int (t:Int))) (.sh (.list (cs.map chD))) s7 s8 s9 s10) (D6 (D2 (A7 rfl (A7 rfl rfl)) hcb))).trans ?_
 refine (B5 (δ':=dL ns L N (txt L (t:Int)) ((txt L ((t:Int) - 1)).length:Int) (.sh (.int (t:Int))) (.sh (.list (cs.map chD))) s7 s8 s9 s10) ((U1 (C5 (B9 (x:=txD L (t:Int)) (y:=txD L (t:Int)) rfl (B9 (x:=.list (TX L N)) (y:=.int (t:Int)) rfl rfl ?_) (cP _)))).trans rfl)).trans ?_
 . refine (M0 (xs:=TX L N) (j:=t) (by rw [Gp]; exact h2)).trans ?_
   simp
 refine (B5 (δ':=dL ns L N (txt L (t:Int)) ((txt L (t:Int)).length:Int) (.sh (.int (t:Int))) (.sh (.list (cs.map chD))) t7 t8 t9 s10) ?_).trans ?_
 . unfold N9
   rw [I9 (d:=.list (cs.map chD)) (ds:=cs.map chD) rfl rfl,D1]; exact em
 refine (B5 (D6 (Xm hk hl (t:Int) rfl rfl))).trans ?_
 show C0 _ _ (dL ns L N (txt L (t:Int)) ((txt L (t:Int)).length:Int) (.sh (.int (t:Int))) (.sh (.list (cs.map chD))) t7 t8 t9 (.sh (.list ((U0 (O8 (wds L (t:Int)))).map .str))))=_
 obtain ⟨q1,w1,w2⟩:=eqW (U0 (O8 (wds L (t:Int)))) "drop"
 obtain ⟨q2,v1,v2⟩:=eqW (U0 (O8 (wds L (t:Int)))) "mark"
 refine (B5 ((U1 (Td (b:=q1) (C5 (B9 rfl rfl w1)) fun z=>?_)).trans rfl)).trans ((U1 (Td (b:=q2) (C5 (B9 rfl rfl v1)) fun z=>?_)).trans rfl)
 . have hw:=Rj (w2 z)
   have hne:=D.drops eR (hB (hR' _ hw "add" (by decide))) (hR' _ hw "undo" (by decide))
   rw [hcs] at hne; refine C5 (B9 (x:=.list []) (y:=.list []) (V2 (L3 (δc:=[]) (I9 (d:=.list (cs.map chD)) (ds:=cs.map chD) rfl rfl) ?_ rfl (Rt [] cs hne))) rfl cQ); have:cs.length<=(ord B2).length:=by rw [<- hcs]; exact hci.ln
   simp; omega
 . have hw:=Rj (v2 z)
   have hne:=D.marks eR (hB (hR' _ hw "add" (by decide))) (hR' _ hw "undo" (by decide)) (hR' _ hw "drop" (by decide))
   rw [hcs] at hne; subst hne; exact C5 (B9 (x:=.list []) (y:=.list []) rfl rfl cQ)
theorem Wn (ns:List Int) {L:List Dp} (W:BkW L) (hl:L.length<=9) {N:Nat} (hN:N<=21):∀ (m t:Nat),1<=t->t+m=N->∀ s5 s6 s7 s8 s9 s10:Sl,∃ t5 t6 t7 t8 t9 t10,
   E6 (st1 5) Vc (P3 (t:Int) (N:Int)) (dL ns L N (txt L ((t:Int) - 1)) ((txt L ((t:Int) - 1)).length:Int) s5 s6 s7 s8 s9 s10)=.nx (dL ns L N (txt L ((N:Int) - 1)) ((txt L ((N:Int) - 1)).length:Int) t5 t6 t7 t8 t9 t10)
 | 0,t,h1,h2,s5,s6,s7,s8,s9,s10=>by
   have:t=N:=by omega
   subst this; exact ⟨s5,s6,s7,s8,s9,s10,by rw [bL (by omega)]; rfl⟩
 | m+1,t,h1,h2,s5,s6,s7,s8,s9,s10=>by
   obtain ⟨a6,a7,a8,a9,a10,e⟩:=hJ ns W hl hN h1 (show t < N by omega) s6 s7 s8 s9 s10
   obtain ⟨t5,t6,t7,t8,t9,t10,e'⟩:=Wn ns W hl hN m (t+1) (by omega) (by omega) (.sh (.int (t:Int))) a6 a7 a8 a9 a10
   rw [show ((t+1:Nat):Int) - 1=t by omega,show ((t+1:Nat):Int)=(t:Int)+1 by omega] at e'
   exact ⟨t5,t6,t7,t8,t9,t10,by rw [Ye (by omega)]; exact (V9 rfl e).trans e'⟩
theorem bR (ns:List Int) (hns:ns.length<=63):Wm [.list (ns.map PyData.int)]=.ok (.bool true):=by
 obtain ⟨x,y,z,hxyz,en⟩:=cR ns hns 0
 obtain ⟨L,eb,hl,W⟩:=iU ns hns x y z hxyz
 obtain ⟨N,n1,n2,n3,et⟩:=aG W hl
 have t0:txt L 0=[]:=by
   have h0:upT L 0=[]:=List.filter_eq_nil_iff.mpr fun e he=>by
     have:=(show Wf _ _ _ _ from W.1 e he).1.1
     simp; omega
   have W0:=fD W 0; obtain ⟨B,A⟩:=mZ W0; obtain ⟨ku,kd,P⟩:=Vz (fun e he=>(W0.1 e he).kd) (Z9 hl 0)
   have ol:=V4 A; rw [h0,List.length_nil] at ol; have:ord B=[]:=List.eq_nil_of_length_eq_zero (by omega)
   rw [Ny hl A P.P,txL,this]; rfl
 obtain ⟨t5,t6,t7,t8,t9,t10,el⟩:=Wn ns W hl n2 (N - 1) 1 (Nat.le_refl _) (by omega) .un .un .un .un .un .un
 have hT:=(Tm W hl ((N:Int) - 1)).1
 rw [jZ fun e he=>by have:=n3 e he; omega] at hT
 refine Ar ?_
 show C0 _ _ [.sh (scr ns),.un,.un,.un,.un,.un,.un,.un,.un,.un,.un]=_
 refine (B5 (D6 (D2 (A7 rfl (A7 rfl (A7 rfl (A7 (D2 (A7 rfl (A7 rfl rfl)) en) rfl)))) eb))).trans ?_
 refine (B5 (D6 (D2 (A7 rfl rfl) et))).trans ?_
 refine (B5 rfl).trans ((B5 rfl).trans ?_)
 rw [show ((1:Nat):Int) - 1=0 from rfl,t0] at el
 refine (B5 (δ':=dL ns L N (txt L ((N:Int) - 1)) ((txt L ((N:Int) - 1)).length:Int) t5 t6 t7 t8 t9 t10) ?_).trans ?_
 . unfold Il N9
   rw [show (fun δ=>((A0 (vC (.int 1)) (A0 (vFn (A0 (A3 2) A9) L6) A9)) δ).bind Yf) _=.ok (P3 1 (N:Int)) from by
     have:(A0 (vC (.int 1)) (A0 (vFn (A0 (A3 2) A9) L6) A9)) (dL ns L N [] 0 .un .un .un .un .un .un)=.ok [.int 1,.int (N:Int)]:=A7 rfl (A7 (Q3 (A7 rfl rfl) (by show some (PyData.int ((TX L N).length:Int))=_; rw [Gp])) rfl)
     show ((A0 (vC (.int 1)) (A0 (vFn (A0 (A3 2) A9) L6) A9)) (dL ns L N [] 0 .un .un .un .un .un .un)).bind Yf=_
     rw [this,C6,fZ (by omega) (by omega) (by omega) (by omega)],D1]
   exact el
 . refine N2 ?_
   have e1:(b2 (A3 3) (C2 (A0 (A3 1) A9) K0) dEq) (dL ns L N (txt L ((N:Int) - 1)) ((txt L ((N:Int) - 1)).length:Int) t5 t6 t7 t8 t9 t10)=.ok (.bool true):=B9 rfl (D2 (A7 rfl rfl) hT) (mQ _); have e2:(b2 (A3 4) (vFn (A0 (A3 3) A9) L6) dEq) (dL ns L N (txt L ((N:Int) - 1)) ((txt L ((N:Int) - 1)).length:Int) t5 t6 t7 t8 t9 t10)=.ok (.bool true):=B9 (y:=.int ((txt L ((N:Int) - 1)).length:Int)) rfl (Q3 (A7 rfl rfl) (by rw [Uk,Cg])) (by rw [Zg,beq_self_eq_true])
   rw [jY _ _ _ e1,e2]
end Sm
end
set_option maxRecDepth 100000 in
set_option maxHeartbeats 0 in
theorem PySem.Challenge.cw_staymark_k72_whole_step_by_step_holds : PySem.Challenge.rw_staymark_k72_whole_step_by_step.Holds := by
 w_on; o_law; k_head; (case hw=>w_witness2)
 k_fill
 refine Sm.walkD (l:=PySem.Challenge.rw_staymark_k72_whole_step_by_step) rfl rfl rfl (fun w h Y=>PySem.W.kIn_of Y) (fun w=>?hK) ?F Sm.bR
 case hK=>kernel_rfl
 case F =>
   intro w mg h KX G; refine' ⟨⟨?b0,?b1,?b2,?b3,?b4,?b5,?b6,?b7,?b8⟩,⟨?d23,?d0,?d1,?d2,?d3,?d4,?d5,?d6,?d7,?d8,?d9,?d10,?d11,?d12,?d13,?d14,?d15,?d16,?d17,?d18,?d19,?d20,?d21,?d22⟩⟩
   case b0=>(refine' PySem.W.mg_none_of KX G ?z; (case z=>k_is))
   case b1=>(refine' PySem.W.mg_none_of KX G ?z; (case z=>k_is))
   case b2=>(refine' PySem.W.mg_none_of KX G ?z; (case z=>k_is))
   case b3=>(refine' PySem.W.mg_none_of KX G ?z; (case z=>k_is))
   case b4=>(refine' PySem.W.mg_none_of KX G ?z; (case z=>k_is))
   case b5=>(refine' PySem.W.mg_none_of KX G ?z; (case z=>k_is))
   case b6=>(refine' PySem.W.mg_none_of KX G ?z; (case z=>k_is))
   case b7=>(refine' PySem.W.mg_none_of KX G ?z; (case z=>k_is))
   case b8=>(refine' PySem.W.mg_none_of KX G ?z; (case z=>k_is))
   case d0=>(refine' Sm.P6 KX G ?a ?l ?c ?k (fun _ _ _ _ _ _ _=>rfl) rfl; (case a=>k_is); (case l=>k_is); (case c=>k_is); (case k=>k_is))
   case d1=>(refine' Sm.P6 KX G ?a ?l ?c ?k (fun _ _ _ _ _ _ _=>rfl) rfl; (case a=>k_is); (case l=>k_is); (case c=>k_is); (case k=>k_is))
   case d2=>(refine' Sm.P6 KX G ?a ?l ?c ?k (fun _ _ _ _ _ _ _=>rfl) rfl; (case a=>k_is); (case l=>k_is); (case c=>k_is); (case k=>k_is))
   case d3=>(refine' Sm.P6 KX G ?a ?l ?c ?k (fun _ _ _ _ _ _ _=>rfl) rfl; (case a=>k_is); (case l=>k_is); (case c=>k_is); (case k=>k_is))
   case d4=>(refine' Sm.Z0 KX G ?a ?l ?c ?k (fun _ _ _ _ _ _ _ _=>rfl) rfl; (case a=>k_is); (case l=>k_is); (case c=>k_is); (case k=>k_is))
   case d5=>(refine' Sm.P6 KX G ?a ?l ?c ?k (fun _ _ _ _ _ _ _=>rfl) rfl; (case a=>k_is); (case l=>k_is); (case c=>k_is); (case k=>k_is))
   case d6=>(refine' Sm.P6 KX G ?a ?l ?c ?k (fun _ _ _ _ _ _ _=>rfl) rfl; (case a=>k_is); (case l=>k_is); (case c=>k_is); (case k=>k_is))
   case d7=>(refine' Sm.P6 KX G ?a ?l ?c ?k (fun _ _ _ _ _ _ _=>rfl) rfl; (case a=>k_is); (case l=>k_is); (case c=>k_is); (case k=>k_is))
   case d8=>(refine' Sm.Pj KX G ?a ?l ?c ?k (fun _ _ _ _ _ _ _ _ _=>rfl) rfl; (case a=>k_is); (case l=>k_is); (case c=>k_is); (case k=>k_is))
   case d9=>(refine' Sm.Z0 KX G ?a ?l ?c ?k (fun _ _ _ _ _ _ _ _=>rfl) rfl; (case a=>k_is); (case l=>k_is); (case c=>k_is); (case k=>k_is))
   case d10=>(refine' Sm.Z0 KX G ?a ?l ?c ?k (fun _ _ _ _ _ _ _ _=>rfl) rfl; (case a=>k_is); (case l=>k_is); (case c=>k_is); (case k=>k_is))
   case d11=>(refine' Sm.Z0 KX G ?a ?l ?c ?k (fun _ _ _ _ _ _ _ _=>rfl) rfl; (case a=>k_is); (case l=>k_is); (case c=>k_is); (case k=>k_is))
   case d12=>(refine' Sm.P6 KX G ?a ?l ?c ?k (fun _ _ _ _ _ _ _=>rfl) rfl; (case a=>k_is); (case l=>k_is); (case c=>k_is); (case k=>k_is))
   case d13=>(refine' Sm.Z0 KX G ?a ?l ?c ?k (fun _ _ _ _ _ _ _ _=>rfl) rfl; (case a=>k_is); (case l=>k_is); (case c=>k_is); (case k=>k_is))
   case d14=>(refine' Sm.P6 KX G ?a ?l ?c ?k (fun _ _ _ _ _ _ _=>rfl) rfl; (case a=>k_is); (case l=>k_is); (case c=>k_is); (case k=>k_is))
   case d15=>(refine' Sm.Z0 KX G ?a ?l ?c ?k (fun _ _ _ _ _ _ _ _=>rfl) rfl; (case a=>k_is); (case l=>k_is); (case c=>k_is); (case k=>k_is))
   case d16=>(refine' Sm.Pj KX G ?a ?l ?c ?k (fun _ _ _ _ _ _ _ _ _=>rfl) rfl; (case a=>k_is); (case l=>k_is); (case c=>k_is); (case k=>k_is))
   case d17=>(refine' Sm.Z0 KX G ?a ?l ?c ?k (fun _ _ _ _ _ _ _ _=>rfl) rfl; (case a=>k_is); (case l=>k_is); (case c=>k_is); (case k=>k_is))
   case d18=>(refine' Sm.Z0 KX G ?a ?l ?c ?k (fun _ _ _ _ _ _ _ _=>rfl) rfl; (case a=>k_is); (case l=>k_is); (case c=>k_is); (case k=>k_is))
   case d19=>(refine' Sm.P6 KX G ?a ?l ?c ?k (fun _ _ _ _ _ _ _=>rfl) rfl; (case a=>k_is); (case l=>k_is); (case c=>k_is); (case k=>k_is))
   case d20=>(refine' Sm.Pj KX G ?a ?l ?c ?k (fun _ _ _ _ _ _ _ _ _=>rfl) rfl; (case a=>k_is); (case l=>k_is); (case c=>k_is); (case k=>k_is))
   case d21=>(refine' Sm.iI KX G ?a ?l ?c ?k (fun _ _ _ _ _ _ _ _ _ _ _=>rfl) rfl; (case a=>k_is); (case l=>k_is); (case c=>k_is); (case k=>k_is))
   case d22=>(refine' Sm.iJ KX G ?a ?l ?c ?k (fun _ _ _ _ _ _ _ _ _ _=>rfl) rfl; (case a=>k_is); (case l=>k_is); (case c=>k_is); (case k=>k_is))
   case d23=>(refine' Sm.P6 KX G ?a ?l ?c ?k (fun _ _ _ _ _ _ _=>rfl) rfl; (case a=>k_is); (case l=>k_is); (case c=>k_is); (case k=>k_is))
