import PyProof.Rows.All
import Wide.All
import OpenK.AllK
import Wide.FinOn
import Lean
import PyProof.EqAt
import PyProof.EqKinds
import PyProof.TupleCall
import PyProof.AttrMiss
import PyProof.IsiH_list
import PySem.SetOps
import PyProof.SetScanFacts
import PyProof.SetKind
import PyProof.IsRules
import PyProof.TupleKey
import PyProof.P3Eq
import Wide.Seal
import PyProof.StrCalls
import PyProof.SeqI3
import PyProof.Draws
import PyProof.EnumMake
import PyProof.DictValues
import PyProof.DictWalks
import PyProof.TupleOfSeq
import PyProof.TupleOfGen
import KE.KDictList
import KE.KRevIter
import PyProof.MinMaxWalk
import PyProof.Rows.CallKwBuiltin
import KE.KSortTup
import PyProof.Rows.SortWalk
import PyProof.Rows.SortShell
import PyProof.DictIter
import PyProof.P3In
import PyProof.Rows.SortStr
import PyProof.MeetsStr
import PyProof.FactsAll.str_6
import PyProof.StrCalls2
import PyProof.MeetsStr2
import KE.KIntText
import PyProof.SliceStr2
import PyProof.Rows.Range3
import PyProof.FactsAll.list_3
import PyProof.FString4
import PyProof.ZipIter
import PyProof.ListNew
import PySem.Challenge.RW_staymark_k10_texts
set_option Elab.async false
set_option linter.all false
set_option maxRecDepth 100000
set_option maxHeartbeats 4000000
set_option compiler.extract_closed false
set_option bootstrap.genMatcherCode false
set_option genSizeOf false
namespace L2
open PySem PySem.Spec PyProof.Rows
abbrev Key:=Sum Int Str
noncomputable def mL:Key->Value->Bool
 | .inl k,v=>Value.isInt k v
 | .inr x,v=>Value.isStrOf x v
noncomputable def keyH (w:World):Key->Int
 | .inl k=>hashInt k
 | .inr x=>hashStr w x
theorem L5:∀ {k:Key} {v:Value},mL k v=true->(∃ i t,k=Sum.inl i/\v=Value.int i t)\/(∃ x t,k=Sum.inr x/\v=Value.str x t)
 | .inl i,v,h=>by
   obtain ⟨t,e⟩:=Value.isInt_shape (k:=i) (v:=v) h; exact .inl ⟨i,t,rfl,e⟩
 | .inr x,v,h=>by
   obtain ⟨t,e⟩:=Value.isStrOf_shape (x:=x) (v:=v) h; exact .inr ⟨x,t,rfl,e⟩
theorem pI (a b:Int):decide ((Sum.inl a:Key)=Sum.inl b)=(a==b):=by
 by_cases e:a=b
 . subst e; simp
 . have h:¬ (Sum.inl a:Key)=Sum.inl b:=fun q=>e (Sum.inl.inj q)
   rw [decide_eq_false h]; exact (beq_eq_false_iff_ne.mpr e).symm
theorem pD (a b:Str):decide ((Sum.inr a:Key)=Sum.inr b)=decide (a=b):=by
 by_cases e:a=b
 . subst e; simp
 . have h:¬ (Sum.inr a:Key)=Sum.inr b:=fun q=>e (Sum.inr.inj q)
   rw [decide_eq_false h,decide_eq_false e]
theorem pH (a:Int) (b:Str):decide ((Sum.inl a:Key)=Sum.inr b)=false:=decide_eq_false (fun q=>nomatch q)
theorem pG (a:Str) (b:Int):decide ((Sum.inr a:Key)=Sum.inl b)=false:=decide_eq_false (fun q=>nomatch q)
noncomputable def Rn (prog:Program) (w:World):PySem.KeyKind prog w Key where
 is:=mL
 hash:=keyH w
 inj:=fun v a b ha hb=>by
   rcases L5 ha with ⟨i,t,rfl,rfl⟩ | ⟨x,t,rfl,rfl⟩
   . rcases L5 hb with ⟨j,u,rfl,e⟩ | ⟨y,u,rfl,e⟩
     . injection e with e1 _; rw [e1]
     . exact nomatch e
   . rcases L5 hb with ⟨j,u,rfl,e⟩ | ⟨y,u,rfl,e⟩
     . exact nomatch e
     . injection e with e1 _; rw [e1]
 byValue:=fun k v h=>by
   rcases L5 h with ⟨i,t,rfl,rfl⟩ | ⟨x,t,rfl,rfl⟩ <;> rfl
 pyHash:=fun hv h=>by
   rcases L5 hv with ⟨i,t,rfl,rfl⟩ | ⟨x,t,rfl,rfl⟩
   . exact wpAny_pyHash_int h
   . exact wpAny_pyHash_str h
 eqBool:=fun hu hv h=>by
   rcases L5 hu with ⟨i,t,rfl,rfl⟩ | ⟨x,t,rfl,rfl⟩
   . rcases L5 hv with ⟨j,u,rfl,rfl⟩ | ⟨y,u,rfl,rfl⟩
     . rw [pI] at h; exact wpAny_eqBool_int h
     . rw [pH] at h; exact SeqAt.EqAt.int_str i t y u _ _ _ _ h
   . rcases L5 hv with ⟨j,u,rfl,rfl⟩ | ⟨y,u,rfl,rfl⟩
     . rw [pG] at h; exact SeqAt.EqAt.str_int x t j u _ _ _ _ h
     . rw [pD] at h; exact wpAny_eqBool_str h
 «strs» := fun k x t v h=>by
   rcases L5 h with ⟨i,u,rfl,e⟩ | ⟨y,u,rfl,e⟩
   . exact nomatch e
   . injection e with e1 _
     subst e1
     cases v <;> rfl
end L2
namespace L2
open PySem PySem.Spec PyProof.Rows
inductive V where
 | non | bl (b:Bool) | int (i:Int) | str (x:Str) | byt (b:Array UInt8) | flt (b:UInt64) | ref (a:Addr) | ty (n:String)
 deriving DecidableEq
def RelV:V->Value->Prop
 | .non,u=>u=Value.none
 | .bl b,u=>u=Value.bool b
 | .int i,u=>∃ t,u=Value.int i t
 | .str x,u=>∃ t,u=Value.str x t
 | .byt b,u=>∃ t,u=Value.bytes b t
 | .flt b,u=>∃ t,u=Value.float b t
 | .ref a,u=>u=Value.ref a
 | .ty n,u=>u=Value.type n
abbrev Vals:List V->List Value->Prop:=Paired RelV
theorem Vals.length {xs:List V} {us:List Value} (r:Vals xs us):xs.length=us.length:=Paired.length r
theorem Vals.get:∀ {xs:List V} {us:List Value} {i:Nat} {x:V},Vals xs us->xs[i]? = some x->∃ u,us[i]? = some u/\RelV x u
 | _,_,_,_,.nil,e=>by simp at e
 | _,_,0,_,.cons r _,e=>by simp at e; subst e; exact ⟨_,rfl,r⟩
 | _,_,i+1,x,.cons _ t,e=>by
   obtain ⟨u,h1,h2⟩:=Vals.get (i:=i) (x:=x) t (by simpa using e)
   exact ⟨u,by simpa using h1,h2⟩
theorem Vals.set {x:V} {u:Value} (r:RelV x u):∀ {xs:List V} {us:List Value} (i:Nat),Vals xs us->Vals (xs.set i x) (us.set i u)
 | _,_,_,.nil=>.nil
 | _,_,0,.cons _ t=>.cons r t
 | _,_,i+1,.cons q t=>.cons q (Vals.set r i t)
theorem Vals.append:∀ {xs ys:List V} {us ws:List Value},Vals xs us->Vals ys ws->Vals (xs++ys) (us++ws)
 | _,_,_,_,.nil,s=>s
 | _,_,_,_,.cons r t,s=>.cons r (Vals.append t s)
theorem Vals.take:∀ {xs:List V} {us:List Value} (n:Nat),Vals xs us->Vals (xs.take n) (us.take n)
 | _,_,0,_=>.nil
 | _,_,_+1,.nil=>.nil
 | _,_,n+1,.cons r t=>.cons r (Vals.take n t)
theorem Vals.drop:∀ {xs:List V} {us:List Value} (n:Nat),Vals xs us->Vals (xs.drop n) (us.drop n)
 | _,_,0,r=>r
 | _,_,_+1,.nil=>.nil
 | _,_,n+1,.cons _ t=>Vals.drop n t
def qI:Option V->Option Value->Prop
 | some v,some u=>RelV v u
 | none,none=>True
 | _,_=>False
def KV {κ:Type}:List (κ×V)->List (κ×Value)->Prop:=Paired fun (p:κ×V) (q:κ×Value)=>p.1=q.1/\RelV p.2 q.2
noncomputable def kV:Key->V
 | .inl i=>.int i
 | .inr x=>.str x
inductive HO where
 | lst (xs:List V)
 | tup (xs:List V)
 | dK (kvs:List (Key×V)) | dT (kvs:List (List Key×V))
 | dN (kvs:List (PyData×V))
 | set (S:Int->Bool) (n:Nat)
 | ins (C dx:Addr) (fs:List (Str×V))
 | own (x:Addr)
 | xd (fs:List (Str×V))
 | met (f x:Addr)
 | rng (lo hi:Int)
 | frz (o:Obj) (u:HO)
 | tbl (ps:Array Value)
 | ext (φ:Heap->Prop)
abbrev Hp:=Addr->Option HO
noncomputable def upd (H:Hp) (a:Addr) (o:HO):Hp:=fun b=>if b=a then some o else H b
theorem B7 {H:Hp} {a:Addr} {o:HO}:upd H a o a=some o:=by unfold upd; rw [if_pos rfl]
theorem B3 {H:Hp} {a b:Addr} {o:HO} (h:b≠a):upd H a o b=H b:=by unfold upd; rw [if_neg h]
theorem Qo {H:Hp} {a:Addr} {o u:HO}:upd (upd H a o) a u=upd H a u:=by
 funext b; unfold upd; split <;> rfl
theorem Mg {H:Hp} {a b:Addr} {o u:HO} (h:H a=some o) (h':H b=some u) (d:o≠u):a≠b:=by
 intro e; subst e; rw [h] at h'; exact d (Option.some.inj h')
theorem D6 {H:Hp} {a b:Addr} {o:HO} (h:H a=some o) (h':H b=none):a≠b:=by
 intro e; subst e; rw [h] at h'; cases h'
mutual
noncomputable def isK:PyData->Bool
 | .int _=>true
 | .str _=>true
 | .tuple xs=>Fj xs
 | .none | .bool _ | .list _ | .dict _=>false
noncomputable def Fj:List PyData->Bool
 | []=>true
 | x::r=>isK x&&Fj r
end
mutual
noncomputable def Uh (w:World):PyData->Int
 | .int i=>hashInt i
 | .str x=>hashStr w x
 | .tuple xs=>reduceHash (Builtin.Tuple.tupleHashOf (Ec w xs))
 | .none | .bool _ | .list _ | .dict _=>0
noncomputable def Ec (w:World):List PyData->List Int
 | []=>[]
 | x::r=>Uh w x::Ec w r
end
noncomputable def T4 (w:World):PyData->Int
 | .none=>0xFCA86420
 | d=>Uh w d
noncomputable def nkD (d:PyData):Bool:=match d with
 | .none=>true
 | .str _=>true
 | .tuple xs=>Fj xs&&decide ((PyData.tuple xs).depth<=8)
 | _=>false
mutual
def KRep (H:Hp):PyData->V->Prop
 | .none,v=>v=.non
 | .int i,v=>v=.int i
 | .str x,v=>v=.str x/\PyData.strOk x=true/\x.length<=sizeLine
 | .tuple ds,v=>∃ b xs,v=.ref b/\H b=some (.tup xs)/\KRepL H ds xs
 | .bool _,_=>False
 | .list _,_=>False
 | .dict _,_=>False
def KRepL (H:Hp):List PyData->List V->Prop
 | [],xs=>xs=[]
 | d::ds,xs=>∃ x r,xs=x::r/\KRep H d x/\KRepL H ds r
end
mutual
theorem KRep.mono {H H':Hp} (ht:∀ b xs,H b=some (.tup xs)->H' b=some (.tup xs)):∀ {d:PyData} {v:V},KRep H d v->KRep H' d v
 | .none,_,r=>r
 | .int _,_,r=>r
 | .str _,_,r=>r
 | .tuple _,_,r=>by obtain ⟨b,xs,e,q,l⟩:=r; exact ⟨b,xs,e,ht _ _ q,KRepL.mono ht l⟩
 | .bool _,_,r=>r.elim
 | .list _,_,r=>r.elim
 | .dict _,_,r=>r.elim
theorem KRepL.mono {H H':Hp} (ht:∀ b xs,H b=some (.tup xs)->H' b=some (.tup xs)):∀ {ds:List PyData} {xs:List V},KRepL H ds xs->KRepL H' ds xs
 | [],_,r=>r
 | _::_,_,r=>by obtain ⟨x,t,e,q,l⟩:=r; exact ⟨x,t,e,KRep.mono ht q,KRepL.mono ht l⟩
end
noncomputable def U3 (w:World) (kvs:List (PyData×V)) (xs:List (Value×Value)):List DictEntry:=List.zipWith (fun p q=>⟨T4 w p.1,q.1,q.2⟩) kvs xs
section
variable (P:Program) (w:World)
def ObjOk (H:Hp) (h:Heap) (a:Addr):HO->Prop
 | .lst xs=>xs.length<=sizeLine/\∃ (its:List Value) (n:Nat),Vals xs its/\h.get? a=some { cls:=.type "list",data:=.seq its.toArray n }
 | .tup xs=>xs.length<=sizeLine/\∃ its:List Value,Vals xs its/\IsTup h a its.toArray
 | .dK kvs=>kvs.length<=sizeLine/\(a==sysModules)=false/\∃ vs,KV kvs vs/\h.DictOf (Rn P w) a vs
 | .dT kvs => kvs.length <= sizeLine /\ (a == sysModules) = false /\ ∃ xs : List (List Key × Addr × Value),
     Paired (fun (p:List Key×V) (q:List Key×Addr×Value)=>p.1=q.1/\H q.2.1=some (.tup (p.1.map kV))/\RelV p.2 q.2.2) kvs xs /\
     ∃ o es ep,h.get? a=some o/\o.ExactDict/\o.data=.dict es ep/\es.toList=xs.map (entryOfKey (tupleKind (Rn P w)))/\(xs.map (·.1)).Nodup
 | .dN kvs => kvs.length <= sizeLine /\ (a == sysModules) = false /\ (kvs.map (·.1)).Nodup /\ (∀ p ∈ kvs, nkD p.1 = true) /\ ∃ xs : List (Value × Value),
     Paired (fun (p:PyData×V) (q:Value×Value)=>(∃ v,KRep H p.1 v/\RelV v q.1)/\RelV p.2 q.2) kvs xs/\∃ ep,h.get? a=some { cls:=.type "dict",data:=.dict (U3 w kvs xs).toArray ep }
 | .set S n=>h.SetOf (intKind P w) a S n
 | .ins C dx fs => H dx = some (.own a) /\ fs.length <= 1000 /\ dx ≠ a /\ h.get? a = some (PySem.W.instObj C dx) /\
     ∃ mA,h.Ns1 dx mA/\(∀ f,qI (fs.lookup f) (mA f))/\PySem.Within mA (fs.map (·.1))
 | .own _=>∃ o,h.get? a=some o
 | .xd fs=>∃ mA,h.Ns1 a mA/\∀ f,qI (fs.lookup f) (mA f)
 | .rng lo hi=>∃ t u v,h.get? a=some { cls:=.type "range",data:=.fields #[.int lo t,.int hi u,.int 1 v] }
 | .frz o u=>h.get? a=some o/\ObjOk H h a u
 | .tbl ps=>h.get? a=some { cls:=.none,data:=.fields ps }
 | .met f x=>h.get? a=some (PySem.W.methodObj (.ref f) (.ref x))
 | .ext φ=>φ h/\(∃ o,h.get? a=some o)/\∀ h1 h2:Heap,φ h1->(∀ o,h1.get? a=some o->h2.get? a=some o)->φ h2
def HOk (H:Hp) (h:Heap):Prop:=∀ a o,H a=some o->ObjOk P w H h a o
end
section
variable {P:Program} {w:World} {H H':Hp} {h h':Heap} {a:Addr} {o:HO}
theorem ObjOk.lt (x:ObjOk P w H h a o):a < h.objs.size:=by
 cases o with
 | lst xs=>obtain ⟨_,_,_,_,e⟩:=x; exact Heap.lt_size e
 | tup xs=>obtain ⟨_,_,_,p⟩:=x; exact p.lt
 | dK kvs=>obtain ⟨_,_,_,_,o,_,_,e,_⟩:=x; exact Heap.lt_size e
 | dT kvs=>obtain ⟨_,_,_,_,o,_,_,e,_⟩:=x; exact Heap.lt_size e
 | dN kvs=>obtain ⟨_,_,_,_,_,_,_,e⟩:=x; exact Heap.lt_size e
 | set S n=>obtain ⟨o,_,_,_,e,_⟩:=x; exact Heap.lt_size e
 | ins C dx fs=>obtain ⟨_,_,_,e,_⟩:=x; exact Heap.lt_size e
 | own y=>obtain ⟨_,e⟩:=x; exact Heap.lt_size e
 | xd fs=>obtain ⟨_,⟨_,_,_,e,_⟩,_⟩:=x; exact Heap.lt_size e
 | rng lo hi=>obtain ⟨_,_,_,e⟩:=x; exact Heap.lt_size e
 | frz ob u=>obtain ⟨e,_⟩:=x; exact Heap.lt_size e
 | tbl ps=>exact Heap.lt_size (show h.get? a=some _ from x)
 | met f y=>exact Heap.lt_size (show h.get? a=some _ from x)
 | ext φ=>obtain ⟨_,⟨_,e⟩,_⟩:=x; exact Heap.lt_size e
theorem Paired.mapP {α β:Type} {F G:α->β->Prop}:∀ {l₁:List α} {l₂:List β},Paired F l₁ l₂->(∀ a b,F a b->G a b)->Paired G l₁ l₂
 | _,_,.nil,_=>.nil
 | _,_,.cons r t,f=>.cons (f _ _ r) (Paired.mapP t f)
theorem ObjOk.stay (x:ObjOk P w H h a o) (k:∀ b u,(b=a\/H b=some (.own a))->h.get? b=some u->h'.get? b=some u)
   (ho:∀ b,H b=some (.own a)->H' b=some (.own a)) (ht:∀ b xs,H b=some (.tup xs)->H' b=some (.tup xs)):ObjOk P w H' h' a o:=by
 induction o with
 | lst xs=>obtain ⟨z,its,n,r,e⟩:=x; exact ⟨z,its,n,r,k _ _ (.inl rfl) e⟩
 | tup xs=>obtain ⟨z,its,r,ob,e,c⟩:=x; exact ⟨z,its,r,ob,k _ _ (.inl rfl) e,c⟩
 | dK kvs=>obtain ⟨z,y,vs,r,ob,es,ep,e,c⟩:=x; exact ⟨z,y,vs,r,ob,es,ep,k _ _ (.inl rfl) e,c⟩
 | dT kvs =>
   obtain ⟨z,y,xs,r,ob,es,ep,e,c⟩:=x; exact ⟨z,y,xs,Paired.mapP r fun p q z=>⟨z.1,ht _ _ z.2.1,z.2.2⟩,ob,es,ep,k _ _ (.inl rfl) e,c⟩
 | dN kvs =>
   obtain ⟨z,y,nd,nk,xs,r,ep,e⟩:=x; exact ⟨z,y,nd,nk,xs,Paired.mapP r fun p q hZ2=>by obtain ⟨⟨v,z1,z2⟩,z3⟩:=hZ2; exact ⟨⟨v,z1.mono ht,z2⟩,z3⟩,ep,k _ _ (.inl rfl) e⟩
 | set S n=>obtain ⟨ob,es,ep,t,e,c⟩:=x; exact ⟨ob,es,ep,t,k _ _ (.inl rfl) e,c⟩
 | ins C dx fs =>
   obtain ⟨d,z,ne,e,mA,⟨od,es,ep,e2,c⟩,r⟩:=x; exact ⟨ho _ d,z,ne,k _ _ (.inl rfl) e,mA,⟨od,es,ep,k _ _ (.inr d) e2,c⟩,r⟩
 | own y=>obtain ⟨ob,e⟩:=x; exact ⟨ob,k _ _ (.inl rfl) e⟩
 | xd fs=>obtain ⟨mA,⟨od,es,ep,e,c⟩,r⟩:=x; exact ⟨mA,⟨od,es,ep,k _ _ (.inl rfl) e,c⟩,r⟩
 | rng lo hi=>obtain ⟨t,u,v,e⟩:=x; exact ⟨t,u,v,k _ _ (.inl rfl) e⟩
 | frz ob u ih=>obtain ⟨e,q⟩:=x; exact ⟨k _ _ (.inl rfl) e,ih q⟩
 | tbl ps =>
   have e:h.get? a=some { cls:=.none,data:=.fields ps }:=x; show h'.get? a=some { cls:=.none,data:=.fields ps }
   exact k a _ (.inl rfl) e
 | met f y =>
   have e:h.get? a=some (PySem.W.methodObj (.ref f) (.ref y)):=x; show h'.get? a=some (PySem.W.methodObj (.ref f) (.ref y))
   exact k a _ (.inl rfl) e
 | ext φ=>obtain ⟨p,⟨o,e⟩,st⟩:=x; exact ⟨st _ _ p fun o q=>k _ _ (.inl rfl) q,⟨o,k _ _ (.inl rfl) e⟩,st⟩
theorem HOk.lt (x:HOk P w H h) (e:H a=some o):a < h.objs.size:=(x a o e).lt
theorem HOk.fresh (x:HOk P w H h) (e:h.objs.size<=a):H a=none:=by
 cases q:H a with
 | none=>rfl
 | some u=>exact absurd (Nat.lt_of_lt_of_le (x.lt q) e) (Nat.lt_irrefl _)
theorem HOk.kept (x:HOk P w H h) (k:∀ b u,h.get? b=some u->h'.get? b=some u):HOk P w H h':=fun a o e =>
 (x a o e).stay (fun b u _ q=>k b u q) (fun _ q=>q) fun _ _ q=>q
theorem HOk.laid (x:HOk P w H h) (k:∀ b u,h.get? b=some u->h'.get? b=some u) (hp:h.objs.size<=a) (new:ObjOk P w (upd H a o) h' a o):HOk P w (upd H a o) h':=fun b u e=>by
 have hn:=x.fresh hp
 by_cases hb:b=a
 . subst hb; rw [B7] at e; cases e; exact new
 . rw [B3 hb] at e
   exact (x b u e).stay (fun c v _ q=>k c v q) (fun c q=>by rw [B3 (D6 q hn)]; exact q) fun c xs q=>by rw [B3 (D6 q hn)]; exact q
end
def Rd (H:Hp) (a:Addr) (u:HO):Prop:=H a=some u\/∃ o,H a=some (.frz o u)
theorem Rd.ok {P:Program} {w:World} {H:Hp} {h:Heap} {a:Addr} {u:HO} (r:Rd H a u) (x:HOk P w H h):ObjOk P w H h a u:=by
 rcases r with r | ⟨o,r⟩
 . exact x a u r
 . obtain ⟨_,q⟩:=x a _ r
   exact q
def Mut:Option HO->Prop
 | some (.lst _)=>True
 | some (.dK _)=>True
 | some (.dT _)=>True
 | some (.dN _)=>True
 | some (.set _ _)=>True
 | some (.ins _ _ _)=>True
 | some (.ext _)=>True
 | _=>False
section
variable {P:Program} {w:World} {H:Hp} {h h':Heap} {x e:Addr} {o':HO}
theorem HOk.write (ok:HOk P w H h) (mu:Mut (H x)) (he:e=x\/H e=some (.own x)) (k:∀ b u,b≠e->h.get? b=some u->h'.get? b=some u) (heo:∃ u,h'.get? e=some u)
   (new:ObjOk P w (upd H x o') h' x o'):HOk P w (upd H x o') h':=fun b u q=>by
 have nown:∀ c y,H c=some (.own y)->c≠x:=fun c y r z=>by subst z; rw [r] at mu; exact mu
 have ntup:∀ c xs,H c=some (.tup xs)->c≠x:=fun c xs r z=>by subst z; rw [r] at mu; exact mu
 by_cases hb:b=x
 . subst hb; rw [B7] at q; cases q; exact new
 . rw [B3 hb] at q
   by_cases hbe:b=e
   . have q' : H b = some (.own x) := by
       rcases he with z | z
       . exact absurd (hbe.trans z) hb
       . rw [hbe]; exact z
     rw [q] at q'; cases q'
     obtain ⟨v,hv⟩:=heo; exact ⟨v,by rw [hbe]; exact hv⟩
   . refine (ok b u q).stay (fun c v hc r=>k c v ?_ r) (fun c r=>by rw [B3 (nown c b r)]; exact r) fun c xs r=>by rw [B3 (ntup c xs r)]; exact r
     rcases hc with rfl | hc
     . exact hbe
     . rintro rfl
       rcases he with z | z
       . exact nown c b hc z
       . rw [hc] at z; cases z; exact hb rfl
end
structure Un (fs ex:List Addr) (H H':Hp) (h h':Heap):Prop where
 keep:∀ b o,h.get? b=some o->H b=none->b∉fs->b∉ex->h'.get? b=some o
 slot:∀ b o,h.get? b=some o->H b=none->b∈fs->b∉ex->∃ sl,h'.get? b=some { o with slots:=sl }
 free:∀ b o,h.get? b=some o->H b=none->b∉ex->H' b=none
 there:∀ b o,h.get? b=some o->b∉ex->∃ o',h'.get? b=some o'
 tups:∀ b xs,H b=some (.tup xs)->H' b=some (.tup xs)
 frzs:∀ b o u,H b=some (.frz o u)->H' b=some (.frz o u)
 tbls:∀ b ps,H b=some (.tbl ps)->∃ more,H' b=some (.tbl (ps++more))
section
variable {fs ex:List Addr} {H H1:Hp} {h h1 h':Heap} {a x e:Addr} {o:HO}
theorem Un.any (u:Un fs ex H H1 h h1) {b:Addr} {ob:Obj} (q:h.get? b=some ob) (n:H b=none) (hx:b∉ex):∃ sl,h1.get? b=some { ob with slots:=sl }:=by
 by_cases hb:b∈fs
 . exact u.slot b ob q n hb hx
 . exact ⟨ob.slots,u.keep b ob q n hb hx⟩
theorem Un.kept (k:∀ b u,h.get? b=some u->h'.get? b=some u):Un fs ex H H h h' :=
 ⟨fun b ob q _ _ _=>k b ob q,fun b ob q _ _ _=>⟨ob.slots,k b ob q⟩,fun _ _ _ n _=>n,fun b ob q _=>⟨ob,k b ob q⟩,fun _ _ q=>q,fun _ _ _ q=>q,fun _ ps q=>⟨#[],by rw [q]; simp⟩⟩
theorem Un.refl:Un fs ex H H h h:=Un.kept fun _ _ q=>q
theorem Un.laid (k:∀ b u,h.get? b=some u->h'.get? b=some u) (hp:h.objs.size<=a) (hn:H a=none):Un fs ex H (upd H a o) h h' where
 keep:=fun b u q _ _ _=>k b u q
 slot:=fun b u q _ _ _=>⟨u.slots,k b u q⟩
 free:=fun b u q n _=>by rw [B3 (Nat.ne_of_lt (Nat.lt_of_lt_of_le (Heap.lt_size q) hp))]; exact n
 there:=fun b u q _=>⟨u,k b u q⟩
 tups:=fun b xs q=>by rw [B3 (D6 q hn)]; exact q
 frzs:=fun b u xs q=>by rw [B3 (D6 q hn)]; exact q
 tbls:=fun b ps q=>⟨#[],by rw [B3 (D6 q hn),q]; simp⟩
theorem Un.write (mu:Mut (H x)) (he:e=x\/H e=some (.own x)) (k:∀ b u,b≠e->h.get? b=some u->h'.get? b=some u) (heo:∃ u,h'.get? e=some u):Un fs ex H (upd H x o) h h':=by
 have hx:∀ b,H b=none->b≠x:=fun b n z=>by subst z; rw [n] at mu; exact mu
 have hb:∀ b,H b=none->b≠e:=fun b n z=>by
   subst z; rcases he with r | r
   . exact hx b n r
   . rw [n] at r; cases r
 have hm:∀ b u,H b=some u->¬ Mut (some u)->b≠x:=fun b u q nm z=>by subst z; rw [q] at mu; exact nm mu
 refine ⟨fun b u q n _ _=>k b u (hb b n) q,fun b u q n _ _=>⟨u.slots,k b u (hb b n) q⟩,fun b u q n _=>by rw [B3 (hx b n)]; exact n,fun b u q _=>?_,
   fun b xs q=>by rw [B3 (hm b _ q fun z=>z)]; exact q,fun b u xs q=>by rw [B3 (hm b _ q fun z=>z)]; exact q,fun b ps q=>⟨#[],by rw [B3 (hm b _ q fun z=>z),q]; simp⟩⟩
 by_cases hbe:b=e
 . subst hbe; exact heo
 . exact ⟨u,k b u hbe q⟩
end
noncomputable def trk (h:Heap) (H:Hp):List Addr:=(List.range h.objs.size).filter fun a=>(H a).isSome
noncomputable def Rs (h:Heap) (H:Hp):Heap:=PySem.W.hideAll h (trk h H)
theorem bD (h:Heap) (H:Hp):(Rs h H).objs.size=h.objs.size:=PySem.W.hideAll_size _ _
theorem gF {h:Heap} {H:Hp} {b:Addr} {o:Obj} (e:h.get? b=some o) (n:H b=none):(Rs h H).get? b=some o :=
 PySem.W.hideAll_get _ e fun hm=>by
   have q:(H b).isSome=true:=(List.mem_filter.mp hm).2; rw [n] at q; simp at q
theorem jZ {h:Heap} {H:Hp} {b:Addr} {o:Obj} (e:(Rs h H).get? b=some o):h.get? b=some o/\H b=none:=by
 have e':h.get? b=some o:=PySem.W.of_hideAll (trk h H) e
 refine ⟨e',?_⟩
 cases q:H b with
 | none=>rfl
 | some x =>
   have hm:b∈trk h H:=List.mem_filter.mpr ⟨List.mem_range.mpr (Heap.lt_size e'),by simp [q]⟩
   have z:(Rs h H).get? b=none:=PySem.W.hideAll_none (trk h H) hm; rw [z] at e; cases e
noncomputable def lZ (g h:Heap) (L:Addr):List (Addr×Obj):=(List.range h.objs.size).filterMap fun a=>if a=L\/(g.get? a).isSome=true then none else (h.get? a).map fun o=>(a,o)
noncomputable def Q4 (g h:Heap) (L d:Addr):List (Addr×Obj):=(lZ g h L).filter fun p=>decide (p.1≠d)
end L2
namespace L2
open PySem PySem.Spec PyProof.Rows
structure Mod (K:PySem.W.Frag) (mg:Str->Option Value) (base:Heap):Prop where
 kin:K.In base
 glob:base.Ns mainGlobals mg
 blt:∃ mb,base.Ns builtinsNs mb/\∀ x:Str,x ≠ "__name__" -> mb x=bootBuiltins x
 nolimit:base.NoLimit
structure Cx where
 prog:Program
 w:World
 K:PySem.W.Frag
 mg:Str->Option Value
 base:Heap
 A:Around
 N:List Str
 s₀:Shared
 H₀:Hp
 env:Env
 outer:List Env
 stack:List Env
 ex:List Addr
 fn:Str->Bool
 calm:Bool
 pn:List (Addr×Obj)
 xe:Value->Shared->Prop
noncomputable def frs (l:List Env):List Addr:=l.filterMap (·.frame)
noncomputable abbrev Cx.fs (X:Cx):List Addr:=frs X.outer
def Vis (sc:Scope) (x:Str):Prop:=sc.names.lookup x=some .local\/sc.names.lookup x=some .cell\/sc.names.lookup x=some .free
def Loc (sc:Scope) (x:Str):Prop:=sc.names.lookup x=some .local\/sc.names.lookup x=some .cell
def Look (env:Env) (h:Heap) (m:Str->Option Value) (x:Str) (u:Value):Prop :=
 (env.kindOf x=some .local/\m x=some u)\/((env.kindOf x=some .cell\/env.kindOf x=some .free)/\∃ c,env.cells.lookup x=some c/\h.IsCell c (some u))
structure Cx.Ok (X:Cx):Prop where
 mod:Mod X.K X.mg X.base
 kind:X.env.scope.kind=.function
 glob:X.env.globals=mainGlobals
 blt:X.env.builtins=builtinsNs
 above:X.s₀.heap.objs.size<=X.env.locals
 inj:∀ x y c,X.env.cells.lookup x=some c->X.env.cells.lookup y=some c->x=y
 has:∀ x,(X.env.kindOf x=some .cell\/X.env.kindOf x=some .free)->∃ c,X.env.cells.lookup x=some c
 cab:∀ x c,X.fn x=true->X.env.cells.lookup x=some c->X.s₀.heap.objs.size<=c
 hd:X.calm=true->X.A.handled=none
 frames:X.A.frames=some X.stack
 stk:X.stack=X.outer\/(X.stack=X.env::X.outer/\X.env.frame=some X.env.locals)
 exf:∀ b∈X.ex,b≠X.env.locals/\∀ x c,X.env.cells.lookup x=some c->c≠b
 bs:∀ b o,X.base.get? b=some o->X.s₀.heap.get? b=some o/\X.H₀ b=none
 bsz:X.base.objs.size<=X.s₀.heap.objs.size
 noex:∀ b o,X.base.get? b=some o->b∉X.ex
 exfs:∀ b∈X.ex,b∉X.fs
 funs:X.s₀.heap.FunFrames X.base X.outer
 frf:∀ b∈X.fs,X.H₀ b=none
structure Inv (X:Cx) (pins:List (Addr×Obj)) (σ:List (Option V)) (H:Hp) (s:Shared):Prop where
 ok:X.Ok
 os:s.os=X.s₀.os
 bare:AllBare s.gens
 base:Un X.fs X.ex X.H₀ H X.s₀.heap s.heap
 loc:∃ m,s.heap.Ns X.env.locals m/\∀ (i:Nat) (x:Str) (v:V),X.N[i]? = some x->σ[i]? = some (some v)->Vis X.env.scope x->∃ u,RelV v u/\Look X.env s.heap m x u
 cell:∀ x c,X.env.cells.lookup x=some c->∃ v,s.heap.IsCell c v
 free:H X.env.locals=none
 freeC:∀ x c,X.env.cells.lookup x=some c->H c=none
 pin:∀ p∈X.pn++pins,s.heap.get? p.1=some p.2/\H p.1=none/\p.1≠X.env.locals/\p.1∉X.fs/\∀ v,p.2.data≠.cell v
 hok:HOk X.prog X.w H s.heap
 len:σ.length=X.N.length
section
variable {X:Cx} {pins:List (Addr×Obj)} {σ:List (Option V)} {H H':Hp} {s:Shared} {h':Heap}
theorem Cx.Ok.nofr (ok:X.Ok) {b:Addr} {o:Obj} (e:X.base.get? b=some o):b∉X.fs:=fun hb=>by
 have:=(ok.funs.mem hb).1
 rw [e] at this; cases this
theorem Inv.bs (I:Inv X pins σ H s):∀ b o,X.base.get? b=some o->s.heap.get? b=some o/\H b=none:=fun b o e =>
 ⟨I.base.keep b o (I.ok.bs b o e).1 (I.ok.bs b o e).2 (I.ok.nofr e) (I.ok.noex b o e),I.base.free b o (I.ok.bs b o e).1 (I.ok.bs b o e).2 (I.ok.noex b o e)⟩
theorem Inv.bk (I:Inv X pins σ H s):∀ b o,X.base.get? b=some o->s.heap.get? b=some o:=fun b o e=>(I.bs b o e).1
theorem Inv.mod (I:Inv X pins σ H s):Mod X.K X.mg X.base:=I.ok.mod
theorem Inv.kIn (I:Inv X pins σ H s):X.K.In s.heap:=I.ok.mod.kin.keeps I.bk
theorem Inv.fr (I:Inv X pins σ H s):∃ m,Fr X.base X.env.locals s.heap m :=
 let ⟨m,hn,_⟩:=I.loc
 ⟨m,hn,I.bk,Nat.le_trans I.ok.bsz I.ok.above⟩
theorem Inv.lt (I:Inv X pins σ H s):X.env.locals < s.heap.objs.size:=let ⟨_,hn,_⟩:=I.loc; hn.lt
theorem Inv.sz (I:Inv X pins σ H s):X.s₀.heap.objs.size<=s.heap.objs.size:=Nat.le_trans I.ok.above (Nat.le_of_lt I.lt)
theorem Inv.nofs (I:Inv X pins σ H s) {a:Addr} (h:s.heap.objs.size<=a):a∉X.fs:=fun hb=>by
 obtain ⟨_,o,ho,_⟩:=I.ok.funs.mem hb
 exact absurd (Nat.lt_of_lt_of_le (Heap.lt_size ho) (Nat.le_trans I.sz h)) (Nat.lt_irrefl _)
theorem Inv.cne (I:Inv X pins σ H s):∀ x c,X.env.cells.lookup x=some c->c≠X.env.locals:=fun x c e z=>by
 obtain ⟨v,o,ho,hd⟩:=I.cell x c e
 obtain ⟨m,⟨o',es,ep,ho',hd',_⟩,_⟩:=I.loc
 rw [z,ho'] at ho; cases ho; rw [hd'] at hd; cases hd
theorem Inv.funs (I:Inv X pins σ H s):s.heap.FunFrames X.base X.outer:=by
 have all:∀ (l:List Env),(∀ b∈frs l,b∈X.fs)->X.s₀.heap.FunFrames X.base l->s.heap.FunFrames X.base l:=by
   intro l
   induction l with
   | nil=>intro _ _; trivial
   | cons env r ih =>
     intro hs hl; obtain ⟨hk,⟨L,o,hf,hn,ho,hd⟩,hr⟩:=hl; have hL:L∈X.fs:=hs L (by unfold frs; rw [List.filterMap_cons,hf]; exact List.mem_cons_self)
     obtain ⟨sl,e⟩:=I.base.slot L o ho (I.ok.frf L hL) hL fun z=>I.ok.exfs L z hL
     exact ⟨hk,⟨L,_,hf,hn,e,hd⟩,ih (fun b hb=>hs b (by unfold frs; rw [List.filterMap_cons,hf]; exact List.mem_cons_of_mem _ hb)) hr⟩
 exact all X.outer (fun _ hb=>hb) I.ok.funs
theorem Inv.stack (I:Inv X pins σ H s):s.heap.FunFrames X.base X.stack:=by
 rcases I.ok.stk with e | ⟨e,hf⟩
 . rw [e]; exact I.funs
 . rw [e]
   obtain ⟨m,hn,_⟩:=I.loc; refine .cons (by rw [I.ok.kind]; decide) hf hn ?_ I.funs
   exact Heap.get?_none_of_le (Nat.le_trans I.ok.bsz I.ok.above)
theorem Inv.stkSub (I:Inv X pins σ H s):∀ b∈frs X.stack,b∈X.env.locals::X.fs:=fun b hb=>by
 rcases I.ok.stk with e | ⟨e,hf⟩
 . rw [e] at hb; exact List.mem_cons_of_mem _ hb
 . rw [e] at hb
   unfold frs at hb; rw [List.filterMap_cons,hf] at hb; exact hb
theorem Inv.stkFree (I:Inv X pins σ H s):∀ b∈frs X.stack,H b=none:=fun b hb=>by
 rcases List.mem_cons.mp (I.stkSub b hb) with e | hb
 . rw [e]; exact I.free
 . obtain ⟨_,o,ho,_⟩:=I.ok.funs.mem hb
   exact I.base.free b o ho (I.ok.frf b hb) fun z=>I.ok.exfs b z hb
theorem Inv.step {g':Array GenState} {t':Nat} {d':Drawn} {ch:List Addr} (I:Inv X pins σ H s)
   (hch:∀ b∈ch,(b∈X.ex\/X.s₀.heap.objs.size<=b)/\b≠X.env.locals/\(∀ x c,X.env.cells.lookup x=some c->c≠b)/\∀ p∈X.pn++pins,p.1≠b)
   (keep:∀ b o,b≠X.env.locals->b∉X.fs->b∉ch->s.heap.get? b=some o->H b=none->h'.get? b=some o)
   (slot:∀ b o,b≠X.env.locals->b∈X.fs->b∉ch->s.heap.get? b=some o->H b=none->∃ sl,h'.get? b=some { o with slots:=sl }) (free:∀ b o,b∉ch->s.heap.get? b=some o->H b=none->H' b=none)
   (there:∀ b o,b∉ch->s.heap.get? b=some o->∃ o',h'.get? b=some o')
   (tups:∀ b xs,H b=some (.tup xs)->H' b=some (.tup xs)) (frzs:∀ b o u,H b=some (.frz o u)->H' b=some (.frz o u)) (tbls:∀ b ps,H b=some (.tbl ps)->∃ more,H' b=some (.tbl (ps++more)))
   (ns:∀ m,s.heap.Ns X.env.locals m->h'.Ns X.env.locals m) (hok:HOk X.prog X.w H' h') (hg:AllBare g') :
   Inv X pins σ H' { s with heap:=h',gens:=g',drawn:=d',toks:=t' }:=by
 have neL:∀ b o,X.s₀.heap.get? b=some o->b≠X.env.locals:=fun b o e=>Nat.ne_of_lt (Nat.lt_of_lt_of_le (Heap.lt_size e) I.ok.above)
 have neC:∀ b o,X.s₀.heap.get? b=some o->b∉X.ex->b∉ch:=fun b o e hx hb=>by
   rcases (hch b hb).1 with z | z
   . exact hx z
   . exact absurd (Nat.lt_of_lt_of_le (Heap.lt_size e) z) (Nat.lt_irrefl _)
 have cellK:∀ x c,X.env.cells.lookup x=some c->∀ v,s.heap.IsCell c v->h'.IsCell c v:=fun x c e v hZ4=>by
   obtain ⟨o,ho,hd⟩:=hZ4; have nch:c∉ch:=fun z=>(hch c z).2.2.1 x c e rfl
   by_cases hc:c∈X.fs
   . obtain ⟨sl,q⟩:=slot c o (I.cne x c e) hc nch ho (I.freeC x c e)
     exact ⟨_,q,hd⟩
   . exact ⟨o,keep c o (I.cne x c e) hc nch ho (I.freeC x c e),hd⟩
 refine ⟨I.ok,I.os,hg,⟨fun b o e n hb hx=>?_,fun b o e n hb hx=>?_,fun b o e n hx=>?_,fun b o e hx=>?_,fun b xs e=>tups b xs (I.base.tups b xs e),fun b o xs e=>frzs b o xs (I.base.frzs b o xs e),fun b ps e=>?_⟩,?_,fun x c e=>?_,?_,fun x c e=>?_,fun p hp=>?_,hok,I.len⟩
 . exact keep b o (neL b o e) hb (neC b o e hx) (I.base.keep b o e n hb hx) (I.base.free b o e n hx)
 . obtain ⟨sl,e1⟩:=I.base.slot b o e n hb hx
   obtain ⟨sl',e2⟩:=slot b _ (neL b o e) hb (neC b o e hx) e1 (I.base.free b o e n hx); exact ⟨sl',e2⟩
 . obtain ⟨o',e1⟩:=I.base.there b o e hx
   exact free b o' (neC b o e hx) e1 (I.base.free b o e n hx)
 . obtain ⟨o',e1⟩:=I.base.there b o e hx
   exact there b o' (neC b o e hx) e1
 . obtain ⟨m1,e1⟩:=I.base.tbls b ps e
   obtain ⟨m2,e2⟩:=tbls b _ e1; exact ⟨m1++m2,by rw [e2,Array.append_assoc]⟩
 . obtain ⟨m,hn,hl⟩:=I.loc
   refine ⟨m,ns m hn,fun i x v e1 e2 e3=>?_⟩
   obtain ⟨u,r,l⟩:=hl i x v e1 e2 e3; refine ⟨u,r,?_⟩; rcases l with l | ⟨k,c,e,z⟩
   . exact .inl l
   . exact .inr ⟨k,c,e,cellK x c e _ z⟩
 . obtain ⟨v,z⟩:=I.cell x c e
   exact ⟨v,cellK x c e v z⟩
 . obtain ⟨m,⟨o,_,_,ho,_⟩,_⟩:=I.loc
   exact free _ o (fun z=>(hch _ z).2.1 rfl) ho I.free
 . obtain ⟨v,o,ho,hd⟩:=I.cell x c e
   exact free c o (fun z=>(hch c z).2.2.1 x c e rfl) ho (I.freeC x c e)
 . obtain ⟨e,n,ne,nf,d⟩:=I.pin p hp
   have nch:p.1∉ch:=fun z=>(hch p.1 z).2.2.2 p hp rfl
   exact ⟨keep p.1 p.2 ne nf nch e n,free p.1 p.2 nch e n,ne,nf,d⟩
theorem Inv.un {t':Nat} (I:Inv X pins σ H s) (u:Un X.fs [] H H' s.heap h') (hok:HOk X.prog X.w H' h'):Inv X pins σ H' { s with heap:=h',toks:=t' }:=by
 obtain ⟨m,⟨o,es,ep,ho,r⟩,_⟩:=id I.loc
 obtain ⟨sl,hL⟩:=u.any ho I.free (by simp)
 exact I.step (g':=s.gens) (d':=s.drawn) (ch:=[]) (fun _ z=>nomatch z) (fun b o _ hb _ e n=>u.keep b o e n hb (by simp)) (fun b o _ hb _ e n=>u.slot b o e n hb (by simp)) (fun b o _ e n=>u.free b o e n (by simp)) (fun b o _ e=>u.there b o e (by simp)) u.tups u.frzs u.tbls (fun m' hm=>by
   obtain ⟨o',es',ep',ho',r'⟩:=hm; rw [ho] at ho'; cases ho'; exact ⟨_,es',ep',hL,r'⟩) hok I.bare
theorem Inv.call {g':Array GenState} {t':Nat} {d':Drawn} {ch:List Addr} (I:Inv X pins σ H s) (u:Un (frs X.stack) ch H H' s.heap h') (hok:HOk X.prog X.w H' h') (hg:AllBare g')
   (hch:∀ b∈ch,(b∈X.ex\/X.s₀.heap.objs.size<=b)/\b≠X.env.locals/\(∀ x c,X.env.cells.lookup x=some c->c≠b)/\∀ p∈X.pn++pins,p.1≠b) :
   Inv X pins σ H' { s with heap:=h',gens:=g',drawn:=d',toks:=t' }:=by
 obtain ⟨m,⟨o,es,ep,ho,r⟩,_⟩:=id I.loc
 obtain ⟨sl,hL⟩:=u.any ho I.free fun z=>(hch _ z).2.1 rfl
 exact I.step (ch:=ch) hch (fun b o hL hb hc e n=>u.keep b o e n (fun z=>(List.mem_cons.mp (I.stkSub b z)).elim hL hb) hc) (fun b o _ _ hc e n=>u.any e n hc) (fun b o hc e n=>u.free b o e n hc) (fun b o hc e=>u.there b o e hc) u.tups u.frzs u.tbls (fun m' hm=>by
   obtain ⟨o',es',ep',ho',r'⟩:=hm; rw [ho] at ho'; cases ho'; exact ⟨_,es',ep',hL,r'⟩) hok hg
theorem Inv.turned {t':Nat} {it:Addr} (I:Inv X pins σ H s) (k:∀ b o,b≠it->s.heap.get? b=some o->h'.get? b=some o) (hn:H it=none) (hL:it≠X.env.locals)
   (h1:it∈X.ex\/X.s₀.heap.objs.size<=it) (h2:∀ x c,X.env.cells.lookup x=some c->c≠it) (h3:∀ p∈X.pn++pins,p.1≠it):Inv X pins σ H { s with heap:=h',toks:=t' }:=by
 have nit:∀ b u,H b=some u->b≠it:=fun b u e z=>by rw [z,hn] at e; cases e
 refine I.step (g':=s.gens) (d':=s.drawn) (ch:=[it]) (fun b hb=>?_) (fun b o _ _ hc e _=>k b o (fun z=>hc (by simp [z])) e) (fun b o _ _ hc e _=>⟨o.slots,k b o (fun z=>hc (by simp [z])) e⟩) (fun _ _ _ _ n=>n)
   (fun b o hc e=>⟨o,k b o (fun z=>hc (by simp [z])) e⟩) (fun _ _ e=>e) (fun _ _ _ e=>e) (fun b ps e=>⟨#[],by rw [e]; simp⟩) (fun m hm=>?_) (fun b u e=>?_) I.bare
 . have e:b=it:=by simpa using hb
   subst e; exact ⟨h1,hL,h2,h3⟩
 . obtain ⟨o,es,ep,ho,r⟩:=hm
   exact ⟨o,es,ep,k _ o (Ne.symm hL) ho,r⟩
 . refine (I.hok b u e).stay (fun c v hc q=>k c v ?_ q) (fun _ q=>q) fun _ _ q=>q
   rcases hc with z | z
   . rw [z]; exact nit b u e
   . exact nit c _ z
theorem Inv.tok (I:Inv X pins σ H s) (t:Nat):Inv X pins σ H { s with toks:=t }:=I.un (h':=s.heap) (t':=t) Un.refl I.hok
theorem Inv.kept {t':Nat} (I:Inv X pins σ H s) (k:∀ b u,s.heap.get? b=some u->h'.get? b=some u):Inv X pins σ H { s with heap:=h',toks:=t' }:=I.un (Un.kept k) (I.hok.kept k)
theorem Inv.laid {a:Addr} {o:HO} {t':Nat} (I:Inv X pins σ H s) (k:∀ b u,s.heap.get? b=some u->h'.get? b=some u) (hp:s.heap.objs.size<=a) (new:ObjOk X.prog X.w (upd H a o) h' a o) :
   Inv X pins σ (upd H a o) { s with heap:=h',toks:=t' }:=I.un (Un.laid k hp (I.hok.fresh hp)) (I.hok.laid k hp new)
theorem Inv.write {x e:Addr} {o:HO} {t':Nat} (I:Inv X pins σ H s) (mu:Mut (H x)) (he:e=x\/H e=some (.own x)) (k:∀ b u,b≠e->s.heap.get? b=some u->h'.get? b=some u) (heo:∃ u,h'.get? e=some u)
   (new:ObjOk X.prog X.w (upd H x o) h' x o):Inv X pins σ (upd H x o) { s with heap:=h',toks:=t' }:=I.un (Un.write mu he k heo) (I.hok.write mu he k heo new)
theorem Inv.weak {σ':List (Option V)} (I:Inv X pins σ H s) (hl:σ'.length=σ.length) (w:∀ (i:Nat) v,σ'[i]? = some (some v)->σ[i]? = some (some v)):Inv X pins σ' H s :=
 ⟨I.ok,I.os,I.bare,I.base,let ⟨m,hn,hl'⟩:=I.loc; ⟨m,hn,fun i x v e1 e2 e3=>hl' i x v e1 (w i v e2) e3⟩,I.cell,I.free,I.freeC,I.pin,I.hok,hl.trans I.len⟩
theorem Inv.pins_of {pins':List (Addr×Obj)} (I:Inv X pins σ H s) (h:∀ p∈pins',s.heap.get? p.1=some p.2/\H p.1=none/\p.1≠X.env.locals/\p.1∉X.fs/\∀ v,p.2.data≠.cell v):Inv X pins' σ H s :=
 ⟨I.ok,I.os,I.bare,I.base,I.loc,I.cell,I.free,I.freeC,fun p hp=>(List.mem_append.mp hp).elim (fun z=>I.pin p (List.mem_append_left _ z)) (h p),I.hok,I.len⟩
theorem Tw {N:List Str} (hN:N.Nodup) {i j:Nat} {x:Str} (a:N[i]? = some x) (b:N[j]? = some x):i=j:=by
 obtain ⟨h1,e1⟩:=List.getElem?_eq_some_iff.mp a
 obtain ⟨h2,e2⟩:=List.getElem?_eq_some_iff.mp b
 exact (List.getElem_inj hN).mp (e1.trans e2.symm)
theorem Ox {M:Model} {A:Around} {E:Value->Shared->Prop} {i:Nat} {x:Str} {v:V} {u:Value} {Q:Unit->Shared->Prop} (I:Inv X pins σ H s) (hN:X.N.Nodup) (hi:X.N[i]? = some x) (hx:Loc X.env.scope x) (r:RelV v u)
   (h:∀ s',Inv X pins (σ.set i (some v)) H s'->(∃ a,Heap.SameBut a s.heap s'.heap/\(a=X.env.locals\/X.env.cells.lookup x=some a))->Q () s') (hf:X.fn x=true\/X.env.scope.names.lookup x=some .local:=by first | exact .inl rfl | exact .inr rfl | assumption):wpAny M A (storeName X.env x u) Q E s:=by
 obtain ⟨m,hn,hl⟩:=id I.loc
 have hcls:(X.env.scope.kind==.class||(X.env.scope.kind==.module&&X.env.locals != X.env.globals))=false:=by rw [I.ok.kind]; rfl
 have hiσ:i < σ.length:=by rw [I.len]; exact (List.getElem?_eq_some_iff.mp hi).1
 have cne:=I.cne
 have tracked:∀ {a:Addr} {h':Heap},(∃ o,s.heap.get? a=some o/\H a=none)->Heap.SameBut a s.heap h'->HOk X.prog X.w H h':=fun {a h'} ha hs b ob e=>by
   obtain ⟨_,_,hfree⟩:=ha; refine (I.hok b ob e).stay (fun c w' hc q=>(hs.2 c ?_).trans q) (fun _ q=>q) fun _ _ q=>q
   rintro rfl
   rcases hc with rfl | hc
   . rw [hfree] at e; cases e
   . rw [hfree] at hc; cases hc
 rcases hx with hk | hk
 . refine wpAny_storeName_local hk hn (fun h' hn' hs=>?_) hcls
   obtain ⟨oL,_,_,hoL,_⟩:=id hn; refine h _ ⟨I.ok,I.os,I.bare,⟨fun b o e n hb hx=>?_,fun b o e n hb hx=>?_,I.base.free,fun b o e hx=>?_,I.base.tups,I.base.frzs,I.base.tbls⟩,⟨_,hn',fun j y v' e1 e2 e3=>?_⟩,fun y c e=>?_,I.free,I.freeC,fun p hp=>?_,tracked ⟨oL,hoL,I.free⟩ hs,by simpa using I.len⟩ ⟨_,hs,.inl rfl⟩
   . exact (hs.2 b (Nat.ne_of_lt (Nat.lt_of_lt_of_le (Heap.lt_size e) I.ok.above))).trans (I.base.keep b o e n hb hx)
   . obtain ⟨sl,e1⟩:=I.base.slot b o e n hb hx
     exact ⟨sl,(hs.2 b (Nat.ne_of_lt (Nat.lt_of_lt_of_le (Heap.lt_size e) I.ok.above))).trans e1⟩
   . obtain ⟨o',e1⟩:=I.base.there b o e hx
     exact ⟨o',(hs.2 b (Nat.ne_of_lt (Nat.lt_of_lt_of_le (Heap.lt_size e) I.ok.above))).trans e1⟩
   . by_cases hj:j=i
     . subst hj
       rw [hi] at e1; cases e1
       rw [List.getElem?_set_self hiσ] at e2; cases e2; exact ⟨u,r,.inl ⟨hk,by simp⟩⟩
     . rw [List.getElem?_set_ne (Ne.symm hj)] at e2
       obtain ⟨u',r',q⟩:=hl j y v' e1 e2 e3; refine ⟨u',r',?_⟩; rcases q with ⟨k,e⟩ | ⟨k,c,e,z⟩
       . refine .inl ⟨k,?_⟩
         have:y≠x:=fun e=>hj (Tw hN e1 (e▸hi))
         simp [this,e]
       . exact .inr ⟨k,c,e,z.sameBut hs (cne y c e)⟩
   . obtain ⟨w',z⟩:=I.cell y c e
     exact ⟨w',z.sameBut hs (cne y c e)⟩
   . obtain ⟨e,n,ne,nf,d⟩:=I.pin p hp
     exact ⟨(hs.2 p.1 ne).trans e,n,ne,nf,d⟩
 . have hfn : X.fn x = true := by
     rcases hf with z | z
     . exact z
     . rw [z] at hk; cases hk
   obtain ⟨c,hc⟩:=I.ok.has x (.inl hk); obtain ⟨w',z⟩:=I.cell x c hc; refine wpAny_storeName_cell I.ok.kind hk hc z (fun h' hc' hs=>?_)
   obtain ⟨oc,hoc,hocd⟩:=id z; refine h { s with heap:=h' } ⟨I.ok,I.os,I.bare,⟨fun b o e n hb hx=>?_,fun b o e n hb hx=>?_,I.base.free,fun b o e hx=>?_,I.base.tups,I.base.frzs,I.base.tbls⟩,⟨m,hn.sameBut hs (Ne.symm (cne x c hc)),fun j y v' e1 e2 e3=>?_⟩,fun y c' e=>?_,I.free,I.freeC,fun p hp=>?_,tracked ⟨oc,hoc,I.freeC x c hc⟩ hs,by simpa using I.len⟩ ⟨c,hs,.inr hc⟩
   . exact (hs.2 b (Nat.ne_of_lt (Nat.lt_of_lt_of_le (Heap.lt_size e) (I.ok.cab x c hfn hc)))).trans (I.base.keep b o e n hb hx)
   . obtain ⟨sl,e1⟩:=I.base.slot b o e n hb hx
     exact ⟨sl,(hs.2 b (Nat.ne_of_lt (Nat.lt_of_lt_of_le (Heap.lt_size e) (I.ok.cab x c hfn hc)))).trans e1⟩
   . obtain ⟨o',e1⟩:=I.base.there b o e hx
     exact ⟨o',(hs.2 b (Nat.ne_of_lt (Nat.lt_of_lt_of_le (Heap.lt_size e) (I.ok.cab x c hfn hc)))).trans e1⟩
   . by_cases hj:j=i
     . subst hj
       rw [hi] at e1; cases e1
       rw [List.getElem?_set_self hiσ] at e2; cases e2; exact ⟨u,r,.inr ⟨.inl hk,c,hc,hc'⟩⟩
     . rw [List.getElem?_set_ne (Ne.symm hj)] at e2
       obtain ⟨u',r',q⟩:=hl j y v' e1 e2 e3; refine ⟨u',r',?_⟩; rcases q with q | ⟨k,c',e,z'⟩
       . exact .inl q
       . refine .inr ⟨k,c',e,z'.sameBut hs ?_⟩
         rintro rfl
         exact hj (Tw hN e1 (I.ok.inj _ _ _ e hc▸hi))
   . by_cases hcc:c'=c
     . subst hcc; exact ⟨_,hc'⟩
     . obtain ⟨w2,z2⟩:=I.cell y c' e
       exact ⟨w2,z2.sameBut hs hcc⟩
   . obtain ⟨e,n,ne,nf,d⟩:=I.pin p hp
     refine ⟨(hs.2 p.1 ?_).trans e,n,ne,nf,d⟩; intro q; rw [q,hoc] at e; have q':oc=p.2:=Option.some.inj e; exact d w' (by rw [<- q']; exact hocd)
theorem Ku {M:Model} {A:Around} {E:Value->Shared->Prop} {i:Nat} {x:Str} {v:V} {u:Value} {Q:Unit->Shared->Prop} (I:Inv X pins σ H s) (hN:X.N.Nodup) (hi:X.N[i]? = some x) (hx:Loc X.env.scope x) (r:RelV v u)
   (h:∀ s',Inv X pins (σ.set i (some v)) H s'->Q () s') (hf:X.fn x=true\/X.env.scope.names.lookup x=some .local:=by first | exact .inl rfl | exact .inr rfl | assumption):wpAny M A (storeName X.env x u) Q E s :=
 Ox I hN hi hx r (fun s' I' _=>h s' I') hf
theorem Inv.call' {s':Shared} {ch:List Addr} (I:Inv X pins σ H s) (ho:s'.os=s.os) (u:Un (frs X.stack) ch H H' s.heap s'.heap) (hok:HOk X.prog X.w H' s'.heap) (hg:AllBare s'.gens)
   (hch:∀ b∈ch,(b∈X.ex\/X.s₀.heap.objs.size<=b)/\b≠X.env.locals/\(∀ x c,X.env.cells.lookup x=some c->c≠b)/\∀ p∈X.pn++pins,p.1≠b):Inv X pins σ H' s':=by
 obtain ⟨h',g',d',t',o'⟩:=s'
 have e:o'=s.os:=ho
 subst e
 exact I.call (g':=g') (t':=t') (d':=d') u hok hg hch
end
abbrev XK:=Value->Option Addr->Hp->Prop
abbrev St:=List (Option V)
abbrev VK:=V->Hp->Prop
abbrev TE:=St->Hp->VK->Prop
abbrev TT:=St->Hp->(Bool->Hp->Prop)->Prop
abbrev TA:=St->Hp->(List V->Hp->Prop)->Prop
structure Ends where
 nx:St->Hp->Prop
 rt:VK
 bk:St->Hp->Prop:=fun _ _=>False
 ct:St->Hp->Prop:=fun _ _=>False
abbrev TS:=Ends->St->Hp->Prop
def EP (X:Cx) (pins:List (Addr×Obj)) (σ:St) (Q:VK) (u:Value) (s':Shared):Prop:=∃ v H',Inv X pins σ H' s'/\RelV v u/\Q v H'
def TP (X:Cx) (pins:List (Addr×Obj)) (σ:St) (Q:Bool->Hp->Prop) (b:Bool) (s':Shared):Prop:=∃ H',Inv X pins σ H' s'/\Q b H'
def AP (X:Cx) (pins:List (Addr×Obj)) (σ:St) (Q:List V->Hp->Prop) (us:List Value) (s':Shared):Prop:=∃ vs H',Inv X pins σ H' s'/\Vals vs us/\Q vs H'
def SP (X:Cx) (pins:List (Addr×Obj)) (D:Ends) (f:Flow) (s':Shared):Prop :=
 match f with
 | .next=>∃ σ' H',Inv X pins σ' H' s'/\D.nx σ' H'
 | .brk=>∃ σ' H',Inv X pins σ' H' s'/\D.bk σ' H'
 | .cont=>∃ σ' H',Inv X pins σ' H' s'/\D.ct σ' H'
 | .ret u=>∃ v σ' H',Inv X pins σ' H' s'/\RelV v u/\D.rt v H'
def PE (X:Cx) (e:Expr) (t:TE):Prop :=
 ∀ (pins:List (Addr×Obj)) (s:Shared) (σ:St) (H:Hp) (Q:VK),Inv X pins σ H s->t σ H Q->wpAny (model X.prog X.w) X.A (eval e X.env) (EP X pins σ Q) X.xe s
def PT (X:Cx) (e:Expr) (t:TT):Prop :=
 ∀ (pins:List (Addr×Obj)) (s:Shared) (σ:St) (H:Hp) (Q:Bool->Hp->Prop),Inv X pins σ H s->t σ H Q->wpAny (model X.prog X.w) X.A (isTrue e X.env (eval e X.env)) (TP X pins σ Q) X.xe s
def PW (X:Cx) (e:Expr) (t:TT):Prop :=
 ∀ (whole:Sem Value) (pins:List (Addr×Obj)) (s:Shared) (σ:St) (H:Hp) (Q:Bool->Hp->Prop),Inv X pins σ H s->t σ H Q->wpAny (model X.prog X.w) X.A (isTrue e X.env whole) (TP X pins σ Q) X.xe s
theorem PW.pt {X:Cx} {e:Expr} {t:TT} (h:PW X e t):PT X e t:=h _
def PA (X:Cx) (es:List Expr) (t:TA):Prop :=
 ∀ (pos:Pos) (pins:List (Addr×Obj)) (s:Shared) (σ:St) (H:Hp) (Q:List V->Hp->Prop),Inv X pins σ H s->t σ H Q->wpAny (model X.prog X.w) X.A (spliced (backTo pos (starEach es X.env))) (AP X pins σ Q) X.xe s
def PS (X:Cx) (st:Stmt) (t:TS):Prop :=
 ∀ (pins:List (Addr×Obj)) (s:Shared) (σ:St) (H:Hp) (D:Ends),Inv X pins σ H s->t D σ H->wpAny (model X.prog X.w) X.A (exec st X.env) (SP X pins D) X.xe s
def PSs (X:Cx) (st:List Stmt) (t:TS):Prop :=
 ∀ (pins:List (Addr×Obj)) (s:Shared) (σ:St) (H:Hp) (D:Ends),Inv X pins σ H s->t D σ H->wpAny (model X.prog X.w) X.A (execs st X.env) (SP X pins D) X.xe s
theorem thn {α:Type} {t:Sem α} {Q Q':α->Shared->Prop} {M:Model} {A:Around} {E:Value->Shared->Prop} {s:Shared} (h:wpAny M A t Q E s) (hQ:∀ a s,Q a s->Q' a s):wpAny M A t Q' E s:=wpAny_mono h hQ fun _ _ x=>x
end L2
namespace L2
open PySem PySem.Spec PyProof.Rows
section
variable {X:Cx}
def Nl (i:Nat):TE:=fun σ H Q=>∃ v,σ[i]? = some (some v)/\Q v H
def tC (v:V):TE:=fun _ H Q=>Q v H
theorem Fd {i:Nat} {x:Str} {pos:Pos} (hN:X.N[i]? = some x) (hv:Vis X.env.scope x) (hd:(x==("__debug__" : Str))=false:=by decide) (hcd:(x==("__classdict__" : Str))=false:=by decide):PE X (.Name x pos) (Nl i):=by
 intro pins s σ H Q I h
 obtain ⟨v,e,h⟩:=h
 obtain ⟨m,hn,hl⟩:=I.loc
 obtain ⟨u,r,l⟩:=hl i x v hN e hv
 have fin:EP X pins σ Q u s:=⟨v,H,I,r,h⟩
 rcases l with ⟨hk,hm⟩ | ⟨hk,c,hc,hcell⟩
 . exact wpAny_Name (wpAny_loadName_local I.ok.kind hk hn hm fin) hd
 . rcases hk with hk | hk
   . exact wpAny_Name (wpAny_loadName_cell I.ok.kind hk hc hcell fin) hd
   . exact wpAny_Name (wpAny_loadName_free I.ok.kind hk hc hcell fin hcd) hd
theorem Rk {i j pos}:PE X (.Constant (.int i) j pos) (tC (.int i)):=fun _ _ _ H _ I h=>wpAny_Constant_int ⟨.int i,H,I.tok _,⟨_,rfl⟩,h⟩
theorem eV {b j pos}:PE X (.Constant (.bool b) j pos) (tC (.bl b)):=fun _ _ _ H _ I h=>Constant_bool ⟨.bl b,H,I,rfl,h⟩
theorem oF {j pos}:PE X (.Constant .none j pos) (tC .non):=fun _ _ _ H _ I h=>Constant_none ⟨.non,H,I,rfl,h⟩
theorem Ri {x j pos}:PE X (.Constant (.str x) j pos) (tC (.str x)):=fun _ _ _ H _ I h=>Calls.Constant_str ⟨.str x,H,I.tok _,⟨_,rfl⟩,h⟩
def Gl (X:Cx) (x:Str):Prop:=X.env.kindOf x=some .globalImplicit
theorem Go {E:Value->Shared->Prop} {pins:List (Addr×Obj)} {s:Shared} {σ:St} {H:Hp} {x:Str} {u:Value} {pos:Pos} {Q:Value->Shared->Prop} (I:Inv X pins σ H s) (hg:Gl X x) (hm:X.mg x=some u) (h:Q u s)
   (hd:(x==("__debug__" : Str))=false:=by decide):wpAny (model X.prog X.w) X.A (eval (.Name x pos) X.env) Q E s :=
 Calls.Name_function_global I.ok.kind hg (Calls.loadGlobal_global (by rw [I.ok.glob]; exact I.mod.glob.keeps I.bk) hm h) hd
theorem Cb {E:Value->Shared->Prop} {pins:List (Addr×Obj)} {s:Shared} {σ:St} {H:Hp} {x:Str} {u:Value} {pos:Pos} {Q:Value->Shared->Prop} (I:Inv X pins σ H s) (hg:Gl X x) (hm:X.mg x=none) (hv:bootBuiltins x=some u) (h:Q u s)
   (hn:x ≠ "__name__" := by decide) (hd:(x==("__debug__" : Str))=false:=by decide):wpAny (model X.prog X.w) X.A (eval (.Name x pos) X.env) Q E s:=by
 obtain ⟨mb,h1,h2⟩:=I.mod.blt
 exact Calls.Name_function_global I.ok.kind hg (Calls.loadGlobal_builtin (by rw [I.ok.glob]; exact I.mod.glob.keeps I.bk) hm (by rw [I.ok.blt]; exact h1.keeps I.bk) ((h2 x hn).trans hv) h) hd
theorem Rl {x:Str} {v:V} {u:Value} {pos:Pos} (hg:Gl X x) (hm:X.mg x=some u) (r:RelV v u) (hd:(x==("__debug__" : Str))=false:=by decide):PE X (.Name x pos) (tC v) :=
 fun _ _ _ H _ I h=>Go I hg hm ⟨v,H,I,r,h⟩ hd
theorem Xy {x:Str} {v:V} {u:Value} {pos:Pos} (hg:Gl X x) (hm:X.mg x=none) (hv:bootBuiltins x=some u) (r:RelV v u) (hn:x ≠ "__name__" := by decide) (hd:(x==("__debug__" : Str))=false:=by decide):PE X (.Name x pos) (tC v) :=
 fun _ _ _ H _ I h=>Cb I hg hm hv ⟨v,H,I,r,h⟩ hn hd
variable {a b:Expr} {ta tb:TE} {pos:Pos}
def PC (X:Cx) (op:CmpOp) (a b:Expr) (t:TE):Prop :=
 ∀ (pins:List (Addr×Obj)) (s:Shared) (σ:St) (H:Hp) (Q:VK),Inv X pins σ H s->t σ H Q ->
   wpAny (model X.prog X.w) X.A (eval a X.env) (fun v s₁=>wpAny (model X.prog X.w) X.A (eval b X.env) (fun u s₂=>wpAny (model X.prog X.w) X.A (compareOp op v u) (EP X pins σ Q) X.xe s₂) X.xe s₁) X.xe s
theorem Tx (b:Expr) {op:CmpOp} (h:op≠.In) (h2:op≠.NotIn):behindInMarks op b=false:=by
 have e1:(op==CmpOp.In)=false:=by cases op <;> first | rfl | exact absurd rfl h
 have e2:(op==CmpOp.NotIn)=false:=by cases op <;> first | rfl | exact absurd rfl h2
 cases b <;> simp [behindInMarks,e1,e2]
def tIsN (ta:TE):TE:=fun σ H Q=>ta σ H fun x H1=>Q (.bl (decide (x=.non))) H1
theorem RelV.none_iff {x:V} {v:Value} (r:RelV x v):(v==Value.none)=decide (x=.non):=by
 cases x with
 | non=>cases r; rfl
 | bl _=>cases r; rfl
 | int _=>obtain ⟨t,rfl⟩:=r; rfl
 | str _=>obtain ⟨t,rfl⟩:=r; rfl
 | byt _=>obtain ⟨t,rfl⟩:=r; rfl
 | flt _=>obtain ⟨t,rfl⟩:=r; rfl
 | ref _=>cases r; rfl
 | ty _=>cases r; rfl
theorem oJ {j pos'} (ha:PE X a ta):PC X .Is a (.Constant .none j pos') (tIsN ta):=by
 intro pins s σ H Q I h
 refine thn (ha pins s σ H _ I h) fun v s1 hZ2=>?_
 obtain ⟨x,H1,I1,r1,q1⟩:=hZ2
 exact Constant_none (is_none_gen ⟨.bl _,H1,I1,by rw [r1.none_iff]; rfl,q1⟩)
def tB (t:TE):TT:=fun σ H Q=>t σ H fun x H1=>∃ c,x=.bl c/\Q c H1
theorem eT {op:CmpOp} {t:TE} (h:PC X op a b t) (h1:behindInMarks op b=false:=by first | exact Tx _ (by decide) (by decide) | rfl):PE X (.Compare a [op] [b] pos) t:=fun pins s σ H Q I hw=>wpAny_Compare1 (h pins s σ H Q I hw) h1
theorem eE {op:CmpOp} {t:TE} (h:PC X op a b t) (h1:behindInMarks op b=false:=by first | exact Tx _ (by decide) (by decide) | rfl):PT X (.Compare a [op] [b] pos) (tB t):=by
 intro pins s σ H Q I hw
 refine wpAny_isTrue_Compare1 (thn (h pins s σ H _ I hw) fun v s1 h1=>thn h1 fun u s2 h2=>thn h2 fun c s3 hY1=>?_) h1
 obtain ⟨x,H1,I1,r1,q1⟩:=hY1
 obtain ⟨d,rfl,q⟩:=q1
 cases r1
 exact wpAny_truthy_bool ⟨H1,I1,q⟩
theorem oB {e:Expr} {t:TE} (h:PE X e t) (he:∀ whole,isTrue e X.env whole=(do let v <- whole; standAt e.pos; holding [v] (truthy v)):=by intro _; rfl):PT X e (tB t):=by
 intro pins s σ H Q I hw
 refine isTrue_plain (thn (h pins s σ H _ I hw) fun v s1 hY2=>?_) (he _)
 obtain ⟨x,H1,I1,r1,q1⟩:=hY2
 obtain ⟨d,rfl,q⟩:=q1
 cases r1
 exact wpAny_truthy_bool ⟨H1,I1,q⟩
variable {tA tB':TT} {Q4:List Expr}
def tAnd (t u:TT):TT:=fun σ H Q=>t σ H fun c H1=>if c=true then u σ H1 Q else Q false H1
def tOr (t u:TT):TT:=fun σ H Q=>t σ H fun c H1=>if c=true then Q true H1 else u σ H1 Q
def tNot (t:TT):TT:=fun σ H Q=>t σ H fun c H1=>Q (!c) H1
theorem jI (ha:PT X a tA):PW X (.BoolOp .And [a] pos) tA:=by
 intro wh pins s σ H Q I h
 refine isTrue_and (thn (ha pins s σ H Q I h) fun c s1 e=>?_)
 cases c with
 | true=>exact isTrue_and_nil e
 | false=>exact e
theorem eA (ha:PT X a tA):PW X (.BoolOp .Or [a] pos) tA:=by
 intro wh pins s σ H Q I h
 refine isTrue_or (thn (ha pins s σ H Q I h) fun c s1 e=>?_)
 cases c with
 | false=>exact isTrue_or_nil e
 | true=>exact e
theorem oA (ha:PT X a tA) (hb:PW X (.BoolOp .And (b::Q4) pos) tB'):PW X (.BoolOp .And (a::b::Q4) pos) (tAnd tA tB'):=by
 intro wh pins s σ H Q I h
 refine isTrue_and (thn (ha pins s σ H _ I h) fun c s1 hZ2=>?_)
 obtain ⟨H1,I1,q1⟩:=hZ2
 cases c with
 | true=>exact hb wh pins s1 σ H1 Q I1 q1
 | false=>exact ⟨H1,I1,q1⟩
theorem mI (ha:PT X a tA) (hb:PW X (.BoolOp .Or (b::Q4) pos) tB'):PW X (.BoolOp .Or (a::b::Q4) pos) (tOr tA tB'):=by
 intro wh pins s σ H Q I h
 refine isTrue_or (thn (ha pins s σ H _ I h) fun c s1 hZ2=>?_)
 obtain ⟨H1,I1,q1⟩:=hZ2
 cases c with
 | true=>exact ⟨H1,I1,q1⟩
 | false=>exact hb wh pins s1 σ H1 Q I1 q1
theorem eD (ha:PT X a tA):PT X (.UnaryOp .Not a pos) (tNot tA):=by
 intro pins s σ H Q I h
 exact isTrue_not (ha pins s σ H (fun c H1=>Q (!c) H1) I h)
def tAndV (ta tb:TE):TE:=fun σ H Q=>ta σ H fun x H1=>∃ c,x=.bl c/\if c=true then tb σ H1 Q else Q (.bl false) H1
theorem oE {op} {t:TE} (h:PE X a t):PE X (.BoolOp op [a] pos) t:=fun pins s σ H Q I hw=>BoolOp_one (h pins s σ H Q I hw)
theorem oI (ha:PE X a ta) (hb:PE X (.BoolOp .And (b::Q4) pos) tb):PE X (.BoolOp .And (a::b::Q4) pos) (tAndV ta tb):=by
 intro pins s σ H Q I h
 refine BoolOp_and (thn (ha pins s σ H _ I h) fun v s1 hZ2=>?_)
 obtain ⟨x,H1,I1,r1,q1⟩:=hZ2
 obtain ⟨c,rfl,q1⟩:=q1
 cases r1
 refine wpAny_truthy_bool ?_
 cases c with
 | true=>exact hb pins s1 σ H1 Q I1 q1
 | false=>exact ⟨.bl false,H1,I1,rfl,q1⟩
def tIf (t:TT) (ta tb:TE):TE:=fun σ H Q=>t σ H fun c H1=>if c=true then ta σ H1 Q else tb σ H1 Q
theorem eQ {c:Expr} (hc:PT X c tA) (ha:PE X a ta) (hb:PE X b tb):PE X (.IfExp c a b pos) (tIf tA ta tb):=by
 intro pins s σ H Q I h
 refine wpAny_IfExp (thn (hc pins s σ H _ I h) fun d s1 hZ2=>?_)
 obtain ⟨H1,I1,q1⟩:=hZ2
 cases d with
 | true=>exact ha pins s1 σ H1 Q I1 q1
 | false=>exact hb pins s1 σ H1 Q I1 q1
end
end L2
namespace L2
open PySem PySem.Spec PyProof.Rows
def SqL (K:PySem.W.Frag) (H:Hp) (a:Addr) (xs:List V):Prop :=
 Rd H a (.lst xs) \/
   ∃ (o:Obj) (its:Array Value) (n:Nat),K.lookup a=some o/\o.cls=.type "list" /\ o.dict=none/\o.data=.seq its n/\its.size<=sizeLine/\Vals xs its.toList
def SqT (K:PySem.W.Frag) (H:Hp) (a:Addr) (xs:List V):Prop :=
 Rd H a (.tup xs) \/
   ∃ (o:Obj) (its:Array Value) (n:Nat),K.lookup a=some o/\o.cls=.type "tuple" /\ o.data=.seq its n/\its.size<=sizeLine/\Vals xs its.toList
noncomputable def absV:Value->Option V
 | .none=>some .non
 | .bool b=>some (.bl b)
 | .int i _=>some (.int i)
 | .str x _=>some (.str x)
 | .bytes b _=>some (.byt b)
 | .float b _=>some (.flt b)
 | .ref a=>some (.ref a)
 | .type n=>some (.ty n)
 | _=>none
theorem RelV.abs {x:V} {u:Value} (r:RelV x u):absV u=some x:=by
 cases x with
 | non=>cases r; rfl
 | bl _=>cases r; rfl
 | int _=>obtain ⟨t,rfl⟩:=r; rfl
 | str _=>obtain ⟨t,rfl⟩:=r; rfl
 | byt _=>obtain ⟨t,rfl⟩:=r; rfl
 | flt _=>obtain ⟨t,rfl⟩:=r; rfl
 | ref _=>cases r; rfl
 | ty _=>cases r; rfl
theorem RelV.inj {x y:V} {u:Value} (r:RelV x u) (q:RelV y u):x=y:=Option.some.inj (r.abs.symm.trans q.abs)
theorem Vals.inj {xs:List V}:∀ {ys:List V} {us:List Value},Vals xs us->Vals ys us->xs=ys:=by
 induction xs with
 | nil=>intro ys us h q; cases h; cases q; rfl
 | cons x xs ih=>intro ys us h q; cases h with | cons r t=>cases q with | cons r' t'=>rw [r.inj r',ih t t']
section
variable {X:Cx} {pins:List (Addr×Obj)} {σ:St} {H:Hp} {s:Shared} {a:Addr} {xs ys:List V}
theorem Inv.list (I:Inv X pins σ H s) (h:SqL X.K H a xs):∃ its:List Value,Vals xs its/\PlainL s.heap a its.toArray/\xs.length<=sizeLine:=by
 rcases h with h | ⟨o,its,n,hk,hc,hd,hs,hz,r⟩
 . obtain ⟨z,its,n,r,e⟩:=h.ok I.hok
   exact ⟨its,r,⟨_,n,e,rfl,rfl,rfl⟩,z⟩
 . refine ⟨its.toList,r,⟨o,n,I.kIn a o hk,hc,hd,by simpa using hs⟩,?_⟩
   have e:=r.length; simp only [Array.length_toList] at e
   lia
theorem Inv.tuple (I:Inv X pins σ H s) (h:SqT X.K H a xs):∃ its:List Value,Vals xs its/\IsTup s.heap a its.toArray/\xs.length<=sizeLine:=by
 rcases h with h | ⟨o,its,n,hk,hc,hs,hz,r⟩
 . obtain ⟨z,its,r,p⟩:=h.ok I.hok
   exact ⟨its,r,p,z⟩
 . refine ⟨its.toList,r,⟨o,I.kIn a o hk,hc,n,by simpa using hs⟩,?_⟩
   have e:=r.length; simp only [Array.length_toList] at e
   lia
theorem Inv.list_inj (I:Inv X pins σ H s) (h:SqL X.K H a xs) (h':SqL X.K H a ys):xs=ys:=by
 obtain ⟨its,r,⟨o,n,e,_,_,d⟩,_⟩:=I.list h
 obtain ⟨its',r',⟨o',n',e',_,_,d'⟩,_⟩:=I.list h'
 rw [e] at e'; cases e'
 rw [d] at d'
 injection d' with d1 _
 have:its=its':=by simpa using congrArg Array.toList d1
 subst this
 exact r.inj r'
theorem Inv.tuple_inj (I:Inv X pins σ H s) (h:SqT X.K H a xs) (h':SqT X.K H a ys):xs=ys:=by
 obtain ⟨its,r,⟨o,e,_,n,d⟩,_⟩:=I.tuple h
 obtain ⟨its',r',⟨o',e',_,n',d'⟩,_⟩:=I.tuple h'
 rw [e] at e'; cases e'
 rw [d] at d'
 injection d' with d1 _
 have:its=its':=by simpa using congrArg Array.toList d1
 subst this
 exact r.inj r'
end
noncomputable abbrev Cx.wish (X:Cx) (E:Value->Shared->Prop):Cx:={ X with xe:=E }
noncomputable abbrev Cx.nox (X:Cx):Cx:=X.wish fun _ _=>False
theorem Cx.Ok.wish {X:Cx} (ok:X.Ok) (E:Value->Shared->Prop):(X.wish E).Ok :=
 ⟨ok.mod,ok.kind,ok.glob,ok.blt,ok.above,ok.inj,ok.has,ok.cab,ok.hd,ok.frames,ok.stk,ok.exf,ok.bs,ok.bsz,ok.noex,ok.exfs,ok.funs,ok.frf⟩
theorem Cx.Ok.unwish {X:Cx} {E:Value->Shared->Prop} (ok:(X.wish E).Ok):X.Ok :=
 ⟨ok.mod,ok.kind,ok.glob,ok.blt,ok.above,ok.inj,ok.has,ok.cab,ok.hd,ok.frames,ok.stk,ok.exf,ok.bs,ok.bsz,ok.noex,ok.exfs,ok.funs,ok.frf⟩
section
variable {X:Cx} {pins:List (Addr×Obj)} {σ:St} {H:Hp} {s:Shared} {E:Value->Shared->Prop}
theorem Inv.wish (I:Inv X pins σ H s) (E:Value->Shared->Prop):Inv (X.wish E) pins σ H s:=⟨I.ok.wish E,I.os,I.bare,I.base,I.loc,I.cell,I.free,I.freeC,I.pin,I.hok,I.len⟩
theorem Inv.unwish (I:Inv (X.wish E) pins σ H s):Inv X pins σ H s:=⟨I.ok.unwish,I.os,I.bare,I.base,I.loc,I.cell,I.free,I.freeC,I.pin,I.hok,I.len⟩
theorem SP.unwish {D:Ends} {f:Flow} {s':Shared} (h:SP (X.wish E) pins D f s'):SP X pins D f s':=by
 cases f with
 | next=>obtain ⟨σ',H',I,q⟩:=h; exact ⟨σ',H',I.unwish,q⟩
 | brk=>obtain ⟨σ',H',I,q⟩:=h; exact ⟨σ',H',I.unwish,q⟩
 | cont=>obtain ⟨σ',H',I,q⟩:=h; exact ⟨σ',H',I.unwish,q⟩
 | ret u=>obtain ⟨v,σ',H',I,r,q⟩:=h; exact ⟨v,σ',H',I.unwish,r,q⟩
theorem PSs.nox {st:List Stmt} {t:TS} (h:PSs X.nox st t):PSs X st t:=fun pins s σ H D I hw =>
 wpAny_mono (h pins s σ H D (I.wish _) hw) (fun _ _ q=>q.unwish) fun _ _ z=>False.elim z
end
section
variable {X:Cx} {st:Stmt} {Q4:List Stmt} {t u:TS} {e:Expr} {te:TE} {pos:Pos}
def tNext:TS:=fun D σ H=>D.nx σ H
def tSeq (t u:TS):TS:=fun D σ H=>t { D with nx:=u D } σ H
theorem Rg:PSs X [] tNext:=fun _ _ σ H _ I h=>wpAny_execs_nil ⟨σ,H,I,h⟩
theorem Gj (h1:PS X st t) (h2:PSs X Q4 u):PSs X (st::Q4) (tSeq t u):=by
 intro pins s σ H D I h
 refine wpAny_execs_cons (thn (h1 pins s σ H { D with nx:=u D } I h) fun f s1 q=>?_)
 cases f with
 | next =>
   obtain ⟨σ',H',I',q⟩:=q; exact h2 pins s1 σ' H' D I' q
 | ret v=>exact q
 | brk=>exact q
 | cont=>exact q
theorem Eb (h1:PS X st t):PSs X [st] t:=by
 intro pins s σ H D I h
 refine wpAny_execs_cons (thn (h1 pins s σ H D I h) fun f s1 q=>?_)
 cases f with
 | next=>exact wpAny_execs_nil q
 | ret v=>exact q
 | brk=>exact q
 | cont=>exact q
theorem Inv.quiet {pins:List (Addr×Obj)} {σ:St} {H:Hp} {s:Shared} (I:Inv X pins σ H s):interactive X.env=false:=by simp [interactive,I.ok.kind]
def tDrop (te:TE):TS:=fun D σ H=>te σ H fun _ H1=>D.nx σ H1
theorem Jz (he:PE X e te) (hs:swapsWith e none pos.line X.env=pure false:=by rfl):PS X (.Expr e pos) (tDrop te):=by
 intro pins s σ H D I h
 exact wpAny_Expr_any (thn (he pins s σ H _ I h) fun v s1 hZ2=>by obtain ⟨x,H1,I1,r1,q1⟩:=hZ2; exact ⟨σ,H1,I1,q1⟩) I.quiet hs
def tRet (te:TE):TS:=fun D σ H=>te σ H D.rt
theorem Rh (he:PE X e te):PS X (.Return (some e) pos) (tRet te):=by
 intro pins s σ H D I h
 exact wpAny_Return_some (thn (he pins s σ H _ I h) fun v s1 hZ2=>by obtain ⟨x,H1,I1,r1,q1⟩:=hZ2; exact ⟨x,σ,H1,I1,r1,q1⟩)
def tIfS (c:TT) (t u:TS):TS:=fun D σ H=>c σ H fun b H1=>if b=true then t D σ H1 else u D σ H1
theorem eG {c:Expr} {a b:List Stmt} {tc:TT} (hc:PT X c tc) (ha:PSs X a t) (hb:PSs X b u):PS X (.If c a b pos) (tIfS tc t u):=by
 intro pins s σ H D I h
 refine wpAny_If (thn (hc pins s σ H _ I h) fun d s1 hZ2=>?_)
 obtain ⟨H1,I1,q1⟩:=hZ2
 cases d with
 | true=>exact ha pins s1 σ H1 D I1 q1
 | false=>exact hb pins s1 σ H1 D I1 q1
end
abbrev TG:=V->St->Hp->(St->Hp->Prop)->Prop
abbrev TGs:=List V->St->Hp->(St->Hp->Prop)->Prop
def PG (X:Cx) (target:Expr) (t:TG):Prop :=
 ∀ (pins:List (Addr×Obj)) (s:Shared) (σ:St) (H:Hp) (v:V) (u:Value) (Q:St->Hp->Prop),Inv X pins σ H s->RelV v u->t v σ H Q ->
   wpAny (model X.prog X.w) X.A (assign target X.env u) (fun _ s'=>∃ σ' H',Inv X pins σ' H' s'/\Q σ' H') X.xe s
def PGs (X:Cx) (ts:List Expr) (t:TGs):Prop :=
 ∀ (pins:List (Addr×Obj)) (s:Shared) (σ:St) (H:Hp) (vs:List V) (us:List Value) (Q:St->Hp->Prop),Inv X pins σ H s->Vals vs us->t vs σ H Q ->
   wpAny (model X.prog X.w) X.A (assignInOrder ((assignEach ts X.env).map (·.2)) us) (fun _ s'=>∃ σ' H',Inv X pins σ' H' s'/\Q σ' H') X.xe s
abbrev qH:=V->V->V->Hp->(Hp->Prop)->Prop
def PSet (X:Cx) (t:qH):Prop :=
 ∀ (pins:List (Addr×Obj)) (s:Shared) (σ:St) (H:Hp) (o i v:V) (ov iv u:Value) (Q:Hp->Prop),Inv X pins σ H s->RelV o ov->RelV i iv->RelV v u->t o i v H Q ->
   wpAny (model X.prog X.w) X.A (setItem ov iv u) (fun _ s'=>∃ H',Inv X pins σ H' s'/\Q H') X.xe s
section
variable {X:Cx} {pos:Pos}
def Z9 (i:Nat):TG:=fun v σ H Q=>Q (σ.set i (some v)) H
theorem Af {i:Nat} {x:Str} (hN:X.N.Nodup) (hi:X.N[i]? = some x) (hx:Loc X.env.scope x) (hf:X.fn x=true\/X.env.scope.names.lookup x=some .local:=by first | exact .inl rfl | exact .inr rfl | assumption):PG X (.Name x pos) (Z9 i):=by
 intro pins s σ H v u Q I r h
 exact wpAny_assign_Name (Ku I hN hi hx r (fun s' I'=>⟨_,H,I',h⟩) hf)
def kP:TGs:=fun vs σ H Q=>vs=[]/\Q σ H
def Mn (t:TG) (u:TGs):TGs:=fun vs σ H Q=>∃ v r,vs=v::r/\t v σ H fun σ' H'=>u r σ' H' Q
theorem Xx:PGs X [] kP:=by
 intro pins s σ H vs us Q I r h
 obtain ⟨e,h⟩:=h
 subst e
 cases r
 exact assignInOrder_nil ⟨σ,H,I,h⟩
theorem Gk {e:Expr} {es:List Expr} {t:TG} {u:TGs} (h1:PG X e t) (h2:PGs X es u)
   (hs:(assignEach (e::es) X.env).map (·.2)=assign e X.env::(assignEach es X.env).map (·.2):=by rfl):PGs X (e::es) (Mn t u):=by
 intro pins s σ H vs us Q I r h
 obtain ⟨v,vr,e1,h⟩:=h
 subst e1
 cases r with
 | cons r rr =>
   rw [hs]; refine assignInOrder_cons (thn (h1 pins s σ H _ _ _ I r h) fun _ s1 hZ2=>?_)
   obtain ⟨σ1,H1,I1,q1⟩:=hZ2; exact h2 pins s1 σ1 H1 _ _ Q I1 rr q1
def kO (K:PySem.W.Frag) (n:Nat) (t:TGs):TG:=fun v σ H Q=>∃ a xs,v=.ref a/\SqT K H a xs/\xs.length=n/\t xs σ H Q
theorem eL {es:List Expr} {k:Nat} {t:TGs} {n:Nat} (hc:X.calm=true) (h:PGs X es t)
   (hn:(assignEach es X.env).length=n:=by rfl) (hst:(assignEach es X.env).findIdx? (·.1)=none:=by rfl):PG X (.Tuple es k pos) (kO X.K n t):=by
 intro pins s σ H v u Q I r hw
 obtain ⟨a,xs,e1,hq,hl,hw⟩:=hw
 subst e1
 cases r
 obtain ⟨its,rv,ht,hz⟩:=I.tuple hq
 refine assign_Tuple_tuple (I.ok.hd hc) ht (by simp [hn,<- hl,rv.length]) hst fun h' hx=>?_
 have I1:Inv X pins σ H { s with heap:=h' }:=I.kept (t':=s.toks) fun b o e=>hx b o (Nat.ne_of_lt (Heap.lt_size e)) e
 exact h pins _ σ H xs _ Q I1 (by simpa using rv) hw
def gSub (to ti:TE) (t:qH):TG:=fun v σ H Q=>to σ H fun o H1=>ti σ H1 fun i H2=>t o i v H2 fun H3=>Q σ H3
theorem oD {o i:Expr} {to ti:TE} {t:qH} (ho:PE X o to) (hi:PE X i ti) (hs:PSet X t)
   (ha:∀ v,assign (.Subscript o i pos) X.env v=(do
     let ov <- holding [v] (eval o X.env)
     let iv <- holding [v,ov] (eval i X.env)
     standAt pos
     holding [v,ov,iv] (setItem ov iv v)
     release [v,ov,iv] []):=by intro _; rfl):PG X (.Subscript o i pos) (gSub to ti t):=by
 intro pins s σ H v u Q I r h
 rw [ha]
 refine wpAny_bind (wpAny_holding (thn (ho pins s σ H _ I h) fun ov s1 hZ2=>?_))
 obtain ⟨x,H1,I1,r1,q1⟩:=hZ2
 refine wpAny_bind (wpAny_holding (thn (hi pins s1 σ H1 _ I1 q1) fun iv s2 hZ2=>?_))
 obtain ⟨y,H2,I2,r2,q2⟩:=hZ2
 refine wpAny_bind (wpAny_standAt (wpAny_bind (wpAny_holding (thn (hs pins s2 σ H2 x y v ov iv u _ I2 r1 r2 r q2) fun _ s3 hZ2=>?_))))
 obtain ⟨H3,I3,q3⟩:=hZ2
 exact wpAny_release ⟨σ,H3,I3,q3⟩
def nJ (te:TE) (g:TG):TS:=fun D σ H=>te σ H fun x H1=>g x σ H1 D.nx
theorem oC {tg e:Expr} {te:TE} {g:TG} (he:PE X e te) (hg:PG X tg g) (hs:swapsWithSole [tg] e pos.line X.env=pure false:=by rfl) (hw:swappedStores [tg] e X.env=pure none:=by rfl)
   (h1:(assignEach [tg] X.env).map (·.2)=[assign tg X.env]:=by rfl):PS X (.Assign [tg] e pos) (nJ te g):=by
 intro pins s σ H D I h
 refine wpAny_Assign_stores (thn (he pins s σ H _ I h) fun v s1 hY3=>?_) hs hw
 obtain ⟨x,H1,I1,r1,q1⟩:=hY3
 rw [h1]
 exact thn (hg pins s1 σ H1 x v _ I1 r1 q1) fun _ s2 q=>q
theorem Hl {i:Nat} {x:Str} {e:Expr} {te:TE} {pos':Pos} (hN:X.N.Nodup) (hi:X.N[i]? = some x) (hx:Loc X.env.scope x) (he:PE X e te) (hs:swapsWith e (some (.Name x pos')) pos.line X.env=pure false:=by rfl) (hf:X.fn x=true\/X.env.scope.names.lookup x=some .local:=by first | exact .inl rfl | exact .inr rfl | assumption) :
   PS X (.Assign [.Name x pos'] e pos) (nJ te (Z9 i)):=by
 intro pins s σ H D I h
 refine wpAny_Assign_Name (thn (he pins s σ H _ I h) fun v s1 hY4=>?_) hs
 obtain ⟨y,H1,I1,r1,q1⟩:=hY4
 exact Ku I1 hN hi hx r1 (fun s2 I2=>⟨_,H1,I2,q1⟩) hf
end
section
variable {X:Cx} {pos:Pos}
def nC (c:TT) (tb:TS):TS:=fun D σ H=>∃ W:Nat->St->Hp->Prop,(∃ m,W m σ H)/\∀ m σ H,W m σ H ->
 c σ H fun b H1=>if b=true then ∃ N:St->Hp->Prop,(∀ σ' H',N σ' H'->∃ m',m' < m/\W m' σ' H')/\tb { D with nx:=N,ct:=N,bk:=D.nx } σ H1 else D.nx σ H1
theorem eF {c:Expr} {body:List Stmt} {tc:TT} {tb:TS} (hp:PassesOwn (model X.prog X.w) X.A X.env X.xe) (hc:PT X c tc) (hb:PSs X body tb):PS X (.While c body [] pos) (nC tc tb):=by
 intro pins s σ H D I h
 obtain ⟨W,⟨m0,w0⟩,turn⟩:=h
 refine wpAny_While (codeAny_whileLoop (fun n s'=>∃ σ' H',Inv X pins σ' H' s'/\W n σ' H') ?_ m0 ⟨σ,H,I,w0⟩)
 rintro n s1 ⟨σ1,H1,I1,w1⟩
 refine wpAny_passesOwn hp (thn (hc pins s1 σ1 H1 _ I1 (turn n σ1 H1 w1)) fun b s2 hZ2=>?_)
 obtain ⟨H2,I2,q2⟩:=hZ2
 cases b with
 | true =>
   obtain ⟨N,hN,q2⟩:=q2; rw [if_pos rfl]; refine wpAny_passesOwn hp (thn (hb pins s2 σ1 H2 _ I2 q2) fun f s3 q3=>?_)
   cases f with
   | next =>
     obtain ⟨σ3,H3,I3,n3⟩:=q3; obtain ⟨m',hm,w3⟩:=hN σ3 H3 n3; exact ⟨m',hm,σ3,H3,I3,w3⟩
   | cont =>
     obtain ⟨σ3,H3,I3,n3⟩:=q3; obtain ⟨m',hm,w3⟩:=hN σ3 H3 n3; exact ⟨m',hm,σ3,H3,I3,w3⟩
   | brk=>exact q3
   | ret v=>exact q3
 | false =>
   rw [if_neg Bool.false_ne_true]; exact wpAny_execs_nil ⟨σ1,H2,I2,q2⟩
end
structure It where
 go:Nat->Hp->Prop
 yld:Nat->Hp->V->Hp->Prop
 stop:Nat->Hp->Prop
def Ck (X:Cx) (pins:List (Addr×Obj)) (H:Hp) (b:Addr):Prop :=
 H b=none/\b≠X.env.locals/\b∉X.fs/\(b∈X.ex\/X.s₀.heap.objs.size<=b)/\(∀ x c,X.env.cells.lookup x=some c->c≠b)/\∀ p∈X.pn++pins,p.1≠b
theorem Inv.fpOk {X:Cx} {pins:List (Addr×Obj)} {σ:St} {H H':Hp} {s:Shared} {b:Addr} (I:Inv X pins σ H s) (hb:s.heap.objs.size<=b) (hn:H' b=none):Ck X pins H' b:=by
 refine ⟨hn,Nat.ne_of_gt (Nat.lt_of_lt_of_le I.lt hb),I.nofs hb,.inr (Nat.le_trans I.sz hb),fun x c e z=>?_,fun p hp z=>?_⟩
 . obtain ⟨v,q⟩:=I.cell x c e
   exact absurd (Nat.lt_of_lt_of_le q.lt (by rw [z]; exact hb)) (Nat.lt_irrefl _)
 . exact absurd (Nat.lt_of_lt_of_le (Heap.lt_size (I.pin p hp).1) (by rw [z]; exact hb)) (Nat.lt_irrefl _)
structure Turn (P:Program) (w:World) (K:PySem.W.Frag) (tg:Expr) (J:It) (fp:List Addr) (it:Addr) (tn:Nat->Heap->Prop):Prop where
 mem:it∈fp
 obj:∀ i h,tn i h->∀ b∈fp,∃ o,h.get? b=some o/\∀ v,o.data≠.cell v
 keep:∀ i h h',tn i h->(∀ b∈fp,∀ o,h.get? b=some o->h'.get? b=some o)->tn i h'
 item:∀ (X:Cx),X.prog=P->X.w=w->X.K=K->X.calm=true->∀ (i:Nat) (pins:List (Addr×Obj)) (s:Shared) (σ:St) (H:Hp) (E:Value->Shared->Prop),Inv X pins σ H s->(∀ b∈fp,Ck X pins H b)->tn i s.heap->J.go i H ->
   wpAny (model P w) X.A (pyNext (.ref it)) (fun r s1=>∃ u,r=some u /\
     wpAny (model P w) X.A (letOwnedTupleGo tg (.ref it) u) (fun _ s2=>∃ x H',Inv X pins σ H' s2/\RelV x u/\J.yld i H x H'/\tn (i+1) s2.heap/\∀ b∈fp,H' b=none) E s1) E s
 done:∀ (X:Cx),X.prog=P->X.w=w->X.K=K->X.calm=true->∀ (i:Nat) (pins:List (Addr×Obj)) (s:Shared) (σ:St) (H:Hp) (E:Value->Shared->Prop),Inv X pins σ H s->(∀ b∈fp,Ck X pins H b)->tn i s.heap->J.stop i H ->
   wpAny (model P w) X.A (pyNext (.ref it)) (fun r s1=>r=none/\Inv X pins σ H s1) E s
 self:∀ (A:Around) (i:Nat) (s:Shared) (Q:Value->Shared->Prop) (E:Value->Shared->Prop),tn i s.heap->Q (.ref it) s->wpAny (model P w) A (pyIter (.ref it)) Q E s
abbrev TI:=St->Hp->(It->Hp->Prop)->Prop
def PIE (X:Cx) (pins:List (Addr×Obj)) (σ:St) (tg:Expr) (R:It->Hp->Prop) (itv:Value) (s2:Shared):Prop :=
 ∃ (it:Addr) (fp:List Addr) (tn:Nat->Heap->Prop) (J:It) (H':Hp),itv=.ref it/\Inv X pins σ H' s2/\Turn X.prog X.w X.K tg J fp it tn/\tn 0 s2.heap/\(∀ b∈fp,Ck X pins H' b)/\R J H'
def PI (X:Cx) (tg iter:Expr) (wi:TI):Prop :=
 ∀ (pins:List (Addr×Obj)) (s:Shared) (σ:St) (H:Hp) (R:It->Hp->Prop),Inv X pins σ H s->wi σ H R ->
   wpAny (model X.prog X.w) X.A (eval iter X.env) (fun v s1=>wpAny (model X.prog X.w) X.A (pyIter v) (PIE X pins σ tg R) X.xe s1) X.xe s
theorem Pp {M:Model} {A:Around} {E:Value->Shared->Prop} {s:Shared} {tg:Expr} {it:Addr} {u:Value} {o:Obj} {n:String} {vs:Array Value} {Q:Unit->Shared->Prop} (ho:s.heap.get? it=some o) (hc:o.cls=.type n) (hd:o.data=.fields vs)
   (hn:["enumerate", "zip", "dict_itemiterator", "dict_reverseitemiterator", "odict_iterator", "itertools.zip_longest", "itertools.pairwise"].contains n=false) (hQ:Q () s):wpAny M A (letOwnedTupleGo tg (.ref it) u) Q E s:=by
 unfold letOwnedTupleGo
 cases tg <;> first
   | exact wpAny_pure hQ
   | (cases u <;> first
       | exact wpAny_pure hQ
       | (refine wpAny_bind (wpAny_load ho ?_)
          rw [hc,hd]; show wpAny M A (if (["enumerate", "zip", "dict_itemiterator", "dict_reverseitemiterator", "odict_iterator", "itertools.zip_longest", "itertools.pairwise"].contains n&&vs[0]? == some (rawInt _))=true then _ else _) Q E s
          rw [if_neg (by intro h; rw [hn,Bool.false_and] at h; cases h)]
          exact wpAny_pure hQ))
noncomputable def Itl (K:PySem.W.Frag) (a:Addr):It :=
 ⟨fun i H=>∃ xs x,SqL K H a xs/\xs[i]? = some x,fun i H x H'=>H'=H/\∀ xs,SqL K H a xs->xs[i]? = some x,fun i H=>∃ xs,SqL K H a xs/\xs.length<=i⟩
noncomputable def Itt (K:PySem.W.Frag) (a:Addr):It :=
 ⟨fun i H=>∃ xs x,SqT K H a xs/\xs[i]? = some x,fun i H x H'=>H'=H/\∀ xs,SqT K H a xs->xs[i]? = some x,fun i H=>∃ xs,SqT K H a xs/\xs.length<=i⟩
noncomputable def Itr (lo:Int) (n:Nat):It:=⟨fun i _=>i < n,fun i H x H'=>H'=H/\x=.int (lo+i),fun i _=>n<=i⟩
theorem Zm {P:Program} {w:World} {K:PySem.W.Frag} {tg:Expr} (a it:Addr):Turn P w K tg (Itl K a) [it] it (fun i h=>h.IsListIter it a i) where
 mem:=by simp
 obj:=fun i h st b hb=>by
   have e:b=it:=by simpa using hb
   subst e; obtain ⟨o,e,c,d⟩:=st; exact ⟨o,e,fun v z=>by rw [d] at z; cases z⟩
 keep:=fun i h h' st k=>st.at fun o e=>k it (by simp) o e
 item:=by
   intro X hP hw hK hc i pins s σ H E I hf st hg; subst hP hw hK; obtain ⟨xs,x,hq,hx⟩:=hg; obtain ⟨its,rv,p,hz⟩:=I.list hq; obtain ⟨u,hu,ru⟩:=rv.get hx; obtain ⟨f0,f1,f2,f3,f4,f5⟩:=hf it (by simp)
   refine wpAny_pyNext_list_item st p.isList (x:=u) (by simpa using hu) fun h' st' sb=>?_
   have I1:Inv X pins σ H { s with heap:=h' }:=I.turned (t':=s.toks) (fun b o hb e=>(sb.2 b hb).trans e) f0 f1 f3 f4 f5
   obtain ⟨o,e,c,d⟩:=id st'; exact ⟨u,rfl,Pp (s:={ s with heap:=h' }) e c d (by decide) ⟨x,H,I1,ru,⟨rfl,fun ys hy=>by rw [I.list_inj hy hq]; exact hx⟩,st',fun b hb=>(hf b hb).1⟩⟩
 done:=by
   intro X hP hw hK hc i pins s σ H E I hf st hg; subst hP hw hK; obtain ⟨xs,hq,hx⟩:=hg; obtain ⟨its,rv,p,hz⟩:=I.list hq; obtain ⟨f0,f1,f2,f3,f4,f5⟩:=hf it (by simp)
   have hl:=rv.length; exact wpAny_pyNext_list_end (I.ok.hd hc) st p.isList (by simp; lia) fun h' eb=>⟨rfl,I.turned (t':=s.toks) (fun b o hb e=>eb b o hb e) f0 f1 f3 f4 f5⟩
 self:=fun _ _ _ _ _ st h=>wpAny_pyIter_listiter st h
theorem Vp {P:Program} {w:World} {K:PySem.W.Frag} {tg:Expr} (a it:Addr):Turn P w K tg (Itt K a) [it] it (fun i h=>h.IsTupleIter it a i) where
 mem:=by simp
 obj:=fun i h st b hb=>by
   have e:b=it:=by simpa using hb
   subst e; obtain ⟨o,e,c,d⟩:=st; exact ⟨o,e,fun v z=>by rw [d] at z; cases z⟩
 keep:=fun i h h' st k=>st.at fun o e=>k it (by simp) o e
 item:=by
   intro X hP hw hK hc i pins s σ H E I hf st hg; subst hP hw hK; obtain ⟨xs,x,hq,hx⟩:=hg; obtain ⟨its,rv,p,hz⟩:=I.tuple hq; obtain ⟨u,hu,ru⟩:=rv.get hx; obtain ⟨f0,f1,f2,f3,f4,f5⟩:=hf it (by simp)
   refine wpAny_pyNext_tuple_item st (show s.heap.IsTuple a its.toArray from p) (x:=u) (by simpa using hu) fun h' st' sb=>?_
   have I1:Inv X pins σ H { s with heap:=h' }:=I.turned (t':=s.toks) (fun b o hb e=>(sb.2 b hb).trans e) f0 f1 f3 f4 f5
   obtain ⟨o,e,c,d⟩:=id st'; exact ⟨u,rfl,Pp (s:={ s with heap:=h' }) e c d (by decide) ⟨x,H,I1,ru,⟨rfl,fun ys hy=>by rw [I.tuple_inj hy hq]; exact hx⟩,st',fun b hb=>(hf b hb).1⟩⟩
 done:=by
   intro X hP hw hK hc i pins s σ H E I hf st hg; subst hP hw hK; obtain ⟨xs,hq,hx⟩:=hg; obtain ⟨its,rv,p,hz⟩:=I.tuple hq; obtain ⟨f0,f1,f2,f3,f4,f5⟩:=hf it (by simp)
   have hl:=rv.length; exact wpAny_pyNext_tuple_end (I.ok.hd hc) st (show s.heap.IsTuple a its.toArray from p) (by simp; lia) fun h' eb=>⟨rfl,I.turned (t':=s.toks) (fun b o hb e=>eb b o hb e) f0 f1 f3 f4 f5⟩
 self:=fun _ _ _ _ _ st h=>wpAny_pyIter_tupleiter st h
theorem Vq {P:Program} {w:World} {K:PySem.W.Frag} {tg:Expr} (it:Addr) (lo:Int) (n:Nat):Turn P w K tg (Itr lo n) [it] it (fun i h=>IsRangeIter h it (lo+(i:Nat)*1) ((n:Int) - (i:Nat)) 1) where
 mem:=by simp
 obj:=fun i h st b hb=>by
   have e:b=it:=by simpa using hb
   subst e; exact ⟨_,st,fun v z=>by
     have z':Data.fields _=Data.cell v:=z
     cases z'⟩
 keep:=fun i h h' st k=>k it (by simp) _ st
 item:=by
   intro X hP hw hK hc i pins s σ H E I hf st hg; subst hP hw hK; obtain ⟨f0,f1,f2,f3,f4,f5⟩:=hf it (by simp)
   have W:=Walks.range (prog:=X.prog) (w:=X.w) (I.ok.hd hc) it lo 1 n; refine W.item i s _ _ hg st fun v h' tk hv st' kk=>?_
   obtain ⟨t,rfl⟩:=hv; have I1:Inv X pins σ H { s with heap:=h',toks:=tk }:=I.turned (fun b o hb e=>kk b o (by simpa using hb) e) f0 f1 f3 f4 f5
   refine ⟨_,rfl,Pp (s:={ s with heap:=h',toks:=tk }) (n := "range_iterator") st' rfl rfl (by decide) ⟨.int (lo+i),H,I1,⟨t,?_⟩,⟨rfl,rfl⟩,st',fun b hb=>(hf b hb).1⟩⟩
   rw [Int.mul_one]
 done:=by
   intro X hP hw hK hc i pins s σ H E I hf st hg; subst hP hw hK; obtain ⟨f0,f1,f2,f3,f4,f5⟩:=hf it (by simp)
   exact wpAny_pyNext_range_end (I.ok.hd hc) st (by have:n<=i:=hg; lia) fun h' eb=>⟨rfl,I.turned (t':=s.toks) (fun b o hb e=>eb b o hb e) f0 f1 f3 f4 f5⟩
 self:=fun _ _ _ _ _ st h=>wpAny_pyIter_rangeiter st h
end L2
namespace L2
open PySem PySem.Spec PyProof.Rows
section
variable {X:Cx} {tg:Expr}
theorem dZ {pins:List (Addr×Obj)} {σ:St} {H:Hp} {s:Shared} {R:It->Hp->Prop} {E:Value->Shared->Prop} {lo hi:Int} {t u v:Tok} {tk:Nat} (I:Inv X pins σ H s) (h1 : -(2 ^ 62)<=lo) (h2:lo < 2 ^ 62) (h3 : -(2 ^ 62)<=hi) (h4:hi < 2 ^ 62)
   (q:R (Itr lo (hi - lo).toNat) H):wpAny (model X.prog X.w) X.A (pyIter (.ref s.heap.objs.size)) (PIE X pins σ tg R) E { s with heap:=s.heap.push { cls:=.type "range",data:=.fields #[.int lo t,.int hi u,.int 1 v] },toks:=tk }:=by
 refine wpAny_pyIter_range (IsRange.new ..) (small_one h1 h2 h3 h4) ?_
 have I1:Inv X pins σ H { s with heap:=s.heap.push { cls:=.type "range",data:=.fields #[.int lo t,.int hi u,.int 1 v] },toks:=tk }:=I.kept fun b o e=>Heap.get?_push_of_some _ e
 refine ⟨(s.heap.push { cls:=.type "range",data:=.fields #[.int lo t,.int hi u,.int 1 v] }).objs.size,[(s.heap.push { cls:=.type "range",data:=.fields #[.int lo t,.int hi u,.int 1 v] }).objs.size],_,_,H,rfl,
   I1.kept (t':=tk) fun b o e=>Heap.get?_push_of_some _ e,Vq _ lo (hi - lo).toNat,?_,fun b hb=>?_,q⟩
 . have e1:lo+((0:Nat):Int)*1=lo:=by simp
   have e2:(((hi - lo).toNat:Nat):Int) - ((0:Nat):Int)=Builtin.Range.rangeSize lo hi 1:=by rw [rangeSize_one]; split <;> lia
   show IsRangeIter _ _ (lo+((0:Nat):Int)*1) ((((hi - lo).toNat:Nat):Int) - ((0:Nat):Int)) 1
   rw [e1,e2]; exact Heap.get?_push_size _ rfl
 . have e:b=(s.heap.push { cls:=.type "range",data:=.fields #[.int lo t,.int hi u,.int 1 v] }).objs.size:=by simpa using hb
   subst e; exact I1.fpOk (Nat.le_refl _) (I1.hok.fresh (Nat.le_refl _))
def iRng1 (ta:TA):TI:=fun σ H R=>ta σ H fun vs H1=>∃ j:Int,vs=[.int j] /\ -(2 ^ 62)<=j/\j < 2 ^ 62/\R (Itr 0 j.toNat) H1
theorem aH {a:Expr} {ta:TA} {p pos:Pos} (hg:Gl X "range") (hm:X.mg "range" = none) (ha:PA X [a] ta) (hs:starEach [a] X.env=[(false,eval a X.env)]:=by rfl):PI X tg (.Call (.Name "range" p) [a] [] pos) (iRng1 ta):=by
 intro pins s σ H R I h
 refine Call_ (Cb I hg hm boot_range (PyProof.Rows.callWith_type1 (thn (ha pos pins s σ H _ I h) fun us s1 hY6=>?_) hs rfl))
 obtain ⟨vs,H1,I1,r1,q1⟩:=hY6
 obtain ⟨j,e,q1,q2,q⟩:=q1
 subst e
 cases r1 with
 | cons r rr =>
   cases rr; obtain ⟨t,rfl⟩:=r; exact call_range_1 (dZ I1 (by lia) (by lia) q1 q2 (by simpa using q))
def tFor (wi:TI) (g:TG) (tb:TS):TS:=fun D σ H=>wi σ H fun J H1=>∃ W:Nat->Nat->St->Hp->Prop,(∃ m,W 0 m σ H1)/\∀ i m σ H,W i m σ H ->
 (J.stop i H/\D.nx σ H)\/(J.go i H/\∃ N:St->Hp->Prop,(∀ σ' H',N σ' H'->∃ m',m' < m/\W (i+1) m' σ' H')/\∀ x H',J.yld i H x H'->g x σ H' fun σ2 H2=>tb { D with nx:=N,ct:=N,bk:=D.nx } σ2 H2)
noncomputable def Ma (fp:List Addr) (h:Heap):List (Addr×Obj):=fp.filterMap fun b=>(h.get? b).map fun o=>(b,o)
theorem Fh {fp:List Addr} {h:Heap} {b:Addr} {o:Obj} (hb:b∈fp) (e:h.get? b=some o):(b,o)∈Ma fp h:=List.mem_filterMap.mpr ⟨b,hb,by rw [e]; rfl⟩
theorem aJ {fp:List Addr} {h:Heap} {p:Addr×Obj} (hp:p∈Ma fp h):p.1∈fp/\h.get? p.1=some p.2:=by
 obtain ⟨b,hb,e⟩:=List.mem_filterMap.mp hp
 cases q:h.get? b with
 | none=>rw [q] at e; cases e
 | some o =>
   rw [q] at e; have e':(b,o)=p:=Option.some.inj e; subst e'; exact ⟨hb,q⟩
theorem Inv.pinned {pins:List (Addr×Obj)} {σ:St} {H:Hp} {s:Shared} {fp:List Addr} (I:Inv X pins σ H s) (hf:∀ b∈fp,Ck X pins H b) (ho:∀ b∈fp,∃ o,s.heap.get? b=some o/\∀ v,o.data≠.cell v):Inv X (pins++Ma fp s.heap) σ H s :=
 I.pins_of fun p hp=>(List.mem_append.mp hp).elim (fun z=>I.pin p (List.mem_append_right _ z)) fun z=>by
   obtain ⟨hb,e⟩:=aJ z; obtain ⟨f0,f1,f2,_⟩:=hf p.1 hb; obtain ⟨o,e',d⟩:=ho p.1 hb; rw [e] at e'; cases e'; exact ⟨e,f0,f1,f2,d⟩
theorem Inv.unpinned {pins pl:List (Addr×Obj)} {σ:St} {H:Hp} {s:Shared} (I:Inv X (pins++pl) σ H s):Inv X pins σ H s:=I.pins_of fun p hp=>I.pin p (List.mem_append_right _ (List.mem_append_left _ hp))
theorem eI {iter:Expr} {body:List Stmt} {wi:TI} {g:TG} {tb:TS} {pos:Pos} (hp:PassesOwn (model X.prog X.w) X.A X.env X.xe) (hc:X.calm=true) (hi:PI X tg iter wi) (hg:PG X tg g) (hb:PSs X body tb)
   (hs:∀ x,foldedSetIterable iter X.env x=pure x:=by intro _; rfl):PS X (.For tg iter body [] pos) (tFor wi g tb):=by
 intro pins s σ H D I h
 refine wpAny_For (thn (hi pins s σ H _ I h) fun v s1 h1=>thn h1 fun itv s2 h2=>?_) hs
 obtain ⟨it,fp,tn,J,H2,e,I2,T,st2,f2,W,⟨m0,w0⟩,turn⟩:=h2
 subst e
 have stat:∀ {H':Hp},(∀ b∈fp,H' b=none)->∀ b∈fp,Ck X pins H' b:=fun hn b hb=>⟨hn b hb,(f2 b hb).2⟩
 refine codeAny_forLoop_any (fun n s'=>∃ i σ' H',Inv X pins σ' H' s'/\tn i s'.heap/\(∀ b∈fp,H' b=none)/\W i n σ' H') ?_ m0 ⟨0,σ,H2,I2,st2,fun b hb=>(f2 b hb).1,w0⟩
 rintro n s3 ⟨i,σ3,H3,I3,st3,fr3,w3⟩
 rcases turn i n σ3 H3 w3 with ⟨stop,qn⟩ | ⟨go,N,hN,step⟩
 . refine wpAny_passesOwn hp (thn (T.done X rfl rfl rfl hc i pins s3 σ3 H3 X.xe I3 (stat fr3) st3 stop) fun r s4 hZ2=>?_)
   obtain ⟨hr,I4⟩:=hZ2; subst hr; exact wpAny_execs_nil ⟨σ3,H3,I4,qn⟩
 . refine wpAny_passesOwn hp (thn (T.item X rfl rfl rfl hc i pins s3 σ3 H3 X.xe I3 (stat fr3) st3 go) fun r s4 hZ2=>?_)
   obtain ⟨u,hr,h4⟩:=hZ2; subst hr; refine wpAny_passesOwn hp (thn h4 fun _ s5 hZ2=>?_)
   obtain ⟨x,H5,I5,r5,y5,st5,fr5⟩:=hZ2; have I5':=I5.pinned (stat fr5) (T.obj _ _ st5); refine wpAny_passesOwn hp (thn (hg _ s5 σ3 H5 x u _ I5' r5 (step x H5 y5)) fun _ s6 hZ2=>?_)
   obtain ⟨σ6,H6,I6,q6⟩:=hZ2; refine wpAny_passesOwn hp (thn (hb _ s6 σ6 H6 _ I6 q6) fun f s7 q7=>?_)
   have again:∀ {σ7:St} {H7:Hp},Inv X (pins++Ma fp s5.heap) σ7 H7 s7->N σ7 H7->∃ m,m < n/\∃ i σ' H',Inv X pins σ' H' s7/\tn i s7.heap/\(∀ b∈fp,H' b=none)/\W i m σ' H':=fun {σ7 H7} I7 n7=>by
     obtain ⟨m',hm,w7⟩:=hN σ7 H7 n7; refine ⟨m',hm,i+1,σ7,H7,I7.unpinned,T.keep _ _ _ st5 fun b hb o e=>(I7.pin (b,o) (List.mem_append_right _ (List.mem_append_right _ (Fh hb e)))).1,fun b hb=>?_,w7⟩
     obtain ⟨o,e,d⟩:=T.obj _ _ st5 b hb; exact (I7.pin (b,o) (List.mem_append_right _ (List.mem_append_right _ (Fh hb e)))).2.1
   cases f with
   | next=>obtain ⟨σ7,H7,I7,n7⟩:=q7; exact again I7 n7
   | cont=>obtain ⟨σ7,H7,I7,n7⟩:=q7; exact again I7 n7
   | brk=>obtain ⟨σ7,H7,I7,q7⟩:=q7; exact ⟨σ7,H7,I7.unpinned,q7⟩
   | ret v=>obtain ⟨x7,σ7,H7,I7,r7,q7⟩:=q7; exact ⟨x7,σ7,H7,I7.unpinned,r7,q7⟩
end
end L2
namespace L2
open PySem PySem.Spec PyProof.Rows
abbrev R2:=V->V->Hp->VK->Prop
def OpR (X:Cx) (f:Value->Value->Sem Value) (r:R2):Prop :=
 ∀ (pins:List (Addr×Obj)) (s:Shared) (σ:St) (H:Hp) (x y:V) (v u:Value) (Q:VK),Inv X pins σ H s->RelV x v->RelV y u->r x y H Q ->
   wpAny (model X.prog X.w) X.A (f v u) (EP X pins σ Q) X.xe s
def UnR (X:Cx) (f:Value->Sem Value) (r:V->Hp->VK->Prop):Prop :=
 ∀ (pins:List (Addr×Obj)) (s:Shared) (σ:St) (H:Hp) (x:V) (v:Value) (Q:VK),Inv X pins σ H s->RelV x v->r x H Q ->
   wpAny (model X.prog X.w) X.A (f v) (EP X pins σ Q) X.xe s
def Ac (X:Cx) (f:Value) (r:List V->Hp->VK->Prop):Prop :=
 ∀ (pins:List (Addr×Obj)) (s:Shared) (σ:St) (H:Hp) (xs:List V) (us:List Value) (Q:VK),Inv X pins σ H s->Vals xs us->r xs H Q ->
   wpAny (model X.prog X.w) X.A (call f us) (EP X pins σ Q) X.xe s
def TruR (X:Cx) (r:V->Hp->(Bool->Hp->Prop)->Prop):Prop :=
 ∀ (pins:List (Addr×Obj)) (s:Shared) (σ:St) (H:Hp) (x:V) (v:Value) (Q:Bool->Hp->Prop),Inv X pins σ H s->RelV x v->r x H Q ->
   wpAny (model X.prog X.w) X.A (truthy v) (TP X pins σ Q) X.xe s
def tOp (r:R2) (ta tb:TE):TE:=fun σ H Q=>ta σ H fun x H1=>tb σ H1 fun y H2=>r x y H2 Q
def tUn (r:V->Hp->VK->Prop) (ta:TE):TE:=fun σ H Q=>ta σ H fun x H1=>r x H1 Q
def rI (C:Int->Int->Prop) (g:Int->Int->V):R2:=fun x y H Q=>∃ i j,x=.int i/\y=.int j/\C i j/\Q (g i j) H
def rU (g:Int->V):V->Hp->VK->Prop:=fun x H Q=>∃ i,x=.int i/\Q (g i) H
section
variable {X:Cx} {a b:Expr} {ta tb:TE} {pos:Pos}
theorem qC (ha:PE X a ta) (hb:PE X b tb) {pins:List (Addr×Obj)} {s:Shared} {σ:St} {H:Hp} {R:V->V->Hp->Prop} (I:Inv X pins σ H s)
   (h:ta σ H fun x H1=>tb σ H1 fun y H2=>R x y H2) {Q:Value->Shared->Prop} {f:Value->Value->Sem Value}
   (hf:∀ v u s2 x y H2,Inv X pins σ H2 s2->RelV x v->RelV y u->R x y H2->wpAny (model X.prog X.w) X.A (f v u) Q X.xe s2) :
   wpAny (model X.prog X.w) X.A (eval a X.env) (fun v s₁=>wpAny (model X.prog X.w) X.A (eval b X.env) (fun u s₂=>wpAny (model X.prog X.w) X.A (f v u) Q X.xe s₂) X.xe s₁) X.xe s:=by
 refine thn (ha pins s σ H _ I h) fun v s1 hZ2=>?_
 obtain ⟨x,H1,I1,r1,q1⟩:=hZ2
 refine thn (hb pins s1 σ H1 _ I1 q1) fun u s2 hZ2=>?_
 obtain ⟨y,H2,I2,r2,q2⟩:=hZ2
 exact hf v u s2 x y H2 I2 r1 r2 q2
theorem pe_op {op:Operator} {r:R2} (ho:OpR X (binaryOp op) r) (ha:PE X a ta) (hb:PE X b tb):PE X (.BinOp a op b pos) (tOp r ta tb):=by
 intro pins s σ H Q I h
 exact wpAny_BinOp (qC ha hb I h fun v u s2 x y H2 I2 rx ry q=>ho pins s2 σ H2 x y v u Q I2 rx ry q)
theorem eM {op:UnaryOp} {r:V->Hp->VK->Prop} (ho:UnR X (unaryOp op) r) (ha:PE X a ta):PE X (.UnaryOp op a pos) (tUn r ta):=by
 intro pins s σ H Q I h
 exact UnaryOp_ (thn (ha pins s σ H _ I h) fun v s1 hZ2=>by obtain ⟨x,H1,I1,r1,q1⟩:=hZ2; exact ho pins s1 σ H1 x v Q I1 r1 q1)
theorem opI {f:Value->Value->Sem Value} {C:Int->Int->Prop} {g:Int->Int->Int}
   (rule:∀ (i j:Int) (t u:Tok) (s:Shared) (Q:Value->Shared->Prop) (E:Value->Shared->Prop),C i j->Q (.int (g i j) s.toks) { s with toks:=s.toks+1 }->wpAny (model X.prog X.w) X.A (f (.int i t) (.int j u)) Q E s) :
   OpR X f (rI C fun i j=>.int (g i j)):=by
 intro pins s σ H x y v u Q I rx ry h
 obtain ⟨i,j,rfl,rfl,hc,q⟩:=h
 obtain ⟨t,rfl⟩:=rx
 obtain ⟨t',rfl⟩:=ry
 exact rule i j t t' s _ _ hc ⟨.int (g i j),H,I.tok _,⟨_,rfl⟩,q⟩
def CDiv (i j:Int):Prop:=0 < j/\j < 1073741824
def CMul (i j:Int):Prop:=(-(2 ^ 64) < i/\i < 2 ^ 64)\/(-(2 ^ 64) < j/\j < 2 ^ 64)
theorem CMul.ok {i j:Int} (h:CMul i j):IntMulOk i j:=by
 rcases h with ⟨h1,h2⟩ | ⟨h1,h2⟩
 . exact .of_left (intBits_le_64 h1 h2)
 . exact .of_right (intBits_le_64 h1 h2)
theorem jS:OpR X (binaryOp .FloorDiv) (rI CDiv fun i j=>.int (i / j)):=opI fun i j _ _ _ _ _ hc q=>by
 have h1:(0:Int) < j:=hc.1
 have h2:j < 1073741824:=hc.2
 exact floordiv_int (by lia) (by rw [Int.fdiv_eq_ediv_of_nonneg i (by lia)]; exact q) (.inl (PyProof.noPylong_small (by lia)))
theorem oM:OpR X (binaryOp .Mod) (rI (fun _ j=>0 < j) fun i j=>.int (i % j)):=opI fun i j _ _ _ _ _ hc q=>by
 have h1:(0:Int) < j:=hc
 exact mod_int' (by lia) (by rw [Int.fmod_eq_emod_of_nonneg i (by lia)]; exact q)
theorem unI {f:Value->Sem Value} {g:Int->Int}
   (rule:∀ (i:Int) (t:Tok) (s:Shared) (Q:Value->Shared->Prop) (E:Value->Shared->Prop),Q (.int (g i) s.toks) { s with toks:=s.toks+1 }->wpAny (model X.prog X.w) X.A (f (.int i t)) Q E s) :
   UnR X f (rU fun i=>.int (g i)):=by
 intro pins s σ H x v Q I rx h
 obtain ⟨i,rfl,q⟩:=h
 obtain ⟨t,rfl⟩:=rx
 exact rule i t s _ _ ⟨.int (g i),H,I.tok _,⟨_,rfl⟩,q⟩
theorem Vo:UnR X (unaryOp .USub) (rU fun i=>.int (-i)):=unI fun _ _ _ _ _ q=>neg_int q
end
def scal:V->V->Bool
 | .non,.non=>true | .non,.int _=>true | .int _,.non=>true | .non,.bl _=>true | .bl _,.non=>true | .non,.str _=>true | .str _,.non=>true
 | .int _,.int _=>true | .bl _,.bl _=>true | .str _,.str _=>true | .byt _,.byt _=>true
 | .int _,.str _=>true | .str _,.int _=>true | .bl _,.str _=>true | .str _,.bl _=>true
 | _,_=>false
def rNe:R2:=fun x y H Q=>scal x y=true/\Q (.bl (!decide (x=y))) H
theorem lE {i j:Int}:decide (V.int i=V.int j)=(i==j):=by
 rw [Bool.eq_iff_iff]
 simp
theorem pX {i j:Bool}:decide (V.bl i=V.bl j)=(i==j):=by
 rw [Bool.eq_iff_iff]
 simp
theorem lD {i j:Str}:decide (V.str i=V.str j)=(i==j):=by
 rw [Bool.eq_iff_iff]
 simp
theorem lF {i j:Array UInt8}:decide (V.byt i=V.byt j)=(i.toList==j.toList):=by
 rw [Bool.eq_iff_iff]
 cases i
 cases j
 simp
section
variable {X:Cx} {a b c:Expr} {ta tb tc:TE} {pos:Pos}
theorem T0 {pins:List (Addr×Obj)} {σ:St} {H:Hp} {s:Shared} {Q:VK} {k k':Bool} (I:Inv X pins σ H s) (q:Q (.bl k) H) (e:k=k'):EP X pins σ Q (.bool k') s:=by
 subst e
 exact ⟨.bl k,H,I,rfl,q⟩
theorem op_ne:OpR X (compareOp .NotEq) rNe:=by
 intro pins s σ H x y v u Q I rx ry h
 obtain ⟨hs,q⟩:=h
 cases x with
 | non =>
   cases rx
   cases y with
   | non=>cases ry; exact PySem.EqNone.ne_none_none (T0 I q (by simp))
   | bl j=>cases ry; exact PySem.EqNone.ne_none_bool (T0 I q (by simp))
   | int j=>obtain ⟨t',rfl⟩:=ry; exact PySem.EqNone.ne_none_int (T0 I q (by simp))
   | str j=>obtain ⟨t',rfl⟩:=ry; exact PySem.EqNone.ne_none_str (T0 I q (by simp))
   | _=>exact absurd (show false=true from hs) Bool.false_ne_true
 | bl i =>
   cases rx
   cases y with
   | non=>cases ry; exact PySem.EqNone.ne_bool_none (T0 I q (by simp))
   | bl j=>cases ry; exact ne_bool (T0 I q (congrArg not pX))
   | str j=>obtain ⟨t',rfl⟩:=ry; exact PySem.EqMixed.ne_bool_str (T0 I q (by simp))
   | _=>exact absurd (show false=true from hs) Bool.false_ne_true
 | int i =>
   obtain ⟨t,rfl⟩:=rx
   cases y with
   | non=>cases ry; exact PySem.EqNone.ne_int_none (T0 I q (by simp))
   | int j=>obtain ⟨t',rfl⟩:=ry; exact ne_int (T0 I q (congrArg not lE))
   | str j=>obtain ⟨t',rfl⟩:=ry; exact PySem.EqMixed.ne_int_str (T0 I q (by simp))
   | _=>exact absurd (show false=true from hs) Bool.false_ne_true
 | str i =>
   obtain ⟨t,rfl⟩:=rx
   cases y with
   | non=>cases ry; exact PySem.EqNone.ne_str_none (T0 I q (by simp))
   | bl j=>cases ry; exact PySem.EqMixed.ne_str_bool (T0 I q (by simp))
   | int j=>obtain ⟨t',rfl⟩:=ry; exact PySem.EqMixed.ne_str_int (T0 I q (by simp))
   | str j=>obtain ⟨t',rfl⟩:=ry; exact ne_str (T0 I q (congrArg not lD))
   | _=>exact absurd (show false=true from hs) Bool.false_ne_true
 | byt i =>
   obtain ⟨t,rfl⟩:=rx
   cases y with
   | byt j=>obtain ⟨t',rfl⟩:=ry; exact PySem.W.ne_bytes (T0 I q (congrArg not lF))
   | _=>exact absurd (show false=true from hs) Bool.false_ne_true
 | _=>cases y <;> exact absurd (show false=true from hs) Bool.false_ne_true
theorem Fe (b:Expr) {op:CmpOp} (h:op≠.In:=by decide) (h2:op≠.NotIn:=by decide):behindInMarks op b=false:=by
 have e1:(op==CmpOp.In)=false:=by cases op <;> first | rfl | exact absurd rfl h
 have e2:(op==CmpOp.NotIn)=false:=by cases op <;> first | rfl | exact absurd rfl h2
 cases b <;> simp [behindInMarks,e1,e2]
theorem jQ {op:CmpOp} {r:R2} (ho:OpR X (compareOp op) r) (ha:PE X a ta) (hb:PE X b tb) (hm:behindInMarks op b=false):PE X (.Compare a [op] [b] pos) (tOp r ta tb):=by
 intro pins s σ H Q I h
 exact wpAny_Compare1 (qC ha hb I h fun v u s2 x y H2 I2 rx ry q=>ho pins s2 σ H2 x y v u Q I2 rx ry q) hm
def tTest (t:TE):TT:=fun σ H Q=>t σ H fun x H'=>∃ k,x=.bl k/\Q k H'
theorem Xw {op:CmpOp} {r:R2} (ho:OpR X (compareOp op) r) (ha:PE X a ta) (hb:PE X b tb) (hm:behindInMarks op b=false):PT X (.Compare a [op] [b] pos) (tTest (tOp r ta tb)):=by
 intro pins s σ H Q I h
 refine wpAny_isTrue_Compare1 (thn (ha pins s σ H _ I h) fun v s1 hY8=>?_) hm
 obtain ⟨x,H1,I1,r1,q1⟩:=hY8
 refine thn (hb pins s1 σ H1 _ I1 q1) fun u s2 hY9=>?_
 obtain ⟨y,H2,I2,r2,q2⟩:=hY9
 refine thn (ho pins s2 σ H2 x y v u _ I2 r1 r2 q2) fun c s3 hY10=>?_
 obtain ⟨z,H3,I3,r3,k,e,q3⟩:=hY10
 subst e
 cases r3
 exact wpAny_truthy_bool ⟨H3,I3,q3⟩
def nI (r r':R2) (ta tb tc:TE):TE:=fun σ H Q=>ta σ H fun x H1=>tb σ H1 fun y H2=>r x y H2 fun z H3=>∃ k,z=.bl k /\
 (if k=true then tc σ H3 fun w' H4=>r' y w' H4 Q else Q (.bl false) H3)
theorem eU {op op':CmpOp} {r r':R2} (ho:OpR X (compareOp op) r) (ho':OpR X (compareOp op') r') (ha:PE X a ta) (hb:PE X b tb) (hc:PE X c tc)
   (hm:lastMarks [op,op'] [b,c]=false:=by with_unfolding_all rfl):PE X (.Compare a [op,op'] [b,c] pos) (nI r r' ta tb tc):=by
 intro pins s σ H Q I h
 refine Compare_chain (thn (ha pins s σ H _ I h) fun v s1 hY11=>?_) hm
 obtain ⟨x,H1,I1,r1,q1⟩:=hY11
 refine chain_link (thn (hb pins s1 σ H1 _ I1 q1) fun u s2 hY12=>?_)
 obtain ⟨y,H2,I2,r2,q2⟩:=hY12
 refine thn (ho pins s2 σ H2 x y v u _ I2 r1 r2 q2) fun d s3 hY13=>?_
 obtain ⟨z,H3,I3,r3,k,e,q3⟩:=hY13
 subst e
 cases r3
 refine wpAny_truthy_bool ?_
 cases k with
 | false=>exact ite_ff ⟨.bl false,H3,I3,rfl,q3⟩
 | true=>exact ite_tt (chain_last (thn (hc pins s3 σ H3 _ I3 q3) fun w' s4 hZ2=>by obtain ⟨z',H4,I4,r4,q4⟩:=hZ2; exact ho' pins s4 σ H4 y z' u w' Q I4 r2 r4 q4))
def qF (K:PySem.W.Frag) (x:V) (H:Hp) (k:Bool):Prop :=
 match x with
 | .non=>k=false
 | .bl b=>k=b
 | .int i=>k=(i != 0)
 | .str y=>y.length<=sizeLine/\k=((y.length:Int) != 0)
 | .byt y=>y.size<=sizeLine/\k=((y.size:Int) != 0)
 | .ref p=>(∃ xs,SqL K H p xs/\k = !xs.isEmpty)\/(∃ xs,SqT K H p xs/\k = !xs.isEmpty)\/∃ kvs,H p=some (.dK kvs)/\k = !kvs.isEmpty
 | _=>False
theorem Wo {κ:Type} {kvs:List (κ×V)} {vs:List (κ×Value)} (r:KV kvs vs):(!vs.isEmpty) = !kvs.isEmpty:=by
 cases r <;> rfl
theorem Ml {xs:List V} {its:List Value} (r:Vals xs its):(!its.toArray.isEmpty) = !xs.isEmpty:=by
 cases r <;> simp
theorem Ca:(sizeLine:Nat) < 2 ^ 63:=by rw [sizeLine_eq]; decide
theorem nB:TruR X (fun x H Q=>∃ k,qF X.K x H k/\Q k H):=by
 intro pins s σ H x v Q I rx h
 obtain ⟨k,e,q⟩:=h
 have hl:=Ca
 have hs:sizeLine=16777216:=sizeLine_eq
 cases x with
 | non =>
   cases rx; have e':k=false:=e; subst e'; exact truthy_none ⟨H,I,q⟩
 | bl b =>
   cases rx; have e':k=b:=e; subst e'; exact wpAny_truthy_bool ⟨H,I,q⟩
 | int i =>
   obtain ⟨t,rfl⟩:=rx; have e':k=(i != 0):=e; subst e'; exact PySem.P.truthy_int ⟨H,I,q⟩
 | str y =>
   obtain ⟨t,rfl⟩:=rx; obtain ⟨hy,e'⟩:y.length<=sizeLine/\k=((y.length:Int) != 0):=e; subst e'; exact PySem.P.truthy_str (by lia) ⟨H,I.tok _,q⟩
 | byt y =>
   obtain ⟨t,rfl⟩:=rx; obtain ⟨hy,e'⟩:y.size<=sizeLine/\k=((y.size:Int) != 0):=e; subst e'; exact PySem.W.truthy_bytes (by lia) ⟨H,I.tok _,q⟩
 | ref p =>
   cases rx; have e':(∃ xs,SqL X.K H p xs/\k = !xs.isEmpty)\/(∃ xs,SqT X.K H p xs/\k = !xs.isEmpty)\/∃ kvs,H p=some (.dK kvs)/\k = !kvs.isEmpty:=e; rcases e' with ⟨xs,hx,e'⟩ | ⟨xs,hx,e'⟩ | ⟨kvs,hx,e'⟩
   . subst e'
     obtain ⟨its,r,pl,hz⟩:=I.list hx; have hlen:=r.length; exact wpAny_truthy_list pl.isList (by simp only [List.size_toArray]; lia) ⟨H,I.tok _,by rw [Ml r]; exact q⟩
   . subst e'
     obtain ⟨its,r,pl,hz⟩:=I.tuple hx; have hlen:=r.length; exact truthy_tuple pl (by simp only [List.size_toArray]; lia) ⟨H,I.tok _,by rw [Ml r]; exact q⟩
   . subst e'
     obtain ⟨hz,hS,vs,r,m⟩:kvs.length<=sizeLine/\(p==sysModules)=false/\∃ vs,KV kvs vs/\s.heap.DictOf (Rn X.prog X.w) p vs:=I.hok p _ hx; have hlen:kvs.length=vs.length:=Paired.length r; exact wpAny_truthy_dict hS m (by lia) ⟨H,I.tok _,by rw [Wo r]; exact q⟩
 | _=>exact (show False from e).elim
theorem Tr (ha:PE X a ta) (he:∀ whole,isTrue a X.env whole=(do let v <- whole; standAt a.pos; holding [v] (truthy v))) :
   PT X a (fun σ H Q=>ta σ H fun x H'=>∃ k,qF X.K x H' k/\Q k H'):=by
 intro pins s σ H Q I h
 exact isTrue_plain (thn (ha pins s σ H _ I h) fun v s1 hZ2=>by obtain ⟨x,H1,I1,r1,q1⟩:=hZ2; exact nB pins s1 σ H1 x v Q I1 r1 q1) (he _)
theorem Oq {x:V} {us:List Value} (r:Vals [x] us):∃ u,us=[u]/\RelV x u:=by
 cases r with
 | cons r1 r2=>cases r2; exact ⟨_,rfl,r1⟩
theorem vals2 {x y:V} {us:List Value} (r:Vals [x,y] us):∃ u w',us=[u,w']/\RelV x u/\RelV y w':=by
 cases r with
 | cons r1 r2 =>
   cases r2 with
   | cons r3 r4=>cases r4; exact ⟨_,_,rfl,r1,r3⟩
theorem Py:Ac X (.type "int") (fun xs H Q=>(∃ i,xs=[.int i]/\Q (.int i) H)\/∃ k,xs=[.bl k]/\Q (.int (if k then 1 else 0)) H):=by
 intro pins s σ H xs us Q I r h
 rcases h with ⟨i,rfl,q⟩ | ⟨k,rfl,q⟩
 . obtain ⟨u,rfl,t,rfl⟩:=Oq r
   exact call_int_int ⟨.int i,H,I,⟨_,rfl⟩,q⟩
 . obtain ⟨u,rfl,r1⟩:=Oq r
   cases r1; exact call_int_bool ⟨.int (if k then 1 else 0),H,I.tok _,⟨_,rfl⟩,q⟩
def LenV (K:PySem.W.Frag) (x:V) (H:Hp) (n:Nat):Prop :=
 match x with
 | .str y=>y.length<=sizeLine/\n=y.length
 | .byt y=>y.size<=sizeLine/\n=y.size
 | .ref p=>(∃ xs,SqL K H p xs/\n=xs.length)\/∃ xs,SqT K H p xs/\n=xs.length
 | _=>False
theorem Mw:Ac X (.builtin "len") (fun xs H Q=>∃ x n,xs=[x]/\LenV X.K x H n/\Q (.int n) H):=by
 intro pins s σ H xs us Q I r h
 obtain ⟨x,n,rfl,e,q⟩:=h
 obtain ⟨u,rfl,rx⟩:=Oq r
 have hl:=Ca
 have hs:sizeLine=16777216:=sizeLine_eq
 cases x with
 | str y =>
   obtain ⟨t,rfl⟩:=rx; obtain ⟨hy,e'⟩:y.length<=sizeLine/\n=y.length:=e; subst e'; exact len_str (by lia) ⟨.int _,H,I.tok _,⟨_,rfl⟩,q⟩
 | byt y =>
   obtain ⟨t,rfl⟩:=rx; obtain ⟨hy,e'⟩:y.size<=sizeLine/\n=y.size:=e; subst e'; exact PySem.W.len_bytes (by lia) ⟨.int _,H,I.tok _,⟨_,rfl⟩,q⟩
 | ref p =>
   cases rx; have e':(∃ xs,SqL X.K H p xs/\n=xs.length)\/∃ xs,SqT X.K H p xs/\n=xs.length:=e; rcases e' with ⟨xs,hx,e'⟩ | ⟨xs,hx,e'⟩
   . subst e'
     obtain ⟨its,r',pl,hz⟩:=I.list hx; have hlen:=r'.length; exact Calls.call_len_list pl.isList (by simp only [List.size_toArray]; lia) ⟨.int xs.length,H,I.tok _,⟨_,by simp only [List.size_toArray]; rw [hlen]⟩,q⟩
   . subst e'
     obtain ⟨its,r',pl,hz⟩:=I.tuple hx; have hlen:=r'.length; exact len_tuple pl (by simp only [List.size_toArray]; lia) ⟨.int xs.length,H,I.tok _,⟨_,by simp only [List.size_toArray]; rw [hlen]⟩,q⟩
 | _=>exact (show False from e).elim
end
end L2
namespace L2
open PySem PySem.Spec PyProof.Rows
structure ObjM (h:Heap) (x dx C:Addr) (mA:Str->Option Value):Prop where
 obj:h.get? x=some (PySem.W.instObj C dx)
 ns:h.Ns1 dx mA
 ne:dx≠x
theorem aV {h:Heap} {dx:Addr} {mA:Str->Option Value} (n:h.Ns1 dx mA):∃ od,h.get? dx=some od/\∀ name,PySem.W.lookIn name od=some (mA name):=by
 obtain ⟨o,es,ep,ho,hd,hk,_,hm⟩:=n
 refine ⟨o,ho,fun name=>?_⟩
 have e:=hm name
 unfold nsFind findBy at e
 rw [<- Array.find?_toList] at e
 unfold PySem.W.lookIn
 rw [hd]
 dsimp only
 split
 . rename_i y q
   rw [q] at e; exact congrArg some e
 . rename_i q
   rw [q] at e; have a:es.toList.any (·.refKey)=false:=by
     rw [List.any_eq_false]; intro y hy; obtain ⟨z,t,hkey⟩:=hk y (Array.mem_toList_iff.mp hy); simp [DictEntry.refKey,hkey]
   have a':¬ es.toList.any (·.refKey)=true:=by rw [a]; exact Bool.false_ne_true
   rw [if_neg a']; exact congrArg some e
theorem ObjM.look {h:Heap} {x dx C:Addr} {mA:Str->Option Value} (I:ObjM h x dx C mA):∃ od,PySem.W.InstAt h x (PySem.W.instObj C dx) C (some od)/\∀ name,PySem.W.lookIn name od=some (mA name) :=
 let ⟨od,ho,hl⟩:=aV I.ns
 ⟨od,⟨I.obj,rfl,rfl,ho⟩,hl⟩
section
variable {P:Program} {w:World} {H:Hp} {h:Heap} {a C dx:Addr} {fs:List (Str×V)}
theorem kM (hok:HOk P w H h) (e:H a=some (.ins C dx fs)):∃ mA,ObjM h a dx C mA/\(∀ f,qI (fs.lookup f) (mA f))/\PySem.Within mA (fs.map (·.1))/\fs.length<=1000/\H dx=some (.own a):=by
 obtain ⟨d,z,ne,ob,mA,n,r,q⟩:=(show ObjOk P w H h a (.ins C dx fs) from hok a _ e)
 exact ⟨mA,⟨ob,n,ne⟩,r,q,z,d⟩
end
structure Cls (K:PySem.W.Frag) (C:Addr):Prop where
 pg:PySem.W.plainGet K C Str.empty=true
 hd:PySem.W.hasDictIn K C=true
 po:PySem.W.plainOver K C=true
 sa:PySem.W.findIn K (.ref C) "__setattr__" = some (some (.builtin "object.__setattr__"))
theorem Cls.get {K:PySem.W.Frag} {C:Addr} (c:Cls K C) (f:Str):PySem.W.plainGet K C f=true:=c.pg
section
variable {X:Cx} {pins:List (Addr×Obj)} {σ:St} {H:Hp} {s:Shared} {A:Around} {E:Value->Shared->Prop} {Q:Value->Shared->Prop} {c:Value} {b:Bool}
inductive TyOf (K:PySem.W.Frag) (H:Hp):V->Value->Prop where
 | non:TyOf K H .non (.type "NoneType")
 | bl (x:Bool):TyOf K H (.bl x) (.type "bool")
 | int (i:Int):TyOf K H (.int i) (.type "int")
 | str (x:Str):TyOf K H (.str x) (.type "str")
 | flt (x:UInt64):TyOf K H (.flt x) (.type "float")
 | lst {a:Addr} {xs:List V} (e:H a=some (.lst xs)):TyOf K H (.ref a) (.type "list")
 | frz {a:Addr} {o:Obj} {xs:List V} (e:H a=some (.frz o (.lst xs))):TyOf K H (.ref a) (.type "list")
 | tup {a:Addr} {xs:List V} (e:H a=some (.tup xs)):TyOf K H (.ref a) (.type "tuple")
 | dK {a:Addr} {kvs:List (Key×V)} (e:H a=some (.dK kvs)):TyOf K H (.ref a) (.type "dict")
 | dT {a:Addr} {kvs:List (List Key×V)} (e:H a=some (.dT kvs)):TyOf K H (.ref a) (.type "dict")
 | ins {a C dx : Addr} {fs : List (Str × V)} (e : H a = some (.ins C dx fs)) (cl : Cls K C) (ha : PySem.W.findIn K (.ref C) "__class__" = some (some (.builtin "object.__class__")))
     (hn:PySem.W.specialIn K (.builtin "object.__class__") "__get__" = some (some (.builtin "getset_descriptor.__get__"))) (htk:PySem.W.takesIn K (.builtin "object.__class__")=some true)
     (hm:PySem.W.mroIn K C (.type "object")=some true):TyOf K H (.ref a) (.ref C)
theorem bB {x:V} {u t:Value} (I:Inv X pins σ H s) (rx:RelV x u) (ty:TyOf X.K H x t) (e:PySem.W.kitOne X.K t c=some b) (h:∀ tk,Q (.bool b) { s with toks:=tk }) :
   wpAny (model X.prog X.w) A (call (.builtin "isinstance") [u,c]) Q E s:=by
 cases ty with
 | non=>cases (show u=Value.none from rx); exact PySem.W.kia_one PySem.W.kitx_none I.kIn True.intro e (fun z=>nomatch z) h
 | bl y=>cases (show u=Value.bool y from rx); exact PySem.W.kia_one PySem.W.kitx_bool I.kIn True.intro e (fun z=>nomatch z) h
 | int i=>obtain ⟨t,q⟩:=(show ∃ t,u=Value.int i t from rx); cases q; exact PySem.W.kia_one PySem.W.kitx_int I.kIn True.intro e (fun z=>nomatch z) h
 | str y=>obtain ⟨t,q⟩:=(show ∃ t,u=Value.str y t from rx); cases q; exact PySem.W.kia_one PySem.W.kitx_str I.kIn True.intro e (fun z=>nomatch z) h
 | flt y=>obtain ⟨t,q⟩:=(show ∃ t,u=Value.float y t from rx); cases q; exact PySem.W.kia_one PySem.W.kitx_float I.kIn True.intro e (fun z=>nomatch z) h
 | @lst a xs ea =>
   cases (show u=Value.ref a from rx)
   obtain ⟨_,_,n,_,h1⟩:=(show ObjOk X.prog X.w H s.heap a (.lst xs) from I.hok a _ ea)
   exact PySem.W.kia_one PySem.W.kitx_list I.kIn ⟨_,h1,rfl⟩ e (fun z=>nomatch z) h
 | @frz a ob xs ea =>
   cases (show u=Value.ref a from rx)
   obtain ⟨_,_,_,n,_,h1⟩:=(show ObjOk X.prog X.w H s.heap a (.frz ob (.lst xs)) from I.hok a _ ea)
   exact PySem.W.kia_one PySem.W.kitx_list I.kIn ⟨_,h1,rfl⟩ e (fun z=>nomatch z) h
 | @tup a xs ea =>
   cases (show u=Value.ref a from rx)
   obtain ⟨_,_,_,p⟩:=(show ObjOk X.prog X.w H s.heap a (.tup xs) from I.hok a _ ea)
   obtain ⟨o,h1,h2,_⟩:=p; exact PySem.W.kia_one PySem.W.kitx_tuple I.kIn ⟨o,h1,h2⟩ e (fun z=>nomatch z) h
 | @dK a kvs ea =>
   cases (show u=Value.ref a from rx)
   obtain ⟨_,_,vs,_,p⟩:=(show ObjOk X.prog X.w H s.heap a (.dK kvs) from I.hok a _ ea)
   obtain ⟨o,es,ep,h1,h2,_⟩:=p; exact PySem.W.kia_one PySem.W.kitx_dict I.kIn ⟨o,h1,h2.1⟩ e (fun z=>nomatch z) h
 | @dT a kvs ea =>
   cases (show u=Value.ref a from rx)
   obtain ⟨_,_,xs,_,o,es,ep,h1,h2,_⟩:=(show ObjOk X.prog X.w H s.heap a (.dT kvs) from I.hok a _ ea)
   exact PySem.W.kia_one PySem.W.kitx_dict I.kIn ⟨o,h1,h2.1⟩ e (fun z=>nomatch z) h
 | @ins a C dx fs ea cl ha hn htk hm =>
   cases (show u=Value.ref a from rx)
   obtain ⟨mA,O,_⟩:=kM I.hok ea; obtain ⟨od,J,_⟩:=O.look; exact PySem.W.kia_one (PySem.W.kitx_own (cl.get _) cl.hd ha hn htk hm) I.kIn J e (fun z=>nomatch z) h
end
end L2
namespace L2
open PySem PySem.Spec PyProof.Rows
structure Room (k:Nat) (A:Around):Prop where
 hd:A.handled=none
 dp:A.depth+3*k+5 < recursionLimit
 un:A.units+16*k+200 < cLine
 gd:A.guards=some []
theorem Room.mono {j k:Nat} {A:Around} (r:Room k A) (h:j<=k):Room j A:=⟨r.hd,by have:=r.dp; lia,by have:=r.un; lia,r.gd⟩
theorem Room.deeper {k:Nat} {A:Around} (r:Room (k+1) A) (env:Env):Room k (A.deeper env) :=
 ⟨r.hd,by have:=r.dp; show A.depth+1+3*k+5 < _; lia,by have:=r.un; show A.units+3+16*k+200 < _; lia,r.gd⟩
theorem Room.depth {k:Nat} {A:Around} (r:Room k A):A.depth < recursionLimit:=by have:=r.dp; lia
theorem Room.units {k:Nat} {A:Around} (r:Room k A):A.units+64 < cLine:=by have:=r.un; lia
def iP:TA:=fun _ H Q=>Q [] H
def Ko (ta:TE) (tr:TA):TA:=fun σ H Q=>ta σ H fun x H1=>tr σ H1 fun xs H2=>Q (x::xs) H2
section
variable {X:Cx} {e:Expr} {es:List Expr} {te:TE} {t:TA} {pos:Pos}
theorem L9:PA X [] iP:=fun _ _ _ _ H Q I h=>Calls.spliced_nil ⟨[],H,I,.nil,h⟩
theorem E1 (ha:PE X e te) (hr:PA X es t) (hs:starEach (e::es) X.env=(false,eval e X.env)::starEach es X.env:=by rfl):PA X (e::es) (Ko te t):=by
 intro pos pins s σ H Q I h
 rw [hs]
 show wpAny _ _ (spliced ((false,eval e X.env)::backTo pos (starEach es X.env))) _ _ s
 refine Calls.spliced_cons (thn (ha pins s σ H _ I h) fun u s1 hZ2=>?_)
 obtain ⟨x,H1,I1,r1,q1⟩:=hZ2
 exact thn (hr pos pins s1 σ H1 _ I1 q1) fun us s2 hZ2=>by obtain ⟨xs,H2,I2,r2,q2⟩:=hZ2; exact ⟨x::xs,H2,I2,.cons r1 r2,q2⟩
def tTup (t:TA):TE:=fun σ H Q=>t σ H fun xs H1=>xs.length<=sizeLine/\∀ p,H1 p=none->Q (.ref p) (upd H1 p (.tup xs))
def tLst (t:TA):TE:=fun σ H Q=>t σ H fun xs H1=>xs.length<=sizeLine/\∀ p,H1 p=none->Q (.ref p) (upd H1 p (.lst xs))
theorem Wd {x1} (h:PA X es t):PE X (.Tuple es x1 pos) (tTup t):=by
 intro pins s σ H Q I hq
 refine wpAny_Tuple_spliced (thn (h pos pins s σ H _ I hq) fun us s1 hY22=>?_)
 obtain ⟨xs,H1,I1,r,z,q⟩:=hY22
 refine ⟨by rw [<- r.length]; exact z,?_⟩
 have hf:H1 s1.heap.objs.size=none:=I1.hok.fresh (Nat.le_refl _)
 refine ⟨.ref s1.heap.objs.size,upd H1 s1.heap.objs.size (.tup xs),I1.laid (t':=s1.toks) (fun b u e=>Heap.get?_push_of_some _ e) (Nat.le_refl _) ?_,rfl,q _ hf⟩
 exact ⟨z,us,r,⟨_,Heap.get?_push_size _ rfl,rfl,_,rfl⟩⟩
theorem Rj (h:PA X es t):PE X (.List es pos) (tLst t):=by
 intro pins s σ H Q I hq
 refine wpAny_List_spliced (thn (h pos pins s σ H _ I hq) fun us s1 hY23=>?_)
 obtain ⟨xs,H1,I1,r,z,q⟩:=hY23
 refine ⟨by rw [<- r.length]; exact z,?_⟩
 have hf:H1 s1.heap.objs.size=none:=I1.hok.fresh (Nat.le_refl _)
 refine ⟨.ref s1.heap.objs.size,upd H1 s1.heap.objs.size (.lst xs),I1.laid (t':=s1.toks) (fun b u e=>Heap.get?_push_of_some _ e) (Nat.le_refl _) ?_,rfl,q _ hf⟩
 exact ⟨z,us,0,r,Heap.get?_push_size _ rfl⟩
end
abbrev Sp:=List V->Hp->VK->XK->Prop
abbrev CXT:=List Env->Hp->Shared->XK->Value->Shared->Prop
structure Env0 (P:Program) (w:World) (K:PySem.W.Frag) (mg:Str->Option Value) (base:Heap) (A:Around) (outer:List Env) (s:Shared) (H:Hp):Prop where
 frames:A.frames=some outer
 mod:Mod K mg base
 bs:∀ b o,base.get? b=some o->s.heap.get? b=some o/\H b=none
 bsz:base.objs.size<=s.heap.objs.size
 funs:s.heap.FunFrames base outer
 frf:∀ b∈frs outer,H b=none
 hok:HOk P w H s.heap
 bare:AllBare s.gens
def CE (outer:List Env) (P:Program) (w:World) (H:Hp) (s:Shared) (Q:VK) (u:Value) (s':Shared):Prop :=
 ∃ v H',s'.os=s.os/\AllBare s'.gens/\Un (frs outer) [] H H' s.heap s'.heap/\HOk P w H' s'.heap/\RelV v u/\Q v H'
def CR (CX:CXT) (outer:List Env) (P:Program) (w:World) (H:Hp) (s:Shared) (Q:VK) (E:XK) (r:Result) (s':Shared):Prop :=
 match r with
 | .ok (.ret u)=>CE outer P w H s Q u s'
 | .ok _=>False
 | .error e=>CX outer H s E e s'
structure FnOk (P:Program) (w:World) (K:PySem.W.Frag) (mg:Str->Option Value) (base:Heap) (CX:CXT) (k:Nat) (f:Addr) (fd:FuncData) (ps:List Str) (sp:Sp):Prop where
 len:∀ vs H Q E,sp vs H Q E->vs.length=ps.length
 run:∀ (A:Around) (outer:List Env) (s:Shared) (H:Hp) (args:Args) (us:List Value) (vs:List V) (Q:VK) (E:XK),Room k A->Env0 P w K mg base A outer s H->BindsTo s fd args (ps.zip us)->Vals vs us->sp vs H Q E ->
   codeAny (model P w) A (.call (.ref f) args) (CR CX outer P w H s Q E) s
section
variable {X:Cx} {pins:List (Addr×Obj)} {σ:St} {H:Hp} {s s':Shared}
theorem Inv.env0 (I:Inv X pins σ H s):Env0 X.prog X.w X.K X.mg X.base X.A X.stack s H :=
 ⟨I.ok.frames,I.ok.mod,I.bs,Nat.le_trans I.ok.bsz I.sz,I.stack,I.stkFree,I.hok,I.bare⟩
theorem Inv.after {Q:VK} {u:Value} (I:Inv X pins σ H s) (h:CE X.stack X.prog X.w H s Q u s'):EP X pins σ Q u s':=by
 obtain ⟨v,H',os,bare,un,hok,r,q⟩:=h
 obtain ⟨hh,g,d,t,os'⟩:=s'
 obtain rfl:os'=s.os:=os
 exact ⟨v,H',I.call (h':=hh) (g':=g) (d':=d) (t':=t) (ch:=[]) un hok bare (fun b z=>absurd z (by simp)),r,q⟩
end
def tCall (sp:Sp) (dvs:List V) (E:XK) (t:TA):TE:=fun σ H Q=>t σ H fun vs H1=>sp (vs++dvs) H1 Q E
def Binds (K:PySem.W.Frag) (fd:FuncData) (ps:List Str) (ds:List Value):Prop :=
 ∀ (s:Shared) (us:List Value),K.In s.heap->(us++ds).length=ps.length->BindsTo s fd ⟨us,[]⟩ (ps.zip (us++ds))
theorem Binds.all {K:PySem.W.Frag} {fd:FuncData} {ps:List Str} (h:∀ us:List Value,us.length=ps.length->bindArgs fd ⟨us,[]⟩=pure (ps.zip us)):Binds K fd ps []:=fun s us _ hl=>by
 rw [List.append_nil] at hl ⊢
 exact .of_eq (h us hl)
def Sf (CX:CXT) (X:Cx) (E:XK):Prop:=∀ (pins:List (Addr×Obj)) (σ:St) (H:Hp) (s:Shared) (e:Value) (s':Shared),Inv X pins σ H s->CX X.stack H s E e s'->X.xe e s'
section
variable {X:Cx} {CX:CXT} {k:Nat} {f:Addr} {fd:FuncData} {ps:List Str} {sp:Sp} {dvs:List V} {ds:List Value} {E:XK} {x:Str} {p pos:Pos} {e:Expr} {es:List Expr} {t:TA}
theorem nU {pins:List (Addr×Obj)} {σ:St} {H:Hp} {s:Shared} {Q:VK} {us:List Value} {vs:List V} (F:FnOk X.prog X.w X.K X.mg X.base CX k f fd ps sp) (hr:Room k X.A) (hb:Binds X.K fd ps ds) (hd:Vals dvs ds) (hx:Sf CX X E)
   (I:Inv X pins σ H s) (r:Vals vs us) (h:sp (vs++dvs) H Q E):wpAny (model X.prog X.w) X.A (call (.ref f) us) (EP X pins σ Q) X.xe s:=by
 have r2:Vals (vs++dvs) (us++ds):=r.append hd
 have hl:(us++ds).length=ps.length:=by rw [<- r2.length]; exact F.len _ _ _ _ h
 refine wpAny_call (codeAny_mono (F.run X.A X.stack s H ⟨us,[]⟩ (us++ds) (vs++dvs) Q E hr I.env0 (hb s us I.kIn hl) r2 h) fun r s' hq=>?_)
 cases r with
 | error e=>exact hx pins σ H s e s' I hq
 | ok fl =>
   cases fl with
   | ret u=>exact I.after hq
   | next=>exact False.elim hq
   | brk=>exact False.elim hq
   | cont=>exact False.elim hq
theorem Bx (F:FnOk X.prog X.w X.K X.mg X.base CX k f fd ps sp) (hr:Room k X.A) (hg:Gl X x) (hm:X.mg x=some (.ref f)) (hk:PySem.W.keepIn X.K (.ref f)=true) (hb:Binds X.K fd ps ds) (hd:Vals dvs ds) (hx:Sf CX X E)
   (ha:PA X (e::es) t) (hdb:(x==("__debug__" : Str))=false:=by decide) (he:starEach (e::es) X.env=(false,eval e X.env)::starEach es X.env:=by rfl) (hpl:(backTo pos (starEach es X.env)).any (·.1)=false:=by rfl) :
   PE X (.Call (.Name x p) (e::es) [] pos) (tCall sp dvs E t):=by
 intro pins s σ H Q I h
 refine wpAny_Call_Name_kw (Go I hg hm ?_ hdb)
 refine PySem.W.callWith_K (h₀:=X.base) I.ok.mod.kin hk (thn (ha pos pins s σ H _ I h) fun us s1 hY24=>?_) he hpl
 obtain ⟨vs,H1,I1,r,q⟩:=hY24
 refine ⟨I1.kIn,?_⟩
 exact nU F hr hb hd hx I1 r q
end
structure FnScope (N P:List Str) (sc:Scope):Prop where
 kind:sc.kind=.function
 co:sc.isCoroutine=false
 gen:sc.isGenerator=false
 nd:N.Nodup
 pre:N.take P.length=P
 par:∀ x∈P,sc.names.lookup x=some .local\/sc.names.lookup x=some .cell
 nofree:∀ y∈sc.names,y.2≠.free
theorem Qd {kindOf:Str->Option NameKind} {x:Str}:∀ {binds:List (Str×Value)} {m:Str->Option Value},(∀ v,(x,v)∉binds)->bindL kindOf binds m x=m x
 | [],_,_=>rfl
 | (n,v)::r,m,h=>by
   unfold bindL; rw [Qd fun w hw=>h w (List.mem_cons_of_mem _ hw)]
   split
   . have:x≠n:=by rintro rfl; exact h v List.mem_cons_self
     simp [this]
   . rfl
theorem Qf {kindOf:Str->Option NameKind} {x:Str}:∀ {binds:List (Str×Value)} {m:Str->Option Value},(∀ v,(x,v)∉binds)->bindC kindOf binds m x=m x
 | [],_,_=>rfl
 | (n,v)::r,m,h=>by
   unfold bindC; rw [Qf fun w hw=>h w (List.mem_cons_of_mem _ hw)]
   split
   . rfl
   . have:x≠n:=by rintro rfl; exact h v List.mem_cons_self
     simp [this]
theorem Qe {kindOf:Str->Option NameKind} {x:Str} {v:Value}:∀ {P:List Str} {vs:List Value} {i:Nat} {m:Str->Option Value},P.Nodup->P[i]? = some x->vs[i]? = some v->kindOf x=some .local ->
   bindL kindOf (P.zip vs) m x=some v
 | [],_,_,_,_,h,_,_=>by simp at h
 | _::_,[],_,_,_,_,h,_=>by simp at h
 | p::P,w::vs,0,m,nd,h1,h2,hk=>by
   simp at h1 h2; subst h1; subst h2
   show bindL kindOf ((p,w)::P.zip vs) m p=_
   unfold bindL; rw [Qd fun v hv=>(List.nodup_cons.mp nd).1 (List.of_mem_zip hv).1,if_pos hk]
   simp
 | p::P,w::vs,i+1,m,nd,h1,h2,hk=>by
   show bindL kindOf ((p,w)::P.zip vs) m x=_
   unfold bindL; exact Qe (i:=i) (List.nodup_cons.mp nd).2 (by simpa using h1) (by simpa using h2) hk
theorem Qg {kindOf:Str->Option NameKind} {x:Str} {v:Value}:∀ {P:List Str} {vs:List Value} {i:Nat} {m:Str->Option Value},P.Nodup->P[i]? = some x->vs[i]? = some v->kindOf x≠some .local ->
   bindC kindOf (P.zip vs) m x=some v
 | [],_,_,_,_,h,_,_=>by simp at h
 | _::_,[],_,_,_,_,h,_=>by simp at h
 | p::P,w::vs,0,m,nd,h1,h2,hk=>by
   simp at h1 h2; subst h1; subst h2
   show bindC kindOf ((p,w)::P.zip vs) m p=_
   unfold bindC; rw [Qf fun v hv=>(List.nodup_cons.mp nd).1 (List.of_mem_zip hv).1,if_neg hk]
   simp
 | p::P,w::vs,i+1,m,nd,h1,h2,hk=>by
   show bindC kindOf ((p,w)::P.zip vs) m x=_
   unfold bindC; exact Qg (i:=i) (List.nodup_cons.mp nd).2 (by simpa using h1) (by simpa using h2) hk
noncomputable def V2 (N:List Str) (vs:List V):St:=vs.map some++List.replicate (N.length - vs.length) none
noncomputable def Rz (CX:CXT) (P:Program) (w:World) (K:PySem.W.Frag) (mg:Str->Option Value) (base:Heap) (N:List Str) (qual:Str) (scope:Scope) (f:Addr) (cd:Value) (A:Around) (outer:List Env) (s:Shared) (H:Hp) (E:XK):Cx where
 prog:=P
 w:=w
 K:=K
 mg:=mg
 base:=base
 A:=A.deeper (envOfC qual scope s.heap.objs.size f cd)
 N:=N
 s₀:=s
 H₀:=H
 env:=envOfC qual scope s.heap.objs.size f cd
 outer:=outer
 stack:=envOfC qual scope s.heap.objs.size f cd::outer
 ex:=[]
 calm:=true
 fn:=fun _=>true
 pn:=[]
 xe:=fun e s'=>wpAny (model P w) (A.deeper (envOfC qual scope s.heap.objs.size f cd)) (leaving (envOfC qual scope s.heap.objs.size f cd) e) (fun _ s''=>CX outer H s E e s'') (fun e' s''=>CX outer H s E e' s'') s'
theorem Uv {sc:Scope} {n:Nat} {x:Str} (h:sc.names.lookup x=some .cell):∃ c,(cellsFrom n sc.names []).lookup x=some c:=by
 have q:=PySem.W.cellsFrom_some sc.names n [] (.inl h)
 exact Option.isSome_iff_exists.mp q
theorem Pk {CX:CXT} {P:Program} {w:World} {K:PySem.W.Frag} {mg:Str->Option Value} {base:Heap} {N ps:List Str} {qual:Str} {scope:Scope} {f:Addr} {cd:Value} {A:Around} {outer:List Env} {s s1:Shared} {H:Hp} {E:XK} {us:List Value} {vs:List V}
   (S:FnScope N ps scope) (hd:A.handled=none) (e0:Env0 P w K mg base A outer s H) (hl:vs.length=ps.length) (r:Vals vs us)
   (x:InCallC s s.heap.objs.size (bindL (envOfC qual scope s.heap.objs.size f cd).kindOf (ps.zip us) fun _=>none) (cellsFrom (s.heap.objs.size+1) scope.names []) (bindC (envOfC qual scope s.heap.objs.size f cd).kindOf (ps.zip us) fun _=>none) s1) :
   Inv (Rz CX P w K mg base N qual scope f cd A outer s H E) [] (V2 N vs) H s1:=by
 have hpl:ps.length<=N.length:=by have:=congrArg List.length S.pre; rw [List.length_take] at this; lia
 obtain ⟨h1,tk,rfl,hk⟩:=x.done
 have noA:∀ b:Addr,b∉(Rz CX P w K mg base N qual scope f cd A outer s H E).ex:=fun b z=>absurd (show b∈([]:List Addr) from z) (by simp)
 refine ⟨⟨e0.mod,S.kind,rfl,rfl,Nat.le_refl _,fun y z c h1 h2=>?_,fun y hy=>?_,fun y c _ h=>?_,fun _=>hd,Around.frames_deeper e0.frames,.inr ⟨rfl,rfl⟩,fun b z=>absurd z (noA b),e0.bs,e0.bsz,fun b _ _=>noA b,fun b z=>absurd z (noA b),e0.funs,e0.frf⟩,
   rfl,e0.bare,Un.kept hk,⟨_,x.toInCall.ns,fun i y v h1 h2 h3=>?_⟩,fun y c h=>⟨_,x.cell y c h⟩,e0.hok.fresh (Nat.le_refl _),fun y c h=>?_,fun p hp=>absurd (show p∈([]:List (Addr×Obj)) from hp) (by simp),e0.hok.kept hk,?_⟩
 . exact name_of_addr x.apart (PySem.mem_of_lookup h1) (PySem.mem_of_lookup h2)
 . have hy:scope.names.lookup y=some .cell\/scope.names.lookup y=some .free:=hy
   rcases hy with hy | hy
   . exact Uv hy
   . exact absurd rfl (S.nofree _ (PySem.mem_of_lookup hy))
 . exact Nat.le_of_lt (x.above y c (PySem.mem_of_lookup h))
 . have hi : i < vs.length := by
     unfold V2 at h2
     by_cases hi:i < vs.length
     . exact hi
     . rw [List.getElem?_append_right (by simpa using hi)] at h2
       rw [List.getElem?_replicate] at h2
       split at h2 <;> cases h2
   have ha:vs[i]? = some v:=by
     unfold V2 at h2; rw [List.getElem?_append_left (by simpa using hi),List.getElem?_map] at h2
     cases e:vs[i]? with
     | none=>rw [e] at h2; cases h2
     | some a=>rw [e] at h2; cases h2; rfl
   obtain ⟨u,hu,rv⟩:=r.get ha; have hp:ps[i]? = some y:=by
     rw [<- S.pre,List.getElem?_take_of_lt (by lia)]; exact h1
   have ndP:ps.Nodup:=by rw [<- S.pre]; exact S.nd.sublist (List.take_sublist _ _)
   refine ⟨u,rv,?_⟩; rcases S.par y (List.mem_of_getElem? hp) with k | k
   . exact .inl ⟨k,Qe ndP hp hu k⟩
   . obtain ⟨c,e⟩:=Uv (n:=s.heap.objs.size+1) k
     refine .inr ⟨.inl k,c,e,?_⟩; have q:=x.cell y c e; rw [Qg ndP hp hu (by show scope.names.lookup y≠_; rw [k]; decide)] at q
     exact q
 . exact e0.hok.fresh (Nat.le_of_lt (x.above y c (PySem.mem_of_lookup h)))
 . unfold V2
   show _=N.length
   rw [List.length_append,List.length_map,List.length_replicate]
   lia
theorem mQ {CX:CXT} {P:Program} {w:World} {K:PySem.W.Frag} {mg:Str->Option Value} {base:Heap} {k:Nat} {f:Addr} {name qual:Str} {params:Arguments} {body:List Stmt} {scope:Scope} {dV kV doc pm cdv ct oc:Value} {an od:Option Addr}
   {osl:Array (Option Value)} {N ps:List Str} {sp:Sp} (lk:K.lookup f=some ⟨oc,od,.func (PySem.W.fnOf name qual params body scope dV kV doc pm an cdv ct),osl⟩) (hcd:PySem.W.codeIn K cdv qual=true) (S:FnScope N ps scope)
   (len:∀ vs H Q E,sp vs H Q E->vs.length=ps.length)
   (hbody:∀ (A:Around) (outer:List Env) (s:Shared) (H:Hp) (vs:List V) (Q:VK) (E:XK),Room k (A.deeper (envOfC qual scope s.heap.objs.size f cdv))->sp vs H Q E ->
     ∃ t,PSs (Rz CX P w K mg base N qual scope f cdv A outer s H E) body t/\t { nx:=fun _ H'=>Q .non H',rt:=Q } (V2 N vs) H) :
   FnOk P w K mg base CX (k+1) f (PySem.W.fnOf name qual params body scope dV kV doc pm an cdv ct) ps sp:=by
 refine ⟨len,fun A outer s H args us vs Q E hr e0 hb r hsp=>?_⟩
 have hl:=len _ _ _ _ hsp
 have KX:K.In s.heap:=e0.mod.kin.keeps fun b o e=>(e0.bs b o e).1
 have lim:s.heap.NoLimit:=e0.mod.nolimit.keeps fun b o e=>(e0.bs b o e).1
 have hkind:∀ y∈ps.zip us,scope.names.lookup y.1=some .local\/(scope.names.lookup y.1=some .cell/\((cellsFrom (s.heap.objs.size+1) scope.names []).lookup y.1).isSome=true):=fun hZ0 hy=>by
   obtain ⟨n,v⟩:=hZ0; rcases S.par n (List.of_mem_zip hy).1 with q | q
   . exact .inl q
   . exact .inr ⟨q,PySem.W.cellsFrom_some _ _ _ (.inl q)⟩
 refine codeAny_call_function hr.depth (KX _ _ lk) rfl S.co S.gen rfl (PySem.W.codeRec_of KX hcd) (hb _ _ _ _ ?_)
 refine wpAny_newFunctionEnv_cells S.kind hkind fun env he s1 x=>?_
 subst he
 refine ⟨lim.keeps x.toInCall.keep,codeAny_func ?_⟩
 obtain ⟨t,ht,hq⟩:=hbody A outer s H vs Q E (hr.deeper _) hsp
 have I:Inv (Rz CX P w K mg base N qual scope f cdv A outer s H E) [] (V2 N vs) H s1:=Pk S hr.hd e0 hl r x
 refine wpAny_mono (ht [] s1 (V2 N vs) H _ I hq) (fun fl s' hs=>?_) fun e s' hs=>hs
 have fin:∀ {σ':St} {H':Hp} {v:V} {u:Value},Inv (Rz CX P w K mg base N qual scope f cdv A outer s H E) [] σ' H' s'->RelV v u->Q v H'->CE outer P w H s Q u s' :=
   fun {σ' H' v u} J rv q=>⟨v,H',J.os,J.bare,J.base,J.hok,rv,q⟩
 cases fl with
 | ret u =>
   obtain ⟨v,σ',H',J,rv,q⟩:=hs; exact fin J rv q
 | next =>
   obtain ⟨σ',H',J,q⟩:=hs; exact fin (v:=V.non) (u:=Value.none) J rfl q
 | brk =>
   obtain ⟨_,_,_,q⟩:=hs; exact False.elim q
 | cont =>
   obtain ⟨_,_,_,q⟩:=hs; exact False.elim q
end L2
namespace L2
open PySem PySem.Spec PyProof.Rows
section
variable {X:Cx} {x:Str} {p pos:Pos} {e:Expr} {es:List Expr} {t:TA} {id T:String} {r:List V->Hp->VK->Prop}
def tCB (r:List V->Hp->VK->Prop) (t:TA):TE:=fun σ H Q=>t σ H fun vs H1=>r vs H1 Q
theorem Gm (hc:Ac X (.builtin id) r) (hg:Gl X x) (hm:X.mg x=none) (hv:bootBuiltins x=some (.builtin id)) (ha:PA X (e::es) t) (hn:x ≠ "__name__" := by decide) (hdb:(x==("__debug__" : Str))=false:=by decide)
   (he:starEach (e::es) X.env=(false,eval e X.env)::starEach es X.env:=by rfl) (hpl:(backTo pos (starEach es X.env)).any (·.1)=false:=by rfl):PE X (.Call (.Name x p) (e::es) [] pos) (tCB r t):=by
 intro pins s σ H Q I h
 refine wpAny_Call_Name_kw (Cb I hg hm hv ?_ hn hdb)
 exact PyProof.Rows.callWith_builtin1 (thn (ha pos pins s σ H _ I h) fun us s1 hZ2=>by obtain ⟨vs,H1,I1,r1,q1⟩:=hZ2; exact hc pins s1 σ H1 vs us Q I1 r1 q1) he hpl
theorem Pd (hc:Ac X (.type T) r) (hg:Gl X x) (hm:X.mg x=none) (hv:bootBuiltins x=some (.type T)) (ha:PA X (e::es) t) (hn:x ≠ "__name__" := by decide) (hdb:(x==("__debug__" : Str))=false:=by decide)
   (he:starEach (e::es) X.env=(false,eval e X.env)::starEach es X.env:=by rfl) (hpl:(backTo pos (starEach es X.env)).any (·.1)=false:=by rfl):PE X (.Call (.Name x p) (e::es) [] pos) (tCB r t):=by
 intro pins s σ H Q I h
 refine wpAny_Call_Name_kw (Cb I hg hm hv ?_ hn hdb)
 exact PyProof.Rows.callWith_type1 (thn (ha pos pins s σ H _ I h) fun us s1 hZ2=>by obtain ⟨vs,H1,I1,r1,q1⟩:=hZ2; exact hc pins s1 σ H1 vs us Q I1 r1 q1) he hpl
end
end L2
namespace HT
open PySem PyProof.Rows
section
variable {prog:Program} {w:World} {A:Around} {E:Value->Shared->Prop} {s:Shared}
theorem cat_tup {t b:Addr} {vs ws:List Value} {Q:Value->Shared->Prop} (ht:IsTup s.heap t vs.toArray) (hb:IsTup s.heap b ws.toArray) (hv:vs≠[])
   (h1:ws=[]->Q (.ref t) s) (h2:ws≠[]->Q (.ref s.heap.objs.size) { s with heap:=s.heap.push { cls:=.type "tuple",data:=.seq (vs++ws).toArray } })
   (hsz:vs.length+ws.length<=sizeLine):wpAny (model prog w) A (binaryOp .Add (.ref t) (.ref b)) Q E s:=by
 obtain ⟨⟨cls,dd,data,sl⟩,ho,hc,n,hd⟩:=id ht
 obtain ⟨⟨cls2,dd2,data2,sl2⟩,ho2,hc2,n2,hd2⟩:=id hb
 simp only at hc hd hc2 hd2
 subst hc hd hc2 hd2
 have e:vs.toArray++ws.toArray=(vs++ws).toArray:=by simp
 by_cases hw:ws=[]
 . exact concat_meets ⟨_, ho, rfl⟩ ⟨_, ho2, rfl⟩ noFill_tuple_add seq_tuple_add PySem.F.slot_tuple_add PySem.F.entry_tuple_add (PySem.F.args_tuple_add_2 _ _)
     (tuple_addW1 t b vs.toArray ws.toArray n n2 dd dd2 sl sl2 (by simpa using hv) (by simp [hw])) ⟨ho,ho2,h1 hw⟩
 . refine concat_meets ⟨_, ho, rfl⟩ ⟨_, ho2, rfl⟩ noFill_tuple_add seq_tuple_add PySem.F.slot_tuple_add PySem.F.entry_tuple_add (PySem.F.args_tuple_add_2 _ _)
     (tuple_addW2 t b vs.toArray ws.toArray n n2 dd dd2 sl sl2 (by simpa using hv) (by simpa using hw) (by rw [List.size_toArray,List.size_toArray]; exact hsz)) ⟨ho,ho2,?_⟩
   rw [e]; exact h2 hw
noncomputable def sIx (n d:Nat):Option Int->Nat
 | none=>d
 | some v=>if v < 0 then (v+(n:Int)).toNat else min v.toNat n
theorem sIx_none (n d:Nat):sIx n d none=d:=rfl
theorem sIx_nat (n d k:Nat):sIx n d (some (k:Int))=min k n:=by
 show (if (k:Int) < 0 then ((k:Int)+(n:Int)).toNat else min (k:Int).toNat n)=min k n
 rw [if_neg (by lia),Int.toNat_natCast]
theorem nR (n d:Nat) (hd:d<=n) (o:Option Int):sIx n d o<=n:=by
 cases o with
 | none=>exact hd
 | some v =>
   show (if v < 0 then (v+(n:Int)).toNat else min v.toNat n)<=n
   by_cases hv:v < 0
   . rw [if_pos hv]; lia
   . rw [if_neg hv]; exact Nat.min_le_right _ _
theorem Yu (v:Int) (n d:Nat):(if v < 0 then max (v+(n:Int)) 0 else min v (n:Int))=((sIx n d (some v):Nat):Int):=by
 show (if v < 0 then max (v+(n:Int)) 0 else min v (n:Int))=(((if v < 0 then (v+(n:Int)).toNat else min v.toNat n):Nat):Int)
 by_cases hv:v < 0
 . simp only [if_pos hv]; lia
 . simp only [if_neg hv]; lia
theorem Xf (lo hi:Option Int) (n:Nat):Builtin.Slice.sliceAdjust lo hi 1 (n:Int)=(((sIx n 0 lo:Nat):Int),((sIx n n hi:Nat):Int)):=by
 have h1:¬ ((1:Int) < 0):=by lia
 unfold Builtin.Slice.sliceAdjust
 simp only [h1,if_false]
 refine Prod.ext ?_ ?_
 . cases lo with
   | none=>rfl
   | some v=>exact Yu v n 0
 . cases hi with
   | none=>rfl
   | some v=>exact Yu v n n
theorem Wc (i j:Nat):Builtin.Slice.slicePlaces (i:Int) (j:Int) 1=j - i:=by
 unfold Builtin.Slice.slicePlaces
 have h1:(1:Int)>0:=by lia
 simp only [h1,if_true,Int.ediv_one]
 split <;> lia
theorem Ll {v:Value} {o:Option Int} {Q:Option Int->Shared->Prop} (p:IsPart v o) (h:Q o s):wpAny (model prog w) A (Builtin.Slice.slicePartIndex v) Q E s:=by
 cases p with
 | none=>exact slicePart_none h
 | int i t=>exact slicePart_int h
theorem sliceApplied_gen {sl:Addr} {vl vu:Value} {lo hi:Option Int} {n:Nat} {Q:Int×Int×Nat->Shared->Prop} (hs:s.heap.IsSliceOf sl vl vu .none) (pl:IsPart vl lo) (pu:IsPart vu hi)
   (h:Q (((sIx n 0 lo:Nat):Int),1,sIx n n hi - sIx n 0 lo) s):wpAny (model prog w) A (Builtin.Slice.sliceApplied (.ref sl) (pure (n:Int))) Q E s:=by
 obtain ⟨os,hos,hcs,hds⟩:=id hs
 unfold Builtin.Slice.sliceApplied Builtin.Slice.sliceFields
 refine wpAny_bind (wpAny_bind (wpAny_field hos hds (x:=vl) rfl (wpAny_bind (wpAny_field hos hds (x:=vu) rfl (wpAny_bind (wpAny_field hos hds (x:=.none) rfl (wpAny_pure ?_)))))))
 refine wpAny_bind (slicePart_none ?_)
 show wpAny _ _ (if ((1:Int)==0)=true then _ else _) _ _ s
 rw [if_neg (by decide)]
 refine wpAny_bind (Ll pl (wpAny_bind (Ll pu (wpAny_bind (wpAny_pure ?_)))))
 show wpAny _ _ (match Builtin.Slice.sliceAdjust lo hi 1 (n:Int) with | (lo,hi)=>pure (lo,(1:Int),Builtin.Slice.slicePlaces lo hi 1)) _ _ s
 rw [Xf lo hi n]
 show wpAny _ _ (pure (((sIx n 0 lo:Nat):Int),(1:Int),Builtin.Slice.slicePlaces ((sIx n 0 lo:Nat):Int) ((sIx n n hi:Nat):Int) 1)) _ _ s
 rw [Wc]
 exact wpAny_pure h
theorem eK (xs:Array Value) (i k:Nat):((List.range k).filterMap fun (m:Nat)=>xs[((i:Int)+(m:Int)*1).toNat]?).toArray=((xs.toList.drop i).take k).toArray:=by
 have e:(fun (m:Nat)=>xs[((i:Int)+(m:Int)*1).toNat]?)=fun m=>xs[i+m]? := by
   funext m
   have:((i:Int)+(m:Int)*1).toNat=i+m:=by lia
   rw [this]
 rw [e]
 have:=pick_run xs i k
 rw [List.filterMap_map] at this
 have e2:((fun x=>xs[x]?)∘fun x=>i+x)=fun m=>xs[i+m]? := rfl
 rw [e2] at this
 rw [this]
theorem getItem_tuple_cut {t sl:Addr} {items:Array Value} {vl vu:Value} {lo hi:Option Int} {Q:Value->Shared->Prop} (ht:IsTup s.heap t items) (hs:s.heap.IsSliceOf sl vl vu .none) (pl:IsPart vl lo) (pu:IsPart vu hi)
   (hw:¬ (sIx items.size 0 lo=0/\sIx items.size items.size hi=items.size))
   (h:Q (.ref s.heap.objs.size) { s with heap:=s.heap.push { cls:=.type "tuple",data:=.seq ((items.toList.drop (sIx items.size 0 lo)).take (sIx items.size items.size hi - sIx items.size 0 lo)).toArray } })
   (hsz:items.size<=sizeLine):wpAny (model prog w) A (getItem (.ref t) (.ref sl)) Q E s:=by
 have htake:sizeOk (.seq ((items.toList.drop (sIx items.size 0 lo)).take (sIx items.size items.size hi - sIx items.size 0 lo)).toArray):=by
   show ((items.toList.drop (sIx items.size 0 lo)).take (sIx items.size items.size hi - sIx items.size 0 lo)).toArray.size<=sizeLine
   rw [List.size_toArray,List.length_take,List.length_drop,Array.length_toList]; omega
 have hj:sIx items.size items.size hi<=items.size:=nR _ _ (Nat.le_refl _) hi
 obtain ⟨os,hos,hcs,hds⟩:=id hs
 have hTs:s.TypeIs (.ref sl) "slice" := ⟨os,hos,hcs⟩
 unfold getItem
 try with_reducible refine wpAny_holding ?_
 first | refine wpAny_bind (wpAny_pure ?_) | skip
 refine wpAny_bind (wpAny_sequenceKey ht.typeIs (by decide) ?_)
 refine wpAny_bind (wpAny_callSpecial?_slot (name:=Str.ofString "__getitem__") ht.typeIs PyProof.Rows.slot_tuple_getitem
   (wpAny_call_entry PyProof.Rows.slot_tuple_getitem ht.typeIs entry_tuple_getitem ?_ (args_tuple_getitem _ _)))
 show wpAny _ _ (Builtin.Tuple.tupleItemsOf (.ref t)>>=_) _ _ s
 refine wpAny_bind (tupleItemsOf_ ht ?_)
 refine wpAny_bind (wpAny_typeOf hTs ?_)
 rw [if_pos (by decide)]
 refine wpAny_bind (sliceApplied_gen hs pl pu ?_)
 have hno:¬ ((((sIx items.size 0 lo:Nat):Int)==0&&(1:Int)==1&&(sIx items.size items.size hi - sIx items.size 0 lo)==items.size)=true):=by
   intro q; rw [Bool.and_eq_true,Bool.and_eq_true] at q; have q1:((sIx items.size 0 lo:Nat):Int)=0:=eq_of_beq q.1.1; have q2:sIx items.size items.size hi - sIx items.size 0 lo=items.size:=eq_of_beq q.2; exact hw ⟨by omega,by omega⟩
 show wpAny _ _ (if (((sIx items.size 0 lo:Nat):Int)==0&&(1:Int)==1&&(sIx items.size items.size hi - sIx items.size 0 lo)==items.size)=true then _ else _) _ _ s
 rw [if_neg hno,eK]
 first
   | exact wpAny_bind (m:=Builtin.Tuple.tupleExact _) (wpAny_newObj_type (wpAny_pure ⟨_,rfl,wpAny_pure h⟩) htake)
   | exact wpAny_bind (m:=Builtin.Tuple.tupleExact _) (wpAny_newObj_type (wpAny_bind (wpAny_pure (wpAny_pure ⟨_,rfl,wpAny_pure h⟩))) htake)
   | exact wpAny_bind (wpAny_bind (m:=Builtin.Tuple.tupleExact _) (wpAny_newObj_type (wpAny_pure (wpAny_pure ⟨_,rfl,wpAny_pure h⟩)) htake))
   | exact wpAny_bind (wpAny_bind (m:=Builtin.Tuple.tupleExact _) (wpAny_newObj_type (wpAny_pure ⟨_,rfl,wpAny_pure h⟩) htake))
end
end HT
namespace L2
open PySem PySem.Spec PyProof.Rows
abbrev TO:=St->Hp->(Option Int->Hp->Prop)->Prop
def PO (X:Cx) (e:Option Expr) (t:TO):Prop :=
 ∀ (pins:List (Addr×Obj)) (s:Shared) (σ:St) (H:Hp) (Q:Option Int->Hp->Prop),Inv X pins σ H s->t σ H Q ->
   wpAny (model X.prog X.w) X.A (evalPart e X.env) (fun u s'=>∃ o H',Inv X pins σ H' s'/\IsPart u o/\Q o H') X.xe s
def iO:TO:=fun _ H Q=>Q none H
def tPart (t:TE):TO:=fun σ H Q=>t σ H fun x H1=>∃ i,x=.int i/\Q (some i) H1
section
variable {X:Cx} {e:Expr} {te:TE} {lo hi:Option Expr} {tl th:TO} {pos p2:Pos}
theorem jO:PO X none iO:=by
 intro pins s σ H Q I h
 rw [evalPart_none]
 exact wpAny_pure ⟨none,H,I,.none,h⟩
theorem jN (h:PE X e te):PO X (some e) (tPart te):=by
 intro pins s σ H Q I hw
 rw [evalPart_some]
 refine thn (h pins s σ H _ I hw) fun u s1 hZ2=>?_
 obtain ⟨x,H1,I1,r1,q1⟩:=hZ2
 obtain ⟨i,rfl,q⟩:=q1
 obtain ⟨t,rfl⟩:=r1
 exact ⟨some i,H1,I1,.int i t,q⟩
def SlR (X:Cx) (r:V->Option Int->Option Int->Hp->VK->Prop):Prop :=
 ∀ (pins:List (Addr×Obj)) (s:Shared) (σ:St) (H:Hp) (x:V) (v vl vu:Value) (lo hi:Option Int) (sl:Addr) (Q:VK),Inv X pins σ H s->RelV x v->s.heap.IsSliceOf sl vl vu .none->IsPart vl lo->IsPart vu hi->r x lo hi H Q ->
   ∃ T id,typeLookup (.type T) "__getitem__" = pure (some (.builtin id))/\s.TypeIs v T/\wpAny (model X.prog X.w) X.A (getItem v (.ref sl)) (EP X pins σ Q) X.xe s
def tSl (r:V->Option Int->Option Int->Hp->VK->Prop) (te:TE) (tl th:TO):TE:=fun σ H Q=>te σ H fun x H1=>tl σ H1 fun l H2=>th σ H2 fun u H3=>r x l u H3 Q
theorem eN {r:V->Option Int->Option Int->Hp->VK->Prop} (hr:SlR X r) (he:PE X e te) (hl:PO X lo tl) (hu:PO X hi th):PE X (.Subscript e (.Slice lo hi none p2) pos) (tSl r te tl th):=by
 intro pins s σ H Q I h
 refine Subscript_ (thn (he pins s σ H _ I h) fun v s1 hZ2=>?_)
 obtain ⟨x,H1,I1,r1,q1⟩:=hZ2
 refine wpAny_Slice (thn (hl pins s1 σ H1 _ I1 q1) fun vl s2 hY32=>?_)
 obtain ⟨l,H2,I2,pl,q2⟩:=hY32
 refine thn (hu pins s2 σ H2 _ I2 q2) fun vu s3 hZ2=>?_
 obtain ⟨u,H3,I3,pu,q3⟩:=hZ2
 rw [evalPart_none]
 refine wpAny_pure ?_
 have I4:Inv X pins σ H3 { s3 with heap:=s3.heap.push { cls:=.type "slice",data:=.fields #[vl,vu,.none] } }:=I3.kept (t':=s3.toks) fun b ob q=>Heap.get?_push_of_some _ q
 obtain ⟨T,id,hT,ht,hg⟩:=hr pins { s3 with heap:=s3.heap.push { cls:=.type "slice",data:=.fields #[vl,vu,.none] } } σ H3 x v vl vu l u s3.heap.objs.size Q I4 r1 (Heap.IsSliceOf.new ..) pl pu q3
 show wpAny (model X.prog X.w) X.A (subscriptTail e (.Slice lo hi none p2) v (.ref s3.heap.objs.size)) (EP X pins σ Q) X.xe { s3 with heap:=s3.heap.push { cls:=.type "slice",data:=.fields #[vl,vu,.none] } }
 exact tail_any (ops:=[.ref s3.heap.objs.size,v]) ht hT hg (by with_unfolding_all rfl)
noncomputable def bL (xs:List V) (lo hi:Option Int):List V:=(xs.drop (HT.sIx xs.length 0 lo)).take (HT.sIx xs.length xs.length hi - HT.sIx xs.length 0 lo)
theorem Dt (xs:List V) (lo hi:Option Int):(bL xs lo hi).length<=xs.length:=by
 unfold bL
 rw [List.length_take,List.length_drop]
 lia
end
end L2
namespace L2
open PySem PySem.Spec PyProof.Rows
noncomputable def ixN (n:Nat) (i:Int):Option Nat:=if 0<=i then (if i < n then some i.toNat else none) else if -(n:Int)<=i then some (i+n).toNat else none
noncomputable def atI {α:Type} (xs:List α) (i:Int):Option α:=(ixN xs.length i).bind fun j=>xs[j]?
theorem Yi {n:Nat} {i:Int} {j:Nat} (h:ixN n i=some j):seqIndex? i n=some j/\j < n /\ -(n:Int)<=i/\i < n:=by
 unfold ixN at h
 by_cases h0:0<=i
 . rw [if_pos h0] at h
   by_cases h1:i < n
   . rw [if_pos h1] at h
     have e:i.toNat=j:=Option.some.inj h; exact ⟨by rw [seqIndex_of h0 h1,e],by lia,by lia,h1⟩
   . rw [if_neg h1] at h; cases h
 . rw [if_neg h0] at h
   by_cases h1 : -(n:Int)<=i
   . rw [if_pos h1] at h
     have e:(i+n).toNat=j:=Option.some.inj h; exact ⟨by rw [seqIndex_neg (by lia) h1,e],by lia,h1,by lia⟩
   . rw [if_neg h1] at h; cases h
theorem Kh {α:Type} {xs:List α} {i:Int} {v:α} (h:atI xs i=some v):∃ j,seqIndex? i xs.length=some j/\xs[j]? = some v/\j < xs.length /\ -(xs.length:Int)<=i/\i < xs.length:=by
 unfold atI at h
 cases e:ixN xs.length i with
 | none=>rw [e] at h; cases h
 | some j =>
   rw [e] at h; obtain ⟨h1,h2,h3,h4⟩:=Yi e; exact ⟨j,h1,h,h2,h3,h4⟩
def Zd (b:Expr):Prop:=∀ o i,subscripted b false o i=operate [o,i] (getItem o i)
def IxR (X:Cx) (r:R2):Prop :=
 ∀ (value slice:Expr) (pins:List (Addr×Obj)) (s:Shared) (σ:St) (H:Hp) (x y:V) (v u:Value) (Q:VK),Inv X pins σ H s->RelV x v->RelV y u->r x y H Q ->
   subscripted slice false v u=operate [v,u] (getItem v u)->wpAny (model X.prog X.w) X.A (subscriptTail value slice v u) (EP X pins σ Q) X.xe s
def MtR (X:Cx) (id:String) (r:V->List V->Hp->VK->Prop):Prop :=
 ∀ (pins:List (Addr×Obj)) (s:Shared) (σ:St) (H:Hp) (x:V) (xs:List V) (v:Value) (us:List Value) (Q:VK),Inv X pins σ H s->RelV x v->Vals xs us->r x xs H Q ->
   wpAny (model X.prog X.w) X.A (call (.builtin id) (v::us)) (EP X pins σ Q) X.xe s
section
variable {X:Cx} {a b:Expr} {ta tb:TE} {pos:Pos}
theorem IxR.or {r r':R2} (h:IxR X r) (h':IxR X r'):IxR X (fun x y H Q=>r x y H Q\/r' x y H Q):=by
 intro value slice pins s σ H x y v u Q I rx ry q hs
 rcases q with q | q
 . exact h value slice pins s σ H x y v u Q I rx ry q hs
 . exact h' value slice pins s σ H x y v u Q I rx ry q hs
theorem mJ {r:R2} (hr:IxR X r) (ha:PE X a ta) (hb:PE X b tb) (hs:Zd b):PE X (.Subscript a b pos) (tOp r ta tb):=by
 intro pins s σ H Q I h
 exact Subscript_ (qC ha hb I h fun v u s2 x y H2 I2 rx ry q=>hr a b pins s2 σ H2 x y v u Q I2 rx ry q (hs _ _))
def rIxL (K:PySem.W.Frag):R2:=fun x y H Q=>∃ p xs i v,x=.ref p/\y=.int i/\SqL K H p xs/\atI xs i=some v/\Q v H
def rIxT (K:PySem.W.Frag):R2:=fun x y H Q=>∃ p xs i v,x=.ref p/\y=.int i/\SqT K H p xs/\atI xs i=some v/\Q v H
def rIxS:R2:=fun x y H Q=>∃ z i c,x=.str z/\y=.int i/\z.length<=sizeLine/\atI z.cps.toList i=some c/\Q (.str ⟨#[c]⟩) H
theorem Yh:IxR X (rIxL X.K):=by
 intro value slice pins s σ H x y v u Q I rx ry h hs
 obtain ⟨p,xs,i,z,rfl,rfl,hq,he,q⟩:=h
 cases rx
 obtain ⟨t,rfl⟩:=ry
 obtain ⟨its,r,pl,hz⟩:=I.list hq
 obtain ⟨j,h1,h2,h3,h4,h5⟩:=Kh he
 obtain ⟨w,ew,rw'⟩:=r.get h2
 have hl:=r.length
 have hn:=Ca
 have fin:EP X pins σ Q w s:=⟨z,H,I,rw',q⟩
 by_cases h0:0<=i
 . have hj : i.toNat = j := by
     rw [seqIndex_of h0 h5] at h1; exact Option.some.inj h1
   exact item_listR pl.isList h0 (by lia) (by rw [hj]; simpa using ew) fin hs
 . have hj : (i + (its.toArray.size : Int)).toNat = j := by
     rw [seqIndex_neg (by lia) h4] at h1; rw [List.size_toArray,<- hl]; exact Option.some.inj h1
   exact subscriptTail_builtinR (x:=w) pl.isList.typeIs slot_list_getitem.lookup
     (wpAny_getItem_list_neg (Q:=fun r s'=>r=w/\EP X pins σ Q r s') pl.isList (by lia) (by rw [List.size_toArray] <;> lia) (by lia) (by rw [hj]; simpa using ew) ⟨rfl,fin⟩) hs
theorem pK:IxR X (rIxT X.K):=by
 intro value slice pins s σ H x y v u Q I rx ry h hs
 obtain ⟨p,xs,i,z,rfl,rfl,hq,he,q⟩:=h
 cases rx
 obtain ⟨t,rfl⟩:=ry
 obtain ⟨its,r,pl,hz⟩:=I.tuple hq
 obtain ⟨j,h1,h2,h3,h4,h5⟩:=Kh he
 obtain ⟨w,ew,rw'⟩:=r.get h2
 have hl:=r.length
 have hn:=Ca
 have fin:EP X pins σ Q w s:=⟨z,H,I,rw',q⟩
 exact subscriptTail_builtinR (x:=w) pl.typeIs slot_tuple_getitem.lookup
   (getItem_tuple (j:=j) (Q:=fun r s'=>r=w/\EP X pins σ Q r s') pl (by lia) (by lia) (by rw [List.size_toArray,<- hl]; exact h1) (by simpa using ew) ⟨rfl,fin⟩) hs
theorem pL:IxR X rIxS:=by
 intro value slice pins s σ H x y v u Q I rx ry h hs
 obtain ⟨z,i,c,rfl,rfl,hz,he,q⟩:=h
 obtain ⟨t,rfl⟩:=rx
 obtain ⟨t',rfl⟩:=ry
 obtain ⟨j,h1,h2,h3,h4,h5⟩:=Kh he
 have hl:z.cps.toList.length=z.length:=by simp [Str.length]
 rw [hl] at h1 h4 h5
 have hn:=Ca
 exact tail_any (typeIs_str s z t) slot_str_getitem.lookup (getItem_str (c:=c) (by
   have e1:decide (i < -(2 ^ 63:Int))=false:=decide_eq_false (by lia)
   have e2:decide (i≥2 ^ 63)=false:=decide_eq_false (by lia)
   rw [e1,e2,Bool.or_false]) (by rw [h1]; simpa using h2) ⟨.str ⟨#[c]⟩,H,I.tok _,⟨_,rfl⟩,q⟩) hs
def rIx (K:PySem.W.Frag):R2:=fun x y H Q=>rIxL K x y H Q\/rIxT K x y H Q\/rIxS x y H Q
theorem pM:IxR X (rIx X.K):=Yh.or (pK.or pL)
theorem Wl (its:List Value) (n j:Nat) (u:Value):Obj.mapSeq (·.setIfInBounds j u) { cls:=.type "list",data:=.seq its.toArray n }={ cls:=.type "list",data:=.seq (its.set j u).toArray n }:=by
 simp [Obj.mapSeq]
theorem Inv.lst {pins:List (Addr×Obj)} {σ:St} {H:Hp} {s:Shared} {p:Addr} {xs:List V} (I:Inv X pins σ H s) (h:H p=some (.lst xs)) :
   ∃ (its:List Value) (n:Nat),Vals xs its/\s.heap.get? p=some { cls:=.type "list",data:=.seq its.toArray n }/\xs.length<=sizeLine:=by
 obtain ⟨z,its,n,r,e⟩:=I.hok p _ h
 exact ⟨its,n,r,e,z⟩
theorem Inv.lstUpd {pins:List (Addr×Obj)} {σ:St} {H:Hp} {s:Shared} {p:Addr} {xs ys:List V} {its its':List Value} {n n':Nat} {f:Obj->Obj} (I:Inv X pins σ H s) (h:H p=some (.lst xs))
   (ho:s.heap.get? p=some { cls:=.type "list",data:=.seq its.toArray n }) (hf:f { cls:=.type "list",data:=.seq its.toArray n }={ cls:=.type "list",data:=.seq its'.toArray n' }) (r:Vals ys its') (hz:ys.length<=sizeLine) (t:Nat) :
   Inv X pins σ (upd H p (.lst ys)) { s with heap:=s.heap.update p f,toks:=t }:=by
 have e:(s.heap.update p f).get? p=some { cls:=.type "list",data:=.seq its'.toArray n' }:=by
   rw [Heap.get?_update_self f ho (by rw [hf] <;> rfl),hf]
 refine I.write (x:=p) (e:=p) (by rw [h]; trivial) (.inl rfl) (fun b u hb q=>(Heap.get?_update_other _ _ (Ne.symm hb)).trans q) ⟨_,e⟩ ?_
 exact ⟨hz,its',n',r,e⟩
def rSetL:V->V->V->Hp->(Hp->Prop)->Prop:=fun o i v H Q=>∃ p xs k j,o=.ref p/\i=.int k/\H p=some (.lst xs)/\ixN xs.length k=some j/\Q (upd H p (.lst (xs.set j v)))
theorem dG:PSet X rSetL:=by
 intro pins s σ H o i v ov iv u Q I ro ri rv h
 obtain ⟨p,xs,k,j,rfl,rfl,hp,hj,q⟩:=h
 cases ro
 obtain ⟨t,rfl⟩:=ri
 obtain ⟨its,n,r,ho,hz⟩:=I.lst hp
 obtain ⟨h1,h2,h3,h4⟩:=Yi hj
 have hl:=r.length
 have hn:=Ca
 have I':Inv X pins σ (upd H p (.lst (xs.set j v))) { s with heap:=s.heap.update p (Obj.mapSeq (·.setIfInBounds j u)) } :=
   I.lstUpd hp ho (Wl its n j u) (r.set rv j) (by rw [List.length_set]; exact hz) s.toks
 by_cases h0:0<=k
 . have hk : k.toNat = j := by
     rw [seqIndex_of h0 h4] at h1; exact Option.some.inj h1
   exact PySem.W.ki_setAt ho h0 (by lia) (by rw [List.size_toArray,<- hl]; exact h4) (by rw [hk]; exact ⟨_,I',q⟩)
 . have hk : (k + (its.toArray.size : Int)).toNat = j := by
     rw [seqIndex_neg (by lia) h3] at h1; rw [List.size_toArray,<- hl]; exact Option.some.inj h1
   exact PySem.W.ki_setBack ho (by lia) (by rw [List.size_toArray,<- hl]; exact h3) (by lia) (by rw [hk]; exact ⟨_,I',q⟩)
theorem Qs (lo hi:Option Int) (n:Nat):(sliceBounds lo hi none n).1=((HT.sIx n 0 lo:Nat):Int)/\(sliceBounds lo hi none n).2.1=((HT.sIx n n hi:Nat):Int)/\(sliceBounds lo hi none n).2.2=1:=by
 refine ⟨?_,?_,rfl⟩
 . cases lo with
   | none=>simp [sliceBounds,HT.sIx]
   | some i =>
     simp only [sliceBounds,HT.sIx,Option.getD_none,show (1:Int)>0 by decide,if_true]
     by_cases h:i < 0
     . simp only [h,if_true] <;> lia
     . simp only [h,if_false] <;> lia
 . cases hi with
   | none=>simp [sliceBounds,HT.sIx]
   | some i =>
     simp only [sliceBounds,HT.sIx,Option.getD_none,show (1:Int)>0 by decide,if_true]
     by_cases h:i < 0
     . simp only [h,if_true] <;> lia
     . simp only [h,if_false] <;> lia
theorem El (its:List Value) (lo hi:Option Int):slicePick its.toArray lo hi none=((its.drop (HT.sIx its.length 0 lo)).take (HT.sIx its.length its.length hi - HT.sIx its.length 0 lo)).toArray:=by
 obtain ⟨h1,h2,h3⟩:=Qs lo hi its.toArray.size
 unfold slicePick
 rw [h1,h2,h3]
 simp only [sliceRange_one,pick_run,List.size_toArray] <;> rfl
def rSlL (K:PySem.W.Frag):V->Option Int->Option Int->Hp->VK->Prop:=fun x lo hi H Q=>∃ a xs,x=.ref a/\SqL K H a xs/\∀ p,H p=none->Q (.ref p) (upd H p (.lst (bL xs lo hi)))
theorem sl_list:SlR X (rSlL X.K):=by
 intro pins s σ H x v vl vu lo hi sl Q I rx hs pl pu h
 obtain ⟨a,xs,rfl,hx,q⟩:=h
 cases rx
 obtain ⟨its,r,ht,hz⟩:=I.list hx
 have hlen:=r.length
 refine ⟨"list",_,slot_list_getitem.lookup,ht.isList.typeIs,?_⟩
 refine wpAny_getItem_list_slice ht.isList hs pl pu .none (by simp) ?_ (by rw [List.size_toArray] <;> lia)
 rw [El,<- hlen]
 refine ⟨.ref s.heap.objs.size,_,I.laid (t':=s.toks) (o:=.lst (bL xs lo hi)) (fun b ob q=>Heap.get?_push_of_some _ q) (Nat.le_refl _) ?_,rfl,q _ (I.hok.fresh (Nat.le_refl _))⟩
 exact ⟨Nat.le_trans (Dt xs lo hi) hz,_,0,(r.drop (HT.sIx xs.length 0 lo)).take (HT.sIx xs.length xs.length hi - HT.sIx xs.length 0 lo),Heap.get?_push_size _ rfl⟩
theorem Gu:Ac X (.type "list") (fun xs H Q=>∃ p ys,xs=[.ref p]/\(SqL X.K H p ys\/SqT X.K H p ys)/\∀ l,H l=none->Q (.ref l) (upd H l (.lst ys))):=by
 intro pins s σ H xs us Q I r h
 obtain ⟨p,ys,rfl,hq,q⟩:=h
 obtain ⟨u,rfl,rx⟩:=Oq r
 cases rx
 have fin : ∀ (its : List Value), Vals ys its -> ys.length <= sizeLine -> ∀ (h' : Heap) (c' : Nat), (∀ b o', s.heap.get? b = some o' -> h'.get? b = some o') ->
     h'.get? s.heap.objs.size=some { cls:=.type "list",dict:=none,data:=.seq its.toArray c',slots := #[] }->EP X pins σ Q (.ref s.heap.objs.size) { s with heap:=h' }:=fun its r' hz h' c' kp e =>
   ⟨.ref s.heap.objs.size,_,I.laid (t':=s.toks) kp (Nat.le_refl _) (show ObjOk X.prog X.w _ h' _ (.lst ys) from ⟨hz,its,c',r',e⟩),rfl,q _ (I.hok.fresh (Nat.le_refl _))⟩
 rcases hq with hq | hq
 . obtain ⟨its,r',pl,hz⟩:=I.list hq
   have hlen:=r'.length; obtain ⟨o,ho,hc,n,hd⟩:=pl.isList; exact call_list_seq p (.inl rfl) ho hc hd (fun h' c' kp e=>fin its r' hz h' c' kp e) (by simp only [List.size_toArray] <;> lia)
 . obtain ⟨its,r',pl,hz⟩:=I.tuple hq
   have hlen:=r'.length; obtain ⟨o,ho,hc,n,hd⟩:=pl; exact call_list_seq p (.inr rfl) ho hc hd (fun h' c' kp e=>fin its r' hz h' c' kp e) (by simp only [List.size_toArray] <;> lia)
theorem Es:Ac X (.type "tuple") (fun xs H Q=>∃ p ys,xs=[.ref p]/\((SqL X.K H p ys/\∀ l,H l=none->Q (.ref l) (upd H l (.tup ys)))\/(SqT X.K H p ys/\Q (.ref p) H))):=by
 intro pins s σ H xs us Q I r h
 obtain ⟨p,ys,rfl,h⟩:=h
 obtain ⟨u,rfl,rx⟩:=Oq r
 cases rx
 rcases h with ⟨hq,q⟩ | ⟨hq,q⟩
 . obtain ⟨its,r',pl,hz⟩:=I.list hq
   have hlen:=r'.length; refine call_tuple_list pl.isList (fun h' kp=>?_) (by simp only [List.size_toArray] <;> lia)
   have I1:Inv X pins σ H { s with heap:=h' }:=I.kept (t':=s.toks) kp; have I2:Inv X pins σ (upd H h'.objs.size (.tup ys)) { s with heap:=h'.push { cls:=.type "tuple",data:=.seq its.toArray } } :=
     I1.laid (t':=s.toks) (fun b o e=>Heap.get?_push_of_some _ e) (Nat.le_refl _) (show ObjOk X.prog X.w _ _ _ (.tup ys) from ⟨hz,its,r',IsTup.new _ _⟩)
   exact ⟨.ref h'.objs.size,_,I2,rfl,q _ (I1.hok.fresh (Nat.le_refl _))⟩
 . obtain ⟨its,r',pl,hz⟩:=I.tuple hq
   exact call_tuple_same pl ⟨.ref p,H,I,rfl,q⟩
def tyV (K:PySem.W.Frag) (T:String) (x:V) (H:Hp):Prop:=match x with
 | .str _=>T = "str"
 | .int _=>T = "int"
 | .ref p => (T = "list" /\ ∃ xs, SqL K H p xs) \/ (T = "tuple" /\ ∃ o, K.lookup p = some o /\ o.cls = .type "tuple" /\ o.dict = none) \/
     (T = "dict" /\ ((∃ kvs,H p=some (.dK kvs))\/∃ kvs,H p=some (.dT kvs)))\/(T = "set" /\ ∃ S n,H p=some (.set S n))
 | _=>False
theorem cH {pins:List (Addr×Obj)} {σ:St} {H:Hp} {s:Shared} {T:String} {x:V} {v:Value} (I:Inv X pins σ H s) (r:RelV x v) (ty:tyV X.K T x H) :
   s.TypeIs v T/\∀ a,v=.ref a->∃ ob,s.heap.get? a=some ob/\ob.dict=none:=by
 cases x with
 | str z =>
   obtain ⟨t,rfl⟩:=r
   cases (show T = "str" from ty)
   exact ⟨typeIs_str s z t,fun _ e=>nomatch e⟩
 | int i =>
   obtain ⟨t,rfl⟩:=r
   cases (show T = "int" from ty)
   exact ⟨typeIs_int s i t,fun _ e=>nomatch e⟩
 | ref p =>
   cases r; rcases ty with ⟨rfl,xs,hq⟩ | ⟨rfl,o,hk,hc,hd⟩ | ⟨rfl,hk⟩ | ⟨rfl,S,n,hk⟩
   . obtain ⟨its,_,pl,_⟩:=I.list hq
     refine ⟨pl.isList.typeIs,fun a e=>?_⟩
     cases e; obtain ⟨o,n,e,c,hd,_⟩:=pl; exact ⟨o,e,hd⟩
   . refine ⟨⟨o,I.kIn p o hk,hc⟩,fun a e=>?_⟩
     cases e; exact ⟨o,I.kIn _ o hk,hd⟩
   . have z : ∃ o, s.heap.get? p = some o /\ o.ExactDict := by
       rcases hk with ⟨kvs,hk⟩ | ⟨kvs,hk⟩
       . obtain ⟨_,_,_,_,o,_,_,e,ex,_⟩:=I.hok p _ hk
         exact ⟨o,e,ex⟩
       . obtain ⟨_,_,_,_,o,_,_,e,ex,_⟩:=I.hok p _ hk
         exact ⟨o,e,ex⟩
     obtain ⟨o,e,ex⟩:=z; refine ⟨⟨o,e,ex.1⟩,fun a e2=>?_⟩
     cases e2; exact ⟨o,e,ex.2.1⟩
   . obtain ⟨o,_,_,_,e,ex,_⟩:=I.hok p _ hk
     refine ⟨⟨o,e,ex.1⟩,fun a e2=>?_⟩
     cases e2; exact ⟨o,e,ex.2.1⟩
 | _=>exact False.elim ty
def tBM0 (K:PySem.W.Frag) (T:String) (r:V->List V->Hp->VK->Prop) (to:TE):TE:=fun σ H Q=>to σ H fun x H1=>tyV K T x H1/\r x [] H1 Q
def tBM (K:PySem.W.Frag) (T:String) (r:V->List V->Hp->VK->Prop) (to:TE) (t:TA):TE:=fun σ H Q=>to σ H fun x H1=>tyV K T x H1/\t σ H1 fun xs H2=>r x xs H2 Q
variable {o e:Expr} {es:List Expr} {to:TE} {t:TA} {name:Str} {apos cpos:Pos} {T id:String} {r:V->List V->Hp->VK->Prop}
theorem oH (pa:PlainAttrs T) (slot:Slot T name id) (hty:typeOf (.builtin id)=pure (.type "method_descriptor")) (hm:MtR X id r) (ho:PE X o to)
   (hbase:attributeBase o name X.env (eval o X.env)=eval o X.env:=by rfl) (hline:(apos.endLine==cpos.line)=true:=by rfl):PE X (.Call (.Attribute o name apos) [] [] cpos) (tBM0 X.K T r to):=by
 intro pins s σ H Q I h
 refine wpAny_Call_method0_late hbase hline (thn (ho pins s σ H _ I h) fun v s1 hZ2=>?_)
 obtain ⟨x,H1,I1,r1,ty,q1⟩:=hZ2
 obtain ⟨h1,h2⟩:=cH I1 r1 ty
 exact ⟨T,id,pa,slot,hty,h1,h2,Calls.callWith_builtin rfl (PySem.evalArgs_none (hm pins s1 σ H1 x [] v [] Q I1 r1 .nil q1))⟩
theorem Mb (pa:PlainAttrs T) (slot:Slot T name id) (hty:typeOf (.builtin id)=pure (.type "method_descriptor")) (hm:MtR X id r) (ho:PE X o to) (ha:PA X (e::es) t)
   (hbase:attributeBase o name X.env (eval o X.env)=eval o X.env:=by rfl)
   (hfew:((backTo cpos (starEach (e::es) X.env)).all (fun x => !x.1)&&(backToKw cpos (keywordEach [] X.env)).all (fun x=>x.1.isSome)
     && decide ((e::es).length+([]:List Keyword).length+(if ([]:List Keyword).isEmpty then 0 else 1) < 30))=true:=by rfl)
   (hline:(apos.endLine==cpos.line)=true:=by rfl) (hs:starEach (e::es) X.env=(false,eval e X.env)::starEach es X.env:=by rfl) (hplain:(backTo cpos (starEach es X.env)).any (·.1)=false:=by rfl) :
   PE X (.Call (.Attribute o name apos) (e::es) [] cpos) (tBM X.K T r to t):=by
 intro pins s σ H Q I h
 refine wpAny_Call_method_late hbase hfew hline rfl (thn (ho pins s σ H _ I h) fun v s1 hZ2=>?_)
 obtain ⟨x,H1,I1,r1,ty,q1⟩:=hZ2
 obtain ⟨h1,h2⟩:=cH I1 r1 ty
 refine ⟨T,id,pa,slot,hty,h1,h2,?_⟩
 have hA:=ha cpos pins s1 σ H1 _ I1 q1
 rw [hs] at hA ⊢
 refine Calls.callWith_builtin (by show (false||(backTo cpos (starEach es X.env)).any (·.1))=false; rw [hplain] <;> rfl) (Calls.evalArgs_plain ?_)
 exact thn hA fun us s2 hZ2=>by obtain ⟨vs,H2,I2,r2,q2⟩:=hZ2; exact hm pins s2 σ H2 x vs v us Q I2 r1 r2 q2
end
end L2
namespace L2
open PySem PySem.Spec PyProof.Rows
def MtM (X:Cx) (id:String) (r:V->List V->Hp->VK->Prop):Prop :=
 ∀ (pins:List (Addr×Obj)) (s:Shared) (σ:St) (H:Hp) (x:V) (xs:List V) (v:Value) (us:List Value) (Q:VK),Inv X pins σ H s->RelV x v->Vals xs us->r x xs H Q ->
   wpAny (model X.prog X.w) X.A (call (.builtin id) (v::us)) (EP X pins σ Q) X.xe s
theorem Vals.zero {us:List Value} (h:Vals [] us):us=[]:=by cases h; rfl
theorem Vals.uncons {x:V} {xs:List V} {us:List Value} (h:Vals (x::xs) us):∃ u r,us=u::r/\RelV x u/\Vals xs r:=by cases h with | cons a t=>exact ⟨_,_,rfl,a,t⟩
theorem Vals.one {x:V} {us:List Value} (h:Vals [x] us):∃ u,us=[u]/\RelV x u:=by
 obtain ⟨u,r,rfl,a,t⟩:=h.uncons
 exact ⟨u,by rw [t.zero],a⟩
theorem Vals.dropLast {xs:List V} {us:List Value} (h:Vals xs us):Vals xs.dropLast us.dropLast:=by
 induction h with
 | nil=>exact .nil
 | cons r t ih =>
   cases t with
   | nil=>exact .nil
   | cons q t'=>exact .cons r ih
theorem Vals.reverse {xs:List V} {us:List Value} (h:Vals xs us):Vals xs.reverse us.reverse:=by
 induction h with
 | nil=>exact .nil
 | cons r t ih=>rw [List.reverse_cons,List.reverse_cons]; exact Vals.append ih (.cons r .nil)
theorem Vals.rep {xs:List V} {us:List Value} (h:Vals xs us):∀ k:Nat,Vals (List.replicate k xs).flatten (List.replicate k us).flatten
 | 0=>.nil
 | k+1=>by
   rw [List.replicate_succ,List.replicate_succ,List.flatten_cons,List.flatten_cons]; exact Vals.append h (Vals.rep h k)
theorem Ws {α:Type} (l:List α):l.eraseIdx (l.length - 1)=l.dropLast:=by
 induction l with
 | nil=>rfl
 | cons a r ih =>
   cases r with
   | nil=>rfl
   | cons b r =>
     have e:(a::b::r).length - 1=((b::r).length - 1)+1:=by
       have h1:(a::b::r).length=r.length+2:=rfl; have h2:(b::r).length=r.length+1:=rfl
       lia
     rw [e,List.eraseIdx_cons_succ,ih]
     all_goals rfl
theorem Ps (its:List Value):∀ (k:Nat) (acc:List Value),
   List.foldl (fun x1 x2=>x1++x2) acc.toArray (List.replicate k its.toArray)=(acc++(List.replicate k its).flatten).toArray
 | 0,acc=>by simp
 | k+1,acc=>by
   have e:acc.toArray++its.toArray=(acc++its).toArray:=by simp
   have e2:(acc++its)++(List.replicate k its).flatten=acc++(List.replicate (k+1) its).flatten:=by
     rw [List.replicate_succ,List.flatten_cons,List.append_assoc]
   rw [<- e2,<- Ps its k (acc++its),<- e,List.replicate_succ,List.foldl_cons]
section
variable {X:Cx} {pins:List (Addr×Obj)} {σ:St} {H:Hp} {s:Shared} {l:Addr} {xs ys:List V}
theorem Inv.lset {its its':List Value} {n:Nat} {f:Array Value->Array Value} {t':Nat} (I:Inv X pins σ H s) (hH:H l=some (.lst xs))
   (e:s.heap.get? l=some { cls:=.type "list",data:=.seq its.toArray n }) (hf:f its.toArray=its'.toArray) (hv:Vals ys its') (hz:ys.length<=sizeLine) :
   Inv X pins σ (upd H l (.lst ys)) { s with heap:=s.heap.update l (Obj.mapSeq f),toks:=t' }:=by
 have q:=PySem.IsL.update e f
 rw [hf] at q
 refine I.write (x:=l) (e:=l) (by rw [hH]; exact trivial) (.inl rfl) (fun b' u hb hu=>(Heap.get?_update_other s.heap (Obj.mapSeq f) (Ne.symm hb)).trans hu) ⟨_,q⟩ ?_
 exact ⟨hz,its',_,hv,q⟩
theorem Inv.lnew {its:List Value} {t':Nat} (I:Inv X pins σ H s) (hv:Vals ys its) (hz:ys.length<=sizeLine) :
   Inv X pins σ (upd H s.heap.objs.size (.lst ys)) { s with heap:=s.heap.push { cls:=.type "list",data:=.seq its.toArray },toks:=t' } :=
 I.laid (fun _ _ q=>Heap.get?_push_of_some _ q) (Nat.le_refl _) ⟨hz,its,0,hv,Heap.get?_push_size _ rfl⟩
theorem Inv.fresh (I:Inv X pins σ H s):H s.heap.objs.size=none:=I.hok.fresh (Nat.le_refl _)
theorem Inv.lstM (I:Inv X pins σ H s) (hH:H l=some (.lst xs)):xs.length<=sizeLine/\∃ (its:List Value) (n:Nat),Vals xs its/\xs.length=its.length/\s.heap.get? l=some { cls:=.type "list",data:=.seq its.toArray n }:=by
 obtain ⟨z,its,n,r,e⟩:=I.hok l _ hH
 exact ⟨z,its,n,r,r.length,e⟩
theorem Tv {n:Nat} (h:n<=sizeLine):Builtin.List.listTooLong n=false:=by
 unfold Builtin.List.listTooLong
 exact decide_eq_false (by lia)
end
section
variable {X:Cx}
def jH:V->List V->Hp->VK->Prop:=fun x vs H Q=>∃ l xs y,x=.ref l/\vs=[y]/\H l=some (.lst xs)/\xs.length < sizeLine/\Q .non (upd H l (.lst (xs++[y])))
theorem Hr:MtM X "list.append" jH:=by
 intro pins s σ H x vs v us Q I rx rv h
 obtain ⟨l,xs,y,rfl,rfl,hH,hz,q⟩:=h
 cases rx
 obtain ⟨u,rfl,ru⟩:=rv.one
 obtain ⟨z,its,n,r,hl,e⟩:=I.lstM hH
 refine call_meets F.slot_list_append ⟨_,e,rfl⟩ F.entry_list_append (F.args_list_append_2 _ _) (PySem.list_append l its.toArray n u (by rw [List.size_toArray]; lia)) ⟨e,?_⟩
 refine ⟨.non,_,I.lset (its':=its++[u]) hH e (by simp) (r.append (.cons ru .nil)) ?_,rfl,q⟩
 rw [List.length_append,List.length_singleton]
 lia
def jF:V->List V->Hp->VK->Prop:=fun x vs H Q=>∃ l b xs zs,x=.ref l/\vs=[.ref b]/\H l=some (.lst xs)/\H b=some (.lst zs)/\xs.length+zs.length<=sizeLine/\Q .non (upd H l (.lst (xs++zs)))
theorem aP:MtM X "list.extend" jF:=by
 intro pins s σ H x vs v us Q I rx rv h
 obtain ⟨l,b,xs,zs,rfl,rfl,hH,hB,hz,q⟩:=h
 cases rx
 obtain ⟨u,rfl,ru⟩:=rv.one
 cases ru
 obtain ⟨z,its,n,r,hl,e⟩:=I.lstM hH
 obtain ⟨z2,its2,n2,r2,hl2,e2⟩:=I.lstM hB
 have hsz:its.toArray.size+its2.toArray.size<=sizeLine:=by rw [List.size_toArray,List.size_toArray]; lia
 have hlong:¬ (!its.toArray.isEmpty&&Builtin.List.listTooLong (its.toArray.size+its2.toArray.size))=true:=by
   rw [Tv hsz,Bool.and_false]; exact Bool.false_ne_true
 refine call_meets F.slot_list_extend ⟨_,e,rfl⟩ F.entry_list_extend (F.args_list_extend_2 _ _)
   (AutoSeq1.list_extend_list_list_0 l its.toArray n b its2.toArray n2 hlong (by rw [List.size_toArray]; lia) (by lia)) ⟨e,e2,?_⟩
 refine ⟨.non,_,I.lset (its':=its++its2) hH e (by simp) (r.append r2) ?_,rfl,q⟩
 rw [List.length_append]
 lia
def rPop:V->List V->Hp->VK->Prop:=fun x vs H Q=>∃ l xs y,x=.ref l/\vs=[]/\H l=some (.lst xs)/\xs[xs.length - 1]? = some y/\Q y (upd H l (.lst xs.dropLast))
theorem oZ:MtM X "list.pop" rPop:=by
 intro pins s σ H x vs v us Q I rx rv h
 obtain ⟨l,xs,y,rfl,rfl,hH,hy,q⟩:=h
 cases rx
 have hus:=rv.zero
 subst hus
 obtain ⟨z,its,n,r,hl,e⟩:=I.lstM hH
 obtain ⟨u,hu,ru⟩:=r.get hy
 have hy':its.toArray[its.toArray.size - 1]? = some u:=by
   show its.toArray[its.length - 1]? = some u
   rw [<- Array.getElem?_toList,<- hl]; exact hu
 refine call_meets F.slot_list_pop ⟨_,e,rfl⟩ F.entry_list_pop (F.args_list_pop_1 _) (MeetsSeq.list_pop_last l its.toArray n u hy' (by rw [List.size_toArray]; lia)) ⟨e,?_⟩
 refine ⟨y,_,I.lset (its':=its.dropLast) hH e ?_ r.dropLast ?_,ru,q⟩
 . show its.toArray.eraseIdxIfInBounds (its.toArray.size - 1)=its.dropLast.toArray
   rw [List.size_toArray,List.eraseIdxIfInBounds_toArray,Ws]
 . rw [List.length_dropLast]
   lia
theorem Yf {α:Type} (xs:List α) (k:Nat):(List.replicate k xs).flatten.length=k*xs.length:=by
 induction k with
 | zero=>simp
 | succ k ih=>rw [List.replicate_succ,List.flatten_cons,List.length_append,ih,Nat.succ_mul,Nat.add_comm]
end
end L2
namespace Att
open PySem PySem.W PySem.Calls PyProof.Rows
theorem Jn {P:Params} {h:Heap}:∀ (ns:List Int) (vs:List Value),WellAll P h vs (ns.map WData.int)->IntsAre vs ns:=by
 intro ns
 induction ns with
 | nil =>
   intro vs w; rw [List.map_nil] at w; cases w; exact .nil
 | cons n ns ih =>
   intro vs w; rw [List.map_cons] at w
   cases w with
   | cons a b =>
     cases a; exact .cons _ _ (ih _ b)
theorem Zy {l:OpenLaw} {n:Nat} (hn:l.most=some n) {P:Params} {h:Heap} {args:List WData} {vals:List Value}
   (hpre:l.row.toRowW.claim.pre args=true) (hwl:WellAll P h vals args) :
   ∃ a vs ns,vals=[Value.ref a]/\args=[WData.list (ns.map WData.int)]/\h.get? a=some { cls:=.type "list",data:=.seq vs.toArray }/\IntsAre vs ns/\ns.length<=n:=by
 have hsh:WShape.hasAll [] args [.list .int]=true:=(pre_splitW hpre).1
 have hc:l.pre.holds [] { args:=args }=true:=(pre_splitW hpre).2
 obtain ⟨d,r,rfl,h1,h2⟩:=hasAllW_cons hsh
 obtain rfl:=hasAllW_nil h2
 obtain ⟨xs,rfl,h3⟩:=hasW_list h1
 obtain ⟨ns,rfl⟩:=items_int h3
 have hlen:ns.length<=n:=by
   unfold OpenLaw.pre at hc; have h4:(WTm.not (.lt (.lit (.int (n:Int))) (.len (.arg 0)))).holds [] { args:=[.list (ns.map .int)] }=true:=by
     have h4:=(holds_andW hc).1; rw [hn] at h4; exact h4
   have h5:=condW_of h4 (w_not (w_lt w_lit (w_len_list (w_arg rfl)))); rw [List.length_map] at h5; refine Nat.le_of_not_lt fun q=>?_
   have q':(n:Int) < ((ns.length:Nat):Int):=by lia
   first
     | (rw [decide_eq_true q'] at h5; exact absurd h5 (by decide))
     | (simp at h5; lia)
 cases hwl with
 | cons w1 w2 =>
   cases w2
   cases w1 with
   | list ho hall=>exact ⟨_,_,ns,rfl,rfl,ho,Jn ns _ hall,hlen⟩
theorem aG (l:OpenLaw) (args:List WData):l.row.toRowW.claim.post args (.bool true) args=true :=
 postW_of (r:=l.row.toRowW) (X:=(true==true))
   (show WShape.has [] (.bool true) .bool=true by first | rfl | decide | simp [WShape.has,WShape.arms,WShape.armsAll])
   (show (WTm.eq .res (.lit (.bool true))).value [] { args:=args,res:=some (.bool true),after:=args }=some (.bool (true==true)) from w_eq_bool (w_res rfl) w_lit) rfl
theorem attach_call {l:OpenLaw} {n:Nat} {q:Program} {loose:List Str} {XP:(Str->Option Value)->Heap->Prop} {YP:World->Heap->Prop} {d:DefRec}
   (hn:l.most=some n) (hdf:d.params.defaults=[])
   (call:∀ (w:World) (s₀ s₁:Shared) (mg mb:Str->Option Value) (fa:Addr) (o:Obj) (pm cd doc:Value) (a:Addr) (vs:List Value) (ns:List Int),
     Ground q loose [] XP w s₀ mg mb s₁.heap->YP w s₁.heap ->
     s₁.heap.get? fa=some o->o.data=.func (docDef d.name d.params d.body d.scope pm cd doc)->s₁.heap.CodeRec cd d.name->mg d.name=some (.ref fa) ->
     s₁.heap.get? a=some { cls:=.type "list",data:=.seq vs.toArray }->IntsAre vs ns->ns.length<=n->s₁.gens = #[] ->
     codeAny (model l.prog w) callerA (.call (.ref fa) ⟨[.ref a],[]⟩) (fun r s'=>r=.ok (.ret (.bool true))/\OldK s₁.heap s'.heap/\s'.os=s₁.os/\AllBare s'.gens) s₁) :
   WalkO q loose XP YP l.row.toRowW d [] (fun f vs=>PySem.call f vs):=by
 intro w s₀ s₁ mg mb G Y fa o pm cd doc dV kV ho hd hcd hD hmg hg args vals as hpre hlay hrd hwl hlo
 obtain rfl:dV=.none:=Dflts.none hD hdf
 obtain rfl:kV=.none:=Dflts.noKw hD
 obtain ⟨a,vs,ns,rfl,rfl,hobj,hints,hlen⟩:=Zy hn hpre hwl
 refine enter_call (codeAny_mono (call w s₀ s₁ mg mb fa o pm cd doc a vs ns G Y ho (fd_plain hd) hcd hmg hobj hints hlen hg) fun r s' hq=>?_)
 obtain ⟨rfl,h2,h3,h4⟩:=hq
 exact ⟨.inl ⟨.bool true,.bool true,[],rfl,fun _=>rfl,.bool true,aG l _,fun _=>⟨List.Pairwise.nil,fun _ hm=>(nomatch hm)⟩⟩,h2,h3,h4⟩
end Att
namespace L2
open PySem PySem.Spec PyProof.Rows
theorem Op:∀ {vs:List Value} {ns:List Int},IntsAre vs ns->Vals (ns.map V.int) vs
 | _,_,.nil=>.nil
 | _,_,.cons n t h=>.cons ⟨t,rfl⟩ (Op h)
def qJ (H:Hp):Prop:=∀ b,H b=none\/∃ o xs,H b=some (.frz o (.lst xs))
theorem fV {P:Program} {w:World} {K:PySem.W.Frag} {mg mb:Str->Option Value} {CX:CXT} {k:Nat} {fa a:Addr} {fd:FuncData} {x:Str} {sp:Sp} {s₁:Shared} {vs:List Value} {ns:List Int}
   (KX:K.In s₁.heap) (hns:s₁.heap.Ns mainGlobals mg) (hb:s₁.heap.Ns builtinsNs mb) (hbb:∀ x:Str,x ≠ "__name__" -> mb x=bootBuiltins x) (hlim:s₁.heap.NoLimit) (hg:s₁.gens = #[])
   (ha:s₁.heap.get? a=some { cls:=.type "list",data:=.seq vs.toArray }) (hi:IntsAre vs ns) (hl:ns.length<=sizeLine) (hr:Room k callerA)
   (F:∀ base:Heap,K.In base->base.Ns mainGlobals mg->FnOk P w K mg base CX k fa fd [x] sp) (hbind:∀ (s:Shared) (u:Value),BindsTo s fd ⟨[u],[]⟩ [(x,u)])
   (hsp:∀ H:Hp,qJ H->SqL K H a (ns.map V.int)->sp [.ref a] H (fun v _=>v=.bl true) fun _ _ _=>False)
   (hCX:∀ H e s',CX [] H s₁ (fun _ _ _=>False) e s'->False) :
   codeAny (model P w) callerA (.call (.ref fa) ⟨[.ref a],[]⟩) (fun r s'=>r=.ok (.ret (.bool true))/\OldK s₁.heap s'.heap/\s'.os=s₁.os/\AllBare s'.gens) s₁:=by
 have rv:=Op hi
 have lenV:=hi.length
 have core : ∀ H : Hp, qJ H -> SqL K H a (ns.map V.int) -> HOk P w H s₁.heap -> (∀ b, H b ≠ none -> b = a) -> (H a ≠ none -> K.lookup a = none) ->
     codeAny (model P w) callerA (.call (.ref fa) ⟨[.ref a],[]⟩) (fun r s'=>r=.ok (.ret (.bool true))/\OldK s₁.heap s'.heap/\s'.os=s₁.os/\AllBare s'.gens) s₁:=by
   intro H hO hS hok hA hK; have base_of:∀ {b:Addr} {o:Obj},s₁.heap.get? b=some o->H b=none->(Rs s₁.heap H).get? b=some o:=fun e n=>gF e n
   have noA:∀ {b:Addr} {o:Obj} {es:Array DictEntry} {ep:Nat},s₁.heap.get? b=some o->o.data=.dict es ep->H b=none:=fun {b o es ep} e d=>by
     cases q:H b with
     | none=>rfl
     | some u =>
       have e':b=a:=hA b (by rw [q]; simp)
       subst e'; rw [ha] at e; cases e; have d':Data.seq vs.toArray _=Data.dict es ep:=d
       cases d'
   have nsK:∀ {b:Addr} {m:Str->Option Value},s₁.heap.Ns b m->(Rs s₁.heap H).Ns b m:=fun {b m} ⟨o,es,ep,e,d,r⟩=>⟨o,es,ep,base_of e (noA e d),d,r⟩
   have hKb:K.In (Rs s₁.heap H):=fun b o e=>base_of (KX b o e) (by
     cases q:H b with
     | none=>rfl
     | some u =>
       have e':b=a:=hA b (by rw [q]; simp)
       subst e'; rw [hK (by rw [q]; simp)] at e; cases e)
   have hM:Mod K mg (Rs s₁.heap H):=⟨hKb,nsK hns,⟨mb,nsK hb,hbb⟩,let ⟨mc,h1,h2⟩:=hlim; ⟨mc,nsK h1,h2⟩⟩
   have e0:Env0 P w K mg (Rs s₁.heap H) callerA [] s₁ H:=⟨rfl,hM,fun b o e=>jZ e,Nat.le_of_eq (bD _ _),trivial,fun b hb=>absurd (show b∈([]:List Addr) from hb) (by simp),hok,.of_eq hg⟩
   refine codeAny_mono ((F _ hKb (nsK hns)).run callerA [] s₁ H ⟨[.ref a],[]⟩ [.ref a] [.ref a] _ _ hr e0 (hbind s₁ (.ref a)) (.cons rfl .nil) (hsp H hO hS)) fun r s' h=>?_
   cases r with
   | error e=>exact (hCX H e s' h).elim
   | ok fl =>
     cases fl with
     | next=>exact False.elim h
     | brk=>exact False.elim h
     | cont=>exact False.elim h
     | ret u =>
       obtain ⟨v,H',os,bare,un,hok',r',q⟩:=h; have q':v=.bl true:=q; subst q'; obtain rfl:u=Value.bool true:=r'; refine ⟨rfl,OldK.of_keep fun b o e=>?_,os,bare⟩
       cases q:H b with
       | none=>exact un.keep b o e q (by intro z; exact absurd (show b∈([]:List Addr) from z) (by simp)) (by simp)
       | some u =>
         rcases hO b with z | ⟨ob,xs,z⟩
         . rw [q] at z; cases z
         . have z2:=un.frzs b ob _ z
           obtain ⟨e1,_⟩:=hok b _ z; obtain ⟨e2,_⟩:=hok' b _ z2; rw [e] at e1; cases e1; exact e2
 cases hk:K.lookup a with
 | some o =>
   have e:=KX a o hk; rw [ha] at e; cases e; refine core (fun _=>none) (fun _=>.inl rfl) (.inr ⟨_,vs.toArray,_,hk,rfl,rfl,rfl,by rw [List.size_toArray,lenV]; exact hl,by simpa using rv⟩) (fun b u z=>by have z':(none:Option HO)=some u:=z; cases z') (fun b z=>absurd rfl z) fun z=>absurd rfl z
 | none =>
   refine core (fun b=>if b=a then some (.frz { cls:=.type "list",data:=.seq vs.toArray } (.lst (ns.map V.int))) else none) (fun b=>?_) (.inl (.inr ⟨{ cls:=.type "list",data:=.seq vs.toArray },if_pos rfl⟩)) (fun b u z=>?_) (fun b z=>?_) fun _=>hk
   . by_cases hb:b=a
     . exact .inr ⟨_,_,if_pos hb⟩
     . exact .inl (if_neg hb)
   . by_cases hb:b=a
     . have z':=(if_pos hb).symm.trans z
       cases z'; subst hb; exact ⟨ha,by rw [List.length_map]; exact hl,vs,_,rv,ha⟩
     . have z':=(if_neg hb).symm.trans z
       cases z'
   . by_cases hb:b=a
     . exact hb
     . exact absurd (if_neg hb) z
end L2
namespace L2
open PySem PySem.Spec PyProof.Rows
theorem iK {l:PySem.W.OpenLaw} {n k:Nat} {q:Program} {loose:List Str} {XP:(Str->Option Value)->Heap->Prop} {YP:World->Heap->Prop} {d:DefRec} {K:Params->PySem.W.Frag} {CX:World->CXT} {sp:World->Sp} {x:Str}
   (hn:l.most=some n) (hn2:n<=sizeLine) (hdf:d.params.defaults=[]) (hr:Room k callerA)
   (hY:∀ (w:World) (h:Heap),YP w h->(K w.params).In h)
   (F:∀ (w:World) (mg:Str->Option Value) (fa:Addr) (h:Heap),(K w.params).In h->h.Ns mainGlobals mg->mg d.name=some (.ref fa) ->
     ∃ fd:FuncData,(∀ (s:Shared) (u:Value),BindsTo s fd ⟨[u],[]⟩ [(x,u)]) /\
       ∀ base:Heap,(K w.params).In base->base.Ns mainGlobals mg->FnOk l.prog w (K w.params) mg base (CX w) k fa fd [x] (sp w))
   (hsp:∀ (w:World) (H:Hp) (a:Addr) (ns:List Int),ns.length<=n->qJ H->SqL (K w.params) H a (ns.map V.int)->sp w [.ref a] H (fun v _=>v=.bl true) fun _ _ _=>False)
   (hCX:∀ (w:World) (H:Hp) (s:Shared) (e:Value) (s':Shared),CX w [] H s (fun _ _ _=>False) e s'->False) :
   PySem.W.WalkO q loose XP YP l.row.toRowW d [] (fun f vs=>PySem.call f vs):=by
 refine Att.attach_call hn hdf fun w s₀ s₁ mg mb fa o pm cd doc a vs ns G Y ho hd hcd hmg hobj hints hlen hg=>?_
 have KX:=hY w _ Y
 obtain ⟨fd,hb,hF⟩:=F w mg fa _ KX G.T.g hmg
 exact fV KX G.T.g G.T.b G.T.builtins G.T.nolimit hg hobj hints (Nat.le_trans hlen hn2) hr hF hb (fun H hO hS=>hsp w H a ns hlen hO hS) fun H e s'=>hCX w H s₁ e s'
end L2
namespace L2
open PySem PySem.Spec PyProof.Rows
noncomputable def M3 (s:Stmt):Arguments:=match s with
 | .FunctionDef _ a _ _ _ _ _ _ _ _=>a
 | _=>{ posonlyargs:=[],args:=[],vararg:=none,kwonlyargs:=[],kw_defaults:=[],kwarg:=none,defaults:=[] }
noncomputable def B5 (s:Stmt):List Stmt:=match s with
 | .FunctionDef _ _ b _ _ _ _ _ _ _=>b
 | _=>[]
noncomputable def A5 (s:Stmt):Scope:=match s with
 | .FunctionDef _ _ _ _ _ _ sc _ _ _=>sc
 | _=>{ kind:=.function,names:=[],isGenerator:=false,isCoroutine:=false }
abbrev CX0:CXT:=fun _ _ _ _ _ _=>False
abbrev E0:XK:=fun _ _ _=>False
theorem Pe {X:Cx}:Sf CX0 X E0:=fun _ _ _ _ _ _ _ h=>h.elim
structure Fun (K:PySem.W.Frag) (x qual:Str) (st:Stmt) (f:Addr) (fd:FuncData):Prop where
 ex:∃ (oc:Value) (od:Option Addr) (kV doc pm:Value) (an:Option Addr) (cdv ct:Value) (osl:Array (Option Value)),
   fd=PySem.W.fnOf x qual (M3 st) (B5 st) (A5 st) .none kV doc pm an cdv ct/\K.lookup f=some ⟨oc,od,.func fd,osl⟩/\PySem.W.codeIn K cdv qual=true
 kp:PySem.W.keepIn K (.ref f)=true
section
variable {P:Program} {w:World} {K:PySem.W.Frag} {mg:Str->Option Value} {base:Heap}
theorem Fun.ok {x qual:Str} {st:Stmt} {f:Addr} {fd:FuncData} {N ps:List Str} {k:Nat} {sp:Sp} (F:Fun K x qual st f fd) (S:FnScope N ps (A5 st)) (len:∀ vs H Q E,sp vs H Q E->vs.length=ps.length)
   (hbody:∀ (cdv:Value) (A:Around) (outer:List Env) (s:Shared) (H:Hp) (vs:List V) (Q:VK) (E:XK),Room k (A.deeper (envOfC qual (A5 st) s.heap.objs.size f cdv))->sp vs H Q E ->
     ∃ t,PSs (Rz CX0 P w K mg base N qual (A5 st) f cdv A outer s H E).nox (B5 st) t/\t { nx:=fun _ H'=>Q .non H',rt:=Q } (V2 N vs) H):FnOk P w K mg base CX0 (k+1) f fd ps sp:=by
 obtain ⟨oc,od,kV,doc,pm,an,cdv,ct,osl,rfl,lk,hcd⟩:=F.ex
 refine mQ lk hcd S len fun A outer s H vs Q E hr hsp=>?_
 obtain ⟨t,h,q⟩:=hbody cdv A outer s H vs Q E hr hsp
 exact ⟨t,h.nox,q⟩
theorem Fun.binds {x qual:Str} {st:Stmt} {f:Addr} {fd:FuncData} {ps:List Str} (F:Fun K x qual st f fd)
   (h:∀ (kV doc pm:Value) (an:Option Addr) (cdv ct:Value) (us:List Value),us.length=ps.length->bindArgs (PySem.W.fnOf x qual (M3 st) (B5 st) (A5 st) .none kV doc pm an cdv ct) ⟨us,[]⟩=pure (ps.zip us)):Binds K fd ps []:=by
 obtain ⟨oc,od,kV,doc,pm,an,cdv,ct,osl,rfl,lk,hcd⟩:=F.ex
 exact .all (h kV doc pm an cdv ct)
theorem gH {x qual:Str} {st:Stmt} {f:Addr} {oc:Value} {od an:Option Addr} {osl:Array (Option Value)} {kV doc pm cdv ct:Value} (l:K.lookup f=some ⟨oc,od,.func (PySem.W.fnOf x qual (M3 st) (B5 st) (A5 st) .none kV doc pm an cdv ct),osl⟩)
   (c:PySem.W.codeIn K cdv qual=true) (k:PySem.W.keepIn K (.ref f)=true):Fun K x qual st f (PySem.W.fnOf x qual (M3 st) (B5 st) (A5 st) .none kV doc pm an cdv ct):=⟨⟨oc,od,kV,doc,pm,an,cdv,ct,osl,rfl,l,c⟩,k⟩
end
def Same (H H':Hp):Prop:=∀ b o,H b=some o->H' b=some o
theorem Same.refl (H:Hp):Same H H:=fun _ _ h=>h
theorem Same.trans {H H1 H2:Hp} (a:Same H H1) (b:Same H1 H2):Same H H2:=fun c o h=>b c o (a c o h)
theorem Same.free {H H':Hp} (e:Same H H') {l:Addr} (h:H' l=Option.none):H l=Option.none:=by
 cases q:H l with
 | none=>rfl
 | some o =>
   rw [e l o q] at h; cases h
end L2
section
namespace Sm
open PySem PySem.Spec PyProof.Rows L2
abbrev St:=L2.St
section
variable {prog:Program} {w:World} {A:Around} {R:Result->Shared->Prop} {s:Shared}
theorem Sa {elt target iter:Expr} {ifs:List Expr} {scope:Scope} {pos:Pos} {it acc:Value} {env:Env} (I:Nat->Shared->Prop)
   (turn:∀ n s,I n s->wpAny (model prog w) A (pyNext it) (fun r s₁=>match r with
     | none=>R (.ok .next) s₁
     | some v => wpAny (model prog w) A (letOwnedTupleGo target it v) (fun _ s₁' => wpAny (model prog w) A (assign target env v) (fun _ s₂ =>
         wpAny (model prog w) A (forIn ifs true fun c r=>if r=true then do let ok <- isTrue c env (eval c env); pure (ForInStep.yield ok) else pure (ForInStep.yield r)) (fun ok s₃ =>
           if ok=true then wpAny (model prog w) A (eval elt env) (fun x s₄ =>
             wpAny (model prog w) A (call (.builtin "list.append") [acc,x]) (fun _ s₅=>∃ m,m < n/\I m s₅) (fun _ _=>False) s₄) (fun _ _=>False) s₃
           else ∃ m,m < n/\I m s₃) (fun _ _=>False) s₂) (fun _ _=>False) s₁') (fun _ _=>False) s₁) (fun _ _=>False) s)
   (n:Nat) (h:I n s):codeAny (model prog w) A (.compLoop (.ListComp elt [⟨target,iter,ifs,0⟩] scope pos) 0 it acc env) R s:=by
 refine codeAny_loop rfl I (fun n s hI=>?_) n h
 show wpAny _ A ((compTurn (.ListComp elt [⟨target,iter,ifs,0⟩] scope pos) 0 it acc env).onRaise (fun x=>do noteFrame x env; theTreesLotGoes x)) _ _ s
 refine wpAny_noted ?_
 rw [compTurn_list]
 refine wpAny_bind (wpAny_standAt (wpAny_bind (wpAny_mono (turn n s hI) (fun r s₁ h₁=>?_) fun _ _ h'=>h'.elim)))
 cases r with
 | none=>exact wpAny_pure h₁
 | some v =>
   refine wpAny_bind (wpAny_mono h₁ (fun _ s₁' h₁'=>?_) fun _ _ h'=>h'.elim)
   refine wpAny_bind (wpAny_mono h₁' (fun _ s₂ h₂=>wpAny_bind (wpAny_mono h₂ (fun ok s₃ h₃=>?_) fun _ _ h'=>h'.elim)) fun _ _ h'=>h'.elim)
   cases ok with
   | false=>exact wpAny_pure ⟨rfl,h₃⟩
   | true =>
     exact wpAny_bind (wpAny_bind (wpAny_mono h₃ (fun x s₄ h₄=>wpAny_bind (wpAny_mono h₄ (fun _ s₅ h₅=>wpAny_pure (wpAny_pure ⟨rfl,h₅⟩)) fun _ _ h'=>h'.elim)) fun _ _ h'=>h'.elim))
end
noncomputable def Vf (X:Cx) (s₃:Shared) (H₃:Hp) (scope:Scope) (cl:List (Str×Addr)) (N':List Str) (fp:List Addr):Cx :=
 { X with N:=N',s₀:=s₃,H₀:=H₃,env:=compEnvC scope cl s₃.heap.objs.size X.env,outer:=X.stack,stack:=X.stack,ex:=fp,fn:=fun _=>false,pn:=[],xe:=fun _ _=>False }
structure Blk (X X':Cx) (N':List Str) (sc':Scope):Prop where
 prog:X'.prog=X.prog
 w:X'.w=X.w
 K:X'.K=X.K
 mg:X'.mg=X.mg
 base:X'.base=X.base
 A:X'.A=X.A
 calm:X'.calm=X.calm
 N:X'.N=N'
 sc:X'.env.scope=sc'
 xe:X'.xe=fun _ _=>False
structure Clos (X:Cx) (scope:Scope) (cl:List (Str×Addr)):Prop where
 clo:closureFor scope X.env=pure cl
 sub:∀ x c,cl.lookup x=some c->X.env.cells.lookup x=some c
 has:∀ x,(relabel scope X.env).names.lookup x=some .cell\/(relabel scope X.env).names.lookup x=some .free->∃ c,cl.lookup x=some c
section
variable {X:Cx} {pins:List (Addr×Obj)} {σ:St} {H:Hp} {s₃:Shared}
theorem qB {scope:Scope} {cl:List (Str×Addr)} {N':List Str} {fp:List Addr} (I:Inv X pins σ H s₃) (hk:scope.kind=.function) (C:Clos X scope cl) (hfp:∀ b∈fp,Ck X pins H b) (hlt:∀ b∈fp,b < s₃.heap.objs.size) :
   (Vf X s₃ H scope cl N' fp).Ok where
 mod:=I.ok.mod
 kind:=hk
 glob:=I.ok.glob
 blt:=I.ok.blt
 above:=Nat.le_refl _
 inj:=fun x y c h1 h2=>I.ok.inj x y c (C.sub x c h1) (C.sub y c h2)
 has:=fun x h=>C.has x h
 cab:=fun x c h=>nomatch h
 hd:=I.ok.hd
 frames:=I.ok.frames
 stk:=.inl rfl
 exf:=fun b hb=>⟨Nat.ne_of_lt (hlt b hb),fun x c h=>(hfp b hb).2.2.2.2.1 x c (C.sub x c h)⟩
 bs:=fun b o e=>I.bs b o e
 bsz:=Nat.le_trans I.ok.bsz I.sz
 noex:=fun b o e hb=>by
   rcases (hfp b hb).2.2.2.1 with z | z
   . exact I.ok.noex b o e z
   . exact absurd (Nat.lt_of_lt_of_le (Heap.lt_size e) (Nat.le_trans I.ok.bsz z)) (Nat.lt_irrefl _)
 exfs:=fun b hb z=>by
   rcases List.mem_cons.mp (I.stkSub b z) with q | q
   . exact (hfp b hb).2.1 q
   . exact (hfp b hb).2.2.1 q
 funs:=I.stack
 frf:=I.stkFree
noncomputable def Cz (σ:St) (cap:List Nat):St:=cap.map fun j=>σ[j]?.join
theorem lW {scope:Scope} {cl:List (Str×Addr)} {xs:List Str} {cap:List Nat} {capN:List Str} {fp:List Addr} {h₁:Heap} {tk:Nat} (I:Inv X pins σ H s₃) (hk:scope.kind=.function) (C:Clos X scope cl) (hfp:∀ b∈fp,Ck X pins H b) (hlt:∀ b∈fp,b < s₃.heap.objs.size)
   (hcap:cap.map (fun j=>X.N[j]?)=capN.map some) (hcl:∀ x∈capN,(relabel scope X.env).names.lookup x=some .cell\/(relabel scope X.env).names.lookup x=some .free)
   (hvis:∀ x∈capN,X.env.scope.names.lookup x=some .cell\/X.env.scope.names.lookup x=some .free) {m:Str->Option Value}
   (hns:h₁.Ns s₃.heap.objs.size m) (old:∀ b o,s₃.heap.get? b=some o->h₁.get? b=some o) :
   Inv (Vf X s₃ H scope cl (xs++capN) fp) [] (xs.map (fun _=>none)++Cz σ cap) H { s₃ with heap:=h₁,toks:=tk }:=by
 have hlen:cap.length=capN.length:=by simpa using congrArg List.length hcap
 refine ⟨qB I hk C hfp hlt,rfl,I.bare,Un.kept old,⟨m,hns,fun i x v e1 e2 e3=>?_⟩,fun x c e=>?_,I.hok.fresh (Nat.le_refl _),fun x c e=>I.freeC x c (C.sub x c e),fun p hp=>absurd (show p∈([]:List (Addr×Obj)) from hp) (by simp),I.hok.kept old,?_⟩
 . have e1':(xs++capN)[i]? = some x:=e1
   by_cases hi:i < xs.length
   . rw [List.getElem?_append_left (by simpa using hi),List.getElem?_map] at e2
     cases q:xs[i]? with
     | none=>rw [q] at e2; cases e2
     | some z=>rw [q] at e2; cases e2
   . rw [List.getElem?_append_right (by simpa using hi)] at e2
     rw [List.getElem?_append_right (by lia)] at e1'; rw [List.length_map] at e2
     generalize i - xs.length=j at e1' e2
     unfold Cz at e2; rw [List.getElem?_map] at e2; have hc:(cap.map (fun j=>X.N[j]?))[j]? = some (some x):=by rw [hcap,List.getElem?_map,e1']; rfl
     rw [List.getElem?_map] at hc
     cases q:cap[j]? with
     | none=>rw [q] at e2; cases e2
     | some k =>
       rw [q] at e2 hc; simp only [Option.map_some] at e2 hc; have hc':X.N[k]? = some x:=Option.some.inj hc; have hs:σ[k]? = some (some v):=by
         cases z:σ[k]? with
         | none=>rw [z] at e2; cases e2
         | some z'=>rw [z] at e2; cases z' with
           | none=>cases e2
           | some z''=>cases e2; rfl
       have hx:x∈capN:=List.mem_of_getElem? e1'; obtain ⟨m',hm',hl'⟩:=I.loc; obtain ⟨u,r,l⟩:=hl' k x v hc' hs (by rcases hvis x hx with z | z; exact .inr (.inl z); exact .inr (.inr z))
       refine ⟨u,r,.inr ⟨hcl x hx,?_⟩⟩; obtain ⟨c,hcc⟩:=C.has x (hcl x hx); refine ⟨c,hcc,?_⟩; rcases l with ⟨z,_⟩ | ⟨_,c',e',z⟩
       . have z':X.env.scope.names.lookup x=some .local:=z
         rcases hvis x hx with y | y <;> (rw [z'] at y; cases y)
       . rw [C.sub x c hcc] at e'; cases e'
         obtain ⟨o,ho,hd⟩:=z; exact ⟨o,old _ _ ho,hd⟩
 . obtain ⟨v,o,ho,hd⟩:=I.cell x c (C.sub x c e)
   exact ⟨v,o,old _ _ ho,hd⟩
 . show (xs.map (fun _=>none)++Cz σ cap).length=(xs++capN).length
   unfold Cz; rw [List.length_append,List.length_append,List.length_map,List.length_map,hlen]
end
def Wk (σ1 σ2:St):Prop:=σ1.length=σ2.length/\∀ (i:Nat) v,σ1[i]? = some (some v)->σ2[i]? = some (some v)
def Xk (wi:TI) (σb:St->St) (g:TG) (tt:TT) (te:TE):TE:=fun σ H Q=>wi σ H fun J H1=>∀ D,H1 D=none->∃ W:Nat->Nat->Hp->Prop,(∃ m,W 0 m (upd H1 D (.lst [])))/\∀ i m H,W i m H ->
 (J.stop i H/\Q (.ref D) H)\/(J.go i H/\∃ N:Hp->Prop,(∀ H',N H'->∃ m',m' < m/\W (i+1) m' H')/\∀ x H',J.yld i H x H'->g x (σb σ) H' fun σ2 H2=>Wk (σb σ) σ2/\tt σ2 H2 fun b H3 =>
   if b=true then te σ2 H3 fun y H4=>∃ acc,H4 D=some (.lst acc)/\acc.length < sizeLine/\N (upd H4 D (.lst (acc++[y]))) else N H3)
def PTs (X:Cx) (ifs:List Expr) (t:TT):Prop :=
 ∀ (pins:List (Addr×Obj)) (s:Shared) (σ:St) (H:Hp) (Q:Bool->Hp->Prop),Inv X pins σ H s->t σ H Q ->
   wpAny (model X.prog X.w) X.A (forIn ifs true fun c r=>if r=true then do let ok <- isTrue c X.env (eval c X.env); pure (ForInStep.yield ok) else pure (ForInStep.yield r)) (TP X pins σ Q) X.xe s
theorem jK {X:Cx}:PTs X [] (fun _ H Q=>Q true H):=fun _ _ _ H _ I h=>wpAny_tests_nil ⟨H,I,h⟩
theorem jJ {X:Cx} {c:Expr} {t:TT} (h:PT X c t):PTs X [c] t:=fun pins s σ H Q I q=>wpAny_tests_one (h pins s σ H Q I q)
structure CompFacts (X:Cx) (scope:Scope) (xs capN:List Str) (cap:List Nat):Prop where
 kind:scope.kind=.function
 nocell:∀ y∈scope.names,y.2≠.cell
 names:∀ y∈scope.names,y.2=.local->scope.names.lookup y.1=some .local
 clos:∃ cl,Clos X scope cl
 hcap:cap.map (fun j=>X.N[j]?)=capN.map some
 hcl:∀ x∈capN,(relabel scope X.env).names.lookup x=some .cell\/(relabel scope X.env).names.lookup x=some .free
 hvis:∀ x∈capN,X.env.scope.names.lookup x=some .cell\/X.env.scope.names.lookup x=some .free
section
variable {X:Cx} {tg elt iter:Expr} {ifs:List Expr} {scope:Scope} {pos:Pos} {wi:TI} {g:TG} {tt:TT} {te:TE} {xs capN:List Str} {cap:List Nat}
theorem Us {use:Option (Value->Sem Unit)} {Q:Value->Shared->Prop} {QQ:VK} (hc:X.calm=true) (F:CompFacts X scope xs capN cap) (hi:PI X tg iter wi)
   (hg:∀ X',Blk X X' (xs++capN) (relabel scope X.env)->PG X' tg g) (ht:∀ X',Blk X X' (xs++capN) (relabel scope X.env)->PTs X' ifs tt) (he:∀ X',Blk X X' (xs++capN) (relabel scope X.env)->PE X' elt te)
   (hs:∀ x,foldedSetIterable iter X.env x=pure x)
   {pins:List (Addr×Obj)} {s:Shared} {σ:St} {H:Hp} (I:Inv X pins σ H s) (h:Xk wi (fun σ=>xs.map (fun _=>none)++Cz σ cap) g tt te σ H QQ) {ps:Pos}
   (fin:∀ (s':Shared) (H':Hp) (D C:Addr) (m:Str->Option Value),Inv X pins σ H' s'->s'.heap.Ns C m->(H' C=none/\X.s₀.heap.objs.size<=C/\C≠X.env.locals/\(∀ x c,X.env.cells.lookup x=some c->c≠C)/\∀ p∈X.pn++pins,p.1≠C) ->
     QQ (.ref D) H'->compPost (model X.prog X.w) X.A X.xe use Q (.ref D) C (.ok .next) s') :
   wpAny (model X.prog X.w) X.A (comprehension (.ListComp elt [⟨tg,iter,ifs,0⟩] scope pos) scope X.env ps (newList []) false (eval iter X.env) use) Q X.xe s:=by
 obtain ⟨cl,C⟩:=F.clos
 refine wpAny_comprehension_free rfl hs C.clo F.kind F.names (thn (hi pins s σ H _ I h) fun v s1 h1=>thn h1 fun itv s2 h2=>?_)
 obtain ⟨it,fp,tn,J,H2,e,I2,T,st2,f2,h3⟩:=h2
 subst e
 refine wpAny_newObj_type ?_
 obtain ⟨W,⟨m0,w0⟩,turn⟩:=h3 s2.heap.objs.size I2.fresh
 have I3:Inv X pins σ (upd H2 s2.heap.objs.size (.lst [])) { s2 with heap:=s2.heap.push { cls:=.type "list",dict:=none,data:=.seq ([]:List Value).toArray } }:=I2.lnew (t':=s2.toks) .nil (Nat.zero_le _)
 generalize hH3:upd H2 s2.heap.objs.size (HO.lst [])=H3 at I3 w0
 generalize hs3:({ s2 with heap:=s2.heap.push { cls:=.type "list",dict:=none,data:=.seq ([]:List Value).toArray } }:Shared)=s3 at I3
 have hD3:H3 s2.heap.objs.size=some (.lst []):=by rw [<- hH3]; exact B7
 have kp3:∀ b o,s2.heap.get? b=some o->s3.heap.get? b=some o:=fun b o e=>by rw [<- hs3]; exact Heap.get?_push_of_some _ e
 have hDlt:s2.heap.objs.size < s3.heap.objs.size:=by rw [<- hs3]; show _ < (s2.heap.push _).objs.size; rw [Heap.size_push]; exact Nat.lt_succ_self _
 have flt:∀ b∈fp,b < s2.heap.objs.size:=fun b hb=>by
   obtain ⟨o,e,_⟩:=T.obj 0 _ st2 b hb; exact Heap.lt_size e
 have flt3:∀ b∈fp,b < s3.heap.objs.size:=fun b hb=>Nat.lt_trans (flt b hb) hDlt
 have f3:∀ b∈fp,Ck X pins H3 b:=fun b hb=>⟨by rw [<- hH3,B3 (Nat.ne_of_lt (flt b hb))]; exact (f2 b hb).1,(f2 b hb).2⟩
 have st3:tn 0 s3.heap:=T.keep 0 _ _ st2 fun b hb o e=>kp3 b o e
 show wpAny _ _ (newFunctionEnv scope X.env.globals cl [] X.env.qual none .none (some X.env)) _ _ s3
 refine wpAny_newFunctionEnv F.nocell (by intro y hy; simp at hy) (fun h₁ hns₁ hsb₁=>?_) F.kind
 have old:∀ b o,s3.heap.get? b=some o->h₁.get? b=some o:=fun b o e=>hsb₁.extBut b o (Nat.ne_of_lt (Heap.lt_size e)) (Heap.get?_push_of_some _ e)
 have B:Blk X (Vf X s3 H3 scope cl (xs++capN) fp) (xs++capN) (relabel scope X.env):=⟨rfl,rfl,rfl,rfl,rfl,rfl,rfl,rfl,rfl,rfl⟩
 have J0:Inv (Vf X s3 H3 scope cl (xs++capN) fp) [] (xs.map (fun _=>none)++Cz σ cap) H3 { s3 with heap:=h₁,toks:=s3.toks+([]:List (Str×Value)).length } :=
   lW I3 F.kind C f3 flt3 F.hcap F.hcl F.hvis hns₁ old
 have st4:tn 0 h₁:=T.keep 0 _ _ st3 fun b hb o e=>old b o e
 have hg':=hg _ B
 have ht':=ht _ B
 have he':=he _ B
 generalize hX':Vf X s3 H3 scope cl (xs++capN) fp=X' at B J0 hg' ht' he'
 have hex:X'.ex=fp:=by rw [<- hX']; rfl
 have hloc:X'.env.locals=s3.heap.objs.size:=by rw [<- hX']; rfl
 have henv:X'.env=compEnvC scope cl s3.heap.objs.size X.env:=by rw [<- hX']; rfl
 have hpn:X'.pn=[]:=by rw [<- hX']; rfl
 have hxe:X'.xe=fun _ _=>False:=by rw [<- hX']; rfl
 have hH0:X'.H₀=H3:=by rw [<- hX']; rfl
 have hs0:X'.s₀=s3:=by rw [<- hX']; rfl
 have hfs:X'.fs=frs X.stack:=by rw [<- hX']; rfl
 have hP:X'.prog=X.prog:=B.prog
 have hw:X'.w=X.w:=B.w
 have hA:X'.A=X.A:=B.A
 have nfs:∀ b∈fp,b∉X'.fs:=fun b hb z=>J0.ok.exfs b (by rw [hex]; exact hb) z
 have stat:∀ {pn':List (Addr×Obj)} {H':Hp},(∀ b∈fp,H' b=none)->(∀ p∈pn',p.1∉fp)->∀ b∈fp,Ck X' pn' H' b:=fun {pn' H'} hn hp b hb =>
   ⟨hn b hb,by rw [hloc]; exact Nat.ne_of_lt (flt3 b hb),nfs b hb,.inl (by rw [hex]; exact hb),fun x c e=>(J0.ok.exf b (by rw [hex]; exact hb)).2 x c e,fun p hp' z=>by
     rw [hpn,List.nil_append] at hp'; exact hp p hp' (z▸hb)⟩
 have loop : ∀ s₀' : Shared, Inv X' [] (xs.map (fun _ => none) ++ Cz σ cap) H3 s₀' -> tn 0 s₀'.heap ->
     codeAny (model X.prog X.w) X.A (.compLoop (.ListComp elt [⟨tg,iter,ifs,0⟩] scope pos) 0 (.ref it) (.ref s2.heap.objs.size) X'.env) (compPost (model X.prog X.w) X.A X.xe use Q (.ref s2.heap.objs.size) s3.heap.objs.size) s₀':=by
   intro s₀' J1 st5; refine Sa (fun n s'=>∃ i H',Inv X' [] (xs.map (fun _=>none)++Cz σ cap) H' s'/\tn i s'.heap/\(∀ b∈fp,H' b=none)/\W i n H') ?_ m0 ⟨0,H3,J1,st5,fun b hb=>(f3 b hb).1,w0⟩
   rintro n s4 ⟨i,H4,J4,st4,fr4,w4⟩
   rcases turn i n H4 w4 with ⟨stop,qn⟩ | ⟨go,N,hN,step⟩
   . have hd:=T.done X' B.prog B.w B.K (B.calm.trans hc) i [] s4 _ H4 (fun _ _=>False) J4 (stat fr4 (by simp)) st4 stop
     rw [hA] at hd; refine thn hd fun r s5 hZ2=>?_
     obtain ⟨hr,J5⟩:=hZ2; subst hr; have un:Un (frs X.stack) fp H3 H4 s3.heap s5.heap:=by
       have:=J5.base; rw [hfs,hex,hH0,hs0] at this; exact this
     have ho:s5.os=s3.os:=by rw [J5.os,hs0]
     have hok5:HOk X.prog X.w H4 s5.heap:=by have:=J5.hok; rw [hP,hw] at this; exact this
     have I5:Inv X pins σ H4 s5:=I3.call' ho un hok5 J5.bare fun b hb=>⟨(f3 b hb).2.2.2.1,(f3 b hb).2.1,(f3 b hb).2.2.2.2.1,(f3 b hb).2.2.2.2.2⟩
     obtain ⟨m5,hm5,_⟩:=J5.loc; rw [hloc] at hm5; refine fin s5 H4 _ s3.heap.objs.size m5 I5 hm5 ⟨by have:=J5.free; rw [hloc] at this; exact this,I3.sz,Nat.ne_of_gt I3.lt,fun x c e z=>?_,fun p hp z=>?_⟩ qn
     . obtain ⟨v,q⟩:=I3.cell x c e
       exact absurd q.lt (by rw [z]; exact Nat.lt_irrefl _)
     . exact absurd (Heap.lt_size (I3.pin p hp).1) (by rw [z]; exact Nat.lt_irrefl _)
   . have hd:=T.item X' B.prog B.w B.K (B.calm.trans hc) i [] s4 _ H4 (fun _ _=>False) J4 (stat fr4 (by simp)) st4 go
     rw [hA] at hd; refine thn hd fun r s5 hZ2=>?_
     obtain ⟨u,hr,h5⟩:=hZ2; subst hr; refine thn h5 fun _ s6 hZ2=>?_
     obtain ⟨x,H6,J6,r6,y6,st6,fr6⟩:=hZ2; have J6':=J6.pinned (stat fr6 (by simp)) (T.obj _ _ st6)
     rw [List.nil_append] at J6'; have hgx:=hg' _ s6 _ H6 x u _ J6' r6 (step x H6 y6); rw [hP,hw,hA,hxe] at hgx; refine thn hgx fun _ s7 hZ2=>?_
     obtain ⟨σ7,H7,J7,wk7,q7⟩:=hZ2; have htx:=ht' _ s7 σ7 H7 _ J7 q7; rw [hP,hw,hA,hxe] at htx; refine thn htx fun ok s8 hZ2=>?_
     obtain ⟨H8,J8,q8⟩:=hZ2; have again:∀ {H9:Hp} {s9:Shared},Inv X' (Ma fp s6.heap) σ7 H9 s9->N H9->(∃ m,m < n/\∃ i H',Inv X' [] (xs.map (fun _=>none)++Cz σ cap) H' s9/\tn i s9.heap/\(∀ b∈fp,H' b=none)/\W i m H'):=fun {H9 s9} J9 n9=>by
       obtain ⟨m',hm,w9⟩:=hN H9 n9; have pin9:∀ b∈fp,∀ o,s6.heap.get? b=some o->s9.heap.get? b=some o/\H9 b=none:=fun b hb o e=>by
         have:=J9.pin (b,o) (List.mem_append_right _ (Fh hb e)); exact ⟨this.1,this.2.1⟩
       refine ⟨m',hm,i+1,H9,(J9.weak wk7.1 wk7.2).pins_of (fun p hp=>nomatch hp),T.keep _ _ _ st6 fun b hb o e=>(pin9 b hb o e).1,fun b hb=>?_,w9⟩
       obtain ⟨o,e,d⟩:=T.obj _ _ st6 b hb; exact (pin9 b hb o e).2
     cases ok with
     | false =>
       rw [if_neg (by decide)] at q8 ⊢
       exact again J8 q8
     | true =>
       rw [if_pos rfl] at q8 ⊢
       have hex:=he' _ s8 σ7 H8 _ J8 q8; rw [hP,hw,hA,hxe] at hex; refine thn hex fun y s9 hZ2=>?_
       obtain ⟨x9,H9,J9,r9,acc,ha,hz,n9⟩:=hZ2; have hap:=Hr (X:=X') _ s9 σ7 H9 (.ref s2.heap.objs.size) [x9] (.ref s2.heap.objs.size) [y] (fun _ H'=>N H') J9 rfl (.cons r9 .nil) ⟨_,acc,x9,rfl,rfl,ha,hz,n9⟩
       rw [hP,hw,hA,hxe] at hap; exact thn hap fun _ s10 hZ2=>by obtain ⟨_,H10,J10,_,n10⟩:=hZ2; exact again J10 n10
 have e0:({ (newEnv scope s3.heap.objs.size X.env.globals cl X.env.qual none .none (some X.env) builtinsNs:Env) with scope:=relabel scope X.env }:Env)=X'.env:=by rw [henv]; rfl
 have e1:(newEnv scope s3.heap.objs.size X.env.globals cl X.env.qual none .none (some X.env) builtinsNs:Env).locals=s3.heap.objs.size:=rfl
 show codeAny _ _ (.compStart _ 0 (.ref it) (.ref s2.heap.objs.size) ({ (newEnv scope s3.heap.objs.size X.env.globals cl X.env.qual none .none (some X.env) builtinsNs:Env) with scope:=relabel scope X.env }:Env)) (compPost _ _ _ _ _ _ s3.heap.objs.size) _
 rw [e0]
 exact codeAny_compStart_list (loop _ J0 st4) (T.self _ 0 _ _ _ st4 (loop _ J0 st4))
theorem jP (hc:X.calm=true) (F:X.Ok->CompFacts X scope xs capN cap) (hi:PI X tg iter wi)
   (hg:∀ X',Blk X X' (xs++capN) (relabel scope X.env)->PG X' tg g) (ht:∀ X',Blk X X' (xs++capN) (relabel scope X.env)->PTs X' ifs tt) (he:∀ X',Blk X X' (xs++capN) (relabel scope X.env)->PE X' elt te)
   (hs:∀ x,foldedSetIterable iter X.env x=pure x:=by intro _; rfl):PE X (.ListComp elt [⟨tg,iter,ifs,0⟩] scope pos) (Xk wi (fun σ=>xs.map (fun _=>none)++Cz σ cap) g tt te):=by
 intro pins s σ H Q I h
 rw [eval_ListComp]
 refine Us (use:=none) hc (F I.ok) hi hg ht he hs I h fun s' H' D C m I' hm hZ7 q=>?_
 obtain ⟨c1,c2,c3,c4,c5⟩:=hZ7
 refine ⟨m,hm,fun h' sb=>?_⟩
 exact ⟨.ref D,H',I'.turned (t':=s'.toks) (fun b o hb e=>(sb.2 b hb).trans e) c1 c3 (.inr c2) c4 c5,rfl,q⟩
theorem Lz {i:Nat} {y:Str} {py spos:Pos} (hc:X.calm=true) (F:X.Ok->CompFacts X scope xs capN cap) (hi:PI X tg iter wi)
   (hg:∀ X',Blk X X' (xs++capN) (relabel scope X.env)->PG X' tg g) (ht:∀ X',Blk X X' (xs++capN) (relabel scope X.env)->PTs X' ifs tt) (he:∀ X',Blk X X' (xs++capN) (relabel scope X.env)->PE X' elt te)
   (hN:X.N.Nodup) (hy:X.N[i]? = some y) (hl:X.env.scope.names.lookup y=some .local) (hsw:swapsWith (.ListComp elt [⟨tg,iter,ifs,0⟩] scope pos) (some (.Name y py)) spos.line X.env=pure true)
   (hs:∀ x,foldedSetIterable iter X.env x=pure x:=by intro _; rfl):PS X (.Assign [.Name y py] (.ListComp elt [⟨tg,iter,ifs,0⟩] scope pos) spos) (nJ (Xk wi (fun σ=>xs.map (fun _=>none)++Cz σ cap) g tt te) (Z9 i)):=by
 intro pins s σ H D0 I h
 rw [exec_Assign_Name_used _ _ _ _ hsw]
 refine wpAny_bind (wpAny_standAt (wpAny_bind ?_))
 show wpAny _ _ (do let _ <- comprehension (.ListComp elt [⟨tg,iter,ifs,0⟩] scope pos) scope X.env _ (newList []) false (eval iter X.env) (some (assign (.Name y py) X.env))) _ _ s
 refine wpAny_bind (wpAny_mono (Us (use:=some (assign (.Name y py) X.env)) (Q:=fun _ s'=>SP X pins D0 .next s') hc (F I.ok) hi hg ht he hs I h fun s' H' D C m I' hm hY33 q=>?_) (fun _ s' hq=>wpAny_pure (wpAny_pure hq)) fun _ _ e=>e)
 obtain ⟨c1,c2,c3,c4,c5⟩:=hY33
 show wpAny _ _ (assign (.Name y py) X.env (.ref D)) _ _ s'
 refine wpAny_assign_Name (Ox I' hN hy (.inl hl) (v:=.ref D) rfl (fun s'' I'' hY34=>?_) (.inr hl))
 obtain ⟨a,sa,ea⟩:=hY34
 have haC:a≠C:=by
   rcases ea with z | z
   . rw [z]; exact Ne.symm c3
   . exact c4 _ _ z
 refine ⟨m,hm.sameBut sa (Ne.symm haC),fun h' sb=>?_⟩
 exact ⟨_,H',I''.turned (t':=s''.toks) (fun b o hb e=>(sb.2 b hb).trans e) c1 c3 (.inr c2) c4 c5,q⟩
end
end Sm
end
section
namespace L2
open PySem PySem.Spec PyProof.Rows
section
variable {X:Cx} {pins:List (Addr×Obj)} {σ:St} {H:Hp} {s:Shared}
theorem Inv.big (I:Inv X pins σ H s):sysModules < s.heap.objs.size:=by
 have h:mainGlobals < s.heap.objs.size:=(I.mod.glob.keeps I.bk).lt
 exact Nat.lt_trans (by decide) h
end
def qK (i:Expr):Prop:=∀ ov iv,subscripted i false ov iv=operate [ov,iv] (getItem ov iv)
theorem iR {prog:Program} {w:World} {A:Around} {E:Value->Shared->Prop} {s:Shared} {env:Env} {value slice:Expr} {pos:Pos} {T id:String} {Q:Value->Shared->Prop}
   (hl:typeLookup (.type T) "__getitem__" = pure (some (.builtin id))) (hs:qK slice)
   (h:wpAny (model prog w) A (eval value env) (fun o s₁=>wpAny (model prog w) A (eval slice env) (fun i s₂=>s₂.TypeIs o T/\wpAny (model prog w) A (getItem o i) Q E s₂) E s₁) E s) :
   wpAny (model prog w) A (eval (.Subscript value slice pos) env) Q E s:=by
 refine Subscript_ (wpAny_mono h (fun o s₁ h₁=>wpAny_mono h₁ (fun i s₂ h₂=>?_) fun _ _ x=>x) fun _ _ x=>x)
 obtain ⟨hT,h₂⟩:=h₂
 unfold subscriptTail
 refine wpAny_bind ?_
 rw [getitemInPython_of_ne hT.not_modules]
 refine wpAny_bind (wpAny_specialOf hT hl ?_)
 have fin:wpAny (model prog w) A (subscripted slice false o i) (fun r s₃=>wpAny (model prog w) A (letTemporaryGo value o r>>=fun _=>pure r) Q E s₃) E s₂:=by
   rw [hs o i]; exact wpAny_operating (wpAny_mono h₂ (fun r s₃ h₃=>wpAny_bind (wpAny_letTemporaryGo (wpAny_pure h₃))) fun _ _ x=>x)
 first
   | exact wpAny_pure (wpAny_bind fin)
   | exact wpAny_bind (wpAny_pure (wpAny_bind fin))
   | exact wpAny_bind fin
theorem gP {P:Program} {w:World} {H:Hp} (h:Heap) (hb:sysModules < h.objs.size):ObjOk P w H (h.push { cls:=.type "dict",data:=.dict #[] }) h.objs.size (.dT []) :=
 ⟨Nat.zero_le _,beq_eq_false_iff_ne.mpr (Ne.symm (Nat.ne_of_lt hb)),[],.nil,_,#[],0,Heap.get?_push_size _ rfl,⟨rfl,rfl,rfl⟩,rfl,rfl,List.nodup_nil⟩
def nH:TE:=fun _ H Q=>∀ p,H p=none->Q (.ref p) (upd H p (.dT []))
section
variable {X:Cx} {pos:Pos}
theorem eR:PE X (.Dict [] [] pos) nH:=fun pins s σ H Q I h =>
 wpAny_Dict_empty ⟨.ref s.heap.objs.size,_,I.laid (a:=s.heap.objs.size) (o:=.dT []) (t':=s.toks) (fun _ _ q=>Heap.get?_push_of_some _ q) (Nat.le_refl _) (gP s.heap I.big),rfl,h _ (I.hok.fresh (Nat.le_refl _))⟩
end
structure M2 (X:Cx) (o:Expr) (m:Str) (apos:Pos) (e f:Expr) (cpos:Pos):Prop where
 base:attributeBase o m X.env (eval o X.env)=eval o X.env
 few:((backTo cpos (starEach [e,f] X.env)).all (fun x => !x.1)&&(backToKw cpos (keywordEach [] X.env)).all (fun x=>x.1.isSome)
   && decide (([e,f]:List Expr).length+([]:List Keyword).length+(if ([]:List Keyword).isEmpty then 0 else 1) < 30))=true
 line:(apos.endLine==cpos.line)=true
 trees:backTo cpos (starEach [e,f] X.env)=[(false,eval e X.env),(false,eval f X.env)]
end L2
end
section
namespace Sm
open PySem PySem.Spec PyProof.Rows L2
inductive Res (α:Type) where
 | ok (a:α)
 | exc (c:Str)
 | no
noncomputable def Res.bind {α β:Type}:Res α->(α->Res β)->Res β
 | .ok a,k=>k a
 | .exc c,_=>.exc c
 | .no,_=>.no
noncomputable def ofO {α:Type}:Option α->Res α
 | some a=>.ok a
 | none=>.no
inductive Sl where
 | un
 | sh (d:PyData)
 | ow (d:PyData)
 | fd (kvs:List (PyData×PyData))
abbrev Dn:=List Sl
mutual
noncomputable def Rep (G:Hp):PyData->V->Prop
 | .none,v=>v=.non
 | .bool b,v=>v=.bl b
 | .int i,v=>v=.int i
 | .str x,v=>v=.str x/\PyData.strOk x=true/\x.length<=sizeLine
 | .list ds,v=>∃ a xs,v=.ref a/\Rd G a (.lst xs)/\RepL G ds xs
 | .tuple ds,v=>∃ a xs,v=.ref a/\G a=some (.tup xs)/\RepL G ds xs
 | .dict _,_=>False
noncomputable def RepL (G:Hp):List PyData->List V->Prop
 | [],xs=>xs=[]
 | d::ds,xs=>∃ x r,xs=x::r/\Rep G d x/\RepL G ds r
end
theorem Rd.mono {G G':Hp} (h:Same G G') {a:Addr} {u:HO} (r:Rd G a u):Rd G' a u:=by
 rcases r with r | ⟨o,r⟩
 . exact .inl (h _ _ r)
 . exact .inr ⟨o,h _ _ r⟩
mutual
theorem Rep.mono {G G':Hp} (h:Same G G'):∀ {d:PyData} {v:V},Rep G d v->Rep G' d v
 | .none,_,r=>r
 | .bool _,_,r=>r
 | .int _,_,r=>r
 | .str _,_,r=>r
 | .list _,_,r=>by obtain ⟨a,xs,e,q,l⟩:=r; exact ⟨a,xs,e,Rd.mono h q,RepL.mono h l⟩
 | .tuple _,_,r=>by obtain ⟨a,xs,e,q,l⟩:=r; exact ⟨a,xs,e,h _ _ q,RepL.mono h l⟩
 | .dict _,_,r=>r.elim
theorem RepL.mono {G G':Hp} (h:Same G G'):∀ {ds:List PyData} {xs:List V},RepL G ds xs->RepL G' ds xs
 | [],_,r=>r
 | _::_,_,r=>by obtain ⟨x,t,e,q,l⟩:=r; exact ⟨x,t,e,Rep.mono h q,RepL.mono h l⟩
end
mutual
theorem Rep.lay {G:Hp}:∀ {d:PyData} {v:V},Rep G d v->d.canLay0=true
 | .none,_,r=>rfl
 | .bool _,_,r=>rfl
 | .int _,_,r=>rfl
 | .str _,_,r=>r.2.1
 | .list _,_,r=>by obtain ⟨a,xs,e,q,l⟩:=r; exact RepL.lay l
 | .tuple _,_,r=>by obtain ⟨a,xs,e,q,l⟩:=r; exact RepL.lay l
 | .dict _,_,r=>r.elim
theorem RepL.lay {G:Hp}:∀ {ds:List PyData} {xs:List V},RepL G ds xs->PyData.canLayAll0 ds=true
 | [],_,r=>rfl
 | _::_,_,r=>by
   obtain ⟨x,t,e,q,l⟩:=r; rw [PyData.canLayAll0,Rep.lay q,RepL.lay l]; rfl
end
noncomputable section
variable {G:Hp}
theorem RepL.nil:RepL G [] []:=rfl
theorem RepL.cons {d:PyData} {ds:List PyData} {x:V} {xs:List V} (h:Rep G d x) (t:RepL G ds xs):RepL G (d::ds) (x::xs):=⟨x,xs,rfl,h,t⟩
theorem RepL.length:∀ {ds:List PyData} {xs:List V},RepL G ds xs->ds.length=xs.length
 | [],_,r=>by cases (show _=_ from r); rfl
 | d::ds,_,r=>by obtain ⟨x,t,rfl,q,l⟩:=r; simp [RepL.length l]
theorem RepL.get:∀ {ds:List PyData} {xs:List V} {i:Nat} {d:PyData},RepL G ds xs->ds[i]? = some d->∃ x,xs[i]? = some x/\Rep G d x
 | [],_,_,_,_,e=>by simp at e
 | d::ds,_,0,_,r,e=>by obtain ⟨x,t,rfl,q,l⟩:=r; simp at e; subst e; exact ⟨x,rfl,q⟩
 | d::ds,_,i+1,_,r,e=>by
   obtain ⟨x,t,rfl,q,l⟩:=r; obtain ⟨y,h1,h2⟩:=RepL.get (i:=i) l (by simpa using e)
   exact ⟨y,by simpa using h1,h2⟩
theorem RepL.append:∀ {ds es:List PyData} {xs ys:List V},RepL G ds xs->RepL G es ys->RepL G (ds++es) (xs++ys)
 | [],_,_,_,r,q=>by cases (show _=_ from r); exact q
 | d::ds,_,_,_,r,q=>by obtain ⟨x,t,rfl,h,l⟩:=r; exact RepL.cons h (RepL.append l q)
theorem RepL.drop:∀ (n:Nat) {ds:List PyData} {xs:List V},RepL G ds xs->RepL G (ds.drop n) (xs.drop n)
 | 0,_,_,r=>r
 | _+1,[],_,r=>by cases (show _=_ from r); exact rfl
 | n+1,d::ds,_,r=>by obtain ⟨x,t,rfl,h,l⟩:=r; exact RepL.drop n l
theorem RepL.take:∀ (n:Nat) {ds:List PyData} {xs:List V},RepL G ds xs->RepL G (ds.take n) (xs.take n)
 | 0,_,_,r=>rfl
 | _+1,[],_,r=>by cases (show _=_ from r); exact rfl
 | n+1,d::ds,_,r=>by obtain ⟨x,t,rfl,h,l⟩:=r; exact RepL.cons h (RepL.take n l)
theorem RepL.reverse {ds:List PyData} {xs:List V} (r:RepL G ds xs):RepL G ds.reverse xs.reverse:=by
 induction ds generalizing xs with
 | nil=>cases (show _=_ from r); exact rfl
 | cons d ds ih =>
   obtain ⟨x,t,rfl,h,l⟩:=r; rw [List.reverse_cons,List.reverse_cons]; exact RepL.append (ih l) (RepL.cons h RepL.nil)
theorem RepL.rep {ds:List PyData} {xs:List V} (r:RepL G ds xs):∀ k:Nat,RepL G (List.replicate k ds).flatten (List.replicate k xs).flatten
 | 0=>rfl
 | k+1=>by
   rw [List.replicate_succ,List.replicate_succ,List.flatten_cons,List.flatten_cons]; exact RepL.append r (RepL.rep r k)
theorem RepL.ints (ns:List Int):RepL G (ns.map PyData.int) (ns.map V.int):=by
 induction ns with
 | nil=>exact rfl
 | cons n ns ih=>exact RepL.cons rfl ih
theorem RepL.dropLast {ds:List PyData} {xs:List V} (r:RepL G ds xs):RepL G ds.dropLast xs.dropLast:=by
 rw [List.dropLast_eq_take,List.dropLast_eq_take,r.length]
 exact RepL.take _ r
end
structure Grow (G H G' H':Hp):Prop where
 g:Same G G'
 h:Same H H'
 gh:Same G' H'
 fr:∀ b o,G' b=some o->G b=some o\/H b=none\/∃ xs,o=HO.tup xs
theorem Grow.refl {G H:Hp} (h:Same G H):Grow G H G H:=⟨Same.refl _,Same.refl _,h,fun _ _ e=>.inl e⟩
theorem Grow.trans {G H G1 H1 G2 H2:Hp} (a:Grow G H G1 H1) (b:Grow G1 H1 G2 H2):Grow G H G2 H2 :=
 ⟨a.g.trans b.g,a.h.trans b.h,b.gh,fun c o e=>by
   rcases b.fr c o e with q | q | q
   . exact a.fr c o q
   . exact .inr (.inl (a.h.free q))
   . exact .inr (.inr q)⟩
theorem Same.upd {H:Hp} {p:Addr} {o:HO} (h:H p=none):Same H (upd H p o):=fun b u e=>by
 rw [B3 (D6 e h)]; exact e
theorem Grow.new {G H:Hp} {p:Addr} {o:HO} (s:Same G H) (h:H p=none):Grow G H (upd G p o) (upd H p o):=by
 have hg:G p=none:=s.free h
 refine ⟨Same.upd hg,Same.upd h,fun b u e=>?_,fun b u e=>?_⟩
 . by_cases hb:b=p
   . subst hb; rw [B7] at e ⊢; exact e
   . rw [B3 hb] at e ⊢; exact s _ _ e
 . by_cases hb:b=p
   . subst hb; exact .inr (.inl h)
   . rw [B3 hb] at e; exact .inl e
theorem Grow.own {G H:Hp} {p:Addr} {o:HO} (s:Same G H) (h:H p=none):Grow G H G (upd H p o) :=
 ⟨Same.refl _,Same.upd h,s.trans (Same.upd h),fun _ _ e=>.inl e⟩
noncomputable def pJ:Key->PyData
 | .inl i=>.int i
 | .inr x=>.str x
noncomputable def mK (kk:List (Key×V)):List (List Key×V):=kk.map fun p=>([p.1],p.2)
noncomputable def OwnK (G H:Hp) (a:Addr):List PyData->Prop
 | [.dict kvs]=>∃ kk:List (Key×V),H a=some (.dK kk)/\kvs.map (·.1)=(mK kk).map (fun p=>PyData.tuple (p.1.map pJ))/\RepL G (kvs.map (·.2)) ((mK kk).map (·.2))
 | [.dict kvs,.none]=>∃ kk:List (PyData×V),H a=some (.dN kk)/\kvs.map (·.1)=kk.map (·.1)/\RepL G (kvs.map (·.2)) (kk.map (·.2))
 | _=>False
theorem OwnK.keep {G G' H H':Hp} {a:Addr} {xs:List PyData} (g:Same G G') (e:∀ o,H a=some o->H' a=some o) (h:OwnK G H a xs):OwnK G' H' a xs:=by
 unfold OwnK at h ⊢
 split at h
 . obtain ⟨kk,h1,h2,h3⟩:=h
   exact ⟨kk,e _ h1,h2,h3.mono g⟩
 . obtain ⟨kk,h1,h2,h3⟩:=h
   exact ⟨kk,e _ h1,h2,h3.mono g⟩
 . exact h.elim
theorem OwnK.is {G H:Hp} {a:Addr} {xs:List PyData} (h:OwnK G H a xs):∃ o,H a=.some o:=by
 unfold OwnK at h
 split at h
 . obtain ⟨kk,h1,_⟩:=h
   exact ⟨_,h1⟩
 . obtain ⟨kk,h1,_⟩:=h
   exact ⟨_,h1⟩
 . exact h.elim
noncomputable def OwnOk (G H:Hp) (a:Addr):PyData->Prop
 | .list ds=>∃ xs,H a=some (.lst xs)/\RepL G ds xs
 | .dict kvs=>∃ kk:List (List Key×V),H a=some (.dT kk)/\kvs.map (·.1)=kk.map (fun p=>PyData.tuple (p.1.map pJ))/\RepL G (kvs.map (·.2)) (kk.map (·.2))
 | .tuple xs=>OwnK G H a xs
 | _=>False
def FdOk (G:Hp) (o:Option V) (kvs:List (PyData×PyData)):Prop:=match kvs with
 | (.dict [],.none)::r=>∃ a,∃ kk:List (PyData×V),o=some (.ref a)/\Rd G a (.dN kk)/\r.map (·.1)=kk.map (·.1)/\RepL G (r.map (·.2)) (kk.map (·.2))
 | _=>∃ a ob,∃ kk:List (List Key×V),o=some (.ref a)/\G a=some (.frz ob (.dT kk))/\kvs.map (·.1)=kk.map (fun p=>PyData.tuple (p.1.map pJ))/\RepL G (kvs.map (·.2)) (kk.map (·.2))
theorem FdOk.mono {G G':Hp} {o:Option V} {kvs:List (PyData×PyData)} (g:Same G G') (h:FdOk G o kvs):FdOk G' o kvs:=by
 unfold FdOk at h ⊢
 split at h
 . obtain ⟨a,kk,h1,h2,h3,h4⟩:=h
   exact ⟨a,kk,h1,Rd.mono g h2,h3,h4.mono g⟩
 . obtain ⟨a,ob,kk,h1,h2,h3,h4⟩:=h
   exact ⟨a,ob,kk,h1,g _ _ h2,h3,h4.mono g⟩
noncomputable def SlOk (G H:Hp) (o:Option V):Sl->Prop
 | .un=>True
 | .sh d=>∃ v,o=some v/\Rep G d v
 | .ow d=>∃ a,o=some (.ref a)/\G a=none/\OwnOk G H a d
 | .fd kvs=>FdOk G o kvs
structure SR (G H:Hp) (σ:St) (δ:Dn):Prop where
 sub:Same G H
 len:σ.length=δ.length
 sl:∀ (i:Nat) (s:Sl),δ[i]? = some s->SlOk G H (σ[i]?.join) s
 ap:∀ (i j:Nat) (a:Addr) (d e:PyData),δ[i]? = some (.ow d)->δ[j]? = some (.ow e)->σ[i]?.join=some (.ref a)->σ[j]?.join=some (.ref a)->i=j
theorem OwnOk.some {G H:Hp} {a:Addr} {d:PyData} (h:OwnOk G H a d):∃ o,H a=some o:=by
 cases d with
 | list ds=>obtain ⟨xs,e,_⟩:=h; exact ⟨_,e⟩
 | dict kvs=>obtain ⟨xs,e,_⟩:=h; exact ⟨_,e⟩
 | tuple xs=>exact OwnK.is h
 | _=>exact (show False from h).elim
theorem OwnOk.grow {G H G' H':Hp} (g:Grow G H G' H') {a:Addr} {d:PyData} (h:OwnOk G H a d):OwnOk G' H' a d:=by
 cases d with
 | list ds=>obtain ⟨xs,e,r⟩:=h; exact ⟨xs,g.h _ _ e,r.mono g.g⟩
 | dict kvs=>obtain ⟨xs,e,k,r⟩:=h; exact ⟨xs,g.h _ _ e,k,r.mono g.g⟩
 | tuple xs=>exact OwnK.keep g.g (fun o e=>g.h _ _ e) h
 | _=>exact (show False from h).elim
theorem OwnOk.noTup {G H:Hp} {a:Addr} {d:PyData} (h:OwnOk G H a d) {xs:List V} (e:H a=.some (HO.tup xs)):False:=by
 cases d with
 | list ds=>obtain ⟨_,z,_⟩:=h; rw [e] at z; cases z
 | dict kvs=>obtain ⟨_,z,_⟩:=h; rw [e] at z; cases z
 | tuple ys =>
   have h':OwnK G H a ys:=h; unfold OwnK at h'
   split at h'
   . obtain ⟨_,z,_⟩:=h'; rw [e] at z; cases z
   . obtain ⟨_,z,_⟩:=h'; rw [e] at z; cases z
   . exact h'
 | _=>exact (show False from h).elim
theorem SlOk.grow {G H G' H':Hp} (g:Grow G H G' H') {o:Option V} {s:Sl} (h:SlOk G H o s):SlOk G' H' o s:=by
 cases s with
 | un=>trivial
 | sh d=>obtain ⟨v,e,r⟩:=h; exact ⟨v,e,r.mono g.g⟩
 | fd kvs=>exact FdOk.mono g.g h
 | ow d =>
   obtain ⟨a,e,n,r⟩:=h; refine ⟨a,e,?_,r.grow g⟩
   cases q:G' a with
   | none=>rfl
   | some u =>
     obtain ⟨o',eo⟩:=r.some; rcases g.fr a u q with z | z | ⟨xs,rfl⟩
     . rw [n] at z; cases z
     . rw [eo] at z; cases z
     . exact ((r.grow g).noTup (g.gh _ _ q)).elim
theorem SR.grow {G H G' H':Hp} {σ:St} {δ:Dn} (S:SR G H σ δ) (g:Grow G H G' H'):SR G' H' σ δ :=
 ⟨g.gh,S.len,fun i s e=>(S.sl i s e).grow g,S.ap⟩
abbrev EK:=Str->Hp->Prop
def Aft (E:EK) (G H:Hp) (r:Res PyData) (Q:VK):Prop:=match r with
 | .ok d=>∀ v G' H',Grow G H G' H'->Rep G' d v->Q v H'
 | .exc c=>∀ G' H',Grow G H G' H'->E c H'
 | .no=>False
def tD (E:EK) (f:Dn->Res PyData):TE:=fun σ H Q=>∃ G δ,SR G H σ δ/\Aft E G H (f δ) Q
abbrev DE (X:Cx) (E:EK) (e:Expr) (f:Dn->Res PyData):Prop:=PE X e (tD E f)
theorem Aft.grow {E:EK} {G H G' H':Hp} {r:Res PyData} {Q:VK} (g:Grow G H G' H') (a:Aft E G H r Q):Aft E G' H' r Q:=by
 cases r with
 | ok d=>exact fun v G2 H2 g2 q=>a v G2 H2 (g.trans g2) q
 | exc c=>exact fun G2 H2 g2=>a G2 H2 (g.trans g2)
 | no=>exact a
theorem PE.imp {X:Cx} {e:Expr} {t t':TE} (h:PE X e t) (i:∀ σ H Q,t' σ H Q->t σ H Q):PE X e t':=fun pins s σ H Q I q=>h pins s σ H Q I (i _ _ _ q)
theorem G6 {E:EK} {G H:Hp} {σ:St} {δ:Dn} {f:Dn->Res PyData} {k:PyData->Res PyData} {Q R:VK} (S:SR G H σ δ) (a:Aft E G H ((f δ).bind k) Q)
   (h:∀ d v G1 H1,Grow G H G1 H1->Rep G1 d v->SR G1 H1 σ δ->Aft E G1 H1 (k d) Q->R v H1):tD E f σ H R:=by
 refine ⟨G,δ,S,?_⟩
 cases e:f δ with
 | ok d =>
   rw [e] at a; exact fun v G' H' g r=>h d v G' H' g r (S.grow g) (Aft.grow g a)
 | exc c=>rw [e] at a; exact a
 | no=>rw [e] at a; exact a
noncomputable section
variable {X:Cx} {E:EK} {pos:Pos}
noncomputable def vC (d:PyData):Dn->Res PyData:=fun _=>.ok d
noncomputable def A0 (i:Nat):Dn->Res PyData:=fun δ=>match δ[i]? with
 | some (.sh d)=>.ok d
 | _=>.no
theorem A7 {i:Int} {j:Nat}:DE X E (.Constant (.int i) j pos) (vC (.int i)):=PE.imp Rk fun σ H Q hZ3=>by obtain ⟨G,δ,S,a⟩:=hZ3; exact a _ G H (Grow.refl S.sub) rfl
theorem Ce {b:Bool} {j:Nat}:DE X E (.Constant (.bool b) j pos) (vC (.bool b)):=PE.imp eV fun σ H Q hZ3=>by obtain ⟨G,δ,S,a⟩:=hZ3; exact a _ G H (Grow.refl S.sub) rfl
theorem Wv {j:Nat}:DE X E (.Constant .none j pos) (vC .none):=PE.imp oF fun σ H Q hZ3=>by obtain ⟨G,δ,S,a⟩:=hZ3; exact a _ G H (Grow.refl S.sub) rfl
theorem M6 {x:Str} {j:Nat} (h:PyData.strOk x=true:=by decide +kernel) (hl:x.length<=sizeLine:=by decide +kernel):DE X E (.Constant (.str x) j pos) (vC (.str x)) :=
 PE.imp Ri fun σ H Q hZ3=>by obtain ⟨G,δ,S,a⟩:=hZ3; exact a _ G H (Grow.refl S.sub) ⟨rfl,h,hl⟩
theorem Wu {i:Nat} {x:Str} (hN:X.N[i]? = some x) (hv:Vis X.env.scope x) (hd:(x==("__debug__" : Str))=false) (hcd:(x==("__classdict__" : Str))=false):DE X E (.Name x pos) (A0 i) :=
 PE.imp (Fd hN hv hd hcd) fun σ H Q hZ3=>by
   obtain ⟨G,δ,S,a⟩:=hZ3; unfold A0 at a
   split at a
   . rename_i d e
     obtain ⟨v,e1,r⟩:=S.sl i _ e; refine ⟨v,?_,a _ G H (Grow.refl S.sub) r⟩
     cases q:σ[i]? with
     | none=>rw [q] at e1; cases e1
     | some w=>rw [q] at e1; cases w with
       | none=>cases e1
       | some w=>cases e1; rfl
   . exact a.elim
noncomputable def b2 (f g:Dn->Res PyData) (op:PyData->PyData->Option PyData):Dn->Res PyData:=fun δ=>(f δ).bind fun x=>(g δ).bind fun y=>ofO (op x y)
def OpD (r:R2) (op:PyData->PyData->Option PyData):Prop:=∀ (G H:Hp) (x y:V) (a b d:PyData) (Q:VK),Same G H->Rep G a x->Rep G b y->op a b=some d->(∀ v G' H',Grow G H G' H'->Rep G' d v->Q v H')->r x y H Q
theorem cS {r:R2} {op:PyData->PyData->Option PyData} {f g:Dn->Res PyData} (ho:OpD r op) {σ:St} {H:Hp} {Q:VK} (h:tD E (b2 f g op) σ H Q):tOp r (tD E f) (tD E g) σ H Q:=by
 obtain ⟨G,δ,S,a⟩:=h
 refine G6 S a fun d1 v1 G1 H1 g1 r1 S1 a1=>?_
 refine G6 S1 a1 fun d2 v2 G2 H2 g2 r2 S2 a2=>?_
 cases e:op d1 d2 with
 | none=>rw [e] at a2; exact a2.elim
 | some d=>rw [e] at a2; exact ho G2 H2 v1 v2 d1 d2 d Q S2.sub (r1.mono g2.g) r2 e a2
theorem Yp {a b:Expr} {o:Operator} {r:R2} {op:PyData->PyData->Option PyData} {f g:Dn->Res PyData} (hr:OpR X (binaryOp o) r) (ho:OpD r op) (ha:DE X E a f) (hb:DE X E b g):DE X E (.BinOp a o b pos) (b2 f g op) :=
 PE.imp (pe_op hr ha hb) fun _ _ _ h=>cS ho h
theorem mW {a b:Expr} {o:CmpOp} {r:R2} {op:PyData->PyData->Option PyData} {f g:Dn->Res PyData} (hr:OpR X (compareOp o) r) (ho:OpD r op) (ha:DE X E a f) (hb:DE X E b g) (hm:behindInMarks o b=false):DE X E (.Compare a [o] [b] pos) (b2 f g op) :=
 PE.imp (jQ hr ha hb hm) fun _ _ _ h=>cS ho h
end
end Sm
end
noncomputable section
namespace Sm
open PySem PySem.Spec PyProof.Rows L2
noncomputable section
variable {X:Cx} {pins:List (Addr×Obj)} {σ:St} {H G:Hp} {s:Shared}
theorem R0 (I:Inv X pins σ H s) {a:Addr} {xs:List V} (hG:Same G H) (r:Rd G a (.lst xs)):xs.length<=sizeLine/\∃ (its:List Value) (n:Nat),Vals xs its/\s.heap.get? a=some { cls:=.type "list",data:=.seq its.toArray n } :=
 (Rd.ok (Rd.mono hG r) I.hok:ObjOk X.prog X.w H s.heap a (.lst xs))
theorem Fc (I:Inv X pins σ H s) {a:Addr} {xs:List V} (hG:Same G H) (r:G a=some (.tup xs)):xs.length<=sizeLine/\∃ its:List Value,Vals xs its/\IsTup s.heap a its.toArray :=
 (I.hok a _ (hG _ _ r):ObjOk X.prog X.w H s.heap a (.tup xs))
mutual
theorem Rep.reads (I:Inv X pins σ H s) (hG:Same G H):∀ {d:PyData} {v:V} {u:Value},Rep G d v->RelV v u->∃ as,Reads s.heap u d as
 | .none,_,_,r,q=>by cases (show _=_ from r); cases q; exact ⟨_,.none⟩
 | .bool _,_,_,r,q=>by cases (show _=_ from r); cases q; exact ⟨_,.bool _⟩
 | .int _,_,_,r,q=>by cases (show _=_ from r); obtain ⟨t,rfl⟩:=q; exact ⟨_,.int _ _⟩
 | .str _,_,_,r,q=>by cases r.1; obtain ⟨t,rfl⟩:=q; exact ⟨_,.str _ _⟩
 | .list _,_,_,r,q=>by
   obtain ⟨a,xs,rfl,h,l⟩:=r; cases q; obtain ⟨z,its,n,rv,e⟩:=R0 I hG h; obtain ⟨as,ra⟩:=RepL.reads I hG l rv; exact ⟨_,.list e rfl rfl (by simpa using ra)⟩
 | .tuple _,_,_,r,q=>by
   obtain ⟨a,xs,rfl,h,l⟩:=r; cases q; obtain ⟨z,its,rv,o,e,c,n,hd⟩:=Fc I hG h; obtain ⟨as,ra⟩:=RepL.reads I hG l rv; exact ⟨_,.tuple e c hd (by simpa using ra)⟩
 | .dict _,_,_,r,_=>r.elim
theorem RepL.reads (I:Inv X pins σ H s) (hG:Same G H):∀ {ds:List PyData} {xs:List V} {us:List Value},RepL G ds xs->Vals xs us->∃ as,ReadsAll s.heap us ds as
 | [],_,_,r,q=>by cases (show _=_ from r); cases q; exact ⟨_,.nil⟩
 | _::_,_,_,r,q=>by
   obtain ⟨x,t,rfl,h,l⟩:=r
   cases q with
   | cons q qs =>
     obtain ⟨as,r1⟩:=Rep.reads I hG h q; obtain ⟨bs,r2⟩:=RepL.reads I hG l qs; exact ⟨_,.cons r1 r2⟩
end
end
noncomputable def dEq (a b:PyData):Option PyData:=if min a.depth b.depth<=64 then some (.bool (PyData.eqv a b)) else none
noncomputable def dNe (a b:PyData):Option PyData:=if min a.depth b.depth<=64 then some (.bool (!PyData.eqv a b)) else none
def jG (neg:Bool):R2:=fun x y H Q=>∃ G a b,Same G H/\Rep G a x/\Rep G b y/\min a.depth b.depth<=64/\Q (.bl (if neg then !PyData.eqv a b else PyData.eqv a b)) H
noncomputable section
variable {X:Cx}
theorem fA (hu:X.A.units+64 < cLine):OpR X (compareOp .Eq) (jG false):=by
 rintro pins s σ H x y v u Q I rx ry ⟨G,a,b,hG,ra,rb,hm,q⟩
 obtain ⟨as,r1⟩:=ra.reads I hG rx
 obtain ⟨bs,r2⟩:=rb.reads I hG ry
 exact SeqAt.compareEq_reads r1 r2 ra.lay rb.lay (by lia) ⟨.bl _,H,I,rfl,q⟩
theorem oK (hu:X.A.units+64 < cLine):OpR X (compareOp .NotEq) (jG true):=by
 rintro pins s σ H x y v u Q I rx ry ⟨G,a,b,hG,ra,rb,hm,q⟩
 obtain ⟨as,r1⟩:=ra.reads I hG rx
 obtain ⟨bs,r2⟩:=rb.reads I hG ry
 exact SeqAt.compareNe_reads r1 r2 ra.lay rb.lay (by lia) ⟨.bl _,H,I,rfl,q⟩
theorem fC:OpD (jG false) dEq:=by
 intro G H x y a b d Q hG ra rb e q
 unfold dEq at e
 split at e
 . rename_i h; cases e; exact ⟨G,a,b,hG,ra,rb,h,q _ G H (Grow.refl hG) rfl⟩
 . cases e
theorem oO:OpD (jG true) dNe:=by
 intro G H x y a b d Q hG ra rb e q
 unfold dNe at e
 split at e
 . rename_i h; cases e; exact ⟨G,a,b,hG,ra,rb,h,q _ G H (Grow.refl hG) rfl⟩
 . cases e
end
noncomputable def mP (x y:Str):Bool := !(Builtin.Str.occurrences y x 0 y.length 1).isEmpty
noncomputable def dIn (neg:Bool) (a b:PyData):Option PyData:=match b with
 | .list ds=>if min (PyData.depthAll ds) a.depth<=62 then some (.bool (if neg then !ds.any fun y=>PyData.eqv y a else ds.any fun y=>PyData.eqv y a)) else none
 | .tuple ds=>if min (PyData.depthAll ds) a.depth<=62 then some (.bool (if neg then !ds.any fun y=>PyData.eqv y a else ds.any fun y=>PyData.eqv y a)) else none
 | .str y=>match a with
   | .str x=>some (.bool (if neg then !mP x y else mP x y))
   | _=>none
 | _=>none
def nZ (neg:Bool):R2:=fun x y H Q=>∃ G a b d,Same G H/\Rep G a x/\Rep G b y/\dIn neg a b=some (.bool d)/\Q (.bl d) H
noncomputable section
variable {X:Cx}
theorem eZ (hu:X.A.units+64 < cLine):OpR X (compareOp .In) (nZ false):=by
 rintro pins s σ H x y v u Q I rx ry ⟨G,a,b,d,hG,ra,rb,e,q⟩
 cases b with
 | list ds =>
   replace e:(if _ then _ else _)=some _:=e
   split at e
   . rename_i h
     cases e; obtain ⟨as,r1⟩:=ra.reads I hG rx; obtain ⟨bs,r2⟩:=rb.reads I hG ry; exact SeqAt.in_list_reads r2 r1 rb.lay ra.lay (by lia) ⟨.bl _,H,I,rfl,q⟩
   . cases e
 | tuple ds =>
   replace e:(if _ then _ else _)=some _:=e
   split at e
   . rename_i h
     cases e; obtain ⟨as,r1⟩:=ra.reads I hG rx; obtain ⟨bs,r2⟩:=rb.reads I hG ry; exact SeqAt.in_tuple_reads r2 r1 rb.lay ra.lay (by lia) ⟨.bl _,H,I,rfl,q⟩
   . cases e
 | str z =>
   cases a with
   | str z' =>
     cases e
     cases ra.1; cases rb.1
     obtain ⟨t,rfl⟩:=rx; obtain ⟨t',rfl⟩:=ry; exact in_str ⟨.bl _,H,I,rfl,q⟩
   | _=>cases e
 | _=>cases e
theorem aI (hu:X.A.units+64 < cLine):OpR X (compareOp .NotIn) (nZ true):=by
 rintro pins s σ H x y v u Q I rx ry ⟨G,a,b,d,hG,ra,rb,e,q⟩
 cases b with
 | list ds =>
   replace e:(if _ then _ else _)=some _:=e
   split at e
   . rename_i h
     cases e; obtain ⟨as,r1⟩:=ra.reads I hG rx; obtain ⟨bs,r2⟩:=rb.reads I hG ry; exact SeqAt.notIn_list_reads r2 r1 rb.lay ra.lay (by lia) ⟨.bl _,H,I,rfl,q⟩
   . cases e
 | tuple ds =>
   replace e:(if _ then _ else _)=some _:=e
   split at e
   . rename_i h
     cases e; obtain ⟨as,r1⟩:=ra.reads I hG rx; obtain ⟨bs,r2⟩:=rb.reads I hG ry; exact SeqAt.notIn_tuple_reads r2 r1 rb.lay ra.lay (by lia) ⟨.bl _,H,I,rfl,q⟩
   . cases e
 | str z =>
   cases a with
   | str z' =>
     cases e
     cases ra.1; cases rb.1
     obtain ⟨t,rfl⟩:=rx; obtain ⟨t',rfl⟩:=ry; exact notIn_str ⟨.bl _,H,I,rfl,q⟩
   | _=>cases e
 | _=>cases e
theorem Mv {neg:Bool} {a b d:PyData} (e:dIn neg a b=some d):∃ k,d=.bool k:=by
 cases b with
 | list ds=>replace e:(if _ then _ else _)=some _:=e; split at e <;> cases e; exact ⟨_,rfl⟩
 | tuple ds=>replace e:(if _ then _ else _)=some _:=e; split at e <;> cases e; exact ⟨_,rfl⟩
 | str z=>cases a with
   | str z'=>cases e; exact ⟨_,rfl⟩
   | _=>cases e
 | _=>cases e
theorem We {neg:Bool}:OpD (nZ neg) (dIn neg):=by
 intro G H x y a b d Q hG ra rb e q
 obtain ⟨k,rfl⟩:=Mv e
 exact ⟨G,a,b,k,hG,ra,rb,e,q _ G H (Grow.refl hG) rfl⟩
end
noncomputable def C9:PyData->PyData->Option PyData
 | .int i,.int j=>some (.int (i+j))
 | .str x,.str y=>if x.length+y.length<=sizeLine then some (.str (x++y)) else none
 | .list xs,.list ys=>if xs.length+ys.length<=sizeLine then some (.list (xs++ys)) else none
 | .tuple xs,.tuple ys=>if xs.length+ys.length<=sizeLine then some (.tuple (xs++ys)) else none
 | _,_=>none
def mH:R2:=fun x y H Q=>∃ G a b d,Same G H/\Rep G a x/\Rep G b y/\C9 a b=some d/\∀ v G' H',Grow G H G' H'->Rep G' d v->Q v H'
theorem Bs {x y:Str} (hx:PyData.strOk x=true) (hy:PyData.strOk y=true):PyData.strOk (x++y)=true:=by
 unfold PyData.strOk at *
 show (x.cps++y.cps).all _=true
 rw [Array.all_append,hx,hy]; rfl
theorem Ks (x y:Str):(x++y).length=x.length+y.length:=by
 show (x.cps++y.cps).size=_
 rw [Array.size_append]; rfl
noncomputable section
variable {X:Cx}
theorem Rt {pins:List (Addr×Obj)} {σ:St} {H G:Hp} {s:Shared} {Q:VK} {ds:List PyData} {xs:List V} {its:List Value} {t':Nat} (I:Inv X pins σ H s) (hG:Same G H) (rv:Vals xs its) (rl:RepL G ds xs) (hz:xs.length<=sizeLine)
   (q:∀ v G' H',Grow G H G' H'->Rep G' (.tuple ds) v->Q v H'):EP X pins σ Q (.ref s.heap.objs.size) { s with heap:=s.heap.push { cls:=.type "tuple",data:=.seq its.toArray },toks:=t' }:=by
 refine ⟨.ref s.heap.objs.size,_,I.laid (t':=t') (o:=.tup xs) (fun b ob q=>Heap.get?_push_of_some _ q) (Nat.le_refl _) ⟨hz,its,rv,IsTup.new _ _⟩,rfl,q _ (upd G s.heap.objs.size (.tup xs)) _ (Grow.new hG I.fresh) ⟨_,xs,rfl,B7,rl.mono (Same.upd (hG.free I.fresh))⟩⟩
theorem Rv {pins:List (Addr×Obj)} {σ:St} {H G:Hp} {s:Shared} {Q:VK} {ds:List PyData} {xs:List V} {its:List Value} {t':Nat} (I:Inv X pins σ H s) (hG:Same G H) (rv:Vals xs its) (rl:RepL G ds xs) (hz:xs.length<=sizeLine)
   (q:∀ v G' H',Grow G H G' H'->Rep G' (.list ds) v->Q v H'):EP X pins σ Q (.ref s.heap.objs.size) { s with heap:=s.heap.push { cls:=.type "list",data:=.seq its.toArray },toks:=t' }:=by
 refine ⟨.ref s.heap.objs.size,_,I.lnew (t':=t') rv hz,rfl,q _ (upd G s.heap.objs.size (.lst xs)) _ (Grow.new hG I.fresh) ⟨_,xs,rfl,.inl B7,rl.mono (Same.upd (hG.free I.fresh))⟩⟩
theorem jU:OpR X (binaryOp .Add) mH:=by
 rintro pins s σ H x y v u Q I rx ry ⟨G,a,b,d,hG,ra,rb,e,q⟩
 cases a with
 | int i=>cases b with
   | int j =>
     cases e
     cases (show _=_ from ra); cases (show _=_ from rb)
     obtain ⟨t,rfl⟩:=rx; obtain ⟨t',rfl⟩:=ry; exact add_int ⟨.int _,H,I.tok _,⟨_,rfl⟩,q _ G H (Grow.refl hG) rfl⟩
   | _=>cases e
 | str i=>cases b with
   | str j =>
     replace e:(if _ then _ else _)=some d:=e
     split at e
     . rename_i hz
       cases e; obtain ⟨e1,o1,_⟩:=ra; obtain ⟨e2,o2,_⟩:=rb
       cases e1; cases e2
       obtain ⟨t,rfl⟩:=rx; obtain ⟨t',rfl⟩:=ry; exact add_str (fun t' tk=>⟨.str (i++j),H,I.tok _,⟨_,rfl⟩,q _ G H (Grow.refl hG) ⟨rfl,Bs o1 o2,by rw [Ks]; exact hz⟩⟩) hz
     . cases e
   | _=>cases e
 | list xs=>cases b with
   | list ys =>
     replace e:(if _ then _ else _)=some d:=e
     split at e
     . rename_i hz
       cases e; obtain ⟨l,vs,rfl,h1,l1⟩:=ra; obtain ⟨l',ws,rfl,h2,l2⟩:=rb
       cases rx; cases ry
       obtain ⟨z1,its1,n1,v1,e1⟩:=R0 I hG h1; obtain ⟨z2,its2,n2,v2,e2⟩:=R0 I hG h2; have q1:=v1.length; have q2:=v2.length; have q3:=l1.length; have q4:=l2.length; refine PySem.P.add_list e1 e2 ?_ (by rw [List.size_toArray,List.size_toArray]; lia)
       have ea:its1.toArray++its2.toArray=(its1++its2).toArray:=by simp
       rw [ea]; exact Rv (t':=s.toks) I hG (v1.append v2) (l1.append l2) (by rw [List.length_append]; lia) q
     . cases e
   | _=>cases e
 | tuple xs=>cases b with
   | tuple ys =>
     replace e:(if _ then _ else _)=some d:=e
     split at e
     . rename_i hz
       cases e; obtain ⟨l,vs,rfl,h1,l1⟩:=ra; obtain ⟨l',ws,rfl,h2,l2⟩:=rb
       cases rx; cases ry
       obtain ⟨z1,its1,v1,p1⟩:=Fc I hG h1; obtain ⟨z2,its2,v2,p2⟩:=Fc I hG h2; have q1:=v1.length; have q2:=v2.length; have q3:=l1.length; have q4:=l2.length
       by_cases hx:its1=[]
       . subst hx
         obtain ⟨⟨cls,dd,data,sl⟩,ho,hc,n,hd⟩:=id p1; obtain ⟨⟨cls2,dd2,data2,sl2⟩,ho2,hc2,n2,hd2⟩:=id p2; simp only at hc hd hc2 hd2; subst hc hd hc2 hd2; refine concat_meets ⟨_,ho,rfl⟩ ⟨_,ho2,rfl⟩ noFill_tuple_add seq_tuple_add PySem.F.slot_tuple_add PySem.F.entry_tuple_add (PySem.F.args_tuple_add_2 _ _)
           (tuple_addW0 l l' _ _ n n2 dd dd2 sl sl2 (by simp)) ⟨ho,ho2,?_⟩
         have hxs:xs=[]:=by
           have:xs.length=0:=by rw [q3,q1]; rfl
           exact List.length_eq_zero_iff.mp this
         subst hxs; exact ⟨.ref l',H,I,rfl,q _ G H (Grow.refl hG) ⟨l',ws,rfl,h2,l2⟩⟩
       . refine HT.cat_tup p1 p2 hx (fun hy=>?_) (fun hy=>?_) (by lia)
         . subst hy
           have hys:ys=[]:=by
             have:ys.length=0:=by rw [q4,q2]; rfl
             exact List.length_eq_zero_iff.mp this
           subst hys; rw [List.append_nil] at q; exact ⟨.ref l,H,I,rfl,q _ G H (Grow.refl hG) ⟨l,vs,rfl,h1,l1⟩⟩
         . exact Rt (t':=s.toks) I hG (v1.append v2) (l1.append l2) (by rw [List.length_append]; lia) q
     . cases e
   | _=>cases e
 | _=>cases e
theorem jX:OpD mH C9:=fun G H x y a b d Q hG ra rb e q=>⟨G,a,b,d,hG,ra,rb,e,q⟩
noncomputable def dSub:PyData->PyData->Option PyData
 | .int i,.int j=>some (.int (i - j))
 | _,_=>none
noncomputable def Oi:PyData->PyData->Option PyData
 | .int i,.int j=>if 0 < j then some (.int (i % j)) else none
 | _,_=>none
noncomputable def Iu:PyData->PyData->Option PyData
 | .int i,.int j=>if 0 < j/\j < 1073741824 then some (.int (i / j)) else none
 | _,_=>none
theorem Yb {r:R2} {op:PyData->PyData->Option PyData} (h:∀ a b d,op a b=some d->∃ i j k,a=.int i/\b=.int j/\d=.int k/\∀ H Q,Q (V.int k) H->r (.int i) (.int j) H Q):OpD r op:=by
 intro G H x y a b d Q hG ra rb e q
 obtain ⟨i,j,k,rfl,rfl,rfl,hr⟩:=h a b d e
 cases (show _=_ from ra); cases (show _=_ from rb)
 exact hr H Q (q _ G H (Grow.refl hG) rfl)
theorem jW:OpD (rI (fun _ j=>0 < j) fun i j=>.int (i % j)) Oi:=Yb fun a b d e=>by
 unfold Oi at e
 split at e
 . split at e
   . rename_i h; cases e; exact ⟨_,_,_,rfl,rfl,rfl,fun H Q q=>⟨_,_,rfl,rfl,h,q⟩⟩
   . cases e
 . cases e
theorem fB:OpD (rI CDiv fun i j=>.int (i / j)) Iu:=Yb fun a b d e=>by
 unfold Iu at e
 split at e
 . split at e
   . rename_i h; cases e; exact ⟨_,_,_,rfl,rfl,rfl,fun H Q q=>⟨_,_,rfl,rfl,h,q⟩⟩
   . cases e
 . cases e
end
end Sm
end
noncomputable section
namespace Sm
open PySem PySem.Spec PyProof.Rows L2
open PySem.AutoSeq1 (wpAny_loadPart')
noncomputable def L8 (n:Nat) (x:Str):Str:=⟨(List.replicate n x.cps).foldl (· ++ ·) #[]⟩
theorem bF (l:List (Array Nat)):∀ acc:Array Nat,(l.foldl (· ++ ·) acc).toList=acc.toList++(l.map Array.toList).flatten:=by
 induction l with
 | nil=>intro acc; simp
 | cons a l ih=>intro acc; rw [List.foldl_cons,ih]; simp
theorem U8 (n:Nat) (x:Str):(L8 n x).cps.toList=(List.replicate n x.cps.toList).flatten:=by
 unfold L8
 rw [bF]; simp
theorem Zr {x:Str} (h:PyData.strOk x=true) (n:Nat):PyData.strOk (L8 n x)=true:=by
 unfold PyData.strOk at *
 rw [<- Array.all_toList,List.all_eq_true] at *
 rw [U8]
 intro c hc
 obtain ⟨l,hl,hc⟩:=List.mem_flatten.mp hc
 rw [List.eq_of_mem_replicate hl] at hc
 exact h c hc
theorem Kt (n:Nat) (x:Str):(L8 n x).length=n*x.length:=by
 show (L8 n x).cps.size=n*x.cps.size
 rw [<- Array.length_toList,U8,Yf,Array.length_toList]
theorem Sz (x:Str):L8 0 x=Str.empty:=rfl
theorem Vt (x:Str):L8 1 x=x:=by
 have:(L8 1 x).cps=x.cps:=by
   apply Array.toList_inj.mp
   rw [U8]; simp
 cases x; cases h:L8 1 _; rw [h] at this; cases this; rfl
theorem Vu {x:Str} (n:Nat) (h:x.length=0):L8 n x=x:=by
 have hx:x.cps = #[]:=Array.size_eq_zero_iff.mp h
 have:(L8 n x).cps=x.cps:=by
   apply Array.toList_inj.mp
   rw [U8,hx]; simp
 cases x; cases h:L8 n _; rw [h] at this; cases this; rfl
noncomputable def P3:PyData->PyData->Option PyData
 | .int i,.int j=>if (-(2 ^ 64) < i/\i < 2 ^ 64)\/(-(2 ^ 64) < j/\j < 2 ^ 64) then some (.int (i*j)) else none
 | .str x,.int n=>if -(2 ^ 63)<=n/\n < 2 ^ 63/\x.length*n.toNat<=sizeLine then some (.str (L8 n.toNat x)) else none
 | .list xs,.int n=>if -(2 ^ 63)<=n/\n < 2 ^ 63/\xs.length*n.toNat<=sizeLine then some (.list (List.replicate n.toNat xs).flatten) else none
 | _,_=>none
def mF:R2:=fun x y H Q=>∃ G a b d,Same G H/\Rep G a x/\Rep G b y/\P3 a b=some d/\∀ v G' H',Grow G H G' H'->Rep G' d v->Q v H'
theorem jV:OpD mF P3:=fun G H x y a b d Q hG ra rb e q=>⟨G,a,b,d,hG,ra,rb,e,q⟩
theorem aK:fillsNumberSlot (.type "tuple") "mul" = pure false:=by
 unfold fillsNumberSlot
 first | rfl | kernel_rfl | decide +kernel
theorem jE:seqRepeat? (.type "tuple")=pure (some (.builtin "tuple.__mul__")):=by
 unfold seqRepeat?
 first | rfl | kernel_rfl
theorem gB (a:Int) (t:Tok) (l:Addr) (items:Array Value) (n:Nat) (dd:Option Addr) (sl:Array (Option Value)) :
   Meets (Builtin.«int.__rmul__» ⟨[.int a t,.ref l],[]⟩) (fun _ R s=>s.heap.get? l=some { cls:=.type "tuple",dict:=dd,data:=.seq items n,slots:=sl }/\R (.ok (.ret Value.notImplemented)) s) :=
 .of_wp fun prog w A R s h=>by obtain ⟨hp,g,d,tk,os⟩:=s; obtain ⟨hl,h⟩:=h; wp_walk; exact ⟨_,rfl,h⟩
theorem cL (l:Addr) (items:Array Value) (n:Nat) (x:Int) (u:Tok) (dd:Option Addr) (sl:Array (Option Value)) (h1:¬ (decide (x < -(2 ^ 63:Int))||decide (x≥2 ^ 63))=true) (h2:¬ (items.isEmpty||x==1)=true) (h3:¬ (decide (x<=0)||items.isEmpty)=true)
   (h4:¬ (items.size:Int)*x>(2 ^ 63 - 1) / 8) (h5:¬ Builtin.Tuple.tupleTooMany (items.size*x)=true) (h6:(List.foldl (fun x1 x2=>x1++x2) #[] (List.replicate x.toNat items)).size<=sizeLine) :
   Meets (Builtin.«tuple.__mul__» ⟨[.ref l,.int x u],[]⟩) (fun _ R s=>s.heap.get? l=some { cls:=.type "tuple",dict:=dd,data:=.seq items n,slots:=sl }/\R (.ok (.ret (Value.ref s.heap.objs.size))) { s with heap:=s.heap.push { cls:=Value.type "tuple",data:=Data.seq (List.foldl (fun x1 x2=>x1++x2) #[] (List.replicate x.toNat items)) },toks:=s.toks }) :=
 .of_wp fun prog w A R s h=>by
   obtain ⟨hp,g,d,tk,os⟩:=s; obtain ⟨hl,h⟩:=h
   have f1:=AutoSeq1.idx_int
   wp_walk using wpAny_loadPart' hl
   rw [if_neg h1]
   wp_walk using wpAny_loadPart' hl
   rw [if_neg h4]
   wp_walk using wpAny_loadPart' hl
   exact ⟨_,rfl,h⟩
theorem cK (l:Addr) (items:Array Value) (n:Nat) (x:Int) (u:Tok) (dd:Option Addr) (sl:Array (Option Value)) (h1:¬ (decide (x < -(2 ^ 63:Int))||decide (x≥2 ^ 63))=true) (h2:(items.isEmpty||x==1)=true) :
   Meets (Builtin.«tuple.__mul__» ⟨[.ref l,.int x u],[]⟩) (fun _ R s=>s.heap.get? l=some { cls:=.type "tuple",dict:=dd,data:=.seq items n,slots:=sl }/\R (.ok (.ret (.ref l))) s) :=
 .of_wp fun prog w A R s h=>by
   obtain ⟨hp,g,d,tk,os⟩:=s; obtain ⟨hl,h⟩:=h
   have f1:=AutoSeq1.idx_int
   wp_walk using wpAny_loadPart' hl
   rw [if_neg h1]
   wp_walk using wpAny_loadPart' hl
   exact ⟨_,rfl,h⟩
noncomputable section
variable {X:Cx}
theorem jR:OpR X (binaryOp .Mult) mF:=by
 rintro pins s σ H x y v u Q I rx ry ⟨G,a,b,d,hG,ra,rb,e,q⟩
 have h63:=Ca
 obtain ⟨k,rfl⟩:∃ k,b=.int k:=by unfold P3 at e; split at e <;> first | exact ⟨_,rfl⟩ | cases e
 cases (show _=_ from rb)
 obtain ⟨t',rfl⟩:=ry
 cases a with
 | int i =>
   replace e:(if _ then _ else _)=some d:=e
   split at e
   . rename_i hc
     cases e
     cases (show _=_ from ra)
     obtain ⟨t,rfl⟩:=rx; exact mul_int ⟨.int _,H,I.tok _,⟨_,rfl⟩,q _ G H (Grow.refl hG) rfl⟩ (CMul.ok hc)
   . cases e
 | str z =>
   replace e:(if _ then _ else _)=some d:=e
   split at e
   . rename_i hc
     obtain ⟨hc1,hc2,hc3⟩:=hc; cases e; obtain ⟨e1,o1,l1⟩:=ra; cases e1; obtain ⟨t,rfl⟩:=rx; have fin:∀ tk,Q (.str (L8 k.toNat z)) H/\Inv X pins σ H { s with toks:=tk }:=fun tk=>⟨q _ G H (Grow.refl hG) ⟨rfl,Zr o1 _,by rw [Kt,Nat.mul_comm]; exact hc3⟩,I.tok _⟩
     refine PySem.P.mul_str (by rw [decide_eq_false (by lia),decide_eq_false (by lia)]; rfl) (fun h1 _=>?_) (fun h1 _=>?_) ?_
     . intro hgt
       have hk:(0:Int) < k:=by lia
       have h2:(2 ^ 63 - 1) / k+1<=(z.length:Int):=by lia
       have h3:(2 ^ 63 - 1:Int) < ((2 ^ 63 - 1) / k+1)*k:=Int.lt_ediv_add_one_mul_self _ hk; have h4:((2 ^ 63 - 1) / k+1)*k<=(z.length:Int)*k:=Int.mul_le_mul_of_nonneg_right h2 (by lia)
       have h5:(z.length:Int)*k=((z.length*k.toNat:Nat):Int):=by
         rw [Int.natCast_mul,Int.toNat_of_nonneg (by lia)]
       lia
     . unfold Builtin.Str.tooLong
       exact decide_eq_false (by lia)
     . by_cases h1:k < 1
       . rw [if_pos h1]
         have:k.toNat=0:=by lia
         rw [this,Sz] at fin; exact ⟨by decide,⟨.str _,H,(fin _).2,⟨_,rfl⟩,(fin 0).1⟩⟩
       . rw [if_neg h1]
         by_cases h2:(k==1||z.length==0)=true
         . rw [if_pos h2]
           rw [Bool.or_eq_true] at h2; have ez:L8 k.toNat z=z:=by
             rcases h2 with h2 | h2
             . have:k=1:=eq_of_beq h2
               subst this; exact Vt z
             . exact Vu _ (eq_of_beq h2)
           rw [ez] at fin; exact ⟨.str _,H,I,⟨_,rfl⟩,(fin 0).1⟩
         . rw [if_neg h2]
           exact ⟨by show (L8 k.toNat z).length<=_; rw [Kt,Nat.mul_comm]; exact hc3,⟨.str _,H,(fin _).2,⟨_,rfl⟩,(fin 0).1⟩⟩
   . cases e
 | list xs =>
   replace e:(if _ then _ else _)=some d:=e
   split at e
   . rename_i hc
     obtain ⟨hc1,hc2,hc3⟩:=hc; cases e; obtain ⟨l,vs,rfl,h1,l1⟩:=ra; cases rx; have q3:=l1.length; obtain ⟨z,its,n,r,e⟩:=R0 I hG h1; have hl:=r.length; have hlen:its.toArray.size*k.toNat<=sizeLine:=by rw [List.size_toArray,<- hl,<- q3]; exact hc3
     have hcap:¬ its.toArray.size*k.toNat>(2 ^ 63 - 1) / 8:=by
       have:(sizeLine:Nat)<=(2 ^ 63 - 1) / 8:=by decide
       lia
     have hfit:¬ (!Builtin.List.listFitsIndex k)=true:=by
       rw [fitsIndex_both hc1 hc2]; exact Bool.false_ne_true
     have hlong:¬ Builtin.List.listTooLong (its.toArray.size*k.toNat)=true:=by
       rw [Tv hlen]; exact Bool.false_ne_true
     have hnew:List.foldl (fun x1 x2=>x1++x2) #[] (List.replicate (if its.toArray.isEmpty=true then 0 else k.toNat) its.toArray)=(List.replicate k.toNat its).flatten.toArray:=by
       have f0:∀ m:Nat,List.foldl (fun x1 x2=>x1++x2) #[] (List.replicate m its.toArray)=(List.replicate m its).flatten.toArray:=fun m=>by
         have:=Ps its m []; rw [List.nil_append] at this; exact this
       rw [f0]
       cases its with
       | nil=>simp
       | cons a r'=>rw [if_neg (by simp)]
     refine wpAny_binaryOp_repeat_ref (T := "list") (U := "int") (by decide) ⟨_,e,rfl⟩ (fun s'=>typeIs_int s' k t') noFill_list_mul F.fills_int_mul F.slot_int_rmul repeat_list F.slot_int_index.lookup
       (call_meets F.slot_int_rmul (typeIs_int s k t') F.entry_int_rmul (F.args_int_rmul_2 _ _) (int___rmul___int_list k t' l its.toArray n)
         ⟨e,rfl,⟨_,e,rfl⟩,call_meets F.slot_list_mul ⟨_,e,rfl⟩ F.entry_list_mul (F.args_list_mul_2 _ _) (AutoListH.list___mul___list_int_3 l its.toArray n k t' hfit hcap hlong) ⟨e,?_⟩⟩)
     rw [hnew]; exact Rv (t':=s.toks) I hG (r.rep k.toNat) (l1.rep k.toNat) (by rw [Yf,Nat.mul_comm,<- q3]; exact hc3) q
   . cases e
 | _=>cases e
end
end Sm
end
noncomputable section
namespace Sm
open PySem PySem.Spec PyProof.Rows L2
open PySem.AutoSeq1 (wpAny_loadPart')
open PySem.MeetsSeq PySem.MeetsSeq2 PySem.MeetsSeq3
noncomputable def gE:CmpOp->Int->Int->Bool
 | .Lt,i,j=>decide (i < j)
 | .LtE,i,j=>decide (i<=j)
 | .Gt,i,j=>decide (j < i)
 | _,i,j=>decide (j<=i)
noncomputable def aC:CmpOp->Str->Str->Bool
 | .Lt,x,y=>decide (x.cps.toList < y.cps.toList)
 | .LtE,x,y => !decide (y.cps.toList < x.cps.toList)
 | .Gt,x,y=>decide (y.cps.toList < x.cps.toList)
 | _,x,y => !decide (x.cps.toList < y.cps.toList)
noncomputable def Vk:CmpOp->Nat->Nat->Bool
 | .Lt,m,n=>decide (m < n)
 | .LtE,m,n=>decide (m<=n)
 | .Gt,m,n=>decide (m>n)
 | _,m,n=>decide (m≥n)
noncomputable def Ya:CmpOp->Bool
 | .Lt=>true | .LtE=>true | .Gt=>true | .GtE=>true | _=>false
mutual
noncomputable def bM (op:CmpOp):PyData->PyData->Option Bool
 | .int i,.int j=>some (gE op i j)
 | .str x,.str y=>some (aC op x y)
 | .tuple xs,.tuple ys=>Fp op xs ys
 | _,_=>none
noncomputable def Fp (op:CmpOp):List PyData->List PyData->Option Bool
 | [],ys=>some (Vk op 0 ys.length)
 | x::xs,[]=>some (Vk op (xs.length+1) 0)
 | x::xs,y::ys=>if PyData.eqv x y=true then Fp op xs ys else bM op x y
end
def iE (op:CmpOp) (A:Around) (s:Shared) (u v:Value) (k:Bool):Prop:=∀ (prog:Program) (w:World) (E:Value->Shared->Prop) (Q:Value->Shared->Prop),Q (.bool k) s->wpAny (model prog w) A (richCompare op u v) Q E s
theorem nX {op:CmpOp} (h:Ya op=true) (A:Around) (s:Shared) (i j:Int) (t u:Tok):iE op A s (.int i t) (.int j u) (gE op i j):=fun prog w E Q q=>by
 cases op with
 | Lt=>exact (lt_int q:wpAny (model prog w) A (compareOp .Lt (.int i t) (.int j u)) Q E s)
 | LtE=>exact (le_int q:wpAny (model prog w) A (compareOp .LtE (.int i t) (.int j u)) Q E s)
 | Gt=>exact (gt_int q:wpAny (model prog w) A (compareOp .Gt (.int i t) (.int j u)) Q E s)
 | GtE=>exact (ge_int q:wpAny (model prog w) A (compareOp .GtE (.int i t) (.int j u)) Q E s)
 | _=>cases h
theorem nW {op:CmpOp} (h:Ya op=true) (A:Around) (s:Shared) (x y:Str) (t u:Tok):iE op A s (.str x t) (.str y u) (aC op x y):=fun prog w E Q q=>by
 cases op with
 | Lt=>exact (PySem.P.lt_str q:wpAny (model prog w) A (compareOp .Lt (.str x t) (.str y u)) Q E s)
 | LtE=>exact (PySem.P.le_str (by simpa [aC] using q):wpAny (model prog w) A (compareOp .LtE (.str x t) (.str y u)) Q E s)
 | Gt=>exact (PySem.P.gt_str q:wpAny (model prog w) A (compareOp .Gt (.str x t) (.str y u)) Q E s)
 | GtE=>exact (PySem.P.ge_str (by simpa [aC] using q):wpAny (model prog w) A (compareOp .GtE (.str x t) (.str y u)) Q E s)
 | _=>cases h
def Am (op:CmpOp) (A:Around) (s:Shared) (vs ws:List Value) (ds es:List PyData):Prop :=
 ∀ (i:Nat) (v w:Value) (d e:PyData),vs[i]? = some v->ws[i]? = some w->ds[i]? = some d->es[i]? = some e->SeqAt.EqAt A s v w (PyData.eqv d e)/\∀ k,bM op d e=some k->iE op A s v w k
theorem Ni (l b:Addr) (items items2:Array Value) (n n2:Nat) (dd dd2:Option Addr) (sl sl2:Array (Option Value)) (ds es:List PyData) (k:Bool) (hz1:items.toList.length=ds.length) (hz2:items2.toList.length=es.length) (hk:Fp .Lt ds es=some k) :
   Meets (Builtin.«tuple.__lt__» ⟨[.ref l,.ref b],[]⟩)
     (fun A R s=>s.heap.get? l=some { cls:=.type "tuple",dict:=dd,data:=.seq items n,slots:=sl }/\s.heap.get? b=some { cls:=.type "tuple",dict:=dd2,data:=.seq items2 n2,slots:=sl2 } /\
       Am .Lt A.in1 s items.toList items2.toList ds es/\R (.ok (.ret (.bool k))) s) :=
 .of_wp fun prog w A R s h=>by
   obtain ⟨hp,g,d,tk,os⟩:=s; obtain ⟨hl,hb,hI,h⟩:=h
   have f2:=AutoSeq1.sub_tuple_tuple; have z1:items.size=ds.length:=by rw [<- hz1]; simp
   have z2:items2.size=es.length:=by rw [<- hz2]; simp
   wp_walk using wpAny_loadPart' hl,wpAny_loadPart' hb,wpAny_forIn_list _ (fun Q4 b s'=>b.1=none/\s'=⟨hp,g,d,tk,os⟩/\∃ (vs ws:List Value) (ds' es':List PyData),Q4=vs.zip ws /\
     vs.length=ds'.length/\ws.length=es'.length/\ds'.length+items2.size=es'.length+items.size/\Am .Lt A.in1 ⟨hp,g,d,tk,os⟩ vs ws ds' es'/\Fp .Lt ds' es'=some k) _
   case turn =>
     rintro ⟨y,x⟩ Q4 b s' ⟨hb',rfl,vs,ws,ds',es',hz,hv,hw,hlen,hI',hR⟩
     cases vs with
     | nil=>rw [List.zip_nil_left] at hz; cases hz
     | cons v0 vs =>
       cases ws with
       | nil=>rw [List.zip_nil_right] at hz; cases hz
       | cons w0 ws =>
         cases ds' with
         | nil=>simp at hv
         | cons d0 ds' =>
           cases es' with
           | nil=>simp at hw
           | cons e0 es' =>
             rw [List.zip_cons_cons] at hz
             injection hz with hyx hrest
             injection hyx with hy hx
             subst hy hx; simp only [List.length_cons] at hlen hv hw; obtain ⟨he,hc⟩:=hI' 0 y x d0 e0 rfl rfl rfl rfl; have hI2:Am .Lt A.in1 ⟨hp,g,d,tk,os⟩ vs ws ds' es':=fun i v w d e h1 h2 h3 h4=>hI' (i+1) v w d e (by simpa using h1) (by simpa using h2) (by simpa using h3) (by simpa using h4)
             rw [Fp] at hR; refine wpAny_bind (he prog w _ _ ?_)
             cases q:PyData.eqv d0 e0 with
             | true =>
               rw [q,if_pos rfl] at hR
               wp_walk
               exact ⟨rfl,rfl,_,_,_,_,hrest,by lia,by lia,by lia,hI2,hR⟩
             | false =>
               rw [q,if_neg (by decide)] at hR; have hri:=hc k hR prog w
               wp_walk using hri
               exact ⟨_,rfl,by simpa using h⟩
   case fin =>
     rintro ⟨b1,b2⟩ s' ⟨hb',rfl,vs,ws,ds',es',hz,hv,hw,hlen,hI',hR⟩
     simp only at hb'; subst hb'; have hv':k=decide (items.size < items2.size):=by
       cases ds' with
       | nil =>
         rw [Fp] at hR; have:=Option.some.inj hR; rw [<- this]; simp only [List.length_nil] at hlen; simp only [Vk]; exact decide_eq_decide.mpr (by lia)
       | cons d0 ds' =>
         cases es' with
         | nil =>
           rw [Fp] at hR; have:=Option.some.inj hR; rw [<- this]; simp only [List.length_nil,List.length_cons] at hlen; simp only [Vk]; exact decide_eq_decide.mpr (by lia)
         | cons e0 es' =>
           cases vs with
           | nil=>simp at hv
           | cons v0 vs =>
             cases ws with
             | nil=>simp at hw
             | cons w0 ws=>rw [List.zip_cons_cons] at hz; cases hz
     rw [hv'] at h
     wp_walk
     exact ⟨_,rfl,by simpa [Builtin.Tuple.tupleCompareSizes] using h⟩
   case h =>
     exact ⟨rfl,rfl,items.toList,items2.toList,ds,es,rfl,hz1,hz2,by lia,hI,hk⟩
theorem Nj (l b:Addr) (items items2:Array Value) (n n2:Nat) (dd dd2:Option Addr) (sl sl2:Array (Option Value)) (ds es:List PyData) (k:Bool) (hz1:items.toList.length=ds.length) (hz2:items2.toList.length=es.length) (hk:Fp .LtE ds es=some k) :
   Meets (Builtin.«tuple.__le__» ⟨[.ref l,.ref b],[]⟩)
     (fun A R s=>s.heap.get? l=some { cls:=.type "tuple",dict:=dd,data:=.seq items n,slots:=sl }/\s.heap.get? b=some { cls:=.type "tuple",dict:=dd2,data:=.seq items2 n2,slots:=sl2 } /\
       Am .LtE A.in1 s items.toList items2.toList ds es/\R (.ok (.ret (.bool k))) s) :=
 .of_wp fun prog w A R s h=>by
   obtain ⟨hp,g,d,tk,os⟩:=s; obtain ⟨hl,hb,hI,h⟩:=h
   have f2:=AutoSeq1.sub_tuple_tuple; have z1:items.size=ds.length:=by rw [<- hz1]; simp
   have z2:items2.size=es.length:=by rw [<- hz2]; simp
   wp_walk using wpAny_loadPart' hl,wpAny_loadPart' hb,wpAny_forIn_list _ (fun Q4 b s'=>b.1=none/\s'=⟨hp,g,d,tk,os⟩/\∃ (vs ws:List Value) (ds' es':List PyData),Q4=vs.zip ws /\
     vs.length=ds'.length/\ws.length=es'.length/\ds'.length+items2.size=es'.length+items.size/\Am .LtE A.in1 ⟨hp,g,d,tk,os⟩ vs ws ds' es'/\Fp .LtE ds' es'=some k) _
   case turn =>
     rintro ⟨y,x⟩ Q4 b s' ⟨hb',rfl,vs,ws,ds',es',hz,hv,hw,hlen,hI',hR⟩
     cases vs with
     | nil=>rw [List.zip_nil_left] at hz; cases hz
     | cons v0 vs =>
       cases ws with
       | nil=>rw [List.zip_nil_right] at hz; cases hz
       | cons w0 ws =>
         cases ds' with
         | nil=>simp at hv
         | cons d0 ds' =>
           cases es' with
           | nil=>simp at hw
           | cons e0 es' =>
             rw [List.zip_cons_cons] at hz
             injection hz with hyx hrest
             injection hyx with hy hx
             subst hy hx; simp only [List.length_cons] at hlen hv hw; obtain ⟨he,hc⟩:=hI' 0 y x d0 e0 rfl rfl rfl rfl; have hI2:Am .LtE A.in1 ⟨hp,g,d,tk,os⟩ vs ws ds' es':=fun i v w d e h1 h2 h3 h4=>hI' (i+1) v w d e (by simpa using h1) (by simpa using h2) (by simpa using h3) (by simpa using h4)
             rw [Fp] at hR; refine wpAny_bind (he prog w _ _ ?_)
             cases q:PyData.eqv d0 e0 with
             | true =>
               rw [q,if_pos rfl] at hR
               wp_walk
               exact ⟨rfl,rfl,_,_,_,_,hrest,by lia,by lia,by lia,hI2,hR⟩
             | false =>
               rw [q,if_neg (by decide)] at hR; have hri:=hc k hR prog w
               wp_walk using hri
               exact ⟨_,rfl,by simpa using h⟩
   case fin =>
     rintro ⟨b1,b2⟩ s' ⟨hb',rfl,vs,ws,ds',es',hz,hv,hw,hlen,hI',hR⟩
     simp only at hb'; subst hb'; have hv':k=decide (items.size<=items2.size):=by
       cases ds' with
       | nil =>
         rw [Fp] at hR; have:=Option.some.inj hR; rw [<- this]; simp only [List.length_nil] at hlen; simp only [Vk]; exact decide_eq_decide.mpr (by lia)
       | cons d0 ds' =>
         cases es' with
         | nil =>
           rw [Fp] at hR; have:=Option.some.inj hR; rw [<- this]; simp only [List.length_nil,List.length_cons] at hlen; simp only [Vk]; exact decide_eq_decide.mpr (by lia)
         | cons e0 es' =>
           cases vs with
           | nil=>simp at hv
           | cons v0 vs =>
             cases ws with
             | nil=>simp at hw
             | cons w0 ws=>rw [List.zip_cons_cons] at hz; cases hz
     rw [hv'] at h
     wp_walk
     exact ⟨_,rfl,by simpa [Builtin.Tuple.tupleCompareSizes] using h⟩
   case h =>
     exact ⟨rfl,rfl,items.toList,items2.toList,ds,es,rfl,hz1,hz2,by lia,hI,hk⟩
theorem dY {op:CmpOp} (ho:op=.Lt\/op=.LtE) {A:Around} {s:Shared} {l b:Addr} {items items2:Array Value} {ds es:List PyData} {k:Bool} (hl:IsTup s.heap l items) (hb:IsTup s.heap b items2) (hz1:items.toList.length=ds.length) (hz2:items2.toList.length=es.length)
   (hI:Am op A.in1 s items.toList items2.toList ds es) (hk:Fp op ds es=some k) (hu:A.units < cLine):iE op A s (.ref l) (.ref b) k:=fun prog w E Q q=>by
 obtain ⟨⟨cls,dd,data,sl⟩,ho1,hc,n,hd⟩:=id hl
 obtain ⟨⟨cls2,dd2,data2,sl2⟩,ho2,hc2,n2,hd2⟩:=id hb
 simp only at hc hd hc2 hd2
 subst hc hd hc2 hd2
 rcases ho with rfl | rfl
 . exact richCompare_meets_room (op := .Lt) ⟨_, ho1, rfl⟩ ⟨_, ho2, rfl⟩ PySem.F.slot_tuple_lt PySem.F.entry_tuple_lt (PySem.F.args_tuple_lt_2 _ _) (Ni l b items items2 n n2 dd dd2 sl sl2 ds es k hz1 hz2 hk)
     ⟨ho1,ho2,hI,show Value.bool k≠Value.notImplemented/\Q (.bool k) s from ⟨(fun x=>nomatch x),q⟩⟩ hu
 . exact richCompare_meets_room (op := .LtE) ⟨_, ho1, rfl⟩ ⟨_, ho2, rfl⟩ PySem.F.slot_tuple_le PySem.F.entry_tuple_le (PySem.F.args_tuple_le_2 _ _) (Nj l b items items2 n n2 dd dd2 sl sl2 ds es k hz1 hz2 hk)
     ⟨ho1,ho2,hI,show Value.bool k≠Value.notImplemented/\Q (.bool k) s from ⟨(fun x=>nomatch x),q⟩⟩ hu
mutual
theorem Xs {op:CmpOp} (ho:op=.Lt\/op=.LtE):∀ (a b:PyData) (A:Around) (s:Shared) (u v:Value) (as bs:List Addr) (k:Bool),Reads s.heap u a as->Reads s.heap v b bs->a.canLay0=true->b.canLay0=true->A.units+a.depth < cLine->bM op a b=some k->iE op A s u v k
 | .int i,b,A,s,_,_,_,_,k,ra,rb,_,_,_,e=>by
   have oo:Ya op=true:=by rcases ho with rfl | rfl <;> rfl
   cases b with
   | int j=>cases ra; cases rb; cases e; exact nX oo A s i j _ _
   | _=>cases e
 | .str x,b,A,s,_,_,_,_,k,ra,rb,_,_,_,e=>by
   have oo:Ya op=true:=by rcases ho with rfl | rfl <;> rfl
   cases b with
   | str j=>cases ra; cases rb; cases e; exact nW oo A s x j _ _
   | _=>cases e
 | .tuple xs,b,A,s,_,_,_,_,k,ra,rb,ha,hb,hu,e=>by
   cases b with
   | tuple ys =>
     cases ra with
     | tuple h1 h2 h3 h4 =>
       cases rb with
       | tuple k1 k2 k3 k4 =>
         have hu':A.units+(PyData.depthAll xs+1) < cLine:=hu; refine dY ho ⟨_,h1,h2,_,h3⟩ ⟨_,k1,k2,_,k3⟩ (SeqAt.ReadsAll.length _ _ _ h4) (SeqAt.ReadsAll.length _ _ _ k4) ?_ e (by lia)
         exact Tp ho xs ys A.in1 s _ _ _ _ h4 k4 ha hb (by show A.units+1+_ < _; lia)
   | _=>cases e
 | .none,b,_,_,_,_,_,_,_,_,_,_,_,_,e=>by cases b <;> cases e
 | .bool _,b,_,_,_,_,_,_,_,_,_,_,_,_,e=>by cases b <;> cases e
 | .list _,b,_,_,_,_,_,_,_,_,_,_,_,_,e=>by cases b <;> cases e
 | .dict _,b,_,_,_,_,_,_,_,_,_,_,_,_,e=>by cases b <;> cases e
theorem Tp {op:CmpOp} (ho:op=.Lt\/op=.LtE):∀ (xs ys:List PyData) (A:Around) (s:Shared) (vs ws:List Value) (as bs:List Addr),ReadsAll s.heap vs xs as->ReadsAll s.heap ws ys bs->PyData.canLayAll0 xs=true->PyData.canLayAll0 ys=true->A.units+PyData.depthAll xs < cLine->Am op A s vs ws xs ys
 | [],_,_,_,_,_,_,_,_,_,_,_,_=>fun i v w d e h1 h2 h3 h4=>by simp at h3
 | _::_,[],_,_,_,_,_,_,_,_,_,_,_=>fun i v w d e h1 h2 h3 h4=>by simp at h4
 | x::xs,y::ys,A,s,_,_,_,_,ra,rb,ha,hb,hu=>by
   have ha':x.canLay0=true/\PyData.canLayAll0 xs=true:=by simpa [PyData.canLayAll0] using ha
   have hb':y.canLay0=true/\PyData.canLayAll0 ys=true:=by simpa [PyData.canLayAll0] using hb
   have hu':A.units+max x.depth (PyData.depthAll xs) < cLine:=hu
   cases ra with
   | cons r1 r2 =>
     cases rb with
     | cons q1 q2 =>
       intro i v w d e h1 h2 h3 h4
       cases i with
       | zero =>
         simp at h1 h2 h3 h4
         subst h1 h2 h3 h4; exact ⟨SeqAt.eqAt_reads _ _ _ _ _ _ _ _ r1 q1 ha'.1 hb'.1 (by lia),fun k hk=>Xs ho _ _ A s _ _ _ _ k r1 q1 ha'.1 hb'.1 (by lia) hk⟩
       | succ i=>exact Tp ho xs ys A s _ _ _ _ r2 q2 ha'.2 hb'.2 (by lia) i v w d e (by simpa using h1) (by simpa using h2) (by simpa using h3) (by simpa using h4)
end
noncomputable def P1 (op:CmpOp) (a b:PyData):Option PyData:=if a.depth<=60 then (bM op a b).map .bool else none
def mG (op:CmpOp):R2:=fun x y H Q=>∃ G a b k,Same G H/\Rep G a x/\Rep G b y/\a.depth<=60/\bM op a b=some k/\Q (.bl k) H
noncomputable section
variable {X:Cx}
theorem Ka {op:CmpOp} (ho:op=.Lt\/op=.LtE) (hu:X.A.units+64 < cLine):OpR X (compareOp op) (mG op):=by
 rintro pins s σ H x y v u Q I rx ry ⟨G,a,b,k,hG,ra,rb,hd,e,q⟩
 obtain ⟨as,r1⟩:=ra.reads I hG rx
 obtain ⟨bs,r2⟩:=rb.reads I hG ry
 have:=Xs ho a b X.A s v u as bs k r1 r2 ra.lay rb.lay (by lia) e X.prog X.w X.xe (EP X pins σ Q) ⟨.bl k,H,I,rfl,q⟩
 rcases ho with rfl | rfl
 . exact this
 . exact this
theorem jT {op:CmpOp} (ho:op=.Gt\/op=.GtE):OpR X (compareOp op) (fun x y H Q=>∃ i j,x=.int i/\y=.int j/\Q (.bl (gE op i j)) H):=by
 rintro pins s σ H x y v u Q I rx ry ⟨i,j,e1,e2,q⟩
 subst e1 e2
 obtain ⟨t,rfl⟩:=rx
 obtain ⟨t',rfl⟩:=ry
 rcases ho with rfl | rfl
 . exact gt_int ⟨.bl _,H,I,rfl,q⟩
 . exact ge_int ⟨.bl _,H,I,rfl,q⟩
theorem Kb {op:CmpOp}:OpD (mG op) (P1 op):=by
 intro G H x y a b d Q hG ra rb e q
 unfold P1 at e
 split at e
 . rename_i h
   cases e1:bM op a b with
   | none=>rw [e1] at e; cases e
   | some k=>rw [e1] at e; cases e; exact ⟨G,a,b,k,hG,ra,rb,h,e1,q _ G H (Grow.refl hG) rfl⟩
 . cases e
noncomputable def Er (op:CmpOp):PyData->PyData->Option PyData
 | .int i,.int j=>some (.bool (gE op i j))
 | _,_=>none
theorem fD {op:CmpOp}:OpD (fun x y H Q=>∃ i j,x=.int i/\y=.int j/\Q (.bl (gE op i j)) H) (Er op):=by
 intro G H x y a b d Q hG ra rb e q
 cases a with
 | int i=>cases b with
   | int j=>cases e; cases (show _=_ from ra); cases (show _=_ from rb); exact ⟨i,j,rfl,rfl,q _ G H (Grow.refl hG) rfl⟩
   | _=>cases e
 | _=>cases e
end
end Sm
end
noncomputable section
namespace Sm
open PySem PySem.Spec PyProof.Rows L2
theorem Res.bind_assoc {α β γ:Type} (r:Res α) (f:α->Res β) (g:β->Res γ):(r.bind f).bind g=r.bind fun x=>(f x).bind g:=by cases r <;> rfl
structure Cxt (P:Program) (w:World) (K:PySem.W.Frag) (mg:Str->Option Value) (base:Heap) (X:Cx) (N:List Str) (sc:Scope) (k:Nat) (df:Bool):Prop where
 hP:X.prog=P
 hw:X.w=w
 hK:X.K=K
 hmg:X.mg=mg
 hb:X.base=base
 hN:X.N=N
 hs:X.env.scope=sc
 calm:X.calm=true
 room:Room k X.A
 fn:df=true->∀ x,X.fn x=true
 own:PassesOwn (model X.prog X.w) X.A X.env X.xe
noncomputable def Gi (scope sc:Scope):Scope :=
 { scope with names:=scope.names.map fun (n,k)=>if (k==.free&&sc.kind==.function&&sc.names.lookup n==some .cell) then (n,.cell) else (n,k) }
theorem Xr {X:Cx} {scope sc:Scope} (h:X.env.scope=sc):relabel scope X.env=Gi scope sc:=by subst h; rfl
noncomputable section
variable {P:Program} {w:World} {K:PySem.W.Frag} {mg:Str->Option Value} {base:Heap} {X:Cx} {N:List Str} {sc:Scope} {k:Nat} {df:Bool} {E:EK} {pos:Pos}
theorem Cxt.blk (C:Cxt P w K mg base X N sc k df) {X':Cx} {N':List Str} {scope:Scope} (B:Blk X X' N' (relabel scope X.env)):Cxt P w K mg base X' N' (Gi scope sc) k false :=
 ⟨B.prog.trans C.hP,B.w.trans C.hw,B.K.trans C.hK,B.mg.trans C.hmg,B.base.trans C.hb,B.N,B.sc.trans (Xr C.hs),B.calm.trans C.calm,by rw [B.A]; exact C.room,(fun h=>by cases h),by rw [B.xe]; exact PassesOwn.never⟩
theorem Cxt.hu (C:Cxt P w K mg base X N sc k df):X.A.units+64 < cLine:=C.room.units
noncomputable def okVar (N:List Str) (sc:Scope) (i:Nat) (x:Str):Bool :=
 (N[i]? == some x)&&(match sc.names.lookup x with | some .local=>true | some .cell=>true | some .free=>true | _=>false) && !(x==("__debug__" : Str)) && !(x==("__classdict__" : Str))
theorem A4 (C:Cxt P w K mg base X N sc k df) (i:Nat) {x:Str} (h:okVar N sc i x=true):DE X E (.Name x pos) (A0 i):=by
 unfold okVar at h
 simp only [Bool.and_eq_true,Bool.not_eq_true'] at h
 obtain ⟨⟨⟨h1,h2⟩,h3⟩,h4⟩:=h
 refine Wu (by rw [C.hN]; exact eq_of_beq h1) ?_ h3 h4
 rw [C.hs]
 unfold Vis
 cases q:sc.names.lookup x with
 | none=>rw [q] at h2; cases h2
 | some z =>
   rw [q] at h2
   cases z with
   | «local» => exact .inl rfl
   | cell=>exact .inr (.inl rfl)
   | free=>exact .inr (.inr rfl)
   | _=>cases h2
noncomputable def okGl (sc:Scope) (x:Str):Bool:=(sc.names.lookup x==some .globalImplicit) && !(x==("__debug__" : Str)) && !(x==("__name__" : Str))
theorem okGl.gl (C:Cxt P w K mg base X N sc k df) {x:Str} (h:okGl sc x=true):Gl X x/\(x==("__debug__" : Str))=false/\x ≠ "__name__" := by
 unfold okGl at h
 simp only [Bool.and_eq_true,Bool.not_eq_true'] at h
 obtain ⟨⟨h1,h2⟩,h3⟩:=h
 refine ⟨?_,h2,by simpa using h3⟩
 unfold Gl
 show X.env.scope.names.lookup x=_
 rw [C.hs]; exact eq_of_beq h1
variable {a b c:Expr} {f g f':Dn->Res PyData}
theorem D8 (ha:DE X E a f) (hb:DE X E b g):DE X E (.BinOp a .Add b pos) (b2 f g C9):=Yp jU jX ha hb
theorem Bl (ha:DE X E a f) (hb:DE X E b g):DE X E (.BinOp a .Mult b pos) (b2 f g P3):=Yp jR jV ha hb
theorem Pu (ha:DE X E a f) (hb:DE X E b g):DE X E (.BinOp a .Mod b pos) (b2 f g Oi):=Yp oM jW ha hb
theorem Ry (ha:DE X E a f) (hb:DE X E b g):DE X E (.BinOp a .FloorDiv b pos) (b2 f g Iu):=Yp jS fB ha hb
theorem d_eq (C:Cxt P w K mg base X N sc k df) (ha:DE X E a f) (hb:DE X E b g):DE X E (.Compare a [.Eq] [b] pos) (b2 f g dEq):=mW (fA C.hu) fC ha hb (Fe _)
theorem d_in (C:Cxt P w K mg base X N sc k df) (ha:DE X E a f) (hb:DE X E b g) (hm:behindInMarks .In b=false:=by with_unfolding_all rfl):DE X E (.Compare a [.In] [b] pos) (b2 f g (dIn false)):=mW (eZ C.hu) We ha hb hm
noncomputable def Km (f g f':Dn->Res PyData) (op op':PyData->PyData->Option PyData):Dn->Res PyData:=fun δ=>(f δ).bind fun x=>(g δ).bind fun y=>(ofO (op x y)).bind fun z=>match z with
 | .bool true=>(f' δ).bind fun u=>ofO (op' y u)
 | .bool false=>.ok (.bool false)
 | _=>.no
theorem gY {o o':CmpOp} {r r':R2} {op op':PyData->PyData->Option PyData} (hr:OpR X (compareOp o) r) (ho:OpD r op) (hr':OpR X (compareOp o') r') (ho':OpD r' op') (ha:DE X E a f) (hb:DE X E b g) (hc:DE X E c f')
   (hm:lastMarks [o,o'] [b,c]=false):DE X E (.Compare a [o,o'] [b,c] pos) (Km f g f' op op'):=by
 refine PE.imp (eU hr hr' ha hb hc hm) fun σ H Q hZ3=>?_
 obtain ⟨G,δ,S,aft⟩:=hZ3
 refine G6 S aft fun d1 v1 G1 H1 g1 r1 S1 a1=>?_
 refine G6 S1 a1 fun d2 v2 G2 H2 g2 r2 S2 a2=>?_
 cases e:op d1 d2 with
 | none=>rw [e] at a2; exact a2.elim
 | some d =>
   rw [e] at a2; refine ho G2 H2 v1 v2 d1 d2 d _ S2.sub (r1.mono g2.g) r2 e fun v G3 H3 g3 r3=>?_
   cases d with
   | bool kk =>
     refine ⟨kk,r3,?_⟩; have S3:=S2.grow g3
     cases kk with
     | false=>rw [if_neg (by decide)]; exact a2 _ G3 H3 g3 rfl
     | true =>
       rw [if_pos rfl]; refine G6 S3 (Aft.grow g3 a2) fun d4 v4 G4 H4 g4 r4 S4 a4=>?_
       cases e':op' d2 d4 with
       | none=>rw [e'] at a4; exact a4.elim
       | some d=>rw [e'] at a4; exact ho' G4 H4 v2 v4 d2 d4 d Q S4.sub (r2.mono (g3.g.trans g4.g)) r4 e' a4
   | _=>exact (show False from a2).elim
theorem Ur (C:Cxt P w K mg base X N sc k df) (ha:DE X E a f) (hb:DE X E b g) (hc:DE X E c f') (hm:lastMarks [.LtE,.Lt] [b,c]=false:=by with_unfolding_all rfl):DE X E (.Compare a [.LtE,.Lt] [b,c] pos) (Km f g f' (P1 .LtE) (P1 .Lt)) :=
 gY (Ka (.inr rfl) C.hu) Kb (Ka (.inl rfl) C.hu) Kb ha hb hc hm
noncomputable def Mk:PyData->Bool
 | .none=>true
 | _=>false
noncomputable def b1 (f:Dn->Res PyData) (op:PyData->Option PyData):Dn->Res PyData:=fun δ=>(f δ).bind fun x=>ofO (op x)
theorem Rep.non {G:Hp} {d:PyData} {v:V} (r:Rep G d v):decide (v=.non)=Mk d:=by
 cases d with
 | none=>cases (show _=_ from r); rfl
 | bool _=>cases (show _=_ from r); rfl
 | int _=>cases (show _=_ from r); rfl
 | str _=>cases r.1; rfl
 | list _=>obtain ⟨a,xs,rfl,_⟩:=r; rfl
 | tuple _=>obtain ⟨a,xs,rfl,_⟩:=r; rfl
 | dict _=>exact (show False from r).elim
noncomputable def Bm:PyData->Option PyData
 | .int i=>some (.int (-i))
 | _=>none
theorem Ir (ha:DE X E a f):DE X E (.UnaryOp .USub a pos) (b1 f Bm):=by
 refine PE.imp (eM Vo ha) fun σ H Q hZ3=>?_
 obtain ⟨G,δ,S,aft⟩:=hZ3
 refine G6 S aft fun d1 v1 G1 H1 g1 r1 S1 a1=>?_
 cases d1 with
 | int i=>cases (show _=_ from r1); exact ⟨i,rfl,a1 _ G1 H1 (Grow.refl S1.sub) rfl⟩
 | _=>exact (show False from a1).elim
noncomputable def Zj (f g:Dn->Res PyData):Dn->Res PyData:=fun δ=>(f δ).bind fun x=>match x with
 | .bool true=>g δ
 | .bool false=>.ok (.bool false)
 | _=>.no
variable {Q4:List Expr}
theorem mU {op:BoolOp} (ha:DE X E a f):DE X E (.BoolOp op [a] pos) f:=oE ha
theorem mX (ha:DE X E a f) (hb:DE X E (.BoolOp .And (b::Q4) pos) g):DE X E (.BoolOp .And (a::b::Q4) pos) (Zj f g):=by
 refine PE.imp (oI ha hb) fun σ H Q hZ3=>?_
 obtain ⟨G,δ,S,aft⟩:=hZ3
 refine G6 S aft fun d1 v1 G1 H1 g1 r1 S1 a1=>?_
 cases d1 with
 | bool kk =>
   refine ⟨kk,r1,?_⟩
   cases kk with
   | true=>rw [if_pos rfl]; exact ⟨G1,δ,S1,a1⟩
   | false=>rw [if_neg (by decide)]; exact a1 _ G1 H1 (Grow.refl S1.sub) rfl
 | _=>exact (show False from a1).elim
def AftT (E:EK) (G H:Hp) (r:Res Bool) (Q:Bool->Hp->Prop):Prop:=match r with
 | .ok d=>∀ G' H',Grow G H G' H'->Q d H'
 | .exc c=>∀ G' H',Grow G H G' H'->E c H'
 | .no=>False
def tT (E:EK) (f:Dn->Res Bool):TT:=fun σ H Q=>∃ G δ,SR G H σ δ/\AftT E G H (f δ) Q
abbrev DT (X:Cx) (E:EK) (e:Expr) (f:Dn->Res Bool):Prop:=PT X e (tT E f)
abbrev DW (X:Cx) (E:EK) (e:Expr) (f:Dn->Res Bool):Prop:=PW X e (tT E f)
theorem AftT.grow {E:EK} {G H G' H':Hp} {r:Res Bool} {Q:Bool->Hp->Prop} (g:Grow G H G' H') (a:AftT E G H r Q):AftT E G' H' r Q:=by
 cases r with
 | ok d=>exact fun G2 H2 g2=>a G2 H2 (g.trans g2)
 | exc c=>exact fun G2 H2 g2=>a G2 H2 (g.trans g2)
 | no=>exact a
theorem PT.imp {X:Cx} {e:Expr} {t t':TT} (h:PT X e t) (i:∀ σ H Q,t' σ H Q->t σ H Q):PT X e t':=fun pins s σ H Q I q=>h pins s σ H Q I (i _ _ _ q)
theorem PW.imp {X:Cx} {e:Expr} {t t':TT} (h:PW X e t) (i:∀ σ H Q,t' σ H Q->t σ H Q):PW X e t':=fun wh pins s σ H Q I q=>h wh pins s σ H Q I (i _ _ _ q)
theorem Ee {E:EK} {G H:Hp} {σ:St} {δ:Dn} {f:Dn->Res PyData} {k:PyData->Res Bool} {Q:Bool->Hp->Prop} {R:VK} (S:SR G H σ δ) (a:AftT E G H ((f δ).bind k) Q)
   (h:∀ d v G1 H1,Grow G H G1 H1->Rep G1 d v->SR G1 H1 σ δ->AftT E G1 H1 (k d) Q->R v H1):tD E f σ H R:=by
 refine ⟨G,δ,S,?_⟩
 cases e:f δ with
 | ok d =>
   rw [e] at a; exact fun v G' H' g r=>h d v G' H' g r (S.grow g) (AftT.grow g a)
 | exc c=>rw [e] at a; exact a
 | no=>rw [e] at a; exact a
theorem Fu {E:EK} {G H:Hp} {σ:St} {δ:Dn} {f:Dn->Res Bool} {k:Bool->Res Bool} {Q R:Bool->Hp->Prop} (S:SR G H σ δ) (a:AftT E G H ((f δ).bind k) Q)
   (h:∀ d G1 H1,Grow G H G1 H1->SR G1 H1 σ δ->AftT E G1 H1 (k d) Q->R d H1):tT E f σ H R:=by
 refine ⟨G,δ,S,?_⟩
 cases e:f δ with
 | ok d =>
   rw [e] at a; exact fun G' H' g=>h d G' H' g (S.grow g) (AftT.grow g a)
 | exc c=>rw [e] at a; exact a
 | no=>rw [e] at a; exact a
theorem Xc {E:EK} {G H:Hp} {σ:St} {δ:Dn} {f:Dn->Res Bool} {k:Bool->Res PyData} {Q:VK} {R:Bool->Hp->Prop} (S:SR G H σ δ) (a:Aft E G H ((f δ).bind k) Q)
   (h:∀ d G1 H1,Grow G H G1 H1->SR G1 H1 σ δ->Aft E G1 H1 (k d) Q->R d H1):tT E f σ H R:=by
 refine ⟨G,δ,S,?_⟩
 cases e:f δ with
 | ok d =>
   rw [e] at a; exact fun G' H' g=>h d G' H' g (S.grow g) (Aft.grow g a)
 | exc c=>rw [e] at a; exact a
 | no=>rw [e] at a; exact a
noncomputable def cM:PyData->Option Bool
 | .none=>some false
 | .bool b=>some b
 | .int i=>some (i != 0)
 | .str x=>some (x.length != 0)
 | .list xs=>some (!xs.isEmpty)
 | .tuple xs=>some (!xs.isEmpty)
 | .dict _=>none
noncomputable def C3 (f:Dn->Res PyData):Dn->Res Bool:=fun δ=>(f δ).bind fun d=>ofO (cM d)
theorem RepL.isEmpty {G:Hp} {ds:List PyData} {xs:List V} (r:RepL G ds xs):ds.isEmpty=xs.isEmpty:=by
 have:=r.length
 cases ds <;> cases xs <;> simp at this ⊢
theorem Rep.truV {G H:Hp} (hG:Same G H) {d:PyData} {v:V} (r:Rep G d v) {kk:Bool} (e:cM d=some kk):qF K v H kk:=by
 cases d with
 | none=>cases (show _=_ from r); cases e; rfl
 | bool _=>cases (show _=_ from r); cases e; rfl
 | int _=>cases (show _=_ from r); cases e; rfl
 | str x =>
   cases r.1; cases e
   refine ⟨r.2.2,?_⟩; show (x.length != 0)=((x.length:Int) != 0)
   rw [Bool.eq_iff_iff]; simp
 | list _=>obtain ⟨a,xs,rfl,h1,l1⟩:=r; cases e; exact .inl ⟨xs,.inl (Rd.mono hG h1),by rw [l1.isEmpty]⟩
 | tuple _=>obtain ⟨a,xs,rfl,h1,l1⟩:=r; cases e; exact .inr (.inl ⟨xs,.inl (.inl (hG _ _ h1)),by rw [l1.isEmpty]⟩)
 | dict _=>cases e
theorem Ot (ha:DE X E a f) (he:∀ whole,isTrue a X.env whole=(do let v <- whole; standAt a.pos; holding [v] (truthy v)):=by intro _; rfl):DT X E a (C3 f):=by
 refine PT.imp (Tr ha he) fun σ H Q hZ3=>?_
 obtain ⟨G,δ,S,aft⟩:=hZ3
 refine Ee S aft fun d1 v1 G1 H1 g1 r1 S1 a1=>?_
 cases e:cM d1 with
 | none=>rw [e] at a1; exact a1.elim
 | some kk=>rw [e] at a1; exact ⟨kk,r1.truV S1.sub e,a1 G1 H1 (Grow.refl S1.sub)⟩
theorem Ey {o:CmpOp} {r:R2} {op:PyData->PyData->Option PyData} (hr:OpR X (compareOp o) r) (ho:OpD r op) (hbool:∀ x y d,op x y=some d->∃ kk,d=.bool kk) (ha:DE X E a f) (hb:DE X E b g) (hm:behindInMarks o b=false) :
   DT X E (.Compare a [o] [b] pos) (C3 (b2 f g op)):=by
 refine PT.imp (Xw hr ha hb hm) fun σ H Q hZ3=>?_
 obtain ⟨G,δ,S,aft⟩:=hZ3
 have aft':AftT E G H ((f δ).bind fun x=>(g δ).bind fun y=>(ofO (op x y)).bind fun d=>ofO (cM d)) Q:=by
   unfold C3 b2 at aft; simp only [Res.bind_assoc] at aft; exact aft
 refine Ee S aft' fun d1 v1 G1 H1 g1 r1 S1 a1=>?_
 refine Ee S1 a1 fun d2 v2 G2 H2 g2 r2 S2 a2=>?_
 cases e:op d1 d2 with
 | none=>rw [e] at a2; exact a2.elim
 | some d =>
   rw [e] at a2; obtain ⟨kk,rfl⟩:=hbool _ _ _ e; exact ho G2 H2 v1 v2 d1 d2 _ _ S2.sub (r1.mono g2.g) r2 e fun v G3 H3 g3 r3=>⟨kk,r3,a2 G3 H3 g3⟩
theorem lT (x y d:PyData) (e:dEq x y=some d):∃ kk,d=.bool kk:=by unfold dEq at e; split at e <;> cases e; exact ⟨_,rfl⟩
theorem lS (x y d:PyData) (e:dNe x y=some d):∃ kk,d=.bool kk:=by unfold dNe at e; split at e <;> cases e; exact ⟨_,rfl⟩
theorem Va {op:CmpOp} (x y d:PyData) (e:P1 op x y=some d):∃ kk,d=.bool kk:=by
 unfold P1 at e; split at e
 . obtain ⟨kk,_,rfl⟩:=Option.map_eq_some_iff.mp e; exact ⟨_,rfl⟩
 . cases e
theorem bO {op:CmpOp} (x y d:PyData) (e:Er op x y=some d):∃ kk,d=.bool kk:=by
 unfold Er at e; split at e
 . cases e; exact ⟨_,rfl⟩
 . cases e
theorem Ev (C:Cxt P w K mg base X N sc k df) (ha:DE X E a f) (hb:DE X E b g):DT X E (.Compare a [.Eq] [b] pos) (C3 (b2 f g dEq)):=Ey (fA C.hu) fC lT ha hb (Fe _)
theorem Nk (C:Cxt P w K mg base X N sc k df) (ha:DE X E a f) (hb:DE X E b g):DT X E (.Compare a [.NotEq] [b] pos) (C3 (b2 f g dNe)):=Ey (oK C.hu) oO lS ha hb (Fe _)
theorem cR (C:Cxt P w K mg base X N sc k df) (ha:DE X E a f) (hb:DE X E b g):DT X E (.Compare a [.Lt] [b] pos) (C3 (b2 f g (P1 .Lt))):=Ey (Ka (.inl rfl) C.hu) Kb Va ha hb (Fe _)
theorem t_le (C:Cxt P w K mg base X N sc k df) (ha:DE X E a f) (hb:DE X E b g):DT X E (.Compare a [.LtE] [b] pos) (C3 (b2 f g (P1 .LtE))):=Ey (Ka (.inr rfl) C.hu) Kb Va ha hb (Fe _)
theorem t_gt (C:Cxt P w K mg base X N sc k df) (ha:DE X E a f) (hb:DE X E b g):DT X E (.Compare a [.Gt] [b] pos) (C3 (b2 f g (Er .Gt))):=Ey (jT (.inl rfl)) fD bO ha hb (Fe _)
theorem t_in (C:Cxt P w K mg base X N sc k df) (ha:DE X E a f) (hb:DE X E b g) (hm:behindInMarks .In b=false:=by with_unfolding_all rfl):DT X E (.Compare a [.In] [b] pos) (C3 (b2 f g (dIn false))):=Ey (eZ C.hu) We (fun _ _ _ e=>Mv e) ha hb hm
theorem Jy (C:Cxt P w K mg base X N sc k df) (ha:DE X E a f) (hb:DE X E b g) (hm:behindInMarks .NotIn b=false:=by with_unfolding_all rfl):DT X E (.Compare a [.NotIn] [b] pos) (C3 (b2 f g (dIn true))):=Ey (aI C.hu) We (fun _ _ _ e=>Mv e) ha hb hm
theorem t_isN {j:Nat} {p:Pos} (ha:DE X E a f):DT X E (.Compare a [.Is] [.Constant .none j p] pos) (fun δ=>(f δ).bind fun d=>.ok (Mk d)):=by
 refine PT.imp (eE (oJ ha)) fun σ H Q hZ3=>?_
 obtain ⟨G,δ,S,aft⟩:=hZ3
 exact Ee S aft fun d1 v1 G1 H1 g1 r1 S1 a1=>by rw [r1.non]; exact ⟨_,rfl,a1 G1 H1 (Grow.refl S1.sub)⟩
variable {c1 c2:Dn->Res Bool}
noncomputable def Ft (c:Dn->Res Bool):Dn->Res Bool:=fun δ=>(c δ).bind fun b=>.ok (!b)
noncomputable def T1 (c c':Dn->Res Bool):Dn->Res Bool:=fun δ=>(c δ).bind fun b=>if b=true then c' δ else .ok false
noncomputable def cOr (c c':Dn->Res Bool):Dn->Res Bool:=fun δ=>(c δ).bind fun b=>if b=true then .ok true else c' δ
theorem Xi (ha:DT X E a c1):DT X E (.UnaryOp .Not a pos) (Ft c1):=by
 refine PT.imp (eD ha) fun σ H Q hZ3=>?_
 obtain ⟨G,δ,S,aft⟩:=hZ3
 exact Fu S aft fun d G1 H1 g1 S1 a1=>a1 G1 H1 (Grow.refl S1.sub)
theorem An (ha:DT X E a c1):DW X E (.BoolOp .And [a] pos) c1:=jI ha
theorem Xg (ha:DT X E a c1):DW X E (.BoolOp .Or [a] pos) c1:=eA ha
theorem Ei (ha:DT X E a c1) (hb:DW X E (.BoolOp .And (b::Q4) pos) c2):DW X E (.BoolOp .And (a::b::Q4) pos) (T1 c1 c2):=by
 refine PW.imp (oA ha hb) fun σ H Q hZ3=>?_
 obtain ⟨G,δ,S,aft⟩:=hZ3
 refine Fu S aft fun d G1 H1 g1 S1 a1=>?_
 cases d with
 | true=>rw [if_pos rfl]; exact ⟨G1,δ,S1,a1⟩
 | false=>rw [if_neg (by decide)]; exact a1 G1 H1 (Grow.refl S1.sub)
theorem iL (ha:DT X E a c1) (hb:DW X E (.BoolOp .Or (b::Q4) pos) c2):DW X E (.BoolOp .Or (a::b::Q4) pos) (cOr c1 c2):=by
 refine PW.imp (mI ha hb) fun σ H Q hZ3=>?_
 obtain ⟨G,δ,S,aft⟩:=hZ3
 refine Fu S aft fun d G1 H1 g1 S1 a1=>?_
 cases d with
 | true=>rw [if_pos rfl]; exact a1 G1 H1 (Grow.refl S1.sub)
 | false=>rw [if_neg (by decide)]; exact ⟨G1,δ,S1,a1⟩
theorem w_t (h:DW X E a c1):DT X E a c1:=h.pt
noncomputable def vIf (c:Dn->Res Bool) (f g:Dn->Res PyData):Dn->Res PyData:=fun δ=>(c δ).bind fun b=>if b=true then f δ else g δ
theorem Yo (hc:DT X E c c1) (ha:DE X E a f) (hb:DE X E b g):DE X E (.IfExp c a b pos) (vIf c1 f g):=by
 refine PE.imp (eQ hc ha hb) fun σ H Q hZ3=>?_
 obtain ⟨G,δ,S,aft⟩:=hZ3
 refine Xc S aft fun d G1 H1 g1 S1 a1=>?_
 cases d with
 | true=>rw [if_pos rfl]; exact ⟨G1,δ,S1,a1⟩
 | false=>rw [if_neg (by decide)]; exact ⟨G1,δ,S1,a1⟩
end
end Sm
end
noncomputable section
namespace Sm
open PySem PySem.Spec PyProof.Rows L2
noncomputable section
variable {w:World} {K:PySem.W.Frag} {X:Cx} {k:Nat} {E:EK} {pos:Pos} {a b c e:Expr} {es:List Expr} {f g:Dn->Res PyData} {fs:Dn->Res (List PyData)}
def AftL (E:EK) (G H:Hp) (r:Res (List PyData)) (Q:List V->Hp->Prop):Prop:=match r with
 | .ok ds=>∀ vs G' H',Grow G H G' H'->RepL G' ds vs->Q vs H'
 | .exc c=>∀ G' H',Grow G H G' H'->E c H'
 | .no=>False
def tA (E:EK) (fs:Dn->Res (List PyData)):TA:=fun σ H Q=>∃ G δ,SR G H σ δ/\AftL E G H (fs δ) Q
structure DA (X:Cx) (E:EK) (es:List Expr) (n:Nat) (fs:Dn->Res (List PyData)):Prop where
 pa:PA X es (tA E fs)
 len:∀ δ ds,fs δ=.ok ds->ds.length=n
theorem PA.imp {X:Cx} {es:List Expr} {t t':TA} (h:PA X es t) (i:∀ σ H Q,t' σ H Q->t σ H Q):PA X es t':=fun p pins s σ H Q I q=>h p pins s σ H Q I (i _ _ _ q)
theorem AftL.grow {E:EK} {G H G' H':Hp} {r:Res (List PyData)} {Q:List V->Hp->Prop} (g:Grow G H G' H') (a:AftL E G H r Q):AftL E G' H' r Q:=by
 cases r with
 | ok d=>exact fun v G2 H2 g2 q=>a v G2 H2 (g.trans g2) q
 | exc c=>exact fun G2 H2 g2=>a G2 H2 (g.trans g2)
 | no=>exact a
theorem Ki {α:Type} {E:EK} {G H:Hp} {σ:St} {δ:Dn} {f:Dn->Res PyData} {k:PyData->Res α} {R:VK} {W:Hp->Hp->Res α->Prop} (S:SR G H σ δ) (a:W G H ((f δ).bind k)) (hg:∀ {G H G' H':Hp} {r:Res α},Grow G H G' H'->W G H r->W G' H' r)
   (hx:∀ c,W G H (.exc c)->∀ G' H',Grow G H G' H'->E c H') (hn:W G H .no->False)
   (h:∀ d v G1 H1,Grow G H G1 H1->Rep G1 d v->SR G1 H1 σ δ->W G1 H1 (k d)->R v H1):tD E f σ H R:=by
 refine ⟨G,δ,S,?_⟩
 cases e:f δ with
 | ok d=>rw [e] at a; exact fun v G' H' g r=>h d v G' H' g r (S.grow g) (hg g a)
 | exc c=>rw [e] at a; exact hx c a
 | no=>rw [e] at a; exact hn a
theorem O4 {α:Type} {E:EK} {G H:Hp} {σ:St} {δ:Dn} {fs:Dn->Res (List PyData)} {k:List PyData->Res α} {R:List V->Hp->Prop} {W:Hp->Hp->Res α->Prop} (S:SR G H σ δ) (a:W G H ((fs δ).bind k)) (hg:∀ {G H G' H':Hp} {r:Res α},Grow G H G' H'->W G H r->W G' H' r)
   (hx:∀ c,W G H (.exc c)->∀ G' H',Grow G H G' H'->E c H') (hn:W G H .no->False)
   (h:∀ ds vs G1 H1,fs δ=.ok ds->Grow G H G1 H1->RepL G1 ds vs->SR G1 H1 σ δ->W G1 H1 (k ds)->R vs H1):tA E fs σ H R:=by
 refine ⟨G,δ,S,?_⟩
 cases e:fs δ with
 | ok d=>rw [e] at a; exact fun v G' H' g r=>h d v G' H' e g r (S.grow g) (hg g a)
 | exc c=>rw [e] at a; exact hx c a
 | no=>rw [e] at a; exact hn a
noncomputable def A8:Dn->Res (List PyData):=fun _=>.ok []
noncomputable def A2 (f:Dn->Res PyData) (fs:Dn->Res (List PyData)):Dn->Res (List PyData):=fun δ=>(f δ).bind fun d=>(fs δ).bind fun ds=>.ok (d::ds)
theorem B0:DA X E [] 0 A8:=⟨PA.imp L9 fun σ H Q hZ3=>by obtain ⟨G,δ,S,a⟩:=hZ3; exact a [] G H (Grow.refl S.sub) rfl,fun δ ds e=>by cases e; rfl⟩
noncomputable def Rm:Expr->Bool
 | .Starred .. => false
 | _=>true
theorem Zs {a:Expr} {es:List Expr} {env:Env} (h:Rm a=true):starEach (a::es) env=(false,eval a env)::starEach es env:=by
 cases a <;> first | rfl | cases h
theorem A3 {n:Nat} (ha:DE X E a f) (hr:DA X E es n fs) (hs:Rm a=true:=by rfl):DA X E (a::es) (n+1) (A2 f fs):=by
 refine ⟨PA.imp (E1 ha hr.pa (Zs hs)) fun σ H Q ⟨G,δ,S,aft⟩=>?_,fun δ ds e=>?_⟩
 . refine Ki (W:=fun G H r=>AftL E G H r Q) S aft (fun g a=>AftL.grow g a) (fun c a=>a) (fun a=>a) fun d v G1 H1 g1 r1 S1 a1=>?_
   refine O4 (W:=fun G H r=>AftL E G H r Q) S1 a1 (fun g a=>AftL.grow g a) (fun c a=>a) (fun a=>a) fun ds vs G2 H2 e g2 r2 S2 a2=>?_
   exact a2 _ G2 H2 (Grow.refl S2.sub) (RepL.cons (r1.mono g2.g) r2)
 . unfold A2 at e
   cases h1:f δ with
   | ok d =>
     rw [h1] at e
     cases h2:fs δ with
     | ok ds' =>
       simp only [Res.bind,h2] at e; cases e; rw [List.length_cons,hr.len δ ds' h2]
     | exc c=>simp only [Res.bind,h2] at e; cases e
     | no=>simp only [Res.bind,h2] at e; cases e
   | exc c=>rw [h1] at e; cases e
   | no=>rw [h1] at e; cases e
noncomputable def E3 (fs:Dn->Res (List PyData)):Dn->Res PyData:=fun δ=>(fs δ).bind fun ds=>.ok (.tuple ds)
noncomputable def K6 (fs:Dn->Res (List PyData)):Dn->Res PyData:=fun δ=>(fs δ).bind fun ds=>.ok (.list ds)
theorem I9 {n x1:Nat} (h:DA X E es n fs) (hn:n<=sizeLine:=by decide):DE X E (.Tuple es x1 pos) (E3 fs):=by
 refine PE.imp (Wd h.pa) fun σ H Q hZ3=>?_
 obtain ⟨G,δ,S,aft⟩:=hZ3
 refine O4 (W:=fun G H r=>Aft E G H r Q) S aft (fun g a=>Aft.grow g a) (fun c a=>a) (fun a=>a) fun ds vs G1 H1 e g1 r1 S1 a1=>?_
 refine ⟨by rw [<- r1.length,h.len δ ds e]; exact hn,fun p hp=>?_⟩
 exact a1 _ (upd G1 p (.tup vs)) _ (Grow.new S1.sub hp) ⟨p,vs,rfl,B7,r1.mono (Same.upd (S1.sub.free hp))⟩
def iG (E:EK) (G H:Hp) (r:Res (List PyData)) (Q:VK):Prop:=match r with
 | .ok ds=>∀ p xs G' H',Grow G H G' H'->H p=none->G' p=none->H' p=some (.lst xs)->RepL G' ds xs->Q (.ref p) H'
 | .exc c=>∀ G' H',Grow G H G' H'->E c H'
 | .no=>False
def tF (E:EK) (f:Dn->Res (List PyData)):TE:=fun σ H Q=>∃ G δ,SR G H σ δ/\iG E G H (f δ) Q
abbrev DF (X:Cx) (E:EK) (e:Expr) (f:Dn->Res (List PyData)):Prop:=PE X e (tF E f)
theorem Grow.share {G H G' H':Hp} {p:Addr} {o:HO} (g:Grow G H G' H') (hp:H p=none) (hg:G' p=none) (hH:H' p=some o):Grow G H (upd G' p o) H' :=
 ⟨g.g.trans (Same.upd hg),g.h,fun b u e=>by
   by_cases hb:b=p
   . subst hb; rw [B7] at e; cases e; exact hH
   . rw [B3 hb] at e; exact g.gh _ _ e,fun b u e=>by
   by_cases hb:b=p
   . subst hb; exact .inr (.inl hp)
   . rw [B3 hb] at e; exact g.fr _ _ e⟩
theorem O2 (h:DF X E e fs):DE X E e (K6 fs):=by
 refine PE.imp h fun σ H Q hY35=>?_
 obtain ⟨G,δ,S,aft⟩:=hY35
 refine ⟨G,δ,S,?_⟩
 unfold K6 at aft
 cases e:fs δ with
 | ok ds =>
   rw [e] at aft; exact fun p xs G' H' g hp hg hH r=>aft _ _ H' (g.share hp hg hH) ⟨p,xs,rfl,.inl B7,r.mono (Same.upd hg)⟩
 | exc c=>rw [e] at aft; exact aft
 | no=>rw [e] at aft; exact aft
theorem T6 {n:Nat} (h:DA X E es n fs) (hn:n<=sizeLine:=by decide):DF X E (.List es pos) fs:=by
 refine PE.imp (Rj h.pa) fun σ H Q hY36=>?_
 obtain ⟨G,δ,S,aft⟩:=hY36
 refine ⟨G,δ,S,?_⟩
 cases e:fs δ with
 | ok ds =>
   rw [e] at aft; refine fun vs G1 H1 g1 r1=>⟨by rw [<- r1.length,h.len δ ds e]; exact hn,fun p hp=>?_⟩
   exact aft p vs G1 _ (g1.trans (Grow.own g1.gh hp)) (g1.h.free hp) (g1.gh.free hp) B7 r1
 | exc c=>rw [e] at aft; exact aft
 | no=>rw [e] at aft; exact aft
noncomputable def dIx:PyData->PyData->Option PyData
 | .list ds,.int i=>atI ds i
 | .tuple ds,.int i=>atI ds i
 | .str x,.int i=>(atI x.cps.toList i).map fun c=>.str ⟨#[c]⟩
 | _,_=>none
theorem Yz {G:Hp} {ds:List PyData} {xs:List V} {i:Int} {d:PyData} (r:RepL G ds xs) (e:atI ds i=some d):∃ x,atI xs i=some x/\Rep G d x:=by
 unfold atI at e ⊢
 rw [<- r.length]
 cases q:ixN ds.length i with
 | none=>rw [q] at e; cases e
 | some j=>rw [q] at e; exact r.get e
theorem oP:OpD (rIx K) dIx:=by
 intro G H x y a b d Q hG ra rb e q
 cases b with
 | int i =>
   cases (show _=_ from rb)
   cases a with
   | list ds =>
     obtain ⟨p,xs,rfl,h1,l1⟩:=ra; obtain ⟨v,e1,r1⟩:=Yz l1 e; exact .inl ⟨p,xs,i,v,rfl,rfl,.inl (Rd.mono hG h1),e1,q _ G H (Grow.refl hG) r1⟩
   | tuple ds =>
     obtain ⟨p,xs,rfl,h1,l1⟩:=ra; obtain ⟨v,e1,r1⟩:=Yz l1 e; exact .inr (.inl ⟨p,xs,i,v,rfl,rfl,.inl (.inl (hG _ _ h1)),e1,q _ G H (Grow.refl hG) r1⟩)
   | str z =>
     obtain ⟨e0,o1,l1⟩:=ra; subst e0; obtain ⟨cc,e1,rfl⟩:=Option.map_eq_some_iff.mp e; refine .inr (.inr ⟨z,i,cc,rfl,rfl,l1,e1,q _ G H (Grow.refl hG) ⟨rfl,?_,?_⟩⟩)
     . obtain ⟨j,_,h2,_⟩:=Kh e1
       have hm:cc∈z.cps.toList:=List.mem_of_getElem? h2; unfold PyData.strOk at *
       rw [<- Array.all_toList,List.all_eq_true] at o1; have:=o1 cc hm
       simpa using this
     . show 1<=sizeLine; decide
   | _=>cases e
 | _=>cases a <;> cases e
theorem D3 (ha:DE X E a f) (hb:DE X E b g) (hs:Zd b:=by exact fun _ _=>rfl):DE X E (.Subscript a b pos) (b2 f g dIx) :=
 PE.imp (mJ pM ha hb hs) fun _ _ _ h=>cS oP h
noncomputable def Ba (xs:List PyData) (lo hi:Option Int):List PyData:=(xs.drop (HT.sIx xs.length 0 lo)).take (HT.sIx xs.length xs.length hi - HT.sIx xs.length 0 lo)
noncomputable def bK (d:PyData) (lo hi:Option Int):Option PyData:=match d with
 | .list ds=>some (.list (Ba ds lo hi))
 | .tuple ds=>some (.tuple (Ba ds lo hi))
 | _=>none
theorem Yr {G:Hp} {ds:List PyData} {xs:List V} (r:RepL G ds xs) (lo hi:Option Int):RepL G (Ba ds lo hi) (bL xs lo hi):=by
 unfold Ba bL
 rw [r.length]
 exact (r.drop _).take _
noncomputable def rSlD:V->Option Int->Option Int->Hp->VK->Prop:=fun x lo hi H Q=>∃ G a d,Same G H/\Rep G a x/\bK a lo hi=some d/\∀ v G' H',Grow G H G' H'->Rep G' d v->Q v H'
theorem Eh {prog:Program} {w:World} {A:Around} {E:Value->Shared->Prop} {s:Shared} {t sl:Addr} {items:Array Value} {vl vu:Value} {lo hi:Option Int} {Q:Value->Shared->Prop} (ht:IsTup s.heap t items) (hs:s.heap.IsSliceOf sl vl vu .none) (pl:IsPart vl lo) (pu:IsPart vu hi)
   (hw:HT.sIx items.size 0 lo=0/\HT.sIx items.size items.size hi=items.size) (h:Q (.ref t) s):wpAny (model prog w) A (getItem (.ref t) (.ref sl)) Q E s:=by
 obtain ⟨os,hos,hcs,hds⟩:=id hs
 have hTs:s.TypeIs (.ref sl) "slice" := ⟨os,hos,hcs⟩
 unfold getItem
 try with_reducible refine wpAny_holding ?_
 first | refine wpAny_bind (wpAny_pure ?_) | skip
 refine wpAny_bind (wpAny_sequenceKey ht.typeIs (by decide) ?_)
 refine wpAny_bind (wpAny_callSpecial?_slot (name:=Str.ofString "__getitem__") ht.typeIs PyProof.Rows.slot_tuple_getitem
   (wpAny_call_entry PyProof.Rows.slot_tuple_getitem ht.typeIs entry_tuple_getitem ?_ (args_tuple_getitem _ _)))
 show wpAny _ _ (Builtin.Tuple.tupleItemsOf (.ref t)>>=_) _ _ s
 refine wpAny_bind (tupleItemsOf_ ht ?_)
 refine wpAny_bind (wpAny_typeOf hTs ?_)
 rw [if_pos (by decide)]
 refine wpAny_bind (HT.sliceApplied_gen hs pl pu ?_)
 show wpAny _ _ (if (((HT.sIx items.size 0 lo:Nat):Int)==0&&(1:Int)==1&&(HT.sIx items.size items.size hi - HT.sIx items.size 0 lo)==items.size)=true then _ else _) _ _ s
 rw [if_pos (by rw [hw.1,hw.2]; simp)]
 unfold Builtin.Tuple.tupleIsExact
 refine wpAny_bind (wpAny_bind (wpAny_typeOf ht.typeIs (wpAny_pure ?_)))
 rw [if_pos (by decide)]
 first
   | exact wpAny_bind (wpAny_rule (wpAny_pure ⟨_,rfl,wpAny_pure h⟩))
   | exact wpAny_bind (wpAny_rule (wpAny_bind (wpAny_pure (wpAny_pure ⟨_,rfl,wpAny_pure h⟩))))
theorem sl_D:SlR X rSlD:=by
 rintro pins s σ H x v vl vu lo hi sl Q I rx hs pl pu ⟨G,a,d,hG,ra,e,q⟩
 cases a with
 | list ds =>
   cases e; obtain ⟨p,xs,rfl,h1,l1⟩:=ra; cases rx; obtain ⟨z,its,n,r,e1⟩:=R0 I hG h1; have hlen:=r.length; have hl:s.heap.IsList p its.toArray:=⟨_,e1,rfl,n,rfl⟩; refine ⟨"list",_,slot_list_getitem.lookup,hl.typeIs,?_⟩; refine wpAny_getItem_list_slice hl hs pl pu .none (by simp) ?_ (by rw [List.size_toArray] <;> lia)
   rw [El,<- hlen]; exact Rv (t':=s.toks) I hG ((r.drop (HT.sIx xs.length 0 lo)).take (HT.sIx xs.length xs.length hi - HT.sIx xs.length 0 lo)) (Yr l1 lo hi) (Nat.le_trans (Dt xs lo hi) z) q
 | tuple ds =>
   cases e; obtain ⟨p,xs,rfl,h1,l1⟩:=ra; cases rx; obtain ⟨z,its,r,ht⟩:=Fc I hG h1; have hlen:its.toArray.size=xs.length:=by rw [List.size_toArray]; exact r.length.symm
   refine ⟨"tuple",_,PyProof.Rows.slot_tuple_getitem.lookup,ht.typeIs,?_⟩
   by_cases hw:HT.sIx xs.length 0 lo=0/\HT.sIx xs.length xs.length hi=xs.length
   . refine Eh ht hs pl pu (by rw [hlen]; exact hw) ⟨.ref p,H,I,rfl,q _ G H (Grow.refl hG) ⟨p,xs,rfl,h1,?_⟩⟩
     have:Ba ds lo hi=ds:=by
       unfold Ba; rw [l1.length,hw.1,hw.2,List.drop_zero,Nat.sub_zero,<- l1.length,List.take_length]
     rw [this]; exact l1
   . refine HT.getItem_tuple_cut ht hs pl pu (by rw [hlen]; exact hw) ?_ (by rw [hlen]; exact z)
     rw [hlen]; exact Rt (t':=s.toks) I hG ((r.drop (HT.sIx xs.length 0 lo)).take (HT.sIx xs.length xs.length hi - HT.sIx xs.length 0 lo)) (Yr l1 lo hi) (Nat.le_trans (Dt xs lo hi) z) q
 | _=>cases e
def AftO (E:EK) (G H:Hp) (r:Res (Option Int)) (Q:Option Int->Hp->Prop):Prop:=match r with
 | .ok ds=>∀ G' H',Grow G H G' H'->Q ds H'
 | .exc c=>∀ G' H',Grow G H G' H'->E c H'
 | .no=>False
def tO (E:EK) (f:Dn->Res (Option Int)):TO:=fun σ H Q=>∃ G δ,SR G H σ δ/\AftO E G H (f δ) Q
abbrev DO (X:Cx) (E:EK) (e:Option Expr) (f:Dn->Res (Option Int)):Prop:=PO X e (tO E f)
theorem PO.imp {X:Cx} {e:Option Expr} {t t':TO} (h:PO X e t) (i:∀ σ H Q,t' σ H Q->t σ H Q):PO X e t':=fun pins s σ H Q I q=>h pins s σ H Q I (i _ _ _ q)
noncomputable def Bh:Dn->Res (Option Int):=fun _=>.ok none
noncomputable def Bg (f:Dn->Res PyData):Dn->Res (Option Int):=fun δ=>(f δ).bind fun d=>match d with
 | .int i=>.ok (some i)
 | _=>.no
theorem AftO.grow {E:EK} {G H G' H':Hp} {r:Res (Option Int)} {Q:Option Int->Hp->Prop} (g:Grow G H G' H') (a:AftO E G H r Q):AftO E G' H' r Q:=by
 cases r with
 | ok d=>exact fun G2 H2 g2=>a G2 H2 (g.trans g2)
 | exc c=>exact fun G2 H2 g2=>a G2 H2 (g.trans g2)
 | no=>exact a
theorem Mf:DO X E none Bh:=PO.imp jO fun σ H Q hZ3=>by obtain ⟨G,δ,S,a⟩:=hZ3; exact a G H (Grow.refl S.sub)
theorem Me (h:DE X E e f):DO X E (some e) (Bg f):=by
 refine PO.imp (jN h) fun σ H Q hZ3=>?_
 obtain ⟨G,δ,S,aft⟩:=hZ3
 refine Ki (W:=fun G H r=>AftO E G H r Q) S aft (fun g a=>AftO.grow g a) (fun c a=>a) (fun a=>a) fun d v G1 H1 g1 r1 S1 a1=>?_
 cases d with
 | int i=>exact ⟨i,r1,a1 G1 H1 (Grow.refl S1.sub)⟩
 | _=>exact (show False from a1).elim
theorem Vh {α:Type} {E:EK} {G H:Hp} {σ:St} {δ:Dn} {fs:Dn->Res (Option Int)} {k:Option Int->Res α} {R:Option Int->Hp->Prop} {W:Hp->Hp->Res α->Prop} (S:SR G H σ δ) (a:W G H ((fs δ).bind k)) (hg:∀ {G H G' H':Hp} {r:Res α},Grow G H G' H'->W G H r->W G' H' r)
   (hx:∀ c,W G H (.exc c)->∀ G' H',Grow G H G' H'->E c H') (hn:W G H .no->False)
   (h:∀ ds G1 H1,Grow G H G1 H1->SR G1 H1 σ δ->W G1 H1 (k ds)->R ds H1):tO E fs σ H R:=by
 refine ⟨G,δ,S,?_⟩
 cases e:fs δ with
 | ok d=>rw [e] at a; exact fun G' H' g=>h d G' H' g (S.grow g) (hg g a)
 | exc c=>rw [e] at a; exact hx c a
 | no=>rw [e] at a; exact hn a
noncomputable def vSl (f:Dn->Res PyData) (lo hi:Dn->Res (Option Int)):Dn->Res PyData:=fun δ=>(f δ).bind fun x=>(lo δ).bind fun l=>(hi δ).bind fun u=>ofO (bK x l u)
variable {lo hi:Option Expr} {fl fh:Dn->Res (Option Int)} {p2:Pos}
theorem Gs (he:DE X E e f) (hl:DO X E lo fl) (hu:DO X E hi fh):DE X E (.Subscript e (.Slice lo hi none p2) pos) (vSl f fl fh):=by
 refine PE.imp (eN sl_D he hl hu) fun σ H Q hZ3=>?_
 obtain ⟨G,δ,S,aft⟩:=hZ3
 refine G6 S aft fun d v G1 H1 g1 r1 S1 a1=>?_
 refine Vh (W:=fun G H r=>Aft E G H r Q) S1 a1 (fun g a=>Aft.grow g a) (fun c a=>a) (fun a=>a) fun l G2 H2 g2 S2 a2=>?_
 refine Vh (W:=fun G H r=>Aft E G H r Q) S2 a2 (fun g a=>Aft.grow g a) (fun c a=>a) (fun a=>a) fun u G3 H3 g3 S3 a3=>?_
 cases e:bK d l u with
 | none=>rw [e] at a3; exact a3.elim
 | some z=>rw [e] at a3; exact ⟨G3,d,z,S3.sub,r1.mono (g2.g.trans g3.g),e,a3⟩
end
end Sm
end
noncomputable section
namespace Sm
open PySem PySem.Spec PyProof.Rows L2
noncomputable section
variable {P:Program} {w:World} {K:PySem.W.Frag} {mg:Str->Option Value} {base:Heap} {X:Cx} {N:List Str} {sc:Scope} {k:Nat} {df:Bool} {E:EK} {pos p:Pos} {a b c e:Expr} {es:List Expr} {f g:Dn->Res PyData} {fs:Dn->Res (List PyData)}
noncomputable def rCD (op:List PyData->Option PyData):List V->Hp->VK->Prop:=fun vs H Q=>∃ G ds d,Same G H/\RepL G ds vs/\op ds=some d/\∀ v G' H',Grow G H G' H'->Rep G' d v->Q v H'
noncomputable def vFn (fs:Dn->Res (List PyData)) (op:List PyData->Option PyData):Dn->Res PyData:=fun δ=>(fs δ).bind fun ds=>ofO (op ds)
theorem mC {op:List PyData->Option PyData} {σ:St} {H:Hp} {Q:VK} (h:tD E (vFn fs op) σ H Q):tCB (rCD op) (tA E fs) σ H Q:=by
 obtain ⟨G,δ,S,aft⟩:=h
 refine O4 (W:=fun G H r=>Aft E G H r Q) S aft (fun g a=>Aft.grow g a) (fun c a=>a) (fun a=>a) fun ds vs G1 H1 e g1 r1 S1 a1=>?_
 cases e:op ds with
 | none=>rw [e] at a1; exact a1.elim
 | some d=>rw [e] at a1; exact ⟨G1,ds,d,S1.sub,r1,e,a1⟩
theorem gZ {x:Str} {id:String} {n:Nat} {op:List PyData->Option PyData} (C:Cxt P w K mg base X N sc k df) (hc:Ac X (.builtin id) (rCD op)) (h:okGl sc x=true) (hm:mg x=none) (hv:bootBuiltins x=some (.builtin id)) (ha:DA X E (e::es) n fs)
   (he:starEach (e::es) X.env=(false,eval e X.env)::starEach es X.env:=by rfl) (hpl:(backTo pos (starEach es X.env)).any (·.1)=false:=by rfl):DE X E (.Call (.Name x p) (e::es) [] pos) (vFn fs op):=by
 obtain ⟨h1,h2,h3⟩:=okGl.gl C h
 exact PE.imp (Gm hc h1 (by rw [C.hmg]; exact hm) hv ha.pa h3 h2 he hpl) fun _ _ _ q=>mC q
theorem Mu {x:Str} {T:String} {n:Nat} {op:List PyData->Option PyData} (C:Cxt P w K mg base X N sc k df) (hc:Ac X (.type T) (rCD op)) (h:okGl sc x=true) (hm:mg x=none) (hv:bootBuiltins x=some (.type T)) (ha:DA X E (e::es) n fs)
   (he:starEach (e::es) X.env=(false,eval e X.env)::starEach es X.env:=by rfl) (hpl:(backTo pos (starEach es X.env)).any (·.1)=false:=by rfl):DE X E (.Call (.Name x p) (e::es) [] pos) (vFn fs op):=by
 obtain ⟨h1,h2,h3⟩:=okGl.gl C h
 exact PE.imp (Pd hc h1 (by rw [C.hmg]; exact hm) hv ha.pa h3 h2 he hpl) fun _ _ _ q=>mC q
theorem Jl {G:Hp} {d:PyData} {vs:List V} (r:RepL G [d] vs):∃ v,vs=[v]/\Rep G d v:=by
 obtain ⟨x,t,rfl,h,l⟩:=r; cases (show _=_ from l); exact ⟨x,rfl,h⟩
theorem dW {G:Hp} {d d':PyData} {vs:List V} (r:RepL G [d,d'] vs):∃ v v',vs=[v,v']/\Rep G d v/\Rep G d' v':=by
 obtain ⟨x,t,rfl,h,l⟩:=r
 obtain ⟨y,rfl,h'⟩:=Jl l
 exact ⟨x,y,rfl,h,h'⟩
noncomputable def V6:List PyData->Option PyData
 | [.list ds]=>some (.int ds.length)
 | [.tuple ds]=>some (.int ds.length)
 | [.str x]=>some (.int x.length)
 | _=>none
theorem Wy:Ac X (.builtin "len") (rCD V6):=by
 rintro pins s σ H xs us Q I r ⟨G,ds,d,hG,rl,e,q⟩
 unfold V6 at e
 split at e
 . rename_i ys
   cases e; obtain ⟨v,rfl,a,vs,rfl,h1,l1⟩:=Jl rl; exact Mw pins s σ H _ us Q I r ⟨_,ys.length,rfl,.inl ⟨vs,.inl (Rd.mono hG h1),l1.length⟩,q _ G H (Grow.refl hG) rfl⟩
 . rename_i ys
   cases e; obtain ⟨v,rfl,a,vs,rfl,h1,l1⟩:=Jl rl; exact Mw pins s σ H _ us Q I r ⟨_,ys.length,rfl,.inr ⟨vs,.inl (.inl (hG _ _ h1)),l1.length⟩,q _ G H (Grow.refl hG) rfl⟩
 . rename_i x
   cases e; obtain ⟨v,rfl,r1⟩:=Jl rl
   cases r1.1
   exact Mw pins s σ H _ us Q I r ⟨_,x.length,rfl,⟨r1.2.2,rfl⟩,q _ G H (Grow.refl hG) rfl⟩
 . cases e
theorem Ds {n:Nat} (C:Cxt P w K mg base X N sc k df) (h:okGl sc "len" = true) (hm:mg "len" = none) (ha:DA X E (e::es) n fs)
   (he:starEach (e::es) X.env=(false,eval e X.env)::starEach es X.env:=by rfl) (hpl:(backTo pos (starEach es X.env)).any (·.1)=false:=by rfl):DE X E (.Call (.Name "len" p) (e::es) [] pos) (vFn fs V6) :=
 gZ C Wy h hm PySem.boot_len ha he hpl
noncomputable def Yv:List PyData->Option (List Bool)
 | []=>some []
 | .bool b::ds=>(Yv ds).map (b::·)
 | _::_=>none
noncomputable def dAll:List PyData->Option PyData
 | [.list ds]=>(Yv ds).map fun bs=>.bool (bs.all id)
 | _=>none
noncomputable def Hy:List PyData->Option PyData
 | [.list ds]=>some (.list ds)
 | [.tuple ds]=>some (.list ds)
 | _=>none
noncomputable def Ep:List PyData->Option PyData
 | [.list ds]=>some (.tuple ds)
 | [.tuple ds]=>some (.tuple ds)
 | _=>none
noncomputable def Pw:List PyData->Option PyData
 | [.int i]=>some (.int i)
 | [.bool b]=>some (.int (if b then 1 else 0))
 | _=>none
theorem Ux:Ac X (.type "list") (rCD Hy):=by
 rintro pins s σ H xs us Q I r ⟨G,ds,d,hG,rl,e,q⟩
 unfold Hy at e
 split at e
 . rename_i ys
   cases e; obtain ⟨v,rfl,a,vs,rfl,h1,l1⟩:=Jl rl; exact Gu pins s σ H _ us Q I r ⟨a,vs,rfl,.inl (.inl (Rd.mono hG h1)),fun l hl=>q _ (upd G l (.lst vs)) _ (Grow.new hG hl) ⟨l,vs,rfl,.inl B7,l1.mono (Same.upd (hG.free hl))⟩⟩
 . rename_i ys
   cases e; obtain ⟨v,rfl,a,vs,rfl,h1,l1⟩:=Jl rl; exact Gu pins s σ H _ us Q I r ⟨a,vs,rfl,.inr (.inl (.inl (hG _ _ h1))),fun l hl=>q _ (upd G l (.lst vs)) _ (Grow.new hG hl) ⟨l,vs,rfl,.inl B7,l1.mono (Same.upd (hG.free hl))⟩⟩
 . cases e
theorem Wx:Ac X (.type "tuple") (rCD Ep):=by
 rintro pins s σ H xs us Q I r ⟨G,ds,d,hG,rl,e,q⟩
 unfold Ep at e
 split at e
 . rename_i ys
   cases e; obtain ⟨v,rfl,a,vs,rfl,h1,l1⟩:=Jl rl; exact Es pins s σ H _ us Q I r ⟨a,vs,rfl,.inl ⟨.inl (Rd.mono hG h1),fun l hl=>q _ (upd G l (.tup vs)) _ (Grow.new hG hl) ⟨l,vs,rfl,B7,l1.mono (Same.upd (hG.free hl))⟩⟩⟩
 . rename_i ys
   cases e; obtain ⟨v,rfl,a,vs,rfl,h1,l1⟩:=Jl rl; exact Es pins s σ H _ us Q I r ⟨a,vs,rfl,.inr ⟨.inl (.inl (hG _ _ h1)),q _ G H (Grow.refl hG) ⟨a,vs,rfl,h1,l1⟩⟩⟩
 . cases e
theorem Wz:Ac X (.type "int") (rCD Pw):=by
 rintro pins s σ H xs us Q I r ⟨G,ds,d,hG,rl,e,q⟩
 unfold Pw at e
 split at e
 . rename_i i
   cases e; obtain ⟨v,rfl,e1⟩:=Jl rl
   cases (show _=_ from e1)
   exact Py pins s σ H _ us Q I r (.inl ⟨i,rfl,q _ G H (Grow.refl hG) rfl⟩)
 . rename_i b
   cases e; obtain ⟨v,rfl,e1⟩:=Jl rl
   cases (show _=_ from e1)
   refine Py pins s σ H _ us Q I r (.inr ⟨b,rfl,?_⟩); have:=q (.int (if b then 1 else 0)) G H (Grow.refl hG) rfl
   cases b <;> exact this
 . cases e
theorem lH {n:Nat} (C:Cxt P w K mg base X N sc k df) (h:okGl sc "list" = true) (hm:mg "list" = none) (ha:DA X E (e::es) n fs)
   (he:starEach (e::es) X.env=(false,eval e X.env)::starEach es X.env:=by rfl) (hpl:(backTo pos (starEach es X.env)).any (·.1)=false:=by rfl):DE X E (.Call (.Name "list" p) (e::es) [] pos) (vFn fs Hy) :=
 Mu C Ux h hm (by decide +kernel) ha he hpl
theorem gU {n:Nat} (C:Cxt P w K mg base X N sc k df) (h:okGl sc "tuple" = true) (hm:mg "tuple" = none) (ha:DA X E (e::es) n fs)
   (he:starEach (e::es) X.env=(false,eval e X.env)::starEach es X.env:=by rfl) (hpl:(backTo pos (starEach es X.env)).any (·.1)=false:=by rfl):DE X E (.Call (.Name "tuple" p) (e::es) [] pos) (vFn fs Ep) :=
 Mu C Wx h hm (by decide +kernel) ha he hpl
theorem pY {n:Nat} (C:Cxt P w K mg base X N sc k df) (h:okGl sc "int" = true) (hm:mg "int" = none) (ha:DA X E (e::es) n fs)
   (he:starEach (e::es) X.env=(false,eval e X.env)::starEach es X.env:=by rfl) (hpl:(backTo pos (starEach es X.env)).any (·.1)=false:=by rfl):DE X E (.Call (.Name "int" p) (e::es) [] pos) (vFn fs Pw) :=
 Mu C Wz h hm (by decide +kernel) ha he hpl
noncomputable def Qp:PyData->String
 | .none => "NoneType" | .bool _ => "bool" | .int _ => "int" | .str _ => "str" | .list _ => "list" | .tuple _ => "tuple" | .dict _ => "dict"
noncomputable def Oe (T:String) (d:PyData):Bool:=(Qp d==T)||(T == "int" && Qp d == "bool")
noncomputable def oS (T:String):Bool:=T == "int" || T == "bool" || T == "str" || T == "list" || T == "tuple"
theorem pC {K:PySem.W.Frag} {T:String} (h:oS T=true) (d:PyData) (hd:∀ kvs,d≠.dict kvs):PySem.W.kitOne K (.type (Qp d)) (.type T)=some (Oe T d):=by
 unfold oS at h
 simp only [Bool.or_eq_true,beq_iff_eq] at h
 rcases h with (((h | h) | h) | h) | h <;> subst h <;> cases d <;> first | kernel_rfl | exact absurd rfl (hd _)
theorem Rep.tyOf {G H:Hp} (hG:Same G H) {d:PyData} {v:V} (r:Rep G d v):TyOf K H v (.type (Qp d)):=by
 cases d with
 | none=>cases (show _=_ from r); exact .non
 | bool _=>cases (show _=_ from r); exact .bl _
 | int _=>cases (show _=_ from r); exact .int _
 | str x=>cases r.1; exact .str _
 | list _ =>
   obtain ⟨a,xs,rfl,h1,l1⟩:=r; rcases h1 with h1 | ⟨o,h1⟩
   . exact .lst (hG _ _ h1)
   . exact .frz (hG _ _ h1)
 | tuple _=>obtain ⟨a,xs,rfl,h1,l1⟩:=r; exact .tup (hG _ _ h1)
 | dict _=>exact (show False from r).elim
theorem Mt {T:Str} {Tn:String} {p1:Pos} (C:Cxt P w K mg base X N sc k df) (h:okGl sc "isinstance" = true) (hm:mg "isinstance" = none) (hT:okGl sc T=true) (hmT:mg T=none) (hbT:bootBuiltins T=some (.type Tn)) (hk:oS Tn=true) (ha:DE X E a f)
   (he:starEach (a::[.Name T p1]) X.env=(false,eval a X.env)::starEach [.Name T p1] X.env:=by rfl) (he2:starEach [.Name T p1] X.env=(false,eval (.Name T p1) X.env)::starEach [] X.env:=by rfl) (hpl:(backTo pos (starEach [.Name T p1] X.env)).any (·.1)=false:=by rfl) :
   DE X E (.Call (.Name "isinstance" p) [a,.Name T p1] [] pos) (b1 f fun d=>some (.bool (Oe Tn d))):=by
 obtain ⟨h1,h2,h3⟩:=okGl.gl C h
 obtain ⟨t1,t2,t3⟩:=okGl.gl C hT
 have hc:Ac X (.builtin "isinstance") (fun vs H Q=>∃ G d v,Same G H/\Rep G d v/\vs=[v,.ty Tn]/\Q (.bl (Oe Tn d)) H):=by
   rintro pins s σ H xs us Q I r ⟨G,d,v,hG,rd,e,q⟩
   subst e; obtain ⟨u,u',rfl,r1,r2⟩:=vals2 r
   cases (show u'=Value.type Tn from r2)
   refine bB I r1 (rd.tyOf hG) (pC hk d fun kvs z=>?_) fun tk=>⟨.bl _,H,I.tok _,rfl,q⟩
   subst z; exact rd
 refine PE.imp (Gm hc h1 (by rw [C.hmg]; exact hm) (by decide +kernel) (E1 ha (E1 (Xy (v:=.ty Tn) t1 (by rw [C.hmg]; exact hmT) hbT rfl t3 t2) L9 he2) he) h3 h2 he hpl) fun σ H Q hY53=>?_
 obtain ⟨G,δ,S,aft⟩:=hY53
 refine G6 S aft fun d v G1 H1 g1 r1 S1 a1=>?_
 exact ⟨G1,d,v,S1.sub,r1,rfl,a1 _ G1 H1 (Grow.refl S1.sub) rfl⟩
noncomputable def Br:List PyData->Option (List Str)
 | []=>some []
 | .str b::ds=>(Br ds).map (b::·)
 | _::_=>none
noncomputable def Pv (x:Str):PyData->Option PyData
 | .list ds=>(Br ds).bind fun ys=>if (ys.map (·.length)).sum+ys.length*x.length<=16777216/\PyData.strOk (Str.join x ys)=true/\(Str.join x ys).length<=sizeLine then some (.str (Str.join x ys)) else none
 | _=>none
theorem Sy {G:Hp}:∀ {ds:List PyData} {xs:List V} {us:List Value} {ys:List Str},RepL G ds xs->Vals xs us->Br ds=some ys->StrsAre us ys
 | [],_,_,_,r,q,e=>by cases (show _=_ from r); cases q; cases e; exact .nil
 | .str b::ds,_,_,_,r,q,e=>by
   obtain ⟨x,t,rfl,h,l⟩:=r
   cases h.1
   cases q with
   | cons q qs =>
     obtain ⟨tk,rfl⟩:=q; obtain ⟨bs,e1,rfl⟩:=Option.map_eq_some_iff.mp e; exact .cons _ _ (Sy l qs e1)
 | .none::_,_,_,_,_,_,e=>by cases e
 | .int _::_,_,_,_,_,_,e=>by cases e
 | .bool _::_,_,_,_,_,_,e=>by cases e
 | .list _::_,_,_,_,_,_,e=>by cases e
 | .tuple _::_,_,_,_,_,_,e=>by cases e
 | .dict _::_,_,_,_,_,_,e=>by cases e
theorem kF:MtR X "str.join" (fun x vs H Q=>∃ G z v d r,Same G H/\x=.str z/\vs=[v]/\Rep G d v/\Pv z d=some (.str r)/\Q (.str r) H):=by
 rintro pins s σ H x vs v us Q I rx rv ⟨G,z,y,d,r,hG,e1,e2,rd,e,q⟩
 subst e1 e2
 obtain ⟨t,rfl⟩:=rx
 obtain ⟨u,rfl,ru⟩:=rv.one
 cases d with
 | list ds =>
   obtain ⟨ys,e3,e4⟩:=Option.bind_eq_some_iff.mp e
   split at e4
   . rename_i hc
     cases e4; obtain ⟨l,xs,rfl,h1,l1⟩:=rd; cases ru; obtain ⟨zz,its,n,rv2,e5⟩:=R0 I hG h1; refine join_list ⟨_,e5,rfl,n,rfl⟩ (by simpa using Sy l1 rv2 e3) hc.1 fun t' k=>⟨.str _,H,I.tok _,⟨t',?_⟩,q⟩
     rw [eq_of_beq (join_plain_closes z ys)]
   . cases e4
 | _=>cases e
noncomputable def Ii (x:Str) (f:Dn->Res PyData):Dn->Res PyData:=fun δ=>(f δ).bind fun d=>ofO (Pv x d)
theorem bJ {z:Str} {d d':PyData} (e:Pv z d=some d'):∃ r,d'=.str r/\PyData.strOk r=true/\r.length<=sizeLine:=by
 cases d with
 | list ds =>
   obtain ⟨ys,e3,e4⟩:=Option.bind_eq_some_iff.mp e
   split at e4
   . rename_i hc; cases e4; exact ⟨_,rfl,hc.2.1,hc.2.2⟩
   . cases e4
 | _=>cases e
theorem Ww {z:Str} {j:Nat} {p1 apos cpos:Pos} (ha:DE X E a f) (hbase:attributeBase (.Constant (.str z) j p1) "join" X.env (eval (.Constant (.str z) j p1) X.env)=eval (.Constant (.str z) j p1) X.env:=by rfl)
   (hfew:((backTo cpos (starEach [a] X.env)).all (fun x => !x.1)&&(backToKw cpos (keywordEach [] X.env)).all (fun x=>x.1.isSome)
     && decide ([a].length+([]:List Keyword).length+(if ([]:List Keyword).isEmpty then 0 else 1) < 30))=true:=by rfl)
   (hline:(apos.endLine==cpos.line)=true:=by rfl) (hs:starEach [a] X.env=(false,eval a X.env)::starEach [] X.env:=by rfl) (hplain:(backTo cpos (starEach [] X.env)).any (·.1)=false:=by rfl) :
   DE X E (.Call (.Attribute (.Constant (.str z) j p1) "join" apos) [a] [] cpos) (Ii z f):=by
 refine PE.imp (Mb PySem.F.plainAttrs_str PySem.F.slot_str_join PySem.F.type_str_join kF Ri (E1 ha L9 hs) hbase hfew hline hs hplain) fun σ H Q hY54=>?_
 obtain ⟨G,δ,S,aft⟩:=hY54
 refine ⟨rfl,?_⟩
 refine G6 S aft fun d v G1 H1 g1 r1 S1 a1=>?_
 cases e:Pv z d with
 | none=>rw [e] at a1; exact a1.elim
 | some d' =>
   obtain ⟨r,rfl,o1,o2⟩:=bJ e; rw [e] at a1; exact ⟨G1,z,v,d,r,S1.sub,rfl,rfl,r1,e,a1 _ G1 H1 (Grow.refl S1.sub) ⟨rfl,o1,o2⟩⟩
def spD (n:Nat) (m:List PyData->Res PyData):Sp:=fun vs H Q _=>∃ G ds d,Same G H/\RepL G ds vs/\ds.length=n/\m ds=.ok d/\∀ v G' H',Grow G H G' H'->Rep G' d v->Q v H'
structure Fn (P:Program) (w:World) (K:PySem.W.Frag) (mg:Str->Option Value) (base:Heap) (x:Str) (k n:Nat) (m:List PyData->Res PyData):Prop where
 ex:∃ f fd ps,ps.length=n/\FnOk P w K mg base CX0 k f fd ps (spD n m)/\mg x=some (.ref f)/\PySem.W.keepIn K (.ref f)=true/\Binds K fd ps []
def E0k:EK:=fun _ _=>False
noncomputable def C5 (fs:Dn->Res (List PyData)) (m:List PyData->Res PyData):Dn->Res PyData:=fun δ=>(fs δ).bind m
theorem D2 {x:Str} {j n:Nat} {m:List PyData->Res PyData} (C:Cxt P w K mg base X N sc k df) (F:Fn P w K mg base x j n m) (hj:j<=k) (h:okGl sc x=true) (ha:DA X E0k (e::es) n fs)
   (he:starEach (e::es) X.env=(false,eval e X.env)::starEach es X.env:=by rfl) (hpl:(backTo pos (starEach es X.env)).any (·.1)=false:=by rfl):DE X E0k (.Call (.Name x p) (e::es) [] pos) (C5 fs m):=by
 obtain ⟨f,fd,ps,hps,F,hm,hk,hb⟩:=F.ex
 obtain ⟨h1,h2,h3⟩:=okGl.gl C h
 have F':FnOk X.prog X.w X.K X.mg X.base CX0 j f fd ps (spD n m):=by rw [C.hP,C.hw,C.hK,C.hmg,C.hb]; exact F
 refine PE.imp (Bx F' (C.room.mono hj) h1 (by rw [C.hmg]; exact hm) (by rw [C.hK]; exact hk) (by rw [C.hK]; exact hb) .nil (Pe (X:=X)) ha.pa h2 he hpl) fun σ H Q hY55=>?_
 obtain ⟨G,δ,S,aft⟩:=hY55
 refine O4 (W:=fun G H r=>Aft E0k G H r Q) S aft (fun g a=>Aft.grow g a) (fun c a=>a) (fun a=>a) fun ds vs G1 H1 e g1 r1 S1 a1=>?_
 rw [List.append_nil]
 cases q:m ds with
 | ok d=>rw [q] at a1; exact ⟨G1,ds,d,S1.sub,r1,ha.len δ ds e,q,a1⟩
 | exc c=>rw [q] at a1; exact (a1 G1 H1 (Grow.refl S1.sub)).elim
 | no=>rw [q] at a1; exact a1.elim
end
end Sm
end
noncomputable section
namespace Sm
open PySem PySem.Spec PyProof.Rows L2
noncomputable def Its (z:Str):It:=⟨fun i _=>i < z.cps.size,fun i H x H'=>H'=H/\∃ c,z.cps[i]? = some c/\x=.str ⟨#[c]⟩,fun i _=>z.cps.size<=i⟩
theorem Vr {P:Program} {w:World} {K:PySem.W.Frag} {tg:Expr} (it:Addr) (z:Str) (t:Tok):Turn P w K tg (Its z) [it] it (fun i h=>h.IsStrIter it "str_ascii_iterator" z t i) where
 mem:=by simp
 obj:=fun i h st b hb=>by
   have e:b=it:=by simpa using hb
   subst e; obtain ⟨o,e,c,d⟩:=st; exact ⟨o,e,fun v z=>by rw [d] at z; cases z⟩
 keep:=fun i h h' st k=>by
   obtain ⟨o,e,c,d⟩:=st; exact ⟨o,k it (by simp) o e,c,d⟩
 item:=by
   intro X hP hw hK hc i pins s σ H E I hf st hg; subst hP hw hK; obtain ⟨f0,f1,f2,f3,f4,f5⟩:=hf it (by simp)
   have hi:i < z.cps.size:=hg; refine wpAny_pyNext_ascii_item st (c:=z.cps[i]) (by simp [hi]) fun h' st' sb=>?_
   have I1:Inv X pins σ H { s with heap:=h',toks:=s.toks+1 }:=I.turned (fun b o hb e=>(sb.2 b hb).trans e) f0 f1 f3 f4 f5
   obtain ⟨o,e,c,d⟩:=id st'; exact ⟨_,rfl,Pp (s:={ s with heap:=h',toks:=s.toks+1 }) e c d (by decide) ⟨.str ⟨#[z.cps[i]]⟩,H,I1,⟨_,rfl⟩,⟨rfl,_,by simp [hi],rfl⟩,st',fun b hb=>(hf b hb).1⟩⟩
 done:=by
   intro X hP hw hK hc i pins s σ H E I hf st hg; subst hP hw hK; obtain ⟨f0,f1,f2,f3,f4,f5⟩:=hf it (by simp)
   have hi:z.cps.size<=i:=hg; exact wpAny_pyNext_ascii_end (I.ok.hd hc) st (by simpa using hi) fun h' eb=>⟨rfl,I.turned (t':=s.toks) (fun b o hb e=>eb b o hb e) f0 f1 f3 f4 f5⟩
 self:=fun _ _ _ _ _ st h=>wpAny_pyIter_striter_ascii st h
theorem Zl {P:Program} {w:World} {K:PySem.W.Frag} {tg:Expr} (it:Addr) (z:Str) (t:Tok):Turn P w K tg (Its z) [it] it (fun i h=>h.IsStrIter it "str_iterator" z t i) where
 mem:=by simp
 obj:=fun i h st b hb=>by
   have e:b=it:=by simpa using hb
   subst e; obtain ⟨o,e,c,d⟩:=st; exact ⟨o,e,fun v z=>by rw [d] at z; cases z⟩
 keep:=fun i h h' st k=>by
   obtain ⟨o,e,c,d⟩:=st; exact ⟨o,k it (by simp) o e,c,d⟩
 item:=by
   intro X hP hw hK hc i pins s σ H E I hf st hg; subst hP hw hK; obtain ⟨f0,f1,f2,f3,f4,f5⟩:=hf it (by simp)
   have hi:i < z.cps.size:=hg; refine wpAny_pyNext_wide_item st (c:=z.cps[i]) (by simp [hi]) fun h' st' sb=>?_
   have I1:Inv X pins σ H { s with heap:=h',toks:=s.toks+1 }:=I.turned (fun b o hb e=>(sb.2 b hb).trans e) f0 f1 f3 f4 f5
   obtain ⟨o,e,c,d⟩:=id st'; exact ⟨_,rfl,Pp (s:={ s with heap:=h',toks:=s.toks+1 }) e c d (by decide) ⟨.str ⟨#[z.cps[i]]⟩,H,I1,⟨_,rfl⟩,⟨rfl,_,by simp [hi],rfl⟩,st',fun b hb=>(hf b hb).1⟩⟩
 done:=by
   intro X hP hw hK hc i pins s σ H E I hf st hg; subst hP hw hK; obtain ⟨f0,f1,f2,f3,f4,f5⟩:=hf it (by simp)
   have hi:z.cps.size<=i:=hg; exact wpAny_pyNext_wide_end (I.ok.hd hc) st (by simpa using hi) fun h' eb=>⟨rfl,I.turned (t':=s.toks) (fun b o hb e=>eb b o hb e) f0 f1 f3 f4 f5⟩
 self:=fun _ _ _ _ _ st h=>wpAny_pyIter_striter_wide st h
noncomputable def Ite (K:PySem.W.Frag) (a:Addr):It :=
 ⟨fun i H=>∃ xs x,SqL K H a xs/\xs[i]? = some x,fun i H x H'=>∃ p y,H p=none/\x=.ref p/\H'=upd H p (.tup [.int i,y])/\∀ xs,SqL K H a xs->xs[i]? = some y,fun i H=>∃ xs,SqL K H a xs/\xs.length<=i⟩
theorem Zn {P:Program} {w:World} {K:PySem.W.Frag} {elts:List Expr} {x1:Nat} {tp:Pos} (a e it:Addr) (hne:e≠it):Turn P w K (.Tuple elts x1 tp) (Ite K a) [e,it] e (fun i h=>(∃ old,IsEnum h e it (i:Int) old)/\h.IsListIter it a i) where
 mem:=by simp
 obj:=fun i h st b hb=>by
   obtain ⟨⟨old,h1⟩,o,h2,c,d⟩:=st; rcases List.mem_cons.mp hb with rfl | hb
   . exact ⟨_,h1,fun v z=>by cases z⟩
   . have e':b=it:=by simpa using hb
     subst e'; exact ⟨o,h2,fun v z=>by rw [d] at z; cases z⟩
 keep:=fun i h h' st k=>by
   obtain ⟨⟨old,h1⟩,o,h2,c,d⟩:=st; exact ⟨⟨old,k e (by simp) _ h1⟩,o,k it (by simp) o h2,c,d⟩
 item:=by
   intro X hP hw hK hc i pins s σ H E I hf st hg; subst hP hw hK; obtain ⟨⟨old,he⟩,st⟩:=st; obtain ⟨xs,x,hq,hx⟩:=hg; obtain ⟨its,rv,p,hz⟩:=I.list hq; obtain ⟨u,hu,ru⟩:=rv.get hx; obtain ⟨f0,f1,f2,f3,f4,f5⟩:=hf e (by simp)
   obtain ⟨g0,g1,g2,g3,g4,g5⟩:=hf it (by simp)
   refine wpAny_pyNext_enum_item he st p.isList (x:=u) (by simpa using hu) hne fun h' he' st' ht' hsz kp=>?_
   refine ⟨_,rfl,wpAny_letOwnedTupleGo_enum he' fun h2 he2 sb=>?_⟩
   have hfr:H s.heap.objs.size=none:=I.fresh; have elt:e < s.heap.objs.size:=Heap.lt_size he; have ilt:it < s.heap.objs.size:=by obtain ⟨o,h,_⟩:=st; exact Heap.lt_size h
   have kp2:∀ b o,b≠e->b≠it->s.heap.get? b=some o->h2.get? b=some o:=fun b o h1 h3 q=>(sb.2 b h1).trans (kp b o h1 h3 q)
   have I1:Inv X pins σ H { s with heap:=h2,toks:=s.toks+1 }:=by
     refine I.step (g':=s.gens) (d':=s.drawn) (ch:=[e,it]) (fun b hb=>?_) (fun b o _ _ hcb q _=>kp2 b o (fun z=>hcb (by simp [z])) (fun z=>hcb (by simp [z])) q) (fun b o _ _ hcb q _=>⟨o.slots,kp2 b o (fun z=>hcb (by simp [z])) (fun z=>hcb (by simp [z])) q⟩) (fun _ _ _ _ n=>n)
       (fun b o hcb q=>⟨o,kp2 b o (fun z=>hcb (by simp [z])) (fun z=>hcb (by simp [z])) q⟩) (fun _ _ q=>q) (fun _ _ _ q=>q) (fun b ps q=>⟨#[],by rw [q]; simp⟩) (fun m hm=>?_) (fun b u' q=>?_) I.bare
     . rcases List.mem_cons.mp hb with rfl | hb
       . exact ⟨f3,f1,f4,f5⟩
       . have e':b=it:=by simpa using hb
         subst e'; exact ⟨g3,g1,g4,g5⟩
     . obtain ⟨o,es,ep,ho,r⟩:=hm
       exact ⟨o,es,ep,kp2 _ o (Ne.symm f1) (Ne.symm g1) ho,r⟩
     . refine (I.hok b u' q).stay (fun c v hcc q'=>kp2 c v ?_ ?_ q') (fun _ q'=>q') fun _ _ q'=>q'
       . rintro rfl
         rcases hcc with z | z
         . subst z; rw [f0] at q; cases q
         . rw [f0] at z; cases z
       . rintro rfl
         rcases hcc with z | z
         . subst z; rw [g0] at q; cases q
         . rw [g0] at z; cases z
   have htt:h2.get? s.heap.objs.size=some { cls:=.type "tuple",data:=.seq #[.int i s.toks,u] }:=(sb.2 _ (Nat.ne_of_gt elt)).trans ht'; have Hold:∀ b o,H b=some o->b≠s.heap.objs.size:=fun b o q z=>by subst z; rw [hfr] at q; cases q
   have I2:Inv X pins σ (upd H s.heap.objs.size (.tup [.int i,x])) { s with heap:=h2,toks:=s.toks+1 }:=by
     have nb:∀ b o,b≠s.heap.objs.size->s.heap.get? b=some o->True:=fun _ _ _ _=>trivial
     have base':Un X.fs X.ex X.H₀ (upd H s.heap.objs.size (.tup [.int i,x])) X.s₀.heap h2:=by
       have B:=I1.base; have ne0:∀ b o,X.s₀.heap.get? b=some o->b≠s.heap.objs.size:=fun b o q=>Nat.ne_of_lt (Nat.lt_of_lt_of_le (Heap.lt_size q) I.sz)
       exact ⟨B.keep,B.slot,fun b o q n hx=>by rw [B3 (ne0 b o q)]; exact B.free b o q n hx,B.there,
         fun b ys q=>by rw [B3 (Hold b _ (B.tups b ys q))]; exact B.tups b ys q,fun b o' u' q=>by rw [B3 (Hold b _ (B.frzs b o' u' q))]; exact B.frzs b o' u' q,
         fun b ps q=>by obtain ⟨m,q'⟩:=B.tbls b ps q; exact ⟨m,by rw [B3 (Hold b _ q')]; exact q'⟩⟩
     have hok':HOk X.prog X.w (upd H s.heap.objs.size (.tup [.int i,x])) h2:=fun b o q=>by
       by_cases hb:b=s.heap.objs.size
       . subst hb
         rw [B7] at q; cases q; refine ⟨by show 2<=sizeLine; decide,[.int i s.toks,u],.cons ⟨_,rfl⟩ (.cons ru .nil),⟨_,htt,rfl,0,rfl⟩⟩
       . rw [B3 hb] at q
         exact (I1.hok b o q).stay (fun _ _ _ q'=>q') (fun c q'=>by rw [B3 (Hold c _ q')]; exact q') fun c ys q'=>by rw [B3 (Hold c _ q')]; exact q'
     refine ⟨I1.ok,I1.os,I1.bare,base',I1.loc,I1.cell,?_,fun y c q=>?_,fun p hp=>?_,hok',I1.len⟩
     . rw [B3 (Nat.ne_of_lt I.lt)]; exact I1.free
     . obtain ⟨v,oc,hoc,_⟩:=I.cell y c q
       rw [B3 (Nat.ne_of_lt (Heap.lt_size hoc))]; exact I1.freeC y c q
     . obtain ⟨q1,q2,q3,q4,q5⟩:=I1.pin p hp
       refine ⟨q1,?_,q3,q4,q5⟩; rw [B3 (Nat.ne_of_lt (Heap.lt_size (I.pin p hp).1))]; exact q2
   refine ⟨.ref s.heap.objs.size,_,I2,rfl,⟨_,x,hfr,rfl,rfl,fun ys hy=>by rw [I.list_inj hy hq]; exact hx⟩,⟨⟨_,by push_cast; exact he2⟩,?_⟩,fun b hb=>?_⟩
   . obtain ⟨o,q,c,d⟩:=st'
     exact ⟨o,(sb.2 it (Ne.symm hne)).trans q,c,d⟩
   . rcases List.mem_cons.mp hb with rfl | hb
     . rw [B3 (Nat.ne_of_lt elt)]; exact f0
     . have e':b=it:=by simpa using hb
       subst e'; rw [B3 (Nat.ne_of_lt ilt)]; exact g0
 done:=by
   intro X hP hw hK hc i pins s σ H E I hf st hg; subst hP hw hK; obtain ⟨⟨old,he⟩,st⟩:=st; obtain ⟨xs,hq,hx⟩:=hg; obtain ⟨its,rv,p,hz⟩:=I.list hq; obtain ⟨g0,g1,g2,g3,g4,g5⟩:=hf it (by simp)
   have hl:=rv.length; exact wpAny_pyNext_enum_end (I.ok.hd hc) he st p.isList (by simp; lia) fun h' eb=>⟨rfl,I.turned (t':=s.toks) (fun b o hb e=>eb b o hb e) g0 g1 g3 g4 g5⟩
 self:=fun _ _ _ _ _ st h=>by
   obtain ⟨⟨old,he⟩,_⟩:=st; exact wpAny_pyIter_enum he h
end Sm
end
noncomputable section
namespace Sm
open PySem PySem.Spec PyProof.Rows L2
structure Walk (J:It) (G:Hp) (ds:List PyData):Prop where
 go:∀ (i:Nat) (H:Hp),i < ds.length->Same G H->J.go i H
 yld:∀ (i:Nat) (d:PyData) (G2 H:Hp) (x:V) (H':Hp),ds[i]? = some d->Same G G2->Same G2 H->J.yld i H x H'->∃ G3,Grow G2 H G3 H'/\Rep G3 d x
 stop:∀ (i:Nat) (H:Hp),ds.length<=i->Same G H->J.stop i H
def AftI (E:EK) (G H:Hp) (r:Res (List PyData)) (R:It->Hp->Prop):Prop:=match r with
 | .ok ds=>∀ J G' H',Grow G H G' H'->Walk J G' ds->R J H'
 | .exc c=>∀ G' H',Grow G H G' H'->E c H'
 | .no=>False
def tI (E:EK) (f:Dn->Res (List PyData)):TI:=fun σ H R=>∃ G δ,SR G H σ δ/\AftI E G H (f δ) R
abbrev DI (X:Cx) (E:EK) (tg e:Expr) (f:Dn->Res (List PyData)):Prop:=PI X tg e (tI E f)
theorem AftI.grow {E:EK} {G H G' H':Hp} {r:Res (List PyData)} {Q:It->Hp->Prop} (g:Grow G H G' H') (a:AftI E G H r Q):AftI E G' H' r Q:=by
 cases r with
 | ok d=>exact fun v G2 H2 g2 q=>a v G2 H2 (g.trans g2) q
 | exc c=>exact fun G2 H2 g2=>a G2 H2 (g.trans g2)
 | no=>exact a
theorem PI.imp {X:Cx} {tg e:Expr} {t t':TI} (h:PI X tg e t) (i:∀ σ H Q,t' σ H Q->t σ H Q):PI X tg e t':=fun pins s σ H Q I q=>h pins s σ H Q I (i _ _ _ q)
noncomputable def Qt (x:Str):List PyData:=x.cps.toList.map fun c=>.str ⟨#[c]⟩
noncomputable def E9:PyData->Res (List PyData)
 | .list ds=>.ok ds
 | .tuple ds=>.ok ds
 | .str x=>.ok (Qt x)
 | _=>.no
theorem Zg {K:PySem.W.Frag} {G:Hp} {a:Addr} {xs:List V} {ds:List PyData} (h:Rd G a (.lst xs)) (l:RepL G ds xs):Walk (Itl K a) G ds where
 go:=fun i H hi hG=>by
   have hi':i < xs.length:=by rw [<- l.length]; exact hi
   exact ⟨xs,xs[i],.inl (Rd.mono hG h),by simp [hi']⟩
 yld:=fun i d G2 H x H' e h1 h2 hy=>by
   obtain ⟨rfl,hy⟩:=hy; obtain ⟨y,e1,r⟩:=l.get e; have:=hy xs (.inl (Rd.mono (h1.trans h2) h)); rw [e1] at this; cases this; exact ⟨G2,Grow.refl h2,r.mono h1⟩
 stop:=fun i H hi hG=>⟨xs,.inl (Rd.mono hG h),by rw [<- l.length]; exact hi⟩
theorem cD {K:PySem.W.Frag} {G:Hp} {a:Addr} {xs:List V} {ds:List PyData} (h:G a=some (.tup xs)) (l:RepL G ds xs):Walk (Itt K a) G ds where
 go:=fun i H hi hG=>by
   have hi':i < xs.length:=by rw [<- l.length]; exact hi
   exact ⟨xs,xs[i],.inl (.inl (hG _ _ h)),by simp [hi']⟩
 yld:=fun i d G2 H x H' e h1 h2 hy=>by
   obtain ⟨rfl,hy⟩:=hy; obtain ⟨y,e1,r⟩:=l.get e; have:=hy xs (.inl (.inl (h2 _ _ (h1 _ _ h)))); rw [e1] at this; cases this; exact ⟨G2,Grow.refl h2,r.mono h1⟩
 stop:=fun i H hi hG=>⟨xs,.inl (.inl (hG _ _ h)),by rw [<- l.length]; exact hi⟩
theorem Sj {G:Hp} {z:Str} (ho:PyData.strOk z=true):Walk (Its z) G (Qt z) where
 go:=fun i H hi hG=>by
   show i < z.cps.size
   simpa [Qt] using hi
 yld:=fun i d G2 H x H' e h1 h2 hy=>by
   obtain ⟨rfl,c,hc,rfl⟩:=hy; have e':(z.cps.toList.map fun c=>PyData.str ⟨#[c]⟩)[i]? = some d:=e
   rw [List.getElem?_map,Array.getElem?_toList,hc] at e'
   cases e'; refine ⟨G2,Grow.refl h2,rfl,?_,by show 1<=sizeLine; decide⟩
   unfold PyData.strOk at ho ⊢
   rw [<- Array.all_toList,List.all_eq_true] at ho; have:=ho c (by rw [<- Array.getElem?_toList] at hc; exact List.mem_of_getElem? hc)
   simpa using this
 stop:=fun i H hi hG=>by
   show z.cps.size<=i
   simpa [Qt] using hi
theorem Vl {G:Hp} (lo:Int) (n:Nat):Walk (Itr lo n) G ((List.range n).map fun (i:Nat)=>PyData.int (lo+i)) where
 go:=fun i H hi hG=>by
   show i < n
   simpa using hi
 yld:=fun i d G2 H x H' e h1 h2 hy=>by
   obtain ⟨rfl,rfl⟩:=hy; rw [List.getElem?_map] at e
   by_cases hi:i < n
   . rw [List.getElem?_range hi] at e; cases e; exact ⟨G2,Grow.refl h2,rfl⟩
   . rw [List.getElem?_eq_none (by simpa using hi)] at e; cases e
 stop:=fun i H hi hG=>by
   show n<=i
   simpa using hi
noncomputable def Eo (ds:List PyData):List PyData:=ds.mapIdx fun i d=>.tuple [.int i,d]
theorem Zh {K:PySem.W.Frag} {G:Hp} {a:Addr} {xs:List V} {ds:List PyData} (h:Rd G a (.lst xs)) (l:RepL G ds xs):Walk (Ite K a) G (Eo ds) where
 go:=fun i H hi hG=>by
   have hi':i < xs.length:=by rw [<- l.length]; simpa [Eo] using hi
   exact ⟨xs,xs[i],.inl (Rd.mono hG h),by simp [hi']⟩
 yld:=fun i d G2 H x H' e h1 h2 hy=>by
   obtain ⟨p,y,hp,rfl,rfl,hy⟩:=hy; unfold Eo at e; rw [List.getElem?_mapIdx] at e; obtain ⟨d0,e0,rfl⟩:=Option.map_eq_some_iff.mp e; obtain ⟨y',e1,r⟩:=l.get e0; have:=hy xs (.inl (Rd.mono (h1.trans h2) h)); rw [e1] at this; cases this; refine ⟨upd G2 p (.tup [.int i,y]),Grow.new h2 hp,p,_,rfl,B7,RepL.cons rfl (RepL.cons (r.mono (h1.trans (Same.upd (h2.free hp)))) rfl)⟩
 stop:=fun i H hi hG=>⟨xs,.inl (Rd.mono hG h),by rw [<- l.length]; simpa [Eo] using hi⟩
noncomputable section
variable {P:Program} {w:World} {K:PySem.W.Frag} {mg:Str->Option Value} {base:Heap} {X:Cx} {N:List Str} {sc:Scope} {k:Nat} {df:Bool} {E:EK} {pos p:Pos} {tg a b c e:Expr} {f g:Dn->Res PyData} {fs src:Dn->Res (List PyData)}
theorem Q3 (ha:DE X E a f):DI X E tg a (fun δ=>(f δ).bind E9):=by
 rintro pins s σ H R I ⟨G,δ,S,aft⟩
 have h:=Ki (R:=fun v H1=>∃ G1 d,Same G1 H1/\Rep G1 d v/\AftI E G1 H1 (E9 d) R) (W:=fun G H r=>AftI E G H r R) S aft (fun g a=>AftI.grow g a) (fun c a=>a) (fun a=>a) fun d v G1 H1 g1 r1 S1 a1=>⟨G1,d,S1.sub,r1,a1⟩
 refine thn (ha pins s σ H _ I h) fun v s1 hZ2=>?_
 obtain ⟨x,H1,I1,rx,G1,d,hG,rd,a1⟩:=hZ2
 cases d with
 | list ds =>
   obtain ⟨p,xs,rfl,h1,l1⟩:=rd; cases rx; obtain ⟨zz,its,n,rv,e1⟩:=R0 I1 hG h1; refine wpAny_pyIter_list ⟨_,e1,rfl,n,rfl⟩ ?_; refine ⟨s1.heap.objs.size,[s1.heap.objs.size],_,_,H1,rfl,I1.kept (t':=s1.toks) fun b o e=>Heap.get?_push_of_some _ e,Zm p _,⟨_,Heap.get?_push_size _ rfl,rfl,rfl⟩,fun b hb=>?_,a1 _ G1 H1 (Grow.refl hG) (Zg h1 l1)⟩
   have e:b=s1.heap.objs.size:=by simpa using hb
   subst e; exact I1.fpOk (Nat.le_refl _) I1.fresh
 | tuple ds =>
   obtain ⟨p,xs,rfl,h1,l1⟩:=rd; cases rx; obtain ⟨zz,its,rv,pt⟩:=Fc I1 hG h1; refine wpAny_pyIter_tuple (show s1.heap.IsTuple p its.toArray from pt) ?_
   refine ⟨s1.heap.objs.size,[s1.heap.objs.size],_,_,H1,rfl,I1.kept (t':=s1.toks) fun b o e=>Heap.get?_push_of_some _ e,Vp p _,⟨_,Heap.get?_push_size _ rfl,rfl,rfl⟩,fun b hb=>?_,a1 _ G1 H1 (Grow.refl hG) (cD h1 l1)⟩
   have e:b=s1.heap.objs.size:=by simpa using hb
   subst e; exact I1.fpOk (Nat.le_refl _) I1.fresh
 | str z =>
   obtain ⟨e0,o1,l1⟩:=rd; subst e0; obtain ⟨t,rfl⟩:=rx
   cases ha:z.cps.all (· < 128)
   . refine wpAny_pyIter_wide ha ?_
     refine ⟨s1.heap.objs.size,[s1.heap.objs.size],_,_,H1,rfl,I1.kept (t':=s1.toks) fun b o e=>Heap.get?_push_of_some _ e,Zl _ z t,⟨_,Heap.get?_push_size _ rfl,rfl,rfl⟩,fun b hb=>?_,a1 _ G1 H1 (Grow.refl hG) (Sj o1)⟩
     have e:b=s1.heap.objs.size:=by simpa using hb
     subst e; exact I1.fpOk (Nat.le_refl _) I1.fresh
   . refine wpAny_pyIter_ascii ha ?_
     refine ⟨s1.heap.objs.size,[s1.heap.objs.size],_,_,H1,rfl,I1.kept (t':=s1.toks) fun b o e=>Heap.get?_push_of_some _ e,Vr _ z t,⟨_,Heap.get?_push_size _ rfl,rfl,rfl⟩,fun b hb=>?_,a1 _ G1 H1 (Grow.refl hG) (Sj o1)⟩
     have e:b=s1.heap.objs.size:=by simpa using hb
     subst e; exact I1.fpOk (Nat.le_refl _) I1.fresh
 | _=>exact (show False from a1).elim
noncomputable def X1 (lo hi:Int):List PyData:=(List.range (hi - lo).toNat).map fun (i:Nat)=>PyData.int (lo+i)
noncomputable def Eg:List PyData->Res (List PyData)
 | [.int j]=>if -(2 ^ 62)<=j/\j < 2 ^ 62 then .ok (X1 0 j) else .no
 | _=>.no
theorem Dl {n:Nat} (C:Cxt P w K mg base X N sc k df) (h:okGl sc "range" = true) (hm:mg "range" = none) (ha:DA X E [a] n fs) (hs:starEach [a] X.env=[(false,eval a X.env)]:=by rfl) :
   DI X E tg (.Call (.Name "range" p) [a] [] pos) (fun δ=>(fs δ).bind Eg):=by
 refine PI.imp (aH (okGl.gl C h).1 (by rw [C.hmg]; exact hm) ha.pa hs) fun σ H Q hY56=>?_
 obtain ⟨G,δ,S,aft⟩:=hY56
 refine O4 (W:=fun G H r=>AftI E G H r Q) S aft (fun g a=>AftI.grow g a) (fun c a=>a) (fun a=>a) fun ds vs G1 H1 e g1 r1 S1 a1=>?_
 unfold Eg at a1
 split at a1
 . rename_i j
   split at a1
   . rename_i hc
     obtain ⟨v,rfl,e1⟩:=Jl r1
     cases (show _=_ from e1)
     refine ⟨j,rfl,hc.1,hc.2,a1 _ G1 H1 (Grow.refl S1.sub) ?_⟩; have:=Vl (G:=G1) 0 j.toNat; unfold X1; rw [Int.sub_zero]; exact this
   . exact a1.elim
 . exact a1.elim
noncomputable def Mp:List PyData->Res (List PyData)
 | [.list ds]=>.ok (Eo ds)
 | _=>.no
theorem pP {n x1:Nat} {elts:List Expr} {tp:Pos} (C:Cxt P w K mg base X N sc k df) (h:okGl sc "enumerate" = true) (hm:mg "enumerate" = none) (ha:DA X E [a] n fs) (he:starEach [a] X.env=(false,eval a X.env)::starEach [] X.env:=by rfl) (hpl:(backTo pos (starEach [] X.env)).any (·.1)=false:=by rfl) :
   DI X E (.Tuple elts x1 tp) (.Call (.Name "enumerate" p) [a] [] pos) (fun δ=>(fs δ).bind Mp):=by
 rintro pins s σ H R I ⟨G,δ,S,aft⟩
 obtain ⟨h1,h2,h3⟩:=okGl.gl C h
 have hh:=O4 (R:=fun vs H1=>∃ G1 ds,Same G1 H1/\RepL G1 ds vs/\AftI E G1 H1 (Mp ds) R) (W:=fun G H r=>AftI E G H r R) S aft (fun g a=>AftI.grow g a) (fun c a=>a) (fun a=>a) fun ds vs G1 H1 e g1 r1 S1 a1=>⟨G1,ds,S1.sub,r1,a1⟩
 refine wpAny_Call_Name_kw (Cb I h1 (by rw [C.hmg]; exact hm) boot_enumerate ?_ h3 h2)
 refine PyProof.Rows.callWith_type1 (thn (ha.pa pos pins s σ H _ I hh) fun us s1 hY58=>?_) he hpl
 obtain ⟨vs,H1,I1,rv,G1,ds,hG,rl,a1⟩:=hY58
 unfold Mp at a1
 split at a1
 . rename_i ys
   obtain ⟨v,rfl,l,xs,rfl,q1,l1⟩:=Jl rl; obtain ⟨u,rfl,ru⟩:=Oq rv; cases ru; obtain ⟨zz,its,nn,rw',e1⟩:=R0 I1 hG q1; refine call_enumerate_list ⟨_,e1,rfl,nn,rfl⟩ fun h' he' hit hsz kp=>?_
   have I2:Inv X pins σ H1 { s1 with heap:=h' }:=I1.kept (t':=s1.toks) kp; refine wpAny_pyIter_enum he' ?_; refine ⟨s1.heap.objs.size+1,[s1.heap.objs.size+1,s1.heap.objs.size],_,_,H1,rfl,I2,Zn l _ _ (Nat.ne_of_gt (Nat.lt_succ_self _)),⟨⟨_,he'⟩,hit⟩,fun b hb=>?_,a1 _ G1 H1 (Grow.refl hG) (Zh q1 l1)⟩
   rcases List.mem_cons.mp hb with rfl | hb
   . exact I1.fpOk (Nat.le_succ _) (I1.hok.fresh (Nat.le_succ _))
   . have e:b=s1.heap.objs.size:=by simpa using hb
     subst e; exact I1.fpOk (Nat.le_refl _) I1.fresh
 . exact a1.elim
noncomputable def E7 (d:PyData):Res (List Sl):=.ok [.sh d]
noncomputable def Iv:PyData->Res (List Sl)
 | .tuple [a,b]=>.ok [.sh a,.sh b]
 | _=>.no
noncomputable def D5 (bnd:PyData->Res (List Sl)) (δc:Dn) (tt:Dn->Res Bool) (el:Dn->Res PyData):List PyData->Res (List PyData)
 | []=>.ok []
 | d::ds=>match bnd d with
   | .ok sl=>match tt (sl++δc) with
     | .ok true=>match el (sl++δc) with
       | .ok y=>match D5 bnd δc tt el ds with
         | .ok r=>.ok (y::r)
         | _=>.no
       | _=>.no
     | .ok false=>D5 bnd δc tt el ds
     | _=>.no
   | _=>.no
noncomputable def Bb (δ:Dn) (cap:List Nat):Dn:=cap.map fun j=>δ[j]?.getD .un
noncomputable def K3 (src:Dn->Res (List PyData)) (bnd:PyData->Res (List Sl)) (cap:List Nat) (tt:Dn->Res Bool) (el:Dn->Res PyData):Dn->Res (List PyData):=fun δ=>(src δ).bind fun ds=>if ds.length<=sizeLine then D5 bnd (Bb δ cap) tt el ds else .no
def GOk (g:TG) (m:Nat) (bnd:PyData->Res (List Sl)):Prop:=∀ (G H:Hp) (d:PyData) (x:V) (sl:List Sl) (τ:St) (Q:St->Hp->Prop),Same G H->Rep G d x->bnd d=.ok sl->(∀ vs:List V,vs.length=m->sl.length=m->(∀ (i:Nat) s,sl[i]? = some s->SlOk G H (vs[i]?) s/\∃ d,s=.sh d)->Q (vs.map some++τ) H)->g x (List.replicate m none++τ) H Q
theorem gok1:GOk (Z9 0) 1 E7:=by
 intro G H d x sl τ Q hG r e h
 cases e
 exact h [x] rfl rfl fun i s hs=>by
   cases i with
   | zero=>cases hs; exact ⟨⟨x,rfl,r⟩,d,rfl⟩
   | succ i=>simp at hs
theorem gok2:GOk (kO K 2 (Mn (Z9 0) (Mn (Z9 1) kP))) 2 Iv:=by
 intro G H d x sl τ Q hG r e h
 cases d with
 | tuple ds =>
   match ds,e with
   | [a,b],e =>
     cases e; obtain ⟨p,xs,rfl,h1,l1⟩:=r; obtain ⟨v,v',rfl,r1,r2⟩:=dW l1; refine ⟨p,_,rfl,.inl (.inl (hG _ _ h1)),rfl,v,[v'],rfl,v',[],rfl,rfl,?_⟩; exact h [v,v'] rfl rfl fun i s hs=>by
       match i with
       | 0=>cases hs; exact ⟨⟨v,rfl,r1⟩,a,rfl⟩
       | 1=>cases hs; exact ⟨⟨v',rfl,r2⟩,b,rfl⟩
       | i+2=>simp at hs
 | _=>cases e
theorem SR.cap {G H:Hp} {σ:St} {δ:Dn} (S:SR G H σ δ) (cap:List Nat) (hnd:cap.Nodup) {vs:List V} {sl:List Sl} (hv:vs.length=sl.length) (h:∀ (i:Nat) s,sl[i]? = some s->SlOk G H (vs[i]?) s/\∃ d,s=.sh d):SR G H (vs.map some++Cz σ cap) (sl++Bb δ cap):=by
 have hlt:∀ i,i < sl.length->(vs.map some++Cz σ cap)[i]? = (vs[i]?).map some:=fun i hi=>by
   rw [List.getElem?_append_left (by rw [List.length_map,hv]; exact hi),List.getElem?_map]
 have hge:∀ i,¬ i < sl.length->(vs.map some++Cz σ cap)[i]? = (cap[i - sl.length]?).map fun j=>σ[j]?.join:=fun i hi=>by
   rw [List.getElem?_append_right (by rw [List.length_map,hv]; lia)]
   unfold Cz; rw [List.getElem?_map,List.length_map,hv]
 have hd:∀ i,¬ i < sl.length->(sl++Bb δ cap)[i]? = (cap[i - sl.length]?).map fun j=>δ[j]?.getD .un:=fun i hi=>by
   rw [List.getElem?_append_right (by lia)]; unfold Bb; rw [List.getElem?_map]
 refine ⟨S.sub,by simp [hv,Cz,Bb],fun i s e=>?_,fun i j a d d' ei ej hi hj=>?_⟩
 . by_cases hi:i < sl.length
   . rw [List.getElem?_append_left hi] at e
     rw [hlt i hi]; have:=(h i s e).1
     cases q:vs[i]? with
     | none=>rw [q] at this; exact this
     | some v=>rw [q] at this; exact this
   . rw [hd i hi] at e
     rw [hge i hi]
     cases q:cap[i - sl.length]? with
     | none=>rw [q] at e; cases e
     | some j =>
       rw [q] at e; simp only [Option.map_some,Option.some.injEq] at e; subst e; show SlOk G H (some (σ[j]?.join)).join _
       cases q2:δ[j]? with
       | none=>trivial
       | some s=>exact S.sl j s q2
 . have key : ∀ i d, (sl ++ Bb δ cap)[i]? = some (.ow d) -> ¬ i < sl.length /\ ∃ j, cap[i - sl.length]? = some j /\ δ[j]? = some (.ow d) := fun i d e => by
     have hi:¬ i < sl.length:=fun hi=>by
       rw [List.getElem?_append_left hi] at e; obtain ⟨_,d',z⟩:=h i _ e; cases z
     refine ⟨hi,?_⟩; rw [hd i hi] at e
     cases q:cap[i - sl.length]? with
     | none=>rw [q] at e; cases e
     | some j =>
       rw [q] at e; simp only [Option.map_some,Option.some.injEq] at e; refine ⟨j,rfl,?_⟩
       cases q2:δ[j]? with
       | none=>rw [q2] at e; cases e
       | some s=>rw [q2] at e; cases e; rfl
   obtain ⟨n1,j1,c1,o1⟩:=key i d ei; obtain ⟨n2,j2,c2,o2⟩:=key j d' ej; rw [hge i n1,c1] at hi; rw [hge j n2,c2] at hj; have hi':σ[j1]?.join=some (.ref a):=hi; have hj':σ[j2]?.join=some (.ref a):=hj; have:=S.ap j1 j2 a d d' o1 o2 hi' hj'; subst this; have:=(List.getElem?_inj (List.getElem?_eq_some_iff.mp c1).1 hnd).mp (c1.trans c2.symm)
   lia
theorem fQ (xs:List Str):xs.map (fun _=>(none:Option V))=List.replicate xs.length none:=by
 induction xs with
 | nil=>rfl
 | cons a t ih=>rw [List.map_cons,ih]; rfl
theorem Qq {xs:List Str} {cap:List Nat} {g:TG} {m:Nat} {bnd:PyData->Res (List Sl)} {tt:Dn->Res Bool} {el:Dn->Res PyData} (hx:xs.length=m) (hnd:cap.Nodup) (hg:GOk g m bnd) {σ:St} {H:Hp} {Q:VK} (h:tF E (K3 src bnd cap tt el) σ H Q) :
   Xk (tI E src) (fun σ=>xs.map (fun _=>none)++Cz σ cap) g (tT E0k tt) (tD E0k el) σ H Q:=by
 obtain ⟨G,δ,S,aft⟩:=h
 refine ⟨G,δ,S,?_⟩
 unfold K3 at aft
 cases e:src δ with
 | exc c=>rw [e] at aft; exact aft
 | no=>rw [e] at aft; exact aft
 | ok ds =>
   rw [e] at aft; intro J G1 H1 g1 W D hD; have aft1:iG E G H (if ds.length<=sizeLine then D5 bnd (Bb δ cap) tt el ds else .no) Q:=aft
   by_cases hz:ds.length<=sizeLine
   . rw [if_pos hz] at aft1
     have S1:=S.grow g1; have hmap:xs.map (fun _=>(none:Option V))=List.replicate m none:=by rw [<- hx]; exact fQ xs
     refine ⟨fun i n H'=>n=ds.length - i/\i<=ds.length/\∃ G' acc yd,Grow G1 H1 G' H'/\G' D=none/\H' D=some (.lst acc)/\RepL G' yd acc/\yd.length<=i /\
       iG E G H (match D5 bnd (Bb δ cap) tt el (ds.drop i) with | .ok r=>.ok (yd++r) | _=>.no) Q,⟨_,rfl,Nat.zero_le _,G1,[],[],Grow.own g1.gh hD,g1.gh.free hD,B7,rfl,Nat.le_refl _,?_⟩,?_⟩
     . rw [List.drop_zero]
       cases q:D5 bnd (Bb δ cap) tt el ds with
       | ok r=>rw [q] at aft1; exact aft1
       | exc c =>
         exfalso
         have:∀ l c,D5 bnd (Bb δ cap) tt el l≠.exc c:=by
           intro l c
           induction l with
           | nil=>intro z; cases z
           | cons d l ih =>
             unfold D5; intro z
             split at z
             . split at z
               . split at z
                 . split at z <;> cases z
                 . cases z
               . exact ih z
               . cases z
             . cases z
         exact this ds c q
       | no=>rw [q] at aft1; exact aft1
     . rintro i n H' ⟨rfl,hi,G',acc,yd,g2,nD,hDa,ry,hyl,aft2⟩
       by_cases hlt:i < ds.length
       . refine .inr ⟨W.go i H' hlt (g2.g.trans g2.gh), fun H'' => ∃ n', n' < ds.length - i /\ (n' = ds.length - (i + 1) /\ i + 1 <= ds.length /\ ∃ G' acc yd, Grow G1 H1 G' H'' /\ G' D = none /\ H'' D = some (.lst acc) /\ RepL G' yd acc /\ yd.length <= i + 1 /\
           iG E G H (match D5 bnd (Bb δ cap) tt el (ds.drop (i+1)) with | .ok r=>.ok (yd++r) | _=>.no) Q),fun H'' q=>?_,fun x H'' hy=>?_⟩
         . obtain ⟨n',h1,h2⟩:=q
           exact ⟨n',h1,h2⟩
         . have hd:ds[i]? = some ds[i]:=List.getElem?_eq_getElem hlt
           have hdrop:ds.drop i=ds[i]::ds.drop (i+1):=List.drop_eq_getElem_cons hlt; obtain ⟨G3,g3,r3⟩:=W.yld i _ G' H' x H'' hd g2.g g2.gh hy; have g13:=g2.trans g3; have nD3:G3 D=none:=by
             cases q:G3 D with
             | none=>rfl
             | some u => rcases g3.fr D u q with z | z | ⟨xs, rfl⟩
                         . rw [nD] at z; cases z
                         . rw [hDa] at z; cases z
                         . have:=g3.gh _ _ q; rw [g3.h _ _ hDa] at this; cases this
           rw [hdrop] at aft2; unfold D5 at aft2; rw [hmap]
           cases eb:bnd ds[i] with
           | exc c=>rw [eb] at aft2; exact aft2.elim
           | no=>rw [eb] at aft2; exact aft2.elim
           | ok sl =>
             rw [eb] at aft2; refine hg G3 H'' _ x sl _ _ g3.gh r3 eb fun vs hv hs hsl=>⟨⟨by rw [List.length_append,List.length_append,List.length_replicate,List.length_map,hv],fun j v z=>?_⟩,?_⟩
             . by_cases hj:j < m
               . rw [List.getElem?_append_left (by rw [List.length_replicate]; exact hj),List.getElem?_replicate] at z
                 split at z <;> cases z
               . rw [List.getElem?_append_right (by rw [List.length_replicate]; exact Nat.not_lt.mp hj),List.length_replicate] at z
                 rw [List.getElem?_append_right (by rw [List.length_map,hv]; exact Nat.not_lt.mp hj),List.length_map,hv]
                 exact z
             . have Sb:SR G3 H'' (vs.map some++Cz σ cap) (sl++Bb δ cap):=(S1.grow g13).cap cap hnd (hv.trans hs.symm) hsl
               refine ⟨G3,_,Sb,?_⟩; simp only at aft2
               cases et:tt (sl++Bb δ cap) with
               | exc c=>rw [et] at aft2; exact aft2.elim
               | no=>rw [et] at aft2; exact aft2.elim
               | ok kk =>
                 rw [et] at aft2; intro G4 H4 g4; have nD4:G4 D=none:=by
                   cases q:G4 D with
                   | none=>rfl
                   | some u => rcases g4.fr D u q with z | z | ⟨xs, rfl⟩
                               . rw [nD3] at z; cases z
                               . rw [g3.h _ _ hDa] at z; cases z
                               . have:=g4.gh _ _ q; rw [g4.h _ _ (g3.h _ _ hDa)] at this; cases this
                 have hD4:H4 D=some (.lst acc):=g4.h _ _ (g3.h _ _ hDa)
                 cases kk with
                 | false =>
                   rw [if_neg (by decide)]; exact ⟨_,by lia,rfl,hlt,G4,acc,yd,g13.trans g4,nD4,hD4,ry.mono (g3.g.trans g4.g),by lia,aft2⟩
                 | true =>
                   rw [if_pos rfl]; refine ⟨G4,_,Sb.grow g4,?_⟩; simp only at aft2
                   cases ee:el (sl++Bb δ cap) with
                   | exc c=>rw [ee] at aft2; exact aft2.elim
                   | no=>rw [ee] at aft2; exact aft2.elim
                   | ok y =>
                     rw [ee] at aft2; intro v G5 H5 g5 r5; have nD5:G5 D=none:=by
                       cases q:G5 D with
                       | none=>rfl
                       | some u => rcases g5.fr D u q with z | z | ⟨xs, rfl⟩
                                   . rw [nD4] at z; cases z
                                   . rw [hD4] at z; cases z
                                   . have:=g5.gh _ _ q; rw [g5.h _ _ hD4] at this; cases this
                     have hD5:H5 D=some (.lst acc):=g5.h _ _ hD4; have hal:acc.length<=i:=by rw [<- ry.length]; exact hyl
                     refine ⟨acc,hD5,by lia,_,by lia,rfl,hlt,G5,acc++[v],yd++[y],?_,nD5,B7,?_,by rw [List.length_append,List.length_singleton]; lia,?_⟩
                     . have g15:=(g13.trans g4).trans g5
                       refine ⟨g15.g,fun b o q=>?_,fun b o q=>?_,g15.fr⟩
                       . rw [B3 (D6 q hD)]; exact g15.h _ _ q
                       . rw [B3 (D6 q nD5)]; exact g15.gh _ _ q
                     . exact (ry.mono (g3.g.trans (g4.g.trans g5.g))).append (RepL.cons r5 rfl)
                     . simp only at aft2
                       cases er:D5 bnd (Bb δ cap) tt el (ds.drop (i+1)) with
                       | ok r =>
                         rw [er] at aft2; simp only [List.append_assoc,List.singleton_append]; exact aft2
                       | exc c=>rw [er] at aft2; exact aft2
                       | no=>rw [er] at aft2; exact aft2
       . refine .inl ⟨W.stop i H' (Nat.not_lt.mp hlt) (g2.g.trans g2.gh),?_⟩
         have:ds.drop i=[]:=List.drop_eq_nil_of_le (Nat.not_lt.mp hlt); rw [this] at aft2; unfold D5 at aft2; have aft3:iG E G H (.ok (yd++[])) Q:=aft2; rw [List.append_nil] at aft3; exact aft3 D acc G' H' (g1.trans g2) (g1.h.free hD) nD hDa ry
   . rw [if_neg hz] at aft1; exact aft1.elim
end
end Sm
end
noncomputable section
namespace Sm
open PySem PySem.Spec PyProof.Rows L2
noncomputable def Cf (cells:List (Str×Addr)):List (Str×NameKind)->List (Str×Addr)->List (Str×Addr)
 | [],cs=>cs
 | (n,kd)::r,cs=>if kd==.free then Cf cells r ((n,(cells.lookup n).getD 0)::cs) else Cf cells r cs
theorem Uu {env:Env}:∀ (names:List (Str×NameKind)) (cs:List (Str×Addr)),(∀ y∈names,y.2=.free->∃ c,env.cells.lookup y.1=some c) ->
   (forIn names cs fun (x:Str×NameKind) (r:List (Str×Addr))=>if (x.2==NameKind.free)=true then do let c <- cellOf env x.1; pure (ForInStep.yield ((x.1,c)::r)) else pure (ForInStep.yield r))=(pure (Cf env.cells names cs):Sem (List (Str×Addr)))
 | [],cs,_=>rfl
 | (n,kd)::r,cs,h=>by
   rw [List.forIn_cons]; have ih:=fun cs=>Uu r cs fun y hy=>h y (List.mem_cons_of_mem _ hy)
   unfold Cf
   by_cases hk:(kd==NameKind.free)=true
   . obtain ⟨c,hc⟩:=h (n,kd) List.mem_cons_self (eq_of_beq hk)
     have hc':cellOf env n=pure c:=by unfold cellOf; rw [show env.cells.lookup n=some c from hc]
     simp only [hk,if_true,hc',pure_bind]; rw [show env.cells.lookup n=some c from hc]; exact ih _
   . simp only [hk,if_false,pure_bind]
     exact ih _
theorem Fq {cells:List (Str×Addr)}:∀ {names:List (Str×NameKind)} {cs:List (Str×Addr)} {y:Str×Addr},y∈Cf cells names cs->y∈cs\/((y.1,NameKind.free)∈names/\y.2=(cells.lookup y.1).getD 0)
 | [],cs,y,h=>.inl h
 | (n,kd)::r,cs,y,h=>by
   unfold Cf at h
   by_cases hk:(kd==NameKind.free)=true
   . rw [if_pos hk] at h
     have hk':=eq_of_beq hk; subst hk'; rcases Fq h with z | ⟨z1,z2⟩
     . rcases List.mem_cons.mp z with rfl | z
       . exact .inr ⟨List.mem_cons_self,rfl⟩
       . exact .inl z
     . exact .inr ⟨List.mem_cons_of_mem _ z1,z2⟩
   . rw [if_neg hk] at h
     rcases Fq h with z | ⟨z1,z2⟩
     . exact .inl z
     . exact .inr ⟨List.mem_cons_of_mem _ z1,z2⟩
theorem Fs {cells:List (Str×Addr)} {x:Str}:∀ {names:List (Str×NameKind)} {cs:List (Str×Addr)},((x,NameKind.free)∈names\/∃ c,(x,c)∈cs)->∃ c,(x,c)∈Cf cells names cs
 | [],cs,h=>by
   rcases h with h | h
   . cases h
   . exact h
 | (n,kd)::r,cs,h=>by
   unfold Cf
   by_cases hk:(kd==NameKind.free)=true
   . rw [if_pos hk]
     refine Fs ?_; rcases h with h | ⟨c,h⟩
     . rcases List.mem_cons.mp h with q | q
       . cases q; exact .inr ⟨_,List.mem_cons_self⟩
       . exact .inl q
     . exact .inr ⟨c,List.mem_cons_of_mem _ h⟩
   . rw [if_neg hk]
     refine Fs ?_; rcases h with h | ⟨c,h⟩
     . rcases List.mem_cons.mp h with q | q
       . cases q; exact absurd rfl hk
       . exact .inl q
     . exact .inr ⟨c,h⟩
theorem Cv {α:Type} {x:Str} {c:α} {l:List (Str×α)} (h:l.lookup x=some c):(x,c)∈l:=PySem.mem_of_lookup h
theorem En {α:Type} {x:Str}:∀ {l:List (Str×α)} {c:α},(x,c)∈l->∃ c',l.lookup x=some c'
 | [],_,h=>by cases h
 | (n,d)::r,c,h=>by
   rw [List.lookup_cons]
   cases q:x==n with
   | true=>exact ⟨d,rfl⟩
   | false =>
     rcases List.mem_cons.mp h with z | z
     . cases z; simp at q
     . exact En z
theorem lQ {X:Cx} (ok:X.Ok) {scope:Scope} (hnc:∀ y∈scope.names,y.2≠.cell) (hfree:∀ y∈scope.names,y.2=.free->X.env.scope.names.lookup y.1=some .cell\/X.env.scope.names.lookup y.1=some .free):∃ cl,Clos X scope cl:=by
 have hc:∀ y∈scope.names,y.2=.free->∃ c,X.env.cells.lookup y.1=some c:=fun y hy hf=>ok.has y.1 (hfree y hy hf)
 refine ⟨Cf X.env.cells scope.names [],⟨?_,fun x c h=>?_,fun x h=>?_⟩⟩
 . have:=Uu (env:=X.env) scope.names [] hc
   unfold closureFor; simp only
   rw [this]; rfl
 . rcases Fq (Cv h) with z | ⟨z1,z2⟩
   . cases z
   . obtain ⟨c',e⟩:=hc _ z1 rfl
     have e':X.env.cells.lookup x=some c':=e; have z2':c=(X.env.cells.lookup x).getD 0:=z2; rw [e'] at z2' ⊢
     rw [z2']; rfl
 . have hm : (x, NameKind.free) ∈ scope.names := by
     have key:∀ kd,(relabel scope X.env).names.lookup x=some kd->(kd=.cell\/kd=.free)->(x,NameKind.free)∈scope.names:=fun kd hl hkd=>by
       have hm:=Cv hl; unfold relabel at hm; simp only [List.mem_map] at hm; obtain ⟨⟨n,k0⟩,hy,e⟩:=hm; simp only at e
       split at e
       . rename_i hc'
         cases e; have:k0=.free:=by
           rw [Bool.and_eq_true,Bool.and_eq_true] at hc'; exact eq_of_beq hc'.1.1
         subst this; exact hy
       . cases e
         rcases hkd with rfl | rfl
         . exact absurd rfl (hnc _ hy)
         . exact hy
     rcases h with h | h
     . exact key _ h (.inl rfl)
     . exact key _ h (.inr rfl)
   obtain ⟨c,hc'⟩:=Fs (cells:=X.env.cells) (names:=scope.names) (cs:=[]) (x:=x) (.inl hm); exact En hc'
noncomputable def okComp (N:List Str) (sc scope:Scope) (xs capN:List Str) (cap:List Nat):Bool :=
 decide (scope.kind=.function)&&scope.names.all (fun y=>decide (y.2≠.cell))&&scope.names.all (fun y=>decide (y.2=.local->scope.names.lookup y.1=some .local)) &&
 scope.names.all (fun y=>decide (y.2=.free->sc.names.lookup y.1=some .cell\/sc.names.lookup y.1=some .free))&&decide (cap.map (fun j=>N[j]?)=capN.map some) &&
 capN.all (fun x=>decide ((Gi scope sc).names.lookup x=some .cell\/(Gi scope sc).names.lookup x=some .free))&&capN.all (fun x=>decide (sc.names.lookup x=some .cell\/sc.names.lookup x=some .free)) &&
 decide ((xs++capN).Nodup)&&xs.all (fun x=>decide ((Gi scope sc).names.lookup x=some .local))&&decide (cap.Nodup)
noncomputable section
variable {P:Program} {w:World} {K:PySem.W.Frag} {mg:Str->Option Value} {base:Heap} {X:Cx} {N:List Str} {sc:Scope} {k:Nat} {df:Bool} {E:EK} {pos px:Pos} {a c elt iter:Expr} {ifs:List Expr} {f g el:Dn->Res PyData} {src:Dn->Res (List PyData)} {tt:Dn->Res Bool} {scope:Scope} {capN:List Str} {cap:List Nat}
structure CompOk (N:List Str) (sc scope:Scope) (xs capN:List Str) (cap:List Nat):Prop where
 h1:scope.kind=.function
 h2:∀ y∈scope.names,y.2≠.cell
 h3:∀ y∈scope.names,y.2=.local->scope.names.lookup y.1=some .local
 h4:∀ y∈scope.names,y.2=.free->sc.names.lookup y.1=some .cell\/sc.names.lookup y.1=some .free
 h5:cap.map (fun j=>N[j]?)=capN.map some
 h6:∀ x∈capN,(Gi scope sc).names.lookup x=some .cell\/(Gi scope sc).names.lookup x=some .free
 h7:∀ x∈capN,sc.names.lookup x=some .cell\/sc.names.lookup x=some .free
 h8:(xs++capN).Nodup
 h9:∀ x∈xs,(Gi scope sc).names.lookup x=some .local
 h10:cap.Nodup
theorem okComp.ok {xs:List Str} (h:okComp N sc scope xs capN cap=true):CompOk N sc scope xs capN cap:=by
 unfold okComp at h
 simp only [Bool.and_eq_true,List.all_eq_true,decide_eq_true_eq] at h
 obtain ⟨⟨⟨⟨⟨⟨⟨⟨⟨h1,h2⟩,h3⟩,h4⟩,h5⟩,h6⟩,h7⟩,h8⟩,h9⟩,h10⟩:=h
 exact ⟨h1,h2,h3,h4,h5,h6,h7,h8,h9,h10⟩
theorem Fo {xs:List Str} (C:Cxt P w K mg base X N sc k df) (h:CompOk N sc scope xs capN cap) (ok:X.Ok):CompFacts X scope xs capN cap:=by
 refine ⟨h.h1,h.h2,h.h3,lQ ok h.h2 fun y hy hf=>?_,by rw [C.hN]; exact h.h5,fun x hx=>?_,fun x hx=>?_⟩
 . rw [C.hs]; exact h.h4 y hy hf
 . rw [Xr C.hs]; exact h.h6 x hx
 . rw [C.hs]; exact h.h7 x hx
abbrev DTs (X:Cx) (E:EK) (ifs:List Expr) (f:Dn->Res Bool):Prop:=PTs X ifs (tT E f)
noncomputable def O3:Dn->Res Bool:=fun _=>.ok true
theorem Db:DTs X E [] O3:=fun pins s σ H Q I hZ6=>by obtain ⟨G,δ,S,a⟩:=hZ6; exact jK pins s σ H Q I (a G H (Grow.refl S.sub))
theorem Ha (h:DT X E c tt):DTs X E [c] tt:=jJ h
theorem S9 {x:Str} (C:Cxt P w K mg base X N sc k df) (cap:List Nat) (capN:List Str) (ho:okComp N sc scope [x] capN cap=true) (hi:DI X E (.Name x px) iter src)
   (ht:∀ X',Cxt P w K mg base X' ([x]++capN) (Gi scope sc) k false->DTs X' E0k ifs tt) (he:∀ X',Cxt P w K mg base X' ([x]++capN) (Gi scope sc) k false->DE X' E0k elt el)
   (hs:∀ x,foldedSetIterable iter X.env x=pure x:=by intro _; rfl):DF X E (.ListComp elt [⟨.Name x px,iter,ifs,0⟩] scope pos) (K3 src E7 cap tt el):=by
 have o:=okComp.ok ho
 refine PE.imp (jP (g:=Z9 0) C.calm (Fo C o) hi (fun X' B=>?_) (fun X' B=>ht X' (C.blk B)) (fun X' B=>he X' (C.blk B)) hs) fun σ H Q h=>Qq (m:=1) rfl o.h10 gok1 h
 have C':=C.blk B
 have hl:X'.env.scope.names.lookup x=some .local:=by rw [C'.hs]; exact o.h9 x (by simp)
 exact Af (by rw [C'.hN]; exact o.h8) (by rw [C'.hN]; rfl) (.inl hl) (.inr hl)
end
end Sm
end
noncomputable section
namespace Sm
open PySem PySem.Spec PyProof.Rows L2
inductive Out where
 | nx (δ:Dn)
 | rt (d:PyData)
 | bk (δ:Dn)
 | ct (δ:Dn)
 | exc (c:Str)
 | no
structure SSt (G0 H0 G H:Hp) (σ:St) (δ:Dn):Prop where
 gr:Grow G0 H0 G H
 sr:SR G H σ δ
 fr:∀ (i:Nat) (d:PyData) (a:Addr),δ[i]? = some (.ow d)->σ[i]?.join=some (.ref a)->H0 a=none
theorem SSt.grow {G0 H0 G H G' H':Hp} {σ:St} {δ:Dn} (S:SSt G0 H0 G H σ δ) (g:Grow G H G' H'):SSt G0 H0 G' H' σ δ:=⟨S.gr.trans g,S.sr.grow g,S.fr⟩
def Ih (E:EK) (G0 H0:Hp) (o:Out) (D:Ends):Prop:=match o with
 | .nx δ=>∀ σ G H,SSt G0 H0 G H σ δ->D.nx σ H
 | .rt d=>∀ v G H,Grow G0 H0 G H->Rep G d v->D.rt v H
 | .bk δ=>∀ σ G H,SSt G0 H0 G H σ δ->D.bk σ H
 | .ct δ=>∀ σ G H,SSt G0 H0 G H σ δ->D.ct σ H
 | .exc c=>∀ G H,Grow G0 H0 G H->E c H
 | .no=>False
def tS (E:EK) (G0 H0:Hp) (g:Dn->Out):TS:=fun D σ H=>∃ G δ,SSt G0 H0 G H σ δ/\Ih E G0 H0 (g δ) D
def DS (X:Cx) (E:EK) (st:Stmt) (g:Dn->Out):Prop:=∀ G0 H0,PS X st (tS E G0 H0 g)
def DSs (X:Cx) (E:EK) (st:List Stmt) (g:Dn->Out):Prop:=∀ G0 H0,PSs X st (tS E G0 H0 g)
theorem PS.imp {X:Cx} {st:Stmt} {t t':TS} (h:PS X st t) (i:∀ D σ H,t' D σ H->t D σ H):PS X st t':=fun pins s σ H D I q=>h pins s σ H D I (i _ _ _ q)
theorem PSs.imp {X:Cx} {st:List Stmt} {t t':TS} (h:PSs X st t) (i:∀ D σ H,t' D σ H->t D σ H):PSs X st t':=fun pins s σ H D I q=>h pins s σ H D I (i _ _ _ q)
noncomputable def I8 {α:Type} (r:Res α) (k:α->Out):Out:=match r with
 | .ok a=>k a
 | .exc c=>.exc c
 | .no=>.no
theorem Ci {E:EK} {G0 H0 G H:Hp} {σ:St} {δ:Dn} {f:Dn->Res PyData} {k:PyData->Out} {D:Ends} {R:VK} (S:SSt G0 H0 G H σ δ) (a:Ih E G0 H0 (I8 (f δ) k) D)
   (h:∀ d v G1 H1,Grow G H G1 H1->Rep G1 d v->SSt G0 H0 G1 H1 σ δ->Ih E G0 H0 (k d) D->R v H1):tD E f σ H R:=by
 refine ⟨G,δ,S.sr,?_⟩
 cases e:f δ with
 | ok d=>rw [e] at a; exact fun v G' H' g r=>h d v G' H' g r (S.grow g) a
 | exc c=>rw [e] at a; exact fun G' H' g=>a G' H' (S.gr.trans g)
 | no=>rw [e] at a; exact a
theorem Xd {E:EK} {G0 H0 G H:Hp} {σ:St} {δ:Dn} {f:Dn->Res (List PyData)} {k:List PyData->Out} {D:Ends} {R:VK} (S:SSt G0 H0 G H σ δ) (a:Ih E G0 H0 (I8 (f δ) k) D)
   (h:∀ ds p xs G1 H1,Grow G H G1 H1->H p=none->G1 p=none->H1 p=some (.lst xs)->RepL G1 ds xs->SSt G0 H0 G1 H1 σ δ->Ih E G0 H0 (k ds) D->R (.ref p) H1):tF E f σ H R:=by
 refine ⟨G,δ,S.sr,?_⟩
 cases e:f δ with
 | ok d=>rw [e] at a; exact fun p xs G' H' g q1 q2 q3 q4=>h d p xs G' H' g q1 q2 q3 q4 (S.grow g) a
 | exc c=>rw [e] at a; exact fun G' H' g=>a G' H' (S.gr.trans g)
 | no=>rw [e] at a; exact a
theorem iC {E:EK} {G0 H0 G H:Hp} {σ:St} {δ:Dn} {f:Dn->Res Bool} {k:Bool->Out} {D:Ends} {R:Bool->Hp->Prop} (S:SSt G0 H0 G H σ δ) (a:Ih E G0 H0 (I8 (f δ) k) D)
   (h:∀ d G1 H1,Grow G H G1 H1->SSt G0 H0 G1 H1 σ δ->Ih E G0 H0 (k d) D->R d H1):tT E f σ H R:=by
 refine ⟨G,δ,S.sr,?_⟩
 cases e:f δ with
 | ok d=>rw [e] at a; exact fun G' H' g=>h d G' H' g (S.grow g) a
 | exc c=>rw [e] at a; exact fun G' H' g=>a G' H' (S.gr.trans g)
 | no=>rw [e] at a; exact a
theorem iD {E:EK} {G0 H0 G H:Hp} {σ:St} {δ:Dn} {f:Dn->Res (List PyData)} {k:List PyData->Out} {D:Ends} {R:It->Hp->Prop} (S:SSt G0 H0 G H σ δ) (a:Ih E G0 H0 (I8 (f δ) k) D)
   (h:∀ ds J G1 H1,Grow G H G1 H1->Walk J G1 ds->SSt G0 H0 G1 H1 σ δ->Ih E G0 H0 (k ds) D->R J H1):tI E f σ H R:=by
 refine ⟨G,δ,S.sr,?_⟩
 cases e:f δ with
 | ok d=>rw [e] at a; exact fun J G' H' g q=>h d J G' H' g q (S.grow g) a
 | exc c=>rw [e] at a; exact fun G' H' g=>a G' H' (S.gr.trans g)
 | no=>rw [e] at a; exact a
theorem E2 {α:Type} {l:List α} {i j:Nat} {v:α}:(l.set i v)[j]? = if i=j/\i < l.length then some v else l[j]? := by
 rw [List.getElem?_set]
 by_cases h:i=j
 . subst h
   by_cases hl:i < l.length
   . simp [hl]
   . simp [hl,List.getElem?_eq_none (Nat.not_lt.mp hl)]
 . simp [h]
theorem SSt.set_sh {G0 H0 G H:Hp} {σ:St} {δ:Dn} (S:SSt G0 H0 G H σ δ) {i:Nat} {v:V} {d:PyData} (r:Rep G d v):SSt G0 H0 G H (σ.set i (some v)) (δ.set i (.sh d)):=by
 have hl:=S.sr.len
 have key:∀ (j:Nat) (d':PyData),(δ.set i (.sh d))[j]? = some (.ow d')->(σ.set i (some v))[j]? = σ[j]? /\ δ[j]? = some (.ow d'):=fun j d' e=>by
   rw [E2] at e
   split at e
   . cases e
   . rename_i hn
     refine ⟨?_,e⟩; rw [E2,if_neg (by rw [hl]; exact hn)]
 refine ⟨S.gr,⟨S.sr.sub,by simp [hl],fun j s e=>?_,fun j1 j2 a d1 d2 e1 e2 h1 h2=>?_⟩,fun j d' a e h=>?_⟩
 . rw [E2] at e ⊢
   rw [hl]
   split at e
   . rename_i hc; cases e; rw [if_pos hc]; exact ⟨v,rfl,r⟩
   . rename_i hc; rw [if_neg hc]; exact S.sr.sl j s e
 . obtain ⟨k1,o1⟩:=key j1 d1 e1
   obtain ⟨k2,o2⟩:=key j2 d2 e2; rw [k1] at h1; rw [k2] at h2; exact S.sr.ap j1 j2 a d1 d2 o1 o2 h1 h2
 . obtain ⟨k1,o1⟩:=key j d' e
   rw [k1] at h; exact S.fr j d' a o1 h
theorem SSt.set_ow {G0 H0 G H:Hp} {σ:St} {δ:Dn} (S:SSt G0 H0 G H σ δ) {i:Nat} {p:Addr} {d:PyData} (h0:H0 p=none) (hg:G p=none) (ho:OwnOk G H p d) (hf:∀ (j:Nat) d',δ[j]? = some (.ow d')->σ[j]?.join≠some (.ref p)):SSt G0 H0 G H (σ.set i (some (.ref p))) (δ.set i (.ow d)):=by
 have hl:=S.sr.len
 have key:∀ (j:Nat) (d':PyData),(δ.set i (.ow d))[j]? = some (.ow d')->(i=j/\i < δ.length/\d'=d/\(σ.set i (some (.ref p)))[j]? = some (some (.ref p)))\/((σ.set i (some (.ref p)))[j]? = σ[j]? /\ δ[j]? = some (.ow d')):=fun j d' e=>by
   rw [E2] at e
   split at e
   . rename_i hc; cases e; exact .inl ⟨hc.1,hc.2,rfl,by rw [E2,if_pos (by rw [hl]; exact hc)]⟩
   . rename_i hn
     refine .inr ⟨?_,e⟩; rw [E2,if_neg (by rw [hl]; exact hn)]
 refine ⟨S.gr,⟨S.sr.sub,by simp [hl],fun j s e=>?_,fun j1 j2 a d1 d2 e1 e2 h1 h2=>?_⟩,fun j d' a e h=>?_⟩
 . rw [E2] at e ⊢
   rw [hl]
   split at e
   . rename_i hc; cases e; rw [if_pos hc]; exact ⟨p,rfl,hg,ho⟩
   . rename_i hc; rw [if_neg hc]; exact S.sr.sl j s e
 . rcases key j1 d1 e1 with ⟨a1,b1,_,c1⟩ | ⟨k1,o1⟩
   . rcases key j2 d2 e2 with ⟨a2,b2,_,c2⟩ | ⟨k2,o2⟩
     . exact a1.symm.trans a2
     . rw [c1] at h1; cases h1
       rw [k2] at h2; exact absurd h2 (hf j2 d2 o2)
   . rcases key j2 d2 e2 with ⟨a2,b2,_,c2⟩ | ⟨k2,o2⟩
     . rw [c2] at h2; cases h2
       rw [k1] at h1; exact absurd h1 (hf j1 d1 o1)
     . rw [k1] at h1; rw [k2] at h2
       exact S.sr.ap j1 j2 a d1 d2 o1 o2 h1 h2
 . rcases key j d' e with ⟨a1,b1,_,c1⟩ | ⟨k1,o1⟩
   . rw [c1] at h; cases h; exact h0
   . rw [k1] at h; exact S.fr j d' a o1 h
theorem SSt.write {G0 H0 G H:Hp} {σ:St} {δ:Dn} (S:SSt G0 H0 G H σ δ) {i:Nat} {p:Addr} {d d':PyData} {o:HO} (hi:δ[i]? = some (.ow d)) (hp:σ[i]?.join=some (.ref p)) (hg:G p=none) (ho:OwnOk G (upd H p o) p d'):SSt G0 H0 G (upd H p o) σ (δ.set i (.ow d')):=by
 have h0:=S.fr i d p hi hp
 have hil:i < δ.length:=(List.getElem?_eq_some_iff.mp hi).1
 have hsub:Same G (upd H p o):=fun b u e=>by rw [B3 (D6 e hg)]; exact S.sr.sub _ _ e
 have key:∀ (j:Nat) (e:PyData),(δ.set i (.ow d'))[j]? = some (.ow e)->∃ e',δ[j]? = some (.ow e'):=fun j e h=>by
   rw [E2] at h
   split at h
   . rename_i hc; rw [<- hc.1]; exact ⟨d,hi⟩
   . exact ⟨e,h⟩
 refine ⟨⟨S.gr.g,fun b u e=>by rw [B3 (D6 e h0)]; exact S.gr.h _ _ e,hsub,S.gr.fr⟩,⟨hsub,by simp [S.sr.len],fun j s e=>?_,fun j1 j2 a d1 d2 e1 e2 h1 h2=>?_⟩,fun j e a h1 h2=>?_⟩
 . rw [E2] at e
   split at e
   . rename_i hc; cases e; rw [<- hc.1]; exact ⟨p,hp,hg,ho⟩
   . rename_i hc
     have hs:=S.sr.sl j s e
     cases s with
     | un=>trivial
     | sh d=>exact hs
     | fd _=>exact hs
     | ow d2 =>
       obtain ⟨a,e1,n1,ok⟩:=hs; refine ⟨a,e1,n1,?_⟩; have hne:a≠p:=by
         rintro rfl
         exact hc ⟨S.sr.ap i j a d d2 hi e hp e1,hil⟩
       cases d2 with
       | list ds=>obtain ⟨xs,q,r⟩:=ok; exact ⟨xs,by rw [B3 hne]; exact q,r⟩
       | dict kvs=>obtain ⟨xs,q,r⟩:=ok; exact ⟨xs,by rw [B3 hne]; exact q,r⟩
       | tuple xs=>exact OwnK.keep (Same.refl _) (fun o q=>by rw [B3 hne]; exact q) ok
       | _=>exact (show False from ok).elim
 . obtain ⟨e1',o1⟩:=key j1 d1 e1
   obtain ⟨e2',o2⟩:=key j2 d2 e2; exact S.sr.ap j1 j2 a _ _ o1 o2 h1 h2
 . obtain ⟨e',o1⟩:=key j e h1
   exact S.fr j e' a o1 h2
noncomputable def fz (i:Nat) (δ:Dn):Dn:=match δ[i]? with
 | some (.ow (.list ds))=>δ.set i (.sh (.list ds))
 | _=>δ
theorem SSt.fz {G0 H0 G H:Hp} {σ:St} {δ:Dn} (S:SSt G0 H0 G H σ δ) (i:Nat):∃ G',SSt G0 H0 G' H σ (fz i δ):=by
 unfold Sm.fz
 split
 . rename_i ds hi
   obtain ⟨p,hp,hg,xs,hx,r⟩:=S.sr.sl i _ hi; have h0:=S.fr i _ p hi hp; have g:Grow G0 H0 (upd G p (.lst xs)) H:=S.gr.share h0 hg hx; have hv:σ[i]? = some (some (.ref p)):=by
     cases q:σ[i]? with
     | none=>rw [q] at hp; cases hp
     | some z=>rw [q] at hp; cases z with
       | none=>cases hp
       | some z=>cases hp; rfl
   have key:∀ (j:Nat) (d':PyData),(δ.set i (.sh (.list ds)))[j]? = some (.ow d')->δ[j]? = some (.ow d')/\j≠i:=fun j d' e=>by
     rw [E2] at e
     split at e
     . cases e
     . rename_i hn
       refine ⟨e,fun z=>?_⟩
       subst z; exact hn ⟨rfl,(List.getElem?_eq_some_iff.mp hi).1⟩
   refine ⟨_,g,⟨g.gh,by simp [S.sr.len],fun j s e=>?_,fun j1 j2 a d1 d2 e1 e2 h1 h2=>S.sr.ap j1 j2 a d1 d2 (key j1 d1 e1).1 (key j2 d2 e2).1 h1 h2⟩,fun j d' a e h=>S.fr j d' a (key j d' e).1 h⟩
   have sm:Same G (upd G p (.lst xs)):=Same.upd hg
   by_cases hj:i=j/\i < δ.length
   . rw [E2,if_pos hj] at e
     cases e; rw [<- hj.1,hv]; exact ⟨_,rfl,p,xs,rfl,.inl B7,r.mono sm⟩
   . have e2:=e
     rw [E2,if_neg hj] at e2; have hs:=S.sr.sl j s e2
     cases s with
     | un=>trivial
     | sh d=>obtain ⟨v,e1,r1⟩:=hs; exact ⟨v,e1,r1.mono sm⟩
     | fd _=>exact FdOk.mono sm hs
     | ow d2 =>
       obtain ⟨a,e1,n1,ok⟩:=hs; have hne:a≠p:=by
         rintro rfl
         exact (key j d2 e).2 (S.sr.ap j i a d2 _ e2 hi e1 hp)
       refine ⟨a,e1,by rw [B3 hne]; exact n1,?_⟩
       cases d2 with
       | list ds=>obtain ⟨xs,q,r⟩:=ok; exact ⟨xs,q,r.mono sm⟩
       | dict kvs=>obtain ⟨xs,q,k,r⟩:=ok; exact ⟨xs,q,k,r.mono sm⟩
       | tuple xs=>exact OwnK.keep sm (fun o q=>q) ok
       | _=>exact (show False from ok).elim
 . exact ⟨G,S⟩
noncomputable section
variable {P:Program} {w:World} {K:PySem.W.Frag} {mg:Str->Option Value} {base:Heap} {X:Cx} {N:List Str} {sc:Scope} {k:Nat} {df:Bool} {E:EK} {pos p px py:Pos} {a b c e elt iter:Expr} {ifs:List Expr} {f g el:Dn->Res PyData} {fs src:Dn->Res (List PyData)} {tt:Dn->Res Bool} {scope:Scope} {capN:List Str} {cap:List Nat} {st:Stmt} {sts sts':List Stmt} {g1 g2:Dn->Out}
noncomputable def F7:Dn->Out:=fun δ=>.nx δ
noncomputable def C6 (g1 g2:Dn->Out):Dn->Out:=fun δ=>match g1 δ with
 | .nx δ'=>g2 δ'
 | o=>o
theorem L0:DSs X E [] F7:=fun G0 H0=>PSs.imp Rg fun D σ H hZ3=>by obtain ⟨G,δ,S,a⟩:=hZ3; exact a σ G H S
theorem B4 (h1:DS X E st g1) (h2:DSs X E sts g2):DSs X E (st::sts) (C6 g1 g2):=fun G0 H0=>by
 refine PSs.imp (Gj (h1 G0 H0) (h2 G0 H0)) fun D σ H hY59=>?_
 obtain ⟨G,δ,S,a⟩:=hY59
 refine ⟨G,δ,S,?_⟩
 unfold C6 at a
 cases e:g1 δ with
 | nx δ'=>rw [e] at a; exact fun σ' G' H' S'=>⟨G',δ',S',a⟩
 | rt d=>rw [e] at a; exact a
 | bk d=>rw [e] at a; exact a
 | ct d=>rw [e] at a; exact a
 | exc d=>rw [e] at a; exact a
 | no=>rw [e] at a; exact a
theorem B9 (h1:DS X E st g1):DSs X E [st] g1:=fun G0 H0=>Eb (h1 G0 H0)
noncomputable def sFz (i:Nat) (g:Dn->Out):Dn->Out:=fun δ=>g (fz i δ)
theorem Zz (i:Nat) (h:DS X E st g1):DS X E st (sFz i g1):=fun G0 H0=>PS.imp (h G0 H0) fun D σ H hZ3=>by
 obtain ⟨G,δ,S,a⟩:=hZ3
 obtain ⟨G',S'⟩:=S.fz i
 exact ⟨G',_,S',a⟩
noncomputable def L3 (f:Dn->Res PyData):Dn->Out:=fun δ=>I8 (f δ) .rt
theorem K0 (h:DE X E e f):DS X E (.Return (some e) pos) (L3 f):=fun G0 H0=>PS.imp (Rh h) fun D σ H ⟨G,δ,S,a⟩ =>
 Ci S a fun d v G1 H1 g1 r1 S1 a1=>a1 v G1 H1 S1.gr r1
noncomputable def sIf (c:Dn->Res Bool) (g1 g2:Dn->Out):Dn->Out:=fun δ=>I8 (c δ) fun b=>if b=true then g1 δ else g2 δ
theorem X0 (hc:DT X E c tt) (h1:DSs X E sts g1) (h2:DSs X E sts' g2):DS X E (.If c sts sts' pos) (sIf tt g1 g2):=fun G0 H0=>PS.imp (eG hc (h1 G0 H0) (h2 G0 H0)) fun D σ H ⟨G,δ,S,a⟩ =>
 iC S a fun d G1 H1 g1 S1 a1=>by
   cases d with
   | true=>rw [if_pos rfl]; exact ⟨G1,δ,S1,a1⟩
   | false=>rw [if_neg (by decide)]; exact ⟨G1,δ,S1,a1⟩
noncomputable def okSet (N:List Str) (sc:Scope) (df:Bool) (i:Nat) (x:Str):Bool:=decide (N.Nodup)&&decide (N[i]? = some x)&&(decide (sc.names.lookup x=some .local)||(decide (sc.names.lookup x=some .cell)&&df))
theorem okSet.ok (C:Cxt P w K mg base X N sc k df) {i:Nat} {x:Str} (h:okSet N sc df i x=true):X.N.Nodup/\X.N[i]? = some x/\Loc X.env.scope x/\(X.fn x=true\/X.env.scope.names.lookup x=some .local):=by
 unfold okSet at h
 simp only [Bool.and_eq_true,Bool.or_eq_true,decide_eq_true_eq] at h
 obtain ⟨⟨h1,h2⟩,h3⟩:=h
 rw [C.hN]
 refine ⟨h1,h2,?_⟩
 unfold L2.Loc
 rw [C.hs]
 rcases h3 with h3 | ⟨h3,h4⟩
 . exact ⟨.inl h3,.inr h3⟩
 . exact ⟨.inr h3,.inl (C.fn h4 x)⟩
noncomputable def E8 (i:Nat) (f:Dn->Res PyData):Dn->Out:=fun δ=>I8 (f δ) fun d=>.nx (δ.set i (.sh d))
theorem F6 {x:Str} (C:Cxt P w K mg base X N sc k df) (i:Nat) (ho:okSet N sc df i x=true) (h:DE X E e f) (hs:swapsWith e (some (.Name x p)) pos.line X.env=pure false:=by rfl):DS X E (.Assign [.Name x p] e pos) (E8 i f):=fun G0 H0=>by
 obtain ⟨h1,h2,h3,h4⟩:=okSet.ok C ho
 exact PS.imp (Hl h1 h2 h3 h hs h4) fun D σ H hZ3=>by obtain ⟨G,δ,S,a⟩:=hZ3; exact Ci S a fun d v G1 H1 g1 r1 S1 a1=>a1 _ G1 H1 (S1.set_sh r1)
theorem Fk {G0 H0 G H:Hp} {σ:St} {δ:Dn} (S:SSt G0 H0 G H σ δ) {p:Addr} (hp:H p=none) (j:Nat) (d':PyData) (e:δ[j]? = some (.ow d')):σ[j]?.join≠some (.ref p):=fun z=>by
 obtain ⟨a,e1,_,ok⟩:=S.sr.sl j _ e
 rw [e1] at z; cases z
 obtain ⟨o,q⟩:=ok.some
 rw [hp] at q; cases q
noncomputable def Hi (i:Nat) (f:Dn->Res (List PyData)):Dn->Out:=fun δ=>I8 (f δ) fun ds=>.nx (δ.set i (.ow (.list ds)))
theorem Xz {G0 H0:Hp} {D:Ends} {σ:St} {H:Hp} {i:Nat} (h:tS E G0 H0 (Hi i fs) D σ H):tF E fs σ H fun v H1=>D.nx (σ.set i (some v)) H1:=by
 obtain ⟨G,δ,S,a⟩:=h
 refine Xd S a fun ds p xs G1 H1 g1 q1 q2 q3 q4 S1 a1=>?_
 exact a1 _ G1 H1 (S1.set_ow (S.gr.h.free q1) q2 ⟨xs,q3,q4⟩ (Fk S q1))
theorem Oy {x:Str} (C:Cxt P w K mg base X N sc k df) (i:Nat) (ho:okSet N sc df i x=true) (h:DF X E e fs) (hs:swapsWith e (some (.Name x p)) pos.line X.env=pure false:=by rfl):DS X E (.Assign [.Name x p] e pos) (Hi i fs):=fun G0 H0=>by
 obtain ⟨h1,h2,h3,h4⟩:=okSet.ok C ho
 exact PS.imp (Hl h1 h2 h3 h hs h4) fun D σ H q=>Xz q
noncomputable def Hn (sc scope:Scope) (x:Str) (l1 l2:Nat):Bool:=decide (sc.kind=.function)&&decide (sc.names.lookup x=some .local)&&decide (l1=l2) && !(scope.names.any fun (n,kd)=>n==x&&(kd==.local||kd==.cell))
theorem Ow {x:Str} {elt:Expr} {gens:List Comprehension} {ln:Nat} (C:Cxt P w K mg base X N sc k df) (h:Hn sc scope x p.line pos.line=true):swapsWith (.ListComp elt gens scope pos) (some (.Name x p)) ln X.env=pure true:=by
 unfold Hn at h
 simp only [Bool.and_eq_true,decide_eq_true_eq] at h
 obtain ⟨⟨⟨h1,h2⟩,h3⟩,h4⟩:=h
 unfold swapsWith
 show pure (X.env.blockKind==.function&&X.env.kindOf x==some .local&&p.line==pos.line && !(scope.names.any fun (n,kd)=>n==x&&(kd==.local||kd==.cell)))=_
 have e1:X.env.blockKind=.function:=by unfold Env.blockKind; rw [C.hs,h1]; rfl
 have e2:X.env.kindOf x=some .local:=by show X.env.scope.names.lookup x=_; rw [C.hs]; exact h2
 rw [e1,e2,h3,h4]
 simp
noncomputable section
variable {x y:Str} {i:Nat} {py spos:Pos}
theorem Vy (C:Cxt P w K mg base X N sc k df) (i:Nat) (hset:okSet N sc df i y=true) (hsw:Hn sc scope y py.line pos.line=true) (cap:List Nat) (capN:List Str) (ho:okComp N sc scope [x] capN cap=true) (hi:DI X E (.Name x px) iter src)
   (ht:∀ X',Cxt P w K mg base X' ([x]++capN) (Gi scope sc) k false->DTs X' E0k ifs tt) (he:∀ X',Cxt P w K mg base X' ([x]++capN) (Gi scope sc) k false->DE X' E0k elt el)
   (hs:∀ x,foldedSetIterable iter X.env x=pure x:=by intro _; rfl):DS X E (.Assign [.Name y py] (.ListComp elt [⟨.Name x px,iter,ifs,0⟩] scope pos) spos) (Hi i (K3 src E7 cap tt el)):=fun G0 H0=>by
 obtain ⟨h1,h2,h3,h4⟩:=okSet.ok C hset
 have o:=okComp.ok ho
 have hl:X.env.scope.names.lookup y=some .local:=by
   rw [C.hs]; unfold Hn at hsw; simp only [Bool.and_eq_true,decide_eq_true_eq] at hsw; exact hsw.1.1.2
 refine PS.imp (Lz (g:=Z9 0) C.calm (Fo C o) hi (fun X' B=>?_) (fun X' B=>ht X' (C.blk B)) (fun X' B=>he X' (C.blk B)) h1 h2 hl (Ow C hsw) hs) fun D σ H h=>Qq (m:=1) rfl o.h10 gok1 (Xz h)
 have C':=C.blk B
 have hl:X'.env.scope.names.lookup x=some .local:=by rw [C'.hs]; exact o.h9 x (by simp)
 exact Af (by rw [C'.hN]; exact o.h8) (by rw [C'.hN]; rfl) (.inl hl) (.inr hl)
noncomputable def dQ (i:Nat) (f:Dn->Res (List PyData)):Dn->Out:=fun δ=>I8 (f δ) fun ds=>.nx (δ.set i (.sh (.list ds)))
theorem kB {G0 H0:Hp} {D:Ends} {σ:St} {H:Hp} {i:Nat} (h:tS E G0 H0 (dQ i fs) D σ H):tF E fs σ H fun v H1=>D.nx (σ.set i (some v)) H1:=by
 obtain ⟨G,δ,S,a⟩:=h
 refine Xd S a fun ds p xs G1 H1 g1 q1 q2 q3 q4 S1 a1=>?_
 exact a1 _ _ H1 ((S.grow (g1.share q1 q2 q3)).set_sh ⟨p,xs,rfl,.inl B7,q4.mono (Same.upd q2)⟩)
end
end
end Sm
end
noncomputable section
namespace Sm
open PySem PySem.Spec PyProof.Rows L2
noncomputable section
variable {P:Program} {w:World} {K:PySem.W.Frag} {mg:Str->Option Value} {base:Heap} {X:Cx} {N:List Str} {sc:Scope} {k:Nat} {df:Bool} {E:EK} {pos p px py tp spos:Pos} {tg a b c e elt iter:Expr} {ifs:List Expr} {es:List Expr} {f g el:Dn->Res PyData} {src:Dn->Res (List PyData)} {tt:Dn->Res Bool} {scope:Scope} {capN:List Str} {cap:List Nat} {st:Stmt} {sts:List Stmt} {g1:Dn->Out} {x y:Str} {i:Nat}
theorem Vz {x1:Nat} {x2:Str} (C:Cxt P w K mg base X N sc k df) (i:Nat) (hset:okSet N sc df i y=true) (hsw:Hn sc scope y py.line pos.line=true) (cap:List Nat) (capN:List Str) (ho:okComp N sc scope [x,x2] capN cap=true) (hi:DI X E (.Tuple [.Name x px,.Name x2 p] x1 tp) iter src)
   (ht:∀ X',Cxt P w K mg base X' ([x,x2]++capN) (Gi scope sc) k false->DTs X' E0k ifs tt) (he:∀ X',Cxt P w K mg base X' ([x,x2]++capN) (Gi scope sc) k false->DE X' E0k elt el)
   (hs:∀ x,foldedSetIterable iter X.env x=pure x:=by intro _; rfl):DS X E (.Assign [.Name y py] (.ListComp elt [⟨.Tuple [.Name x px,.Name x2 p] x1 tp,iter,ifs,0⟩] scope pos) spos) (dQ i (K3 src Iv cap tt el)):=fun G0 H0=>by
 obtain ⟨h1,h2,h3,h4⟩:=okSet.ok C hset
 have o:=okComp.ok ho
 have hl:X.env.scope.names.lookup y=some .local:=by
   rw [C.hs]; unfold Hn at hsw; simp only [Bool.and_eq_true,decide_eq_true_eq] at hsw; exact hsw.1.1.2
 refine PS.imp (Lz (g:=kO K 2 (Mn (Z9 0) (Mn (Z9 1) kP))) C.calm (Fo C o) hi (fun X' B=>?_) (fun X' B=>ht X' (C.blk B)) (fun X' B=>he X' (C.blk B)) h1 h2 hl (Ow C hsw) hs) fun D σ H h=>Qq (m:=2) rfl o.h10 gok2 (kB h)
 have C':=C.blk B
 have hl:X'.env.scope.names.lookup x=some .local:=by rw [C'.hs]; exact o.h9 x (by simp)
 have hl2:X'.env.scope.names.lookup x2=some .local:=by rw [C'.hs]; exact o.h9 x2 (by simp)
 have nd:X'.N.Nodup:=by rw [C'.hN]; exact o.h8
 have p1:PG X' (.Name x px) (Z9 0):=Af nd (by rw [C'.hN]; rfl) (.inl hl) (.inr hl)
 have p2:PG X' (.Name x2 p) (Z9 1):=Af nd (by rw [C'.hN]; rfl) (.inl hl2) (.inr hl2)
 have:=eL (n:=2) (k:=x1) (pos:=tp) C'.calm (Gk p1 (Gk p2 Xx))
 rw [C'.hK] at this
 exact this
noncomputable def sSet2 (i j:Nat) (f:Dn->Res PyData):Dn->Out:=fun δ=>I8 (f δ) fun d=>match d with
 | .tuple [a,b]=>.nx ((δ.set i (.sh a)).set j (.sh b))
 | _=>.no
noncomputable def Ae (i:Nat) (f:Dn->Res PyData):Dn->Out:=fun δ=>match δ[i]? with
 | some (.ow (.list ds))=>I8 (f δ) fun d=>if ds.length < sizeLine then .nx (δ.set i (.ow (.list (ds++[d])))) else .no
 | _=>.no
theorem Ls {cpos apos:Pos} (C:Cxt P w K mg base X N sc k df) (i:Nat) (h:okVar N sc i x=true) (ha:DE X E a f)
   (hbase:attributeBase (.Name x p) "append" X.env (eval (.Name x p) X.env)=eval (.Name x p) X.env:=by rfl)
   (hfew:((backTo cpos (starEach [a] X.env)).all (fun x => !x.1)&&(backToKw cpos (keywordEach [] X.env)).all (fun x=>x.1.isSome)
     && decide ([a].length+([]:List Keyword).length+(if ([]:List Keyword).isEmpty then 0 else 1) < 30))=true:=by rfl)
   (hline:(apos.endLine==cpos.line)=true:=by rfl) (hs:starEach [a] X.env=(false,eval a X.env)::starEach [] X.env:=by rfl) (hplain:(backTo cpos (starEach [] X.env)).any (·.1)=false:=by rfl)
   (hsw:swapsWith (.Call (.Attribute (.Name x p) "append" apos) [a] [] cpos) none pos.line X.env=pure false:=by rfl) :
   DS X E (.Expr (.Call (.Attribute (.Name x p) "append" apos) [a] [] cpos) pos) (Ae i f):=fun G0 H0=>by
 have hv:PE X (.Name x p) (Nl i):=by
   unfold okVar at h; simp only [Bool.and_eq_true,Bool.not_eq_true'] at h; obtain ⟨⟨⟨h1,h2⟩,h3⟩,h4⟩:=h; refine Fd (by rw [C.hN]; exact eq_of_beq h1) ?_ h3 h4
   rw [C.hs]; unfold Vis
   cases q:sc.names.lookup x with
   | none=>rw [q] at h2; cases h2
   | some z =>
     rw [q] at h2
     cases z with
     | «local» => exact .inl rfl
     | cell=>exact .inr (.inl rfl)
     | free=>exact .inr (.inr rfl)
     | _=>cases h2
 refine PS.imp (Jz (Mb PySem.F.plainAttrs_list PySem.F.slot_list_append PySem.F.type_list_append Hr hv (E1 ha L9 hs) hbase hfew hline hs hplain) hsw) fun D σ H hZ3=>?_
 obtain ⟨G,δ,S,aft⟩:=hZ3
 unfold Ae at aft
 split at aft
 . rename_i ds hi
   obtain ⟨q,hq,hg,xs,hx,rl⟩:=S.sr.sl i _ hi; have hσ:σ[i]? = some (some (.ref q)):=by
     cases z:σ[i]? with
     | none=>rw [z] at hq; cases hq
     | some z'=>rw [z] at hq; cases z' with
       | none=>cases hq
       | some z''=>cases hq; rfl
   refine ⟨.ref q,hσ,.inl ⟨rfl,xs,.inl (.inl hx)⟩,?_⟩; refine Ci S aft fun d v G1 H1 g1 r1 S1 a1=>?_
   split at a1
   . rename_i hz
     have hx1:H1 q=some (.lst xs):=g1.h _ _ hx; obtain ⟨q',hq',hg',_⟩:=S1.sr.sl i _ hi; rw [hq] at hq'; cases hq'; refine ⟨q,xs,v,rfl,rfl,hx1,by rw [<- rl.length]; exact hz,?_⟩
     exact a1 σ G1 _ (S1.write hi hq hg' ⟨xs++[v],B7,(rl.mono g1.g).append (RepL.cons r1 rfl)⟩)
   . exact a1.elim
 . exact aft.elim
noncomputable def E5 (st:PyData->Dn->Option Dn) (body:Dn->Out):List PyData->Dn->Out
 | [],δ=>.nx δ
 | d::ds,δ=>match st d δ with
   | some δ1=>match body δ1 with
     | .nx δ'=>E5 st body ds δ'
     | .ct δ'=>E5 st body ds δ'
     | .bk δ'=>.nx δ'
     | o=>o
   | none=>.no
noncomputable def N2 (src:Dn->Res (List PyData)) (st:PyData->Dn->Option Dn) (body:Dn->Out):Dn->Out:=fun δ=>I8 (src δ) fun ds=>E5 st body ds δ
noncomputable def st1 (i:Nat):PyData->Dn->Option Dn:=fun d δ=>some (δ.set i (.sh d))
noncomputable def st2 (i j:Nat):PyData->Dn->Option Dn:=fun d δ=>match d with
 | .tuple [a,b]=>some ((δ.set i (.sh a)).set j (.sh b))
 | _=>none
def qG (K:PySem.W.Frag) (g:TG) (st:PyData->Dn->Option Dn):Prop:=∀ (G0 H0 G H:Hp) (σ:St) (δ δ1:Dn) (d:PyData) (x:V) (Q:St->Hp->Prop),SSt G0 H0 G H σ δ->Rep G d x->st d δ=some δ1->(∀ σ',SSt G0 H0 G H σ' δ1->Q σ' H)->g x σ H Q
theorem tg1 (i:Nat):qG K (Z9 i) (st1 i):=fun G0 H0 G H σ δ δ1 d x Q S r e h=>by cases e; exact h _ (S.set_sh r)
theorem tg2 (i j:Nat):qG K (kO K 2 (Mn (Z9 i) (Mn (Z9 j) kP))) (st2 i j):=fun G0 H0 G H σ δ δ1 d x Q S r e h=>by
 cases d with
 | tuple ds =>
   match ds,e with
   | [a,b],e =>
     cases e; obtain ⟨p,xs,rfl,e1,l1⟩:=r; obtain ⟨v,v',rfl,r1,r2⟩:=dW l1; exact ⟨p,_,rfl,.inl (.inl (S.sr.sub _ _ e1)),rfl,v,[v'],rfl,v',[],rfl,rfl,h _ ((S.set_sh r1).set_sh r2)⟩
 | _=>cases e
theorem SSt.rebase {G0 H0 G1 H1 G H:Hp} {σ:St} {δ:Dn} (g:Grow G0 H0 G1 H1) (S:SSt G0 H0 G H σ δ) (h:Same G1 G):SSt G1 H0 G H σ δ :=
 ⟨⟨h,S.gr.h,S.gr.gh,fun b o e=>(S.gr.fr b o e).imp (fun z=>g.g _ _ z) id⟩,S.sr,S.fr⟩
theorem Grow.unbase {G0 H0 G1 H1 G H:Hp} (g:Grow G0 H0 G1 H1) (h:Grow G1 H0 G H):Grow G0 H0 G H :=
 ⟨g.g.trans h.g,h.h,h.gh,fun b o e=>(h.fr b o e).elim (fun z=>g.fr b o z) .inr⟩
theorem SSt.unbase {G0 H0 G1 H1 G H:Hp} {σ:St} {δ:Dn} (g:Grow G0 H0 G1 H1) (S:SSt G1 H0 G H σ δ):SSt G0 H0 G H σ δ:=⟨g.unbase S.gr,S.sr,S.fr⟩
theorem dM {gt:TG} {st:PyData->Dn->Option Dn} (C:Cxt P w K mg base X N sc k df) (hi:DI X E tg iter src) (hg:PG X tg gt) (ht:qG K gt st) (hb:DSs X E sts g1) (hs:∀ x,foldedSetIterable iter X.env x=pure x):DS X E (.For tg iter sts [] pos) (N2 src st g1):=fun G0 H0=>by
 have hb':PSs X sts (fun D σ H=>∃ Gb,tS E Gb H0 g1 D σ H):=fun pins s σ H D I hZ6=>by obtain ⟨Gb,q⟩:=hZ6; exact hb Gb H0 pins s σ H D I q
 refine PS.imp (eI C.own C.calm hi hg hb' hs) fun D σ H hZ3=>?_
 obtain ⟨G,δ,S,aft⟩:=hZ3
 refine iD S aft fun ds J G1 H1 gr W S1 a1=>?_
 have g01:=S1.gr
 refine ⟨fun i n σ' H'=>n=ds.length - i/\i<=ds.length/\∃ G' δ',SSt G1 H0 G' H' σ' δ'/\Ih E G0 H0 (E5 st g1 (ds.drop i) δ') D,⟨_,rfl,Nat.zero_le _,G1,δ,S1.rebase g01 (Same.refl _),by rw [List.drop_zero]; exact a1⟩,?_⟩
 rintro i n σ' H' ⟨rfl,hi,G',δ',S',a'⟩
 by_cases hlt:i < ds.length
 . have hd:ds[i]? = some ds[i]:=List.getElem?_eq_getElem hlt
   have hdrop:ds.drop i=ds[i]::ds.drop (i+1):=List.drop_eq_getElem_cons hlt; rw [hdrop] at a'; unfold E5 at a'; refine .inr ⟨W.go i H' hlt (S'.gr.g.trans S'.sr.sub),fun σ2 H2=>∃ G' δ',SSt G1 H0 G' H2 σ2 δ'/\Ih E G0 H0 (E5 st g1 (ds.drop (i+1)) δ') D,fun σ2 H2 q=>⟨_,by omega,rfl,hlt,q⟩,fun x H'' hy=>?_⟩
   obtain ⟨G3,g3,r3⟩:=W.yld i _ G' H' x H'' hd S'.gr.g S'.sr.sub hy; have S3:=S'.grow g3
   cases es:st ds[i] δ' with
   | none=>rw [es] at a'; exact a'.elim
   | some δ1 =>
     rw [es] at a'; refine ht G1 H0 G3 H'' σ' δ' δ1 _ x _ S3 r3 es fun σ2 S4=>⟨G1,G3,δ1,S4,?_⟩
     simp only at a'
     cases eo:g1 δ1 with
     | nx δ2=>rw [eo] at a'; exact fun σ3 G4 H4 S5=>⟨G4,δ2,S5,a'⟩
     | ct δ2=>rw [eo] at a'; exact fun σ3 G4 H4 S5=>⟨G4,δ2,S5,a'⟩
     | bk δ2=>rw [eo] at a'; exact fun σ3 G4 H4 S5=>a' σ3 G4 H4 (S5.unbase g01)
     | rt d=>rw [eo] at a'; exact fun v G4 H4 g r=>a' v G4 H4 (g01.unbase g) r
     | exc c=>rw [eo] at a'; exact fun G4 H4 g=>a' G4 H4 (g01.unbase g)
     | no=>rw [eo] at a'; exact a'
 . refine .inl ⟨W.stop i H' (Nat.not_lt.mp hlt) (S'.gr.g.trans S'.sr.sub),?_⟩
   have:ds.drop i=[]:=List.drop_eq_nil_of_le (Nat.not_lt.mp hlt); rw [this] at a'; exact a' σ' G' H' (S'.unbase g01)
theorem T8 (C:Cxt P w K mg base X N sc k df) (i:Nat) (ho:okSet N sc df i x=true) (hi:DI X E (.Name x p) iter src) (hb:DSs X E sts g1) (hs:∀ x,foldedSetIterable iter X.env x=pure x:=by intro _; rfl):DS X E (.For (.Name x p) iter sts [] pos) (N2 src (st1 i) g1):=by
 obtain ⟨h1,h2,h3,h4⟩:=okSet.ok C ho
 exact dM C hi (Af h1 h2 h3 h4) (tg1 i) hb hs
theorem nP {x1:Nat} (C:Cxt P w K mg base X N sc k df) (i j:Nat) (hi':okSet N sc df i x=true) (hj:okSet N sc df j y=true) (hi:DI X E (.Tuple [.Name x px,.Name y py] x1 tp) iter src) (hb:DSs X E sts g1) (hs:∀ x,foldedSetIterable iter X.env x=pure x:=by intro _; rfl) :
   DS X E (.For (.Tuple [.Name x px,.Name y py] x1 tp) iter sts [] pos) (N2 src (st2 i j) g1):=by
 obtain ⟨h1',h2,h3,h4⟩:=okSet.ok C hi'
 obtain ⟨_,q2,q3,q4⟩:=okSet.ok C hj
 have pg:=eL (n:=2) (k:=x1) (pos:=tp) C.calm (Gk (Af (pos:=px) h1' h2 h3 h4) (Gk (Af (pos:=py) h1' q2 q3 q4) Xx))
 rw [C.hK] at pg
 exact dM C hi pg (tg2 i j) hb hs
end
end Sm
end
noncomputable section
namespace Sm
open PySem PySem.Spec PyProof.Rows L2
noncomputable section
variable {P:Program} {w:World} {K:PySem.W.Frag} {mg:Str->Option Value} {base:Heap} {X:Cx} {N:List Str} {sc:Scope} {k:Nat} {df:Bool} {E:EK} {p:Pos} {a c e:Expr} {f g:Dn->Res PyData} {x:Str} {i:Nat}
theorem okVar.pe (C:Cxt P w K mg base X N sc k df) (h:okVar N sc i x=true):PE X (.Name x p) (Nl i):=by
 unfold okVar at h
 simp only [Bool.and_eq_true,Bool.not_eq_true'] at h
 obtain ⟨⟨⟨h1,h2⟩,h3⟩,h4⟩:=h
 refine Fd (by rw [C.hN]; exact eq_of_beq h1) ?_ h3 h4
 rw [C.hs]
 unfold Vis
 cases q:sc.names.lookup x with
 | none=>rw [q] at h2; cases h2
 | some z =>
   rw [q] at h2
   cases z with
   | «local» => exact .inl rfl
   | cell=>exact .inr (.inl rfl)
   | free=>exact .inr (.inr rfl)
   | _=>cases h2
theorem SR.own {G H:Hp} {σ:St} {δ:Dn} (S:SR G H σ δ) {d:PyData} (hi:δ[i]? = some (.ow d)):∃ q,σ[i]? = some (some (.ref q))/\G q=none/\OwnOk G H q d:=by
 obtain ⟨q,hq,hg,ok⟩:=S.sl i _ hi
 refine ⟨q,?_,hg,ok⟩
 cases z:σ[i]? with
 | none=>rw [z] at hq; cases hq
 | some z'=>rw [z] at hq; cases z' with
   | none=>cases hq
   | some z''=>cases hq; rfl
noncomputable def K9 (N:List Str) (ds:List PyData):Dn:=ds.map .sh++List.replicate (N.length - ds.length) .un
noncomputable def fnD (N:List Str) (g:Dn->Out):List PyData->Res PyData:=fun ds=>match g (K9 N ds) with
 | .rt d=>.ok d
 | .nx _=>.ok .none
 | .exc c=>.exc c
 | _=>.no
theorem Gd {G H:Hp} (hG:Same G H) {ds:List PyData} {vs:List V} (r:RepL G ds vs) (N:List Str):SSt G H G H (V2 N vs) (K9 N ds):=by
 have hl:=r.length
 have noow:∀ (i:Nat) (d:PyData),(K9 N ds)[i]? ≠ some (.ow d):=fun i d e=>by
   unfold K9 at e
   by_cases hi:i < ds.length
   . rw [List.getElem?_append_left (by simpa using hi),List.getElem?_map] at e
     cases q:ds[i]? with
     | none=>rw [q] at e; cases e
     | some z=>rw [q] at e; cases e
   . rw [List.getElem?_append_right (by simpa using Nat.not_lt.mp hi),List.getElem?_replicate] at e
     split at e <;> cases e
 refine ⟨Grow.refl hG,⟨hG,by unfold L2.V2 K9; simp [hl],fun i s e=>?_,fun i j a d d' e _ _ _=>absurd e (noow i d)⟩,fun i d a e _=>absurd e (noow i d)⟩
 unfold K9 at e
 by_cases hi:i < ds.length
 . rw [List.getElem?_append_left (by simpa using hi),List.getElem?_map] at e
   cases q:ds[i]? with
   | none=>rw [q] at e; cases e
   | some z =>
     rw [q] at e; cases e
     obtain ⟨v,e1,rv⟩:=r.get q; unfold L2.V2; rw [List.getElem?_append_left (by rw [List.length_map,<- hl]; exact hi),List.getElem?_map,e1]
     exact ⟨v,rfl,rv⟩
 . rw [List.getElem?_append_right (by simpa using Nat.not_lt.mp hi),List.getElem?_replicate] at e
   split at e <;> cases e
   trivial
structure Def (K:PySem.W.Frag) (mg:Str->Option Value) (x:Str) (st:Stmt) (ps:List Str):Prop where
 ex:∃ f fd,L2.Fun K x x st f fd/\mg x=some (.ref f)/\Binds K fd ps []
theorem gI {x:Str} {st:Stmt} {ps:List Str} {n:Nat} {go:Dn->Out} {m:List PyData->Res PyData} {f:Addr} {fd:FuncData} (F:L2.Fun K x x st f fd) (S:FnScope N ps (A5 st)) (hn:ps.length=n)
   (body:∀ X,Cxt P w K mg base X N (A5 st) k true->DSs X E0k (B5 st) go) (hm:m=fnD N go):FnOk P w K mg base CX0 (k+1) f fd ps (spD n m):=by
 subst hm
 refine F.ok S (fun vs H Q E h=>?_) (fun cdv A outer s H vs Q E hr h=>?_)
 . obtain ⟨G,ds,d,_,r,hl,_⟩:=h
   rw [<- r.length,hl,hn]
 . obtain ⟨G,ds,d,hG,r,hl,em,q⟩:=h
   refine ⟨_,body _ ⟨rfl,rfl,rfl,rfl,rfl,rfl,rfl,rfl,hr,fun _ _=>rfl,PassesOwn.never⟩ G H,G,_,Gd hG r N,?_⟩
   unfold fnD at em
   cases eg:go (K9 N ds) with
   | rt d'=>rw [eg] at em; cases em; exact fun v G' H' g r'=>q v G' H' g r'
   | nx δ=>rw [eg] at em; cases em; exact fun σ G' H' S'=>q _ G' H' S'.gr rfl
   | bk _=>rw [eg] at em; cases em
   | ct _=>rw [eg] at em; cases em
   | exc _=>rw [eg] at em; cases em
   | no=>rw [eg] at em; cases em
theorem Bj {x:Str} {st:Stmt} {ps:List Str} {n:Nat} {go:Dn->Out} {m:List PyData->Res PyData} (F:Def K mg x st ps) (S:FnScope N ps (A5 st)) (hn:ps.length=n)
   (body:∀ X,Cxt P w K mg base X N (A5 st) k true->DSs X E0k (B5 st) go) (hm:m=fnD N go):Fn P w K mg base x (k+1) n m:=by
 obtain ⟨f,fd,F,hmg,hb⟩:=F.ex
 exact ⟨f,fd,ps,hn,gI F S hn body hm,hmg,F.kp,hb⟩
end
end Sm
end
noncomputable section
namespace Sm
open PySem PySem.Spec PyProof.Rows L2
theorem ObjOk.here {P:Program} {w:World} {H:Hp} {h:Heap} {a:Addr} {o:HO} (x:ObjOk P w H h a o):∃ ob,h.get? a=some ob:=by
 cases o with
 | lst xs=>obtain ⟨_,_,_,_,e⟩:=x; exact ⟨_,e⟩
 | tup xs=>obtain ⟨_,_,_,ob,e,_⟩:=x; exact ⟨_,e⟩
 | dK kvs=>obtain ⟨_,_,_,_,o,_,_,e,_⟩:=x; exact ⟨_,e⟩
 | dT kvs=>obtain ⟨_,_,_,_,o,_,_,e,_⟩:=x; exact ⟨_,e⟩
 | dN kvs=>obtain ⟨_,_,_,_,_,_,_,e⟩:=x; exact ⟨_,e⟩
 | set S n=>obtain ⟨o,_,_,_,e,_⟩:=x; exact ⟨_,e⟩
 | ins C dx fs=>obtain ⟨_,_,_,e,_⟩:=x; exact ⟨_,e⟩
 | own y=>obtain ⟨_,e⟩:=x; exact ⟨_,e⟩
 | xd fs=>obtain ⟨_,⟨_,_,_,e,_⟩,_⟩:=x; exact ⟨_,e⟩
 | rng lo hi=>obtain ⟨_,_,_,e⟩:=x; exact ⟨_,e⟩
 | frz ob u=>obtain ⟨e,_⟩:=x; exact ⟨_,e⟩
 | tbl ps=>exact ⟨_,(show h.get? a=some _ from x)⟩
 | met f y=>exact ⟨_,(show h.get? a=some _ from x)⟩
 | ext φ=>obtain ⟨_,e,_⟩:=x; exact e
theorem HOk.gone {P:Program} {w:World} {H:Hp} {h:Heap} {a:Addr} (x:HOk P w H h) (e:h.get? a=none):H a=none:=by
 cases q:H a with
 | none=>rfl
 | some o=>obtain ⟨ob,z⟩:=ObjOk.here (x a o q); rw [e] at z; cases z
def Made (h:Heap) (H:Hp) (h0:Heap) (a:Addr) (c:Value):Prop :=
 ∃ oe vs a0,h.get? a=some oe/\oe.cls=c/\oe.data=.fields vs/\vs[0]? = some a0/\h0.get? a=none/\H a=none/\vs[1]? = some .none
def Fly (h:Heap) (H:Hp) (h0:Heap) (a:Addr) (c:Value):Prop :=
 ∃ oe vs a0 T oT ts,h.get? a=some oe/\oe.cls=c/\oe.data=.fields vs/\vs[0]? = some a0/\h0.get? a=none/\H a=none/\vs[1]? = some (.ref T)/\T≠a/\h.get? T=some oT/\oT.data=.fields ts/\ts[3]? = some .none/\h0.get? T=none/\H T=none
theorem Fly.back {h h0 h1:Heap} {H:Hp} {a:Addr} {c:Value} (m:Fly h H h1 a c) (k:∀ b o,h0.get? b=some o->∃ o',h1.get? b=some o'):Fly h H h0 a c:=by
 obtain ⟨oe,vs,a0,T,oT,ts,e1,e2,e3,e4,e5,e6,e7,e8,e9,e10,e11,e12,e13⟩:=m
 have nn:∀ b,h1.get? b=none->h0.get? b=none:=fun b z=>by
   cases q:h0.get? b with
   | none=>rfl
   | some o=>obtain ⟨o',z'⟩:=k _ _ q; rw [z] at z'; cases z'
 exact ⟨oe,vs,a0,T,oT,ts,e1,e2,e3,e4,nn _ e5,e6,e7,e8,e9,e10,e11,nn _ e12,e13⟩
structure Flown (P:Program) (w:World) (fs:List Addr) (H0:Hp) (h0:Heap) (H':Hp) (h:Heap) (a:Addr) (c:Value):Prop where
 un:Un fs [] H0 H' h0 h
 hok:HOk P w H' h
 fly:Fly h H' h0 a c
theorem Dr {h base bs:Heap}:∀ {l:List Env},h.FunFrames base l->(∀ b∈frs l,bs.get? b=none)->h.FunFrames bs l
 | [],_,_=>trivial
 | env::r,⟨hk,⟨L,o,hf,hn,ho,hd⟩,hr⟩,k=>by
   refine ⟨hk,⟨L,o,hf,k L (by unfold frs; rw [List.filterMap_cons,hf]; exact List.mem_cons_self),ho,hd⟩,Dr hr fun b hb=>k b ?_⟩
   unfold frs at hb ⊢
   rw [List.filterMap_cons,hf]; exact List.mem_cons_of_mem _ hb
theorem Cd {P:Program} {w:World} {fs:List Addr} {H0 H':Hp} {h0 h h2 base bs:Heap} {l l2:List Env} {hid:List Addr} {a:Addr} {c a0:Value} (un:Un fs [] H0 H' h0 h) (hok:HOk P w H' h) (ha:h0.get? a=none) (hHa:H' a=none)
   (hl:h.FunFrames base l) (hfree:∀ b∈frs l,H' b=none) (hfs:∀ b∈frs l,b∈fs\/h0.get? b=none) (hl2:∀ b∈frs l,b∈frs l2\/h0.get? b=none)
   (hbs:bs=PySem.W.hideAll h (hid++frs l)) (hhid:∀ b∈hid,h0.get? b=none/\H' b=none)
   (st:bs.StaysIn h2) (ff:h2.FunFrames bs l2) (tr:h2.TracedW bs a c a0) (up:h.UpToSlots h2):Flown P w fs H0 h0 H' h2 a c:=by
 have inb:∀ b o,h.get? b=some o->b∉hid->b∉frs l->h2.get? b=some o:=fun b o e n1 n2=>st b o (by
   rw [hbs]; exact PySem.W.hideAll_get _ e fun z=>(List.mem_append.mp z).elim n1 n2)
 have nhid:∀ b o,h0.get? b=some o->b∉hid:=fun b o e z=>by rw [(hhid b z).1] at e; cases e
 have thid:∀ b o,H' b=some o->b∉hid:=fun b o e z=>by rw [(hhid b z).2] at e; cases e
 have tfr:∀ b o,H' b=some o->b∉frs l:=fun b o e z=>by rw [hfree b z] at e; cases e
 have slt:∀ b o,h.get? b=some o->b∈frs l->∃ sl,h2.get? b=some { o with slots:=sl }:=fun b o e hb=>by
   obtain ⟨_,o',ho',hd⟩:=hl.mem hb; rw [e] at ho'; cases ho'; exact up b o e hd
 refine ⟨⟨fun b o e n hb _=>?_,fun b o e n hb _=>?_,un.free,fun b o e _=>?_,un.tups,un.frzs,un.tbls⟩,fun b u e=>?_,?_⟩
 . refine inb b o (un.keep b o e n hb (by simp)) (nhid b o e) fun z=>?_
   rcases hfs b z with q | q
   . exact hb q
   . rw [q] at e; cases e
 . obtain ⟨sl,e1⟩:=un.slot b o e n hb (by simp)
   by_cases hf:b∈frs l
   . obtain ⟨sl2,e2⟩:=slt b _ e1 hf
     exact ⟨sl2,e2⟩
   . exact ⟨sl,inb b _ e1 (nhid b o e) hf⟩
 . obtain ⟨o',e1⟩:=un.there b o e (by simp)
   by_cases hf:b∈frs l
   . obtain ⟨sl2,e2⟩:=slt b _ e1 hf
     exact ⟨_,e2⟩
   . exact ⟨_,inb b _ e1 (nhid b o e) hf⟩
 . refine (hok b u e).stay (fun c' v hc q=>?_) (fun _ q=>q) fun _ _ q=>q
   have ht:∃ o,H' c'=some o:=by
     rcases hc with z | z
     . rw [z]; exact ⟨_,e⟩
     . exact ⟨_,z⟩
   obtain ⟨o,ht⟩:=ht; exact inb c' v q (thid c' o ht) (tfr c' o ht)
 . obtain ⟨oe,vs,T,oT,ts,he,⟨hcls,h0'⟩,hd,h1,hnT,hTe,hT,hdT,h3⟩:=tr
   have nin:∀ o,h.get? T=some o->T∈hid\/T∈frs l:=fun o e=>by
     by_cases z:T∈hid++frs l
     . exact List.mem_append.mp z
     . rw [hbs,PySem.W.hideAll_get _ e z] at hnT; cases hnT
   have hT0:h0.get? T=none:=by
     cases q:h0.get? T with
     | none=>rfl
     | some o =>
       obtain ⟨o',e1⟩:=un.there T o q (by simp)
       rcases nin o' e1 with z | z
       . rw [(hhid T z).1] at q; cases q
       . rcases hl2 T z with z' | z'
         . obtain ⟨_,o2,ho2,hd2⟩:=ff.mem z'
           rw [hT] at ho2; cases ho2
           exact absurd hdT (hd2 _)
         . rw [z'] at q; cases q
   have hTH:H' T=none:=by
     cases q:H' T with
     | none=>rfl
     | some o =>
       obtain ⟨ob,e1⟩:=ObjOk.here (hok T o q); rcases nin ob e1 with z | z
       . rw [(hhid T z).2] at q; cases q
       . rw [hfree T z] at q; cases q
   exact ⟨oe,vs,a0,T,oT,ts,he,hcls,hd,h0',ha,hHa,h1,hTe,hT,hdT,h3,hT0,hTH⟩
noncomputable section
variable {P:Program} {w:World} {M:Model} {A:Around} {E:Value->Shared->Prop} {s:Shared} {env:Env} {outer:List Env} {L a:Addr} {c:Value} {fs:List Addr} {H0 H':Hp} {h0 base:Heap} {Q:Unit->Shared->Prop}
theorem Iq {h:Heap} {l:List Env} (hl:h.FunFrames base l) {hid:List Addr}:h.FunFrames (PySem.W.hideAll h (hid++frs l)) l :=
 Dr hl fun b hb=>PySem.W.hideAll_none _ (List.mem_append_right _ hb)
theorem Wm (hfr:A.frames=some (env::outer)) (hl:s.heap.FunFrames base (env::outer)) (hf:env.frame=some L) (un:Un fs [] H0 H' h0 s.heap) (hok:HOk P w H' s.heap) (m:Made s.heap H' h0 a c)
   (hfree:∀ b∈frs (env::outer),H' b=none) (hfs:∀ b∈frs (env::outer),b∈fs\/h0.get? b=none)
   (h:∀ h',Flown P w fs H0 h0 H' h' a c->Q () { s with heap:=h' }):wpAny M A (leaving env (.ref a)) Q E s:=by
 obtain ⟨oe,vs,a0,e1,e2,e3,e4,e5,e6,e7⟩:=m
 subst e2
 refine wpAny_leaving_firstW (base:=PySem.W.hideAll s.heap ([a]++frs (env::outer))) hfr (Iq hl) hf e1 (fun b o z=>PySem.W.of_hideAll _ z) (PySem.W.hideAll_none _ (by simp)) e3 e7 e4 fun h' hY61=>?_
 obtain ⟨k1,k2,k3,k4⟩:=hY61
 refine h h' ?_
 exact Cd un hok e5 e6 hl hfree hfs (fun b hb=>.inl hb) rfl (fun b hb=>by rw [List.mem_singleton.mp hb]; exact ⟨e5,e6⟩) k1 k2 k3 k4
theorem Fm {h:Heap} {l:List Env} (hl:h.FunFrames base l) (m:Fly h H' h0 a c):∃ T a0,Heap.FlyingW (PySem.W.hideAll h ([a,T]++frs l)) l a c a0 h/\∀ b∈[a,T],h0.get? b=none/\H' b=none:=by
 obtain ⟨oe,vs,a0,T,oT,ts,e1,e2,e3,e4,e5,e6,e7,e8,e9,e10,e11,e12,e13⟩:=m
 refine ⟨T,a0,⟨fun b o z=>PySem.W.of_hideAll _ z,PySem.W.hideAll_none _ (by simp),Iq hl,oe,vs,T,oT,ts,e1,⟨e2,e4⟩,e3,e7,PySem.W.hideAll_none _ (by simp),e8,e9,e10,e11⟩,fun b hb=>?_⟩
 rcases List.mem_cons.mp hb with z | z
 . rw [z]; exact ⟨e5,e6⟩
 . rw [List.mem_singleton.mp z]; exact ⟨e12,e13⟩
theorem Fly.none {h:Heap} (m:Fly h H' h0 a c):h0.get? a=none/\H' a=none:=by
 obtain ⟨oe,vs,a0,T,oT,ts,e1,e2,e3,e4,e5,e6,_⟩:=m
 exact ⟨e5,e6⟩
theorem aX (hfr:A.frames=some (env::outer)) (hl:s.heap.FunFrames base (env::outer)) (hf:env.frame=some L) (F:Flown P w fs H0 h0 H' s.heap a c)
   (hfree:∀ b∈frs (env::outer),H' b=none) (hfs:∀ b∈frs (env::outer),b∈fs\/h0.get? b=none) (hL:h0.get? L=none)
   (h:∀ h',Flown P w fs H0 h0 H' h' a c->Q () { s with heap:=h' }):wpAny M A (leaving env (.ref a)) Q E s:=by
 obtain ⟨T,a0,FW,hh⟩:=Fm hl F.fly
 refine wpAny_leaves_onW hfr hf FW fun h' hY62 k4=>?_
 obtain ⟨k1,_,k2,k3⟩:=hY62
 refine h h' ?_
 refine Cd F.un F.hok F.fly.none.1 F.fly.none.2 hl hfree hfs (l2:=outer) (fun b hb=>?_) rfl hh k1 k2 k3 k4
 unfold frs at hb
 rw [List.filterMap_cons,hf] at hb
 rcases List.mem_cons.mp hb with z | z
 . rw [z]; exact .inr hL
 . exact .inl z
theorem bN (hfr:A.frames=some (env::outer)) (hl:s.heap.FunFrames base (env::outer)) (hf:env.frame=some L) (F:Flown P w fs H0 h0 H' s.heap a c)
   (hfree:∀ b∈frs (env::outer),H' b=none) (hfs:∀ b∈frs (env::outer),b∈fs\/h0.get? b=none)
   (h:∀ h',Flown P w fs H0 h0 H' h' a c->h'.FunFrames base (env::outer)->Q () { s with heap:=h' }):wpAny M A (noteFrame (.ref a) env) (fun _ s2=>wpAny M A (setFlight (.ref a) none) Q E s2) E s:=by
 obtain ⟨T,a0,FW,hh⟩:=Fm hl F.fly
 refine wpAny_looks_onW hfr hf FW fun h2 hH up2=>?_
 refine wpAny_landsW hH fun h3 ⟨k1,_,k2,k3⟩ up3=>h h3 ?_ ?_
 . exact Cd F.un F.hok F.fly.none.1 F.fly.none.2 hl hfree hfs (l2:=env::outer) (fun b hb=>.inl hb) rfl hh k1 k2 k3 (up2.trans up3)
 . refine hl.of_keeps fun b o e hd=>?_
   obtain ⟨sl,e2⟩:=(up2.trans up3) b o e hd; exact ⟨_,e2,rfl⟩
theorem fW {l:List Env} (hl:s.heap.FunFrames base l) (F:Flown P w fs H0 h0 H' s.heap a c) (hfree:∀ b∈frs l,H' b=none) (hfs:∀ b∈frs l,b∈fs\/h0.get? b=none)
   (h:∀ h',Flown P w fs H0 h0 H' h' a c->Q () { s with heap:=h' }):wpAny M A (setFlight (.ref a) none) Q E s:=by
 obtain ⟨T,a0,FW,hh⟩:=Fm hl F.fly
 refine lands_againW FW fun h3 hY63 up3=>?_
 obtain ⟨k1,_,k2,k3⟩:=hY63
 refine h h3 ?_
 exact Cd F.un F.hok F.fly.none.1 F.fly.none.2 hl hfree hfs (l2:=l) (fun b hb=>.inl hb) rfl hh k1 k2 k3 up3
end
def CXe (P:Program) (w:World):CXT:=fun outer H s E e s'=>∃ a c H',e=.ref a/\s'.os=s.os/\AllBare s'.gens/\Flown P w (frs outer) H s.heap H' s'.heap a c/\E c none H'
def Lv (X:Cx) (E:XK):Prop:=∀ (pins:List (Addr×Obj)) (σ:St) (H:Hp) (s:Shared) (a:Addr) (c:Value),Inv X pins σ H s->(Made s.heap H X.s₀.heap a c\/Fly s.heap H X.s₀.heap a c)->E c none H->X.xe (.ref a) s
theorem lv_of {P:Program} {w:World} {K:PySem.W.Frag} {mg:Str->Option Value} {base:Heap} {N:List Str} {qual:Str} {scope:Scope} {f:Addr} {cd:Value} {A:Around} {outer:List Env} {s:Shared} {H:Hp} {E:XK} :
   Lv (Rz (CXe P w) P w K mg base N qual scope f cd A outer s H E) E:=fun pins σ H' s' a c I m hE=>by
 have hL:(envOfC qual scope s.heap.objs.size f cd).frame=some s.heap.objs.size:=rfl
 have hfs:∀ b∈frs (envOfC qual scope s.heap.objs.size f cd::outer),b∈frs outer\/s.heap.get? b=none:=fun b hb=>by
   unfold frs at hb; rw [List.filterMap_cons,hL] at hb; rcases List.mem_cons.mp hb with z | z
   . rw [z]; exact .inr (Heap.get?_none_of_le (Nat.le_refl _))
   . exact .inl z
 have fin:∀ h2,Flown P w (frs outer) H s.heap H' h2 a c->CXe P w outer H s E (.ref a) { s' with heap:=h2 }:=fun h2 F=>⟨a,c,H',rfl,I.os,I.bare,F,hE⟩
 rcases m with m | m
 . exact Wm I.ok.frames I.stack hL I.base I.hok m I.stkFree hfs fin
 . exact aX I.ok.frames I.stack hL ⟨I.base,I.hok,m⟩ I.stkFree hfs (Heap.get?_none_of_le (Nat.le_refl _)) fin
theorem Lv.passes {X:Cx} {E:XK} (L:Lv X E) (hex:X.ex=[]):Sf (CXe X.prog X.w) X E:=fun pins σ H s e s' I hZ7=>by
 obtain ⟨a,c,H',e1,e2,e3,F,hE⟩:=hZ7
 subst e1
 have I':Inv X pins σ H' s':=I.call' (ch:=[]) e2 F.un F.hok e3 (fun b z=>absurd z (by simp))
 refine L pins σ H' s' a c I' (.inr (F.fly.back fun b o z=>?_)) hE
 exact I.base.there b o z (by rw [hex]; simp)
end Sm
end
noncomputable section
namespace Sm
open PySem PySem.Spec PyProof.Rows L2
def spX (n:Nat) (m:List PyData->Res PyData) (CN:Addr):Sp:=fun vs H Q E=>∃ G ds,Same G H/\RepL G ds vs/\ds.length=n/\match m ds with
 | .ok d=>∀ v G' H',Grow G H G' H'->Rep G' d v->Q v H'
 | .exc _=>∀ G' H',Grow G H G' H'->E (.ref CN) none H'
 | .no=>False
structure FnX (P:Program) (w:World) (K:PySem.W.Frag) (mg:Str->Option Value) (base:Heap) (CN:Addr) (x:Str) (k n:Nat) (m:List PyData->Res PyData):Prop where
 ex:∃ f fd ps,ps.length=n/\FnOk P w K mg base (CXe P w) k f fd ps (spX n m CN)/\mg x=some (.ref f)/\PySem.W.keepIn K (.ref f)=true/\Binds K fd ps []
def eX (CN:Addr) (E:XK):EK:=fun _ H=>E (.ref CN) none H
noncomputable section
variable {P:Program} {w:World} {K:PySem.W.Frag} {mg:Str->Option Value} {base:Heap} {X:Cx} {N:List Str} {sc:Scope} {k:Nat} {df:Bool} {E:EK} {pos p:Pos} {a c e:Expr} {es:List Expr} {f g:Dn->Res PyData} {fs:Dn->Res (List PyData)} {x:Str} {CN:Addr} {Ex:XK}
theorem gJ {x:Str} {st:Stmt} {ps:List Str} {n:Nat} {go:Dn->Out} {m:List PyData->Res PyData} (F:Def K mg x st ps) (S:FnScope N ps (A5 st)) (hn:ps.length=n)
   (body:∀ X E,Cxt P w K mg base X N (A5 st) k true->Lv X E->X.ex=[]->DSs X (eX CN E) (B5 st) go) (hm:m=fnD N go):FnX P w K mg base CN x (k+1) n m:=by
 obtain ⟨f,fd,F,hmg,hb⟩:=F.ex
 have kp:=F.kp
 obtain ⟨oc,od,kV,doc,pm,an,cdv,ct,osl,rfl,lk,hcd⟩:=F.ex
 subst hm
 refine ⟨f,_,ps,hn,mQ lk hcd S (fun vs H Q E h=>?_) (fun A outer s H vs Q E hr h=>?_),hmg,kp,hb⟩
 . obtain ⟨G,ds,_,r,hl,_⟩:=h
   rw [<- r.length,hl,hn]
 . obtain ⟨G,ds,hG,r,hl,q⟩:=h
   refine ⟨_,body _ E ⟨rfl,rfl,rfl,rfl,rfl,rfl,rfl,rfl,hr,fun _ _=>rfl,PassesOwn.leaving⟩ lv_of rfl G H,G,_,Gd hG r N,?_⟩
   unfold fnD at q
   cases eg:go (K9 N ds) with
   | rt d'=>rw [eg] at q; exact fun v G' H' g r'=>q v G' H' g r'
   | nx δ=>rw [eg] at q; exact fun σ G' H' S'=>q _ G' H' S'.gr rfl
   | exc c=>rw [eg] at q; exact fun G' H' g=>q G' H' g
   | bk _=>rw [eg] at q; exact (show False from q).elim
   | ct _=>rw [eg] at q; exact (show False from q).elim
   | no=>rw [eg] at q; exact (show False from q).elim
theorem lI {j n:Nat} {m:List PyData->Res PyData} (C:Cxt P w K mg base X N sc k df) (L:Lv X Ex) (hex:X.ex=[]) (F:FnX P w K mg base CN x j n m) (hj:j<=k) (h:okGl sc x=true) (ha:DA X (eX CN Ex) (e::es) n fs)
   (he:starEach (e::es) X.env=(false,eval e X.env)::starEach es X.env:=by rfl) (hpl:(backTo pos (starEach es X.env)).any (·.1)=false:=by rfl):DE X (eX CN Ex) (.Call (.Name x p) (e::es) [] pos) (C5 fs m):=by
 obtain ⟨f,fd,ps,hps,F,hm,hk,hb⟩:=F.ex
 obtain ⟨h1,h2,h3⟩:=okGl.gl C h
 have F':FnOk X.prog X.w X.K X.mg X.base (CXe X.prog X.w) j f fd ps (spX n m CN):=by rw [C.hP,C.hw,C.hK,C.hmg,C.hb]; exact F
 refine PE.imp (Bx F' (C.room.mono hj) h1 (by rw [C.hmg]; exact hm) (by rw [C.hK]; exact hk) (by rw [C.hK]; exact hb) .nil (L.passes hex) ha.pa h2 he hpl) fun σ H Q hY64=>?_
 obtain ⟨G,δ,S,aft⟩:=hY64
 refine O4 (W:=fun G H r=>Aft (eX CN Ex) G H r Q) S aft (fun g a=>Aft.grow g a) (fun c a=>a) (fun a=>a) fun ds vs G1 H1 e g1 r1 S1 a1=>?_
 rw [List.append_nil]
 refine ⟨G1,ds,S1.sub,r1,ha.len δ ds e,?_⟩
 cases q:m ds with
 | ok d=>rw [q] at a1; exact a1
 | exc c=>rw [q] at a1; exact a1
 | no=>rw [q] at a1; exact a1
noncomputable def noX (r:Res PyData):Res PyData:=match r with
 | .ok d=>.ok d
 | _=>.no
noncomputable def Gx (fs:Dn->Res (List PyData)) (m:List PyData->Res PyData):Dn->Res PyData:=fun δ=>(fs δ).bind fun ds=>noX (m ds)
theorem lJ {j n:Nat} {m:List PyData->Res PyData} (C:Cxt P w K mg base X N sc k df) (F:Fn P w K mg base x j n m) (hj:j<=k) (h:okGl sc x=true) (ha:DA X E (e::es) n fs)
   (he:starEach (e::es) X.env=(false,eval e X.env)::starEach es X.env:=by rfl) (hpl:(backTo pos (starEach es X.env)).any (·.1)=false:=by rfl):DE X E (.Call (.Name x p) (e::es) [] pos) (Gx fs m):=by
 obtain ⟨f,fd,ps,hps,F,hm,hk,hb⟩:=F.ex
 obtain ⟨h1,h2,h3⟩:=okGl.gl C h
 have F':FnOk X.prog X.w X.K X.mg X.base CX0 j f fd ps (spD n m):=by rw [C.hP,C.hw,C.hK,C.hmg,C.hb]; exact F
 refine PE.imp (Bx F' (C.room.mono hj) h1 (by rw [C.hmg]; exact hm) (by rw [C.hK]; exact hk) (by rw [C.hK]; exact hb) .nil (Pe (X:=X)) ha.pa h2 he hpl) fun σ H Q hY65=>?_
 obtain ⟨G,δ,S,aft⟩:=hY65
 refine O4 (W:=fun G H r=>Aft E G H r Q) S aft (fun g a=>Aft.grow g a) (fun c a=>a) (fun a=>a) fun ds vs G1 H1 e g1 r1 S1 a1=>?_
 rw [List.append_nil]
 cases q:m ds with
 | ok d=>rw [q] at a1; exact ⟨G1,ds,d,S1.sub,r1,ha.len δ ds e,q,a1⟩
 | exc c=>rw [q] at a1; exact (show False from a1).elim
 | no=>rw [q] at a1; exact (show False from a1).elim
noncomputable def dS (f:Dn->Res PyData):Dn->Out:=fun δ=>I8 (f δ) fun _=>.nx δ
theorem nQ (h:DE X E e f) (hs:swapsWith e none pos.line X.env=pure false:=by rfl):DS X E (.Expr e pos) (dS f):=fun G0 H0=>PS.imp (Jz h hs) fun D σ H ⟨G,δ,S,a⟩ =>
 Ci S a fun d v G1 H1 g1 r1 S1 a1=>a1 σ G1 H1 S1
noncomputable def Dj (d:PyData):Bool:=isDisplay d&&d.showable && !d.hasDict&&decide (d.shown.length<=1000)&&decide (d.depth<=8)
structure ExcAt (K:PySem.W.Frag) (mg:Str->Option Value) (x:Str) (C:Addr):Prop where
 bound:mg x=some (.ref C)
 obj:PySem.W.excIn K C [.type "ValueError",.type "Exception",.type "BaseException",.type "object"] "ValueError.__new__" = true
theorem ExcAt.own {x:Str} {C:Addr} (O:ExcAt K mg x C) {h:Heap} (X:K.In h):OwnCls x C [.type "ValueError",.type "Exception",.type "BaseException",.type "object"] "ValueError.__new__" mg h:=by
 refine ⟨O.bound,?_⟩
 have q:=O.obj
 unfold PySem.W.excIn at q
 split at q
 . rename_i dd cd sl ho
   split at q
   . rename_i C' bm k0 k1 k2 k3 n k5 hm hs
     simp only [Bool.and_eq_true,beq_iff_eq,Bool.not_eq_true'] at q; obtain ⟨⟨⟨⟨⟨rfl,rfl⟩,hdel⟩,ht⟩,hok⟩,hni⟩:=q; obtain ⟨nm,bs,mro,ns,qn,hd,sn,sub,ab,col,del⟩:=cd; dsimp only at hm hdel hok hni; subst hm hdel; have hsl:sl = #[k0,k1,k2,k3,some (.builtin "ValueError.__new__"),k5]:=by
       obtain ⟨l⟩:=sl; simp only at hs; rw [hs]
     subst hsl; exact ⟨bm,ns,nm,qn,bs,hd,sn,sub,ab,col,dd,k0,k1,k2,k3,k5,_,X _ _ ho,.of_isNs (PySem.W.isNs_of_in X hok),PySem.W.nsMap_none_of_in X hok hni,PySem.W.tail_of_in X ht⟩
   . cases q
 . cases q
theorem fmt_r {M:Model} {A:Around} {E:Value->Shared->Prop} {s:Shared} {env:Env} {value:Expr} {pos:Pos} {Q:Value->Shared->Prop}
   (h:wpAny M A (eval value env) (fun v s₁=>wpAny M A (pyReprObj v) (fun u s₂=>wpAny M A (formatField u Str.empty) Q E s₂) E s₁) E s):wpAny M A (eval (.FormattedValue value 114 none pos) env) Q E s:=by
 show wpAny M A (do let v <- eval value env; standAt pos; formatted pos (<- holding [v] (converted 114 v)) none) Q E s
 refine wpAny_bind (wpAny_mono h (fun v s₁ h₁=>?_) fun _ _ x=>x)
 refine wpAny_bind (wpAny_standAt ?_)
 show wpAny _ _ (do let v' <- holding [v] (pyReprObj v); formatField v' Str.empty) Q E s₁
 exact wpAny_bind (wpAny_holding h₁)
end
end Sm
end
noncomputable section
namespace Sm
open PySem PySem.Spec PyProof.Rows L2
noncomputable section
variable {X:Cx} {k:Nat} {E:EK} {p:Pos} {a b c e:Expr} {g:Dn->Res PyData} {i:Nat} {tt:Dn->Res Bool}
noncomputable def cFz (i:Nat) (c:Dn->Res Bool):Dn->Res Bool:=fun δ=>c (fz i δ)
theorem SR.fz {G H:Hp} {σ:St} {δ:Dn} (S:SR G H σ δ) (i:Nat):∃ G',SR G' H σ (fz i δ):=by
 unfold Sm.fz
 split
 . rename_i ds hi
   obtain ⟨p,hp,hg,xs,hx,r⟩:=S.sl i _ hi; have hv:σ[i]? = some (some (.ref p)):=by
     cases q:σ[i]? with
     | none=>rw [q] at hp; cases hp
     | some z=>rw [q] at hp; cases z with
       | none=>cases hp
       | some z=>cases hp; rfl
   have key:∀ (j:Nat) (d':PyData),(δ.set i (.sh (.list ds)))[j]? = some (.ow d')->δ[j]? = some (.ow d')/\j≠i:=fun j d' e=>by
     rw [E2] at e
     split at e
     . cases e
     . rename_i hn
       refine ⟨e,fun z=>?_⟩
       subst z; exact hn ⟨rfl,(List.getElem?_eq_some_iff.mp hi).1⟩
   have sm:Same G (upd G p (.lst xs)):=Same.upd hg; have sub:Same (upd G p (.lst xs)) H:=fun b u e=>by
     by_cases hb:b=p
     . subst hb; rw [B7] at e; rw [hx]; exact e
     . rw [B3 hb] at e; exact S.sub _ _ e
   refine ⟨_,sub,by simp [S.len],fun j s e=>?_,fun j1 j2 a d1 d2 e1 e2 h1 h2=>S.ap j1 j2 a d1 d2 (key j1 d1 e1).1 (key j2 d2 e2).1 h1 h2⟩
   by_cases hj:i=j/\i < δ.length
   . rw [E2,if_pos hj] at e
     cases e; rw [<- hj.1,hv]; exact ⟨_,rfl,p,xs,rfl,.inl B7,r.mono sm⟩
   . have e2:=e
     rw [E2,if_neg hj] at e2; have hs:=S.sl j s e2
     cases s with
     | un=>trivial
     | sh d=>obtain ⟨v,e1,r1⟩:=hs; exact ⟨v,e1,r1.mono sm⟩
     | fd _=>exact FdOk.mono sm hs
     | ow d2 =>
       obtain ⟨a,e1,n1,ok⟩:=hs; have hne:a≠p:=by
         rintro rfl
         exact (key j d2 e).2 (S.ap j i a d2 _ e2 hi e1 hp)
       refine ⟨a,e1,by rw [B3 hne]; exact n1,?_⟩
       cases d2 with
       | list ds=>obtain ⟨xs,q,r⟩:=ok; exact ⟨xs,q,r.mono sm⟩
       | dict kvs=>obtain ⟨xs,q,k,r⟩:=ok; exact ⟨xs,q,k,r.mono sm⟩
       | tuple xs=>exact OwnK.keep sm (fun o q=>q) ok
       | _=>exact (show False from ok).elim
 . exact ⟨G,S⟩
theorem Vs (i:Nat) (h:DT X E c tt):DT X E c (cFz i tt):=PT.imp h fun σ H Q hZ3=>by
 obtain ⟨G,δ,S,a⟩:=hZ3
 obtain ⟨G',S'⟩:=S.fz i
 refine ⟨G',_,S',?_⟩
 unfold cFz at a
 cases e:tt (fz i δ) with
 | ok d=>rw [e] at a; exact fun G2 H2 g=>a G H2 ⟨Same.refl _,g.h,S.sub.trans g.h,fun _ _ z=>.inl z⟩
 | exc c=>rw [e] at a; exact fun G2 H2 g=>a G H2 ⟨Same.refl _,g.h,S.sub.trans g.h,fun _ _ z=>.inl z⟩
 | no=>rw [e] at a; exact a
end
end Sm
end
noncomputable section
namespace Sm
open PySem PySem.Spec
theorem Rp:typeLookup (.type "list") "keys" = pure none:=by
 rw [typeLookup_type,builtinLookup_eq_fast]; kernel_rfl
theorem Rq:typeLookup (.type "list") "__getattr__" = pure none:=by
 rw [typeLookup_type,builtinLookup_eq_fast]; kernel_rfl
noncomputable section
variable {prog:Program} {w:World} {A:Around} {E:Value->Shared->Prop} {h:Heap} {g:Array GenState} {d:Drawn} {t:Nat} {os:OsState} {a:Addr} {vs:Array Value} {n:Nat}
theorem aZ {tk:Tok} {Q:Fin->Shared->Prop} (hA:A.handled=none) (hx:h.get? a=some { cls:=.type "list",data:=.seq vs n })
   (hq:∀ h' tk' e,Heap.NewAttrErr h h' e (.ref a) "keys" -> E (.ref e) ⟨h',g,d,tk',os⟩) :
   wpAny (model prog w) A (Builtin.«object.__getattribute__» ⟨[.ref a,.str "keys" tk],[]⟩) Q E ⟨h,g,d,t,os⟩:=by
 have hT:(⟨h,g,d,t,os⟩:Shared).TypeIs (.ref a) "list" := ⟨_,hx,rfl⟩
 have f4:=Rp
 unfold Builtin.«object.__getattribute__»
 repeat (any_goals (first | assumption | wp_step))
 exact wpAny_raiseAttrError hA hq (attrMsg_fits (by decide +kernel) (by decide))
theorem aY {Q:Option Value->Shared->Prop} (hA:A.handled=none) (hx:h.get? a=some { cls:=.type "list",data:=.seq vs n })
   (hq:∀ h' tk',(∀ b o,h.get? b=some o->h'.get? b=some o)->Q none ⟨h',g,d,tk',os⟩):wpAny (model prog w) A (getAttr? (.ref a) "keys") Q E ⟨h,g,d,t,os⟩:=by
 have hT:∀ s':Shared,s'.heap=h->s'.TypeIs (.ref a) "list" := fun s' e=>⟨_,by rw [e]; exact hx,rfl⟩
 have f1:=sub_AttributeError
 have f2:=F.slot_list_getattribute.lookup
 have f3:=F.slot_list_getattribute.bind (.ref a)
 have f5:=Rq
 unfold getAttr? getAttrBy? getAttrBy
 refine wpAny_bind (wpAny_mkText (wpAny_bind (wpAny_attempt ?_)))
 have hT1:=hT ⟨h,g,d,t+1,os⟩ rfl
 repeat (any_goals (first | assumption | wp_step))
 refine codeAny_call_builtin F.slot_list_getattribute.plain F.entry_list_ga
   (F.slot_list_getattribute.check _ _ _ _ _ _ _ _ hT1 (F.args_list_getattribute_2 _ _)
     (aZ hA hx fun h' tk' e hx'=>?_))
 obtain ⟨t',u',he⟩:=hx'.there
 have kp:=hx'.keeps
 show wpAny _ _ (getattributeRaised _ _ _ _ _ _ _) _ _ _
 unfold getattributeRaised
 repeat (any_goals (first | assumption | wp_step))
 exact hq _ _ kp
end
end Sm
end
noncomputable section
namespace Sm
open PySem PySem.Spec PyProof.Rows L2
theorem Cw:entryFor table "dict.update.loop" = some Builtin.«dict.update.loop» := entryFor_of_tree (by kernel_rfl)
theorem Cu:plainId "dict.update.loop" = true:=by decide +kernel
end Sm
end
noncomputable section
namespace Sm
open PySem PySem.Spec PySem.Calls PyProof.Rows PySem.W Builtin Builtin.ObjectAttr Builtin.Getset_descriptor
structure XCls (K:Frag) (D:Addr):Prop where
 cls:(clsIn K D).isSome=true
 ga:findIn K (.ref D) "__getattribute__" = some (some (.builtin "BaseException.__getattribute__"))
 sb:subIn K (.ref D) (.type "BaseException")=some true
 gh:findIn K (.ref D) "__getattr__" = some none
 cl:findIn K (.ref D) "__class__" = some (some (.builtin "object.__class__"))
 gt:specialIn K (.builtin "object.__class__") "__get__" = some (some (.builtin "getset_descriptor.__get__"))
 tk:takesIn K (.builtin "object.__class__")=some true
 ob:mroIn K D (.type "object")=some true
def ExcAt' (x D:Addr) (h:Heap):Prop:=∃ o,h.get? x=some o/\o.cls=.ref D
noncomputable section
variable {K:Frag} {x D:Addr}
theorem ExcAt'.ty {M:Model} {h:Heap} (e:ExcAt' x D h):Looks M h (typeOf (.ref x)) (.ref D):=by
 obtain ⟨o,e,c⟩:=e
 exact c▸(Looks.ld e).andThen .now
theorem Wq {M:Model} {h:Heap} (C:XCls K D) (X:K.In h):Looks M h (find (.ref x) (.ref D) "__class__") (.bind (.builtin "getset_descriptor.__get__") (.builtin "object.__class__")):=by
 have a1:=looks_findIn (M:=M) X C.cl
 have a2:Looks M h (getOf (some (.builtin "object.__class__"))) (some (.builtin "getset_descriptor.__get__")):=looks_specialIn X C.gt
 have a3:Looks M h (dataDescriptor? (some (.builtin "object.__class__")) (some (.builtin "getset_descriptor.__get__"))) (some (.builtin "getset_descriptor.__get__",.builtin "object.__class__")):=(looks_takesIn X C.tk).andThen .now
 exact a1.andThen (a2.andThen (a3.andThen (Looks.tag .now)))
noncomputable section
variable {prog:Program} {w:World} {A:Around} {s:Shared}
theorem Oh {R:Result->Shared->Prop} {tp:Value} (C:XCls K D) (X:K.In s.heap) (I:ExcAt' x D s.heap) (h:R (.ok (.ret (.ref D))) s) :
   codeAny (model prog w) A (.call (.builtin "getset_descriptor.__get__") ⟨[.builtin "object.__class__",.ref x,tp],[]⟩) R s:=by
 obtain ⟨h0,gs,dr,tks,os⟩:=s
 have l0:=I.ty (M:=model prog w)
 have l1:=looks_mroIn (M:=model prog w) X C.ob
 refine codeAny_call_builtin KF.slot_gs.plain KF.entry_gs
   (KF.slot_gs.check _ _ _ _ _ _ _ _ KF.type_class (KF.args_gs _ _ _) ?_)
 unfold Builtin.«getset_descriptor.__get__»
 unfold descrGet
 rw [dga_obj]
 refine wpAny_bind (wpAny_pure ?_)
 unfold descrGetter descrCheckInstance
 unfold descrNameAndClass isInstance
 simp only [KF.owner_class]
 repeat lk
 refine ⟨Code.quiet_builtin _ (by decide +kernel),?_⟩
 refine codeAny_builtin KF.entry_class ?_
 unfold Builtin.«object.__class__»
 unfold shownTypeOf
 repeat lk
 exact h
theorem bG {M:Model} {E:Value->Shared->Prop} {nv:Value} {Q:Unit->Shared->Prop} (C:XCls K D) (X:K.In s.heap) (I:ExcAt' x D s.heap) (hq:Q () s):wpAny M A (checkBuiltinCall "BaseException.__getattribute__" ⟨[.ref x,nv],[]⟩) Q E s:=by
 obtain ⟨h0,gs,dr,tks,os⟩:=s
 have l0:=I.ty (M:=M)
 have l4:=looks_subIn (M:=M) X C.sb
 have kd:builtinKind "BaseException.__getattribute__" = some .slot:=by decide +kernel
 have sp:splitId "BaseException.__getattribute__" = some ("BaseException", "__getattribute__"):=by decide +kernel
 have ha:=PySem.F.args_bexc_ga (.ref x) nv
 simp only [checkBuiltinCall,kd,sp]
 refine wpAny_bind ?_
 unfold isInstance
 refine wpAny_bind (l0.at (l4.at ?_))
 repeat wp_step
 exact hq
theorem bH {E:Value->Shared->Prop} {Q:Option Value->Shared->Prop} (C:XCls K D) (X:K.In s.heap) (I:ExcAt' x D s.heap) (h:Q (some (.ref D)) { s with toks:=s.toks+1 }) :
   wpAny (model prog w) A (getAttr? (.ref x) "__class__") Q E s:=by
 obtain ⟨h0,gs,dr,tks,os⟩:=s
 have l0:=I.ty (M:=model prog w)
 have l1:=looks_findIn (M:=model prog w) X C.ga
 have l2:=Wq (M:=model prog w) (x:=x) C X
 have l3:=looks_findIn (M:=model prog w) X C.gh
 have f3:=PySem.F.attr_ValueError.ga.bind (.ref x)
 unfold getAttr? getAttrBy? getAttrBy
 refine wpAny_bind (wpAny_mkText (wpAny_bind (wpAny_attempt (wpAny_holding
   (wpAny_bind (l0.at (wpAny_bind (l1.at ?_))))))))
 show wpAny _ _ (getAttrByItsOwn _ _ _ _ _ _) _ _ _
 unfold getAttrByItsOwn
 refine wpAny_bind ?_
 show wpAny _ _ (typeLookup _ _) _ _ _
 refine l3.at (wpAny_bind (wpAny_attempt (wpAny_holding ?_)))
 show wpAny _ _ (boundAndCalled _ _ _) _ _ _
 unfold boundAndCalled
 rw [f3]
 refine wpAny_bind (wpAny_pure (wpAny_call (codeAny_call_builtin PySem.F.attr_ValueError.ga.plain PySem.F.entry_bexc_ga (bG C X I ?_))))
 show wpAny _ _ (slotArgs "__getattribute__" 1 ⟨[.ref x,.str "__class__" tks],[]⟩>>=_) _ _ _
 refine wpAny_bind (wpAny_pure ?_)
 refine wpAny_bind (wpAny_pure (wpAny_bind (l0.at (wpAny_bind (l2.at ?_)))))
 show wpAny _ _ (holding [.builtin "object.__class__"] (call (.builtin "getset_descriptor.__get__") [.builtin "object.__class__",.ref x,.ref D])>>=ret) _ _ _
 refine wpAny_bind (wpAny_holding (wpAny_call (Oh C X I ?_)))
 exact wpAny_pure (handed_on rfl (wpAny_pure h))
end
theorem fX (C:XCls K D):KitX K (.ref x) (.ref D) (ExcAt' x D) where
 ty:=fun _ _ _ I=>I.ty
 it:=fun M h X _=>by
   have c:=C.cls; unfold clsIn at c
   split at c
   . rename_i ho
     intro A Q E s k q; unfold isType loadHead; exact wpAny_bind (wpAny_loadPart (k _ _ (X _ _ ho)) (wpAny_pure q))
   . cases c
 ne:=fun h tp dd its n sl X htp=>by
   refine Bool.eq_false_iff.mpr fun q=>?_
   have e:D=tp:=Value.ref.inj (beq_iff_eq.mp q); subst e; have c:=C.cls; unfold clsIn at c
   split at c
   . rename_i ho
     have z:=(X _ _ ho).symm.trans htp; cases z
   . cases c
 ca:=fun X I k=>bH C X I k
end
theorem Uk {K:Frag} {M:Model} {A:Around} {E:Value->Shared->Prop} {s:Shared} {a CN CM:Addr} {Q:Bool->Shared->Prop} (X:K.In s.heap) (I:ExcAt' a CN s.heap)
   (h1:subIn K (.ref CN) (.ref CM)=some true) (h2:instIn K (.ref CM) (.type "tuple")=some false) (h3:(clsIn K CM).isSome=true) (h4:subIn K (.ref CM) (.type "BaseException")=some true) (q:Q true s) :
   wpAny M A (excMatches (.ref a) (.ref CM)) Q E s:=by
 obtain ⟨h0,gs,dr,tks,os⟩:=s
 have l0:=I.ty (M:=M)
 have l1:=looks_subIn (M:=M) X h1
 have l2:=looks_instIn (M:=M) X h2
 have l4:=looks_subIn (M:=M) X h4
 have l3:Looks M h0 (isType (.ref CM)) true:=by
   unfold clsIn at h3
   split at h3
   . rename_i ho
     intro A Q E s k q; unfold isType loadHead; exact wpAny_bind (wpAny_loadPart (k _ _ (X _ _ ho)) (wpAny_pure q))
   . cases h3
 have l5:Looks M h0 (isExcClass (.ref CM)) true:=by
   unfold isExcClass; exact l3.andThen (by simpa using l4)
 unfold excMatches
 repeat lk
 exact q
end Sm
end
noncomputable section
namespace Sm
open PySem PySem.Spec PyProof.Rows L2
def inX (X:Cx) (a:Addr):Cx:={ X with A:=X.A.mark (some (.ref a)),calm:=false,xe:=fun _ _=>False }
noncomputable section
variable {X:Cx} {pins:List (Addr×Obj)} {σ:St} {H:Hp} {s:Shared} {a:Addr}
theorem Inv.inX (I:Inv X pins σ H s) (a:Addr):Inv (inX X a) pins σ H s :=
 ⟨⟨I.ok.mod,I.ok.kind,I.ok.glob,I.ok.blt,I.ok.above,I.ok.inj,I.ok.has,I.ok.cab,(fun z=>by cases z),I.ok.frames,I.ok.stk,I.ok.exf,I.ok.bs,I.ok.bsz,I.ok.noex,I.ok.exfs,I.ok.funs,I.ok.frf⟩,I.os,I.bare,I.base,I.loc,I.cell,I.free,I.freeC,I.pin,I.hok,I.len⟩
theorem Inv.outX (I:Inv (Sm.inX X a) pins σ H s) (ok:X.Ok):Inv X pins σ H s:=⟨ok,I.os,I.bare,I.base,I.loc,I.cell,I.free,I.freeC,I.pin,I.hok,I.len⟩
theorem Inv.forget {h':Heap} {t':Nat} {m':Str->Option Value} (I:Inv X pins σ H s) (hn:h'.Ns X.env.locals m') (hs:Heap.SameBut X.env.locals s.heap h'):Inv X pins (List.replicate X.N.length none) H { s with heap:=h',toks:=t' }:=by
 have ne0:∀ b o,X.s₀.heap.get? b=some o->b≠X.env.locals:=fun b o e=>Nat.ne_of_lt (Nat.lt_of_lt_of_le (Heap.lt_size e) I.ok.above)
 refine ⟨I.ok,I.os,I.bare,⟨fun b o e n hb hx=>(hs.2 b (ne0 b o e)).trans (I.base.keep b o e n hb hx),fun b o e n hb hx=>?_,I.base.free,fun b o e hx=>?_,I.base.tups,I.base.frzs,I.base.tbls⟩,⟨m',hn,fun i x v e1 e2 e3=>?_⟩,fun x c e=>?_,I.free,I.freeC,fun p hp=>?_,fun b ob e=>?_,by simp⟩
 . obtain ⟨sl,e1⟩:=I.base.slot b o e n hb hx
   exact ⟨sl,(hs.2 b (ne0 b o e)).trans e1⟩
 . obtain ⟨o',e1⟩:=I.base.there b o e hx
   exact ⟨o',(hs.2 b (ne0 b o e)).trans e1⟩
 . rw [List.getElem?_replicate] at e2
   split at e2 <;> cases e2
 . obtain ⟨v,z⟩:=I.cell x c e
   exact ⟨v,z.sameBut hs (I.cne x c e)⟩
 . obtain ⟨e,n,ne,nf,d⟩:=I.pin p hp
   exact ⟨(hs.2 p.1 ne).trans e,n,ne,nf,d⟩
 . refine (I.hok b ob e).stay (fun c w' hc q=>(hs.2 c ?_).trans q) (fun _ q=>q) fun _ _ q=>q
   intro z; have hL:=I.free; rcases hc with r | r
   . rw [<- z,r,e] at hL; cases hL
   . rw [<- z,r] at hL; cases hL
noncomputable def clsV:V->Option Value
 | .ref C=>some (.ref C)
 | .ty T=>some (.type T)
 | _=>none
noncomputable def nY (K:PySem.W.Frag) (a D:Addr):List V->Hp->VK->Prop:=fun vs H Q=>∃ c cv b,vs=[.ref a,c]/\clsV c=some cv/\H a=some (.ext (ExcAt' a D))/\PySem.W.kitOne K (.ref D) cv=some b/\Q (.bl b) H
theorem Uy {D:Addr} (C:XCls X.K D):Ac X (.builtin "isinstance") (nY X.K a D):=by
 rintro pins s σ H xs us Q I r ⟨c,cv,b,e0,ec,hH,hk,q⟩
 subst e0
 cases r with
 | cons r0 rr =>
   cases rr with
   | cons r1 rr =>
     cases rr; obtain ⟨rfl⟩:=(show _=Value.ref a from r0)
     rename_i u2
     have e2:u2=cv:=by
       cases c with
       | ref q=>cases ec; exact (show _=Value.ref q from r1)
       | ty q=>cases ec; exact (show _=Value.type q from r1)
       | _=>cases ec
     subst e2; obtain ⟨φ,_,_⟩:=(show ObjOk X.prog X.w H s.heap a (.ext (ExcAt' a D)) from I.hok a _ hH)
     exact PySem.W.kia_one (fX C) I.kIn φ hk (fun z=>nomatch z) fun tk=>⟨.bl b,H,I.tok tk,rfl,q⟩
theorem Uj {P:Program} {w:World} {fs:List Addr} {H0 H':Hp} {h0 h:Heap} {a CN:Addr} (F:Flown P w fs H0 h0 H' h a (.ref CN)):Un fs [] H0 (upd H' a (.ext (ExcAt' a CN))) h0 h/\HOk P w (upd H' a (.ext (ExcAt' a CN))) h:=by
 obtain ⟨oe,vs,a0,T,oT,ts,e1,e2,e3,e4,e5,e6,_⟩:=F.fly
 have nt:∀ b o,H' b=some o->b≠a:=fun b o e z=>by rw [z,e6] at e; cases e
 refine ⟨⟨F.un.keep,F.un.slot,fun b o e n hx=>?_,F.un.there,fun b xs q=>?_,fun b o u q=>?_,fun b ps q=>?_⟩,fun b u q=>?_⟩
 . have:b≠a:=fun z=>by rw [z,e5] at e; cases e
   rw [B3 this]; exact F.un.free b o e n hx
 . have:=F.un.tups b xs q
   rw [B3 (nt _ _ this)]; exact this
 . have:=F.un.frzs b o u q
   rw [B3 (nt _ _ this)]; exact this
 . obtain ⟨more,this⟩:=F.un.tbls b ps q
   exact ⟨more,by rw [B3 (nt _ _ this)]; exact this⟩
 . by_cases hb:b=a
   . subst hb
     rw [B7] at q; cases q; refine ⟨⟨oe,e1,e2⟩,⟨oe,e1⟩,fun h1 h2 hZ2 k=>by obtain ⟨o,z1,z2⟩:=hZ2; exact ⟨o,k o z1,z2⟩⟩
   . rw [B3 hb] at q
     exact (F.hok b u q).stay (fun _ _ _ z=>z) (fun c z=>by rw [B3 (nt _ _ z)]; exact z) fun c xs z=>by rw [B3 (nt _ _ z)]; exact z
end
noncomputable section
variable {N:List Str} {sc:Scope}
theorem okVar.at {i:Nat} {x:Str} (h:okVar N sc i x=true):N[i]? = some x/\Vis sc x/\(x==("__debug__" : Str))=false/\(x==("__classdict__" : Str))=false:=by
 unfold okVar at h
 simp only [Bool.and_eq_true,Bool.not_eq_true'] at h
 obtain ⟨⟨⟨h1,h2⟩,h3⟩,h4⟩:=h
 refine ⟨eq_of_beq h1,?_,h3,h4⟩
 unfold Vis
 cases q:sc.names.lookup x with
 | none=>rw [q] at h2; cases h2
 | some z =>
   rw [q] at h2
   cases z with
   | «local» => exact .inl rfl
   | cell=>exact .inr (.inl rfl)
   | free=>exact .inr (.inr rfl)
   | _=>cases h2
end
end Sm
end
noncomputable section
namespace Sm
open PySem PySem.SetTable
theorem few:∀ (n:Nat) (L:List Nat),(∀ e,e < n->e∈L)->n<=L.length
 | 0,_,_=>Nat.zero_le _
 | n+1,L,h=>by
   have a:=h n (by lia)
   have b:=few n (L.erase n) (fun e he=>(List.mem_erase_of_ne (by lia)).mpr (h e (by lia)))
   have c:=List.length_erase_of_mem a; have d:=List.length_pos_of_mem a
   lia
theorem room {L:List Nat} {mask:Nat} (h:L.length<=mask):∃ e,e<=mask/\e∉L:=by
 by_cases c:∃ e,e<=mask/\e∉L
 . exact c
 . have:=few (mask+1) L (fun e he=>Classical.byContradiction fun hn=>c ⟨e,by lia,hn⟩)
   lia
end Sm
end
noncomputable section
namespace Sm
open PySem PySem.SetTable
end Sm
end
noncomputable section
namespace Sm
open PySem PySem.SetTable
end Sm
end
noncomputable section
namespace Sm
open PySem PySem.SetTable
end Sm
end
noncomputable section
namespace Sm
open PySem PySem.SetTable
structure Elems (prog:Program) (w:World) (A:Around) (E:Value->Shared->Prop) (a:Addr) where
 D:Type
 dec:DecidableEq D
 I:Shared->Prop
 R:Value->D->Prop
 hash:D->Int
 heap:∀ {s:Shared} {h':Heap},I s->Heap.SameBut a s.heap h'->I { s with heap:=h' }
 toks:∀ {s:Shared} (tk:Nat),I s->I { s with toks:=tk }
 ref:∀ {v:Value} {d:D},R v d->∃ b,v=.ref b
 eqB:∀ {s:Shared} {y x:Value} {d d':D} {Q:Bool->Shared->Prop},I s->R y d->R x d'->Q (@decide (d=d') (dec d d')) s->wpAny (model prog w) A (eqBool y x) Q E s
 byV:∀ {s:Shared} {x:Value} {d:D} {Q:Bool->Shared->Prop},I s->R x d->(∀ b,Q b s)->wpAny (model prog w) A (hashByValue 8 x) Q E s
 seen:∀ {s:Shared} {x:Value} {d:D} {ys:List Value} {Q:Bool->Shared->Prop},I s->R x d->(∀ y,y∈ys->∃ d',R y d')->Q false s->wpAny (model prog w) A (searchCouldBeSeen x ys) Q E s
end Sm
end
noncomputable section
namespace Sm
open PySem PySem.SetTable
end Sm
end
noncomputable section
namespace Sm
open PySem PySem.SetTable
open L2 (isK Fj Uh Ec)
mutual
theorem eqvK:∀ (a b:PyData),isK a=true->isK b=true->(PyData.eqv a b=true↔a=b)
 | .int i,.int j,_,_=>by simp [PyData.eqv]
 | .str x,.str y,_,_=>by simp [PyData.eqv]
 | .tuple xs,.tuple ys,ha,hb=>by
   simp only [PyData.eqv,PyData.tuple.injEq]; exact mT xs ys (by simpa [isK] using ha) (by simpa [isK] using hb)
 | .int _,.str _,_,_ | .int _,.tuple _,_,_ | .str _,.int _,_,_ | .str _,.tuple _,_,_ | .tuple _,.int _,_,_ | .tuple _,.str _,_,_=>by simp [PyData.eqv]
 | .none,_,h,_ | .bool _,_,h,_ | .list _,_,h,_ | .dict _,_,h,_=>by simp [isK] at h
 | .int _,.none,_,h | .int _,.bool _,_,h | .int _,.list _,_,h | .int _,.dict _,_,h=>by simp [isK] at h
 | .str _,.none,_,h | .str _,.bool _,_,h | .str _,.list _,_,h | .str _,.dict _,_,h=>by simp [isK] at h
 | .tuple _,.none,_,h | .tuple _,.bool _,_,h | .tuple _,.list _,_,h | .tuple _,.dict _,_,h=>by simp [isK] at h
theorem mT:∀ (a b:List PyData),Fj a=true->Fj b=true->(PyData.eqvAll a b=true↔a=b)
 | [],[],_,_=>by simp [PyData.eqvAll]
 | [],_::_,_,_=>by simp [PyData.eqvAll]
 | _::_,[],_,_=>by simp [PyData.eqvAll]
 | x::xs,y::ys,ha,hb=>by
   simp only [Fj,Bool.and_eq_true] at ha hb; simp only [PyData.eqvAll,Bool.and_eq_true,List.cons.injEq]; rw [eqvK x y ha.1 hb.1,mT xs ys ha.2 hb.2]
end
noncomputable section
variable {prog:Program} {w:World} {E:Value->Shared->Prop}
mutual
theorem Mm:∀ (k:PyData) (v:Value) (as:List Addr) (A:Around) (s:Shared) (Q:Int->Shared->Prop),isK k=true->Reads s.heap v k as->A.units+k.depth < cLine ->
   (∀ tk,s.toks<=tk->Q (Uh w k) { s with toks:=tk })->wpAny (model prog w) A (pyHash v) Q E s
 | .int i,_,_,A,s,Q,_,x,_,h=>by cases x; exact wpAny_pyHash_int (h _ (Nat.le_succ _))
 | .str y,_,_,A,s,Q,_,x,_,h=>by cases x; exact wpAny_pyHash_str (h _ (Nat.le_succ _))
 | .tuple xs,_,_,A,s,Q,hk,x,hu,h=>by
   cases x with
   | tuple hg hc hd hr =>
     rename_i _ a o vs n
     refine PySem.W.pyHash_slot (T := "tuple") ⟨_,hg,hc⟩ F.slot_tuple_hash F.entry_tuple_hash (F.args_tuple_hash_1 _) (beq_builtin_none _) (.inr (by lia)) ?_
     show wpAny _ _ (Builtin.Tuple.tupleItemsOf (.ref a)>>=_) _ _ s
     refine wpAny_bind (wpAny_tupleItemsOf hg hd ?_); refine wpAny_bind ?_; rw [<- Array.forIn_toList]; refine Pn xs _ _ A.in1 s #[] _ (by simpa [isK] using hk) hr (by simp only [PyData.depth,Around.in1_units] at hu ⊢; lia) fun tk b ht hb=>?_
     show wpAny _ _ (retInt (Builtin.Tuple.tupleHashOf b.toList)) _ _ _
     rw [hb]; exact wpAny_bind (wpAny_mkInt (wpAny_pure ⟨_,_,rfl,h _ (Nat.le_succ_of_le ht)⟩))
 | .none,_,_,_,_,_,hk,_,_,_ | .bool _,_,_,_,_,_,hk,_,_,_ | .list _,_,_,_,_,_,hk,_,_,_ | .dict _,_,_,_,_,_,hk,_,_,_=>by simp [isK] at hk
theorem Pn:∀ (xs:List PyData) (vs:List Value) (as:List Addr) (A:Around) (s:Shared) (b:Array Int) (Q:Array Int->Shared->Prop),Fj xs=true->ReadsAll s.heap vs xs as ->
   A.units+PyData.depthAll xs < cLine->(∀ tk b',s.toks<=tk->b'.toList=b.toList++Ec w xs->Q b' { s with toks:=tk }) ->
   wpAny (model prog w) A (forIn vs b fun x r=>do let h <- pyHash x; pure PUnit.unit; pure (ForInStep.yield (r.push h))) Q E s
 | [],_,_,A,s,b,Q,_,x,_,h=>by cases x; exact wpAny_pure (h s.toks b (Nat.le_refl _) (by simp [Ec]))
 | k::xs,_,_,A,s,b,Q,hk,x,hu,h=>by
   cases x with
   | cons x1 x2 =>
     simp only [Fj,Bool.and_eq_true,PyData.depthAll] at hk hu; rw [List.forIn_cons]; refine wpAny_bind (wpAny_bind (Mm k _ _ A s _ hk.1 x1 (by lia) fun tk ht=>?_))
     refine wpAny_bind (wpAny_pure (wpAny_pure ?_)); exact Pn xs _ _ A _ _ Q hk.2 x2 (by lia) fun tk' b' ht' hb=>h tk' b' (Nat.le_trans ht ht') (by simp [hb,Ec])
end
end
noncomputable section
variable {prog:Program} {w:World} {A:Around} {E:Value->Shared->Prop}
mutual
theorem Ip:∀ (fuel:Nat) (k:PyData) (v:Value) (as:List Addr) (s:Shared) (Q:Bool->Shared->Prop),isK k=true->k.depth<=fuel->Reads s.heap v k as->Q true s ->
   wpAny (model prog w) A (eqIsQuiet fuel v) Q E s
 | fuel,.int _,_,_,s,Q,_,_,x,h=>by cases x; rw [eqIsQuiet_byValue _ rfl]; exact wpAny_pure h
 | fuel,.str _,_,_,s,Q,_,_,x,h=>by cases x; rw [eqIsQuiet_byValue _ rfl]; exact wpAny_pure h
 | 0,.tuple _,_,_,s,Q,_,hd,x,h=>by simp [PyData.depth] at hd
 | fuel+1,.tuple xs,_,_,s,Q,hk,hdp,x,h=>by
   cases x with
   | tuple hg hc hd hr =>
     rename_i _ a o vs n
     have hT:s.TypeIs (.ref a) "tuple" := ⟨_,hg,hc⟩; unfold eqIsQuiet; refine wpAny_bind (wpAny_specialOf hT F.slot_tuple_eq.lookup ?_); show wpAny _ _ (isInstance (.ref a) (.type "tuple")>>=_) _ _ s
     refine wpAny_bind (wpAny_isInstance hT isSubtype_tuple_tuple ?_); simp only [Bool.not_true,Bool.false_eq_true,if_false]; refine wpAny_bind (wpAny_seqItems hg hd ?_); refine wpAny_bind ?_; show wpAny _ _ (forIn vs _ _) _ _ s
     rw [<- Array.forIn_toList]; refine Lw fuel xs _ _ s _ (by simpa [isK] using hk) (by simp only [PyData.depth] at hdp; lia) hr ?_
     exact wpAny_pure h
 | _,.none,_,_,_,_,hk,_,_,_ | _,.bool _,_,_,_,_,hk,_,_,_ | _,.list _,_,_,_,_,hk,_,_,_ | _,.dict _,_,_,_,_,hk,_,_,_=>by simp [isK] at hk
theorem Lw:∀ (fuel:Nat) (xs:List PyData) (vs:List Value) (as:List Addr) (s:Shared) (Q:Option Bool×Unit->Shared->Prop),Fj xs=true->PyData.depthAll xs<=fuel->ReadsAll s.heap vs xs as ->
   Q (none,()) s ->
   wpAny (model prog w) A (forIn vs ((none,()):Option Bool×Unit) fun x r=>do
     let b <- eqIsQuiet fuel x
     if (!b)=true then pure (ForInStep.done (some false,())) else do
       pure PUnit.unit
       pure (ForInStep.yield (none,()))) Q E s
 | _,[],_,_,s,Q,_,_,x,h1=>by cases x; exact wpAny_pure h1
 | fuel,k::xs,_,_,s,Q,hk,hdp,x,h1=>by
   cases x with
   | cons x1 x2 =>
     simp only [Fj,Bool.and_eq_true,PyData.depthAll] at hk hdp; rw [List.forIn_cons]; refine wpAny_bind (wpAny_bind (Ip fuel k _ _ s _ hk.1 (by lia) x1 ?_))
     simp only [Bool.not_true,Bool.false_eq_true,if_false]; exact wpAny_pure (Lw fuel xs _ _ s Q hk.2 (by lia) x2 h1)
end
end
end Sm
end
noncomputable section
namespace Sm
open PySem PySem.Spec PyProof.Rows L2
noncomputable section
variable {P:Program} {w:World} {K:PySem.W.Frag} {mg:Str->Option Value} {base:Heap} {X:Cx} {N:List Str} {sc:Scope} {k:Nat} {df:Bool} {E:EK} {pos p p2:Pos} {a b c e:Expr} {f g:Dn->Res PyData} {x:Str} {i:Nat}
noncomputable def gA:PyData->Bool
 | .none=>true
 | .bool _=>true
 | .int _=>true
 | .str _=>true
 | _=>false
theorem Rep.atom {G G':Hp} {d:PyData} {v:V} (r:Rep G d v) (h:gA d=true):Rep G' d v:=by
 cases d with
 | none=>exact r
 | bool _=>exact r
 | int _=>exact r
 | str _=>exact r
 | _=>cases h
noncomputable def vFz (i:Nat) (f:Dn->Res PyData):Dn->Res PyData:=fun δ=>(f (fz i δ)).bind fun d=>if gA d=true then .ok d else .no
theorem gV (i:Nat) (h:DE X E e f):DE X E e (vFz i f):=PE.imp h fun σ H Q hZ3=>by
 obtain ⟨G,δ,S,a⟩:=hZ3
 obtain ⟨G',S'⟩:=S.fz i
 refine ⟨G',_,S',?_⟩
 unfold vFz at a
 cases q:f (fz i δ) with
 | ok d =>
   rw [q] at a; simp only [Res.bind] at a
   split at a
   . rename_i hd
     exact fun v G2 H2 g r=>a v G H2 ⟨Same.refl _,g.h,S.sub.trans g.h,fun _ _ z=>.inl z⟩ (r.atom hd)
   . exact (show False from a).elim
 | exc c=>rw [q] at a; exact fun G2 H2 g=>a G H2 ⟨Same.refl _,g.h,S.sub.trans g.h,fun _ _ z=>.inl z⟩
 | no=>rw [q] at a; exact a
noncomputable def Im (i:Nat) (fk fv:Dn->Res PyData):Dn->Out:=fun δ=>match δ[i]? with
 | some (.ow (.list ds))=>I8 (fv δ) fun v=>I8 (fk δ) fun kd=>match kd with
   | .int k=>(match ixN ds.length k with
     | some j=>.nx (δ.set i (.ow (.list (ds.set j v))))
     | none=>.no)
   | _=>.no
 | _=>.no
theorem RepL.set {G:Hp} {d:PyData} {v:V} (r:Rep G d v):∀ {ds:List PyData} {vs:List V} (j:Nat),RepL G ds vs->RepL G (ds.set j d) (vs.set j v)
 | [],_,_,h=>by cases (show _=_ from h); rfl
 | _::_,_,0,h=>by
   obtain ⟨v0,r0,rfl,h1,h2⟩:=h; exact ⟨v,r0,rfl,r,h2⟩
 | _::_,_,j+1,h=>by
   obtain ⟨v0,r0,rfl,h1,h2⟩:=h; exact ⟨v0,_,rfl,h1,RepL.set r j h2⟩
theorem dL (C:Cxt P w K mg base X N sc k df) (i:Nat) (h:okVar N sc i x=true) (hk:DE X E a f) (hv:DE X E b g)
   (hs:swapsWithSole [.Subscript (.Name x p) a p2] b pos.line X.env=pure false:=by rfl) (hw:swappedStores [.Subscript (.Name x p) a p2] b X.env=pure none:=by rfl)
   (h1:(assignEach [.Subscript (.Name x p) a p2] X.env).map (·.2)=[assign (.Subscript (.Name x p) a p2) X.env]:=by rfl)
   (ha:∀ v,assign (.Subscript (.Name x p) a p2) X.env v=(do
     let ov <- holding [v] (eval (.Name x p) X.env)
     let iv <- holding [v,ov] (eval a X.env)
     standAt p2
     holding [v,ov,iv] (setItem ov iv v)
     release [v,ov,iv] []):=by intro _; rfl):DS X E (.Assign [.Subscript (.Name x p) a p2] b pos) (Im i f g):=fun G0 H0=>by
 refine PS.imp (oC hv (oD (okVar.pe C h) hk dG ha) hs hw h1) fun D σ H hZ3=>?_
 obtain ⟨G,δ,S,aft⟩:=hZ3
 unfold Im at aft
 split at aft
 . rename_i ds hi
   refine Ci S aft fun v x1 G1 H1 g1 r1 S1 a1=>?_
   obtain ⟨q,hσ,hg,xs,hx,hvals⟩:=S1.sr.own hi; refine ⟨.ref q,hσ,?_⟩; refine Ci S1 a1 fun kd x2 G2 H2 g2 r2 S2 a2=>?_
   obtain ⟨q',hσ',hg',xs',hx',hvals'⟩:=S2.sr.own hi; rw [hσ] at hσ'; cases hσ'
   cases kd with
   | int kk =>
     cases (show _=_ from r2)
     simp only at a2
     cases ej:ixN ds.length kk with
     | none=>rw [ej] at a2; exact (show False from a2).elim
     | some j =>
       rw [ej] at a2; refine ⟨q,xs',kk,j,rfl,rfl,hx',by rw [<- hvals'.length]; exact ej,?_⟩
       exact a2 σ G2 _ (S2.write hi (by rw [hσ]; rfl) hg' ⟨_,B7,RepL.set (r1.mono g2.g) j hvals'⟩)
   | _=>exact (show False from a2).elim
 . exact aft.elim
end
end Sm
end
noncomputable section
namespace Sm
open PySem PySem.Spec PyProof.Rows L2 PySem.Builtin.Str
end Sm
end
noncomputable section
namespace Sm
open PySem PySem.Spec PyProof.Rows L2
end Sm
end
noncomputable section
namespace Sm
open PySem PySem.Spec PyProof.Rows L2
end Sm
end
noncomputable section
namespace Sm
open PySem PySem.Spec PyProof.Rows L2
end Sm
end
noncomputable section
namespace Sm
open PySem PySem.Spec PyProof.Rows L2
open AutoSeq1 (wpAny_loadPart')
end Sm
end
noncomputable section
namespace Sm
open PySem PySem.Spec PyProof.Rows L2
end Sm
end
noncomputable section
namespace Sm
open PySem PySem.W PyProof.Rows
end Sm
end
noncomputable section
namespace Sm
open PySem PySem.Spec PyProof.Rows L2
end Sm
end
noncomputable section
namespace Sm
open PySem PySem.Spec PyProof.Rows L2
end Sm
end
noncomputable section
namespace Sm
open PySem PySem.Spec PyProof.Rows L2
abbrev Kvs:=List (PyData×PyData)
noncomputable def Kk (g1:Dn->Out) (g2:Dn->Res Kvs):Dn->Res Kvs:=fun δ=>match g1 δ with
 | .nx δ'=>g2 δ'
 | .exc c=>.exc c
 | _=>.no
noncomputable def fnW (N:List Str) (g:Dn->Res Kvs):List PyData->Res Kvs:=fun ds=>g (K9 N ds)
noncomputable def Si (fs:Dn->Res (List PyData)) (m:List PyData->Res Kvs):Dn->Res Kvs:=fun δ=>(fs δ).bind m
end Sm
end
noncomputable section
namespace Sm
open PySem PySem.Spec PyProof.Rows L2
theorem Re:Slot "reversed" "__init__" "object.__init__" :=
 .of (owner := "object") (n := "__init__") (by rw [typeLookup_type,builtinLookup_eq_fast]; kernel_rfl) (by decide +kernel) (by decide +kernel) (by decide +kernel) (by first | exact .inl (by decide +kernel) | exact .inr (by decide +kernel)) (by rw [isSubtype_type]; kernel_rfl)
theorem Hj:TypeCalled "reversed" "reversed.__new__" "object.__init__" :=
 ⟨by decide +kernel,by decide +kernel,⟨_,_,F.mro_reversed⟩,F.made_reversed,by decide +kernel,F.sub_reversed_self,Re⟩
theorem T9:Slot "reversed" "__next__" "reversed.__next__" :=
 .of (owner := "reversed") (n := "__next__") (by rw [typeLookup_type,builtinLookup_eq_fast]; kernel_rfl) (by decide +kernel) (by decide +kernel) (by decide +kernel) (by first | exact .inl (by decide +kernel) | exact .inr (by decide +kernel)) (by rw [isSubtype_type]; kernel_rfl)
theorem Gg:Slot "reversed" "__iter__" "reversed.__iter__" :=
 .of (owner := "reversed") (n := "__iter__") (by rw [typeLookup_type,builtinLookup_eq_fast]; kernel_rfl) (by decide +kernel) (by decide +kernel) (by decide +kernel) (by first | exact .inl (by decide +kernel) | exact .inr (by decide +kernel)) (by rw [isSubtype_type]; kernel_rfl)
theorem Em:entryFor table "reversed.__next__" = some Builtin.«reversed.__next__» := entryFor_of_tree (by kernel_rfl)
theorem Oc:entryFor table "reversed.__iter__" = some Builtin.«dict_keyiterator.__iter__» := by
 exact entryFor_alias (id' := "dict_keyiterator.__iter__") (by kernel_rfl) (by decide +kernel) (by decide +kernel) (by kernel_rfl)
theorem Gh (a:Value):argsOk "reversed.__next__" ⟨[a],[]⟩:=by unfold argsOk; kernel_rfl
theorem Rf (a:Value):argsOk "reversed.__iter__" ⟨[a],[]⟩:=by unfold argsOk; kernel_rfl
theorem iZ:typeLookup (.type "tuple") "__reversed__" = pure none:=by rw [typeLookup_type,builtinLookup_eq_fast]; kernel_rfl
theorem jB:isSubtype (.type "tuple") (.type "dict")=pure false:=by rw [isSubtype_type]; kernel_rfl
def IsRvT (h:Heap) (a l:Addr) (i:Int):Prop:=∃ o,h.get? a=some o/\o.cls=.type "reversed" /\ o.data=.fields #[.ref l,rawInt i]
noncomputable section
variable {prog:Program} {w:World} {A:Around} {E:Value->Shared->Prop} {s:Shared}
theorem IsRvT.typeIs {a l:Addr} {i:Int} (x:IsRvT s.heap a l i):s.TypeIs (.ref a) "reversed" := let ⟨o,ho,hc,_⟩:=x; ⟨o,ho,hc⟩
theorem jC {l:Addr} {items:Array Value} {Q₁:Value->Shared->Prop} (hl:IsTup s.heap l items) (hz:items.size<=sizeLine)
   (h:∀ tk,Q₁ (.ref s.heap.objs.size) { s with heap:=s.heap.push { cls:=.type "reversed",data:=.fields #[.ref l,rawInt ((items.size:Int) - 1)] },toks:=tk }) :
   codeAny (model prog w) A (.call (.builtin "reversed.__new__") ⟨[.type "reversed",.ref l],[]⟩) (wants Q₁ E) s:=by
 refine codeAny_of_tree (wpAny_bind (wpAny_of_eq (F.newCall_reversed_1 _) (wpAny_pure ⟨plainId_quiet F.plain_reversed_new _,codeAny_builtin F.entry_reversed_new ?_⟩)))
 rw [Around.under_plainId F.plain_reversed_new _]
 unfold Builtin.«reversed.__new__»
 refine wpAny_bind (wpAny_of_eq (newClass_reversed _) (wpAny_bind (wpAny_of_eq (a:=()) (by first | rfl | kernel_rfl) (wpAny_bind (wpAny_of_eq (a:=()) (by first | rfl | kernel_rfl) ?_)))))
 refine wpAny_bind (wpAny_specialOf hl.typeIs iZ ?_)
 try dsimp only
 refine wpAny_bind (wpAny_bind (wpAny_isInstance hl.typeIs jB ?_))
 simp only [Bool.false_eq_true,if_false]
 refine wpAny_bind (wpAny_specialOf hl.typeIs slot_tuple_getitem.lookup ?_)
 dsimp only
 rw [if_pos (by decide +kernel)]
 refine wpAny_pure ?_
 simp only [Bool.not_true,Bool.false_eq_true,if_false]
 have hn:=Ca
 refine wpAny_bind (len_tuple hl (by lia) (wpAny_bind (wpAny_of_eq (a:=some (items.size:Int)) rfl ?_)))
 refine wpAny_bind ?_
 show wpAny _ _ (newObj (Value.type "reversed") (.fields #[.ref l,rawInt ((items.size:Int) - 1)])) _ _ _
 exact wpAny_newObj_type (wpAny_pure (h _))
theorem jD {l:Addr} {items:Array Value} {Q:Value->Shared->Prop} (hl:IsTup s.heap l items) (hz:items.size<=sizeLine)
   (h:∀ tk,Q (.ref s.heap.objs.size) { s with heap:=s.heap.push { cls:=.type "reversed",data:=.fields #[.ref l,rawInt ((items.size:Int) - 1)] },toks:=tk }):wpAny (model prog w) A (call (.type "reversed") [.ref l]) Q E s:=by
 refine callType_codes (Q₁:=fun obj t=>t.TypeIs obj "reversed" /\ Q obj t) Hj (F.typeCall_reversed_1 _) F.entry_object_init (jC hl hz fun tk=>⟨⟨_,Heap.get?_push_size _ rfl,rfl⟩,h tk⟩) fun obj t ht=>?_
 exact ⟨ht.1,F.args_object_init_2 obj _,object_init_meets Hj.init.lookup Hj.made (by decide) prog w A.in1 _ t ⟨ht.1,rfl,ht.2⟩⟩
theorem jA {it l:Addr} {i:Nat} {items:Array Value} {x:Value} {Q:Option Value->Shared->Prop} (hit:IsRvT s.heap it l (i:Int)) (hl:IsTup s.heap l items) (hz:items.size<=sizeLine) (hx:items[i]? = some x)
   (hQ:∀ h' tk,IsRvT h' it l ((i:Int) - 1)->Heap.SameBut it s.heap h'->Q (some x) { s with heap:=h',toks:=tk }):wpAny (model prog w) A (pyNext (.ref it)) Q E s:=by
 obtain ⟨o,ho,hc,hd⟩:=id hit
 have hi:i < items.size:=by
   rcases Nat.lt_or_ge i items.size with h | h
   . exact h
   . simp [h] at hx
 have hn:=Ca
 unfold pyNext
 refine wpAny_bind (wpAny_attempt ?_)
 refine wpAny_callSpecial?_slot (name:=Str.ofString "__next__") hit.typeIs T9 ?_
 refine wpAny_call_entry T9 hit.typeIs Em ?_ (Gh _)
 unfold Builtin.«reversed.__next__»
 refine wpAny_bind (wpAny_of_eq (a:=(Value.ref it,[])) rfl ?_)
 try dsimp only
 refine wpAny_bind (wpAny_field ho hd (x:=.ref l) rfl (wpAny_bind (wpAny_field ho hd (x:=rawInt (i:Int)) rfl ?_)))
 show wpAny _ _ (if (i:Int) < 0 then _ else _) _ _ s
 rw [if_neg (by lia)]
 refine wpAny_bind (wpAny_specialOf hl.typeIs slot_tuple_getitem.lookup ?_)
 rw [if_neg (by simp)]
 refine wpAny_bind (wpAny_mkInt (wpAny_bind (wpAny_attempt ?_)))
 refine getItem_tuple (s:={ s with toks:=s.toks+1 }) (j:=i) hl (by lia) (by lia) ?_ hx ?_
 . unfold seqIndex?
   first | (simp; lia) | (rw [if_neg (by lia),if_pos (by lia)]; simp) | (split <;> simp_all <;> lia)
 . try dsimp only
   refine wpAny_bind (wpAny_field (s:={ s with toks:=s.toks+1 }) ho hd (x:=rawInt (i:Int)) rfl ?_); show wpAny _ _ (setField (.ref it) 1 (rawInt ((i:Int) - 1))>>=_) _ _ _
   refine wpAny_bind (wpAny_setField (s:={ s with toks:=s.toks+1 }) ho hd (by simp) ?_)
   refine wpAny_pure ⟨x,rfl,wpAny_pure (hQ _ _ ?_ (Heap.SameBut.update ..))⟩; exact ⟨_,Heap.get?_update_self _ ho (Obj.isFreed_of_fields (Obj.data_mapFields hd _)),(Obj.cls_mapFields ..).trans hc,by rw [Obj.data_mapFields hd]; simp⟩
theorem nT {it l:Addr} {j:Int} {Q:Option Value->Shared->Prop} (hj:j < 0) (hh:A.handled=none) (hit:IsRvT s.heap it l j)
   (hQ:∀ h',Heap.ExtBut it s.heap h'->Q none { s with heap:=h' }):wpAny (model prog w) A (pyNext (.ref it)) Q E s:=by
 obtain ⟨o,ho,hc,hd⟩:=id hit
 unfold pyNext
 refine wpAny_bind (wpAny_attempt ?_)
 refine wpAny_callSpecial?_slot (name:=Str.ofString "__next__") hit.typeIs T9 ?_
 refine wpAny_call_entry T9 hit.typeIs Em ?_ (Gh _)
 unfold Builtin.«reversed.__next__»
 refine wpAny_bind (wpAny_of_eq (a:=(Value.ref it,[])) rfl ?_)
 try dsimp only
 refine wpAny_bind (wpAny_field ho hd (x:=.ref l) rfl (wpAny_bind (wpAny_field ho hd (x:=rawInt j) rfl ?_)))
 show wpAny _ _ (if j < 0 then _ else _) _ _ s
 rw [if_pos hj]
 refine wpAny_bind (wpAny_rule ?_)
 have ho1:=Heap.get?_update_self (Obj.mapFields (·.setIfInBounds 1 (rawInt (-1)))) ho (Obj.isFreed_of_fields (Obj.data_mapFields hd _))
 have hd1:=Obj.data_mapFields hd (fun a=>a.setIfInBounds 1 (rawInt (-1)))
 refine wpAny_bind ?_
 show wpAny _ _ (setField (.ref it) 1 (rawInt (-1))>>=fun _=>setField (.ref it) 0 .none) _ _ _
 refine wpAny_bind (wpAny_setField ho hd (by simp) (wpAny_setField ho1 hd1 (by simp) (wpAny_bind ?_)))
 show wpAny _ _ (newExc (.type "StopIteration") []>>=_) _ _ _
 refine wpAny_bind ?_
 simp only [newExc,newTuple]
 refine wpAny_bind (wpAny_newObj_type ?_ (by size_fits))
 refine wpAny_bind (m:=firstArgMember _ _) (wpAny_of_eq (a:=Value.none) (by first | rfl | (simp only [firstArgMember]; rfl)) (wpAny_newObj_type ?_ (by size_fits)))
 simp only [raiseNew]
 refine wpAny_bind (wpAny_handled ?_)
 rw [show A.in1.handled=none from hh]
 refine wpAny_bind (wpAny_pure (wpAny_throw (wpAny_bind ?_)))
 refine wpAny_isInstance (T := "StopIteration") (b:=true) ⟨_,Heap.get?_push_size _ rfl,rfl⟩ isSubtype_stop ?_
 refine wpAny_pure (hQ _ (Heap.ExtBut.push (Heap.ExtBut.push ?_ _) _))
 intro b ob hb eb
 exact ((Heap.SameBut.update ..).extBut b ob hb ((Heap.SameBut.update ..).extBut b ob hb eb))
theorem Xp {it l:Addr} {i:Int} {Q:Value->Shared->Prop} (hit:IsRvT s.heap it l i) (h:Q (.ref it) s):wpAny (model prog w) A (pyIter (.ref it)) Q E s:=by
 refine wpAny_pyIter_slot hit.typeIs Gg (wpAny_call_entry Gg hit.typeIs Oc ?_ (Rf _))
 show wpAny _ _ (ret (.ref it)) _ _ s
 exact wpAny_pure ⟨_,rfl, "reversed",_,hit.typeIs,T9.lookup,h⟩
end
def ItV (K:PySem.W.Frag) (a:Addr) (n:Nat):It :=
 ⟨fun i H=>i < n/\∃ xs x,SqT K H a xs/\xs.length=n/\xs[n - 1 - i]? = some x,fun i H x H'=>H'=H/\∀ xs,SqT K H a xs->xs[n - 1 - i]? = some x,fun i H=>n<=i⟩
theorem cJ {P:Program} {w:World} {K:PySem.W.Frag} {tg:Expr} (a it:Addr) (n:Nat):Turn P w K tg (ItV K a n) [it] it (fun i h=>IsRvT h it a ((n:Int) - 1 - i)) where
 mem:=by simp
 obj:=fun i h st b hb=>by
   have e:b=it:=by simpa using hb
   subst e; obtain ⟨o,e,c,d⟩:=st; exact ⟨o,e,fun v z=>by rw [d] at z; cases z⟩
 keep:=fun i h h' st k=>by
   obtain ⟨o,e,r⟩:=st; exact ⟨o,k it (by simp) o e,r⟩
 item:=by
   intro X hP hw hK hc i pins s σ H E I hf st hg; subst hP hw hK; obtain ⟨hi,xs,x,hq,hn,hx⟩:=hg; obtain ⟨its,rv,p,hz⟩:=I.tuple hq; obtain ⟨u,hu,ru⟩:=rv.get hx; have hl:=rv.length; obtain ⟨f0,f1,f2,f3,f4,f5⟩:=hf it (by simp)
   have e1:(n:Int) - 1 - (i:Int)=((n - 1 - i:Nat):Int):=by lia
   rw [e1] at st; refine jA st (show IsTup s.heap a its.toArray from p) (by simp only [List.size_toArray]; lia) (x:=u) (by simpa using hu) fun h' tk st' sb=>?_
   have I1:Inv X pins σ H { s with heap:=h',toks:=tk }:=I.turned (t':=tk) (fun b o hb e=>(sb.2 b hb).trans e) f0 f1 f3 f4 f5
   obtain ⟨o,e,c,d⟩:=id st'; refine ⟨u,rfl,Pp (s:={ s with heap:=h',toks:=tk }) e c d (by decide) ⟨x,H,I1,ru,⟨rfl,fun ys hy=>by rw [I.tuple_inj hy hq]; exact hx⟩,?_,fun b hb=>(hf b hb).1⟩⟩
   have e2:((n - 1 - i:Nat):Int) - 1=(n:Int) - 1 - ((i+1:Nat):Int):=by lia
   rw [e2] at st'; exact st'
 done:=by
   intro X hP hw hK hc i pins s σ H E I hf st hg; subst hP hw hK; have hi:n<=i:=hg; obtain ⟨f0,f1,f2,f3,f4,f5⟩:=hf it (by simp)
   exact nT (by lia) (I.ok.hd hc) st fun h' eb=>⟨rfl,I.turned (t':=s.toks) (fun b o hb e=>eb b o hb e) f0 f1 f3 f4 f5⟩
 self:=fun _ _ _ _ _ st h=>Xp st h
theorem cE {K:PySem.W.Frag} {G:Hp} {a:Addr} {xs:List V} {ds:List PyData} (h:G a=some (.tup xs)) (l:RepL G ds xs):Walk (ItV K a xs.length) G ds.reverse where
 go:=fun i H hi hG=>by
   have hi':i < xs.length:=by rw [<- l.length]; simpa using hi
   exact ⟨hi',xs,xs[xs.length - 1 - i],.inl (.inl (hG _ _ h)),rfl,by simp⟩
 yld:=fun i d G2 H x H' e h1 h2 hy=>by
   obtain ⟨rfl,hy⟩:=hy; have hlen:=l.length; have hi:i < ds.length:=by
     rcases Nat.lt_or_ge i ds.length with z | z
     . exact z
     . rw [List.getElem?_eq_none (by simpa using z)] at e; cases e
   rw [List.getElem?_reverse hi] at e; obtain ⟨y,e1,r⟩:=l.get e; have:=hy xs (.inl (.inl (h2 _ _ (h1 _ _ h)))); rw [hlen] at e1; rw [e1] at this; cases this; exact ⟨G2,Grow.refl h2,r.mono h1⟩
 stop:=fun i H hi hG=>by
   show xs.length<=i
   rw [<- l.length]; simpa using hi
noncomputable def Tl:PyData->Res (List PyData)
 | .tuple ds=>.ok ds.reverse
 | _=>.no
noncomputable section
variable {P:Program} {w:World} {K:PySem.W.Frag} {mg:Str->Option Value} {base:Heap} {X:Cx} {N:List Str} {sc:Scope} {k:Nat} {df:Bool} {E:EK} {pos p:Pos} {tg a:Expr} {f:Dn->Res PyData}
theorem i_rev (C:Cxt P w K mg base X N sc k df) (h:okGl sc "reversed" = true) (hm:mg "reversed" = none) (ha:DE X E a f) (he:starEach [a] X.env=(false,eval a X.env)::starEach [] X.env:=by rfl) (hpl:(backTo pos (starEach [] X.env)).any (·.1)=false:=by rfl) :
   DI X E tg (.Call (.Name "reversed" p) [a] [] pos) (fun δ=>(f δ).bind Tl):=by
 rintro pins s σ H R I ⟨G,δ,S,aft⟩
 obtain ⟨h1,h2,h3⟩:=okGl.gl C h
 have hh:=Ki (R:=fun v H1=>∃ v0 G1 d,[v]=[v0]/\Same G1 H1/\Rep G1 d v0/\AftI E G1 H1 (Tl d) R) (W:=fun G H r=>AftI E G H r R) S aft (fun g a=>AftI.grow g a) (fun c a=>a) (fun a=>a) fun d v G1 H1 g1 r1 S1 a1=>⟨v,G1,d,rfl,S1.sub,r1,a1⟩
 refine wpAny_Call_Name_kw (Cb I h1 (by rw [C.hmg]; exact hm) (show bootBuiltins "reversed" = some (.type "reversed") by decide +kernel) ?_ h3 h2)
 refine PyProof.Rows.callWith_type1 (thn ((E1 ha L9 he) pos pins s σ H (fun vs H1=>∃ v G1 d,vs=[v]/\Same G1 H1/\Rep G1 d v/\AftI E G1 H1 (Tl d) R) I ?_) fun us s1 ⟨vs,H1,I1,rx,v,G1,d,ev,hG,rd,a1⟩=>?_) he hpl
 . exact hh
 . subst ev
   obtain ⟨u,rfl,ru⟩:=Vals.one rx
   cases d with
   | tuple ds =>
     obtain ⟨q,xs,rfl,hq,l1⟩:=rd; cases ru; obtain ⟨zz,its,rv,e1⟩:=Fc I1 hG hq; have hl:=rv.length; refine jD (show IsTup s1.heap q its.toArray from e1) (by simp only [List.size_toArray]; lia) fun tk=>?_
     have I2:Inv X pins σ H1 { s1 with heap:=s1.heap.push { cls:=.type "reversed",data:=.fields #[.ref q,rawInt ((its.toArray.size:Int) - 1)] },toks:=tk }:=I1.kept (t':=tk) fun b o e=>Heap.get?_push_of_some _ e
     have st:IsRvT (s1.heap.push { cls:=.type "reversed",data:=.fields #[.ref q,rawInt ((its.toArray.size:Int) - 1)] }) s1.heap.objs.size q ((xs.length:Int) - 1 - ((0:Nat):Int)):=⟨_,Heap.get?_push_size _ rfl,rfl,by simp [hl]⟩
     refine Xp (s:={ s1 with heap:=s1.heap.push { cls:=.type "reversed",data:=.fields #[.ref q,rawInt ((its.toArray.size:Int) - 1)] },toks:=tk }) st ?_; refine ⟨s1.heap.objs.size,[s1.heap.objs.size],_,_,H1,rfl,I2,cJ q _ xs.length,st,fun b hb=>?_,a1 _ G1 H1 (Grow.refl hG) (cE hq l1)⟩
     have e:b=s1.heap.objs.size:=by simpa using hb
     subst e; exact I1.fpOk (Nat.le_refl _) (I1.hok.fresh (Nat.le_refl _))
   | _=>exact (show False from a1).elim
end
end Sm
end
noncomputable section
namespace Sm
open PySem PySem.Spec PyProof.Rows L2
end Sm
end
noncomputable section
namespace Sm
open PySem PySem.Spec PySem.W PyProof.Rows
end Sm
end
noncomputable section
namespace Sm
open PySem PySem.Spec PySem.W PyProof.Rows L2
noncomputable def okL (h:Str):Bool:=h == "a" || h == "b" || h == "c"
end Sm
end
noncomputable section
namespace Sm
open PySem PySem.Spec PyProof.Rows L2
end Sm
end
noncomputable section
namespace Sm
open PySem PySem.Spec PyProof.Rows L2
end Sm
end
noncomputable section
namespace Sm
open PySem PySem.Spec PyProof.Rows L2
end Sm
end
noncomputable section
namespace Sm
open PySem PySem.Spec PyProof.Rows PySem.W L2
structure NAt (h:Heap) (v:Value) (d:PyData):Prop where
 rd:∃ as,Reads h v d as
 nk:d=.none\/(isK d=true/\((∃ xs,d=.tuple xs)\/∃ z,d=.str z))
 lay:d.canLay0=true
 dp:d.depth<=8
theorem Hv {a b:PyData} (ha:a=.none\/(isK a=true/\((∃ xs,a=.tuple xs)\/∃ z,a=.str z))) (hb:b=.none\/(isK b=true/\((∃ xs,b=.tuple xs)\/∃ z,b=.str z))):PyData.eqv a b=true↔a=b:=by
 rcases ha with rfl | ⟨ha,ha'⟩
 . rcases hb with rfl | ⟨_,⟨ys,rfl⟩ | ⟨z,rfl⟩⟩
   . exact ⟨fun _=>rfl,fun _=>rfl⟩
   . exact ⟨fun h=>(by simp [PyData.eqv] at h),fun h=>nomatch h⟩
   . exact ⟨fun h=>(by simp [PyData.eqv] at h),fun h=>nomatch h⟩
 . rcases hb with rfl | ⟨hb,_⟩
   . rcases ha' with ⟨xs,rfl⟩ | ⟨z,rfl⟩
     . exact ⟨fun h=>(by simp [PyData.eqv] at h),fun h=>nomatch h⟩
     . exact ⟨fun h=>(by simp [PyData.eqv] at h),fun h=>nomatch h⟩
   . exact eqvK _ _ ha hb
noncomputable section
variable {prog:Program} {w:World} {A:Around} {E:Value->Shared->Prop} {s:Shared}
theorem NAt.val {h:Heap} {v:Value} {d:PyData} (x:NAt h v d):(d=.none/\v=.none)\/(∃ z t,d=.str z/\v=.str z t)\/∃ b,v=.ref b:=by
 obtain ⟨as,r⟩:=x.rd
 rcases x.nk with rfl | ⟨_,⟨xs,rfl⟩ | ⟨z,rfl⟩⟩
 . cases r; exact .inl ⟨rfl,rfl⟩
 . cases r; exact .inr (.inr ⟨_,rfl⟩)
 . cases r; exact .inr (.inl ⟨_,_,rfl,rfl⟩)
theorem NAt.hash {v:Value} {d:PyData} {Q:Int->Shared->Prop} (x:NAt s.heap v d) (hu:A.units+8 < cLine) (q:∀ tk,Q (T4 w d) { s with toks:=tk }):wpAny (model prog w) A (pyHash v) Q E s:=by
 obtain ⟨as,r⟩:=x.rd
 rcases x.nk with rfl | ⟨hk,hk'⟩
 . cases r
   unfold pyHash; have hv:[Value.none].any Value.onHeap=false:=rfl; have hT:s.TypeIs Value.none "NoneType" := rfl; refine wpAny_bind ?_; rw [cRoomFor,if_neg (by rw [hv]; decide)]
   refine wpAny_pure (wpAny_bind (wpAny_specialOf hT F.slot_NoneType_hash.lookup ?_)); show wpAny _ _ (if (some (Value.builtin "NoneType.__hash__")==some Value.none)=true then _ else _) Q E s
   rw [if_neg (by rw [beq_builtin_none]; decide)]
   refine wpAny_bind (wpAny_specialOf hT F.slot_NoneType_hash.lookup ?_); show wpAny _ _ (callSpecialIfBoundUnlessNone? Value.none "__hash__" _>>=_) Q E s
   refine wpAny_bind (wpAny_callSpecialIfBoundUnlessNone?_slot hT F.slot_NoneType_hash (wpAny_call_entry F.slot_NoneType_hash hT F.entry_NoneType_hash (show wpAny _ _ (do ret (<- mkInt 0xFCA86420)) _ _ s from wpAny_ret_mkInt ?_) (F.args_NoneType_hash_1 _)))
   show wpAny _ _ (if (decide (-(2:Int) ^ 63<=0xFCA86420)&&decide ((0xFCA86420:Int) < 2 ^ 63))=true then _ else _) Q E _
   rw [if_pos (by decide)]; exact wpAny_pure (q _)
 . have e:T4 w d=Uh w d:=by rcases hk' with ⟨_,rfl⟩ | ⟨_,rfl⟩ <;> rfl
   rw [e] at q; exact Mm _ _ as A s Q hk r (by have:=x.dp; lia) fun tk _=>q tk
theorem NAt.quiet {v:Value} {d:PyData} {Q:Bool->Shared->Prop} (x:NAt s.heap v d) (q:Q true s):wpAny (model prog w) A (eqIsQuiet 8 v) Q E s:=by
 obtain ⟨as,r⟩:=x.rd
 rcases x.nk with rfl | ⟨hk,hk'⟩
 . cases r; exact wpAny_pure q
 . exact Ip 8 _ _ as s Q hk x.dp r q
theorem NAt.eq {v u:Value} {a b:PyData} {Q:Bool->Shared->Prop} (x:NAt s.heap v a) (y:NAt s.heap u b) (hu:A.units+8 < cLine) (q:Q (PyData.eqv a b) s):wpAny (model prog w) A (eqBool v u) Q E s:=by
 obtain ⟨as,r⟩:=x.rd
 obtain ⟨bs,r'⟩:=y.rd
 exact SeqAt.eqBoolOverData prog w A E s v u a b as bs Q r r' x.lay y.lay (by have:=x.dp; lia) q
structure EsN (w:World) (h:Heap) (es:Array DictEntry) (ks:List PyData):Prop where
 len:es.size=ks.length
 ent:∀ (i:Nat) e,es[i]? = some e->∃ k,ks[i]? = some k/\NAt h e.key k/\e.hash=T4 w k
 nd:ks.Nodup
theorem Wr {d:Addr} {o:Obj} {es:Array DictEntry} {ep:Nat} {ks:List PyData} {key:Value} {k:PyData} {Q:Option Nat->Shared->Prop} (hu:A.units+8 < cLine) (ho:s.heap.get? d=some o) (hd:o.data=.dict es ep) (N:EsN w s.heap es ks) (x:NAt s.heap key k)
   (q1:∀ i,ks[i]? = some k->Q (some i) s) (q0:k∉ks->Q none s):wpAny (model prog w) A (dictFind d key (T4 w k)) Q E s:=by
 have same:∀ i j a,ks[i]? = some a->ks[j]? = some a->i=j:=fun i j a h1 h2=>by
   have hi:=(List.getElem?_eq_some_iff.mp h1).1; have hj:=(List.getElem?_eq_some_iff.mp h2).1; have e1:=(List.getElem?_eq_some_iff.mp h1).2; have e2:=(List.getElem?_eq_some_iff.mp h2).2; exact (List.getElem_inj (h₀:=hi) (h₁:=hj) N.nd).mp (e1.trans e2.symm)
 unfold dictFind
 try with_reducible refine wpAny_holding ?_
 refine wpAny_bind (wpAny_dictEntries ho hd ?_)
 dsimp only
 have hin:∀ i∈placesWithHash es.size (fun i=>es[i]?.map (·.hash)) (T4 w k),∃ e,es[i]? = some e/\(e.hash==T4 w k)=true:=fun i hi=>by
   unfold placesWithHash at hi; have:=(List.mem_filter.mp hi).2; simp only at this
   cases he:es[i]? with
   | none=>rw [he] at this; cases this
   | some e=>rw [he] at this; exact ⟨e,rfl,by simpa using this⟩
 have hat:∀ i,ks[i]? = some k->i∈placesWithHash es.size (fun i=>es[i]?.map (·.hash)) (T4 w k):=fun i hi=>by
   have hlt:i < es.size:=by rw [N.len]; exact (List.getElem?_eq_some_iff.mp hi).1
   have he:es[i]? = some es[i]:=Array.getElem?_eq_getElem hlt; obtain ⟨k',e1,_,e3⟩:=N.ent i _ he; rw [hi] at e1; cases e1; unfold placesWithHash; refine List.mem_filter.mpr ⟨List.mem_range.mpr hlt,?_⟩; show (es[i]?.map (·.hash)==some (T4 w k))=true
   rw [he]; simp [e3]
 have hnd:(placesWithHash es.size (fun i=>es[i]?.map (·.hash)) (T4 w k)).Nodup:=List.Pairwise.filter _ List.nodup_range
 generalize placesWithHash es.size (fun i=>es[i]?.map (·.hash)) (T4 w k)=places at *
 have lst:∀ i,(ks[i]? = some k->i∈([]:List Nat))->ks[i]? ≠ some k:=fun i h z=>nomatch h z
 have no:(∀ i,ks[i]? = some k->i∈([]:List Nat))->k∉ks:=fun h z=>by
   obtain ⟨i,hi⟩:=List.mem_iff_getElem?.mp z; exact nomatch h i hi
 have plain:wpAny (model prog w) A (dictWalkPlain d key (T4 w k) es places) Q E s:=by
   unfold dictWalkPlain; refine wpAny_bind ?_; refine wpAny_forIn_list _ (fun Q4 r s'=>s'=s/\r=(none,())/\(∀ i∈Q4,i∈places)/\∀ i,ks[i]? = some k->i∈Q4) _ ?_ ?_ _ _ ⟨rfl,rfl,fun _ h=>h,hat⟩
   . rintro i more r s' ⟨rfl,rfl,hsub,hall⟩
     obtain ⟨e,he,hh⟩:=hin i (hsub i (.head _)); obtain ⟨k',e1,y,_⟩:=N.ent i e he; rw [he]; dsimp only; rw [if_pos hh]; refine wpAny_bind (wpAny_dictEpoch ho hd ?_); refine wpAny_bind (y.eq x hu ?_); refine wpAny_bind (wpAny_dictEpoch ho hd ?_); rw [if_neg (by simp)]
     by_cases c:k'=k
     . subst c
       rw [if_pos ((Hv y.nk x.nk).mpr rfl)]; refine wpAny_bind (wpAny_rule (wpAny_pure ?_)); exact wpAny_pure (q1 i e1)
     . rw [if_neg (fun z=>c ((Hv y.nk x.nk).mp z))]
       refine wpAny_bind (wpAny_rule (wpAny_pure ?_)); refine ⟨rfl,rfl,fun j hj=>hsub j (.tail _ hj),fun j hj=>?_⟩
       rcases List.mem_cons.mp (hall j hj) with rfl | z
       . rw [e1] at hj; cases hj; exact absurd rfl c
       . exact z
   . rintro r s' ⟨rfl,rfl,_,hall⟩
     exact wpAny_pure (q0 (no hall))
 have hwalk : ∀ (f : Nat -> Option (Option Nat) × Option Nat -> Sem (ForInStep (Option (Option Nat) × Option Nat))), (∀ i e k' r2 (Q' : ForInStep (Option (Option Nat) × Option Nat) -> Shared -> Prop), es[i]? = some e -> (e.hash == T4 w k) = true -> NAt s.heap e.key k' ->
     (k'=k->r2=none/\Q' (.done (some (some i),none)) s/\Q' (.yield (none,some i)) s)->(k'≠k->Q' (.yield (none,r2)) s)->wpAny (model prog w) A (f i (none,r2)) Q' E s) ->
     wpAny (model prog w) A (forIn places (none,none) f) (fun r s'=>s'=s/\((r.1=none/\((r.2=none/\k∉ks)\/∃ i,r.2=some i/\ks[i]? = some k))\/∃ i,r.1=some (some i)/\ks[i]? = some k)) E s:=fun f hf=>by
   refine wpAny_forIn_list _ (fun Q4 r s'=>s'=s/\r.1=none/\(∀ i∈Q4,i∈places)/\Q4.Nodup/\((r.2=none/\∀ i,ks[i]? = some k->i∈Q4)\/∃ i,r.2=some i/\ks[i]? = some k/\i∉Q4)) _ ?_ ?_ _ _ ⟨rfl,rfl,fun _ h=>h,hnd,.inl ⟨rfl,hat⟩⟩
   . rintro i more ⟨r1,r2⟩ s' ⟨rfl,rfl,hsub,hn,hr⟩
     obtain ⟨e,he,hh⟩:=hin i (hsub i (.head _)); obtain ⟨k',e1,y,_⟩:=N.ent i e he; rw [List.nodup_cons] at hn; refine hf i e k' r2 _ he hh y (fun c=>?_) fun c=>?_
     . subst c
       have h2:r2=none:=by
         rcases hr with ⟨z,_⟩ | ⟨j,_,z2,z3⟩
         . exact z
         . exact absurd (same i j _ e1 z2▸List.mem_cons_self) z3
       exact ⟨h2,⟨rfl,.inr ⟨i,rfl,e1⟩⟩,rfl,rfl,fun j hj=>hsub j (.tail _ hj),hn.2,.inr ⟨i,rfl,e1,hn.1⟩⟩
     . refine ⟨rfl,rfl,fun j hj=>hsub j (.tail _ hj),hn.2,?_⟩
       rcases hr with ⟨z,hall⟩ | ⟨j,z1,z2,z3⟩
       . refine .inl ⟨z,fun j hj=>?_⟩
         rcases List.mem_cons.mp (hall j hj) with rfl | z'
         . rw [e1] at hj; cases hj; exact absurd rfl c
         . exact z'
       . exact .inr ⟨j,z1,z2,fun z=>z3 (.tail _ z)⟩
   . rintro ⟨r1,r2⟩ s' ⟨rfl,rfl,_,_,hr⟩
     rcases hr with ⟨rfl,hall⟩ | ⟨j,rfl,z2,_⟩
     . exact ⟨rfl,.inl ⟨rfl,.inl ⟨rfl,no hall⟩⟩⟩
     . exact ⟨rfl,.inl ⟨rfl,.inr ⟨j,rfl,z2⟩⟩⟩
 have tell:∀ (Q':Bool->Shared->Prop),Q' false s->wpAny (model prog w) A (tableMayTell key (places.filterMap fun i=>es[i]?.map (·.key))) Q' E s:=fun Q' q'=>by
   unfold tableMayTell
   split
   . exact wpAny_pure q'
   . refine wpAny_bind (x.quiet ?_)
     rw [if_neg (by decide)]; refine wpAny_bind ?_; refine wpAny_forIn_list _ (fun Q4 r s'=>s'=s/\r=(none,())/\∀ v∈Q4,∃ k',NAt s.heap v k') _ ?_ ?_ _ _ ⟨rfl,rfl,fun v hv=>?_⟩
     . rintro v more r s' ⟨rfl,rfl,hr⟩
       obtain ⟨k',y⟩:=hr v (.head _); refine wpAny_bind (y.quiet ?_); rw [if_neg (by decide)]; exact wpAny_pure ⟨rfl,rfl,fun v hv=>hr v (.tail _ hv)⟩
     . rintro r s' ⟨rfl,rfl,_⟩
       exact wpAny_pure q'
     . obtain ⟨i,_,hi⟩:=List.mem_filterMap.mp hv
       cases he:es[i]? with
       | none=>rw [he] at hi; cases hi
       | some e =>
         rw [he] at hi; have hk:e.key=v:=by simpa using hi
         obtain ⟨k',_,y,_⟩:=N.ent i e he; exact ⟨k',hk▸y⟩
 have fork:∀ (m:Bool->Sem (Option Nat)),wpAny (model prog w) A (m false) Q E s->wpAny (model prog w) A (if ((places.filterMap fun i=>es[i]?.map (·.key))==[key])=true then (pure false>>=m) else (tableMayTell key (places.filterMap fun i=>es[i]?.map (·.key))>>=m)) Q E s:=fun m h=>by
   split
   . exact wpAny_bind (wpAny_pure h)
   . exact wpAny_bind (tell _ h)
 rcases x.val with ⟨_,rfl⟩ | ⟨z,t,rfl,rfl⟩ | ⟨b,rfl⟩
 . dsimp only
   by_cases hc:(Value.none::places.filterMap fun i=>es[i]?.map (·.key)).all carriedByValue=true
   . rw [if_pos hc]; exact plain
   . rw [if_neg hc]
     refine fork _ ?_; rw [if_neg (by simp)]; refine wpAny_bind (wpAny_mono (hwalk _ fun i e k' r2 Q' he hh y c1 c0=>?_) (fun r s' z=>?_) fun _ _ z=>z)
     . dsimp only
       rw [he]; dsimp only; rw [if_pos hh]; refine wpAny_bind (wpAny_dictEpoch ho hd (wpAny_bind (y.eq x hu (wpAny_bind (wpAny_dictEpoch ho hd ?_))))); rw [if_neg (by simp)]
       by_cases c:k'=k
       . obtain ⟨rfl,d1,d2⟩:=c1 c
         rw [if_pos ((Hv y.nk x.nk).mpr c),if_neg (by simp)]; refine wpAny_bind (wpAny_rule ?_)
         split
         . exact wpAny_pure d1
         . exact wpAny_pure d2
       . rw [if_neg (fun z=>c ((Hv y.nk x.nk).mp z))]
         refine wpAny_bind (wpAny_rule ?_); rw [if_neg (by simp)]; exact wpAny_pure (c0 c)
     . obtain ⟨r1,r2⟩:=r
       obtain ⟨rfl,z⟩:=z; rcases z with ⟨rfl,z⟩ | ⟨i,rfl,z⟩
       . rcases z with ⟨rfl,z⟩ | ⟨i,rfl,z⟩
         . exact wpAny_pure (q0 z)
         . exact wpAny_pure (q1 i z)
       . exact wpAny_pure (q1 i z)
 . by_cases hall:(es.all fun e=>isExactStrKey e.key)=true
   . dsimp only
     rw [if_pos hall]; have isk:∀ (i:Nat) e,es[i]? = some e->(e.key.isStr z=true↔ks[i]? = some (.str z)):=fun i e he=>by
       obtain ⟨k',e1,y,_⟩:=N.ent i e he; rw [e1]; rcases y.val with ⟨rfl,hv⟩ | ⟨z',t',rfl,hv⟩ | ⟨b,hv⟩
       . rw [hv]; exact ⟨fun h=>(by cases h),fun h=>absurd h (by simp)⟩
       . rw [hv]
         show (z'==z)=true↔_
         rw [beq_iff_eq]; exact ⟨fun h=>(by rw [h]),fun h=>(by cases h; rfl)⟩
       . rw [hv]
         have:=Array.all_eq_true'.mp hall e (Array.mem_of_getElem? he); rw [hv] at this; cases this
     unfold foundByValue
     cases hf:es.findIdx? (·.key.isStr z) with
     | none =>
       refine wpAny_pure (q0 fun hm=>?_)
       obtain ⟨i,hi⟩:=List.mem_iff_getElem?.mp hm; have hlt:i < es.size:=by rw [N.len]; exact (List.getElem?_eq_some_iff.mp hi).1
       have:=Array.findIdx?_eq_none_iff.mp hf es[i] (Array.getElem_mem hlt); rw [(isk i _ (Array.getElem?_eq_getElem hlt)).mpr hi] at this; cases this
     | some i =>
       obtain ⟨hlt,hp,_⟩:=Array.findIdx?_eq_some_iff_getElem.mp hf; have he:es[i]? = some es[i]:=Array.getElem?_eq_getElem hlt; have hi:=(isk i _ he).mp hp; obtain ⟨k',e1,y,_⟩:=N.ent i _ he; rw [hi] at e1; cases e1; dsimp only; rw [he]; dsimp only; refine wpAny_bind (wpAny_dictEpoch ho hd (wpAny_bind (y.eq x hu (wpAny_bind (wpAny_dictEpoch ho hd ?_))))); rw [if_neg (by simp),if_pos ((Hv y.nk x.nk).mpr rfl)]; exact wpAny_bind (wpAny_rule (wpAny_pure (q1 i hi)))
   . dsimp only
     rw [if_neg hall]
     by_cases hc:(Value.str z t::places.filterMap fun i=>es[i]?.map (·.key)).all carriedByValue=true
     . rw [if_pos hc]; exact plain
     . rw [if_neg hc]
       refine fork _ ?_; rw [if_neg (by simp)]; refine wpAny_bind (wpAny_mono (hwalk _ fun i e k' r2 Q' he hh y c1 c0=>?_) (fun r s' z=>?_) fun _ _ z=>z)
       . dsimp only
         rw [he]; dsimp only; rw [if_pos hh]; refine wpAny_bind (wpAny_dictEpoch ho hd (wpAny_bind (y.eq x hu (wpAny_bind (wpAny_dictEpoch ho hd ?_))))); rw [if_neg (by simp)]
         by_cases c:k'=.str z
         . obtain ⟨rfl,d1,d2⟩:=c1 c
           rw [if_pos ((Hv y.nk x.nk).mpr c),if_neg (by simp)]; refine wpAny_bind (wpAny_rule ?_)
           split
           . exact wpAny_pure d1
           . exact wpAny_pure d2
         . rw [if_neg (fun z=>c ((Hv y.nk x.nk).mp z))]
           refine wpAny_bind (wpAny_rule ?_); rw [if_neg (by simp)]; exact wpAny_pure (c0 c)
       . obtain ⟨r1,r2⟩:=r
         obtain ⟨rfl,z⟩:=z; rcases z with ⟨rfl,z⟩ | ⟨i,rfl,z⟩
         . rcases z with ⟨rfl,z⟩ | ⟨i,rfl,z⟩
           . exact wpAny_pure (q0 z)
           . exact wpAny_pure (q1 i z)
         . exact wpAny_pure (q1 i z)
 . dsimp only
   by_cases hc:(Value.ref b::places.filterMap fun i=>es[i]?.map (·.key)).all carriedByValue=true
   . rw [if_pos hc]; exact plain
   . have hno : (es.any fun e => e.key == .ref b && e.hash != T4 w k) = false := by
       rw [Array.any_eq_false]; intro i hi; obtain ⟨k',e1,y,e3⟩:=N.ent i es[i] (Array.getElem?_eq_getElem hi)
       by_cases c:es[i].key=.ref b
       . have : k' = k := by
           rw [c] at y; obtain ⟨as,r1⟩:=x.rd; obtain ⟨bs,r2⟩:=y.rd; exact SeqAt.Reads.unique k' k _ _ _ y.lay r2 r1
         rw [e3,this]; simp
       . intro z
         rw [Bool.and_eq_true] at z; exact c (eq_of_beq z.1)
     rw [if_neg hc,if_neg (by rw [hno]; decide)]
     refine fork _ ?_; rw [if_neg (by simp)]; refine wpAny_bind (wpAny_mono (hwalk _ fun i e k' r2 Q' he hh y c1 c0=>?_) (fun r s' z=>?_) fun _ _ z=>z)
     . dsimp only
       rw [he]; dsimp only; rw [if_pos hh]; refine wpAny_bind (wpAny_dictEpoch ho hd (wpAny_bind (y.eq x hu (wpAny_bind (wpAny_dictEpoch ho hd ?_))))); rw [if_neg (by simp)]
       by_cases c:k'=k
       . obtain ⟨rfl,d1,d2⟩:=c1 c
         rw [if_pos ((Hv y.nk x.nk).mpr c),if_neg (by simp)]; refine wpAny_bind (wpAny_rule ?_)
         split
         . exact wpAny_pure d1
         . exact wpAny_pure d2
       . rw [if_neg (fun z=>c ((Hv y.nk x.nk).mp z))]
         refine wpAny_bind (wpAny_rule ?_); rw [if_neg (by simp)]; exact wpAny_pure (c0 c)
     . obtain ⟨r1,r2⟩:=r
       obtain ⟨rfl,z⟩:=z; rcases z with ⟨rfl,z⟩ | ⟨i,rfl,z⟩
       . rcases z with ⟨rfl,z⟩ | ⟨i,rfl,z⟩
         . exact wpAny_pure (q0 z)
         . exact wpAny_pure (q1 i z)
       . exact wpAny_pure (q1 i z)
end
end Sm
end
noncomputable section
namespace Sm
open PySem PySem.Spec PyProof.Rows PySem.W L2
noncomputable section
variable {prog:Program} {w:World} {A:Around} {E:Value->Shared->Prop} {s:Shared}
theorem hu8 {A:Around} (h:A.units+16 < cLine):A.in1.units+8 < cLine:=by simp only [Around.in1_units]; lia
theorem EsN.get {h:Heap} {es:Array DictEntry} {ks:List PyData} (N:EsN w h es ks) {i:Nat} {k:PyData} (hi:ks[i]? = some k):∃ e,es[i]? = some e:=by
 have hlt:i < es.size:=by rw [N.len]; exact (List.getElem?_eq_some_iff.mp hi).1
 exact ⟨_,Array.getElem?_eq_getElem hlt⟩
theorem Hw {d:Addr} {o:Obj} {es:Array DictEntry} {ep:Nat} {ks:List PyData} {key:Value} {k:PyData} {Q:Option Value->Shared->Prop} (hu:A.units+8 < cLine) (ho:s.heap.get? d=some o) (hd:o.data=.dict es ep) (N:EsN w s.heap es ks) (x:NAt s.heap key k)
   (q1:∀ (i:Nat) (e:DictEntry) tk,ks[i]? = some k->es[i]? = some e->Q (some e.val) { s with toks:=tk }) (q0:∀ tk,k∉ks->Q none { s with toks:=tk }):wpAny (model prog w) A (dictGet d key) Q E s:=by
 unfold dictGet
 try with_reducible refine wpAny_holding ?_
 refine wpAny_bind (x.hash hu fun tk=>?_)
 refine wpAny_bind (Wr (s:={ s with toks:=tk }) hu ho hd N x (fun i hi=>?_) fun hn=>wpAny_pure (q0 tk hn))
 obtain ⟨e,he⟩:=N.get hi
 refine wpAny_bind (wpAny_dictEntries (s:={ s with toks:=tk }) ho hd (wpAny_pure ?_))
 rw [he]
 exact q1 i e tk hi he
theorem Wj (d:Addr) (key dflt:Value) (hd:(d==sysModules)=false):MeetsIn prog w (Builtin.«dict.get» ⟨[.ref d,key,dflt],[]⟩) (fun A R s=>∃ (o:Obj) (es:Array DictEntry) (ep:Nat) (ks:List PyData) (k:PyData),A.units+16 < cLine/\s.heap.get? d=some o/\o.data=.dict es ep/\EsN w s.heap es ks/\NAt s.heap key k /\
   (∀ (i:Nat) (e:DictEntry) tk,ks[i]? = some k->es[i]? = some e->R (.ok (.ret e.val)) { s with toks:=tk })/\∀ tk,k∉ks->R (.ok (.ret dflt)) { s with toks:=tk }) :=
 .of_wp fun A R s hZ3=>by
   obtain ⟨o,es,ep,ks,k,hu,ho,hD,N,x,h1,h0⟩:=hZ3; show wpAny _ _ (dictGet d key>>=_) _ _ s
   refine wpAny_bind (Hw (hu8 hu) ho hD N x (fun i e tk hi he=>wpAny_pure ⟨_,rfl,h1 i e tk hi he⟩) fun tk hn=>?_)
   show wpAny _ _ (Builtin.Dict.missed d key>>=_) _ _ _
   exact wpAny_bind (wpAny_missed_other hd (wpAny_pure ⟨dflt,rfl,h0 tk hn⟩))
theorem aR (d:Addr) (key:Value) (hd:(d==sysModules)=false):MeetsIn prog w (Builtin.«dict.__contains__» ⟨[.ref d,key],[]⟩) (fun A R s=>∃ (o:Obj) (es:Array DictEntry) (ep:Nat) (ks:List PyData) (k:PyData),A.units+16 < cLine/\s.heap.get? d=some o/\o.data=.dict es ep/\EsN w s.heap es ks/\NAt s.heap key k /\
   (∀ tk,k∈ks->R (.ok (.ret (.bool true))) { s with toks:=tk })/\∀ tk,k∉ks->R (.ok (.ret (.bool false))) { s with toks:=tk }) :=
 .of_wp fun A R s hZ3=>by
   obtain ⟨o,es,ep,ks,k,hu,ho,hD,N,x,h1,h0⟩:=hZ3; show wpAny _ _ (dictGet d key>>=_) _ _ s
   refine wpAny_bind (Hw (hu8 hu) ho hD N x (fun i e tk hi he=>wpAny_pure ⟨_,rfl,h1 tk (List.mem_of_getElem? hi)⟩) fun tk hn=>?_)
   show wpAny _ _ (Builtin.Dict.pendingKey? d key>>=_) _ _ _
   exact wpAny_bind (wpAny_pendingKey_other hd (wpAny_pure ⟨_,rfl,h0 tk hn⟩))
theorem Ua (d:Addr) (key:Value):MeetsIn prog w (Builtin.«dict.__getitem__» ⟨[.ref d,key],[]⟩) (fun A R s=>∃ (o:Obj) (es:Array DictEntry) (ep:Nat) (ks:List PyData) (k:PyData),A.units+16 < cLine/\s.heap.get? d=some o/\o.data=.dict es ep/\EsN w s.heap es ks/\NAt s.heap key k/\k∈ks /\
   (∀ (i:Nat) (e:DictEntry) tk,ks[i]? = some k->es[i]? = some e->R (.ok (.ret e.val)) { s with toks:=tk })) :=
 .of_wp fun A R s hZ3=>by
   obtain ⟨o,es,ep,ks,k,hu,ho,hD,N,x,hm,h1⟩:=hZ3; show wpAny _ _ (dictGet d key>>=_) _ _ s
   exact wpAny_bind (Hw (hu8 hu) ho hD N x (fun i e tk hi he=>wpAny_pure ⟨_,rfl,h1 i e tk hi he⟩) fun tk hn=>absurd hm hn)
theorem Od (d:Addr) (key dflt:Value) (hd:(d==sysModules)=false):MeetsIn prog w (Builtin.«dict.setdefault» ⟨[.ref d,key,dflt],[]⟩) (fun A R s=>∃ (L:List DictEntry) (ep:Nat) (ks:List PyData) (k:PyData),A.units+16 < cLine/\s.heap.get? d=some { cls:=.type "dict",data:=.dict (List.toArray L) ep }/\L.length<=sizeLine/\EsN w s.heap L.toArray ks/\NAt s.heap key k /\
   (∀ (i:Nat) (e:DictEntry) tk,ks[i]? = some k->L[i]? = some e->R (.ok (.ret e.val)) { s with toks:=tk }) /\
   ∀ (h':Heap) (tk:Nat),k∉ks->(∀ b o,b≠d->s.heap.get? b=some o->h'.get? b=some o)->h'.get? d=some { cls:=.type "dict",data:=.dict (L++[DictEntry.mk (T4 w k) key dflt]).toArray (ep+1) }->R (.ok (.ret dflt)) { s with heap:=h',toks:=tk }) :=
 .of_wp fun A R s hZ3=>by
   obtain ⟨L,ep,ks,k,hu,ho,hz,N,x,h1,h0⟩:=hZ3; unfold Builtin.«dict.setdefault»
   refine wpAny_bind ?_; unfold Builtin.Dict.keyAndDefault; refine wpAny_bind (wpAny_notOrdered_dict ⟨_,ho,rfl⟩ ?_); show wpAny _ _ (pure (d,key,some dflt)) _ _ s
   refine wpAny_pure ?_; show wpAny _ _ (if (d==sysModules)=true then _ else (dictSetDefault d key dflt>>=_)) _ _ s
   rw [if_neg (by rw [hd]; exact Bool.false_ne_true)]
   refine wpAny_bind ?_; unfold dictSetDefault
   try with_reducible refine wpAny_holding ?_
   refine wpAny_bind (x.hash (hu8 hu) fun tk=>?_)
   refine wpAny_bind (Wr (s:={ s with toks:=tk }) (hu8 hu) ho rfl N x (fun i hi=>?_) fun hn=>?_)
   . obtain ⟨e,he⟩:=N.get hi
     refine wpAny_bind (wpAny_dictEntries (s:={ s with toks:=tk }) ho rfl ?_); rw [he]; exact wpAny_bind (wpAny_rule (wpAny_pure (wpAny_pure ⟨_,rfl,h1 i e tk hi (by simpa using he)⟩)))
   . refine wpAny_bind (wpAny_rule (wpAny_bind (wpAny_updateDictKeys (hz:=by simpa using hz) (s:={ s with toks:=tk }) ho rfl (wpAny_pure (wpAny_pure ⟨dflt,rfl,h0 _ tk hn (fun b o hb e=>?_) ?_⟩)))))
     . exact (Heap.get?_update_ne _ _ _ _ hb).trans e
     . have:=Heap.get?_update_self (Obj.mapDictKeys fun x=>x.push ⟨T4 w k,key,dflt⟩) ho (Obj.isFreed_of_dict (Obj.data_mapDictKeys rfl _))
       rw [this]; simp [Obj.mapDictKeys]
end
end Sm
end
noncomputable section
namespace Sm
open PySem PySem.Spec PyProof.Rows PySem.W L2
mutual
theorem Ud {H:Hp}:∀ {d:PyData} {v:V},KRep H d v->Rep H d v
 | .none,_,r=>r
 | .int _,_,r=>r
 | .str _,_,r=>r
 | .tuple _,_,r=>by obtain ⟨b,xs,e,q,l⟩:=r; exact ⟨b,xs,e,q,Pj l⟩
 | .bool _,_,r=>(show False from r).elim
 | .list _,_,r=>(show False from r).elim
 | .dict _,_,r=>(show False from r).elim
theorem Pj {H:Hp}:∀ {ds:List PyData} {xs:List V},KRepL H ds xs->RepL H ds xs
 | [],_,r=>r
 | _::_,_,r=>by obtain ⟨x,t,e,q,l⟩:=r; exact ⟨x,t,e,Ud q,Pj l⟩
end
mutual
theorem Tm {G H:Hp} (hG:Same G H):∀ {d:PyData} {v:V},isK d=true->Rep G d v->KRep H d v
 | .int _,_,_,r=>r
 | .str _,_,_,r=>r
 | .tuple _,_,k,r=>by obtain ⟨b,xs,e,q,l⟩:=r; exact ⟨b,xs,e,hG _ _ q,Pa hG (by simpa [isK] using k) l⟩
 | .none,_,k,_=>by simp [isK] at k
 | .bool _,_,k,_=>by simp [isK] at k
 | .list _,_,k,_=>by simp [isK] at k
 | .dict _,_,k,_=>by simp [isK] at k
theorem Pa {G H:Hp} (hG:Same G H):∀ {ds:List PyData} {xs:List V},Fj ds=true->RepL G ds xs->KRepL H ds xs
 | [],_,_,r=>r
 | _::_,_,k,r=>by
   simp only [Fj,Bool.and_eq_true] at k; obtain ⟨x,t,e,q,l⟩:=r; exact ⟨x,t,e,Tm hG k.1 q,Pa hG k.2 l⟩
end
theorem P2 {d:PyData} (hn:nkD d=true):(d=.none\/(isK d=true/\((∃ xs,d=.tuple xs)\/∃ z,d=.str z)))/\d.depth<=8:=by
 unfold nkD at hn
 split at hn
 . exact ⟨.inl rfl,by simp [PyData.depth]⟩
 . exact ⟨.inr ⟨by simp [isK],.inr ⟨_,rfl⟩⟩,by simp [PyData.depth]⟩
 . rw [Bool.and_eq_true] at hn
   exact ⟨.inr ⟨by simpa [isK] using hn.1,.inl ⟨_,rfl⟩⟩,of_decide_eq_true hn.2⟩
 . cases hn
theorem Fb {G H:Hp} (hG:Same G H) {d:PyData} {v:V} (hn:nkD d=true) (r:Rep G d v):KRep H d v:=by
 rcases (P2 hn).1 with rfl | ⟨k,_⟩
 . exact r
 . exact Tm hG k r
noncomputable def M8 (kvs:List (PyData×V)) (k:PyData):Option V:=(kvs.find? fun p=>PyData.eqv p.1 k).map (·.2)
noncomputable def P0 (kvs:List (PyData×PyData)) (k:PyData):Option PyData:=(kvs.find? fun p=>PyData.eqv p.1 k).map (·.2)
theorem Dm {G:Hp} {k:PyData}:∀ {kvs:List (PyData×PyData)} {kk:List (PyData×V)},kvs.map (·.1)=kk.map (·.1)->RepL G (kvs.map (·.2)) (kk.map (·.2)) ->
   (P0 kvs k=none/\M8 kk k=none)\/∃ d v,P0 kvs k=some d/\M8 kk k=some v/\Rep G d v
 | [],[],_,_=>.inl ⟨rfl,rfl⟩
 | [],_::_,e,_=>by cases e
 | _::_,[],e,_=>by cases e
 | p::kvs,q::kk,e,r=>by
   simp only [List.map_cons,List.cons.injEq] at e; obtain ⟨x,t,ex,rx,l⟩:=r; simp only [List.map_cons,List.cons.injEq] at ex; unfold P0 M8; rw [List.find?_cons,List.find?_cons,e.1]
   cases hq:PyData.eqv q.1 k with
   | true=>exact .inr ⟨p.2,q.2,rfl,rfl,by rw [ex.1]; exact rx⟩
   | false=>exact Dm (k:=k) e.2 (by rw [ex.2]; exact l)
theorem Dq {k:PyData} (hk:nkD k=true):∀ {kk:List (PyData×V)} {i:Nat} {v:V},(∀ p∈kk,nkD p.1=true)->(kk.map (·.1)).Nodup->kk[i]? = some (k,v)->M8 kk k=some v
 | [],_,_,_,_,h=>by simp at h
 | p::kk,i,v,hn,nd,h=>by
   unfold M8; rw [List.find?_cons]; have hp:=Hv (P2 (hn p (.head _))).1 (P2 hk).1
   cases i with
   | zero =>
     simp at h
     subst h; rw [hp.mpr rfl]; rfl
   | succ i =>
     rw [List.map_cons,List.nodup_cons] at nd; have hm:(k,v)∈kk:=List.mem_of_getElem? (by simpa using h)
     cases hq:PyData.eqv p.1 k with
     | true=>exact absurd (by rw [hp.mp hq]; exact List.mem_map_of_mem hm) nd.1
     | false=>exact Dq hk (fun q hq=>hn q (.tail _ hq)) nd.2 (by simpa using h)
theorem Gq {k:PyData} (hk:nkD k=true) {kk:List (PyData×V)} (hn:∀ p∈kk,nkD p.1=true) (h:k∉kk.map (·.1)):M8 kk k=none:=by
 unfold M8
 rw [List.find?_eq_none.mpr]; · rfl
 intro p hp z
 exact h (by rw [<- (Hv (P2 (hn p hp)).1 (P2 hk).1).mp z]; exact List.mem_map_of_mem hp)
theorem Paired.at' {α β:Type} {F:α->β->Prop}:∀ {l₁:List α} {l₂:List β} {i:Nat} {a:α},Paired F l₁ l₂->l₁[i]? = some a->∃ b,l₂[i]? = some b/\F a b
 | _,_,i,_,.nil,h=>by simp at h
 | _,_,0,_,.cons r _,h=>by simp at h; subst h; exact ⟨_,rfl,r⟩
 | _,_,i+1,_,.cons _ t,h=>Paired.at' (i:=i) t (by simpa using h)
noncomputable section
variable {X:Cx} {pins:List (Addr×Obj)} {σ:St} {H:Hp} {s:Shared} {a:Addr} {A:Around} {E:Value->Shared->Prop}
theorem Ho (I:Inv X pins σ H s) {d:PyData} {v:V} {u:Value} (r:KRep H d v) (hv:RelV v u) (hn:nkD d=true):NAt s.heap u d:=by
 have rr:=Ud r
 exact ⟨rr.reads I (Same.refl _) hv,(P2 hn).1,rr.lay,(P2 hn).2⟩
abbrev PrN (H:Hp):PyData×V->Value×Value->Prop:=fun p q=>(∃ v,KRep H p.1 v/\RelV v q.1)/\RelV p.2 q.2
theorem Kf {w:World} {kvs:List (PyData×V)} {xs:List (Value×Value)} (r:Paired (PrN H) kvs xs) {i:Nat} {e:DictEntry} (he:(U3 w kvs xs)[i]? = some e) :
   ∃ p q,kvs[i]? = some p/\xs[i]? = some q/\PrN H p q/\e=⟨T4 w p.1,q.1,q.2⟩:=by
 unfold U3 at he
 rw [List.getElem?_zipWith] at he
 cases hp:kvs[i]? with
 | none=>rw [hp] at he; simp at he
 | some p =>
   obtain ⟨q,hq,hF⟩:=Paired.at' r hp; rw [hp,hq] at he; simp at he
   exact ⟨p,q,rfl,hq,hF,he.symm⟩
theorem Paired.len' {α β:Type} {F:α->β->Prop}:∀ {l₁:List α} {l₂:List β},Paired F l₁ l₂->l₁.length=l₂.length
 | _,_,.nil=>rfl
 | _,_,.cons _ t=>by simp [Paired.len' t]
theorem Mo (I:Inv X pins σ H s) {kvs:List (PyData×V)} {xs:List (Value×Value)} (r:Paired (PrN H) kvs xs) (nk:∀ p∈kvs,nkD p.1=true) (nd:(kvs.map (·.1)).Nodup):EsN X.w s.heap (U3 X.w kvs xs).toArray (kvs.map (·.1)) where
 len:=by
   have:=Paired.len' r; simp [U3,this]
 ent:=fun i e he=>by
   obtain ⟨p,q,h1,h2,⟨⟨v,h3,h4⟩,h5⟩,rfl⟩:=Kf r (by simpa using he)
   exact ⟨p.1,by rw [List.getElem?_map,h1]; rfl,Ho I h3 h4 (nk p (List.mem_of_getElem? h1)),rfl⟩
 nd:=nd
theorem oY {kvs:List (PyData×V)} {kd:PyData} {y d:V} {u r:Value} {Q:Value->Shared->Prop} (hu:A.units+16 < cLine) (I:Inv X pins σ H s) (e:Rd H a (.dN kvs)) (rk:KRep H kd y) (hk:nkD kd=true) (ry:RelV y u) (rd:RelV d r)
   (h:∀ w' s',Inv X pins σ H s'->RelV ((M8 kvs kd).getD d) w'->Q w' s'):wpAny (model X.prog X.w) A (call (.builtin "dict.get") [.ref a,u,r]) Q E s:=by
 obtain ⟨z,hd,nd,nk,xs,rel,ep,e1⟩:=e.ok I.hok
 refine call_meetsIn F.slot_dict_get ⟨_,e1,rfl⟩ F.entry_dict_get (F.args_dict_get_3 _ _ _) (Wj a u r hd) ⟨_,_,ep,kvs.map (·.1),kd,hu,e1,rfl,Mo I rel nk nd,Ho I rk ry hk,fun i e tk hi he=>h _ _ (I.tok _) ?_,fun tk hn=>h _ _ (I.tok _) ?_⟩
 . obtain ⟨p,q,h1,h2,⟨_,h5⟩,rfl⟩:=Kf rel (by simpa using he)
   rw [List.getElem?_map,h1] at hi; have hp:p=(kd,p.2):=by
     have:p.1=kd:=by simpa using hi
     rw [<- this]
   rw [hp] at h1; rw [Dq hk nk nd h1]; exact h5
 . rw [Gq hk nk hn]
   exact rd
end
def nG (td ty tx:TE):TE:=fun σ H Q=>td σ H fun x H1=>∃ a kvs,x=.ref a/\Rd H1 a (.dN kvs)/\ty σ H1 fun y H2=>tx σ H2 fun z H3=>∃ kvs kd,Rd H3 a (.dN kvs)/\KRep H3 kd y/\nkD kd=true/\Q ((M8 kvs kd).getD z) H3
noncomputable section
variable {X:Cx} {o e f:Expr} {apos cpos:Pos} {td ty tx:TE}
theorem eP (hu:X.A.units+16 < cLine) (ho:PE X o td) (he:PE X e ty) (hf:PE X f tx) (m:M2 X o "get" apos e f cpos):PE X (.Call (.Attribute o "get" apos) [e,f] [] cpos) (nG td ty tx):=by
 intro pins s σ H Q I h
 refine wpAny_Call_method m.base m.few m.line PySem.F.plainAttrs_dict PySem.F.slot_dict_get PySem.F.type_dict_get (thn (ho pins s σ H _ I h) fun u s1 hZ2=>?_)
 obtain ⟨x,H1,I1,rx,a,kvs,ex,d,q1⟩:=hZ2
 subst ex
 obtain rfl:u=Value.ref a:=rx
 obtain ⟨_,_,_,_,_,_,ep,e1⟩:=d.ok I1.hok
 refine ⟨⟨_,e1,rfl⟩,fun b q=>by cases q; exact ⟨_,e1,rfl⟩,?_⟩
 rw [m.trees]
 refine Calls.callWith_builtin rfl (Calls.evalArgs_plain (Calls.spliced_cons (thn (he pins s1 σ H1 _ I1 q1) fun iv s2 hY79=>?_)))
 obtain ⟨y,H2,I2,ry,q2⟩:=hY79
 refine Calls.spliced_cons (thn (hf pins s2 σ H2 _ I2 q2) fun fv s3 hY80=>?_)
 obtain ⟨z,H3,I3,rz,kvs,kd,g,rk,hk,q3⟩:=hY80
 refine Calls.spliced_nil ?_
 exact oY hu I3 g rk hk ry rz fun w' s4 I4 rw'=>⟨_,H3,I4,rw',q3⟩
end
noncomputable def kvN (δ:Dn) (i:Nat):Option Kvs:=match δ[i]? with
 | some (.ow (.tuple [.dict kvs,.none]))=>some kvs
 | some (.fd ((.dict [],.none)::kvs))=>some kvs
 | _=>none
theorem SR.kvN {G H:Hp} {σ:St} {δ:Dn} {i:Nat} {kvs:Kvs} (S:SR G H σ δ) (h:kvN δ i=some kvs):∃ q,∃ kk:List (PyData×V),σ[i]? = some (some (.ref q))/\Rd H q (.dN kk)/\kvs.map (·.1)=kk.map (·.1)/\RepL G (kvs.map (·.2)) (kk.map (·.2)):=by
 unfold Sm.kvN at h
 split at h
 . rename_i kvs' hi
   cases h; obtain ⟨q,hσ,hq,ho⟩:=S.own hi; obtain ⟨kk,hx,hk,hv⟩:=(show OwnK G H q [.dict kvs,.none] from ho)
   exact ⟨q,kk,hσ,.inl hx,hk,hv⟩
 . rename_i kvs' hi
   cases h; obtain ⟨q,kk,hp,hx,hk,hv⟩:=(show FdOk G (σ[i]?.join) ((.dict [],.none)::kvs) from S.sl i _ hi)
   refine ⟨q,kk,?_,Rd.mono S.sub hx,hk,hv⟩
   cases e:σ[i]? with
   | none=>rw [e] at hp; cases hp
   | some z =>
     rw [e] at hp
     cases z with
     | none=>cases hp
     | some z=>cases hp; rfl
 . cases h
noncomputable def Kl (i:Nat) (f g:Dn->Res PyData):Dn->Res PyData:=fun δ=>match kvN δ i with
 | some kvs=>(f δ).bind fun kd=>(g δ).bind fun dd=>if nkD kd=true then .ok ((P0 kvs kd).getD dd) else .no
 | none=>.no
noncomputable section
variable {P:Program} {w:World} {K:PySem.W.Frag} {mg:Str->Option Value} {base:Heap} {X:Cx} {N:List Str} {sc:Scope} {k:Nat} {df:Bool} {E:EK} {p apos cpos:Pos} {a b:Expr} {f g:Dn->Res PyData} {x:Str}
theorem gX (C:Cxt P w K mg base X N sc k df) (i:Nat) (h:okVar N sc i x=true) (hk:DE X E a f) (hg:DE X E b g) (m:M2 X (.Name x p) "get" apos a b cpos:=by exact ⟨rfl,rfl,rfl,rfl⟩):DE X E (.Call (.Attribute (.Name x p) "get" apos) [a,b] [] cpos) (Kl i f g):=by
 refine PE.imp (eP (by have:=C.hu; lia) (okVar.pe C h) hk hg m) fun σ H Q hY81=>?_
 obtain ⟨G,δ,S,aft⟩:=hY81
 unfold Kl at aft
 split at aft
 . rename_i kvs hi
   obtain ⟨q,kk,hσ,hx,hkeys,hvals⟩:=S.kvN hi; refine ⟨.ref q,hσ,q,kk,rfl,hx,?_⟩; refine G6 S aft fun kd v G1 H1 g1 r1 S1 a1=>?_
   refine G6 S1 a1 fun dd v2 G2 H2 g2 r2 S2 a2=>?_
   split at a2
   . rename_i hn
     refine ⟨kk,kd,Rd.mono g2.h (Rd.mono g1.h hx),Fb S2.sub hn (r1.mono g2.g),hn,?_⟩; rcases Dm (k:=kd) hkeys hvals with ⟨n1,n2⟩ | ⟨d0,v0,n1,n2,rd⟩
     . rw [n1] at a2; rw [n2]
       exact a2 _ G2 H2 (Grow.refl S2.sub) r2
     . rw [n1] at a2; rw [n2]
       exact a2 _ G2 H2 (Grow.refl S2.sub) (rd.mono (g1.g.trans g2.g))
   . exact a2.elim
 . exact aft.elim
end
end Sm
end
noncomputable section
namespace Sm
open PySem PySem.Spec PyProof.Rows PySem.W L2
theorem Um {w:World} {kvs:List (PyData×V)} {xs:List (Value×Value)} {p:PyData×V} {q:Value×Value} (h:kvs.length=xs.length):U3 w (kvs++[p]) (xs++[q])=U3 w kvs xs++[⟨T4 w p.1,q.1,q.2⟩]:=by
 unfold U3
 rw [List.zipWith_append h]; rfl
theorem Paired.app' {α β:Type} {F:α->β->Prop} {a:α} {b:β} (h:F a b):∀ {l₁:List α} {l₂:List β},Paired F l₁ l₂->Paired F (l₁++[a]) (l₂++[b])
 | _,_,.nil=>.cons h .nil
 | _,_,.cons r t=>.cons r (Paired.app' h t)
noncomputable section
variable {X:Cx} {pins:List (Addr×Obj)} {σ:St} {H:Hp} {s:Shared} {a:Addr} {A:Around} {E:Value->Shared->Prop}
theorem oW {kvs:List (PyData×V)} {kd:PyData} {y d:V} {u r:Value} {Q:Value->Shared->Prop} (hu:A.units+16 < cLine) (I:Inv X pins σ H s) (e:H a=some (.dN kvs)) (rk:KRep H kd y) (hk:nkD kd=true) (hz:kvs.length < sizeLine) (ry:RelV y u) (rd:RelV d r)
   (h1:∀ v w' s',M8 kvs kd=some v->Inv X pins σ H s'->RelV v w'->Q w' s') (h0:∀ s',M8 kvs kd=none->Inv X pins σ (upd H a (.dN (kvs++[(kd,d)]))) s'->Q r s'):wpAny (model X.prog X.w) A (call (.builtin "dict.setdefault") [.ref a,u,r]) Q E s:=by
 obtain ⟨z,hd,nd,nk,xs,rel,ep,e1⟩:=I.hok a _ e
 have hl:=Paired.len' rel
 have hlen:(U3 X.w kvs xs).length<=sizeLine:=by
   unfold U3; rw [List.length_zipWith]; lia
 refine call_meetsIn F.slot_dict_setdefault ⟨_,e1,rfl⟩ F.entry_dict_setdefault (F.args_dict_setdefault_3 _ _ _) (Od a u r hd) ⟨_,ep,kvs.map (·.1),kd,hu,e1,hlen,Mo I rel nk nd,Ho I rk ry hk,fun i e tk hi he=>?_,fun h' tk hn hkeep hnew=>?_⟩
 . obtain ⟨p,q,g1,g2,⟨_,g5⟩,rfl⟩:=Kf rel he
   rw [List.getElem?_map,g1] at hi; have hp:p=(kd,p.2):=by
     have:p.1=kd:=by simpa using hi
     rw [<- this]
   rw [hp] at g1; exact h1 p.2 _ _ (Dq hk nk nd g1) (I.tok _) g5
 . refine h0 _ (Gq hk nk hn) ?_
   have ht:∀ b ys,H b=some (.tup ys)->(upd H a (.dN (kvs++[(kd,d)]))) b=some (.tup ys):=fun b ys z=>by
     rw [B3 (Mg z e (fun z=>by cases z))]; exact z
   refine I.write (x:=a) (e:=a) (t':=tk) (by rw [e]; exact trivial) (.inl rfl) (fun b o hb q=>hkeep b o hb q) ⟨_,hnew⟩ ⟨by rw [List.length_append]; show _+1<=_; lia,hd,?_,?_,xs++[(u,r)],?_,ep+1,?_⟩
   . rw [List.map_append,List.nodup_append]
     refine ⟨nd,by simp,fun x hx y hy=>?_⟩
     have:y=kd:=by simpa using hy
     subst this; exact fun z=>hn (z▸hx)
   . intro p hp
     rcases List.mem_append.mp hp with hp | hp
     . exact nk p hp
     . rw [List.mem_singleton.mp hp]; exact hk
   . exact Paired.app' ⟨⟨y,rk.mono ht,ry⟩,rd⟩ (Paired.mapP rel fun p q hZ2=>by obtain ⟨⟨v,z1,z2⟩,z3⟩:=hZ2; exact ⟨⟨v,z1.mono ht,z2⟩,z3⟩)
   . rw [Um hl]; exact hnew
end
def nE (td ty tx:TE):TE:=fun σ H Q=>td σ H fun x H1=>∃ a kvs,x=.ref a/\H1 a=some (.dN kvs)/\ty σ H1 fun y H2=>tx σ H2 fun z H3=>∃ kvs kd,H3 a=some (.dN kvs)/\KRep H3 kd y/\nkD kd=true/\kvs.length < sizeLine /\
 (∀ v,M8 kvs kd=some v->Q v H3)/\(M8 kvs kd=none->Q z (upd H3 a (.dN (kvs++[(kd,z)]))))
noncomputable section
variable {X:Cx} {o e f:Expr} {apos cpos:Pos} {td ty tx:TE}
theorem eO (hu:X.A.units+16 < cLine) (ho:PE X o td) (he:PE X e ty) (hf:PE X f tx) (m:M2 X o "setdefault" apos e f cpos):PE X (.Call (.Attribute o "setdefault" apos) [e,f] [] cpos) (nE td ty tx):=by
 intro pins s σ H Q I h
 refine wpAny_Call_method m.base m.few m.line PySem.F.plainAttrs_dict PySem.F.slot_dict_setdefault PySem.F.type_dict_setdefault (thn (ho pins s σ H _ I h) fun u s1 hZ2=>?_)
 obtain ⟨x,H1,I1,rx,a,kvs,ex,d,q1⟩:=hZ2
 subst ex
 obtain rfl:u=Value.ref a:=rx
 obtain ⟨_,_,_,_,_,_,ep,e1⟩:=I1.hok a _ d
 refine ⟨⟨_,e1,rfl⟩,fun b q=>by cases q; exact ⟨_,e1,rfl⟩,?_⟩
 rw [m.trees]
 refine Calls.callWith_builtin rfl (Calls.evalArgs_plain (Calls.spliced_cons (thn (he pins s1 σ H1 _ I1 q1) fun iv s2 hY82=>?_)))
 obtain ⟨y,H2,I2,ry,q2⟩:=hY82
 refine Calls.spliced_cons (thn (hf pins s2 σ H2 _ I2 q2) fun fv s3 hY83=>?_)
 obtain ⟨z,H3,I3,rz,kvs,kd,g,rk,hk,hz,q3,q4⟩:=hY83
 refine Calls.spliced_nil ?_
 exact oW hu I3 g rk hk hz ry rz (fun v w' s4 hv I4 rw'=>⟨v,H3,I4,rw',q3 v hv⟩) fun s4 hv I4=>⟨z,_,I4,rz,q4 hv⟩
end
noncomputable def Jx:List (PyData×PyData)->PyData->PyData->List (PyData×PyData)
 | [],k,v=>[(k,.list [v])]
 | p::r,k,v=>if PyData.eqv p.1 k=true then (match p.2 with | .list ds=>(p.1,.list (ds++[v])) | d=>(p.1,d))::r else p::Jx r k v
end Sm
end
noncomputable section
namespace Sm
open PySem PySem.Spec PyProof.Rows PySem.W L2
noncomputable def NL (G H H1:Hp):List (PyData×PyData)->List (PyData×Addr×List V)->Prop
 | [],[]=>True
 | p::kvs,r::kk=>p.1=r.1/\(∃ ds,p.2=.list ds/\RepL G ds r.2.2)/\(H r.2.1=some (.lst r.2.2)/\G r.2.1=none/\H1 r.2.1=none)/\NL G H H1 kvs kk
 | _,_=>False
noncomputable abbrev prs (kk:List (PyData×Addr×List V)):List (PyData×V):=kk.map fun r=>(r.1,.ref r.2.1)
noncomputable section
variable {G G' H H' H1:Hp}
theorem NL.keep (g:Same G G'):∀ {kvs:List (PyData×PyData)} {kk:List (PyData×Addr×List V)},(∀ r∈kk,H r.2.1=some (.lst r.2.2)->G r.2.1=none->H1 r.2.1=none->H' r.2.1=some (.lst r.2.2)/\G' r.2.1=none)->NL G H H1 kvs kk->NL G' H' H1 kvs kk
 | [],[],_,h=>h
 | [],_::_,_,h=>h
 | _::_,[],_,h=>h
 | _::_,r::_,k,⟨h1,⟨ds,h2,h3⟩,⟨h4,h5,h6⟩,h7⟩=>⟨h1,⟨ds,h2,h3.mono g⟩,⟨(k r (.head _) h4 h5 h6).1,(k r (.head _) h4 h5 h6).2,h6⟩,NL.keep g (fun r hr=>k r (.tail _ hr)) h7⟩
theorem NL.grow (g:Grow G H G' H') {kvs:List (PyData×PyData)} {kk:List (PyData×Addr×List V)} (h:NL G H H1 kvs kk):NL G' H' H1 kvs kk:=by
 refine h.keep g.g fun r _ e n _=>⟨g.h _ _ e,?_⟩
 cases q:G' r.2.1 with
 | none=>rfl
 | some u =>
   rcases g.fr _ u q with y | y | ⟨ys,rfl⟩
   . rw [n] at y; cases y
   . rw [e] at y; cases y
   . have:=g.gh _ _ q; rw [g.h _ _ e] at this; cases this
theorem NL.mem:∀ {kvs:List (PyData×PyData)} {kk:List (PyData×Addr×List V)},NL G H H1 kvs kk->∀ r∈kk,H r.2.1=some (.lst r.2.2)/\G r.2.1=none/\H1 r.2.1=none
 | [],[],_,_,m=>nomatch m
 | [],_::_,h,_,_=>h.elim
 | _::_,[],h,_,_=>h.elim
 | _::_,r::_,⟨_,_,h4,h7⟩,x,m=>by
   rcases List.mem_cons.mp m with rfl | m
   . exact h4
   . exact NL.mem h7 x m
theorem NL.keys:∀ {kvs:List (PyData×PyData)} {kk:List (PyData×Addr×List V)},NL G H H1 kvs kk->kvs.map (·.1)=(prs kk).map (·.1)
 | [],[],_=>rfl
 | [],_::_,h=>h.elim
 | _::_,[],h=>h.elim
 | _::_,_::_,⟨h1,_,_,h7⟩=>by
   simp only [List.map_cons,h1]; rw [NL.keys h7]
theorem NL.new {p:Addr} {y:V} {kd vd:PyData} (rv:Rep G vd y) (hp:H p=some (.lst [y])/\G p=none/\H1 p=none):∀ {kvs:List (PyData×PyData)} {kk:List (PyData×Addr×List V)},NL G H H1 kvs kk->M8 (prs kk) kd=none->NL G H H1 (Jx kvs kd vd) (kk++[(kd,p,[y])])
 | [],[],_,_=>⟨rfl,⟨[vd],rfl,RepL.cons rv rfl⟩,hp,trivial⟩
 | [],_::_,h,_=>h.elim
 | _::_,[],h,_=>h.elim
 | q::kvs,r::kk,⟨h1,h2,h4,h7⟩,e=>by
   unfold M8 at e; rw [show prs (r::kk)=(r.1,.ref r.2.1)::prs kk from rfl,List.find?_cons] at e
   cases z:PyData.eqv r.1 kd with
   | true=>rw [z] at e; cases e
   | false =>
     rw [z] at e; unfold Jx; rw [h1,z,if_neg (by decide)]; exact ⟨h1,h2,h4,NL.new rv hp h7 e⟩
theorem NL.put {kd:PyData} {v:V}:∀ {kvs:List (PyData×PyData)} {kk:List (PyData×Addr×List V)},NL G H H1 kvs kk->(kk.map (·.2.1)).Nodup->M8 (prs kk) kd=some v ->
   ∃ l xs,v=.ref l/\(∃ r∈kk,r.2=(l,xs))/\∀ (y:V) (vd:PyData),Rep G vd y->∃ kk',prs kk'=prs kk/\kk'.map (·.2.1)=kk.map (·.2.1)/\(∀ r∈kk',r.2.2.length<=xs.length+1\/r∈kk)/\NL G (upd H l (.lst (xs++[y]))) H1 (Jx kvs kd vd) kk'
 | [],[],_,_,e=>by cases e
 | [],_::_,h,_,_=>h.elim
 | _::_,[],h,_,_=>h.elim
 | q::kvs,r::kk,⟨h1,⟨ds,h2,h3⟩,⟨h4,h5,h6⟩,h7⟩,nd,e=>by
   rw [List.map_cons,List.nodup_cons] at nd; unfold M8 at e; rw [show prs (r::kk)=(r.1,.ref r.2.1)::prs kk from rfl,List.find?_cons] at e
   cases z:PyData.eqv r.1 kd with
   | true =>
     rw [z] at e; cases e; refine ⟨r.2.1,r.2.2,rfl,⟨r,.head _,rfl⟩,fun y vd rv=>⟨(r.1,r.2.1,r.2.2++[y])::kk,rfl,rfl,fun x hx=>?_,?_⟩⟩
     . rcases List.mem_cons.mp hx with rfl | hx
       . left; simp
       . exact .inr (.tail _ hx)
     . unfold Jx
       rw [h1,z,if_pos rfl,h2]; refine ⟨rfl,⟨ds++[vd],rfl,h3.append (RepL.cons rv rfl)⟩,⟨B7,h5,h6⟩,h7.keep (Same.refl _) fun x hx e n _=>⟨?_,n⟩⟩
       rw [B3 (fun w=>nd.1 (by rw [<- w]; exact List.mem_map_of_mem hx))]; exact e
   | false =>
     rw [z] at e; obtain ⟨l,xs,e1,⟨r0,m0,e0⟩,k⟩:=NL.put h7 nd.2 e; have hl:l∈kk.map (·.2.1):=List.mem_map.mpr ⟨r0,m0,by rw [e0]⟩
     refine ⟨l,xs,e1,⟨r0,.tail _ m0,e0⟩,fun y vd rv=>?_⟩
     obtain ⟨kk',k1,k2,k3,k4⟩:=k y vd rv; refine ⟨r::kk',congrArg (List.cons (r.1,V.ref r.2.1)) k1,congrArg (List.cons r.2.1) k2,fun x hx=>?_,?_⟩
     . rcases List.mem_cons.mp hx with rfl | hx
       . exact .inr (.head _)
       . rcases k3 x hx with w | w
         . exact .inl w
         . exact .inr (.tail _ w)
     . unfold Jx
       rw [h1,z,if_neg (by decide)]; exact ⟨h1,⟨ds,h2,h3⟩,⟨by rw [B3 (fun w=>nd.1 (by rw [w]; exact hl))]; exact h4,h5,h6⟩,k4⟩
noncomputable def shG (as:List Addr) (G H:Hp):Hp:=fun b=>open Classical in if b∈as then H b else G b
theorem dF {as:List Addr} {b:Addr} (h:b∈as):shG as G H b=H b:=by unfold shG; rw [if_pos h]
theorem Ge {as:List Addr} {b:Addr} (h:b∉as):shG as G H b=G b:=by unfold shG; rw [if_neg h]
theorem NL.same {kvs:List (PyData×PyData)} {kk:List (PyData×Addr×List V)} (h:NL G H H1 kvs kk):Same G (shG (kk.map (·.2.1)) G H):=fun b u e=>by
 by_cases m:b∈kk.map (·.2.1)
 . obtain ⟨r,hr,rfl⟩:=List.mem_map.mp m
   rw [(h.mem r hr).2.1] at e; cases e
 . rw [Ge m]; exact e
theorem NL.vals {as:List Addr} (s:Same G (shG as G H)):∀ {kvs:List (PyData×PyData)} {kk:List (PyData×Addr×List V)},NL G H H1 kvs kk->(∀ r∈kk,r.2.1∈as)->RepL (shG as G H) (kvs.map (·.2)) ((prs kk).map (·.2))
 | [],[],_,_=>rfl
 | [],_::_,h,_=>h.elim
 | _::_,[],h,_=>h.elim
 | q::kvs,r::kk,⟨_,⟨ds,h2,h3⟩,⟨h4,_,_⟩,h7⟩,m=>by
   rw [List.map_cons,h2]; exact RepL.cons ⟨r.2.1,r.2.2,rfl,.inl (by rw [dF (m r (.head _))]; exact h4),h3.mono s⟩ (NL.vals s h7 fun x hx=>m x (.tail _ hx))
end
theorem SR.forget {G H:Hp} {σ:St} {δ:Dn} (S:SR G H σ δ) (i:Nat):SR G H σ (δ.set i .un):=by
 have key:∀ (j:Nat) (s:Sl),(δ.set i .un)[j]? = some s->s=.un\/δ[j]? = some s:=fun j s e=>by
   rw [E2] at e
   split at e
   . cases e; exact .inl rfl
   . exact .inr e
 refine ⟨S.sub,by simp [S.len],fun j s e=>?_,fun j1 j2 a d1 d2 e1 e2 h1 h2=>?_⟩
 . rcases key j s e with rfl | e
   . trivial
   . exact S.sl j s e
 . rcases key j1 _ e1 with z | e1
   . cases z
   . rcases key j2 _ e2 with z | e2
     . cases z
     . exact S.ap j1 j2 a d1 d2 e1 e2 h1 h2
theorem SSt.forget {G0 H0 G H:Hp} {σ:St} {δ:Dn} (S:SSt G0 H0 G H σ δ) (i:Nat):SSt G0 H0 G H σ (δ.set i .un) :=
 ⟨S.gr,S.sr.forget i,fun j d a e h=>by
   rw [E2] at e
   split at e
   . cases e
   . exact S.fr j d a e h⟩
theorem OwnOk.off {G H H':Hp} {a:Addr} {d:PyData} (e:H' a=H a) (h:OwnOk G H a d):OwnOk G H' a d:=by
 cases d with
 | list ds=>obtain ⟨xs,q,r⟩:=h; exact ⟨xs,e.trans q,r⟩
 | dict kvs=>obtain ⟨xs,q,r⟩:=h; exact ⟨xs,e.trans q,r⟩
 | tuple xs=>exact OwnK.keep (Same.refl _) (fun o q=>e.trans q) h
 | _=>exact (show False from h).elim
theorem SSt.off {G0 H0 G H H':Hp} {σ:St} {δ:Dn} (S:SSt G0 H0 G H σ δ) (h0:Same H0 H') (hg:Same G H') (k:∀ (j:Nat) (d:PyData) (a:Addr),δ[j]? = some (.ow d)->σ[j]?.join=some (.ref a)->H' a=H a):SSt G0 H0 G H' σ δ:=by
 refine ⟨⟨S.gr.g,h0,hg,S.gr.fr⟩,⟨hg,S.sr.len,fun j s e=>?_,S.sr.ap⟩,S.fr⟩
 have hs:=S.sr.sl j s e
 cases s with
 | un=>trivial
 | sh d=>exact hs
 | fd _=>exact hs
 | ow d =>
   obtain ⟨a,e1,n1,ok⟩:=hs; exact ⟨a,e1,n1,ok.off (k j d a e e1)⟩
end Sm
end
noncomputable section
namespace Sm
open PySem PySem.Spec PyProof.Rows PySem.W L2
noncomputable def Og (δ:Dn) (t:Nat) (c:Dn->Res Bool) (fk fv:Dn->Res PyData):List PyData->List (PyData×PyData)->Res Kvs
 | [],kvs=>.ok kvs
 | d::ds,kvs=>match c (δ.set t (.sh d)) with
   | .ok true=>match fk (δ.set t (.sh d)) with
     | .ok kd=>match fv (δ.set t (.sh d)) with
       | .ok vd=>if nkD kd=true then Og δ t c fk fv ds (Jx kvs kd vd) else .no
       | _=>.no
     | _=>.no
   | .ok false=>Og δ t c fk fv ds kvs
   | _=>.no
noncomputable def iX (i t:Nat) (src:Dn->Res (List PyData)) (c:Dn->Res Bool) (fk fv:Dn->Res PyData):Dn->Out:=fun δ=>match δ[i]? with
 | some (.ow (.tuple [.dict [],.none]))=>I8 (src (δ.set i .un)) fun ds=>if ds.length < 1000/\i≠t then (match Og ((δ.set i .un).set t .un) t c fk fv ds [] with
   | .ok kvs=>.nx ((δ.set i (.ow (.tuple [.dict kvs,.none]))).set t .un)
   | _=>.no) else .no
 | _=>.no
structure GrpAt (G1 H0 H1:Hp) (i:Nat) (q:Addr) (δv:Dn) (n:Nat) (τ:St) (Hc:Hp) (kvs:List (PyData×PyData)):Prop where
 ex:∃ Gc kk,SSt G1 H0 Gc Hc τ δv/\Gc q=none/\Hc q=some (.dN (prs kk))/\NL Gc Hc H1 kvs kk/\(kk.map (·.2.1)).Nodup/\kk.length<=n/\∀ r∈kk,r.2.2.length<=n
 hi:τ[i]? = some (some (.ref q))
 ap:∀ (j:Nat) (d:PyData) (a:Addr),δv[j]? = some (.ow d)->τ[j]?.join=some (.ref a)->a≠q/\∃ o,H1 a=some o
 kp:∀ b o,H1 b=some o->∃ o',Hc b=some o'
theorem Lk {H1 H:Hp} {p:Addr} {o:HO} (h:∀ b o,H1 b=some o->∃ o',H b=some o'):∀ b u,H1 b=some u->∃ o',(upd H p o) b=some o':=fun b u e=>by
 by_cases z:b=p
 . subst z; exact ⟨_,B7⟩
 . rw [B3 z]; exact h b u e
theorem P7 {H1 H H':Hp} (s:Same H H') (h:∀ b o,H1 b=some o->∃ o',H b=some o'):∀ b u,H1 b=some u->∃ o',H' b=some o':=fun b u e=>by
 obtain ⟨o',z⟩:=h b u e
 exact ⟨o',s _ _ z⟩
theorem Grow.stay {G H G' H':Hp} (g:Grow G H G' H') {q:Addr} {o:HO} (n:G q=none) (e:H q=some o) (h:∀ ys,o≠.tup ys):G' q=none:=by
 cases z:G' q with
 | none=>rfl
 | some u =>
   rcases g.fr q u z with y | y | ⟨ys,rfl⟩
   . rw [n] at y; cases y
   . rw [e] at y; cases y
   . have:=g.gh _ _ z; rw [g.h _ _ e] at this; cases this; exact absurd rfl (h ys)
theorem Be {H0 H:Hp} {p:Addr} {o:HO} (s:Same H0 H) (h:H0 p=none):Same H0 (upd H p o):=fun b u e=>by
 rw [B3 (D6 e h)]; exact s _ _ e
theorem OwnOk.monoG {G G' H:Hp} {a:Addr} {d:PyData} (g:Same G G') (h:OwnOk G H a d):OwnOk G' H a d:=by
 cases d with
 | list ds=>obtain ⟨xs,q,r⟩:=h; exact ⟨xs,q,r.mono g⟩
 | dict kvs=>obtain ⟨xs,q,k,r⟩:=h; exact ⟨xs,q,k,r.mono g⟩
 | tuple xs=>exact OwnK.keep g (fun o q=>q) h
 | _=>exact (show False from h).elim
noncomputable section
variable {P:Program} {w:World} {K:PySem.W.Frag} {mg:Str->Option Value} {base:Heap} {X:Cx} {N:List Str} {sc:Scope} {k:Nat} {df:Bool} {E:EK} {p px pl ap1 cp1 ap2 cp2 ep ip pos:Pos} {ke ve ce iter:Expr} {fk fv:Dn->Res PyData} {c:Dn->Res Bool} {src:Dn->Res (List PyData)} {x y:Str}
theorem s_grp (C:Cxt P w K mg base X N sc k df) (i t:Nat) (ht:okSet N sc df t y=true) (h:okVar N sc i x=true) (hi:DI X E (.Name y px) iter src) (hc:DT X E ce c) (hk:DE X E ke fk) (hv:DE X E ve fv)
   (m2:M2 X (.Name x p) "setdefault" ap1 ke (.List [] pl) cp1) (hs:∀ x,foldedSetIterable iter X.env x=pure x)
   (hbase:attributeBase (.Call (.Attribute (.Name x p) "setdefault" ap1) [ke,.List [] pl] [] cp1) "append" X.env (eval (.Call (.Attribute (.Name x p) "setdefault" ap1) [ke,.List [] pl] [] cp1) X.env)=eval (.Call (.Attribute (.Name x p) "setdefault" ap1) [ke,.List [] pl] [] cp1) X.env)
   (hfew:((backTo cp2 (starEach [ve] X.env)).all (fun x => !x.1)&&(backToKw cp2 (keywordEach [] X.env)).all (fun x=>x.1.isSome)&&decide ([ve].length+([]:List Keyword).length+(if ([]:List Keyword).isEmpty then 0 else 1) < 30))=true)
   (hline:(ap2.endLine==cp2.line)=true) (hst:starEach [ve] X.env=(false,eval ve X.env)::starEach [] X.env) (hplain:(backTo cp2 (starEach [] X.env)).any (·.1)=false)
   (hsw:swapsWith (.Call (.Attribute (.Call (.Attribute (.Name x p) "setdefault" ap1) [ke,.List [] pl] [] cp1) "append" ap2) [ve] [] cp2) none ep.line X.env=pure false) :
   DS X E (.For (.Name y px) iter [.If ce [.Expr (.Call (.Attribute (.Call (.Attribute (.Name x p) "setdefault" ap1) [ke,.List [] pl] [] cp1) "append" ap2) [ve] [] cp2) ep] [] ip] [] pos) (iX i t src c fk fv):=fun G0 H0=>by
 obtain ⟨d1,d2,d3,d4⟩:=okSet.ok C ht
 have app:=Jz (pos:=ep) (Mb PySem.F.plainAttrs_list PySem.F.slot_list_append PySem.F.type_list_append Hr (eO (by have:=C.hu; lia) (okVar.pe C h (p:=p)) hk (Rj (pos:=pl) L9) m2) (E1 hv L9 hst) hbase hfew hline hst hplain) hsw
 refine PS.imp (eI (pos:=pos) C.own C.calm hi (Af d1 d2 d3 d4) (Eb (eG (pos:=ip) hc (Eb app) Rg)) hs) fun D σ H hh=>?_
 obtain ⟨G,δ,S,aft⟩:=hh
 unfold iX at aft
 split at aft
 . rename_i hsl
   obtain ⟨q,hσ,hgq,ho⟩:=S.sr.own hsl; obtain ⟨kk0,hx,hkeys,_⟩:=(show OwnK G H q [.dict [],.none] from ho)
   have hk0:kk0=[]:=by
     cases kk0 with
     | nil=>rfl
     | cons _ _=>cases hkeys
   subst hk0; have hil:i < δ.length:=(List.getElem?_eq_some_iff.mp hsl).1; have hq0:H0 q=none:=S.fr i _ q hsl (by rw [hσ]; rfl)
   refine iD (S.forget i) aft fun ds J G1 H1 gr W S1 a1=>?_
   split at a1
   . rename_i hcond
     obtain ⟨hlen,hit⟩:=hcond; have g01:=S1.gr
     cases eout:Og ((δ.set i .un).set t .un) t c fk fv ds [] with
     | ok out =>
       rw [eout] at a1; have S2:=(S1.forget t).rebase g01 (Same.refl _)
       generalize hδv:(δ.set i .un).set t .un=δv at *
       have apv:∀ (j:Nat) (d:PyData) (a:Addr),δv[j]? = some (.ow d)->δ[j]? = some (.ow d)/\j≠i:=fun j d a e=>by
         rw [<- hδv,E2] at e
         split at e
         . cases e
         . rw [E2] at e
           split at e
           . cases e
           . rename_i hn
             exact ⟨e,fun z=>by subst z; exact hn ⟨rfl,hil⟩⟩
       have hG1q:G1 q=none:=by
         cases z:G1 q with
         | none=>rfl
         | some u =>
           rcases gr.fr q u z with y | y | ⟨ys,rfl⟩
           . rw [hgq] at y; cases y
           . rw [hx] at y; cases y
           . have:=gr.gh _ _ z; rw [gr.h _ _ hx] at this; cases this
       refine ⟨fun n m τ Hc=>m=ds.length - n/\n<=ds.length/\∃ kvs,GrpAt G1 H0 H1 i q δv n τ Hc kvs/\Og δv t c fk fv (ds.drop n) kvs=.ok out,⟨_,rfl,Nat.zero_le _,[],⟨⟨G1,[],S2,hG1q,gr.h _ _ hx,trivial,.nil,Nat.le_refl _,fun _ h=>nomatch h⟩,hσ,fun j d a e1 e2=>?_,fun b o e=>⟨o,e⟩⟩,by rw [List.drop_zero]; exact eout⟩,?_⟩
       . obtain ⟨e3,hne⟩:=apv j d a e1
         refine ⟨fun z=>hne (S.sr.ap j i q d _ e3 hsl (z▸e2) (by rw [hσ]; rfl)),?_⟩
         obtain ⟨a',h1,_,h3⟩:=S.sr.sl j _ e3; rw [e2] at h1; cases h1; obtain ⟨o,z⟩:=h3.some; exact ⟨o,gr.h _ _ z⟩
       rintro n m τ Hc ⟨rfl,hn,kvs,⟨⟨Gc,kk,Sc,gq,dq,nl,nd,kl,rl⟩,hτ,ap,kp⟩,eg⟩
       by_cases hlt:n < ds.length
       . have hd:ds[n]? = some ds[n]:=List.getElem?_eq_getElem hlt
         rw [List.drop_eq_getElem_cons hlt] at eg; unfold Og at eg; refine .inr ⟨W.go n Hc hlt (Sc.gr.g.trans Sc.sr.sub),fun τ2 H2=>∃ kvs,GrpAt G1 H0 H1 i q δv (n+1) τ2 H2 kvs/\Og δv t c fk fv (ds.drop (n+1)) kvs=.ok out,fun τ2 H2 z=>⟨_,by lia,rfl,hlt,z⟩,fun v H'' hy=>?_⟩
         obtain ⟨G3,g3,r3⟩:=W.yld n _ Gc Hc v H'' hd Sc.gr.g Sc.sr.sub hy; have S3:=(Sc.grow g3).set_sh (i:=t) r3; have nl3:=nl.grow g3; have dq3:=g3.h _ _ dq; have gq3:G3 q=none:=g3.stay gq dq fun ys z=>by cases z
         have h01:Same H0 H1:=S1.gr.h; have hback:((δv.set t (.sh ds[n])).set t .un)=δv:=by rw [<- hδv]; simp
         have hτ':(τ.set t (some v))[i]? = some (some (.ref q)):=by rw [List.getElem?_set_ne (Ne.symm hit)]; exact hτ
         have htv:∀ (j:Nat) (d:PyData),δv[j]? = some (.ow d)->j≠t:=fun j d e z=>by
           subst z; rw [<- hδv,E2] at e
           split at e
           . cases e
           . rename_i hn
             have:=(List.getElem?_eq_some_iff.mp e).1; rw [List.length_set] at this; exact hn ⟨rfl,by rw [List.length_set]; exact this⟩
         have ap':∀ (j:Nat) (d:PyData) (a:Addr),δv[j]? = some (.ow d)->(τ.set t (some v))[j]?.join=some (.ref a)->a≠q/\∃ o,H1 a=some o:=fun j d a e1 e2=>by
           rw [List.getElem?_set_ne (Ne.symm (htv j d e1))] at e2; exact ap j d a e1 e2
         have apb:∀ (j:Nat) (d:PyData) (a:Addr),(δv.set t (.sh ds[n]))[j]? = some (.ow d)->(τ.set t (some v))[j]?.join=some (.ref a)->a≠q/\∃ o,H1 a=some o:=fun j d a e1 e2=>by
           rw [E2] at e1
           split at e1
           . cases e1
           . exact ap' j d a e1 e2
         show tIfS _ _ _ _ (τ.set t (some v)) H''
         generalize hδb:δv.set t (.sh ds[n])=δb at *
         generalize τ.set t (some v)=τ' at *
         have fin:∀ (Gz Hz:Hp) (kz:List (PyData×PyData)) (kkz:List (PyData×Addr×List V)),SSt G1 H0 Gz Hz τ' δb->Gz q=none->Hz q=some (.dN (prs kkz))->NL Gz Hz H1 kz kkz->(kkz.map (·.2.1)).Nodup->kkz.length<=n+1->(∀ r∈kkz,r.2.2.length<=n+1)->(∀ b o,H1 b=some o->∃ o',Hz b=some o')->GrpAt G1 H0 H1 i q δv (n+1) τ' Hz kz:=fun Gz Hz kz kkz s1 s2 s3 s4 s5 s6 s7 s8=>by
           have:=s1.forget t; rw [hback] at this; exact ⟨⟨Gz,kkz,this,s2,s3,s4,s5,s6,s7⟩,hτ',ap',s8⟩
         refine ⟨G3,δb,S3.sr,?_⟩
         cases ec:c δb with
         | exc _=>rw [ec] at eg; cases eg
         | no=>rw [ec] at eg; cases eg
         | ok bb =>
           rw [ec] at eg; intro G4 H4 g4; have S4:=S3.grow g4; have nl4:=nl3.grow g4; have dq4:=g4.h _ _ dq3; have kp4:=P7 g4.h (P7 g3.h kp); have gq4:G4 q=none:=g4.stay gq3 dq3 fun ys z=>by cases z
           cases bb with
           | false =>
             rw [if_neg (by decide)]; exact ⟨kvs,fin G4 H4 kvs kk S4 gq4 dq4 nl4 nd (by lia) (fun r hr=>Nat.le_succ_of_le (rl r hr)) kp4,eg⟩
           | true =>
             rw [if_pos rfl]; dsimp only at eg
             cases efk:fk δb with
             | exc _=>rw [efk] at eg; cases eg
             | no=>rw [efk] at eg; cases eg
             | ok kd =>
               rw [efk] at eg; dsimp only at eg
               cases efv:fv δb with
               | exc _=>rw [efv] at eg; cases eg
               | no=>rw [efv] at eg; cases eg
               | ok vd =>
                 rw [efv] at eg; dsimp only at eg
                 split at eg
                 . rename_i hnk
                   refine ⟨.ref q,hτ',q,prs kk,rfl,dq4,G4,δb,S4.sr,?_⟩; rw [efk]; intro y5 G5 H5 g5 r5; have S5:=S4.grow g5; refine ⟨Nat.zero_le _,fun p hp=>?_⟩
                   have g6:Grow G5 H5 G5 (upd H5 p (.lst [])):=Grow.own S5.sr.sub hp; have S6:=S5.grow g6; have nl6:=(nl4.grow g5).grow g6; have dq5:=g5.h _ _ dq4; have hpq:q≠p:=D6 dq5 hp; have dq6:(upd H5 p (.lst [])) q=some (.dN (prs kk)):=g6.h _ _ dq5; have gq5:G5 q=none:=g5.stay gq4 dq4 fun ys z=>by cases z
                   have hz:(prs kk).length < sizeLine:=by
                     have:(1000:Nat)<=sizeLine:=by decide
                     rw [List.length_map]; lia
                   refine ⟨prs kk,kd,dq6,Fb S6.sr.sub hnk r5,hnk,hz,fun v0 hv0=>?_,fun hn0=>?_⟩
                   . obtain ⟨l,xs,e1,⟨r0,m0,e0⟩,_⟩:=NL.put nl6 nd hv0
                     subst e1; have hm6:=nl6.mem r0 m0; rw [e0] at hm6; refine ⟨.inl ⟨rfl,xs,.inl (.inl hm6.1)⟩,G5,δb,S6.sr,?_⟩; rw [efv]; intro y7 G7 H7 g7 r7; have S7:=S6.grow g7; have nl7:=nl6.grow g7; have dq7:=g7.h _ _ dq6; have gq7:G7 q=none:=g7.stay gq5 dq6 fun ys z=>by cases z
                     have hm7:=nl7.mem r0 m0; rw [e0] at hm7; have hxs:xs.length<=n:=by have:=rl r0 m0; rw [e0] at this; exact this
                     have hql:q≠l:=Mg dq7 hm7.1 fun z=>by cases z
                     obtain ⟨l',xs',e1',⟨r1,m1,e1r⟩,kp⟩:=NL.put nl7 nd hv0
                     cases e1'; have hm1:=nl7.mem r1 m1; rw [e1r] at hm1; have exs:xs'=xs:=by have:=hm1.1.symm.trans hm7.1; cases this; rfl
                     subst exs; obtain ⟨kk',k1,k2,k3,k4⟩:=kp y7 vd r7; refine ⟨l,xs',y7,rfl,rfl,hm7.1,Nat.lt_of_le_of_lt hxs (Nat.lt_of_lt_of_le (show n < 1000 by lia) (by decide)),Jx kvs kd vd,fin G7 _ _ kk' (S7.off (Be S7.gr.h (h01.free hm7.2.2)) (Be S7.sr.sub hm7.2.1) fun j d a z1 z2=>?_) gq7 (by rw [B3 hql,k1]; exact dq7) k4 (by rw [k2]; exact nd) ?_ (fun r hr=>?_) (Lk (P7 g7.h (P7 g6.h (P7 g5.h kp4)))),eg⟩
                     . obtain ⟨_,o,ho⟩:=apb j d a z1 z2
                       rw [B3 (D6 ho hm7.2.2)]
                     . have:=congrArg List.length k2
                       rw [List.length_map,List.length_map] at this
                       lia
                     . rcases k3 r hr with z | z
                       . lia
                       . exact Nat.le_succ_of_le (rl r z)
                   . have hH1p : H1 p = none := by
                       cases z:H1 p with
                       | none=>rfl
                       | some u =>
                         obtain ⟨o',w⟩:=P7 g5.h kp4 p u z; rw [hp] at w; cases w
                     have hG5p:G5 p=none:=S5.sr.sub.free hp; have hp6:(upd H5 p (.lst [])) p=some (.lst []):=B7; have S7:SSt G1 H0 G5 (upd (upd H5 p (.lst [])) q (.dN (prs kk++[(kd,.ref p)]))) τ' δb:=S6.off (Be S6.gr.h hq0) (Be S6.sr.sub gq5) fun j d a z1 z2=>by rw [B3 (apb j d a z1 z2).1]
                     have hp7:(upd (upd H5 p (.lst [])) q (.dN (prs kk++[(kd,.ref p)]))) p=some (.lst []):=by rw [B3 (Ne.symm hpq)]; exact hp6
                     refine ⟨.inl ⟨rfl,[],.inl (.inl hp7)⟩,G5,δb,S7.sr,?_⟩; rw [efv]; intro y8 G8 H8 g8 r8; have S8:=S7.grow g8; have hp8:=g8.h _ _ hp7; have gp8:G8 p=none:=g8.stay hG5p hp7 fun ys z=>by cases z
                     have dq7:(upd (upd H5 p (.lst [])) q (.dN (prs kk++[(kd,.ref p)]))) q=some (.dN (prs kk++[(kd,.ref p)])):=B7; have dq8:=g8.h _ _ dq7; have gq8:G8 q=none:=g8.stay gq5 dq7 fun ys z=>by cases z
                     have nl7:NL G5 (upd (upd H5 p (.lst [])) q (.dN (prs kk++[(kd,.ref p)]))) H1 kvs kk:=nl6.keep (Same.refl _) fun r _ e n _=>⟨by rw [B3 (Mg e dq6 fun z=>by cases z)]; exact e,n⟩
                     have hne:∀ r∈kk,r.2.1≠p:=fun r hr=>D6 ((nl4.grow g5).mem r hr).1 hp
                     have nl9:NL G8 (upd H8 p (.lst [y8])) H1 kvs kk:=(nl7.grow g8).keep (Same.refl _) fun r hr e n _=>⟨by rw [B3 (hne r hr)]; exact e,n⟩
                     refine ⟨p,[],y8,rfl,rfl,hp8,by show 0 < sizeLine; decide,Jx kvs kd vd,fin G8 _ _ (kk++[(kd,p,[y8])]) (S8.off (Be S8.gr.h (h01.free hH1p)) (Be S8.sr.sub gp8) fun j d a z1 z2=>?_) gq8 ?_ (NL.new r8 ⟨B7,gp8,hH1p⟩ nl9 hn0) ?_ (by rw [List.length_append]; show _+1<=_; lia) (fun r hr=>?_) (Lk (P7 g8.h (Lk (P7 g6.h (P7 g5.h kp4))))),eg⟩
                     . obtain ⟨_,o,ho⟩:=apb j d a z1 z2
                       show (upd H8 p (.lst ([]++[y8]))) a=H8 a
                       rw [B3 (D6 ho hH1p)]
                     . show (upd H8 p (.lst ([]++[y8]))) q=_
                       rw [B3 hpq,dq8]; unfold prs; rw [List.map_append]; rfl
                     . rw [List.map_append,List.nodup_append]
                       refine ⟨nd,by simp,fun a ha b hb=>?_⟩
                       obtain ⟨r,hr,rfl⟩:=List.mem_map.mp ha; have:b=p:=by simpa using hb
                       subst this; exact hne r hr
                     . rcases List.mem_append.mp hr with hr | hr
                       . exact Nat.le_succ_of_le (rl r hr)
                       . rw [List.mem_singleton.mp hr]; show 1<=n+1; lia
                 . cases eg
       . refine .inl ⟨W.stop n Hc (Nat.not_lt.mp hlt) (Sc.gr.g.trans Sc.sr.sub),?_⟩
         rw [List.drop_eq_nil_of_le (Nat.not_lt.mp hlt)] at eg; cases eg; have hq':q∉kk.map (·.2.1):=fun z=>by
           obtain ⟨r,hr,e⟩:=List.mem_map.mp z; have:=(nl.mem r hr).1; rw [e,dq] at this; cases this
         have Su:=Sc.unbase g01; have sm:=nl.same; have gh:Same (shG (kk.map (·.2.1)) Gc Hc) Hc:=fun b u e=>by
           by_cases m:b∈kk.map (·.2.1)
           . rw [dF m] at e; exact e
           . rw [Ge m] at e; exact Sc.sr.sub _ _ e
         refine a1 τ (shG (kk.map (·.2.1)) Gc Hc) Hc ⟨⟨Su.gr.g.trans sm,Su.gr.h,gh,fun b o e=>?_⟩,⟨gh,?_,fun j s e=>?_,fun j1 j2 a e1' e2' z1 z2 h1 h2=>?_⟩,fun j d a e h=>?_⟩
         . by_cases m:b∈kk.map (·.2.1)
           . obtain ⟨r,hr,rfl⟩:=List.mem_map.mp m
             exact .inr (.inl (S1.gr.h.free (nl.mem r hr).2.2))
           . rw [Ge m] at e; exact Su.gr.fr b o e
         . have:=Sc.sr.len
           rw [<- hδv] at this
           simpa using this
         . rw [E2] at e
           split at e
           . cases e; trivial
           . rename_i hjt
             rw [E2] at e
             split at e
             . rename_i hji
               cases e; rw [<- hji.1,hτ]; exact ⟨q,rfl,by rw [Ge hq']; exact gq,prs kk,dq,nl.keys,nl.vals sm fun r hr=>List.mem_map_of_mem hr⟩
             . rename_i hji
               have ev:δv[j]? = some s:=by
                 rw [<- hδv,E2,if_neg (by simpa using hjt),E2,if_neg hji]; exact e
               have hs:=Sc.sr.sl j s ev
               cases s with
               | un=>trivial
               | sh d=>obtain ⟨v,e1,r1⟩:=hs; exact ⟨v,e1,r1.mono sm⟩
               | fd _=>exact FdOk.mono sm hs
               | ow d =>
                 obtain ⟨a,e1,n1,ok⟩:=hs; have hna:a∉kk.map (·.2.1):=fun z=>by
                   obtain ⟨r,hr,er⟩:=List.mem_map.mp z; obtain ⟨_,o,ho⟩:=ap j d a ev e1; have:=(nl.mem r hr).2.2; rw [er,ho] at this; cases this
                 exact ⟨a,e1,by rw [Ge hna]; exact n1,ok.monoG sm⟩
         . have key : ∀ (j : Nat) (d : PyData), ((δ.set i (.ow (.tuple [.dict out, .none]))).set t .un)[j]? = some (.ow d) -> j = i \/ δv[j]? = some (.ow d) := fun j d e => by
             rw [E2] at e
             split at e
             . cases e
             . rename_i hjt
               rw [E2] at e
               split at e
               . rename_i hji; exact .inl hji.1.symm
               . rename_i hji
                 exact .inr (by rw [<- hδv,E2,if_neg (by simpa using hjt),E2,if_neg hji]; exact e)
           rcases key j1 _ z1 with rfl | y1
           . rcases key j2 _ z2 with rfl | y2
             . rfl
             . rw [hτ] at h1; cases h1
               exact absurd rfl (ap j2 _ _ y2 h2).1
           . rcases key j2 _ z2 with rfl | y2
             . rw [hτ] at h2; cases h2
               exact absurd rfl (ap j1 _ _ y1 h1).1
             . exact Sc.sr.ap j1 j2 a _ _ y1 y2 h1 h2
         . rw [E2] at e
           split at e
           . cases e
           . rename_i hjt
             rw [E2] at e
             split at e
             . rename_i hji
               rw [<- hji.1,hτ] at h; cases h
               exact hq0
             . rename_i hji
               exact Sc.fr j d a (by rw [<- hδv,E2,if_neg (by simpa using hjt),E2,if_neg hji]; exact e) h
     | exc _=>rw [eout] at a1; exact (show False from a1).elim
     | no=>rw [eout] at a1; exact (show False from a1).elim
   . exact (show False from a1).elim
 . exact (show False from aft).elim
end
end Sm
end
noncomputable section
namespace Sm
open PySem PySem.Spec PyProof.Rows PySem.W L2
theorem eS {X:Cx} {pos:Pos}:PE X (.Dict [] [] pos) (fun σ H Q=>∀ q,H q=none->Q (.ref q) (upd H q (.dN []))):=by
 intro pins s σ H Q I h
 refine wpAny_mono (eR (X:=X) (pos:=pos) pins s σ H (fun v H1=>∃ q,v=.ref q/\H q=none/\H1=upd H q (.dT [])) I fun q hq=>⟨q,rfl,hq,rfl⟩) (fun v s1 hh=>?_) fun _ _ e=>e
 obtain ⟨x,H1,I1,rx,q,rfl,hq,rfl⟩:=hh
 have hx:(upd H q (.dT [])) q=some (.dT []):=B7
 obtain ⟨z,hs,xs,rel,o,es,ep,e1,hex,hdat,hes,hnd⟩:=I1.hok q _ hx
 have hxs:xs=[]:=by
   cases rel; rfl
 subst hxs
 have hes':es = #[]:=by
   have:es.toList=[]:=hes; exact Array.toList_eq_nil_iff.mp this
 subst hes'
 obtain ⟨oc,od,odt,osl⟩:=o
 obtain ⟨c1,c2,c3⟩:=hex
 simp only at c1 c2 c3 hdat
 subst c1 c2 c3 hdat
 refine ⟨.ref q,upd H q (.dN []),?_,rx,h q hq⟩
 have:=I1.write (x:=q) (e:=q) (o:=.dN []) (t':=s1.toks) (h':=s1.heap) (by rw [hx]; exact trivial) (.inl rfl) (fun b u _ w=>w) ⟨_,e1⟩ ⟨Nat.zero_le _,hs,.nil,(fun _ h=>nomatch h),[],.nil,ep,e1⟩
 rw [Qo] at this
 exact this
noncomputable def Fa (i:Nat):Dn->Out:=fun δ=>.nx (δ.set i (.ow (.tuple [.dict [],.none])))
noncomputable section
variable {P:Program} {w:World} {K:PySem.W.Frag} {mg:Str->Option Value} {base:Heap} {X:Cx} {N:List Str} {sc:Scope} {k:Nat} {df:Bool} {E:EK} {pos p p2:Pos} {a:Expr} {x:Str}
theorem Rc (C:Cxt P w K mg base X N sc k df) (i:Nat) (ho:okSet N sc df i x=true) (hs:swapsWith (.Dict [] [] p2) (some (.Name x p)) pos.line X.env=pure false:=by rfl):DS X E (.Assign [.Name x p] (.Dict [] [] p2) pos) (Fa i):=fun G0 H0=>by
 obtain ⟨h1,h2,h3,h4⟩:=okSet.ok C ho
 refine PS.imp (Hl h1 h2 h3 eS hs h4) fun D σ H hh q hq=>?_
 obtain ⟨G,δ,S,a⟩:=hh
 have S1:=S.grow (Grow.own (o:=.dN []) S.sr.sub hq)
 exact a _ G _ (S1.set_ow (S.gr.h.free hq) (S.sr.sub.free hq) (show OwnK G _ q [.dict [],.none] from ⟨[],B7,rfl,rfl⟩) (Fk S hq))
end
def AftN (E:EK) (G H:Hp) (r:Res Kvs) (Q:VK):Prop:=match r with
 | .ok kvs=>∀ p G' H',Grow G H G' H'->H p=none->G' p=none->OwnOk G' H' p (.tuple [.dict kvs,.none])->Q (.ref p) H'
 | .exc c=>∀ G' H',Grow G H G' H'->E c H'
 | .no=>False
def tN (E:EK) (f:Dn->Res Kvs):TE:=fun σ H Q=>∃ G δ,SR G H σ δ/\AftN E G H (f δ) Q
abbrev DN (X:Cx) (E:EK) (e:Expr) (f:Dn->Res Kvs):Prop:=PE X e (tN E f)
def DSN (X:Cx) (E:EK) (sts:List Stmt) (g:Dn->Res Kvs):Prop:=∀ G0 H0,PSs X sts (fun D σ H=>∃ G δ,SSt G0 H0 G H σ δ/\AftN E G0 H0 (g δ) D.rt)
noncomputable def Ty (i:Nat):Dn->Res Kvs:=fun δ=>match δ[i]? with
 | some (.ow (.tuple [.dict kvs,.none]))=>.ok kvs
 | _=>.no
def spN (n:Nat) (m:List PyData->Res Kvs):Sp:=fun vs H Q _=>∃ G ds kvs,Same G H/\RepL G ds vs/\ds.length=n/\m ds=.ok kvs/\∀ p G' H',Grow G H G' H'->H p=none->G' p=none->OwnOk G' H' p (.tuple [.dict kvs,.none])->Q (.ref p) H'
structure FnN (P:Program) (w:World) (K:PySem.W.Frag) (mg:Str->Option Value) (base:Heap) (x:Str) (k n:Nat) (m:List PyData->Res Kvs):Prop where
 ex:∃ f fd ps,ps.length=n/\FnOk P w K mg base CX0 k f fd ps (spN n m)/\mg x=some (.ref f)/\PySem.W.keepIn K (.ref f)=true/\Binds K fd ps []
noncomputable def Ct (i:Nat) (f:Dn->Res Kvs):Dn->Out:=fun δ=>I8 (f δ) fun kvs=>.nx (δ.set i (.ow (.tuple [.dict kvs,.none])))
noncomputable section
variable {P:Program} {w:World} {K:PySem.W.Frag} {mg:Str->Option Value} {base:Heap} {X:Cx} {N:List Str} {sc:Scope} {k:Nat} {df:Bool} {E:EK} {pos p:Pos} {e:Expr} {es:List Expr} {fs:Dn->Res (List PyData)} {fx:Dn->Res Kvs} {x:Str} {st:Stmt} {sts:List Stmt} {g1:Dn->Out} {g2:Dn->Res Kvs}
theorem fJ (C:Cxt P w K mg base X N sc k df) (i:Nat) (h:okVar N sc i x=true):DSN X E [.Return (some (.Name x p)) pos] (Ty i):=fun G0 H0=>by
 refine PSs.imp (Eb (Rh (okVar.pe C h))) fun D σ H hh=>?_
 obtain ⟨G,δ,S,a⟩:=hh
 unfold Ty at a
 split at a
 . rename_i kvs hi
   obtain ⟨q,hσ,hg,ho⟩:=S.sr.own hi; exact ⟨.ref q,hσ,a q G H S.gr (S.fr i _ q hi (by rw [hσ]; rfl)) hg ho⟩
 . exact (show False from a).elim
theorem Hq (h1:DS X E st g1) (h2:DSN X E sts g2):DSN X E (st::sts) (Kk g1 g2):=fun G0 H0=>by
 refine PSs.imp (Gj (h1 G0 H0) (h2 G0 H0)) fun D σ H hh=>?_
 obtain ⟨G,δ,S,a⟩:=hh
 refine ⟨G,δ,S,?_⟩
 unfold Kk at a
 cases e:g1 δ with
 | nx δ'=>rw [e] at a; exact fun σ' G' H' S'=>⟨G',δ',S',a⟩
 | exc d=>rw [e] at a; exact a
 | rt d=>rw [e] at a; exact (show False from a).elim
 | bk d=>rw [e] at a; exact (show False from a).elim
 | ct d=>rw [e] at a; exact (show False from a).elim
 | no=>rw [e] at a; exact (show False from a).elim
theorem fn_N {x:Str} {st:Stmt} {ps:List Str} {n:Nat} {go:Dn->Res Kvs} {m:List PyData->Res Kvs} (F:Def K mg x st ps) (S:FnScope N ps (A5 st)) (hn:ps.length=n)
   (body:∀ X,Cxt P w K mg base X N (A5 st) k true->DSN X E0k (B5 st) go) (hm:m=fnW N go):FnN P w K mg base x (k+1) n m:=by
 obtain ⟨f,fd,F,hmg,hb⟩:=F.ex
 refine ⟨f,fd,ps,hn,?_,hmg,F.kp,hb⟩
 subst hm
 refine F.ok S (fun vs H Q E h=>?_) (fun cdv A outer s H vs Q E hr h=>?_)
 . obtain ⟨G,ds,d,_,r,hl,_⟩:=h
   rw [<- r.length,hl,hn]
 . obtain ⟨G,ds,kvs,hG,r,hl,em,q⟩:=h
   refine ⟨_,body _ ⟨rfl,rfl,rfl,rfl,rfl,rfl,rfl,rfl,hr,fun _ _=>rfl,PassesOwn.never⟩ G H,G,_,Gd hG r N,?_⟩
   unfold fnW at em; rw [em]; exact q
theorem fL {x:Str} {j n:Nat} {m:List PyData->Res Kvs} (C:Cxt P w K mg base X N sc k df) (F:FnN P w K mg base x j n m) (hj:j<=k) (h:okGl sc x=true) (ha:DA X E0k (e::es) n fs)
   (he:starEach (e::es) X.env=(false,eval e X.env)::starEach es X.env:=by rfl) (hpl:(backTo pos (starEach es X.env)).any (·.1)=false:=by rfl):DN X E0k (.Call (.Name x p) (e::es) [] pos) (Si fs m):=by
 obtain ⟨f,fd,ps,hps,F,hm,hk,hb⟩:=F.ex
 obtain ⟨h1,h2,h3⟩:=okGl.gl C h
 have F':FnOk X.prog X.w X.K X.mg X.base CX0 j f fd ps (spN n m):=by rw [C.hP,C.hw,C.hK,C.hmg,C.hb]; exact F
 refine PE.imp (Bx F' (C.room.mono hj) h1 (by rw [C.hmg]; exact hm) (by rw [C.hK]; exact hk) (by rw [C.hK]; exact hb) .nil (Pe (X:=X)) ha.pa h2 he hpl) fun σ H Q hh=>?_
 obtain ⟨G,δ,S,aft⟩:=hh
 have gw:∀ {G H G' H':Hp} {r:Res Kvs},Grow G H G' H'->AftN E0k G H r Q->AftN E0k G' H' r Q:=fun {G H G' H' r} g a=>by
   cases r with
   | ok kvs=>exact fun p G2 H2 g2 hp hp' ho=>a p G2 H2 (g.trans g2) (g.h.free hp) hp' ho
   | exc c=>exact fun G2 H2 g2=>a G2 H2 (g.trans g2)
   | no=>exact a
 refine O4 (W:=fun G H r=>AftN E0k G H r Q) S aft (fun g a=>gw g a) (fun c a=>a) (fun a=>a) fun ds vs G1 H1 e g1 r1 S1 a1=>?_
 rw [List.append_nil]
 cases q:m ds with
 | ok d=>rw [q] at a1; exact ⟨G1,ds,d,S1.sub,r1,ha.len δ ds e,q,a1⟩
 | exc c=>rw [q] at a1; exact (a1 G1 H1 (Grow.refl S1.sub)).elim
 | no=>rw [q] at a1; exact a1.elim
theorem Lr (C:Cxt P w K mg base X N sc k df) (i:Nat) (ho:okSet N sc df i x=true) (h:DN X E e fx) (hs:swapsWith e (some (.Name x p)) pos.line X.env=pure false:=by rfl):DS X E (.Assign [.Name x p] e pos) (Ct i fx):=fun G0 H0=>by
 obtain ⟨h1,h2,h3,h4⟩:=okSet.ok C ho
 refine PS.imp (Hl h1 h2 h3 h hs h4) fun D σ H hh=>?_
 obtain ⟨G,δ,S,a⟩:=hh
 refine ⟨G,δ,S.sr,?_⟩
 unfold Ct at a
 cases q:fx δ with
 | ok kvs =>
   rw [q] at a; intro p G' H' g hp hp' ho; have S1:=S.grow g; exact a _ G' H' (S1.set_ow (S.gr.h.free hp) hp' ho (Fk S hp))
 | exc c=>rw [q] at a; exact fun G' H' g=>a G' H' (S.gr.trans g)
 | no=>rw [q] at a; exact a
end
end Sm
end
noncomputable section
namespace Sm
open PySem PySem.Spec PyProof.Rows PySem.W L2
noncomputable def Dg (c:Dn->Res Bool) (body:Dn->Out):Nat->Dn->Out
 | 0,_=>.no
 | n+1,δ=>I8 (c δ) fun b=>if b=true then (match body δ with
   | .nx δ'=>Dg c body n δ'
   | .ct δ'=>Dg c body n δ'
   | .bk δ'=>.nx δ'
   | o=>o) else .nx δ
noncomputable def dO (c:Dn->Res Bool) (body:Dn->Out):Dn->Out:=Dg c body 4096
noncomputable def Uz (i:Nat):Dn->Res Bool:=fun δ=>match δ[i]? with
 | some (.ow (.list ds))=>.ok (!ds.isEmpty)
 | _=>.no
noncomputable def aA (i j:Nat):Dn->Out:=fun δ=>match δ[i]? with
 | some (.ow (.list ds))=>match ds[ds.length - 1]? with
   | some d=>if i≠j then .nx ((δ.set i (.ow (.list ds.dropLast))).set j (.sh d)) else .no
   | none=>.no
 | _=>.no
noncomputable def aB (i:Nat) (f:Dn->Res (List PyData)):Dn->Out:=fun δ=>match δ[i]? with
 | some (.ow (.list xs))=>I8 (f δ) fun ds=>if xs.length+ds.length<=100000 then .nx (δ.set i (.ow (.list (xs++ds)))) else .no
 | _=>.no
noncomputable section
variable {P:Program} {w:World} {K:PySem.W.Frag} {mg:Str->Option Value} {base:Heap} {X:Cx} {N:List Str} {sc:Scope} {k:Nat} {df:Bool} {E:EK} {pos p py apos cpos:Pos} {ce a:Expr} {sts:List Stmt} {c:Dn->Res Bool} {g1:Dn->Out} {fs:Dn->Res (List PyData)} {x y:Str}
theorem iV (C:Cxt P w K mg base X N sc k df) (hc:DT X E ce c) (hb:DSs X E sts g1):DS X E (.While ce sts [] pos) (dO c g1):=fun G0 H0=>by
 refine PS.imp (eF (pos:=pos) C.own hc (hb G0 H0)) fun D σ H hh=>?_
 obtain ⟨G,δ,S,a⟩:=hh
 refine ⟨fun m σ' H'=>∃ G' δ',SSt G0 H0 G' H' σ' δ'/\Ih E G0 H0 (Dg c g1 m δ') D,⟨4096,G,δ,S,a⟩,fun m σ' H' hw=>?_⟩
 obtain ⟨G',δ',S',a'⟩:=hw
 cases m with
 | zero=>exact (show False from a').elim
 | succ m =>
   unfold Dg at a'; refine iC S' a' fun b G1 H1 gr S1 a1=>?_
   cases b with
   | false =>
     rw [if_neg (by decide)] at a1 ⊢
     exact a1 σ' G1 H1 S1
   | true =>
     rw [if_pos rfl] at a1 ⊢
     refine ⟨fun σ2 H2=>∃ G' δ',SSt G0 H0 G' H2 σ2 δ'/\Ih E G0 H0 (Dg c g1 m δ') D,fun σ2 H2 z=>⟨m,Nat.lt_succ_self m,z⟩,G1,δ',S1,?_⟩
     cases eo:g1 δ' with
     | nx δ2=>rw [eo] at a1; exact fun σ3 G4 H4 S5=>⟨G4,δ2,S5,a1⟩
     | ct δ2=>rw [eo] at a1; exact fun σ3 G4 H4 S5=>⟨G4,δ2,S5,a1⟩
     | bk δ2=>rw [eo] at a1; exact fun σ3 G4 H4 S5=>a1 σ3 G4 H4 S5
     | rt d=>rw [eo] at a1; exact a1
     | exc d=>rw [eo] at a1; exact a1
     | no=>rw [eo] at a1; exact a1
theorem t_own (C:Cxt P w K mg base X N sc k df) (i:Nat) (h:okVar N sc i x=true) (he:∀ whole,isTrue (.Name x p) X.env whole=(do let v <- whole; standAt (Expr.Name x p).pos; holding [v] (truthy v)):=by intro _; rfl):DT X E (.Name x p) (Uz i):=by
 refine PT.imp (Tr (okVar.pe C h) he) fun σ H Q hh=>?_
 obtain ⟨G,δ,S,a⟩:=hh
 unfold Uz at a
 split at a
 . rename_i ds hi
   obtain ⟨q,hσ,hg,xs,hx,rl⟩:=S.own hi; have he:ds.isEmpty=xs.isEmpty:=by
     have:=rl.length
     cases ds <;> cases xs <;> simp at this ⊢
   refine ⟨.ref q,hσ,!xs.isEmpty,.inl ⟨xs,.inl (.inl hx),rfl⟩,?_⟩; rw [<- he]; exact a G H (Grow.refl S.sub)
 . exact (show False from a).elim
theorem s_pop (C:Cxt P w K mg base X N sc k df) (i j:Nat) (h:okVar N sc i x=true) (ho:okSet N sc df j y=true)
   (hbase:attributeBase (.Name x p) "pop" X.env (eval (.Name x p) X.env)=eval (.Name x p) X.env:=by rfl) (hline:(apos.endLine==cpos.line)=true:=by rfl)
   (hs:swapsWith (.Call (.Attribute (.Name x p) "pop" apos) [] [] cpos) (some (.Name y py)) pos.line X.env=pure false:=by rfl) :
   DS X E (.Assign [.Name y py] (.Call (.Attribute (.Name x p) "pop" apos) [] [] cpos) pos) (aA i j):=fun G0 H0=>by
 obtain ⟨h1,h2,h3,h4⟩:=okSet.ok C ho
 refine PS.imp (Hl h1 h2 h3 (oH PySem.F.plainAttrs_list PySem.F.slot_list_pop PySem.F.type_list_pop oZ (okVar.pe C h) hbase hline) hs h4) fun D σ H hh=>?_
 obtain ⟨G,δ,S,a⟩:=hh
 unfold aA at a
 split at a
 . rename_i ds hi
   split at a
   . rename_i d hd
     split at a
     . rename_i hij
       obtain ⟨q,hσ,hg,xs,hx,rl⟩:=S.sr.own hi; obtain ⟨v,hv,rv⟩:=rl.get hd; rw [rl.length] at hv; refine ⟨.ref q,hσ,.inl ⟨rfl,xs,.inl (.inl hx)⟩,q,xs,v,rfl,rfl,hx,hv,?_⟩; have S1:=S.write (o:=.lst xs.dropLast) (d':=.list ds.dropLast) hi (by rw [hσ]; rfl) hg ⟨_,B7,rl.dropLast⟩
       exact a _ G _ (S1.set_sh rv)
     . exact (show False from a).elim
   . exact (show False from a).elim
 . exact (show False from a).elim
theorem s_ext (C:Cxt P w K mg base X N sc k df) (i:Nat) (h:okVar N sc i x=true) (ha:DF X E a fs)
   (hbase:attributeBase (.Name x p) "extend" X.env (eval (.Name x p) X.env)=eval (.Name x p) X.env:=by rfl)
   (hfew:((backTo cpos (starEach [a] X.env)).all (fun x => !x.1)&&(backToKw cpos (keywordEach [] X.env)).all (fun x=>x.1.isSome)
     && decide ([a].length+([]:List Keyword).length+(if ([]:List Keyword).isEmpty then 0 else 1) < 30))=true:=by rfl)
   (hline:(apos.endLine==cpos.line)=true:=by rfl) (hs:starEach [a] X.env=(false,eval a X.env)::starEach [] X.env:=by rfl) (hplain:(backTo cpos (starEach [] X.env)).any (·.1)=false:=by rfl)
   (hsw:swapsWith (.Call (.Attribute (.Name x p) "extend" apos) [a] [] cpos) none pos.line X.env=pure false:=by rfl) :
   DS X E (.Expr (.Call (.Attribute (.Name x p) "extend" apos) [a] [] cpos) pos) (aB i fs):=fun G0 H0=>by
 refine PS.imp (Jz (Mb PySem.F.plainAttrs_list PySem.F.slot_list_extend PySem.F.type_list_extend aP (okVar.pe C h) (E1 ha L9 hs) hbase hfew hline hs hplain) hsw) fun D σ H hh=>?_
 obtain ⟨G,δ,S,aft⟩:=hh
 unfold aB at aft
 split at aft
 . rename_i ds hi
   obtain ⟨q,hσ,hg,xs,hx,rl⟩:=S.sr.own hi; refine ⟨.ref q,hσ,.inl ⟨rfl,xs,.inl (.inl hx)⟩,?_⟩; refine Xd S aft fun es b zs G1 H1 g1 q1 q2 q3 q4 S1 a1=>?_
   split at a1
   . rename_i hlen
     have hx1:=g1.h _ _ hx; have hqb:q≠b:=D6 hx q1; have hg1:G1 q=none:=g1.stay hg hx fun ys z=>by cases z
     have l1:=rl.length; have l2:=q4.length; refine ⟨q,b,xs,zs,rfl,rfl,hx1,q3,Nat.le_trans (by lia) (show 100000<=sizeLine by decide),?_⟩
     exact a1 σ G1 _ (S1.write (o:=.lst (xs++zs)) (d':=.list (ds++es)) hi (by rw [hσ]; rfl) hg1 ⟨_,B7,(rl.mono g1.g).append q4⟩)
   . exact (show False from a1).elim
 . exact (show False from aft).elim
end
end Sm
end
noncomputable section
namespace Sm
open PySem PySem.Spec PyProof.Rows PySem.W L2
noncomputable section
variable {X:Cx} {pins:List (Addr×Obj)} {σ:St} {H:Hp} {s:Shared} {a:Addr} {A:Around} {E:Value->Shared->Prop}
theorem n_at {kvs:List (PyData×V)} {xs:List (Value×Value)} {kd:PyData} {w:World} {i:Nat} {e:DictEntry} (rel:Paired (PrN H) kvs xs) (hk:nkD kd=true) (nk:∀ p∈kvs,nkD p.1=true) (nd:(kvs.map (·.1)).Nodup) (hi:(kvs.map (·.1))[i]? = some kd) (he:(U3 w kvs xs)[i]? = some e) :
   ∃ v,kvs[i]? = some (kd,v)/\M8 kvs kd=some v/\RelV v e.val:=by
 obtain ⟨p,q,h1,h2,⟨_,h5⟩,rfl⟩:=Kf rel he
 rw [List.getElem?_map,h1] at hi
 have hp:p=(kd,p.2):=by
   have:p.1=kd:=by simpa using hi
   rw [<- this]
 rw [hp] at h1
 exact ⟨p.2,h1,Dq hk nk nd h1,h5⟩
theorem oX {kvs:List (PyData×V)} {kd:PyData} {y v:V} {u:Value} {Q:Value->Shared->Prop} (hu:A.units+16 < cLine) (I:Inv X pins σ H s) (e:Rd H a (.dN kvs)) (rk:KRep H kd y) (hk:nkD kd=true) (ry:RelV y u) (hv:M8 kvs kd=some v)
   (h:∀ w' s',Inv X pins σ H s'->RelV v w'->Q w' s'):wpAny (model X.prog X.w) A (getItem (.ref a) u) Q E s:=by
 obtain ⟨z,hd,nd,nk,xs,rel,ep,e1⟩:=e.ok I.hok
 have hT:s.TypeIs (.ref a) "dict" := ⟨_,e1,rfl⟩
 have hm:kd∈kvs.map (·.1):=Classical.byContradiction fun z=>by rw [Gq hk nk z] at hv; cases hv
 unfold getItem
 try with_reducible refine wpAny_holding ?_
 refine wpAny_bind (wpAny_sequenceKey hT (by decide) ?_)
 refine wpAny_bind (wpAny_callSpecial?_slot (name:=Str.ofString "__getitem__") hT F.slot_dict_getitem ?_)
 refine call_meetsIn F.slot_dict_getitem hT F.entry_dict_getitem (F.args_dict_getitem_2 _ _) (Ua a u) ⟨_,_,ep,kvs.map (·.1),kd,hu,e1,rfl,Mo I rel nk nd,Ho I rk ry hk,hm,fun i e tk hi he=>?_⟩
 obtain ⟨v',_,h2,h3⟩:=n_at rel hk nk nd hi (by simpa using he)
 rw [hv] at h2; cases h2
 exact wpAny_pure (h _ _ (I.tok _) h3)
theorem n_has {kvs:List (PyData×V)} {kd:PyData} (hk:nkD kd=true) (nk:∀ p∈kvs,nkD p.1=true) (nd:(kvs.map (·.1)).Nodup) (hm:kd∈kvs.map (·.1)):(M8 kvs kd).isSome=true:=by
 obtain ⟨⟨k',v⟩,hp,rfl⟩:=List.mem_map.mp hm
 obtain ⟨i,hi⟩:=List.mem_iff_getElem?.mp hp
 rw [Dq hk nk nd hi]; rfl
theorem Wg {kvs:List (PyData×V)} {kd:PyData} {y:V} {u:Value} {Q:Bool->Shared->Prop} (hu:A.units+16 < cLine) (I:Inv X pins σ H s) (e:Rd H a (.dN kvs)) (rk:KRep H kd y) (hk:nkD kd=true) (ry:RelV y u)
   (h:∀ s',Inv X pins σ H s'->Q (M8 kvs kd).isSome s'):wpAny (model X.prog X.w) A (contains (.ref a) u) Q E s:=by
 obtain ⟨z,hd,nd,nk,xs,rel,ep,e1⟩:=e.ok I.hok
 have hT:s.TypeIs (.ref a) "dict" := ⟨_,e1,rfl⟩
 unfold contains
 try with_reducible refine wpAny_holding ?_
 refine wpAny_bind (wpAny_specialOf hT F.slot_dict_contains.lookup ?_)
 show wpAny _ _ (if (some (Value.builtin "dict.__contains__")==some Value.none)=true then _ else _) _ _ s
 rw [if_neg (by rw [beq_builtin_none]; exact Bool.false_ne_true)]
 refine wpAny_bind (wpAny_callSpecialUnlessNone?_slot (name:=Str.ofString "__contains__") hT F.slot_dict_contains ?_)
 refine call_meetsIn F.slot_dict_contains hT F.entry_dict_contains (F.args_dict_contains_2 _ _) (aR a u hd) ⟨_,_,ep,kvs.map (·.1),kd,hu,e1,rfl,Mo I rel nk nd,Ho I rk ry hk,fun tk hm=>?_,fun tk hn=>?_⟩
 . have:=h _ (I.tok tk)
   rw [n_has hk nk nd hm] at this; exact wpAny_truthy_bool this
 . have:=h _ (I.tok tk)
   rw [Gq hk nk hn] at this; exact wpAny_truthy_bool this
end
def tNIx (td ty:TE):TE:=fun σ H Q=>td σ H fun x H1=>ty σ H1 fun y H2=>∃ a kvs kd v,x=.ref a/\Rd H2 a (.dN kvs)/\KRep H2 kd y/\nkD kd=true/\M8 kvs kd=some v/\Q v H2
def nF (b:Bool) (ty td:TE):TE:=fun σ H Q=>ty σ H fun y H1=>td σ H1 fun x H2=>∃ a kvs kd,x=.ref a/\Rd H2 a (.dN kvs)/\KRep H2 kd y/\nkD kd=true/\Q (.bl ((M8 kvs kd).isSome != b)) H2
noncomputable section
variable {X:Cx} {o i:Expr} {pos:Pos} {td ty:TE}
theorem oG (hu:X.A.units+16 < cLine) (ho:PE X o td) (hi:PE X i ty) (hs:qK i):PE X (.Subscript o i pos) (tNIx td ty):=by
 intro pins s σ H Q I h
 refine iR PySem.F.slot_dict_getitem.lookup hs (thn (ho pins s σ H _ I h) fun u s1 hY84=>?_)
 obtain ⟨x,H1,I1,rx,q1⟩:=hY84
 refine thn (hi pins s1 σ H1 _ I1 q1) fun iv s2 hZ2=>?_
 obtain ⟨y,H2,I2,ry,a,kvs,kd,v,ex,g,rk,hk,hv,q2⟩:=hZ2
 subst ex
 obtain rfl:u=Value.ref a:=rx
 obtain ⟨_,_,_,_,_,_,ep,e1⟩:=g.ok I2.hok
 exact ⟨⟨_,e1,rfl⟩,oX hu I2 g rk hk ry hv fun w' s3 I3 rw'=>⟨v,H2,I3,rw',q2⟩⟩
theorem Hm (hu:X.A.units+16 < cLine) (hi:PE X i ty) (ho:PE X o td):PC X .NotIn i o (nF true ty td):=by
 intro pins s σ H Q I h
 refine thn (hi pins s σ H _ I h) fun iv s1 hY86=>?_
 obtain ⟨y,H1,I1,ry,q1⟩:=hY86
 refine thn (ho pins s1 σ H1 _ I1 q1) fun u s2 hZ2=>?_
 obtain ⟨x,H2,I2,rx,a,kvs,kd,ex,g,rk,hk,q2⟩:=hZ2
 subst ex
 obtain rfl:u=Value.ref a:=rx
 show wpAny _ _ (do return Value.bool (!(<- contains (Value.ref a) iv))) _ _ s2
 rw [Bool.bne_true] at q2
 exact wpAny_bind (Wg hu I2 g rk hk ry fun s3 I3=>wpAny_pure ⟨.bl (!(M8 kvs kd).isSome),H2,I3,rfl,q2⟩)
end
noncomputable def cF (i:Nat) (f:Dn->Res PyData):Dn->Res PyData:=fun δ=>match kvN δ i with
 | some kvs=>(f δ).bind fun kd=>if nkD kd=true then ofO (P0 kvs kd) else .no
 | none=>.no
noncomputable def X7 (b:Bool) (i:Nat) (f:Dn->Res PyData):Dn->Res PyData:=fun δ=>(f δ).bind fun kd=>match kvN δ i with
 | some kvs=>if nkD kd=true then .ok (.bool ((P0 kvs kd).isSome != b)) else .no
 | none=>.no
noncomputable section
variable {P:Program} {w:World} {K:PySem.W.Frag} {mg:Str->Option Value} {base:Heap} {X:Cx} {N:List Str} {sc:Scope} {k:Nat} {df:Bool} {E:EK} {p pos:Pos} {a b:Expr} {f g:Dn->Res PyData} {x:Str}
theorem d_ixN (C:Cxt P w K mg base X N sc k df) (i:Nat) (h:okVar N sc i x=true) (hk:DE X E a f) (hs:qK a:=by exact fun _ _=>rfl):DE X E (.Subscript (.Name x p) a pos) (cF i f):=by
 refine PE.imp (oG (by have:=C.hu; lia) (okVar.pe C h) hk hs) fun σ H Q hY87=>?_
 obtain ⟨G,δ,S,aft⟩:=hY87
 unfold cF at aft
 split at aft
 . rename_i kvs hi
   obtain ⟨q,kk,hσ,hx,hkeys,hvals⟩:=S.kvN hi; refine ⟨.ref q,hσ,?_⟩; refine G6 S aft fun kd v G1 H1 g1 r1 S1 a1=>?_
   split at a1
   . rename_i hn
     rcases Dm (k:=kd) hkeys hvals with ⟨n1,n2⟩ | ⟨d0,v0,n1,n2,rd⟩
     . rw [n1] at a1; exact a1.elim
     . rw [n1] at a1
       exact ⟨q,kk,kd,v0,rfl,Rd.mono g1.h hx,Fb S1.sub hn r1,hn,n2,a1 _ G1 H1 (Grow.refl S1.sub) (rd.mono g1.g)⟩
   . exact a1.elim
 . exact aft.elim
theorem Yj {t:Bool} {i:Nat} {σ:St} {H:Hp} {Q:VK} (h:tD E (X7 t i f) σ H Q):nF t (tD E f) (Nl i) σ H Q:=by
 obtain ⟨G,δ,S,aft⟩:=h
 refine G6 S aft fun kd v G1 H1 g1 r1 S1 a1=>?_
 split at a1
 . rename_i kvs hi
   split at a1
   . rename_i hn
     obtain ⟨q,kk,hσ,hx,hkeys,hvals⟩:=S1.kvN hi; refine ⟨.ref q,hσ,q,kk,kd,rfl,hx,Fb S1.sub hn r1,hn,?_⟩; have:(M8 kk kd).isSome=(P0 kvs kd).isSome:=by
       rcases Dm (k:=kd) hkeys hvals with ⟨n1,n2⟩ | ⟨d0,v0,n1,n2,_⟩ <;> rw [n1,n2] <;> rfl
     rw [this]; exact a1 _ G1 H1 (Grow.refl S1.sub) rfl
   . exact a1.elim
 . exact a1.elim
theorem gD {t:Bool} {i:Nat} {δ:Dn} {d:PyData} (e:X7 t i f δ=.ok d):∃ b,d=.bool b:=by
 unfold X7 Res.bind at e
 split at e
 . split at e
   . dsimp only at e
     split at e
     . cases e; exact ⟨_,rfl⟩
     . cases e
   . cases e
 . cases e
 . cases e
theorem hW {t:Bool} {i:Nat} {G H:Hp} {δ:Dn} {Q:Bool->Hp->Prop} (aft:AftT E G H (C3 (X7 t i f) δ) Q):Aft E G H (X7 t i f δ) (fun v H'=>∃ b,v=.bl b/\Q b H'):=by
 unfold C3 at aft
 cases e:X7 t i f δ with
 | ok d =>
   obtain ⟨b,rfl⟩:=gD e; rw [e] at aft; intro v G' H' g r; exact ⟨b,r,aft G' H' g⟩
 | exc c=>rw [e] at aft; exact aft
 | no=>rw [e] at aft; exact aft
theorem Ms (C:Cxt P w K mg base X N sc k df) (i:Nat) (h:okVar N sc i x=true) (hk:DE X E a f) (hm:behindInMarks .NotIn (.Name x p)=false:=by with_unfolding_all rfl):DE X E (.Compare a [.NotIn] [.Name x p] pos) (X7 true i f) :=
 PE.imp (eT (Hm (by have:=C.hu; lia) hk (okVar.pe C h)) hm) fun _ _ _ h=>Yj h
theorem So (C:Cxt P w K mg base X N sc k df) (i:Nat) (h:okVar N sc i x=true) (hk:DE X E a f) (hm:behindInMarks .NotIn (.Name x p)=false:=by with_unfolding_all rfl):DT X E (.Compare a [.NotIn] [.Name x p] pos) (C3 (X7 true i f)):=by
 refine PT.imp (eE (Hm (by have:=C.hu; lia) hk (okVar.pe C h)) hm) fun σ H Q hY89=>?_
 obtain ⟨G,δ,S,aft⟩:=hY89
 refine Yj ⟨G,δ,S,?_⟩
 exact hW aft
end
end Sm
end
noncomputable section
namespace Sm
open PySem PySem.Spec PyProof.Rows PySem.W L2
noncomputable def Q5 {α:Type}:List (PyData×α)->PyData->α->List (PyData×α)
 | [],k,v=>[(k,v)]
 | p::r,k,v=>if PyData.eqv p.1 k=true then (p.1,v)::r else p::Q5 r k v
theorem Bf {α:Type} {k:PyData} {v:α}:∀ (l:List (PyData×α)),(Q5 l k v).length<=l.length+1
 | []=>Nat.le_refl _
 | p::r=>by
   unfold Q5
   split
   . simp
   . simp only [List.length_cons]; exact Nat.succ_le_succ (Bf r)
theorem Xv {k:PyData} {v:V} (hk:nkD k=true):∀ {kk:List (PyData×V)} {i:Nat} {v0:V},(∀ p∈kk,nkD p.1=true)->(kk.map (·.1)).Nodup->kk[i]? = some (k,v0)->Q5 kk k v=kk.modify i fun p=>(p.1,v)
 | [],_,_,_,_,h=>by simp at h
 | p::kk,i,v0,hn,nd,h=>by
   unfold Q5; have hp:=Hv (P2 (hn p (.head _))).1 (P2 hk).1
   cases i with
   | zero =>
     simp at h
     subst h; rw [if_pos (hp.mpr rfl)]; rfl
   | succ i =>
     rw [List.map_cons,List.nodup_cons] at nd; have hm:(k,v0)∈kk:=List.mem_of_getElem? (by simpa using h)
     rw [if_neg (fun z=>nd.1 (by rw [hp.mp z]; exact List.mem_map_of_mem hm)),Xv hk (fun q hq=>hn q (.tail _ hq)) nd.2 (by simpa using h)]
     rfl
theorem Xu {k:PyData} {v:V} (hk:nkD k=true):∀ {kk:List (PyData×V)},(∀ p∈kk,nkD p.1=true)->k∉kk.map (·.1)->Q5 kk k v=kk++[(k,v)]
 | [],_,_=>rfl
 | p::kk,hn,h=>by
   unfold Q5; rw [List.map_cons,List.mem_cons,not_or] at h; rw [if_neg (fun z=>h.1 ((Hv (P2 (hn p (.head _))).1 (P2 hk).1).mp z).symm),Xu hk (fun q hq=>hn q (.tail _ hq)) h.2]
   rfl
theorem Lx {G:Hp} {k d:PyData} {v:V} (r:Rep G d v):∀ {kvs:Kvs} {kk:List (PyData×V)},kvs.map (·.1)=kk.map (·.1)->RepL G (kvs.map (·.2)) (kk.map (·.2))->(Q5 kvs k d).map (·.1)=(Q5 kk k v).map (·.1)/\RepL G ((Q5 kvs k d).map (·.2)) ((Q5 kk k v).map (·.2))
 | [],[],_,_=>⟨rfl,RepL.cons r rfl⟩
 | [],_::_,e,_=>by cases e
 | _::_,[],e,_=>by cases e
 | p::kvs,q::kk,e,l=>by
   simp only [List.map_cons,List.cons.injEq] at e; obtain ⟨x,t,ex,rx,l⟩:=l; simp only [List.map_cons,List.cons.injEq] at ex; unfold Q5; rw [e.1]
   split
   . exact ⟨by simp only [List.map_cons]; rw [e.2],RepL.cons r (by rw [ex.2]; exact l)⟩
   . obtain ⟨h1,h2⟩:=Lx (k:=k) r e.2 (by rw [ex.2]; exact l)
     exact ⟨by simp only [List.map_cons]; rw [e.1,h1],RepL.cons (show Rep G p.2 q.2 by rw [ex.1]; exact rx) h2⟩
theorem Ul {w:World} {v:V} {r:Value}:∀ (kk:List (PyData×V)) (xs:List (Value×Value)) (i:Nat),(U3 w kk xs).modify i (fun e=>{ e with val:=r })=U3 w (kk.modify i fun p=>(p.1,v)) (xs.modify i fun q=>(q.1,r))
 | [],xs,i=>by cases i <;> simp [U3]
 | _::_,[],i=>by cases i <;> simp [U3]
 | p::kk,q::xs,0=>rfl
 | p::kk,q::xs,i+1=>by
   have:=Ul (w:=w) (v:=v) (r:=r) kk xs i; simp only [U3,List.zipWith_cons_cons,List.modify_succ_cons] at this ⊢
   rw [this]
theorem Md {α β:Type} {F:α->β->Prop} {f:α->α} {g:β->β} (h:∀ a b,F a b->F (f a) (g b)):∀ {l₁:List α} {l₂:List β} (i:Nat),Paired F l₁ l₂->Paired F (l₁.modify i f) (l₂.modify i g)
 | _,_,i,.nil=>by cases i <;> exact .nil
 | _,_,0,.cons r t=>.cons (h _ _ r) t
 | _,_,i+1,.cons r t=>.cons r (Md h i t)
noncomputable section
variable {prog:Program} {w:World} {A:Around} {E:Value->Shared->Prop} {s:Shared}
theorem bI {d:Addr} {key v:Value} {L:List DictEntry} {ep:Nat} {ks:List PyData} {k:PyData} {Q:Unit->Shared->Prop} (hu:A.units+8 < cLine) (ho:s.heap.get? d=some { cls:=.type "dict",data:=.dict (List.toArray L) ep }) (hz:L.length<=sizeLine) (N:EsN w s.heap L.toArray ks) (x:NAt s.heap key k)
   (h1:∀ (i:Nat) (h':Heap) (tk:Nat),ks[i]? = some k->(∀ b o,b≠d->s.heap.get? b=some o->h'.get? b=some o)->h'.get? d=some { cls:=.type "dict",data:=.dict (L.modify i fun e=>{ e with val:=v }).toArray ep }->Q () { s with heap:=h',toks:=tk })
   (h0:∀ (h':Heap) (tk:Nat),k∉ks->(∀ b o,b≠d->s.heap.get? b=some o->h'.get? b=some o)->h'.get? d=some { cls:=.type "dict",data:=.dict (L++[DictEntry.mk (T4 w k) key v]).toArray (ep+1) }->Q () { s with heap:=h',toks:=tk }) :
   wpAny (model prog w) A (dictSet d key v) Q E s:=by
 unfold dictSet
 try with_reducible refine wpAny_holding ?_
 refine wpAny_bind (x.hash hu fun tk=>?_)
 unfold dictSetHashed
 try with_reducible refine wpAny_holding ?_
 refine wpAny_bind (Wr (s:={ s with toks:=tk }) hu ho rfl N x (fun i hi=>?_) fun hn=>?_)
 . refine wpAny_bind (wpAny_rule (wpAny_bind (wpAny_updateDict (s:={ s with toks:=tk }) ho rfl (wpAny_point (h1 i _ tk hi (fun b o hb e=>?_) ?_)))))
   . exact (Heap.get?_update_ne _ _ _ _ hb).trans e
   . have:=Heap.get?_update_self (Obj.mapDict fun x=>x.modify i fun e=>{ e with val:=v }) ho (Obj.isFreed_of_dict (Obj.data_mapDict rfl _))
     rw [this]; simp [Obj.mapDict]
 . refine wpAny_bind (wpAny_rule (wpAny_updateDictKeys (hz:=by simpa using hz) (s:={ s with toks:=tk }) ho rfl (h0 _ tk hn (fun b o hb e=>?_) ?_)))
   . exact (Heap.get?_update_ne _ _ _ _ hb).trans e
   . have:=Heap.get?_update_self (Obj.mapDictKeys fun x=>x.push ⟨T4 w k,key,v⟩) ho (Obj.isFreed_of_dict (Obj.data_mapDictKeys rfl _))
     rw [this]; simp [Obj.mapDictKeys]
end
noncomputable section
variable {X:Cx} {pins:List (Addr×Obj)} {σ:St} {H:Hp} {s:Shared} {a:Addr} {A:Around} {E:Value->Shared->Prop}
theorem Pi {kvs:List (PyData×V)} {kd:PyData} {y d:V} {u r:Value} {Q:Unit->Shared->Prop} (hu:A.units+8 < cLine) (I:Inv X pins σ H s) (e:H a=some (.dN kvs)) (rk:KRep H kd y) (hk:nkD kd=true) (hz:kvs.length < sizeLine) (ry:RelV y u) (rd:RelV d r)
   (h:∀ s',Inv X pins σ (upd H a (.dN (Q5 kvs kd d))) s'->(∀ b o,b≠a->s.heap.get? b=some o->s'.heap.get? b=some o)->Q () s'):wpAny (model X.prog X.w) A (dictSet a u r) Q E s:=by
 obtain ⟨z,hd,nd,nk,xs,rel,ep,e1⟩:=I.hok a _ e
 have hl:=Paired.len' rel
 have hlen:(U3 X.w kvs xs).length<=sizeLine:=by
   unfold U3; rw [List.length_zipWith]; lia
 have ht:∀ b ys,H b=some (.tup ys)->(upd H a (.dN (Q5 kvs kd d))) b=some (.tup ys):=fun b ys z=>by
   rw [B3 (Mg z e (fun z=>by cases z))]; exact z
 refine bI (ep:=ep) (ks:=kvs.map (·.1)) (k:=kd) hu e1 hlen (Mo I rel nk nd) (Ho I rk ry hk) (fun i h' tk hi hkeep hnew=>?_) (fun h' tk hn hkeep hnew=>?_)
 . refine h _ ?_ hkeep
   have hlt:i < kvs.length:=by have:=(List.getElem?_eq_some_iff.mp hi).1; simpa using this
   have hp:kvs[i]? = some (kd,kvs[i].2):=by
     rw [List.getElem?_eq_getElem hlt]; have h2:=hi; rw [List.getElem?_map,List.getElem?_eq_getElem hlt] at h2; have:kvs[i].1=kd:=by simpa using h2
     rw [<- this]
   have ep':=Xv (v:=d) hk nk nd hp; refine I.write (x:=a) (e:=a) (t':=tk) (by rw [e]; exact trivial) (.inl rfl) (fun b o hb q=>hkeep b o hb q) ⟨_,hnew⟩ ?_
   have hkeys:(Q5 kvs kd d).map (·.1)=kvs.map (·.1):=by
     rw [ep']; apply List.ext_getElem?
     intro j; rw [List.getElem?_map,List.getElem?_map,List.getElem?_modify]
     by_cases c:i=j
     . simp only [c,if_pos]; cases kvs[j]? <;> rfl
     . simp only [c,if_neg,if_false]; cases kvs[j]? <;> rfl
   refine ⟨Nat.le_trans (Bf kvs) hz,hd,by rw [hkeys]; exact nd,fun p hp=>?_,xs.modify i (fun q=>(q.1,r)),?_,ep,?_⟩
   . have:p.1∈kvs.map (·.1):=by rw [<- hkeys]; exact List.mem_map_of_mem hp
     obtain ⟨p',m,em⟩:=List.mem_map.mp this; rw [<- em]; exact nk p' m
   . rw [ep']
     exact Paired.mapP (Md (fun p q hZ2=>by obtain ⟨⟨v,z1,z2⟩,_⟩:=hZ2; exact ⟨⟨v,z1,z2⟩,rd⟩) i rel) fun p q hZ2=>by obtain ⟨⟨v,z1,z2⟩,z3⟩:=hZ2; exact ⟨⟨v,z1.mono (ep'▸ht),z2⟩,z3⟩
   . rw [ep',<- Ul]; exact hnew
 . refine h _ ?_ hkeep
   have ep':=Xu (v:=d) hk nk hn; refine I.write (x:=a) (e:=a) (t':=tk) (by rw [e]; exact trivial) (.inl rfl) (fun b o hb q=>hkeep b o hb q) ⟨_,hnew⟩ ⟨Nat.le_trans (Bf kvs) hz,hd,?_,?_,xs++[(u,r)],?_,ep+1,?_⟩
   . rw [ep',List.map_append,List.nodup_append]
     refine ⟨nd,by simp,fun x hx y hy=>?_⟩
     have:y=kd:=by simpa using hy
     subst this; exact fun z=>hn (z▸hx)
   . rw [ep']
     intro p hp; rcases List.mem_append.mp hp with hp | hp
     . exact nk p hp
     . rw [List.mem_singleton.mp hp]; exact hk
   . have:=Paired.app' (F:=PrN (upd H a (.dN (Q5 kvs kd d)))) (a:=(kd,d)) (b:=(u,r)) ⟨⟨y,rk.mono ht,ry⟩,rd⟩ (Paired.mapP rel fun p q hZ2=>by obtain ⟨⟨v,z1,z2⟩,z3⟩:=hZ2; exact ⟨⟨v,z1.mono ht,z2⟩,z3⟩)
     rw [<- ep'] at this; exact this
   . rw [ep',Um hl]; exact hnew
theorem n_put {kvs:List (PyData×V)} {kd:PyData} {y d:V} {u r:Value} {Q:Unit->Shared->Prop} (hu:A.units+16 < cLine) (I:Inv X pins σ H s) (e:H a=some (.dN kvs)) (rk:KRep H kd y) (hk:nkD kd=true) (hz:kvs.length < sizeLine) (ry:RelV y u) (rd:RelV d r)
   (h:∀ s',Inv X pins σ (upd H a (.dN (Q5 kvs kd d))) s'->Q () s'):wpAny (model X.prog X.w) A (setItem (.ref a) u r) Q E s:=by
 obtain ⟨z,hd,nd,nk,xs,rel,ep,e1⟩:=I.hok a _ e
 have hT:s.TypeIs (.ref a) "dict" := ⟨_,e1,rfl⟩
 unfold setItem
 try with_reducible refine wpAny_holding ?_
 refine wpAny_bind (wpAny_sequenceKey hT (by decide) ?_)
 refine wpAny_bind (wpAny_callSpecial?_slot (name:=Str.ofString "__setitem__") hT F.slot_dict_setitem ?_)
 refine wpAny_call_entry F.slot_dict_setitem hT F.entry_dict_setitem ?_ (F.args_dict_setitem_3 _ _ _)
 show wpAny _ _ (Builtin.Dict.notOrdered "__setitem__" ⟨[.ref a,u,r],[]⟩>>=_) _ _ s
 refine wpAny_bind (wpAny_notOrdered_dict hT ?_)
 show wpAny _ _ (dictSet a u r>>=_) _ _ s
 exact wpAny_bind (Pi (hu8 hu) I e rk hk hz ry rd fun s' I' _=>wpAny_pure ⟨.none,rfl,wpAny_pure (h s' I')⟩)
end
def sNPut (td ty tv:TE):TS:=fun D σ H=>tv σ H fun v H1=>td σ H1 fun x H2=>ty σ H2 fun y H3=>∃ a kvs kd,x=.ref a/\H3 a=some (.dN kvs)/\KRep H3 kd y/\nkD kd=true/\kvs.length < sizeLine/\D.nx σ (upd H3 a (.dN (Q5 kvs kd v)))
theorem jL {X:Cx} {o i value:Expr} {pos pos':Pos} {td ty tv:TE} (hu:X.A.units+16 < cLine) (ho:PE X o td) (hi:PE X i ty) (hv:PE X value tv) (hs:swapsWith value (some (.Subscript o i pos')) pos.line X.env=pure false) :
   PS X (.Assign [.Subscript o i pos'] value pos) (sNPut td ty tv):=by
 intro pins s σ H D I h
 refine wpAny_Assign_Subscript (thn (hv pins s σ H _ I h) fun r s1 hY90=>?_) hs
 obtain ⟨v,H1,I1,rv,q1⟩:=hY90
 refine thn (ho pins s1 σ H1 _ I1 q1) fun u s2 hY91=>?_
 obtain ⟨x,H2,I2,rx,q2⟩:=hY91
 refine thn (hi pins s2 σ H2 _ I2 q2) fun iv s3 hY92=>?_
 obtain ⟨y,H3,I3,ry,a,kvs,kd,ex,g,rk,hk,hz,q3⟩:=hY92
 subst ex
 obtain rfl:u=Value.ref a:=rx
 exact n_put hu I3 g rk hk hz ry rv fun s4 I4=>⟨σ,_,I4,q3⟩
noncomputable def Gf (i:Nat) (fk fv:Dn->Res PyData):Dn->Out:=fun δ=>match δ[i]? with
 | some (.ow (.tuple [.dict kvs,.none]))=>I8 (fv δ) fun v=>I8 (fk δ) fun kd=>if nkD kd=true/\kvs.length < 100000 then .nx (δ.set i (.ow (.tuple [.dict (Q5 kvs kd v),.none]))) else .no
 | _=>.no
noncomputable section
variable {P:Program} {w:World} {K:PySem.W.Frag} {mg:Str->Option Value} {base:Heap} {X:Cx} {N:List Str} {sc:Scope} {k:Nat} {df:Bool} {E:EK} {p p2 pos:Pos} {a b:Expr} {f g:Dn->Res PyData} {x:Str}
theorem dJ (C:Cxt P w K mg base X N sc k df) (i:Nat) (h:okVar N sc i x=true) (hk:DE X E a f) (hv:DE X E b g) (hs:swapsWith b (some (.Subscript (.Name x p) a p2)) pos.line X.env=pure false:=by rfl):DS X E (.Assign [.Subscript (.Name x p) a p2] b pos) (Gf i f g):=fun G0 H0=>by
 refine PS.imp (jL (by have:=C.hu; lia) (okVar.pe C h) hk hv hs) fun D σ H hY93=>?_
 obtain ⟨G,δ,S,aft⟩:=hY93
 unfold Gf at aft
 split at aft
 . rename_i kvs hi
   refine Ci S aft fun v x1 G1 H1 g1 r1 S1 a1=>?_
   obtain ⟨q,hσ,hg,ho⟩:=S1.sr.own hi; refine ⟨.ref q,hσ,?_⟩; refine Ci S1 a1 fun kd x2 G2 H2 g2 r2 S2 a2=>?_
   obtain ⟨q',hσ',hg',ho'⟩:=S2.sr.own hi; rw [hσ] at hσ'; cases hσ'; obtain ⟨kk,hx,hkeys,hvals⟩:=(show OwnK G2 H2 q [.dict kvs,.none] from ho')
   split at a2
   . rename_i hc
     have hl:kk.length=kvs.length:=by
       have:=congrArg List.length hkeys
       simpa using this.symm
     have hlen:kk.length < sizeLine:=by
       rw [hl]; exact Nat.lt_of_lt_of_le hc.2 (by decide)
     refine ⟨q,kk,kd,rfl,hx,Fb S2.sr.sub hc.1 r2,hc.1,hlen,?_⟩; obtain ⟨p1,p2⟩:=Lx (k:=kd) (r1.mono g2.g) hkeys hvals; exact a2 σ G2 _ (S2.write hi (by rw [hσ]; rfl) hg' (show OwnK G2 _ q [.dict _,.none] from ⟨_,B7,p1,p2⟩))
   . exact (show False from a2).elim
 . exact (show False from aft).elim
end
noncomputable def fzN (i:Nat) (δ:Dn):Dn:=match δ[i]? with
 | some (.ow (.tuple [.dict kvs,.none]))=>δ.set i (.fd ((.dict [],.none)::kvs))
 | _=>δ
theorem SSt.fzN {G0 H0 G H:Hp} {σ:St} {δ:Dn} (S:SSt G0 H0 G H σ δ) (i:Nat):∃ G',SSt G0 H0 G' H σ (fzN i δ):=by
 unfold Sm.fzN
 split
 . rename_i kvs hi
   obtain ⟨p,hp,hg,ho⟩:=S.sr.sl i _ hi; obtain ⟨kk,hx,hk,r⟩:=(show OwnK G H p [.dict kvs,.none] from ho)
   have h0:=S.fr i _ p hi hp; have sm:Same G (upd G p (.dN kk)):=Same.upd hg; have gh:Same (upd G p (.dN kk)) H:=fun b u e=>by
     by_cases hb:b=p
     . subst hb; rw [B7] at e; cases e; exact hx
     . rw [B3 hb] at e; exact S.sr.sub _ _ e
   have gr:Grow G0 H0 (upd G p (.dN kk)) H:=⟨S.gr.g.trans sm,S.gr.h,gh,fun b u e=>by
     by_cases hb:b=p
     . subst hb; exact .inr (.inl h0)
     . rw [B3 hb] at e; exact S.gr.fr b u e⟩
   have hil:i < δ.length:=(List.getElem?_eq_some_iff.mp hi).1; have key:∀ (j:Nat) (d':PyData),(δ.set i (.fd ((.dict [],.none)::kvs)))[j]? = some (.ow d')->δ[j]? = some (.ow d')/\j≠i:=fun j d' e=>by
     rw [E2] at e
     split at e
     . cases e
     . rename_i hn
       exact ⟨e,fun z=>by subst z; exact hn ⟨rfl,hil⟩⟩
   refine ⟨_,gr,⟨gh,by simp [S.sr.len],fun j s e=>?_,fun j1 j2 a d1 d2 e1 e2 h1 h2=>S.sr.ap j1 j2 a d1 d2 (key j1 d1 e1).1 (key j2 d2 e2).1 h1 h2⟩,fun j d' a e h=>S.fr j d' a (key j d' e).1 h⟩
   by_cases hj:i=j/\i < δ.length
   . rw [E2,if_pos hj] at e
     cases e; rw [<- hj.1]; exact ⟨p,kk,hp,.inl B7,hk,r.mono sm⟩
   . have e2:=e
     rw [E2,if_neg hj] at e2; have hs:=S.sr.sl j s e2
     cases s with
     | un=>trivial
     | sh d=>obtain ⟨v,e1,r1⟩:=hs; exact ⟨v,e1,r1.mono sm⟩
     | fd _=>exact FdOk.mono sm hs
     | ow d2 =>
       obtain ⟨a,e1,n1,ok⟩:=hs; have hne:a≠p:=by
         rintro rfl
         exact (key j d2 e).2 (S.sr.ap j i a d2 _ e2 hi e1 hp)
       exact ⟨a,e1,by rw [B3 hne]; exact n1,ok.monoG sm⟩
 . exact ⟨G,S⟩
noncomputable def dR (i:Nat) (g:Dn->Out):Dn->Out:=fun δ=>g (fzN i δ)
theorem mE {X:Cx} {E:EK} {st:Stmt} {g1:Dn->Out} (i:Nat) (h:DS X E st g1):DS X E st (dR i g1):=fun G0 H0=>PS.imp (h G0 H0) fun D σ H hZ3=>by
 obtain ⟨G,δ,S,a⟩:=hZ3
 obtain ⟨G',S'⟩:=S.fzN i
 exact ⟨G',_,S',a⟩
end Sm
end
noncomputable section
namespace Sm
open PySem PySem.Spec PyProof.Rows PySem.W L2
def SlV (G:Hp) (v:V):Sl->Prop
 | .sh d=>Rep G d v
 | .fd kvs=>FdOk G (some v) kvs
 | _=>False
noncomputable def SlL (G:Hp):List Sl->List V->Prop
 | [],vs=>vs=[]
 | s::ss,vs=>∃ v r,vs=v::r/\SlV G v s/\SlL G ss r
theorem SlL.length {G:Hp}:∀ {ss:List Sl} {vs:List V},SlL G ss vs->ss.length=vs.length
 | [],vs,h=>by rw [show vs=[] from h]; rfl
 | _::_,_,h=>by obtain ⟨v,r,rfl,_,l⟩:=h; simp [SlL.length l]
theorem SlL.get {G:Hp}:∀ {ss:List Sl} {vs:List V} {i:Nat} {s:Sl},SlL G ss vs->ss[i]? = some s->∃ v,vs[i]? = some v/\SlV G v s
 | [],_,i,_,_,e=>by simp at e
 | _::_,_,0,_,h,e=>by obtain ⟨v,r,rfl,q,_⟩:=h; simp at e; subst e; exact ⟨v,rfl,q⟩
 | _::_,_,i+1,_,h,e=>by obtain ⟨v,r,rfl,_,l⟩:=h; exact SlL.get (i:=i) l (by simpa using e)
noncomputable def Ez (N:List Str) (ss:List Sl):Dn:=ss++List.replicate (N.length - ss.length) .un
theorem cU {G H:Hp} (hG:Same G H) {ss:List Sl} {vs:List V} (r:SlL G ss vs) (N:List Str):SSt G H G H (V2 N vs) (Ez N ss):=by
 have hl:=r.length
 have noow:∀ (i:Nat) (d:PyData),(Ez N ss)[i]? ≠ some (.ow d):=fun i d e=>by
   unfold Ez at e
   by_cases hi:i < ss.length
   . rw [List.getElem?_append_left hi] at e
     obtain ⟨_,_,z⟩:=r.get e; exact z
   . rw [List.getElem?_append_right (Nat.not_lt.mp hi),List.getElem?_replicate] at e
     split at e <;> cases e
 refine ⟨Grow.refl hG,⟨hG,by unfold L2.V2 Ez; simp [hl],fun i s e=>?_,fun i j a d d' e _ _ _=>absurd e (noow i d)⟩,fun i d a e _=>absurd e (noow i d)⟩
 unfold Ez at e
 by_cases hi:i < ss.length
 . rw [List.getElem?_append_left hi] at e
   obtain ⟨v,e1,rv⟩:=r.get e; unfold L2.V2; rw [List.getElem?_append_left (by rw [List.length_map,<- hl]; exact hi),List.getElem?_map,e1]
   cases s with
   | sh d=>exact ⟨v,rfl,rv⟩
   | fd kvs=>exact rv
   | un=>exact rv.elim
   | ow d=>exact rv.elim
 . rw [List.getElem?_append_right (Nat.not_lt.mp hi),List.getElem?_replicate] at e
   split at e <;> cases e
   trivial
def nK (n:Nat) (m:List Sl->Res Kvs):Sp:=fun vs H Q _=>∃ G ss kvs,Same G H/\SlL G ss vs/\ss.length=n/\m ss=.ok kvs/\∀ p G' H',Grow G H G' H'->H p=none->G' p=none->OwnOk G' H' p (.tuple [.dict kvs,.none])->Q (.ref p) H'
structure FnSN (P:Program) (w:World) (K:PySem.W.Frag) (mg:Str->Option Value) (base:Heap) (x:Str) (k n:Nat) (m:List Sl->Res Kvs):Prop where
 ex:∃ f fd ps,ps.length=n/\FnOk P w K mg base CX0 k f fd ps (nK n m)/\mg x=some (.ref f)/\PySem.W.keepIn K (.ref f)=true/\Binds K fd ps []
noncomputable def kQ (N:List Str) (g:Dn->Res Kvs):List Sl->Res Kvs:=fun ss=>g (Ez N ss)
noncomputable def Ql (f:Dn->Res PyData) (i:Nat) (m:List Sl->Res Kvs):Dn->Res Kvs:=fun δ=>(f δ).bind fun d=>match δ[i]? with
 | some (.fd kvs)=>m [.sh d,.fd kvs]
 | _=>.no
noncomputable def Zi (b:Bool) (f:Dn->Res PyData) (fx:Dn->Res Kvs):Dn->Res PyData:=fun δ=>(f δ).bind fun kd=>(fx δ).bind fun kvs=>if nkD kd=true then .ok (.bool ((P0 kvs kd).isSome != b)) else .no
theorem FdOk.is {G:Hp} {o:Option V} {kvs:Kvs} (h:FdOk G o kvs):∃ a,o=some (.ref a):=by
 unfold FdOk at h
 split at h
 . obtain ⟨a,kk,h1,_⟩:=h; exact ⟨a,h1⟩
 . obtain ⟨a,ob,kk,h1,_⟩:=h; exact ⟨a,h1⟩
theorem SR.fdV {G H:Hp} {σ:St} {δ:Dn} {i:Nat} {kvs:Kvs} (S:SR G H σ δ) (hi:δ[i]? = some (.fd kvs)):∃ v,σ[i]? = some (some v)/\FdOk G (some v) kvs:=by
 have h:FdOk G (σ[i]?.join) kvs:=S.sl i _ hi
 obtain ⟨a,e⟩:=h.is
 rw [e] at h
 refine ⟨.ref a,?_,h⟩
 cases z:σ[i]? with
 | none=>rw [z] at e; cases e
 | some z' =>
   rw [z] at e
   cases z' with
   | none=>cases e
   | some z''=>cases e; rfl
noncomputable section
variable {P:Program} {w:World} {K:PySem.W.Frag} {mg:Str->Option Value} {base:Heap} {X:Cx} {N:List Str} {sc:Scope} {k:Nat} {df:Bool} {E:EK} {pos p p1:Pos} {a e:Expr} {f:Dn->Res PyData} {fx:Dn->Res Kvs} {x y:Str}
theorem fn_SN {x:Str} {st:Stmt} {ps:List Str} {n:Nat} {go:Dn->Res Kvs} {m:List Sl->Res Kvs} (F:Def K mg x st ps) (S:FnScope N ps (A5 st)) (hn:ps.length=n)
   (body:∀ X,Cxt P w K mg base X N (A5 st) k true->DSN X E0k (B5 st) go) (hm:m=kQ N go):FnSN P w K mg base x (k+1) n m:=by
 obtain ⟨f,fd,F,hmg,hb⟩:=F.ex
 refine ⟨f,fd,ps,hn,?_,hmg,F.kp,hb⟩
 subst hm
 refine F.ok S (fun vs H Q E h=>?_) (fun cdv A outer s H vs Q E hr h=>?_)
 . obtain ⟨G,ss,d,_,r,hl,_⟩:=h
   rw [<- r.length,hl,hn]
 . obtain ⟨G,ss,kvs,hG,r,hl,em,q⟩:=h
   refine ⟨_,body _ ⟨rfl,rfl,rfl,rfl,rfl,rfl,rfl,rfl,hr,fun _ _=>rfl,PassesOwn.never⟩ G H,G,_,cU hG r N,?_⟩
   unfold kQ at em; rw [em]; exact q
theorem AftN.grow {G H G' H':Hp} {r:Res Kvs} {Q:VK} (g:Grow G H G' H') (a:AftN E G H r Q):AftN E G' H' r Q:=by
 cases r with
 | ok kvs=>exact fun p G2 H2 g2 hp hp' ho=>a p G2 H2 (g.trans g2) (g.h.free hp) hp' ho
 | exc c=>exact fun G2 H2 g2=>a G2 H2 (g.trans g2)
 | no=>exact a
theorem Xe {G H:Hp} {σ:St} {δ:Dn} {k:PyData->Res Kvs} {Q R:VK} (S:SR G H σ δ) (a:AftN E G H ((f δ).bind k) Q)
   (h:∀ d v G1 H1,Grow G H G1 H1->Rep G1 d v->SR G1 H1 σ δ->AftN E G1 H1 (k d) Q->R v H1):tD E f σ H R:=by
 refine ⟨G,δ,S,?_⟩
 cases e:f δ with
 | ok d=>rw [e] at a; exact fun v G' H' g r=>h d v G' H' g r (S.grow g) (a.grow g)
 | exc c=>rw [e] at a; exact a
 | no=>rw [e] at a; exact a
theorem aft_N {G H:Hp} {σ:St} {δ:Dn} {kk:Kvs->Res PyData} {Q R:VK} (S:SR G H σ δ) (a:Aft E G H ((fx δ).bind kk) Q)
   (h:∀ kvs p G1 H1,Grow G H G1 H1->OwnOk G1 H1 p (.tuple [.dict kvs,.none])->SR G1 H1 σ δ->Aft E G1 H1 (kk kvs) Q->R (.ref p) H1):tN E fx σ H R:=by
 refine ⟨G,δ,S,?_⟩
 cases q:fx δ with
 | ok kvs=>rw [q] at a; exact fun p G' H' g _ _ ho=>h kvs p G' H' g ho (S.grow g) (Aft.grow g a)
 | exc c=>rw [q] at a; exact a
 | no=>rw [q] at a; exact a
theorem fK {j:Nat} {m:List Sl->Res Kvs} (C:Cxt P w K mg base X N sc k df) (F:FnSN P w K mg base y j 2 m) (hj:j<=k) (h:okGl sc y=true) (ha:DE X E0k e f) (i:Nat) (hv:okVar N sc i x=true)
   (he:starEach [e,.Name x p1] X.env=(false,eval e X.env)::starEach [.Name x p1] X.env:=by rfl) (he2:starEach [.Name x p1] X.env=(false,eval (.Name x p1) X.env)::starEach [] X.env:=by rfl) (hpl:(backTo pos (starEach [.Name x p1] X.env)).any (·.1)=false:=by rfl) :
   DN X E0k (.Call (.Name y p) [e,.Name x p1] [] pos) (Ql f i m):=by
 obtain ⟨fa,fd,ps,hps,F,hm,hk,hb⟩:=F.ex
 obtain ⟨h1,h2,h3⟩:=okGl.gl C h
 have F':FnOk X.prog X.w X.K X.mg X.base CX0 j fa fd ps (nK 2 m):=by rw [C.hP,C.hw,C.hK,C.hmg,C.hb]; exact F
 refine PE.imp (Bx F' (C.room.mono hj) h1 (by rw [C.hmg]; exact hm) (by rw [C.hK]; exact hk) (by rw [C.hK]; exact hb) .nil (Pe (X:=X)) (E1 ha (E1 (okVar.pe C hv) L9 he2) he) h2 he hpl) fun σ H Q hh=>?_
 obtain ⟨G,δ,S,aft⟩:=hh
 refine Xe S aft fun d v G1 H1 g1 r1 S1 a1=>?_
 split at a1
 . rename_i kvs hi
   obtain ⟨u,hσ,fo⟩:=S1.fdV hi; refine ⟨u,hσ,?_⟩
   cases em:m [.sh d,.fd kvs] with
   | ok r=>rw [em] at a1; exact ⟨G1,[.sh d,.fd kvs],r,S1.sub,⟨v,_,rfl,r1,u,_,rfl,fo,rfl⟩,rfl,em,a1⟩
   | exc c=>rw [em] at a1; exact (a1 G1 H1 (Grow.refl S1.sub)).elim
   | no=>rw [em] at a1; exact a1.elim
 . exact (show False from a1).elim
theorem kN {t:Bool} {σ:St} {H:Hp} {Q:VK} (h:tD E (Zi t f fx) σ H Q):nF t (tD E f) (tN E fx) σ H Q:=by
 obtain ⟨G,δ,S,aft⟩:=h
 refine G6 S aft fun kd v G1 H1 g1 r1 S1 a1=>?_
 refine aft_N S1 a1 fun kvs q G2 H2 g2 ho S2 a2=>?_
 split at a2
 . rename_i hn
   obtain ⟨kk,hx,hkeys,hvals⟩:=(show OwnK G2 H2 q [.dict kvs,.none] from ho)
   refine ⟨q,kk,kd,rfl,.inl hx,Fb S2.sub hn (r1.mono g2.g),hn,?_⟩; have:(M8 kk kd).isSome=(P0 kvs kd).isSome:=by
     rcases Dm (k:=kd) hkeys hvals with ⟨n1,n2⟩ | ⟨d0,v0,n1,n2,_⟩ <;> rw [n1,n2] <;> rfl
   rw [this]; exact a2 _ G2 H2 (Grow.refl S2.sub) rfl
 . exact (show False from a2).elim
theorem Uq (C:Cxt P w K mg base X N sc k df) (hk:DE X E a f) (he:DN X E e fx) (hm:behindInMarks .NotIn e=false:=by with_unfolding_all rfl):DE X E (.Compare a [.NotIn] [e] pos) (Zi true f fx) :=
 PE.imp (eT (Hm (by have:=C.hu; lia) hk he) hm) fun _ _ _ h=>kN h
end
end Sm
end
noncomputable section
namespace Sm
open PySem PySem.Spec PyProof.Rows PySem.W L2
theorem aO {X:Cx} (hu:X.A.units+64 < cLine):MtR X "list.index" (fun x vs H Q=>∃ G ds v d,∃ j:Nat,Same G H/\Rep G (.list ds) x/\vs=[v]/\Rep G d v/\ds.findIdx? (fun y=>PyData.eqv y d)=some j/\ds.length<=100000/\d.depth<=40/\Q (.int j) H):=by
 rintro pins s σ H x vs v us Q I rx rv ⟨G,ds,v1,d,j,hG,rl,e1,rd,hj,hn,hdp,q⟩
 subst e1
 obtain ⟨u,rfl,ru⟩:=rv.one
 obtain ⟨as,r1⟩:=rl.reads I hG rx
 obtain ⟨bs,r2⟩:=rd.reads I hG ru
 have hxs:PyData.canLayAll0 ds=true:=by have:=rl.lay; simpa [PyData.canLay0] using this
 obtain ⟨hjl,hit,hno⟩:=List.findIdx?_eq_some_iff_getElem.mp hj
 cases r1 with
 | @list a o vs n _ _ h1 h2 h3 h4 =>
   have hm:=SeqAt.readsAll_map ds _ _ hxs h4; have hlen:vs.size=ds.length:=by have:=congrArg List.length hm; simpa using this
   have at':∀ (i:Nat) (hi:i < vs.size),SeqAt.readOf s.heap vs[i]=ds[i]'(by lia):=fun i hi=>by
     have:=congrArg (fun l=>l[i]?) hm
     simp only [List.getElem?_map] at this; rw [List.getElem?_eq_getElem (by simpa using hi),List.getElem?_eq_getElem (by lia)] at this
     simpa using this
   have hd:=SeqAt.items_eqAt (A:=X.A) h4 r2 hxs rd.lay (by have:=Nat.min_le_right (PyData.depthAll ds) d.depth; lia)
   obtain ⟨c0,d0,da0,sl0⟩:=o; simp only at h2 h3; subst h2 h3; refine call_meets F.slot_list_index ⟨_,h1,rfl⟩ F.entry_list_index (F.args_list_index_2 _ _) (SeqAt.list_indexAt a vs n d0 sl0 u (fun y=>PyData.eqv (SeqAt.readOf s.heap y) d) j (by lia) (by lia) ?_ fun m hm' hmj=>?_) ⟨h1,hd,?_⟩
   . rw [at' j (by lia)]; exact hit
   . have:=hno m hmj
     rw [at' m hm']
     simpa using this
   . exact ⟨.int j,H,I.tok _,⟨_,rfl⟩,q⟩
noncomputable def Dw (g f:Dn->Res PyData):Dn->Res PyData:=fun δ=>(g δ).bind fun z=>match z with
 | .list ds=>(f δ).bind fun d=>match ds.findIdx? (fun y=>PyData.eqv y d) with
   | some j=>if ds.length<=100000/\d.depth<=40 then .ok (.int (j:Nat)) else .no
   | none=>.no
 | _=>.no
noncomputable section
variable {P:Program} {w:World} {K:PySem.W.Frag} {mg:Str->Option Value} {base:Heap} {X:Cx} {N:List Str} {sc:Scope} {k:Nat} {df:Bool} {E:EK} {a b:Expr} {f g:Dn->Res PyData}
theorem gW {apos cpos:Pos} (C:Cxt P w K mg base X N sc k df) (hb:DE X E b g) (ha:DE X E a f) (hbase:attributeBase b "index" X.env (eval b X.env)=eval b X.env:=by rfl)
   (hfew:((backTo cpos (starEach [a] X.env)).all (fun x => !x.1)&&(backToKw cpos (keywordEach [] X.env)).all (fun x=>x.1.isSome)
     && decide ([a].length+([]:List Keyword).length+(if ([]:List Keyword).isEmpty then 0 else 1) < 30))=true:=by rfl)
   (hline:(apos.endLine==cpos.line)=true:=by rfl) (hs:starEach [a] X.env=(false,eval a X.env)::starEach [] X.env:=by rfl) (hplain:(backTo cpos (starEach [] X.env)).any (·.1)=false:=by rfl) :
   DE X E (.Call (.Attribute b "index" apos) [a] [] cpos) (Dw g f):=by
 refine PE.imp (Mb PySem.F.plainAttrs_list PySem.F.slot_list_index PySem.F.type_list_index (aO C.hu) hb (E1 ha L9 hs) hbase hfew hline hs hplain) fun σ H Q hZ3=>?_
 obtain ⟨G,δ,S,aft⟩:=hZ3
 refine G6 S aft fun d0 v0 G0 H0 g0 r0 S0 a0=>?_
 split at a0
 . rename_i ds
   obtain ⟨l,xs,rfl,hl,ll⟩:=r0; refine ⟨.inl ⟨rfl,xs,.inl (Rd.mono S0.sub hl)⟩,?_⟩; refine G6 S0 a0 fun d v G1 H1 g1 r1 S1 a1=>?_
   split at a1
   . rename_i j hj
     split at a1
     . rename_i hc
       exact ⟨G1,ds,v,d,j,S1.sub,⟨l,xs,rfl,Rd.mono g1.g hl,ll.mono g1.g⟩,rfl,r1,hj,hc.1,hc.2,a1 _ G1 H1 (Grow.refl S1.sub) rfl⟩
     . exact a1.elim
   . exact a1.elim
 . exact a0.elim
end
end Sm
end
noncomputable section
namespace Sm
open PySem PySem.Spec PyProof.Rows PySem.W L2
noncomputable def Mj {α:Type} (acc prs:List (PyData×α)):List (PyData×α):=prs.foldl (fun acc kv=>Q5 acc kv.1 kv.2) acc
def PairN (H:Hp) (y:V) (kv:PyData×V):Prop:=∃ t k,y=.ref t/\H t=some (.tup [k,kv.2])/\KRep H kv.1 k/\nkD kv.1=true
theorem PairN.mono {H H':Hp} {y:V} {kv:PyData×V} (h:PairN H y kv) (k:∀ b xs,H b=some (.tup xs)->H' b=some (.tup xs)):PairN H' y kv:=by
 obtain ⟨t,b,e,h1,h2,h3⟩:=h
 exact ⟨t,b,e,k _ _ h1,h2.mono k,h3⟩
theorem gR {P:Program} {w:World} {H:Hp} (h:Heap) (hb:sysModules < h.objs.size):ObjOk P w H (h.push { cls:=.type "dict",data:=.dict #[] }) h.objs.size (.dN []) :=
 ⟨Nat.zero_le _,beq_eq_false_iff_ne.mpr (Ne.symm (Nat.ne_of_lt hb)),.nil,(fun _ h=>nomatch h),[],.nil,0,Heap.get?_push_size _ rfl⟩
noncomputable section
variable {X:Cx} {pins:List (Addr×Obj)} {σ:St}
theorem Wt {A:Around} {a d it:Addr} (hh:A.handled=none) (hu:A.units+16 < cLine) {ys:List V} {R:Result->Shared->Prop}:∀ (n i:Nat) (s:Shared) (H:Hp) (acc:List (PyData×V)) (prs:List (PyData×V)),n=prs.length ->
   Inv X pins σ H s->H d=some (.dN acc)->Rd H a (.lst ys)->s.heap.IsListIter it a i->Ck X pins H it->Paired (PairN H) (ys.drop i) prs->i+prs.length=ys.length->acc.length+prs.length < 10000->ys.length < 10000 ->
   (∀ s',Inv X pins σ (upd H d (.dN (Mj acc prs))) s'->R (.ok (.ret .none)) s') ->
   codeAny (model X.prog X.w) A (.builtin "dict.update.loop" ⟨[.ref d,.ref it,rawInt i,.none],[]⟩) R s:=by
 intro n
 induction n with
 | zero =>
   intro i s H acc prs hn I hd hl st fp hp hlen hacc hys hR; have:prs=[]:=List.length_eq_zero_iff.mp hn.symm; subst this; refine codeAny_builtin Cw ?_; rw [Around.under_plainId Cu _]; obtain ⟨its,rv,p,hz⟩:=I.list (.inl hl); have hl':=rv.length; simp only [List.length_nil,Nat.add_zero] at hlen; show wpAny _ A.in1 (pyNext (.ref it)>>=_) _ _ s
   obtain ⟨f0,f1,f2,f3,f4,f5⟩:=fp; refine wpAny_bind (wpAny_pyNext_list_end hh st p.isList (by simp; lia) fun h' eb=>?_)
   have I1:Inv X pins σ H { s with heap:=h' }:=I.turned (t':=s.toks) (fun b o hb e=>eb b o hb e) f0 f1 f3 f4 f5
   have hsame:upd H d (.dN (Mj acc []))=H:=by
     funext b
     unfold upd
     split
     . rename_i e; rw [e,hd]; rfl
     . rfl
   rw [hsame] at hR; show wpAny _ A.in1 (Builtin.Dict.addKeywords d []>>=_) _ _ _
   exact wpAny_bind (wpAny_pure (wpAny_pure (hR _ I1)))
 | succ n ih =>
   intro i s H acc prs hn I hd hl st fp hp hlen hacc hys hR
   cases prs with
   | nil=>simp at hn
   | cons kv prs =>
     simp only [List.length_cons] at hn hlen hacc; have hi:i < ys.length:=by lia
     have hdrop:ys.drop i=ys[i]::ys.drop (i+1):=List.drop_eq_getElem_cons hi; rw [hdrop] at hp
     cases hp with
     | cons h0 hp =>
       obtain ⟨t,kk,ey,ht,hb,hnk⟩:=h0; refine codeAny_builtin Cw ?_; rw [Around.under_plainId Cu _]; obtain ⟨its,rv,p,hz⟩:=I.list (.inl hl); obtain ⟨u,hu',ru⟩:=rv.get (List.getElem?_eq_getElem hi); rw [ey] at ru
       cases (show u=Value.ref t from ru)
       obtain ⟨f0,f1,f2,f3,f4,f5⟩:=fp; show wpAny _ A.in1 (pyNext (.ref it)>>=_) _ _ s
       refine wpAny_bind (wpAny_pyNext_list_item st p.isList (x:=.ref t) (by simpa using hu') fun h' st' sb=>?_)
       have I1:Inv X pins σ H { s with heap:=h' }:=I.turned (t':=s.toks) (fun b o hb e=>(sb.2 b hb).trans e) f0 f1 f3 f4 f5
       obtain ⟨its2,rv2,p2,_⟩:=I1.tuple (.inl (.inl ht))
       cases rv2 with
       | @cons _ u1 _ _ r1 rr =>
         cases rr with
         | @cons _ u2 _ _ r2 rr2 =>
           cases rr2; obtain ⟨ot,hot,hotc,nt,hotd⟩:=p2; obtain ⟨c0,d0,da0,sl0⟩:=ot; simp only at hotc hotd; subst hotc hotd; refine wpAny_bind (wpAny_holding (wpAny_bind (wpAny_tryCatch ?_))); unfold Builtin.Dict.pairItems; have hT:({ s with heap:=h' }:Shared).TypeIs (.ref t) "tuple" := ⟨_,hot,rfl⟩
           generalize hDS:dictSet=DS
           repeat (any_goals (first | assumption | wp_step))
           subst hDS; refine Pi (A:=A.in1) (by show A.units+1+8 < cLine; lia) I1 hd hb hnk (Nat.lt_of_lt_of_le (show acc.length < 10000 by lia) (by decide)) r1 r2 fun s3 I3 sb3=>?_
           have hne:it≠d:=fun z=>by rw [z,hd] at f0; cases f0
           have hne2:∀ c xs,H c=some (.tup xs)->upd H d (.dN (Q5 acc kv.1 kv.2)) c=some (.tup xs):=fun c xs e=>by rw [B3 (Mg e hd (fun z=>nomatch z))]; exact e
           refine wpAny_pure ⟨Code.quiet_builtin _ (by decide +kernel),?_⟩
           refine ih (i+1) s3 _ (Q5 acc kv.1 kv.2) prs (by lia) I3 B7 ?_ (st'.at fun o e=>sb3 it o hne e) ⟨by rw [B3 hne]; exact f0,f1,f2,f3,f4,f5⟩ (Paired.mapP hp fun _ _ z=>z.mono hne2) (by lia) (by have:=Bf (k:=kv.1) (v:=kv.2) acc; lia) hys fun s' J=>?_
           . rcases hl with z | ⟨o,z⟩
             . exact .inl (by rw [B3 (Mg z hd (fun z=>nomatch z))]; exact z)
             . exact .inr ⟨o,by rw [B3 (Mg z hd (fun z=>nomatch z))]; exact z⟩
           . rw [Qo] at J
             exact hR s' J
theorem Xa (hh:X.A.handled=none) (hu:X.A.units+64 < cLine):Ac X (.type "dict") (fun vs H Q=>∃ a ys prs,vs=[.ref a]/\Rd H a (.lst ys)/\Paired (PairN H) ys prs/\ys.length < 1000/\∀ p,H p=none->Q (.ref p) (upd H p (.dN (Mj [] prs)))):=by
 rintro pins s σ H xs us Q I r ⟨a,ys,prs,e0,hl,hp,hn,q⟩
 subst e0
 cases r with
 | cons r0 rr =>
   cases rr; obtain ⟨rfl⟩:=(show _=Value.ref a from r0)
   refine callType_codes (Q₁:=fun obj s₁=>obj=.ref s.heap.objs.size/\s₁={ s with heap:=s.heap.push { cls:=.type "dict",data:=.dict #[] } }) F.kt_called_dict (F.kt_typeCall_dict_1 _) F.entry_dict_init (kt_code_dict_new _ ⟨rfl,rfl⟩) ?_
   rintro obj s₁ ⟨rfl,rfl⟩
   have hfr:=I.hok.fresh (Nat.le_refl s.heap.objs.size); have I1:=I.laid (a:=s.heap.objs.size) (o:=.dN []) (h':=s.heap.push { cls:=.type "dict",data:=.dict #[] }) (t':=s.toks) (fun _ _ q=>Heap.get?_push_of_some _ q) (Nat.le_refl _) (gR s.heap I.big)
   have hTd:({ s with heap:=s.heap.push { cls:=.type "dict",data:=.dict #[] } }:Shared).TypeIs (.ref s.heap.objs.size) "dict" := ⟨_,Heap.get?_push_size _ rfl,rfl⟩; refine ⟨hTd,F.args_dict_init_2 _ _,?_⟩; have hl1:Rd (upd H s.heap.objs.size (.dN [])) a (.lst ys):=by
     rcases hl with z | ⟨o,z⟩
     . exact .inl (by rw [B3 (D6 z hfr)]; exact z)
     . exact .inr ⟨o,by rw [B3 (D6 z hfr)]; exact z⟩
   obtain ⟨_,its,nn,rv,hobj⟩:=(show ObjOk X.prog X.w _ _ a (.lst ys) from hl1.ok I1.hok)
   unfold Builtin.«dict.__init__»
   refine wpAny_bind ?_; unfold Builtin.Dict.selfAndRest; refine wpAny_bind (wpAny_notOrdered_dict hTd ?_); show wpAny _ _ (pure (s.heap.objs.size,[Value.ref a])) _ _ _
   refine wpAny_pure ?_; show wpAny _ _ (Builtin.Dict.updateFrom "dict.__init__" s.heap.objs.size (.ref a) [] .none) _ _ _
   unfold Builtin.Dict.updateFrom; refine wpAny_bind (wpAny_typeOf (T := "list") ⟨_,hobj,rfl⟩ ?_); rw [if_pos (by decide)]; refine wpAny_bind (aY hh hobj fun h1 tk1 kp=>?_)
   rw [if_pos (by rfl)]; have I2:Inv X pins σ (upd H s.heap.objs.size (.dN [])) { s with heap:=h1,toks:=tk1 }:=I1.kept (t':=tk1) kp; refine wpAny_bind (wpAny_rule ?_); obtain ⟨its2,rv2,p2,_⟩:=I2.list (.inl hl1); refine wpAny_bind (wpAny_pyIter_list p2.isList ?_); have I3:Inv X pins σ (upd H s.heap.objs.size (.dN [])) { s with heap:=h1.push { cls:=.type "list_iterator",data:=.fields #[.ref a,.int 0 0] },toks:=tk1 }:=I2.kept (t':=tk1) fun b o e=>Heap.get?_push_of_some _ e
   have hpz:Paired (PairN (upd H s.heap.objs.size (.dN []))) ys prs:=Paired.mapP hp fun _ _ z=>z.mono fun b xs e=>by rw [B3 (D6 e hfr)]; exact e
   have hle:prs.length=ys.length:=(Paired.len' hp).symm; refine wpAny_pure ⟨Code.quiet_builtin _ (by decide +kernel),?_⟩
   refine Wt (A:=X.A.in1) hh (by show X.A.units+1+16 < cLine; lia) (ys:=ys) prs.length 0 _ _ [] prs rfl I3 B7 hl1 ⟨_,Heap.get?_push_size _ rfl,rfl,rfl⟩ (I2.fpOk (Nat.le_refl _) (I2.hok.fresh (Nat.le_refl _))) hpz (by lia) (by simp; lia) (by lia) fun s' J=>?_
   rw [Qo] at J; exact ⟨rfl,.ref s.heap.objs.size,_,J,rfl,q _ hfr⟩
end
noncomputable def Dh:List PyData->Kvs->Option Kvs
 | [],kvs=>some kvs
 | .tuple [kd,v]::ds,kvs=>if nkD kd=true then Dh ds (Q5 kvs kd v) else none
 | _::_,_=>none
theorem Mc {G:Hp}:∀ (ds:List PyData) (ys:List V) (kvs kvs':Kvs) (kv:List (PyData×V)),RepL G ds ys->Dh ds kvs=some kvs'->kvs.map (·.1)=kv.map (·.1)->RepL G (kvs.map (·.2)) (kv.map (·.2)) ->
   ∃ prs,Paired (PairN G) ys prs/\kvs'.map (·.1)=(Mj kv prs).map (·.1)/\RepL G (kvs'.map (·.2)) ((Mj kv prs).map (·.2))
 | [],ys,kvs,kvs',kv,r,e,h1,h2=>by
   cases (show _=_ from r)
   cases e; exact ⟨[],.nil,h1,h2⟩
 | d::ds,ys,kvs,kvs',kv,r,e,h1,h2=>by
   obtain ⟨y,t,rfl,rd,rl⟩:=r; unfold Dh at e
   split at e
   . rename_i heq
     cases heq
   . rename_i kd v ds' heq
     cases heq
     split at e
     . rename_i ek
       obtain ⟨p,xs,rfl,hp,lp⟩:=rd; obtain ⟨v1,v2,rfl,r1,r2⟩:=dW lp; obtain ⟨p1,p2⟩:=Lx (k:=kd) r2 h1 h2; obtain ⟨prs,q1,q2,q3⟩:=Mc ds t _ kvs' _ rl e p1 p2; exact ⟨(kd,v2)::prs,.cons ⟨p,v1,rfl,hp,Fb (Same.refl G) ek r1,ek⟩ q1,q2,q3⟩
     . cases e
   . cases e
noncomputable def Wh (f:Dn->Res PyData):Dn->Res Kvs:=fun δ=>(f δ).bind fun d=>match d with
 | .list ds=>if ds.length < 1000 then ofO (Dh ds []) else .no
 | _=>.no
noncomputable section
variable {P:Program} {w:World} {K:PySem.W.Frag} {mg:Str->Option Value} {base:Heap} {X:Cx} {N:List Str} {sc:Scope} {k:Nat} {df:Bool} {E:EK} {p2 cp:Pos} {e:Expr} {f:Dn->Res PyData}
theorem kD (C:Cxt P w K mg base X N sc k df) (hd:okGl sc "dict" = true) (hm:mg "dict" = none) (hf:DE X E e f) (hst:Rm e=true:=by rfl)
   (he:starEach [e] X.env=(false,eval e X.env)::starEach [] X.env:=by rfl) (hpl:(backTo cp (starEach [] X.env)).any (·.1)=false:=by rfl) :
   DN X E (.Call (.Name "dict" p2) [e] [] cp) (Wh f):=by
 obtain ⟨k1,k2,k3⟩:=okGl.gl C hd
 refine PE.imp (Pd (Xa C.room.hd C.hu) k1 (by rw [C.hmg]; exact hm) (by decide +kernel) (E1 hf L9 he) k3 k2 he hpl) fun σ H Q hh=>?_
 obtain ⟨G,δ,S,aft⟩:=hh
 refine Xe S aft fun d v G1 H1 g1 r1 S1 a1=>?_
 split at a1
 . rename_i ds
   split at a1
   . rename_i hlen
     cases ek:Dh ds [] with
     | none=>rw [ek] at a1; exact (show False from a1).elim
     | some kvs =>
       rw [ek] at a1; obtain ⟨a,ys,rfl,ha,la⟩:=r1; obtain ⟨prs,q1,q2,q3⟩:=Mc ds ys [] kvs [] la ek rfl rfl; refine ⟨a,ys,prs,rfl,Rd.mono S1.sub ha,Paired.mapP q1 fun _ _ z=>z.mono fun b xs e=>S1.sub _ _ e,by rw [<- la.length]; exact hlen,fun q hq=>?_⟩
       exact a1 q G1 _ (Grow.own S1.sub hq) hq (S1.sub.free hq) (show OwnK G1 _ q [.dict kvs,.none] from ⟨_,B7,q2,q3⟩)
   . exact (show False from a1).elim
 . exact (show False from a1).elim
end
end Sm
end
noncomputable section
namespace Sm
open PySem PySem.Spec PySem.W PyProof.Rows L2
end Sm
end
noncomputable section
namespace Sm
open PySem PySem.Spec PySem.W PyProof.Rows L2
end Sm
end
noncomputable section
namespace Sm
open PySem PySem.Spec PyProof.Rows PySem.W L2
end Sm
end
noncomputable section
namespace Sm
open PySem PySem.Spec PyProof.Rows L2
noncomputable def lK:PyData->Option PyData
 | .tuple ds=>some (.tuple ds.reverse)
 | _=>none
theorem gK {α β:Type} (f:α->Option β) (g:α->β):∀ l:List α,(∀ a∈l,f a=some (g a))->l.filterMap f=l.map g
 | [],_=>rfl
 | a::l,h=>by
   rw [List.filterMap_cons,h a List.mem_cons_self,List.map_cons,gK f g l fun b hb=>h b (List.mem_cons_of_mem _ hb)]
theorem eJ (xs:List Value):((List.range xs.length).filterMap fun (m:Nat)=>xs.toArray[(((xs.length:Int) - 1)+(m:Int)*(-1)).toNat]?).toArray=xs.reverse.toArray:=by
 have e:((List.range xs.length).filterMap fun (m:Nat)=>xs.toArray[(((xs.length:Int) - 1)+(m:Int)*(-1)).toNat]?)=(List.range xs.length).map fun m=>xs.getD (xs.length - 1 - m) .none:=by
   refine gK _ _ _ fun m hm=>?_
   have hm':=List.mem_range.mp hm; have e:(((xs.length:Int) - 1)+(m:Int)*(-1)).toNat=xs.length - 1 - m:=by omega
   rw [e,List.getElem?_toArray,List.getD_eq_getElem?_getD,List.getElem?_eq_getElem (by omega)]; rfl
 rw [e]
 congr 1
 apply List.ext_getElem?
 intro i
 rw [List.getElem?_map]
 by_cases hi:i < xs.length
 . rw [List.getElem?_range hi,List.getElem?_reverse hi,Option.map_some,List.getD_eq_getElem?_getD,List.getElem?_eq_getElem (by omega)]
   rfl
 . rw [List.getElem?_eq_none (by simpa using Nat.not_lt.mp hi),List.getElem?_eq_none (by simpa using Nat.not_lt.mp hi)]
   rfl
theorem Gr {prog:Program} {w:World} {A:Around} {E:Value->Shared->Prop} {s:Shared} {t sl:Addr} {its:List Value} {tk:Tok} {Q:Value->Shared->Prop} (ht:IsTup s.heap t its.toArray) (hs:s.heap.IsSliceOf sl .none .none (.int (-1) tk)) (hsz:its.length<=sizeLine)
   (h:Q (.ref s.heap.objs.size) { s with heap:=s.heap.push { cls:=.type "tuple",data:=.seq its.reverse.toArray } }):wpAny (model prog w) A (getItem (.ref t) (.ref sl)) Q E s:=by
 obtain ⟨os,hos,hcs,hds⟩:=id hs
 have hTs:s.TypeIs (.ref sl) "slice" := ⟨os,hos,hcs⟩
 have htake:sizeOk (.seq its.reverse.toArray):=by
   show its.reverse.toArray.size<=sizeLine
   rw [List.size_toArray,List.length_reverse]; exact hsz
 unfold getItem
 try with_reducible refine wpAny_holding ?_
 first | refine wpAny_bind (wpAny_pure ?_) | skip
 refine wpAny_bind (wpAny_sequenceKey ht.typeIs (by decide) ?_)
 refine wpAny_bind (wpAny_callSpecial?_slot (name:=Str.ofString "__getitem__") ht.typeIs PyProof.Rows.slot_tuple_getitem
   (wpAny_call_entry PyProof.Rows.slot_tuple_getitem ht.typeIs entry_tuple_getitem ?_ (args_tuple_getitem _ _)))
 show wpAny _ _ (Builtin.Tuple.tupleItemsOf (.ref t)>>=_) _ _ s
 refine wpAny_bind (tupleItemsOf_ ht ?_)
 refine wpAny_bind (wpAny_typeOf hTs ?_)
 rw [if_pos (by decide)]
 have hz:its.toArray.size=its.length:=List.size_toArray
 have hap:∀ {Q:Int×Int×Nat->Shared->Prop},Q ((its.length:Int) - 1,-1,its.length) s->wpAny (model prog w) A.in1 (Builtin.Slice.sliceApplied (.ref sl) (pure (its.toArray.size:Int))) Q E s:=fun {Q} hQ=>by
   unfold Builtin.Slice.sliceApplied Builtin.Slice.sliceFields; refine wpAny_bind (wpAny_bind (wpAny_field hos hds (x:=.none) rfl (wpAny_bind (wpAny_field hos hds (x:=.none) rfl (wpAny_bind (wpAny_field hos hds (x:=.int (-1) tk) rfl (wpAny_pure ?_))))))); refine wpAny_bind (slicePart_int ?_); show wpAny _ _ (if ((-1:Int)==0)=true then _ else _) _ _ s
   rw [if_neg (by decide)]; refine wpAny_bind (slicePart_none (wpAny_bind (slicePart_none (wpAny_bind (wpAny_pure ?_))))); show wpAny _ _ (match Builtin.Slice.sliceAdjust none none (-1) (its.toArray.size:Int) with | (lo,hi)=>pure (lo,(-1:Int),Builtin.Slice.slicePlaces lo hi (-1))) _ _ s
   have ea:Builtin.Slice.sliceAdjust none none (-1) (its.toArray.size:Int)=((its.length:Int) - 1,-1):=by
     rw [hz]; rfl
   rw [ea]; show wpAny _ _ (pure ((its.length:Int) - 1,(-1:Int),Builtin.Slice.slicePlaces ((its.length:Int) - 1) (-1) (-1))) _ _ s
   have ep:Builtin.Slice.slicePlaces ((its.length:Int) - 1) (-1) (-1)=its.length:=by
     unfold Builtin.Slice.slicePlaces; rw [if_neg (by decide)]
     split
     . have : ((its.length : Int) - 1 - -1 - 1) / (- -1) = (its.length : Int) - 1 := by
         rw [show (- -1:Int)=1 by decide,Int.ediv_one]; omega
       rw [this]; omega
     . omega
   rw [ep]; exact wpAny_pure hQ
 refine wpAny_bind (hap ?_)
 show wpAny _ _ (if (((its.length:Int) - 1==0&&(-1:Int)==1&&its.length==its.toArray.size)=true) then _ else _) _ _ s
 rw [if_neg (by simp),eJ]
 first
   | exact wpAny_bind (m:=Builtin.Tuple.tupleExact _) (wpAny_newObj_type (wpAny_pure ⟨_,rfl,wpAny_pure h⟩) htake)
   | exact wpAny_bind (m:=Builtin.Tuple.tupleExact _) (wpAny_newObj_type (wpAny_bind (wpAny_pure (wpAny_pure ⟨_,rfl,wpAny_pure h⟩))) htake)
   | exact wpAny_bind (wpAny_bind (m:=Builtin.Tuple.tupleExact _) (wpAny_newObj_type (wpAny_pure (wpAny_pure ⟨_,rfl,wpAny_pure h⟩)) htake))
   | exact wpAny_bind (wpAny_bind (m:=Builtin.Tuple.tupleExact _) (wpAny_newObj_type (wpAny_pure ⟨_,rfl,wpAny_pure h⟩) htake))
noncomputable section
variable {w:World} {X:Cx} {E:EK} {pos p1 p2 p3:Pos} {a b:Expr} {f:Dn->Res PyData} {x:Str} {i:Nat}
theorem d_rev {j:Nat} (ha:DE X E a f):DE X E (.Subscript a (.Slice none none (some (.UnaryOp .USub (.Constant (.int 1) j p1) p2)) p3) pos) (b1 f lK):=by
 rintro pins s σ H Q I ⟨G,δ,S,aft⟩
 have hh:tD E f σ H (fun v H1=>∃ G1 d,Same G1 H1/\Rep G1 d v/\Aft E G1 H1 (ofO (lK d)) Q):=G6 S aft fun d v G1 H1 g1 r1 S1 a1=>⟨G1,d,S1.sub,r1,a1⟩
 refine Subscript_ (thn (ha pins s σ H _ I hh) fun v s1 hZ2=>?_)
 obtain ⟨x,H1,I1,rx,G1,d,hG,rd,a1⟩:=hZ2
 refine wpAny_Slice ?_
 rw [evalPart_none]
 refine wpAny_pure (wpAny_pure ?_)
 rw [evalPart_some]
 refine thn ((eM Vo (Rk (i:=1) (j:=j) (pos:=p1))) pins s1 σ H1 (fun v H2=>v=.int (-1)/\H2=H1) I1 ⟨1,rfl,rfl,rfl⟩) fun u s2 hZ2=>?_
 obtain ⟨y,H2,I2,ry,ey,eh⟩:=hZ2
 subst ey eh
 obtain ⟨tk,rfl⟩:=ry
 cases d with
 | tuple ds =>
   obtain ⟨q,xs,rfl,h1,l1⟩:=rd; cases rx; have I3:Inv X pins σ H2 { s2 with heap:=s2.heap.push { cls:=.type "slice",data:=.fields #[.none,.none,.int (-1) tk] } }:=I2.kept (t':=s2.toks) fun b ob q=>Heap.get?_push_of_some _ q
   obtain ⟨z,its,rv,ht⟩:=Fc I3 hG h1; show wpAny (model X.prog X.w) X.A (subscriptTail a _ (.ref q) (.ref s2.heap.objs.size)) (EP X pins σ Q) X.xe { s2 with heap:=s2.heap.push { cls:=.type "slice",data:=.fields #[.none,.none,.int (-1) tk] } }
   refine tail_any (ops:=[.ref q,.ref s2.heap.objs.size]) ht.typeIs PyProof.Rows.slot_tuple_getitem.lookup (Gr ht (Heap.IsSliceOf.new ..) (by rw [<- rv.length]; exact z) ?_) (by with_unfolding_all rfl)
   exact Rt (t':=s2.toks) I3 hG rv.reverse l1.reverse (by rw [List.length_reverse]; exact z) a1
 | _=>exact (show False from a1).elim
end
end Sm
end
noncomputable section
namespace Sm
open PySem PySem.Spec PyProof.Rows L2
end Sm
end
noncomputable section
namespace Sm
open PySem PySem.Spec PyProof.Rows L2
end Sm
end
noncomputable section
namespace Sm
open PySem PySem.Spec PyProof.Rows L2
end Sm
end
noncomputable section
namespace Sm
open PySem PySem.Spec PyProof.Rows L2
end Sm
end
noncomputable section
namespace Sm
open PySem PySem.Spec PyProof.Rows L2
end Sm
namespace Sm
open PySem PySem.Spec PyProof.Rows L2
end Sm
end
noncomputable section
namespace Sm
open PySem PySem.Spec PyProof.Rows L2
end Sm
end
noncomputable section
namespace Sm
open PySem PySem.Spec PyProof.Rows L2
noncomputable section
variable {a b c d:Expr}
noncomputable def st3 (i j l:Nat):PyData->Dn->Option Dn:=fun d δ=>match d with
 | .tuple [a,b,c]=>some (((δ.set i (.sh a)).set j (.sh b)).set l (.sh c))
 | _=>none
end
end Sm
end
noncomputable section
namespace Sm
open PySem PySem.Spec PyProof.Rows L2
end Sm
end
noncomputable section
namespace Sm
open PySem PySem.Spec PyProof.Rows PySem.W L2
end Sm
end
noncomputable section
namespace Sm
open PySem PySem.Spec PyProof.Rows PySem.W L2
end Sm
end
noncomputable section
namespace Sm
open PySem PySem.Spec PyProof.Rows PySem.W L2
noncomputable def flB (i:Nat):List Bool:=[i==0,i==1,i==2]
abbrev flV (i:Nat):List V:=(flB i).map .bl
noncomputable section
variable {X:Cx}
theorem Qm:∀ {bs:List Bool} {us:List Value},Vals (bs.map V.bl) us->us=bs.map Value.bool
 | [],_,h=>by cases h; rfl
 | b::bs,_,h=>by
   cases h with
   | cons hq q=>rw [show _=Value.bool b from hq,Qm q]; rfl
noncomputable def isT (v:Value):Bool:=match v with
 | .bool b=>b
 | _=>false
theorem mS {bs:List Bool} {y:Value} (h:y∈(bs.map Value.bool).toArray) (A:Around) (s:Shared):SeqAt.EqAt A s y (.bool true) (isT y):=by
 obtain ⟨b,_,rfl⟩:=List.mem_map.mp (List.mem_toArray.mp h)
 have:=SeqAt.EqAt.bool_bool (A:=A) (s:=s) b true
 cases b <;> exact this
noncomputable def rCnt3 (i:Nat):V->List V->Hp->VK->Prop:=fun x xs H Q=>∃ l,x=.ref l/\xs=[.bl true]/\H l=some (.lst (flV i))/\Q (.int 1) H
theorem cnt3 {i:Nat} (hi:i < 3):((flB i).map Value.bool).countP isT=1:=by
 match i,hi with
 | 0,_=>rfl
 | 1,_=>rfl
 | 2,_=>rfl
theorem kH {i:Nat} (hi:i < 3):MtR X "list.count" (rCnt3 i):=by
 rintro pins s σ H x vs v us Q I rx rv ⟨l,hx,hxs,hH,q⟩
 subst hx hxs
 cases (show v=Value.ref l from rx)
 obtain ⟨u,rfl,ru⟩:=rv.one
 cases (show u=Value.bool true from ru)
 obtain ⟨z,its,n,r,e⟩:=R0 I (Same.refl _) (.inl hH)
 have hz:=Qm r
 subst hz
 refine call_meets F.slot_list_count ⟨_,e,rfl⟩ F.entry_list_count (F.args_list_count_2 _ _) (SeqAt.list_countAt l ((flB i).map Value.bool).toArray n none #[] (.bool true) isT) ⟨e,fun y hy=>mS hy _ _,?_⟩
 have hc:(((flB i).map Value.bool).toArray.toList.countP isT:Nat)=1:=cnt3 hi
 rw [hc]
 exact ⟨.int 1,H,I.tok _,⟨_,rfl⟩,q⟩
noncomputable def rIdx3 (i:Nat):V->List V->Hp->VK->Prop:=fun x xs H Q=>∃ l,x=.ref l/\xs=[.bl true]/\H l=some (.lst (flV i))/\Q (.int (i:Int)) H
theorem idx3 {i:Nat} (hi:i < 3):isT (((flB i).map Value.bool).toArray[i]'(show i < 3 from hi))=true/\∀ m (hm:m < ((flB i).map Value.bool).toArray.size),m < i->isT (((flB i).map Value.bool).toArray[m])=false:=by
 match i,hi with
 | 0,_=>exact ⟨rfl,fun m _ h=>absurd h (Nat.not_lt_zero _)⟩
 | 1,_=>exact ⟨rfl,fun m _ h=>by match m,h with | 0,_=>rfl⟩
 | 2,_=>exact ⟨rfl,fun m _ h=>by match m,h with | 0,_=>rfl | 1,_=>rfl⟩
theorem kG {i:Nat} (hi:i < 3):MtR X "list.index" (rIdx3 i):=by
 rintro pins s σ H x vs v us Q I rx rv ⟨l,hx,hxs,hH,q⟩
 subst hx hxs
 cases (show v=Value.ref l from rx)
 obtain ⟨u,rfl,ru⟩:=rv.one
 cases (show u=Value.bool true from ru)
 obtain ⟨z,its,n,r,e⟩:=R0 I (Same.refl _) (.inl hH)
 have hz:=Qm r
 subst hz
 refine call_meets F.slot_list_index ⟨_,e,rfl⟩ F.entry_list_index (F.args_list_index_2 _ _) (SeqAt.list_indexAt l ((flB i).map Value.bool).toArray n none #[] (.bool true) isT i (show i < 3 from hi) (by lia) (idx3 hi).1 (idx3 hi).2) ⟨e,fun y hy=>mS hy _ _,?_⟩
 exact ⟨.int (i:Int),H,I.tok _,⟨_,rfl⟩,q⟩
end
end Sm
end
noncomputable section
namespace Sm
open PySem PySem.Spec PyProof.Rows PySem.W L2
noncomputable def fF (N:List Str) (sc:Scope) (df:Bool):Bool:=okVar N sc 0 "_law_e" && okVar N sc 1 "_law_flags" && okSet N sc df 1 "_law_flags" && okGl sc "isinstance" && okGl sc "NoDeed" && okGl sc "ValueError" && okGl sc "NoSign" && okGl sc "NoPlace"
structure XSet3 (K:PySem.W.Frag) (mg:Str->Option Value) (C0 C1 C2 CN CM:Addr) (i:Nat):Prop where
 i3:i < 3
 mM:mg "MarkError" = some (.ref CM)
 m0:mg "NoDeed" = some (.ref C0)
 m1:mg "NoSign" = some (.ref C1)
 m2:mg "NoPlace" = some (.ref C2)
 mi:mg "isinstance" = none
 mV:mg "ValueError" = none
 xc:XCls K CN
 k1:PySem.W.subIn K (.ref CN) (.ref CM)=some true
 k2:PySem.W.instIn K (.ref CM) (.type "tuple")=some false
 k3:(PySem.W.clsIn K CM).isSome=true
 k4:PySem.W.subIn K (.ref CM) (.type "BaseException")=some true
 t0:PySem.W.kitOne K (.ref CN) (.ref C0)=some (i==0)
 t1:PySem.W.kitOne K (.ref CN) (.ref C1)=some (i==1)
 t2:PySem.W.kitOne K (.ref CN) (.ref C2)=some (i==2)
 t4:PySem.W.kitOne K (.ref CN) (.type "ValueError")=some true
def Xj (CN:Addr) (i:Nat):TS:=fun D σ H=>∃ a,σ.length=2/\σ[0]? = some (some (.ref a))/\H a=some (.ext (ExcAt' a CN))/\∀ l p,H l=none->(upd H l (.lst (flV i))) p=none->D.rt (.ref p) (upd (upd H l (.lst (flV i))) p (.tup [.str "refused",.int (i:Int)]))
def offX (X:Cx) (A:Around):Cx:={ X with A:=A,calm:=false,xe:=fun _ _=>False }
noncomputable section
variable {P:Program} {w:World} {K:PySem.W.Frag} {mg:Str->Option Value} {base:Heap} {X:Cx} {N:List Str} {sc:Scope} {k:Nat} {df:Bool} {CN CM C0 C1 C2:Addr} {i:Nat}
theorem Ta {n1 n2 n3 n4 n5 n6 n7 n8 p1 p2 p3 p4 p5 p6 p7 p8 p9 p10 p11 p12 p13 p14 p15 p16 p17 p18 p19 p20 p21 p22 p23 p24 p25 p26 p27 p28 p29 p30 p31 p32 p33:Pos} {j1 j2 j3 j4 j5 j6 j7 j8:Nat} (C:Cxt P w K mg base X N sc k df) (A1:Around) (XX:XSet3 K mg C0 C1 C2 CN CM i) (ok:fF N sc df=true)
   (l1:(p10.endLine==p12.line)=true) (l2:(p29.endLine==p31.line)=true) :
   PSs (offX X A1) [.Assign [.Name "_law_flags" p1] (.List [.Call (.Name "isinstance" p2) [.Name "_law_e" p3,.Name "NoDeed" p4] [] p5,.Call (.Name "isinstance" n1) [.Name "_law_e" n2,.Name "NoSign" n3] [] n4,.Call (.Name "isinstance" n5) [.Name "_law_e" n6,.Name "NoPlace" n7] [] n8] p6) p7,
     .If (.BoolOp .Or [.Compare (.Call (.Attribute (.Name "_law_flags" p8) "count" p10) [.Constant (.bool true) j1 p11] [] p12) [.NotEq] [.Constant (.int 1) j2 p13] p14,.UnaryOp .Not (.Call (.Name "isinstance" p15) [.Name "_law_e" p16,.Name "ValueError" p17] [] p18) p19] p20)
       [.Return (some (.Tuple [.Constant (.str "refused") j3 p21,.UnaryOp .USub (.Constant (.int 1) j4 p22) p23] j5 p24)) p25] [] p26,
     .Return (some (.Tuple [.Constant (.str "refused") j6 p27,.Call (.Attribute (.Name "_law_flags" p28) "index" p29) [.Constant (.bool true) j7 p30] [] p31] j8 p32)) p33] (Xj CN i):=by
 unfold fF at ok
 simp only [Bool.and_eq_true] at ok
 obtain ⟨⟨⟨⟨⟨⟨⟨o1,o2⟩,o3⟩,o4⟩,o5⟩,o6⟩,o7⟩,o8⟩:=ok
 obtain ⟨s1,s2,s3,s4⟩:=okSet.ok C o3
 have gl:∀ {x:Str},okGl sc x=true->Gl (offX X A1) x/\(x==("__debug__" : Str))=false/\x ≠ "__name__" := fun h=>okGl.gl C h
 have xc:XCls (offX X A1).K CN:=by show XCls X.K CN; rw [C.hK]; exact XX.xc
 have hmg:(offX X A1).mg=mg:=C.hmg
 have hKK:(offX X A1).K=K:=C.hK
 obtain ⟨e1,e2,e3,e4⟩:=okVar.at o1
 obtain ⟨f1,f2,f3,f4⟩:=okVar.at o2
 have pE:∀ {q:Pos},PE (offX X A1) (.Name "_law_e" q) (Nl 0):=Fd (X:=offX X A1) (by show X.N[0]? = _; rw [C.hN]; exact e1) (by show Vis X.env.scope _; rw [C.hs]; exact e2) e3 e4
 have pF:∀ {q:Pos},PE (offX X A1) (.Name "_law_flags" q) (Nl 1):=Fd (X:=offX X A1) (by show X.N[1]? = _; rw [C.hN]; exact f1) (by show Vis X.env.scope _; rw [C.hs]; exact f2) f3 f4
 have cl:∀ {a CC:Addr} {y:Str} {q0 q1 q2 q3:Pos},okGl sc y=true->mg y=some (.ref CC)->PE (offX X A1) (.Call (.Name "isinstance" q0) [.Name "_law_e" q1,.Name y q2] [] q3) (tCB (nY (offX X A1).K a CN) (Ko (Nl 0) (Ko (tC (.ref CC)) iP))):=fun {a CC y q0 q1 q2 q3} oy hy =>
   Gm (Uy xc) (gl o4).1 (by rw [hmg]; exact XX.mi) (by decide +kernel) (E1 pE (E1 (Rl (gl oy).1 (by rw [hmg]; exact hy) rfl (gl oy).2.1) L9))
 have cv:∀ {a:Addr} {q0 q1 q2 q3:Pos},PE (offX X A1) (.Call (.Name "isinstance" q0) [.Name "_law_e" q1,.Name "ValueError" q2] [] q3) (tCB (nY (offX X A1).K a CN) (Ko (Nl 0) (Ko (tC (.ty "ValueError")) iP))):=fun {a} =>
   Gm (Uy xc) (gl o4).1 (by rw [hmg]; exact XX.mi) (by decide +kernel) (E1 pE (E1 (Xy (gl o6).1 (by rw [hmg]; exact XX.mV) (by decide +kernel) rfl) L9))
 intro pins s σ H D I ⟨a,hl,hσ,hH,q⟩
 have st1:=Hl (X:=offX X A1) (i:=1) (pos:=p7) (pos':=p1) s1 s2 s3 (Rj (pos:=p6) (E1 (cl (a:=a) (q0:=p2) (q1:=p3) (q2:=p4) (q3:=p5) o5 XX.m0) (E1 (cl (a:=a) (q0:=n1) (q1:=n2) (q2:=n3) (q3:=n4) o7 XX.m1) (E1 (cl (a:=a) (q0:=n5) (q1:=n6) (q2:=n7) (q3:=n8) o8 XX.m2) L9)))) rfl s4
 have cnt:=Mb (X:=offX X A1) (apos:=p10) (cpos:=p12) PySem.F.plainAttrs_list F.slot_list_count F.type_list_count (kH XX.i3) (pF (q:=p8)) (E1 (eV (b:=true) (j:=j1) (pos:=p11)) L9) rfl rfl l1
 have idx:=Mb (X:=offX X A1) (apos:=p29) (cpos:=p31) PySem.F.plainAttrs_list F.slot_list_index F.type_list_index (kG XX.i3) (pF (q:=p28)) (E1 (eV (b:=true) (j:=j7) (pos:=p30)) L9) rfl rfl l2
 have tst:=PW.pt (mI (pos:=p20) (Xw (pos:=p14) op_ne cnt (Rk (i:=1) (j:=j2) (pos:=p13)) (Fe _)) (eA (pos:=p20) (eD (pos:=p19) (oB (cv (a:=a) (q0:=p15) (q1:=p16) (q2:=p17) (q3:=p18))))))
 have st2:=eG (X:=offX X A1) (pos:=p26) tst (Eb (Rh (pos:=p25) (Wd (pos:=p24) (x1:=j5) (E1 (Ri (x := "refused") (j:=j3) (pos:=p21)) (E1 (eM (pos:=p23) Vo (Rk (i:=1) (j:=j4) (pos:=p22))) L9))))) Rg
 have st3:=Rh (X:=offX X A1) (pos:=p33) (Wd (pos:=p32) (x1:=j8) (E1 (Ri (x := "refused") (j:=j6) (pos:=p27)) (E1 idx L9)))
 have B:=Gj st1 (Gj st2 (Eb st3))
 refine B pins s σ H D I ⟨.ref a,hσ,.ref C0,.ref C0,i==0,rfl,rfl,hH,by rw [hKK]; exact XX.t0,.ref a,hσ,.ref C1,.ref C1,i==1,rfl,rfl,hH,by rw [hKK]; exact XX.t1,.ref a,hσ,.ref C2,.ref C2,i==2,rfl,rfl,hH,by rw [hKK]; exact XX.t2,(show 3<=sizeLine by decide),fun l hl0=>?_⟩
 have hne:a≠l:=D6 hH hl0
 have j1':(σ.set 1 (some (V.ref l)))[1]? = some (some (.ref l)):=by rw [List.getElem?_set_self (by lia)]
 have j0':(σ.set 1 (some (V.ref l)))[0]? = some (some (.ref a)):=by rw [List.getElem?_set_ne (by decide)]; exact hσ
 have hL:upd H l (.lst (flV i)) l=some (.lst (flV i)):=B7
 have hA:upd H l (.lst (flV i)) a=some (.ext (ExcAt' a CN)):=by rw [B3 hne]; exact hH
 refine ⟨.ref l,j1',.inl ⟨rfl,_,.inl (.inl hL)⟩,l,rfl,rfl,hL,rfl,_,rfl,?_⟩
 have hd1:(!decide (V.int 1=V.int 1))=false:=by simp
 rw [hd1]
 dsimp only
 rw [if_neg Bool.false_ne_true]
 refine ⟨.ref a,j0',.ty "ValueError",.type "ValueError",true,rfl,rfl,hA,by rw [hKK]; exact XX.t4,true,rfl,?_⟩
 refine ⟨.ref l,j1',.inl ⟨rfl,_,.inl (.inl hL)⟩,l,rfl,rfl,hL,(show 2<=sizeLine by decide),fun p hp=>q l p hl0 hp⟩
end
abbrev Qh (A:Around):Around:={ A with handled:=none }
theorem Inv.offX {X:Cx} {pins:List (Addr×Obj)} {σ:St} {H:Hp} {s:Shared} (I:Inv X pins σ H s) (A1:Around) (hf:A1.frames=X.A.frames):Inv (offX X A1) pins σ H s :=
 ⟨⟨I.ok.mod,I.ok.kind,I.ok.glob,I.ok.blt,I.ok.above,I.ok.inj,I.ok.has,I.ok.cab,(fun z=>by cases z),hf.trans I.ok.frames,I.ok.stk,I.ok.exf,I.ok.bs,I.ok.bsz,I.ok.noex,I.ok.exfs,I.ok.funs,I.ok.frf⟩,I.os,I.bare,I.base,I.loc,I.cell,I.free,I.freeC,I.pin,I.hok,I.len⟩
theorem nV {P:Program} {w:World} {K:PySem.W.Frag} {mg:Str->Option Value} {base:Heap} {k:Nat} {f CN:Addr} {i:Nat} {name qual:Str} {params:Arguments} {body:List Stmt} {scope:Scope} {dV kV doc pm cdv ct oc:Value} {an od:Option Addr}
   {osl:Array (Option Value)} {N ps:List Str} (lk:K.lookup f=some ⟨oc,od,.func (PySem.W.fnOf name qual params body scope dV kV doc pm an cdv ct),osl⟩) (hcd:PySem.W.codeIn K cdv qual=true) (S:FnScope N ps scope) (hN:N.length=2) (hps:ps.length=1)
   (hbody:∀ X A1,Cxt P w K mg base X N scope k true->PSs (offX X A1) body (Xj CN i)) {A:Around} {outer:List Env} {s:Shared} {H:Hp} {args:Args} {us:List Value} {a:Addr} {Q:VK} {E:XK}
   (hr:Room (k+1) (Qh A)) (e0:Env0 P w K mg base A outer s H) (hb:BindsTo s (PySem.W.fnOf name qual params body scope dV kV doc pm an cdv ct) args (ps.zip us)) (r:Vals [.ref a] us) (hH:H a=some (.ext (ExcAt' a CN)))
   (q:∀ l p,H l=none->(upd H l (.lst (flV i))) p=none->Q (.ref p) (upd (upd H l (.lst (flV i))) p (.tup [.str "refused",.int (i:Int)]))) :
   codeAny (model P w) A (.call (.ref f) args) (CR CX0 outer P w H s Q E) s:=by
 have e0':Env0 P w K mg base (Qh A) outer s H:=⟨e0.frames,e0.mod,e0.bs,e0.bsz,e0.funs,e0.frf,e0.hok,e0.bare⟩
 have KX:K.In s.heap:=e0.mod.kin.keeps fun b o e=>(e0.bs b o e).1
 have lim:s.heap.NoLimit:=e0.mod.nolimit.keeps fun b o e=>(e0.bs b o e).1
 have hkind:∀ y∈ps.zip us,scope.names.lookup y.1=some .local\/(scope.names.lookup y.1=some .cell/\((cellsFrom (s.heap.objs.size+1) scope.names []).lookup y.1).isSome=true):=fun ⟨n,v⟩ hy=>by
   rcases S.par n (List.of_mem_zip hy).1 with z | z
   . exact .inl z
   . exact .inr ⟨z,PySem.W.cellsFrom_some _ _ _ (.inl z)⟩
 refine codeAny_call_function (show A.depth < recursionLimit from hr.depth) (KX _ _ lk) rfl S.co S.gen rfl (PySem.W.codeRec_of KX hcd) (hb _ _ _ _ ?_)
 refine wpAny_newFunctionEnv_cells S.kind hkind fun env he s1 x=>?_
 subst he
 refine ⟨lim.keeps x.toInCall.keep,codeAny_func ?_⟩
 have I0:Inv (Rz CX0 P w K mg base N qual scope f cdv (Qh A) outer s H E) [] (V2 N [.ref a]) H s1:=Pk S rfl e0' (by rw [hps]; rfl) r x
 have I:=Sm.Inv.offX I0 (A.deeper (envOfC qual scope s.heap.objs.size f cdv)) rfl
 have C0:Cxt P w K mg base (Rz CX0 P w K mg base N qual scope f cdv (Qh A) outer s H E).nox N scope k true:=⟨rfl,rfl,rfl,rfl,rfl,rfl,rfl,rfl,hr.deeper _,fun _ _=>rfl,PassesOwn.never⟩
 refine wpAny_mono (hbody _ (A.deeper (envOfC qual scope s.heap.objs.size f cdv)) C0 [] s1 (V2 N [.ref a]) H { nx:=fun _ H'=>Q .non H',rt:=Q } I ⟨a,?_,rfl,hH,q⟩) (fun fl s' hs=>?_) (fun _ _ z=>z.elim)
 . unfold L2.V2; simp [hN]
 . cases fl with
   | ret u =>
     obtain ⟨v,σ',H',J,rv,q'⟩:=hs; exact ⟨v,H',J.os,J.bare,J.base,J.hok,rv,q'⟩
   | next =>
     obtain ⟨σ',H',J,q'⟩:=hs; exact ⟨V.non,H',J.os,J.bare,J.base,J.hok,rfl,q'⟩
   | brk=>obtain ⟨σ',H',J,q'⟩:=hs; exact (show False from q').elim
   | cont=>obtain ⟨σ',H',J,q'⟩:=hs; exact (show False from q').elim
structure FnE3 (P:Program) (w:World) (K:PySem.W.Frag) (mg:Str->Option Value) (base:Heap) (CN:Addr) (i:Nat) (x:Str) (k:Nat):Prop where
 ex:∃ f fd ps,ps.length=1/\mg x=some (.ref f)/\PySem.W.keepIn K (.ref f)=true/\Binds K fd ps []/\∀ {A:Around} {outer:List Env} {s:Shared} {H:Hp} {args:Args} {us:List Value} {a:Addr} {Q:VK} {E:XK},
   Room k (Qh A)->Env0 P w K mg base A outer s H->BindsTo s fd args (ps.zip us)->Vals [.ref a] us->H a=some (.ext (ExcAt' a CN)) ->
   (∀ l p,H l=none->(upd H l (.lst (flV i))) p=none->Q (.ref p) (upd (upd H l (.lst (flV i))) p (.tup [.str "refused",.int (i:Int)])))->codeAny (model P w) A (.call (.ref f) args) (CR CX0 outer P w H s Q E) s
noncomputable section
variable {P:Program} {w:World} {K:PySem.W.Frag} {mg:Str->Option Value} {base:Heap} {X:Cx} {N:List Str} {sc:Scope} {k:Nat} {df:Bool} {CN:Addr} {i:Nat}
theorem mR {x:Str} {st:Stmt} {ps:List Str} (F:Def K mg x st ps) (S:FnScope N ps (A5 st)) (hN:N.length=2) (hps:ps.length=1) (hbody:∀ X A1,Cxt P w K mg base X N (A5 st) k true->PSs (offX X A1) (B5 st) (Xj CN i)):FnE3 P w K mg base CN i x (k+1):=by
 obtain ⟨f,fd,F,hmg,hb⟩:=F.ex
 have kp:=F.kp
 obtain ⟨oc,od,kV,doc,pm,an,cdv,ct,osl,rfl,lk,hcd⟩:=F.ex
 exact ⟨f,_,ps,hps,hmg,kp,hb,fun hr e0 hb' r hH q=>nV lk hcd S hN hps hbody hr e0 hb' r hH q⟩
theorem iQ {a:Addr} {j:Nat} {pa pb pc pd:Pos} (C:Cxt P w K mg base X N sc k df) (F:FnE3 P w K mg base CN i "_law_refused" j) (hj:j<=k) (o1:okVar N sc 3 "_law_e" = true) (o2:okGl sc "_law_refused" = true) {pins:List (Addr×Obj)} {σ:St} {H:Hp} {s:Shared}
   (I:Inv (inX X a) pins σ H s) (hσ:σ[3]? = some (some (.ref a))) (hH:H a=some (.ext (ExcAt' a CN))) (he:starEach [.Name "_law_e" pb] X.env=(false,eval (.Name "_law_e" pb) X.env)::starEach [] X.env) (hpl:(backTo pc (starEach [] X.env)).any (·.1)=false) :
   wpAny (model X.prog X.w) (X.A.mark (some (.ref a))) (execs [.Return (some (.Call (.Name "_law_refused" pa) [.Name "_law_e" pb] [] pc)) pd] X.env)
     (fun f s'=>∃ l p H' ,f=.ret (.ref p)/\Inv (inX X a) pins σ H' s'/\H l=none/\(upd H l (.lst (flV i))) p=none/\H'=upd (upd H l (.lst (flV i))) p (.tup [.str "refused",.int (i:Int)])) (fun _ _=>False) s:=by
 obtain ⟨f,fd,ps,hps,hm,hk,hb,run⟩:=F.ex
 obtain ⟨g1,g2,g3⟩:=okGl.gl C o2
 obtain ⟨e1,e2,e3,e4⟩:=okVar.at o1
 have pE:PE (inX X a) (.Name "_law_e" pb) (Nl 3):=Fd (X:=inX X a) (by show X.N[3]? = _; rw [C.hN]; exact e1) (by show Vis X.env.scope _; rw [C.hs]; exact e2) e3 e4
 refine wpAny_execs_cons (wpAny_Return_some ?_)
 refine wpAny_Call_Name_kw (Go (X:=inX X a) I g1 (by show X.mg _=_; rw [C.hmg]; exact hm) ?_ g2)
 have hk':PySem.W.keepIn (inX X a).K (.ref f)=true:=by show PySem.W.keepIn X.K _=_; rw [C.hK]; exact hk
 have hb':Binds (inX X a).K fd ps []:=by show Binds X.K fd ps []; rw [C.hK]; exact hb
 refine PySem.W.callWith_K (h₀:=X.base) I.ok.mod.kin hk' (thn ((E1 pE L9 he) pc pins s σ H (fun vs H1=>vs=[.ref a]/\H1=H) I ⟨.ref a,hσ,rfl,rfl⟩) fun us s1 hY3=>?_) he hpl
 obtain ⟨vs,H1,I1,r,ev,eH⟩:=hY3
 refine ⟨I1.kIn,?_⟩
 subst ev eH
 have hl:(us++[]).length=ps.length:=by rw [List.append_nil,<- r.length,hps]; rfl
 have hbt:=hb' s1 us I1.kIn hl
 rw [List.append_nil] at hbt
 have rm:Room j (Qh (X.A.mark (some (.ref a)))):=by
   have:=C.room.mono hj; exact ⟨rfl,this.dp,this.un,this.gd⟩
 have e0:Env0 P w K mg base (X.A.mark (some (.ref a))) X.stack s1 H1:=by
   have:=I1.env0; rw [<- C.hP,<- C.hw,<- C.hK,<- C.hmg,<- C.hb]; exact this
 refine wpAny_call (codeAny_mono (M:=model X.prog X.w) (by rw [C.hP,C.hw]; exact run (Q:=fun v H'=>∃ l p,v=.ref p/\H1 l=none/\(upd H1 l (.lst (flV i))) p=none/\H'=upd (upd H1 l (.lst (flV i))) p (.tup [.str "refused",.int (i:Int)])) (E:=fun _ _ _=>False) rm e0 hbt r hH fun l p h1 h2=>⟨l,p,rfl,h1,h2,rfl⟩) fun r s' hq=>?_)
 cases r with
 | error e=>exact (show False from hq).elim
 | ok fl =>
   cases fl with
   | ret u =>
     have hq':CE X.stack X.prog X.w H1 s1 (fun v H'=>∃ l p,v=.ref p/\H1 l=none/\(upd H1 l (.lst (flV i))) p=none/\H'=upd (upd H1 l (.lst (flV i))) p (.tup [.str "refused",.int (i:Int)])) u s':=by
       rw [C.hP,C.hw]; exact hq
     obtain ⟨v,H',J,rv,l,p,e1,h1,h2,h3⟩:=I1.after hq'; subst e1
     cases (show u=Value.ref p from rv)
     exact ⟨l,p,H',rfl,J,h1,h2,h3⟩
   | next=>exact (show False from hq).elim
   | brk=>exact (show False from hq).elim
   | cont=>exact (show False from hq).elim
end
end Sm
end
noncomputable section
namespace Sm
open PySem PySem.Spec PyProof.Rows PySem.W L2
noncomputable def G9 (i:Nat):PyData:=.tuple [.str "refused",.int (i:Int)]
noncomputable def dP (m0 m1:List PyData->Res PyData):Dn->Out:=fun δ=>I8 (A0 0 δ) fun wy=>I8 ((A2 (A0 1) (A2 (A0 2) A8)) δ) fun ds =>
 match wy with
 | .int 0=>(match m0 ds with | .ok d=>.rt d | .exc _=>.rt (G9 0) | .no=>.no)
 | .int 1=>(match m1 ds with | .ok d=>.rt d | .exc _=>.rt (G9 1) | .no=>.no)
 | _=>.no
noncomputable def fE (N:List Str) (sc:Scope) (df:Bool):Bool:=okVar N sc 0 "_law_way" && okVar N sc 1 "_law_book_here" && okVar N sc 2 "_law_one" && okGl sc "in_effect" && okGl sc "is_there" && okGl sc "MarkError" && okGl sc "_law_refused" && okSet N sc df 3 "_law_e" && okVar N sc 3 "_law_e" && decide (sc.names.lookup ("_law_e" : Str)=some NameKind.local)
theorem hV {X:Cx} {CX:CXT} {j:Nat} {f:Addr} {fd:FuncData} {ps:List Str} {sp:Sp} {E:XK} {pos:Pos} {e:Expr} {es:List Expr} {t:TA} {pins:List (Addr×Obj)} {σ:St} {H:Hp} {s:Shared} {Q:VK}
   (F:FnOk X.prog X.w X.K X.mg X.base CX j f fd ps sp) (hr:Room j X.A) (hk:PySem.W.keepIn X.K (.ref f)=true) (hb:Binds X.K fd ps []) (ha:PA X (e::es) t) (I:Inv X pins σ H s) (h:t σ H fun vs H1=>sp vs H1 Q E)
   (hx:∀ H1 s1 e s',Inv X pins σ H1 s1->CX X.stack H1 s1 E e s'->X.xe e s') (he:starEach (e::es) X.env=(false,eval e X.env)::starEach es X.env) (hpl:(backTo pos (starEach es X.env)).any (·.1)=false) :
   wpAny (model X.prog X.w) X.A (callWith pos (.ref f) [] (backTo pos (starEach (e::es) X.env)) (backToKw pos (keywordEach [] X.env))) (EP X pins σ Q) X.xe s:=by
 refine PySem.W.callWith_K (h₀:=X.base) I.ok.mod.kin hk (thn (ha pos pins s σ H _ I h) fun us s1 hY1=>?_) he hpl
 obtain ⟨vs,H1,I1,r,q⟩:=hY1
 refine ⟨I1.kIn,?_⟩
 have hl:(us++[]).length=ps.length:=by rw [List.append_nil,<- r.length]; exact F.len _ _ _ _ q
 have hbt:=hb s1 us I1.kIn hl
 rw [List.append_nil] at hbt
 refine wpAny_call (codeAny_mono (F.run X.A X.stack s1 H1 ⟨us,[]⟩ us vs Q E hr I1.env0 hbt r q) fun r s' hq=>?_)
 cases r with
 | error e=>exact hx H1 s1 e s' I1 hq
 | ok fl =>
   cases fl with
   | ret u=>exact I1.after hq
   | next=>exact False.elim hq
   | brk=>exact False.elim hq
   | cont=>exact False.elim hq
theorem hU {M:Model} {A:Around} {E:Value->Shared->Prop} {s:Shared} {v sl:Expr} {p pos:Pos} {args:List Expr} {env:Env} {Q:Value->Shared->Prop} (h:wpAny M A (eval (.Subscript v sl p) env) (fun f s1=>wpAny M A (callWith pos f [] (backTo pos (starEach args env)) (backToKw pos (keywordEach [] env))) Q E s1) E s) :
   wpAny M A (eval (.Call (.Subscript v sl p) args [] pos) env) Q E s:=by
 show wpAny M A (eval (.Subscript v sl p) env>>=fun f=>callWith pos f [] (backTo pos (starEach args env)) (backToKw pos (keywordEach [] env))) Q E s
 exact wpAny_bind h
noncomputable section
variable {P:Program} {w:World} {K:PySem.W.Frag} {mg:Str->Option Value} {base:Heap} {X:Cx} {N:List Str} {sc:Scope} {k:Nat} {df:Bool} {CN0 CN1 CM C0 C1 C2:Addr}
theorem nO {m0 m1:List PyData->Res PyData} {j0 j1 j2:Nat} {q1 q2 q3 q4 q5 q6 q7 q8 q9 q10 q11 q12 q13 q14 q15 pos:Pos} (C:Cxt P w K mg base X N sc k df) (hst:X.stack=X.env::X.outer/\X.env.frame=some X.env.locals) (hex:X.ex=[]) (XX0:XSet3 K mg C0 C1 C2 CN0 CM 0) (XX1:XSet3 K mg C0 C1 C2 CN1 CM 1) (F0:FnX P w K mg base CN0 "in_effect" j0 2 m0) (h0:j0<=k) (F1:FnX P w K mg base CN1 "is_there" j1 2 m1) (h1:j1<=k) (FR0:FnE3 P w K mg base CN0 0 "_law_refused" j2) (FR1:FnE3 P w K mg base CN1 1 "_law_refused" j2) (h2:j2<=k) (ok:fE N sc df=true)
   (he:starEach [.Name "_law_e" q12] X.env=(false,eval (.Name "_law_e" q12) X.env)::starEach [] X.env:=by rfl) (hpl:(backTo q13 (starEach [] X.env)).any (·.1)=false:=by rfl) :
   DS X E0k (.Try [.Return (some (.Call (.Subscript (.List [.Name "in_effect" q1,.Name "is_there" q2] q3) (.Name "_law_way" q4) q5) [.Name "_law_book_here" q6,.Name "_law_one" q7] [] q8)) q9] [.ExceptHandler (some (.Name "MarkError" q10)) (some "_law_e") [.Return (some (.Call (.Name "_law_refused" q11) [.Name "_law_e" q12] [] q13)) q14] q15] [] [] pos) (dP m0 m1):=fun G0 H0 pins s σ H D I hZ8=>by
 obtain ⟨G,δ,S,aft⟩:=hZ8
 unfold fE at ok
 simp only [Bool.and_eq_true,decide_eq_true_eq] at ok
 obtain ⟨⟨⟨⟨⟨⟨⟨⟨⟨o0,o1⟩,o2⟩,o3⟩,o4⟩,o5⟩,o6⟩,o7⟩,o8⟩,o9⟩:=ok
 obtain ⟨w1,w2,w3,w4⟩:=okVar.at o0
 obtain ⟨a1,a2,a3,a4⟩:=okVar.at o1
 obtain ⟨b1,b2,b3,b4⟩:=okVar.at o2
 obtain ⟨d1,d2,d3⟩:=okGl.gl C o3
 obtain ⟨n1,n2,n3⟩:=okGl.gl C o4
 obtain ⟨m1',m2',m3'⟩:=okGl.gl C o5
 obtain ⟨t1,t2,t3,t4⟩:=okSet.ok C o7
 obtain ⟨f0,fd0,ps0,hps0,Ff0,hm0,hk0,hb0⟩:=F0.ex
 obtain ⟨f1,fd1,ps1,hps1,Ff1,hm1,hk1,hb1⟩:=F1.ex
 refine wpAny_Try_except ?_
 generalize hEw:(fun (e:Value) (s₁:Shared)=>wpAny (model X.prog X.w) X.A (noteFrame e X.env) (fun _ s₂=>wpAny (model X.prog X.w) X.A (setFlight e none) (fun _ s₃=>wpAny (model X.prog X.w) X.A (handleBy e X.env _) (SP X pins D) X.xe s₃) X.xe s₂) X.xe s₁)=Ew
 have da:DA (X.wish Ew) E0k [.Name "_law_book_here" q6,.Name "_law_one" q7] 2 (A2 (A0 1) (A2 (A0 2) A8)) :=
   A3 (Wu (X:=X.wish Ew) (by show X.N[1]? = _; rw [C.hN]; exact a1) (by show Vis X.env.scope _; rw [C.hs]; exact a2) a3 a4) (A3 (Wu (X:=X.wish Ew) (by show X.N[2]? = _; rw [C.hN]; exact b1) (by show Vis X.env.scope _; rw [C.hs]; exact b2) b3 b4) B0)
 have I0:Inv (X.wish Ew) pins σ H s:=I.wish Ew
 have call : ∀ {CN : Addr} {i : Nat} {f : Addr} {fd : FuncData} {ps' : List Str} {m : List PyData -> Res PyData} {j : Nat} {H1 : Hp} {s1 : Shared} {ds : List PyData}, XSet3 K mg C0 C1 C2 CN CM i -> FnE3 P w K mg base CN i "_law_refused" j2 -> FnOk P w K mg base (CXe P w) j f fd ps' (spX 2 m CN) -> j <= k -> PySem.W.keepIn K (.ref f) = true -> Binds K fd ps' [] -> Inv (X.wish Ew) pins σ H1 s1 -> SSt G0 H0 G H1 σ δ ->
     (A2 (A0 1) (A2 (A0 2) A8)) δ=.ok ds ->
     (match m ds with | .ok d=>∀ v G' H',Grow G0 H0 G' H'->Rep G' d v->D.rt v H' | .exc _=>∀ v G' H',Grow G0 H0 G' H'->Rep G' (G9 i) v->D.rt v H' | .no=>False) ->
     wpAny (model X.prog X.w) X.A (callWith q8 (.ref f) [] (backTo q8 (starEach [.Name "_law_book_here" q6,.Name "_law_one" q7] X.env)) (backToKw q8 (keywordEach [] X.env))) (EP (X.wish Ew) pins σ D.rt) Ew s1:=by
   intro CN i f fd ps' m j H1 s1 ds XX FR Ff hj hk hb I1 S1 ef am; have F':FnOk (X.wish Ew).prog (X.wish Ew).w (X.wish Ew).K (X.wish Ew).mg (X.wish Ew).base (CXe P w) j f fd ps' (spX 2 m CN):=by
     show FnOk X.prog X.w X.K X.mg X.base (CXe P w) j f fd ps' (spX 2 m CN)
     rw [C.hP,C.hw,C.hK,C.hmg,C.hb]; exact Ff
   refine hV (X:=X.wish Ew) (E:=fun c _ H'=>c=.ref CN/\∃ G',Grow G0 H0 G' H'/\∀ v G2 H2,Grow G0 H0 G2 H2->Rep G2 (G9 i) v->D.rt v H2) F' (C.room.mono hj) (by show PySem.W.keepIn X.K _=_; rw [C.hK]; exact hk) (by show Binds X.K fd ps' []; rw [C.hK]; exact hb) da.pa I1 ?_ ?_ rfl rfl
   . refine ⟨G,δ,S1.sr,?_⟩
     rw [ef]; intro vs G1 H2 g1 r1; refine ⟨G1,ds,(S1.grow g1).sr.sub,r1,da.len δ ds ef,?_⟩
     cases em:m ds with
     | ok d=>rw [em] at am; exact fun v G' H' g r=>am v G' H' ((S1.grow g1).gr.trans g) r
     | exc c=>rw [em] at am; exact fun G' H' g=>⟨rfl,G',(S1.grow g1).gr.trans g,am⟩
     | no=>rw [em] at am; exact (show False from am).elim
   . rintro H1 s1 e s' I1 ⟨a,c,H',e1,e2,e3,Fl,ec,G',gr,fin⟩
     subst e1 ec; show Ew (.ref a) s'
     rw [<- hEw]; have I1x:Inv X pins σ H1 s1:=I1.unwish; have hk:∀ {Hx:Hp} {hx:Heap},HOk P w Hx hx->HOk X.prog X.w Hx hx:=fun z=>by rw [C.hP,C.hw]; exact z
     have I2:Inv X pins σ H' s':=I1x.call' (ch:=[]) e2 Fl.un (hk Fl.hok) e3 (fun b z=>absurd z (by simp))
     have hfr:X.A.frames=some (X.env::X.outer):=by rw [<- hst.1]; exact I2.ok.frames
     have hl:s'.heap.FunFrames X.base (X.env::X.outer):=by rw [<- hst.1]; exact I2.stack
     have hfree:∀ b∈frs (X.env::X.outer),H' b=none:=by rw [<- hst.1]; exact I2.stkFree
     have hfs:∀ b∈frs (X.env::X.outer),b∈frs X.stack\/s1.heap.get? b=none:=fun b hb=>.inl (by rw [hst.1]; exact hb)
     refine bN (P:=P) (w:=w) hfr hl hst.2 Fl hfree hfs fun h3 F3 ff3=>?_
     have I3:Inv X pins σ H' { s' with heap:=h3 }:=I1x.call' (s':={ s' with heap:=h3 }) (ch:=[]) e2 F3.un (hk F3.hok) e3 (fun b z=>absurd z (by simp))
     have xa:ExcAt' a CN h3:=by
       obtain ⟨oe,vs,a0,T,oT,ts,z1,z2,_⟩:=F3.fly; exact ⟨oe,z1,z2⟩
     refine wpAny_handleBy_cons (codeAny_handlers_test (Go (X:=inX X a) (Sm.Inv.inX I3 a) m1' (by show X.mg _=_; rw [C.hmg]; exact XX.mM) ?_ m2')) (by intro q; cases q)
     refine Uk (K:=K) (by have:=I3.kIn; rw [C.hK] at this; exact this) xa XX.k1 XX.k2 XX.k3 XX.k4 ?_
     refine codeAny_handlers_suite_as ?_; refine fW (P:=P) (w:=w) (l:=X.env::X.outer) (base:=X.base) ff3 F3 hfree hfs fun h4 F4=>?_
     obtain ⟨u4,k4⟩:=Uj F4; have I4:Inv X pins σ (upd H' a (.ext (ExcAt' a CN))) { s' with heap:=h4 }:=I1x.call' (s':={ s' with heap:=h4 }) (ch:=[]) e2 u4 (hk k4) e3 (fun b z=>absurd z (by simp))
     have hl3:3 < σ.length:=by
       rw [I1x.len,C.hN]; exact (List.getElem?_eq_some_iff.mp (okVar.at o8).1).1
     refine Ku (X:=inX X a) (Sm.Inv.inX I4 a) t1 t2 t3 (v:=.ref a) rfl (fun s5 I5=>?_) t4
     refine wpAny_mono (iQ C FR h2 o8 o6 I5 (by rw [List.getElem?_set_self hl3]) B7 he hpl) (fun f s6 ⟨l,p,H6,ef,J,hl0,hp0,eH⟩=>?_) (fun _ _ z=>z.elim)
     subst ef; obtain ⟨m0,hn0,_⟩:=J.loc; have kl:X.env.kindOf "_law_e" = some .local:=by show X.env.scope.names.lookup _=_; rw [C.hs]; exact o9
     refine wpAny_nameGoes kl hn0 (by rw [I1x.ok.kind]; rfl) fun h7 m7 hn7 sb7=>?_
     have g1:Grow G' H' G' (upd H' a (.ext (ExcAt' a CN))):=Grow.own gr.gh F4.fly.none.2; have g2:Grow G' (upd H' a (.ext (ExcAt' a CN))) G' (upd (upd H' a (.ext (ExcAt' a CN))) l (.lst (flV i))):=Grow.own g1.gh hl0; have g3:=Grow.new (o:=.tup [.str "refused",.int (i:Int)]) g2.gh hp0; subst eH; refine ⟨.ref p,_,_,Sm.Inv.forget (Sm.Inv.outX J I1x.ok) hn7 sb7,rfl,fin (.ref p) (upd G' p (.tup [.str "refused",.int (i:Int)])) _ (((gr.trans g1).trans g2).trans g3) ?_⟩; exact ⟨p,_,rfl,B7,RepL.cons ⟨rfl,by decide +kernel,by decide +kernel⟩ (RepL.cons rfl rfl)⟩
 have pw:PE (X.wish Ew) (.Name "_law_way" q4) (Nl 0):=Fd (X:=X.wish Ew) (by show X.N[0]? = _; rw [C.hN]; exact w1) (by show Vis X.env.scope _; rw [C.hs]; exact w2) w3 w4
 have pl:PE (X.wish Ew) (.List [.Name "in_effect" q1,.Name "is_there" q2] q3) (tLst (Ko (tC (.ref f0)) (Ko (tC (.ref f1)) iP))):=Rj (E1 (Rl d1 (by show X.mg _=_; rw [C.hmg]; exact hm0) rfl d2) (E1 (Rl n1 (by show X.mg _=_; rw [C.hmg]; exact hm1) rfl n2) L9))
 have px:=mJ (pos:=q5) (Yh (X:=X.wish Ew)) pl pw (fun _ _=>rfl)
 have main:wpAny (model X.prog X.w) X.A (eval (.Call (.Subscript (.List [.Name "in_effect" q1,.Name "is_there" q2] q3) (.Name "_law_way" q4) q5) [.Name "_law_book_here" q6,.Name "_law_one" q7] [] q8) X.env) (EP (X.wish Ew) pins σ D.rt) Ew s:=by
   refine hU ?_; unfold dP at aft
   cases ew:A0 0 δ with
   | exc c=>rw [ew] at aft; exact (show False from aft G H S.gr).elim
   | no=>rw [ew] at aft; exact (show False from aft).elim
   | ok wy =>
     rw [ew] at aft; simp only [I8] at aft
     cases ef:(A2 (A0 1) (A2 (A0 2) A8)) δ with
     | exc c=>rw [ef] at aft; exact (show False from aft G H S.gr).elim
     | no=>rw [ef] at aft; exact (show False from aft).elim
     | ok ds =>
       rw [ef] at aft; dsimp only at aft; have hsl:∃ v,σ[0]? = some (some v)/\Rep G wy v:=by
         unfold A0 at ew
         split at ew
         . rename_i d e
           cases ew; obtain ⟨v,e1,r⟩:=S.sr.sl 0 _ e; refine ⟨v,?_,r⟩
           cases q:σ[0]? with
           | none=>rw [q] at e1; cases e1
           | some z=>rw [q] at e1; rw [show z=some v from e1]
         . cases ew
       obtain ⟨v,hσ,rv⟩:=hsl
       cases wy with
       | int n =>
         obtain rfl:=(show v=.int n from rv)
         by_cases n0:n=0
         . subst n0
           refine thn (px pins s σ H (fun v H1=>v=.ref f0/\∃ l,H l=none/\H1=upd H l (.lst [.ref f0,.ref f1])) I0 ⟨(show 2<=sizeLine by decide),fun l hl=>⟨.int 0,hσ,l,_,0,.ref f0,rfl,rfl,.inl (.inl B7),rfl,rfl,l,hl,rfl⟩⟩) fun fv s1 hZ2=>?_
           obtain ⟨v,H1,I1,rv,ev,l,hl,eH⟩:=hZ2; subst ev eH
           cases (show fv=Value.ref f0 from rv)
           refine call (m:=m0) XX0 FR0 Ff0 h0 hk0 hb0 I1 (S.grow (Grow.own S.sr.sub hl)) ef ?_
           cases em:m0 ds <;> rw [em] at aft <;> exact aft
         . by_cases n1':n=1
           . subst n1'
             refine thn (px pins s σ H (fun v H1=>v=.ref f1/\∃ l,H l=none/\H1=upd H l (.lst [.ref f0,.ref f1])) I0 ⟨(show 2<=sizeLine by decide),fun l hl=>⟨.int 1,hσ,l,_,1,.ref f1,rfl,rfl,.inl (.inl B7),rfl,rfl,l,hl,rfl⟩⟩) fun fv s1 hZ2=>?_
             obtain ⟨v,H1,I1,rv,ev,l,hl,eH⟩:=hZ2; subst ev eH
             cases (show fv=Value.ref f1 from rv)
             refine call (m:=m1) XX1 FR1 Ff1 h1 hk1 hb1 I1 (S.grow (Grow.own S.sr.sub hl)) ef ?_
             cases em:m1 ds <;> rw [em] at aft <;> exact aft
           . exfalso
             split at aft
             . rename_i z; cases z; exact n0 rfl
             . rename_i z; cases z; exact n1' rfl
             . exact aft
       | _=>exact (show False from aft).elim
 refine wpAny_execs_cons (wpAny_Return_some (thn main fun u s1 hZ2=>?_))
 obtain ⟨v,H1,I1,rv,q⟩:=hZ2
 exact ⟨v,σ,H1,I1.unwish,rv,q⟩
end
end Sm
end
noncomputable section
namespace Sm
open PySem PySem.Spec PyProof.Rows L2
noncomputable def Kc:PyData->Bool
 | .none=>true
 | .int i=>decide (i.natAbs.log2 < 1920)&&decide ((Str.ofString (toString i)).length<=1000)
 | .str x=>decide ((reprText x).length<=1000)
 | _=>false
noncomputable def Bw (y:Str) (f:Dn->Res PyData):Dn->Out:=fun δ=>I8 (f δ) fun d=>if Dj d=true\/Kc d=true then .exc y else .no
noncomputable section
variable {P:Program} {w:World} {K:PySem.W.Frag} {mg:Str->Option Value} {base:Heap} {X:Cx} {N:List Str} {sc:Scope} {k:Nat} {df:Bool} {pos p p2:Pos} {a:Expr} {f:Dn->Res PyData} {CN:Addr} {Ex:XK}
theorem Tj {z y:Str} {j:Nat} {np cpos p3 p4:Pos} (C:Cxt P w K mg base X N sc k df) (L:Lv X Ex) (hex:X.ex=[]) (hgd:X.A.guards=some []) (O:ExcAt K mg y CN) (h:okGl sc y=true) (ha:DE X (eX CN Ex) a f) (hz:z.length<=1000:=by decide +kernel) :
   DS X (eX CN Ex) (.Raise (some (.Call (.Name y np) [.JoinedStr [.Constant (.str z) j p,.FormattedValue a 114 none p2] p3] [] cpos)) none pos) (Bw y f):=fun G0 H0 pins s σ H D I hZ8=>by
 obtain ⟨G,δ,S,aft⟩:=hZ8
 obtain ⟨g1,g2,g3⟩:=okGl.gl C h
 have KX:X.K=K:=C.hK
 obtain ⟨bm,Nn,nm,q,bs,hdct,sn,sub,ab,col,dd,k0,k1,k2,k3,k5,mN,hC,hN,hni,T⟩:=(O.own (h:=X.base) (by rw [<- KX]; exact I.mod.kin)).obj
 have FB:=PySem.F.excBase_ValueError
 refine wpAny_Raise_call_subT (C:=CN) (nm:=nm) (q:=q) (N:=Nn) (bs:=bs) (bm:=bm) (hdct:=hdct) (sn:=sn) (sub:=sub) (ab:=ab) (col:=col) (dd:=dd) (k0:=k0) (k1:=k1) (k2:=k2) (k3:=k3) (k5:=k5) FB (mN:=mN) (T.hasType FB.hasBase) (I.ok.hd C.calm) rfl hni (Go I g1 (by rw [C.hmg]; exact O.bound) ⟨rfl,?_⟩ g2)
 refine Calls.evalArgs_plain (Calls.spliced_cons ?_)
 rw [if_neg (by decide)]
 refine JoinedStr_many (pos:=p3) (joinParts_cons (Calls.Constant_str ?_))
 have sz:(2000:Nat)<=sizeLine:=by decide
 have l0:(Str.empty++z).length<=1000:=by rw [PySem.strLen_append]; exact (show Str.empty.length+z.length<=1000 from by have:Str.empty.length=0:=rfl; omega)
 refine ⟨by omega,joinParts_cons (fmt_r ?_)⟩
 refine thn (ha pins _ σ H (fun v H1=>∃ G1 d,Rep G1 d v/\SSt G0 H0 G1 H1 σ δ/\(Dj d=true\/Kc d=true)/\∀ G' H',Grow G0 H0 G' H'->Ex (.ref CN) none H') (I.tok _) (Ci S aft fun d v G1 H1 g1 r1 S1 a1=>?_)) fun u s1 ⟨v,H1,I1,rv,G1,d,rd,S1,ok,hE⟩=>?_
 . split at a1
   . rename_i ok
     exact ⟨G1,d,r1,S1,ok,fun G' H' g=>a1 G' H' g⟩
   . exact (show False from a1).elim
 . suffices tail : ∀ (y : Str) (u : Tok) (s2 : Shared), y.length <= 1000 -> Inv X pins σ H1 s2 -> wpAny (model X.prog X.w) _ (formatField (.str y u) Str.empty) _ _ s2 by
     rcases ok with ok | ok
     . unfold Dj at ok
       simp only [Bool.and_eq_true,Bool.not_eq_true',decide_eq_true_eq] at ok; obtain ⟨⟨⟨⟨o1,o2⟩,o3⟩,o4⟩,o5⟩:=ok; obtain ⟨as,rr⟩:=rd.reads I1 S1.sr.sub rv; obtain ⟨aa,rfl⟩:=isRef_of_reads rr o1; exact pyReprObj_of_reads rr o2 (PyData.noDict_hsm o3) hgd (by have:=C.hu; omega) (fun _ _ e=>e) (fun h1 u2 tk hk=>tail _ _ _ o4 (I1.kept hk)) (by omega)
     . cases d with
       | none =>
         cases (show v=.non from rd)
         cases (show u=Value.none from rv)
         exact pyReprObj_none (tail _ _ _ (by decide) (I1.tok _))
       | int i =>
         cases (show v=.int i from rd)
         obtain ⟨t,rfl⟩:=(show ∃ t,u=Value.int i t from rv)
         unfold Kc at ok; simp only [Bool.and_eq_true,decide_eq_true_eq] at ok; exact pyReprObj_int ok.1 (tail _ _ _ ok.2 (I1.tok _))
       | str x =>
         cases (show v=.str x from rd.1)
         obtain ⟨t,rfl⟩:=(show ∃ t,u=Value.str x t from rv)
         unfold Kc at ok; simp only [decide_eq_true_eq] at ok; exact pyReprObj_str (tail _ _ _ ok (I1.tok _)) (by omega)
       | _=>cases ok
   intro y u s2 o4 I2; refine formatField_str (fun t2 tk2=>?_) (by omega)
   have l1:(Str.empty++z++y).length<=2000:=by rw [PySem.strLen_append]; omega
   refine ⟨by omega,joinParts_nil ?_ (by omega)⟩
   have I2:Inv X pins σ H1 { s2 with toks:=tk2+1 }:=I2.tok _; refine Calls.spliced_nil ⟨rfl,(show (1:Nat)<=sizeLine by decide),I2.bk _ _ hC,hN.keeps I2.bk,T.keeps I2.bk,fun h2 e2 mk=>?_⟩
   have I3:Inv X pins σ H1 { s2 with heap:=h2,toks:=tk2+1 }:=I2.kept mk.keeps; refine L pins σ H1 _ e2 (.ref CN) I3 (.inl ?_) (hE G1 H1 S1.gr); obtain ⟨t,ht,_,_⟩:=mk.there; refine ⟨_,_,.ref t,ht,rfl,rfl,rfl,?_,HOk.gone I2.hok mk.new,rfl⟩
   cases q:X.s₀.heap.get? e2 with
   | none=>rfl
   | some o =>
     obtain ⟨o',z'⟩:=I2.base.there e2 o q (by rw [hex]; simp)
     have:=mk.new; rw [z'] at this; cases this
end
end Sm
end
noncomputable section
namespace Sm
open PySem PySem.Spec PyProof.Rows L2
abbrev IsZ (h:Heap) (z TI TO:Addr) (u0 u1:Value):Prop:=h.get? z=some { cls:=.type "zip",dict:=none,data:=.fields #[u0,u1,.bool false,.ref TI,.ref TO],slots := #[] }
abbrev Da (h:Heap) (i:Addr) (y:Str) (t:Tok) (k:Nat):Prop:=h.IsStrIter i "str_ascii_iterator" y t k
structure Zap (z TI TO i1 i2 l:Addr):Prop where
 a1:TI≠z
 a2:TO≠z
 a3:i1≠z
 a4:i2≠z
 a5:TI≠TO
 a6:TI≠i1
 a7:TI≠i2
 a8:TO≠i1
 a9:TO≠i2
 b1:i1≠i2
 b2:l≠z
 b3:l≠TO
 b4:l≠i1
 b5:l≠i2
theorem Gy {h h':Heap} {a i:Addr} {y:Str} {t:Tok} {k:Nat} (e:Heap.ExtBut a h h') (n:i≠a) (x:Da h i y t k):Da h' i y t k:=by
 obtain ⟨o,q,r⟩:=x
 exact ⟨o,e i o n q,r⟩
noncomputable section
variable {prog:Program} {w:World} {A:Around} {E:Value->Shared->Prop} {s:Shared} {z TI TO i1 i2 l:Addr} {k:Nat} {xs:Array Value} {y:Str} {t:Tok} {x a b u1:Value} {cp:Nat}
theorem bU {Q:Value->Shared->Prop} (D:Zap z TI TO i1 i2 l) (vz:IsZ s.heap z TI TO .none u1) (vi:IsPair s.heap TI (.ref i1) (.ref i2)) (vo:IsPair s.heap TO a b) (v1:s.heap.IsListIter i1 l k) (v2:Da s.heap i2 y t k) (vl:s.heap.IsList l xs) (ex:xs[k]? = some x) (ey:y.cps[k]? = some cp)
   (q:∀ h',IsZ h' z TI TO (rawInt s.heap.objs.size) (.bool false)->IsPair h' TO x (.str ⟨#[cp]⟩ s.toks)->h'.IsListIter i1 l (k+1)->Da h' i2 y t (k+1)->IsPair h' s.heap.objs.size x (.str ⟨#[cp]⟩ s.toks)->h'.objs.size=s.heap.objs.size+1 ->
     (∀ c o,c≠z->c≠TO->c≠i1->c≠i2->s.heap.get? c=some o->h'.get? c=some o)->Q (.ref s.heap.objs.size) { s with heap:=h',toks:=s.toks+1 }) :
   wpAny (model prog w) A (Builtin.«zip.__next__» ⟨[.ref z],[]⟩) (fun r s'=>∃ v,r=.done (.ret v)/\Q v s') E s:=by
 show wpAny _ _ (field (.ref z) 2>>=_) _ _ _
 refine wpAny_bind (wpAny_field vz rfl (x:=.bool false) rfl ?_)
 show wpAny _ _ (field (.ref z) 3>>=_) _ _ _
 refine wpAny_bind (wpAny_field vz rfl (x:=.ref TI) rfl ?_)
 refine wpAny_bind (wpAny_seqItems vi rfl ?_)
 show wpAny _ _ (Builtin.SmallTypes.ownedTupleIsFree (.ref z)>>=_) _ _ _
 refine wpAny_bind ?_
 unfold Builtin.SmallTypes.ownedTupleIsFree
 refine wpAny_bind (wpAny_field vz rfl (x:=.none) rfl (wpAny_pure ?_))
 simp only [if_true]
 refine wpAny_bind (wpAny_rule ?_)
 refine wpAny_bind (wpAny_field vz rfl (x:=.ref TO) rfl ?_)
 refine wpAny_bind (wpAny_setField_rec vz (by simp) fun g1 vz1 d1=>?_)
 replace vz1:IsZ g1 z TI TO .ellipsis u1:=vz1
 have x1:=d1.extBut
 refine wpAny_bind ?_
 simp only [List.zipIdx_cons,List.zipIdx_nil,List.forIn_cons,List.forIn_nil]
 refine wpAny_bind (wpAny_bind (wpAny_onRaise ?_))
 show wpAny _ _ (Builtin.SmallTypes.nextOf (.ref i1)>>=_) _ _ _
 refine wpAny_bind (wpAny_nextOf_list_item (v1.extBut x1 D.a3) (vl.extBut x1 D.b2) ex fun g2 w1 d2=>wpAny_pure ?_)
 have x2:=d2.extBut
 have vo2:IsPair g2 TO a b:=x2 _ _ D.a8 (x1 _ _ D.a2 vo)
 refine wpAny_bind (wpAny_seqItems vo2 rfl ?_)
 refine wpAny_bind (wpAny_updateSeq_pair vo2 fun g3 vo3 d3=>?_)
 have x3:=d3.extBut
 replace vo3:IsPair g3 TO x b:=vo3
 refine wpAny_bind (wpAny_letGo (wpAny_pure ?_))
 refine wpAny_bind (wpAny_bind (wpAny_onRaise ?_))
 show wpAny _ _ (Builtin.SmallTypes.nextOf (.ref i2)>>=_) _ _ _
 have v23:Da g3 i2 y t k:=Gy x3 D.a9.symm (Gy x2 D.b1.symm (Gy x1 D.a4 v2))
 refine wpAny_bind (wpAny_nextOf_ascii_item v23 ey fun g4 w2 d4=>wpAny_pure ?_)
 have x4:=d4.extBut
 have vo4:IsPair g4 TO x b:=x4 _ _ D.a9 vo3
 refine wpAny_bind (wpAny_seqItems vo4 rfl ?_)
 refine wpAny_bind (wpAny_updateSeq_pair vo4 fun g5 vo5 d5=>?_)
 have x5:=d5.extBut
 replace vo5:IsPair g5 TO x (.str ⟨#[cp]⟩ s.toks):=vo5
 refine wpAny_bind (wpAny_letGo (wpAny_pure (wpAny_pure ?_)))
 refine wpAny_bind (wpAny_seqItems vo5 rfl ?_)
 refine wpAny_bind (wpAny_newTuple ?_)
 have sz:g5.objs.size=s.heap.objs.size:=by rw [d5.1,d4.1,d3.1,d2.1,d1.1]
 have vz5:IsZ g5 z TI TO .ellipsis u1:=x5 _ _ D.a2.symm (x4 _ _ D.a4.symm (x3 _ _ D.a2.symm (x2 _ _ D.a3.symm vz1)))
 have kp:∀ c o,c≠z->c≠TO->c≠i1->c≠i2->s.heap.get? c=some o->g5.get? c=some o:=fun c o c1 c2 c3 c4 e=>x5 _ _ c2 (x4 _ _ c4 (x3 _ _ c2 (x2 _ _ c3 (x1 _ _ c1 e))))
 have w15:g5.IsListIter i1 l (k+1):=((w1.extBut x3 D.a8.symm).extBut x4 D.b1).extBut x5 D.a8.symm
 have w25:Da g5 i2 y t (k+1):=Gy x5 D.a9.symm w2
 have zlt:z < g5.objs.size:=Heap.lt_size vz5
 show wpAny _ _ (Builtin.SmallTypes.ownedTupleHandOut (.ref z) (.ref g5.objs.size)>>=_) _ _ _
 refine wpAny_bind ?_
 unfold Builtin.SmallTypes.ownedTupleHandOut
 have vz6:IsZ (g5.push { cls:=.type "tuple",data:=.seq #[x,.str ⟨#[cp]⟩ s.toks] }) z TI TO .ellipsis u1:=Heap.get?_push_of_some _ vz5
 refine wpAny_bind (wpAny_setField_rec vz6 (by simp) fun g7 vz7 d7=>?_)
 replace vz7:IsZ g7 z TI TO (rawInt g5.objs.size) u1:=vz7
 refine wpAny_setField_rec vz7 (by simp) fun g8 vz8 d8=>?_
 replace vz8:IsZ g8 z TI TO (rawInt g5.objs.size) (.bool false):=vz8
 have up:∀ c o,c≠z->g5.get? c=some o->g8.get? c=some o:=fun c o c1 e=>d8.extBut _ _ c1 (d7.extBut _ _ c1 (Heap.get?_push_of_some _ e))
 have vt8:IsPair g8 g5.objs.size x (.str ⟨#[cp]⟩ s.toks):=d8.extBut _ _ (Nat.ne_of_gt zlt) (d7.extBut _ _ (Nat.ne_of_gt zlt) (Heap.get?_push_size _ rfl))
 have sz8:g8.objs.size=g5.objs.size+1:=by rw [d8.1,d7.1,Heap.size_push]
 rw [sz] at vz8 vt8 sz8
 refine wpAny_pure ⟨_,rfl,?_⟩
 show Q (.ref g5.objs.size) _
 rw [sz]
 refine q g8 vz8 (up _ _ D.a2 vo5) (w15.at fun o e=>up _ o D.a3 e) ?_ vt8 sz8 fun c o c1 c2 c3 c4 e=>up c o c1 (kp c o c1 c2 c3 c4 e)
 obtain ⟨o,e,r⟩:=w25
 exact ⟨o,up _ o D.a4 e,r⟩
theorem iH {Q:Fin->Shared->Prop} (hh:A.handled=none) (D:Zap z TI TO i1 i2 l) (vz:IsZ s.heap z TI TO .none u1) (vi:IsPair s.heap TI (.ref i1) (.ref i2)) (v1:s.heap.IsListIter i1 l k) (vl:s.heap.IsList l xs) (ex:xs[k]? = none)
   (q:∀ h' e,(∀ c o,c≠z->c≠i1->s.heap.get? c=some o->h'.get? c=some o)->(∃ o,h'.get? e=some o/\o.cls=.type "StopIteration")->E (.ref e) { s with heap:=h' }) :
   wpAny (model prog w) A (Builtin.«zip.__next__» ⟨[.ref z],[]⟩) Q E s:=by
 show wpAny _ _ (field (.ref z) 2>>=_) _ _ _
 refine wpAny_bind (wpAny_field vz rfl (x:=.bool false) rfl ?_)
 show wpAny _ _ (field (.ref z) 3>>=_) _ _ _
 refine wpAny_bind (wpAny_field vz rfl (x:=.ref TI) rfl ?_)
 refine wpAny_bind (wpAny_seqItems vi rfl ?_)
 show wpAny _ _ (Builtin.SmallTypes.ownedTupleIsFree (.ref z)>>=_) _ _ _
 refine wpAny_bind ?_
 unfold Builtin.SmallTypes.ownedTupleIsFree
 refine wpAny_bind (wpAny_field vz rfl (x:=.none) rfl (wpAny_pure ?_))
 simp only [if_true]
 refine wpAny_bind (wpAny_rule ?_)
 refine wpAny_bind (wpAny_field vz rfl (x:=.ref TO) rfl ?_)
 refine wpAny_bind (wpAny_setField_rec vz (by simp) fun g1 vz1 d1=>?_)
 replace vz1:IsZ g1 z TI TO .ellipsis u1:=vz1
 have x1:=d1.extBut
 refine wpAny_bind ?_
 simp only [List.zipIdx_cons,List.zipIdx_nil,List.forIn_cons,List.forIn_nil]
 refine wpAny_bind (wpAny_bind (wpAny_onRaise ?_))
 show wpAny _ _ (Builtin.SmallTypes.nextOf (.ref i1)>>=_) _ _ _
 refine wpAny_bind (wpAny_nextOf_list_end hh (v1.extBut x1 D.a3) (vl.extBut x1 D.b2) ex fun g2 e d2 he=>?_)
 obtain ⟨oe,h1,h2⟩:=he
 have vz2:IsZ g2 z TI TO .ellipsis u1:=d2 _ _ D.a3.symm vz1
 have ne:e≠z:=fun y=>by subst y; rw [vz2] at h1; cases h1; simp at h2
 exact wpAny_setField_rec vz2 (by simp) fun g3 _ d3=>q g3 e (fun c o c1 c3 y=>d3.extBut _ _ c1 (d2 _ _ c3 (x1 _ _ c1 y))) ⟨oe,d3.extBut _ _ ne h1,h2⟩
theorem Sh {Q:Option Value->Shared->Prop} (D:Zap z TI TO i1 i2 l) (vz:IsZ s.heap z TI TO .none u1) (vi:IsPair s.heap TI (.ref i1) (.ref i2)) (vo:IsPair s.heap TO a b) (v1:s.heap.IsListIter i1 l k) (v2:Da s.heap i2 y t k) (vl:s.heap.IsList l xs) (ex:xs[k]? = some x) (ey:y.cps[k]? = some cp)
   (q:∀ h',IsZ h' z TI TO (rawInt s.heap.objs.size) (.bool false)->IsPair h' TO x (.str ⟨#[cp]⟩ s.toks)->h'.IsListIter i1 l (k+1)->Da h' i2 y t (k+1)->IsPair h' s.heap.objs.size x (.str ⟨#[cp]⟩ s.toks)->h'.objs.size=s.heap.objs.size+1 ->
     (∀ c o,c≠z->c≠TO->c≠i1->c≠i2->s.heap.get? c=some o->h'.get? c=some o)->Q (some (.ref s.heap.objs.size)) { s with heap:=h',toks:=s.toks+1 }) :
   wpAny (model prog w) A (pyNext (.ref z)) Q E s:=by
 have ty:s.TypeIs (.ref z) "zip" := ⟨_,vz,rfl⟩
 unfold pyNext
 exact wpAny_bind (wpAny_attempt (wpAny_callSpecial?_slot (name:=Str.ofString "__next__") ty F.slot_zip_next
   (wpAny_call_entry F.slot_zip_next ty F.entry_zip_next (bU D vz vi vo v1 v2 vl ex ey fun h' c1 c2 c3 c4 c5 c6 c7=>wpAny_pure (q h' c1 c2 c3 c4 c5 c6 c7)) (F.args_zip_next_1 _))))
theorem Sg {Q:Option Value->Shared->Prop} (hh:A.handled=none) (D:Zap z TI TO i1 i2 l) (vz:IsZ s.heap z TI TO .none u1) (vi:IsPair s.heap TI (.ref i1) (.ref i2)) (v1:s.heap.IsListIter i1 l k) (vl:s.heap.IsList l xs) (ex:xs[k]? = none)
   (q:∀ h',(∀ c o,c≠z->c≠i1->s.heap.get? c=some o->h'.get? c=some o)->Q none { s with heap:=h' }):wpAny (model prog w) A (pyNext (.ref z)) Q E s:=by
 have ty:s.TypeIs (.ref z) "zip" := ⟨_,vz,rfl⟩
 unfold pyNext
 refine wpAny_bind (wpAny_attempt (wpAny_callSpecial?_slot (name:=Str.ofString "__next__") ty F.slot_zip_next
   (wpAny_call_entry F.slot_zip_next ty F.entry_zip_next (iH hh D vz vi v1 vl ex fun h' e kp he=>?_) (F.args_zip_next_1 _))))
 obtain ⟨o,h1,h2⟩:=he
 exact wpAny_bind (wpAny_isInstance (T := "StopIteration") (b:=true) ⟨o,h1,h2⟩ isSubtype_stop (wpAny_pure (q _ kp)))
theorem mZ {elts:List Expr} {j1:Nat} {pos:Pos} {T:Addr} {Q:Unit->Shared->Prop} (vz:IsZ s.heap z TI TO (rawInt T) u1) (q:∀ h',IsZ h' z TI TO .none u1->Heap.SameBut z s.heap h'->Q () { s with heap:=h' }) :
   wpAny (model prog w) A (letOwnedTupleGo (.Tuple elts j1 pos) (.ref z) (.ref T)) Q E s:=by
 unfold letOwnedTupleGo
 refine wpAny_bind (wpAny_load vz ?_)
 show wpAny _ _ (if (["enumerate", "zip", "dict_itemiterator", "dict_reverseitemiterator", "odict_iterator", "itertools.zip_longest", "itertools.pairwise"].contains "zip" && (#[rawInt T,u1,.bool false,.ref TI,.ref TO]:Array Value)[0]? == some (rawInt T))=true then _ else _) Q E s
 rw [if_pos (by simp)]
 refine wpAny_bind (wpAny_rule ?_)
 show wpAny _ _ (setField (.ref z) 0 .none) Q E s
 exact wpAny_setField_rec vz (by simp) fun h' c1 c2=>q h' c1 c2
theorem Kj {u0:Value} {Q:Value->Shared->Prop} (vz:IsZ s.heap z TI TO u0 u1) (q:Q (.ref z) s):wpAny (model prog w) A (pyIter (.ref z)) Q E s:=by
 have ty:s.TypeIs (.ref z) "zip" := ⟨_,vz,rfl⟩
 refine wpAny_pyIter_slot ty F.slot_zip_iter (wpAny_call_entry F.slot_zip_iter ty F.entry_zip_iter ?_ (F.args_zip_iter_1 _))
 show wpAny _ _ (ret (.ref z)) _ _ s
 exact wpAny_pure ⟨_,rfl, "zip",_,ty,F.slot_zip_next.lookup,q⟩
end
abbrev zl1 (h:Heap) (l:Addr):Heap:=h.push { cls:=.type "list_iterator",data:=.fields #[.ref l,.int 0 0] }
abbrev zl2 (h:Heap) (l:Addr) (y:Str) (t:Tok):Heap:=(zl1 h l).push { cls:=.type "str_ascii_iterator",data:=.fields #[.str y t,.int 0 0] }
abbrev zl3 (h:Heap) (l:Addr) (y:Str) (t:Tok):Heap:=(zl2 h l y t).push { cls:=.type "tuple",data:=.seq #[.ref h.objs.size,.ref (zl1 h l).objs.size] }
abbrev zl4 (h:Heap) (l:Addr) (y:Str) (t:Tok):Heap:=(zl3 h l y t).push { cls:=.type "tuple",data:=.seq #[.none,.none] }
abbrev zl5 (h:Heap) (l:Addr) (y:Str) (t:Tok):Heap:=(zl4 h l y t).push { cls:=.type "zip",data:=.fields #[.none,.bool false,.bool false,.ref (zl2 h l y t).objs.size,.ref (zl3 h l y t).objs.size] }
theorem aQ (l:Addr) (y:Str) (t:Tok) (xs:Array Value) (ha:y.cps.all (· < 128)=true) :
   Meets (Builtin.«zip.__new__» ⟨[.type "zip",.ref l,.str y t],[]⟩) (fun _ R s=>s.heap.IsList l xs/\R (.ok (.ret (.ref (zl4 s.heap l y t).objs.size))) { s with heap:=zl5 s.heap l y t }) :=
 .of_wp fun prog w A R s h=>by
   obtain ⟨hp,g,d,tk,os⟩:=s; obtain ⟨hl,h⟩:=h; have sub:=sub_zip; have hL:Heap.IsList (Shared.heap ⟨hp,g,d,tk,os⟩) l xs:=hl
   wp_walk using wpAny_pyIter_list hL,wpAny_pyIter_ascii ha
   exact ⟨_,rfl,h⟩
end Sm
end
noncomputable section
namespace Sm
open PySem PySem.Spec PyProof.Rows L2
noncomputable section
variable {prog:Program} {w:World} {A:Around} {E:Value->Shared->Prop} {s:Shared}
theorem Uw {l:Addr} {y:Str} {t:Tok} {xs:Array Value} {Q:Value->Shared->Prop} (vl:s.heap.IsList l xs) (ha:y.cps.all (· < 128)=true)
   (q:∀ h',IsZ h' (s.heap.objs.size+4) (s.heap.objs.size+2) (s.heap.objs.size+3) .none (.bool false)->IsPair h' (s.heap.objs.size+2) (.ref s.heap.objs.size) (.ref (s.heap.objs.size+1))->IsPair h' (s.heap.objs.size+3) .none .none ->
     h'.IsListIter s.heap.objs.size l 0->Da h' (s.heap.objs.size+1) y t 0->h'.objs.size=s.heap.objs.size+5->(∀ c o,s.heap.get? c=some o->h'.get? c=some o)->Q (.ref (s.heap.objs.size+4)) { s with heap:=h' }) :
   wpAny (model prog w) A (call (.type "zip") [.ref l,.str y t]) Q E s:=by
 refine callType_new F.called_zip (by decide) (F.typeCall_zip_2 _ _) (F.newCall_zip_2 _ _) (fun obj=>F.args_object_init_3 obj _ _) F.entry_zip_new (aQ l y t xs ha) ⟨vl,?_⟩
 have n1:(zl1 s.heap l).objs.size=s.heap.objs.size+1:=Heap.size_push ..
 have n2:(zl2 s.heap l y t).objs.size=s.heap.objs.size+2:=by rw [Heap.size_push,n1]
 have n3:(zl3 s.heap l y t).objs.size=s.heap.objs.size+3:=by rw [Heap.size_push,n2]
 have n4:(zl4 s.heap l y t).objs.size=s.heap.objs.size+4:=by rw [Heap.size_push,n3]
 have n5:(zl5 s.heap l y t).objs.size=s.heap.objs.size+5:=by rw [Heap.size_push,n4]
 have m5:(zl5 s.heap l y t).get? (zl4 s.heap l y t).objs.size=some _:=Heap.get?_push_size _ rfl
 have m4:(zl5 s.heap l y t).get? (zl3 s.heap l y t).objs.size=some _:=Heap.get?_push_of_some _ (Heap.get?_push_size _ rfl)
 have m3:(zl5 s.heap l y t).get? (zl2 s.heap l y t).objs.size=some _:=Heap.get?_push_of_some _ (Heap.get?_push_of_some _ (Heap.get?_push_size _ rfl))
 have m2:(zl5 s.heap l y t).get? (zl1 s.heap l).objs.size=some _:=Heap.get?_push_of_some _ (Heap.get?_push_of_some _ (Heap.get?_push_of_some _ (Heap.get?_push_size _ rfl)))
 have m1:(zl5 s.heap l y t).get? s.heap.objs.size=some _:=Heap.get?_push_of_some _ (Heap.get?_push_of_some _ (Heap.get?_push_of_some _ (Heap.get?_push_of_some _ (Heap.get?_push_size _ rfl))))
 show _/\_
 rw [n2,n3,n4] at m5
 rw [n1,n2] at m3
 rw [n3] at m4
 rw [n1] at m2
 rw [n4]
 exact ⟨⟨_,m5,rfl⟩,q _ m5 m3 m4 ⟨_,m1,rfl,rfl⟩ ⟨_,m2,rfl,rfl⟩ n5 fun c o e=>Heap.get?_push_of_some _ (Heap.get?_push_of_some _ (Heap.get?_push_of_some _ (Heap.get?_push_of_some _ (Heap.get?_push_of_some _ e))))⟩
end
structure Za (z TI TO i1 i2:Addr):Prop where
 a1:TI≠z
 a2:TO≠z
 a3:i1≠z
 a4:i2≠z
 a5:TI≠TO
 a6:TI≠i1
 a7:TI≠i2
 a8:TO≠i1
 a9:TO≠i2
 b1:i1≠i2
theorem Za.zap {z TI TO i1 i2 l:Addr} {h:Heap} {u0 u1 a b:Value} {y:Str} {t:Tok} {k k':Nat} {xs:Array Value} (D:Za z TI TO i1 i2) (vz:IsZ h z TI TO u0 u1) (vo:IsPair h TO a b) (v1:h.IsListIter i1 l k) (v2:Da h i2 y t k') (vl:h.IsList l xs):Zap z TI TO i1 i2 l:=by
 obtain ⟨ol,e,c,_⟩:=vl
 refine ⟨D.a1,D.a2,D.a3,D.a4,D.a5,D.a6,D.a7,D.a8,D.a9,D.b1,?_,?_,?_,?_⟩
 . rintro rfl; rw [vz] at e; cases e; simp at c
 . rintro rfl; rw [vo] at e; cases e; simp at c
 . rintro rfl
   obtain ⟨o,e',c',_⟩:=v1; rw [e'] at e; cases e; rw [c'] at c; simp at c
 . rintro rfl
   obtain ⟨o,e',c',_⟩:=v2; rw [e'] at e; cases e; rw [c'] at c; simp at c
theorem Inv.turnL {X:Cx} {pins:List (Addr×Obj)} {σ:St} {H:Hp} {s:Shared} {h2:Heap} {t2:Nat} {ch:List Addr} (I:Inv X pins σ H s) (hf:∀ b∈ch,Ck X pins H b) (kp2:∀ b o,b∉ch->s.heap.get? b=some o->h2.get? b=some o):Inv X pins σ H { s with heap:=h2,toks:=t2 }:=by
 refine I.step (g':=s.gens) (d':=s.drawn) (ch:=ch) (fun b hb=>?_) (fun b o _ _ hcb q _=>kp2 b o hcb q) (fun b o _ _ hcb q _=>⟨o.slots,kp2 b o hcb q⟩) (fun _ _ _ _ n=>n)
   (fun b o hcb q=>⟨o,kp2 b o hcb q⟩) (fun _ _ q=>q) (fun _ _ _ q=>q) (fun b ps q=>⟨#[],by rw [q]; simp⟩) (fun m hm=>?_) (fun b u' q=>?_) I.bare
 . obtain ⟨f0,f1,f2,f3,f4,f5⟩:=hf b hb
   exact ⟨f3,f1,f4,f5⟩
 . obtain ⟨o,es,ep,ho,r⟩:=hm
   exact ⟨o,es,ep,kp2 _ o (fun z=>(hf _ z).2.1 rfl) ho,r⟩
 . refine (I.hok b u' q).stay (fun c v hcc q'=>kp2 c v (fun hm=>?_) q') (fun _ q'=>q') fun _ _ q'=>q'
   have f0:=(hf c hm).1; rcases hcc with z | z
   . subst z; rw [f0] at q; cases q
   . rw [f0] at z; cases z
theorem Inv.newT {X:Cx} {pins:List (Addr×Obj)} {σ:St} {H:Hp} {s:Shared} {h2:Heap} {t2:Nat} {vs:List V} {us:List Value} (I:Inv X pins σ H s) (I1:Inv X pins σ H { s with heap:=h2,toks:=t2 }) (rv:Vals vs us) (hl:vs.length<=sizeLine) (htt:h2.get? s.heap.objs.size=some { cls:=.type "tuple",data:=.seq us.toArray }) :
   Inv X pins σ (upd H s.heap.objs.size (.tup vs)) { s with heap:=h2,toks:=t2 }:=by
 have hfr:H s.heap.objs.size=none:=I.fresh
 have Hold:∀ b o,H b=some o->b≠s.heap.objs.size:=fun b o q z=>by subst z; rw [hfr] at q; cases q
 have base':Un X.fs X.ex X.H₀ (upd H s.heap.objs.size (.tup vs)) X.s₀.heap h2:=by
   have B:=I1.base; have ne0:∀ b o,X.s₀.heap.get? b=some o->b≠s.heap.objs.size:=fun b o q=>Nat.ne_of_lt (Nat.lt_of_lt_of_le (Heap.lt_size q) I.sz)
   exact ⟨B.keep,B.slot,fun b o q n hx=>by rw [B3 (ne0 b o q)]; exact B.free b o q n hx,B.there,fun b ys q=>by rw [B3 (Hold b _ (B.tups b ys q))]; exact B.tups b ys q,
     fun b o' u' q=>by rw [B3 (Hold b _ (B.frzs b o' u' q))]; exact B.frzs b o' u' q,fun b ps q=>by obtain ⟨m,q'⟩:=B.tbls b ps q; exact ⟨m,by rw [B3 (Hold b _ q')]; exact q'⟩⟩
 have hok':HOk X.prog X.w (upd H s.heap.objs.size (.tup vs)) h2:=fun b o q=>by
   by_cases hb:b=s.heap.objs.size
   . subst hb
     rw [B7] at q; cases q; exact ⟨hl,us,rv,⟨_,htt,rfl,0,rfl⟩⟩
   . rw [B3 hb] at q
     exact (I1.hok b o q).stay (fun _ _ _ q'=>q') (fun c q'=>by rw [B3 (Hold c _ q')]; exact q') fun c ys q'=>by rw [B3 (Hold c _ q')]; exact q'
 refine ⟨I1.ok,I1.os,I1.bare,base',I1.loc,I1.cell,?_,fun y c q=>?_,fun p hp=>?_,hok',I1.len⟩
 . rw [B3 (Nat.ne_of_lt I.lt)]; exact I1.free
 . obtain ⟨v,oc,hoc,_⟩:=I.cell y c q
   rw [B3 (Nat.ne_of_lt (Heap.lt_size hoc))]; exact I1.freeC y c q
 . obtain ⟨q1,q2,q3,q4,q5⟩:=I1.pin p hp
   refine ⟨q1,?_,q3,q4,q5⟩; rw [B3 (Nat.ne_of_lt (Heap.lt_size (I.pin p hp).1))]; exact q2
def Itz (K:PySem.W.Frag) (a:Addr) (y:Str):It :=
 ⟨fun i H=>(∃ xs x,SqL K H a xs/\xs[i]? = some x)/\i < y.cps.size,fun i H x H'=>∃ p v c,H p=none/\x=.ref p/\H'=upd H p (.tup [v,.str ⟨#[c]⟩])/\(∀ xs,SqL K H a xs->xs[i]? = some v)/\y.cps[i]? = some c,fun i H=>∃ xs,SqL K H a xs/\xs.length<=i⟩
theorem cI {P:Program} {w:World} {K:PySem.W.Frag} {elts:List Expr} {x1:Nat} {tp:Pos} (a z TI TO i1 i2:Addr) (y:Str) (t:Tok) (D:Za z TI TO i1 i2):Turn P w K (.Tuple elts x1 tp) (Itz K a y) [z,TI,TO,i1,i2] z
   (fun i h=>IsZ h z TI TO .none (.bool false)/\IsPair h TI (.ref i1) (.ref i2)/\(∃ u v,IsPair h TO u v)/\h.IsListIter i1 a i/\Da h i2 y t i) where
 mem:=by simp
 obj:=fun i h st b hb=>by
   obtain ⟨h1,h2,⟨u,v,h3⟩,⟨o4,h4,c4,d4⟩,⟨o5,h5,c5,d5⟩⟩:=st; simp only [List.mem_cons,List.not_mem_nil,or_false] at hb; rcases hb with rfl | rfl | rfl | rfl | rfl
   . exact ⟨_,h1,fun v z=>by cases z⟩
   . exact ⟨_,h2,fun v z=>by cases z⟩
   . exact ⟨_,h3,fun v z=>by cases z⟩
   . exact ⟨o4,h4,fun v z=>by rw [d4] at z; cases z⟩
   . exact ⟨o5,h5,fun v z=>by rw [d5] at z; cases z⟩
 keep:=fun i h h' st k=>by
   obtain ⟨h1,h2,⟨u,v,h3⟩,⟨o4,h4,c4,d4⟩,⟨o5,h5,c5,d5⟩⟩:=st; exact ⟨k z (by simp) _ h1,k TI (by simp) _ h2,⟨u,v,k TO (by simp) _ h3⟩,⟨o4,k i1 (by simp) o4 h4,c4,d4⟩,⟨o5,k i2 (by simp) o5 h5,c5,d5⟩⟩
 item:=by
   intro X hP hw hK hc i pins s σ H E I hf st hg; subst hP hw hK; obtain ⟨vz,vi,⟨u',v',vo⟩,v1,v2⟩:=st; obtain ⟨⟨xs,x,hq,hx⟩,hy⟩:=hg; obtain ⟨its,rv,p,hz⟩:=I.list hq; obtain ⟨u,hu,ru⟩:=rv.get hx; have Z:=D.zap vz vo v1 v2 p.isList; obtain ⟨f0,f1,f2,f3,f4,f5⟩:=hf z (by simp)
   obtain ⟨g0,g1,g2,g3,g4,g5⟩:=hf TO (by simp)
   obtain ⟨k0,k1,k2,k3,k4,k5⟩:=hf i1 (by simp)
   obtain ⟨l0,l1,l2,l3,l4,l5⟩:=hf i2 (by simp)
   obtain ⟨m0,_,_,_,_,_⟩:=hf TI (by simp)
   refine Sh Z vz vi vo v1 v2 p.isList (x:=u) (by simpa using hu) (cp:=y.cps[i]) (by simp [hy]) fun h' w1 w2 w3 w4 w5 w6 kp=>?_
   refine ⟨_,rfl,mZ w1 fun h2 wz sb=>?_⟩
   have hfr:H s.heap.objs.size=none:=I.fresh; have zlt:z < s.heap.objs.size:=Heap.lt_size vz; have olt:TO < s.heap.objs.size:=Heap.lt_size vo; have tlt:TI < s.heap.objs.size:=Heap.lt_size vi; have ilt:i1 < s.heap.objs.size:=by obtain ⟨o,h,_⟩:=v1; exact Heap.lt_size h
   have jlt:i2 < s.heap.objs.size:=by obtain ⟨o,h,_⟩:=v2; exact Heap.lt_size h
   have kp2:∀ b o,b∉[z,TO,i1,i2]->s.heap.get? b=some o->h2.get? b=some o:=fun b o hb q=>by
     simp only [List.mem_cons,List.not_mem_nil,or_false,not_or] at hb; exact (sb.2 b hb.1).trans (kp b o hb.1 hb.2.1 hb.2.2.1 hb.2.2.2 q)
   have I1:Inv X pins σ H { s with heap:=h2,toks:=s.toks+1 }:=Sm.Inv.turnL I (ch:=[z,TO,i1,i2]) (fun b hb=>hf b (by
     simp only [List.mem_cons,List.not_mem_nil,or_false] at hb ⊢
     rcases hb with z | z | z | z <;> simp [z])) kp2
   have htt:h2.get? s.heap.objs.size=some { cls:=.type "tuple",data:=.seq #[u,.str ⟨#[y.cps[i]]⟩ s.toks] }:=(sb.2 _ (Nat.ne_of_gt zlt)).trans w5; have I2:=Sm.Inv.newT (vs:=[x,.str ⟨#[y.cps[i]]⟩]) (us:=[u,.str ⟨#[y.cps[i]]⟩ s.toks]) I I1 (.cons ru (.cons ⟨_,rfl⟩ .nil)) (by show 2<=sizeLine; decide) htt
   refine ⟨.ref s.heap.objs.size,_,I2,rfl,⟨_,x,y.cps[i],hfr,rfl,rfl,fun ys hy'=>by rw [I.list_inj hy' hq]; exact hx,by simp [hy]⟩,⟨wz,?_,⟨_,_,(sb.2 TO D.a2).trans w2⟩,?_,?_⟩,fun b hb=>?_⟩
   . exact kp2 TI _ (by simp only [List.mem_cons,List.not_mem_nil,or_false,not_or]; exact ⟨D.a1,D.a5,D.a6,D.a7⟩) vi
   . obtain ⟨o,q,c,d⟩:=w3
     exact ⟨o,(sb.2 i1 D.a3).trans q,c,d⟩
   . obtain ⟨o,q,c,d⟩:=w4
     exact ⟨o,(sb.2 i2 D.a4).trans q,c,d⟩
   . simp only [List.mem_cons,List.not_mem_nil,or_false] at hb
     rcases hb with rfl | rfl | rfl | rfl | rfl
     . rw [B3 (Nat.ne_of_lt zlt)]; exact f0
     . rw [B3 (Nat.ne_of_lt tlt)]; exact m0
     . rw [B3 (Nat.ne_of_lt olt)]; exact g0
     . rw [B3 (Nat.ne_of_lt ilt)]; exact k0
     . rw [B3 (Nat.ne_of_lt jlt)]; exact l0
 done:=by
   intro X hP hw hK hc i pins s σ H E I hf st hg; subst hP hw hK; obtain ⟨vz,vi,⟨u',v',vo⟩,v1,v2⟩:=st; obtain ⟨xs,hq,hx⟩:=hg; obtain ⟨its,rv,p,hz⟩:=I.list hq; have Z:=D.zap vz vo v1 v2 p.isList; have hl:=rv.length; exact Sg (I.ok.hd hc) Z vz vi v1 p.isList (by simp; lia) fun h' kp=>⟨rfl,Sm.Inv.turnL (t2:=s.toks) I (ch:=[z,i1]) (fun b hb=>hf b (by
     simp only [List.mem_cons,List.not_mem_nil,or_false] at hb ⊢
     rcases hb with z | z <;> simp [z])) fun b o hb q=>by
       simp only [List.mem_cons,List.not_mem_nil,or_false,not_or] at hb; exact kp b o hb.1 hb.2 q⟩
 self:=fun _ _ _ _ _ st h=>Kj st.1 h
end Sm
end
noncomputable section
namespace Sm
open PySem PySem.Spec PyProof.Rows L2
noncomputable def Bo (ds:List PyData) (y:Str):List PyData:=ds.mapIdx fun i d=>.tuple [d,.str ⟨#[y.cps.getD i 0]⟩]
noncomputable def Nh:List PyData->Res (List PyData)
 | [.list ds,.str y]=>if ds.length=y.cps.size/\y.cps.all (· < 128)=true then .ok (Bo ds y) else .no
 | _=>.no
theorem Vg {y:Str} {i c:Nat} (ha:y.cps.all (· < 128)=true) (h:y.cps[i]? = some c):PyData.strOk ⟨#[c]⟩=true:=by
 have:c < 128:=by
   rw [Array.all_eq_true'] at ha; exact of_decide_eq_true (ha c (Array.mem_of_getElem? h))
 unfold PyData.strOk
 simp
 lia
theorem cC {K:PySem.W.Frag} {G:Hp} {a:Addr} {xs:List V} {ds:List PyData} {y:Str} (h:Rd G a (.lst xs)) (l:RepL G ds xs) (hn:ds.length=y.cps.size) (ha:y.cps.all (· < 128)=true):Walk (Itz K a y) G (Bo ds y) where
 go:=fun i H hi hG=>by
   have hi0:i < ds.length:=by simpa [Bo] using hi
   have hi':i < xs.length:=by rw [<- l.length]; exact hi0
   exact ⟨⟨xs,xs[i],.inl (Rd.mono hG h),by simp [hi']⟩,by lia⟩
 yld:=fun i d G2 H x H' e h1 h2 hy=>by
   obtain ⟨p,v,c,hp,rfl,rfl,hv,hc⟩:=hy; unfold Bo at e; rw [List.getElem?_mapIdx] at e; obtain ⟨d0,e0,rfl⟩:=Option.map_eq_some_iff.mp e; obtain ⟨y',e1,r⟩:=l.get e0; have:=hv xs (.inl (Rd.mono (h1.trans h2) h)); rw [e1] at this; cases this; have hcd:y.cps.getD i 0=c:=by rw [Array.getD_eq_getD_getElem?,hc]; rfl
   refine ⟨upd G2 p (.tup [v,.str ⟨#[c]⟩]),Grow.new h2 hp,p,_,rfl,B7,RepL.cons (r.mono (h1.trans (Same.upd (h2.free hp)))) (RepL.cons ?_ rfl)⟩; rw [hcd]; exact ⟨rfl,Vg ha hc,by show 1<=sizeLine; decide⟩
 stop:=fun i H hi hG=>⟨xs,.inl (Rd.mono hG h),by rw [<- l.length]; simpa [Bo] using hi⟩
noncomputable section
variable {P:Program} {w:World} {K:PySem.W.Frag} {mg:Str->Option Value} {base:Heap} {X:Cx} {N:List Str} {sc:Scope} {k:Nat} {df:Bool} {E:EK} {pos p:Pos} {a b:Expr} {fs:Dn->Res (List PyData)}
theorem bY (n:Nat):Za (n+4) (n+2) (n+3) n (n+1) where
 a1:=show (n+2:Nat)≠n+4 by lia
 a2:=show (n+3:Nat)≠n+4 by lia
 a3:=show (n:Nat)≠n+4 by lia
 a4:=show (n+1:Nat)≠n+4 by lia
 a5:=show (n+2:Nat)≠n+3 by lia
 a6:=show (n+2:Nat)≠n by lia
 a7:=show (n+2:Nat)≠n+1 by lia
 a8:=show (n+3:Nat)≠n by lia
 a9:=show (n+3:Nat)≠n+1 by lia
 b1:=show (n:Nat)≠n+1 by lia
theorem i_zip {n x1:Nat} {elts:List Expr} {tp:Pos} (C:Cxt P w K mg base X N sc k df) (h:okGl sc "zip" = true) (hm:mg "zip" = none) (ha:DA X E [a,b] n fs) (he:starEach [a,b] X.env=(false,eval a X.env)::starEach [b] X.env:=by rfl) (hpl:(backTo pos (starEach [b] X.env)).any (·.1)=false:=by rfl) :
   DI X E (.Tuple elts x1 tp) (.Call (.Name "zip" p) [a,b] [] pos) (fun δ=>(fs δ).bind Nh):=by
 rintro pins s σ H R I ⟨G,δ,S,aft⟩
 obtain ⟨h1,h2,h3⟩:=okGl.gl C h
 have hh:=O4 (R:=fun vs H1=>∃ G1 ds,Same G1 H1/\RepL G1 ds vs/\AftI E G1 H1 (Nh ds) R) (W:=fun G H r=>AftI E G H r R) S aft (fun g a=>AftI.grow g a) (fun c a=>a) (fun a=>a) fun ds vs G1 H1 e g1 r1 S1 a1=>⟨G1,ds,S1.sub,r1,a1⟩
 refine wpAny_Call_Name_kw (Cb I h1 (by rw [C.hmg]; exact hm) boot_zip ?_ h3 h2)
 refine PyProof.Rows.callWith_type1 (thn (ha.pa pos pins s σ H _ I hh) fun us s1 hY4=>?_) he hpl
 obtain ⟨vs,H1,I1,rv,G1,ds,hG,rl,a1⟩:=hY4
 unfold Nh at a1
 split at a1
 . rename_i ys y
   split at a1
   . rename_i hc
     obtain ⟨v,v',rfl,⟨l,xs,rfl,q1,l1⟩,e2⟩:=dW rl; obtain ⟨e2,o2,o3⟩:=e2; subst e2
     cases rv with
     | cons ru rv =>
       cases rv with
       | cons ru2 rv =>
         cases rv; cases ru; obtain ⟨t,rfl⟩:=ru2; obtain ⟨zz,its,nn,rw',e1⟩:=R0 I1 hG q1; refine Uw ⟨_,e1,rfl,nn,rfl⟩ hc.2 fun h' c1 c2 c3 c4 c5 c6 kp=>?_
         have I2:Inv X pins σ H1 { s1 with heap:=h' }:=I1.kept (t':=s1.toks) kp; refine Kj c1 ?_; refine ⟨s1.heap.objs.size+4,[s1.heap.objs.size+4,s1.heap.objs.size+2,s1.heap.objs.size+3,s1.heap.objs.size,s1.heap.objs.size+1],_,_,H1,rfl,I2,cI l _ _ _ _ _ y t (bY _),⟨c1,c2,⟨_,_,c3⟩,c4,c5⟩,fun b hb=>?_,a1 _ G1 H1 (Grow.refl hG) (cC q1 l1 hc.1 hc.2)⟩
         have hge:s1.heap.objs.size<=b:=by
           simp only [List.mem_cons,List.not_mem_nil,or_false] at hb; rcases hb with rfl | rfl | rfl | rfl | rfl
           . exact Nat.le_add_right _ _
           . exact Nat.le_add_right _ _
           . exact Nat.le_add_right _ _
           . exact Nat.le_refl _
           . exact Nat.le_add_right _ _
         exact I1.fpOk hge (I1.hok.fresh hge)
   . exact a1.elim
 . exact a1.elim
end
end Sm
end
noncomputable section
namespace Sm
open PySem PySem.Spec PyProof.Rows L2
theorem bZ {M:Model} {A:Around} {E:Value->Shared->Prop} {s:Shared} {a:Addr} {Q:Option Obj->Shared->Prop} (h:Q (s.heap.get? a) s):wpAny M A (loadIfAlive a) Q E s:=fun Γ p _=>by
 unfold loadIfAlive
 rw [Sem.wp_loadIfAlive,Sem.wp]
 exact h
noncomputable section
variable {prog:Program} {w:World} {A:Around} {E:Value->Shared->Prop} {s:Shared} {z TI TO i1 i2 l T:Addr} {k:Nat} {xs:Array Value} {y:Str} {t:Tok} {x a b u1:Value} {cp:Nat} {oT:Obj}
theorem held {Q:Bool->Shared->Prop} (vz:IsZ s.heap z TI TO (rawInt (T:Int)) u1) (vt:s.heap.get? T=some oT) (hu:u1=.bool false\/u1=.bool true)
   (q:∀ h',IsZ h' z TI TO (rawInt (T:Int)) (.bool true)->Heap.SameBut z s.heap h'->Q false { s with heap:=h' }):wpAny (model prog w) A (Builtin.SmallTypes.ownedTupleIsFree (.ref z)) Q E s:=by
 unfold Builtin.SmallTypes.ownedTupleIsFree
 refine wpAny_bind (wpAny_field vz rfl (x:=rawInt (T:Int)) rfl ?_)
 show wpAny _ _ (loadIfAlive _>>=_) _ _ _
 refine wpAny_bind (bZ ?_)
 rw [show ((T:Int)).toNat=T from Int.toNat_natCast _,vt]
 simp only [Option.isNone_some,Bool.false_eq_true,if_false]
 refine wpAny_bind (wpAny_field vz rfl (x:=u1) rfl ?_)
 rcases hu with rfl | rfl
 . rw [if_pos (by decide)]
   exact wpAny_bind (wpAny_setField_rec vz (by simp) fun h' c1 c2=>wpAny_pure (q h' c1 c2))
 . rw [if_neg (by decide)]
   exact wpAny_pure (q s.heap vz ⟨rfl,fun _ _=>rfl⟩)
theorem Ze {Q:Value->Shared->Prop} (D:Zap z TI TO i1 i2 l) (vz:IsZ s.heap z TI TO (rawInt (T:Int)) u1) (vt:s.heap.get? T=some oT) (hu:u1=.bool false\/u1=.bool true) (vi:IsPair s.heap TI (.ref i1) (.ref i2)) (v1:s.heap.IsListIter i1 l k) (v2:Da s.heap i2 y t k) (vl:s.heap.IsList l xs) (ex:xs[k]? = some x) (ey:y.cps[k]? = some cp)
   (q:∀ h',IsZ h' z TI TO (rawInt (T:Int)) (.bool true)->h'.IsListIter i1 l (k+1)->Da h' i2 y t (k+1)->IsPair h' s.heap.objs.size x (.str ⟨#[cp]⟩ s.toks)->h'.objs.size=s.heap.objs.size+1 ->
     (∀ c o,c≠z->c≠i1->c≠i2->s.heap.get? c=some o->h'.get? c=some o)->Q (.ref s.heap.objs.size) { s with heap:=h',toks:=s.toks+1 }) :
   wpAny (model prog w) A (Builtin.«zip.__next__» ⟨[.ref z],[]⟩) (fun r s'=>∃ v,r=.done (.ret v)/\Q v s') E s:=by
 show wpAny _ _ (field (.ref z) 2>>=_) _ _ _
 refine wpAny_bind (wpAny_field vz rfl (x:=.bool false) rfl ?_)
 show wpAny _ _ (field (.ref z) 3>>=_) _ _ _
 refine wpAny_bind (wpAny_field vz rfl (x:=.ref TI) rfl ?_)
 refine wpAny_bind (wpAny_seqItems vi rfl ?_)
 show wpAny _ _ (Builtin.SmallTypes.ownedTupleIsFree (.ref z)>>=_) _ _ _
 refine wpAny_bind (held vz vt hu fun g1 vz1 d1=>?_)
 have x1:=d1.extBut
 simp only [Bool.false_eq_true,if_false]
 refine wpAny_bind ?_
 rw [<- Array.forIn_toList]
 simp only [List.forIn_cons,List.forIn_nil]
 refine wpAny_bind (wpAny_bind (wpAny_holding ?_))
 show wpAny _ _ (Builtin.SmallTypes.nextOf (.ref i1)>>=_) _ _ _
 refine wpAny_bind (wpAny_nextOf_list_item (v1.extBut x1 D.a3) (vl.extBut x1 D.b2) ex fun g2 w1 d2=>wpAny_pure ?_)
 have x2:=d2.extBut
 refine wpAny_pure ?_
 refine wpAny_bind (wpAny_bind (wpAny_holding ?_))
 show wpAny _ _ (Builtin.SmallTypes.nextOf (.ref i2)>>=_) _ _ _
 have v22:Da g2 i2 y t k:=Gy x2 D.b1.symm (Gy x1 D.a4 v2)
 refine wpAny_bind (wpAny_nextOf_ascii_item v22 ey fun g3 w2 d3=>wpAny_pure ?_)
 have x3:=d3.extBut
 refine wpAny_pure ?_
 refine wpAny_pure ?_
 refine wpAny_bind (wpAny_newTuple ?_ (by show 2<=sizeLine; decide))
 have sz:g3.objs.size=s.heap.objs.size:=by rw [d3.1,d2.1,d1.1]
 have up:∀ c o,c≠z->c≠i1->c≠i2->s.heap.get? c=some o->(g3.push { cls:=.type "tuple",data:=.seq #[x,.str ⟨#[cp]⟩ s.toks] }).get? c=some o:=fun c o c1 c3 c4 e=>Heap.get?_push_of_some _ (x3 _ _ c4 (x2 _ _ c3 (x1 _ _ c1 e)))
 refine wpAny_pure ⟨_,rfl,?_⟩
 show Q (.ref g3.objs.size) _
 have hnew:IsPair (g3.push { cls:=.type "tuple",data:=.seq #[x,.str ⟨#[cp]⟩ s.toks] }) g3.objs.size x (.str ⟨#[cp]⟩ s.toks):=Heap.get?_push_size _ rfl
 rw [sz] at hnew ⊢
 refine q _ (Heap.get?_push_of_some _ (x3 _ _ D.a4.symm (x2 _ _ D.a3.symm vz1))) ((w1.extBut x3 D.b1).at fun o e=>Heap.get?_push_of_some _ e) ?_ hnew (by rw [Heap.size_push,sz]) up
 obtain ⟨o,e,r⟩:=w2
 exact ⟨o,Heap.get?_push_of_some _ e,r⟩
theorem bV {Q:Fin->Shared->Prop} (hh:A.handled=none) (D:Zap z TI TO i1 i2 l) (vz:IsZ s.heap z TI TO (rawInt (T:Int)) u1) (vt:s.heap.get? T=some oT) (hu:u1=.bool false\/u1=.bool true) (vi:IsPair s.heap TI (.ref i1) (.ref i2)) (v1:s.heap.IsListIter i1 l k) (vl:s.heap.IsList l xs) (ex:xs[k]? = none)
   (q:∀ h' e,(∀ c o,c≠z->c≠i1->s.heap.get? c=some o->h'.get? c=some o)->(∃ o,h'.get? e=some o/\o.cls=.type "StopIteration")->E (.ref e) { s with heap:=h' }) :
   wpAny (model prog w) A (Builtin.«zip.__next__» ⟨[.ref z],[]⟩) Q E s:=by
 show wpAny _ _ (field (.ref z) 2>>=_) _ _ _
 refine wpAny_bind (wpAny_field vz rfl (x:=.bool false) rfl ?_)
 show wpAny _ _ (field (.ref z) 3>>=_) _ _ _
 refine wpAny_bind (wpAny_field vz rfl (x:=.ref TI) rfl ?_)
 refine wpAny_bind (wpAny_seqItems vi rfl ?_)
 show wpAny _ _ (Builtin.SmallTypes.ownedTupleIsFree (.ref z)>>=_) _ _ _
 refine wpAny_bind (held vz vt hu fun g1 vz1 d1=>?_)
 have x1:=d1.extBut
 simp only [Bool.false_eq_true,if_false]
 refine wpAny_bind ?_
 rw [<- Array.forIn_toList]
 simp only [List.forIn_cons,List.forIn_nil]
 refine wpAny_bind (wpAny_bind (wpAny_holding ?_))
 show wpAny _ _ (Builtin.SmallTypes.nextOf (.ref i1)>>=_) _ _ _
 exact wpAny_bind (wpAny_nextOf_list_end hh (v1.extBut x1 D.a3) (vl.extBut x1 D.b2) ex fun g2 e d2 he=>q g2 e (fun c o c1 c3 y=>d2 _ _ c3 (x1 _ _ c1 y)) he)
def ZF (h:Heap) (z TI TO:Addr):Prop:=(∃ u1,IsZ h z TI TO .none u1)\/∃ (T:Addr) (u1:Value) (oT:Obj),IsZ h z TI TO (rawInt ((T:Nat):Int)) u1/\h.get? T=some oT/\(u1=.bool false\/u1=.bool true)
theorem iJ {Q:Option Value->Shared->Prop} (D:Zap z TI TO i1 i2 l) (vz:ZF s.heap z TI TO) (vi:IsPair s.heap TI (.ref i1) (.ref i2)) (vo:∃ a b,IsPair s.heap TO a b) (v1:s.heap.IsListIter i1 l k) (v2:Da s.heap i2 y t k) (vl:s.heap.IsList l xs) (ex:xs[k]? = some x) (ey:y.cps[k]? = some cp)
   (q:∀ h',ZF h' z TI TO->IsPair h' TI (.ref i1) (.ref i2)->(∃ a b,IsPair h' TO a b)->h'.IsListIter i1 l (k+1)->Da h' i2 y t (k+1)->IsPair h' s.heap.objs.size x (.str ⟨#[cp]⟩ s.toks)->h'.objs.size=s.heap.objs.size+1 ->
     (∀ c o,c≠z->c≠TO->c≠i1->c≠i2->s.heap.get? c=some o->h'.get? c=some o)->Q (some (.ref s.heap.objs.size)) { s with heap:=h',toks:=s.toks+1 }) :
   wpAny (model prog w) A (pyNext (.ref z)) Q E s:=by
 obtain ⟨a,b,vo⟩:=vo
 rcases vz with ⟨u1,vz⟩ | ⟨T,u1,oT,vz,vt,hu⟩
 . exact Sh D vz vi vo v1 v2 vl ex ey fun h' c1 c2 c3 c4 c5 c6 c7=>q h' (.inr ⟨s.heap.objs.size,_,_,c1,c5,.inl rfl⟩) (c7 _ _ D.a1 D.a5 D.a6 D.a7 vi) ⟨_,_,c2⟩ c3 c4 c5 c6 c7
 . have ty:s.TypeIs (.ref z) "zip" := ⟨_,vz,rfl⟩
   unfold pyNext; refine wpAny_bind (wpAny_attempt (wpAny_callSpecial?_slot (name:=Str.ofString "__next__") ty F.slot_zip_next
     (wpAny_call_entry F.slot_zip_next ty F.entry_zip_next (Ze D vz vt hu vi v1 v2 vl ex ey fun h' c1 c3 c4 c5 c6 c7=>wpAny_pure ?_) (F.args_zip_next_1 _))))
   have ht:∃ o,h'.get? T=some o:=by
     by_cases e1:T=z
     . subst e1; exact ⟨_,c1⟩
     . by_cases e2:T=i1
       . subst e2; obtain ⟨o,e,_⟩:=c3; exact ⟨o,e⟩
       . by_cases e3:T=i2
         . subst e3; obtain ⟨o,e,_⟩:=c4; exact ⟨o,e⟩
         . exact ⟨_,c7 T _ e1 e2 e3 vt⟩
   obtain ⟨o',ht⟩:=ht; exact q h' (.inr ⟨T,_,o',c1,ht,.inr rfl⟩) (c7 _ _ D.a1 D.a6 D.a7 vi) ⟨_,_,c7 _ _ D.a2 D.a8 D.a9 vo⟩ c3 c4 c5 c6 fun c o k1 _ k3 k4 e=>c7 c o k1 k3 k4 e
theorem iI {Q:Option Value->Shared->Prop} (hh:A.handled=none) (D:Zap z TI TO i1 i2 l) (vz:ZF s.heap z TI TO) (vi:IsPair s.heap TI (.ref i1) (.ref i2)) (v1:s.heap.IsListIter i1 l k) (vl:s.heap.IsList l xs) (ex:xs[k]? = none)
   (q:∀ h',(∀ c o,c≠z->c≠i1->s.heap.get? c=some o->h'.get? c=some o)->Q none { s with heap:=h' }):wpAny (model prog w) A (pyNext (.ref z)) Q E s:=by
 rcases vz with ⟨u1,vz⟩ | ⟨T,u1,oT,vz,vt,hu⟩
 . exact Sg hh D vz vi v1 vl ex q
 . have ty:s.TypeIs (.ref z) "zip" := ⟨_,vz,rfl⟩
   unfold pyNext; refine wpAny_bind (wpAny_attempt (wpAny_callSpecial?_slot (name:=Str.ofString "__next__") ty F.slot_zip_next
     (wpAny_call_entry F.slot_zip_next ty F.entry_zip_next (bV hh D vz vt hu vi v1 vl ex fun h' e kp he=>?_) (F.args_zip_next_1 _))))
   obtain ⟨o,h1,h2⟩:=he; exact wpAny_bind (wpAny_isInstance (T := "StopIteration") (b:=true) ⟨o,h1,h2⟩ isSubtype_stop (wpAny_pure (q _ kp)))
end
end Sm
end
noncomputable section
namespace Sm
open PySem PySem.Spec PyProof.Rows L2
theorem Oo:∀ {vs:List V} {us:List Value} {v:V} {u:Value},Vals vs us->RelV v u->Vals (vs++[v]) (us++[u])
 | _,_,_,_,.nil,r=>.cons r .nil
 | _,_,_,_,.cons h t,r=>.cons h (Oo t r)
theorem Pb {G:Hp} {d:PyData} {v:V} (r:Rep G d v):∀ {ds:List PyData} {vs:List V},RepL G ds vs->RepL G (ds++[d]) (vs++[v])
 | [],_,h=>by cases (show _=_ from h); exact RepL.cons r rfl
 | _::_,_,h=>by
   obtain ⟨v0,r0,rfl,h1,h2⟩:=h; exact ⟨v0,_,rfl,h1,Pb r h2⟩
theorem bW {ds:List PyData} {y:Str} {i:Nat} {d:PyData} (h:ds[i]? = some d):(Bo ds y).take (i+1)=(Bo ds y).take i++[.tuple [d,.str ⟨#[y.cps.getD i 0]⟩]]:=by
 have hi:i < ds.length:=(List.getElem?_eq_some_iff.mp h).1
 have hz:i < (Bo ds y).length:=by simpa [Bo] using hi
 rw [List.take_succ_eq_append_getElem hz]
 congr 2
 have:(Bo ds y)[i]? = some (.tuple [d,.str ⟨#[y.cps.getD i 0]⟩]):=by
   unfold Bo; rw [List.getElem?_mapIdx,h]; rfl
 exact (List.getElem?_eq_some_iff.mp this).2
noncomputable section
variable {X:Cx} {pins:List (Addr×Obj)} {σ:St} {A:Around} {z TI TO i1 i2 l S:Addr} {y:Str} {t:Tok} {ds:List PyData} {xs:List V} {its:List Value} {res:Value} {R:Result->Shared->Prop}
theorem kR (hh:A.in1.handled=none) (D:Za z TI TO i1 i2) (sz:S≠z) (sTI:S≠TI) (sTO:S≠TO) (s1:S≠i1) (s2:S≠i2) (sl:S≠l) (rx:Vals xs its) (hn:xs.length=y.cps.size) (ha:y.cps.all (· < 128)=true) (hz:xs.length<=1000) :
   ∀ (m i:Nat) (s:Shared) (G H:Hp) (acc:List Value) (accV:List V) (c:Nat),xs.length - i=m->i<=xs.length->Inv X pins σ H s->(∀ b∈[z,TI,TO,i1,i2,S],Ck X pins H b)->ZF s.heap z TI TO->IsPair s.heap TI (.ref i1) (.ref i2)->(∃ a b,IsPair s.heap TO a b)->s.heap.IsListIter i1 l i->Da s.heap i2 y t i->s.heap.IsList l its.toArray ->
     s.heap.get? S=some { cls:=.type "list",dict:=none,data:=.seq acc.toArray c,slots := #[] }->Vals accV acc->accV.length=i->RepL G ((Bo ds y).take i) accV->Same G H->RepL G ds xs ->
     (∀ s' G' H' acc' accV' c',Grow G H G' H'->Inv X pins σ H' s'->Ck X pins H' S->s'.heap.get? S=some { cls:=.type "list",dict:=none,data:=.seq acc'.toArray c',slots := #[] }->Vals accV' acc'->accV'.length=xs.length->RepL G' (Bo ds y) accV'->R (.ok (.ret res)) s') ->
     codeAny (model X.prog X.w) A (.builtin "list.extend.loop" ⟨[.ref S,.ref z,res],[]⟩) R s:=by
 intro m
 induction m with
 | zero =>
   intro i s G H acc accV c hm hi I hf vz vi vo v1 v2 vl vS rv hlen rl hG rd q; have hin:i=xs.length:=by lia
   have Z:Zap z TI TO i1 i2 l:=by
     obtain ⟨a,b,vo⟩:=vo; rcases vz with ⟨u1,vz⟩ | ⟨T,u1,oT,vz,_⟩
     . exact D.zap vz vo v1 v2 vl
     . exact D.zap vz vo v1 v2 vl
   have hzl:(Bo ds y).length<=i:=by unfold Bo; rw [List.length_mapIdx,rd.length]; lia
   refine codeAny_builtin F.entry_extend_loop ?_; rw [Around.under_plainId F.plain_extend_loop _]; show wpAny _ A.in1 (pyNext (.ref z)>>=_) _ _ s
   have hl:=rx.length; refine wpAny_bind (iI hh Z vz vi v1 vl (by simp; lia) fun h' kp=>?_)
   have I1:Inv X pins σ H { s with heap:=h' }:=Sm.Inv.turnL (t2:=s.toks) I (ch:=[z,i1]) (fun b hb=>hf b (by
     simp only [List.mem_cons,List.not_mem_nil,or_false] at hb ⊢
     rcases hb with z | z <;> simp [z])) fun b o hb e=>by
       simp only [List.mem_cons,List.not_mem_nil,or_false,not_or] at hb; exact kp b o hb.1 hb.2 e
   refine wpAny_pure (q { s with heap:=h' } G H acc accV c (Grow.refl hG) I1 (hf S (by simp)) (kp S _ sz s1 vS) rv (by lia) ?_)
   rw [List.take_of_length_le hzl] at rl; exact rl
 | succ m ih =>
   intro i s G H acc accV c hm hi I hf vz vi vo v1 v2 vl vS rv hlen rl hG rd q; have hlt:i < xs.length:=by lia
   have Z:Zap z TI TO i1 i2 l:=by
     obtain ⟨a,b,vo⟩:=vo; rcases vz with ⟨u1,vz⟩ | ⟨T,u1,oT,vz,_⟩
     . exact D.zap vz vo v1 v2 vl
     . exact D.zap vz vo v1 v2 vl
   have hl:=rx.length; obtain ⟨d,hd⟩:∃ d,ds[i]? = some d:=⟨_,List.getElem?_eq_getElem (by rw [rd.length]; exact hlt)⟩
   obtain ⟨x,hx,rdx⟩:=rd.get hd; obtain ⟨u,hu,ru⟩:=rx.get hx; have hyi:i < y.cps.size:=by lia
   refine codeAny_builtin F.entry_extend_loop ?_; rw [Around.under_plainId F.plain_extend_loop _]; show wpAny _ A.in1 (pyNext (.ref z)>>=_) _ _ s
   refine wpAny_bind (iJ Z vz vi vo v1 v2 vl (x:=u) (by simpa using hu) (cp:=y.cps[i]) (by simp [hyi]) fun h' wz wi wo w1 w2 wt wsz kp=>?_)
   have hfr:H s.heap.objs.size=none:=I.fresh; have kp2:∀ b o,b∉[z,TO,i1,i2]->s.heap.get? b=some o->h'.get? b=some o:=fun b o hb e=>by
     simp only [List.mem_cons,List.not_mem_nil,or_false,not_or] at hb; exact kp b o hb.1 hb.2.1 hb.2.2.1 hb.2.2.2 e
   have I1:Inv X pins σ H { s with heap:=h',toks:=s.toks+1 }:=Sm.Inv.turnL I (ch:=[z,TO,i1,i2]) (fun b hb=>hf b (by
     simp only [List.mem_cons,List.not_mem_nil,or_false] at hb ⊢
     rcases hb with z | z | z | z <;> simp [z])) kp2
   have I2:=Sm.Inv.newT (vs:=[x,.str ⟨#[y.cps[i]]⟩]) (us:=[u,.str ⟨#[y.cps[i]]⟩ s.toks]) I I1 (.cons ru (.cons ⟨_,rfl⟩ .nil)) (by show 2<=sizeLine; decide) wt
   have blt:∀ b∈[z,TI,TO,i1,i2,S],b < s.heap.objs.size:=fun b hb=>by
     obtain ⟨a',b',vo⟩:=vo; simp only [List.mem_cons,List.not_mem_nil,or_false] at hb; rcases hb with rfl | rfl | rfl | rfl | rfl | rfl
     . rcases vz with ⟨u1,vz⟩ | ⟨T,u1,oT,vz,_⟩ <;> exact Heap.lt_size vz
     . exact Heap.lt_size vi
     . exact Heap.lt_size vo
     . obtain ⟨o,e,_⟩:=v1; exact Heap.lt_size e
     . obtain ⟨o,e,_⟩:=v2; exact Heap.lt_size e
     . exact Heap.lt_size vS
   have hf2:∀ b∈[z,TI,TO,i1,i2,S],Ck X pins (upd H s.heap.objs.size (.tup [x,.str ⟨#[y.cps[i]]⟩])) b:=fun b hb=>by
     obtain ⟨f0,fr⟩:=hf b hb; exact ⟨by rw [B3 (Nat.ne_of_lt (blt b hb))]; exact f0,fr⟩
   have vS1:=kp S _ sz sTO s1 s2 vS; show wpAny _ A.in1 (updateSeq S (·.push (.ref s.heap.objs.size))>>=_) _ _ _
   refine wpAny_bind ?_; have szl:(1000:Nat)+1<=sizeLine:=by decide
   have hal:acc.length=i:=by rw [<- rv.length]; exact hlen
   refine wpAny_updateSeq vS1 rfl (wpAny_pure ⟨plainId_quiet F.plain_extend_loop _,?_⟩) (by simp; lia) (by simp; lia)
   have oth:∀ b o,b∉[S]->h'.get? b=some o->(h'.update S (Obj.mapSeq (·.push (.ref s.heap.objs.size)))).get? b=some o:=fun b o hb e=>(Heap.get?_update_other _ _ (fun h:S=b=>hb (by simp [h]))).trans e
   have ot:∀ {b:Addr} {o:Obj},S≠b->h'.get? b=some o->(h'.update S (Obj.mapSeq (·.push (.ref s.heap.objs.size)))).get? b=some o:=fun {b o} n e=>oth b o (by simp; exact Ne.symm n) e
   have I3:Inv X pins σ (upd H s.heap.objs.size (.tup [x,.str ⟨#[y.cps[i]]⟩])) { s with heap:=h'.update S (Obj.mapSeq (·.push (.ref s.heap.objs.size))),toks:=s.toks+1 }:=Sm.Inv.turnL (s:={ s with heap:=h',toks:=s.toks+1 }) (t2:=s.toks+1) I2 (ch:=[S]) (fun b hb=>hf2 b (by
     simp only [List.mem_cons,List.not_mem_nil,or_false] at hb ⊢
     simp [hb])) oth
   have hGT:G s.heap.objs.size=none:=by
     cases e:G s.heap.objs.size with
     | none=>rfl
     | some o=>have:=hG _ _ e; rw [hfr] at this; cases this
   have g1:Grow G H (upd G s.heap.objs.size (.tup [x,.str ⟨#[y.cps[i]]⟩])) (upd H s.heap.objs.size (.tup [x,.str ⟨#[y.cps[i]]⟩])):=Grow.new hG hfr; have sm:Same G (upd G s.heap.objs.size (.tup [x,.str ⟨#[y.cps[i]]⟩])):=Same.upd hGT; have hcd:y.cps.getD i 0=y.cps[i]:=by rw [Array.getD_eq_getD_getElem?,Array.getElem?_eq_getElem hyi]; rfl
   have rt:Rep (upd G s.heap.objs.size (.tup [x,.str ⟨#[y.cps[i]]⟩])) (.tuple [d,.str ⟨#[y.cps.getD i 0]⟩]) (.ref s.heap.objs.size):=by
     refine ⟨_,_,rfl,B7,RepL.cons (rdx.mono sm) (RepL.cons ?_ rfl)⟩; rw [hcd]; exact ⟨rfl,Vg ha (Array.getElem?_eq_getElem hyi),by show 1<=sizeLine; decide⟩
   have vS2:=Heap.get?_update_self (Obj.mapSeq (·.push (.ref s.heap.objs.size))) vS1 rfl; have vS3:∃ c2,(h'.update S (Obj.mapSeq (·.push (.ref s.heap.objs.size)))).get? S=some { cls:=.type "list",dict:=none,data:=.seq (acc++[Value.ref s.heap.objs.size]).toArray c2,slots := #[] }:=by
     rw [<- List.push_toArray]; exact ⟨_,vS2⟩
   obtain ⟨c2,vS3⟩:=vS3; have wl:h'.IsList l its.toArray:=vl.at fun o e=>kp l o Z.b2 Z.b3 Z.b4 Z.b5 e
   have wz':ZF (h'.update S (Obj.mapSeq (·.push (.ref s.heap.objs.size)))) z TI TO:=by
     rcases wz with ⟨u1,wz⟩ | ⟨T,u1,oT,wz,wt',hu'⟩
     . exact .inl ⟨u1,ot sz wz⟩
     . by_cases e:T=S
       . exact .inr ⟨T,u1,_,ot sz wz,by rw [e]; exact vS3,hu'⟩
       . exact .inr ⟨T,u1,oT,ot sz wz,ot (Ne.symm e) wt',hu'⟩
   obtain ⟨oa,ob,wo⟩:=wo; refine ih (i+1) { s with heap:=h'.update S (Obj.mapSeq (·.push (.ref s.heap.objs.size))),toks:=s.toks+1 } _ _ (acc++[.ref s.heap.objs.size]) (accV++[.ref s.heap.objs.size]) c2 (by lia) hlt I3 hf2 wz' (ot sTI wi) ⟨oa,ob,ot sTO wo⟩ (w1.at fun o e=>ot s1 e) ?_ (wl.at fun o e=>ot sl e) vS3 (Oo (v:=.ref s.heap.objs.size) rv (show Value.ref s.heap.objs.size=Value.ref s.heap.objs.size from rfl)) (by simp [hlen]) ?_ g1.gh (rd.mono sm) fun s' G' H' acc' accV' c' gr=>q s' G' H' acc' accV' c' (g1.trans gr)
   . obtain ⟨o,e,r⟩:=w2
     exact ⟨o,ot s2 e,r⟩
   . rw [bW hd]
     exact Pb rt (rl.mono sm)
end
end Sm
end
noncomputable section
namespace Sm
open PySem PySem.Spec PyProof.Rows L2
theorem Zf:typeLookup (.type "zip") "__len__" = pure none:=by rw [typeLookup_type,builtinLookup_eq_fast]; kernel_rfl
theorem Vj:typeLookup (.type "zip") "__length_hint__" = pure none:=by rw [typeLookup_type,builtinLookup_eq_fast]; kernel_rfl
theorem Inv.adopt {X:Cx} {pins:List (Addr×Obj)} {σ:St} {H:Hp} {s:Shared} {a:Addr} {o:HO} (I:Inv X pins σ H s) (f:Ck X pins H a) (hb:X.s₀.heap.objs.size<=a) (new:ObjOk X.prog X.w (upd H a o) s.heap a o):Inv X pins σ (upd H a o) s:=by
 obtain ⟨f0,f1,f2,f3,f4,f5⟩:=f
 have Hold:∀ b u,H b=some u->b≠a:=fun b u q z=>by subst z; rw [f0] at q; cases q
 have base':Un X.fs X.ex X.H₀ (upd H a o) X.s₀.heap s.heap:=by
   have B:=I.base; have ne0:∀ b u,X.s₀.heap.get? b=some u->b≠a:=fun b u q=>Nat.ne_of_lt (Nat.lt_of_lt_of_le (Heap.lt_size q) hb)
   exact ⟨B.keep,B.slot,fun b u q n hx=>by rw [B3 (ne0 b u q)]; exact B.free b u q n hx,B.there,fun b ys q=>by rw [B3 (Hold b _ (B.tups b ys q))]; exact B.tups b ys q,
     fun b o' u' q=>by rw [B3 (Hold b _ (B.frzs b o' u' q))]; exact B.frzs b o' u' q,fun b ps q=>by obtain ⟨m,q'⟩:=B.tbls b ps q; exact ⟨m,by rw [B3 (Hold b _ q')]; exact q'⟩⟩
 have hok':HOk X.prog X.w (upd H a o) s.heap:=fun b u q=>by
   by_cases hb:b=a
   . subst hb
     rw [B7] at q; cases q; exact new
   . rw [B3 hb] at q
     exact (I.hok b u q).stay (fun _ _ _ q'=>q') (fun c q'=>by rw [B3 (Hold c _ q')]; exact q') fun c ys q'=>by rw [B3 (Hold c _ q')]; exact q'
 refine ⟨I.ok,I.os,I.bare,base',I.loc,I.cell,?_,fun y c q=>?_,fun p hp=>?_,hok',I.len⟩
 . rw [B3 (Ne.symm f1)]; exact I.free
 . rw [B3 (f4 y c q)]; exact I.freeC y c q
 . obtain ⟨q1,q2,q3,q4,q5⟩:=I.pin p hp
   refine ⟨q1,?_,q3,q4,q5⟩; rw [B3 (f5 p hp)]; exact q2
noncomputable section
variable {X:Cx} {pins:List (Addr×Obj)} {σ:St} {A:Around} {z TI TO i1 i2 l S:Addr} {y:Str} {t:Tok} {ds:List PyData} {xs:List V} {its:List Value} {R:Result->Shared->Prop} {s:Shared} {G H:Hp}
theorem gC (hh:A.in1.handled=none) (D:Za z TI TO i1 i2) (sz:S≠z) (sTI:S≠TI) (sTO:S≠TO) (s1:S≠i1) (s2:S≠i2) (sl:S≠l) (rx:Vals xs its) (hn:xs.length=y.cps.size) (ha:y.cps.all (· < 128)=true) (hz:xs.length<=1000)
   (I:Inv X pins σ H s) (hf:∀ b∈[z,TI,TO,i1,i2,S],Ck X pins H b) (vz:IsZ s.heap z TI TO .none (.bool false)) (vi:IsPair s.heap TI (.ref i1) (.ref i2)) (vo:∃ a b,IsPair s.heap TO a b) (v1:s.heap.IsListIter i1 l 0) (v2:Da s.heap i2 y t 0) (vl:s.heap.IsList l its.toArray)
   (vS:s.heap.get? S=some { cls:=.type "list",data:=.seq #[] }) (hG:Same G H) (rd:RepL G ds xs)
   (q:∀ s' G' H' acc' accV' c',Grow G H G' H'->Inv X pins σ H' s'->Ck X pins H' S->s'.heap.get? S=some { cls:=.type "list",dict:=none,data:=.seq acc'.toArray c',slots := #[] }->Vals accV' acc'->accV'.length=xs.length->RepL G' (Bo ds y) accV'->R (.ok (.ret .none)) s') :
   wpAny (model X.prog X.w) A.in1 (Builtin.«list.__init__» ⟨[.ref S,.ref z],[]⟩)
     (fun r s'=>match r with | .done f=>R (.ok f) s' | .again c'=>c'.quiet=true/\codeAny (model X.prog X.w) A c' R s') (fun e s'=>R (.error e) s') s:=by
 have keep:∀ (s:Shared) (fn:Array Value->Array Value),∀ b o,b∉[S]->s.heap.get? b=some o->(s.heap.update S (Obj.mapSeq fn)).get? b=some o:=fun s fn b o hb e=>(Heap.get?_update_other _ _ (fun h:S=b=>hb (by simp [h]))).trans e
 have turn:∀ (s:Shared) (fn:Array Value->Array Value),Inv X pins σ H s->Inv X pins σ H { s with heap:=s.heap.update S (Obj.mapSeq fn) }:=fun s fn I=>Sm.Inv.turnL (t2:=s.toks) I (ch:=[S]) (fun b hb=>hf b (by
   simp only [List.mem_cons,List.not_mem_nil,or_false] at hb ⊢
   simp [hb])) (keep s fn)
 show wpAny _ A.in1 (do let was <- Builtin.List.listItems (.ref S); Builtin.List.listUpdate (.ref S) (fun _ => #[]); letGo was.toList.reverse; Builtin.List.listExtendWith (.ref S) (.ref z) .none) _ _ s
 refine wpAny_bind ?_
 unfold Builtin.List.listItems
 refine wpAny_bind (wpAny_seqItems vS rfl (wpAny_pure ?_))
 show wpAny _ A.in1 (updateSeq S (fun _ => #[])>>=fun _=>letGo (#[]:Array Value).toList.reverse>>=fun _=>_) _ _ s
 refine wpAny_bind (wpAny_updateSeq vS rfl ?_)
 have w1:=Heap.get?_update_self (Obj.mapSeq (fun _=>(#[]:Array Value))) vS rfl
 have k1:=keep s (fun _=>(#[]:Array Value))
 have I1:=turn s (fun _=>(#[]:Array Value)) I
 generalize hh1:s.heap.update S (Obj.mapSeq fun _=>(#[]:Array Value))=h1 at *
 refine wpAny_bind (wpAny_letGo ?_)
 have vz1:IsZ h1 z TI TO .none (.bool false):=k1 z _ (by simp; exact Ne.symm sz) vz
 have ty:Shared.TypeIs { s with heap:=h1 } (.ref z) "zip" := ⟨_,vz1,rfl⟩
 unfold Builtin.List.listExtendWith
 refine wpAny_bind (wpAny_typeOf ty ?_)
 have e1:Builtin.List.listSameRef (.ref S) (.ref z)=false:=by simp [Builtin.List.listSameRef,sz]
 have e2:(Value.type "zip" == Value.type "list")=false:=by decide
 have e3:(Value.type "zip" == Value.type "tuple")=false:=by decide
 simp only [e1,e2,e3,Bool.or_false,Bool.false_eq_true,if_false]
 refine wpAny_bind (Kj vz1 ?_)
 refine wpAny_bind (wpAny_holding ?_)
 unfold Builtin.List.listLengthHint
 refine wpAny_bind (wpAny_specialOf ty Zf ?_)
 show wpAny _ A.in1 (specialOf (Value.ref z) (Str.ofString "__length_hint__")>>=_) _ _ _
 refine wpAny_bind (wpAny_specialOf ty Vj ?_)
 refine wpAny_pure ?_
 show wpAny _ A.in1 (rule "list.extend.makes-room" >>= fun _=>Builtin.List.listTouch (.ref S)>>=fun _=>again (.builtin "list.extend.loop" ⟨[.ref S,.ref z,.none],[]⟩)) _ _ _
 refine wpAny_bind (wpAny_rule ?_)
 refine wpAny_bind ?_
 show wpAny _ A.in1 (updateSeq S (·.push .none)>>=fun _=>updateSeq S (·.pop)) _ _ _
 refine wpAny_bind (wpAny_updateSeq w1 rfl ?_)
 have w2:=Heap.get?_update_self (Obj.mapSeq (·.push Value.none)) w1 rfl
 have k2:=keep { s with heap:=h1 } (·.push Value.none)
 have I2:=turn { s with heap:=h1 } (·.push Value.none) I1
 refine wpAny_updateSeq (hz:=by seq_fits) w2 rfl ?_
 have w3:=Heap.get?_update_self (Obj.mapSeq (·.pop)) w2 rfl
 have k3:=keep { s with heap:=h1.update S (Obj.mapSeq (·.push Value.none)) } (·.pop)
 have I3:=turn { s with heap:=h1.update S (Obj.mapSeq (·.push Value.none)) } (·.pop) I2
 have up:∀ {b:Addr} {o:Obj},S≠b->s.heap.get? b=some o->((h1.update S (Obj.mapSeq (·.push Value.none))).update S (Obj.mapSeq (·.pop))).get? b=some o:=fun {b o} n e=>by
   have hb:b∉[S]:=by simp; exact Ne.symm n
   exact k3 b o hb (k2 b o hb (k1 b o hb e))
 obtain ⟨oa,ob,vo⟩:=vo
 refine wpAny_pure ⟨plainId_quiet F.plain_extend_loop _,kR (t:=t) hh D sz sTI sTO s1 s2 sl rx hn ha hz xs.length 0 _ G H [] [] _ rfl (Nat.zero_le _) I3 hf (.inl ⟨_,up sz vz⟩) (up sTI vi) ⟨oa,ob,up sTO vo⟩ (v1.at fun o e=>up s1 e) ?_ (vl.at fun o e=>up sl e) w3 .nil rfl rfl hG rd q⟩
 obtain ⟨o,e,r⟩:=v2
 exact ⟨o,up s2 e,r⟩
end
noncomputable def Qn (fs:Dn->Res (List PyData)):Dn->Res PyData:=fun δ=>(fs δ).bind fun ds=>match Nh ds with
 | .ok l=>if l.length<=1000 then .ok (.list l) else .no
 | _=>.no
noncomputable section
variable {P:Program} {w:World} {K:PySem.W.Frag} {mg:Str->Option Value} {base:Heap} {X:Cx} {N:List Str} {sc:Scope} {k:Nat} {df:Bool} {E:EK} {pos cp p p2:Pos} {a b:Expr} {fs:Dn->Res (List PyData)}
theorem lG {n:Nat} (C:Cxt P w K mg base X N sc k df) (hL:okGl sc "list" = true) (hmL:mg "list" = none) (h:okGl sc "zip" = true) (hm:mg "zip" = none) (ha:DA X E [a,b] n fs) (he:starEach [a,b] X.env=(false,eval a X.env)::starEach [b] X.env:=by rfl) (hpl:(backTo cp (starEach [b] X.env)).any (·.1)=false:=by rfl)
   (he2:starEach [.Call (.Name "zip" p2) [a,b] [] cp] X.env=(false,eval (.Call (.Name "zip" p2) [a,b] [] cp) X.env)::starEach [] X.env:=by rfl) (hpl2:(backTo pos (starEach [] X.env)).any (·.1)=false:=by rfl) :
   DE X E (.Call (.Name "list" p) [.Call (.Name "zip" p2) [a,b] [] cp] [] pos) (Qn fs):=by
 rintro pins s σ H Q I ⟨G,δ,S,aft⟩
 obtain ⟨h1,h2,h3⟩:=okGl.gl C h
 obtain ⟨l1,l2,l3⟩:=okGl.gl C hL
 have hh:=O4 (R:=fun vs H1=>∃ G1 ds,Same G1 H1/\RepL G1 ds vs/\Aft E G1 H1 (match Nh ds with | .ok l=>if l.length<=1000 then .ok (.list l) else .no | _=>.no) Q) (W:=fun G H r=>Aft E G H r Q) S aft (fun g a=>Aft.grow g a) (fun c a=>a) (fun a=>a) fun ds vs G1 H1 e g1 r1 S1 a1=>⟨G1,ds,S1.sub,r1,a1⟩
 refine wpAny_Call_Name_kw (Cb I l1 (by rw [C.hmg]; exact hmL) boot_list ?_ l3 l2)
 refine PyProof.Rows.callWith_type1 ?_ he2 hpl2
 rw [he2]
 refine Calls.spliced_cons ?_
 refine wpAny_Call_Name_kw (Cb I h1 (by rw [C.hmg]; exact hm) boot_zip ?_ h3 h2)
 refine PyProof.Rows.callWith_type1 (thn (ha.pa cp pins s σ H _ I hh) fun us s1 hY5=>?_) he hpl
 obtain ⟨vs,H1,I1,rv,G1,ds,hG,rl,a1⟩:=hY5
 cases ez:Nh ds with
 | ok L =>
   rw [ez] at a1; dsimp only at a1
   split at a1
   . rename_i hlen
     unfold Nh at ez
     split at ez
     . rename_i ys y
       split at ez
       . rename_i hc
         cases ez; obtain ⟨v,v',rfl,⟨l,xs,rfl,q1,lr⟩,e2⟩:=dW rl; obtain ⟨e2,o2,o3⟩:=e2; subst e2
         cases rv with
         | cons ru rv =>
           cases rv with
           | cons ru2 rv =>
             cases rv; cases ru; obtain ⟨t,rfl⟩:=ru2; obtain ⟨zz,its,nn,rw',e1⟩:=R0 I1 hG q1; have hxl:xs.length=y.cps.size:=by rw [<- lr.length]; exact hc.1
             have hx1000:xs.length<=1000:=by rw [<- lr.length]; unfold Bo at hlen; rw [List.length_mapIdx] at hlen; exact hlen
             have llt:l < s1.heap.objs.size:=Heap.lt_size e1; refine Uw ⟨_,e1,rfl,nn,rfl⟩ hc.2 fun h' c1 c2 c3 c4 c5 c6 kp=>?_
             have I2:Inv X pins σ H1 { s1 with heap:=h' }:=I1.kept (t':=s1.toks) kp; refine Calls.spliced_nil ?_; have n5:∀ {b:Addr},b < h'.objs.size->h'.objs.size≠b:=fun hb=>Nat.ne_of_gt hb
             have lt5:s1.heap.objs.size<=h'.objs.size:=by rw [c6]; exact Nat.le_add_right _ _
             have I3:Inv X pins σ H1 { s1 with heap:=h'.push { cls:=.type "list",data:=.seq #[] } }:=I2.kept (s:={ s1 with heap:=h' }) (t':=s1.toks) fun b o e=>Heap.get?_push_of_some _ e
             have fz:∀ b∈[s1.heap.objs.size+4,s1.heap.objs.size+2,s1.heap.objs.size+3,s1.heap.objs.size,s1.heap.objs.size+1,h'.objs.size],Ck X pins H1 b:=fun b hb=>by
               have hge:s1.heap.objs.size<=b:=by
                 simp only [List.mem_cons,List.not_mem_nil,or_false] at hb; rcases hb with rfl | rfl | rfl | rfl | rfl | rfl
                 . exact Nat.le_add_right _ _
                 . exact Nat.le_add_right _ _
                 . exact Nat.le_add_right _ _
                 . exact Nat.le_refl _
                 . exact Nat.le_add_right _ _
                 . exact lt5
               exact I1.fpOk hge (I1.hok.fresh hge)
             have pu:∀ {b:Addr} {o:Obj},h'.get? b=some o->(h'.push { cls:=.type "list",data:=.seq #[] }).get? b=some o:=fun e=>Heap.get?_push_of_some _ e
             have vS:(h'.push { cls:=.type "list",data:=.seq #[] }).get? h'.objs.size=some { cls:=.type "list",data:=.seq #[] }:=Heap.get?_push_size _ rfl; refine callType_codes (Q₁:=fun obj s₁=>obj=.ref h'.objs.size/\s₁={ s1 with heap:=h'.push { cls:=.type "list",data:=.seq #[] } }) F.called_list (F.typeCall_list_1 _) F.entry_list_init (code_list_new _ ⟨rfl,rfl⟩) fun obj s2 hs2=>?_
             obtain ⟨rfl,rfl⟩:=hs2; have hhd:X.A.in1.in1.handled=none:=by have:=I.ok.hd C.calm; simpa using this
             refine ⟨⟨_,vS,rfl⟩,F.args_list_init_2 _ _,?_⟩; refine gC (A:=X.A.in1) (t:=t) (l:=l) hhd (bY _) (n5 (Heap.lt_size c1)) (n5 (Heap.lt_size c2)) (n5 (Heap.lt_size c3)) (n5 (by obtain ⟨o,e,_⟩:=c4; exact Heap.lt_size e)) (n5 (by obtain ⟨o,e,_⟩:=c5; exact Heap.lt_size e)) (n5 (Nat.lt_of_lt_of_le llt lt5)) rw' hxl hc.2 hx1000 I3 fz (pu c1) (pu c2) ⟨_,_,pu c3⟩ (c4.at fun o e=>pu e) ?_ ⟨_,pu (kp _ _ e1),rfl,nn,rfl⟩ vS hG lr fun s3 G3 H3 acc accV cc gr J fS wS ra hal rz=>⟨rfl,?_⟩
             . obtain ⟨o,e,r⟩:=c5
               exact ⟨o,pu e,r⟩
             . have szl:(1000:Nat)<=sizeLine:=by decide
               have J2:=Sm.Inv.adopt (o:=.lst accV) J fS (Nat.le_trans I1.sz lt5) ⟨by omega,acc,cc,ra,wS⟩
               have g2:Grow G3 H3 (upd G3 h'.objs.size (.lst accV)) (upd H3 h'.objs.size (.lst accV)):=Grow.new gr.gh fS.1; exact ⟨.ref h'.objs.size,_,J2,rfl,a1 _ _ _ (gr.trans g2) ⟨_,accV,rfl,.inl B7,rz.mono g2.g⟩⟩
       . cases ez
     . cases ez
   . exact a1.elim
 | exc c=>rw [ez] at a1; exact (show False from a1).elim
 | no=>rw [ez] at a1; exact (show False from a1).elim
end
end Sm
end
noncomputable section
namespace Sm
open PySem PySem.Spec PyProof.Rows L2
noncomputable section
variable {P:Program} {w:World} {K:PySem.W.Frag} {mg:Str->Option Value} {base:Heap} {X:Cx} {N:List Str} {sc:Scope} {k:Nat} {df:Bool} {E:EK} {pos p p1:Pos} {e:Expr} {es:List Expr} {f:Dn->Res PyData} {fs:Dn->Res (List PyData)} {x y:Str}
noncomputable def kA (r:Res Kvs):Res Kvs:=match r with
 | .ok d=>.ok d
 | _=>.no
noncomputable def Mi (fs:Dn->Res (List PyData)) (m:List PyData->Res Kvs):Dn->Res Kvs:=fun δ=>(fs δ).bind fun ds=>kA (m ds)
theorem Yc {j n:Nat} {m:List PyData->Res Kvs} (C:Cxt P w K mg base X N sc k df) (F:FnN P w K mg base x j n m) (hj:j<=k) (h:okGl sc x=true) (ha:DA X E (e::es) n fs)
   (he:starEach (e::es) X.env=(false,eval e X.env)::starEach es X.env:=by rfl) (hpl:(backTo pos (starEach es X.env)).any (·.1)=false:=by rfl):DN X E (.Call (.Name x p) (e::es) [] pos) (Mi fs m):=by
 obtain ⟨f,fd,ps,hps,F,hm,hk,hb⟩:=F.ex
 obtain ⟨h1,h2,h3⟩:=okGl.gl C h
 have F':FnOk X.prog X.w X.K X.mg X.base CX0 j f fd ps (spN n m):=by rw [C.hP,C.hw,C.hK,C.hmg,C.hb]; exact F
 refine PE.imp (Bx F' (C.room.mono hj) h1 (by rw [C.hmg]; exact hm) (by rw [C.hK]; exact hk) (by rw [C.hK]; exact hb) .nil (Pe (X:=X)) ha.pa h2 he hpl) fun σ H Q hh=>?_
 obtain ⟨G,δ,S,aft⟩:=hh
 refine O4 (W:=fun G H r=>AftN E G H r Q) S aft (fun g a=>AftN.grow g a) (fun c a=>a) (fun a=>a) fun ds vs G1 H1 e g1 r1 S1 a1=>?_
 rw [List.append_nil]
 cases q:m ds with
 | ok d=>rw [q] at a1; exact ⟨G1,ds,d,S1.sub,r1,ha.len δ ds e,q,a1⟩
 | exc c=>rw [q] at a1; exact (show False from a1).elim
 | no=>rw [q] at a1; exact (show False from a1).elim
noncomputable def Mh (f:Dn->Res PyData) (i:Nat) (m:List Sl->Res Kvs):Dn->Res Kvs:=fun δ=>(f δ).bind fun d=>match δ[i]? with
 | some (.fd kvs)=>kA (m [.sh d,.fd kvs])
 | _=>.no
theorem aM {j:Nat} {m:List Sl->Res Kvs} (C:Cxt P w K mg base X N sc k df) (F:FnSN P w K mg base y j 2 m) (hj:j<=k) (h:okGl sc y=true) (ha:DE X E e f) (i:Nat) (hv:okVar N sc i x=true)
   (he:starEach [e,.Name x p1] X.env=(false,eval e X.env)::starEach [.Name x p1] X.env:=by rfl) (he2:starEach [.Name x p1] X.env=(false,eval (.Name x p1) X.env)::starEach [] X.env:=by rfl) (hpl:(backTo pos (starEach [.Name x p1] X.env)).any (·.1)=false:=by rfl) :
   DN X E (.Call (.Name y p) [e,.Name x p1] [] pos) (Mh f i m):=by
 obtain ⟨fa,fd,ps,hps,F,hm,hk,hb⟩:=F.ex
 obtain ⟨h1,h2,h3⟩:=okGl.gl C h
 have F':FnOk X.prog X.w X.K X.mg X.base CX0 j fa fd ps (nK 2 m):=by rw [C.hP,C.hw,C.hK,C.hmg,C.hb]; exact F
 refine PE.imp (Bx F' (C.room.mono hj) h1 (by rw [C.hmg]; exact hm) (by rw [C.hK]; exact hk) (by rw [C.hK]; exact hb) .nil (Pe (X:=X)) (E1 ha (E1 (okVar.pe C hv) L9 he2) he) h2 he hpl) fun σ H Q hh=>?_
 obtain ⟨G,δ,S,aft⟩:=hh
 refine Xe S aft fun d v G1 H1 g1 r1 S1 a1=>?_
 split at a1
 . rename_i kvs hi
   obtain ⟨u,hσ,fo⟩:=S1.fdV hi; refine ⟨u,hσ,?_⟩
   cases em:m [.sh d,.fd kvs] with
   | ok r=>rw [em] at a1; exact ⟨G1,[.sh d,.fd kvs],r,S1.sub,⟨v,_,rfl,r1,u,_,rfl,fo,rfl⟩,rfl,em,a1⟩
   | exc c=>rw [em] at a1; exact (show False from a1).elim
   | no=>rw [em] at a1; exact (show False from a1).elim
 . exact (show False from a1).elim
end
end Sm
end
noncomputable section
namespace Sm
open PySem PySem.Spec PyProof.Rows L2
noncomputable def top (i:Nat):Stmt:=PySem.Challenge.pw_staymark_k10_texts.main.body.getD i (.Pass ⟨0,0,0,0⟩)
noncomputable def stm (i j:Nat):Stmt:=(B5 (top i)).getD j (.Pass ⟨0,0,0,0⟩)
structure Txt (mg:Str->Option Value):Prop where
 b_ValueError:mg "ValueError" = none
 b_bool:mg "bool" = none
 b_dict:mg "dict" = none
 b_enumerate:mg "enumerate" = none
 b_int:mg "int" = none
 b_isinstance:mg "isinstance" = none
 b_len:mg "len" = none
 b_list:mg "list" = none
 b_range:mg "range" = none
 b_reversed:mg "reversed" = none
 b_tuple:mg "tuple" = none
 b_zip:mg "zip" = none
noncomputable def Q7:List Str:=["deed"]
noncomputable def Q9:Dn->Out:=(L3 (vIf (C3 (b2 (b2 (A0 0) (vC (.int 0)) dIx) (vC (.str "add")) dEq)) (vFn (A2 (b2 (A0 0) (vC (.int 3)) dIx) A8) V6) (vC (.int 0))))
noncomputable def D7:List PyData->Res PyData:=fnD Q7 Q9
noncomputable def V0:List Str:=["book", "behind", "deed"]
noncomputable def W6:Dn->Res Kvs:=(Kk (Fa 1) (Kk (iX 1 2 (fun δ=>((A0 0) δ).bind E9) (C3 (b2 (C5 (A2 (A0 2) A8) D7) (vC (.int 0)) (Er .Gt))) (b2 (A0 2) (vC (.int 2)) dIx) (A0 2)) (Ty 1)))
noncomputable def O6:List PyData->Res Kvs:=fnW V0 W6
noncomputable def N5:List Str:=["book", "behind", "waiting", "told", "step", "deed", "number", "sign"]
noncomputable def Aq:Dn->Out:=(Ct 1 (Si (A2 (A0 0) A8) O6))
noncomputable def Ap:Dn->Out:=(Hi 2 (K3 (fun δ=>((Kl 1 (vC .none) (K6 A8)) δ).bind E9) E7 [] O3 (E3 (A2 (A0 0) (A2 (vC (.int 0)) A8)))))
noncomputable def Ek:Dn->Out:=(Hi 3 A8)
noncomputable def Ao:Dn->Out:=(dO (Uz 2) (C6 (aA 2 4) (C6 (E8 5 (b2 (A0 4) (vC (.int 0)) dIx)) (C6 (E8 6 (b2 (A0 4) (vC (.int 1)) dIx)) (C6 (E8 7 (E3 (A2 (b2 (A0 5) (vC (.int 1)) dIx) (A2 (A0 6) A8)))) (C6 (Ae 3 (E3 (A2 (A0 7) (A2 (b2 (b2 (A0 5) (vC (.int 3)) dIx) (A0 6) dIx) A8)))) (C6 (sIf (C3 (b2 (b2 (A0 6) (vC (.int 1)) C9) (vFn (A2 (b2 (A0 5) (vC (.int 3)) dIx) A8) V6) (P1 .Lt))) (Ae 2 (E3 (A2 (A0 5) (A2 (b2 (A0 6) (vC (.int 1)) C9) A8)))) F7) (aB 2 (K3 (fun δ=>((Kl 1 (A0 7) (K6 A8)) δ).bind E9) E7 [] O3 (E3 (A2 (A0 0) (A2 (vC (.int 0)) A8))))))))))))
noncomputable def Ej:Dn->Out:=(sFz 3 (L3 (A0 3)))
noncomputable def Bt:Dn->Out:=(C6 Aq (C6 Ap (C6 Ek (C6 Ao Ej))))
noncomputable def N3:List PyData->Res PyData:=fnD N5 Bt
noncomputable def Aj:List Str:=["book", "undone", "deed"]
noncomputable def Ar:Dn->Res Kvs:=(Kk (Fa 1) (Kk (N2 (fun δ=>((A0 0) δ).bind Tl) (st1 2) (sIf (T1 (C3 (b2 (b2 (A0 2) (vC (.int 0)) dIx) (vC (.str "undo")) dEq)) (C3 (X7 true 1 (b2 (A0 2) (vC (.int 1)) dIx)))) (Gf 1 (b2 (A0 2) (vC (.int 2)) dIx) (vC (.bool true))) F7)) (Ty 1)))
noncomputable def F8:List PyData->Res Kvs:=fnW Aj Ar
noncomputable def L6:List Str:=["book", "which"]
noncomputable def N1:Dn->Out:=(sIf (C3 (b2 (A0 1) (K6 (K3 (fun δ=>((A0 0) δ).bind E9) E7 [] O3 (b2 (A0 0) (vC (.int 1)) dIx))) (dIn true))) (Bw "NoDeed" (A0 1)) F7)
noncomputable def E4:List PyData->Res PyData:=fnD L6 N1
noncomputable def V8:List Str:=["book", "which"]
noncomputable def U9:Dn->Out:=(C6 (dS (C5 (A2 (A0 0) (A2 (A0 1) A8)) E4)) (L3 (Zi true (A0 1) (Mi (A2 (A0 0) A8) F8))))
noncomputable def K1:List PyData->Res PyData:=fnD V8 U9
noncomputable def X2:List Str:=["book", "undone", "dropped", "deed", "sign"]
noncomputable def Z1:Dn->Res Kvs:=(Kk (Fa 2) (Kk (N2 (fun δ=>((A0 0) δ).bind E9) (st1 3) (sIf (T1 (C3 (b2 (b2 (A0 3) (vC (.int 0)) dIx) (vC (.str "drop")) dEq)) (C3 (X7 true 1 (b2 (A0 3) (vC (.int 1)) dIx)))) (N2 (fun δ=>((b2 (A0 3) (vC (.int 2)) dIx) δ).bind E9) (st1 4) (Gf 2 (A0 4) (vC (.bool true)))) F7)) (Ty 2)))
noncomputable def F2:List Sl->Res Kvs:=kQ X2 Z1
noncomputable def J3:List Str:=["book", "undone", "dropped", "told", "pair"]
noncomputable def U6:Dn->Out:=(Ct 1 (Si (A2 (A0 0) A8) F8))
noncomputable def U5:Dn->Out:=(dR 1 (Ct 2 (Ql (A0 0) 1 F2)))
noncomputable def Bd:Dn->Out:=(Hi 3 A8)
noncomputable def P6:Dn->Out:=(N2 (fun δ=>((C5 (A2 (A0 0) A8) N3) δ).bind E9) (st1 4) (Ae 3 (E3 (A2 (A0 4) (A2 (Zj (X7 true 1 (b2 (b2 (A0 4) (vC (.int 0)) dIx) (vC (.int 0)) dIx)) (X7 true 2 (b2 (A0 4) (vC (.int 0)) dIx))) A8)))))
noncomputable def Bc:Dn->Out:=(sFz 3 (L3 (A0 3)))
noncomputable def W5:Dn->Out:=(C6 U6 (C6 U5 (C6 Bd (C6 P6 Bc))))
noncomputable def Q6:List PyData->Res PyData:=fnD J3 W5
noncomputable def Cj:List Str:=["book"]
noncomputable def Bu:Dn->Out:=(L3 (K6 (K3 (fun δ=>((C5 (A2 (A0 0) A8) Q6) δ).bind E9) E7 [] (C3 (b2 (A0 0) (vC (.int 1)) dIx)) (b2 (A0 0) (vC (.int 0)) dIx))))
noncomputable def N4:List PyData->Res PyData:=fnD Cj Bu
noncomputable def Ef:List Str:=["book"]
noncomputable def Df:Dn->Out:=(L3 (Ii "" (K6 (K3 (fun δ=>((C5 (A2 (A0 0) A8) N4) δ).bind E9) E7 [] O3 (b2 (A0 0) (vC (.int 1)) dIx)))))
noncomputable def X6:List PyData->Res PyData:=fnD Ef Df
noncomputable def Ab:List Str:=["book", "sign", "deed"]
noncomputable def W9:Dn->Out:=(C6 (N2 (fun δ=>((A0 0) δ).bind E9) (st1 2) (sIf (C3 (b2 (b2 (A0 2) (vC (.int 1)) dIx) (b2 (A0 1) (vC (.int 0)) dIx) dEq)) (L3 (Km (vC (.int 0)) (b2 (A0 1) (vC (.int 1)) dIx) (C5 (A2 (A0 2) A8) D7) (P1 .LtE) (P1 .Lt))) F7)) (L3 (vC (.bool false))))
noncomputable def M0:List PyData->Res PyData:=fnD Ab W9
noncomputable def Aa:List Str:=["book", "sign", "undone"]
noncomputable def W8:Dn->Out:=(C6 (sIf (Ft (C3 (Gx (A2 (A0 0) (A2 (A0 1) A8)) M0))) (Bw "NoSign" (A0 1)) F7) (C6 (Ct 2 (Mi (A2 (A0 0) A8) F8)) (dR 2 (L3 (Zj (X7 true 2 (b2 (A0 1) (vC (.int 0)) dIx)) (Zi true (A0 1) (Mh (A0 0) 2 F2)))))))
noncomputable def K7:List PyData->Res PyData:=fnD Aa W8
noncomputable def N6:List Str:=["book", "told", "pair", "hand"]
noncomputable def Cm:Dn->Out:=(Hi 1 A8)
noncomputable def V9:Dn->Out:=(N2 (fun δ=>((C5 (A2 (A0 0) A8) N4) δ).bind E9) (st1 2) (C6 (E8 3 (b2 (b2 (b2 (A0 2) (vC (.int 0)) dIx) (vC (.int 0)) dIx) (vC (.int 1)) dIx)) (sIf (cFz 1 (T1 (C3 (A0 1)) (C3 (b2 (b2 (b2 (A0 1) (b1 (vC (.int 1)) Bm) dIx) (vC (.int 0)) dIx) (A0 3) dEq)))) (Im 1 (b1 (vC (.int 1)) Bm) (E3 (A2 (A0 3) (A2 (vFz 1 (b2 (b2 (b2 (A0 1) (b1 (vC (.int 1)) Bm) dIx) (vC (.int 1)) dIx) (b2 (A0 2) (vC (.int 1)) dIx) C9)) A8)))) (Ae 1 (E3 (A2 (A0 3) (A2 (b2 (A0 2) (vC (.int 1)) dIx) A8)))))))
noncomputable def Cl:Dn->Out:=(sFz 1 (L3 (A0 1)))
noncomputable def Z2:Dn->Out:=(C6 Cm (C6 V9 Cl))
noncomputable def P9:List PyData->Res PyData:=fnD N6 Z2
noncomputable def Al:List Str:=["_law_script", "_law_k"]
noncomputable def Ax:Dn->Out:=(C6 (sIf (C3 (b2 (A0 0) (K6 A8) dEq)) (L3 (b2 (vC (.int 7)) (A0 1) P3)) F7) (L3 (b2 (b2 (A0 0) (b2 (A0 1) (vFn (A2 (A0 0) A8) V6) Oi) dIx) (b2 (vC (.int 6553)) (b2 (A0 1) (vFn (A2 (A0 0) A8) V6) Iu) P3) C9)))
noncomputable def V3:List PyData->Res PyData:=fnD Al Ax
noncomputable def X5:List Str:=["_law_script", "_law_k", "_law_many", "_law_cell_here"]
noncomputable def Z8:Dn->Out:=(C6 (E8 3 (b2 (b2 (b2 (b2 (C5 (A2 (A0 0) (A2 (A0 1) A8)) V3) (vC (.int 2147483563)) Oi) (vC (.int 69069)) P3) (b2 (vC (.int 104723)) (b2 (A0 1) (vC (.int 1)) C9) P3) C9) (vC (.int 2147483563)) Oi)) (C6 (E8 3 (b2 (b2 (b2 (A0 3) (A0 3) P3) (b2 (A0 3) (vC (.int 3)) Iu) C9) (vC (.int 2147483399)) Oi)) (L3 (b2 (b2 (b2 (b2 (b2 (A0 3) (A0 3) P3) (b2 (A0 3) (vC (.int 7)) Iu) C9) (vC (.int 2147483647)) Oi) (vC (.int 11)) Iu) (A0 2) Oi))))
noncomputable def A9:List PyData->Res PyData:=fnD X5 Z8
noncomputable def N8:List Str:=["_law_script", "_law_at", "_law_found", "_law_k", "_law_word"]
noncomputable def W4:Dn->Out:=(Hi 2 A8)
noncomputable def W3:Dn->Out:=(N2 (fun δ=>((A2 (vC (.int 3)) A8) δ).bind Eg) (st1 3) (C6 (E8 4 (b2 (b2 (vC (.str "abcdefghijklmnopqrstuvwxyz")) (C5 (A2 (A0 0) (A2 (b2 (A0 1) (b2 (vC (.int 2)) (A0 3) P3) C9) (A2 (vC (.int 26)) A8))) A9) dIx) (C5 (A2 (A0 0) (A2 (b2 (b2 (A0 1) (b2 (vC (.int 2)) (A0 3) P3) C9) (vC (.int 1)) C9) (A2 (vC (.int 2)) A8))) A9) P3)) (Ae 2 (b2 (K6 (A2 (b2 (A0 4) (b2 (vC (.str "xyz")) (A0 3) dIx) C9) (A2 (b2 (b2 (vC (.str "xyz")) (A0 3) dIx) (A0 4) C9) A8))) (C5 (A2 (A0 0) (A2 (b2 (A0 1) (vC (.int 6)) C9) (A2 (vC (.int 2)) A8))) A9) dIx))))
noncomputable def W2:Dn->Out:=(sFz 2 (L3 (A0 2)))
noncomputable def Z7:Dn->Out:=(C6 W4 (C6 W3 W2))
noncomputable def Q2:List PyData->Res PyData:=fnD N8 Z7
noncomputable def X3:List Str:=["_law_script", "_law_at"]
noncomputable def Z3:Dn->Out:=(L3 (Ii "" (K6 (K3 (fun δ=>((A2 (b2 (vC (.int 1)) (C5 (A2 (A0 0) (A2 (b2 (A0 1) (vC (.int 4)) C9) (A2 (vC (.int 4)) A8))) A9) C9) A8) δ).bind Eg) E7 [0,1] O3 (b2 (vC (.str "ab cd~ <")) (C5 (A2 (A0 1) (A2 (b2 (A0 2) (A0 0) C9) (A2 (vC (.int 8)) A8))) A9) dIx)))))
noncomputable def Q0:List PyData->Res PyData:=fnD X3 Z3
noncomputable def X4:List Str:=["_law_book_here", "_law_found", "_law_deed_here"]
noncomputable def Z5:Dn->Out:=(C6 (E8 1 (K6 A8)) (C6 (N2 (fun δ=>((A0 0) δ).bind E9) (st1 2) (sIf (C3 (b2 (b2 (A0 2) (vC (.int 0)) dIx) (vC (.str "add")) dEq)) (E8 1 (b2 (A0 1) (K6 (K3 (fun δ=>((A2 (vFn (A2 (b2 (A0 2) (vC (.int 3)) dIx) A8) V6) A8) δ).bind Eg) E7 [2] O3 (E3 (A2 (b2 (A0 1) (vC (.int 1)) dIx) (A2 (A0 0) A8))))) C9)) F7)) (L3 (A0 1))))
noncomputable def K4:List PyData->Res PyData:=fnD X4 Z5
noncomputable def V1:List Str:=["_law_script", "_law_at", "_law_signs_here", "_law_sign"]
noncomputable def W7:Dn->Out:=(C6 (E8 3 (b2 (b2 (K6 (A2 (vC .none) A8)) (A0 2) C9) (C5 (A2 (A0 0) (A2 (A0 1) (A2 (b2 (vFn (A2 (A0 2) A8) V6) (vC (.int 1)) C9) A8))) A9) dIx)) (L3 (E3 (A2 (A0 3) (A2 (b2 (vC (.str "lr")) (C5 (A2 (A0 0) (A2 (b2 (A0 1) (vC (.int 1)) C9) (A2 (vC (.int 2)) A8))) A9) dIx) A8)))))
noncomputable def M1:List PyData->Res PyData:=fnD V1 W7
noncomputable def F9:List Str:=["_law_script", "_law_at", "_law_one", "_law_known", "_law_names_here", "_law_signs_here", "_law_way", "_law_behind", "_law_some", "_law_ends"]
noncomputable def Y6:Dn->Out:=(E8 5 (C5 (A2 (A0 3) A8) K4))
noncomputable def Y5:Dn->Out:=(E8 6 (C5 (A2 (A0 0) (A2 (A0 1) (A2 (vC (.int 12)) A8))) A9))
noncomputable def Y4:Dn->Out:=(sIf (T1 (C3 (b2 (A0 6) (vC (.int 2)) (P1 .Lt))) (C3 (b2 (A0 5) (K6 A8) dNe))) (C6 (dQ 8 (K3 (fun δ=>((A2 (A0 5) A8) δ).bind Mp) Iv [0,1] (C3 (b2 (C5 (A2 (A0 2) (A2 (b2 (b2 (A0 3) (vC (.int 20)) C9) (A0 0) C9) (A2 (vC (.int 4)) A8))) A9) (vC (.int 0)) dEq)) (A0 1))) (L3 (E3 (A2 (vC (.str "drop")) (A2 (A0 2) (A2 (vFn (A2 (b2 (A0 8) (b2 (vSl (A0 5) Bh (Bg (vC (.int 1)))) (vFn (A2 (b2 (A0 8) (K6 A8) dEq) A8) Pw) P3) C9) A8) Ep) A8)))))) F7)
noncomputable def Y3:Dn->Out:=(sIf (C3 (b2 (A0 6) (vC (.int 5)) (P1 .Lt))) (C6 (E8 9 (E3 (A2 (C5 (A2 (A0 0) (A2 (b2 (A0 1) (vC (.int 1)) C9) (A2 (A0 5) A8))) M1) (A2 (C5 (A2 (A0 0) (A2 (b2 (A0 1) (vC (.int 3)) C9) (A2 (A0 5) A8))) M1) A8)))) (L3 (b2 (E3 (A2 (vC (.str "mark")) (A2 (A0 2) (A2 (b2 (A0 4) (C5 (A2 (A0 0) (A2 (b2 (A0 1) (vC (.int 5)) C9) (A2 (vC (.int 3)) A8))) A9) dIx) A8)))) (A0 9) C9))) F7)
noncomputable def Y2:Dn->Out:=(sIf (C3 (b2 (A0 6) (vC (.int 5)) dEq)) (L3 (E3 (A2 (vC (.str "unmark")) (A2 (A0 2) (A2 (b2 (A0 4) (C5 (A2 (A0 0) (A2 (b2 (A0 1) (vC (.int 5)) C9) (A2 (vC (.int 3)) A8))) A9) dIx) A8))))) F7)
noncomputable def Y1:Dn->Out:=(sIf (T1 (C3 (b2 (A0 6) (vC (.int 8)) (P1 .Lt))) (C3 (b2 (A0 3) (E3 A8) dNe))) (L3 (E3 (A2 (vC (.str "undo")) (A2 (A0 2) (A2 (b2 (b2 (A0 3) (C5 (A2 (A0 0) (A2 (b2 (A0 1) (vC (.int 6)) C9) (A2 (vFn (A2 (A0 3) A8) V6) A8))) A9) dIx) (vC (.int 1)) dIx) A8))))) F7)
noncomputable def Y0:Dn->Out:=(E8 7 (b2 (b2 (b2 (K6 (A2 (vC .none) A8)) (A0 5) C9) (vSl (A0 5) (Bg (b1 (vC (.int 3)) Bm)) Bh) C9) (C5 (A2 (A0 0) (A2 (b2 (A0 1) (vC (.int 7)) C9) (A2 (b2 (b2 (vFn (A2 (A0 5) A8) V6) (vC (.int 1)) C9) (vFn (A2 (vSl (A0 5) (Bg (b1 (vC (.int 3)) Bm)) Bh) A8) V6) C9) A8))) A9) dIx))
noncomputable def X9:Dn->Out:=(L3 (E3 (A2 (vC (.str "add")) (A2 (A0 2) (A2 (A0 7) (A2 (C5 (A2 (A0 0) (A2 (b2 (A0 1) (vC (.int 8)) C9) A8)) Q0) A8))))))
noncomputable def Aw:Dn->Out:=(C6 Y6 (C6 Y5 (C6 Y4 (C6 Y3 (C6 Y2 (C6 Y1 (C6 Y0 X9)))))))
noncomputable def M7:List PyData->Res PyData:=fnD F9 Aw
noncomputable def M9:List Str:=["_law_script", "_law_at", "_law_most", "_law_names_here", "_law_found", "_law_one", "_law_k", "_law_time", "_law_hand", "_law_known"]
noncomputable def Z0:Dn->Out:=(E8 4 (E3 A8))
noncomputable def Y9:Dn->Out:=(E8 5 (E3 (A2 (vC (.int 1)) (A2 (vC (.str "a")) A8))))
noncomputable def Y8:Dn->Out:=(N2 (fun δ=>((A2 (C5 (A2 (A0 0) (A2 (A0 1) (A2 (b2 (A0 2) (vC (.int 1)) C9) A8))) A9) A8) δ).bind Eg) (st1 6) (C6 (E8 7 (b2 (b2 (A0 5) (vC (.int 0)) dIx) (C5 (A2 (A0 0) (A2 (b2 (b2 (A0 1) (vC (.int 1)) C9) (b2 (vC (.int 60)) (A0 6) P3) C9) (A2 (vC (.int 2)) A8))) A9) C9)) (C6 (E8 8 (b2 (vC (.str "abc")) (C5 (A2 (A0 0) (A2 (b2 (b2 (A0 1) (vC (.int 2)) C9) (b2 (vC (.int 60)) (A0 6) P3) C9) (A2 (vC (.int 3)) A8))) A9) dIx)) (C6 (sIf (T1 (C3 (b2 (A0 4) (E3 A8) dNe)) (C3 (b2 (E3 (A2 (A0 7) (A2 (A0 8) A8))) (A0 5) (P1 .LtE)))) (E8 7 (b2 (b2 (A0 5) (vC (.int 0)) dIx) (vC (.int 1)) C9)) F7) (C6 (E8 5 (E3 (A2 (A0 7) (A2 (A0 8) A8)))) (C6 (E8 9 (vFn (A2 (K6 (K3 (fun δ=>((A0 4) δ).bind E9) E7 [7] (C3 (b2 (b2 (b2 (A0 0) (vC (.int 1)) dIx) (vC (.int 0)) dIx) (A0 1) (P1 .Lt))) (A0 0))) A8) Ep)) (E8 4 (b2 (A0 4) (E3 (A2 (C5 (A2 (A0 0) (A2 (b2 (b2 (A0 1) (vC (.int 3)) C9) (b2 (vC (.int 60)) (A0 6) P3) C9) (A2 (A0 5) (A2 (A0 9) (A2 (A0 3) A8))))) M7) A8)) C9))))))))
noncomputable def Y7:Dn->Out:=(L3 (A0 4))
noncomputable def Ay:Dn->Out:=(C6 Z0 (C6 Y9 (C6 Y8 Y7)))
noncomputable def V4:List PyData->Res PyData:=fnD M9 Ay
noncomputable def N7:List Str:=["_law_book_here", "_law_found", "_law_deed_here", "_law_at"]
noncomputable def Cr:Dn->Out:=(E8 1 (K6 A8))
noncomputable def W1:Dn->Out:=(N2 (fun δ=>((A0 0) δ).bind E9) (st1 2) (sIf (C3 (b2 (b2 (A0 2) (vC (.int 0)) dIx) (vC (.str "add")) dEq)) (C6 (E8 3 (vIf (fun δ=>((b2 (A0 2) (vC (.int 2)) dIx) δ).bind fun d=>.ok (Mk d)) (vC (.int 0)) (b2 (Dw (A0 1) (b2 (A0 2) (vC (.int 2)) dIx)) (vC (.int 1)) C9))) (E8 1 (b2 (b2 (vSl (A0 1) Bh (Bg (A0 3))) (K6 (K3 (fun δ=>((A2 (vFn (A2 (b2 (A0 2) (vC (.int 3)) dIx) A8) V6) A8) δ).bind Eg) E7 [2] O3 (E3 (A2 (b2 (A0 1) (vC (.int 1)) dIx) (A2 (A0 0) A8))))) C9) (vSl (A0 1) (Bg (A0 3)) Bh) C9))) F7))
noncomputable def Cq:Dn->Out:=(L3 (A0 1))
noncomputable def Z6:Dn->Out:=(C6 Cr (C6 W1 Cq))
noncomputable def K5:List PyData->Res PyData:=fnD N7 Z6
noncomputable def U0:List Str:=["_law_book_here", "_law_off", "_law_deed_here"]
noncomputable def U7:Dn->Out:=(C6 (Hi 1 A8) (C6 (N2 (fun δ=>((b1 (A0 0) lK) δ).bind E9) (st1 2) (sIf (cFz 1 (T1 (C3 (b2 (b2 (A0 2) (vC (.int 0)) dIx) (vC (.str "undo")) dEq)) (C3 (b2 (b2 (A0 2) (vC (.int 1)) dIx) (A0 1) (dIn true))))) (Ae 1 (b2 (A0 2) (vC (.int 2)) dIx)) F7)) (sFz 1 (L3 (K6 (K3 (fun δ=>((A0 0) δ).bind E9) E7 [1] (C3 (b2 (b2 (A0 0) (vC (.int 1)) dIx) (A0 1) (dIn true))) (b2 (A0 0) (vC (.int 1)) dIx)))))))
noncomputable def F5:List PyData->Res PyData:=fnD U0 U7
noncomputable def L7:List Str:=["_law_book_here", "_law_there_here", "_law_gone", "_law_deed_here"]
noncomputable def Cp:Dn->Out:=(E8 1 (C5 (A2 (A0 0) A8) F5))
noncomputable def Co:Dn->Out:=(E8 2 (K6 A8))
noncomputable def W0:Dn->Out:=(N2 (fun δ=>((A0 0) δ).bind E9) (st1 3) (sIf (T1 (C3 (b2 (b2 (A0 3) (vC (.int 0)) dIx) (vC (.str "drop")) dEq)) (C3 (b2 (b2 (A0 3) (vC (.int 1)) dIx) (A0 1) (dIn false)))) (E8 2 (b2 (A0 2) (vFn (A2 (b2 (A0 3) (vC (.int 2)) dIx) A8) Hy) C9)) F7))
noncomputable def Cn:Dn->Out:=(L3 (K6 (K3 (fun δ=>((C5 (A2 (A0 0) A8) K5) δ).bind E9) E7 [1,2] (T1 (C3 (b2 (b2 (A0 0) (vC (.int 0)) dIx) (A0 1) (dIn false))) (C3 (b2 (A0 0) (A0 2) (dIn true)))) (A0 0))))
noncomputable def Z4:Dn->Out:=(C6 Cp (C6 Co (C6 W0 Cn)))
noncomputable def Q1:List PyData->Res PyData:=fnD L7 Z4
noncomputable def Ak:List Str:=["_law_book_here", "_law_signs_here", "_law_texts"]
noncomputable def Au:Dn->Out:=(C6 (Ct 2 (Wh (K6 (K3 (fun δ=>((A0 0) δ).bind E9) E7 [] (C3 (b2 (b2 (A0 0) (vC (.int 0)) dIx) (vC (.str "add")) dEq)) (E3 (A2 (b2 (A0 0) (vC (.int 1)) dIx) (A2 (b2 (A0 0) (vC (.int 3)) dIx) A8))))))) (L3 (Ii "" (K6 (K3 (fun δ=>((A0 1) δ).bind E9) E7 [2] O3 (b2 (cF 1 (b2 (A0 0) (vC (.int 0)) dIx)) (b2 (A0 0) (vC (.int 1)) dIx) dIx))))))
noncomputable def L4:List PyData->Res PyData:=fnD Ak Au
noncomputable def Dv:List Str:=["_law_e", "_law_flags"]
noncomputable def P4:List Str:=["_law_way", "_law_book_here", "_law_one", "_law_e"]
noncomputable def O5:Dn->Out:=(dP K1 K7)
noncomputable def C8:List PyData->Res PyData:=fnD P4 O5
noncomputable def P5:List Str:=["_law_there_here", "_law_text_here", "_law_found", "_law_sign", "_law_letter"]
noncomputable def Dd:Dn->Out:=(Hi 2 A8)
noncomputable def X8:Dn->Out:=(N2 (fun δ=>((A2 (A0 0) (A2 (A0 1) A8)) δ).bind Nh) (st2 3 4) (sIf (cFz 2 (T1 (C3 (b2 (A0 2) (K6 A8) dNe)) (C3 (b2 (b2 (b2 (A0 2) (b1 (vC (.int 1)) Bm) dIx) (vC (.int 0)) dIx) (b2 (b2 (A0 3) (vC (.int 0)) dIx) (vC (.int 1)) dIx) dEq)))) (Im 2 (b1 (vC (.int 1)) Bm) (E3 (A2 (b2 (b2 (A0 3) (vC (.int 0)) dIx) (vC (.int 1)) dIx) (A2 (vFz 2 (b2 (b2 (b2 (A0 2) (b1 (vC (.int 1)) Bm) dIx) (vC (.int 1)) dIx) (A0 4) C9)) A8)))) (Ae 2 (E3 (A2 (b2 (b2 (A0 3) (vC (.int 0)) dIx) (vC (.int 1)) dIx) (A2 (A0 4) A8))))))
noncomputable def Dc:Dn->Out:=(sFz 2 (L3 (A0 2)))
noncomputable def Av:Dn->Out:=(C6 Dd (C6 X8 Dc))
noncomputable def T3:List PyData->Res PyData:=fnD P5 Av
noncomputable def U4:List Str:=["_law_script", "_law_book_here", "_law_order_here", "_law_there_here", "_law_told_here", "_law_text_here", "_law_on", "_law_deed_here", "_law_sign", "_law_many", "_law_some", "_law_said"]
noncomputable def Sx:Dn->Out:=(E8 1 (C5 (A2 (A0 0) (A2 (vC (.int 10)) (A2 (vC (.int 9)) (A2 (C5 (A2 (A0 0) (A2 (vC (.int 0)) A8)) Q2) A8)))) V4))
noncomputable def Sw:Dn->Out:=(E8 2 (C5 (A2 (A0 1) A8) K5))
noncomputable def Sv:Dn->Out:=(E8 3 (C5 (A2 (A0 1) A8) Q1))
noncomputable def Ss:Dn->Out:=(E8 4 (C5 (A2 (A0 1) A8) N3))
noncomputable def Fz:Dn->Out:=(sIf (cOr (Ft (C3 (b1 (A0 4) fun d=>some (.bool (Oe "list" d))))) (C3 (b2 (A0 4) (Qn (A2 (A0 2) (A2 (C5 (A2 (A0 1) (A2 (A0 2) A8)) L4) A8))) dNe))) (L3 (vC (.bool false))) F7)
noncomputable def Sr:Dn->Out:=(E8 5 (C5 (A2 (A0 1) (A2 (A0 3) A8)) L4))
noncomputable def Fy:Dn->Out:=(sIf (cOr (C3 (b2 (C5 (A2 (A0 1) A8) X6) (A0 5) dNe)) (C3 (b2 (C5 (A2 (A0 1) A8) P9) (C5 (A2 (A0 3) (A2 (A0 5) A8)) T3) dNe))) (L3 (vC (.bool false))) F7)
noncomputable def Sq:Dn->Out:=(E8 6 (C5 (A2 (A0 1) A8) F5))
noncomputable def Fx:Dn->Out:=(N2 (fun δ=>((A0 1) δ).bind E9) (st1 7) (C6 (E8 11 (C5 (A2 (vC (.int 0)) (A2 (A0 1) (A2 (b2 (A0 7) (vC (.int 1)) dIx) A8))) C8)) (sIf (cOr (Ft (C3 (b1 (A0 11) fun d=>some (.bool (Oe "bool" d))))) (C3 (b2 (A0 11) (b2 (b2 (A0 7) (vC (.int 1)) dIx) (A0 6) (dIn false)) dNe))) (L3 (vC (.bool false))) F7)))
noncomputable def Fw:Dn->Out:=(N2 (fun δ=>((A0 2) δ).bind E9) (st1 8) (C6 (E8 11 (C5 (A2 (vC (.int 1)) (A2 (A0 1) (A2 (A0 8) A8))) C8)) (sIf (cOr (Ft (C3 (b1 (A0 11) fun d=>some (.bool (Oe "bool" d))))) (C3 (b2 (A0 11) (b2 (A0 8) (A0 3) (dIn false)) dNe))) (L3 (vC (.bool false))) F7)))
noncomputable def Ov:Dn->Out:=(E8 9 (vFn (A2 (C5 (A2 (A0 1) A8) K4) A8) V6))
noncomputable def Ou:Dn->Out:=(E8 10 (K6 (A2 (C5 (A2 (vC (.int 0)) (A2 (A0 1) (A2 (E3 (A2 (vC (.int 99)) (A2 (vC (.str "a")) A8))) A8))) C8) (A2 (C5 (A2 (vC (.int 0)) (A2 (A0 1) (A2 (E3 (A2 (vC (.int 1)) (A2 (vC (.str "h")) A8))) A8))) C8) (A2 (C5 (A2 (vC (.int 1)) (A2 (A0 1) (A2 (E3 (A2 (E3 (A2 (vC (.int 99)) (A2 (vC (.str "b")) A8))) (A2 (vC (.int 0)) A8))) A8))) C8) A8)))))
noncomputable def Dy:Dn->Out:=(sIf (C3 (b2 (A0 10) (K6 (A2 (E3 (A2 (vC (.str "refused")) (A2 (vC (.int 0)) A8))) (A2 (E3 (A2 (vC (.str "refused")) (A2 (vC (.int 0)) A8))) (A2 (E3 (A2 (vC (.str "refused")) (A2 (vC (.int 1)) A8))) A8)))) dNe)) (L3 (vC (.bool false))) F7)
noncomputable def Dx:Dn->Out:=(sIf (C3 (b2 (A0 9) (vC (.int 0)) dEq)) (L3 (vC (.bool true))) F7)
noncomputable def Hb:Dn->Out:=(L3 (b2 (C5 (A2 (vC (.int 1)) (A2 (A0 1) (A2 (E3 (A2 (b2 (b2 (A0 2) (vC (.int 0)) dIx) (vC (.int 0)) dIx) (A2 (vC (.int 20)) A8))) A8))) C8) (E3 (A2 (vC (.str "refused")) (A2 (vC (.int 1)) A8))) dEq))
noncomputable def Xo:Dn->Out:=(C6 Sx (C6 Sw (C6 Sv (C6 Ss (C6 Fz (C6 Sr (C6 Fy (C6 Sq (C6 Fx (C6 Fw (C6 Ov (C6 Ou (C6 Dy (C6 Dx Hb))))))))))))))
noncomputable def Ye:List PyData->Res PyData:=fnD U4 Xo
end Sm
end
noncomputable section
namespace Sm
open PySem PySem.Spec PyProof.Rows L2
variable {P:Program} {w:World} {K:PySem.W.Frag} {mg:Str->Option Value} {base:Heap} {X:Cx}
theorem Ln:FnScope Q7 ["deed"] (A5 (top 1)):=⟨rfl,rfl,rfl,by decide +kernel,rfl,by decide +kernel,by decide +kernel⟩
theorem Ia  (T:Txt mg) (C:Cxt P w K mg base X Q7 (A5 (top 1)) 0 true):DSs X E0k (B5 (top 1)) Q9 :=
 (B9 (K0 (Yo (Ev C (D3 (A4 C 0 (by kernel_rfl)) A7) M6) (Ds C (by kernel_rfl) T.b_len (A3 (D3 (A4 C 0 (by kernel_rfl)) A7) B0)) A7)))
theorem Lp:FnScope V0 ["book"] (A5 (top 8)):=⟨rfl,rfl,rfl,by decide +kernel,rfl,by decide +kernel,by decide +kernel⟩
theorem Ic  (T:Txt mg) (F_signs_added:Fn P w K mg base "signs_added" 1 1 D7) (C:Cxt P w K mg base X V0 (A5 (top 8)) 1 true):DSN X E0k (B5 (top 8)) W6 :=
 (Hq (Rc C 1 (by kernel_rfl)) (Hq (s_grp C 1 2 (by kernel_rfl) (by kernel_rfl) (Q3 (A4 C 0 (by kernel_rfl))) (t_gt C (D2 C F_signs_added (by decide) (by kernel_rfl) (A3 (A4 C 2 (by kernel_rfl)) B0)) A7) (D3 (A4 C 2 (by kernel_rfl)) A7) (A4 C 2 (by kernel_rfl)) ⟨rfl,rfl,rfl,rfl⟩ (fun _=>rfl) rfl rfl rfl rfl rfl rfl) (fJ C 1 (by kernel_rfl))))
theorem Te:FnScope N5 ["book"] (A5 (top 9)):=⟨rfl,rfl,rfl,by decide +kernel,rfl,by decide +kernel,by decide +kernel⟩
theorem Nt  (T:Txt mg) (F_adds_behind:FnN P w K mg base "adds_behind" 2 1 O6) (C:Cxt P w K mg base X N5 (A5 (top 9)) 2 true):DS X E0k (stm 9 0) Aq :=
 (Lr C 1 (by kernel_rfl) (fL C F_adds_behind (by decide) (by kernel_rfl) (A3 (A4 C 0 (by kernel_rfl)) B0)))
theorem Nr  (T:Txt mg) (C:Cxt P w K mg base X N5 (A5 (top 9)) 2 true):DS X E0k (stm 9 1) Ap :=
 (Vy C 2 (by kernel_rfl) (by kernel_rfl) [] [] (by kernel_rfl) (Q3 (gX C 1 (by kernel_rfl) Wv (O2 (T6 B0)))) (fun X' C'=>Db) (fun X' C'=>(I9 (A3 (A4 C' 0 (by kernel_rfl)) (A3 A7 B0)))))
theorem Nq  (T:Txt mg) (C:Cxt P w K mg base X N5 (A5 (top 9)) 2 true):DS X E0k (stm 9 2) Ek :=
 (Oy C 3 (by kernel_rfl) (T6 B0))
theorem Np  (T:Txt mg) (C:Cxt P w K mg base X N5 (A5 (top 9)) 2 true):DS X E0k (stm 9 3) Ao :=
 (iV C (t_own C 2 (by kernel_rfl)) (B4 (s_pop C 2 4 (by kernel_rfl) (by kernel_rfl)) (B4 (F6 C 5 (by kernel_rfl) (D3 (A4 C 4 (by kernel_rfl)) A7)) (B4 (F6 C 6 (by kernel_rfl) (D3 (A4 C 4 (by kernel_rfl)) A7)) (B4 (F6 C 7 (by kernel_rfl) (I9 (A3 (D3 (A4 C 5 (by kernel_rfl)) A7) (A3 (A4 C 6 (by kernel_rfl)) B0)))) (B4 (Ls C 3 (by kernel_rfl) (I9 (A3 (A4 C 7 (by kernel_rfl)) (A3 (D3 (D3 (A4 C 5 (by kernel_rfl)) A7) (A4 C 6 (by kernel_rfl))) B0)))) (B4 (X0 (cR C (D8 (A4 C 6 (by kernel_rfl)) A7) (Ds C (by kernel_rfl) T.b_len (A3 (D3 (A4 C 5 (by kernel_rfl)) A7) B0))) (B9 (Ls C 2 (by kernel_rfl) (I9 (A3 (A4 C 5 (by kernel_rfl)) (A3 (D8 (A4 C 6 (by kernel_rfl)) A7) B0))))) L0) (B9 (s_ext C 2 (by kernel_rfl) (S9 C [] [] (by kernel_rfl) (Q3 (gX C 1 (by kernel_rfl) (A4 C 7 (by kernel_rfl)) (O2 (T6 B0)))) (fun X' C'=>Db) (fun X' C'=>(I9 (A3 (A4 C' 0 (by kernel_rfl)) (A3 A7 B0))))))))))))))
theorem Nm  (T:Txt mg) (C:Cxt P w K mg base X N5 (A5 (top 9)) 2 true):DS X E0k (stm 9 4) Ej :=
 (Zz 3 (K0 (A4 C 3 (by kernel_rfl))))
theorem Oj  (T:Txt mg) (F_adds_behind:FnN P w K mg base "adds_behind" 2 1 O6) (C:Cxt P w K mg base X N5 (A5 (top 9)) 2 true):DSs X E0k (B5 (top 9)) Bt:=by
 have h:B5 (top 9)=[stm 9 0,stm 9 1,stm 9 2,stm 9 3,stm 9 4]:=by kernel_rfl
 rw [h]
 exact (B4 (Nt T F_adds_behind C) (B4 (Nr T C) (B4 (Nq T C) (B4 (Np T C) (B9 (Nm T C))))))
theorem Qu:FnScope Aj ["book"] (A5 (top 10)):=⟨rfl,rfl,rfl,by decide +kernel,rfl,by decide +kernel,by decide +kernel⟩
theorem Mx  (T:Txt mg) (C:Cxt P w K mg base X Aj (A5 (top 10)) 0 true):DSN X E0k (B5 (top 10)) Ar :=
 (Hq (Rc C 1 (by kernel_rfl)) (Hq (T8 C 2 (by kernel_rfl) (i_rev C (by kernel_rfl) T.b_reversed (A4 C 0 (by kernel_rfl))) (B9 (X0 (w_t (Ei (Ev C (D3 (A4 C 2 (by kernel_rfl)) A7) M6) (An (So C 1 (by kernel_rfl) (D3 (A4 C 2 (by kernel_rfl)) A7))))) (B9 (dJ C 1 (by kernel_rfl) (D3 (A4 C 2 (by kernel_rfl)) A7) Ce)) L0))) (fJ C 1 (by kernel_rfl))))
theorem Cy:FnScope L6 ["book", "which"] (A5 (top 11)):=⟨rfl,rfl,rfl,by decide +kernel,rfl,by decide +kernel,by decide +kernel⟩
theorem Bn  {CN:Addr} {Ex:XK} (O:ExcAt K mg "NoDeed" CN) (L:Lv X Ex) (hex:X.ex=[]) (T:Txt mg) (C:Cxt P w K mg base X L6 (A5 (top 11)) 0 true):DSs X (eX CN Ex) (B5 (top 11)) N1 :=
 (B9 (X0 (Jy C (A4 C 1 (by kernel_rfl)) (O2 (S9 C [] [] (by kernel_rfl) (Q3 (A4 C 0 (by kernel_rfl))) (fun X' C'=>Db) (fun X' C'=>(D3 (A4 C' 0 (by kernel_rfl)) A7))))) (B9 (Tj (p4:=⟨0,0,0,0⟩) C L hex C.room.gd O (by kernel_rfl) (A4 C 1 (by kernel_rfl)))) L0))
theorem Qv:FnScope V8 ["book", "which"] (A5 (top 12)):=⟨rfl,rfl,rfl,by decide +kernel,rfl,by decide +kernel,by decide +kernel⟩
theorem My  {CN:Addr} {Ex:XK} (O:ExcAt K mg "NoDeed" CN) (L:Lv X Ex) (hex:X.ex=[]) (T:Txt mg) (F_refuse_unless_deed:FnX P w K mg base CN "refuse_unless_deed" 1 2 E4) (F_undone_in:FnN P w K mg base "undone_in" 1 1 F8) (C:Cxt P w K mg base X V8 (A5 (top 12)) 1 true):DSs X (eX CN Ex) (B5 (top 12)) U9 :=
 (B4 (nQ (lI C L hex F_refuse_unless_deed (by decide) (by kernel_rfl) (A3 (A4 C 0 (by kernel_rfl)) (A3 (A4 C 1 (by kernel_rfl)) B0)))) (B9 (K0 (Uq C (A4 C 1 (by kernel_rfl)) (Yc C F_undone_in (by decide) (by kernel_rfl) (A3 (A4 C 0 (by kernel_rfl)) B0))))))
theorem Nu:FnScope X2 ["book", "undone"] (A5 (top 13)):=⟨rfl,rfl,rfl,by decide +kernel,rfl,by decide +kernel,by decide +kernel⟩
theorem Jp  (T:Txt mg) (C:Cxt P w K mg base X X2 (A5 (top 13)) 0 true):DSN X E0k (B5 (top 13)) Z1 :=
 (Hq (Rc C 2 (by kernel_rfl)) (Hq (T8 C 3 (by kernel_rfl) (Q3 (A4 C 0 (by kernel_rfl))) (B9 (X0 (w_t (Ei (Ev C (D3 (A4 C 3 (by kernel_rfl)) A7) M6) (An (So C 1 (by kernel_rfl) (D3 (A4 C 3 (by kernel_rfl)) A7))))) (B9 (T8 C 4 (by kernel_rfl) (Q3 (D3 (A4 C 3 (by kernel_rfl)) A7)) (B9 (dJ C 2 (by kernel_rfl) (A4 C 4 (by kernel_rfl)) Ce)))) L0))) (fJ C 2 (by kernel_rfl))))
theorem Lo:FnScope J3 ["book"] (A5 (top 14)):=⟨rfl,rfl,rfl,by decide +kernel,rfl,by decide +kernel,by decide +kernel⟩
theorem Hh  (T:Txt mg) (F_undone_in:FnN P w K mg base "undone_in" 1 1 F8) (C:Cxt P w K mg base X J3 (A5 (top 14)) 3 true):DS X E0k (stm 14 0) U6 :=
 (Lr C 1 (by kernel_rfl) (fL C F_undone_in (by decide) (by kernel_rfl) (A3 (A4 C 0 (by kernel_rfl)) B0)))
theorem Hg  (T:Txt mg) (F_dropped_in:FnSN P w K mg base "dropped_in" 1 2 F2) (C:Cxt P w K mg base X J3 (A5 (top 14)) 3 true):DS X E0k (stm 14 1) U5 :=
 (mE 1 (Lr C 2 (by kernel_rfl) (fK C F_dropped_in (by decide) (by kernel_rfl) (A4 C 0 (by kernel_rfl)) 1 (by kernel_rfl))))
theorem Hf  (T:Txt mg) (C:Cxt P w K mg base X J3 (A5 (top 14)) 3 true):DS X E0k (stm 14 2) Bd :=
 (Oy C 3 (by kernel_rfl) (T6 B0))
theorem He  (T:Txt mg) (F_signs_of:Fn P w K mg base "signs_of" 3 1 N3) (C:Cxt P w K mg base X J3 (A5 (top 14)) 3 true):DS X E0k (stm 14 3) P6 :=
 (T8 C 4 (by kernel_rfl) (Q3 (D2 C F_signs_of (by decide) (by kernel_rfl) (A3 (A4 C 0 (by kernel_rfl)) B0))) (B9 (Ls C 3 (by kernel_rfl) (I9 (A3 (A4 C 4 (by kernel_rfl)) (A3 (mX (Ms C 1 (by kernel_rfl) (D3 (D3 (A4 C 4 (by kernel_rfl)) A7) A7)) (mU (Ms C 2 (by kernel_rfl) (D3 (A4 C 4 (by kernel_rfl)) A7)))) B0))))))
theorem Hd  (T:Txt mg) (C:Cxt P w K mg base X J3 (A5 (top 14)) 3 true):DS X E0k (stm 14 4) Bc :=
 (Zz 3 (K0 (A4 C 3 (by kernel_rfl))))
theorem Ib  (T:Txt mg) (F_dropped_in:FnSN P w K mg base "dropped_in" 1 2 F2) (F_signs_of:Fn P w K mg base "signs_of" 3 1 N3) (F_undone_in:FnN P w K mg base "undone_in" 1 1 F8) (C:Cxt P w K mg base X J3 (A5 (top 14)) 3 true):DSs X E0k (B5 (top 14)) W5:=by
 have h:B5 (top 14)=[stm 14 0,stm 14 1,stm 14 2,stm 14 3,stm 14 4]:=by kernel_rfl
 rw [h]
 exact (B4 (Hh T F_undone_in C) (B4 (Hg T F_dropped_in C) (B4 (Hf T C) (B4 (He T F_signs_of C) (B9 (Hd T C))))))
theorem Tf:FnScope Cj ["book"] (A5 (top 15)):=⟨rfl,rfl,rfl,by decide +kernel,rfl,by decide +kernel,by decide +kernel⟩
theorem Ol  (T:Txt mg) (F_presence_in:Fn P w K mg base "presence_in" 4 1 Q6) (C:Cxt P w K mg base X Cj (A5 (top 15)) 4 true):DSs X E0k (B5 (top 15)) Bu :=
 (B9 (K0 (O2 (S9 C [] [] (by kernel_rfl) (Q3 (D2 C F_presence_in (by decide) (by kernel_rfl) (A3 (A4 C 0 (by kernel_rfl)) B0))) (fun X' C'=>(Ha (Ot (D3 (A4 C' 0 (by kernel_rfl)) A7)))) (fun X' C'=>(D3 (A4 C' 0 (by kernel_rfl)) A7))))))
theorem Vx:FnScope Ef ["book"] (A5 (top 16)):=⟨rfl,rfl,rfl,by decide +kernel,rfl,by decide +kernel,by decide +kernel⟩
theorem Se  (T:Txt mg) (F_shown_in:Fn P w K mg base "shown_in" 5 1 N4) (C:Cxt P w K mg base X Ef (A5 (top 16)) 5 true):DSs X E0k (B5 (top 16)) Df :=
 (B9 (K0 (Ww (O2 (S9 C [] [] (by kernel_rfl) (Q3 (D2 C F_shown_in (by decide) (by kernel_rfl) (A3 (A4 C 0 (by kernel_rfl)) B0))) (fun X' C'=>Db) (fun X' C'=>(D3 (A4 C' 0 (by kernel_rfl)) A7)))))))
theorem Th:FnScope Ab ["book", "sign"] (A5 (top 17)):=⟨rfl,rfl,rfl,by decide +kernel,rfl,by decide +kernel,by decide +kernel⟩
theorem On  (T:Txt mg) (F_signs_added:Fn P w K mg base "signs_added" 1 1 D7) (C:Cxt P w K mg base X Ab (A5 (top 17)) 1 true):DSs X E0k (B5 (top 17)) W9 :=
 (B4 (T8 C 2 (by kernel_rfl) (Q3 (A4 C 0 (by kernel_rfl))) (B9 (X0 (Ev C (D3 (A4 C 2 (by kernel_rfl)) A7) (D3 (A4 C 1 (by kernel_rfl)) A7)) (B9 (K0 (Ur C A7 (D3 (A4 C 1 (by kernel_rfl)) A7) (D2 C F_signs_added (by decide) (by kernel_rfl) (A3 (A4 C 2 (by kernel_rfl)) B0))))) L0))) (B9 (K0 Ce)))
theorem Tg:FnScope Aa ["book", "sign"] (A5 (top 18)):=⟨rfl,rfl,rfl,by decide +kernel,rfl,by decide +kernel,by decide +kernel⟩
theorem Om  {CN:Addr} {Ex:XK} (O:ExcAt K mg "NoSign" CN) (L:Lv X Ex) (hex:X.ex=[]) (T:Txt mg) (F_dropped_in:FnSN P w K mg base "dropped_in" 1 2 F2) (F_has_sign:Fn P w K mg base "has_sign" 2 2 M0) (F_undone_in:FnN P w K mg base "undone_in" 1 1 F8) (C:Cxt P w K mg base X Aa (A5 (top 18)) 2 true):DSs X (eX CN Ex) (B5 (top 18)) W8 :=
 (B4 (X0 (Xi (Ot (lJ C F_has_sign (by decide) (by kernel_rfl) (A3 (A4 C 0 (by kernel_rfl)) (A3 (A4 C 1 (by kernel_rfl)) B0))))) (B9 (Tj (p4:=⟨0,0,0,0⟩) C L hex C.room.gd O (by kernel_rfl) (A4 C 1 (by kernel_rfl)))) L0) (B4 (Lr C 2 (by kernel_rfl) (Yc C F_undone_in (by decide) (by kernel_rfl) (A3 (A4 C 0 (by kernel_rfl)) B0))) (B9 (mE 2 (K0 (mX (Ms C 2 (by kernel_rfl) (D3 (A4 C 1 (by kernel_rfl)) A7)) (mU (Uq C (A4 C 1 (by kernel_rfl)) (aM C F_dropped_in (by decide) (by kernel_rfl) (A4 C 0 (by kernel_rfl)) 2 (by kernel_rfl))))))))))
theorem Nv:FnScope N6 ["book"] (A5 (top 19)):=⟨rfl,rfl,rfl,by decide +kernel,rfl,by decide +kernel,by decide +kernel⟩
theorem Iz  (T:Txt mg) (C:Cxt P w K mg base X N6 (A5 (top 19)) 5 true):DS X E0k (stm 19 0) Cm :=
 (Oy C 1 (by kernel_rfl) (T6 B0))
theorem Iy  (T:Txt mg) (F_shown_in:Fn P w K mg base "shown_in" 5 1 N4) (C:Cxt P w K mg base X N6 (A5 (top 19)) 5 true):DS X E0k (stm 19 1) V9 :=
 (T8 C 2 (by kernel_rfl) (Q3 (D2 C F_shown_in (by decide) (by kernel_rfl) (A3 (A4 C 0 (by kernel_rfl)) B0))) (B4 (F6 C 3 (by kernel_rfl) (D3 (D3 (D3 (A4 C 2 (by kernel_rfl)) A7) A7) A7)) (B9 (X0 (Vs 1 (w_t (Ei (Ot (A4 C 1 (by kernel_rfl))) (An (Ev C (D3 (D3 (A4 C 1 (by kernel_rfl)) (Ir A7)) A7) (A4 C 3 (by kernel_rfl))))))) (B9 (dL C 1 (by kernel_rfl) (Ir A7) (I9 (A3 (A4 C 3 (by kernel_rfl)) (A3 (gV 1 (D8 (D3 (D3 (A4 C 1 (by kernel_rfl)) (Ir A7)) A7) (D3 (A4 C 2 (by kernel_rfl)) A7))) B0))))) (B9 (Ls C 1 (by kernel_rfl) (I9 (A3 (A4 C 3 (by kernel_rfl)) (A3 (D3 (A4 C 2 (by kernel_rfl)) A7) B0)))))))))
theorem Iw  (T:Txt mg) (C:Cxt P w K mg base X N6 (A5 (top 19)) 5 true):DS X E0k (stm 19 2) Cl :=
 (Zz 1 (K0 (A4 C 1 (by kernel_rfl))))
theorem Jq  (T:Txt mg) (F_shown_in:Fn P w K mg base "shown_in" 5 1 N4) (C:Cxt P w K mg base X N6 (A5 (top 19)) 5 true):DSs X E0k (B5 (top 19)) Z2:=by
 have h:B5 (top 19)=[stm 19 0,stm 19 1,stm 19 2]:=by kernel_rfl
 rw [h]
 exact (B4 (Iz T C) (B4 (Iy T F_shown_in C) (B9 (Iw T C))))
theorem Ra:FnScope Al ["_law_script", "_law_k"] (A5 (top 21)):=⟨rfl,rfl,rfl,by decide +kernel,rfl,by decide +kernel,by decide +kernel⟩
theorem Nd  (T:Txt mg) (C:Cxt P w K mg base X Al (A5 (top 21)) 0 true):DSs X E0k (B5 (top 21)) Ax :=
 (B4 (X0 (Ev C (A4 C 0 (by kernel_rfl)) (O2 (T6 B0))) (B9 (K0 (Bl A7 (A4 C 1 (by kernel_rfl))))) L0) (B9 (K0 (D8 (D3 (A4 C 0 (by kernel_rfl)) (Pu (A4 C 1 (by kernel_rfl)) (Ds C (by kernel_rfl) T.b_len (A3 (A4 C 0 (by kernel_rfl)) B0)))) (Bl A7 (Ry (A4 C 1 (by kernel_rfl)) (Ds C (by kernel_rfl) T.b_len (A3 (A4 C 0 (by kernel_rfl)) B0))))))))
theorem Ob:FnScope X5 ["_law_script", "_law_k", "_law_many"] (A5 (top 22)):=⟨rfl,rfl,rfl,by decide +kernel,rfl,by decide +kernel,by decide +kernel⟩
theorem Jw  (T:Txt mg) (F__law_cell:Fn P w K mg base "_law_cell" 1 2 V3) (C:Cxt P w K mg base X X5 (A5 (top 22)) 1 true):DSs X E0k (B5 (top 22)) Z8 :=
 (B4 (F6 C 3 (by kernel_rfl) (Pu (D8 (Bl (Pu (D2 C F__law_cell (by decide) (by kernel_rfl) (A3 (A4 C 0 (by kernel_rfl)) (A3 (A4 C 1 (by kernel_rfl)) B0))) A7) A7) (Bl A7 (D8 (A4 C 1 (by kernel_rfl)) A7))) A7)) (B4 (F6 C 3 (by kernel_rfl) (Pu (D8 (Bl (A4 C 3 (by kernel_rfl)) (A4 C 3 (by kernel_rfl))) (Ry (A4 C 3 (by kernel_rfl)) A7)) A7)) (B9 (K0 (Pu (Ry (Pu (D8 (Bl (A4 C 3 (by kernel_rfl)) (A4 C 3 (by kernel_rfl))) (Ry (A4 C 3 (by kernel_rfl)) A7)) A7) A7) (A4 C 2 (by kernel_rfl)))))))
theorem Oa:FnScope N8 ["_law_script", "_law_at"] (A5 (top 23)):=⟨rfl,rfl,rfl,by decide +kernel,rfl,by decide +kernel,by decide +kernel⟩
theorem Jj  (T:Txt mg) (C:Cxt P w K mg base X N8 (A5 (top 23)) 2 true):DS X E0k (stm 23 0) W4 :=
 (Oy C 2 (by kernel_rfl) (T6 B0))
theorem Ji  (T:Txt mg) (F__law_drawn:Fn P w K mg base "_law_drawn" 2 3 A9) (C:Cxt P w K mg base X N8 (A5 (top 23)) 2 true):DS X E0k (stm 23 1) W3 :=
 (T8 C 3 (by kernel_rfl) (Dl C (by kernel_rfl) T.b_range (A3 A7 B0)) (B4 (F6 C 4 (by kernel_rfl) (Bl (D3 M6 (D2 C F__law_drawn (by decide) (by kernel_rfl) (A3 (A4 C 0 (by kernel_rfl)) (A3 (D8 (A4 C 1 (by kernel_rfl)) (Bl A7 (A4 C 3 (by kernel_rfl)))) (A3 A7 B0))))) (D2 C F__law_drawn (by decide) (by kernel_rfl) (A3 (A4 C 0 (by kernel_rfl)) (A3 (D8 (D8 (A4 C 1 (by kernel_rfl)) (Bl A7 (A4 C 3 (by kernel_rfl)))) A7) (A3 A7 B0)))))) (B9 (Ls C 2 (by kernel_rfl) (D3 (O2 (T6 (A3 (D8 (A4 C 4 (by kernel_rfl)) (D3 M6 (A4 C 3 (by kernel_rfl)))) (A3 (D8 (D3 M6 (A4 C 3 (by kernel_rfl))) (A4 C 4 (by kernel_rfl))) B0)))) (D2 C F__law_drawn (by decide) (by kernel_rfl) (A3 (A4 C 0 (by kernel_rfl)) (A3 (D8 (A4 C 1 (by kernel_rfl)) A7) (A3 A7 B0)))))))))
theorem Jh  (T:Txt mg) (C:Cxt P w K mg base X N8 (A5 (top 23)) 2 true):DS X E0k (stm 23 2) W2 :=
 (Zz 2 (K0 (A4 C 2 (by kernel_rfl))))
theorem Jv  (T:Txt mg) (F__law_drawn:Fn P w K mg base "_law_drawn" 2 3 A9) (C:Cxt P w K mg base X N8 (A5 (top 23)) 2 true):DSs X E0k (B5 (top 23)) Z7:=by
 have h:B5 (top 23)=[stm 23 0,stm 23 1,stm 23 2]:=by kernel_rfl
 rw [h]
 exact (B4 (Jj T C) (B4 (Ji T F__law_drawn C) (B9 (Jh T C))))
theorem Nw:FnScope X3 ["_law_script", "_law_at"] (A5 (top 24)):=⟨rfl,rfl,rfl,by decide +kernel,rfl,by decide +kernel,by decide +kernel⟩
theorem Jr  (T:Txt mg) (F__law_drawn:Fn P w K mg base "_law_drawn" 2 3 A9) (C:Cxt P w K mg base X X3 (A5 (top 24)) 2 true):DSs X E0k (B5 (top 24)) Z3 :=
 (B9 (K0 (Ww (O2 (S9 C [0,1] ["_law_script", "_law_at"] (by kernel_rfl) (Dl C (by kernel_rfl) T.b_range (A3 (D8 A7 (D2 C F__law_drawn (by decide) (by kernel_rfl) (A3 (A4 C 0 (by kernel_rfl)) (A3 (D8 (A4 C 1 (by kernel_rfl)) A7) (A3 A7 B0))))) B0)) (fun X' C'=>Db) (fun X' C'=>(D3 M6 (D2 C' F__law_drawn (by decide) (by kernel_rfl) (A3 (A4 C' 1 (by kernel_rfl)) (A3 (D8 (A4 C' 2 (by kernel_rfl)) (A4 C' 0 (by kernel_rfl))) (A3 A7 B0)))))))))))
theorem Ny:FnScope X4 ["_law_book_here"] (A5 (top 25)):=⟨rfl,rfl,rfl,by decide +kernel,rfl,by decide +kernel,by decide +kernel⟩
theorem Jt  (T:Txt mg) (C:Cxt P w K mg base X X4 (A5 (top 25)) 0 true):DSs X E0k (B5 (top 25)) Z5 :=
 (B4 (F6 C 1 (by kernel_rfl) (O2 (T6 B0))) (B4 (T8 C 2 (by kernel_rfl) (Q3 (A4 C 0 (by kernel_rfl))) (B9 (X0 (Ev C (D3 (A4 C 2 (by kernel_rfl)) A7) M6) (B9 (F6 C 1 (by kernel_rfl) (D8 (A4 C 1 (by kernel_rfl)) (O2 (S9 C [2] ["_law_deed_here"] (by kernel_rfl) (Dl C (by kernel_rfl) T.b_range (A3 (Ds C (by kernel_rfl) T.b_len (A3 (D3 (A4 C 2 (by kernel_rfl)) A7) B0)) B0)) (fun X' C'=>Db) (fun X' C'=>(I9 (A3 (D3 (A4 C' 1 (by kernel_rfl)) A7) (A3 (A4 C' 0 (by kernel_rfl)) B0))))))))) L0))) (B9 (K0 (A4 C 1 (by kernel_rfl))))))
theorem Lq:FnScope V1 ["_law_script", "_law_at", "_law_signs_here"] (A5 (top 26)):=⟨rfl,rfl,rfl,by decide +kernel,rfl,by decide +kernel,by decide +kernel⟩
theorem Ie  (T:Txt mg) (F__law_drawn:Fn P w K mg base "_law_drawn" 2 3 A9) (C:Cxt P w K mg base X V1 (A5 (top 26)) 2 true):DSs X E0k (B5 (top 26)) W7 :=
 (B4 (F6 C 3 (by kernel_rfl) (D3 (D8 (O2 (T6 (A3 Wv B0))) (A4 C 2 (by kernel_rfl))) (D2 C F__law_drawn (by decide) (by kernel_rfl) (A3 (A4 C 0 (by kernel_rfl)) (A3 (A4 C 1 (by kernel_rfl)) (A3 (D8 (Ds C (by kernel_rfl) T.b_len (A3 (A4 C 2 (by kernel_rfl)) B0)) A7) B0)))))) (B9 (K0 (I9 (A3 (A4 C 3 (by kernel_rfl)) (A3 (D3 M6 (D2 C F__law_drawn (by decide) (by kernel_rfl) (A3 (A4 C 0 (by kernel_rfl)) (A3 (D8 (A4 C 1 (by kernel_rfl)) A7) (A3 A7 B0))))) B0))))))
theorem Qz:FnScope F9 ["_law_script", "_law_at", "_law_one", "_law_known", "_law_names_here"] (A5 (top 27)):=⟨rfl,rfl,rfl,by decide +kernel,rfl,by decide +kernel,by decide +kernel⟩
theorem Lf  (T:Txt mg) (F__law_signs:Fn P w K mg base "_law_signs" 1 1 K4) (C:Cxt P w K mg base X F9 (A5 (top 27)) 3 true):DS X E0k (stm 27 0) Y6 :=
 (F6 C 5 (by kernel_rfl) (D2 C F__law_signs (by decide) (by kernel_rfl) (A3 (A4 C 3 (by kernel_rfl)) B0)))
theorem Le  (T:Txt mg) (F__law_drawn:Fn P w K mg base "_law_drawn" 2 3 A9) (C:Cxt P w K mg base X F9 (A5 (top 27)) 3 true):DS X E0k (stm 27 1) Y5 :=
 (F6 C 6 (by kernel_rfl) (D2 C F__law_drawn (by decide) (by kernel_rfl) (A3 (A4 C 0 (by kernel_rfl)) (A3 (A4 C 1 (by kernel_rfl)) (A3 A7 B0)))))
theorem Ld  (T:Txt mg) (F__law_drawn:Fn P w K mg base "_law_drawn" 2 3 A9) (C:Cxt P w K mg base X F9 (A5 (top 27)) 3 true):DS X E0k (stm 27 2) Y4 :=
 (X0 (w_t (Ei (cR C (A4 C 6 (by kernel_rfl)) A7) (An (Nk C (A4 C 5 (by kernel_rfl)) (O2 (T6 B0)))))) (B4 (Vz C 8 (by kernel_rfl) (by kernel_rfl) [0,1] ["_law_script", "_law_at"] (by kernel_rfl) (pP C (by kernel_rfl) T.b_enumerate (A3 (A4 C 5 (by kernel_rfl)) B0)) (fun X' C'=>(Ha (Ev C' (D2 C' F__law_drawn (by decide) (by kernel_rfl) (A3 (A4 C' 2 (by kernel_rfl)) (A3 (D8 (D8 (A4 C' 3 (by kernel_rfl)) A7) (A4 C' 0 (by kernel_rfl))) (A3 A7 B0)))) A7))) (fun X' C'=>(A4 C' 1 (by kernel_rfl)))) (B9 (K0 (I9 (A3 M6 (A3 (A4 C 2 (by kernel_rfl)) (A3 (gU C (by kernel_rfl) T.b_tuple (A3 (D8 (A4 C 8 (by kernel_rfl)) (Bl (Gs (A4 C 5 (by kernel_rfl)) Mf (Me A7)) (pY C (by kernel_rfl) T.b_int (A3 (d_eq C (A4 C 8 (by kernel_rfl)) (O2 (T6 B0))) B0)))) B0)) B0))))))) L0)
theorem Lc  (T:Txt mg) (F__law_anchor:Fn P w K mg base "_law_anchor" 3 3 M1) (F__law_drawn:Fn P w K mg base "_law_drawn" 2 3 A9) (C:Cxt P w K mg base X F9 (A5 (top 27)) 3 true):DS X E0k (stm 27 3) Y3 :=
 (X0 (cR C (A4 C 6 (by kernel_rfl)) A7) (B4 (F6 C 9 (by kernel_rfl) (I9 (A3 (D2 C F__law_anchor (by decide) (by kernel_rfl) (A3 (A4 C 0 (by kernel_rfl)) (A3 (D8 (A4 C 1 (by kernel_rfl)) A7) (A3 (A4 C 5 (by kernel_rfl)) B0)))) (A3 (D2 C F__law_anchor (by decide) (by kernel_rfl) (A3 (A4 C 0 (by kernel_rfl)) (A3 (D8 (A4 C 1 (by kernel_rfl)) A7) (A3 (A4 C 5 (by kernel_rfl)) B0)))) B0)))) (B9 (K0 (D8 (I9 (A3 M6 (A3 (A4 C 2 (by kernel_rfl)) (A3 (D3 (A4 C 4 (by kernel_rfl)) (D2 C F__law_drawn (by decide) (by kernel_rfl) (A3 (A4 C 0 (by kernel_rfl)) (A3 (D8 (A4 C 1 (by kernel_rfl)) A7) (A3 A7 B0))))) B0)))) (A4 C 9 (by kernel_rfl)))))) L0)
theorem Lb  (T:Txt mg) (F__law_drawn:Fn P w K mg base "_law_drawn" 2 3 A9) (C:Cxt P w K mg base X F9 (A5 (top 27)) 3 true):DS X E0k (stm 27 4) Y2 :=
 (X0 (Ev C (A4 C 6 (by kernel_rfl)) A7) (B9 (K0 (I9 (A3 M6 (A3 (A4 C 2 (by kernel_rfl)) (A3 (D3 (A4 C 4 (by kernel_rfl)) (D2 C F__law_drawn (by decide) (by kernel_rfl) (A3 (A4 C 0 (by kernel_rfl)) (A3 (D8 (A4 C 1 (by kernel_rfl)) A7) (A3 A7 B0))))) B0)))))) L0)
theorem La  (T:Txt mg) (F__law_drawn:Fn P w K mg base "_law_drawn" 2 3 A9) (C:Cxt P w K mg base X F9 (A5 (top 27)) 3 true):DS X E0k (stm 27 5) Y1 :=
 (X0 (w_t (Ei (cR C (A4 C 6 (by kernel_rfl)) A7) (An (Nk C (A4 C 3 (by kernel_rfl)) (I9 B0))))) (B9 (K0 (I9 (A3 M6 (A3 (A4 C 2 (by kernel_rfl)) (A3 (D3 (D3 (A4 C 3 (by kernel_rfl)) (D2 C F__law_drawn (by decide) (by kernel_rfl) (A3 (A4 C 0 (by kernel_rfl)) (A3 (D8 (A4 C 1 (by kernel_rfl)) A7) (A3 (Ds C (by kernel_rfl) T.b_len (A3 (A4 C 3 (by kernel_rfl)) B0)) B0))))) A7) B0)))))) L0)
theorem Kz  (T:Txt mg) (F__law_drawn:Fn P w K mg base "_law_drawn" 2 3 A9) (C:Cxt P w K mg base X F9 (A5 (top 27)) 3 true):DS X E0k (stm 27 6) Y0 :=
 (F6 C 7 (by kernel_rfl) (D3 (D8 (D8 (O2 (T6 (A3 Wv B0))) (A4 C 5 (by kernel_rfl))) (Gs (A4 C 5 (by kernel_rfl)) (Me (Ir A7)) Mf)) (D2 C F__law_drawn (by decide) (by kernel_rfl) (A3 (A4 C 0 (by kernel_rfl)) (A3 (D8 (A4 C 1 (by kernel_rfl)) A7) (A3 (D8 (D8 (Ds C (by kernel_rfl) T.b_len (A3 (A4 C 5 (by kernel_rfl)) B0)) A7) (Ds C (by kernel_rfl) T.b_len (A3 (Gs (A4 C 5 (by kernel_rfl)) (Me (Ir A7)) Mf) B0))) B0))))))
theorem Ky  (T:Txt mg) (F__law_words:Fn P w K mg base "_law_words" 3 2 Q0) (C:Cxt P w K mg base X F9 (A5 (top 27)) 3 true):DS X E0k (stm 27 7) X9 :=
 (K0 (I9 (A3 M6 (A3 (A4 C 2 (by kernel_rfl)) (A3 (A4 C 7 (by kernel_rfl)) (A3 (D2 C F__law_words (by decide) (by kernel_rfl) (A3 (A4 C 0 (by kernel_rfl)) (A3 (D8 (A4 C 1 (by kernel_rfl)) A7) B0))) B0))))))
theorem Nc  (T:Txt mg) (F__law_anchor:Fn P w K mg base "_law_anchor" 3 3 M1) (F__law_drawn:Fn P w K mg base "_law_drawn" 2 3 A9) (F__law_signs:Fn P w K mg base "_law_signs" 1 1 K4) (F__law_words:Fn P w K mg base "_law_words" 3 2 Q0) (C:Cxt P w K mg base X F9 (A5 (top 27)) 3 true):DSs X E0k (B5 (top 27)) Aw:=by
 have h:B5 (top 27)=[stm 27 0,stm 27 1,stm 27 2,stm 27 3,stm 27 4,stm 27 5,stm 27 6,stm 27 7]:=by kernel_rfl
 rw [h]
 exact (B4 (Lf T F__law_signs C) (B4 (Le T F__law_drawn C) (B4 (Ld T F__law_drawn C) (B4 (Lc T F__law_anchor F__law_drawn C) (B4 (Lb T F__law_drawn C) (B4 (La T F__law_drawn C) (B4 (Kz T F__law_drawn C) (B9 (Ky T F__law_words C)))))))))
theorem Rb:FnScope M9 ["_law_script", "_law_at", "_law_most", "_law_names_here"] (A5 (top 28)):=⟨rfl,rfl,rfl,by decide +kernel,rfl,by decide +kernel,by decide +kernel⟩
theorem Lj  (T:Txt mg) (C:Cxt P w K mg base X M9 (A5 (top 28)) 4 true):DS X E0k (stm 28 0) Z0 :=
 (F6 C 4 (by kernel_rfl) (I9 B0))
theorem Li  (T:Txt mg) (C:Cxt P w K mg base X M9 (A5 (top 28)) 4 true):DS X E0k (stm 28 1) Y9 :=
 (F6 C 5 (by kernel_rfl) (I9 (A3 A7 (A3 M6 B0))))
theorem Lh  (T:Txt mg) (F__law_deed:Fn P w K mg base "_law_deed" 4 5 M7) (F__law_drawn:Fn P w K mg base "_law_drawn" 2 3 A9) (C:Cxt P w K mg base X M9 (A5 (top 28)) 4 true):DS X E0k (stm 28 2) Y8 :=
 (T8 C 6 (by kernel_rfl) (Dl C (by kernel_rfl) T.b_range (A3 (D2 C F__law_drawn (by decide) (by kernel_rfl) (A3 (A4 C 0 (by kernel_rfl)) (A3 (A4 C 1 (by kernel_rfl)) (A3 (D8 (A4 C 2 (by kernel_rfl)) A7) B0)))) B0)) (B4 (F6 C 7 (by kernel_rfl) (D8 (D3 (A4 C 5 (by kernel_rfl)) A7) (D2 C F__law_drawn (by decide) (by kernel_rfl) (A3 (A4 C 0 (by kernel_rfl)) (A3 (D8 (D8 (A4 C 1 (by kernel_rfl)) A7) (Bl A7 (A4 C 6 (by kernel_rfl)))) (A3 A7 B0)))))) (B4 (F6 C 8 (by kernel_rfl) (D3 M6 (D2 C F__law_drawn (by decide) (by kernel_rfl) (A3 (A4 C 0 (by kernel_rfl)) (A3 (D8 (D8 (A4 C 1 (by kernel_rfl)) A7) (Bl A7 (A4 C 6 (by kernel_rfl)))) (A3 A7 B0)))))) (B4 (X0 (w_t (Ei (Nk C (A4 C 4 (by kernel_rfl)) (I9 B0)) (An (t_le C (I9 (A3 (A4 C 7 (by kernel_rfl)) (A3 (A4 C 8 (by kernel_rfl)) B0))) (A4 C 5 (by kernel_rfl)))))) (B9 (F6 C 7 (by kernel_rfl) (D8 (D3 (A4 C 5 (by kernel_rfl)) A7) A7))) L0) (B4 (F6 C 5 (by kernel_rfl) (I9 (A3 (A4 C 7 (by kernel_rfl)) (A3 (A4 C 8 (by kernel_rfl)) B0)))) (B4 (F6 C 9 (by kernel_rfl) (gU C (by kernel_rfl) T.b_tuple (A3 (O2 (S9 C [7] ["_law_time"] (by kernel_rfl) (Q3 (A4 C 4 (by kernel_rfl))) (fun X' C'=>(Ha (cR C' (D3 (D3 (A4 C' 0 (by kernel_rfl)) A7) A7) (A4 C' 1 (by kernel_rfl))))) (fun X' C'=>(A4 C' 0 (by kernel_rfl))))) B0))) (B9 (F6 C 4 (by kernel_rfl) (D8 (A4 C 4 (by kernel_rfl)) (I9 (A3 (D2 C F__law_deed (by decide) (by kernel_rfl) (A3 (A4 C 0 (by kernel_rfl)) (A3 (D8 (D8 (A4 C 1 (by kernel_rfl)) A7) (Bl A7 (A4 C 6 (by kernel_rfl)))) (A3 (A4 C 5 (by kernel_rfl)) (A3 (A4 C 9 (by kernel_rfl)) (A3 (A4 C 3 (by kernel_rfl)) B0)))))) B0)))))))))))
theorem Lg  (T:Txt mg) (C:Cxt P w K mg base X M9 (A5 (top 28)) 4 true):DS X E0k (stm 28 3) Y7 :=
 (K0 (A4 C 4 (by kernel_rfl)))
theorem Nf  (T:Txt mg) (F__law_deed:Fn P w K mg base "_law_deed" 4 5 M7) (F__law_drawn:Fn P w K mg base "_law_drawn" 2 3 A9) (C:Cxt P w K mg base X M9 (A5 (top 28)) 4 true):DSs X E0k (B5 (top 28)) Ay:=by
 have h:B5 (top 28)=[stm 28 0,stm 28 1,stm 28 2,stm 28 3]:=by kernel_rfl
 rw [h]
 exact (B4 (Lj T C) (B4 (Li T C) (B4 (Lh T F__law_deed F__law_drawn C) (B9 (Lg T C)))))
theorem Nz:FnScope N7 ["_law_book_here"] (A5 (top 29)):=⟨rfl,rfl,rfl,by decide +kernel,rfl,by decide +kernel,by decide +kernel⟩
theorem Jg  (T:Txt mg) (C:Cxt P w K mg base X N7 (A5 (top 29)) 0 true):DS X E0k (stm 29 0) Cr :=
 (F6 C 1 (by kernel_rfl) (O2 (T6 B0)))
theorem Jf  (T:Txt mg) (C:Cxt P w K mg base X N7 (A5 (top 29)) 0 true):DS X E0k (stm 29 1) W1 :=
 (T8 C 2 (by kernel_rfl) (Q3 (A4 C 0 (by kernel_rfl))) (B9 (X0 (Ev C (D3 (A4 C 2 (by kernel_rfl)) A7) M6) (B4 (F6 C 3 (by kernel_rfl) (Yo (t_isN (D3 (A4 C 2 (by kernel_rfl)) A7)) A7 (D8 (gW C (A4 C 1 (by kernel_rfl)) (D3 (A4 C 2 (by kernel_rfl)) A7)) A7))) (B9 (F6 C 1 (by kernel_rfl) (D8 (D8 (Gs (A4 C 1 (by kernel_rfl)) Mf (Me (A4 C 3 (by kernel_rfl)))) (O2 (S9 C [2] ["_law_deed_here"] (by kernel_rfl) (Dl C (by kernel_rfl) T.b_range (A3 (Ds C (by kernel_rfl) T.b_len (A3 (D3 (A4 C 2 (by kernel_rfl)) A7) B0)) B0)) (fun X' C'=>Db) (fun X' C'=>(I9 (A3 (D3 (A4 C' 1 (by kernel_rfl)) A7) (A3 (A4 C' 0 (by kernel_rfl)) B0))))))) (Gs (A4 C 1 (by kernel_rfl)) (Me (A4 C 3 (by kernel_rfl))) Mf))))) L0)))
theorem Je  (T:Txt mg) (C:Cxt P w K mg base X N7 (A5 (top 29)) 0 true):DS X E0k (stm 29 2) Cq :=
 (K0 (A4 C 1 (by kernel_rfl)))
theorem Ju  (T:Txt mg) (C:Cxt P w K mg base X N7 (A5 (top 29)) 0 true):DSs X E0k (B5 (top 29)) Z6:=by
 have h:B5 (top 29)=[stm 29 0,stm 29 1,stm 29 2]:=by kernel_rfl
 rw [h]
 exact (B4 (Jg T C) (B4 (Jf T C) (B9 (Je T C))))
theorem Jk:FnScope U0 ["_law_book_here"] (A5 (top 30)):=⟨rfl,rfl,rfl,by decide +kernel,rfl,by decide +kernel,by decide +kernel⟩
theorem Gv  (T:Txt mg) (C:Cxt P w K mg base X U0 (A5 (top 30)) 0 true):DSs X E0k (B5 (top 30)) U7 :=
 (B4 (Oy C 1 (by kernel_rfl) (T6 B0)) (B4 (T8 C 2 (by kernel_rfl) (Q3 (d_rev (A4 C 0 (by kernel_rfl)))) (B9 (X0 (Vs 1 (w_t (Ei (Ev C (D3 (A4 C 2 (by kernel_rfl)) A7) M6) (An (Jy C (D3 (A4 C 2 (by kernel_rfl)) A7) (A4 C 1 (by kernel_rfl))))))) (B9 (Ls C 1 (by kernel_rfl) (D3 (A4 C 2 (by kernel_rfl)) A7))) L0))) (B9 (Zz 1 (K0 (O2 (S9 C [1] ["_law_off"] (by kernel_rfl) (Q3 (A4 C 0 (by kernel_rfl))) (fun X' C'=>(Ha (Jy C' (D3 (A4 C' 0 (by kernel_rfl)) A7) (A4 C' 1 (by kernel_rfl))))) (fun X' C'=>(D3 (A4 C' 0 (by kernel_rfl)) A7)))))))))
theorem Nx:FnScope L7 ["_law_book_here"] (A5 (top 31)):=⟨rfl,rfl,rfl,by decide +kernel,rfl,by decide +kernel,by decide +kernel⟩
theorem Jd  (T:Txt mg) (F__law_effects:Fn P w K mg base "_law_effects" 1 1 F5) (C:Cxt P w K mg base X L7 (A5 (top 31)) 1 true):DS X E0k (stm 31 0) Cp :=
 (F6 C 1 (by kernel_rfl) (D2 C F__law_effects (by decide) (by kernel_rfl) (A3 (A4 C 0 (by kernel_rfl)) B0)))
theorem Jc  (T:Txt mg) (C:Cxt P w K mg base X L7 (A5 (top 31)) 1 true):DS X E0k (stm 31 1) Co :=
 (F6 C 2 (by kernel_rfl) (O2 (T6 B0)))
theorem Jb  (T:Txt mg) (C:Cxt P w K mg base X L7 (A5 (top 31)) 1 true):DS X E0k (stm 31 2) W0 :=
 (T8 C 3 (by kernel_rfl) (Q3 (A4 C 0 (by kernel_rfl))) (B9 (X0 (w_t (Ei (Ev C (D3 (A4 C 3 (by kernel_rfl)) A7) M6) (An (t_in C (D3 (A4 C 3 (by kernel_rfl)) A7) (A4 C 1 (by kernel_rfl)))))) (B9 (F6 C 2 (by kernel_rfl) (D8 (A4 C 2 (by kernel_rfl)) (lH C (by kernel_rfl) T.b_list (A3 (D3 (A4 C 3 (by kernel_rfl)) A7) B0))))) L0)))
theorem Ja  (T:Txt mg) (F__law_order:Fn P w K mg base "_law_order" 1 1 K5) (C:Cxt P w K mg base X L7 (A5 (top 31)) 1 true):DS X E0k (stm 31 3) Cn :=
 (K0 (O2 (S9 C [1,2] ["_law_there_here", "_law_gone"] (by kernel_rfl) (Q3 (D2 C F__law_order (by decide) (by kernel_rfl) (A3 (A4 C 0 (by kernel_rfl)) B0))) (fun X' C'=>(Ha (w_t (Ei (t_in C' (D3 (A4 C' 0 (by kernel_rfl)) A7) (A4 C' 1 (by kernel_rfl))) (An (Jy C' (A4 C' 0 (by kernel_rfl)) (A4 C' 2 (by kernel_rfl)))))))) (fun X' C'=>(A4 C' 0 (by kernel_rfl))))))
theorem Js  (T:Txt mg) (F__law_effects:Fn P w K mg base "_law_effects" 1 1 F5) (F__law_order:Fn P w K mg base "_law_order" 1 1 K5) (C:Cxt P w K mg base X L7 (A5 (top 31)) 1 true):DSs X E0k (B5 (top 31)) Z4:=by
 have h:B5 (top 31)=[stm 31 0,stm 31 1,stm 31 2,stm 31 3]:=by kernel_rfl
 rw [h]
 exact (B4 (Jd T F__law_effects C) (B4 (Jc T C) (B4 (Jb T C) (B9 (Ja T F__law_order C)))))
theorem Qx:FnScope Ak ["_law_book_here", "_law_signs_here"] (A5 (top 32)):=⟨rfl,rfl,rfl,by decide +kernel,rfl,by decide +kernel,by decide +kernel⟩
theorem Na  (T:Txt mg) (C:Cxt P w K mg base X Ak (A5 (top 32)) 0 true):DSs X E0k (B5 (top 32)) Au :=
 (B4 (Lr C 2 (by kernel_rfl) (kD C (by kernel_rfl) T.b_dict (O2 (S9 C [] [] (by kernel_rfl) (Q3 (A4 C 0 (by kernel_rfl))) (fun X' C'=>(Ha (Ev C' (D3 (A4 C' 0 (by kernel_rfl)) A7) M6))) (fun X' C'=>(I9 (A3 (D3 (A4 C' 0 (by kernel_rfl)) A7) (A3 (D3 (A4 C' 0 (by kernel_rfl)) A7) B0)))))))) (B9 (K0 (Ww (O2 (S9 C [2] ["_law_texts"] (by kernel_rfl) (Q3 (A4 C 1 (by kernel_rfl))) (fun X' C'=>Db) (fun X' C'=>(D3 (d_ixN C' 1 (by kernel_rfl) (D3 (A4 C' 0 (by kernel_rfl)) A7)) (D3 (A4 C' 0 (by kernel_rfl)) A7)))))))))
theorem Cs:FnScope Dv ["_law_e"] (A5 (top 33)):=⟨rfl,rfl,rfl,by decide +kernel,rfl,by decide +kernel,by decide +kernel⟩
theorem Ai {P:Program} {w:World} {K:PySem.W.Frag} {mg:Str->Option Value} {base:Heap} {X:Cx} {CN CM C0 C1 C2:Addr} {i:Nat} {A1:Around} (XX:XSet3 K mg C0 C1 C2 CN CM i) (C:Cxt P w K mg base X Dv (A5 (top 33)) 0 true):PSs (offX X A1) (B5 (top 33)) (Xj CN i):=Ta (p9:=⟨0,0,0,0⟩) C A1 XX (by kernel_rfl) (by kernel_rfl) (by kernel_rfl)
theorem Qw:FnScope P4 ["_law_way", "_law_book_here", "_law_one"] (A5 (top 34)):=⟨rfl,rfl,rfl,by decide +kernel,rfl,by decide +kernel,by decide +kernel⟩
theorem Mz  {CN0 CN1 CM C0 C1 C2:Addr} (hst:X.stack=X.env::X.outer/\X.env.frame=some X.env.locals) (hex:X.ex=[]) (XX0:XSet3 K mg C0 C1 C2 CN0 CM 0) (XX1:XSet3 K mg C0 C1 C2 CN1 CM 1) (T:Txt mg) (FR0:FnE3 P w K mg base CN0 0 "_law_refused" 1) (FR1:FnE3 P w K mg base CN1 1 "_law_refused" 1) (F_in_effect:FnX P w K mg base CN0 "in_effect" 2 2 K1) (F_is_there:FnX P w K mg base CN1 "is_there" 3 2 K7) (C:Cxt P w K mg base X P4 (A5 (top 34)) 3 true):DSs X E0k (B5 (top 34)) O5 :=
 (B9 (nO C hst hex XX0 XX1 F_in_effect (by decide) F_is_there (by decide) FR0 FR1 (by decide) (by kernel_rfl)))
theorem Qy:FnScope P5 ["_law_there_here", "_law_text_here"] (A5 (top 35)):=⟨rfl,rfl,rfl,by decide +kernel,rfl,by decide +kernel,by decide +kernel⟩
theorem Kx  (T:Txt mg) (C:Cxt P w K mg base X P5 (A5 (top 35)) 0 true):DS X E0k (stm 35 0) Dd :=
 (Oy C 2 (by kernel_rfl) (T6 B0))
theorem Kw  (T:Txt mg) (C:Cxt P w K mg base X P5 (A5 (top 35)) 0 true):DS X E0k (stm 35 1) X8 :=
 (nP C 3 4 (by kernel_rfl) (by kernel_rfl) (i_zip C (by kernel_rfl) T.b_zip (A3 (A4 C 0 (by kernel_rfl)) (A3 (A4 C 1 (by kernel_rfl)) B0))) (B9 (X0 (Vs 2 (w_t (Ei (Nk C (A4 C 2 (by kernel_rfl)) (O2 (T6 B0))) (An (Ev C (D3 (D3 (A4 C 2 (by kernel_rfl)) (Ir A7)) A7) (D3 (D3 (A4 C 3 (by kernel_rfl)) A7) A7)))))) (B9 (dL C 2 (by kernel_rfl) (Ir A7) (I9 (A3 (D3 (D3 (A4 C 3 (by kernel_rfl)) A7) A7) (A3 (gV 2 (D8 (D3 (D3 (A4 C 2 (by kernel_rfl)) (Ir A7)) A7) (A4 C 4 (by kernel_rfl)))) B0))))) (B9 (Ls C 2 (by kernel_rfl) (I9 (A3 (D3 (D3 (A4 C 3 (by kernel_rfl)) A7) A7) (A3 (A4 C 4 (by kernel_rfl)) B0))))))))
theorem Kv  (T:Txt mg) (C:Cxt P w K mg base X P5 (A5 (top 35)) 0 true):DS X E0k (stm 35 2) Dc :=
 (Zz 2 (K0 (A4 C 2 (by kernel_rfl))))
theorem Nb  (T:Txt mg) (C:Cxt P w K mg base X P5 (A5 (top 35)) 0 true):DSs X E0k (B5 (top 35)) Av:=by
 have h:B5 (top 35)=[stm 35 0,stm 35 1,stm 35 2]:=by kernel_rfl
 rw [h]
 exact (B4 (Kx T C) (B4 (Kw T C) (B9 (Kv T C))))
theorem nN:FnScope U4 ["_law_script"] (A5 (top 36)):=⟨rfl,rfl,rfl,by decide +kernel,rfl,by decide +kernel,by decide +kernel⟩
theorem dE  (T:Txt mg) (F__law_book:Fn P w K mg base "_law_book" 5 4 V4) (F__law_names:Fn P w K mg base "_law_names" 3 2 Q2) (C:Cxt P w K mg base X U4 (A5 (top 36)) 6 true):DS X E0k (stm 36 0) Sx :=
 (F6 C 1 (by kernel_rfl) (D2 C F__law_book (by decide) (by kernel_rfl) (A3 (A4 C 0 (by kernel_rfl)) (A3 A7 (A3 A7 (A3 (D2 C F__law_names (by decide) (by kernel_rfl) (A3 (A4 C 0 (by kernel_rfl)) (A3 A7 B0))) B0))))))
theorem dD  (T:Txt mg) (F__law_order:Fn P w K mg base "_law_order" 1 1 K5) (C:Cxt P w K mg base X U4 (A5 (top 36)) 6 true):DS X E0k (stm 36 1) Sw :=
 (F6 C 2 (by kernel_rfl) (D2 C F__law_order (by decide) (by kernel_rfl) (A3 (A4 C 1 (by kernel_rfl)) B0)))
theorem dC  (T:Txt mg) (F__law_there:Fn P w K mg base "_law_there" 2 1 Q1) (C:Cxt P w K mg base X U4 (A5 (top 36)) 6 true):DS X E0k (stm 36 2) Sv :=
 (F6 C 3 (by kernel_rfl) (D2 C F__law_there (by decide) (by kernel_rfl) (A3 (A4 C 1 (by kernel_rfl)) B0)))
theorem dB  (T:Txt mg) (F_signs_of:Fn P w K mg base "signs_of" 3 1 N3) (C:Cxt P w K mg base X U4 (A5 (top 36)) 6 true):DS X E0k (stm 36 3) Ss :=
 (F6 C 4 (by kernel_rfl) (D2 C F_signs_of (by decide) (by kernel_rfl) (A3 (A4 C 1 (by kernel_rfl)) B0)))
theorem dA  (T:Txt mg) (F__law_text:Fn P w K mg base "_law_text" 1 2 L4) (C:Cxt P w K mg base X U4 (A5 (top 36)) 6 true):DS X E0k (stm 36 4) Fz :=
 (X0 (w_t (iL (Xi (Ot (Mt C (by kernel_rfl) T.b_isinstance (by kernel_rfl) T.b_list (by decide +kernel) (by kernel_rfl) (A4 C 4 (by kernel_rfl))))) (Xg (Nk C (A4 C 4 (by kernel_rfl)) (lG C (by kernel_rfl) T.b_list (by kernel_rfl) T.b_zip (A3 (A4 C 2 (by kernel_rfl)) (A3 (D2 C F__law_text (by decide) (by kernel_rfl) (A3 (A4 C 1 (by kernel_rfl)) (A3 (A4 C 2 (by kernel_rfl)) B0))) B0))))))) (B9 (K0 Ce)) L0)
theorem cZ  (T:Txt mg) (F__law_text:Fn P w K mg base "_law_text" 1 2 L4) (C:Cxt P w K mg base X U4 (A5 (top 36)) 6 true):DS X E0k (stm 36 5) Sr :=
 (F6 C 5 (by kernel_rfl) (D2 C F__law_text (by decide) (by kernel_rfl) (A3 (A4 C 1 (by kernel_rfl)) (A3 (A4 C 3 (by kernel_rfl)) B0))))
theorem cY  (T:Txt mg) (F__law_runs:Fn P w K mg base "_law_runs" 1 2 T3) (F_authors_of:Fn P w K mg base "authors_of" 6 1 P9) (F_text_of:Fn P w K mg base "text_of" 6 1 X6) (C:Cxt P w K mg base X U4 (A5 (top 36)) 6 true):DS X E0k (stm 36 6) Fy :=
 (X0 (w_t (iL (Nk C (D2 C F_text_of (by decide) (by kernel_rfl) (A3 (A4 C 1 (by kernel_rfl)) B0)) (A4 C 5 (by kernel_rfl))) (Xg (Nk C (D2 C F_authors_of (by decide) (by kernel_rfl) (A3 (A4 C 1 (by kernel_rfl)) B0)) (D2 C F__law_runs (by decide) (by kernel_rfl) (A3 (A4 C 3 (by kernel_rfl)) (A3 (A4 C 5 (by kernel_rfl)) B0))))))) (B9 (K0 Ce)) L0)
theorem cX  (T:Txt mg) (F__law_effects:Fn P w K mg base "_law_effects" 1 1 F5) (C:Cxt P w K mg base X U4 (A5 (top 36)) 6 true):DS X E0k (stm 36 7) Sq :=
 (F6 C 6 (by kernel_rfl) (D2 C F__law_effects (by decide) (by kernel_rfl) (A3 (A4 C 1 (by kernel_rfl)) B0)))
theorem cW  (T:Txt mg) (F__law_told:Fn P w K mg base "_law_told" 4 3 C8) (C:Cxt P w K mg base X U4 (A5 (top 36)) 6 true):DS X E0k (stm 36 8) Fx :=
 (T8 C 7 (by kernel_rfl) (Q3 (A4 C 1 (by kernel_rfl))) (B4 (F6 C 11 (by kernel_rfl) (D2 C F__law_told (by decide) (by kernel_rfl) (A3 A7 (A3 (A4 C 1 (by kernel_rfl)) (A3 (D3 (A4 C 7 (by kernel_rfl)) A7) B0))))) (B9 (X0 (w_t (iL (Xi (Ot (Mt C (by kernel_rfl) T.b_isinstance (by kernel_rfl) T.b_bool (by decide +kernel) (by kernel_rfl) (A4 C 11 (by kernel_rfl))))) (Xg (Nk C (A4 C 11 (by kernel_rfl)) (d_in C (D3 (A4 C 7 (by kernel_rfl)) A7) (A4 C 6 (by kernel_rfl))))))) (B9 (K0 Ce)) L0))))
theorem cV  (T:Txt mg) (F__law_told:Fn P w K mg base "_law_told" 4 3 C8) (C:Cxt P w K mg base X U4 (A5 (top 36)) 6 true):DS X E0k (stm 36 9) Fw :=
 (T8 C 8 (by kernel_rfl) (Q3 (A4 C 2 (by kernel_rfl))) (B4 (F6 C 11 (by kernel_rfl) (D2 C F__law_told (by decide) (by kernel_rfl) (A3 A7 (A3 (A4 C 1 (by kernel_rfl)) (A3 (A4 C 8 (by kernel_rfl)) B0))))) (B9 (X0 (w_t (iL (Xi (Ot (Mt C (by kernel_rfl) T.b_isinstance (by kernel_rfl) T.b_bool (by decide +kernel) (by kernel_rfl) (A4 C 11 (by kernel_rfl))))) (Xg (Nk C (A4 C 11 (by kernel_rfl)) (d_in C (A4 C 8 (by kernel_rfl)) (A4 C 3 (by kernel_rfl))))))) (B9 (K0 Ce)) L0))))
theorem Zx  (T:Txt mg) (F__law_signs:Fn P w K mg base "_law_signs" 1 1 K4) (C:Cxt P w K mg base X U4 (A5 (top 36)) 6 true):DS X E0k (stm 36 10) Ov :=
 (F6 C 9 (by kernel_rfl) (Ds C (by kernel_rfl) T.b_len (A3 (D2 C F__law_signs (by decide) (by kernel_rfl) (A3 (A4 C 1 (by kernel_rfl)) B0)) B0)))
theorem Zw  (T:Txt mg) (F__law_told:Fn P w K mg base "_law_told" 4 3 C8) (C:Cxt P w K mg base X U4 (A5 (top 36)) 6 true):DS X E0k (stm 36 11) Ou :=
 (F6 C 10 (by kernel_rfl) (O2 (T6 (A3 (D2 C F__law_told (by decide) (by kernel_rfl) (A3 A7 (A3 (A4 C 1 (by kernel_rfl)) (A3 (I9 (A3 A7 (A3 M6 B0))) B0)))) (A3 (D2 C F__law_told (by decide) (by kernel_rfl) (A3 A7 (A3 (A4 C 1 (by kernel_rfl)) (A3 (I9 (A3 A7 (A3 M6 B0))) B0)))) (A3 (D2 C F__law_told (by decide) (by kernel_rfl) (A3 A7 (A3 (A4 C 1 (by kernel_rfl)) (A3 (I9 (A3 (I9 (A3 A7 (A3 M6 B0))) (A3 A7 B0))) B0)))) B0))))))
theorem Zv  (T:Txt mg) (C:Cxt P w K mg base X U4 (A5 (top 36)) 6 true):DS X E0k (stm 36 12) Dy :=
 (X0 (Nk C (A4 C 10 (by kernel_rfl)) (O2 (T6 (A3 (I9 (A3 M6 (A3 A7 B0))) (A3 (I9 (A3 M6 (A3 A7 B0))) (A3 (I9 (A3 M6 (A3 A7 B0))) B0)))))) (B9 (K0 Ce)) L0)
theorem Zu  (T:Txt mg) (C:Cxt P w K mg base X U4 (A5 (top 36)) 6 true):DS X E0k (stm 36 13) Dx :=
 (X0 (Ev C (A4 C 9 (by kernel_rfl)) A7) (B9 (K0 Ce)) L0)
theorem Zt  (T:Txt mg) (F__law_told:Fn P w K mg base "_law_told" 4 3 C8) (C:Cxt P w K mg base X U4 (A5 (top 36)) 6 true):DS X E0k (stm 36 14) Hb :=
 (K0 (d_eq C (D2 C F__law_told (by decide) (by kernel_rfl) (A3 A7 (A3 (A4 C 1 (by kernel_rfl)) (A3 (I9 (A3 (D3 (D3 (A4 C 2 (by kernel_rfl)) A7) A7) (A3 A7 B0))) B0)))) (I9 (A3 M6 (A3 A7 B0)))))
theorem hX  (T:Txt mg) (F__law_book:Fn P w K mg base "_law_book" 5 4 V4) (F__law_effects:Fn P w K mg base "_law_effects" 1 1 F5) (F__law_names:Fn P w K mg base "_law_names" 3 2 Q2) (F__law_order:Fn P w K mg base "_law_order" 1 1 K5) (F__law_runs:Fn P w K mg base "_law_runs" 1 2 T3) (F__law_signs:Fn P w K mg base "_law_signs" 1 1 K4) (F__law_text:Fn P w K mg base "_law_text" 1 2 L4) (F__law_there:Fn P w K mg base "_law_there" 2 1 Q1) (F__law_told:Fn P w K mg base "_law_told" 4 3 C8) (F_authors_of:Fn P w K mg base "authors_of" 6 1 P9) (F_signs_of:Fn P w K mg base "signs_of" 3 1 N3) (F_text_of:Fn P w K mg base "text_of" 6 1 X6) (C:Cxt P w K mg base X U4 (A5 (top 36)) 6 true):DSs X E0k (B5 (top 36)) Xo:=by
 have h:B5 (top 36)=[stm 36 0,stm 36 1,stm 36 2,stm 36 3,stm 36 4,stm 36 5,stm 36 6,stm 36 7,stm 36 8,stm 36 9,stm 36 10,stm 36 11,stm 36 12,stm 36 13,stm 36 14]:=by kernel_rfl
 rw [h]
 exact (B4 (dE T F__law_book F__law_names C) (B4 (dD T F__law_order C) (B4 (dC T F__law_there C) (B4 (dB T F_signs_of C) (B4 (dA T F__law_text C) (B4 (cZ T F__law_text C) (B4 (cY T F__law_runs F_authors_of F_text_of C) (B4 (cX T F__law_effects C) (B4 (cW T F__law_told C) (B4 (cV T F__law_told C) (B4 (Zx T F__law_signs C) (B4 (Zw T F__law_told C) (B4 (Zv T C) (B4 (Zu T C) (B9 (Zt T F__law_told C))))))))))))))))
end Sm
end
noncomputable section
namespace Sm
open PySem PySem.Spec PyProof.Rows L2
theorem Mq {K:PySem.W.Frag} {mg:Str->Option Value} {h:Heap} {x:Str} {st:Stmt} {ps:List Str} {f:Addr} {oc:Value} {od an:Option Addr} {osl:Array (Option Value)} {kV doc pm cdv ct:Value} (X:K.In h) (G:h.Ns mainGlobals mg) (a:PySem.W.nsIn K mainGlobals x=some (some (.ref f)))
   (l:K.lookup f=some ⟨oc,od,.func (PySem.W.fnOf x x (M3 st) (B5 st) (A5 st) .none kV doc pm an cdv ct),osl⟩) (c:PySem.W.codeIn K cdv x=true) (k:PySem.W.keepIn K (.ref f)=true)
   (hb:∀ (kV doc pm:Value) (an:Option Addr) (cdv ct:Value) (us:List Value),us.length=ps.length->bindArgs (PySem.W.fnOf x x (M3 st) (B5 st) (A5 st) .none kV doc pm an cdv ct) ⟨us,[]⟩=pure (ps.zip us)):Def K mg x st ps :=
 ⟨f,_,gH l c k,PySem.W.mg_of X G a,(gH l c k).binds hb⟩
theorem fn_Dt {P:Program} {w:World} {K:PySem.W.Frag} {mg:Str->Option Value} {base:Heap} {N:List Str} {k:Nat} {x:Str} {st:Stmt} {ps:List Str} {n:Nat} {go:Dn->Out} {m:List PyData->Res PyData} (F:Def K mg x st ps) (S:FnScope N ps (A5 st)) (hn:ps.length=n)
   (body:∀ X,Cxt P w K mg base X N (A5 st) k true->(X.stack=X.env::X.outer/\X.env.frame=some X.env.locals)->X.ex=[]->DSs X E0k (B5 st) go) (hm:m=fnD N go):Fn P w K mg base x (k+1) n m:=by
 obtain ⟨f,fd,F,hmg,hb⟩:=F.ex
 refine ⟨f,fd,ps,hn,?_,hmg,F.kp,hb⟩
 subst hm
 refine F.ok S (fun vs H Q E h=>?_) (fun cdv A outer s H vs Q E hr h=>?_)
 . obtain ⟨G,ds,d,_,r,hl,_⟩:=h
   rw [<- r.length,hl,hn]
 . obtain ⟨G,ds,d,hG,r,hl,em,q⟩:=h
   refine ⟨_,body _ ⟨rfl,rfl,rfl,rfl,rfl,rfl,rfl,rfl,hr,fun _ _=>rfl,PassesOwn.never⟩ ⟨rfl,rfl⟩ rfl G H,G,_,Gd hG r N,?_⟩
   unfold fnD at em
   cases eg:go (K9 N ds) with
   | rt d'=>rw [eg] at em; cases em; exact fun v G' H' g r'=>q v G' H' g r'
   | nx δ=>rw [eg] at em; cases em; exact fun σ G' H' S'=>q _ G' H' S'.gr rfl
   | bk _=>rw [eg] at em; cases em
   | ct _=>rw [eg] at em; cases em
   | exc _=>rw [eg] at em; cases em
   | no=>rw [eg] at em; cases em
theorem Uc:∀ {l:List (Addr×Obj)} {a:Addr} {o:Obj},l.lookup a=some o->(a,o)∈l
 | [],_,_,h=>nomatch h
 | (b,q)::r,a,o,h=>by
   rw [List.lookup_cons] at h
   cases e:a==b with
   | true=>rw [e] at h; cases h; rw [eq_of_beq e]; exact .head _
   | false=>rw [e] at h; exact .tail _ (Uc h)
noncomputable def noList (K:PySem.W.Frag):Bool:=K.all fun p => !(match p.2.cls with | .type n=>n == "list" | _=>false)
theorem noList.out {K:PySem.W.Frag} (h:noList K=true) {a:Addr} {o:Obj} (e:K.lookup a=some o):o.cls≠.type "list" := fun z=>by
 have hm:(a,o)∈K:=Uc e
 unfold noList at h
 have:=List.all_eq_true.mp h _ hm
 rw [z] at this
 simp at this
theorem N0 {us:List Value} {n:Nat} (h:us.length=n+1):∃ a t,us=a::t/\t.length=n:=by cases us with | nil=>cases h | cons a t=>exact ⟨a,t,rfl,Nat.succ.inj h⟩
theorem lB {K:PySem.W.Frag} {mg:Str->Option Value} {h:Heap} {x:Str} {st:Stmt} {ps:List Str} {f:Addr} {oc:Value} {od an:Option Addr} {osl:Array (Option Value)} {kV doc pm cdv ct:Value} (X:K.In h) (G:h.Ns mainGlobals mg) (a:PySem.W.nsIn K mainGlobals x=some (some (.ref f)))
   (l:K.lookup f=some ⟨oc,od,.func (PySem.W.fnOf x x (M3 st) (B5 st) (A5 st) .none kV doc pm an cdv ct),osl⟩) (c:PySem.W.codeIn K cdv x=true) (k:PySem.W.keepIn K (.ref f)=true)
   (hb:∀ (kV doc pm:Value) (an:Option Addr) (cdv ct:Value) (u0:Value),bindArgs (PySem.W.fnOf x x (M3 st) (B5 st) (A5 st) .none kV doc pm an cdv ct) ⟨[u0],[]⟩=pure (ps.zip [u0])) (hp:ps.length=1):Def K mg x st ps :=
 Mq X G a l c k fun kV doc pm an cdv ct us hl=>by
   have h0:=hl.trans hp; obtain ⟨u0,t0,rfl,h1⟩:=N0 h0
   cases List.length_eq_zero_iff.mp h1
   exact hb kV doc pm an cdv ct u0
theorem lA {K:PySem.W.Frag} {mg:Str->Option Value} {h:Heap} {x:Str} {st:Stmt} {ps:List Str} {f:Addr} {oc:Value} {od an:Option Addr} {osl:Array (Option Value)} {kV doc pm cdv ct:Value} (X:K.In h) (G:h.Ns mainGlobals mg) (a:PySem.W.nsIn K mainGlobals x=some (some (.ref f)))
   (l:K.lookup f=some ⟨oc,od,.func (PySem.W.fnOf x x (M3 st) (B5 st) (A5 st) .none kV doc pm an cdv ct),osl⟩) (c:PySem.W.codeIn K cdv x=true) (k:PySem.W.keepIn K (.ref f)=true)
   (hb:∀ (kV doc pm:Value) (an:Option Addr) (cdv ct:Value) (u0 u1:Value),bindArgs (PySem.W.fnOf x x (M3 st) (B5 st) (A5 st) .none kV doc pm an cdv ct) ⟨[u0,u1],[]⟩=pure (ps.zip [u0,u1])) (hp:ps.length=2):Def K mg x st ps :=
 Mq X G a l c k fun kV doc pm an cdv ct us hl=>by
   have h0:=hl.trans hp; obtain ⟨u0,t0,rfl,h1⟩:=N0 h0; obtain ⟨u1,t1,rfl,h2⟩:=N0 h1
   cases List.length_eq_zero_iff.mp h2
   exact hb kV doc pm an cdv ct u0 u1
theorem kZ {K:PySem.W.Frag} {mg:Str->Option Value} {h:Heap} {x:Str} {st:Stmt} {ps:List Str} {f:Addr} {oc:Value} {od an:Option Addr} {osl:Array (Option Value)} {kV doc pm cdv ct:Value} (X:K.In h) (G:h.Ns mainGlobals mg) (a:PySem.W.nsIn K mainGlobals x=some (some (.ref f)))
   (l:K.lookup f=some ⟨oc,od,.func (PySem.W.fnOf x x (M3 st) (B5 st) (A5 st) .none kV doc pm an cdv ct),osl⟩) (c:PySem.W.codeIn K cdv x=true) (k:PySem.W.keepIn K (.ref f)=true)
   (hb:∀ (kV doc pm:Value) (an:Option Addr) (cdv ct:Value) (u0 u1 u2:Value),bindArgs (PySem.W.fnOf x x (M3 st) (B5 st) (A5 st) .none kV doc pm an cdv ct) ⟨[u0,u1,u2],[]⟩=pure (ps.zip [u0,u1,u2])) (hp:ps.length=3):Def K mg x st ps :=
 Mq X G a l c k fun kV doc pm an cdv ct us hl=>by
   have h0:=hl.trans hp; obtain ⟨u0,t0,rfl,h1⟩:=N0 h0; obtain ⟨u1,t1,rfl,h2⟩:=N0 h1; obtain ⟨u2,t2,rfl,h3⟩:=N0 h2
   cases List.length_eq_zero_iff.mp h3
   exact hb kV doc pm an cdv ct u0 u1 u2
theorem kY {K:PySem.W.Frag} {mg:Str->Option Value} {h:Heap} {x:Str} {st:Stmt} {ps:List Str} {f:Addr} {oc:Value} {od an:Option Addr} {osl:Array (Option Value)} {kV doc pm cdv ct:Value} (X:K.In h) (G:h.Ns mainGlobals mg) (a:PySem.W.nsIn K mainGlobals x=some (some (.ref f)))
   (l:K.lookup f=some ⟨oc,od,.func (PySem.W.fnOf x x (M3 st) (B5 st) (A5 st) .none kV doc pm an cdv ct),osl⟩) (c:PySem.W.codeIn K cdv x=true) (k:PySem.W.keepIn K (.ref f)=true)
   (hb:∀ (kV doc pm:Value) (an:Option Addr) (cdv ct:Value) (u0 u1 u2 u3:Value),bindArgs (PySem.W.fnOf x x (M3 st) (B5 st) (A5 st) .none kV doc pm an cdv ct) ⟨[u0,u1,u2,u3],[]⟩=pure (ps.zip [u0,u1,u2,u3])) (hp:ps.length=4):Def K mg x st ps :=
 Mq X G a l c k fun kV doc pm an cdv ct us hl=>by
   have h0:=hl.trans hp; obtain ⟨u0,t0,rfl,h1⟩:=N0 h0; obtain ⟨u1,t1,rfl,h2⟩:=N0 h1; obtain ⟨u2,t2,rfl,h3⟩:=N0 h2; obtain ⟨u3,t3,rfl,h4⟩:=N0 h3
   cases List.length_eq_zero_iff.mp h4
   exact hb kV doc pm an cdv ct u0 u1 u2 u3
theorem kX {K:PySem.W.Frag} {mg:Str->Option Value} {h:Heap} {x:Str} {st:Stmt} {ps:List Str} {f:Addr} {oc:Value} {od an:Option Addr} {osl:Array (Option Value)} {kV doc pm cdv ct:Value} (X:K.In h) (G:h.Ns mainGlobals mg) (a:PySem.W.nsIn K mainGlobals x=some (some (.ref f)))
   (l:K.lookup f=some ⟨oc,od,.func (PySem.W.fnOf x x (M3 st) (B5 st) (A5 st) .none kV doc pm an cdv ct),osl⟩) (c:PySem.W.codeIn K cdv x=true) (k:PySem.W.keepIn K (.ref f)=true)
   (hb:∀ (kV doc pm:Value) (an:Option Addr) (cdv ct:Value) (u0 u1 u2 u3 u4:Value),bindArgs (PySem.W.fnOf x x (M3 st) (B5 st) (A5 st) .none kV doc pm an cdv ct) ⟨[u0,u1,u2,u3,u4],[]⟩=pure (ps.zip [u0,u1,u2,u3,u4])) (hp:ps.length=5):Def K mg x st ps :=
 Mq X G a l c k fun kV doc pm an cdv ct us hl=>by
   have h0:=hl.trans hp; obtain ⟨u0,t0,rfl,h1⟩:=N0 h0; obtain ⟨u1,t1,rfl,h2⟩:=N0 h1; obtain ⟨u2,t2,rfl,h3⟩:=N0 h2; obtain ⟨u3,t3,rfl,h4⟩:=N0 h3; obtain ⟨u4,t4,rfl,h5⟩:=N0 h4
   cases List.length_eq_zero_iff.mp h5
   exact hb kV doc pm an cdv ct u0 u1 u2 u3 u4
def Defs (K:PySem.W.Frag) (mg:Str->Option Value):Prop :=
 Def K mg "law" (top 36) ["_law_script"] /\
 Def K mg "signs_added" (top 1) ["deed"] /\
 Def K mg "adds_behind" (top 8) ["book"] /\
 Def K mg "signs_of" (top 9) ["book"] /\
 Def K mg "undone_in" (top 10) ["book"] /\
 Def K mg "refuse_unless_deed" (top 11) ["book", "which"] /\
 Def K mg "in_effect" (top 12) ["book", "which"] /\
 Def K mg "dropped_in" (top 13) ["book", "undone"] /\
 Def K mg "presence_in" (top 14) ["book"] /\
 Def K mg "shown_in" (top 15) ["book"] /\
 Def K mg "text_of" (top 16) ["book"] /\
 Def K mg "has_sign" (top 17) ["book", "sign"] /\
 Def K mg "is_there" (top 18) ["book", "sign"] /\
 Def K mg "authors_of" (top 19) ["book"] /\
 Def K mg "_law_cell" (top 21) ["_law_script", "_law_k"] /\
 Def K mg "_law_drawn" (top 22) ["_law_script", "_law_k", "_law_many"] /\
 Def K mg "_law_names" (top 23) ["_law_script", "_law_at"] /\
 Def K mg "_law_words" (top 24) ["_law_script", "_law_at"] /\
 Def K mg "_law_signs" (top 25) ["_law_book_here"] /\
 Def K mg "_law_anchor" (top 26) ["_law_script", "_law_at", "_law_signs_here"] /\
 Def K mg "_law_deed" (top 27) ["_law_script", "_law_at", "_law_one", "_law_known", "_law_names_here"] /\
 Def K mg "_law_book" (top 28) ["_law_script", "_law_at", "_law_most", "_law_names_here"] /\
 Def K mg "_law_order" (top 29) ["_law_book_here"] /\
 Def K mg "_law_effects" (top 30) ["_law_book_here"] /\
 Def K mg "_law_there" (top 31) ["_law_book_here"] /\
 Def K mg "_law_text" (top 32) ["_law_book_here", "_law_signs_here"] /\
 Def K mg "_law_refused" (top 33) ["_law_e"] /\
 Def K mg "_law_told" (top 34) ["_law_way", "_law_book_here", "_law_one"] /\
 Def K mg "_law_runs" (top 35) ["_law_there_here", "_law_text_here"]
noncomputable section
variable {P:Program} {w:World} {K:PySem.W.Frag} {mg:Str->Option Value} {base:Heap}
theorem pB {f:Addr} {fd:FuncData} (F:L2.Fun K "law" "law" (top 36) f fd) (T:Txt mg) (D:Defs K mg) {CN0 CN1 CM C2:Addr} (O0:ExcAt K mg "NoDeed" CN0) (O1:ExcAt K mg "NoSign" CN1) (XX0:XSet3 K mg CN0 CN1 C2 CN0 CM 0) (XX1:XSet3 K mg CN0 CN1 C2 CN1 CM 1):FnOk P w K mg base CX0 7 f fd ["_law_script"] (spD 1 Ye):=by
 have D_law:=D.1
 have R1:=D.2
 have D_signs_added:=R1.1
 have R2:=R1.2
 have D_adds_behind:=R2.1
 have R3:=R2.2
 have D_signs_of:=R3.1
 have R4:=R3.2
 have D_undone_in:=R4.1
 have R5:=R4.2
 have D_refuse_unless_deed:=R5.1
 have R6:=R5.2
 have D_in_effect:=R6.1
 have R7:=R6.2
 have D_dropped_in:=R7.1
 have R8:=R7.2
 have D_presence_in:=R8.1
 have R9:=R8.2
 have D_shown_in:=R9.1
 have R10:=R9.2
 have D_text_of:=R10.1
 have R11:=R10.2
 have D_has_sign:=R11.1
 have R12:=R11.2
 have D_is_there:=R12.1
 have R13:=R12.2
 have D_authors_of:=R13.1
 have R14:=R13.2
 have D__law_cell:=R14.1
 have R15:=R14.2
 have D__law_drawn:=R15.1
 have R16:=R15.2
 have D__law_names:=R16.1
 have R17:=R16.2
 have D__law_words:=R17.1
 have R18:=R17.2
 have D__law_signs:=R18.1
 have R19:=R18.2
 have D__law_anchor:=R19.1
 have R20:=R19.2
 have D__law_deed:=R20.1
 have R21:=R20.2
 have D__law_book:=R21.1
 have R22:=R21.2
 have D__law_order:=R22.1
 have R23:=R22.2
 have D__law_effects:=R23.1
 have R24:=R23.2
 have D__law_there:=R24.1
 have R25:=R24.2
 have D__law_text:=R25.1
 have R26:=R25.2
 have D__law_refused:=R26.1
 have R27:=R26.2
 have D__law_told:=R27.1
 have R28:=R27.2
 have D__law_runs:=R28
 have F_signs_added:Fn P w K mg base "signs_added" 1 1 D7:=Bj (k:=0) D_signs_added Ln rfl (fun X C=>Ia T  C) rfl
 have F_adds_behind:FnN P w K mg base "adds_behind" 2 1 O6:=fn_N (k:=1) D_adds_behind Lp rfl (fun X C=>Ic T F_signs_added C) rfl
 have F_signs_of:Fn P w K mg base "signs_of" 3 1 N3:=Bj (k:=2) D_signs_of Te rfl (fun X C=>Oj T F_adds_behind C) rfl
 have F_undone_in:FnN P w K mg base "undone_in" 1 1 F8:=fn_N (k:=0) D_undone_in Qu rfl (fun X C=>Mx T  C) rfl
 have F_refuse_unless_deed:FnX P w K mg base CN0 "refuse_unless_deed" 1 2 E4:=gJ (k:=0) D_refuse_unless_deed Cy rfl (fun X E C L hex=>Bn O0 L hex T  C) rfl
 have F_in_effect:FnX P w K mg base CN0 "in_effect" 2 2 K1:=gJ (k:=1) D_in_effect Qv rfl (fun X E C L hex=>My O0 L hex T F_refuse_unless_deed F_undone_in C) rfl
 have F_dropped_in:FnSN P w K mg base "dropped_in" 1 2 F2:=fn_SN (k:=0) D_dropped_in Nu rfl (fun X C=>Jp T  C) rfl
 have F_presence_in:Fn P w K mg base "presence_in" 4 1 Q6:=Bj (k:=3) D_presence_in Lo rfl (fun X C=>Ib T F_dropped_in F_signs_of F_undone_in C) rfl
 have F_shown_in:Fn P w K mg base "shown_in" 5 1 N4:=Bj (k:=4) D_shown_in Tf rfl (fun X C=>Ol T F_presence_in C) rfl
 have F_text_of:Fn P w K mg base "text_of" 6 1 X6:=Bj (k:=5) D_text_of Vx rfl (fun X C=>Se T F_shown_in C) rfl
 have F_has_sign:Fn P w K mg base "has_sign" 2 2 M0:=Bj (k:=1) D_has_sign Th rfl (fun X C=>On T F_signs_added C) rfl
 have F_is_there:FnX P w K mg base CN1 "is_there" 3 2 K7:=gJ (k:=2) D_is_there Tg rfl (fun X E C L hex=>Om O1 L hex T F_dropped_in F_has_sign F_undone_in C) rfl
 have F_authors_of:Fn P w K mg base "authors_of" 6 1 P9:=Bj (k:=5) D_authors_of Nv rfl (fun X C=>Jq T F_shown_in C) rfl
 have F__law_cell:Fn P w K mg base "_law_cell" 1 2 V3:=Bj (k:=0) D__law_cell Ra rfl (fun X C=>Nd T  C) rfl
 have F__law_drawn:Fn P w K mg base "_law_drawn" 2 3 A9:=Bj (k:=1) D__law_drawn Ob rfl (fun X C=>Jw T F__law_cell C) rfl
 have F__law_names:Fn P w K mg base "_law_names" 3 2 Q2:=Bj (k:=2) D__law_names Oa rfl (fun X C=>Jv T F__law_drawn C) rfl
 have F__law_words:Fn P w K mg base "_law_words" 3 2 Q0:=Bj (k:=2) D__law_words Nw rfl (fun X C=>Jr T F__law_drawn C) rfl
 have F__law_signs:Fn P w K mg base "_law_signs" 1 1 K4:=Bj (k:=0) D__law_signs Ny rfl (fun X C=>Jt T  C) rfl
 have F__law_anchor:Fn P w K mg base "_law_anchor" 3 3 M1:=Bj (k:=2) D__law_anchor Lq rfl (fun X C=>Ie T F__law_drawn C) rfl
 have F__law_deed:Fn P w K mg base "_law_deed" 4 5 M7:=Bj (k:=3) D__law_deed Qz rfl (fun X C=>Nc T F__law_anchor F__law_drawn F__law_signs F__law_words C) rfl
 have F__law_book:Fn P w K mg base "_law_book" 5 4 V4:=Bj (k:=4) D__law_book Rb rfl (fun X C=>Nf T F__law_deed F__law_drawn C) rfl
 have F__law_order:Fn P w K mg base "_law_order" 1 1 K5:=Bj (k:=0) D__law_order Nz rfl (fun X C=>Ju T  C) rfl
 have F__law_effects:Fn P w K mg base "_law_effects" 1 1 F5:=Bj (k:=0) D__law_effects Jk rfl (fun X C=>Gv T  C) rfl
 have F__law_there:Fn P w K mg base "_law_there" 2 1 Q1:=Bj (k:=1) D__law_there Nx rfl (fun X C=>Js T F__law_effects F__law_order C) rfl
 have F__law_text:Fn P w K mg base "_law_text" 1 2 L4:=Bj (k:=0) D__law_text Qx rfl (fun X C=>Na T  C) rfl
 have FR0:FnE3 P w K mg base CN0 0 "_law_refused" 1:=mR (k:=0) D__law_refused Cs rfl rfl (fun X A1 C=>Ai XX0 C)
 have FR1:FnE3 P w K mg base CN1 1 "_law_refused" 1:=mR (k:=0) D__law_refused Cs rfl rfl (fun X A1 C=>Ai XX1 C)
 have F__law_told:Fn P w K mg base "_law_told" 4 3 C8:=fn_Dt (k:=3) D__law_told Qw rfl (fun X C hst hex=>Mz hst hex XX0 XX1 T FR0 FR1 F_in_effect F_is_there C) rfl
 have F__law_runs:Fn P w K mg base "_law_runs" 1 2 T3:=Bj (k:=0) D__law_runs Qy rfl (fun X C=>Nb T  C) rfl
 exact gI (k:=6) F nN rfl (fun X C=>hX T F__law_book F__law_effects F__law_names F__law_order F__law_runs F__law_signs F__law_text F__law_there F__law_told F_authors_of F_signs_of F_text_of C) rfl
end
end Sm
open PySem PySem.W PyProof.Rows
theorem Sm.walkD {l:PySem.W.OpenLaw} {q:Program} {loose:List Str} {XP:(Str->Option Value)->Heap->Prop} {YP:World->Heap->Prop} {d:DefRec} {K:Params->PySem.W.Frag} (hn:l.most=some 63) (hdf:d.params.defaults=[]) (hnm:d.name = "law")
   (hY:∀ (w:World) (h:Heap),YP w h->(K w.params).In h) (hK:∀ w:World,Sm.noList (K w.params)=true)
   (F:∀ (w:World) (mg:Str->Option Value) (h:Heap),(K w.params).In h->h.Ns mainGlobals mg->Sm.Txt mg/\Sm.Defs (K w.params) mg/\∃ CN0 CN1 CM C2,Sm.ExcAt (K w.params) mg "NoDeed" CN0/\Sm.ExcAt (K w.params) mg "NoSign" CN1/\Sm.XSet3 (K w.params) mg CN0 CN1 C2 CN0 CM 0/\Sm.XSet3 (K w.params) mg CN0 CN1 C2 CN1 CM 1)
   (pure:∀ ns:List Int,ns.length<=63->Sm.Ye [.list (ns.map PyData.int)]=.ok (.bool true)) :
   PySem.W.WalkO q loose XP YP l.row.toRowW d [] (fun f vs=>PySem.call f vs):=by
 refine L2.iK (n:=63) (k:=7) (x := "_law_script") (CX:=fun _=>L2.CX0) (sp:=fun _=>Sm.spD 1 Sm.Ye) hn (by decide) hdf ⟨rfl,by decide,by decide,rfl⟩ hY (fun w mg fa h KX G hmg=>?_) (fun w H a ns hl hO hS=>?_) fun _ _ _ _ _ z=>z
 . obtain ⟨T,D,CN0,CN1,CM,C2,O0,O1,XX0,XX1⟩:=F w mg h KX G
   obtain ⟨f0,fd0,F0,hm0,hb0⟩:=D.1.ex; rw [hnm,hm0] at hmg; cases hmg; refine ⟨fd0,fun s u=>?_,fun base kb nb=>?_⟩
   . obtain ⟨oc,od,kV,doc,pm,an,cdv,ct,osl,rfl,lk,hcd⟩:=F0.ex
     exact .of_eq rfl
   . exact Sm.pB F0 T D O0 O1 XX0 XX1
 . rcases hS with hS | ⟨o,its,nn,hk,hc,_⟩
   . refine ⟨H,[.list (ns.map PyData.int)],.bool true,L2.Same.refl _,Sm.RepL.cons ⟨a,_,rfl,hS,Sm.RepL.ints ns⟩ rfl,rfl,pure ns hl,fun v G' H' g r=>r⟩
   . exact absurd hc (Sm.noList.out (hK w) hk)
end
noncomputable section
open PySem
namespace Sm
open L2
noncomputable def Out.seq (o:Out) (g:Dn->Out):Out:=match o with
 | .nx δ=>g δ
 | o=>o
noncomputable def Out.fin (o:Out):Res PyData:=match o with
 | .rt d=>.ok d
 | .nx _=>.ok .none
 | .exc c=>.exc c
 | _=>.no
noncomputable def mD (s:Option Sl):Res PyData:=match s with
 | some (.sh d)=>.ok d
 | _=>.no
theorem C4 {α β:Type} (a:α) (k:α->Res β):(Res.ok a).bind k=k a:=rfl
theorem fH {α:Type} (a:α):ofO (some a)=.ok a:=rfl
theorem D4 {α:Type} (a:α) (k:α->Out):I8 (.ok a) k=k a:=rfl
theorem Bv (g1 g2:Dn->Out) (δ:Dn):C6 g1 g2 δ=(g1 δ).seq g2:=by unfold C6 Out.seq; cases g1 δ <;> rfl
theorem Vw (δ:Dn) (g:Dn->Out):(Out.nx δ).seq g=g δ:=rfl
theorem nM (d:PyData) (g:Dn->Out):(Out.rt d).seq g=.rt d:=rfl
theorem Cc (N:List Str) (g:Dn->Out) (ds:List PyData):fnD N g ds=(g (K9 N ds)).fin:=by unfold fnD Out.fin; cases g (K9 N ds) <;> rfl
theorem pT (d:PyData):(Out.rt d).fin=.ok d:=rfl
theorem Bp (i:Nat) (δ:Dn):A0 i δ=mD δ[i]? := rfl
theorem De (d:PyData):mD (some (.sh d))=.ok d:=rfl
theorem nS (c:Dn->Res Bool) (g1 g2:Dn->Out) (δ:Dn):sIf c g1 g2 δ=I8 (c δ) fun b=>if b=true then g1 δ else g2 δ:=rfl
theorem Zo (b:Bool):cM (.bool b)=some b:=rfl
local macro_rules
 | `(tactic| simp_arith) => `(tactic| simp_arith [C4])
 | `(tactic| simp_arith [$ls,*]) => `(tactic| simp only [$ls,*, Cc, K9, Bv, Vw, nM, pT, nS, C3, b2, b1, Bp, De, K6, E3, A8, A2, vC, C4, fH, D4, L3, E8, F7, vFn, C5, T1, Bg, Bh, vSl, Ii, O3, Zo,
 List.map_cons,List.map_nil,List.length_cons,List.length_nil,List.replicate,List.cons_append,List.nil_append,List.append_nil,List.getElem?_cons_zero,List.getElem?_cons_succ,List.set_cons_zero,List.set_cons_succ,Nat.reduceAdd,Nat.reduceSub,Bool.false_eq_true,reduceIte])
theorem M5 {src:Dn->Res (List PyData)} {bnd:PyData->Res (List Sl)} {cap:List Nat} {tt:Dn->Res Bool} {el:Dn->Res PyData} {δ δc:Dn} {ds ys:List PyData} (h:src δ=.ok ds) (hl:ds.length<=1000) (hc:Bb δ cap=δc) (e:D5 bnd δc tt el ds=.ok ys):K3 src bnd cap tt el δ=.ok ys:=by
 unfold K3
 rw [h,C4,if_pos (Nat.le_trans hl (by decide)),hc,e]
theorem B8 {f g:Dn->Res PyData} {op:PyData->PyData->Option PyData} {δ:Dn} {x y d:PyData} (h1:f δ=.ok x) (h2:g δ=.ok y) (h3:op x y=some d):b2 f g op δ=.ok d:=by
 unfold b2
 rw [h1,C4,h2,C4,h3]; rfl
theorem T7 {f:Dn->Res (List PyData)} {δ:Dn} {ds:List PyData} (h:f δ=.ok ds):K6 f δ=.ok (.list ds):=by unfold K6; rw [h]; rfl
theorem D9 {i:Nat} {f:Dn->Res PyData} {δ:Dn} {d:PyData} (h:f δ=.ok d):E8 i f δ=.nx (δ.set i (.sh d)):=by unfold E8; rw [h]; rfl
theorem U2 {c:Dn->Res Bool} {g1 g2:Dn->Out} {δ:Dn} (h:c δ=.ok true):sIf c g1 g2 δ=g1 δ:=by unfold sIf; rw [h]; rfl
theorem N9 {c:Dn->Res Bool} {g1 g2:Dn->Out} {δ:Dn} (h:c δ=.ok false):sIf c g1 g2 δ=g2 δ:=by unfold sIf; rw [h]; rfl
theorem B6 {g1 g2:Dn->Out} {δ δ':Dn} (h:g1 δ=.nx δ'):C6 g1 g2 δ=g2 δ':=by unfold C6; rw [h]
theorem Dz {g1 g2:Dn->Out} {δ:Dn} {d:PyData} (h:g1 δ=.rt d):C6 g1 g2 δ=.rt d:=by unfold C6; rw [h]
theorem O7 {f:Dn->Res PyData} {δ:Dn} {d:PyData} (h:f δ=.ok d):L3 f δ=.rt d:=by unfold L3; rw [h]; rfl
theorem T5 {N:List Str} {g:Dn->Out} {ds:List PyData} {d:PyData} (h:g (K9 N ds)=.rt d):fnD N g ds=.ok d:=by rw [Cc,h]; rfl
theorem A6 {f:Dn->Res PyData} {fs:Dn->Res (List PyData)} {δ:Dn} {d:PyData} {ds:List PyData} (h:f δ=.ok d) (h2:fs δ=.ok ds):A2 f fs δ=.ok (d::ds):=by unfold A2; rw [h,C4,h2]; rfl
theorem D1 {fs:Dn->Res (List PyData)} {m:List PyData->Res PyData} {δ:Dn} {ds:List PyData} {r:Res PyData} (h:fs δ=.ok ds) (h2:m ds=r):C5 fs m δ=r:=by unfold C5; rw [h,C4,h2]
theorem Q8 {f:Dn->Res (List PyData)} {δ:Dn} {ds:List PyData} (h:f δ=.ok ds):E3 f δ=.ok (.tuple ds):=by unfold E3; rw [h]; rfl
theorem Eu {f:Dn->Res (List PyData)} {op:List PyData->Option PyData} {δ:Dn} {ds:List PyData} {d:PyData} (h:f δ=.ok ds) (h2:op ds=some d):vFn f op δ=.ok d:=by unfold vFn; rw [h,C4,h2]; rfl
theorem C7 {f:Dn->Res PyData} {δ:Dn} {b:Bool} (h:f δ=.ok (.bool b)):C3 f δ=.ok b:=by unfold C3; rw [h]; rfl
noncomputable abbrev scr (ns:List Int):PyData:=.list (ns.map .int)
theorem kL {n j:Nat} (h:j < n):ixN n (j:Int)=some j:=by
 unfold ixN
 rw [if_pos (by lia)]
 simp [h]
theorem O8 {α:Type} {xs:List α} {j:Nat} (h:j < xs.length):atI xs (j:Int)=some xs[j]:=by
 unfold atI
 rw [kL h]
 simp
theorem Kg {α:Type} {xs:List α} {i:Int} (h0:0<=i) (h:i < xs.length):∃ x∈xs,atI xs i=some x:=by
 obtain ⟨j,rfl⟩:=Int.eq_ofNat_of_zero_le h0
 have hj:j < xs.length:=by lia
 exact ⟨xs[j],List.getElem_mem _,O8 hj⟩
theorem kS (ns:List Int):PyData.eqv (scr ns) (.list [])=ns.isEmpty:=by
 cases ns with
 | nil=>rfl
 | cons n ns=>rfl
theorem Yq (ns:List Int):dEq (scr ns) (.list [])=some (.bool ns.isEmpty):=by
 unfold dEq
 rw [if_pos (Nat.le_trans (Nat.min_le_right _ _) (by decide)),kS]
theorem Tz {a b:Int} (h:(-(2 ^ 64) < a/\a < 2 ^ 64)\/(-(2 ^ 64) < b/\b < 2 ^ 64)):P3 (.int a) (.int b)=some (.int (a*b)):=by
 show (if _ then _ else _)=_
 rw [if_pos h]
theorem mul7 {b:Int}:P3 (.int 7) (.int b)=some (.int (7*b)):=Tz (.inl ⟨by decide,by decide⟩)
theorem kE {b:Int}:P3 (.int 6553) (.int b)=some (.int (6553*b)):=Tz (.inl ⟨by decide,by decide⟩)
theorem aN {b:Int}:P3 (.int 104723) (.int b)=some (.int (104723*b)):=Tz (.inl ⟨by decide,by decide⟩)
theorem fM {b:Int}:P3 (.int b) (.int 69069)=some (.int (b*69069)):=Tz (.inr ⟨by decide,by decide⟩)
theorem mul2 {b:Int}:P3 (.int 2) (.int b)=some (.int (2*b)):=Tz (.inl ⟨by decide,by decide⟩)
theorem fO {b:Int}:P3 (.int 60) (.int b)=some (.int (60*b)):=Tz (.inl ⟨by decide,by decide⟩)
theorem fP {a b:Int} (h:0 < b):Oi (.int a) (.int b)=some (.int (a % b)):=by
 show (if _ then _ else _)=_
 rw [if_pos h]
theorem kW {a b:Int} (h:0 < b) (h2:b < 1073741824):Iu (.int a) (.int b)=some (.int (a / b)):=by
 show (if _ then _ else _)=_
 rw [if_pos ⟨h,h2⟩]
theorem V7 {a b:Int}:C9 (.int a) (.int b)=some (.int (a+b)):=rfl
theorem lR (ns:List Int) (hns:ns.length<=63) (k:Int):∃ c,V3 [scr ns,.int k]=.ok (.int c):=by
 unfold V3 Ax Al
 cases hn:ns with
 | nil =>
   refine ⟨7*k,?_⟩
   simp_arith [Yq,List.isEmpty_nil,mul7]
 | cons n r =>
   have e1:=Yq (n::r); have hl:(0:Int) < ((n::r).length:Int):=by simp
   have hl2:((n::r).length:Int)<=63:=by rw [<- hn]; lia
   obtain ⟨x,hx,e2⟩:=Kg (xs:=(n::r).map PyData.int) (i:=k % ((n::r).length:Int)) (Int.emod_nonneg _ (by lia)) (by rw [List.length_map]; exact Int.emod_lt_of_pos _ hl)
   obtain ⟨c,_,rfl⟩:=List.mem_map.mp hx; refine ⟨c+6553*(k / ((n::r).length:Int)),?_⟩; have e3:V6 [scr (n::r)]=some (.int ((n::r).length:Int)):=by simp [V6,scr]
   have e4:dIx (scr (n::r)) (.int (k % ((n::r).length:Int)))=some (.int c):=e2
   generalize hS:scr (n::r)=S at *
   generalize hL:((n::r).length:Int)=m at *
   simp_arith [e1,List.isEmpty_cons,e3,fP hl,kW hl (show m < 1073741824 by lia),kE,e4,V7]
theorem K8 (ns:List Int) (hns:ns.length<=63) (k m:Int) (hm:0 < m):∃ r,A9 [scr ns,.int k,.int m]=.ok (.int r)/\0<=r/\r < m:=by
 obtain ⟨c,hc⟩:=lR ns hns k
 unfold A9 Z8 X5
 generalize scr ns=S at *
 simp_arith [hc,fP (show (0:Int) < 2147483563 by decide),V7,fM,aN]
 generalize hA:(c % 2147483563*69069+104723*(k+1)) % 2147483563=A
 have a0:0<=A:=by rw [<- hA]; exact Int.emod_nonneg _ (by decide)
 have a1:A < 2147483563:=by rw [<- hA]; exact Int.emod_lt_of_pos _ (by decide)
 simp_arith [Tz (a:=A) (b:=A) (.inl ⟨Int.lt_of_lt_of_le (by decide) a0,Int.lt_trans a1 (by decide)⟩),kW (show (0:Int) < 3 by decide) (by decide),V7,fP (show (0:Int) < 2147483399 by decide)]
 generalize hB:(A*A+A / 3) % 2147483399=B
 have b0:0<=B:=by rw [<- hB]; exact Int.emod_nonneg _ (by decide)
 have b1:B < 2147483399:=by rw [<- hB]; exact Int.emod_lt_of_pos _ (by decide)
 simp_arith [Tz (a:=B) (b:=B) (.inl ⟨Int.lt_of_lt_of_le (by decide) b0,Int.lt_trans b1 (by decide)⟩),kW (show (0:Int) < 7 by decide) (by decide),V7,fP (show (0:Int) < 2147483647 by decide),kW (show (0:Int) < 11 by decide) (by decide),fP hm]
 exact ⟨_,rfl,Int.emod_nonneg _ (by lia),Int.emod_lt_of_pos _ hm⟩
theorem fZ {x:Str} {i:Int} (h0:0<=i) (h:i < (x.cps.toList.length:Int)):∃ c∈x.cps.toList,dIx (.str x) (.int i)=some (.str ⟨#[c]⟩):=by
 obtain ⟨c,hc,e⟩:=Kg (xs:=x.cps.toList) h0 h
 exact ⟨c,hc,by show (atI x.cps.toList i).map _=_; rw [e]; rfl⟩
theorem aW (c:Nat):(⟨#[c]⟩:Str).length=1:=rfl
theorem Kp:(1000:Nat)<=sizeLine:=by decide
theorem mB {x y:Str} (h:x.length+y.length<=1000):C9 (.str x) (.str y)=some (.str (x++y)):=by
 show (if _ then _ else _)=_
 rw [if_pos (Nat.le_trans h Kp)]
theorem Vi {x y:List PyData} (h:x.length+y.length<=1000):C9 (.list x) (.list y)=some (.list (x++y)):=by
 show (if _ then _ else _)=_
 rw [if_pos (Nat.le_trans h Kp)]
theorem addT {x y:List PyData} (h:x.length+y.length<=1000):C9 (.tuple x) (.tuple y)=some (.tuple (x++y)):=by
 show (if _ then _ else _)=_
 rw [if_pos (Nat.le_trans h Kp)]
theorem strLen_append (x y:Str):(x++y).length=x.length+y.length:=by
 show (x.cps++y.cps).size=_
 rw [Array.size_append]; rfl
def chOk (lo hi:Nat) (x:Str):Prop:=∀ c∈x.cps.toList,lo<=c/\c<=hi
theorem chOk.app {lo hi:Nat} {x y:Str} (hx:chOk lo hi x) (hy:chOk lo hi y):chOk lo hi (x++y):=fun c hc=>by
 have:c∈(x.cps++y.cps).toList:=hc
 rw [Array.toList_append] at this
 exact (List.mem_append.mp this).elim (hx c) (hy c)
theorem chOk.one {lo hi c:Nat} (h:lo<=c/\c<=hi):chOk lo hi ⟨#[c]⟩:=fun d hd=>by
 have:d=c:=by simpa using hd
 rw [this]; exact h
theorem chOk.nil {lo hi:Nat}:chOk lo hi "" := fun c hc=>by
 rw [show ("" : Str).cps.toList=[] from rfl] at hc; exact nomatch hc
theorem mulS {c:Nat} {n:Int} (h0:0<=n) (h:n < 2):∃ y:Str,P3 (.str ⟨#[c]⟩) (.int n)=some (.str y)/\y.length<=1/\∀ d∈y.cps.toList,d=c:=by
 have:n=0\/n=1:=by lia
 rcases this with rfl | rfl
 . refine ⟨L8 0 ⟨#[c]⟩,rfl,(show (0:Nat)<=1 by decide),fun d hd=>?_⟩
   simp [L8] at hd
 . refine ⟨L8 1 ⟨#[c]⟩,rfl,by unfold L8; simp; exact Nat.le_refl _,fun d hd=>?_⟩
   simpa [L8] using hd
def Bi (x:Str):Prop:=1<=x.length/\x.length<=6/\chOk 97 122 x
def Et (x:Str):Prop:=1<=x.length/\x.length<=4/\chOk 32 126 x
theorem ixL {xs:List PyData} {i:Int} (h0:0<=i) (h:i < (xs.length:Int)):∃ x∈xs,dIx (.list xs) (.int i)=some x:=Kg h0 h
theorem Fg (ns:List Int) (hns:ns.length<=63) (a k:Int) (hk:0<=k) (hk2:k < 3) (fd:List PyData) (hf:fd.length < 1000) (s4:Sl):∃ z w:Str,Bi z /\
   (C6 (E8 4 (b2 (b2 (vC (.str "abcdefghijklmnopqrstuvwxyz")) (C5 (A2 (A0 0) (A2 (b2 (A0 1) (b2 (vC (.int 2)) (A0 3) P3) C9) (A2 (vC (.int 26)) A8))) A9) dIx) (C5 (A2 (A0 0) (A2 (b2 (b2 (A0 1) (b2 (vC (.int 2)) (A0 3) P3) C9) (vC (.int 1)) C9) (A2 (vC (.int 2)) A8))) A9) P3)) (Ae 2 (b2 (K6 (A2 (b2 (A0 4) (b2 (vC (.str "xyz")) (A0 3) dIx) C9) (A2 (b2 (b2 (vC (.str "xyz")) (A0 3) dIx) (A0 4) C9) A8))) (C5 (A2 (A0 0) (A2 (b2 (A0 1) (vC (.int 6)) C9) (A2 (vC (.int 2)) A8))) A9) dIx)))
     [.sh (scr ns),.sh (.int a),.ow (.list fd),.sh (.int k),s4]=.nx [.sh (scr ns),.sh (.int a),.ow (.list (fd++[.str z])),.sh (.int k),.sh (.str w)]:=by
 obtain ⟨r1,e1,a1,b1⟩:=K8 ns hns (a+2*k) 26 (by decide)
 obtain ⟨r2,e2,a2,b2'⟩:=K8 ns hns (a+2*k+1) 2 (by decide)
 obtain ⟨r3,e3,a3,b3⟩:=K8 ns hns (a+6) 2 (by decide)
 obtain ⟨c1,hc1,f1⟩:=fZ (x := "abcdefghijklmnopqrstuvwxyz") a1 (by rw [show ("abcdefghijklmnopqrstuvwxyz" : Str).cps.toList.length=26 from by decide]; exact b1)
 obtain ⟨y,f2,l2,hy⟩:=mulS (c:=c1) a2 b2'
 obtain ⟨c2,hc2,f3⟩:=fZ (x := "xyz") hk (by rw [show ("xyz" : Str).cps.toList.length=3 from by decide]; exact hk2)
 have g1:C9 (.str y) (.str ⟨#[c2]⟩)=_:=mB (x:=y) (y:=⟨#[c2]⟩) (by rw [aW]; lia)
 have g2:C9 (.str ⟨#[c2]⟩) (.str y)=_:=mB (x:=⟨#[c2]⟩) (y:=y) (by rw [aW]; lia)
 obtain ⟨x,hx,f4⟩:=ixL (xs:=[.str (y++⟨#[c2]⟩),.str (⟨#[c2]⟩++y)]) a3 b3
 have o1:chOk 97 122 y:=fun d hd=>by
   rw [hy d hd]; exact (by decide:∀ c∈("abcdefghijklmnopqrstuvwxyz" : Str).cps.toList,97<=c/\c<=122) c1 hc1
 have o2:chOk 97 122 ⟨#[c2]⟩:=.one ((by decide:∀ c∈("xyz" : Str).cps.toList,97<=c/\c<=122) c2 hc2)
 have:∃ z,x=.str z/\Bi z:=by
   rcases List.mem_cons.mp hx with h | h
   . exact ⟨_,h,by rw [strLen_append,aW]; lia,by rw [strLen_append,aW]; lia,o1.app o2⟩
   . exact ⟨_,List.mem_singleton.mp h,by rw [strLen_append,aW]; lia,by rw [strLen_append,aW]; lia,o2.app o1⟩
 obtain ⟨z,rfl,hz⟩:=this
 refine ⟨z,y,hz,?_⟩
 have szB:fd.length < sizeLine:=Nat.lt_of_lt_of_le hf Kp
 simp_arith [mul2,V7,e1,e2,e3,f1,f2,f3,g1,g2,f4,Ae,szB]
theorem fI (ns:List Int) (hns:ns.length<=63) (a:Int):∃ x y z:Str,(Bi x/\Bi y/\Bi z)/\Q2 [scr ns,.int a]=.ok (.list [.str x,.str y,.str z]):=by
 obtain ⟨x,w1,hx,e1⟩:=Fg ns hns a 0 (by decide) (by decide) [] (by simp) .un
 obtain ⟨y,w2,hy,e2⟩:=Fg ns hns a 1 (by decide) (by decide) [.str x] (by simp) (.sh (.str w1))
 obtain ⟨z,w3,hz,e3⟩:=Fg ns hns a 2 (by decide) (by decide) [.str x,.str y] (by simp) (.sh (.str w2))
 refine ⟨x,y,z,⟨hx,hy,hz⟩,?_⟩
 unfold Q2 Z7 W4 W3 W2 N8
 have r:Eg [.int 3]=.ok [.int 0,.int 1,.int 2]:=rfl
 simp only [Cc,K9,Bv (Hi _ _),Hi,A8,D4,Vw,List.map_cons,List.map_nil,List.length_cons,List.length_nil,List.replicate,List.cons_append,List.nil_append,List.set_cons_zero,List.set_cons_succ,Bv (N2 _ _ _),N2,A2,vC,C4,r,E5,st1,Nat.reduceAdd,Nat.reduceSub]
 rw [e1]
 simp only [List.nil_append,List.set_cons_zero,List.set_cons_succ]
 rw [e2]
 simp only [List.cons_append,List.nil_append,List.set_cons_zero,List.set_cons_succ]
 rw [e3]
 rfl
theorem Ut {bnd:PyData->Res (List Sl)} {δc:Dn} {el:Dn->Res PyData} {P:PyData->Prop}:∀ (ds:List PyData),(∀ d∈ds,∃ sl y,bnd d=.ok sl/\el (sl++δc)=.ok y/\P y)->∃ ys:List PyData,D5 bnd δc O3 el ds=.ok ys/\ys.length=ds.length/\∀ y∈ys,P y
 | [],_=>⟨[],rfl,rfl,fun _ h=>nomatch h⟩
 | d::ds,h=>by
   obtain ⟨sl,y,e1,e2,p⟩:=h d (.head _); obtain ⟨ys,e3,e4,e5⟩:=Ut ds fun d' h'=>h d' (.tail _ h')
   refine ⟨y::ys,?_,by simp [e4],fun z hz=>?_⟩
   . unfold D5
     rw [e1]; simp only [O3,e2,e3]
   . rcases List.mem_cons.mp hz with rfl | hz
     . exact p
     . exact e5 z hz
theorem Xl {P:Str->Prop}:∀ (ys:List PyData),(∀ y∈ys,∃ x,y=.str x/\P x)->∃ xs:List Str,Br ys=some xs/\xs.length=ys.length/\∀ x∈xs,P x
 | [],_=>⟨[],rfl,rfl,fun _ h=>nomatch h⟩
 | y::ys,h=>by
   obtain ⟨x,rfl,p⟩:=h y (.head _); obtain ⟨xs,e1,e2,e3⟩:=Xl ys fun d' h'=>h d' (.tail _ h')
   exact ⟨x::xs,by show (Br ys).map _=_; rw [e1]; rfl,by simp [e2],fun z hz=>by
     rcases List.mem_cons.mp hz with rfl | hz
     . exact p
     . exact e3 z hz⟩
theorem Ht:∀ (xs:List Str),(∀ x∈xs,x.length=1/\PyData.strOk x=true/\chOk 32 126 x)->(Str.join "" xs).length=xs.length/\PyData.strOk (Str.join "" xs)=true/\chOk 32 126 (Str.join "" xs)
 | [],_=>⟨rfl,by decide +kernel,chOk.nil⟩
 | [x],h=>⟨(h x (.head _)).1,(h x (.head _)).2.1,(h x (.head _)).2.2⟩
 | x::y::r,h=>by
   obtain ⟨l,o,q⟩:=Ht (y::r) fun z hz=>h z (.tail _ hz)
   obtain ⟨l1,o1,q1⟩:=h x (.head _); show (x ++ "" ++ Str.join "" (y::r)).length=_/\PyData.strOk (x ++ "" ++ Str.join "" (y::r))=true/\chOk 32 126 (x ++ "" ++ Str.join "" (y::r))
   refine ⟨?_,Bs (Bs o1 (by decide +kernel)) o,(q1.app chOk.nil).app q⟩
   rw [strLen_append,strLen_append]; have:(("" : Str)).length=0:=rfl; simp only [List.length_cons] at l ⊢
   lia
theorem Kq:∀ (xs:List Str),(∀ x∈xs,x.length=1/\PyData.strOk x=true/\chOk 32 126 x)->(xs.map (·.length)).sum=xs.length
 | [],_=>rfl
 | x::r,h=>by
   simp only [List.map_cons,List.sum_cons,List.length_cons,(h x (.head _)).1,Kq r fun z hz=>h z (.tail _ hz)]
   lia
theorem dU {n:Int} (h0:0<=n) (h:n < 1000):Eg [.int n]=.ok (X1 0 n):=by
 show (if _ then _ else _)=_
 rw [if_pos (by lia)]
theorem Qr {fs:Dn->Res (List PyData)} {δ:Dn} {n:Int} (h:fs δ=.ok [.int n]) (h0:0<=n) (h1:n < 1000):(fun δ=>(fs δ).bind Eg) δ=.ok (X1 0 n):=by
 show (fs δ).bind Eg=_
 rw [h,C4,dU h0 h1]
theorem K2 {f:Dn->Res PyData} {δ:Dn} {d:PyData} {ds:List PyData} (h:f δ=.ok d) (h2:E9 d=.ok ds):(fun δ=>(f δ).bind E9) δ=.ok ds:=by
 show (f δ).bind E9=_
 rw [h,C4,h2]
theorem cA (ns:List Int) (hns:ns.length<=63) (a:Int):∃ x:Str,Q0 [scr ns,.int a]=.ok (.str x)/\Et x:=by
 obtain ⟨r1,e1,a1,b1⟩:=K8 ns hns (a+4) 4 (by decide)
 unfold Q0 Z3 X3
 have hr:Eg [.int (1+r1)]=.ok (X1 0 (1+r1)):=dU (by lia) (by lia)
 have hlen:(X1 0 (1+r1)).length<=4/\1<=(X1 0 (1+r1)).length:=by unfold X1; simp; lia
 have hall:∀ d∈X1 0 (1+r1),∃ sl y,E7 d=.ok sl/\(b2 (vC (.str "ab cd~ <")) (C5 (A2 (A0 1) (A2 (b2 (A0 2) (A0 0) C9) (A2 (vC (.int 8)) A8))) A9) dIx) (sl++[.sh (scr ns),.sh (.int a)])=.ok y/\∃ x:Str,y=.str x/\x.length=1/\PyData.strOk x=true/\chOk 32 126 x:=fun d hd=>by
   unfold X1 at hd; obtain ⟨i,hi,rfl⟩:=List.mem_map.mp hd; have hi':i < 4:=by have:=List.mem_range.mp hi; lia
   obtain ⟨r2,e2,a2,b2'⟩:=K8 ns hns (a+(0+(i:Int))) 8 (by decide)
   obtain ⟨c,hc,f⟩:=fZ (x := "ab cd~ <") a2 (by have:("ab cd~ <" : Str).cps.toList.length=8:=(by decide); rw [this]; exact b2')
   refine ⟨[.sh (.int (0+(i:Int)))],.str ⟨#[c]⟩,rfl,?_,⟨#[c]⟩,rfl,rfl,?_,.one ((by decide:∀ c∈("ab cd~ <" : Str).cps.toList,32<=c/\c<=126) c hc)⟩
   . simp_arith [V7,e2,f]
   . have:∀ c∈("ab cd~ <" : Str).cps.toList,c < 0x110000:=by decide
     unfold PyData.strOk; simp [this c hc]
 obtain ⟨ys,g1,g2,g3⟩:=Ut (X1 0 (1+r1)) hall
 obtain ⟨xs,g4,g5,g6⟩:=Xl ys g3
 obtain ⟨l1,o1,q1⟩:=Ht xs g6
 have s1:=Kq xs g6
 refine ⟨Str.join "" xs,?_,by lia,by lia,q1⟩
 have hj:Pv "" (.list ys)=some (.str (Str.join "" xs)):=by
   show (Br ys).bind _=_
   rw [g4]; show (if _ then _ else _)=_
   have:(("" : Str)).length=0:=rfl; rw [if_pos ⟨by rw [s1,this]; lia,o1,Nat.le_trans (show _<=1000 by lia) Kp⟩]
 have hz:(X1 0 (1+r1)).length<=sizeLine:=Nat.le_trans (show _<=1000 by lia) Kp
 simp_arith [V7,e1,hr,K3,hz,Bb,Option.getD_some,g1,hj]
noncomputable abbrev idD (t:Int) (h:Str):PyData:=.tuple [.int t,.str h]
abbrev IdP:=Int×Str
noncomputable abbrev idP (p:IdP):PyData:=idD p.1 p.2
noncomputable abbrev sgD (p:IdP) (n:Int):PyData:=.tuple [idP p,.int n]
noncomputable def hj (h:Str):Nat:=if h = "a" then 0 else if h = "b" then 1 else 2
noncomputable def key (p:IdP):Int:=3*p.1+hj p.2
def okH (h:Str):Prop:=h = "a" \/ h = "b" \/ h = "c"
def okI (p:IdP):Prop:=1<=p.1/\p.1<=10/\okH p.2
theorem Ug (h:Str):hj h<=2:=by unfold hj; split <;> (try split) <;> lia
def SgOf (T:Int) (ds:List PyData) (x:PyData):Prop:=∃ (p:IdP) (b:PyData) (w:Str) (n:Nat),PyData.tuple [.str "add",idP p,b,.str w]∈ds/\x=sgD p n/\n < w.length/\p.1 < T/\okI p
theorem SgOf.mono {T:Int} {ds ds':List PyData} {x:PyData} (h:SgOf T ds x) (k:∀ d∈ds,d∈ds'):SgOf T ds' x:=by
 obtain ⟨p,b,w,n,e,r⟩:=h; exact ⟨p,b,w,n,k _ e,r⟩
def sgR (a b:PyData):Prop:=∃ (p q:IdP) (n m:Int),a=sgD p n/\b=sgD q m/\okH p.2/\okH q.2/\(key p < key q\/(p=q/\n < m))
def OrN (S:PyData->Prop) (d:PyData):Prop:=d=.none\/S d
def pA (x:Str):Prop:=x = "l" \/ x = "r"
def Wf (p:IdP) (S:PyData->Prop) (U:IdP->Prop) (d:PyData):Prop:=okI p /\
 ((∃ b w,d=.tuple [.str "add",idP p,b,.str w]/\OrN S b/\Et w) \/
  (∃ sg,d=.tuple [.str "drop",idP p,.tuple sg]/\(∀ x∈sg,S x)/\sg.length<=40/\sg≠[]/\sg.Pairwise sgR) \/
  (∃ n s1 x1 s2 x2,d=.tuple [.str "mark",idP p,.str n,.tuple [s1,.str x1],.tuple [s2,.str x2]]/\OrN S s1/\OrN S s2/\Bi n/\pA x1/\pA x2) \/
  (∃ n,d=.tuple [.str "unmark",idP p,.str n]/\Bi n) \/
  (∃ q,d=.tuple [.str "undo",idP p,idP q]/\U q))
theorem OrN.mono {S S':PyData->Prop} {d:PyData} (h:OrN S d) (k:∀ x,S x->S' x):OrN S' d:=h.elim .inl fun z=>.inr (k _ z)
theorem Wf.mono {p:IdP} {S S':PyData->Prop} {U U':IdP->Prop} {d:PyData} (h:Wf p S U d) (k2:∀ x,S x->S' x) (k3:∀ q,U q->U' q):Wf p S' U' d:=by
 obtain ⟨o,r⟩:=h
 refine ⟨o,?_⟩
 rcases r with ⟨b,w,e,hb,hw⟩ | ⟨sg,e,hs,hl⟩ | ⟨n,s1,x1,s2,x2,e,h1,h2,h3⟩ | ⟨n,e⟩ | ⟨i,e,hi⟩
 . exact .inl ⟨b,w,e,hb.mono k2,hw⟩
 . exact .inr (.inl ⟨sg,e,fun x hx=>k2 x (hs x hx),hl⟩)
 . exact .inr (.inr (.inl ⟨n,s1,x1,s2,x2,e,h1.mono k2,h2.mono k2,h3⟩))
 . exact .inr (.inr (.inr (.inl ⟨n,e⟩)))
 . exact .inr (.inr (.inr (.inr ⟨i,e,k3 _ hi⟩)))
theorem Az (x y:Str):dEq (.str x) (.str y)=some (.bool (x==y)):=by
 unfold dEq
 rw [if_pos (Nat.le_trans (Nat.min_le_left _ _) (by simp [PyData.depth]))]
 rfl
theorem Zc:(("add" : Str)==("add" : Str))=true:=by decide +kernel
noncomputable def Qb:Dn->Out:=(sIf (C3 (b2 (b2 (A0 2) (vC (.int 0)) dIx) (vC (.str "add")) dEq)) (E8 1 (b2 (A0 1) (K6 (K3 (fun δ=>((A2 (vFn (A2 (b2 (A0 2) (vC (.int 3)) dIx) A8) V6) A8) δ).bind Eg) E7 [2] O3 (E3 (A2 (b2 (A0 1) (vC (.int 1)) dIx) (A2 (A0 0) A8))))) C9)) F7)
theorem Du {α:Type} {δc:Dn} {el:Dn->Res PyData} (g f:α->PyData) (h:∀ y:α,el ([.sh (g y)]++δc)=.ok (f y)):∀ ys:List α,D5 E7 δc O3 el (ys.map g)=.ok (ys.map f)
 | []=>rfl
 | y::ys=>by
   rw [List.map_cons,List.map_cons]; unfold D5; simp only [E7,O3,h y,Du g f h ys]
theorem Vv {p:IdP} {S:PyData->Prop} {U:IdP->Prop} {T:Int} {d:PyData} (hd:Wf p S U d) (hT:p.1 < T) (B:PyData) (fd:List PyData) (hf:fd.length<=100):∃ more:List PyData,more.length<=4/\(∀ x∈more,SgOf T [d] x)/\(∀ x∈more,∃ n,x=sgD p n)/\more.Pairwise sgR /\
   Qb [.sh B,.sh (.list fd),.sh d]=.nx [.sh B,.sh (.list (fd++more)),.sh d]:=by
 obtain ⟨o,r⟩:=hd
 have ix0:∀ (x:PyData) (xs:List PyData),dIx (.tuple (x::xs)) (.int 0)=some x:=fun x xs=>O8 (xs:=x::xs) (j:=0) (by simp)
 have ix1:∀ (x y:PyData) (xs:List PyData),dIx (.tuple (x::y::xs)) (.int 1)=some y:=fun x y xs=>O8 (xs:=x::y::xs) (j:=1) (by simp)
 have ix3:∀ (x y z u:PyData),dIx (.tuple [x,y,z,u]) (.int 3)=some u:=fun x y z u=>O8 (xs:=[x,y,z,u]) (j:=3) (by simp)
 have no:∀ d,(C3 (b2 (b2 (A0 2) (vC (.int 0)) dIx) (vC (.str "add")) dEq)) [.sh B,.sh (.list fd),.sh d]=.ok false->∃ more:List PyData,more.length<=4/\(∀ x∈more,SgOf T [d] x)/\(∀ x∈more,∃ n,x=sgD p n)/\more.Pairwise sgR/\Qb [.sh B,.sh (.list fd),.sh d]=.nx [.sh B,.sh (.list (fd++more)),.sh d]:=fun d e=>by
   refine ⟨[],by simp,(fun _ h=>nomatch h),(fun _ h=>nomatch h),.nil,?_⟩
   unfold Qb; rw [N9 e,List.append_nil]; rfl
 rcases r with ⟨b,w,rfl,hb,hw⟩ | ⟨sg,rfl,_⟩ | ⟨n,s1,x1,s2,x2,rfl,_⟩ | ⟨n,rfl,_⟩ | ⟨i,rfl,_⟩
 . have er:X1 0 (w.length:Int)=(List.range w.length).map fun i:Nat=>PyData.int (0+(i:Int)):=by unfold X1; simp
   have g1:=Du (δc:=[.sh (.tuple [.str "add",idP p,b,.str w])]) (el:=E3 (A2 (b2 (A0 1) (vC (.int 1)) dIx) (A2 (A0 0) A8))) (fun i:Nat=>PyData.int (0+(i:Int))) (fun i=>sgD p (0+(i:Int))) (fun i=>by simp_arith [ix1]) (List.range w.length)
   have hl:=hw.2.1; refine ⟨(List.range w.length).map fun i:Nat=>sgD p (0+(i:Int)),by simp; exact hl,fun x hx=>?_,fun x hx=>?_,?_,?_⟩
   . obtain ⟨i,hi,rfl⟩:=List.mem_map.mp hx
     exact ⟨p,b,w,i,.head _,by rw [Int.zero_add],List.mem_range.mp hi,hT,o⟩
   . obtain ⟨i,hi,rfl⟩:=List.mem_map.mp hx
     exact ⟨_,rfl⟩
   . rw [List.pairwise_map]
     exact (List.pairwise_lt_range).imp fun {a b} h=>⟨p,p,_,_,rfl,rfl,o.2.2,o.2.2,.inr ⟨rfl,by lia⟩⟩
   . have ha:C9 (.list fd) (.list ((List.range w.length).map fun i:Nat=>sgD p (0+(i:Int))))=_:=Vi (by simp; lia)
     have e1:V6 [.str w]=some (.int (w.length:Int)):=rfl; unfold Qb; rw [U2 (by simp_arith [ix0,Az,Zc])]
     refine D9 (B8 rfl (T7 (M5 (ds:=X1 0 (w.length:Int)) (Qr (by simp_arith [ix3,e1]) (by lia) (by lia)) (by rw [er]; simp; lia) rfl (by rw [er]; exact g1))) ha)
 . exact no _ (by simp_arith [ix0,Az,show (("drop" : Str)==("add" : Str))=false from by decide +kernel])
 . exact no _ (by simp_arith [ix0,Az,show (("mark" : Str)==("add" : Str))=false from by decide +kernel])
 . exact no _ (by simp_arith [ix0,Az,show (("unmark" : Str)==("add" : Str))=false from by decide +kernel])
 . exact no _ (by simp_arith [ix0,Az,show (("undo" : Str)==("add" : Str))=false from by decide +kernel])
abbrev Dp:=PyData×IdP
theorem Lm {S:IdP->PyData->Prop} {U:IdP->IdP->Prop} {T:Int} (D:List PyData) (B:PyData):∀ (ds:List Dp),(∀ e∈ds,Wf e.2 (S e.2) (U e.2) e.1/\e.1∈D/\e.2.1 < T)->ds.Pairwise (fun a b=>key a.2 < key b.2)->∀ (fd:List PyData) (s2:Sl),fd.length+4*ds.length<=100->(∀ x∈fd,SgOf T D x) ->
   fd.Pairwise sgR->(∀ x∈fd,∃ q n,x=sgD q n/\okH q.2/\∀ e∈ds,key q < key e.2)->∃ (out:List PyData) (s2':Sl),out.length<=fd.length+4*ds.length/\(∀ x∈out,SgOf T D x)/\out.Pairwise sgR /\
   E5 (st1 2) Qb (ds.map (·.1)) [.sh B,.sh (.list fd),s2]=.nx [.sh B,.sh (.list out),s2']
 | [],_,_,fd,s2,_,hs,hp,_=>⟨fd,s2,by lia,hs,hp,rfl⟩
 | e::ds,hd,up,fd,s2,hl,hs,hp,hq=>by
   obtain ⟨w,m,ht⟩:=hd e (.head _); obtain ⟨more,l1,s1,i1,p1,e1⟩:=Vv w ht B fd (by simp at hl; lia)
   have up':=List.pairwise_cons.mp up; obtain ⟨out,s2',l2,s3,p3,e2⟩:=Lm D B ds (fun d' h'=>hd d' (.tail _ h')) up'.2 (fd++more) (.sh e.1) (by simp at hl ⊢; lia)
     (fun x hx=>(List.mem_append.mp hx).elim (hs x) fun z=>(s1 x z).mono fun q hq=>by rw [List.mem_singleton.mp hq]; exact m)
     (List.pairwise_append.mpr ⟨hp,p1,fun a ha b hb=>by
       obtain ⟨q,n,rfl,o,k⟩:=hq a ha; obtain ⟨n',rfl⟩:=i1 b hb; exact ⟨q,e.2,n,n',rfl,rfl,o,w.1.2.2,.inl (k e (.head _))⟩⟩)
     (fun x hx=>(List.mem_append.mp hx).elim (fun z=>by
       obtain ⟨q,n,h1,h2,h3⟩:=hq x z; exact ⟨q,n,h1,h2,fun e' he'=>h3 e' (.tail _ he')⟩) fun z=>by
       obtain ⟨n',rfl⟩:=i1 x z; exact ⟨e.2,n',rfl,w.1.2.2,fun e' he'=>up'.1 e' he'⟩)
   refine ⟨out,s2',by simp at l2 ⊢; lia,s3,p3,?_⟩
   rw [List.map_cons]; unfold E5; simp only [st1,List.set_cons_zero,List.set_cons_succ]; rw [e1]; exact e2
theorem Tb {S:IdP->PyData->Prop} {U:IdP->IdP->Prop} {T:Int} (ds:List Dp) (hd:∀ e∈ds,Wf e.2 (S e.2) (U e.2) e.1/\e.2.1 < T) (up:ds.Pairwise (fun a b=>key a.2 < key b.2)) (hl:ds.length<=9) :
   ∃ out:List PyData,K4 [.tuple (ds.map (·.1))]=.ok (.list out)/\out.length<=36/\(∀ x∈out,SgOf T (ds.map (·.1)) x)/\out.Pairwise sgR:=by
 obtain ⟨out,s2',l2,s3,p3,e2⟩:=Lm (ds.map (·.1)) (.tuple (ds.map (·.1))) ds (fun e h=>⟨(hd e h).1,List.mem_map_of_mem h,(hd e h).2⟩) up [] .un (by simp; lia) (fun _ h=>nomatch h) .nil (fun _ h=>nomatch h)
 refine ⟨out,?_,by simp at l2; lia,s3,p3⟩
 unfold K4 Z5 X4
 simp only [Cc,K9,Bv (E8 _ _),E8,K6,A8,D4,C4,Vw,List.map_cons,List.map_nil,List.length_cons,List.length_nil,List.replicate,List.cons_append,List.nil_append,List.set_cons_zero,List.set_cons_succ,Bv (N2 _ _ _),N2,Bp,De,E9,List.getElem?_cons_zero,Nat.reduceAdd,Nat.reduceSub]
 unfold Qb at e2
 rw [e2]
 simp_arith
theorem T2 {c:Dn->Res Bool} {g1 g2:Dn->Out} {δ:Dn} (h:c δ=.ok false):C6 (sIf c g1 F7) g2 δ=g2 δ:=B6 (N9 h)
theorem mulL {xs:List PyData} {n:Int} (h : -(2 ^ 63)<=n/\n < 2 ^ 63/\xs.length*n.toNat<=sizeLine):P3 (.list xs) (.int n)=some (.list (List.replicate n.toNat xs).flatten):=by
 show (if _ then _ else _)=_
 rw [if_pos h]
theorem lM (xs:List PyData):dNe (.list xs) (.list [])=some (.bool (!xs.isEmpty)):=by
 unfold dNe
 rw [if_pos (Nat.le_trans (Nat.min_le_right _ _) (by decide))]
 cases xs <;> rfl
theorem dEqL (xs:List PyData):dEq (.list xs) (.list [])=some (.bool xs.isEmpty):=by
 unfold dEq
 rw [if_pos (Nat.le_trans (Nat.min_le_right _ _) (by decide))]
 cases xs <;> rfl
theorem lL (xs:List PyData):dNe (.tuple xs) (.tuple [])=some (.bool (!xs.isEmpty)):=by
 unfold dNe
 rw [if_pos (Nat.le_trans (Nat.min_le_right _ _) (by decide))]
 cases xs <;> rfl
theorem ltI (a b:Int):P1 .Lt (.int a) (.int b)=some (.bool (decide (a < b))):=by
 unfold P1
 rw [if_pos (by simp [PyData.depth])]
 rfl
theorem hJ (a b:Int):dEq (.int a) (.int b)=some (.bool (a==b)):=by
 unfold dEq
 rw [if_pos (Nat.le_trans (Nat.min_le_left _ _) (by simp [PyData.depth]))]
 rfl
theorem Yn (t:Int) (h:Str):(idD t h).depth<=2:=by simp [idD,PyData.depth,PyData.depthAll]
theorem kJ (xs:List PyData):V6 [.list xs]=some (.int (xs.length:Int)):=rfl
theorem lenT (xs:List PyData):V6 [.tuple xs]=some (.int (xs.length:Int)):=rfl
theorem Qj (ns:List Int) (hns:ns.length<=63) (a:Int) (S:PyData->Prop) (sg:List PyData) (hs:∀ x∈sg,S x) (hl:sg.length<=36):∃ s x,M1 [scr ns,.int a,.list sg]=.ok (.tuple [s,.str x])/\OrN S s/\pA x:=by
 obtain ⟨r1,e1,a1,b1⟩:=K8 ns hns a ((sg.length:Int)+1) (by lia)
 obtain ⟨r2,e2,a2,b2'⟩:=K8 ns hns (a+1) 2 (by decide)
 obtain ⟨c,hc,f2⟩:=fZ (x := "lr") a2 (by rw [show ("lr" : Str).cps.toList.length=2 from by decide]; exact b2')
 have g:=Vi (x:=[.none]) (y:=sg) (by simp; lia)
 obtain ⟨s,hs',f1⟩:=ixL (xs:=[.none]++sg) a1 (by simp; lia)
 refine ⟨s,⟨#[c]⟩,?_,?_,?_⟩
 . unfold M1 W7 V1
   generalize [PyData.none]++sg=L at *
   simp_arith [g,kJ,V7,e1,f1,e2,f2]
 . rcases List.mem_append.mp hs' with h | h
   . exact .inl (List.mem_singleton.mp h)
   . exact .inr (hs s h)
 . have h':c∈[108,114]:=by rw [show ("lr" : Str).cps.toList=[108,114] from by decide] at hc; exact hc
   simp only [List.mem_cons,List.not_mem_nil,or_false] at h'; rcases h' with rfl | rfl
   . exact .inl (by decide)
   . exact .inr (by decide)
theorem Px {δc:Dn} {tt:Dn->Res Bool}:∀ (zs:List (PyData×PyData)),(∀ z∈zs,∃ b,tt ([.sh z.1,.sh z.2]++δc)=.ok b)->∃ ys:List PyData,D5 Iv δc tt (A0 1) (zs.map fun z=>.tuple [z.1,z.2])=.ok ys/\ys.Sublist (zs.map (·.2))
 | [],_=>⟨[],rfl,.slnil⟩
 | z::zs,h=>by
   obtain ⟨b,e⟩:=h z (.head _); obtain ⟨ys,e1,e2⟩:=Px zs fun z' hz=>h z' (.tail _ hz)
   rw [List.map_cons,List.map_cons]
   cases b with
   | true =>
     refine ⟨z.2::ys,?_,e2.cons_cons _⟩; unfold D5; rw [show Iv (.tuple [z.1,z.2])=.ok [.sh z.1,.sh z.2] from rfl]
     simp only [e,e1]; rfl
   | false =>
     refine ⟨ys,?_,e2.cons _⟩; unfold D5; rw [show Iv (.tuple [z.1,z.2])=.ok [.sh z.1,.sh z.2] from rfl]
     simp only [e,e1]
theorem kT (xs:List PyData):Eo xs=(xs.mapIdx fun i d=>(PyData.int i,d)).map fun z=>PyData.tuple [z.1,z.2]:=by
 unfold Eo
 apply List.ext_getElem?
 intro i
 simp [Function.comp_def]
theorem gL (xs:List PyData):(xs.mapIdx fun i d=>(PyData.int i,d)).map (·.2)=xs:=by
 apply List.ext_getElem?
 intro i
 simp only [List.getElem?_map,List.getElem?_mapIdx,Option.map_map]
 cases xs[i]? <;> rfl
theorem cQ {xs:List PyData} {x:PyData} (h:x∈Ba xs (some (-3)) none):x∈xs:=by
 unfold Ba at h
 exact List.mem_of_mem_drop (List.mem_of_mem_take h)
theorem lP (xs:List PyData) (lo hi:Option Int):(Ba xs lo hi).length<=xs.length:=by
 unfold Ba
 rw [List.length_take,List.length_drop]; exact Nat.le_trans (Nat.min_le_right _ _) (Nat.sub_le _ _)
theorem Ru {o:Out} {d:PyData} (h:o=.rt d):o.fin=.ok d:=by rw [h]; rfl
theorem aT {a b:Int} (h:a < b):P1 .Lt (.int a) (.int b)=some (.bool true):=by rw [ltI,decide_eq_true h]
theorem aU {a b:Int} (h:¬ a < b):P1 .Lt (.int a) (.int b)=some (.bool false):=by rw [ltI,decide_eq_false h]
theorem Ag {f g:Dn->Res Bool} {δ:Dn} (h1:f δ=.ok true) (h2:g δ=.ok true):T1 f g δ=.ok true:=by unfold T1; rw [h1,C4,if_pos rfl,h2]
theorem Ch {f g:Dn->Res Bool} {δ:Dn} (h1:f δ=.ok false):T1 f g δ=.ok false:=by unfold T1; rw [h1,C4,if_neg (by decide)]
theorem Ah {f g:Dn->Res Bool} {δ:Dn} (h1:f δ=.ok true) (h2:g δ=.ok false):T1 f g δ=.ok false:=by unfold T1; rw [h1,C4,if_pos rfl,h2]
theorem Vm {f:Dn->Res PyData} {lo hi:Dn->Res (Option Int)} {δ:Dn} {x y:PyData} {l u:Option Int} (h1:f δ=.ok x) (h2:lo δ=.ok l) (h3:hi δ=.ok u) (h4:bK x l u=some y):vSl f lo hi δ=.ok y:=by unfold vSl; rw [h1,C4,h2,C4,h3,C4,h4]; rfl
theorem lC (ns:List Int) (hns:ns.length<=63) {S:IdP->PyData->Prop} {U:IdP->IdP->Prop} (a:Int) (p:IdP) (ho:okI p) (kn0:List Dp) (hk:∀ e∈kn0,Wf e.2 (S e.2) (U e.2) e.1/\e.2.1 < p.1) (up:kn0.Pairwise (fun a b=>key a.2 < key b.2)) (hkl:kn0.length<=9) (x y z:Str) (hxyz:Bi x/\Bi y/\Bi z) :
   ∃ d,M7 [scr ns,.int a,idP p,.tuple (kn0.map (·.1)),.list [.str x,.str y,.str z]]=.ok d/\Wf p (SgOf p.1 (kn0.map (·.1))) (fun q=>∃ e∈kn0,e.2=q) d:=by
 have hids:∀ d∈kn0.map (·.1),∃ q:IdP,dIx d (.int 1)=some (idP q)/\∃ e∈kn0,e.2=q:=fun d hd=>by
   obtain ⟨e,he,rfl⟩:=List.mem_map.mp hd; obtain ⟨_,hf⟩:=(hk e he).1; refine ⟨e.2,?_,e,he,rfl⟩; rcases hf with ⟨_,_,q,_⟩ | ⟨_,q,_⟩ | ⟨_,_,_,_,_,q,_⟩ | ⟨_,q,_⟩ | ⟨_,q,_⟩ <;> rw [q] <;> exact O8 (j:=1) (by simp)
 obtain ⟨sg,es,hsl,hsg,hsr⟩:=Tb (T:=p.1) kn0 hk up hkl
 have hkl':(kn0.map (·.1)).length<=9:=by rw [List.length_map]; exact hkl
 generalize kn0.map (·.1)=kn at *
 obtain ⟨way,ew,w0,w1⟩:=K8 ns hns a 12 (by decide)
 obtain ⟨r5,e5,a5,b5⟩:=K8 ns hns (a+5) 3 (by decide)
 obtain ⟨nm,hnm,f5⟩:=ixL (xs:=[.str x,.str y,.str z]) a5 b5
 have:∃ q,nm=.str q/\Bi q:=by
   simp only [List.mem_cons,List.not_mem_nil,or_false] at hnm; rcases hnm with rfl | rfl | rfl
   . exact ⟨_,rfl,hxyz.1⟩
   . exact ⟨_,rfl,hxyz.2.1⟩
   . exact ⟨_,rfl,hxyz.2.2⟩
 obtain ⟨q,rfl,hq⟩:=this
 unfold M7 Aw Y6 Y5 Y4 Y3 Y2 Y1 Y0 X9 F9
 rw [Cc]
 simp only [K9,List.map_cons,List.map_nil,List.length_cons,List.length_nil,List.replicate,List.cons_append,List.nil_append,Nat.reduceAdd,Nat.reduceSub]
 rw [B6 (D9 (D1 (A6 rfl rfl) es)),B6 (D9 (D1 (A6 rfl (A6 rfl (A6 rfl rfl))) ew))]
 simp only [List.set_cons_zero,List.set_cons_succ]
 by_cases c1:way < 2/\sg≠[]
 . have t1 : (T1 (C3 (b2 (A0 6) (vC (.int 2)) (P1 .Lt))) (C3 (b2 (A0 5) (K6 A8) dNe))) [.sh (scr ns), .sh (.int a), .sh (idP p), .sh (.tuple kn), .sh (.list [.str x, .str y, .str z]), .sh (.list sg), .sh (.int way), .un, .un, .un] = .ok true := by
     have:sg.isEmpty=false:=by cases sg with | nil=>exact absurd rfl c1.2 | cons _ _=>rfl
     exact Ag (C7 (B8 rfl rfl (aT c1.1))) (C7 (B8 rfl rfl (by rw [lM,this]; rfl)))
   have hall:∀ z∈sg.mapIdx (fun i d=>(PyData.int i,d)),∃ b,(C3 (b2 (C5 (A2 (A0 2) (A2 (b2 (b2 (A0 3) (vC (.int 20)) C9) (A0 0) C9) (A2 (vC (.int 4)) A8))) A9) (vC (.int 0)) dEq)) ([.sh z.1,.sh z.2]++[.sh (scr ns),.sh (.int a)])=.ok b:=fun z hz=>by
     rw [List.mem_mapIdx] at hz; obtain ⟨i,hi,rfl⟩:=hz; obtain ⟨r,er,_,_⟩:=K8 ns hns (a+20+(i:Int)) 4 (by decide)
     refine ⟨r==0,?_⟩
     simp_arith [V7,er,hJ]
   obtain ⟨ys,g1,g2'⟩:=Px _ hall; rw [gL] at g2'; rw [<- kT] at g1; have g2:=g2'.length_le; have hel:(Eo sg).length=sg.length:=by unfold Eo; simp
   have n1:K3 (fun δ=>((A2 (A0 5) A8) δ).bind Mp) Iv [0,1] (C3 (b2 (C5 (A2 (A0 2) (A2 (b2 (b2 (A0 3) (vC (.int 20)) C9) (A0 0) C9) (A2 (vC (.int 4)) A8))) A9) (vC (.int 0)) dEq)) (A0 1) [.sh (scr ns),.sh (.int a),.sh (idP p),.sh (.tuple kn),.sh (.list [.str x,.str y,.str z]),.sh (.list sg),.sh (.int way),.un,.un,.un]=.ok ys :=
     M5 (ds:=Eo sg) (by show ((A2 (A0 5) A8) _).bind Mp=_; rw [A6 (d:=.list sg) (ds:=[]) rfl rfl]; rfl) (by lia) rfl g1
   have hex:∃ ex:List PyData,ex.length<=1/\((ys++ex).Sublist sg/\ys++ex≠[])/\P3 (.list (sg.take 1)) (.int (if ys.isEmpty=true then 1 else 0))=some (.list ex):=by
     have lt:(sg.take 1).length<=1:=by simp; lia
     cases ey:ys with
     | nil =>
       refine ⟨(List.replicate 1 (sg.take 1)).flatten,by simpa using lt,⟨by simpa using List.take_sublist 1 sg,fun z=>c1.2 ?_⟩,?_⟩
       . cases sg with
         | nil=>rfl
         | cons _ _=>simp at z
       . rw [if_pos (show List.isEmpty []=true from rfl)]
         exact mulL ⟨by decide,by decide,Nat.le_trans (show _<=1 by simpa using lt) (by decide)⟩
     | cons y0 yr =>
       refine ⟨[],by simp,⟨by rw [List.append_nil,<- ey]; exact g2',by simp⟩,?_⟩
       rw [if_neg (by simp)]; exact mulL ⟨by decide,by decide,by simp⟩
   obtain ⟨ex,exl,exs,hmul⟩:=hex; have hadd:=Vi (x:=ys) (y:=ex) (by lia)
   have cut1:bK (.list sg) none (some 1)=some (.list (sg.take 1)):=by
     show some (PyData.list (Ba sg none (some 1)))=_
     congr 2
     cases sg with
     | nil=>rfl
     | cons s r =>
       unfold Ba HT.sIx; simp
   have hint:Pw [.bool ys.isEmpty]=some (.int (if ys.isEmpty=true then 1 else 0)):=rfl
   have htup:∀ l,Ep [.list l]=some (.tuple l):=fun _=>rfl
   have hnew:dQ 8 (K3 (fun δ=>((A2 (A0 5) A8) δ).bind Mp) Iv [0,1] (C3 (b2 (C5 (A2 (A0 2) (A2 (b2 (b2 (A0 3) (vC (.int 20)) C9) (A0 0) C9) (A2 (vC (.int 4)) A8))) A9) (vC (.int 0)) dEq)) (A0 1)) [.sh (scr ns),.sh (.int a),.sh (idP p),.sh (.tuple kn),.sh (.list [.str x,.str y,.str z]),.sh (.list sg),.sh (.int way),.un,.un,.un]=.nx [.sh (scr ns),.sh (.int a),.sh (idP p),.sh (.tuple kn),.sh (.list [.str x,.str y,.str z]),.sh (.list sg),.sh (.int way),.un,.sh (.list ys),.un]:=by
     unfold dQ; rw [n1]; rfl
   have t2:(L3 (E3 (A2 (vC (.str "drop")) (A2 (A0 2) (A2 (vFn (A2 (b2 (A0 8) (b2 (vSl (A0 5) Bh (Bg (vC (.int 1)))) (vFn (A2 (b2 (A0 8) (K6 A8) dEq) A8) Pw) P3) C9) A8) Ep) A8))))) [.sh (scr ns),.sh (.int a),.sh (idP p),.sh (.tuple kn),.sh (.list [.str x,.str y,.str z]),.sh (.list sg),.sh (.int way),.un,.sh (.list ys),.un]=.rt (.tuple [.str "drop",idP p,.tuple (ys++ex)]):=by
     simp_arith [dEqL,hint,cut1,hmul,hadd,htup]
   rw [Dz ((U2 t1).trans ((B6 hnew).trans t2))]; refine ⟨_,rfl,ho,.inr (.inl ⟨_,rfl,fun s hs=>hsg s (exs.1.subset hs),?_,exs.2,hsr.sublist exs.1⟩)⟩
   rw [List.length_append]
   lia
 . have t1 : (T1 (C3 (b2 (A0 6) (vC (.int 2)) (P1 .Lt))) (C3 (b2 (A0 5) (K6 A8) dNe))) [.sh (scr ns), .sh (.int a), .sh (idP p), .sh (.tuple kn), .sh (.list [.str x, .str y, .str z]), .sh (.list sg), .sh (.int way), .un, .un, .un] = .ok false := by
     by_cases h2:way < 2
     . have:sg=[]:=Classical.byContradiction fun z=>c1 ⟨h2,z⟩
       subst this; exact Ah (C7 (B8 rfl rfl (aT h2))) (C7 (B8 rfl rfl (lM [])))
     . exact Ch (C7 (B8 rfl rfl (aU h2)))
   rw [T2 t1]
   by_cases c2:way < 5
   . obtain ⟨s1,x1,f1,g1,l1⟩:=Qj ns hns (a+1) (SgOf p.1 kn) sg hsg hsl
     obtain ⟨s2,x2,f2,g2,l2⟩:=Qj ns hns (a+3) (SgOf p.1 kn) sg hsg hsl; have hadd:=addT (x:=[.str "mark",idP p,.str q]) (y:=[.tuple [s1,.str x1],.tuple [s2,.str x2]]) (by simp)
     refine ⟨.tuple [.str "mark",idP p,.str q,.tuple [s1,.str x1],.tuple [s2,.str x2]],?_,ho,.inr (.inr (.inl ⟨q,s1,x1,s2,x2,rfl,g1,g2,hq,l1,l2⟩))⟩; exact Ru (Dz ((U2 (C7 (B8 rfl rfl (aT c2)))).trans ((B6 (D9 (Q8 (A6 (D1 (A6 rfl (A6 (B8 rfl rfl V7) (A6 rfl rfl))) f1) (A6 (D1 (A6 rfl (A6 (B8 rfl rfl V7) (A6 rfl rfl))) f2) rfl))))).trans (O7 (B8 (Q8 (A6 rfl (A6 rfl (A6 (B8 rfl (D1 (A6 rfl (A6 (B8 rfl rfl V7) (A6 rfl rfl))) e5) f5) rfl)))) rfl hadd)))))
   . by_cases c3:way=5
     . refine ⟨.tuple [.str "unmark",idP p,.str q],?_,ho,.inr (.inr (.inr (.inl ⟨q,rfl,hq⟩)))⟩
       rw [T2 (C7 (B8 rfl rfl (aU c2)))]; exact Ru (Dz ((U2 (C7 (B8 rfl rfl (by rw [hJ,c3]; rfl)))).trans (O7 (Q8 (A6 rfl (A6 rfl (A6 (B8 rfl (D1 (A6 rfl (A6 (B8 rfl rfl V7) (A6 rfl rfl))) e5) f5) rfl)))))))
     . have c3':(way==5)=false:=by simpa using c3
       by_cases c4:way < 8/\kn≠[]
       . have hne:kn.isEmpty=false:=by cases kn with | nil=>exact absurd rfl c4.2 | cons _ _=>rfl
         have hpos:(0:Int) < kn.length:=by cases kn with | nil=>exact absurd rfl c4.2 | cons _ _=>simp
         obtain ⟨r6,e6,a6,b6⟩:=K8 ns hns (a+6) (kn.length:Int) hpos; obtain ⟨d,hd,f6⟩:=Kg (xs:=kn) a6 b6; obtain ⟨qi,f7,hu⟩:=hids d hd; have f6':dIx (.tuple kn) (.int r6)=some d:=f6; refine ⟨.tuple [.str "undo",idP p,idP qi],?_,ho,.inr (.inr (.inr (.inr ⟨_,rfl,hu⟩)))⟩; rw [T2 (C7 (B8 rfl rfl (aU c2))),T2 (C7 (B8 rfl rfl (by rw [hJ,c3'])))]
         exact Ru (Dz ((U2 (Ag (C7 (B8 rfl rfl (aT c4.1))) (C7 (B8 rfl rfl (by rw [lL,hne]; rfl))))).trans (O7 (Q8 (A6 rfl (A6 rfl (A6 (B8 (B8 rfl (D1 (A6 rfl (A6 (B8 rfl rfl V7) (A6 (Eu (A6 rfl rfl) (lenT _)) rfl))) e6) f6') rfl f7) rfl)))))))
       . have t4 : (T1 (C3 (b2 (A0 6) (vC (.int 8)) (P1 .Lt))) (C3 (b2 (A0 3) (E3 A8) dNe))) [.sh (scr ns), .sh (.int a), .sh (idP p), .sh (.tuple kn), .sh (.list [.str x, .str y, .str z]), .sh (.list sg), .sh (.int way), .un, .un, .un] = .ok false := by
           by_cases h2:way < 8
           . have:kn=[]:=Classical.byContradiction fun z=>c4 ⟨h2,z⟩
             subst this; exact Ah (C7 (B8 rfl rfl (aT h2))) (C7 (B8 rfl rfl (lL [])))
           . exact Ch (C7 (B8 rfl rfl (aU h2)))
         obtain ⟨w,ew2,wl⟩:=cA ns hns (a+8); have g1:=Vi (x:=[.none]) (y:=sg) (by simp; lia)
         have hc:bK (.list sg) (some (-3)) none=some (.list (Ba sg (some (-3)) none)):=rfl; have hcl:=lP sg (some (-3)) none; have hcm:∀ s∈Ba sg (some (-3)) none,SgOf p.1 kn s:=fun s hs=>hsg s (cQ hs)
         generalize Ba sg (some (-3)) none=ct at *
         have g2:=Vi (x:=[.none]++sg) (y:=ct) (by simp; lia)
         obtain ⟨r7,e7,a7,b7⟩:=K8 ns hns (a+7) ((sg.length:Int)+1+(ct.length:Int)) (by lia)
         obtain ⟨bh,hbh,f7⟩:=ixL (xs:=[.none]++sg++ct) a7 (by simp; lia)
         have hneg:Bm (.int 3)=some (.int (-3)):=rfl; have hb:OrN (SgOf p.1 kn) bh:=by
           rcases List.mem_append.mp hbh with h | h
           . rcases List.mem_append.mp h with h | h
             . exact .inl (List.mem_singleton.mp h)
             . exact .inr (hsg bh h)
           . exact .inr (hcm bh h)
         generalize [PyData.none]++sg=L1 at *
         generalize L1++ct=L2' at *
         refine ⟨.tuple [.str "add",idP p,bh,.str w],?_,ho,.inl ⟨bh,w,rfl,hb,wl⟩⟩; rw [T2 (C7 (B8 rfl rfl (aU c2))),T2 (C7 (B8 rfl rfl (by rw [hJ,c3']))),T2 t4]
         have sl:vSl (A0 5) (Bg (b1 (vC (.int 3)) Bm)) Bh [.sh (scr ns),.sh (.int a),.sh (idP p),.sh (.tuple kn),.sh (.list [.str x,.str y,.str z]),.sh (.list sg),.sh (.int way),.un,.un,.un]=.ok (.list ct):=Vm rfl rfl rfl hc; exact Ru ((B6 (D9 (B8 (B8 (B8 rfl rfl g1) sl g2) (D1 (A6 rfl (A6 (B8 rfl rfl V7) (A6 (B8 (B8 (Eu (A6 rfl rfl) (kJ _)) rfl V7) (Eu (A6 sl rfl) (kJ _)) V7) rfl))) e7) f7))).trans (O7 (Q8 (A6 rfl (A6 rfl (A6 rfl (A6 (D1 (A6 rfl (A6 (B8 rfl rfl V7) rfl)) ew2) rfl)))))))
noncomputable def Yx:Dn->Out:=(C6 (E8 7 (b2 (b2 (A0 5) (vC (.int 0)) dIx) (C5 (A2 (A0 0) (A2 (b2 (b2 (A0 1) (vC (.int 1)) C9) (b2 (vC (.int 60)) (A0 6) P3) C9) (A2 (vC (.int 2)) A8))) A9) C9)) (C6 (E8 8 (b2 (vC (.str "abc")) (C5 (A2 (A0 0) (A2 (b2 (b2 (A0 1) (vC (.int 2)) C9) (b2 (vC (.int 60)) (A0 6) P3) C9) (A2 (vC (.int 3)) A8))) A9) dIx)) (C6 (sIf (T1 (C3 (b2 (A0 4) (E3 A8) dNe)) (C3 (b2 (E3 (A2 (A0 7) (A2 (A0 8) A8))) (A0 5) (P1 .LtE)))) (E8 7 (b2 (b2 (A0 5) (vC (.int 0)) dIx) (vC (.int 1)) C9)) F7) (C6 (E8 5 (E3 (A2 (A0 7) (A2 (A0 8) A8)))) (C6 (E8 9 (vFn (A2 (K6 (K3 (fun δ=>((A0 4) δ).bind E9) E7 [7] (C3 (b2 (b2 (b2 (A0 0) (vC (.int 1)) dIx) (vC (.int 0)) dIx) (A0 1) (P1 .Lt))) (A0 0))) A8) Ep)) (E8 4 (b2 (A0 4) (E3 (A2 (C5 (A2 (A0 0) (A2 (b2 (b2 (A0 1) (vC (.int 3)) C9) (b2 (vC (.int 60)) (A0 6) P3) C9) (A2 (A0 5) (A2 (A0 9) (A2 (A0 3) A8))))) M7) A8)) C9)))))))
theorem leS (h h':Str) (k:okH h) (k':okH h'):(h==h')=decide (hj h=hj h')/\aC .LtE h h'=decide (hj h<=hj h'):=by
 rcases k with rfl | rfl | rfl <;> rcases k' with rfl | rfl | rfl <;> exact ⟨by decide +kernel,by decide +kernel⟩
theorem leIdE {t t':Int} {h h':Str} (k:okH h) (k':okH h'):P1 .LtE (idD t h) (idD t' h')=some (.bool (decide (key (t,h)<=key (t',h')))):=by
 obtain ⟨e1,e2⟩:=leS h h' k k'
 have l1:=Ug h
 have l2:=Ug h'
 unfold P1 key
 rw [if_pos (Nat.le_trans (Yn t h) (by decide))]
 show (Fp .LtE [.int t,.str h] [.int t',.str h']).map PyData.bool=_
 simp only [Fp]
 have f1:PyData.eqv (.int t) (.int t')=(t==t'):=rfl
 have f2:PyData.eqv (.str h) (.str h')=(h==h'):=rfl
 rw [f1,f2,e1]
 by_cases c1:t=t'
 . subst c1
   rw [if_pos (by simp)]
   by_cases c2:hj h=hj h'
   . rw [if_pos (by simp [c2])]
     simp [Vk,c2]
   . rw [if_neg (by simp [c2])]
     show (some (aC .LtE h h')).map PyData.bool=_
     rw [e2]; simp only [Option.map_some]
     congr 3
     apply propext; lia
 . rw [if_neg (by simp [c1])]
   show (some (decide (t<=t'))).map PyData.bool=_
   simp only [Option.map_some]
   congr 3
   apply propext; lia
theorem Wf.id {p:IdP} {S:PyData->Prop} {U:IdP->Prop} {d:PyData} (w:Wf p S U d):dIx d (.int 1)=some (idP p):=by
 obtain ⟨_,hf⟩:=w
 rcases hf with ⟨_,_,q,_⟩ | ⟨_,q,_⟩ | ⟨_,_,_,_,_,q,_⟩ | ⟨_,q,_⟩ | ⟨_,q,_⟩ <;> rw [q] <;> exact O8 (j:=1) (by simp)
theorem ix0 (x:PyData) (xs:List PyData):dIx (.tuple (x::xs)) (.int 0)=some x:=O8 (xs:=x::xs) (j:=0) (by simp)
theorem abc {c:Nat} (h:c∈("abc" : Str).cps.toList):(⟨#[c]⟩:Str) = "a" \/ (⟨#[c]⟩:Str) = "b" \/ (⟨#[c]⟩:Str) = "c" := by
 have h':c∈[97,98,99]:=by
   have:("abc" : Str).cps.toList=[97,98,99]:=by decide
   rw [this] at h; exact h
 simp only [List.mem_cons,List.not_mem_nil,or_false] at h'
 rcases h' with rfl | rfl | rfl
 . exact .inl (by decide)
 . exact .inr (.inl (by decide))
 . exact .inr (.inr (by decide))
theorem Yt {δc:Dn} {tt:Dn->Res Bool} (f:Dp->Bool):∀ L:List Dp,(∀ e∈L,tt ([.sh e.1]++δc)=.ok (f e))->D5 E7 δc tt (A0 0) (L.map (·.1))=.ok ((L.filter f).map (·.1))
 | [],_=>rfl
 | e::L,h=>by
   have h1:=h e (.head _); have ih:=Yt f L fun e' he=>h e' (.tail _ he)
   rw [List.map_cons]; unfold D5; rw [show E7 e.1=.ok [.sh e.1] from rfl]
   simp only [h1,ih]
   cases hf:f e with
   | true=>rw [List.filter_cons_of_pos hf]; rfl
   | false=>rw [List.filter_cons_of_neg (by rw [hf]; decide)]
def Upk (L:List Dp):Prop:=L.Pairwise fun a b=>key a.2 < key b.2
def WfIn (L:List Dp) (e:Dp):Prop:=Wf e.2 (SgOf e.2.1 (L.map (·.1))) (fun q=>(∃ e'∈L,e'.2=q)/\q.1 < e.2.1) e.1
def BkW (L:List Dp):Prop:=(∀ e∈L,WfIn L e)/\Upk L
theorem WfIn.mono {L L':List Dp} {e:Dp} (h:WfIn L e) (k:∀ x∈L,x∈L'):WfIn L' e :=
 Wf.mono h (fun x hx=>hx.mono fun d hd=>by obtain ⟨y,hy,rfl⟩:=List.mem_map.mp hd; exact List.mem_map_of_mem (k y hy)) fun q hZ1=>by obtain ⟨⟨y,hy,e⟩,hq⟩:=hZ1; exact ⟨⟨y,k y hy,e⟩,hq⟩
theorem bP (ns:List Int) (hns:ns.length<=63) (x y z:Str) (hxyz:Bi x/\Bi y/\Bi z) (k:Int) (hk:0<=k) (hk2:k < 9) (j:Nat) (hj:j < 9) (L:List Dp) (hl:L.length=j) (hd:BkW L) (t:Int) (h:Str) (ht:1<=t) (ht2:t<=j+1) (hth:okH h) (s7 s8 s9:Sl) :
   ∃ (d:PyData) (t':Int) (h':Str) (s7' s8' s9':Sl),WfIn L (d,(t',h'))/\1<=t'/\t'<=((j+1:Nat):Int)+1/\okH h'/\(L=[]\/key (t,h) < key (t',h'))/\Yx [.sh (scr ns),.sh (.int 10),.sh (.int 9),.sh (.list [.str x,.str y,.str z]),.sh (.tuple (L.map (·.1))),.sh (idD t h),.sh (.int k),s7,s8,s9]
     = .nx [.sh (scr ns),.sh (.int 10),.sh (.int 9),.sh (.list [.str x,.str y,.str z]),.sh (.tuple (L.map (·.1)++[d])),.sh (idD t' h'),.sh (.int k),s7',s8',s9']:=by
 obtain ⟨r1,e1,a1,b1⟩:=K8 ns hns (10+1+60*k) 2 (by decide)
 obtain ⟨r2,e2,a2,b2'⟩:=K8 ns hns (10+2+60*k) 3 (by decide)
 obtain ⟨c,hc,f2⟩:=fZ (x := "abc") a2 (by have:("abc" : Str).cps.toList.length=3:=(by decide); rw [this]; exact b2')
 have hh:=abc hc
 generalize (⟨#[c]⟩:Str)=hd' at *
 have eb:=leIdE (t:=t+r1) (t':=t) (show okH hd' from hh) hth
 have go : ∀ tt : Int, 1 <= tt -> tt <= j + 2 -> ∃ d, WfIn L (d, (tt, hd')) /\ ∃ kn, (C6 (E8 5 (E3 (A2 (A0 7) (A2 (A0 8) A8)))) (C6 (E8 9 (vFn (A2 (K6 (K3 (fun δ => ((A0 4) δ).bind E9) E7 [7] (C3 (b2 (b2 (b2 (A0 0) (vC (.int 1)) dIx) (vC (.int 0)) dIx) (A0 1) (P1 .Lt))) (A0 0))) A8) Ep)) (E8 4 (b2 (A0 4) (E3 (A2 (C5 (A2 (A0 0) (A2 (b2 (b2 (A0 1) (vC (.int 3)) C9) (b2 (vC (.int 60)) (A0 6) P3) C9) (A2 (A0 5) (A2 (A0 9) (A2 (A0 3) A8))))) M7) A8)) C9))))
     [.sh (scr ns),.sh (.int 10),.sh (.int 9),.sh (.list [.str x,.str y,.str z]),.sh (.tuple (L.map (·.1))),.sh (idD t h),.sh (.int k),.sh (.int tt),.sh (.str hd'),s9]
     = .nx [.sh (scr ns),.sh (.int 10),.sh (.int 9),.sh (.list [.str x,.str y,.str z]),.sh (.tuple (L.map (·.1)++[d])),.sh (idD tt hd'),.sh (.int k),.sh (.int tt),.sh (.str hd'),.sh (.tuple kn)]:=fun tt h1 h2=>by
   have g1:=Yt (δc:=[.sh (.int tt)]) (tt:=C3 (b2 (b2 (b2 (A0 0) (vC (.int 1)) dIx) (vC (.int 0)) dIx) (A0 1) (P1 .Lt))) (fun e=>decide (e.2.1 < tt)) L fun e he=>by
     have:=(hd.1 e he).id
     simp_arith [this,ix0,ltI]
   have fm:∀ e∈L.filter fun e=>decide (e.2.1 < tt),e∈L/\e.2.1 < tt:=fun e he=>by
     obtain ⟨m,q⟩:=List.mem_filter.mp he; exact ⟨m,of_decide_eq_true q⟩
   have fl:=List.length_filter_le (fun e:Dp=>decide (e.2.1 < tt)) L
   obtain ⟨d,ed,wd'⟩:=lC ns hns (S:=fun p=>SgOf p.1 (L.map (·.1))) (U:=fun p q=>(∃ e'∈L,e'.2=q)/\q.1 < p.1) (10+3+60*k) (tt,hd') ⟨h1,by simp only; lia,hh⟩ (L.filter fun e=>decide (e.2.1 < tt)) (fun e he=>⟨hd.1 e (fm e he).1,(fm e he).2⟩) (hd.2.filter _) (by lia) x y z hxyz
   have wd:WfIn L (d,(tt,hd')):=wd'.mono (fun x hx=>hx.mono fun q hq=>by obtain ⟨e,he,rfl⟩:=List.mem_map.mp hq; exact List.mem_map_of_mem (fm e he).1) fun q hZ1=>by obtain ⟨e,he,hq⟩:=hZ1; exact ⟨⟨e,(fm e he).1,hq⟩,hq▸(fm e he).2⟩
   have ll:(L.map (·.1)).length=j:=by rw [List.length_map]; exact hl
   generalize (L.filter fun e=>decide (e.2.1 < tt)).map (·.1)=kn at *
   refine ⟨d,wd,kn,?_⟩; have hadd:=addT (x:=L.map (·.1)) (y:=[d]) (by simp; lia)
   have htup:Ep [.list kn]=some (.tuple kn):=rfl; rw [B6 (D9 (Q8 (A6 rfl (A6 rfl rfl))))]; simp only [List.set_cons_zero,List.set_cons_succ]; rw [B6 (D9 (Eu (A6 (T7 (M5 (K2 rfl rfl) (by lia) rfl g1)) rfl) htup))]; simp only [List.set_cons_zero,List.set_cons_succ]
   simp_arith [V7,fO,ed,hadd]
 unfold Yx
 rw [B6 (D9 (d:=.int (t+r1)) (by simp_arith [ix0,V7,fO,e1]))]
 simp only [List.set_cons_zero,List.set_cons_succ]
 rw [B6 (D9 (d:=.str hd') (by simp_arith [V7,fO,e2,f2]))]
 simp only [List.set_cons_zero,List.set_cons_succ]
 have hc1:∃ b,(b=false->L=[]\/key (t,h) < key (t+r1,hd'))/\(T1 (C3 (b2 (A0 4) (E3 A8) dNe)) (C3 (b2 (E3 (A2 (A0 7) (A2 (A0 8) A8))) (A0 5) (P1 .LtE)))) [.sh (scr ns),.sh (.int 10),.sh (.int 9),.sh (.list [.str x,.str y,.str z]),.sh (.tuple (L.map (·.1))),.sh (idD t h),.sh (.int k),.sh (.int (t+r1)),.sh (.str hd'),s9]=.ok b:=by
   cases he:(L.map (·.1)).isEmpty with
   | true=>exact ⟨false,fun _=>.inl (by cases L with | nil=>rfl | cons _ _=>cases he),by simp_arith [lL,he,Bool.not_true]⟩
   | false=>exact ⟨decide (key (t+r1,hd')<=key (t,h)),fun z=>.inr (by have:=of_decide_eq_false z; lia),by simp_arith [lL,he,Bool.not_false,eb]⟩
 obtain ⟨b,hbk,hb⟩:=hc1
 cases b with
 | true =>
   obtain ⟨d,wd,kn,ek⟩:=go (t+1) (by lia) (by lia)
   refine ⟨d,t+1,hd',.sh (.int (t+1)),.sh (.str hd'),.sh (.tuple kn),wd,by lia,by lia,hh,.inr (by have:=Ug h; unfold key; simp only; lia),?_⟩
   rw [B6 ((U2 hb).trans (D9 (d:=.int (t+1)) (by simp_arith [ix0,V7])))]
   simp only [List.set_cons_zero,List.set_cons_succ]; exact ek
 | false =>
   obtain ⟨d,wd,kn,ek⟩:=go (t+r1) (by lia) (by lia)
   refine ⟨d,t+r1,hd',.sh (.int (t+r1)),.sh (.str hd'),.sh (.tuple kn),wd,by lia,by lia,hh,hbk rfl,?_⟩
   rw [T2 hb]; exact ek
theorem BkW.snoc {L:List Dp} {d:PyData} {p q:IdP} (h:BkW L) (w:WfIn L (d,q)) (hk:∀ e∈L,key e.2<=key p) (hq:L=[]\/key p < key q):BkW (L++[(d,q)])/\∀ e∈L++[(d,q)],key e.2<=key q:=by
 have lt:∀ e∈L,key e.2 < key q:=fun e he=>by
   rcases hq with z | z
   . rw [z] at he; exact nomatch he
   . have:=hk e he; lia
 have up:∀ x∈L,x∈L++[(d,q)]:=fun x hx=>List.mem_append_left _ hx
 refine ⟨⟨fun e he=>?_,?_⟩,fun e he=>?_⟩
 . rcases List.mem_append.mp he with z | z
   . exact (h.1 e z).mono up
   . rw [List.mem_singleton.mp z]; exact w.mono up
 . exact List.pairwise_append.mpr ⟨h.2,List.pairwise_singleton _ _,fun a ha b hb=>by rw [List.mem_singleton.mp hb]; exact lt a ha⟩
 . rcases List.mem_append.mp he with z | z
   . exact Int.le_of_lt (lt e z)
   . rw [List.mem_singleton.mp z]; exact Int.le_refl _
theorem Pz (ns:List Int) (hns:ns.length<=63) (x y z:Str) (hxyz:Bi x/\Bi y/\Bi z):∀ (l:List PyData),(∀ d∈l,∃ k:Int,d=.int k/\0<=k/\k < 9)->∀ (j:Nat) (L:List Dp) (t:Int) (h:Str) (s6 s7 s8 s9:Sl),j+l.length<=9->L.length=j->BkW L->(∀ e∈L,key e.2<=key (t,h))->1<=t->t<=j+1->okH h ->
   ∃ L' s5 s6' s7' s8' s9',BkW L'/\L'.length<=9/\E5 (st1 6) Yx l [.sh (scr ns),.sh (.int 10),.sh (.int 9),.sh (.list [.str x,.str y,.str z]),.sh (.tuple (L.map (·.1))),.sh (idD t h),s6,s7,s8,s9]=.nx [.sh (scr ns),.sh (.int 10),.sh (.int 9),.sh (.list [.str x,.str y,.str z]),.sh (.tuple (L'.map (·.1))),s5,s6',s7',s8',s9']
 | [],_,j,L,t,h,s6,s7,s8,s9,hj,hl,hd,_,_,_,_=>⟨L,_,_,_,_,_,hd,by simp at hj; lia,rfl⟩
 | d0::l,hk,j,L,t,h,s6,s7,s8,s9,hj,hl,hd,hb,h1,h2,h3=>by
   obtain ⟨k,rfl,k0,k1⟩:=hk d0 (.head _); simp only [List.length_cons] at hj; obtain ⟨d,t',h',s7',s8',s9',wd,t1,t2,t3,kk,e⟩:=bP ns hns x y z hxyz k k0 k1 j (by lia) L hl hd t h h1 h2 h3 s7 s8 s9
   obtain ⟨hB,hB2⟩:=hd.snoc wd hb kk; obtain ⟨L',s5,s6',s7'',s8'',s9'',w',l',e'⟩:=Pz ns hns x y z hxyz l (fun d hd=>hk d (.tail _ hd)) (j+1) (L++[(d,(t',h'))]) t' h' (.sh (.int k)) s7' s8' s9' (by lia) (by simp [hl]) hB hB2 t1 t2 t3
   refine ⟨L',s5,s6',s7'',s8'',s9'',w',l',?_⟩; unfold E5; simp only [st1,List.set_cons_zero,List.set_cons_succ]; rw [e]; rw [List.map_append] at e'; exact e'
theorem lU (ns:List Int) (hns:ns.length<=63) (x y z:Str) (hxyz:Bi x/\Bi y/\Bi z):∃ L,V4 [scr ns,.int 10,.int 9,.list [.str x,.str y,.str z]]=.ok (.tuple (L.map (·.1)))/\L.length<=9/\BkW L:=by
 obtain ⟨r,e,a,b⟩:=K8 ns hns 10 (9+1) (by decide)
 have hmem:∀ d∈X1 0 r,∃ k:Int,d=.int k/\0<=k/\k < 9:=fun d hd=>by
   unfold X1 at hd; obtain ⟨i,hi,rfl⟩:=List.mem_map.mp hd; have:=List.mem_range.mp hi; exact ⟨_,rfl,by lia,by lia⟩
 have hlen:(X1 0 r).length<=9:=by unfold X1; simp; lia
 obtain ⟨L,s5,s6,s7,s8,s9,w,l,e'⟩:=Pz ns hns x y z hxyz (X1 0 r) hmem 0 [] 1 "a" .un .un .un .un (by lia) rfl ⟨(fun _ h=>nomatch h),.nil⟩ (fun _ h=>nomatch h) (by decide) (by decide) (.inl rfl)
 refine ⟨L,T5 ?_,l,w⟩
 unfold Ay Z0 Y9 Y8 Y7 M9
 simp only [K9,List.map_cons,List.map_nil,List.length_cons,List.length_nil,List.replicate,List.cons_append,List.nil_append,Nat.reduceAdd,Nat.reduceSub]
 rw [B6 (D9 (d:=.tuple []) rfl),B6 (D9 (d:=idD 1 "a") rfl)]
 simp only [List.set_cons_zero,List.set_cons_succ]
 have hfor:N2 (fun δ=>((A2 (C5 (A2 (A0 0) (A2 (A0 1) (A2 (b2 (A0 2) (vC (.int 1)) C9) A8))) A9) A8) δ).bind Eg) (st1 6) Yx [.sh (scr ns),.sh (.int 10),.sh (.int 9),.sh (.list [.str x,.str y,.str z]),.sh (.tuple []),.sh (idD 1 "a"),.un,.un,.un,.un]=.nx [.sh (scr ns),.sh (.int 10),.sh (.int 9),.sh (.list [.str x,.str y,.str z]),.sh (.tuple (L.map (·.1))),s5,s6,s7,s8,s9]:=by
   unfold N2; have:=Qr (fs:=A2 (C5 (A2 (A0 0) (A2 (A0 1) (A2 (b2 (A0 2) (vC (.int 1)) C9) A8))) A9) A8) (δ:=[.sh (scr ns),.sh (.int 10),.sh (.int 9),.sh (.list [.str x,.str y,.str z]),.sh (.tuple []),.sh (idD 1 "a"),.un,.un,.un,.un]) (n:=r) (by simp_arith [V7,e]) a (by lia)
   rw [this,D4]; exact e'
 exact (B6 hfor).trans (O7 rfl)
structure Ad where
 p:IdP
 b:Option (IdP×Nat)
 w:Str
abbrev As:=Ad×Nat
abbrev sgn (u:As):IdP×Nat:=(u.1.p,u.2)
noncomputable def blk (e:Ad):List As:=(List.range e.w.length).map fun k=>(e,k)
noncomputable def Jo (s:IdP×Nat) (l:List As):List As->List As
 | []=>[]
 | u::r=>if sgn u=s then u::(l++r) else u::Jo s l r
noncomputable def bC (x:Option (IdP×Nat)) (l L:List As):List As:=match x with
 | none=>l++L
 | some s=>Jo s l L
noncomputable def ord (B:List Ad):List As:=B.foldl (fun L a=>bC a.b (blk a) L) []
theorem Di (B:List Ad) (e:Ad):ord (B++[e])=bC e.b (blk e) (ord B):=by unfold ord; rw [List.foldl_append]; rfl
inductive Bk:List Ad->Prop where
 | nil:Bk []
 | snoc {B:List Ad} {e:Ad}:Bk B->0 < e.w.length->(∀ a∈B,key a.p < key e.p)->(e.b=none\/∃ a∈B,∃ n,n < a.w.length/\e.b=some (a.p,n))->Bk (B++[e])
theorem Yd {e:Ad} {u:As}:u∈blk e↔u.1=e/\u.2 < e.w.length:=by
 unfold blk
 rw [List.mem_map]
 constructor
 . rintro ⟨k,hk,rfl⟩; exact ⟨rfl,List.mem_range.mp hk⟩
 . rintro ⟨h1,h2⟩; exact ⟨u.2,List.mem_range.mpr h2,by rw [<- h1]⟩
theorem Uf {s:IdP×Nat} {l:List As} {v:As}:∀ {L:List As},(∃ u∈L,sgn u=s)->(v∈Jo s l L↔v∈l\/v∈L)
 | [],h=>by obtain ⟨u,hu,_⟩:=h; cases hu
 | u::r,h=>by
   unfold Jo
   split
   . rw [List.mem_cons,List.mem_append,List.mem_cons]
     constructor
     . rintro (h | h | h)
       . exact .inr (.inl h)
       . exact .inl h
       . exact .inr (.inr h)
     . rintro (h | h | h)
       . exact .inr (.inl h)
       . exact .inl h
       . exact .inr (.inr h)
   . rename_i hn
     have h':∃ u∈r,sgn u=s:=by
       obtain ⟨x,hx,e⟩:=h; rcases List.mem_cons.mp hx with rfl | hx
       . exact absurd e hn
       . exact ⟨x,hx,e⟩
     rw [List.mem_cons,Uf h',List.mem_cons]
     constructor
     . rintro (h | h | h)
       . exact .inr (.inl h)
       . exact .inl h
       . exact .inr (.inr h)
     . rintro (h | h | h)
       . exact .inr (.inl h)
       . exact .inl h
       . exact .inr (.inr h)
theorem Bk.pos {B:List Ad} (h:Bk B):∀ a∈B,0 < a.w.length:=by
 induction h with
 | nil=>intro a h; cases h
 | snoc _ h0 _ _ ih =>
   intro a ha; rcases List.mem_append.mp ha with ha | ha
   . exact ih a ha
   . rw [List.mem_singleton.mp ha]; exact h0
theorem Bk.refs {B:List Ad} (h:Bk B):∀ c∈B,∀ q n,c.b=some (q,n)->∃ a∈B,a.p=q/\n < a.w.length:=by
 induction h with
 | nil=>intro a h; cases h
 | @snoc B e _ h0 _ hb ih =>
   intro c hc q n e1; rcases List.mem_append.mp hc with hc | hc
   . obtain ⟨a,ha,r⟩:=ih c hc q n e1; exact ⟨a,List.mem_append.mpr (.inl ha),r⟩
   . rw [List.mem_singleton.mp hc] at e1
     rcases hb with hb | ⟨a,ha,n',hn,hb⟩
     . rw [hb] at e1; cases e1
     . rw [hb] at e1; cases e1; exact ⟨a,List.mem_append.mpr (.inl ha),rfl,hn⟩
theorem Bk.nokid {B:List Ad} {e:Ad} (h:Bk B) (hk:∀ a∈B,key a.p < key e.p) (hb:e.b=none\/∃ a∈B,∃ n,n < a.w.length/\e.b=some (a.p,n)):∀ c∈B++[e],∀ n,c.b≠some (e.p,n):=by
 intro c hc n z
 have:∃ a∈B,a.p=e.p:=by
   rcases List.mem_append.mp hc with hc | hc
   . obtain ⟨a,ha,r,_⟩:=h.refs c hc _ _ z; exact ⟨a,ha,r⟩
   . rw [List.mem_singleton.mp hc] at z
     rcases hb with hb | ⟨a,ha,n',hn,hb⟩
     . rw [hb] at z; cases z
     . rw [hb] at z; exact ⟨a,ha,congrArg Prod.fst (Option.some.inj z)⟩
 obtain ⟨a,ha,r⟩:=this
 have:=hk a ha
 rw [r] at this
 lia
theorem P8 {B:List Ad} (h:Bk B):∀ u,u∈ord B↔u.1∈B/\u.2 < u.1.w.length:=by
 induction h with
 | nil=>intro u; constructor <;> intro h <;> simp [ord] at h
 | @snoc B e hB h0 hk hb ih =>
   intro u; have key:u∈bC e.b (blk e) (ord B)↔u∈blk e\/u∈ord B:=by
     rcases hb with hb | ⟨a,ha,n,hn,hb⟩
     . rw [hb]; exact List.mem_append
     . rw [hb]; exact Uf ⟨(a,n),(ih (a,n)).mpr ⟨ha,hn⟩,rfl⟩
   rw [Di,key,Yd,ih,List.mem_append,List.mem_singleton]
   constructor
   . rintro (⟨h1,h2⟩ | ⟨h1,h2⟩)
     . exact ⟨.inr h1,by rw [h1]; exact h2⟩
     . exact ⟨.inl h1,h2⟩
   . rintro ⟨h1 | h1,h2⟩
     . exact .inr ⟨h1,h2⟩
     . exact .inl ⟨h1,by rw [<- h1]; exact h2⟩
theorem Pl {s:IdP×Nat} {l:List As}:∀ {L:List As},(∃ u∈L,sgn u=s)->(Jo s l L).Perm (l++L)
 | [],h=>by obtain ⟨u,hu,_⟩:=h; cases hu
 | u::r,h=>by
   unfold Jo
   split
   . exact (List.perm_middle (l₁:=l) (a:=u) (l₂:=r)).symm
   . rename_i hn
     have h':∃ u∈r,sgn u=s:=by
       obtain ⟨x,hx,e⟩:=h; rcases List.mem_cons.mp hx with rfl | hx
       . exact absurd e hn
       . exact ⟨x,hx,e⟩
     exact ((Pl h').cons u).trans (List.perm_middle (l₁:=l) (a:=u) (l₂:=r)).symm
theorem Pm {B:List Ad} {e:Ad} (hB:Bk B) (hb:e.b=none\/∃ a∈B,∃ n,n < a.w.length/\e.b=some (a.p,n)):(bC e.b (blk e) (ord B)).Perm (blk e++ord B):=by
 rcases hb with hb | ⟨a,ha,n,hn,hb⟩
 . rw [hb]; exact List.Perm.refl _
 . rw [hb]; exact Pl ⟨(a,n),(P8 hB (a,n)).mpr ⟨ha,hn⟩,rfl⟩
noncomputable def sgs (B:List Ad):List As:=B.flatMap blk
theorem Tt {B:List Ad} (h:Bk B):(ord B).Perm (sgs B):=by
 induction h with
 | nil=>exact List.Perm.refl _
 | @snoc B e hB h0 hk hb ih =>
   rw [Di]; unfold sgs; rw [List.flatMap_append]; refine (Pm hB hb).trans ?_; refine List.perm_append_comm.trans ?_; rw [List.flatMap_cons,List.flatMap_nil,List.append_nil]; exact List.Perm.append_right _ ih
theorem bQ (e:Ad):((blk e).map sgn).Nodup:=by
 unfold blk
 rw [List.map_map,List.nodup_iff_pairwise_ne,List.pairwise_map]
 refine List.Pairwise.imp ?_ (List.nodup_iff_pairwise_ne.mp List.nodup_range)
 intro a b h z
 exact h (congrArg Prod.snd z)
theorem Pg {B:List Ad} (h:Bk B):((ord B).map sgn).Nodup:=by
 induction h with
 | nil=>exact .nil
 | @snoc B e hB h0 hk hb ih =>
   rw [Di]; refine ((Pm hB hb).map sgn).nodup_iff.mpr ?_; rw [List.map_append,List.nodup_append]; refine ⟨bQ e,ih,fun x hx y hy z=>?_⟩
   obtain ⟨u,hu,rfl⟩:=List.mem_map.mp hx; obtain ⟨v,hv,rfl⟩:=List.mem_map.mp hy; have h1:=(Yd.mp hu).1; have h2:=((P8 hB v).mp hv).1; have h3:=hk v.1 h2; have h4:u.1.p=v.1.p:=congrArg Prod.fst z; rw [h1] at h4; rw [<- h4] at h3
   lia
noncomputable def Fi (B:List Ad) (u:As):List As:=(B.filter fun c=>c.b=some (sgn u)).map fun c=>(c,0)
noncomputable def Io (B:List Ad):List As:=(B.filter fun c=>c.b=none).map fun c=>(c,0)
noncomputable def nxt (u:As):List As:=if u.2+1 < u.1.w.length then [(u.1,u.2+1)] else []
inductive Run (B:List Ad):List As->List As->Prop where
 | nil:Run B [] []
 | step {u:As} {st out:List As}:Run B ((Fi B u).reverse++(nxt u++st)) out->Run B (u::st) (u::out)
theorem Run.blk {B:List Ad} {e:Ad} (hn:∀ c∈B,∀ n,c.b≠some (e.p,n)) {st out:List As} (h:Run B st out):∀ (j k:Nat),k+j+1=e.w.length->Run B ((e,k)::st) (((List.range e.w.length).drop k).map (fun i=>(e,i))++out):=by
 have nk:∀ k,Fi B (e,k)=[]:=fun k=>by
   unfold Fi; rw [List.filter_eq_nil_iff.mpr (fun c hc=>by simpa using hn c hc k),List.map_nil]
 intro j
 induction j with
 | zero =>
   intro k hk; have hd:(List.range e.w.length).drop k=[k]:=by
     rw [List.drop_eq_getElem_cons (by simp; lia),List.getElem_range,List.drop_eq_nil_of_le (by simp; lia)]
   rw [hd]; refine .step ?_; rw [nk,List.reverse_nil,List.nil_append]; unfold nxt; rw [if_neg (by show ¬ (k+1 < e.w.length); lia),List.nil_append]
   exact h
 | succ j ih =>
   intro k hk; have hd:(List.range e.w.length).drop k=k::(List.range e.w.length).drop (k+1):=by
     rw [List.drop_eq_getElem_cons (by simp; lia),List.getElem_range]
   rw [hd]; refine .step ?_; rw [nk,List.reverse_nil,List.nil_append]; unfold nxt; rw [if_pos (by show k+1 < e.w.length; lia)]
   exact ih (k+1) (by lia)
theorem Run.new {B:List Ad} {e:Ad} (hp:0 < e.w.length) (hn:∀ c∈B,∀ n,c.b≠some (e.p,n)) {st out:List As} (h:Run B st out):Run B ((e,0)::st) (Sm.blk e++out):=by
 have:=h.blk hn (e.w.length - 1) 0 (by lia)
 rw [List.drop_zero] at this
 exact this
theorem Hs (B:List Ad) (e:Ad) (u:As):Fi (B++[e]) u=Fi B u++if e.b=some (sgn u) then [(e,0)] else []:=by
 unfold Fi
 rw [List.filter_append,List.map_append]
 congr 1
 by_cases c:e.b=some (sgn u)
 . rw [if_pos c,List.filter_cons,if_pos (by simpa using c)]; rfl
 . rw [if_neg c,List.filter_cons,if_neg (by simpa using c)]; rfl
theorem Run.old {B:List Ad} {e:Ad} {st out:List As} (h:Run B st out) (hn:∀ u∈out,e.b≠some (sgn u)):Run (B++[e]) st out:=by
 induction h with
 | nil=>exact .nil
 | @step u st out h ih =>
   refine .step ?_; rw [Hs,if_neg (hn u (.head _)),List.append_nil]; exact ih fun v hv=>hn v (.tail _ hv)
theorem Run.ins {B:List Ad} {e:Ad} {s:IdP×Nat} (he:e.b=some s) (hp:0 < e.w.length) (hk:∀ c∈B++[e],∀ n,c.b≠some (e.p,n)) {st out:List As} (h:Run B st out) (hs:∃ u∈out,sgn u=s) (nd:(out.map sgn).Nodup):Run (B++[e]) st (Jo s (Sm.blk e) out):=by
 induction h with
 | nil=>obtain ⟨u,hu,_⟩:=hs; cases hu
 | @step u st out h ih =>
   rw [List.map_cons,List.nodup_cons] at nd; unfold Jo
   split
   . rename_i c
     refine .step ?_; rw [Hs,if_pos (by rw [he,c]),List.reverse_append,List.append_assoc]
     refine Run.new hp hk (h.old fun v hv z=>nd.1 ?_)
     rw [he] at z; cases z; rw [c]; exact List.mem_map_of_mem hv
   . rename_i c
     refine .step ?_; rw [Hs,if_neg (by rw [he]; intro z; cases z; exact c rfl),List.append_nil]
     refine ih ?_ nd.2; obtain ⟨x,hx,e1⟩:=hs; rcases List.mem_cons.mp hx with rfl | hx
     . exact absurd e1 c
     . exact ⟨x,hx,e1⟩
theorem Xq {B:List Ad} (h:Bk B):Run B (Io B).reverse (ord B):=by
 induction h with
 | nil=>exact .nil
 | @snoc B e hB h0 hk hb ih =>
   have nk:=hB.nokid hk hb; rw [Di]; unfold Io at ih ⊢
   rw [List.filter_append,List.map_append,List.reverse_append]; rcases hb with hb | ⟨a,ha,n,hn,hb⟩
   . rw [hb,List.filter_cons,if_pos (by simpa using hb)]
     exact Run.new h0 nk (ih.old fun u _ z=>by rw [hb] at z; cases z)
   . rw [hb,List.filter_cons,if_neg (by rw [hb]; simp)]
     exact ih.ins hb h0 nk ⟨(a,n),(P8 hB (a,n)).mpr ⟨ha,hn⟩,rfl⟩ (Pg hB)
noncomputable def anD (x:Option (IdP×Nat)):PyData:=match x with
 | none=>.none
 | some s=>sgD s.1 s.2
noncomputable def Ad.d (a:Ad):PyData:=.tuple [.str "add",idP a.p,anD a.b,.str a.w]
inductive Adds:List Dp->List Ad->Prop where
 | nil:Adds [] []
 | add {L:List Dp} {B:List Ad} (a:Ad):Adds L B->Adds ((a.d,a.p)::L) (a::B)
 | oth {L:List Dp} {B:List Ad} {e:Dp} (k:Str) (x:PyData) (xs:List PyData):e.1=.tuple (.str k::idP e.2::x::xs)->k ≠ "add" -> Adds L B->Adds (e::L) B
theorem Adds.snoc {L:List Dp} {B:List Ad} (h:Adds L B) (a:Ad):Adds (L++[(a.d,a.p)]) (B++[a]):=by
 induction h with
 | nil=>exact .add a .nil
 | add c _ ih=>exact .add c ih
 | oth k x xs e n _ ih=>exact .oth k x xs e n ih
theorem Adds.snocO {L:List Dp} {B:List Ad} {e:Dp} (h:Adds L B) (k:Str) (x:PyData) (xs:List PyData) (h1:e.1=.tuple (.str k::idP e.2::x::xs)) (h2:k ≠ "add"):Adds (L++[e]) B:=by
 induction h with
 | nil=>exact .oth k x xs h1 h2 .nil
 | add c _ ih=>exact .add c ih
 | oth k' x' xs' e' n _ ih=>exact .oth k' x' xs' e' n ih
theorem Rr {p q:IdP} (h:idP p=idP q):p=q:=by
 simp only [idP,idD,PyData.tuple.injEq,List.cons.injEq,PyData.int.injEq,PyData.str.injEq,and_true] at h
 exact Prod.ext h.1 h.2
theorem Adds.of {L:List Dp} {B:List Ad} (h:Adds L B) {p:IdP} {b:PyData} {w:Str} (m:PyData.tuple [.str "add",idP p,b,.str w]∈L.map (·.1)):∃ a∈B,a.p=p/\a.w=w:=by
 induction h with
 | nil=>cases m
 | add c _ ih =>
   rcases List.mem_cons.mp m with e | m
   . have e':PyData.tuple [.str "add",idP p,b,.str w]=.tuple [.str "add",idP c.p,anD c.b,.str c.w]:=e
     injection e' with e'
     injection e' with _ e'
     injection e' with e1 e'
     injection e' with _ e'
     injection e' with e2 _
     injection e2 with e2
     exact ⟨c,.head _,(Rr e1).symm,e2.symm⟩
   . obtain ⟨a,ha,r⟩:=ih m; exact ⟨a,.tail _ ha,r⟩
 | oth k x xs e n _ ih =>
   rcases List.mem_cons.mp m with e1 | m
   . replace e1:=e1.trans e
     injection e1 with e1
     injection e1 with e1 _
     injection e1 with e1
     exact absurd e1.symm n
   . exact ih m
theorem Wf.shape {p:IdP} {S:PyData->Prop} {U:IdP->Prop} {d:PyData} (w:Wf p S U d):(∃ b w,d=.tuple [.str "add",idP p,b,.str w]/\OrN S b/\Et w)\/∃ k x xs,d=.tuple (.str k::idP p::x::xs)/\k ≠ "add" := by
 obtain ⟨o,r⟩:=w
 rcases r with h | ⟨sg,rfl,_⟩ | ⟨n,s1,x1,s2,x2,rfl,_⟩ | ⟨n,rfl,_⟩ | ⟨i,rfl,_⟩
 . exact .inl h
 . exact .inr ⟨"drop",_,_,rfl,by decide⟩
 . exact .inr ⟨"mark",_,_,rfl,by decide⟩
 . exact .inr ⟨"unmark",_,_,rfl,by decide⟩
 . exact .inr ⟨"undo",_,_,rfl,by decide⟩
theorem fY {p q:IdP} (h:key p < key q):p.1<=q.1:=by
 have h1:=Ug p.2
 have h2:=Ug q.2
 unfold key at h
 lia
theorem BkW.init {L:List Dp} {e:Dp} (h:BkW (L++[e])):BkW L:=by
 obtain ⟨hw,hu⟩:=h
 have hu':=List.pairwise_append.mp hu
 refine ⟨fun x hx=>?_,hu'.1⟩
 have hxe:key x.2 < key e.2:=hu'.2.2 x hx e (List.mem_singleton.mpr rfl)
 have ht:=fY hxe
 refine Wf.mono (hw x (List.mem_append.mpr (.inl hx))) (fun y hy=>?_) fun q hq=>?_
 . obtain ⟨p,b,w,n,hm,e1,hn,hp,ho⟩:=hy
   refine ⟨p,b,w,n,?_,e1,hn,hp,ho⟩; rw [List.map_append] at hm; rcases List.mem_append.mp hm with hm | hm
   . exact hm
   . exfalso
     have he:PyData.tuple [.str "add",idP p,b,.str w]=e.1:=by simpa using hm
     have hid:p=e.2:=by
       have w1:=(hw e (List.mem_append.mpr (.inr (.head _)))).id; rw [<- he] at w1; have w2:dIx (PyData.tuple [.str "add",idP p,b,.str w]) (.int 1)=some (idP p):=O8 (xs:=[.str "add",idP p,b,.str w]) (j:=1) (by simp)
       rw [w2] at w1; exact Rr (Option.some.inj w1)
     rw [hid] at hp
     lia
 . obtain ⟨⟨e',he',rfl⟩,hq⟩:=hq
   refine ⟨?_,hq⟩; rcases List.mem_append.mp he' with he' | he'
   . exact ⟨e',he',rfl⟩
   . rw [List.mem_singleton.mp he'] at hq
     lia
structure BkA (L:List Dp) (B:List Ad):Prop where
 ad:Adds L B
 bk:Bk B
 wd:∀ a∈B,Et a.w
 id:∀ a∈B,okI a.p
 inL:∀ a∈B,(a.d,a.p)∈L
 len:B.length<=L.length
theorem bka:∀ (n:Nat) (L:List Dp),L.length=n->BkW L->∃ B,BkA L B
 | 0,L,hn,_=>by
   rw [List.length_eq_zero_iff.mp hn]; exact ⟨[],.nil,.nil,(fun _ h=>nomatch h),(fun _ h=>nomatch h),(fun _ h=>nomatch h),Nat.le_refl _⟩
 | n+1,L,hn,h=>by
   have hne:L≠[]:=fun z=>by rw [z] at hn; cases hn
   obtain ⟨L',e,rfl⟩:∃ L' e,L=L'++[e]:=⟨L.dropLast,L.getLast hne,(List.dropLast_concat_getLast hne).symm⟩; have h':=h.init; obtain ⟨B,A⟩:=bka n L' (by simpa using hn) h'
   have hu':=List.pairwise_append.mp h.2; have we:=h.1 e (List.mem_append.mpr (.inr (.head _))); rcases we.shape with ⟨b,w,e1,hb,hw⟩ | ⟨k,x,xs,e1,hk⟩
   . have hx : ∃ x : Option (IdP × Nat), b = anD x /\ (x = none \/ ∃ a ∈ B, ∃ n, n < a.w.length /\ x = some (a.p, n)) := by
       rcases hb with rfl | ⟨p,b',w',n',hm,rfl,hn',hp,ho⟩
       . exact ⟨none,rfl,.inl rfl⟩
       . rw [List.map_append] at hm
         rcases List.mem_append.mp hm with hm | hm
         . obtain ⟨a,ha,rfl,rfl⟩:=A.ad.of hm
           exact ⟨some (a.p,n'),rfl,.inr ⟨a,ha,n',hn',rfl⟩⟩
         . exfalso
           have he:PyData.tuple [.str "add",idP p,b',.str w']=e.1:=by simpa using hm
           rw [e1] at he
           injection he with he
           injection he with _ he
           injection he with he _
           rw [Rr he] at hp
           lia
     obtain ⟨x,rfl,hx⟩:=hx; have ee:e=((⟨e.2,x,w⟩:Ad).d,(⟨e.2,x,w⟩:Ad).p):=Prod.ext e1 rfl; refine ⟨B++[⟨e.2,x,w⟩],?_,.snoc A.bk (by have:=hw.1; show 0 < w.length; lia) (fun a ha=>hu'.2.2 _ (A.inL a ha) e (List.mem_singleton.mpr rfl)) hx,fun a ha=>?_,fun a ha=>?_,fun a ha=>?_,by simp; exact A.len⟩
     . rw [ee]; exact A.ad.snoc _
     . rcases List.mem_append.mp ha with ha | ha
       . exact A.wd a ha
       . rw [List.mem_singleton.mp ha]; exact hw
     . rcases List.mem_append.mp ha with ha | ha
       . exact A.id a ha
       . rw [List.mem_singleton.mp ha]; exact we.1
     . rcases List.mem_append.mp ha with ha | ha
       . exact List.mem_append.mpr (.inl (A.inL a ha))
       . rw [List.mem_singleton.mp ha,<- ee]; exact List.mem_append.mpr (.inr (.head _))
   . refine ⟨B,A.ad.snocO k x xs e1 hk,A.bk,A.wd,A.id,fun a ha=>List.mem_append.mpr (.inl (A.inL a ha)),by simp; have:=A.len; lia⟩
theorem bka' {L:List Dp} (h:BkW L):∃ B,BkA L B:=bka _ L rfl h
theorem U1 (x:PyData) (xs:List PyData):dIx (.tuple (x::xs)) (.int 0)=some x:=O8 (xs:=x::xs) (j:=0) (by simp)
theorem Bq (x y:PyData) (xs:List PyData):dIx (.tuple (x::y::xs)) (.int 1)=some y:=O8 (xs:=x::y::xs) (j:=1) (by simp)
theorem Zq (x y z:PyData) (xs:List PyData):dIx (.tuple (x::y::z::xs)) (.int 2)=some z:=O8 (xs:=x::y::z::xs) (j:=2) (by simp)
theorem Zp (x y z u:PyData) (xs:List PyData):dIx (.tuple (x::y::z::u::xs)) (.int 3)=some u:=O8 (xs:=x::y::z::u::xs) (j:=3) (by simp)
theorem kI (w:Str):V6 [.str w]=some (.int (w.length:Int)):=rfl
theorem Ti (a:Ad):D7 [a.d]=.ok (.int (a.w.length:Int)):=by
 unfold D7 Q9 Q7 Ad.d
 simp_arith [vIf,U1,Zp,Az,Zc,kI]
theorem dI {k:Str} {i:PyData} {xs:List PyData} (h:k ≠ "add"):D7 [.tuple (.str k::i::xs)]=.ok (.int 0):=by
 unfold D7 Q9 Q7
 have:(k==("add" : Str))=false:=beq_eq_false_iff_ne.mpr h
 simp_arith [vIf,U1,Az,this]
noncomputable def Ro (kvs:Kvs) (x:PyData):PyData:=(P0 kvs x).getD (.list [])
theorem O9 (x y:Option (IdP×Nat)):PyData.eqv (anD x) (anD y)=decide (x=y):=by
 cases x with
 | none=>cases y with
   | none=>rfl
   | some s=>rfl
 | some s=>cases y with
   | none=>rfl
   | some t =>
     show ((PyData.eqv (idP s.1) (idP t.1))&&((PyData.eqv (.int s.2) (.int t.2))&&true))=_
     show (((s.1.1==t.1.1)&&((s.1.2==t.1.2)&&true))&&(((s.2:Int)==(t.2:Int))&&true))=_
     rw [Bool.eq_iff_iff]; obtain ⟨⟨a,b⟩,c⟩:=s; obtain ⟨⟨a',b'⟩,c'⟩:=t; simp
     intro _ _
     lia
def iF (kvs:Kvs):Prop:=∀ p∈kvs,(∃ x,p.1=anD x)/\∃ ds,p.2=.list ds
theorem Zb {kvs:Kvs} (h:iF kvs) (x:Option (IdP×Nat)) (v:PyData):iF (Jx kvs (anD x) v)/\∀ y,∃ ds,Ro kvs (anD y)=.list ds/\Ro (Jx kvs (anD x) v) (anD y)=.list (if x=y then ds++[v] else ds):=by
 induction kvs with
 | nil =>
   refine ⟨fun p hp=>?_,fun y=>⟨[],rfl,?_⟩⟩
   . rw [List.mem_singleton.mp hp]; exact ⟨⟨x,rfl⟩,_,rfl⟩
   . show ((List.find? (fun p=>PyData.eqv p.1 (anD y)) [(anD x,PyData.list [v])]).map (·.2)).getD (.list [])=_
     rw [List.find?_cons,O9]
     by_cases c:x=y
     . rw [decide_eq_true c,if_pos c]; rfl
     . rw [decide_eq_false c,if_neg c]; rfl
 | cons p r ih =>
   obtain ⟨⟨z,hz⟩,ds0,hd⟩:=h p (.head _); obtain ⟨i1,i2⟩:=ih fun q hq=>h q (.tail _ hq)
   unfold Jx; rw [hz,O9]
   by_cases c:z=x
   . rw [if_pos (decide_eq_true c),hd]
     refine ⟨fun q hq=>?_,fun y=>?_⟩
     . rcases List.mem_cons.mp hq with rfl | hq
       . exact ⟨⟨z,rfl⟩,_,rfl⟩
       . exact h q (.tail _ hq)
     . unfold Ro P0
       rw [List.find?_cons,List.find?_cons,hz,O9]
       by_cases c2:z=y
       . rw [decide_eq_true c2]
         exact ⟨ds0,by rw [show (some p:Option (PyData×PyData)).map (·.2)=some p.2 from rfl,hd]; rfl,by rw [if_pos (c.symm.trans c2)]; rfl⟩
       . rw [decide_eq_false c2]
         obtain ⟨ds,e1,_⟩:=i2 y; exact ⟨ds,e1,by rw [if_neg (fun w=>c2 (c.trans w))]; exact e1⟩
   . rw [if_neg (by rw [decide_eq_false c]; decide)]
     refine ⟨fun q hq=>?_,fun y=>?_⟩
     . rcases List.mem_cons.mp hq with rfl | hq
       . exact ⟨⟨z,hz⟩,_,hd⟩
       . exact i1 q hq
     . unfold Ro P0
       rw [List.find?_cons,List.find?_cons,hz,O9]
       by_cases c2:z=y
       . rw [decide_eq_true c2]
         exact ⟨ds0,by rw [show (some p:Option (PyData×PyData)).map (·.2)=some p.2 from rfl,hd]; rfl,by rw [if_neg (fun w=>c (c2.trans w.symm)),show (some p:Option (PyData×PyData)).map (·.2)=some p.2 from rfl,hd]; rfl⟩
       . rw [decide_eq_false c2]
         exact i2 y
theorem Ng (x:Option (IdP×Nat)):nkD (anD x)=true:=by
 cases x with
 | none=>rfl
 | some s=>simp [anD,nkD,Fj,isK,PyData.depth,PyData.depthAll]
theorem pS {L:List Dp} {B:List Ad} (h:Adds L B) (hp:∀ a∈B,0 < a.w.length) (bk:PyData):∀ (kvs:Kvs),iF kvs->∃ out,Og [.sh bk,.un,.un] 2 (C3 (b2 (C5 (A2 (A0 2) A8) D7) (vC (.int 0)) (Er .Gt))) (b2 (A0 2) (vC (.int 2)) dIx) (A0 2) (L.map (·.1)) kvs=.ok out /\
   ∀ y,∃ ds,Ro kvs (anD y)=.list ds/\Ro out (anD y)=.list (ds++(B.filter fun a=>a.b=y).map Ad.d):=by
 induction h with
 | nil =>
   intro kvs g; refine ⟨kvs,rfl,fun y=>?_⟩
   obtain ⟨ds,e,_⟩:=(Zb g none .none).2 y; exact ⟨ds,e,by simpa using e⟩
 | @add L B a _ ih =>
   intro kvs g; obtain ⟨g1,g2⟩:=Zb g a.b a.d; obtain ⟨out,e,k⟩:=ih (fun c hc=>hp c (.tail _ hc)) _ g1
   have ha:=hp a (.head _); have gt:Er .Gt (.int (a.w.length:Int)) (.int 0)=some (.bool true):=by
     show some (PyData.bool (decide ((0:Int) < a.w.length)))=_
     rw [decide_eq_true (by lia)]
   refine ⟨out,?_,fun y=>?_⟩
   . rw [List.map_cons]
     unfold Og; have e1:(C3 (b2 (C5 (A2 (A0 2) A8) D7) (vC (.int 0)) (Er .Gt))) ([Sl.sh bk,.un,.un].set 2 (.sh a.d))=.ok true:=by simp_arith [Ti,gt]
     have e2:(b2 (A0 2) (vC (.int 2)) dIx) ([Sl.sh bk,.un,.un].set 2 (.sh a.d))=.ok (anD a.b):=by unfold Ad.d; simp_arith [Zq]
     rw [e1,e2]; show (if nkD (anD a.b)=true then _ else _)=_
     rw [if_pos (Ng _)]; exact e
   . obtain ⟨ds,e3,e4⟩:=g2 y
     obtain ⟨ds',e5,e6⟩:=k y; rw [e4] at e5; cases e5; refine ⟨ds,e3,?_⟩; rw [e6]
     by_cases c:a.b=y
     . rw [if_pos c,List.filter_cons,if_pos (by simpa using c)]; simp
     . rw [if_neg c,List.filter_cons,if_neg (by simpa using c)]
 | @oth L B e k x xs he hk _ ih =>
   intro kvs g; obtain ⟨out,e2,kk⟩:=ih hp kvs g; refine ⟨out,?_,kk⟩; rw [List.map_cons]; unfold Og; have gt:Er .Gt (.int 0) (.int 0)=some (.bool false):=rfl; have e1:(C3 (b2 (C5 (A2 (A0 2) A8) D7) (vC (.int 0)) (Er .Gt))) ([Sl.sh bk,.un,.un].set 2 (.sh e.1))=.ok false:=by rw [he]; simp_arith [dI hk,gt]
   rw [e1]; exact e2
theorem bR {L:List Dp} {B:List Ad} (A:BkA L B) (hl:L.length<=9):∃ out,O6 [.tuple (L.map (·.1))]=.ok out/\∀ y,Ro out (anD y)=.list ((B.filter fun a=>a.b=y).map Ad.d):=by
 obtain ⟨out,e,k⟩:=pS A.ad A.bk.pos (.tuple (L.map (·.1))) [] (fun _ h=>nomatch h)
 refine ⟨out,?_,fun y=>?_⟩
 . unfold O6 W6 V0 fnW K9 Kk Fa iX Ty
   simp only [List.map_cons,List.map_nil,List.length_cons,List.length_nil,Nat.reduceAdd,Nat.reduceSub,List.replicate,List.cons_append,List.nil_append,List.set_cons_zero,List.set_cons_succ,List.getElem?_cons_zero,List.getElem?_cons_succ,Bp,De,C4,E9,D4]; rw [if_pos ⟨by rw [List.length_map]; lia,by decide⟩,e]
   rfl
 . obtain ⟨ds,e1,e2⟩:=k y
   cases e1; exact e2
noncomputable def Vb:Dn->Out:=(C6 (aA 2 4) (C6 (E8 5 (b2 (A0 4) (vC (.int 0)) dIx)) (C6 (E8 6 (b2 (A0 4) (vC (.int 1)) dIx)) (C6 (E8 7 (E3 (A2 (b2 (A0 5) (vC (.int 1)) dIx) (A2 (A0 6) A8)))) (C6 (Ae 3 (E3 (A2 (A0 7) (A2 (b2 (b2 (A0 5) (vC (.int 3)) dIx) (A0 6) dIx) A8)))) (C6 (sIf (C3 (b2 (b2 (A0 6) (vC (.int 1)) C9) (vFn (A2 (b2 (A0 5) (vC (.int 3)) dIx) A8) V6) (P1 .Lt))) (Ae 2 (E3 (A2 (A0 5) (A2 (b2 (A0 6) (vC (.int 1)) C9) A8)))) F7) (aB 2 (K3 (fun δ=>((Kl 1 (A0 7) (K6 A8)) δ).bind E9) E7 [] O3 (E3 (A2 (A0 0) (A2 (vC (.int 0)) A8)))))))))))
abbrev wt (u:As):PyData:=.tuple [u.1.d,.int (u.2:Int)]
noncomputable def ltr (u:As):Str:=⟨#[u.1.w.cps.toList.getD u.2 0]⟩
abbrev sgA (u:As):PyData:=sgD u.1.p (u.2:Int)
abbrev tl (u:As):PyData:=.tuple [sgA u,.str (ltr u)]
theorem cT (x:Str):x.length=x.cps.toList.length:=by unfold Str.length; simp
theorem fR {u:As} (h:u.2 < u.1.w.length):dIx (.str u.1.w) (.int (u.2:Int))=some (.str (ltr u)):=by
 have h':u.2 < u.1.w.cps.toList.length:=by rw [<- cT]; exact h
 show (atI u.1.w.cps.toList (u.2:Int)).map _=_
 rw [O8 h']
 unfold ltr
 rw [List.getD_eq_getElem?_getD,List.getElem?_eq_getElem h']
 rfl
theorem iW {i j:Nat} {δ:Dn} {W:List PyData} {d:PyData} (h:δ[i]? = some (.ow (.list (W++[d])))) (hij:i≠j):aA i j δ=.nx ((δ.set i (.ow (.list W))).set j (.sh d)):=by
 unfold aA
 rw [h]
 simp [hij]
theorem Ea {i:Nat} {δ:Dn} {f:Dn->Res PyData} {W:List PyData} {d:PyData} (h:δ[i]? = some (.ow (.list W))) (hf:f δ=.ok d) (hl:W.length<=1000):Ae i f δ=.nx (δ.set i (.ow (.list (W++[d])))):=by
 unfold Ae
 rw [h]
 show I8 (f δ) _=_
 rw [hf,D4,if_pos (Nat.lt_of_le_of_lt hl (by decide))]
theorem iY {i:Nat} {δ:Dn} {f:Dn->Res (List PyData)} {W ds:List PyData} (h:δ[i]? = some (.ow (.list W))) (hf:f δ=.ok ds) (hl:W.length+ds.length<=1000):aB i f δ=.nx (δ.set i (.ow (.list (W++ds)))):=by
 unfold aB
 rw [h]
 show I8 (f δ) _=_
 rw [hf,D4,if_pos (Nat.le_trans hl (by decide))]
theorem Ys (δc:Dn):∀ ds:List Ad,D5 E7 δc O3 (E3 (A2 (A0 0) (A2 (vC (.int 0)) A8))) (ds.map Ad.d)=.ok (ds.map fun a=>wt (a,0))
 | ds=>Du Ad.d (fun a=>wt (a,0)) (fun a=>by simp_arith; rfl) ds
theorem Run.len {B:List Ad} {st out:List As} (h:Run B st out):st.length<=out.length:=by
 induction h with
 | nil=>exact Nat.le_refl _
 | step _ ih=>simp only [List.length_append,List.length_cons] at ih ⊢; lia
theorem kK (B:List Ad) (u:As):(Fi B u).map wt=((B.filter fun a=>a.b=some (sgn u)).map fun a=>wt (a,0)):=by
 unfold Fi
 rw [List.map_map]; rfl
theorem iS {B:List Ad} {b:PyData} {kvs:Kvs} (hk:∀ y,Ro kvs (anD y)=.list ((B.filter fun a=>a.b=y).map Ad.d)) {u:As} (hu:u.2 < u.1.w.length) (W T:List PyData) (hl:W.length+1+(Fi B u).length<=900) (hT:T.length<=900) (s4 s5 s6 s7:Sl) :
   ∃ t4 t5 t6 t7,Vb [.sh b,.ow (.tuple [.dict kvs,.none]),.ow (.list (W++[wt u])),.ow (.list T),s4,s5,s6,s7]=.nx [.sh b,.ow (.tuple [.dict kvs,.none]),.ow (.list (W++(nxt u).map wt++(Fi B u).map wt)),.ow (.list (T++[tl u])),t4,t5,t6,t7]:=by
 refine ⟨.sh (wt u),.sh u.1.d,.sh (.int u.2),.sh (sgA u),?_⟩
 unfold Vb
 rw [B6 (iW (W:=W) rfl (by decide))]
 simp only [List.set_cons_zero,List.set_cons_succ]
 rw [B6 (D9 (d:=u.1.d) (by simp_arith [U1]))]
 simp only [List.set_cons_zero,List.set_cons_succ]
 rw [B6 (D9 (d:=.int (u.2:Int)) (by simp_arith [Bq]))]
 simp only [List.set_cons_zero,List.set_cons_succ]
 rw [B6 (D9 (d:=sgA u) (by unfold Ad.d; simp_arith [Bq]))]
 simp only [List.set_cons_zero,List.set_cons_succ]
 rw [B6 (Ea (W:=T) (d:=tl u) rfl (by unfold Ad.d; simp_arith [Zp,fR hu]) (by lia))]
 simp only [List.set_cons_zero,List.set_cons_succ]
 have hif : sIf (C3 (b2 (b2 (A0 6) (vC (.int 1)) C9) (vFn (A2 (b2 (A0 5) (vC (.int 3)) dIx) A8) V6) (P1 .Lt))) (Ae 2 (E3 (A2 (A0 5) (A2 (b2 (A0 6) (vC (.int 1)) C9) A8)))) F7 [.sh b, .ow (.tuple [.dict kvs, .none]), .ow (.list W), .ow (.list (T ++ [tl u])), .sh (wt u), .sh u.1.d, .sh (.int u.2), .sh (sgA u)]
     = .nx [.sh b,.ow (.tuple [.dict kvs,.none]),.ow (.list (W++(nxt u).map wt)),.ow (.list (T++[tl u])),.sh (wt u),.sh u.1.d,.sh (.int u.2),.sh (sgA u)]:=by
   unfold nxt
   by_cases c:u.2+1 < u.1.w.length
   . rw [if_pos c,U2 (by unfold Ad.d; simp_arith [Zp,kI,V7,aT (show (u.2:Int)+1 < (u.1.w.length:Int) by lia)])]
     rw [Ea (W:=W) (d:=wt (u.1,u.2+1)) rfl (by simp_arith [V7]; rfl) (by lia)]
     rfl
   . rw [if_neg c,N9 (by unfold Ad.d; simp_arith [Zp,kI,V7,aU (show ¬ (u.2:Int)+1 < (u.1.w.length:Int) by lia)])]
     simp [F7]
 rw [B6 hif]
 have hnl:(nxt u).length<=1:=by unfold nxt; split <;> simp
 have hgl:(B.filter fun a=>a.b=some (sgn u)).length=(Fi B u).length:=by unfold Fi; rw [List.length_map]
 have hget:(fun δ=>((Kl 1 (A0 7) (K6 A8)) δ).bind E9) [.sh b,.ow (.tuple [.dict kvs,.none]),.ow (.list (W++(nxt u).map wt)),.ow (.list (T++[tl u])),.sh (wt u),.sh u.1.d,.sh (.int u.2),.sh (sgA u)]=.ok ((B.filter fun a=>a.b=some (sgn u)).map Ad.d):=by
   refine K2 (d:=.list ((B.filter fun a=>a.b=some (sgn u)).map Ad.d)) ?_ rfl
   rw [<- hk (some (sgn u))]; show (if nkD (anD (some (sgn u)))=true then Res.ok ((P0 kvs (anD (some (sgn u)))).getD (.list [])) else Res.no)=_
   rw [if_pos (Ng (some (sgn u)))]; rfl
 rw [iY (W:=W++(nxt u).map wt) (ds:=(Fi B u).map wt) rfl (M5 hget (by rw [List.length_map,hgl]; lia) rfl (by rw [kK]; exact Ys _ _)) (by simp only [List.length_append,List.length_map]; lia)]
 rfl
theorem cB {B:List Ad} {b:PyData} {kvs:Kvs} (hk:∀ y,Ro kvs (anD y)=.list ((B.filter fun a=>a.b=y).map Ad.d)) {st out:List As} (h:Run B st out):(∀ u∈out,u.2 < u.1.w.length)->∀ (n:Nat) (T:List PyData) (s4 s5 s6 s7:Sl),out.length < n->T.length+out.length<=800 ->
   ∃ t4 t5 t6 t7,Dg (Uz 2) Vb n [.sh b,.ow (.tuple [.dict kvs,.none]),.ow (.list (st.reverse.map wt)),.ow (.list T),s4,s5,s6,s7]=.nx [.sh b,.ow (.tuple [.dict kvs,.none]),.ow (.list []),.ow (.list (T++out.map tl)),t4,t5,t6,t7]:=by
 induction h with
 | nil =>
   intro _ n T s4 s5 s6 s7 hn _
   cases n with
   | zero=>cases hn
   | succ n =>
     refine ⟨s4,s5,s6,s7,?_⟩; unfold Dg; rw [show Uz 2 [Sl.sh b,.ow (.tuple [.dict kvs,.none]),.ow (.list (([]:List As).reverse.map wt)),.ow (.list T),s4,s5,s6,s7]=.ok false from rfl,D4,if_neg (by decide)]
     simp
 | @step u st out h ih =>
   intro hu n T s4 s5 s6 s7 hn hT; have hlen:=h.len; simp only [List.length_append,List.length_reverse,List.length_cons] at hlen hn hT
   cases n with
   | zero=>cases hn
   | succ n =>
     have e1:(u::st).reverse.map wt=st.reverse.map wt++[wt u]:=by rw [List.reverse_cons,List.map_append]; rfl
     rw [e1]; obtain ⟨a4,a5,a6,a7,e2⟩:=iS (b:=b) hk (hu u (.head _)) (st.reverse.map wt) T (by rw [List.length_map,List.length_reverse]; lia) (by lia) s4 s5 s6 s7
     have e3:(st.reverse.map wt++(nxt u).map wt++(Fi B u).map wt)=((Fi B u).reverse++(nxt u++st)).reverse.map wt:=by
       have hr:(nxt u).reverse=nxt u:=by unfold nxt; split <;> rfl
       rw [List.reverse_append,List.reverse_append,List.reverse_reverse,hr,List.map_append,List.map_append]
     rw [e3] at e2; obtain ⟨t4,t5,t6,t7,e4⟩:=ih (fun v hv=>hu v (.tail _ hv)) n (T++[tl u]) a4 a5 a6 a7 (by lia) (by rw [List.length_append]; simp; lia)
     refine ⟨t4,t5,t6,t7,?_⟩; unfold Dg; have ec:Uz 2 [Sl.sh b,.ow (.tuple [.dict kvs,.none]),.ow (.list (st.reverse.map wt++[wt u])),.ow (.list T),s4,s5,s6,s7]=.ok true:=by
       show Res.ok (!(st.reverse.map wt++[wt u]).isEmpty)=_
       simp
     rw [ec,D4,if_pos rfl,e2]; show Dg (Uz 2) Vb n _=_
     rw [e4,List.append_assoc]; rfl
theorem Xm {B:List Ad} (h:∀ a∈B,Et a.w):(sgs B).length<=4*B.length:=by
 unfold sgs
 induction B with
 | nil=>exact Nat.le_refl _
 | cons a B ih =>
   rw [List.flatMap_cons,List.length_append,List.length_cons]; have:=ih fun c hc=>h c (.tail _ hc)
   have h2:=(h a (.head _)).2.1; have h3:(blk a).length=a.w.length:=by unfold blk; simp
   lia
theorem Bz {L:List Dp} {B:List Ad} (A:BkA L B):(ord B).length<=4*L.length:=by
 have h1:=(Tt A.bk).length_eq
 have h2:=Xm A.wd
 have h3:=A.len
 lia
theorem Ik {L:List Dp} {B:List Ad} (A:BkA L B) (hl:L.length<=9):N3 [.tuple (L.map (·.1))]=.ok (.list ((ord B).map tl)):=by
 obtain ⟨kvs,e1,hk⟩:=bR A hl
 have hol:=Bz A
 unfold N3 Bt N5
 refine T5 ?_
 unfold K9
 simp only [List.map_cons,List.map_nil,List.length_cons,List.length_nil,Nat.reduceAdd,Nat.reduceSub,List.replicate,List.cons_append,List.nil_append]
 rw [B6 (δ':=[.sh (.tuple (L.map (·.1))),.ow (.tuple [.dict kvs,.none]),.un,.un,.un,.un,.un,.un]) (by unfold Aq Ct Si; simp_arith [e1])]
 have hrl:(Io B).length<=36:=by
   have:=(Xq A.bk).len; rw [List.length_reverse] at this
   lia
 have hgl:(B.filter fun a=>a.b=none).length=(Io B).length:=by unfold Io; rw [List.length_map]
 have hget:(fun δ=>((Kl 1 (vC .none) (K6 A8)) δ).bind E9) [.sh (.tuple (L.map (·.1))),.ow (.tuple [.dict kvs,.none]),.un,.un,.un,.un,.un,.un]=.ok ((B.filter fun a=>a.b=none).map Ad.d):=by
   refine K2 (d:=.list ((B.filter fun a=>a.b=none).map Ad.d)) ?_ rfl
   rw [<- hk none]; rfl
 rw [B6 (δ':=[.sh (.tuple (L.map (·.1))),.ow (.tuple [.dict kvs,.none]),.ow (.list (((Io B).reverse).reverse.map wt)),.un,.un,.un,.un,.un]) (by
   unfold Ap Hi; rw [M5 hget (by rw [List.length_map,hgl]; lia) rfl (Ys _ _),D4,List.reverse_reverse]
   unfold Io; rw [List.map_map]; rfl)]
 rw [B6 (δ':=[.sh (.tuple (L.map (·.1))),.ow (.tuple [.dict kvs,.none]),.ow (.list (((Io B).reverse).reverse.map wt)),.ow (.list []),.un,.un,.un,.un]) (by rfl)]
 obtain ⟨t4,t5,t6,t7,e2⟩:=cB (b:=.tuple (L.map (·.1))) hk (Xq A.bk) (fun u hu=>((P8 A.bk u).mp hu).2) 4096 [] .un .un .un .un (by lia) (by simp; lia)
 rw [List.nil_append] at e2
 have e3:Ao=Dg (Uz 2) Vb 4096:=rfl
 rw [e3,B6 e2]
 rfl
noncomputable def Qa:Dn->Out:=(sIf (T1 (C3 (b2 (b2 (A0 2) (vC (.int 0)) dIx) (vC (.str "undo")) dEq)) (C3 (X7 true 1 (b2 (A0 2) (vC (.int 1)) dIx)))) (Gf 1 (b2 (A0 2) (vC (.int 2)) dIx) (vC (.bool true))) F7)
noncomputable def Ig:Dn->Out:=(sIf (T1 (C3 (b2 (b2 (A0 3) (vC (.int 0)) dIx) (vC (.str "drop")) dEq)) (C3 (X7 true 1 (b2 (A0 3) (vC (.int 1)) dIx)))) (N2 (fun δ=>((b2 (A0 3) (vC (.int 2)) dIx) δ).bind E9) (st1 4) (Gf 2 (A0 4) (vC (.bool true)))) F7)
abbrev sgO (s:IdP×Nat):PyData:=anD (some s)
inductive Kd (e:Dp):Prop where
 | drop (ss:List (IdP×Nat)):e.1=.tuple [.str "drop",idP e.2,.tuple (ss.map sgO)]->ss.length<=40->Kd e
 | undo (q:IdP):e.1=.tuple [.str "undo",idP e.2,idP q]->Kd e
 | oth (k:Str) (x:PyData) (xs:List PyData):e.1=.tuple (.str k::idP e.2::x::xs)->k ≠ "drop" -> k ≠ "undo" -> Kd e
theorem Td {T:Int} {D:List PyData}:∀ (sg:List PyData),(∀ x∈sg,SgOf T D x)->∃ ss:List (IdP×Nat),sg=ss.map sgO
 | [],_=>⟨[],rfl⟩
 | x::sg,h=>by
   obtain ⟨ss,e⟩:=Td sg fun y hy=>h y (.tail _ hy)
   obtain ⟨p,b,w,n,_,e1,_⟩:=h x (.head _); exact ⟨(p,n)::ss,by rw [List.map_cons,<- e,e1]; rfl⟩
theorem WfIn.kd {L:List Dp} {e:Dp} (h:WfIn L e):Kd e:=by
 obtain ⟨o,r⟩:=(show Wf _ _ _ _ from h)
 rcases r with ⟨b,w,e1,_⟩ | ⟨sg,e1,hs,hl,_⟩ | ⟨n,s1,x1,s2,x2,e1,_⟩ | ⟨n,e1,_⟩ | ⟨q,e1,_⟩
 . exact .oth "add" _ _ e1 (by decide) (by decide)
 . obtain ⟨ss,rfl⟩:=Td sg hs
   exact .drop ss e1 (by simpa using hl)
 . exact .oth "mark" _ _ e1 (by decide) (by decide)
 . exact .oth "unmark" _ _ e1 (by decide) (by decide)
 . exact .undo q e1
theorem Kd.id {e:Dp} (h:Kd e):∃ k x xs,e.1=.tuple (.str k::idP e.2::x::xs):=by
 cases h with
 | drop ss h _=>exact ⟨_,_,_,h⟩
 | undo q h=>exact ⟨_,_,_,h⟩
 | oth k x xs h _ _=>exact ⟨_,_,_,h⟩
abbrev oN (kvs:Kvs):Sl:=.ow (.tuple [.dict kvs,.none])
abbrev fN (kvs:Kvs):Sl:=.fd ((.dict [],.none)::kvs)
theorem Fv {b:Bool} {i:Nat} {f:Dn->Res PyData} {δ:Dn} {kvs:Kvs} {kd:PyData} (h:kvN δ i=some kvs) (hf:f δ=.ok kd) (hk:nkD kd=true):X7 b i f δ=.ok (.bool ((P0 kvs kd).isSome != b)):=by
 unfold X7
 rw [hf,C4,h]
 show (if nkD kd=true then _ else _)=_
 rw [if_pos hk]
theorem Dk (p:IdP):nkD (idP p)=true:=by simp [nkD,Fj,isK,PyData.depth,PyData.depthAll]
theorem Tk {i:Nat} {fk fv:Dn->Res PyData} {δ:Dn} {kvs:Kvs} {kd v:PyData} (h:δ[i]? = some (oN kvs)) (hv:fv δ=.ok v) (hk:fk δ=.ok kd) (hn:nkD kd=true) (hl:kvs.length<=1000):Gf i fk fv δ=.nx (δ.set i (oN (Q5 kvs kd v))):=by
 unfold Gf
 rw [h]
 show I8 (fv δ) _=_
 rw [hv,D4,hk,D4,if_pos ⟨hn,Nat.lt_of_le_of_lt hl (by decide)⟩]
theorem Ga {x y:Str} (h:x≠y):(x==y)=false:=beq_eq_false_iff_ne.mpr h
theorem Ij (x:Str):(x==x)=true:=beq_self_eq_true x
abbrev has (kvs:Kvs) (y:Option (IdP×Nat)):Bool:=(P0 kvs (anD y)).isSome
abbrev Gw (kvs:Kvs):Prop:=∀ p∈kvs,∃ x,p.1=anD x
theorem eB {kvs:Kvs} (h:Gw kvs) (x:Option (IdP×Nat)) (v:PyData):Gw (Q5 kvs (anD x) v)/\∀ y,has (Q5 kvs (anD x) v) y=(decide (x=y)||has kvs y):=by
 induction kvs with
 | nil =>
   refine ⟨fun p hp=>?_,fun y=>?_⟩
   . rw [List.mem_singleton.mp hp]; exact ⟨x,rfl⟩
   . show ((List.find? (fun p=>PyData.eqv p.1 (anD y)) [(anD x,v)]).map (·.2)).isSome=_
     rw [List.find?_cons,O9]
     cases decide (x=y) <;> rfl
 | cons p r ih =>
   obtain ⟨z,hz⟩:=h p (.head _); obtain ⟨i1,i2⟩:=ih fun q hq=>h q (.tail _ hq)
   unfold Q5; rw [hz,O9]
   by_cases c:z=x
   . rw [if_pos (decide_eq_true c)]
     refine ⟨fun q hq=>?_,fun y=>?_⟩
     . rcases List.mem_cons.mp hq with rfl | hq
       . exact ⟨z,rfl⟩
       . exact h q (.tail _ hq)
     . unfold has P0
       rw [List.find?_cons,List.find?_cons,hz,O9,c]
       cases decide (x=y) <;> rfl
   . rw [if_neg (by rw [decide_eq_false c]; decide)]
     refine ⟨fun q hq=>?_,fun y=>?_⟩
     . rcases List.mem_cons.mp hq with rfl | hq
       . exact ⟨z,hz⟩
       . exact i1 q hq
     . unfold has P0
       rw [List.find?_cons,List.find?_cons,hz,O9]
       cases hd:decide (z=y) with
       | true=>simp
       | false=>exact i2 y
noncomputable def V5 (un:IdP->Bool) (e:Dp) (s:IdP×Nat):Bool:=match e.1 with
 | .tuple (.str k::_::.tuple xs::_)=>(k == "drop")&&(!un e.2)&&(xs.any fun y=>PyData.eqv y (sgO s))
 | _=>false
theorem Pt {un:IdP->Bool} {e:Dp} {s:IdP×Nat} {k:Str} {i x:PyData} {xs:List PyData} (h:e.1=.tuple (.str k::i::x::xs)) (hk:k ≠ "drop"):V5 un e s=false:=by
 unfold V5
 rw [h]
 split
 . rename_i heq
   injection heq with heq
   injection heq with h1 _
   injection h1 with h1
   rw [<- h1,Ga hk]; rfl
 . rfl
theorem Tq (b:PyData) (ku:Kvs) (s3:Sl):∀ (ss:List (IdP×Nat)) (kvs:Kvs) (s4:Sl),Gw kvs->kvs.length+ss.length<=900->∃ kvs' s4',Gw kvs'/\kvs'.length<=kvs.length+ss.length/\(∀ y,has kvs' y=(has kvs y||ss.any fun s=>decide (some s=y))) /\
   E5 (st1 4) (Gf 2 (A0 4) (vC (.bool true))) (ss.map sgO) [.sh b,fN ku,oN kvs,s3,s4]=.nx [.sh b,fN ku,oN kvs',s3,s4']
 | [],kvs,s4,hk,_=>⟨kvs,s4,hk,by simp,fun y=>by simp,rfl⟩
 | s::ss,kvs,s4,hk,hl=>by
   rw [List.length_cons] at hl; obtain ⟨g1,g2⟩:=eB hk (some s) (.bool true); have l1:=Bf (k:=sgO s) (v:=PyData.bool true) kvs; obtain ⟨kvs',s4',k1,k2,k3,k4⟩:=Tq b ku s3 ss (Q5 kvs (sgO s) (.bool true)) (.sh (sgO s)) g1 (by lia)
   refine ⟨kvs',s4',k1,by rw [List.length_cons]; lia,fun y=>?_,?_⟩
   . rw [k3,g2,List.any_cons]
     cases decide (some s=y) <;> simp
   . rw [List.map_cons]
     unfold E5; simp only [st1,List.set_cons_zero,List.set_cons_succ]; rw [Tk (kd:=sgO s) (v:=.bool true) rfl rfl rfl (Ng _) (by lia)]; exact k4
theorem gQ {e:Dp} (h:Kd e) (b:PyData) (ku kvs:Kvs) (s4:Sl) (hk:Gw kvs) (hl:kvs.length<=800):∃ kvs' s4',Gw kvs'/\kvs'.length<=kvs.length+40/\(∀ s,has kvs' (some s)=(has kvs (some s)||V5 (fun p=>(P0 ku (idP p)).isSome) e s)) /\
   Ig [.sh b,fN ku,oN kvs,.sh e.1,s4]=.nx [.sh b,fN ku,oN kvs',.sh e.1,s4']:=by
 have no : ∀ k x xs, e.1 = .tuple (.str k :: idP e.2 :: x :: xs) -> k ≠ "drop" -> ∃ kvs' s4', Gw kvs' /\ kvs'.length <= kvs.length + 40 /\ (∀ s, has kvs' (some s) = (has kvs (some s) || V5 (fun p => (P0 ku (idP p)).isSome) e s)) /\
     Ig [.sh b,fN ku,oN kvs,.sh e.1,s4]=.nx [.sh b,fN ku,oN kvs',.sh e.1,s4']:=fun k x xs e1 hn=>by
   refine ⟨kvs,s4,hk,by lia,fun s=>by rw [Pt e1 hn,Bool.or_false],?_⟩
   unfold Ig; rw [N9 (Ch (by rw [e1]; simp_arith [U1,Az,Ga hn]))]
   rfl
 cases h with
 | undo q h=>exact no _ _ _ h (by decide)
 | oth k x xs h h1 _=>exact no _ _ _ h h1
 | drop ss h hss =>
   have c1:(C3 (b2 (b2 (A0 3) (vC (.int 0)) dIx) (vC (.str "drop")) dEq)) [.sh b,fN ku,oN kvs,.sh e.1,s4]=.ok true:=by rw [h]; simp_arith [U1,Az,Ij]
   have c2:(C3 (X7 true 1 (b2 (A0 3) (vC (.int 1)) dIx))) [.sh b,fN ku,oN kvs,.sh e.1,s4]=.ok ((P0 ku (idP e.2)).isSome != true):=by
     refine C7 (Fv rfl ?_ (Dk e.2)); rw [h]; simp_arith [Bq]
   have hd:∀ s,V5 (fun p=>(P0 ku (idP p)).isSome) e s=(!(P0 ku (idP e.2)).isSome&&ss.any fun t=>decide (some t=some s)):=fun s=>by
     unfold V5; rw [h]; show (("drop" : Str) == "drop" && (!(P0 ku (idP e.2)).isSome)&&((ss.map sgO).any fun y=>PyData.eqv y (sgO s)))=_
     rw [Ij,Bool.true_and,List.any_map]
     congr 1
     congr 1
     funext t
     exact O9 _ _
   unfold Ig
   cases c:(P0 ku (idP e.2)).isSome with
   | true =>
     rw [c] at c2 hd; rw [N9 (Ah c1 c2)]; exact ⟨kvs,s4,hk,by lia,fun s=>by rw [hd]; simp,rfl⟩
   | false =>
     rw [c] at c2 hd; obtain ⟨kvs',s4',k1,k2,k3,k4⟩:=Tq b ku (.sh e.1) ss kvs s4 hk (by lia)
     refine ⟨kvs',s4',k1,by lia,fun s=>by rw [k3,hd]; simp,?_⟩
     rw [U2 (Ag c1 c2)]; unfold N2; rw [K2 (d:=.tuple (ss.map sgO)) (ds:=ss.map sgO) (by rw [h]; simp_arith [Zq]) rfl,D4]
     exact k4
theorem Up (b:PyData) (ku:Kvs):∀ (ds:List Dp),(∀ e∈ds,Kd e)->∀ (kvs:Kvs) (s3 s4:Sl),Gw kvs->kvs.length+40*ds.length<=800->∃ kvs' s3' s4',Gw kvs'/\(∀ s,has kvs' (some s)=(has kvs (some s)||ds.any fun e=>V5 (fun p=>(P0 ku (idP p)).isSome) e s)) /\
   E5 (st1 3) Ig (ds.map (·.1)) [.sh b,fN ku,oN kvs,s3,s4]=.nx [.sh b,fN ku,oN kvs',s3',s4']
 | [],_,kvs,s3,s4,hk,_=>⟨kvs,s3,s4,hk,fun s=>by simp,rfl⟩
 | e::ds,h,kvs,s3,s4,hk,hl=>by
   rw [List.length_cons] at hl; obtain ⟨kvs1,t4,g1,g2,g3,g4⟩:=gQ (h e (.head _)) b ku kvs s4 hk (by lia)
   obtain ⟨kvs2,u3,u4,k1,k2,k3⟩:=Up b ku ds (fun d hd=>h d (.tail _ hd)) kvs1 (.sh e.1) t4 g1 (by lia)
   refine ⟨kvs2,u3,u4,k1,fun s=>by rw [k2,g3,List.any_cons,Bool.or_assoc],?_⟩
   rw [List.map_cons]; unfold E5; simp only [st1,List.set_cons_zero,List.set_cons_succ]; rw [g4]; exact k3
theorem pW {L:List Dp} (h:∀ e∈L,Kd e) (hl:L.length<=9) (ku:Kvs):∃ kd,F2 [.sh (.tuple (L.map (·.1))),fN ku]=.ok kd/\∀ s,has kd (some s)=L.any fun e=>V5 (fun p=>(P0 ku (idP p)).isSome) e s:=by
 obtain ⟨kd,s3,s4,k1,k2,k3⟩:=Up (.tuple (L.map (·.1))) ku L h [] .un .un (fun _ h=>nomatch h) (by simp; lia)
 refine ⟨kd,?_,fun s=>by rw [k2]; rfl⟩
 unfold F2 Z1 X2 kQ Ez Kk Fa N2 Ty
 simp only [List.length_cons,List.length_nil,Nat.reduceAdd,Nat.reduceSub,List.replicate,List.cons_append,List.nil_append,List.set_cons_zero,List.set_cons_succ,Bp,List.getElem?_cons_zero,De,C4,E9,D4]
 have k3':=k3
 unfold Ig at k3'
 unfold N2 at k3'
 rw [k3']
 rfl
noncomputable def Yw:Dn->Out:=(Ae 3 (E3 (A2 (A0 4) (A2 (Zj (X7 true 1 (b2 (b2 (A0 4) (vC (.int 0)) dIx) (vC (.int 0)) dIx)) (X7 true 2 (b2 (A0 4) (vC (.int 0)) dIx))) A8))))
noncomputable def Qc:Dn->Out:=(sIf (C3 (b2 (b2 (A0 2) (vC (.int 1)) dIx) (b2 (A0 1) (vC (.int 0)) dIx) dEq)) (L3 (Km (vC (.int 0)) (b2 (A0 1) (vC (.int 1)) dIx) (C5 (A2 (A0 2) A8) D7) (P1 .LtE) (P1 .Lt))) F7)
abbrev bkD (L:List Dp):PyData:=.tuple (L.map (·.1))
structure Pr (L:List Dp) (ku kd:Kvs):Prop where
 u:F8 [bkD L]=.ok ku
 d:F2 [.sh (bkD L),fN ku]=.ok kd
 h:∀ s,has kd (some s)=L.any fun e=>V5 (fun p=>(P0 ku (idP p)).isSome) e s
noncomputable def un (ku:Kvs) (p:IdP):Bool:=(P0 ku (idP p)).isSome
noncomputable def E6 (ku kd:Kvs) (u:As):Bool := !(un ku u.1.p) && !(has kd (some (sgn u)))
theorem bne_true (b:Bool):(b != true) = !b:=by cases b <;> rfl
theorem Xh {f g:Dn->Res PyData} {δ:Dn} {a b:Bool} (h1:f δ=.ok (.bool a)) (h2:g δ=.ok (.bool b)):Zj f g δ=.ok (.bool (a&&b)):=by
 unfold Zj
 rw [h1,C4]
 cases a with
 | true=>exact h2
 | false=>rfl
theorem Pc (b:PyData) (ku kd:Kvs):∀ (us:List As) (T:List PyData) (s4:Sl),T.length+us.length<=800->∃ s4',E5 (st1 4) Yw (us.map tl) [.sh b,fN ku,oN kd,.ow (.list T),s4]=.nx [.sh b,fN ku,oN kd,.ow (.list (T++us.map fun u=>.tuple [tl u,.bool (E6 ku kd u)])),s4']
 | [],T,s4,_=>⟨s4,by simp [E5]⟩
 | u::us,T,s4,hl=>by
   rw [List.length_cons] at hl; obtain ⟨s4',e⟩:=Pc b ku kd us (T++[.tuple [tl u,.bool (E6 ku kd u)]]) (.sh (tl u)) (by simp; lia)
   refine ⟨s4',?_⟩; rw [List.map_cons]; unfold E5; simp only [st1,List.set_cons_zero,List.set_cons_succ]; have e1:(X7 true 1 (b2 (b2 (A0 4) (vC (.int 0)) dIx) (vC (.int 0)) dIx)) [.sh b,fN ku,oN kd,.ow (.list T),.sh (tl u)]=.ok (.bool (!(un ku u.1.p))):=by
     rw [Fv (kvs:=ku) (kd:=idP u.1.p) rfl (by simp_arith [U1]) (Dk _),bne_true]; rfl
   have e2:(X7 true 2 (b2 (A0 4) (vC (.int 0)) dIx)) [.sh b,fN ku,oN kd,.ow (.list T),.sh (tl u)]=.ok (.bool (!(has kd (some (sgn u))))):=by
     rw [Fv (kvs:=kd) (kd:=sgA u) rfl (by simp_arith [U1]) (Ng (some (sgn u))),bne_true]; rfl
   have e3:Yw [.sh b,fN ku,oN kd,.ow (.list T),.sh (tl u)]=.nx [.sh b,fN ku,oN kd,.ow (.list (T++[.tuple [tl u,.bool (E6 ku kd u)]])),.sh (tl u)]:=by
     unfold Yw; exact Ea rfl (Q8 (A6 (d:=tl u) (by simp_arith) (A6 (Xh e1 e2) rfl))) (by lia)
   rw [e3]; show E5 (st1 4) Yw (us.map tl) _=_
   rw [e,List.append_assoc]; rfl
theorem jM {L:List Dp} {B:List Ad} (A:BkA L B) (hl:L.length<=9) {ku kd:Kvs} (P:Pr L ku kd):Q6 [bkD L]=.ok (.list ((ord B).map fun u=>.tuple [tl u,.bool (E6 ku kd u)])):=by
 have hol:=Bz A
 obtain ⟨s4,e⟩:=Pc (bkD L) ku kd (ord B) [] .un (by simp; lia)
 unfold Q6 W5 J3
 refine T5 ?_
 unfold K9
 simp only [List.map_cons,List.map_nil,List.length_cons,List.length_nil,Nat.reduceAdd,Nat.reduceSub,List.replicate,List.cons_append,List.nil_append]
 rw [B6 (δ':=[.sh (bkD L),oN ku,.un,.un,.un]) (by unfold U6 Ct Si; simp_arith [P.u])]
 rw [B6 (δ':=[.sh (bkD L),fN ku,oN kd,.un,.un]) (by
   unfold U5 dR Ct Ql; show I8 (Res.bind (Res.ok (bkD L)) fun d=>F2 [.sh d,fN ku]) _=_
   rw [C4,P.d]; rfl)]
 rw [B6 (δ':=[.sh (bkD L),fN ku,oN kd,.ow (.list []),.un]) (by rfl)]
 rw [List.nil_append] at e
 have e3:P6 [.sh (bkD L),fN ku,oN kd,.ow (.list []),.un]=.nx [.sh (bkD L),fN ku,oN kd,.ow (.list ((ord B).map fun u=>.tuple [tl u,.bool (E6 ku kd u)])),s4]:=by
   unfold P6 N2; rw [K2 (d:=.list ((ord B).map tl)) (ds:=(ord B).map tl) (by simp_arith [Ik A hl]) rfl,D4]
   exact e
 rw [B6 e3]
 rfl
theorem Ed {α:Type} {δc:Dn} {tt:Dn->Res Bool} {el:Dn->Res PyData} (g h:α->PyData) (f:α->Bool):∀ xs:List α,(∀ x∈xs,tt ([.sh (g x)]++δc)=.ok (f x))->(∀ x∈xs,el ([.sh (g x)]++δc)=.ok (h x))->D5 E7 δc tt el (xs.map g)=.ok ((xs.filter f).map h)
 | [],_,_=>rfl
 | x::xs,ht,he=>by
   have ih:=Ed g h f xs (fun y hy=>ht y (.tail _ hy)) fun y hy=>he y (.tail _ hy)
   have h1:=ht x (.head _); have h2:=he x (.head _); rw [List.map_cons]; unfold D5
   cases c:f x with
   | true =>
     rw [c] at h1; simp only [E7,h1,h2,ih]; rw [List.filter_cons,c,if_pos rfl,List.map_cons]
   | false =>
     rw [c] at h1; simp only [E7,h1,ih]; rw [List.filter_cons,c,if_neg (by decide)]
theorem Tc {L:List Dp} {B:List Ad} (A:BkA L B) (hl:L.length<=9) {ku kd:Kvs} (P:Pr L ku kd):N4 [bkD L]=.ok (.list (((ord B).filter (E6 ku kd)).map tl)):=by
 have hol:=Bz A
 have hp:=jM A hl P
 unfold N4 Bu Cj
 refine T5 (O7 (T7 (M5 (K2 (d:=.list ((ord B).map fun u=>.tuple [tl u,.bool (E6 ku kd u)])) (by simp_arith [hp]) rfl) (by simp; lia) rfl ?_)))
 exact Ed (fun u=>.tuple [tl u,.bool (E6 ku kd u)]) tl (E6 ku kd) (ord B) (fun u _=>by
   unfold Bb; exact C7 (by simp_arith [Bq])) fun u _=>by unfold Bb; simp_arith [U1]
theorem Gn (u:As):(ltr u).length=1:=rfl
theorem fT {u:As} (hw:Et u.1.w) (h:u.2 < u.1.w.length):(ltr u).length=1/\PyData.strOk (ltr u)=true/\chOk 32 126 (ltr u):=by
 have h':u.2 < u.1.w.cps.toList.length:=by rw [<- cT]; exact h
 have hc:=hw.2.2 _ (List.getElem_mem h')
 have e:u.1.w.cps.toList.getD u.2 0=u.1.w.cps.toList[u.2]:=by rw [List.getD_eq_getElem?_getD,List.getElem?_eq_getElem h']; rfl
 refine ⟨rfl,?_,?_⟩
 . unfold ltr
   rw [e]
   generalize u.1.w.cps.toList[u.2]=c at hc
   unfold PyData.strOk; simp
   lia
 . unfold ltr
   rw [e]; exact .one hc
theorem Kr {α:Type} (f:α->Str):∀ us:List α,Br (us.map fun u=>PyData.str (f u))=some (us.map f)
 | []=>rfl
 | u::us=>by
   show (Br (us.map fun u=>PyData.str (f u))).map _=_
   rw [Kr f us]; rfl
theorem Ue {us:List As} (h:∀ u∈us,Et u.1.w/\u.2 < u.1.w.length) (hl:us.length<=100):Pv "" (.list (us.map fun u=>PyData.str (ltr u)))=some (.str (Str.join "" (us.map ltr))):=by
 have hx:∀ x∈us.map ltr,x.length=1/\PyData.strOk x=true/\chOk 32 126 x:=fun x hx=>by
   obtain ⟨u,hu,rfl⟩:=List.mem_map.mp hx; exact fT (h u hu).1 (h u hu).2
 obtain ⟨l1,o1,_⟩:=Ht _ hx
 have s1:=Kq _ hx
 rw [List.length_map] at l1 s1
 show (Br (us.map fun u=>PyData.str (ltr u))).bind _=_
 rw [Kr ltr us]
 show (if _ then _ else _)=_
 have:(("" : Str)).length=0:=rfl
 rw [if_pos ⟨by rw [s1,this]; lia,o1,Nat.le_trans (show _<=1000 by lia) Kp⟩]
theorem iN {L:List Dp} {B:List Ad} (A:BkA L B) (hl:L.length<=9) {ku kd:Kvs} (P:Pr L ku kd):X6 [bkD L]=.ok (.str (Str.join "" (((ord B).filter (E6 ku kd)).map ltr))):=by
 have hol:=Bz A
 have hf:=List.length_filter_le (E6 ku kd) (ord B)
 have hs:=Tc A hl P
 have hj:=Ue (us:=(ord B).filter (E6 ku kd)) (fun u hu=>by
   have:=(P8 A.bk u).mp (List.mem_filter.mp hu).1; exact ⟨A.wd _ this.1,this.2⟩) (by lia)
 have hc:K3 (fun δ=>((C5 (A2 (A0 0) A8) N4) δ).bind E9) E7 [] O3 (b2 (A0 0) (vC (.int 1)) dIx) [.sh (bkD L)]=.ok (((ord B).filter (E6 ku kd)).map fun u=>PyData.str (ltr u)) :=
   M5 (K2 (d:=.list (((ord B).filter (E6 ku kd)).map tl)) (by simp_arith [hs]) rfl) (by simp; lia) rfl (Du tl (fun u=>PyData.str (ltr u)) (fun u=>by unfold Bb; simp_arith [Bq]) _)
 unfold X6 Df Ef
 refine T5 (O7 ?_)
 show (Ii "" _ [.sh (bkD L)])=_
 unfold Ii
 rw [T7 hc,C4,hj]; rfl
theorem M4 {st:PyData->Dn->Option Dn} {body:Dn->Out} {d:PyData} {ds:List PyData} {δ δ1 δ':Dn} (h1:st d δ=some δ1) (h2:body δ1=.nx δ'):E5 st body (d::ds) δ=E5 st body ds δ':=by
 conv=>lhs; unfold E5
 rw [h1]
 show (match body δ1 with | .nx δ'=>_ | .ct δ'=>_ | .bk δ'=>_ | o=>_)=_
 rw [h2]
theorem Rw (p q:IdP):PyData.eqv (idP p) (idP q)=decide (p=q):=by
 show ((p.1==q.1)&&((p.2==q.2)&&true))=_
 rw [Bool.eq_iff_iff]
 simp [Prod.ext_iff]
theorem gT (p:IdP):(idP p).depth<=2:=Yn p.1 p.2
noncomputable def Kn (d:PyData):Option IdP:=match d with
 | .tuple [.str k,_,.tuple [.int t,.str h]]=>if k = "undo" then some (t,h) else none
 | _=>none
theorem Vn {k:Str} {i x:PyData} {xs:List PyData} (h:k ≠ "undo"):Kn (.tuple (.str k::i::x::xs))=none:=by
 unfold Kn
 split
 . rename_i heq
   injection heq with heq
   injection heq with h1 _
   injection h1 with h1
   rw [<- h1,if_neg h]
 . rfl
theorem Sk (i:PyData) (q:IdP):Kn (.tuple [.str "undo",i,idP q])=some q:=by
 unfold Kn
 exact if_pos rfl
noncomputable def Jm (e:Dp) (o:List IdP):List IdP:=match Kn e.1 with
 | some q=>if e.2∈o then o else o++[q]
 | none=>o
theorem Ph {e:Dp} {q:IdP} (h:e.1=.tuple [.str "undo",idP e.2,idP q]) (o:List IdP):Jm e o=if e.2∈o then o else o++[q]:=by
 unfold Jm; rw [h,Sk]
theorem Tu {e:Dp} {k:Str} {i x:PyData} {xs:List PyData} (h:e.1=.tuple (.str k::i::x::xs)) (hk:k ≠ "undo") (o:List IdP):Jm e o=o:=by
 unfold Jm; rw [h,Vn hk]
noncomputable def jY:List Dp->List IdP->List IdP
 | [],o=>o
 | e::r,o=>jY r (Jm e o)
abbrev off (L:List Dp):List IdP:=jY L.reverse []
abbrev Qk (kvs:Kvs):Prop:=∀ p∈kvs,∃ x:IdP,p.1=idP x
theorem aF {kvs:Kvs} (h:Qk kvs) (x:IdP) (v:PyData):Qk (Q5 kvs (idP x) v)/\∀ y,un (Q5 kvs (idP x) v) y=(decide (x=y)||un kvs y):=by
 induction kvs with
 | nil =>
   refine ⟨fun p hp=>?_,fun y=>?_⟩
   . rw [List.mem_singleton.mp hp]; exact ⟨x,rfl⟩
   . show ((List.find? (fun p=>PyData.eqv p.1 (idP y)) [(idP x,v)]).map (·.2)).isSome=_
     rw [List.find?_cons,Rw]
     cases decide (x=y) <;> rfl
 | cons p r ih =>
   obtain ⟨z,hz⟩:=h p (.head _); obtain ⟨i1,i2⟩:=ih fun q hq=>h q (.tail _ hq)
   unfold Q5; rw [hz,Rw]
   by_cases c:z=x
   . rw [if_pos (decide_eq_true c)]
     refine ⟨fun q hq=>?_,fun y=>?_⟩
     . rcases List.mem_cons.mp hq with rfl | hq
       . exact ⟨z,rfl⟩
       . exact h q (.tail _ hq)
     . unfold un P0
       rw [List.find?_cons,List.find?_cons,hz,Rw,c]
       cases decide (x=y) <;> rfl
   . rw [if_neg (by rw [decide_eq_false c]; decide)]
     refine ⟨fun q hq=>?_,fun y=>?_⟩
     . rcases List.mem_cons.mp hq with rfl | hq
       . exact ⟨z,hz⟩
       . exact i1 q hq
     . unfold un P0
       rw [List.find?_cons,List.find?_cons,hz,Rw]
       cases hd:decide (z=y) with
       | true=>simp
       | false=>exact i2 y
theorem Zk {e:Dp} (h:Kd e) (b:PyData) (kvs:Kvs) (o:List IdP) (hk:Qk kvs) (ho:∀ p,un kvs p=decide (p∈o)) (hl:kvs.length<=900):∃ kvs',Qk kvs'/\kvs'.length<=kvs.length+1/\(∀ p,un kvs' p=decide (p∈Jm e o))/\Qa [.sh b,oN kvs,.sh e.1]=.nx [.sh b,oN kvs',.sh e.1]:=by
 have no:∀ k x xs,e.1=.tuple (.str k::idP e.2::x::xs)->k ≠ "undo" -> ∃ kvs',Qk kvs'/\kvs'.length<=kvs.length+1/\(∀ p,un kvs' p=decide (p∈Jm e o))/\Qa [.sh b,oN kvs,.sh e.1]=.nx [.sh b,oN kvs',.sh e.1]:=fun k x xs e1 hk2=>by
   refine ⟨kvs,hk,Nat.le_succ _,by rw [Tu e1 hk2]; exact ho,?_⟩
   unfold Qa; rw [N9 (Ch (by rw [e1]; simp_arith [U1,Az,Ga hk2]))]
   rfl
 cases h with
 | drop ss h _=>exact no _ _ _ h (by decide)
 | oth k x xs h _ h2=>exact no _ _ _ h h2
 | undo q h =>
   have c1:(C3 (b2 (b2 (A0 2) (vC (.int 0)) dIx) (vC (.str "undo")) dEq)) [.sh b,oN kvs,.sh e.1]=.ok true:=by rw [h]; simp_arith [U1,Az,Ij]
   have c2:(C3 (X7 true 1 (b2 (A0 2) (vC (.int 1)) dIx))) [.sh b,oN kvs,.sh e.1]=.ok (!(decide (e.2∈o))):=by
     refine C7 ?_; rw [Fv (kvs:=kvs) (kd:=idP e.2) rfl (by rw [h]; simp_arith [Bq]) (Dk e.2),bne_true]
     exact congrArg (fun z=>Res.ok (PyData.bool (!z))) (ho e.2)
   rw [Ph h]; unfold Qa
   by_cases c:e.2∈o
   . rw [decide_eq_true c] at c2
     rw [N9 (Ah c1 c2),if_pos c]; exact ⟨kvs,hk,Nat.le_succ _,ho,rfl⟩
   . rw [decide_eq_false c] at c2
     obtain ⟨g1,g2⟩:=aF hk q (.bool true); rw [U2 (Ag c1 c2),Tk (kd:=idP q) (v:=.bool true) rfl rfl (by rw [h]; simp_arith [Zq]) (Dk q) (by lia),if_neg c]
     refine ⟨_,g1,Bf kvs,fun p=>?_,rfl⟩
     rw [g2,ho]; rw [Bool.eq_iff_iff]; simp
     constructor
     . rintro (h | h)
       . exact .inr h.symm
       . exact .inl h
     . rintro (h | h)
       . exact .inr h
       . exact .inl h.symm
theorem Os (b:PyData):∀ (ds:List Dp),(∀ e∈ds,Kd e)->∀ (kvs:Kvs) (o:List IdP) (s2:Sl),Qk kvs->(∀ p,un kvs p=decide (p∈o))->kvs.length+ds.length<=900->∃ kvs' s2',(∀ p,un kvs' p=decide (p∈jY ds o))/\E5 (st1 2) Qa (ds.map (·.1)) [.sh b,oN kvs,s2]=.nx [.sh b,oN kvs',s2']
 | [],_,kvs,o,s2,_,ho,_=>⟨kvs,s2,ho,rfl⟩
 | e::ds,h,kvs,o,s2,hk,ho,hl=>by
   rw [List.length_cons] at hl; obtain ⟨kvs1,k1,l1,o1,e1⟩:=Zk (h e (.head _)) b kvs o hk ho (by lia)
   obtain ⟨kvs2,s2',o2,e2⟩:=Os b ds (fun d hd=>h d (.tail _ hd)) kvs1 _ (.sh e.1) k1 o1 (by lia)
   exact ⟨kvs2,s2',o2,(M4 rfl e1).trans e2⟩
theorem iM {L:List Dp} (h:∀ e∈L,Kd e) (hl:L.length<=9):∃ kvs,F8 [.tuple (L.map (·.1))]=.ok kvs/\∀ p,un kvs p=decide (p∈off L):=by
 obtain ⟨kvs,s2,o,e⟩:=Os (.tuple (L.map (·.1))) L.reverse (fun e he=>h e (List.mem_reverse.mp he)) [] [] .un (fun _ h=>nomatch h) (fun _=>rfl) (by simp; lia)
 refine ⟨kvs,?_,o⟩
 rw [List.map_reverse] at e
 unfold F8 Ar Aj fnW K9 Kk Fa N2 Ty
 simp only [List.map_cons,List.map_nil,List.length_cons,List.length_nil,Nat.reduceAdd,Nat.reduceSub,List.replicate,List.cons_append,List.nil_append,List.set_cons_zero,List.set_cons_succ,Bp,List.getElem?_cons_zero,De,C4,Tl,D4]
 have e':=e
 unfold Qa at e'
 rw [e']
 rfl
structure Pq (L:List Dp) (ku kd:Kvs):Prop where
 P:Pr L ku kd
 o:∀ p,un ku p=decide (p∈off L)
theorem pq_ex {L:List Dp} (h:∀ e∈L,Kd e) (hl:L.length<=9):∃ ku kd,Pq L ku kd:=by
 obtain ⟨ku,e1,e4⟩:=iM h hl
 obtain ⟨kd,e2,e3⟩:=pW h hl ku
 exact ⟨ku,kd,⟨e1,e2,e3⟩,e4⟩
noncomputable def Ve:Dn->Out:=(sIf (cFz 1 (T1 (C3 (b2 (b2 (A0 2) (vC (.int 0)) dIx) (vC (.str "undo")) dEq)) (C3 (b2 (b2 (A0 2) (vC (.int 1)) dIx) (A0 1) (dIn true))))) (Ae 1 (b2 (A0 2) (vC (.int 2)) dIx)) F7)
theorem Hu (t:Bool) (p:IdP) (o:List IdP):dIn t (idP p) (.list (o.map idP))=some (.bool (t != decide (p∈o))):=by
 show (if _ then _ else _)=_
 rw [if_pos (Nat.le_trans (Nat.min_le_right _ _) (Nat.le_trans (gT p) (by decide)))]
 have:((o.map idP).any fun y=>PyData.eqv y (idP p))=decide (p∈o):=by
   rw [List.any_map,Bool.eq_iff_iff,List.any_eq_true,decide_eq_true_iff]
   constructor
   . rintro ⟨q,hq,e⟩
     have e:PyData.eqv (idP q) (idP p)=true:=e; rw [Rw] at e; rw [<- of_decide_eq_true e]; exact hq
   . intro h
     exact ⟨p,h,by show PyData.eqv (idP p) (idP p)=true; rw [Rw]; simp⟩
 rw [this]
 cases t <;> cases decide (p∈o) <;> rfl
theorem Cg {i:Nat} {c:Dn->Res Bool} {δ δ':Dn} {r:Res Bool} (h:fz i δ=δ') (h2:c δ'=r):cFz i c δ=r:=by unfold cFz; rw [h,h2]
theorem gM {e:Dp} (h:Kd e) (b:PyData) (o:List IdP) (hl:o.length<=900):Ve [.sh b,.ow (.list (o.map idP)),.sh e.1]=.nx [.sh b,.ow (.list ((Jm e o).map idP)),.sh e.1]:=by
 have no:∀ k x xs,e.1=.tuple (.str k::idP e.2::x::xs)->k ≠ "undo" -> Ve [.sh b,.ow (.list (o.map idP)),.sh e.1]=.nx [.sh b,.ow (.list ((Jm e o).map idP)),.sh e.1]:=fun k x xs e1 hk2=>by
   rw [Tu e1 hk2]; unfold Ve; rw [N9 (Cg (δ':=[.sh b,.sh (.list (o.map idP)),.sh e.1]) rfl (Ch (by rw [e1]; simp_arith [U1,Az,Ga hk2])))]
   rfl
 cases h with
 | drop ss h _=>exact no _ _ _ h (by decide)
 | oth k x xs h _ h2=>exact no _ _ _ h h2
 | undo q h =>
   have c1:(C3 (b2 (b2 (A0 2) (vC (.int 0)) dIx) (vC (.str "undo")) dEq)) [.sh b,.sh (.list (o.map idP)),.sh e.1]=.ok true:=by rw [h]; simp_arith [U1,Az,Ij]
   have c2:(C3 (b2 (b2 (A0 2) (vC (.int 1)) dIx) (A0 1) (dIn true))) [.sh b,.sh (.list (o.map idP)),.sh e.1]=.ok (!(decide (e.2∈o))):=by
     refine C7 (B8 (x:=idP e.2) (y:=.list (o.map idP)) (by rw [h]; simp_arith [Bq]) (by simp_arith) ?_)
     rw [Hu]
     cases decide (e.2∈o) <;> rfl
   rw [Ph h]; unfold Ve
   by_cases c:e.2∈o
   . rw [decide_eq_true c] at c2
     rw [N9 (Cg rfl (Ah c1 c2)),if_pos c]; rfl
   . rw [decide_eq_false c] at c2
     rw [U2 (Cg rfl (Ag c1 c2)),if_neg c,List.map_append]; exact Ea rfl (by rw [h]; simp_arith [Zq]) (by rw [List.length_map]; lia)
theorem fG (e:Dp) (o:List IdP):(Jm e o).length<=o.length+1:=by
 unfold Jm
 split
 . split
   . lia
   . simp
 . lia
theorem Uo (b:PyData):∀ (ds:List Dp),(∀ e∈ds,Kd e)->∀ (o:List IdP) (s2:Sl),o.length+ds.length<=900->∃ s2',E5 (st1 2) Ve (ds.map (·.1)) [.sh b,.ow (.list (o.map idP)),s2]=.nx [.sh b,.ow (.list ((jY ds o).map idP)),s2']
 | [],_,o,s2,_=>⟨s2,rfl⟩
 | e::ds,h,o,s2,hl=>by
   rw [List.length_cons] at hl; have e1:=gM (h e (.head _)) b o (by lia)
   have:=fG e o; obtain ⟨s2',e2⟩:=Uo b ds (fun d hd=>h d (.tail _ hd)) (Jm e o) (.sh e.1) (by lia)
   exact ⟨s2',(M4 rfl e1).trans e2⟩
noncomputable def onL (L:List Dp):List IdP:=(L.filter fun e => !decide (e.2∈off L)).map (·.2)
theorem Kd.tid {e:Dp} (h:Kd e):dIx e.1 (.int 1)=some (idP e.2):=by
 obtain ⟨k,x,xs,e1⟩:=h.id
 rw [e1]; exact Bq _ _ _
theorem Yy {f:Dn->Res PyData} {op:PyData->Option PyData} {δ:Dn} {x d:PyData} (h1:f δ=.ok x) (h3:op x=some d):b1 f op δ=.ok d:=by unfold b1; rw [h1,C4,h3]; rfl
theorem gN {L:List Dp} (h:∀ e∈L,Kd e) (hl:L.length<=9):F5 [bkD L]=.ok (.list ((onL L).map idP)):=by
 obtain ⟨s2,e⟩:=Uo (bkD L) L.reverse (fun e he=>h e (List.mem_reverse.mp he)) [] .un (by simp; lia)
 have c:=Ed (δc:=[.sh (.list ((off L).map idP))]) (tt:=C3 (b2 (b2 (A0 0) (vC (.int 1)) dIx) (A0 1) (dIn true))) (el:=b2 (A0 0) (vC (.int 1)) dIx) (fun e:Dp=>e.1) (fun e:Dp=>idP e.2) (fun e => !decide (e.2∈off L)) L (fun e he=>by
   refine C7 (B8 (x:=idP e.2) (y:=.list ((off L).map idP)) (B8 (x:=e.1) (y:=.int 1) (by simp_arith) rfl (h e he).tid) (by simp_arith) ?_)
   rw [Hu]
   cases decide (e.2∈off L) <;> rfl) (fun e he=>B8 (x:=e.1) (y:=.int 1) (by simp_arith) rfl (h e he).tid)
 unfold F5 U7 U0
 refine T5 ?_
 show C6 _ _ [.sh (bkD L),.un,.un]=_
 rw [B6 (δ':=[.sh (bkD L),.ow (.list []),.un]) (by rfl)]
 rw [B6 (δ':=[.sh (bkD L),.ow (.list ((off L).map idP)),s2]) (by
   unfold N2; rw [K2 (d:=.tuple (L.map (·.1)).reverse) (ds:=(L.map (·.1)).reverse) (Yy (op:=lK) (x:=bkD L) rfl rfl) rfl,D4,<- List.map_reverse]; exact e)]
 show L3 _ [.sh (bkD L),.sh (.list ((off L).map idP)),s2]=_
 unfold onL
 rw [List.map_map]
 exact O7 (T7 (M5 (K2 (d:=bkD L) rfl rfl) (by rw [List.length_map]; lia) rfl c))
theorem Wi {L:List Dp} {e:Dp} (he:e∈L):decide (e.2∈onL L) = !decide (e.2∈off L):=by
 rw [Bool.eq_iff_iff]
 simp only [decide_eq_true_iff,Bool.not_eq_true',decide_eq_false_iff_not]
 unfold onL
 constructor
 . intro h
   obtain ⟨x,hx,e1⟩:=List.mem_map.mp h; have:=(List.mem_filter.mp hx).2; rw [e1] at this
   simpa using this
 . intro h
   exact List.mem_map.mpr ⟨e,List.mem_filter.mpr ⟨he,by simpa using h⟩,rfl⟩
theorem iU (u v:As):PyData.eqv (sgA u) (sgA v)=decide (sgn u=sgn v):=by
 rw [show sgA u=anD (some (sgn u)) from rfl,show sgA v=anD (some (sgn v)) from rfl,O9]
 congr 1
 exact propext ⟨fun h=>Option.some.inj h,fun h=>congrArg some h⟩
theorem Xn (u:As) (s:IdP×Nat):PyData.eqv (sgA u) (sgO s)=decide (sgn u=s):=by
 rw [show sgA u=anD (some (sgn u)) from rfl,O9]
 congr 1
 exact propext ⟨fun h=>Option.some.inj h,fun h=>congrArg some h⟩
theorem Rx (s:IdP×Nat):(sgO s).depth<=3:=by simp [anD,PyData.depth,PyData.depthAll]
def Ix (O:List As) (s:IdP×Nat) (j:Nat):Prop:=(O.map sgA).findIdx? (fun y=>PyData.eqv y (sgO s))=some j
theorem Ix.eval {O:List As} {s:IdP×Nat} {j:Nat} (h:Ix O s j) (hO:O.length<=100) {f g:Dn->Res PyData} {δ:Dn} (hg:g δ=.ok (.list (O.map sgA))) (hf:f δ=.ok (sgO s)):Dw g f δ=.ok (.int (j:Nat)):=by
 unfold Dw
 rw [hg,C4]
 show (f δ).bind _=_
 rw [hf,C4]
 unfold Ix at h
 rw [h]
 show (if _ then _ else _)=_
 rw [if_pos ⟨by rw [List.length_map]; lia,Nat.le_trans (Rx s) (by decide)⟩]
theorem mO {s:IdP×Nat}:∀ {O:List As},(∃ u∈O,sgn u=s)->∃ X u Y,O=X++u::Y/\sgn u=s/\Ix O s X.length/\∀ l,Jo s l O=X++u::(l++Y)
 | [],h=>by obtain ⟨u,hu,_⟩:=h; cases hu
 | u::r,h=>by
   by_cases c:sgn u=s
   . refine ⟨[],u,r,rfl,c,?_,fun l=>?_⟩
     . unfold Ix
       rw [List.map_cons,List.findIdx?_cons,Xn,decide_eq_true c]; rfl
     . unfold Jo; rw [if_pos c]; rfl
   . obtain ⟨X, v, Y, e1, e2, e3, e4⟩ := mO (s := s) (O := r) (by
       obtain ⟨x,hx,e⟩:=h; rcases List.mem_cons.mp hx with rfl | hx
       . exact absurd e c
       . exact ⟨x,hx,e⟩)
     refine ⟨u::X,v,Y,by rw [e1]; rfl,e2,?_,fun l=>?_⟩
     . unfold Ix at e3 ⊢
       rw [List.map_cons,List.findIdx?_cons,Xn,decide_eq_false c,e3]; rfl
     . unfold Jo; rw [if_neg c,e4]; rfl
theorem lO (xs:List PyData) (k:Nat) (h:k<=xs.length):Ba xs none (some (k:Int))=xs.take k:=by
 unfold Ba
 rw [HT.sIx_nat,HT.sIx_none]
 rw [Nat.min_eq_left h]; rfl
theorem lN (xs:List PyData) (k:Nat) (h:k<=xs.length):Ba xs (some (k:Int)) none=xs.drop k:=by
 unfold Ba
 rw [HT.sIx_nat,HT.sIx_none,Nat.min_eq_left h,<- List.length_drop,List.take_length]
theorem pZ {δc:Dn} {tt:Dn->Res Bool} {el:Dn->Res PyData} {d y:PyData} {ds ys:List PyData} (h1:tt ([.sh d]++δc)=.ok true) (h2:el ([.sh d]++δc)=.ok y) (h3:D5 E7 δc tt el ds=.ok ys):D5 E7 δc tt el (d::ds)=.ok (y::ys):=by
 unfold D5
 simp only [E7,h1,h2,h3]
theorem qA {δc:Dn} {tt:Dn->Res Bool} {el:Dn->Res PyData} {d:PyData} {ds ys:List PyData} (h1:tt ([.sh d]++δc)=.ok false) (h3:D5 E7 δc tt el ds=.ok ys):D5 E7 δc tt el (d::ds)=.ok ys:=by
 unfold D5
 simp only [E7,h1,h3]
theorem Ly {k v:PyData}:∀ {kvs:Kvs},(∀ p∈kvs,PyData.eqv p.1 k=false)->Q5 kvs k v=kvs++[(k,v)]
 | [],_=>rfl
 | p::r,h=>by
   unfold Q5; rw [if_neg (by rw [h p (.head _)]; decide),Ly fun q hq=>h q (.tail _ hq)]; rfl
theorem Pf {α:Type} (f:α->PyData×PyData) (hk:∀ a,nkD (f a).1=true):∀ (us vs:List α),(vs++us).Pairwise (fun a b=>PyData.eqv (f a).1 (f b).1=false)->Dh (us.map fun a=>.tuple [(f a).1,(f a).2]) (vs.map f)=some ((vs++us).map f)
 | [],vs,_=>by rw [List.append_nil]; rfl
 | u::us,vs,pw=>by
   rw [List.map_cons]; unfold Dh; rw [if_pos (hk u),Ly (fun p hp=>by
     obtain ⟨a,ha,rfl⟩:=List.mem_map.mp hp; exact (List.pairwise_append.mp pw).2.2 a ha u (.head _))]
   have:=Pf f hk us (vs++[u]) (by rw [List.append_assoc]; exact pw)
   rw [List.map_append,List.append_assoc] at this; exact this
theorem Ui {α:Type} (f:α->PyData×PyData) {u:α} (hu:PyData.eqv (f u).1 (f u).1=true):∀ {us:List α} {more:Kvs},u∈us->us.Pairwise (fun a b=>PyData.eqv (f a).1 (f b).1=false)->P0 (us.map f++more) (f u).1=some (f u).2
 | x::us,more,h,pw=>by
   rw [List.pairwise_cons] at pw; unfold P0; rw [List.map_cons,List.cons_append,List.find?_cons]; rcases List.mem_cons.mp h with rfl | h
   . rw [hu]; rfl
   . rw [pw.1 u h]; exact Ui f hu h pw.2
noncomputable def Vc:Dn->Out:=(sIf (C3 (b2 (b2 (A0 2) (vC (.int 0)) dIx) (vC (.str "add")) dEq)) (C6 (E8 3 (vIf (fun δ=>((b2 (A0 2) (vC (.int 2)) dIx) δ).bind fun d=>.ok (Mk d)) (vC (.int 0)) (b2 (Dw (A0 1) (b2 (A0 2) (vC (.int 2)) dIx)) (vC (.int 1)) C9))) (E8 1 (b2 (b2 (vSl (A0 1) Bh (Bg (A0 3))) (K6 (K3 (fun δ=>((A2 (vFn (A2 (b2 (A0 2) (vC (.int 3)) dIx) A8) V6) A8) δ).bind Eg) E7 [2] O3 (E3 (A2 (b2 (A0 1) (vC (.int 1)) dIx) (A2 (A0 0) A8))))) C9) (vSl (A0 1) (Bg (A0 3)) Bh) C9))) F7)
theorem qD (a:Ad) {δ:Dn} (h:δ[2]? = some (.sh a.d)):(A2 (vFn (A2 (b2 (A0 2) (vC (.int 3)) dIx) A8) V6) A8) δ=.ok [.int (a.w.length:Int)]:=by
 refine A6 (Eu (A6 (B8 (x:=a.d) (y:=.int 3) (by rw [Bp,h]; rfl) rfl (Zp _ _ _ _ _)) rfl) (kI _)) rfl
theorem qE (a:Ad) {δ:Dn} (h:δ[2]? = some (.sh a.d)):(C3 (b2 (b2 (A0 2) (vC (.int 0)) dIx) (vC (.str "add")) dEq)) δ=.ok true:=by
 refine C7 (B8 (x:=.str "add") (y:=.str "add") (B8 (x:=a.d) (y:=.int 0) (by rw [Bp,h]; rfl) rfl (U1 _ _)) rfl ?_)
 rw [Az,Zc]
theorem lX (a:Ad) (hw:Et a.w) {δ:Dn} (h:δ[2]? = some (.sh a.d)):(K3 (fun δ=>((A2 (vFn (A2 (b2 (A0 2) (vC (.int 3)) dIx) A8) V6) A8) δ).bind Eg) E7 [2] O3 (E3 (A2 (b2 (A0 1) (vC (.int 1)) dIx) (A2 (A0 0) A8)))) δ=.ok ((blk a).map sgA):=by
 have er:X1 0 (a.w.length:Int)=(List.range a.w.length).map fun i:Nat=>PyData.int (0+(i:Int)):=by unfold X1; simp
 have g1:=Du (δc:=[.sh a.d]) (el:=E3 (A2 (b2 (A0 1) (vC (.int 1)) dIx) (A2 (A0 0) A8))) (fun i:Nat=>PyData.int (0+(i:Int))) (fun i=>sgD a.p (0+(i:Int))) (fun i=>by unfold Ad.d; simp_arith [Bq]) (List.range a.w.length)
 have hl:=hw.2.1
 have eb:(blk a).map sgA=(List.range a.w.length).map fun i:Nat=>sgD a.p (0+(i:Int)):=by
   unfold blk; rw [List.map_map]; refine List.map_congr_left fun i _=>?_
   show sgD a.p (i:Int)=_
   rw [Int.zero_add]
 have g2:D5 E7 [.sh a.d] O3 (E3 (A2 (b2 (A0 1) (vC (.int 1)) dIx) (A2 (A0 0) A8))) (X1 0 (a.w.length:Int))=.ok ((blk a).map sgA):=by rw [er,eb]; exact g1
 have hlr:(X1 0 (a.w.length:Int)).length<=1000:=by rw [er,List.length_map,List.length_range]; lia
 exact M5 (Qr (qD a h) (by lia) (by lia)) hlr (by unfold Bb; rw [List.map_cons,h]; rfl) g2
theorem lV (a:Ad):(blk a).length=a.w.length:=by unfold blk; simp
theorem eW {O:List As} (hO:O.length<=100) (a:Ad) (hw:Et a.w) (hb:a.b=none\/∃ s,a.b=some s/\∃ u∈O,sgn u=s) (b:PyData) (s3:Sl):∃ t3,Vc [.sh b,.sh (.list (O.map sgA)),.sh a.d,s3]=.nx [.sh b,.sh (.list ((bC a.b (blk a) O).map sgA)),.sh a.d,t3]:=by
 have hl:=hw.2.1
 obtain ⟨X,Y,e1,e2,e3⟩:∃ X Y,O=X++Y/\bC a.b (blk a) O=X++(blk a++Y)/\(vIf (fun δ=>((b2 (A0 2) (vC (.int 2)) dIx) δ).bind fun d=>.ok (Mk d)) (vC (.int 0)) (b2 (Dw (A0 1) (b2 (A0 2) (vC (.int 2)) dIx)) (vC (.int 1)) C9)) [.sh b,.sh (.list (O.map sgA)),.sh a.d,s3]=.ok (.int (X.length:Nat)):=by
   have ea:(b2 (A0 2) (vC (.int 2)) dIx) [.sh b,.sh (.list (O.map sgA)),.sh a.d,s3]=.ok (anD a.b):=B8 (x:=a.d) (y:=.int 2) rfl rfl (Zq _ _ _ _); rcases hb with hb | ⟨s,hb,hu⟩
   . refine ⟨[],O,rfl,by rw [hb]; rfl,?_⟩
     unfold vIf; simp only [ea,C4]; rw [hb]; rfl
   . obtain ⟨X,u,Y,e1,e2,e3,e4⟩:=mO hu
     refine ⟨X++[u],Y,by rw [e1]; simp,by rw [hb]; show Jo s _ O=_; rw [e4]; simp,?_⟩
     unfold vIf; simp only [ea,C4]; rw [hb] at ea ⊢
     refine (B8 (x:=.int (X.length:Nat)) (y:=.int 1) (e3.eval hO rfl ea) rfl rfl).trans ?_; rw [List.length_append]; rfl
 refine ⟨.sh (.int (X.length:Nat)),?_⟩
 have hXY:X.length+Y.length<=100:=by have:=congrArg List.length e1; rw [List.length_append] at this; lia
 have hbl:=lV a
 unfold Vc
 rw [U2 (qE a rfl),B6 (D9 e3)]
 simp only [List.set_cons_zero,List.set_cons_succ]
 rw [e2]
 have c1:Ba (O.map sgA) none (some ((X.length:Nat):Int))=X.map sgA:=by
   rw [lO _ _ (by rw [e1]; simp),e1,List.map_append,<- List.length_map (f:=sgA),List.take_left]
 have c2:Ba (O.map sgA) (some ((X.length:Nat):Int)) none=Y.map sgA:=by
   rw [lN _ _ (by rw [e1]; simp),e1,List.map_append,<- List.length_map (f:=sgA),List.drop_left]
 have q1:(vSl (A0 1) Bh (Bg (A0 3))) [.sh b,.sh (.list (O.map sgA)),.sh a.d,.sh (.int (X.length:Nat))]=.ok (.list (X.map sgA)):=Vm (x:=.list (O.map sgA)) rfl rfl rfl (by show some (PyData.list _)=_; rw [c1])
 have q2:(vSl (A0 1) (Bg (A0 3)) Bh) [.sh b,.sh (.list (O.map sgA)),.sh a.d,.sh (.int (X.length:Nat))]=.ok (.list (Y.map sgA)):=Vm (x:=.list (O.map sgA)) rfl rfl rfl (by show some (PyData.list _)=_; rw [c2])
 have q3:=T7 (lX a hw (δ:=[.sh b,.sh (.list (O.map sgA)),.sh a.d,.sh (.int (X.length:Nat))]) rfl)
 have q4:=B8 q1 q3 (Vi (by rw [List.length_map,List.length_map]; lia))
 have q5:=B8 q4 q2 (Vi (by rw [List.length_append,List.length_map,List.length_map,List.length_map]; lia))
 rw [D9 q5,List.map_append,List.map_append,List.append_assoc]
 rfl
theorem Bk.last {B:List Ad} {e:Ad} (h:Bk (B++[e])):Bk B/\(∀ a∈B,key a.p < key e.p)/\(e.b=none\/∃ a∈B,∃ n,n < a.w.length/\e.b=some (a.p,n)):=by
 generalize hC:B++[e]=C at h
 cases h with
 | nil=>simp at hC
 | @snoc B1 e1 hB _ hk hb =>
   obtain ⟨e2,e3⟩:=List.append_inj' hC rfl; cases e3; subst e2; exact ⟨hB,hk,hb⟩
theorem Bk.pre {B1:List Ad}:∀ (n:Nat) (B2:List Ad),B2.length=n->Bk (B1++B2)->Bk B1
 | 0,B2,hn,h=>by rw [List.length_eq_zero_iff.mp hn,List.append_nil] at h; exact h
 | n+1,B2,hn,h=>by
   have hne:B2≠[]:=fun z=>by rw [z] at hn; cases hn
   obtain ⟨C,e,rfl⟩:∃ C e,B2=C++[e]:=⟨B2.dropLast,B2.getLast hne,(List.dropLast_concat_getLast hne).symm⟩; rw [<- List.append_assoc] at h; exact Bk.pre n C (by simpa using hn) h.last.1
theorem eY (b:PyData) {L:List Dp} {B2:List Ad} (h:Adds L B2):∀ (B1:List Ad) (s2 s3:Sl),Bk (B1++B2)->(∀ a∈B1++B2,Et a.w)->(B1++B2).length<=9->∃ t2 t3,E5 (st1 2) Vc (L.map (·.1)) [.sh b,.sh (.list ((ord B1).map sgA)),s2,s3]=.nx [.sh b,.sh (.list ((ord (B1++B2)).map sgA)),t2,t3]:=by
 induction h with
 | nil=>intro B1 s2 s3 _ _ _; rw [List.append_nil]; exact ⟨s2,s3,rfl⟩
 | @add L B2 a _ ih =>
   intro B1 s2 s3 hB hw hl; have hB':Bk (B1++[a]):=Bk.pre _ B2 rfl (by rw [List.append_assoc]; exact hB)
   obtain ⟨k1,k2,k3⟩:=hB'.last; have hlo:(ord B1).length<=100:=by
     have h1:=(Tt k1).length_eq; have h2:=Xm (B:=B1) fun c hc=>hw c (List.mem_append.mpr (.inl hc))
     rw [List.length_append] at hl
     lia
   obtain ⟨t3,e1⟩:=eW hlo a (hw a (List.mem_append.mpr (.inr (.head _)))) (by
     rcases k3 with hb | ⟨c,hc,n,hn,hb⟩
     . exact .inl hb
     . exact .inr ⟨_,hb,(c,n),(P8 k1 (c,n)).mpr ⟨hc,hn⟩,rfl⟩) b s3
   rw [<- Di] at e1; obtain ⟨u2,u3,e2⟩:=ih (B1++[a]) (.sh a.d) t3 (by rw [List.append_assoc]; exact hB) (by rw [List.append_assoc]; exact hw) (by rw [List.append_assoc]; exact hl)
   rw [List.append_assoc] at e2; exact ⟨u2,u3,(M4 rfl e1).trans e2⟩
 | @oth L B2 e k x xs he hk _ ih =>
   intro B1 s2 s3 hB hw hl; obtain ⟨u2,u3,e2⟩:=ih B1 (.sh e.1) s3 hB hw hl; have e3:Vc [.sh b,.sh (.list ((ord B1).map sgA)),.sh e.1,s3]=.nx [.sh b,.sh (.list ((ord B1).map sgA)),.sh e.1,s3]:=by
     unfold Vc; rw [N9 (by rw [he]; simp_arith [U1,Az,Ga hk])]
     rfl
   exact ⟨u2,u3,(M4 rfl e3).trans e2⟩
theorem Ts {L:List Dp} {B:List Ad} (A:BkA L B) (hl:L.length<=9):K5 [bkD L]=.ok (.list ((ord B).map sgA)):=by
 obtain ⟨t2,t3,e⟩:=eY (bkD L) A.ad [] .un .un A.bk A.wd (by have:=A.len; simp; lia)
 unfold K5 Z6 N7
 refine T5 ?_
 show C6 _ _ [.sh (bkD L),.un,.un,.un]=_
 rw [B6 (δ':=[.sh (bkD L),.sh (.list []),.un,.un]) (by rfl)]
 rw [B6 (δ':=[.sh (bkD L),.sh (.list ((ord B).map sgA)),t2,t3]) (by
   unfold W1 N2; rw [K2 (d:=bkD L) (ds:=L.map (·.1)) rfl rfl,D4]; exact e)]
 rfl
noncomputable def Vd:Dn->Out:=(sIf (T1 (C3 (b2 (b2 (A0 3) (vC (.int 0)) dIx) (vC (.str "drop")) dEq)) (C3 (b2 (b2 (A0 3) (vC (.int 1)) dIx) (A0 1) (dIn false)))) (E8 2 (b2 (A0 2) (vFn (A2 (b2 (A0 3) (vC (.int 2)) dIx) A8) Hy) C9)) F7)
theorem bE {L:List Dp} {un:IdP->Bool} (hu:∀ p,un p=decide (p∈off L)) {e:Dp} (he:e∈L) (h:Kd e) (b:PyData) (gs:List (IdP×Nat)) (hl:gs.length<=600):∃ gs':List (IdP×Nat),gs'.length<=gs.length+40/\(∀ s,decide (s∈gs')=(decide (s∈gs)||V5 un e s)) /\
   Vd [.sh b,.sh (.list ((onL L).map idP)),.sh (.list (gs.map sgO)),.sh e.1]=.nx [.sh b,.sh (.list ((onL L).map idP)),.sh (.list (gs'.map sgO)),.sh e.1]:=by
 have no:∀ k x xs,e.1=.tuple (.str k::idP e.2::x::xs)->k ≠ "drop" -> ∃ gs':List (IdP×Nat),gs'.length<=gs.length+40/\(∀ s,decide (s∈gs')=(decide (s∈gs)||V5 un e s))/\Vd [.sh b,.sh (.list ((onL L).map idP)),.sh (.list (gs.map sgO)),.sh e.1]=.nx [.sh b,.sh (.list ((onL L).map idP)),.sh (.list (gs'.map sgO)),.sh e.1]:=fun k x xs e1 hn=>by
   refine ⟨gs,by lia,fun s=>by rw [Pt e1 hn,Bool.or_false],?_⟩
   unfold Vd; rw [N9 (Ch (by rw [e1]; simp_arith [U1,Az,Ga hn]))]
   rfl
 cases h with
 | undo q h=>exact no _ _ _ h (by decide)
 | oth k x xs h h1 _=>exact no _ _ _ h h1
 | drop ss h hss =>
   have c1:(C3 (b2 (b2 (A0 3) (vC (.int 0)) dIx) (vC (.str "drop")) dEq)) [.sh b,.sh (.list ((onL L).map idP)),.sh (.list (gs.map sgO)),.sh e.1]=.ok true:=by rw [h]; simp_arith [U1,Az,Ij]
   have c2:(C3 (b2 (b2 (A0 3) (vC (.int 1)) dIx) (A0 1) (dIn false))) [.sh b,.sh (.list ((onL L).map idP)),.sh (.list (gs.map sgO)),.sh e.1]=.ok (!decide (e.2∈off L)):=by
     refine C7 (B8 (x:=idP e.2) (y:=.list ((onL L).map idP)) (by rw [h]; simp_arith [Bq]) (by simp_arith) ?_)
     rw [Hu,Wi he]
     cases decide (e.2∈off L) <;> rfl
   have hd:∀ s,V5 un e s=(!un e.2&&ss.any fun t=>decide (some t=some s)):=fun s=>by
     unfold V5; rw [h]; show (("drop" : Str) == "drop" && (!un e.2)&&((ss.map sgO).any fun y=>PyData.eqv y (sgO s)))=_
     rw [Ij,Bool.true_and,List.any_map]
     congr 1
     congr 1
     funext t
     exact O9 _ _
   unfold Vd
   cases c:decide (e.2∈off L) with
   | true =>
     rw [c] at c2; rw [N9 (Ah c1 c2)]; exact ⟨gs,by lia,fun s=>by rw [hd,hu,c]; simp,rfl⟩
   | false =>
     rw [c] at c2; refine ⟨gs++ss,by simp; lia,fun s=>?_,?_⟩
     . rw [hd,hu,c,Bool.eq_iff_iff]
       simp
     . rw [U2 (Ag c1 c2)]
       have q:=B8 (f:=A0 2) (g:=vFn (A2 (b2 (A0 3) (vC (.int 2)) dIx) A8) Hy) (δ:=[.sh b,.sh (.list ((onL L).map idP)),.sh (.list (gs.map sgO)),.sh e.1]) (x:=.list (gs.map sgO)) (y:=.list (ss.map sgO)) rfl
         (Eu (A6 (B8 (x:=e.1) (y:=.int 2) rfl rfl (by rw [h]; exact Zq _ _ _ _)) rfl) rfl) (Vi (by rw [List.length_map,List.length_map]; lia))
       rw [D9 q,List.map_append]; rfl
theorem Po {L:List Dp} {un:IdP->Bool} (hu:∀ p,un p=decide (p∈off L)) (b:PyData):∀ (M:List Dp),(∀ e∈M,e∈L/\Kd e)->∀ (gs:List (IdP×Nat)) (s3:Sl),gs.length+40*M.length<=600->∃ (gs':List (IdP×Nat)) (t3:Sl),gs'.length<=gs.length+40*M.length/\(∀ s,decide (s∈gs')=(decide (s∈gs)||M.any fun e=>V5 un e s)) /\
   E5 (st1 3) Vd (M.map (·.1)) [.sh b,.sh (.list ((onL L).map idP)),.sh (.list (gs.map sgO)),s3]=.nx [.sh b,.sh (.list ((onL L).map idP)),.sh (.list (gs'.map sgO)),t3]
 | [],_,gs,s3,_=>⟨gs,s3,by simp,fun s=>by simp,rfl⟩
 | e::M,h,gs,s3,hl=>by
   rw [List.length_cons] at hl; obtain ⟨g1,l1,m1,e1⟩:=bE hu (h e (.head _)).1 (h e (.head _)).2 b gs (by lia)
   obtain ⟨g2,t3,l2,m2,e2⟩:=Po hu b M (fun d hd=>h d (.tail _ hd)) g1 (.sh e.1) (by lia)
   exact ⟨g2,t3,by rw [List.length_cons]; lia,fun s=>by rw [m2,m1,List.any_cons,Bool.or_assoc],(M4 rfl e1).trans e2⟩
theorem pN (t:Bool) (u:As) (gs:List (IdP×Nat)):dIn t (sgA u) (.list (gs.map sgO))=some (.bool (t != decide (sgn u∈gs))):=by
 show (if _ then _ else _)=_
 rw [if_pos (Nat.le_trans (Nat.min_le_right _ _) (Nat.le_trans (show (sgA u).depth<=3 from Rx (sgn u)) (by decide)))]
 have:((gs.map sgO).any fun y=>PyData.eqv y (sgA u))=decide (sgn u∈gs):=by
   rw [List.any_map,Bool.eq_iff_iff,List.any_eq_true,decide_eq_true_iff]
   constructor
   . rintro ⟨q,hq,e⟩
     have e:PyData.eqv (sgO q) (sgO (sgn u))=true:=e; rw [O9] at e; rw [<- Option.some.inj (of_decide_eq_true e)]; exact hq
   . intro h
     exact ⟨sgn u,h,by show PyData.eqv (sgO (sgn u)) (sgO (sgn u))=true; rw [O9]; simp⟩
 rw [this]
 cases t <;> cases decide (sgn u∈gs) <;> rfl
theorem aS {L:List Dp} {B:List Ad} (A:BkA L B) (hk:∀ e∈L,Kd e) (hl:L.length<=9) {ku kd:Kvs} (P:Pq L ku kd):Q1 [bkD L]=.ok (.list (((ord B).filter (E6 ku kd)).map sgA)):=by
 have hol:=Bz A
 obtain ⟨gs,t3,_,m,e⟩:=Po (un:=un ku) P.o (bkD L) L (fun e he=>⟨he,hk e he⟩) [] .un (by simp; lia)
 unfold Q1 Z4 L7
 refine T5 ?_
 show C6 _ _ [.sh (bkD L),.un,.un,.un]=_
 rw [B6 (δ':=[.sh (bkD L),.sh (.list ((onL L).map idP)),.un,.un]) (D9 (D1 (A6 (d:=bkD L) rfl rfl) (gN hk hl)))]
 rw [B6 (δ':=[.sh (bkD L),.sh (.list ((onL L).map idP)),.sh (.list []),.un]) (by rfl)]
 rw [B6 (δ':=[.sh (bkD L),.sh (.list ((onL L).map idP)),.sh (.list (gs.map sgO)),t3]) (by
   unfold W0 N2; rw [K2 (d:=bkD L) (ds:=L.map (·.1)) rfl rfl,D4]; exact e)]
 have c:=Ed (δc:=[.sh (.list ((onL L).map idP)),.sh (.list (gs.map sgO))]) (tt:=T1 (C3 (b2 (b2 (A0 0) (vC (.int 0)) dIx) (A0 1) (dIn false))) (C3 (b2 (A0 0) (A0 2) (dIn true)))) (el:=A0 0) sgA sgA (E6 ku kd) (ord B) (fun u hu=>by
   have hm:=(P8 A.bk u).mp hu; have h1:(C3 (b2 (b2 (A0 0) (vC (.int 0)) dIx) (A0 1) (dIn false))) ([.sh (sgA u)]++[.sh (.list ((onL L).map idP)),.sh (.list (gs.map sgO))])=.ok (!un ku u.1.p):=by
     refine C7 (B8 (x:=idP u.1.p) (y:=.list ((onL L).map idP)) (by simp_arith [U1]) (by simp_arith) ?_)
     rw [Hu,Wi (A.inL _ hm.1),P.o]
     cases decide (u.1.p∈off L) <;> rfl
   have h2:(C3 (b2 (A0 0) (A0 2) (dIn true))) ([.sh (sgA u)]++[.sh (.list ((onL L).map idP)),.sh (.list (gs.map sgO))])=.ok (!(has kd (some (sgn u)))):=by
     refine C7 (B8 (x:=sgA u) (y:=.list (gs.map sgO)) (by simp_arith) (by simp_arith) ?_)
     rw [pN,m,P.P.h,show decide (sgn u∈([]:List (IdP×Nat)))=false from rfl,Bool.false_or]
     show some (PyData.bool (true != L.any fun e=>V5 (un ku) e (sgn u)))=some (PyData.bool (!(L.any fun e=>V5 (un ku) e (sgn u))))
     cases (L.any fun e=>V5 (un ku) e (sgn u)) <;> rfl
   unfold E6
   cases hc:un ku u.1.p with
   | true=>rw [hc] at h1; exact Ch h1
   | false =>
     rw [hc] at h1; unfold T1; rw [h1,C4]; exact h2) (fun u _=>by simp_arith)
 exact O7 (T7 (M5 (K2 (d:=.list ((ord B).map sgA)) (D1 (A6 (d:=bkD L) rfl rfl) (Ts A hl)) rfl) (by rw [List.length_map]; lia) rfl c))
abbrev adE (a:Ad):PyData×PyData:=(idP a.p,.str a.w)
theorem bT {L:List Dp} {B:List Ad} (h:Adds L B):D5 E7 [] (C3 (b2 (b2 (A0 0) (vC (.int 0)) dIx) (vC (.str "add")) dEq)) (E3 (A2 (b2 (A0 0) (vC (.int 1)) dIx) (A2 (b2 (A0 0) (vC (.int 3)) dIx) A8))) (L.map (·.1))=.ok (B.map fun a=>.tuple [(adE a).1,(adE a).2]):=by
 induction h with
 | nil=>rfl
 | @add L B a _ ih=>exact pZ (by unfold Ad.d; simp_arith [U1,Az,Zc]) (by unfold Ad.d; simp_arith [Bq,Zp]) ih
 | @oth L B e k x xs he hk _ ih=>exact qA (by show C3 _ ([.sh e.1]++[])=_; rw [he]; simp_arith [U1,Az,Ga hk]) ih
theorem Bk.ids {B:List Ad} (h:Bk B):B.Pairwise (fun a b=>PyData.eqv (adE a).1 (adE b).1=false):=by
 induction h with
 | nil=>exact .nil
 | @snoc B e _ _ hk _ ih =>
   refine List.pairwise_append.mpr ⟨ih,List.pairwise_singleton _ _,fun a ha b hb=>?_⟩
   rw [List.mem_singleton.mp hb]; show PyData.eqv (idP a.p) (idP e.p)=false
   rw [Rw,decide_eq_false]; intro z; have:=hk a ha; rw [z] at this
   lia
theorem Ub {L:List Dp} {B:List Ad} (A:BkA L B) (hl:L.length<=9) {us:List As} (hu:∀ u∈us,u∈ord B) (hul:us.length<=100):L4 [bkD L,.list (us.map sgA)]=.ok (.str (Str.join "" (us.map ltr))):=by
 have hj:=Ue (us:=us) (fun u h=>by
   have:=(P8 A.bk u).mp (hu u h); exact ⟨A.wd _ this.1,this.2⟩) hul
 have hp:Dh (B.map fun a=>.tuple [(adE a).1,(adE a).2]) []=some (B.map adE):=Pf adE (fun a=>Dk a.p) B [] A.bk.ids
 have hlen:=A.len
 unfold L4 Au Ak
 refine T5 ?_
 show C6 _ _ [.sh (bkD L),.sh (.list (us.map sgA)),.un]=_
 have hd:(K6 (K3 (fun δ=>((A0 0) δ).bind E9) E7 [] (C3 (b2 (b2 (A0 0) (vC (.int 0)) dIx) (vC (.str "add")) dEq)) (E3 (A2 (b2 (A0 0) (vC (.int 1)) dIx) (A2 (b2 (A0 0) (vC (.int 3)) dIx) A8))))) [.sh (bkD L),.sh (.list (us.map sgA)),.un]=.ok (.list (B.map fun a=>.tuple [(adE a).1,(adE a).2])) :=
   T7 (M5 (K2 (d:=bkD L) rfl rfl) (by rw [List.length_map]; lia) rfl (bT A.ad))
 rw [B6 (δ':=[.sh (bkD L),.sh (.list (us.map sgA)),oN (B.map adE)]) (by
   unfold Ct Wh; rw [hd,C4]; show I8 (if _ then _ else _) _=_
   rw [if_pos (by rw [List.length_map]; lia),hp]; rfl)]
 have c:=Ed (δc:=[oN (B.map adE)]) (tt:=O3) (el:=b2 (cF 1 (b2 (A0 0) (vC (.int 0)) dIx)) (b2 (A0 0) (vC (.int 1)) dIx) dIx) sgA (fun u=>PyData.str (ltr u)) (fun _=>true) us (fun _ _=>rfl) (fun u h=>by
   have hm:=(P8 A.bk u).mp (hu u h); have hg:P0 (B.map adE) (idP u.1.p)=some (.str u.1.w):=by
     have:=Ui adE (u:=u.1) (by show PyData.eqv (idP u.1.p) (idP u.1.p)=true; rw [Rw]; simp) (us:=B) (more:=[]) hm.1 A.bk.ids
     rwa [List.append_nil] at this
   refine B8 (x:=.str u.1.w) (y:=.int (u.2:Int)) ?_ (by simp_arith [Bq]) (fR hm.2)
   unfold cF; show Res.bind _ (fun kd'=>if nkD kd'=true then ofO (P0 (B.map adE) kd') else Res.no)=_
   rw [show (b2 (A0 0) (vC (.int 0)) dIx) ([.sh (sgA u)]++[oN (B.map adE)])=.ok (idP u.1.p) by simp_arith [U1],C4,if_pos (Dk _),hg]; rfl)
 rw [List.filter_eq_self.mpr fun _ _=>rfl] at c
 refine O7 ?_
 unfold Ii
 rw [T7 (M5 (K2 (d:=.list (us.map sgA)) rfl rfl) (by rw [List.length_map]; lia) rfl c),C4,hj]; rfl
theorem aE {st:PyData->Dn->Option Dn} {body:Dn->Out} {d r:PyData} {ds:List PyData} {δ δ1:Dn} (h1:st d δ=some δ1) (h2:body δ1=.rt r):E5 st body (d::ds) δ=.rt r:=by
 conv=>lhs; unfold E5
 rw [h1]
 show (match body δ1 with | .nx δ'=>_ | .ct δ'=>_ | .bk δ'=>_ | o=>_)=_
 rw [h2]
theorem eqId (p q:IdP):dEq (idP p) (idP q)=some (.bool (decide (p=q))):=by
 unfold dEq
 rw [if_pos (Nat.le_trans (Nat.min_le_left _ _) (Nat.le_trans (gT _) (by decide))),Rw]
theorem hs_c {e:Dp} (h:Kd e) (b:PyData) (p:IdP) (m:Nat):(C3 (b2 (b2 (A0 2) (vC (.int 1)) dIx) (b2 (A0 1) (vC (.int 0)) dIx) dEq)) [.sh b,.sh (sgD p (m:Int)),.sh e.1]=.ok (decide (e.2=p)) :=
 C7 (B8 (x:=idP e.2) (y:=idP p) (B8 (x:=e.1) (y:=.int 1) rfl rfl h.tid) (B8 (x:=sgD p (m:Int)) (y:=.int 0) rfl rfl (U1 _ _)) (eqId _ _))
theorem Yl {e:Dp} (h:Kd e) (b:PyData) {p:IdP} (m:Nat) (hn:e.2≠p):Qc [.sh b,.sh (sgD p (m:Int)),.sh e.1]=.nx [.sh b,.sh (sgD p (m:Int)),.sh e.1]:=by
 have c:=hs_c h b p m
 rw [decide_eq_false hn] at c
 unfold Qc
 rw [N9 c]; rfl
theorem pQ {e:Dp} (h:Kd e) (b:PyData) {a:Ad} (m:Nat) (he:e.2=a.p) (hd:e.1=a.d):Qc [.sh b,.sh (sgD a.p (m:Int)),.sh e.1]=.rt (.bool (decide (m < a.w.length))):=by
 have c:=hs_c h b a.p m
 rw [decide_eq_true he] at c
 unfold Qc
 rw [U2 c]
 refine O7 ?_
 have l1:P1 .LtE (.int 0) (.int (m:Int))=some (.bool true):=by
   show some (PyData.bool (decide ((0:Int)<=m)))=_
   rw [decide_eq_true (by lia)]
 unfold Km
 simp_arith [Bq,l1]
 show (C5 (A2 (A0 2) A8) D7 [.sh b,.sh (sgD a.p (m:Int)),.sh e.1]).bind _=_
 rw [hd]
 have l2:P1 .Lt (.int (m:Int)) (.int (a.w.length:Int))=some (.bool (decide (m < a.w.length))):=by
   rw [ltI]
   congr 2
   exact decide_eq_decide.mpr (by lia)
 simp_arith [Ti,l2]
theorem Ym (b:PyData) {a:Ad} (m:Nat):∀ (M:List Dp),(∀ e∈M,Kd e)->(∀ e∈M,e.2=a.p->e.1=a.d)->(a.d,a.p)∈M->∀ s2,E5 (st1 2) Qc (M.map (·.1)) [.sh b,.sh (sgD a.p (m:Int)),s2]=.rt (.bool (decide (m < a.w.length)))
 | e::M,hk,hd,hm,s2=>by
   rw [List.map_cons]
   by_cases c:e.2=a.p
   . exact aE (δ1:=[.sh b,.sh (sgD a.p (m:Int)),.sh e.1]) rfl (pQ (hk e (.head _)) b m c (hd e (.head _) c))
   . refine (M4 (δ1:=[.sh b,.sh (sgD a.p (m:Int)),.sh e.1]) rfl (Yl (hk e (.head _)) b m c)).trans (Ym b m M (fun d h=>hk d (.tail _ h)) (fun d h=>hd d (.tail _ h)) ?_ _)
     rcases List.mem_cons.mp hm with z | z
     . exact absurd (by rw [<- z]) c
     . exact z
theorem Yk (b:PyData) {p:IdP} (m:Nat):∀ (M:List Dp),(∀ e∈M,Kd e)->(∀ e∈M,e.2≠p)->∀ s2,∃ t2,E5 (st1 2) Qc (M.map (·.1)) [.sh b,.sh (sgD p (m:Int)),s2]=.nx [.sh b,.sh (sgD p (m:Int)),t2]
 | [],_,_,s2=>⟨s2,rfl⟩
 | e::M,hk,hn,s2=>by
   obtain ⟨t2,e2⟩:=Yk b m M (fun d h=>hk d (.tail _ h)) (fun d h=>hn d (.tail _ h)) (.sh e.1)
   exact ⟨t2,(M4 (δ1:=[.sh b,.sh (sgD p (m:Int)),.sh e.1]) rfl (Yl (hk e (.head _)) b m (hn e (.head _)))).trans e2⟩
theorem oR {L:List Dp} (h:Upk L) {e e':Dp} (he:e∈L) (he':e'∈L) (h2:e.2=e'.2):e=e':=by
 induction L with
 | nil=>cases he
 | cons a L ih =>
   have hu:=List.pairwise_cons.mp h; rcases List.mem_cons.mp he with rfl | he1
   . rcases List.mem_cons.mp he' with rfl | he'
     . rfl
     . have:=hu.1 _ he'; rw [h2] at this; lia
   . rcases List.mem_cons.mp he' with rfl | he'
     . have he:=he1; have:=hu.1 _ he; rw [h2] at this; lia
     . exact ih hu.2 he1 he'
noncomputable section
variable {L:List Dp} {B:List Ad} {ku kd:Kvs}
theorem gG (A:BkA L B) (W:BkW L) {a:Ad} (ha:a∈B) (m:Nat):M0 [bkD L,sgD a.p (m:Int)]=.ok (.bool (decide (m < a.w.length))):=by
 have e:=Ym (bkD L) m L (fun e he=>(W.1 e he).kd) (fun e he h3=>congrArg Prod.fst (oR W.2 he (A.inL _ ha) h3)) (A.inL _ ha) .un
 unfold M0 W9 Ab
 refine T5 ?_
 show C6 _ _ [.sh (bkD L),.sh (sgD a.p (m:Int)),.un]=_
 refine Dz ?_
 unfold N2
 rw [K2 (d:=bkD L) (ds:=L.map (·.1)) rfl rfl,D4]
 exact e
theorem pR (W:BkW L) {p:IdP} (hn:∀ e∈L,e.2≠p) (m:Nat):M0 [bkD L,sgD p (m:Int)]=.ok (.bool false):=by
 obtain ⟨t2,e⟩:=Yk (bkD L) m L (fun e he=>(W.1 e he).kd) hn .un
 unfold M0 W9 Ab
 refine T5 ?_
 show C6 _ _ [.sh (bkD L),.sh (sgD p (m:Int)),.un]=_
 rw [B6 (δ':=[.sh (bkD L),.sh (sgD p (m:Int)),t2]) (by
   unfold N2; rw [K2 (d:=bkD L) (ds:=L.map (·.1)) rfl rfl,D4]; exact e)]
 rfl
theorem cP (A:BkA L B) (W:BkW L) (P:Pr L ku kd) {u:As} (hu:u∈ord B):K7 [bkD L,sgA u]=.ok (.bool (E6 ku kd u)):=by
 obtain ⟨h1,h2⟩:=(P8 A.bk u).mp hu
 have hh:=gG A W h1 u.2
 rw [decide_eq_true h2] at hh
 unfold K7 W8 Aa
 refine T5 ?_
 show C6 _ _ [.sh (bkD L),.sh (sgA u),.un]=_
 have c0:(Ft (C3 (Gx (A2 (A0 0) (A2 (A0 1) A8)) M0))) [.sh (bkD L),.sh (sgA u),.un]=.ok false:=by
   unfold Ft; rw [C7 (b:=true) (by
     unfold Gx; rw [A6 (d:=bkD L) (ds:=[sgA u]) rfl rfl,C4,hh]; rfl)]; rfl
 rw [B6 (δ':=[.sh (bkD L),.sh (sgA u),.un]) (by rw [N9 c0]; rfl)]
 rw [B6 (δ':=[.sh (bkD L),.sh (sgA u),oN ku]) (by
   unfold Ct Mi; rw [A6 (d:=bkD L) (ds:=[]) rfl rfl,C4,P.u]; rfl)]
 unfold dR
 show L3 _ [.sh (bkD L),.sh (sgA u),fN ku]=_
 refine O7 (Xh ?_ ?_)
 . rw [Fv (kvs:=ku) (kd:=idP u.1.p) rfl (B8 (x:=sgA u) (y:=.int 0) rfl rfl (U1 _ _)) (Dk _),bne_true]; rfl
 . unfold Zi Mh
   show Res.bind (Res.ok (sgA u)) (fun kd'=>Res.bind (Res.bind (Res.ok (bkD L)) fun d=>kA (F2 [.sh d,fN ku])) fun kvs=>if nkD kd'=true then Res.ok (PyData.bool ((P0 kvs kd').isSome != true)) else Res.no)=_
   rw [C4,C4,P.d]; show Res.bind (Res.ok kd) _=_
   rw [C4,if_pos (show nkD (sgA u)=true from Ng (some (sgn u))),bne_true]; rfl
theorem Sn {x:PyData} (h:M0 [bkD L,x]=.ok (.bool false)) (hs:Dj x=true):K7 [bkD L,x]=.exc "NoSign" := by
 unfold K7 W8 Aa
 rw [Cc]
 show (C6 _ _ [.sh (bkD L),.sh x,.un]).fin=_
 have c0:(Ft (C3 (Gx (A2 (A0 0) (A2 (A0 1) A8)) M0))) [.sh (bkD L),.sh x,.un]=.ok true:=by
   unfold Ft; rw [C7 (b:=false) (by
     unfold Gx; rw [A6 (d:=bkD L) (ds:=[x]) rfl rfl,C4,h]; rfl)]; rfl
 rw [Bv,U2 c0]
 have:Bw "NoSign" (A0 1) [.sh (bkD L),.sh x,.un]=.exc "NoSign" := by
   unfold Bw; show I8 (Res.ok x) _=_
   rw [D4,if_pos (.inl hs)]
 rw [this]
 rfl
theorem dX (W:BkW L) (p:IdP) (hl:L.length<=9):(p∈L.map (·.2)->E4 [bkD L,idP p]=.ok .none)/\(p∉L.map (·.2)->Dj (idP p)=true->E4 [bkD L,idP p]=.exc "NoDeed"):=by
 have hc:=Ed (δc:=[]) (tt:=O3) (el:=b2 (A0 0) (vC (.int 1)) dIx) (fun e:Dp=>e.1) (fun e:Dp=>idP e.2) (fun _=>true) L (fun _ _=>rfl) (fun e he=>B8 (x:=e.1) (y:=.int 1) rfl rfl (W.1 e he).kd.tid)
 rw [List.filter_eq_self.mpr (fun _ _=>rfl)] at hc
 have hlc:K6 (K3 (fun δ=>((A0 0) δ).bind E9) E7 [] O3 (b2 (A0 0) (vC (.int 1)) dIx)) [.sh (bkD L),.sh (idP p)]=.ok (.list ((L.map (·.2)).map idP)):=by
   rw [List.map_map]; exact T7 (M5 (K2 (d:=bkD L) (ds:=L.map (fun e:Dp=>e.1)) rfl rfl) (by rw [List.length_map]; lia) rfl hc)
 have c:(C3 (b2 (A0 1) (K6 (K3 (fun δ=>((A0 0) δ).bind E9) E7 [] O3 (b2 (A0 0) (vC (.int 1)) dIx))) (dIn true))) [.sh (bkD L),.sh (idP p)]=.ok (!decide (p∈L.map (·.2))):=by
   refine C7 (B8 (x:=idP p) (y:=.list ((L.map (·.2)).map idP)) rfl hlc ?_); rw [Hu]
   cases decide (p∈L.map (·.2)) <;> rfl
 unfold E4 N1 L6
 refine ⟨fun h=>?_,fun h hs=>?_⟩
 . rw [decide_eq_true h] at c
   rw [Cc]; show (sIf _ _ _ [.sh (bkD L),.sh (idP p)]).fin=_
   rw [N9 c]; rfl
 . rw [decide_eq_false h] at c
   rw [Cc]; show (sIf _ _ _ [.sh (bkD L),.sh (idP p)]).fin=_
   rw [U2 c]; have:Bw "NoDeed" (A0 1) [.sh (bkD L),.sh (idP p)]=.exc "NoDeed" := by
     unfold Bw; show I8 (Res.ok (idP p)) _=_
     rw [D4,if_pos (.inl hs)]
   rw [this]; rfl
theorem kU (W:BkW L) (hl:L.length<=9) (P:Pq L ku kd) {p:IdP} (h:p∈L.map (·.2)):K1 [bkD L,idP p]=.ok (.bool (!decide (p∈off L))):=by
 have hr:=(dX W p hl).1 h
 unfold K1 U9 V8
 refine T5 ?_
 show C6 _ _ [.sh (bkD L),.sh (idP p)]=_
 rw [B6 (δ':=[.sh (bkD L),.sh (idP p)]) (by
   unfold dS; rw [D1 (A6 (d:=bkD L) rfl (A6 (d:=idP p) rfl rfl)) hr]; rfl)]
 refine O7 ?_
 unfold Zi Mi
 show Res.bind (Res.ok (idP p)) (fun kd'=>Res.bind (Res.bind (A2 (A0 0) A8 [.sh (bkD L),.sh (idP p)]) fun ds=>kA (F8 ds)) fun kvs=>if nkD kd'=true then Res.ok (PyData.bool ((P0 kvs kd').isSome != true)) else Res.no)=_
 rw [C4,A6 (d:=bkD L) (ds:=[]) rfl rfl,C4,P.P.u]
 show Res.bind (Res.ok ku) _=_
 rw [C4,if_pos (show nkD (idP p)=true from Dk p),bne_true]
 exact congrArg (fun z=>Res.ok (PyData.bool (!z))) (P.o p)
theorem gO (W:BkW L) (hl:L.length<=9) {p:IdP} (h:p∉L.map (·.2)) (hs:Dj (idP p)=true):K1 [bkD L,idP p]=.exc "NoDeed" := by
 have hr:=(dX W p hl).2 h hs
 unfold K1 U9 V8
 rw [Cc]
 show (C6 _ _ [.sh (bkD L),.sh (idP p)]).fin=_
 rw [Bv]
 have:dS (C5 (A2 (A0 0) (A2 (A0 1) A8)) E4) [.sh (bkD L),.sh (idP p)]=.exc "NoDeed" := by
   unfold dS; rw [D1 (A6 (d:=bkD L) rfl (A6 (d:=idP p) rfl rfl)) hr]; rfl
 rw [this]; rfl
end
theorem told0 {b x d:PyData} (h:K1 [b,x]=.ok d):C8 [.int 0,b,x]=.ok d:=by
 unfold C8 O5 P4
 refine T5 ?_
 show (match K1 [b,x] with | .ok d=>Out.rt d | .exc _=>.rt (G9 0) | .no=>.no)=_
 rw [h]
theorem cO {b x:PyData} {c:Str} (h:K1 [b,x]=.exc c):C8 [.int 0,b,x]=.ok (G9 0):=by
 unfold C8 O5 P4
 refine T5 ?_
 show (match K1 [b,x] with | .ok d=>Out.rt d | .exc _=>.rt (G9 0) | .no=>.no)=_
 rw [h]
theorem told1 {b x d:PyData} (h:K7 [b,x]=.ok d):C8 [.int 1,b,x]=.ok d:=by
 unfold C8 O5 P4
 refine T5 ?_
 show (match K7 [b,x] with | .ok d=>Out.rt d | .exc _=>.rt (G9 1) | .no=>.no)=_
 rw [h]
theorem cN {b x:PyData} {c:Str} (h:K7 [b,x]=.exc c):C8 [.int 1,b,x]=.ok (G9 1):=by
 unfold C8 O5 P4
 refine T5 ?_
 show (match K7 [b,x] with | .ok d=>Out.rt d | .exc _=>.rt (G9 1) | .no=>.no)=_
 rw [h]
abbrev chU (u:As):Nat:=u.1.w.cps.toList.getD u.2 0
theorem Gp:∀ us:List As,(Str.join "" (us.map ltr)).cps.toList=us.map chU
 | []=>rfl
 | [u]=>rfl
 | u::v::r=>by
   have ih:=Gp (v::r); show ((ltr u ++ "" ++ Str.join "" ((v::r).map ltr)):Str).cps.toList=_
   show ((ltr u).cps++("" : Str).cps++(Str.join "" ((v::r).map ltr)).cps).toList=_
   rw [Array.toList_append,Array.toList_append,ih]; rfl
theorem bA (us:List As):(Str.join "" (us.map ltr)).cps.size=us.length:=by
 rw [<- Array.length_toList,Gp,List.length_map]
theorem nA (us:List As):Bo (us.map sgA) (Str.join "" (us.map ltr))=us.map tl:=by
 unfold Bo
 apply List.ext_getElem?
 intro i
 rw [List.getElem?_mapIdx,List.getElem?_map,List.getElem?_map]
 cases h:us[i]? with
 | none=>rfl
 | some u =>
   have h2:(Str.join "" (us.map ltr)).cps.getD i 0=chU u:=by
     have:=congrArg (fun l:List Nat=>l[i]?) (Gp us)
     simp only [List.getElem?_map,h,Array.getElem?_toList] at this; rw [Array.getD_eq_getD_getElem?,this]; rfl
   show some (PyData.tuple [sgA u,.str ⟨#[(Str.join "" (us.map ltr)).cps.getD i 0]⟩])=_
   rw [h2]; rfl
theorem Wn {us:List As} (h:∀ u∈us,Et u.1.w/\u.2 < u.1.w.length):(Str.join "" (us.map ltr)).cps.all (· < 128)=true:=by
 rw [Array.all_eq_true']
 intro c hc
 have hc:c∈(Str.join "" (us.map ltr)).cps.toList:=by simpa using hc
 rw [Gp] at hc
 obtain ⟨u,hu,rfl⟩:=List.mem_map.mp hc
 obtain ⟨_,_,o⟩:=fT (h u hu).1 (h u hu).2
 have:=o (chU u) (by show chU u∈[chU u]; exact .head _)
 exact decide_eq_true (by lia)
theorem bX {us:List As} (h:∀ u∈us,Et u.1.w/\u.2 < u.1.w.length):Nh [.list (us.map sgA),.str (Str.join "" (us.map ltr))]=.ok (us.map tl):=by
 show (if _ then _ else _)=_
 rw [if_pos ⟨by rw [List.length_map,bA],Wn h⟩,nA]
abbrev rD (x:Str×Str):PyData:=.tuple [.str x.1,.str x.2]
noncomputable def Wb (acc:List (Str×Str)) (h c:Str):List (Str×Str):=match acc.getLast? with
 | some x=>if x.1=h then acc.dropLast++[(h,x.2++c)] else acc++[(h,c)]
 | none=>[(h,c)]
theorem Lu (h c:Str):Wb [] h c=[(h,c)]:=rfl
theorem Hk (A:List (Str×Str)) (x:Str×Str) (h c:Str):Wb (A++[x]) h c=if x.1=h then A++[(h,x.2++c)] else A++[x]++[(h,c)]:=by
 unfold Wb
 rw [List.getLast?_append]
 simp
noncomputable def Wa:List As->List (Str×Str)->List (Str×Str)
 | [],acc=>acc
 | u::us,acc=>Wa us (Wb acc u.1.p.2 (ltr u))
def RunOk (n:Nat) (acc:List (Str×Str)):Prop:=acc.length<=n/\∀ x∈acc,x.2.length<=n
theorem RunOk.step {n:Nat} {acc:List (Str×Str)} (h:RunOk n acc) (u:As):RunOk (n+1) (Wb acc u.1.p.2 (ltr u)):=by
 rcases List.eq_nil_or_concat acc with rfl | ⟨A,x,rfl⟩
 . rw [Lu]
   refine ⟨by simp,fun y hy=>?_⟩
   rw [List.mem_singleton.mp hy]; show (ltr u).length<=n+1
   rw [Gn]; lia
 . rw [List.concat_eq_append] at h ⊢
   obtain ⟨h1,h2⟩:=h; rw [Hk]
   split
   . refine ⟨by rw [List.length_append] at h1 ⊢; simp at h1 ⊢; lia,fun y hy=>?_⟩
     rcases List.mem_append.mp hy with z | z
     . have:=h2 y (List.mem_append_left _ z); lia
     . rw [List.mem_singleton.mp z]
       show (x.2++ltr u).length<=n+1
       have:=h2 x (List.mem_append_right _ (.head _)); rw [strLen_append,Gn]; lia
   . refine ⟨by rw [List.length_append]; simp at h1 ⊢; lia,fun y hy=>?_⟩
     rcases List.mem_append.mp hy with z | z
     . have:=h2 y z; lia
     . rw [List.mem_singleton.mp z]
       show (ltr u).length<=n+1
       rw [Gn]; lia
theorem Yg (A:List PyData) (x:PyData):ixN (A++[x]).length (-1)=some A.length:=by
 unfold ixN
 simp
 lia
theorem Ke (A:List PyData) (x:PyData):dIx (.list (A++[x])) (.int (-1))=some x:=by
 show atI (A++[x]) (-1)=some x
 unfold atI
 rw [Yg]
 simp
theorem aL (δ:Dn):b1 (vC (.int 1)) Bm δ=.ok (.int (-1)):=rfl
theorem dH (A:List PyData) (x y:PyData):(A++[x]).set A.length y=A++[y]:=by
 rw [List.set_append_right _ _ (Nat.le_refl _),Nat.sub_self]; rfl
theorem Xt {i:Nat} {fk fv:Dn->Res PyData} {δ:Dn} {A:List PyData} {x v:PyData} (h:δ[i]? = some (.ow (.list (A++[x])))) (hv:fv δ=.ok v) (hk:fk δ=.ok (.int (-1))):Im i fk fv δ=.nx (δ.set i (.ow (.list (A++[v])))):=by
 unfold Im
 rw [h]
 show I8 (fv δ) _=_
 rw [hv,D4,hk,D4]
 show (match ixN (A++[x]).length (-1) with | some j=>_ | none=>_)=_
 rw [Yg]
 show Out.nx (δ.set i (.ow (.list ((A++[x]).set A.length v))))=_
 rw [dH]
theorem cG {i:Nat} {f:Dn->Res PyData} {δ δ':Dn} {x:Str} (h:fz i δ=δ') (h2:f δ'=.ok (.str x)):vFz i f δ=.ok (.str x):=by
 unfold vFz
 rw [h,h2]; rfl
noncomputable def iB:Dn->Out:=(C6 (E8 3 (b2 (b2 (b2 (A0 2) (vC (.int 0)) dIx) (vC (.int 0)) dIx) (vC (.int 1)) dIx)) (sIf (cFz 1 (T1 (C3 (A0 1)) (C3 (b2 (b2 (b2 (A0 1) (b1 (vC (.int 1)) Bm) dIx) (vC (.int 0)) dIx) (A0 3) dEq)))) (Im 1 (b1 (vC (.int 1)) Bm) (E3 (A2 (A0 3) (A2 (vFz 1 (b2 (b2 (b2 (A0 1) (b1 (vC (.int 1)) Bm) dIx) (vC (.int 1)) dIx) (b2 (A0 2) (vC (.int 1)) dIx) C9)) A8)))) (Ae 1 (E3 (A2 (A0 3) (A2 (b2 (A0 2) (vC (.int 1)) dIx) A8))))))
theorem bS (b:PyData) {n:Nat} {acc:List (Str×Str)} (h:RunOk n acc) (hn:n<=100) (u:As) (s3:Sl):iB [.sh b,.ow (.list (acc.map rD)),.sh (tl u),s3]=.nx [.sh b,.ow (.list ((Wb acc u.1.p.2 (ltr u)).map rD)),.sh (tl u),.sh (.str u.1.p.2)]:=by
 unfold iB
 rw [B6 (δ':=[.sh b,.ow (.list (acc.map rD)),.sh (tl u),.sh (.str u.1.p.2)]) (D9 (d:=.str u.1.p.2) (B8 (x:=idP u.1.p) (y:=.int 1) (B8 (x:=sgA u) (y:=.int 0) (B8 (x:=tl u) (y:=.int 0) rfl rfl (U1 _ _)) rfl (U1 _ _)) rfl (Bq _ _ _)))]
 have app:Ae 1 (E3 (A2 (A0 3) (A2 (b2 (A0 2) (vC (.int 1)) dIx) A8))) [.sh b,.ow (.list (acc.map rD)),.sh (tl u),.sh (.str u.1.p.2)]=.nx [.sh b,.ow (.list ((acc++[(u.1.p.2,ltr u)]).map rD)),.sh (tl u),.sh (.str u.1.p.2)]:=by
   have h1:=h.1; rw [Ea (W:=acc.map rD) (d:=rD (u.1.p.2,ltr u)) rfl (Q8 (A6 (d:=.str u.1.p.2) rfl (A6 (B8 (x:=tl u) (y:=.int 1) rfl rfl (Bq _ _ _)) rfl))) (by rw [List.length_map]; lia),List.map_append]
   rfl
 rcases List.eq_nil_or_concat acc with rfl | ⟨A,x,rfl⟩
 . rw [N9 (Cg (δ':=[.sh b,.sh (.list []),.sh (tl u),.sh (.str u.1.p.2)]) rfl (Ch rfl)),app,Lu]
   rfl
 . rw [List.concat_eq_append] at *
   have hx:x.2.length<=n:=h.2 x (List.mem_append_right _ (.head _)); have em:(A++[x]).map rD=A.map rD++[rD x]:=by rw [List.map_append]; rfl
   have hne:((A.map rD++[rD x]).isEmpty)=false:=by cases A <;> rfl
   have c1:(C3 (A0 1)) [.sh b,.sh (.list (A.map rD++[rD x])),.sh (tl u),.sh (.str u.1.p.2)]=.ok true:=by
     show ofO (some (!((A.map rD++[rD x]).isEmpty)))=_
     rw [hne]; rfl
   have c2:(C3 (b2 (b2 (b2 (A0 1) (b1 (vC (.int 1)) Bm) dIx) (vC (.int 0)) dIx) (A0 3) dEq)) [.sh b,.sh (.list (A.map rD++[rD x])),.sh (tl u),.sh (.str u.1.p.2)]=.ok (x.1==u.1.p.2) :=
     C7 (B8 (x:=.str x.1) (y:=.str u.1.p.2) (B8 (x:=rD x) (y:=.int 0) (B8 (x:=.list (A.map rD++[rD x])) (y:=.int (-1)) rfl (aL _) (Ke _ _)) rfl (U1 _ _)) rfl (Az _ _))
   rw [Hk]; rw [em] at app ⊢
   by_cases c:x.1=u.1.p.2
   . rw [c,Ij] at c2
     rw [if_pos c,U2 (Cg (δ':=[.sh b,.sh (.list (A.map rD++[rD x])),.sh (tl u),.sh (.str u.1.p.2)]) rfl (Ag c1 c2))]
     rw [Xt (A:=A.map rD) (x:=rD x) (v:=rD (u.1.p.2,x.2++ltr u)) rfl (Q8 (A6 (d:=.str u.1.p.2) rfl (A6 (cG (δ':=[.sh b,.sh (.list (A.map rD++[rD x])),.sh (tl u),.sh (.str u.1.p.2)]) rfl (B8 (x:=.str x.2) (y:=.str (ltr u)) (B8 (x:=rD x) (y:=.int 1) (B8 (x:=.list (A.map rD++[rD x])) (y:=.int (-1)) rfl (aL _) (Ke _ _)) rfl (Bq _ _ _)) (B8 (x:=tl u) (y:=.int 1) rfl rfl (Bq _ _ _)) (mB (by rw [Gn]; lia)))) rfl))) (aL _),List.map_append]
     rfl
   . rw [Ga c] at c2
     rw [if_neg c,N9 (Cg (δ':=[.sh b,.sh (.list (A.map rD++[rD x])),.sh (tl u),.sh (.str u.1.p.2)]) rfl (Ah c1 c2)),app]
theorem Qi (b:PyData):∀ (us:List As) (n:Nat) (acc:List (Str×Str)) (s2 s3:Sl),RunOk n acc->n+us.length<=100->∃ t2 t3,E5 (st1 2) iB (us.map tl) [.sh b,.ow (.list (acc.map rD)),s2,s3]=.nx [.sh b,.ow (.list ((Wa us acc).map rD)),t2,t3]
 | [],n,acc,s2,s3,_,_=>⟨s2,s3,rfl⟩
 | u::us,n,acc,s2,s3,h,hn=>by
   rw [List.length_cons] at hn; obtain ⟨t2,t3,e⟩:=Qi b us (n+1) _ (.sh (tl u)) (.sh (.str u.1.p.2)) (h.step u) (by lia)
   exact ⟨t2,t3,(M4 (δ1:=[.sh b,.ow (.list (acc.map rD)),.sh (tl u),s3]) rfl (bS b h (by lia) u s3)).trans e⟩
theorem lY {L:List Dp} {B:List Ad} (A:BkA L B) (hl:L.length<=9) {ku kd:Kvs} (P:Pr L ku kd):P9 [bkD L]=.ok (.list ((Wa ((ord B).filter (E6 ku kd)) []).map rD)):=by
 have hol:=Bz A
 have hf:=List.length_filter_le (E6 ku kd) (ord B)
 obtain ⟨t2,t3,e⟩:=Qi (bkD L) ((ord B).filter (E6 ku kd)) 0 [] .un .un ⟨Nat.le_refl _,fun _ h=>nomatch h⟩ (by lia)
 have hs:=Tc A hl P
 unfold P9 Z2 N6
 refine T5 ?_
 show C6 _ _ [.sh (bkD L),.un,.un,.un]=_
 rw [B6 (δ':=[.sh (bkD L),.ow (.list []),.un,.un]) (by rfl)]
 rw [B6 (δ':=[.sh (bkD L),.ow (.list ((Wa ((ord B).filter (E6 ku kd)) []).map rD)),t2,t3]) (by
   unfold V9 N2; rw [K2 (d:=.list (((ord B).filter (E6 ku kd)).map tl)) (ds:=((ord B).filter (E6 ku kd)).map tl) (D1 (A6 (d:=bkD L) rfl rfl) hs) rfl,D4]; exact e)]
 rfl
noncomputable def iA:Dn->Out:=(sIf (cFz 2 (T1 (C3 (b2 (A0 2) (K6 A8) dNe)) (C3 (b2 (b2 (b2 (A0 2) (b1 (vC (.int 1)) Bm) dIx) (vC (.int 0)) dIx) (b2 (b2 (A0 3) (vC (.int 0)) dIx) (vC (.int 1)) dIx) dEq)))) (Im 2 (b1 (vC (.int 1)) Bm) (E3 (A2 (b2 (b2 (A0 3) (vC (.int 0)) dIx) (vC (.int 1)) dIx) (A2 (vFz 2 (b2 (b2 (b2 (A0 2) (b1 (vC (.int 1)) Bm) dIx) (vC (.int 1)) dIx) (A0 4) C9)) A8)))) (Ae 2 (E3 (A2 (b2 (b2 (A0 3) (vC (.int 0)) dIx) (vC (.int 1)) dIx) (A2 (A0 4) A8)))))
theorem aD (x0 x1:Sl) {n:Nat} {acc:List (Str×Str)} (h:RunOk n acc) (hn:n<=100) (u:As):iA [x0,x1,.ow (.list (acc.map rD)),.sh (sgA u),.sh (.str (ltr u))]=.nx [x0,x1,.ow (.list ((Wb acc u.1.p.2 (ltr u)).map rD)),.sh (sgA u),.sh (.str (ltr u))]:=by
 unfold iA
 have hand:∀ {d2:Sl},(b2 (b2 (A0 3) (vC (.int 0)) dIx) (vC (.int 1)) dIx) [x0,x1,d2,.sh (sgA u),.sh (.str (ltr u))]=.ok (.str u.1.p.2):=fun {d2}=>B8 (x:=idP u.1.p) (y:=.int 1) (B8 (x:=sgA u) (y:=.int 0) rfl rfl (U1 _ _)) rfl (Bq _ _ _)
 have app:Ae 2 (E3 (A2 (b2 (b2 (A0 3) (vC (.int 0)) dIx) (vC (.int 1)) dIx) (A2 (A0 4) A8))) [x0,x1,.ow (.list (acc.map rD)),.sh (sgA u),.sh (.str (ltr u))]=.nx [x0,x1,.ow (.list ((acc++[(u.1.p.2,ltr u)]).map rD)),.sh (sgA u),.sh (.str (ltr u))]:=by
   have h1:=h.1; rw [Ea (W:=acc.map rD) (d:=rD (u.1.p.2,ltr u)) rfl (Q8 (A6 hand (A6 (d:=.str (ltr u)) rfl rfl))) (by rw [List.length_map]; lia),List.map_append]
   rfl
 rcases List.eq_nil_or_concat acc with rfl | ⟨A,x,rfl⟩
 . rw [N9 (Cg (δ':=[x0,x1,.sh (.list []),.sh (sgA u),.sh (.str (ltr u))]) rfl (Ch (C7 (B8 (x:=.list []) (y:=.list []) rfl rfl (lM []))))),app,Lu]
   rfl
 . rw [List.concat_eq_append] at *
   have hx:x.2.length<=n:=h.2 x (List.mem_append_right _ (.head _)); have em:(A++[x]).map rD=A.map rD++[rD x]:=by rw [List.map_append]; rfl
   have hne:((A.map rD++[rD x]).isEmpty)=false:=by cases A <;> rfl
   have c1:(C3 (b2 (A0 2) (K6 A8) dNe)) [x0,x1,.sh (.list (A.map rD++[rD x])),.sh (sgA u),.sh (.str (ltr u))]=.ok true :=
     C7 (B8 (x:=.list (A.map rD++[rD x])) (y:=.list []) rfl rfl (by rw [lM,hne]; rfl))
   have c2:(C3 (b2 (b2 (b2 (A0 2) (b1 (vC (.int 1)) Bm) dIx) (vC (.int 0)) dIx) (b2 (b2 (A0 3) (vC (.int 0)) dIx) (vC (.int 1)) dIx) dEq)) [x0,x1,.sh (.list (A.map rD++[rD x])),.sh (sgA u),.sh (.str (ltr u))]=.ok (x.1==u.1.p.2) :=
     C7 (B8 (x:=.str x.1) (y:=.str u.1.p.2) (B8 (x:=rD x) (y:=.int 0) (B8 (x:=.list (A.map rD++[rD x])) (y:=.int (-1)) rfl (aL _) (Ke _ _)) rfl (U1 _ _)) hand (Az _ _))
   rw [Hk]; rw [em] at app ⊢
   by_cases c:x.1=u.1.p.2
   . rw [c,Ij] at c2
     rw [if_pos c,U2 (Cg (δ':=[x0,x1,.sh (.list (A.map rD++[rD x])),.sh (sgA u),.sh (.str (ltr u))]) rfl (Ag c1 c2))]
     rw [Xt (A:=A.map rD) (x:=rD x) (v:=rD (u.1.p.2,x.2++ltr u)) rfl (Q8 (A6 hand (A6 (cG (δ':=[x0,x1,.sh (.list (A.map rD++[rD x])),.sh (sgA u),.sh (.str (ltr u))]) rfl (B8 (x:=.str x.2) (y:=.str (ltr u)) (B8 (x:=rD x) (y:=.int 1) (B8 (x:=.list (A.map rD++[rD x])) (y:=.int (-1)) rfl (aL _) (Ke _ _)) rfl (Bq _ _ _)) rfl (mB (by rw [Gn]; lia)))) rfl))) (aL _),List.map_append]
     rfl
   . rw [Ga c] at c2
     rw [if_neg c,N9 (Cg (δ':=[x0,x1,.sh (.list (A.map rD++[rD x])),.sh (sgA u),.sh (.str (ltr u))]) rfl (Ah c1 c2)),app]
theorem Oz (x0 x1:Sl):∀ (us:List As) (n:Nat) (acc:List (Str×Str)) (s3 s4:Sl),RunOk n acc->n+us.length<=100->∃ t3 t4,E5 (st2 3 4) iA (us.map tl) [x0,x1,.ow (.list (acc.map rD)),s3,s4]=.nx [x0,x1,.ow (.list ((Wa us acc).map rD)),t3,t4]
 | [],n,acc,s3,s4,_,_=>⟨s3,s4,rfl⟩
 | u::us,n,acc,s3,s4,h,hn=>by
   rw [List.length_cons] at hn; obtain ⟨t3,t4,e⟩:=Oz x0 x1 us (n+1) _ (.sh (sgA u)) (.sh (.str (ltr u))) (h.step u) (by lia)
   exact ⟨t3,t4,(M4 (δ1:=[x0,x1,.ow (.list (acc.map rD)),.sh (sgA u),.sh (.str (ltr u))]) rfl (aD x0 x1 h (by lia) u)).trans e⟩
theorem fU {us:List As} (h:∀ u∈us,Et u.1.w/\u.2 < u.1.w.length) (hl:us.length<=100):T3 [.list (us.map sgA),.str (Str.join "" (us.map ltr))]=.ok (.list ((Wa us []).map rD)):=by
 obtain ⟨t3,t4,e⟩:=Oz (.sh (.list (us.map sgA))) (.sh (.str (Str.join "" (us.map ltr)))) us 0 [] .un .un ⟨Nat.le_refl _,fun _ h=>nomatch h⟩ (by lia)
 unfold T3 Av P5
 refine T5 ?_
 show C6 _ _ [.sh (.list (us.map sgA)),.sh (.str (Str.join "" (us.map ltr))),.un,.un,.un]=_
 rw [B6 (δ':=[.sh (.list (us.map sgA)),.sh (.str (Str.join "" (us.map ltr))),.ow (.list []),.un,.un]) (by rfl)]
 rw [B6 (δ':=[.sh (.list (us.map sgA)),.sh (.str (Str.join "" (us.map ltr))),.ow (.list ((Wa us []).map rD)),t3,t4]) (by
   unfold X8 N2; have hs:(A2 (A0 0) (A2 (A0 1) A8)) [.sh (.list (us.map sgA)),.sh (.str (Str.join "" (us.map ltr))),.ow (.list []),.un,.un]=.ok [.list (us.map sgA),.str (Str.join "" (us.map ltr))]:=A6 rfl (A6 rfl rfl); show I8 (Res.bind _ Nh) _=_
   rw [hs,C4,bX h,D4]; exact e)]
 rfl
noncomputable def inO (O:List As) (u:As):Bool:=O.any fun v=>decide (sgn v=sgn u)
theorem inO_t {O:List As} {u:As} (h:u∈O):inO O u=true:=List.any_eq_true.mpr ⟨u,h,decide_eq_true rfl⟩
theorem pO {O:List As} (u:As):dIn false (sgA u) (.list (O.map sgA))=some (.bool (inO O u)):=by
 show (if _ then _ else _)=_
 rw [if_pos (Nat.le_trans (Nat.min_le_right _ _) (Nat.le_trans (show (sgA u).depth<=3 from Rx (sgn u)) (by decide)))]
 have:((O.map sgA).any fun y=>PyData.eqv y (sgA u))=inO O u:=by
   rw [List.any_map]; unfold inO
   congr 1
   funext v
   exact iU v u
 simp [this]
theorem oQ {O:List As} (nd:(O.map sgn).Nodup) {u v:As} (hu:u∈O) (hv:v∈O) (h:sgn u=sgn v):u=v:=by
 induction O with
 | nil=>cases hu
 | cons x O ih =>
   rw [List.map_cons,List.nodup_cons] at nd; rcases List.mem_cons.mp hu with e1 | h1
   . rcases List.mem_cons.mp hv with e2 | h2
     . exact e1.trans e2.symm
     . exact absurd (List.mem_map_of_mem (f:=sgn) h2) (by rw [<- h,e1]; exact nd.1)
   . rcases List.mem_cons.mp hv with e2 | h2
     . exact absurd (List.mem_map_of_mem (f:=sgn) h1) (by rw [h,e2]; exact nd.1)
     . exact ih nd.2 h1 h2
theorem Wp {O:List As} (nd:(O.map sgn).Nodup) (f:As->Bool) {u:As} (hu:u∈O):inO (O.filter f) u=f u:=by
 cases c:f u with
 | true=>exact inO_t (List.mem_filter.mpr ⟨hu,c⟩)
 | false =>
   unfold inO; rw [List.any_eq_false]; intro v hv z; have hv:=List.mem_filter.mp hv; rw [oQ nd hv.1 hu (of_decide_eq_true z),c] at hv; exact absurd hv.2 (by decide)
theorem gS (u:As):(tl u).depth<=4:=by simp [sgD,idD,PyData.depth,PyData.depthAll]
theorem pU (u:As):PyData.eqv (tl u) (tl u)=true:=by
 show ((((u.1.p.1==u.1.p.1)&&((u.1.p.2==u.1.p.2)&&true))&&(((u.2:Int)==(u.2:Int))&&true))&&((ltr u==ltr u)&&true))=true
 simp
theorem oU (us:List As):dNe (.list (us.map tl)) (.list (us.map tl))=some (.bool false):=by
 have h1:∀ us:List As,PyData.eqvAll (us.map tl) (us.map tl)=true:=fun us=>by
   induction us with
   | nil=>rfl
   | cons u us ih =>
     show (PyData.eqv (tl u) (tl u)&&PyData.eqvAll (us.map tl) (us.map tl))=true
     rw [ih,pU]; rfl
 have h2:∀ us:List As,PyData.depthAll (us.map tl)<=4:=fun us=>by
   induction us with
   | nil=>simp [PyData.depthAll]
   | cons u us ih=>rw [List.map_cons,PyData.depthAll]; have:=gS u; lia
 unfold dNe
 rw [if_pos (Nat.le_trans (Nat.min_le_left _ _) (by rw [PyData.depth]; exact Nat.le_trans (Nat.succ_le_succ (h2 us)) (by decide)))]
 show some (PyData.bool (!PyData.eqvAll (us.map tl) (us.map tl)))=_
 rw [h1]; rfl
theorem kC (rs:List (Str×Str)):dNe (.list (rs.map rD)) (.list (rs.map rD))=some (.bool false):=by
 have h1:∀ rs:List (Str×Str),PyData.eqvAll (rs.map rD) (rs.map rD)=true:=fun rs=>by
   induction rs with
   | nil=>rfl
   | cons r rs ih =>
     show (((r.1==r.1)&&((r.2==r.2)&&true))&&PyData.eqvAll (rs.map rD) (rs.map rD))=true
     rw [ih,beq_self_eq_true,beq_self_eq_true]; rfl
 have h2:∀ rs:List (Str×Str),PyData.depthAll (rs.map rD)<=2:=fun rs=>by
   induction rs with
   | nil=>simp [PyData.depthAll]
   | cons r rs ih=>rw [List.map_cons,PyData.depthAll]; simp [PyData.depth,PyData.depthAll]; lia
 unfold dNe
 rw [if_pos (Nat.le_trans (Nat.min_le_left _ _) (by rw [PyData.depth]; exact Nat.le_trans (Nat.succ_le_succ (h2 rs)) (by decide)))]
 show some (PyData.bool (!PyData.eqvAll (rs.map rD) (rs.map rD)))=_
 rw [h1]; rfl
theorem neSh (x:Str):dNe (.str x) (.str x)=some (.bool false):=by
 unfold dNe
 rw [if_pos (Nat.le_trans (Nat.min_le_left _ _) (by simp [PyData.depth]))]
 show some (PyData.bool (!(x==x)))=_
 rw [beq_self_eq_true]; rfl
theorem neBh (a:Bool):dNe (.bool a) (.bool a)=some (.bool false):=by
 unfold dNe
 rw [if_pos (by simp [PyData.depth])]
 show some (PyData.bool (!(a==a)))=_
 rw [beq_self_eq_true]; rfl
theorem Sd {c c':Dn->Res Bool} {δ:Dn} (h1:c δ=.ok false) (h2:c' δ=.ok false):cOr c c' δ=.ok false:=by unfold cOr; rw [h1,C4,if_neg (by decide),h2]
theorem Xb {c:Dn->Res Bool} {δ:Dn} (h:c δ=.ok true):Ft c δ=.ok false:=by unfold Ft; rw [h]; rfl
abbrev dh (x0 x1 x2 x3 x4 x5 x6 x7 x8 x9 x10 x11:Sl):Dn:=[x0,x1,x2,x3,x4,x5,x6,x7,x8,x9,x10,x11]
noncomputable def mY:Dn->Out:=(C6 (E8 11 (C5 (A2 (vC (.int 0)) (A2 (A0 1) (A2 (b2 (A0 7) (vC (.int 1)) dIx) A8))) C8)) (sIf (cOr (Ft (C3 (b1 (A0 11) fun d=>some (.bool (Oe "bool" d))))) (C3 (b2 (A0 11) (b2 (b2 (A0 7) (vC (.int 1)) dIx) (A0 6) (dIn false)) dNe))) (L3 (vC (.bool false))) F7))
noncomputable def hZ:Dn->Out:=(C6 (E8 11 (C5 (A2 (vC (.int 1)) (A2 (A0 1) (A2 (A0 8) A8))) C8)) (sIf (cOr (Ft (C3 (b1 (A0 11) fun d=>some (.bool (Oe "bool" d))))) (C3 (b2 (A0 11) (b2 (A0 8) (A0 3) (dIn false)) dNe))) (L3 (vC (.bool false))) F7))
noncomputable section
variable {L:List Dp} {B:List Ad} {ku kd:Kvs}
theorem Mr (W:BkW L) (hl:L.length<=9) (P:Pq L ku kd) (x0 x2 x3 x4 x5 x8 x9 x10:Sl):∀ (M:List Dp),(∀ e∈M,e∈L)->∀ s7 s11,∃ t7 t11,E5 (st1 7) mY (M.map (·.1)) (dh x0 (.sh (bkD L)) x2 x3 x4 x5 (.sh (.list ((onL L).map idP))) s7 x8 x9 x10 s11)=.nx (dh x0 (.sh (bkD L)) x2 x3 x4 x5 (.sh (.list ((onL L).map idP))) t7 x8 x9 x10 t11)
 | [],_,s7,s11=>⟨s7,s11,rfl⟩
 | e::M,hM,s7,s11=>by
   have he:=hM e (.head _); have hi:=(W.1 e he).kd.tid; have ht:=told0 (kU W hl P (p:=e.2) (List.mem_map_of_mem he)); obtain ⟨t7,t11,e2⟩:=Mr W hl P x0 x2 x3 x4 x5 x8 x9 x10 M (fun d hd=>hM d (.tail _ hd)) (.sh e.1) (.sh (.bool (!decide (e.2∈off L))))
   refine ⟨t7,t11,(M4 (δ1:=dh x0 (.sh (bkD L)) x2 x3 x4 x5 (.sh (.list ((onL L).map idP))) (.sh e.1) x8 x9 x10 s11) rfl ?_).trans e2⟩; unfold mY; rw [B6 (δ':=dh x0 (.sh (bkD L)) x2 x3 x4 x5 (.sh (.list ((onL L).map idP))) (.sh e.1) x8 x9 x10 (.sh (.bool (!decide (e.2∈off L))))) (D9 (D1 (A6 (d:=.int 0) rfl (A6 (d:=bkD L) rfl (A6 (B8 (x:=e.1) (y:=.int 1) rfl rfl hi) rfl))) ht))]; have c1:(Ft (C3 (b1 (A0 11) fun d=>some (.bool (Oe "bool" d))))) (dh x0 (.sh (bkD L)) x2 x3 x4 x5 (.sh (.list ((onL L).map idP))) (.sh e.1) x8 x9 x10 (.sh (.bool (!decide (e.2∈off L)))))=.ok false:=Xb (C7 (Yy (x:=.bool (!decide (e.2∈off L))) rfl rfl))
   have c2:(C3 (b2 (A0 11) (b2 (b2 (A0 7) (vC (.int 1)) dIx) (A0 6) (dIn false)) dNe)) (dh x0 (.sh (bkD L)) x2 x3 x4 x5 (.sh (.list ((onL L).map idP))) (.sh e.1) x8 x9 x10 (.sh (.bool (!decide (e.2∈off L)))))=.ok false:=by
     refine C7 (B8 (x:=.bool (!decide (e.2∈off L))) (y:=.bool (!decide (e.2∈off L))) rfl (B8 (x:=idP e.2) (y:=.list ((onL L).map idP)) (B8 (x:=e.1) (y:=.int 1) rfl rfl hi) rfl ?_) (neBh _)); rw [Hu,Wi he]
     cases decide (e.2∈off L) <;> rfl
   rw [N9 (Sd c1 c2)]; rfl
theorem Il (A:BkA L B) (W:BkW L) (P:Pr L ku kd) (x0 x2 x4 x5 x6 x7 x9 x10:Sl):∀ (us:List As),(∀ u∈us,u∈ord B)->∀ s8 s11,∃ t8 t11,E5 (st1 8) hZ (us.map sgA) (dh x0 (.sh (bkD L)) x2 (.sh (.list (((ord B).filter (E6 ku kd)).map sgA))) x4 x5 x6 x7 s8 x9 x10 s11)=.nx (dh x0 (.sh (bkD L)) x2 (.sh (.list (((ord B).filter (E6 ku kd)).map sgA))) x4 x5 x6 x7 t8 x9 x10 t11)
 | [],_,s8,s11=>⟨s8,s11,rfl⟩
 | u::us,hu,s8,s11=>by
   have hu0:=hu u (.head _); have ht:=told1 (cP A W P hu0); obtain ⟨t8,t11,e2⟩:=Il A W P x0 x2 x4 x5 x6 x7 x9 x10 us (fun v hv=>hu v (.tail _ hv)) (.sh (sgA u)) (.sh (.bool (E6 ku kd u)))
   refine ⟨t8,t11,(M4 (δ1:=dh x0 (.sh (bkD L)) x2 (.sh (.list (((ord B).filter (E6 ku kd)).map sgA))) x4 x5 x6 x7 (.sh (sgA u)) x9 x10 s11) rfl ?_).trans e2⟩; unfold hZ; rw [B6 (δ':=dh x0 (.sh (bkD L)) x2 (.sh (.list (((ord B).filter (E6 ku kd)).map sgA))) x4 x5 x6 x7 (.sh (sgA u)) x9 x10 (.sh (.bool (E6 ku kd u)))) (D9 (D1 (A6 (d:=.int 1) rfl (A6 (d:=bkD L) rfl (A6 (d:=sgA u) rfl rfl))) ht))]; have c1:(Ft (C3 (b1 (A0 11) fun d=>some (.bool (Oe "bool" d))))) (dh x0 (.sh (bkD L)) x2 (.sh (.list (((ord B).filter (E6 ku kd)).map sgA))) x4 x5 x6 x7 (.sh (sgA u)) x9 x10 (.sh (.bool (E6 ku kd u))))=.ok false:=Xb (C7 (Yy (x:=.bool (E6 ku kd u)) rfl rfl))
   have c2:(C3 (b2 (A0 11) (b2 (A0 8) (A0 3) (dIn false)) dNe)) (dh x0 (.sh (bkD L)) x2 (.sh (.list (((ord B).filter (E6 ku kd)).map sgA))) x4 x5 x6 x7 (.sh (sgA u)) x9 x10 (.sh (.bool (E6 ku kd u))))=.ok false:=by
     refine C7 (B8 (x:=.bool (E6 ku kd u)) (y:=.bool (E6 ku kd u)) rfl (B8 (x:=sgA u) (y:=.list (((ord B).filter (E6 ku kd)).map sgA)) rfl rfl ?_) (neBh _)); rw [pO,Wp (Pg A.bk) _ hu0]
   rw [N9 (Sd c1 c2)]; rfl
end
theorem nL:∀ t∈([1,2,3,4,5,6,7,8,9,10]:List Int),∀ h∈(["a", "b", "c"]:List Str),Dj (.tuple [.tuple [.int t,.str h],.int 20])=true:=by decide +kernel
theorem iT {p:IdP} (h:okI p):Dj (sgD p 20)=true:=by
 obtain ⟨h1,h2,h3⟩:=h
 refine nL p.1 ?_ p.2 ?_
 . have:p.1=1\/p.1=2\/p.1=3\/p.1=4\/p.1=5\/p.1=6\/p.1=7\/p.1=8\/p.1=9\/p.1=10:=by lia
   simp only [List.mem_cons,List.not_mem_nil,or_false]; exact this
 . rcases h3 with z | z | z <;> rw [z] <;> simp
theorem oV:dNe (.list [G9 0,G9 0,G9 1]) (.list [G9 0,G9 0,G9 1])=some (.bool false):=by
 first
   | rfl
   | (unfold dNe; rw [if_pos (by decide +kernel)]; rfl)
   | (unfold dNe; rw [if_pos (by decide +kernel),show PyData.eqv (.list [G9 0,G9 0,G9 1]) (.list [G9 0,G9 0,G9 1])=true from by decide +kernel]; rfl)
theorem pV:dEq (G9 1) (.tuple [.str "refused",.int 1])=some (.bool true):=by
 first
   | rfl
   | (unfold dEq; rw [if_pos (by decide +kernel)]; rfl)
   | (unfold dEq; rw [if_pos (by decide +kernel),show PyData.eqv (G9 1) (.tuple [.str "refused",.int 1])=true from by decide +kernel])
theorem eC (ns:List Int) (hns:ns.length<=63):Ye [.list (ns.map PyData.int)]=.ok (.bool true):=by
 obtain ⟨x,y,z,hxyz,en⟩:=fI ns hns 0
 obtain ⟨L,eb,hl,W⟩:=lU ns hns x y z hxyz
 obtain ⟨B,A⟩:=bka' W
 have kdL:∀ e∈L,Kd e:=fun e he=>(W.1 e he).kd
 obtain ⟨ku,kd,P⟩:=pq_ex kdL hl
 have hol:=Bz A
 have hf:=List.length_filter_le (E6 ku kd) (ord B)
 have hO:∀ u∈ord B,Et u.1.w/\u.2 < u.1.w.length:=fun u hu=>by
   have:=(P8 A.bk u).mp hu; exact ⟨A.wd _ this.1,this.2⟩
 have hT:∀ u∈(ord B).filter (E6 ku kd),Et u.1.w/\u.2 < u.1.w.length:=fun u hu=>hO u (List.mem_filter.mp hu).1
 have h1:=Ts A hl
 have h2:=aS A kdL hl P
 have h3:=Ik A hl
 have h4:=Ub A hl (us:=ord B) (fun u hu=>hu) (by lia)
 have h5:=Ub A hl (us:=(ord B).filter (E6 ku kd)) (fun u hu=>(List.mem_filter.mp hu).1) (by lia)
 have h6:=iN A hl P.P
 have h7:=lY A hl P.P
 have h8:=fU hT (by lia)
 have h9:=gN kdL hl
 have okL:∀ e∈L,okI e.2:=fun e he=>(show Wf _ _ _ _ from W.1 e he).1
 obtain ⟨sg,es,hsl,hsg,_⟩:=Tb (S:=fun p=>SgOf p.1 (L.map (fun e:Dp=>e.1))) (U:=fun p q=>(∃ e'∈L,e'.2=q)/\q.1 < p.1) (T:=11) L (fun e he=>⟨W.1 e he,by have:=(okL e he).2.1; lia⟩) W.2 hl
 have n99:∀ (h:Str),((99,h):IdP)∉L.map (·.2):=fun h hm=>by
   obtain ⟨e,he,z⟩:=List.mem_map.mp hm; have h0:=(okL e he).2.1; rw [z] at h0; exact absurd (show (99:Int)<=10 from h0) (by decide)
 have n1h:((1, "h"):IdP)∉L.map (·.2):=fun hm=>by
   obtain ⟨e,he,z⟩:=List.mem_map.mp hm; have h0:=(okL e he).2.2; rw [z] at h0; rcases h0 with q | q | q
   . exact absurd q (by decide)
   . exact absurd q (by decide)
   . exact absurd q (by decide)
 have r1:=cO (gO W hl (n99 "a") (by decide +kernel))
 have r2:=cO (gO W hl n1h (by decide +kernel))
 have r3:=cN (Sn (L:=L) (x:=sgD (99, "b") ((0:Nat):Int)) (pR W (p:=(99, "b")) (fun e he q=>n99 "b" (by rw [<- q]; exact List.mem_map_of_mem he)) 0) (by decide +kernel))
 refine T5 ?_
 show C6 _ _ (dh (.sh (scr ns)) .un .un .un .un .un .un .un .un .un .un .un)=_
 rw [B6 (δ':=dh (.sh (scr ns)) (.sh (bkD L)) .un .un .un .un .un .un .un .un .un .un) (D9 (D1 (A6 rfl (A6 rfl (A6 rfl (A6 (D1 (A6 rfl (A6 rfl rfl)) en) rfl)))) eb))]
 generalize (.sh (scr ns):Sl)=v0
 rw [B6 (δ':=dh v0 (.sh (bkD L)) (.sh (.list ((ord B).map sgA))) .un .un .un .un .un .un .un .un .un) (D9 (D1 (A6 (d:=bkD L) rfl rfl) h1))]
 rw [B6 (δ':=dh v0 (.sh (bkD L)) (.sh (.list ((ord B).map sgA))) (.sh (.list (((ord B).filter (E6 ku kd)).map sgA))) .un .un .un .un .un .un .un .un) (D9 (D1 (A6 (d:=bkD L) rfl rfl) h2))]
 rw [B6 (δ':=dh v0 (.sh (bkD L)) (.sh (.list ((ord B).map sgA))) (.sh (.list (((ord B).filter (E6 ku kd)).map sgA))) (.sh (.list ((ord B).map tl))) .un .un .un .un .un .un .un) (D9 (D1 (A6 (d:=bkD L) rfl rfl) h3))]
 have e4:Fz (dh v0 (.sh (bkD L)) (.sh (.list ((ord B).map sgA))) (.sh (.list (((ord B).filter (E6 ku kd)).map sgA))) (.sh (.list ((ord B).map tl))) .un .un .un .un .un .un .un)=.nx (dh v0 (.sh (bkD L)) (.sh (.list ((ord B).map sgA))) (.sh (.list (((ord B).filter (E6 ku kd)).map sgA))) (.sh (.list ((ord B).map tl))) .un .un .un .un .un .un .un):=by
   have z1:(Qn (A2 (A0 2) (A2 (C5 (A2 (A0 1) (A2 (A0 2) A8)) L4) A8))) (dh v0 (.sh (bkD L)) (.sh (.list ((ord B).map sgA))) (.sh (.list (((ord B).filter (E6 ku kd)).map sgA))) (.sh (.list ((ord B).map tl))) .un .un .un .un .un .un .un)=.ok (.list ((ord B).map tl)):=by
     unfold Qn; rw [A6 (d:=.list ((ord B).map sgA)) rfl (A6 (D1 (A6 (d:=bkD L) rfl (A6 (d:=.list ((ord B).map sgA)) rfl rfl)) h4) rfl),C4,bX hO]; show (if _ then _ else _)=_
     rw [if_pos (by rw [List.length_map]; lia)]
   unfold Fz; rw [N9 (Sd (Xb (C7 (Yy (x:=.list ((ord B).map tl)) rfl rfl))) (C7 (B8 (x:=.list ((ord B).map tl)) rfl z1 (oU _))))]; rfl
 rw [B6 e4]
 rw [B6 (δ':=dh v0 (.sh (bkD L)) (.sh (.list ((ord B).map sgA))) (.sh (.list (((ord B).filter (E6 ku kd)).map sgA))) (.sh (.list ((ord B).map tl))) (.sh (.str (Str.join "" (((ord B).filter (E6 ku kd)).map ltr)))) .un .un .un .un .un .un) (D9 (D1 (A6 (d:=bkD L) rfl (A6 (d:=.list (((ord B).filter (E6 ku kd)).map sgA)) rfl rfl)) h5))]
 have e6:Fy (dh v0 (.sh (bkD L)) (.sh (.list ((ord B).map sgA))) (.sh (.list (((ord B).filter (E6 ku kd)).map sgA))) (.sh (.list ((ord B).map tl))) (.sh (.str (Str.join "" (((ord B).filter (E6 ku kd)).map ltr)))) .un .un .un .un .un .un)=.nx (dh v0 (.sh (bkD L)) (.sh (.list ((ord B).map sgA))) (.sh (.list (((ord B).filter (E6 ku kd)).map sgA))) (.sh (.list ((ord B).map tl))) (.sh (.str (Str.join "" (((ord B).filter (E6 ku kd)).map ltr)))) .un .un .un .un .un .un):=by
   unfold Fy; rw [N9 (Sd (C7 (B8 (D1 (A6 (d:=bkD L) rfl rfl) h6) (y:=.str (Str.join "" (((ord B).filter (E6 ku kd)).map ltr))) rfl (neSh _))) (C7 (B8 (D1 (A6 (d:=bkD L) rfl rfl) h7) (D1 (A6 (d:=.list (((ord B).filter (E6 ku kd)).map sgA)) rfl (A6 (d:=.str (Str.join "" (((ord B).filter (E6 ku kd)).map ltr))) rfl rfl)) h8) (kC _))))]; rfl
 rw [B6 e6]
 rw [B6 (δ':=dh v0 (.sh (bkD L)) (.sh (.list ((ord B).map sgA))) (.sh (.list (((ord B).filter (E6 ku kd)).map sgA))) (.sh (.list ((ord B).map tl))) (.sh (.str (Str.join "" (((ord B).filter (E6 ku kd)).map ltr)))) (.sh (.list ((onL L).map idP))) .un .un .un .un .un) (D9 (D1 (A6 (d:=bkD L) rfl rfl) h9))]
 generalize (.sh (.list ((ord B).map tl)):Sl)=v4
 generalize (.sh (.str (Str.join "" (((ord B).filter (E6 ku kd)).map ltr))):Sl)=v5
 obtain ⟨t7,t11,g1⟩:=Mr W hl P v0 (.sh (.list ((ord B).map sgA))) (.sh (.list (((ord B).filter (E6 ku kd)).map sgA))) v4 v5 .un .un .un L (fun _ h=>h) .un .un
 have e8:Fx (dh v0 (.sh (bkD L)) (.sh (.list ((ord B).map sgA))) (.sh (.list (((ord B).filter (E6 ku kd)).map sgA))) v4 v5 (.sh (.list ((onL L).map idP))) .un .un .un .un .un)=.nx (dh v0 (.sh (bkD L)) (.sh (.list ((ord B).map sgA))) (.sh (.list (((ord B).filter (E6 ku kd)).map sgA))) v4 v5 (.sh (.list ((onL L).map idP))) t7 .un .un .un t11):=by
   unfold Fx N2; rw [K2 (d:=bkD L) (ds:=L.map (·.1)) rfl rfl,D4]; exact g1
 rw [B6 e8]
 obtain ⟨t8,t12,g2⟩:=Il A W P.P v0 (.sh (.list ((ord B).map sgA))) v4 v5 (.sh (.list ((onL L).map idP))) t7 .un .un (ord B) (fun _ h=>h) .un t11
 have e9:Fw (dh v0 (.sh (bkD L)) (.sh (.list ((ord B).map sgA))) (.sh (.list (((ord B).filter (E6 ku kd)).map sgA))) v4 v5 (.sh (.list ((onL L).map idP))) t7 .un .un .un t11)=.nx (dh v0 (.sh (bkD L)) (.sh (.list ((ord B).map sgA))) (.sh (.list (((ord B).filter (E6 ku kd)).map sgA))) v4 v5 (.sh (.list ((onL L).map idP))) t7 t8 .un .un t12):=by
   unfold Fw N2; rw [K2 (d:=.list ((ord B).map sgA)) (ds:=(ord B).map sgA) rfl rfl,D4]; exact g2
 rw [B6 e9]
 generalize (.sh (.list (((ord B).filter (E6 ku kd)).map sgA)):Sl)=v3
 generalize (.sh (.list ((onL L).map idP)):Sl)=v6
 rw [B6 (δ':=dh v0 (.sh (bkD L)) (.sh (.list ((ord B).map sgA))) v3 v4 v5 v6 t7 t8 (.sh (.int (sg.length:Int))) .un t12) (D9 (Eu (A6 (D1 (A6 (d:=bkD L) rfl rfl) es) rfl) (kJ sg)))]
 rw [B6 (δ':=dh v0 (.sh (bkD L)) (.sh (.list ((ord B).map sgA))) v3 v4 v5 v6 t7 t8 (.sh (.int (sg.length:Int))) (.sh (.list [G9 0,G9 0,G9 1])) t12) (D9 (T7 (A6 (D1 (A6 (d:=.int 0) rfl (A6 (d:=bkD L) rfl (A6 (d:=idP (99, "a")) rfl rfl))) r1) (A6 (D1 (A6 (d:=.int 0) rfl (A6 (d:=bkD L) rfl (A6 (d:=idP (1, "h")) rfl rfl))) r2) (A6 (D1 (A6 (d:=.int 1) rfl (A6 (d:=bkD L) rfl (A6 (d:=sgD (99, "b") 0) rfl rfl))) r3) rfl)))))]
 have e12:Dy (dh v0 (.sh (bkD L)) (.sh (.list ((ord B).map sgA))) v3 v4 v5 v6 t7 t8 (.sh (.int (sg.length:Int))) (.sh (.list [G9 0,G9 0,G9 1])) t12)=.nx (dh v0 (.sh (bkD L)) (.sh (.list ((ord B).map sgA))) v3 v4 v5 v6 t7 t8 (.sh (.int (sg.length:Int))) (.sh (.list [G9 0,G9 0,G9 1])) t12):=by
   have q:dNe (.list [G9 0,G9 0,G9 1]) (.list [G9 0,G9 0,G9 1])=some (.bool false):=oV; unfold Dy; rw [N9 (C7 (B8 (x:=.list [G9 0,G9 0,G9 1]) (y:=.list [G9 0,G9 0,G9 1]) rfl rfl q))]
   rfl
 rw [B6 e12]
 by_cases hsz:sg=[]
 . have c0 : (C3 (b2 (A0 9) (vC (.int 0)) dEq)) (dh v0 (.sh (bkD L)) (.sh (.list ((ord B).map sgA))) v3 v4 v5 v6 t7 t8 (.sh (.int (sg.length : Int))) (.sh (.list [G9 0, G9 0, G9 1])) t12) = .ok true := by
     refine C7 (B8 (x:=.int (sg.length:Int)) (y:=.int 0) rfl rfl ?_); rw [hsz]; rfl
   refine Dz ?_; unfold Dx; rw [U2 c0]; rfl
 . have hpos:0 < sg.length:=List.length_pos_iff.mpr hsz
   have c0:(C3 (b2 (A0 9) (vC (.int 0)) dEq)) (dh v0 (.sh (bkD L)) (.sh (.list ((ord B).map sgA))) v3 v4 v5 v6 t7 t8 (.sh (.int (sg.length:Int))) (.sh (.list [G9 0,G9 0,G9 1])) t12)=.ok false:=by
     refine C7 (B8 (x:=.int (sg.length:Int)) (y:=.int 0) rfl rfl ?_); rw [hJ]
     congr 2
     rw [beq_eq_false_iff_ne]
     lia
   obtain ⟨u,us,hu⟩:∃ u us,ord B=u::us:=by
     obtain ⟨q,qs,hq⟩:=List.exists_cons_of_ne_nil hsz; obtain ⟨p,b,w,n,hm,_,hn,_⟩:=hsg q (by rw [hq]; exact .head _)
     obtain ⟨a,ha,rfl,rfl⟩:=A.ad.of hm; have:(a,n)∈ord B:=(P8 A.bk (a,n)).mpr ⟨ha,hn⟩
     cases e:ord B with
     | nil=>rw [e] at this; cases this
     | cons u us=>exact ⟨u,us,rfl⟩
   have hu0:=(P8 A.bk u).mp (by rw [hu]; exact .head _)
   have hw:=(A.wd _ hu0.1).2.1; have hs:=gG A W hu0.1 20; rw [decide_eq_false (by lia)] at hs; have r4:=cN (Sn (L:=L) (x:=sgD u.1.p ((20:Nat):Int)) hs (iT (A.id _ hu0.1))); rw [B6 (δ':=dh v0 (.sh (bkD L)) (.sh (.list ((ord B).map sgA))) v3 v4 v5 v6 t7 t8 (.sh (.int (sg.length:Int))) (.sh (.list [G9 0,G9 0,G9 1])) t12) (by unfold Dx; rw [N9 c0]; rfl)]
   unfold Hb; have q0:dIx (.list ((ord B).map sgA)) (.int 0)=some (sgA u):=by rw [hu]; exact O8 (xs:=(u::us).map sgA) (j:=0) (by simp)
   have q1:dEq (G9 1) (.tuple [.str "refused",.int 1])=some (.bool true):=pV; exact O7 (B8 (D1 (A6 (d:=.int 1) rfl (A6 (d:=bkD L) rfl (A6 (Q8 (A6 (B8 (x:=sgA u) (y:=.int 0) (B8 (x:=.list ((ord B).map sgA)) (y:=.int 0) rfl rfl q0) rfl (U1 _ _)) (A6 (d:=.int 20) rfl rfl))) rfl))) r4) (y:=.tuple [.str "refused",.int 1]) rfl q1)
end Sm
end
set_option maxRecDepth 100000 in
set_option maxHeartbeats 0 in
theorem PySem.Challenge.cw_staymark_k10_texts_holds : PySem.Challenge.rw_staymark_k10_texts.Holds := by
 w_on; o_law; k_head; (case hw=>w_witness2)
 k_fill
 refine Sm.walkD (l:=PySem.Challenge.rw_staymark_k10_texts) rfl rfl rfl (fun w h Y=>PySem.W.kIn_of Y) (fun w=>?hK) ?F Sm.eC
 case hK=>kernel_rfl
 case F =>
   intro w mg h KX G; refine' ⟨⟨?b0,?b1,?b2,?b3,?b4,?b5,?b6,?b7,?b8,?b9,?b10,?b11⟩,⟨?d28,?d0,?d1,?d2,?d3,?d4,?d5,?d6,?d7,?d8,?d9,?d10,?d11,?d12,?d13,?d14,?d15,?d16,?d17,?d18,?d19,?d20,?d21,?d22,?d23,?d24,?d25,?d26,?d27⟩,_,_,_,_,⟨?o0,?o1⟩,⟨?o2,?o3⟩,⟨?ui,?uM,?u0,?u1,?u2,?un,?uV,⟨?uy0,?uy1,?uy2,?uy3,?uy4,?uy5,?uy6,?uy7⟩,?uk1,?uk2,?uk3,?uk4,?ut0,?ut1,?ut2,?ut4⟩,⟨?vi,?vM,?v0,?v1,?v2,?vn,?vV,⟨?vy0,?vy1,?vy2,?vy3,?vy4,?vy5,?vy6,?vy7⟩,?vk1,?vk2,?vk3,?vk4,?vt0,?vt1,?vt2,?vt4⟩⟩
   case b0 | b1 | b2 | b3 | b4 | b5 | b6 | b7 | b8 | b9 | b10 | b11=>exact PySem.W.mg_none_of KX G (by k_is)
   case d0 | d1 | d2 | d3 | d7 | d8 | d9 | d12 | d17 | d21 | d22 | d23 | d25 | d28=>exact Sm.lB KX G (by k_is) (by k_is) (by k_is) (by k_is) (fun _ _ _ _ _ _ _=>rfl) rfl
   case d4 | d5 | d6 | d10 | d11 | d13 | d15 | d16 | d24 | d27=>exact Sm.lA KX G (by k_is) (by k_is) (by k_is) (by k_is) (fun _ _ _ _ _ _ _ _=>rfl) rfl
   case d14 | d18 | d26=>exact Sm.kZ KX G (by k_is) (by k_is) (by k_is) (by k_is) (fun _ _ _ _ _ _ _ _ _=>rfl) rfl
   case d19=>exact Sm.kX KX G (by k_is) (by k_is) (by k_is) (by k_is) (fun _ _ _ _ _ _ _ _ _ _ _=>rfl) rfl
   case d20=>exact Sm.kY KX G (by k_is) (by k_is) (by k_is) (by k_is) (fun _ _ _ _ _ _ _ _ _ _=>rfl) rfl
   case o0 | o2=>exact PySem.W.mg_of KX G (by k_is)
   case o1 | o3=>k_exc
   case ui=>decide
   case uM | u0 | u1 | u2=>exact PySem.W.mg_of KX G (by k_is)
   case un | uV=>exact PySem.W.mg_none_of KX G (by k_is)
   case uy0 | uy1 | uy2 | uy3 | uy4 | uy5 | uy6 | uy7 | uk1 | uk2 | uk3 | uk4 | ut0 | ut1 | ut2 | ut4=>(first | k_is | kernel_rfl)
   case vi=>decide
   case vM | v0 | v1 | v2=>exact PySem.W.mg_of KX G (by k_is)
   case vn | vV=>exact PySem.W.mg_none_of KX G (by k_is)
   case vy0 | vy1 | vy2 | vy3 | vy4 | vy5 | vy6 | vy7 | vk1 | vk2 | vk3 | vk4 | vt0 | vt1 | vt2 | vt4=>(first | k_is | kernel_rfl)
