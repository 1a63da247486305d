import PyProof.Rows.All
import Wide.All
import OpenK.AllK
import Wide.FinOn
import Lean
import PyProof.EqAt
import PyProof.EqKinds
import PyProof.TupleCall
import PyProof.StrCalls
import PyProof.SeqI3
import PyProof.Draws
import PyProof.EnumMake
import PyProof.DictValues
import PyProof.DictWalks
import PyProof.TupleOfSeq
import PyProof.TupleOfGen
import KE.KDictList
import PyProof.AttrMiss
import PyProof.IsiH_list
import KE.KRevIter
import PyProof.MinMaxWalk
import PyProof.Rows.CallKwBuiltin
import KE.KSortTup
import PyProof.Rows.SortWalk
import PyProof.Rows.SortShell
import PyProof.DictIter
import PyProof.FactsAll.NoneType_1
import PyProof.FString2
import PyProof.FactsAll.list_3
import PyProof.FString4
import PySem.Challenge.RW_staymark_k46_depths
set_option Elab.async false
set_option linter.all false
set_option maxRecDepth 100000
set_option maxHeartbeats 4000000
set_option compiler.extract_closed false
namespace L2
open PySem PySem.Spec PyProof.Rows
abbrev Key := Sum Int Str
def Le : Key -> Value -> Bool
 | .inl k, v => Value.isInt k v
 | .inr x, v => Value.isStrOf x v
def keyH (w : World) : Key -> Int
 | .inl k => hashInt k
 | .inr x => hashStr w x
theorem L5 : ∀ {k : Key} {v : Value}, Le k v = true -> (∃ i t, k = Sum.inl i /\ v = Value.int i t) \/ (∃ x t, k = Sum.inr x /\ v = Value.str x t)
 | .inl i, v, h => by
   obtain ⟨t, e⟩ := Value.isInt_shape (k := i) (v := v) h; exact .inl ⟨i, t, rfl, e⟩
 | .inr x, v, h => by
   obtain ⟨t, e⟩ := Value.isStrOf_shape (x := x) (v := v) h; exact .inr ⟨x, t, rfl, e⟩
theorem Vr (i : Int) (t : Tok) : Le (.inl i) (.int i t) = true := by simp [Le, Value.isInt]
theorem Vq (x : Str) (t : Tok) : Le (.inr x) (.str x t) = true := by simp [Le, Value.isStrOf]
theorem iG (a b : Int) : decide ((Sum.inl a : Key) = Sum.inl b) = (a == b) := by
 by_cases e : a = b
 . subst e; simp
 . have h : ¬ (Sum.inl a : Key) = Sum.inl b := fun q => e (Sum.inl.inj q)
   rw [decide_eq_false h]; exact (beq_eq_false_iff_ne.mpr e).symm
theorem iD (a b : Str) : decide ((Sum.inr a : Key) = Sum.inr b) = decide (a = b) := by
 by_cases e : a = b
 . subst e; simp
 . have h : ¬ (Sum.inr a : Key) = Sum.inr b := fun q => e (Sum.inr.inj q)
   rw [decide_eq_false h, decide_eq_false e]
theorem iF (a : Int) (b : Str) : decide ((Sum.inl a : Key) = Sum.inr b) = false := decide_eq_false (fun q => nomatch q)
theorem iE (a : Str) (b : Int) : decide ((Sum.inr a : Key) = Sum.inl b) = false := decide_eq_false (fun q => nomatch q)
def N5 (prog : Program) (w : World) : PySem.KeyKind prog w Key where
 is := Le
 hash := keyH w
 inj := fun v a b ha hb => by
   rcases L5 ha with ⟨i, t, rfl, rfl⟩ | ⟨x, t, rfl, rfl⟩
   . rcases L5 hb with ⟨j, u, rfl, e⟩ | ⟨y, u, rfl, e⟩
     . injection e with e1 _; rw [e1]
     . exact nomatch e
   . rcases L5 hb with ⟨j, u, rfl, e⟩ | ⟨y, u, rfl, e⟩
     . exact nomatch e
     . injection e with e1 _; rw [e1]
 byValue := fun k v h => by
   rcases L5 h with ⟨i, t, rfl, rfl⟩ | ⟨x, t, rfl, rfl⟩ <;> rfl
 pyHash := fun hv h => by
   rcases L5 hv with ⟨i, t, rfl, rfl⟩ | ⟨x, t, rfl, rfl⟩
   . exact wpAny_pyHash_int h
   . exact wpAny_pyHash_str h
 eqBool := fun hu hv h => by
   rcases L5 hu with ⟨i, t, rfl, rfl⟩ | ⟨x, t, rfl, rfl⟩
   . rcases L5 hv with ⟨j, u, rfl, rfl⟩ | ⟨y, u, rfl, rfl⟩
     . rw [iG] at h; exact wpAny_eqBool_int h
     . rw [iF] at h; exact SeqAt.EqAt.int_str i t y u _ _ _ _ h
   . rcases L5 hv with ⟨j, u, rfl, rfl⟩ | ⟨y, u, rfl, rfl⟩
     . rw [iE] at h; exact SeqAt.EqAt.str_int x t j u _ _ _ _ h
     . rw [iD] at h; exact wpAny_eqBool_str h
 «strs» := fun k x t v h => by
   rcases L5 h with ⟨i, u, rfl, e⟩ | ⟨y, u, rfl, e⟩
   . exact nomatch e
   . injection e with e1 _
     subst e1
     cases v <;> rfl
theorem Pa (prog : Program) (w : World) (i : Int) (t : Tok) : (N5 prog w).is (.inl i) (.int i t) = true := Vr i t
theorem Oz (prog : Program) (w : World) (x : Str) (t : Tok) : (N5 prog w).is (.inr x) (.str x t) = true := Vq x t
end L2
namespace L2
open PySem PySem.Spec PyProof.Rows
inductive V where
 | non | bl (b : Bool) | int (i : Int) | str (x : Str) | byt (b : Array UInt8) | flt (b : UInt64) | ref (a : Addr) | ty (n : String)
 deriving DecidableEq
def RelV : V -> Value -> Prop
 | .non, u => u = Value.none
 | .bl b, u => u = Value.bool b
 | .int i, u => ∃ t, u = Value.int i t
 | .str x, u => ∃ t, u = Value.str x t
 | .byt b, u => ∃ t, u = Value.bytes b t
 | .flt b, u => ∃ t, u = Value.float b t
 | .ref a, u => u = Value.ref a
 | .ty n, u => u = Value.type n
abbrev Vals : List V -> List Value -> Prop := Paired RelV
theorem Vals.length {xs : List V} {us : List Value} (r : Vals xs us) : xs.length = us.length := Paired.length r
theorem Vals.get : ∀ {xs : List V} {us : List Value} {i : Nat} {x : V}, Vals xs us -> xs[i]? = some x -> ∃ u, us[i]? = some u /\ RelV x u
 | _, _, _, _, .nil, e => by simp at e
 | _, _, 0, _, .cons r _, e => by simp at e; subst e; exact ⟨_, rfl, r⟩
 | _, _, i + 1, x, .cons _ t, e => by
   obtain ⟨u, h1, h2⟩ := Vals.get (i := i) (x := x) t (by simpa using e)
   exact ⟨u, by simpa using h1, h2⟩
theorem Vals.append : ∀ {xs ys : List V} {us ws : List Value}, Vals xs us -> Vals ys ws -> Vals (xs ++ ys) (us ++ ws)
 | _, _, _, _, .nil, s => s
 | _, _, _, _, .cons r t, s => .cons r (Vals.append t s)
theorem Vals.take : ∀ {xs : List V} {us : List Value} (n : Nat), Vals xs us -> Vals (xs.take n) (us.take n)
 | _, _, 0, _ => .nil
 | _, _, _ + 1, .nil => .nil
 | _, _, n + 1, .cons r t => .cons r (Vals.take n t)
theorem Vals.drop : ∀ {xs : List V} {us : List Value} (n : Nat), Vals xs us -> Vals (xs.drop n) (us.drop n)
 | _, _, 0, r => r
 | _, _, _ + 1, .nil => .nil
 | _, _, n + 1, .cons _ t => Vals.drop n t
def RelO : Option V -> Option Value -> Prop
 | some v, some u => RelV v u
 | none, none => True
 | _, _ => False
def KV {κ : Type} : List (κ × V) -> List (κ × Value) -> Prop := Paired fun (p : κ × V) (q : κ × Value) => p.1 = q.1 /\ RelV p.2 q.2
def kV : Key -> V
 | .inl i => .int i
 | .inr x => .str x
inductive HO where
 | lst (xs : List V)
 | tup (xs : List V)
 | dK (kvs : List (Key × V)) | dT (kvs : List (List Key × V))
 | set (S : Int -> Bool) (n : Nat)
 | ins (C dx : Addr) (fs : List (Str × V))
 | own (x : Addr)
 | xd (fs : List (Str × V))
 | met (f x : Addr)
 | rng (lo hi : Int)
 | frz (o : Obj) (u : HO)
 | tbl (ps : Array Value)
 | ext (φ : Heap -> Prop)
abbrev Hp := Addr -> Option HO
def upd (H : Hp) (a : Addr) (o : HO) : Hp := fun b => if b = a then some o else H b
theorem B3 {H : Hp} {a : Addr} {o : HO} : upd H a o a = some o := by unfold upd; rw [if_pos rfl]
theorem A8 {H : Hp} {a b : Addr} {o : HO} (h : b ≠ a) : upd H a o b = H b := by unfold upd; rw [if_neg h]
theorem Sa {H : Hp} {a : Addr} {o u : HO} : upd (upd H a o) a u = upd H a u := by
 funext b; unfold upd; split <;> rfl
theorem Bv {H : Hp} {a b : Addr} {o u : HO} (h : H a = some o) (h' : H b = some u) (d : o ≠ u) : a ≠ b := by
 intro e; subst e; rw [h] at h'; exact d (Option.some.inj h')
theorem B5 {H : Hp} {a b : Addr} {o : HO} (h : H a = some o) (h' : H b = none) : a ≠ b := by
 intro e; subst e; rw [h] at h'; cases h'
section
variable (P : Program) (w : World)
def ObjOk (H : Hp) (h : Heap) (a : Addr) : HO -> Prop
 | .lst xs => xs.length <= sizeLine /\ ∃ (its : List Value) (n : Nat), Vals xs its /\ h.get? a = some { cls := .type "list", data := .seq its.toArray n }
 | .tup xs => xs.length <= sizeLine /\ ∃ its : List Value, Vals xs its /\ IsTup h a its.toArray
 | .dK kvs => kvs.length <= sizeLine /\ (a == sysModules) = false /\ ∃ vs, KV kvs vs /\ h.DictOf (N5 P w) a vs
 | .dT kvs => kvs.length <= sizeLine /\ (a == sysModules) = false /\ ∃ xs : List (List Key × Addr × Value),
     Paired (fun (p : List Key × V) (q : List Key × Addr × Value) => p.1 = q.1 /\ H q.2.1 = some (.tup (p.1.map kV)) /\ RelV p.2 q.2.2) kvs xs /\
     ∃ o es ep, h.get? a = some o /\ o.ExactDict /\ o.data = .dict es ep /\ es.toList = xs.map (entryOfKey (tupleKind (N5 P w))) /\ (xs.map (·.1)).Nodup
 | .set S n => h.SetOf (intKind P w) a S n
 | .ins C dx fs => H dx = some (.own a) /\ fs.length <= 1000 /\ dx ≠ a /\ h.get? a = some (PySem.W.instObj C dx) /\
     ∃ mA, h.Ns1 dx mA /\ (∀ f, RelO (fs.lookup f) (mA f)) /\ PySem.Within mA (fs.map (·.1))
 | .own _ => ∃ o, h.get? a = some o
 | .xd fs => ∃ mA, h.Ns1 a mA /\ ∀ f, RelO (fs.lookup f) (mA f)
 | .rng lo hi => ∃ t u v, h.get? a = some { cls := .type "range", data := .fields #[.int lo t, .int hi u, .int 1 v] }
 | .frz o u => h.get? a = some o /\ ObjOk H h a u
 | .tbl ps => h.get? a = some { cls := .none, data := .fields ps }
 | .met f x => h.get? a = some (PySem.W.methodObj (.ref f) (.ref x))
 | .ext φ => φ h /\ (∃ o, h.get? a = some o) /\ ∀ h1 h2 : Heap, φ h1 -> (∀ o, h1.get? a = some o -> h2.get? a = some o) -> φ h2
def HOk (H : Hp) (h : Heap) : Prop := ∀ a o, H a = some o -> ObjOk P w H h a o
end
section
variable {P : Program} {w : World} {H H' : Hp} {h h' : Heap} {a : Addr} {o : HO}
theorem ObjOk.lt (x : ObjOk P w H h a o) : a < h.objs.size := by
 cases o with
 | lst xs => obtain ⟨_, _, _, _, e⟩ := x; exact Heap.lt_size e
 | tup xs => obtain ⟨_, _, _, p⟩ := x; exact p.lt
 | dK kvs => obtain ⟨_, _, _, _, o, _, _, e, _⟩ := x; exact Heap.lt_size e
 | dT kvs => obtain ⟨_, _, _, _, o, _, _, e, _⟩ := x; exact Heap.lt_size e
 | set S n => obtain ⟨o, _, _, _, e, _⟩ := x; exact Heap.lt_size e
 | ins C dx fs => obtain ⟨_, _, _, e, _⟩ := x; exact Heap.lt_size e
 | own y => obtain ⟨_, e⟩ := x; exact Heap.lt_size e
 | xd fs => obtain ⟨_, ⟨_, _, _, e, _⟩, _⟩ := x; exact Heap.lt_size e
 | rng lo hi => obtain ⟨_, _, _, e⟩ := x; exact Heap.lt_size e
 | frz ob u => obtain ⟨e, _⟩ := x; exact Heap.lt_size e
 | tbl ps => exact Heap.lt_size (show h.get? a = some _ from x)
 | met f y => exact Heap.lt_size (show h.get? a = some _ from x)
 | ext φ => obtain ⟨_, ⟨_, e⟩, _⟩ := x; exact Heap.lt_size e
theorem Paired.mapP {α β : Type} {F G : α -> β -> Prop} : ∀ {l₁ : List α} {l₂ : List β}, Paired F l₁ l₂ -> (∀ a b, F a b -> G a b) -> Paired G l₁ l₂
 | _, _, .nil, _ => .nil
 | _, _, .cons r t, f => .cons (f _ _ r) (Paired.mapP t f)
theorem ObjOk.stay (x : ObjOk P w H h a o) (k : ∀ b u, (b = a \/ H b = some (.own a)) -> h.get? b = some u -> h'.get? b = some u)
   (ho : ∀ b, H b = some (.own a) -> H' b = some (.own a)) (ht : ∀ b xs, H b = some (.tup xs) -> H' b = some (.tup xs)) : ObjOk P w H' h' a o := by
 induction o with
 | lst xs => obtain ⟨z, its, n, r, e⟩ := x; exact ⟨z, its, n, r, k _ _ (.inl rfl) e⟩
 | tup xs => obtain ⟨z, its, r, ob, e, c⟩ := x; exact ⟨z, its, r, ob, k _ _ (.inl rfl) e, c⟩
 | dK kvs => obtain ⟨z, y, vs, r, ob, es, ep, e, c⟩ := x; exact ⟨z, y, vs, r, ob, es, ep, k _ _ (.inl rfl) e, c⟩
 | dT kvs =>
   obtain ⟨z, y, xs, r, ob, es, ep, e, c⟩ := x; exact ⟨z, y, xs, Paired.mapP r fun p q z => ⟨z.1, ht _ _ z.2.1, z.2.2⟩, ob, es, ep, k _ _ (.inl rfl) e, c⟩
 | set S n => obtain ⟨ob, es, ep, t, e, c⟩ := x; exact ⟨ob, es, ep, t, k _ _ (.inl rfl) e, c⟩
 | ins C dx fs =>
   obtain ⟨d, z, ne, e, mA, ⟨od, es, ep, e2, c⟩, r⟩ := x; exact ⟨ho _ d, z, ne, k _ _ (.inl rfl) e, mA, ⟨od, es, ep, k _ _ (.inr d) e2, c⟩, r⟩
 | own y => obtain ⟨ob, e⟩ := x; exact ⟨ob, k _ _ (.inl rfl) e⟩
 | xd fs => obtain ⟨mA, ⟨od, es, ep, e, c⟩, r⟩ := x; exact ⟨mA, ⟨od, es, ep, k _ _ (.inl rfl) e, c⟩, r⟩
 | rng lo hi => obtain ⟨t, u, v, e⟩ := x; exact ⟨t, u, v, k _ _ (.inl rfl) e⟩
 | frz ob u ih => obtain ⟨e, q⟩ := x; exact ⟨k _ _ (.inl rfl) e, ih q⟩
 | tbl ps =>
   have e : h.get? a = some { cls := .none, data := .fields ps } := x; show h'.get? a = some { cls := .none, data := .fields ps }
   exact k a _ (.inl rfl) e
 | met f y =>
   have e : h.get? a = some (PySem.W.methodObj (.ref f) (.ref y)) := x; show h'.get? a = some (PySem.W.methodObj (.ref f) (.ref y))
   exact k a _ (.inl rfl) e
 | ext φ => obtain ⟨p, ⟨o, e⟩, st⟩ := x; exact ⟨st _ _ p fun o q => k _ _ (.inl rfl) q, ⟨o, k _ _ (.inl rfl) e⟩, st⟩
theorem HOk.lt (x : HOk P w H h) (e : H a = some o) : a < h.objs.size := (x a o e).lt
theorem HOk.fresh (x : HOk P w H h) (e : h.objs.size <= a) : H a = none := by
 cases q : H a with
 | none => rfl
 | some u => exact absurd (Nat.lt_of_lt_of_le (x.lt q) e) (Nat.lt_irrefl _)
theorem HOk.kept (x : HOk P w H h) (k : ∀ b u, h.get? b = some u -> h'.get? b = some u) : HOk P w H h' := fun a o e =>
 (x a o e).stay (fun b u _ q => k b u q) (fun _ q => q) fun _ _ q => q
theorem HOk.laid (x : HOk P w H h) (k : ∀ b u, h.get? b = some u -> h'.get? b = some u) (hp : h.objs.size <= a) (new : ObjOk P w (upd H a o) h' a o) : HOk P w (upd H a o) h' := fun b u e => by
 have hn := x.fresh hp
 by_cases hb : b = a
 . subst hb; rw [B3] at e; cases e; exact new
 . rw [A8 hb] at e
   exact (x b u e).stay (fun c v _ q => k c v q) (fun c q => by rw [A8 (B5 q hn)]; exact q) fun c xs q => by rw [A8 (B5 q hn)]; exact q
end
def Rd (H : Hp) (a : Addr) (u : HO) : Prop := H a = some u \/ ∃ o, H a = some (.frz o u)
theorem Rd.ok {P : Program} {w : World} {H : Hp} {h : Heap} {a : Addr} {u : HO} (r : Rd H a u) (x : HOk P w H h) : ObjOk P w H h a u := by
 rcases r with r | ⟨o, r⟩
 . exact x a u r
 . obtain ⟨_, q⟩ := x a _ r
   exact q
def Mut : Option HO -> Prop
 | some (.lst _) => True
 | some (.dK _) => True
 | some (.dT _) => True
 | some (.set _ _) => True
 | some (.ins _ _ _) => True
 | some (.ext _) => True
 | _ => False
section
variable {P : Program} {w : World} {H : Hp} {h h' : Heap} {x e : Addr} {o' : HO}
theorem HOk.write (ok : HOk P w H h) (mu : Mut (H x)) (he : e = x \/ H e = some (.own x)) (k : ∀ b u, b ≠ e -> h.get? b = some u -> h'.get? b = some u) (heo : ∃ u, h'.get? e = some u)
   (new : ObjOk P w (upd H x o') h' x o') : HOk P w (upd H x o') h' := fun b u q => by
 have nown : ∀ c y, H c = some (.own y) -> c ≠ x := fun c y r z => by subst z; rw [r] at mu; exact mu
 have ntup : ∀ c xs, H c = some (.tup xs) -> c ≠ x := fun c xs r z => by subst z; rw [r] at mu; exact mu
 by_cases hb : b = x
 . subst hb; rw [B3] at q; cases q; exact new
 . rw [A8 hb] at q
   by_cases hbe : b = e
   . have q' : H b = some (.own x) := by
       rcases he with z | z
       . exact absurd (hbe.trans z) hb
       . rw [hbe]; exact z
     rw [q] at q'; cases q'
     obtain ⟨v, hv⟩ := heo; exact ⟨v, by rw [hbe]; exact hv⟩
   . refine (ok b u q).stay (fun c v hc r => k c v ?_ r) (fun c r => by rw [A8 (nown c b r)]; exact r) fun c xs r => by rw [A8 (ntup c xs r)]; exact r
     rcases hc with rfl | hc
     . exact hbe
     . rintro rfl
       rcases he with z | z
       . exact nown c b hc z
       . rw [hc] at z; cases z; exact hb rfl
end
structure Un (fs ex : List Addr) (H H' : Hp) (h h' : Heap) : Prop where
 keep : ∀ b o, h.get? b = some o -> H b = none -> b ∉ fs -> b ∉ ex -> h'.get? b = some o
 slot : ∀ b o, h.get? b = some o -> H b = none -> b ∈ fs -> b ∉ ex -> ∃ sl, h'.get? b = some { o with slots := sl }
 free : ∀ b o, h.get? b = some o -> H b = none -> b ∉ ex -> H' b = none
 there : ∀ b o, h.get? b = some o -> b ∉ ex -> ∃ o', h'.get? b = some o'
 tups : ∀ b xs, H b = some (.tup xs) -> H' b = some (.tup xs)
 frzs : ∀ b o u, H b = some (.frz o u) -> H' b = some (.frz o u)
 tbls : ∀ b ps, H b = some (.tbl ps) -> ∃ more, H' b = some (.tbl (ps ++ more))
section
variable {fs ex : List Addr} {H H1 : Hp} {h h1 h' : Heap} {a x e : Addr} {o : HO}
theorem Un.any (u : Un fs ex H H1 h h1) {b : Addr} {ob : Obj} (q : h.get? b = some ob) (n : H b = none) (hx : b ∉ ex) : ∃ sl, h1.get? b = some { ob with slots := sl } := by
 by_cases hb : b ∈ fs
 . exact u.slot b ob q n hb hx
 . exact ⟨ob.slots, u.keep b ob q n hb hx⟩
theorem Un.kept (k : ∀ b u, h.get? b = some u -> h'.get? b = some u) : Un fs ex H H h h' :=
 ⟨fun b ob q _ _ _ => k b ob q, fun b ob q _ _ _ => ⟨ob.slots, k b ob q⟩, fun _ _ _ n _ => n, fun b ob q _ => ⟨ob, k b ob q⟩, fun _ _ q => q, fun _ _ _ q => q, fun _ ps q => ⟨#[], by rw [q]; simp⟩⟩
theorem Un.refl : Un fs ex H H h h := Un.kept fun _ _ q => q
theorem Un.laid (k : ∀ b u, h.get? b = some u -> h'.get? b = some u) (hp : h.objs.size <= a) (hn : H a = none) : Un fs ex H (upd H a o) h h' where
 keep := fun b u q _ _ _ => k b u q
 slot := fun b u q _ _ _ => ⟨u.slots, k b u q⟩
 free := fun b u q n _ => by rw [A8 (Nat.ne_of_lt (Nat.lt_of_lt_of_le (Heap.lt_size q) hp))]; exact n
 there := fun b u q _ => ⟨u, k b u q⟩
 tups := fun b xs q => by rw [A8 (B5 q hn)]; exact q
 frzs := fun b u xs q => by rw [A8 (B5 q hn)]; exact q
 tbls := fun b ps q => ⟨#[], by rw [A8 (B5 q hn), q]; simp⟩
theorem Un.write (mu : Mut (H x)) (he : e = x \/ H e = some (.own x)) (k : ∀ b u, b ≠ e -> h.get? b = some u -> h'.get? b = some u) (heo : ∃ u, h'.get? e = some u) : Un fs ex H (upd H x o) h h' := by
 have hx : ∀ b, H b = none -> b ≠ x := fun b n z => by subst z; rw [n] at mu; exact mu
 have hb : ∀ b, H b = none -> b ≠ e := fun b n z => by
   subst z; rcases he with r | r
   . exact hx b n r
   . rw [n] at r; cases r
 have hm : ∀ b u, H b = some u -> ¬ Mut (some u) -> b ≠ x := fun b u q nm z => by subst z; rw [q] at mu; exact nm mu
 refine ⟨fun b u q n _ _ => k b u (hb b n) q, fun b u q n _ _ => ⟨u.slots, k b u (hb b n) q⟩, fun b u q n _ => by rw [A8 (hx b n)]; exact n, fun b u q _ => ?_,
   fun b xs q => by rw [A8 (hm b _ q fun z => z)]; exact q, fun b u xs q => by rw [A8 (hm b _ q fun z => z)]; exact q, fun b ps q => ⟨#[], by rw [A8 (hm b _ q fun z => z), q]; simp⟩⟩
 by_cases hbe : b = e
 . subst hbe; exact heo
 . exact ⟨u, k b u hbe q⟩
end
def trk (h : Heap) (H : Hp) : List Addr := (List.range h.objs.size).filter fun a => (H a).isSome
def Nl (h : Heap) (H : Hp) : Heap := PySem.W.hideAll h (trk h H)
theorem Vu (h : Heap) (H : Hp) : (Nl h H).objs.size = h.objs.size := PySem.W.hideAll_size _ _
theorem aA {h : Heap} {H : Hp} {b : Addr} {o : Obj} (e : h.get? b = some o) (n : H b = none) : (Nl h H).get? b = some o :=
 PySem.W.hideAll_get _ e fun hm => by
   have q : (H b).isSome = true := (List.mem_filter.mp hm).2; rw [n] at q; simp at q
theorem cU {h : Heap} {H : Hp} {b : Addr} {o : Obj} (e : (Nl h H).get? b = some o) : h.get? b = some o /\ H b = none := by
 have e' : h.get? b = some o := PySem.W.of_hideAll (trk h H) e
 refine ⟨e', ?_⟩
 cases q : H b with
 | none => rfl
 | some x =>
   have hm : b ∈ trk h H := List.mem_filter.mpr ⟨List.mem_range.mpr (Heap.lt_size e'), by simp [q]⟩
   have z : (Nl h H).get? b = none := PySem.W.hideAll_none (trk h H) hm; rw [z] at e; cases e
def eI (g h : Heap) (L : Addr) : List (Addr × Obj) := (List.range h.objs.size).filterMap fun a => if a = L \/ (g.get? a).isSome = true then none else (h.get? a).map fun o => (a, o)
def Q8 (g h : Heap) (L d : Addr) : List (Addr × Obj) := (eI g h L).filter fun p => decide (p.1 ≠ d)
end L2
namespace L2
open PySem PySem.Spec PyProof.Rows
structure Mod (K : PySem.W.Frag) (mg : Str -> Option Value) (base : Heap) : Prop where
 kin : K.In base
 glob : base.Ns mainGlobals mg
 blt : ∃ mb, base.Ns builtinsNs mb /\ ∀ x : Str, x ≠ "__name__" -> mb x = bootBuiltins x
 nolimit : base.NoLimit
structure Cx where
 prog : Program
 w : World
 K : PySem.W.Frag
 mg : Str -> Option Value
 base : Heap
 A : Around
 N : List Str
 s₀ : Shared
 H₀ : Hp
 env : Env
 outer : List Env
 stack : List Env
 ex : List Addr
 fn : Str -> Bool
 calm : Bool
 pn : List (Addr × Obj)
 xe : Value -> Shared -> Prop
def frs (l : List Env) : List Addr := l.filterMap (·.frame)
abbrev Cx.fs (X : Cx) : List Addr := frs X.outer
def Vis (sc : Scope) (x : Str) : Prop := sc.names.lookup x = some .local \/ sc.names.lookup x = some .cell \/ sc.names.lookup x = some .free
def Loc (sc : Scope) (x : Str) : Prop := sc.names.lookup x = some .local \/ sc.names.lookup x = some .cell
def Look (env : Env) (h : Heap) (m : Str -> Option Value) (x : Str) (u : Value) : Prop :=
 (env.kindOf x = some .local /\ m x = some u) \/ ((env.kindOf x = some .cell \/ env.kindOf x = some .free) /\ ∃ c, env.cells.lookup x = some c /\ h.IsCell c (some u))
structure Cx.Ok (X : Cx) : Prop where
 mod : Mod X.K X.mg X.base
 kind : X.env.scope.kind = .function
 glob : X.env.globals = mainGlobals
 blt : X.env.builtins = builtinsNs
 above : X.s₀.heap.objs.size <= X.env.locals
 inj : ∀ x y c, X.env.cells.lookup x = some c -> X.env.cells.lookup y = some c -> x = y
 has : ∀ x, (X.env.kindOf x = some .cell \/ X.env.kindOf x = some .free) -> ∃ c, X.env.cells.lookup x = some c
 cab : ∀ x c, X.fn x = true -> X.env.cells.lookup x = some c -> X.s₀.heap.objs.size <= c
 hd : X.calm = true -> X.A.handled = none
 frames : X.A.frames = some X.stack
 stk : X.stack = X.outer \/ (X.stack = X.env :: X.outer /\ X.env.frame = some X.env.locals)
 exf : ∀ b ∈ X.ex, b ≠ X.env.locals /\ ∀ x c, X.env.cells.lookup x = some c -> c ≠ b
 bs : ∀ b o, X.base.get? b = some o -> X.s₀.heap.get? b = some o /\ X.H₀ b = none
 bsz : X.base.objs.size <= X.s₀.heap.objs.size
 noex : ∀ b o, X.base.get? b = some o -> b ∉ X.ex
 exfs : ∀ b ∈ X.ex, b ∉ X.fs
 funs : X.s₀.heap.FunFrames X.base X.outer
 frf : ∀ b ∈ X.fs, X.H₀ b = none
structure Inv (X : Cx) (pins : List (Addr × Obj)) (Z : List (Option V)) (H : Hp) (s : Shared) : Prop where
 ok : X.Ok
 os : s.os = X.s₀.os
 bare : AllBare s.gens
 base : Un X.fs X.ex X.H₀ H X.s₀.heap s.heap
 loc : ∃ m, s.heap.Ns X.env.locals m /\ ∀ (i : Nat) (x : Str) (v : V), X.N[i]? = some x -> Z[i]? = some (some v) -> Vis X.env.scope x -> ∃ u, RelV v u /\ Look X.env s.heap m x u
 cell : ∀ x c, X.env.cells.lookup x = some c -> ∃ v, s.heap.IsCell c v
 free : H X.env.locals = none
 freeC : ∀ x c, X.env.cells.lookup x = some c -> H c = none
 pin : ∀ p ∈ X.pn ++ pins, s.heap.get? p.1 = some p.2 /\ H p.1 = none /\ p.1 ≠ X.env.locals /\ p.1 ∉ X.fs /\ ∀ v, p.2.data ≠ .cell v
 hok : HOk X.prog X.w H s.heap
 len : Z.length = X.N.length
section
variable {X : Cx} {pins : List (Addr × Obj)} {Z : List (Option V)} {H H' : Hp} {s : Shared} {h' : Heap}
theorem Cx.Ok.nofr (ok : X.Ok) {b : Addr} {o : Obj} (e : X.base.get? b = some o) : b ∉ X.fs := fun hb => by
 have := (ok.funs.mem hb).1
 rw [e] at this; cases this
theorem Inv.bs (I : Inv X pins Z H s) : ∀ b o, X.base.get? b = some o -> s.heap.get? b = some o /\ H b = none := fun b o e =>
 ⟨I.base.keep b o (I.ok.bs b o e).1 (I.ok.bs b o e).2 (I.ok.nofr e) (I.ok.noex b o e), I.base.free b o (I.ok.bs b o e).1 (I.ok.bs b o e).2 (I.ok.noex b o e)⟩
theorem Inv.bk (I : Inv X pins Z H s) : ∀ b o, X.base.get? b = some o -> s.heap.get? b = some o := fun b o e => (I.bs b o e).1
theorem Inv.mod (I : Inv X pins Z H s) : Mod X.K X.mg X.base := I.ok.mod
theorem Inv.kIn (I : Inv X pins Z H s) : X.K.In s.heap := I.ok.mod.kin.keeps I.bk
theorem Inv.fr (I : Inv X pins Z H s) : ∃ m, Fr X.base X.env.locals s.heap m :=
 let ⟨m, hn, _⟩ := I.loc
 ⟨m, hn, I.bk, Nat.le_trans I.ok.bsz I.ok.above⟩
theorem Inv.lt (I : Inv X pins Z H s) : X.env.locals < s.heap.objs.size := let ⟨_, hn, _⟩ := I.loc; hn.lt
theorem Inv.sz (I : Inv X pins Z H s) : X.s₀.heap.objs.size <= s.heap.objs.size := Nat.le_trans I.ok.above (Nat.le_of_lt I.lt)
theorem Inv.nofs (I : Inv X pins Z H s) {a : Addr} (h : s.heap.objs.size <= a) : a ∉ X.fs := fun hb => by
 obtain ⟨_, o, ho, _⟩ := I.ok.funs.mem hb
 exact absurd (Nat.lt_of_lt_of_le (Heap.lt_size ho) (Nat.le_trans I.sz h)) (Nat.lt_irrefl _)
theorem Inv.cne (I : Inv X pins Z H s) : ∀ x c, X.env.cells.lookup x = some c -> c ≠ X.env.locals := fun x c e z => by
 obtain ⟨v, o, ho, hd⟩ := I.cell x c e
 obtain ⟨m, ⟨o', es, ep, ho', hd', _⟩, _⟩ := I.loc
 rw [z, ho'] at ho; cases ho; rw [hd'] at hd; cases hd
theorem Inv.funs (I : Inv X pins Z H s) : s.heap.FunFrames X.base X.outer := by
 have all : ∀ (l : List Env), (∀ b ∈ frs l, b ∈ X.fs) -> X.s₀.heap.FunFrames X.base l -> s.heap.FunFrames X.base l := by
   intro l
   induction l with
   | nil => intro _ _; trivial
   | cons env r ih =>
     intro hs hl; obtain ⟨hk, ⟨L, o, hf, hn, ho, hd⟩, hr⟩ := hl; have hL : L ∈ X.fs := hs L (by unfold frs; rw [List.filterMap_cons, hf]; exact List.mem_cons_self)
     obtain ⟨sl, e⟩ := I.base.slot L o ho (I.ok.frf L hL) hL fun z => I.ok.exfs L z hL
     exact ⟨hk, ⟨L, _, hf, hn, e, hd⟩, ih (fun b hb => hs b (by unfold frs; rw [List.filterMap_cons, hf]; exact List.mem_cons_of_mem _ hb)) hr⟩
 exact all X.outer (fun _ hb => hb) I.ok.funs
theorem Inv.stack (I : Inv X pins Z H s) : s.heap.FunFrames X.base X.stack := by
 rcases I.ok.stk with e | ⟨e, hf⟩
 . rw [e]; exact I.funs
 . rw [e]
   obtain ⟨m, hn, _⟩ := I.loc; refine .cons (by rw [I.ok.kind]; decide) hf hn ?_ I.funs
   exact Heap.get?_none_of_le (Nat.le_trans I.ok.bsz I.ok.above)
theorem Inv.stkSub (I : Inv X pins Z H s) : ∀ b ∈ frs X.stack, b ∈ X.env.locals :: X.fs := fun b hb => by
 rcases I.ok.stk with e | ⟨e, hf⟩
 . rw [e] at hb; exact List.mem_cons_of_mem _ hb
 . rw [e] at hb
   unfold frs at hb; rw [List.filterMap_cons, hf] at hb; exact hb
theorem Inv.stkFree (I : Inv X pins Z H s) : ∀ b ∈ frs X.stack, H b = none := fun b hb => by
 rcases List.mem_cons.mp (I.stkSub b hb) with e | hb
 . rw [e]; exact I.free
 . obtain ⟨_, o, ho, _⟩ := I.ok.funs.mem hb
   exact I.base.free b o ho (I.ok.frf b hb) fun z => I.ok.exfs b z hb
theorem Inv.step {g' : Array GenState} {t' : Nat} {d' : Drawn} {ch : List Addr} (I : Inv X pins Z H s)
   (hch : ∀ b ∈ ch, (b ∈ X.ex \/ X.s₀.heap.objs.size <= b) /\ b ≠ X.env.locals /\ (∀ x c, X.env.cells.lookup x = some c -> c ≠ b) /\ ∀ p ∈ X.pn ++ pins, p.1 ≠ b)
   (keep : ∀ b o, b ≠ X.env.locals -> b ∉ X.fs -> b ∉ ch -> s.heap.get? b = some o -> H b = none -> h'.get? b = some o)
   (slot : ∀ b o, b ≠ X.env.locals -> b ∈ X.fs -> b ∉ ch -> s.heap.get? b = some o -> H b = none -> ∃ sl, h'.get? b = some { o with slots := sl }) (free : ∀ b o, b ∉ ch -> s.heap.get? b = some o -> H b = none -> H' b = none)
   (there : ∀ b o, b ∉ ch -> s.heap.get? b = some o -> ∃ o', h'.get? b = some o')
   (tups : ∀ b xs, H b = some (.tup xs) -> H' b = some (.tup xs)) (frzs : ∀ b o u, H b = some (.frz o u) -> H' b = some (.frz o u)) (tbls : ∀ b ps, H b = some (.tbl ps) -> ∃ more, H' b = some (.tbl (ps ++ more)))
   (ns : ∀ m, s.heap.Ns X.env.locals m -> h'.Ns X.env.locals m) (hok : HOk X.prog X.w H' h') (hg : AllBare g') :
   Inv X pins Z H' { s with heap := h', gens := g', drawn := d', toks := t' } := by
 have neL : ∀ b o, X.s₀.heap.get? b = some o -> b ≠ X.env.locals := fun b o e => Nat.ne_of_lt (Nat.lt_of_lt_of_le (Heap.lt_size e) I.ok.above)
 have neC : ∀ b o, X.s₀.heap.get? b = some o -> b ∉ X.ex -> b ∉ ch := fun b o e hx hb => by
   rcases (hch b hb).1 with z | z
   . exact hx z
   . exact absurd (Nat.lt_of_lt_of_le (Heap.lt_size e) z) (Nat.lt_irrefl _)
 have cellK : ∀ x c, X.env.cells.lookup x = some c -> ∀ v, s.heap.IsCell c v -> h'.IsCell c v := fun x c e v ⟨o, ho, hd⟩ => by
   have nch : c ∉ ch := fun z => (hch c z).2.2.1 x c e rfl
   by_cases hc : c ∈ X.fs
   . obtain ⟨sl, q⟩ := slot c o (I.cne x c e) hc nch ho (I.freeC x c e)
     exact ⟨_, q, hd⟩
   . exact ⟨o, keep c o (I.cne x c e) hc nch ho (I.freeC x c e), hd⟩
 refine ⟨I.ok, I.os, hg, ⟨fun b o e n hb hx => ?_, fun b o e n hb hx => ?_, fun b o e n hx => ?_, fun b o e hx => ?_, fun b xs e => tups b xs (I.base.tups b xs e), fun b o xs e => frzs b o xs (I.base.frzs b o xs e), fun b ps e => ?_⟩, ?_, fun x c e => ?_, ?_, fun x c e => ?_, fun p hp => ?_, hok, I.len⟩
 . exact keep b o (neL b o e) hb (neC b o e hx) (I.base.keep b o e n hb hx) (I.base.free b o e n hx)
 . obtain ⟨sl, e1⟩ := I.base.slot b o e n hb hx
   obtain ⟨sl', e2⟩ := slot b _ (neL b o e) hb (neC b o e hx) e1 (I.base.free b o e n hx); exact ⟨sl', e2⟩
 . obtain ⟨o', e1⟩ := I.base.there b o e hx
   exact free b o' (neC b o e hx) e1 (I.base.free b o e n hx)
 . obtain ⟨o', e1⟩ := I.base.there b o e hx
   exact there b o' (neC b o e hx) e1
 . obtain ⟨m1, e1⟩ := I.base.tbls b ps e
   obtain ⟨m2, e2⟩ := tbls b _ e1; exact ⟨m1 ++ m2, by rw [e2, Array.append_assoc]⟩
 . obtain ⟨m, hn, hl⟩ := I.loc
   refine ⟨m, ns m hn, fun i x v e1 e2 e3 => ?_⟩
   obtain ⟨u, r, l⟩ := hl i x v e1 e2 e3; refine ⟨u, r, ?_⟩; rcases l with l | ⟨k, c, e, z⟩
   . exact .inl l
   . exact .inr ⟨k, c, e, cellK x c e _ z⟩
 . obtain ⟨v, z⟩ := I.cell x c e
   exact ⟨v, cellK x c e v z⟩
 . obtain ⟨m, ⟨o, _, _, ho, _⟩, _⟩ := I.loc
   exact free _ o (fun z => (hch _ z).2.1 rfl) ho I.free
 . obtain ⟨v, o, ho, hd⟩ := I.cell x c e
   exact free c o (fun z => (hch c z).2.2.1 x c e rfl) ho (I.freeC x c e)
 . obtain ⟨e, n, ne, nf, d⟩ := I.pin p hp
   have nch : p.1 ∉ ch := fun z => (hch p.1 z).2.2.2 p hp rfl
   exact ⟨keep p.1 p.2 ne nf nch e n, free p.1 p.2 nch e n, ne, nf, d⟩
theorem Inv.un {t' : Nat} (I : Inv X pins Z H s) (u : Un X.fs [] H H' s.heap h') (hok : HOk X.prog X.w H' h') : Inv X pins Z H' { s with heap := h', toks := t' } := by
 obtain ⟨m, ⟨o, es, ep, ho, r⟩, _⟩ := id I.loc
 obtain ⟨sl, hL⟩ := u.any ho I.free (by simp)
 exact I.step (g' := s.gens) (d' := s.drawn) (ch := []) (fun _ z => nomatch z) (fun b o _ hb _ e n => u.keep b o e n hb (by simp)) (fun b o _ hb _ e n => u.slot b o e n hb (by simp)) (fun b o _ e n => u.free b o e n (by simp)) (fun b o _ e => u.there b o e (by simp)) u.tups u.frzs u.tbls (fun m' hm => by
   obtain ⟨o', es', ep', ho', r'⟩ := hm; rw [ho] at ho'; cases ho'; exact ⟨_, es', ep', hL, r'⟩) hok I.bare
theorem Inv.call {g' : Array GenState} {t' : Nat} {d' : Drawn} {ch : List Addr} (I : Inv X pins Z H s) (u : Un (frs X.stack) ch H H' s.heap h') (hok : HOk X.prog X.w H' h') (hg : AllBare g')
   (hch : ∀ b ∈ ch, (b ∈ X.ex \/ X.s₀.heap.objs.size <= b) /\ b ≠ X.env.locals /\ (∀ x c, X.env.cells.lookup x = some c -> c ≠ b) /\ ∀ p ∈ X.pn ++ pins, p.1 ≠ b) :
   Inv X pins Z H' { s with heap := h', gens := g', drawn := d', toks := t' } := by
 obtain ⟨m, ⟨o, es, ep, ho, r⟩, _⟩ := id I.loc
 obtain ⟨sl, hL⟩ := u.any ho I.free fun z => (hch _ z).2.1 rfl
 exact I.step (ch := ch) hch (fun b o hL hb hc e n => u.keep b o e n (fun z => (List.mem_cons.mp (I.stkSub b z)).elim hL hb) hc) (fun b o _ _ hc e n => u.any e n hc) (fun b o hc e n => u.free b o e n hc) (fun b o hc e => u.there b o e hc) u.tups u.frzs u.tbls (fun m' hm => by
   obtain ⟨o', es', ep', ho', r'⟩ := hm; rw [ho] at ho'; cases ho'; exact ⟨_, es', ep', hL, r'⟩) hok hg
theorem Inv.turned {t' : Nat} {it : Addr} (I : Inv X pins Z H s) (k : ∀ b o, b ≠ it -> s.heap.get? b = some o -> h'.get? b = some o) (hn : H it = none) (hL : it ≠ X.env.locals)
   (h1 : it ∈ X.ex \/ X.s₀.heap.objs.size <= it) (h2 : ∀ x c, X.env.cells.lookup x = some c -> c ≠ it) (h3 : ∀ p ∈ X.pn ++ pins, p.1 ≠ it) : Inv X pins Z H { s with heap := h', toks := t' } := by
 have nit : ∀ b u, H b = some u -> b ≠ it := fun b u e z => by rw [z, hn] at e; cases e
 refine I.step (g' := s.gens) (d' := s.drawn) (ch := [it]) (fun b hb => ?_) (fun b o _ _ hc e _ => k b o (fun z => hc (by simp [z])) e) (fun b o _ _ hc e _ => ⟨o.slots, k b o (fun z => hc (by simp [z])) e⟩) (fun _ _ _ _ n => n)
   (fun b o hc e => ⟨o, k b o (fun z => hc (by simp [z])) e⟩) (fun _ _ e => e) (fun _ _ _ e => e) (fun b ps e => ⟨#[], by rw [e]; simp⟩) (fun m hm => ?_) (fun b u e => ?_) I.bare
 . have e : b = it := by simpa using hb
   subst e; exact ⟨h1, hL, h2, h3⟩
 . obtain ⟨o, es, ep, ho, r⟩ := hm
   exact ⟨o, es, ep, k _ o (Ne.symm hL) ho, r⟩
 . refine (I.hok b u e).stay (fun c v hc q => k c v ?_ q) (fun _ q => q) fun _ _ q => q
   rcases hc with z | z
   . rw [z]; exact nit b u e
   . exact nit c _ z
theorem Inv.tok (I : Inv X pins Z H s) (t : Nat) : Inv X pins Z H { s with toks := t } := I.un (h' := s.heap) (t' := t) Un.refl I.hok
theorem Inv.kept {t' : Nat} (I : Inv X pins Z H s) (k : ∀ b u, s.heap.get? b = some u -> h'.get? b = some u) : Inv X pins Z H { s with heap := h', toks := t' } := I.un (Un.kept k) (I.hok.kept k)
theorem Inv.laid {a : Addr} {o : HO} {t' : Nat} (I : Inv X pins Z H s) (k : ∀ b u, s.heap.get? b = some u -> h'.get? b = some u) (hp : s.heap.objs.size <= a) (new : ObjOk X.prog X.w (upd H a o) h' a o) :
   Inv X pins Z (upd H a o) { s with heap := h', toks := t' } := I.un (Un.laid k hp (I.hok.fresh hp)) (I.hok.laid k hp new)
theorem Inv.write {x e : Addr} {o : HO} {t' : Nat} (I : Inv X pins Z H s) (mu : Mut (H x)) (he : e = x \/ H e = some (.own x)) (k : ∀ b u, b ≠ e -> s.heap.get? b = some u -> h'.get? b = some u) (heo : ∃ u, h'.get? e = some u)
   (new : ObjOk X.prog X.w (upd H x o) h' x o) : Inv X pins Z (upd H x o) { s with heap := h', toks := t' } := I.un (Un.write mu he k heo) (I.hok.write mu he k heo new)
theorem Inv.weak {Z' : List (Option V)} (I : Inv X pins Z H s) (hl : Z'.length = Z.length) (w : ∀ (i : Nat) v, Z'[i]? = some (some v) -> Z[i]? = some (some v)) : Inv X pins Z' H s :=
 ⟨I.ok, I.os, I.bare, I.base, let ⟨m, hn, hl'⟩ := I.loc; ⟨m, hn, fun i x v e1 e2 e3 => hl' i x v e1 (w i v e2) e3⟩, I.cell, I.free, I.freeC, I.pin, I.hok, hl.trans I.len⟩
theorem Inv.pins_of {pins' : List (Addr × Obj)} (I : Inv X pins Z H s) (h : ∀ p ∈ pins', s.heap.get? p.1 = some p.2 /\ H p.1 = none /\ p.1 ≠ X.env.locals /\ p.1 ∉ X.fs /\ ∀ v, p.2.data ≠ .cell v) : Inv X pins' Z H s :=
 ⟨I.ok, I.os, I.bare, I.base, I.loc, I.cell, I.free, I.freeC, fun p hp => (List.mem_append.mp hp).elim (fun z => I.pin p (List.mem_append_left _ z)) (h p), I.hok, I.len⟩
theorem Ow {N : List Str} (hN : N.Nodup) {i j : Nat} {x : Str} (a : N[i]? = some x) (b : N[j]? = some x) : i = j := by
 obtain ⟨h1, e1⟩ := List.getElem?_eq_some_iff.mp a
 obtain ⟨h2, e2⟩ := List.getElem?_eq_some_iff.mp b
 exact (List.getElem_inj hN).mp (e1.trans e2.symm)
theorem Eb {M : Model} {A : Around} {E : Value -> Shared -> Prop} {i : Nat} {x : Str} {v : V} {u : Value} {Q : Unit -> Shared -> Prop} (I : Inv X pins Z H s) (hN : X.N.Nodup) (hi : X.N[i]? = some x) (hx : Loc X.env.scope x) (r : RelV v u)
   (h : ∀ s', Inv X pins (Z.set i (some v)) H s' -> (∃ a, Heap.SameBut a s.heap s'.heap /\ (a = X.env.locals \/ X.env.cells.lookup x = some a)) -> Q () s') (hf : X.fn x = true \/ X.env.scope.names.lookup x = some .local := by first | exact .inl rfl | exact .inr rfl | assumption) : wpAny M A (storeName X.env x u) Q E s := by
 obtain ⟨m, hn, hl⟩ := id I.loc
 have hcls : (X.env.scope.kind == .class || (X.env.scope.kind == .module && X.env.locals != X.env.globals)) = false := by rw [I.ok.kind]; rfl
 have hiσ : i < Z.length := by rw [I.len]; exact (List.getElem?_eq_some_iff.mp hi).1
 have cne := I.cne
 have tracked : ∀ {a : Addr} {h' : Heap}, (∃ o, s.heap.get? a = some o /\ H a = none) -> Heap.SameBut a s.heap h' -> HOk X.prog X.w H h' := fun {a h'} ha hs b ob e => by
   obtain ⟨_, _, hfree⟩ := ha; refine (I.hok b ob e).stay (fun c w' hc q => (hs.2 c ?_).trans q) (fun _ q => q) fun _ _ q => q
   rintro rfl
   rcases hc with rfl | hc
   . rw [hfree] at e; cases e
   . rw [hfree] at hc; cases hc
 rcases hx with hk | hk
 . refine wpAny_storeName_local hk hn (fun h' hn' hs => ?_) hcls
   obtain ⟨oL, _, _, hoL, _⟩ := id hn; refine h _ ⟨I.ok, I.os, I.bare, ⟨fun b o e n hb hx => ?_, fun b o e n hb hx => ?_, I.base.free, fun b o e hx => ?_, I.base.tups, I.base.frzs, I.base.tbls⟩, ⟨_, hn', fun j y v' e1 e2 e3 => ?_⟩, fun y c e => ?_, I.free, I.freeC, fun p hp => ?_, tracked ⟨oL, hoL, I.free⟩ hs, by simpa using I.len⟩ ⟨_, hs, .inl rfl⟩
   . exact (hs.2 b (Nat.ne_of_lt (Nat.lt_of_lt_of_le (Heap.lt_size e) I.ok.above))).trans (I.base.keep b o e n hb hx)
   . obtain ⟨sl, e1⟩ := I.base.slot b o e n hb hx
     exact ⟨sl, (hs.2 b (Nat.ne_of_lt (Nat.lt_of_lt_of_le (Heap.lt_size e) I.ok.above))).trans e1⟩
   . obtain ⟨o', e1⟩ := I.base.there b o e hx
     exact ⟨o', (hs.2 b (Nat.ne_of_lt (Nat.lt_of_lt_of_le (Heap.lt_size e) I.ok.above))).trans e1⟩
   . by_cases hj : j = i
     . subst hj
       rw [hi] at e1; cases e1
       rw [List.getElem?_set_self hiσ] at e2; cases e2; exact ⟨u, r, .inl ⟨hk, by simp⟩⟩
     . rw [List.getElem?_set_ne (Ne.symm hj)] at e2
       obtain ⟨u', r', q⟩ := hl j y v' e1 e2 e3; refine ⟨u', r', ?_⟩; rcases q with ⟨k, e⟩ | ⟨k, c, e, z⟩
       . refine .inl ⟨k, ?_⟩
         have : y ≠ x := fun e => hj (Ow hN e1 (e ▸ hi))
         simp [this, e]
       . exact .inr ⟨k, c, e, z.sameBut hs (cne y c e)⟩
   . obtain ⟨w', z⟩ := I.cell y c e
     exact ⟨w', z.sameBut hs (cne y c e)⟩
   . obtain ⟨e, n, ne, nf, d⟩ := I.pin p hp
     exact ⟨(hs.2 p.1 ne).trans e, n, ne, nf, d⟩
 . have hfn : X.fn x = true := by
     rcases hf with z | z
     . exact z
     . rw [z] at hk; cases hk
   obtain ⟨c, hc⟩ := I.ok.has x (.inl hk); obtain ⟨w', z⟩ := I.cell x c hc; refine wpAny_storeName_cell I.ok.kind hk hc z (fun h' hc' hs => ?_)
   obtain ⟨oc, hoc, hocd⟩ := id z; refine h { s with heap := h' } ⟨I.ok, I.os, I.bare, ⟨fun b o e n hb hx => ?_, fun b o e n hb hx => ?_, I.base.free, fun b o e hx => ?_, I.base.tups, I.base.frzs, I.base.tbls⟩, ⟨m, hn.sameBut hs (Ne.symm (cne x c hc)), fun j y v' e1 e2 e3 => ?_⟩, fun y c' e => ?_, I.free, I.freeC, fun p hp => ?_, tracked ⟨oc, hoc, I.freeC x c hc⟩ hs, by simpa using I.len⟩ ⟨c, hs, .inr hc⟩
   . exact (hs.2 b (Nat.ne_of_lt (Nat.lt_of_lt_of_le (Heap.lt_size e) (I.ok.cab x c hfn hc)))).trans (I.base.keep b o e n hb hx)
   . obtain ⟨sl, e1⟩ := I.base.slot b o e n hb hx
     exact ⟨sl, (hs.2 b (Nat.ne_of_lt (Nat.lt_of_lt_of_le (Heap.lt_size e) (I.ok.cab x c hfn hc)))).trans e1⟩
   . obtain ⟨o', e1⟩ := I.base.there b o e hx
     exact ⟨o', (hs.2 b (Nat.ne_of_lt (Nat.lt_of_lt_of_le (Heap.lt_size e) (I.ok.cab x c hfn hc)))).trans e1⟩
   . by_cases hj : j = i
     . subst hj
       rw [hi] at e1; cases e1
       rw [List.getElem?_set_self hiσ] at e2; cases e2; exact ⟨u, r, .inr ⟨.inl hk, c, hc, hc'⟩⟩
     . rw [List.getElem?_set_ne (Ne.symm hj)] at e2
       obtain ⟨u', r', q⟩ := hl j y v' e1 e2 e3; refine ⟨u', r', ?_⟩; rcases q with q | ⟨k, c', e, z'⟩
       . exact .inl q
       . refine .inr ⟨k, c', e, z'.sameBut hs ?_⟩
         rintro rfl
         exact hj (Ow hN e1 (I.ok.inj _ _ _ e hc ▸ hi))
   . by_cases hcc : c' = c
     . subst hcc; exact ⟨_, hc'⟩
     . obtain ⟨w2, z2⟩ := I.cell y c' e
       exact ⟨w2, z2.sameBut hs hcc⟩
   . obtain ⟨e, n, ne, nf, d⟩ := I.pin p hp
     refine ⟨(hs.2 p.1 ?_).trans e, n, ne, nf, d⟩; intro q; rw [q, hoc] at e; have q' : oc = p.2 := Option.some.inj e; exact d w' (by rw [<- q']; exact hocd)
theorem Hs {M : Model} {A : Around} {E : Value -> Shared -> Prop} {i : Nat} {x : Str} {v : V} {u : Value} {Q : Unit -> Shared -> Prop} (I : Inv X pins Z H s) (hN : X.N.Nodup) (hi : X.N[i]? = some x) (hx : Loc X.env.scope x) (r : RelV v u)
   (h : ∀ s', Inv X pins (Z.set i (some v)) H s' -> Q () s') (hf : X.fn x = true \/ X.env.scope.names.lookup x = some .local := by first | exact .inl rfl | exact .inr rfl | assumption) : wpAny M A (storeName X.env x u) Q E s :=
 Eb I hN hi hx r (fun s' I' _ => h s' I') hf
theorem Inv.call' {s' : Shared} {ch : List Addr} (I : Inv X pins Z H s) (ho : s'.os = s.os) (u : Un (frs X.stack) ch H H' s.heap s'.heap) (hok : HOk X.prog X.w H' s'.heap) (hg : AllBare s'.gens)
   (hch : ∀ b ∈ ch, (b ∈ X.ex \/ X.s₀.heap.objs.size <= b) /\ b ≠ X.env.locals /\ (∀ x c, X.env.cells.lookup x = some c -> c ≠ b) /\ ∀ p ∈ X.pn ++ pins, p.1 ≠ b) : Inv X pins Z H' s' := by
 obtain ⟨h', g', d', t', o'⟩ := s'
 have e : o' = s.os := ho
 subst e
 exact I.call (g' := g') (t' := t') (d' := d') u hok hg hch
end
abbrev XK := Value -> Option Addr -> Hp -> Prop
abbrev St := List (Option V)
abbrev VK := V -> Hp -> Prop
abbrev TE := St -> Hp -> VK -> Prop
abbrev TT := St -> Hp -> (Bool -> Hp -> Prop) -> Prop
abbrev TA := St -> Hp -> (List V -> Hp -> Prop) -> Prop
structure Ends where
 nx : St -> Hp -> Prop
 rt : VK
 bk : St -> Hp -> Prop := fun _ _ => False
 ct : St -> Hp -> Prop := fun _ _ => False
abbrev TS := Ends -> St -> Hp -> Prop
def EP (X : Cx) (pins : List (Addr × Obj)) (Z : St) (Q : VK) (u : Value) (s' : Shared) : Prop := ∃ v H', Inv X pins Z H' s' /\ RelV v u /\ Q v H'
def TP (X : Cx) (pins : List (Addr × Obj)) (Z : St) (Q : Bool -> Hp -> Prop) (b : Bool) (s' : Shared) : Prop := ∃ H', Inv X pins Z H' s' /\ Q b H'
def AP (X : Cx) (pins : List (Addr × Obj)) (Z : St) (Q : List V -> Hp -> Prop) (us : List Value) (s' : Shared) : Prop := ∃ vs H', Inv X pins Z H' s' /\ Vals vs us /\ Q vs H'
def SP (X : Cx) (pins : List (Addr × Obj)) (D : Ends) (f : Flow) (s' : Shared) : Prop :=
 match f with
 | .next => ∃ Z' H', Inv X pins Z' H' s' /\ D.nx Z' H'
 | .brk => ∃ Z' H', Inv X pins Z' H' s' /\ D.bk Z' H'
 | .cont => ∃ Z' H', Inv X pins Z' H' s' /\ D.ct Z' H'
 | .ret u => ∃ v Z' H', Inv X pins Z' H' s' /\ RelV v u /\ D.rt v H'
def PE (X : Cx) (e : Expr) (t : TE) : Prop :=
 ∀ (pins : List (Addr × Obj)) (s : Shared) (Z : St) (H : Hp) (Q : VK), Inv X pins Z H s -> t Z H Q -> wpAny (model X.prog X.w) X.A (eval e X.env) (EP X pins Z Q) X.xe s
def PT (X : Cx) (e : Expr) (t : TT) : Prop :=
 ∀ (pins : List (Addr × Obj)) (s : Shared) (Z : St) (H : Hp) (Q : Bool -> Hp -> Prop), Inv X pins Z H s -> t Z H Q -> wpAny (model X.prog X.w) X.A (isTrue e X.env (eval e X.env)) (TP X pins Z Q) X.xe s
def PW (X : Cx) (e : Expr) (t : TT) : Prop :=
 ∀ (whole : Sem Value) (pins : List (Addr × Obj)) (s : Shared) (Z : St) (H : Hp) (Q : Bool -> Hp -> Prop), Inv X pins Z H s -> t Z H Q -> wpAny (model X.prog X.w) X.A (isTrue e X.env whole) (TP X pins Z Q) X.xe s
theorem PW.pt {X : Cx} {e : Expr} {t : TT} (h : PW X e t) : PT X e t := h _
def PA (X : Cx) (es : List Expr) (t : TA) : Prop :=
 ∀ (pos : Pos) (pins : List (Addr × Obj)) (s : Shared) (Z : St) (H : Hp) (Q : List V -> Hp -> Prop), Inv X pins Z H s -> t Z H Q -> wpAny (model X.prog X.w) X.A (spliced (backTo pos (starEach es X.env))) (AP X pins Z Q) X.xe s
def PS (X : Cx) (st : Stmt) (t : TS) : Prop :=
 ∀ (pins : List (Addr × Obj)) (s : Shared) (Z : St) (H : Hp) (D : Ends), Inv X pins Z H s -> t D Z H -> wpAny (model X.prog X.w) X.A (exec st X.env) (SP X pins D) X.xe s
def PSs (X : Cx) (st : List Stmt) (t : TS) : Prop :=
 ∀ (pins : List (Addr × Obj)) (s : Shared) (Z : St) (H : Hp) (D : Ends), Inv X pins Z H s -> t D Z H -> wpAny (model X.prog X.w) X.A (execs st X.env) (SP X pins D) X.xe s
theorem thn {α : Type} {t : Sem α} {Q Q' : α -> Shared -> Prop} {M : Model} {A : Around} {E : Value -> Shared -> Prop} {s : Shared} (h : wpAny M A t Q E s) (hQ : ∀ a s, Q a s -> Q' a s) : wpAny M A t Q' E s := wpAny_mono h hQ fun _ _ x => x
end L2
namespace L2
open PySem PySem.Spec PyProof.Rows
section
variable {X : Cx}
theorem bin {a b : Expr} {ta tb : TE} (ha : PE X a ta) (hb : PE X b tb) {pins : List (Addr × Obj)} {s : Shared} {Z : St} {H : Hp} {R : V -> V -> Hp -> Prop} (I : Inv X pins Z H s) (h : ta Z H fun x H1 => tb Z H1 fun y H2 => R x y H2)
   {α : Type} {Q : α -> Shared -> Prop} {f : Value -> Value -> Sem α}
   (hf : ∀ v u s2 x y H2, Inv X pins Z H2 s2 -> RelV x v -> RelV y u -> R x y H2 -> wpAny (model X.prog X.w) X.A (f v u) Q X.xe s2) :
   wpAny (model X.prog X.w) X.A (eval a X.env) (fun v s₁ => wpAny (model X.prog X.w) X.A (eval b X.env) (fun u s₂ => wpAny (model X.prog X.w) X.A (f v u) Q X.xe s₂) X.xe s₁) X.xe s := by
 refine thn (ha pins s Z H _ I h) fun v s1 ⟨x, H1, I1, r1, q1⟩ => ?_
 refine thn (hb pins s1 Z H1 _ I1 q1) fun u s2 ⟨y, H2, I2, r2, q2⟩ => ?_
 exact hf v u s2 x y H2 I2 r1 r2 q2
def Dy (i : Nat) : TE := fun Z H Q => ∃ v, Z[i]? = some (some v) /\ Q v H
def tC (v : V) : TE := fun _ H Q => Q v H
theorem Cg {i : Nat} {x : Str} {pos : Pos} (hN : X.N[i]? = some x) (hv : Vis X.env.scope x) (hd : (x == ("__debug__" : Str)) = false := by decide) (hcd : (x == ("__classdict__" : Str)) = false := by decide) : PE X (.Name x pos) (Dy i) := by
 intro pins s Z H Q I h
 obtain ⟨v, e, h⟩ := h
 obtain ⟨m, hn, hl⟩ := I.loc
 obtain ⟨u, r, l⟩ := hl i x v hN e hv
 have fin : EP X pins Z Q u s := ⟨v, H, I, r, h⟩
 rcases l with ⟨hk, hm⟩ | ⟨hk, c, hc, hcell⟩
 . exact wpAny_Name (wpAny_loadName_local I.ok.kind hk hn hm fin) hd
 . rcases hk with hk | hk
   . exact wpAny_Name (wpAny_loadName_cell I.ok.kind hk hc hcell fin) hd
   . exact wpAny_Name (wpAny_loadName_free I.ok.kind hk hc hcell fin hcd) hd
theorem Mx {i j pos} : PE X (.Constant (.int i) j pos) (tC (.int i)) := fun _ _ _ H _ I h => wpAny_Constant_int ⟨.int i, H, I.tok _, ⟨_, rfl⟩, h⟩
theorem Yu {b j pos} : PE X (.Constant (.bool b) j pos) (tC (.bl b)) := fun _ _ _ H _ I h => Constant_bool ⟨.bl b, H, I, rfl, h⟩
theorem gT {j pos} : PE X (.Constant .none j pos) (tC .non) := fun _ _ _ H _ I h => Constant_none ⟨.non, H, I, rfl, h⟩
theorem Mw {x j pos} : PE X (.Constant (.str x) j pos) (tC (.str x)) := fun _ _ _ H _ I h => Calls.Constant_str ⟨.str x, H, I.tok _, ⟨_, rfl⟩, h⟩
def Gl (X : Cx) (x : Str) : Prop := X.env.kindOf x = some .globalImplicit
theorem Dk {E : Value -> Shared -> Prop} {pins : List (Addr × Obj)} {s : Shared} {Z : St} {H : Hp} {x : Str} {u : Value} {pos : Pos} {Q : Value -> Shared -> Prop} (I : Inv X pins Z H s) (hg : Gl X x) (hm : X.mg x = some u) (h : Q u s)
   (hd : (x == ("__debug__" : Str)) = false := by decide) : wpAny (model X.prog X.w) X.A (eval (.Name x pos) X.env) Q E s :=
 Calls.Name_function_global I.ok.kind hg (Calls.loadGlobal_global (by rw [I.ok.glob]; exact I.mod.glob.keeps I.bk) hm h) hd
theorem Ci {E : Value -> Shared -> Prop} {pins : List (Addr × Obj)} {s : Shared} {Z : St} {H : Hp} {x : Str} {u : Value} {pos : Pos} {Q : Value -> Shared -> Prop} (I : Inv X pins Z H s) (hg : Gl X x) (hm : X.mg x = none) (hv : bootBuiltins x = some u) (h : Q u s)
   (hn : x ≠ "__name__" := by decide) (hd : (x == ("__debug__" : Str)) = false := by decide) : wpAny (model X.prog X.w) X.A (eval (.Name x pos) X.env) Q E s := by
 obtain ⟨mb, h1, h2⟩ := I.mod.blt
 exact Calls.Name_function_global I.ok.kind hg (Calls.loadGlobal_builtin (by rw [I.ok.glob]; exact I.mod.glob.keeps I.bk) hm (by rw [I.ok.blt]; exact h1.keeps I.bk) ((h2 x hn).trans hv) h) hd
theorem My {x : Str} {v : V} {u : Value} {pos : Pos} (hg : Gl X x) (hm : X.mg x = some u) (r : RelV v u) (hd : (x == ("__debug__" : Str)) = false := by decide) : PE X (.Name x pos) (tC v) :=
 fun _ _ _ H _ I h => Dk I hg hm ⟨v, H, I, r, h⟩ hd
theorem cK {x : Str} {v : V} {u : Value} {pos : Pos} (hg : Gl X x) (hm : X.mg x = none) (hv : bootBuiltins x = some u) (r : RelV v u) (hn : x ≠ "__name__" := by decide) (hd : (x == ("__debug__" : Str)) = false := by decide) : PE X (.Name x pos) (tC v) :=
 fun _ _ _ H _ I h => Ci I hg hm hv ⟨v, H, I, r, h⟩ hn hd
variable {a b : Expr} {ta tb : TE} {pos : Pos}
def PC (X : Cx) (op : CmpOp) (a b : Expr) (t : TE) : Prop :=
 ∀ (pins : List (Addr × Obj)) (s : Shared) (Z : St) (H : Hp) (Q : VK), Inv X pins Z H s -> t Z H Q ->
   wpAny (model X.prog X.w) X.A (eval a X.env) (fun v s₁ => wpAny (model X.prog X.w) X.A (eval b X.env) (fun u s₂ => wpAny (model X.prog X.w) X.A (compareOp op v u) (EP X pins Z Q) X.xe s₂) X.xe s₁) X.xe s
theorem Zf (b : Expr) {op : CmpOp} (h : op ≠ .In) (h2 : op ≠ .NotIn) : behindInMarks op b = false := by
 have e1 : (op == CmpOp.In) = false := by cases op <;> first | rfl | exact absurd rfl h
 have e2 : (op == CmpOp.NotIn) = false := by cases op <;> first | rfl | exact absurd rfl h2
 cases b <;> simp [behindInMarks, e1, e2]
def tNotN (ta : TE) : TE := fun Z H Q => ta Z H fun x H1 => Q (.bl (!decide (x = .non))) H1
theorem RelV.none_iff {x : V} {v : Value} (r : RelV x v) : (v == Value.none) = decide (x = .non) := by
 cases x with
 | non => cases r; rfl
 | bl _ => cases r; rfl
 | int _ => obtain ⟨t, rfl⟩ := r; rfl
 | str _ => obtain ⟨t, rfl⟩ := r; rfl
 | byt _ => obtain ⟨t, rfl⟩ := r; rfl
 | flt _ => obtain ⟨t, rfl⟩ := r; rfl
 | ref _ => cases r; rfl
 | ty _ => cases r; rfl
theorem cL {j pos'} (ha : PE X a ta) : PC X .IsNot a (.Constant .none j pos') (tNotN ta) := by
 intro pins s Z H Q I h
 refine thn (ha pins s Z H _ I h) fun v s1 ⟨x, H1, I1, r1, q1⟩ => ?_
 exact Constant_none (isnot_none_gen ⟨.bl _, H1, I1, by rw [r1.none_iff]; rfl, q1⟩)
def tB (t : TE) : TT := fun Z H Q => t Z H fun x H1 => ∃ c, x = .bl c /\ Q c H1
theorem Qu {op : CmpOp} {t : TE} (h : PC X op a b t) (h1 : behindInMarks op b = false := by first | exact Zf _ (by decide) (by decide) | rfl) : PT X (.Compare a [op] [b] pos) (tB t) := by
 intro pins s Z H Q I hw
 refine wpAny_isTrue_Compare1 (thn (h pins s Z H _ I hw) fun v s1 h1 => thn h1 fun u s2 h2 => thn h2 fun c s3 ⟨x, H1, I1, r1, q1⟩ => ?_) h1
 obtain ⟨d, rfl, q⟩ := q1
 cases r1
 exact wpAny_truthy_bool ⟨H1, I1, q⟩
theorem gN {e : Expr} {t : TE} (h : PE X e t) (he : ∀ whole, isTrue e X.env whole = (do let v <- whole; standAt e.pos; holding [v] (truthy v)) := by intro _; rfl) : PT X e (tB t) := by
 intro pins s Z H Q I hw
 refine isTrue_plain (thn (h pins s Z H _ I hw) fun v s1 ⟨x, H1, I1, r1, q1⟩ => ?_) (he _)
 obtain ⟨d, rfl, q⟩ := q1
 cases r1
 exact wpAny_truthy_bool ⟨H1, I1, q⟩
variable {tA tB' : TT} {Q8 : List Expr}
def tAnd (t u : TT) : TT := fun Z H Q => t Z H fun c H1 => if c = true then u Z H1 Q else Q false H1
def tOr (t u : TT) : TT := fun Z H Q => t Z H fun c H1 => if c = true then Q true H1 else u Z H1 Q
def tNot (t : TT) : TT := fun Z H Q => t Z H fun c H1 => Q (!c) H1
theorem bZ (ha : PT X a tA) : PW X (.BoolOp .And [a] pos) tA := by
 intro wh pins s Z H Q I h
 refine isTrue_and (thn (ha pins s Z H Q I h) fun c s1 e => ?_)
 cases c with
 | true => exact isTrue_and_nil e
 | false => exact e
theorem Yi (ha : PT X a tA) : PW X (.BoolOp .Or [a] pos) tA := by
 intro wh pins s Z H Q I h
 refine isTrue_or (thn (ha pins s Z H Q I h) fun c s1 e => ?_)
 cases c with
 | false => exact isTrue_or_nil e
 | true => exact e
theorem gJ (ha : PT X a tA) (hb : PW X (.BoolOp .And (b :: Q8) pos) tB') : PW X (.BoolOp .And (a :: b :: Q8) pos) (tAnd tA tB') := by
 intro wh pins s Z H Q I h
 refine isTrue_and (thn (ha pins s Z H _ I h) fun c s1 ⟨H1, I1, q1⟩ => ?_)
 cases c with
 | true => exact hb wh pins s1 Z H1 Q I1 q1
 | false => exact ⟨H1, I1, q1⟩
theorem eW (ha : PT X a tA) (hb : PW X (.BoolOp .Or (b :: Q8) pos) tB') : PW X (.BoolOp .Or (a :: b :: Q8) pos) (tOr tA tB') := by
 intro wh pins s Z H Q I h
 refine isTrue_or (thn (ha pins s Z H _ I h) fun c s1 ⟨H1, I1, q1⟩ => ?_)
 cases c with
 | true => exact ⟨H1, I1, q1⟩
 | false => exact hb wh pins s1 Z H1 Q I1 q1
theorem gO (ha : PT X a tA) : PT X (.UnaryOp .Not a pos) (tNot tA) := by
 intro pins s Z H Q I h
 exact isTrue_not (ha pins s Z H (fun c H1 => Q (!c) H1) I h)
def tAndV (ta tb : TE) : TE := fun Z H Q => ta Z H fun x H1 => ∃ c, x = .bl c /\ if c = true then tb Z H1 Q else Q (.bl false) H1
theorem gS {op} {t : TE} (h : PE X a t) : PE X (.BoolOp op [a] pos) t := fun pins s Z H Q I hw => BoolOp_one (h pins s Z H Q I hw)
theorem gU (ha : PE X a ta) (hb : PE X (.BoolOp .And (b :: Q8) pos) tb) : PE X (.BoolOp .And (a :: b :: Q8) pos) (tAndV ta tb) := by
 intro pins s Z H Q I h
 refine BoolOp_and (thn (ha pins s Z H _ I h) fun v s1 ⟨x, H1, I1, r1, q1⟩ => ?_)
 obtain ⟨c, rfl, q1⟩ := q1
 cases r1
 refine wpAny_truthy_bool ?_
 cases c with
 | true => exact hb pins s1 Z H1 Q I1 q1
 | false => exact ⟨.bl false, H1, I1, rfl, q1⟩
def tIf (t : TT) (ta tb : TE) : TE := fun Z H Q => t Z H fun c H1 => if c = true then ta Z H1 Q else tb Z H1 Q
theorem Yr {c : Expr} (hc : PT X c tA) (ha : PE X a ta) (hb : PE X b tb) : PE X (.IfExp c a b pos) (tIf tA ta tb) := by
 intro pins s Z H Q I h
 refine wpAny_IfExp (thn (hc pins s Z H _ I h) fun d s1 ⟨H1, I1, q1⟩ => ?_)
 cases d with
 | true => exact ha pins s1 Z H1 Q I1 q1
 | false => exact hb pins s1 Z H1 Q I1 q1
end
end L2
namespace L2
open PySem PySem.Spec PyProof.Rows
def SqL (K : PySem.W.Frag) (H : Hp) (a : Addr) (xs : List V) : Prop :=
 Rd H a (.lst xs) \/
   ∃ (o : Obj) (its : Array Value) (n : Nat), K.lookup a = some o /\ o.cls = .type "list" /\ o.dict = none /\ o.data = .seq its n /\ its.size <= sizeLine /\ Vals xs its.toList
def SqT (K : PySem.W.Frag) (H : Hp) (a : Addr) (xs : List V) : Prop :=
 Rd H a (.tup xs) \/
   ∃ (o : Obj) (its : Array Value) (n : Nat), K.lookup a = some o /\ o.cls = .type "tuple" /\ o.data = .seq its n /\ its.size <= sizeLine /\ Vals xs its.toList
def absV : Value -> Option V
 | .none => some .non
 | .bool b => some (.bl b)
 | .int i _ => some (.int i)
 | .str x _ => some (.str x)
 | .bytes b _ => some (.byt b)
 | .float b _ => some (.flt b)
 | .ref a => some (.ref a)
 | .type n => some (.ty n)
 | _ => none
theorem RelV.abs {x : V} {u : Value} (r : RelV x u) : absV u = some x := by
 cases x with
 | non => cases r; rfl
 | bl _ => cases r; rfl
 | int _ => obtain ⟨t, rfl⟩ := r; rfl
 | str _ => obtain ⟨t, rfl⟩ := r; rfl
 | byt _ => obtain ⟨t, rfl⟩ := r; rfl
 | flt _ => obtain ⟨t, rfl⟩ := r; rfl
 | ref _ => cases r; rfl
 | ty _ => cases r; rfl
theorem RelV.inj {x y : V} {u : Value} (r : RelV x u) (q : RelV y u) : x = y := Option.some.inj (r.abs.symm.trans q.abs)
theorem Vals.inj : ∀ {xs ys : List V} {us : List Value}, Vals xs us -> Vals ys us -> xs = ys
 | _, _, _, .nil, .nil => rfl
 | _, _, _, .cons r t, .cons r' t' => by rw [r.inj r', Vals.inj t t']
section
variable {X : Cx} {pins : List (Addr × Obj)} {Z : St} {H : Hp} {s : Shared} {a : Addr} {xs ys : List V}
theorem Inv.list (I : Inv X pins Z H s) (h : SqL X.K H a xs) : ∃ its : List Value, Vals xs its /\ PlainL s.heap a its.toArray /\ xs.length <= sizeLine := by
 rcases h with h | ⟨o, its, n, hk, hc, hd, hs, hz, r⟩
 . obtain ⟨z, its, n, r, e⟩ := h.ok I.hok
   exact ⟨its, r, ⟨_, n, e, rfl, rfl, rfl⟩, z⟩
 . refine ⟨its.toList, r, ⟨o, n, I.kIn a o hk, hc, hd, by simpa using hs⟩, ?_⟩
   have e := r.length; simp only [Array.length_toList] at e; omega
theorem Inv.tuple (I : Inv X pins Z H s) (h : SqT X.K H a xs) : ∃ its : List Value, Vals xs its /\ IsTup s.heap a its.toArray /\ xs.length <= sizeLine := by
 rcases h with h | ⟨o, its, n, hk, hc, hs, hz, r⟩
 . obtain ⟨z, its, r, p⟩ := h.ok I.hok
   exact ⟨its, r, p, z⟩
 . refine ⟨its.toList, r, ⟨o, I.kIn a o hk, hc, n, by simpa using hs⟩, ?_⟩
   have e := r.length; simp only [Array.length_toList] at e; omega
theorem Inv.list_inj (I : Inv X pins Z H s) (h : SqL X.K H a xs) (h' : SqL X.K H a ys) : xs = ys := by
 obtain ⟨its, r, ⟨o, n, e, _, _, d⟩, _⟩ := I.list h
 obtain ⟨its', r', ⟨o', n', e', _, _, d'⟩, _⟩ := I.list h'
 rw [e] at e'; cases e'
 rw [d] at d'
 injection d' with d1 _
 have : its = its' := by simpa using congrArg Array.toList d1
 subst this
 exact r.inj r'
theorem Inv.tuple_inj (I : Inv X pins Z H s) (h : SqT X.K H a xs) (h' : SqT X.K H a ys) : xs = ys := by
 obtain ⟨its, r, ⟨o, e, _, n, d⟩, _⟩ := I.tuple h
 obtain ⟨its', r', ⟨o', e', _, n', d'⟩, _⟩ := I.tuple h'
 rw [e] at e'; cases e'
 rw [d] at d'
 injection d' with d1 _
 have : its = its' := by simpa using congrArg Array.toList d1
 subst this
 exact r.inj r'
end
abbrev Cx.wish (X : Cx) (E : Value -> Shared -> Prop) : Cx := { X with xe := E }
abbrev Cx.nox (X : Cx) : Cx := X.wish fun _ _ => False
theorem Cx.Ok.wish {X : Cx} (ok : X.Ok) (E : Value -> Shared -> Prop) : (X.wish E).Ok :=
 ⟨ok.mod, ok.kind, ok.glob, ok.blt, ok.above, ok.inj, ok.has, ok.cab, ok.hd, ok.frames, ok.stk, ok.exf, ok.bs, ok.bsz, ok.noex, ok.exfs, ok.funs, ok.frf⟩
theorem Cx.Ok.unwish {X : Cx} {E : Value -> Shared -> Prop} (ok : (X.wish E).Ok) : X.Ok :=
 ⟨ok.mod, ok.kind, ok.glob, ok.blt, ok.above, ok.inj, ok.has, ok.cab, ok.hd, ok.frames, ok.stk, ok.exf, ok.bs, ok.bsz, ok.noex, ok.exfs, ok.funs, ok.frf⟩
section
variable {X : Cx} {pins : List (Addr × Obj)} {Z : St} {H : Hp} {s : Shared} {E : Value -> Shared -> Prop}
theorem Inv.wish (I : Inv X pins Z H s) (E : Value -> Shared -> Prop) : Inv (X.wish E) pins Z H s := ⟨I.ok.wish E, I.os, I.bare, I.base, I.loc, I.cell, I.free, I.freeC, I.pin, I.hok, I.len⟩
theorem Inv.unwish (I : Inv (X.wish E) pins Z H s) : Inv X pins Z H s := ⟨I.ok.unwish, I.os, I.bare, I.base, I.loc, I.cell, I.free, I.freeC, I.pin, I.hok, I.len⟩
theorem SP.unwish {D : Ends} {f : Flow} {s' : Shared} (h : SP (X.wish E) pins D f s') : SP X pins D f s' := by
 cases f with
 | next => obtain ⟨Z', H', I, q⟩ := h; exact ⟨Z', H', I.unwish, q⟩
 | brk => obtain ⟨Z', H', I, q⟩ := h; exact ⟨Z', H', I.unwish, q⟩
 | cont => obtain ⟨Z', H', I, q⟩ := h; exact ⟨Z', H', I.unwish, q⟩
 | ret u => obtain ⟨v, Z', H', I, r, q⟩ := h; exact ⟨v, Z', H', I.unwish, r, q⟩
theorem PSs.nox {st : List Stmt} {t : TS} (h : PSs X.nox st t) : PSs X st t := fun pins s Z H D I hw =>
 wpAny_mono (h pins s Z H D (I.wish _) hw) (fun _ _ q => q.unwish) fun _ _ z => False.elim z
end
section
variable {X : Cx} {st : Stmt} {Q8 : List Stmt} {t u : TS} {e : Expr} {te : TE} {pos : Pos}
def tNext : TS := fun D Z H => D.nx Z H
def tSeq (t u : TS) : TS := fun D Z H => t { D with nx := u D } Z H
theorem Mv : PSs X [] tNext := fun _ _ Z H _ I h => wpAny_execs_nil ⟨Z, H, I, h⟩
theorem S8 (h1 : PS X st t) (h2 : PSs X Q8 u) : PSs X (st :: Q8) (tSeq t u) := by
 intro pins s Z H D I h
 refine wpAny_execs_cons (thn (h1 pins s Z H { D with nx := u D } I h) fun f s1 q => ?_)
 cases f with
 | next =>
   obtain ⟨Z', H', I', q⟩ := q; exact h2 pins s1 Z' H' D I' q
 | ret v => exact q
 | brk => exact q
 | cont => exact q
theorem Ah (h1 : PS X st t) : PSs X [st] t := by
 intro pins s Z H D I h
 refine wpAny_execs_cons (thn (h1 pins s Z H D I h) fun f s1 q => ?_)
 cases f with
 | next => exact wpAny_execs_nil q
 | ret v => exact q
 | brk => exact q
 | cont => exact q
theorem Inv.quiet {pins : List (Addr × Obj)} {Z : St} {H : Hp} {s : Shared} (I : Inv X pins Z H s) : interactive X.env = false := by simp [interactive, I.ok.kind]
def eO (te : TE) : TS := fun D Z H => te Z H fun _ H1 => D.nx Z H1
theorem Gn (he : PE X e te) (hs : swapsWith e none pos.line X.env = pure false := by rfl) : PS X (.Expr e pos) (eO te) := by
 intro pins s Z H D I h
 exact wpAny_Expr_any (thn (he pins s Z H _ I h) fun v s1 ⟨x, H1, I1, r1, q1⟩ => ⟨Z, H1, I1, q1⟩) I.quiet hs
def tRet (te : TE) : TS := fun D Z H => te Z H D.rt
theorem Iu (he : PE X e te) : PS X (.Return (some e) pos) (tRet te) := by
 intro pins s Z H D I h
 exact wpAny_Return_some (thn (he pins s Z H _ I h) fun v s1 ⟨x, H1, I1, r1, q1⟩ => ⟨x, Z, H1, I1, r1, q1⟩)
def tIfS (c : TT) (t u : TS) : TS := fun D Z H => c Z H fun b H1 => if b = true then t D Z H1 else u D Z H1
theorem Yl {c : Expr} {a b : List Stmt} {tc : TT} (hc : PT X c tc) (ha : PSs X a t) (hb : PSs X b u) : PS X (.If c a b pos) (tIfS tc t u) := by
 intro pins s Z H D I h
 refine wpAny_If (thn (hc pins s Z H _ I h) fun d s1 ⟨H1, I1, q1⟩ => ?_)
 cases d with
 | true => exact ha pins s1 Z H1 D I1 q1
 | false => exact hb pins s1 Z H1 D I1 q1
end
abbrev TG := V -> St -> Hp -> (St -> Hp -> Prop) -> Prop
abbrev TGs := List V -> St -> Hp -> (St -> Hp -> Prop) -> Prop
def PG (X : Cx) (target : Expr) (t : TG) : Prop :=
 ∀ (pins : List (Addr × Obj)) (s : Shared) (Z : St) (H : Hp) (v : V) (u : Value) (Q : St -> Hp -> Prop), Inv X pins Z H s -> RelV v u -> t v Z H Q ->
   wpAny (model X.prog X.w) X.A (assign target X.env u) (fun _ s' => ∃ Z' H', Inv X pins Z' H' s' /\ Q Z' H') X.xe s
def PGs (X : Cx) (ts : List Expr) (t : TGs) : Prop :=
 ∀ (pins : List (Addr × Obj)) (s : Shared) (Z : St) (H : Hp) (vs : List V) (us : List Value) (Q : St -> Hp -> Prop), Inv X pins Z H s -> Vals vs us -> t vs Z H Q ->
   wpAny (model X.prog X.w) X.A (assignInOrder ((assignEach ts X.env).map (·.2)) us) (fun _ s' => ∃ Z' H', Inv X pins Z' H' s' /\ Q Z' H') X.xe s
section
variable {X : Cx} {pos : Pos}
def X2 (i : Nat) : TG := fun v Z H Q => Q (Z.set i (some v)) H
theorem Bm {i : Nat} {x : Str} (hN : X.N.Nodup) (hi : X.N[i]? = some x) (hx : Loc X.env.scope x) (hf : X.fn x = true \/ X.env.scope.names.lookup x = some .local := by first | exact .inl rfl | exact .inr rfl | assumption) : PG X (.Name x pos) (X2 i) := by
 intro pins s Z H v u Q I r h
 exact wpAny_assign_Name (Hs I hN hi hx r (fun s' I' => ⟨_, H, I', h⟩) hf)
def iQ : TGs := fun vs Z H Q => vs = [] /\ Q Z H
def Pi (t : TG) (u : TGs) : TGs := fun vs Z H Q => ∃ v r, vs = v :: r /\ t v Z H fun Z' H' => u r Z' H' Q
theorem cH : PGs X [] iQ := by
 intro pins s Z H vs us Q I r h
 obtain ⟨e, h⟩ := h
 subst e
 cases r
 exact assignInOrder_nil ⟨Z, H, I, h⟩
theorem Ov {e : Expr} {es : List Expr} {t : TG} {u : TGs} (h1 : PG X e t) (h2 : PGs X es u)
   (hs : (assignEach (e :: es) X.env).map (·.2) = assign e X.env :: (assignEach es X.env).map (·.2) := by rfl) : PGs X (e :: es) (Pi t u) := by
 intro pins s Z H vs us Q I r h
 obtain ⟨v, vr, e1, h⟩ := h
 subst e1
 cases r with
 | cons r rr =>
   rw [hs]; refine assignInOrder_cons (thn (h1 pins s Z H _ _ _ I r h) fun _ s1 ⟨Z1, H1, I1, q1⟩ => ?_)
   exact h2 pins s1 Z1 H1 _ _ Q I1 rr q1
def iP (K : PySem.W.Frag) (n : Nat) (t : TGs) : TG := fun v Z H Q => ∃ a xs, v = .ref a /\ SqT K H a xs /\ xs.length = n /\ t xs Z H Q
theorem gR {es : List Expr} {k : Nat} {t : TGs} {n : Nat} (hc : X.calm = true) (h : PGs X es t)
   (hn : (assignEach es X.env).length = n := by rfl) (hst : (assignEach es X.env).findIdx? (·.1) = none := by rfl) : PG X (.Tuple es k pos) (iP X.K n t) := by
 intro pins s Z H v u Q I r hw
 obtain ⟨a, xs, e1, hq, hl, hw⟩ := hw
 subst e1
 cases r
 obtain ⟨its, rv, ht, hz⟩ := I.tuple hq
 refine assign_Tuple_tuple (I.ok.hd hc) ht (by simp [hn, <- hl, rv.length]) hst fun h' hx => ?_
 have I1 : Inv X pins Z H { s with heap := h' } := I.kept (t' := s.toks) fun b o e => hx b o (Nat.ne_of_lt (Heap.lt_size e)) e
 exact h pins _ Z H xs _ Q I1 (by simpa using rv) hw
def fR (te : TE) (g : TG) : TS := fun D Z H => te Z H fun x H1 => g x Z H1 D.nx
theorem Ba {i : Nat} {x : Str} {e : Expr} {te : TE} {pos' : Pos} (hN : X.N.Nodup) (hi : X.N[i]? = some x) (hx : Loc X.env.scope x) (he : PE X e te) (hs : swapsWith e (some (.Name x pos')) pos.line X.env = pure false := by rfl) (hf : X.fn x = true \/ X.env.scope.names.lookup x = some .local := by first | exact .inl rfl | exact .inr rfl | assumption) :
   PS X (.Assign [.Name x pos'] e pos) (fR te (X2 i)) := by
 intro pins s Z H D I h
 refine wpAny_Assign_Name (thn (he pins s Z H _ I h) fun v s1 ⟨y, H1, I1, r1, q1⟩ => ?_) hs
 exact Hs I1 hN hi hx r1 (fun s2 I2 => ⟨_, H1, I2, q1⟩) hf
end
structure It where
 go : Nat -> Hp -> Prop
 yld : Nat -> Hp -> V -> Hp -> Prop
 stop : Nat -> Hp -> Prop
def Ct (X : Cx) (pins : List (Addr × Obj)) (H : Hp) (b : Addr) : Prop :=
 H b = none /\ b ≠ X.env.locals /\ b ∉ X.fs /\ (b ∈ X.ex \/ X.s₀.heap.objs.size <= b) /\ (∀ x c, X.env.cells.lookup x = some c -> c ≠ b) /\ ∀ p ∈ X.pn ++ pins, p.1 ≠ b
theorem Inv.fpOk {X : Cx} {pins : List (Addr × Obj)} {Z : St} {H H' : Hp} {s : Shared} {b : Addr} (I : Inv X pins Z H s) (hb : s.heap.objs.size <= b) (hn : H' b = none) : Ct X pins H' b := by
 refine ⟨hn, Nat.ne_of_gt (Nat.lt_of_lt_of_le I.lt hb), I.nofs hb, .inr (Nat.le_trans I.sz hb), fun x c e z => ?_, fun p hp z => ?_⟩
 . obtain ⟨v, q⟩ := I.cell x c e
   exact absurd (Nat.lt_of_lt_of_le q.lt (by rw [z]; exact hb)) (Nat.lt_irrefl _)
 . exact absurd (Nat.lt_of_lt_of_le (Heap.lt_size (I.pin p hp).1) (by rw [z]; exact hb)) (Nat.lt_irrefl _)
structure Turn (P : Program) (w : World) (K : PySem.W.Frag) (tg : Expr) (J : It) (fp : List Addr) (it : Addr) (tn : Nat -> Heap -> Prop) : Prop where
 mem : it ∈ fp
 obj : ∀ i h, tn i h -> ∀ b ∈ fp, ∃ o, h.get? b = some o /\ ∀ v, o.data ≠ .cell v
 keep : ∀ i h h', tn i h -> (∀ b ∈ fp, ∀ o, h.get? b = some o -> h'.get? b = some o) -> tn i h'
 item : ∀ (X : Cx), X.prog = P -> X.w = w -> X.K = K -> X.calm = true -> ∀ (i : Nat) (pins : List (Addr × Obj)) (s : Shared) (Z : St) (H : Hp) (E : Value -> Shared -> Prop), Inv X pins Z H s -> (∀ b ∈ fp, Ct X pins H b) -> tn i s.heap -> J.go i H ->
   wpAny (model P w) X.A (pyNext (.ref it)) (fun r s1 => ∃ u, r = some u /\
     wpAny (model P w) X.A (letOwnedTupleGo tg (.ref it) u) (fun _ s2 => ∃ x H', Inv X pins Z H' s2 /\ RelV x u /\ J.yld i H x H' /\ tn (i + 1) s2.heap /\ ∀ b ∈ fp, H' b = none) E s1) E s
 done : ∀ (X : Cx), X.prog = P -> X.w = w -> X.K = K -> X.calm = true -> ∀ (i : Nat) (pins : List (Addr × Obj)) (s : Shared) (Z : St) (H : Hp) (E : Value -> Shared -> Prop), Inv X pins Z H s -> (∀ b ∈ fp, Ct X pins H b) -> tn i s.heap -> J.stop i H ->
   wpAny (model P w) X.A (pyNext (.ref it)) (fun r s1 => r = none /\ Inv X pins Z H s1) E s
 self : ∀ (A : Around) (i : Nat) (s : Shared) (Q : Value -> Shared -> Prop) (E : Value -> Shared -> Prop), tn i s.heap -> Q (.ref it) s -> wpAny (model P w) A (pyIter (.ref it)) Q E s
abbrev TI := St -> Hp -> (It -> Hp -> Prop) -> Prop
def PIE (X : Cx) (pins : List (Addr × Obj)) (Z : St) (tg : Expr) (R : It -> Hp -> Prop) (itv : Value) (s2 : Shared) : Prop :=
 ∃ (it : Addr) (fp : List Addr) (tn : Nat -> Heap -> Prop) (J : It) (H' : Hp), itv = .ref it /\ Inv X pins Z H' s2 /\ Turn X.prog X.w X.K tg J fp it tn /\ tn 0 s2.heap /\ (∀ b ∈ fp, Ct X pins H' b) /\ R J H'
def PI (X : Cx) (tg iter : Expr) (wi : TI) : Prop :=
 ∀ (pins : List (Addr × Obj)) (s : Shared) (Z : St) (H : Hp) (R : It -> Hp -> Prop), Inv X pins Z H s -> wi Z H R ->
   wpAny (model X.prog X.w) X.A (eval iter X.env) (fun v s1 => wpAny (model X.prog X.w) X.A (pyIter v) (PIE X pins Z tg R) X.xe s1) X.xe s
theorem Jd {M : Model} {A : Around} {E : Value -> Shared -> Prop} {s : Shared} {tg : Expr} {it : Addr} {u : Value} {o : Obj} {n : String} {vs : Array Value} {Q : Unit -> Shared -> Prop} (ho : s.heap.get? it = some o) (hc : o.cls = .type n) (hd : o.data = .fields vs)
   (hn : ["enumerate", "zip", "dict_itemiterator", "dict_reverseitemiterator", "odict_iterator", "itertools.zip_longest", "itertools.pairwise"].contains n = false) (hQ : Q () s) : wpAny M A (letOwnedTupleGo tg (.ref it) u) Q E s := by
 unfold letOwnedTupleGo
 cases tg <;> first
   | exact wpAny_pure hQ
   | (cases u <;> first
       | exact wpAny_pure hQ
       | (refine wpAny_bind (wpAny_load ho ?_)
          rw [hc, hd]; show wpAny M A (if (["enumerate", "zip", "dict_itemiterator", "dict_reverseitemiterator", "odict_iterator", "itertools.zip_longest", "itertools.pairwise"].contains n && vs[0]? == some (rawInt _)) = true then _ else _) Q E s
          rw [if_neg (by intro h; rw [hn, Bool.false_and] at h; cases h)]
          exact wpAny_pure hQ))
def Itl (K : PySem.W.Frag) (a : Addr) : It :=
 ⟨fun i H => ∃ xs x, SqL K H a xs /\ xs[i]? = some x, fun i H x H' => H' = H /\ ∀ xs, SqL K H a xs -> xs[i]? = some x, fun i H => ∃ xs, SqL K H a xs /\ xs.length <= i⟩
def Itt (K : PySem.W.Frag) (a : Addr) : It :=
 ⟨fun i H => ∃ xs x, SqT K H a xs /\ xs[i]? = some x, fun i H x H' => H' = H /\ ∀ xs, SqT K H a xs -> xs[i]? = some x, fun i H => ∃ xs, SqT K H a xs /\ xs.length <= i⟩
def Itr (lo : Int) (n : Nat) : It := ⟨fun i _ => i < n, fun i H x H' => H' = H /\ x = .int (lo + i), fun i _ => n <= i⟩
theorem Uo {P : Program} {w : World} {K : PySem.W.Frag} {tg : Expr} (a it : Addr) : Turn P w K tg (Itl K a) [it] it (fun i h => h.IsListIter it a i) where
 mem := by simp
 obj := fun i h st b hb => by
   have e : b = it := by simpa using hb
   subst e; obtain ⟨o, e, c, d⟩ := st; exact ⟨o, e, fun v z => by rw [d] at z; cases z⟩
 keep := fun i h h' st k => st.at fun o e => k it (by simp) o e
 item := by
   intro X hP hw hK hc i pins s Z H E I hf st hg; subst hP hw hK; obtain ⟨xs, x, hq, hx⟩ := hg; obtain ⟨its, rv, p, hz⟩ := I.list hq; obtain ⟨u, hu, ru⟩ := rv.get hx; obtain ⟨f0, f1, f2, f3, f4, f5⟩ := hf it (by simp)
   refine wpAny_pyNext_list_item st p.isList (x := u) (by simpa using hu) fun h' st' sb => ?_
   have I1 : Inv X pins Z H { s with heap := h' } := I.turned (t' := s.toks) (fun b o hb e => (sb.2 b hb).trans e) f0 f1 f3 f4 f5
   obtain ⟨o, e, c, d⟩ := id st'; exact ⟨u, rfl, Jd (s := { s with heap := h' }) e c d (by decide) ⟨x, H, I1, ru, ⟨rfl, fun ys hy => by rw [I.list_inj hy hq]; exact hx⟩, st', fun b hb => (hf b hb).1⟩⟩
 done := by
   intro X hP hw hK hc i pins s Z H E I hf st hg; subst hP hw hK; obtain ⟨xs, hq, hx⟩ := hg; obtain ⟨its, rv, p, hz⟩ := I.list hq; obtain ⟨f0, f1, f2, f3, f4, f5⟩ := hf it (by simp)
   have hl := rv.length; exact wpAny_pyNext_list_end (I.ok.hd hc) st p.isList (by simp; omega) fun h' eb => ⟨rfl, I.turned (t' := s.toks) (fun b o hb e => eb b o hb e) f0 f1 f3 f4 f5⟩
 self := fun _ _ _ _ _ st h => wpAny_pyIter_listiter st h
theorem Qi {P : Program} {w : World} {K : PySem.W.Frag} {tg : Expr} (a it : Addr) : Turn P w K tg (Itt K a) [it] it (fun i h => h.IsTupleIter it a i) where
 mem := by simp
 obj := fun i h st b hb => by
   have e : b = it := by simpa using hb
   subst e; obtain ⟨o, e, c, d⟩ := st; exact ⟨o, e, fun v z => by rw [d] at z; cases z⟩
 keep := fun i h h' st k => st.at fun o e => k it (by simp) o e
 item := by
   intro X hP hw hK hc i pins s Z H E I hf st hg; subst hP hw hK; obtain ⟨xs, x, hq, hx⟩ := hg; obtain ⟨its, rv, p, hz⟩ := I.tuple hq; obtain ⟨u, hu, ru⟩ := rv.get hx; obtain ⟨f0, f1, f2, f3, f4, f5⟩ := hf it (by simp)
   refine wpAny_pyNext_tuple_item st (show s.heap.IsTuple a its.toArray from p) (x := u) (by simpa using hu) fun h' st' sb => ?_
   have I1 : Inv X pins Z H { s with heap := h' } := I.turned (t' := s.toks) (fun b o hb e => (sb.2 b hb).trans e) f0 f1 f3 f4 f5
   obtain ⟨o, e, c, d⟩ := id st'; exact ⟨u, rfl, Jd (s := { s with heap := h' }) e c d (by decide) ⟨x, H, I1, ru, ⟨rfl, fun ys hy => by rw [I.tuple_inj hy hq]; exact hx⟩, st', fun b hb => (hf b hb).1⟩⟩
 done := by
   intro X hP hw hK hc i pins s Z H E I hf st hg; subst hP hw hK; obtain ⟨xs, hq, hx⟩ := hg; obtain ⟨its, rv, p, hz⟩ := I.tuple hq; obtain ⟨f0, f1, f2, f3, f4, f5⟩ := hf it (by simp)
   have hl := rv.length; exact wpAny_pyNext_tuple_end (I.ok.hd hc) st (show s.heap.IsTuple a its.toArray from p) (by simp; omega) fun h' eb => ⟨rfl, I.turned (t' := s.toks) (fun b o hb e => eb b o hb e) f0 f1 f3 f4 f5⟩
 self := fun _ _ _ _ _ st h => wpAny_pyIter_tupleiter st h
theorem Qj {P : Program} {w : World} {K : PySem.W.Frag} {tg : Expr} (it : Addr) (lo : Int) (n : Nat) : Turn P w K tg (Itr lo n) [it] it (fun i h => IsRangeIter h it (lo + (i : Nat) * 1) ((n : Int) - (i : Nat)) 1) where
 mem := by simp
 obj := fun i h st b hb => by
   have e : b = it := by simpa using hb
   subst e; exact ⟨_, st, fun v z => by
     have z' : Data.fields _ = Data.cell v := z
     cases z'⟩
 keep := fun i h h' st k => k it (by simp) _ st
 item := by
   intro X hP hw hK hc i pins s Z H E I hf st hg; subst hP hw hK; obtain ⟨f0, f1, f2, f3, f4, f5⟩ := hf it (by simp)
   have W := Walks.range (prog := X.prog) (w := X.w) (I.ok.hd hc) it lo 1 n; refine W.item i s _ _ hg st fun v h' tk hv st' kk => ?_
   obtain ⟨t, rfl⟩ := hv; have I1 : Inv X pins Z H { s with heap := h', toks := tk } := I.turned (fun b o hb e => kk b o (by simpa using hb) e) f0 f1 f3 f4 f5
   refine ⟨_, rfl, Jd (s := { s with heap := h', toks := tk }) (n := "range_iterator") st' rfl rfl (by decide) ⟨.int (lo + i), H, I1, ⟨t, ?_⟩, ⟨rfl, rfl⟩, st', fun b hb => (hf b hb).1⟩⟩
   rw [Int.mul_one]
 done := by
   intro X hP hw hK hc i pins s Z H E I hf st hg; subst hP hw hK; obtain ⟨f0, f1, f2, f3, f4, f5⟩ := hf it (by simp)
   exact wpAny_pyNext_range_end (I.ok.hd hc) st (by have : n <= i := hg; omega) fun h' eb => ⟨rfl, I.turned (t' := s.toks) (fun b o hb e => eb b o hb e) f0 f1 f3 f4 f5⟩
 self := fun _ _ _ _ _ st h => wpAny_pyIter_rangeiter st h
end L2
namespace L2
open PySem PySem.Spec PyProof.Rows
section
variable {X : Cx} {tg : Expr}
theorem Yh {pins : List (Addr × Obj)} {Z : St} {H : Hp} {s : Shared} {R : It -> Hp -> Prop} {E : Value -> Shared -> Prop} {lo hi : Int} {t u v : Tok} {tk : Nat} (I : Inv X pins Z H s) (h1 : -(2 ^ 62) <= lo) (h2 : lo < 2 ^ 62) (h3 : -(2 ^ 62) <= hi) (h4 : hi < 2 ^ 62)
   (q : R (Itr lo (hi - lo).toNat) H) : wpAny (model X.prog X.w) X.A (pyIter (.ref s.heap.objs.size)) (PIE X pins Z tg R) E { s with heap := s.heap.push { cls := .type "range", data := .fields #[.int lo t, .int hi u, .int 1 v] }, toks := tk } := by
 refine wpAny_pyIter_range (IsRange.new ..) (small_one h1 h2 h3 h4) ?_
 have I1 : Inv X pins Z H { s with heap := s.heap.push { cls := .type "range", data := .fields #[.int lo t, .int hi u, .int 1 v] }, toks := tk } := I.kept fun b o e => Heap.get?_push_of_some _ e
 refine ⟨(s.heap.push { cls := .type "range", data := .fields #[.int lo t, .int hi u, .int 1 v] }).objs.size, [(s.heap.push { cls := .type "range", data := .fields #[.int lo t, .int hi u, .int 1 v] }).objs.size], _, _, H, rfl,
   I1.kept (t' := tk) fun b o e => Heap.get?_push_of_some _ e, Qj _ lo (hi - lo).toNat, ?_, fun b hb => ?_, q⟩
 . have e1 : lo + ((0 : Nat) : Int) * 1 = lo := by simp
   have e2 : (((hi - lo).toNat : Nat) : Int) - ((0 : Nat) : Int) = Builtin.Range.rangeSize lo hi 1 := by rw [rangeSize_one]; split <;> omega
   show IsRangeIter _ _ (lo + ((0 : Nat) : Int) * 1) ((((hi - lo).toNat : Nat) : Int) - ((0 : Nat) : Int)) 1
   rw [e1, e2]; exact Heap.get?_push_size _ rfl
 . have e : b = (s.heap.push { cls := .type "range", data := .fields #[.int lo t, .int hi u, .int 1 v] }).objs.size := by simpa using hb
   subst e; exact I1.fpOk (Nat.le_refl _) (I1.hok.fresh (Nat.le_refl _))
def iRng1 (ta : TA) : TI := fun Z H R => ta Z H fun vs H1 => ∃ j : Int, vs = [.int j] /\ -(2 ^ 62) <= j /\ j < 2 ^ 62 /\ R (Itr 0 j.toNat) H1
theorem Vd {a : Expr} {ta : TA} {p pos : Pos} (hg : Gl X "range") (hm : X.mg "range" = none) (ha : PA X [a] ta) (hs : starEach [a] X.env = [(false, eval a X.env)] := by rfl) : PI X tg (.Call (.Name "range" p) [a] [] pos) (iRng1 ta) := by
 intro pins s Z H R I h
 refine Call_ (Ci I hg hm boot_range (PyProof.Rows.callWith_type1 (thn (ha pos pins s Z H _ I h) fun us s1 ⟨vs, H1, I1, r1, q1⟩ => ?_) hs rfl))
 obtain ⟨j, e, q1, q2, q⟩ := q1
 subst e
 cases r1 with
 | cons r rr =>
   cases rr; obtain ⟨t, rfl⟩ := r; exact call_range_1 (Yh I1 (by omega) (by omega) q1 q2 (by simpa using q))
def tFor (wi : TI) (g : TG) (tb : TS) : TS := fun D Z H => wi Z H fun J H1 => ∃ W : Nat -> Nat -> St -> Hp -> Prop, (∃ m, W 0 m Z H1) /\ ∀ i m Z H, W i m Z H ->
 (J.stop i H /\ D.nx Z H) \/ (J.go i H /\ ∃ N : St -> Hp -> Prop, (∀ Z' H', N Z' H' -> ∃ m', m' < m /\ W (i + 1) m' Z' H') /\ ∀ x H', J.yld i H x H' -> g x Z H' fun Z2 H2 => tb { D with nx := N, ct := N, bk := D.nx } Z2 H2)
def Eo (fp : List Addr) (h : Heap) : List (Addr × Obj) := fp.filterMap fun b => (h.get? b).map fun o => (b, o)
theorem Ak {fp : List Addr} {h : Heap} {b : Addr} {o : Obj} (hb : b ∈ fp) (e : h.get? b = some o) : (b, o) ∈ Eo fp h := List.mem_filterMap.mpr ⟨b, hb, by rw [e]; rfl⟩
theorem Ve {fp : List Addr} {h : Heap} {p : Addr × Obj} (hp : p ∈ Eo fp h) : p.1 ∈ fp /\ h.get? p.1 = some p.2 := by
 obtain ⟨b, hb, e⟩ := List.mem_filterMap.mp hp
 cases q : h.get? b with
 | none => rw [q] at e; cases e
 | some o =>
   rw [q] at e; have e' : (b, o) = p := Option.some.inj e; subst e'; exact ⟨hb, q⟩
theorem Inv.pinned {pins : List (Addr × Obj)} {Z : St} {H : Hp} {s : Shared} {fp : List Addr} (I : Inv X pins Z H s) (hf : ∀ b ∈ fp, Ct X pins H b) (ho : ∀ b ∈ fp, ∃ o, s.heap.get? b = some o /\ ∀ v, o.data ≠ .cell v) : Inv X (pins ++ Eo fp s.heap) Z H s :=
 I.pins_of fun p hp => (List.mem_append.mp hp).elim (fun z => I.pin p (List.mem_append_right _ z)) fun z => by
   obtain ⟨hb, e⟩ := Ve z; obtain ⟨f0, f1, f2, _⟩ := hf p.1 hb; obtain ⟨o, e', d⟩ := ho p.1 hb; rw [e] at e'; cases e'; exact ⟨e, f0, f1, f2, d⟩
theorem Inv.unpinned {pins pl : List (Addr × Obj)} {Z : St} {H : Hp} {s : Shared} (I : Inv X (pins ++ pl) Z H s) : Inv X pins Z H s := I.pins_of fun p hp => I.pin p (List.mem_append_right _ (List.mem_append_left _ hp))
theorem Ym {iter : Expr} {body : List Stmt} {wi : TI} {g : TG} {tb : TS} {pos : Pos} (hp : PassesOwn (model X.prog X.w) X.A X.env X.xe) (hc : X.calm = true) (hi : PI X tg iter wi) (hg : PG X tg g) (hb : PSs X body tb)
   (hs : ∀ x, foldedSetIterable iter X.env x = pure x := by intro _; rfl) : PS X (.For tg iter body [] pos) (tFor wi g tb) := by
 intro pins s Z H D I h
 refine wpAny_For (thn (hi pins s Z H _ I h) fun v s1 h1 => thn h1 fun itv s2 h2 => ?_) hs
 obtain ⟨it, fp, tn, J, H2, e, I2, T, st2, f2, W, ⟨m0, w0⟩, turn⟩ := h2
 subst e
 have stat : ∀ {H' : Hp}, (∀ b ∈ fp, H' b = none) -> ∀ b ∈ fp, Ct X pins H' b := fun hn b hb => ⟨hn b hb, (f2 b hb).2⟩
 refine codeAny_forLoop_any (fun n s' => ∃ i Z' H', Inv X pins Z' H' s' /\ tn i s'.heap /\ (∀ b ∈ fp, H' b = none) /\ W i n Z' H') ?_ m0 ⟨0, Z, H2, I2, st2, fun b hb => (f2 b hb).1, w0⟩
 rintro n s3 ⟨i, Z3, H3, I3, st3, fr3, w3⟩
 rcases turn i n Z3 H3 w3 with ⟨stop, qn⟩ | ⟨go, N, hN, step⟩
 . refine wpAny_passesOwn hp (thn (T.done X rfl rfl rfl hc i pins s3 Z3 H3 X.xe I3 (stat fr3) st3 stop) fun r s4 ⟨hr, I4⟩ => ?_)
   subst hr; exact wpAny_execs_nil ⟨Z3, H3, I4, qn⟩
 . refine wpAny_passesOwn hp (thn (T.item X rfl rfl rfl hc i pins s3 Z3 H3 X.xe I3 (stat fr3) st3 go) fun r s4 ⟨u, hr, h4⟩ => ?_)
   subst hr; refine wpAny_passesOwn hp (thn h4 fun _ s5 ⟨x, H5, I5, r5, y5, st5, fr5⟩ => ?_)
   have I5' := I5.pinned (stat fr5) (T.obj _ _ st5); refine wpAny_passesOwn hp (thn (hg _ s5 Z3 H5 x u _ I5' r5 (step x H5 y5)) fun _ s6 ⟨Z6, H6, I6, q6⟩ => ?_)
   refine wpAny_passesOwn hp (thn (hb _ s6 Z6 H6 _ I6 q6) fun f s7 q7 => ?_)
   have again : ∀ {Z7 : St} {H7 : Hp}, Inv X (pins ++ Eo fp s5.heap) Z7 H7 s7 -> N Z7 H7 -> ∃ m, m < n /\ ∃ i Z' H', Inv X pins Z' H' s7 /\ tn i s7.heap /\ (∀ b ∈ fp, H' b = none) /\ W i m Z' H' := fun {Z7 H7} I7 n7 => by
     obtain ⟨m', hm, w7⟩ := hN Z7 H7 n7; refine ⟨m', hm, i + 1, Z7, H7, I7.unpinned, T.keep _ _ _ st5 fun b hb o e => (I7.pin (b, o) (List.mem_append_right _ (List.mem_append_right _ (Ak hb e)))).1, fun b hb => ?_, w7⟩
     obtain ⟨o, e, d⟩ := T.obj _ _ st5 b hb; exact (I7.pin (b, o) (List.mem_append_right _ (List.mem_append_right _ (Ak hb e)))).2.1
   cases f with
   | next => obtain ⟨Z7, H7, I7, n7⟩ := q7; exact again I7 n7
   | cont => obtain ⟨Z7, H7, I7, n7⟩ := q7; exact again I7 n7
   | brk => obtain ⟨Z7, H7, I7, q7⟩ := q7; exact ⟨Z7, H7, I7.unpinned, q7⟩
   | ret v => obtain ⟨x7, Z7, H7, I7, r7, q7⟩ := q7; exact ⟨x7, Z7, H7, I7.unpinned, r7, q7⟩
end
end L2
namespace L2
open PySem PySem.Spec PyProof.Rows
abbrev R2 := V -> V -> Hp -> VK -> Prop
def OpR (X : Cx) (f : Value -> Value -> Sem Value) (r : R2) : Prop :=
 ∀ (pins : List (Addr × Obj)) (s : Shared) (Z : St) (H : Hp) (x y : V) (v u : Value) (Q : VK), Inv X pins Z H s -> RelV x v -> RelV y u -> r x y H Q ->
   wpAny (model X.prog X.w) X.A (f v u) (EP X pins Z Q) X.xe s
def UnR (X : Cx) (f : Value -> Sem Value) (r : V -> Hp -> VK -> Prop) : Prop :=
 ∀ (pins : List (Addr × Obj)) (s : Shared) (Z : St) (H : Hp) (x : V) (v : Value) (Q : VK), Inv X pins Z H s -> RelV x v -> r x H Q ->
   wpAny (model X.prog X.w) X.A (f v) (EP X pins Z Q) X.xe s
def R0 (X : Cx) (f : Value) (r : List V -> Hp -> VK -> Prop) : Prop :=
 ∀ (pins : List (Addr × Obj)) (s : Shared) (Z : St) (H : Hp) (xs : List V) (us : List Value) (Q : VK), Inv X pins Z H s -> Vals xs us -> r xs H Q ->
   wpAny (model X.prog X.w) X.A (call f us) (EP X pins Z Q) X.xe s
def TruR (X : Cx) (r : V -> Hp -> (Bool -> Hp -> Prop) -> Prop) : Prop :=
 ∀ (pins : List (Addr × Obj)) (s : Shared) (Z : St) (H : Hp) (x : V) (v : Value) (Q : Bool -> Hp -> Prop), Inv X pins Z H s -> RelV x v -> r x H Q ->
   wpAny (model X.prog X.w) X.A (truthy v) (TP X pins Z Q) X.xe s
def tOp (r : R2) (ta tb : TE) : TE := fun Z H Q => ta Z H fun x H1 => tb Z H1 fun y H2 => r x y H2 Q
def tUn (r : V -> Hp -> VK -> Prop) (ta : TE) : TE := fun Z H Q => ta Z H fun x H1 => r x H1 Q
def rI (C : Int -> Int -> Prop) (g : Int -> Int -> V) : R2 := fun x y H Q => ∃ i j, x = .int i /\ y = .int j /\ C i j /\ Q (g i j) H
def rU (g : Int -> V) : V -> Hp -> VK -> Prop := fun x H Q => ∃ i, x = .int i /\ Q (g i) H
section
variable {X : Cx} {a b : Expr} {ta tb : TE} {pos : Pos}
theorem jB (ha : PE X a ta) (hb : PE X b tb) {pins : List (Addr × Obj)} {s : Shared} {Z : St} {H : Hp} {R : V -> V -> Hp -> Prop} (I : Inv X pins Z H s)
   (h : ta Z H fun x H1 => tb Z H1 fun y H2 => R x y H2) {Q : Value -> Shared -> Prop} {f : Value -> Value -> Sem Value}
   (hf : ∀ v u s2 x y H2, Inv X pins Z H2 s2 -> RelV x v -> RelV y u -> R x y H2 -> wpAny (model X.prog X.w) X.A (f v u) Q X.xe s2) :
   wpAny (model X.prog X.w) X.A (eval a X.env) (fun v s₁ => wpAny (model X.prog X.w) X.A (eval b X.env) (fun u s₂ => wpAny (model X.prog X.w) X.A (f v u) Q X.xe s₂) X.xe s₁) X.xe s := by
 refine thn (ha pins s Z H _ I h) fun v s1 ⟨x, H1, I1, r1, q1⟩ => ?_
 refine thn (hb pins s1 Z H1 _ I1 q1) fun u s2 ⟨y, H2, I2, r2, q2⟩ => ?_
 exact hf v u s2 x y H2 I2 r1 r2 q2
theorem pe_op {op : Operator} {r : R2} (ho : OpR X (binaryOp op) r) (ha : PE X a ta) (hb : PE X b tb) : PE X (.BinOp a op b pos) (tOp r ta tb) := by
 intro pins s Z H Q I h
 exact wpAny_BinOp (jB ha hb I h fun v u s2 x y H2 I2 rx ry q => ho pins s2 Z H2 x y v u Q I2 rx ry q)
theorem eY {op : UnaryOp} {r : V -> Hp -> VK -> Prop} (ho : UnR X (unaryOp op) r) (ha : PE X a ta) : PE X (.UnaryOp op a pos) (tUn r ta) := by
 intro pins s Z H Q I h
 exact UnaryOp_ (thn (ha pins s Z H _ I h) fun v s1 ⟨x, H1, I1, r1, q1⟩ => ho pins s1 Z H1 x v Q I1 r1 q1)
theorem opI {f : Value -> Value -> Sem Value} {C : Int -> Int -> Prop} {g : Int -> Int -> Int}
   (rule : ∀ (i j : Int) (t u : Tok) (s : Shared) (Q : Value -> Shared -> Prop) (E : Value -> Shared -> Prop), C i j -> Q (.int (g i j) s.toks) { s with toks := s.toks + 1 } -> wpAny (model X.prog X.w) X.A (f (.int i t) (.int j u)) Q E s) :
   OpR X f (rI C fun i j => .int (g i j)) := by
 intro pins s Z H x y v u Q I rx ry h
 obtain ⟨i, j, rfl, rfl, hc, q⟩ := h
 obtain ⟨t, rfl⟩ := rx
 obtain ⟨t', rfl⟩ := ry
 exact rule i j t t' s _ _ hc ⟨.int (g i j), H, I.tok _, ⟨_, rfl⟩, q⟩
def CDiv (i j : Int) : Prop := 0 < j /\ j < 1073741824
def CMul (i j : Int) : Prop := (-(2 ^ 64) < i /\ i < 2 ^ 64) \/ (-(2 ^ 64) < j /\ j < 2 ^ 64)
theorem CMul.ok {i j : Int} (h : CMul i j) : IntMulOk i j := by
 rcases h with ⟨h1, h2⟩ | ⟨h1, h2⟩
 . exact .of_left (intBits_le_64 h1 h2)
 . exact .of_right (intBits_le_64 h1 h2)
theorem cP : OpR X (binaryOp .FloorDiv) (rI CDiv fun i j => .int (i / j)) := opI fun i j _ _ _ _ _ hc q => by
 have h1 : (0 : Int) < j := hc.1
 have h2 : j < 1073741824 := hc.2
 exact floordiv_int (by omega) (by rw [Int.fdiv_eq_ediv_of_nonneg i (by omega)]; exact q) (.inl (PyProof.noPylong_small (by omega)))
theorem gX : OpR X (binaryOp .Mod) (rI (fun _ j => 0 < j) fun i j => .int (i % j)) := opI fun i j _ _ _ _ _ hc q => by
 have h1 : (0 : Int) < j := hc
 exact mod_int' (by omega) (by rw [Int.fmod_eq_emod_of_nonneg i (by omega)]; exact q)
theorem unI {f : Value -> Sem Value} {g : Int -> Int}
   (rule : ∀ (i : Int) (t : Tok) (s : Shared) (Q : Value -> Shared -> Prop) (E : Value -> Shared -> Prop), Q (.int (g i) s.toks) { s with toks := s.toks + 1 } -> wpAny (model X.prog X.w) X.A (f (.int i t)) Q E s) :
   UnR X f (rU fun i => .int (g i)) := by
 intro pins s Z H x v Q I rx h
 obtain ⟨i, rfl, q⟩ := h
 obtain ⟨t, rfl⟩ := rx
 exact rule i t s _ _ ⟨.int (g i), H, I.tok _, ⟨_, rfl⟩, q⟩
theorem Wx : UnR X (unaryOp .USub) (rU fun i => .int (-i)) := unI fun _ _ _ _ _ q => neg_int q
end
def scal : V -> V -> Bool
 | .non, .non => true | .non, .int _ => true | .int _, .non => true | .non, .bl _ => true | .bl _, .non => true | .non, .str _ => true | .str _, .non => true
 | .int _, .int _ => true | .bl _, .bl _ => true | .str _, .str _ => true | .byt _, .byt _ => true
 | .int _, .str _ => true | .str _, .int _ => true | .bl _, .str _ => true | .str _, .bl _ => true
 | _, _ => false
def rEq : R2 := fun x y H Q => scal x y = true /\ Q (.bl (decide (x = y))) H
def rNe : R2 := fun x y H Q => scal x y = true /\ Q (.bl (!decide (x = y))) H
theorem Tp {i j : Int} : decide (V.int i = V.int j) = (i == j) := by
 rw [Bool.eq_iff_iff]
 simp
theorem aJ {i j : Bool} : decide (V.bl i = V.bl j) = (i == j) := by
 rw [Bool.eq_iff_iff]
 simp
theorem Tn {i j : Str} : decide (V.str i = V.str j) = (i == j) := by
 rw [Bool.eq_iff_iff]
 simp
theorem Tq {i j : Array UInt8} : decide (V.byt i = V.byt j) = (i.toList == j.toList) := by
 rw [Bool.eq_iff_iff]
 cases i
 cases j
 simp
section
variable {X : Cx} {a b c : Expr} {ta tb : TE} {pos : Pos}
theorem E9 {pins : List (Addr × Obj)} {Z : St} {H : Hp} {s : Shared} {Q : VK} {k k' : Bool} (I : Inv X pins Z H s) (q : Q (.bl k) H) (e : k = k') : EP X pins Z Q (.bool k') s := by
 subst e
 exact ⟨.bl k, H, I, rfl, q⟩
theorem op_eq : OpR X (compareOp .Eq) rEq := by
 intro pins s Z H x y v u Q I rx ry h
 obtain ⟨hs, q⟩ := h
 cases x with
 | non =>
   cases rx
   cases y with
   | non => cases ry; exact PySem.EqNone.eq_none_none (E9 I q (by simp))
   | bl j => cases ry; exact PySem.EqNone.eq_none_bool (E9 I q (by simp))
   | int j => obtain ⟨t', rfl⟩ := ry; exact PySem.EqNone.eq_none_int (E9 I q (by simp))
   | str j => obtain ⟨t', rfl⟩ := ry; exact PySem.EqNone.eq_none_str (E9 I q (by simp))
   | _ => exact absurd (show false = true from hs) Bool.false_ne_true
 | bl i =>
   cases rx
   cases y with
   | non => cases ry; exact PySem.EqNone.eq_bool_none (E9 I q (by simp))
   | bl j => cases ry; exact eq_bool (E9 I q aJ)
   | str j => obtain ⟨t', rfl⟩ := ry; exact PySem.EqMixed.eq_bool_str (E9 I q (by simp))
   | _ => exact absurd (show false = true from hs) Bool.false_ne_true
 | int i =>
   obtain ⟨t, rfl⟩ := rx
   cases y with
   | non => cases ry; exact PySem.EqNone.eq_int_none (E9 I q (by simp))
   | int j => obtain ⟨t', rfl⟩ := ry; exact eq_int (E9 I q Tp)
   | str j => obtain ⟨t', rfl⟩ := ry; exact PySem.EqMixed.eq_int_str (E9 I q (by simp))
   | _ => exact absurd (show false = true from hs) Bool.false_ne_true
 | str i =>
   obtain ⟨t, rfl⟩ := rx
   cases y with
   | non => cases ry; exact PySem.EqNone.eq_str_none (E9 I q (by simp))
   | bl j => cases ry; exact PySem.EqMixed.eq_str_bool (E9 I q (by simp))
   | int j => obtain ⟨t', rfl⟩ := ry; exact PySem.EqMixed.eq_str_int (E9 I q (by simp))
   | str j => obtain ⟨t', rfl⟩ := ry; exact eq_str (E9 I q Tn)
   | _ => exact absurd (show false = true from hs) Bool.false_ne_true
 | byt i =>
   obtain ⟨t, rfl⟩ := rx
   cases y with
   | byt j => obtain ⟨t', rfl⟩ := ry; exact PySem.W.eq_bytes (E9 I q Tq)
   | _ => exact absurd (show false = true from hs) Bool.false_ne_true
 | _ => cases y <;> exact absurd (show false = true from hs) Bool.false_ne_true
theorem op_ne : OpR X (compareOp .NotEq) rNe := by
 intro pins s Z H x y v u Q I rx ry h
 obtain ⟨hs, q⟩ := h
 cases x with
 | non =>
   cases rx
   cases y with
   | non => cases ry; exact PySem.EqNone.ne_none_none (E9 I q (by simp))
   | bl j => cases ry; exact PySem.EqNone.ne_none_bool (E9 I q (by simp))
   | int j => obtain ⟨t', rfl⟩ := ry; exact PySem.EqNone.ne_none_int (E9 I q (by simp))
   | str j => obtain ⟨t', rfl⟩ := ry; exact PySem.EqNone.ne_none_str (E9 I q (by simp))
   | _ => exact absurd (show false = true from hs) Bool.false_ne_true
 | bl i =>
   cases rx
   cases y with
   | non => cases ry; exact PySem.EqNone.ne_bool_none (E9 I q (by simp))
   | bl j => cases ry; exact ne_bool (E9 I q (congrArg not aJ))
   | str j => obtain ⟨t', rfl⟩ := ry; exact PySem.EqMixed.ne_bool_str (E9 I q (by simp))
   | _ => exact absurd (show false = true from hs) Bool.false_ne_true
 | int i =>
   obtain ⟨t, rfl⟩ := rx
   cases y with
   | non => cases ry; exact PySem.EqNone.ne_int_none (E9 I q (by simp))
   | int j => obtain ⟨t', rfl⟩ := ry; exact ne_int (E9 I q (congrArg not Tp))
   | str j => obtain ⟨t', rfl⟩ := ry; exact PySem.EqMixed.ne_int_str (E9 I q (by simp))
   | _ => exact absurd (show false = true from hs) Bool.false_ne_true
 | str i =>
   obtain ⟨t, rfl⟩ := rx
   cases y with
   | non => cases ry; exact PySem.EqNone.ne_str_none (E9 I q (by simp))
   | bl j => cases ry; exact PySem.EqMixed.ne_str_bool (E9 I q (by simp))
   | int j => obtain ⟨t', rfl⟩ := ry; exact PySem.EqMixed.ne_str_int (E9 I q (by simp))
   | str j => obtain ⟨t', rfl⟩ := ry; exact ne_str (E9 I q (congrArg not Tn))
   | _ => exact absurd (show false = true from hs) Bool.false_ne_true
 | byt i =>
   obtain ⟨t, rfl⟩ := rx
   cases y with
   | byt j => obtain ⟨t', rfl⟩ := ry; exact PySem.W.ne_bytes (E9 I q (congrArg not Tq))
   | _ => exact absurd (show false = true from hs) Bool.false_ne_true
 | _ => cases y <;> exact absurd (show false = true from hs) Bool.false_ne_true
theorem Et (b : Expr) {op : CmpOp} (h : op ≠ .In := by decide) (h2 : op ≠ .NotIn := by decide) : behindInMarks op b = false := by
 have e1 : (op == CmpOp.In) = false := by cases op <;> first | rfl | exact absurd rfl h
 have e2 : (op == CmpOp.NotIn) = false := by cases op <;> first | rfl | exact absurd rfl h2
 cases b <;> simp [behindInMarks, e1, e2]
theorem cJ {op : CmpOp} {r : R2} (ho : OpR X (compareOp op) r) (ha : PE X a ta) (hb : PE X b tb) (hm : behindInMarks op b = false) : PE X (.Compare a [op] [b] pos) (tOp r ta tb) := by
 intro pins s Z H Q I h
 exact wpAny_Compare1 (jB ha hb I h fun v u s2 x y H2 I2 rx ry q => ho pins s2 Z H2 x y v u Q I2 rx ry q) hm
def tTest (t : TE) : TT := fun Z H Q => t Z H fun x H' => ∃ k, x = .bl k /\ Q k H'
theorem Mu {op : CmpOp} {r : R2} (ho : OpR X (compareOp op) r) (ha : PE X a ta) (hb : PE X b tb) (hm : behindInMarks op b = false) : PT X (.Compare a [op] [b] pos) (tTest (tOp r ta tb)) := by
 intro pins s Z H Q I h
 refine wpAny_isTrue_Compare1 (thn (ha pins s Z H _ I h) fun v s1 ⟨x, H1, I1, r1, q1⟩ => thn (hb pins s1 Z H1 _ I1 q1) fun u s2 ⟨y, H2, I2, r2, q2⟩ =>
   thn (ho pins s2 Z H2 x y v u _ I2 r1 r2 q2) fun c s3 ⟨z, H3, I3, r3, k, e, q3⟩ => ?_) hm
 subst e
 cases r3
 exact wpAny_truthy_bool ⟨H3, I3, q3⟩
def TruV (K : PySem.W.Frag) (x : V) (H : Hp) (k : Bool) : Prop :=
 match x with
 | .non => k = false
 | .bl b => k = b
 | .int i => k = (i != 0)
 | .str y => y.length <= sizeLine /\ k = ((y.length : Int) != 0)
 | .byt y => y.size <= sizeLine /\ k = ((y.size : Int) != 0)
 | .ref p => (∃ xs, SqL K H p xs /\ k = !xs.isEmpty) \/ (∃ xs, SqT K H p xs /\ k = !xs.isEmpty) \/ ∃ kvs, H p = some (.dK kvs) /\ k = !kvs.isEmpty
 | _ => False
theorem Rc {κ : Type} {kvs : List (κ × V)} {vs : List (κ × Value)} (r : KV kvs vs) : (!vs.isEmpty) = !kvs.isEmpty := by
 cases r <;> rfl
theorem Ja {xs : List V} {its : List Value} (r : Vals xs its) : (!its.toArray.isEmpty) = !xs.isEmpty := by
 cases r <;> simp
theorem Al : (sizeLine : Nat) < 2 ^ 63 := by rw [sizeLine_eq]; decide
theorem tru_ok : TruR X (fun x H Q => ∃ k, TruV X.K x H k /\ Q k H) := by
 intro pins s Z H x v Q I rx h
 obtain ⟨k, e, q⟩ := h
 have hl := Al
 have hs : sizeLine = 16777216 := sizeLine_eq
 cases x with
 | non =>
   cases rx; have e' : k = false := e; subst e'; exact truthy_none ⟨H, I, q⟩
 | bl b =>
   cases rx; have e' : k = b := e; subst e'; exact wpAny_truthy_bool ⟨H, I, q⟩
 | int i =>
   obtain ⟨t, rfl⟩ := rx; have e' : k = (i != 0) := e; subst e'; exact PySem.P.truthy_int ⟨H, I, q⟩
 | str y =>
   obtain ⟨t, rfl⟩ := rx; obtain ⟨hy, e'⟩ : y.length <= sizeLine /\ k = ((y.length : Int) != 0) := e; subst e'; exact PySem.P.truthy_str (by omega) ⟨H, I.tok _, q⟩
 | byt y =>
   obtain ⟨t, rfl⟩ := rx; obtain ⟨hy, e'⟩ : y.size <= sizeLine /\ k = ((y.size : Int) != 0) := e; subst e'; exact PySem.W.truthy_bytes (by omega) ⟨H, I.tok _, q⟩
 | ref p =>
   cases rx; have e' : (∃ xs, SqL X.K H p xs /\ k = !xs.isEmpty) \/ (∃ xs, SqT X.K H p xs /\ k = !xs.isEmpty) \/ ∃ kvs, H p = some (.dK kvs) /\ k = !kvs.isEmpty := e; rcases e' with ⟨xs, hx, e'⟩ | ⟨xs, hx, e'⟩ | ⟨kvs, hx, e'⟩
   . subst e'
     obtain ⟨its, r, pl, hz⟩ := I.list hx; have hlen := r.length; exact wpAny_truthy_list pl.isList (by simp only [List.size_toArray]; omega) ⟨H, I.tok _, by rw [Ja r]; exact q⟩
   . subst e'
     obtain ⟨its, r, pl, hz⟩ := I.tuple hx; have hlen := r.length; exact truthy_tuple pl (by simp only [List.size_toArray]; omega) ⟨H, I.tok _, by rw [Ja r]; exact q⟩
   . subst e'
     obtain ⟨hz, hS, vs, r, m⟩ : kvs.length <= sizeLine /\ (p == sysModules) = false /\ ∃ vs, KV kvs vs /\ s.heap.DictOf (N5 X.prog X.w) p vs := I.hok p _ hx; have hlen : kvs.length = vs.length := Paired.length r; exact wpAny_truthy_dict hS m (by omega) ⟨H, I.tok _, by rw [Rc r]; exact q⟩
 | _ => exact (show False from e).elim
theorem Fk {x : V} {us : List Value} (r : Vals [x] us) : ∃ u, us = [u] /\ RelV x u := by
 cases r with
 | cons r1 r2 => cases r2; exact ⟨_, rfl, r1⟩
theorem Lu : R0 X (.type "int") (fun xs H Q => (∃ i, xs = [.int i] /\ Q (.int i) H) \/ ∃ k, xs = [.bl k] /\ Q (.int (if k then 1 else 0)) H) := by
 intro pins s Z H xs us Q I r h
 rcases h with ⟨i, rfl, q⟩ | ⟨k, rfl, q⟩
 . obtain ⟨u, rfl, t, rfl⟩ := Fk r
   exact call_int_int ⟨.int i, H, I, ⟨_, rfl⟩, q⟩
 . obtain ⟨u, rfl, r1⟩ := Fk r
   cases r1; exact call_int_bool ⟨.int (if k then 1 else 0), H, I.tok _, ⟨_, rfl⟩, q⟩
def LenV (K : PySem.W.Frag) (x : V) (H : Hp) (n : Nat) : Prop :=
 match x with
 | .str y => y.length <= sizeLine /\ n = y.length
 | .byt y => y.size <= sizeLine /\ n = y.size
 | .ref p => (∃ xs, SqL K H p xs /\ n = xs.length) \/ ∃ xs, SqT K H p xs /\ n = xs.length
 | _ => False
theorem Js : R0 X (.builtin "len") (fun xs H Q => ∃ x n, xs = [x] /\ LenV X.K x H n /\ Q (.int n) H) := by
 intro pins s Z H xs us Q I r h
 obtain ⟨x, n, rfl, e, q⟩ := h
 obtain ⟨u, rfl, rx⟩ := Fk r
 have hl := Al
 have hs : sizeLine = 16777216 := sizeLine_eq
 cases x with
 | str y =>
   obtain ⟨t, rfl⟩ := rx; obtain ⟨hy, e'⟩ : y.length <= sizeLine /\ n = y.length := e; subst e'; exact len_str (by omega) ⟨.int _, H, I.tok _, ⟨_, rfl⟩, q⟩
 | byt y =>
   obtain ⟨t, rfl⟩ := rx; obtain ⟨hy, e'⟩ : y.size <= sizeLine /\ n = y.size := e; subst e'; exact PySem.W.len_bytes (by omega) ⟨.int _, H, I.tok _, ⟨_, rfl⟩, q⟩
 | ref p =>
   cases rx; have e' : (∃ xs, SqL X.K H p xs /\ n = xs.length) \/ ∃ xs, SqT X.K H p xs /\ n = xs.length := e; rcases e' with ⟨xs, hx, e'⟩ | ⟨xs, hx, e'⟩
   . subst e'
     obtain ⟨its, r', pl, hz⟩ := I.list hx; have hlen := r'.length; exact Calls.call_len_list pl.isList (by simp only [List.size_toArray]; omega) ⟨.int xs.length, H, I.tok _, ⟨_, by simp only [List.size_toArray]; rw [hlen]⟩, q⟩
   . subst e'
     obtain ⟨its, r', pl, hz⟩ := I.tuple hx; have hlen := r'.length; exact len_tuple pl (by simp only [List.size_toArray]; omega) ⟨.int xs.length, H, I.tok _, ⟨_, by simp only [List.size_toArray]; rw [hlen]⟩, q⟩
 | _ => exact (show False from e).elim
end
end L2
namespace L2
open PySem PySem.Spec PyProof.Rows
theorem RelO.some_of {v : V} {o : Option Value} (r : RelO (some v) o) : ∃ u, o = some u /\ RelV v u := by
 cases o with
 | none => exact (show False from r).elim
 | some u => exact ⟨u, rfl, r⟩
end L2
namespace L2
open PySem PySem.Spec PyProof.Rows
structure Room (k : Nat) (A : Around) : Prop where
 hd : A.handled = none
 dp : A.depth + 3 * k + 5 < recursionLimit
 un : A.units + 16 * k + 200 < cLine
 gd : A.guards = some []
theorem Room.mono {j k : Nat} {A : Around} (r : Room k A) (h : j <= k) : Room j A := ⟨r.hd, by have := r.dp; omega, by have := r.un; omega, r.gd⟩
theorem Room.deeper {k : Nat} {A : Around} (r : Room (k + 1) A) (env : Env) : Room k (A.deeper env) :=
 ⟨r.hd, by have := r.dp; show A.depth + 1 + 3 * k + 5 < _; omega, by have := r.un; show A.units + 3 + 16 * k + 200 < _; omega, r.gd⟩
theorem Room.depth {k : Nat} {A : Around} (r : Room k A) : A.depth < recursionLimit := by have := r.dp; omega
theorem Room.units {k : Nat} {A : Around} (r : Room k A) : A.units + 64 < cLine := by have := r.un; omega
def Us : TA := fun _ H Q => Q [] H
def Cy (ta : TE) (tr : TA) : TA := fun Z H Q => ta Z H fun x H1 => tr Z H1 fun xs H2 => Q (x :: xs) H2
section
variable {X : Cx} {e : Expr} {es : List Expr} {te : TE} {t : TA} {pos : Pos}
theorem M9 : PA X [] Us := fun _ _ _ _ H Q I h => Calls.spliced_nil ⟨[], H, I, .nil, h⟩
theorem F6 (ha : PE X e te) (hr : PA X es t) (hs : starEach (e :: es) X.env = (false, eval e X.env) :: starEach es X.env := by rfl) : PA X (e :: es) (Cy te t) := by
 intro pos pins s Z H Q I h
 rw [hs]
 show wpAny _ _ (spliced ((false, eval e X.env) :: backTo pos (starEach es X.env))) _ _ s
 refine Calls.spliced_cons (thn (ha pins s Z H _ I h) fun u s1 ⟨x, H1, I1, r1, q1⟩ => ?_)
 exact thn (hr pos pins s1 Z H1 _ I1 q1) fun us s2 ⟨xs, H2, I2, r2, q2⟩ => ⟨x :: xs, H2, I2, .cons r1 r2, q2⟩
def tTup (t : TA) : TE := fun Z H Q => t Z H fun xs H1 => xs.length <= sizeLine /\ ∀ p, H1 p = none -> Q (.ref p) (upd H1 p (.tup xs))
def tLst (t : TA) : TE := fun Z H Q => t Z H fun xs H1 => xs.length <= sizeLine /\ ∀ p, H1 p = none -> Q (.ref p) (upd H1 p (.lst xs))
theorem Qx {x1} (h : PA X es t) : PE X (.Tuple es x1 pos) (tTup t) := by
 intro pins s Z H Q I hq
 refine wpAny_Tuple_spliced (thn (h pos pins s Z H _ I hq) fun us s1 ⟨xs, H1, I1, r, z, q⟩ => ⟨by rw [<- r.length]; exact z, ?_⟩)
 have hf : H1 s1.heap.objs.size = none := I1.hok.fresh (Nat.le_refl _)
 refine ⟨.ref s1.heap.objs.size, upd H1 s1.heap.objs.size (.tup xs), I1.laid (t' := s1.toks) (fun b u e => Heap.get?_push_of_some _ e) (Nat.le_refl _) ?_, rfl, q _ hf⟩
 exact ⟨z, us, r, ⟨_, Heap.get?_push_size _ rfl, rfl, _, rfl⟩⟩
theorem Iv (h : PA X es t) : PE X (.List es pos) (tLst t) := by
 intro pins s Z H Q I hq
 refine wpAny_List_spliced (thn (h pos pins s Z H _ I hq) fun us s1 ⟨xs, H1, I1, r, z, q⟩ => ⟨by rw [<- r.length]; exact z, ?_⟩)
 have hf : H1 s1.heap.objs.size = none := I1.hok.fresh (Nat.le_refl _)
 refine ⟨.ref s1.heap.objs.size, upd H1 s1.heap.objs.size (.lst xs), I1.laid (t' := s1.toks) (fun b u e => Heap.get?_push_of_some _ e) (Nat.le_refl _) ?_, rfl, q _ hf⟩
 exact ⟨z, us, 0, r, Heap.get?_push_size _ rfl⟩
end
abbrev Sp := List V -> Hp -> VK -> XK -> Prop
abbrev CXT := List Env -> Hp -> Shared -> XK -> Value -> Shared -> Prop
structure Env0 (P : Program) (w : World) (K : PySem.W.Frag) (mg : Str -> Option Value) (base : Heap) (A : Around) (outer : List Env) (s : Shared) (H : Hp) : Prop where
 frames : A.frames = some outer
 mod : Mod K mg base
 bs : ∀ b o, base.get? b = some o -> s.heap.get? b = some o /\ H b = none
 bsz : base.objs.size <= s.heap.objs.size
 funs : s.heap.FunFrames base outer
 frf : ∀ b ∈ frs outer, H b = none
 hok : HOk P w H s.heap
 bare : AllBare s.gens
def CE (outer : List Env) (P : Program) (w : World) (H : Hp) (s : Shared) (Q : VK) (u : Value) (s' : Shared) : Prop :=
 ∃ v H', s'.os = s.os /\ AllBare s'.gens /\ Un (frs outer) [] H H' s.heap s'.heap /\ HOk P w H' s'.heap /\ RelV v u /\ Q v H'
def CR (CX : CXT) (outer : List Env) (P : Program) (w : World) (H : Hp) (s : Shared) (Q : VK) (E : XK) (r : Result) (s' : Shared) : Prop :=
 match r with
 | .ok (.ret u) => CE outer P w H s Q u s'
 | .ok _ => False
 | .error e => CX outer H s E e s'
structure FnOk (P : Program) (w : World) (K : PySem.W.Frag) (mg : Str -> Option Value) (base : Heap) (CX : CXT) (k : Nat) (f : Addr) (fd : FuncData) (ps : List Str) (sp : Sp) : Prop where
 len : ∀ vs H Q E, sp vs H Q E -> vs.length = ps.length
 run : ∀ (A : Around) (outer : List Env) (s : Shared) (H : Hp) (args : Args) (us : List Value) (vs : List V) (Q : VK) (E : XK), Room k A -> Env0 P w K mg base A outer s H -> BindsTo s fd args (ps.zip us) -> Vals vs us -> sp vs H Q E ->
   codeAny (model P w) A (.call (.ref f) args) (CR CX outer P w H s Q E) s
section
variable {X : Cx} {pins : List (Addr × Obj)} {Z : St} {H : Hp} {s s' : Shared}
theorem Inv.env0 (I : Inv X pins Z H s) : Env0 X.prog X.w X.K X.mg X.base X.A X.stack s H :=
 ⟨I.ok.frames, I.ok.mod, I.bs, Nat.le_trans I.ok.bsz I.sz, I.stack, I.stkFree, I.hok, I.bare⟩
theorem Inv.after {Q : VK} {u : Value} (I : Inv X pins Z H s) (h : CE X.stack X.prog X.w H s Q u s') : EP X pins Z Q u s' := by
 obtain ⟨v, H', os, bare, un, hok, r, q⟩ := h
 obtain ⟨hh, g, d, t, os'⟩ := s'
 obtain rfl : os' = s.os := os
 exact ⟨v, H', I.call (h' := hh) (g' := g) (d' := d) (t' := t) (ch := []) un hok bare (fun b z => absurd z (by simp)), r, q⟩
end
def tCall (sp : Sp) (dvs : List V) (E : XK) (t : TA) : TE := fun Z H Q => t Z H fun vs H1 => sp (vs ++ dvs) H1 Q E
def Binds (K : PySem.W.Frag) (fd : FuncData) (ps : List Str) (ds : List Value) : Prop :=
 ∀ (s : Shared) (us : List Value), K.In s.heap -> (us ++ ds).length = ps.length -> BindsTo s fd ⟨us, []⟩ (ps.zip (us ++ ds))
theorem Binds.all {K : PySem.W.Frag} {fd : FuncData} {ps : List Str} (h : ∀ us : List Value, us.length = ps.length -> bindArgs fd ⟨us, []⟩ = pure (ps.zip us)) : Binds K fd ps [] := fun s us _ hl => by
 rw [List.append_nil] at hl ⊢
 exact .of_eq (h us hl)
def Od (CX : CXT) (X : Cx) (E : XK) : Prop := ∀ (pins : List (Addr × Obj)) (Z : St) (H : Hp) (s : Shared) (e : Value) (s' : Shared), Inv X pins Z H s -> CX X.stack H s E e s' -> X.xe e s'
section
variable {X : Cx} {CX : CXT} {k : Nat} {f : Addr} {fd : FuncData} {ps : List Str} {sp : Sp} {dvs : List V} {ds : List Value} {E : XK} {x : Str} {p pos : Pos} {e : Expr} {es : List Expr} {t : TA}
theorem gA {pins : List (Addr × Obj)} {Z : St} {H : Hp} {s : Shared} {Q : VK} {us : List Value} {vs : List V} (F : FnOk X.prog X.w X.K X.mg X.base CX k f fd ps sp) (hr : Room k X.A) (hb : Binds X.K fd ps ds) (hd : Vals dvs ds) (hx : Od CX X E)
   (I : Inv X pins Z H s) (r : Vals vs us) (h : sp (vs ++ dvs) H Q E) : wpAny (model X.prog X.w) X.A (call (.ref f) us) (EP X pins Z Q) X.xe s := by
 have r2 : Vals (vs ++ dvs) (us ++ ds) := r.append hd
 have hl : (us ++ ds).length = ps.length := by rw [<- r2.length]; exact F.len _ _ _ _ h
 refine wpAny_call (codeAny_mono (F.run X.A X.stack s H ⟨us, []⟩ (us ++ ds) (vs ++ dvs) Q E hr I.env0 (hb s us I.kIn hl) r2 h) fun r s' hq => ?_)
 cases r with
 | error e => exact hx pins Z H s e s' I hq
 | ok fl =>
   cases fl with
   | ret u => exact I.after hq
   | next => exact False.elim hq
   | brk => exact False.elim hq
   | cont => exact False.elim hq
theorem Dh (F : FnOk X.prog X.w X.K X.mg X.base CX k f fd ps sp) (hr : Room k X.A) (hg : Gl X x) (hm : X.mg x = some (.ref f)) (hk : PySem.W.keepIn X.K (.ref f) = true) (hb : Binds X.K fd ps ds) (hd : Vals dvs ds) (hx : Od CX X E)
   (ha : PA X (e :: es) t) (hdb : (x == ("__debug__" : Str)) = false := by decide) (he : starEach (e :: es) X.env = (false, eval e X.env) :: starEach es X.env := by rfl) (hpl : (backTo pos (starEach es X.env)).any (·.1) = false := by rfl) :
   PE X (.Call (.Name x p) (e :: es) [] pos) (tCall sp dvs E t) := by
 intro pins s Z H Q I h
 refine wpAny_Call_Name_kw (Dk I hg hm ?_ hdb)
 refine PySem.W.callWith_K (h₀ := X.base) I.ok.mod.kin hk (thn (ha pos pins s Z H _ I h) fun us s1 ⟨vs, H1, I1, r, q⟩ => ⟨I1.kIn, ?_⟩) he hpl
 exact gA F hr hb hd hx I1 r q
end
def PK (X : Cx) (kws : List Keyword) (t : TA) : Prop :=
 ∀ (pos : Pos) (pins : List (Addr × Obj)) (s : Shared) (Z : St) (H : Hp) (Q : List V -> Hp -> Prop), Inv X pins Z H s -> t Z H Q -> wpAny (model X.prog X.w) X.A (evalAll ((backToKw pos (keywordEach kws X.env)).map (·.2))) (AP X pins Z Q) X.xe s
section
variable {X : Cx} {x : Str} {pos kpos : Pos} {e : Expr} {kws : List Keyword} {te : TE} {t : TA} {nm : Option Str}
theorem gP : PK X [] Us := fun _ _ _ _ H Q I h => wpAny_evalAll_nil ⟨[], H, I, .nil, h⟩
theorem cG (ha : PE X e te) (hr : PK X kws t) : PK X (⟨nm, e, kpos⟩ :: kws) (Cy te t) := by
 intro pos pins s Z H Q I h
 show wpAny _ _ (evalAll ((do let v <- eval e X.env; standAt pos; pure v) :: (backToKw pos (keywordEach kws X.env)).map (·.2))) _ _ s
 refine wpAny_evalAll_cons (wpAny_bind (thn (ha pins s Z H _ I h) fun u s1 ⟨x, H1, I1, r1, q1⟩ => wpAny_bind (wpAny_standAt (wpAny_pure ?_))))
 exact thn (hr pos pins s1 Z H1 _ I1 q1) fun us s2 ⟨xs, H2, I2, r2, q2⟩ => ⟨x :: xs, H2, I2, .cons r1 r2, q2⟩
end
structure FnScope (N P : List Str) (sc : Scope) : Prop where
 kind : sc.kind = .function
 co : sc.isCoroutine = false
 gen : sc.isGenerator = false
 nd : N.Nodup
 pre : N.take P.length = P
 par : ∀ x ∈ P, sc.names.lookup x = some .local \/ sc.names.lookup x = some .cell
 nofree : ∀ y ∈ sc.names, y.2 ≠ .free
theorem Ly {kindOf : Str -> Option NameKind} {x : Str} : ∀ {binds : List (Str × Value)} {m : Str -> Option Value}, (∀ v, (x, v) ∉ binds) -> bindL kindOf binds m x = m x
 | [], _, _ => rfl
 | (n, v) :: r, m, h => by
   unfold bindL; rw [Ly fun w hw => h w (List.mem_cons_of_mem _ hw)]
   split
   . have : x ≠ n := by rintro rfl; exact h v List.mem_cons_self
     simp [this]
   . rfl
theorem Ma {kindOf : Str -> Option NameKind} {x : Str} : ∀ {binds : List (Str × Value)} {m : Str -> Option Value}, (∀ v, (x, v) ∉ binds) -> bindC kindOf binds m x = m x
 | [], _, _ => rfl
 | (n, v) :: r, m, h => by
   unfold bindC; rw [Ma fun w hw => h w (List.mem_cons_of_mem _ hw)]
   split
   . rfl
   . have : x ≠ n := by rintro rfl; exact h v List.mem_cons_self
     simp [this]
theorem Lz {kindOf : Str -> Option NameKind} {x : Str} {v : Value} : ∀ {P : List Str} {vs : List Value} {i : Nat} {m : Str -> Option Value}, P.Nodup -> P[i]? = some x -> vs[i]? = some v -> kindOf x = some .local ->
   bindL kindOf (P.zip vs) m x = some v
 | [], _, _, _, _, h, _, _ => by simp at h
 | _ :: _, [], _, _, _, _, h, _ => by simp at h
 | p :: P, w :: vs, 0, m, nd, h1, h2, hk => by
   simp at h1 h2; subst h1; subst h2
   show bindL kindOf ((p, w) :: P.zip vs) m p = _
   unfold bindL; rw [Ly fun v hv => (List.nodup_cons.mp nd).1 (List.of_mem_zip hv).1, if_pos hk]
   simp
 | p :: P, w :: vs, i + 1, m, nd, h1, h2, hk => by
   show bindL kindOf ((p, w) :: P.zip vs) m x = _
   unfold bindL; exact Lz (i := i) (List.nodup_cons.mp nd).2 (by simpa using h1) (by simpa using h2) hk
theorem Mb {kindOf : Str -> Option NameKind} {x : Str} {v : Value} : ∀ {P : List Str} {vs : List Value} {i : Nat} {m : Str -> Option Value}, P.Nodup -> P[i]? = some x -> vs[i]? = some v -> kindOf x ≠ some .local ->
   bindC kindOf (P.zip vs) m x = some v
 | [], _, _, _, _, h, _, _ => by simp at h
 | _ :: _, [], _, _, _, _, h, _ => by simp at h
 | p :: P, w :: vs, 0, m, nd, h1, h2, hk => by
   simp at h1 h2; subst h1; subst h2
   show bindC kindOf ((p, w) :: P.zip vs) m p = _
   unfold bindC; rw [Ma fun v hv => (List.nodup_cons.mp nd).1 (List.of_mem_zip hv).1, if_neg hk]
   simp
 | p :: P, w :: vs, i + 1, m, nd, h1, h2, hk => by
   show bindC kindOf ((p, w) :: P.zip vs) m x = _
   unfold bindC; exact Mb (i := i) (List.nodup_cons.mp nd).2 (by simpa using h1) (by simpa using h2) hk
def W8 (N : List Str) (vs : List V) : St := vs.map some ++ List.replicate (N.length - vs.length) none
def Nz (CX : CXT) (P : Program) (w : World) (K : PySem.W.Frag) (mg : Str -> Option Value) (base : Heap) (N : List Str) (qual : Str) (scope : Scope) (f : Addr) (cd : Value) (A : Around) (outer : List Env) (s : Shared) (H : Hp) (E : XK) : Cx where
 prog := P
 w := w
 K := K
 mg := mg
 base := base
 A := A.deeper (envOfC qual scope s.heap.objs.size f cd)
 N := N
 s₀ := s
 H₀ := H
 env := envOfC qual scope s.heap.objs.size f cd
 outer := outer
 stack := envOfC qual scope s.heap.objs.size f cd :: outer
 ex := []
 calm := true
 fn := fun _ => true
 pn := []
 xe := fun e s' => wpAny (model P w) (A.deeper (envOfC qual scope s.heap.objs.size f cd)) (leaving (envOfC qual scope s.heap.objs.size f cd) e) (fun _ s'' => CX outer H s E e s'') (fun e' s'' => CX outer H s E e' s'') s'
theorem Pt {sc : Scope} {n : Nat} {x : Str} (h : sc.names.lookup x = some .cell) : ∃ c, (cellsFrom n sc.names []).lookup x = some c := by
 have q := PySem.W.cellsFrom_some sc.names n [] (.inl h)
 exact Option.isSome_iff_exists.mp q
theorem Lh {CX : CXT} {P : Program} {w : World} {K : PySem.W.Frag} {mg : Str -> Option Value} {base : Heap} {N ps : List Str} {qual : Str} {scope : Scope} {f : Addr} {cd : Value} {A : Around} {outer : List Env} {s s1 : Shared} {H : Hp} {E : XK} {us : List Value} {vs : List V}
   (S : FnScope N ps scope) (hd : A.handled = none) (e0 : Env0 P w K mg base A outer s H) (hl : vs.length = ps.length) (r : Vals vs us)
   (x : InCallC s s.heap.objs.size (bindL (envOfC qual scope s.heap.objs.size f cd).kindOf (ps.zip us) fun _ => none) (cellsFrom (s.heap.objs.size + 1) scope.names []) (bindC (envOfC qual scope s.heap.objs.size f cd).kindOf (ps.zip us) fun _ => none) s1) :
   Inv (Nz CX P w K mg base N qual scope f cd A outer s H E) [] (W8 N vs) H s1 := by
 have hpl : ps.length <= N.length := by have := congrArg List.length S.pre; rw [List.length_take] at this; omega
 obtain ⟨h1, tk, rfl, hk⟩ := x.done
 have noA : ∀ b : Addr, b ∉ (Nz CX P w K mg base N qual scope f cd A outer s H E).ex := fun b z => absurd (show b ∈ ([] : List Addr) from z) (by simp)
 refine ⟨⟨e0.mod, S.kind, rfl, rfl, Nat.le_refl _, fun y z c h1 h2 => ?_, fun y hy => ?_, fun y c _ h => ?_, fun _ => hd, Around.frames_deeper e0.frames, .inr ⟨rfl, rfl⟩, fun b z => absurd z (noA b), e0.bs, e0.bsz, fun b _ _ => noA b, fun b z => absurd z (noA b), e0.funs, e0.frf⟩,
   rfl, e0.bare, Un.kept hk, ⟨_, x.toInCall.ns, fun i y v h1 h2 h3 => ?_⟩, fun y c h => ⟨_, x.cell y c h⟩, e0.hok.fresh (Nat.le_refl _), fun y c h => ?_, fun p hp => absurd (show p ∈ ([] : List (Addr × Obj)) from hp) (by simp), e0.hok.kept hk, ?_⟩
 . exact name_of_addr x.apart (PySem.mem_of_lookup h1) (PySem.mem_of_lookup h2)
 . have hy : scope.names.lookup y = some .cell \/ scope.names.lookup y = some .free := hy
   rcases hy with hy | hy
   . exact Pt hy
   . exact absurd rfl (S.nofree _ (PySem.mem_of_lookup hy))
 . exact Nat.le_of_lt (x.above y c (PySem.mem_of_lookup h))
 . have hi : i < vs.length := by
     unfold W8 at h2
     by_cases hi : i < vs.length
     . exact hi
     . rw [List.getElem?_append_right (by simpa using hi)] at h2
       rw [List.getElem?_replicate] at h2
       split at h2 <;> cases h2
   have ha : vs[i]? = some v := by
     unfold W8 at h2; rw [List.getElem?_append_left (by simpa using hi), List.getElem?_map] at h2
     cases e : vs[i]? with
     | none => rw [e] at h2; cases h2
     | some a => rw [e] at h2; cases h2; rfl
   obtain ⟨u, hu, rv⟩ := r.get ha; have hp : ps[i]? = some y := by
     rw [<- S.pre, List.getElem?_take_of_lt (by omega)]; exact h1
   have ndP : ps.Nodup := by rw [<- S.pre]; exact S.nd.sublist (List.take_sublist _ _)
   refine ⟨u, rv, ?_⟩; rcases S.par y (List.mem_of_getElem? hp) with k | k
   . exact .inl ⟨k, Lz ndP hp hu k⟩
   . obtain ⟨c, e⟩ := Pt (n := s.heap.objs.size + 1) k
     refine .inr ⟨.inl k, c, e, ?_⟩; have q := x.cell y c e; rw [Mb ndP hp hu (by show scope.names.lookup y ≠ _; rw [k]; decide)] at q
     exact q
 . exact e0.hok.fresh (Nat.le_of_lt (x.above y c (PySem.mem_of_lookup h)))
 . unfold W8
   show _ = N.length
   rw [List.length_append, List.length_map, List.length_replicate]; omega
theorem fE {CX : CXT} {P : Program} {w : World} {K : PySem.W.Frag} {mg : Str -> Option Value} {base : Heap} {k : Nat} {f : Addr} {name qual : Str} {params : Arguments} {body : List Stmt} {scope : Scope} {dV kV doc pm cdv ct oc : Value} {an od : Option Addr}
   {osl : Array (Option Value)} {N ps : List Str} {sp : Sp} (lk : K.lookup f = some ⟨oc, od, .func (PySem.W.fnOf name qual params body scope dV kV doc pm an cdv ct), osl⟩) (hcd : PySem.W.codeIn K cdv qual = true) (S : FnScope N ps scope)
   (len : ∀ vs H Q E, sp vs H Q E -> vs.length = ps.length)
   (hbody : ∀ (A : Around) (outer : List Env) (s : Shared) (H : Hp) (vs : List V) (Q : VK) (E : XK), Room k (A.deeper (envOfC qual scope s.heap.objs.size f cdv)) -> sp vs H Q E ->
     ∃ t, PSs (Nz CX P w K mg base N qual scope f cdv A outer s H E) body t /\ t { nx := fun _ H' => Q .non H', rt := Q } (W8 N vs) H) :
   FnOk P w K mg base CX (k + 1) f (PySem.W.fnOf name qual params body scope dV kV doc pm an cdv ct) ps sp := by
 refine ⟨len, fun A outer s H args us vs Q E hr e0 hb r hsp => ?_⟩
 have hl := len _ _ _ _ hsp
 have KX : K.In s.heap := e0.mod.kin.keeps fun b o e => (e0.bs b o e).1
 have lim : s.heap.NoLimit := e0.mod.nolimit.keeps fun b o e => (e0.bs b o e).1
 have hkind : ∀ y ∈ ps.zip us, scope.names.lookup y.1 = some .local \/ (scope.names.lookup y.1 = some .cell /\ ((cellsFrom (s.heap.objs.size + 1) scope.names []).lookup y.1).isSome = true) := fun ⟨n, v⟩ hy => by
   rcases S.par n (List.of_mem_zip hy).1 with q | q
   . exact .inl q
   . exact .inr ⟨q, PySem.W.cellsFrom_some _ _ _ (.inl q)⟩
 refine codeAny_call_function hr.depth (KX _ _ lk) rfl S.co S.gen rfl (PySem.W.codeRec_of KX hcd) (hb _ _ _ _ ?_)
 refine wpAny_newFunctionEnv_cells S.kind hkind fun env he s1 x => ?_
 subst he
 refine ⟨lim.keeps x.toInCall.keep, codeAny_func ?_⟩
 obtain ⟨t, ht, hq⟩ := hbody A outer s H vs Q E (hr.deeper _) hsp
 have I : Inv (Nz CX P w K mg base N qual scope f cdv A outer s H E) [] (W8 N vs) H s1 := Lh S hr.hd e0 hl r x
 refine wpAny_mono (ht [] s1 (W8 N vs) H _ I hq) (fun fl s' hs => ?_) fun e s' hs => hs
 have fin : ∀ {Z' : St} {H' : Hp} {v : V} {u : Value}, Inv (Nz CX P w K mg base N qual scope f cdv A outer s H E) [] Z' H' s' -> RelV v u -> Q v H' -> CE outer P w H s Q u s' :=
   fun {Z' H' v u} J rv q => ⟨v, H', J.os, J.bare, J.base, J.hok, rv, q⟩
 cases fl with
 | ret u =>
   obtain ⟨v, Z', H', J, rv, q⟩ := hs; exact fin J rv q
 | next =>
   obtain ⟨Z', H', J, q⟩ := hs; exact fin (v := V.non) (u := Value.none) J rfl q
 | brk =>
   obtain ⟨_, _, _, q⟩ := hs; exact False.elim q
 | cont =>
   obtain ⟨_, _, _, q⟩ := hs; exact False.elim q
end L2
namespace L2
open PySem PySem.Spec PyProof.Rows
section
variable {X : Cx} {x : Str} {p pos : Pos} {e : Expr} {es : List Expr} {t : TA} {id T : String} {r : List V -> Hp -> VK -> Prop}
def tCB (r : List V -> Hp -> VK -> Prop) (t : TA) : TE := fun Z H Q => t Z H fun vs H1 => r vs H1 Q
theorem Bb (hc : R0 X (.builtin id) r) (hg : Gl X x) (hm : X.mg x = none) (hv : bootBuiltins x = some (.builtin id)) (ha : PA X (e :: es) t) (hn : x ≠ "__name__" := by decide) (hdb : (x == ("__debug__" : Str)) = false := by decide)
   (he : starEach (e :: es) X.env = (false, eval e X.env) :: starEach es X.env := by rfl) (hpl : (backTo pos (starEach es X.env)).any (·.1) = false := by rfl) : PE X (.Call (.Name x p) (e :: es) [] pos) (tCB r t) := by
 intro pins s Z H Q I h
 refine wpAny_Call_Name_kw (Ci I hg hm hv ?_ hn hdb)
 exact PyProof.Rows.callWith_builtin1 (thn (ha pos pins s Z H _ I h) fun us s1 ⟨vs, H1, I1, r1, q1⟩ => hc pins s1 Z H1 vs us Q I1 r1 q1) he hpl
theorem Ky (hc : R0 X (.type T) r) (hg : Gl X x) (hm : X.mg x = none) (hv : bootBuiltins x = some (.type T)) (ha : PA X (e :: es) t) (hn : x ≠ "__name__" := by decide) (hdb : (x == ("__debug__" : Str)) = false := by decide)
   (he : starEach (e :: es) X.env = (false, eval e X.env) :: starEach es X.env := by rfl) (hpl : (backTo pos (starEach es X.env)).any (·.1) = false := by rfl) : PE X (.Call (.Name x p) (e :: es) [] pos) (tCB r t) := by
 intro pins s Z H Q I h
 refine wpAny_Call_Name_kw (Ci I hg hm hv ?_ hn hdb)
 exact PyProof.Rows.callWith_type1 (thn (ha pos pins s Z H _ I h) fun us s1 ⟨vs, H1, I1, r1, q1⟩ => hc pins s1 Z H1 vs us Q I1 r1 q1) he hpl
end
end L2
namespace HT
open PySem PyProof.Rows
section
variable {prog : Program} {w : World} {A : Around} {E : Value -> Shared -> Prop} {s : Shared}
theorem cat_tup {t b : Addr} {vs ws : List Value} {Q : Value -> Shared -> Prop} (ht : IsTup s.heap t vs.toArray) (hb : IsTup s.heap b ws.toArray) (hv : vs ≠ [])
   (h1 : ws = [] -> Q (.ref t) s) (h2 : ws ≠ [] -> Q (.ref s.heap.objs.size) { s with heap := s.heap.push { cls := .type "tuple", data := .seq (vs ++ ws).toArray } })
   (hsz : vs.length + ws.length <= sizeLine) : wpAny (model prog w) A (binaryOp .Add (.ref t) (.ref b)) Q E s := by
 obtain ⟨⟨cls, dd, data, sl⟩, ho, hc, n, hd⟩ := id ht
 obtain ⟨⟨cls2, dd2, data2, sl2⟩, ho2, hc2, n2, hd2⟩ := id hb
 simp only at hc hd hc2 hd2
 subst hc hd hc2 hd2
 have e : vs.toArray ++ ws.toArray = (vs ++ ws).toArray := by simp
 by_cases hw : ws = []
 . exact concat_meets ⟨_, ho, rfl⟩ ⟨_, ho2, rfl⟩ noFill_tuple_add seq_tuple_add PySem.F.slot_tuple_add PySem.F.entry_tuple_add (PySem.F.args_tuple_add_2 _ _)
     (tuple_addW1 t b vs.toArray ws.toArray n n2 dd dd2 sl sl2 (by simpa using hv) (by simp [hw])) ⟨ho, ho2, h1 hw⟩
 . refine concat_meets ⟨_, ho, rfl⟩ ⟨_, ho2, rfl⟩ noFill_tuple_add seq_tuple_add PySem.F.slot_tuple_add PySem.F.entry_tuple_add (PySem.F.args_tuple_add_2 _ _)
     (tuple_addW2 t b vs.toArray ws.toArray n n2 dd dd2 sl sl2 (by simpa using hv) (by simpa using hw) (by rw [List.size_toArray, List.size_toArray]; exact hsz)) ⟨ho, ho2, ?_⟩
   rw [e]; exact h2 hw
def sIx (n d : Nat) : Option Int -> Nat
 | none => d
 | some v => if v < 0 then (v + (n : Int)).toNat else min v.toNat n
theorem fW (n d : Nat) (hd : d <= n) (o : Option Int) : sIx n d o <= n := by
 cases o with
 | none => exact hd
 | some v =>
   show (if v < 0 then (v + (n : Int)).toNat else min v.toNat n) <= n
   by_cases hv : v < 0
   . rw [if_pos hv]; omega
   . rw [if_neg hv]; exact Nat.min_le_right _ _
theorem Tx (v : Int) (n d : Nat) : (if v < 0 then max (v + (n : Int)) 0 else min v (n : Int)) = ((sIx n d (some v) : Nat) : Int) := by
 show (if v < 0 then max (v + (n : Int)) 0 else min v (n : Int)) = (((if v < 0 then (v + (n : Int)).toNat else min v.toNat n) : Nat) : Int)
 by_cases hv : v < 0
 . simp only [if_pos hv]; omega
 . simp only [if_neg hv]; omega
theorem Ru (lo hi : Option Int) (n : Nat) : Builtin.Slice.sliceAdjust lo hi 1 (n : Int) = (((sIx n 0 lo : Nat) : Int), ((sIx n n hi : Nat) : Int)) := by
 have h1 : ¬ ((1 : Int) < 0) := by omega
 unfold Builtin.Slice.sliceAdjust
 simp only [h1, if_false]
 refine Prod.ext ?_ ?_
 . cases lo with
   | none => rfl
   | some v => exact Tx v n 0
 . cases hi with
   | none => rfl
   | some v => exact Tx v n n
theorem Qw (i j : Nat) : Builtin.Slice.slicePlaces (i : Int) (j : Int) 1 = j - i := by
 unfold Builtin.Slice.slicePlaces
 have h1 : (1 : Int) > 0 := by omega
 simp only [h1, if_true, Int.ediv_one]
 split <;> omega
theorem Ij {v : Value} {o : Option Int} {Q : Option Int -> Shared -> Prop} (p : IsPart v o) (h : Q o s) : wpAny (model prog w) A (Builtin.Slice.slicePartIndex v) Q E s := by
 cases p with
 | none => exact slicePart_none h
 | int i t => exact slicePart_int h
theorem sliceApplied_gen {sl : Addr} {vl vu : Value} {lo hi : Option Int} {n : Nat} {Q : Int × Int × Nat -> Shared -> Prop} (hs : s.heap.IsSliceOf sl vl vu .none) (pl : IsPart vl lo) (pu : IsPart vu hi)
   (h : Q (((sIx n 0 lo : Nat) : Int), 1, sIx n n hi - sIx n 0 lo) s) : wpAny (model prog w) A (Builtin.Slice.sliceApplied (.ref sl) (pure (n : Int))) Q E s := by
 obtain ⟨os, hos, hcs, hds⟩ := id hs
 unfold Builtin.Slice.sliceApplied Builtin.Slice.sliceFields
 refine wpAny_bind (wpAny_bind (wpAny_field hos hds (x := vl) rfl (wpAny_bind (wpAny_field hos hds (x := vu) rfl (wpAny_bind (wpAny_field hos hds (x := .none) rfl (wpAny_pure ?_)))))))
 refine wpAny_bind (slicePart_none ?_)
 show wpAny _ _ (if ((1 : Int) == 0) = true then _ else _) _ _ s
 rw [if_neg (by decide)]
 refine wpAny_bind (Ij pl (wpAny_bind (Ij pu (wpAny_bind (wpAny_pure ?_)))))
 show wpAny _ _ (match Builtin.Slice.sliceAdjust lo hi 1 (n : Int) with | (lo, hi) => pure (lo, (1 : Int), Builtin.Slice.slicePlaces lo hi 1)) _ _ s
 rw [Ru lo hi n]
 show wpAny _ _ (pure (((sIx n 0 lo : Nat) : Int), (1 : Int), Builtin.Slice.slicePlaces ((sIx n 0 lo : Nat) : Int) ((sIx n n hi : Nat) : Int) 1)) _ _ s
 rw [Qw]
 exact wpAny_pure h
theorem Yo (xs : Array Value) (i k : Nat) : ((List.range k).filterMap fun (m : Nat) => xs[((i : Int) + (m : Int) * 1).toNat]?).toArray = ((xs.toList.drop i).take k).toArray := by
 have e : (fun (m : Nat) => xs[((i : Int) + (m : Int) * 1).toNat]?) = fun m => xs[i + m]? := by
   funext m
   have : ((i : Int) + (m : Int) * 1).toNat = i + m := by omega
   rw [this]
 rw [e]
 have := pick_run xs i k
 rw [List.filterMap_map] at this
 have e2 : ((fun x => xs[x]?) ∘ fun x => i + x) = fun m => xs[i + m]? := rfl
 rw [e2] at this
 rw [this]
theorem getItem_tuple_cut {t sl : Addr} {items : Array Value} {vl vu : Value} {lo hi : Option Int} {Q : Value -> Shared -> Prop} (ht : IsTup s.heap t items) (hs : s.heap.IsSliceOf sl vl vu .none) (pl : IsPart vl lo) (pu : IsPart vu hi)
   (hw : ¬ (sIx items.size 0 lo = 0 /\ sIx items.size items.size hi = items.size))
   (h : Q (.ref s.heap.objs.size) { s with heap := s.heap.push { cls := .type "tuple", data := .seq ((items.toList.drop (sIx items.size 0 lo)).take (sIx items.size items.size hi - sIx items.size 0 lo)).toArray } })
   (hsz : items.size <= sizeLine) : wpAny (model prog w) A (getItem (.ref t) (.ref sl)) Q E s := by
 have htake : sizeOk (.seq ((items.toList.drop (sIx items.size 0 lo)).take (sIx items.size items.size hi - sIx items.size 0 lo)).toArray) := by
   show ((items.toList.drop (sIx items.size 0 lo)).take (sIx items.size items.size hi - sIx items.size 0 lo)).toArray.size <= sizeLine
   rw [List.size_toArray, List.length_take, List.length_drop, Array.length_toList]; omega
 have hj : sIx items.size items.size hi <= items.size := fW _ _ (Nat.le_refl _) hi
 obtain ⟨os, hos, hcs, hds⟩ := id hs
 have hTs : s.TypeIs (.ref sl) "slice" := ⟨os, hos, hcs⟩
 unfold getItem
 try with_reducible refine wpAny_holding ?_
 first | refine wpAny_bind (wpAny_pure ?_) | skip
 refine wpAny_bind (wpAny_sequenceKey ht.typeIs (by decide) ?_)
 refine wpAny_bind (wpAny_callSpecial?_slot (name := Str.ofString "__getitem__") ht.typeIs PyProof.Rows.slot_tuple_getitem
   (wpAny_call_entry PyProof.Rows.slot_tuple_getitem ht.typeIs entry_tuple_getitem ?_ (args_tuple_getitem _ _)))
 show wpAny _ _ (Builtin.Tuple.tupleItemsOf (.ref t) >>= _) _ _ s
 refine wpAny_bind (tupleItemsOf_ ht ?_)
 refine wpAny_bind (wpAny_typeOf hTs ?_)
 rw [if_pos (by decide)]
 refine wpAny_bind (sliceApplied_gen hs pl pu ?_)
 have hno : ¬ ((((sIx items.size 0 lo : Nat) : Int) == 0 && (1 : Int) == 1 && (sIx items.size items.size hi - sIx items.size 0 lo) == items.size) = true) := by
   intro q; rw [Bool.and_eq_true, Bool.and_eq_true] at q; have q1 : ((sIx items.size 0 lo : Nat) : Int) = 0 := eq_of_beq q.1.1; have q2 : sIx items.size items.size hi - sIx items.size 0 lo = items.size := eq_of_beq q.2; exact hw ⟨by omega, by omega⟩
 show wpAny _ _ (if (((sIx items.size 0 lo : Nat) : Int) == 0 && (1 : Int) == 1 && (sIx items.size items.size hi - sIx items.size 0 lo) == items.size) = true then _ else _) _ _ s
 rw [if_neg hno, Yo]
 first
   | exact wpAny_bind (m := Builtin.Tuple.tupleExact _) (wpAny_newObj_type (wpAny_pure ⟨_, rfl, wpAny_pure h⟩) htake)
   | exact wpAny_bind (m := Builtin.Tuple.tupleExact _) (wpAny_newObj_type (wpAny_bind (wpAny_pure (wpAny_pure ⟨_, rfl, wpAny_pure h⟩))) htake)
   | exact wpAny_bind (wpAny_bind (m := Builtin.Tuple.tupleExact _) (wpAny_newObj_type (wpAny_pure (wpAny_pure ⟨_, rfl, wpAny_pure h⟩)) htake))
   | exact wpAny_bind (wpAny_bind (m := Builtin.Tuple.tupleExact _) (wpAny_newObj_type (wpAny_pure ⟨_, rfl, wpAny_pure h⟩) htake))
end
end HT
namespace L2
open PySem PySem.Spec PyProof.Rows
abbrev TO := St -> Hp -> (Option Int -> Hp -> Prop) -> Prop
def PO (X : Cx) (e : Option Expr) (t : TO) : Prop :=
 ∀ (pins : List (Addr × Obj)) (s : Shared) (Z : St) (H : Hp) (Q : Option Int -> Hp -> Prop), Inv X pins Z H s -> t Z H Q ->
   wpAny (model X.prog X.w) X.A (evalPart e X.env) (fun u s' => ∃ o H', Inv X pins Z H' s' /\ IsPart u o /\ Q o H') X.xe s
def bJ : TO := fun _ H Q => Q none H
def tPart (t : TE) : TO := fun Z H Q => t Z H fun x H1 => ∃ i, x = .int i /\ Q (some i) H1
section
variable {X : Cx} {e : Expr} {te : TE} {lo hi : Option Expr} {tl th : TO} {pos p2 : Pos}
theorem cF : PO X none bJ := by
 intro pins s Z H Q I h
 rw [evalPart_none]
 exact wpAny_pure ⟨none, H, I, .none, h⟩
theorem cE (h : PE X e te) : PO X (some e) (tPart te) := by
 intro pins s Z H Q I hw
 rw [evalPart_some]
 refine thn (h pins s Z H _ I hw) fun u s1 ⟨x, H1, I1, r1, q1⟩ => ?_
 obtain ⟨i, rfl, q⟩ := q1
 obtain ⟨t, rfl⟩ := r1
 exact ⟨some i, H1, I1, .int i t, q⟩
def SlR (X : Cx) (r : V -> Option Int -> Option Int -> Hp -> VK -> Prop) : Prop :=
 ∀ (pins : List (Addr × Obj)) (s : Shared) (Z : St) (H : Hp) (x : V) (v vl vu : Value) (lo hi : Option Int) (sl : Addr) (Q : VK), Inv X pins Z H s -> RelV x v -> s.heap.IsSliceOf sl vl vu .none -> IsPart vl lo -> IsPart vu hi -> r x lo hi H Q ->
   ∃ T id, typeLookup (.type T) "__getitem__" = pure (some (.builtin id)) /\ s.TypeIs v T /\ wpAny (model X.prog X.w) X.A (getItem v (.ref sl)) (EP X pins Z Q) X.xe s
def tSl (r : V -> Option Int -> Option Int -> Hp -> VK -> Prop) (te : TE) (tl th : TO) : TE := fun Z H Q => te Z H fun x H1 => tl Z H1 fun l H2 => th Z H2 fun u H3 => r x l u H3 Q
theorem Yp {r : V -> Option Int -> Option Int -> Hp -> VK -> Prop} (hr : SlR X r) (he : PE X e te) (hl : PO X lo tl) (hu : PO X hi th) : PE X (.Subscript e (.Slice lo hi none p2) pos) (tSl r te tl th) := by
 intro pins s Z H Q I h
 refine Subscript_ (thn (he pins s Z H _ I h) fun v s1 ⟨x, H1, I1, r1, q1⟩ => ?_)
 refine wpAny_Slice (thn (hl pins s1 Z H1 _ I1 q1) fun vl s2 ⟨l, H2, I2, pl, q2⟩ => thn (hu pins s2 Z H2 _ I2 q2) fun vu s3 ⟨u, H3, I3, pu, q3⟩ => ?_)
 rw [evalPart_none]
 refine wpAny_pure ?_
 have I4 : Inv X pins Z H3 { s3 with heap := s3.heap.push { cls := .type "slice", data := .fields #[vl, vu, .none] } } := I3.kept (t' := s3.toks) fun b ob q => Heap.get?_push_of_some _ q
 obtain ⟨T, id, hT, ht, hg⟩ := hr pins { s3 with heap := s3.heap.push { cls := .type "slice", data := .fields #[vl, vu, .none] } } Z H3 x v vl vu l u s3.heap.objs.size Q I4 r1 (Heap.IsSliceOf.new ..) pl pu q3
 show wpAny (model X.prog X.w) X.A (subscriptTail e (.Slice lo hi none p2) v (.ref s3.heap.objs.size)) (EP X pins Z Q) X.xe { s3 with heap := s3.heap.push { cls := .type "slice", data := .fields #[vl, vu, .none] } }
 exact tail_any (ops := [.ref s3.heap.objs.size, v]) ht hT hg (by with_unfolding_all rfl)
def We (xs : List V) (lo hi : Option Int) : List V := (xs.drop (HT.sIx xs.length 0 lo)).take (HT.sIx xs.length xs.length hi - HT.sIx xs.length 0 lo)
theorem Bf (xs : List V) (lo hi : Option Int) : (We xs lo hi).length <= xs.length := by
 unfold We
 rw [List.length_take, List.length_drop]
 omega
end
end L2
namespace L2
open PySem PySem.Spec PyProof.Rows
def ixN (n : Nat) (i : Int) : Option Nat := if 0 <= i then (if i < n then some i.toNat else none) else if -(n : Int) <= i then some (i + n).toNat else none
def atI {α : Type} (xs : List α) (i : Int) : Option α := (ixN xs.length i).bind fun j => xs[j]?
theorem dJ {n : Nat} {i : Int} {j : Nat} (h : ixN n i = some j) : seqIndex? i n = some j /\ j < n /\ -(n : Int) <= i /\ i < n := by
 unfold ixN at h
 by_cases h0 : 0 <= i
 . rw [if_pos h0] at h
   by_cases h1 : i < n
   . rw [if_pos h1] at h
     have e : i.toNat = j := Option.some.inj h; exact ⟨by rw [seqIndex_of h0 h1, e], by omega, by omega, h1⟩
   . rw [if_neg h1] at h; cases h
 . rw [if_neg h0] at h
   by_cases h1 : -(n : Int) <= i
   . rw [if_pos h1] at h
     have e : (i + n).toNat = j := Option.some.inj h; exact ⟨by rw [seqIndex_neg (by omega) h1, e], by omega, h1, by omega⟩
   . rw [if_neg h1] at h; cases h
theorem Gv {α : Type} {xs : List α} {i : Int} {v : α} (h : atI xs i = some v) : ∃ j, seqIndex? i xs.length = some j /\ xs[j]? = some v /\ j < xs.length /\ -(xs.length : Int) <= i /\ i < xs.length := by
 unfold atI at h
 cases e : ixN xs.length i with
 | none => rw [e] at h; cases h
 | some j =>
   rw [e] at h; obtain ⟨h1, h2, h3, h4⟩ := dJ e; exact ⟨j, h1, h, h2, h3, h4⟩
theorem atI_nat {α : Type} {xs : List α} {j : Nat} {v : α} (h : xs[j]? = some v) : atI xs (j : Int) = some v := by
 have hj : j < xs.length := (List.getElem?_eq_some_iff.mp h).1
 have e : ixN xs.length (j : Int) = some j := by
   unfold ixN; rw [if_pos (by omega), if_pos (by omega)]; simp
 unfold atI; rw [e]; exact h
def Oc (b : Expr) : Prop := ∀ o i, subscripted b false o i = operate [o, i] (getItem o i)
def IxR (X : Cx) (r : R2) : Prop :=
 ∀ (value slice : Expr) (pins : List (Addr × Obj)) (s : Shared) (Z : St) (H : Hp) (x y : V) (v u : Value) (Q : VK), Inv X pins Z H s -> RelV x v -> RelV y u -> r x y H Q ->
   subscripted slice false v u = operate [v, u] (getItem v u) -> wpAny (model X.prog X.w) X.A (subscriptTail value slice v u) (EP X pins Z Q) X.xe s
def MtR (X : Cx) (id : String) (r : V -> List V -> Hp -> VK -> Prop) : Prop :=
 ∀ (pins : List (Addr × Obj)) (s : Shared) (Z : St) (H : Hp) (x : V) (xs : List V) (v : Value) (us : List Value) (Q : VK), Inv X pins Z H s -> RelV x v -> Vals xs us -> r x xs H Q ->
   wpAny (model X.prog X.w) X.A (call (.builtin id) (v :: us)) (EP X pins Z Q) X.xe s
section
variable {X : Cx} {a b : Expr} {ta tb : TE} {pos : Pos}
theorem IxR.or {r r' : R2} (h : IxR X r) (h' : IxR X r') : IxR X (fun x y H Q => r x y H Q \/ r' x y H Q) := by
 intro value slice pins s Z H x y v u Q I rx ry q hs
 rcases q with q | q
 . exact h value slice pins s Z H x y v u Q I rx ry q hs
 . exact h' value slice pins s Z H x y v u Q I rx ry q hs
theorem Yq {r : R2} (hr : IxR X r) (ha : PE X a ta) (hb : PE X b tb) (hs : Oc b) : PE X (.Subscript a b pos) (tOp r ta tb) := by
 intro pins s Z H Q I h
 exact Subscript_ (jB ha hb I h fun v u s2 x y H2 I2 rx ry q => hr a b pins s2 Z H2 x y v u Q I2 rx ry q (hs _ _))
def gF (K : PySem.W.Frag) : R2 := fun x y H Q => ∃ p xs i v, x = .ref p /\ y = .int i /\ SqL K H p xs /\ atI xs i = some v /\ Q v H
def rIxT (K : PySem.W.Frag) : R2 := fun x y H Q => ∃ p xs i v, x = .ref p /\ y = .int i /\ SqT K H p xs /\ atI xs i = some v /\ Q v H
def rIxS : R2 := fun x y H Q => ∃ z i c, x = .str z /\ y = .int i /\ z.length <= sizeLine /\ atI z.cps.toList i = some c /\ Q (.str ⟨#[c]⟩) H
theorem Nk : IxR X (gF X.K) := by
 intro value slice pins s Z H x y v u Q I rx ry h hs
 obtain ⟨p, xs, i, z, rfl, rfl, hq, he, q⟩ := h
 cases rx
 obtain ⟨t, rfl⟩ := ry
 obtain ⟨its, r, pl, hz⟩ := I.list hq
 obtain ⟨j, h1, h2, h3, h4, h5⟩ := Gv he
 obtain ⟨w, ew, rw'⟩ := r.get h2
 have hl := r.length
 have hn := Al
 have fin : EP X pins Z Q w s := ⟨z, H, I, rw', q⟩
 by_cases h0 : 0 <= i
 . have hj : i.toNat = j := by
     rw [seqIndex_of h0 h5] at h1; exact Option.some.inj h1
   exact item_listR pl.isList h0 (by omega) (by rw [hj]; simpa using ew) fin hs
 . have hj : (i + (its.toArray.size : Int)).toNat = j := by
     rw [seqIndex_neg (by omega) h4] at h1; rw [List.size_toArray, <- hl]; exact Option.some.inj h1
   exact subscriptTail_builtinR (x := w) pl.isList.typeIs slot_list_getitem.lookup
     (wpAny_getItem_list_neg (Q := fun r s' => r = w /\ EP X pins Z Q r s') pl.isList (by omega) (by rw [List.size_toArray] <;> omega) (by omega) (by rw [hj]; simpa using ew) ⟨rfl, fin⟩) hs
theorem iH : IxR X (rIxT X.K) := by
 intro value slice pins s Z H x y v u Q I rx ry h hs
 obtain ⟨p, xs, i, z, rfl, rfl, hq, he, q⟩ := h
 cases rx
 obtain ⟨t, rfl⟩ := ry
 obtain ⟨its, r, pl, hz⟩ := I.tuple hq
 obtain ⟨j, h1, h2, h3, h4, h5⟩ := Gv he
 obtain ⟨w, ew, rw'⟩ := r.get h2
 have hl := r.length
 have hn := Al
 have fin : EP X pins Z Q w s := ⟨z, H, I, rw', q⟩
 exact subscriptTail_builtinR (x := w) pl.typeIs slot_tuple_getitem.lookup
   (getItem_tuple (j := j) (Q := fun r s' => r = w /\ EP X pins Z Q r s') pl (by omega) (by omega) (by rw [List.size_toArray, <- hl]; exact h1) (by simpa using ew) ⟨rfl, fin⟩) hs
theorem iI : IxR X rIxS := by
 intro value slice pins s Z H x y v u Q I rx ry h hs
 obtain ⟨z, i, c, rfl, rfl, hz, he, q⟩ := h
 obtain ⟨t, rfl⟩ := rx
 obtain ⟨t', rfl⟩ := ry
 obtain ⟨j, h1, h2, h3, h4, h5⟩ := Gv he
 have hl : z.cps.toList.length = z.length := by simp [Str.length]
 rw [hl] at h1 h4 h5
 have hn := Al
 exact tail_any (typeIs_str s z t) slot_str_getitem.lookup (getItem_str (c := c) (by
   have e1 : decide (i < -(2 ^ 63 : Int)) = false := decide_eq_false (by omega)
   have e2 : decide (i ≥ 2 ^ 63) = false := decide_eq_false (by omega)
   rw [e1, e2, Bool.or_false]) (by rw [h1]; simpa using h2) ⟨.str ⟨#[c]⟩, H, I.tok _, ⟨_, rfl⟩, q⟩) hs
def rIx (K : PySem.W.Frag) : R2 := fun x y H Q => gF K x y H Q \/ rIxT K x y H Q \/ rIxS x y H Q
theorem iJ : IxR X (rIx X.K) := Nk.or (iH.or iI)
theorem Mg (lo hi : Option Int) (n : Nat) : (sliceBounds lo hi none n).1 = ((HT.sIx n 0 lo : Nat) : Int) /\ (sliceBounds lo hi none n).2.1 = ((HT.sIx n n hi : Nat) : Int) /\ (sliceBounds lo hi none n).2.2 = 1 := by
 refine ⟨?_, ?_, rfl⟩
 . cases lo with
   | none => simp [sliceBounds, HT.sIx]
   | some i =>
     simp only [sliceBounds, HT.sIx, Option.getD_none, show (1 : Int) > 0 by decide, if_true]
     by_cases h : i < 0
     . simp only [h, if_true] <;> omega
     . simp only [h, if_false] <;> omega
 . cases hi with
   | none => simp [sliceBounds, HT.sIx]
   | some i =>
     simp only [sliceBounds, HT.sIx, Option.getD_none, show (1 : Int) > 0 by decide, if_true]
     by_cases h : i < 0
     . simp only [h, if_true] <;> omega
     . simp only [h, if_false] <;> omega
theorem Bs (its : List Value) (lo hi : Option Int) : slicePick its.toArray lo hi none = ((its.drop (HT.sIx its.length 0 lo)).take (HT.sIx its.length its.length hi - HT.sIx its.length 0 lo)).toArray := by
 obtain ⟨h1, h2, h3⟩ := Mg lo hi its.toArray.size
 unfold slicePick
 rw [h1, h2, h3]
 simp only [sliceRange_one, pick_run, List.size_toArray] <;> rfl
def rSlL (K : PySem.W.Frag) : V -> Option Int -> Option Int -> Hp -> VK -> Prop := fun x lo hi H Q => ∃ a xs, x = .ref a /\ SqL K H a xs /\ ∀ p, H p = none -> Q (.ref p) (upd H p (.lst (We xs lo hi)))
theorem sl_list : SlR X (rSlL X.K) := by
 intro pins s Z H x v vl vu lo hi sl Q I rx hs pl pu h
 obtain ⟨a, xs, rfl, hx, q⟩ := h
 cases rx
 obtain ⟨its, r, ht, hz⟩ := I.list hx
 have hlen := r.length
 refine ⟨"list", _, slot_list_getitem.lookup, ht.isList.typeIs, ?_⟩
 refine wpAny_getItem_list_slice ht.isList hs pl pu .none (by simp) ?_ (by rw [List.size_toArray] <;> omega)
 rw [Bs, <- hlen]
 refine ⟨.ref s.heap.objs.size, _, I.laid (t' := s.toks) (o := .lst (We xs lo hi)) (fun b ob q => Heap.get?_push_of_some _ q) (Nat.le_refl _) ?_, rfl, q _ (I.hok.fresh (Nat.le_refl _))⟩
 exact ⟨Nat.le_trans (Bf xs lo hi) hz, _, 0, (r.drop (HT.sIx xs.length 0 lo)).take (HT.sIx xs.length xs.length hi - HT.sIx xs.length 0 lo), Heap.get?_push_size _ rfl⟩
theorem Ob : R0 X (.builtin "len") (fun xs H Q => ∃ p ys, xs = [.ref p] /\ (SqL X.K H p ys \/ SqT X.K H p ys) /\ Q (.int ys.length) H) := by
 intro pins s Z H xs us Q I r h
 obtain ⟨p, ys, rfl, hq, q⟩ := h
 obtain ⟨u, rfl, rx⟩ := Fk r
 cases rx
 have hn := Al
 rcases hq with hq | hq
 . obtain ⟨its, r', pl, hz⟩ := I.list hq
   have hlen := r'.length; exact Calls.call_len_list pl.isList (by simp only [List.size_toArray] <;> omega) ⟨.int ys.length, H, I.tok _, ⟨s.toks + 1, by rw [List.size_toArray, hlen]⟩, q⟩
 . obtain ⟨its, r', pl, hz⟩ := I.tuple hq
   have hlen := r'.length; exact len_tuple pl (by simp only [List.size_toArray] <;> omega) ⟨.int ys.length, H, I.tok _, ⟨s.toks + 1, by rw [List.size_toArray, hlen]⟩, q⟩
theorem Du : R0 X (.type "list") (fun xs H Q => ∃ p ys, xs = [.ref p] /\ (SqL X.K H p ys \/ SqT X.K H p ys) /\ ∀ l, H l = none -> Q (.ref l) (upd H l (.lst ys))) := by
 intro pins s Z H xs us Q I r h
 obtain ⟨p, ys, rfl, hq, q⟩ := h
 obtain ⟨u, rfl, rx⟩ := Fk r
 cases rx
 have fin : ∀ (its : List Value), Vals ys its -> ys.length <= sizeLine -> ∀ (h' : Heap) (c' : Nat), (∀ b o', s.heap.get? b = some o' -> h'.get? b = some o') ->
     h'.get? s.heap.objs.size = some { cls := .type "list", dict := none, data := .seq its.toArray c', slots := #[] } -> EP X pins Z Q (.ref s.heap.objs.size) { s with heap := h' } := fun its r' hz h' c' kp e =>
   ⟨.ref s.heap.objs.size, _, I.laid (t' := s.toks) kp (Nat.le_refl _) (show ObjOk X.prog X.w _ h' _ (.lst ys) from ⟨hz, its, c', r', e⟩), rfl, q _ (I.hok.fresh (Nat.le_refl _))⟩
 rcases hq with hq | hq
 . obtain ⟨its, r', pl, hz⟩ := I.list hq
   have hlen := r'.length; obtain ⟨o, ho, hc, n, hd⟩ := pl.isList; exact call_list_seq p (.inl rfl) ho hc hd (fun h' c' kp e => fin its r' hz h' c' kp e) (by simp only [List.size_toArray] <;> omega)
 . obtain ⟨its, r', pl, hz⟩ := I.tuple hq
   have hlen := r'.length; obtain ⟨o, ho, hc, n, hd⟩ := pl; exact call_list_seq p (.inr rfl) ho hc hd (fun h' c' kp e => fin its r' hz h' c' kp e) (by simp only [List.size_toArray] <;> omega)
theorem Bz : R0 X (.type "tuple") (fun xs H Q => ∃ p ys, xs = [.ref p] /\ ((SqL X.K H p ys /\ ∀ l, H l = none -> Q (.ref l) (upd H l (.tup ys))) \/ (SqT X.K H p ys /\ Q (.ref p) H))) := by
 intro pins s Z H xs us Q I r h
 obtain ⟨p, ys, rfl, h⟩ := h
 obtain ⟨u, rfl, rx⟩ := Fk r
 cases rx
 rcases h with ⟨hq, q⟩ | ⟨hq, q⟩
 . obtain ⟨its, r', pl, hz⟩ := I.list hq
   have hlen := r'.length; refine call_tuple_list pl.isList (fun h' kp => ?_) (by simp only [List.size_toArray] <;> omega)
   have I1 : Inv X pins Z H { s with heap := h' } := I.kept (t' := s.toks) kp; have I2 : Inv X pins Z (upd H h'.objs.size (.tup ys)) { s with heap := h'.push { cls := .type "tuple", data := .seq its.toArray } } :=
     I1.laid (t' := s.toks) (fun b o e => Heap.get?_push_of_some _ e) (Nat.le_refl _) (show ObjOk X.prog X.w _ _ _ (.tup ys) from ⟨hz, its, r', IsTup.new _ _⟩)
   exact ⟨.ref h'.objs.size, _, I2, rfl, q _ (I1.hok.fresh (Nat.le_refl _))⟩
 . obtain ⟨its, r', pl, hz⟩ := I.tuple hq
   exact call_tuple_same pl ⟨.ref p, H, I, rfl, q⟩
def tyV (K : PySem.W.Frag) (T : String) (x : V) (H : Hp) : Prop := match x with
 | .str _ => T = "str"
 | .int _ => T = "int"
 | .ref p => (T = "list" /\ ∃ xs, SqL K H p xs) \/ (T = "tuple" /\ ∃ o, K.lookup p = some o /\ o.cls = .type "tuple" /\ o.dict = none) \/
     (T = "dict" /\ ((∃ kvs, H p = some (.dK kvs)) \/ ∃ kvs, H p = some (.dT kvs))) \/ (T = "set" /\ ∃ S n, H p = some (.set S n))
 | _ => False
theorem fN {pins : List (Addr × Obj)} {Z : St} {H : Hp} {s : Shared} {T : String} {x : V} {v : Value} (I : Inv X pins Z H s) (r : RelV x v) (ty : tyV X.K T x H) :
   s.TypeIs v T /\ ∀ a, v = .ref a -> ∃ ob, s.heap.get? a = some ob /\ ob.dict = none := by
 cases x with
 | str z =>
   obtain ⟨t, rfl⟩ := r
   cases (show T = "str" from ty)
   exact ⟨typeIs_str s z t, fun _ e => nomatch e⟩
 | int i =>
   obtain ⟨t, rfl⟩ := r
   cases (show T = "int" from ty)
   exact ⟨typeIs_int s i t, fun _ e => nomatch e⟩
 | ref p =>
   cases r; rcases ty with ⟨rfl, xs, hq⟩ | ⟨rfl, o, hk, hc, hd⟩ | ⟨rfl, hk⟩ | ⟨rfl, S, n, hk⟩
   . obtain ⟨its, _, pl, _⟩ := I.list hq
     refine ⟨pl.isList.typeIs, fun a e => ?_⟩
     cases e; obtain ⟨o, n, e, c, hd, _⟩ := pl; exact ⟨o, e, hd⟩
   . refine ⟨⟨o, I.kIn p o hk, hc⟩, fun a e => ?_⟩
     cases e; exact ⟨o, I.kIn _ o hk, hd⟩
   . have z : ∃ o, s.heap.get? p = some o /\ o.ExactDict := by
       rcases hk with ⟨kvs, hk⟩ | ⟨kvs, hk⟩
       . obtain ⟨_, _, _, _, o, _, _, e, ex, _⟩ := I.hok p _ hk
         exact ⟨o, e, ex⟩
       . obtain ⟨_, _, _, _, o, _, _, e, ex, _⟩ := I.hok p _ hk
         exact ⟨o, e, ex⟩
     obtain ⟨o, e, ex⟩ := z; refine ⟨⟨o, e, ex.1⟩, fun a e2 => ?_⟩
     cases e2; exact ⟨o, e, ex.2.1⟩
   . obtain ⟨o, _, _, _, e, ex, _⟩ := I.hok p _ hk
     refine ⟨⟨o, e, ex.1⟩, fun a e2 => ?_⟩
     cases e2; exact ⟨o, e, ex.2.1⟩
 | _ => exact False.elim ty
def tBM (K : PySem.W.Frag) (T : String) (r : V -> List V -> Hp -> VK -> Prop) (to : TE) (t : TA) : TE := fun Z H Q => to Z H fun x H1 => tyV K T x H1 /\ t Z H1 fun xs H2 => r x xs H2 Q
variable {o e : Expr} {es : List Expr} {to : TE} {t : TA} {name : Str} {apos cpos : Pos} {T id : String} {r : V -> List V -> Hp -> VK -> Prop}
theorem Kz (pa : PlainAttrs T) (slot : Slot T name id) (hty : typeOf (.builtin id) = pure (.type "method_descriptor")) (hm : MtR X id r) (ho : PE X o to) (ha : PA X (e :: es) t)
   (hbase : attributeBase o name X.env (eval o X.env) = eval o X.env := by rfl)
   (hfew : ((backTo cpos (starEach (e :: es) X.env)).all (fun x => !x.1) && (backToKw cpos (keywordEach [] X.env)).all (fun x => x.1.isSome)
     && decide ((e :: es).length + ([] : List Keyword).length + (if ([] : List Keyword).isEmpty then 0 else 1) < 30)) = true := by rfl)
   (hline : (apos.endLine == cpos.line) = true := by rfl) (hs : starEach (e :: es) X.env = (false, eval e X.env) :: starEach es X.env := by rfl) (hplain : (backTo cpos (starEach es X.env)).any (·.1) = false := by rfl) :
   PE X (.Call (.Attribute o name apos) (e :: es) [] cpos) (tBM X.K T r to t) := by
 intro pins s Z H Q I h
 refine wpAny_Call_method_late hbase hfew hline rfl (thn (ho pins s Z H _ I h) fun v s1 ⟨x, H1, I1, r1, ty, q1⟩ => ?_)
 obtain ⟨h1, h2⟩ := fN I1 r1 ty
 refine ⟨T, id, pa, slot, hty, h1, h2, ?_⟩
 have hA := ha cpos pins s1 Z H1 _ I1 q1
 rw [hs] at hA ⊢
 refine Calls.callWith_builtin (by show (false || (backTo cpos (starEach es X.env)).any (·.1)) = false; rw [hplain] <;> rfl) (Calls.evalArgs_plain ?_)
 exact thn hA fun us s2 ⟨vs, H2, I2, r2, q2⟩ => hm pins s2 Z H2 x vs v us Q I2 r1 r2 q2
end
end L2
namespace L2
open PySem PySem.Spec PyProof.Rows
def MtM (X : Cx) (id : String) (r : V -> List V -> Hp -> VK -> Prop) : Prop :=
 ∀ (pins : List (Addr × Obj)) (s : Shared) (Z : St) (H : Hp) (x : V) (xs : List V) (v : Value) (us : List Value) (Q : VK), Inv X pins Z H s -> RelV x v -> Vals xs us -> r x xs H Q ->
   wpAny (model X.prog X.w) X.A (call (.builtin id) (v :: us)) (EP X pins Z Q) X.xe s
theorem Vals.one : ∀ {x : V} {us : List Value}, Vals [x] us -> ∃ u, us = [u] /\ RelV x u
 | _, _, .cons r .nil => ⟨_, rfl, r⟩
theorem Vals.two : ∀ {x y : V} {us : List Value}, Vals [x, y] us -> ∃ u v, us = [u, v] /\ RelV x u /\ RelV y v
 | _, _, _, .cons r (.cons q .nil) => ⟨_, _, rfl, r, q⟩
theorem Vals.rep {xs : List V} {us : List Value} (h : Vals xs us) : ∀ k : Nat, Vals (List.replicate k xs).flatten (List.replicate k us).flatten
 | 0 => .nil
 | k + 1 => by
   rw [List.replicate_succ, List.replicate_succ, List.flatten_cons, List.flatten_cons]; exact Vals.append h (Vals.rep h k)
theorem Fc (its : List Value) : ∀ (k : Nat) (acc : List Value),
   List.foldl (fun x1 x2 => x1 ++ x2) acc.toArray (List.replicate k its.toArray) = (acc ++ (List.replicate k its).flatten).toArray
 | 0, acc => by simp
 | k + 1, acc => by
   have e : acc.toArray ++ its.toArray = (acc ++ its).toArray := by simp
   have e2 : (acc ++ its) ++ (List.replicate k its).flatten = acc ++ (List.replicate (k + 1) its).flatten := by
     rw [List.replicate_succ, List.flatten_cons, List.append_assoc]
   rw [<- e2, <- Fc its k (acc ++ its), <- e, List.replicate_succ, List.foldl_cons]
section
variable {X : Cx} {pins : List (Addr × Obj)} {Z : St} {H : Hp} {s : Shared} {l : Addr} {xs ys : List V}
theorem Inv.lset {its its' : List Value} {n : Nat} {f : Array Value -> Array Value} {t' : Nat} (I : Inv X pins Z H s) (hH : H l = some (.lst xs))
   (e : s.heap.get? l = some { cls := .type "list", data := .seq its.toArray n }) (hf : f its.toArray = its'.toArray) (hv : Vals ys its') (hz : ys.length <= sizeLine) :
   Inv X pins Z (upd H l (.lst ys)) { s with heap := s.heap.update l (Obj.mapSeq f), toks := t' } := by
 have q := PySem.IsL.update e f
 rw [hf] at q
 refine I.write (x := l) (e := l) (by rw [hH]; exact trivial) (.inl rfl) (fun b' u hb hu => (Heap.get?_update_other s.heap (Obj.mapSeq f) (Ne.symm hb)).trans hu) ⟨_, q⟩ ?_
 exact ⟨hz, its', _, hv, q⟩
theorem Inv.lnew {its : List Value} {t' : Nat} (I : Inv X pins Z H s) (hv : Vals ys its) (hz : ys.length <= sizeLine) :
   Inv X pins Z (upd H s.heap.objs.size (.lst ys)) { s with heap := s.heap.push { cls := .type "list", data := .seq its.toArray }, toks := t' } :=
 I.laid (fun _ _ q => Heap.get?_push_of_some _ q) (Nat.le_refl _) ⟨hz, its, 0, hv, Heap.get?_push_size _ rfl⟩
theorem Inv.fresh (I : Inv X pins Z H s) : H s.heap.objs.size = none := I.hok.fresh (Nat.le_refl _)
theorem Inv.lstM (I : Inv X pins Z H s) (hH : H l = some (.lst xs)) : xs.length <= sizeLine /\ ∃ (its : List Value) (n : Nat), Vals xs its /\ xs.length = its.length /\ s.heap.get? l = some { cls := .type "list", data := .seq its.toArray n } := by
 obtain ⟨z, its, n, r, e⟩ := I.hok l _ hH
 exact ⟨z, its, n, r, r.length, e⟩
theorem Ze {n : Nat} (h : n <= sizeLine) : Builtin.List.listTooLong n = false := by
 unfold Builtin.List.listTooLong
 exact decide_eq_false (by omega)
end
section
variable {X : Cx}
def Sn : V -> List V -> Hp -> VK -> Prop := fun x vs H Q => ∃ l xs y, x = .ref l /\ vs = [y] /\ H l = some (.lst xs) /\ xs.length < sizeLine /\ Q .non (upd H l (.lst (xs ++ [y])))
theorem Aa : MtM X "list.append" Sn := by
 intro pins s Z H x vs v us Q I rx rv h
 obtain ⟨l, xs, y, rfl, rfl, hH, hz, q⟩ := h
 cases rx
 obtain ⟨u, rfl, ru⟩ := rv.one
 obtain ⟨z, its, n, r, hl, e⟩ := I.lstM hH
 refine call_meets F.slot_list_append ⟨_, e, rfl⟩ F.entry_list_append (F.args_list_append_2 _ _) (PySem.list_append l its.toArray n u (by rw [List.size_toArray]; omega)) ⟨e, ?_⟩
 refine ⟨.non, _, I.lset (its' := its ++ [u]) hH e (by simp) (r.append (.cons ru .nil)) ?_, rfl, q⟩
 rw [List.length_append, List.length_singleton]
 omega
theorem Gp {α : Type} (xs : List α) (k : Nat) : (List.replicate k xs).flatten.length = k * xs.length := by
 induction k with
 | zero => simp
 | succ k ih => rw [List.replicate_succ, List.flatten_cons, List.length_append, ih, Nat.succ_mul, Nat.add_comm]
end
end L2
namespace Att
open PySem PySem.W PySem.Calls PyProof.Rows
theorem Ge {P : Params} {h : Heap} : ∀ (ns : List Int) (vs : List Value), WellAll P h vs (ns.map WData.int) -> IntsAre vs ns := by
 intro ns
 induction ns with
 | nil =>
   intro vs w; rw [List.map_nil] at w; cases w; exact .nil
 | cons n ns ih =>
   intro vs w; rw [List.map_cons] at w
   cases w with
   | cons a b =>
     cases a; exact .cons _ _ (ih _ b)
theorem Uy {l : OpenLaw} {n : Nat} (hn : l.most = some n) {P : Params} {h : Heap} {args : List WData} {vals : List Value}
   (hpre : l.row.toRowW.claim.pre args = true) (hwl : WellAll P h vals args) :
   ∃ a vs ns, vals = [Value.ref a] /\ args = [WData.list (ns.map WData.int)] /\ h.get? a = some { cls := .type "list", data := .seq vs.toArray } /\ IntsAre vs ns /\ ns.length <= n := by
 have hsh : WShape.hasAll [] args [.list .int] = true := (pre_splitW hpre).1
 have hc : l.pre.holds [] { args := args } = true := (pre_splitW hpre).2
 obtain ⟨d, r, rfl, h1, h2⟩ := hasAllW_cons hsh
 obtain rfl := hasAllW_nil h2
 obtain ⟨xs, rfl, h3⟩ := hasW_list h1
 obtain ⟨ns, rfl⟩ := items_int h3
 have hlen : ns.length <= n := by
   unfold OpenLaw.pre at hc; have h4 : (WTm.not (.lt (.lit (.int (n : Int))) (.len (.arg 0)))).holds [] { args := [.list (ns.map .int)] } = true := by
     have h4 := (holds_andW hc).1; rw [hn] at h4; exact h4
   have h5 := condW_of h4 (w_not (w_lt w_lit (w_len_list (w_arg rfl)))); rw [List.length_map] at h5; refine Nat.le_of_not_lt fun q => ?_
   have q' : (n : Int) < ((ns.length : Nat) : Int) := by omega
   first
     | (rw [decide_eq_true q'] at h5; exact absurd h5 (by decide))
     | (simp at h5; omega)
 cases hwl with
 | cons w1 w2 =>
   cases w2
   cases w1 with
   | list ho hall => exact ⟨_, _, ns, rfl, rfl, ho, Ge ns _ hall, hlen⟩
theorem Vb (l : OpenLaw) (args : List WData) : l.row.toRowW.claim.post args (.bool true) args = true :=
 postW_of (r := l.row.toRowW) (X := (true == true))
   (show WShape.has [] (.bool true) .bool = true by first | rfl | decide | simp [WShape.has, WShape.arms, WShape.armsAll])
   (show (WTm.eq .res (.lit (.bool true))).value [] { args := args, res := some (.bool true), after := args } = some (.bool (true == true)) from w_eq_bool (w_res rfl) w_lit) rfl
theorem attach_call {l : OpenLaw} {n : Nat} {q : Program} {loose : List Str} {XP : (Str -> Option Value) -> Heap -> Prop} {YP : World -> Heap -> Prop} {d : DefRec}
   (hn : l.most = some n) (hdf : d.params.defaults = [])
   (call : ∀ (w : World) (s₀ s₁ : Shared) (mg mb : Str -> Option Value) (fa : Addr) (o : Obj) (pm cd doc : Value) (a : Addr) (vs : List Value) (ns : List Int),
     Ground q loose [] XP w s₀ mg mb s₁.heap -> YP w s₁.heap ->
     s₁.heap.get? fa = some o -> o.data = .func (docDef d.name d.params d.body d.scope pm cd doc) -> s₁.heap.CodeRec cd d.name -> mg d.name = some (.ref fa) ->
     s₁.heap.get? a = some { cls := .type "list", data := .seq vs.toArray } -> IntsAre vs ns -> ns.length <= n -> s₁.gens = #[] ->
     codeAny (model l.prog w) callerA (.call (.ref fa) ⟨[.ref a], []⟩) (fun r s' => r = .ok (.ret (.bool true)) /\ OldK s₁.heap s'.heap /\ s'.os = s₁.os /\ AllBare s'.gens) s₁) :
   WalkO q loose XP YP l.row.toRowW d [] (fun f vs => PySem.call f vs) := by
 intro w s₀ s₁ mg mb G Y fa o pm cd doc dV kV ho hd hcd hD hmg hg args vals as hpre hlay hrd hwl hlo
 obtain rfl : dV = .none := Dflts.none hD hdf
 obtain rfl : kV = .none := Dflts.noKw hD
 obtain ⟨a, vs, ns, rfl, rfl, hobj, hints, hlen⟩ := Uy hn hpre hwl
 refine enter_call (codeAny_mono (call w s₀ s₁ mg mb fa o pm cd doc a vs ns G Y ho (fd_plain hd) hcd hmg hobj hints hlen hg) fun r s' hq => ?_)
 obtain ⟨rfl, h2, h3, h4⟩ := hq
 exact ⟨.inl ⟨.bool true, .bool true, [], rfl, fun _ => rfl, .bool true, Vb l _, fun _ => ⟨List.Pairwise.nil, fun _ hm => (nomatch hm)⟩⟩, h2, h3, h4⟩
end Att
namespace L2
open PySem PySem.Spec PyProof.Rows
theorem Ks : ∀ {vs : List Value} {ns : List Int}, IntsAre vs ns -> Vals (ns.map V.int) vs
 | _, _, .nil => .nil
 | _, _, .cons n t h => .cons ⟨t, rfl⟩ (Ks h)
def jE (H : Hp) : Prop := ∀ b, H b = none \/ ∃ o xs, H b = some (.frz o (.lst xs))
theorem Zq {P : Program} {w : World} {K : PySem.W.Frag} {mg mb : Str -> Option Value} {CX : CXT} {k : Nat} {fa a : Addr} {fd : FuncData} {x : Str} {sp : Sp} {s₁ : Shared} {vs : List Value} {ns : List Int}
   (KX : K.In s₁.heap) (hns : s₁.heap.Ns mainGlobals mg) (hb : s₁.heap.Ns builtinsNs mb) (hbb : ∀ x : Str, x ≠ "__name__" -> mb x = bootBuiltins x) (hlim : s₁.heap.NoLimit) (hg : s₁.gens = #[])
   (ha : s₁.heap.get? a = some { cls := .type "list", data := .seq vs.toArray }) (hi : IntsAre vs ns) (hl : ns.length <= sizeLine) (hr : Room k callerA)
   (F : ∀ base : Heap, K.In base -> base.Ns mainGlobals mg -> FnOk P w K mg base CX k fa fd [x] sp) (hbind : ∀ (s : Shared) (u : Value), BindsTo s fd ⟨[u], []⟩ [(x, u)])
   (hsp : ∀ H : Hp, jE H -> SqL K H a (ns.map V.int) -> sp [.ref a] H (fun v _ => v = .bl true) fun _ _ _ => False)
   (hCX : ∀ H e s', CX [] H s₁ (fun _ _ _ => False) e s' -> False) :
   codeAny (model P w) callerA (.call (.ref fa) ⟨[.ref a], []⟩) (fun r s' => r = .ok (.ret (.bool true)) /\ OldK s₁.heap s'.heap /\ s'.os = s₁.os /\ AllBare s'.gens) s₁ := by
 have rv := Ks hi
 have lenV := hi.length
 have core : ∀ H : Hp, jE H -> SqL K H a (ns.map V.int) -> HOk P w H s₁.heap -> (∀ b, H b ≠ none -> b = a) -> (H a ≠ none -> K.lookup a = none) ->
     codeAny (model P w) callerA (.call (.ref fa) ⟨[.ref a], []⟩) (fun r s' => r = .ok (.ret (.bool true)) /\ OldK s₁.heap s'.heap /\ s'.os = s₁.os /\ AllBare s'.gens) s₁ := by
   intro H hO hS hok hA hK; have base_of : ∀ {b : Addr} {o : Obj}, s₁.heap.get? b = some o -> H b = none -> (Nl s₁.heap H).get? b = some o := fun e n => aA e n
   have noA : ∀ {b : Addr} {o : Obj} {es : Array DictEntry} {ep : Nat}, s₁.heap.get? b = some o -> o.data = .dict es ep -> H b = none := fun {b o es ep} e d => by
     cases q : H b with
     | none => rfl
     | some u =>
       have e' : b = a := hA b (by rw [q]; simp)
       subst e'; rw [ha] at e; cases e; have d' : Data.seq vs.toArray _ = Data.dict es ep := d
       cases d'
   have nsK : ∀ {b : Addr} {m : Str -> Option Value}, s₁.heap.Ns b m -> (Nl s₁.heap H).Ns b m := fun {b m} ⟨o, es, ep, e, d, r⟩ => ⟨o, es, ep, base_of e (noA e d), d, r⟩
   have hKb : K.In (Nl s₁.heap H) := fun b o e => base_of (KX b o e) (by
     cases q : H b with
     | none => rfl
     | some u =>
       have e' : b = a := hA b (by rw [q]; simp)
       subst e'; rw [hK (by rw [q]; simp)] at e; cases e)
   have hM : Mod K mg (Nl s₁.heap H) := ⟨hKb, nsK hns, ⟨mb, nsK hb, hbb⟩, let ⟨mc, h1, h2⟩ := hlim; ⟨mc, nsK h1, h2⟩⟩
   have e0 : Env0 P w K mg (Nl s₁.heap H) callerA [] s₁ H := ⟨rfl, hM, fun b o e => cU e, Nat.le_of_eq (Vu _ _), trivial, fun b hb => absurd (show b ∈ ([] : List Addr) from hb) (by simp), hok, .of_eq hg⟩
   refine codeAny_mono ((F _ hKb (nsK hns)).run callerA [] s₁ H ⟨[.ref a], []⟩ [.ref a] [.ref a] _ _ hr e0 (hbind s₁ (.ref a)) (.cons rfl .nil) (hsp H hO hS)) fun r s' h => ?_
   cases r with
   | error e => exact (hCX H e s' h).elim
   | ok fl =>
     cases fl with
     | next => exact False.elim h
     | brk => exact False.elim h
     | cont => exact False.elim h
     | ret u =>
       obtain ⟨v, H', os, bare, un, hok', r', q⟩ := h; have q' : v = .bl true := q; subst q'; obtain rfl : u = Value.bool true := r'; refine ⟨rfl, OldK.of_keep fun b o e => ?_, os, bare⟩
       cases q : H b with
       | none => exact un.keep b o e q (by intro z; exact absurd (show b ∈ ([] : List Addr) from z) (by simp)) (by simp)
       | some u =>
         rcases hO b with z | ⟨ob, xs, z⟩
         . rw [q] at z; cases z
         . have z2 := un.frzs b ob _ z
           obtain ⟨e1, _⟩ := hok b _ z; obtain ⟨e2, _⟩ := hok' b _ z2; rw [e] at e1; cases e1; exact e2
 cases hk : K.lookup a with
 | some o =>
   have e := KX a o hk; rw [ha] at e; cases e; refine core (fun _ => none) (fun _ => .inl rfl) (.inr ⟨_, vs.toArray, _, hk, rfl, rfl, rfl, by rw [List.size_toArray, lenV]; exact hl, by simpa using rv⟩) (fun b u z => by have z' : (none : Option HO) = some u := z; cases z') (fun b z => absurd rfl z) fun z => absurd rfl z
 | none =>
   refine core (fun b => if b = a then some (.frz { cls := .type "list", data := .seq vs.toArray } (.lst (ns.map V.int))) else none) (fun b => ?_) (.inl (.inr ⟨{ cls := .type "list", data := .seq vs.toArray }, if_pos rfl⟩)) (fun b u z => ?_) (fun b z => ?_) fun _ => hk
   . by_cases hb : b = a
     . exact .inr ⟨_, _, if_pos hb⟩
     . exact .inl (if_neg hb)
   . by_cases hb : b = a
     . have z' := (if_pos hb).symm.trans z
       cases z'; subst hb; exact ⟨ha, by rw [List.length_map]; exact hl, vs, _, rv, ha⟩
     . have z' := (if_neg hb).symm.trans z
       cases z'
   . by_cases hb : b = a
     . exact hb
     . exact absurd (if_neg hb) z
end L2
namespace L2
open PySem PySem.Spec PyProof.Rows
theorem bE {l : PySem.W.OpenLaw} {n k : Nat} {q : Program} {loose : List Str} {XP : (Str -> Option Value) -> Heap -> Prop} {YP : World -> Heap -> Prop} {d : DefRec} {K : Params -> PySem.W.Frag} {CX : World -> CXT} {sp : World -> Sp} {x : Str}
   (hn : l.most = some n) (hn2 : n <= sizeLine) (hdf : d.params.defaults = []) (hr : Room k callerA)
   (hY : ∀ (w : World) (h : Heap), YP w h -> (K w.params).In h)
   (F : ∀ (w : World) (mg : Str -> Option Value) (fa : Addr) (h : Heap), (K w.params).In h -> h.Ns mainGlobals mg -> mg d.name = some (.ref fa) ->
     ∃ fd : FuncData, (∀ (s : Shared) (u : Value), BindsTo s fd ⟨[u], []⟩ [(x, u)]) /\
       ∀ base : Heap, (K w.params).In base -> base.Ns mainGlobals mg -> FnOk l.prog w (K w.params) mg base (CX w) k fa fd [x] (sp w))
   (hsp : ∀ (w : World) (H : Hp) (a : Addr) (ns : List Int), ns.length <= n -> jE H -> SqL (K w.params) H a (ns.map V.int) -> sp w [.ref a] H (fun v _ => v = .bl true) fun _ _ _ => False)
   (hCX : ∀ (w : World) (H : Hp) (s : Shared) (e : Value) (s' : Shared), CX w [] H s (fun _ _ _ => False) e s' -> False) :
   PySem.W.WalkO q loose XP YP l.row.toRowW d [] (fun f vs => PySem.call f vs) := by
 refine Att.attach_call hn hdf fun w s₀ s₁ mg mb fa o pm cd doc a vs ns G Y ho hd hcd hmg hobj hints hlen hg => ?_
 have KX := hY w _ Y
 obtain ⟨fd, hb, hF⟩ := F w mg fa _ KX G.T.g hmg
 exact Zq KX G.T.g G.T.b G.T.builtins G.T.nolimit hg hobj hints (Nat.le_trans hlen hn2) hr hF hb (fun H hO hS => hsp w H a ns hlen hO hS) fun H e s' => hCX w H s₁ e s'
end L2
namespace L2
open PySem PySem.Spec PyProof.Rows
def Bp (s : Stmt) : Arguments := match s with
 | .FunctionDef _ a _ _ _ _ _ _ _ _ => a
 | _ => { posonlyargs := [], args := [], vararg := none, kwonlyargs := [], kw_defaults := [], kwarg := none, defaults := [] }
def B9 (s : Stmt) : List Stmt := match s with
 | .FunctionDef _ _ b _ _ _ _ _ _ _ => b
 | _ => []
def A5 (s : Stmt) : Scope := match s with
 | .FunctionDef _ _ _ _ _ _ sc _ _ _ => sc
 | _ => { kind := .function, names := [], isGenerator := false, isCoroutine := false }
abbrev CX0 : CXT := fun _ _ _ _ _ _ => False
abbrev E0 : XK := fun _ _ _ => False
theorem Ss {X : Cx} : Od CX0 X E0 := fun _ _ _ _ _ _ _ h => h.elim
structure Fun (K : PySem.W.Frag) (x qual : Str) (st : Stmt) (f : Addr) (fd : FuncData) : Prop where
 ex : ∃ (oc : Value) (od : Option Addr) (kV doc pm : Value) (an : Option Addr) (cdv ct : Value) (osl : Array (Option Value)),
   fd = PySem.W.fnOf x qual (Bp st) (B9 st) (A5 st) .none kV doc pm an cdv ct /\ K.lookup f = some ⟨oc, od, .func fd, osl⟩ /\ PySem.W.codeIn K cdv qual = true
 kp : PySem.W.keepIn K (.ref f) = true
section
variable {P : Program} {w : World} {K : PySem.W.Frag} {mg : Str -> Option Value} {base : Heap}
theorem Fun.ok {x qual : Str} {st : Stmt} {f : Addr} {fd : FuncData} {N ps : List Str} {k : Nat} {sp : Sp} (F : Fun K x qual st f fd) (S : FnScope N ps (A5 st)) (len : ∀ vs H Q E, sp vs H Q E -> vs.length = ps.length)
   (hbody : ∀ (cdv : Value) (A : Around) (outer : List Env) (s : Shared) (H : Hp) (vs : List V) (Q : VK) (E : XK), Room k (A.deeper (envOfC qual (A5 st) s.heap.objs.size f cdv)) -> sp vs H Q E ->
     ∃ t, PSs (Nz CX0 P w K mg base N qual (A5 st) f cdv A outer s H E).nox (B9 st) t /\ t { nx := fun _ H' => Q .non H', rt := Q } (W8 N vs) H) : FnOk P w K mg base CX0 (k + 1) f fd ps sp := by
 obtain ⟨oc, od, kV, doc, pm, an, cdv, ct, osl, rfl, lk, hcd⟩ := F.ex
 refine fE lk hcd S len fun A outer s H vs Q E hr hsp => ?_
 obtain ⟨t, h, q⟩ := hbody cdv A outer s H vs Q E hr hsp
 exact ⟨t, h.nox, q⟩
theorem Fun.binds {x qual : Str} {st : Stmt} {f : Addr} {fd : FuncData} {ps : List Str} (F : Fun K x qual st f fd)
   (h : ∀ (kV doc pm : Value) (an : Option Addr) (cdv ct : Value) (us : List Value), us.length = ps.length -> bindArgs (PySem.W.fnOf x qual (Bp st) (B9 st) (A5 st) .none kV doc pm an cdv ct) ⟨us, []⟩ = pure (ps.zip us)) : Binds K fd ps [] := by
 obtain ⟨oc, od, kV, doc, pm, an, cdv, ct, osl, rfl, lk, hcd⟩ := F.ex
 exact .all (h kV doc pm an cdv ct)
theorem aD {x qual : Str} {st : Stmt} {f : Addr} {oc : Value} {od an : Option Addr} {osl : Array (Option Value)} {kV doc pm cdv ct : Value} (l : K.lookup f = some ⟨oc, od, .func (PySem.W.fnOf x qual (Bp st) (B9 st) (A5 st) .none kV doc pm an cdv ct), osl⟩)
   (c : PySem.W.codeIn K cdv qual = true) (k : PySem.W.keepIn K (.ref f) = true) : Fun K x qual st f (PySem.W.fnOf x qual (Bp st) (B9 st) (A5 st) .none kV doc pm an cdv ct) := ⟨⟨oc, od, kV, doc, pm, an, cdv, ct, osl, rfl, l, c⟩, k⟩
end
def Same (H H' : Hp) : Prop := ∀ b o, H b = some o -> H' b = some o
theorem Same.refl (H : Hp) : Same H H := fun _ _ h => h
theorem Same.trans {H H1 H2 : Hp} (a : Same H H1) (b : Same H1 H2) : Same H H2 := fun c o h => b c o (a c o h)
theorem Same.free {H H' : Hp} (e : Same H H') {l : Addr} (h : H' l = Option.none) : H l = Option.none := by
 cases q : H l with
 | none => rfl
 | some o =>
   rw [e l o q] at h; cases h
end L2
section
namespace L2
open PySem PySem.Spec PyProof.Rows
section
variable {κ : Type} [DecidableEq κ]
def Av (kvs : List (κ × V)) (k : κ) : Option V := (kvs.find? fun kv => decide (kv.1 = k)).map (·.2)
def W6 (kvs : List (κ × V)) (k : κ) (v : V) : List (κ × V) :=
 if (kvs.any fun kv => decide (kv.1 = k)) = true then kvs.map (fun kv => if kv.1 = k then (kv.1, v) else kv) else kvs ++ [(k, v)]
theorem Gz {p : κ × V} {r : List (κ × V)} {k : κ} (e : p.1 = k) : Av (p :: r) k = some p.2 := by simp [Av, List.find?_cons, e]
theorem Ha {p : κ × V} {r : List (κ × V)} {k : κ} (e : ¬ p.1 = k) : Av (p :: r) k = Av r k := by simp [Av, List.find?_cons, e]
theorem Cu (k : κ) : ∀ kvs : List (κ × V), (kvs.any fun kv => decide (kv.1 = k)) = (Av kvs k).isSome
 | [] => rfl
 | p :: r => by
   rw [List.any_cons]
   by_cases e : p.1 = k
   . simp only [Gz e, decide_eq_true e, Bool.true_or, Option.isSome_some]
   . rw [Ha e, decide_eq_false e, Bool.false_or]; exact Cu k r
theorem X0 (kvs : List (κ × V)) (k : κ) (v : V) : (W6 kvs k v).length <= kvs.length + 1 := by
 unfold W6
 split
 . rw [List.length_map]; omega
 . rw [List.length_append, List.length_cons, List.length_nil]; omega
theorem Yj {kvs : List (κ × V)} {k : κ} (v : V) (h : Av kvs k = none) : W6 kvs k v = kvs ++ [(k, v)] := by
 unfold W6
 rw [Cu, h]
 exact if_neg (by decide)
theorem RelO.isSome_eq {o : Option V} {u : Option Value} (r : RelO o u) : o.isSome = u.isSome := by
 cases o with
 | none => cases u with
   | none => rfl
   | some _ => exact (show False from r).elim
 | some _ => cases u with
   | none => exact (show False from r).elim
   | some _ => rfl
theorem KV.val {kvs : List (κ × V)} {vs : List (κ × Value)} (r : KV kvs vs) (k : κ) : RelO (Av kvs k) (valueAt vs k) := by
 unfold KV at r
 induction r with
 | nil => exact True.intro
 | @cons p q ps qs h t ih =>
   obtain ⟨h1, h2⟩ := h
   by_cases e : p.1 = k
   . have e' : q.1 = k := h1.symm.trans e
     have b : valueAt (q :: qs) k = some q.2 := by simp [valueAt, List.find?_cons, e']
     rw [Gz e, b]; exact h2
   . have e' : ¬ q.1 = k := fun z => e (h1.trans z)
     have b : valueAt (q :: qs) k = valueAt qs k := by simp [valueAt, List.find?_cons, e']
     rw [Ha e, b]; exact ih
theorem KV.any {kvs : List (κ × V)} {vs : List (κ × Value)} (r : KV kvs vs) (k : κ) : (kvs.any fun kv => decide (kv.1 = k)) = vs.any fun kv => decide (kv.1 = k) := by
 unfold KV at r
 induction r with
 | nil => rfl
 | cons h t ih => rw [List.any_cons, List.any_cons, ih, h.1]
theorem KV.repl {kvs : List (κ × V)} {vs : List (κ × Value)} (r : KV kvs vs) (k : κ) {y : V} {u : Value} (ry : RelV y u) :
   KV (kvs.map fun kv => if kv.1 = k then (kv.1, y) else kv) (vs.map fun kv => if kv.1 = k then (kv.1, u) else kv) := by
 unfold KV at r ⊢
 induction r with
 | nil => exact .nil
 | @cons p q ps qs h t ih =>
   rw [List.map_cons, List.map_cons]; refine .cons ?_ ih; obtain ⟨h1, h2⟩ := h
   by_cases e : p.1 = k
   . rw [if_pos e, if_pos (h1.symm.trans e)]; exact ⟨h1, ry⟩
   . rw [if_neg e, if_neg (fun z => e (h1.trans z))]; exact ⟨h1, h2⟩
theorem KV.put {kvs : List (κ × V)} {vs : List (κ × Value)} (r : KV kvs vs) (k : κ) {y : V} {u : Value} (ry : RelV y u) : KV (W6 kvs k y) (stored vs k u) := by
 unfold W6 stored
 rw [r.any k]
 by_cases e : (vs.any fun kv => decide (kv.1 = k)) = true
 . rw [if_pos e, if_pos e]; exact r.repl k ry
 . rw [if_neg e, if_neg e]; exact Paired.snoc r ⟨rfl, ry⟩
theorem KV.length {kvs : List (κ × V)} {vs : List (κ × Value)} (r : KV kvs vs) : kvs.length = vs.length := Paired.length r
end
theorem Pf {P : Program} {w : World} {k : Key} {u : Value} (r : RelV (kV k) u) : (N5 P w).is k u = true := by
 cases k with
 | inl i => obtain ⟨t, e⟩ := (show ∃ t, u = Value.int i t from r); subst e; exact Pa P w i t
 | inr x => obtain ⟨t, e⟩ := (show ∃ t, u = Value.str x t from r); subst e; exact Oz P w x t
theorem Lg {P : Program} {w : World} : ∀ {ks : List Key} {us : List Value}, Vals (ks.map kV) us -> ItemsAre (N5 P w) ks us
 | [], _, r => by rw [List.map_nil] at r; cases r; exact .nil
 | k :: ks, _, r => by
   rw [List.map_cons] at r
   cases r with
   | cons h t => exact .cons (Pf h) (Lg t)
abbrev KT (H : Hp) : List (List Key × V) -> List (List Key × Addr × Value) -> Prop := Paired fun p q => p.1 = q.1 /\ H q.2.1 = some (.tup (p.1.map kV)) /\ RelV p.2 q.2.2
theorem KT.val {H : Hp} {kvs : List (List Key × V)} {xs : List (List Key × Addr × Value)} (r : KT H kvs xs) (k : List Key) : RelO (Av kvs k) ((atKey xs k).map (·.2)) := by
 induction r with
 | nil => exact True.intro
 | @cons p q ps qs h t ih =>
   obtain ⟨h1, _, h2⟩ := h
   by_cases e : p.1 = k
   . have e' : q.1 = k := h1.symm.trans e
     have b : atKey (q :: qs) k = some q.2 := by simp [atKey, List.find?_cons, e']
     rw [Gz e, b]; exact h2
   . have e' : ¬ q.1 = k := fun z => e (h1.trans z)
     have b : atKey (q :: qs) k = atKey qs k := by simp [atKey, List.find?_cons, e']
     rw [Ha e, b]; exact ih
theorem KT.repl {H : Hp} {kvs : List (List Key × V)} {xs : List (List Key × Addr × Value)} (r : KT H kvs xs) (k : List Key) {y : V} {u : Value} (ry : RelV y u) :
   KT H (kvs.map fun kv => if kv.1 = k then (kv.1, y) else kv) (xs.map (putAt k u)) := by
 induction r with
 | nil => exact .nil
 | @cons p q ps qs h t ih =>
   rw [List.map_cons, List.map_cons]; refine .cons ?_ ih; obtain ⟨h1, h2, h3⟩ := h; unfold putAt
   by_cases e : p.1 = k
   . rw [if_pos e, if_pos (h1.symm.trans e)]; exact ⟨h1, h2, ry⟩
   . rw [if_neg e, if_neg (fun z => e (h1.trans z))]; exact ⟨h1, h2, h3⟩
theorem KT.put {H : Hp} {kvs : List (List Key × V)} {xs : List (List Key × Addr × Value)} (r : KT H kvs xs) (k : List Key) {b : Addr} {y : V} {u : Value} (hb : H b = some (.tup (k.map kV))) (ry : RelV y u) :
   KT H (W6 kvs k y) (storedH xs k b u) := by
 have e : (kvs.any fun kv => decide (kv.1 = k)) = (atKey xs k).isSome := by
   rw [Cu, (r.val k).isSome_eq, Option.isSome_map]
 unfold W6 storedH
 rw [e]
 by_cases q : (atKey xs k).isSome = true
 . rw [if_pos q, if_pos q]; exact r.repl k ry
 . rw [if_neg q, if_neg q]; exact Paired.snoc r ⟨rfl, hb, ry⟩
theorem KT.keeps {H H' : Hp} {kvs : List (List Key × V)} {xs : List (List Key × Addr × Value)} (r : KT H kvs xs) (ht : ∀ b ys, H b = some (.tup ys) -> H' b = some (.tup ys)) : KT H' kvs xs :=
 Paired.mapP r fun _ _ z => ⟨z.1, ht _ _ z.2.1, z.2.2⟩
section
variable {P : Program} {w : World} {H : Hp} {h : Heap} {a : Addr}
theorem eS {u : HO} (ok : HOk P w H h) (e : Rd H a u) : ObjOk P w H h a u := e.ok ok
theorem Lk {kvs : List (Key × V)} (ok : HOk P w H h) (e : Rd H a (.dK kvs)) : kvs.length <= sizeLine /\ (a == sysModules) = false /\ ∃ vs, KV kvs vs /\ h.DictOf (N5 P w) a vs :=
 show ObjOk P w H h a (.dK kvs) from eS ok e
theorem dk_of {kvs : List (Key × V)} (ok : HOk P w H h) (e : H a = some (.dK kvs)) : kvs.length <= sizeLine /\ (a == sysModules) = false /\ ∃ vs, KV kvs vs /\ h.DictOf (N5 P w) a vs := Lk ok (.inl e)
theorem Cj {ks : List Key} (ok : HOk P w H h) (e : H a = some (.tup (ks.map kV))) : (tupleKind (N5 P w)).is h ks a := by
 obtain ⟨_, its, r, o, h1, h2, n, h3⟩ := (show ObjOk P w H h a (.tup (ks.map kV)) from ok a _ e)
 exact ⟨o, its.toArray, n, h1, h2, h3, by simpa using Lg r⟩
theorem Pm {kvs : List (List Key × V)} (ok : HOk P w H h) (e : Rd H a (.dT kvs)) : kvs.length <= sizeLine /\ (a == sysModules) = false /\
   ∃ xs, KT H kvs xs /\ h.DictOfH (tupleKind (N5 P w)) a xs := by
 obtain ⟨z, y, xs, r, o, es, ep, h1, h2, h3, h4, h5⟩ := (show ObjOk P w H h a (.dT kvs) from eS ok e)
 refine ⟨z, y, xs, r, o, es, ep, h1, h2, h3, h4, fun x hx => ?_, h5⟩
 have all : ∀ {l : List (List Key × V)} {m : List (List Key × Addr × Value)}, KT H l m -> ∀ x ∈ m, (tupleKind (N5 P w)).is h x.1 x.2.1 := by
   intro l m q
   induction q with
   | nil => intro x hx; exact nomatch hx
   | @cons p q ps qs hq t ih =>
     intro x hx; rcases List.mem_cons.mp hx with e | hx
     . subst e
       exact Cj ok (by rw [<- hq.1]; exact hq.2.1)
     . exact ih x hx
 exact all r x hx
theorem fF {kvs : List (List Key × V)} (ok : HOk P w H h) (e : H a = some (.dT kvs)) : kvs.length <= sizeLine /\ (a == sysModules) = false /\
   ∃ xs, KT H kvs xs /\ h.DictOfH (tupleKind (N5 P w)) a xs := Pm ok (.inl e)
end
def DGet (H : Hp) (a : Addr) (y : V) (r : Option V) : Prop :=
 (∃ kvs k, Rd H a (.dK kvs) /\ y = kV k /\ r = Av kvs k) \/ ∃ kvs k b, Rd H a (.dT kvs) /\ y = .ref b /\ H b = some (.tup (k.map kV)) /\ r = Av kvs k
def DPut (H : Hp) (a : Addr) (y v : V) (H' : Hp) : Prop :=
 (∃ kvs k, H a = some (.dK kvs) /\ y = kV k /\ kvs.length < sizeLine /\ H' = upd H a (.dK (W6 kvs k v))) \/
 ∃ kvs k b, H a = some (.dT kvs) /\ y = .ref b /\ H b = some (.tup (k.map kV)) /\ kvs.length < sizeLine /\ H' = upd H a (.dT (W6 kvs k v))
theorem DGet.t {H : Hp} {a b : Addr} {kvs : List (List Key × V)} {k : List Key} (e : H a = some (.dT kvs)) (eb : H b = some (.tup (k.map kV))) : DGet H a (.ref b) (Av kvs k) := .inr ⟨kvs, k, b, .inl e, rfl, eb, rfl⟩
theorem DPut.t {H : Hp} {a b : Addr} {kvs : List (List Key × V)} {k : List Key} {v : V} (e : H a = some (.dT kvs)) (eb : H b = some (.tup (k.map kV))) (hl : kvs.length < sizeLine) :
   DPut H a (.ref b) v (upd H a (.dT (W6 kvs k v))) := .inr ⟨kvs, k, b, e, rfl, eb, hl, rfl⟩
section
variable {X : Cx} {pins : List (Addr × Obj)} {Z : St} {H : Hp} {s : Shared} {a : Addr} {y v : V} {u r : Value} {o : Option V} {A : Around} {E : Value -> Shared -> Prop}
theorem Inv.big (I : Inv X pins Z H s) : sysModules < s.heap.objs.size := by
 have h : mainGlobals < s.heap.objs.size := (I.mod.glob.keeps I.bk).lt
 exact Nat.lt_trans (by decide) h
theorem Wc {Q : Value -> Shared -> Prop} (hu : A.units + 1 < cLine) (I : Inv X pins Z H s) (g : DGet H a y (some v)) (ry : RelV y u) (h : ∀ w' s', Inv X pins Z H s' -> RelV v w' -> Q w' s') :
   wpAny (model X.prog X.w) A (getItem (.ref a) u) Q E s := by
 rcases g with ⟨kvs, k, e, ey, l⟩ | ⟨kvs, k, b, e, ey, eb, l⟩
 . subst ey
   obtain ⟨z, hd, vs, rel, dd⟩ := Lk I.hok e; obtain ⟨w', hw, rw'⟩ := RelO.some_of (v := v) (o := valueAt vs k) (by rw [l]; exact rel.val k)
   exact wpAny_getItem_of (Pf ry) dd.mapOf hw (h w' _ (I.tok _) rw')
 . subst ey
   cases (show u = Value.ref b from ry)
   obtain ⟨z, hd, xs, rel, dd⟩ := Pm I.hok e; obtain ⟨w', hw, rw'⟩ := RelO.some_of (v := v) (o := (atKey xs k).map (·.2)) (by rw [l]; exact rel.val k)
   obtain ⟨p, hp, hp2⟩ := Option.map_eq_some_iff.mp hw; refine wpAny_getItem_heap (tupleKind_room_in1 hu) (Cj I.hok eb) dd hp ?_; rw [hp2]; exact h w' _ (I.tok _) rw'
theorem d_in {Q : Value -> Shared -> Prop} (hu : A.units + 1 < cLine) (I : Inv X pins Z H s) (g : DGet H a y o) (ry : RelV y u) (h : ∀ s', Inv X pins Z H s' -> Q (.bool o.isSome) s') :
   wpAny (model X.prog X.w) A (compareOp .In u (.ref a)) Q E s := by
 rcases g with ⟨kvs, k, e, ey, l⟩ | ⟨kvs, k, b, e, ey, eb, l⟩
 . subst ey
   obtain ⟨z, hd, vs, rel, dd⟩ := Lk I.hok e; refine wpAny_in_of (Pf ry) hd dd.mapOf ?_; rw [<- (rel.val k).isSome_eq, <- l]; exact h _ (I.tok _)
 . subst ey
   cases (show u = Value.ref b from ry)
   obtain ⟨z, hd, xs, rel, dd⟩ := Pm I.hok e; refine wpAny_in_heap (tupleKind_room_in1 hu) (Cj I.hok eb) hd dd ?_; have q := (rel.val k).isSome_eq; rw [Option.isSome_map] at q; rw [<- q, <- l]; exact h _ (I.tok _)
theorem d_notIn {Q : Value -> Shared -> Prop} (hu : A.units + 1 < cLine) (I : Inv X pins Z H s) (g : DGet H a y o) (ry : RelV y u) (h : ∀ s', Inv X pins Z H s' -> Q (.bool (!o.isSome)) s') :
   wpAny (model X.prog X.w) A (compareOp .NotIn u (.ref a)) Q E s := by
 rcases g with ⟨kvs, k, e, ey, l⟩ | ⟨kvs, k, b, e, ey, eb, l⟩
 . subst ey
   obtain ⟨z, hd, vs, rel, dd⟩ := Lk I.hok e; refine wpAny_notIn_of (Pf ry) hd dd.mapOf ?_; rw [<- (rel.val k).isSome_eq, <- l]; exact h _ (I.tok _)
 . subst ey
   cases (show u = Value.ref b from ry)
   obtain ⟨z, hd, xs, rel, dd⟩ := Pm I.hok e; refine wpAny_notIn_heap (tupleKind_room_in1 hu) (Cj I.hok eb) hd dd ?_; have q := (rel.val k).isSome_eq; rw [Option.isSome_map] at q; rw [<- q, <- l]; exact h _ (I.tok _)
theorem Nv {h' : Heap} {t' : Nat} {ob : HO} (I : Inv X pins Z H s) (mu : Mut (H a)) (hs : Heap.SameBut a s.heap h') (he : ∃ q, h'.get? a = some q) (new : ObjOk X.prog X.w (upd H a ob) h' a ob) :
   Inv X pins Z (upd H a ob) { s with heap := h', toks := t' } :=
 I.write (x := a) (e := a) mu (.inl rfl) (fun b q hb z => (hs.2 b hb).trans z) he new
theorem iT {P : Program} {w : World} {H' : Hp} {h' : Heap} {kvs : List (Key × V)} {vs : List (Key × Value)} (z : kvs.length <= sizeLine) (hd : (a == sysModules) = false) (rel : KV kvs vs) (dd : h'.DictOf (N5 P w) a vs) :
   ObjOk P w H' h' a (.dK kvs) := ⟨z, hd, vs, rel, dd⟩
theorem Wb {H' : Hp} {Q : Unit -> Shared -> Prop} (hu : A.units + 1 < cLine) (I : Inv X pins Z H s) (g : DPut H a y v H') (ry : RelV y u) (rv : RelV v r) (h : ∀ s', Inv X pins Z H' s' -> Q () s') :
   wpAny (model X.prog X.w) A (setItem (.ref a) u r) Q E s := by
 rcases g with ⟨kvs, k, e, ey, l, eH⟩ | ⟨kvs, k, b, e, ey, eb, l, eH⟩
 . subst ey eH
   obtain ⟨z, hd, vs, rel, dd⟩ := dk_of I.hok e; have hz : vs.length <= sizeLine := by rw [<- rel.length]; exact z
   have hl : (W6 kvs k v).length <= sizeLine := by have := X0 kvs k v; omega
   refine wpAny_setItem_pairs (hsz := hz) (Pf ry) dd fun h' dd' hs => h _ ?_
   have he : ∃ q, h'.get? a = some q := let ⟨q, _, _, hq, _⟩ := dd'; ⟨q, hq⟩
   exact Nv I (by rw [e]; exact True.intro) hs he (iT hl hd (rel.put k rv) dd')
 . subst ey eH
   cases (show u = Value.ref b from ry)
   obtain ⟨z, hd, xs, rel, dd⟩ := fF I.hok e; have hz : xs.length <= sizeLine := by rw [<- Paired.length rel]; exact z
   have hl : (W6 kvs k v).length <= sizeLine := by have := X0 kvs k v; omega
   refine wpAny_setItem_heap (hsz := hz) (tupleKind_room_in1 hu) (Cj I.hok eb) dd fun h' dd' hs => h _ ?_
   obtain ⟨q, es, ep, hq, h2, h3, h4, _, h5⟩ := dd'; refine Nv I (by rw [e]; exact True.intro) hs ⟨q, hq⟩ ⟨hl, hd, _, (rel.put k eb rv).keeps fun c ys ec => ?_, q, es, ep, hq, h2, h3, h4, h5⟩
   rw [A8 (Bv ec e (fun z => nomatch z))]
   exact ec
end
section
variable {X : Cx} {pins : List (Addr × Obj)} {Z : St} {H : Hp} {s : Shared} {a : Addr} {kvs : List (Key × V)} {A : Around} {E : Value -> Shared -> Prop}
theorem d_len {Q : Value -> Shared -> Prop} (I : Inv X pins Z H s) (e : Rd H a (.dK kvs)) (h : ∀ t s', Inv X pins Z H s' -> Q (.int kvs.length t) s') : wpAny (model X.prog X.w) A (call (.builtin "len") [.ref a]) Q E s := by
 obtain ⟨z, hd, vs, rel, dd⟩ := Lk I.hok e
 refine call_len_dict hd dd (by rw [<- rel.length]; rw [sizeLine_eq] at z; omega) ?_
 rw [<- rel.length]
 exact h _ _ (I.tok _)
end
def Rx (i : Expr) : Prop := ∀ ov iv, subscripted i false ov iv = operate [ov, iv] (getItem ov iv)
theorem bL {prog : Program} {w : World} {A : Around} {E : Value -> Shared -> Prop} {s : Shared} {env : Env} {value slice : Expr} {pos : Pos} {T id : String} {Q : Value -> Shared -> Prop}
   (hl : typeLookup (.type T) "__getitem__" = pure (some (.builtin id))) (hs : Rx slice)
   (h : wpAny (model prog w) A (eval value env) (fun o s₁ => wpAny (model prog w) A (eval slice env) (fun i s₂ => s₂.TypeIs o T /\ wpAny (model prog w) A (getItem o i) Q E s₂) E s₁) E s) :
   wpAny (model prog w) A (eval (.Subscript value slice pos) env) Q E s := by
 refine Subscript_ (wpAny_mono h (fun o s₁ h₁ => wpAny_mono h₁ (fun i s₂ h₂ => ?_) fun _ _ x => x) fun _ _ x => x)
 obtain ⟨hT, h₂⟩ := h₂
 unfold subscriptTail
 refine wpAny_bind ?_
 rw [getitemInPython_of_ne hT.not_modules]
 refine wpAny_bind (wpAny_specialOf hT hl ?_)
 have fin : wpAny (model prog w) A (subscripted slice false o i) (fun r s₃ => wpAny (model prog w) A (letTemporaryGo value o r >>= fun _ => pure r) Q E s₃) E s₂ := by
   rw [hs o i]; exact wpAny_operating (wpAny_mono h₂ (fun r s₃ h₃ => wpAny_bind (wpAny_letTemporaryGo (wpAny_pure h₃))) fun _ _ x => x)
 first
   | exact wpAny_pure (wpAny_bind fin)
   | exact wpAny_bind (wpAny_pure (wpAny_bind fin))
   | exact wpAny_bind fin
theorem Pn {X : Cx} {pins : List (Addr × Obj)} {Z : St} {H : Hp} {s : Shared} {a : Addr} {y : V} {o : Option V} (I : Inv X pins Z H s) (g : DGet H a y o) : s.TypeIs (.ref a) "dict" := by
 rcases g with ⟨kvs, k, e, _, _⟩ | ⟨kvs, k, b, e, _, _, _⟩
 . obtain ⟨_, _, vs, _, dd⟩ := Lk I.hok e
   exact dd.typeIs
 . obtain ⟨_, _, xs, _, dd⟩ := Pm I.hok e
   exact dd.typeIs
def eP (td ty : TE) : TE := fun Z H Q => td Z H fun x H1 => ty Z H1 fun y H2 => ∃ a v, x = .ref a /\ DGet H2 a y (some v) /\ Q v H2
def tDIn (ty td : TE) : TE := fun Z H Q => ty Z H fun y H1 => td Z H1 fun x H2 => ∃ a o, x = .ref a /\ DGet H2 a y o /\ Q (.bl o.isSome) H2
def sDPut (td ty tv : TE) : TS := fun D Z H => tv Z H fun v H1 => td Z H1 fun x H2 => ty Z H2 fun y H3 => ∃ a H4, x = .ref a /\ DPut H3 a y v H4 /\ D.nx Z H4
section
variable {X : Cx} {o i value : Expr} {pos pos' : Pos} {td ty tv : TE}
theorem Dg (hu : X.A.units + 1 < cLine) (ho : PE X o td) (hi : PE X i ty) (hs : Rx i) : PE X (.Subscript o i pos) (eP td ty) := by
 intro pins s Z H Q I h
 refine bL PySem.F.slot_dict_getitem.lookup hs (thn (ho pins s Z H _ I h) fun u s1 ⟨x, H1, I1, rx, q1⟩ => thn (hi pins s1 Z H1 _ I1 q1) fun iv s2 ⟨y, H2, I2, ry, a, v, ex, g, q2⟩ => ?_)
 subst ex
 obtain rfl : u = Value.ref a := rx
 exact ⟨Pn I2 g, Wc hu I2 g ry fun w' s3 I3 rw' => ⟨v, H2, I3, rw', q2⟩⟩
theorem gV (hu : X.A.units + 1 < cLine) (hi : PE X i ty) (ho : PE X o td) : PC X .In i o (tDIn ty td) := by
 intro pins s Z H Q I h
 refine thn (hi pins s Z H _ I h) fun iv s1 ⟨y, H1, I1, ry, q1⟩ => thn (ho pins s1 Z H1 _ I1 q1) fun u s2 ⟨x, H2, I2, rx, a, ov, ex, g, q2⟩ => ?_
 subst ex
 obtain rfl : u = Value.ref a := rx
 exact d_in hu I2 g ry fun s3 I3 => ⟨.bl ov.isSome, H2, I3, rfl, q2⟩
theorem cC (hu : X.A.units + 1 < cLine) (ho : PE X o td) (hi : PE X i ty) (hv : PE X value tv) (hs : swapsWith value (some (.Subscript o i pos')) pos.line X.env = pure false) :
   PS X (.Assign [.Subscript o i pos'] value pos) (sDPut td ty tv) := by
 intro pins s Z H D I h
 refine wpAny_Assign_Subscript (thn (hv pins s Z H _ I h) fun r s1 ⟨v, H1, I1, rv, q1⟩ => thn (ho pins s1 Z H1 _ I1 q1) fun u s2 ⟨x, H2, I2, rx, q2⟩ => thn (hi pins s2 Z H2 _ I2 q2) fun iv s3 ⟨y, H3, I3, ry, a, H4, ex, g, q3⟩ => ?_) hs
 subst ex
 obtain rfl : u = Value.ref a := rx
 exact Wb hu I3 g ry rv fun s4 I4 => ⟨Z, H4, I4, q3⟩
end
theorem Jg {P : Program} {w : World} {H : Hp} (h : Heap) (hb : sysModules < h.objs.size) : ObjOk P w H (h.push { cls := .type "dict", data := .dict #[] }) h.objs.size (.dT []) :=
 ⟨Nat.zero_le _, beq_eq_false_iff_ne.mpr (Ne.symm (Nat.ne_of_lt hb)), [], .nil, _, #[], 0, Heap.get?_push_size _ rfl, ⟨rfl, rfl, rfl⟩, rfl, rfl, List.nodup_nil⟩
def fQ : TE := fun _ H Q => ∀ p, H p = none -> Q (.ref p) (upd H p (.dT []))
section
variable {X : Cx} {pos : Pos}
theorem Ys : PE X (.Dict [] [] pos) fQ := fun pins s Z H Q I h =>
 wpAny_Dict_empty ⟨.ref s.heap.objs.size, _, I.laid (a := s.heap.objs.size) (o := .dT []) (t' := s.toks) (fun _ _ q => Heap.get?_push_of_some _ q) (Nat.le_refl _) (Jg s.heap I.big), rfl, h _ (I.hok.fresh (Nat.le_refl _))⟩
end
def Xc : List (TE × TE) -> St -> Hp -> (List (V × V) -> Hp -> Prop) -> Prop
 | [], _, H, Q => Q [] H
 | (tk, tv) :: r, Z, H, Q => tk Z H fun x H1 => tv Z H1 fun y H2 => Xc r Z H2 fun ps H3 => Q ((x, y) :: ps) H3
abbrev VV : List (V × V) -> List (Value × Value) -> Prop := Paired fun p q => RelV p.1 q.1 /\ RelV p.2 q.2
def PPs (X : Cx) (pos : Pos) (keys : List (Option Expr)) (values : List Expr) (trs : List (TE × TE)) : Prop :=
 ∀ (pins : List (Addr × Obj)) (s : Shared) (Z : St) (H : Hp) (Q : List (V × V) -> Hp -> Prop), Inv X pins Z H s -> Xc trs Z H Q ->
   wpAny (model X.prog X.w) X.A (evalPairs (pairTrees keys values X.env pos)) (fun vs s' => ∃ ps H', Inv X pins Z H' s' /\ VV ps vs /\ Q ps H') X.xe s
theorem cD {X : Cx} {pos : Pos} : PPs X pos [] [] [] := fun pins s Z H Q I h => pairTrees_nil_walk ⟨[], H, I, .nil, h⟩
theorem Yn {X : Cx} {pos : Pos} {k v : Expr} {ks : List (Option Expr)} {vs : List Expr} {tk tv : TE} {trs : List (TE × TE)} (hk : PE X k tk) (hv : PE X v tv) (hr : PPs X pos ks vs trs) :
   PPs X pos (some k :: ks) (v :: vs) ((tk, tv) :: trs) := fun pins s Z H Q I h =>
 pairTrees_cons_walk (thn (hk pins s Z H _ I h) fun u s1 ⟨x, H1, I1, rx, q1⟩ => thn (hv pins s1 Z H1 _ I1 q1) fun w2 s2 ⟨y, H2, I2, ry, q2⟩ =>
   thn (hr pins s2 Z H2 _ I2 q2) fun ws s3 ⟨ps, H3, I3, rel, q3⟩ => ⟨(x, y) :: ps, H3, I3, .cons ⟨rx, ry⟩ rel, q3⟩)
end L2
end
section
namespace Sm
open PySem PySem.Spec PyProof.Rows L2
abbrev St := L2.St
section
variable {prog : Program} {w : World} {A : Around} {R : Result -> Shared -> Prop} {s : Shared}
theorem Dt {elt target iter : Expr} {ifs : List Expr} {scope : Scope} {pos : Pos} {it acc : Value} {env : Env} (I : Nat -> Shared -> Prop)
   (turn : ∀ n s, I n s -> wpAny (model prog w) A (pyNext it) (fun r s₁ => match r with
     | none => R (.ok .next) s₁
     | some v => wpAny (model prog w) A (letOwnedTupleGo target it v) (fun _ s₁' => wpAny (model prog w) A (assign target env v) (fun _ s₂ =>
         wpAny (model prog w) A (forIn ifs true fun c r => if r = true then do let ok <- isTrue c env (eval c env); pure (ForInStep.yield ok) else pure (ForInStep.yield r)) (fun ok s₃ =>
           if ok = true then wpAny (model prog w) A (eval elt env) (fun x s₄ =>
             wpAny (model prog w) A (call (.builtin "list.append") [acc, x]) (fun _ s₅ => ∃ m, m < n /\ I m s₅) (fun _ _ => False) s₄) (fun _ _ => False) s₃
           else ∃ m, m < n /\ I m s₃) (fun _ _ => False) s₂) (fun _ _ => False) s₁') (fun _ _ => False) s₁) (fun _ _ => False) s)
   (n : Nat) (h : I n s) : codeAny (model prog w) A (.compLoop (.ListComp elt [⟨target, iter, ifs, 0⟩] scope pos) 0 it acc env) R s := by
 refine codeAny_loop rfl I (fun n s hI => ?_) n h
 show wpAny _ A ((compTurn (.ListComp elt [⟨target, iter, ifs, 0⟩] scope pos) 0 it acc env).onRaise (fun x => do noteFrame x env; theTreesLotGoes x)) _ _ s
 refine wpAny_noted ?_
 rw [compTurn_list]
 refine wpAny_bind (wpAny_standAt (wpAny_bind (wpAny_mono (turn n s hI) (fun r s₁ h₁ => ?_) fun _ _ h' => h'.elim)))
 cases r with
 | none => exact wpAny_pure h₁
 | some v =>
   refine wpAny_bind (wpAny_mono h₁ (fun _ s₁' h₁' => ?_) fun _ _ h' => h'.elim)
   refine wpAny_bind (wpAny_mono h₁' (fun _ s₂ h₂ => wpAny_bind (wpAny_mono h₂ (fun ok s₃ h₃ => ?_) fun _ _ h' => h'.elim)) fun _ _ h' => h'.elim)
   cases ok with
   | false => exact wpAny_pure ⟨rfl, h₃⟩
   | true =>
     exact wpAny_bind (wpAny_bind (wpAny_mono h₃ (fun x s₄ h₄ => wpAny_bind (wpAny_mono h₄ (fun _ s₅ h₅ => wpAny_pure (wpAny_pure ⟨rfl, h₅⟩)) fun _ _ h' => h'.elim)) fun _ _ h' => h'.elim))
end
def Py (X : Cx) (s₃ : Shared) (H₃ : Hp) (scope : Scope) (cl : List (Str × Addr)) (N' : List Str) (fp : List Addr) : Cx :=
 { X with N := N', s₀ := s₃, H₀ := H₃, env := compEnvC scope cl s₃.heap.objs.size X.env, outer := X.stack, stack := X.stack, ex := fp, fn := fun _ => false, pn := [], xe := fun _ _ => False }
structure Blk (X X' : Cx) (N' : List Str) (sc' : Scope) : Prop where
 prog : X'.prog = X.prog
 w : X'.w = X.w
 K : X'.K = X.K
 mg : X'.mg = X.mg
 base : X'.base = X.base
 A : X'.A = X.A
 calm : X'.calm = X.calm
 N : X'.N = N'
 sc : X'.env.scope = sc'
 xe : X'.xe = fun _ _ => False
structure Clos (X : Cx) (scope : Scope) (cl : List (Str × Addr)) : Prop where
 clo : closureFor scope X.env = pure cl
 sub : ∀ x c, cl.lookup x = some c -> X.env.cells.lookup x = some c
 has : ∀ x, (relabel scope X.env).names.lookup x = some .cell \/ (relabel scope X.env).names.lookup x = some .free -> ∃ c, cl.lookup x = some c
section
variable {X : Cx} {pins : List (Addr × Obj)} {Z : St} {H : Hp} {s₃ : Shared}
theorem jA {scope : Scope} {cl : List (Str × Addr)} {N' : List Str} {fp : List Addr} (I : Inv X pins Z H s₃) (hk : scope.kind = .function) (C : Clos X scope cl) (hfp : ∀ b ∈ fp, Ct X pins H b) (hlt : ∀ b ∈ fp, b < s₃.heap.objs.size) :
   (Py X s₃ H scope cl N' fp).Ok where
 mod := I.ok.mod
 kind := hk
 glob := I.ok.glob
 blt := I.ok.blt
 above := Nat.le_refl _
 inj := fun x y c h1 h2 => I.ok.inj x y c (C.sub x c h1) (C.sub y c h2)
 has := fun x h => C.has x h
 cab := fun x c h => nomatch h
 hd := I.ok.hd
 frames := I.ok.frames
 stk := .inl rfl
 exf := fun b hb => ⟨Nat.ne_of_lt (hlt b hb), fun x c h => (hfp b hb).2.2.2.2.1 x c (C.sub x c h)⟩
 bs := fun b o e => I.bs b o e
 bsz := Nat.le_trans I.ok.bsz I.sz
 noex := fun b o e hb => by
   rcases (hfp b hb).2.2.2.1 with z | z
   . exact I.ok.noex b o e z
   . exact absurd (Nat.lt_of_lt_of_le (Heap.lt_size e) (Nat.le_trans I.ok.bsz z)) (Nat.lt_irrefl _)
 exfs := fun b hb z => by
   rcases List.mem_cons.mp (I.stkSub b z) with q | q
   . exact (hfp b hb).2.1 q
   . exact (hfp b hb).2.2.1 q
 funs := I.stack
 frf := I.stkFree
def Q9 (Z : St) (cap : List Nat) : St := cap.map fun j => Z[j]?.join
theorem eF {scope : Scope} {cl : List (Str × Addr)} {xs : List Str} {cap : List Nat} {capN : List Str} {fp : List Addr} {h₁ : Heap} {tk : Nat} (I : Inv X pins Z H s₃) (hk : scope.kind = .function) (C : Clos X scope cl) (hfp : ∀ b ∈ fp, Ct X pins H b) (hlt : ∀ b ∈ fp, b < s₃.heap.objs.size)
   (hcap : cap.map (fun j => X.N[j]?) = capN.map some) (hcl : ∀ x ∈ capN, (relabel scope X.env).names.lookup x = some .cell \/ (relabel scope X.env).names.lookup x = some .free)
   (hvis : ∀ x ∈ capN, X.env.scope.names.lookup x = some .cell \/ X.env.scope.names.lookup x = some .free) {m : Str -> Option Value}
   (hns : h₁.Ns s₃.heap.objs.size m) (old : ∀ b o, s₃.heap.get? b = some o -> h₁.get? b = some o) :
   Inv (Py X s₃ H scope cl (xs ++ capN) fp) [] (xs.map (fun _ => none) ++ Q9 Z cap) H { s₃ with heap := h₁, toks := tk } := by
 have hlen : cap.length = capN.length := by simpa using congrArg List.length hcap
 refine ⟨jA I hk C hfp hlt, rfl, I.bare, Un.kept old, ⟨m, hns, fun i x v e1 e2 e3 => ?_⟩, fun x c e => ?_, I.hok.fresh (Nat.le_refl _), fun x c e => I.freeC x c (C.sub x c e), fun p hp => absurd (show p ∈ ([] : List (Addr × Obj)) from hp) (by simp), I.hok.kept old, ?_⟩
 . have e1' : (xs ++ capN)[i]? = some x := e1
   by_cases hi : i < xs.length
   . rw [List.getElem?_append_left (by simpa using hi), List.getElem?_map] at e2
     cases q : xs[i]? with
     | none => rw [q] at e2; cases e2
     | some z => rw [q] at e2; cases e2
   . rw [List.getElem?_append_right (by simpa using hi)] at e2
     rw [List.getElem?_append_right (by omega)] at e1'; rw [List.length_map] at e2
     generalize i - xs.length = j at e1' e2
     unfold Q9 at e2; rw [List.getElem?_map] at e2; have hc : (cap.map (fun j => X.N[j]?))[j]? = some (some x) := by rw [hcap, List.getElem?_map, e1']; rfl
     rw [List.getElem?_map] at hc
     cases q : cap[j]? with
     | none => rw [q] at e2; cases e2
     | some k =>
       rw [q] at e2 hc; simp only [Option.map_some] at e2 hc; have hc' : X.N[k]? = some x := Option.some.inj hc; have hs : Z[k]? = some (some v) := by
         cases z : Z[k]? with
         | none => rw [z] at e2; cases e2
         | some z' => rw [z] at e2; cases z' with
           | none => cases e2
           | some z'' => cases e2; rfl
       have hx : x ∈ capN := List.mem_of_getElem? e1'; obtain ⟨m', hm', hl'⟩ := I.loc; obtain ⟨u, r, l⟩ := hl' k x v hc' hs (by rcases hvis x hx with z | z; exact .inr (.inl z); exact .inr (.inr z))
       refine ⟨u, r, .inr ⟨hcl x hx, ?_⟩⟩; obtain ⟨c, hcc⟩ := C.has x (hcl x hx); refine ⟨c, hcc, ?_⟩; rcases l with ⟨z, _⟩ | ⟨_, c', e', z⟩
       . have z' : X.env.scope.names.lookup x = some .local := z
         rcases hvis x hx with y | y <;> (rw [z'] at y; cases y)
       . rw [C.sub x c hcc] at e'; cases e'
         obtain ⟨o, ho, hd⟩ := z; exact ⟨o, old _ _ ho, hd⟩
 . obtain ⟨v, o, ho, hd⟩ := I.cell x c (C.sub x c e)
   exact ⟨v, o, old _ _ ho, hd⟩
 . show (xs.map (fun _ => none) ++ Q9 Z cap).length = (xs ++ capN).length
   unfold Q9; rw [List.length_append, List.length_append, List.length_map, List.length_map, hlen]
end
def Wk (Z1 Z2 : St) : Prop := Z1.length = Z2.length /\ ∀ (i : Nat) v, Z1[i]? = some (some v) -> Z2[i]? = some (some v)
def Kt (wi : TI) (Zb : St -> St) (g : TG) (tt : TT) (te : TE) : TE := fun Z H Q => wi Z H fun J H1 => ∀ D, H1 D = none -> ∃ W : Nat -> Nat -> Hp -> Prop, (∃ m, W 0 m (upd H1 D (.lst []))) /\ ∀ i m H, W i m H ->
 (J.stop i H /\ Q (.ref D) H) \/ (J.go i H /\ ∃ N : Hp -> Prop, (∀ H', N H' -> ∃ m', m' < m /\ W (i + 1) m' H') /\ ∀ x H', J.yld i H x H' -> g x (Zb Z) H' fun Z2 H2 => Wk (Zb Z) Z2 /\ tt Z2 H2 fun b H3 =>
   if b = true then te Z2 H3 fun y H4 => ∃ acc, H4 D = some (.lst acc) /\ acc.length < sizeLine /\ N (upd H4 D (.lst (acc ++ [y]))) else N H3)
def PTs (X : Cx) (ifs : List Expr) (t : TT) : Prop :=
 ∀ (pins : List (Addr × Obj)) (s : Shared) (Z : St) (H : Hp) (Q : Bool -> Hp -> Prop), Inv X pins Z H s -> t Z H Q ->
   wpAny (model X.prog X.w) X.A (forIn ifs true fun c r => if r = true then do let ok <- isTrue c X.env (eval c X.env); pure (ForInStep.yield ok) else pure (ForInStep.yield r)) (TP X pins Z Q) X.xe s
theorem cB {X : Cx} : PTs X [] (fun _ H Q => Q true H) := fun _ _ _ H _ I h => wpAny_tests_nil ⟨H, I, h⟩
theorem cA {X : Cx} {c : Expr} {t : TT} (h : PT X c t) : PTs X [c] t := fun pins s Z H Q I q => wpAny_tests_one (h pins s Z H Q I q)
structure CompFacts (X : Cx) (scope : Scope) (xs capN : List Str) (cap : List Nat) : Prop where
 kind : scope.kind = .function
 nocell : ∀ y ∈ scope.names, y.2 ≠ .cell
 names : ∀ y ∈ scope.names, y.2 = .local -> scope.names.lookup y.1 = some .local
 clos : ∃ cl, Clos X scope cl
 hcap : cap.map (fun j => X.N[j]?) = capN.map some
 hcl : ∀ x ∈ capN, (relabel scope X.env).names.lookup x = some .cell \/ (relabel scope X.env).names.lookup x = some .free
 hvis : ∀ x ∈ capN, X.env.scope.names.lookup x = some .cell \/ X.env.scope.names.lookup x = some .free
section
variable {X : Cx} {tg elt iter : Expr} {ifs : List Expr} {scope : Scope} {pos : Pos} {wi : TI} {g : TG} {tt : TT} {te : TE} {xs capN : List Str} {cap : List Nat}
theorem Pr {use : Option (Value -> Sem Unit)} {Q : Value -> Shared -> Prop} {QQ : VK} (hc : X.calm = true) (F : CompFacts X scope xs capN cap) (hi : PI X tg iter wi)
   (hg : ∀ X', Blk X X' (xs ++ capN) (relabel scope X.env) -> PG X' tg g) (ht : ∀ X', Blk X X' (xs ++ capN) (relabel scope X.env) -> PTs X' ifs tt) (he : ∀ X', Blk X X' (xs ++ capN) (relabel scope X.env) -> PE X' elt te)
   (hs : ∀ x, foldedSetIterable iter X.env x = pure x)
   {pins : List (Addr × Obj)} {s : Shared} {Z : St} {H : Hp} (I : Inv X pins Z H s) (h : Kt wi (fun Z => xs.map (fun _ => none) ++ Q9 Z cap) g tt te Z H QQ) {ps : Pos}
   (fin : ∀ (s' : Shared) (H' : Hp) (D C : Addr) (m : Str -> Option Value), Inv X pins Z H' s' -> s'.heap.Ns C m -> (H' C = none /\ X.s₀.heap.objs.size <= C /\ C ≠ X.env.locals /\ (∀ x c, X.env.cells.lookup x = some c -> c ≠ C) /\ ∀ p ∈ X.pn ++ pins, p.1 ≠ C) ->
     QQ (.ref D) H' -> compPost (model X.prog X.w) X.A X.xe use Q (.ref D) C (.ok .next) s') :
   wpAny (model X.prog X.w) X.A (comprehension (.ListComp elt [⟨tg, iter, ifs, 0⟩] scope pos) scope X.env ps (newList []) false (eval iter X.env) use) Q X.xe s := by
 obtain ⟨cl, C⟩ := F.clos
 refine wpAny_comprehension_free rfl hs C.clo F.kind F.names (thn (hi pins s Z H _ I h) fun v s1 h1 => thn h1 fun itv s2 h2 => ?_)
 obtain ⟨it, fp, tn, J, H2, e, I2, T, st2, f2, h3⟩ := h2
 subst e
 refine wpAny_newObj_type ?_
 obtain ⟨W, ⟨m0, w0⟩, turn⟩ := h3 s2.heap.objs.size I2.fresh
 have I3 : Inv X pins Z (upd H2 s2.heap.objs.size (.lst [])) { s2 with heap := s2.heap.push { cls := .type "list", dict := none, data := .seq ([] : List Value).toArray } } := I2.lnew (t' := s2.toks) .nil (Nat.zero_le _)
 generalize hH3 : upd H2 s2.heap.objs.size (HO.lst []) = H3 at I3 w0
 generalize hs3 : ({ s2 with heap := s2.heap.push { cls := .type "list", dict := none, data := .seq ([] : List Value).toArray } } : Shared) = s3 at I3
 have hD3 : H3 s2.heap.objs.size = some (.lst []) := by rw [<- hH3]; exact B3
 have kp3 : ∀ b o, s2.heap.get? b = some o -> s3.heap.get? b = some o := fun b o e => by rw [<- hs3]; exact Heap.get?_push_of_some _ e
 have hDlt : s2.heap.objs.size < s3.heap.objs.size := by rw [<- hs3]; show _ < (s2.heap.push _).objs.size; rw [Heap.size_push]; exact Nat.lt_succ_self _
 have flt : ∀ b ∈ fp, b < s2.heap.objs.size := fun b hb => by
   obtain ⟨o, e, _⟩ := T.obj 0 _ st2 b hb; exact Heap.lt_size e
 have flt3 : ∀ b ∈ fp, b < s3.heap.objs.size := fun b hb => Nat.lt_trans (flt b hb) hDlt
 have f3 : ∀ b ∈ fp, Ct X pins H3 b := fun b hb => ⟨by rw [<- hH3, A8 (Nat.ne_of_lt (flt b hb))]; exact (f2 b hb).1, (f2 b hb).2⟩
 have st3 : tn 0 s3.heap := T.keep 0 _ _ st2 fun b hb o e => kp3 b o e
 show wpAny _ _ (newFunctionEnv scope X.env.globals cl [] X.env.qual none .none (some X.env)) _ _ s3
 refine wpAny_newFunctionEnv F.nocell (by intro y hy; simp at hy) (fun h₁ hns₁ hsb₁ => ?_) F.kind
 have old : ∀ b o, s3.heap.get? b = some o -> h₁.get? b = some o := fun b o e => hsb₁.extBut b o (Nat.ne_of_lt (Heap.lt_size e)) (Heap.get?_push_of_some _ e)
 have B : Blk X (Py X s3 H3 scope cl (xs ++ capN) fp) (xs ++ capN) (relabel scope X.env) := ⟨rfl, rfl, rfl, rfl, rfl, rfl, rfl, rfl, rfl, rfl⟩
 have J0 : Inv (Py X s3 H3 scope cl (xs ++ capN) fp) [] (xs.map (fun _ => none) ++ Q9 Z cap) H3 { s3 with heap := h₁, toks := s3.toks + ([] : List (Str × Value)).length } :=
   eF I3 F.kind C f3 flt3 F.hcap F.hcl F.hvis hns₁ old
 have st4 : tn 0 h₁ := T.keep 0 _ _ st3 fun b hb o e => old b o e
 have hg' := hg _ B
 have ht' := ht _ B
 have he' := he _ B
 generalize hX' : Py X s3 H3 scope cl (xs ++ capN) fp = X' at B J0 hg' ht' he'
 have hex : X'.ex = fp := by rw [<- hX']; rfl
 have hloc : X'.env.locals = s3.heap.objs.size := by rw [<- hX']; rfl
 have henv : X'.env = compEnvC scope cl s3.heap.objs.size X.env := by rw [<- hX']; rfl
 have hpn : X'.pn = [] := by rw [<- hX']; rfl
 have hxe : X'.xe = fun _ _ => False := by rw [<- hX']; rfl
 have hH0 : X'.H₀ = H3 := by rw [<- hX']; rfl
 have hs0 : X'.s₀ = s3 := by rw [<- hX']; rfl
 have hfs : X'.fs = frs X.stack := by rw [<- hX']; rfl
 have hP : X'.prog = X.prog := B.prog
 have hw : X'.w = X.w := B.w
 have hA : X'.A = X.A := B.A
 have nfs : ∀ b ∈ fp, b ∉ X'.fs := fun b hb z => J0.ok.exfs b (by rw [hex]; exact hb) z
 have stat : ∀ {pn' : List (Addr × Obj)} {H' : Hp}, (∀ b ∈ fp, H' b = none) -> (∀ p ∈ pn', p.1 ∉ fp) -> ∀ b ∈ fp, Ct X' pn' H' b := fun {pn' H'} hn hp b hb =>
   ⟨hn b hb, by rw [hloc]; exact Nat.ne_of_lt (flt3 b hb), nfs b hb, .inl (by rw [hex]; exact hb), fun x c e => (J0.ok.exf b (by rw [hex]; exact hb)).2 x c e, fun p hp' z => by
     rw [hpn, List.nil_append] at hp'; exact hp p hp' (z ▸ hb)⟩
 have loop : ∀ s₀' : Shared, Inv X' [] (xs.map (fun _ => none) ++ Q9 Z cap) H3 s₀' -> tn 0 s₀'.heap ->
     codeAny (model X.prog X.w) X.A (.compLoop (.ListComp elt [⟨tg, iter, ifs, 0⟩] scope pos) 0 (.ref it) (.ref s2.heap.objs.size) X'.env) (compPost (model X.prog X.w) X.A X.xe use Q (.ref s2.heap.objs.size) s3.heap.objs.size) s₀' := by
   intro s₀' J1 st5; refine Dt (fun n s' => ∃ i H', Inv X' [] (xs.map (fun _ => none) ++ Q9 Z cap) H' s' /\ tn i s'.heap /\ (∀ b ∈ fp, H' b = none) /\ W i n H') ?_ m0 ⟨0, H3, J1, st5, fun b hb => (f3 b hb).1, w0⟩
   rintro n s4 ⟨i, H4, J4, st4, fr4, w4⟩
   rcases turn i n H4 w4 with ⟨stop, qn⟩ | ⟨go, N, hN, step⟩
   . have hd := T.done X' B.prog B.w B.K (B.calm.trans hc) i [] s4 _ H4 (fun _ _ => False) J4 (stat fr4 (by simp)) st4 stop
     rw [hA] at hd; refine thn hd fun r s5 ⟨hr, J5⟩ => ?_
     subst hr; have un : Un (frs X.stack) fp H3 H4 s3.heap s5.heap := by
       have := J5.base; rw [hfs, hex, hH0, hs0] at this; exact this
     have ho : s5.os = s3.os := by rw [J5.os, hs0]
     have hok5 : HOk X.prog X.w H4 s5.heap := by have := J5.hok; rw [hP, hw] at this; exact this
     have I5 : Inv X pins Z H4 s5 := I3.call' ho un hok5 J5.bare fun b hb => ⟨(f3 b hb).2.2.2.1, (f3 b hb).2.1, (f3 b hb).2.2.2.2.1, (f3 b hb).2.2.2.2.2⟩
     obtain ⟨m5, hm5, _⟩ := J5.loc; rw [hloc] at hm5; refine fin s5 H4 _ s3.heap.objs.size m5 I5 hm5 ⟨by have := J5.free; rw [hloc] at this; exact this, I3.sz, Nat.ne_of_gt I3.lt, fun x c e z => ?_, fun p hp z => ?_⟩ qn
     . obtain ⟨v, q⟩ := I3.cell x c e
       exact absurd q.lt (by rw [z]; exact Nat.lt_irrefl _)
     . exact absurd (Heap.lt_size (I3.pin p hp).1) (by rw [z]; exact Nat.lt_irrefl _)
   . have hd := T.item X' B.prog B.w B.K (B.calm.trans hc) i [] s4 _ H4 (fun _ _ => False) J4 (stat fr4 (by simp)) st4 go
     rw [hA] at hd; refine thn hd fun r s5 ⟨u, hr, h5⟩ => ?_
     subst hr; refine thn h5 fun _ s6 ⟨x, H6, J6, r6, y6, st6, fr6⟩ => ?_
     have J6' := J6.pinned (stat fr6 (by simp)) (T.obj _ _ st6)
     rw [List.nil_append] at J6'; have hgx := hg' _ s6 _ H6 x u _ J6' r6 (step x H6 y6); rw [hP, hw, hA, hxe] at hgx; refine thn hgx fun _ s7 ⟨Z7, H7, J7, wk7, q7⟩ => ?_
     have htx := ht' _ s7 Z7 H7 _ J7 q7; rw [hP, hw, hA, hxe] at htx; refine thn htx fun ok s8 ⟨H8, J8, q8⟩ => ?_
     have again : ∀ {H9 : Hp} {s9 : Shared}, Inv X' (Eo fp s6.heap) Z7 H9 s9 -> N H9 -> (∃ m, m < n /\ ∃ i H', Inv X' [] (xs.map (fun _ => none) ++ Q9 Z cap) H' s9 /\ tn i s9.heap /\ (∀ b ∈ fp, H' b = none) /\ W i m H') := fun {H9 s9} J9 n9 => by
       obtain ⟨m', hm, w9⟩ := hN H9 n9; have pin9 : ∀ b ∈ fp, ∀ o, s6.heap.get? b = some o -> s9.heap.get? b = some o /\ H9 b = none := fun b hb o e => by
         have := J9.pin (b, o) (List.mem_append_right _ (Ak hb e)); exact ⟨this.1, this.2.1⟩
       refine ⟨m', hm, i + 1, H9, (J9.weak wk7.1 wk7.2).pins_of (fun p hp => nomatch hp), T.keep _ _ _ st6 fun b hb o e => (pin9 b hb o e).1, fun b hb => ?_, w9⟩
       obtain ⟨o, e, d⟩ := T.obj _ _ st6 b hb; exact (pin9 b hb o e).2
     cases ok with
     | false =>
       rw [if_neg (by decide)] at q8 ⊢
       exact again J8 q8
     | true =>
       rw [if_pos rfl] at q8 ⊢
       have hex := he' _ s8 Z7 H8 _ J8 q8; rw [hP, hw, hA, hxe] at hex; refine thn hex fun y s9 ⟨x9, H9, J9, r9, acc, ha, hz, n9⟩ => ?_
       have hap := Aa (X := X') _ s9 Z7 H9 (.ref s2.heap.objs.size) [x9] (.ref s2.heap.objs.size) [y] (fun _ H' => N H') J9 rfl (.cons r9 .nil) ⟨_, acc, x9, rfl, rfl, ha, hz, n9⟩
       rw [hP, hw, hA, hxe] at hap; exact thn hap fun _ s10 ⟨_, H10, J10, _, n10⟩ => again J10 n10
 have e0 : ({ (newEnv scope s3.heap.objs.size X.env.globals cl X.env.qual none .none (some X.env) builtinsNs : Env) with scope := relabel scope X.env } : Env) = X'.env := by rw [henv]; rfl
 have e1 : (newEnv scope s3.heap.objs.size X.env.globals cl X.env.qual none .none (some X.env) builtinsNs : Env).locals = s3.heap.objs.size := rfl
 show codeAny _ _ (.compStart _ 0 (.ref it) (.ref s2.heap.objs.size) ({ (newEnv scope s3.heap.objs.size X.env.globals cl X.env.qual none .none (some X.env) builtinsNs : Env) with scope := relabel scope X.env } : Env)) (compPost _ _ _ _ _ _ s3.heap.objs.size) _
 rw [e0]
 exact codeAny_compStart_list (loop _ J0 st4) (T.self _ 0 _ _ _ st4 (loop _ J0 st4))
theorem cI (hc : X.calm = true) (F : X.Ok -> CompFacts X scope xs capN cap) (hi : PI X tg iter wi)
   (hg : ∀ X', Blk X X' (xs ++ capN) (relabel scope X.env) -> PG X' tg g) (ht : ∀ X', Blk X X' (xs ++ capN) (relabel scope X.env) -> PTs X' ifs tt) (he : ∀ X', Blk X X' (xs ++ capN) (relabel scope X.env) -> PE X' elt te)
   (hs : ∀ x, foldedSetIterable iter X.env x = pure x := by intro _; rfl) : PE X (.ListComp elt [⟨tg, iter, ifs, 0⟩] scope pos) (Kt wi (fun Z => xs.map (fun _ => none) ++ Q9 Z cap) g tt te) := by
 intro pins s Z H Q I h
 rw [eval_ListComp]
 refine Pr (use := none) hc (F I.ok) hi hg ht he hs I h fun s' H' D C m I' hm ⟨c1, c2, c3, c4, c5⟩ q => ?_
 refine ⟨m, hm, fun h' sb => ?_⟩
 exact ⟨.ref D, H', I'.turned (t' := s'.toks) (fun b o hb e => (sb.2 b hb).trans e) c1 c3 (.inr c2) c4 c5, rfl, q⟩
theorem Qv {i : Nat} {y : Str} {py spos : Pos} (hc : X.calm = true) (F : X.Ok -> CompFacts X scope xs capN cap) (hi : PI X tg iter wi)
   (hg : ∀ X', Blk X X' (xs ++ capN) (relabel scope X.env) -> PG X' tg g) (ht : ∀ X', Blk X X' (xs ++ capN) (relabel scope X.env) -> PTs X' ifs tt) (he : ∀ X', Blk X X' (xs ++ capN) (relabel scope X.env) -> PE X' elt te)
   (hN : X.N.Nodup) (hy : X.N[i]? = some y) (hl : X.env.scope.names.lookup y = some .local) (hsw : swapsWith (.ListComp elt [⟨tg, iter, ifs, 0⟩] scope pos) (some (.Name y py)) spos.line X.env = pure true)
   (hs : ∀ x, foldedSetIterable iter X.env x = pure x := by intro _; rfl) : PS X (.Assign [.Name y py] (.ListComp elt [⟨tg, iter, ifs, 0⟩] scope pos) spos) (fR (Kt wi (fun Z => xs.map (fun _ => none) ++ Q9 Z cap) g tt te) (X2 i)) := by
 intro pins s Z H D0 I h
 rw [exec_Assign_Name_used _ _ _ _ hsw]
 refine wpAny_bind (wpAny_standAt (wpAny_bind ?_))
 show wpAny _ _ (do let _ <- comprehension (.ListComp elt [⟨tg, iter, ifs, 0⟩] scope pos) scope X.env _ (newList []) false (eval iter X.env) (some (assign (.Name y py) X.env))) _ _ s
 refine wpAny_bind (wpAny_mono (Pr (use := some (assign (.Name y py) X.env)) (Q := fun _ s' => SP X pins D0 .next s') hc (F I.ok) hi hg ht he hs I h fun s' H' D C m I' hm ⟨c1, c2, c3, c4, c5⟩ q => ?_) (fun _ s' hq => wpAny_pure (wpAny_pure hq)) fun _ _ e => e)
 show wpAny _ _ (assign (.Name y py) X.env (.ref D)) _ _ s'
 refine wpAny_assign_Name (Eb I' hN hy (.inl hl) (v := .ref D) rfl (fun s'' I'' ⟨a, sa, ea⟩ => ?_) (.inr hl))
 have haC : a ≠ C := by
   rcases ea with z | z
   . rw [z]; exact Ne.symm c3
   . exact c4 _ _ z
 refine ⟨m, hm.sameBut sa (Ne.symm haC), fun h' sb => ?_⟩
 exact ⟨_, H', I''.turned (t' := s''.toks) (fun b o hb e => (sb.2 b hb).trans e) c1 c3 (.inr c2) c4 c5, q⟩
end
end Sm
end
section
namespace Sm
open PySem PySem.Spec PyProof.Rows L2
inductive Res (α : Type) where
 | ok (a : α)
 | exc (c : Str)
 | no
noncomputable def Res.bind {α β : Type} : Res α -> (α -> Res β) -> Res β
 | .ok a, k => k a
 | .exc c, _ => .exc c
 | .no, _ => .no
noncomputable def ofO {α : Type} : Option α -> Res α
 | some a => .ok a
 | none => .no
inductive Sl where
 | un
 | sh (d : PyData)
 | ow (d : PyData)
 | fd (kvs : List (PyData × PyData))
abbrev Dn := List Sl
mutual
noncomputable def Rep (G : Hp) : PyData -> V -> Prop
 | .none, v => v = .non
 | .bool b, v => v = .bl b
 | .int i, v => v = .int i
 | .str x, v => v = .str x /\ PyData.strOk x = true /\ x.length <= sizeLine
 | .list ds, v => ∃ a xs, v = .ref a /\ Rd G a (.lst xs) /\ RepL G ds xs
 | .tuple ds, v => ∃ a xs, v = .ref a /\ G a = some (.tup xs) /\ RepL G ds xs
 | .dict _, _ => False
noncomputable def RepL (G : Hp) : List PyData -> List V -> Prop
 | [], xs => xs = []
 | d :: ds, xs => ∃ x r, xs = x :: r /\ Rep G d x /\ RepL G ds r
end
theorem Rd.mono {G G' : Hp} (h : Same G G') {a : Addr} {u : HO} (r : Rd G a u) : Rd G' a u := by
 rcases r with r | ⟨o, r⟩
 . exact .inl (h _ _ r)
 . exact .inr ⟨o, h _ _ r⟩
mutual
theorem Rep.mono {G G' : Hp} (h : Same G G') : ∀ {d : PyData} {v : V}, Rep G d v -> Rep G' d v
 | .none, _, r => r
 | .bool _, _, r => r
 | .int _, _, r => r
 | .str _, _, r => r
 | .list _, _, r => by obtain ⟨a, xs, e, q, l⟩ := r; exact ⟨a, xs, e, Rd.mono h q, RepL.mono h l⟩
 | .tuple _, _, r => by obtain ⟨a, xs, e, q, l⟩ := r; exact ⟨a, xs, e, h _ _ q, RepL.mono h l⟩
 | .dict _, _, r => r.elim
theorem RepL.mono {G G' : Hp} (h : Same G G') : ∀ {ds : List PyData} {xs : List V}, RepL G ds xs -> RepL G' ds xs
 | [], _, r => r
 | _ :: _, _, r => by obtain ⟨x, t, e, q, l⟩ := r; exact ⟨x, t, e, Rep.mono h q, RepL.mono h l⟩
end
mutual
theorem Rep.lay {G : Hp} : ∀ {d : PyData} {v : V}, Rep G d v -> d.canLay0 = true
 | .none, _, r => rfl
 | .bool _, _, r => rfl
 | .int _, _, r => rfl
 | .str _, _, r => r.2.1
 | .list _, _, r => by obtain ⟨a, xs, e, q, l⟩ := r; exact RepL.lay l
 | .tuple _, _, r => by obtain ⟨a, xs, e, q, l⟩ := r; exact RepL.lay l
 | .dict _, _, r => r.elim
theorem RepL.lay {G : Hp} : ∀ {ds : List PyData} {xs : List V}, RepL G ds xs -> PyData.canLayAll0 ds = true
 | [], _, r => rfl
 | _ :: _, _, r => by
   obtain ⟨x, t, e, q, l⟩ := r; rw [PyData.canLayAll0, Rep.lay q, RepL.lay l]; rfl
end
section
variable {G : Hp}
theorem RepL.cons {d : PyData} {ds : List PyData} {x : V} {xs : List V} (h : Rep G d x) (t : RepL G ds xs) : RepL G (d :: ds) (x :: xs) := ⟨x, xs, rfl, h, t⟩
theorem RepL.length : ∀ {ds : List PyData} {xs : List V}, RepL G ds xs -> ds.length = xs.length
 | [], _, r => by cases (show _ = _ from r); rfl
 | d :: ds, _, r => by obtain ⟨x, t, rfl, q, l⟩ := r; simp [RepL.length l]
theorem RepL.get : ∀ {ds : List PyData} {xs : List V} {i : Nat} {d : PyData}, RepL G ds xs -> ds[i]? = some d -> ∃ x, xs[i]? = some x /\ Rep G d x
 | [], _, _, _, _, e => by simp at e
 | d :: ds, _, 0, _, r, e => by obtain ⟨x, t, rfl, q, l⟩ := r; simp at e; subst e; exact ⟨x, rfl, q⟩
 | d :: ds, _, i + 1, _, r, e => by
   obtain ⟨x, t, rfl, q, l⟩ := r; obtain ⟨y, h1, h2⟩ := RepL.get (i := i) l (by simpa using e)
   exact ⟨y, by simpa using h1, h2⟩
theorem RepL.append : ∀ {ds es : List PyData} {xs ys : List V}, RepL G ds xs -> RepL G es ys -> RepL G (ds ++ es) (xs ++ ys)
 | [], _, _, _, r, q => by cases (show _ = _ from r); exact q
 | d :: ds, _, _, _, r, q => by obtain ⟨x, t, rfl, h, l⟩ := r; exact RepL.cons h (RepL.append l q)
theorem RepL.drop : ∀ (n : Nat) {ds : List PyData} {xs : List V}, RepL G ds xs -> RepL G (ds.drop n) (xs.drop n)
 | 0, _, _, r => r
 | _ + 1, [], _, r => by cases (show _ = _ from r); exact rfl
 | n + 1, d :: ds, _, r => by obtain ⟨x, t, rfl, h, l⟩ := r; exact RepL.drop n l
theorem RepL.take : ∀ (n : Nat) {ds : List PyData} {xs : List V}, RepL G ds xs -> RepL G (ds.take n) (xs.take n)
 | 0, _, _, r => rfl
 | _ + 1, [], _, r => by cases (show _ = _ from r); exact rfl
 | n + 1, d :: ds, _, r => by obtain ⟨x, t, rfl, h, l⟩ := r; exact RepL.cons h (RepL.take n l)
theorem RepL.rep {ds : List PyData} {xs : List V} (r : RepL G ds xs) : ∀ k : Nat, RepL G (List.replicate k ds).flatten (List.replicate k xs).flatten
 | 0 => rfl
 | k + 1 => by
   rw [List.replicate_succ, List.replicate_succ, List.flatten_cons, List.flatten_cons]; exact RepL.append r (RepL.rep r k)
theorem RepL.ints (ns : List Int) : RepL G (ns.map PyData.int) (ns.map V.int) := by
 induction ns with
 | nil => exact rfl
 | cons n ns ih => exact RepL.cons rfl ih
theorem RepL.inv_cons {d : PyData} {ds : List PyData} {xs : List V} (r : RepL G (d :: ds) xs) : ∃ x t, xs = x :: t /\ Rep G d x /\ RepL G ds t := r
end
structure Grow (G H G' H' : Hp) : Prop where
 g : Same G G'
 h : Same H H'
 gh : Same G' H'
 fr : ∀ b o, G' b = some o -> G b = some o \/ H b = none \/ ∃ xs, o = HO.tup xs
theorem Grow.refl {G H : Hp} (h : Same G H) : Grow G H G H := ⟨Same.refl _, Same.refl _, h, fun _ _ e => .inl e⟩
theorem Grow.trans {G H G1 H1 G2 H2 : Hp} (a : Grow G H G1 H1) (b : Grow G1 H1 G2 H2) : Grow G H G2 H2 :=
 ⟨a.g.trans b.g, a.h.trans b.h, b.gh, fun c o e => by
   rcases b.fr c o e with q | q | q
   . exact a.fr c o q
   . exact .inr (.inl (a.h.free q))
   . exact .inr (.inr q)⟩
theorem Same.upd {H : Hp} {p : Addr} {o : HO} (h : H p = none) : Same H (upd H p o) := fun b u e => by
 rw [A8 (B5 e h)]; exact e
theorem Grow.new {G H : Hp} {p : Addr} {o : HO} (s : Same G H) (h : H p = none) : Grow G H (upd G p o) (upd H p o) := by
 have hg : G p = none := s.free h
 refine ⟨Same.upd hg, Same.upd h, fun b u e => ?_, fun b u e => ?_⟩
 . by_cases hb : b = p
   . subst hb; rw [B3] at e ⊢; exact e
   . rw [A8 hb] at e ⊢; exact s _ _ e
 . by_cases hb : b = p
   . subst hb; exact .inr (.inl h)
   . rw [A8 hb] at e; exact .inl e
theorem Grow.own {G H : Hp} {p : Addr} {o : HO} (s : Same G H) (h : H p = none) : Grow G H G (upd H p o) :=
 ⟨Same.refl _, Same.upd h, s.trans (Same.upd h), fun _ _ e => .inl e⟩
noncomputable def M4 : Key -> PyData
 | .inl i => .int i
 | .inr x => .str x
noncomputable def fB (kk : List (Key × V)) : List (List Key × V) := kk.map fun p => ([p.1], p.2)
noncomputable def OwnK (G H : Hp) (a : Addr) : List PyData -> Prop
 | [.dict kvs] => ∃ kk : List (Key × V), H a = some (.dK kk) /\ kvs.map (·.1) = (fB kk).map (fun p => PyData.tuple (p.1.map M4)) /\ RepL G (kvs.map (·.2)) ((fB kk).map (·.2))
 | _ => False
theorem OwnK.keep {G G' H H' : Hp} {a : Addr} {xs : List PyData} (g : Same G G') (e : ∀ o, H a = some o -> H' a = some o) (h : OwnK G H a xs) : OwnK G' H' a xs := by
 unfold OwnK at h ⊢
 split at h
 . obtain ⟨kk, h1, h2, h3⟩ := h
   exact ⟨kk, e _ h1, h2, h3.mono g⟩
 . exact h.elim
theorem OwnK.is {G H : Hp} {a : Addr} {xs : List PyData} (h : OwnK G H a xs) : ∃ o, H a = .some o := by
 unfold OwnK at h
 split at h
 . obtain ⟨kk, h1, _⟩ := h
   exact ⟨_, h1⟩
 . exact h.elim
noncomputable def OwnOk (G H : Hp) (a : Addr) : PyData -> Prop
 | .list ds => ∃ xs, H a = some (.lst xs) /\ RepL G ds xs
 | .dict kvs => ∃ kk : List (List Key × V), H a = some (.dT kk) /\ kvs.map (·.1) = kk.map (fun p => PyData.tuple (p.1.map M4)) /\ RepL G (kvs.map (·.2)) (kk.map (·.2))
 | .tuple xs => OwnK G H a xs
 | _ => False
def FdOk (G : Hp) (o : Option V) (kvs : List (PyData × PyData)) : Prop := ∃ a ob, ∃ kk : List (List Key × V), o = some (.ref a) /\ G a = some (.frz ob (.dT kk)) /\ kvs.map (·.1) = kk.map (fun p => PyData.tuple (p.1.map M4)) /\ RepL G (kvs.map (·.2)) (kk.map (·.2))
theorem FdOk.mono {G G' : Hp} {o : Option V} {kvs : List (PyData × PyData)} (g : Same G G') (h : FdOk G o kvs) : FdOk G' o kvs := by
 obtain ⟨a, ob, kk, h1, h2, h3, h4⟩ := h
 exact ⟨a, ob, kk, h1, g _ _ h2, h3, h4.mono g⟩
noncomputable def SlOk (G H : Hp) (o : Option V) : Sl -> Prop
 | .un => True
 | .sh d => ∃ v, o = some v /\ Rep G d v
 | .ow d => ∃ a, o = some (.ref a) /\ G a = none /\ OwnOk G H a d
 | .fd kvs => FdOk G o kvs
structure SR (G H : Hp) (Z : St) (δ : Dn) : Prop where
 sub : Same G H
 len : Z.length = δ.length
 sl : ∀ (i : Nat) (s : Sl), δ[i]? = some s -> SlOk G H (Z[i]?.join) s
 ap : ∀ (i j : Nat) (a : Addr) (d e : PyData), δ[i]? = some (.ow d) -> δ[j]? = some (.ow e) -> Z[i]?.join = some (.ref a) -> Z[j]?.join = some (.ref a) -> i = j
theorem OwnOk.some {G H : Hp} {a : Addr} {d : PyData} (h : OwnOk G H a d) : ∃ o, H a = some o := by
 cases d with
 | list ds => obtain ⟨xs, e, _⟩ := h; exact ⟨_, e⟩
 | dict kvs => obtain ⟨xs, e, _⟩ := h; exact ⟨_, e⟩
 | tuple xs => exact OwnK.is h
 | _ => exact (show False from h).elim
theorem OwnOk.grow {G H G' H' : Hp} (g : Grow G H G' H') {a : Addr} {d : PyData} (h : OwnOk G H a d) : OwnOk G' H' a d := by
 cases d with
 | list ds => obtain ⟨xs, e, r⟩ := h; exact ⟨xs, g.h _ _ e, r.mono g.g⟩
 | dict kvs => obtain ⟨xs, e, k, r⟩ := h; exact ⟨xs, g.h _ _ e, k, r.mono g.g⟩
 | tuple xs => exact OwnK.keep g.g (fun o e => g.h _ _ e) h
 | _ => exact (show False from h).elim
theorem OwnOk.noTup {G H : Hp} {a : Addr} {d : PyData} (h : OwnOk G H a d) {xs : List V} (e : H a = .some (HO.tup xs)) : False := by
 cases d with
 | list ds => obtain ⟨_, z, _⟩ := h; rw [e] at z; cases z
 | dict kvs => obtain ⟨_, z, _⟩ := h; rw [e] at z; cases z
 | tuple ys =>
   have h' : OwnK G H a ys := h; unfold OwnK at h'
   split at h'
   . obtain ⟨_, z, _⟩ := h'; rw [e] at z; cases z
   . exact h'
 | _ => exact (show False from h).elim
theorem SlOk.grow {G H G' H' : Hp} (g : Grow G H G' H') {o : Option V} {s : Sl} (h : SlOk G H o s) : SlOk G' H' o s := by
 cases s with
 | un => trivial
 | sh d => obtain ⟨v, e, r⟩ := h; exact ⟨v, e, r.mono g.g⟩
 | fd kvs => exact FdOk.mono g.g h
 | ow d =>
   obtain ⟨a, e, n, r⟩ := h; refine ⟨a, e, ?_, r.grow g⟩
   cases q : G' a with
   | none => rfl
   | some u =>
     obtain ⟨o', eo⟩ := r.some; rcases g.fr a u q with z | z | ⟨xs, rfl⟩
     . rw [n] at z; cases z
     . rw [eo] at z; cases z
     . exact ((r.grow g).noTup (g.gh _ _ q)).elim
theorem SR.grow {G H G' H' : Hp} {Z : St} {δ : Dn} (S : SR G H Z δ) (g : Grow G H G' H') : SR G' H' Z δ :=
 ⟨g.gh, S.len, fun i s e => (S.sl i s e).grow g, S.ap⟩
abbrev EK := Str -> Hp -> Prop
def Aft (E : EK) (G H : Hp) (r : Res PyData) (Q : VK) : Prop := match r with
 | .ok d => ∀ v G' H', Grow G H G' H' -> Rep G' d v -> Q v H'
 | .exc c => ∀ G' H', Grow G H G' H' -> E c H'
 | .no => False
def tD (E : EK) (f : Dn -> Res PyData) : TE := fun Z H Q => ∃ G δ, SR G H Z δ /\ Aft E G H (f δ) Q
abbrev DE (X : Cx) (E : EK) (e : Expr) (f : Dn -> Res PyData) : Prop := PE X e (tD E f)
theorem Aft.grow {E : EK} {G H G' H' : Hp} {r : Res PyData} {Q : VK} (g : Grow G H G' H') (a : Aft E G H r Q) : Aft E G' H' r Q := by
 cases r with
 | ok d => exact fun v G2 H2 g2 q => a v G2 H2 (g.trans g2) q
 | exc c => exact fun G2 H2 g2 => a G2 H2 (g.trans g2)
 | no => exact a
theorem PE.imp {X : Cx} {e : Expr} {t t' : TE} (h : PE X e t) (i : ∀ Z H Q, t' Z H Q -> t Z H Q) : PE X e t' := fun pins s Z H Q I q => h pins s Z H Q I (i _ _ _ q)
theorem P3 {E : EK} {G H : Hp} {Z : St} {δ : Dn} {f : Dn -> Res PyData} {k : PyData -> Res PyData} {Q R : VK} (S : SR G H Z δ) (a : Aft E G H ((f δ).bind k) Q)
   (h : ∀ d v G1 H1, Grow G H G1 H1 -> Rep G1 d v -> SR G1 H1 Z δ -> Aft E G1 H1 (k d) Q -> R v H1) : tD E f Z H R := by
 refine ⟨G, δ, S, ?_⟩
 cases e : f δ with
 | ok d =>
   rw [e] at a; exact fun v G' H' g r => h d v G' H' g r (S.grow g) (Aft.grow g a)
 | exc c => rw [e] at a; exact a
 | no => rw [e] at a; exact a
section
variable {X : Cx} {E : EK} {pos : Pos}
noncomputable def vC (d : PyData) : Dn -> Res PyData := fun _ => .ok d
noncomputable def A2 (i : Nat) : Dn -> Res PyData := fun δ => match δ[i]? with
 | some (.sh d) => .ok d
 | _ => .no
theorem A9 {i : Int} {j : Nat} : DE X E (.Constant (.int i) j pos) (vC (.int i)) := PE.imp Mx fun Z H Q ⟨G, δ, S, a⟩ => a _ G H (Grow.refl S.sub) rfl
theorem Co {b : Bool} {j : Nat} : DE X E (.Constant (.bool b) j pos) (vC (.bool b)) := PE.imp Yu fun Z H Q ⟨G, δ, S, a⟩ => a _ G H (Grow.refl S.sub) rfl
theorem Nw {j : Nat} : DE X E (.Constant .none j pos) (vC .none) := PE.imp gT fun Z H Q ⟨G, δ, S, a⟩ => a _ G H (Grow.refl S.sub) rfl
theorem K6 {x : Str} {j : Nat} (h : PyData.strOk x = true := by decide +kernel) (hl : x.length <= sizeLine := by decide +kernel) : DE X E (.Constant (.str x) j pos) (vC (.str x)) :=
 PE.imp Mw fun Z H Q ⟨G, δ, S, a⟩ => a _ G H (Grow.refl S.sub) ⟨rfl, h, hl⟩
theorem Ri {i : Nat} {x : Str} (hN : X.N[i]? = some x) (hv : Vis X.env.scope x) (hd : (x == ("__debug__" : Str)) = false) (hcd : (x == ("__classdict__" : Str)) = false) : DE X E (.Name x pos) (A2 i) :=
 PE.imp (Cg hN hv hd hcd) fun Z H Q ⟨G, δ, S, a⟩ => by
   unfold A2 at a
   split at a
   . rename_i d e
     obtain ⟨v, e1, r⟩ := S.sl i _ e; refine ⟨v, ?_, a _ G H (Grow.refl S.sub) r⟩
     cases q : Z[i]? with
     | none => rw [q] at e1; cases e1
     | some w => rw [q] at e1; cases w with
       | none => cases e1
       | some w => cases e1; rfl
   . exact a.elim
noncomputable def b2 (f g : Dn -> Res PyData) (op : PyData -> PyData -> Option PyData) : Dn -> Res PyData := fun δ => (f δ).bind fun x => (g δ).bind fun y => ofO (op x y)
def OpD (r : R2) (op : PyData -> PyData -> Option PyData) : Prop := ∀ (G H : Hp) (x y : V) (a b d : PyData) (Q : VK), Same G H -> Rep G a x -> Rep G b y -> op a b = some d -> (∀ v G' H', Grow G H G' H' -> Rep G' d v -> Q v H') -> r x y H Q
theorem Xd {r : R2} {op : PyData -> PyData -> Option PyData} {f g : Dn -> Res PyData} (ho : OpD r op) {Z : St} {H : Hp} {Q : VK} (h : tD E (b2 f g op) Z H Q) : tOp r (tD E f) (tD E g) Z H Q := by
 obtain ⟨G, δ, S, a⟩ := h
 refine P3 S a fun d1 v1 G1 H1 g1 r1 S1 a1 => ?_
 refine P3 S1 a1 fun d2 v2 G2 H2 g2 r2 S2 a2 => ?_
 cases e : op d1 d2 with
 | none => rw [e] at a2; exact a2.elim
 | some d => rw [e] at a2; exact ho G2 H2 v1 v2 d1 d2 d Q S2.sub (r1.mono g2.g) r2 e a2
theorem Tt {a b : Expr} {o : Operator} {r : R2} {op : PyData -> PyData -> Option PyData} {f g : Dn -> Res PyData} (hr : OpR X (binaryOp o) r) (ho : OpD r op) (ha : DE X E a f) (hb : DE X E b g) : DE X E (.BinOp a o b pos) (b2 f g op) :=
 PE.imp (pe_op hr ha hb) fun _ _ _ h => Xd ho h
theorem aP {a b : Expr} {o : CmpOp} {r : R2} {op : PyData -> PyData -> Option PyData} {f g : Dn -> Res PyData} (hr : OpR X (compareOp o) r) (ho : OpD r op) (ha : DE X E a f) (hb : DE X E b g) (hm : behindInMarks o b = false) : DE X E (.Compare a [o] [b] pos) (b2 f g op) :=
 PE.imp (cJ hr ha hb hm) fun _ _ _ h => Xd ho h
end
end Sm
end
section
namespace Sm
open PySem PySem.Spec PyProof.Rows L2
section
variable {X : Cx} {pins : List (Addr × Obj)} {Z : St} {H G : Hp} {s : Shared}
theorem O7 (I : Inv X pins Z H s) {a : Addr} {xs : List V} (hG : Same G H) (r : Rd G a (.lst xs)) : xs.length <= sizeLine /\ ∃ (its : List Value) (n : Nat), Vals xs its /\ s.heap.get? a = some { cls := .type "list", data := .seq its.toArray n } :=
 (Rd.ok (Rd.mono hG r) I.hok : ObjOk X.prog X.w H s.heap a (.lst xs))
theorem Y8 (I : Inv X pins Z H s) {a : Addr} {xs : List V} (hG : Same G H) (r : G a = some (.tup xs)) : xs.length <= sizeLine /\ ∃ its : List Value, Vals xs its /\ IsTup s.heap a its.toArray :=
 (I.hok a _ (hG _ _ r) : ObjOk X.prog X.w H s.heap a (.tup xs))
mutual
theorem Rep.reads (I : Inv X pins Z H s) (hG : Same G H) : ∀ {d : PyData} {v : V} {u : Value}, Rep G d v -> RelV v u -> ∃ as, Reads s.heap u d as
 | .none, _, _, r, q => by cases (show _ = _ from r); cases q; exact ⟨_, .none⟩
 | .bool _, _, _, r, q => by cases (show _ = _ from r); cases q; exact ⟨_, .bool _⟩
 | .int _, _, _, r, q => by cases (show _ = _ from r); obtain ⟨t, rfl⟩ := q; exact ⟨_, .int _ _⟩
 | .str _, _, _, r, q => by cases r.1; obtain ⟨t, rfl⟩ := q; exact ⟨_, .str _ _⟩
 | .list _, _, _, r, q => by
   obtain ⟨a, xs, rfl, h, l⟩ := r; cases q; obtain ⟨z, its, n, rv, e⟩ := O7 I hG h; obtain ⟨as, ra⟩ := RepL.reads I hG l rv; exact ⟨_, .list e rfl rfl (by simpa using ra)⟩
 | .tuple _, _, _, r, q => by
   obtain ⟨a, xs, rfl, h, l⟩ := r; cases q; obtain ⟨z, its, rv, o, e, c, n, hd⟩ := Y8 I hG h; obtain ⟨as, ra⟩ := RepL.reads I hG l rv; exact ⟨_, .tuple e c hd (by simpa using ra)⟩
 | .dict _, _, _, r, _ => r.elim
theorem RepL.reads (I : Inv X pins Z H s) (hG : Same G H) : ∀ {ds : List PyData} {xs : List V} {us : List Value}, RepL G ds xs -> Vals xs us -> ∃ as, ReadsAll s.heap us ds as
 | [], _, _, r, q => by cases (show _ = _ from r); cases q; exact ⟨_, .nil⟩
 | _ :: _, _, _, r, q => by
   obtain ⟨x, t, rfl, h, l⟩ := r
   cases q with
   | cons q qs =>
     obtain ⟨as, r1⟩ := Rep.reads I hG h q; obtain ⟨bs, r2⟩ := RepL.reads I hG l qs; exact ⟨_, .cons r1 r2⟩
end
end
noncomputable def dEq (a b : PyData) : Option PyData := if min a.depth b.depth <= 64 then some (.bool (PyData.eqv a b)) else none
noncomputable def dNe (a b : PyData) : Option PyData := if min a.depth b.depth <= 64 then some (.bool (!PyData.eqv a b)) else none
def bY (neg : Bool) : R2 := fun x y H Q => ∃ G a b, Same G H /\ Rep G a x /\ Rep G b y /\ min a.depth b.depth <= 64 /\ Q (.bl (if neg then !PyData.eqv a b else PyData.eqv a b)) H
section
variable {X : Cx}
theorem Yv (hu : X.A.units + 64 < cLine) : OpR X (compareOp .Eq) (bY false) := by
 intro pins s Z H x y v u Q I rx ry ⟨G, a, b, hG, ra, rb, hm, q⟩
 obtain ⟨as, r1⟩ := ra.reads I hG rx
 obtain ⟨bs, r2⟩ := rb.reads I hG ry
 exact SeqAt.compareEq_reads r1 r2 ra.lay rb.lay (by omega) ⟨.bl _, H, I, rfl, q⟩
theorem gW (hu : X.A.units + 64 < cLine) : OpR X (compareOp .NotEq) (bY true) := by
 intro pins s Z H x y v u Q I rx ry ⟨G, a, b, hG, ra, rb, hm, q⟩
 obtain ⟨as, r1⟩ := ra.reads I hG rx
 obtain ⟨bs, r2⟩ := rb.reads I hG ry
 exact SeqAt.compareNe_reads r1 r2 ra.lay rb.lay (by omega) ⟨.bl _, H, I, rfl, q⟩
theorem Yx : OpD (bY false) dEq := by
 intro G H x y a b d Q hG ra rb e q
 unfold dEq at e
 split at e
 . rename_i h; cases e; exact ⟨G, a, b, hG, ra, rb, h, q _ G H (Grow.refl hG) rfl⟩
 . cases e
theorem gZ : OpD (bY true) dNe := by
 intro G H x y a b d Q hG ra rb e q
 unfold dNe at e
 split at e
 . rename_i h; cases e; exact ⟨G, a, b, hG, ra, rb, h, q _ G H (Grow.refl hG) rfl⟩
 . cases e
end
noncomputable def fD (x y : Str) : Bool := !(Builtin.Str.occurrences y x 0 y.length 1).isEmpty
noncomputable def dIn (neg : Bool) (a b : PyData) : Option PyData := match b with
 | .list ds => if min (PyData.depthAll ds) a.depth <= 62 then some (.bool (if neg then !ds.any fun y => PyData.eqv y a else ds.any fun y => PyData.eqv y a)) else none
 | .tuple ds => if min (PyData.depthAll ds) a.depth <= 62 then some (.bool (if neg then !ds.any fun y => PyData.eqv y a else ds.any fun y => PyData.eqv y a)) else none
 | .str y => match a with
   | .str x => some (.bool (if neg then !fD x y else fD x y))
   | _ => none
 | _ => none
def gH (neg : Bool) : R2 := fun x y H Q => ∃ G a b d, Same G H /\ Rep G a x /\ Rep G b y /\ dIn neg a b = some (.bool d) /\ Q (.bl d) H
section
variable {X : Cx}
theorem gY (hu : X.A.units + 64 < cLine) : OpR X (compareOp .In) (gH false) := by
 intro pins s Z H x y v u Q I rx ry ⟨G, a, b, d, hG, ra, rb, e, q⟩
 cases b with
 | list ds =>
   simp only [dIn] at e
   split at e
   . rename_i h
     cases e; obtain ⟨as, r1⟩ := ra.reads I hG rx; obtain ⟨bs, r2⟩ := rb.reads I hG ry; exact SeqAt.in_list_reads r2 r1 rb.lay ra.lay (by omega) ⟨.bl _, H, I, rfl, q⟩
   . cases e
 | tuple ds =>
   simp only [dIn] at e
   split at e
   . rename_i h
     cases e; obtain ⟨as, r1⟩ := ra.reads I hG rx; obtain ⟨bs, r2⟩ := rb.reads I hG ry; exact SeqAt.in_tuple_reads r2 r1 rb.lay ra.lay (by omega) ⟨.bl _, H, I, rfl, q⟩
   . cases e
 | str z =>
   cases a with
   | str z' =>
     cases e
     cases ra.1; cases rb.1
     obtain ⟨t, rfl⟩ := rx; obtain ⟨t', rfl⟩ := ry; exact in_str ⟨.bl _, H, I, rfl, q⟩
   | _ => cases e
 | _ => cases e
theorem Lb (hu : X.A.units + 64 < cLine) : OpR X (compareOp .NotIn) (gH true) := by
 intro pins s Z H x y v u Q I rx ry ⟨G, a, b, d, hG, ra, rb, e, q⟩
 cases b with
 | list ds =>
   simp only [dIn] at e
   split at e
   . rename_i h
     cases e; obtain ⟨as, r1⟩ := ra.reads I hG rx; obtain ⟨bs, r2⟩ := rb.reads I hG ry; exact SeqAt.notIn_list_reads r2 r1 rb.lay ra.lay (by omega) ⟨.bl _, H, I, rfl, q⟩
   . cases e
 | tuple ds =>
   simp only [dIn] at e
   split at e
   . rename_i h
     cases e; obtain ⟨as, r1⟩ := ra.reads I hG rx; obtain ⟨bs, r2⟩ := rb.reads I hG ry; exact SeqAt.notIn_tuple_reads r2 r1 rb.lay ra.lay (by omega) ⟨.bl _, H, I, rfl, q⟩
   . cases e
 | str z =>
   cases a with
   | str z' =>
     cases e
     cases ra.1; cases rb.1
     obtain ⟨t, rfl⟩ := rx; obtain ⟨t', rfl⟩ := ry; exact notIn_str ⟨.bl _, H, I, rfl, q⟩
   | _ => cases e
 | _ => cases e
theorem Pq {neg : Bool} {a b d : PyData} (e : dIn neg a b = some d) : ∃ k, d = .bool k := by
 cases b with
 | list ds => simp only [dIn] at e; split at e <;> cases e; exact ⟨_, rfl⟩
 | tuple ds => simp only [dIn] at e; split at e <;> cases e; exact ⟨_, rfl⟩
 | str z => cases a with
   | str z' => cases e; exact ⟨_, rfl⟩
   | _ => cases e
 | _ => cases e
theorem Qz {neg : Bool} : OpD (gH neg) (dIn neg) := by
 intro G H x y a b d Q hG ra rb e q
 obtain ⟨k, rfl⟩ := Pq e
 exact ⟨G, a, b, k, hG, ra, rb, e, q _ G H (Grow.refl hG) rfl⟩
end
noncomputable def C2 : PyData -> PyData -> Option PyData
 | .int i, .int j => some (.int (i + j))
 | .str x, .str y => if x.length + y.length <= sizeLine then some (.str (x ++ y)) else none
 | .list xs, .list ys => if xs.length + ys.length <= sizeLine then some (.list (xs ++ ys)) else none
 | .tuple xs, .tuple ys => if xs.length + ys.length <= sizeLine then some (.tuple (xs ++ ys)) else none
 | _, _ => none
def eV : R2 := fun x y H Q => ∃ G a b d, Same G H /\ Rep G a x /\ Rep G b y /\ C2 a b = some d /\ ∀ v G' H', Grow G H G' H' -> Rep G' d v -> Q v H'
theorem Af {x y : Str} (hx : PyData.strOk x = true) (hy : PyData.strOk y = true) : PyData.strOk (x ++ y) = true := by
 unfold PyData.strOk at *
 show (x.cps ++ y.cps).all _ = true
 rw [Array.all_append, hx, hy]; rfl
theorem Hq (x y : Str) : (x ++ y).length = x.length + y.length := by
 show (x.cps ++ y.cps).size = _
 rw [Array.size_append]; rfl
section
variable {X : Cx}
theorem Nm {pins : List (Addr × Obj)} {Z : St} {H G : Hp} {s : Shared} {Q : VK} {ds : List PyData} {xs : List V} {its : List Value} {t' : Nat} (I : Inv X pins Z H s) (hG : Same G H) (rv : Vals xs its) (rl : RepL G ds xs) (hz : xs.length <= sizeLine)
   (q : ∀ v G' H', Grow G H G' H' -> Rep G' (.tuple ds) v -> Q v H') : EP X pins Z Q (.ref s.heap.objs.size) { s with heap := s.heap.push { cls := .type "tuple", data := .seq its.toArray }, toks := t' } := by
 refine ⟨.ref s.heap.objs.size, _, I.laid (t' := t') (o := .tup xs) (fun b ob q => Heap.get?_push_of_some _ q) (Nat.le_refl _) ⟨hz, its, rv, IsTup.new _ _⟩, rfl, q _ (upd G s.heap.objs.size (.tup xs)) _ (Grow.new hG I.fresh) ⟨_, xs, rfl, B3, rl.mono (Same.upd (hG.free I.fresh))⟩⟩
theorem Np {pins : List (Addr × Obj)} {Z : St} {H G : Hp} {s : Shared} {Q : VK} {ds : List PyData} {xs : List V} {its : List Value} {t' : Nat} (I : Inv X pins Z H s) (hG : Same G H) (rv : Vals xs its) (rl : RepL G ds xs) (hz : xs.length <= sizeLine)
   (q : ∀ v G' H', Grow G H G' H' -> Rep G' (.list ds) v -> Q v H') : EP X pins Z Q (.ref s.heap.objs.size) { s with heap := s.heap.push { cls := .type "list", data := .seq its.toArray }, toks := t' } := by
 refine ⟨.ref s.heap.objs.size, _, I.lnew (t' := t') rv hz, rfl, q _ (upd G s.heap.objs.size (.lst xs)) _ (Grow.new hG I.fresh) ⟨_, xs, rfl, .inl B3, rl.mono (Same.upd (hG.free I.fresh))⟩⟩
theorem cQ : OpR X (binaryOp .Add) eV := by
 intro pins s Z H x y v u Q I rx ry ⟨G, a, b, d, hG, ra, rb, e, q⟩
 cases a with
 | int i => cases b with
   | int j =>
     cases e
     cases (show _ = _ from ra); cases (show _ = _ from rb)
     obtain ⟨t, rfl⟩ := rx; obtain ⟨t', rfl⟩ := ry; exact add_int ⟨.int _, H, I.tok _, ⟨_, rfl⟩, q _ G H (Grow.refl hG) rfl⟩
   | _ => cases e
 | str i => cases b with
   | str j =>
     simp only [C2] at e
     split at e
     . rename_i hz
       cases e; obtain ⟨e1, o1, _⟩ := ra; obtain ⟨e2, o2, _⟩ := rb
       cases e1; cases e2
       obtain ⟨t, rfl⟩ := rx; obtain ⟨t', rfl⟩ := ry; exact add_str (fun t' tk => ⟨.str (i ++ j), H, I.tok _, ⟨_, rfl⟩, q _ G H (Grow.refl hG) ⟨rfl, Af o1 o2, by rw [Hq]; exact hz⟩⟩) hz
     . cases e
   | _ => cases e
 | list xs => cases b with
   | list ys =>
     simp only [C2] at e
     split at e
     . rename_i hz
       cases e; obtain ⟨l, vs, rfl, h1, l1⟩ := ra; obtain ⟨l', ws, rfl, h2, l2⟩ := rb
       cases rx; cases ry
       obtain ⟨z1, its1, n1, v1, e1⟩ := O7 I hG h1; obtain ⟨z2, its2, n2, v2, e2⟩ := O7 I hG h2; have q1 := v1.length; have q2 := v2.length; have q3 := l1.length; have q4 := l2.length; refine PySem.P.add_list e1 e2 ?_ (by rw [List.size_toArray, List.size_toArray]; omega)
       have ea : its1.toArray ++ its2.toArray = (its1 ++ its2).toArray := by simp
       rw [ea]; exact Np (t' := s.toks) I hG (v1.append v2) (l1.append l2) (by rw [List.length_append]; omega) q
     . cases e
   | _ => cases e
 | tuple xs => cases b with
   | tuple ys =>
     simp only [C2] at e
     split at e
     . rename_i hz
       cases e; obtain ⟨l, vs, rfl, h1, l1⟩ := ra; obtain ⟨l', ws, rfl, h2, l2⟩ := rb
       cases rx; cases ry
       obtain ⟨z1, its1, v1, p1⟩ := Y8 I hG h1; obtain ⟨z2, its2, v2, p2⟩ := Y8 I hG h2; have q1 := v1.length; have q2 := v2.length; have q3 := l1.length; have q4 := l2.length
       by_cases hx : its1 = []
       . subst hx
         obtain ⟨⟨cls, dd, data, sl⟩, ho, hc, n, hd⟩ := id p1; obtain ⟨⟨cls2, dd2, data2, sl2⟩, ho2, hc2, n2, hd2⟩ := id p2; simp only at hc hd hc2 hd2; subst hc hd hc2 hd2; refine concat_meets ⟨_, ho, rfl⟩ ⟨_, ho2, rfl⟩ noFill_tuple_add seq_tuple_add PySem.F.slot_tuple_add PySem.F.entry_tuple_add (PySem.F.args_tuple_add_2 _ _)
           (tuple_addW0 l l' _ _ n n2 dd dd2 sl sl2 (by simp)) ⟨ho, ho2, ?_⟩
         have hxs : xs = [] := by
           have : xs.length = 0 := by rw [q3, q1]; rfl
           exact List.length_eq_zero_iff.mp this
         subst hxs; exact ⟨.ref l', H, I, rfl, q _ G H (Grow.refl hG) ⟨l', ws, rfl, h2, l2⟩⟩
       . refine HT.cat_tup p1 p2 hx (fun hy => ?_) (fun hy => ?_) (by omega)
         . subst hy
           have hys : ys = [] := by
             have : ys.length = 0 := by rw [q4, q2]; rfl
             exact List.length_eq_zero_iff.mp this
           subst hys; rw [List.append_nil] at q; exact ⟨.ref l, H, I, rfl, q _ G H (Grow.refl hG) ⟨l, vs, rfl, h1, l1⟩⟩
         . exact Nm (t' := s.toks) I hG (v1.append v2) (l1.append l2) (by rw [List.length_append]; omega) q
     . cases e
   | _ => cases e
 | _ => cases e
theorem cT : OpD eV C2 := fun G H x y a b d Q hG ra rb e q => ⟨G, a, b, d, hG, ra, rb, e, q⟩
noncomputable def dSub : PyData -> PyData -> Option PyData
 | .int i, .int j => some (.int (i - j))
 | _, _ => none
noncomputable def Kq : PyData -> PyData -> Option PyData
 | .int i, .int j => if 0 < j then some (.int (i % j)) else none
 | _, _ => none
noncomputable def Fq : PyData -> PyData -> Option PyData
 | .int i, .int j => if 0 < j /\ j < 1073741824 then some (.int (i / j)) else none
 | _, _ => none
theorem Sx {r : R2} {op : PyData -> PyData -> Option PyData} (h : ∀ a b d, op a b = some d -> ∃ i j k, a = .int i /\ b = .int j /\ d = .int k /\ ∀ H Q, Q (V.int k) H -> r (.int i) (.int j) H Q) : OpD r op := by
 intro G H x y a b d Q hG ra rb e q
 obtain ⟨i, j, k, rfl, rfl, rfl, hr⟩ := h a b d e
 cases (show _ = _ from ra); cases (show _ = _ from rb)
 exact hr H Q (q _ G H (Grow.refl hG) rfl)
theorem cS : OpD (rI (fun _ j => 0 < j) fun i j => .int (i % j)) Kq := Sx fun a b d e => by
 cases a <;> cases b <;> first
   | (simp only [Kq] at e; split at e
      . rename_i h; cases e; exact ⟨_, _, _, rfl, rfl, rfl, fun H Q q => ⟨_, _, rfl, rfl, h, q⟩⟩
      . cases e)
   | cases e
theorem Yw : OpD (rI CDiv fun i j => .int (i / j)) Fq := Sx fun a b d e => by
 cases a <;> cases b <;> first
   | (simp only [Fq] at e; split at e
      . rename_i h; cases e; exact ⟨_, _, _, rfl, rfl, rfl, fun H Q q => ⟨_, _, rfl, rfl, h, q⟩⟩
      . cases e)
   | cases e
end
end Sm
end
section
namespace Sm
open PySem PySem.Spec PyProof.Rows L2
open PySem.AutoSeq1 (wpAny_loadPart')
noncomputable def L7 (n : Nat) (x : Str) : Str := ⟨(List.replicate n x.cps).foldl (· ++ ·) #[]⟩
theorem Vw (l : List (Array Nat)) : ∀ acc : Array Nat, (l.foldl (· ++ ·) acc).toList = acc.toList ++ (l.map Array.toList).flatten := by
 induction l with
 | nil => intro acc; simp
 | cons a l ih => intro acc; rw [List.foldl_cons, ih]; simp
theorem S0 (n : Nat) (x : Str) : (L7 n x).cps.toList = (List.replicate n x.cps.toList).flatten := by
 unfold L7
 rw [Vw]; simp
theorem Ut {x : Str} (h : PyData.strOk x = true) (n : Nat) : PyData.strOk (L7 n x) = true := by
 unfold PyData.strOk at *
 rw [<- Array.all_toList, List.all_eq_true] at *
 rw [S0]
 intro c hc
 obtain ⟨l, hl, hc⟩ := List.mem_flatten.mp hc
 rw [List.eq_of_mem_replicate hl] at hc
 exact h c hc
theorem Hr (n : Nat) (x : Str) : (L7 n x).length = n * x.length := by
 show (L7 n x).cps.size = n * x.cps.size
 rw [<- Array.length_toList, S0, Gp, Array.length_toList]
theorem Ol (x : Str) : L7 0 x = Str.empty := rfl
theorem Qm (x : Str) : L7 1 x = x := by
 have : (L7 1 x).cps = x.cps := by
   apply Array.toList_inj.mp
   rw [S0]; simp
 cases x; cases h : L7 1 _; rw [h] at this; cases this; rfl
theorem Qn {x : Str} (n : Nat) (h : x.length = 0) : L7 n x = x := by
 have hx : x.cps = #[] := Array.size_eq_zero_iff.mp h
 have : (L7 n x).cps = x.cps := by
   apply Array.toList_inj.mp
   rw [S0, hx]; simp
 cases x; cases h : L7 n _; rw [h] at this; cases this; rfl
noncomputable def L8 : PyData -> PyData -> Option PyData
 | .int i, .int j => if (-(2 ^ 64) < i /\ i < 2 ^ 64) \/ (-(2 ^ 64) < j /\ j < 2 ^ 64) then some (.int (i * j)) else none
 | .str x, .int n => if -(2 ^ 63) <= n /\ n < 2 ^ 63 /\ x.length * n.toNat <= sizeLine then some (.str (L7 n.toNat x)) else none
 | .list xs, .int n => if -(2 ^ 63) <= n /\ n < 2 ^ 63 /\ xs.length * n.toNat <= sizeLine then some (.list (List.replicate n.toNat xs).flatten) else none
 | .tuple xs, .int n => if 2 <= n /\ n < 2 ^ 63 /\ xs ≠ [] /\ xs.length * n.toNat <= sizeLine then some (.tuple (List.replicate n.toNat xs).flatten)
   else if -(2 ^ 63) <= n /\ n < 2 ^ 63 /\ (xs = [] \/ n = 1) then some (.tuple xs) else none
 | _, _ => none
def eT : R2 := fun x y H Q => ∃ G a b d, Same G H /\ Rep G a x /\ Rep G b y /\ L8 a b = some d /\ ∀ v G' H', Grow G H G' H' -> Rep G' d v -> Q v H'
theorem cR : OpD eT L8 := fun G H x y a b d Q hG ra rb e q => ⟨G, a, b, d, hG, ra, rb, e, q⟩
theorem Z9 : fillsNumberSlot (.type "tuple") "mul" = pure false := by
 unfold fillsNumberSlot
 first | rfl | kernel_rfl | decide +kernel
theorem Df : seqRepeat? (.type "tuple") = pure (some (.builtin "tuple.__mul__")) := by
 unfold seqRepeat?
 first | rfl | kernel_rfl
theorem Bc (a : Int) (t : Tok) (l : Addr) (items : Array Value) (n : Nat) (dd : Option Addr) (sl : Array (Option Value)) :
   Meets (Builtin.«int.__rmul__» ⟨[.int a t, .ref l], []⟩) (fun _ R s => s.heap.get? l = some { cls := .type "tuple", dict := dd, data := .seq items n, slots := sl } /\ R (.ok (.ret Value.notImplemented)) s) :=
 .of_wp fun prog w A R s h => by obtain ⟨hp, g, d, tk, os⟩ := s; obtain ⟨hl, h⟩ := h; wp_walk; exact ⟨_, rfl, h⟩
theorem Hd (l : Addr) (items : Array Value) (n : Nat) (x : Int) (u : Tok) (dd : Option Addr) (sl : Array (Option Value)) (h1 : ¬ (decide (x < -(2 ^ 63 : Int)) || decide (x ≥ 2 ^ 63)) = true) (h2 : ¬ (items.isEmpty || x == 1) = true) (h3 : ¬ (decide (x <= 0) || items.isEmpty) = true)
   (h4 : ¬ (items.size : Int) * x > (2 ^ 63 - 1) / 8) (h5 : ¬ Builtin.Tuple.tupleTooMany (items.size * x) = true) (h6 : (List.foldl (fun x1 x2 => x1 ++ x2) #[] (List.replicate x.toNat items)).size <= sizeLine) :
   Meets (Builtin.«tuple.__mul__» ⟨[.ref l, .int x u], []⟩) (fun _ R s => s.heap.get? l = some { cls := .type "tuple", dict := dd, data := .seq items n, slots := sl } /\ R (.ok (.ret (Value.ref s.heap.objs.size))) { s with heap := s.heap.push { cls := Value.type "tuple", data := Data.seq (List.foldl (fun x1 x2 => x1 ++ x2) #[] (List.replicate x.toNat items)) }, toks := s.toks }) :=
 .of_wp fun prog w A R s h => by
   obtain ⟨hp, g, d, tk, os⟩ := s; obtain ⟨hl, h⟩ := h
   have f1 := AutoSeq1.idx_int
   wp_walk using wpAny_loadPart' hl
   rw [if_neg h1]
   wp_walk using wpAny_loadPart' hl
   rw [if_neg h4]
   wp_walk using wpAny_loadPart' hl
   exact ⟨_, rfl, h⟩
theorem Hb (l : Addr) (items : Array Value) (n : Nat) (x : Int) (u : Tok) (dd : Option Addr) (sl : Array (Option Value)) (h1 : ¬ (decide (x < -(2 ^ 63 : Int)) || decide (x ≥ 2 ^ 63)) = true) (h2 : (items.isEmpty || x == 1) = true) :
   Meets (Builtin.«tuple.__mul__» ⟨[.ref l, .int x u], []⟩) (fun _ R s => s.heap.get? l = some { cls := .type "tuple", dict := dd, data := .seq items n, slots := sl } /\ R (.ok (.ret (.ref l))) s) :=
 .of_wp fun prog w A R s h => by
   obtain ⟨hp, g, d, tk, os⟩ := s; obtain ⟨hl, h⟩ := h
   have f1 := AutoSeq1.idx_int
   wp_walk using wpAny_loadPart' hl
   rw [if_neg h1]
   wp_walk using wpAny_loadPart' hl
   exact ⟨_, rfl, h⟩
section
variable {X : Cx}
theorem cO : OpR X (binaryOp .Mult) eT := by
 intro pins s Z H x y v u Q I rx ry ⟨G, a, b, d, hG, ra, rb, e, q⟩
 have h63 := Al
 cases b with
 | int k =>
   cases (show _ = _ from rb)
   obtain ⟨t', rfl⟩ := ry
   cases a with
   | int i =>
     simp only [L8] at e
     split at e
     . rename_i hc
       cases e
       cases (show _ = _ from ra)
       obtain ⟨t, rfl⟩ := rx; exact mul_int ⟨.int _, H, I.tok _, ⟨_, rfl⟩, q _ G H (Grow.refl hG) rfl⟩ (CMul.ok hc)
     . cases e
   | str z =>
     simp only [L8] at e
     split at e
     . rename_i hc
       obtain ⟨hc1, hc2, hc3⟩ := hc; cases e; obtain ⟨e1, o1, l1⟩ := ra; cases e1; obtain ⟨t, rfl⟩ := rx; have fin : ∀ tk, Q (.str (L7 k.toNat z)) H /\ Inv X pins Z H { s with toks := tk } := fun tk => ⟨q _ G H (Grow.refl hG) ⟨rfl, Ut o1 _, by rw [Hr, Nat.mul_comm]; exact hc3⟩, I.tok _⟩
       refine PySem.P.mul_str (by rw [decide_eq_false (by omega), decide_eq_false (by omega)]; rfl) (fun h1 _ => ?_) (fun h1 _ => ?_) ?_
       . intro hgt
         have hk : (0 : Int) < k := by omega
         have h2 : (2 ^ 63 - 1) / k + 1 <= (z.length : Int) := by omega
         have h3 : (2 ^ 63 - 1 : Int) < ((2 ^ 63 - 1) / k + 1) * k := Int.lt_ediv_add_one_mul_self _ hk; have h4 : ((2 ^ 63 - 1) / k + 1) * k <= (z.length : Int) * k := Int.mul_le_mul_of_nonneg_right h2 (by omega)
         have h5 : (z.length : Int) * k = ((z.length * k.toNat : Nat) : Int) := by
           rw [Int.natCast_mul, Int.toNat_of_nonneg (by omega)]
         omega
       . unfold Builtin.Str.tooLong
         exact decide_eq_false (by omega)
       . by_cases h1 : k < 1
         . rw [if_pos h1]
           have : k.toNat = 0 := by omega
           rw [this, Ol] at fin; exact ⟨by decide, ⟨.str _, H, (fin _).2, ⟨_, rfl⟩, (fin 0).1⟩⟩
         . rw [if_neg h1]
           by_cases h2 : (k == 1 || z.length == 0) = true
           . rw [if_pos h2]
             rw [Bool.or_eq_true] at h2; have ez : L7 k.toNat z = z := by
               rcases h2 with h2 | h2
               . have : k = 1 := eq_of_beq h2
                 subst this; exact Qm z
               . exact Qn _ (eq_of_beq h2)
             rw [ez] at fin; exact ⟨.str _, H, I, ⟨_, rfl⟩, (fin 0).1⟩
           . rw [if_neg h2]
             exact ⟨by show (L7 k.toNat z).length <= _; rw [Hr, Nat.mul_comm]; exact hc3, ⟨.str _, H, (fin _).2, ⟨_, rfl⟩, (fin 0).1⟩⟩
     . cases e
   | list xs =>
     simp only [L8] at e
     split at e
     . rename_i hc
       obtain ⟨hc1, hc2, hc3⟩ := hc; cases e; obtain ⟨l, vs, rfl, h1, l1⟩ := ra; cases rx; have q3 := l1.length; obtain ⟨z, its, n, r, e⟩ := O7 I hG h1; have hl := r.length; have hlen : its.toArray.size * k.toNat <= sizeLine := by rw [List.size_toArray, <- hl, <- q3]; exact hc3
       have hcap : ¬ its.toArray.size * k.toNat > (2 ^ 63 - 1) / 8 := by
         have : (sizeLine : Nat) <= (2 ^ 63 - 1) / 8 := by decide
         omega
       have hfit : ¬ (!Builtin.List.listFitsIndex k) = true := by
         rw [fitsIndex_both hc1 hc2]; exact Bool.false_ne_true
       have hlong : ¬ Builtin.List.listTooLong (its.toArray.size * k.toNat) = true := by
         rw [Ze hlen]; exact Bool.false_ne_true
       have hnew : List.foldl (fun x1 x2 => x1 ++ x2) #[] (List.replicate (if its.toArray.isEmpty = true then 0 else k.toNat) its.toArray) = (List.replicate k.toNat its).flatten.toArray := by
         have f0 : ∀ m : Nat, List.foldl (fun x1 x2 => x1 ++ x2) #[] (List.replicate m its.toArray) = (List.replicate m its).flatten.toArray := fun m => by
           have := Fc its m []; rw [List.nil_append] at this; exact this
         rw [f0]
         cases its with
         | nil => simp
         | cons a r' => rw [if_neg (by simp)]
       refine wpAny_binaryOp_repeat_ref (T := "list") (U := "int") (by decide) ⟨_, e, rfl⟩ (fun s' => typeIs_int s' k t') noFill_list_mul F.fills_int_mul F.slot_int_rmul repeat_list F.slot_int_index.lookup
         (call_meets F.slot_int_rmul (typeIs_int s k t') F.entry_int_rmul (F.args_int_rmul_2 _ _) (int___rmul___int_list k t' l its.toArray n)
           ⟨e, rfl, ⟨_, e, rfl⟩, call_meets F.slot_list_mul ⟨_, e, rfl⟩ F.entry_list_mul (F.args_list_mul_2 _ _) (AutoListH.list___mul___list_int_3 l its.toArray n k t' hfit hcap hlong) ⟨e, ?_⟩⟩)
       rw [hnew]; exact Np (t' := s.toks) I hG (r.rep k.toNat) (l1.rep k.toNat) (by rw [Gp, Nat.mul_comm, <- q3]; exact hc3) q
     . cases e
   | tuple xs =>
     simp only [L8] at e
     split at e
     . rename_i hc
       obtain ⟨hc1, hc2, hc0, hc3⟩ := hc; cases e; obtain ⟨l, vs, rfl, h1, l1⟩ := ra; cases rx; have q3 := l1.length; obtain ⟨z, its, r, p⟩ := Y8 I hG h1; have hl := r.length; obtain ⟨⟨cls, dd, data, sl⟩, ho, hcl, n, hd⟩ := id p; simp only at hcl hd; subst hcl hd; have hlen : its.toArray.size * k.toNat <= sizeLine := by rw [List.size_toArray, <- hl, <- q3]; exact hc3
       have hne : its.toArray.isEmpty = false := by
         have : its.length ≠ 0 := by
           rw [<- hl, <- q3]; intro z; exact hc0 (List.length_eq_zero_iff.mp z)
         cases its with
         | nil => exact absurd rfl this
         | cons _ _ => rfl
       have hk : ((its.toArray.size : Nat) : Int) * k = ((its.toArray.size * k.toNat : Nat) : Int) := by
         rw [Int.natCast_mul, Int.toNat_of_nonneg (by omega)]
       have f0 : List.foldl (fun x1 x2 => x1 ++ x2) #[] (List.replicate k.toNat its.toArray) = (List.replicate k.toNat its).flatten.toArray := by
         have := Fc its k.toNat []; rw [List.nil_append] at this; exact this
       have hs8 : (sizeLine : Nat) <= (2 ^ 63 - 1) / 8 := by decide
       refine wpAny_binaryOp_repeat_ref (T := "tuple") (U := "int") (by decide) ⟨_, ho, rfl⟩ (fun s' => typeIs_int s' k t') Z9 F.fills_int_mul F.slot_int_rmul Df F.slot_int_index.lookup
         (call_meets F.slot_int_rmul (typeIs_int s k t') F.entry_int_rmul (F.args_int_rmul_2 _ _) (Bc k t' l its.toArray n dd sl)
           ⟨ho, rfl, ⟨_, ho, rfl⟩, call_meets F.slot_tuple_mul ⟨_, ho, rfl⟩ F.entry_tuple_mul (F.args_tuple_mul_2 _ _) (Hd l its.toArray n k t' dd sl ?_ ?_ ?_ ?_ ?_ ?_) ⟨ho, ?_⟩⟩)
       . rw [decide_eq_false (by omega), decide_eq_false (by omega)]; decide
       . rw [hne]
         have : (k == 1) = false := by simpa using (show ¬ k = 1 by omega)
         rw [this]; decide
       . rw [hne, decide_eq_false (by omega)]; decide
       . rw [hk]; omega
       . rw [hk]; unfold Builtin.Tuple.tupleTooMany; rw [decide_eq_false (by omega)]; decide
       . rw [f0, List.size_toArray, Gp, Nat.mul_comm, <- hl, <- q3]; exact hc3
       . rw [f0]
         exact Nm (t' := s.toks) I hG (r.rep k.toNat) (l1.rep k.toNat) (by rw [Gp, Nat.mul_comm, <- q3]; exact hc3) q
     . split at e
       . rename_i hc
         obtain ⟨hc1, hc2, hc3⟩ := hc; cases e; have ra0 := ra; obtain ⟨l, vs, rfl, h1, l1⟩ := ra; cases rx; have q3 := l1.length; obtain ⟨z, its, r, p⟩ := Y8 I hG h1; have hl := r.length; obtain ⟨⟨cls, dd, data, sl⟩, ho, hcl, n, hd⟩ := id p; simp only at hcl hd; subst hcl hd; refine wpAny_binaryOp_repeat_ref (T := "tuple") (U := "int") (by decide) ⟨_, ho, rfl⟩ (fun s' => typeIs_int s' k t') Z9 F.fills_int_mul F.slot_int_rmul Df F.slot_int_index.lookup
           (call_meets F.slot_int_rmul (typeIs_int s k t') F.entry_int_rmul (F.args_int_rmul_2 _ _) (Bc k t' l its.toArray n dd sl)
             ⟨ho, rfl, ⟨_, ho, rfl⟩, call_meets F.slot_tuple_mul ⟨_, ho, rfl⟩ F.entry_tuple_mul (F.args_tuple_mul_2 _ _) (Hb l its.toArray n k t' dd sl ?_ ?_) ⟨ho, ?_⟩⟩)
         . rw [decide_eq_false (by omega), decide_eq_false (by omega)]; decide
         . rcases hc3 with hc3 | hc3
           . subst hc3
             have : its.length = 0 := by rw [<- hl, <- q3]; rfl
             rw [List.length_eq_zero_iff.mp this]; rfl
           . subst hc3; simp
         . exact ⟨.ref l, H, I, rfl, q _ G H (Grow.refl hG) ra0⟩
       . cases e
   | _ => cases e
 | _ => cases a <;> cases e
end
end Sm
end
section
namespace Sm
open PySem PySem.Spec PyProof.Rows L2
open PySem.AutoSeq1 (wpAny_loadPart')
open PySem.MeetsSeq PySem.MeetsSeq2 PySem.MeetsSeq3
noncomputable def iCmp : CmpOp -> Int -> Int -> Bool
 | .Lt, i, j => decide (i < j)
 | .LtE, i, j => decide (i <= j)
 | .Gt, i, j => decide (j < i)
 | _, i, j => decide (j <= i)
noncomputable def Va : CmpOp -> Str -> Str -> Bool
 | .Lt, x, y => decide (x.cps.toList < y.cps.toList)
 | .LtE, x, y => !decide (y.cps.toList < x.cps.toList)
 | .Gt, x, y => decide (y.cps.toList < x.cps.toList)
 | _, x, y => !decide (x.cps.toList < y.cps.toList)
noncomputable def Qe : CmpOp -> Nat -> Nat -> Bool
 | .Lt, m, n => decide (m < n)
 | .LtE, m, n => decide (m <= n)
 | .Gt, m, n => decide (m > n)
 | _, m, n => decide (m ≥ n)
noncomputable def Sv : CmpOp -> Bool
 | .Lt => true | .LtE => true | .Gt => true | .GtE => true | _ => false
mutual
noncomputable def Wh (op : CmpOp) : PyData -> PyData -> Option Bool
 | .int i, .int j => some (iCmp op i j)
 | .str x, .str y => some (Va op x y)
 | .tuple xs, .tuple ys => Cr op xs ys
 | _, _ => none
noncomputable def Cr (op : CmpOp) : List PyData -> List PyData -> Option Bool
 | [], ys => some (Qe op 0 ys.length)
 | x :: xs, [] => some (Qe op (xs.length + 1) 0)
 | x :: xs, y :: ys => if PyData.eqv x y = true then Cr op xs ys else Wh op x y
end
def bB (op : CmpOp) (A : Around) (s : Shared) (u v : Value) (k : Bool) : Prop := ∀ (prog : Program) (w : World) (E : Value -> Shared -> Prop) (Q : Value -> Shared -> Prop), Q (.bool k) s -> wpAny (model prog w) A (richCompare op u v) Q E s
theorem gD {op : CmpOp} (h : Sv op = true) (A : Around) (s : Shared) (i j : Int) (t u : Tok) : bB op A s (.int i t) (.int j u) (iCmp op i j) := fun prog w E Q q => by
 cases op with
 | Lt => exact (lt_int q : wpAny (model prog w) A (compareOp .Lt (.int i t) (.int j u)) Q E s)
 | LtE => exact (le_int q : wpAny (model prog w) A (compareOp .LtE (.int i t) (.int j u)) Q E s)
 | Gt => exact (gt_int q : wpAny (model prog w) A (compareOp .Gt (.int i t) (.int j u)) Q E s)
 | GtE => exact (ge_int q : wpAny (model prog w) A (compareOp .GtE (.int i t) (.int j u)) Q E s)
 | _ => cases h
theorem gC {op : CmpOp} (h : Sv op = true) (A : Around) (s : Shared) (x y : Str) (t u : Tok) : bB op A s (.str x t) (.str y u) (Va op x y) := fun prog w E Q q => by
 cases op with
 | Lt => exact (PySem.P.lt_str q : wpAny (model prog w) A (compareOp .Lt (.str x t) (.str y u)) Q E s)
 | LtE => exact (PySem.P.le_str (by simpa [Va] using q) : wpAny (model prog w) A (compareOp .LtE (.str x t) (.str y u)) Q E s)
 | Gt => exact (PySem.P.gt_str q : wpAny (model prog w) A (compareOp .Gt (.str x t) (.str y u)) Q E s)
 | GtE => exact (PySem.P.ge_str (by simpa [Va] using q) : wpAny (model prog w) A (compareOp .GtE (.str x t) (.str y u)) Q E s)
 | _ => cases h
def X6 (op : CmpOp) (A : Around) (s : Shared) (vs ws : List Value) (ds es : List PyData) : Prop :=
 ∀ (i : Nat) (v w : Value) (d e : PyData), vs[i]? = some v -> ws[i]? = some w -> ds[i]? = some d -> es[i]? = some e -> SeqAt.EqAt A s v w (PyData.eqv d e) /\ ∀ k, Wh op d e = some k -> bB op A s v w k
theorem Kc (l b : Addr) (items items2 : Array Value) (n n2 : Nat) (dd dd2 : Option Addr) (sl sl2 : Array (Option Value)) (ds es : List PyData) (k : Bool) (hz1 : items.toList.length = ds.length) (hz2 : items2.toList.length = es.length) (hk : Cr .Lt ds es = some k) :
   Meets (Builtin.«tuple.__lt__» ⟨[.ref l, .ref b], []⟩)
     (fun A R s => s.heap.get? l = some { cls := .type "tuple", dict := dd, data := .seq items n, slots := sl } /\ s.heap.get? b = some { cls := .type "tuple", dict := dd2, data := .seq items2 n2, slots := sl2 } /\
       X6 .Lt A.in1 s items.toList items2.toList ds es /\ R (.ok (.ret (.bool k))) s) :=
 .of_wp fun prog w A R s h => by
   obtain ⟨hp, g, d, tk, os⟩ := s; obtain ⟨hl, hb, hI, h⟩ := h
   have f2 := AutoSeq1.sub_tuple_tuple; have z1 : items.size = ds.length := by rw [<- hz1]; simp
   have z2 : items2.size = es.length := by rw [<- hz2]; simp
   wp_walk using wpAny_loadPart' hl, wpAny_loadPart' hb, wpAny_forIn_list _ (fun Q8 b s' => b.1 = none /\ s' = ⟨hp, g, d, tk, os⟩ /\ ∃ (vs ws : List Value) (ds' es' : List PyData), Q8 = vs.zip ws /\
     vs.length = ds'.length /\ ws.length = es'.length /\ ds'.length + items2.size = es'.length + items.size /\ X6 .Lt A.in1 ⟨hp, g, d, tk, os⟩ vs ws ds' es' /\ Cr .Lt ds' es' = some k) _
   case turn =>
     rintro ⟨y, x⟩ Q8 b s' ⟨hb', rfl, vs, ws, ds', es', hz, hv, hw, hlen, hI', hR⟩
     cases vs with
     | nil => rw [List.zip_nil_left] at hz; cases hz
     | cons v0 vs =>
       cases ws with
       | nil => rw [List.zip_nil_right] at hz; cases hz
       | cons w0 ws =>
         cases ds' with
         | nil => simp at hv
         | cons d0 ds' =>
           cases es' with
           | nil => simp at hw
           | cons e0 es' =>
             rw [List.zip_cons_cons] at hz
             injection hz with hyx hrest
             injection hyx with hy hx
             subst hy hx; simp only [List.length_cons] at hlen hv hw; obtain ⟨he, hc⟩ := hI' 0 y x d0 e0 rfl rfl rfl rfl; have hI2 : X6 .Lt A.in1 ⟨hp, g, d, tk, os⟩ vs ws ds' es' := fun i v w d e h1 h2 h3 h4 => hI' (i + 1) v w d e (by simpa using h1) (by simpa using h2) (by simpa using h3) (by simpa using h4)
             rw [Cr] at hR; refine wpAny_bind (he prog w _ _ ?_)
             cases q : PyData.eqv d0 e0 with
             | true =>
               rw [q, if_pos rfl] at hR
               wp_walk
               exact ⟨rfl, rfl, _, _, _, _, hrest, by omega, by omega, by omega, hI2, hR⟩
             | false =>
               rw [q, if_neg (by decide)] at hR; have hri := hc k hR prog w
               wp_walk using hri
               exact ⟨_, rfl, by simpa using h⟩
   case fin =>
     rintro ⟨b1, b2⟩ s' ⟨hb', rfl, vs, ws, ds', es', hz, hv, hw, hlen, hI', hR⟩
     simp only at hb'; subst hb'; have hv' : k = decide (items.size < items2.size) := by
       cases ds' with
       | nil =>
         rw [Cr] at hR; have := Option.some.inj hR; rw [<- this]; simp only [List.length_nil] at hlen; simp only [Qe]; exact decide_eq_decide.mpr (by omega)
       | cons d0 ds' =>
         cases es' with
         | nil =>
           rw [Cr] at hR; have := Option.some.inj hR; rw [<- this]; simp only [List.length_nil, List.length_cons] at hlen; simp only [Qe]; exact decide_eq_decide.mpr (by omega)
         | cons e0 es' =>
           cases vs with
           | nil => simp at hv
           | cons v0 vs =>
             cases ws with
             | nil => simp at hw
             | cons w0 ws => rw [List.zip_cons_cons] at hz; cases hz
     rw [hv'] at h
     wp_walk
     exact ⟨_, rfl, by simpa [Builtin.Tuple.tupleCompareSizes] using h⟩
   case h =>
     exact ⟨rfl, rfl, items.toList, items2.toList, ds, es, rfl, hz1, hz2, by omega, hI, hk⟩
theorem Kd (l b : Addr) (items items2 : Array Value) (n n2 : Nat) (dd dd2 : Option Addr) (sl sl2 : Array (Option Value)) (ds es : List PyData) (k : Bool) (hz1 : items.toList.length = ds.length) (hz2 : items2.toList.length = es.length) (hk : Cr .LtE ds es = some k) :
   Meets (Builtin.«tuple.__le__» ⟨[.ref l, .ref b], []⟩)
     (fun A R s => s.heap.get? l = some { cls := .type "tuple", dict := dd, data := .seq items n, slots := sl } /\ s.heap.get? b = some { cls := .type "tuple", dict := dd2, data := .seq items2 n2, slots := sl2 } /\
       X6 .LtE A.in1 s items.toList items2.toList ds es /\ R (.ok (.ret (.bool k))) s) :=
 .of_wp fun prog w A R s h => by
   obtain ⟨hp, g, d, tk, os⟩ := s; obtain ⟨hl, hb, hI, h⟩ := h
   have f2 := AutoSeq1.sub_tuple_tuple; have z1 : items.size = ds.length := by rw [<- hz1]; simp
   have z2 : items2.size = es.length := by rw [<- hz2]; simp
   wp_walk using wpAny_loadPart' hl, wpAny_loadPart' hb, wpAny_forIn_list _ (fun Q8 b s' => b.1 = none /\ s' = ⟨hp, g, d, tk, os⟩ /\ ∃ (vs ws : List Value) (ds' es' : List PyData), Q8 = vs.zip ws /\
     vs.length = ds'.length /\ ws.length = es'.length /\ ds'.length + items2.size = es'.length + items.size /\ X6 .LtE A.in1 ⟨hp, g, d, tk, os⟩ vs ws ds' es' /\ Cr .LtE ds' es' = some k) _
   case turn =>
     rintro ⟨y, x⟩ Q8 b s' ⟨hb', rfl, vs, ws, ds', es', hz, hv, hw, hlen, hI', hR⟩
     cases vs with
     | nil => rw [List.zip_nil_left] at hz; cases hz
     | cons v0 vs =>
       cases ws with
       | nil => rw [List.zip_nil_right] at hz; cases hz
       | cons w0 ws =>
         cases ds' with
         | nil => simp at hv
         | cons d0 ds' =>
           cases es' with
           | nil => simp at hw
           | cons e0 es' =>
             rw [List.zip_cons_cons] at hz
             injection hz with hyx hrest
             injection hyx with hy hx
             subst hy hx; simp only [List.length_cons] at hlen hv hw; obtain ⟨he, hc⟩ := hI' 0 y x d0 e0 rfl rfl rfl rfl; have hI2 : X6 .LtE A.in1 ⟨hp, g, d, tk, os⟩ vs ws ds' es' := fun i v w d e h1 h2 h3 h4 => hI' (i + 1) v w d e (by simpa using h1) (by simpa using h2) (by simpa using h3) (by simpa using h4)
             rw [Cr] at hR; refine wpAny_bind (he prog w _ _ ?_)
             cases q : PyData.eqv d0 e0 with
             | true =>
               rw [q, if_pos rfl] at hR
               wp_walk
               exact ⟨rfl, rfl, _, _, _, _, hrest, by omega, by omega, by omega, hI2, hR⟩
             | false =>
               rw [q, if_neg (by decide)] at hR; have hri := hc k hR prog w
               wp_walk using hri
               exact ⟨_, rfl, by simpa using h⟩
   case fin =>
     rintro ⟨b1, b2⟩ s' ⟨hb', rfl, vs, ws, ds', es', hz, hv, hw, hlen, hI', hR⟩
     simp only at hb'; subst hb'; have hv' : k = decide (items.size <= items2.size) := by
       cases ds' with
       | nil =>
         rw [Cr] at hR; have := Option.some.inj hR; rw [<- this]; simp only [List.length_nil] at hlen; simp only [Qe]; exact decide_eq_decide.mpr (by omega)
       | cons d0 ds' =>
         cases es' with
         | nil =>
           rw [Cr] at hR; have := Option.some.inj hR; rw [<- this]; simp only [List.length_nil, List.length_cons] at hlen; simp only [Qe]; exact decide_eq_decide.mpr (by omega)
         | cons e0 es' =>
           cases vs with
           | nil => simp at hv
           | cons v0 vs =>
             cases ws with
             | nil => simp at hw
             | cons w0 ws => rw [List.zip_cons_cons] at hz; cases hz
     rw [hv'] at h
     wp_walk
     exact ⟨_, rfl, by simpa [Builtin.Tuple.tupleCompareSizes] using h⟩
   case h =>
     exact ⟨rfl, rfl, items.toList, items2.toList, ds, es, rfl, hz1, hz2, by omega, hI, hk⟩
theorem Yg {op : CmpOp} (ho : op = .Lt \/ op = .LtE) {A : Around} {s : Shared} {l b : Addr} {items items2 : Array Value} {ds es : List PyData} {k : Bool} (hl : IsTup s.heap l items) (hb : IsTup s.heap b items2) (hz1 : items.toList.length = ds.length) (hz2 : items2.toList.length = es.length)
   (hI : X6 op A.in1 s items.toList items2.toList ds es) (hk : Cr op ds es = some k) (hu : A.units < cLine) : bB op A s (.ref l) (.ref b) k := fun prog w E Q q => by
 obtain ⟨⟨cls, dd, data, sl⟩, ho1, hc, n, hd⟩ := id hl
 obtain ⟨⟨cls2, dd2, data2, sl2⟩, ho2, hc2, n2, hd2⟩ := id hb
 simp only at hc hd hc2 hd2
 subst hc hd hc2 hd2
 rcases ho with rfl | rfl
 . exact richCompare_meets_room (op := .Lt) ⟨_, ho1, rfl⟩ ⟨_, ho2, rfl⟩ PySem.F.slot_tuple_lt PySem.F.entry_tuple_lt (PySem.F.args_tuple_lt_2 _ _) (Kc l b items items2 n n2 dd dd2 sl sl2 ds es k hz1 hz2 hk)
     ⟨ho1, ho2, hI, show Value.bool k ≠ Value.notImplemented /\ Q (.bool k) s from ⟨(fun x => nomatch x), q⟩⟩ hu
 . exact richCompare_meets_room (op := .LtE) ⟨_, ho1, rfl⟩ ⟨_, ho2, rfl⟩ PySem.F.slot_tuple_le PySem.F.entry_tuple_le (PySem.F.args_tuple_le_2 _ _) (Kd l b items items2 n n2 dd dd2 sl sl2 ds es k hz1 hz2 hk)
     ⟨ho1, ho2, hI, show Value.bool k ≠ Value.notImplemented /\ Q (.bool k) s from ⟨(fun x => nomatch x), q⟩⟩ hu
mutual
theorem Sk {op : CmpOp} (ho : op = .Lt \/ op = .LtE) : ∀ (a b : PyData) (A : Around) (s : Shared) (u v : Value) (as bs : List Addr) (k : Bool), Reads s.heap u a as -> Reads s.heap v b bs -> a.canLay0 = true -> b.canLay0 = true -> A.units + a.depth < cLine -> Wh op a b = some k -> bB op A s u v k
 | .int i, b, A, s, _, _, _, _, k, ra, rb, _, _, _, e => by
   have oo : Sv op = true := by rcases ho with rfl | rfl <;> rfl
   cases b with
   | int j => cases ra; cases rb; cases e; exact gD oo A s i j _ _
   | _ => cases e
 | .str x, b, A, s, _, _, _, _, k, ra, rb, _, _, _, e => by
   have oo : Sv op = true := by rcases ho with rfl | rfl <;> rfl
   cases b with
   | str j => cases ra; cases rb; cases e; exact gC oo A s x j _ _
   | _ => cases e
 | .tuple xs, b, A, s, _, _, _, _, k, ra, rb, ha, hb, hu, e => by
   cases b with
   | tuple ys =>
     cases ra with
     | tuple h1 h2 h3 h4 =>
       cases rb with
       | tuple k1 k2 k3 k4 =>
         have hu' : A.units + (PyData.depthAll xs + 1) < cLine := hu; refine Yg ho ⟨_, h1, h2, _, h3⟩ ⟨_, k1, k2, _, k3⟩ (SeqAt.ReadsAll.length _ _ _ h4) (SeqAt.ReadsAll.length _ _ _ k4) ?_ e (by omega)
         exact Os ho xs ys A.in1 s _ _ _ _ h4 k4 ha hb (by show A.units + 1 + _ < _; omega)
   | _ => cases e
 | .none, b, _, _, _, _, _, _, _, _, _, _, _, _, e => by cases b <;> cases e
 | .bool _, b, _, _, _, _, _, _, _, _, _, _, _, _, e => by cases b <;> cases e
 | .list _, b, _, _, _, _, _, _, _, _, _, _, _, _, e => by cases b <;> cases e
 | .dict _, b, _, _, _, _, _, _, _, _, _, _, _, _, e => by cases b <;> cases e
theorem Os {op : CmpOp} (ho : op = .Lt \/ op = .LtE) : ∀ (xs ys : List PyData) (A : Around) (s : Shared) (vs ws : List Value) (as bs : List Addr), ReadsAll s.heap vs xs as -> ReadsAll s.heap ws ys bs -> PyData.canLayAll0 xs = true -> PyData.canLayAll0 ys = true -> A.units + PyData.depthAll xs < cLine -> X6 op A s vs ws xs ys
 | [], _, _, _, _, _, _, _, _, _, _, _, _ => fun i v w d e h1 h2 h3 h4 => by simp at h3
 | _ :: _, [], _, _, _, _, _, _, _, _, _, _, _ => fun i v w d e h1 h2 h3 h4 => by simp at h4
 | x :: xs, y :: ys, A, s, _, _, _, _, ra, rb, ha, hb, hu => by
   have ha' : x.canLay0 = true /\ PyData.canLayAll0 xs = true := by simpa [PyData.canLayAll0] using ha
   have hb' : y.canLay0 = true /\ PyData.canLayAll0 ys = true := by simpa [PyData.canLayAll0] using hb
   have hu' : A.units + max x.depth (PyData.depthAll xs) < cLine := hu
   cases ra with
   | cons r1 r2 =>
     cases rb with
     | cons q1 q2 =>
       intro i v w d e h1 h2 h3 h4
       cases i with
       | zero =>
         simp at h1 h2 h3 h4
         subst h1 h2 h3 h4; exact ⟨SeqAt.eqAt_reads _ _ _ _ _ _ _ _ r1 q1 ha'.1 hb'.1 (by omega), fun k hk => Sk ho _ _ A s _ _ _ _ k r1 q1 ha'.1 hb'.1 (by omega) hk⟩
       | succ i => exact Os ho xs ys A s _ _ _ _ r2 q2 ha'.2 hb'.2 (by omega) i v w d e (by simpa using h1) (by simpa using h2) (by simpa using h3) (by simpa using h4)
end
noncomputable def W5 (op : CmpOp) (a b : PyData) : Option PyData := if a.depth <= 60 then (Wh op a b).map .bool else none
def eU (op : CmpOp) : R2 := fun x y H Q => ∃ G a b k, Same G H /\ Rep G a x /\ Rep G b y /\ a.depth <= 60 /\ Wh op a b = some k /\ Q (.bl k) H
section
variable {X : Cx}
theorem Sw {op : CmpOp} (ho : op = .Lt \/ op = .LtE) (hu : X.A.units + 64 < cLine) : OpR X (compareOp op) (eU op) := by
 intro pins s Z H x y v u Q I rx ry ⟨G, a, b, k, hG, ra, rb, hd, e, q⟩
 obtain ⟨as, r1⟩ := ra.reads I hG rx
 obtain ⟨bs, r2⟩ := rb.reads I hG ry
 have := Sk ho a b X.A s v u as bs k r1 r2 ra.lay rb.lay (by omega) e X.prog X.w X.xe (EP X pins Z Q) ⟨.bl k, H, I, rfl, q⟩
 rcases ho with rfl | rfl
 . exact this
 . exact this
theorem Sy {op : CmpOp} : OpD (eU op) (W5 op) := by
 intro G H x y a b d Q hG ra rb e q
 unfold W5 at e
 split at e
 . rename_i h
   cases e1 : Wh op a b with
   | none => rw [e1] at e; cases e
   | some k => rw [e1] at e; cases e; exact ⟨G, a, b, k, hG, ra, rb, h, e1, q _ G H (Grow.refl hG) rfl⟩
 . cases e
end
end Sm
end
section
namespace Sm
open PySem PySem.Spec PyProof.Rows L2
theorem Res.bind_assoc {α β γ : Type} (r : Res α) (f : α -> Res β) (g : β -> Res γ) : (r.bind f).bind g = r.bind fun x => (f x).bind g := by cases r <;> rfl
structure Cxt (P : Program) (w : World) (K : PySem.W.Frag) (mg : Str -> Option Value) (base : Heap) (X : Cx) (N : List Str) (sc : Scope) (k : Nat) (df : Bool) : Prop where
 hP : X.prog = P
 hw : X.w = w
 hK : X.K = K
 hmg : X.mg = mg
 hb : X.base = base
 hN : X.N = N
 hs : X.env.scope = sc
 calm : X.calm = true
 room : Room k X.A
 fn : df = true -> ∀ x, X.fn x = true
 own : PassesOwn (model X.prog X.w) X.A X.env X.xe
def Az (scope sc : Scope) : Scope :=
 { scope with names := scope.names.map fun (n, k) => if (k == .free && sc.kind == .function && sc.names.lookup n == some .cell) then (n, .cell) else (n, k) }
theorem Ms {X : Cx} {scope sc : Scope} (h : X.env.scope = sc) : relabel scope X.env = Az scope sc := by subst h; rfl
section
variable {P : Program} {w : World} {K : PySem.W.Frag} {mg : Str -> Option Value} {base : Heap} {X : Cx} {N : List Str} {sc : Scope} {k : Nat} {df : Bool} {E : EK} {pos : Pos}
theorem Cxt.blk (C : Cxt P w K mg base X N sc k df) {X' : Cx} {N' : List Str} {scope : Scope} (B : Blk X X' N' (relabel scope X.env)) : Cxt P w K mg base X' N' (Az scope sc) k false :=
 ⟨B.prog.trans C.hP, B.w.trans C.hw, B.K.trans C.hK, B.mg.trans C.hmg, B.base.trans C.hb, B.N, B.sc.trans (Ms C.hs), B.calm.trans C.calm, by rw [B.A]; exact C.room, (fun h => by cases h), by rw [B.xe]; exact PassesOwn.never⟩
theorem Cxt.hu (C : Cxt P w K mg base X N sc k df) : X.A.units + 64 < cLine := C.room.units
noncomputable def okVar (N : List Str) (sc : Scope) (i : Nat) (x : Str) : Bool :=
 (N[i]? == some x) && (match sc.names.lookup x with | some .local => true | some .cell => true | some .free => true | _ => false) && !(x == ("__debug__" : Str)) && !(x == ("__classdict__" : Str))
theorem A4 (C : Cxt P w K mg base X N sc k df) (i : Nat) {x : Str} (h : okVar N sc i x = true) : DE X E (.Name x pos) (A2 i) := by
 unfold okVar at h
 simp only [Bool.and_eq_true, Bool.not_eq_true'] at h
 obtain ⟨⟨⟨h1, h2⟩, h3⟩, h4⟩ := h
 refine Ri (by rw [C.hN]; exact eq_of_beq h1) ?_ h3 h4
 rw [C.hs]
 unfold Vis
 cases q : sc.names.lookup x with
 | none => rw [q] at h2; cases h2
 | some z =>
   rw [q] at h2
   cases z with
   | «local» => exact .inl rfl
   | cell => exact .inr (.inl rfl)
   | free => exact .inr (.inr rfl)
   | _ => cases h2
noncomputable def okGl (sc : Scope) (x : Str) : Bool := (sc.names.lookup x == some .globalImplicit) && !(x == ("__debug__" : Str)) && !(x == ("__name__" : Str))
theorem okGl.gl (C : Cxt P w K mg base X N sc k df) {x : Str} (h : okGl sc x = true) : Gl X x /\ (x == ("__debug__" : Str)) = false /\ x ≠ "__name__" := by
 unfold okGl at h
 simp only [Bool.and_eq_true, Bool.not_eq_true'] at h
 obtain ⟨⟨h1, h2⟩, h3⟩ := h
 refine ⟨?_, h2, by simpa using h3⟩
 unfold Gl
 show X.env.scope.names.lookup x = _
 rw [C.hs]; exact eq_of_beq h1
variable {a b c : Expr} {f g f' : Dn -> Res PyData}
theorem D9 (ha : DE X E a f) (hb : DE X E b g) : DE X E (.BinOp a .Add b pos) (b2 f g C2) := Tt cQ cT ha hb
theorem W4 (ha : DE X E a f) (hb : DE X E b g) : DE X E (.BinOp a .Mult b pos) (b2 f g L8) := Tt cO cR ha hb
theorem Ln (ha : DE X E a f) (hb : DE X E b g) : DE X E (.BinOp a .Mod b pos) (b2 f g Kq) := Tt gX cS ha hb
theorem Ny (ha : DE X E a f) (hb : DE X E b g) : DE X E (.BinOp a .FloorDiv b pos) (b2 f g Fq) := Tt cP Yw ha hb
theorem iX (C : Cxt P w K mg base X N sc k df) (ha : DE X E a f) (hb : DE X E b g) : DE X E (.Compare a [.Eq] [b] pos) (b2 f g dEq) := aP (Yv C.hu) Yx ha hb (Et _)
theorem d_in (C : Cxt P w K mg base X N sc k df) (ha : DE X E a f) (hb : DE X E b g) (hm : behindInMarks .In b = false := by with_unfolding_all rfl) : DE X E (.Compare a [.In] [b] pos) (b2 f g (dIn false)) := aP (gY C.hu) Qz ha hb hm
theorem d_notIn (C : Cxt P w K mg base X N sc k df) (ha : DE X E a f) (hb : DE X E b g) (hm : behindInMarks .NotIn b = false := by with_unfolding_all rfl) : DE X E (.Compare a [.NotIn] [b] pos) (b2 f g (dIn true)) := aP (Lb C.hu) Qz ha hb hm
noncomputable def vChain (f g f' : Dn -> Res PyData) (op op' : PyData -> PyData -> Option PyData) : Dn -> Res PyData := fun δ => (f δ).bind fun x => (g δ).bind fun y => (ofO (op x y)).bind fun z => match z with
 | .bool true => (f' δ).bind fun u => ofO (op' y u)
 | .bool false => .ok (.bool false)
 | _ => .no
noncomputable def N0 : PyData -> Bool
 | .none => true
 | _ => false
noncomputable def b1 (f : Dn -> Res PyData) (op : PyData -> Option PyData) : Dn -> Res PyData := fun δ => (f δ).bind fun x => ofO (op x)
theorem Rep.non {G : Hp} {d : PyData} {v : V} (r : Rep G d v) : decide (v = .non) = N0 d := by
 cases d with
 | none => cases (show _ = _ from r); rfl
 | bool _ => cases (show _ = _ from r); rfl
 | int _ => cases (show _ = _ from r); rfl
 | str _ => cases r.1; rfl
 | list _ => obtain ⟨a, xs, rfl, _⟩ := r; rfl
 | tuple _ => obtain ⟨a, xs, rfl, _⟩ := r; rfl
 | dict _ => exact (show False from r).elim
noncomputable def aQ : PyData -> Option PyData
 | .int i => some (.int (-i))
 | _ => none
theorem aL (ha : DE X E a f) : DE X E (.UnaryOp .USub a pos) (b1 f aQ) := by
 refine PE.imp (eY Wx ha) fun Z H Q ⟨G, δ, S, aft⟩ => ?_
 refine P3 S aft fun d1 v1 G1 H1 g1 r1 S1 a1 => ?_
 cases d1 with
 | int i => cases (show _ = _ from r1); exact ⟨i, rfl, a1 _ G1 H1 (Grow.refl S1.sub) rfl⟩
 | _ => exact (show False from a1).elim
noncomputable def bF (f g : Dn -> Res PyData) : Dn -> Res PyData := fun δ => (f δ).bind fun x => match x with
 | .bool true => g δ
 | .bool false => .ok (.bool false)
 | _ => .no
variable {Q8 : List Expr}
theorem d_one {op : BoolOp} (ha : DE X E a f) : DE X E (.BoolOp op [a] pos) f := gS ha
theorem d_and (ha : DE X E a f) (hb : DE X E (.BoolOp .And (b :: Q8) pos) g) : DE X E (.BoolOp .And (a :: b :: Q8) pos) (bF f g) := by
 refine PE.imp (gU ha hb) fun Z H Q ⟨G, δ, S, aft⟩ => ?_
 refine P3 S aft fun d1 v1 G1 H1 g1 r1 S1 a1 => ?_
 cases d1 with
 | bool kk =>
   refine ⟨kk, r1, ?_⟩
   cases kk with
   | true => rw [if_pos rfl]; exact ⟨G1, δ, S1, a1⟩
   | false => rw [if_neg (by decide)]; exact a1 _ G1 H1 (Grow.refl S1.sub) rfl
 | _ => exact (show False from a1).elim
def AftT (E : EK) (G H : Hp) (r : Res Bool) (Q : Bool -> Hp -> Prop) : Prop := match r with
 | .ok d => ∀ G' H', Grow G H G' H' -> Q d H'
 | .exc c => ∀ G' H', Grow G H G' H' -> E c H'
 | .no => False
def tT (E : EK) (f : Dn -> Res Bool) : TT := fun Z H Q => ∃ G δ, SR G H Z δ /\ AftT E G H (f δ) Q
abbrev DT (X : Cx) (E : EK) (e : Expr) (f : Dn -> Res Bool) : Prop := PT X e (tT E f)
abbrev DW (X : Cx) (E : EK) (e : Expr) (f : Dn -> Res Bool) : Prop := PW X e (tT E f)
theorem AftT.grow {E : EK} {G H G' H' : Hp} {r : Res Bool} {Q : Bool -> Hp -> Prop} (g : Grow G H G' H') (a : AftT E G H r Q) : AftT E G' H' r Q := by
 cases r with
 | ok d => exact fun G2 H2 g2 => a G2 H2 (g.trans g2)
 | exc c => exact fun G2 H2 g2 => a G2 H2 (g.trans g2)
 | no => exact a
theorem PT.imp {X : Cx} {e : Expr} {t t' : TT} (h : PT X e t) (i : ∀ Z H Q, t' Z H Q -> t Z H Q) : PT X e t' := fun pins s Z H Q I q => h pins s Z H Q I (i _ _ _ q)
theorem PW.imp {X : Cx} {e : Expr} {t t' : TT} (h : PW X e t) (i : ∀ Z H Q, t' Z H Q -> t Z H Q) : PW X e t' := fun wh pins s Z H Q I q => h wh pins s Z H Q I (i _ _ _ q)
theorem Ae {E : EK} {G H : Hp} {Z : St} {δ : Dn} {f : Dn -> Res PyData} {k : PyData -> Res Bool} {Q : Bool -> Hp -> Prop} {R : VK} (S : SR G H Z δ) (a : AftT E G H ((f δ).bind k) Q)
   (h : ∀ d v G1 H1, Grow G H G1 H1 -> Rep G1 d v -> SR G1 H1 Z δ -> AftT E G1 H1 (k d) Q -> R v H1) : tD E f Z H R := by
 refine ⟨G, δ, S, ?_⟩
 cases e : f δ with
 | ok d =>
   rw [e] at a; exact fun v G' H' g r => h d v G' H' g r (S.grow g) (AftT.grow g a)
 | exc c => rw [e] at a; exact a
 | no => rw [e] at a; exact a
theorem Jz {E : EK} {G H : Hp} {Z : St} {δ : Dn} {f : Dn -> Res Bool} {k : Bool -> Res Bool} {Q R : Bool -> Hp -> Prop} (S : SR G H Z δ) (a : AftT E G H ((f δ).bind k) Q)
   (h : ∀ d G1 H1, Grow G H G1 H1 -> SR G1 H1 Z δ -> AftT E G1 H1 (k d) Q -> R d H1) : tT E f Z H R := by
 refine ⟨G, δ, S, ?_⟩
 cases e : f δ with
 | ok d =>
   rw [e] at a; exact fun G' H' g => h d G' H' g (S.grow g) (AftT.grow g a)
 | exc c => rw [e] at a; exact a
 | no => rw [e] at a; exact a
theorem Rt {E : EK} {G H : Hp} {Z : St} {δ : Dn} {f : Dn -> Res Bool} {k : Bool -> Res PyData} {Q : VK} {R : Bool -> Hp -> Prop} (S : SR G H Z δ) (a : Aft E G H ((f δ).bind k) Q)
   (h : ∀ d G1 H1, Grow G H G1 H1 -> SR G1 H1 Z δ -> Aft E G1 H1 (k d) Q -> R d H1) : tT E f Z H R := by
 refine ⟨G, δ, S, ?_⟩
 cases e : f δ with
 | ok d =>
   rw [e] at a; exact fun G' H' g => h d G' H' g (S.grow g) (Aft.grow g a)
 | exc c => rw [e] at a; exact a
 | no => rw [e] at a; exact a
noncomputable def fO : PyData -> Option Bool
 | .none => some false
 | .bool b => some b
 | .int i => some (i != 0)
 | .str x => some (x.length != 0)
 | .list xs => some (!xs.isEmpty)
 | .tuple xs => some (!xs.isEmpty)
 | .dict _ => none
noncomputable def C9 (f : Dn -> Res PyData) : Dn -> Res Bool := fun δ => (f δ).bind fun d => ofO (fO d)
theorem Hf {o : CmpOp} {r : R2} {op : PyData -> PyData -> Option PyData} (hr : OpR X (compareOp o) r) (ho : OpD r op) (hbool : ∀ x y d, op x y = some d -> ∃ kk, d = .bool kk) (ha : DE X E a f) (hb : DE X E b g) (hm : behindInMarks o b = false) :
   DT X E (.Compare a [o] [b] pos) (C9 (b2 f g op)) := by
 refine PT.imp (Mu hr ha hb hm) fun Z H Q ⟨G, δ, S, aft⟩ => ?_
 have aft' : AftT E G H ((f δ).bind fun x => (g δ).bind fun y => (ofO (op x y)).bind fun d => ofO (fO d)) Q := by
   unfold C9 b2 at aft; simp only [Res.bind_assoc] at aft; exact aft
 refine Ae S aft' fun d1 v1 G1 H1 g1 r1 S1 a1 => ?_
 refine Ae S1 a1 fun d2 v2 G2 H2 g2 r2 S2 a2 => ?_
 cases e : op d1 d2 with
 | none => rw [e] at a2; exact a2.elim
 | some d =>
   rw [e] at a2; obtain ⟨kk, rfl⟩ := hbool _ _ _ e; exact ho G2 H2 v1 v2 d1 d2 _ _ S2.sub (r1.mono g2.g) r2 e fun v G3 H3 g3 r3 => ⟨kk, r3, a2 G3 H3 g3⟩
theorem eC (x y d : PyData) (e : dEq x y = some d) : ∃ kk, d = .bool kk := by unfold dEq at e; split at e <;> cases e; exact ⟨_, rfl⟩
theorem eB (x y d : PyData) (e : dNe x y = some d) : ∃ kk, d = .bool kk := by unfold dNe at e; split at e <;> cases e; exact ⟨_, rfl⟩
theorem Pw {op : CmpOp} (x y d : PyData) (e : W5 op x y = some d) : ∃ kk, d = .bool kk := by
 unfold W5 at e; split at e
 . obtain ⟨kk, _, rfl⟩ := Option.map_eq_some_iff.mp e; exact ⟨_, rfl⟩
 . cases e
theorem Ft (C : Cxt P w K mg base X N sc k df) (ha : DE X E a f) (hb : DE X E b g) : DT X E (.Compare a [.Eq] [b] pos) (C9 (b2 f g dEq)) := Hf (Yv C.hu) Yx eC ha hb (Et _)
theorem He (C : Cxt P w K mg base X N sc k df) (ha : DE X E a f) (hb : DE X E b g) : DT X E (.Compare a [.NotEq] [b] pos) (C9 (b2 f g dNe)) := Hf (gW C.hu) gZ eB ha hb (Et _)
theorem bH (C : Cxt P w K mg base X N sc k df) (ha : DE X E a f) (hb : DE X E b g) : DT X E (.Compare a [.Lt] [b] pos) (C9 (b2 f g (W5 .Lt))) := Hf (Sw (.inl rfl) C.hu) Sy Pw ha hb (Et _)
theorem t_le (C : Cxt P w K mg base X N sc k df) (ha : DE X E a f) (hb : DE X E b g) : DT X E (.Compare a [.LtE] [b] pos) (C9 (b2 f g (W5 .LtE))) := Hf (Sw (.inr rfl) C.hu) Sy Pw ha hb (Et _)
theorem bG (C : Cxt P w K mg base X N sc k df) (ha : DE X E a f) (hb : DE X E b g) (hm : behindInMarks .NotIn b = false := by with_unfolding_all rfl) : DT X E (.Compare a [.NotIn] [b] pos) (C9 (b2 f g (dIn true))) := Hf (Lb C.hu) Qz (fun _ _ _ e => Pq e) ha hb hm
theorem Ql {j : Nat} {p : Pos} (ha : DE X E a f) : DT X E (.Compare a [.IsNot] [.Constant .none j p] pos) (fun δ => (f δ).bind fun d => .ok (!N0 d)) := by
 refine PT.imp (Qu (cL ha)) fun Z H Q ⟨G, δ, S, aft⟩ => ?_
 exact Ae S aft fun d1 v1 G1 H1 g1 r1 S1 a1 => by rw [r1.non]; exact ⟨_, rfl, a1 G1 H1 (Grow.refl S1.sub)⟩
variable {c1 c2 : Dn -> Res Bool}
noncomputable def Cs (c c' : Dn -> Res Bool) : Dn -> Res Bool := fun δ => (c δ).bind fun b => if b = true then c' δ else .ok false
noncomputable def cOr (c c' : Dn -> Res Bool) : Dn -> Res Bool := fun δ => (c δ).bind fun b => if b = true then .ok true else c' δ
theorem Gy (ha : DT X E a c1) : DW X E (.BoolOp .And [a] pos) c1 := bZ ha
theorem w_or1 (ha : DT X E a c1) : DW X E (.BoolOp .Or [a] pos) c1 := Yi ha
theorem Og (ha : DT X E a c1) (hb : DW X E (.BoolOp .And (b :: Q8) pos) c2) : DW X E (.BoolOp .And (a :: b :: Q8) pos) (Cs c1 c2) := by
 refine PW.imp (gJ ha hb) fun Z H Q ⟨G, δ, S, aft⟩ => ?_
 refine Jz S aft fun d G1 H1 g1 S1 a1 => ?_
 cases d with
 | true => rw [if_pos rfl]; exact ⟨G1, δ, S1, a1⟩
 | false => rw [if_neg (by decide)]; exact a1 G1 H1 (Grow.refl S1.sub)
theorem w_or (ha : DT X E a c1) (hb : DW X E (.BoolOp .Or (b :: Q8) pos) c2) : DW X E (.BoolOp .Or (a :: b :: Q8) pos) (cOr c1 c2) := by
 refine PW.imp (eW ha hb) fun Z H Q ⟨G, δ, S, aft⟩ => ?_
 refine Jz S aft fun d G1 H1 g1 S1 a1 => ?_
 cases d with
 | true => rw [if_pos rfl]; exact a1 G1 H1 (Grow.refl S1.sub)
 | false => rw [if_neg (by decide)]; exact ⟨G1, δ, S1, a1⟩
theorem w_t (h : DW X E a c1) : DT X E a c1 := h.pt
noncomputable def vIf (c : Dn -> Res Bool) (f g : Dn -> Res PyData) : Dn -> Res PyData := fun δ => (c δ).bind fun b => if b = true then f δ else g δ
theorem dU (hc : DT X E c c1) (ha : DE X E a f) (hb : DE X E b g) : DE X E (.IfExp c a b pos) (vIf c1 f g) := by
 refine PE.imp (Yr hc ha hb) fun Z H Q ⟨G, δ, S, aft⟩ => ?_
 refine Rt S aft fun d G1 H1 g1 S1 a1 => ?_
 cases d with
 | true => rw [if_pos rfl]; exact ⟨G1, δ, S1, a1⟩
 | false => rw [if_neg (by decide)]; exact ⟨G1, δ, S1, a1⟩
end
end Sm
end
section
namespace Sm
open PySem PySem.Spec PyProof.Rows L2
section
variable {w : World} {K : PySem.W.Frag} {X : Cx} {k : Nat} {E : EK} {pos : Pos} {a b c e : Expr} {es : List Expr} {f g : Dn -> Res PyData} {fs : Dn -> Res (List PyData)}
def AftL (E : EK) (G H : Hp) (r : Res (List PyData)) (Q : List V -> Hp -> Prop) : Prop := match r with
 | .ok ds => ∀ vs G' H', Grow G H G' H' -> RepL G' ds vs -> Q vs H'
 | .exc c => ∀ G' H', Grow G H G' H' -> E c H'
 | .no => False
def tA (E : EK) (fs : Dn -> Res (List PyData)) : TA := fun Z H Q => ∃ G δ, SR G H Z δ /\ AftL E G H (fs δ) Q
structure DA (X : Cx) (E : EK) (es : List Expr) (n : Nat) (fs : Dn -> Res (List PyData)) : Prop where
 pa : PA X es (tA E fs)
 len : ∀ δ ds, fs δ = .ok ds -> ds.length = n
theorem PA.imp {X : Cx} {es : List Expr} {t t' : TA} (h : PA X es t) (i : ∀ Z H Q, t' Z H Q -> t Z H Q) : PA X es t' := fun p pins s Z H Q I q => h p pins s Z H Q I (i _ _ _ q)
theorem AftL.grow {E : EK} {G H G' H' : Hp} {r : Res (List PyData)} {Q : List V -> Hp -> Prop} (g : Grow G H G' H') (a : AftL E G H r Q) : AftL E G' H' r Q := by
 cases r with
 | ok d => exact fun v G2 H2 g2 q => a v G2 H2 (g.trans g2) q
 | exc c => exact fun G2 H2 g2 => a G2 H2 (g.trans g2)
 | no => exact a
theorem Gx {α : Type} {E : EK} {G H : Hp} {Z : St} {δ : Dn} {f : Dn -> Res PyData} {k : PyData -> Res α} {R : VK} {W : Hp -> Hp -> Res α -> Prop} (S : SR G H Z δ) (a : W G H ((f δ).bind k)) (hg : ∀ {G H G' H' : Hp} {r : Res α}, Grow G H G' H' -> W G H r -> W G' H' r)
   (hx : ∀ c, W G H (.exc c) -> ∀ G' H', Grow G H G' H' -> E c H') (hn : W G H .no -> False)
   (h : ∀ d v G1 H1, Grow G H G1 H1 -> Rep G1 d v -> SR G1 H1 Z δ -> W G1 H1 (k d) -> R v H1) : tD E f Z H R := by
 refine ⟨G, δ, S, ?_⟩
 cases e : f δ with
 | ok d => rw [e] at a; exact fun v G' H' g r => h d v G' H' g r (S.grow g) (hg g a)
 | exc c => rw [e] at a; exact hx c a
 | no => rw [e] at a; exact hn a
theorem P4 {α : Type} {E : EK} {G H : Hp} {Z : St} {δ : Dn} {fs : Dn -> Res (List PyData)} {k : List PyData -> Res α} {R : List V -> Hp -> Prop} {W : Hp -> Hp -> Res α -> Prop} (S : SR G H Z δ) (a : W G H ((fs δ).bind k)) (hg : ∀ {G H G' H' : Hp} {r : Res α}, Grow G H G' H' -> W G H r -> W G' H' r)
   (hx : ∀ c, W G H (.exc c) -> ∀ G' H', Grow G H G' H' -> E c H') (hn : W G H .no -> False)
   (h : ∀ ds vs G1 H1, fs δ = .ok ds -> Grow G H G1 H1 -> RepL G1 ds vs -> SR G1 H1 Z δ -> W G1 H1 (k ds) -> R vs H1) : tA E fs Z H R := by
 refine ⟨G, δ, S, ?_⟩
 cases e : fs δ with
 | ok d => rw [e] at a; exact fun v G' H' g r => h d v G' H' e g r (S.grow g) (hg g a)
 | exc c => rw [e] at a; exact hx c a
 | no => rw [e] at a; exact hn a
noncomputable def A7 : Dn -> Res (List PyData) := fun _ => .ok []
noncomputable def A0 (f : Dn -> Res PyData) (fs : Dn -> Res (List PyData)) : Dn -> Res (List PyData) := fun δ => (f δ).bind fun d => (fs δ).bind fun ds => .ok (d :: ds)
theorem B0 : DA X E [] 0 A7 := ⟨PA.imp M9 fun Z H Q ⟨G, δ, S, a⟩ => a [] G H (Grow.refl S.sub) rfl, fun δ ds e => by cases e; rfl⟩
noncomputable def Go : Expr -> Bool
 | .Starred .. => false
 | _ => true
theorem Uu {a : Expr} {es : List Expr} {env : Env} (h : Go a = true) : starEach (a :: es) env = (false, eval a env) :: starEach es env := by
 cases a <;> first | rfl | cases h
theorem A3 {n : Nat} (ha : DE X E a f) (hr : DA X E es n fs) (hs : Go a = true := by rfl) : DA X E (a :: es) (n + 1) (A0 f fs) := by
 refine ⟨PA.imp (F6 ha hr.pa (Uu hs)) fun Z H Q ⟨G, δ, S, aft⟩ => ?_, fun δ ds e => ?_⟩
 . refine Gx (W := fun G H r => AftL E G H r Q) S aft (fun g a => AftL.grow g a) (fun c a => a) (fun a => a) fun d v G1 H1 g1 r1 S1 a1 => ?_
   refine P4 (W := fun G H r => AftL E G H r Q) S1 a1 (fun g a => AftL.grow g a) (fun c a => a) (fun a => a) fun ds vs G2 H2 e g2 r2 S2 a2 => ?_
   exact a2 _ G2 H2 (Grow.refl S2.sub) (RepL.cons (r1.mono g2.g) r2)
 . unfold A0 at e
   cases h1 : f δ with
   | ok d =>
     rw [h1] at e
     cases h2 : fs δ with
     | ok ds' =>
       simp only [Res.bind, h2] at e; cases e; rw [List.length_cons, hr.len δ ds' h2]
     | exc c => simp only [Res.bind, h2] at e; cases e
     | no => simp only [Res.bind, h2] at e; cases e
   | exc c => rw [h1] at e; cases e
   | no => rw [h1] at e; cases e
noncomputable def K3 (fs : Dn -> Res (List PyData)) : Dn -> Res PyData := fun δ => (fs δ).bind fun ds => .ok (.tuple ds)
noncomputable def D2 (fs : Dn -> Res (List PyData)) : Dn -> Res PyData := fun δ => (fs δ).bind fun ds => .ok (.list ds)
theorem L6 {n x1 : Nat} (h : DA X E es n fs) (hn : n <= sizeLine := by decide) : DE X E (.Tuple es x1 pos) (K3 fs) := by
 refine PE.imp (Qx h.pa) fun Z H Q ⟨G, δ, S, aft⟩ => ?_
 refine P4 (W := fun G H r => Aft E G H r Q) S aft (fun g a => Aft.grow g a) (fun c a => a) (fun a => a) fun ds vs G1 H1 e g1 r1 S1 a1 => ?_
 refine ⟨by rw [<- r1.length, h.len δ ds e]; exact hn, fun p hp => ?_⟩
 exact a1 _ (upd G1 p (.tup vs)) _ (Grow.new S1.sub hp) ⟨p, vs, rfl, B3, r1.mono (Same.upd (S1.sub.free hp))⟩
def bC (E : EK) (G H : Hp) (r : Res (List PyData)) (Q : VK) : Prop := match r with
 | .ok ds => ∀ p xs G' H', Grow G H G' H' -> H p = none -> G' p = none -> H' p = some (.lst xs) -> RepL G' ds xs -> Q (.ref p) H'
 | .exc c => ∀ G' H', Grow G H G' H' -> E c H'
 | .no => False
def tF (E : EK) (f : Dn -> Res (List PyData)) : TE := fun Z H Q => ∃ G δ, SR G H Z δ /\ bC E G H (f δ) Q
abbrev DF (X : Cx) (E : EK) (e : Expr) (f : Dn -> Res (List PyData)) : Prop := PE X e (tF E f)
theorem Grow.share {G H G' H' : Hp} {p : Addr} {o : HO} (g : Grow G H G' H') (hp : H p = none) (hg : G' p = none) (hH : H' p = some o) : Grow G H (upd G' p o) H' :=
 ⟨g.g.trans (Same.upd hg), g.h, fun b u e => by
   by_cases hb : b = p
   . subst hb; rw [B3] at e; cases e; exact hH
   . rw [A8 hb] at e; exact g.gh _ _ e, fun b u e => by
   by_cases hb : b = p
   . subst hb; exact .inr (.inl hp)
   . rw [A8 hb] at e; exact g.fr _ _ e⟩
theorem E7 (h : DF X E e fs) : DE X E e (D2 fs) := by
 refine PE.imp h fun Z H Q ⟨G, δ, S, aft⟩ => ⟨G, δ, S, ?_⟩
 unfold D2 at aft
 cases e : fs δ with
 | ok ds =>
   rw [e] at aft; exact fun p xs G' H' g hp hg hH r => aft _ _ H' (g.share hp hg hH) ⟨p, xs, rfl, .inl B3, r.mono (Same.upd hg)⟩
 | exc c => rw [e] at aft; exact aft
 | no => rw [e] at aft; exact aft
theorem N1 {n : Nat} (h : DA X E es n fs) (hn : n <= sizeLine := by decide) : DF X E (.List es pos) fs := by
 refine PE.imp (Iv h.pa) fun Z H Q ⟨G, δ, S, aft⟩ => ⟨G, δ, S, ?_⟩
 cases e : fs δ with
 | ok ds =>
   rw [e] at aft; refine fun vs G1 H1 g1 r1 => ⟨by rw [<- r1.length, h.len δ ds e]; exact hn, fun p hp => ?_⟩
   exact aft p vs G1 _ (g1.trans (Grow.own g1.gh hp)) (g1.h.free hp) (g1.gh.free hp) B3 r1
 | exc c => rw [e] at aft; exact aft
 | no => rw [e] at aft; exact aft
noncomputable def dIx : PyData -> PyData -> Option PyData
 | .list ds, .int i => atI ds i
 | .tuple ds, .int i => atI ds i
 | .str x, .int i => (atI x.cps.toList i).map fun c => .str ⟨#[c]⟩
 | _, _ => none
theorem Uh {G : Hp} {ds : List PyData} {xs : List V} {i : Int} {d : PyData} (r : RepL G ds xs) (e : atI ds i = some d) : ∃ x, atI xs i = some x /\ Rep G d x := by
 unfold atI at e ⊢
 rw [<- r.length]
 cases q : ixN ds.length i with
 | none => rw [q] at e; cases e
 | some j => rw [q] at e; exact r.get e
theorem hJ : OpD (rIx K) dIx := by
 intro G H x y a b d Q hG ra rb e q
 cases b with
 | int i =>
   cases (show _ = _ from rb)
   cases a with
   | list ds =>
     obtain ⟨p, xs, rfl, h1, l1⟩ := ra; obtain ⟨v, e1, r1⟩ := Uh l1 e; exact .inl ⟨p, xs, i, v, rfl, rfl, .inl (Rd.mono hG h1), e1, q _ G H (Grow.refl hG) r1⟩
   | tuple ds =>
     obtain ⟨p, xs, rfl, h1, l1⟩ := ra; obtain ⟨v, e1, r1⟩ := Uh l1 e; exact .inr (.inl ⟨p, xs, i, v, rfl, rfl, .inl (.inl (hG _ _ h1)), e1, q _ G H (Grow.refl hG) r1⟩)
   | str z =>
     obtain ⟨e0, o1, l1⟩ := ra; subst e0; obtain ⟨cc, e1, rfl⟩ := Option.map_eq_some_iff.mp e; refine .inr (.inr ⟨z, i, cc, rfl, rfl, l1, e1, q _ G H (Grow.refl hG) ⟨rfl, ?_, ?_⟩⟩)
     . obtain ⟨j, _, h2, _⟩ := Gv e1
       have hm : cc ∈ z.cps.toList := List.mem_of_getElem? h2; unfold PyData.strOk at *
       rw [<- Array.all_toList, List.all_eq_true] at o1; have := o1 cc hm
       simpa using this
     . show 1 <= sizeLine; decide
   | _ => cases e
 | _ => cases a <;> cases e
theorem G7 (ha : DE X E a f) (hb : DE X E b g) (hs : Oc b := by exact fun _ _ => rfl) : DE X E (.Subscript a b pos) (b2 f g dIx) :=
 PE.imp (Yq iJ ha hb hs) fun _ _ _ h => Xd hJ h
noncomputable def Cp (xs : List PyData) (lo hi : Option Int) : List PyData := (xs.drop (HT.sIx xs.length 0 lo)).take (HT.sIx xs.length xs.length hi - HT.sIx xs.length 0 lo)
noncomputable def Rk (d : PyData) (lo hi : Option Int) : Option PyData := match d with
 | .list ds => some (.list (Cp ds lo hi))
 | .tuple ds => some (.tuple (Cp ds lo hi))
 | _ => none
theorem Tv {G : Hp} {ds : List PyData} {xs : List V} (r : RepL G ds xs) (lo hi : Option Int) : RepL G (Cp ds lo hi) (We xs lo hi) := by
 unfold Cp We
 rw [r.length]
 exact (r.drop _).take _
noncomputable def rSlD : V -> Option Int -> Option Int -> Hp -> VK -> Prop := fun x lo hi H Q => ∃ G a d, Same G H /\ Rep G a x /\ Rk a lo hi = some d /\ ∀ v G' H', Grow G H G' H' -> Rep G' d v -> Q v H'
theorem Br {prog : Program} {w : World} {A : Around} {E : Value -> Shared -> Prop} {s : Shared} {t sl : Addr} {items : Array Value} {vl vu : Value} {lo hi : Option Int} {Q : Value -> Shared -> Prop} (ht : IsTup s.heap t items) (hs : s.heap.IsSliceOf sl vl vu .none) (pl : IsPart vl lo) (pu : IsPart vu hi)
   (hw : HT.sIx items.size 0 lo = 0 /\ HT.sIx items.size items.size hi = items.size) (h : Q (.ref t) s) : wpAny (model prog w) A (getItem (.ref t) (.ref sl)) Q E s := by
 obtain ⟨os, hos, hcs, hds⟩ := id hs
 have hTs : s.TypeIs (.ref sl) "slice" := ⟨os, hos, hcs⟩
 unfold getItem
 try with_reducible refine wpAny_holding ?_
 first | refine wpAny_bind (wpAny_pure ?_) | skip
 refine wpAny_bind (wpAny_sequenceKey ht.typeIs (by decide) ?_)
 refine wpAny_bind (wpAny_callSpecial?_slot (name := Str.ofString "__getitem__") ht.typeIs PyProof.Rows.slot_tuple_getitem
   (wpAny_call_entry PyProof.Rows.slot_tuple_getitem ht.typeIs entry_tuple_getitem ?_ (args_tuple_getitem _ _)))
 show wpAny _ _ (Builtin.Tuple.tupleItemsOf (.ref t) >>= _) _ _ s
 refine wpAny_bind (tupleItemsOf_ ht ?_)
 refine wpAny_bind (wpAny_typeOf hTs ?_)
 rw [if_pos (by decide)]
 refine wpAny_bind (HT.sliceApplied_gen hs pl pu ?_)
 show wpAny _ _ (if (((HT.sIx items.size 0 lo : Nat) : Int) == 0 && (1 : Int) == 1 && (HT.sIx items.size items.size hi - HT.sIx items.size 0 lo) == items.size) = true then _ else _) _ _ s
 rw [if_pos (by rw [hw.1, hw.2]; simp)]
 unfold Builtin.Tuple.tupleIsExact
 refine wpAny_bind (wpAny_bind (wpAny_typeOf ht.typeIs (wpAny_pure ?_)))
 rw [if_pos (by decide)]
 first
   | exact wpAny_bind (wpAny_rule (wpAny_pure ⟨_, rfl, wpAny_pure h⟩))
   | exact wpAny_bind (wpAny_rule (wpAny_bind (wpAny_pure (wpAny_pure ⟨_, rfl, wpAny_pure h⟩))))
theorem sl_D : SlR X rSlD := by
 intro pins s Z H x v vl vu lo hi sl Q I rx hs pl pu ⟨G, a, d, hG, ra, e, q⟩
 cases a with
 | list ds =>
   cases e; obtain ⟨p, xs, rfl, h1, l1⟩ := ra; cases rx; obtain ⟨z, its, n, r, e1⟩ := O7 I hG h1; have hlen := r.length; have hl : s.heap.IsList p its.toArray := ⟨_, e1, rfl, n, rfl⟩; refine ⟨"list", _, slot_list_getitem.lookup, hl.typeIs, ?_⟩; refine wpAny_getItem_list_slice hl hs pl pu .none (by simp) ?_ (by rw [List.size_toArray] <;> omega)
   rw [Bs, <- hlen]; exact Np (t' := s.toks) I hG ((r.drop (HT.sIx xs.length 0 lo)).take (HT.sIx xs.length xs.length hi - HT.sIx xs.length 0 lo)) (Tv l1 lo hi) (Nat.le_trans (Bf xs lo hi) z) q
 | tuple ds =>
   cases e; obtain ⟨p, xs, rfl, h1, l1⟩ := ra; cases rx; obtain ⟨z, its, r, ht⟩ := Y8 I hG h1; have hlen : its.toArray.size = xs.length := by rw [List.size_toArray]; exact r.length.symm
   refine ⟨"tuple", _, PyProof.Rows.slot_tuple_getitem.lookup, ht.typeIs, ?_⟩
   by_cases hw : HT.sIx xs.length 0 lo = 0 /\ HT.sIx xs.length xs.length hi = xs.length
   . refine Br ht hs pl pu (by rw [hlen]; exact hw) ⟨.ref p, H, I, rfl, q _ G H (Grow.refl hG) ⟨p, xs, rfl, h1, ?_⟩⟩
     have : Cp ds lo hi = ds := by
       unfold Cp; rw [l1.length, hw.1, hw.2, List.drop_zero, Nat.sub_zero, <- l1.length, List.take_length]
     rw [this]; exact l1
   . refine HT.getItem_tuple_cut ht hs pl pu (by rw [hlen]; exact hw) ?_ (by rw [hlen]; exact z)
     rw [hlen]; exact Nm (t' := s.toks) I hG ((r.drop (HT.sIx xs.length 0 lo)).take (HT.sIx xs.length xs.length hi - HT.sIx xs.length 0 lo)) (Tv l1 lo hi) (Nat.le_trans (Bf xs lo hi) z) q
 | _ => cases e
def AftO (E : EK) (G H : Hp) (r : Res (Option Int)) (Q : Option Int -> Hp -> Prop) : Prop := match r with
 | .ok ds => ∀ G' H', Grow G H G' H' -> Q ds H'
 | .exc c => ∀ G' H', Grow G H G' H' -> E c H'
 | .no => False
def tO (E : EK) (f : Dn -> Res (Option Int)) : TO := fun Z H Q => ∃ G δ, SR G H Z δ /\ AftO E G H (f δ) Q
abbrev DO (X : Cx) (E : EK) (e : Option Expr) (f : Dn -> Res (Option Int)) : Prop := PO X e (tO E f)
theorem PO.imp {X : Cx} {e : Option Expr} {t t' : TO} (h : PO X e t) (i : ∀ Z H Q, t' Z H Q -> t Z H Q) : PO X e t' := fun pins s Z H Q I q => h pins s Z H Q I (i _ _ _ q)
noncomputable def Ix : Dn -> Res (Option Int) := fun _ => .ok none
noncomputable def Iw (f : Dn -> Res PyData) : Dn -> Res (Option Int) := fun δ => (f δ).bind fun d => match d with
 | .int i => .ok (some i)
 | _ => .no
theorem AftO.grow {E : EK} {G H G' H' : Hp} {r : Res (Option Int)} {Q : Option Int -> Hp -> Prop} (g : Grow G H G' H') (a : AftO E G H r Q) : AftO E G' H' r Q := by
 cases r with
 | ok d => exact fun G2 H2 g2 => a G2 H2 (g.trans g2)
 | exc c => exact fun G2 H2 g2 => a G2 H2 (g.trans g2)
 | no => exact a
theorem Nb : DO X E none Ix := PO.imp cF fun Z H Q ⟨G, δ, S, a⟩ => a G H (Grow.refl S.sub)
theorem Na (h : DE X E e f) : DO X E (some e) (Iw f) := by
 refine PO.imp (cE h) fun Z H Q ⟨G, δ, S, aft⟩ => ?_
 refine Gx (W := fun G H r => AftO E G H r Q) S aft (fun g a => AftO.grow g a) (fun c a => a) (fun a => a) fun d v G1 H1 g1 r1 S1 a1 => ?_
 cases d with
 | int i => exact ⟨i, r1, a1 G1 H1 (Grow.refl S1.sub)⟩
 | _ => exact (show False from a1).elim
theorem Pz {α : Type} {E : EK} {G H : Hp} {Z : St} {δ : Dn} {fs : Dn -> Res (Option Int)} {k : Option Int -> Res α} {R : Option Int -> Hp -> Prop} {W : Hp -> Hp -> Res α -> Prop} (S : SR G H Z δ) (a : W G H ((fs δ).bind k)) (hg : ∀ {G H G' H' : Hp} {r : Res α}, Grow G H G' H' -> W G H r -> W G' H' r)
   (hx : ∀ c, W G H (.exc c) -> ∀ G' H', Grow G H G' H' -> E c H') (hn : W G H .no -> False)
   (h : ∀ ds G1 H1, Grow G H G1 H1 -> SR G1 H1 Z δ -> W G1 H1 (k ds) -> R ds H1) : tO E fs Z H R := by
 refine ⟨G, δ, S, ?_⟩
 cases e : fs δ with
 | ok d => rw [e] at a; exact fun G' H' g => h d G' H' g (S.grow g) (hg g a)
 | exc c => rw [e] at a; exact hx c a
 | no => rw [e] at a; exact hn a
noncomputable def vSl (f : Dn -> Res PyData) (lo hi : Dn -> Res (Option Int)) : Dn -> Res PyData := fun δ => (f δ).bind fun x => (lo δ).bind fun l => (hi δ).bind fun u => ofO (Rk x l u)
variable {lo hi : Option Expr} {fl fh : Dn -> Res (Option Int)} {p2 : Pos}
theorem Gs (he : DE X E e f) (hl : DO X E lo fl) (hu : DO X E hi fh) : DE X E (.Subscript e (.Slice lo hi none p2) pos) (vSl f fl fh) := by
 refine PE.imp (Yp sl_D he hl hu) fun Z H Q ⟨G, δ, S, aft⟩ => ?_
 refine P3 S aft fun d v G1 H1 g1 r1 S1 a1 => ?_
 refine Pz (W := fun G H r => Aft E G H r Q) S1 a1 (fun g a => Aft.grow g a) (fun c a => a) (fun a => a) fun l G2 H2 g2 S2 a2 => ?_
 refine Pz (W := fun G H r => Aft E G H r Q) S2 a2 (fun g a => Aft.grow g a) (fun c a => a) (fun a => a) fun u G3 H3 g3 S3 a3 => ?_
 cases e : Rk d l u with
 | none => rw [e] at a3; exact a3.elim
 | some z => rw [e] at a3; exact ⟨G3, d, z, S3.sub, r1.mono (g2.g.trans g3.g), e, a3⟩
end
end Sm
end
section
namespace Sm
open PySem PySem.Spec PyProof.Rows L2
section
variable {P : Program} {w : World} {K : PySem.W.Frag} {mg : Str -> Option Value} {base : Heap} {X : Cx} {N : List Str} {sc : Scope} {k : Nat} {df : Bool} {E : EK} {pos p : Pos} {a b c e : Expr} {es : List Expr} {f g : Dn -> Res PyData} {fs : Dn -> Res (List PyData)}
noncomputable def rCD (op : List PyData -> Option PyData) : List V -> Hp -> VK -> Prop := fun vs H Q => ∃ G ds d, Same G H /\ RepL G ds vs /\ op ds = some d /\ ∀ v G' H', Grow G H G' H' -> Rep G' d v -> Q v H'
noncomputable def vFn (fs : Dn -> Res (List PyData)) (op : List PyData -> Option PyData) : Dn -> Res PyData := fun δ => (fs δ).bind fun ds => ofO (op ds)
theorem eQ {op : List PyData -> Option PyData} {Z : St} {H : Hp} {Q : VK} (h : tD E (vFn fs op) Z H Q) : tCB (rCD op) (tA E fs) Z H Q := by
 obtain ⟨G, δ, S, aft⟩ := h
 refine P4 (W := fun G H r => Aft E G H r Q) S aft (fun g a => Aft.grow g a) (fun c a => a) (fun a => a) fun ds vs G1 H1 e g1 r1 S1 a1 => ?_
 cases e : op ds with
 | none => rw [e] at a1; exact a1.elim
 | some d => rw [e] at a1; exact ⟨G1, ds, d, S1.sub, r1, e, a1⟩
theorem Jj {x : Str} {id : String} {n : Nat} {op : List PyData -> Option PyData} (C : Cxt P w K mg base X N sc k df) (hc : R0 X (.builtin id) (rCD op)) (h : okGl sc x = true) (hm : mg x = none) (hv : bootBuiltins x = some (.builtin id)) (ha : DA X E (e :: es) n fs)
   (he : starEach (e :: es) X.env = (false, eval e X.env) :: starEach es X.env := by rfl) (hpl : (backTo pos (starEach es X.env)).any (·.1) = false := by rfl) : DE X E (.Call (.Name x p) (e :: es) [] pos) (vFn fs op) := by
 obtain ⟨h1, h2, h3⟩ := okGl.gl C h
 exact PE.imp (Bb hc h1 (by rw [C.hmg]; exact hm) hv ha.pa h3 h2 he hpl) fun _ _ _ q => eQ q
theorem Ji {x : Str} {T : String} {n : Nat} {op : List PyData -> Option PyData} (C : Cxt P w K mg base X N sc k df) (hc : R0 X (.type T) (rCD op)) (h : okGl sc x = true) (hm : mg x = none) (hv : bootBuiltins x = some (.type T)) (ha : DA X E (e :: es) n fs)
   (he : starEach (e :: es) X.env = (false, eval e X.env) :: starEach es X.env := by rfl) (hpl : (backTo pos (starEach es X.env)).any (·.1) = false := by rfl) : DE X E (.Call (.Name x p) (e :: es) [] pos) (vFn fs op) := by
 obtain ⟨h1, h2, h3⟩ := okGl.gl C h
 exact PE.imp (Ky hc h1 (by rw [C.hmg]; exact hm) hv ha.pa h3 h2 he hpl) fun _ _ _ q => eQ q
theorem Cf {G : Hp} {d : PyData} {vs : List V} (r : RepL G [d] vs) : ∃ v, vs = [v] /\ Rep G d v := by
 obtain ⟨x, t, rfl, h, l⟩ := r; cases (show _ = _ from l); exact ⟨x, rfl, h⟩
theorem rep2 {G : Hp} {d d' : PyData} {vs : List V} (r : RepL G [d, d'] vs) : ∃ v v', vs = [v, v'] /\ Rep G d v /\ Rep G d' v' := by
 obtain ⟨x, t, rfl, h, l⟩ := r
 obtain ⟨y, rfl, h'⟩ := Cf l
 exact ⟨x, y, rfl, h, h'⟩
noncomputable def Ab : List PyData -> Option PyData
 | [.list ds] => some (.int ds.length)
 | [.tuple ds] => some (.int ds.length)
 | [.str x] => some (.int x.length)
 | _ => none
theorem Rp : R0 X (.builtin "len") (rCD Ab) := by
 intro pins s Z H xs us Q I r ⟨G, ds, d, hG, rl, e, q⟩
 unfold Ab at e
 split at e
 . rename_i ys
   cases e; obtain ⟨v, rfl, a, vs, rfl, h1, l1⟩ := Cf rl; exact Js pins s Z H _ us Q I r ⟨_, ys.length, rfl, .inl ⟨vs, .inl (Rd.mono hG h1), l1.length⟩, q _ G H (Grow.refl hG) rfl⟩
 . rename_i ys
   cases e; obtain ⟨v, rfl, a, vs, rfl, h1, l1⟩ := Cf rl; exact Js pins s Z H _ us Q I r ⟨_, ys.length, rfl, .inr ⟨vs, .inl (.inl (hG _ _ h1)), l1.length⟩, q _ G H (Grow.refl hG) rfl⟩
 . rename_i x
   cases e; obtain ⟨v, rfl, r1⟩ := Cf rl
   cases r1.1
   exact Js pins s Z H _ us Q I r ⟨_, x.length, rfl, ⟨r1.2.2, rfl⟩, q _ G H (Grow.refl hG) rfl⟩
 . cases e
theorem d_len {n : Nat} (C : Cxt P w K mg base X N sc k df) (h : okGl sc "len" = true) (hm : mg "len" = none) (ha : DA X E (e :: es) n fs)
   (he : starEach (e :: es) X.env = (false, eval e X.env) :: starEach es X.env := by rfl) (hpl : (backTo pos (starEach es X.env)).any (·.1) = false := by rfl) : DE X E (.Call (.Name "len" p) (e :: es) [] pos) (vFn fs Ab) :=
 Jj C Rp h hm PySem.boot_len ha he hpl
noncomputable def Ty : List PyData -> Option (List Bool)
 | [] => some []
 | .bool b :: ds => (Ty ds).map (b :: ·)
 | _ :: _ => none
noncomputable def dAll : List PyData -> Option PyData
 | [.list ds] => (Ty ds).map fun bs => .bool (bs.all id)
 | _ => none
theorem Nj {s : Shared} {h' : Heap} {o : Obj} (hk : ∀ b x, b ∉ [s.heap.objs.size] -> (s.heap.push o).get? b = some x -> h'.get? b = some x) : ∀ b x, s.heap.get? b = some x -> h'.get? b = some x :=
 fun b x e => hk b x (fun hm => by rw [List.mem_singleton.mp hm] at e; exact Nat.lt_irrefl _ (Heap.lt_size e)) (Heap.get?_push_of_some _ e)
noncomputable def Be : List PyData -> Option PyData
 | [.list ds] => some (.list ds)
 | [.tuple ds] => some (.list ds)
 | _ => none
noncomputable def Bx : List PyData -> Option PyData
 | [.list ds] => some (.tuple ds)
 | [.tuple ds] => some (.tuple ds)
 | _ => none
noncomputable def Ds : List PyData -> Option PyData
 | [.int i] => some (.int i)
 | [.bool b] => some (.int (if b then 1 else 0))
 | _ => none
theorem Pu : R0 X (.type "list") (rCD Be) := by
 intro pins s Z H xs us Q I r ⟨G, ds, d, hG, rl, e, q⟩
 unfold Be at e
 split at e
 . rename_i ys
   cases e; obtain ⟨v, rfl, a, vs, rfl, h1, l1⟩ := Cf rl; exact Du pins s Z H _ us Q I r ⟨a, vs, rfl, .inl (.inl (Rd.mono hG h1)), fun l hl => q _ (upd G l (.lst vs)) _ (Grow.new hG hl) ⟨l, vs, rfl, .inl B3, l1.mono (Same.upd (hG.free hl))⟩⟩
 . rename_i ys
   cases e; obtain ⟨v, rfl, a, vs, rfl, h1, l1⟩ := Cf rl; exact Du pins s Z H _ us Q I r ⟨a, vs, rfl, .inr (.inl (.inl (hG _ _ h1))), fun l hl => q _ (upd G l (.lst vs)) _ (Grow.new hG hl) ⟨l, vs, rfl, .inl B3, l1.mono (Same.upd (hG.free hl))⟩⟩
 . cases e
theorem Rl : R0 X (.type "tuple") (rCD Bx) := by
 intro pins s Z H xs us Q I r ⟨G, ds, d, hG, rl, e, q⟩
 unfold Bx at e
 split at e
 . rename_i ys
   cases e; obtain ⟨v, rfl, a, vs, rfl, h1, l1⟩ := Cf rl; exact Bz pins s Z H _ us Q I r ⟨a, vs, rfl, .inl ⟨.inl (Rd.mono hG h1), fun l hl => q _ (upd G l (.tup vs)) _ (Grow.new hG hl) ⟨l, vs, rfl, B3, l1.mono (Same.upd (hG.free hl))⟩⟩⟩
 . rename_i ys
   cases e; obtain ⟨v, rfl, a, vs, rfl, h1, l1⟩ := Cf rl; exact Bz pins s Z H _ us Q I r ⟨a, vs, rfl, .inr ⟨.inl (.inl (hG _ _ h1)), q _ G H (Grow.refl hG) ⟨a, vs, rfl, h1, l1⟩⟩⟩
 . cases e
theorem Rq : R0 X (.type "int") (rCD Ds) := by
 intro pins s Z H xs us Q I r ⟨G, ds, d, hG, rl, e, q⟩
 unfold Ds at e
 split at e
 . rename_i i
   cases e; obtain ⟨v, rfl, e1⟩ := Cf rl
   cases (show _ = _ from e1)
   exact Lu pins s Z H _ us Q I r (.inl ⟨i, rfl, q _ G H (Grow.refl hG) rfl⟩)
 . rename_i b
   cases e; obtain ⟨v, rfl, e1⟩ := Cf rl
   cases (show _ = _ from e1)
   refine Lu pins s Z H _ us Q I r (.inr ⟨b, rfl, ?_⟩); have := q (.int (if b then 1 else 0)) G H (Grow.refl hG) rfl
   cases b <;> exact this
 . cases e
theorem Tr {n : Nat} (C : Cxt P w K mg base X N sc k df) (h : okGl sc "list" = true) (hm : mg "list" = none) (ha : DA X E (e :: es) n fs)
   (he : starEach (e :: es) X.env = (false, eval e X.env) :: starEach es X.env := by rfl) (hpl : (backTo pos (starEach es X.env)).any (·.1) = false := by rfl) : DE X E (.Call (.Name "list" p) (e :: es) [] pos) (vFn fs Be) :=
 Ji C Pu h hm (by decide +kernel) ha he hpl
theorem aK {n : Nat} (C : Cxt P w K mg base X N sc k df) (h : okGl sc "tuple" = true) (hm : mg "tuple" = none) (ha : DA X E (e :: es) n fs)
   (he : starEach (e :: es) X.env = (false, eval e X.env) :: starEach es X.env := by rfl) (hpl : (backTo pos (starEach es X.env)).any (·.1) = false := by rfl) : DE X E (.Call (.Name "tuple" p) (e :: es) [] pos) (vFn fs Bx) :=
 Ji C Rl h hm (by decide +kernel) ha he hpl
theorem aN {n : Nat} (C : Cxt P w K mg base X N sc k df) (h : okGl sc "int" = true) (hm : mg "int" = none) (ha : DA X E (e :: es) n fs)
   (he : starEach (e :: es) X.env = (false, eval e X.env) :: starEach es X.env := by rfl) (hpl : (backTo pos (starEach es X.env)).any (·.1) = false := by rfl) : DE X E (.Call (.Name "int" p) (e :: es) [] pos) (vFn fs Ds) :=
 Ji C Rq h hm (by decide +kernel) ha he hpl
noncomputable def Ea : List PyData -> Option (List Str)
 | [] => some []
 | .str b :: ds => (Ea ds).map (b :: ·)
 | _ :: _ => none
noncomputable def Pp (x : Str) : PyData -> Option PyData
 | .list ds => (Ea ds).bind fun ys => if (ys.map (·.length)).sum + ys.length * x.length <= 16777216 /\ PyData.strOk (Str.join x ys) = true /\ (Str.join x ys).length <= sizeLine then some (.str (Str.join x ys)) else none
 | _ => none
theorem Oj {G : Hp} : ∀ {ds : List PyData} {xs : List V} {us : List Value} {ys : List Str}, RepL G ds xs -> Vals xs us -> Ea ds = some ys -> StrsAre us ys
 | [], _, _, _, r, q, e => by cases (show _ = _ from r); cases q; cases e; exact .nil
 | .str b :: ds, _, _, _, r, q, e => by
   obtain ⟨x, t, rfl, h, l⟩ := r
   cases h.1
   cases q with
   | cons q qs =>
     obtain ⟨tk, rfl⟩ := q; obtain ⟨bs, e1, rfl⟩ := Option.map_eq_some_iff.mp e; exact .cons _ _ (Oj l qs e1)
 | .none :: _, _, _, _, _, _, e => by cases e
 | .int _ :: _, _, _, _, _, _, e => by cases e
 | .bool _ :: _, _, _, _, _, _, e => by cases e
 | .list _ :: _, _, _, _, _, _, e => by cases e
 | .tuple _ :: _, _, _, _, _, _, e => by cases e
 | .dict _ :: _, _, _, _, _, _, e => by cases e
theorem dA : MtR X "str.join" (fun x vs H Q => ∃ G z v d r, Same G H /\ x = .str z /\ vs = [v] /\ Rep G d v /\ Pp z d = some (.str r) /\ Q (.str r) H) := by
 intro pins s Z H x vs v us Q I rx rv ⟨G, z, y, d, r, hG, e1, e2, rd, e, q⟩
 subst e1 e2
 obtain ⟨t, rfl⟩ := rx
 obtain ⟨u, rfl, ru⟩ := rv.one
 cases d with
 | list ds =>
   obtain ⟨ys, e3, e4⟩ := Option.bind_eq_some_iff.mp e
   split at e4
   . rename_i hc
     cases e4; obtain ⟨l, xs, rfl, h1, l1⟩ := rd; cases ru; obtain ⟨zz, its, n, rv2, e5⟩ := O7 I hG h1; refine join_list ⟨_, e5, rfl, n, rfl⟩ (by simpa using Oj l1 rv2 e3) hc.1 fun t' k => ⟨.str _, H, I.tok _, ⟨t', ?_⟩, q⟩
     rw [eq_of_beq (join_plain_closes z ys)]
   . cases e4
 | _ => cases e
noncomputable def Wu (x : Str) (f : Dn -> Res PyData) : Dn -> Res PyData := fun δ => (f δ).bind fun d => ofO (Pp x d)
theorem Wd {z : Str} {d d' : PyData} (e : Pp z d = some d') : ∃ r, d' = .str r /\ PyData.strOk r = true /\ r.length <= sizeLine := by
 cases d with
 | list ds =>
   obtain ⟨ys, e3, e4⟩ := Option.bind_eq_some_iff.mp e
   split at e4
   . rename_i hc; cases e4; exact ⟨_, rfl, hc.2.1, hc.2.2⟩
   . cases e4
 | _ => cases e
theorem iV {z : Str} {j : Nat} {p1 apos cpos : Pos} (ha : DE X E a f) (hbase : attributeBase (.Constant (.str z) j p1) "join" X.env (eval (.Constant (.str z) j p1) X.env) = eval (.Constant (.str z) j p1) X.env := by rfl)
   (hfew : ((backTo cpos (starEach [a] X.env)).all (fun x => !x.1) && (backToKw cpos (keywordEach [] X.env)).all (fun x => x.1.isSome)
     && decide ([a].length + ([] : List Keyword).length + (if ([] : List Keyword).isEmpty then 0 else 1) < 30)) = true := by rfl)
   (hline : (apos.endLine == cpos.line) = true := by rfl) (hs : starEach [a] X.env = (false, eval a X.env) :: starEach [] X.env := by rfl) (hplain : (backTo cpos (starEach [] X.env)).any (·.1) = false := by rfl) :
   DE X E (.Call (.Attribute (.Constant (.str z) j p1) "join" apos) [a] [] cpos) (Wu z f) := by
 refine PE.imp (Kz PySem.F.plainAttrs_str PySem.F.slot_str_join PySem.F.type_str_join dA Mw (F6 ha M9 hs) hbase hfew hline hs hplain) fun Z H Q ⟨G, δ, S, aft⟩ => ⟨rfl, ?_⟩
 refine P3 S aft fun d v G1 H1 g1 r1 S1 a1 => ?_
 cases e : Pp z d with
 | none => rw [e] at a1; exact a1.elim
 | some d' =>
   obtain ⟨r, rfl, o1, o2⟩ := Wd e; rw [e] at a1; exact ⟨G1, z, v, d, r, S1.sub, rfl, rfl, r1, e, a1 _ G1 H1 (Grow.refl S1.sub) ⟨rfl, o1, o2⟩⟩
def spD (n : Nat) (m : List PyData -> Res PyData) : Sp := fun vs H Q _ => ∃ G ds d, Same G H /\ RepL G ds vs /\ ds.length = n /\ m ds = .ok d /\ ∀ v G' H', Grow G H G' H' -> Rep G' d v -> Q v H'
structure Fn (P : Program) (w : World) (K : PySem.W.Frag) (mg : Str -> Option Value) (base : Heap) (x : Str) (k n : Nat) (m : List PyData -> Res PyData) : Prop where
 ex : ∃ f fd ps, ps.length = n /\ FnOk P w K mg base CX0 k f fd ps (spD n m) /\ mg x = some (.ref f) /\ PySem.W.keepIn K (.ref f) = true /\ Binds K fd ps []
def E0k : EK := fun _ _ => False
noncomputable def B7 (fs : Dn -> Res (List PyData)) (m : List PyData -> Res PyData) : Dn -> Res PyData := fun δ => (fs δ).bind m
theorem D8 {x : Str} {j n : Nat} {m : List PyData -> Res PyData} (C : Cxt P w K mg base X N sc k df) (F : Fn P w K mg base x j n m) (hj : j <= k) (h : okGl sc x = true) (ha : DA X E0k (e :: es) n fs)
   (he : starEach (e :: es) X.env = (false, eval e X.env) :: starEach es X.env := by rfl) (hpl : (backTo pos (starEach es X.env)).any (·.1) = false := by rfl) : DE X E0k (.Call (.Name x p) (e :: es) [] pos) (B7 fs m) := by
 obtain ⟨f, fd, ps, hps, F, hm, hk, hb⟩ := F.ex
 obtain ⟨h1, h2, h3⟩ := okGl.gl C h
 have F' : FnOk X.prog X.w X.K X.mg X.base CX0 j f fd ps (spD n m) := by rw [C.hP, C.hw, C.hK, C.hmg, C.hb]; exact F
 refine PE.imp (Dh F' (C.room.mono hj) h1 (by rw [C.hmg]; exact hm) (by rw [C.hK]; exact hk) (by rw [C.hK]; exact hb) .nil (Ss (X := X)) ha.pa h2 he hpl) fun Z H Q ⟨G, δ, S, aft⟩ => ?_
 refine P4 (W := fun G H r => Aft E0k G H r Q) S aft (fun g a => Aft.grow g a) (fun c a => a) (fun a => a) fun ds vs G1 H1 e g1 r1 S1 a1 => ?_
 rw [List.append_nil]
 cases q : m ds with
 | ok d => rw [q] at a1; exact ⟨G1, ds, d, S1.sub, r1, ha.len δ ds e, q, a1⟩
 | exc c => rw [q] at a1; exact (a1 G1 H1 (Grow.refl S1.sub)).elim
 | no => rw [q] at a1; exact a1.elim
end
end Sm
end
section
namespace Sm
open PySem PySem.Spec PyProof.Rows L2
def Its (z : Str) : It := ⟨fun i _ => i < z.cps.size, fun i H x H' => H' = H /\ ∃ c, z.cps[i]? = some c /\ x = .str ⟨#[c]⟩, fun i _ => z.cps.size <= i⟩
theorem Qk {P : Program} {w : World} {K : PySem.W.Frag} {tg : Expr} (it : Addr) (z : Str) (t : Tok) : Turn P w K tg (Its z) [it] it (fun i h => h.IsStrIter it "str_ascii_iterator" z t i) where
 mem := by simp
 obj := fun i h st b hb => by
   have e : b = it := by simpa using hb
   subst e; obtain ⟨o, e, c, d⟩ := st; exact ⟨o, e, fun v z => by rw [d] at z; cases z⟩
 keep := fun i h h' st k => by
   obtain ⟨o, e, c, d⟩ := st; exact ⟨o, k it (by simp) o e, c, d⟩
 item := by
   intro X hP hw hK hc i pins s Z H E I hf st hg; subst hP hw hK; obtain ⟨f0, f1, f2, f3, f4, f5⟩ := hf it (by simp)
   have hi : i < z.cps.size := hg; refine wpAny_pyNext_ascii_item st (c := z.cps[i]) (by simp [hi]) fun h' st' sb => ?_
   have I1 : Inv X pins Z H { s with heap := h', toks := s.toks + 1 } := I.turned (fun b o hb e => (sb.2 b hb).trans e) f0 f1 f3 f4 f5
   obtain ⟨o, e, c, d⟩ := id st'; exact ⟨_, rfl, Jd (s := { s with heap := h', toks := s.toks + 1 }) e c d (by decide) ⟨.str ⟨#[z.cps[i]]⟩, H, I1, ⟨_, rfl⟩, ⟨rfl, _, by simp [hi], rfl⟩, st', fun b hb => (hf b hb).1⟩⟩
 done := by
   intro X hP hw hK hc i pins s Z H E I hf st hg; subst hP hw hK; obtain ⟨f0, f1, f2, f3, f4, f5⟩ := hf it (by simp)
   have hi : z.cps.size <= i := hg; exact wpAny_pyNext_ascii_end (I.ok.hd hc) st (by simpa using hi) fun h' eb => ⟨rfl, I.turned (t' := s.toks) (fun b o hb e => eb b o hb e) f0 f1 f3 f4 f5⟩
 self := fun _ _ _ _ _ st h => wpAny_pyIter_striter_ascii st h
theorem Ul {P : Program} {w : World} {K : PySem.W.Frag} {tg : Expr} (it : Addr) (z : Str) (t : Tok) : Turn P w K tg (Its z) [it] it (fun i h => h.IsStrIter it "str_iterator" z t i) where
 mem := by simp
 obj := fun i h st b hb => by
   have e : b = it := by simpa using hb
   subst e; obtain ⟨o, e, c, d⟩ := st; exact ⟨o, e, fun v z => by rw [d] at z; cases z⟩
 keep := fun i h h' st k => by
   obtain ⟨o, e, c, d⟩ := st; exact ⟨o, k it (by simp) o e, c, d⟩
 item := by
   intro X hP hw hK hc i pins s Z H E I hf st hg; subst hP hw hK; obtain ⟨f0, f1, f2, f3, f4, f5⟩ := hf it (by simp)
   have hi : i < z.cps.size := hg; refine wpAny_pyNext_wide_item st (c := z.cps[i]) (by simp [hi]) fun h' st' sb => ?_
   have I1 : Inv X pins Z H { s with heap := h', toks := s.toks + 1 } := I.turned (fun b o hb e => (sb.2 b hb).trans e) f0 f1 f3 f4 f5
   obtain ⟨o, e, c, d⟩ := id st'; exact ⟨_, rfl, Jd (s := { s with heap := h', toks := s.toks + 1 }) e c d (by decide) ⟨.str ⟨#[z.cps[i]]⟩, H, I1, ⟨_, rfl⟩, ⟨rfl, _, by simp [hi], rfl⟩, st', fun b hb => (hf b hb).1⟩⟩
 done := by
   intro X hP hw hK hc i pins s Z H E I hf st hg; subst hP hw hK; obtain ⟨f0, f1, f2, f3, f4, f5⟩ := hf it (by simp)
   have hi : z.cps.size <= i := hg; exact wpAny_pyNext_wide_end (I.ok.hd hc) st (by simpa using hi) fun h' eb => ⟨rfl, I.turned (t' := s.toks) (fun b o hb e => eb b o hb e) f0 f1 f3 f4 f5⟩
 self := fun _ _ _ _ _ st h => wpAny_pyIter_striter_wide st h
def Ite (K : PySem.W.Frag) (a : Addr) : It :=
 ⟨fun i H => ∃ xs x, SqL K H a xs /\ xs[i]? = some x, fun i H x H' => ∃ p y, H p = none /\ x = .ref p /\ H' = upd H p (.tup [.int i, y]) /\ ∀ xs, SqL K H a xs -> xs[i]? = some y, fun i H => ∃ xs, SqL K H a xs /\ xs.length <= i⟩
theorem Uq {P : Program} {w : World} {K : PySem.W.Frag} {elts : List Expr} {x1 : Nat} {tp : Pos} (a e it : Addr) (hne : e ≠ it) : Turn P w K (.Tuple elts x1 tp) (Ite K a) [e, it] e (fun i h => (∃ old, IsEnum h e it (i : Int) old) /\ h.IsListIter it a i) where
 mem := by simp
 obj := fun i h st b hb => by
   obtain ⟨⟨old, h1⟩, o, h2, c, d⟩ := st; rcases List.mem_cons.mp hb with rfl | hb
   . exact ⟨_, h1, fun v z => by cases z⟩
   . have e' : b = it := by simpa using hb
     subst e'; exact ⟨o, h2, fun v z => by rw [d] at z; cases z⟩
 keep := fun i h h' st k => by
   obtain ⟨⟨old, h1⟩, o, h2, c, d⟩ := st; exact ⟨⟨old, k e (by simp) _ h1⟩, o, k it (by simp) o h2, c, d⟩
 item := by
   intro X hP hw hK hc i pins s Z H E I hf st hg; subst hP hw hK; obtain ⟨⟨old, he⟩, st⟩ := st; obtain ⟨xs, x, hq, hx⟩ := hg; obtain ⟨its, rv, p, hz⟩ := I.list hq; obtain ⟨u, hu, ru⟩ := rv.get hx; obtain ⟨f0, f1, f2, f3, f4, f5⟩ := hf e (by simp)
   obtain ⟨g0, g1, g2, g3, g4, g5⟩ := hf it (by simp)
   refine wpAny_pyNext_enum_item he st p.isList (x := u) (by simpa using hu) hne fun h' he' st' ht' hsz kp => ?_
   refine ⟨_, rfl, wpAny_letOwnedTupleGo_enum he' fun h2 he2 sb => ?_⟩
   have hfr : H s.heap.objs.size = none := I.fresh; have elt : e < s.heap.objs.size := Heap.lt_size he; have ilt : it < s.heap.objs.size := by obtain ⟨o, h, _⟩ := st; exact Heap.lt_size h
   have kp2 : ∀ b o, b ≠ e -> b ≠ it -> s.heap.get? b = some o -> h2.get? b = some o := fun b o h1 h3 q => (sb.2 b h1).trans (kp b o h1 h3 q)
   have I1 : Inv X pins Z H { s with heap := h2, toks := s.toks + 1 } := by
     refine I.step (g' := s.gens) (d' := s.drawn) (ch := [e, it]) (fun b hb => ?_) (fun b o _ _ hcb q _ => kp2 b o (fun z => hcb (by simp [z])) (fun z => hcb (by simp [z])) q) (fun b o _ _ hcb q _ => ⟨o.slots, kp2 b o (fun z => hcb (by simp [z])) (fun z => hcb (by simp [z])) q⟩) (fun _ _ _ _ n => n)
       (fun b o hcb q => ⟨o, kp2 b o (fun z => hcb (by simp [z])) (fun z => hcb (by simp [z])) q⟩) (fun _ _ q => q) (fun _ _ _ q => q) (fun b ps q => ⟨#[], by rw [q]; simp⟩) (fun m hm => ?_) (fun b u' q => ?_) I.bare
     . rcases List.mem_cons.mp hb with rfl | hb
       . exact ⟨f3, f1, f4, f5⟩
       . have e' : b = it := by simpa using hb
         subst e'; exact ⟨g3, g1, g4, g5⟩
     . obtain ⟨o, es, ep, ho, r⟩ := hm
       exact ⟨o, es, ep, kp2 _ o (Ne.symm f1) (Ne.symm g1) ho, r⟩
     . refine (I.hok b u' q).stay (fun c v hcc q' => kp2 c v ?_ ?_ q') (fun _ q' => q') fun _ _ q' => q'
       . rintro rfl
         rcases hcc with z | z
         . subst z; rw [f0] at q; cases q
         . rw [f0] at z; cases z
       . rintro rfl
         rcases hcc with z | z
         . subst z; rw [g0] at q; cases q
         . rw [g0] at z; cases z
   have htt : h2.get? s.heap.objs.size = some { cls := .type "tuple", data := .seq #[.int i s.toks, u] } := (sb.2 _ (Nat.ne_of_gt elt)).trans ht'; have Hold : ∀ b o, H b = some o -> b ≠ s.heap.objs.size := fun b o q z => by subst z; rw [hfr] at q; cases q
   have I2 : Inv X pins Z (upd H s.heap.objs.size (.tup [.int i, x])) { s with heap := h2, toks := s.toks + 1 } := by
     have nb : ∀ b o, b ≠ s.heap.objs.size -> s.heap.get? b = some o -> True := fun _ _ _ _ => trivial
     have base' : Un X.fs X.ex X.H₀ (upd H s.heap.objs.size (.tup [.int i, x])) X.s₀.heap h2 := by
       have B := I1.base; have ne0 : ∀ b o, X.s₀.heap.get? b = some o -> b ≠ s.heap.objs.size := fun b o q => Nat.ne_of_lt (Nat.lt_of_lt_of_le (Heap.lt_size q) I.sz)
       exact ⟨B.keep, B.slot, fun b o q n hx => by rw [A8 (ne0 b o q)]; exact B.free b o q n hx, B.there,
         fun b ys q => by rw [A8 (Hold b _ (B.tups b ys q))]; exact B.tups b ys q, fun b o' u' q => by rw [A8 (Hold b _ (B.frzs b o' u' q))]; exact B.frzs b o' u' q,
         fun b ps q => by obtain ⟨m, q'⟩ := B.tbls b ps q; exact ⟨m, by rw [A8 (Hold b _ q')]; exact q'⟩⟩
     have hok' : HOk X.prog X.w (upd H s.heap.objs.size (.tup [.int i, x])) h2 := fun b o q => by
       by_cases hb : b = s.heap.objs.size
       . subst hb
         rw [B3] at q; cases q; refine ⟨by show 2 <= sizeLine; decide, [.int i s.toks, u], .cons ⟨_, rfl⟩ (.cons ru .nil), ⟨_, htt, rfl, 0, rfl⟩⟩
       . rw [A8 hb] at q
         exact (I1.hok b o q).stay (fun _ _ _ q' => q') (fun c q' => by rw [A8 (Hold c _ q')]; exact q') fun c ys q' => by rw [A8 (Hold c _ q')]; exact q'
     refine ⟨I1.ok, I1.os, I1.bare, base', I1.loc, I1.cell, ?_, fun y c q => ?_, fun p hp => ?_, hok', I1.len⟩
     . rw [A8 (Nat.ne_of_lt I.lt)]; exact I1.free
     . obtain ⟨v, oc, hoc, _⟩ := I.cell y c q
       rw [A8 (Nat.ne_of_lt (Heap.lt_size hoc))]; exact I1.freeC y c q
     . obtain ⟨q1, q2, q3, q4, q5⟩ := I1.pin p hp
       refine ⟨q1, ?_, q3, q4, q5⟩; rw [A8 (Nat.ne_of_lt (Heap.lt_size (I.pin p hp).1))]; exact q2
   refine ⟨.ref s.heap.objs.size, _, I2, rfl, ⟨_, x, hfr, rfl, rfl, fun ys hy => by rw [I.list_inj hy hq]; exact hx⟩, ⟨⟨_, by push_cast; exact he2⟩, ?_⟩, fun b hb => ?_⟩
   . obtain ⟨o, q, c, d⟩ := st'
     exact ⟨o, (sb.2 it (Ne.symm hne)).trans q, c, d⟩
   . rcases List.mem_cons.mp hb with rfl | hb
     . rw [A8 (Nat.ne_of_lt elt)]; exact f0
     . have e' : b = it := by simpa using hb
       subst e'; rw [A8 (Nat.ne_of_lt ilt)]; exact g0
 done := by
   intro X hP hw hK hc i pins s Z H E I hf st hg; subst hP hw hK; obtain ⟨⟨old, he⟩, st⟩ := st; obtain ⟨xs, hq, hx⟩ := hg; obtain ⟨its, rv, p, hz⟩ := I.list hq; obtain ⟨g0, g1, g2, g3, g4, g5⟩ := hf it (by simp)
   have hl := rv.length; exact wpAny_pyNext_enum_end (I.ok.hd hc) he st p.isList (by simp; omega) fun h' eb => ⟨rfl, I.turned (t' := s.toks) (fun b o hb e => eb b o hb e) g0 g1 g3 g4 g5⟩
 self := fun _ _ _ _ _ st h => by
   obtain ⟨⟨old, he⟩, _⟩ := st; exact wpAny_pyIter_enum he h
end Sm
end
section
namespace Sm
open PySem PySem.Spec PyProof.Rows L2
structure Walk (J : It) (G : Hp) (ds : List PyData) : Prop where
 go : ∀ (i : Nat) (H : Hp), i < ds.length -> Same G H -> J.go i H
 yld : ∀ (i : Nat) (d : PyData) (G2 H : Hp) (x : V) (H' : Hp), ds[i]? = some d -> Same G G2 -> Same G2 H -> J.yld i H x H' -> ∃ G3, Grow G2 H G3 H' /\ Rep G3 d x
 stop : ∀ (i : Nat) (H : Hp), ds.length <= i -> Same G H -> J.stop i H
def AftI (E : EK) (G H : Hp) (r : Res (List PyData)) (R : It -> Hp -> Prop) : Prop := match r with
 | .ok ds => ∀ J G' H', Grow G H G' H' -> Walk J G' ds -> R J H'
 | .exc c => ∀ G' H', Grow G H G' H' -> E c H'
 | .no => False
def tI (E : EK) (f : Dn -> Res (List PyData)) : TI := fun Z H R => ∃ G δ, SR G H Z δ /\ AftI E G H (f δ) R
abbrev DI (X : Cx) (E : EK) (tg e : Expr) (f : Dn -> Res (List PyData)) : Prop := PI X tg e (tI E f)
theorem AftI.grow {E : EK} {G H G' H' : Hp} {r : Res (List PyData)} {Q : It -> Hp -> Prop} (g : Grow G H G' H') (a : AftI E G H r Q) : AftI E G' H' r Q := by
 cases r with
 | ok d => exact fun v G2 H2 g2 q => a v G2 H2 (g.trans g2) q
 | exc c => exact fun G2 H2 g2 => a G2 H2 (g.trans g2)
 | no => exact a
theorem PI.imp {X : Cx} {tg e : Expr} {t t' : TI} (h : PI X tg e t) (i : ∀ Z H Q, t' Z H Q -> t Z H Q) : PI X tg e t' := fun pins s Z H Q I q => h pins s Z H Q I (i _ _ _ q)
noncomputable def Mh (x : Str) : List PyData := x.cps.toList.map fun c => .str ⟨#[c]⟩
noncomputable def E8 : PyData -> Res (List PyData)
 | .list ds => .ok ds
 | .tuple ds => .ok ds
 | .str x => .ok (Mh x)
 | _ => .no
theorem Ui {K : PySem.W.Frag} {G : Hp} {a : Addr} {xs : List V} {ds : List PyData} (h : Rd G a (.lst xs)) (l : RepL G ds xs) : Walk (Itl K a) G ds where
 go := fun i H hi hG => by
   have hi' : i < xs.length := by rw [<- l.length]; exact hi
   exact ⟨xs, xs[i], .inl (Rd.mono hG h), by simp [hi']⟩
 yld := fun i d G2 H x H' e h1 h2 hy => by
   obtain ⟨rfl, hy⟩ := hy; obtain ⟨y, e1, r⟩ := l.get e; have := hy xs (.inl (Rd.mono (h1.trans h2) h)); rw [e1] at this; cases this; exact ⟨G2, Grow.refl h2, r.mono h1⟩
 stop := fun i H hi hG => ⟨xs, .inl (Rd.mono hG h), by rw [<- l.length]; exact hi⟩
theorem Wq {K : PySem.W.Frag} {G : Hp} {a : Addr} {xs : List V} {ds : List PyData} (h : G a = some (.tup xs)) (l : RepL G ds xs) : Walk (Itt K a) G ds where
 go := fun i H hi hG => by
   have hi' : i < xs.length := by rw [<- l.length]; exact hi
   exact ⟨xs, xs[i], .inl (.inl (hG _ _ h)), by simp [hi']⟩
 yld := fun i d G2 H x H' e h1 h2 hy => by
   obtain ⟨rfl, hy⟩ := hy; obtain ⟨y, e1, r⟩ := l.get e; have := hy xs (.inl (.inl (h2 _ _ (h1 _ _ h)))); rw [e1] at this; cases this; exact ⟨G2, Grow.refl h2, r.mono h1⟩
 stop := fun i H hi hG => ⟨xs, .inl (.inl (hG _ _ h)), by rw [<- l.length]; exact hi⟩
theorem Oe {G : Hp} {z : Str} (ho : PyData.strOk z = true) : Walk (Its z) G (Mh z) where
 go := fun i H hi hG => by
   show i < z.cps.size
   simpa [Mh] using hi
 yld := fun i d G2 H x H' e h1 h2 hy => by
   obtain ⟨rfl, c, hc, rfl⟩ := hy; have e' : (z.cps.toList.map fun c => PyData.str ⟨#[c]⟩)[i]? = some d := e
   rw [List.getElem?_map, Array.getElem?_toList, hc] at e'
   cases e'; refine ⟨G2, Grow.refl h2, rfl, ?_, by show 1 <= sizeLine; decide⟩
   unfold PyData.strOk at ho ⊢
   rw [<- Array.all_toList, List.all_eq_true] at ho; have := ho c (by rw [<- Array.getElem?_toList] at hc; exact List.mem_of_getElem? hc)
   simpa using this
 stop := fun i H hi hG => by
   show z.cps.size <= i
   simpa [Mh] using hi
theorem Qg {G : Hp} (lo : Int) (n : Nat) : Walk (Itr lo n) G ((List.range n).map fun (i : Nat) => PyData.int (lo + i)) where
 go := fun i H hi hG => by
   show i < n
   simpa using hi
 yld := fun i d G2 H x H' e h1 h2 hy => by
   obtain ⟨rfl, rfl⟩ := hy; rw [List.getElem?_map] at e
   by_cases hi : i < n
   . rw [List.getElem?_range hi] at e; cases e; exact ⟨G2, Grow.refl h2, rfl⟩
   . rw [List.getElem?_eq_none (by simpa using hi)] at e; cases e
 stop := fun i H hi hG => by
   show n <= i
   simpa using hi
noncomputable def Bw (ds : List PyData) : List PyData := ds.mapIdx fun i d => .tuple [.int i, d]
theorem Uk {K : PySem.W.Frag} {G : Hp} {a : Addr} {xs : List V} {ds : List PyData} (h : Rd G a (.lst xs)) (l : RepL G ds xs) : Walk (Ite K a) G (Bw ds) where
 go := fun i H hi hG => by
   have hi' : i < xs.length := by rw [<- l.length]; simpa [Bw] using hi
   exact ⟨xs, xs[i], .inl (Rd.mono hG h), by simp [hi']⟩
 yld := fun i d G2 H x H' e h1 h2 hy => by
   obtain ⟨p, y, hp, rfl, rfl, hy⟩ := hy; unfold Bw at e; rw [List.getElem?_mapIdx] at e; obtain ⟨d0, e0, rfl⟩ := Option.map_eq_some_iff.mp e; obtain ⟨y', e1, r⟩ := l.get e0; have := hy xs (.inl (Rd.mono (h1.trans h2) h)); rw [e1] at this; cases this; refine ⟨upd G2 p (.tup [.int i, y]), Grow.new h2 hp, p, _, rfl, B3, RepL.cons rfl (RepL.cons (r.mono (h1.trans (Same.upd (h2.free hp)))) rfl)⟩
 stop := fun i H hi hG => ⟨xs, .inl (Rd.mono hG h), by rw [<- l.length]; simpa [Bw] using hi⟩
section
variable {P : Program} {w : World} {K : PySem.W.Frag} {mg : Str -> Option Value} {base : Heap} {X : Cx} {N : List Str} {sc : Scope} {k : Nat} {df : Bool} {E : EK} {pos p : Pos} {tg a b c e : Expr} {f g : Dn -> Res PyData} {fs src : Dn -> Res (List PyData)}
theorem Q6 (ha : DE X E a f) : DI X E tg a (fun δ => (f δ).bind E8) := by
 intro pins s Z H R I ⟨G, δ, S, aft⟩
 have h := Gx (R := fun v H1 => ∃ G1 d, Same G1 H1 /\ Rep G1 d v /\ AftI E G1 H1 (E8 d) R) (W := fun G H r => AftI E G H r R) S aft (fun g a => AftI.grow g a) (fun c a => a) (fun a => a) fun d v G1 H1 g1 r1 S1 a1 => ⟨G1, d, S1.sub, r1, a1⟩
 refine thn (ha pins s Z H _ I h) fun v s1 ⟨x, H1, I1, rx, G1, d, hG, rd, a1⟩ => ?_
 cases d with
 | list ds =>
   obtain ⟨p, xs, rfl, h1, l1⟩ := rd; cases rx; obtain ⟨zz, its, n, rv, e1⟩ := O7 I1 hG h1; refine wpAny_pyIter_list ⟨_, e1, rfl, n, rfl⟩ ?_; refine ⟨s1.heap.objs.size, [s1.heap.objs.size], _, _, H1, rfl, I1.kept (t' := s1.toks) fun b o e => Heap.get?_push_of_some _ e, Uo p _, ⟨_, Heap.get?_push_size _ rfl, rfl, rfl⟩, fun b hb => ?_, a1 _ G1 H1 (Grow.refl hG) (Ui h1 l1)⟩
   have e : b = s1.heap.objs.size := by simpa using hb
   subst e; exact I1.fpOk (Nat.le_refl _) I1.fresh
 | tuple ds =>
   obtain ⟨p, xs, rfl, h1, l1⟩ := rd; cases rx; obtain ⟨zz, its, rv, pt⟩ := Y8 I1 hG h1; refine wpAny_pyIter_tuple (show s1.heap.IsTuple p its.toArray from pt) ?_
   refine ⟨s1.heap.objs.size, [s1.heap.objs.size], _, _, H1, rfl, I1.kept (t' := s1.toks) fun b o e => Heap.get?_push_of_some _ e, Qi p _, ⟨_, Heap.get?_push_size _ rfl, rfl, rfl⟩, fun b hb => ?_, a1 _ G1 H1 (Grow.refl hG) (Wq h1 l1)⟩
   have e : b = s1.heap.objs.size := by simpa using hb
   subst e; exact I1.fpOk (Nat.le_refl _) I1.fresh
 | str z =>
   obtain ⟨e0, o1, l1⟩ := rd; subst e0; obtain ⟨t, rfl⟩ := rx
   cases ha : z.cps.all (· < 128)
   . refine wpAny_pyIter_wide ha ?_
     refine ⟨s1.heap.objs.size, [s1.heap.objs.size], _, _, H1, rfl, I1.kept (t' := s1.toks) fun b o e => Heap.get?_push_of_some _ e, Ul _ z t, ⟨_, Heap.get?_push_size _ rfl, rfl, rfl⟩, fun b hb => ?_, a1 _ G1 H1 (Grow.refl hG) (Oe o1)⟩
     have e : b = s1.heap.objs.size := by simpa using hb
     subst e; exact I1.fpOk (Nat.le_refl _) I1.fresh
   . refine wpAny_pyIter_ascii ha ?_
     refine ⟨s1.heap.objs.size, [s1.heap.objs.size], _, _, H1, rfl, I1.kept (t' := s1.toks) fun b o e => Heap.get?_push_of_some _ e, Qk _ z t, ⟨_, Heap.get?_push_size _ rfl, rfl, rfl⟩, fun b hb => ?_, a1 _ G1 H1 (Grow.refl hG) (Oe o1)⟩
     have e : b = s1.heap.objs.size := by simpa using hb
     subst e; exact I1.fpOk (Nat.le_refl _) I1.fresh
 | _ => exact (show False from a1).elim
noncomputable def R9 (lo hi : Int) : List PyData := (List.range (hi - lo).toNat).map fun (i : Nat) => PyData.int (lo + i)
noncomputable def Y6 : List PyData -> Res (List PyData)
 | [.int j] => if -(2 ^ 62) <= j /\ j < 2 ^ 62 then .ok (R9 0 j) else .no
 | _ => .no
theorem W2 {n : Nat} (C : Cxt P w K mg base X N sc k df) (h : okGl sc "range" = true) (hm : mg "range" = none) (ha : DA X E [a] n fs) (hs : starEach [a] X.env = [(false, eval a X.env)] := by rfl) :
   DI X E tg (.Call (.Name "range" p) [a] [] pos) (fun δ => (fs δ).bind Y6) := by
 refine PI.imp (Vd (okGl.gl C h).1 (by rw [C.hmg]; exact hm) ha.pa hs) fun Z H Q ⟨G, δ, S, aft⟩ => ?_
 refine P4 (W := fun G H r => AftI E G H r Q) S aft (fun g a => AftI.grow g a) (fun c a => a) (fun a => a) fun ds vs G1 H1 e g1 r1 S1 a1 => ?_
 unfold Y6 at a1
 split at a1
 . rename_i j
   split at a1
   . rename_i hc
     obtain ⟨v, rfl, e1⟩ := Cf r1
     cases (show _ = _ from e1)
     refine ⟨j, rfl, hc.1, hc.2, a1 _ G1 H1 (Grow.refl S1.sub) ?_⟩; have := Qg (G := G1) 0 j.toNat; unfold R9; rw [Int.sub_zero]; exact this
   . exact a1.elim
 . exact a1.elim
noncomputable def Jf : List PyData -> Res (List PyData)
 | [.list ds] => .ok (Bw ds)
 | _ => .no
theorem iO {n x1 : Nat} {elts : List Expr} {tp : Pos} (C : Cxt P w K mg base X N sc k df) (h : okGl sc "enumerate" = true) (hm : mg "enumerate" = none) (ha : DA X E [a] n fs) (he : starEach [a] X.env = (false, eval a X.env) :: starEach [] X.env := by rfl) (hpl : (backTo pos (starEach [] X.env)).any (·.1) = false := by rfl) :
   DI X E (.Tuple elts x1 tp) (.Call (.Name "enumerate" p) [a] [] pos) (fun δ => (fs δ).bind Jf) := by
 intro pins s Z H R I ⟨G, δ, S, aft⟩
 obtain ⟨h1, h2, h3⟩ := okGl.gl C h
 have hh := P4 (R := fun vs H1 => ∃ G1 ds, Same G1 H1 /\ RepL G1 ds vs /\ AftI E G1 H1 (Jf ds) R) (W := fun G H r => AftI E G H r R) S aft (fun g a => AftI.grow g a) (fun c a => a) (fun a => a) fun ds vs G1 H1 e g1 r1 S1 a1 => ⟨G1, ds, S1.sub, r1, a1⟩
 refine wpAny_Call_Name_kw (Ci I h1 (by rw [C.hmg]; exact hm) boot_enumerate ?_ h3 h2)
 refine PyProof.Rows.callWith_type1 (thn (ha.pa pos pins s Z H _ I hh) fun us s1 ⟨vs, H1, I1, rv, G1, ds, hG, rl, a1⟩ => ?_) he hpl
 unfold Jf at a1
 split at a1
 . rename_i ys
   obtain ⟨v, rfl, l, xs, rfl, q1, l1⟩ := Cf rl; obtain ⟨u, rfl, ru⟩ := Fk rv; cases ru; obtain ⟨zz, its, nn, rw', e1⟩ := O7 I1 hG q1; refine call_enumerate_list ⟨_, e1, rfl, nn, rfl⟩ fun h' he' hit hsz kp => ?_
   have I2 : Inv X pins Z H1 { s1 with heap := h' } := I1.kept (t' := s1.toks) kp; refine wpAny_pyIter_enum he' ?_; refine ⟨s1.heap.objs.size + 1, [s1.heap.objs.size + 1, s1.heap.objs.size], _, _, H1, rfl, I2, Uq l _ _ (Nat.ne_of_gt (Nat.lt_succ_self _)), ⟨⟨_, he'⟩, hit⟩, fun b hb => ?_, a1 _ G1 H1 (Grow.refl hG) (Uk q1 l1)⟩
   rcases List.mem_cons.mp hb with rfl | hb
   . exact I1.fpOk (Nat.le_succ _) (I1.hok.fresh (Nat.le_succ _))
   . have e : b = s1.heap.objs.size := by simpa using hb
     subst e; exact I1.fpOk (Nat.le_refl _) I1.fresh
 . exact a1.elim
noncomputable def B8 (d : PyData) : Res (List Sl) := .ok [.sh d]
noncomputable def Fs : PyData -> Res (List Sl)
 | .tuple [a, b] => .ok [.sh a, .sh b]
 | _ => .no
noncomputable def B6 (bnd : PyData -> Res (List Sl)) (δc : Dn) (tt : Dn -> Res Bool) (el : Dn -> Res PyData) : List PyData -> Res (List PyData)
 | [] => .ok []
 | d :: ds => match bnd d with
   | .ok sl => match tt (sl ++ δc) with
     | .ok true => match el (sl ++ δc) with
       | .ok y => match B6 bnd δc tt el ds with
         | .ok r => .ok (y :: r)
         | _ => .no
       | _ => .no
     | .ok false => B6 bnd δc tt el ds
     | _ => .no
   | _ => .no
noncomputable def Bg (δ : Dn) (cap : List Nat) : Dn := cap.map fun j => δ[j]?.getD .un
noncomputable def E6 (src : Dn -> Res (List PyData)) (bnd : PyData -> Res (List Sl)) (cap : List Nat) (tt : Dn -> Res Bool) (el : Dn -> Res PyData) : Dn -> Res (List PyData) := fun δ => (src δ).bind fun ds => if ds.length <= sizeLine then B6 bnd (Bg δ cap) tt el ds else .no
def GOk (g : TG) (m : Nat) (bnd : PyData -> Res (List Sl)) : Prop := ∀ (G H : Hp) (d : PyData) (x : V) (sl : List Sl) (τ : St) (Q : St -> Hp -> Prop), Same G H -> Rep G d x -> bnd d = .ok sl -> (∀ vs : List V, vs.length = m -> sl.length = m -> (∀ (i : Nat) s, sl[i]? = some s -> SlOk G H (vs[i]?) s /\ ∃ d, s = .sh d) -> Q (vs.map some ++ τ) H) -> g x (List.replicate m none ++ τ) H Q
theorem gok1 : GOk (X2 0) 1 B8 := by
 intro G H d x sl τ Q hG r e h
 cases e
 exact h [x] rfl rfl fun i s hs => by
   cases i with
   | zero => cases hs; exact ⟨⟨x, rfl, r⟩, d, rfl⟩
   | succ i => simp at hs
theorem gok2 : GOk (iP K 2 (Pi (X2 0) (Pi (X2 1) iQ))) 2 Fs := by
 intro G H d x sl τ Q hG r e h
 cases d with
 | tuple ds =>
   match ds, e with
   | [a, b], e =>
     cases e; obtain ⟨p, xs, rfl, h1, l1⟩ := r; obtain ⟨v, v', rfl, r1, r2⟩ := rep2 l1; refine ⟨p, _, rfl, .inl (.inl (hG _ _ h1)), rfl, v, [v'], rfl, v', [], rfl, rfl, ?_⟩; exact h [v, v'] rfl rfl fun i s hs => by
       match i with
       | 0 => cases hs; exact ⟨⟨v, rfl, r1⟩, a, rfl⟩
       | 1 => cases hs; exact ⟨⟨v', rfl, r2⟩, b, rfl⟩
       | i + 2 => simp at hs
 | _ => cases e
theorem SR.cap {G H : Hp} {Z : St} {δ : Dn} (S : SR G H Z δ) (cap : List Nat) (hnd : cap.Nodup) {vs : List V} {sl : List Sl} (hv : vs.length = sl.length) (h : ∀ (i : Nat) s, sl[i]? = some s -> SlOk G H (vs[i]?) s /\ ∃ d, s = .sh d) : SR G H (vs.map some ++ Q9 Z cap) (sl ++ Bg δ cap) := by
 have hlt : ∀ i, i < sl.length -> (vs.map some ++ Q9 Z cap)[i]? = (vs[i]?).map some := fun i hi => by
   rw [List.getElem?_append_left (by rw [List.length_map, hv]; exact hi), List.getElem?_map]
 have hge : ∀ i, ¬ i < sl.length -> (vs.map some ++ Q9 Z cap)[i]? = (cap[i - sl.length]?).map fun j => Z[j]?.join := fun i hi => by
   rw [List.getElem?_append_right (by rw [List.length_map, hv]; omega)]
   unfold Q9; rw [List.getElem?_map, List.length_map, hv]
 have hd : ∀ i, ¬ i < sl.length -> (sl ++ Bg δ cap)[i]? = (cap[i - sl.length]?).map fun j => δ[j]?.getD .un := fun i hi => by
   rw [List.getElem?_append_right (by omega)]; unfold Bg; rw [List.getElem?_map]
 refine ⟨S.sub, by simp [hv, Q9, Bg], fun i s e => ?_, fun i j a d d' ei ej hi hj => ?_⟩
 . by_cases hi : i < sl.length
   . rw [List.getElem?_append_left hi] at e
     rw [hlt i hi]; have := (h i s e).1
     cases q : vs[i]? with
     | none => rw [q] at this; exact this
     | some v => rw [q] at this; exact this
   . rw [hd i hi] at e
     rw [hge i hi]
     cases q : cap[i - sl.length]? with
     | none => rw [q] at e; cases e
     | some j =>
       rw [q] at e; simp only [Option.map_some, Option.some.injEq] at e; subst e; show SlOk G H (some (Z[j]?.join)).join _
       cases q2 : δ[j]? with
       | none => trivial
       | some s => exact S.sl j s q2
 . have key : ∀ i d, (sl ++ Bg δ cap)[i]? = some (.ow d) -> ¬ i < sl.length /\ ∃ j, cap[i - sl.length]? = some j /\ δ[j]? = some (.ow d) := fun i d e => by
     have hi : ¬ i < sl.length := fun hi => by
       rw [List.getElem?_append_left hi] at e; obtain ⟨_, d', z⟩ := h i _ e; cases z
     refine ⟨hi, ?_⟩; rw [hd i hi] at e
     cases q : cap[i - sl.length]? with
     | none => rw [q] at e; cases e
     | some j =>
       rw [q] at e; simp only [Option.map_some, Option.some.injEq] at e; refine ⟨j, rfl, ?_⟩
       cases q2 : δ[j]? with
       | none => rw [q2] at e; cases e
       | some s => rw [q2] at e; cases e; rfl
   obtain ⟨n1, j1, c1, o1⟩ := key i d ei; obtain ⟨n2, j2, c2, o2⟩ := key j d' ej; rw [hge i n1, c1] at hi; rw [hge j n2, c2] at hj; have hi' : Z[j1]?.join = some (.ref a) := hi; have hj' : Z[j2]?.join = some (.ref a) := hj; have := S.ap j1 j2 a d d' o1 o2 hi' hj'; subst this; have := (List.getElem?_inj (List.getElem?_eq_some_iff.mp c1).1 hnd).mp (c1.trans c2.symm); omega
theorem Zo (xs : List Str) : xs.map (fun _ => (none : Option V)) = List.replicate xs.length none := by
 induction xs with
 | nil => rfl
 | cons a t ih => rw [List.map_cons, ih]; rfl
theorem Mf {xs : List Str} {cap : List Nat} {g : TG} {m : Nat} {bnd : PyData -> Res (List Sl)} {tt : Dn -> Res Bool} {el : Dn -> Res PyData} (hx : xs.length = m) (hnd : cap.Nodup) (hg : GOk g m bnd) {Z : St} {H : Hp} {Q : VK} (h : tF E (E6 src bnd cap tt el) Z H Q) :
   Kt (tI E src) (fun Z => xs.map (fun _ => none) ++ Q9 Z cap) g (tT E0k tt) (tD E0k el) Z H Q := by
 obtain ⟨G, δ, S, aft⟩ := h
 refine ⟨G, δ, S, ?_⟩
 unfold E6 at aft
 cases e : src δ with
 | exc c => rw [e] at aft; exact aft
 | no => rw [e] at aft; exact aft
 | ok ds =>
   rw [e] at aft; intro J G1 H1 g1 W D hD; have aft1 : bC E G H (if ds.length <= sizeLine then B6 bnd (Bg δ cap) tt el ds else .no) Q := aft
   by_cases hz : ds.length <= sizeLine
   . rw [if_pos hz] at aft1
     have S1 := S.grow g1; have hmap : xs.map (fun _ => (none : Option V)) = List.replicate m none := by rw [<- hx]; exact Zo xs
     refine ⟨fun i n H' => n = ds.length - i /\ i <= ds.length /\ ∃ G' acc yd, Grow G1 H1 G' H' /\ G' D = none /\ H' D = some (.lst acc) /\ RepL G' yd acc /\ yd.length <= i /\
       bC E G H (match B6 bnd (Bg δ cap) tt el (ds.drop i) with | .ok r => .ok (yd ++ r) | _ => .no) Q, ⟨_, rfl, Nat.zero_le _, G1, [], [], Grow.own g1.gh hD, g1.gh.free hD, B3, rfl, Nat.le_refl _, ?_⟩, ?_⟩
     . rw [List.drop_zero]
       cases q : B6 bnd (Bg δ cap) tt el ds with
       | ok r => rw [q] at aft1; exact aft1
       | exc c =>
         exfalso
         have : ∀ l c, B6 bnd (Bg δ cap) tt el l ≠ .exc c := by
           intro l c
           induction l with
           | nil => intro z; cases z
           | cons d l ih =>
             unfold B6; intro z
             split at z
             . split at z
               . split at z
                 . split at z <;> cases z
                 . cases z
               . exact ih z
               . cases z
             . cases z
         exact this ds c q
       | no => rw [q] at aft1; exact aft1
     . rintro i n H' ⟨rfl, hi, G', acc, yd, g2, nD, hDa, ry, hyl, aft2⟩
       by_cases hlt : i < ds.length
       . refine .inr ⟨W.go i H' hlt (g2.g.trans g2.gh), fun H'' => ∃ n', n' < ds.length - i /\ (n' = ds.length - (i + 1) /\ i + 1 <= ds.length /\ ∃ G' acc yd, Grow G1 H1 G' H'' /\ G' D = none /\ H'' D = some (.lst acc) /\ RepL G' yd acc /\ yd.length <= i + 1 /\
           bC E G H (match B6 bnd (Bg δ cap) tt el (ds.drop (i + 1)) with | .ok r => .ok (yd ++ r) | _ => .no) Q), fun H'' q => ?_, fun x H'' hy => ?_⟩
         . obtain ⟨n', h1, h2⟩ := q
           exact ⟨n', h1, h2⟩
         . have hd : ds[i]? = some ds[i] := List.getElem?_eq_getElem hlt
           have hdrop : ds.drop i = ds[i] :: ds.drop (i + 1) := List.drop_eq_getElem_cons hlt; obtain ⟨G3, g3, r3⟩ := W.yld i _ G' H' x H'' hd g2.g g2.gh hy; have g13 := g2.trans g3; have nD3 : G3 D = none := by
             cases q : G3 D with
             | none => rfl
             | some u => rcases g3.fr D u q with z | z | ⟨xs, rfl⟩
                         . rw [nD] at z; cases z
                         . rw [hDa] at z; cases z
                         . have := g3.gh _ _ q; rw [g3.h _ _ hDa] at this; cases this
           rw [hdrop] at aft2; unfold B6 at aft2; rw [hmap]
           cases eb : bnd ds[i] with
           | exc c => rw [eb] at aft2; exact aft2.elim
           | no => rw [eb] at aft2; exact aft2.elim
           | ok sl =>
             rw [eb] at aft2; refine hg G3 H'' _ x sl _ _ g3.gh r3 eb fun vs hv hs hsl => ⟨⟨by rw [List.length_append, List.length_append, List.length_replicate, List.length_map, hv], fun j v z => ?_⟩, ?_⟩
             . by_cases hj : j < m
               . rw [List.getElem?_append_left (by rw [List.length_replicate]; exact hj), List.getElem?_replicate] at z
                 split at z <;> cases z
               . rw [List.getElem?_append_right (by rw [List.length_replicate]; exact Nat.not_lt.mp hj), List.length_replicate] at z
                 rw [List.getElem?_append_right (by rw [List.length_map, hv]; exact Nat.not_lt.mp hj), List.length_map, hv]
                 exact z
             . have Sb : SR G3 H'' (vs.map some ++ Q9 Z cap) (sl ++ Bg δ cap) := (S1.grow g13).cap cap hnd (hv.trans hs.symm) hsl
               refine ⟨G3, _, Sb, ?_⟩; simp only at aft2
               cases et : tt (sl ++ Bg δ cap) with
               | exc c => rw [et] at aft2; exact aft2.elim
               | no => rw [et] at aft2; exact aft2.elim
               | ok kk =>
                 rw [et] at aft2; intro G4 H4 g4; have nD4 : G4 D = none := by
                   cases q : G4 D with
                   | none => rfl
                   | some u => rcases g4.fr D u q with z | z | ⟨xs, rfl⟩
                               . rw [nD3] at z; cases z
                               . rw [g3.h _ _ hDa] at z; cases z
                               . have := g4.gh _ _ q; rw [g4.h _ _ (g3.h _ _ hDa)] at this; cases this
                 have hD4 : H4 D = some (.lst acc) := g4.h _ _ (g3.h _ _ hDa)
                 cases kk with
                 | false =>
                   rw [if_neg (by decide)]; exact ⟨_, by omega, rfl, hlt, G4, acc, yd, g13.trans g4, nD4, hD4, ry.mono (g3.g.trans g4.g), by omega, aft2⟩
                 | true =>
                   rw [if_pos rfl]; refine ⟨G4, _, Sb.grow g4, ?_⟩; simp only at aft2
                   cases ee : el (sl ++ Bg δ cap) with
                   | exc c => rw [ee] at aft2; exact aft2.elim
                   | no => rw [ee] at aft2; exact aft2.elim
                   | ok y =>
                     rw [ee] at aft2; intro v G5 H5 g5 r5; have nD5 : G5 D = none := by
                       cases q : G5 D with
                       | none => rfl
                       | some u => rcases g5.fr D u q with z | z | ⟨xs, rfl⟩
                                   . rw [nD4] at z; cases z
                                   . rw [hD4] at z; cases z
                                   . have := g5.gh _ _ q; rw [g5.h _ _ hD4] at this; cases this
                     have hD5 : H5 D = some (.lst acc) := g5.h _ _ hD4; have hal : acc.length <= i := by rw [<- ry.length]; exact hyl
                     refine ⟨acc, hD5, by omega, _, by omega, rfl, hlt, G5, acc ++ [v], yd ++ [y], ?_, nD5, B3, ?_, by rw [List.length_append, List.length_singleton]; omega, ?_⟩
                     . have g15 := (g13.trans g4).trans g5
                       refine ⟨g15.g, fun b o q => ?_, fun b o q => ?_, g15.fr⟩
                       . rw [A8 (B5 q hD)]; exact g15.h _ _ q
                       . rw [A8 (B5 q nD5)]; exact g15.gh _ _ q
                     . exact (ry.mono (g3.g.trans (g4.g.trans g5.g))).append (RepL.cons r5 rfl)
                     . simp only at aft2
                       cases er : B6 bnd (Bg δ cap) tt el (ds.drop (i + 1)) with
                       | ok r =>
                         rw [er] at aft2; simp only [List.append_assoc, List.singleton_append]; exact aft2
                       | exc c => rw [er] at aft2; exact aft2
                       | no => rw [er] at aft2; exact aft2
       . refine .inl ⟨W.stop i H' (Nat.not_lt.mp hlt) (g2.g.trans g2.gh), ?_⟩
         have : ds.drop i = [] := List.drop_eq_nil_of_le (Nat.not_lt.mp hlt); rw [this] at aft2; unfold B6 at aft2; have aft3 : bC E G H (.ok (yd ++ [])) Q := aft2; rw [List.append_nil] at aft3; exact aft3 D acc G' H' (g1.trans g2) (g1.h.free hD) nD hDa ry
   . rw [if_neg hz] at aft1; exact aft1.elim
end
end Sm
end
section
namespace Sm
open PySem PySem.Spec PyProof.Rows L2
noncomputable def Z5 (cells : List (Str × Addr)) : List (Str × NameKind) -> List (Str × Addr) -> List (Str × Addr)
 | [], cs => cs
 | (n, kd) :: r, cs => if kd == .free then Z5 cells r ((n, (cells.lookup n).getD 0) :: cs) else Z5 cells r cs
theorem Jq {env : Env} : ∀ (names : List (Str × NameKind)) (cs : List (Str × Addr)), (∀ y ∈ names, y.2 = .free -> ∃ c, env.cells.lookup y.1 = some c) ->
   (forIn names cs fun (x : Str × NameKind) (r : List (Str × Addr)) => if (x.2 == NameKind.free) = true then do let c <- cellOf env x.1; pure (ForInStep.yield ((x.1, c) :: r)) else pure (ForInStep.yield r)) = (pure (Z5 env.cells names cs) : Sem (List (Str × Addr)))
 | [], cs, _ => rfl
 | (n, kd) :: r, cs, h => by
   rw [List.forIn_cons]; have ih := fun cs => Jq r cs fun y hy => h y (List.mem_cons_of_mem _ hy)
   unfold Z5
   by_cases hk : (kd == NameKind.free) = true
   . obtain ⟨c, hc⟩ := h (n, kd) List.mem_cons_self (eq_of_beq hk)
     have hc' : cellOf env n = pure c := by unfold cellOf; rw [show env.cells.lookup n = some c from hc]
     simp only [hk, if_true, hc', pure_bind]; rw [show env.cells.lookup n = some c from hc]; exact ih _
   . simp only [hk, if_false, pure_bind]
     exact ih _
theorem An {cells : List (Str × Addr)} : ∀ {names : List (Str × NameKind)} {cs : List (Str × Addr)} {y : Str × Addr}, y ∈ Z5 cells names cs -> y ∈ cs \/ ((y.1, NameKind.free) ∈ names /\ y.2 = (cells.lookup y.1).getD 0)
 | [], cs, y, h => .inl h
 | (n, kd) :: r, cs, y, h => by
   unfold Z5 at h
   by_cases hk : (kd == NameKind.free) = true
   . rw [if_pos hk] at h
     have hk' := eq_of_beq hk; subst hk'; rcases An h with z | ⟨z1, z2⟩
     . rcases List.mem_cons.mp z with rfl | z
       . exact .inr ⟨List.mem_cons_self, rfl⟩
       . exact .inl z
     . exact .inr ⟨List.mem_cons_of_mem _ z1, z2⟩
   . rw [if_neg hk] at h
     rcases An h with z | ⟨z1, z2⟩
     . exact .inl z
     . exact .inr ⟨List.mem_cons_of_mem _ z1, z2⟩
theorem Ao {cells : List (Str × Addr)} {x : Str} : ∀ {names : List (Str × NameKind)} {cs : List (Str × Addr)}, ((x, NameKind.free) ∈ names \/ ∃ c, (x, c) ∈ cs) -> ∃ c, (x, c) ∈ Z5 cells names cs
 | [], cs, h => by
   rcases h with h | h
   . cases h
   . exact h
 | (n, kd) :: r, cs, h => by
   unfold Z5
   by_cases hk : (kd == NameKind.free) = true
   . rw [if_pos hk]
     refine Ao ?_; rcases h with h | ⟨c, h⟩
     . rcases List.mem_cons.mp h with q | q
       . cases q; exact .inr ⟨_, List.mem_cons_self⟩
       . exact .inl q
     . exact .inr ⟨c, List.mem_cons_of_mem _ h⟩
   . rw [if_neg hk]
     refine Ao ?_; rcases h with h | ⟨c, h⟩
     . rcases List.mem_cons.mp h with q | q
       . cases q; exact absurd rfl hk
       . exact .inl q
     . exact .inr ⟨c, h⟩
theorem P7 {α : Type} {x : Str} {c : α} {l : List (Str × α)} (h : l.lookup x = some c) : (x, c) ∈ l := PySem.mem_of_lookup h
theorem Y9 {α : Type} {x : Str} : ∀ {l : List (Str × α)} {c : α}, (x, c) ∈ l -> ∃ c', l.lookup x = some c'
 | [], _, h => by cases h
 | (n, d) :: r, c, h => by
   rw [List.lookup_cons]
   cases q : x == n with
   | true => exact ⟨d, rfl⟩
   | false =>
     rcases List.mem_cons.mp h with z | z
     . cases z; simp at q
     . exact Y9 z
theorem dZ {X : Cx} (ok : X.Ok) {scope : Scope} (hnc : ∀ y ∈ scope.names, y.2 ≠ .cell) (hfree : ∀ y ∈ scope.names, y.2 = .free -> X.env.scope.names.lookup y.1 = some .cell \/ X.env.scope.names.lookup y.1 = some .free) : ∃ cl, Clos X scope cl := by
 have hc : ∀ y ∈ scope.names, y.2 = .free -> ∃ c, X.env.cells.lookup y.1 = some c := fun y hy hf => ok.has y.1 (hfree y hy hf)
 refine ⟨Z5 X.env.cells scope.names [], ⟨?_, fun x c h => ?_, fun x h => ?_⟩⟩
 . have := Jq (env := X.env) scope.names [] hc
   unfold closureFor; simp only
   rw [this]; rfl
 . rcases An (P7 h) with z | ⟨z1, z2⟩
   . cases z
   . obtain ⟨c', e⟩ := hc _ z1 rfl
     have e' : X.env.cells.lookup x = some c' := e; have z2' : c = (X.env.cells.lookup x).getD 0 := z2; rw [e'] at z2' ⊢
     rw [z2']; rfl
 . have hm : (x, NameKind.free) ∈ scope.names := by
     have key : ∀ kd, (relabel scope X.env).names.lookup x = some kd -> (kd = .cell \/ kd = .free) -> (x, NameKind.free) ∈ scope.names := fun kd hl hkd => by
       have hm := P7 hl; unfold relabel at hm; simp only [List.mem_map] at hm; obtain ⟨⟨n, k0⟩, hy, e⟩ := hm; simp only at e
       split at e
       . rename_i hc'
         cases e; have : k0 = .free := by
           rw [Bool.and_eq_true, Bool.and_eq_true] at hc'; exact eq_of_beq hc'.1.1
         subst this; exact hy
       . cases e
         rcases hkd with rfl | rfl
         . exact absurd rfl (hnc _ hy)
         . exact hy
     rcases h with h | h
     . exact key _ h (.inl rfl)
     . exact key _ h (.inr rfl)
   obtain ⟨c, hc'⟩ := Ao (cells := X.env.cells) (names := scope.names) (cs := []) (x := x) (.inl hm); exact Y9 hc'
noncomputable def okComp (N : List Str) (sc scope : Scope) (xs capN : List Str) (cap : List Nat) : Bool :=
 decide (scope.kind = .function) && scope.names.all (fun y => decide (y.2 ≠ .cell)) && scope.names.all (fun y => decide (y.2 = .local -> scope.names.lookup y.1 = some .local)) &&
 scope.names.all (fun y => decide (y.2 = .free -> sc.names.lookup y.1 = some .cell \/ sc.names.lookup y.1 = some .free)) && decide (cap.map (fun j => N[j]?) = capN.map some) &&
 capN.all (fun x => decide ((Az scope sc).names.lookup x = some .cell \/ (Az scope sc).names.lookup x = some .free)) && capN.all (fun x => decide (sc.names.lookup x = some .cell \/ sc.names.lookup x = some .free)) &&
 decide ((xs ++ capN).Nodup) && xs.all (fun x => decide ((Az scope sc).names.lookup x = some .local)) && decide (cap.Nodup)
section
variable {P : Program} {w : World} {K : PySem.W.Frag} {mg : Str -> Option Value} {base : Heap} {X : Cx} {N : List Str} {sc : Scope} {k : Nat} {df : Bool} {E : EK} {pos px : Pos} {a c elt iter : Expr} {ifs : List Expr} {f g el : Dn -> Res PyData} {src : Dn -> Res (List PyData)} {tt : Dn -> Res Bool} {scope : Scope} {capN : List Str} {cap : List Nat}
structure CompOk (N : List Str) (sc scope : Scope) (xs capN : List Str) (cap : List Nat) : Prop where
 h1 : scope.kind = .function
 h2 : ∀ y ∈ scope.names, y.2 ≠ .cell
 h3 : ∀ y ∈ scope.names, y.2 = .local -> scope.names.lookup y.1 = some .local
 h4 : ∀ y ∈ scope.names, y.2 = .free -> sc.names.lookup y.1 = some .cell \/ sc.names.lookup y.1 = some .free
 h5 : cap.map (fun j => N[j]?) = capN.map some
 h6 : ∀ x ∈ capN, (Az scope sc).names.lookup x = some .cell \/ (Az scope sc).names.lookup x = some .free
 h7 : ∀ x ∈ capN, sc.names.lookup x = some .cell \/ sc.names.lookup x = some .free
 h8 : (xs ++ capN).Nodup
 h9 : ∀ x ∈ xs, (Az scope sc).names.lookup x = some .local
 h10 : cap.Nodup
theorem okComp.ok {xs : List Str} (h : okComp N sc scope xs capN cap = true) : CompOk N sc scope xs capN cap := by
 unfold okComp at h
 simp only [Bool.and_eq_true, List.all_eq_true, decide_eq_true_eq] at h
 obtain ⟨⟨⟨⟨⟨⟨⟨⟨⟨h1, h2⟩, h3⟩, h4⟩, h5⟩, h6⟩, h7⟩, h8⟩, h9⟩, h10⟩ := h
 exact ⟨h1, h2, h3, h4, h5, h6, h7, h8, h9, h10⟩
theorem Jo {xs : List Str} (C : Cxt P w K mg base X N sc k df) (h : CompOk N sc scope xs capN cap) (ok : X.Ok) : CompFacts X scope xs capN cap := by
 refine ⟨h.h1, h.h2, h.h3, dZ ok h.h2 fun y hy hf => ?_, by rw [C.hN]; exact h.h5, fun x hx => ?_, fun x hx => ?_⟩
 . rw [C.hs]; exact h.h4 y hy hf
 . rw [Ms C.hs]; exact h.h6 x hx
 . rw [C.hs]; exact h.h7 x hx
abbrev DTs (X : Cx) (E : EK) (ifs : List Expr) (f : Dn -> Res Bool) : Prop := PTs X ifs (tT E f)
noncomputable def F8 : Dn -> Res Bool := fun _ => .ok true
theorem U2 : DTs X E [] F8 := fun pins s Z H Q I ⟨G, δ, S, a⟩ => cB pins s Z H Q I (a G H (Grow.refl S.sub))
theorem Cc (h : DT X E c tt) : DTs X E [c] tt := cA h
theorem M6 {x : Str} (C : Cxt P w K mg base X N sc k df) (cap : List Nat) (capN : List Str) (ho : okComp N sc scope [x] capN cap = true) (hi : DI X E (.Name x px) iter src)
   (ht : ∀ X', Cxt P w K mg base X' ([x] ++ capN) (Az scope sc) k false -> DTs X' E0k ifs tt) (he : ∀ X', Cxt P w K mg base X' ([x] ++ capN) (Az scope sc) k false -> DE X' E0k elt el)
   (hs : ∀ x, foldedSetIterable iter X.env x = pure x := by intro _; rfl) : DF X E (.ListComp elt [⟨.Name x px, iter, ifs, 0⟩] scope pos) (E6 src B8 cap tt el) := by
 have o := okComp.ok ho
 refine PE.imp (cI (g := X2 0) C.calm (Jo C o) hi (fun X' B => ?_) (fun X' B => ht X' (C.blk B)) (fun X' B => he X' (C.blk B)) hs) fun Z H Q h => Mf (m := 1) rfl o.h10 gok1 h
 have C' := C.blk B
 have hl : X'.env.scope.names.lookup x = some .local := by rw [C'.hs]; exact o.h9 x (by simp)
 exact Bm (by rw [C'.hN]; exact o.h8) (by rw [C'.hN]; rfl) (.inl hl) (.inr hl)
end
end Sm
end
section
namespace Sm
open PySem PySem.Spec PyProof.Rows L2
inductive Out where
 | nx (δ : Dn)
 | rt (d : PyData)
 | bk (δ : Dn)
 | ct (δ : Dn)
 | exc (c : Str)
 | no
structure SSt (G0 H0 G H : Hp) (Z : St) (δ : Dn) : Prop where
 gr : Grow G0 H0 G H
 sr : SR G H Z δ
 fr : ∀ (i : Nat) (d : PyData) (a : Addr), δ[i]? = some (.ow d) -> Z[i]?.join = some (.ref a) -> H0 a = none
theorem SSt.grow {G0 H0 G H G' H' : Hp} {Z : St} {δ : Dn} (S : SSt G0 H0 G H Z δ) (g : Grow G H G' H') : SSt G0 H0 G' H' Z δ := ⟨S.gr.trans g, S.sr.grow g, S.fr⟩
def Kb (E : EK) (G0 H0 : Hp) (o : Out) (D : Ends) : Prop := match o with
 | .nx δ => ∀ Z G H, SSt G0 H0 G H Z δ -> D.nx Z H
 | .rt d => ∀ v G H, Grow G0 H0 G H -> Rep G d v -> D.rt v H
 | .bk δ => ∀ Z G H, SSt G0 H0 G H Z δ -> D.bk Z H
 | .ct δ => ∀ Z G H, SSt G0 H0 G H Z δ -> D.ct Z H
 | .exc c => ∀ G H, Grow G0 H0 G H -> E c H
 | .no => False
def tS (E : EK) (G0 H0 : Hp) (g : Dn -> Out) : TS := fun D Z H => ∃ G δ, SSt G0 H0 G H Z δ /\ Kb E G0 H0 (g δ) D
def DS (X : Cx) (E : EK) (st : Stmt) (g : Dn -> Out) : Prop := ∀ G0 H0, PS X st (tS E G0 H0 g)
def DSs (X : Cx) (E : EK) (st : List Stmt) (g : Dn -> Out) : Prop := ∀ G0 H0, PSs X st (tS E G0 H0 g)
theorem PS.imp {X : Cx} {st : Stmt} {t t' : TS} (h : PS X st t) (i : ∀ D Z H, t' D Z H -> t D Z H) : PS X st t' := fun pins s Z H D I q => h pins s Z H D I (i _ _ _ q)
theorem PSs.imp {X : Cx} {st : List Stmt} {t t' : TS} (h : PSs X st t) (i : ∀ D Z H, t' D Z H -> t D Z H) : PSs X st t' := fun pins s Z H D I q => h pins s Z H D I (i _ _ _ q)
noncomputable def M8 {α : Type} (r : Res α) (k : α -> Out) : Out := match r with
 | .ok a => k a
 | .exc c => .exc c
 | .no => .no
theorem Ap {E : EK} {G0 H0 G H : Hp} {Z : St} {δ : Dn} {f : Dn -> Res PyData} {k : PyData -> Out} {D : Ends} {R : VK} (S : SSt G0 H0 G H Z δ) (a : Kb E G0 H0 (M8 (f δ) k) D)
   (h : ∀ d v G1 H1, Grow G H G1 H1 -> Rep G1 d v -> SSt G0 H0 G1 H1 Z δ -> Kb E G0 H0 (k d) D -> R v H1) : tD E f Z H R := by
 refine ⟨G, δ, S.sr, ?_⟩
 cases e : f δ with
 | ok d => rw [e] at a; exact fun v G' H' g r => h d v G' H' g r (S.grow g) a
 | exc c => rw [e] at a; exact fun G' H' g => a G' H' (S.gr.trans g)
 | no => rw [e] at a; exact a
theorem aZ {E : EK} {G0 H0 G H : Hp} {Z : St} {δ : Dn} {f : Dn -> Res (List PyData)} {k : List PyData -> Out} {D : Ends} {R : VK} (S : SSt G0 H0 G H Z δ) (a : Kb E G0 H0 (M8 (f δ) k) D)
   (h : ∀ ds p xs G1 H1, Grow G H G1 H1 -> H p = none -> G1 p = none -> H1 p = some (.lst xs) -> RepL G1 ds xs -> SSt G0 H0 G1 H1 Z δ -> Kb E G0 H0 (k ds) D -> R (.ref p) H1) : tF E f Z H R := by
 refine ⟨G, δ, S.sr, ?_⟩
 cases e : f δ with
 | ok d => rw [e] at a; exact fun p xs G' H' g q1 q2 q3 q4 => h d p xs G' H' g q1 q2 q3 q4 (S.grow g) a
 | exc c => rw [e] at a; exact fun G' H' g => a G' H' (S.gr.trans g)
 | no => rw [e] at a; exact a
theorem jC {E : EK} {G0 H0 G H : Hp} {Z : St} {δ : Dn} {f : Dn -> Res Bool} {k : Bool -> Out} {D : Ends} {R : Bool -> Hp -> Prop} (S : SSt G0 H0 G H Z δ) (a : Kb E G0 H0 (M8 (f δ) k) D)
   (h : ∀ d G1 H1, Grow G H G1 H1 -> SSt G0 H0 G1 H1 Z δ -> Kb E G0 H0 (k d) D -> R d H1) : tT E f Z H R := by
 refine ⟨G, δ, S.sr, ?_⟩
 cases e : f δ with
 | ok d => rw [e] at a; exact fun G' H' g => h d G' H' g (S.grow g) a
 | exc c => rw [e] at a; exact fun G' H' g => a G' H' (S.gr.trans g)
 | no => rw [e] at a; exact a
theorem jD {E : EK} {G0 H0 G H : Hp} {Z : St} {δ : Dn} {f : Dn -> Res (List PyData)} {k : List PyData -> Out} {D : Ends} {R : It -> Hp -> Prop} (S : SSt G0 H0 G H Z δ) (a : Kb E G0 H0 (M8 (f δ) k) D)
   (h : ∀ ds J G1 H1, Grow G H G1 H1 -> Walk J G1 ds -> SSt G0 H0 G1 H1 Z δ -> Kb E G0 H0 (k ds) D -> R J H1) : tI E f Z H R := by
 refine ⟨G, δ, S.sr, ?_⟩
 cases e : f δ with
 | ok d => rw [e] at a; exact fun J G' H' g q => h d J G' H' g q (S.grow g) a
 | exc c => rw [e] at a; exact fun G' H' g => a G' H' (S.gr.trans g)
 | no => rw [e] at a; exact a
theorem P9 {α : Type} {l : List α} {i j : Nat} {v : α} : (l.set i v)[j]? = if i = j /\ i < l.length then some v else l[j]? := by
 rw [List.getElem?_set]
 by_cases h : i = j
 . subst h
   by_cases hl : i < l.length
   . simp [hl]
   . simp [hl, List.getElem?_eq_none (Nat.not_lt.mp hl)]
 . simp [h]
theorem SSt.set_sh {G0 H0 G H : Hp} {Z : St} {δ : Dn} (S : SSt G0 H0 G H Z δ) {i : Nat} {v : V} {d : PyData} (r : Rep G d v) : SSt G0 H0 G H (Z.set i (some v)) (δ.set i (.sh d)) := by
 have hl := S.sr.len
 have key : ∀ (j : Nat) (d' : PyData), (δ.set i (.sh d))[j]? = some (.ow d') -> (Z.set i (some v))[j]? = Z[j]? /\ δ[j]? = some (.ow d') := fun j d' e => by
   rw [P9] at e
   split at e
   . cases e
   . rename_i hn
     refine ⟨?_, e⟩; rw [P9, if_neg (by rw [hl]; exact hn)]
 refine ⟨S.gr, ⟨S.sr.sub, by simp [hl], fun j s e => ?_, fun j1 j2 a d1 d2 e1 e2 h1 h2 => ?_⟩, fun j d' a e h => ?_⟩
 . rw [P9] at e ⊢
   rw [hl]
   split at e
   . rename_i hc; cases e; rw [if_pos hc]; exact ⟨v, rfl, r⟩
   . rename_i hc; rw [if_neg hc]; exact S.sr.sl j s e
 . obtain ⟨k1, o1⟩ := key j1 d1 e1
   obtain ⟨k2, o2⟩ := key j2 d2 e2; rw [k1] at h1; rw [k2] at h2; exact S.sr.ap j1 j2 a d1 d2 o1 o2 h1 h2
 . obtain ⟨k1, o1⟩ := key j d' e
   rw [k1] at h; exact S.fr j d' a o1 h
theorem SSt.set_ow {G0 H0 G H : Hp} {Z : St} {δ : Dn} (S : SSt G0 H0 G H Z δ) {i : Nat} {p : Addr} {d : PyData} (h0 : H0 p = none) (hg : G p = none) (ho : OwnOk G H p d) (hf : ∀ (j : Nat) d', δ[j]? = some (.ow d') -> Z[j]?.join ≠ some (.ref p)) : SSt G0 H0 G H (Z.set i (some (.ref p))) (δ.set i (.ow d)) := by
 have hl := S.sr.len
 have key : ∀ (j : Nat) (d' : PyData), (δ.set i (.ow d))[j]? = some (.ow d') -> (i = j /\ i < δ.length /\ d' = d /\ (Z.set i (some (.ref p)))[j]? = some (some (.ref p))) \/ ((Z.set i (some (.ref p)))[j]? = Z[j]? /\ δ[j]? = some (.ow d')) := fun j d' e => by
   rw [P9] at e
   split at e
   . rename_i hc; cases e; exact .inl ⟨hc.1, hc.2, rfl, by rw [P9, if_pos (by rw [hl]; exact hc)]⟩
   . rename_i hn
     refine .inr ⟨?_, e⟩; rw [P9, if_neg (by rw [hl]; exact hn)]
 refine ⟨S.gr, ⟨S.sr.sub, by simp [hl], fun j s e => ?_, fun j1 j2 a d1 d2 e1 e2 h1 h2 => ?_⟩, fun j d' a e h => ?_⟩
 . rw [P9] at e ⊢
   rw [hl]
   split at e
   . rename_i hc; cases e; rw [if_pos hc]; exact ⟨p, rfl, hg, ho⟩
   . rename_i hc; rw [if_neg hc]; exact S.sr.sl j s e
 . rcases key j1 d1 e1 with ⟨a1, b1, _, c1⟩ | ⟨k1, o1⟩
   . rcases key j2 d2 e2 with ⟨a2, b2, _, c2⟩ | ⟨k2, o2⟩
     . exact a1.symm.trans a2
     . rw [c1] at h1; cases h1
       rw [k2] at h2; exact absurd h2 (hf j2 d2 o2)
   . rcases key j2 d2 e2 with ⟨a2, b2, _, c2⟩ | ⟨k2, o2⟩
     . rw [c2] at h2; cases h2
       rw [k1] at h1; exact absurd h1 (hf j1 d1 o1)
     . rw [k1] at h1; rw [k2] at h2
       exact S.sr.ap j1 j2 a d1 d2 o1 o2 h1 h2
 . rcases key j d' e with ⟨a1, b1, _, c1⟩ | ⟨k1, o1⟩
   . rw [c1] at h; cases h; exact h0
   . rw [k1] at h; exact S.fr j d' a o1 h
theorem SSt.write {G0 H0 G H : Hp} {Z : St} {δ : Dn} (S : SSt G0 H0 G H Z δ) {i : Nat} {p : Addr} {d d' : PyData} {o : HO} (hi : δ[i]? = some (.ow d)) (hp : Z[i]?.join = some (.ref p)) (hg : G p = none) (ho : OwnOk G (upd H p o) p d') : SSt G0 H0 G (upd H p o) Z (δ.set i (.ow d')) := by
 have h0 := S.fr i d p hi hp
 have hil : i < δ.length := (List.getElem?_eq_some_iff.mp hi).1
 have hsub : Same G (upd H p o) := fun b u e => by rw [A8 (B5 e hg)]; exact S.sr.sub _ _ e
 have key : ∀ (j : Nat) (e : PyData), (δ.set i (.ow d'))[j]? = some (.ow e) -> ∃ e', δ[j]? = some (.ow e') := fun j e h => by
   rw [P9] at h
   split at h
   . rename_i hc; rw [<- hc.1]; exact ⟨d, hi⟩
   . exact ⟨e, h⟩
 refine ⟨⟨S.gr.g, fun b u e => by rw [A8 (B5 e h0)]; exact S.gr.h _ _ e, hsub, S.gr.fr⟩, ⟨hsub, by simp [S.sr.len], fun j s e => ?_, fun j1 j2 a d1 d2 e1 e2 h1 h2 => ?_⟩, fun j e a h1 h2 => ?_⟩
 . rw [P9] at e
   split at e
   . rename_i hc; cases e; rw [<- hc.1]; exact ⟨p, hp, hg, ho⟩
   . rename_i hc
     have hs := S.sr.sl j s e
     cases s with
     | un => trivial
     | sh d => exact hs
     | fd _ => exact hs
     | ow d2 =>
       obtain ⟨a, e1, n1, ok⟩ := hs; refine ⟨a, e1, n1, ?_⟩; have hne : a ≠ p := by
         rintro rfl
         exact hc ⟨S.sr.ap i j a d d2 hi e hp e1, hil⟩
       cases d2 with
       | list ds => obtain ⟨xs, q, r⟩ := ok; exact ⟨xs, by rw [A8 hne]; exact q, r⟩
       | dict kvs => obtain ⟨xs, q, r⟩ := ok; exact ⟨xs, by rw [A8 hne]; exact q, r⟩
       | tuple xs => exact OwnK.keep (Same.refl _) (fun o q => by rw [A8 hne]; exact q) ok
       | _ => exact (show False from ok).elim
 . obtain ⟨e1', o1⟩ := key j1 d1 e1
   obtain ⟨e2', o2⟩ := key j2 d2 e2; exact S.sr.ap j1 j2 a _ _ o1 o2 h1 h2
 . obtain ⟨e', o1⟩ := key j e h1
   exact S.fr j e' a o1 h2
noncomputable def fz (i : Nat) (δ : Dn) : Dn := match δ[i]? with
 | some (.ow (.list ds)) => δ.set i (.sh (.list ds))
 | _ => δ
theorem SSt.fz {G0 H0 G H : Hp} {Z : St} {δ : Dn} (S : SSt G0 H0 G H Z δ) (i : Nat) : ∃ G', SSt G0 H0 G' H Z (fz i δ) := by
 unfold Sm.fz
 split
 . rename_i ds hi
   obtain ⟨p, hp, hg, xs, hx, r⟩ := S.sr.sl i _ hi; have h0 := S.fr i _ p hi hp; have g : Grow G0 H0 (upd G p (.lst xs)) H := S.gr.share h0 hg hx; have hv : Z[i]? = some (some (.ref p)) := by
     cases q : Z[i]? with
     | none => rw [q] at hp; cases hp
     | some z => rw [q] at hp; cases z with
       | none => cases hp
       | some z => cases hp; rfl
   have key : ∀ (j : Nat) (d' : PyData), (δ.set i (.sh (.list ds)))[j]? = some (.ow d') -> δ[j]? = some (.ow d') /\ j ≠ i := fun j d' e => by
     rw [P9] at e
     split at e
     . cases e
     . rename_i hn
       refine ⟨e, fun z => ?_⟩
       subst z; exact hn ⟨rfl, (List.getElem?_eq_some_iff.mp hi).1⟩
   refine ⟨_, g, ⟨g.gh, by simp [S.sr.len], fun j s e => ?_, fun j1 j2 a d1 d2 e1 e2 h1 h2 => S.sr.ap j1 j2 a d1 d2 (key j1 d1 e1).1 (key j2 d2 e2).1 h1 h2⟩, fun j d' a e h => S.fr j d' a (key j d' e).1 h⟩
   have sm : Same G (upd G p (.lst xs)) := Same.upd hg
   by_cases hj : i = j /\ i < δ.length
   . rw [P9, if_pos hj] at e
     cases e; rw [<- hj.1, hv]; exact ⟨_, rfl, p, xs, rfl, .inl B3, r.mono sm⟩
   . have e2 := e
     rw [P9, if_neg hj] at e2; have hs := S.sr.sl j s e2
     cases s with
     | un => trivial
     | sh d => obtain ⟨v, e1, r1⟩ := hs; exact ⟨v, e1, r1.mono sm⟩
     | fd _ => exact FdOk.mono sm hs
     | ow d2 =>
       obtain ⟨a, e1, n1, ok⟩ := hs; have hne : a ≠ p := by
         rintro rfl
         exact (key j d2 e).2 (S.sr.ap j i a d2 _ e2 hi e1 hp)
       refine ⟨a, e1, by rw [A8 hne]; exact n1, ?_⟩
       cases d2 with
       | list ds => obtain ⟨xs, q, r⟩ := ok; exact ⟨xs, q, r.mono sm⟩
       | dict kvs => obtain ⟨xs, q, k, r⟩ := ok; exact ⟨xs, q, k, r.mono sm⟩
       | tuple xs => exact OwnK.keep sm (fun o q => q) ok
       | _ => exact (show False from ok).elim
 . exact ⟨G, S⟩
section
variable {P : Program} {w : World} {K : PySem.W.Frag} {mg : Str -> Option Value} {base : Heap} {X : Cx} {N : List Str} {sc : Scope} {k : Nat} {df : Bool} {E : EK} {pos p : Pos} {a b c e elt : Expr} {f g : Dn -> Res PyData} {fs : Dn -> Res (List PyData)} {tt : Dn -> Res Bool} {scope : Scope} {st : Stmt} {sts sts' : List Stmt} {g1 g2 : Dn -> Out}
noncomputable def L4 : Dn -> Out := fun δ => .nx δ
noncomputable def E1 (g1 g2 : Dn -> Out) : Dn -> Out := fun δ => match g1 δ with
 | .nx δ' => g2 δ'
 | o => o
theorem N4 : DSs X E [] L4 := fun G0 H0 => PSs.imp Mv fun D Z H ⟨G, δ, S, a⟩ => a Z G H S
theorem B4 (h1 : DS X E st g1) (h2 : DSs X E sts g2) : DSs X E (st :: sts) (E1 g1 g2) := fun G0 H0 => by
 refine PSs.imp (S8 (h1 G0 H0) (h2 G0 H0)) fun D Z H ⟨G, δ, S, a⟩ => ⟨G, δ, S, ?_⟩
 unfold E1 at a
 cases e : g1 δ with
 | nx δ' => rw [e] at a; exact fun Z' G' H' S' => ⟨G', δ', S', a⟩
 | rt d => rw [e] at a; exact a
 | bk d => rw [e] at a; exact a
 | ct d => rw [e] at a; exact a
 | exc d => rw [e] at a; exact a
 | no => rw [e] at a; exact a
theorem C1 (h1 : DS X E st g1) : DSs X E [st] g1 := fun G0 H0 => Ah (h1 G0 H0)
noncomputable def sFz (i : Nat) (g : Dn -> Out) : Dn -> Out := fun δ => g (fz i δ)
theorem s_fz (i : Nat) (h : DS X E st g1) : DS X E st (sFz i g1) := fun G0 H0 => PS.imp (h G0 H0) fun D Z H ⟨G, δ, S, a⟩ => by
 obtain ⟨G', S'⟩ := S.fz i
 exact ⟨G', _, S', a⟩
noncomputable def N9 (f : Dn -> Res PyData) : Dn -> Out := fun δ => M8 (f δ) .rt
theorem L3 (h : DE X E e f) : DS X E (.Return (some e) pos) (N9 f) := fun G0 H0 => PS.imp (Iu h) fun D Z H ⟨G, δ, S, a⟩ =>
 Ap S a fun d v G1 H1 g1 r1 S1 a1 => a1 v G1 H1 S1.gr r1
noncomputable def sIf (c : Dn -> Res Bool) (g1 g2 : Dn -> Out) : Dn -> Out := fun δ => M8 (c δ) fun b => if b = true then g1 δ else g2 δ
theorem Y5 (hc : DT X E c tt) (h1 : DSs X E sts g1) (h2 : DSs X E sts' g2) : DS X E (.If c sts sts' pos) (sIf tt g1 g2) := fun G0 H0 => PS.imp (Yl hc (h1 G0 H0) (h2 G0 H0)) fun D Z H ⟨G, δ, S, a⟩ =>
 jC S a fun d G1 H1 g1 S1 a1 => by
   cases d with
   | true => rw [if_pos rfl]; exact ⟨G1, δ, S1, a1⟩
   | false => rw [if_neg (by decide)]; exact ⟨G1, δ, S1, a1⟩
noncomputable def okSet (N : List Str) (sc : Scope) (df : Bool) (i : Nat) (x : Str) : Bool := decide (N.Nodup) && decide (N[i]? = some x) && (decide (sc.names.lookup x = some .local) || (decide (sc.names.lookup x = some .cell) && df))
theorem okSet.ok (C : Cxt P w K mg base X N sc k df) {i : Nat} {x : Str} (h : okSet N sc df i x = true) : X.N.Nodup /\ X.N[i]? = some x /\ Loc X.env.scope x /\ (X.fn x = true \/ X.env.scope.names.lookup x = some .local) := by
 unfold okSet at h
 simp only [Bool.and_eq_true, Bool.or_eq_true, decide_eq_true_eq] at h
 obtain ⟨⟨h1, h2⟩, h3⟩ := h
 rw [C.hN]
 refine ⟨h1, h2, ?_⟩
 unfold L2.Loc
 rw [C.hs]
 rcases h3 with h3 | ⟨h3, h4⟩
 . exact ⟨.inl h3, .inr h3⟩
 . exact ⟨.inr h3, .inl (C.fn h4 x)⟩
noncomputable def K2 (i : Nat) (f : Dn -> Res PyData) : Dn -> Out := fun δ => M8 (f δ) fun d => .nx (δ.set i (.sh d))
theorem M0 {x : Str} (C : Cxt P w K mg base X N sc k df) (i : Nat) (ho : okSet N sc df i x = true) (h : DE X E e f) (hs : swapsWith e (some (.Name x p)) pos.line X.env = pure false := by rfl) : DS X E (.Assign [.Name x p] e pos) (K2 i f) := fun G0 H0 => by
 obtain ⟨h1, h2, h3, h4⟩ := okSet.ok C ho
 exact PS.imp (Ba h1 h2 h3 h hs h4) fun D Z H ⟨G, δ, S, a⟩ => Ap S a fun d v G1 H1 g1 r1 S1 a1 => a1 _ G1 H1 (S1.set_sh r1)
theorem W3 {G0 H0 G H : Hp} {Z : St} {δ : Dn} (S : SSt G0 H0 G H Z δ) {p : Addr} (hp : H p = none) (j : Nat) (d' : PyData) (e : δ[j]? = some (.ow d')) : Z[j]?.join ≠ some (.ref p) := fun z => by
 obtain ⟨a, e1, _, ok⟩ := S.sr.sl j _ e
 rw [e1] at z; cases z
 obtain ⟨o, q⟩ := ok.some
 rw [hp] at q; cases q
noncomputable def Yc (i : Nat) (f : Dn -> Res (List PyData)) : Dn -> Out := fun δ => M8 (f δ) fun ds => .nx (δ.set i (.ow (.list ds)))
theorem cN {G0 H0 : Hp} {D : Ends} {Z : St} {H : Hp} {i : Nat} (h : tS E G0 H0 (Yc i fs) D Z H) : tF E fs Z H fun v H1 => D.nx (Z.set i (some v)) H1 := by
 obtain ⟨G, δ, S, a⟩ := h
 refine aZ S a fun ds p xs G1 H1 g1 q1 q2 q3 q4 S1 a1 => ?_
 exact a1 _ G1 H1 (S1.set_ow (S.gr.h.free q1) q2 ⟨xs, q3, q4⟩ (W3 S q1))
theorem s_own {x : Str} (C : Cxt P w K mg base X N sc k df) (i : Nat) (ho : okSet N sc df i x = true) (h : DF X E e fs) (hs : swapsWith e (some (.Name x p)) pos.line X.env = pure false := by rfl) : DS X E (.Assign [.Name x p] e pos) (Yc i fs) := fun G0 H0 => by
 obtain ⟨h1, h2, h3, h4⟩ := okSet.ok C ho
 exact PS.imp (Ba h1 h2 h3 h hs h4) fun D Z H q => cN q
noncomputable def Ep (sc scope : Scope) (x : Str) (l1 l2 : Nat) : Bool := decide (sc.kind = .function) && decide (sc.names.lookup x = some .local) && decide (l1 = l2) && !(scope.names.any fun (n, kd) => n == x && (kd == .local || kd == .cell))
theorem Ku {x : Str} {elt : Expr} {gens : List Comprehension} {ln : Nat} (C : Cxt P w K mg base X N sc k df) (h : Ep sc scope x p.line pos.line = true) : swapsWith (.ListComp elt gens scope pos) (some (.Name x p)) ln X.env = pure true := by
 unfold Ep at h
 simp only [Bool.and_eq_true, decide_eq_true_eq] at h
 obtain ⟨⟨⟨h1, h2⟩, h3⟩, h4⟩ := h
 unfold swapsWith
 show pure (X.env.blockKind == .function && X.env.kindOf x == some .local && p.line == pos.line && !(scope.names.any fun (n, kd) => n == x && (kd == .local || kd == .cell))) = _
 have e1 : X.env.blockKind = .function := by unfold Env.blockKind; rw [C.hs, h1]; rfl
 have e2 : X.env.kindOf x = some .local := by show X.env.scope.names.lookup x = _; rw [C.hs]; exact h2
 rw [e1, e2, h3, h4]
 simp
section
variable {i : Nat}
noncomputable def Oo (i : Nat) (f : Dn -> Res (List PyData)) : Dn -> Out := fun δ => M8 (f δ) fun ds => .nx (δ.set i (.sh (.list ds)))
theorem Tb {G0 H0 : Hp} {D : Ends} {Z : St} {H : Hp} {i : Nat} (h : tS E G0 H0 (Oo i fs) D Z H) : tF E fs Z H fun v H1 => D.nx (Z.set i (some v)) H1 := by
 obtain ⟨G, δ, S, a⟩ := h
 refine aZ S a fun ds p xs G1 H1 g1 q1 q2 q3 q4 S1 a1 => ?_
 exact a1 _ _ H1 ((S.grow (g1.share q1 q2 q3)).set_sh ⟨p, xs, rfl, .inl B3, q4.mono (Same.upd q2)⟩)
end
end
end Sm
end
section
namespace Sm
open PySem PySem.Spec PyProof.Rows L2
section
variable {P : Program} {w : World} {K : PySem.W.Frag} {mg : Str -> Option Value} {base : Heap} {X : Cx} {N : List Str} {sc : Scope} {k : Nat} {df : Bool} {E : EK} {pos p px py tp spos : Pos} {tg a b c e elt iter : Expr} {ifs : List Expr} {es : List Expr} {f g el : Dn -> Res PyData} {src : Dn -> Res (List PyData)} {tt : Dn -> Res Bool} {scope : Scope} {capN : List Str} {cap : List Nat} {st : Stmt} {sts : List Stmt} {g1 : Dn -> Out} {x y : Str} {i : Nat}
theorem Qt {x1 : Nat} {x2 : Str} (C : Cxt P w K mg base X N sc k df) (i : Nat) (hset : okSet N sc df i y = true) (hsw : Ep sc scope y py.line pos.line = true) (cap : List Nat) (capN : List Str) (ho : okComp N sc scope [x, x2] capN cap = true) (hi : DI X E (.Tuple [.Name x px, .Name x2 p] x1 tp) iter src)
   (ht : ∀ X', Cxt P w K mg base X' ([x, x2] ++ capN) (Az scope sc) k false -> DTs X' E0k ifs tt) (he : ∀ X', Cxt P w K mg base X' ([x, x2] ++ capN) (Az scope sc) k false -> DE X' E0k elt el)
   (hs : ∀ x, foldedSetIterable iter X.env x = pure x := by intro _; rfl) : DS X E (.Assign [.Name y py] (.ListComp elt [⟨.Tuple [.Name x px, .Name x2 p] x1 tp, iter, ifs, 0⟩] scope pos) spos) (Oo i (E6 src Fs cap tt el)) := fun G0 H0 => by
 obtain ⟨h1, h2, h3, h4⟩ := okSet.ok C hset
 have o := okComp.ok ho
 have hl : X.env.scope.names.lookup y = some .local := by
   rw [C.hs]; unfold Ep at hsw; simp only [Bool.and_eq_true, decide_eq_true_eq] at hsw; exact hsw.1.1.2
 refine PS.imp (Qv (g := iP K 2 (Pi (X2 0) (Pi (X2 1) iQ))) C.calm (Jo C o) hi (fun X' B => ?_) (fun X' B => ht X' (C.blk B)) (fun X' B => he X' (C.blk B)) h1 h2 hl (Ku C hsw) hs) fun D Z H h => Mf (m := 2) rfl o.h10 gok2 (Tb h)
 have C' := C.blk B
 have hl : X'.env.scope.names.lookup x = some .local := by rw [C'.hs]; exact o.h9 x (by simp)
 have hl2 : X'.env.scope.names.lookup x2 = some .local := by rw [C'.hs]; exact o.h9 x2 (by simp)
 have nd : X'.N.Nodup := by rw [C'.hN]; exact o.h8
 have p1 : PG X' (.Name x px) (X2 0) := Bm nd (by rw [C'.hN]; rfl) (.inl hl) (.inr hl)
 have p2 : PG X' (.Name x2 p) (X2 1) := Bm nd (by rw [C'.hN]; rfl) (.inl hl2) (.inr hl2)
 have := gR (n := 2) (k := x1) (pos := tp) C'.calm (Ov p1 (Ov p2 cH))
 rw [C'.hK] at this
 exact this
noncomputable def sSet2 (i j : Nat) (f : Dn -> Res PyData) : Dn -> Out := fun δ => M8 (f δ) fun d => match d with
 | .tuple [a, b] => .nx ((δ.set i (.sh a)).set j (.sh b))
 | _ => .no
noncomputable def Yd (i : Nat) (f : Dn -> Res PyData) : Dn -> Out := fun δ => match δ[i]? with
 | some (.ow (.list ds)) => M8 (f δ) fun d => if ds.length < sizeLine then .nx (δ.set i (.ow (.list (ds ++ [d])))) else .no
 | _ => .no
theorem s_app {cpos apos : Pos} (C : Cxt P w K mg base X N sc k df) (i : Nat) (h : okVar N sc i x = true) (ha : DE X E a f)
   (hbase : attributeBase (.Name x p) "append" X.env (eval (.Name x p) X.env) = eval (.Name x p) X.env := by rfl)
   (hfew : ((backTo cpos (starEach [a] X.env)).all (fun x => !x.1) && (backToKw cpos (keywordEach [] X.env)).all (fun x => x.1.isSome)
     && decide ([a].length + ([] : List Keyword).length + (if ([] : List Keyword).isEmpty then 0 else 1) < 30)) = true := by rfl)
   (hline : (apos.endLine == cpos.line) = true := by rfl) (hs : starEach [a] X.env = (false, eval a X.env) :: starEach [] X.env := by rfl) (hplain : (backTo cpos (starEach [] X.env)).any (·.1) = false := by rfl)
   (hsw : swapsWith (.Call (.Attribute (.Name x p) "append" apos) [a] [] cpos) none pos.line X.env = pure false := by rfl) :
   DS X E (.Expr (.Call (.Attribute (.Name x p) "append" apos) [a] [] cpos) pos) (Yd i f) := fun G0 H0 => by
 have hv : PE X (.Name x p) (Dy i) := by
   unfold okVar at h; simp only [Bool.and_eq_true, Bool.not_eq_true'] at h; obtain ⟨⟨⟨h1, h2⟩, h3⟩, h4⟩ := h; refine Cg (by rw [C.hN]; exact eq_of_beq h1) ?_ h3 h4
   rw [C.hs]; unfold Vis
   cases q : sc.names.lookup x with
   | none => rw [q] at h2; cases h2
   | some z =>
     rw [q] at h2
     cases z with
     | «local» => exact .inl rfl
     | cell => exact .inr (.inl rfl)
     | free => exact .inr (.inr rfl)
     | _ => cases h2
 refine PS.imp (Gn (Kz PySem.F.plainAttrs_list PySem.F.slot_list_append PySem.F.type_list_append Aa hv (F6 ha M9 hs) hbase hfew hline hs hplain) hsw) fun D Z H ⟨G, δ, S, aft⟩ => ?_
 unfold Yd at aft
 split at aft
 . rename_i ds hi
   obtain ⟨q, hq, hg, xs, hx, rl⟩ := S.sr.sl i _ hi; have hσ : Z[i]? = some (some (.ref q)) := by
     cases z : Z[i]? with
     | none => rw [z] at hq; cases hq
     | some z' => rw [z] at hq; cases z' with
       | none => cases hq
       | some z'' => cases hq; rfl
   refine ⟨.ref q, hσ, .inl ⟨rfl, xs, .inl (.inl hx)⟩, ?_⟩; refine Ap S aft fun d v G1 H1 g1 r1 S1 a1 => ?_
   split at a1
   . rename_i hz
     have hx1 : H1 q = some (.lst xs) := g1.h _ _ hx; obtain ⟨q', hq', hg', _⟩ := S1.sr.sl i _ hi; rw [hq] at hq'; cases hq'; refine ⟨q, xs, v, rfl, rfl, hx1, by rw [<- rl.length]; exact hz, ?_⟩
     exact a1 Z G1 _ (S1.write hi hq hg' ⟨xs ++ [v], B3, (rl.mono g1.g).append (RepL.cons r1 rfl)⟩)
   . exact a1.elim
 . exact aft.elim
noncomputable def G6 (st : PyData -> Dn -> Option Dn) (body : Dn -> Out) : List PyData -> Dn -> Out
 | [], δ => .nx δ
 | d :: ds, δ => match st d δ with
   | some δ1 => match body δ1 with
     | .nx δ' => G6 st body ds δ'
     | .ct δ' => G6 st body ds δ'
     | .bk δ' => .nx δ'
     | o => o
   | none => .no
noncomputable def T7 (src : Dn -> Res (List PyData)) (st : PyData -> Dn -> Option Dn) (body : Dn -> Out) : Dn -> Out := fun δ => M8 (src δ) fun ds => G6 st body ds δ
noncomputable def st1 (i : Nat) : PyData -> Dn -> Option Dn := fun d δ => some (δ.set i (.sh d))
noncomputable def st2 (i j : Nat) : PyData -> Dn -> Option Dn := fun d δ => match d with
 | .tuple [a, b] => some ((δ.set i (.sh a)).set j (.sh b))
 | _ => none
def TgOk (K : PySem.W.Frag) (g : TG) (st : PyData -> Dn -> Option Dn) : Prop := ∀ (G0 H0 G H : Hp) (Z : St) (δ δ1 : Dn) (d : PyData) (x : V) (Q : St -> Hp -> Prop), SSt G0 H0 G H Z δ -> Rep G d x -> st d δ = some δ1 -> (∀ Z', SSt G0 H0 G H Z' δ1 -> Q Z' H) -> g x Z H Q
theorem tg1 (i : Nat) : TgOk K (X2 i) (st1 i) := fun G0 H0 G H Z δ δ1 d x Q S r e h => by cases e; exact h _ (S.set_sh r)
theorem SSt.rebase {G0 H0 G1 H1 G H : Hp} {Z : St} {δ : Dn} (g : Grow G0 H0 G1 H1) (S : SSt G0 H0 G H Z δ) (h : Same G1 G) : SSt G1 H0 G H Z δ :=
 ⟨⟨h, S.gr.h, S.gr.gh, fun b o e => (S.gr.fr b o e).imp (fun z => g.g _ _ z) id⟩, S.sr, S.fr⟩
theorem Grow.unbase {G0 H0 G1 H1 G H : Hp} (g : Grow G0 H0 G1 H1) (h : Grow G1 H0 G H) : Grow G0 H0 G H :=
 ⟨g.g.trans h.g, h.h, h.gh, fun b o e => (h.fr b o e).elim (fun z => g.fr b o z) .inr⟩
theorem SSt.unbase {G0 H0 G1 H1 G H : Hp} {Z : St} {δ : Dn} (g : Grow G0 H0 G1 H1) (S : SSt G1 H0 G H Z δ) : SSt G0 H0 G H Z δ := ⟨g.unbase S.gr, S.sr, S.fr⟩
theorem fV {gt : TG} {st : PyData -> Dn -> Option Dn} (C : Cxt P w K mg base X N sc k df) (hi : DI X E tg iter src) (hg : PG X tg gt) (ht : TgOk K gt st) (hb : DSs X E sts g1) (hs : ∀ x, foldedSetIterable iter X.env x = pure x) : DS X E (.For tg iter sts [] pos) (T7 src st g1) := fun G0 H0 => by
 have hb' : PSs X sts (fun D Z H => ∃ Gb, tS E Gb H0 g1 D Z H) := fun pins s Z H D I ⟨Gb, q⟩ => hb Gb H0 pins s Z H D I q
 refine PS.imp (Ym C.own C.calm hi hg hb' hs) fun D Z H ⟨G, δ, S, aft⟩ => ?_
 refine jD S aft fun ds J G1 H1 gr W S1 a1 => ?_
 have g01 := S1.gr
 refine ⟨fun i n Z' H' => n = ds.length - i /\ i <= ds.length /\ ∃ G' δ', SSt G1 H0 G' H' Z' δ' /\ Kb E G0 H0 (G6 st g1 (ds.drop i) δ') D, ⟨_, rfl, Nat.zero_le _, G1, δ, S1.rebase g01 (Same.refl _), by rw [List.drop_zero]; exact a1⟩, ?_⟩
 rintro i n Z' H' ⟨rfl, hi, G', δ', S', a'⟩
 by_cases hlt : i < ds.length
 . have hd : ds[i]? = some ds[i] := List.getElem?_eq_getElem hlt
   have hdrop : ds.drop i = ds[i] :: ds.drop (i + 1) := List.drop_eq_getElem_cons hlt; rw [hdrop] at a'; unfold G6 at a'; refine .inr ⟨W.go i H' hlt (S'.gr.g.trans S'.sr.sub), fun Z2 H2 => ∃ G' δ', SSt G1 H0 G' H2 Z2 δ' /\ Kb E G0 H0 (G6 st g1 (ds.drop (i + 1)) δ') D, fun Z2 H2 q => ⟨_, by omega, rfl, hlt, q⟩, fun x H'' hy => ?_⟩
   obtain ⟨G3, g3, r3⟩ := W.yld i _ G' H' x H'' hd S'.gr.g S'.sr.sub hy; have S3 := S'.grow g3
   cases es : st ds[i] δ' with
   | none => rw [es] at a'; exact a'.elim
   | some δ1 =>
     rw [es] at a'; refine ht G1 H0 G3 H'' Z' δ' δ1 _ x _ S3 r3 es fun Z2 S4 => ⟨G1, G3, δ1, S4, ?_⟩
     simp only at a'
     cases eo : g1 δ1 with
     | nx δ2 => rw [eo] at a'; exact fun Z3 G4 H4 S5 => ⟨G4, δ2, S5, a'⟩
     | ct δ2 => rw [eo] at a'; exact fun Z3 G4 H4 S5 => ⟨G4, δ2, S5, a'⟩
     | bk δ2 => rw [eo] at a'; exact fun Z3 G4 H4 S5 => a' Z3 G4 H4 (S5.unbase g01)
     | rt d => rw [eo] at a'; exact fun v G4 H4 g r => a' v G4 H4 (g01.unbase g) r
     | exc c => rw [eo] at a'; exact fun G4 H4 g => a' G4 H4 (g01.unbase g)
     | no => rw [eo] at a'; exact a'
 . refine .inl ⟨W.stop i H' (Nat.not_lt.mp hlt) (S'.gr.g.trans S'.sr.sub), ?_⟩
   have : ds.drop i = [] := List.drop_eq_nil_of_le (Nat.not_lt.mp hlt); rw [this] at a'; exact a' Z' G' H' (S'.unbase g01)
theorem V9 (C : Cxt P w K mg base X N sc k df) (i : Nat) (ho : okSet N sc df i x = true) (hi : DI X E (.Name x p) iter src) (hb : DSs X E sts g1) (hs : ∀ x, foldedSetIterable iter X.env x = pure x := by intro _; rfl) : DS X E (.For (.Name x p) iter sts [] pos) (T7 src (st1 i) g1) := by
 obtain ⟨h1, h2, h3, h4⟩ := okSet.ok C ho
 exact fV C hi (Bm h1 h2 h3 h4) (tg1 i) hb hs
noncomputable def O4 : List PyData -> Option (List Key)
 | [] => some []
 | .int i :: ds => (O4 ds).map (.inl i :: ·)
 | .str x :: ds => (O4 ds).map (.inr x :: ·)
 | _ :: _ => none
noncomputable def P0 : PyData -> Option (List Key)
 | .tuple ds => O4 ds
 | _ => none
theorem N8 {G : Hp} : ∀ {ds : List PyData} {xs : List V} {kk : List Key}, RepL G ds xs -> O4 ds = some kk -> xs = kk.map kV /\ ds = kk.map M4
 | [], _, _, r, e => by cases (show _ = _ from r); cases e; exact ⟨rfl, rfl⟩
 | .int i :: ds, _, _, r, e => by
   obtain ⟨x, t, rfl, h, l⟩ := r
   cases (show _ = _ from h)
   obtain ⟨k', e1, rfl⟩ := Option.map_eq_some_iff.mp e; obtain ⟨q1, q2⟩ := N8 l e1; exact ⟨by rw [q1]; rfl, by rw [q2]; rfl⟩
 | .str z :: ds, _, _, r, e => by
   obtain ⟨x, t, rfl, h, l⟩ := r
   cases h.1
   obtain ⟨k', e1, rfl⟩ := Option.map_eq_some_iff.mp e; obtain ⟨q1, q2⟩ := N8 l e1; exact ⟨by rw [q1]; rfl, by rw [q2]; rfl⟩
 | .none :: _, _, _, _, e => by cases e
 | .bool _ :: _, _, _, _, e => by cases e
 | .list _ :: _, _, _, _, e => by cases e
 | .tuple _ :: _, _, _, _, e => by cases e
 | .dict _ :: _, _, _, _, e => by cases e
noncomputable def M2 (kvs : List (PyData × PyData)) (kk : List Key) : Option PyData := (kvs.find? fun q => match P0 q.1 with | some k' => decide (k' = kk) | none => false).map (·.2)
noncomputable def Ar (kvs : List (PyData × PyData)) (kk : List Key) (v : PyData) : List (PyData × PyData) :=
 if (M2 kvs kk).isSome then kvs.map fun q => if P0 q.1 = some kk then (q.1, v) else q else kvs ++ [(.tuple (kk.map M4), v)]
theorem Vp (kk : List Key) : O4 (kk.map M4) = some kk := by
 induction kk with
 | nil => rfl
 | cons a r ih => cases a <;> (show (O4 (r.map M4)).map _ = _; rw [ih]; rfl)
theorem T0 (kk : List Key) : P0 (.tuple (kk.map M4)) = some kk := Vp kk
theorem X1 {G : Hp} {kk : List Key} : ∀ {kvs : List (PyData × PyData)} {kv : List (List Key × V)}, kvs.map (·.1) = kv.map (fun q => PyData.tuple (q.1.map M4)) -> RepL G (kvs.map (·.2)) (kv.map (·.2)) ->
   (M2 kvs kk = none /\ Av kv kk = none) \/ ∃ d v, M2 kvs kk = some d /\ Av kv kk = some v /\ Rep G d v
 | [], [], _, _ => .inl ⟨rfl, rfl⟩
 | [], _ :: _, h, _ => by cases h
 | _ :: _, [], h, _ => by cases h
 | (a, d) :: kvs, (k0, v0) :: kv, h, r => by
   simp only [List.map_cons, List.cons.injEq] at h; obtain ⟨h1, h2⟩ := h; obtain ⟨x, t, e, rd, rl⟩ := r; simp only [List.map_cons, List.cons.injEq] at e; obtain ⟨e1, e2⟩ := e; subst e1 e2; have h1' : a = .tuple (k0.map M4) := h1; subst h1'; unfold M2 Av; rw [List.find?_cons, List.find?_cons]; simp only [T0]
   by_cases hk : k0 = kk
   . simp only [hk, decide_true]
     exact .inr ⟨d, v0, rfl, rfl, rd⟩
   . simp only [hk, decide_false]
     exact X1 h2 rl
theorem So {G : Hp} {kk : List Key} {d : PyData} {v : V} (hd : Rep G d v) {kvs : List (PyData × PyData)} {kv : List (List Key × V)} (h : kvs.map (·.1) = kv.map (fun q => PyData.tuple (q.1.map M4))) (r : RepL G (kvs.map (·.2)) (kv.map (·.2))) :
   (Ar kvs kk d).map (·.1) = (W6 kv kk v).map (fun q => PyData.tuple (q.1.map M4)) /\ RepL G ((Ar kvs kk d).map (·.2)) ((W6 kv kk v).map (·.2)) := by
 have go : ∀ {kvs : List (PyData × PyData)} {kv : List (List Key × V)}, kvs.map (·.1) = kv.map (fun q => PyData.tuple (q.1.map M4)) -> RepL G (kvs.map (·.2)) (kv.map (·.2)) ->
     (kvs.map fun q => if P0 q.1 = some kk then (q.1, d) else q).map (·.1) = (kv.map fun q => if q.1 = kk then (q.1, v) else q).map (fun q => PyData.tuple (q.1.map M4)) /\ RepL G ((kvs.map fun q => if P0 q.1 = some kk then (q.1, d) else q).map (·.2)) ((kv.map fun q => if q.1 = kk then (q.1, v) else q).map (·.2)) := by
   intro kvs
   induction kvs with
   | nil => intro kv h r; cases kv with
     | nil => exact ⟨rfl, rfl⟩
     | cons _ _ => cases h
   | cons p kvs ih =>
     intro kv h r
     cases kv with
     | nil => cases h
     | cons q kv =>
       simp only [List.map_cons, List.cons.injEq] at h; obtain ⟨h1, h2⟩ := h; obtain ⟨x, t, e, rd, rl⟩ := r; simp only [List.map_cons, List.cons.injEq] at e; obtain ⟨e1, e2⟩ := e; subst e1 e2; obtain ⟨i1, i2⟩ := ih h2 rl; have hk : P0 p.1 = some q.1 := by rw [h1]; exact T0 _
       simp only [List.map_cons]
       by_cases hq : q.1 = kk
       . rw [if_pos (by rw [hk, hq]), if_pos hq]
         exact ⟨by rw [i1]; simp only [h1], RepL.cons hd i2⟩
       . rw [if_neg (by rw [hk]; intro z; exact hq (Option.some.inj z)), if_neg hq]
         exact ⟨by rw [i1]; simp only [h1], RepL.cons rd i2⟩
 rcases X1 (kk := kk) h r with ⟨n1, n2⟩ | ⟨d0, v0, n1, n2, _⟩
 . unfold Ar
   rw [n1]; rw [Yj _ n2]; simp only [Option.isSome_none, Bool.false_eq_true, if_false, List.map_append, List.map_cons, List.map_nil]; exact ⟨by rw [h], r.append (RepL.cons hd rfl)⟩
 . unfold Ar
   rw [n1]; simp only [Option.isSome_some, if_true]; have : W6 kv kk v = kv.map fun q => if q.1 = kk then (q.1, v) else q := by
     unfold W6; have hs : (kv.any fun q => decide (q.1 = kk)) = true := by rw [Cu, n2]; rfl
     first | rw [if_pos hs] | simp [hs]
   rw [this]; exact go h r
end
end Sm
end
section
namespace Sm
open PySem PySem.Spec PyProof.Rows L2
section
variable {P : Program} {w : World} {K : PySem.W.Frag} {mg : Str -> Option Value} {base : Heap} {X : Cx} {N : List Str} {sc : Scope} {k : Nat} {df : Bool} {E : EK} {pos p p2 : Pos} {a b c e : Expr} {f g : Dn -> Res PyData} {x : Str} {i : Nat}
theorem okVar.pe (C : Cxt P w K mg base X N sc k df) (h : okVar N sc i x = true) : PE X (.Name x p) (Dy i) := by
 unfold okVar at h
 simp only [Bool.and_eq_true, Bool.not_eq_true'] at h
 obtain ⟨⟨⟨h1, h2⟩, h3⟩, h4⟩ := h
 refine Cg (by rw [C.hN]; exact eq_of_beq h1) ?_ h3 h4
 rw [C.hs]
 unfold Vis
 cases q : sc.names.lookup x with
 | none => rw [q] at h2; cases h2
 | some z =>
   rw [q] at h2
   cases z with
   | «local» => exact .inl rfl
   | cell => exact .inr (.inl rfl)
   | free => exact .inr (.inr rfl)
   | _ => cases h2
theorem SR.own {G H : Hp} {Z : St} {δ : Dn} (S : SR G H Z δ) {d : PyData} (hi : δ[i]? = some (.ow d)) : ∃ q, Z[i]? = some (some (.ref q)) /\ G q = none /\ OwnOk G H q d := by
 obtain ⟨q, hq, hg, ok⟩ := S.sl i _ hi
 refine ⟨q, ?_, hg, ok⟩
 cases z : Z[i]? with
 | none => rw [z] at hq; cases hq
 | some z' => rw [z] at hq; cases z' with
   | none => cases hq
   | some z'' => cases hq; rfl
theorem Cxt.hu1 (C : Cxt P w K mg base X N sc k df) : X.A.units + 1 < cLine := by have := C.hu; omega
noncomputable def Si (i : Nat) : Dn -> Out := fun δ => .nx (δ.set i (.ow (.dict [])))
theorem Ya (C : Cxt P w K mg base X N sc k df) (i : Nat) (ho : okSet N sc df i x = true) (hs : swapsWith (.Dict [] [] p2) (some (.Name x p)) pos.line X.env = pure false := by rfl) : DS X E (.Assign [.Name x p] (.Dict [] [] p2) pos) (Si i) := fun G0 H0 => by
 obtain ⟨h1, h2, h3, h4⟩ := okSet.ok C ho
 refine PS.imp (Ba h1 h2 h3 Ys hs h4) fun D Z H ⟨G, δ, S, a⟩ q hq => ?_
 have S1 := S.grow (Grow.own (o := .dT []) S.sr.sub hq)
 exact a _ G _ (S1.set_ow (S.gr.h.free hq) (S.sr.sub.free hq) ⟨[], B3, rfl, rfl⟩ (W3 S hq))
noncomputable def Ek (i : Nat) (fk fv : Dn -> Res PyData) : Dn -> Out := fun δ => match δ[i]? with
 | some (.ow (.dict kvs)) => M8 (fv δ) fun v => M8 (fk δ) fun kd => match P0 kd with
   | some kk => if kvs.length < sizeLine then .nx (δ.set i (.ow (.dict (Ar kvs kk v)))) else .no
   | none => .no
 | _ => .no
theorem Xy (C : Cxt P w K mg base X N sc k df) (i : Nat) (h : okVar N sc i x = true) (hk : DE X E a f) (hv : DE X E b g) (hs : swapsWith b (some (.Subscript (.Name x p) a p2)) pos.line X.env = pure false := by rfl) : DS X E (.Assign [.Subscript (.Name x p) a p2] b pos) (Ek i f g) := fun G0 H0 => by
 refine PS.imp (cC C.hu1 (okVar.pe C h) hk hv hs) fun D Z H ⟨G, δ, S, aft⟩ => ?_
 unfold Ek at aft
 split at aft
 . rename_i kvs hi
   refine Ap S aft fun v x1 G1 H1 g1 r1 S1 a1 => ?_
   obtain ⟨q, hσ, hg, kv, hx, hkeys, hvals⟩ := S1.sr.own hi; refine ⟨.ref q, hσ, ?_⟩; refine Ap S1 a1 fun kd x2 G2 H2 g2 r2 S2 a2 => ?_
   obtain ⟨q', hσ', hg', kv', hx', hkeys', hvals'⟩ := S2.sr.own hi; rw [hσ] at hσ'; cases hσ'
   cases kd with
   | tuple ds =>
     cases ek : O4 ds with
     | none => simp only [P0, ek] at a2; exact a2.elim
     | some kk =>
       simp only [P0, ek] at a2
       split at a2
       . rename_i hz
         obtain ⟨pk, xs, rfl, hpk, lk⟩ := r2; obtain ⟨e1, e2⟩ := N8 lk ek; subst e1; have hlen : kv'.length < sizeLine := by
           have := congrArg List.length hkeys'; rw [List.length_map, List.length_map] at this; omega
         refine ⟨q, _, rfl, DPut.t hx' (S2.sr.sub _ _ hpk) hlen, ?_⟩; obtain ⟨p1, p2⟩ := So (kk := kk) (r1.mono g2.g) hkeys' hvals'; exact a2 Z G2 _ (S2.write hi (by rw [hσ]; rfl) hg' ⟨_, B3, p1, p2⟩)
       . exact a2.elim
   | _ => exact (show False from a2).elim
 . exact aft.elim
noncomputable def Me (i : Nat) (f : Dn -> Res PyData) : Dn -> Res PyData := fun δ => (f δ).bind fun kd => match P0 kd, δ[i]? with
 | some kk, some (.ow (.dict kvs)) => .ok (.bool (M2 kvs kk).isSome)
 | _, _ => .no
noncomputable def Q1 (i : Nat) (f : Dn -> Res PyData) : Dn -> Res PyData := fun δ => match δ[i]? with
 | some (.ow (.dict kvs)) => (f δ).bind fun kd => match P0 kd with
   | some kk => ofO (M2 kvs kk)
   | none => .no
 | _ => .no
theorem Nx (C : Cxt P w K mg base X N sc k df) (i : Nat) (h : okVar N sc i x = true) (hk : DE X E a f) (hs : Rx a := by exact fun _ _ => rfl) : DE X E (.Subscript (.Name x p) a pos) (Q1 i f) := by
 refine PE.imp (Dg C.hu1 (okVar.pe C h) hk hs) fun Z H Q ⟨G, δ, S, aft⟩ => ?_
 unfold Q1 at aft
 split at aft
 . rename_i kvs hi
   obtain ⟨q, hσ, hg, kv, hx, hkeys, hvals⟩ := S.own hi; refine ⟨.ref q, hσ, ?_⟩; refine P3 S aft fun kd v G1 H1 g1 r1 S1 a1 => ?_
   cases kd with
   | tuple ds =>
     cases ek : O4 ds with
     | none => simp only [P0, ek] at a1; exact a1.elim
     | some kk =>
       simp only [P0, ek] at a1; obtain ⟨pk, xs, rfl, hpk, lk⟩ := r1; obtain ⟨e1, e2⟩ := N8 lk ek; subst e1; rcases X1 (kk := kk) hkeys hvals with ⟨n1, n2⟩ | ⟨d0, v0, n1, n2, rd⟩
       . rw [n1] at a1; exact a1.elim
       . rw [n1] at a1
         exact ⟨q, v0, rfl, by have := DGet.t (k := kk) (g1.h _ _ hx) (S1.sub _ _ hpk); rw [n2] at this; exact this, a1 _ G1 H1 (Grow.refl S1.sub) (rd.mono g1.g)⟩
   | _ => exact (show False from a1).elim
 . exact aft.elim
noncomputable def D7 (N : List Str) (ds : List PyData) : Dn := ds.map .sh ++ List.replicate (N.length - ds.length) .un
noncomputable def fnD (N : List Str) (g : Dn -> Out) : List PyData -> Res PyData := fun ds => match g (D7 N ds) with
 | .rt d => .ok d
 | .nx _ => .ok .none
 | .exc c => .exc c
 | _ => .no
theorem Db {G H : Hp} (hG : Same G H) {ds : List PyData} {vs : List V} (r : RepL G ds vs) (N : List Str) : SSt G H G H (W8 N vs) (D7 N ds) := by
 have hl := r.length
 have noow : ∀ (i : Nat) (d : PyData), (D7 N ds)[i]? ≠ some (.ow d) := fun i d e => by
   unfold D7 at e
   by_cases hi : i < ds.length
   . rw [List.getElem?_append_left (by simpa using hi), List.getElem?_map] at e
     cases q : ds[i]? with
     | none => rw [q] at e; cases e
     | some z => rw [q] at e; cases e
   . rw [List.getElem?_append_right (by simpa using Nat.not_lt.mp hi), List.getElem?_replicate] at e
     split at e <;> cases e
 refine ⟨Grow.refl hG, ⟨hG, by unfold L2.W8 D7; simp [hl], fun i s e => ?_, fun i j a d d' e _ _ _ => absurd e (noow i d)⟩, fun i d a e _ => absurd e (noow i d)⟩
 unfold D7 at e
 by_cases hi : i < ds.length
 . rw [List.getElem?_append_left (by simpa using hi), List.getElem?_map] at e
   cases q : ds[i]? with
   | none => rw [q] at e; cases e
   | some z =>
     rw [q] at e; cases e
     obtain ⟨v, e1, rv⟩ := r.get q; unfold L2.W8; rw [List.getElem?_append_left (by rw [List.length_map, <- hl]; exact hi), List.getElem?_map, e1]
     exact ⟨v, rfl, rv⟩
 . rw [List.getElem?_append_right (by simpa using Nat.not_lt.mp hi), List.getElem?_replicate] at e
   split at e <;> cases e
   trivial
structure Def (K : PySem.W.Frag) (mg : Str -> Option Value) (x : Str) (st : Stmt) (ps : List Str) : Prop where
 ex : ∃ f fd, L2.Fun K x x st f fd /\ mg x = some (.ref f) /\ Binds K fd ps []
theorem aE {x : Str} {st : Stmt} {ps : List Str} {n : Nat} {go : Dn -> Out} {m : List PyData -> Res PyData} {f : Addr} {fd : FuncData} (F : L2.Fun K x x st f fd) (S : FnScope N ps (A5 st)) (hn : ps.length = n)
   (body : ∀ X, Cxt P w K mg base X N (A5 st) k true -> DSs X E0k (B9 st) go) (hm : m = fnD N go) : FnOk P w K mg base CX0 (k + 1) f fd ps (spD n m) := by
 subst hm
 refine F.ok S (fun vs H Q E h => ?_) (fun cdv A outer s H vs Q E hr h => ?_)
 . obtain ⟨G, ds, d, _, r, hl, _⟩ := h
   rw [<- r.length, hl, hn]
 . obtain ⟨G, ds, d, hG, r, hl, em, q⟩ := h
   refine ⟨_, body _ ⟨rfl, rfl, rfl, rfl, rfl, rfl, rfl, rfl, hr, fun _ _ => rfl, PassesOwn.never⟩ G H, G, _, Db hG r N, ?_⟩
   unfold fnD at em
   cases eg : go (D7 N ds) with
   | rt d' => rw [eg] at em; cases em; exact fun v G' H' g r' => q v G' H' g r'
   | nx δ => rw [eg] at em; cases em; exact fun Z G' H' S' => q _ G' H' S'.gr rfl
   | bk _ => rw [eg] at em; cases em
   | ct _ => rw [eg] at em; cases em
   | exc _ => rw [eg] at em; cases em
   | no => rw [eg] at em; cases em
theorem Fd {x : Str} {st : Stmt} {ps : List Str} {n : Nat} {go : Dn -> Out} {m : List PyData -> Res PyData} (F : Def K mg x st ps) (S : FnScope N ps (A5 st)) (hn : ps.length = n)
   (body : ∀ X, Cxt P w K mg base X N (A5 st) k true -> DSs X E0k (B9 st) go) (hm : m = fnD N go) : Fn P w K mg base x (k + 1) n m := by
 obtain ⟨f, fd, F, hmg, hb⟩ := F.ex
 exact ⟨f, fd, ps, hn, aE F S hn body hm, hmg, F.kp, hb⟩
end
end Sm
end
section
namespace Sm
open PySem PySem.Spec PyProof.Rows L2
theorem ObjOk.here {P : Program} {w : World} {H : Hp} {h : Heap} {a : Addr} {o : HO} (x : ObjOk P w H h a o) : ∃ ob, h.get? a = some ob := by
 cases o with
 | lst xs => obtain ⟨_, _, _, _, e⟩ := x; exact ⟨_, e⟩
 | tup xs => obtain ⟨_, _, _, ob, e, _⟩ := x; exact ⟨_, e⟩
 | dK kvs => obtain ⟨_, _, _, _, o, _, _, e, _⟩ := x; exact ⟨_, e⟩
 | dT kvs => obtain ⟨_, _, _, _, o, _, _, e, _⟩ := x; exact ⟨_, e⟩
 | set S n => obtain ⟨o, _, _, _, e, _⟩ := x; exact ⟨_, e⟩
 | ins C dx fs => obtain ⟨_, _, _, e, _⟩ := x; exact ⟨_, e⟩
 | own y => obtain ⟨_, e⟩ := x; exact ⟨_, e⟩
 | xd fs => obtain ⟨_, ⟨_, _, _, e, _⟩, _⟩ := x; exact ⟨_, e⟩
 | rng lo hi => obtain ⟨_, _, _, e⟩ := x; exact ⟨_, e⟩
 | frz ob u => obtain ⟨e, _⟩ := x; exact ⟨_, e⟩
 | tbl ps => exact ⟨_, (show h.get? a = some _ from x)⟩
 | met f y => exact ⟨_, (show h.get? a = some _ from x)⟩
 | ext φ => obtain ⟨_, e, _⟩ := x; exact e
theorem HOk.gone {P : Program} {w : World} {H : Hp} {h : Heap} {a : Addr} (x : HOk P w H h) (e : h.get? a = none) : H a = none := by
 cases q : H a with
 | none => rfl
 | some o => obtain ⟨ob, z⟩ := ObjOk.here (x a o q); rw [e] at z; cases z
def Made (h : Heap) (H : Hp) (h0 : Heap) (a : Addr) (c : Value) : Prop :=
 ∃ oe vs a0, h.get? a = some oe /\ oe.cls = c /\ oe.data = .fields vs /\ vs[0]? = some a0 /\ h0.get? a = none /\ H a = none /\ vs[1]? = some .none
def Fly (h : Heap) (H : Hp) (h0 : Heap) (a : Addr) (c : Value) : Prop :=
 ∃ oe vs a0 T oT ts, h.get? a = some oe /\ oe.cls = c /\ oe.data = .fields vs /\ vs[0]? = some a0 /\ h0.get? a = none /\ H a = none /\ vs[1]? = some (.ref T) /\ T ≠ a /\ h.get? T = some oT /\ oT.data = .fields ts /\ ts[3]? = some .none /\ h0.get? T = none /\ H T = none
theorem Fly.back {h h0 h1 : Heap} {H : Hp} {a : Addr} {c : Value} (m : Fly h H h1 a c) (k : ∀ b o, h0.get? b = some o -> ∃ o', h1.get? b = some o') : Fly h H h0 a c := by
 obtain ⟨oe, vs, a0, T, oT, ts, e1, e2, e3, e4, e5, e6, e7, e8, e9, e10, e11, e12, e13⟩ := m
 have nn : ∀ b, h1.get? b = none -> h0.get? b = none := fun b z => by
   cases q : h0.get? b with
   | none => rfl
   | some o => obtain ⟨o', z'⟩ := k _ _ q; rw [z] at z'; cases z'
 exact ⟨oe, vs, a0, T, oT, ts, e1, e2, e3, e4, nn _ e5, e6, e7, e8, e9, e10, e11, nn _ e12, e13⟩
structure Flown (P : Program) (w : World) (fs : List Addr) (H0 : Hp) (h0 : Heap) (H' : Hp) (h : Heap) (a : Addr) (c : Value) : Prop where
 un : Un fs [] H0 H' h0 h
 hok : HOk P w H' h
 fly : Fly h H' h0 a c
theorem Bd {h base bs : Heap} : ∀ {l : List Env}, h.FunFrames base l -> (∀ b ∈ frs l, bs.get? b = none) -> h.FunFrames bs l
 | [], _, _ => trivial
 | env :: r, ⟨hk, ⟨L, o, hf, hn, ho, hd⟩, hr⟩, k => by
   refine ⟨hk, ⟨L, o, hf, k L (by unfold frs; rw [List.filterMap_cons, hf]; exact List.mem_cons_self), ho, hd⟩, Bd hr fun b hb => k b ?_⟩
   unfold frs at hb ⊢
   rw [List.filterMap_cons, hf]; exact List.mem_cons_of_mem _ hb
theorem Am {P : Program} {w : World} {fs : List Addr} {H0 H' : Hp} {h0 h h2 base bs : Heap} {l l2 : List Env} {hid : List Addr} {a : Addr} {c a0 : Value} (un : Un fs [] H0 H' h0 h) (hok : HOk P w H' h) (ha : h0.get? a = none) (hHa : H' a = none)
   (hl : h.FunFrames base l) (hfree : ∀ b ∈ frs l, H' b = none) (hfs : ∀ b ∈ frs l, b ∈ fs \/ h0.get? b = none) (hl2 : ∀ b ∈ frs l, b ∈ frs l2 \/ h0.get? b = none)
   (hbs : bs = PySem.W.hideAll h (hid ++ frs l)) (hhid : ∀ b ∈ hid, h0.get? b = none /\ H' b = none)
   (st : bs.StaysIn h2) (ff : h2.FunFrames bs l2) (tr : h2.TracedW bs a c a0) (up : h.UpToSlots h2) : Flown P w fs H0 h0 H' h2 a c := by
 have inb : ∀ b o, h.get? b = some o -> b ∉ hid -> b ∉ frs l -> h2.get? b = some o := fun b o e n1 n2 => st b o (by
   rw [hbs]; exact PySem.W.hideAll_get _ e fun z => (List.mem_append.mp z).elim n1 n2)
 have nhid : ∀ b o, h0.get? b = some o -> b ∉ hid := fun b o e z => by rw [(hhid b z).1] at e; cases e
 have thid : ∀ b o, H' b = some o -> b ∉ hid := fun b o e z => by rw [(hhid b z).2] at e; cases e
 have tfr : ∀ b o, H' b = some o -> b ∉ frs l := fun b o e z => by rw [hfree b z] at e; cases e
 have slt : ∀ b o, h.get? b = some o -> b ∈ frs l -> ∃ sl, h2.get? b = some { o with slots := sl } := fun b o e hb => by
   obtain ⟨_, o', ho', hd⟩ := hl.mem hb; rw [e] at ho'; cases ho'; exact up b o e hd
 refine ⟨⟨fun b o e n hb _ => ?_, fun b o e n hb _ => ?_, un.free, fun b o e _ => ?_, un.tups, un.frzs, un.tbls⟩, fun b u e => ?_, ?_⟩
 . refine inb b o (un.keep b o e n hb (by simp)) (nhid b o e) fun z => ?_
   rcases hfs b z with q | q
   . exact hb q
   . rw [q] at e; cases e
 . obtain ⟨sl, e1⟩ := un.slot b o e n hb (by simp)
   by_cases hf : b ∈ frs l
   . obtain ⟨sl2, e2⟩ := slt b _ e1 hf
     exact ⟨sl2, e2⟩
   . exact ⟨sl, inb b _ e1 (nhid b o e) hf⟩
 . obtain ⟨o', e1⟩ := un.there b o e (by simp)
   by_cases hf : b ∈ frs l
   . obtain ⟨sl2, e2⟩ := slt b _ e1 hf
     exact ⟨_, e2⟩
   . exact ⟨_, inb b _ e1 (nhid b o e) hf⟩
 . refine (hok b u e).stay (fun c' v hc q => ?_) (fun _ q => q) fun _ _ q => q
   have ht : ∃ o, H' c' = some o := by
     rcases hc with z | z
     . rw [z]; exact ⟨_, e⟩
     . exact ⟨_, z⟩
   obtain ⟨o, ht⟩ := ht; exact inb c' v q (thid c' o ht) (tfr c' o ht)
 . obtain ⟨oe, vs, T, oT, ts, he, ⟨hcls, h0'⟩, hd, h1, hnT, hTe, hT, hdT, h3⟩ := tr
   have nin : ∀ o, h.get? T = some o -> T ∈ hid \/ T ∈ frs l := fun o e => by
     by_cases z : T ∈ hid ++ frs l
     . exact List.mem_append.mp z
     . rw [hbs, PySem.W.hideAll_get _ e z] at hnT; cases hnT
   have hT0 : h0.get? T = none := by
     cases q : h0.get? T with
     | none => rfl
     | some o =>
       obtain ⟨o', e1⟩ := un.there T o q (by simp)
       rcases nin o' e1 with z | z
       . rw [(hhid T z).1] at q; cases q
       . rcases hl2 T z with z' | z'
         . obtain ⟨_, o2, ho2, hd2⟩ := ff.mem z'
           rw [hT] at ho2; cases ho2
           exact absurd hdT (hd2 _)
         . rw [z'] at q; cases q
   have hTH : H' T = none := by
     cases q : H' T with
     | none => rfl
     | some o =>
       obtain ⟨ob, e1⟩ := ObjOk.here (hok T o q); rcases nin ob e1 with z | z
       . rw [(hhid T z).2] at q; cases q
       . rw [hfree T z] at q; cases q
   exact ⟨oe, vs, a0, T, oT, ts, he, hcls, hd, h0', ha, hHa, h1, hTe, hT, hdT, h3, hT0, hTH⟩
section
variable {P : Program} {w : World} {M : Model} {A : Around} {E : Value -> Shared -> Prop} {s : Shared} {env : Env} {outer : List Env} {L a : Addr} {c : Value} {fs : List Addr} {H0 H' : Hp} {h0 base : Heap} {Q : Unit -> Shared -> Prop}
theorem Fo {h : Heap} {l : List Env} (hl : h.FunFrames base l) {hid : List Addr} : h.FunFrames (PySem.W.hideAll h (hid ++ frs l)) l :=
 Bd hl fun b hb => PySem.W.hideAll_none _ (List.mem_append_right _ hb)
theorem Rb (hfr : A.frames = some (env :: outer)) (hl : s.heap.FunFrames base (env :: outer)) (hf : env.frame = some L) (un : Un fs [] H0 H' h0 s.heap) (hok : HOk P w H' s.heap) (m : Made s.heap H' h0 a c)
   (hfree : ∀ b ∈ frs (env :: outer), H' b = none) (hfs : ∀ b ∈ frs (env :: outer), b ∈ fs \/ h0.get? b = none)
   (h : ∀ h', Flown P w fs H0 h0 H' h' a c -> Q () { s with heap := h' }) : wpAny M A (leaving env (.ref a)) Q E s := by
 obtain ⟨oe, vs, a0, e1, e2, e3, e4, e5, e6, e7⟩ := m
 subst e2
 refine wpAny_leaving_firstW (base := PySem.W.hideAll s.heap ([a] ++ frs (env :: outer))) hfr (Fo hl) hf e1 (fun b o z => PySem.W.of_hideAll _ z) (PySem.W.hideAll_none _ (by simp)) e3 e7 e4 fun h' ⟨k1, k2, k3, k4⟩ => h h' ?_
 exact Am un hok e5 e6 hl hfree hfs (fun b hb => .inl hb) rfl (fun b hb => by rw [List.mem_singleton.mp hb]; exact ⟨e5, e6⟩) k1 k2 k3 k4
theorem Cm {h : Heap} {l : List Env} (hl : h.FunFrames base l) (m : Fly h H' h0 a c) : ∃ T a0, Heap.FlyingW (PySem.W.hideAll h ([a, T] ++ frs l)) l a c a0 h /\ ∀ b ∈ [a, T], h0.get? b = none /\ H' b = none := by
 obtain ⟨oe, vs, a0, T, oT, ts, e1, e2, e3, e4, e5, e6, e7, e8, e9, e10, e11, e12, e13⟩ := m
 refine ⟨T, a0, ⟨fun b o z => PySem.W.of_hideAll _ z, PySem.W.hideAll_none _ (by simp), Fo hl, oe, vs, T, oT, ts, e1, ⟨e2, e4⟩, e3, e7, PySem.W.hideAll_none _ (by simp), e8, e9, e10, e11⟩, fun b hb => ?_⟩
 rcases List.mem_cons.mp hb with z | z
 . rw [z]; exact ⟨e5, e6⟩
 . rw [List.mem_singleton.mp z]; exact ⟨e12, e13⟩
theorem Fly.none {h : Heap} (m : Fly h H' h0 a c) : h0.get? a = none /\ H' a = none := by
 obtain ⟨oe, vs, a0, T, oT, ts, e1, e2, e3, e4, e5, e6, _⟩ := m
 exact ⟨e5, e6⟩
theorem Vl (hfr : A.frames = some (env :: outer)) (hl : s.heap.FunFrames base (env :: outer)) (hf : env.frame = some L) (F : Flown P w fs H0 h0 H' s.heap a c)
   (hfree : ∀ b ∈ frs (env :: outer), H' b = none) (hfs : ∀ b ∈ frs (env :: outer), b ∈ fs \/ h0.get? b = none) (hL : h0.get? L = none)
   (h : ∀ h', Flown P w fs H0 h0 H' h' a c -> Q () { s with heap := h' }) : wpAny M A (leaving env (.ref a)) Q E s := by
 obtain ⟨T, a0, FW, hh⟩ := Cm hl F.fly
 refine wpAny_leaves_onW hfr hf FW fun h' ⟨k1, _, k2, k3⟩ k4 => h h' ?_
 refine Am F.un F.hok F.fly.none.1 F.fly.none.2 hl hfree hfs (l2 := outer) (fun b hb => ?_) rfl hh k1 k2 k3 k4
 unfold frs at hb
 rw [List.filterMap_cons, hf] at hb
 rcases List.mem_cons.mp hb with z | z
 . rw [z]; exact .inr hL
 . exact .inl z
theorem Wj (hfr : A.frames = some (env :: outer)) (hl : s.heap.FunFrames base (env :: outer)) (hf : env.frame = some L) (F : Flown P w fs H0 h0 H' s.heap a c)
   (hfree : ∀ b ∈ frs (env :: outer), H' b = none) (hfs : ∀ b ∈ frs (env :: outer), b ∈ fs \/ h0.get? b = none)
   (h : ∀ h', Flown P w fs H0 h0 H' h' a c -> h'.FunFrames base (env :: outer) -> Q () { s with heap := h' }) : wpAny M A (noteFrame (.ref a) env) (fun _ s2 => wpAny M A (setFlight (.ref a) none) Q E s2) E s := by
 obtain ⟨T, a0, FW, hh⟩ := Cm hl F.fly
 refine wpAny_looks_onW hfr hf FW fun h2 hH up2 => ?_
 refine wpAny_landsW hH fun h3 ⟨k1, _, k2, k3⟩ up3 => h h3 ?_ ?_
 . exact Am F.un F.hok F.fly.none.1 F.fly.none.2 hl hfree hfs (l2 := env :: outer) (fun b hb => .inl hb) rfl hh k1 k2 k3 (up2.trans up3)
 . refine hl.of_keeps fun b o e hd => ?_
   obtain ⟨sl, e2⟩ := (up2.trans up3) b o e hd; exact ⟨_, e2, rfl⟩
theorem Zr {l : List Env} (hl : s.heap.FunFrames base l) (F : Flown P w fs H0 h0 H' s.heap a c) (hfree : ∀ b ∈ frs l, H' b = none) (hfs : ∀ b ∈ frs l, b ∈ fs \/ h0.get? b = none)
   (h : ∀ h', Flown P w fs H0 h0 H' h' a c -> Q () { s with heap := h' }) : wpAny M A (setFlight (.ref a) none) Q E s := by
 obtain ⟨T, a0, FW, hh⟩ := Cm hl F.fly
 refine lands_againW FW fun h3 ⟨k1, _, k2, k3⟩ up3 => h h3 ?_
 exact Am F.un F.hok F.fly.none.1 F.fly.none.2 hl hfree hfs (l2 := l) (fun b hb => .inl hb) rfl hh k1 k2 k3 up3
end
def CXe (P : Program) (w : World) : CXT := fun outer H s E e s' => ∃ a c H', e = .ref a /\ s'.os = s.os /\ AllBare s'.gens /\ Flown P w (frs outer) H s.heap H' s'.heap a c /\ E c none H'
def Lv (X : Cx) (E : XK) : Prop := ∀ (pins : List (Addr × Obj)) (Z : St) (H : Hp) (s : Shared) (a : Addr) (c : Value), Inv X pins Z H s -> (Made s.heap H X.s₀.heap a c \/ Fly s.heap H X.s₀.heap a c) -> E c none H -> X.xe (.ref a) s
theorem lv_of {P : Program} {w : World} {K : PySem.W.Frag} {mg : Str -> Option Value} {base : Heap} {N : List Str} {qual : Str} {scope : Scope} {f : Addr} {cd : Value} {A : Around} {outer : List Env} {s : Shared} {H : Hp} {E : XK} :
   Lv (Nz (CXe P w) P w K mg base N qual scope f cd A outer s H E) E := fun pins Z H' s' a c I m hE => by
 have hL : (envOfC qual scope s.heap.objs.size f cd).frame = some s.heap.objs.size := rfl
 have hfs : ∀ b ∈ frs (envOfC qual scope s.heap.objs.size f cd :: outer), b ∈ frs outer \/ s.heap.get? b = none := fun b hb => by
   unfold frs at hb; rw [List.filterMap_cons, hL] at hb; rcases List.mem_cons.mp hb with z | z
   . rw [z]; exact .inr (Heap.get?_none_of_le (Nat.le_refl _))
   . exact .inl z
 have fin : ∀ h2, Flown P w (frs outer) H s.heap H' h2 a c -> CXe P w outer H s E (.ref a) { s' with heap := h2 } := fun h2 F => ⟨a, c, H', rfl, I.os, I.bare, F, hE⟩
 rcases m with m | m
 . exact Rb I.ok.frames I.stack hL I.base I.hok m I.stkFree hfs fin
 . exact Vl I.ok.frames I.stack hL ⟨I.base, I.hok, m⟩ I.stkFree hfs (Heap.get?_none_of_le (Nat.le_refl _)) fin
theorem Lv.passes {X : Cx} {E : XK} (L : Lv X E) (hex : X.ex = []) : Od (CXe X.prog X.w) X E := fun pins Z H s e s' I ⟨a, c, H', e1, e2, e3, F, hE⟩ => by
 subst e1
 have I' : Inv X pins Z H' s' := I.call' (ch := []) e2 F.un F.hok e3 (fun b z => absurd z (by simp))
 refine L pins Z H' s' a c I' (.inr (F.fly.back fun b o z => ?_)) hE
 exact I.base.there b o z (by rw [hex]; simp)
end Sm
end
section
namespace Sm
open PySem PySem.Spec PyProof.Rows L2
def spX (n : Nat) (m : List PyData -> Res PyData) (CN : Addr) : Sp := fun vs H Q E => ∃ G ds, Same G H /\ RepL G ds vs /\ ds.length = n /\ match m ds with
 | .ok d => ∀ v G' H', Grow G H G' H' -> Rep G' d v -> Q v H'
 | .exc _ => ∀ G' H', Grow G H G' H' -> E (.ref CN) none H'
 | .no => False
structure FnX (P : Program) (w : World) (K : PySem.W.Frag) (mg : Str -> Option Value) (base : Heap) (CN : Addr) (x : Str) (k n : Nat) (m : List PyData -> Res PyData) : Prop where
 ex : ∃ f fd ps, ps.length = n /\ FnOk P w K mg base (CXe P w) k f fd ps (spX n m CN) /\ mg x = some (.ref f) /\ PySem.W.keepIn K (.ref f) = true /\ Binds K fd ps []
def eX (CN : Addr) (E : XK) : EK := fun _ H => E (.ref CN) none H
section
variable {P : Program} {w : World} {K : PySem.W.Frag} {mg : Str -> Option Value} {base : Heap} {X : Cx} {N : List Str} {sc : Scope} {k : Nat} {df : Bool} {E : EK} {pos p : Pos} {a c e : Expr} {es : List Expr} {f g : Dn -> Res PyData} {fs : Dn -> Res (List PyData)} {x : Str} {CN : Addr} {Ex : XK}
theorem aF {x : Str} {st : Stmt} {ps : List Str} {n : Nat} {go : Dn -> Out} {m : List PyData -> Res PyData} (F : Def K mg x st ps) (S : FnScope N ps (A5 st)) (hn : ps.length = n)
   (body : ∀ X E, Cxt P w K mg base X N (A5 st) k true -> Lv X E -> X.ex = [] -> DSs X (eX CN E) (B9 st) go) (hm : m = fnD N go) : FnX P w K mg base CN x (k + 1) n m := by
 obtain ⟨f, fd, F, hmg, hb⟩ := F.ex
 have kp := F.kp
 obtain ⟨oc, od, kV, doc, pm, an, cdv, ct, osl, rfl, lk, hcd⟩ := F.ex
 subst hm
 refine ⟨f, _, ps, hn, fE lk hcd S (fun vs H Q E h => ?_) (fun A outer s H vs Q E hr h => ?_), hmg, kp, hb⟩
 . obtain ⟨G, ds, _, r, hl, _⟩ := h
   rw [<- r.length, hl, hn]
 . obtain ⟨G, ds, hG, r, hl, q⟩ := h
   refine ⟨_, body _ E ⟨rfl, rfl, rfl, rfl, rfl, rfl, rfl, rfl, hr, fun _ _ => rfl, PassesOwn.leaving⟩ lv_of rfl G H, G, _, Db hG r N, ?_⟩
   unfold fnD at q
   cases eg : go (D7 N ds) with
   | rt d' => rw [eg] at q; exact fun v G' H' g r' => q v G' H' g r'
   | nx δ => rw [eg] at q; exact fun Z G' H' S' => q _ G' H' S'.gr rfl
   | exc c => rw [eg] at q; exact fun G' H' g => q G' H' g
   | bk _ => rw [eg] at q; exact (show False from q).elim
   | ct _ => rw [eg] at q; exact (show False from q).elim
   | no => rw [eg] at q; exact (show False from q).elim
theorem Ts {j n : Nat} {m : List PyData -> Res PyData} (C : Cxt P w K mg base X N sc k df) (L : Lv X Ex) (hex : X.ex = []) (F : FnX P w K mg base CN x j n m) (hj : j <= k) (h : okGl sc x = true) (ha : DA X (eX CN Ex) (e :: es) n fs)
   (he : starEach (e :: es) X.env = (false, eval e X.env) :: starEach es X.env := by rfl) (hpl : (backTo pos (starEach es X.env)).any (·.1) = false := by rfl) : DE X (eX CN Ex) (.Call (.Name x p) (e :: es) [] pos) (B7 fs m) := by
 obtain ⟨f, fd, ps, hps, F, hm, hk, hb⟩ := F.ex
 obtain ⟨h1, h2, h3⟩ := okGl.gl C h
 have F' : FnOk X.prog X.w X.K X.mg X.base (CXe X.prog X.w) j f fd ps (spX n m CN) := by rw [C.hP, C.hw, C.hK, C.hmg, C.hb]; exact F
 refine PE.imp (Dh F' (C.room.mono hj) h1 (by rw [C.hmg]; exact hm) (by rw [C.hK]; exact hk) (by rw [C.hK]; exact hb) .nil (L.passes hex) ha.pa h2 he hpl) fun Z H Q ⟨G, δ, S, aft⟩ => ?_
 refine P4 (W := fun G H r => Aft (eX CN Ex) G H r Q) S aft (fun g a => Aft.grow g a) (fun c a => a) (fun a => a) fun ds vs G1 H1 e g1 r1 S1 a1 => ?_
 rw [List.append_nil]
 refine ⟨G1, ds, S1.sub, r1, ha.len δ ds e, ?_⟩
 cases q : m ds with
 | ok d => rw [q] at a1; exact a1
 | exc c => rw [q] at a1; exact a1
 | no => rw [q] at a1; exact a1
noncomputable def noX (r : Res PyData) : Res PyData := match r with
 | .ok d => .ok d
 | _ => .no
noncomputable def Cb (fs : Dn -> Res (List PyData)) (m : List PyData -> Res PyData) : Dn -> Res PyData := fun δ => (fs δ).bind fun ds => noX (m ds)
theorem dW {j n : Nat} {m : List PyData -> Res PyData} (C : Cxt P w K mg base X N sc k df) (F : Fn P w K mg base x j n m) (hj : j <= k) (h : okGl sc x = true) (ha : DA X E (e :: es) n fs)
   (he : starEach (e :: es) X.env = (false, eval e X.env) :: starEach es X.env := by rfl) (hpl : (backTo pos (starEach es X.env)).any (·.1) = false := by rfl) : DE X E (.Call (.Name x p) (e :: es) [] pos) (Cb fs m) := by
 obtain ⟨f, fd, ps, hps, F, hm, hk, hb⟩ := F.ex
 obtain ⟨h1, h2, h3⟩ := okGl.gl C h
 have F' : FnOk X.prog X.w X.K X.mg X.base CX0 j f fd ps (spD n m) := by rw [C.hP, C.hw, C.hK, C.hmg, C.hb]; exact F
 refine PE.imp (Dh F' (C.room.mono hj) h1 (by rw [C.hmg]; exact hm) (by rw [C.hK]; exact hk) (by rw [C.hK]; exact hb) .nil (Ss (X := X)) ha.pa h2 he hpl) fun Z H Q ⟨G, δ, S, aft⟩ => ?_
 refine P4 (W := fun G H r => Aft E G H r Q) S aft (fun g a => Aft.grow g a) (fun c a => a) (fun a => a) fun ds vs G1 H1 e g1 r1 S1 a1 => ?_
 rw [List.append_nil]
 cases q : m ds with
 | ok d => rw [q] at a1; exact ⟨G1, ds, d, S1.sub, r1, ha.len δ ds e, q, a1⟩
 | exc c => rw [q] at a1; exact (show False from a1).elim
 | no => rw [q] at a1; exact (show False from a1).elim
noncomputable def Mo (f : Dn -> Res PyData) : Dn -> Out := fun δ => M8 (f δ) fun _ => .nx δ
theorem Xz (h : DE X E e f) (hs : swapsWith e none pos.line X.env = pure false := by rfl) : DS X E (.Expr e pos) (Mo f) := fun G0 H0 => PS.imp (Gn h hs) fun D Z H ⟨G, δ, S, a⟩ =>
 Ap S a fun d v G1 H1 g1 r1 S1 a1 => a1 Z G1 H1 S1
noncomputable def Er (d : PyData) : Bool := isDisplay d && d.showable && !d.hasDict && decide (d.shown.length <= 1000) && decide (d.depth <= 8)
structure ExcAt (K : PySem.W.Frag) (mg : Str -> Option Value) (x : Str) (C : Addr) : Prop where
 bound : mg x = some (.ref C)
 obj : PySem.W.excIn K C [.type "ValueError", .type "Exception", .type "BaseException", .type "object"] "ValueError.__new__" = true
theorem ExcAt.own {x : Str} {C : Addr} (O : ExcAt K mg x C) {h : Heap} (X : K.In h) : OwnCls x C [.type "ValueError", .type "Exception", .type "BaseException", .type "object"] "ValueError.__new__" mg h := by
 refine ⟨O.bound, ?_⟩
 have q := O.obj
 unfold PySem.W.excIn at q
 split at q
 . rename_i dd cd sl ho
   split at q
   . rename_i C' bm k0 k1 k2 k3 n k5 hm hs
     simp only [Bool.and_eq_true, beq_iff_eq, Bool.not_eq_true'] at q; obtain ⟨⟨⟨⟨⟨rfl, rfl⟩, hdel⟩, ht⟩, hok⟩, hni⟩ := q; obtain ⟨nm, bs, mro, ns, qn, hd, sn, sub, ab, col, del⟩ := cd; dsimp only at hm hdel hok hni; subst hm hdel; have hsl : sl = #[k0, k1, k2, k3, some (.builtin "ValueError.__new__"), k5] := by
       obtain ⟨l⟩ := sl; simp only at hs; rw [hs]
     subst hsl; exact ⟨bm, ns, nm, qn, bs, hd, sn, sub, ab, col, dd, k0, k1, k2, k3, k5, _, X _ _ ho, .of_isNs (PySem.W.isNs_of_in X hok), PySem.W.nsMap_none_of_in X hok hni, PySem.W.tail_of_in X ht⟩
   . cases q
 . cases q
theorem fmt_r {M : Model} {A : Around} {E : Value -> Shared -> Prop} {s : Shared} {env : Env} {value : Expr} {pos : Pos} {Q : Value -> Shared -> Prop}
   (h : wpAny M A (eval value env) (fun v s₁ => wpAny M A (pyReprObj v) (fun u s₂ => wpAny M A (formatField u Str.empty) Q E s₂) E s₁) E s) : wpAny M A (eval (.FormattedValue value 114 none pos) env) Q E s := by
 show wpAny M A (do let v <- eval value env; standAt pos; formatted pos (<- holding [v] (converted 114 v)) none) Q E s
 refine wpAny_bind (wpAny_mono h (fun v s₁ h₁ => ?_) fun _ _ x => x)
 refine wpAny_bind (wpAny_standAt ?_)
 show wpAny _ _ (do let v' <- holding [v] (pyReprObj v); formatField v' Str.empty) Q E s₁
 exact wpAny_bind (wpAny_holding h₁)
end
end Sm
end
section
namespace Sm
open PySem PySem.Spec PyProof.Rows L2
section
variable {P : Program} {w : World} {K : PySem.W.Frag} {mg : Str -> Option Value} {base : Heap} {X : Cx} {N : List Str} {sc : Scope} {k : Nat} {df : Bool} {E : EK} {pos p p2 : Pos} {a b c e : Expr} {es : List Expr} {f g : Dn -> Res PyData} {x : Str} {i : Nat}
theorem Lo {pins : List (Addr × Obj)} {Z : St} {H : Hp} {s : Shared} {A : Around} {E : Value -> Shared -> Prop} {d b : Addr} {kvs : List (List Key × V)} {kk : List Key} {v : V} {r : Value} {Q : Unit -> Shared -> Prop} (hu : A.units < cLine) (I : Inv X pins Z H s) (e : H d = some (.dT kvs)) (eb : H b = some (.tup (kk.map kV))) (l : kvs.length < sizeLine) (rv : RelV v r)
   (h : ∀ s', Inv X pins Z (upd H d (.dT (W6 kvs kk v))) s' -> Heap.SameBut d s.heap s'.heap -> Q () s') : wpAny (model X.prog X.w) A (dictSet d (.ref b) r) Q E s := by
 obtain ⟨z, hd, xs, rel, dd⟩ := fF I.hok e
 have hz : xs.length <= sizeLine := by rw [<- Paired.length rel]; exact z
 have hl : (W6 kvs kk v).length <= sizeLine := by have := X0 kvs kk v; omega
 refine wpAny_dictSet_heap (hsz := hz) hu (Cj I.hok eb) dd fun h' dd' hs => h _ ?_ hs
 obtain ⟨q, es, ep, hq, h2, h3, h4, _, h5⟩ := dd'
 refine Nv I (by rw [e]; exact True.intro) hs ⟨q, hq⟩ ⟨hl, hd, _, (rel.put kk eb rv).keeps fun c ys ec => ?_, q, es, ep, hq, h2, h3, h4, h5⟩
 rw [A8 (Bv ec e (fun z => nomatch z))]
 exact ec
def fP (tk tv : TE) : TE := fun Z H Q => ∀ p, H p = none -> tk Z (upd H p (.dT [])) fun y H1 => tv Z H1 fun v H2 => ∃ kk b, H2 p = some (.dT []) /\ y = .ref b /\ H2 b = some (.tup (kk.map kV)) /\ Q (.ref p) (upd H2 p (.dT [(kk, v)]))
theorem Yt {tk tv : TE} (hu : X.A.units < cLine) (hk : PE X a tk) (hv : PE X b tv) : PE X (.Dict [some a] [b] pos) (fP tk tv) := by
 intro pins s Z H Q I q
 have hn := I.hok.fresh (Nat.le_refl s.heap.objs.size)
 have I1 := I.laid (a := s.heap.objs.size) (o := .dT []) (h' := s.heap.push { cls := .type "dict", data := .dict #[] }) (t' := s.toks) (fun _ _ q => Heap.get?_push_of_some _ q) (Nat.le_refl _) (Jg s.heap I.big)
 have hp : PPs X pos [some a] [b] [(tk, tv)] := Yn hk hv cD
 refine wpAny_Dict_any rfl rfl (by simp) (by simp) (thn (hp pins _ Z _ (fun ps H2 => match ps with
   | [(y, v)] => ∃ kk b, H2 s.heap.objs.size = some (.dT []) /\ y = .ref b /\ H2 b = some (.tup (kk.map kV)) /\ Q (.ref s.heap.objs.size) (upd H2 s.heap.objs.size (.dT [(kk, v)]))
   | _ => False) I1 (q _ hn)) fun ws s2 ⟨ps, H2, I2, rel, hq⟩ => ?_)
 split at hq
 . rename_i y v
   obtain ⟨kk, bb, e1, e2, e3, q2⟩ := hq; subst e2
   cases rel with
   | @cons p0 q0 _ _ h t =>
     cases t; obtain ⟨u1, u2⟩ := q0; obtain ⟨r1, r2⟩ := h
     cases (show u1 = Value.ref bb from r1)
     show wpAny _ _ (storeAll s.heap.objs.size [(Value.ref bb, u2)]) _ _ _
     unfold storeAll; simp only [List.forIn_cons, List.forIn_nil]; refine wpAny_bind (wpAny_bind (Lo hu I2 e1 e3 (by decide) r2 fun s3 I3 _ => wpAny_pure ?_))
     exact wpAny_pure ⟨.ref s.heap.objs.size, _, I3, rfl, q2⟩
 . exact hq.elim
noncomputable def Mp (i : Nat) (fk fv : Dn -> Res PyData) : Dn -> Out := fun δ => M8 (fk δ) fun kd => M8 (fv δ) fun v => match P0 kd with
 | some kk => .nx (δ.set i (.ow (.dict [(.tuple (kk.map M4), v)])))
 | none => .no
theorem bQ (C : Cxt P w K mg base X N sc k df) (i : Nat) (ho : okSet N sc df i x = true) (hk : DE X E a f) (hv : DE X E b g) (hs : swapsWith (.Dict [some a] [b] p2) (some (.Name x p)) pos.line X.env = pure false := by rfl) :
   DS X E (.Assign [.Name x p] (.Dict [some a] [b] p2) pos) (Mp i f g) := fun G0 H0 => by
 obtain ⟨h1, h2, h3, h4⟩ := okSet.ok C ho
 refine PS.imp (Ba h1 h2 h3 (Yt (by have := C.hu; omega) hk hv) hs h4) fun D Z H ⟨G, δ, S, aft⟩ q hq => ?_
 have S1 := S.grow (Grow.own (o := .dT []) S.sr.sub hq)
 unfold Mp at aft
 refine Ap S1 aft fun kd y G1 H1 g1 r1 S2 a1 => ?_
 refine Ap S2 a1 fun vd v G2 H2 g2 r2 S3 a2 => ?_
 cases kd with
 | tuple ds =>
   cases ek : O4 ds with
   | none => simp only [P0, ek] at a2; exact (show False from a2).elim
   | some kk =>
     simp only [P0, ek] at a2; obtain ⟨pk, xs, rfl, hpk, lk⟩ := r1; obtain ⟨e1, e2⟩ := N8 lk ek; subst e1; have hq2 : H2 q = some (.dT []) := g2.h _ _ (g1.h _ _ B3); have gq2 : G2 q = none := by
       cases z : G2 q with
       | none => rfl
       | some u =>
         rcases g2.fr q u z with z1 | z1 | ⟨ys, rfl⟩
         . rcases g1.fr q u z1 with z2 | z2 | ⟨ys, rfl⟩
           . rw [S.sr.sub.free hq] at z2; cases z2
           . rw [B3] at z2; cases z2
           . have := g1.gh _ _ z1; rw [g1.h _ _ B3] at this; cases this
         . rw [g1.h _ _ B3] at z1; cases z1
         . have := g2.gh _ _ z; rw [hq2] at this; cases this
     refine ⟨kk, pk, hq2, rfl, S3.sr.sub _ _ (g2.g _ _ hpk), ?_⟩; have h0 : H0 q = none := S.gr.h.free hq; have hsub : Same G2 (upd H2 q (.dT [(kk, v)])) := fun b u e => by rw [A8 (B5 e gq2)]; exact S3.sr.sub _ _ e
     have S4 : SSt G0 H0 G2 (upd H2 q (.dT [(kk, v)])) Z δ := by
       refine ⟨⟨S3.gr.g, fun b u e => by rw [A8 (B5 e h0)]; exact S3.gr.h _ _ e, hsub, S3.gr.fr⟩, ⟨hsub, S3.sr.len, fun j s e => ?_, S3.sr.ap⟩, S3.fr⟩
       have hs := S3.sr.sl j s e
       cases s with
       | un => trivial
       | sh d => exact hs
       | fd _ => exact hs
       | ow d2 =>
         obtain ⟨a, e1, n1, ok⟩ := hs; have hne : a ≠ q := fun z => W3 S hq j d2 e (z ▸ e1)
         refine ⟨a, e1, n1, ?_⟩
         cases d2 with
         | list ds => obtain ⟨xs, q, r⟩ := ok; exact ⟨xs, by rw [A8 hne]; exact q, r⟩
         | dict kvs => obtain ⟨xs, q, r⟩ := ok; exact ⟨xs, by rw [A8 hne]; exact q, r⟩
         | tuple xs => exact OwnK.keep (Same.refl _) (fun o q => by rw [A8 hne]; exact q) ok
         | _ => exact (show False from ok).elim
     exact a2 _ G2 _ (S4.set_ow h0 gq2 ⟨[(kk, v)], B3, rfl, RepL.cons r2 rfl⟩ (W3 S hq))
 | _ => exact (show False from a2).elim
end
end Sm
end
section
namespace Sm
open PySem PySem.Spec PyProof.Rows L2
end Sm
end
section
namespace Sm
open PySem PySem.Spec PyProof.Rows L2 PySem.Builtin.Str
section
variable {P : Program} {w : World} {K : PySem.W.Frag} {mg : Str -> Option Value} {base : Heap} {X : Cx} {N : List Str} {sc : Scope} {k : Nat} {df : Bool} {E : EK} {pos p : Pos} {a b e : Expr} {fs : Dn -> Res (List PyData)} {x : Str} {i : Nat}
noncomputable def Q5 : List PyData -> Option (List Int)
 | [] => some []
 | .int i :: ds => (Q5 ds).map (i :: ·)
 | _ :: _ => none
noncomputable def Ra : List Int -> Option Int
 | [] => none
 | i :: r => some (r.foldl max i)
noncomputable def Dr : List PyData -> Option PyData
 | [.list ds] => ((Q5 ds).bind Ra).map .int
 | _ => none
theorem Jb {G : Hp} : ∀ {ds : List PyData} {xs : List V} {us : List Value} {is : List Int}, RepL G ds xs -> Vals xs us -> Q5 ds = some is -> us.length = is.length /\ ∀ (j : Nat) (v : Value), us[j]? = some v -> ∃ t, v = Value.int ((is[j]?).getD 0) t
 | [], _, _, _, r, q, e => by cases (show _ = _ from r); cases q; cases e; exact ⟨rfl, fun j v h => by simp at h⟩
 | .int b :: ds, _, _, _, r, q, e => by
   obtain ⟨x, t, rfl, h, l⟩ := r
   cases (show _ = _ from h)
   cases q with
   | cons q qs =>
     obtain ⟨tk, rfl⟩ := q; obtain ⟨is, e1, rfl⟩ := Option.map_eq_some_iff.mp e; obtain ⟨h1, h2⟩ := Jb l qs e1; refine ⟨by simp [h1], fun j v h => ?_⟩
     cases j with
     | zero => cases h; exact ⟨tk, rfl⟩
     | succ j => exact h2 j v h
 | .none :: _, _, _, _, _, _, e => by cases e
 | .bool _ :: _, _, _, _, _, _, e => by cases e
 | .str _ :: _, _, _, _, _, _, e => by cases e
 | .list _ :: _, _, _, _, _, _, e => by cases e
 | .tuple _ :: _, _, _, _, _, _, e => by cases e
 | .dict _ :: _, _, _, _, _, _, e => by cases e
theorem Dm : ∀ (r : List Int) (i M : Int), i <= M -> (∀ a ∈ r, a <= M) -> r.foldl max i <= M
 | [], _, _, h, _ => h
 | a :: r, i, M, h, q => Dm r _ M (by have := q a (.head _); omega) fun b hb => q b (.tail _ hb)
theorem Dj : ∀ (r : List Int) (i : Int), i <= r.foldl max i /\ ∀ a ∈ r, a <= r.foldl max i
 | [], i => ⟨Int.le_refl _, fun _ h => nomatch h⟩
 | a :: r, i => by
   obtain ⟨h1, h2⟩ := Dj r (max i a); refine ⟨by simp only [List.foldl_cons]; omega, fun b hb => ?_⟩
   cases hb with
   | head => simp only [List.foldl_cons]; omega
   | tail _ hb => exact h2 b hb
theorem Ld {is : List Int} {M : Int} (e : Ra is = some M) : ((is[argBest (fun i j => decide ((is[i]?).getD 0 > (is[j]?).getD 0)) (is.length - 1)]?).getD 0) = M /\ 0 < is.length := by
 cases is with
 | nil => cases e
 | cons i r =>
   have e' : r.foldl max i = M := by cases e; rfl
   obtain ⟨h1, h2⟩ := argBest_gt (fun j => ((i :: r)[j]?).getD 0) ((i :: r).length - 1)
   refine ⟨?_, by simp⟩
   generalize hB : argBest (fun a b => decide (((i :: r)[a]?).getD 0 > ((i :: r)[b]?).getD 0)) ((i :: r).length - 1) = B at *
   have hlt : B < (i :: r).length := by simp only [List.length_cons] at h1 ⊢; omega
   obtain ⟨l1, l2⟩ := Dj r i; rw [e'] at l1 l2; apply Int.le_antisymm
   . rw [List.getElem?_eq_getElem hlt]
     simp only [Option.getD_some]; have hm := List.getElem_mem hlt
     cases List.mem_cons.mp hm with
     | inl z => omega
     | inr z => exact l2 _ z
   . rw [<- e']
     refine Dm r i _ ?_ fun a ha => ?_
     . have := h2 0 (Nat.zero_le _)
       simpa using this
     . obtain ⟨j, hj, rfl⟩ := List.getElem_of_mem ha
       have := h2 (j + 1) (by simp only [List.length_cons]; omega)
       rw [List.getElem?_cons_succ, List.getElem?_eq_getElem hj] at this; exact this
theorem Ro (hc : X.calm = true) : R0 X (.builtin "max") (rCD Dr) := by
 intro pins s Z H xs us Q I r ⟨G, ds, d, hG, rl, e, q⟩
 unfold Dr at e
 split at e
 . rename_i ys
   obtain ⟨M, e1, rfl⟩ := Option.map_eq_some_iff.mp e; obtain ⟨is, e0, e1⟩ := Option.bind_eq_some_iff.mp e1; obtain ⟨v, rfl, a, vs, rfl, h1, l1⟩ := Cf rl; obtain ⟨u, rfl, ru⟩ := Fk r; cases ru; obtain ⟨z, its, n, rv, e2⟩ := O7 I hG h1; obtain ⟨hb1, hb2⟩ := Jb l1 rv e0; obtain ⟨m1, m2⟩ := Ld e1; have hl : s.heap.IsList a its.toArray := ⟨_, e2, rfl, n, rfl⟩; have hlt : a < s.heap.objs.size := Heap.lt_size e2; refine call_max_walk (wpAny_pyIter_list hl ?_); refine ⟨s.heap.objs.size, [s.heap.objs.size, a], [s.heap.objs.size], its.toArray.size, _, _, fun i j => decide ((is[i]?).getD 0 > (is[j]?).getD 0), rfl, Walks.list (A := X.A.in1) (I.ok.hd hc) _ a (Nat.ne_of_lt hlt) its.toArray,
     ⟨⟨_, Heap.get?_push_size _ rfl, rfl, rfl⟩, hl.push _⟩, ?_, ?_, CmpOf.ints_gt (fun j => (is[j]?).getD 0) (fun j v hP => hb2 j v (by simpa using hP)), fun v h' tk hP hk => ?_⟩
   . intro b hb
     simp only [List.mem_cons, List.not_mem_nil, or_false] at hb; rcases hb with rfl | rfl
     . exact Heap.lt_size (Heap.get?_push_size _ rfl)
     . exact Heap.lt_size (Heap.get?_push_of_some _ e2)
   . rw [List.size_toArray, hb1]; exact m2
   . have hP' : its[argBest (fun i j => decide ((is[i]?).getD 0 > (is[j]?).getD 0)) (its.toArray.size - 1)]? = some v := by simpa using hP
     rw [List.size_toArray, hb1] at hP'; obtain ⟨t, rfl⟩ := hb2 _ _ hP'; rw [m1]; exact ⟨.int M, H, I.kept (Nj hk), ⟨t, rfl⟩, q _ G H (Grow.refl hG) rfl⟩
 . cases e
theorem aM (C : Cxt P w K mg base X N sc k df) (h : okGl sc "max" = true) (hm : mg "max" = none) (ha : DA X E [e] 1 fs)
   (he : starEach [e] X.env = (false, eval e X.env) :: starEach [] X.env := by rfl) (hpl : (backTo pos (starEach [] X.env)).any (·.1) = false := by rfl) : DE X E (.Call (.Name "max" p) [e] [] pos) (vFn fs Dr) :=
 Jj C (Ro C.calm) h hm (by decide +kernel) ha he hpl
end
end Sm
end
section
namespace Sm
open PySem PySem.Spec PyProof.Rows L2
end Sm
end
section
namespace Sm
open PySem PySem.Spec PyProof.Rows L2
theorem Bn {α : Type} {a y : Str} {n c : α} {cl : List (Str × α)} (h : ((y, n) :: cl).lookup a = some c) : (a = y /\ c = n) \/ (a ≠ y /\ cl.lookup a = some c) := by
 rw [List.lookup_cons] at h
 cases q : a == y with
 | true => rw [q] at h; cases h; exact .inl ⟨eq_of_beq q, rfl⟩
 | false => rw [q] at h; exact .inr ⟨fun z => by rw [z] at q; simp at q, h⟩
theorem dF {α : Type} {y : Str} {n : α} {cl : List (Str × α)} : ((y, n) :: cl).lookup y = some n := by rw [List.lookup_cons]; simp
theorem fA {α : Type} {a y : Str} {n : α} {cl : List (Str × α)} (h : a ≠ y) : ((y, n) :: cl).lookup a = cl.lookup a := by
 rw [List.lookup_cons]
 cases q : a == y with
 | true => exact absurd (eq_of_beq q) h
 | false => rfl
theorem Jr : ∀ (names : List (Str × NameKind)) (n : Nat) (acc : List (Str × Addr)) (h : Heap), names.filter (fun y => y.2 == .cell) = [] -> cellsFrom n names acc = acc /\ pushCells h names = h
 | [], _, _, _, _ => ⟨rfl, rfl⟩
 | (a, kd) :: r, n, acc, h, e => by
   cases q : kd == NameKind.cell with
   | true => rw [List.filter_cons_of_pos (by exact q)] at e; cases e
   | false =>
     rw [List.filter_cons_of_neg (by simp [q])] at e
     obtain ⟨i1, i2⟩ := Jr r n acc h e; unfold cellsFrom pushCells; rw [q]; exact ⟨i1, i2⟩
theorem Ls {y : Str} : ∀ (names : List (Str × NameKind)) (n : Nat) (acc : List (Str × Addr)) (h : Heap), names.filter (fun y => y.2 == .cell) = [(y, .cell)] -> cellsFrom n names acc = (y, n) :: acc /\ pushCells h names = h.push { cls := .type "cell", data := .cell none }
 | [], _, _, _, e => by cases e
 | (a, kd) :: r, n, acc, h, e => by
   cases q : kd == NameKind.cell with
   | true =>
     rw [List.filter_cons_of_pos (by exact q)] at e; obtain ⟨e1, e2⟩ := List.cons.inj e; cases e1; obtain ⟨i1, i2⟩ := Jr r (n + 1) ((y, n) :: acc) (h.push { cls := .type "cell", data := .cell none }) e2; unfold cellsFrom pushCells; rw [q]; exact ⟨i1, i2⟩
   | false =>
     rw [List.filter_cons_of_neg (by simp [q])] at e
     obtain ⟨i1, i2⟩ := Ls r n acc h e; unfold cellsFrom pushCells; rw [q]; exact ⟨i1, i2⟩
theorem dN {M : Model} {A : Around} {E : Value -> Shared -> Prop} {s : Shared} {scope : Scope} {gl : Addr} {cl : List (Str × Addr)} {qual y : Str} {out : Env} {Q : Env -> Shared -> Prop} (h1 : scope.names.filter (fun y => y.2 == .cell) = [(y, .cell)])
   (h : Q (newEnv scope s.heap.objs.size gl ((y, s.heap.objs.size + 1) :: cl) qual none .none (some out) builtinsNs) { s with heap := (s.heap.push { cls := .type "dict", data := .dict #[] }).push { cls := .type "cell", data := .cell none } }) :
   wpAny M A (newFunctionEnv scope gl cl [] qual none .none (some out)) Q E s := by
 simp only [newFunctionEnv, Option.isSome_some, if_true]
 refine wpAny_bind (wpAny_alloc (wpAny_bind (wpAny_layCells _ (fun name kind cells => by cases z : kind == NameKind.cell <;> simp [z]) _ _ _ _ ?_)))
 have hz : ({ s with heap := s.heap.push { cls := .type "dict", data := .dict #[] } } : Shared).heap.objs.size = s.heap.objs.size + 1 := Heap.size_push ..
 obtain ⟨i1, i2⟩ := Ls (y := y) scope.names (s.heap.objs.size + 1) cl (s.heap.push { cls := .type "dict", data := .dict #[] }) h1
 rw [hz, i1, i2]
 rw [List.forIn_nil]
 exact wpAny_bind (wpAny_pure (wpAny_pure h))
noncomputable def Jy (X : Cx) (s₃ : Shared) (H₃ : Hp) (scope : Scope) (cl : List (Str × Addr)) (N' : List Str) (fp : List Addr) (y : Str) : Cx :=
 { X with N := N', s₀ := s₃, H₀ := H₃, env := { compEnvC scope cl s₃.heap.objs.size X.env with cells := (y, s₃.heap.objs.size + 1) :: cl }, outer := X.stack, stack := X.stack, ex := fp, fn := fun z => z == y, pn := [], xe := fun _ _ => False }
structure Clos2 (X : Cx) (scope : Scope) (cl : List (Str × Addr)) (y : Str) : Prop where
 clo : closureFor scope X.env = pure cl
 sub : ∀ x c, cl.lookup x = some c -> X.env.cells.lookup x = some c
 has : ∀ x, x ≠ y -> (relabel scope X.env).names.lookup x = some .cell \/ (relabel scope X.env).names.lookup x = some .free -> ∃ c, cl.lookup x = some c
structure CompFacts2 (X : Cx) (scope : Scope) (xs capN : List Str) (cap : List Nat) (y : Str) : Prop where
 kind : scope.kind = .function
 one : scope.names.filter (fun y => y.2 == .cell) = [(y, .cell)]
 names : ∀ y ∈ scope.names, y.2 = .local -> scope.names.lookup y.1 = some .local
 clos : ∃ cl, Clos2 X scope cl y
 hcap : cap.map (fun j => X.N[j]?) = capN.map some
 hcl : ∀ x ∈ capN, (relabel scope X.env).names.lookup x = some .cell \/ (relabel scope X.env).names.lookup x = some .free
 hvis : ∀ x ∈ capN, X.env.scope.names.lookup x = some .cell \/ X.env.scope.names.lookup x = some .free
 hy : ∀ x ∈ capN, x ≠ y
section
variable {X : Cx} {pins : List (Addr × Obj)} {Z : St} {H : Hp} {s₃ : Shared}
theorem fH {scope : Scope} {cl : List (Str × Addr)} {y : Str} (I : Inv X pins Z H s₃) (C : Clos2 X scope cl y) {a : Str} {c : Addr} (h : cl.lookup a = some c) : c < s₃.heap.objs.size := by
 obtain ⟨v, q⟩ := I.cell a c (C.sub a c h)
 exact q.lt
theorem eE {y : Str} {scope : Scope} {cl : List (Str × Addr)} {N' : List Str} {fp : List Addr} (I : Inv X pins Z H s₃) (hk : scope.kind = .function) (C : Clos2 X scope cl y) (hfp : ∀ b ∈ fp, Ct X pins H b) (hlt : ∀ b ∈ fp, b < s₃.heap.objs.size) :
   (Jy X s₃ H scope cl N' fp y).Ok where
 mod := I.ok.mod
 kind := hk
 glob := I.ok.glob
 blt := I.ok.blt
 above := Nat.le_refl _
 inj := fun a b c h1 h2 => by
   have g1 : ((y, s₃.heap.objs.size + 1) :: cl).lookup a = some c := h1; have g2 : ((y, s₃.heap.objs.size + 1) :: cl).lookup b = some c := h2; rcases Bn g1 with ⟨e1, f1⟩ | ⟨e1, f1⟩ <;> rcases Bn g2 with ⟨e2, f2⟩ | ⟨e2, f2⟩
   . rw [e1, e2]
   . subst f1; exact absurd (fH I C f2) (Nat.not_lt_of_le (Nat.le_succ _))
   . subst f2; exact absurd (fH I C f1) (Nat.not_lt_of_le (Nat.le_succ _))
   . exact I.ok.inj a b c (C.sub a c f1) (C.sub b c f2)
 has := fun a h => by
   by_cases e : a = y
   . exact ⟨_, by rw [e]; exact dF⟩
   . obtain ⟨c, z⟩ := C.has a e h
     exact ⟨c, by show ((y, s₃.heap.objs.size + 1) :: cl).lookup a = _; rw [fA e]; exact z⟩
 cab := fun a c h e => by
   have g1 : ((y, s₃.heap.objs.size + 1) :: cl).lookup a = some c := e; rcases Bn g1 with ⟨e1, f1⟩ | ⟨e1, f1⟩
   . show s₃.heap.objs.size <= c; omega
   . exact absurd (eq_of_beq h) e1
 hd := I.ok.hd
 frames := I.ok.frames
 stk := .inl rfl
 exf := fun b hb => ⟨Nat.ne_of_lt (hlt b hb), fun a c h => by
   have g1 : ((y, s₃.heap.objs.size + 1) :: cl).lookup a = some c := h; rcases Bn g1 with ⟨e1, f1⟩ | ⟨e1, f1⟩
   . subst f1; intro z; have := hlt b hb; rw [<- z] at this; exact absurd this (Nat.not_lt_of_le (Nat.le_succ _))
   . exact (hfp b hb).2.2.2.2.1 a c (C.sub a c f1)⟩
 bs := fun b o e => I.bs b o e
 bsz := Nat.le_trans I.ok.bsz I.sz
 noex := fun b o e hb => by
   rcases (hfp b hb).2.2.2.1 with z | z
   . exact I.ok.noex b o e z
   . exact absurd (Nat.lt_of_lt_of_le (Heap.lt_size e) (Nat.le_trans I.ok.bsz z)) (Nat.lt_irrefl _)
 exfs := fun b hb z => by
   rcases List.mem_cons.mp (I.stkSub b z) with q | q
   . exact (hfp b hb).2.1 q
   . exact (hfp b hb).2.2.1 q
 funs := I.stack
 frf := I.stkFree
theorem aY {y : Str} {scope : Scope} {cl : List (Str × Addr)} {xs : List Str} {cap : List Nat} {capN : List Str} {fp : List Addr} {h₁ : Heap} {tk : Nat} (I : Inv X pins Z H s₃) (hk : scope.kind = .function) (C : Clos2 X scope cl y) (hfp : ∀ b ∈ fp, Ct X pins H b) (hlt : ∀ b ∈ fp, b < s₃.heap.objs.size)
   (hcap : cap.map (fun j => X.N[j]?) = capN.map some) (hcl : ∀ x ∈ capN, (relabel scope X.env).names.lookup x = some .cell \/ (relabel scope X.env).names.lookup x = some .free)
   (hvis : ∀ x ∈ capN, X.env.scope.names.lookup x = some .cell \/ X.env.scope.names.lookup x = some .free) {m : Str -> Option Value}
   (hns : h₁.Ns s₃.heap.objs.size m) (old : ∀ b o, s₃.heap.get? b = some o -> h₁.get? b = some o) (hy : ∀ x ∈ capN, x ≠ y) (hcell : h₁.IsCell (s₃.heap.objs.size + 1) none) :
   Inv (Jy X s₃ H scope cl (xs ++ capN) fp y) [] (xs.map (fun _ => none) ++ Q9 Z cap) H { s₃ with heap := h₁, toks := tk } := by
 have hlen : cap.length = capN.length := by simpa using congrArg List.length hcap
 refine ⟨eE I hk C hfp hlt, rfl, I.bare, Un.kept old, ⟨m, hns, fun i x v e1 e2 e3 => ?_⟩, fun x c e => ?_, I.hok.fresh (Nat.le_refl _), fun a c e => ?_, fun p hp => absurd (show p ∈ ([] : List (Addr × Obj)) from hp) (by simp), I.hok.kept old, ?_⟩
 . have e1' : (xs ++ capN)[i]? = some x := e1
   by_cases hi : i < xs.length
   . rw [List.getElem?_append_left (by simpa using hi), List.getElem?_map] at e2
     cases q : xs[i]? with
     | none => rw [q] at e2; cases e2
     | some z => rw [q] at e2; cases e2
   . rw [List.getElem?_append_right (by simpa using hi)] at e2
     rw [List.getElem?_append_right (by omega)] at e1'; rw [List.length_map] at e2
     generalize i - xs.length = j at e1' e2
     unfold Q9 at e2; rw [List.getElem?_map] at e2; have hc : (cap.map (fun j => X.N[j]?))[j]? = some (some x) := by rw [hcap, List.getElem?_map, e1']; rfl
     rw [List.getElem?_map] at hc
     cases q : cap[j]? with
     | none => rw [q] at e2; cases e2
     | some k =>
       rw [q] at e2 hc; simp only [Option.map_some] at e2 hc; have hc' : X.N[k]? = some x := Option.some.inj hc; have hs : Z[k]? = some (some v) := by
         cases z : Z[k]? with
         | none => rw [z] at e2; cases e2
         | some z' => rw [z] at e2; cases z' with
           | none => cases e2
           | some z'' => cases e2; rfl
       have hx : x ∈ capN := List.mem_of_getElem? e1'; obtain ⟨m', hm', hl'⟩ := I.loc; obtain ⟨u, r, l⟩ := hl' k x v hc' hs (by rcases hvis x hx with z | z; exact .inr (.inl z); exact .inr (.inr z))
       refine ⟨u, r, .inr ⟨hcl x hx, ?_⟩⟩; obtain ⟨c, hcc⟩ := C.has x (hy x hx) (hcl x hx); refine ⟨c, (fA (hy x hx)).trans hcc, ?_⟩; rcases l with ⟨z, _⟩ | ⟨_, c', e', z⟩
       . have z' : X.env.scope.names.lookup x = some .local := z
         rcases hvis x hx with y | y <;> (rw [z'] at y; cases y)
       . rw [C.sub x c hcc] at e'; cases e'
         obtain ⟨o, ho, hd⟩ := z; exact ⟨o, old _ _ ho, hd⟩
 . have g1 : ((y, s₃.heap.objs.size + 1) :: cl).lookup x = some c := e
   rcases Bn g1 with ⟨e1, f1⟩ | ⟨e1, f1⟩
   . rw [f1]; exact ⟨_, hcell⟩
   . obtain ⟨v, o, ho, hd⟩ := I.cell x c (C.sub x c f1)
     exact ⟨v, o, old _ _ ho, hd⟩
 . have g1 : ((y, s₃.heap.objs.size + 1) :: cl).lookup a = some c := e
   rcases Bn g1 with ⟨e1, f1⟩ | ⟨e1, f1⟩
   . rw [f1]; exact I.hok.fresh (Nat.le_succ _)
   . exact I.freeC a c (C.sub a c f1)
 . show (xs.map (fun _ => none) ++ Q9 Z cap).length = (xs ++ capN).length
   unfold Q9; rw [List.length_append, List.length_append, List.length_map, List.length_map, hlen]
end
structure Blk2 (X X' : Cx) (N' : List Str) (sc' : Scope) (y : Str) : Prop where
 b : Blk X X' N' sc'
 fn : X'.fn y = true
section
variable {X : Cx} {tg elt iter : Expr} {ifs : List Expr} {scope : Scope} {pos : Pos} {wi : TI} {g : TG} {tt : TT} {te : TE} {xs capN : List Str} {cap : List Nat}
theorem Wg {y : Str} {use : Option (Value -> Sem Unit)} {Q : Value -> Shared -> Prop} {QQ : VK} (hc : X.calm = true) (F : CompFacts2 X scope xs capN cap y) (hi : PI X tg iter wi)
   (hg : ∀ X', Blk2 X X' (xs ++ capN) (relabel scope X.env) y -> PG X' tg g) (ht : ∀ X', Blk2 X X' (xs ++ capN) (relabel scope X.env) y -> PTs X' ifs tt) (he : ∀ X', Blk2 X X' (xs ++ capN) (relabel scope X.env) y -> PE X' elt te)
   (hs : ∀ x, foldedSetIterable iter X.env x = pure x)
   {pins : List (Addr × Obj)} {s : Shared} {Z : St} {H : Hp} (I : Inv X pins Z H s) (h : Kt wi (fun Z => xs.map (fun _ => none) ++ Q9 Z cap) g tt te Z H QQ) {ps : Pos}
   (fin : ∀ (s' : Shared) (H' : Hp) (D C : Addr) (m : Str -> Option Value), Inv X pins Z H' s' -> s'.heap.Ns C m -> (H' C = none /\ X.s₀.heap.objs.size <= C /\ C ≠ X.env.locals /\ (∀ x c, X.env.cells.lookup x = some c -> c ≠ C) /\ ∀ p ∈ X.pn ++ pins, p.1 ≠ C) ->
     QQ (.ref D) H' -> compPost (model X.prog X.w) X.A X.xe use Q (.ref D) C (.ok .next) s') :
   wpAny (model X.prog X.w) X.A (comprehension (.ListComp elt [⟨tg, iter, ifs, 0⟩] scope pos) scope X.env ps (newList []) false (eval iter X.env) use) Q X.xe s := by
 obtain ⟨cl, C⟩ := F.clos
 refine wpAny_comprehension_free rfl hs C.clo F.kind F.names (thn (hi pins s Z H _ I h) fun v s1 h1 => thn h1 fun itv s2 h2 => ?_)
 obtain ⟨it, fp, tn, J, H2, e, I2, T, st2, f2, h3⟩ := h2
 subst e
 refine wpAny_newObj_type ?_
 obtain ⟨W, ⟨m0, w0⟩, turn⟩ := h3 s2.heap.objs.size I2.fresh
 have I3 : Inv X pins Z (upd H2 s2.heap.objs.size (.lst [])) { s2 with heap := s2.heap.push { cls := .type "list", dict := none, data := .seq ([] : List Value).toArray } } := I2.lnew (t' := s2.toks) .nil (Nat.zero_le _)
 generalize hH3 : upd H2 s2.heap.objs.size (HO.lst []) = H3 at I3 w0
 generalize hs3 : ({ s2 with heap := s2.heap.push { cls := .type "list", dict := none, data := .seq ([] : List Value).toArray } } : Shared) = s3 at I3
 have hD3 : H3 s2.heap.objs.size = some (.lst []) := by rw [<- hH3]; exact B3
 have kp3 : ∀ b o, s2.heap.get? b = some o -> s3.heap.get? b = some o := fun b o e => by rw [<- hs3]; exact Heap.get?_push_of_some _ e
 have hDlt : s2.heap.objs.size < s3.heap.objs.size := by rw [<- hs3]; show _ < (s2.heap.push _).objs.size; rw [Heap.size_push]; exact Nat.lt_succ_self _
 have flt : ∀ b ∈ fp, b < s2.heap.objs.size := fun b hb => by
   obtain ⟨o, e, _⟩ := T.obj 0 _ st2 b hb; exact Heap.lt_size e
 have flt3 : ∀ b ∈ fp, b < s3.heap.objs.size := fun b hb => Nat.lt_trans (flt b hb) hDlt
 have f3 : ∀ b ∈ fp, Ct X pins H3 b := fun b hb => ⟨by rw [<- hH3, A8 (Nat.ne_of_lt (flt b hb))]; exact (f2 b hb).1, (f2 b hb).2⟩
 have st3 : tn 0 s3.heap := T.keep 0 _ _ st2 fun b hb o e => kp3 b o e
 show wpAny _ _ (newFunctionEnv scope X.env.globals cl [] X.env.qual none .none (some X.env)) _ _ s3
 refine dN F.one ?_
 have old0 : ∀ b o, s3.heap.get? b = some o -> ((s3.heap.push { cls := .type "dict", data := .dict #[] }).push { cls := .type "cell", data := .cell none }).get? b = some o := fun b o e => Heap.get?_push_of_some _ (Heap.get?_push_of_some _ e)
 have hns0 : ((s3.heap.push { cls := .type "dict", data := .dict #[] }).push { cls := .type "cell", data := .cell none }).Ns s3.heap.objs.size (fun _ => none) := (Heap.Ns.new s3.heap (.type "dict")).keeps fun b o e => Heap.get?_push_of_some _ e
 have hcell0 : ((s3.heap.push { cls := .type "dict", data := .dict #[] }).push { cls := .type "cell", data := .cell none }).IsCell (s3.heap.objs.size + 1) none := ⟨{ cls := .type "cell", data := .cell none }, by rw [<- Heap.size_push s3.heap { cls := .type "dict", data := .dict #[] }]; exact Heap.get?_push_size _ rfl, rfl⟩
 generalize (s3.heap.push { cls := .type "dict", data := .dict #[] }).push { cls := .type "cell", data := .cell none } = h₁ at old0 hns0 hcell0 ⊢
 have old := old0
 have B : Blk2 X (Jy X s3 H3 scope cl (xs ++ capN) fp y) (xs ++ capN) (relabel scope X.env) y := ⟨⟨rfl, rfl, rfl, rfl, rfl, rfl, rfl, rfl, rfl, rfl⟩, beq_self_eq_true y⟩
 have J0 : Inv (Jy X s3 H3 scope cl (xs ++ capN) fp y) [] (xs.map (fun _ => none) ++ Q9 Z cap) H3 { s3 with heap := h₁, toks := s3.toks } :=
   aY I3 F.kind C f3 flt3 F.hcap F.hcl F.hvis hns0 old F.hy hcell0
 have st4 : tn 0 h₁ := T.keep 0 _ _ st3 fun b hb o e => old b o e
 have hg' := hg _ B
 have ht' := ht _ B
 have he' := he _ B
 generalize hX' : Jy X s3 H3 scope cl (xs ++ capN) fp y = X' at B J0 hg' ht' he'
 have hex : X'.ex = fp := by rw [<- hX']; rfl
 have hloc : X'.env.locals = s3.heap.objs.size := by rw [<- hX']; rfl
 have henv : X'.env = { compEnvC scope cl s3.heap.objs.size X.env with cells := (y, s3.heap.objs.size + 1) :: cl } := by rw [<- hX']; rfl
 have hpn : X'.pn = [] := by rw [<- hX']; rfl
 have hxe : X'.xe = fun _ _ => False := by rw [<- hX']; rfl
 have hH0 : X'.H₀ = H3 := by rw [<- hX']; rfl
 have hs0 : X'.s₀ = s3 := by rw [<- hX']; rfl
 have hfs : X'.fs = frs X.stack := by rw [<- hX']; rfl
 have hP : X'.prog = X.prog := B.b.prog
 have hw : X'.w = X.w := B.b.w
 have hA : X'.A = X.A := B.b.A
 have nfs : ∀ b ∈ fp, b ∉ X'.fs := fun b hb z => J0.ok.exfs b (by rw [hex]; exact hb) z
 have stat : ∀ {pn' : List (Addr × Obj)} {H' : Hp}, (∀ b ∈ fp, H' b = none) -> (∀ p ∈ pn', p.1 ∉ fp) -> ∀ b ∈ fp, Ct X' pn' H' b := fun {pn' H'} hn hp b hb =>
   ⟨hn b hb, by rw [hloc]; exact Nat.ne_of_lt (flt3 b hb), nfs b hb, .inl (by rw [hex]; exact hb), fun x c e => (J0.ok.exf b (by rw [hex]; exact hb)).2 x c e, fun p hp' z => by
     rw [hpn, List.nil_append] at hp'; exact hp p hp' (z ▸ hb)⟩
 have loop : ∀ s₀' : Shared, Inv X' [] (xs.map (fun _ => none) ++ Q9 Z cap) H3 s₀' -> tn 0 s₀'.heap ->
     codeAny (model X.prog X.w) X.A (.compLoop (.ListComp elt [⟨tg, iter, ifs, 0⟩] scope pos) 0 (.ref it) (.ref s2.heap.objs.size) X'.env) (compPost (model X.prog X.w) X.A X.xe use Q (.ref s2.heap.objs.size) s3.heap.objs.size) s₀' := by
   intro s₀' J1 st5; refine Dt (fun n s' => ∃ i H', Inv X' [] (xs.map (fun _ => none) ++ Q9 Z cap) H' s' /\ tn i s'.heap /\ (∀ b ∈ fp, H' b = none) /\ W i n H') ?_ m0 ⟨0, H3, J1, st5, fun b hb => (f3 b hb).1, w0⟩
   rintro n s4 ⟨i, H4, J4, st4, fr4, w4⟩
   rcases turn i n H4 w4 with ⟨stop, qn⟩ | ⟨go, N, hN, step⟩
   . have hd := T.done X' B.b.prog B.b.w B.b.K (B.b.calm.trans hc) i [] s4 _ H4 (fun _ _ => False) J4 (stat fr4 (by simp)) st4 stop
     rw [hA] at hd; refine thn hd fun r s5 ⟨hr, J5⟩ => ?_
     subst hr; have un : Un (frs X.stack) fp H3 H4 s3.heap s5.heap := by
       have := J5.base; rw [hfs, hex, hH0, hs0] at this; exact this
     have ho : s5.os = s3.os := by rw [J5.os, hs0]
     have hok5 : HOk X.prog X.w H4 s5.heap := by have := J5.hok; rw [hP, hw] at this; exact this
     have I5 : Inv X pins Z H4 s5 := I3.call' ho un hok5 J5.bare fun b hb => ⟨(f3 b hb).2.2.2.1, (f3 b hb).2.1, (f3 b hb).2.2.2.2.1, (f3 b hb).2.2.2.2.2⟩
     obtain ⟨m5, hm5, _⟩ := J5.loc; rw [hloc] at hm5; refine fin s5 H4 _ s3.heap.objs.size m5 I5 hm5 ⟨by have := J5.free; rw [hloc] at this; exact this, I3.sz, Nat.ne_of_gt I3.lt, fun x c e z => ?_, fun p hp z => ?_⟩ qn
     . obtain ⟨v, q⟩ := I3.cell x c e
       exact absurd q.lt (by rw [z]; exact Nat.lt_irrefl _)
     . exact absurd (Heap.lt_size (I3.pin p hp).1) (by rw [z]; exact Nat.lt_irrefl _)
   . have hd := T.item X' B.b.prog B.b.w B.b.K (B.b.calm.trans hc) i [] s4 _ H4 (fun _ _ => False) J4 (stat fr4 (by simp)) st4 go
     rw [hA] at hd; refine thn hd fun r s5 ⟨u, hr, h5⟩ => ?_
     subst hr; refine thn h5 fun _ s6 ⟨x, H6, J6, r6, y6, st6, fr6⟩ => ?_
     have J6' := J6.pinned (stat fr6 (by simp)) (T.obj _ _ st6)
     rw [List.nil_append] at J6'; have hgx := hg' _ s6 _ H6 x u _ J6' r6 (step x H6 y6); rw [hP, hw, hA, hxe] at hgx; refine thn hgx fun _ s7 ⟨Z7, H7, J7, wk7, q7⟩ => ?_
     have htx := ht' _ s7 Z7 H7 _ J7 q7; rw [hP, hw, hA, hxe] at htx; refine thn htx fun ok s8 ⟨H8, J8, q8⟩ => ?_
     have again : ∀ {H9 : Hp} {s9 : Shared}, Inv X' (Eo fp s6.heap) Z7 H9 s9 -> N H9 -> (∃ m, m < n /\ ∃ i H', Inv X' [] (xs.map (fun _ => none) ++ Q9 Z cap) H' s9 /\ tn i s9.heap /\ (∀ b ∈ fp, H' b = none) /\ W i m H') := fun {H9 s9} J9 n9 => by
       obtain ⟨m', hm, w9⟩ := hN H9 n9; have pin9 : ∀ b ∈ fp, ∀ o, s6.heap.get? b = some o -> s9.heap.get? b = some o /\ H9 b = none := fun b hb o e => by
         have := J9.pin (b, o) (List.mem_append_right _ (Ak hb e)); exact ⟨this.1, this.2.1⟩
       refine ⟨m', hm, i + 1, H9, (J9.weak wk7.1 wk7.2).pins_of (fun p hp => nomatch hp), T.keep _ _ _ st6 fun b hb o e => (pin9 b hb o e).1, fun b hb => ?_, w9⟩
       obtain ⟨o, e, d⟩ := T.obj _ _ st6 b hb; exact (pin9 b hb o e).2
     cases ok with
     | false =>
       rw [if_neg (by decide)] at q8 ⊢
       exact again J8 q8
     | true =>
       rw [if_pos rfl] at q8 ⊢
       have hex := he' _ s8 Z7 H8 _ J8 q8; rw [hP, hw, hA, hxe] at hex; refine thn hex fun y s9 ⟨x9, H9, J9, r9, acc, ha, hz, n9⟩ => ?_
       have hap := Aa (X := X') _ s9 Z7 H9 (.ref s2.heap.objs.size) [x9] (.ref s2.heap.objs.size) [y] (fun _ H' => N H') J9 rfl (.cons r9 .nil) ⟨_, acc, x9, rfl, rfl, ha, hz, n9⟩
       rw [hP, hw, hA, hxe] at hap; exact thn hap fun _ s10 ⟨_, H10, J10, _, n10⟩ => again J10 n10
 have e0 : ({ (newEnv scope s3.heap.objs.size X.env.globals ((y, s3.heap.objs.size + 1) :: cl) X.env.qual none .none (some X.env) builtinsNs : Env) with scope := relabel scope X.env } : Env) = X'.env := by rw [henv]; rfl
 have e1 : (newEnv scope s3.heap.objs.size X.env.globals ((y, s3.heap.objs.size + 1) :: cl) X.env.qual none .none (some X.env) builtinsNs : Env).locals = s3.heap.objs.size := rfl
 show codeAny _ _ (.compStart _ 0 (.ref it) (.ref s2.heap.objs.size) ({ (newEnv scope s3.heap.objs.size X.env.globals ((y, s3.heap.objs.size + 1) :: cl) X.env.qual none .none (some X.env) builtinsNs : Env) with scope := relabel scope X.env } : Env)) (compPost _ _ _ _ _ _ s3.heap.objs.size) _
 rw [e0]
 exact codeAny_compStart_list (loop _ J0 st4) (T.self _ 0 _ _ _ st4 (loop _ J0 st4))
end
end Sm
end
section
namespace Sm
open PySem PySem.Spec PyProof.Rows L2
theorem aT {X : Cx} (ok : X.Ok) {scope : Scope} {y : Str} (hone : scope.names.filter (fun y => y.2 == .cell) = [(y, .cell)]) (hfree : ∀ y ∈ scope.names, y.2 = .free -> X.env.scope.names.lookup y.1 = some .cell \/ X.env.scope.names.lookup y.1 = some .free) : ∃ cl, Clos2 X scope cl y := by
 have hc : ∀ y ∈ scope.names, y.2 = .free -> ∃ c, X.env.cells.lookup y.1 = some c := fun y hy hf => ok.has y.1 (hfree y hy hf)
 refine ⟨Z5 X.env.cells scope.names [], ⟨?_, fun x c h => ?_, fun x hxy h => ?_⟩⟩
 . have := Jq (env := X.env) scope.names [] hc
   unfold closureFor; simp only
   rw [this]; rfl
 . rcases An (P7 h) with z | ⟨z1, z2⟩
   . cases z
   . obtain ⟨c', e⟩ := hc _ z1 rfl
     have e' : X.env.cells.lookup x = some c' := e; have z2' : c = (X.env.cells.lookup x).getD 0 := z2; rw [e'] at z2' ⊢
     rw [z2']; rfl
 . have hm : (x, NameKind.free) ∈ scope.names := by
     have key : ∀ kd, (relabel scope X.env).names.lookup x = some kd -> (kd = .cell \/ kd = .free) -> (x, NameKind.free) ∈ scope.names := fun kd hl hkd => by
       have hm := P7 hl; unfold relabel at hm; simp only [List.mem_map] at hm; obtain ⟨⟨n, k0⟩, hy, e⟩ := hm; simp only at e
       split at e
       . rename_i hc'
         cases e; have : k0 = .free := by
           rw [Bool.and_eq_true, Bool.and_eq_true] at hc'; exact eq_of_beq hc'.1.1
         subst this; exact hy
       . cases e
         rcases hkd with rfl | rfl
         . have : (x, NameKind.cell) ∈ scope.names.filter (fun y => y.2 == .cell) := List.mem_filter.mpr ⟨hy, rfl⟩
           rw [hone] at this
           cases List.mem_singleton.mp this
           exact absurd rfl hxy
         . exact hy
     rcases h with h | h
     . exact key _ h (.inl rfl)
     . exact key _ h (.inr rfl)
   obtain ⟨c, hc'⟩ := Ao (cells := X.env.cells) (names := scope.names) (cs := []) (x := x) (.inl hm); exact Y9 hc'
noncomputable def Sz (N : List Str) (sc scope : Scope) (x : Str) (capN : List Str) (cap : List Nat) : Bool :=
 decide (scope.kind = .function) && decide (scope.names.filter (fun y => y.2 == .cell) = [(x, .cell)]) && scope.names.all (fun y => decide (y.2 = .local -> scope.names.lookup y.1 = some .local)) &&
 scope.names.all (fun y => decide (y.2 = .free -> sc.names.lookup y.1 = some .cell \/ sc.names.lookup y.1 = some .free)) && decide (cap.map (fun j => N[j]?) = capN.map some) &&
 capN.all (fun x => decide ((Az scope sc).names.lookup x = some .cell \/ (Az scope sc).names.lookup x = some .free)) && capN.all (fun x => decide (sc.names.lookup x = some .cell \/ sc.names.lookup x = some .free)) &&
 decide (([x] ++ capN).Nodup) && decide ((Az scope sc).names.lookup x = some .cell) && decide (cap.Nodup)
end Sm
end
section
namespace Sm
open PySem PySem.Spec PyProof.Rows L2
open AutoSeq1 (wpAny_loadPart')
end Sm
end
section
namespace Sm
open PySem PySem.Spec PyProof.Rows L2
end Sm
end
section
namespace Sm
open PySem PySem.W PyProof.Rows
section
variable {prog : Program} {w : World} {A : Around} {E : Value -> Shared -> Prop} {s : Shared}
theorem Oa {T : String} {r d : Addr} {n : Nat} {P : Nat -> Value -> Prop} {OK : Heap -> Prop} {Q : List Value -> Shared -> Prop} (K : KdlSrc prog w T r d n P OK) (hh : A.handled = none) (hok : OK s.heap) (hn : n <= sizeLine)
   (hQ : ∀ (h' : Heap) tk acc, (∀ b o, s.heap.get? b = some o -> h'.get? b = some o) -> ItemsOf P acc n -> Q acc.toList { s with heap := h', toks := tk }) : wpAny (model prog w) A (collect (.ref r)) Q E s := by
 have hlt := K.there _ hok
 have hS : (s.heap.push { cls := .type "list", data := .seq ([] : List Value).toArray }).get? s.heap.objs.size = some { cls := .type "list", data := .seq #[] 0 } := Heap.get?_push_size _ rfl
 unfold collect
 refine wpAny_bind (wpAny_runValue (codeAny_builtin F.entry_proto_collect ?_))
 rw [Around.under_plainId F.plain_proto_collect _]
 refine wpAny_bind (wpAny_newObj_type (wpAny_pure ⟨plainId_quiet F.plain_list_iadd _, codeAny_builtin F.entry_list_iadd ?_⟩))
 rw [Around.under_plainId F.plain_list_iadd _]
 refine wpAny_mono (kdl_extend (A := A) (s := { s with heap := s.heap.push { cls := .type "list", data := .seq ([] : List Value).toArray } })
   (R := fun res s' => ∃ h' tk acc c, res = .ok (.ret (.ref s.heap.objs.size)) /\ s' = { s with heap := h', toks := tk } /\ (∀ b o, s.heap.get? b = some o -> h'.get? b = some o) /\
     h'.get? s.heap.objs.size = some { cls := .type "list", dict := none, data := .seq acc c, slots := #[] } /\ ItemsOf P acc n)
   K hh (K.keep _ _ hok fun b _ o e => Heap.get?_push_of_some _ e) s.heap.objs.size (Nat.ne_of_gt hlt.1) (Nat.ne_of_gt hlt.2) (.ref s.heap.objs.size) 0 hS
   (fun h' tk acc c hk hS' hacc => ⟨h', tk, acc, c, rfl, rfl, fun b o e => hk b o (Nat.ne_of_lt (Heap.lt_size e)) (Heap.get?_push_of_some _ e), hS', hacc⟩) hn) (fun fin s' h => ?_) (fun e s' h => ?_)
 . cases fin with
   | done f =>
     obtain ⟨h', tk, acc, c, e, rfl, hk, hS', hacc⟩ := h; cases e; exact wpAny_bind (wpAny_load hS' (wpAny_pure (hQ h' tk acc hk hacc)))
   | again c' =>
     refine ⟨h.1, codeAny_mono h.2 fun r s'' hr => ?_⟩
     obtain ⟨h', tk, acc, c, rfl, rfl, hk, hS', hacc⟩ := hr; exact wpAny_bind (wpAny_load hS' (wpAny_pure (hQ h' tk acc hk hacc)))
 . obtain ⟨_, _, _, _, e, _⟩ := h
   cases e
end
end Sm
end
section
namespace Sm
open PySem PySem.Spec PyProof.Rows L2
end Sm
end
section
namespace Sm
open PySem PySem.Spec PyProof.Rows L2
end Sm
end
section
namespace Sm
open PySem PySem.Spec
theorem Nf : typeLookup (.type "list") "keys" = pure none := by
 rw [typeLookup_type, builtinLookup_eq_fast]; kernel_rfl
theorem Ng : typeLookup (.type "list") "__getattr__" = pure none := by
 rw [typeLookup_type, builtinLookup_eq_fast]; kernel_rfl
section
variable {prog : Program} {w : World} {A : Around} {E : Value -> Shared -> Prop} {h : Heap} {g : Array GenState} {d : Drawn} {t : Nat} {os : OsState} {a : Addr} {vs : Array Value} {n : Nat}
theorem Vo {tk : Tok} {Q : Fin -> Shared -> Prop} (hA : A.handled = none) (hx : h.get? a = some { cls := .type "list", data := .seq vs n })
   (hq : ∀ h' tk' e, Heap.NewAttrErr h h' e (.ref a) "keys" -> E (.ref e) ⟨h', g, d, tk', os⟩) :
   wpAny (model prog w) A (Builtin.«object.__getattribute__» ⟨[.ref a, .str "keys" tk], []⟩) Q E ⟨h, g, d, t, os⟩ := by
 have hT : (⟨h, g, d, t, os⟩ : Shared).TypeIs (.ref a) "list" := ⟨_, hx, rfl⟩
 have f4 := Nf
 unfold Builtin.«object.__getattribute__»
 repeat (any_goals (first | assumption | wp_step))
 exact wpAny_raiseAttrError hA hq (attrMsg_fits (by decide +kernel) (by decide))
theorem Vn {Q : Option Value -> Shared -> Prop} (hA : A.handled = none) (hx : h.get? a = some { cls := .type "list", data := .seq vs n })
   (hq : ∀ h' tk', (∀ b o, h.get? b = some o -> h'.get? b = some o) -> Q none ⟨h', g, d, tk', os⟩) : wpAny (model prog w) A (getAttr? (.ref a) "keys") Q E ⟨h, g, d, t, os⟩ := by
 have hT : ∀ s' : Shared, s'.heap = h -> s'.TypeIs (.ref a) "list" := fun s' e => ⟨_, by rw [e]; exact hx, rfl⟩
 have f1 := sub_AttributeError
 have f2 := F.slot_list_getattribute.lookup
 have f3 := F.slot_list_getattribute.bind (.ref a)
 have f5 := Ng
 unfold getAttr? getAttrBy? getAttrBy
 refine wpAny_bind (wpAny_mkText (wpAny_bind (wpAny_attempt ?_)))
 have hT1 := hT ⟨h, g, d, t + 1, os⟩ rfl
 repeat (any_goals (first | assumption | wp_step))
 refine codeAny_call_builtin F.slot_list_getattribute.plain F.entry_list_ga
   (F.slot_list_getattribute.check _ _ _ _ _ _ _ _ hT1 (F.args_list_getattribute_2 _ _)
     (Vo hA hx fun h' tk' e hx' => ?_))
 obtain ⟨t', u', he⟩ := hx'.there
 have kp := hx'.keeps
 show wpAny _ _ (getattributeRaised _ _ _ _ _ _ _) _ _ _
 unfold getattributeRaised
 repeat (any_goals (first | assumption | wp_step))
 exact hq _ _ kp
end
end Sm
end
section
namespace Sm
open PySem PySem.Spec PyProof.Rows L2
theorem Au : entryFor table "dict.update.loop" = some Builtin.«dict.update.loop» := entryFor_of_tree (by kernel_rfl)
theorem As : plainId "dict.update.loop" = true := by decide +kernel
noncomputable def Eu (acc prs : List (List Key × V)) : List (List Key × V) := prs.foldl (fun acc kv => W6 acc kv.1 kv.2) acc
def PairAt (H : Hp) (y : V) (kv : List Key × V) : Prop := ∃ t b, y = .ref t /\ H t = some (.tup [.ref b, kv.2]) /\ H b = some (.tup (kv.1.map kV))
theorem PairAt.mono {H H' : Hp} {y : V} {kv : List Key × V} (h : PairAt H y kv) (k : ∀ b xs, H b = some (.tup xs) -> H' b = some (.tup xs)) : PairAt H' y kv := by
 obtain ⟨t, b, e, h1, h2⟩ := h
 exact ⟨t, b, e, k _ _ h1, k _ _ h2⟩
section
variable {X : Cx} {pins : List (Addr × Obj)} {Z : St}
theorem Vz {A : Around} {a d it : Addr} (hh : A.handled = none) (hu : A.units + 8 < cLine) {ys : List V} {R : Result -> Shared -> Prop} : ∀ (n i : Nat) (s : Shared) (H : Hp) (acc : List (List Key × V)) (prs : List (List Key × V)), n = prs.length ->
   Inv X pins Z H s -> H d = some (.dT acc) -> Rd H a (.lst ys) -> s.heap.IsListIter it a i -> Ct X pins H it -> Paired (PairAt H) (ys.drop i) prs -> i + prs.length = ys.length -> acc.length + prs.length < 10000 -> ys.length < 10000 ->
   (∀ s', Inv X pins Z (upd H d (.dT (Eu acc prs))) s' -> R (.ok (.ret .none)) s') ->
   codeAny (model X.prog X.w) A (.builtin "dict.update.loop" ⟨[.ref d, .ref it, rawInt i, .none], []⟩) R s := by
 intro n
 induction n with
 | zero =>
   intro i s H acc prs hn I hd hl st fp hp hlen hacc hys hR; have : prs = [] := List.length_eq_zero_iff.mp hn.symm; subst this; refine codeAny_builtin Au ?_; rw [Around.under_plainId As _]; obtain ⟨its, rv, p, hz⟩ := I.list (.inl hl); have hl' := rv.length; simp only [List.length_nil, Nat.add_zero] at hlen; show wpAny _ A.in1 (pyNext (.ref it) >>= _) _ _ s
   obtain ⟨f0, f1, f2, f3, f4, f5⟩ := fp; refine wpAny_bind (wpAny_pyNext_list_end hh st p.isList (by simp; omega) fun h' eb => ?_)
   have I1 : Inv X pins Z H { s with heap := h' } := I.turned (t' := s.toks) (fun b o hb e => eb b o hb e) f0 f1 f3 f4 f5
   have hsame : upd H d (.dT (Eu acc [])) = H := by
     funext b
     unfold upd
     split
     . rename_i e; rw [e, hd]; rfl
     . rfl
   rw [hsame] at hR; show wpAny _ A.in1 (Builtin.Dict.addKeywords d [] >>= _) _ _ _
   exact wpAny_bind (wpAny_pure (wpAny_pure (hR _ I1)))
 | succ n ih =>
   intro i s H acc prs hn I hd hl st fp hp hlen hacc hys hR
   cases prs with
   | nil => simp at hn
   | cons kv prs =>
     simp only [List.length_cons] at hn hlen hacc; have hi : i < ys.length := by omega
     have hdrop : ys.drop i = ys[i] :: ys.drop (i + 1) := List.drop_eq_getElem_cons hi; rw [hdrop] at hp
     cases hp with
     | cons h0 hp =>
       obtain ⟨t, b, ey, ht, hb⟩ := h0; refine codeAny_builtin Au ?_; rw [Around.under_plainId As _]; obtain ⟨its, rv, p, hz⟩ := I.list (.inl hl); obtain ⟨u, hu', ru⟩ := rv.get (List.getElem?_eq_getElem hi); rw [ey] at ru
       cases (show u = Value.ref t from ru)
       obtain ⟨f0, f1, f2, f3, f4, f5⟩ := fp; show wpAny _ A.in1 (pyNext (.ref it) >>= _) _ _ s
       refine wpAny_bind (wpAny_pyNext_list_item st p.isList (x := .ref t) (by simpa using hu') fun h' st' sb => ?_)
       have I1 : Inv X pins Z H { s with heap := h' } := I.turned (t' := s.toks) (fun b o hb e => (sb.2 b hb).trans e) f0 f1 f3 f4 f5
       obtain ⟨its2, rv2, p2, _⟩ := I1.tuple (.inl (.inl ht))
       cases rv2 with
       | @cons _ u1 _ _ r1 rr =>
         cases rr with
         | @cons _ u2 _ _ r2 rr2 =>
           cases rr2
           cases (show u1 = Value.ref b from r1)
           obtain ⟨ot, hot, hotc, nt, hotd⟩ := p2; obtain ⟨c0, d0, da0, sl0⟩ := ot; simp only at hotc hotd; subst hotc hotd; refine wpAny_bind (wpAny_holding (wpAny_bind (wpAny_tryCatch ?_))); unfold Builtin.Dict.pairItems; have hT : ({ s with heap := h' } : Shared).TypeIs (.ref t) "tuple" := ⟨_, hot, rfl⟩
           generalize hDS : dictSet = DS
           repeat (any_goals (first | assumption | wp_step))
           subst hDS; refine Lo (A := A.in1) (by show A.units + 1 < cLine; omega) I1 hd hb (Nat.lt_of_lt_of_le (show acc.length < 10000 by omega) (by decide)) r2 fun s3 I3 sb3 => ?_
           have hne : it ≠ d := fun z => by rw [z, hd] at f0; cases f0
           have hne2 : ∀ c xs, H c = some (.tup xs) -> upd H d (.dT (W6 acc kv.1 kv.2)) c = some (.tup xs) := fun c xs e => by rw [A8 (Bv e hd (fun z => nomatch z))]; exact e
           refine wpAny_pure ⟨Code.quiet_builtin _ (by decide +kernel), ?_⟩
           refine ih (i + 1) s3 _ (W6 acc kv.1 kv.2) prs (by omega) I3 B3 ?_ (st'.at fun o e => (sb3.2 it hne).trans e) ⟨by rw [A8 hne]; exact f0, f1, f2, f3, f4, f5⟩ (Paired.mapP hp fun _ _ z => z.mono hne2) (by omega) (by have := X0 acc kv.1 kv.2; omega) hys fun s' J => ?_
           . rcases hl with z | ⟨o, z⟩
             . exact .inl (by rw [A8 (Bv z hd (fun z => nomatch z))]; exact z)
             . exact .inr ⟨o, by rw [A8 (Bv z hd (fun z => nomatch z))]; exact z⟩
           . rw [Sa] at J
             exact hR s' J
noncomputable def gI : List V -> Hp -> VK -> Prop := fun vs H Q => ∃ a ys prs, vs = [.ref a] /\ Rd H a (.lst ys) /\ Paired (PairAt H) ys prs /\ ys.length < 1000 /\ ∀ p, H p = none -> Q (.ref p) (upd H p (.dT (Eu [] prs)))
theorem Rr (hh : X.A.handled = none) (hu : X.A.units + 64 < cLine) : R0 X (.type "dict") gI := by
 intro pins s Z H xs us Q I r ⟨a, ys, prs, e0, hl, hp, hn, q⟩
 subst e0
 cases r with
 | cons r0 rr =>
   cases rr; obtain ⟨rfl⟩ := (show _ = Value.ref a from r0)
   refine callType_codes (Q₁ := fun obj s₁ => obj = .ref s.heap.objs.size /\ s₁ = { s with heap := s.heap.push { cls := .type "dict", data := .dict #[] } }) F.kt_called_dict (F.kt_typeCall_dict_1 _) F.entry_dict_init (kt_code_dict_new _ ⟨rfl, rfl⟩) ?_
   rintro obj s₁ ⟨rfl, rfl⟩
   have hfr := I.hok.fresh (Nat.le_refl s.heap.objs.size); have I1 := I.laid (a := s.heap.objs.size) (o := .dT []) (h' := s.heap.push { cls := .type "dict", data := .dict #[] }) (t' := s.toks) (fun _ _ q => Heap.get?_push_of_some _ q) (Nat.le_refl _) (Jg s.heap I.big)
   have hTd : ({ s with heap := s.heap.push { cls := .type "dict", data := .dict #[] } } : Shared).TypeIs (.ref s.heap.objs.size) "dict" := ⟨_, Heap.get?_push_size _ rfl, rfl⟩; refine ⟨hTd, F.args_dict_init_2 _ _, ?_⟩; have hl1 : Rd (upd H s.heap.objs.size (.dT [])) a (.lst ys) := by
     rcases hl with z | ⟨o, z⟩
     . exact .inl (by rw [A8 (B5 z hfr)]; exact z)
     . exact .inr ⟨o, by rw [A8 (B5 z hfr)]; exact z⟩
   obtain ⟨_, its, nn, rv, hobj⟩ := (show ObjOk X.prog X.w _ _ a (.lst ys) from hl1.ok I1.hok)
   unfold Builtin.«dict.__init__»
   refine wpAny_bind ?_; unfold Builtin.Dict.selfAndRest; refine wpAny_bind (wpAny_notOrdered_dict hTd ?_); show wpAny _ _ (pure (s.heap.objs.size, [Value.ref a])) _ _ _
   refine wpAny_pure ?_; show wpAny _ _ (Builtin.Dict.updateFrom "dict.__init__" s.heap.objs.size (.ref a) [] .none) _ _ _
   unfold Builtin.Dict.updateFrom; refine wpAny_bind (wpAny_typeOf (T := "list") ⟨_, hobj, rfl⟩ ?_); rw [if_pos (by decide)]; refine wpAny_bind (Vn hh hobj fun h1 tk1 kp => ?_)
   rw [if_pos (by rfl)]; have I2 : Inv X pins Z (upd H s.heap.objs.size (.dT [])) { s with heap := h1, toks := tk1 } := I1.kept (t' := tk1) kp; refine wpAny_bind (wpAny_rule ?_); obtain ⟨its2, rv2, p2, _⟩ := I2.list (.inl hl1); refine wpAny_bind (wpAny_pyIter_list p2.isList ?_); have I3 : Inv X pins Z (upd H s.heap.objs.size (.dT [])) { s with heap := h1.push { cls := .type "list_iterator", data := .fields #[.ref a, .int 0 0] }, toks := tk1 } := I2.kept (t' := tk1) fun b o e => Heap.get?_push_of_some _ e
   have hpz : Paired (PairAt (upd H s.heap.objs.size (.dT []))) ys prs := Paired.mapP hp fun _ _ z => z.mono fun b xs e => by rw [A8 (B5 e hfr)]; exact e
   have hle : prs.length = ys.length := (Paired.length hp).symm; refine wpAny_pure ⟨Code.quiet_builtin _ (by decide +kernel), ?_⟩
   refine Vz (A := X.A.in1) hh (by show X.A.units + 1 + 8 < cLine; omega) (ys := ys) prs.length 0 _ _ [] prs rfl I3 B3 hl1 ⟨_, Heap.get?_push_size _ rfl, rfl, rfl⟩ (I2.fpOk (Nat.le_refl _) (I2.hok.fresh (Nat.le_refl _))) hpz (by omega) (by simp; omega) (by omega) fun s' J => ?_
   rw [Sa] at J; exact ⟨rfl, .ref s.heap.objs.size, _, J, rfl, q _ hfr⟩
end
noncomputable def Ai : List PyData -> List (PyData × PyData) -> Option (List (PyData × PyData))
 | [], kvs => some kvs
 | .tuple [kd, v] :: ds, kvs => match P0 kd with
   | some kk => Ai ds (Ar kvs kk v)
   | none => none
 | _ :: _, _ => none
noncomputable def Iq (i : Nat) (f : Dn -> Res (List PyData)) : Dn -> Out := fun δ => M8 (f δ) fun ds => if ds.length < 1000 then (match Ai ds [] with
 | some kvs => .nx (δ.set i (.ow (.dict kvs)))
 | none => .no) else .no
theorem La {G : Hp} : ∀ (ds : List PyData) (ys : List V) (kvs kvs' : List (PyData × PyData)) (kv : List (List Key × V)), RepL G ds ys -> Ai ds kvs = some kvs' -> kvs.map (·.1) = kv.map (fun q => PyData.tuple (q.1.map M4)) -> RepL G (kvs.map (·.2)) (kv.map (·.2)) ->
   ∃ prs, Paired (PairAt G) ys prs /\ kvs'.map (·.1) = (Eu kv prs).map (fun q => PyData.tuple (q.1.map M4)) /\ RepL G (kvs'.map (·.2)) ((Eu kv prs).map (·.2))
 | [], ys, kvs, kvs', kv, r, e, h1, h2 => by
   cases (show _ = _ from r)
   cases e; exact ⟨[], .nil, h1, h2⟩
 | d :: ds, ys, kvs, kvs', kv, r, e, h1, h2 => by
   obtain ⟨y, t, rfl, rd, rl⟩ := r; unfold Ai at e
   split at e
   . rename_i heq
     cases heq
   . rename_i kd v ds' heq
     cases heq
     split at e
     . rename_i kk ek
       obtain ⟨p, xs, rfl, hp, lp⟩ := rd; obtain ⟨v1, v2, rfl, r1, r2⟩ := rep2 lp
       cases kd with
       | tuple ks =>
         obtain ⟨b, zs, rfl, hb, lz⟩ := r1; obtain ⟨e1, _⟩ := N8 lz ek; subst e1; obtain ⟨p1, p2⟩ := So (kk := kk) r2 h1 h2; obtain ⟨prs, q1, q2, q3⟩ := La ds t _ kvs' _ rl e p1 p2; exact ⟨(kk, v2) :: prs, .cons ⟨p, b, rfl, hp, hb⟩ q1, q2, q3⟩
       | _ => cases ek
     . cases e
   . cases e
section
variable {P : Program} {w : World} {K : PySem.W.Frag} {mg : Str -> Option Value} {base : Heap} {X : Cx} {N : List Str} {sc : Scope} {k : Nat} {df : Bool} {E : EK} {pos p p2 cp : Pos} {e : Expr} {fs : Dn -> Res (List PyData)} {x : Str}
theorem bP (C : Cxt P w K mg base X N sc k df) (i : Nat) (ho : okSet N sc df i x = true) (hd : okGl sc "dict" = true) (hm : mg "dict" = none) (hf : DF X E e fs) (hst : Go e = true := by rfl)
   (hs : swapsWith (.Call (.Name "dict" p2) [e] [] cp) (some (.Name x p)) pos.line X.env = pure false := by rfl) (he : starEach [e] X.env = (false, eval e X.env) :: starEach [] X.env := by rfl) (hpl : (backTo cp (starEach [] X.env)).any (·.1) = false := by rfl) :
   DS X E (.Assign [.Name x p] (.Call (.Name "dict" p2) [e] [] cp) pos) (Iq i fs) := fun G0 H0 => by
 obtain ⟨h1, h2, h3, h4⟩ := okSet.ok C ho
 obtain ⟨k1, k2, k3⟩ := okGl.gl C hd
 have ha : DA X E [e] 1 (A0 (D2 fs) A7) := A3 (E7 hf) B0 hst
 refine PS.imp (Ba h1 h2 h3 (Ky (Rr C.room.hd C.hu) k1 (by rw [C.hmg]; exact hm) (by decide +kernel) ha.pa k3 k2 he hpl) hs h4) fun D Z H ⟨G, δ, S, aft⟩ => ?_
 refine ⟨G, δ, S.sr, ?_⟩
 unfold Iq at aft
 cases ef : fs δ with
 | ok ds =>
   rw [ef] at aft; have ea : A0 (D2 fs) A7 δ = .ok [.list ds] := by unfold A0 D2; rw [ef]; rfl
   rw [ea]; intro vs G1 H1 g1 r1; obtain ⟨v, rfl, a, ys, rfl, ha, la⟩ := Cf r1; simp only [M8] at aft
   split at aft
   . rename_i hlen
     split at aft
     . rename_i kvs ek
       obtain ⟨prs, q1, q2, q3⟩ := La ds ys [] kvs [] la ek rfl rfl; have S1 := S.grow g1; refine ⟨a, ys, prs, rfl, Rd.mono S1.sr.sub ha, Paired.mapP q1 fun _ _ z => z.mono fun b xs e => S1.sr.sub _ _ e, by rw [<- la.length]; exact hlen, fun q hq => ?_⟩
       have S2 := S1.grow (Grow.own (o := .dT (Eu [] prs)) S1.sr.sub hq); exact aft _ G1 _ (S2.set_ow (S1.gr.h.free hq) (S1.sr.sub.free hq) ⟨_, B3, q2, q3⟩ (W3 S1 hq))
     . exact (show False from aft).elim
   . exact (show False from aft).elim
 | exc c =>
   rw [ef] at aft; have ea : A0 (D2 fs) A7 δ = .exc c := by unfold A0 D2; rw [ef]; rfl
   rw [ea]; exact fun G' H' g => aft G' H' (S.gr.trans g)
 | no => rw [ef] at aft; exact (show False from aft).elim
end
end Sm
end
section
namespace Sm
open PySem PySem.Spec PyProof.Rows L2
abbrev Kvs := List (PyData × PyData)
def Qd (E : EK) (G H : Hp) (r : Res Kvs) (Q : VK) : Prop := match r with
 | .ok kvs => ∀ p G' H', Grow G H G' H' -> H p = none -> G' p = none -> OwnOk G' H' p (.dict kvs) -> Q (.ref p) H'
 | .exc c => ∀ G' H', Grow G H G' H' -> E c H'
 | .no => False
def tX (E : EK) (f : Dn -> Res Kvs) : TE := fun Z H Q => ∃ G δ, SR G H Z δ /\ Qd E G H (f δ) Q
abbrev DX (X : Cx) (E : EK) (e : Expr) (f : Dn -> Res Kvs) : Prop := PE X e (tX E f)
def AftY (E : EK) (G H : Hp) (r : Res Kvs) (Q : VK) : Prop := match r with
 | .ok kvs => ∀ p G' H', Grow G H G' H' -> G' p = none -> OwnOk G' H' p (.dict kvs) -> Q (.ref p) H'
 | .exc c => ∀ G' H', Grow G H G' H' -> E c H'
 | .no => False
def tY (E : EK) (f : Dn -> Res Kvs) : TE := fun Z H Q => ∃ G δ, SR G H Z δ /\ AftY E G H (f δ) Q
abbrev DY (X : Cx) (E : EK) (e : Expr) (f : Dn -> Res Kvs) : Prop := PE X e (tY E f)
def DSW (X : Cx) (E : EK) (sts : List Stmt) (g : Dn -> Res Kvs) : Prop := ∀ G0 H0, PSs X sts (fun D Z H => ∃ G δ, SSt G0 H0 G H Z δ /\ Qd E G0 H0 (g δ) D.rt)
noncomputable def Wt (g1 : Dn -> Out) (g2 : Dn -> Res Kvs) : Dn -> Res Kvs := fun δ => match g1 δ with
 | .nx δ' => g2 δ'
 | .exc c => .exc c
 | _ => .no
noncomputable def fL (i : Nat) : Dn -> Res Kvs := fun δ => match δ[i]? with
 | some (.ow (.dict kvs)) => .ok kvs
 | _ => .no
def spW (n : Nat) (m : List PyData -> Res Kvs) : Sp := fun vs H Q _ => ∃ G ds kvs, Same G H /\ RepL G ds vs /\ ds.length = n /\ m ds = .ok kvs /\ ∀ p G' H', Grow G H G' H' -> H p = none -> G' p = none -> OwnOk G' H' p (.dict kvs) -> Q (.ref p) H'
structure FnW (P : Program) (w : World) (K : PySem.W.Frag) (mg : Str -> Option Value) (base : Heap) (x : Str) (k n : Nat) (m : List PyData -> Res Kvs) : Prop where
 ex : ∃ f fd ps, ps.length = n /\ FnOk P w K mg base CX0 k f fd ps (spW n m) /\ mg x = some (.ref f) /\ PySem.W.keepIn K (.ref f) = true /\ Binds K fd ps []
noncomputable def fnW (N : List Str) (g : Dn -> Res Kvs) : List PyData -> Res Kvs := fun ds => g (D7 N ds)
noncomputable def Wo (fs : Dn -> Res (List PyData)) (m : List PyData -> Res Kvs) : Dn -> Res Kvs := fun δ => (fs δ).bind m
noncomputable def Wv (fy : Dn -> Res Kvs) (f : Dn -> Res PyData) : Dn -> Res PyData := fun δ => (fy δ).bind fun kvs => (f δ).bind fun kd => match P0 kd with
 | some kk => ofO (M2 kvs kk)
 | none => .no
section
variable {P : Program} {w : World} {K : PySem.W.Frag} {mg : Str -> Option Value} {base : Heap} {X : Cx} {N : List Str} {sc : Scope} {k : Nat} {df : Bool} {E : EK} {pos p : Pos} {a c e : Expr} {es : List Expr} {f g : Dn -> Res PyData} {fs : Dn -> Res (List PyData)} {fx fy : Dn -> Res Kvs} {x : Str} {i : Nat} {st : Stmt} {sts : List Stmt} {g1 : Dn -> Out} {g2 : Dn -> Res Kvs}
theorem fJ (h : DX X E e fx) : DY X E e fx := PE.imp h fun Z H Q ⟨G, δ, S, a⟩ => by
 refine ⟨G, δ, S, ?_⟩
 cases q : fx δ with
 | ok kvs => rw [q] at a; exact fun p G' H' g _ hp ho => a p G' H' g hp ho
 | exc c => rw [q] at a; exact a
 | no => rw [q] at a; exact a
theorem Wn {G H : Hp} {Z : St} {δ : Dn} {kk : Kvs -> Res PyData} {Q R : VK} (S : SR G H Z δ) (a : Aft E G H ((fy δ).bind kk) Q)
   (h : ∀ kvs p G1 H1, Grow G H G1 H1 -> G1 p = none -> OwnOk G1 H1 p (.dict kvs) -> SR G1 H1 Z δ -> Aft E G1 H1 (kk kvs) Q -> R (.ref p) H1) : tY E fy Z H R := by
 refine ⟨G, δ, S, ?_⟩
 cases q : fy δ with
 | ok kvs => rw [q] at a; exact fun p G' H' g hp ho => h kvs p G' H' g hp ho (S.grow g) (Aft.grow g a)
 | exc c => rw [q] at a; exact a
 | no => rw [q] at a; exact a
theorem iW (C : Cxt P w K mg base X N sc k df) (hy : DY X E e fy) (hk : DE X E a f) (hs : Rx a := by exact fun _ _ => rfl) : DE X E (.Subscript e a pos) (Wv fy f) := by
 refine PE.imp (Dg C.hu1 hy hk hs) fun Z H Q ⟨G, δ, S, aft⟩ => ?_
 refine Wn S aft fun kvs q G1 H1 g1 hq ho S1 a1 => ?_
 obtain ⟨kv, hx, hkeys, hvals⟩ := ho
 refine P3 S1 a1 fun kd v G2 H2 g2 r2 S2 a2 => ?_
 cases kd with
 | tuple ds =>
   cases ek : O4 ds with
   | none => simp only [P0, ek] at a2; exact a2.elim
   | some kk =>
     simp only [P0, ek] at a2; obtain ⟨pk, xs, rfl, hpk, lk⟩ := r2; obtain ⟨e1, e2⟩ := N8 lk ek; subst e1; rcases X1 (kk := kk) hkeys hvals with ⟨n1, n2⟩ | ⟨d0, v0, n1, n2, rd⟩
     . rw [n1] at a2; exact a2.elim
     . rw [n1] at a2
       exact ⟨q, v0, rfl, by have := DGet.t (k := kk) (g2.h _ _ hx) (S2.sub _ _ hpk); rw [n2] at this; exact this, a2 _ G2 H2 (Grow.refl S2.sub) (rd.mono g2.g)⟩
 | _ => exact (show False from a2).elim
theorem w_ret (C : Cxt P w K mg base X N sc k df) (i : Nat) (h : okVar N sc i x = true) : DSW X E [.Return (some (.Name x p)) pos] (fL i) := fun G0 H0 => by
 refine PSs.imp (Ah (Iu (okVar.pe C h))) fun D Z H ⟨G, δ, S, a⟩ => ?_
 unfold fL at a
 split at a
 . rename_i kvs hi
   obtain ⟨q, hσ, hg, ho⟩ := S.sr.own hi; exact ⟨.ref q, hσ, a q G H S.gr (S.fr i _ q hi (by rw [hσ]; rfl)) hg ho⟩
 . exact (show False from a).elim
theorem Ws (h1 : DS X E st g1) (h2 : DSW X E sts g2) : DSW X E (st :: sts) (Wt g1 g2) := fun G0 H0 => by
 refine PSs.imp (S8 (h1 G0 H0) (h2 G0 H0)) fun D Z H ⟨G, δ, S, a⟩ => ⟨G, δ, S, ?_⟩
 unfold Wt at a
 cases e : g1 δ with
 | nx δ' => rw [e] at a; exact fun Z' G' H' S' => ⟨G', δ', S', a⟩
 | exc d => rw [e] at a; exact a
 | rt d => rw [e] at a; exact (show False from a).elim
 | bk d => rw [e] at a; exact (show False from a).elim
 | ct d => rw [e] at a; exact (show False from a).elim
 | no => rw [e] at a; exact (show False from a).elim
theorem fn_W {x : Str} {st : Stmt} {ps : List Str} {n : Nat} {go : Dn -> Res Kvs} {m : List PyData -> Res Kvs} (F : Def K mg x st ps) (S : FnScope N ps (A5 st)) (hn : ps.length = n)
   (body : ∀ X, Cxt P w K mg base X N (A5 st) k true -> DSW X E0k (B9 st) go) (hm : m = fnW N go) : FnW P w K mg base x (k + 1) n m := by
 obtain ⟨f, fd, F, hmg, hb⟩ := F.ex
 refine ⟨f, fd, ps, hn, ?_, hmg, F.kp, hb⟩
 subst hm
 refine F.ok S (fun vs H Q E h => ?_) (fun cdv A outer s H vs Q E hr h => ?_)
 . obtain ⟨G, ds, d, _, r, hl, _⟩ := h
   rw [<- r.length, hl, hn]
 . obtain ⟨G, ds, kvs, hG, r, hl, em, q⟩ := h
   refine ⟨_, body _ ⟨rfl, rfl, rfl, rfl, rfl, rfl, rfl, rfl, hr, fun _ _ => rfl, PassesOwn.never⟩ G H, G, _, Db hG r N, ?_⟩
   unfold fnW at em; rw [em]; exact q
theorem fK {x : Str} {j n : Nat} {m : List PyData -> Res Kvs} (C : Cxt P w K mg base X N sc k df) (F : FnW P w K mg base x j n m) (hj : j <= k) (h : okGl sc x = true) (ha : DA X E0k (e :: es) n fs)
   (he : starEach (e :: es) X.env = (false, eval e X.env) :: starEach es X.env := by rfl) (hpl : (backTo pos (starEach es X.env)).any (·.1) = false := by rfl) : DX X E0k (.Call (.Name x p) (e :: es) [] pos) (Wo fs m) := by
 obtain ⟨f, fd, ps, hps, F, hm, hk, hb⟩ := F.ex
 obtain ⟨h1, h2, h3⟩ := okGl.gl C h
 have F' : FnOk X.prog X.w X.K X.mg X.base CX0 j f fd ps (spW n m) := by rw [C.hP, C.hw, C.hK, C.hmg, C.hb]; exact F
 refine PE.imp (Dh F' (C.room.mono hj) h1 (by rw [C.hmg]; exact hm) (by rw [C.hK]; exact hk) (by rw [C.hK]; exact hb) .nil (Ss (X := X)) ha.pa h2 he hpl) fun Z H Q ⟨G, δ, S, aft⟩ => ?_
 have gw : ∀ {G H G' H' : Hp} {r : Res Kvs}, Grow G H G' H' -> Qd E0k G H r Q -> Qd E0k G' H' r Q := fun {G H G' H' r} g a => by
   cases r with
   | ok kvs => exact fun p G2 H2 g2 hp hp' ho => a p G2 H2 (g.trans g2) (g.h.free hp) hp' ho
   | exc c => exact fun G2 H2 g2 => a G2 H2 (g.trans g2)
   | no => exact a
 refine P4 (W := fun G H r => Qd E0k G H r Q) S aft (fun g a => gw g a) (fun c a => a) (fun a => a) fun ds vs G1 H1 e g1 r1 S1 a1 => ?_
 rw [List.append_nil]
 cases q : m ds with
 | ok d => rw [q] at a1; exact ⟨G1, ds, d, S1.sub, r1, ha.len δ ds e, q, a1⟩
 | exc c => rw [q] at a1; exact (a1 G1 H1 (Grow.refl S1.sub)).elim
 | no => rw [q] at a1; exact a1.elim
end
end Sm
end
section
namespace Sm
open PySem PySem.Spec PyProof.Rows L2
theorem Mq : Slot "reversed" "__init__" "object.__init__" :=
 .of (owner := "object") (n := "__init__") (by rw [typeLookup_type, builtinLookup_eq_fast]; kernel_rfl) (by decide +kernel) (by decide +kernel) (by decide +kernel) (by first | exact .inl (by decide +kernel) | exact .inr (by decide +kernel)) (by rw [isSubtype_type]; kernel_rfl)
theorem El : TypeCalled "reversed" "reversed.__new__" "object.__init__" :=
 ⟨by decide +kernel, by decide +kernel, ⟨_, _, F.mro_reversed⟩, F.made_reversed, by decide +kernel, F.sub_reversed_self, Mq⟩
theorem Q2 : Slot "reversed" "__next__" "reversed.__next__" :=
 .of (owner := "reversed") (n := "__next__") (by rw [typeLookup_type, builtinLookup_eq_fast]; kernel_rfl) (by decide +kernel) (by decide +kernel) (by decide +kernel) (by first | exact .inl (by decide +kernel) | exact .inr (by decide +kernel)) (by rw [isSubtype_type]; kernel_rfl)
theorem Dd : Slot "reversed" "__iter__" "reversed.__iter__" :=
 .of (owner := "reversed") (n := "__iter__") (by rw [typeLookup_type, builtinLookup_eq_fast]; kernel_rfl) (by decide +kernel) (by decide +kernel) (by decide +kernel) (by first | exact .inl (by decide +kernel) | exact .inr (by decide +kernel)) (by rw [isSubtype_type]; kernel_rfl)
theorem Bu : entryFor table "reversed.__next__" = some Builtin.«reversed.__next__» := entryFor_of_tree (by kernel_rfl)
theorem Kn : entryFor table "reversed.__iter__" = some Builtin.«dict_keyiterator.__iter__» := by
 exact entryFor_alias (id' := "dict_keyiterator.__iter__") (by kernel_rfl) (by decide +kernel) (by decide +kernel) (by kernel_rfl)
theorem De (a : Value) : argsOk "reversed.__next__" ⟨[a], []⟩ := by unfold argsOk; kernel_rfl
theorem Mr (a : Value) : argsOk "reversed.__iter__" ⟨[a], []⟩ := by unfold argsOk; kernel_rfl
theorem bR : typeLookup (.type "tuple") "__reversed__" = pure none := by rw [typeLookup_type, builtinLookup_eq_fast]; kernel_rfl
theorem bT : isSubtype (.type "tuple") (.type "dict") = pure false := by rw [isSubtype_type]; kernel_rfl
def IsRvT (h : Heap) (a l : Addr) (i : Int) : Prop := ∃ o, h.get? a = some o /\ o.cls = .type "reversed" /\ o.data = .fields #[.ref l, rawInt i]
section
variable {prog : Program} {w : World} {A : Around} {E : Value -> Shared -> Prop} {s : Shared}
theorem IsRvT.typeIs {a l : Addr} {i : Int} (x : IsRvT s.heap a l i) : s.TypeIs (.ref a) "reversed" := let ⟨o, ho, hc, _⟩ := x; ⟨o, ho, hc⟩
theorem bU {l : Addr} {items : Array Value} {Q₁ : Value -> Shared -> Prop} (hl : IsTup s.heap l items) (hz : items.size <= sizeLine)
   (h : ∀ tk, Q₁ (.ref s.heap.objs.size) { s with heap := s.heap.push { cls := .type "reversed", data := .fields #[.ref l, rawInt ((items.size : Int) - 1)] }, toks := tk }) :
   codeAny (model prog w) A (.call (.builtin "reversed.__new__") ⟨[.type "reversed", .ref l], []⟩) (wants Q₁ E) s := by
 refine codeAny_of_tree (wpAny_bind (wpAny_of_eq (F.newCall_reversed_1 _) (wpAny_pure ⟨plainId_quiet F.plain_reversed_new _, codeAny_builtin F.entry_reversed_new ?_⟩)))
 rw [Around.under_plainId F.plain_reversed_new _]
 unfold Builtin.«reversed.__new__»
 refine wpAny_bind (wpAny_of_eq (newClass_reversed _) (wpAny_bind (wpAny_of_eq (a := ()) (by first | rfl | kernel_rfl) (wpAny_bind (wpAny_of_eq (a := ()) (by first | rfl | kernel_rfl) ?_)))))
 refine wpAny_bind (wpAny_specialOf hl.typeIs bR ?_)
 try dsimp only
 refine wpAny_bind (wpAny_bind (wpAny_isInstance hl.typeIs bT ?_))
 simp only [Bool.false_eq_true, if_false]
 refine wpAny_bind (wpAny_specialOf hl.typeIs slot_tuple_getitem.lookup ?_)
 dsimp only
 rw [if_pos (by decide +kernel)]
 refine wpAny_pure ?_
 simp only [Bool.not_true, Bool.false_eq_true, if_false]
 have hn := Al
 refine wpAny_bind (len_tuple hl (by omega) (wpAny_bind (wpAny_of_eq (a := some (items.size : Int)) rfl ?_)))
 refine wpAny_bind ?_
 show wpAny _ _ (newObj (Value.type "reversed") (.fields #[.ref l, rawInt ((items.size : Int) - 1)])) _ _ _
 exact wpAny_newObj_type (wpAny_pure (h _))
theorem bV {l : Addr} {items : Array Value} {Q : Value -> Shared -> Prop} (hl : IsTup s.heap l items) (hz : items.size <= sizeLine)
   (h : ∀ tk, Q (.ref s.heap.objs.size) { s with heap := s.heap.push { cls := .type "reversed", data := .fields #[.ref l, rawInt ((items.size : Int) - 1)] }, toks := tk }) : wpAny (model prog w) A (call (.type "reversed") [.ref l]) Q E s := by
 refine callType_codes (Q₁ := fun obj t => t.TypeIs obj "reversed" /\ Q obj t) El (F.typeCall_reversed_1 _) F.entry_object_init (bU hl hz fun tk => ⟨⟨_, Heap.get?_push_size _ rfl, rfl⟩, h tk⟩) fun obj t ht => ?_
 exact ⟨ht.1, F.args_object_init_2 obj _, object_init_meets El.init.lookup El.made (by decide) prog w A.in1 _ t ⟨ht.1, rfl, ht.2⟩⟩
theorem bS {it l : Addr} {i : Nat} {items : Array Value} {x : Value} {Q : Option Value -> Shared -> Prop} (hit : IsRvT s.heap it l (i : Int)) (hl : IsTup s.heap l items) (hz : items.size <= sizeLine) (hx : items[i]? = some x)
   (hQ : ∀ h' tk, IsRvT h' it l ((i : Int) - 1) -> Heap.SameBut it s.heap h' -> Q (some x) { s with heap := h', toks := tk }) : wpAny (model prog w) A (pyNext (.ref it)) Q E s := by
 obtain ⟨o, ho, hc, hd⟩ := id hit
 have hi : i < items.size := by
   rcases Nat.lt_or_ge i items.size with h | h
   . exact h
   . simp [h] at hx
 have hn := Al
 unfold pyNext
 refine wpAny_bind (wpAny_attempt ?_)
 refine wpAny_callSpecial?_slot (name := Str.ofString "__next__") hit.typeIs Q2 ?_
 refine wpAny_call_entry Q2 hit.typeIs Bu ?_ (De _)
 unfold Builtin.«reversed.__next__»
 refine wpAny_bind (wpAny_of_eq (a := (Value.ref it, [])) rfl ?_)
 try dsimp only
 refine wpAny_bind (wpAny_field ho hd (x := .ref l) rfl (wpAny_bind (wpAny_field ho hd (x := rawInt (i : Int)) rfl ?_)))
 show wpAny _ _ (if (i : Int) < 0 then _ else _) _ _ s
 rw [if_neg (by omega)]
 refine wpAny_bind (wpAny_specialOf hl.typeIs slot_tuple_getitem.lookup ?_)
 rw [if_neg (by simp)]
 refine wpAny_bind (wpAny_mkInt (wpAny_bind (wpAny_attempt ?_)))
 refine getItem_tuple (s := { s with toks := s.toks + 1 }) (j := i) hl (by omega) (by omega) ?_ hx ?_
 . unfold seqIndex?
   first | (simp; omega) | (rw [if_neg (by omega), if_pos (by omega)]; simp) | (split <;> simp_all <;> omega)
 . try dsimp only
   refine wpAny_bind (wpAny_field (s := { s with toks := s.toks + 1 }) ho hd (x := rawInt (i : Int)) rfl ?_); show wpAny _ _ (setField (.ref it) 1 (rawInt ((i : Int) - 1)) >>= _) _ _ _
   refine wpAny_bind (wpAny_setField (s := { s with toks := s.toks + 1 }) ho hd (by simp) ?_)
   refine wpAny_pure ⟨x, rfl, wpAny_pure (hQ _ _ ?_ (Heap.SameBut.update ..))⟩; exact ⟨_, Heap.get?_update_self _ ho (Obj.isFreed_of_fields (Obj.data_mapFields hd _)), (Obj.cls_mapFields ..).trans hc, by rw [Obj.data_mapFields hd]; simp⟩
theorem fZ {it l : Addr} {j : Int} {Q : Option Value -> Shared -> Prop} (hj : j < 0) (hh : A.handled = none) (hit : IsRvT s.heap it l j)
   (hQ : ∀ h', Heap.ExtBut it s.heap h' -> Q none { s with heap := h' }) : wpAny (model prog w) A (pyNext (.ref it)) Q E s := by
 obtain ⟨o, ho, hc, hd⟩ := id hit
 unfold pyNext
 refine wpAny_bind (wpAny_attempt ?_)
 refine wpAny_callSpecial?_slot (name := Str.ofString "__next__") hit.typeIs Q2 ?_
 refine wpAny_call_entry Q2 hit.typeIs Bu ?_ (De _)
 unfold Builtin.«reversed.__next__»
 refine wpAny_bind (wpAny_of_eq (a := (Value.ref it, [])) rfl ?_)
 try dsimp only
 refine wpAny_bind (wpAny_field ho hd (x := .ref l) rfl (wpAny_bind (wpAny_field ho hd (x := rawInt j) rfl ?_)))
 show wpAny _ _ (if j < 0 then _ else _) _ _ s
 rw [if_pos hj]
 refine wpAny_bind (wpAny_rule ?_)
 have ho1 := Heap.get?_update_self (Obj.mapFields (·.setIfInBounds 1 (rawInt (-1)))) ho (Obj.isFreed_of_fields (Obj.data_mapFields hd _))
 have hd1 := Obj.data_mapFields hd (fun a => a.setIfInBounds 1 (rawInt (-1)))
 refine wpAny_bind ?_
 show wpAny _ _ (setField (.ref it) 1 (rawInt (-1)) >>= fun _ => setField (.ref it) 0 .none) _ _ _
 refine wpAny_bind (wpAny_setField ho hd (by simp) (wpAny_setField ho1 hd1 (by simp) (wpAny_bind ?_)))
 show wpAny _ _ (newExc (.type "StopIteration") [] >>= _) _ _ _
 refine wpAny_bind ?_
 simp only [newExc, newTuple]
 refine wpAny_bind (wpAny_newObj_type ?_ (by size_fits))
 refine wpAny_bind (m := firstArgMember _ _) (wpAny_of_eq (a := Value.none) (by first | rfl | (simp only [firstArgMember]; rfl)) (wpAny_newObj_type ?_ (by size_fits)))
 simp only [raiseNew]
 refine wpAny_bind (wpAny_handled ?_)
 rw [show A.in1.handled = none from hh]
 refine wpAny_bind (wpAny_pure (wpAny_throw (wpAny_bind ?_)))
 refine wpAny_isInstance (T := "StopIteration") (b := true) ⟨_, Heap.get?_push_size _ rfl, rfl⟩ isSubtype_stop ?_
 refine wpAny_pure (hQ _ (Heap.ExtBut.push (Heap.ExtBut.push ?_ _) _))
 intro b ob hb eb
 exact ((Heap.SameBut.update ..).extBut b ob hb ((Heap.SameBut.update ..).extBut b ob hb eb))
theorem Sj {it l : Addr} {i : Int} {Q : Value -> Shared -> Prop} (hit : IsRvT s.heap it l i) (h : Q (.ref it) s) : wpAny (model prog w) A (pyIter (.ref it)) Q E s := by
 refine wpAny_pyIter_slot hit.typeIs Dd (wpAny_call_entry Dd hit.typeIs Kn ?_ (Mr _))
 show wpAny _ _ (ret (.ref it)) _ _ s
 exact wpAny_pure ⟨_, rfl, "reversed", _, hit.typeIs, Q2.lookup, h⟩
end
def ItV (K : PySem.W.Frag) (a : Addr) (n : Nat) : It :=
 ⟨fun i H => i < n /\ ∃ xs x, SqT K H a xs /\ xs.length = n /\ xs[n - 1 - i]? = some x, fun i H x H' => H' = H /\ ∀ xs, SqT K H a xs -> xs[n - 1 - i]? = some x, fun i H => n <= i⟩
theorem Wy {P : Program} {w : World} {K : PySem.W.Frag} {tg : Expr} (a it : Addr) (n : Nat) : Turn P w K tg (ItV K a n) [it] it (fun i h => IsRvT h it a ((n : Int) - 1 - i)) where
 mem := by simp
 obj := fun i h st b hb => by
   have e : b = it := by simpa using hb
   subst e; obtain ⟨o, e, c, d⟩ := st; exact ⟨o, e, fun v z => by rw [d] at z; cases z⟩
 keep := fun i h h' st k => by
   obtain ⟨o, e, r⟩ := st; exact ⟨o, k it (by simp) o e, r⟩
 item := by
   intro X hP hw hK hc i pins s Z H E I hf st hg; subst hP hw hK; obtain ⟨hi, xs, x, hq, hn, hx⟩ := hg; obtain ⟨its, rv, p, hz⟩ := I.tuple hq; obtain ⟨u, hu, ru⟩ := rv.get hx; have hl := rv.length; obtain ⟨f0, f1, f2, f3, f4, f5⟩ := hf it (by simp)
   have e1 : (n : Int) - 1 - (i : Int) = ((n - 1 - i : Nat) : Int) := by omega
   rw [e1] at st; refine bS st (show IsTup s.heap a its.toArray from p) (by simp only [List.size_toArray]; omega) (x := u) (by simpa using hu) fun h' tk st' sb => ?_
   have I1 : Inv X pins Z H { s with heap := h', toks := tk } := I.turned (t' := tk) (fun b o hb e => (sb.2 b hb).trans e) f0 f1 f3 f4 f5
   obtain ⟨o, e, c, d⟩ := id st'; refine ⟨u, rfl, Jd (s := { s with heap := h', toks := tk }) e c d (by decide) ⟨x, H, I1, ru, ⟨rfl, fun ys hy => by rw [I.tuple_inj hy hq]; exact hx⟩, ?_, fun b hb => (hf b hb).1⟩⟩
   have e2 : ((n - 1 - i : Nat) : Int) - 1 = (n : Int) - 1 - ((i + 1 : Nat) : Int) := by omega
   rw [e2] at st'; exact st'
 done := by
   intro X hP hw hK hc i pins s Z H E I hf st hg; subst hP hw hK; have hi : n <= i := hg; obtain ⟨f0, f1, f2, f3, f4, f5⟩ := hf it (by simp)
   exact fZ (by omega) (I.ok.hd hc) st fun h' eb => ⟨rfl, I.turned (t' := s.toks) (fun b o hb e => eb b o hb e) f0 f1 f3 f4 f5⟩
 self := fun _ _ _ _ _ st h => Sj st h
theorem Wr {K : PySem.W.Frag} {G : Hp} {a : Addr} {xs : List V} {ds : List PyData} (h : G a = some (.tup xs)) (l : RepL G ds xs) : Walk (ItV K a xs.length) G ds.reverse where
 go := fun i H hi hG => by
   have hi' : i < xs.length := by rw [<- l.length]; simpa using hi
   exact ⟨hi', xs, xs[xs.length - 1 - i], .inl (.inl (hG _ _ h)), rfl, by simp⟩
 yld := fun i d G2 H x H' e h1 h2 hy => by
   obtain ⟨rfl, hy⟩ := hy; have hlen := l.length; have hi : i < ds.length := by
     rcases Nat.lt_or_ge i ds.length with z | z
     . exact z
     . rw [List.getElem?_eq_none (by simpa using z)] at e; cases e
   rw [List.getElem?_reverse hi] at e; obtain ⟨y, e1, r⟩ := l.get e; have := hy xs (.inl (.inl (h2 _ _ (h1 _ _ h)))); rw [hlen] at e1; rw [e1] at this; cases this; exact ⟨G2, Grow.refl h2, r.mono h1⟩
 stop := fun i H hi hG => by
   show xs.length <= i
   rw [<- l.length]; simpa using hi
noncomputable def Kv : PyData -> Res (List PyData)
 | .tuple ds => .ok ds.reverse
 | _ => .no
section
variable {P : Program} {w : World} {K : PySem.W.Frag} {mg : Str -> Option Value} {base : Heap} {X : Cx} {N : List Str} {sc : Scope} {k : Nat} {df : Bool} {E : EK} {pos p : Pos} {tg a : Expr} {f : Dn -> Res PyData}
theorem i_rev (C : Cxt P w K mg base X N sc k df) (h : okGl sc "reversed" = true) (hm : mg "reversed" = none) (ha : DE X E a f) (he : starEach [a] X.env = (false, eval a X.env) :: starEach [] X.env := by rfl) (hpl : (backTo pos (starEach [] X.env)).any (·.1) = false := by rfl) :
   DI X E tg (.Call (.Name "reversed" p) [a] [] pos) (fun δ => (f δ).bind Kv) := by
 intro pins s Z H R I ⟨G, δ, S, aft⟩
 obtain ⟨h1, h2, h3⟩ := okGl.gl C h
 have hh := Gx (R := fun v H1 => ∃ v0 G1 d, [v] = [v0] /\ Same G1 H1 /\ Rep G1 d v0 /\ AftI E G1 H1 (Kv d) R) (W := fun G H r => AftI E G H r R) S aft (fun g a => AftI.grow g a) (fun c a => a) (fun a => a) fun d v G1 H1 g1 r1 S1 a1 => ⟨v, G1, d, rfl, S1.sub, r1, a1⟩
 refine wpAny_Call_Name_kw (Ci I h1 (by rw [C.hmg]; exact hm) (show bootBuiltins "reversed" = some (.type "reversed") by decide +kernel) ?_ h3 h2)
 refine PyProof.Rows.callWith_type1 (thn ((F6 ha M9 he) pos pins s Z H (fun vs H1 => ∃ v G1 d, vs = [v] /\ Same G1 H1 /\ Rep G1 d v /\ AftI E G1 H1 (Kv d) R) I ?_) fun us s1 ⟨vs, H1, I1, rx, v, G1, d, ev, hG, rd, a1⟩ => ?_) he hpl
 . exact hh
 . subst ev
   obtain ⟨u, rfl, ru⟩ := Vals.one rx
   cases d with
   | tuple ds =>
     obtain ⟨q, xs, rfl, hq, l1⟩ := rd; cases ru; obtain ⟨zz, its, rv, e1⟩ := Y8 I1 hG hq; have hl := rv.length; refine bV (show IsTup s1.heap q its.toArray from e1) (by simp only [List.size_toArray]; omega) fun tk => ?_
     have I2 : Inv X pins Z H1 { s1 with heap := s1.heap.push { cls := .type "reversed", data := .fields #[.ref q, rawInt ((its.toArray.size : Int) - 1)] }, toks := tk } := I1.kept (t' := tk) fun b o e => Heap.get?_push_of_some _ e
     have st : IsRvT (s1.heap.push { cls := .type "reversed", data := .fields #[.ref q, rawInt ((its.toArray.size : Int) - 1)] }) s1.heap.objs.size q ((xs.length : Int) - 1 - ((0 : Nat) : Int)) := ⟨_, Heap.get?_push_size _ rfl, rfl, by simp [hl]⟩
     refine Sj (s := { s1 with heap := s1.heap.push { cls := .type "reversed", data := .fields #[.ref q, rawInt ((its.toArray.size : Int) - 1)] }, toks := tk }) st ?_; refine ⟨s1.heap.objs.size, [s1.heap.objs.size], _, _, H1, rfl, I2, Wy q _ xs.length, st, fun b hb => ?_, a1 _ G1 H1 (Grow.refl hG) (Wr hq l1)⟩
     have e : b = s1.heap.objs.size := by simpa using hb
     subst e; exact I1.fpOk (Nat.le_refl _) (I1.hok.fresh (Nat.le_refl _))
   | _ => exact (show False from a1).elim
end
end Sm
end
section
namespace Sm
open PySem PySem.Spec PyProof.Rows L2
section
variable {prog : Program} {w : World} {A : Around} {R : Result -> Shared -> Prop} {I : Addr} {fp wr : List Addr} {n : Nat} {P : Nat -> Value -> Prop} {St : Nat -> Heap -> Prop}
abbrev Ug (xs : Array Value) (c : Nat) : Obj := { cls := .type "list", dict := none, data := .seq xs c, slots := #[] }
theorem Nd : (toString "max" ++ toString ".loop" : String) = "max.loop" := by decide
theorem cX (kw : List (Str × Value)) (W : Walks prog w A.in1 I fp wr n P St) (bt : Nat -> Nat -> Bool) (hcmp : CmpOf prog w A.in1 .Gt P bt) (S : Addr) (hSf : S ∉ fp) :
   ∀ (r j : Nat) (s : Shared) (vb : Value) (c : Nat), j + 1 + r = n -> St (j + 1) s.heap -> P (argBest bt j) vb -> s.heap.get? S = some (Ug #[vb, vb] c) ->
   (∀ v h' tk, P (argBest bt (n - 1)) v -> (∀ b o, b ∉ wr -> b ≠ S -> s.heap.get? b = some o -> h'.get? b = some o) -> R (.ok (.ret v)) { s with heap := h', toks := tk }) ->
   codeAny (model prog w) A (.builtin "max.loop" ⟨[.ref I, .none, .ref S], kw⟩) R s := by
 have hw : S ∉ wr := fun h => hSf (W.sub _ h)
 intro r
 induction r with
 | zero =>
   intro j s vb c hr hst hb hS hR; have hjn : j + 1 = n := by omega
   refine codeAny_builtin F.entry_max_loop ?_; rw [Around.under_plainId F.plain_max_loop _]; refine wpAny_bind (wpAny_seqItems hS rfl (wpAny_bind (wpAny_tryCatch (W.done s _ _ (hjn ▸ hst) fun h' tk hk => ?_))))
   have hS1 := hk S _ hw hS; refine wpAny_bind ?_; refine wpAny_updateSeq hS1 rfl (wpAny_bind (wpAny_letGo (wpAny_pure ?_))); refine hR vb _ tk (by rw [<- hjn]; exact hb) fun b o h1 h2 e => ?_
   exact (Heap.get?_update_other _ _ (Ne.symm h2)).trans (hk b o h1 e)
 | succ r ih =>
   intro j s vb c hr hst hb hS hR; refine codeAny_builtin F.entry_max_loop ?_; rw [Around.under_plainId F.plain_max_loop _]; refine wpAny_bind (wpAny_seqItems hS rfl (wpAny_bind (wpAny_tryCatch (W.item (j + 1) s _ _ (by omega) hst fun v h' tk hP hst' hk => ?_))))
   have hS1 := hk S _ hw hS; show wpAny _ A.in1 (tryCatch (holding [v, v] (richCompare .Gt v vb >>= _)) _ >>= _) _ _ _
   refine wpAny_bind (wpAny_tryCatch (wpAny_holding (wpAny_bind (hcmp (j + 1) (argBest bt j) v vb _ _ _ hP hb ?_)))); refine wpAny_bind (wpAny_holding (wpAny_truthy_bool (wpAny_bind (wpAny_letGo (wpAny_pure ?_)))))
   by_cases hc : bt (j + 1) (argBest bt j) = true
   . rw [if_pos hc]
     refine wpAny_bind ?_; refine wpAny_updateSeq hS1 rfl (wpAny_bind (wpAny_letGo ?_)); rw [Nd]; refine wpAny_pure ⟨plainId_quiet F.plain_max_loop _, ih (j + 1) _ v _ (by omega) (W.frame _ _ _ hst' fun b hbf o e => ?_) (by rw [argBest, if_pos hc]; exact hP) (Heap.get?_update_self _ hS1 rfl) fun v2 h2 tk2 hP2 hk2 => ?_⟩
     . exact (Heap.get?_update_other _ _ (fun z : S = b => hSf (z ▸ hbf))).trans e
     . exact hR v2 h2 tk2 hP2 fun b o h1 h3 e => hk2 b o h1 h3 ((Heap.get?_update_other _ _ (Ne.symm h3)).trans (hk b o h1 e))
   . rw [if_neg hc]
     refine wpAny_bind (wpAny_letGo ?_); rw [Nd]; refine wpAny_pure ⟨plainId_quiet F.plain_max_loop _, ih (j + 1) _ vb c (by omega) hst' (by rw [argBest, if_neg hc]; exact hb) hS1 fun v2 h2 tk2 hP2 hk2 => ?_⟩
     exact hR v2 h2 tk2 hP2 fun b o h1 h3 e => hk2 b o h1 h3 (hk b o h1 e)
theorem Zj {dn : Str} {dv : Value} (W : Walks prog w A.in1 I fp wr n P St) (bt : Nat -> Nat -> Bool) (hcmp : CmpOf prog w A.in1 .Gt P bt) (S : Addr) (hSf : S ∉ fp) {s : Shared} {c : Nat} (hst : St 0 s.heap) (hS : s.heap.get? S = some (Ug #[] c))
   (hR : ∀ v h' tk, (n = 0 /\ v = dv \/ 0 < n /\ P (argBest bt (n - 1)) v) -> (∀ b o, b ∉ wr -> b ≠ S -> s.heap.get? b = some o -> h'.get? b = some o) -> R (.ok (.ret v)) { s with heap := h', toks := tk }) :
   codeAny (model prog w) A (.builtin "max.loop" ⟨[.ref I, .none, .ref S], [(dn, dv)]⟩) R s := by
 have hw : S ∉ wr := fun h => hSf (W.sub _ h)
 refine codeAny_builtin F.entry_max_loop ?_
 rw [Around.under_plainId F.plain_max_loop _]
 refine wpAny_bind (wpAny_seqItems hS rfl (wpAny_bind (wpAny_tryCatch ?_)))
 by_cases hn : n = 0
 . refine W.done s _ _ (hn ▸ hst) fun h' tk hk => ?_
   show wpAny _ A.in1 (rule _ >>= fun _ => ret dv) _ _ _
   exact wpAny_bind (wpAny_rule (wpAny_pure (hR dv h' tk (.inl ⟨hn, rfl⟩) fun b o h1 _ e => hk b o h1 e)))
 . refine W.item 0 s _ _ (by omega) hst fun v h' tk hP hst' hk => ?_
   have hS1 := hk S _ hw hS; show wpAny _ A.in1 (updateSeq S (fun _ => #[v, v]) >>= _) _ _ _
   refine wpAny_bind (wpAny_updateSeq hS1 rfl ?_); rw [Nd]; refine wpAny_pure ⟨plainId_quiet F.plain_max_loop _, cX _ W bt hcmp S hSf (n - 1) 0 _ v _ (by omega) (W.frame _ _ _ hst' fun b hbf o e => ?_) hP (Heap.get?_update_self _ hS1 rfl) fun v2 h2 tk2 hP2 hk2 => ?_⟩
   . exact (Heap.get?_update_other _ _ (fun z : S = b => hSf (z ▸ hbf))).trans e
   . exact hR v2 h2 tk2 (.inr ⟨by omega, hP2⟩) fun b o h1 h3 e => hk2 b o h1 h3 ((Heap.get?_update_other _ _ (Ne.symm h3)).trans (hk b o h1 e))
end
section
variable {prog : Program} {w : World} {A : Around} {E : Value -> Shared -> Prop} {s : Shared}
theorem cY {x dv : Value} {Q : Value -> Shared -> Prop}
   (h : wpAny (model prog w) A.in1 (pyIter x) (fun it s₂ => ∃ I fp wr n P St bt, it = .ref I /\ Walks prog w A.in1 I fp wr n P St /\ St 0 s₂.heap /\ (∀ b ∈ fp, b < s₂.heap.objs.size) /\ CmpOf prog w A.in1 .Gt P bt /\
     ∀ v h' tk, (n = 0 /\ v = dv \/ 0 < n /\ P (argBest bt (n - 1)) v) -> (∀ b o, b ∉ wr -> s₂.heap.get? b = some o -> h'.get? b = some o) -> Q v { s₂ with heap := h', toks := tk }) E s) :
   wpAny (model prog w) A (call (.builtin "max") [x] [(("default" : Str), dv)]) Q E s := by
 refine wpAny_call (codeAny_call_builtin F.plain_max F.entry_max ?_)
 refine wpAny_of_eq (a := ()) (by kernel_rfl) ?_
 refine wpAny_bind (wpAny_of_eq (show Builtin.Builtins.bindParams "max" ["key", "default"] 0 ⟨[], [(("default" : Str), dv)]⟩ = pure [none, some dv] from by first | rfl | kernel_rfl) ?_)
 refine wpAny_bind (wpAny_pure (wpAny_bind (wpAny_mono h (fun it s₂ h₂ => ?_) fun _ _ e => e)))
 obtain ⟨I, fp, wr, n, P, St, bt, rfl, W, hst, hfp, hcmp, hQ⟩ := h₂
 refine wpAny_bind (wpAny_newObj_type ?_)
 rw [Nd]
 refine wpAny_pure ⟨plainId_quiet F.plain_max_loop _, Zj W bt hcmp s₂.heap.objs.size (fun hm => Nat.lt_irrefl _ (hfp _ hm)) (W.frame _ _ _ hst fun b _ o e => Heap.get?_push_of_some _ e) (Heap.get?_push_size _ rfl) fun v h' tk hP hk => ?_⟩
 exact hQ v h' tk hP fun b o hbw e => hk b o hbw (Nat.ne_of_lt (Heap.lt_size e)) (Heap.get?_push_of_some _ e)
end
noncomputable def Fp (i : Int) : PyData -> Option PyData
 | .list ds => (Q5 ds).map fun is => .int (match Ra is with | some m => m | none => i)
 | _ => none
section
variable {P : Program} {w : World} {K : PySem.W.Frag} {mg : Str -> Option Value} {base : Heap} {X : Cx} {N : List Str} {sc : Scope} {k : Nat} {df : Bool} {E : EK} {pos p p1 kp : Pos} {a : Expr} {f : Dn -> Res PyData}
theorem iU {i : Int} {j : Nat} (C : Cxt P w K mg base X N sc k df) (h : okGl sc "max" = true) (hm : mg "max" = none) (ha : DE X E a f)
   (he : starEach [a] X.env = (false, eval a X.env) :: starEach [] X.env := by rfl)
   (he2 : backTo pos (starEach [a] X.env) = (false, eval a X.env) :: backTo pos (starEach [] X.env) := by rfl)
   (hp1 : (backTo pos (starEach [a] X.env)).any (·.1) = false := by rfl)
   (hal : (backToKw pos (keywordEach [⟨some "default", .Constant (.int i) j p1, kp⟩] X.env)).all (·.1.isSome) = true := by rfl)
   (hkw : (backToKw pos (keywordEach [⟨some "default", .Constant (.int i) j p1, kp⟩] X.env)).any (·.1.isNone) = false := by rfl)
   (hks : (backToKw pos (keywordEach [⟨some "default", .Constant (.int i) j p1, kp⟩] X.env)).filterMap (·.1) = [("default" : Str)] := by rfl) :
   DE X E (.Call (.Name "max" p) [a] [⟨some "default", .Constant (.int i) j p1, kp⟩] pos) (b1 f (Fp i)) := by
 intro pins s Z H Q I ⟨G, δ, S, aft⟩
 obtain ⟨h1, h2, h3⟩ := okGl.gl C h
 refine wpAny_Call_Name_kw (Ci I h1 (by rw [C.hmg]; exact hm) (show bootBuiltins "max" = some (.builtin "max") by decide +kernel) ?_ h3 h2)
 have hh := P3 (R := fun v H1 => ∃ v0 G1 d, [v] = [v0] /\ Same G1 H1 /\ Rep G1 d v0 /\ Aft E G1 H1 (ofO (Fp i d)) Q) S aft fun d v G1 H1 g1 r1 S1 a1 => ⟨v, G1, d, rfl, S1.sub, r1, a1⟩
 refine PyProof.Rows.callWith_kw (thn ((F6 ha M9 he) pos pins s Z H (fun vs H1 => ∃ v G1 d, vs = [v] /\ Same G1 H1 /\ Rep G1 d v /\ Aft E G1 H1 (ofO (Fp i d)) Q) I hh) fun us s1 ⟨vs, H1, I1, rx, v, G1, d, ev, hG, rd, a1⟩ => ?_) he2 hp1 hal hkw
 subst ev
 obtain ⟨u, rfl, ru⟩ := Vals.one rx
 refine thn ((cG (kpos := kp) (nm := some "default") (Mx (i := i)) gP) pos pins s1 Z H1 (fun zs H2 => zs = [.int i] /\ H2 = H1) I1 ⟨rfl, rfl⟩) fun ws s2 ⟨zs, H2, I2, rz, ez, eH⟩ => ?_
 subst ez eH
 obtain ⟨wv, rfl, rw0⟩ := Vals.one rz
 obtain ⟨t, rfl⟩ := rw0
 rw [hks]
 cases d with
 | list ys =>
   cases e0 : Q5 ys with
   | none => simp only [Fp, e0] at a1; exact (show False from a1).elim
   | some is =>
     simp only [Fp, e0] at a1; obtain ⟨b, vs, rfl, hb, lb⟩ := rd; cases ru; obtain ⟨z, its, n, rv, e2⟩ := O7 I2 hG hb; obtain ⟨hb1, hb2⟩ := Jb lb rv e0; have hl : s2.heap.IsList b its.toArray := ⟨_, e2, rfl, n, rfl⟩; have hlt : b < s2.heap.objs.size := Heap.lt_size e2; refine cY (wpAny_pyIter_list hl ?_); refine ⟨s2.heap.objs.size, [s2.heap.objs.size, b], [s2.heap.objs.size], its.toArray.size, _, _, fun i j => decide ((is[i]?).getD 0 > (is[j]?).getD 0), rfl, Walks.list (A := X.A.in1) (I2.ok.hd C.calm) _ b (Nat.ne_of_lt hlt) its.toArray,
       ⟨⟨_, Heap.get?_push_size _ rfl, rfl, rfl⟩, hl.push _⟩, ?_, CmpOf.ints_gt (fun j => (is[j]?).getD 0) (fun j v hP => hb2 j v (by simpa using hP)), fun v h' tk hP hk => ?_⟩
     . intro c hc
       simp only [List.mem_cons, List.not_mem_nil, or_false] at hc; rcases hc with rfl | rfl
       . exact Heap.lt_size (Heap.get?_push_size _ rfl)
       . exact Heap.lt_size (Heap.get?_push_of_some _ e2)
     . rcases hP with ⟨hn, rfl⟩ | ⟨hn, hP⟩
       . have : is = [] := by rw [<- List.length_eq_zero_iff, <- hb1]; simpa using hn
         subst this; exact ⟨.int i, H2, I2.kept (Nj hk), ⟨t, rfl⟩, a1 _ G1 H2 (Grow.refl hG) rfl⟩
       . cases em : Ra is with
         | none =>
           cases is with
           | nil => rw [List.size_toArray, hb1] at hn; simp at hn
           | cons _ _ => cases em
         | some M =>
           obtain ⟨m1, m2⟩ := Ld em; have hP' : its[argBest (fun i j => decide ((is[i]?).getD 0 > (is[j]?).getD 0)) (its.toArray.size - 1)]? = some v := by simpa using hP
           rw [List.size_toArray, hb1] at hP'; obtain ⟨t2, rfl⟩ := hb2 _ _ hP'; simp only [Option.map_some, em] at a1; rw [m1]; exact ⟨.int M, H2, I2.kept (Nj hk), ⟨t2, rfl⟩, a1 _ G1 H2 (Grow.refl hG) rfl⟩
 | _ => exact (show False from a1).elim
end
end Sm
end
section
namespace Sm
open PySem PySem.Spec PySem.W PyProof.Rows
noncomputable def okR {α : Type} (n : Nat) (lt : Nat -> Nat -> Bool) : KasT α -> (α -> Prop) -> Prop
 | .ret a, P => P a
 | .ask i j k, P => i < n /\ j < n /\ okR n lt (k (lt i j)) P
theorem okR.bind {α β : Type} {n : Nat} {lt : Nat -> Nat -> Bool} {f : α -> KasT β} {P : β -> Prop} : ∀ {t : KasT α}, okR n lt t (fun a => okR n lt (f a) P) -> okR n lt (t.bind f) P
 | .ret _, h => h
 | .ask i j k, h => ⟨h.1, h.2.1, okR.bind (t := k (lt i j)) h.2.2⟩
theorem okR.mono {α : Type} {n : Nat} {lt : Nat -> Nat -> Bool} {P Q : α -> Prop} (hq : ∀ a, P a -> Q a) : ∀ {t : KasT α}, okR n lt t P -> okR n lt t Q
 | .ret a, h => hq a h
 | .ask i j k, h => ⟨h.1, h.2.1, okR.mono hq (t := k (lt i j)) h.2.2⟩
theorem okR.wp {α : Type} {n : Nat} {lt : Nat -> Nat -> Bool} {P : α -> Prop} {Q : α -> Shared -> Prop} {s : Shared} {cmp : Nat -> Nat -> (Bool -> Shared -> Prop) -> Shared -> Prop} (hc : ∀ i j C, i < n -> j < n -> C (lt i j) s -> cmp i j C s) (hq : ∀ a, P a -> Q a s) :
   ∀ {t : KasT α}, okR n lt t P -> t.kasWp cmp Q s
 | .ret a, h => hq a h
 | .ask i j k, h => hc i j _ h.1 h.2.1 (okR.wp hc hq (t := k (lt i j)) h.2.2)
section
variable {n : Nat} {r : Nat -> Int}
structure Gd (n : Nat) (p : Array Nat) : Prop where
 size : p.size = n
 perm : p.toList.Perm (List.range n)
abbrev ltR (r : Nat -> Int) (i j : Nat) : Bool := decide (r i < r j)
theorem Gd.lt {p : Array Nat} (g : Gd n p) {k : Nat} (hk : k < n) : p.getD k 0 < n := by
 have h1 : k < p.size := by rw [g.size]; exact hk
 have : p[k] ∈ p.toList := by rw [Array.mem_toList_iff]; exact Array.getElem_mem h1
 have := g.perm.mem_iff.mp this
 have e : p.getD k 0 = p[k] := by simp [Array.getD, h1]
 rw [e]; exact List.mem_range.mp this
theorem Gd.inj {p : Array Nat} (g : Gd n p) {k l : Nat} (hk : k < n) (hl : l < n) (h : p.getD k 0 = p.getD l 0) : k = l := by
 have h1 : k < p.size := by rw [g.size]; exact hk
 have h2 : l < p.size := by rw [g.size]; exact hl
 have nd : p.toList.Nodup := g.perm.nodup_iff.mpr List.nodup_range
 have e1 : p.getD k 0 = p[k] := by simp [Array.getD, h1]
 have e2 : p.getD l 0 = p[l] := by simp [Array.getD, h2]
 rw [e1, e2] at h
 exact (List.getElem_inj (xs := p.toList) (h₀ := by simpa using h1) (h₁ := by simpa using h2) nd).mp (by simpa using h)
theorem Gd.ne {p : Array Nat} (g : Gd n p) (hr : ∀ i j, i < n -> j < n -> r i = r j -> i = j) {k l : Nat} (hk : k < n) (hl : l < n) (h : k ≠ l) : r (p.getD k 0) ≠ r (p.getD l 0) := fun e => h (g.inj hk hl (hr _ _ (g.lt hk) (g.lt hl) e))
theorem Gd.ofPerm {p q : Array Nat} (g : Gd n p) (h : q.Perm p) : Gd n q := ⟨by rw [h.size_eq]; exact g.size, (Array.perm_iff_toList_perm.mp h).trans g.perm⟩
def Up (r : Nat -> Int) (p : Array Nat) (m : Nat) : Prop := ∀ i j, i < j -> j < m -> r (p.getD i 0) < r (p.getD j 0)
def Dn' (r : Nat -> Int) (p : Array Nat) (m : Nat) : Prop := ∀ i j, i < j -> j < m -> r (p.getD j 0) < r (p.getD i 0)
theorem Gr {p q : Array Nat} {k l : Nat} (h : p[k]? = q[l]?) : p.getD k 0 = q.getD l 0 := by
 rw [Array.getD_eq_getD_getElem?, Array.getD_eq_getD_getElem?, h]
theorem Qp {p : Array Nat} (g : Gd n p) (hr : ∀ i j, i < n -> j < n -> r i = r j -> i = j) : ∀ (f m : Nat), 1 <= m -> m + f <= n -> Up r p m -> okR n (ltR r) (kas_asc p f m) fun m' => m <= m' /\ m' <= m + f /\ Up r p m' /\ (m' < m + f -> r (p.getD m' 0) < r (p.getD (m' - 1) 0))
 | 0, m, h1, h2, u => ⟨Nat.le_refl _, Nat.le_refl _, u, fun z => absurd z (Nat.lt_irrefl _)⟩
 | f + 1, m, h1, h2, u => by
   refine ⟨g.lt (by omega), g.lt (by omega), ?_⟩
   by_cases c : r (p.getD m 0) < r (p.getD (m - 1) 0)
   . rw [show ltR r (p.getD m 0) (p.getD (m - 1) 0) = true from decide_eq_true c]
     dsimp only; rw [if_pos rfl]; exact ⟨Nat.le_refl _, by omega, u, fun _ => c⟩
   . rw [show ltR r (p.getD m 0) (p.getD (m - 1) 0) = false from decide_eq_false c]
     dsimp only; rw [if_neg (by decide)]; have ne := g.ne hr (k := m) (l := m - 1) (by omega) (by omega) (by omega)
     have u2 : Up r p (m + 1) := fun i j hij hj => by
       by_cases e : j = m
       . subst e
         by_cases e2 : i = j - 1
         . subst e2; omega
         . have := u i (j - 1) (by omega) (by omega); omega
       . exact u i j hij (by omega)
     refine (Qp g hr f (m + 1) (by omega) (by omega) u2).mono fun m' ⟨a, b, c, d⟩ => ⟨by omega, by omega, c, fun z => d (by omega)⟩
theorem Sf {p : Array Nat} (g : Gd n p) (hr : ∀ i j, i < n -> j < n -> r i = r j -> i = j) : ∀ (f m : Nat), 1 <= m -> m + f <= n -> Dn' r p m -> okR n (ltR r) (kas_desc f p m 0) fun t => t.1 = p /\ t.2.2 = 0 /\ m <= t.2.1 /\ t.2.1 <= m + f /\ Dn' r p t.2.1
 | 0, m, h1, h2, u => ⟨rfl, rfl, Nat.le_refl _, Nat.le_refl _, u⟩
 | f + 1, m, h1, h2, u => by
   refine ⟨g.lt (by omega), g.lt (by omega), ?_⟩
   by_cases c : r (p.getD m 0) < r (p.getD (m - 1) 0)
   . rw [show ltR r (p.getD m 0) (p.getD (m - 1) 0) = true from decide_eq_true c]
     dsimp only; rw [if_pos rfl, if_neg (by decide)]; have u2 : Dn' r p (m + 1) := fun i j hij hj => by
       by_cases e : j = m
       . subst e
         by_cases e2 : i = j - 1
         . subst e2; omega
         . have := u i (j - 1) (by omega) (by omega); omega
       . exact u i j hij (by omega)
     exact (Sf g hr f (m + 1) (by omega) (by omega) u2).mono fun t ⟨a, b, c, d, e⟩ => ⟨a, b, by omega, by omega, e⟩
   . rw [show ltR r (p.getD m 0) (p.getD (m - 1) 0) = false from decide_eq_false c]
     dsimp only; rw [if_neg (by decide)]; have ne := g.ne hr (k := m) (l := m - 1) (by omega) (by omega) (by omega)
     refine ⟨g.lt (by omega), g.lt (by omega), ?_⟩
     rw [show ltR r (p.getD (m - 1) 0) (p.getD m 0) = true from decide_eq_true (by omega)]; dsimp only; rw [if_pos rfl]; exact ⟨rfl, rfl, Nat.le_refl _, by show m <= m + (f + 1); omega, u⟩
theorem bM {p : Array Nat} (g : Gd n p) (hr : ∀ i j, i < n -> j < n -> r i = r j -> i = j) (m : Nat) (h1 : 1 <= m) (h2 : m <= n) (d : Dn' r p m) : okR n (ltR r) (kas_tail3 m n p) fun t => Gd n t.2 /\ 1 <= t.1 /\ t.1 <= n /\ Up r t.2 t.1 := by
 have hsz := g.size
 have g2 : Gd n (kas_rev p 0 m) := g.ofPerm (mirror_perm _ _ _ _)
 have e : ∀ k, k < m -> (kas_rev p 0 m).getD k 0 = p.getD (m - 1 - k) 0 := fun k hk => Gr (by
   unfold kas_rev; rw [getElem?_mirror_all (by omega), if_pos ⟨Nat.zero_le _, hk⟩]
   congr 1; omega)
 have u : Up r (kas_rev p 0 m) m := fun i j hij hj => by
   show r _ < r _
   rw [e i (by omega), e j hj]; exact d (m - 1 - j) (m - 1 - i) (by omega) (by omega)
 refine okR.bind ((Qp g2 hr (n - m) m h1 (by omega) u).mono fun m' ⟨a, b, c, _⟩ => ?_)
 exact ⟨g2, by omega, by omega, c⟩
theorem Xr {p : Array Nat} (g : Gd n p) (hr : ∀ i j, i < n -> j < n -> r i = r j -> i = j) (hn : 1 <= n) : okR n (ltR r) (kas_count n p) fun t => Gd n t.2 /\ 1 <= t.1 /\ t.1 <= n /\ Up r t.2 t.1 := by
 have u1 : Up r p 1 := fun i j h1 h2 => by omega
 refine okR.bind ((Qp g hr (n - 1) 1 (Nat.le_refl _) (by omega) u1).mono fun m ⟨a, b, c, d⟩ => ?_)
 by_cases e : m = n
 . rw [if_pos (by simp [e])]
   exact ⟨g, by omega, by omega, c⟩
 . rw [if_neg (by simp [e])]
   by_cases e2 : m > 1
   . rw [if_pos e2]
     refine ⟨g.lt (by omega), g.lt (by omega), ?_⟩
     rw [show ltR r (p.getD 0 0) (p.getD (m - 1) 0) = true from decide_eq_true (c 0 (m - 1) (by omega) (by omega))]; dsimp only; rw [if_pos rfl]; exact ⟨g, by omega, by omega, c⟩
   . rw [if_neg e2]
     have em : m = 1 := by omega
     subst em; have h0 := d (by omega)
     have dd : Dn' r p 2 := fun i j h1 h2 => by
       have : i = 0 := by omega
       have : j = 1 := by omega
       subst_vars
       simpa using h0
     refine okR.bind ((Sf g hr (n - (1 + 1)) 2 (by omega) (by omega) dd).mono fun t ⟨q1, q2, q3, q4, q5⟩ => ?_)
     rw [if_neg (by omega), q1]; exact bM g hr t.2.1 (by omega) (by omega) q5
theorem Ii {p : Array Nat} (g : Gd n p) (hr : ∀ i j, i < n -> j < n -> r i = r j -> i = j) (k : Nat) (hk : k < n) (u : Up r p k) : ∀ (f l h : Nat), h - l <= f -> l <= h -> h <= k -> (∀ i, i < l -> r (p.getD i 0) < r (p.getD k 0)) -> (∀ i, h <= i -> i < k -> r (p.getD k 0) < r (p.getD i 0)) ->
   okR n (ltR r) (kas_place p k f l h) fun l0 => l0 <= k /\ (∀ i, i < l0 -> r (p.getD i 0) < r (p.getD k 0)) /\ ∀ i, l0 <= i -> i < k -> r (p.getD k 0) < r (p.getD i 0)
 | 0, l, h, hf, hl, hh, a, b => ⟨by omega, a, fun i h1 h2 => b i (by omega) h2⟩
 | f + 1, l, h, hf, hl, hh, a, b => by
   unfold kas_place
   by_cases c : l ≥ h
   . rw [if_pos c]
     exact ⟨by omega, a, fun i h1 h2 => b i (by omega) h2⟩
   . rw [if_neg c]
     refine ⟨g.lt (by omega), g.lt (by omega), ?_⟩
     have hmk : (l + h) / 2 < k := by omega
     by_cases d : r (p.getD k 0) < r (p.getD ((l + h) / 2) 0)
     . rw [show ltR r (p.getD k 0) (p.getD ((l + h) / 2) 0) = true from decide_eq_true d]
       dsimp only; rw [if_pos rfl]; refine Ii g hr k hk u f l ((l + h) / 2) (by omega) (by omega) (by omega) a fun i h1 h2 => ?_
       by_cases e : i = (l + h) / 2
       . rw [e]; exact d
       . have := u ((l + h) / 2) i (by omega) h2; omega
     . rw [show ltR r (p.getD k 0) (p.getD ((l + h) / 2) 0) = false from decide_eq_false d]
       dsimp only; rw [if_neg (by decide)]; have ne := g.ne hr (k := k) (l := (l + h) / 2) (by omega) (by omega) (by omega)
       refine Ii g hr k hk u f ((l + h) / 2 + 1) h (by omega) (by omega) (by omega) (fun i h1 => ?_) b
       by_cases e : i = (l + h) / 2
       . rw [e]; omega
       . have := u i ((l + h) / 2) (by omega) (by omega); omega
theorem Xt (hr : ∀ i j, i < n -> j < n -> r i = r j -> i = j) : ∀ (f : Nat) (p : Array Nat) (k : Nat), k + f = n -> Gd n p -> Up r p k -> okR n (ltR r) (kas_bin f p k) fun q => Gd n q /\ Up r q n
 | 0, p, k, e, g, u => ⟨g, by rw [<- show k = n by omega]; exact u⟩
 | f + 1, p, k, e, g, u => by
   have hsz := g.size; refine okR.bind ((Ii g hr k (by omega) u k 0 k (by omega) (by omega) (Nat.le_refl _) (fun i h => by omega) (fun i h1 h2 => by omega)).mono fun l ⟨h1, h2, h3⟩ => ?_)
   have g2 : Gd n (bubble p k (k - l)) := g.ofPerm (bubble_perm _ _ _); have ed : ∀ i, (bubble p k (k - l)).getD i 0 = if i = l then p.getD k 0 else if l < i /\ i <= k then p.getD (i - 1) 0 else p.getD i 0 := fun i => by
     have := getElem?_bubble (xs := p) (src := k) (by omega) (k - l) (by omega) i
     rw [show k - (k - l) = l by omega] at this
     split
     . rename_i z; rw [if_pos z] at this; exact Gr this
     . rename_i z; rw [if_neg z] at this
       split
       . rename_i z2; rw [if_pos z2] at this; exact Gr this
       . rename_i z2; rw [if_neg z2] at this; exact Gr this
   refine Xt hr f _ (k + 1) (by omega) g2 fun i j hij hj => ?_
   show r _ < r _
   rw [ed i, ed j]
   by_cases ci : i = l
   . rw [if_pos ci]
     have cj : ¬ j = l := by omega
     rw [if_neg cj, if_pos (by omega)]; exact h3 (j - 1) (by omega) (by omega)
   . rw [if_neg ci]
     by_cases cj : j = l
     . rw [if_pos cj, if_neg (by omega)]
       exact h2 i (by omega)
     . rw [if_neg cj]
       by_cases di : l < i /\ i <= k
       . rw [if_pos di, if_pos (by omega)]
         exact u (i - 1) (j - 1) (by omega) (by omega)
       . rw [if_neg di]
         by_cases dj : l < j /\ j <= k
         . rw [if_pos dj]
           by_cases e2 : i = j - 1
           . omega
           . exact u i (j - 1) (by omega) (by omega)
         . rw [if_neg dj]
           exact u i j hij (by omega)
theorem bN (hr : ∀ i j, i < n -> j < n -> r i = r j -> i = j) (hn : 1 <= n) : okR n (ltR r) (kas_sort n) fun q => Gd n q /\ Up r q n := by
 have g : Gd n (List.toArray (List.range n)) := ⟨by simp, by simp⟩
 refine okR.bind ((Xr g hr hn).mono fun t ⟨g2, h1, h2, u⟩ => ?_)
 by_cases c : t.1 < n
 . rw [if_pos c, show max t.1 1 = t.1 by omega]
   exact Xt hr (n - t.1) t.2 t.1 (by omega) g2 u
 . rw [if_neg c]
   exact ⟨g2, by rw [<- show t.1 = n by omega]; exact u⟩
end
end Sm
end
section
namespace Sm
open PySem PySem.Spec PySem.W PyProof.Rows L2
noncomputable def hn3 (h : Str) : Nat := if h = "a" then 0 else if h = "b" then 1 else 2
noncomputable def okL (h : Str) : Bool := h == "a" || h == "b" || h == "c"
noncomputable def rk3 (p : Int × Str) : Int := 3 * p.1 + hn3 p.2
theorem Mz {h : Str} (e : okL h = true) : h = "a" \/ h = "b" \/ h = "c" := by
 unfold okL at e
 simp only [Bool.or_eq_true, beq_iff_eq] at e
 rcases e with (e | e) | e
 . exact .inl e
 . exact .inr (.inl e)
 . exact .inr (.inr e)
theorem Zy (h : Str) : hn3 h <= 2 := by unfold hn3; split <;> (try split) <;> omega
theorem lt3 {h h' : Str} (k : okL h = true) (k' : okL h' = true) : decide (h = h') = decide (hn3 h = hn3 h') /\ decide (h.cps.toList < h'.cps.toList) = decide (hn3 h < hn3 h') := by
 rcases Mz k with rfl | rfl | rfl <;> rcases Mz k' with rfl | rfl | rfl <;> exact ⟨by decide +kernel, by decide +kernel⟩
def Ry (h : Heap) (v : Value) (p : Int × Str) : Prop := ∃ b o t u n, v = .ref b /\ h.get? b = some o /\ o.cls = .type "tuple" /\ o.data = .seq #[.int p.1 t, .str p.2 u] n
section
variable {prog : Program} {w : World} {A : Around} {E : Value -> Shared -> Prop} {s : Shared}
theorem id_lt {x y : Value} {p q : Int × Str} {C : Bool -> Shared -> Prop} (hx : Ry s.heap x p) (hy : Ry s.heap y q) (k : okL p.2 = true) (k' : okL q.2 = true) (h : C (decide (rk3 p < rk3 q)) s) : wpAny (model prog w) A (keyLt' (tuples' true) x y) C E s := by
 obtain ⟨b, o, t, u, n, rfl, ho, hc, hd⟩ := hx
 obtain ⟨b', o', t', u', n', rfl, ho', hc', hd'⟩ := hy
 obtain ⟨e1, e2⟩ := lt3 k k'
 have l1 := Zy p.2
 have l2 := Zy q.2
 refine kat_lt ho hd ho' hd' (kat_cons (wpAny_eqBool_int ?_))
 by_cases c : p.1 = q.1
 . rw [show (p.1 == q.1) = true by simp [c]]
   refine kat_yes (kat_cons (wpAny_eqBool_str ?_)); rw [e1]
   by_cases c2 : hn3 p.2 = hn3 q.2
   . rw [decide_eq_true c2]
     refine kat_yes (kat_nil ?_); rw [show decide (rk3 p < rk3 q) = false by apply decide_eq_false; unfold rk3; omega] at h
     exact h
   . rw [decide_eq_false c2]
     refine kat_no (kat_one _ _ ?_); refine P.lt_str ?_; show C _ s
     rw [e2]; rw [show decide (rk3 p < rk3 q) = decide (hn3 p.2 < hn3 q.2) by unfold rk3; congr 1; apply propext; omega] at h
     exact h
 . rw [show (p.1 == q.1) = false by simp [c]]
   refine kat_no ?_; refine oneLt_int ?_; rw [show decide (rk3 p < rk3 q) = decide (p.1 < q.1) by unfold rk3; congr 1; apply propext; omega] at h
   exact h
theorem Sc {h : Heap} : ∀ (vs : List Value), (∀ (i : Nat) v, vs[i]? = some v -> ∃ p, Ry h v p) -> ∃ fs, fs.length = vs.length /\ KatTups h vs fs /\ ∀ v ∈ fs, ∃ i t, v = Value.int i t
 | [], _ => ⟨[], rfl, KatTups.nil, fun _ h => nomatch h⟩
 | v :: vs, hv => by
   obtain ⟨fs, f1, f2, f3⟩ := Sc vs fun i u e => hv (i + 1) u (by simpa using e)
   obtain ⟨p, b, o, t, u, n, rfl, hb, hc, hd⟩ := hv 0 v rfl; exact ⟨.int p.1 t :: fs, by simp [f1], KatTups.cons hb hc hd rfl f2, fun x hx => by
     rcases List.mem_cons.mp hx with rfl | hx
     . exact ⟨_, _, rfl⟩
     . exact f3 x hx⟩
theorem Se {a : Addr} {vs : List Value} {ps : List (Int × Str)} {n : Nat} {P : PySem.Fin -> Shared -> Prop} (ho : s.heap.get? a = some (seqObj "list" vs.toArray n)) (hv : ∀ (i : Nat) v, vs[i]? = some v -> ∃ p, ps[i]? = some p /\ Ry s.heap v p /\ okL p.2 = true) (hl : ps.length = vs.length) (h64 : vs.length < 64)
   (hnd : ∀ (i j : Nat) p q, ps[i]? = some p -> ps[j]? = some q -> rk3 p = rk3 q -> i = j)
   (h : ∀ q : Array Nat, Gd vs.length q -> (∀ (i j : Nat) x y, i < j -> j < vs.length -> ps[q.getD i 0]? = some x -> ps[q.getD j 0]? = some y -> rk3 x < rk3 y) -> P (.done (.ret .none)) { s with heap := sortedHeap s.heap a vs (List.toArray (q.toList.map fun i => vs.getD i Value.none)) }) :
   wpAny (model prog w) A (Builtin.«list.sort» ⟨[.ref a], []⟩) P E s := by
 have ha : a < s.heap.objs.size := Heap.lt_size ho
 obtain ⟨e1, ho1⟩ : ∃ e1, (s.heap.update a (Obj.mapSeq fun _ => #[])).get? a = some (seqObj "list" #[] e1) := ⟨_, get?_update_seq ho (fun _ => #[])⟩
 have keep : ∀ b o, b ≠ a -> s.heap.get? b = some o -> (((s.heap.update a (Obj.mapSeq fun _ => #[])).push (seqObj "tuple" vs.toArray 0)).push (seqObj "list" #[] 0)).get? b = some o := fun b o hb e =>
   Heap.get?_push_of_some _ (Heap.get?_push_of_some _ ((Heap.get?_update_ne _ _ _ _ hb).trans e))
 have ho6 : (((s.heap.update a (Obj.mapSeq fun _ => #[])).push (seqObj "tuple" vs.toArray 0)).push (seqObj "list" #[] 0)).get? a = some (seqObj "list" #[] e1) := Heap.get?_push_of_some _ (Heap.get?_push_of_some _ ho1)
 rw [list_sort_plain]
 refine wpAny_bind (listItems_at ho rfl (wpAny_bind (listUpdate_at ho rfl ?_ (by rw [List.size_toArray, sizeLine_eq]; omega) (Nat.zero_le _))))
 refine wpAny_bind (seqEpoch_at ho1 rfl (wpAny_bind (wpAny_newTuple ?_ (by show vs.length <= _; rw [sizeLine_eq]; omega))))
 refine wpAny_bind (wpAny_newList (wpAny_holding ?_) (Nat.zero_le _))
 show wpAny (model prog w) A _ P E { s with heap := ((s.heap.update a (Obj.mapSeq fun _ => #[])).push (seqObj "tuple" vs.toArray 0)).push (seqObj "list" #[] 0) }
 dsimp only
 have fin : ∀ (st : SortSt) (q : Array Nat), (arrOf st).map (·.2) = List.toArray (q.toList.map fun i => vs.getD i Value.none) -> failedOf st = none -> Gd vs.length q -> (∀ (i j : Nat) x y, i < j -> j < vs.length -> ps[q.getD i 0]? = some x -> ps[q.getD j 0]? = some y -> rk3 x < rk3 y) ->
     wpAny (model prog w) A (do
       let touched := (<- seqEpoch a) != e1
       Builtin.List.listUpdate (.ref a) fun _ => (arrOf st).map (·.2)
       if let some e := failedOf st then rule "list.sort.comparison-raised"; throw e
       if touched then rule "list.sort.modified"; raiseError "ValueError" "list modified during sort"
       ret .none) P E { s with heap := ((s.heap.update a (Obj.mapSeq fun _ => #[])).push (seqObj "tuple" vs.toArray 0)).push (seqObj "list" #[] 0) } := fun st q hq hf hg hu => by
   have hz : ((arrOf st).map (·.2)).size <= sizeLine := by
     rw [hq, List.size_toArray, List.length_map, Array.length_toList, hg.size, sizeLine_eq]; omega
   refine wpAny_bind (seqEpoch_at ho6 rfl (wpAny_bind (listUpdate_at ho6 rfl ?_ (Nat.zero_le _) (Nat.le_succ_of_le hz)))); rw [hf, hq]; simp only [bne_self_eq_false, Bool.false_eq_true, if_false]; exact wpAny_pure (h q hg hu)
 by_cases h2 : vs.toArray.size < 2
 . rw [if_pos h2, if_pos h2]
   refine wpAny_bind (wpAny_pure ?_); rw [StateT.run_pure]; refine wpAny_bind (wpAny_pure ?_); have e := kas_range (vs.toArray.zip vs.toArray); rw [show (vs.toArray.zip vs.toArray).size = vs.length by simp] at e
   exact fin (SortSt.mk' general' (vs.toArray.zip vs.toArray) #[] 7 none) (List.toArray (List.range vs.length)) (kat_snds rfl e.symm) rfl ⟨by simp, by simp⟩ fun i j x y h1 h3 => by rw [List.size_toArray] at h2; omega
 . rw [if_neg h2, if_neg h2]
   rw [List.size_toArray] at h2; have id6 : ∀ (i : Nat) v, vs[i]? = some v -> ∃ p, ps[i]? = some p /\ Ry (((s.heap.update a (Obj.mapSeq fun _ => #[])).push (seqObj "tuple" vs.toArray 0)).push (seqObj "list" #[] 0)) v p /\ okL p.2 = true := fun i v e => by
     obtain ⟨p, e1, ⟨b, o, t, u, m, rfl, hb, hc, hd⟩, k⟩ := hv i v e; refine ⟨p, e1, ⟨b, o, t, u, m, rfl, keep b o (fun z => ?_) hb, hc, hd⟩, k⟩
     subst z; rw [ho] at hb; cases hb; exact absurd (show Value.type "list" = Value.type "tuple" from hc) (by decide)
   obtain ⟨fs, f1, f2, f3⟩ := Sc vs fun i v e => by obtain ⟨p, _, q, _⟩ := id6 i v e; exact ⟨p, q⟩
   refine wpAny_bind (kat_kind (T := .type "int") f2 (by omega) (fun v hv => by obtain ⟨i, t, rfl⟩ := f3 v hv; exact Looks.of_pure rfl) (by decide) ?_)
   have hkk : tuples' (Value.type "int" != Value.type "tuple") = tuples' true := rfl; rw [hkk]
   let r : Nat -> Int := fun i => match ps[i]? with | some p => rk3 p | none => 0
   have hr : ∀ i j, i < vs.length -> j < vs.length -> r i = r j -> i = j := fun i j hi hj e => by
     have h1 : i < ps.length := by omega
     have h3 : j < ps.length := by omega
     simp only [r, List.getElem?_eq_getElem h1, List.getElem?_eq_getElem h3] at e; exact hnd i j _ _ (List.getElem?_eq_getElem h1) (List.getElem?_eq_getElem h3) e
   refine wpAny_bind (wpAny_mono (kat_run (κ := tuples' true) (ks := vs) (Q := fun st s' => s' = { s with heap := ((s.heap.update a (Obj.mapSeq fun _ => #[])).push (seqObj "tuple" vs.toArray 0)).push (seqObj "list" #[] 0) } /\ ∃ q : Array Nat, Gd vs.length q /\ Up r q vs.length /\ arrOf st = q.map (kas_item (vs.toArray.zip vs.toArray)) /\ failedOf st = none)
     (G := fun q s' => s' = { s with heap := ((s.heap.update a (Obj.mapSeq fun _ => #[])).push (seqObj "tuple" vs.toArray 0)).push (seqObj "list" #[] 0) } /\ Gd vs.length q /\ Up r q vs.length) rfl (by omega) h64 (fun q st s' a1 a2 a3 a4 => ⟨a4.1, q, a4.2.1, a4.2.2, a2, a3⟩)
     ((bN (n := vs.length) (r := r) hr (by omega)).wp (fun i j C hi hj hC => ?_) fun q hq => ⟨rfl, hq⟩)) ?_ fun _ _ e => e)
   . obtain ⟨p, e1, ip, kp⟩ := id6 i _ (List.getElem?_eq_getElem hi)
     obtain ⟨q, e2, iq, kq⟩ := id6 j _ (List.getElem?_eq_getElem hj); unfold kas_ask; rw [show vs.getD i Value.none = vs[i] by simp [List.getD, hi], show vs.getD j Value.none = vs[j] by simp [List.getD, hj]]
     refine id_lt ip iq kp kq ?_; have : ltR r i j = decide (rk3 p < rk3 q) := by simp only [ltR, r, e1, e2]
     rw [<- this]; exact hC
   . rintro ⟨⟨⟩, st⟩ s' ⟨rfl, q, g1, g2, g3, g4⟩
     refine fin st q (kat_snds rfl g3) g4 g1 fun i j x y hij hj e1 e2 => ?_
     have := g2 i j hij hj; simp only [r, e1, e2] at this; exact this
theorem bO {l : Addr} {vs : List Value} {ps : List (Int × Str)} {Q : Value -> Shared -> Prop} (hl : s.heap.IsList l vs.toArray) (hv : ∀ (i : Nat) v, vs[i]? = some v -> ∃ p, ps[i]? = some p /\ Ry s.heap v p /\ okL p.2 = true) (hpl : ps.length = vs.length) (h64 : vs.length < 64)
   (hnd : ∀ (i j : Nat) p q, ps[i]? = some p -> ps[j]? = some q -> rk3 p = rk3 q -> i = j)
   (h : ∀ q : Array Nat, Gd vs.length q -> (∀ (i j : Nat) x y, i < j -> j < vs.length -> ps[q.getD i 0]? = some x -> ps[q.getD j 0]? = some y -> rk3 x < rk3 y) -> Q (.ref (s.heap.objs.size + 1)) { s with heap := sortedAll s.heap vs (List.toArray (q.toList.map fun i => vs.getD i Value.none)) }) :
   wpAny (model prog w) A (call (.builtin "sorted") [.ref l]) Q E s := by
 refine Calls.call_function_entry kind_sorted plain_sorted entry_sorted (args_sorted1 _) (wpAny_bind (m := checkCount "sorted" 1 1 _) (wpAny_pure (wpAny_bind (collect_list hl (wpAny_bind (wpAny_newList ?_ (by rw [sizeLine_eq]; omega))) (by rw [sizeLine_eq]; omega)))))
 have hsz : ((s.heap.push (seqObj "list" #[] 0)).update s.heap.objs.size (Obj.mapSeq (· ++ vs.toArray))).objs.size = s.heap.objs.size + 1 := by rw [Heap.size_update, size_push']
 have hoL : (((s.heap.push (seqObj "list" #[] 0)).update s.heap.objs.size (Obj.mapSeq (· ++ vs.toArray))).push (seqObj "list" vs.toArray 0)).get? (s.heap.objs.size + 1) = some (seqObj "list" vs.toArray 0) := by
   rw [<- hsz]; exact Heap.get?_push_size _ rfl
 have keep : ∀ b o, s.heap.get? b = some o -> (((s.heap.push (seqObj "list" #[] 0)).update s.heap.objs.size (Obj.mapSeq (· ++ vs.toArray))).push (seqObj "list" vs.toArray 0)).get? b = some o := fun b o q =>
   Heap.get?_push_of_some _ ((Heap.get?_update_ne _ _ _ _ (Nat.ne_of_lt (Heap.lt_size q))).trans (Heap.get?_push_of_some _ q))
 show wpAny _ _ _ _ _ { s with heap := ((s.heap.push (seqObj "list" #[] 0)).update s.heap.objs.size (Obj.mapSeq (· ++ vs.toArray))).push (seqObj "list" vs.toArray 0) }
 rw [hsz]
 refine wpAny_bind (wpAny_holding (wpAny_call_entry slot_list_sort ⟨_, hoL, rfl⟩ entry_list_sort (Se (ps := ps) hoL (fun i v e => ?_) hpl h64 hnd fun q g u => ⟨_, rfl, wpAny_pure ⟨_, rfl, h q g u⟩⟩) (args_list_sort _)))
 obtain ⟨p, e1, ⟨b, o, t, u, m, rfl, hb, hc, hd⟩, k⟩ := hv i v e
 exact ⟨p, e1, ⟨b, o, t, u, m, rfl, keep b o hb, hc, hd⟩, k⟩
end
noncomputable def Pg : PyData -> Option (Int × Str)
 | .tuple [.int t, .str h] => if okL h = true then some (t, h) else none
 | _ => none
noncomputable def Cl : List PyData -> Option (List (Int × Str))
 | [] => some []
 | d :: ds => (Pg d).bind fun p => (Cl ds).map (p :: ·)
noncomputable def Vt (p : Int × Str) : List (Int × Str) -> List (Int × Str)
 | [] => [p]
 | q :: r => if rk3 p < rk3 q then p :: q :: r else q :: Vt p r
noncomputable def Ay : List (Int × Str) -> List (Int × Str)
 | [] => []
 | p :: r => Vt p (Ay r)
abbrev id3 (p : Int × Str) : PyData := .tuple [.int p.1, .str p.2]
noncomputable def iZ : PyData -> Option PyData
 | .list ds => (Cl ds).bind fun ps => if ps.length < 64 /\ (ps.map rk3).Nodup then some (.list ((Ay ps).map id3)) else none
 | _ => none
noncomputable def Jk : List PyData -> Option PyData
 | [d] => iZ d
 | _ => none
theorem Fb (p : Int × Str) : ∀ l, (Vt p l).Perm (p :: l)
 | [] => List.Perm.refl _
 | q :: r => by
   unfold Vt
   split
   . exact List.Perm.refl _
   . exact ((Fb p r).cons q).trans (List.Perm.swap p q r)
theorem P8 : ∀ l, (Ay l).Perm l
 | [] => List.Perm.refl _
 | p :: r => (Fb p (Ay r)).trans ((P8 r).cons p)
theorem Tg (p : Int × Str) : ∀ l, l.Pairwise (fun a b => rk3 a < rk3 b) -> (∀ q ∈ l, rk3 q ≠ rk3 p) -> (Vt p l).Pairwise (fun a b => rk3 a < rk3 b)
 | [], _, _ => List.pairwise_singleton _ _
 | q :: r, h, hn => by
   rw [List.pairwise_cons] at h; unfold Vt
   split
   . rename_i c
     refine List.pairwise_cons.mpr ⟨fun x hx => ?_, List.pairwise_cons.mpr h⟩
     rcases List.mem_cons.mp hx with rfl | hx
     . exact c
     . have := h.1 x hx; omega
   . rename_i c
     have hq := hn q (.head _); refine List.pairwise_cons.mpr ⟨fun x hx => ?_, Tg p r h.2 fun y hy => hn y (.tail _ hy)⟩
     rcases List.mem_cons.mp ((Fb p r).mem_iff.mp hx) with rfl | hx
     . omega
     . exact h.1 x hx
theorem Ax : ∀ l, (l.map rk3).Nodup -> (Ay l).Pairwise (fun a b => rk3 a < rk3 b)
 | [], _ => .nil
 | p :: r, h => by
   rw [List.map_cons, List.nodup_cons] at h; refine Tg p _ (Ax r h.2) fun q hq e => h.1 ?_
   rw [<- e]; exact List.mem_map.mpr ⟨q, (P8 r).mem_iff.mp hq, rfl⟩
theorem Cw : ∀ {l m : List (Int × Str)}, l.Perm m -> l.Pairwise (fun a b => rk3 a < rk3 b) -> m.Pairwise (fun a b => rk3 a < rk3 b) -> l = m
 | [], m, h, _, _ => (List.Perm.nil_eq h)
 | a :: l, [], h, _, _ => absurd h.length_eq (by simp)
 | a :: l, b :: m, h, h1, h2 => by
   rw [List.pairwise_cons] at h1 h2; have e : a = b := by
     rcases List.mem_cons.mp (h.mem_iff.mp (List.mem_cons_self (a := a) (l := l))) with e | e
     . exact e
     . rcases List.mem_cons.mp (h.mem_iff.mpr (List.mem_cons_self (a := b) (l := m))) with e' | e'
       . exact e'.symm
       . have := h1.1 b e'; have := h2.1 a e; omega
   subst e; rw [Cw (List.Perm.cons_inv h) h1.2 h2.2]
theorem Zx {d : PyData} {p : Int × Str} (e : Pg d = some p) : d = id3 p /\ okL p.2 = true := by
 unfold Pg at e
 split at e
 . split at e
   . rename_i h; cases e; exact ⟨rfl, h⟩
   . cases e
 . cases e
theorem Ck : ∀ {ds : List PyData} {ps : List (Int × Str)}, Cl ds = some ps -> ps.length = ds.length /\ ∀ (i : Nat) d, ds[i]? = some d -> ∃ p, ps[i]? = some p /\ d = id3 p /\ okL p.2 = true
 | [], ps, e => by cases e; exact ⟨rfl, fun i d h => by simp at h⟩
 | d :: ds, ps, e => by
   obtain ⟨p, e1, e2⟩ := Option.bind_eq_some_iff.mp e; obtain ⟨r, e3, rfl⟩ := Option.map_eq_some_iff.mp e2; obtain ⟨h1, h2⟩ := Ck e3; refine ⟨by simp [h1], fun i x hx => ?_⟩
   cases i with
   | zero =>
     simp at hx; subst hx
     exact ⟨p, rfl, Zx e1⟩
   | succ i => exact h2 i x (by simpa using hx)
section
variable {P : Program} {w : World} {K : PySem.W.Frag} {mg : Str -> Option Value} {base : Heap} {X : Cx} {N : List Str} {sc : Scope} {k : Nat} {df : Bool} {E : EK} {pos p : Pos} {e : Expr} {es : List Expr} {fs : Dn -> Res (List PyData)}
theorem RepL.pick {G : Hp} {ds : List PyData} {xs : List V} (l : RepL G ds xs) : ∀ (q : List Nat), (∀ i ∈ q, i < ds.length) -> RepL G (q.map fun i => ds.getD i .none) (q.map fun i => xs.getD i .non)
 | [], _ => rfl
 | i :: q, h => by
   have hi := h i (.head _); obtain ⟨x, e1, r⟩ := l.get (List.getElem?_eq_getElem hi); refine ⟨x, _, ?_, ?_, RepL.pick l q fun j hj => h j (.tail _ hj)⟩
   . simp only [List.map_cons, List.getD, e1, Option.getD_some]
   . simp only [List.getD, List.getElem?_eq_getElem hi, Option.getD_some]; exact r
theorem Vals.pick {xs : List V} {us : List Value} (r : Vals xs us) : ∀ (q : List Nat), (∀ i ∈ q, i < xs.length) -> Vals (q.map fun i => xs.getD i .non) (q.map fun i => us.getD i Value.none)
 | [], _ => .nil
 | i :: q, h => by
   have hi := h i (.head _); obtain ⟨u, e1, ru⟩ := r.get (List.getElem?_eq_getElem hi); rw [List.map_cons, List.map_cons]; refine .cons ?_ (Vals.pick r q fun j hj => h j (.tail _ hj))
   simp only [List.getD, List.getElem?_eq_getElem hi, e1, Option.getD_some]; exact ru
theorem Rm : R0 X (.builtin "sorted") (rCD Jk) := by
 intro pins s Z H xs us Q I r ⟨G, ds, d, hG, rl, e, q⟩
 unfold Jk at e
 split at e
 . rename_i d0
   cases d0 with
   | list ys =>
     obtain ⟨ps, e1, e2⟩ := Option.bind_eq_some_iff.mp e
     split at e2
     . rename_i hc
       cases e2; obtain ⟨v, rfl, a, vs, rfl, h1, l1⟩ := Cf rl; obtain ⟨u, rfl, ru⟩ := Vals.one r; cases ru; obtain ⟨z, its, n, rv, e3⟩ := O7 I hG h1; obtain ⟨g1, g2⟩ := Ck e1; have hlen := rv.length; have hyl := l1.length; have hnd : ∀ (i j : Nat) p q, ps[i]? = some p -> ps[j]? = some q -> rk3 p = rk3 q -> i = j := fun i j p q e1 e2 e3 => by
         have hi := (List.getElem?_eq_some_iff.mp e1).1; have hj := (List.getElem?_eq_some_iff.mp e2).1; have a1 := (List.getElem?_eq_some_iff.mp e1).2; have a2 := (List.getElem?_eq_some_iff.mp e2).2; refine (List.getElem_inj (xs := ps.map rk3) (h₀ := by simpa using hi) (h₁ := by simpa using hj) hc.2).mp ?_
         rw [List.getElem_map, List.getElem_map, a1, a2, e3]
       refine bO (ps := ps) ⟨_, e3, rfl, n, rfl⟩ (fun i v hv => ?_) (by omega) (by omega) hnd fun p g u => ?_
       . have hi : i < its.length := (List.getElem?_eq_some_iff.mp hv).1
         obtain ⟨p, q1, q2, q3⟩ := g2 i _ (List.getElem?_eq_getElem (show i < ys.length by omega))
         obtain ⟨x, x1, x2⟩ := l1.get (List.getElem?_eq_getElem (show i < ys.length by omega))
         obtain ⟨v', y1, y2⟩ := rv.get x1; rw [hv] at y1; cases y1; rw [q2] at x2; obtain ⟨b, zs, rfl, hb, lb⟩ := x2; cases y2; obtain ⟨x, t, rfl, rx, lt⟩ := RepL.inv_cons lb; obtain ⟨x', t', rfl, rx', lt'⟩ := RepL.inv_cons lt
         cases (show _ = _ from rx); cases rx'.1; cases (show _ = _ from lt')
         obtain ⟨z2, its2, rv2, o, e4, c, m, hd⟩ := Y8 I hG hb; refine ⟨p, q1, ?_, q3⟩; obtain ⟨u1, u2, hu, r1, r2⟩ := Vals.two rv2; obtain ⟨t1, rfl⟩ := r1; obtain ⟨t2, rfl⟩ := r2; subst hu; exact ⟨b, o, t1, t2, m, rfl, e4, c, hd⟩
       . have hq : ∀ i ∈ p.toList, i < its.length := fun i hi => List.mem_range.mp (g.perm.mem_iff.mp hi)
         have key : (p.toList.map fun i => ys.getD i .none) = (Ay ps).map id3 := by
           have e4 : (p.toList.map fun i => ys.getD i .none) = (p.toList.map fun i => ps.getD i (0, "a")).map id3 := by
             rw [List.map_map]; refine List.map_congr_left fun i hi => ?_
             have hi' := hq i hi; obtain ⟨p, q1, q2, q3⟩ := g2 i _ (List.getElem?_eq_getElem (show i < ys.length by omega))
             simp only [Function.comp, List.getD, q1, Option.getD_some]; rw [List.getElem?_eq_getElem (show i < ys.length by omega), Option.getD_some, q2]
           rw [e4]
           congr 1
           refine Cw ?_ ?_ (Ax ps hc.2)
           . refine List.Perm.trans ?_ (P8 ps).symm
             have e5 : (List.range its.length).map (fun i => ps.getD i (0, "a")) = ps := by
               apply List.ext_getElem
               . simp; omega
               . intro i h1 h2
                 simp [List.getD, h2]
             have := g.perm.map (fun i => ps.getD i (0, "a"))
             rw [e5] at this; exact this
           . rw [List.pairwise_iff_getElem]
             intro i j h1 h2 hij; simp only [List.length_map, Array.length_toList, g.size] at h1 h2; simp only [List.getElem_map, Array.getElem_toList]; have a1 : p.getD i 0 = p[i]'(by rw [g.size]; exact h1) := by simp [Array.getD, g.size, h1]
             have a2 : p.getD j 0 = p[j]'(by rw [g.size]; exact h2) := by simp [Array.getD, g.size, h2]
             have b1 := g.lt h1; have b2 := g.lt h2; have b1' : p.getD i 0 < ps.length := by omega
             have b2' : p.getD j 0 < ps.length := by omega
             have := u i j _ _ hij h2 (List.getElem?_eq_getElem b1') (List.getElem?_eq_getElem b2'); rw [<- a1, <- a2]; simp only [List.getD, List.getElem?_eq_getElem b1', List.getElem?_eq_getElem b2', Option.getD_some]; exact this
         obtain ⟨ep, hat⟩ := sortedAll_at s.heap its (List.toArray (p.toList.map fun i => its.getD i Value.none))
         have J : Inv X pins Z (upd H (s.heap.objs.size + 1) (.lst (p.toList.map fun i => vs.getD i .non))) { s with heap := sortedAll s.heap its (List.toArray (p.toList.map fun i => its.getD i Value.none)) } := by
           refine I.laid (t' := s.toks) (fun b o e => sortedAll_old e) (Nat.le_succ _) ⟨?_, p.toList.map (fun i => its.getD i Value.none), ep, Vals.pick rv _ fun i hi => by rw [hlen]; exact hq i hi, hat⟩
           rw [List.length_map, Array.length_toList, g.size, sizeLine_eq]; omega
         have hfr : H (s.heap.objs.size + 1) = none := I.hok.fresh (Nat.le_succ _); refine ⟨.ref (s.heap.objs.size + 1), _, J, rfl, q _ (upd G (s.heap.objs.size + 1) (.lst (p.toList.map fun i => vs.getD i .non))) _ (Grow.new hG hfr) ⟨_, _, rfl, .inl B3, ?_⟩⟩
         rw [<- key]; exact (RepL.pick l1 _ fun i hi => by have := hq i hi; omega).mono (Same.upd (hG.free hfr))
     . cases e2
   | _ => cases e
 . cases e
theorem dR {n : Nat} (C : Cxt P w K mg base X N sc k df) (h : okGl sc "sorted" = true) (hm : mg "sorted" = none) (ha : DA X E (e :: es) n fs)
   (he : starEach (e :: es) X.env = (false, eval e X.env) :: starEach es X.env := by rfl) (hpl : (backTo pos (starEach es X.env)).any (·.1) = false := by rfl) : DE X E (.Call (.Name "sorted" p) (e :: es) [] pos) (vFn fs Jk) :=
 Jj C Rm h hm (by decide +kernel) ha he hpl
end
end Sm
end
section
namespace Sm
open PySem PySem.Spec PyProof.Rows L2
section
variable {prog : Program} {w : World} {A : Around} {E : Value -> Shared -> Prop} {s : Shared}
theorem Iz {d : Addr} {od : Obj} {es : Array DictEntry} {ep : Nat} {Q : Value -> Shared -> Prop} (hd : (d == sysModules) = false) (hT : s.TypeIs (.ref d) "dict") (ho : s.heap.get? d = some od) (hdat : od.data = .dict es ep)
   (hQ : Q (.ref s.heap.objs.size) { s with heap := s.heap.push { cls := .type "dict_keyiterator", data := .fields #[.ref d, .int 0 0, .int es.size 0, .int ep 0] } }) :
   wpAny (model prog w) A (pyIter (.ref d)) Q E s := by
 refine wpAny_pyIter_slot hT F.slot_dict_iter (wpAny_call_entry F.slot_dict_iter hT F.entry_dict_iter ?_ (F.args_dict_iter_1 _))
 unfold Builtin.«dict.__iter__» Builtin.Dict.dictSlotNone
 refine wpAny_bind (wpAny_bind (wpAny_notOrdered_dict hT (wpAny_pure ?_)))
 have hz : ∀ (R : Value -> Shared -> Prop), wpAny (model prog w) A.in1 (Builtin.Dict.showsAll d) (fun _ t => t = s) R s := fun R => by
   unfold Builtin.Dict.showsAll; rw [hd]; exact wpAny_pure rfl
 refine wpAny_bind (wpAny_of_eq (a := d) rfl (wpAny_bind (wpAny_mono (hz E) (fun _ t e => ?_) fun _ _ e => e)))
 subst e
 refine wpAny_bind (wpAny_dictEntries ho hdat (wpAny_bind (wpAny_dictEpoch ho hdat ?_)))
 refine wpAny_bind (wpAny_newObj_type (wpAny_pure ⟨_, rfl, "dict_keyiterator", _, ⟨_, Heap.get?_push_size _ rfl, rfl⟩, F.slot_dict_keyiterator_next.lookup, ?_⟩))
 simpa [rawInt] using hQ
theorem Ox {it d : Addr} {i ep : Nat} {od : Obj} {es : Array DictEntry} {Q : Option Value -> Shared -> Prop} (hit : s.heap.IsKeyIter it d i es.size ep) (hod : s.heap.get? d = some od) (hdd : od.data = .dict es ep) (hlt : i < es.size)
   (hQ : ∀ h', h'.IsKeyIter it d (i + 1) es.size ep -> Heap.SameBut it s.heap h' -> Q (some es[i].key) { s with heap := h' }) : wpAny (model prog w) A (pyNext (.ref it)) Q E s := by
 obtain ⟨o, ho, hc, hd⟩ := id hit
 have hnew : (s.heap.update it (Obj.mapFields (·.setIfInBounds 1 (rawInt ((i : Int) + 1))))).IsKeyIter it d (i + 1) es.size ep := by
   refine ⟨_, Heap.get?_update_self _ ho (Obj.isFreed_of_fields (Obj.data_mapFields hd _)), (Obj.cls_mapFields ..).trans hc, ?_⟩; rw [Obj.data_mapFields hd]; simp [rawInt]
 have hty : Shared.TypeIs { s with heap := s.heap.update it (Obj.mapFields (·.setIfInBounds 1 (rawInt ((i : Int) + 1)))) } (.ref it) "dict_keyiterator" := hnew.typeIs
 unfold pyNext
 refine wpAny_bind (wpAny_attempt ?_)
 refine wpAny_callSpecial?_slot (name := Str.ofString "__next__") hit.typeIs F.slot_dict_keyiterator_next ?_
 refine wpAny_call_entry F.slot_dict_keyiterator_next hit.typeIs F.entry_dict_keyiterator_next ?_ (F.args_dict_keyiterator_next_1 _)
 refine wpAny_bind (wpAny_pure (wpAny_bind (wpAny_bind ?_)))
 refine wpAny_bind (wpAny_typeNameOfWhole_keyiter hit.typeIs (wpAny_pure ?_))
 refine wpAny_bind (wpAny_fieldsOf ho hd ?_)
 simp only [show Builtin.Dict_items.ownsTuple "dict_keyiterator" = false by decide, Bool.false_eq_true, if_false]
 show wpAny _ _ (if (Value.ref d == Value.none) = true then _ else _) _ _ s
 rw [if_neg (by exact Bool.false_ne_true)]
 refine wpAny_bind (wpAny_pure (wpAny_bind (wpAny_dictEntries hod hdd ?_)))
 rw [if_neg (by simp)]
 refine wpAny_bind (wpAny_pure (wpAny_bind (wpAny_dictEpoch hod hdd ?_)))
 rw [if_neg (by simp)]
 refine wpAny_pure ?_
 simp only [show ¬ ((i : Int) < 0) from by omega, if_false, Int.toNat_natCast, Array.getElem?_eq_getElem hlt]
 refine wpAny_bind (wpAny_bind (wpAny_typeNameOfWhole_keyiter hit.typeIs (wpAny_pure ?_)))
 refine wpAny_bind (wpAny_isOneOf_keyiter hit.typeIs ?_)
 show wpAny _ _ (setField (.ref it) 1 (rawInt ((i : Int) + 1)) >>= _) _ _ s
 refine wpAny_bind (wpAny_setField ho hd (by simp) (wpAny_bind (wpAny_holding ?_)))
 refine wpAny_bind (wpAny_isOneOf_keyiter hty ?_)
 first
   | exact wpAny_pure (wpAny_pure ⟨_, rfl, wpAny_pure (hQ _ hnew (Heap.SameBut.update ..))⟩)
   | (refine wpAny_bind (wpAny_isOneOf_keyiter hty ?_); exact wpAny_pure (wpAny_pure ⟨_, rfl, wpAny_pure (hQ _ hnew (Heap.SameBut.update ..))⟩))
theorem Tk {it d : Addr} {i ep : Nat} {od : Obj} {es : Array DictEntry} {Q : Option Value -> Shared -> Prop} (hh : A.handled = none) (hi : es.size <= i) (hit : s.heap.IsKeyIter it d i es.size ep) (hod : s.heap.get? d = some od) (hdd : od.data = .dict es ep)
   (hQ : ∀ h', Heap.ExtBut it s.heap h' -> Q none { s with heap := h' }) : wpAny (model prog w) A (pyNext (.ref it)) Q E s := by
 obtain ⟨o, ho, hc, hd⟩ := id hit
 unfold pyNext
 refine wpAny_bind (wpAny_attempt ?_)
 refine wpAny_callSpecial?_slot (name := Str.ofString "__next__") hit.typeIs F.slot_dict_keyiterator_next ?_
 refine wpAny_call_entry F.slot_dict_keyiterator_next hit.typeIs F.entry_dict_keyiterator_next ?_ (F.args_dict_keyiterator_next_1 _)
 refine wpAny_bind (wpAny_pure (wpAny_bind (wpAny_bind ?_)))
 refine wpAny_bind (wpAny_typeNameOfWhole_keyiter hit.typeIs (wpAny_pure ?_))
 refine wpAny_bind (wpAny_fieldsOf ho hd ?_)
 simp only [show Builtin.Dict_items.ownsTuple "dict_keyiterator" = false by decide, Bool.false_eq_true, if_false]
 show wpAny _ _ (if (Value.ref d == Value.none) = true then _ else _) _ _ s
 rw [if_neg (by exact Bool.false_ne_true)]
 refine wpAny_bind (wpAny_pure (wpAny_bind (wpAny_dictEntries hod hdd ?_)))
 rw [if_neg (by simp)]
 refine wpAny_bind (wpAny_pure (wpAny_bind (wpAny_dictEpoch hod hdd ?_)))
 rw [if_neg (by simp)]
 refine wpAny_pure ?_
 simp only [show ¬ ((i : Int) < 0) from by omega, if_false, Int.toNat_natCast, Array.getElem?_eq_none hi]
 refine wpAny_bind (wpAny_bind (wpAny_typeNameOfWhole_keyiter hit.typeIs (wpAny_pure ?_)))
 show wpAny _ _ (setField (.ref it) 0 .none >>= _) _ _ s
 refine wpAny_bind (wpAny_setField ho hd (by simp) ?_)
 show wpAny _ _ (newExc (.type "StopIteration") [] >>= _) _ _ _
 refine wpAny_bind ?_
 simp only [newExc, newTuple]
 refine wpAny_bind (wpAny_newObj_type ?_ (by size_fits))
 refine wpAny_bind (m := firstArgMember _ _) (wpAny_of_eq (a := Value.none) (by first | rfl | (simp only [firstArgMember]; rfl)) (wpAny_newObj_type ?_ (by size_fits)))
 simp only [raiseNew]
 refine wpAny_bind (wpAny_handled ?_)
 rw [show A.in1.handled = none from hh]
 refine wpAny_bind (wpAny_pure (wpAny_throw (wpAny_bind ?_)))
 refine wpAny_isInstance (T := "StopIteration") (b := true) ⟨_, Heap.get?_push_size _ rfl, rfl⟩ isSubtype_stop ?_
 exact wpAny_pure (hQ _ (((Heap.SameBut.update ..).extBut.push _).push _))
theorem Xv {it d : Addr} {i n ep : Nat} {Q : Value -> Shared -> Prop} (hit : s.heap.IsKeyIter it d i n ep) (h : Q (.ref it) s) : wpAny (model prog w) A (pyIter (.ref it)) Q E s := wpAny_pyIter_keyiter hit h
end
def ItK (d : Addr) (o : Obj) (kk : List (List Key × V)) : It :=
 ⟨fun i H => H d = some (.frz o (.dT kk)) /\ i < kk.length, fun i H x H' => H' = H /\ ∃ b q, kk[i]? = some q /\ x = .ref b /\ H b = some (.tup (q.1.map kV)), fun i H => H d = some (.frz o (.dT kk)) /\ kk.length <= i⟩
theorem Ni {X : Cx} {pins : List (Addr × Obj)} {Z : St} {H : Hp} {s : Shared} {d : Addr} {o : Obj} {kk : List (List Key × V)} {es : Array DictEntry} {ep : Nat} (I : Inv X pins Z H s) (h : H d = some (.frz o (.dT kk))) (hd : o.data = .dict es ep) :
   s.heap.get? d = some o /\ es.size = kk.length /\ ∀ (i : Nat) (hi : i < es.size), ∃ b q, kk[i]? = some q /\ es[i].key = .ref b /\ H b = some (.tup (q.1.map kV)) := by
 obtain ⟨e1, z, hs, xs, rel, o', es', ep', e2, hex, hdat, hes, hnd⟩ := I.hok d _ h
 rw [e1] at e2; cases e2
 rw [hd] at hdat; cases hdat
 have hl : es.size = xs.length := by
   have := congrArg List.length hes; rw [List.length_map] at this
   simpa using this
 have hk : kk.length = xs.length := Paired.length rel
 refine ⟨e1, by omega, fun i hi => ?_⟩
 have hx : i < xs.length := by omega
 have e3 : es.toList[i]? = some es[i] := by simp [hi]
 rw [hes, List.getElem?_map, List.getElem?_eq_getElem hx] at e3
 simp only [Option.map_some, Option.some.injEq] at e3
 have pg : ∀ {l₁ : List (List Key × V)} {l₂ : List (List Key × Addr × Value)}, KT H l₁ l₂ -> ∀ (i : Nat) y, l₂[i]? = some y -> ∃ q, l₁[i]? = some q /\ q.1 = y.1 /\ H y.2.1 = some (.tup (q.1.map kV)) := fun {l₁ l₂} r => by
   induction r with
   | nil => intro i y e; simp at e
   | cons r _ ih =>
     intro i y e
     cases i with
     | zero => simp at e; subst e; exact ⟨_, rfl, r.1, r.2.1⟩
     | succ i => exact ih i y (by simpa using e)
 obtain ⟨q, q1, q2, q3⟩ := pg rel i _ (List.getElem?_eq_getElem hx)
 exact ⟨xs[i].2.1, q, q1, by rw [<- e3]; rfl, q3⟩
theorem Oh {P : Program} {w : World} {K : PySem.W.Frag} {tg : Expr} (d it : Addr) (o : Obj) (kk : List (List Key × V)) (es : Array DictEntry) (ep : Nat) (hd : o.data = .dict es ep) : Turn P w K tg (ItK d o kk) [it] it (fun i h => h.IsKeyIter it d i es.size ep) where
 mem := by simp
 obj := fun i h st b hb => by
   have e : b = it := by simpa using hb
   subst e; obtain ⟨o, e, c, dd⟩ := st; exact ⟨o, e, fun v z => by rw [dd] at z; cases z⟩
 keep := fun i h h' st k => by
   obtain ⟨o, e, r⟩ := st; exact ⟨o, k it (by simp) o e, r⟩
 item := by
   intro X hP hw hK hc i pins s Z H E I hf st hg; subst hP hw hK; obtain ⟨h1, h2⟩ := hg; obtain ⟨g1, g2, g3⟩ := Ni I h1 hd; obtain ⟨b, q, q1, q2, q3⟩ := g3 i (by omega)
   obtain ⟨f0, f1, f2, f3, f4, f5⟩ := hf it (by simp)
   refine Ox st g1 hd (by omega) fun h' st' sb => ?_
   have I1 : Inv X pins Z H { s with heap := h' } := I.turned (t' := s.toks) (fun b o hb e => (sb.2 b hb).trans e) f0 f1 f3 f4 f5
   obtain ⟨oi, e, c, dd⟩ := id st'; exact ⟨_, rfl, Jd (s := { s with heap := h' }) e c dd (by decide) ⟨.ref b, H, I1, q2, ⟨rfl, b, q, q1, rfl, q3⟩, st', fun b hb => (hf b hb).1⟩⟩
 done := by
   intro X hP hw hK hc i pins s Z H E I hf st hg; subst hP hw hK; obtain ⟨h1, h2⟩ := hg; obtain ⟨g1, g2, g3⟩ := Ni I h1 hd; obtain ⟨f0, f1, f2, f3, f4, f5⟩ := hf it (by simp)
   exact Tk (I.ok.hd hc) (by omega) st g1 hd fun h' eb => ⟨rfl, I.turned (t' := s.toks) (fun b o hb e => eb b o hb e) f0 f1 f3 f4 f5⟩
 self := fun _ _ _ _ _ st h => Xv st h
def iKey (te : TE) : TI := fun Z H R => te Z H fun x H1 => ∃ d kk, x = .ref d /\ H1 d = some (.dT kk) /\ ∀ o, R (ItK d o kk) (upd H1 d (.frz o (.dT kk)))
theorem gQ {X : Cx} {tg e : Expr} {te : TE} (he : PE X e te) : PI X tg e (iKey te) := by
 intro pins s Z H R I h
 refine thn (he pins s Z H _ I h) fun v s1 ⟨x, H1, I1, rx, d, kk, ex, hd, q⟩ => ?_
 subst ex
 cases (show v = Value.ref d from rx)
 obtain ⟨z, hs, xs, rel, o, es, ep, e1, hex, hdat, hes, hnd⟩ := I1.hok d _ hd
 have I2 : Inv X pins Z (upd H1 d (.frz o (.dT kk))) { s1 with heap := s1.heap } := by
   refine I1.write (t' := s1.toks) (x := d) (e := d) (by rw [hd]; exact True.intro) (.inl rfl) (fun b u _ q => q) ⟨o, e1⟩ ?_
   refine ⟨e1, z, hs, xs, Paired.mapP rel fun p y r => ⟨r.1, ?_, r.2.2⟩, o, es, ep, e1, hex, hdat, hes, hnd⟩
   have : y.2.1 ≠ d := Bv r.2.1 hd (fun z => by cases z)
   rw [A8 this]; exact r.2.1
 refine Iz hs ⟨o, e1, hex.1⟩ e1 hdat ?_
 have I3 : Inv X pins Z (upd H1 d (.frz o (.dT kk))) { s1 with heap := s1.heap.push { cls := .type "dict_keyiterator", data := .fields #[.ref d, .int 0 0, .int es.size 0, .int ep 0] } } := I2.kept (t' := s1.toks) fun b o e => Heap.get?_push_of_some _ e
 refine ⟨s1.heap.objs.size, [s1.heap.objs.size], _, _, _, rfl, I3, Oh d _ o kk es ep hdat, ⟨_, Heap.get?_push_size _ rfl, rfl, rfl⟩, fun b hb => ?_, q o⟩
 have e : b = s1.heap.objs.size := by simpa using hb
 subst e
 exact I2.fpOk (Nat.le_refl _) (I2.hok.fresh (Nat.le_refl _))
end Sm
end
section
namespace Sm
open PySem PySem.Spec PyProof.Rows L2
noncomputable def O9 : List PyData -> Bool
 | [] => true
 | .int _ :: ds => O9 ds
 | .str x :: ds => PyData.strOk x && decide (x.length <= sizeLine) && O9 ds
 | _ :: _ => false
theorem Ad {G : Hp} : ∀ {ds : List PyData} {kk : List Key}, O4 ds = some kk -> O9 ds = true -> RepL G ds (kk.map kV)
 | [], _, e, _ => by cases e; exact rfl
 | .int i :: ds, _, e, h => by
   obtain ⟨r, e1, rfl⟩ := Option.map_eq_some_iff.mp e; exact ⟨_, _, rfl, rfl, Ad e1 h⟩
 | .str x :: ds, _, e, h => by
   obtain ⟨r, e1, rfl⟩ := Option.map_eq_some_iff.mp e; unfold O9 at h; simp only [Bool.and_eq_true, decide_eq_true_eq] at h; exact ⟨_, _, rfl, ⟨rfl, h.1.1, h.1.2⟩, Ad e1 h.2⟩
 | .none :: _, _, e, _ => by cases e
 | .bool _ :: _, _, e, _ => by cases e
 | .list _ :: _, _, e, _ => by cases e
 | .tuple _ :: _, _, e, _ => by cases e
 | .dict _ :: _, _, e, _ => by cases e
theorem Xe : (1000 : Nat) <= sizeLine := by decide
theorem iK {n j : Nat} {i : Int} (h : ixN n i = some j) : j < n := by
 unfold ixN at h
 repeat (first | (split at h) | (cases h; omega) | (cases h))
noncomputable def Ce (rows : List (List PyData)) (j : Nat) (d : PyData) : List (List PyData) := rows.set j (rows.getD j [] ++ [d])
noncomputable def Ko (kvs : Kvs) : List PyData -> List (List PyData) -> Option (List (List PyData))
 | [], rows => some rows
 | .tuple ds :: r, rows => match O4 ds with
   | some kk => if O9 ds = true then (match M2 kvs kk with
     | some (.int dep) =>
       let rows1 := if dep = (rows.length : Int) then rows ++ [[]] else rows
       match ixN rows1.length dep with
       | some j => Ko kvs r (Ce rows1 j (.tuple ds))
       | none => none
     | _ => none) else none
   | none => none
 | _ :: _, _ => none
noncomputable def dL (f : Dn -> Res Kvs) : Dn -> Out := fun δ => M8 (f δ) fun kvs => if kvs.length < 1000 /\ δ.length = 4 then (match Ko kvs (kvs.map (·.1)) [] with
 | some rows => .rt (.list (rows.map .list))
 | none => .no) else .no
structure RowsAt (H1 Hc : Hp) (p l : Addr) (o : Obj) (kk : List (List Key × V)) (rows : List (Addr × List V)) (rd : List (List PyData)) : Prop where
 dp : Hc p = some (.frz o (.dT kk))
 dl : Hc l = some (.lst (rows.map fun r => .ref r.1))
 dr : ∀ r ∈ rows, Hc r.1 = some (.lst r.2) /\ H1 r.1 = none /\ r.1 ≠ l /\ r.1 ≠ p
 nd : (rows.map (·.1)).Nodup
 pl : p ≠ l
 hl : H1 l = none
 kp : ∀ b u, b ≠ p -> H1 b = some u -> Hc b = some u
 len : rd.length = rows.length
 rep : ∀ (j : Nat) r ds, rows[j]? = some r -> rd[j]? = some ds -> r.2.length = ds.length /\ ∀ (i : Nat) d x, ds[i]? = some d -> r.2[i]? = some x -> ∃ b es q, d = .tuple es /\ O4 es = some q /\ O9 es = true /\ x = .ref b /\ Hc b = some (.tup (q.map kV))
section
variable {H1 Hc : Hp} {p l : Addr} {o : Obj} {kk : List (List Key × V)} {rows : List (Addr × List V)} {rd : List (List PyData)}
theorem RowsAt.more (R : RowsAt H1 Hc p l o kk rows rd) {q : Addr} (hq : Hc q = none) : RowsAt H1 (upd (upd Hc q (.lst [])) l (.lst ((rows.map fun r => .ref r.1) ++ [.ref q]))) p l o kk (rows ++ [(q, [])]) (rd ++ [[]]) := by
 have ql : l ≠ q := B5 R.dl hq
 have qp : p ≠ q := B5 R.dp hq
 have qr : ∀ r ∈ rows, r.1 ≠ q := fun r hr => B5 (R.dr r hr).1 hq
 have h1q : H1 q = none := by
   cases z : H1 q with
   | none => rfl
   | some u => have := R.kp q u (Ne.symm qp) z; rw [hq] at this; cases this
 refine ⟨?_, ?_, ?_, ?_, R.pl, R.hl, ?_, by simp [R.len], ?_⟩
 . rw [A8 R.pl, A8 qp]; exact R.dp
 . rw [B3, List.map_append]; rfl
 . intro r hr
   rcases List.mem_append.mp hr with hr | hr
   . obtain ⟨a, b, c, d⟩ := R.dr r hr
     exact ⟨by rw [A8 c, A8 (qr r hr)]; exact a, b, c, d⟩
   . rw [List.mem_singleton.mp hr]
     exact ⟨by rw [A8 (Ne.symm ql), B3], h1q, Ne.symm ql, Ne.symm qp⟩
 . rw [List.map_append, List.nodup_append]
   refine ⟨R.nd, by simp, fun a ha b hb => ?_⟩
   obtain ⟨r, hr, rfl⟩ := List.mem_map.mp ha; have : b = q := by simpa using hb
   subst this; exact qr r hr
 . intro b u hb e
   have hbq : b ≠ q := B5 e h1q; rw [A8 (B5 e R.hl), A8 hbq]; exact R.kp b u hb e
 . intro j r ds h2 h3
   by_cases hj : j < rows.length
   . rw [List.getElem?_append_left hj] at h2
     rw [List.getElem?_append_left (by rw [R.len]; exact hj)] at h3
     obtain ⟨a, b⟩ := R.rep j r ds h2 h3; refine ⟨a, fun i d x e1 e2 => ?_⟩
     obtain ⟨b', es, q', c1, c2, c3, c4, c5⟩ := b i d x e1 e2; refine ⟨b', es, q', c1, c2, c3, c4, ?_⟩; rw [A8 (Bv c5 R.dl (fun z => by cases z)), A8 (B5 c5 hq)]; exact c5
   . have hl : j = rows.length := by
       have := (List.getElem?_eq_some_iff.mp h2).1; simp at this; omega
     subst hl; rw [List.getElem?_append_right (Nat.le_refl _)] at h2; rw [List.getElem?_append_right (by rw [R.len]; exact Nat.le_refl _)] at h3
     simp [R.len] at h2 h3
     subst h2 h3; exact ⟨rfl, fun i d x e1 _ => by simp at e1⟩
theorem RowsAt.put (R : RowsAt H1 Hc p l o kk rows rd) {j : Nat} {r : Addr × List V} (hr : rows[j]? = some r) {b : Addr} {es : List PyData} {q : List Key} (hb : Hc b = some (.tup (q.map kV))) (hk : O4 es = some q) (ha : O9 es = true) :
   RowsAt H1 (upd Hc r.1 (.lst (r.2 ++ [.ref b]))) p l o kk (rows.set j (r.1, r.2 ++ [.ref b])) (Ce rd j (.tuple es)) := by
 have hj : j < rows.length := (List.getElem?_eq_some_iff.mp hr).1
 have hrm : r ∈ rows := List.mem_of_getElem? hr
 obtain ⟨r1, r2, r3, r4⟩ := R.dr r hrm
 have e1 : (rows.set j (r.1, r.2 ++ [.ref b])).map (·.1) = rows.map (·.1) := by
   rw [List.map_set]; apply List.ext_getElem?
   intro i; rw [List.getElem?_set]
   split
   . rename_i z; subst z
     rw [if_pos (by simpa using hj), List.getElem?_map, hr]; rfl
   . rfl
 have e2 : (rows.set j (r.1, r.2 ++ [.ref b])).map (fun r => V.ref r.1) = rows.map (fun r => V.ref r.1) := by
   have := congrArg (List.map V.ref) e1; rw [List.map_map, List.map_map] at this; exact this
 refine ⟨?_, ?_, ?_, ?_, R.pl, R.hl, ?_, ?_, ?_⟩
 . rw [A8 (Ne.symm r4)]; exact R.dp
 . rw [A8 (Ne.symm r3), e2]; exact R.dl
 . intro x hx
   obtain ⟨i, hi, rfl⟩ := List.getElem_of_mem hx; rw [List.length_set] at hi; rw [List.getElem_set]
   split
   . exact ⟨B3, r2, r3, r4⟩
   . rename_i hij
     obtain ⟨a, b', c, d⟩ := R.dr _ (List.getElem_mem hi); refine ⟨?_, b', c, d⟩; have hne : rows[i].1 ≠ r.1 := fun z => by
       have e3 : (rows.map (·.1))[i]'(by simpa using hi) = (rows.map (·.1))[j]'(by simpa using hj) := by
         rw [List.getElem_map, List.getElem_map, z]; have := (List.getElem?_eq_some_iff.mp hr).2; rw [this]
       exact hij ((List.getElem_inj R.nd).mp e3).symm
     rw [A8 hne]; exact a
 . rw [e1]; exact R.nd
 . intro c u hc e
   rw [A8 (B5 e r2)]; exact R.kp c u hc e
 . unfold Ce; rw [List.length_set, List.length_set]; exact R.len
 . intro i x ds h2 h3
   unfold Ce at h3; have tup : ∀ b' (q' : List Key), Hc b' = some (.tup (q'.map kV)) -> (upd Hc r.1 (.lst (r.2 ++ [.ref b]))) b' = some (.tup (q'.map kV)) := fun b' q' z => by
     rw [A8 (Bv z r1 (fun z => by cases z))]; exact z
   by_cases hij : j = i
   . subst hij
     have hjd : j < rd.length := by rw [R.len]; exact hj
     rw [List.getElem?_set, if_pos rfl, if_pos hj] at h2; rw [List.getElem?_set, if_pos rfl, if_pos hjd] at h3
     cases h2; cases h3
     obtain ⟨a, c⟩ := R.rep j r _ hr (List.getElem?_eq_getElem hjd); have eg : rd.getD j [] = rd[j] := by simp [List.getD, hjd]
     rw [eg]; refine ⟨by simp [a], fun i d x e3 e4 => ?_⟩
     by_cases hi : i < r.2.length
     . rw [List.getElem?_append_left (by omega)] at e3
       rw [List.getElem?_append_left hi] at e4; obtain ⟨b', es', q', c1, c2, c3, c4, c5⟩ := c i d x e3 e4; exact ⟨b', es', q', c1, c2, c3, c4, tup _ _ c5⟩
     . rw [List.getElem?_append_right (by omega)] at e3
       rw [List.getElem?_append_right (by omega)] at e4; have hi0 : i - r.2.length = 0 := by
         have := (List.getElem?_eq_some_iff.mp e4).1; simp at this; omega
       rw [<- a, hi0] at e3; rw [hi0] at e4; simp at e3 e4
       subst e3 e4; exact ⟨b, es, q, rfl, hk, ha, rfl, tup _ _ hb⟩
   . rw [List.getElem?_set, if_neg hij] at h2
     rw [List.getElem?_set, if_neg hij] at h3; obtain ⟨a, c⟩ := R.rep i x ds h2 h3; refine ⟨a, fun k d y e3 e4 => ?_⟩
     obtain ⟨b', es', q', c1, c2, c3, c4, c5⟩ := c k d y e3 e4; exact ⟨b', es', q', c1, c2, c3, c4, tup _ _ c5⟩
theorem RowsAt.share {G0 H0 G1 : Hp} (R : RowsAt H1 Hc p l o kk rows rd) (g : Grow G0 H0 G1 H1) (hp : G1 p = none) (hp0 : H0 p = none) : ∃ G', Grow G0 H0 G' Hc /\ Rep G' (.list (rd.map .list)) (.ref l) := by
 let G' : Hp := fun b => if b = l then Hc b else if b ∈ rows.map (·.1) then Hc b else match Hc b with
   | some (.tup xs) => some (.tup xs)
   | _ => G1 b
 have rnone : ∀ b, b ∈ rows.map (·.1) -> H1 b = none := fun b hb => by
   obtain ⟨r, hr, rfl⟩ := List.mem_map.mp hb; exact (R.dr r hr).2.1
 have hl0 : H0 l = none := g.h.free R.hl
 have G'of : ∀ b u, G' b = some u -> Hc b = some u /\ (G0 b = some u \/ H0 b = none \/ ∃ xs, u = HO.tup xs) := fun b u e => by
   simp only [G'] at e
   split at e
   . rename_i z; subst z; exact ⟨e, .inr (.inl hl0)⟩
   . split at e
     . rename_i z; exact ⟨e, .inr (.inl (g.h.free (rnone b z)))⟩
     . split at e
       . rename_i xs z; cases e; exact ⟨z, .inr (.inr ⟨xs, rfl⟩)⟩
       . have hb : b ≠ p := B5 e hp
         exact ⟨R.kp b u hb (g.gh _ _ e), g.fr b u e⟩
 have tupG : ∀ b xs, Hc b = some (.tup xs) -> G' b = some (.tup xs) := fun b xs e => by
   simp only [G']
   split
   . exact e
   . split
     . exact e
     . rw [e]
 refine ⟨G', ⟨fun b u e => ?_, fun b u e => ?_, fun b u e => (G'of b u e).1, fun b u e => (G'of b u e).2⟩, l, rows.map (fun r => .ref r.1), rfl, .inl ?_, ?_⟩
 . have h1 := g.g _ _ e
   have h2 := g.gh _ _ h1; have hb : b ≠ p := B5 h1 hp; have h3 := R.kp b u hb h2; simp only [G']
   split
   . exact h3
   . split
     . exact h3
     . split
       . rename_i z; rw [h3] at z; cases z; rfl
       . exact h1
 . exact R.kp b u (B5 e hp0) (g.h _ _ e)
 . show G' l = _
   simp only [G', if_true]; exact R.dl
 ·
   have hrow : ∀ (j : Nat) r ds, rows[j]? = some r -> rd[j]? = some ds -> Rep G' (.list ds) (.ref r.1) := fun j r ds e1 e2 => by
     obtain ⟨a, c⟩ := R.rep j r ds e1 e2; have hrm : r ∈ rows := List.mem_of_getElem? e1; refine ⟨r.1, r.2, rfl, .inl ?_, ?_⟩
     . simp only [G']
       split
       . exact (R.dr r hrm).1
       . rw [if_pos (List.mem_map.mpr ⟨r, hrm, rfl⟩)]; exact (R.dr r hrm).1
     . have : ∀ (xs : List V) (ds : List PyData), xs.length = ds.length -> (∀ (i : Nat) d x, ds[i]? = some d -> xs[i]? = some x -> ∃ b es q, d = .tuple es /\ O4 es = some q /\ O9 es = true /\ x = .ref b /\ Hc b = some (.tup (q.map kV))) -> RepL G' ds xs := fun xs => by
         induction xs with
         | nil => intro ds hl _; cases ds with
           | nil => exact rfl
           | cons _ _ => simp at hl
         | cons x xs ih =>
           intro ds hl h
           cases ds with
           | nil => simp at hl
           | cons d ds =>
             obtain ⟨b, es, q, rfl, c2, c3, rfl, c5⟩ := h 0 d x rfl rfl; refine ⟨_, _, rfl, ⟨b, q.map kV, rfl, tupG _ _ c5, Ad c2 c3⟩, ih ds (by simpa using hl) fun i d x e1 e2 => h (i + 1) d x (by simpa using e1) (by simpa using e2)⟩
       exact this r.2 ds a c
   have : ∀ (rs : List (Addr × List V)) (ds : List (List PyData)), rs.length = ds.length -> (∀ (j : Nat) r d, rs[j]? = some r -> ds[j]? = some d -> Rep G' (.list d) (.ref r.1)) -> RepL G' (ds.map .list) (rs.map fun r => .ref r.1) := fun rs => by
     induction rs with
     | nil => intro ds hl _; cases ds with
       | nil => exact rfl
       | cons _ _ => simp at hl
     | cons x xs ih =>
       intro ds hl h
       cases ds with
       | nil => simp at hl
       | cons d ds => exact ⟨_, _, rfl, h 0 x d rfl rfl, ih ds (by simpa using hl) fun j r d e1 e2 => h (j + 1) r d (by simpa using e1) (by simpa using e2)⟩
   exact this rows rd R.len.symm hrow
end
section
variable {P : Program} {w : World} {K : PySem.W.Frag} {mg : Str -> Option Value} {base : Heap} {X : Cx} {N : List Str} {sc : Scope} {k : Nat} {df : Bool} {E : EK} {fx : Dn -> Res Kvs} {ex : Expr} {xd xt xw : Str} {p1 p2 p3 p4 p5 p6 p7 p8 p9 p10 p11 p12 p13 p14 p15 p16 p17 p18 p19 p20 p21 p22 p23 p24 p25 p26 p27 p28 p29 p30 p31 p32 : Pos}
theorem Uw (C : Cxt P w K mg base X N sc k df) (hx : DX X E ex fx) (hd : okSet N sc df 1 xd = true) (hd' : okVar N sc 1 xd = true) (ht : okSet N sc df 2 xt = true) (ht' : okVar N sc 2 xt = true) (hw : okSet N sc df 3 xw = true) (hw' : okVar N sc 3 xw = true) (hlen : okGl sc "len" = true) (hm : mg "len" = none)
   (s1 : swapsWith ex (some (.Name xd p1)) p2.line X.env = pure false := by rfl)
   (s2 : swapsWith (.List [] p4) (some (.Name xt p3)) p5.line X.env = pure false := by rfl)
   (s3 : ∀ x, foldedSetIterable (.Name xd p7) X.env x = pure x := by intro _; rfl)
   (s4 : behindInMarks .Eq (.Call (.Name "len" p11) [.Name xt p12] [] p13) = false := by with_unfolding_all rfl)
   (s5 : starEach [.Name xt p12] X.env = (false, eval (.Name xt p12) X.env) :: starEach [] X.env := by rfl) (s6 : (backTo p13 (starEach [] X.env)).any (·.1) = false := by rfl)
   (b1 : attributeBase (.Name xt p15) "append" X.env (eval (.Name xt p15) X.env) = eval (.Name xt p15) X.env := by rfl)
   (b2 : ((backTo p18 (starEach [.List [] p17] X.env)).all (fun x => !x.1) && (backToKw p18 (keywordEach [] X.env)).all (fun x => x.1.isSome) && decide ([Expr.List [] p17].length + ([] : List Keyword).length + (if ([] : List Keyword).isEmpty then 0 else 1) < 30)) = true := by rfl)
   (b3 : (p16.endLine == p18.line) = true := by rfl) (b4 : starEach [.List [] p17] X.env = (false, eval (.List [] p17) X.env) :: starEach [] X.env := by rfl) (b5 : (backTo p18 (starEach [] X.env)).any (·.1) = false := by rfl)
   (b6 : swapsWith (.Call (.Attribute (.Name xt p15) "append" p16) [.List [] p17] [] p18) none p19.line X.env = pure false := by rfl)
   (c1 : attributeBase (.Subscript (.Name xt p21) (.Subscript (.Name xd p22) (.Name xw p23) p24) p25) "append" X.env (eval (.Subscript (.Name xt p21) (.Subscript (.Name xd p22) (.Name xw p23) p24) p25) X.env) = eval (.Subscript (.Name xt p21) (.Subscript (.Name xd p22) (.Name xw p23) p24) p25) X.env := by rfl)
   (c2 : ((backTo p28 (starEach [.Name xw p27] X.env)).all (fun x => !x.1) && (backToKw p28 (keywordEach [] X.env)).all (fun x => x.1.isSome) && decide ([Expr.Name xw p27].length + ([] : List Keyword).length + (if ([] : List Keyword).isEmpty then 0 else 1) < 30)) = true := by rfl)
   (c3 : (p26.endLine == p28.line) = true := by rfl) (c4 : starEach [.Name xw p27] X.env = (false, eval (.Name xw p27) X.env) :: starEach [] X.env := by rfl) (c5 : (backTo p28 (starEach [] X.env)).any (·.1) = false := by rfl)
   (c6 : swapsWith (.Call (.Attribute (.Subscript (.Name xt p21) (.Subscript (.Name xd p22) (.Name xw p23) p24) p25) "append" p26) [.Name xw p27] [] p28) none p29.line X.env = pure false := by rfl)
   (n1 : Rx (.Name xw p9) := by exact fun _ _ => rfl) (n2 : Rx (.Name xw p23) := by exact fun _ _ => rfl) (n3 : Oc (.Subscript (.Name xd p22) (.Name xw p23) p24) := by exact fun _ _ => rfl) :
   DSs X E [.Assign [.Name xd p1] ex p2, .Assign [.Name xt p3] (.List [] p4) p5,
     .For (.Name xw p6) (.Name xd p7) [.If (.Compare (.Subscript (.Name xd p8) (.Name xw p9) p10) [.Eq] [.Call (.Name "len" p11) [.Name xt p12] [] p13] p14) [.Expr (.Call (.Attribute (.Name xt p15) "append" p16) [.List [] p17] [] p18) p19] [] p20,
       .Expr (.Call (.Attribute (.Subscript (.Name xt p21) (.Subscript (.Name xd p22) (.Name xw p23) p24) p25) "append" p26) [.Name xw p27] [] p28) p29] [] p30,
     .Return (some (.Name xt p31)) p32] (dL fx) := fun G0 H0 => by
 obtain ⟨d1, d2, d3, d4⟩ := okSet.ok C hd
 obtain ⟨_, t2, t3, t4⟩ := okSet.ok C ht
 obtain ⟨_, w2, w3, w4⟩ := okSet.ok C hw
 obtain ⟨l1, l2, l3⟩ := okGl.gl C hlen
 have lenE : PE X (.Call (.Name "len" p11) [.Name xt p12] [] p13) _ := Bb Ob l1 (by rw [C.hmg]; exact hm) PySem.boot_len (F6 (okVar.pe C ht') M9 s5) l3 l2 s5 s6
 have tst := Mu (pos := p14) op_eq (Dg (pos := p10) C.hu1 (okVar.pe C hd' (p := p8)) (okVar.pe C hw' (p := p9)) n1) lenE s4
 have app1 := Gn (pos := p19) (Kz PySem.F.plainAttrs_list PySem.F.slot_list_append PySem.F.type_list_append Aa (okVar.pe C ht' (p := p15)) (F6 (Iv (pos := p17) M9) M9 b4) b1 b2 b3 b4 b5) b6
 have app2 := Gn (pos := p29) (Kz PySem.F.plainAttrs_list PySem.F.slot_list_append PySem.F.type_list_append Aa (Yq (pos := p25) Nk (okVar.pe C ht' (p := p21)) (Dg (pos := p24) C.hu1 (okVar.pe C hd' (p := p22)) (okVar.pe C hw' (p := p23)) n2) n3) (F6 (okVar.pe C hw' (p := p27)) M9 c4) c1 c2 c3 c4 c5) c6
 refine PSs.imp (S8 (Ba d1 d2 d3 hx s1 d4) (S8 (Ba d1 t2 t3 (Iv M9) s2 t4) (S8 (Ym (pos := p30) C.own C.calm (gQ (okVar.pe C hd' (p := p7))) (Bm d1 w2 w3 w4) (S8 (Yl (pos := p20) tst (Ah app1) Mv) (Ah app2)) s3) (Ah (Iu (okVar.pe C ht' (p := p31))))))) fun D Z H ⟨G, δ, S, a⟩ => ?_
 refine ⟨G, δ, S.sr, ?_⟩
 unfold dL at a
 cases q : fx δ with
 | exc c => rw [q] at a; exact fun G' H' g => a G' H' (S.gr.trans g)
 | no => rw [q] at a; exact a
 | ok kvs =>
   rw [q] at a; simp only [M8] at a
   split at a
   . rename_i hz
     cases el : Ko kvs (kvs.map (·.1)) [] with
     | none => rw [el] at a; exact (show False from a).elim
     | some out =>
       rw [el] at a; intro pd G1 H1 g1 hp hp' ho; obtain ⟨kk, hkk, hkeys, hvals⟩ := ho; have hσl : Z.length = 4 := by rw [S.sr.len]; exact hz.2
       have hkl : kk.length = kvs.length := by
         have := congrArg List.length hkeys; rw [List.length_map, List.length_map] at this; omega
       refine ⟨by show 0 <= sizeLine; exact Nat.zero_le _, fun l hl => ?_⟩
       have hpl : pd ≠ l := B5 hkk hl; refine ⟨.ref pd, by rw [List.getElem?_set_ne (by decide), List.getElem?_set_self (by omega)], pd, kk, rfl, by rw [A8 hpl]; exact hkk, fun o => ?_⟩
       let Inv' : Nat -> St -> Hp -> Prop := fun i τ Hc => τ.length = 4 /\ τ[1]? = some (some (.ref pd)) /\ τ[2]? = some (some (.ref l)) /\ ∃ rows rd, RowsAt H1 Hc pd l o kk rows rd /\ rows.length <= i /\ (∀ r ∈ rows, r.2.length <= i) /\ Ko kvs ((kvs.map (·.1)).drop i) rd = some out
       refine ⟨fun i m τ Hc => i + m = kk.length /\ Inv' i τ Hc, ⟨kk.length, by omega, ?_⟩, fun i m τ Hc ⟨hm', hI⟩ => ?_⟩
       . refine ⟨by simp [hσl], by rw [List.getElem?_set_ne (by decide), List.getElem?_set_self (by omega)], by rw [List.getElem?_set_self (by simp; omega)], [], [], ?_, Nat.zero_le _, (fun r hr => nomatch hr), el⟩
         exact ⟨B3, by rw [A8 (Ne.symm hpl), B3]; rfl, fun r hr => (nomatch hr), .nil, hpl, hl, fun b u hb e => by rw [A8 hb, A8 (B5 e hl)]; exact e, rfl, fun j r ds e => by simp at e⟩
       . obtain ⟨i1, i2, i3, rows, rd, R, r1, r2, r3⟩ := hI
         by_cases hi : i < kk.length
         . refine .inr ⟨⟨R.dp, hi⟩, fun τ' H' => i + 1 + (m - 1) = kk.length /\ Inv' (i + 1) τ' H', fun τ' H' z => ⟨m - 1, by omega, z⟩, fun x H' hy => ?_⟩
           obtain ⟨rfl, b, qk, q1, rfl, q3⟩ := hy; have hki : (kvs.map (·.1))[i]? = some (PyData.tuple (qk.1.map M4)) := by rw [hkeys, List.getElem?_map, q1]; rfl
           have hlt : i < (kvs.map (·.1)).length := (List.getElem?_eq_some_iff.mp hki).1; have hge : (kvs.map (·.1))[i] = PyData.tuple (qk.1.map M4) := (List.getElem?_eq_some_iff.mp hki).2; rw [List.drop_eq_getElem_cons hlt, hge] at r3; unfold Ko at r3; rw [show O4 (qk.1.map M4) = some qk.1 from T0 qk.1] at r3; simp only at r3
           split at r3
           . rename_i hat
             rcases X1 (kk := qk.1) hkeys hvals with ⟨z1, z2⟩ | ⟨d0, v0, z1, z2, rdv⟩
             . rw [z1] at r3; cases r3
             . rw [z1] at r3
               cases d0 with
               | int dep =>
                 cases (show v0 = V.int dep from rdv)
                 simp only at r3; have dg : ∀ Hx : Hp, Hx pd = some (.frz o (.dT kk)) -> Hx b = some (.tup (qk.1.map kV)) -> DGet Hx pd (.ref b) (some (.int dep)) := fun Hx e1 e2 => .inr ⟨kk, qk.1, b, .inr ⟨o, e1⟩, rfl, e2, z2.symm⟩
                 have j1 : (τ.set 3 (some (V.ref b)))[1]? = some (some (.ref pd)) := by rw [List.getElem?_set_ne (by decide)]; exact i2
                 have j2 : (τ.set 3 (some (V.ref b)))[2]? = some (some (.ref l)) := by rw [List.getElem?_set_ne (by decide)]; exact i3
                 have j3 : (τ.set 3 (some (V.ref b)))[3]? = some (some (.ref b)) := by rw [List.getElem?_set_self (by omega)]
                 have tail : ∀ (D' : Ends) (Hx : Hp) (rows : List (Addr × List V)) (rd : List (List PyData)) (j : Nat), RowsAt H1 Hx pd l o kk rows rd -> Hx b = some (.tup (qk.1.map kV)) -> rows.length <= i + 1 -> (∀ r ∈ rows, r.2.length <= i) -> ixN rows.length dep = some j ->
                     Ko kvs ((kvs.map (·.1)).drop (i + 1)) (Ce rd j (.tuple (qk.1.map M4))) = some out -> (∀ τ' H', (i + 1 + (m - 1) = kk.length /\ Inv' (i + 1) τ' H') -> D'.nx τ' H') ->
                     eO (tBM X.K "list" Sn (tOp (gF X.K) (Dy 2) (eP (Dy 1) (Dy 3))) (Cy (Dy 3) Us)) D' (τ.set 3 (some (V.ref b))) Hx := fun D' Hx rows rd j R hb k1 k2 hix hlay hD => by
                   have hj := iK hix; have hr : rows[j]? = some rows[j] := List.getElem?_eq_getElem hj; have hrm : rows[j] ∈ rows := List.getElem_mem hj; have hat2 : atI (rows.map fun r => V.ref r.1) dep = some (.ref rows[j].1) := by
                     unfold atI; rw [List.length_map, hix]; simp [hj]
                   have hbig := Xe; refine ⟨.ref l, j2, .ref pd, j1, .ref b, j3, pd, .int dep, rfl, dg Hx R.dp hb, l, _, dep, .ref rows[j].1, rfl, rfl, .inl (.inl R.dl), hat2, .inl ⟨rfl, rows[j].2, .inl (.inl (R.dr _ hrm).1)⟩, .ref b, j3, rows[j].1, rows[j].2, .ref b, rfl, rfl, (R.dr _ hrm).1, by have := k2 _ hrm; omega, ?_⟩
                   refine hD _ _ ⟨by omega, by simp [i1], j1, j2, _, _, R.put hr hb (show O4 (qk.1.map M4) = some qk.1 from T0 qk.1) hat, by simpa using k1, fun r hr2 => ?_, hlay⟩
                   obtain ⟨z, hz2, rfl⟩ := List.getElem_of_mem hr2; rw [List.length_set] at hz2; rw [List.getElem_set]
                   split
                   . have := k2 _ hrm; simp; omega
                   . have := k2 _ (List.getElem_mem hz2); omega
                 have hbig := Xe; show tIfS _ _ _ _ (τ.set 3 (some (V.ref b))) H'
                 refine ⟨.ref pd, j1, .ref b, j3, pd, .int dep, rfl, dg _ R.dp q3, .ref l, j2, l, _, rfl, .inl (.inl (.inl R.dl)), rfl, _, rfl, ?_⟩; rw [R.len] at r3
                 by_cases c : dep = (rows.length : Int)
                 . rw [if_pos c] at r3
                   rw [if_pos (by rw [List.length_map, c]; simp)]
                   refine ⟨.ref l, j2, .inl ⟨rfl, _, .inl (.inl R.dl)⟩, Nat.zero_le _, fun q hq => ⟨l, _, .ref q, rfl, rfl, by rw [A8 (B5 R.dl hq)]; exact R.dl, by rw [List.length_map]; omega, ?_⟩⟩
                   cases hix : ixN (rd ++ [[]]).length dep with
                   | none => rw [hix] at r3; cases r3
                   | some j =>
                     rw [hix] at r3; refine tail _ _ (rows ++ [(q, [])]) (rd ++ [[]]) j (R.more hq) ?_ (by simp; omega) (fun r hr => ?_) (by rw [<- hix]; simp [R.len]) r3 fun _ _ z => z
                     . rw [A8 (Bv q3 R.dl (fun z => by cases z)), A8 (B5 q3 hq)]; exact q3
                     . rcases List.mem_append.mp hr with hr | hr
                       . exact r2 r hr
                       . rw [List.mem_singleton.mp hr]; exact Nat.zero_le _
                 . rw [if_neg c] at r3
                   rw [if_neg (by rw [List.length_map]; simp [c])]
                   cases hix : ixN rd.length dep with
                   | none => rw [hix] at r3; cases r3
                   | some j =>
                     rw [hix] at r3; exact tail _ _ rows rd j R q3 (by omega) r2 (by rw [<- hix, R.len]) r3 fun _ _ z => z
               | _ => cases r3
           . cases r3
         . have hik : i = kk.length := by omega
           refine .inl ⟨⟨R.dp, by omega⟩, ?_⟩
           rw [List.drop_eq_nil_of_le (by rw [List.length_map]; omega)] at r3
           cases r3; obtain ⟨G', g', rep⟩ := R.share (S.gr.trans g1) hp' (S.gr.h.free hp); exact ⟨.ref l, i3, a _ G' Hc g' rep⟩
   . exact (show False from a).elim
end
end Sm
end
section
namespace Sm
open PySem PySem.Spec PyProof.Rows L2
section
variable {P : Program} {w : World} {K : PySem.W.Frag} {mg : Str -> Option Value} {base : Heap} {X : Cx} {N : List Str} {sc : Scope} {k : Nat} {df : Bool} {E : EK} {pos p : Pos} {a : Expr} {f : Dn -> Res PyData} {x : Str} {i : Nat}
theorem eN (C : Cxt P w K mg base X N sc k df) (i : Nat) (h : okVar N sc i x = true) (hk : DE X E a f) (hm : behindInMarks .In (.Name x p) = false := by with_unfolding_all rfl) : DT X E (.Compare a [.In] [.Name x p] pos) (C9 (Me i f)) := by
 refine PT.imp (Qu (gV C.hu1 hk (okVar.pe C h)) hm) fun Z H Q ⟨G, δ, S, aft⟩ => ?_
 unfold C9 Me at aft
 rw [Res.bind_assoc] at aft
 refine Ae S aft fun kd v G1 H1 g1 r1 S1 a1 => ?_
 cases kd with
 | tuple ds =>
   cases ek : O4 ds with
   | none => simp only [P0, ek] at a1; exact (show False from a1).elim
   | some kk =>
     simp only [P0, ek] at a1
     split at a1
     . rename_i kk' kvs hkk hi
       cases hkk; obtain ⟨q, hσ, hg, kv, hx, hkeys, hvals⟩ := S1.own hi; obtain ⟨pk, xs, rfl, hpk, lk⟩ := r1; obtain ⟨e1, e2⟩ := N8 lk ek; subst e1; refine ⟨.ref q, hσ, q, _, rfl, DGet.t hx (S1.sub _ _ hpk), ?_⟩; have : (Av kv kk).isSome = (M2 kvs kk).isSome := by
         rcases X1 (kk := kk) hkeys hvals with ⟨n1, n2⟩ | ⟨d0, v0, n1, n2, _⟩ <;> rw [n1, n2] <;> rfl
       rw [this]; exact ⟨_, rfl, a1 G1 H1 (Grow.refl S1.sub)⟩
     . exact (show False from a1).elim
 | _ => exact (show False from a1).elim
end
end Sm
end
section
namespace Sm
open PySem PySem.Spec PySem.Calls PyProof.Rows PySem.W Builtin Builtin.ObjectAttr Builtin.Getset_descriptor
structure XCls (K : Frag) (D : Addr) : Prop where
 cls : (clsIn K D).isSome = true
 ga : findIn K (.ref D) "__getattribute__" = some (some (.builtin "BaseException.__getattribute__"))
 sb : subIn K (.ref D) (.type "BaseException") = some true
 gh : findIn K (.ref D) "__getattr__" = some none
 cl : findIn K (.ref D) "__class__" = some (some (.builtin "object.__class__"))
 gt : specialIn K (.builtin "object.__class__") "__get__" = some (some (.builtin "getset_descriptor.__get__"))
 tk : takesIn K (.builtin "object.__class__") = some true
 ob : mroIn K D (.type "object") = some true
def ExcAt' (x D : Addr) (h : Heap) : Prop := ∃ o, h.get? x = some o /\ o.cls = .ref D
section
variable {K : Frag} {x D : Addr}
theorem ExcAt'.ty {M : Model} {h : Heap} (e : ExcAt' x D h) : Looks M h (typeOf (.ref x)) (.ref D) := by
 obtain ⟨o, e, c⟩ := e
 exact c ▸ (Looks.ld e).andThen .now
theorem Re {M : Model} {h : Heap} (C : XCls K D) (X : K.In h) : Looks M h (find (.ref x) (.ref D) "__class__") (.bind (.builtin "getset_descriptor.__get__") (.builtin "object.__class__")) := by
 have a1 := looks_findIn (M := M) X C.cl
 have a2 : Looks M h (getOf (some (.builtin "object.__class__"))) (some (.builtin "getset_descriptor.__get__")) := looks_specialIn X C.gt
 have a3 : Looks M h (dataDescriptor? (some (.builtin "object.__class__")) (some (.builtin "getset_descriptor.__get__"))) (some (.builtin "getset_descriptor.__get__", .builtin "object.__class__")) := (looks_takesIn X C.tk).andThen .now
 exact a1.andThen (a2.andThen (a3.andThen (Looks.tag .now)))
section
variable {prog : Program} {w : World} {A : Around} {s : Shared}
theorem Kp {R : Result -> Shared -> Prop} {tp : Value} (C : XCls K D) (X : K.In s.heap) (I : ExcAt' x D s.heap) (h : R (.ok (.ret (.ref D))) s) :
   codeAny (model prog w) A (.call (.builtin "getset_descriptor.__get__") ⟨[.builtin "object.__class__", .ref x, tp], []⟩) R s := by
 obtain ⟨h0, gs, dr, tks, os⟩ := s
 have l0 := I.ty (M := model prog w)
 have l1 := looks_mroIn (M := model prog w) X C.ob
 refine codeAny_call_builtin KF.slot_gs.plain KF.entry_gs
   (KF.slot_gs.check _ _ _ _ _ _ _ _ KF.type_class (KF.args_gs _ _ _) ?_)
 unfold Builtin.«getset_descriptor.__get__»
 unfold descrGet
 rw [dga_obj]
 refine wpAny_bind (wpAny_pure ?_)
 unfold descrGetter descrCheckInstance
 unfold descrNameAndClass isInstance
 simp only [KF.owner_class]
 repeat lk
 refine ⟨Code.quiet_builtin _ (by decide +kernel), ?_⟩
 refine codeAny_builtin KF.entry_class ?_
 unfold Builtin.«object.__class__»
 unfold shownTypeOf
 repeat lk
 exact h
theorem Vx {M : Model} {E : Value -> Shared -> Prop} {nv : Value} {Q : Unit -> Shared -> Prop} (C : XCls K D) (X : K.In s.heap) (I : ExcAt' x D s.heap) (hq : Q () s) : wpAny M A (checkBuiltinCall "BaseException.__getattribute__" ⟨[.ref x, nv], []⟩) Q E s := by
 obtain ⟨h0, gs, dr, tks, os⟩ := s
 have l0 := I.ty (M := M)
 have l4 := looks_subIn (M := M) X C.sb
 have kd : builtinKind "BaseException.__getattribute__" = some .slot := by decide +kernel
 have sp : splitId "BaseException.__getattribute__" = some ("BaseException", "__getattribute__") := by decide +kernel
 have ha := PySem.F.args_bexc_ga (.ref x) nv
 simp only [checkBuiltinCall, kd, sp]
 refine wpAny_bind ?_
 unfold isInstance
 refine wpAny_bind (l0.at (l4.at ?_))
 repeat wp_step
 exact hq
theorem Vy {E : Value -> Shared -> Prop} {Q : Option Value -> Shared -> Prop} (C : XCls K D) (X : K.In s.heap) (I : ExcAt' x D s.heap) (h : Q (some (.ref D)) { s with toks := s.toks + 1 }) :
   wpAny (model prog w) A (getAttr? (.ref x) "__class__") Q E s := by
 obtain ⟨h0, gs, dr, tks, os⟩ := s
 have l0 := I.ty (M := model prog w)
 have l1 := looks_findIn (M := model prog w) X C.ga
 have l2 := Re (M := model prog w) (x := x) C X
 have l3 := looks_findIn (M := model prog w) X C.gh
 have f3 := PySem.F.attr_ValueError.ga.bind (.ref x)
 unfold getAttr? getAttrBy? getAttrBy
 refine wpAny_bind (wpAny_mkText (wpAny_bind (wpAny_attempt (wpAny_holding
   (wpAny_bind (l0.at (wpAny_bind (l1.at ?_))))))))
 show wpAny _ _ (getAttrByItsOwn _ _ _ _ _ _) _ _ _
 unfold getAttrByItsOwn
 refine wpAny_bind ?_
 show wpAny _ _ (typeLookup _ _) _ _ _
 refine l3.at (wpAny_bind (wpAny_attempt (wpAny_holding ?_)))
 show wpAny _ _ (boundAndCalled _ _ _) _ _ _
 unfold boundAndCalled
 rw [f3]
 refine wpAny_bind (wpAny_pure (wpAny_call (codeAny_call_builtin PySem.F.attr_ValueError.ga.plain PySem.F.entry_bexc_ga (Vx C X I ?_))))
 show wpAny _ _ (slotArgs "__getattribute__" 1 ⟨[.ref x, .str "__class__" tks], []⟩ >>= _) _ _ _
 refine wpAny_bind (wpAny_pure ?_)
 refine wpAny_bind (wpAny_pure (wpAny_bind (l0.at (wpAny_bind (l2.at ?_)))))
 show wpAny _ _ (holding [.builtin "object.__class__"] (call (.builtin "getset_descriptor.__get__") [.builtin "object.__class__", .ref x, .ref D]) >>= ret) _ _ _
 refine wpAny_bind (wpAny_holding (wpAny_call (Kp C X I ?_)))
 exact wpAny_pure (handed_on rfl (wpAny_pure h))
end
theorem Zu (C : XCls K D) : KitX K (.ref x) (.ref D) (ExcAt' x D) where
 ty := fun _ _ _ I => I.ty
 it := fun M h X _ => by
   have c := C.cls; unfold clsIn at c
   split at c
   . rename_i ho
     intro A Q E s k q; unfold isType loadHead; exact wpAny_bind (wpAny_loadPart (k _ _ (X _ _ ho)) (wpAny_pure q))
   . cases c
 ne := fun h tp dd its n sl X htp => by
   refine Bool.eq_false_iff.mpr fun q => ?_
   have e : D = tp := Value.ref.inj (beq_iff_eq.mp q); subst e; have c := C.cls; unfold clsIn at c
   split at c
   . rename_i ho
     have z := (X _ _ ho).symm.trans htp; cases z
   . cases c
 ca := fun X I k => Vy C X I k
end
theorem Pk {K : Frag} {M : Model} {A : Around} {E : Value -> Shared -> Prop} {s : Shared} {a CN CM : Addr} {Q : Bool -> Shared -> Prop} (X : K.In s.heap) (I : ExcAt' a CN s.heap)
   (h1 : subIn K (.ref CN) (.ref CM) = some true) (h2 : instIn K (.ref CM) (.type "tuple") = some false) (h3 : (clsIn K CM).isSome = true) (h4 : subIn K (.ref CM) (.type "BaseException") = some true) (q : Q true s) :
   wpAny M A (excMatches (.ref a) (.ref CM)) Q E s := by
 obtain ⟨h0, gs, dr, tks, os⟩ := s
 have l0 := I.ty (M := M)
 have l1 := looks_subIn (M := M) X h1
 have l2 := looks_instIn (M := M) X h2
 have l4 := looks_subIn (M := M) X h4
 have l3 : Looks M h0 (isType (.ref CM)) true := by
   unfold clsIn at h3
   split at h3
   . rename_i ho
     intro A Q E s k q; unfold isType loadHead; exact wpAny_bind (wpAny_loadPart (k _ _ (X _ _ ho)) (wpAny_pure q))
   . cases h3
 have l5 : Looks M h0 (isExcClass (.ref CM)) true := by
   unfold isExcClass; exact l3.andThen (by simpa using l4)
 unfold excMatches
 repeat lk
 exact q
end Sm
end
section
namespace Sm
open PySem PySem.Spec PyProof.Rows L2
def inX (X : Cx) (a : Addr) : Cx := { X with A := X.A.mark (some (.ref a)), calm := false, xe := fun _ _ => False }
section
variable {X : Cx} {pins : List (Addr × Obj)} {Z : St} {H : Hp} {s : Shared} {a : Addr}
theorem Inv.inX (I : Inv X pins Z H s) (a : Addr) : Inv (inX X a) pins Z H s :=
 ⟨⟨I.ok.mod, I.ok.kind, I.ok.glob, I.ok.blt, I.ok.above, I.ok.inj, I.ok.has, I.ok.cab, (fun z => by cases z), I.ok.frames, I.ok.stk, I.ok.exf, I.ok.bs, I.ok.bsz, I.ok.noex, I.ok.exfs, I.ok.funs, I.ok.frf⟩, I.os, I.bare, I.base, I.loc, I.cell, I.free, I.freeC, I.pin, I.hok, I.len⟩
theorem Inv.outX (I : Inv (Sm.inX X a) pins Z H s) (ok : X.Ok) : Inv X pins Z H s := ⟨ok, I.os, I.bare, I.base, I.loc, I.cell, I.free, I.freeC, I.pin, I.hok, I.len⟩
theorem Inv.forget {h' : Heap} {t' : Nat} {m' : Str -> Option Value} (I : Inv X pins Z H s) (hn : h'.Ns X.env.locals m') (hs : Heap.SameBut X.env.locals s.heap h') : Inv X pins (List.replicate X.N.length none) H { s with heap := h', toks := t' } := by
 have ne0 : ∀ b o, X.s₀.heap.get? b = some o -> b ≠ X.env.locals := fun b o e => Nat.ne_of_lt (Nat.lt_of_lt_of_le (Heap.lt_size e) I.ok.above)
 refine ⟨I.ok, I.os, I.bare, ⟨fun b o e n hb hx => (hs.2 b (ne0 b o e)).trans (I.base.keep b o e n hb hx), fun b o e n hb hx => ?_, I.base.free, fun b o e hx => ?_, I.base.tups, I.base.frzs, I.base.tbls⟩, ⟨m', hn, fun i x v e1 e2 e3 => ?_⟩, fun x c e => ?_, I.free, I.freeC, fun p hp => ?_, fun b ob e => ?_, by simp⟩
 . obtain ⟨sl, e1⟩ := I.base.slot b o e n hb hx
   exact ⟨sl, (hs.2 b (ne0 b o e)).trans e1⟩
 . obtain ⟨o', e1⟩ := I.base.there b o e hx
   exact ⟨o', (hs.2 b (ne0 b o e)).trans e1⟩
 . rw [List.getElem?_replicate] at e2
   split at e2 <;> cases e2
 . obtain ⟨v, z⟩ := I.cell x c e
   exact ⟨v, z.sameBut hs (I.cne x c e)⟩
 . obtain ⟨e, n, ne, nf, d⟩ := I.pin p hp
   exact ⟨(hs.2 p.1 ne).trans e, n, ne, nf, d⟩
 . refine (I.hok b ob e).stay (fun c w' hc q => (hs.2 c ?_).trans q) (fun _ q => q) fun _ _ q => q
   intro z; have hL := I.free; rcases hc with r | r
   . rw [<- z, r, e] at hL; cases hL
   . rw [<- z, r] at hL; cases hL
noncomputable def clsV : V -> Option Value
 | .ref C => some (.ref C)
 | .ty T => some (.type T)
 | _ => none
noncomputable def gG (K : PySem.W.Frag) (a D : Addr) : List V -> Hp -> VK -> Prop := fun vs H Q => ∃ c cv b, vs = [.ref a, c] /\ clsV c = some cv /\ H a = some (.ext (ExcAt' a D)) /\ PySem.W.kitOne K (.ref D) cv = some b /\ Q (.bl b) H
theorem Pv {D : Addr} (C : XCls X.K D) : R0 X (.builtin "isinstance") (gG X.K a D) := by
 intro pins s Z H xs us Q I r ⟨c, cv, b, e0, ec, hH, hk, q⟩
 subst e0
 cases r with
 | cons r0 rr =>
   cases rr with
   | cons r1 rr =>
     cases rr; obtain ⟨rfl⟩ := (show _ = Value.ref a from r0)
     rename_i u2
     have e2 : u2 = cv := by
       cases c with
       | ref q => cases ec; exact (show _ = Value.ref q from r1)
       | ty q => cases ec; exact (show _ = Value.type q from r1)
       | _ => cases ec
     subst e2; obtain ⟨φ, _, _⟩ := (show ObjOk X.prog X.w H s.heap a (.ext (ExcAt' a D)) from I.hok a _ hH)
     exact PySem.W.kia_one (Zu C) I.kIn φ hk (fun z => nomatch z) fun tk => ⟨.bl b, H, I.tok tk, rfl, q⟩
theorem Pj {P : Program} {w : World} {fs : List Addr} {H0 H' : Hp} {h0 h : Heap} {a CN : Addr} (F : Flown P w fs H0 h0 H' h a (.ref CN)) : Un fs [] H0 (upd H' a (.ext (ExcAt' a CN))) h0 h /\ HOk P w (upd H' a (.ext (ExcAt' a CN))) h := by
 obtain ⟨oe, vs, a0, T, oT, ts, e1, e2, e3, e4, e5, e6, _⟩ := F.fly
 have nt : ∀ b o, H' b = some o -> b ≠ a := fun b o e z => by rw [z, e6] at e; cases e
 refine ⟨⟨F.un.keep, F.un.slot, fun b o e n hx => ?_, F.un.there, fun b xs q => ?_, fun b o u q => ?_, fun b ps q => ?_⟩, fun b u q => ?_⟩
 . have : b ≠ a := fun z => by rw [z, e5] at e; cases e
   rw [A8 this]; exact F.un.free b o e n hx
 . have := F.un.tups b xs q
   rw [A8 (nt _ _ this)]; exact this
 . have := F.un.frzs b o u q
   rw [A8 (nt _ _ this)]; exact this
 . obtain ⟨more, this⟩ := F.un.tbls b ps q
   exact ⟨more, by rw [A8 (nt _ _ this)]; exact this⟩
 . by_cases hb : b = a
   . subst hb
     rw [B3] at q; cases q; refine ⟨⟨oe, e1, e2⟩, ⟨oe, e1⟩, fun h1 h2 ⟨o, z1, z2⟩ k => ⟨o, k o z1, z2⟩⟩
   . rw [A8 hb] at q
     exact (F.hok b u q).stay (fun _ _ _ z => z) (fun c z => by rw [A8 (nt _ _ z)]; exact z) fun c xs z => by rw [A8 (nt _ _ z)]; exact z
end
section
variable {N : List Str} {sc : Scope}
theorem okVar.at {i : Nat} {x : Str} (h : okVar N sc i x = true) : N[i]? = some x /\ Vis sc x /\ (x == ("__debug__" : Str)) = false /\ (x == ("__classdict__" : Str)) = false := by
 unfold okVar at h
 simp only [Bool.and_eq_true, Bool.not_eq_true'] at h
 obtain ⟨⟨⟨h1, h2⟩, h3⟩, h4⟩ := h
 refine ⟨eq_of_beq h1, ?_, h3, h4⟩
 unfold Vis
 cases q : sc.names.lookup x with
 | none => rw [q] at h2; cases h2
 | some z =>
   rw [q] at h2
   cases z with
   | «local» => exact .inl rfl
   | cell => exact .inr (.inl rfl)
   | free => exact .inr (.inr rfl)
   | _ => cases h2
end
end Sm
end
section
namespace Sm
open PySem PySem.Spec PyProof.Rows L2
theorem Inv.fzD {X : Cx} {pins : List (Addr × Obj)} {Z : St} {H : Hp} {s : Shared} {d : Addr} {kk : List (List Key × V)} (I : Inv X pins Z H s) (hd : H d = some (.dT kk)) : ∃ o, Inv X pins Z (upd H d (.frz o (.dT kk))) s := by
 obtain ⟨z, hs, xs, rel, o, es, ep, e1, hex, hdat, hes, hnd⟩ := I.hok d _ hd
 refine ⟨o, ?_⟩
 have I2 : Inv X pins Z (upd H d (.frz o (.dT kk))) { s with heap := s.heap } := by
   refine I.write (t' := s.toks) (x := d) (e := d) (by rw [hd]; exact True.intro) (.inl rfl) (fun b u _ q => q) ⟨o, e1⟩ ?_
   refine ⟨e1, z, hs, xs, Paired.mapP rel fun p y r => ⟨r.1, ?_, r.2.2⟩, o, es, ep, e1, hex, hdat, hes, hnd⟩
   have : y.2.1 ≠ d := Bv r.2.1 hd (fun z => by cases z)
   rw [A8 this]; exact r.2.1
 exact I2
noncomputable def fzD (i : Nat) (δ : Dn) : Dn := match δ[i]? with
 | some (.ow (.dict kvs)) => δ.set i (.fd kvs)
 | _ => δ
theorem SSt.fzD {G0 H0 G H : Hp} {Z : St} {δ : Dn} (S : SSt G0 H0 G H Z δ) {i : Nat} {kvs : List (PyData × PyData)} {p : Addr} {kk : List (List Key × V)} (hi : δ[i]? = some (.ow (.dict kvs))) (hp : Z[i]?.join = some (.ref p)) (hg : G p = none) (hx : H p = some (.dT kk))
   (hk : kvs.map (·.1) = kk.map (fun p => PyData.tuple (p.1.map M4))) (r : RepL G (kvs.map (·.2)) (kk.map (·.2))) (o : Obj) : SSt G0 H0 (upd G p (.frz o (.dT kk))) (upd H p (.frz o (.dT kk))) Z (δ.set i (.fd kvs)) := by
 have h0 := S.fr i _ p hi hp
 have sm : Same G (upd G p (.frz o (.dT kk))) := Same.upd hg
 have gh : Same (upd G p (.frz o (.dT kk))) (upd H p (.frz o (.dT kk))) := fun b u e => by
   by_cases hb : b = p
   . subst hb; rw [B3] at e ⊢; exact e
   . rw [A8 hb] at e ⊢; exact S.sr.sub _ _ e
 have gr : Grow G0 H0 (upd G p (.frz o (.dT kk))) (upd H p (.frz o (.dT kk))) := ⟨S.gr.g.trans sm, fun b u e => by rw [A8 (B5 e h0)]; exact S.gr.h _ _ e, gh, fun b u e => by
   by_cases hb : b = p
   . subst hb; exact .inr (.inl h0)
   . rw [A8 hb] at e; exact S.gr.fr b u e⟩
 have hil : i < δ.length := (List.getElem?_eq_some_iff.mp hi).1
 have key : ∀ (j : Nat) (d' : PyData), (δ.set i (.fd kvs))[j]? = some (.ow d') -> δ[j]? = some (.ow d') /\ j ≠ i := fun j d' e => by
   rw [P9] at e
   split at e
   . cases e
   . rename_i hn
     exact ⟨e, fun z => by subst z; exact hn ⟨rfl, hil⟩⟩
 refine ⟨gr, ⟨gh, by simp [S.sr.len], fun j s e => ?_, fun j1 j2 a d1 d2 e1 e2 h1 h2 => S.sr.ap j1 j2 a d1 d2 (key j1 d1 e1).1 (key j2 d2 e2).1 h1 h2⟩, fun j d' a e h => S.fr j d' a (key j d' e).1 h⟩
 by_cases hj : i = j /\ i < δ.length
 . rw [P9, if_pos hj] at e
   cases e; rw [<- hj.1]; exact ⟨p, o, kk, hp, B3, hk, r.mono sm⟩
 . have e2 := e
   rw [P9, if_neg hj] at e2; have hs := S.sr.sl j s e2
   cases s with
   | un => trivial
   | sh d => obtain ⟨v, e1, r1⟩ := hs; exact ⟨v, e1, r1.mono sm⟩
   | fd _ => exact FdOk.mono sm hs
   | ow d2 =>
     obtain ⟨a, e1, n1, ok⟩ := hs; have hne : a ≠ p := by
       rintro rfl
       exact (key j d2 e).2 (S.sr.ap j i a d2 _ e2 hi e1 hp)
     refine ⟨a, e1, by rw [A8 hne]; exact n1, ?_⟩
     cases d2 with
     | list ds => obtain ⟨xs, q, r⟩ := ok; exact ⟨xs, by rw [A8 hne]; exact q, r.mono sm⟩
     | dict kvs => obtain ⟨xs, q, k, r⟩ := ok; exact ⟨xs, by rw [A8 hne]; exact q, k, r.mono sm⟩
     | tuple xs => exact OwnK.keep sm (fun o q => by rw [A8 hne]; exact q) ok
     | _ => exact (show False from ok).elim
theorem SR.fdn {G H : Hp} {Z : St} {δ : Dn} (S : SR G H Z δ) {i : Nat} {kvs : List (PyData × PyData)} (hi : δ[i]? = some (.fd kvs)) : ∃ q o, ∃ kv : List (List Key × V), Z[i]? = some (some (.ref q)) /\ G q = some (.frz o (.dT kv)) /\ kvs.map (·.1) = kv.map (fun p => PyData.tuple (p.1.map M4)) /\ RepL G (kvs.map (·.2)) (kv.map (·.2)) := by
 obtain ⟨q, o, kv, hp, h⟩ := S.sl i _ hi
 refine ⟨q, o, kv, ?_, h⟩
 cases e : Z[i]? with
 | none => rw [e] at hp; cases hp
 | some z => rw [e] at hp; cases z with
   | none => cases hp
   | some z => cases hp; rfl
section
variable {P : Program} {w : World} {K : PySem.W.Frag} {mg : Str -> Option Value} {base : Heap} {X : Cx} {N : List Str} {sc : Scope} {k : Nat} {df : Bool} {E : EK} {pos p : Pos} {tg a : Expr} {f : Dn -> Res PyData} {x : Str} {st : Stmt} {g1 : Dn -> Out}
noncomputable def fY (i : Nat) (g : Dn -> Out) : Dn -> Out := fun δ => g (fzD i δ)
theorem s_fzD (i : Nat) (h : DS X E st g1) : DS X E st (fY i g1) := fun G0 H0 pins s Z H D I ⟨G, δ, S, a⟩ => by
 unfold fY Sm.fzD at a
 split at a
 . rename_i kvs hi
   obtain ⟨p, hp, hg, kk, hx, hk, r⟩ := S.sr.sl i _ hi; obtain ⟨o, I2⟩ := Sm.Inv.fzD I hx; exact h G0 H0 pins s Z _ D I2 ⟨_, _, S.fzD hi hp hg hx hk r o, a⟩
 . exact h G0 H0 pins s Z H D I ⟨G, δ, S, a⟩
noncomputable def Cv (i : Nat) (f : Dn -> Res PyData) : Dn -> Res PyData := fun δ => match δ[i]? with
 | some (.fd kvs) => (f δ).bind fun kd => match P0 kd with
   | some kk => ofO (M2 kvs kk)
   | none => .no
 | _ => .no
theorem aO (C : Cxt P w K mg base X N sc k df) (i : Nat) (h : okVar N sc i x = true) (hk : DE X E a f) (hs : Rx a := by exact fun _ _ => rfl) : DE X E (.Subscript (.Name x p) a pos) (Cv i f) := by
 refine PE.imp (Dg C.hu1 (okVar.pe C h) hk hs) fun Z H Q ⟨G, δ, S, aft⟩ => ?_
 unfold Cv at aft
 split at aft
 . rename_i kvs hi
   obtain ⟨q, o, kv, hσ, hx, hkeys, hvals⟩ := S.fdn hi; refine ⟨.ref q, hσ, ?_⟩; refine P3 S aft fun kd v G1 H1 g1 r1 S1 a1 => ?_
   cases kd with
   | tuple ds =>
     cases ek : O4 ds with
     | none => simp only [P0, ek] at a1; exact a1.elim
     | some kk =>
       simp only [P0, ek] at a1; obtain ⟨pk, xs, rfl, hpk, lk⟩ := r1; obtain ⟨e1, e2⟩ := N8 lk ek; subst e1; rcases X1 (kk := kk) hkeys hvals with ⟨n1, n2⟩ | ⟨d0, v0, n1, n2, rd⟩
       . rw [n1] at a1; exact a1.elim
       . rw [n1] at a1
         exact ⟨q, v0, rfl, .inr ⟨kv, kk, pk, .inr ⟨o, S1.sub _ _ (g1.g _ _ hx)⟩, rfl, S1.sub _ _ hpk, n2.symm⟩, a1 _ G1 H1 (Grow.refl S1.sub) (rd.mono g1.g)⟩
   | _ => exact (show False from a1).elim
 . exact aft.elim
noncomputable def Fa (kvs : List (PyData × PyData)) : Bool := kvs.all fun q => match q.1 with | .tuple ds => O9 ds | _ => false
noncomputable def Pe (i : Nat) : Dn -> Res (List PyData) := fun δ => match δ[i]? with
 | some (.fd kvs) => if Fa kvs = true then .ok (kvs.map (·.1)) else .no
 | _ => .no
theorem Uj {G : Hp} {d : Addr} {o : Obj} {kk : List (List Key × V)} {kvs : List (PyData × PyData)} (h : G d = some (.frz o (.dT kk))) (hk : kvs.map (·.1) = kk.map (fun p => PyData.tuple (p.1.map M4))) (ha : Fa kvs = true) : Walk (ItK d o kk) G (kvs.map (·.1)) where
 go := fun i H hi hG => ⟨hG _ _ h, by rw [hk, List.length_map] at hi; exact hi⟩
 yld := fun i e G2 H x H' he h1 h2 hy => by
   obtain ⟨rfl, b, q, q1, rfl, q3⟩ := hy; have hek : e = PyData.tuple (q.1.map M4) := by
     rw [hk, List.getElem?_map, q1] at he
     simpa using he.symm
   subst hek; have hat : O9 (q.1.map M4) = true := by
     rw [List.getElem?_map] at he
     cases ez : kvs[i]? with
     | none => rw [ez] at he; cases he
     | some z =>
       rw [ez] at he; have hz : z.1 = PyData.tuple (q.1.map M4) := by simpa using he
       have := List.all_eq_true.mp ha z (List.mem_of_getElem? ez); rw [hz] at this; exact this
   have rep : ∀ G3 : Hp, RepL G3 (q.1.map M4) (q.1.map kV) := fun G3 => Ad (show O4 (q.1.map M4) = some q.1 from T0 q.1) hat
   cases eb : G2 b with
   | some u =>
     have := h2 _ _ eb; rw [q3] at this; cases this; exact ⟨G2, Grow.refl h2, b, _, rfl, eb, rep _⟩
   | none =>
     refine ⟨upd G2 b (.tup (q.1.map kV)), ⟨Same.upd eb, Same.refl _, fun c u e => ?_, fun c u e => ?_⟩, b, _, rfl, B3, rep _⟩
     . by_cases hc : c = b
       . subst hc; rw [B3] at e; cases e; exact q3
       . rw [A8 hc] at e; exact h2 _ _ e
     . by_cases hc : c = b
       . subst hc; rw [B3] at e; cases e; exact .inr (.inr ⟨_, rfl⟩)
       . rw [A8 hc] at e; exact .inl e
 stop := fun i H hi hG => ⟨hG _ _ h, by rw [hk, List.length_map] at hi; exact hi⟩
theorem iN (C : Cxt P w K mg base X N sc k df) (i : Nat) (h : okVar N sc i x = true) : DI X E tg (.Name x p) (Pe i) := by
 intro pins s Z H R I ⟨G, δ, S, aft⟩
 unfold Pe at aft
 split at aft
 . rename_i kvs hi
   split at aft
   . rename_i hka
     obtain ⟨d, o, kk, hσ, hx, hkeys, hvals⟩ := S.fdn hi; have hd : H d = some (.frz o (.dT kk)) := S.sub _ _ hx; refine thn ((okVar.pe C h (p := p)) pins s Z H (fun v H1 => v = .ref d /\ H1 = H) I ⟨.ref d, hσ, rfl, rfl⟩) fun v s1 ⟨y, H1, I1, rx, e1, e2⟩ => ?_
     subst e1 e2
     cases (show v = Value.ref d from rx)
     obtain ⟨e1, z, hs, xs, rel, o', es, ep, e2, hex, hdat, hes, hnd⟩ := I1.hok d _ hd; rw [e1] at e2; cases e2; refine Iz hs ⟨o, e1, hex.1⟩ e1 hdat ?_; have I3 : Inv X pins Z H1 { s1 with heap := s1.heap.push { cls := .type "dict_keyiterator", data := .fields #[.ref d, .int 0 0, .int es.size 0, .int ep 0] } } := I1.kept (t' := s1.toks) fun b o e => Heap.get?_push_of_some _ e
     refine ⟨s1.heap.objs.size, [s1.heap.objs.size], _, _, _, rfl, I3, Oh d _ o kk es ep hdat, ⟨_, Heap.get?_push_size _ rfl, rfl, rfl⟩, fun b hb => ?_, aft _ G H1 (Grow.refl S.sub) (Uj hx hkeys hka)⟩
     have e : b = s1.heap.objs.size := by simpa using hb
     subst e; exact I1.fpOk (Nat.le_refl _) (I1.hok.fresh (Nat.le_refl _))
   . exact aft.elim
 . exact aft.elim
end
end Sm
end
section
namespace Sm
open PySem PySem.Spec PyProof.Rows L2
section
variable {P : Program} {w : World} {K : PySem.W.Frag} {mg : Str -> Option Value} {base : Heap} {X : Cx} {N : List Str} {sc : Scope} {k : Nat} {df : Bool} {E : EK} {pos p : Pos} {e : Expr} {es : List Expr} {fs : Dn -> Res (List PyData)}
noncomputable def noXK (r : Res Kvs) : Res Kvs := match r with
 | .ok d => .ok d
 | _ => .no
noncomputable def Qf (fs : Dn -> Res (List PyData)) (m : List PyData -> Res Kvs) : Dn -> Res Kvs := fun δ => (fs δ).bind fun ds => noXK (m ds)
theorem bD {x : Str} {j n : Nat} {m : List PyData -> Res Kvs} (C : Cxt P w K mg base X N sc k df) (F : FnW P w K mg base x j n m) (hj : j <= k) (h : okGl sc x = true) (ha : DA X E (e :: es) n fs)
   (he : starEach (e :: es) X.env = (false, eval e X.env) :: starEach es X.env := by rfl) (hpl : (backTo pos (starEach es X.env)).any (·.1) = false := by rfl) : DX X E (.Call (.Name x p) (e :: es) [] pos) (Qf fs m) := by
 obtain ⟨f, fd, ps, hps, F, hm, hk, hb⟩ := F.ex
 obtain ⟨h1, h2, h3⟩ := okGl.gl C h
 have F' : FnOk X.prog X.w X.K X.mg X.base CX0 j f fd ps (spW n m) := by rw [C.hP, C.hw, C.hK, C.hmg, C.hb]; exact F
 refine PE.imp (Dh F' (C.room.mono hj) h1 (by rw [C.hmg]; exact hm) (by rw [C.hK]; exact hk) (by rw [C.hK]; exact hb) .nil (Ss (X := X)) ha.pa h2 he hpl) fun Z H Q ⟨G, δ, S, aft⟩ => ?_
 have gw : ∀ {G H G' H' : Hp} {r : Res Kvs}, Grow G H G' H' -> Qd E G H r Q -> Qd E G' H' r Q := fun {G H G' H' r} g a => by
   cases r with
   | ok kvs => exact fun p G2 H2 g2 hp hp' ho => a p G2 H2 (g.trans g2) (g.h.free hp) hp' ho
   | exc c => exact fun G2 H2 g2 => a G2 H2 (g.trans g2)
   | no => exact a
 refine P4 (W := fun G H r => Qd E G H r Q) S aft (fun g a => gw g a) (fun c a => a) (fun a => a) fun ds vs G1 H1 e g1 r1 S1 a1 => ?_
 rw [List.append_nil]
 cases q : m ds with
 | ok d => rw [q] at a1; exact ⟨G1, ds, d, S1.sub, r1, ha.len δ ds e, q, a1⟩
 | exc c => rw [q] at a1; exact (show False from a1).elim
 | no => rw [q] at a1; exact (show False from a1).elim
end
end Sm
end
section
namespace Sm
open PySem PySem.Spec PyProof.Rows PySem.W L2
section
variable {prog : Program} {w : World} {A : Around} {E : Value -> Shared -> Prop} {s : Shared}
theorem Qh (hh : A.handled = none) (I d : Addr) (hne : d ≠ I) (od : Obj) (es : Array DictEntry) (ep : Nat) (hdd : od.data = .dict es ep) :
   Walks prog w A I [I, d] [I] es.size (fun i v => ∃ e, es[i]? = some e /\ v = e.key) (fun i h => h.IsKeyIter I d i es.size ep /\ h.get? d = some od) where
 sub := fun b hb => by simp at hb; simp [hb]
 frame := fun _ _ _ st hk => ⟨st.1.at fun o e => hk I (by simp) o e, hk d (by simp) _ st.2⟩
 item := fun i s Q E hi st hQ => by
   refine Ox st.1 st.2 hdd hi fun h' n hs => ?_
   exact hQ _ h' s.toks ⟨es[i], by simp [hi], rfl⟩ ⟨n, hs.extBut d _ hne st.2⟩ fun b o hb e => hs.extBut b o (fun z => hb (by simp [z])) e
 done := fun s Q E st hQ => Tk hh (Nat.le_refl _) st.1 st.2 hdd fun h' he => hQ h' s.toks fun b o hb e => he b o (fun z => hb (by simp [z])) e
 self := fun _ _ _ _ st hQ => wpAny_pyIter_keyiter st.1 hQ
theorem Ux {d : Addr} {od : Obj} {es : Array DictEntry} {ep : Nat} (lo : (d == sysModules) = false) (hcl : od.cls = .type "dict") (hdd : od.data = .dict es ep) :
   KdlSrc prog w "dict" d d es.size (fun i v => ∃ e, es[i]? = some e /\ v = e.key) (fun h => h.get? d = some od) where
 type := fun _ hm => ⟨od, hm, hcl⟩
 there := fun _ hm => ⟨Heap.lt_size hm, Heap.lt_size hm⟩
 keep := fun _ _ hm hk => hk d (.inr rfl) _ hm
 notList := by decide
 notTuple := by decide
 hint := fun _ _ _ _ hm hq => kdl_hint_dict ⟨od, hm, hcl⟩ hq
 iter := fun _ _ hh hm => ⟨_, _, (fun _ _ hq => Iz lo ⟨od, hm, hcl⟩ hm hdd hq), Qh hh _ d (Nat.ne_of_lt (Heap.lt_size hm)) od es ep hdd, ⟨⟨_, Heap.get?_push_size _ rfl, rfl, rfl⟩, Heap.get?_push_of_some _ hm⟩⟩
theorem Vc {ps : List (Int × Str)} {p : Array Nat} (g : Gd ps.length p) (hnd : (ps.map rk3).Nodup) (u : ∀ (i j : Nat) x y, i < j -> j < ps.length -> ps[p.getD i 0]? = some x -> ps[p.getD j 0]? = some y -> rk3 x < rk3 y) : p.toList.map (fun i => ps.getD i (0, "a")) = Ay ps := by
 refine Cw ?_ ?_ (Ax ps hnd)
 . refine List.Perm.trans ?_ (P8 ps).symm
   have e5 : (List.range ps.length).map (fun i => ps.getD i (0, "a")) = ps := by
     apply List.ext_getElem
     . simp
     . intro i h1 h2
       simp [List.getD, h2]
   have := g.perm.map (fun i => ps.getD i (0, "a"))
   rw [e5] at this; exact this
 . rw [List.pairwise_iff_getElem]
   intro i j h1 h2 hij; simp only [List.length_map, Array.length_toList, g.size] at h1 h2; simp only [List.getElem_map, Array.getElem_toList]; have a1 : p.getD i 0 = p[i]'(by rw [g.size]; exact h1) := by simp [Array.getD, g.size, h1]
   have a2 : p.getD j 0 = p[j]'(by rw [g.size]; exact h2) := by simp [Array.getD, g.size, h2]
   have b1 := g.lt h1; have b2 := g.lt h2; have := u i j _ _ hij h2 (List.getElem?_eq_getElem b1) (List.getElem?_eq_getElem b2); rw [<- a1, <- a2]; simp only [List.getD, List.getElem?_eq_getElem b1, List.getElem?_eq_getElem b2, Option.getD_some]; exact this
theorem Xs {d : Addr} {od : Obj} {es : Array DictEntry} {ep : Nat} {ps : List (Int × Str)} {Q : Value -> Shared -> Prop} (lo : (d == sysModules) = false) (hcl : od.cls = .type "dict") (hdd : od.data = .dict es ep) (hh : A.handled = none) (hd : s.heap.get? d = some od)
   (hv : ∀ (i : Nat) e, es[i]? = some e -> ∃ p, ps[i]? = some p /\ Ry s.heap e.key p /\ okL p.2 = true) (hpl : ps.length = es.size) (h64 : es.size < 64)
   (hnd : ∀ (i j : Nat) p q, ps[i]? = some p -> ps[j]? = some q -> rk3 p = rk3 q -> i = j)
   (h : ∀ (h1 : Heap) tk (q : Array Nat), (∀ b o, s.heap.get? b = some o -> h1.get? b = some o) -> Gd ps.length q -> (∀ (i j : Nat) x y, i < j -> j < ps.length -> ps[q.getD i 0]? = some x -> ps[q.getD j 0]? = some y -> rk3 x < rk3 y) ->
     Q (.ref h1.objs.size) { s with heap := sortedHeap (h1.push (seqObj "list" (es.toList.map (·.key)).toArray 0)) h1.objs.size (es.toList.map (·.key)) (List.toArray (q.toList.map fun i => (es.toList.map (·.key)).getD i Value.none)), toks := tk }) :
   wpAny (model prog w) A (call (.builtin "sorted") [.ref d]) Q E s := by
 refine Calls.call_function_entry kind_sorted plain_sorted entry_sorted (args_sorted1 _) (wpAny_bind (m := checkCount "sorted" 1 1 _) (wpAny_pure (wpAny_bind (Oa (Ux lo hcl hdd) hh hd (by rw [sizeLine_eq]; omega) fun h1 tk acc hk hacc => ?_))))
 have hacc2 : acc.toList = es.toList.map (·.key) := by
   apply List.ext_getElem?
   intro j
   by_cases hj : j < es.size
   . have hja : j < acc.size := by rw [hacc.1]; exact hj
     obtain ⟨e, e1, e2⟩ := hacc.2 j acc[j] (by simp [hja])
     rw [List.getElem?_map, Array.getElem?_toList, Array.getElem?_toList, e1, Array.getElem?_eq_getElem hja, e2]; rfl
   . rw [List.getElem?_eq_none (by simpa [hacc.1] using Nat.not_lt.mp hj), List.getElem?_eq_none (by simpa using Nat.not_lt.mp hj)]
 rw [hacc2]
 generalize hvs : es.toList.map (·.key) = vs at *
 have hvl : vs.length = es.size := by rw [<- hvs]; simp
 refine wpAny_bind (wpAny_newList ?_ (by rw [sizeLine_eq]; omega))
 have hoL : (h1.push (seqObj "list" vs.toArray 0)).get? h1.objs.size = some (seqObj "list" vs.toArray 0) := Heap.get?_push_size _ rfl
 show wpAny _ _ _ _ _ { s with heap := h1.push (seqObj "list" vs.toArray 0), toks := tk }
 refine wpAny_bind (wpAny_holding (wpAny_call_entry slot_list_sort ⟨_, hoL, rfl⟩ entry_list_sort (Se (ps := ps) hoL (fun i v e => ?_) (by omega) (by omega) hnd fun q g u => ⟨_, rfl, wpAny_pure ⟨_, rfl, h h1 tk q hk (by rw [hpl, <- hvl]; exact g) (by rw [hpl, <- hvl]; exact u)⟩⟩) (args_list_sort _)))
 have hi : i < es.size := by rw [<- hvl]; exact (List.getElem?_eq_some_iff.mp e).1
 obtain ⟨p, e1, ⟨b, o, t, u, m, q1, hb, hc, hd'⟩, k⟩ := hv i es[i] (by simp [hi])
 have hve : v = es[i].key := by
   rw [<- hvs, List.getElem?_map, Array.getElem?_toList, Array.getElem?_eq_getElem hi] at e
   simpa using e.symm
 exact ⟨p, e1, ⟨b, o, t, u, m, by rw [hve]; exact q1, Heap.get?_push_of_some _ (hk _ _ hb), hc, hd'⟩, k⟩
end
noncomputable def keyP (p : Int × Str) : List Key := [.inl p.1, .inr p.2]
section
variable {X : Cx}
def gE (xs : List V) (H : Hp) (Q : VK) : Prop := ∃ d o, ∃ kk : List (List Key × V), ∃ ps : List (Int × Str), xs = [.ref d] /\ H d = some (.frz o (.dT kk)) /\ kk.map (·.1) = ps.map keyP /\ (∀ p ∈ ps, okL p.2 = true) /\ ps.length < 64 /\ (ps.map rk3).Nodup /\
 ∀ l (bs : List Addr), H l = none -> bs.length = (Ay ps).length -> (∀ (j : Nat) b p, bs[j]? = some b -> (Ay ps)[j]? = some p -> H b = some (.tup [.int p.1, .str p.2])) -> Q (.ref l) (upd H l (.lst (bs.map .ref)))
theorem Rn (hh : X.A.handled = none) : R0 X (.builtin "sorted") gE := by
 intro pins s Z H xs us Q I r ⟨d, o, kk, ps, hx, hd, hkk, hok, h64, hnd, q⟩
 subst hx
 obtain ⟨u, rfl, ru⟩ := Vals.one r
 cases (show u = Value.ref d from ru)
 obtain ⟨e1, z, hs, xs, rel, o', es, ep, e2, hex, hdat, hes, hnd2⟩ := I.hok d _ hd
 rw [e1] at e2; cases e2
 obtain ⟨_, hsz, hkey⟩ := Ni I hd hdat
 have hpl : ps.length = es.size := by
   have := congrArg List.length hkk; rw [List.length_map, List.length_map] at this; omega
 have hnd' : ∀ (i j : Nat) p q, ps[i]? = some p -> ps[j]? = some q -> rk3 p = rk3 q -> i = j := fun i j p q e1 e2 e3 => by
   have hi := (List.getElem?_eq_some_iff.mp e1).1; have hj := (List.getElem?_eq_some_iff.mp e2).1; have a1 := (List.getElem?_eq_some_iff.mp e1).2; have a2 := (List.getElem?_eq_some_iff.mp e2).2; refine (List.getElem_inj (xs := ps.map rk3) (h₀ := by simpa using hi) (h₁ := by simpa using hj) hnd).mp ?_
   rw [List.getElem_map, List.getElem_map, a1, a2, e3]
 have kb : ∀ (i : Nat) (hi : i < es.size), ∃ b p, ps[i]? = some p /\ es[i].key = .ref b /\ H b = some (.tup [.int p.1, .str p.2]) := fun i hi => by
   obtain ⟨b, qk, q1, q2, q3⟩ := hkey i hi; have : (kk.map (·.1))[i]? = some qk.1 := by rw [List.getElem?_map, q1]; rfl
   rw [hkk, List.getElem?_map, List.getElem?_eq_getElem (by omega)] at this; simp only [Option.map_some, Option.some.injEq] at this; refine ⟨b, ps[i]'(by omega), List.getElem?_eq_getElem (by omega), q2, ?_⟩
   rw [<- this] at q3; exact q3
 refine Xs (ps := ps) hs hex.1 hdat hh e1 (fun i e he => ?_) hpl (by omega) hnd' fun h1 tk p hk g u => ?_
 . have hi : i < es.size := by
     rcases Nat.lt_or_ge i es.size with z | z
     . exact z
     . rw [Array.getElem?_eq_none z] at he; cases he
   rw [Array.getElem?_eq_getElem hi] at he; cases he; obtain ⟨b, p, p1, p2, p3⟩ := kb i hi; refine ⟨p, p1, ?_, hok p (List.mem_of_getElem? p1)⟩; obtain ⟨z2, its2, rv2, o2, e4, c, m, hdd⟩ := Y8 I (Same.refl _) p3; obtain ⟨u1, u2, hu, r1, r2⟩ := Vals.two rv2; obtain ⟨t1, rfl⟩ := r1; obtain ⟨t2, rfl⟩ := r2; subst hu; exact ⟨b, o2, t1, t2, m, p2, e4, c, hdd⟩
 . have hsrt := Vc g hnd u
   have hq : ∀ i ∈ p.toList, i < ps.length := fun i hi => List.mem_range.mp (g.perm.mem_iff.mp hi)
   let bOf : Nat -> Addr := fun i => match (es[i]?.map (·.key)).getD Value.none with | .ref b => b | _ => 0
   have hb : ∀ i (hi : i < es.size), ∃ pp, ps[i]? = some pp /\ es[i].key = .ref (bOf i) /\ H (bOf i) = some (.tup [.int pp.1, .str pp.2]) := fun i hi => by
     obtain ⟨b, pp, p1, p2, p3⟩ := kb i hi; have : bOf i = b := by
       show (match (es[i]?.map (·.key)).getD Value.none with | .ref b => b | _ => 0) = b
       rw [Array.getElem?_eq_getElem hi, Option.map_some, Option.getD_some, p2]
     rw [this]; exact ⟨pp, p1, p2, p3⟩
   have I1 : Inv X pins Z H { s with heap := h1, toks := tk } := I.kept (t' := tk) hk; have ho1 : (h1.push (seqObj "list" (es.toList.map (·.key)).toArray 0)).get? h1.objs.size = some (seqObj "list" (es.toList.map (·.key)).toArray 0) := Heap.get?_push_size _ rfl; obtain ⟨ee, hat⟩ := sortedHeap_at (out := List.toArray (p.toList.map fun i => (es.toList.map (·.key)).getD i Value.none)) ho1
   have hfr : H h1.objs.size = none := I1.hok.fresh (Nat.le_refl _); have J : Inv X pins Z (upd H h1.objs.size (.lst ((p.toList.map bOf).map .ref))) { s with heap := sortedHeap (h1.push (seqObj "list" (es.toList.map (·.key)).toArray 0)) h1.objs.size (es.toList.map (·.key)) (List.toArray (p.toList.map fun i => (es.toList.map (·.key)).getD i Value.none)), toks := tk } := by
     refine I1.laid (t' := tk) (fun b o e => ?_) (Nat.le_refl _) ⟨?_, p.toList.map (fun i => (es.toList.map (·.key)).getD i Value.none), ee, ?_, hat⟩
     . have hlt : b < h1.objs.size := Heap.lt_size e
       rw [sortedHeap_old (Nat.ne_of_lt hlt) (by rw [size_push']; exact Nat.lt_succ_of_lt hlt)]
       exact Heap.get?_push_of_some _ e
     . rw [List.length_map, List.length_map, Array.length_toList, g.size, sizeLine_eq]; omega
     . have : ∀ l : List Nat, (∀ i ∈ l, i < ps.length) -> Vals ((l.map bOf).map V.ref) (l.map fun i => (es.toList.map (·.key)).getD i Value.none) := fun l => by
         induction l with
         | nil => exact fun _ => .nil
         | cons i l ih =>
           intro hl; refine .cons ?_ (ih fun j hj => hl j (.tail _ hj))
           have hi : i < es.size := by have := hl i (.head _); omega
           obtain ⟨pp, _, p2, _⟩ := hb i hi; show (es.toList.map (·.key)).getD i Value.none = Value.ref (bOf i)
           rw [<- p2, List.getD_eq_getElem?_getD, List.getElem?_map, Array.getElem?_toList, Array.getElem?_eq_getElem hi]; rfl
       exact this p.toList hq
   refine ⟨.ref h1.objs.size, _, J, rfl, q _ (p.toList.map bOf) hfr ?_ fun j b pp e3 e4 => ?_⟩
   . rw [<- hsrt, List.length_map, List.length_map]
   . rw [List.getElem?_map] at e3
     rw [<- hsrt, List.getElem?_map] at e4
     cases ej : p.toList[j]? with
     | none => rw [ej] at e3; cases e3
     | some i =>
       rw [ej] at e3 e4; simp only [Option.map_some, Option.some.injEq] at e3 e4; have hi : i < es.size := by have := hq i (List.mem_of_getElem? ej); omega
       obtain ⟨p0, p1, p2, p3⟩ := hb i hi; rw [List.getD_eq_getElem?_getD, p1, Option.getD_some] at e4; rw [<- e3, <- e4]; exact p3
end
section
variable {P : Program} {w : World} {K : PySem.W.Frag} {mg : Str -> Option Value} {base : Heap} {X : Cx} {N : List Str} {sc : Scope} {k : Nat} {df : Bool} {E : EK} {pos p p1 : Pos} {x : Str}
theorem Li {G H : Hp} (hG : Same G H) : ∀ bs : List Addr, (∀ b ∈ bs, ∃ xs, H b = some (.tup xs)) -> ∃ G', Grow G H G' H /\ ∀ b ∈ bs, G' b = H b
 | [], _ => ⟨G, Grow.refl hG, fun _ h => nomatch h⟩
 | b :: bs, h => by
   obtain ⟨G1, g1, e1⟩ := Li hG bs fun c hc => h c (.tail _ hc)
   obtain ⟨xs, hx⟩ := h b (.head _)
   cases eb : G1 b with
   | some u =>
     refine ⟨G1, g1, fun c hc => ?_⟩
     rcases List.mem_cons.mp hc with rfl | hc
     . rw [eb]; exact (g1.gh _ _ eb).symm
     . exact e1 c hc
   | none =>
     have g2 : Grow G1 H (upd G1 b (.tup xs)) H := ⟨Same.upd eb, Same.refl _, fun c u e => by
       by_cases hc : c = b
       . subst hc; rw [B3] at e; cases e; exact hx
       . rw [A8 hc] at e; exact g1.gh _ _ e, fun c u e => by
       by_cases hc : c = b
       . subst hc; rw [B3] at e; cases e; exact .inr (.inr ⟨_, rfl⟩)
       . rw [A8 hc] at e; exact .inl e⟩
     refine ⟨_, g1.trans g2, fun c hc => ?_⟩
     by_cases hcb : c = b
     . subst hcb; rw [B3, hx]
     . rw [A8 hcb]
       rcases List.mem_cons.mp hc with rfl | hc
       . exact absurd rfl hcb
       . exact e1 c hc
noncomputable def Dw (i : Nat) : Dn -> Res PyData := fun δ => match δ[i]? with
 | some (.fd kvs) => match Cl (kvs.map (·.1)) with
   | some ps => if ps.length < 64 /\ (ps.map rk3).Nodup then .ok (.list ((Ay ps).map id3)) else .no
   | none => .no
 | _ => .no
theorem gB {G : Hp} {b : Addr} {q : Int × Str} (hb : G b = some (.tup [.int q.1, .str q.2])) (ho : okL q.2 = true) : Rep G (id3 q) (.ref b) := by
 refine ⟨b, _, rfl, hb, RepL.cons rfl (RepL.cons ⟨rfl, ?_, ?_⟩ rfl)⟩
 . rcases Mz ho with e | e | e <;> rw [e] <;> kernel_rfl
 . rcases Mz ho with e | e | e <;> rw [e] <;> decide +kernel
theorem Oq {G : Hp} : ∀ (bs : List Addr) (qs : List (Int × Str)), bs.length = qs.length -> (∀ (j : Nat) b q, bs[j]? = some b -> qs[j]? = some q -> G b = some (.tup [.int q.1, .str q.2])) -> (∀ q ∈ qs, okL q.2 = true) -> RepL G (qs.map id3) (bs.map .ref)
 | [], [], _, _, _ => rfl
 | [], _ :: _, h, _, _ => by simp at h
 | _ :: _, [], h, _, _ => by simp at h
 | b :: bs, q :: qs, h, hb, ho => RepL.cons (gB (hb 0 b q rfl rfl) (ho q (.head _))) (Oq bs qs (by simpa using h) (fun j b' q' e1 e2 => hb (j + 1) b' q' (by simpa using e1) (by simpa using e2)) fun q' hq => ho q' (.tail _ hq))
theorem dS (C : Cxt P w K mg base X N sc k df) (h : okGl sc "sorted" = true) (hm : mg "sorted" = none) (i : Nat) (hv : okVar N sc i x = true)
   (he : starEach [.Name x p1] X.env = (false, eval (.Name x p1) X.env) :: starEach [] X.env := by rfl) (hpl : (backTo pos (starEach [] X.env)).any (·.1) = false := by rfl) :
   DE X E (.Call (.Name "sorted" p) [.Name x p1] [] pos) (Dw i) := by
 obtain ⟨h1, h2, h3⟩ := okGl.gl C h
 intro pins s Z H Q I q
 refine (PE.imp (Bb (Rn (I.ok.hd C.calm)) h1 (by rw [C.hmg]; exact hm) (by decide +kernel) (F6 (okVar.pe C hv (p := p1)) M9 he) h3 h2 he hpl) fun Z H Q ⟨G, δ, S, aft⟩ => ?_) pins s Z H Q I q
 unfold Dw at aft
 split at aft
 . rename_i kvs hi
   split at aft
   . rename_i ps eps
     split at aft
     . rename_i hc
       obtain ⟨d, o, kk, hσ, hx, hkeys, hvals⟩ := S.fdn hi; obtain ⟨g1, g2⟩ := Ck eps; have hkk : kk.map (·.1) = ps.map keyP := by
         apply List.ext_getElem?
         intro j; rw [List.getElem?_map, List.getElem?_map]; have hl : kk.length = ps.length := by
           have := congrArg List.length hkeys; rw [List.length_map, List.length_map] at this; rw [g1, List.length_map, this]
         by_cases hj : j < kk.length
         . have e1 : (kvs.map (·.1))[j]? = some (PyData.tuple (kk[j].1.map M4)) := by rw [hkeys, List.getElem?_map, List.getElem?_eq_getElem hj]; rfl
           obtain ⟨pp, p1, p2, p3⟩ := g2 j _ e1; rw [p1, List.getElem?_eq_getElem hj]; simp only [Option.map_some, Option.some.injEq]; have : P0 (PyData.tuple (kk[j].1.map M4)) = P0 (id3 pp) := by rw [p2]
           rw [T0] at this; exact Option.some.inj this
         . rw [List.getElem?_eq_none (by omega), List.getElem?_eq_none (by omega)]; rfl
       have hok : ∀ q ∈ ps, okL q.2 = true := fun q hq => by
         obtain ⟨j, hj, rfl⟩ := List.getElem_of_mem hq; obtain ⟨pp, p1, p2, p3⟩ := g2 j _ (List.getElem?_eq_getElem (show j < (kvs.map (·.1)).length by omega))
         rw [List.getElem?_eq_getElem hj] at p1
         cases p1; exact p3
       refine ⟨.ref d, hσ, d, o, kk, ps, rfl, S.sub _ _ hx, hkk, hok, hc.1, hc.2, fun l bs hl hbl hb => ?_⟩
       have hbm : ∀ b ∈ bs, ∃ xs, H b = some (.tup xs) := fun b hb' => by
         obtain ⟨j, hj, rfl⟩ := List.getElem_of_mem hb'; exact ⟨_, hb j _ _ (List.getElem?_eq_getElem hj) (List.getElem?_eq_getElem (by omega))⟩
       obtain ⟨G1, gg, eg⟩ := Li S.sub bs hbm; have hG1 : G1 l = none := gg.gh.free hl; refine aft _ (upd G1 l (.lst (bs.map .ref))) _ (gg.trans (Grow.new gg.gh hl)) ⟨l, _, rfl, .inl B3, ?_⟩; refine (Oq (G := G1) bs (Ay ps) hbl (fun j b q e1 e2 => ?_) fun q hq => hok q ((P8 ps).mem_iff.mp hq)).mono (Same.upd hG1)
       rw [eg b (List.mem_of_getElem? e1)]; exact hb j b q e1 e2
     . exact aft.elim
   . exact aft.elim
 . exact aft.elim
end
end Sm
end
section
namespace Sm
open PySem PySem.Spec PyProof.Rows PySem.W L2
section
variable {prog : Program} {w : World} {A : Around} {E : Value -> Shared -> Prop} {s : Shared}
structure Odd (prog : Program) (w : World) (s : Shared) (es : Array DictEntry) (key : Value) : Prop where
 plain : carriedByValue key = true
 refs : ∀ (i : Nat) e, es[i]? = some e -> ∃ b, e.key = .ref b
 quiet : ∀ (A : Around) (E : Value -> Shared -> Prop) (i : Nat) e (Q : Bool -> Shared -> Prop) (t : Nat), es[i]? = some e -> Q true { s with toks := t } -> wpAny (model prog w) A (eqIsQuiet 8 e.key) Q E { s with toks := t }
 other : ∀ (A : Around) (E : Value -> Shared -> Prop) (i : Nat) e (Q : Bool -> Shared -> Prop) (t : Nat), A.units + 8 < cLine -> es[i]? = some e -> Q false { s with toks := t } -> wpAny (model prog w) A (eqBool e.key key) Q E { s with toks := t }
theorem Ot {key : Value} {Q : Bool -> Shared -> Prop} (h : carriedByValue key = true) (q : Q true s) : wpAny (model prog w) A (eqIsQuiet 8 key) Q E s := by
 cases key with
 | ref a => cases h
 | _ => exact wpAny_pure q
theorem Fm {es : Array DictEntry} {key : Value} (O : Odd prog w s es key) (places : List Nat) : ∀ v ∈ places.filterMap (fun i => es[i]?.map (·.key)), ∃ (b : Addr) (i : Nat) (e : DictEntry), v = .ref b /\ es[i]? = some e /\ e.key = v := fun v hv => by
 obtain ⟨i, _, hi⟩ := List.mem_filterMap.mp hv
 cases he : es[i]? with
 | none => rw [he] at hi; cases hi
 | some e =>
   rw [he] at hi; have hk : e.key = v := by simpa using hi
   obtain ⟨b, hb⟩ := O.refs i e he; exact ⟨b, i, e, by rw [<- hk]; exact hb, he, hk⟩
theorem Wz {es : Array DictEntry} {key : Value} {t : Nat} {Q : Bool -> Shared -> Prop} (O : Odd prog w s es key) (places : List Nat) (q : Q false { s with toks := t }) :
   wpAny (model prog w) A (tableMayTell key (places.filterMap fun i => es[i]?.map (·.key))) Q E { s with toks := t } := by
 have hst := Fm O places
 unfold tableMayTell
 split
 . exact wpAny_pure q
 . refine wpAny_bind (Ot O.plain ?_)
   rw [if_neg (by decide)]; refine wpAny_bind ?_; refine wpAny_forIn_list _ (fun Q8 r s' => s' = { s with toks := t } /\ r = (none, ()) /\ ∀ v ∈ Q8, ∃ (b : Addr) (i : Nat) (e : DictEntry), v = .ref b /\ es[i]? = some e /\ e.key = v) _ ?_ ?_ _ _ ⟨rfl, rfl, hst⟩
   . rintro x more r s' ⟨rfl, rfl, hr⟩
     obtain ⟨b, i, e, _, he, hk⟩ := hr x (.head _); rw [<- hk]; refine wpAny_bind (O.quiet A E i e _ t he ?_); rw [if_neg (by decide)]; exact wpAny_pure ⟨rfl, rfl, fun v hv => hr v (.tail _ hv)⟩
   . rintro r s' ⟨rfl, rfl, _⟩
     exact wpAny_pure q
theorem aG {d : Addr} {o : Obj} {es : Array DictEntry} {ep : Nat} {key : Value} {h : Int} {t : Nat} {Q : Option Nat -> Shared -> Prop} (hk : key = .none \/ (∃ i tk, key = .int i tk) \/ ∃ x tk, key = .str x tk) (hu : A.units + 8 < cLine) (O : Odd prog w s es key) (ho : s.heap.get? d = some o) (hd : o.data = .dict es ep) (q : Q none { s with toks := t }) :
   wpAny (model prog w) A (dictFind d key h) Q E { s with toks := t } := by
 unfold dictFind
 try with_reducible refine wpAny_holding ?_
 refine wpAny_bind (wpAny_dictEntries (s := { s with toks := t }) ho hd ?_)
 dsimp only
 have hin : ∀ i ∈ placesWithHash es.size (fun i => es[i]?.map (·.hash)) h, ∃ e, es[i]? = some e := fun i hi => by
   unfold placesWithHash at hi; have := (List.mem_filter.mp hi).2; simp only at this
   cases he : es[i]? with
   | none => rw [he] at this; cases this
   | some e => exact ⟨e, rfl⟩
 have htell := fun (Q' : Bool -> Shared -> Prop) (q' : Q' false { s with toks := t }) => Wz (A := A) (E := E) (Q := Q') O (placesWithHash es.size (fun i => es[i]?.map (·.hash)) h) q'
 have hst := Fm O (placesWithHash es.size (fun i => es[i]?.map (·.hash)) h)
 generalize placesWithHash es.size (fun i => es[i]?.map (·.hash)) h = places at *
 have walk : (key :: places.filterMap fun i => es[i]?.map (·.key)).all carriedByValue = true -> places = [] := fun hc => by
   cases places with
   | nil => rfl
   | cons i r =>
     obtain ⟨e, he⟩ := hin i (.head _); obtain ⟨b, hb⟩ := O.refs i e he; have : (.ref b : Value) ∈ key :: (i :: r).filterMap fun i => es[i]?.map (·.key) := .tail _ (List.mem_filterMap.mpr ⟨i, .head _, by rw [he]; simp [hb]⟩)
     have := List.all_eq_true.mp hc _ this; cases this
 have nokey : ((places.filterMap fun i => es[i]?.map (·.key)) == [key]) = false := by
   rw [beq_eq_false_iff_ne]; intro z; obtain ⟨b, _, _, e, _⟩ := hst key (by rw [z]; exact .head _)
   have := O.plain; rw [e] at this; cases this
 have hstr : (es.all fun e => isExactStrKey e.key) = true -> es.size = 0 := fun hc => by
   rcases Nat.eq_zero_or_pos es.size with z | z
   . exact z
   . obtain ⟨b, hb⟩ := O.refs 0 es[0] (by simp [z])
     have := (Array.all_eq_true.mp hc) 0 z; rw [hb] at this; cases this
 rcases hk with rfl | ⟨i, tk, rfl⟩ | ⟨x, tk, rfl⟩
 . dsimp only
   by_cases hc : (Value.none :: places.filterMap fun i => es[i]?.map (·.key)).all carriedByValue = true
   . rw [if_pos hc]
     have hp := walk hc; subst hp; exact wpAny_bind (wpAny_pure (wpAny_pure q))
   . rw [if_neg hc, if_neg (by rw [nokey]; decide)]
     refine wpAny_bind (htell _ ?_); rw [if_neg (by simp)]; refine wpAny_bind ?_; refine wpAny_forIn_list _ (fun Q8 r s' => s' = { s with toks := t } /\ r = (none, none)) _ ?_ ?_ _ _ ⟨rfl, rfl⟩
     . rintro i more r s' ⟨rfl, rfl⟩
       cases he : es[i]? with
       | none => exact wpAny_pure ⟨rfl, rfl⟩
       | some e =>
         dsimp only
         by_cases hh : (e.hash == h) = true
         . rw [if_pos hh]
           refine wpAny_bind (wpAny_dictEpoch (s := { s with toks := t }) ho hd ?_); refine wpAny_bind (O.other A E i e _ t hu he ?_); refine wpAny_bind (wpAny_dictEpoch (s := { s with toks := t }) ho hd ?_); rw [if_neg (by simp), if_neg (by decide)]; refine wpAny_bind (wpAny_rule ?_); rw [if_neg (by simp)]; exact wpAny_pure ⟨rfl, rfl⟩
         . rw [if_neg hh]; exact wpAny_pure ⟨rfl, rfl⟩
     . rintro r s' ⟨rfl, rfl⟩
       exact wpAny_pure q
 . dsimp only
   by_cases hc : (Value.int i tk :: places.filterMap fun i => es[i]?.map (·.key)).all carriedByValue = true
   . rw [if_pos hc]
     have hp := walk hc; subst hp; exact wpAny_bind (wpAny_pure (wpAny_pure q))
   . rw [if_neg hc, if_neg (by rw [nokey]; decide)]
     refine wpAny_bind (htell _ ?_); rw [if_neg (by simp)]; refine wpAny_bind ?_; refine wpAny_forIn_list _ (fun Q8 r s' => s' = { s with toks := t } /\ r = (none, none)) _ ?_ ?_ _ _ ⟨rfl, rfl⟩
     . rintro j more r s' ⟨rfl, rfl⟩
       cases he : es[j]? with
       | none => exact wpAny_pure ⟨rfl, rfl⟩
       | some e =>
         dsimp only
         by_cases hh : (e.hash == h) = true
         . rw [if_pos hh]
           refine wpAny_bind (wpAny_dictEpoch (s := { s with toks := t }) ho hd ?_); refine wpAny_bind (O.other A E j e _ t hu he ?_); refine wpAny_bind (wpAny_dictEpoch (s := { s with toks := t }) ho hd ?_); rw [if_neg (by simp), if_neg (by decide)]; refine wpAny_bind (wpAny_rule ?_); rw [if_neg (by simp)]; exact wpAny_pure ⟨rfl, rfl⟩
         . rw [if_neg hh]; exact wpAny_pure ⟨rfl, rfl⟩
     . rintro r s' ⟨rfl, rfl⟩
       exact wpAny_pure q
 . dsimp only
   by_cases ha : (es.all fun e => isExactStrKey e.key) = true
   . rw [if_pos ha]
     have hz := hstr ha; have : es = #[] := Array.eq_empty_of_size_eq_zero hz; subst this; have hf : foundByValue d (Value.str x tk) #[] x = pure none := by
       unfold foundByValue; rw [show (#[] : Array DictEntry).findIdx? (·.key.isStr x) = none from by simp]
     rw [hf]; exact wpAny_pure q
   rw [if_neg ha]
   by_cases hc : (Value.str x tk :: places.filterMap fun i => es[i]?.map (·.key)).all carriedByValue = true
   . rw [if_pos hc]
     have hp := walk hc; subst hp; exact wpAny_bind (wpAny_pure (wpAny_pure q))
   . rw [if_neg hc, if_neg (by rw [nokey]; decide)]
     refine wpAny_bind (htell _ ?_); rw [if_neg (by simp)]; refine wpAny_bind ?_; refine wpAny_forIn_list _ (fun Q8 r s' => s' = { s with toks := t } /\ r = (none, none)) _ ?_ ?_ _ _ ⟨rfl, rfl⟩
     . rintro i more r s' ⟨rfl, rfl⟩
       cases he : es[i]? with
       | none => exact wpAny_pure ⟨rfl, rfl⟩
       | some e =>
         dsimp only
         by_cases hh : (e.hash == h) = true
         . rw [if_pos hh]
           refine wpAny_bind (wpAny_dictEpoch (s := { s with toks := t }) ho hd ?_); refine wpAny_bind (O.other A E i e _ t hu he ?_); refine wpAny_bind (wpAny_dictEpoch (s := { s with toks := t }) ho hd ?_); rw [if_neg (by simp), if_neg (by decide)]; refine wpAny_bind (wpAny_rule ?_); rw [if_neg (by simp)]; exact wpAny_pure ⟨rfl, rfl⟩
         . rw [if_neg hh]; exact wpAny_pure ⟨rfl, rfl⟩
     . rintro r s' ⟨rfl, rfl⟩
       exact wpAny_pure q
end
end Sm
end
section
namespace Sm
open PySem PySem.Spec PyProof.Rows PySem.W L2
section
variable {prog : Program} {w : World} {A : Around} {E : Value -> Shared -> Prop} {s : Shared}
theorem Vv {Q : Int -> Shared -> Prop} (h : ∀ i t, Q i { s with toks := t }) : wpAny (model prog w) A (pyHash .none) Q E s := by
 unfold pyHash
 have hv : [Value.none].any Value.onHeap = false := rfl
 have hT : s.TypeIs Value.none "NoneType" := rfl
 refine wpAny_bind ?_
 rw [cRoomFor, if_neg (by rw [hv]; decide)]
 refine wpAny_pure (wpAny_bind (wpAny_specialOf hT F.slot_NoneType_hash.lookup ?_))
 show wpAny _ _ (if (some (Value.builtin "NoneType.__hash__") == some Value.none) = true then _ else _) Q E s
 rw [if_neg (by rw [beq_builtin_none]; decide)]
 refine wpAny_bind (wpAny_specialOf hT F.slot_NoneType_hash.lookup ?_)
 show wpAny _ _ (callSpecialIfBoundUnlessNone? Value.none "__hash__" _ >>= _) Q E s
 refine wpAny_bind (wpAny_callSpecialIfBoundUnlessNone?_slot hT F.slot_NoneType_hash (wpAny_call_entry F.slot_NoneType_hash hT F.entry_NoneType_hash (show wpAny _ _ (do ret (<- mkInt 0xFCA86420)) _ _ s from wpAny_ret_mkInt ?_) (F.args_NoneType_hash_1 _)))
 show wpAny _ _ (if (decide (-(2 : Int) ^ 63 <= 0xFCA86420) && decide ((0xFCA86420 : Int) < 2 ^ 63)) = true then _ else _) Q E _
 rw [if_pos (by decide)]
 exact wpAny_pure (h _ _)
theorem aB {key : Value} {Q : Int -> Shared -> Prop} (hk : key = .none \/ (∃ i tk, key = .int i tk) \/ ∃ x tk, key = .str x tk) (h : ∀ i t, Q i { s with toks := t }) : wpAny (model prog w) A (pyHash key) Q E s := by
 rcases hk with rfl | ⟨i, tk, rfl⟩ | ⟨x, tk, rfl⟩
 . exact Vv h
 . exact wpAny_pyHash_int (h _ _)
 . exact wpAny_pyHash_str (h _ _)
theorem Vf {d : Addr} {o : Obj} {es : Array DictEntry} {ep : Nat} {key : Value} {Q : Value -> Shared -> Prop} (hk : key = .none \/ (∃ i tk, key = .int i tk) \/ ∃ x tk, key = .str x tk) (hu : A.units + 16 < cLine) (lo : (d == sysModules) = false) (O : Odd prog w s es key) (hcl : o.cls = .type "dict") (ho : s.heap.get? d = some o) (hd : o.data = .dict es ep)
   (q : ∀ t, Q (.bool true) { s with toks := t }) : wpAny (model prog w) A (compareOp .NotIn key (.ref d)) Q E s := by
 have hT : s.TypeIs (.ref d) "dict" := ⟨o, ho, hcl⟩
 show wpAny _ _ (do return .bool (!(<- contains (.ref d) key))) Q E s
 refine wpAny_bind ?_
 unfold contains
 try with_reducible refine wpAny_holding ?_
 refine wpAny_bind (wpAny_specialOf hT slot_dict_contains.lookup ?_)
 show wpAny _ _ (if (some (Value.builtin "dict.__contains__") == some Value.none) = true then _ else _) _ E s
 rw [if_neg (by rw [beq_builtin_none]; decide)]
 refine wpAny_bind (wpAny_callSpecialUnlessNone?_slot (name := Str.ofString "__contains__") hT slot_dict_contains (wpAny_call_entry slot_dict_contains hT entry_dict_contains ?_ (args_dict_contains _ _)))
 show wpAny _ _ (dictGet d key >>= _) _ _ s
 refine wpAny_bind ?_
 unfold dictGet
 try with_reducible refine wpAny_holding ?_
 refine wpAny_bind (aB hk fun i t => ?_)
 refine wpAny_bind (aG hk (show A.in1.units + 8 < cLine from ?_) O ho hd ?_)
 . show A.units + 1 + 8 < cLine
   omega
 . refine wpAny_pure ?_
   show wpAny _ _ (Builtin.Dict.pendingKey? d key >>= _) _ _ _
   exact wpAny_bind (wpAny_pendingKey_other lo (wpAny_pure ⟨_, rfl, wpAny_truthy_bool (wpAny_pure (q t))⟩))
end
end Sm
end
section
namespace Sm
open PySem PySem.Spec PyProof.Rows PySem.W L2
section
variable {X : Cx} {pins : List (Addr × Obj)} {Z : St} {H : Hp} {s : Shared}
noncomputable def cV : PyData -> Bool
 | .none => true
 | .int _ => true
 | .str _ => true
 | _ => false
theorem hW {d : Addr} {o : Obj} {kk : List (List Key × V)} {es : Array DictEntry} {ep : Nat} {dk : PyData} {v : V} {key : Value} {G : Hp} (I : Inv X pins Z H s) (h : H d = some (.frz o (.dT kk))) (hd : o.data = .dict es ep) (ha : ∀ q ∈ kk, O9 (q.1.map M4) = true) (hG : Same G H) (hr : Rep G dk v) (hv : RelV v key) (ho : cV dk = true) : Odd X.prog X.w s es key := by
 obtain ⟨e1, hsz, hkey⟩ := Ni I h hd
 have at' : ∀ (i : Nat) e, es[i]? = some e -> ∃ b q, kk[i]? = some q /\ e.key = .ref b /\ H b = some (.tup (q.1.map kV)) := fun i e he => by
   have hi : i < es.size := by
     rcases Nat.lt_or_ge i es.size with z | z
     . exact z
     . rw [Array.getElem?_eq_none z] at he; cases he
   rw [Array.getElem?_eq_getElem hi] at he; cases he; exact hkey i hi
 refine ⟨?_, fun i e he => ?_, fun A E i e Q t he q => ?_, fun A E i e Q t hu he q => ?_⟩
 . cases dk with
   | none => cases (show v = _ from hr); cases hv; rfl
   | int i => cases (show v = _ from hr); obtain ⟨t, rfl⟩ := hv; rfl
   | str x => cases hr.1; obtain ⟨t, rfl⟩ := hv; rfl
   | _ => cases ho
 . obtain ⟨b, q, _, h2, _⟩ := at' i e he
   exact ⟨b, h2⟩
 . obtain ⟨b, qk, _, h2, h3⟩ := at' i e he
   rw [h2]; exact (tupleKind (N5 X.prog X.w)).quiet (s := { s with toks := t }) (Cj I.hok h3) q
 . obtain ⟨b, qk, h1, h2, h3⟩ := at' i e he
   rw [h2]; have hat := ha qk (List.mem_of_getElem? h1); have rk : Rep H (.tuple (qk.1.map M4)) (.ref b) := ⟨b, _, rfl, h3, Ad (show O4 (qk.1.map M4) = some qk.1 from T0 qk.1) hat⟩
   obtain ⟨as, r1⟩ := rk.reads (I.tok t) (Same.refl _) rfl; obtain ⟨bs, r2⟩ := hr.reads (I.tok t) hG hv; refine SeqAt.eqBoolOverData X.prog X.w A E { s with toks := t } (.ref b) key _ _ as bs Q r1 r2 rk.lay hr.lay ?_ ?_
   . have : dk.depth <= 1 := by
       cases dk with
       | none => simp [PyData.depth]
       | int i => simp [PyData.depth]
       | str x => simp [PyData.depth]
       | _ => cases ho
     omega
   . have : PyData.eqv (.tuple (qk.1.map M4)) dk = false := by
       cases dk with
       | none => rfl
       | int i => rfl
       | str x => rfl
       | _ => cases ho
     rw [this]; exact q
end
section
variable {P : Program} {w : World} {K : PySem.W.Frag} {mg : Str -> Option Value} {base : Heap} {X : Cx} {N : List Str} {sc : Scope} {k : Nat} {df : Bool} {E : EK} {pos p : Pos} {a : Expr} {f : Dn -> Res PyData} {x : Str}
noncomputable def T8 (i : Nat) (f : Dn -> Res PyData) : Dn -> Res PyData := fun δ => (f δ).bind fun kd => match δ[i]? with
 | some (.fd kvs) => match P0 kd with
   | some kk => .ok (.bool (!(M2 kvs kk).isSome))
   | none => if cV kd = true /\ Fa kvs = true then .ok (.bool true) else .no
 | _ => .no
def tNotF (ty td : TE) : TE := fun Z H Q => ty Z H fun y H1 => td Z H1 fun x H2 => (∃ a o, x = .ref a /\ DGet H2 a y o /\ Q (.bl (!o.isSome)) H2) \/
 ∃ d o, ∃ kk : List (List Key × V), ∃ dk G, x = .ref d /\ H2 d = some (.frz o (.dT kk)) /\ (∀ q ∈ kk, O9 (q.1.map M4) = true) /\ Same G H2 /\ Rep G dk y /\ cV dk = true /\ Q (.bl true) H2
theorem cM {i o : Expr} {ty td : TE} (hu : X.A.units + 64 < cLine) (hi : PE X i ty) (ho : PE X o td) : PC X .NotIn i o (tNotF ty td) := by
 intro pins s Z H Q I h
 refine thn (hi pins s Z H _ I h) fun iv s1 ⟨y, H1, I1, ry, q1⟩ => thn (ho pins s1 Z H1 _ I1 q1) fun u s2 ⟨x, H2, I2, rx, q2⟩ => ?_
 rcases q2 with ⟨a, ov, ex, g, q2⟩ | ⟨d, ob, kk, dk, G, ex, hd, hat, hG, rdk, hodd, q2⟩
 . subst ex
   obtain rfl : u = Value.ref a := rx; exact L2.d_notIn (by omega) I2 g ry fun s3 I3 => ⟨.bl (!ov.isSome), H2, I3, rfl, q2⟩
 . subst ex
   obtain rfl : u = Value.ref d := rx; obtain ⟨e1, z, hs, xs, rel, o', es, ep, e2, hex, hdat, hes, hnd⟩ := I2.hok d _ hd; rw [e1] at e2; cases e2; refine Vf ?_ (by omega) hs (hW I2 hd hdat hat hG rdk ry hodd) hex.1 e1 hdat fun t => ⟨.bl true, H2, I2.tok t, rfl, q2⟩
   cases dk with
   | none => cases (show y = _ from rdk); cases ry; exact .inl rfl
   | int i => cases (show y = _ from rdk); obtain ⟨t, rfl⟩ := ry; exact .inr (.inl ⟨i, t, rfl⟩)
   | str x => cases rdk.1; obtain ⟨t, rfl⟩ := ry; exact .inr (.inr ⟨x, t, rfl⟩)
   | _ => cases hodd
theorem Xb (C : Cxt P w K mg base X N sc k df) (i : Nat) (h : okVar N sc i x = true) (hk : DE X E a f) (hm : behindInMarks .NotIn (.Name x p) = false := by with_unfolding_all rfl) : DT X E (.Compare a [.NotIn] [.Name x p] pos) (C9 (T8 i f)) := by
 refine PT.imp (Qu (cM C.hu hk (okVar.pe C h)) hm) fun Z H Q ⟨G, δ, S, aft⟩ => ?_
 unfold C9 T8 at aft
 rw [Res.bind_assoc] at aft
 refine Ae S aft fun kd v G1 H1 g1 r1 S1 a1 => ?_
 split at a1
 . rename_i kvs hi
   obtain ⟨q, o, kv, hσ, hx, hkeys, hvals⟩ := S1.fdn hi; refine ⟨.ref q, hσ, ?_⟩
   cases ek : P0 kd with
   | some kk =>
     rw [ek] at a1
     cases kd with
     | tuple ds =>
       have ek' : O4 ds = some kk := ek; obtain ⟨pk, xs, rfl, hpk, lk⟩ := r1; obtain ⟨e1, e2⟩ := N8 lk ek'; subst e1; refine .inl ⟨q, Av kv kk, rfl, .inr ⟨kv, kk, pk, .inr ⟨o, S1.sub _ _ hx⟩, rfl, S1.sub _ _ hpk, rfl⟩, ?_⟩; have : (Av kv kk).isSome = (M2 kvs kk).isSome := by
         rcases X1 (kk := kk) hkeys hvals with ⟨n1, n2⟩ | ⟨d0, v0, n1, n2, _⟩ <;> rw [n1, n2] <;> rfl
       rw [this]; exact ⟨_, rfl, a1 G1 H1 (Grow.refl S1.sub)⟩
     | _ => cases ek
   | none =>
     rw [ek] at a1; simp only at a1
     split at a1
     . rename_i hc
       refine .inr ⟨q, o, kv, kd, G1, rfl, S1.sub _ _ hx, fun z hz => ?_, S1.sub, r1, hc.1, _, rfl, a1 G1 H1 (Grow.refl S1.sub)⟩
       obtain ⟨j, hj, rfl⟩ := List.getElem_of_mem hz; have hkj : (kvs.map (·.1))[j]? = some (PyData.tuple (kv[j].1.map M4)) := by rw [hkeys, List.getElem?_map, List.getElem?_eq_getElem hj]; rfl
       rw [List.getElem?_map] at hkj
       cases ez : kvs[j]? with
       | none => rw [ez] at hkj; cases hkj
       | some y =>
         rw [ez] at hkj; have hy : y.1 = PyData.tuple (kv[j].1.map M4) := by simpa using hkj
         have := List.all_eq_true.mp hc.2 y (List.mem_of_getElem? ez); rw [hy] at this; exact this
     . exact (show False from a1).elim
 . exact (show False from a1).elim
end
end Sm
end
section
namespace Sm
open PySem PySem.Spec PyProof.Rows PySem.W L2
section
variable {X : Cx}
theorem eqTT (A : Around) (s : Shared) : SeqAt.EqAt A s (.bool true) (.bool true) true := fun prog w E Q q => by
 unfold eqBool
 try with_reducible refine wpAny_holding ?_
 rw [if_pos (by rfl)]
 exact wpAny_bind (wpAny_rule (wpAny_pure q))
noncomputable def rCntT : V -> List V -> Hp -> VK -> Prop := fun x xs H Q => ∃ l, x = .ref l /\ xs = [.bl true] /\ H l = some (.lst [.bl true]) /\ Q (.int 1) H
theorem dC : MtR X "list.count" rCntT := by
 intro pins s Z H x vs v us Q I rx rv ⟨l, hx, hxs, hH, q⟩
 subst hx hxs
 cases (show v = Value.ref l from rx)
 obtain ⟨u, rfl, ru⟩ := rv.one
 cases (show u = Value.bool true from ru)
 obtain ⟨z, its, n, r, e⟩ := O7 I (Same.refl _) (.inl hH)
 obtain ⟨u, rfl, ru⟩ := r.one
 cases (show u = Value.bool true from ru)
 refine call_meets F.slot_list_count ⟨_, e, rfl⟩ F.entry_list_count (F.args_list_count_2 _ _) (SeqAt.list_countAt l #[.bool true] n none #[] (.bool true) (fun _ => true)) ⟨e, fun y hy => ?_, ?_⟩
 . have : y = .bool true := by simpa using hy
   rw [this]; exact eqTT _ _
 . exact ⟨.int 1, H, I.tok _, ⟨_, rfl⟩, q⟩
noncomputable def rIdxT : V -> List V -> Hp -> VK -> Prop := fun x xs H Q => ∃ l, x = .ref l /\ xs = [.bl true] /\ H l = some (.lst [.bl true]) /\ Q (.int 0) H
theorem dB : MtR X "list.index" rIdxT := by
 intro pins s Z H x vs v us Q I rx rv ⟨l, hx, hxs, hH, q⟩
 subst hx hxs
 cases (show v = Value.ref l from rx)
 obtain ⟨u, rfl, ru⟩ := rv.one
 cases (show u = Value.bool true from ru)
 obtain ⟨z, its, n, r, e⟩ := O7 I (Same.refl _) (.inl hH)
 obtain ⟨u, rfl, ru⟩ := r.one
 cases (show u = Value.bool true from ru)
 refine call_meets F.slot_list_index ⟨_, e, rfl⟩ F.entry_list_index (F.args_list_index_2 _ _) (SeqAt.list_indexAt l #[.bool true] n none #[] (.bool true) (fun _ => true) 0 (by simp) (by decide) rfl (fun m hm h0 => absurd h0 (Nat.not_lt_zero _))) ⟨e, fun y hy => ?_, ?_⟩
 . have : y = .bool true := by simpa using hy
   rw [this]; exact eqTT _ _
 . exact ⟨.int 0, H, I.tok _, ⟨_, rfl⟩, q⟩
end
end Sm
end
section
namespace Sm
open PySem PySem.Spec PyProof.Rows PySem.W L2
noncomputable def eZ (N : List Str) (sc : Scope) (df : Bool) : Bool := okVar N sc 0 "_law_e" && okVar N sc 1 "_law_flags" && okSet N sc df 1 "_law_flags" && okGl sc "isinstance" && okGl sc "NoDeed" && okGl sc "ValueError"
structure XSet1 (K : PySem.W.Frag) (mg : Str -> Option Value) (CN CM : Addr) : Prop where
 mM : mg "MarkError" = some (.ref CM)
 mN : mg "NoDeed" = some (.ref CN)
 mi : mg "isinstance" = none
 mV : mg "ValueError" = none
 xc : XCls K CN
 k1 : PySem.W.subIn K (.ref CN) (.ref CM) = some true
 k2 : PySem.W.instIn K (.ref CM) (.type "tuple") = some false
 k3 : (PySem.W.clsIn K CM).isSome = true
 k4 : PySem.W.subIn K (.ref CM) (.type "BaseException") = some true
 t1 : PySem.W.kitOne K (.ref CN) (.ref CN) = some true
 t4 : PySem.W.kitOne K (.ref CN) (.type "ValueError") = some true
def bI (CN : Addr) : TS := fun D Z H => ∃ a, Z.length = 2 /\ Z[0]? = some (some (.ref a)) /\ H a = some (.ext (ExcAt' a CN)) /\ ∀ l p, H l = none -> (upd H l (.lst [.bl true])) p = none -> D.rt (.ref p) (upd (upd H l (.lst [.bl true])) p (.tup [.str "refused", .int 0]))
def offX (X : Cx) (A : Around) : Cx := { X with A := A, calm := false, xe := fun _ _ => False }
section
variable {P : Program} {w : World} {K : PySem.W.Frag} {mg : Str -> Option Value} {base : Heap} {X : Cx} {N : List Str} {sc : Scope} {k : Nat} {df : Bool} {CN CM : Addr}
theorem Qo {p1 p2 p3 p4 p5 p6 p7 p8 p9 p10 p11 p12 p13 p14 p15 p16 p17 p18 p19 p20 p21 p22 p23 p24 p25 p26 p27 p28 p29 p30 p31 p32 p33 : Pos} {j1 j2 j3 j4 j5 j6 j7 j8 : Nat} (C : Cxt P w K mg base X N sc k df) (A1 : Around) (XX : XSet1 K mg CN CM) (ok : eZ N sc df = true)
   (l1 : (p10.endLine == p12.line) = true) (l2 : (p29.endLine == p31.line) = true) :
   PSs (offX X A1) [.Assign [.Name "_law_flags" p1] (.List [.Call (.Name "isinstance" p2) [.Name "_law_e" p3, .Name "NoDeed" p4] [] p5] p6) p7,
     .If (.BoolOp .Or [.Compare (.Call (.Attribute (.Name "_law_flags" p8) "count" p10) [.Constant (.bool true) j1 p11] [] p12) [.NotEq] [.Constant (.int 1) j2 p13] p14, .UnaryOp .Not (.Call (.Name "isinstance" p15) [.Name "_law_e" p16, .Name "ValueError" p17] [] p18) p19] p20)
       [.Return (some (.Tuple [.Constant (.str "refused") j3 p21, .UnaryOp .USub (.Constant (.int 1) j4 p22) p23] j5 p24)) p25] [] p26,
     .Return (some (.Tuple [.Constant (.str "refused") j6 p27, .Call (.Attribute (.Name "_law_flags" p28) "index" p29) [.Constant (.bool true) j7 p30] [] p31] j8 p32)) p33] (bI CN) := by
 unfold eZ at ok
 simp only [Bool.and_eq_true] at ok
 obtain ⟨⟨⟨⟨⟨o1, o2⟩, o3⟩, o4⟩, o5⟩, o6⟩ := ok
 obtain ⟨s1, s2, s3, s4⟩ := okSet.ok C o3
 have gl : ∀ {x : Str}, okGl sc x = true -> Gl (offX X A1) x /\ (x == ("__debug__" : Str)) = false /\ x ≠ "__name__" := fun h => okGl.gl C h
 have xc : XCls (offX X A1).K CN := by show XCls X.K CN; rw [C.hK]; exact XX.xc
 have hmg : (offX X A1).mg = mg := C.hmg
 have hKK : (offX X A1).K = K := C.hK
 obtain ⟨e1, e2, e3, e4⟩ := okVar.at o1
 obtain ⟨f1, f2, f3, f4⟩ := okVar.at o2
 have pE : ∀ {q : Pos}, PE (offX X A1) (.Name "_law_e" q) (Dy 0) := Cg (X := offX X A1) (by show X.N[0]? = _; rw [C.hN]; exact e1) (by show Vis X.env.scope _; rw [C.hs]; exact e2) e3 e4
 have pF : ∀ {q : Pos}, PE (offX X A1) (.Name "_law_flags" q) (Dy 1) := Cg (X := offX X A1) (by show X.N[1]? = _; rw [C.hN]; exact f1) (by show Vis X.env.scope _; rw [C.hs]; exact f2) f3 f4
 have cl : ∀ {a : Addr} {q0 q1 q2 q3 : Pos}, PE (offX X A1) (.Call (.Name "isinstance" q0) [.Name "_law_e" q1, .Name "NoDeed" q2] [] q3) (tCB (gG (offX X A1).K a CN) (Cy (Dy 0) (Cy (tC (.ref CN)) Us))) := fun {a} =>
   Bb (Pv xc) (gl o4).1 (by rw [hmg]; exact XX.mi) (by decide +kernel) (F6 pE (F6 (My (gl o5).1 (by rw [hmg]; exact XX.mN) rfl (gl o5).2.1) M9))
 have cv : ∀ {a : Addr} {q0 q1 q2 q3 : Pos}, PE (offX X A1) (.Call (.Name "isinstance" q0) [.Name "_law_e" q1, .Name "ValueError" q2] [] q3) (tCB (gG (offX X A1).K a CN) (Cy (Dy 0) (Cy (tC (.ty "ValueError")) Us))) := fun {a} =>
   Bb (Pv xc) (gl o4).1 (by rw [hmg]; exact XX.mi) (by decide +kernel) (F6 pE (F6 (cK (gl o6).1 (by rw [hmg]; exact XX.mV) (by decide +kernel) rfl) M9))
 intro pins s Z H D I ⟨a, hl, hσ, hH, q⟩
 have st1 := Ba (X := offX X A1) (i := 1) (pos := p7) (pos' := p1) s1 s2 s3 (Iv (pos := p6) (F6 (cl (a := a) (q0 := p2) (q1 := p3) (q2 := p4) (q3 := p5)) M9)) rfl s4
 have cnt := Kz (X := offX X A1) (apos := p10) (cpos := p12) PySem.F.plainAttrs_list F.slot_list_count F.type_list_count dC (pF (q := p8)) (F6 (Yu (b := true) (j := j1) (pos := p11)) M9) rfl rfl l1
 have idx := Kz (X := offX X A1) (apos := p29) (cpos := p31) PySem.F.plainAttrs_list F.slot_list_index F.type_list_index dB (pF (q := p28)) (F6 (Yu (b := true) (j := j7) (pos := p30)) M9) rfl rfl l2
 have tst := PW.pt (eW (pos := p20) (Mu (pos := p14) op_ne cnt (Mx (i := 1) (j := j2) (pos := p13)) (Et _)) (Yi (pos := p20) (gO (pos := p19) (gN (cv (a := a) (q0 := p15) (q1 := p16) (q2 := p17) (q3 := p18))))))
 have st2 := Yl (X := offX X A1) (pos := p26) tst (Ah (Iu (pos := p25) (Qx (pos := p24) (x1 := j5) (F6 (Mw (x := "refused") (j := j3) (pos := p21)) (F6 (eY (pos := p23) Wx (Mx (i := 1) (j := j4) (pos := p22))) M9))))) Mv
 have st3 := Iu (X := offX X A1) (pos := p33) (Qx (pos := p32) (x1 := j8) (F6 (Mw (x := "refused") (j := j6) (pos := p27)) (F6 idx M9)))
 have B := S8 st1 (S8 st2 (Ah st3))
 refine B pins s Z H D I ⟨.ref a, hσ, .ref CN, .ref CN, true, rfl, rfl, hH, by rw [hKK]; exact XX.t1, (show 1 <= sizeLine by decide), fun l hl0 => ?_⟩
 have hne : a ≠ l := B5 hH hl0
 have j1' : (Z.set 1 (some (V.ref l)))[1]? = some (some (.ref l)) := by rw [List.getElem?_set_self (by omega)]
 have j0' : (Z.set 1 (some (V.ref l)))[0]? = some (some (.ref a)) := by rw [List.getElem?_set_ne (by decide)]; exact hσ
 have hL : upd H l (.lst [.bl true]) l = some (.lst [.bl true]) := B3
 have hA : upd H l (.lst [.bl true]) a = some (.ext (ExcAt' a CN)) := by rw [A8 hne]; exact hH
 refine ⟨.ref l, j1', .inl ⟨rfl, _, .inl (.inl hL)⟩, l, rfl, rfl, hL, rfl, _, rfl, ?_⟩
 have hd1 : (!decide (V.int 1 = V.int 1)) = false := by simp
 rw [hd1]
 dsimp only
 rw [if_neg Bool.false_ne_true]
 refine ⟨.ref a, j0', .ty "ValueError", .type "ValueError", true, rfl, rfl, hA, by rw [hKK]; exact XX.t4, true, rfl, ?_⟩
 refine ⟨.ref l, j1', .inl ⟨rfl, _, .inl (.inl hL)⟩, l, rfl, rfl, hL, (show 2 <= sizeLine by decide), fun p hp => q l p hl0 hp⟩
end
end Sm
end
section
namespace Sm
open PySem PySem.Spec PyProof.Rows PySem.W L2
abbrev Mc (A : Around) : Around := { A with handled := none }
theorem Inv.offX {X : Cx} {pins : List (Addr × Obj)} {Z : St} {H : Hp} {s : Shared} (I : Inv X pins Z H s) (A1 : Around) (hf : A1.frames = X.A.frames) : Inv (offX X A1) pins Z H s :=
 ⟨⟨I.ok.mod, I.ok.kind, I.ok.glob, I.ok.blt, I.ok.above, I.ok.inj, I.ok.has, I.ok.cab, (fun z => by cases z), hf.trans I.ok.frames, I.ok.stk, I.ok.exf, I.ok.bs, I.ok.bsz, I.ok.noex, I.ok.exfs, I.ok.funs, I.ok.frf⟩, I.os, I.bare, I.base, I.loc, I.cell, I.free, I.freeC, I.pin, I.hok, I.len⟩
theorem run_E {P : Program} {w : World} {K : PySem.W.Frag} {mg : Str -> Option Value} {base : Heap} {k : Nat} {f CN : Addr} {name qual : Str} {params : Arguments} {body : List Stmt} {scope : Scope} {dV kV doc pm cdv ct oc : Value} {an od : Option Addr}
   {osl : Array (Option Value)} {N ps : List Str} (lk : K.lookup f = some ⟨oc, od, .func (PySem.W.fnOf name qual params body scope dV kV doc pm an cdv ct), osl⟩) (hcd : PySem.W.codeIn K cdv qual = true) (S : FnScope N ps scope) (hN : N.length = 2) (hps : ps.length = 1)
   (hbody : ∀ X A1, Cxt P w K mg base X N scope k true -> PSs (offX X A1) body (bI CN)) {A : Around} {outer : List Env} {s : Shared} {H : Hp} {args : Args} {us : List Value} {a : Addr} {Q : VK} {E : XK}
   (hr : Room (k + 1) (Mc A)) (e0 : Env0 P w K mg base A outer s H) (hb : BindsTo s (PySem.W.fnOf name qual params body scope dV kV doc pm an cdv ct) args (ps.zip us)) (r : Vals [.ref a] us) (hH : H a = some (.ext (ExcAt' a CN)))
   (q : ∀ l p, H l = none -> (upd H l (.lst [.bl true])) p = none -> Q (.ref p) (upd (upd H l (.lst [.bl true])) p (.tup [.str "refused", .int 0]))) :
   codeAny (model P w) A (.call (.ref f) args) (CR CX0 outer P w H s Q E) s := by
 have e0' : Env0 P w K mg base (Mc A) outer s H := ⟨e0.frames, e0.mod, e0.bs, e0.bsz, e0.funs, e0.frf, e0.hok, e0.bare⟩
 have KX : K.In s.heap := e0.mod.kin.keeps fun b o e => (e0.bs b o e).1
 have lim : s.heap.NoLimit := e0.mod.nolimit.keeps fun b o e => (e0.bs b o e).1
 have hkind : ∀ y ∈ ps.zip us, scope.names.lookup y.1 = some .local \/ (scope.names.lookup y.1 = some .cell /\ ((cellsFrom (s.heap.objs.size + 1) scope.names []).lookup y.1).isSome = true) := fun ⟨n, v⟩ hy => by
   rcases S.par n (List.of_mem_zip hy).1 with z | z
   . exact .inl z
   . exact .inr ⟨z, PySem.W.cellsFrom_some _ _ _ (.inl z)⟩
 refine codeAny_call_function (show A.depth < recursionLimit from hr.depth) (KX _ _ lk) rfl S.co S.gen rfl (PySem.W.codeRec_of KX hcd) (hb _ _ _ _ ?_)
 refine wpAny_newFunctionEnv_cells S.kind hkind fun env he s1 x => ?_
 subst he
 refine ⟨lim.keeps x.toInCall.keep, codeAny_func ?_⟩
 have I0 : Inv (Nz CX0 P w K mg base N qual scope f cdv (Mc A) outer s H E) [] (W8 N [.ref a]) H s1 := Lh S rfl e0' (by rw [hps]; rfl) r x
 have I := Sm.Inv.offX I0 (A.deeper (envOfC qual scope s.heap.objs.size f cdv)) rfl
 have C0 : Cxt P w K mg base (Nz CX0 P w K mg base N qual scope f cdv (Mc A) outer s H E).nox N scope k true := ⟨rfl, rfl, rfl, rfl, rfl, rfl, rfl, rfl, hr.deeper _, fun _ _ => rfl, PassesOwn.never⟩
 refine wpAny_mono (hbody _ (A.deeper (envOfC qual scope s.heap.objs.size f cdv)) C0 [] s1 (W8 N [.ref a]) H { nx := fun _ H' => Q .non H', rt := Q } I ⟨a, ?_, rfl, hH, q⟩) (fun fl s' hs => ?_) (fun _ _ z => z.elim)
 . unfold L2.W8; simp [hN]
 . cases fl with
   | ret u =>
     obtain ⟨v, Z', H', J, rv, q'⟩ := hs; exact ⟨v, H', J.os, J.bare, J.base, J.hok, rv, q'⟩
   | next =>
     obtain ⟨Z', H', J, q'⟩ := hs; exact ⟨V.non, H', J.os, J.bare, J.base, J.hok, rfl, q'⟩
   | brk => obtain ⟨Z', H', J, q'⟩ := hs; exact (show False from q').elim
   | cont => obtain ⟨Z', H', J, q'⟩ := hs; exact (show False from q').elim
end Sm
end
section
namespace Sm
open PySem PySem.Spec PyProof.Rows PySem.W L2
structure FnE (P : Program) (w : World) (K : PySem.W.Frag) (mg : Str -> Option Value) (base : Heap) (CN : Addr) (x : Str) (k : Nat) : Prop where
 ex : ∃ f fd ps, ps.length = 1 /\ mg x = some (.ref f) /\ PySem.W.keepIn K (.ref f) = true /\ Binds K fd ps [] /\ ∀ {A : Around} {outer : List Env} {s : Shared} {H : Hp} {args : Args} {us : List Value} {a : Addr} {Q : VK} {E : XK},
   Room k (Mc A) -> Env0 P w K mg base A outer s H -> BindsTo s fd args (ps.zip us) -> Vals [.ref a] us -> H a = some (.ext (ExcAt' a CN)) ->
   (∀ l p, H l = none -> (upd H l (.lst [.bl true])) p = none -> Q (.ref p) (upd (upd H l (.lst [.bl true])) p (.tup [.str "refused", .int 0]))) -> codeAny (model P w) A (.call (.ref f) args) (CR CX0 outer P w H s Q E) s
section
variable {P : Program} {w : World} {K : PySem.W.Frag} {mg : Str -> Option Value} {base : Heap} {X : Cx} {N : List Str} {sc : Scope} {k : Nat} {df : Bool} {CN : Addr}
theorem fn_E {x : Str} {st : Stmt} {ps : List Str} (F : Def K mg x st ps) (S : FnScope N ps (A5 st)) (hN : N.length = 2) (hps : ps.length = 1) (hbody : ∀ X A1, Cxt P w K mg base X N (A5 st) k true -> PSs (offX X A1) (B9 st) (bI CN)) : FnE P w K mg base CN x (k + 1) := by
 obtain ⟨f, fd, F, hmg, hb⟩ := F.ex
 have kp := F.kp
 obtain ⟨oc, od, kV, doc, pm, an, cdv, ct, osl, rfl, lk, hcd⟩ := F.ex
 exact ⟨f, _, ps, hps, hmg, kp, hb, fun hr e0 hb' r hH q => run_E lk hcd S hN hps hbody hr e0 hb' r hH q⟩
theorem bK {a : Addr} {j : Nat} {pa pb pc pd : Pos} (C : Cxt P w K mg base X N sc k df) (F : FnE P w K mg base CN "_law_refused" j) (hj : j <= k) (o1 : okVar N sc 3 "_law_e" = true) (o2 : okGl sc "_law_refused" = true) {pins : List (Addr × Obj)} {Z : St} {H : Hp} {s : Shared}
   (I : Inv (inX X a) pins Z H s) (hσ : Z[3]? = some (some (.ref a))) (hH : H a = some (.ext (ExcAt' a CN))) (he : starEach [.Name "_law_e" pb] X.env = (false, eval (.Name "_law_e" pb) X.env) :: starEach [] X.env) (hpl : (backTo pc (starEach [] X.env)).any (·.1) = false) :
   wpAny (model X.prog X.w) (X.A.mark (some (.ref a))) (execs [.Return (some (.Call (.Name "_law_refused" pa) [.Name "_law_e" pb] [] pc)) pd] X.env)
     (fun f s' => ∃ l p H' , f = .ret (.ref p) /\ Inv (inX X a) pins Z H' s' /\ H l = none /\ (upd H l (.lst [.bl true])) p = none /\ H' = upd (upd H l (.lst [.bl true])) p (.tup [.str "refused", .int 0])) (fun _ _ => False) s := by
 obtain ⟨f, fd, ps, hps, hm, hk, hb, run⟩ := F.ex
 obtain ⟨g1, g2, g3⟩ := okGl.gl C o2
 obtain ⟨e1, e2, e3, e4⟩ := okVar.at o1
 have pE : PE (inX X a) (.Name "_law_e" pb) (Dy 3) := Cg (X := inX X a) (by show X.N[3]? = _; rw [C.hN]; exact e1) (by show Vis X.env.scope _; rw [C.hs]; exact e2) e3 e4
 refine wpAny_execs_cons (wpAny_Return_some ?_)
 refine wpAny_Call_Name_kw (Dk (X := inX X a) I g1 (by show X.mg _ = _; rw [C.hmg]; exact hm) ?_ g2)
 have hk' : PySem.W.keepIn (inX X a).K (.ref f) = true := by show PySem.W.keepIn X.K _ = _; rw [C.hK]; exact hk
 have hb' : Binds (inX X a).K fd ps [] := by show Binds X.K fd ps []; rw [C.hK]; exact hb
 refine PySem.W.callWith_K (h₀ := X.base) I.ok.mod.kin hk' (thn ((F6 pE M9 he) pc pins s Z H (fun vs H1 => vs = [.ref a] /\ H1 = H) I ⟨.ref a, hσ, rfl, rfl⟩) fun us s1 ⟨vs, H1, I1, r, ev, eH⟩ => ⟨I1.kIn, ?_⟩) he hpl
 subst ev eH
 have hl : (us ++ []).length = ps.length := by rw [List.append_nil, <- r.length, hps]; rfl
 have hbt := hb' s1 us I1.kIn hl
 rw [List.append_nil] at hbt
 have rm : Room j (Mc (X.A.mark (some (.ref a)))) := by
   have := C.room.mono hj; exact ⟨rfl, this.dp, this.un, this.gd⟩
 have e0 : Env0 P w K mg base (X.A.mark (some (.ref a))) X.stack s1 H1 := by
   have := I1.env0; rw [<- C.hP, <- C.hw, <- C.hK, <- C.hmg, <- C.hb]; exact this
 refine wpAny_call (codeAny_mono (M := model X.prog X.w) (by rw [C.hP, C.hw]; exact run (Q := fun v H' => ∃ l p, v = .ref p /\ H1 l = none /\ (upd H1 l (.lst [.bl true])) p = none /\ H' = upd (upd H1 l (.lst [.bl true])) p (.tup [.str "refused", .int 0])) (E := fun _ _ _ => False) rm e0 hbt r hH fun l p h1 h2 => ⟨l, p, rfl, h1, h2, rfl⟩) fun r s' hq => ?_)
 cases r with
 | error e => exact (show False from hq).elim
 | ok fl =>
   cases fl with
   | ret u =>
     have hq' : CE X.stack X.prog X.w H1 s1 (fun v H' => ∃ l p, v = .ref p /\ H1 l = none /\ (upd H1 l (.lst [.bl true])) p = none /\ H' = upd (upd H1 l (.lst [.bl true])) p (.tup [.str "refused", .int 0])) u s' := by
       rw [C.hP, C.hw]; exact hq
     obtain ⟨v, H', J, rv, l, p, e1, h1, h2, h3⟩ := I1.after hq'; subst e1
     cases (show u = Value.ref p from rv)
     exact ⟨l, p, H', rfl, J, h1, h2, h3⟩
   | next => exact (show False from hq).elim
   | brk => exact (show False from hq).elim
   | cont => exact (show False from hq).elim
end
end Sm
end
section
namespace Sm
open PySem PySem.Spec PyProof.Rows PySem.W L2
noncomputable def Y7 : PyData := .tuple [.str "refused", .int 0]
noncomputable def Yb (m0 m1 : List PyData -> Res PyData) : Dn -> Out := fun δ => M8 (A2 0 δ) fun wy => M8 ((A0 (A2 1) (A0 (A2 2) A7)) δ) fun ds =>
 match (match wy with | .int 0 => m0 ds | .int 1 => m1 ds | _ => .no) with
 | .ok d => .rt d
 | .exc _ => .rt Y7
 | .no => .no
noncomputable def Yy (N : List Str) (sc : Scope) (df : Bool) : Bool := okVar N sc 0 "_law_way" && okVar N sc 1 "_law_book_here" && okVar N sc 2 "_law_one" && okGl sc "depth" && okGl sc "named_in" && okGl sc "MarkError" && okGl sc "_law_refused" && okSet N sc df 3 "_law_e" && okVar N sc 3 "_law_e" && decide (sc.names.lookup ("_law_e" : Str) = some NameKind.local)
theorem aV {X : Cx} {CX : CXT} {j : Nat} {f : Addr} {fd : FuncData} {ps : List Str} {sp : Sp} {E : XK} {pos : Pos} {e : Expr} {es : List Expr} {t : TA} {pins : List (Addr × Obj)} {Z : St} {H : Hp} {s : Shared} {Q : VK}
   (F : FnOk X.prog X.w X.K X.mg X.base CX j f fd ps sp) (hr : Room j X.A) (hk : PySem.W.keepIn X.K (.ref f) = true) (hb : Binds X.K fd ps []) (ha : PA X (e :: es) t) (I : Inv X pins Z H s) (h : t Z H fun vs H1 => sp vs H1 Q E)
   (hx : ∀ H1 s1 e s', Inv X pins Z H1 s1 -> CX X.stack H1 s1 E e s' -> X.xe e s') (he : starEach (e :: es) X.env = (false, eval e X.env) :: starEach es X.env) (hpl : (backTo pos (starEach es X.env)).any (·.1) = false) :
   wpAny (model X.prog X.w) X.A (callWith pos (.ref f) [] (backTo pos (starEach (e :: es) X.env)) (backToKw pos (keywordEach [] X.env))) (EP X pins Z Q) X.xe s := by
 refine PySem.W.callWith_K (h₀ := X.base) I.ok.mod.kin hk (thn (ha pos pins s Z H _ I h) fun us s1 ⟨vs, H1, I1, r, q⟩ => ⟨I1.kIn, ?_⟩) he hpl
 have hl : (us ++ []).length = ps.length := by rw [List.append_nil, <- r.length]; exact F.len _ _ _ _ q
 have hbt := hb s1 us I1.kIn hl
 rw [List.append_nil] at hbt
 refine wpAny_call (codeAny_mono (F.run X.A X.stack s1 H1 ⟨us, []⟩ us vs Q E hr I1.env0 hbt r q) fun r s' hq => ?_)
 cases r with
 | error e => exact hx H1 s1 e s' I1 hq
 | ok fl =>
   cases fl with
   | ret u => exact I1.after hq
   | next => exact False.elim hq
   | brk => exact False.elim hq
   | cont => exact False.elim hq
theorem aU {M : Model} {A : Around} {E : Value -> Shared -> Prop} {s : Shared} {v sl : Expr} {p pos : Pos} {args : List Expr} {env : Env} {Q : Value -> Shared -> Prop} (h : wpAny M A (eval (.Subscript v sl p) env) (fun f s1 => wpAny M A (callWith pos f [] (backTo pos (starEach args env)) (backToKw pos (keywordEach [] env))) Q E s1) E s) :
   wpAny M A (eval (.Call (.Subscript v sl p) args [] pos) env) Q E s := by
 show wpAny M A (eval (.Subscript v sl p) env >>= fun f => callWith pos f [] (backTo pos (starEach args env)) (backToKw pos (keywordEach [] env))) Q E s
 exact wpAny_bind h
end Sm
end
section
namespace Sm
open PySem PySem.Spec PyProof.Rows PySem.W L2
section
variable {P : Program} {w : World} {K : PySem.W.Frag} {mg : Str -> Option Value} {base : Heap} {X : Cx} {N : List Str} {sc : Scope} {k : Nat} {df : Bool} {CN CM : Addr}
theorem fU {m0 m1 : List PyData -> Res PyData} {j0 j1 j2 : Nat} {q1 q2 q3 q4 q5 q6 q7 q8 q9 q10 q11 q12 q13 q14 q15 pos : Pos} (C : Cxt P w K mg base X N sc k df) (hst : X.stack = X.env :: X.outer /\ X.env.frame = some X.env.locals) (hex : X.ex = []) (XX : XSet1 K mg CN CM) (F0 : FnX P w K mg base CN "depth" j0 2 m0) (h0 : j0 <= k) (F1 : FnX P w K mg base CN "named_in" j1 2 m1) (h1 : j1 <= k) (FR : FnE P w K mg base CN "_law_refused" j2) (h2 : j2 <= k) (ok : Yy N sc df = true)
   (he : starEach [.Name "_law_e" q12] X.env = (false, eval (.Name "_law_e" q12) X.env) :: starEach [] X.env := by rfl) (hpl : (backTo q13 (starEach [] X.env)).any (·.1) = false := by rfl) :
   DS X E0k (.Try [.Return (some (.Call (.Subscript (.List [.Name "depth" q1, .Name "named_in" q2] q3) (.Name "_law_way" q4) q5) [.Name "_law_book_here" q6, .Name "_law_one" q7] [] q8)) q9] [.ExceptHandler (some (.Name "MarkError" q10)) (some "_law_e") [.Return (some (.Call (.Name "_law_refused" q11) [.Name "_law_e" q12] [] q13)) q14] q15] [] [] pos) (Yb m0 m1) := fun G0 H0 pins s Z H D I ⟨G, δ, S, aft⟩ => by
 unfold Yy at ok
 simp only [Bool.and_eq_true, decide_eq_true_eq] at ok
 obtain ⟨⟨⟨⟨⟨⟨⟨⟨⟨o0, o1⟩, o2⟩, o3⟩, o4⟩, o5⟩, o6⟩, o7⟩, o8⟩, o9⟩ := ok
 obtain ⟨w1, w2, w3, w4⟩ := okVar.at o0
 obtain ⟨a1, a2, a3, a4⟩ := okVar.at o1
 obtain ⟨b1, b2, b3, b4⟩ := okVar.at o2
 obtain ⟨d1, d2, d3⟩ := okGl.gl C o3
 obtain ⟨n1, n2, n3⟩ := okGl.gl C o4
 obtain ⟨m1', m2', m3'⟩ := okGl.gl C o5
 obtain ⟨t1, t2, t3, t4⟩ := okSet.ok C o7
 obtain ⟨f0, fd0, ps0, hps0, Ff0, hm0, hk0, hb0⟩ := F0.ex
 obtain ⟨f1, fd1, ps1, hps1, Ff1, hm1, hk1, hb1⟩ := F1.ex
 refine wpAny_Try_except ?_
 generalize hEw : (fun (e : Value) (s₁ : Shared) => wpAny (model X.prog X.w) X.A (noteFrame e X.env) (fun _ s₂ => wpAny (model X.prog X.w) X.A (setFlight e none) (fun _ s₃ => wpAny (model X.prog X.w) X.A (handleBy e X.env _) (SP X pins D) X.xe s₃) X.xe s₂) X.xe s₁) = Ew
 have da : DA (X.wish Ew) E0k [.Name "_law_book_here" q6, .Name "_law_one" q7] 2 (A0 (A2 1) (A0 (A2 2) A7)) :=
   A3 (Ri (X := X.wish Ew) (by show X.N[1]? = _; rw [C.hN]; exact a1) (by show Vis X.env.scope _; rw [C.hs]; exact a2) a3 a4) (A3 (Ri (X := X.wish Ew) (by show X.N[2]? = _; rw [C.hN]; exact b1) (by show Vis X.env.scope _; rw [C.hs]; exact b2) b3 b4) B0)
 have I0 : Inv (X.wish Ew) pins Z H s := I.wish Ew
 have call : ∀ {f : Addr} {fd : FuncData} {ps' : List Str} {m : List PyData -> Res PyData} {j : Nat} {H1 : Hp} {s1 : Shared} {ds : List PyData}, FnOk P w K mg base (CXe P w) j f fd ps' (spX 2 m CN) -> j <= k -> PySem.W.keepIn K (.ref f) = true -> Binds K fd ps' [] -> Inv (X.wish Ew) pins Z H1 s1 -> SSt G0 H0 G H1 Z δ ->
     (A0 (A2 1) (A0 (A2 2) A7)) δ = .ok ds ->
     (match m ds with | .ok d => ∀ v G' H', Grow G0 H0 G' H' -> Rep G' d v -> D.rt v H' | .exc _ => ∀ v G' H', Grow G0 H0 G' H' -> Rep G' Y7 v -> D.rt v H' | .no => False) ->
     wpAny (model X.prog X.w) X.A (callWith q8 (.ref f) [] (backTo q8 (starEach [.Name "_law_book_here" q6, .Name "_law_one" q7] X.env)) (backToKw q8 (keywordEach [] X.env))) (EP (X.wish Ew) pins Z D.rt) Ew s1 := by
   intro f fd ps' m j H1 s1 ds Ff hj hk hb I1 S1 ef am; have F' : FnOk (X.wish Ew).prog (X.wish Ew).w (X.wish Ew).K (X.wish Ew).mg (X.wish Ew).base (CXe P w) j f fd ps' (spX 2 m CN) := by
     show FnOk X.prog X.w X.K X.mg X.base (CXe P w) j f fd ps' (spX 2 m CN)
     rw [C.hP, C.hw, C.hK, C.hmg, C.hb]; exact Ff
   refine aV (X := X.wish Ew) (E := fun c _ H' => c = .ref CN /\ ∃ G', Grow G0 H0 G' H' /\ ∀ v G2 H2, Grow G0 H0 G2 H2 -> Rep G2 Y7 v -> D.rt v H2) F' (C.room.mono hj) (by show PySem.W.keepIn X.K _ = _; rw [C.hK]; exact hk) (by show Binds X.K fd ps' []; rw [C.hK]; exact hb) da.pa I1 ?_ ?_ rfl rfl
   . refine ⟨G, δ, S1.sr, ?_⟩
     rw [ef]; intro vs G1 H2 g1 r1; refine ⟨G1, ds, (S1.grow g1).sr.sub, r1, da.len δ ds ef, ?_⟩
     cases em : m ds with
     | ok d => rw [em] at am; exact fun v G' H' g r => am v G' H' ((S1.grow g1).gr.trans g) r
     | exc c => rw [em] at am; exact fun G' H' g => ⟨rfl, G', (S1.grow g1).gr.trans g, am⟩
     | no => rw [em] at am; exact (show False from am).elim
   . intro H1 s1 e s' I1 ⟨a, c, H', e1, e2, e3, Fl, ec, G', gr, fin⟩
     subst e1 ec; show Ew (.ref a) s'
     rw [<- hEw]; have I1x : Inv X pins Z H1 s1 := I1.unwish; have hk : ∀ {Hx : Hp} {hx : Heap}, HOk P w Hx hx -> HOk X.prog X.w Hx hx := fun z => by rw [C.hP, C.hw]; exact z
     have I2 : Inv X pins Z H' s' := I1x.call' (ch := []) e2 Fl.un (hk Fl.hok) e3 (fun b z => absurd z (by simp))
     have hfr : X.A.frames = some (X.env :: X.outer) := by rw [<- hst.1]; exact I2.ok.frames
     have hl : s'.heap.FunFrames X.base (X.env :: X.outer) := by rw [<- hst.1]; exact I2.stack
     have hfree : ∀ b ∈ frs (X.env :: X.outer), H' b = none := by rw [<- hst.1]; exact I2.stkFree
     have hfs : ∀ b ∈ frs (X.env :: X.outer), b ∈ frs X.stack \/ s1.heap.get? b = none := fun b hb => .inl (by rw [hst.1]; exact hb)
     refine Wj (P := P) (w := w) hfr hl hst.2 Fl hfree hfs fun h3 F3 ff3 => ?_
     have I3 : Inv X pins Z H' { s' with heap := h3 } := I1x.call' (s' := { s' with heap := h3 }) (ch := []) e2 F3.un (hk F3.hok) e3 (fun b z => absurd z (by simp))
     have xa : ExcAt' a CN h3 := by
       obtain ⟨oe, vs, a0, T, oT, ts, z1, z2, _⟩ := F3.fly; exact ⟨oe, z1, z2⟩
     refine wpAny_handleBy_cons (codeAny_handlers_test (Dk (X := inX X a) (Sm.Inv.inX I3 a) m1' (by show X.mg _ = _; rw [C.hmg]; exact XX.mM) ?_ m2')) (by intro q; cases q)
     refine Pk (K := K) (by have := I3.kIn; rw [C.hK] at this; exact this) xa XX.k1 XX.k2 XX.k3 XX.k4 ?_
     refine codeAny_handlers_suite_as ?_; refine Zr (P := P) (w := w) (l := X.env :: X.outer) (base := X.base) ff3 F3 hfree hfs fun h4 F4 => ?_
     obtain ⟨u4, k4⟩ := Pj F4; have I4 : Inv X pins Z (upd H' a (.ext (ExcAt' a CN))) { s' with heap := h4 } := I1x.call' (s' := { s' with heap := h4 }) (ch := []) e2 u4 (hk k4) e3 (fun b z => absurd z (by simp))
     have hl3 : 3 < Z.length := by
       rw [I1x.len, C.hN]; exact (List.getElem?_eq_some_iff.mp (okVar.at o8).1).1
     refine Hs (X := inX X a) (Sm.Inv.inX I4 a) t1 t2 t3 (v := .ref a) rfl (fun s5 I5 => ?_) t4
     refine wpAny_mono (bK C FR h2 o8 o6 I5 (by rw [List.getElem?_set_self hl3]) B3 he hpl) (fun f s6 ⟨l, p, H6, ef, J, hl0, hp0, eH⟩ => ?_) (fun _ _ z => z.elim)
     subst ef; obtain ⟨m0, hn0, _⟩ := J.loc; have kl : X.env.kindOf "_law_e" = some .local := by show X.env.scope.names.lookup _ = _; rw [C.hs]; exact o9
     refine wpAny_nameGoes kl hn0 (by rw [I1x.ok.kind]; rfl) fun h7 m7 hn7 sb7 => ?_
     have g1 : Grow G' H' G' (upd H' a (.ext (ExcAt' a CN))) := Grow.own gr.gh F4.fly.none.2; have g2 : Grow G' (upd H' a (.ext (ExcAt' a CN))) G' (upd (upd H' a (.ext (ExcAt' a CN))) l (.lst [.bl true])) := Grow.own g1.gh hl0; have g3 := Grow.new (o := .tup [.str "refused", .int 0]) g2.gh hp0; subst eH; refine ⟨.ref p, _, _, Sm.Inv.forget (Sm.Inv.outX J I1x.ok) hn7 sb7, rfl, fin (.ref p) (upd G' p (.tup [.str "refused", .int 0])) _ (((gr.trans g1).trans g2).trans g3) ?_⟩; exact ⟨p, _, rfl, B3, RepL.cons ⟨rfl, by decide +kernel, by decide +kernel⟩ (RepL.cons rfl rfl)⟩
 have pw : PE (X.wish Ew) (.Name "_law_way" q4) (Dy 0) := Cg (X := X.wish Ew) (by show X.N[0]? = _; rw [C.hN]; exact w1) (by show Vis X.env.scope _; rw [C.hs]; exact w2) w3 w4
 have pl : PE (X.wish Ew) (.List [.Name "depth" q1, .Name "named_in" q2] q3) (tLst (Cy (tC (.ref f0)) (Cy (tC (.ref f1)) Us))) := Iv (F6 (My d1 (by show X.mg _ = _; rw [C.hmg]; exact hm0) rfl d2) (F6 (My n1 (by show X.mg _ = _; rw [C.hmg]; exact hm1) rfl n2) M9))
 have px := Yq (pos := q5) (Nk (X := X.wish Ew)) pl pw (fun _ _ => rfl)
 have main : wpAny (model X.prog X.w) X.A (eval (.Call (.Subscript (.List [.Name "depth" q1, .Name "named_in" q2] q3) (.Name "_law_way" q4) q5) [.Name "_law_book_here" q6, .Name "_law_one" q7] [] q8) X.env) (EP (X.wish Ew) pins Z D.rt) Ew s := by
   refine aU ?_; unfold Yb at aft
   cases ew : A2 0 δ with
   | exc c => rw [ew] at aft; exact (show False from aft G H S.gr).elim
   | no => rw [ew] at aft; exact (show False from aft).elim
   | ok wy =>
     rw [ew] at aft; simp only [M8] at aft
     cases ef : (A0 (A2 1) (A0 (A2 2) A7)) δ with
     | exc c => rw [ef] at aft; exact (show False from aft G H S.gr).elim
     | no => rw [ef] at aft; exact (show False from aft).elim
     | ok ds =>
       rw [ef] at aft; dsimp only at aft; have hsl : ∃ v, Z[0]? = some (some v) /\ Rep G wy v := by
         unfold A2 at ew
         split at ew
         . rename_i d e
           cases ew; obtain ⟨v, e1, r⟩ := S.sr.sl 0 _ e; refine ⟨v, ?_, r⟩
           cases q : Z[0]? with
           | none => rw [q] at e1; cases e1
           | some z => rw [q] at e1; rw [show z = some v from e1]
         . cases ew
       obtain ⟨v, hσ, rv⟩ := hsl
       cases wy with
       | int n =>
         obtain rfl := (show v = .int n from rv)
         by_cases n0 : n = 0
         . subst n0
           refine thn (px pins s Z H (fun v H1 => v = .ref f0 /\ ∃ l, H l = none /\ H1 = upd H l (.lst [.ref f0, .ref f1])) I0 ⟨(show 2 <= sizeLine by decide), fun l hl => ⟨.int 0, hσ, l, _, 0, .ref f0, rfl, rfl, .inl (.inl B3), rfl, rfl, l, hl, rfl⟩⟩) fun fv s1 ⟨v, H1, I1, rv, ev, l, hl, eH⟩ => ?_
           subst ev eH
           cases (show fv = Value.ref f0 from rv)
           refine call (m := m0) Ff0 h0 hk0 hb0 I1 (S.grow (Grow.own S.sr.sub hl)) ef ?_
           cases em : m0 ds <;> rw [em] at aft <;> exact aft
         . by_cases n1' : n = 1
           . subst n1'
             refine thn (px pins s Z H (fun v H1 => v = .ref f1 /\ ∃ l, H l = none /\ H1 = upd H l (.lst [.ref f0, .ref f1])) I0 ⟨(show 2 <= sizeLine by decide), fun l hl => ⟨.int 1, hσ, l, _, 1, .ref f1, rfl, rfl, .inl (.inl B3), rfl, rfl, l, hl, rfl⟩⟩) fun fv s1 ⟨v, H1, I1, rv, ev, l, hl, eH⟩ => ?_
             subst ev eH
             cases (show fv = Value.ref f1 from rv)
             refine call (m := m1) Ff1 h1 hk1 hb1 I1 (S.grow (Grow.own S.sr.sub hl)) ef ?_
             cases em : m1 ds <;> rw [em] at aft <;> exact aft
           . exfalso
             split at aft
             . rename_i e0; split at e0
               . rename_i z; cases z; exact n0 rfl
               . rename_i z; cases z; exact n1' rfl
               . cases e0
             . rename_i e0; split at e0
               . rename_i z; cases z; exact n0 rfl
               . rename_i z; cases z; exact n1' rfl
               . cases e0
             . exact aft
       | _ => exact (show False from aft).elim
 refine wpAny_execs_cons (wpAny_Return_some (thn main fun u s1 ⟨v, H1, I1, rv, q⟩ => ?_))
 exact ⟨v, Z, H1, I1.unwish, rv, q⟩
end
end Sm
end
section
namespace Sm
open PySem PySem.Spec PyProof.Rows PySem.W L2
theorem FnX.calm {P : Program} {w : World} {K : PySem.W.Frag} {mg : Str -> Option Value} {base : Heap} {CN : Addr} {x : Str} {k n : Nat} {m : List PyData -> Res PyData} (F : FnX P w K mg base CN x k n m) : Fn P w K mg base x k n (fun ds => noX (m ds)) := by
 obtain ⟨f, fd, ps, hps, Ff, hm, hk, hb⟩ := F.ex
 refine ⟨f, fd, ps, hps, ⟨fun vs H Q E ⟨G, ds, d, hG, r, hl, _⟩ => ?_, fun A outer s H args us vs Q E hr e0 hb' r ⟨G, ds, d, hG, rr, hl, em, q⟩ => ?_⟩, hm, hk, hb⟩
 . rw [<- r.length, hl, hps]
 . have em : noX (m ds) = .ok d := em
   have sp : spX n m CN vs H Q (fun _ _ _ => False) := by
     refine ⟨G, ds, hG, rr, hl, ?_⟩
     cases q' : m ds with
     | ok d' => rw [q'] at em; cases em; exact q
     | exc c => rw [q'] at em; cases em
     | no => rw [q'] at em; cases em
   refine codeAny_mono (Ff.run A outer s H args us vs Q _ hr e0 hb' r sp) fun r s' hq => ?_
   cases r with
   | error e => obtain ⟨a, c, H', _, _, _, _, z⟩ := hq; exact z.elim
   | ok fl => cases fl <;> exact hq
noncomputable def cst : Nat -> Expr -> Option PyData
 | 0, _ => none
 | n + 1, .Constant (.int i) _ _ => some (.int i)
 | n + 1, .Constant (.str x) _ _ => if PyData.strOk x = true /\ x.length <= sizeLine then some (.str x) else none
 | n + 1, .Constant .none _ _ => some .none
 | n + 1, .Tuple es _ _ => if es.length <= sizeLine then ((es.map (cst n)).foldr (fun o r => match o, r with | some d, some ds => some (d :: ds) | _, _ => none) (some [])).map .tuple else none
 | n + 1, _ => none
noncomputable def Gw : List (Option PyData) -> Option (List PyData) := fun l => l.foldr (fun o r => match o, r with | some d, some ds => some (d :: ds) | _, _ => none) (some [])
section
variable {X : Cx} {E : EK} {e : Expr}
theorem aS {n : Nat} {d : PyData} (h : cst n e = some d) : Go e = true := by
 cases n with
 | zero => cases h
 | succ n => cases e <;> first | rfl | (exfalso; unfold cst at h; cases h)
theorem fI {n : Nat} (ih : ∀ e d, cst n e = some d -> DE X E e (vC d)) : ∀ (es : List Expr) (ds : List PyData), Gw (es.map (cst n)) = some ds -> DA X E es es.length (fun _ => .ok ds)
 | [], ds, h => by cases h; exact B0
 | e :: es, ds, h => by
   have h' : (match cst n e, Gw (es.map (cst n)) with | some d, some ds => some (d :: ds) | _, _ => none) = some ds := h
   cases q : cst n e with
   | none => rw [q] at h'; cases h'
   | some d =>
     cases q2 : Gw (es.map (cst n)) with
     | none => rw [q, q2] at h'; cases h'
     | some ds2 =>
       rw [q, q2] at h'
       cases h'; exact A3 (ih e d q) (fI ih es ds2 q2) (aS q)
theorem fG : ∀ (n : Nat) (e : Expr) (d : PyData), cst n e = some d -> DE X E e (vC d)
 | 0, _, _, h => by cases h
 | n + 1, e, d, h => by
   unfold cst at h
   split at h
   . rename_i z; cases z
   . cases h; exact A9
   . split at h
     . rename_i z; cases h; exact K6 z.1 z.2
     . cases h
   . cases h; exact Nw
   . rename_i es _ _ z
     cases z
     split at h
     . rename_i hl
       cases q : Gw (es.map (cst n)) with
       | none => rw [show (es.map (cst n)).foldr _ (some []) = none from q] at h; cases h
       | some ds =>
         rw [show (es.map (cst n)).foldr _ (some []) = some ds from q] at h
         cases h; exact L6 (fI (fG n) es ds q) hl
     . cases h
   . cases h
theorem iY {n : Nat} {d : PyData} (h : cst n e = some d) : DE X E e (vC d) := fG n e d h
end
section
variable {X : Cx} {tg elt iter : Expr} {ifs : List Expr} {scope : Scope} {pos : Pos} {wi : TI} {g : TG} {tt : TT} {te : TE} {xs capN : List Str} {cap : List Nat}
theorem Ou {i : Nat} {y z : Str} {py spos : Pos} (hc : X.calm = true) (F : X.Ok -> CompFacts2 X scope xs capN cap z) (hi : PI X tg iter wi)
   (hg : ∀ X', Blk2 X X' (xs ++ capN) (relabel scope X.env) z -> PG X' tg g) (ht : ∀ X', Blk2 X X' (xs ++ capN) (relabel scope X.env) z -> PTs X' ifs tt) (he : ∀ X', Blk2 X X' (xs ++ capN) (relabel scope X.env) z -> PE X' elt te)
   (hN : X.N.Nodup) (hy : X.N[i]? = some y) (hl : X.env.scope.names.lookup y = some .local) (hsw : swapsWith (.ListComp elt [⟨tg, iter, ifs, 0⟩] scope pos) (some (.Name y py)) spos.line X.env = pure true)
   (hs : ∀ x, foldedSetIterable iter X.env x = pure x := by intro _; rfl) : PS X (.Assign [.Name y py] (.ListComp elt [⟨tg, iter, ifs, 0⟩] scope pos) spos) (fR (Kt wi (fun Z => xs.map (fun _ => none) ++ Q9 Z cap) g tt te) (X2 i)) := by
 intro pins s Z H D0 I h
 rw [exec_Assign_Name_used _ _ _ _ hsw]
 refine wpAny_bind (wpAny_standAt (wpAny_bind ?_))
 show wpAny _ _ (do let _ <- comprehension (.ListComp elt [⟨tg, iter, ifs, 0⟩] scope pos) scope X.env _ (newList []) false (eval iter X.env) (some (assign (.Name y py) X.env))) _ _ s
 refine wpAny_bind (wpAny_mono (Wg (use := some (assign (.Name y py) X.env)) (Q := fun _ s' => SP X pins D0 .next s') hc (F I.ok) hi hg ht he hs I h fun s' H' D C m I' hm ⟨c1, c2, c3, c4, c5⟩ q => ?_) (fun _ s' hq => wpAny_pure (wpAny_pure hq)) fun _ _ e => e)
 show wpAny _ _ (assign (.Name y py) X.env (.ref D)) _ _ s'
 refine wpAny_assign_Name (Eb I' hN hy (.inl hl) (v := .ref D) rfl (fun s'' I'' ⟨a, sa, ea⟩ => ?_) (.inr hl))
 have haC : a ≠ C := by
   rcases ea with z | z
   . rw [z]; exact Ne.symm c3
   . exact c4 _ _ z
 refine ⟨m, hm.sameBut sa (Ne.symm haC), fun h' sb => ?_⟩
 exact ⟨_, H', I''.turned (t' := s''.toks) (fun b o hb e => (sb.2 b hb).trans e) c1 c3 (.inr c2) c4 c5, q⟩
end
section
variable {P : Program} {w : World} {K : PySem.W.Frag} {mg : Str -> Option Value} {base : Heap} {X : Cx} {N : List Str} {sc scope : Scope} {k : Nat} {df : Bool} {E : EK} {pos px py spos : Pos} {elt iter : Expr} {ifs : List Expr} {el : Dn -> Res PyData} {src : Dn -> Res (List PyData)} {tt : Dn -> Res Bool} {x y : Str}
theorem On (C : Cxt P w K mg base X N sc k df) (i : Nat) (hset : okSet N sc df i y = true) (hsw : Ep sc scope y py.line pos.line = true) (cap : List Nat) (capN : List Str) (ho : Sz N sc scope x capN cap = true) (hi : DI X E (.Name x px) iter src)
   (ht : ∀ X', Cxt P w K mg base X' ([x] ++ capN) (Az scope sc) k false -> DTs X' E0k ifs tt) (he : ∀ X', Cxt P w K mg base X' ([x] ++ capN) (Az scope sc) k false -> DE X' E0k elt el)
   (hs : ∀ x, foldedSetIterable iter X.env x = pure x := by intro _; rfl) : DS X E (.Assign [.Name y py] (.ListComp elt [⟨.Name x px, iter, ifs, 0⟩] scope pos) spos) (Oo i (E6 src B8 cap tt el)) := fun G0 H0 => by
 obtain ⟨g1, g2, g3, g4⟩ := okSet.ok C hset
 unfold Sz at ho
 simp only [Bool.and_eq_true, List.all_eq_true, decide_eq_true_eq] at ho
 obtain ⟨⟨⟨⟨⟨⟨⟨⟨⟨h1, h2⟩, h3⟩, h4⟩, h5⟩, h6⟩, h7⟩, h8⟩, h9⟩, h10⟩ := ho
 have F : X.Ok -> CompFacts2 X scope [x] capN cap x := fun ok => by
   refine ⟨h1, h2, h3, aT ok h2 fun y hy hf => ?_, by rw [C.hN]; exact h5, fun z hz => ?_, fun z hz => ?_, fun z hz e => ?_⟩
   . rw [C.hs]; exact h4 y hy hf
   . rw [Ms C.hs]; exact h6 z hz
   . rw [C.hs]; exact h7 z hz
   . subst e
     simp only [List.singleton_append, List.nodup_cons] at h8; exact h8.1 hz
 have hl : X.env.scope.names.lookup y = some .local := by
   rw [C.hs]; unfold Ep at hsw; simp only [Bool.and_eq_true, decide_eq_true_eq] at hsw; exact hsw.1.1.2
 refine PS.imp (Ou (g := X2 0) C.calm F hi (fun X' B => ?_) (fun X' B => ht X' (C.blk B.b)) (fun X' B => he X' (C.blk B.b)) g1 g2 hl (Ku C hsw) hs) fun D Z H h => Mf (m := 1) rfl h10 gok1 (Tb h)
 have C' := C.blk B.b
 have hl : X'.env.scope.names.lookup x = some .cell := by rw [C'.hs]; exact h9
 exact Bm (by rw [C'.hN]; exact h8) (by rw [C'.hN]; rfl) (.inr hl) (.inl B.fn)
end
end Sm
end
section
namespace Sm
open PySem PySem.Spec PyProof.Rows L2
noncomputable def Aj : PyData -> Bool
 | .none => true
 | .int i => decide (i.natAbs.log2 < 1920) && decide ((Str.ofString (toString i)).length <= 1000)
 | .str x => decide ((reprText x).length <= 1000)
 | _ => false
noncomputable def Sh (f : Dn -> Res PyData) : Dn -> Out := fun δ => M8 (f δ) fun d => if Er d = true \/ Aj d = true then .exc "NoDeed" else .no
section
variable {P : Program} {w : World} {K : PySem.W.Frag} {mg : Str -> Option Value} {base : Heap} {X : Cx} {N : List Str} {sc : Scope} {k : Nat} {df : Bool} {pos p p2 : Pos} {a : Expr} {f : Dn -> Res PyData} {CN : Addr} {Ex : XK}
theorem Xx {z : Str} {j : Nat} {np cpos p3 p4 : Pos} (C : Cxt P w K mg base X N sc k df) (L : Lv X Ex) (hex : X.ex = []) (hgd : X.A.guards = some []) (O : ExcAt K mg "NoDeed" CN) (h : okGl sc "NoDeed" = true) (ha : DE X (eX CN Ex) a f) (hz : z.length <= 1000 := by decide +kernel) :
   DS X (eX CN Ex) (.Raise (some (.Call (.Name "NoDeed" np) [.JoinedStr [.Constant (.str z) j p, .FormattedValue a 114 none p2] p3] [] cpos)) none pos) (Sh f) := fun G0 H0 pins s Z H D I ⟨G, δ, S, aft⟩ => by
 obtain ⟨g1, g2, g3⟩ := okGl.gl C h
 have KX : X.K = K := C.hK
 obtain ⟨bm, Nn, nm, q, bs, hdct, sn, sub, ab, col, dd, k0, k1, k2, k3, k5, mN, hC, hN, hni, T⟩ := (O.own (h := X.base) (by rw [<- KX]; exact I.mod.kin)).obj
 have FB := PySem.F.excBase_ValueError
 refine wpAny_Raise_call_subT (C := CN) (nm := nm) (q := q) (N := Nn) (bs := bs) (bm := bm) (hdct := hdct) (sn := sn) (sub := sub) (ab := ab) (col := col) (dd := dd) (k0 := k0) (k1 := k1) (k2 := k2) (k3 := k3) (k5 := k5) FB (mN := mN) (T.hasType FB.hasBase) (I.ok.hd C.calm) rfl hni (Dk I g1 (by rw [C.hmg]; exact O.bound) ⟨rfl, ?_⟩ g2)
 refine Calls.evalArgs_plain (Calls.spliced_cons ?_)
 rw [if_neg (by decide)]
 refine JoinedStr_many (pos := p3) (joinParts_cons (Calls.Constant_str ?_))
 have sz : (2000 : Nat) <= sizeLine := by decide
 have l0 : (Str.empty ++ z).length <= 1000 := by rw [PySem.strLen_append]; exact (show Str.empty.length + z.length <= 1000 from by have : Str.empty.length = 0 := rfl; omega)
 refine ⟨by omega, joinParts_cons (fmt_r ?_)⟩
 refine thn (ha pins _ Z H (fun v H1 => ∃ G1 d, Rep G1 d v /\ SSt G0 H0 G1 H1 Z δ /\ (Er d = true \/ Aj d = true) /\ ∀ G' H', Grow G0 H0 G' H' -> Ex (.ref CN) none H') (I.tok _) (Ap S aft fun d v G1 H1 g1 r1 S1 a1 => ?_)) fun u s1 ⟨v, H1, I1, rv, G1, d, rd, S1, ok, hE⟩ => ?_
 . split at a1
   . rename_i ok
     exact ⟨G1, d, r1, S1, ok, fun G' H' g => a1 G' H' g⟩
   . exact (show False from a1).elim
 . suffices tail : ∀ (y : Str) (u : Tok) (s2 : Shared), y.length <= 1000 -> Inv X pins Z H1 s2 -> wpAny (model X.prog X.w) _ (formatField (.str y u) Str.empty) _ _ s2 by
     rcases ok with ok | ok
     . unfold Er at ok
       simp only [Bool.and_eq_true, Bool.not_eq_true', decide_eq_true_eq] at ok; obtain ⟨⟨⟨⟨o1, o2⟩, o3⟩, o4⟩, o5⟩ := ok; obtain ⟨as, rr⟩ := rd.reads I1 S1.sr.sub rv; obtain ⟨aa, rfl⟩ := isRef_of_reads rr o1; exact pyReprObj_of_reads rr o2 (PyData.noDict_hsm o3) hgd (by have := C.hu; omega) (fun _ _ e => e) (fun h1 u2 tk hk => tail _ _ _ o4 (I1.kept hk)) (by omega)
     . cases d with
       | none =>
         cases (show v = .non from rd)
         cases (show u = Value.none from rv)
         exact pyReprObj_none (tail _ _ _ (by decide) (I1.tok _))
       | int i =>
         cases (show v = .int i from rd)
         obtain ⟨t, rfl⟩ := (show ∃ t, u = Value.int i t from rv)
         unfold Aj at ok; simp only [Bool.and_eq_true, decide_eq_true_eq] at ok; exact pyReprObj_int ok.1 (tail _ _ _ ok.2 (I1.tok _))
       | str x =>
         cases (show v = .str x from rd.1)
         obtain ⟨t, rfl⟩ := (show ∃ t, u = Value.str x t from rv)
         unfold Aj at ok; simp only [decide_eq_true_eq] at ok; exact pyReprObj_str (tail _ _ _ ok (I1.tok _)) (by omega)
       | _ => cases ok
   intro y u s2 o4 I2; refine formatField_str (fun t2 tk2 => ?_) (by omega)
   have l1 : (Str.empty ++ z ++ y).length <= 2000 := by rw [PySem.strLen_append]; omega
   refine ⟨by omega, joinParts_nil ?_ (by omega)⟩
   have I2 : Inv X pins Z H1 { s2 with toks := tk2 + 1 } := I2.tok _; refine Calls.spliced_nil ⟨rfl, (show (1 : Nat) <= sizeLine by decide), I2.bk _ _ hC, hN.keeps I2.bk, T.keeps I2.bk, fun h2 e2 mk => ?_⟩
   have I3 : Inv X pins Z H1 { s2 with heap := h2, toks := tk2 + 1 } := I2.kept mk.keeps; refine L pins Z H1 _ e2 (.ref CN) I3 (.inl ?_) (hE G1 H1 S1.gr); obtain ⟨t, ht, _, _⟩ := mk.there; refine ⟨_, _, .ref t, ht, rfl, rfl, rfl, ?_, HOk.gone I2.hok mk.new, rfl⟩
   cases q : X.s₀.heap.get? e2 with
   | none => rfl
   | some o =>
     obtain ⟨o', z'⟩ := I2.base.there e2 o q (by rw [hex]; simp)
     have := mk.new; rw [z'] at this; cases this
end
end Sm
end
section
namespace Sm
open PySem PySem.Spec PyProof.Rows L2
def top (i : Nat) : Stmt := PySem.Challenge.pw_staymark_k46_depths.main.body.getD i (.Pass ⟨0, 0, 0, 0⟩)
def stm (i j : Nat) : Stmt := (B9 (top i)).getD j (.Pass ⟨0, 0, 0, 0⟩)
structure Txt (mg : Str -> Option Value) : Prop where
 b_ValueError : mg "ValueError" = none
 b_dict : mg "dict" = none
 b_enumerate : mg "enumerate" = none
 b_int : mg "int" = none
 b_isinstance : mg "isinstance" = none
 b_len : mg "len" = none
 b_list : mg "list" = none
 b_max : mg "max" = none
 b_range : mg "range" = none
 b_reversed : mg "reversed" = none
 b_sorted : mg "sorted" = none
 b_tuple : mg "tuple" = none
noncomputable def L9 : List Str := ["deed", "named"]
noncomputable def R4 : Dn -> Out := (K2 1 (D2 A7))
noncomputable def R3 : Dn -> Out := (sIf (C9 (b2 (b2 (A2 0) (vC (.int 0)) dIx) (vC (.str "add")) dEq)) (K2 1 (D2 (A0 (b2 (A2 0) (vC (.int 2)) dIx) A7))) (sIf (C9 (b2 (b2 (A2 0) (vC (.int 0)) dIx) (vC (.str "drop")) dEq)) (K2 1 (vFn (A0 (b2 (A2 0) (vC (.int 2)) dIx) A7) Be)) (sIf (C9 (b2 (b2 (A2 0) (vC (.int 0)) dIx) (vC (.str "mark")) dEq)) (K2 1 (D2 (A0 (b2 (b2 (A2 0) (vC (.int 3)) dIx) (vC (.int 0)) dIx) (A0 (b2 (b2 (A2 0) (vC (.int 4)) dIx) (vC (.int 0)) dIx) A7)))) L4)))
noncomputable def R1 : Dn -> Out := (N9 (D2 (E6 (fun δ => ((A2 1) δ).bind E8) B8 [] (fun δ => ((A2 0) δ).bind fun d => .ok (!N0 d)) (A2 0))))
noncomputable def T4 : Dn -> Out := (E1 R4 (E1 R3 R1))
noncomputable def P1 : List PyData -> Res PyData := fnD L9 T4
noncomputable def P5 : List Str := ["deed"]
noncomputable def P6 : Dn -> Out := (E1 (sIf (C9 (b2 (b2 (A2 0) (vC (.int 0)) dIx) (vC (.str "undo")) dEq)) (N9 (D2 (A0 (b2 (A2 0) (vC (.int 2)) dIx) A7))) L4) (N9 (D2 (E6 (fun δ => ((B7 (A0 (A2 0) A7) P1) δ).bind E8) B8 [] F8 (b2 (A2 0) (vC (.int 0)) dIx)))))
noncomputable def C3 : List PyData -> Res PyData := fnD P5 P6
noncomputable def I9 : List Str := ["book", "which"]
noncomputable def K5 : Dn -> Out := (sIf (C9 (b2 (A2 1) (D2 (E6 (fun δ => ((A2 0) δ).bind E8) B8 [] F8 (b2 (A2 0) (vC (.int 1)) dIx))) (dIn true))) (Sh (A2 1)) L4)
noncomputable def B2 : List PyData -> Res PyData := fnD I9 K5
noncomputable def X4 : List Str := ["book", "depths", "deed"]
noncomputable def Y1 : Dn -> Res Kvs := (Wt (Si 1) (Wt (T7 (fun δ => ((A2 0) δ).bind E8) (st1 2) (Ek 1 (b2 (A2 2) (vC (.int 1)) dIx) (b1 (D2 (E6 (fun δ => ((B7 (A0 (A2 2) A7) C3) δ).bind E8) B8 [1] F8 (b2 (Q1 1 (A2 0)) (vC (.int 1)) C2))) (Fp 0)))) (fL 1)))
noncomputable def O3 : List PyData -> Res Kvs := fnW X4 Y1
noncomputable def Bq : List Str := ["book", "which"]
noncomputable def Ej : Dn -> Out := (E1 (Mo (B7 (A0 (A2 0) (A0 (A2 1) A7)) B2)) (N9 (Wv (Qf (A0 (A2 0) A7) O3) (A2 1))))
noncomputable def Q3 : List PyData -> Res PyData := fnD Bq Ej
noncomputable def Ka : List Str := ["book", "depths", "told", "which"]
noncomputable def Cd : Dn -> Out := (dL (Wo (A0 (A2 0) A7) O3))
noncomputable def P2 : List PyData -> Res PyData := fnD Ka Cd
noncomputable def O5 : List Str := ["book", "which", "reached", "deed", "named"]
noncomputable def Y0 : Dn -> Out := (Mo (B7 (A0 (A2 0) (A0 (A2 1) A7)) B2))
noncomputable def X9 : Dn -> Out := (Mp 2 (A2 1) (vC (.bool true)))
noncomputable def X8 : Dn -> Out := (T7 (fun δ => ((A2 0) δ).bind Kv) (st1 3) (sIf (C9 (Me 2 (b2 (A2 3) (vC (.int 1)) dIx))) (T7 (fun δ => ((Cb (A0 (A2 3) A7) C3) δ).bind E8) (st1 4) (Ek 2 (A2 4) (vC (.bool true)))) L4))
noncomputable def X7 : Dn -> Out := (N9 (D2 (E6 (fun δ => ((A2 0) δ).bind E8) B8 [2, 1] (Cs (C9 (Me 1 (b2 (A2 0) (vC (.int 1)) dIx))) (C9 (b2 (b2 (A2 0) (vC (.int 1)) dIx) (A2 2) dNe))) (b2 (A2 0) (vC (.int 1)) dIx))))
noncomputable def Ag : Dn -> Out := (E1 Y0 (E1 X9 (E1 X8 X7)))
noncomputable def K8 : List PyData -> Res PyData := fnD O5 Ag
noncomputable def X5 : List Str := ["_law_script", "_law_k"]
noncomputable def Y3 : Dn -> Out := (E1 (sIf (C9 (b2 (A2 0) (D2 A7) dEq)) (N9 (b2 (vC (.int 7)) (A2 1) L8)) L4) (N9 (b2 (b2 (A2 0) (b2 (A2 1) (vFn (A0 (A2 0) A7) Ab) Kq) dIx) (b2 (vC (.int 6553)) (b2 (A2 1) (vFn (A0 (A2 0) A7) Ab) Fq) L8) C2)))
noncomputable def S9 : List PyData -> Res PyData := fnD X5 Y3
noncomputable def U1 : List Str := ["_law_script", "_law_k", "_law_many", "_law_cell_here"]
noncomputable def V8 : Dn -> Out := (E1 (K2 3 (b2 (b2 (b2 (b2 (B7 (A0 (A2 0) (A0 (A2 1) A7)) S9) (vC (.int 2147483563)) Kq) (vC (.int 69069)) L8) (b2 (vC (.int 104723)) (b2 (A2 1) (vC (.int 1)) C2) L8) C2) (vC (.int 2147483563)) Kq)) (E1 (K2 3 (b2 (b2 (b2 (A2 3) (A2 3) L8) (b2 (A2 3) (vC (.int 3)) Fq) C2) (vC (.int 2147483399)) Kq)) (N9 (b2 (b2 (b2 (b2 (b2 (A2 3) (A2 3) L8) (b2 (A2 3) (vC (.int 7)) Fq) C2) (vC (.int 2147483647)) Kq) (vC (.int 11)) Fq) (A2 2) Kq))))
noncomputable def A6 : List PyData -> Res PyData := fnD U1 V8
noncomputable def N6 : List Str := ["_law_script", "_law_at", "_law_found", "_law_k", "_law_word"]
noncomputable def T3 : Dn -> Out := (Yc 2 A7)
noncomputable def T2 : Dn -> Out := (T7 (fun δ => ((A0 (vC (.int 3)) A7) δ).bind Y6) (st1 3) (E1 (K2 4 (b2 (b2 (vC (.str "abcdefghijklmnopqrstuvwxyz")) (B7 (A0 (A2 0) (A0 (b2 (A2 1) (b2 (vC (.int 2)) (A2 3) L8) C2) (A0 (vC (.int 26)) A7))) A6) dIx) (B7 (A0 (A2 0) (A0 (b2 (b2 (A2 1) (b2 (vC (.int 2)) (A2 3) L8) C2) (vC (.int 1)) C2) (A0 (vC (.int 2)) A7))) A6) L8)) (Yd 2 (b2 (D2 (A0 (b2 (A2 4) (b2 (vC (.str "xyz")) (A2 3) dIx) C2) (A0 (b2 (b2 (vC (.str "xyz")) (A2 3) dIx) (A2 4) C2) A7))) (B7 (A0 (A2 0) (A0 (b2 (A2 1) (vC (.int 6)) C2) (A0 (vC (.int 2)) A7))) A6) dIx))))
noncomputable def T1 : Dn -> Out := (sFz 2 (N9 (A2 2)))
noncomputable def V7 : Dn -> Out := (E1 T3 (E1 T2 T1))
noncomputable def O8 : List PyData -> Res PyData := fnD N6 V7
noncomputable def T9 : List Str := ["_law_script", "_law_at"]
noncomputable def V5 : Dn -> Out := (N9 (Wu "" (D2 (E6 (fun δ => ((A0 (b2 (vC (.int 1)) (B7 (A0 (A2 0) (A0 (b2 (A2 1) (vC (.int 4)) C2) (A0 (vC (.int 4)) A7))) A6) C2) A7) δ).bind Y6) B8 [0, 1] F8 (b2 (vC (.str "ab cd~ <")) (B7 (A0 (A2 1) (A0 (b2 (A2 2) (A2 0) C2) (A0 (vC (.int 8)) A7))) A6) dIx)))))
noncomputable def E2 : List PyData -> Res PyData := fnD T9 V5
noncomputable def U0 : List Str := ["_law_book_here", "_law_found", "_law_deed_here"]
noncomputable def V6 : Dn -> Out := (E1 (K2 1 (D2 A7)) (E1 (T7 (fun δ => ((A2 0) δ).bind E8) (st1 2) (sIf (C9 (b2 (b2 (A2 2) (vC (.int 0)) dIx) (vC (.str "add")) dEq)) (K2 1 (b2 (A2 1) (D2 (E6 (fun δ => ((A0 (vFn (A0 (b2 (A2 2) (vC (.int 3)) dIx) A7) Ab) A7) δ).bind Y6) B8 [2] F8 (K3 (A0 (b2 (A2 1) (vC (.int 1)) dIx) (A0 (A2 0) A7))))) C2)) L4)) (N9 (A2 1))))
noncomputable def E3 : List PyData -> Res PyData := fnD U0 V6
noncomputable def S6 : List Str := ["_law_script", "_law_at", "_law_signs_here", "_law_sign"]
noncomputable def T6 : Dn -> Out := (E1 (K2 3 (b2 (b2 (D2 (A0 (vC .none) A7)) (A2 2) C2) (B7 (A0 (A2 0) (A0 (A2 1) (A0 (b2 (vFn (A0 (A2 2) A7) Ab) (vC (.int 1)) C2) A7))) A6) dIx)) (N9 (K3 (A0 (A2 3) (A0 (b2 (vC (.str "lr")) (B7 (A0 (A2 0) (A0 (b2 (A2 1) (vC (.int 1)) C2) (A0 (vC (.int 2)) A7))) A6) dIx) A7)))))
noncomputable def D1 : List PyData -> Res PyData := fnD S6 T6
noncomputable def F9 : List Str := ["_law_script", "_law_at", "_law_one", "_law_known", "_law_names_here", "_law_signs_here", "_law_way", "_law_behind", "_law_some", "_law_ends"]
noncomputable def V0 : Dn -> Out := (K2 5 (B7 (A0 (A2 3) A7) E3))
noncomputable def U9 : Dn -> Out := (K2 6 (B7 (A0 (A2 0) (A0 (A2 1) (A0 (vC (.int 12)) A7))) A6))
noncomputable def U8 : Dn -> Out := (sIf (Cs (C9 (b2 (A2 6) (vC (.int 2)) (W5 .Lt))) (C9 (b2 (A2 5) (D2 A7) dNe))) (E1 (Oo 8 (E6 (fun δ => ((A0 (A2 5) A7) δ).bind Jf) Fs [0, 1] (C9 (b2 (B7 (A0 (A2 2) (A0 (b2 (b2 (A2 3) (vC (.int 20)) C2) (A2 0) C2) (A0 (vC (.int 4)) A7))) A6) (vC (.int 0)) dEq)) (A2 1))) (N9 (K3 (A0 (vC (.str "drop")) (A0 (A2 2) (A0 (vFn (A0 (b2 (A2 8) (b2 (vSl (A2 5) Ix (Iw (vC (.int 1)))) (vFn (A0 (b2 (A2 8) (D2 A7) dEq) A7) Ds) L8) C2) A7) Bx) A7)))))) L4)
noncomputable def U7 : Dn -> Out := (sIf (C9 (b2 (A2 6) (vC (.int 5)) (W5 .Lt))) (E1 (K2 9 (K3 (A0 (B7 (A0 (A2 0) (A0 (b2 (A2 1) (vC (.int 1)) C2) (A0 (A2 5) A7))) D1) (A0 (B7 (A0 (A2 0) (A0 (b2 (A2 1) (vC (.int 3)) C2) (A0 (A2 5) A7))) D1) A7)))) (N9 (b2 (K3 (A0 (vC (.str "mark")) (A0 (A2 2) (A0 (b2 (A2 4) (B7 (A0 (A2 0) (A0 (b2 (A2 1) (vC (.int 5)) C2) (A0 (vC (.int 3)) A7))) A6) dIx) A7)))) (A2 9) C2))) L4)
noncomputable def U6 : Dn -> Out := (sIf (C9 (b2 (A2 6) (vC (.int 5)) dEq)) (N9 (K3 (A0 (vC (.str "unmark")) (A0 (A2 2) (A0 (b2 (A2 4) (B7 (A0 (A2 0) (A0 (b2 (A2 1) (vC (.int 5)) C2) (A0 (vC (.int 3)) A7))) A6) dIx) A7))))) L4)
noncomputable def U5 : Dn -> Out := (sIf (Cs (C9 (b2 (A2 6) (vC (.int 8)) (W5 .Lt))) (C9 (b2 (A2 3) (K3 A7) dNe))) (N9 (K3 (A0 (vC (.str "undo")) (A0 (A2 2) (A0 (b2 (b2 (A2 3) (B7 (A0 (A2 0) (A0 (b2 (A2 1) (vC (.int 6)) C2) (A0 (vFn (A0 (A2 3) A7) Ab) A7))) A6) dIx) (vC (.int 1)) dIx) A7))))) L4)
noncomputable def U4 : Dn -> Out := (K2 7 (b2 (b2 (b2 (D2 (A0 (vC .none) A7)) (A2 5) C2) (vSl (A2 5) (Iw (b1 (vC (.int 3)) aQ)) Ix) C2) (B7 (A0 (A2 0) (A0 (b2 (A2 1) (vC (.int 7)) C2) (A0 (b2 (b2 (vFn (A0 (A2 5) A7) Ab) (vC (.int 1)) C2) (vFn (A0 (vSl (A2 5) (Iw (b1 (vC (.int 3)) aQ)) Ix) A7) Ab) C2) A7))) A6) dIx))
noncomputable def U3 : Dn -> Out := (N9 (K3 (A0 (vC (.str "add")) (A0 (A2 2) (A0 (A2 7) (A0 (B7 (A0 (A2 0) (A0 (b2 (A2 1) (vC (.int 8)) C2) A7)) E2) A7))))))
noncomputable def Y2 : Dn -> Out := (E1 V0 (E1 U9 (E1 U8 (E1 U7 (E1 U6 (E1 U5 (E1 U4 U3)))))))
noncomputable def I8 : List PyData -> Res PyData := fnD F9 Y2
noncomputable def N3 : List Str := ["_law_script", "_law_at", "_law_most", "_law_names_here", "_law_found", "_law_one", "_law_k", "_law_time", "_law_hand", "_law_known"]
noncomputable def V4 : Dn -> Out := (K2 4 (K3 A7))
noncomputable def V3 : Dn -> Out := (K2 5 (K3 (A0 (vC (.int 1)) (A0 (vC (.str "a")) A7))))
noncomputable def V2 : Dn -> Out := (T7 (fun δ => ((A0 (B7 (A0 (A2 0) (A0 (A2 1) (A0 (b2 (A2 2) (vC (.int 1)) C2) A7))) A6) A7) δ).bind Y6) (st1 6) (E1 (K2 7 (b2 (b2 (A2 5) (vC (.int 0)) dIx) (B7 (A0 (A2 0) (A0 (b2 (b2 (A2 1) (vC (.int 1)) C2) (b2 (vC (.int 60)) (A2 6) L8) C2) (A0 (vC (.int 2)) A7))) A6) C2)) (E1 (K2 8 (b2 (vC (.str "abc")) (B7 (A0 (A2 0) (A0 (b2 (b2 (A2 1) (vC (.int 2)) C2) (b2 (vC (.int 60)) (A2 6) L8) C2) (A0 (vC (.int 3)) A7))) A6) dIx)) (E1 (sIf (Cs (C9 (b2 (A2 4) (K3 A7) dNe)) (C9 (b2 (K3 (A0 (A2 7) (A0 (A2 8) A7))) (A2 5) (W5 .LtE)))) (K2 7 (b2 (b2 (A2 5) (vC (.int 0)) dIx) (vC (.int 1)) C2)) L4) (E1 (K2 5 (K3 (A0 (A2 7) (A0 (A2 8) A7)))) (E1 (K2 9 (vFn (A0 (D2 (E6 (fun δ => ((A2 4) δ).bind E8) B8 [7] (C9 (b2 (b2 (b2 (A2 0) (vC (.int 1)) dIx) (vC (.int 0)) dIx) (A2 1) (W5 .Lt))) (A2 0))) A7) Bx)) (K2 4 (b2 (A2 4) (K3 (A0 (B7 (A0 (A2 0) (A0 (b2 (b2 (A2 1) (vC (.int 3)) C2) (b2 (vC (.int 60)) (A2 6) L8) C2) (A0 (A2 5) (A0 (A2 9) (A0 (A2 3) A7))))) I8) A7)) C2))))))))
noncomputable def V1 : Dn -> Out := (N9 (A2 4))
noncomputable def Y4 : Dn -> Out := (E1 V4 (E1 V3 (E1 V2 V1)))
noncomputable def Q0 : List PyData -> Res PyData := fnD N3 Y4
noncomputable def E5 : List Str := ["_law_deed_here"]
noncomputable def K1 : Dn -> Out := (sIf (C9 (b2 (b2 (A2 0) (vC (.int 0)) dIx) (vC (.str "undo")) dEq)) (N9 (D2 (A0 (b2 (A2 0) (vC (.int 2)) dIx) A7))) L4)
noncomputable def K0 : Dn -> Out := (sIf (C9 (b2 (b2 (A2 0) (vC (.int 0)) dIx) (vC (.str "add")) dEq)) (N9 (vIf (fun δ => ((b2 (A2 0) (vC (.int 2)) dIx) δ).bind fun d => .ok (!N0 d)) (D2 (A0 (b2 (b2 (A2 0) (vC (.int 2)) dIx) (vC (.int 0)) dIx) A7)) (D2 A7))) L4)
noncomputable def J3 : Dn -> Out := (sIf (C9 (b2 (b2 (A2 0) (vC (.int 0)) dIx) (vC (.str "drop")) dEq)) (N9 (D2 (E6 (fun δ => ((b2 (A2 0) (vC (.int 2)) dIx) δ).bind E8) B8 [] F8 (b2 (A2 0) (vC (.int 0)) dIx)))) L4)
noncomputable def J2 : Dn -> Out := (N9 (D2 (E6 (fun δ => ((vSl (A2 0) (Iw (vC (.int 3))) Ix) δ).bind E8) B8 [] (fun δ => ((b2 (A2 0) (vC (.int 0)) dIx) δ).bind fun d => .ok (!N0 d)) (b2 (b2 (A2 0) (vC (.int 0)) dIx) (vC (.int 0)) dIx))))
noncomputable def K7 : Dn -> Out := (E1 K1 (E1 K0 (E1 J3 J2)))
noncomputable def C7 : List PyData -> Res PyData := fnD E5 K7
noncomputable def G9 : List Str := ["_law_book_here", "_law_one", "_law_deeds", "_law_found", "_law_turn", "_law_other", "_law_more"]
noncomputable def R8 : Dn -> Out := (Iq 2 (E6 (fun δ => ((A2 0) δ).bind E8) B8 [] F8 (K3 (A0 (b2 (A2 0) (vC (.int 1)) dIx) (A0 (A2 0) A7)))))
noncomputable def R7 : Dn -> Out := (K2 3 (D2 (A0 (A2 1) A7)))
noncomputable def R6 : Dn -> Out := (T7 (fun δ => ((A0 (vFn (A0 (A2 0) A7) Ab) A7) δ).bind Y6) (st1 4) (T7 (fun δ => ((vFn (A0 (A2 3) A7) Be) δ).bind E8) (st1 5) (T7 (fun δ => ((B7 (A0 (Q1 2 (A2 5)) A7) C7) δ).bind E8) (st1 6) (K2 3 (b2 (A2 3) (b2 (D2 (A0 (A2 6) A7)) (vFn (A0 (b2 (A2 6) (A2 3) (dIn true)) A7) Ds) L8) C2)))))
noncomputable def R5 : Dn -> Out := (N9 (vFn (A0 (D2 (E6 (fun δ => ((A2 3) δ).bind E8) B8 [1] (C9 (b2 (A2 0) (A2 1) dNe)) (A2 0))) A7) Jk))
noncomputable def T5 : Dn -> Out := (E1 R8 (E1 R7 (E1 R6 R5)))
noncomputable def N7 : List PyData -> Res PyData := fnD G9 T5
noncomputable def Bj : List Str := ["_law_e", "_law_flags"]
noncomputable def Bi : List Str := ["_law_way", "_law_book_here", "_law_one", "_law_e"]
noncomputable def Bt : Dn -> Out := (Yb Q3 K8)
noncomputable def C6 : List PyData -> Res PyData := fnD Bi Bt
noncomputable def Qc : List Str := ["_law_script", "_law_book_here", "_law_deep", "_law_deed_here", "_law_most", "_law_due", "_law_odd", "_law_bad", "_law_known"]
noncomputable def Ho : Dn -> Out := (K2 1 (B7 (A0 (A2 0) (A0 (vC (.int 10)) (A0 (vC (.int 9)) (A0 (B7 (A0 (A2 0) (A0 (vC (.int 0)) A7)) O8) A7)))) Q0))
noncomputable def Hn : Dn -> Out := (Si 2)
noncomputable def Hm : Dn -> Out := (T7 (fun δ => ((A2 1) δ).bind E8) (st1 3) (E1 (Ek 2 (b2 (A2 3) (vC (.int 1)) dIx) (vFn (A0 (b2 (D2 (A0 (vC (.int 0)) A7)) (D2 (E6 (fun δ => ((B7 (A0 (A2 3) A7) C7) δ).bind E8) B8 [2] F8 (b2 (vC (.int 1)) (Q1 1 (A2 0)) C2))) C2) A7) Dr)) (E1 (sIf (C9 (b2 (B7 (A0 (vC (.int 0)) (A0 (A2 1) (A0 (b2 (A2 3) (vC (.int 1)) dIx) A7))) C6) (Q1 2 (b2 (A2 3) (vC (.int 1)) dIx)) dNe)) (N9 (vC (.bool false))) L4) (sIf (C9 (b2 (B7 (A0 (vC (.int 1)) (A0 (A2 1) (A0 (b2 (A2 3) (vC (.int 1)) dIx) A7))) C6) (B7 (A0 (A2 1) (A0 (b2 (A2 3) (vC (.int 1)) dIx) A7)) N7) dNe)) (N9 (vC (.bool false))) L4))))
noncomputable def Hl : Dn -> Out := (fY 2 (K2 4 (vFn (A0 (b2 (D2 (A0 (b1 (vC (.int 1)) aQ) A7)) (D2 (E6 (Pe 2) B8 [2] F8 (Cv 1 (A2 0)))) C2) A7) Dr)))
noncomputable def Da : Dn -> Out := (Oo 5 (E6 (fun δ => ((A0 (b2 (A2 4) (vC (.int 1)) C2) A7) δ).bind Y6) B8 [2] F8 (D2 (E6 (fun δ => ((Dw 1) δ).bind E8) B8 [1, 0] (C9 (b2 (Cv 1 (A2 0)) (A2 2) dEq)) (A2 0)))))
noncomputable def Hk : Dn -> Out := (sIf (C9 (b2 (B7 (A0 (A2 1) A7) P2) (A2 5) dNe)) (N9 (vC (.bool false))) L4)
noncomputable def Hj : Dn -> Out := (K2 6 (D2 (A0 (K3 (A0 (vC (.int 900)) (A0 (vC (.str "a")) A7))) (A0 (K3 (A0 (vC (.int 1)) (A0 (vC (.str "h")) A7))) (A0 (vC .none) (A0 (vC (.int 3)) (A0 (vC (.str "a1")) (A0 (K3 A7) A7))))))))
noncomputable def Hi : Dn -> Out := (T7 (fun δ => ((A2 6) δ).bind E8) (st1 7) (sIf (Cs (C9 (T8 2 (A2 7))) (C9 (b2 (D2 (E6 (fun δ => ((A0 (vC (.int 2)) A7) δ).bind Y6) B8 [1, 7] F8 (B7 (A0 (A2 0) (A0 (A2 1) (A0 (A2 2) A7))) C6))) (b2 (D2 (A0 (K3 (A0 (vC (.str "refused")) (A0 (vC (.int 0)) A7))) A7)) (vC (.int 2)) L8) dNe))) (N9 (vC (.bool false))) L4))
noncomputable def Hh : Dn -> Out := (K2 8 (vC (.tuple [(.tuple [.str "add", (.tuple [.int 1, .str "a"]), .none, .str "ab"]), (.tuple [.str "drop", (.tuple [.int 2, .str "a"]), (.tuple [(.tuple [(.tuple [.int 1, .str "a"]), .int 0])])]), (.tuple [.str "undo", (.tuple [.int 3, .str "b"]), (.tuple [.int 2, .str "a"])])])))
noncomputable def Cz : Dn -> Out := (sIf (cOr (C9 (b2 (B7 (A0 (A2 8) A7) P2) (D2 (A0 (D2 (A0 (K3 (A0 (vC (.int 1)) (A0 (vC (.str "a")) A7))) A7)) (A0 (D2 (A0 (K3 (A0 (vC (.int 2)) (A0 (vC (.str "a")) A7))) A7)) (A0 (D2 (A0 (K3 (A0 (vC (.int 3)) (A0 (vC (.str "b")) A7))) A7)) A7)))) dNe)) (C9 (b2 (B7 (A0 (K3 A7) A7) P2) (D2 A7) dNe))) (N9 (vC (.bool false))) L4)
noncomputable def Dz : Dn -> Out := (N9 (bF (b2 (Cb (A0 (A2 8) (A0 (K3 (A0 (vC (.int 3)) (A0 (vC (.str "b")) A7))) A7)) K8) (D2 (A0 (K3 (A0 (vC (.int 1)) (A0 (vC (.str "a")) A7))) (A0 (K3 (A0 (vC (.int 2)) (A0 (vC (.str "a")) A7))) A7))) dEq) (b2 (Cb (A0 (A2 8) (A0 (K3 (A0 (vC (.int 3)) (A0 (vC (.str "b")) A7))) A7)) Q3) (vC (.int 2)) dEq)))
noncomputable def Mi : Dn -> Out := (E1 Ho (E1 Hn (E1 Hm (E1 Hl (E1 Da (E1 Hk (E1 Hj (E1 Hi (E1 Hh (E1 Cz Dz))))))))))
noncomputable def Td : List PyData -> Res PyData := fnD Qc Mi
end Sm
end
section
namespace Sm
open PySem PySem.Spec PyProof.Rows L2
variable {P : Program} {w : World} {K : PySem.W.Frag} {mg : Str -> Option Value} {base : Heap} {X : Cx}
theorem Il : FnScope L9 ["deed"] (A5 (top 1)) := ⟨rfl, rfl, rfl, by decide +kernel, rfl, by decide +kernel, by decide +kernel⟩
theorem Ee (T : Txt mg) (C : Cxt P w K mg base X L9 (A5 (top 1)) 0 true) : DS X E0k (stm 1 0) R4 :=
 (M0 C 1 (by kernel_rfl) (E7 (N1 B0)))
theorem Ed (T : Txt mg) (C : Cxt P w K mg base X L9 (A5 (top 1)) 0 true) : DS X E0k (stm 1 1) R3 :=
 (Y5 (Ft C (G7 (A4 C 0 (by kernel_rfl)) A9) K6) (C1 (M0 C 1 (by kernel_rfl) (E7 (N1 (A3 (G7 (A4 C 0 (by kernel_rfl)) A9) B0))))) (C1 (Y5 (Ft C (G7 (A4 C 0 (by kernel_rfl)) A9) K6) (C1 (M0 C 1 (by kernel_rfl) (Tr C (by kernel_rfl) T.b_list (A3 (G7 (A4 C 0 (by kernel_rfl)) A9) B0)))) (C1 (Y5 (Ft C (G7 (A4 C 0 (by kernel_rfl)) A9) K6) (C1 (M0 C 1 (by kernel_rfl) (E7 (N1 (A3 (G7 (G7 (A4 C 0 (by kernel_rfl)) A9) A9) (A3 (G7 (G7 (A4 C 0 (by kernel_rfl)) A9) A9) B0)))))) N4)))))
theorem Ec (T : Txt mg) (C : Cxt P w K mg base X L9 (A5 (top 1)) 0 true) : DS X E0k (stm 1 2) R1 :=
 (L3 (E7 (M6 C [] [] (by kernel_rfl) (Q6 (A4 C 1 (by kernel_rfl))) (fun X' C' => (Cc (Ql (A4 C' 0 (by kernel_rfl))))) (fun X' C' => (A4 C' 0 (by kernel_rfl))))))
theorem Fg (T : Txt mg) (C : Cxt P w K mg base X L9 (A5 (top 1)) 0 true) : DSs X E0k (B9 (top 1)) T4 := by
 have h : B9 (top 1) = [stm 1 0, stm 1 1, stm 1 2] := by kernel_rfl
 rw [h]
 exact (B4 (Ee T C) (B4 (Ed T C) (C1 (Ec T C))))
theorem Im : FnScope P5 ["deed"] (A5 (top 2)) := ⟨rfl, rfl, rfl, by decide +kernel, rfl, by decide +kernel, by decide +kernel⟩
theorem Fh (T : Txt mg) (F_signs_named : Fn P w K mg base "signs_named" 1 1 P1) (C : Cxt P w K mg base X P5 (A5 (top 2)) 1 true) : DSs X E0k (B9 (top 2)) P6 :=
 (B4 (Y5 (Ft C (G7 (A4 C 0 (by kernel_rfl)) A9) K6) (C1 (L3 (E7 (N1 (A3 (G7 (A4 C 0 (by kernel_rfl)) A9) B0))))) N4) (C1 (L3 (E7 (M6 C [] [] (by kernel_rfl) (Q6 (D8 C F_signs_named (by decide) (by kernel_rfl) (A3 (A4 C 0 (by kernel_rfl)) B0))) (fun X' C' => U2) (fun X' C' => (G7 (A4 C' 0 (by kernel_rfl)) A9)))))))
theorem Aw : FnScope I9 ["book", "which"] (A5 (top 7)) := ⟨rfl, rfl, rfl, by decide +kernel, rfl, by decide +kernel, by decide +kernel⟩
theorem Ac {CN : Addr} {Ex : XK} (O : ExcAt K mg "NoDeed" CN) (L : Lv X Ex) (hex : X.ex = []) (T : Txt mg) (C : Cxt P w K mg base X I9 (A5 (top 7)) 0 true) : DSs X (eX CN Ex) (B9 (top 7)) K5 :=
 (C1 (Y5 (bG C (A4 C 1 (by kernel_rfl)) (E7 (M6 C [] [] (by kernel_rfl) (Q6 (A4 C 0 (by kernel_rfl))) (fun X' C' => U2) (fun X' C' => (G7 (A4 C' 0 (by kernel_rfl)) A9))))) (C1 (Xx (p4 := ⟨0, 0, 0, 0⟩) C L hex C.room.gd O (by kernel_rfl) (A4 C 1 (by kernel_rfl)))) N4))
theorem Mj : FnScope X4 ["book"] (A5 (top 9)) := ⟨rfl, rfl, rfl, by decide +kernel, rfl, by decide +kernel, by decide +kernel⟩
theorem Jt (T : Txt mg) (F_deeds_named : Fn P w K mg base "deeds_named" 2 1 C3) (C : Cxt P w K mg base X X4 (A5 (top 9)) 2 true) : DSW X E0k (B9 (top 9)) Y1 :=
 (Ws (Ya C 1 (by kernel_rfl)) (Ws (V9 C 2 (by kernel_rfl) (Q6 (A4 C 0 (by kernel_rfl))) (C1 (Xy C 1 (by kernel_rfl) (G7 (A4 C 2 (by kernel_rfl)) A9) (iU C (by kernel_rfl) T.b_max (E7 (M6 C [1] ["depths"] (by kernel_rfl) (Q6 (D8 C F_deeds_named (by decide) (by kernel_rfl) (A3 (A4 C 2 (by kernel_rfl)) B0))) (fun X' C' => U2) (fun X' C' => (D9 (Nx C' 1 (by kernel_rfl) (A4 C' 0 (by kernel_rfl))) A9)))))))) (w_ret C 1 (by kernel_rfl))))
theorem Xw : FnScope Bq ["book", "which"] (A5 (top 10)) := ⟨rfl, rfl, rfl, by decide +kernel, rfl, by decide +kernel, by decide +kernel⟩
theorem Rs {CN : Addr} {Ex : XK} (O : ExcAt K mg "NoDeed" CN) (L : Lv X Ex) (hex : X.ex = []) (T : Txt mg) (F_depths_in : FnW P w K mg base "depths_in" 3 1 O3) (F_refuse_unless_deed : FnX P w K mg base CN "refuse_unless_deed" 1 2 B2) (C : Cxt P w K mg base X Bq (A5 (top 10)) 3 true) : DSs X (eX CN Ex) (B9 (top 10)) Ej :=
 (B4 (Xz (Ts C L hex F_refuse_unless_deed (by decide) (by kernel_rfl) (A3 (A4 C 0 (by kernel_rfl)) (A3 (A4 C 1 (by kernel_rfl)) B0)))) (C1 (L3 (iW C (fJ (bD C F_depths_in (by decide) (by kernel_rfl) (A3 (A4 C 0 (by kernel_rfl)) B0))) (A4 C 1 (by kernel_rfl))))))
theorem Uz : FnScope Ka ["book"] (A5 (top 11)) := ⟨rfl, rfl, rfl, by decide +kernel, rfl, by decide +kernel, by decide +kernel⟩
theorem Px (T : Txt mg) (F_depths_in : FnW P w K mg base "depths_in" 3 1 O3) (C : Cxt P w K mg base X Ka (A5 (top 11)) 3 true) : DSs X E0k (B9 (top 11)) Cd :=
 (Uw C (fK C F_depths_in (by decide) (by kernel_rfl) (A3 (A4 C 0 (by kernel_rfl)) B0)) (by kernel_rfl) (by kernel_rfl) (by kernel_rfl) (by kernel_rfl) (by kernel_rfl) (by kernel_rfl) (by kernel_rfl) T.b_len)
theorem Om : FnScope O5 ["book", "which"] (A5 (top 12)) := ⟨rfl, rfl, rfl, by decide +kernel, rfl, by decide +kernel, by decide +kernel⟩
theorem Kh {CN : Addr} {Ex : XK} (O : ExcAt K mg "NoDeed" CN) (L : Lv X Ex) (hex : X.ex = []) (T : Txt mg) (F_deeds_named : Fn P w K mg base "deeds_named" 2 1 C3) (F_refuse_unless_deed : FnX P w K mg base CN "refuse_unless_deed" 1 2 B2) (C : Cxt P w K mg base X O5 (A5 (top 12)) 2 true) : DS X (eX CN Ex) (stm 12 0) Y0 :=
 (Xz (Ts C L hex F_refuse_unless_deed (by decide) (by kernel_rfl) (A3 (A4 C 0 (by kernel_rfl)) (A3 (A4 C 1 (by kernel_rfl)) B0))))
theorem Kg {CN : Addr} {Ex : XK} (O : ExcAt K mg "NoDeed" CN) (L : Lv X Ex) (hex : X.ex = []) (T : Txt mg) (F_deeds_named : Fn P w K mg base "deeds_named" 2 1 C3) (F_refuse_unless_deed : FnX P w K mg base CN "refuse_unless_deed" 1 2 B2) (C : Cxt P w K mg base X O5 (A5 (top 12)) 2 true) : DS X (eX CN Ex) (stm 12 1) X9 :=
 (bQ C 2 (by kernel_rfl) (A4 C 1 (by kernel_rfl)) Co)
theorem Kf {CN : Addr} {Ex : XK} (O : ExcAt K mg "NoDeed" CN) (L : Lv X Ex) (hex : X.ex = []) (T : Txt mg) (F_deeds_named : Fn P w K mg base "deeds_named" 2 1 C3) (F_refuse_unless_deed : FnX P w K mg base CN "refuse_unless_deed" 1 2 B2) (C : Cxt P w K mg base X O5 (A5 (top 12)) 2 true) : DS X (eX CN Ex) (stm 12 2) X8 :=
 (V9 C 3 (by kernel_rfl) (i_rev C (by kernel_rfl) T.b_reversed (A4 C 0 (by kernel_rfl))) (C1 (Y5 (eN C 2 (by kernel_rfl) (G7 (A4 C 3 (by kernel_rfl)) A9)) (C1 (V9 C 4 (by kernel_rfl) (Q6 (dW C F_deeds_named (by decide) (by kernel_rfl) (A3 (A4 C 3 (by kernel_rfl)) B0))) (C1 (Xy C 2 (by kernel_rfl) (A4 C 4 (by kernel_rfl)) Co)))) N4)))
theorem Ke {CN : Addr} {Ex : XK} (O : ExcAt K mg "NoDeed" CN) (L : Lv X Ex) (hex : X.ex = []) (T : Txt mg) (F_deeds_named : Fn P w K mg base "deeds_named" 2 1 C3) (F_refuse_unless_deed : FnX P w K mg base CN "refuse_unless_deed" 1 2 B2) (C : Cxt P w K mg base X O5 (A5 (top 12)) 2 true) : DS X (eX CN Ex) (stm 12 3) X7 :=
 (L3 (E7 (M6 C [2, 1] ["reached", "which"] (by kernel_rfl) (Q6 (A4 C 0 (by kernel_rfl))) (fun X' C' => (Cc (w_t (Og (eN C' 1 (by kernel_rfl) (G7 (A4 C' 0 (by kernel_rfl)) A9)) (Gy (He C' (G7 (A4 C' 0 (by kernel_rfl)) A9) (A4 C' 2 (by kernel_rfl)))))))) (fun X' C' => (G7 (A4 C' 0 (by kernel_rfl)) A9)))))
theorem Kr {CN : Addr} {Ex : XK} (O : ExcAt K mg "NoDeed" CN) (L : Lv X Ex) (hex : X.ex = []) (T : Txt mg) (F_deeds_named : Fn P w K mg base "deeds_named" 2 1 C3) (F_refuse_unless_deed : FnX P w K mg base CN "refuse_unless_deed" 1 2 B2) (C : Cxt P w K mg base X O5 (A5 (top 12)) 2 true) : DSs X (eX CN Ex) (B9 (top 12)) Ag := by
 have h : B9 (top 12) = [stm 12 0, stm 12 1, stm 12 2, stm 12 3] := by kernel_rfl
 rw [h]
 exact (B4 (Kh O L hex T F_deeds_named F_refuse_unless_deed C) (B4 (Kg O L hex T F_deeds_named F_refuse_unless_deed C) (B4 (Kf O L hex T F_deeds_named F_refuse_unless_deed C) (C1 (Ke O L hex T F_deeds_named F_refuse_unless_deed C)))))
theorem Mm : FnScope X5 ["_law_script", "_law_k"] (A5 (top 14)) := ⟨rfl, rfl, rfl, by decide +kernel, rfl, by decide +kernel, by decide +kernel⟩
theorem Jw (T : Txt mg) (C : Cxt P w K mg base X X5 (A5 (top 14)) 0 true) : DSs X E0k (B9 (top 14)) Y3 :=
 (B4 (Y5 (Ft C (A4 C 0 (by kernel_rfl)) (E7 (N1 B0))) (C1 (L3 (W4 A9 (A4 C 1 (by kernel_rfl))))) N4) (C1 (L3 (D9 (G7 (A4 C 0 (by kernel_rfl)) (Ln (A4 C 1 (by kernel_rfl)) (d_len C (by kernel_rfl) T.b_len (A3 (A4 C 0 (by kernel_rfl)) B0)))) (W4 A9 (Ny (A4 C 1 (by kernel_rfl)) (d_len C (by kernel_rfl) T.b_len (A3 (A4 C 0 (by kernel_rfl)) B0))))))))
theorem Km : FnScope U1 ["_law_script", "_law_k", "_law_many"] (A5 (top 15)) := ⟨rfl, rfl, rfl, by decide +kernel, rfl, by decide +kernel, by decide +kernel⟩
theorem Gj (T : Txt mg) (F__law_cell : Fn P w K mg base "_law_cell" 1 2 S9) (C : Cxt P w K mg base X U1 (A5 (top 15)) 1 true) : DSs X E0k (B9 (top 15)) V8 :=
 (B4 (M0 C 3 (by kernel_rfl) (Ln (D9 (W4 (Ln (D8 C F__law_cell (by decide) (by kernel_rfl) (A3 (A4 C 0 (by kernel_rfl)) (A3 (A4 C 1 (by kernel_rfl)) B0))) A9) A9) (W4 A9 (D9 (A4 C 1 (by kernel_rfl)) A9))) A9)) (B4 (M0 C 3 (by kernel_rfl) (Ln (D9 (W4 (A4 C 3 (by kernel_rfl)) (A4 C 3 (by kernel_rfl))) (Ny (A4 C 3 (by kernel_rfl)) A9)) A9)) (C1 (L3 (Ln (Ny (Ln (D9 (W4 (A4 C 3 (by kernel_rfl)) (A4 C 3 (by kernel_rfl))) (Ny (A4 C 3 (by kernel_rfl)) A9)) A9) A9) (A4 C 2 (by kernel_rfl)))))))
theorem Kk : FnScope N6 ["_law_script", "_law_at"] (A5 (top 16)) := ⟨rfl, rfl, rfl, by decide +kernel, rfl, by decide +kernel, by decide +kernel⟩
theorem Fw (T : Txt mg) (F__law_drawn : Fn P w K mg base "_law_drawn" 2 3 A6) (C : Cxt P w K mg base X N6 (A5 (top 16)) 2 true) : DS X E0k (stm 16 0) T3 :=
 (s_own C 2 (by kernel_rfl) (N1 B0))
theorem Fv (T : Txt mg) (F__law_drawn : Fn P w K mg base "_law_drawn" 2 3 A6) (C : Cxt P w K mg base X N6 (A5 (top 16)) 2 true) : DS X E0k (stm 16 1) T2 :=
 (V9 C 3 (by kernel_rfl) (W2 C (by kernel_rfl) T.b_range (A3 A9 B0)) (B4 (M0 C 4 (by kernel_rfl) (W4 (G7 K6 (D8 C F__law_drawn (by decide) (by kernel_rfl) (A3 (A4 C 0 (by kernel_rfl)) (A3 (D9 (A4 C 1 (by kernel_rfl)) (W4 A9 (A4 C 3 (by kernel_rfl)))) (A3 A9 B0))))) (D8 C F__law_drawn (by decide) (by kernel_rfl) (A3 (A4 C 0 (by kernel_rfl)) (A3 (D9 (D9 (A4 C 1 (by kernel_rfl)) (W4 A9 (A4 C 3 (by kernel_rfl)))) A9) (A3 A9 B0)))))) (C1 (s_app C 2 (by kernel_rfl) (G7 (E7 (N1 (A3 (D9 (A4 C 4 (by kernel_rfl)) (G7 K6 (A4 C 3 (by kernel_rfl)))) (A3 (D9 (G7 K6 (A4 C 3 (by kernel_rfl))) (A4 C 4 (by kernel_rfl))) B0)))) (D8 C F__law_drawn (by decide) (by kernel_rfl) (A3 (A4 C 0 (by kernel_rfl)) (A3 (D9 (A4 C 1 (by kernel_rfl)) A9) (A3 A9 B0)))))))))
theorem Fu (T : Txt mg) (F__law_drawn : Fn P w K mg base "_law_drawn" 2 3 A6) (C : Cxt P w K mg base X N6 (A5 (top 16)) 2 true) : DS X E0k (stm 16 2) T1 :=
 (s_fz 2 (L3 (A4 C 2 (by kernel_rfl))))
theorem Gh (T : Txt mg) (F__law_drawn : Fn P w K mg base "_law_drawn" 2 3 A6) (C : Cxt P w K mg base X N6 (A5 (top 16)) 2 true) : DSs X E0k (B9 (top 16)) V7 := by
 have h : B9 (top 16) = [stm 16 0, stm 16 1, stm 16 2] := by kernel_rfl
 rw [h]
 exact (B4 (Fw T F__law_drawn C) (B4 (Fv T F__law_drawn C) (C1 (Fu T F__law_drawn C))))
theorem Ki : FnScope T9 ["_law_script", "_law_at"] (A5 (top 17)) := ⟨rfl, rfl, rfl, by decide +kernel, rfl, by decide +kernel, by decide +kernel⟩
theorem Gf (T : Txt mg) (F__law_drawn : Fn P w K mg base "_law_drawn" 2 3 A6) (C : Cxt P w K mg base X T9 (A5 (top 17)) 2 true) : DSs X E0k (B9 (top 17)) V5 :=
 (C1 (L3 (iV (E7 (M6 C [0, 1] ["_law_script", "_law_at"] (by kernel_rfl) (W2 C (by kernel_rfl) T.b_range (A3 (D9 A9 (D8 C F__law_drawn (by decide) (by kernel_rfl) (A3 (A4 C 0 (by kernel_rfl)) (A3 (D9 (A4 C 1 (by kernel_rfl)) A9) (A3 A9 B0))))) B0)) (fun X' C' => U2) (fun X' C' => (G7 K6 (D8 C' F__law_drawn (by decide) (by kernel_rfl) (A3 (A4 C' 1 (by kernel_rfl)) (A3 (D9 (A4 C' 2 (by kernel_rfl)) (A4 C' 0 (by kernel_rfl))) (A3 A9 B0)))))))))))
theorem Kj : FnScope U0 ["_law_book_here"] (A5 (top 18)) := ⟨rfl, rfl, rfl, by decide +kernel, rfl, by decide +kernel, by decide +kernel⟩
theorem Gg (T : Txt mg) (C : Cxt P w K mg base X U0 (A5 (top 18)) 0 true) : DSs X E0k (B9 (top 18)) V6 :=
 (B4 (M0 C 1 (by kernel_rfl) (E7 (N1 B0))) (B4 (V9 C 2 (by kernel_rfl) (Q6 (A4 C 0 (by kernel_rfl))) (C1 (Y5 (Ft C (G7 (A4 C 2 (by kernel_rfl)) A9) K6) (C1 (M0 C 1 (by kernel_rfl) (D9 (A4 C 1 (by kernel_rfl)) (E7 (M6 C [2] ["_law_deed_here"] (by kernel_rfl) (W2 C (by kernel_rfl) T.b_range (A3 (d_len C (by kernel_rfl) T.b_len (A3 (G7 (A4 C 2 (by kernel_rfl)) A9) B0)) B0)) (fun X' C' => U2) (fun X' C' => (L6 (A3 (G7 (A4 C' 1 (by kernel_rfl)) A9) (A3 (A4 C' 0 (by kernel_rfl)) B0))))))))) N4))) (C1 (L3 (A4 C 1 (by kernel_rfl))))))
theorem Ip : FnScope S6 ["_law_script", "_law_at", "_law_signs_here"] (A5 (top 19)) := ⟨rfl, rfl, rfl, by decide +kernel, rfl, by decide +kernel, by decide +kernel⟩
theorem Fj (T : Txt mg) (F__law_drawn : Fn P w K mg base "_law_drawn" 2 3 A6) (C : Cxt P w K mg base X S6 (A5 (top 19)) 2 true) : DSs X E0k (B9 (top 19)) T6 :=
 (B4 (M0 C 3 (by kernel_rfl) (G7 (D9 (E7 (N1 (A3 Nw B0))) (A4 C 2 (by kernel_rfl))) (D8 C F__law_drawn (by decide) (by kernel_rfl) (A3 (A4 C 0 (by kernel_rfl)) (A3 (A4 C 1 (by kernel_rfl)) (A3 (D9 (d_len C (by kernel_rfl) T.b_len (A3 (A4 C 2 (by kernel_rfl)) B0)) A9) B0)))))) (C1 (L3 (L6 (A3 (A4 C 3 (by kernel_rfl)) (A3 (G7 K6 (D8 C F__law_drawn (by decide) (by kernel_rfl) (A3 (A4 C 0 (by kernel_rfl)) (A3 (D9 (A4 C 1 (by kernel_rfl)) A9) (A3 A9 B0))))) B0))))))
theorem Ml : FnScope F9 ["_law_script", "_law_at", "_law_one", "_law_known", "_law_names_here"] (A5 (top 20)) := ⟨rfl, rfl, rfl, by decide +kernel, rfl, by decide +kernel, by decide +kernel⟩
theorem Ib (T : Txt mg) (F__law_anchor : Fn P w K mg base "_law_anchor" 3 3 D1) (F__law_drawn : Fn P w K mg base "_law_drawn" 2 3 A6) (F__law_signs : Fn P w K mg base "_law_signs" 1 1 E3) (F__law_words : Fn P w K mg base "_law_words" 3 2 E2) (C : Cxt P w K mg base X F9 (A5 (top 20)) 3 true) : DS X E0k (stm 20 0) V0 :=
 (M0 C 5 (by kernel_rfl) (D8 C F__law_signs (by decide) (by kernel_rfl) (A3 (A4 C 3 (by kernel_rfl)) B0)))
theorem Ia (T : Txt mg) (F__law_anchor : Fn P w K mg base "_law_anchor" 3 3 D1) (F__law_drawn : Fn P w K mg base "_law_drawn" 2 3 A6) (F__law_signs : Fn P w K mg base "_law_signs" 1 1 E3) (F__law_words : Fn P w K mg base "_law_words" 3 2 E2) (C : Cxt P w K mg base X F9 (A5 (top 20)) 3 true) : DS X E0k (stm 20 1) U9 :=
 (M0 C 6 (by kernel_rfl) (D8 C F__law_drawn (by decide) (by kernel_rfl) (A3 (A4 C 0 (by kernel_rfl)) (A3 (A4 C 1 (by kernel_rfl)) (A3 A9 B0)))))
theorem Hz (T : Txt mg) (F__law_anchor : Fn P w K mg base "_law_anchor" 3 3 D1) (F__law_drawn : Fn P w K mg base "_law_drawn" 2 3 A6) (F__law_signs : Fn P w K mg base "_law_signs" 1 1 E3) (F__law_words : Fn P w K mg base "_law_words" 3 2 E2) (C : Cxt P w K mg base X F9 (A5 (top 20)) 3 true) : DS X E0k (stm 20 2) U8 :=
 (Y5 (w_t (Og (bH C (A4 C 6 (by kernel_rfl)) A9) (Gy (He C (A4 C 5 (by kernel_rfl)) (E7 (N1 B0)))))) (B4 (Qt C 8 (by kernel_rfl) (by kernel_rfl) [0, 1] ["_law_script", "_law_at"] (by kernel_rfl) (iO C (by kernel_rfl) T.b_enumerate (A3 (A4 C 5 (by kernel_rfl)) B0)) (fun X' C' => (Cc (Ft C' (D8 C' F__law_drawn (by decide) (by kernel_rfl) (A3 (A4 C' 2 (by kernel_rfl)) (A3 (D9 (D9 (A4 C' 3 (by kernel_rfl)) A9) (A4 C' 0 (by kernel_rfl))) (A3 A9 B0)))) A9))) (fun X' C' => (A4 C' 1 (by kernel_rfl)))) (C1 (L3 (L6 (A3 K6 (A3 (A4 C 2 (by kernel_rfl)) (A3 (aK C (by kernel_rfl) T.b_tuple (A3 (D9 (A4 C 8 (by kernel_rfl)) (W4 (Gs (A4 C 5 (by kernel_rfl)) Nb (Na A9)) (aN C (by kernel_rfl) T.b_int (A3 (iX C (A4 C 8 (by kernel_rfl)) (E7 (N1 B0))) B0)))) B0)) B0))))))) N4)
theorem Hy (T : Txt mg) (F__law_anchor : Fn P w K mg base "_law_anchor" 3 3 D1) (F__law_drawn : Fn P w K mg base "_law_drawn" 2 3 A6) (F__law_signs : Fn P w K mg base "_law_signs" 1 1 E3) (F__law_words : Fn P w K mg base "_law_words" 3 2 E2) (C : Cxt P w K mg base X F9 (A5 (top 20)) 3 true) : DS X E0k (stm 20 3) U7 :=
 (Y5 (bH C (A4 C 6 (by kernel_rfl)) A9) (B4 (M0 C 9 (by kernel_rfl) (L6 (A3 (D8 C F__law_anchor (by decide) (by kernel_rfl) (A3 (A4 C 0 (by kernel_rfl)) (A3 (D9 (A4 C 1 (by kernel_rfl)) A9) (A3 (A4 C 5 (by kernel_rfl)) B0)))) (A3 (D8 C F__law_anchor (by decide) (by kernel_rfl) (A3 (A4 C 0 (by kernel_rfl)) (A3 (D9 (A4 C 1 (by kernel_rfl)) A9) (A3 (A4 C 5 (by kernel_rfl)) B0)))) B0)))) (C1 (L3 (D9 (L6 (A3 K6 (A3 (A4 C 2 (by kernel_rfl)) (A3 (G7 (A4 C 4 (by kernel_rfl)) (D8 C F__law_drawn (by decide) (by kernel_rfl) (A3 (A4 C 0 (by kernel_rfl)) (A3 (D9 (A4 C 1 (by kernel_rfl)) A9) (A3 A9 B0))))) B0)))) (A4 C 9 (by kernel_rfl)))))) N4)
theorem Hw (T : Txt mg) (F__law_anchor : Fn P w K mg base "_law_anchor" 3 3 D1) (F__law_drawn : Fn P w K mg base "_law_drawn" 2 3 A6) (F__law_signs : Fn P w K mg base "_law_signs" 1 1 E3) (F__law_words : Fn P w K mg base "_law_words" 3 2 E2) (C : Cxt P w K mg base X F9 (A5 (top 20)) 3 true) : DS X E0k (stm 20 4) U6 :=
 (Y5 (Ft C (A4 C 6 (by kernel_rfl)) A9) (C1 (L3 (L6 (A3 K6 (A3 (A4 C 2 (by kernel_rfl)) (A3 (G7 (A4 C 4 (by kernel_rfl)) (D8 C F__law_drawn (by decide) (by kernel_rfl) (A3 (A4 C 0 (by kernel_rfl)) (A3 (D9 (A4 C 1 (by kernel_rfl)) A9) (A3 A9 B0))))) B0)))))) N4)
theorem Hv (T : Txt mg) (F__law_anchor : Fn P w K mg base "_law_anchor" 3 3 D1) (F__law_drawn : Fn P w K mg base "_law_drawn" 2 3 A6) (F__law_signs : Fn P w K mg base "_law_signs" 1 1 E3) (F__law_words : Fn P w K mg base "_law_words" 3 2 E2) (C : Cxt P w K mg base X F9 (A5 (top 20)) 3 true) : DS X E0k (stm 20 5) U5 :=
 (Y5 (w_t (Og (bH C (A4 C 6 (by kernel_rfl)) A9) (Gy (He C (A4 C 3 (by kernel_rfl)) (L6 B0))))) (C1 (L3 (L6 (A3 K6 (A3 (A4 C 2 (by kernel_rfl)) (A3 (G7 (G7 (A4 C 3 (by kernel_rfl)) (D8 C F__law_drawn (by decide) (by kernel_rfl) (A3 (A4 C 0 (by kernel_rfl)) (A3 (D9 (A4 C 1 (by kernel_rfl)) A9) (A3 (d_len C (by kernel_rfl) T.b_len (A3 (A4 C 3 (by kernel_rfl)) B0)) B0))))) A9) B0)))))) N4)
theorem Hu (T : Txt mg) (F__law_anchor : Fn P w K mg base "_law_anchor" 3 3 D1) (F__law_drawn : Fn P w K mg base "_law_drawn" 2 3 A6) (F__law_signs : Fn P w K mg base "_law_signs" 1 1 E3) (F__law_words : Fn P w K mg base "_law_words" 3 2 E2) (C : Cxt P w K mg base X F9 (A5 (top 20)) 3 true) : DS X E0k (stm 20 6) U4 :=
 (M0 C 7 (by kernel_rfl) (G7 (D9 (D9 (E7 (N1 (A3 Nw B0))) (A4 C 5 (by kernel_rfl))) (Gs (A4 C 5 (by kernel_rfl)) (Na (aL A9)) Nb)) (D8 C F__law_drawn (by decide) (by kernel_rfl) (A3 (A4 C 0 (by kernel_rfl)) (A3 (D9 (A4 C 1 (by kernel_rfl)) A9) (A3 (D9 (D9 (d_len C (by kernel_rfl) T.b_len (A3 (A4 C 5 (by kernel_rfl)) B0)) A9) (d_len C (by kernel_rfl) T.b_len (A3 (Gs (A4 C 5 (by kernel_rfl)) (Na (aL A9)) Nb) B0))) B0))))))
theorem Ht (T : Txt mg) (F__law_anchor : Fn P w K mg base "_law_anchor" 3 3 D1) (F__law_drawn : Fn P w K mg base "_law_drawn" 2 3 A6) (F__law_signs : Fn P w K mg base "_law_signs" 1 1 E3) (F__law_words : Fn P w K mg base "_law_words" 3 2 E2) (C : Cxt P w K mg base X F9 (A5 (top 20)) 3 true) : DS X E0k (stm 20 7) U3 :=
 (L3 (L6 (A3 K6 (A3 (A4 C 2 (by kernel_rfl)) (A3 (A4 C 7 (by kernel_rfl)) (A3 (D8 C F__law_words (by decide) (by kernel_rfl) (A3 (A4 C 0 (by kernel_rfl)) (A3 (D9 (A4 C 1 (by kernel_rfl)) A9) B0))) B0))))))
theorem Jv (T : Txt mg) (F__law_anchor : Fn P w K mg base "_law_anchor" 3 3 D1) (F__law_drawn : Fn P w K mg base "_law_drawn" 2 3 A6) (F__law_signs : Fn P w K mg base "_law_signs" 1 1 E3) (F__law_words : Fn P w K mg base "_law_words" 3 2 E2) (C : Cxt P w K mg base X F9 (A5 (top 20)) 3 true) : DSs X E0k (B9 (top 20)) Y2 := by
 have h : B9 (top 20) = [stm 20 0, stm 20 1, stm 20 2, stm 20 3, stm 20 4, stm 20 5, stm 20 6, stm 20 7] := by kernel_rfl
 rw [h]
 exact (B4 (Ib T F__law_anchor F__law_drawn F__law_signs F__law_words C) (B4 (Ia T F__law_anchor F__law_drawn F__law_signs F__law_words C) (B4 (Hz T F__law_anchor F__law_drawn F__law_signs F__law_words C) (B4 (Hy T F__law_anchor F__law_drawn F__law_signs F__law_words C) (B4 (Hw T F__law_anchor F__law_drawn F__law_signs F__law_words C) (B4 (Hv T F__law_anchor F__law_drawn F__law_signs F__law_words C) (B4 (Hu T F__law_anchor F__law_drawn F__law_signs F__law_words C) (C1 (Ht T F__law_anchor F__law_drawn F__law_signs F__law_words C)))))))))
theorem Mn : FnScope N3 ["_law_script", "_law_at", "_law_most", "_law_names_here"] (A5 (top 21)) := ⟨rfl, rfl, rfl, by decide +kernel, rfl, by decide +kernel, by decide +kernel⟩
theorem Ih (T : Txt mg) (F__law_deed : Fn P w K mg base "_law_deed" 4 5 I8) (F__law_drawn : Fn P w K mg base "_law_drawn" 2 3 A6) (C : Cxt P w K mg base X N3 (A5 (top 21)) 4 true) : DS X E0k (stm 21 0) V4 :=
 (M0 C 4 (by kernel_rfl) (L6 B0))
theorem Ig (T : Txt mg) (F__law_deed : Fn P w K mg base "_law_deed" 4 5 I8) (F__law_drawn : Fn P w K mg base "_law_drawn" 2 3 A6) (C : Cxt P w K mg base X N3 (A5 (top 21)) 4 true) : DS X E0k (stm 21 1) V3 :=
 (M0 C 5 (by kernel_rfl) (L6 (A3 A9 (A3 K6 B0))))
theorem Ie (T : Txt mg) (F__law_deed : Fn P w K mg base "_law_deed" 4 5 I8) (F__law_drawn : Fn P w K mg base "_law_drawn" 2 3 A6) (C : Cxt P w K mg base X N3 (A5 (top 21)) 4 true) : DS X E0k (stm 21 2) V2 :=
 (V9 C 6 (by kernel_rfl) (W2 C (by kernel_rfl) T.b_range (A3 (D8 C F__law_drawn (by decide) (by kernel_rfl) (A3 (A4 C 0 (by kernel_rfl)) (A3 (A4 C 1 (by kernel_rfl)) (A3 (D9 (A4 C 2 (by kernel_rfl)) A9) B0)))) B0)) (B4 (M0 C 7 (by kernel_rfl) (D9 (G7 (A4 C 5 (by kernel_rfl)) A9) (D8 C F__law_drawn (by decide) (by kernel_rfl) (A3 (A4 C 0 (by kernel_rfl)) (A3 (D9 (D9 (A4 C 1 (by kernel_rfl)) A9) (W4 A9 (A4 C 6 (by kernel_rfl)))) (A3 A9 B0)))))) (B4 (M0 C 8 (by kernel_rfl) (G7 K6 (D8 C F__law_drawn (by decide) (by kernel_rfl) (A3 (A4 C 0 (by kernel_rfl)) (A3 (D9 (D9 (A4 C 1 (by kernel_rfl)) A9) (W4 A9 (A4 C 6 (by kernel_rfl)))) (A3 A9 B0)))))) (B4 (Y5 (w_t (Og (He C (A4 C 4 (by kernel_rfl)) (L6 B0)) (Gy (t_le C (L6 (A3 (A4 C 7 (by kernel_rfl)) (A3 (A4 C 8 (by kernel_rfl)) B0))) (A4 C 5 (by kernel_rfl)))))) (C1 (M0 C 7 (by kernel_rfl) (D9 (G7 (A4 C 5 (by kernel_rfl)) A9) A9))) N4) (B4 (M0 C 5 (by kernel_rfl) (L6 (A3 (A4 C 7 (by kernel_rfl)) (A3 (A4 C 8 (by kernel_rfl)) B0)))) (B4 (M0 C 9 (by kernel_rfl) (aK C (by kernel_rfl) T.b_tuple (A3 (E7 (M6 C [7] ["_law_time"] (by kernel_rfl) (Q6 (A4 C 4 (by kernel_rfl))) (fun X' C' => (Cc (bH C' (G7 (G7 (A4 C' 0 (by kernel_rfl)) A9) A9) (A4 C' 1 (by kernel_rfl))))) (fun X' C' => (A4 C' 0 (by kernel_rfl))))) B0))) (C1 (M0 C 4 (by kernel_rfl) (D9 (A4 C 4 (by kernel_rfl)) (L6 (A3 (D8 C F__law_deed (by decide) (by kernel_rfl) (A3 (A4 C 0 (by kernel_rfl)) (A3 (D9 (D9 (A4 C 1 (by kernel_rfl)) A9) (W4 A9 (A4 C 6 (by kernel_rfl)))) (A3 (A4 C 5 (by kernel_rfl)) (A3 (A4 C 9 (by kernel_rfl)) (A3 (A4 C 3 (by kernel_rfl)) B0)))))) B0)))))))))))
theorem Ic (T : Txt mg) (F__law_deed : Fn P w K mg base "_law_deed" 4 5 I8) (F__law_drawn : Fn P w K mg base "_law_drawn" 2 3 A6) (C : Cxt P w K mg base X N3 (A5 (top 21)) 4 true) : DS X E0k (stm 21 3) V1 :=
 (L3 (A4 C 4 (by kernel_rfl)))
theorem Jx (T : Txt mg) (F__law_deed : Fn P w K mg base "_law_deed" 4 5 I8) (F__law_drawn : Fn P w K mg base "_law_drawn" 2 3 A6) (C : Cxt P w K mg base X N3 (A5 (top 21)) 4 true) : DSs X E0k (B9 (top 21)) Y4 := by
 have h : B9 (top 21) = [stm 21 0, stm 21 1, stm 21 2, stm 21 3] := by kernel_rfl
 rw [h]
 exact (B4 (Ih T F__law_deed F__law_drawn C) (B4 (Ig T F__law_deed F__law_drawn C) (B4 (Ie T F__law_deed F__law_drawn C) (C1 (Ic T F__law_deed F__law_drawn C)))))
theorem Kl : FnScope E5 ["_law_deed_here"] (A5 (top 22)) := ⟨rfl, rfl, rfl, by decide +kernel, rfl, by decide +kernel, by decide +kernel⟩
theorem Ga (T : Txt mg) (C : Cxt P w K mg base X E5 (A5 (top 22)) 0 true) : DS X E0k (stm 22 0) K1 :=
 (Y5 (Ft C (G7 (A4 C 0 (by kernel_rfl)) A9) K6) (C1 (L3 (E7 (N1 (A3 (G7 (A4 C 0 (by kernel_rfl)) A9) B0))))) N4)
theorem Fz (T : Txt mg) (C : Cxt P w K mg base X E5 (A5 (top 22)) 0 true) : DS X E0k (stm 22 1) K0 :=
 (Y5 (Ft C (G7 (A4 C 0 (by kernel_rfl)) A9) K6) (C1 (L3 (dU (Ql (G7 (A4 C 0 (by kernel_rfl)) A9)) (E7 (N1 (A3 (G7 (G7 (A4 C 0 (by kernel_rfl)) A9) A9) B0))) (E7 (N1 B0))))) N4)
theorem Fy (T : Txt mg) (C : Cxt P w K mg base X E5 (A5 (top 22)) 0 true) : DS X E0k (stm 22 2) J3 :=
 (Y5 (Ft C (G7 (A4 C 0 (by kernel_rfl)) A9) K6) (C1 (L3 (E7 (M6 C [] [] (by kernel_rfl) (Q6 (G7 (A4 C 0 (by kernel_rfl)) A9)) (fun X' C' => U2) (fun X' C' => (G7 (A4 C' 0 (by kernel_rfl)) A9)))))) N4)
theorem Fx (T : Txt mg) (C : Cxt P w K mg base X E5 (A5 (top 22)) 0 true) : DS X E0k (stm 22 3) J2 :=
 (L3 (E7 (M6 C [] [] (by kernel_rfl) (Q6 (Gs (A4 C 0 (by kernel_rfl)) (Na A9) Nb)) (fun X' C' => (Cc (Ql (G7 (A4 C' 0 (by kernel_rfl)) A9)))) (fun X' C' => (G7 (G7 (A4 C' 0 (by kernel_rfl)) A9) A9)))))
theorem Gi (T : Txt mg) (C : Cxt P w K mg base X E5 (A5 (top 22)) 0 true) : DSs X E0k (B9 (top 22)) K7 := by
 have h : B9 (top 22) = [stm 22 0, stm 22 1, stm 22 2, stm 22 3] := by kernel_rfl
 rw [h]
 exact (B4 (Ga T C) (B4 (Fz T C) (B4 (Fy T C) (C1 (Fx T C)))))
theorem Io : FnScope G9 ["_law_book_here", "_law_one"] (A5 (top 23)) := ⟨rfl, rfl, rfl, by decide +kernel, rfl, by decide +kernel, by decide +kernel⟩
theorem Ei (T : Txt mg) (F__law_named : Fn P w K mg base "_law_named" 1 1 C7) (C : Cxt P w K mg base X G9 (A5 (top 23)) 1 true) : DS X E0k (stm 23 0) R8 :=
 (bP C 2 (by kernel_rfl) (by kernel_rfl) T.b_dict (M6 C [] [] (by kernel_rfl) (Q6 (A4 C 0 (by kernel_rfl))) (fun X' C' => U2) (fun X' C' => (L6 (A3 (G7 (A4 C' 0 (by kernel_rfl)) A9) (A3 (A4 C' 0 (by kernel_rfl)) B0))))))
theorem Eh (T : Txt mg) (F__law_named : Fn P w K mg base "_law_named" 1 1 C7) (C : Cxt P w K mg base X G9 (A5 (top 23)) 1 true) : DS X E0k (stm 23 1) R7 :=
 (M0 C 3 (by kernel_rfl) (E7 (N1 (A3 (A4 C 1 (by kernel_rfl)) B0))))
theorem Eg (T : Txt mg) (F__law_named : Fn P w K mg base "_law_named" 1 1 C7) (C : Cxt P w K mg base X G9 (A5 (top 23)) 1 true) : DS X E0k (stm 23 2) R6 :=
 (V9 C 4 (by kernel_rfl) (W2 C (by kernel_rfl) T.b_range (A3 (d_len C (by kernel_rfl) T.b_len (A3 (A4 C 0 (by kernel_rfl)) B0)) B0)) (C1 (V9 C 5 (by kernel_rfl) (Q6 (Tr C (by kernel_rfl) T.b_list (A3 (A4 C 3 (by kernel_rfl)) B0))) (C1 (V9 C 6 (by kernel_rfl) (Q6 (D8 C F__law_named (by decide) (by kernel_rfl) (A3 (Nx C 2 (by kernel_rfl) (A4 C 5 (by kernel_rfl))) B0))) (C1 (M0 C 3 (by kernel_rfl) (D9 (A4 C 3 (by kernel_rfl)) (W4 (E7 (N1 (A3 (A4 C 6 (by kernel_rfl)) B0))) (aN C (by kernel_rfl) T.b_int (A3 (d_notIn C (A4 C 6 (by kernel_rfl)) (A4 C 3 (by kernel_rfl))) B0)))))))))))
theorem Ef (T : Txt mg) (F__law_named : Fn P w K mg base "_law_named" 1 1 C7) (C : Cxt P w K mg base X G9 (A5 (top 23)) 1 true) : DS X E0k (stm 23 3) R5 :=
 (L3 (dR C (by kernel_rfl) T.b_sorted (A3 (E7 (M6 C [1] ["_law_one"] (by kernel_rfl) (Q6 (A4 C 3 (by kernel_rfl))) (fun X' C' => (Cc (He C' (A4 C' 0 (by kernel_rfl)) (A4 C' 1 (by kernel_rfl))))) (fun X' C' => (A4 C' 0 (by kernel_rfl))))) B0)))
theorem Fi (T : Txt mg) (F__law_named : Fn P w K mg base "_law_named" 1 1 C7) (C : Cxt P w K mg base X G9 (A5 (top 23)) 1 true) : DSs X E0k (B9 (top 23)) T5 := by
 have h : B9 (top 23) = [stm 23 0, stm 23 1, stm 23 2, stm 23 3] := by kernel_rfl
 rw [h]
 exact (B4 (Ei T F__law_named C) (B4 (Eh T F__law_named C) (B4 (Eg T F__law_named C) (C1 (Ef T F__law_named C)))))
theorem Gc : FnScope Bj ["_law_e"] (A5 (top 24)) := ⟨rfl, rfl, rfl, by decide +kernel, rfl, by decide +kernel, by decide +kernel⟩
theorem Dv {CN CM : Addr} {A1 : Around} (XX : XSet1 K mg CN CM) (C : Cxt P w K mg base X Bj (A5 (top 24)) 0 true) : PSs (offX X A1) (B9 (top 24)) (bI CN) := Qo (p9 := ⟨0, 0, 0, 0⟩) C A1 XX (by kernel_rfl) (by kernel_rfl) (by kernel_rfl)
theorem Mk : FnScope Bi ["_law_way", "_law_book_here", "_law_one"] (A5 (top 25)) := ⟨rfl, rfl, rfl, by decide +kernel, rfl, by decide +kernel, by decide +kernel⟩
theorem Ju {CN CM : Addr} (hst : X.stack = X.env :: X.outer /\ X.env.frame = some X.env.locals) (hex : X.ex = []) (XX : XSet1 K mg CN CM) (T : Txt mg) (F__law_refused : FnE P w K mg base CN "_law_refused" 1) (F_depth : FnX P w K mg base CN "depth" 4 2 Q3) (F_named_in : FnX P w K mg base CN "named_in" 3 2 K8) (C : Cxt P w K mg base X Bi (A5 (top 25)) 4 true) : DSs X E0k (B9 (top 25)) Bt :=
 (C1 (fU C hst hex XX F_depth (by decide) F_named_in (by decide) F__law_refused (by decide) (by kernel_rfl)))
theorem fT : FnScope Qc ["_law_script"] (A5 (top 26)) := ⟨rfl, rfl, rfl, by decide +kernel, rfl, by decide +kernel, by decide +kernel⟩
structure LF (P : Program) (w : World) (K : PySem.W.Frag) (mg : Str -> Option Value) (base : Heap) (X : Cx) (CN : Addr) : Prop where
 hT : Txt mg
 hF__law_book : Fn P w K mg base "_law_book" 5 4 Q0
 hF__law_closed : Fn P w K mg base "_law_closed" 2 2 N7
 hF__law_named : Fn P w K mg base "_law_named" 1 1 C7
 hF__law_names : Fn P w K mg base "_law_names" 3 2 O8
 hF__law_told : Fn P w K mg base "_law_told" 5 3 C6
 hF_depth : FnX P w K mg base CN "depth" 4 2 Q3
 hF_layers : Fn P w K mg base "layers" 4 1 P2
 hF_named_in : FnX P w K mg base CN "named_in" 3 2 K8
 hC : Cxt P w K mg base X Qc (A5 (top 26)) 5 true
theorem Xo {CN : Addr} (h : LF P w K mg base X CN) : DS X E0k (stm 26 0) Ho :=
 let ⟨T, F__law_book, F__law_closed, F__law_named, F__law_names, F__law_told, F_depth, F_layers, F_named_in, C⟩ := h
 (M0 C 1 (by kernel_rfl) (D8 C F__law_book (by decide) (by kernel_rfl) (A3 (A4 C 0 (by kernel_rfl)) (A3 A9 (A3 A9 (A3 (D8 C F__law_names (by decide) (by kernel_rfl) (A3 (A4 C 0 (by kernel_rfl)) (A3 A9 B0))) B0))))))
theorem Xn {CN : Addr} (h : LF P w K mg base X CN) : DS X E0k (stm 26 1) Hn :=
 let ⟨T, F__law_book, F__law_closed, F__law_named, F__law_names, F__law_told, F_depth, F_layers, F_named_in, C⟩ := h
 (Ya C 2 (by kernel_rfl))
theorem Xm {CN : Addr} (h : LF P w K mg base X CN) : DS X E0k (stm 26 2) Hm :=
 let ⟨T, F__law_book, F__law_closed, F__law_named, F__law_names, F__law_told, F_depth, F_layers, F_named_in, C⟩ := h
 (V9 C 3 (by kernel_rfl) (Q6 (A4 C 1 (by kernel_rfl))) (B4 (Xy C 2 (by kernel_rfl) (G7 (A4 C 3 (by kernel_rfl)) A9) (aM C (by kernel_rfl) T.b_max (A3 (D9 (E7 (N1 (A3 A9 B0))) (E7 (M6 C [2] ["_law_deep"] (by kernel_rfl) (Q6 (D8 C F__law_named (by decide) (by kernel_rfl) (A3 (A4 C 3 (by kernel_rfl)) B0))) (fun X' C' => U2) (fun X' C' => (D9 A9 (Nx C' 1 (by kernel_rfl) (A4 C' 0 (by kernel_rfl)))))))) B0))) (B4 (Y5 (He C (D8 C F__law_told (by decide) (by kernel_rfl) (A3 A9 (A3 (A4 C 1 (by kernel_rfl)) (A3 (G7 (A4 C 3 (by kernel_rfl)) A9) B0)))) (Nx C 2 (by kernel_rfl) (G7 (A4 C 3 (by kernel_rfl)) A9))) (C1 (L3 Co)) N4) (C1 (Y5 (He C (D8 C F__law_told (by decide) (by kernel_rfl) (A3 A9 (A3 (A4 C 1 (by kernel_rfl)) (A3 (G7 (A4 C 3 (by kernel_rfl)) A9) B0)))) (D8 C F__law_closed (by decide) (by kernel_rfl) (A3 (A4 C 1 (by kernel_rfl)) (A3 (G7 (A4 C 3 (by kernel_rfl)) A9) B0)))) (C1 (L3 Co)) N4)))))
theorem Xl {CN : Addr} (h : LF P w K mg base X CN) : DS X E0k (stm 26 3) Hl :=
 let ⟨T, F__law_book, F__law_closed, F__law_named, F__law_names, F__law_told, F_depth, F_layers, F_named_in, C⟩ := h
 (s_fzD 2 (M0 C 4 (by kernel_rfl) (aM C (by kernel_rfl) T.b_max (A3 (D9 (E7 (N1 (A3 (aL A9) B0))) (E7 (M6 C [2] ["_law_deep"] (by kernel_rfl) (iN C 2 (by kernel_rfl)) (fun X' C' => U2) (fun X' C' => (aO C' 1 (by kernel_rfl) (A4 C' 0 (by kernel_rfl))))))) B0))))
theorem Xk {CN : Addr} (h : LF P w K mg base X CN) : DS X E0k (stm 26 4) Da :=
 let ⟨T, F__law_book, F__law_closed, F__law_named, F__law_names, F__law_told, F_depth, F_layers, F_named_in, C⟩ := h
 (On C 5 (by kernel_rfl) (by kernel_rfl) [2] ["_law_deep"] (by kernel_rfl) (W2 C (by kernel_rfl) T.b_range (A3 (D9 (A4 C 4 (by kernel_rfl)) A9) B0)) (fun X' C' => U2) (fun X' C' => (E7 (M6 C' [1, 0] ["_law_deep", "_law_number"] (by kernel_rfl) (Q6 (dS C' (by kernel_rfl) T.b_sorted 1 (by kernel_rfl))) (fun X' C' => (Cc (Ft C' (aO C' 1 (by kernel_rfl) (A4 C' 0 (by kernel_rfl))) (A4 C' 2 (by kernel_rfl))))) (fun X' C' => (A4 C' 0 (by kernel_rfl)))))))
theorem Xj {CN : Addr} (h : LF P w K mg base X CN) : DS X E0k (stm 26 5) Hk :=
 let ⟨T, F__law_book, F__law_closed, F__law_named, F__law_names, F__law_told, F_depth, F_layers, F_named_in, C⟩ := h
 (Y5 (He C (D8 C F_layers (by decide) (by kernel_rfl) (A3 (A4 C 1 (by kernel_rfl)) B0)) (A4 C 5 (by kernel_rfl))) (C1 (L3 Co)) N4)
theorem Xi {CN : Addr} (h : LF P w K mg base X CN) : DS X E0k (stm 26 6) Hj :=
 let ⟨T, F__law_book, F__law_closed, F__law_named, F__law_names, F__law_told, F_depth, F_layers, F_named_in, C⟩ := h
 (M0 C 6 (by kernel_rfl) (E7 (N1 (A3 (L6 (A3 A9 (A3 K6 B0))) (A3 (L6 (A3 A9 (A3 K6 B0))) (A3 Nw (A3 A9 (A3 K6 (A3 (L6 B0) B0)))))))))
theorem Xh {CN : Addr} (h : LF P w K mg base X CN) : DS X E0k (stm 26 7) Hi :=
 let ⟨T, F__law_book, F__law_closed, F__law_named, F__law_names, F__law_told, F_depth, F_layers, F_named_in, C⟩ := h
 (V9 C 7 (by kernel_rfl) (Q6 (A4 C 6 (by kernel_rfl))) (C1 (Y5 (w_t (Og (Xb C 2 (by kernel_rfl) (A4 C 7 (by kernel_rfl))) (Gy (He C (E7 (M6 C [1, 7] ["_law_book_here", "_law_bad"] (by kernel_rfl) (W2 C (by kernel_rfl) T.b_range (A3 A9 B0)) (fun X' C' => U2) (fun X' C' => (D8 C' F__law_told (by decide) (by kernel_rfl) (A3 (A4 C' 0 (by kernel_rfl)) (A3 (A4 C' 1 (by kernel_rfl)) (A3 (A4 C' 2 (by kernel_rfl)) B0))))))) (W4 (E7 (N1 (A3 (L6 (A3 K6 (A3 A9 B0))) B0))) A9))))) (C1 (L3 Co)) N4)))
theorem Xg {CN : Addr} (h : LF P w K mg base X CN) : DS X E0k (stm 26 8) Hh :=
 let ⟨T, F__law_book, F__law_closed, F__law_named, F__law_names, F__law_told, F_depth, F_layers, F_named_in, C⟩ := h
 (by (refine M0 C 8 ?_ ?_ ?_); (· kernel_rfl); (· refine @iY _ _ _ 9 _ ?_; kernel_rfl); (· rfl))
theorem Xf {CN : Addr} (h : LF P w K mg base X CN) : DS X E0k (stm 26 9) Cz :=
 let ⟨T, F__law_book, F__law_closed, F__law_named, F__law_names, F__law_told, F_depth, F_layers, F_named_in, C⟩ := h
 (Y5 (w_t (w_or (He C (D8 C F_layers (by decide) (by kernel_rfl) (A3 (A4 C 8 (by kernel_rfl)) B0)) (E7 (N1 (A3 (E7 (N1 (A3 (L6 (A3 A9 (A3 K6 B0))) B0))) (A3 (E7 (N1 (A3 (L6 (A3 A9 (A3 K6 B0))) B0))) (A3 (E7 (N1 (A3 (L6 (A3 A9 (A3 K6 B0))) B0))) B0)))))) (w_or1 (He C (D8 C F_layers (by decide) (by kernel_rfl) (A3 (L6 B0) B0)) (E7 (N1 B0)))))) (C1 (L3 Co)) N4)
theorem Uv {CN : Addr} (h : LF P w K mg base X CN) : DS X E0k (stm 26 10) Dz :=
 let ⟨T, F__law_book, F__law_closed, F__law_named, F__law_names, F__law_told, F_depth, F_layers, F_named_in, C⟩ := h
 (L3 (d_and (iX C (D8 C (Sm.FnX.calm F_named_in) (by decide) (by kernel_rfl) (A3 (A4 C 8 (by kernel_rfl)) (A3 (L6 (A3 A9 (A3 K6 B0))) B0))) (E7 (N1 (A3 (L6 (A3 A9 (A3 K6 B0))) (A3 (L6 (A3 A9 (A3 K6 B0))) B0))))) (d_one (iX C (D8 C (Sm.FnX.calm F_depth) (by decide) (by kernel_rfl) (A3 (A4 C 8 (by kernel_rfl)) (A3 (L6 (A3 A9 (A3 K6 B0))) B0))) A9))))
theorem aW {CN : Addr} (T : Txt mg) (F__law_book : Fn P w K mg base "_law_book" 5 4 Q0) (F__law_closed : Fn P w K mg base "_law_closed" 2 2 N7) (F__law_named : Fn P w K mg base "_law_named" 1 1 C7) (F__law_names : Fn P w K mg base "_law_names" 3 2 O8) (F__law_told : Fn P w K mg base "_law_told" 5 3 C6) (F_depth : FnX P w K mg base CN "depth" 4 2 Q3) (F_layers : Fn P w K mg base "layers" 4 1 P2) (F_named_in : FnX P w K mg base CN "named_in" 3 2 K8) (C : Cxt P w K mg base X Qc (A5 (top 26)) 5 true) : DSs X E0k (B9 (top 26)) Mi := by
 have h : B9 (top 26) = [stm 26 0, stm 26 1, stm 26 2, stm 26 3, stm 26 4, stm 26 5, stm 26 6, stm 26 7, stm 26 8, stm 26 9, stm 26 10] := by kernel_rfl
 rw [h]
 have v0 := @Xo P w K mg base X CN ⟨T, F__law_book, F__law_closed, F__law_named, F__law_names, F__law_told, F_depth, F_layers, F_named_in, C⟩
 have v1 := @Xn P w K mg base X CN ⟨T, F__law_book, F__law_closed, F__law_named, F__law_names, F__law_told, F_depth, F_layers, F_named_in, C⟩
 have v2 := @Xm P w K mg base X CN ⟨T, F__law_book, F__law_closed, F__law_named, F__law_names, F__law_told, F_depth, F_layers, F_named_in, C⟩
 have v3 := @Xl P w K mg base X CN ⟨T, F__law_book, F__law_closed, F__law_named, F__law_names, F__law_told, F_depth, F_layers, F_named_in, C⟩
 have v4 := @Xk P w K mg base X CN ⟨T, F__law_book, F__law_closed, F__law_named, F__law_names, F__law_told, F_depth, F_layers, F_named_in, C⟩
 have v5 := @Xj P w K mg base X CN ⟨T, F__law_book, F__law_closed, F__law_named, F__law_names, F__law_told, F_depth, F_layers, F_named_in, C⟩
 have v6 := @Xi P w K mg base X CN ⟨T, F__law_book, F__law_closed, F__law_named, F__law_names, F__law_told, F_depth, F_layers, F_named_in, C⟩
 have v7 := @Xh P w K mg base X CN ⟨T, F__law_book, F__law_closed, F__law_named, F__law_names, F__law_told, F_depth, F_layers, F_named_in, C⟩
 have v8 := @Xg P w K mg base X CN ⟨T, F__law_book, F__law_closed, F__law_named, F__law_names, F__law_told, F_depth, F_layers, F_named_in, C⟩
 have v9 := @Xf P w K mg base X CN ⟨T, F__law_book, F__law_closed, F__law_named, F__law_names, F__law_told, F_depth, F_layers, F_named_in, C⟩
 have v10 := @Uv P w K mg base X CN ⟨T, F__law_book, F__law_closed, F__law_named, F__law_names, F__law_told, F_depth, F_layers, F_named_in, C⟩
 generalize stm 26 0 = z0 at v0 ⊢
 generalize stm 26 1 = z1 at v1 ⊢
 generalize stm 26 2 = z2 at v2 ⊢
 generalize stm 26 3 = z3 at v3 ⊢
 generalize stm 26 4 = z4 at v4 ⊢
 generalize stm 26 5 = z5 at v5 ⊢
 generalize stm 26 6 = z6 at v6 ⊢
 generalize stm 26 7 = z7 at v7 ⊢
 generalize stm 26 8 = z8 at v8 ⊢
 generalize stm 26 9 = z9 at v9 ⊢
 generalize stm 26 10 = z10 at v10 ⊢
 have u10 := C1 v10
 have u9 := B4 v9 u10
 have u8 := B4 v8 u9
 have u7 := B4 v7 u8
 have u6 := B4 v6 u7
 have u5 := B4 v5 u6
 have u4 := B4 v4 u5
 have u3 := B4 v3 u4
 have u2 := B4 v2 u3
 have u1 := B4 v1 u2
 have u0 := B4 v0 u1
 exact u0
end Sm
end
section
namespace Sm
open PySem PySem.Spec PyProof.Rows L2
theorem N2 {K : PySem.W.Frag} {mg : Str -> Option Value} {h : Heap} {x : Str} {st : Stmt} {ps : List Str} {f : Addr} {oc : Value} {od an : Option Addr} {osl : Array (Option Value)} {kV doc pm cdv ct : Value} (X : K.In h) (G : h.Ns mainGlobals mg) (a : PySem.W.nsIn K mainGlobals x = some (some (.ref f)))
   (l : K.lookup f = some ⟨oc, od, .func (PySem.W.fnOf x x (Bp st) (B9 st) (A5 st) .none kV doc pm an cdv ct), osl⟩) (c : PySem.W.codeIn K cdv x = true) (k : PySem.W.keepIn K (.ref f) = true)
   (hb : ∀ (kV doc pm : Value) (an : Option Addr) (cdv ct : Value) (us : List Value), us.length = ps.length -> bindArgs (PySem.W.fnOf x x (Bp st) (B9 st) (A5 st) .none kV doc pm an cdv ct) ⟨us, []⟩ = pure (ps.zip us)) : Def K mg x st ps :=
 ⟨f, _, aD l c k, PySem.W.mg_of X G a, (aD l c k).binds hb⟩
theorem fn_Dt {P : Program} {w : World} {K : PySem.W.Frag} {mg : Str -> Option Value} {base : Heap} {N : List Str} {k : Nat} {x : Str} {st : Stmt} {ps : List Str} {n : Nat} {go : Dn -> Out} {m : List PyData -> Res PyData} (F : Def K mg x st ps) (S : FnScope N ps (A5 st)) (hn : ps.length = n)
   (body : ∀ X, Cxt P w K mg base X N (A5 st) k true -> (X.stack = X.env :: X.outer /\ X.env.frame = some X.env.locals) -> X.ex = [] -> DSs X E0k (B9 st) go) (hm : m = fnD N go) : Fn P w K mg base x (k + 1) n m := by
 obtain ⟨f, fd, F, hmg, hb⟩ := F.ex
 refine ⟨f, fd, ps, hn, ?_, hmg, F.kp, hb⟩
 subst hm
 refine F.ok S (fun vs H Q E h => ?_) (fun cdv A outer s H vs Q E hr h => ?_)
 . obtain ⟨G, ds, d, _, r, hl, _⟩ := h
   rw [<- r.length, hl, hn]
 . obtain ⟨G, ds, d, hG, r, hl, em, q⟩ := h
   refine ⟨_, body _ ⟨rfl, rfl, rfl, rfl, rfl, rfl, rfl, rfl, hr, fun _ _ => rfl, PassesOwn.never⟩ ⟨rfl, rfl⟩ rfl G H, G, _, Db hG r N, ?_⟩
   unfold fnD at em
   cases eg : go (D7 N ds) with
   | rt d' => rw [eg] at em; cases em; exact fun v G' H' g r' => q v G' H' g r'
   | nx δ => rw [eg] at em; cases em; exact fun Z G' H' S' => q _ G' H' S'.gr rfl
   | bk _ => rw [eg] at em; cases em
   | ct _ => rw [eg] at em; cases em
   | exc _ => rw [eg] at em; cases em
   | no => rw [eg] at em; cases em
theorem Pb : ∀ {l : List (Addr × Obj)} {a : Addr} {o : Obj}, l.lookup a = some o -> (a, o) ∈ l
 | [], _, _, h => nomatch h
 | (b, q) :: r, a, o, h => by
   rw [List.lookup_cons] at h
   cases e : a == b with
   | true => rw [e] at h; cases h; rw [eq_of_beq e]; exact .head _
   | false => rw [e] at h; exact .tail _ (Pb h)
noncomputable def noList (K : PySem.W.Frag) : Bool := K.all fun p => !(match p.2.cls with | .type n => n == "list" | _ => false)
theorem noList.out {K : PySem.W.Frag} (h : noList K = true) {a : Addr} {o : Obj} (e : K.lookup a = some o) : o.cls ≠ .type "list" := fun z => by
 have hm : (a, o) ∈ K := Pb e
 unfold noList at h
 have := List.all_eq_true.mp h _ hm
 rw [z] at this
 simp at this
structure Defs (K : PySem.W.Frag) (mg : Str -> Option Value) : Prop where
 D_signs_named : Def K mg "signs_named" (top 1) ["deed"]
 D_deeds_named : Def K mg "deeds_named" (top 2) ["deed"]
 D_refuse_unless_deed : Def K mg "refuse_unless_deed" (top 7) ["book", "which"]
 D_depths_in : Def K mg "depths_in" (top 9) ["book"]
 D_depth : Def K mg "depth" (top 10) ["book", "which"]
 D_layers : Def K mg "layers" (top 11) ["book"]
 D_named_in : Def K mg "named_in" (top 12) ["book", "which"]
 D__law_cell : Def K mg "_law_cell" (top 14) ["_law_script", "_law_k"]
 D__law_drawn : Def K mg "_law_drawn" (top 15) ["_law_script", "_law_k", "_law_many"]
 D__law_names : Def K mg "_law_names" (top 16) ["_law_script", "_law_at"]
 D__law_words : Def K mg "_law_words" (top 17) ["_law_script", "_law_at"]
 D__law_signs : Def K mg "_law_signs" (top 18) ["_law_book_here"]
 D__law_anchor : Def K mg "_law_anchor" (top 19) ["_law_script", "_law_at", "_law_signs_here"]
 D__law_deed : Def K mg "_law_deed" (top 20) ["_law_script", "_law_at", "_law_one", "_law_known", "_law_names_here"]
 D__law_book : Def K mg "_law_book" (top 21) ["_law_script", "_law_at", "_law_most", "_law_names_here"]
 D__law_named : Def K mg "_law_named" (top 22) ["_law_deed_here"]
 D__law_closed : Def K mg "_law_closed" (top 23) ["_law_book_here", "_law_one"]
 D__law_refused : Def K mg "_law_refused" (top 24) ["_law_e"]
 D__law_told : Def K mg "_law_told" (top 25) ["_law_way", "_law_book_here", "_law_one"]
 D_law : Def K mg "law" (top 26) ["_law_script"]
section
variable {P : Program} {w : World} {K : PySem.W.Frag} {mg : Str -> Option Value} {base : Heap}
theorem iC {f : Addr} {fd : FuncData} (F : L2.Fun K "law" "law" (top 26) f fd) (T : Txt mg) (D : Defs K mg) {CN CM : Addr} (O : ExcAt K mg "NoDeed" CN) (XX : XSet1 K mg CN CM) : FnOk P w K mg base CX0 6 f fd ["_law_script"] (spD 1 Td) := by
 have F_signs_named : Fn P w K mg base "signs_named" 1 1 P1 := Fd (k := 0) D.D_signs_named Il rfl (fun X C => Fg T  C) rfl
 have F_deeds_named : Fn P w K mg base "deeds_named" 2 1 C3 := Fd (k := 1) D.D_deeds_named Im rfl (fun X C => Fh T F_signs_named C) rfl
 have F_refuse_unless_deed : FnX P w K mg base CN "refuse_unless_deed" 1 2 B2 := aF (k := 0) D.D_refuse_unless_deed Aw rfl (fun X E C L hex => Ac O L hex T  C) rfl
 have F_depths_in : FnW P w K mg base "depths_in" 3 1 O3 := fn_W (k := 2) D.D_depths_in Mj rfl (fun X C => Jt T F_deeds_named C) rfl
 have F_depth : FnX P w K mg base CN "depth" 4 2 Q3 := aF (k := 3) D.D_depth Xw rfl (fun X E C L hex => Rs O L hex T F_depths_in F_refuse_unless_deed C) rfl
 have F_layers : Fn P w K mg base "layers" 4 1 P2 := Fd (k := 3) D.D_layers Uz rfl (fun X C => Px T F_depths_in C) rfl
 have F_named_in : FnX P w K mg base CN "named_in" 3 2 K8 := aF (k := 2) D.D_named_in Om rfl (fun X E C L hex => Kr O L hex T F_deeds_named F_refuse_unless_deed C) rfl
 have F__law_cell : Fn P w K mg base "_law_cell" 1 2 S9 := Fd (k := 0) D.D__law_cell Mm rfl (fun X C => Jw T  C) rfl
 have F__law_drawn : Fn P w K mg base "_law_drawn" 2 3 A6 := Fd (k := 1) D.D__law_drawn Km rfl (fun X C => Gj T F__law_cell C) rfl
 have F__law_names : Fn P w K mg base "_law_names" 3 2 O8 := Fd (k := 2) D.D__law_names Kk rfl (fun X C => Gh T F__law_drawn C) rfl
 have F__law_words : Fn P w K mg base "_law_words" 3 2 E2 := Fd (k := 2) D.D__law_words Ki rfl (fun X C => Gf T F__law_drawn C) rfl
 have F__law_signs : Fn P w K mg base "_law_signs" 1 1 E3 := Fd (k := 0) D.D__law_signs Kj rfl (fun X C => Gg T  C) rfl
 have F__law_anchor : Fn P w K mg base "_law_anchor" 3 3 D1 := Fd (k := 2) D.D__law_anchor Ip rfl (fun X C => Fj T F__law_drawn C) rfl
 have F__law_deed : Fn P w K mg base "_law_deed" 4 5 I8 := Fd (k := 3) D.D__law_deed Ml rfl (fun X C => Jv T F__law_anchor F__law_drawn F__law_signs F__law_words C) rfl
 have F__law_book : Fn P w K mg base "_law_book" 5 4 Q0 := Fd (k := 4) D.D__law_book Mn rfl (fun X C => Jx T F__law_deed F__law_drawn C) rfl
 have F__law_named : Fn P w K mg base "_law_named" 1 1 C7 := Fd (k := 0) D.D__law_named Kl rfl (fun X C => Gi T  C) rfl
 have F__law_closed : Fn P w K mg base "_law_closed" 2 2 N7 := Fd (k := 1) D.D__law_closed Io rfl (fun X C => Fi T F__law_named C) rfl
 have F__law_refused : FnE P w K mg base CN "_law_refused" 1 := fn_E (k := 0) D.D__law_refused Gc rfl rfl (fun X A1 C => Dv XX C)
 have F__law_told : Fn P w K mg base "_law_told" 5 3 C6 := fn_Dt (k := 4) D.D__law_told Mk rfl (fun X C hst hex => Ju hst hex XX T F__law_refused F_depth F_named_in C) rfl
 exact aE (k := 5) F fT rfl (fun X C => aW T F__law_book F__law_closed F__law_named F__law_names F__law_told F_depth F_layers F_named_in C) rfl
end
end Sm
open PySem PySem.W PyProof.Rows
theorem Sm.walkD {l : PySem.W.OpenLaw} {q : Program} {loose : List Str} {XP : (Str -> Option Value) -> Heap -> Prop} {YP : World -> Heap -> Prop} {d : DefRec} {K : Params -> PySem.W.Frag} (hn : l.most = some 63) (hdf : d.params.defaults = []) (hnm : d.name = "law")
   (hY : ∀ (w : World) (h : Heap), YP w h -> (K w.params).In h) (hK : ∀ w : World, Sm.noList (K w.params) = true)
   (F : ∀ (w : World) (mg : Str -> Option Value) (h : Heap), (K w.params).In h -> h.Ns mainGlobals mg -> Sm.Txt mg /\ Sm.Defs (K w.params) mg /\ ∃ CN CM, Sm.ExcAt (K w.params) mg "NoDeed" CN /\ Sm.XSet1 (K w.params) mg CN CM)
   (pure : ∀ ns : List Int, ns.length <= 63 -> Sm.Td [.list (ns.map PyData.int)] = .ok (.bool true)) :
   PySem.W.WalkO q loose XP YP l.row.toRowW d [] (fun f vs => PySem.call f vs) := by
 refine L2.bE (n := 63) (k := 6) (x := "_law_script") (CX := fun _ => L2.CX0) (sp := fun _ => Sm.spD 1 Sm.Td) hn (by decide) hdf ⟨rfl, by decide, by decide, rfl⟩ hY (fun w mg fa h KX G hmg => ?_) (fun w H a ns hl hO hS => ?_) fun _ _ _ _ _ z => z
 . obtain ⟨T, D, CN, CM, O, XX⟩ := F w mg h KX G
   obtain ⟨f0, fd0, F0, hm0, hb0⟩ := D.D_law.ex; rw [hnm, hm0] at hmg; cases hmg; refine ⟨fd0, fun s u => ?_, fun base kb nb => ?_⟩
   . obtain ⟨oc, od, kV, doc, pm, an, cdv, ct, osl, rfl, lk, hcd⟩ := F0.ex
     exact .of_eq rfl
   . exact Sm.iC F0 T D O XX
 . rcases hS with hS | ⟨o, its, nn, hk, hc, _⟩
   . refine ⟨H, [.list (ns.map PyData.int)], .bool true, L2.Same.refl _, Sm.RepL.cons ⟨a, _, rfl, hS, Sm.RepL.ints ns⟩ rfl, rfl, pure ns hl, fun v G' H' g r => r⟩
   . exact absurd hc (Sm.noList.out (hK w) hk)
end
section
open PySem
namespace Sm
open L2
noncomputable def Out.seq (o : Out) (g : Dn -> Out) : Out := match o with
 | .nx δ => g δ
 | o => o
noncomputable def Out.fin (o : Out) : Res PyData := match o with
 | .rt d => .ok d
 | .nx _ => .ok .none
 | .exc c => .exc c
 | _ => .no
noncomputable def eR (s : Option Sl) : Res PyData := match s with
 | some (.sh d) => .ok d
 | _ => .no
theorem C4 {α β : Type} (a : α) (k : α -> Res β) : (Res.ok a).bind k = k a := rfl
theorem Yz {α : Type} (a : α) : ofO (some a) = .ok a := rfl
theorem M7 {α : Type} (a : α) (k : α -> Out) : M8 (.ok a) k = k a := rfl
theorem Bl (g1 g2 : Dn -> Out) (δ : Dn) : E1 g1 g2 δ = (g1 δ).seq g2 := by unfold E1 Out.seq; cases g1 δ <;> rfl
theorem Qs (δ : Dn) (g : Dn -> Out) : (Out.nx δ).seq g = g δ := rfl
theorem fS (d : PyData) (g : Dn -> Out) : (Out.rt d).seq g = .rt d := rfl
theorem Z0 (N : List Str) (g : Dn -> Out) (ds : List PyData) : fnD N g ds = (g (D7 N ds)).fin := by unfold fnD Out.fin; cases g (D7 N ds) <;> rfl
theorem iR (d : PyData) : (Out.rt d).fin = .ok d := rfl
theorem W7 (i : Nat) (δ : Dn) : A2 i δ = eR δ[i]? := rfl
theorem S7 (d : PyData) : eR (some (.sh d)) = .ok d := rfl
theorem fX (c : Dn -> Res Bool) (g1 g2 : Dn -> Out) (δ : Dn) : sIf c g1 g2 δ = M8 (c δ) fun b => if b = true then g1 δ else g2 δ := rfl
theorem fM (f g : Dn -> Res PyData) (δ : Dn) (h : f δ = .ok (.bool true)) : bF f g δ = g δ := by unfold bF; rw [h]; rfl
theorem Ur (b : Bool) : fO (.bool b) = some b := rfl
local macro_rules
 | `(tactic| simp_arith) => `(tactic| simp_arith [C4])
 | `(tactic| simp_arith [$ls,*]) => `(tactic| simp only [$ls,*, Z0, D7, Bl, Qs, fS, iR, fX, C9, b2, b1, W7, S7, D2, K3, A7, A0, vC, C4, Yz, M7, N9, K2, L4, vFn, B7, Cs, Iw, Ix, vSl, Wu, F8, Ur,
 List.map_cons, List.map_nil, List.length_cons, List.length_nil, List.replicate, List.cons_append, List.nil_append, List.append_nil, List.getElem?_cons_zero, List.getElem?_cons_succ, List.set_cons_zero, List.set_cons_succ, Nat.reduceAdd, Nat.reduceSub, Bool.false_eq_true, reduceIte])
theorem F7 {src : Dn -> Res (List PyData)} {bnd : PyData -> Res (List Sl)} {cap : List Nat} {tt : Dn -> Res Bool} {el : Dn -> Res PyData} {δ δc : Dn} {ds ys : List PyData} (h : src δ = .ok ds) (hl : ds.length <= 1000) (hc : Bg δ cap = δc) (e : B6 bnd δc tt el ds = .ok ys) : E6 src bnd cap tt el δ = .ok ys := by
 unfold E6
 rw [h, C4, if_pos (Nat.le_trans hl (by decide)), hc, e]
theorem M3 {f g : Dn -> Res PyData} {op : PyData -> PyData -> Option PyData} {δ : Dn} {x y d : PyData} (h1 : f δ = .ok x) (h2 : g δ = .ok y) (h3 : op x y = some d) : b2 f g op δ = .ok d := by
 unfold b2
 rw [h1, C4, h2, C4, h3]; rfl
theorem M5 {f : Dn -> Res (List PyData)} {δ : Dn} {ds : List PyData} (h : f δ = .ok ds) : D2 f δ = .ok (.list ds) := by unfold D2; rw [h]; rfl
theorem O0 {i : Nat} {f : Dn -> Res PyData} {δ : Dn} {d : PyData} (h : f δ = .ok d) : K2 i f δ = .nx (δ.set i (.sh d)) := by unfold K2; rw [h]; rfl
theorem Aq {c : Dn -> Res Bool} {g1 g2 : Dn -> Out} {δ : Dn} (h : c δ = .ok true) : sIf c g1 g2 δ = g1 δ := by unfold sIf; rw [h]; rfl
theorem W0 {c : Dn -> Res Bool} {g1 g2 : Dn -> Out} {δ : Dn} (h : c δ = .ok false) : sIf c g1 g2 δ = g2 δ := by unfold sIf; rw [h]; rfl
theorem C8 {g1 g2 : Dn -> Out} {δ δ' : Dn} (h : g1 δ = .nx δ') : E1 g1 g2 δ = g2 δ' := by unfold E1; rw [h]
theorem Dc {g1 g2 : Dn -> Out} {δ : Dn} {d : PyData} (h : g1 δ = .rt d) : E1 g1 g2 δ = .rt d := by unfold E1; rw [h]
theorem O6 {f : Dn -> Res PyData} {δ : Dn} {d : PyData} (h : f δ = .ok d) : N9 f δ = .rt d := by unfold N9; rw [h]; rfl
theorem X3 {N : List Str} {g : Dn -> Out} {ds : List PyData} {d : PyData} (h : g (D7 N ds) = .rt d) : fnD N g ds = .ok d := by rw [Z0, h]; rfl
theorem B1 {f : Dn -> Res PyData} {fs : Dn -> Res (List PyData)} {δ : Dn} {d : PyData} {ds : List PyData} (h : f δ = .ok d) (h2 : fs δ = .ok ds) : A0 f fs δ = .ok (d :: ds) := by unfold A0; rw [h, C4, h2]; rfl
theorem F5 {fs : Dn -> Res (List PyData)} {m : List PyData -> Res PyData} {δ : Dn} {ds : List PyData} {r : Res PyData} (h : fs δ = .ok ds) (h2 : m ds = r) : B7 fs m δ = r := by unfold B7; rw [h, C4, h2]
theorem Rz {f : Dn -> Res (List PyData)} {δ : Dn} {ds : List PyData} (h : f δ = .ok ds) : K3 f δ = .ok (.tuple ds) := by unfold K3; rw [h]; rfl
theorem Ca {f : Dn -> Res (List PyData)} {op : List PyData -> Option PyData} {δ : Dn} {ds : List PyData} {d : PyData} (h : f δ = .ok ds) (h2 : op ds = some d) : vFn f op δ = .ok d := by unfold vFn; rw [h, C4, h2]; rfl
theorem O2 {f : Dn -> Res PyData} {δ : Dn} {b : Bool} (h : f δ = .ok (.bool b)) : C9 f δ = .ok b := by unfold C9; rw [h]; rfl
abbrev scr (ns : List Int) : PyData := .list (ns.map .int)
theorem Te {n j : Nat} (h : j < n) : ixN n (j : Int) = some j := by
 unfold ixN
 rw [if_pos (by omega)]
 simp [h]
theorem atI_nat {α : Type} {xs : List α} {j : Nat} (h : j < xs.length) : atI xs (j : Int) = some xs[j] := by
 unfold atI
 rw [Te h]
 simp
theorem Gu {α : Type} {xs : List α} {i : Int} (h0 : 0 <= i) (h : i < xs.length) : ∃ x ∈ xs, atI xs i = some x := by
 obtain ⟨j, rfl⟩ := Int.eq_ofNat_of_zero_le h0
 have hj : j < xs.length := by omega
 exact ⟨xs[j], List.getElem_mem _, atI_nat hj⟩
theorem dM (ns : List Int) : PyData.eqv (scr ns) (.list []) = ns.isEmpty := by
 cases ns with
 | nil => rfl
 | cons n ns => rfl
theorem Tu (ns : List Int) : dEq (scr ns) (.list []) = some (.bool ns.isEmpty) := by
 unfold dEq
 rw [if_pos (Nat.le_trans (Nat.min_le_right _ _) (by decide)), dM]
theorem Oy {a b : Int} (h : (-(2 ^ 64) < a /\ a < 2 ^ 64) \/ (-(2 ^ 64) < b /\ b < 2 ^ 64)) : L8 (.int a) (.int b) = some (.int (a * b)) := by
 show (if _ then _ else _) = _
 rw [if_pos h]
theorem mul7 {b : Int} : L8 (.int 7) (.int b) = some (.int (7 * b)) := Oy (.inl ⟨by decide, by decide⟩)
theorem cZ {b : Int} : L8 (.int 6553) (.int b) = some (.int (6553 * b)) := Oy (.inl ⟨by decide, by decide⟩)
theorem Vi {b : Int} : L8 (.int 104723) (.int b) = some (.int (104723 * b)) := Oy (.inl ⟨by decide, by decide⟩)
theorem Zl {b : Int} : L8 (.int b) (.int 69069) = some (.int (b * 69069)) := Oy (.inr ⟨by decide, by decide⟩)
theorem mul2 {b : Int} : L8 (.int 2) (.int b) = some (.int (2 * b)) := Oy (.inl ⟨by decide, by decide⟩)
theorem Zm {b : Int} : L8 (.int 60) (.int b) = some (.int (60 * b)) := Oy (.inl ⟨by decide, by decide⟩)
theorem Zn {a b : Int} (h : 0 < b) : Kq (.int a) (.int b) = some (.int (a % b)) := by
 show (if _ then _ else _) = _
 rw [if_pos h]
theorem dP {a b : Int} (h : 0 < b) (h2 : b < 1073741824) : Fq (.int a) (.int b) = some (.int (a / b)) := by
 show (if _ then _ else _) = _
 rw [if_pos ⟨h, h2⟩]
theorem Z8 {a b : Int} : C2 (.int a) (.int b) = some (.int (a + b)) := rfl
theorem eA (ns : List Int) (hns : ns.length <= 63) (k : Int) (h0 : 0 <= k) (h1 : k < 1000000) : ∃ c, S9 [scr ns, .int k] = .ok (.int c) := by
 unfold S9 Y3 X5
 cases hn : ns with
 | nil =>
   refine ⟨7 * k, ?_⟩
   simp_arith [Tu, List.isEmpty_nil, mul7]
 | cons n r =>
   have e1 := Tu (n :: r); have hl : (0 : Int) < ((n :: r).length : Int) := by simp
   have hl2 : ((n :: r).length : Int) <= 63 := by rw [<- hn]; omega
   obtain ⟨x, hx, e2⟩ := Gu (xs := (n :: r).map PyData.int) (i := k % ((n :: r).length : Int)) (Int.emod_nonneg _ (by omega)) (by rw [List.length_map]; exact Int.emod_lt_of_pos _ hl)
   obtain ⟨c, _, rfl⟩ := List.mem_map.mp hx; refine ⟨c + 6553 * (k / ((n :: r).length : Int)), ?_⟩; have e3 : Ab [scr (n :: r)] = some (.int ((n :: r).length : Int)) := by simp [Ab, scr]
   have e4 : dIx (scr (n :: r)) (.int (k % ((n :: r).length : Int))) = some (.int c) := e2
   generalize hS : scr (n :: r) = S at *
   generalize hL : ((n :: r).length : Int) = m at *
   simp_arith [e1, List.isEmpty_cons, e3, Zn hl, dP hl (show m < 1073741824 by omega), cZ, e4, Z8]
theorem K9 (ns : List Int) (hns : ns.length <= 63) (k m : Int) (h0 : 0 <= k) (h1 : k < 1000000) (hm : 0 < m) : ∃ r, A6 [scr ns, .int k, .int m] = .ok (.int r) /\ 0 <= r /\ r < m := by
 obtain ⟨c, hc⟩ := eA ns hns k h0 h1
 unfold A6 V8 U1
 generalize scr ns = S at *
 simp_arith [hc, Zn (show (0 : Int) < 2147483563 by decide), Z8, Zl, Vi]
 generalize hA : (c % 2147483563 * 69069 + 104723 * (k + 1)) % 2147483563 = A
 have a0 : 0 <= A := by rw [<- hA]; exact Int.emod_nonneg _ (by decide)
 have a1 : A < 2147483563 := by rw [<- hA]; exact Int.emod_lt_of_pos _ (by decide)
 simp_arith [Oy (a := A) (b := A) (.inl ⟨by omega, by omega⟩), dP (show (0 : Int) < 3 by decide) (by decide), Z8, Zn (show (0 : Int) < 2147483399 by decide)]
 generalize hB : (A * A + A / 3) % 2147483399 = B
 have b0 : 0 <= B := by rw [<- hB]; exact Int.emod_nonneg _ (by decide)
 have b1 : B < 2147483399 := by rw [<- hB]; exact Int.emod_lt_of_pos _ (by decide)
 simp_arith [Oy (a := B) (b := B) (.inl ⟨by omega, by omega⟩), dP (show (0 : Int) < 7 by decide) (by decide), Z8, Zn (show (0 : Int) < 2147483647 by decide), dP (show (0 : Int) < 11 by decide) (by decide), Zn hm]
 exact ⟨_, rfl, Int.emod_nonneg _ (by omega), Int.emod_lt_of_pos _ hm⟩
theorem Zw {x : Str} {i : Int} (h0 : 0 <= i) (h : i < (x.cps.toList.length : Int)) : ∃ c ∈ x.cps.toList, dIx (.str x) (.int i) = some (.str ⟨#[c]⟩) := by
 obtain ⟨c, hc, e⟩ := Gu (xs := x.cps.toList) h0 h
 exact ⟨c, hc, by show (atI x.cps.toList i).map _ = _; rw [e]; rfl⟩
theorem Vk (c : Nat) : (⟨#[c]⟩ : Str).length = 1 := rfl
theorem Hg : (1000 : Nat) <= sizeLine := by decide
theorem addS {x y : Str} (h : x.length + y.length <= 1000) : C2 (.str x) (.str y) = some (.str (x ++ y)) := by
 show (if _ then _ else _) = _
 rw [if_pos (Nat.le_trans h Hg)]
theorem Qa {x y : List PyData} (h : x.length + y.length <= 1000) : C2 (.list x) (.list y) = some (.list (x ++ y)) := by
 show (if _ then _ else _) = _
 rw [if_pos (Nat.le_trans h Hg)]
theorem addT {x y : List PyData} (h : x.length + y.length <= 1000) : C2 (.tuple x) (.tuple y) = some (.tuple (x ++ y)) := by
 show (if _ then _ else _) = _
 rw [if_pos (Nat.le_trans h Hg)]
theorem strLen_append (x y : Str) : (x ++ y).length = x.length + y.length := by
 show (x.cps ++ y.cps).size = _
 rw [Array.size_append]; rfl
def chOk (lo hi : Nat) (x : Str) : Prop := ∀ c ∈ x.cps.toList, lo <= c /\ c <= hi
theorem chOk.app {lo hi : Nat} {x y : Str} (hx : chOk lo hi x) (hy : chOk lo hi y) : chOk lo hi (x ++ y) := fun c hc => by
 have : c ∈ (x.cps ++ y.cps).toList := hc
 rw [Array.toList_append] at this
 exact (List.mem_append.mp this).elim (hx c) (hy c)
theorem chOk.one {lo hi c : Nat} (h : lo <= c /\ c <= hi) : chOk lo hi ⟨#[c]⟩ := fun d hd => by
 have : d = c := by simpa using hd
 rw [this]; exact h
theorem chOk.nil {lo hi : Nat} : chOk lo hi "" := fun c hc => by
 rw [show ("" : Str).cps.toList = [] from rfl] at hc; exact nomatch hc
theorem mulS {c : Nat} {n : Int} (h0 : 0 <= n) (h : n < 2) : ∃ y : Str, L8 (.str ⟨#[c]⟩) (.int n) = some (.str y) /\ y.length <= 1 /\ ∀ d ∈ y.cps.toList, d = c := by
 have : n = 0 \/ n = 1 := by omega
 rcases this with rfl | rfl
 . refine ⟨L7 0 ⟨#[c]⟩, rfl, (show (0 : Nat) <= 1 by decide), fun d hd => ?_⟩
   simp [L7] at hd
 . refine ⟨L7 1 ⟨#[c]⟩, rfl, by unfold L7; simp; exact Nat.le_refl _, fun d hd => ?_⟩
   simpa [L7] using hd
def W1 (x : Str) : Prop := 1 <= x.length /\ x.length <= 6 /\ chOk 97 122 x
def wdOk (x : Str) : Prop := 1 <= x.length /\ x.length <= 4 /\ chOk 32 126 x
theorem ixL {xs : List PyData} {i : Int} (h0 : 0 <= i) (h : i < (xs.length : Int)) : ∃ x ∈ xs, dIx (.list xs) (.int i) = some x := Gu h0 h
theorem Ch (ns : List Int) (hns : ns.length <= 63) (a k : Int) (ha : 0 <= a) (ha2 : a < 1000) (hk : 0 <= k) (hk2 : k < 3) (fd : List PyData) (hf : fd.length < 1000) (s4 : Sl) : ∃ z w : Str, W1 z /\
   (E1 (K2 4 (b2 (b2 (vC (.str "abcdefghijklmnopqrstuvwxyz")) (B7 (A0 (A2 0) (A0 (b2 (A2 1) (b2 (vC (.int 2)) (A2 3) L8) C2) (A0 (vC (.int 26)) A7))) A6) dIx) (B7 (A0 (A2 0) (A0 (b2 (b2 (A2 1) (b2 (vC (.int 2)) (A2 3) L8) C2) (vC (.int 1)) C2) (A0 (vC (.int 2)) A7))) A6) L8)) (Yd 2 (b2 (D2 (A0 (b2 (A2 4) (b2 (vC (.str "xyz")) (A2 3) dIx) C2) (A0 (b2 (b2 (vC (.str "xyz")) (A2 3) dIx) (A2 4) C2) A7))) (B7 (A0 (A2 0) (A0 (b2 (A2 1) (vC (.int 6)) C2) (A0 (vC (.int 2)) A7))) A6) dIx)))
     [.sh (scr ns), .sh (.int a), .ow (.list fd), .sh (.int k), s4] = .nx [.sh (scr ns), .sh (.int a), .ow (.list (fd ++ [.str z])), .sh (.int k), .sh (.str w)] := by
 obtain ⟨r1, e1, a1, b1⟩ := K9 ns hns (a + 2 * k) 26 (by omega) (by omega) (by decide)
 obtain ⟨r2, e2, a2, b2'⟩ := K9 ns hns (a + 2 * k + 1) 2 (by omega) (by omega) (by decide)
 obtain ⟨r3, e3, a3, b3⟩ := K9 ns hns (a + 6) 2 (by omega) (by omega) (by decide)
 obtain ⟨c1, hc1, f1⟩ := Zw (x := "abcdefghijklmnopqrstuvwxyz") a1 (by rw [show ("abcdefghijklmnopqrstuvwxyz" : Str).cps.toList.length = 26 from by decide]; exact b1)
 obtain ⟨y, f2, l2, hy⟩ := mulS (c := c1) a2 b2'
 obtain ⟨c2, hc2, f3⟩ := Zw (x := "xyz") hk (by rw [show ("xyz" : Str).cps.toList.length = 3 from by decide]; exact hk2)
 have g1 : C2 (.str y) (.str ⟨#[c2]⟩) = _ := addS (x := y) (y := ⟨#[c2]⟩) (by rw [Vk]; omega)
 have g2 : C2 (.str ⟨#[c2]⟩) (.str y) = _ := addS (x := ⟨#[c2]⟩) (y := y) (by rw [Vk]; omega)
 obtain ⟨x, hx, f4⟩ := ixL (xs := [.str (y ++ ⟨#[c2]⟩), .str (⟨#[c2]⟩ ++ y)]) a3 b3
 have o1 : chOk 97 122 y := fun d hd => by
   rw [hy d hd]; exact (by decide : ∀ c ∈ ("abcdefghijklmnopqrstuvwxyz" : Str).cps.toList, 97 <= c /\ c <= 122) c1 hc1
 have o2 : chOk 97 122 ⟨#[c2]⟩ := .one ((by decide : ∀ c ∈ ("xyz" : Str).cps.toList, 97 <= c /\ c <= 122) c2 hc2)
 have : ∃ z, x = .str z /\ W1 z := by
   rcases List.mem_cons.mp hx with h | h
   . exact ⟨_, h, by rw [strLen_append, Vk]; omega, by rw [strLen_append, Vk]; omega, o1.app o2⟩
   . exact ⟨_, List.mem_singleton.mp h, by rw [strLen_append, Vk]; omega, by rw [strLen_append, Vk]; omega, o2.app o1⟩
 obtain ⟨z, rfl, hz⟩ := this
 refine ⟨z, y, hz, ?_⟩
 have szB : fd.length < sizeLine := Nat.lt_of_lt_of_le hf Hg
 simp_arith [mul2, Z8, e1, e2, e3, f1, f2, f3, g1, g2, f4, Yd, szB]
theorem Zh (ns : List Int) (hns : ns.length <= 63) (a : Int) (ha : 0 <= a) (ha2 : a < 1000) : ∃ x y z : Str, (W1 x /\ W1 y /\ W1 z) /\ O8 [scr ns, .int a] = .ok (.list [.str x, .str y, .str z]) := by
 obtain ⟨x, w1, hx, e1⟩ := Ch ns hns a 0 ha ha2 (by decide) (by decide) [] (by simp) .un
 obtain ⟨y, w2, hy, e2⟩ := Ch ns hns a 1 ha ha2 (by decide) (by decide) [.str x] (by simp) (.sh (.str w1))
 obtain ⟨z, w3, hz, e3⟩ := Ch ns hns a 2 ha ha2 (by decide) (by decide) [.str x, .str y] (by simp) (.sh (.str w2))
 refine ⟨x, y, z, ⟨hx, hy, hz⟩, ?_⟩
 unfold O8 V7 T3 T2 T1 N6
 have r : Y6 [.int 3] = .ok [.int 0, .int 1, .int 2] := rfl
 simp only [Z0, D7, Bl (Yc _ _), Yc, A7, M7, Qs, List.map_cons, List.map_nil, List.length_cons, List.length_nil, List.replicate, List.cons_append, List.nil_append, List.set_cons_zero, List.set_cons_succ, Bl (T7 _ _ _), T7, A0, vC, C4, r, G6, st1, Nat.reduceAdd, Nat.reduceSub]
 rw [e1]
 simp only [List.nil_append, List.set_cons_zero, List.set_cons_succ]
 rw [e2]
 simp only [List.cons_append, List.nil_append, List.set_cons_zero, List.set_cons_succ]
 rw [e3]
 rfl
theorem Ps {bnd : PyData -> Res (List Sl)} {δc : Dn} {el : Dn -> Res PyData} {P : PyData -> Prop} : ∀ (ds : List PyData), (∀ d ∈ ds, ∃ sl y, bnd d = .ok sl /\ el (sl ++ δc) = .ok y /\ P y) -> ∃ ys : List PyData, B6 bnd δc F8 el ds = .ok ys /\ ys.length = ds.length /\ ∀ y ∈ ys, P y
 | [], _ => ⟨[], rfl, rfl, fun _ h => nomatch h⟩
 | d :: ds, h => by
   obtain ⟨sl, y, e1, e2, p⟩ := h d (.head _); obtain ⟨ys, e3, e4, e5⟩ := Ps ds fun d' h' => h d' (.tail _ h')
   refine ⟨y :: ys, ?_, by simp [e4], fun z hz => ?_⟩
   . unfold B6
     rw [e1]; simp only [F8, e2, e3]
   . rcases List.mem_cons.mp hz with rfl | hz
     . exact p
     . exact e5 z hz
theorem Sd {P : Str -> Prop} : ∀ (ys : List PyData), (∀ y ∈ ys, ∃ x, y = .str x /\ P x) -> ∃ xs : List Str, Ea ys = some xs /\ xs.length = ys.length /\ ∀ x ∈ xs, P x
 | [], _ => ⟨[], rfl, rfl, fun _ h => nomatch h⟩
 | y :: ys, h => by
   obtain ⟨x, rfl, p⟩ := h y (.head _); obtain ⟨xs, e1, e2, e3⟩ := Sd ys fun d' h' => h d' (.tail _ h')
   exact ⟨x :: xs, by show (Ea ys).map _ = _; rw [e1]; rfl, by simp [e2], fun z hz => by
     rcases List.mem_cons.mp hz with rfl | hz
     . exact p
     . exact e3 z hz⟩
theorem Lf : ∀ (xs : List Str), (∀ x ∈ xs, x.length = 1 /\ PyData.strOk x = true /\ chOk 32 126 x) -> (Str.join "" xs).length = xs.length /\ PyData.strOk (Str.join "" xs) = true /\ chOk 32 126 (Str.join "" xs)
 | [], _ => ⟨rfl, by decide +kernel, chOk.nil⟩
 | [x], h => ⟨(h x (.head _)).1, (h x (.head _)).2.1, (h x (.head _)).2.2⟩
 | x :: y :: r, h => by
   obtain ⟨l, o, q⟩ := Lf (y :: r) fun z hz => h z (.tail _ hz)
   obtain ⟨l1, o1, q1⟩ := h x (.head _); show (x ++ "" ++ Str.join "" (y :: r)).length = _ /\ PyData.strOk (x ++ "" ++ Str.join "" (y :: r)) = true /\ chOk 32 126 (x ++ "" ++ Str.join "" (y :: r))
   refine ⟨?_, Af (Af o1 (by decide +kernel)) o, (q1.app chOk.nil).app q⟩
   rw [strLen_append, strLen_append]; have : (("" : Str)).length = 0 := rfl; simp only [List.length_cons] at l ⊢
   omega
theorem Oi : ∀ (xs : List Str), (∀ x ∈ xs, x.length = 1 /\ PyData.strOk x = true /\ chOk 32 126 x) -> (xs.map (·.length)).sum = xs.length
 | [], _ => rfl
 | x :: r, h => by
   simp only [List.map_cons, List.sum_cons, List.length_cons, (h x (.head _)).1, Oi r fun z hz => h z (.tail _ hz)]
   omega
theorem Yf {n : Int} (h0 : 0 <= n) (h : n < 1000) : Y6 [.int n] = .ok (R9 0 n) := by
 show (if _ then _ else _) = _
 rw [if_pos (by omega)]
theorem Gm {fs : Dn -> Res (List PyData)} {δ : Dn} {n : Int} (h : fs δ = .ok [.int n]) (h0 : 0 <= n) (h1 : n < 1000) : (fun δ => (fs δ).bind Y6) δ = .ok (R9 0 n) := by
 show (fs δ).bind Y6 = _
 rw [h, C4, Yf h0 h1]
theorem K4 {f : Dn -> Res PyData} {δ : Dn} {d : PyData} {ds : List PyData} (h : f δ = .ok d) (h2 : E8 d = .ok ds) : (fun δ => (f δ).bind E8) δ = .ok ds := by
 show (f δ).bind E8 = _
 rw [h, C4, h2]
theorem Wp (ns : List Int) (hns : ns.length <= 63) (a : Int) (ha : 0 <= a) (ha2 : a < 100000) : ∃ x : Str, E2 [scr ns, .int a] = .ok (.str x) /\ wdOk x := by
 obtain ⟨r1, e1, a1, b1⟩ := K9 ns hns (a + 4) 4 (by omega) (by omega) (by decide)
 unfold E2 V5 T9
 have hr : Y6 [.int (1 + r1)] = .ok (R9 0 (1 + r1)) := Yf (by omega) (by omega)
 have hlen : (R9 0 (1 + r1)).length <= 4 /\ 1 <= (R9 0 (1 + r1)).length := by unfold R9; simp; omega
 have hall : ∀ d ∈ R9 0 (1 + r1), ∃ sl y, B8 d = .ok sl /\ (b2 (vC (.str "ab cd~ <")) (B7 (A0 (A2 1) (A0 (b2 (A2 2) (A2 0) C2) (A0 (vC (.int 8)) A7))) A6) dIx) (sl ++ [.sh (scr ns), .sh (.int a)]) = .ok y /\ ∃ x : Str, y = .str x /\ x.length = 1 /\ PyData.strOk x = true /\ chOk 32 126 x := fun d hd => by
   unfold R9 at hd; obtain ⟨i, hi, rfl⟩ := List.mem_map.mp hd; have hi' : i < 4 := by have := List.mem_range.mp hi; omega
   obtain ⟨r2, e2, a2, b2'⟩ := K9 ns hns (a + (0 + (i : Int))) 8 (by omega) (by omega) (by decide)
   obtain ⟨c, hc, f⟩ := Zw (x := "ab cd~ <") a2 (by have : ("ab cd~ <" : Str).cps.toList.length = 8 := (by decide); rw [this]; exact b2')
   refine ⟨[.sh (.int (0 + (i : Int)))], .str ⟨#[c]⟩, rfl, ?_, ⟨#[c]⟩, rfl, rfl, ?_, .one ((by decide : ∀ c ∈ ("ab cd~ <" : Str).cps.toList, 32 <= c /\ c <= 126) c hc)⟩
   . simp_arith [Z8, e2, f]
   . have : ∀ c ∈ ("ab cd~ <" : Str).cps.toList, c < 0x110000 := by decide
     unfold PyData.strOk; simp [this c hc]
 obtain ⟨ys, g1, g2, g3⟩ := Ps (R9 0 (1 + r1)) hall
 obtain ⟨xs, g4, g5, g6⟩ := Sd ys g3
 obtain ⟨l1, o1, q1⟩ := Lf xs g6
 have s1 := Oi xs g6
 refine ⟨Str.join "" xs, ?_, by omega, by omega, q1⟩
 have hj : Pp "" (.list ys) = some (.str (Str.join "" xs)) := by
   show (Ea ys).bind _ = _
   rw [g4]; show (if _ then _ else _) = _
   have : (("" : Str)).length = 0 := rfl; rw [if_pos ⟨by rw [s1, this]; omega, o1, Nat.le_trans (show _ <= 1000 by omega) Hg⟩]
 have hz : (R9 0 (1 + r1)).length <= sizeLine := Nat.le_trans (show _ <= 1000 by omega) Hg
 simp_arith [Z8, e1, hr, E6, hz, Bg, Option.getD_some, g1, hj]
abbrev idD (t : Int) (h : Str) : PyData := .tuple [.int t, .str h]
abbrev IdP := Int × Str
abbrev idP (p : IdP) : PyData := idD p.1 p.2
abbrev sgD (p : IdP) (n : Int) : PyData := .tuple [idP p, .int n]
noncomputable def hj (h : Str) : Nat := if h = "a" then 0 else if h = "b" then 1 else 2
noncomputable def key (p : IdP) : Int := 3 * p.1 + hj p.2
def okH (h : Str) : Prop := h = "a" \/ h = "b" \/ h = "c"
def okI (p : IdP) : Prop := 1 <= p.1 /\ p.1 <= 10 /\ okH p.2
theorem Th (h : Str) : hj h <= 2 := by unfold hj; split <;> (try split) <;> omega
def SgOf (T : Int) (ds : List PyData) (x : PyData) : Prop := ∃ (p : IdP) (b : PyData) (w : Str) (n : Nat), PyData.tuple [.str "add", idP p, b, .str w] ∈ ds /\ x = sgD p n /\ n < w.length /\ p.1 < T /\ okI p
theorem SgOf.mono {T : Int} {ds ds' : List PyData} {x : PyData} (h : SgOf T ds x) (k : ∀ d ∈ ds, d ∈ ds') : SgOf T ds' x := by
 obtain ⟨p, b, w, n, e, r⟩ := h; exact ⟨p, b, w, n, k _ e, r⟩
def sgR (a b : PyData) : Prop := ∃ (p q : IdP) (n m : Int), a = sgD p n /\ b = sgD q m /\ okH p.2 /\ okH q.2 /\ (key p < key q \/ (p = q /\ n < m))
def OrN (S : PyData -> Prop) (d : PyData) : Prop := d = .none \/ S d
def iA (x : Str) : Prop := x = "l" \/ x = "r"
def Wf (p : IdP) (S : PyData -> Prop) (U : IdP -> Prop) (d : PyData) : Prop := okI p /\
 ((∃ b w, d = .tuple [.str "add", idP p, b, .str w] /\ OrN S b /\ wdOk w) \/
  (∃ sg, d = .tuple [.str "drop", idP p, .tuple sg] /\ (∀ x ∈ sg, S x) /\ sg.length <= 40 /\ sg ≠ [] /\ sg.Pairwise sgR) \/
  (∃ n s1 x1 s2 x2, d = .tuple [.str "mark", idP p, .str n, .tuple [s1, .str x1], .tuple [s2, .str x2]] /\ OrN S s1 /\ OrN S s2 /\ W1 n /\ iA x1 /\ iA x2) \/
  (∃ n, d = .tuple [.str "unmark", idP p, .str n] /\ W1 n) \/
  (∃ q, d = .tuple [.str "undo", idP p, idP q] /\ U q))
theorem OrN.mono {S S' : PyData -> Prop} {d : PyData} (h : OrN S d) (k : ∀ x, S x -> S' x) : OrN S' d := h.elim .inl fun z => .inr (k _ z)
theorem Wf.mono {p : IdP} {S S' : PyData -> Prop} {U U' : IdP -> Prop} {d : PyData} (h : Wf p S U d) (k2 : ∀ x, S x -> S' x) (k3 : ∀ q, U q -> U' q) : Wf p S' U' d := by
 obtain ⟨o, r⟩ := h
 refine ⟨o, ?_⟩
 rcases r with ⟨b, w, e, hb, hw⟩ | ⟨sg, e, hs, hl⟩ | ⟨n, s1, x1, s2, x2, e, h1, h2, h3⟩ | ⟨n, e⟩ | ⟨i, e, hi⟩
 . exact .inl ⟨b, w, e, hb.mono k2, hw⟩
 . exact .inr (.inl ⟨sg, e, fun x hx => k2 x (hs x hx), hl⟩)
 . exact .inr (.inr (.inl ⟨n, s1, x1, s2, x2, e, h1.mono k2, h2.mono k2, h3⟩))
 . exact .inr (.inr (.inr (.inl ⟨n, e⟩)))
 . exact .inr (.inr (.inr (.inr ⟨i, e, k3 _ hi⟩)))
theorem Rj (x y : Str) : dEq (.str x) (.str y) = some (.bool (x == y)) := by
 unfold dEq
 rw [if_pos (Nat.le_trans (Nat.min_le_left _ _) (by simp [PyData.depth]))]
 rfl
theorem addEq : (("add" : Str) == ("add" : Str)) = true := by decide +kernel
noncomputable def Lx : Dn -> Out := (sIf (C9 (b2 (b2 (A2 2) (vC (.int 0)) dIx) (vC (.str "add")) dEq)) (K2 1 (b2 (A2 1) (D2 (E6 (fun δ => ((A0 (vFn (A0 (b2 (A2 2) (vC (.int 3)) dIx) A7) Ab) A7) δ).bind Y6) B8 [2] F8 (K3 (A0 (b2 (A2 1) (vC (.int 1)) dIx) (A0 (A2 0) A7))))) C2)) L4)
theorem Jm {α : Type} {δc : Dn} {el : Dn -> Res PyData} (g f : α -> PyData) (h : ∀ y : α, el ([.sh (g y)] ++ δc) = .ok (f y)) : ∀ ys : List α, B6 B8 δc F8 el (ys.map g) = .ok (ys.map f)
 | [] => rfl
 | y :: ys => by
   rw [List.map_cons, List.map_cons]; unfold B6; simp only [B8, F8, h y, Jm g f h ys]
theorem Qq {p : IdP} {S : PyData -> Prop} {U : IdP -> Prop} {T : Int} {d : PyData} (hd : Wf p S U d) (hT : p.1 < T) (B : PyData) (fd : List PyData) (hf : fd.length <= 100) : ∃ more : List PyData, more.length <= 4 /\ (∀ x ∈ more, SgOf T [d] x) /\ (∀ x ∈ more, ∃ n, x = sgD p n) /\ more.Pairwise sgR /\
   Lx [.sh B, .sh (.list fd), .sh d] = .nx [.sh B, .sh (.list (fd ++ more)), .sh d] := by
 obtain ⟨o, r⟩ := hd
 have ix0 : ∀ (x : PyData) (xs : List PyData), dIx (.tuple (x :: xs)) (.int 0) = some x := fun x xs => atI_nat (xs := x :: xs) (j := 0) (by simp)
 have ix1 : ∀ (x y : PyData) (xs : List PyData), dIx (.tuple (x :: y :: xs)) (.int 1) = some y := fun x y xs => atI_nat (xs := x :: y :: xs) (j := 1) (by simp)
 have ix3 : ∀ (x y z u : PyData), dIx (.tuple [x, y, z, u]) (.int 3) = some u := fun x y z u => atI_nat (xs := [x, y, z, u]) (j := 3) (by simp)
 have no : ∀ d, (C9 (b2 (b2 (A2 2) (vC (.int 0)) dIx) (vC (.str "add")) dEq)) [.sh B, .sh (.list fd), .sh d] = .ok false -> ∃ more : List PyData, more.length <= 4 /\ (∀ x ∈ more, SgOf T [d] x) /\ (∀ x ∈ more, ∃ n, x = sgD p n) /\ more.Pairwise sgR /\ Lx [.sh B, .sh (.list fd), .sh d] = .nx [.sh B, .sh (.list (fd ++ more)), .sh d] := fun d e => by
   refine ⟨[], by simp, (fun _ h => nomatch h), (fun _ h => nomatch h), .nil, ?_⟩
   unfold Lx; rw [W0 e, List.append_nil]; rfl
 rcases r with ⟨b, w, rfl, hb, hw⟩ | ⟨sg, rfl, _⟩ | ⟨n, s1, x1, s2, x2, rfl, _⟩ | ⟨n, rfl, _⟩ | ⟨i, rfl, _⟩
 . have er : R9 0 (w.length : Int) = (List.range w.length).map fun i : Nat => PyData.int (0 + (i : Int)) := by unfold R9; simp
   have g1 := Jm (δc := [.sh (.tuple [.str "add", idP p, b, .str w])]) (el := K3 (A0 (b2 (A2 1) (vC (.int 1)) dIx) (A0 (A2 0) A7))) (fun i : Nat => PyData.int (0 + (i : Int))) (fun i => sgD p (0 + (i : Int))) (fun i => by simp_arith [ix1]) (List.range w.length)
   have hl := hw.2.1; refine ⟨(List.range w.length).map fun i : Nat => sgD p (0 + (i : Int)), by simp; exact hl, fun x hx => ?_, fun x hx => ?_, ?_, ?_⟩
   . obtain ⟨i, hi, rfl⟩ := List.mem_map.mp hx
     exact ⟨p, b, w, i, .head _, by rw [Int.zero_add], List.mem_range.mp hi, hT, o⟩
   . obtain ⟨i, hi, rfl⟩ := List.mem_map.mp hx
     exact ⟨_, rfl⟩
   . rw [List.pairwise_map]
     exact (List.pairwise_lt_range).imp fun {a b} h => ⟨p, p, _, _, rfl, rfl, o.2.2, o.2.2, .inr ⟨rfl, by omega⟩⟩
   . have ha : C2 (.list fd) (.list ((List.range w.length).map fun i : Nat => sgD p (0 + (i : Int)))) = _ := Qa (by simp; omega)
     have e1 : Ab [.str w] = some (.int (w.length : Int)) := rfl; unfold Lx; rw [Aq (by simp_arith [ix0, Rj, addEq])]
     refine O0 (M3 rfl (M5 (F7 (ds := R9 0 (w.length : Int)) (Gm (by simp_arith [ix3, e1]) (by omega) (by omega)) (by rw [er]; simp; omega) rfl (by rw [er]; exact g1))) ha)
 . exact no _ (by simp_arith [ix0, Rj, show (("drop" : Str) == ("add" : Str)) = false from by decide +kernel])
 . exact no _ (by simp_arith [ix0, Rj, show (("mark" : Str) == ("add" : Str)) = false from by decide +kernel])
 . exact no _ (by simp_arith [ix0, Rj, show (("unmark" : Str) == ("add" : Str)) = false from by decide +kernel])
 . exact no _ (by simp_arith [ix0, Rj, show (("undo" : Str) == ("add" : Str)) = false from by decide +kernel])
abbrev Dp := PyData × IdP
theorem Ik {S : IdP -> PyData -> Prop} {U : IdP -> IdP -> Prop} {T : Int} (D : List PyData) (B : PyData) : ∀ (ds : List Dp), (∀ e ∈ ds, Wf e.2 (S e.2) (U e.2) e.1 /\ e.1 ∈ D /\ e.2.1 < T) -> ds.Pairwise (fun a b => key a.2 < key b.2) -> ∀ (fd : List PyData) (s2 : Sl), fd.length + 4 * ds.length <= 100 -> (∀ x ∈ fd, SgOf T D x) ->
   fd.Pairwise sgR -> (∀ x ∈ fd, ∃ q n, x = sgD q n /\ okH q.2 /\ ∀ e ∈ ds, key q < key e.2) -> ∃ (out : List PyData) (s2' : Sl), out.length <= fd.length + 4 * ds.length /\ (∀ x ∈ out, SgOf T D x) /\ out.Pairwise sgR /\
   G6 (st1 2) Lx (ds.map (·.1)) [.sh B, .sh (.list fd), s2] = .nx [.sh B, .sh (.list out), s2']
 | [], _, _, fd, s2, _, hs, hp, _ => ⟨fd, s2, by omega, hs, hp, rfl⟩
 | e :: ds, hd, up, fd, s2, hl, hs, hp, hq => by
   obtain ⟨w, m, ht⟩ := hd e (.head _); obtain ⟨more, l1, s1, i1, p1, e1⟩ := Qq w ht B fd (by simp at hl; omega)
   have up' := List.pairwise_cons.mp up; obtain ⟨out, s2', l2, s3, p3, e2⟩ := Ik D B ds (fun d' h' => hd d' (.tail _ h')) up'.2 (fd ++ more) (.sh e.1) (by simp at hl ⊢; omega)
     (fun x hx => (List.mem_append.mp hx).elim (hs x) fun z => (s1 x z).mono fun q hq => by rw [List.mem_singleton.mp hq]; exact m)
     (List.pairwise_append.mpr ⟨hp, p1, fun a ha b hb => by
       obtain ⟨q, n, rfl, o, k⟩ := hq a ha; obtain ⟨n', rfl⟩ := i1 b hb; exact ⟨q, e.2, n, n', rfl, rfl, o, w.1.2.2, .inl (k e (.head _))⟩⟩)
     (fun x hx => (List.mem_append.mp hx).elim (fun z => by
       obtain ⟨q, n, h1, h2, h3⟩ := hq x z; exact ⟨q, n, h1, h2, fun e' he' => h3 e' (.tail _ he')⟩) fun z => by
       obtain ⟨n', rfl⟩ := i1 x z; exact ⟨e.2, n', rfl, w.1.2.2, fun e' he' => up'.1 e' he'⟩)
   refine ⟨out, s2', by simp at l2 ⊢; omega, s3, p3, ?_⟩
   rw [List.map_cons]; unfold G6; simp only [st1, List.set_cons_zero, List.set_cons_succ]; rw [e1]; exact e2
theorem Xu {S : IdP -> PyData -> Prop} {U : IdP -> IdP -> Prop} {T : Int} (ds : List Dp) (hd : ∀ e ∈ ds, Wf e.2 (S e.2) (U e.2) e.1 /\ e.2.1 < T) (up : ds.Pairwise (fun a b => key a.2 < key b.2)) (hl : ds.length <= 9) :
   ∃ out : List PyData, E3 [.tuple (ds.map (·.1))] = .ok (.list out) /\ out.length <= 36 /\ (∀ x ∈ out, SgOf T (ds.map (·.1)) x) /\ out.Pairwise sgR := by
 obtain ⟨out, s2', l2, s3, p3, e2⟩ := Ik (ds.map (·.1)) (.tuple (ds.map (·.1))) ds (fun e h => ⟨(hd e h).1, List.mem_map_of_mem h, (hd e h).2⟩) up [] .un (by simp; omega) (fun _ h => nomatch h) .nil (fun _ h => nomatch h)
 refine ⟨out, ?_, by simp at l2; omega, s3, p3⟩
 unfold E3 V6 U0
 simp only [Z0, D7, Bl (K2 _ _), K2, D2, A7, M7, C4, Qs, List.map_cons, List.map_nil, List.length_cons, List.length_nil, List.replicate, List.cons_append, List.nil_append, List.set_cons_zero, List.set_cons_succ, Bl (T7 _ _ _), T7, W7, S7, E8, List.getElem?_cons_zero, Nat.reduceAdd, Nat.reduceSub]
 unfold Lx at e2
 rw [e2]
 simp_arith
theorem G8 {c : Dn -> Res Bool} {g1 g2 : Dn -> Out} {δ : Dn} (h : c δ = .ok false) : E1 (sIf c g1 L4) g2 δ = g2 δ := C8 (W0 h)
theorem hZ {xs : List PyData} {n : Int} (h : -(2 ^ 63) <= n /\ n < 2 ^ 63 /\ xs.length * n.toNat <= sizeLine) : L8 (.list xs) (.int n) = some (.list (List.replicate n.toNat xs).flatten) := by
 show (if _ then _ else _) = _
 rw [if_pos h]
theorem dNeL (xs : List PyData) : dNe (.list xs) (.list []) = some (.bool (!xs.isEmpty)) := by
 unfold dNe
 rw [if_pos (Nat.le_trans (Nat.min_le_right _ _) (by decide))]
 cases xs <;> rfl
theorem dEqL (xs : List PyData) : dEq (.list xs) (.list []) = some (.bool xs.isEmpty) := by
 unfold dEq
 rw [if_pos (Nat.le_trans (Nat.min_le_right _ _) (by decide))]
 cases xs <;> rfl
theorem dX (xs : List PyData) : dNe (.tuple xs) (.tuple []) = some (.bool (!xs.isEmpty)) := by
 unfold dNe
 rw [if_pos (Nat.le_trans (Nat.min_le_right _ _) (by decide))]
 cases xs <;> rfl
theorem ltI (a b : Int) : W5 .Lt (.int a) (.int b) = some (.bool (decide (a < b))) := by
 unfold W5
 rw [if_pos (by simp [PyData.depth])]
 rfl
theorem aR (a b : Int) : dEq (.int a) (.int b) = some (.bool (a == b)) := by
 unfold dEq
 rw [if_pos (Nat.le_trans (Nat.min_le_left _ _) (by simp [PyData.depth]))]
 rfl
theorem Tl (t : Int) (h : Str) : (idD t h).depth <= 2 := by simp [idD, PyData.depth, PyData.depthAll]
theorem lenL (xs : List PyData) : Ab [.list xs] = some (.int (xs.length : Int)) := rfl
theorem lenT (xs : List PyData) : Ab [.tuple xs] = some (.int (xs.length : Int)) := rfl
theorem Md (ns : List Int) (hns : ns.length <= 63) (a : Int) (ha : 0 <= a) (ha2 : a < 100000) (S : PyData -> Prop) (sg : List PyData) (hs : ∀ x ∈ sg, S x) (hl : sg.length <= 36) : ∃ s x, D1 [scr ns, .int a, .list sg] = .ok (.tuple [s, .str x]) /\ OrN S s /\ iA x := by
 obtain ⟨r1, e1, a1, b1⟩ := K9 ns hns a ((sg.length : Int) + 1) ha (by omega) (by omega)
 obtain ⟨r2, e2, a2, b2'⟩ := K9 ns hns (a + 1) 2 (by omega) (by omega) (by decide)
 obtain ⟨c, hc, f2⟩ := Zw (x := "lr") a2 (by rw [show ("lr" : Str).cps.toList.length = 2 from by decide]; exact b2')
 have g := Qa (x := [.none]) (y := sg) (by simp; omega)
 obtain ⟨s, hs', f1⟩ := ixL (xs := [.none] ++ sg) a1 (by simp; omega)
 refine ⟨s, ⟨#[c]⟩, ?_, ?_, ?_⟩
 . unfold D1 T6 S6
   generalize [PyData.none] ++ sg = L at *
   simp_arith [g, lenL, Z8, e1, f1, e2, f2]
 . rcases List.mem_append.mp hs' with h | h
   . exact .inl (List.mem_singleton.mp h)
   . exact .inr (hs s h)
 . have h' : c ∈ [108, 114] := by rw [show ("lr" : Str).cps.toList = [108, 114] from by decide] at hc; exact hc
   simp only [List.mem_cons, List.not_mem_nil, or_false] at h'; rcases h' with rfl | rfl
   . exact .inl (by decide)
   . exact .inr (by decide)
theorem Lq {δc : Dn} {tt : Dn -> Res Bool} : ∀ (zs : List (PyData × PyData)), (∀ z ∈ zs, ∃ b, tt ([.sh z.1, .sh z.2] ++ δc) = .ok b) -> ∃ ys : List PyData, B6 Fs δc tt (A2 1) (zs.map fun z => .tuple [z.1, z.2]) = .ok ys /\ ys.Sublist (zs.map (·.2))
 | [], _ => ⟨[], rfl, .slnil⟩
 | z :: zs, h => by
   obtain ⟨b, e⟩ := h z (.head _); obtain ⟨ys, e1, e2⟩ := Lq zs fun z' hz => h z' (.tail _ hz)
   rw [List.map_cons, List.map_cons]
   cases b with
   | true =>
     refine ⟨z.2 :: ys, ?_, e2.cons_cons _⟩; unfold B6; rw [show Fs (.tuple [z.1, z.2]) = .ok [.sh z.1, .sh z.2] from rfl]
     simp only [e, e1]; rfl
   | false =>
     refine ⟨ys, ?_, e2.cons _⟩; unfold B6; rw [show Fs (.tuple [z.1, z.2]) = .ok [.sh z.1, .sh z.2] from rfl]
     simp only [e, e1]
theorem dO (xs : List PyData) : Bw xs = (xs.mapIdx fun i d => (PyData.int i, d)).map fun z => PyData.tuple [z.1, z.2] := by
 unfold Bw
 apply List.ext_getElem?
 intro i
 simp [Function.comp_def]
theorem aH (xs : List PyData) : (xs.mapIdx fun i d => (PyData.int i, d)).map (·.2) = xs := by
 apply List.ext_getElem?
 intro i
 simp only [List.getElem?_map, List.getElem?_mapIdx, Option.map_map]
 cases xs[i]? <;> rfl
theorem Xa {xs : List PyData} {x : PyData} (h : x ∈ Cp xs (some (-3)) none) : x ∈ xs := by
 unfold Cp at h
 exact List.mem_of_mem_drop (List.mem_of_mem_take h)
theorem dY (xs : List PyData) (lo hi : Option Int) : (Cp xs lo hi).length <= xs.length := by
 unfold Cp
 rw [List.length_take, List.length_drop]; omega
theorem dQ (ns : List Int) (hns : ns.length <= 63) {S : IdP -> PyData -> Prop} {U : IdP -> IdP -> Prop} (a : Int) (ha : 0 <= a) (ha2 : a < 10000) (p : IdP) (ho : okI p) (kn0 : List Dp) (hk : ∀ e ∈ kn0, Wf e.2 (S e.2) (U e.2) e.1 /\ e.2.1 < p.1) (up : kn0.Pairwise (fun a b => key a.2 < key b.2)) (hkl : kn0.length <= 9) (x y z : Str) (hxyz : W1 x /\ W1 y /\ W1 z) :
   ∃ d, I8 [scr ns, .int a, idP p, .tuple (kn0.map (·.1)), .list [.str x, .str y, .str z]] = .ok d /\ Wf p (SgOf p.1 (kn0.map (·.1))) (fun q => ∃ e ∈ kn0, e.2 = q) d := by
 have hids : ∀ d ∈ kn0.map (·.1), ∃ q : IdP, dIx d (.int 1) = some (idP q) /\ ∃ e ∈ kn0, e.2 = q := fun d hd => by
   obtain ⟨e, he, rfl⟩ := List.mem_map.mp hd; obtain ⟨_, hf⟩ := (hk e he).1; refine ⟨e.2, ?_, e, he, rfl⟩; rcases hf with ⟨_, _, q, _⟩ | ⟨_, q, _⟩ | ⟨_, _, _, _, _, q, _⟩ | ⟨_, q, _⟩ | ⟨_, q, _⟩ <;> rw [q] <;> exact atI_nat (j := 1) (by simp)
 obtain ⟨sg, es, hsl, hsg, hsr⟩ := Xu (T := p.1) kn0 hk up hkl
 have hkl' : (kn0.map (·.1)).length <= 9 := by rw [List.length_map]; exact hkl
 generalize kn0.map (·.1) = kn at *
 obtain ⟨way, ew, w0, w1⟩ := K9 ns hns a 12 ha (by omega) (by decide)
 obtain ⟨r5, e5, a5, b5⟩ := K9 ns hns (a + 5) 3 (by omega) (by omega) (by decide)
 obtain ⟨nm, hnm, f5⟩ := ixL (xs := [.str x, .str y, .str z]) a5 b5
 have : ∃ q, nm = .str q /\ W1 q := by
   simp only [List.mem_cons, List.not_mem_nil, or_false] at hnm; rcases hnm with rfl | rfl | rfl
   . exact ⟨_, rfl, hxyz.1⟩
   . exact ⟨_, rfl, hxyz.2.1⟩
   . exact ⟨_, rfl, hxyz.2.2⟩
 obtain ⟨q, rfl, hq⟩ := this
 unfold I8 Y2 V0 U9 U8 U7 U6 U5 U4 U3 F9
 rw [Z0]
 simp only [D7, List.map_cons, List.map_nil, List.length_cons, List.length_nil, List.replicate, List.cons_append, List.nil_append, Nat.reduceAdd, Nat.reduceSub]
 rw [C8 (O0 (F5 (B1 rfl rfl) es)), C8 (O0 (F5 (B1 rfl (B1 rfl (B1 rfl rfl))) ew))]
 simp only [List.set_cons_zero, List.set_cons_succ]
 by_cases c1 : way < 2 /\ sg ≠ []
 . have t1 : (Cs (C9 (b2 (A2 6) (vC (.int 2)) (W5 .Lt))) (C9 (b2 (A2 5) (D2 A7) dNe))) [.sh (scr ns), .sh (.int a), .sh (idP p), .sh (.tuple kn), .sh (.list [.str x, .str y, .str z]), .sh (.list sg), .sh (.int way), .un, .un, .un] = .ok true := by
     have : sg.isEmpty = false := by cases sg with | nil => exact absurd rfl c1.2 | cons _ _ => rfl
     simp_arith [ltI, dNeL, decide_eq_true c1.1, this, Bool.not_false]
   have hall : ∀ z ∈ sg.mapIdx (fun i d => (PyData.int i, d)), ∃ b, (C9 (b2 (B7 (A0 (A2 2) (A0 (b2 (b2 (A2 3) (vC (.int 20)) C2) (A2 0) C2) (A0 (vC (.int 4)) A7))) A6) (vC (.int 0)) dEq)) ([.sh z.1, .sh z.2] ++ [.sh (scr ns), .sh (.int a)]) = .ok b := fun z hz => by
     rw [List.mem_mapIdx] at hz; obtain ⟨i, hi, rfl⟩ := hz; obtain ⟨r, er, _, _⟩ := K9 ns hns (a + 20 + (i : Int)) 4 (by omega) (by omega) (by decide)
     refine ⟨r == 0, ?_⟩
     simp_arith [Z8, er, aR]
   obtain ⟨ys, g1, g2'⟩ := Lq _ hall; rw [aH] at g2'; rw [<- dO] at g1; have g2 := g2'.length_le; have hel : (Bw sg).length = sg.length := by unfold Bw; simp
   have n1 : E6 (fun δ => ((A0 (A2 5) A7) δ).bind Jf) Fs [0, 1] (C9 (b2 (B7 (A0 (A2 2) (A0 (b2 (b2 (A2 3) (vC (.int 20)) C2) (A2 0) C2) (A0 (vC (.int 4)) A7))) A6) (vC (.int 0)) dEq)) (A2 1) [.sh (scr ns), .sh (.int a), .sh (idP p), .sh (.tuple kn), .sh (.list [.str x, .str y, .str z]), .sh (.list sg), .sh (.int way), .un, .un, .un] = .ok ys :=
     F7 (ds := Bw sg) (by show ((A0 (A2 5) A7) _).bind Jf = _; rw [B1 (d := .list sg) (ds := []) rfl rfl]; rfl) (by omega) rfl g1
   have hex : ∃ ex : List PyData, ex.length <= 1 /\ ((ys ++ ex).Sublist sg /\ ys ++ ex ≠ []) /\ L8 (.list (sg.take 1)) (.int (if ys.isEmpty = true then 1 else 0)) = some (.list ex) := by
     have lt : (sg.take 1).length <= 1 := by simp; omega
     cases ey : ys with
     | nil =>
       refine ⟨(List.replicate 1 (sg.take 1)).flatten, by simpa using lt, ⟨by simpa using List.take_sublist 1 sg, fun z => c1.2 ?_⟩, ?_⟩
       . cases sg with
         | nil => rfl
         | cons _ _ => simp at z
       . rw [if_pos (show List.isEmpty [] = true from rfl)]
         exact hZ ⟨by decide, by decide, Nat.le_trans (show _ <= 1 by simpa using lt) (by decide)⟩
     | cons y0 yr =>
       refine ⟨[], by simp, ⟨by rw [List.append_nil, <- ey]; exact g2', by simp⟩, ?_⟩
       rw [if_neg (by simp)]; exact hZ ⟨by decide, by decide, by simp⟩
   obtain ⟨ex, exl, exs, hmul⟩ := hex; have hadd := Qa (x := ys) (y := ex) (by omega)
   have cut1 : Rk (.list sg) none (some 1) = some (.list (sg.take 1)) := by
     show some (PyData.list (Cp sg none (some 1))) = _
     congr 2
     cases sg with
     | nil => rfl
     | cons s r =>
       unfold Cp HT.sIx; simp
   have hint : Ds [.bool ys.isEmpty] = some (.int (if ys.isEmpty = true then 1 else 0)) := rfl
   have htup : ∀ l, Bx [.list l] = some (.tuple l) := fun _ => rfl
   have hnew : Oo 8 (E6 (fun δ => ((A0 (A2 5) A7) δ).bind Jf) Fs [0, 1] (C9 (b2 (B7 (A0 (A2 2) (A0 (b2 (b2 (A2 3) (vC (.int 20)) C2) (A2 0) C2) (A0 (vC (.int 4)) A7))) A6) (vC (.int 0)) dEq)) (A2 1)) [.sh (scr ns), .sh (.int a), .sh (idP p), .sh (.tuple kn), .sh (.list [.str x, .str y, .str z]), .sh (.list sg), .sh (.int way), .un, .un, .un] = .nx [.sh (scr ns), .sh (.int a), .sh (idP p), .sh (.tuple kn), .sh (.list [.str x, .str y, .str z]), .sh (.list sg), .sh (.int way), .un, .sh (.list ys), .un] := by
     unfold Oo; rw [n1]; rfl
   have t2 : (N9 (K3 (A0 (vC (.str "drop")) (A0 (A2 2) (A0 (vFn (A0 (b2 (A2 8) (b2 (vSl (A2 5) Ix (Iw (vC (.int 1)))) (vFn (A0 (b2 (A2 8) (D2 A7) dEq) A7) Ds) L8) C2) A7) Bx) A7))))) [.sh (scr ns), .sh (.int a), .sh (idP p), .sh (.tuple kn), .sh (.list [.str x, .str y, .str z]), .sh (.list sg), .sh (.int way), .un, .sh (.list ys), .un] = .rt (.tuple [.str "drop", idP p, .tuple (ys ++ ex)]) := by
     simp_arith [dEqL, hint, cut1, hmul, hadd, htup]
   rw [Dc ((Aq t1).trans ((C8 hnew).trans t2))]; refine ⟨_, rfl, ho, .inr (.inl ⟨_, rfl, fun s hs => hsg s (exs.1.subset hs), ?_, exs.2, hsr.sublist exs.1⟩)⟩
   rw [List.length_append]; omega
 . have t1 : (Cs (C9 (b2 (A2 6) (vC (.int 2)) (W5 .Lt))) (C9 (b2 (A2 5) (D2 A7) dNe))) [.sh (scr ns), .sh (.int a), .sh (idP p), .sh (.tuple kn), .sh (.list [.str x, .str y, .str z]), .sh (.list sg), .sh (.int way), .un, .un, .un] = .ok false := by
     by_cases h2 : way < 2
     . have : sg = [] := Classical.byContradiction fun z => c1 ⟨h2, z⟩
       subst this
       simp_arith [ltI, dNeL, decide_eq_true h2, List.isEmpty_nil, Bool.not_true]
     . simp_arith [ltI, decide_eq_false h2]
   rw [G8 t1]
   by_cases c2 : way < 5
   . obtain ⟨s1, x1, f1, g1, l1⟩ := Md ns hns (a + 1) (by omega) (by omega) (SgOf p.1 kn) sg hsg hsl
     obtain ⟨s2, x2, f2, g2, l2⟩ := Md ns hns (a + 3) (by omega) (by omega) (SgOf p.1 kn) sg hsg hsl
     have hadd := addT (x := [.str "mark", idP p, .str q]) (y := [.tuple [s1, .str x1], .tuple [s2, .str x2]]) (by simp)
     refine ⟨.tuple [.str "mark", idP p, .str q, .tuple [s1, .str x1], .tuple [s2, .str x2]], ?_, ho, .inr (.inr (.inl ⟨q, s1, x1, s2, x2, rfl, g1, g2, hq, l1, l2⟩))⟩
     simp_arith [ltI, decide_eq_true c2, Z8, f1, f2, e5, f5, hadd]
   . by_cases c3 : way = 5
     . refine ⟨.tuple [.str "unmark", idP p, .str q], ?_, ho, .inr (.inr (.inr (.inl ⟨q, rfl, hq⟩)))⟩
       simp_arith [ltI, decide_eq_false c2, Z8, e5, f5, aR, c3, beq_self_eq_true, show decide ((5 : Int) < 5) = false from rfl]
     . have c3' : (way == 5) = false := by simpa using c3
       by_cases c4 : way < 8 /\ kn ≠ []
       . have hne : kn.isEmpty = false := by cases kn with | nil => exact absurd rfl c4.2 | cons _ _ => rfl
         have hpos : (0 : Int) < kn.length := by cases kn with | nil => exact absurd rfl c4.2 | cons _ _ => simp
         obtain ⟨r6, e6, a6, b6⟩ := K9 ns hns (a + 6) (kn.length : Int) (by omega) (by omega) hpos
         obtain ⟨d, hd, f6⟩ := Gu (xs := kn) a6 b6; obtain ⟨qi, f7, hu⟩ := hids d hd; have f6' : dIx (.tuple kn) (.int r6) = some d := f6; refine ⟨.tuple [.str "undo", idP p, idP qi], ?_, ho, .inr (.inr (.inr (.inr ⟨_, rfl, hu⟩)))⟩
         simp_arith [ltI, decide_eq_false c2, aR, c3', decide_eq_true c4.1, dX, hne, Bool.not_false, Z8, lenT, e6, f6', f7]
       . have t4 : (Cs (C9 (b2 (A2 6) (vC (.int 8)) (W5 .Lt))) (C9 (b2 (A2 3) (K3 A7) dNe))) [.sh (scr ns), .sh (.int a), .sh (idP p), .sh (.tuple kn), .sh (.list [.str x, .str y, .str z]), .sh (.list sg), .sh (.int way), .un, .un, .un] = .ok false := by
           by_cases h2 : way < 8
           . have : kn = [] := Classical.byContradiction fun z => c4 ⟨h2, z⟩
             subst this
             simp_arith [ltI, dX, decide_eq_true h2, List.isEmpty_nil, Bool.not_true]
           . simp_arith [ltI, decide_eq_false h2]
         obtain ⟨w, ew2, wl⟩ := Wp ns hns (a + 8) (by omega) (by omega)
         have g1 := Qa (x := [.none]) (y := sg) (by simp; omega)
         have hc : Rk (.list sg) (some (-3)) none = some (.list (Cp sg (some (-3)) none)) := rfl; have hcl := dY sg (some (-3)) none; have hcm : ∀ s ∈ Cp sg (some (-3)) none, SgOf p.1 kn s := fun s hs => hsg s (Xa hs)
         generalize Cp sg (some (-3)) none = ct at *
         have g2 := Qa (x := [.none] ++ sg) (y := ct) (by simp; omega)
         obtain ⟨r7, e7, a7, b7⟩ := K9 ns hns (a + 7) ((sg.length : Int) + 1 + (ct.length : Int)) (by omega) (by omega) (by omega)
         obtain ⟨bh, hbh, f7⟩ := ixL (xs := [.none] ++ sg ++ ct) a7 (by simp; omega)
         have hneg : aQ (.int 3) = some (.int (-3)) := rfl; have hb : OrN (SgOf p.1 kn) bh := by
           rcases List.mem_append.mp hbh with h | h
           . rcases List.mem_append.mp h with h | h
             . exact .inl (List.mem_singleton.mp h)
             . exact .inr (hsg bh h)
           . exact .inr (hcm bh h)
         generalize [PyData.none] ++ sg = L1 at *
         generalize L1 ++ ct = L2' at *
         refine ⟨.tuple [.str "add", idP p, bh, .str w], ?_, ho, .inl ⟨bh, w, rfl, hb, wl⟩⟩; rw [G8 (by simp_arith [ltI, decide_eq_false c2]), G8 (by simp_arith [aR, c3']), G8 t4]
         simp_arith [g1, hneg, hc, g2, lenL, Z8, e7, f7, ew2]
noncomputable def Uf : Dn -> Out := (E1 (K2 7 (b2 (b2 (A2 5) (vC (.int 0)) dIx) (B7 (A0 (A2 0) (A0 (b2 (b2 (A2 1) (vC (.int 1)) C2) (b2 (vC (.int 60)) (A2 6) L8) C2) (A0 (vC (.int 2)) A7))) A6) C2)) (E1 (K2 8 (b2 (vC (.str "abc")) (B7 (A0 (A2 0) (A0 (b2 (b2 (A2 1) (vC (.int 2)) C2) (b2 (vC (.int 60)) (A2 6) L8) C2) (A0 (vC (.int 3)) A7))) A6) dIx)) (E1 (sIf (Cs (C9 (b2 (A2 4) (K3 A7) dNe)) (C9 (b2 (K3 (A0 (A2 7) (A0 (A2 8) A7))) (A2 5) (W5 .LtE)))) (K2 7 (b2 (b2 (A2 5) (vC (.int 0)) dIx) (vC (.int 1)) C2)) L4) (E1 (K2 5 (K3 (A0 (A2 7) (A0 (A2 8) A7)))) (E1 (K2 9 (vFn (A0 (D2 (E6 (fun δ => ((A2 4) δ).bind E8) B8 [7] (C9 (b2 (b2 (b2 (A2 0) (vC (.int 1)) dIx) (vC (.int 0)) dIx) (A2 1) (W5 .Lt))) (A2 0))) A7) Bx)) (K2 4 (b2 (A2 4) (K3 (A0 (B7 (A0 (A2 0) (A0 (b2 (b2 (A2 1) (vC (.int 3)) C2) (b2 (vC (.int 60)) (A2 6) L8) C2) (A0 (A2 5) (A0 (A2 9) (A0 (A2 3) A7))))) I8) A7)) C2)))))))
theorem leS (h h' : Str) (k : okH h) (k' : okH h') : (h == h') = decide (hj h = hj h') /\ Va .LtE h h' = decide (hj h <= hj h') := by
 rcases k with rfl | rfl | rfl <;> rcases k' with rfl | rfl | rfl <;> exact ⟨by decide +kernel, by decide +kernel⟩
theorem leIdE {t t' : Int} {h h' : Str} (k : okH h) (k' : okH h') : W5 .LtE (idD t h) (idD t' h') = some (.bool (decide (key (t, h) <= key (t', h')))) := by
 obtain ⟨e1, e2⟩ := leS h h' k k'
 have l1 := Th h
 have l2 := Th h'
 unfold W5 key
 rw [if_pos (Nat.le_trans (Tl t h) (by decide))]
 show (Cr .LtE [.int t, .str h] [.int t', .str h']).map PyData.bool = _
 simp only [Cr]
 have f1 : PyData.eqv (.int t) (.int t') = (t == t') := rfl
 have f2 : PyData.eqv (.str h) (.str h') = (h == h') := rfl
 rw [f1, f2, e1]
 by_cases c1 : t = t'
 . subst c1
   rw [if_pos (by simp)]
   by_cases c2 : hj h = hj h'
   . rw [if_pos (by simp [c2])]
     simp [Qe, c2]
   . rw [if_neg (by simp [c2])]
     show (some (Va .LtE h h')).map PyData.bool = _
     rw [e2]; simp only [Option.map_some]
     congr 3
     apply propext; omega
 . rw [if_neg (by simp [c1])]
   show (some (decide (t <= t'))).map PyData.bool = _
   simp only [Option.map_some]
   congr 3
   apply propext; omega
theorem Wf.id {p : IdP} {S : PyData -> Prop} {U : IdP -> Prop} {d : PyData} (w : Wf p S U d) : dIx d (.int 1) = some (idP p) := by
 obtain ⟨_, hf⟩ := w
 rcases hf with ⟨_, _, q, _⟩ | ⟨_, q, _⟩ | ⟨_, _, _, _, _, q, _⟩ | ⟨_, q, _⟩ | ⟨_, q, _⟩ <;> rw [q] <;> exact atI_nat (j := 1) (by simp)
theorem ix0 (x : PyData) (xs : List PyData) : dIx (.tuple (x :: xs)) (.int 0) = some x := atI_nat (xs := x :: xs) (j := 0) (by simp)
theorem abc {c : Nat} (h : c ∈ ("abc" : Str).cps.toList) : (⟨#[c]⟩ : Str) = "a" \/ (⟨#[c]⟩ : Str) = "b" \/ (⟨#[c]⟩ : Str) = "c" := by
 have h' : c ∈ [97, 98, 99] := by
   have : ("abc" : Str).cps.toList = [97, 98, 99] := by decide
   rw [this] at h; exact h
 simp only [List.mem_cons, List.not_mem_nil, or_false] at h'
 rcases h' with rfl | rfl | rfl
 . exact .inl (by decide)
 . exact .inr (.inl (by decide))
 . exact .inr (.inr (by decide))
theorem Tw {δc : Dn} {tt : Dn -> Res Bool} (f : Dp -> Bool) : ∀ L : List Dp, (∀ e ∈ L, tt ([.sh e.1] ++ δc) = .ok (f e)) -> B6 B8 δc tt (A2 0) (L.map (·.1)) = .ok ((L.filter f).map (·.1))
 | [], _ => rfl
 | e :: L, h => by
   have h1 := h e (.head _); have ih := Tw f L fun e' he => h e' (.tail _ he)
   rw [List.map_cons]; unfold B6; rw [show B8 e.1 = .ok [.sh e.1] from rfl]
   simp only [h1, ih]
   cases hf : f e with
   | true => rw [List.filter_cons_of_pos hf]; rfl
   | false => rw [List.filter_cons_of_neg (by rw [hf]; decide)]
def Upk (L : List Dp) : Prop := L.Pairwise fun a b => key a.2 < key b.2
def WfIn (L : List Dp) (e : Dp) : Prop := Wf e.2 (SgOf e.2.1 (L.map (·.1))) (fun q => (∃ e' ∈ L, e'.2 = q) /\ q.1 < e.2.1) e.1
def BkW (L : List Dp) : Prop := (∀ e ∈ L, WfIn L e) /\ Upk L
theorem WfIn.mono {L L' : List Dp} {e : Dp} (h : WfIn L e) (k : ∀ x ∈ L, x ∈ L') : WfIn L' e :=
 Wf.mono h (fun x hx => hx.mono fun d hd => by obtain ⟨y, hy, rfl⟩ := List.mem_map.mp hd; exact List.mem_map_of_mem (k y hy)) fun q ⟨⟨y, hy, e⟩, hq⟩ => ⟨⟨y, k y hy, e⟩, hq⟩
theorem Wl (ns : List Int) (hns : ns.length <= 63) (x y z : Str) (hxyz : W1 x /\ W1 y /\ W1 z) (k : Int) (hk : 0 <= k) (hk2 : k < 9) (j : Nat) (hj : j < 9) (L : List Dp) (hl : L.length = j) (hd : BkW L) (t : Int) (h : Str) (ht : 1 <= t) (ht2 : t <= j + 1) (hth : okH h) (s7 s8 s9 : Sl) :
   ∃ (d : PyData) (t' : Int) (h' : Str) (s7' s8' s9' : Sl), WfIn L (d, (t', h')) /\ 1 <= t' /\ t' <= ((j + 1 : Nat) : Int) + 1 /\ okH h' /\ (L = [] \/ key (t, h) < key (t', h')) /\ Uf [.sh (scr ns), .sh (.int 10), .sh (.int 9), .sh (.list [.str x, .str y, .str z]), .sh (.tuple (L.map (·.1))), .sh (idD t h), .sh (.int k), s7, s8, s9]
     = .nx [.sh (scr ns), .sh (.int 10), .sh (.int 9), .sh (.list [.str x, .str y, .str z]), .sh (.tuple (L.map (·.1) ++ [d])), .sh (idD t' h'), .sh (.int k), s7', s8', s9'] := by
 obtain ⟨r1, e1, a1, b1⟩ := K9 ns hns (10 + 1 + 60 * k) 2 (by omega) (by omega) (by decide)
 obtain ⟨r2, e2, a2, b2'⟩ := K9 ns hns (10 + 2 + 60 * k) 3 (by omega) (by omega) (by decide)
 obtain ⟨c, hc, f2⟩ := Zw (x := "abc") a2 (by have : ("abc" : Str).cps.toList.length = 3 := (by decide); rw [this]; exact b2')
 have hh := abc hc
 generalize (⟨#[c]⟩ : Str) = hd' at *
 have eb := leIdE (t := t + r1) (t' := t) (show okH hd' from hh) hth
 have go : ∀ tt : Int, 1 <= tt -> tt <= j + 2 -> ∃ d, WfIn L (d, (tt, hd')) /\ ∃ kn, (E1 (K2 5 (K3 (A0 (A2 7) (A0 (A2 8) A7)))) (E1 (K2 9 (vFn (A0 (D2 (E6 (fun δ => ((A2 4) δ).bind E8) B8 [7] (C9 (b2 (b2 (b2 (A2 0) (vC (.int 1)) dIx) (vC (.int 0)) dIx) (A2 1) (W5 .Lt))) (A2 0))) A7) Bx)) (K2 4 (b2 (A2 4) (K3 (A0 (B7 (A0 (A2 0) (A0 (b2 (b2 (A2 1) (vC (.int 3)) C2) (b2 (vC (.int 60)) (A2 6) L8) C2) (A0 (A2 5) (A0 (A2 9) (A0 (A2 3) A7))))) I8) A7)) C2))))
     [.sh (scr ns), .sh (.int 10), .sh (.int 9), .sh (.list [.str x, .str y, .str z]), .sh (.tuple (L.map (·.1))), .sh (idD t h), .sh (.int k), .sh (.int tt), .sh (.str hd'), s9]
     = .nx [.sh (scr ns), .sh (.int 10), .sh (.int 9), .sh (.list [.str x, .str y, .str z]), .sh (.tuple (L.map (·.1) ++ [d])), .sh (idD tt hd'), .sh (.int k), .sh (.int tt), .sh (.str hd'), .sh (.tuple kn)] := fun tt h1 h2 => by
   have g1 := Tw (δc := [.sh (.int tt)]) (tt := C9 (b2 (b2 (b2 (A2 0) (vC (.int 1)) dIx) (vC (.int 0)) dIx) (A2 1) (W5 .Lt))) (fun e => decide (e.2.1 < tt)) L fun e he => by
     have := (hd.1 e he).id
     simp_arith [this, ix0, ltI]
   have fm : ∀ e ∈ L.filter fun e => decide (e.2.1 < tt), e ∈ L /\ e.2.1 < tt := fun e he => by
     obtain ⟨m, q⟩ := List.mem_filter.mp he; exact ⟨m, of_decide_eq_true q⟩
   have fl := List.length_filter_le (fun e : Dp => decide (e.2.1 < tt)) L
   obtain ⟨d, ed, wd'⟩ := dQ ns hns (S := fun p => SgOf p.1 (L.map (·.1))) (U := fun p q => (∃ e' ∈ L, e'.2 = q) /\ q.1 < p.1) (10 + 3 + 60 * k) (by omega) (by omega) (tt, hd') ⟨h1, by simp only; omega, hh⟩ (L.filter fun e => decide (e.2.1 < tt)) (fun e he => ⟨hd.1 e (fm e he).1, (fm e he).2⟩) (hd.2.filter _) (by omega) x y z hxyz
   have wd : WfIn L (d, (tt, hd')) := wd'.mono (fun x hx => hx.mono fun q hq => by obtain ⟨e, he, rfl⟩ := List.mem_map.mp hq; exact List.mem_map_of_mem (fm e he).1) fun q ⟨e, he, hq⟩ => ⟨⟨e, (fm e he).1, hq⟩, hq ▸ (fm e he).2⟩
   have ll : (L.map (·.1)).length = j := by rw [List.length_map]; exact hl
   generalize (L.filter fun e => decide (e.2.1 < tt)).map (·.1) = kn at *
   refine ⟨d, wd, kn, ?_⟩; have hadd := addT (x := L.map (·.1)) (y := [d]) (by simp; omega)
   have htup : Bx [.list kn] = some (.tuple kn) := rfl; rw [C8 (O0 (Rz (B1 rfl (B1 rfl rfl))))]; simp only [List.set_cons_zero, List.set_cons_succ]; rw [C8 (O0 (Ca (B1 (M5 (F7 (K4 rfl rfl) (by omega) rfl g1)) rfl) htup))]; simp only [List.set_cons_zero, List.set_cons_succ]
   simp_arith [Z8, Zm, ed, hadd]
 unfold Uf
 rw [C8 (O0 (d := .int (t + r1)) (by simp_arith [ix0, Z8, Zm, e1]))]
 simp only [List.set_cons_zero, List.set_cons_succ]
 rw [C8 (O0 (d := .str hd') (by simp_arith [Z8, Zm, e2, f2]))]
 simp only [List.set_cons_zero, List.set_cons_succ]
 have hc1 : ∃ b, (b = false -> L = [] \/ key (t, h) < key (t + r1, hd')) /\ (Cs (C9 (b2 (A2 4) (K3 A7) dNe)) (C9 (b2 (K3 (A0 (A2 7) (A0 (A2 8) A7))) (A2 5) (W5 .LtE)))) [.sh (scr ns), .sh (.int 10), .sh (.int 9), .sh (.list [.str x, .str y, .str z]), .sh (.tuple (L.map (·.1))), .sh (idD t h), .sh (.int k), .sh (.int (t + r1)), .sh (.str hd'), s9] = .ok b := by
   cases he : (L.map (·.1)).isEmpty with
   | true => exact ⟨false, fun _ => .inl (by cases L with | nil => rfl | cons _ _ => cases he), by simp_arith [dX, he, Bool.not_true]⟩
   | false => exact ⟨decide (key (t + r1, hd') <= key (t, h)), fun z => .inr (by have := of_decide_eq_false z; omega), by simp_arith [dX, he, Bool.not_false, eb]⟩
 obtain ⟨b, hbk, hb⟩ := hc1
 cases b with
 | true =>
   obtain ⟨d, wd, kn, ek⟩ := go (t + 1) (by omega) (by omega)
   refine ⟨d, t + 1, hd', .sh (.int (t + 1)), .sh (.str hd'), .sh (.tuple kn), wd, by omega, by omega, hh, .inr (by have := Th h; unfold key; simp only; omega), ?_⟩
   rw [C8 ((Aq hb).trans (O0 (d := .int (t + 1)) (by simp_arith [ix0, Z8])))]
   simp only [List.set_cons_zero, List.set_cons_succ]; exact ek
 | false =>
   obtain ⟨d, wd, kn, ek⟩ := go (t + r1) (by omega) (by omega)
   refine ⟨d, t + r1, hd', .sh (.int (t + r1)), .sh (.str hd'), .sh (.tuple kn), wd, by omega, by omega, hh, hbk rfl, ?_⟩
   rw [G8 hb]; exact ek
theorem BkW.snoc {L : List Dp} {d : PyData} {p q : IdP} (h : BkW L) (w : WfIn L (d, q)) (hk : ∀ e ∈ L, key e.2 <= key p) (hq : L = [] \/ key p < key q) : BkW (L ++ [(d, q)]) /\ ∀ e ∈ L ++ [(d, q)], key e.2 <= key q := by
 have lt : ∀ e ∈ L, key e.2 < key q := fun e he => by
   rcases hq with z | z
   . rw [z] at he; exact nomatch he
   . have := hk e he; omega
 have up : ∀ x ∈ L, x ∈ L ++ [(d, q)] := fun x hx => List.mem_append_left _ hx
 refine ⟨⟨fun e he => ?_, ?_⟩, fun e he => ?_⟩
 . rcases List.mem_append.mp he with z | z
   . exact (h.1 e z).mono up
   . rw [List.mem_singleton.mp z]; exact w.mono up
 . exact List.pairwise_append.mpr ⟨h.2, List.pairwise_singleton _ _, fun a ha b hb => by rw [List.mem_singleton.mp hb]; exact lt a ha⟩
 . rcases List.mem_append.mp he with z | z
   . exact Int.le_of_lt (lt e z)
   . rw [List.mem_singleton.mp z]; exact Int.le_refl _
theorem Lw (ns : List Int) (hns : ns.length <= 63) (x y z : Str) (hxyz : W1 x /\ W1 y /\ W1 z) : ∀ (l : List PyData), (∀ d ∈ l, ∃ k : Int, d = .int k /\ 0 <= k /\ k < 9) -> ∀ (j : Nat) (L : List Dp) (t : Int) (h : Str) (s6 s7 s8 s9 : Sl), j + l.length <= 9 -> L.length = j -> BkW L -> (∀ e ∈ L, key e.2 <= key (t, h)) -> 1 <= t -> t <= j + 1 -> okH h ->
   ∃ L' s5 s6' s7' s8' s9', BkW L' /\ L'.length <= 9 /\ G6 (st1 6) Uf l [.sh (scr ns), .sh (.int 10), .sh (.int 9), .sh (.list [.str x, .str y, .str z]), .sh (.tuple (L.map (·.1))), .sh (idD t h), s6, s7, s8, s9] = .nx [.sh (scr ns), .sh (.int 10), .sh (.int 9), .sh (.list [.str x, .str y, .str z]), .sh (.tuple (L'.map (·.1))), s5, s6', s7', s8', s9']
 | [], _, j, L, t, h, s6, s7, s8, s9, hj, hl, hd, _, _, _, _ => ⟨L, _, _, _, _, _, hd, by simp at hj; omega, rfl⟩
 | d0 :: l, hk, j, L, t, h, s6, s7, s8, s9, hj, hl, hd, hb, h1, h2, h3 => by
   obtain ⟨k, rfl, k0, k1⟩ := hk d0 (.head _); simp only [List.length_cons] at hj; obtain ⟨d, t', h', s7', s8', s9', wd, t1, t2, t3, kk, e⟩ := Wl ns hns x y z hxyz k k0 k1 j (by omega) L hl hd t h h1 h2 h3 s7 s8 s9
   obtain ⟨hB, hB2⟩ := hd.snoc wd hb kk; obtain ⟨L', s5, s6', s7'', s8'', s9'', w', l', e'⟩ := Lw ns hns x y z hxyz l (fun d hd => hk d (.tail _ hd)) (j + 1) (L ++ [(d, (t', h'))]) t' h' (.sh (.int k)) s7' s8' s9' (by omega) (by simp [hl]) hB hB2 t1 t2 t3
   refine ⟨L', s5, s6', s7'', s8'', s9'', w', l', ?_⟩; unfold G6; simp only [st1, List.set_cons_zero, List.set_cons_succ]; rw [e]; rw [List.map_append] at e'; exact e'
theorem eD (ns : List Int) (hns : ns.length <= 63) (x y z : Str) (hxyz : W1 x /\ W1 y /\ W1 z) : ∃ L, Q0 [scr ns, .int 10, .int 9, .list [.str x, .str y, .str z]] = .ok (.tuple (L.map (·.1))) /\ L.length <= 9 /\ BkW L := by
 obtain ⟨r, e, a, b⟩ := K9 ns hns 10 (9 + 1) (by decide) (by decide) (by decide)
 have hmem : ∀ d ∈ R9 0 r, ∃ k : Int, d = .int k /\ 0 <= k /\ k < 9 := fun d hd => by
   unfold R9 at hd; obtain ⟨i, hi, rfl⟩ := List.mem_map.mp hd; have := List.mem_range.mp hi; exact ⟨_, rfl, by omega, by omega⟩
 have hlen : (R9 0 r).length <= 9 := by unfold R9; simp; omega
 obtain ⟨L, s5, s6, s7, s8, s9, w, l, e'⟩ := Lw ns hns x y z hxyz (R9 0 r) hmem 0 [] 1 "a" .un .un .un .un (by omega) rfl ⟨(fun _ h => nomatch h), .nil⟩ (fun _ h => nomatch h) (by decide) (by decide) (.inl rfl)
 refine ⟨L, X3 ?_, l, w⟩
 unfold Y4 V4 V3 V2 V1 N3
 simp only [D7, List.map_cons, List.map_nil, List.length_cons, List.length_nil, List.replicate, List.cons_append, List.nil_append, Nat.reduceAdd, Nat.reduceSub]
 rw [C8 (O0 (d := .tuple []) rfl), C8 (O0 (d := idD 1 "a") rfl)]
 simp only [List.set_cons_zero, List.set_cons_succ]
 have hfor : T7 (fun δ => ((A0 (B7 (A0 (A2 0) (A0 (A2 1) (A0 (b2 (A2 2) (vC (.int 1)) C2) A7))) A6) A7) δ).bind Y6) (st1 6) Uf [.sh (scr ns), .sh (.int 10), .sh (.int 9), .sh (.list [.str x, .str y, .str z]), .sh (.tuple []), .sh (idD 1 "a"), .un, .un, .un, .un] = .nx [.sh (scr ns), .sh (.int 10), .sh (.int 9), .sh (.list [.str x, .str y, .str z]), .sh (.tuple (L.map (·.1))), s5, s6, s7, s8, s9] := by
   unfold T7; have := Gm (fs := A0 (B7 (A0 (A2 0) (A0 (A2 1) (A0 (b2 (A2 2) (vC (.int 1)) C2) A7))) A6) A7) (δ := [.sh (scr ns), .sh (.int 10), .sh (.int 9), .sh (.list [.str x, .str y, .str z]), .sh (.tuple []), .sh (idD 1 "a"), .un, .un, .un, .un]) (n := r) (by simp_arith [Z8, e]) a (by omega)
   rw [this, M7]; exact e'
 exact (C8 hfor).trans (O6 rfl)
theorem Pl (p q : IdP) : PyData.eqv (idP p) (idP q) = decide (p = q) := by
 show (PyData.eqv (.int p.1) (.int q.1) && (PyData.eqv (.str p.2) (.str q.2) && true)) = _
 show ((p.1 == q.1) && ((p.2 == q.2) && true)) = _
 rw [Bool.eq_iff_iff]
 simp [Prod.ext_iff]
theorem Nr (p : IdP) : (idP p).depth <= 2 := Tl p.1 p.2
theorem dEqP (p q : IdP) : dEq (idP p) (idP q) = some (.bool (decide (p = q))) := by
 unfold dEq
 rw [if_pos (Nat.le_trans (Nat.min_le_left _ _) (Nat.le_trans (Nr p) (by decide))), Pl]
theorem dNeP (p q : IdP) : dNe (idP p) (idP q) = some (.bool (!decide (p = q))) := by
 unfold dNe
 rw [if_pos (Nat.le_trans (Nat.min_le_left _ _) (Nat.le_trans (Nr p) (by decide))), Pl]
theorem Lp (x y : PyData) (xs : List PyData) : dIx (.tuple (x :: y :: xs)) (.int 1) = some y := atI_nat (xs := x :: y :: xs) (j := 1) (by simp)
theorem Jl (x y z : PyData) (xs : List PyData) : dIx (.tuple (x :: y :: z :: xs)) (.int 2) = some z := atI_nat (xs := x :: y :: z :: xs) (j := 2) (by simp)
theorem dIdx3 (x y z u : PyData) (xs : List PyData) : dIx (.tuple (x :: y :: z :: u :: xs)) (.int 3) = some u := atI_nat (xs := x :: y :: z :: u :: xs) (j := 3) (by simp)
theorem dIdx4 (x y z u v : PyData) (xs : List PyData) : dIx (.tuple (x :: y :: z :: u :: v :: xs)) (.int 4) = some v := atI_nat (xs := x :: y :: z :: u :: v :: xs) (j := 4) (by simp)
def SgK (S : PyData -> Prop) : Prop := ∀ x, S x -> ∃ (p : IdP) (n : Int), x = sgD p n /\ okI p /\ 0 <= n
def isSg (d : PyData) : Prop := ∃ (p : IdP) (n : Int), d = sgD p n
theorem isSg.p {d : PyData} (h : isSg d) : ∃ (p : IdP) (n : Int), d = .tuple [idP p, .int n] := h
theorem Vs {d : PyData} (h : isSg d) : N0 d = false := by obtain ⟨i, n, rfl⟩ := h; rfl
def Tf (d : PyData) : Prop := d = .none \/ isSg d
theorem Qr : ∀ (sg : List PyData), (∀ s ∈ sg, isSg s) -> ∃ ps : List IdP, ps.length = sg.length /\
   B6 B8 [] F8 (b2 (A2 0) (vC (.int 0)) dIx) sg = .ok (ps.map idP) /\
   B6 B8 [] (fun δ => ((A2 0) δ).bind fun d => .ok (!N0 d)) (A2 0) sg = .ok sg /\
   ∀ q : IdP, ∃ ys : List PyData, B6 B8 [.sh (idP q)] (C9 (b2 (b2 (A2 0) (vC (.int 0)) dIx) (A2 1) dEq)) (A2 0) sg = .ok ys /\ (!ys.isEmpty) = decide (q ∈ ps) /\ (q ∈ ps ↔ ∃ n, PyData.tuple [idP q, .int n] ∈ sg)
 | [], _ => ⟨[], rfl, rfl, rfl, fun q => ⟨[], rfl, rfl, by simp⟩⟩
 | s :: sg, h => by
   obtain ⟨p, n, rfl⟩ := (h s (.head _)).p; obtain ⟨ps, e1, e2, e3, e4⟩ := Qr sg fun x hx => h x (.tail _ hx)
   refine ⟨p :: ps, by simp [e1], ?_, ?_, fun q => ?_⟩
   . have : (b2 (A2 0) (vC (.int 0)) dIx) ([.sh (.tuple [idP p, .int n])] ++ []) = .ok (idP p) := by simp_arith [ix0]
     unfold B6; simp only [B8, F8, this, e2, List.map_cons]
   . unfold B6
     simp only [B8, W7, List.append_nil, List.getElem?_cons_zero, S7, C4, N0, Bool.not_false]; simp only [B8, W7, List.append_nil, List.getElem?_cons_zero, S7, C4, N0, Bool.not_false] at e3; rw [e3]
   . obtain ⟨ys, f1, f2, f3⟩ := e4 q
     have mm : q ∈ p :: ps ↔ ∃ m, PyData.tuple [idP q, .int m] ∈ PyData.tuple [idP p, .int n] :: sg := by
       rw [List.mem_cons, f3]
       constructor
       . rintro (rfl | ⟨m, hm⟩)
         . exact ⟨n, .head _⟩
         . exact ⟨m, .tail _ hm⟩
       . rintro ⟨m, hm⟩
         rcases List.mem_cons.mp hm with h | h
         . left
           simp only [idP, idD, PyData.tuple.injEq, List.cons.injEq, PyData.int.injEq, PyData.str.injEq, and_true] at h; exact Prod.ext h.1.1 h.1.2
         . exact .inr ⟨m, h⟩
     have t : (C9 (b2 (b2 (A2 0) (vC (.int 0)) dIx) (A2 1) dEq)) ([.sh (.tuple [idP p, .int n])] ++ [.sh (idP q)]) = .ok (decide (p = q)) := by simp_arith [ix0, dEqP]
     by_cases hpq : p = q
     . refine ⟨.tuple [idP p, .int n] :: ys, ?_, by simp [hpq], mm⟩
       unfold B6; rw [show B8 (.tuple [idP p, .int n]) = .ok [.sh (.tuple [idP p, .int n])] from rfl]
       simp only [t, decide_eq_true hpq, f1]; rfl
     . refine ⟨ys, ?_, by rw [f2]; simp [Ne.symm hpq], mm⟩
       unfold B6; rw [show B8 (.tuple [idP p, .int n]) = .ok [.sh (.tuple [idP p, .int n])] from rfl]
       simp only [t, decide_eq_false hpq, f1]
theorem Sg : ∀ (sg : List PyData), (∀ s ∈ sg, Tf s) -> ∃ out : List PyData, (∀ s ∈ out, isSg s) /\ out.length <= sg.length /\ B6 B8 [] (fun δ => ((A2 0) δ).bind fun d => .ok (!N0 d)) (A2 0) sg = .ok out /\ (∀ s ∈ sg, isSg s -> s ∈ out) /\ ∀ s ∈ out, s ∈ sg
 | [], _ => ⟨[], (fun _ h => nomatch h), Nat.le_refl _, rfl, (fun _ h => nomatch h), fun _ h => nomatch h⟩
 | s :: sg, h => by
   obtain ⟨out, e1, e2, e3, e4, e5⟩ := Sg sg fun x hx => h x (.tail _ hx)
   rcases h s (.head _) with rfl | hs
   . refine ⟨out, e1, by simp; omega, ?_, fun x hx hq => ?_, fun x hx => .tail _ (e5 x hx)⟩
     . unfold B6
       simp only [B8, W7, List.append_nil, List.getElem?_cons_zero, S7, C4, N0, Bool.not_true]; simp only [B8, W7, List.append_nil, List.getElem?_cons_zero, S7, C4] at e3; exact e3
     . rcases List.mem_cons.mp hx with rfl | hx
       . obtain ⟨i, n, hh⟩ := hq; cases hh
       . exact e4 x hx hq
   . refine ⟨s :: out, fun x hx => (List.mem_cons.mp hx).elim (fun z => z ▸ hs) (e1 x), by simp; omega, ?_, fun x hx hq => ?_, fun x hx => ?_⟩
     . unfold B6
       simp only [B8, W7, List.append_nil, List.getElem?_cons_zero, S7, C4, Vs hs, Bool.not_false]; simp only [B8, W7, List.append_nil, List.getElem?_cons_zero, S7, C4] at e3; rw [e3]
     . rcases List.mem_cons.mp hx with rfl | hx
       . exact .head _
       . exact .tail _ (e4 x hx hq)
     . rcases List.mem_cons.mp hx with rfl | hx
       . exact .head _
       . exact .tail _ (e5 x hx)
theorem Di {S : PyData -> Prop} (hS : ∀ x, S x -> isSg x) {d : PyData} {raw : List PyData} (hraw' : ∀ s ∈ raw, OrN S s) (hlen : raw.length <= 40) (hund : (C9 (b2 (b2 (A2 0) (vC (.int 0)) dIx) (vC (.str "undo")) dEq)) [.sh d] = .ok false)
   (hsg : (sIf (C9 (b2 (b2 (A2 0) (vC (.int 0)) dIx) (vC (.str "add")) dEq)) (K2 1 (D2 (A0 (b2 (A2 0) (vC (.int 2)) dIx) A7))) (sIf (C9 (b2 (b2 (A2 0) (vC (.int 0)) dIx) (vC (.str "drop")) dEq)) (K2 1 (vFn (A0 (b2 (A2 0) (vC (.int 2)) dIx) A7) Be)) (sIf (C9 (b2 (b2 (A2 0) (vC (.int 0)) dIx) (vC (.str "mark")) dEq)) (K2 1 (D2 (A0 (b2 (b2 (A2 0) (vC (.int 3)) dIx) (vC (.int 0)) dIx) (A0 (b2 (b2 (A2 0) (vC (.int 4)) dIx) (vC (.int 0)) dIx) A7)))) L4))) [.sh d, .sh (.list [])] = .nx [.sh d, .sh (.list raw)]) :
   ∃ (out : List PyData) (ps : List IdP), ps.length <= 40 /\ (∀ s ∈ out, isSg s) /\ (∀ s ∈ raw, isSg s -> s ∈ out) /\ (∀ s ∈ out, s ∈ raw) /\ C3 [d] = .ok (.list (ps.map idP)) /\
     (∃ out : List PyData, P1 [d] = .ok (.list out) /\ out.length <= 40 /\ ∀ s ∈ out, S s /\ ∃ q n, s = .tuple [idP q, .int n] /\ q ∈ ps) /\ ∀ q : IdP, q ∈ ps ↔ ∃ n, .tuple [idP q, .int n] ∈ out := by
 have hraw : ∀ s ∈ raw, Tf s := fun s hs => (hraw' s hs).elim .inl fun z => .inr (hS s z)
 obtain ⟨out, o1, o2, o3, o4, o5⟩ := Sg raw hraw
 obtain ⟨ps, e1, e2, e3, e4⟩ := Qr out o1
 have hs : P1 [d] = .ok (.list out) := by
   refine X3 ?_; unfold T4 R4 R3 R1 L9; simp only [D7, List.map_cons, List.map_nil, List.length_cons, List.length_nil, List.replicate, List.cons_append, List.nil_append, Nat.reduceAdd, Nat.reduceSub]; rw [C8 (O0 (d := .list []) rfl)]
   simp only [List.set_cons_zero, List.set_cons_succ]; rw [C8 hsg]; exact O6 (M5 (F7 (K4 rfl rfl) (by omega) rfl o3))
 refine ⟨out, ps, by omega, o1, o4, o5, ?_, ⟨out, hs, by omega, fun s hs' => ?_⟩, fun q => ?_⟩
 . refine X3 ?_
   unfold P6 P5; simp only [D7, List.map_cons, List.map_nil, List.length_cons, List.length_nil, List.replicate, List.cons_append, List.nil_append, Nat.reduceAdd, Nat.reduceSub]; rw [G8 hund]; exact O6 (M5 (F7 (K4 (F5 (B1 rfl rfl) hs) rfl) (by omega) rfl e2))
 . obtain ⟨q, n, rfl⟩ := (o1 s hs').p
   obtain ⟨_, _, _, z⟩ := e4 q; exact ⟨(hraw' _ (o5 _ hs')).elim (fun z => nomatch z) (fun z => z), q, n, rfl, z.mpr ⟨n, hs'⟩⟩
 . obtain ⟨_, _, _, z⟩ := e4 q
   exact z
theorem neS {x y : Str} (h : (x == y) = false) : dEq (.str x) (.str y) = some (.bool false) := by rw [Rj, h]
theorem Rf {x : Str} : dEq (.str x) (.str x) = some (.bool true) := by rw [Rj]; simp
theorem k1 : (("add" : Str) == "undo") = false := by decide +kernel
theorem k2 : (("drop" : Str) == "undo") = false := by decide +kernel
theorem k3 : (("mark" : Str) == "undo") = false := by decide +kernel
theorem k4 : (("unmark" : Str) == "undo") = false := by decide +kernel
theorem k5 : (("drop" : Str) == "add") = false := by decide +kernel
theorem k6 : (("mark" : Str) == "add") = false := by decide +kernel
theorem k7 : (("unmark" : Str) == "add") = false := by decide +kernel
theorem k9 : (("mark" : Str) == "drop") = false := by decide +kernel
theorem k10 : (("unmark" : Str) == "drop") = false := by decide +kernel
theorem k12 : (("unmark" : Str) == "mark") = false := by decide +kernel
def hit (s : PyData) (q : IdP) : Prop := ∃ n, s = .tuple [idP q, .int n]
theorem Ph (q : IdP) : ¬ hit .none q := fun ⟨_, h⟩ => by cases h
theorem Zz (p q : IdP) (n : Int) : hit (.tuple [idP p, .int n]) q ↔ p = q := by
 constructor
 . rintro ⟨m, h⟩
   simp only [idP, idD, PyData.tuple.injEq, List.cons.injEq, PyData.int.injEq, PyData.str.injEq, and_true] at h; exact Prod.ext h.1.1 h.1.2
 . rintro rfl; exact ⟨n, rfl⟩
structure DK (S : PyData -> Prop) (U : IdP -> Prop) (d : PyData) (p : IdP) (ps : List IdP) : Prop where
 id : dIx d (.int 1) = some (idP p)
 ok : okI p
 nm : C3 [d] = .ok (.list (ps.map idP))
 len : ps.length <= 40
 nmd : ∀ q ∈ ps, U q \/ ∃ n, S (sgD q n)
 ln : ∃ ps' : List IdP, C7 [d] = .ok (.list (ps'.map idP)) /\ ps'.length <= 40 /\ ∀ q, q ∈ ps' ↔ q ∈ ps
theorem Jn {δc : Dn} {el : Dn -> Res PyData} (f : IdP -> PyData) (ps : List IdP) (h : ∀ q ∈ ps, el ([.sh (idP q)] ++ δc) = .ok (f q)) : B6 B8 δc F8 el (ps.map idP) = .ok (ps.map f) := by
 induction ps with
 | nil => rfl
 | cons q ps ih =>
   rw [List.map_cons, List.map_cons]; unfold B6; simp only [B8, F8, h q (.head _), ih fun x hx => h x (.tail _ hx)]
theorem dk_of {S : PyData -> Prop} {U : IdP -> Prop} (hS : SgK S) {d : PyData} {p : IdP} (w : Wf p S U d) (hT : ∀ q n, S (sgD q n) -> q.1 < p.1) (hU : ∀ q, U q -> q.1 < p.1 /\ okI q) : ∃ ps, DK S U d p ps := by
 have hS' : ∀ x, S x -> isSg x := fun x hx => let ⟨q, n, e, _⟩ := hS x hx; ⟨q, n, e⟩
 obtain ⟨ok, hf⟩ := w
 have fin : ∀ {ps : List IdP} {out raw : List PyData}, (∀ s ∈ raw, OrN S s) -> (∀ s ∈ out, s ∈ raw) -> (∀ q : IdP, q ∈ ps ↔ ∃ n, PyData.tuple [idP q, .int n] ∈ out) -> ∀ q ∈ ps, ∃ n, S (sgD q n) := fun hr ho hq q hm => by
   obtain ⟨n, hn⟩ := (hq q).mp hm; exact ⟨n, (hr _ (ho _ hn)).elim (fun z => nomatch z) (fun z => z)⟩
 have toN : ∀ {s : PyData}, OrN S s -> Tf s := fun z => z.elim .inl fun z => .inr (hS' _ z)
 rcases hf with ⟨b, wd, rfl, hb, hw⟩ | ⟨sg, rfl, hsg, hl, hne, hr⟩ | ⟨nme, s1, x1, s2, x2, rfl, hs1, hs2, hn, hx1, hx2⟩ | ⟨nme, rfl, hn⟩ | ⟨i, rfl, hi⟩
 . have hraw : ∀ s ∈ [b], OrN S s := fun s hs => by rw [List.mem_singleton.mp hs]; exact hb
   obtain ⟨out, ps, l, o1, o2, o3, nm, sn, hq⟩ := Di hS' (d := .tuple [.str "add", idP p, b, .str wd]) (raw := [b]) hraw (by simp) (by simp_arith [ix0, neS k1]) (by rw [Aq (by simp_arith [ix0, Rf])]; simp_arith [Jl])
   have hh := fin hraw o3 hq; refine ⟨ps, Lp _ _ _, ok, nm, l, fun q hq => .inr (hh q hq), ?_⟩
   . have key : ∀ q, q ∈ ps ↔ hit b q := fun q => by
       rw [hq]
       constructor
       . rintro ⟨n, hn⟩; exact ⟨n, (List.mem_singleton.mp (o3 _ hn)).symm⟩
       . rintro ⟨n, rfl⟩; exact ⟨n, o2 _ (.head _) ⟨_, _, rfl⟩⟩
     have go : ∀ ps' : List IdP, (vIf (fun δ => ((b2 (A2 0) (vC (.int 2)) dIx) δ).bind fun d => .ok (!N0 d)) (D2 (A0 (b2 (b2 (A2 0) (vC (.int 2)) dIx) (vC (.int 0)) dIx) A7)) (D2 A7)) [.sh (.tuple [.str "add", idP p, b, .str wd])] = .ok (.list (ps'.map idP)) ->
         C7 [.tuple [.str "add", idP p, b, .str wd]] = .ok (.list (ps'.map idP)) := fun ps' hh => by
       refine X3 ?_; unfold K7 K1 K0 J3 J2 E5; simp only [D7, List.map_cons, List.map_nil, List.length_cons, List.length_nil, List.replicate, List.cons_append, List.nil_append, Nat.reduceAdd, Nat.reduceSub]; rw [G8 (by simp_arith [ix0, neS k1])]
       exact Dc ((Aq (by simp_arith [ix0, Rf])).trans (O6 hh))
     have hb := toN hb; rcases hb with rfl | hb
     . exact ⟨[], go [] (by unfold vIf; simp_arith [Jl, N0, Bool.not_true]), by simp, fun q => by rw [key q]; simp [Ph]⟩
     . obtain ⟨p0, n, rfl⟩ := hb.p
       exact ⟨[p0], go [p0] (by unfold vIf; simp_arith [Jl, N0, Bool.not_false, ix0]), by simp, fun q => by rw [key q, Zz]; simp [eq_comm]⟩
 . have hraw : ∀ s ∈ sg, OrN S s := fun s hs => .inr (hsg s hs)
   obtain ⟨out, ps, l, o1, o2, o3, nm, sn, hq⟩ := Di hS' (d := .tuple [.str "drop", idP p, .tuple sg]) (raw := sg) hraw hl (by simp_arith [ix0, neS k2]) (by
     rw [W0 (by simp_arith [ix0, neS k5]), Aq (by simp_arith [ix0, Rf])]
     have : Be [.tuple sg] = some (.list sg) := rfl
     simp_arith [Jl, this])
   have hh := fin hraw o3 hq; have hsg' : ∀ x ∈ sg, isSg x := fun x hx => hS' x (hsg x hx)
   obtain ⟨ps', f1, f2, f3, f4⟩ := Qr sg hsg'; refine ⟨ps, Lp _ _ _, ok, nm, l, fun q hq => .inr (hh q hq), ?_⟩
   . refine ⟨ps', ?_, by omega, fun q => ?_⟩
     . refine X3 ?_
       unfold K7 K1 K0 J3 J2 E5; simp only [D7, List.map_cons, List.map_nil, List.length_cons, List.length_nil, List.replicate, List.cons_append, List.nil_append, Nat.reduceAdd, Nat.reduceSub]; rw [G8 (by simp_arith [ix0, neS k2]), G8 (by simp_arith [ix0, neS k5])]
       refine Dc ((Aq (by simp_arith [ix0, Rf])).trans (O6 ?_))
       exact M5 (F7 (K4 (d := .tuple sg) (by simp_arith [Jl]) rfl) (by omega) rfl f2)
     . obtain ⟨ys, y1, y2, y3⟩ := f4 q
       rw [hq, y3]; exact ⟨fun ⟨n, hn⟩ => ⟨n, o2 _ hn (hsg' _ hn)⟩, fun ⟨n, hn⟩ => ⟨n, o3 _ hn⟩⟩
 . have hraw : ∀ s ∈ [s1, s2], OrN S s := fun s hs => by
     rcases List.mem_cons.mp hs with rfl | hs
     . exact hs1
     . rw [List.mem_singleton.mp hs]; exact hs2
   obtain ⟨out, ps, l, o1, o2, o3, nm, sn, hq⟩ := Di hS' (d := .tuple [.str "mark", idP p, .str nme, .tuple [s1, .str x1], .tuple [s2, .str x2]]) (raw := [s1, s2]) hraw (by simp) (by simp_arith [ix0, neS k3]) (by
     rw [W0 (by simp_arith [ix0, neS k6]), W0 (by simp_arith [ix0, neS k9]), Aq (by simp_arith [ix0, Rf])]
     simp_arith [dIdx3, dIdx4, ix0])
   have hh := fin hraw o3 hq; refine ⟨ps, Lp _ _ _, ok, nm, l, fun q hq => .inr (hh q hq), ?_⟩
   . have key : ∀ q, q ∈ ps ↔ hit s1 q \/ hit s2 q := fun q => by
       rw [hq]
       constructor
       . rintro ⟨n, hn⟩
         rcases List.mem_cons.mp (o3 _ hn) with h | h
         . exact .inl ⟨n, h.symm⟩
         . exact .inr ⟨n, (List.mem_singleton.mp h).symm⟩
       . rintro (⟨n, rfl⟩ | ⟨n, rfl⟩)
         . exact ⟨n, o2 _ (.head _) ⟨_, _, rfl⟩⟩
         . exact ⟨n, o2 _ (.tail _ (.head _)) ⟨_, _, rfl⟩⟩
     have one : ∀ (s : PyData) (x : Str), Tf s -> ∃ ids : List IdP, ids.length <= 1 /\ (∀ q, q ∈ ids ↔ hit s q) /\ ∀ (r : List PyData) (ys : List PyData), B6 B8 [] (fun δ => ((b2 (A2 0) (vC (.int 0)) dIx) δ).bind fun d => .ok (!N0 d)) (b2 (b2 (A2 0) (vC (.int 0)) dIx) (vC (.int 0)) dIx) r = .ok ys ->
         B6 B8 [] (fun δ => ((b2 (A2 0) (vC (.int 0)) dIx) δ).bind fun d => .ok (!N0 d)) (b2 (b2 (A2 0) (vC (.int 0)) dIx) (vC (.int 0)) dIx) (.tuple [s, .str x] :: r) = .ok (ids.map idP ++ ys) := fun s x hs => by
       rcases hs with rfl | hs
       . refine ⟨[], by simp, fun q => by simp [Ph], fun r ys e => ?_⟩
         unfold B6; have t1 : (fun δ => ((b2 (A2 0) (vC (.int 0)) dIx) δ).bind fun d => Res.ok (!N0 d)) ([Sl.sh (.tuple [.none, .str x])] ++ []) = .ok false := by simp_arith [ix0, N0, Bool.not_true]
         rw [show B8 (.tuple [.none, .str x]) = .ok [.sh (.tuple [.none, .str x])] from rfl]
         simp only [t1, e]; rfl
       . obtain ⟨p0, n, rfl⟩ := hs.p
         refine ⟨[p0], by simp, fun q => by rw [Zz]; simp [eq_comm], fun r ys e => ?_⟩
         unfold B6; have t1 : (fun δ => ((b2 (A2 0) (vC (.int 0)) dIx) δ).bind fun d => Res.ok (!N0 d)) ([Sl.sh (.tuple [.tuple [idP p0, .int n], .str x])] ++ []) = .ok true := by simp_arith [ix0, N0, Bool.not_false]
         have t2 : (b2 (b2 (A2 0) (vC (.int 0)) dIx) (vC (.int 0)) dIx) ([Sl.sh (.tuple [.tuple [idP p0, .int n], .str x])] ++ []) = .ok (idP p0) := by simp_arith [ix0]
         rw [show B8 (.tuple [.tuple [idP p0, .int n], .str x]) = .ok [.sh (.tuple [.tuple [idP p0, .int n], .str x])] from rfl]
         simp only [t1, t2, e]; rfl
     obtain ⟨i1, l1, m1, c1⟩ := one s1 x1 (toN hs1); obtain ⟨i2, l2, m2, c2⟩ := one s2 x2 (toN hs2); refine ⟨i1 ++ i2, ?_, by rw [List.length_append]; omega, fun q => by rw [List.mem_append, m1, m2, key q]⟩
     refine X3 ?_; unfold K7 K1 K0 J3 J2 E5; simp only [D7, List.map_cons, List.map_nil, List.length_cons, List.length_nil, List.replicate, List.cons_append, List.nil_append, Nat.reduceAdd, Nat.reduceSub]; rw [G8 (by simp_arith [ix0, neS k3]), G8 (by simp_arith [ix0, neS k6]), G8 (by simp_arith [ix0, neS k9])]
     refine O6 ?_; have hc : Rk (.tuple [.str "mark", idP p, .str nme, .tuple [s1, .str x1], .tuple [s2, .str x2]]) (some 3) none = some (.tuple [.tuple [s1, .str x1], .tuple [s2, .str x2]]) := rfl; refine M5 (F7 (K4 (d := .tuple [.tuple [s1, .str x1], .tuple [s2, .str x2]]) (by simp_arith [hc]) rfl) (by simp) rfl ?_)
     have := c1 _ _ (c2 [] [] rfl); rw [List.append_nil] at this; rw [List.map_append]; exact this
 . obtain ⟨out, ps, l, o1, o2, o3, nm, sn, hq⟩ := Di hS' (d := .tuple [.str "unmark", idP p, .str nme]) (raw := []) (fun s hs => nomatch hs) (by simp) (by simp_arith [ix0, neS k4]) (by
     rw [W0 (by simp_arith [ix0, neS k7]), W0 (by simp_arith [ix0, neS k10]), W0 (by simp_arith [ix0, neS k12])]; rfl)
   have hh := fin (raw := []) (fun s hs => nomatch hs) o3 hq
   refine ⟨ps, Lp _ _ _, ok, nm, l, fun q hq => .inr (hh q hq), ?_⟩
   . have key : ∀ q, ¬ q ∈ ps := fun q => by
       rw [hq]
       rintro ⟨n, hn⟩; exact nomatch (o3 _ hn)
     refine ⟨[], ?_, by simp, fun q => by simp [key q]⟩
     refine X3 ?_; unfold K7 K1 K0 J3 J2 E5; simp only [D7, List.map_cons, List.map_nil, List.length_cons, List.length_nil, List.replicate, List.cons_append, List.nil_append, Nat.reduceAdd, Nat.reduceSub]; rw [G8 (by simp_arith [ix0, neS k4]), G8 (by simp_arith [ix0, neS k7]), G8 (by simp_arith [ix0, neS k10])]
     refine O6 ?_; have hc : Rk (.tuple [.str "unmark", idP p, .str nme]) (some 3) none = some (.tuple []) := rfl; exact M5 (F7 (ds := []) (K4 (d := .tuple []) (by simp_arith [hc]) rfl) (by simp) rfl rfl)
 . have nm : C3 [.tuple [.str "undo", idP p, idP i]] = .ok (.list ([i].map idP)) := by
     refine X3 ?_; unfold P6 P5; simp only [D7, List.map_cons, List.map_nil, List.length_cons, List.length_nil, List.replicate, List.cons_append, List.nil_append, Nat.reduceAdd, Nat.reduceSub]; refine Dc ((Aq (by simp_arith [ix0, Rf])).trans (O6 ?_))
     simp_arith [Jl]
   have one : ∀ q ∈ [i], U q := fun q hq => by rw [List.mem_singleton.mp hq]; exact hi
   refine ⟨[i], Lp _ _ _, ok, nm, by simp, fun q hq => .inl (one q hq), [i], ?_, by simp, fun q => Iff.rfl⟩
   . refine X3 ?_
     unfold K7 K1 K0 J3 J2 E5; simp only [D7, List.map_cons, List.map_nil, List.length_cons, List.length_nil, List.replicate, List.cons_append, List.nil_append, Nat.reduceAdd, Nat.reduceSub]; refine Dc ((Aq (by simp_arith [ix0, Rf])).trans (O6 ?_))
     simp_arith [Jl]
noncomputable def kkP (p : IdP) : List Key := [.inl p.1, .inr p.2]
theorem O1 (q : IdP) : P0 (idP q) = some (kkP q) := rfl
theorem Nh {p q : IdP} : kkP p = kkP q ↔ p = q := by
 constructor
 . intro h; simp only [kkP, List.cons.injEq, Sum.inl.injEq, Sum.inr.injEq, and_true] at h; exact Prod.ext h.1 h.2
 . rintro rfl; rfl
theorem Je (k kk : List Key) (v : PyData) (r : List (PyData × PyData)) : M2 ((.tuple (k.map M4), v) :: r) kk = if k = kk then some v else M2 r kk := by
 unfold M2
 rw [List.find?_cons]
 simp only [T0]
 by_cases h : k = kk
 . simp [h]
 . simp [h]
noncomputable def Q4 (ks : List IdP) : List (PyData × PyData) := ks.map fun q => (idP q, PyData.bool true)
theorem aC (ks : List IdP) (q : IdP) : (M2 (Q4 ks) (kkP q)).isSome = decide (q ∈ ks) := by
 induction ks with
 | nil => rfl
 | cons k ks ih =>
   unfold M2 Q4 at ih ⊢
   rw [List.map_cons, List.find?_cons]
   by_cases h : k = q
   . subst h
     simp [O1]
   . have : decide (kkP k = kkP q) = false := by simp [Nh, h]
     simp only [O1, this]; rw [ih]; simp [Ne.symm h]
theorem gL (ks : List IdP) (q : IdP) : ∃ ks', Ar (Q4 ks) (kkP q) (.bool true) = Q4 ks' /\ (∀ x, x ∈ ks' ↔ x ∈ ks \/ x = q) /\ ks'.length <= ks.length + 1 := by
 unfold Ar
 rw [aC]
 by_cases h : q ∈ ks
 . refine ⟨ks, ?_, fun x => ⟨.inl, fun z => z.elim id fun e => e ▸ h⟩, by omega⟩
   rw [decide_eq_true h, if_pos rfl]; unfold Q4; rw [List.map_map]; refine List.map_congr_left fun x _ => ?_
   simp only [Function.comp]
   split <;> rfl
 . refine ⟨ks ++ [q], ?_, fun x => by simp, by simp⟩
   rw [decide_eq_false h, if_neg (by decide)]; unfold Q4; simp only [List.map_append, List.map_cons, List.map_nil]; rfl
noncomputable def kvG (xs : List (IdP × PyData)) : List (PyData × PyData) := xs.map fun x => (idP x.1, x.2)
theorem Gq (q : IdP) : ∀ xs : List (IdP × PyData), M2 (kvG xs) (kkP q) = (xs.find? fun x => decide (x.1 = q)).map (·.2)
 | [] => rfl
 | x :: xs => by
   have h1 : kvG (x :: xs) = (.tuple ((kkP x.1).map M4), x.2) :: kvG xs := rfl; rw [h1, Je, Gq q xs, List.find?_cons]
   by_cases h : x.1 = q
   . rw [if_pos (Nh.mpr h), decide_eq_true h]; rfl
   . rw [if_neg (fun z => h (Nh.mp z)), decide_eq_false h]
theorem Lj (q : IdP) (xs : List (IdP × PyData)) : (M2 (kvG xs) (kkP q)).isSome = decide (q ∈ xs.map (·.1)) := by
 rw [Gq, Option.isSome_map, Bool.eq_iff_iff, List.find?_isSome]
 simp only [decide_eq_true_eq, List.mem_map]
theorem Sr (xs : List (IdP × PyData)) (p : IdP) (v : PyData) (h : p ∉ xs.map (·.1)) : Ar (kvG xs) (kkP p) v = kvG (xs ++ [(p, v)]) := by
 unfold Ar
 rw [Lj, decide_eq_false h, if_neg (by decide)]
 unfold kvG
 rw [List.map_append]
 rfl
abbrev Ent := PyData × IdP × List IdP
structure DB (d : PyData) (p : IdP) (ps : List IdP) : Prop where
 id : dIx d (.int 1) = some (idP p)
 ok : okI p
 nm : C3 [d] = .ok (.list (ps.map idP))
 len : ps.length <= 40
 ln : ∃ ps' : List IdP, C7 [d] = .ok (.list (ps'.map idP)) /\ ps'.length <= 40 /\ ∀ q, q ∈ ps' ↔ q ∈ ps
abbrev Bk (L : List Ent) : Prop := ∀ e ∈ L, DB e.1 e.2.1 e.2.2
structure Book (L : List Ent) : Prop where
 bk : Bk L
 up : L.Pairwise fun a b => key a.2.1 < key b.2.1
 len : L.length <= 9
 cl : ∀ e ∈ L, ∀ q ∈ e.2.2, (∃ e' ∈ L, e'.2.1 = q) /\ key q < key e.2.1
theorem uniq {L : List Ent} (up : L.Pairwise fun a b => key a.2.1 < key b.2.1) {e e' : Ent} (h : e ∈ L) (h' : e' ∈ L) (hk : e.2.1 = e'.2.1) : e = e' := by
 induction L with
 | nil => exact nomatch h
 | cons a L ih =>
   rw [List.pairwise_cons] at up; rcases List.mem_cons.mp h with rfl | h1
   . rcases List.mem_cons.mp h' with rfl | h2
     . rfl
     . have := up.1 e' h2; rw [hk] at this; omega
   . rcases List.mem_cons.mp h' with rfl | h2
     . have := up.1 e h1; rw [hk] at this; omega
     . exact ih up.2 h1 h2
theorem Tz {L0 : List Dp} (hB : BkW L0) : ∀ (M : List Dp), (∀ e ∈ M, e ∈ L0) -> ∃ L : List Ent, L.map (fun e => (e.1, e.2.1)) = M /\ ∀ e ∈ L, DK (SgOf e.2.1.1 (L0.map (·.1))) (fun q => (∃ e' ∈ L0, e'.2 = q) /\ q.1 < e.2.1.1) e.1 e.2.1 e.2.2
 | [], _ => ⟨[], rfl, fun _ h => nomatch h⟩
 | d :: ds, h => by
   obtain ⟨ps, k⟩ := dk_of (fun x hx => by obtain ⟨p, b, w, n, _, e, _, _, o⟩ := hx; exact ⟨p, n, e, o, by omega⟩) (hB.1 d (h d (.head _))) (fun q n hs => by
     obtain ⟨p, b, w, m, _, e, _, ht, _⟩ := hs; simp only [sgD, idP, idD, PyData.tuple.injEq, List.cons.injEq, PyData.int.injEq, PyData.str.injEq, and_true] at e; rw [e.1.1]; exact ht) (fun q ⟨⟨e', m, hq⟩, hl⟩ => ⟨hl, by rw [<- hq]; exact (hB.1 e' m).1⟩)
   obtain ⟨L, e, hL⟩ := Tz hB ds fun x hx => h x (.tail _ hx)
   exact ⟨(d.1, d.2, ps) :: L, by simp [e], fun x hx => by
     rcases List.mem_cons.mp hx with rfl | hx
     . exact k
     . exact hL x hx⟩
theorem Zv {p q : IdP} (h : q.1 < p.1) : key q < key p := by
 have := Th q.2
 unfold key; omega
theorem Wm (ns : List Int) (hns : ns.length <= 63) (x y z : Str) (hxyz : W1 x /\ W1 y /\ W1 z) : ∃ L, Q0 [scr ns, .int 10, .int 9, .list [.str x, .str y, .str z]] = .ok (.tuple (L.map (·.1))) /\ Book L := by
 obtain ⟨L0, e, hl, hB⟩ := eD ns hns x y z hxyz
 obtain ⟨L, eL, hL⟩ := Tz hB L0 fun _ h => h
 have e1 : L0.map (·.1) = L.map (·.1) := by rw [<- eL, List.map_map]; rfl
 have fromD : ∀ x ∈ L0, ∃ e ∈ L, e.1 = x.1 /\ e.2.1 = x.2 := fun x hx => by
   rw [<- eL] at hx; obtain ⟨e, he, rfl⟩ := List.mem_map.mp hx; exact ⟨e, he, rfl, rfl⟩
 have sgE : ∀ {T : Int} {q : IdP} {n : Int}, SgOf T (L0.map (·.1)) (sgD q n) -> ∃ e' ∈ L, e'.2.1 = q /\ q.1 < T /\ True := fun {T q n} hs => by
   obtain ⟨p, b, w, k, hm, e, hk, ht, _⟩ := hs; simp only [sgD, idP, idD, PyData.tuple.injEq, List.cons.injEq, PyData.int.injEq, PyData.str.injEq, and_true] at e; obtain ⟨⟨i1, i2⟩, i3⟩ := e; have ep : q = p := Prod.ext i1 i2; subst ep; obtain ⟨x0, hx0, ex0⟩ := List.mem_map.mp hm; obtain ⟨e', he', f1, f2⟩ := fromD x0 hx0; have hid := (hL e' he').id; rw [f1, ex0, Lp] at hid; simp only [idP, idD, Option.some.injEq, PyData.tuple.injEq, List.cons.injEq, PyData.int.injEq, PyData.str.injEq, and_true] at hid; exact ⟨e', he', (Prod.ext hid.1 hid.2).symm, ht, trivial⟩
 refine ⟨L, by rw [e, e1], ⟨fun e he => ⟨(hL e he).id, (hL e he).ok, (hL e he).nm, (hL e he).len, (hL e he).ln⟩, ?_, by rw [<- eL, List.length_map] at hl; exact hl, fun e he q hq => ?_⟩⟩
 . have := hB.2
   unfold Upk at this; rw [<- eL, List.pairwise_map] at this; exact this
 . rcases (hL e he).nmd q hq with ⟨⟨x0, hx0, ex0⟩, hlt⟩ | ⟨n, hs⟩
   . obtain ⟨e', he', f1, f2⟩ := fromD x0 hx0
     exact ⟨⟨e', he', f2.trans ex0⟩, Zv hlt⟩
   . obtain ⟨e', he', f1, f2, _⟩ := sgE hs
     exact ⟨⟨e', he', f1⟩, Zv f2⟩
theorem Jp {δc : Dn} : ∀ L : List Ent, Bk L -> B6 B8 δc F8 (b2 (A2 0) (vC (.int 1)) dIx) (L.map (·.1)) = .ok ((L.map (·.2.1)).map idP)
 | [], _ => rfl
 | p :: ps, h => by
   have v : (b2 (A2 0) (vC (.int 1)) dIx) ([.sh p.1] ++ δc) = .ok (idP p.2.1) := by simp_arith [(h p (.head _)).id]
   have ih := Jp (δc := δc) ps fun e he => h e (.tail _ he)
   rw [List.map_cons]; unfold B6; simp only [B8, F8, v, ih, List.map_cons]
theorem sLt {n : Nat} (h : n < 1000) : n < sizeLine := Nat.lt_of_lt_of_le h Hg
theorem eG (q : IdP) (ids : List IdP) : ((ids.map idP).any fun y => PyData.eqv y (idP q)) = decide (q ∈ ids) := by
 induction ids with
 | nil => rfl
 | cons i ids ih =>
   rw [List.map_cons, List.any_cons, ih, Pl]; rw [Bool.eq_iff_iff]; simp only [Bool.or_eq_true, decide_eq_true_eq, List.mem_cons]; exact ⟨fun h => h.elim (fun z => .inl z.symm) .inr, fun h => h.elim (fun z => .inl z.symm) .inr⟩
theorem Lc (q : IdP) (ids : List IdP) : dIn true (idP q) (.list (ids.map idP)) = some (.bool (!decide (q ∈ ids))) := by
 show (if _ then _ else _) = _
 rw [if_pos (Nat.le_trans (Nat.min_le_right _ _) (Nat.le_trans (Nr q) (by decide))), eG]
 rfl
abbrev C5 (K : List Ent) : List IdP := K.map (·.2.1)
abbrev D3 (L : List Ent) : PyData := .tuple (L.map (·.1))
theorem Kw {L : List Ent} (hB : Book L) {q : IdP} (hq : q ∈ C5 L) : B2 [D3 L, idP q] = .ok .none := by
 have hl := hB.len
 unfold B2 K5 I9
 rw [Z0]
 simp only [D7, List.map_cons, List.map_nil, List.length_cons, List.length_nil, List.replicate, List.cons_append, List.nil_append, Nat.reduceAdd, Nat.reduceSub]
 rw [W0 (O2 (b := false) (M3 rfl (M5 (F7 (K4 (d := .tuple (L.map (·.1))) rfl rfl) (by simp; omega) rfl (Jp L hB.bk))) (by rw [Lc, decide_eq_true hq]; rfl)))]
 rfl
noncomputable def kvE (L : List Ent) : List (IdP × PyData) := L.map fun e => (e.2.1, e.1)
theorem Su : ∀ (R M : List Ent), (M ++ R).Pairwise (fun a b => key a.2.1 < key b.2.1) -> Ai (R.map fun e => PyData.tuple [idP e.2.1, e.1]) (kvG (kvE M)) = some (kvG (kvE (M ++ R)))
 | [], M, _ => by simp [Ai]
 | e :: R, M, up => by
   have hn : e.2.1 ∉ (kvE M).map (·.1) := fun h => by
     unfold kvE at h; rw [List.map_map] at h; obtain ⟨e', he', h'⟩ := List.mem_map.mp h; have := (List.pairwise_append.mp up).2.2 e' he' e (.head _); simp only [Function.comp] at h'; rw [h'] at this; omega
   have := Su R (M ++ [e]) (by rw [List.append_assoc]; exact up)
   rw [List.map_cons]; unfold Ai; simp only [O1]; rw [Sr _ _ _ hn]; have e2 : kvE M ++ [(e.2.1, e.1)] = kvE (M ++ [e]) := by unfold kvE; rw [List.map_append]; rfl
   rw [e2, this, List.append_assoc]; rfl
theorem get_E {L : List Ent} (hB : Book L) {e : Ent} (he : e ∈ L) : M2 (kvG (kvE L)) (kkP e.2.1) = some e.1 := by
 rw [Gq]
 have : ((kvE L).find? fun x => decide (x.1 = e.2.1)) = some (e.2.1, e.1) := by
   have hs : ((kvE L).find? fun x => decide (x.1 = e.2.1)).isSome := by
     rw [List.find?_isSome]; exact ⟨(e.2.1, e.1), List.mem_map.mpr ⟨e, he, rfl⟩, by simp⟩
   obtain ⟨x, hx⟩ := Option.isSome_iff_exists.mp hs; have hx0 := List.find?_some hx; have hx1 : x.1 = e.2.1 := of_decide_eq_true hx0; obtain ⟨e', he', h'⟩ := List.mem_map.mp (List.mem_of_find?_eq_some hx); rw [hx, <- h']; rw [<- h'] at hx1; rw [uniq hB.up he' he hx1]
 rw [this]; rfl
noncomputable def mxD (is : List Int) : Int := match Ra is with | some m => m | none => 0
theorem Q7 : ∀ (r : List Int) (i : Int), i <= r.foldl max i /\ (∀ x ∈ r, x <= r.foldl max i) /\ (r.foldl max i = i \/ r.foldl max i ∈ r)
 | [], i => ⟨Int.le_refl _, (fun _ h => nomatch h), .inl rfl⟩
 | y :: r, i => by
   obtain ⟨h1, h2, h3⟩ := Q7 r (max i y); rw [List.foldl_cons]; refine ⟨Int.le_trans (Int.le_max_left _ _) h1, fun x hx => ?_, ?_⟩
   . rcases List.mem_cons.mp hx with rfl | hx
     . exact Int.le_trans (Int.le_max_right _ _) h1
     . exact h2 x hx
   . rcases h3 with h | h
     . rw [h]
       by_cases hc : i <= y
       . exact .inr (by rw [Int.max_eq_right hc]; exact .head _)
       . exact .inl (Int.max_eq_left (by omega))
     . exact .inr (.tail _ h)
theorem Zk {is : List Int} {x : Int} (h : x ∈ is) : x <= mxD is := by
 cases is with
 | nil => exact nomatch h
 | cons i r =>
   obtain ⟨h1, h2, _⟩ := Q7 r i; rcases List.mem_cons.mp h with rfl | h
   . exact h1
   . exact h2 x h
theorem Tc {is : List Int} (h : is ≠ []) : mxD is ∈ is := by
 cases is with
 | nil => exact absurd rfl h
 | cons i r =>
   obtain ⟨_, _, h3⟩ := Q7 r i; rcases h3 with h | h
   . exact List.mem_cons.mpr (.inl h)
   . exact .tail _ h
noncomputable def E4 (acc : List (IdP × Int)) (q : IdP) : Int := ((acc.find? fun x => decide (x.1 = q)).map (·.2)).getD 0
noncomputable def kvI (acc : List (IdP × Int)) : List (PyData × PyData) := kvG (acc.map fun x => (x.1, PyData.int x.2))
noncomputable def Z4 : List Ent -> List (IdP × Int) -> List (IdP × Int)
 | [], acc => acc
 | e :: r, acc => Z4 r (acc ++ [(e.2.1, mxD (e.2.2.map fun q => E4 acc q + 1))])
theorem Bo {acc : List (IdP × Int)} {q : IdP} (h : q ∈ acc.map (·.1)) : M2 (kvI acc) (kkP q) = some (.int (E4 acc q)) := by
 unfold kvI E4
 rw [Gq, List.find?_map]
 have hs : (acc.find? fun x => decide (x.1 = q)).isSome := by
   rw [List.find?_isSome]; obtain ⟨x, hx, e⟩ := List.mem_map.mp h; exact ⟨x, hx, by simp [e]⟩
 obtain ⟨x, hx⟩ := Option.isSome_iff_exists.mp hs
 have : acc.find? ((fun x : IdP × PyData => decide (x.1 = q)) ∘ fun x : IdP × Int => (x.1, PyData.int x.2)) = some x := hx
 rw [this, hx]; rfl
theorem Sq (acc : List (IdP × Int)) (p : IdP) (v : Int) (h : p ∉ acc.map (·.1)) : Ar (kvI acc) (kkP p) (.int v) = kvI (acc ++ [(p, v)]) := by
 unfold kvI
 rw [Sr _ _ _ (by rw [List.map_map]; exact h), List.map_append]; rfl
theorem Ey {acc : List (IdP × Int)} {p q : IdP} {v : Int} (h : q ≠ p) : E4 (acc ++ [(p, v)]) q = E4 acc q := by
 unfold E4
 rw [List.find?_append]
 have : ([(p, v)].find? fun x => decide (x.1 = q)) = none := by simp [Ne.symm h]
 rw [this, Option.or_none]
theorem Zp {acc : List (IdP × Int)} {p : IdP} {v : Int} (h : p ∉ acc.map (·.1)) : E4 (acc ++ [(p, v)]) p = v := by
 unfold E4
 rw [List.find?_append]
 have : (acc.find? fun x => decide (x.1 = p)) = none := by
   rw [List.find?_eq_none]; intro x hx z; exact h (List.mem_map.mpr ⟨x, hx, by simpa using z⟩)
 rw [this]; simp
theorem Book.ahead {M R : List Ent} {e : Ent} (hB : Book (M ++ e :: R)) {q : IdP} (hq : q ∈ e.2.2) : q ∈ C5 M := by
 obtain ⟨⟨e', he', h'⟩, k⟩ := hB.cl e (List.mem_append_right _ (.head _)) q hq
 rcases List.mem_append.mp he' with z | z
 . exact List.mem_map.mpr ⟨e', z, h'⟩
 . rcases List.mem_cons.mp z with rfl | z
   . rw [h'] at k; omega
   . have := (List.pairwise_cons.mp (List.pairwise_append.mp hB.up).2.1).1 e' z
     rw [h'] at this; omega
theorem Book.fresh {M R : List Ent} {e : Ent} (hB : Book (M ++ e :: R)) : e.2.1 ∉ C5 M := fun h => by
 obtain ⟨e', he', h'⟩ := List.mem_map.mp h
 have := (List.pairwise_append.mp hB.up).2.2 e' he' e (.head _)
 rw [h'] at this; omega
noncomputable def Ud : Dn -> Out := (Ek 1 (b2 (A2 2) (vC (.int 1)) dIx) (b1 (D2 (E6 (fun δ => ((B7 (A0 (A2 2) A7) C3) δ).bind E8) B8 [1] F8 (b2 (Q1 1 (A2 0)) (vC (.int 1)) C2))) (Fp 0)))
theorem Dl {α : Type} (f : α -> Int) : ∀ is : List α, Q5 (is.map fun i => PyData.int (f i)) = some (is.map f)
 | [] => rfl
 | i :: r => by show (Q5 (r.map fun i => PyData.int (f i))).map _ = _; rw [Dl f r]; rfl
theorem Po (B : PyData) : ∀ (R M : List Ent) (acc : List (IdP × Int)) (s2 : Sl), Book (M ++ R) -> acc.map (·.1) = C5 M -> ∃ s2', G6 (st1 2) Ud (R.map (·.1)) [.sh B, .ow (.dict (kvI acc)), s2] = .nx [.sh B, .ow (.dict (kvI (Z4 R acc))), s2']
 | [], M, acc, s2, _, _ => ⟨s2, rfl⟩
 | e :: R, M, acc, s2, hB, hk => by
   have k := hB.bk e (List.mem_append_right _ (.head _)); have hB' : Book ((M ++ [e]) ++ R) := by rw [List.append_assoc]; exact hB
   have hml : M.length <= 9 := by have := hB.len; rw [List.length_append] at this; omega
   have hal : acc.length <= 9 := by have := congrArg List.length hk; rw [List.length_map, List.length_map] at this; omega
   obtain ⟨s2', ih⟩ := Po B R (M ++ [e]) (acc ++ [(e.2.1, mxD (e.2.2.map fun q => E4 acc q + 1))]) (.sh e.1) hB' (by rw [List.map_append, hk]; show _ = List.map (·.2.1) (M ++ [e]); rw [List.map_append]; rfl)
   refine ⟨s2', ?_⟩; have hc := Jn (δc := [.ow (.dict (kvI acc))]) (el := b2 (Q1 1 (A2 0)) (vC (.int 1)) C2) (fun q => PyData.int (E4 acc q + 1)) e.2.2 fun q hq => by
     have hm : q ∈ acc.map (·.1) := by rw [hk]; exact hB.ahead hq
     refine M3 (x := .int (E4 acc q)) (y := .int 1) ?_ rfl Z8; unfold Q1; simp only [List.cons_append, List.nil_append, List.getElem?_cons_zero, List.getElem?_cons_succ]; rw [show A2 0 [.sh (idP q), .ow (.dict (kvI acc))] = .ok (idP q) from rfl, C4]
     simp only [O1]; rw [Bo hm]; rfl
   have hv : (b1 (D2 (E6 (fun δ => ((B7 (A0 (A2 2) A7) C3) δ).bind E8) B8 [1] F8 (b2 (Q1 1 (A2 0)) (vC (.int 1)) C2))) (Fp 0)) [.sh B, .ow (.dict (kvI acc)), .sh e.1] = .ok (.int (mxD (e.2.2.map fun q => E4 acc q + 1))) := by
     unfold b1; rw [M5 (F7 (δc := [.ow (.dict (kvI acc))]) (K4 (F5 (B1 rfl rfl) k.nm) rfl) (by rw [List.length_map]; have := k.len; omega) rfl hc), C4]
     show ofO ((Q5 _).map _) = _
     rw [Dl]; rfl
   have hid : (b2 (A2 2) (vC (.int 1)) dIx) [.sh B, .ow (.dict (kvI acc)), .sh e.1] = .ok (idP e.2.1) := M3 rfl rfl k.id; have hb : Ud [.sh B, .ow (.dict (kvI acc)), .sh e.1] = .nx [.sh B, .ow (.dict (kvI (acc ++ [(e.2.1, mxD (e.2.2.map fun q => E4 acc q + 1))]))), .sh e.1] := by
     unfold Ud Ek; simp only [List.getElem?_cons_zero, List.getElem?_cons_succ]; rw [hv, M7, hid, M7]; simp only [O1]; rw [if_pos (sLt (by unfold kvI kvG; rw [List.length_map, List.length_map]; omega)), Sq _ _ _ (by rw [hk]; exact hB.fresh)]
     rfl
   rw [List.map_cons]; unfold G6; simp only [st1, List.set_cons_zero, List.set_cons_succ]; rw [hb]; exact ih
theorem W9 {src : Dn -> Res (List PyData)} {st : PyData -> Dn -> Option Dn} {b : Dn -> Out} {δ : Dn} {ds : List PyData} {o : Out} (h : src δ = .ok ds) (e : G6 st b ds δ = o) : T7 src st b δ = o := by
 unfold T7; rw [h, M7, e]
noncomputable def dp (L : List Ent) : IdP -> Int := E4 (Z4 L [])
theorem Ll {L : List Ent} (hB : Book L) : O3 [D3 L] = .ok (kvI (Z4 L [])) := by
 obtain ⟨s2, e⟩ := Po (D3 L) L [] [] .un hB rfl
 unfold O3 fnW Y1 Wt
 rw [show Si 1 (D7 X4 [D3 L]) = .nx [.sh (D3 L), .ow (.dict (kvI [])), .un] from rfl]
 simp only
 have := W9 (src := fun δ => ((A2 0) δ).bind E8) (K4 (d := D3 L) rfl rfl) e
 unfold Ud at this
 rw [this]
 rfl
def Dep (L : List Ent) (D : IdP -> Int) : Prop := ∀ e ∈ L, D e.2.1 = mxD (e.2.2.map fun q => D q + 1)
theorem Nt : ∀ (R M : List Ent) (acc : List (IdP × Int)), Book (M ++ R) -> acc.map (·.1) = C5 M -> Dep M (E4 acc) -> (Z4 R acc).map (·.1) = C5 (M ++ R) /\ Dep (M ++ R) (E4 (Z4 R acc))
 | [], M, acc, _, hk, hd => by rw [List.append_nil]; exact ⟨hk, hd⟩
 | e :: R, M, acc, hB, hk, hd => by
   have hB' : Book ((M ++ [e]) ++ R) := by rw [List.append_assoc]; exact hB
   have hf : e.2.1 ∉ acc.map (·.1) := by rw [hk]; exact hB.fresh
   have ih := Nt R (M ++ [e]) (acc ++ [(e.2.1, mxD (e.2.2.map fun q => E4 acc q + 1))]) hB' (by rw [List.map_append, hk]; show _ = List.map (·.2.1) (M ++ [e]); rw [List.map_append]; rfl) (fun e' he' => by
     have hin : e' ∈ M ++ e :: R := (List.mem_append.mp he').elim (List.mem_append_left _) fun z => by rw [List.mem_singleton.mp z]; exact List.mem_append_right _ (.head _)
     have hle : key e'.2.1 <= key e.2.1 := (List.mem_append.mp he').elim (fun z => Int.le_of_lt ((List.pairwise_append.mp hB.up).2.2 e' z e (.head _))) fun z => by rw [List.mem_singleton.mp z]; exact Int.le_refl _
     have hq : ∀ q ∈ e'.2.2, q ≠ e.2.1 := fun q hq z => by
       have := (hB.cl e' hin q hq).2; rw [z] at this; omega
     have hr : (e'.2.2.map fun q => E4 (acc ++ [(e.2.1, mxD (e.2.2.map fun q => E4 acc q + 1))]) q + 1) = e'.2.2.map fun q => E4 acc q + 1 := List.map_congr_left fun q h => by rw [Ey (hq q h)]
     rw [hr]; rcases List.mem_append.mp he' with z | z
     . rw [Ey (fun w => by have := (List.pairwise_append.mp hB.up).2.2 e' z e (.head _); rw [w] at this; omega)]
       exact hd e' z
     . rw [List.mem_singleton.mp z, Zp hf])
   rw [List.append_assoc] at ih; exact ih
theorem Dq {L : List Ent} (hB : Book L) : (Z4 L []).map (·.1) = C5 L := (Nt L [] [] hB rfl fun _ h => nomatch h).1
theorem Fe {L : List Ent} (hB : Book L) : Dep L (dp L) := (Nt L [] [] hB rfl fun _ h => nomatch h).2
theorem Cn {L : List Ent} {q : IdP} (h : q ∈ C5 L) : ∃ e ∈ L, e.2.1 = q := List.mem_map.mp h
theorem aI {L : List Ent} (hB : Book L) {q : IdP} (hq : q ∈ C5 L) : Q3 [D3 L, idP q] = .ok (.int (dp L q)) := by
 refine X3 ?_
 unfold Ej
 have h1 : Mo (B7 (A0 (A2 0) (A0 (A2 1) A7)) B2) (D7 Bq [D3 L, idP q]) = .nx (D7 Bq [D3 L, idP q]) := by
   unfold Mo; rw [F5 (B1 rfl (B1 rfl rfl)) (Kw hB hq)]; rfl
 rw [C8 h1]
 refine O6 ?_
 unfold Wv Qf
 rw [B1 (d := D3 L) (ds := []) rfl rfl, C4, Ll hB, show noXK (Res.ok (kvI (Z4 L []))) = .ok (kvI (Z4 L [])) from rfl, C4, show A2 1 (D7 Bq [D3 L, idP q]) = .ok (idP q) from rfl, C4]
 simp only [O1]
 rw [Bo (by rw [Dq hB]; exact hq)]; rfl
theorem Rh {L : List Ent} {D : IdP -> Int} (h : Dep L D) {e : Ent} (he : e ∈ L) {q : IdP} (hq : q ∈ e.2.2) : D q + 1 <= D e.2.1 := by
 rw [h e he]; exact Zk (List.mem_map.mpr ⟨q, hq, rfl⟩)
theorem Jh {L : List Ent} {D : IdP -> Int} (h : Dep L D) {e : Ent} (he : e ∈ L) (hq : e.2.2 = []) : D e.2.1 = 0 := by
 rw [h e he, hq]; rfl
theorem Nu {L : List Ent} {D : IdP -> Int} (h : Dep L D) {e : Ent} (he : e ∈ L) (hq : e.2.2 ≠ []) : ∃ q ∈ e.2.2, D e.2.1 = D q + 1 := by
 have := Tc (is := e.2.2.map fun q => D q + 1) (by simpa using hq)
 rw [<- h e he] at this
 obtain ⟨q, hq, e⟩ := List.mem_map.mp this
 exact ⟨q, hq, e.symm⟩
theorem Book.byKey {L : List Ent} (hB : Book L) {P : IdP -> Prop} (h : ∀ e ∈ L, (∀ q ∈ e.2.2, P q) -> P e.2.1) : ∀ e ∈ L, P e.2.1 := by
 have : ∀ n : Nat, ∀ e ∈ L, key e.2.1 <= (n : Int) -> P e.2.1 := fun n => by
   induction n with
   | zero =>
     intro e he hk; have := (hB.bk e he).ok.1; unfold key at hk; omega
   | succ n ih =>
     intro e he hk; refine h e he fun q hq => ?_
     obtain ⟨⟨e', he', rfl⟩, k⟩ := hB.cl e he q hq; exact ih e' he' (by omega)
 intro e he
 exact this (key e.2.1).toNat e he (by omega)
theorem Rg {L : List Ent} (hB : Book L) {D : IdP -> Int} (h : Dep L D) : ∀ e ∈ L, 0 <= D e.2.1 :=
 hB.byKey (P := fun p => 0 <= D p) fun e he ih => by
   by_cases hq : e.2.2 = []
   . rw [Jh h he hq]; exact Int.le_refl _
   . obtain ⟨q, hq, e1⟩ := Nu h he hq
     have := ih q hq; omega
noncomputable def Op (D : IdP -> Int) (n : Nat) (P : List IdP) : List (List IdP) := (List.range n).map fun j : Nat => P.filter fun q => decide (D q = (j : Int))
noncomputable def M1 (D : IdP -> Int) (n : Nat) (P : List IdP) : List (List PyData) := (Op D n P).map fun r => r.map idP
theorem Em (D : IdP -> Int) (n : Nat) (P : List IdP) : (M1 D n P).length = n := by unfold M1 Op; simp
theorem En (D : IdP -> Int) (n : Nat) (P : List IdP) (i : Nat) : (M1 D n P)[i]? = if i < n then some ((P.filter fun q => decide (D q = (i : Int))).map idP) else none := by
 unfold M1 Op
 rw [List.getElem?_map, List.getElem?_map]
 by_cases h : i < n
 . rw [List.getElem?_range h, if_pos h]; rfl
 . rw [List.getElem?_eq_none (by simp; omega), if_neg h]; rfl
theorem bX {D : IdP -> Int} {n : Nat} {P : List IdP} {p : IdP} {j : Nat} (hj : D p = (j : Int)) (hn : j < n) : Ce (M1 D n P) j (idP p) = M1 D n (P ++ [p]) := by
 apply List.ext_getElem?
 intro i
 unfold Ce
 rw [List.getElem?_set, Em, En, En]
 by_cases hi : j = i
 . subst hi
   rw [if_pos rfl, if_pos hn, if_pos hn]
   congr 1
   rw [List.getD_eq_getElem?_getD, En, if_pos hn, Option.getD_some, List.filter_append, List.map_append]
   congr 1
   rw [List.filter_cons_of_pos (by simp [hj])]; rfl
 . rw [if_neg hi]
   by_cases h : i < n
   . rw [if_pos h, if_pos h, List.filter_append]
     rw [List.filter_cons_of_neg (by simp [hj]; omega)]
     simp
   . rw [if_neg h, if_neg h]
theorem Ye {D : IdP -> Int} {n : Nat} {P : List IdP} (h : ∀ q ∈ P, D q < n) : M1 D n P ++ [[]] = M1 D (n + 1) P := by
 unfold M1 Op
 rw [List.range_succ, List.map_append, List.map_append]
 congr 1
 have : P.filter (fun q => decide (D q = (n : Int))) = [] := by
   rw [List.filter_eq_nil_iff]; intro q hq; have := h q hq; simp; omega
 simp [this]
theorem Pc {L : List Ent} {D : IdP -> Int} {kvs : Kvs} (hk : ∀ q ∈ C5 L, M2 kvs (kkP q) = some (.int (D q))) (hD : Dep L D) (hB : Book L) : ∀ (R M : List Ent) (n : Nat), M ++ R = L -> (∀ q ∈ C5 M, 0 <= D q /\ D q < n) -> (∀ j < n, ∃ q ∈ C5 M, D q = (j : Int)) ->
   ∃ n', n' <= n + R.length /\ Ko kvs ((C5 R).map idP) (M1 D n (C5 M)) = some (M1 D n' (C5 L)) /\ (∀ q ∈ C5 L, 0 <= D q /\ D q < n') /\ (∀ j < n', ∃ q ∈ C5 L, D q = (j : Int))
 | [], M, n, hL, h1, h2 => by
   rw [List.append_nil] at hL; subst hL; exact ⟨n, Nat.le_refl _, rfl, h1, h2⟩
 | e :: R, M, n, hL, h1, h2 => by
   have he : e ∈ L := by rw [<- hL]; exact List.mem_append_right _ (.head _)
   have hn := Rg hB hD e he; have hle : D e.2.1 <= n := by
     by_cases hq : e.2.2 = []
     . rw [Jh hD he hq]; omega
     . obtain ⟨q, hq, e1⟩ := Nu hD he hq
       have := h1 q (by subst hL; exact hB.ahead hq)
       omega
   have hg := hk e.2.1 (List.mem_map.mpr ⟨e, he, rfl⟩); have hL' : (M ++ [e]) ++ R = L := by rw [List.append_assoc]; exact hL
   have hids : C5 (M ++ [e]) = C5 M ++ [e.2.1] := by show List.map (·.2.1) (M ++ [e]) = _; rw [List.map_append]; rfl
   have go : ∀ m : Nat, D e.2.1 < m -> (∀ q ∈ C5 M, 0 <= D q /\ D q < m) -> (∀ j < m, j = (D e.2.1).toNat \/ ∃ q ∈ C5 M, D q = (j : Int)) -> m <= n + 1 -> (if D e.2.1 = ((M1 D n (C5 M)).length : Int) then M1 D n (C5 M) ++ [[]] else M1 D n (C5 M)) = M1 D m (C5 M) ->
       ∃ n', n' <= n + (e :: R).length /\ Ko kvs ((C5 (e :: R)).map idP) (M1 D n (C5 M)) = some (M1 D n' (C5 L)) /\ (∀ q ∈ C5 L, 0 <= D q /\ D q < n') /\ (∀ j < n', ∃ q ∈ C5 L, D q = (j : Int)) := fun m hm g1 g2 g3 g4 => by
     obtain ⟨n', i1, i2, i3, i4⟩ := Pc hk hD hB R (M ++ [e]) m hL' (fun q hq => by
       rw [hids] at hq; rcases List.mem_append.mp hq with z | z
       . exact g1 q z
       . rw [List.mem_singleton.mp z]; exact ⟨hn, hm⟩) (fun j hj => by
       rw [hids]; rcases g2 j hj with z | ⟨q, hq, z⟩
       . exact ⟨e.2.1, List.mem_append_right _ (.head _), by omega⟩
       . exact ⟨q, List.mem_append_left _ hq, z⟩)
     refine ⟨n', by simp; omega, ?_, i3, i4⟩
     show Ko kvs (idP e.2.1 :: (C5 R).map idP) _ = _
     have hkey : O4 [.int e.2.1.1, .str e.2.1.2] = some (kkP e.2.1) := rfl; have hat : O9 [.int e.2.1.1, .str e.2.1.2] = true := by rcases (hB.bk e he).ok.2.2 with z | z | z <;> rw [z] <;> kernel_rfl
     unfold Ko; simp only [hkey, hat, if_true, hg]; rw [g4]; have hix : ixN (M1 D m (C5 M)).length (D e.2.1) = some (D e.2.1).toNat := by
       rw [Em]; have := Te (n := m) (j := (D e.2.1).toNat) (by omega)
       rw [show (((D e.2.1).toNat : Nat) : Int) = D e.2.1 from by omega] at this
       exact this
     simp only [hix]; rw [bX (by omega) (by omega), <- hids]; exact i2
   rw [Em] at go
   by_cases hc : D e.2.1 = (n : Int)
   . exact go (n + 1) (by omega) (fun q hq => by have := h1 q hq; omega) (fun j hj => by
       by_cases hj' : j < n
       . exact .inr (h2 j hj')
       . exact .inl (by omega)) (Nat.le_refl _) (by rw [if_pos hc]; exact Ye fun q hq => (h1 q hq).2)
   . exact go n (by omega) h1 (fun j hj => .inr (h2 j hj)) (by omega) (by rw [if_neg hc])
theorem Vm {L : List Ent} (hB : Book L) : ∃ n : Nat, n <= 9 /\ P2 [D3 L] = .ok (.list ((M1 (dp L) n (C5 L)).map .list)) /\ (∀ q ∈ C5 L, 0 <= dp L q /\ dp L q < n) /\ ∀ j < n, ∃ q ∈ C5 L, dp L q = (j : Int) := by
 have hl := hB.len
 have hkeys := Dq hB
 have hlen : (Z4 L []).length = L.length := by have := congrArg List.length hkeys; rw [List.length_map, List.length_map] at this; exact this
 obtain ⟨n, h1, h2, h3, h4⟩ := Pc (kvs := kvI (Z4 L [])) (D := dp L) (fun q hq => Bo (by rw [hkeys]; exact hq)) (Fe hB) hB L [] 0 rfl (fun _ h => nomatch h) (fun j h => absurd h (Nat.not_lt_zero _))
 refine ⟨n, by omega, X3 ?_, h3, h4⟩
 unfold Cd dL Wo
 rw [B1 (d := D3 L) (ds := []) rfl rfl, C4, Ll hB, M7, if_pos ⟨by unfold kvI kvG; rw [List.length_map, List.length_map]; omega, rfl⟩]
 have hm : (kvI (Z4 L [])).map (·.1) = (C5 L).map idP := by
   unfold kvI kvG; rw [List.map_map, List.map_map, <- hkeys, List.map_map]; rfl
 rw [hm]
 have : M1 (dp L) 0 (C5 []) = [] := rfl
 rw [this] at h2
 rw [h2]
theorem iM : ∀ (ps : List IdP), (∀ p ∈ ps, okI p) -> Cl (ps.map idP) = some ps
 | [], _ => rfl
 | p :: ps, h => by
   have hp : okL p.2 = true := by rcases (h p (.head _)).2.2 with e | e | e <;> rw [e] <;> decide +kernel
   show (Pg (idP p)).bind _ = _
   have : Pg (idP p) = some p := by
     show (if okL p.2 = true then some (p.1, p.2) else none) = _
     rw [if_pos hp]
   rw [this]; show (Cl (ps.map idP)).map _ = _
   rw [iM ps fun q hq => h q (.tail _ hq)]; rfl
inductive Rch (L : List Ent) : IdP -> IdP -> Prop where
 | one {e : Ent} {q : IdP} : e ∈ L -> q ∈ e.2.2 -> Rch L e.2.1 q
 | more {e : Ent} {q r : IdP} : e ∈ L -> q ∈ e.2.2 -> Rch L q r -> Rch L e.2.1 r
theorem Rch.lt {L : List Ent} (hB : Book L) {p q : IdP} (h : Rch L p q) : key q < key p := by
 induction h with
 | one he hq => exact (hB.cl _ he _ hq).2
 | more he hq _ ih => have := (hB.cl _ he _ hq).2; omega
theorem Rch.tgt {L : List Ent} (hB : Book L) {p q : IdP} (h : Rch L p q) : q ∈ C5 L := by
 induction h with
 | one he hq => obtain ⟨⟨e', m, h'⟩, _⟩ := hB.cl _ he _ hq; exact List.mem_map.mpr ⟨e', m, h'⟩
 | more _ _ _ ih => exact ih
theorem Rch.dep {L : List Ent} {D : IdP -> Int} (hD : Dep L D) {p q : IdP} (h : Rch L p q) : D q + 1 <= D p := by
 induction h with
 | one he hq => exact Rh hD he hq
 | more he hq _ ih => have := Rh hD he hq; omega
noncomputable def rB (L : List Ent) (p q : IdP) : Bool := @decide (Rch L p q) (Classical.propDecidable _)
theorem Mt {L : List Ent} {p q : IdP} : rB L p q = true ↔ Rch L p q := by unfold rB; exact @decide_eq_true_iff _ (Classical.propDecidable _)
theorem fC {ks : List IdP} {q : IdP} {i : Nat} {δ : Dn} {f : Dn -> Res PyData} (h : f δ = .ok (idP q)) (hi : δ[i]? = some (.ow (.dict (Q4 ks)))) : Me i f δ = .ok (.bool (decide (q ∈ ks))) := by
 unfold Me
 rw [h, C4]
 simp only [O1, hi, aC]
theorem gK {ks ks' : List IdP} {q : IdP} {i : Nat} {δ : Dn} {f : Dn -> Res PyData} (h : f δ = .ok (idP q)) (hi : δ[i]? = some (.ow (.dict (Q4 ks)))) (hl : ks.length < 900) (e : Ar (Q4 ks) (kkP q) (.bool true) = Q4 ks') : Ek i f (vC (.bool true)) δ = .nx (δ.set i (.ow (.dict (Q4 ks')))) := by
 unfold Ek
 rw [hi]
 simp only [vC, M7, h, O1, e]
 rw [if_pos (sLt (by unfold Q4; rw [List.length_map]; omega))]
theorem Dx {fs : Dn -> Res (List PyData)} {m : List PyData -> Res PyData} {δ : Dn} {ds : List PyData} {d : PyData} (h : fs δ = .ok ds) (h2 : m ds = .ok d) : Cb fs m δ = .ok d := by unfold Cb; rw [h, C4, h2]; rfl
theorem Rch.snoc {L : List Ent} {p r q : IdP} (h : Rch L p r) {e : Ent} (he : e ∈ L) (hr : e.2.1 = r) (hq : q ∈ e.2.2) : Rch L p q := by
 induction h with
 | one he' hq' => exact .more he' hq' (by rw [<- hr]; exact .one he hq)
 | more he' hq' _ ih => exact .more he' hq' (ih hr)
theorem Kx (B W D : PyData) : ∀ (ps ks : List IdP) (s4 : Sl), ks.length + ps.length < 900 -> ∃ (ks' : List IdP) (s4' : Sl), G6 (st1 4) (Ek 2 (A2 4) (vC (.bool true))) (ps.map idP) [.sh B, .sh W, .ow (.dict (Q4 ks)), .sh D, s4] = .nx [.sh B, .sh W, .ow (.dict (Q4 ks')), .sh D, s4'] /\ (∀ x, x ∈ ks' ↔ x ∈ ks \/ x ∈ ps) /\ ks'.length <= ks.length + ps.length
 | [], ks, s4, _ => ⟨ks, s4, rfl, by simp, by simp⟩
 | p :: ps, ks, s4, hl => by
   simp only [List.length_cons] at hl; obtain ⟨ks1, e1, e2, e3⟩ := gL ks p; obtain ⟨ks', s4', f1, f2, f3⟩ := Kx B W D ps ks1 (.sh (idP p)) (by omega)
   refine ⟨ks', s4', ?_, fun x => by rw [f2, e2, List.mem_cons]; exact or_assoc, by simp; omega⟩
   have hp := gK (ks := ks) (ks' := ks1) (q := p) (i := 2) (δ := [.sh B, .sh W, .ow (.dict (Q4 ks)), .sh D, .sh (idP p)]) (f := A2 4) rfl rfl (by omega) e1
   rw [List.map_cons]; unfold G6; simp only [st1, List.set_cons_zero, List.set_cons_succ]; rw [hp]; exact f1
noncomputable def Uc : Dn -> Out := (sIf (C9 (Me 2 (b2 (A2 3) (vC (.int 1)) dIx))) (T7 (fun δ => ((Cb (A0 (A2 3) A7) C3) δ).bind E8) (st1 4) (Ek 2 (A2 4) (vC (.bool true)))) L4)
theorem Nc {L : List Ent} (hB : Book L) (B : PyData) (w : IdP) : ∀ (Q R : List Ent) (ks : List IdP) (s3 s4 : Sl), Q.reverse ++ R = L -> w ∈ ks -> (∀ q ∈ ks, q = w \/ Rch L w q) -> (∀ e ∈ R, e.2.1 ∈ ks -> ∀ q ∈ e.2.2, q ∈ ks) -> ks.length <= 1 + 40 * R.length ->
   ∃ (ks' : List IdP) (s3' s4' : Sl), G6 (st1 3) Uc (Q.map (·.1)) [.sh B, .sh (idP w), .ow (.dict (Q4 ks)), s3, s4] = .nx [.sh B, .sh (idP w), .ow (.dict (Q4 ks')), s3', s4'] /\ w ∈ ks' /\ (∀ q ∈ ks', q = w \/ Rch L w q) /\ (∀ e ∈ L, e.2.1 ∈ ks' -> ∀ q ∈ e.2.2, q ∈ ks')
 | [], R, ks, s3, s4, hL, h1, h2, h3, _ => by
   have : R = L := hL; subst this; exact ⟨ks, s3, s4, rfl, h1, h2, h3⟩
 | e :: Q, R, ks, s3, s4, hL, h1, h2, h3, hl => by
   have hL' : Q.reverse ++ (e :: R) = L := by rw [List.reverse_cons, List.append_assoc] at hL; exact hL
   have he : e ∈ L := by rw [<- hL']; exact List.mem_append_right _ (.head _)
   have k := hB.bk e he; have hlen : Q.length + R.length + 1 <= 9 := by have := hB.len; rw [<- hL'] at this; simp at this; omega
   have hid : (b2 (A2 3) (vC (.int 1)) dIx) [.sh B, .sh (idP w), .ow (.dict (Q4 ks)), .sh e.1, s4] = .ok (idP e.2.1) := M3 rfl rfl k.id; have ht : C9 (Me 2 (b2 (A2 3) (vC (.int 1)) dIx)) [.sh B, .sh (idP w), .ow (.dict (Q4 ks)), .sh e.1, s4] = .ok (decide (e.2.1 ∈ ks)) := O2 (fC hid rfl); have hRk : ∀ e' ∈ R, key e.2.1 < key e'.2.1 := fun e' he' => by
     have hup := hB.up; rw [<- hL'] at hup; exact (List.pairwise_cons.mp (List.pairwise_append.mp hup).2.1).1 e' he'
   rw [List.map_cons]; unfold G6; simp only [st1, List.set_cons_zero, List.set_cons_succ]
   by_cases hm : e.2.1 ∈ ks
   . rw [decide_eq_true hm] at ht
     have hpl := k.len; obtain ⟨ks1, s4', f1, f2, f3⟩ := Kx B (idP w) e.1 e.2.2 ks s4 (by omega)
     obtain ⟨ks', s3', s4'', g1, g2, g3, g4⟩ := Nc hB B w Q (e :: R) ks1 (.sh e.1) s4' hL' ((f2 w).mpr (.inl h1)) (fun q hq => by
       rcases (f2 q).mp hq with z | z
       . exact h2 q z
       . rcases h2 e.2.1 hm with z' | z'
         . exact .inr (by rw [<- z']; exact .one he z)
         . exact .inr (z'.snoc he rfl z)) (fun e' he' hin q hq => by
       rcases List.mem_cons.mp he' with rfl | he'
       . exact (f2 q).mpr (.inr hq)
       . rcases (f2 e'.2.1).mp hin with z | z
         . exact (f2 q).mpr (.inl (h3 e' he' z q hq))
         . have := (hB.cl e he _ z).2
           have := hRk e' he'; omega) (by simp; omega)
     refine ⟨ks', s3', s4'', ?_, g2, g3, g4⟩; have hb : Uc [.sh B, .sh (idP w), .ow (.dict (Q4 ks)), .sh e.1, s4] = .nx [.sh B, .sh (idP w), .ow (.dict (Q4 ks1)), .sh e.1, s4'] :=
       (Aq ht).trans (W9 (K4 (Dx (B1 rfl rfl) k.nm) rfl) f1)
     rw [hb]; exact g1
   . rw [decide_eq_false hm] at ht
     obtain ⟨ks', s3', s4'', g1, g2, g3, g4⟩ := Nc hB B w Q (e :: R) ks (.sh e.1) s4 hL' h1 h2 (fun e' he' hin q hq => by
       rcases List.mem_cons.mp he' with rfl | he'
       . exact absurd hin hm
       . exact h3 e' he' hin q hq) (by simp; omega)
     refine ⟨ks', s3', s4'', ?_, g2, g3, g4⟩; have hb : Uc [.sh B, .sh (idP w), .ow (.dict (Q4 ks)), .sh e.1, s4] = .nx [.sh B, .sh (idP w), .ow (.dict (Q4 ks)), .sh e.1, s4] := W0 ht; rw [hb]; exact g1
theorem Lr {δc : Dn} {tt : Dn -> Res Bool} (f : Ent -> Bool) : ∀ L : List Ent, Bk L -> (∀ e ∈ L, tt ([.sh e.1] ++ δc) = .ok (f e)) -> B6 B8 δc tt (b2 (A2 0) (vC (.int 1)) dIx) (L.map (·.1)) = .ok (((L.filter f).map (·.2.1)).map idP)
 | [], _, _ => rfl
 | p :: ps, hB, h => by
   have v : (b2 (A2 0) (vC (.int 1)) dIx) ([.sh p.1] ++ δc) = .ok (idP p.2.1) := by simp_arith [(hB p (.head _)).id]
   have ih := Lr f ps (fun e he => hB e (.tail _ he)) fun e he => h e (.tail _ he)
   have hp := h p (.head _); rw [List.map_cons]; unfold B6
   cases e : f p with
   | true => simp only [B8, hp, e, v, ih, List.filter_cons_of_pos e, List.map_cons]
   | false => simp only [B8, hp, e, ih, List.filter_cons_of_neg (by simp [e] : ¬ f p = true)]
noncomputable def nmF (L : List Ent) (w : IdP) : List IdP := (L.filter fun e => rB L w e.2.1).map (·.2.1)
theorem Zi {L : List Ent} (hB : Book L) {w : IdP} (hw : w ∈ C5 L) : K8 [D3 L, idP w] = .ok (.list ((nmF L w).map idP)) := by
 have hl := hB.len
 obtain ⟨ks, s3, s4, g1, g2, g3, g4⟩ := Nc hB (D3 L) w L.reverse [] [w] .un .un (by rw [List.reverse_reverse, List.append_nil]) (.head _) (fun q hq => .inl (List.mem_singleton.mp hq)) (fun _ h => nomatch h) (by simp)
 have hks : ∀ q, q ∈ ks ↔ q = w \/ Rch L w q := fun q => by
   refine ⟨g3 q, fun h => ?_⟩
   rcases h with rfl | h
   . exact g2
   . have : ∀ p, Rch L p q -> p ∈ ks -> q ∈ ks := fun p hp => by
       induction hp with
       | one he hq => exact fun hin => g4 _ he hin _ hq
       | more he hq _ ih => exact fun hin => ih h (g4 _ he hin _ hq)
     exact this w h g2
 refine X3 ?_
 unfold Ag Y0 X9 X8 X7
 have h1 : Mo (B7 (A0 (A2 0) (A0 (A2 1) A7)) B2) (D7 O5 [D3 L, idP w]) = .nx [.sh (D3 L), .sh (idP w), .un, .un, .un] := by
   unfold Mo; rw [F5 (B1 rfl (B1 rfl rfl)) (Kw hB hw)]; rfl
 rw [C8 h1]
 have h2 : Mp 2 (A2 1) (vC (.bool true)) [.sh (D3 L), .sh (idP w), .un, .un, .un] = .nx [.sh (D3 L), .sh (idP w), .ow (.dict (Q4 [w])), .un, .un] := rfl
 rw [C8 h2]
 have hsrc : (fun δ : Dn => ((A2 0) δ).bind Kv) [.sh (D3 L), .sh (idP w), .ow (.dict (Q4 [w])), .un, .un] = .ok (L.reverse.map (·.1)) := by
   show Res.ok (L.map (·.1)).reverse = _
   rw [List.map_reverse]
 have h3 := W9 (src := fun δ : Dn => ((A2 0) δ).bind Kv) hsrc g1
 unfold Uc at h3
 rw [C8 h3]
 refine O6 (M5 (F7 (δc := [.ow (.dict (Q4 ks)), .sh (idP w)]) (K4 (d := D3 L) rfl rfl) (by rw [List.length_map]; omega) rfl ?_))
 refine Lr (fun e => rB L w e.2.1) L hB.bk fun e he => ?_
 have k := hB.bk e he
 have hid : (b2 (A2 0) (vC (.int 1)) dIx) ([.sh e.1] ++ [.ow (.dict (Q4 ks)), .sh (idP w)]) = .ok (idP e.2.1) := M3 rfl rfl k.id
 have t1 : (C9 (Me 1 (b2 (A2 0) (vC (.int 1)) dIx))) ([.sh e.1] ++ [.ow (.dict (Q4 ks)), .sh (idP w)]) = .ok (decide (e.2.1 ∈ ks)) := O2 (fC hid rfl)
 have t2 : (C9 (b2 (b2 (A2 0) (vC (.int 1)) dIx) (A2 2) dNe)) ([.sh e.1] ++ [.ow (.dict (Q4 ks)), .sh (idP w)]) = .ok (!decide (e.2.1 = w)) := O2 (M3 hid rfl (dNeP _ _))
 unfold Cs
 rw [t1, C4, t2]
 by_cases hm : e.2.1 ∈ ks
 . rw [decide_eq_true hm, if_pos rfl]
   congr 1
   rw [Bool.eq_iff_iff, Mt]; simp only [Bool.not_eq_true', decide_eq_false_iff_not]
   constructor
   . exact fun h => ((hks _).mp hm).elim (fun z => absurd z h) id
   . intro h z
     have := h.lt hB; rw [z] at this; omega
 . rw [decide_eq_false hm, if_neg (by decide)]
   congr 1
   rw [Bool.eq_iff_iff, Mt]; exact ⟨(fun h => nomatch h), fun h => absurd ((hks _).mpr (.inr h)) hm⟩
theorem Ta {L : List Ent} (hB : Book L) {p o : IdP} : p ∈ nmF L o ↔ Rch L o p := by
 unfold nmF
 constructor
 . intro h
   obtain ⟨e, he, rfl⟩ := List.mem_map.mp h; exact Mt.mp (List.mem_filter.mp he).2
 . intro h
   obtain ⟨e, he, rfl⟩ := Cn (h.tgt hB); exact List.mem_map.mpr ⟨e, List.mem_filter.mpr ⟨he, Mt.mpr h⟩, rfl⟩
theorem Rch.last {L : List Ent} {p x : IdP} (h : Rch L p x) : ∃ e ∈ L, x ∈ e.2.2 /\ (e.2.1 = p \/ Rch L p e.2.1) := by
 induction h with
 | @one e q he hq => exact ⟨e, he, hq, .inl rfl⟩
 | @more e q r he hq _ ih =>
   obtain ⟨e', he', hx, h | h⟩ := ih
   . exact ⟨e', he', hx, .inr (by rw [h]; exact .one he hq)⟩
   . exact ⟨e', he', hx, .inr (.more he hq h)⟩
theorem Tm {L : List Ent} (hB : Book L) {D : IdP -> Int} (hD : Dep L D) : ∀ k : Nat, k <= L.length -> ∀ e ∈ L.take k, D e.2.1 < k
 | 0, _, e, he => by simp at he
 | k + 1, hk, e, he => by
   have ih := Tm hB hD k (by omega)
   have hsp : L.take (k + 1) = L.take k ++ [L[k]] := by rw [List.take_append_getElem]
   rw [hsp, List.mem_append] at he; rcases he with he | he
   . have := ih e he; omega
   . rw [List.mem_singleton] at he
     have hL : L = L.take k ++ L[k] :: L.drop (k + 1) := by
       rw [<- List.drop_eq_getElem_cons (by omega), List.take_append_drop]
     have hm : e ∈ L := by rw [he]; exact List.getElem_mem _
     by_cases h0 : e.2.2 = []
     . rw [Jh hD hm h0]; omega
     . obtain ⟨q, hq, h1⟩ := Nu hD hm h0
       have hB' : Book (L.take k ++ L[k] :: L.drop (k + 1)) := by rw [<- hL]; exact hB
       have := hB'.ahead (q := q) (by rw [<- he]; exact hq)
       obtain ⟨e', he', h'⟩ := Cn this; have := ih e' he'; rw [h1, <- h']; omega
noncomputable def Gk (fd : List IdP) (q : IdP) : List IdP := if q ∈ fd then fd else fd ++ [q]
noncomputable def Qb (fd ps : List IdP) : List IdP := ps.foldl Gk fd
theorem bA {fd : List IdP} {q x : IdP} : x ∈ Gk fd q ↔ x ∈ fd \/ x = q := by
 unfold Gk
 split
 . rename_i h
   constructor
   . exact .inl
   . rintro (h1 | rfl)
     . exact h1
     . exact h
 . simp
theorem Bh {ps : List IdP} : ∀ {fd : List IdP} {x : IdP}, x ∈ Qb fd ps ↔ x ∈ fd \/ x ∈ ps := by
 induction ps with
 | nil => intro fd x; simp [Qb]
 | cons p ps ih =>
   intro fd x; show x ∈ Qb (Gk fd p) ps ↔ _
   rw [ih, bA, List.mem_cons, or_assoc]
theorem Rv {fd : List IdP} {q : IdP} (h : fd.Nodup) : (Gk fd q).Nodup := by
 unfold Gk
 split
 . exact h
 . rename_i hq
   rw [List.nodup_append]; exact ⟨h, by simp, fun a ha b hb => by rw [List.mem_singleton.mp hb]; rintro rfl; exact hq ha⟩
theorem Rw {ps : List IdP} : ∀ {fd : List IdP}, fd.Nodup -> (Qb fd ps).Nodup := by
 induction ps with
 | nil => intro fd h; exact h
 | cons p ps ih => intro fd h; exact ih (Rv h)
noncomputable def Ue : Dn -> Out := (K2 3 (b2 (A2 3) (b2 (D2 (A0 (A2 6) A7)) (vFn (A0 (b2 (A2 6) (A2 3) (dIn true)) A7) Ds) L8) C2))
theorem Vj (s0 s1 s2 s4 s5 : Sl) : ∀ (ps fd : List IdP) (s6 : Sl), fd.length + ps.length <= 900 -> ∃ s6', G6 (st1 6) Ue (ps.map idP) [s0, s1, s2, .sh (.list (fd.map idP)), s4, s5, s6] = .nx [s0, s1, s2, .sh (.list ((Qb fd ps).map idP)), s4, s5, s6'] := by
 intro ps
 induction ps with
 | nil => intro fd s6 _; exact ⟨s6, rfl⟩
 | cons p ps ih =>
   intro fd s6 hl; rw [List.length_cons] at hl; have hn : (Gk fd p).length <= fd.length + 1 := by
     unfold Gk; split
     . omega
     . rw [List.length_append]; simp
   obtain ⟨s6', e⟩ := ih (Gk fd p) (.sh (idP p)) (by omega)
   refine ⟨s6', ?_⟩; have hb : Ue [s0, s1, s2, .sh (.list (fd.map idP)), s4, s5, .sh (idP p)] = .nx [s0, s1, s2, .sh (.list ((Gk fd p).map idP)), s4, s5, .sh (idP p)] := by
     refine (O0 (d := .list ((Gk fd p).map idP)) ?_).trans rfl; have h1 : (vFn (A0 (b2 (A2 6) (A2 3) (dIn true)) A7) Ds) [s0, s1, s2, .sh (.list (fd.map idP)), s4, s5, .sh (idP p)] = .ok (.int (if (!decide (p ∈ fd)) = true then 1 else 0)) :=
       Ca (ds := [.bool (!decide (p ∈ fd))]) (B1 (M3 rfl rfl (Lc p fd)) rfl) rfl
     have sz : (900 : Nat) <= sizeLine := by decide
     refine M3 (x := .list (fd.map idP)) (y := .list ((if p ∈ fd then [] else [p]).map idP)) rfl (M3 (x := .list [idP p]) rfl h1 ?_) ?_
     . rw [hZ ⟨by split <;> decide, by split <;> decide, by
         have : (if (!decide (p ∈ fd)) = true then (1 : Int) else 0).toNat <= 1 := by split <;> decide
         have h2 : [idP p].length = 1 := rfl; rw [h2]; omega⟩]
       by_cases h : p ∈ fd
       . simp [h]
       . simp [h]
     . rw [Qa (by
         have h2 : ((if p ∈ fd then [] else [p] : List IdP).map idP).length <= 1 := by split <;> simp
         rw [List.length_map]; omega)]
       unfold Gk
       by_cases h : p ∈ fd
       . simp [h]
       . simp [h]
   rw [List.map_cons]; unfold G6; rw [show st1 6 (idP p) [s0, s1, s2, .sh (.list (fd.map idP)), s4, s5, s6] = some [s0, s1, s2, .sh (.list (fd.map idP)), s4, s5, .sh (idP p)] from rfl]
   dsimp only; rw [hb]; exact e
noncomputable def Ub : Dn -> Out := (T7 (fun δ => ((B7 (A0 (Q1 2 (A2 5)) A7) C7) δ).bind E8) (st1 6) Ue)
structure Fnd (L : List Ent) (p : IdP) (fd : List IdP) : Prop where
 nd : fd.Nodup
 me : p ∈ fd
 rc : ∀ x ∈ fd, x = p \/ Rch L p x
theorem Fnd.ids {L : List Ent} (hB : Book L) {p : IdP} (hp : p ∈ C5 L) {fd : List IdP} (F : Fnd L p fd) : ∀ x ∈ fd, x ∈ C5 L := fun x hx => by
 rcases F.rc x hx with rfl | h
 . exact hp
 . exact h.tgt hB
theorem Fnd.len {L : List Ent} (hB : Book L) {p : IdP} (hp : p ∈ C5 L) {fd : List IdP} (F : Fnd L p fd) : fd.length <= 9 := by
 have h1 : fd.length <= (C5 L).length := F.nd.length_le_of_subset fun x hx => F.ids hB hp x hx
 have h2 := hB.len
 rw [List.length_map] at h1
 omega
theorem Fnd.add {L : List Ent} {p : IdP} {fd : List IdP} (F : Fnd L p fd) {e : Ent} (he : e ∈ L) (hm : e.2.1 ∈ fd) {ps : List IdP} (hps : ∀ q, q ∈ ps -> q ∈ e.2.2) : Fnd L p (Qb fd ps) := by
 refine ⟨Rw F.nd, Bh.mpr (.inl F.me), fun x hx => ?_⟩
 rcases Bh.mp hx with hx | hx
 . exact F.rc x hx
 . rcases F.rc _ hm with h | h
   . exact .inr (by rw [<- h]; exact .one he (hps x hx))
   . exact .inr (h.snoc he rfl (hps x hx))
theorem Qy {L : List Ent} (hB : Book L) {p : IdP} (hp : p ∈ C5 L) (s0 s1 s4 : Sl) : ∀ (os fd : List IdP) (s5 s6 : Sl), Fnd L p fd -> (∀ x ∈ os, x ∈ fd) ->
   ∃ fd' s5' s6', G6 (st1 5) Ub (os.map idP) [s0, s1, .ow (.dict (kvG (kvE L))), .sh (.list (fd.map idP)), s4, s5, s6] = .nx [s0, s1, .ow (.dict (kvG (kvE L))), .sh (.list (fd'.map idP)), s4, s5', s6'] /\ Fnd L p fd' /\ (∀ x ∈ fd, x ∈ fd') /\ ∀ e ∈ L, e.2.1 ∈ os -> ∀ q ∈ e.2.2, q ∈ fd' := by
 intro os
 induction os with
 | nil => intro fd s5 s6 F _; exact ⟨fd, s5, s6, rfl, F, fun _ h => h, fun _ _ h => nomatch h⟩
 | cons o os ih =>
   intro fd s5 s6 F hos; have ho := hos o (.head _); obtain ⟨e, he, rfl⟩ := Cn (F.ids hB hp o ho); obtain ⟨ps, h1, h2, h3⟩ := (hB.bk e he).ln; have hlen := F.len hB hp; obtain ⟨s6', m⟩ := Vj s0 s1 (.ow (.dict (kvG (kvE L)))) s4 (.sh (idP e.2.1)) ps fd s6 (by omega)
   have F' := F.add he ho (ps := ps) fun q hq => (h3 q).mp hq
   obtain ⟨fd', s5', s6'', r, F2, sub, cl⟩ := ih (Qb fd ps) (.sh (idP e.2.1)) s6' F' fun x hx => Bh.mpr (.inl (hos x (.tail _ hx)))
   refine ⟨fd', s5', s6'', ?_, F2, fun x hx => sub x (Bh.mpr (.inl hx)), fun e' he' hm q hq => ?_⟩
   . have hb : Ub [s0, s1, .ow (.dict (kvG (kvE L))), .sh (.list (fd.map idP)), s4, .sh (idP e.2.1), s6] = .nx [s0, s1, .ow (.dict (kvG (kvE L))), .sh (.list ((Qb fd ps).map idP)), s4, .sh (idP e.2.1), s6'] := by
       refine W9 (ds := ps.map idP) (K4 (F5 (B1 (d := e.1) ?_ rfl) h1) rfl) m; show ((Res.ok (idP e.2.1)).bind fun kd => match P0 kd with | some kk => ofO (M2 (kvG (kvE L)) kk) | none => .no) = _
       rw [C4]; simp only [O1]; rw [get_E hB he]; rfl
     rw [List.map_cons]; unfold G6; rw [show st1 5 (idP e.2.1) [s0, s1, .ow (.dict (kvG (kvE L))), .sh (.list (fd.map idP)), s4, s5, s6] = some [s0, s1, .ow (.dict (kvG (kvE L))), .sh (.list (fd.map idP)), s4, .sh (idP e.2.1), s6] from rfl]
     dsimp only; rw [hb]; exact r
   . rcases List.mem_cons.mp hm with h | h
     . have : e' = e := uniq hB.up he' he h
       subst this; exact sub q (Bh.mpr (.inr ((h3 q).mpr hq)))
     . exact cl e' he' h q hq
noncomputable def Ua : Dn -> Out := (T7 (fun δ => ((vFn (A0 (A2 3) A7) Be) δ).bind E8) (st1 5) Ub)
theorem Um {L : List Ent} (hB : Book L) {p : IdP} (hp : p ∈ C5 L) (s0 s1 : Sl) : ∀ (ts : List PyData) (fd : List IdP) (i : Int) (s4 s5 s6 : Sl), Fnd L p fd -> (∀ x, (x = p \/ Rch L p x) -> dp L p - i <= dp L x -> x ∈ fd) ->
   ∃ fd' s4' s5' s6', G6 (st1 4) Ua ts [s0, s1, .ow (.dict (kvG (kvE L))), .sh (.list (fd.map idP)), s4, s5, s6] = .nx [s0, s1, .ow (.dict (kvG (kvE L))), .sh (.list (fd'.map idP)), s4', s5', s6'] /\ Fnd L p fd' /\ (∀ x, (x = p \/ Rch L p x) -> dp L p - (i + ts.length) <= dp L x -> x ∈ fd') := by
 intro ts
 induction ts with
 | nil => intro fd i s4 s5 s6 F h; exact ⟨fd, s4, s5, s6, rfl, F, fun x hx hd => h x hx (by simpa using hd)⟩
 | cons t ts ih =>
   intro fd i s4 s5 s6 F h; obtain ⟨fd1, s5', s6', r1, F1, sub, cl⟩ := Qy hB hp s0 s1 (.sh t) fd fd s5 s6 F fun _ hx => hx
   have hn : ∀ x, (x = p \/ Rch L p x) -> dp L p - (i + 1) <= dp L x -> x ∈ fd1 := fun x hx hd => by
     rcases hx with rfl | hx
     . exact F1.me
     . obtain ⟨e, he, hm, hr⟩ := hx.last
       have h1 := Rh (Fe hB) he hm; have : e.2.1 ∈ fd := h e.2.1 hr (by omega)
       exact cl e he this x hm
   obtain ⟨fd', s4'', s5'', s6'', r, F2, h2⟩ := ih fd1 (i + 1) (.sh t) s5' s6' F1 hn; refine ⟨fd', s4'', s5'', s6'', ?_, F2, fun x hx hd => h2 x hx (by rw [List.length_cons] at hd; push_cast at hd; omega)⟩
   have hb : Ua [s0, s1, .ow (.dict (kvG (kvE L))), .sh (.list (fd.map idP)), .sh t, s5, s6] = .nx [s0, s1, .ow (.dict (kvG (kvE L))), .sh (.list (fd1.map idP)), .sh t, s5', s6'] :=
     W9 (ds := fd.map idP) (K4 (d := .list (fd.map idP)) (Ca (ds := [.list (fd.map idP)]) (B1 rfl rfl) rfl) rfl) r1
   unfold G6; rw [show st1 4 t [s0, s1, .ow (.dict (kvG (kvE L))), .sh (.list (fd.map idP)), s4, s5, s6] = some [s0, s1, .ow (.dict (kvG (kvE L))), .sh (.list (fd.map idP)), .sh t, s5, s6] from rfl]
   dsimp only; rw [hb]; exact r
theorem Nq (ids : List IdP) : PyData.eqvAll (ids.map idP) (ids.map idP) = true /\ PyData.depthAll (ids.map idP) <= 2 := by
 induction ids with
 | nil => exact ⟨rfl, by simp [PyData.depthAll]⟩
 | cons p ps ih =>
   have := Nr p; refine ⟨?_, ?_⟩
   . show (PyData.eqv (idP p) (idP p) && PyData.eqvAll (ps.map idP) (ps.map idP)) = true
     rw [Pl, ih.1]; simp
   . show max _ _ <= 2
     exact Nat.max_le.mpr ⟨this, ih.2⟩
theorem hX (ids : List IdP) : dNe (.list (ids.map idP)) (.list (ids.map idP)) = some (.bool false) := by
 obtain ⟨e1, e2⟩ := Nq ids
 have hd : (PyData.list (ids.map idP)).depth <= 3 := by show _ + 1 <= 3 <;> omega
 unfold dNe
 rw [if_pos (by omega)]
 have : PyData.eqv (.list (ids.map idP)) (.list (ids.map idP)) = true := e1
 rw [this]; rfl
theorem dNeI (a b : Int) : dNe (.int a) (.int b) = some (.bool (!(a == b))) := by
 unfold dNe
 rw [if_pos (Nat.le_trans (Nat.min_le_left _ _) (by simp [PyData.depth]))]
 rfl
theorem Cq {δc : Dn} {tt : Dn -> Res Bool} (f : IdP -> Bool) : ∀ ps : List IdP, (∀ q ∈ ps, tt ([.sh (idP q)] ++ δc) = .ok (f q)) -> B6 B8 δc tt (A2 0) (ps.map idP) = .ok ((ps.filter f).map idP)
 | [], _ => rfl
 | p :: ps, h => by
   have v : A2 0 ([.sh (idP p)] ++ δc) = .ok (idP p) := rfl; have ih := Cq f ps fun q hq => h q (.tail _ hq)
   have hp := h p (.head _); rw [List.map_cons]; unfold B6
   cases e : f p with
   | true => simp only [B8, hp, e, v, ih, List.filter_cons_of_pos e, List.map_cons]
   | false => simp only [B8, hp, e, ih, List.filter_cons_of_neg (by simp [e] : ¬ f p = true)]
theorem Ti {st : PyData -> Dn -> Option Dn} {b : Dn -> Out} (I : Dn -> Prop) : ∀ (ds : List PyData) (δ : Dn), I δ -> (∀ d ∈ ds, ∀ δ, I δ -> ∃ δ1 δ', st d δ = some δ1 /\ b δ1 = .nx δ' /\ I δ') -> ∃ δ', G6 st b ds δ = .nx δ' /\ I δ'
 | [], δ, h, _ => ⟨δ, rfl, h⟩
 | d :: ds, δ, h, hs => by
   obtain ⟨δ1, δ2, e1, e2, h2⟩ := hs d (.head _) δ h; obtain ⟨δ', e3, h3⟩ := Ti I ds δ2 h2 fun d' hd => hs d' (.tail _ hd)
   refine ⟨δ', ?_, h3⟩; unfold G6; simp only [e1, e2, e3]
theorem Xp {fl ids : List IdP} (h : fl.Perm ids) (hup' : ids.Pairwise fun a b => key a < key b) (hok : ∀ p ∈ ids, okI p) (hl : ids.length < 64) : Jk [.list (fl.map idP)] = some (.list (ids.map idP)) := by
 have hup : ids.Pairwise fun a b => rk3 a < rk3 b := hup'
 have hnd : (ids.map rk3).Nodup := by
   rw [List.nodup_iff_pairwise_ne, List.pairwise_map]; exact hup.imp fun {a b} h => by omega
 have hnd' : (fl.map rk3).Nodup := (h.map rk3).nodup_iff.mpr hnd
 show (Cl (fl.map idP)).bind _ = _
 rw [iM fl fun p hp => hok p (h.mem_iff.mp hp)]
 show (if _ then _ else _) = _
 rw [if_pos ⟨by rw [h.length_eq]; exact hl, hnd'⟩]
 rw [Cw ((P8 fl).trans h) (Ax fl hnd') hup]
theorem Zg {L : List Ent} (hB : Book L) (p : IdP) : (nmF L p).Pairwise fun a b => key a < key b := by
 unfold nmF
 rw [List.pairwise_map]
 exact hB.up.filter _
theorem Ww {l : List IdP} (h : l.Pairwise fun a b => key a < key b) : l.Nodup := by
 rw [List.nodup_iff_pairwise_ne]
 exact h.imp fun {a b} h z => by rw [z] at h; omega
theorem Jc {L : List Ent} (hB : Book L) : ∀ p ∈ C5 L, okI p := fun p hp => by
 obtain ⟨e, he, rfl⟩ := Cn hp
 exact (hB.bk e he).ok
theorem Wi {L : List Ent} (hB : Book L) {p : IdP} (hp : p ∈ C5 L) : N7 [D3 L, idP p] = .ok (.list ((nmF L p).map idP)) := by
 have hl := hB.len
 have hc : B6 B8 [] F8 (K3 (A0 (b2 (A2 0) (vC (.int 1)) dIx) (A0 (A2 0) A7))) (L.map (·.1)) = .ok (L.map fun e => PyData.tuple [idP e.2.1, e.1]) := by
   have bk := hB.bk
   clear hB hl hp
   induction L with
   | nil => rfl
   | cons e L ih =>
     have v : (K3 (A0 (b2 (A2 0) (vC (.int 1)) dIx) (A0 (A2 0) A7))) ([.sh e.1] ++ []) = .ok (.tuple [idP e.2.1, e.1]) := Rz (B1 (M3 rfl rfl (bk e (.head _)).id) (B1 rfl rfl)); rw [List.map_cons, List.map_cons]; unfold B6; simp only [B8, F8, v, ih fun x hx => bk x (.tail _ hx)]
 refine X3 ?_
 unfold T5 R8 R7 R6 R5
 have h1 : Iq 2 (E6 (fun δ => ((A2 0) δ).bind E8) B8 [] F8 (K3 (A0 (b2 (A2 0) (vC (.int 1)) dIx) (A0 (A2 0) A7)))) (D7 G9 [D3 L, idP p]) = .nx [.sh (D3 L), .sh (idP p), .ow (.dict (kvG (kvE L))), .un, .un, .un, .un] := by
   unfold Iq; rw [F7 (δ := D7 G9 [D3 L, idP p]) (K4 (d := D3 L) rfl rfl) (by rw [List.length_map]; omega) rfl hc, M7, if_pos (by rw [List.length_map]; omega)]
   have := Su L [] (by rw [List.nil_append]; exact hB.up)
   rw [show kvG (kvE []) = [] from rfl, List.nil_append] at this
   rw [this]; rfl
 rw [C8 h1]
 have h2 : K2 3 (D2 (A0 (A2 1) A7)) [.sh (D3 L), .sh (idP p), .ow (.dict (kvG (kvE L))), .un, .un, .un, .un] = .nx [.sh (D3 L), .sh (idP p), .ow (.dict (kvG (kvE L))), .sh (.list ([p].map idP)), .un, .un, .un] := rfl
 rw [C8 h2]
 have F0 : Fnd L p [p] := ⟨by simp, .head _, fun x hx => .inl (List.mem_singleton.mp hx)⟩
 obtain ⟨fd, s4, s5, s6, r, F, cl⟩ := Um hB hp (.sh (D3 L)) (.sh (idP p)) (R9 0 (L.length : Int)) [p] 0 .un .un .un F0 fun x hx hd => by
   rcases hx with rfl | hx
   . exact .head _
   . have := hx.dep (Fe hB); omega
 have hlen : Ab [D3 L] = some (.int (L.length : Int)) := by
   show some (PyData.int ((L.map (·.1)).length : Int)) = _
   rw [List.length_map]
 have hsrc : (fun δ => ((A0 (vFn (A0 (A2 0) A7) Ab) A7) δ).bind Y6) [.sh (D3 L), .sh (idP p), .ow (.dict (kvG (kvE L))), .sh (.list ([p].map idP)), .un, .un, .un] = .ok (R9 0 (L.length : Int)) :=
   Gm (B1 (Ca (B1 rfl rfl) hlen) rfl) (by omega) (by omega)
 have h3 : T7 (fun δ => ((A0 (vFn (A0 (A2 0) A7) Ab) A7) δ).bind Y6) (st1 4) Ua [.sh (D3 L), .sh (idP p), .ow (.dict (kvG (kvE L))), .sh (.list ([p].map idP)), .un, .un, .un] = .nx [.sh (D3 L), .sh (idP p), .ow (.dict (kvG (kvE L))), .sh (.list (fd.map idP)), s4, s5, s6] := W9 hsrc r
 unfold Ua Ub Ue at h3
 rw [C8 h3]
 have all : ∀ x, (x = p \/ Rch L p x) -> x ∈ fd := fun x hx => cl x hx (by
   have hx' : x ∈ C5 L := hx.elim (fun h => by rw [h]; exact hp) fun h => h.tgt hB
   obtain ⟨e, he, rfl⟩ := Cn hx'; obtain ⟨e0, he0, rfl⟩ := Cn hp; have n1 := Rg hB (Fe hB) e he; have n2 := Tm hB (Fe hB) L.length (Nat.le_refl _) e0 (by rw [List.take_length]; exact he0)
   have : (R9 0 (L.length : Int)).length = L.length := by unfold R9; simp
   rw [this]; omega)
 have hflt : ∀ q ∈ fd, (C9 (b2 (A2 0) (A2 1) dNe)) ([.sh (idP q)] ++ [.sh (idP p)]) = .ok (!decide (q = p)) := fun q _ => O2 (M3 rfl rfl (dNeP q p))
 have hperm : (fd.filter fun q => !decide (q = p)).Perm (nmF L p) := by
   refine (List.perm_ext_iff_of_nodup (F.nd.sublist List.filter_sublist) (Ww (Zg hB p))).mpr fun x => ?_
   rw [List.mem_filter, Ta hB]
   constructor
   . rintro ⟨h1, h2⟩
     rcases F.rc x h1 with rfl | h
     . simp at h2
     . exact h
   . intro h
     refine ⟨all x (.inr h), ?_⟩; have := h.lt hB; simp only [Bool.not_eq_true', decide_eq_false_iff_not]
     rintro rfl
     omega
 have hll : (nmF L p).length <= 9 := by unfold nmF; rw [List.length_map]; exact Nat.le_trans (List.length_filter_le _ _) hl
 have hfl := F.len hB hp
 have h4 : (D2 (E6 (fun δ => ((A2 3) δ).bind E8) B8 [1] (C9 (b2 (A2 0) (A2 1) dNe)) (A2 0))) [.sh (D3 L), .sh (idP p), .ow (.dict (kvG (kvE L))), .sh (.list (fd.map idP)), s4, s5, s6] = .ok (.list ((fd.filter fun q => !decide (q = p)).map idP)) :=
   M5 (F7 (δc := [.sh (idP p)]) (ds := fd.map idP) rfl (by rw [List.length_map]; omega) rfl (Cq (fun q => !decide (q = p)) fd hflt))
 refine O6 (Ca (B1 h4 rfl) ?_)
 exact Xp hperm (Zg hB p) (fun q hq => Jc hB q ((Ta hB).mp hq |>.tgt hB)) (by omega)
noncomputable def eJ (r : Res PyData) : Res PyData := match r with | .ok d => .ok d | .exc _ => .ok Y7 | .no => .no
theorem eM {B x : PyData} {r : Res PyData} (h : Q3 [B, x] = r) : C6 [.int 0, B, x] = eJ r := by
 unfold C6
 rw [Z0]
 show (match Q3 [B, x] with | .ok d => Out.rt d | .exc _ => .rt Y7 | .no => .no).fin = _
 rw [h]
 cases r <;> rfl
theorem eK {B x : PyData} {r : Res PyData} (h : K8 [B, x] = r) : C6 [.int 1, B, x] = eJ r := by
 unfold C6
 rw [Z0]
 show (match K8 [B, x] with | .ok d => Out.rt d | .exc _ => .rt Y7 | .no => .no).fin = _
 rw [h]
 cases r <;> rfl
theorem Ev : ∀ (R M : List Ent) (acc : List (IdP × Int)), Book (M ++ R) -> acc.map (·.1) = C5 M -> ∀ q ∈ C5 M, E4 (Z4 R acc) q = E4 acc q
 | [], M, acc, _, _, q, _ => rfl
 | e :: R, M, acc, hB, hk, q, hq => by
   have hB' : Book ((M ++ [e]) ++ R) := by rw [List.append_assoc]; exact hB
   have ih := Ev R (M ++ [e]) (acc ++ [(e.2.1, mxD (e.2.2.map fun q => E4 acc q + 1))]) hB' (by rw [List.map_append, hk]; show _ = List.map (·.2.1) (M ++ [e]); rw [List.map_append]; rfl) q (by show q ∈ List.map (·.2.1) (M ++ [e]); rw [List.map_append]; exact List.mem_append_left _ hq)
   show E4 (Z4 R (acc ++ _)) q = _
   rw [ih]; exact Ey fun z => hB.fresh (by rw [<- z]; exact hq)
theorem cW {ps ps' : List IdP} {g : IdP -> Int} (h : ∀ q, q ∈ ps' ↔ q ∈ ps) (h0 : ∀ q ∈ ps, 0 <= g q) : (ps'.map fun q => 1 + g q).foldl max 0 = mxD (ps.map fun q => g q + 1) := by
 obtain ⟨a1, a2, a3⟩ := Q7 (ps'.map fun q => 1 + g q) 0
 by_cases hp : ps = []
 . have : ps' = [] := by
     cases ps' with
     | nil => rfl
     | cons q r => have := (h q).mp (.head _); rw [hp] at this; exact nomatch this
   subst hp this; rfl
 . have hm := Tc (is := ps.map fun q => g q + 1) (by simpa using hp)
   obtain ⟨q, hq, e⟩ := List.mem_map.mp hm; have h1 := a2 (1 + g q) (List.mem_map.mpr ⟨q, (h q).mpr hq, rfl⟩); have h2 := h0 q hq; rcases a3 with a3 | a3
   . omega
   . obtain ⟨q', hq', e'⟩ := List.mem_map.mp a3
     have h3 := Zk (is := ps.map fun q => g q + 1) (x := g q' + 1) (List.mem_map.mpr ⟨q', (h q').mp hq', rfl⟩)
     omega
noncomputable def gM : Dn -> Out := (Ek 2 (b2 (A2 3) (vC (.int 1)) dIx) (vFn (A0 (b2 (D2 (A0 (vC (.int 0)) A7)) (D2 (E6 (fun δ => ((B7 (A0 (A2 3) A7) C7) δ).bind E8) B8 [2] F8 (b2 (vC (.int 1)) (Q1 1 (A2 0)) C2))) C2) A7) Dr))
noncomputable def ifA : Dn -> Out := (sIf (C9 (b2 (B7 (A0 (vC (.int 0)) (A0 (A2 1) (A0 (b2 (A2 3) (vC (.int 1)) dIx) A7))) C6) (Q1 2 (b2 (A2 3) (vC (.int 1)) dIx)) dNe)) (N9 (vC (.bool false))) L4)
noncomputable def ifB : Dn -> Out := (sIf (C9 (b2 (B7 (A0 (vC (.int 1)) (A0 (A2 1) (A0 (b2 (A2 3) (vC (.int 1)) dIx) A7))) C6) (B7 (A0 (A2 1) (A0 (b2 (A2 3) (vC (.int 1)) dIx) A7)) N7) dNe)) (N9 (vC (.bool false))) L4)
theorem Lm {L : List Ent} (hBL : Book L) (s0 s4 s5 s6 s7 s8 : Sl) : ∀ (R M : List Ent) (acc : List (IdP × Int)) (s3 : Sl), M ++ R = L -> acc.map (·.1) = C5 M -> Z4 R acc = Z4 L [] ->
   ∃ s3', G6 (st1 3) (E1 gM (E1 ifA ifB)) (R.map (·.1)) [s0, .sh (D3 L), .ow (.dict (kvI acc)), s3, s4, s5, s6, s7, s8] = .nx [s0, .sh (D3 L), .ow (.dict (kvI (Z4 L []))), s3', s4, s5, s6, s7, s8]
 | [], M, acc, s3, _, _, hd => ⟨s3, by rw [<- hd]; rfl⟩
 | e :: R, M, acc, s3, hL, hk, hd => by
   have hB : Book (M ++ e :: R) := by rw [hL]; exact hBL
   have he : e ∈ L := by rw [<- hL]; exact List.mem_append_right _ (.head _)
   have k := hBL.bk e he; obtain ⟨ps, n1, n2, n3⟩ := k.ln; have hml : M.length <= 9 := by have := hB.len; rw [List.length_append] at this; omega
   have hal : acc.length <= 9 := by have := congrArg List.length hk; rw [List.length_map, List.length_map] at this; omega
   have hk' : (acc ++ [(e.2.1, mxD (e.2.2.map fun q => E4 acc q + 1))]).map (·.1) = C5 (M ++ [e]) := by rw [List.map_append, hk]; show _ = List.map (·.2.1) (M ++ [e]); rw [List.map_append]; rfl
   have hB' : Book ((M ++ [e]) ++ R) := by rw [List.append_assoc]; exact hB
   have hd' : Z4 R (acc ++ [(e.2.1, mxD (e.2.2.map fun q => E4 acc q + 1))]) = Z4 L [] := hd
   obtain ⟨s3', ih⟩ := Lm hBL s0 s4 s5 s6 s7 s8 R (M ++ [e]) (acc ++ [(e.2.1, mxD (e.2.2.map fun q => E4 acc q + 1))]) (.sh e.1) (by rw [List.append_assoc]; exact hL) hk' hd'
   refine ⟨s3', ?_⟩; have hlk : ∀ q ∈ C5 M, E4 acc q = dp L q := fun q hq => by
     have := Ev (e :: R) M acc hB hk q hq; rw [hd] at this; exact this.symm
   have hnn : ∀ q ∈ e.2.2, 0 <= E4 acc q := fun q hq => by
     have hm := hB.ahead hq; rw [hlk q hm]; obtain ⟨e', he', rfl⟩ := Cn hm; exact Rg hBL (Fe hBL) e' (by rw [<- hL]; exact List.mem_append_left _ he')
   have hc := Jn (δc := [.ow (.dict (kvI acc))]) (el := b2 (vC (.int 1)) (Q1 1 (A2 0)) C2) (fun q => PyData.int (1 + E4 acc q)) ps fun q hq => by
     have hm : q ∈ acc.map (·.1) := by rw [hk]; exact hB.ahead ((n3 q).mp hq)
     refine M3 (x := .int 1) (y := .int (E4 acc q)) rfl ?_ Z8; unfold Q1; simp only [List.cons_append, List.nil_append, List.getElem?_cons_zero, List.getElem?_cons_succ]; rw [show A2 0 [.sh (idP q), .ow (.dict (kvI acc))] = .ok (idP q) from rfl, C4]
     simp only [O1]; rw [Bo hm]; rfl
   have hid : ∀ s2, (b2 (A2 3) (vC (.int 1)) dIx) [s0, .sh (D3 L), s2, .sh e.1, s4, s5, s6, s7, s8] = .ok (idP e.2.1) := fun s2 => M3 rfl rfl k.id
   have hmx : Dr [.list (.int 0 :: ps.map fun q => PyData.int (1 + E4 acc q))] = some (.int (mxD (e.2.2.map fun q => E4 acc q + 1))) := by
     show ((Q5 (.int 0 :: ps.map fun q => PyData.int (1 + E4 acc q))).bind Ra).map PyData.int = _
     rw [show Q5 (.int 0 :: ps.map fun q => PyData.int (1 + E4 acc q)) = (Q5 (ps.map fun q => PyData.int (1 + E4 acc q))).map (0 :: ·) from rfl, Dl]
     show some (PyData.int ((ps.map fun q => 1 + E4 acc q).foldl max 0)) = _
     rw [cW n3 hnn]
   have hv : (vFn (A0 (b2 (D2 (A0 (vC (.int 0)) A7)) (D2 (E6 (fun δ => ((B7 (A0 (A2 3) A7) C7) δ).bind E8) B8 [2] F8 (b2 (vC (.int 1)) (Q1 1 (A2 0)) C2))) C2) A7) Dr) [s0, .sh (D3 L), .ow (.dict (kvI acc)), .sh e.1, s4, s5, s6, s7, s8] = .ok (.int (mxD (e.2.2.map fun q => E4 acc q + 1))) := by
     have h1 : (D2 (E6 (fun δ => ((B7 (A0 (A2 3) A7) C7) δ).bind E8) B8 [2] F8 (b2 (vC (.int 1)) (Q1 1 (A2 0)) C2))) [s0, .sh (D3 L), .ow (.dict (kvI acc)), .sh e.1, s4, s5, s6, s7, s8] = .ok (.list (ps.map fun q => PyData.int (1 + E4 acc q))) :=
       M5 (F7 (δc := [.ow (.dict (kvI acc))]) (K4 (F5 (B1 rfl rfl) n1) rfl) (by rw [List.length_map]; omega) rfl hc)
     refine Ca (B1 (M3 (x := .list [.int 0]) rfl h1 (Qa (by rw [List.length_map]; simp only [List.length_cons, List.length_nil]; omega))) rfl) hmx
   have hfr : e.2.1 ∉ acc.map (·.1) := by rw [hk]; exact hB.fresh
   have h1 : gM [s0, .sh (D3 L), .ow (.dict (kvI acc)), .sh e.1, s4, s5, s6, s7, s8] = .nx [s0, .sh (D3 L), .ow (.dict (kvI (acc ++ [(e.2.1, mxD (e.2.2.map fun q => E4 acc q + 1))]))), .sh e.1, s4, s5, s6, s7, s8] := by
     unfold gM Ek; simp only [List.getElem?_cons_zero, List.getElem?_cons_succ]; rw [hv, M7, hid, M7]; simp only [O1]; rw [if_pos (sLt (by unfold kvI kvG; rw [List.length_map, List.length_map]; omega)), Sq _ _ _ hfr]
     rfl
   have hpL : e.2.1 ∈ C5 L := List.mem_map.mpr ⟨e, he, rfl⟩; have hnew : E4 (acc ++ [(e.2.1, mxD (e.2.2.map fun q => E4 acc q + 1))]) e.2.1 = dp L e.2.1 := by
     have := Ev R (M ++ [e]) _ hB' hk' e.2.1 (by show _ ∈ List.map (·.2.1) (M ++ [e]); rw [List.map_append]; exact List.mem_append_right _ (.head _))
     rw [hd'] at this; exact this.symm
   generalize hacc : acc ++ [(e.2.1, mxD (e.2.2.map fun q => E4 acc q + 1))] = acc' at *
   have hgd : (Q1 2 (b2 (A2 3) (vC (.int 1)) dIx)) [s0, .sh (D3 L), .ow (.dict (kvI acc')), .sh e.1, s4, s5, s6, s7, s8] = .ok (.int (dp L e.2.1)) := by
     unfold Q1; simp only [List.getElem?_cons_zero, List.getElem?_cons_succ]; rw [hid, C4]; simp only [O1]; rw [Bo (by rw [hk']; show _ ∈ List.map (·.2.1) (M ++ [e]); rw [List.map_append]; exact List.mem_append_right _ (.head _)), hnew]; rfl
   have h2 : ifA [s0, .sh (D3 L), .ow (.dict (kvI acc')), .sh e.1, s4, s5, s6, s7, s8] = .nx [s0, .sh (D3 L), .ow (.dict (kvI acc')), .sh e.1, s4, s5, s6, s7, s8] := by
     refine (W0 (O2 (b := false) (M3 (F5 (B1 rfl (B1 rfl (B1 (hid _) rfl))) (eM (aI hBL hpL))) hgd ?_))).trans rfl; rw [dNeI]; simp
   have h3 : ifB [s0, .sh (D3 L), .ow (.dict (kvI acc')), .sh e.1, s4, s5, s6, s7, s8] = .nx [s0, .sh (D3 L), .ow (.dict (kvI acc')), .sh e.1, s4, s5, s6, s7, s8] :=
     (W0 (O2 (b := false) (M3 (F5 (B1 rfl (B1 rfl (B1 (hid _) rfl))) (eK (Zi hBL hpL))) (F5 (B1 rfl (B1 (hid _) rfl)) (Wi hBL hpL)) (hX _)))).trans rfl
   rw [List.map_cons]; unfold G6; rw [show st1 3 e.1 [s0, .sh (D3 L), .ow (.dict (kvI acc)), s3, s4, s5, s6, s7, s8] = some [s0, .sh (D3 L), .ow (.dict (kvI acc)), .sh e.1, s4, s5, s6, s7, s8] from rfl]
   dsimp only; rw [C8 h1, C8 h2, h3]; exact ih
noncomputable abbrev kvL (L : List Ent) : Kvs := kvI (Z4 L [])
theorem Zs (acc : List (IdP × Int)) : (kvI acc).map (·.1) = (acc.map (·.1)).map idP := by
 unfold kvI kvG
 rw [List.map_map, List.map_map, List.map_map]; rfl
theorem Iy {L : List Ent} (hB : Book L) : (kvL L).map (·.1) = (C5 L).map idP := by rw [Zs, Dq hB]
theorem Pd {L : List Ent} (hB : Book L) : Fa (kvL L) = true := by
 unfold Fa
 rw [List.all_eq_true]
 intro x hx
 have : x.1 ∈ (kvL L).map (·.1) := List.mem_map.mpr ⟨x, hx, rfl⟩
 rw [Iy hB] at this
 obtain ⟨q, hq, e⟩ := List.mem_map.mp this
 obtain ⟨_, _, hh⟩ := Jc hB q hq
 rw [<- e]
 show (PyData.strOk q.2 && decide (q.2.length <= sizeLine) && true) = true
 rcases hh with h | h | h <;> rw [h] <;> decide +kernel
theorem getF {L : List Ent} (hB : Book L) {q : IdP} (hq : q ∈ C5 L) {i : Nat} {f : Dn -> Res PyData} {δ : Dn} (h : f δ = .ok (idP q)) (hi : δ[i]? = some (.fd (kvL L))) : Cv i f δ = .ok (.int (dp L q)) := by
 unfold Cv
 rw [hi]
 dsimp only
 rw [h, C4]
 simp only [O1]
 rw [Bo (by rw [Dq hB]; exact hq)]; rfl
theorem dE {L : List Ent} (hB : Book L) {n : Nat} (h1 : ∀ q ∈ C5 L, 0 <= dp L q /\ dp L q < n) (h2 : ∀ j < n, ∃ q ∈ C5 L, dp L q = ((j : Nat) : Int)) : ((C5 L).map (dp L)).foldl max (-1) = (n : Int) - 1 := by
 obtain ⟨a1, a2, a3⟩ := Q7 ((C5 L).map (dp L)) (-1)
 rcases a3 with a3 | a3
 . cases n with
   | zero => rw [a3]; rfl
   | succ n =>
     obtain ⟨q, hq, e⟩ := h2 n (by omega)
     have := a2 (dp L q) (List.mem_map.mpr ⟨q, hq, rfl⟩); omega
 . obtain ⟨q, hq, e⟩ := List.mem_map.mp a3
   have h3 := h1 q hq
   cases n with
   | zero => omega
   | succ n =>
     obtain ⟨q', hq', e'⟩ := h2 n (by omega)
     have := a2 (dp L q') (List.mem_map.mpr ⟨q', hq', rfl⟩); omega
theorem dD {L : List Ent} (hB : Book L) {n : Nat} (h1 : ∀ q ∈ C5 L, 0 <= dp L q /\ dp L q < n) (h2 : ∀ j < n, ∃ q ∈ C5 L, dp L q = ((j : Nat) : Int)) (s0 s1 s3 s4 s5 s6 s7 s8 : Sl) :
   Hl [s0, s1, .ow (.dict (kvL L)), s3, s4, s5, s6, s7, s8] = .nx [s0, s1, .fd (kvL L), s3, .sh (.int ((n : Int) - 1)), s5, s6, s7, s8] := by
 have hl := hB.len
 have hc := Jn (δc := [.fd (kvL L)]) (el := Cv 1 (A2 0)) (fun q => PyData.int (dp L q)) (C5 L) fun q hq => getF hB hq rfl rfl
 have hk : Pe 2 [s0, s1, .fd (kvL L), s3, s4, s5, s6, s7, s8] = .ok ((C5 L).map idP) := by
   show (if Fa (kvL L) = true then Res.ok ((kvL L).map (·.1)) else .no) = _
   rw [if_pos (Pd hB), Iy hB]
 have h3 : (D2 (E6 (Pe 2) B8 [2] F8 (Cv 1 (A2 0)))) [s0, s1, .fd (kvL L), s3, s4, s5, s6, s7, s8] = .ok (.list ((C5 L).map fun q => PyData.int (dp L q))) :=
   M5 (F7 (δc := [.fd (kvL L)]) hk (by rw [List.length_map, List.length_map]; omega) rfl hc)
 have hmx : Dr [.list (.int (-1) :: (C5 L).map fun q => PyData.int (dp L q))] = some (.int ((n : Int) - 1)) := by
   show ((Q5 (.int (-1) :: (C5 L).map fun q => PyData.int (dp L q))).bind Ra).map PyData.int = _
   rw [show Q5 (.int (-1) :: (C5 L).map fun q => PyData.int (dp L q)) = (Q5 ((C5 L).map fun q => PyData.int (dp L q))).map ((-1) :: ·) from rfl, Dl]
   show some (PyData.int (((C5 L).map fun q => dp L q).foldl max (-1))) = _
   rw [dE hB h1 h2]
 show K2 4 _ [s0, s1, .fd (kvL L), s3, s4, s5, s6, s7, s8] = _
 exact (O0 (Ca (B1 (M3 (x := .list [.int (-1)]) rfl h3 (Qa (by rw [List.length_map, List.length_map]; simp only [List.length_cons, List.length_nil]; omega))) rfl) hmx)).trans rfl
theorem iL {L : List Ent} (hB : Book L) : (C5 L).Pairwise fun a b => key a < key b := by rw [List.pairwise_map]; exact hB.up
theorem Xq {L : List Ent} (hB : Book L) {i : Nat} {δ : Dn} (hi : δ[i]? = some (.fd (kvL L))) : Dw i δ = .ok (.list ((C5 L).map idP)) := by
 have hl := hB.len
 have hup : (C5 L).Pairwise fun a b => rk3 a < rk3 b := iL hB
 have hnd : ((C5 L).map rk3).Nodup := by
   rw [List.nodup_iff_pairwise_ne, List.pairwise_map]; exact hup.imp fun {a b} h => by omega
 unfold Dw
 rw [hi]
 dsimp only
 rw [Iy hB, iM (C5 L) (Jc hB)]
 dsimp only
 rw [if_pos ⟨by rw [List.length_map]; omega, hnd⟩, Cw (P8 (C5 L)) (Ax (C5 L) hnd) hup]
theorem iS {L : List Ent} (hB : Book L) {n : Nat} (hn : n <= 9) (s0 s1 s3 s5 s6 s7 s8 : Sl) :
   Da [s0, s1, .fd (kvL L), s3, .sh (.int ((n : Int) - 1)), s5, s6, s7, s8] = .nx [s0, s1, .fd (kvL L), s3, .sh (.int ((n : Int) - 1)), .sh (.list ((M1 (dp L) n (C5 L)).map .list)), s6, s7, s8] := by
 have hl := hB.len
 have hsrc : (fun δ => ((A0 (b2 (A2 4) (vC (.int 1)) C2) A7) δ).bind Y6) [s0, s1, .fd (kvL L), s3, .sh (.int ((n : Int) - 1)), s5, s6, s7, s8] = .ok (R9 0 (n : Int)) :=
   Gm (B1 (M3 rfl rfl (by rw [Z8]; congr 2; omega)) rfl) (by omega) (by omega)
 have er : R9 0 (n : Int) = (List.range n).map fun i : Nat => PyData.int (0 + (i : Int)) := by unfold R9; simp
 have hel : ∀ i : Nat, (D2 (E6 (fun δ => ((Dw 1) δ).bind E8) B8 [1, 0] (C9 (b2 (Cv 1 (A2 0)) (A2 2) dEq)) (A2 0))) ([.sh (.int (0 + (i : Int)))] ++ [.fd (kvL L)]) = .ok (.list (((C5 L).filter fun q => decide (dp L q = (i : Int))).map idP)) := fun i => by
   refine M5 (F7 (δc := [.fd (kvL L), .sh (.int (0 + (i : Int)))]) (K4 (Xq hB rfl) rfl) (by rw [List.length_map, List.length_map]; omega) rfl (Cq (fun q => decide (dp L q = (i : Int))) (C5 L) fun q hq => ?_))
   refine O2 (M3 (getF hB hq rfl rfl) rfl ?_); rw [aR, Int.zero_add]; rfl
 have hc := Jm (δc := [.fd (kvL L)]) (fun i : Nat => PyData.int (0 + (i : Int))) (fun i => .list (((C5 L).filter fun q => decide (dp L q = (i : Int))).map idP)) hel (List.range n)
 have hrow : (M1 (dp L) n (C5 L)).map PyData.list = (List.range n).map fun i : Nat => PyData.list (((C5 L).filter fun q => decide (dp L q = (i : Int))).map idP) := by
   unfold M1 Op; rw [List.map_map, List.map_map]; rfl
 unfold Da Oo
 rw [F7 (δc := [.fd (kvL L)]) hsrc (by rw [er]; simp; omega) rfl (by rw [er]; exact hc), M7, hrow]
 rfl
theorem bW (rs : List (List PyData)) (h : ∀ r ∈ rs, PyData.eqvAll r r = true /\ PyData.depthAll r <= 2) : dNe (.list (rs.map .list)) (.list (rs.map .list)) = some (.bool false) := by
 have e : PyData.eqvAll (rs.map .list) (rs.map .list) = true /\ PyData.depthAll (rs.map .list) <= 3 := by
   induction rs with
   | nil => exact ⟨rfl, by simp [PyData.depthAll]⟩
   | cons r rs ih =>
     obtain ⟨i1, i2⟩ := ih fun x hx => h x (.tail _ hx)
     obtain ⟨e1, e2⟩ := h r (.head _); refine ⟨?_, ?_⟩
     . show (PyData.eqvAll r r && PyData.eqvAll (rs.map .list) (rs.map .list)) = true
       rw [e1, i1]; rfl
     . show max (_ + 1) _ <= 3
       exact Nat.max_le.mpr ⟨by omega, i2⟩
 have hd : (PyData.list (rs.map .list)).depth <= 4 := by show _ + 1 <= 4 <;> omega
 unfold dNe
 rw [if_pos (by omega)]
 have : PyData.eqv (.list (rs.map .list)) (.list (rs.map .list)) = true := e.1
 rw [this]; rfl
theorem iB {L : List Ent} (hB : Book L) {n : Nat} (hm : P2 [D3 L] = .ok (.list ((M1 (dp L) n (C5 L)).map .list))) (s0 s2 s3 s4 s6 s7 s8 : Sl) :
   Hk [s0, .sh (D3 L), s2, s3, s4, .sh (.list ((M1 (dp L) n (C5 L)).map .list)), s6, s7, s8] = .nx [s0, .sh (D3 L), s2, s3, s4, .sh (.list ((M1 (dp L) n (C5 L)).map .list)), s6, s7, s8] := by
 refine (W0 (O2 (b := false) (M3 (F5 (B1 rfl rfl) hm) rfl (bW _ fun r hr => ?_)))).trans rfl
 unfold M1 at hr
 obtain ⟨ids, _, rfl⟩ := List.mem_map.mp hr
 exact Nq ids
structure OddX (L : List Ent) (x : PyData) : Prop where
 ne : ∀ q ∈ C5 L, PyData.eqv (idP q) x = false
 sh : Er x = true \/ Aj x = true
 nf : ∀ {i : Nat} {f : Dn -> Res PyData} {δ : Dn}, f δ = .ok x -> δ[i]? = some (.fd (kvL L)) -> T8 i f δ = .ok (.bool true)
theorem Vg {ids : List IdP} {x : PyData} (he : ∀ q ∈ ids, PyData.eqv (idP q) x = false) : dIn true x (.list (ids.map idP)) = some (.bool true) := by
 have hd := (Nq ids).2
 show (if min (PyData.depthAll (ids.map idP)) x.depth <= 62 then some (PyData.bool (if true = true then !(ids.map idP).any fun y => PyData.eqv y x else (ids.map idP).any fun y => PyData.eqv y x)) else none) = _
 rw [if_pos (by omega), if_pos rfl]
 have : ((ids.map idP).any fun y => PyData.eqv y x) = false := by
   rw [List.any_eq_false]; intro y hy; obtain ⟨q, hq, rfl⟩ := List.mem_map.mp hy; rw [he q hq]; simp
 rw [this]; rfl
theorem Ir {L : List Ent} (hB : Book L) {x : PyData} (O : OddX L x) : B2 [D3 L, x] = .exc "NoDeed" := by
 have hl := hB.len
 unfold B2 K5 I9
 rw [Z0]
 simp only [D7, List.map_cons, List.map_nil, List.length_cons, List.length_nil, List.replicate, List.cons_append, List.nil_append, Nat.reduceAdd, Nat.reduceSub]
 rw [Aq (O2 (b := true) (M3 rfl (M5 (F7 (K4 (d := .tuple (L.map (·.1))) rfl rfl) (by simp; omega) rfl (Jp L hB.bk))) (Vg O.ne)))]
 show (if Er x = true \/ Aj x = true then Out.exc "NoDeed" else .no).fin = _
 rw [if_pos O.sh]; rfl
theorem Tj {g : Dn -> Out} {B x : PyData} {N : List Str} (h : B2 [B, x] = .exc "NoDeed") (hN : (A0 (A2 0) (A0 (A2 1) A7)) (D7 N [B, x]) = .ok [B, x]) : fnD N (E1 (Mo (B7 (A0 (A2 0) (A0 (A2 1) A7)) B2)) g) [B, x] = .exc "NoDeed" := by
 rw [Z0, Bl]
 unfold Mo
 rw [F5 hN h]
 rfl
theorem Wa {L : List Ent} (hB : Book L) {x : PyData} (O : OddX L x) : Q3 [D3 L, x] = .exc "NoDeed" := Tj (Ir hB O) rfl
theorem Vh {L : List Ent} (hB : Book L) {x : PyData} (O : OddX L x) : K8 [D3 L, x] = .exc "NoDeed" := Tj (Ir hB O) rfl
theorem Zc {L : List Ent} (hB : Book L) {p : IdP} (hp : p ∉ C5 L) (hs : Er (idP p) = true) : OddX L (idP p) where
 ne := fun q hq => by rw [Pl]; simp only [decide_eq_false_iff_not]; rintro rfl; exact hp hq
 sh := .inl hs
 nf := fun {i f δ} h hi => by
   unfold T8; rw [h, C4, hi]; simp only [O1]; have : (M2 (kvL L) (kkP p)).isSome = false := by
     show (M2 (kvG _) (kkP p)).isSome = false
     rw [Lj, List.map_map]; have : ((Z4 L []).map ((fun x : IdP × PyData => x.1) ∘ fun x : IdP × Int => (x.1, PyData.int x.2))) = C5 L := Dq hB
     rw [this]; simp [hp]
   rw [this]; rfl
theorem hV {L : List Ent} (hB : Book L) : OddX L (.tuple []) where
 ne := fun q _ => rfl
 sh := .inl (by decide +kernel)
 nf := fun {i f δ} h hi => by
   unfold T8; rw [h, C4, hi]; have hk : P0 (.tuple []) = some [] := rfl; simp only [hk]; have : ∀ xs : List (IdP × PyData), M2 (kvG xs) [] = none := fun xs => by
     induction xs with
     | nil => rfl
     | cons x xs ih =>
       show M2 ((.tuple ((kkP x.1).map M4), x.2) :: kvG xs) [] = none
       rw [Je, if_neg (by unfold kkP; simp), ih]
   show Res.ok (PyData.bool (!(M2 (kvG _) []).isSome)) = _
   rw [this]; rfl
theorem Es {L : List Ent} (hB : Book L) {x : PyData} (h1 : cV x = true) (h2 : Aj x = true) (h3 : ∀ q : IdP, PyData.eqv (idP q) x = false) (h4 : P0 x = none) : OddX L x where
 ne := fun q _ => h3 q
 sh := .inr h2
 nf := fun {i f δ} h hi => by
   unfold T8; rw [h, C4, hi]; simp only [h4]; rw [if_pos ⟨h1, Pd hB⟩]
noncomputable def aX : Dn -> Out := (sIf (Cs (C9 (T8 2 (A2 7))) (C9 (b2 (D2 (E6 (fun δ => ((A0 (vC (.int 2)) A7) δ).bind Y6) B8 [1, 7] F8 (B7 (A0 (A2 0) (A0 (A2 1) (A0 (A2 2) A7))) C6))) (b2 (D2 (A0 (K3 (A0 (vC (.str "refused")) (A0 (vC (.int 0)) A7))) A7)) (vC (.int 2)) L8) dNe))) (N9 (vC (.bool false))) L4)
theorem Zd {L : List Ent} (hB : Book L) {x : PyData} (O : OddX L x) (s0 s3 s4 s5 s6 s8 : Sl) : aX [s0, .sh (D3 L), .fd (kvL L), s3, s4, s5, s6, .sh x, s8] = .nx [s0, .sh (D3 L), .fd (kvL L), s3, s4, s5, s6, .sh x, s8] := by
 have t0 : C6 [.int 0, D3 L, x] = .ok Y7 := eM (Wa hB O)
 have t1 : C6 [.int 1, D3 L, x] = .ok Y7 := eK (Vh hB O)
 have hc : B6 B8 [.sh (D3 L), .sh x] F8 (B7 (A0 (A2 0) (A0 (A2 1) (A0 (A2 2) A7))) C6) [.int 0, .int 1] = .ok [Y7, Y7] := by
   have v0 : (B7 (A0 (A2 0) (A0 (A2 1) (A0 (A2 2) A7))) C6) ([.sh (.int 0)] ++ [.sh (D3 L), .sh x]) = .ok Y7 := F5 (B1 rfl (B1 rfl (B1 rfl rfl))) t0; have v1 : (B7 (A0 (A2 0) (A0 (A2 1) (A0 (A2 2) A7))) C6) ([.sh (.int 1)] ++ [.sh (D3 L), .sh x]) = .ok Y7 := F5 (B1 rfl (B1 rfl (B1 rfl rfl))) t1; unfold B6; simp only [B8, F8, v0]; unfold B6; simp only [B8, F8, v1]; rfl
 have h1 : (D2 (E6 (fun δ => ((A0 (vC (.int 2)) A7) δ).bind Y6) B8 [1, 7] F8 (B7 (A0 (A2 0) (A0 (A2 1) (A0 (A2 2) A7))) C6))) [s0, .sh (D3 L), .fd (kvL L), s3, s4, s5, s6, .sh x, s8] = .ok (.list [Y7, Y7]) :=
   M5 (F7 (δc := [.sh (D3 L), .sh x]) (ds := [.int 0, .int 1]) rfl (by simp) rfl hc)
 have h2 : (b2 (D2 (A0 (K3 (A0 (vC (.str "refused")) (A0 (vC (.int 0)) A7))) A7)) (vC (.int 2)) L8) [s0, .sh (D3 L), .fd (kvL L), s3, s4, s5, s6, .sh x, s8] = .ok (.list [Y7, Y7]) :=
   M3 (x := .list [Y7]) (y := .int 2) rfl rfl (by kernel_rfl)
 have h3 : dNe (.list [Y7, Y7]) (.list [Y7, Y7]) = some (.bool false) := by kernel_rfl
 have t : C9 (T8 2 (A2 7)) [s0, .sh (D3 L), .fd (kvL L), s3, s4, s5, s6, .sh x, s8] = .ok true := O2 (O.nf rfl rfl)
 have u := O2 (M3 h1 h2 h3)
 unfold aX
 rw [W0 (by unfold Cs; rw [t, C4, if_pos rfl]; exact u)]
 rfl
theorem Za {L : List Ent} (hB : Book L) : ∀ x ∈ [.tuple [.int 900, .str "a"], .tuple [.int 1, .str "h"], PyData.none, .int 3, .str "a1", .tuple []], OddX L x := fun x hx => by
 simp only [List.mem_cons, List.not_mem_nil, or_false] at hx
 rcases hx with rfl | rfl | rfl | rfl | rfl | rfl
 . refine Zc hB (p := (900, "a")) (fun h => ?_) (by decide +kernel)
   have := (Jc hB _ h).2.1; simp at this
 . refine Zc hB (p := (1, "h")) (fun h => ?_) (by decide +kernel)
   have := (Jc hB _ h).2.2
   revert this
   unfold okH
   decide +kernel
 . exact Es hB rfl rfl (fun _ => rfl) rfl
 . exact Es hB rfl (by decide +kernel) (fun _ => rfl) rfl
 . exact Es hB rfl (by decide +kernel) (fun _ => rfl) rfl
 . exact hV hB
noncomputable def Ez : PyData := .tuple [(.tuple [.str "add", (.tuple [.int 1, .str "a"]), .none, .str "ab"]), (.tuple [.str "drop", (.tuple [.int 2, .str "a"]), (.tuple [(.tuple [(.tuple [.int 1, .str "a"]), .int 0])])]), (.tuple [.str "undo", (.tuple [.int 3, .str "b"]), (.tuple [.int 2, .str "a"])])]
theorem dH : P2 [Ez] = .ok (.list [.list [.tuple [.int 1, .str "a"]], .list [.tuple [.int 2, .str "a"]], .list [.tuple [.int 3, .str "b"]]]) := by kernel_rfl
theorem Zt : P2 [.tuple []] = .ok (.list []) := by kernel_rfl
theorem dG : K8 [Ez, .tuple [.int 3, .str "b"]] = .ok (.list [.tuple [.int 1, .str "a"], .tuple [.int 2, .str "a"]]) := by kernel_rfl
theorem dI : Q3 [Ez, .tuple [.int 3, .str "b"]] = .ok (.int 2) := by kernel_rfl
theorem Yk (ns : List Int) (hns : ns.length <= 63) : Td [.list (ns.map PyData.int)] = .ok (.bool true) := by
 obtain ⟨x, y, z, hxyz, hn⟩ := Zh ns hns 0 (by omega) (by omega)
 obtain ⟨L, hbk, hB⟩ := Wm ns hns x y z hxyz
 obtain ⟨n, n9, hlay, r1, r2⟩ := Vm hB
 refine X3 ?_
 unfold Mi
 have h0 : Ho (D7 Qc [scr ns]) = .nx [.sh (scr ns), .sh (D3 L), .un, .un, .un, .un, .un, .un, .un] :=
   (O0 (F5 (B1 rfl (B1 rfl (B1 rfl (B1 (F5 (B1 rfl (B1 rfl rfl)) hn) rfl)))) hbk)).trans rfl
 rw [C8 h0]
 have h1 : Hn [.sh (scr ns), .sh (D3 L), .un, .un, .un, .un, .un, .un, .un] = .nx [.sh (scr ns), .sh (D3 L), .ow (.dict (kvI [])), .un, .un, .un, .un, .un, .un] := rfl
 rw [C8 h1]
 obtain ⟨s3, e2⟩ := Lm hB (.sh (scr ns)) .un .un .un .un .un L [] [] .un rfl rfl rfl
 have h2 : Hm [.sh (scr ns), .sh (D3 L), .ow (.dict (kvI [])), .un, .un, .un, .un, .un, .un] = .nx [.sh (scr ns), .sh (D3 L), .ow (.dict (kvL L)), s3, .un, .un, .un, .un, .un] :=
   W9 (src := fun δ => ((A2 1) δ).bind E8) (K4 (d := D3 L) rfl rfl) e2
 rw [C8 h2, C8 (dD hB r1 r2 _ _ _ _ _ _ _ _), C8 (iS hB n9 _ _ _ _ _ _ _), C8 (iB hB hlay _ _ _ _ _ _ _)]
 generalize (PyData.list ((M1 (dp L) n (C5 L)).map .list)) = D5
 generalize (PyData.int ((n : Int) - 1)) = D4
 have h6 : Hj [.sh (scr ns), .sh (D3 L), .fd (kvL L), s3, .sh D4, .sh D5, .un, .un, .un] = .nx [.sh (scr ns), .sh (D3 L), .fd (kvL L), s3, .sh D4, .sh D5, .sh (.list [.tuple [.int 900, .str "a"], .tuple [.int 1, .str "h"], .none, .int 3, .str "a1", .tuple []]), .un, .un] := rfl
 rw [C8 h6]
 obtain ⟨δ7, e7, s7, rfl⟩ := Ti (st := st1 7) (b := aX) (fun δ => ∃ s7, δ = [.sh (scr ns), .sh (D3 L), .fd (kvL L), s3, .sh D4, .sh D5, .sh (.list [.tuple [.int 900, .str "a"], .tuple [.int 1, .str "h"], .none, .int 3, .str "a1", .tuple []]), s7, .un]) [.tuple [.int 900, .str "a"], .tuple [.int 1, .str "h"], .none, .int 3, .str "a1", .tuple []] _ ⟨.un, rfl⟩ fun d hd δ ⟨s7, hδ⟩ => by
   subst hδ; exact ⟨_, _, rfl, Zd hB (Za hB d hd) _ _ _ _ _ _, _, rfl⟩
 have h7 : Hi [.sh (scr ns), .sh (D3 L), .fd (kvL L), s3, .sh D4, .sh D5, .sh (.list [.tuple [.int 900, .str "a"], .tuple [.int 1, .str "h"], .none, .int 3, .str "a1", .tuple []]), .un, .un] = _ :=
   W9 (src := fun δ => ((A2 6) δ).bind E8) (K4 rfl rfl) e7
 rw [C8 h7]
 have h8 : Hh [.sh (scr ns), .sh (D3 L), .fd (kvL L), s3, .sh D4, .sh D5, .sh (.list [.tuple [.int 900, .str "a"], .tuple [.int 1, .str "h"], .none, .int 3, .str "a1", .tuple []]), s7, .un] = .nx [.sh (scr ns), .sh (D3 L), .fd (kvL L), s3, .sh D4, .sh D5, .sh (.list [.tuple [.int 900, .str "a"], .tuple [.int 1, .str "h"], .none, .int 3, .str "a1", .tuple []]), s7, .sh Ez] := rfl
 rw [C8 h8]
 generalize (PyData.list [.tuple [.int 900, .str "a"], .tuple [.int 1, .str "h"], .none, .int 3, .str "a1", .tuple []]) = D6
 have n1 : dNe (.list [.list [.tuple [.int 1, .str "a"]], .list [.tuple [.int 2, .str "a"]], .list [.tuple [.int 3, .str "b"]]]) (.list [.list [.tuple [.int 1, .str "a"]], .list [.tuple [.int 2, .str "a"]], .list [.tuple [.int 3, .str "b"]]]) = some (.bool false) := by kernel_rfl
 have n2 : dNe (.list []) (.list []) = some (.bool false) := by kernel_rfl
 have n3 : dEq (.list [.tuple [.int 1, .str "a"], .tuple [.int 2, .str "a"]]) (.list [.tuple [.int 1, .str "a"], .tuple [.int 2, .str "a"]]) = some (.bool true) := by kernel_rfl
 have n4 : dEq (.int 2) (.int 2) = some (.bool true) := by kernel_rfl
 have h9 : Cz [.sh (scr ns), .sh (D3 L), .fd (kvL L), s3, .sh D4, .sh D5, .sh D6, s7, .sh Ez] = .nx [.sh (scr ns), .sh (D3 L), .fd (kvL L), s3, .sh D4, .sh D5, .sh D6, s7, .sh Ez] := by
   unfold Cz; refine (W0 ?_).trans rfl; unfold cOr; rw [O2 (M3 (F5 (B1 rfl rfl) dH) rfl n1), C4, if_neg (by decide)]; exact O2 (M3 (F5 (B1 rfl rfl) Zt) rfl n2)
 rw [C8 h9]
 unfold Dz
 refine O6 ?_
 rw [fM _ _ _ (M3 (Dx (B1 rfl (B1 rfl rfl)) dG) rfl n3)]
 exact M3 (Dx (B1 rfl (B1 rfl rfl)) dI) rfl n4
end Sm
end
set_option maxRecDepth 100000 in
set_option maxHeartbeats 0 in
theorem PySem.Challenge.cw_staymark_k46_depths_holds : PySem.Challenge.rw_staymark_k46_depths.Holds := by
 w_on; o_law; k_head; (case hw => w_witness2)
 k_fill
 refine Sm.walkD (l := PySem.Challenge.rw_staymark_k46_depths) rfl rfl rfl (fun w h Y => PySem.W.kIn_of Y) (fun w => ?hK) ?F Sm.Yk
 case hK => kernel_rfl
 case F =>
   intro w mg h KX G; refine' ⟨⟨?b0, ?b1, ?b2, ?b3, ?b4, ?b5, ?b6, ?b7, ?b8, ?b9, ?b10, ?b11⟩, ⟨?d0, ?d1, ?d2, ?d3, ?d4, ?d5, ?d6, ?d7, ?d8, ?d9, ?d10, ?d11, ?d12, ?d13, ?d14, ?d15, ?d16, ?d17, ?d18, ?d19⟩, _, _, ⟨?x0, ?x1⟩, ⟨?x2, ?x3, ?x6, ?x7, ⟨?y0, ?y1, ?y2, ?y3, ?y4, ?y5, ?y6, ?y7⟩, ?z0, ?z1, ?z2, ?z3, ?z4, ?z5⟩⟩
   case b0 => (refine' PySem.W.mg_none_of KX G ?z; (case z => k_is))
   case b1 => (refine' PySem.W.mg_none_of KX G ?z; (case z => k_is))
   case b2 => (refine' PySem.W.mg_none_of KX G ?z; (case z => k_is))
   case b3 => (refine' PySem.W.mg_none_of KX G ?z; (case z => k_is))
   case b4 => (refine' PySem.W.mg_none_of KX G ?z; (case z => k_is))
   case b5 => (refine' PySem.W.mg_none_of KX G ?z; (case z => k_is))
   case b6 => (refine' PySem.W.mg_none_of KX G ?z; (case z => k_is))
   case b7 => (refine' PySem.W.mg_none_of KX G ?z; (case z => k_is))
   case b8 => (refine' PySem.W.mg_none_of KX G ?z; (case z => k_is))
   case b9 => (refine' PySem.W.mg_none_of KX G ?z; (case z => k_is))
   case b10 => (refine' PySem.W.mg_none_of KX G ?z; (case z => k_is))
   case b11 => (refine' PySem.W.mg_none_of KX G ?z; (case z => k_is))
   case d0 => (refine' Sm.N2 KX G ?a ?l ?c ?k (fun _ _ _ _ _ _ us hl => match us, hl with | [_], _ => rfl); (case a => k_is); (case l => k_is); (case c => k_is); (case k => k_is))
   case d1 => (refine' Sm.N2 KX G ?a ?l ?c ?k (fun _ _ _ _ _ _ us hl => match us, hl with | [_], _ => rfl); (case a => k_is); (case l => k_is); (case c => k_is); (case k => k_is))
   case d2 => (refine' Sm.N2 KX G ?a ?l ?c ?k (fun _ _ _ _ _ _ us hl => match us, hl with | [_, _], _ => rfl); (case a => k_is); (case l => k_is); (case c => k_is); (case k => k_is))
   case d3 => (refine' Sm.N2 KX G ?a ?l ?c ?k (fun _ _ _ _ _ _ us hl => match us, hl with | [_], _ => rfl); (case a => k_is); (case l => k_is); (case c => k_is); (case k => k_is))
   case d4 => (refine' Sm.N2 KX G ?a ?l ?c ?k (fun _ _ _ _ _ _ us hl => match us, hl with | [_, _], _ => rfl); (case a => k_is); (case l => k_is); (case c => k_is); (case k => k_is))
   case d5 => (refine' Sm.N2 KX G ?a ?l ?c ?k (fun _ _ _ _ _ _ us hl => match us, hl with | [_], _ => rfl); (case a => k_is); (case l => k_is); (case c => k_is); (case k => k_is))
   case d6 => (refine' Sm.N2 KX G ?a ?l ?c ?k (fun _ _ _ _ _ _ us hl => match us, hl with | [_, _], _ => rfl); (case a => k_is); (case l => k_is); (case c => k_is); (case k => k_is))
   case d7 => (refine' Sm.N2 KX G ?a ?l ?c ?k (fun _ _ _ _ _ _ us hl => match us, hl with | [_, _], _ => rfl); (case a => k_is); (case l => k_is); (case c => k_is); (case k => k_is))
   case d8 => (refine' Sm.N2 KX G ?a ?l ?c ?k (fun _ _ _ _ _ _ us hl => match us, hl with | [_, _, _], _ => rfl); (case a => k_is); (case l => k_is); (case c => k_is); (case k => k_is))
   case d9 => (refine' Sm.N2 KX G ?a ?l ?c ?k (fun _ _ _ _ _ _ us hl => match us, hl with | [_, _], _ => rfl); (case a => k_is); (case l => k_is); (case c => k_is); (case k => k_is))
   case d10 => (refine' Sm.N2 KX G ?a ?l ?c ?k (fun _ _ _ _ _ _ us hl => match us, hl with | [_, _], _ => rfl); (case a => k_is); (case l => k_is); (case c => k_is); (case k => k_is))
   case d11 => (refine' Sm.N2 KX G ?a ?l ?c ?k (fun _ _ _ _ _ _ us hl => match us, hl with | [_], _ => rfl); (case a => k_is); (case l => k_is); (case c => k_is); (case k => k_is))
   case d12 => (refine' Sm.N2 KX G ?a ?l ?c ?k (fun _ _ _ _ _ _ us hl => match us, hl with | [_, _, _], _ => rfl); (case a => k_is); (case l => k_is); (case c => k_is); (case k => k_is))
   case d13 => (refine' Sm.N2 KX G ?a ?l ?c ?k (fun _ _ _ _ _ _ us hl => match us, hl with | [_, _, _, _, _], _ => rfl); (case a => k_is); (case l => k_is); (case c => k_is); (case k => k_is))
   case d14 => (refine' Sm.N2 KX G ?a ?l ?c ?k (fun _ _ _ _ _ _ us hl => match us, hl with | [_, _, _, _], _ => rfl); (case a => k_is); (case l => k_is); (case c => k_is); (case k => k_is))
   case d15 => (refine' Sm.N2 KX G ?a ?l ?c ?k (fun _ _ _ _ _ _ us hl => match us, hl with | [_], _ => rfl); (case a => k_is); (case l => k_is); (case c => k_is); (case k => k_is))
   case d16 => (refine' Sm.N2 KX G ?a ?l ?c ?k (fun _ _ _ _ _ _ us hl => match us, hl with | [_, _], _ => rfl); (case a => k_is); (case l => k_is); (case c => k_is); (case k => k_is))
   case d17 => (refine' Sm.N2 KX G ?a ?l ?c ?k (fun _ _ _ _ _ _ us hl => match us, hl with | [_], _ => rfl); (case a => k_is); (case l => k_is); (case c => k_is); (case k => k_is))
   case d18 => (refine' Sm.N2 KX G ?a ?l ?c ?k (fun _ _ _ _ _ _ us hl => match us, hl with | [_, _, _], _ => rfl); (case a => k_is); (case l => k_is); (case c => k_is); (case k => k_is))
   case d19 => (refine' Sm.N2 KX G ?a ?l ?c ?k (fun _ _ _ _ _ _ us hl => match us, hl with | [_], _ => rfl); (case a => k_is); (case l => k_is); (case c => k_is); (case k => k_is))
   case x0 => (refine' PySem.W.mg_of KX G ?z; (case z => k_is))
   case x2 => (refine' PySem.W.mg_of KX G ?z; (case z => k_is))
   case x3 => (refine' PySem.W.mg_of KX G ?z; (case z => k_is))
   case x1 => k_exc
   case x6 => (refine' PySem.W.mg_none_of KX G ?z; (case z => k_is))
   case x7 => (refine' PySem.W.mg_none_of KX G ?z; (case z => k_is))
   case y0 => (first | k_is | kernel_rfl)
   case y1 => (first | k_is | kernel_rfl)
   case y2 => (first | k_is | kernel_rfl)
   case y3 => (first | k_is | kernel_rfl)
   case y4 => (first | k_is | kernel_rfl)
   case y5 => (first | k_is | kernel_rfl)
   case y6 => (first | k_is | kernel_rfl)
   case y7 => (first | k_is | kernel_rfl)
   case z0 => (first | k_is | kernel_rfl)
   case z1 => (first | k_is | kernel_rfl)
   case z2 => (first | k_is | kernel_rfl)
   case z3 => (first | k_is | kernel_rfl)
   case z4 => (first | k_is | kernel_rfl)
   case z5 => (first | k_is | kernel_rfl)
