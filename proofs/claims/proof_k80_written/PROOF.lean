import PyProof.Rows.All
import Wide.All
import OpenK.AllK
import Wide.FinOn
import Lean
import PyProof.EqAt
import PyProof.EqKinds
import PyProof.TupleCall
import PyProof.StrCalls
import PyProof.SeqI3
import PyProof.Draws
import PyProof.EnumMake
import PyProof.DictValues
import PyProof.DictWalks
import PyProof.TupleOfSeq
import PyProof.TupleOfGen
import KE.KDictList
import PyProof.AttrMiss
import PyProof.IsiH_list
import KE.KRevIter
import PyProof.MinMaxWalk
import PyProof.Rows.CallKwBuiltin
import KE.KSortTup
import PyProof.Rows.SortWalk
import PyProof.Rows.SortShell
import PyProof.DictIter
import PyProof.MeetsStr
import PyProof.FactsAll.str_6
import PyProof.StrCalls2
import PyProof.MeetsStr2
import KE.KIntText
import PyProof.SliceStr2
import PySem.Challenge.RW_staymark_k80_written
set_option compiler.extract_closed false
set_option genInjectivity false
set_option genSizeOf false
set_option Elab.async false
set_option linter.all false
set_option maxRecDepth 100000
namespace L2
theorem ax1 (_h : True := by first | exact .inl rfl | exact .inr rfl | assumption) : True := trivial
theorem ax2 (_h : True := by decide) : True := trivial
theorem ax3 (_h : True := by first | exact nobehind _ (by decide) (by decide) | rfl) : True := trivial
theorem ax4 (_h : True := by rfl) : True := trivial
theorem ax5 (_h : True := by intro _; rfl) : True := trivial
theorem ax6 (_h : True := by with_unfolding_all rfl) : True := trivial
theorem ax7 (_h : True := by decide +kernel) : True := trivial
theorem ax8 (_h : True := by exact fun _ _ => rfl) : True := trivial
open PySem PySem.Spec PyProof.Rows
abbrev Key := Sum Int Str
noncomputable def keyIs : Key -> Value -> Bool
  | .inl k, v => Value.isInt k v
  | .inr x, v => Value.isStrOf x v
noncomputable def keyH (w : World) : Key -> Int
  | .inl k => hashInt k
  | .inr x => hashStr w x
theorem keyIs_shape : ∀ {k : Key} {v : Value}, keyIs k v = true -> (∃ i t, k = Sum.inl i /\ v = Value.int i t) \/ (∃ x t, k = Sum.inr x /\ v = Value.str x t)
  | .inl i, v, h => by
    obtain ⟨t, e⟩ := Value.isInt_shape (k := i) (v := v) h
    exact .inl ⟨i, t, rfl, e⟩
  | .inr x, v, h => by
    obtain ⟨t, e⟩ := Value.isStrOf_shape (x := x) (v := v) h
    exact .inr ⟨x, t, rfl, e⟩
theorem keyIs_int (i : Int) (t : Tok) : keyIs (.inl i) (.int i t) = true := by simp [keyIs, Value.isInt]
theorem keyIs_str (x : Str) (t : Tok) : keyIs (.inr x) (.str x t) = true := by simp [keyIs, Value.isStrOf]
theorem key_ll (a b : Int) : decide ((Sum.inl a : Key) = Sum.inl b) = (a == b) := by
  by_cases e : a = b
  . subst e; simp
  . have h : ¬ (Sum.inl a : Key) = Sum.inl b := fun q => e (Sum.inl.inj q)
    rw [decide_eq_false h]
    exact (beq_eq_false_iff_ne.mpr e).symm
theorem key_rr (a b : Str) : decide ((Sum.inr a : Key) = Sum.inr b) = decide (a = b) := by
  by_cases e : a = b
  . subst e; simp
  . have h : ¬ (Sum.inr a : Key) = Sum.inr b := fun q => e (Sum.inr.inj q)
    rw [decide_eq_false h, decide_eq_false e]
theorem key_lr (a : Int) (b : Str) : decide ((Sum.inl a : Key) = Sum.inr b) = false := decide_eq_false (fun q => nomatch q)
theorem key_rl (a : Str) (b : Int) : decide ((Sum.inr a : Key) = Sum.inl b) = false := decide_eq_false (fun q => nomatch q)
noncomputable def mixKind (prog : Program) (w : World) : PySem.KeyKind prog w Key where
  is := keyIs
  hash := keyH w
  inj := fun v a b ha hb => by
    rcases keyIs_shape ha with ⟨i, t, rfl, rfl⟩ | ⟨x, t, rfl, rfl⟩
    . rcases keyIs_shape hb with ⟨j, u, rfl, e⟩ | ⟨y, u, rfl, e⟩
      . injection e with e1 _; rw [e1]
      . exact nomatch e
    . rcases keyIs_shape hb with ⟨j, u, rfl, e⟩ | ⟨y, u, rfl, e⟩
      . exact nomatch e
      . injection e with e1 _; rw [e1]
  byValue := fun k v h => by
    rcases keyIs_shape h with ⟨i, t, rfl, rfl⟩ | ⟨x, t, rfl, rfl⟩ <;> rfl
  pyHash := fun hv h => by
    rcases keyIs_shape hv with ⟨i, t, rfl, rfl⟩ | ⟨x, t, rfl, rfl⟩
    . exact wpAny_pyHash_int h
    . exact wpAny_pyHash_str h
  eqBool := fun hu hv h => by
    rcases keyIs_shape hu with ⟨i, t, rfl, rfl⟩ | ⟨x, t, rfl, rfl⟩
    . rcases keyIs_shape hv with ⟨j, u, rfl, rfl⟩ | ⟨y, u, rfl, rfl⟩
      . rw [key_ll] at h; exact wpAny_eqBool_int h
      . rw [key_lr] at h; exact SeqAt.EqAt.int_str i t y u _ _ _ _ h
    . rcases keyIs_shape hv with ⟨j, u, rfl, rfl⟩ | ⟨y, u, rfl, rfl⟩
      . rw [key_rl] at h; exact SeqAt.EqAt.str_int x t j u _ _ _ _ h
      . rw [key_rr] at h; exact wpAny_eqBool_str h
  «strs» := fun k x t v h => by
    rcases keyIs_shape h with ⟨i, u, rfl, e⟩ | ⟨y, u, rfl, e⟩
    . exact nomatch e
    . injection e with e1 _
      subst e1
      cases v <;> rfl
theorem mixKind_int (prog : Program) (w : World) (i : Int) (t : Tok) : (mixKind prog w).is (.inl i) (.int i t) = true := keyIs_int i t
theorem mixKind_str (prog : Program) (w : World) (x : Str) (t : Tok) : (mixKind prog w).is (.inr x) (.str x t) = true := keyIs_str x t
end L2
namespace L2
open PySem PySem.Spec PyProof.Rows
inductive V where
  | non | bl (b : Bool) | int (i : Int) | str (x : Str) | byt (b : Array UInt8) | flt (b : UInt64) | ref (a : Addr) | ty (n : String)
noncomputable instance isNon (x : V) : Decidable (x = V.non) := by cases x <;> first | exact isTrue rfl | exact isFalse (fun h => nomatch h)
def RelV : V -> Value -> Prop
  | .non, u => u = Value.none
  | .bl b, u => u = Value.bool b
  | .int i, u => ∃ t, u = Value.int i t
  | .str x, u => ∃ t, u = Value.str x t
  | .byt b, u => ∃ t, u = Value.bytes b t
  | .flt b, u => ∃ t, u = Value.float b t
  | .ref a, u => u = Value.ref a
  | .ty n, u => u = Value.type n
abbrev Vals : List V -> List Value -> Prop := Paired RelV
theorem Vals.length {xs : List V} {us : List Value} (r : Vals xs us) : xs.length = us.length := Paired.length r
theorem Vals.get : ∀ {xs : List V} {us : List Value} {i : Nat} {x : V}, Vals xs us -> xs[i]? = some x -> ∃ u, us[i]? = some u /\ RelV x u
  | _, _, _, _, .nil, e => by simp at e
  | _, _, 0, _, .cons r _, e => by simp at e; subst e; exact ⟨_, rfl, r⟩
  | _, _, i + 1, x, .cons _ t, e => by
    obtain ⟨u, h1, h2⟩ := Vals.get (i := i) (x := x) t (by simpa using e)
    exact ⟨u, by simpa using h1, h2⟩
theorem Vals.append : ∀ {xs ys : List V} {us ws : List Value}, Vals xs us -> Vals ys ws -> Vals (xs ++ ys) (us ++ ws)
  | _, _, _, _, .nil, s => s
  | _, _, _, _, .cons r t, s => .cons r (Vals.append t s)
theorem Vals.take : ∀ {xs : List V} {us : List Value} (n : Nat), Vals xs us -> Vals (xs.take n) (us.take n)
  | _, _, 0, _ => .nil
  | _, _, _ + 1, .nil => .nil
  | _, _, n + 1, .cons r t => .cons r (Vals.take n t)
theorem Vals.drop : ∀ {xs : List V} {us : List Value} (n : Nat), Vals xs us -> Vals (xs.drop n) (us.drop n)
  | _, _, 0, r => r
  | _, _, _ + 1, .nil => .nil
  | _, _, n + 1, .cons _ t => Vals.drop n t
def RelO : Option V -> Option Value -> Prop
  | some v, some u => RelV v u
  | none, none => True
  | _, _ => False
def KV {κ : Type} : List (κ × V) -> List (κ × Value) -> Prop := Paired fun (p : κ × V) (q : κ × Value) => p.1 = q.1 /\ RelV p.2 q.2
noncomputable def kV : Key -> V
  | .inl i => .int i
  | .inr x => .str x
inductive HO where
  | lst (xs : List V)
  | tup (xs : List V)
  | dK (kvs : List (Key × V)) | dT (kvs : List (List Key × V))
  | set (S : Int -> Bool) (n : Nat)
  | ins (C dx : Addr) (fs : List (Str × V))
  | own (x : Addr)
  | xd (fs : List (Str × V))
  | met (f x : Addr)
  | rng (lo hi : Int)
  | frz (o : Obj) (u : HO)
  | tbl (ps : Array Value)
  | ext (φ : Heap -> Prop)
abbrev Hp := Addr -> Option HO
noncomputable def upd (H : Hp) (a : Addr) (o : HO) : Hp := fun b => if b = a then some o else H b
theorem upd_same {H : Hp} {a : Addr} {o : HO} : upd H a o a = some o := by unfold upd; rw [if_pos rfl]
theorem upd_ne {H : Hp} {a b : Addr} {o : HO} (h : b ≠ a) : upd H a o b = H b := by unfold upd; rw [if_neg h]
theorem upd_upd {H : Hp} {a : Addr} {o u : HO} : upd (upd H a o) a u = upd H a u := by
  funext b; unfold upd; split <;> rfl
theorem ne_of {H : Hp} {a b : Addr} {o u : HO} (h : H a = some o) (h' : H b = some u) (d : o ≠ u) : a ≠ b := by
  intro e; subst e; rw [h] at h'; exact d (Option.some.inj h')
theorem ne_of_none {H : Hp} {a b : Addr} {o : HO} (h : H a = some o) (h' : H b = none) : a ≠ b := by
  intro e; subst e; rw [h] at h'; cases h'
section
variable (P : Program) (w : World)
def ObjOk (H : Hp) (h : Heap) (a : Addr) : HO -> Prop
  | .lst xs => xs.length <= sizeLine /\ ∃ (its : List Value) (n : Nat), Vals xs its /\ h.get? a = some { cls := .type "list", data := .seq its.toArray n }
  | .tup xs => xs.length <= sizeLine /\ ∃ its : List Value, Vals xs its /\ IsTup h a its.toArray
  | .dK kvs => kvs.length <= sizeLine /\ (a == sysModules) = false /\ ∃ vs, KV kvs vs /\ h.DictOf (mixKind P w) a vs
  | .dT kvs => kvs.length <= sizeLine /\ (a == sysModules) = false /\ ∃ xs : List (List Key × Addr × Value),
      Paired (fun (p : List Key × V) (q : List Key × Addr × Value) => p.1 = q.1 /\ H q.2.1 = some (.tup (p.1.map kV)) /\ RelV p.2 q.2.2) kvs xs /\
      ∃ o es ep, h.get? a = some o /\ o.ExactDict /\ o.data = .dict es ep /\ es.toList = xs.map (entryOfKey (tupleKind (mixKind P w))) /\ (xs.map (·.1)).Nodup
  | .set S n => h.SetOf (intKind P w) a S n
  | .ins C dx fs => H dx = some (.own a) /\ fs.length <= 1000 /\ dx ≠ a /\ h.get? a = some (PySem.W.instObj C dx) /\
      ∃ mA, h.Ns1 dx mA /\ (∀ f, RelO (fs.lookup f) (mA f)) /\ PySem.Within mA (fs.map (·.1))
  | .own _ => ∃ o, h.get? a = some o
  | .xd fs => ∃ mA, h.Ns1 a mA /\ ∀ f, RelO (fs.lookup f) (mA f)
  | .rng lo hi => ∃ t u v, h.get? a = some { cls := .type "range", data := .fields #[.int lo t, .int hi u, .int 1 v] }
  | .frz o u => h.get? a = some o /\ ObjOk H h a u
  | .tbl ps => h.get? a = some { cls := .none, data := .fields ps }
  | .met f x => h.get? a = some (PySem.W.methodObj (.ref f) (.ref x))
  | .ext φ => φ h /\ (∃ o, h.get? a = some o) /\ ∀ h1 h2 : Heap, φ h1 -> (∀ o, h1.get? a = some o -> h2.get? a = some o) -> φ h2
def HOk (H : Hp) (h : Heap) : Prop := ∀ a o, H a = some o -> ObjOk P w H h a o
end
section
variable {P : Program} {w : World} {H H' : Hp} {h h' : Heap} {a : Addr} {o : HO}
theorem ObjOk.lt (x : ObjOk P w H h a o) : a < h.objs.size := by
  cases o with
  | lst xs => obtain ⟨_, _, _, _, e⟩ := x; exact Heap.lt_size e
  | tup xs => obtain ⟨_, _, _, p⟩ := x; exact p.lt
  | dK kvs => obtain ⟨_, _, _, _, o, _, _, e, _⟩ := x; exact Heap.lt_size e
  | dT kvs => obtain ⟨_, _, _, _, o, _, _, e, _⟩ := x; exact Heap.lt_size e
  | set S n => obtain ⟨o, _, _, _, e, _⟩ := x; exact Heap.lt_size e
  | ins C dx fs => obtain ⟨_, _, _, e, _⟩ := x; exact Heap.lt_size e
  | own y => obtain ⟨_, e⟩ := x; exact Heap.lt_size e
  | xd fs => obtain ⟨_, ⟨_, _, _, e, _⟩, _⟩ := x; exact Heap.lt_size e
  | rng lo hi => obtain ⟨_, _, _, e⟩ := x; exact Heap.lt_size e
  | frz ob u => obtain ⟨e, _⟩ := x; exact Heap.lt_size e
  | tbl ps => exact Heap.lt_size (show h.get? a = some _ from x)
  | met f y => exact Heap.lt_size (show h.get? a = some _ from x)
  | ext φ => obtain ⟨_, ⟨_, e⟩, _⟩ := x; exact Heap.lt_size e
theorem Paired.mapP {α β : Type} {F G : α -> β -> Prop} : ∀ {l₁ : List α} {l₂ : List β}, Paired F l₁ l₂ -> (∀ a b, F a b -> G a b) -> Paired G l₁ l₂
  | _, _, .nil, _ => .nil
  | _, _, .cons r t, f => .cons (f _ _ r) (Paired.mapP t f)
theorem ObjOk.stay (x : ObjOk P w H h a o) (k : ∀ b u, (b = a \/ H b = some (.own a)) -> h.get? b = some u -> h'.get? b = some u)
    (ho : ∀ b, H b = some (.own a) -> H' b = some (.own a)) (ht : ∀ b xs, H b = some (.tup xs) -> H' b = some (.tup xs)) : ObjOk P w H' h' a o := by
  induction o with
  | lst xs => obtain ⟨z, its, n, r, e⟩ := x; exact ⟨z, its, n, r, k _ _ (.inl rfl) e⟩
  | tup xs => obtain ⟨z, its, r, ob, e, c⟩ := x; exact ⟨z, its, r, ob, k _ _ (.inl rfl) e, c⟩
  | dK kvs => obtain ⟨z, y, vs, r, ob, es, ep, e, c⟩ := x; exact ⟨z, y, vs, r, ob, es, ep, k _ _ (.inl rfl) e, c⟩
  | dT kvs =>
    obtain ⟨z, y, xs, r, ob, es, ep, e, c⟩ := x
    exact ⟨z, y, xs, Paired.mapP r fun p q z => ⟨z.1, ht _ _ z.2.1, z.2.2⟩, ob, es, ep, k _ _ (.inl rfl) e, c⟩
  | set S n => obtain ⟨ob, es, ep, t, e, c⟩ := x; exact ⟨ob, es, ep, t, k _ _ (.inl rfl) e, c⟩
  | ins C dx fs =>
    obtain ⟨d, z, ne, e, mA, ⟨od, es, ep, e2, c⟩, r⟩ := x
    exact ⟨ho _ d, z, ne, k _ _ (.inl rfl) e, mA, ⟨od, es, ep, k _ _ (.inr d) e2, c⟩, r⟩
  | own y => obtain ⟨ob, e⟩ := x; exact ⟨ob, k _ _ (.inl rfl) e⟩
  | xd fs => obtain ⟨mA, ⟨od, es, ep, e, c⟩, r⟩ := x; exact ⟨mA, ⟨od, es, ep, k _ _ (.inl rfl) e, c⟩, r⟩
  | rng lo hi => obtain ⟨t, u, v, e⟩ := x; exact ⟨t, u, v, k _ _ (.inl rfl) e⟩
  | frz ob u ih => obtain ⟨e, q⟩ := x; exact ⟨k _ _ (.inl rfl) e, ih q⟩
  | tbl ps =>
    have e : h.get? a = some { cls := .none, data := .fields ps } := x
    show h'.get? a = some { cls := .none, data := .fields ps }
    exact k a _ (.inl rfl) e
  | met f y =>
    have e : h.get? a = some (PySem.W.methodObj (.ref f) (.ref y)) := x
    show h'.get? a = some (PySem.W.methodObj (.ref f) (.ref y))
    exact k a _ (.inl rfl) e
  | ext φ => obtain ⟨p, ⟨o, e⟩, st⟩ := x; exact ⟨st _ _ p fun o q => k _ _ (.inl rfl) q, ⟨o, k _ _ (.inl rfl) e⟩, st⟩
theorem HOk.lt (x : HOk P w H h) (e : H a = some o) : a < h.objs.size := (x a o e).lt
theorem HOk.fresh (x : HOk P w H h) (e : h.objs.size <= a) : H a = none := by
  cases q : H a with
  | none => rfl
  | some u => exact absurd (Nat.lt_of_lt_of_le (x.lt q) e) (Nat.lt_irrefl _)
theorem HOk.kept (x : HOk P w H h) (k : ∀ b u, h.get? b = some u -> h'.get? b = some u) : HOk P w H h' := fun a o e =>
  (x a o e).stay (fun b u _ q => k b u q) (fun _ q => q) fun _ _ q => q
theorem HOk.laid (x : HOk P w H h) (k : ∀ b u, h.get? b = some u -> h'.get? b = some u) (hp : h.objs.size <= a) (new : ObjOk P w (upd H a o) h' a o) : HOk P w (upd H a o) h' := fun b u e => by
  have hn := x.fresh hp
  by_cases hb : b = a
  . subst hb; rw [upd_same] at e; cases e; exact new
  . rw [upd_ne hb] at e
    exact (x b u e).stay (fun c v _ q => k c v q) (fun c q => by rw [upd_ne (ne_of_none q hn)]; exact q) fun c xs q => by rw [upd_ne (ne_of_none q hn)]; exact q
end
def Rd (H : Hp) (a : Addr) (u : HO) : Prop := H a = some u \/ ∃ o, H a = some (.frz o u)
theorem Rd.ok {P : Program} {w : World} {H : Hp} {h : Heap} {a : Addr} {u : HO} (r : Rd H a u) (x : HOk P w H h) : ObjOk P w H h a u := by
  rcases r with r | ⟨o, r⟩
  . exact x a u r
  . obtain ⟨_, q⟩ := x a _ r
    exact q
def Mut : Option HO -> Prop
  | some (.lst _) => True
  | some (.dK _) => True
  | some (.dT _) => True
  | some (.set _ _) => True
  | some (.ins _ _ _) => True
  | some (.ext _) => True
  | _ => False
section
variable {P : Program} {w : World} {H : Hp} {h h' : Heap} {x e : Addr} {o' : HO}
theorem HOk.write (ok : HOk P w H h) (mu : Mut (H x)) (he : e = x \/ H e = some (.own x)) (k : ∀ b u, b ≠ e -> h.get? b = some u -> h'.get? b = some u) (heo : ∃ u, h'.get? e = some u)
    (new : ObjOk P w (upd H x o') h' x o') : HOk P w (upd H x o') h' := fun b u q => by
  have nown : ∀ c y, H c = some (.own y) -> c ≠ x := fun c y r z => by subst z; rw [r] at mu; exact mu
  have ntup : ∀ c xs, H c = some (.tup xs) -> c ≠ x := fun c xs r z => by subst z; rw [r] at mu; exact mu
  by_cases hb : b = x
  . subst hb; rw [upd_same] at q; cases q; exact new
  . rw [upd_ne hb] at q
    by_cases hbe : b = e
    . have q' : H b = some (.own x) := by
        rcases he with z | z
        . exact absurd (hbe.trans z) hb
        . rw [hbe]; exact z
      rw [q] at q'; cases q'
      obtain ⟨v, hv⟩ := heo
      exact ⟨v, by rw [hbe]; exact hv⟩
    . refine (ok b u q).stay (fun c v hc r => k c v ?_ r) (fun c r => by rw [upd_ne (nown c b r)]; exact r) fun c xs r => by rw [upd_ne (ntup c xs r)]; exact r
      rcases hc with rfl | hc
      . exact hbe
      . rintro rfl
        rcases he with z | z
        . exact nown c b hc z
        . rw [hc] at z; cases z; exact hb rfl
end
structure Un (fs ex : List Addr) (H H' : Hp) (h h' : Heap) : Prop where
  keep : ∀ b o, h.get? b = some o -> H b = none -> b ∉ fs -> b ∉ ex -> h'.get? b = some o
  slot : ∀ b o, h.get? b = some o -> H b = none -> b ∈ fs -> b ∉ ex -> ∃ sl, h'.get? b = some { o with slots := sl }
  free : ∀ b o, h.get? b = some o -> H b = none -> b ∉ ex -> H' b = none
  there : ∀ b o, h.get? b = some o -> b ∉ ex -> ∃ o', h'.get? b = some o'
  tups : ∀ b xs, H b = some (.tup xs) -> H' b = some (.tup xs)
  frzs : ∀ b o u, H b = some (.frz o u) -> H' b = some (.frz o u)
  tbls : ∀ b ps, H b = some (.tbl ps) -> ∃ more, H' b = some (.tbl (ps ++ more))
section
variable {fs fs' ex ex' : List Addr} {H H1 H2 : Hp} {h h1 h2 h' : Heap} {a x e : Addr} {o : HO}
theorem Un.any (u : Un fs ex H H1 h h1) {b : Addr} {ob : Obj} (q : h.get? b = some ob) (n : H b = none) (hx : b ∉ ex) : ∃ sl, h1.get? b = some { ob with slots := sl } := by
  by_cases hb : b ∈ fs
  . exact u.slot b ob q n hb hx
  . exact ⟨ob.slots, u.keep b ob q n hb hx⟩
theorem Un.kept (k : ∀ b u, h.get? b = some u -> h'.get? b = some u) : Un fs ex H H h h' :=
  ⟨fun b ob q _ _ _ => k b ob q, fun b ob q _ _ _ => ⟨ob.slots, k b ob q⟩, fun _ _ _ n _ => n, fun b ob q _ => ⟨ob, k b ob q⟩, fun _ _ q => q, fun _ _ _ q => q, fun _ ps q => ⟨#[], by rw [q]; simp⟩⟩
theorem Un.refl : Un fs ex H H h h := Un.kept fun _ _ q => q
theorem Un.laid (k : ∀ b u, h.get? b = some u -> h'.get? b = some u) (hp : h.objs.size <= a) (hn : H a = none) : Un fs ex H (upd H a o) h h' where
  keep := fun b u q _ _ _ => k b u q
  slot := fun b u q _ _ _ => ⟨u.slots, k b u q⟩
  free := fun b u q n _ => by rw [upd_ne (Nat.ne_of_lt (Nat.lt_of_lt_of_le (Heap.lt_size q) hp))]; exact n
  there := fun b u q _ => ⟨u, k b u q⟩
  tups := fun b xs q => by rw [upd_ne (ne_of_none q hn)]; exact q
  frzs := fun b u xs q => by rw [upd_ne (ne_of_none q hn)]; exact q
  tbls := fun b ps q => ⟨#[], by rw [upd_ne (ne_of_none q hn), q]; simp⟩
theorem Un.write (mu : Mut (H x)) (he : e = x \/ H e = some (.own x)) (k : ∀ b u, b ≠ e -> h.get? b = some u -> h'.get? b = some u) (heo : ∃ u, h'.get? e = some u) : Un fs ex H (upd H x o) h h' := by
  have hx : ∀ b, H b = none -> b ≠ x := fun b n z => by subst z; rw [n] at mu; exact mu
  have hb : ∀ b, H b = none -> b ≠ e := fun b n z => by
    subst z
    rcases he with r | r
    . exact hx b n r
    . rw [n] at r; cases r
  have hm : ∀ b u, H b = some u -> ¬ Mut (some u) -> b ≠ x := fun b u q nm z => by subst z; rw [q] at mu; exact nm mu
  refine ⟨fun b u q n _ _ => k b u (hb b n) q, fun b u q n _ _ => ⟨u.slots, k b u (hb b n) q⟩, fun b u q n _ => by rw [upd_ne (hx b n)]; exact n, fun b u q _ => ?_,
    fun b xs q => by rw [upd_ne (hm b _ q fun z => z)]; exact q, fun b u xs q => by rw [upd_ne (hm b _ q fun z => z)]; exact q, fun b ps q => ⟨#[], by rw [upd_ne (hm b _ q fun z => z), q]; simp⟩⟩
  by_cases hbe : b = e
  . subst hbe; exact heo
  . exact ⟨u, k b u hbe q⟩
end
noncomputable def trk (h : Heap) (H : Hp) : List Addr := (List.range h.objs.size).filter fun a => (H a).isSome
noncomputable def hidT (h : Heap) (H : Hp) : Heap := PySem.W.hideAll h (trk h H)
theorem hidT_size (h : Heap) (H : Hp) : (hidT h H).objs.size = h.objs.size := PySem.W.hideAll_size _ _
theorem hidT_get {h : Heap} {H : Hp} {b : Addr} {o : Obj} (e : h.get? b = some o) (n : H b = none) : (hidT h H).get? b = some o :=
  PySem.W.hideAll_get _ e fun hm => by
    have q : (H b).isSome = true := (List.mem_filter.mp hm).2
    rw [n] at q; simp at q
theorem of_hidT {h : Heap} {H : Hp} {b : Addr} {o : Obj} (e : (hidT h H).get? b = some o) : h.get? b = some o /\ H b = none := by
  have e' : h.get? b = some o := PySem.W.of_hideAll (trk h H) e
  refine ⟨e', ?_⟩
  cases q : H b with
  | none => rfl
  | some x =>
    have hm : b ∈ trk h H := List.mem_filter.mpr ⟨List.mem_range.mpr (Heap.lt_size e'), by simp [q]⟩
    have z : (hidT h H).get? b = none := PySem.W.hideAll_none (trk h H) hm
    rw [z] at e; cases e
noncomputable def allNews (g h : Heap) (L : Addr) : List (Addr × Obj) := (List.range h.objs.size).filterMap fun a => if a = L \/ (g.get? a).isSome = true then none else (h.get? a).map fun o => (a, o)
noncomputable def rest (g h : Heap) (L d : Addr) : List (Addr × Obj) := (allNews g h L).filter fun p => decide (p.1 ≠ d)
end L2
namespace L2
open PySem PySem.Spec PyProof.Rows
structure Mod (K : PySem.W.Frag) (mg : Str -> Option Value) (base : Heap) : Prop where
  kin : K.In base
  glob : base.Ns mainGlobals mg
  blt : ∃ mb, base.Ns builtinsNs mb /\ ∀ x : Str, x ≠ "__name__" -> mb x = bootBuiltins x
  nolimit : base.NoLimit
structure Cx where
  prog : Program
  w : World
  K : PySem.W.Frag
  mg : Str -> Option Value
  base : Heap
  A : Around
  N : List Str
  s₀ : Shared
  H₀ : Hp
  env : Env
  outer : List Env
  stack : List Env
  ex : List Addr
  fn : Str -> Bool
  calm : Bool
  pn : List (Addr × Obj)
  xe : Value -> Shared -> Prop
noncomputable def frs (l : List Env) : List Addr := l.filterMap (·.frame)
noncomputable abbrev Cx.fs (X : Cx) : List Addr := frs X.outer
def Vis (sc : Scope) (x : Str) : Prop := sc.names.lookup x = some .local \/ sc.names.lookup x = some .cell \/ sc.names.lookup x = some .free
def Loc (sc : Scope) (x : Str) : Prop := sc.names.lookup x = some .local \/ sc.names.lookup x = some .cell
def Look (env : Env) (h : Heap) (m : Str -> Option Value) (x : Str) (u : Value) : Prop :=
  (env.kindOf x = some .local /\ m x = some u) \/ ((env.kindOf x = some .cell \/ env.kindOf x = some .free) /\ ∃ c, env.cells.lookup x = some c /\ h.IsCell c (some u))
structure Cx.Ok (X : Cx) : Prop where
  mod : Mod X.K X.mg X.base
  kind : X.env.scope.kind = .function
  glob : X.env.globals = mainGlobals
  blt : X.env.builtins = builtinsNs
  above : X.s₀.heap.objs.size <= X.env.locals
  inj : ∀ x y c, X.env.cells.lookup x = some c -> X.env.cells.lookup y = some c -> x = y
  has : ∀ x, (X.env.kindOf x = some .cell \/ X.env.kindOf x = some .free) -> ∃ c, X.env.cells.lookup x = some c
  cab : ∀ x c, X.fn x = true -> X.env.cells.lookup x = some c -> X.s₀.heap.objs.size <= c
  hd : X.calm = true -> X.A.handled = none
  frames : X.A.frames = some X.stack
  stk : X.stack = X.outer \/ (X.stack = X.env :: X.outer /\ X.env.frame = some X.env.locals)
  exf : ∀ b ∈ X.ex, b ≠ X.env.locals /\ ∀ x c, X.env.cells.lookup x = some c -> c ≠ b
  bs : ∀ b o, X.base.get? b = some o -> X.s₀.heap.get? b = some o /\ X.H₀ b = none
  bsz : X.base.objs.size <= X.s₀.heap.objs.size
  noex : ∀ b o, X.base.get? b = some o -> b ∉ X.ex
  exfs : ∀ b ∈ X.ex, b ∉ X.fs
  funs : X.s₀.heap.FunFrames X.base X.outer
  frf : ∀ b ∈ X.fs, X.H₀ b = none
structure Inv (X : Cx) (pins : List (Addr × Obj)) (σ : List (Option V)) (H : Hp) (s : Shared) : Prop where
  ok : X.Ok
  os : s.os = X.s₀.os
  bare : AllBare s.gens
  base : Un X.fs X.ex X.H₀ H X.s₀.heap s.heap
  loc : ∃ m, s.heap.Ns X.env.locals m /\ ∀ (i : Nat) (x : Str) (v : V), X.N[i]? = some x -> σ[i]? = some (some v) -> Vis X.env.scope x -> ∃ u, RelV v u /\ Look X.env s.heap m x u
  cell : ∀ x c, X.env.cells.lookup x = some c -> ∃ v, s.heap.IsCell c v
  free : H X.env.locals = none
  freeC : ∀ x c, X.env.cells.lookup x = some c -> H c = none
  pin : ∀ p ∈ X.pn ++ pins, s.heap.get? p.1 = some p.2 /\ H p.1 = none /\ p.1 ≠ X.env.locals /\ p.1 ∉ X.fs /\ ∀ v, p.2.data ≠ .cell v
  hok : HOk X.prog X.w H s.heap
  len : σ.length = X.N.length
section
variable {X : Cx} {pins : List (Addr × Obj)} {σ : List (Option V)} {H H' : Hp} {s : Shared} {h' : Heap}
theorem Cx.Ok.nofr (ok : X.Ok) {b : Addr} {o : Obj} (e : X.base.get? b = some o) : b ∉ X.fs := fun hb => by
  have := (ok.funs.mem hb).1
  rw [e] at this; cases this
theorem Inv.bs (I : Inv X pins σ H s) : ∀ b o, X.base.get? b = some o -> s.heap.get? b = some o /\ H b = none := fun b o e =>
  ⟨I.base.keep b o (I.ok.bs b o e).1 (I.ok.bs b o e).2 (I.ok.nofr e) (I.ok.noex b o e), I.base.free b o (I.ok.bs b o e).1 (I.ok.bs b o e).2 (I.ok.noex b o e)⟩
theorem Inv.bk (I : Inv X pins σ H s) : ∀ b o, X.base.get? b = some o -> s.heap.get? b = some o := fun b o e => (I.bs b o e).1
theorem Inv.mod (I : Inv X pins σ H s) : Mod X.K X.mg X.base := I.ok.mod
theorem Inv.kIn (I : Inv X pins σ H s) : X.K.In s.heap := I.ok.mod.kin.keeps I.bk
theorem Inv.fr (I : Inv X pins σ H s) : ∃ m, Fr X.base X.env.locals s.heap m :=
  let ⟨m, hn, _⟩ := I.loc
  ⟨m, hn, I.bk, Nat.le_trans I.ok.bsz I.ok.above⟩
theorem Inv.lt (I : Inv X pins σ H s) : X.env.locals < s.heap.objs.size := let ⟨_, hn, _⟩ := I.loc; hn.lt
theorem Inv.sz (I : Inv X pins σ H s) : X.s₀.heap.objs.size <= s.heap.objs.size := Nat.le_trans I.ok.above (Nat.le_of_lt I.lt)
theorem Inv.nofs (I : Inv X pins σ H s) {a : Addr} (h : s.heap.objs.size <= a) : a ∉ X.fs := fun hb => by
  obtain ⟨_, o, ho, _⟩ := I.ok.funs.mem hb
  exact absurd (Nat.lt_of_lt_of_le (Heap.lt_size ho) (Nat.le_trans I.sz h)) (Nat.lt_irrefl _)
theorem Inv.cne (I : Inv X pins σ H s) : ∀ x c, X.env.cells.lookup x = some c -> c ≠ X.env.locals := fun x c e z => by
  obtain ⟨v, o, ho, hd⟩ := I.cell x c e
  obtain ⟨m, ⟨o', es, ep, ho', hd', _⟩, _⟩ := I.loc
  rw [z, ho'] at ho; cases ho; rw [hd'] at hd; cases hd
theorem Inv.funs (I : Inv X pins σ H s) : s.heap.FunFrames X.base X.outer := by
  have all : ∀ (l : List Env), (∀ b ∈ frs l, b ∈ X.fs) -> X.s₀.heap.FunFrames X.base l -> s.heap.FunFrames X.base l := by
    intro l
    induction l with
    | nil => intro _ _; trivial
    | cons env r ih =>
      intro hs hl
      obtain ⟨hk, ⟨L, o, hf, hn, ho, hd⟩, hr⟩ := hl
      have hL : L ∈ X.fs := hs L (by unfold frs; rw [List.filterMap_cons, hf]; exact List.mem_cons_self)
      obtain ⟨sl, e⟩ := I.base.slot L o ho (I.ok.frf L hL) hL fun z => I.ok.exfs L z hL
      exact ⟨hk, ⟨L, _, hf, hn, e, hd⟩, ih (fun b hb => hs b (by unfold frs; rw [List.filterMap_cons, hf]; exact List.mem_cons_of_mem _ hb)) hr⟩
  exact all X.outer (fun _ hb => hb) I.ok.funs
theorem Inv.stack (I : Inv X pins σ H s) : s.heap.FunFrames X.base X.stack := by
  rcases I.ok.stk with e | ⟨e, hf⟩
  . rw [e]; exact I.funs
  . rw [e]
    obtain ⟨m, hn, _⟩ := I.loc
    refine .cons (by rw [I.ok.kind]; decide) hf hn ?_ I.funs
    exact Heap.get?_none_of_le (Nat.le_trans I.ok.bsz I.ok.above)
theorem Inv.stkSub (I : Inv X pins σ H s) : ∀ b ∈ frs X.stack, b ∈ X.env.locals :: X.fs := fun b hb => by
  rcases I.ok.stk with e | ⟨e, hf⟩
  . rw [e] at hb; exact List.mem_cons_of_mem _ hb
  . rw [e] at hb
    unfold frs at hb
    rw [List.filterMap_cons, hf] at hb
    exact hb
theorem Inv.stkFree (I : Inv X pins σ H s) : ∀ b ∈ frs X.stack, H b = none := fun b hb => by
  rcases List.mem_cons.mp (I.stkSub b hb) with e | hb
  . rw [e]; exact I.free
  . obtain ⟨_, o, ho, _⟩ := I.ok.funs.mem hb
    exact I.base.free b o ho (I.ok.frf b hb) fun z => I.ok.exfs b z hb
theorem Inv.step {g' : Array GenState} {t' : Nat} {d' : Drawn} {ch : List Addr} (I : Inv X pins σ H s)
    (hch : ∀ b ∈ ch, (b ∈ X.ex \/ X.s₀.heap.objs.size <= b) /\ b ≠ X.env.locals /\ (∀ x c, X.env.cells.lookup x = some c -> c ≠ b) /\ ∀ p ∈ X.pn ++ pins, p.1 ≠ b)
    (keep : ∀ b o, b ≠ X.env.locals -> b ∉ X.fs -> b ∉ ch -> s.heap.get? b = some o -> H b = none -> h'.get? b = some o)
    (slot : ∀ b o, b ≠ X.env.locals -> b ∈ X.fs -> b ∉ ch -> s.heap.get? b = some o -> H b = none -> ∃ sl, h'.get? b = some { o with slots := sl }) (free : ∀ b o, b ∉ ch -> s.heap.get? b = some o -> H b = none -> H' b = none)
    (there : ∀ b o, b ∉ ch -> s.heap.get? b = some o -> ∃ o', h'.get? b = some o')
    (tups : ∀ b xs, H b = some (.tup xs) -> H' b = some (.tup xs)) (frzs : ∀ b o u, H b = some (.frz o u) -> H' b = some (.frz o u)) (tbls : ∀ b ps, H b = some (.tbl ps) -> ∃ more, H' b = some (.tbl (ps ++ more)))
    (ns : ∀ m, s.heap.Ns X.env.locals m -> h'.Ns X.env.locals m) (hok : HOk X.prog X.w H' h') (hg : AllBare g') :
    Inv X pins σ H' { s with heap := h', gens := g', drawn := d', toks := t' } := by
  have neL : ∀ b o, X.s₀.heap.get? b = some o -> b ≠ X.env.locals := fun b o e => Nat.ne_of_lt (Nat.lt_of_lt_of_le (Heap.lt_size e) I.ok.above)
  have neC : ∀ b o, X.s₀.heap.get? b = some o -> b ∉ X.ex -> b ∉ ch := fun b o e hx hb => by
    rcases (hch b hb).1 with z | z
    . exact hx z
    . exact absurd (Nat.lt_of_lt_of_le (Heap.lt_size e) z) (Nat.lt_irrefl _)
  have cellK : ∀ x c, X.env.cells.lookup x = some c -> ∀ v, s.heap.IsCell c v -> h'.IsCell c v := fun x c e v ⟨o, ho, hd⟩ => by
    have nch : c ∉ ch := fun z => (hch c z).2.2.1 x c e rfl
    by_cases hc : c ∈ X.fs
    . obtain ⟨sl, q⟩ := slot c o (I.cne x c e) hc nch ho (I.freeC x c e)
      exact ⟨_, q, hd⟩
    . exact ⟨o, keep c o (I.cne x c e) hc nch ho (I.freeC x c e), hd⟩
  refine ⟨I.ok, I.os, hg, ⟨fun b o e n hb hx => ?_, fun b o e n hb hx => ?_, fun b o e n hx => ?_, fun b o e hx => ?_, fun b xs e => tups b xs (I.base.tups b xs e), fun b o xs e => frzs b o xs (I.base.frzs b o xs e), fun b ps e => ?_⟩, ?_, fun x c e => ?_, ?_, fun x c e => ?_, fun p hp => ?_, hok, I.len⟩
  . exact keep b o (neL b o e) hb (neC b o e hx) (I.base.keep b o e n hb hx) (I.base.free b o e n hx)
  . obtain ⟨sl, e1⟩ := I.base.slot b o e n hb hx
    obtain ⟨sl', e2⟩ := slot b _ (neL b o e) hb (neC b o e hx) e1 (I.base.free b o e n hx)
    exact ⟨sl', e2⟩
  . obtain ⟨o', e1⟩ := I.base.there b o e hx
    exact free b o' (neC b o e hx) e1 (I.base.free b o e n hx)
  . obtain ⟨o', e1⟩ := I.base.there b o e hx
    exact there b o' (neC b o e hx) e1
  . obtain ⟨m1, e1⟩ := I.base.tbls b ps e
    obtain ⟨m2, e2⟩ := tbls b _ e1
    exact ⟨m1 ++ m2, by rw [e2, Array.append_assoc]⟩
  . obtain ⟨m, hn, hl⟩ := I.loc
    refine ⟨m, ns m hn, fun i x v e1 e2 e3 => ?_⟩
    obtain ⟨u, r, l⟩ := hl i x v e1 e2 e3
    refine ⟨u, r, ?_⟩
    rcases l with l | ⟨k, c, e, z⟩
    . exact .inl l
    . exact .inr ⟨k, c, e, cellK x c e _ z⟩
  . obtain ⟨v, z⟩ := I.cell x c e
    exact ⟨v, cellK x c e v z⟩
  . obtain ⟨m, ⟨o, _, _, ho, _⟩, _⟩ := I.loc
    exact free _ o (fun z => (hch _ z).2.1 rfl) ho I.free
  . obtain ⟨v, o, ho, hd⟩ := I.cell x c e
    exact free c o (fun z => (hch c z).2.2.1 x c e rfl) ho (I.freeC x c e)
  . obtain ⟨e, n, ne, nf, d⟩ := I.pin p hp
    have nch : p.1 ∉ ch := fun z => (hch p.1 z).2.2.2 p hp rfl
    exact ⟨keep p.1 p.2 ne nf nch e n, free p.1 p.2 nch e n, ne, nf, d⟩
theorem Inv.un {t' : Nat} (I : Inv X pins σ H s) (u : Un X.fs [] H H' s.heap h') (hok : HOk X.prog X.w H' h') : Inv X pins σ H' { s with heap := h', toks := t' } := by
  obtain ⟨m, ⟨o, es, ep, ho, r⟩, _⟩ := id I.loc
  obtain ⟨sl, hL⟩ := u.any ho I.free (by simp)
  exact I.step (g' := s.gens) (d' := s.drawn) (ch := []) (fun _ z => nomatch z) (fun b o _ hb _ e n => u.keep b o e n hb (by simp)) (fun b o _ hb _ e n => u.slot b o e n hb (by simp)) (fun b o _ e n => u.free b o e n (by simp)) (fun b o _ e => u.there b o e (by simp)) u.tups u.frzs u.tbls (fun m' hm => by
    obtain ⟨o', es', ep', ho', r'⟩ := hm
    rw [ho] at ho'; cases ho'
    exact ⟨_, es', ep', hL, r'⟩) hok I.bare
theorem Inv.call {g' : Array GenState} {t' : Nat} {d' : Drawn} {ch : List Addr} (I : Inv X pins σ H s) (u : Un (frs X.stack) ch H H' s.heap h') (hok : HOk X.prog X.w H' h') (hg : AllBare g')
    (hch : ∀ b ∈ ch, (b ∈ X.ex \/ X.s₀.heap.objs.size <= b) /\ b ≠ X.env.locals /\ (∀ x c, X.env.cells.lookup x = some c -> c ≠ b) /\ ∀ p ∈ X.pn ++ pins, p.1 ≠ b) :
    Inv X pins σ H' { s with heap := h', gens := g', drawn := d', toks := t' } := by
  obtain ⟨m, ⟨o, es, ep, ho, r⟩, _⟩ := id I.loc
  obtain ⟨sl, hL⟩ := u.any ho I.free fun z => (hch _ z).2.1 rfl
  exact I.step (ch := ch) hch (fun b o hL hb hc e n => u.keep b o e n (fun z => (List.mem_cons.mp (I.stkSub b z)).elim hL hb) hc) (fun b o _ _ hc e n => u.any e n hc) (fun b o hc e n => u.free b o e n hc) (fun b o hc e => u.there b o e hc) u.tups u.frzs u.tbls (fun m' hm => by
    obtain ⟨o', es', ep', ho', r'⟩ := hm
    rw [ho] at ho'; cases ho'
    exact ⟨_, es', ep', hL, r'⟩) hok hg
theorem Inv.turned {t' : Nat} {it : Addr} (I : Inv X pins σ H s) (k : ∀ b o, b ≠ it -> s.heap.get? b = some o -> h'.get? b = some o) (hn : H it = none) (hL : it ≠ X.env.locals)
    (h1 : it ∈ X.ex \/ X.s₀.heap.objs.size <= it) (h2 : ∀ x c, X.env.cells.lookup x = some c -> c ≠ it) (h3 : ∀ p ∈ X.pn ++ pins, p.1 ≠ it) : Inv X pins σ H { s with heap := h', toks := t' } := by
  have nit : ∀ b u, H b = some u -> b ≠ it := fun b u e z => by rw [z, hn] at e; cases e
  refine I.step (g' := s.gens) (d' := s.drawn) (ch := [it]) (fun b hb => ?_) (fun b o _ _ hc e _ => k b o (fun z => hc (by simp [z])) e) (fun b o _ _ hc e _ => ⟨o.slots, k b o (fun z => hc (by simp [z])) e⟩) (fun _ _ _ _ n => n)
    (fun b o hc e => ⟨o, k b o (fun z => hc (by simp [z])) e⟩) (fun _ _ e => e) (fun _ _ _ e => e) (fun b ps e => ⟨#[], by rw [e]; simp⟩) (fun m hm => ?_) (fun b u e => ?_) I.bare
  . have e : b = it := by simpa using hb
    subst e
    exact ⟨h1, hL, h2, h3⟩
  . obtain ⟨o, es, ep, ho, r⟩ := hm
    exact ⟨o, es, ep, k _ o (Ne.symm hL) ho, r⟩
  . refine (I.hok b u e).stay (fun c v hc q => k c v ?_ q) (fun _ q => q) fun _ _ q => q
    rcases hc with z | z
    . rw [z]; exact nit b u e
    . exact nit c _ z
theorem Inv.tok (I : Inv X pins σ H s) (t : Nat) : Inv X pins σ H { s with toks := t } := I.un (h' := s.heap) (t' := t) Un.refl I.hok
theorem Inv.kept {t' : Nat} (I : Inv X pins σ H s) (k : ∀ b u, s.heap.get? b = some u -> h'.get? b = some u) : Inv X pins σ H { s with heap := h', toks := t' } := I.un (Un.kept k) (I.hok.kept k)
theorem Inv.laid {a : Addr} {o : HO} {t' : Nat} (I : Inv X pins σ H s) (k : ∀ b u, s.heap.get? b = some u -> h'.get? b = some u) (hp : s.heap.objs.size <= a) (new : ObjOk X.prog X.w (upd H a o) h' a o) :
    Inv X pins σ (upd H a o) { s with heap := h', toks := t' } := I.un (Un.laid k hp (I.hok.fresh hp)) (I.hok.laid k hp new)
theorem Inv.write {x e : Addr} {o : HO} {t' : Nat} (I : Inv X pins σ H s) (mu : Mut (H x)) (he : e = x \/ H e = some (.own x)) (k : ∀ b u, b ≠ e -> s.heap.get? b = some u -> h'.get? b = some u) (heo : ∃ u, h'.get? e = some u)
    (new : ObjOk X.prog X.w (upd H x o) h' x o) : Inv X pins σ (upd H x o) { s with heap := h', toks := t' } := I.un (Un.write mu he k heo) (I.hok.write mu he k heo new)
theorem Inv.weak {σ' : List (Option V)} (I : Inv X pins σ H s) (hl : σ'.length = σ.length) (w : ∀ (i : Nat) v, σ'[i]? = some (some v) -> σ[i]? = some (some v)) : Inv X pins σ' H s :=
  ⟨I.ok, I.os, I.bare, I.base, let ⟨m, hn, hl'⟩ := I.loc; ⟨m, hn, fun i x v e1 e2 e3 => hl' i x v e1 (w i v e2) e3⟩, I.cell, I.free, I.freeC, I.pin, I.hok, hl.trans I.len⟩
theorem Inv.pins_of {pins' : List (Addr × Obj)} (I : Inv X pins σ H s) (h : ∀ p ∈ pins', s.heap.get? p.1 = some p.2 /\ H p.1 = none /\ p.1 ≠ X.env.locals /\ p.1 ∉ X.fs /\ ∀ v, p.2.data ≠ .cell v) : Inv X pins' σ H s :=
  ⟨I.ok, I.os, I.bare, I.base, I.loc, I.cell, I.free, I.freeC, fun p hp => (List.mem_append.mp hp).elim (fun z => I.pin p (List.mem_append_left _ z)) (h p), I.hok, I.len⟩
theorem nodup_ix {N : List Str} (hN : N.Nodup) {i j : Nat} {x : Str} (a : N[i]? = some x) (b : N[j]? = some x) : i = j := by
  obtain ⟨h1, e1⟩ := List.getElem?_eq_some_iff.mp a
  obtain ⟨h2, e2⟩ := List.getElem?_eq_some_iff.mp b
  exact (List.getElem_inj hN).mp (e1.trans e2.symm)
theorem store_ok2 {M : Model} {A : Around} {E : Value -> Shared -> Prop} {i : Nat} {x : Str} {v : V} {u : Value} {Q : Unit -> Shared -> Prop} (I : Inv X pins σ H s) (hN : X.N.Nodup) (hi : X.N[i]? = some x) (hx : Loc X.env.scope x) (r : RelV v u)
    (h : ∀ s', Inv X pins (σ.set i (some v)) H s' -> (∃ a, Heap.SameBut a s.heap s'.heap /\ (a = X.env.locals \/ X.env.cells.lookup x = some a)) -> Q () s') (hf : autoParam (X.fn x = true \/ X.env.scope.names.lookup x = some .local) L2.ax1._auto_1) : wpAny M A (storeName X.env x u) Q E s := by
  obtain ⟨m, hn, hl⟩ := id I.loc
  have hcls : (X.env.scope.kind == .class || (X.env.scope.kind == .module && X.env.locals != X.env.globals)) = false := by rw [I.ok.kind]; rfl
  have hiσ : i < σ.length := by rw [I.len]; exact (List.getElem?_eq_some_iff.mp hi).1
  have cne := I.cne
  have tracked : ∀ {a : Addr} {h' : Heap}, (∃ o, s.heap.get? a = some o /\ H a = none) -> Heap.SameBut a s.heap h' -> HOk X.prog X.w H h' := fun {a h'} ha hs b ob e => by
    obtain ⟨_, _, hfree⟩ := ha
    refine (I.hok b ob e).stay (fun c w' hc q => (hs.2 c ?_).trans q) (fun _ q => q) fun _ _ q => q
    rintro rfl
    rcases hc with rfl | hc
    . rw [hfree] at e; cases e
    . rw [hfree] at hc; cases hc
  rcases hx with hk | hk
  . refine wpAny_storeName_local hk hn (fun h' hn' hs => ?_) hcls
    obtain ⟨oL, _, _, hoL, _⟩ := id hn
    refine h _ ⟨I.ok, I.os, I.bare, ⟨fun b o e n hb hx => ?_, fun b o e n hb hx => ?_, I.base.free, fun b o e hx => ?_, I.base.tups, I.base.frzs, I.base.tbls⟩, ⟨_, hn', fun j y v' e1 e2 e3 => ?_⟩, fun y c e => ?_, I.free, I.freeC, fun p hp => ?_, tracked ⟨oL, hoL, I.free⟩ hs, by simpa using I.len⟩ ⟨_, hs, .inl rfl⟩
    . exact (hs.2 b (Nat.ne_of_lt (Nat.lt_of_lt_of_le (Heap.lt_size e) I.ok.above))).trans (I.base.keep b o e n hb hx)
    . obtain ⟨sl, e1⟩ := I.base.slot b o e n hb hx
      exact ⟨sl, (hs.2 b (Nat.ne_of_lt (Nat.lt_of_lt_of_le (Heap.lt_size e) I.ok.above))).trans e1⟩
    . obtain ⟨o', e1⟩ := I.base.there b o e hx
      exact ⟨o', (hs.2 b (Nat.ne_of_lt (Nat.lt_of_lt_of_le (Heap.lt_size e) I.ok.above))).trans e1⟩
    . by_cases hj : j = i
      . subst hj
        rw [hi] at e1; cases e1
        rw [List.getElem?_set_self hiσ] at e2
        cases e2
        exact ⟨u, r, .inl ⟨hk, by simp⟩⟩
      . rw [List.getElem?_set_ne (Ne.symm hj)] at e2
        obtain ⟨u', r', q⟩ := hl j y v' e1 e2 e3
        refine ⟨u', r', ?_⟩
        rcases q with ⟨k, e⟩ | ⟨k, c, e, z⟩
        . refine .inl ⟨k, ?_⟩
          have : y ≠ x := fun e => hj (nodup_ix hN e1 (e ▸ hi))
          simp [this, e]
        . exact .inr ⟨k, c, e, z.sameBut hs (cne y c e)⟩
    . obtain ⟨w', z⟩ := I.cell y c e
      exact ⟨w', z.sameBut hs (cne y c e)⟩
    . obtain ⟨e, n, ne, nf, d⟩ := I.pin p hp
      exact ⟨(hs.2 p.1 ne).trans e, n, ne, nf, d⟩
  . have hfn : X.fn x = true := by
      rcases hf with z | z
      . exact z
      . rw [z] at hk; cases hk
    obtain ⟨c, hc⟩ := I.ok.has x (.inl hk)
    obtain ⟨w', z⟩ := I.cell x c hc
    refine wpAny_storeName_cell I.ok.kind hk hc z (fun h' hc' hs => ?_)
    obtain ⟨oc, hoc, hocd⟩ := id z
    refine h { s with heap := h' } ⟨I.ok, I.os, I.bare, ⟨fun b o e n hb hx => ?_, fun b o e n hb hx => ?_, I.base.free, fun b o e hx => ?_, I.base.tups, I.base.frzs, I.base.tbls⟩, ⟨m, hn.sameBut hs (Ne.symm (cne x c hc)), fun j y v' e1 e2 e3 => ?_⟩, fun y c' e => ?_, I.free, I.freeC, fun p hp => ?_, tracked ⟨oc, hoc, I.freeC x c hc⟩ hs, by simpa using I.len⟩ ⟨c, hs, .inr hc⟩
    . exact (hs.2 b (Nat.ne_of_lt (Nat.lt_of_lt_of_le (Heap.lt_size e) (I.ok.cab x c hfn hc)))).trans (I.base.keep b o e n hb hx)
    . obtain ⟨sl, e1⟩ := I.base.slot b o e n hb hx
      exact ⟨sl, (hs.2 b (Nat.ne_of_lt (Nat.lt_of_lt_of_le (Heap.lt_size e) (I.ok.cab x c hfn hc)))).trans e1⟩
    . obtain ⟨o', e1⟩ := I.base.there b o e hx
      exact ⟨o', (hs.2 b (Nat.ne_of_lt (Nat.lt_of_lt_of_le (Heap.lt_size e) (I.ok.cab x c hfn hc)))).trans e1⟩
    . by_cases hj : j = i
      . subst hj
        rw [hi] at e1; cases e1
        rw [List.getElem?_set_self hiσ] at e2
        cases e2
        exact ⟨u, r, .inr ⟨.inl hk, c, hc, hc'⟩⟩
      . rw [List.getElem?_set_ne (Ne.symm hj)] at e2
        obtain ⟨u', r', q⟩ := hl j y v' e1 e2 e3
        refine ⟨u', r', ?_⟩
        rcases q with q | ⟨k, c', e, z'⟩
        . exact .inl q
        . refine .inr ⟨k, c', e, z'.sameBut hs ?_⟩
          rintro rfl
          exact hj (nodup_ix hN e1 (I.ok.inj _ _ _ e hc ▸ hi))
    . by_cases hcc : c' = c
      . subst hcc; exact ⟨_, hc'⟩
      . obtain ⟨w2, z2⟩ := I.cell y c' e
        exact ⟨w2, z2.sameBut hs hcc⟩
    . obtain ⟨e, n, ne, nf, d⟩ := I.pin p hp
      refine ⟨(hs.2 p.1 ?_).trans e, n, ne, nf, d⟩
      intro q
      rw [q, hoc] at e
      have q' : oc = p.2 := Option.some.inj e
      exact d w' (by rw [← q']; exact hocd)
theorem store_ok {M : Model} {A : Around} {E : Value -> Shared -> Prop} {i : Nat} {x : Str} {v : V} {u : Value} {Q : Unit -> Shared -> Prop} (I : Inv X pins σ H s) (hN : X.N.Nodup) (hi : X.N[i]? = some x) (hx : Loc X.env.scope x) (r : RelV v u)
    (h : ∀ s', Inv X pins (σ.set i (some v)) H s' -> Q () s') (hf : autoParam (X.fn x = true \/ X.env.scope.names.lookup x = some .local) L2.ax1._auto_1) : wpAny M A (storeName X.env x u) Q E s :=
  store_ok2 I hN hi hx r (fun s' I' _ => h s' I') hf
theorem Inv.call' {s' : Shared} {ch : List Addr} (I : Inv X pins σ H s) (ho : s'.os = s.os) (u : Un (frs X.stack) ch H H' s.heap s'.heap) (hok : HOk X.prog X.w H' s'.heap) (hg : AllBare s'.gens)
    (hch : ∀ b ∈ ch, (b ∈ X.ex \/ X.s₀.heap.objs.size <= b) /\ b ≠ X.env.locals /\ (∀ x c, X.env.cells.lookup x = some c -> c ≠ b) /\ ∀ p ∈ X.pn ++ pins, p.1 ≠ b) : Inv X pins σ H' s' := by
  obtain ⟨h', g', d', t', o'⟩ := s'
  have e : o' = s.os := ho
  subst e
  exact I.call (g' := g') (t' := t') (d' := d') u hok hg hch
end
abbrev XK := Value -> Option Addr -> Hp -> Prop
abbrev St := List (Option V)
abbrev VK := V -> Hp -> Prop
abbrev TE := St -> Hp -> VK -> Prop
abbrev TT := St -> Hp -> (Bool -> Hp -> Prop) -> Prop
abbrev TA := St -> Hp -> (List V -> Hp -> Prop) -> Prop
structure Ends where
  nx : St -> Hp -> Prop
  rt : VK
  bk : St -> Hp -> Prop := fun _ _ => False
  ct : St -> Hp -> Prop := fun _ _ => False
abbrev TS := Ends -> St -> Hp -> Prop
def EP (X : Cx) (pins : List (Addr × Obj)) (σ : St) (Q : VK) (u : Value) (s' : Shared) : Prop := ∃ v H', Inv X pins σ H' s' /\ RelV v u /\ Q v H'
def TP (X : Cx) (pins : List (Addr × Obj)) (σ : St) (Q : Bool -> Hp -> Prop) (b : Bool) (s' : Shared) : Prop := ∃ H', Inv X pins σ H' s' /\ Q b H'
def AP (X : Cx) (pins : List (Addr × Obj)) (σ : St) (Q : List V -> Hp -> Prop) (us : List Value) (s' : Shared) : Prop := ∃ vs H', Inv X pins σ H' s' /\ Vals vs us /\ Q vs H'
def SP (X : Cx) (pins : List (Addr × Obj)) (D : Ends) (f : Flow) (s' : Shared) : Prop :=
  match f with
  | .next => ∃ σ' H', Inv X pins σ' H' s' /\ D.nx σ' H'
  | .brk => ∃ σ' H', Inv X pins σ' H' s' /\ D.bk σ' H'
  | .cont => ∃ σ' H', Inv X pins σ' H' s' /\ D.ct σ' H'
  | .ret u => ∃ v σ' H', Inv X pins σ' H' s' /\ RelV v u /\ D.rt v H'
def PE (X : Cx) (e : Expr) (t : TE) : Prop :=
  ∀ (pins : List (Addr × Obj)) (s : Shared) (σ : St) (H : Hp) (Q : VK), Inv X pins σ H s -> t σ H Q -> wpAny (model X.prog X.w) X.A (eval e X.env) (EP X pins σ Q) X.xe s
def PT (X : Cx) (e : Expr) (t : TT) : Prop :=
  ∀ (pins : List (Addr × Obj)) (s : Shared) (σ : St) (H : Hp) (Q : Bool -> Hp -> Prop), Inv X pins σ H s -> t σ H Q -> wpAny (model X.prog X.w) X.A (isTrue e X.env (eval e X.env)) (TP X pins σ Q) X.xe s
def PW (X : Cx) (e : Expr) (t : TT) : Prop :=
  ∀ (whole : Sem Value) (pins : List (Addr × Obj)) (s : Shared) (σ : St) (H : Hp) (Q : Bool -> Hp -> Prop), Inv X pins σ H s -> t σ H Q -> wpAny (model X.prog X.w) X.A (isTrue e X.env whole) (TP X pins σ Q) X.xe s
theorem PW.pt {X : Cx} {e : Expr} {t : TT} (h : PW X e t) : PT X e t := h _
def PA (X : Cx) (es : List Expr) (t : TA) : Prop :=
  ∀ (pos : Pos) (pins : List (Addr × Obj)) (s : Shared) (σ : St) (H : Hp) (Q : List V -> Hp -> Prop), Inv X pins σ H s -> t σ H Q -> wpAny (model X.prog X.w) X.A (spliced (backTo pos (starEach es X.env))) (AP X pins σ Q) X.xe s
def PS (X : Cx) (st : Stmt) (t : TS) : Prop :=
  ∀ (pins : List (Addr × Obj)) (s : Shared) (σ : St) (H : Hp) (D : Ends), Inv X pins σ H s -> t D σ H -> wpAny (model X.prog X.w) X.A (exec st X.env) (SP X pins D) X.xe s
def PSs (X : Cx) (st : List Stmt) (t : TS) : Prop :=
  ∀ (pins : List (Addr × Obj)) (s : Shared) (σ : St) (H : Hp) (D : Ends), Inv X pins σ H s -> t D σ H -> wpAny (model X.prog X.w) X.A (execs st X.env) (SP X pins D) X.xe s
theorem thn {α : Type} {t : Sem α} {Q Q' : α -> Shared -> Prop} {M : Model} {A : Around} {E : Value -> Shared -> Prop} {s : Shared} (h : wpAny M A t Q E s) (hQ : ∀ a s, Q a s -> Q' a s) : wpAny M A t Q' E s := wpAny_mono h hQ fun _ _ x => x
end L2
namespace L2
open PySem PySem.Spec PyProof.Rows
section
variable {X : Cx}
theorem bin {a b : Expr} {ta tb : TE} (ha : PE X a ta) (hb : PE X b tb) {pins : List (Addr × Obj)} {s : Shared} {σ : St} {H : Hp} {R : V -> V -> Hp -> Prop} (I : Inv X pins σ H s) (h : ta σ H fun x H1 => tb σ H1 fun y H2 => R x y H2)
    {α : Type} {Q : α -> Shared -> Prop} {f : Value -> Value -> Sem α}
    (hf : ∀ v u s2 x y H2, Inv X pins σ H2 s2 -> RelV x v -> RelV y u -> R x y H2 -> wpAny (model X.prog X.w) X.A (f v u) Q X.xe s2) :
    wpAny (model X.prog X.w) X.A (eval a X.env) (fun v s₁ => wpAny (model X.prog X.w) X.A (eval b X.env) (fun u s₂ => wpAny (model X.prog X.w) X.A (f v u) Q X.xe s₂) X.xe s₁) X.xe s := by
  refine thn (ha pins s σ H _ I h) fun v s1 hhh => ?_
  obtain ⟨x, H1, I1, r1, q1⟩ := hhh
  refine thn (hb pins s1 σ H1 _ I1 q1) fun u s2 hhh => ?_
  obtain ⟨y, H2, I2, r2, q2⟩ := hhh
  exact hf v u s2 x y H2 I2 r1 r2 q2
def tVar (i : Nat) : TE := fun σ H Q => ∃ v, σ[i]? = some (some v) /\ Q v H
def tC (v : V) : TE := fun _ H Q => Q v H
theorem pe_var {i : Nat} {x : Str} {pos : Pos} (hN : X.N[i]? = some x) (hv : Vis X.env.scope x) (hd : autoParam ((x == ("__debug__" : Str)) = false) L2.ax2._auto_1) (hcd : autoParam ((x == ("__classdict__" : Str)) = false) L2.ax2._auto_1) : PE X (.Name x pos) (tVar i) := by
  intro pins s σ H Q I h
  obtain ⟨v, e, h⟩ := h
  obtain ⟨m, hn, hl⟩ := I.loc
  obtain ⟨u, r, l⟩ := hl i x v hN e hv
  have fin : EP X pins σ Q u s := ⟨v, H, I, r, h⟩
  rcases l with ⟨hk, hm⟩ | ⟨hk, c, hc, hcell⟩
  . exact wpAny_Name (wpAny_loadName_local I.ok.kind hk hn hm fin) hd
  . rcases hk with hk | hk
    . exact wpAny_Name (wpAny_loadName_cell I.ok.kind hk hc hcell fin) hd
    . exact wpAny_Name (wpAny_loadName_free I.ok.kind hk hc hcell fin hcd) hd
theorem pe_int {i j pos} : PE X (.Constant (.int i) j pos) (tC (.int i)) := fun _ _ _ H _ I h => wpAny_Constant_int ⟨.int i, H, I.tok _, ⟨_, rfl⟩, h⟩
theorem pe_bl {b j pos} : PE X (.Constant (.bool b) j pos) (tC (.bl b)) := fun _ _ _ H _ I h => Constant_bool ⟨.bl b, H, I, rfl, h⟩
theorem pe_non {j pos} : PE X (.Constant .none j pos) (tC .non) := fun _ _ _ H _ I h => Constant_none ⟨.non, H, I, rfl, h⟩
theorem pe_str {x j pos} : PE X (.Constant (.str x) j pos) (tC (.str x)) := fun _ _ _ H _ I h => Calls.Constant_str ⟨.str x, H, I.tok _, ⟨_, rfl⟩, h⟩
def Gl (X : Cx) (x : Str) : Prop := X.env.kindOf x = some .globalImplicit
theorem ld_glob {E : Value -> Shared -> Prop} {pins : List (Addr × Obj)} {s : Shared} {σ : St} {H : Hp} {x : Str} {u : Value} {pos : Pos} {Q : Value -> Shared -> Prop} (I : Inv X pins σ H s) (hg : Gl X x) (hm : X.mg x = some u) (h : Q u s)
    (hd : autoParam ((x == ("__debug__" : Str)) = false) L2.ax2._auto_1) : wpAny (model X.prog X.w) X.A (eval (.Name x pos) X.env) Q E s :=
  Calls.Name_function_global I.ok.kind hg (Calls.loadGlobal_global (by rw [I.ok.glob]; exact I.mod.glob.keeps I.bk) hm h) hd
theorem ld_blt {E : Value -> Shared -> Prop} {pins : List (Addr × Obj)} {s : Shared} {σ : St} {H : Hp} {x : Str} {u : Value} {pos : Pos} {Q : Value -> Shared -> Prop} (I : Inv X pins σ H s) (hg : Gl X x) (hm : X.mg x = none) (hv : bootBuiltins x = some u) (h : Q u s)
    (hn : autoParam (x ≠ "__name__") L2.ax2._auto_1) (hd : autoParam ((x == ("__debug__" : Str)) = false) L2.ax2._auto_1) : wpAny (model X.prog X.w) X.A (eval (.Name x pos) X.env) Q E s := by
  obtain ⟨mb, h1, h2⟩ := I.mod.blt
  exact Calls.Name_function_global I.ok.kind hg (Calls.loadGlobal_builtin (by rw [I.ok.glob]; exact I.mod.glob.keeps I.bk) hm (by rw [I.ok.blt]; exact h1.keeps I.bk) ((h2 x hn).trans hv) h) hd
theorem pe_glob {x : Str} {v : V} {u : Value} {pos : Pos} (hg : Gl X x) (hm : X.mg x = some u) (r : RelV v u) (hd : autoParam ((x == ("__debug__" : Str)) = false) L2.ax2._auto_1) : PE X (.Name x pos) (tC v) :=
  fun _ _ _ H _ I h => ld_glob I hg hm ⟨v, H, I, r, h⟩ hd
theorem pe_bltn {x : Str} {v : V} {u : Value} {pos : Pos} (hg : Gl X x) (hm : X.mg x = none) (hv : bootBuiltins x = some u) (r : RelV v u) (hn : autoParam (x ≠ "__name__") L2.ax2._auto_1) (hd : autoParam ((x == ("__debug__" : Str)) = false) L2.ax2._auto_1) : PE X (.Name x pos) (tC v) :=
  fun _ _ _ H _ I h => ld_blt I hg hm hv ⟨v, H, I, r, h⟩ hn hd
variable {a b : Expr} {ta tb : TE} {pos : Pos}
def PC (X : Cx) (op : CmpOp) (a b : Expr) (t : TE) : Prop :=
  ∀ (pins : List (Addr × Obj)) (s : Shared) (σ : St) (H : Hp) (Q : VK), Inv X pins σ H s -> t σ H Q ->
    wpAny (model X.prog X.w) X.A (eval a X.env) (fun v s₁ => wpAny (model X.prog X.w) X.A (eval b X.env) (fun u s₂ => wpAny (model X.prog X.w) X.A (compareOp op v u) (EP X pins σ Q) X.xe s₂) X.xe s₁) X.xe s
theorem nobehind (b : Expr) {op : CmpOp} (h : op ≠ .In) (h2 : op ≠ .NotIn) : behindInMarks op b = false := by
  have e1 : (op == CmpOp.In) = false := by cases op <;> first | rfl | exact absurd rfl h
  have e2 : (op == CmpOp.NotIn) = false := by cases op <;> first | rfl | exact absurd rfl h2
  cases b <;> simp [behindInMarks, e1, e2]
def tIsN (ta : TE) : TE := fun σ H Q => ta σ H fun x H1 => Q (.bl (decide (x = .non))) H1
def tNotN (ta : TE) : TE := fun σ H Q => ta σ H fun x H1 => Q (.bl (!decide (x = .non))) H1
theorem RelV.none_iff {x : V} {v : Value} (r : RelV x v) : (v == Value.none) = decide (x = .non) := by
  cases x with
  | non => cases r; rfl
  | bl _ => cases r; rfl
  | int _ => obtain ⟨t, rfl⟩ := r; rfl
  | str _ => obtain ⟨t, rfl⟩ := r; rfl
  | byt _ => obtain ⟨t, rfl⟩ := r; rfl
  | flt _ => obtain ⟨t, rfl⟩ := r; rfl
  | ref _ => cases r; rfl
  | ty _ => cases r; rfl
theorem pc_isN {j pos'} (ha : PE X a ta) : PC X .Is a (.Constant .none j pos') (tIsN ta) := by
  intro pins s σ H Q I h
  refine thn (ha pins s σ H _ I h) fun v s1 hhh => ?_
  obtain ⟨x, H1, I1, r1, q1⟩ := hhh
  exact Constant_none (is_none_gen ⟨.bl _, H1, I1, by rw [r1.none_iff]; rfl, q1⟩)
theorem pc_notN {j pos'} (ha : PE X a ta) : PC X .IsNot a (.Constant .none j pos') (tNotN ta) := by
  intro pins s σ H Q I h
  refine thn (ha pins s σ H _ I h) fun v s1 hhh => ?_
  obtain ⟨x, H1, I1, r1, q1⟩ := hhh
  exact Constant_none (isnot_none_gen ⟨.bl _, H1, I1, by rw [r1.none_iff]; rfl, q1⟩)
def tB (t : TE) : TT := fun σ H Q => t σ H fun x H1 => ∃ c, x = .bl c /\ Q c H1
theorem pe_cmp {op : CmpOp} {t : TE} (h : PC X op a b t) (h1 : autoParam (behindInMarks op b = false) L2.ax3._auto_1) : PE X (.Compare a [op] [b] pos) t := fun pins s σ H Q I hw => wpAny_Compare1 (h pins s σ H Q I hw) h1
theorem pt_cmp {op : CmpOp} {t : TE} (h : PC X op a b t) (h1 : autoParam (behindInMarks op b = false) L2.ax3._auto_1) : PT X (.Compare a [op] [b] pos) (tB t) := by
  intro pins s σ H Q I hw
  refine wpAny_isTrue_Compare1 (thn (h pins s σ H _ I hw) fun v s1 h1 => thn h1 fun u s2 h2 => thn h2 fun c s3 hhh => ?_) h1
  obtain ⟨x, H1, I1, r1, q1⟩ := hhh
  obtain ⟨d, rfl, q⟩ := q1
  cases r1
  exact wpAny_truthy_bool ⟨H1, I1, q⟩
variable {tA tB' : TT} {rest : List Expr}
def tAnd (t u : TT) : TT := fun σ H Q => t σ H fun c H1 => if c = true then u σ H1 Q else Q false H1
def tOr (t u : TT) : TT := fun σ H Q => t σ H fun c H1 => if c = true then Q true H1 else u σ H1 Q
def tNot (t : TT) : TT := fun σ H Q => t σ H fun c H1 => Q (!c) H1
theorem pw_and1 (ha : PT X a tA) : PW X (.BoolOp .And [a] pos) tA := by
  intro wh pins s σ H Q I h
  refine isTrue_and (thn (ha pins s σ H Q I h) fun c s1 e => ?_)
  cases c with
  | true => exact isTrue_and_nil e
  | false => exact e
theorem pw_or1 (ha : PT X a tA) : PW X (.BoolOp .Or [a] pos) tA := by
  intro wh pins s σ H Q I h
  refine isTrue_or (thn (ha pins s σ H Q I h) fun c s1 e => ?_)
  cases c with
  | false => exact isTrue_or_nil e
  | true => exact e
theorem pw_and (ha : PT X a tA) (hb : PW X (.BoolOp .And (b :: rest) pos) tB') : PW X (.BoolOp .And (a :: b :: rest) pos) (tAnd tA tB') := by
  intro wh pins s σ H Q I h
  refine isTrue_and (thn (ha pins s σ H _ I h) fun c s1 hhh => ?_)
  obtain ⟨H1, I1, q1⟩ := hhh
  cases c with
  | true => exact hb wh pins s1 σ H1 Q I1 q1
  | false => exact ⟨H1, I1, q1⟩
theorem pw_or (ha : PT X a tA) (hb : PW X (.BoolOp .Or (b :: rest) pos) tB') : PW X (.BoolOp .Or (a :: b :: rest) pos) (tOr tA tB') := by
  intro wh pins s σ H Q I h
  refine isTrue_or (thn (ha pins s σ H _ I h) fun c s1 hhh => ?_)
  obtain ⟨H1, I1, q1⟩ := hhh
  cases c with
  | true => exact ⟨H1, I1, q1⟩
  | false => exact hb wh pins s1 σ H1 Q I1 q1
theorem pt_not (ha : PT X a tA) : PT X (.UnaryOp .Not a pos) (tNot tA) := by
  intro pins s σ H Q I h
  exact isTrue_not (ha pins s σ H (fun c H1 => Q (!c) H1) I h)
def tAndV (ta tb : TE) : TE := fun σ H Q => ta σ H fun x H1 => ∃ c, x = .bl c /\ if c = true then tb σ H1 Q else Q (.bl false) H1
def tOrV (ta tb : TE) : TE := fun σ H Q => ta σ H fun x H1 => ∃ c, x = .bl c /\ if c = true then Q (.bl true) H1 else tb σ H1 Q
def tNotV (ta : TE) : TE := fun σ H Q => ta σ H fun x H1 => ∃ c, x = .bl c /\ Q (.bl (!c)) H1
theorem pe_one {op} {t : TE} (h : PE X a t) : PE X (.BoolOp op [a] pos) t := fun pins s σ H Q I hw => BoolOp_one (h pins s σ H Q I hw)
theorem pe_and (ha : PE X a ta) (hb : PE X (.BoolOp .And (b :: rest) pos) tb) : PE X (.BoolOp .And (a :: b :: rest) pos) (tAndV ta tb) := by
  intro pins s σ H Q I h
  refine BoolOp_and (thn (ha pins s σ H _ I h) fun v s1 hhh => ?_)
  obtain ⟨x, H1, I1, r1, q1⟩ := hhh
  obtain ⟨c, rfl, q1⟩ := q1
  cases r1
  refine wpAny_truthy_bool ?_
  cases c with
  | true => exact hb pins s1 σ H1 Q I1 q1
  | false => exact ⟨.bl false, H1, I1, rfl, q1⟩
theorem pe_or (ha : PE X a ta) (hb : PE X (.BoolOp .Or (b :: rest) pos) tb) : PE X (.BoolOp .Or (a :: b :: rest) pos) (tOrV ta tb) := by
  intro pins s σ H Q I h
  refine BoolOp_or (thn (ha pins s σ H _ I h) fun v s1 hhh => ?_)
  obtain ⟨x, H1, I1, r1, q1⟩ := hhh
  obtain ⟨c, rfl, q1⟩ := q1
  cases r1
  refine wpAny_truthy_bool ?_
  cases c with
  | false => exact hb pins s1 σ H1 Q I1 q1
  | true => exact ⟨.bl true, H1, I1, rfl, q1⟩
theorem pe_not (ha : PE X a ta) : PE X (.UnaryOp .Not a pos) (tNotV ta) := by
  intro pins s σ H Q I h
  refine UnaryOp_ (thn (ha pins s σ H _ I h) fun v s1 hhh => ?_)
  obtain ⟨x, H1, I1, r1, q1⟩ := hhh
  obtain ⟨c, rfl, q1⟩ := q1
  cases r1
  exact not_of (wpAny_truthy_bool ⟨.bl (!c), H1, I1, rfl, q1⟩)
def tIf (t : TT) (ta tb : TE) : TE := fun σ H Q => t σ H fun c H1 => if c = true then ta σ H1 Q else tb σ H1 Q
theorem pe_ifExp {c : Expr} (hc : PT X c tA) (ha : PE X a ta) (hb : PE X b tb) : PE X (.IfExp c a b pos) (tIf tA ta tb) := by
  intro pins s σ H Q I h
  refine wpAny_IfExp (thn (hc pins s σ H _ I h) fun d s1 hhh => ?_)
  obtain ⟨H1, I1, q1⟩ := hhh
  cases d with
  | true => exact ha pins s1 σ H1 Q I1 q1
  | false => exact hb pins s1 σ H1 Q I1 q1
end
end L2
namespace L2
open PySem PySem.Spec PyProof.Rows
def SqL (K : PySem.W.Frag) (H : Hp) (a : Addr) (xs : List V) : Prop :=
  Rd H a (.lst xs) \/
    ∃ (o : Obj) (its : Array Value) (n : Nat), K.lookup a = some o /\ o.cls = .type "list" /\ o.dict = none /\ o.data = .seq its n /\ its.size <= sizeLine /\ Vals xs its.toList
def SqT (K : PySem.W.Frag) (H : Hp) (a : Addr) (xs : List V) : Prop :=
  Rd H a (.tup xs) \/
    ∃ (o : Obj) (its : Array Value) (n : Nat), K.lookup a = some o /\ o.cls = .type "tuple" /\ o.data = .seq its n /\ its.size <= sizeLine /\ Vals xs its.toList
noncomputable def absV : Value -> Option V
  | .none => some .non
  | .bool b => some (.bl b)
  | .int i _ => some (.int i)
  | .str x _ => some (.str x)
  | .bytes b _ => some (.byt b)
  | .float b _ => some (.flt b)
  | .ref a => some (.ref a)
  | .type n => some (.ty n)
  | _ => none
theorem RelV.abs {x : V} {u : Value} (r : RelV x u) : absV u = some x := by
  cases x with
  | non => cases r; rfl
  | bl _ => cases r; rfl
  | int _ => obtain ⟨t, rfl⟩ := r; rfl
  | str _ => obtain ⟨t, rfl⟩ := r; rfl
  | byt _ => obtain ⟨t, rfl⟩ := r; rfl
  | flt _ => obtain ⟨t, rfl⟩ := r; rfl
  | ref _ => cases r; rfl
  | ty _ => cases r; rfl
theorem RelV.inj {x y : V} {u : Value} (r : RelV x u) (q : RelV y u) : x = y := Option.some.inj (r.abs.symm.trans q.abs)
theorem Vals.inj : ∀ {xs ys : List V} {us : List Value}, Vals xs us -> Vals ys us -> xs = ys
  | _, _, _, .nil, .nil => rfl
  | _, _, _, .cons r t, .cons r' t' => by rw [r.inj r', Vals.inj t t']
section
variable {X : Cx} {pins : List (Addr × Obj)} {σ : St} {H : Hp} {s : Shared} {a : Addr} {xs ys : List V}
theorem Inv.list (I : Inv X pins σ H s) (h : SqL X.K H a xs) : ∃ its : List Value, Vals xs its /\ PlainL s.heap a its.toArray /\ xs.length <= sizeLine := by
  rcases h with h | ⟨o, its, n, hk, hc, hd, hs, hz, r⟩
  . obtain ⟨z, its, n, r, e⟩ := h.ok I.hok
    exact ⟨its, r, ⟨_, n, e, rfl, rfl, rfl⟩, z⟩
  . refine ⟨its.toList, r, ⟨o, n, I.kIn a o hk, hc, hd, by simpa using hs⟩, ?_⟩
    have e := r.length
    simp only [Array.length_toList] at e
    omega
theorem Inv.tuple (I : Inv X pins σ H s) (h : SqT X.K H a xs) : ∃ its : List Value, Vals xs its /\ IsTup s.heap a its.toArray /\ xs.length <= sizeLine := by
  rcases h with h | ⟨o, its, n, hk, hc, hs, hz, r⟩
  . obtain ⟨z, its, r, p⟩ := h.ok I.hok
    exact ⟨its, r, p, z⟩
  . refine ⟨its.toList, r, ⟨o, I.kIn a o hk, hc, n, by simpa using hs⟩, ?_⟩
    have e := r.length
    simp only [Array.length_toList] at e
    omega
theorem Inv.list_inj (I : Inv X pins σ H s) (h : SqL X.K H a xs) (h' : SqL X.K H a ys) : xs = ys := by
  obtain ⟨its, r, ⟨o, n, e, _, _, d⟩, _⟩ := I.list h
  obtain ⟨its', r', ⟨o', n', e', _, _, d'⟩, _⟩ := I.list h'
  rw [e] at e'; cases e'
  rw [d] at d'
  injection d' with d1 _
  have : its = its' := by simpa using congrArg Array.toList d1
  subst this
  exact r.inj r'
theorem Inv.tuple_inj (I : Inv X pins σ H s) (h : SqT X.K H a xs) (h' : SqT X.K H a ys) : xs = ys := by
  obtain ⟨its, r, ⟨o, e, _, n, d⟩, _⟩ := I.tuple h
  obtain ⟨its', r', ⟨o', e', _, n', d'⟩, _⟩ := I.tuple h'
  rw [e] at e'; cases e'
  rw [d] at d'
  injection d' with d1 _
  have : its = its' := by simpa using congrArg Array.toList d1
  subst this
  exact r.inj r'
end
noncomputable abbrev Cx.wish (X : Cx) (E : Value -> Shared -> Prop) : Cx := { X with xe := E }
noncomputable abbrev Cx.nox (X : Cx) : Cx := X.wish fun _ _ => False
theorem Cx.Ok.wish {X : Cx} (ok : X.Ok) (E : Value -> Shared -> Prop) : (X.wish E).Ok :=
  ⟨ok.mod, ok.kind, ok.glob, ok.blt, ok.above, ok.inj, ok.has, ok.cab, ok.hd, ok.frames, ok.stk, ok.exf, ok.bs, ok.bsz, ok.noex, ok.exfs, ok.funs, ok.frf⟩
theorem Cx.Ok.unwish {X : Cx} {E : Value -> Shared -> Prop} (ok : (X.wish E).Ok) : X.Ok :=
  ⟨ok.mod, ok.kind, ok.glob, ok.blt, ok.above, ok.inj, ok.has, ok.cab, ok.hd, ok.frames, ok.stk, ok.exf, ok.bs, ok.bsz, ok.noex, ok.exfs, ok.funs, ok.frf⟩
section
variable {X : Cx} {pins : List (Addr × Obj)} {σ : St} {H : Hp} {s : Shared} {E : Value -> Shared -> Prop}
theorem Inv.wish (I : Inv X pins σ H s) (E : Value -> Shared -> Prop) : Inv (X.wish E) pins σ H s := ⟨I.ok.wish E, I.os, I.bare, I.base, I.loc, I.cell, I.free, I.freeC, I.pin, I.hok, I.len⟩
theorem Inv.unwish (I : Inv (X.wish E) pins σ H s) : Inv X pins σ H s := ⟨I.ok.unwish, I.os, I.bare, I.base, I.loc, I.cell, I.free, I.freeC, I.pin, I.hok, I.len⟩
theorem SP.unwish {D : Ends} {f : Flow} {s' : Shared} (h : SP (X.wish E) pins D f s') : SP X pins D f s' := by
  cases f with
  | next => obtain ⟨σ', H', I, q⟩ := h; exact ⟨σ', H', I.unwish, q⟩
  | brk => obtain ⟨σ', H', I, q⟩ := h; exact ⟨σ', H', I.unwish, q⟩
  | cont => obtain ⟨σ', H', I, q⟩ := h; exact ⟨σ', H', I.unwish, q⟩
  | ret u => obtain ⟨v, σ', H', I, r, q⟩ := h; exact ⟨v, σ', H', I.unwish, r, q⟩
theorem PSs.nox {st : List Stmt} {t : TS} (h : PSs X.nox st t) : PSs X st t := fun pins s σ H D I hw =>
  wpAny_mono (h pins s σ H D (I.wish _) hw) (fun _ _ q => q.unwish) fun _ _ z => False.elim z
end
section
variable {X : Cx} {st : Stmt} {rest : List Stmt} {t u : TS} {e : Expr} {te : TE} {pos : Pos}
def tNext : TS := fun D σ H => D.nx σ H
def tSeq (t u : TS) : TS := fun D σ H => t { D with nx := u D } σ H
theorem pss_nil : PSs X [] tNext := fun _ _ σ H _ I h => wpAny_execs_nil ⟨σ, H, I, h⟩
theorem pss_cons (h1 : PS X st t) (h2 : PSs X rest u) : PSs X (st :: rest) (tSeq t u) := by
  intro pins s σ H D I h
  refine wpAny_execs_cons (thn (h1 pins s σ H { D with nx := u D } I h) fun f s1 q => ?_)
  cases f with
  | next =>
    obtain ⟨σ', H', I', q⟩ := q
    exact h2 pins s1 σ' H' D I' q
  | ret v => exact q
  | brk => exact q
  | cont => exact q
theorem pss_one (h1 : PS X st t) : PSs X [st] t := by
  intro pins s σ H D I h
  refine wpAny_execs_cons (thn (h1 pins s σ H D I h) fun f s1 q => ?_)
  cases f with
  | next => exact wpAny_execs_nil q
  | ret v => exact q
  | brk => exact q
  | cont => exact q
theorem Inv.quiet {pins : List (Addr × Obj)} {σ : St} {H : Hp} {s : Shared} (I : Inv X pins σ H s) : interactive X.env = false := by simp [interactive, I.ok.kind]
def tDrop (te : TE) : TS := fun D σ H => te σ H fun _ H1 => D.nx σ H1
theorem ps_expr (he : PE X e te) (hs : autoParam (swapsWith e none pos.line X.env = pure false) L2.ax4._auto_1) : PS X (.Expr e pos) (tDrop te) := by
  intro pins s σ H D I h
  exact wpAny_Expr_any (thn (he pins s σ H _ I h) fun v s1 ⟨x, H1, I1, r1, q1⟩ => ⟨σ, H1, I1, q1⟩) I.quiet hs
def tRet (te : TE) : TS := fun D σ H => te σ H D.rt
theorem ps_ret (he : PE X e te) : PS X (.Return (some e) pos) (tRet te) := by
  intro pins s σ H D I h
  exact wpAny_Return_some (thn (he pins s σ H _ I h) fun v s1 ⟨x, H1, I1, r1, q1⟩ => ⟨x, σ, H1, I1, r1, q1⟩)
def tIfS (c : TT) (t u : TS) : TS := fun D σ H => c σ H fun b H1 => if b = true then t D σ H1 else u D σ H1
theorem ps_if {c : Expr} {a b : List Stmt} {tc : TT} (hc : PT X c tc) (ha : PSs X a t) (hb : PSs X b u) : PS X (.If c a b pos) (tIfS tc t u) := by
  intro pins s σ H D I h
  refine wpAny_If (thn (hc pins s σ H _ I h) fun d s1 hhh => ?_)
  obtain ⟨H1, I1, q1⟩ := hhh
  cases d with
  | true => exact ha pins s1 σ H1 D I1 q1
  | false => exact hb pins s1 σ H1 D I1 q1
end
abbrev TG := V -> St -> Hp -> (St -> Hp -> Prop) -> Prop
abbrev TGs := List V -> St -> Hp -> (St -> Hp -> Prop) -> Prop
def PG (X : Cx) (target : Expr) (t : TG) : Prop :=
  ∀ (pins : List (Addr × Obj)) (s : Shared) (σ : St) (H : Hp) (v : V) (u : Value) (Q : St -> Hp -> Prop), Inv X pins σ H s -> RelV v u -> t v σ H Q ->
    wpAny (model X.prog X.w) X.A (assign target X.env u) (fun _ s' => ∃ σ' H', Inv X pins σ' H' s' /\ Q σ' H') X.xe s
def PGs (X : Cx) (ts : List Expr) (t : TGs) : Prop :=
  ∀ (pins : List (Addr × Obj)) (s : Shared) (σ : St) (H : Hp) (vs : List V) (us : List Value) (Q : St -> Hp -> Prop), Inv X pins σ H s -> Vals vs us -> t vs σ H Q ->
    wpAny (model X.prog X.w) X.A (assignInOrder ((assignEach ts X.env).map (·.2)) us) (fun _ s' => ∃ σ' H', Inv X pins σ' H' s' /\ Q σ' H') X.xe s
section
variable {X : Cx} {pos : Pos}
def gName (i : Nat) : TG := fun v σ H Q => Q (σ.set i (some v)) H
theorem pg_name {i : Nat} {x : Str} (hN : X.N.Nodup) (hi : X.N[i]? = some x) (hx : Loc X.env.scope x) (hf : autoParam (X.fn x = true \/ X.env.scope.names.lookup x = some .local) L2.ax1._auto_1) : PG X (.Name x pos) (gName i) := by
  intro pins s σ H v u Q I r h
  exact wpAny_assign_Name (store_ok I hN hi hx r (fun s' I' => ⟨_, H, I', h⟩) hf)
def gNil : TGs := fun vs σ H Q => vs = [] /\ Q σ H
def gCons (t : TG) (u : TGs) : TGs := fun vs σ H Q => ∃ v r, vs = v :: r /\ t v σ H fun σ' H' => u r σ' H' Q
theorem pgs_nil : PGs X [] gNil := by
  intro pins s σ H vs us Q I r h
  obtain ⟨e, h⟩ := h
  subst e
  cases r
  exact assignInOrder_nil ⟨σ, H, I, h⟩
theorem pgs_cons {e : Expr} {es : List Expr} {t : TG} {u : TGs} (h1 : PG X e t) (h2 : PGs X es u)
    (hs : autoParam ((assignEach (e :: es) X.env).map (·.2) = assign e X.env :: (assignEach es X.env).map (·.2)) L2.ax4._auto_1) : PGs X (e :: es) (gCons t u) := by
  intro pins s σ H vs us Q I r h
  obtain ⟨v, vr, e1, h⟩ := h
  subst e1
  cases r with
  | cons r rr =>
    rw [hs]
    refine assignInOrder_cons (thn (h1 pins s σ H _ _ _ I r h) fun _ s1 hhh => ?_)
    obtain ⟨σ1, H1, I1, q1⟩ := hhh
    exact h2 pins s1 σ1 H1 _ _ Q I1 rr q1
def gTup (K : PySem.W.Frag) (n : Nat) (t : TGs) : TG := fun v σ H Q => ∃ a xs, v = .ref a /\ SqT K H a xs /\ xs.length = n /\ t xs σ H Q
theorem pg_tup {es : List Expr} {k : Nat} {t : TGs} {n : Nat} (hc : X.calm = true) (h : PGs X es t)
    (hn : autoParam ((assignEach es X.env).length = n) L2.ax4._auto_1) (hst : autoParam ((assignEach es X.env).findIdx? (·.1) = none) L2.ax4._auto_1) : PG X (.Tuple es k pos) (gTup X.K n t) := by
  intro pins s σ H v u Q I r hw
  obtain ⟨a, xs, e1, hq, hl, hw⟩ := hw
  subst e1
  cases r
  obtain ⟨its, rv, ht, hz⟩ := I.tuple hq
  refine assign_Tuple_tuple (I.ok.hd hc) ht (by simp [hn, ← hl, rv.length]) hst fun h' hx => ?_
  have I1 : Inv X pins σ H { s with heap := h' } := I.kept (t' := s.toks) fun b o e => hx b o (Nat.ne_of_lt (Heap.lt_size e)) e
  exact h pins _ σ H xs _ Q I1 (by simpa using rv) hw
def tAsg (te : TE) (g : TG) : TS := fun D σ H => te σ H fun x H1 => g x σ H1 D.nx
theorem ps_set {i : Nat} {x : Str} {e : Expr} {te : TE} {pos' : Pos} (hN : X.N.Nodup) (hi : X.N[i]? = some x) (hx : Loc X.env.scope x) (he : PE X e te) (hs : autoParam (swapsWith e (some (.Name x pos')) pos.line X.env = pure false) L2.ax4._auto_1) (hf : autoParam (X.fn x = true \/ X.env.scope.names.lookup x = some .local) L2.ax1._auto_1) :
    PS X (.Assign [.Name x pos'] e pos) (tAsg te (gName i)) := by
  intro pins s σ H D I h
  refine wpAny_Assign_Name (thn (he pins s σ H _ I h) fun v s1 hhh => ?_) hs
  obtain ⟨y, H1, I1, r1, q1⟩ := hhh
  exact store_ok I1 hN hi hx r1 (fun s2 I2 => ⟨_, H1, I2, q1⟩) hf
end
structure It where
  go : Nat -> Hp -> Prop
  yld : Nat -> Hp -> V -> Hp -> Prop
  stop : Nat -> Hp -> Prop
def FpOk (X : Cx) (pins : List (Addr × Obj)) (H : Hp) (b : Addr) : Prop :=
  H b = none /\ b ≠ X.env.locals /\ b ∉ X.fs /\ (b ∈ X.ex \/ X.s₀.heap.objs.size <= b) /\ (∀ x c, X.env.cells.lookup x = some c -> c ≠ b) /\ ∀ p ∈ X.pn ++ pins, p.1 ≠ b
theorem Inv.fpOk {X : Cx} {pins : List (Addr × Obj)} {σ : St} {H H' : Hp} {s : Shared} {b : Addr} (I : Inv X pins σ H s) (hb : s.heap.objs.size <= b) (hn : H' b = none) : FpOk X pins H' b := by
  refine ⟨hn, Nat.ne_of_gt (Nat.lt_of_lt_of_le I.lt hb), I.nofs hb, .inr (Nat.le_trans I.sz hb), fun x c e z => ?_, fun p hp z => ?_⟩
  . obtain ⟨v, q⟩ := I.cell x c e
    exact absurd (Nat.lt_of_lt_of_le q.lt (by rw [z]; exact hb)) (Nat.lt_irrefl _)
  . exact absurd (Nat.lt_of_lt_of_le (Heap.lt_size (I.pin p hp).1) (by rw [z]; exact hb)) (Nat.lt_irrefl _)
structure Turn (P : Program) (w : World) (K : PySem.W.Frag) (tg : Expr) (J : It) (fp : List Addr) (it : Addr) (tn : Nat -> Heap -> Prop) : Prop where
  mem : it ∈ fp
  obj : ∀ i h, tn i h -> ∀ b ∈ fp, ∃ o, h.get? b = some o /\ ∀ v, o.data ≠ .cell v
  keep : ∀ i h h', tn i h -> (∀ b ∈ fp, ∀ o, h.get? b = some o -> h'.get? b = some o) -> tn i h'
  item : ∀ (X : Cx), X.prog = P -> X.w = w -> X.K = K -> X.calm = true -> ∀ (i : Nat) (pins : List (Addr × Obj)) (s : Shared) (σ : St) (H : Hp) (E : Value -> Shared -> Prop), Inv X pins σ H s -> (∀ b ∈ fp, FpOk X pins H b) -> tn i s.heap -> J.go i H ->
    wpAny (model P w) X.A (pyNext (.ref it)) (fun r s1 => ∃ u, r = some u /\
      wpAny (model P w) X.A (letOwnedTupleGo tg (.ref it) u) (fun _ s2 => ∃ x H', Inv X pins σ H' s2 /\ RelV x u /\ J.yld i H x H' /\ tn (i + 1) s2.heap /\ ∀ b ∈ fp, H' b = none) E s1) E s
  done : ∀ (X : Cx), X.prog = P -> X.w = w -> X.K = K -> X.calm = true -> ∀ (i : Nat) (pins : List (Addr × Obj)) (s : Shared) (σ : St) (H : Hp) (E : Value -> Shared -> Prop), Inv X pins σ H s -> (∀ b ∈ fp, FpOk X pins H b) -> tn i s.heap -> J.stop i H ->
    wpAny (model P w) X.A (pyNext (.ref it)) (fun r s1 => r = none /\ Inv X pins σ H s1) E s
  self : ∀ (A : Around) (i : Nat) (s : Shared) (Q : Value -> Shared -> Prop) (E : Value -> Shared -> Prop), tn i s.heap -> Q (.ref it) s -> wpAny (model P w) A (pyIter (.ref it)) Q E s
abbrev TI := St -> Hp -> (It -> Hp -> Prop) -> Prop
def PIE (X : Cx) (pins : List (Addr × Obj)) (σ : St) (tg : Expr) (R : It -> Hp -> Prop) (itv : Value) (s2 : Shared) : Prop :=
  ∃ (it : Addr) (fp : List Addr) (tn : Nat -> Heap -> Prop) (J : It) (H' : Hp), itv = .ref it /\ Inv X pins σ H' s2 /\ Turn X.prog X.w X.K tg J fp it tn /\ tn 0 s2.heap /\ (∀ b ∈ fp, FpOk X pins H' b) /\ R J H'
def PI (X : Cx) (tg iter : Expr) (wi : TI) : Prop :=
  ∀ (pins : List (Addr × Obj)) (s : Shared) (σ : St) (H : Hp) (R : It -> Hp -> Prop), Inv X pins σ H s -> wi σ H R ->
    wpAny (model X.prog X.w) X.A (eval iter X.env) (fun v s1 => wpAny (model X.prog X.w) X.A (pyIter v) (PIE X pins σ tg R) X.xe s1) X.xe s
theorem go_of {M : Model} {A : Around} {E : Value -> Shared -> Prop} {s : Shared} {tg : Expr} {it : Addr} {u : Value} {o : Obj} {n : String} {vs : Array Value} {Q : Unit -> Shared -> Prop} (ho : s.heap.get? it = some o) (hc : o.cls = .type n) (hd : o.data = .fields vs)
    (hn : ["enumerate", "zip", "dict_itemiterator", "dict_reverseitemiterator", "odict_iterator", "itertools.zip_longest", "itertools.pairwise"].contains n = false) (hQ : Q () s) : wpAny M A (letOwnedTupleGo tg (.ref it) u) Q E s := by
  unfold letOwnedTupleGo
  cases tg <;> first
    | exact wpAny_pure hQ
    | (cases u <;> first
        | exact wpAny_pure hQ
        | (refine wpAny_bind (wpAny_load ho ?_)
           rw [hc, hd]
           show wpAny M A (if (["enumerate", "zip", "dict_itemiterator", "dict_reverseitemiterator", "odict_iterator", "itertools.zip_longest", "itertools.pairwise"].contains n && vs[0]? == some (rawInt _)) = true then _ else _) Q E s
           rw [if_neg (by intro h; rw [hn, Bool.false_and] at h; cases h)]
           exact wpAny_pure hQ))
noncomputable def Itl (K : PySem.W.Frag) (a : Addr) : It :=
  ⟨fun i H => ∃ xs x, SqL K H a xs /\ xs[i]? = some x, fun i H x H' => H' = H /\ ∀ xs, SqL K H a xs -> xs[i]? = some x, fun i H => ∃ xs, SqL K H a xs /\ xs.length <= i⟩
noncomputable def Itt (K : PySem.W.Frag) (a : Addr) : It :=
  ⟨fun i H => ∃ xs x, SqT K H a xs /\ xs[i]? = some x, fun i H x H' => H' = H /\ ∀ xs, SqT K H a xs -> xs[i]? = some x, fun i H => ∃ xs, SqT K H a xs /\ xs.length <= i⟩
noncomputable def Itr (lo : Int) (n : Nat) : It := ⟨fun i _ => i < n, fun i H x H' => H' = H /\ x = .int (lo + i), fun i _ => n <= i⟩
theorem turn_list {P : Program} {w : World} {K : PySem.W.Frag} {tg : Expr} (a it : Addr) : Turn P w K tg (Itl K a) [it] it (fun i h => h.IsListIter it a i) where
  mem := by simp
  obj := fun i h st b hb => by
    have e : b = it := by simpa using hb
    subst e
    obtain ⟨o, e, c, d⟩ := st
    exact ⟨o, e, fun v z => by rw [d] at z; cases z⟩
  keep := fun i h h' st k => st.at fun o e => k it (by simp) o e
  item := by
    intro X hP hw hK hc i pins s σ H E I hf st hg
    subst hP hw hK
    obtain ⟨xs, x, hq, hx⟩ := hg
    obtain ⟨its, rv, p, hz⟩ := I.list hq
    obtain ⟨u, hu, ru⟩ := rv.get hx
    obtain ⟨f0, f1, f2, f3, f4, f5⟩ := hf it (by simp)
    refine wpAny_pyNext_list_item st p.isList (x := u) (by simpa using hu) fun h' st' sb => ?_
    have I1 : Inv X pins σ H { s with heap := h' } := I.turned (t' := s.toks) (fun b o hb e => (sb.2 b hb).trans e) f0 f1 f3 f4 f5
    obtain ⟨o, e, c, d⟩ := id st'
    exact ⟨u, rfl, go_of (s := { s with heap := h' }) e c d (by decide) ⟨x, H, I1, ru, ⟨rfl, fun ys hy => by rw [I.list_inj hy hq]; exact hx⟩, st', fun b hb => (hf b hb).1⟩⟩
  done := by
    intro X hP hw hK hc i pins s σ H E I hf st hg
    subst hP hw hK
    obtain ⟨xs, hq, hx⟩ := hg
    obtain ⟨its, rv, p, hz⟩ := I.list hq
    obtain ⟨f0, f1, f2, f3, f4, f5⟩ := hf it (by simp)
    have hl := rv.length
    exact wpAny_pyNext_list_end (I.ok.hd hc) st p.isList (by simp; omega) fun h' eb => ⟨rfl, I.turned (t' := s.toks) (fun b o hb e => eb b o hb e) f0 f1 f3 f4 f5⟩
  self := fun _ _ _ _ _ st h => wpAny_pyIter_listiter st h
theorem turn_tuple {P : Program} {w : World} {K : PySem.W.Frag} {tg : Expr} (a it : Addr) : Turn P w K tg (Itt K a) [it] it (fun i h => h.IsTupleIter it a i) where
  mem := by simp
  obj := fun i h st b hb => by
    have e : b = it := by simpa using hb
    subst e
    obtain ⟨o, e, c, d⟩ := st
    exact ⟨o, e, fun v z => by rw [d] at z; cases z⟩
  keep := fun i h h' st k => st.at fun o e => k it (by simp) o e
  item := by
    intro X hP hw hK hc i pins s σ H E I hf st hg
    subst hP hw hK
    obtain ⟨xs, x, hq, hx⟩ := hg
    obtain ⟨its, rv, p, hz⟩ := I.tuple hq
    obtain ⟨u, hu, ru⟩ := rv.get hx
    obtain ⟨f0, f1, f2, f3, f4, f5⟩ := hf it (by simp)
    refine wpAny_pyNext_tuple_item st (show s.heap.IsTuple a its.toArray from p) (x := u) (by simpa using hu) fun h' st' sb => ?_
    have I1 : Inv X pins σ H { s with heap := h' } := I.turned (t' := s.toks) (fun b o hb e => (sb.2 b hb).trans e) f0 f1 f3 f4 f5
    obtain ⟨o, e, c, d⟩ := id st'
    exact ⟨u, rfl, go_of (s := { s with heap := h' }) e c d (by decide) ⟨x, H, I1, ru, ⟨rfl, fun ys hy => by rw [I.tuple_inj hy hq]; exact hx⟩, st', fun b hb => (hf b hb).1⟩⟩
  done := by
    intro X hP hw hK hc i pins s σ H E I hf st hg
    subst hP hw hK
    obtain ⟨xs, hq, hx⟩ := hg
    obtain ⟨its, rv, p, hz⟩ := I.tuple hq
    obtain ⟨f0, f1, f2, f3, f4, f5⟩ := hf it (by simp)
    have hl := rv.length
    exact wpAny_pyNext_tuple_end (I.ok.hd hc) st (show s.heap.IsTuple a its.toArray from p) (by simp; omega) fun h' eb => ⟨rfl, I.turned (t' := s.toks) (fun b o hb e => eb b o hb e) f0 f1 f3 f4 f5⟩
  self := fun _ _ _ _ _ st h => wpAny_pyIter_tupleiter st h
theorem turn_range {P : Program} {w : World} {K : PySem.W.Frag} {tg : Expr} (it : Addr) (lo : Int) (n : Nat) : Turn P w K tg (Itr lo n) [it] it (fun i h => IsRangeIter h it (lo + (i : Nat) * 1) ((n : Int) - (i : Nat)) 1) where
  mem := by simp
  obj := fun i h st b hb => by
    have e : b = it := by simpa using hb
    subst e
    exact ⟨_, st, fun v z => by
      have z' : Data.fields _ = Data.cell v := z
      cases z'⟩
  keep := fun i h h' st k => k it (by simp) _ st
  item := by
    intro X hP hw hK hc i pins s σ H E I hf st hg
    subst hP hw hK
    obtain ⟨f0, f1, f2, f3, f4, f5⟩ := hf it (by simp)
    have W := Walks.range (prog := X.prog) (w := X.w) (I.ok.hd hc) it lo 1 n
    refine W.item i s _ _ hg st fun v h' tk hv st' kk => ?_
    obtain ⟨t, rfl⟩ := hv
    have I1 : Inv X pins σ H { s with heap := h', toks := tk } := I.turned (fun b o hb e => kk b o (by simpa using hb) e) f0 f1 f3 f4 f5
    refine ⟨_, rfl, go_of (s := { s with heap := h', toks := tk }) (n := "range_iterator") st' rfl rfl (by decide) ⟨.int (lo + i), H, I1, ⟨t, ?_⟩, ⟨rfl, rfl⟩, st', fun b hb => (hf b hb).1⟩⟩
    rw [Int.mul_one]
  done := by
    intro X hP hw hK hc i pins s σ H E I hf st hg
    subst hP hw hK
    obtain ⟨f0, f1, f2, f3, f4, f5⟩ := hf it (by simp)
    exact wpAny_pyNext_range_end (I.ok.hd hc) st (by have : n <= i := hg; omega) fun h' eb => ⟨rfl, I.turned (t' := s.toks) (fun b o hb e => eb b o hb e) f0 f1 f3 f4 f5⟩
  self := fun _ _ _ _ _ st h => wpAny_pyIter_rangeiter st h
end L2
namespace L2
open PySem PySem.Spec PyProof.Rows
section
variable {X : Cx} {tg : Expr}
theorem range_it {pins : List (Addr × Obj)} {σ : St} {H : Hp} {s : Shared} {R : It -> Hp -> Prop} {E : Value -> Shared -> Prop} {lo hi : Int} {t u v : Tok} {tk : Nat} (I : Inv X pins σ H s) (h1 : -(2 ^ 62) <= lo) (h2 : lo < 2 ^ 62) (h3 : -(2 ^ 62) <= hi) (h4 : hi < 2 ^ 62)
    (q : R (Itr lo (hi - lo).toNat) H) : wpAny (model X.prog X.w) X.A (pyIter (.ref s.heap.objs.size)) (PIE X pins σ tg R) E { s with heap := s.heap.push { cls := .type "range", data := .fields #[.int lo t, .int hi u, .int 1 v] }, toks := tk } := by
  refine wpAny_pyIter_range (IsRange.new ..) (small_one h1 h2 h3 h4) ?_
  have I1 : Inv X pins σ H { s with heap := s.heap.push { cls := .type "range", data := .fields #[.int lo t, .int hi u, .int 1 v] }, toks := tk } := I.kept fun b o e => Heap.get?_push_of_some _ e
  refine ⟨(s.heap.push { cls := .type "range", data := .fields #[.int lo t, .int hi u, .int 1 v] }).objs.size, [(s.heap.push { cls := .type "range", data := .fields #[.int lo t, .int hi u, .int 1 v] }).objs.size], _, _, H, rfl,
    I1.kept (t' := tk) fun b o e => Heap.get?_push_of_some _ e, turn_range _ lo (hi - lo).toNat, ?_, fun b hb => ?_, q⟩
  . have e1 : lo + ((0 : Nat) : Int) * 1 = lo := by simp
    have e2 : (((hi - lo).toNat : Nat) : Int) - ((0 : Nat) : Int) = Builtin.Range.rangeSize lo hi 1 := by rw [rangeSize_one]; split <;> omega
    show IsRangeIter _ _ (lo + ((0 : Nat) : Int) * 1) ((((hi - lo).toNat : Nat) : Int) - ((0 : Nat) : Int)) 1
    rw [e1, e2]
    exact Heap.get?_push_size _ rfl
  . have e : b = (s.heap.push { cls := .type "range", data := .fields #[.int lo t, .int hi u, .int 1 v] }).objs.size := by simpa using hb
    subst e
    exact I1.fpOk (Nat.le_refl _) (I1.hok.fresh (Nat.le_refl _))
def iRng1 (ta : TA) : TI := fun σ H R => ta σ H fun vs H1 => ∃ j : Int, vs = [.int j] /\ -(2 ^ 62) <= j /\ j < 2 ^ 62 /\ R (Itr 0 j.toNat) H1
theorem pi_range1 {a : Expr} {ta : TA} {p pos : Pos} (hg : Gl X "range") (hm : X.mg "range" = none) (ha : PA X [a] ta) (hs : autoParam (starEach [a] X.env = [(false, eval a X.env)]) L2.ax4._auto_1) : PI X tg (.Call (.Name "range" p) [a] [] pos) (iRng1 ta) := by
  intro pins s σ H R I h
  refine Call_ (ld_blt I hg hm boot_range (PyProof.Rows.callWith_type1 (thn (ha pos pins s σ H _ I h) fun us s1 hhh => ?_) hs rfl))
  obtain ⟨vs, H1, I1, r1, q1⟩ := hhh
  obtain ⟨j, e, q1, q2, q⟩ := q1
  subst e
  cases r1 with
  | cons r rr =>
    cases rr
    obtain ⟨t, rfl⟩ := r
    exact call_range_1 (range_it I1 (by omega) (by omega) q1 q2 (by simpa using q))
def tFor (wi : TI) (g : TG) (tb : TS) : TS := fun D σ H => wi σ H fun J H1 => ∃ W : Nat -> Nat -> St -> Hp -> Prop, (∃ m, W 0 m σ H1) /\ ∀ i m σ H, W i m σ H ->
  (J.stop i H /\ D.nx σ H) \/ (J.go i H /\ ∃ N : St -> Hp -> Prop, (∀ σ' H', N σ' H' -> ∃ m', m' < m /\ W (i + 1) m' σ' H') /\ ∀ x H', J.yld i H x H' -> g x σ H' fun σ2 H2 => tb { D with nx := N, ct := N, bk := D.nx } σ2 H2)
noncomputable def pinsAt (fp : List Addr) (h : Heap) : List (Addr × Obj) := fp.filterMap fun b => (h.get? b).map fun o => (b, o)
theorem mem_pinsAt {fp : List Addr} {h : Heap} {b : Addr} {o : Obj} (hb : b ∈ fp) (e : h.get? b = some o) : (b, o) ∈ pinsAt fp h := List.mem_filterMap.mpr ⟨b, hb, by rw [e]; rfl⟩
theorem of_pinsAt {fp : List Addr} {h : Heap} {p : Addr × Obj} (hp : p ∈ pinsAt fp h) : p.1 ∈ fp /\ h.get? p.1 = some p.2 := by
  obtain ⟨b, hb, e⟩ := List.mem_filterMap.mp hp
  cases q : h.get? b with
  | none => rw [q] at e; cases e
  | some o =>
    rw [q] at e
    have e' : (b, o) = p := Option.some.inj e
    subst e'
    exact ⟨hb, q⟩
theorem Inv.pinned {pins : List (Addr × Obj)} {σ : St} {H : Hp} {s : Shared} {fp : List Addr} (I : Inv X pins σ H s) (hf : ∀ b ∈ fp, FpOk X pins H b) (ho : ∀ b ∈ fp, ∃ o, s.heap.get? b = some o /\ ∀ v, o.data ≠ .cell v) : Inv X (pins ++ pinsAt fp s.heap) σ H s :=
  I.pins_of fun p hp => (List.mem_append.mp hp).elim (fun z => I.pin p (List.mem_append_right _ z)) fun z => by
    obtain ⟨hb, e⟩ := of_pinsAt z
    obtain ⟨f0, f1, f2, _⟩ := hf p.1 hb
    obtain ⟨o, e', d⟩ := ho p.1 hb
    rw [e] at e'; cases e'
    exact ⟨e, f0, f1, f2, d⟩
theorem Inv.unpinned {pins pl : List (Addr × Obj)} {σ : St} {H : Hp} {s : Shared} (I : Inv X (pins ++ pl) σ H s) : Inv X pins σ H s := I.pins_of fun p hp => I.pin p (List.mem_append_right _ (List.mem_append_left _ hp))
theorem ps_for {iter : Expr} {body : List Stmt} {wi : TI} {g : TG} {tb : TS} {pos : Pos} (hp : PassesOwn (model X.prog X.w) X.A X.env X.xe) (hc : X.calm = true) (hi : PI X tg iter wi) (hg : PG X tg g) (hb : PSs X body tb)
    (hs : autoParam (∀ x, foldedSetIterable iter X.env x = pure x) L2.ax5._auto_1) : PS X (.For tg iter body [] pos) (tFor wi g tb) := by
  intro pins s σ H D I h
  refine wpAny_For (thn (hi pins s σ H _ I h) fun v s1 h1 => thn h1 fun itv s2 h2 => ?_) hs
  obtain ⟨it, fp, tn, J, H2, e, I2, T, st2, f2, W, ⟨m0, w0⟩, turn⟩ := h2
  subst e
  have stat : ∀ {H' : Hp}, (∀ b ∈ fp, H' b = none) -> ∀ b ∈ fp, FpOk X pins H' b := fun hn b hb => ⟨hn b hb, (f2 b hb).2⟩
  refine codeAny_forLoop_any (fun n s' => ∃ i σ' H', Inv X pins σ' H' s' /\ tn i s'.heap /\ (∀ b ∈ fp, H' b = none) /\ W i n σ' H') ?_ m0 ⟨0, σ, H2, I2, st2, fun b hb => (f2 b hb).1, w0⟩
  rintro n s3 ⟨i, σ3, H3, I3, st3, fr3, w3⟩
  rcases turn i n σ3 H3 w3 with ⟨stop, qn⟩ | ⟨go, N, hN, step⟩
  . refine wpAny_passesOwn hp (thn (T.done X rfl rfl rfl hc i pins s3 σ3 H3 X.xe I3 (stat fr3) st3 stop) fun r s4 hhh => ?_)
    obtain ⟨hr, I4⟩ := hhh
    subst hr
    exact wpAny_execs_nil ⟨σ3, H3, I4, qn⟩
  . refine wpAny_passesOwn hp (thn (T.item X rfl rfl rfl hc i pins s3 σ3 H3 X.xe I3 (stat fr3) st3 go) fun r s4 hhh => ?_)
    obtain ⟨u, hr, h4⟩ := hhh
    subst hr
    refine wpAny_passesOwn hp (thn h4 fun _ s5 hhh => ?_)
    obtain ⟨x, H5, I5, r5, y5, st5, fr5⟩ := hhh
    have I5' := I5.pinned (stat fr5) (T.obj _ _ st5)
    refine wpAny_passesOwn hp (thn (hg _ s5 σ3 H5 x u _ I5' r5 (step x H5 y5)) fun _ s6 hhh => ?_)
    obtain ⟨σ6, H6, I6, q6⟩ := hhh
    refine wpAny_passesOwn hp (thn (hb _ s6 σ6 H6 _ I6 q6) fun f s7 q7 => ?_)
    have again : ∀ {σ7 : St} {H7 : Hp}, Inv X (pins ++ pinsAt fp s5.heap) σ7 H7 s7 -> N σ7 H7 -> ∃ m, m < n /\ ∃ i σ' H', Inv X pins σ' H' s7 /\ tn i s7.heap /\ (∀ b ∈ fp, H' b = none) /\ W i m σ' H' := fun {σ7 H7} I7 n7 => by
      obtain ⟨m', hm, w7⟩ := hN σ7 H7 n7
      refine ⟨m', hm, i + 1, σ7, H7, I7.unpinned, T.keep _ _ _ st5 fun b hb o e => (I7.pin (b, o) (List.mem_append_right _ (List.mem_append_right _ (mem_pinsAt hb e)))).1, fun b hb => ?_, w7⟩
      obtain ⟨o, e, d⟩ := T.obj _ _ st5 b hb
      exact (I7.pin (b, o) (List.mem_append_right _ (List.mem_append_right _ (mem_pinsAt hb e)))).2.1
    cases f with
    | next => obtain ⟨σ7, H7, I7, n7⟩ := q7; exact again I7 n7
    | cont => obtain ⟨σ7, H7, I7, n7⟩ := q7; exact again I7 n7
    | brk => obtain ⟨σ7, H7, I7, q7⟩ := q7; exact ⟨σ7, H7, I7.unpinned, q7⟩
    | ret v => obtain ⟨x7, σ7, H7, I7, r7, q7⟩ := q7; exact ⟨x7, σ7, H7, I7.unpinned, r7, q7⟩
end
end L2
namespace L2
open PySem PySem.Spec PyProof.Rows
abbrev R2 := V -> V -> Hp -> VK -> Prop
def OpR (X : Cx) (f : Value -> Value -> Sem Value) (r : R2) : Prop :=
  ∀ (pins : List (Addr × Obj)) (s : Shared) (σ : St) (H : Hp) (x y : V) (v u : Value) (Q : VK), Inv X pins σ H s -> RelV x v -> RelV y u -> r x y H Q ->
    wpAny (model X.prog X.w) X.A (f v u) (EP X pins σ Q) X.xe s
def UnR (X : Cx) (f : Value -> Sem Value) (r : V -> Hp -> VK -> Prop) : Prop :=
  ∀ (pins : List (Addr × Obj)) (s : Shared) (σ : St) (H : Hp) (x : V) (v : Value) (Q : VK), Inv X pins σ H s -> RelV x v -> r x H Q ->
    wpAny (model X.prog X.w) X.A (f v) (EP X pins σ Q) X.xe s
def CallR (X : Cx) (f : Value) (r : List V -> Hp -> VK -> Prop) : Prop :=
  ∀ (pins : List (Addr × Obj)) (s : Shared) (σ : St) (H : Hp) (xs : List V) (us : List Value) (Q : VK), Inv X pins σ H s -> Vals xs us -> r xs H Q ->
    wpAny (model X.prog X.w) X.A (call f us) (EP X pins σ Q) X.xe s
def TruR (X : Cx) (r : V -> Hp -> (Bool -> Hp -> Prop) -> Prop) : Prop :=
  ∀ (pins : List (Addr × Obj)) (s : Shared) (σ : St) (H : Hp) (x : V) (v : Value) (Q : Bool -> Hp -> Prop), Inv X pins σ H s -> RelV x v -> r x H Q ->
    wpAny (model X.prog X.w) X.A (truthy v) (TP X pins σ Q) X.xe s
def tOp (r : R2) (ta tb : TE) : TE := fun σ H Q => ta σ H fun x H1 => tb σ H1 fun y H2 => r x y H2 Q
def tUn (r : V -> Hp -> VK -> Prop) (ta : TE) : TE := fun σ H Q => ta σ H fun x H1 => r x H1 Q
def rI (C : Int -> Int -> Prop) (g : Int -> Int -> V) : R2 := fun x y H Q => ∃ i j, x = .int i /\ y = .int j /\ C i j /\ Q (g i j) H
def rI0 (g : Int -> Int -> V) : R2 := fun x y H Q => ∃ i j, x = .int i /\ y = .int j /\ Q (g i j) H
def rU (g : Int -> V) : V -> Hp -> VK -> Prop := fun x H Q => ∃ i, x = .int i /\ Q (g i) H
section
variable {X : Cx} {a b c : Expr} {ta tb tc : TE} {pos : Pos}
theorem binT (ha : PE X a ta) (hb : PE X b tb) {pins : List (Addr × Obj)} {s : Shared} {σ : St} {H : Hp} {R : V -> V -> Hp -> Prop} (I : Inv X pins σ H s)
    (h : ta σ H fun x H1 => tb σ H1 fun y H2 => R x y H2) {Q : Value -> Shared -> Prop} {f : Value -> Value -> Sem Value}
    (hf : ∀ v u s2 x y H2, Inv X pins σ H2 s2 -> RelV x v -> RelV y u -> R x y H2 -> wpAny (model X.prog X.w) X.A (f v u) Q X.xe s2) :
    wpAny (model X.prog X.w) X.A (eval a X.env) (fun v s₁ => wpAny (model X.prog X.w) X.A (eval b X.env) (fun u s₂ => wpAny (model X.prog X.w) X.A (f v u) Q X.xe s₂) X.xe s₁) X.xe s := by
  refine thn (ha pins s σ H _ I h) fun v s1 hhh => ?_
  obtain ⟨x, H1, I1, r1, q1⟩ := hhh
  refine thn (hb pins s1 σ H1 _ I1 q1) fun u s2 hhh => ?_
  obtain ⟨y, H2, I2, r2, q2⟩ := hhh
  exact hf v u s2 x y H2 I2 r1 r2 q2
theorem pe_op {op : Operator} {r : R2} (ho : OpR X (binaryOp op) r) (ha : PE X a ta) (hb : PE X b tb) : PE X (.BinOp a op b pos) (tOp r ta tb) := by
  intro pins s σ H Q I h
  exact wpAny_BinOp (binT ha hb I h fun v u s2 x y H2 I2 rx ry q => ho pins s2 σ H2 x y v u Q I2 rx ry q)
theorem pe_un {op : UnaryOp} {r : V -> Hp -> VK -> Prop} (ho : UnR X (unaryOp op) r) (ha : PE X a ta) : PE X (.UnaryOp op a pos) (tUn r ta) := by
  intro pins s σ H Q I h
  exact UnaryOp_ (thn (ha pins s σ H _ I h) fun v s1 ⟨x, H1, I1, r1, q1⟩ => ho pins s1 σ H1 x v Q I1 r1 q1)
theorem opI {f : Value -> Value -> Sem Value} {C : Int -> Int -> Prop} {g : Int -> Int -> Int}
    (rule : ∀ (i j : Int) (t u : Tok) (s : Shared) (Q : Value -> Shared -> Prop) (E : Value -> Shared -> Prop), C i j -> Q (.int (g i j) s.toks) { s with toks := s.toks + 1 } -> wpAny (model X.prog X.w) X.A (f (.int i t) (.int j u)) Q E s) :
    OpR X f (rI C fun i j => .int (g i j)) := by
  intro pins s σ H x y v u Q I rx ry h
  obtain ⟨i, j, rfl, rfl, hc, q⟩ := h
  obtain ⟨t, rfl⟩ := rx
  obtain ⟨t', rfl⟩ := ry
  exact rule i j t t' s _ _ hc ⟨.int (g i j), H, I.tok _, ⟨_, rfl⟩, q⟩
theorem opI0 {f : Value -> Value -> Sem Value} {g : Int -> Int -> Int}
    (rule : ∀ (i j : Int) (t u : Tok) (s : Shared) (Q : Value -> Shared -> Prop) (E : Value -> Shared -> Prop), Q (.int (g i j) s.toks) { s with toks := s.toks + 1 } -> wpAny (model X.prog X.w) X.A (f (.int i t) (.int j u)) Q E s) :
    OpR X f (rI0 fun i j => .int (g i j)) := by
  intro pins s σ H x y v u Q I rx ry h
  obtain ⟨i, j, rfl, rfl, q⟩ := h
  obtain ⟨t, rfl⟩ := rx
  obtain ⟨t', rfl⟩ := ry
  exact rule i j t t' s _ _ ⟨.int (g i j), H, I.tok _, ⟨_, rfl⟩, q⟩
def CDiv (i j : Int) : Prop := 0 < j /\ j < 1073741824
def CMul (i j : Int) : Prop := (-(2 ^ 64) < i /\ i < 2 ^ 64) \/ (-(2 ^ 64) < j /\ j < 2 ^ 64)
theorem CMul.ok {i j : Int} (h : CMul i j) : IntMulOk i j := by
  rcases h with ⟨h1, h2⟩ | ⟨h1, h2⟩
  . exact .of_left (intBits_le_64 h1 h2)
  . exact .of_right (intBits_le_64 h1 h2)
theorem op_sub : OpR X (binaryOp .Sub) (rI0 fun i j => .int (i - j)) := opI0 fun _ _ _ _ _ _ _ q => sub_int q
theorem op_fdiv : OpR X (binaryOp .FloorDiv) (rI CDiv fun i j => .int (i / j)) := opI fun i j _ _ _ _ _ hc q => by
  have h1 : (0 : Int) < j := hc.1
  have h2 : j < 1073741824 := hc.2
  exact floordiv_int (by omega) (by rw [Int.fdiv_eq_ediv_of_nonneg i (by omega)]; exact q) (.inl (PyProof.noPylong_small (by omega)))
theorem op_mod : OpR X (binaryOp .Mod) (rI (fun _ j => 0 < j) fun i j => .int (i % j)) := opI fun i j _ _ _ _ _ hc q => by
  have h1 : (0 : Int) < j := hc
  exact mod_int' (by omega) (by rw [Int.fmod_eq_emod_of_nonneg i (by omega)]; exact q)
theorem unI {f : Value -> Sem Value} {g : Int -> Int}
    (rule : ∀ (i : Int) (t : Tok) (s : Shared) (Q : Value -> Shared -> Prop) (E : Value -> Shared -> Prop), Q (.int (g i) s.toks) { s with toks := s.toks + 1 } -> wpAny (model X.prog X.w) X.A (f (.int i t)) Q E s) :
    UnR X f (rU fun i => .int (g i)) := by
  intro pins s σ H x v Q I rx h
  obtain ⟨i, rfl, q⟩ := h
  obtain ⟨t, rfl⟩ := rx
  exact rule i t s _ _ ⟨.int (g i), H, I.tok _, ⟨_, rfl⟩, q⟩
theorem un_neg : UnR X (unaryOp .USub) (rU fun i => .int (-i)) := unI fun _ _ _ _ _ q => neg_int q
end
section
variable {X : Cx} {a b c : Expr} {ta tb tc : TE} {pos : Pos}
theorem nomark (b : Expr) {op : CmpOp} (h : autoParam (op ≠ .In) L2.ax2._auto_1) (h2 : autoParam (op ≠ .NotIn) L2.ax2._auto_1) : behindInMarks op b = false := by
  have e1 : (op == CmpOp.In) = false := by cases op <;> first | rfl | exact absurd rfl h
  have e2 : (op == CmpOp.NotIn) = false := by cases op <;> first | rfl | exact absurd rfl h2
  cases b <;> simp [behindInMarks, e1, e2]
theorem pe_cmpR {op : CmpOp} {r : R2} (ho : OpR X (compareOp op) r) (ha : PE X a ta) (hb : PE X b tb) (hm : behindInMarks op b = false) : PE X (.Compare a [op] [b] pos) (tOp r ta tb) := by
  intro pins s σ H Q I h
  exact wpAny_Compare1 (binT ha hb I h fun v u s2 x y H2 I2 rx ry q => ho pins s2 σ H2 x y v u Q I2 rx ry q) hm
def tTest (t : TE) : TT := fun σ H Q => t σ H fun x H' => ∃ k, x = .bl k /\ Q k H'
theorem pt_cmpR {op : CmpOp} {r : R2} (ho : OpR X (compareOp op) r) (ha : PE X a ta) (hb : PE X b tb) (hm : behindInMarks op b = false) : PT X (.Compare a [op] [b] pos) (tTest (tOp r ta tb)) := by
  intro pins s σ H Q I h
  refine wpAny_isTrue_Compare1 (thn (ha pins s σ H _ I h) fun v s1 ⟨x, H1, I1, r1, q1⟩ => thn (hb pins s1 σ H1 _ I1 q1) fun u s2 ⟨y, H2, I2, r2, q2⟩ =>
    thn (ho pins s2 σ H2 x y v u _ I2 r1 r2 q2) fun c s3 ⟨z, H3, I3, r3, k, e, q3⟩ => ?_) hm
  subst e
  cases r3
  exact wpAny_truthy_bool ⟨H3, I3, q3⟩
def tChain (r r' : R2) (ta tb tc : TE) : TE := fun σ H Q => ta σ H fun x H1 => tb σ H1 fun y H2 => r x y H2 fun z H3 => ∃ k, z = .bl k /\
  (if k = true then tc σ H3 fun w' H4 => r' y w' H4 Q else Q (.bl false) H3)
theorem pe_chain {op op' : CmpOp} {r r' : R2} (ho : OpR X (compareOp op) r) (ho' : OpR X (compareOp op') r') (ha : PE X a ta) (hb : PE X b tb) (hc : PE X c tc)
    (hm : autoParam (lastMarks [op, op'] [b, c] = false) L2.ax6._auto_1) : PE X (.Compare a [op, op'] [b, c] pos) (tChain r r' ta tb tc) := by
  intro pins s σ H Q I h
  refine Compare_chain (thn (ha pins s σ H _ I h) fun v s1 ⟨x, H1, I1, r1, q1⟩ => chain_link (thn (hb pins s1 σ H1 _ I1 q1) fun u s2 ⟨y, H2, I2, r2, q2⟩ =>
    thn (ho pins s2 σ H2 x y v u _ I2 r1 r2 q2) fun d s3 ⟨z, H3, I3, r3, k, e, q3⟩ => ?_)) hm
  subst e
  cases r3
  refine wpAny_truthy_bool ?_
  cases k with
  | false => exact ite_ff ⟨.bl false, H3, I3, rfl, q3⟩
  | true => exact ite_tt (chain_last (thn (hc pins s3 σ H3 _ I3 q3) fun w' s4 ⟨z', H4, I4, r4, q4⟩ => ho' pins s4 σ H4 y z' u w' Q I4 r2 r4 q4))
theorem pt_chain {op op' : CmpOp} {r r' : R2} (ho : OpR X (compareOp op) r) (ho' : OpR X (compareOp op') r') (ha : PE X a ta) (hb : PE X b tb) (hc : PE X c tc)
    (hm : autoParam (lastMarks [op, op'] [b, c] = false) L2.ax6._auto_1) : PT X (.Compare a [op, op'] [b, c] pos) (tTest (tChain r r' ta tb tc)) := by
  intro pins s σ H Q I h
  refine isTrue_chain (thn (ha pins s σ H _ I h) fun v s1 ⟨x, H1, I1, r1, q1⟩ => test_link (thn (hb pins s1 σ H1 _ I1 q1) fun u s2 ⟨y, H2, I2, r2, q2⟩ =>
    thn (ho pins s2 σ H2 x y v u _ I2 r1 r2 q2) fun d s3 ⟨z, H3, I3, r3, k, e, q3⟩ => ?_)) hm
  subst e
  cases r3
  refine wpAny_truthy_bool ?_
  cases k with
  | false =>
    obtain ⟨k', e', q'⟩ := q3
    cases e'
    exact ite_ff ⟨H3, I3, q'⟩
  | true =>
    refine ite_tt (test_last (thn (hc pins s3 σ H3 _ I3 q3) fun w' s4 ⟨z', H4, I4, r4, q4⟩ => thn (ho' pins s4 σ H4 y z' u w' _ I4 r2 r4 q4) fun d' s5 hhh => ?_))
    obtain ⟨z2, H5, I5, r5, k2, e2, q5⟩ := hhh
    subst e2
    cases r5
    exact wpAny_truthy_bool ⟨H5, I5, q5⟩
def TruV (K : PySem.W.Frag) (x : V) (H : Hp) (k : Bool) : Prop :=
  match x with
  | .non => k = false
  | .bl b => k = b
  | .int i => k = (i != 0)
  | .str y => y.length <= sizeLine /\ k = ((y.length : Int) != 0)
  | .byt y => y.size <= sizeLine /\ k = ((y.size : Int) != 0)
  | .ref p => (∃ xs, SqL K H p xs /\ k = !xs.isEmpty) \/ (∃ xs, SqT K H p xs /\ k = !xs.isEmpty) \/ ∃ kvs, H p = some (.dK kvs) /\ k = !kvs.isEmpty
  | _ => False
theorem isEmpty_kv {κ : Type} {kvs : List (κ × V)} {vs : List (κ × Value)} (r : KV kvs vs) : (!vs.isEmpty) = !kvs.isEmpty := by
  cases r <;> rfl
theorem isEmpty_of {xs : List V} {its : List Value} (r : Vals xs its) : (!its.toArray.isEmpty) = !xs.isEmpty := by
  cases r <;> simp
theorem line63 : (sizeLine : Nat) < 2 ^ 63 := by rw [sizeLine_eq]; decide
theorem tru_ok : TruR X (fun x H Q => ∃ k, TruV X.K x H k /\ Q k H) := by
  intro pins s σ H x v Q I rx h
  obtain ⟨k, e, q⟩ := h
  have hl := line63
  have hs : sizeLine = 16777216 := sizeLine_eq
  cases x with
  | non =>
    cases rx
    have e' : k = false := e
    subst e'
    exact truthy_none ⟨H, I, q⟩
  | bl b =>
    cases rx
    have e' : k = b := e
    subst e'
    exact wpAny_truthy_bool ⟨H, I, q⟩
  | int i =>
    obtain ⟨t, rfl⟩ := rx
    have e' : k = (i != 0) := e
    subst e'
    exact PySem.P.truthy_int ⟨H, I, q⟩
  | str y =>
    obtain ⟨t, rfl⟩ := rx
    obtain ⟨hy, e'⟩ : y.length <= sizeLine /\ k = ((y.length : Int) != 0) := e
    subst e'
    exact PySem.P.truthy_str (by omega) ⟨H, I.tok _, q⟩
  | byt y =>
    obtain ⟨t, rfl⟩ := rx
    obtain ⟨hy, e'⟩ : y.size <= sizeLine /\ k = ((y.size : Int) != 0) := e
    subst e'
    exact PySem.W.truthy_bytes (by omega) ⟨H, I.tok _, q⟩
  | ref p =>
    cases rx
    have e' : (∃ xs, SqL X.K H p xs /\ k = !xs.isEmpty) \/ (∃ xs, SqT X.K H p xs /\ k = !xs.isEmpty) \/ ∃ kvs, H p = some (.dK kvs) /\ k = !kvs.isEmpty := e
    rcases e' with ⟨xs, hx, e'⟩ | ⟨xs, hx, e'⟩ | ⟨kvs, hx, e'⟩
    . subst e'
      obtain ⟨its, r, pl, hz⟩ := I.list hx
      have hlen := r.length
      exact wpAny_truthy_list pl.isList (by simp only [List.size_toArray]; omega) ⟨H, I.tok _, by rw [isEmpty_of r]; exact q⟩
    . subst e'
      obtain ⟨its, r, pl, hz⟩ := I.tuple hx
      have hlen := r.length
      exact truthy_tuple pl (by simp only [List.size_toArray]; omega) ⟨H, I.tok _, by rw [isEmpty_of r]; exact q⟩
    . subst e'
      obtain ⟨hz, hS, vs, r, m⟩ : kvs.length <= sizeLine /\ (p == sysModules) = false /\ ∃ vs, KV kvs vs /\ s.heap.DictOf (mixKind X.prog X.w) p vs := I.hok p _ hx
      have hlen : kvs.length = vs.length := Paired.length r
      exact wpAny_truthy_dict hS m (by omega) ⟨H, I.tok _, by rw [isEmpty_kv r]; exact q⟩
  | _ => exact (show False from e).elim
theorem pt_truth (ha : PE X a ta) (he : ∀ whole, isTrue a X.env whole = (do let v ← whole; standAt a.pos; holding [v] (truthy v))) :
    PT X a (fun σ H Q => ta σ H fun x H' => ∃ k, TruV X.K x H' k /\ Q k H') := by
  intro pins s σ H Q I h
  exact isTrue_plain (thn (ha pins s σ H _ I h) fun v s1 ⟨x, H1, I1, r1, q1⟩ => tru_ok pins s1 σ H1 x v Q I1 r1 q1) (he _)
theorem vals1 {x : V} {us : List Value} (r : Vals [x] us) : ∃ u, us = [u] /\ RelV x u := by
  cases r with
  | cons r1 r2 => cases r2; exact ⟨_, rfl, r1⟩
theorem vals2 {x y : V} {us : List Value} (r : Vals [x, y] us) : ∃ u w', us = [u, w'] /\ RelV x u /\ RelV y w' := by
  cases r with
  | cons r1 r2 =>
    cases r2 with
    | cons r3 r4 => cases r4; exact ⟨_, _, rfl, r1, r3⟩
theorem call_int1 : CallR X (.type "int") (fun xs H Q => (∃ i, xs = [.int i] /\ Q (.int i) H) \/ ∃ k, xs = [.bl k] /\ Q (.int (if k then 1 else 0)) H) := by
  intro pins s σ H xs us Q I r h
  rcases h with ⟨i, rfl, q⟩ | ⟨k, rfl, q⟩
  . obtain ⟨u, rfl, t, rfl⟩ := vals1 r
    exact call_int_int ⟨.int i, H, I, ⟨_, rfl⟩, q⟩
  . obtain ⟨u, rfl, r1⟩ := vals1 r
    cases r1
    exact call_int_bool ⟨.int (if k then 1 else 0), H, I.tok _, ⟨_, rfl⟩, q⟩
theorem call_str_int : CallR X (.type "str") (fun xs H Q => ∃ i, xs = [.int i] /\ i.natAbs.log2 < 1920 /\ Q (.str (toString i)) H) := by
  intro pins s σ H xs us Q I r h
  obtain ⟨i, rfl, hz, q⟩ := h
  obtain ⟨u, rfl, t, rfl⟩ := vals1 r
  exact PySem.P.str_of_int hz ⟨.str _, H, I.tok _, ⟨_, rfl⟩, q⟩
def LenV (K : PySem.W.Frag) (x : V) (H : Hp) (n : Nat) : Prop :=
  match x with
  | .str y => y.length <= sizeLine /\ n = y.length
  | .byt y => y.size <= sizeLine /\ n = y.size
  | .ref p => (∃ xs, SqL K H p xs /\ n = xs.length) \/ ∃ xs, SqT K H p xs /\ n = xs.length
  | _ => False
theorem call_len : CallR X (.builtin "len") (fun xs H Q => ∃ x n, xs = [x] /\ LenV X.K x H n /\ Q (.int n) H) := by
  intro pins s σ H xs us Q I r h
  obtain ⟨x, n, rfl, e, q⟩ := h
  obtain ⟨u, rfl, rx⟩ := vals1 r
  have hl := line63
  have hs : sizeLine = 16777216 := sizeLine_eq
  cases x with
  | str y =>
    obtain ⟨t, rfl⟩ := rx
    obtain ⟨hy, e'⟩ : y.length <= sizeLine /\ n = y.length := e
    subst e'
    exact len_str (by omega) ⟨.int _, H, I.tok _, ⟨_, rfl⟩, q⟩
  | byt y =>
    obtain ⟨t, rfl⟩ := rx
    obtain ⟨hy, e'⟩ : y.size <= sizeLine /\ n = y.size := e
    subst e'
    exact PySem.W.len_bytes (by omega) ⟨.int _, H, I.tok _, ⟨_, rfl⟩, q⟩
  | ref p =>
    cases rx
    have e' : (∃ xs, SqL X.K H p xs /\ n = xs.length) \/ ∃ xs, SqT X.K H p xs /\ n = xs.length := e
    rcases e' with ⟨xs, hx, e'⟩ | ⟨xs, hx, e'⟩
    . subst e'
      obtain ⟨its, r', pl, hz⟩ := I.list hx
      have hlen := r'.length
      exact Calls.call_len_list pl.isList (by simp only [List.size_toArray]; omega) ⟨.int xs.length, H, I.tok _, ⟨_, by simp only [List.size_toArray]; rw [hlen]⟩, q⟩
    . subst e'
      obtain ⟨its, r', pl, hz⟩ := I.tuple hx
      have hlen := r'.length
      exact len_tuple pl (by simp only [List.size_toArray]; omega) ⟨.int xs.length, H, I.tok _, ⟨_, by simp only [List.size_toArray]; rw [hlen]⟩, q⟩
  | _ => exact (show False from e).elim
end
end L2
namespace L2
open PySem PySem.Spec PyProof.Rows
structure ObjM (h : Heap) (x dx C : Addr) (mA : Str -> Option Value) : Prop where
  obj : h.get? x = some (PySem.W.instObj C dx)
  ns : h.Ns1 dx mA
  ne : dx ≠ x
theorem lookIn_ns {h : Heap} {dx : Addr} {mA : Str -> Option Value} (n : h.Ns1 dx mA) : ∃ od, h.get? dx = some od /\ ∀ name, PySem.W.lookIn name od = some (mA name) := by
  obtain ⟨o, es, ep, ho, hd, hk, _, hm⟩ := n
  refine ⟨o, ho, fun name => ?_⟩
  have e := hm name
  unfold nsFind findBy at e
  rw [← Array.find?_toList] at e
  unfold PySem.W.lookIn
  rw [hd]
  dsimp only
  split
  . rename_i y q
    rw [q] at e
    exact congrArg some e
  . rename_i q
    rw [q] at e
    have a : es.toList.any (·.refKey) = false := by
      rw [List.any_eq_false]
      intro y hy
      obtain ⟨z, t, hkey⟩ := hk y (Array.mem_toList_iff.mp hy)
      simp [DictEntry.refKey, hkey]
    have a' : ¬ es.toList.any (·.refKey) = true := by rw [a]; exact Bool.false_ne_true
    rw [if_neg a']
    exact congrArg some e
theorem ObjM.look {h : Heap} {x dx C : Addr} {mA : Str -> Option Value} (I : ObjM h x dx C mA) : ∃ od, PySem.W.InstAt h x (PySem.W.instObj C dx) C (some od) /\ ∀ name, PySem.W.lookIn name od = some (mA name) :=
  let ⟨od, ho, hl⟩ := lookIn_ns I.ns
  ⟨od, ⟨I.obj, rfl, rfl, ho⟩, hl⟩
theorem RelO.some_of {v : V} {o : Option Value} (r : RelO (some v) o) : ∃ u, o = some u /\ RelV v u := by
  cases o with
  | none => exact (show False from r).elim
  | some u => exact ⟨u, rfl, r⟩
section
variable {P : Program} {w : World} {H H' : Hp} {h h' : Heap} {a C dx : Addr} {fs fs' : List (Str × V)}
theorem ins_get (hok : HOk P w H h) (e : H a = some (.ins C dx fs)) : ∃ mA, ObjM h a dx C mA /\ (∀ f, RelO (fs.lookup f) (mA f)) /\ PySem.Within mA (fs.map (·.1)) /\ fs.length <= 1000 /\ H dx = some (.own a) := by
  obtain ⟨d, z, ne, ob, mA, n, r, q⟩ := (show ObjOk P w H h a (.ins C dx fs) from hok a _ e)
  exact ⟨mA, ⟨ob, n, ne⟩, r, q, z, d⟩
end
structure Cls (K : PySem.W.Frag) (C : Addr) : Prop where
  pg : PySem.W.plainGet K C Str.empty = true
  hd : PySem.W.hasDictIn K C = true
  po : PySem.W.plainOver K C = true
  sa : PySem.W.findIn K (.ref C) "__setattr__" = some (some (.builtin "object.__setattr__"))
theorem Cls.get {K : PySem.W.Frag} {C : Addr} (c : Cls K C) (f : Str) : PySem.W.plainGet K C f = true := c.pg
section
variable {X : Cx} {pins : List (Addr × Obj)} {σ : St} {H : Hp} {s : Shared} {A : Around} {E : Value -> Shared -> Prop} {Q : Value -> Shared -> Prop} {c : Value} {b : Bool}
inductive TyOf (K : PySem.W.Frag) (H : Hp) : V -> Value -> Prop where
  | non : TyOf K H .non (.type "NoneType")
  | bl (x : Bool) : TyOf K H (.bl x) (.type "bool")
  | int (i : Int) : TyOf K H (.int i) (.type "int")
  | str (x : Str) : TyOf K H (.str x) (.type "str")
  | flt (x : UInt64) : TyOf K H (.flt x) (.type "float")
  | lst {a : Addr} {xs : List V} (e : H a = some (.lst xs)) : TyOf K H (.ref a) (.type "list")
  | frz {a : Addr} {o : Obj} {xs : List V} (e : H a = some (.frz o (.lst xs))) : TyOf K H (.ref a) (.type "list")
  | tup {a : Addr} {xs : List V} (e : H a = some (.tup xs)) : TyOf K H (.ref a) (.type "tuple")
  | dK {a : Addr} {kvs : List (Key × V)} (e : H a = some (.dK kvs)) : TyOf K H (.ref a) (.type "dict")
  | dT {a : Addr} {kvs : List (List Key × V)} (e : H a = some (.dT kvs)) : TyOf K H (.ref a) (.type "dict")
  | ins {a C dx : Addr} {fs : List (Str × V)} (e : H a = some (.ins C dx fs)) (cl : Cls K C) (ha : PySem.W.findIn K (.ref C) "__class__" = some (some (.builtin "object.__class__")))
      (hn : PySem.W.specialIn K (.builtin "object.__class__") "__get__" = some (some (.builtin "getset_descriptor.__get__"))) (htk : PySem.W.takesIn K (.builtin "object.__class__") = some true)
      (hm : PySem.W.mroIn K C (.type "object") = some true) : TyOf K H (.ref a) (.ref C)
theorem isinst_ok {x : V} {u t : Value} (I : Inv X pins σ H s) (rx : RelV x u) (ty : TyOf X.K H x t) (e : PySem.W.kitOne X.K t c = some b) (h : ∀ tk, Q (.bool b) { s with toks := tk }) :
    wpAny (model X.prog X.w) A (call (.builtin "isinstance") [u, c]) Q E s := by
  cases ty with
  | non => cases (show u = Value.none from rx); exact PySem.W.kia_one PySem.W.kitx_none I.kIn True.intro e (fun z => nomatch z) h
  | bl y => cases (show u = Value.bool y from rx); exact PySem.W.kia_one PySem.W.kitx_bool I.kIn True.intro e (fun z => nomatch z) h
  | int i => obtain ⟨t, q⟩ := (show ∃ t, u = Value.int i t from rx); cases q; exact PySem.W.kia_one PySem.W.kitx_int I.kIn True.intro e (fun z => nomatch z) h
  | str y => obtain ⟨t, q⟩ := (show ∃ t, u = Value.str y t from rx); cases q; exact PySem.W.kia_one PySem.W.kitx_str I.kIn True.intro e (fun z => nomatch z) h
  | flt y => obtain ⟨t, q⟩ := (show ∃ t, u = Value.float y t from rx); cases q; exact PySem.W.kia_one PySem.W.kitx_float I.kIn True.intro e (fun z => nomatch z) h
  | @lst a xs ea =>
    cases (show u = Value.ref a from rx)
    obtain ⟨_, _, n, _, h1⟩ := (show ObjOk X.prog X.w H s.heap a (.lst xs) from I.hok a _ ea)
    exact PySem.W.kia_one PySem.W.kitx_list I.kIn ⟨_, h1, rfl⟩ e (fun z => nomatch z) h
  | @frz a ob xs ea =>
    cases (show u = Value.ref a from rx)
    obtain ⟨_, _, _, n, _, h1⟩ := (show ObjOk X.prog X.w H s.heap a (.frz ob (.lst xs)) from I.hok a _ ea)
    exact PySem.W.kia_one PySem.W.kitx_list I.kIn ⟨_, h1, rfl⟩ e (fun z => nomatch z) h
  | @tup a xs ea =>
    cases (show u = Value.ref a from rx)
    obtain ⟨_, _, _, p⟩ := (show ObjOk X.prog X.w H s.heap a (.tup xs) from I.hok a _ ea)
    obtain ⟨o, h1, h2, _⟩ := p
    exact PySem.W.kia_one PySem.W.kitx_tuple I.kIn ⟨o, h1, h2⟩ e (fun z => nomatch z) h
  | @dK a kvs ea =>
    cases (show u = Value.ref a from rx)
    obtain ⟨_, _, vs, _, p⟩ := (show ObjOk X.prog X.w H s.heap a (.dK kvs) from I.hok a _ ea)
    obtain ⟨o, es, ep, h1, h2, _⟩ := p
    exact PySem.W.kia_one PySem.W.kitx_dict I.kIn ⟨o, h1, h2.1⟩ e (fun z => nomatch z) h
  | @dT a kvs ea =>
    cases (show u = Value.ref a from rx)
    obtain ⟨_, _, xs, _, o, es, ep, h1, h2, _⟩ := (show ObjOk X.prog X.w H s.heap a (.dT kvs) from I.hok a _ ea)
    exact PySem.W.kia_one PySem.W.kitx_dict I.kIn ⟨o, h1, h2.1⟩ e (fun z => nomatch z) h
  | @ins a C dx fs ea cl ha hn htk hm =>
    cases (show u = Value.ref a from rx)
    obtain ⟨mA, O, _⟩ := ins_get I.hok ea
    obtain ⟨od, J, _⟩ := O.look
    exact PySem.W.kia_one (PySem.W.kitx_own (cl.get _) cl.hd ha hn htk hm) I.kIn J e (fun z => nomatch z) h
end
end L2
namespace L2
open PySem PySem.Spec PyProof.Rows
structure Room (k : Nat) (A : Around) : Prop where
  hd : A.handled = none
  dp : A.depth + 3 * k + 5 < recursionLimit
  un : A.units + 16 * k + 200 < cLine
  gd : A.guards = some []
theorem Room.mono {j k : Nat} {A : Around} (r : Room k A) (h : j <= k) : Room j A := ⟨r.hd, by have := r.dp; omega, by have := r.un; omega, r.gd⟩
theorem Room.deeper {k : Nat} {A : Around} (r : Room (k + 1) A) (env : Env) : Room k (A.deeper env) :=
  ⟨r.hd, by have := r.dp; show A.depth + 1 + 3 * k + 5 < _; omega, by have := r.un; show A.units + 3 + 16 * k + 200 < _; omega, r.gd⟩
theorem Room.depth {k : Nat} {A : Around} (r : Room k A) : A.depth < recursionLimit := by have := r.dp; omega
theorem Room.units {k : Nat} {A : Around} (r : Room k A) : A.units + 64 < cLine := by have := r.un; omega
def tNil : TA := fun _ H Q => Q [] H
def tCons (ta : TE) (tr : TA) : TA := fun σ H Q => ta σ H fun x H1 => tr σ H1 fun xs H2 => Q (x :: xs) H2
section
variable {X : Cx} {e : Expr} {es : List Expr} {te : TE} {t : TA} {pos : Pos}
theorem pa_nil : PA X [] tNil := fun _ _ _ _ H Q I h => Calls.spliced_nil ⟨[], H, I, .nil, h⟩
theorem pa_cons (ha : PE X e te) (hr : PA X es t) (hs : autoParam (starEach (e :: es) X.env = (false, eval e X.env) :: starEach es X.env) L2.ax4._auto_1) : PA X (e :: es) (tCons te t) := by
  intro pos pins s σ H Q I h
  rw [hs]
  show wpAny _ _ (spliced ((false, eval e X.env) :: backTo pos (starEach es X.env))) _ _ s
  refine Calls.spliced_cons (thn (ha pins s σ H _ I h) fun u s1 hhh => ?_)
  obtain ⟨x, H1, I1, r1, q1⟩ := hhh
  exact thn (hr pos pins s1 σ H1 _ I1 q1) fun us s2 ⟨xs, H2, I2, r2, q2⟩ => ⟨x :: xs, H2, I2, .cons r1 r2, q2⟩
def tTup (t : TA) : TE := fun σ H Q => t σ H fun xs H1 => xs.length <= sizeLine /\ ∀ p, H1 p = none -> Q (.ref p) (upd H1 p (.tup xs))
def tLst (t : TA) : TE := fun σ H Q => t σ H fun xs H1 => xs.length <= sizeLine /\ ∀ p, H1 p = none -> Q (.ref p) (upd H1 p (.lst xs))
theorem pe_tup {x1} (h : PA X es t) : PE X (.Tuple es x1 pos) (tTup t) := by
  intro pins s σ H Q I hq
  refine wpAny_Tuple_spliced (thn (h pos pins s σ H _ I hq) fun us s1 ⟨xs, H1, I1, r, z, q⟩ => ⟨by rw [← r.length]; exact z, ?_⟩)
  have hf : H1 s1.heap.objs.size = none := I1.hok.fresh (Nat.le_refl _)
  refine ⟨.ref s1.heap.objs.size, upd H1 s1.heap.objs.size (.tup xs), I1.laid (t' := s1.toks) (fun b u e => Heap.get?_push_of_some _ e) (Nat.le_refl _) ?_, rfl, q _ hf⟩
  exact ⟨z, us, r, ⟨_, Heap.get?_push_size _ rfl, rfl, _, rfl⟩⟩
theorem pe_lst (h : PA X es t) : PE X (.List es pos) (tLst t) := by
  intro pins s σ H Q I hq
  refine wpAny_List_spliced (thn (h pos pins s σ H _ I hq) fun us s1 ⟨xs, H1, I1, r, z, q⟩ => ⟨by rw [← r.length]; exact z, ?_⟩)
  have hf : H1 s1.heap.objs.size = none := I1.hok.fresh (Nat.le_refl _)
  refine ⟨.ref s1.heap.objs.size, upd H1 s1.heap.objs.size (.lst xs), I1.laid (t' := s1.toks) (fun b u e => Heap.get?_push_of_some _ e) (Nat.le_refl _) ?_, rfl, q _ hf⟩
  exact ⟨z, us, 0, r, Heap.get?_push_size _ rfl⟩
end
abbrev Sp := List V -> Hp -> VK -> XK -> Prop
abbrev CXT := List Env -> Hp -> Shared -> XK -> Value -> Shared -> Prop
structure Env0 (P : Program) (w : World) (K : PySem.W.Frag) (mg : Str -> Option Value) (base : Heap) (A : Around) (outer : List Env) (s : Shared) (H : Hp) : Prop where
  frames : A.frames = some outer
  mod : Mod K mg base
  bs : ∀ b o, base.get? b = some o -> s.heap.get? b = some o /\ H b = none
  bsz : base.objs.size <= s.heap.objs.size
  funs : s.heap.FunFrames base outer
  frf : ∀ b ∈ frs outer, H b = none
  hok : HOk P w H s.heap
  bare : AllBare s.gens
def CE (outer : List Env) (P : Program) (w : World) (H : Hp) (s : Shared) (Q : VK) (u : Value) (s' : Shared) : Prop :=
  ∃ v H', s'.os = s.os /\ AllBare s'.gens /\ Un (frs outer) [] H H' s.heap s'.heap /\ HOk P w H' s'.heap /\ RelV v u /\ Q v H'
def CR (CX : CXT) (outer : List Env) (P : Program) (w : World) (H : Hp) (s : Shared) (Q : VK) (E : XK) (r : Result) (s' : Shared) : Prop :=
  match r with
  | .ok (.ret u) => CE outer P w H s Q u s'
  | .ok _ => False
  | .error e => CX outer H s E e s'
structure FnOk (P : Program) (w : World) (K : PySem.W.Frag) (mg : Str -> Option Value) (base : Heap) (CX : CXT) (k : Nat) (f : Addr) (fd : FuncData) (ps : List Str) (sp : Sp) : Prop where
  len : ∀ vs H Q E, sp vs H Q E -> vs.length = ps.length
  run : ∀ (A : Around) (outer : List Env) (s : Shared) (H : Hp) (args : Args) (us : List Value) (vs : List V) (Q : VK) (E : XK), Room k A -> Env0 P w K mg base A outer s H -> BindsTo s fd args (ps.zip us) -> Vals vs us -> sp vs H Q E ->
    codeAny (model P w) A (.call (.ref f) args) (CR CX outer P w H s Q E) s
section
variable {X : Cx} {pins : List (Addr × Obj)} {σ : St} {H : Hp} {s s' : Shared}
theorem Inv.env0 (I : Inv X pins σ H s) : Env0 X.prog X.w X.K X.mg X.base X.A X.stack s H :=
  ⟨I.ok.frames, I.ok.mod, I.bs, Nat.le_trans I.ok.bsz I.sz, I.stack, I.stkFree, I.hok, I.bare⟩
theorem Inv.after {Q : VK} {u : Value} (I : Inv X pins σ H s) (h : CE X.stack X.prog X.w H s Q u s') : EP X pins σ Q u s' := by
  obtain ⟨v, H', os, bare, un, hok, r, q⟩ := h
  obtain ⟨hh, g, d, t, os'⟩ := s'
  obtain rfl : os' = s.os := os
  exact ⟨v, H', I.call (h' := hh) (g' := g) (d' := d) (t' := t) (ch := []) un hok bare (fun b z => absurd z (by simp)), r, q⟩
end
def tCall (sp : Sp) (dvs : List V) (E : XK) (t : TA) : TE := fun σ H Q => t σ H fun vs H1 => sp (vs ++ dvs) H1 Q E
def Binds (K : PySem.W.Frag) (fd : FuncData) (ps : List Str) (ds : List Value) : Prop :=
  ∀ (s : Shared) (us : List Value), K.In s.heap -> (us ++ ds).length = ps.length -> BindsTo s fd ⟨us, []⟩ (ps.zip (us ++ ds))
theorem Binds.all {K : PySem.W.Frag} {fd : FuncData} {ps : List Str} (h : ∀ us : List Value, us.length = ps.length -> bindArgs fd ⟨us, []⟩ = pure (ps.zip us)) : Binds K fd ps [] := fun s us _ hl => by
  rw [List.append_nil] at hl ⊢
  exact .of_eq (h us hl)
def Passes (CX : CXT) (X : Cx) (E : XK) : Prop := ∀ (pins : List (Addr × Obj)) (σ : St) (H : Hp) (s : Shared) (e : Value) (s' : Shared), Inv X pins σ H s -> CX X.stack H s E e s' -> X.xe e s'
section
variable {X : Cx} {CX : CXT} {k : Nat} {f C : Addr} {fd : FuncData} {ps : List Str} {sp : Sp} {dvs : List V} {ds : List Value} {E : XK} {x m : Str} {p pos apos : Pos} {e o : Expr} {es : List Expr} {ta : TE} {t : TA}
theorem run_fn {pins : List (Addr × Obj)} {σ : St} {H : Hp} {s : Shared} {Q : VK} {us : List Value} {vs : List V} (F : FnOk X.prog X.w X.K X.mg X.base CX k f fd ps sp) (hr : Room k X.A) (hb : Binds X.K fd ps ds) (hd : Vals dvs ds) (hx : Passes CX X E)
    (I : Inv X pins σ H s) (r : Vals vs us) (h : sp (vs ++ dvs) H Q E) : wpAny (model X.prog X.w) X.A (call (.ref f) us) (EP X pins σ Q) X.xe s := by
  have r2 : Vals (vs ++ dvs) (us ++ ds) := r.append hd
  have hl : (us ++ ds).length = ps.length := by rw [← r2.length]; exact F.len _ _ _ _ h
  refine wpAny_call (codeAny_mono (F.run X.A X.stack s H ⟨us, []⟩ (us ++ ds) (vs ++ dvs) Q E hr I.env0 (hb s us I.kIn hl) r2 h) fun r s' hq => ?_)
  cases r with
  | error e => exact hx pins σ H s e s' I hq
  | ok fl =>
    cases fl with
    | ret u => exact I.after hq
    | next => exact False.elim hq
    | brk => exact False.elim hq
    | cont => exact False.elim hq
theorem pe_call (F : FnOk X.prog X.w X.K X.mg X.base CX k f fd ps sp) (hr : Room k X.A) (hg : Gl X x) (hm : X.mg x = some (.ref f)) (hk : PySem.W.keepIn X.K (.ref f) = true) (hb : Binds X.K fd ps ds) (hd : Vals dvs ds) (hx : Passes CX X E)
    (ha : PA X (e :: es) t) (hdb : autoParam ((x == ("__debug__" : Str)) = false) L2.ax2._auto_1) (he : autoParam (starEach (e :: es) X.env = (false, eval e X.env) :: starEach es X.env) L2.ax4._auto_1) (hpl : autoParam ((backTo pos (starEach es X.env)).any (·.1) = false) L2.ax4._auto_1) :
    PE X (.Call (.Name x p) (e :: es) [] pos) (tCall sp dvs E t) := by
  intro pins s σ H Q I h
  refine wpAny_Call_Name_kw (ld_glob I hg hm ?_ hdb)
  refine PySem.W.callWith_K (h₀ := X.base) I.ok.mod.kin hk (thn (ha pos pins s σ H _ I h) fun us s1 ⟨vs, H1, I1, r, q⟩ => ⟨I1.kIn, ?_⟩) he hpl
  exact run_fn F hr hb hd hx I1 r q
end
structure FnScope (N P : List Str) (sc : Scope) : Prop where
  kind : sc.kind = .function
  co : sc.isCoroutine = false
  gen : sc.isGenerator = false
  nd : N.Nodup
  pre : N.take P.length = P
  par : ∀ x ∈ P, sc.names.lookup x = some .local \/ sc.names.lookup x = some .cell
  nofree : ∀ y ∈ sc.names, y.2 ≠ .free
theorem bindL_out {kindOf : Str -> Option NameKind} {x : Str} : ∀ {binds : List (Str × Value)} {m : Str -> Option Value}, (∀ v, (x, v) ∉ binds) -> bindL kindOf binds m x = m x
  | [], _, _ => rfl
  | (n, v) :: r, m, h => by
    unfold bindL
    rw [bindL_out fun w hw => h w (List.mem_cons_of_mem _ hw)]
    split
    . have : x ≠ n := by rintro rfl; exact h v List.mem_cons_self
      simp [this]
    . rfl
theorem bindC_out {kindOf : Str -> Option NameKind} {x : Str} : ∀ {binds : List (Str × Value)} {m : Str -> Option Value}, (∀ v, (x, v) ∉ binds) -> bindC kindOf binds m x = m x
  | [], _, _ => rfl
  | (n, v) :: r, m, h => by
    unfold bindC
    rw [bindC_out fun w hw => h w (List.mem_cons_of_mem _ hw)]
    split
    . rfl
    . have : x ≠ n := by rintro rfl; exact h v List.mem_cons_self
      simp [this]
theorem bindL_get {kindOf : Str -> Option NameKind} {x : Str} {v : Value} : ∀ {P : List Str} {vs : List Value} {i : Nat} {m : Str -> Option Value}, P.Nodup -> P[i]? = some x -> vs[i]? = some v -> kindOf x = some .local ->
    bindL kindOf (P.zip vs) m x = some v
  | [], _, _, _, _, h, _, _ => by simp at h
  | _ :: _, [], _, _, _, _, h, _ => by simp at h
  | p :: P, w :: vs, 0, m, nd, h1, h2, hk => by
    simp at h1 h2; subst h1; subst h2
    show bindL kindOf ((p, w) :: P.zip vs) m p = _
    unfold bindL
    rw [bindL_out fun v hv => (List.nodup_cons.mp nd).1 (List.of_mem_zip hv).1, if_pos hk]
    simp
  | p :: P, w :: vs, i + 1, m, nd, h1, h2, hk => by
    show bindL kindOf ((p, w) :: P.zip vs) m x = _
    unfold bindL
    exact bindL_get (i := i) (List.nodup_cons.mp nd).2 (by simpa using h1) (by simpa using h2) hk
theorem bindC_get {kindOf : Str -> Option NameKind} {x : Str} {v : Value} : ∀ {P : List Str} {vs : List Value} {i : Nat} {m : Str -> Option Value}, P.Nodup -> P[i]? = some x -> vs[i]? = some v -> kindOf x ≠ some .local ->
    bindC kindOf (P.zip vs) m x = some v
  | [], _, _, _, _, h, _, _ => by simp at h
  | _ :: _, [], _, _, _, _, h, _ => by simp at h
  | p :: P, w :: vs, 0, m, nd, h1, h2, hk => by
    simp at h1 h2; subst h1; subst h2
    show bindC kindOf ((p, w) :: P.zip vs) m p = _
    unfold bindC
    rw [bindC_out fun v hv => (List.nodup_cons.mp nd).1 (List.of_mem_zip hv).1, if_neg hk]
    simp
  | p :: P, w :: vs, i + 1, m, nd, h1, h2, hk => by
    show bindC kindOf ((p, w) :: P.zip vs) m x = _
    unfold bindC
    exact bindC_get (i := i) (List.nodup_cons.mp nd).2 (by simpa using h1) (by simpa using h2) hk
noncomputable def start (N : List Str) (vs : List V) : St := vs.map some ++ List.replicate (N.length - vs.length) none
noncomputable def cxOf (CX : CXT) (P : Program) (w : World) (K : PySem.W.Frag) (mg : Str -> Option Value) (base : Heap) (N : List Str) (qual : Str) (scope : Scope) (f : Addr) (cd : Value) (A : Around) (outer : List Env) (s : Shared) (H : Hp) (E : XK) : Cx where
  prog := P
  w := w
  K := K
  mg := mg
  base := base
  A := A.deeper (envOfC qual scope s.heap.objs.size f cd)
  N := N
  s₀ := s
  H₀ := H
  env := envOfC qual scope s.heap.objs.size f cd
  outer := outer
  stack := envOfC qual scope s.heap.objs.size f cd :: outer
  ex := []
  calm := true
  fn := fun _ => true
  pn := []
  xe := fun e s' => wpAny (model P w) (A.deeper (envOfC qual scope s.heap.objs.size f cd)) (leaving (envOfC qual scope s.heap.objs.size f cd) e) (fun _ s'' => CX outer H s E e s'') (fun e' s'' => CX outer H s E e' s'') s'
theorem cell_has {sc : Scope} {n : Nat} {x : Str} (h : sc.names.lookup x = some .cell) : ∃ c, (cellsFrom n sc.names []).lookup x = some c := by
  have q := PySem.W.cellsFrom_some sc.names n [] (.inl h)
  exact Option.isSome_iff_exists.mp q
theorem inv_start {CX : CXT} {P : Program} {w : World} {K : PySem.W.Frag} {mg : Str -> Option Value} {base : Heap} {N ps : List Str} {qual : Str} {scope : Scope} {f : Addr} {cd : Value} {A : Around} {outer : List Env} {s s1 : Shared} {H : Hp} {E : XK} {us : List Value} {vs : List V}
    (S : FnScope N ps scope) (hd : A.handled = none) (e0 : Env0 P w K mg base A outer s H) (hl : vs.length = ps.length) (r : Vals vs us)
    (x : InCallC s s.heap.objs.size (bindL (envOfC qual scope s.heap.objs.size f cd).kindOf (ps.zip us) fun _ => none) (cellsFrom (s.heap.objs.size + 1) scope.names []) (bindC (envOfC qual scope s.heap.objs.size f cd).kindOf (ps.zip us) fun _ => none) s1) :
    Inv (cxOf CX P w K mg base N qual scope f cd A outer s H E) [] (start N vs) H s1 := by
  have hpl : ps.length <= N.length := by have := congrArg List.length S.pre; rw [List.length_take] at this; omega
  obtain ⟨h1, tk, rfl, hk⟩ := x.done
  have noA : ∀ b : Addr, b ∉ (cxOf CX P w K mg base N qual scope f cd A outer s H E).ex := fun b z => absurd (show b ∈ ([] : List Addr) from z) (by simp)
  refine ⟨⟨e0.mod, S.kind, rfl, rfl, Nat.le_refl _, fun y z c h1 h2 => ?_, fun y hy => ?_, fun y c _ h => ?_, fun _ => hd, Around.frames_deeper e0.frames, .inr ⟨rfl, rfl⟩, fun b z => absurd z (noA b), e0.bs, e0.bsz, fun b _ _ => noA b, fun b z => absurd z (noA b), e0.funs, e0.frf⟩,
    rfl, e0.bare, Un.kept hk, ⟨_, x.toInCall.ns, fun i y v h1 h2 h3 => ?_⟩, fun y c h => ⟨_, x.cell y c h⟩, e0.hok.fresh (Nat.le_refl _), fun y c h => ?_, fun p hp => absurd (show p ∈ ([] : List (Addr × Obj)) from hp) (by simp), e0.hok.kept hk, ?_⟩
  . exact name_of_addr x.apart (PySem.mem_of_lookup h1) (PySem.mem_of_lookup h2)
  . have hy : scope.names.lookup y = some .cell \/ scope.names.lookup y = some .free := hy
    rcases hy with hy | hy
    . exact cell_has hy
    . exact absurd rfl (S.nofree _ (PySem.mem_of_lookup hy))
  . exact Nat.le_of_lt (x.above y c (PySem.mem_of_lookup h))
  . have hi : i < vs.length := by
      unfold start at h2
      by_cases hi : i < vs.length
      . exact hi
      . rw [List.getElem?_append_right (by simpa using hi)] at h2
        rw [List.getElem?_replicate] at h2
        split at h2 <;> cases h2
    have ha : vs[i]? = some v := by
      unfold start at h2
      rw [List.getElem?_append_left (by simpa using hi), List.getElem?_map] at h2
      cases e : vs[i]? with
      | none => rw [e] at h2; cases h2
      | some a => rw [e] at h2; cases h2; rfl
    obtain ⟨u, hu, rv⟩ := r.get ha
    have hp : ps[i]? = some y := by
      rw [← S.pre, List.getElem?_take_of_lt (by omega)]; exact h1
    have ndP : ps.Nodup := by rw [← S.pre]; exact S.nd.sublist (List.take_sublist _ _)
    refine ⟨u, rv, ?_⟩
    rcases S.par y (List.mem_of_getElem? hp) with k | k
    . exact .inl ⟨k, bindL_get ndP hp hu k⟩
    . obtain ⟨c, e⟩ := cell_has (n := s.heap.objs.size + 1) k
      refine .inr ⟨.inl k, c, e, ?_⟩
      have q := x.cell y c e
      rw [bindC_get ndP hp hu (by show scope.names.lookup y ≠ _; rw [k]; decide)] at q
      exact q
  . exact e0.hok.fresh (Nat.le_of_lt (x.above y c (PySem.mem_of_lookup h)))
  . unfold start
    show _ = N.length
    rw [List.length_append, List.length_map, List.length_replicate]
    omega
theorem fn_of {CX : CXT} {P : Program} {w : World} {K : PySem.W.Frag} {mg : Str -> Option Value} {base : Heap} {k : Nat} {f : Addr} {name qual : Str} {params : Arguments} {body : List Stmt} {scope : Scope} {dV kV doc pm cdv ct oc : Value} {an od : Option Addr}
    {osl : Array (Option Value)} {N ps : List Str} {sp : Sp} (lk : K.lookup f = some ⟨oc, od, .func (PySem.W.fnOf name qual params body scope dV kV doc pm an cdv ct), osl⟩) (hcd : PySem.W.codeIn K cdv qual = true) (S : FnScope N ps scope)
    (len : ∀ vs H Q E, sp vs H Q E -> vs.length = ps.length)
    (hbody : ∀ (A : Around) (outer : List Env) (s : Shared) (H : Hp) (vs : List V) (Q : VK) (E : XK), Room k (A.deeper (envOfC qual scope s.heap.objs.size f cdv)) -> sp vs H Q E ->
      ∃ t, PSs (cxOf CX P w K mg base N qual scope f cdv A outer s H E) body t /\ t { nx := fun _ H' => Q .non H', rt := Q } (start N vs) H) :
    FnOk P w K mg base CX (k + 1) f (PySem.W.fnOf name qual params body scope dV kV doc pm an cdv ct) ps sp := by
  refine ⟨len, fun A outer s H args us vs Q E hr e0 hb r hsp => ?_⟩
  have hl := len _ _ _ _ hsp
  have KX : K.In s.heap := e0.mod.kin.keeps fun b o e => (e0.bs b o e).1
  have lim : s.heap.NoLimit := e0.mod.nolimit.keeps fun b o e => (e0.bs b o e).1
  have hkind : ∀ y ∈ ps.zip us, scope.names.lookup y.1 = some .local \/ (scope.names.lookup y.1 = some .cell /\ ((cellsFrom (s.heap.objs.size + 1) scope.names []).lookup y.1).isSome = true) := fun ⟨n, v⟩ hy => by
    rcases S.par n (List.of_mem_zip hy).1 with q | q
    . exact .inl q
    . exact .inr ⟨q, PySem.W.cellsFrom_some _ _ _ (.inl q)⟩
  refine codeAny_call_function hr.depth (KX _ _ lk) rfl S.co S.gen rfl (PySem.W.codeRec_of KX hcd) (hb _ _ _ _ ?_)
  refine wpAny_newFunctionEnv_cells S.kind hkind fun env he s1 x => ?_
  subst he
  refine ⟨lim.keeps x.toInCall.keep, codeAny_func ?_⟩
  obtain ⟨t, ht, hq⟩ := hbody A outer s H vs Q E (hr.deeper _) hsp
  have I : Inv (cxOf CX P w K mg base N qual scope f cdv A outer s H E) [] (start N vs) H s1 := inv_start S hr.hd e0 hl r x
  refine wpAny_mono (ht [] s1 (start N vs) H _ I hq) (fun fl s' hs => ?_) fun e s' hs => hs
  have fin : ∀ {σ' : St} {H' : Hp} {v : V} {u : Value}, Inv (cxOf CX P w K mg base N qual scope f cdv A outer s H E) [] σ' H' s' -> RelV v u -> Q v H' -> CE outer P w H s Q u s' :=
    fun {σ' H' v u} J rv q => ⟨v, H', J.os, J.bare, J.base, J.hok, rv, q⟩
  cases fl with
  | ret u =>
    obtain ⟨v, σ', H', J, rv, q⟩ := hs
    exact fin J rv q
  | next =>
    obtain ⟨σ', H', J, q⟩ := hs
    exact fin (v := V.non) (u := Value.none) J rfl q
  | brk =>
    obtain ⟨_, _, _, q⟩ := hs
    exact False.elim q
  | cont =>
    obtain ⟨_, _, _, q⟩ := hs
    exact False.elim q
end L2
namespace L2
open PySem PySem.Spec PyProof.Rows
section
variable {X : Cx} {x : Str} {p pos : Pos} {e : Expr} {es : List Expr} {t : TA} {id T : String} {r : List V -> Hp -> VK -> Prop}
def tCB (r : List V -> Hp -> VK -> Prop) (t : TA) : TE := fun σ H Q => t σ H fun vs H1 => r vs H1 Q
theorem pe_callB (hc : CallR X (.builtin id) r) (hg : Gl X x) (hm : X.mg x = none) (hv : bootBuiltins x = some (.builtin id)) (ha : PA X (e :: es) t) (hn : autoParam (x ≠ "__name__") L2.ax2._auto_1) (hdb : autoParam ((x == ("__debug__" : Str)) = false) L2.ax2._auto_1)
    (he : autoParam (starEach (e :: es) X.env = (false, eval e X.env) :: starEach es X.env) L2.ax4._auto_1) (hpl : autoParam ((backTo pos (starEach es X.env)).any (·.1) = false) L2.ax4._auto_1) : PE X (.Call (.Name x p) (e :: es) [] pos) (tCB r t) := by
  intro pins s σ H Q I h
  refine wpAny_Call_Name_kw (ld_blt I hg hm hv ?_ hn hdb)
  exact PyProof.Rows.callWith_builtin1 (thn (ha pos pins s σ H _ I h) fun us s1 ⟨vs, H1, I1, r1, q1⟩ => hc pins s1 σ H1 vs us Q I1 r1 q1) he hpl
theorem pe_callTy (hc : CallR X (.type T) r) (hg : Gl X x) (hm : X.mg x = none) (hv : bootBuiltins x = some (.type T)) (ha : PA X (e :: es) t) (hn : autoParam (x ≠ "__name__") L2.ax2._auto_1) (hdb : autoParam ((x == ("__debug__" : Str)) = false) L2.ax2._auto_1)
    (he : autoParam (starEach (e :: es) X.env = (false, eval e X.env) :: starEach es X.env) L2.ax4._auto_1) (hpl : autoParam ((backTo pos (starEach es X.env)).any (·.1) = false) L2.ax4._auto_1) : PE X (.Call (.Name x p) (e :: es) [] pos) (tCB r t) := by
  intro pins s σ H Q I h
  refine wpAny_Call_Name_kw (ld_blt I hg hm hv ?_ hn hdb)
  exact PyProof.Rows.callWith_type1 (thn (ha pos pins s σ H _ I h) fun us s1 ⟨vs, H1, I1, r1, q1⟩ => hc pins s1 σ H1 vs us Q I1 r1 q1) he hpl
end
end L2
namespace HT
open PySem PyProof.Rows
section
variable {prog : Program} {w : World} {A : Around} {E : Value -> Shared -> Prop} {s : Shared}
theorem cat_tup {t b : Addr} {vs ws : List Value} {Q : Value -> Shared -> Prop} (ht : IsTup s.heap t vs.toArray) (hb : IsTup s.heap b ws.toArray) (hv : vs ≠ [])
    (h1 : ws = [] -> Q (.ref t) s) (h2 : ws ≠ [] -> Q (.ref s.heap.objs.size) { s with heap := s.heap.push { cls := .type "tuple", data := .seq (vs ++ ws).toArray } })
    (hsz : vs.length + ws.length <= sizeLine) : wpAny (model prog w) A (binaryOp .Add (.ref t) (.ref b)) Q E s := by
  obtain ⟨⟨cls, dd, data, sl⟩, ho, hc, n, hd⟩ := id ht
  obtain ⟨⟨cls2, dd2, data2, sl2⟩, ho2, hc2, n2, hd2⟩ := id hb
  simp only at hc hd hc2 hd2
  subst hc hd hc2 hd2
  have e : vs.toArray ++ ws.toArray = (vs ++ ws).toArray := by simp
  by_cases hw : ws = []
  . exact concat_meets ⟨_, ho, rfl⟩ ⟨_, ho2, rfl⟩ noFill_tuple_add seq_tuple_add PySem.F.slot_tuple_add PySem.F.entry_tuple_add (PySem.F.args_tuple_add_2 _ _)
      (tuple_addW1 t b vs.toArray ws.toArray n n2 dd dd2 sl sl2 (by simpa using hv) (by simp [hw])) ⟨ho, ho2, h1 hw⟩
  . refine concat_meets ⟨_, ho, rfl⟩ ⟨_, ho2, rfl⟩ noFill_tuple_add seq_tuple_add PySem.F.slot_tuple_add PySem.F.entry_tuple_add (PySem.F.args_tuple_add_2 _ _)
      (tuple_addW2 t b vs.toArray ws.toArray n n2 dd dd2 sl sl2 (by simpa using hv) (by simpa using hw) (by rw [List.size_toArray, List.size_toArray]; exact hsz)) ⟨ho, ho2, ?_⟩
    rw [e]
    exact h2 hw
noncomputable def sIx (n d : Nat) : Option Int -> Nat
  | none => d
  | some v => if v < 0 then (v + (n : Int)).toNat else min v.toNat n
theorem sIx_le (n d : Nat) (hd : d <= n) (o : Option Int) : sIx n d o <= n := by
  cases o with
  | none => exact hd
  | some v =>
    show (if v < 0 then (v + (n : Int)).toNat else min v.toNat n) <= n
    by_cases hv : v < 0
    . rw [if_pos hv]; omega
    . rw [if_neg hv]; exact Nat.min_le_right _ _
theorem clip_eq (v : Int) (n d : Nat) : (if v < 0 then max (v + (n : Int)) 0 else min v (n : Int)) = ((sIx n d (some v) : Nat) : Int) := by
  show (if v < 0 then max (v + (n : Int)) 0 else min v (n : Int)) = (((if v < 0 then (v + (n : Int)).toNat else min v.toNat n) : Nat) : Int)
  by_cases hv : v < 0
  . simp only [if_pos hv]; omega
  . simp only [if_neg hv]; omega
theorem adjust_gen (lo hi : Option Int) (n : Nat) : Builtin.Slice.sliceAdjust lo hi 1 (n : Int) = (((sIx n 0 lo : Nat) : Int), ((sIx n n hi : Nat) : Int)) := by
  have h1 : ¬ ((1 : Int) < 0) := by omega
  unfold Builtin.Slice.sliceAdjust
  simp only [h1, if_false]
  refine Prod.ext ?_ ?_
  . cases lo with
    | none => rfl
    | some v => exact clip_eq v n 0
  . cases hi with
    | none => rfl
    | some v => exact clip_eq v n n
theorem places_gen (i j : Nat) : Builtin.Slice.slicePlaces (i : Int) (j : Int) 1 = j - i := by
  unfold Builtin.Slice.slicePlaces
  have h1 : (1 : Int) > 0 := by omega
  simp only [h1, if_true, Int.ediv_one]
  split <;> omega
theorem slicePart_ {v : Value} {o : Option Int} {Q : Option Int -> Shared -> Prop} (p : IsPart v o) (h : Q o s) : wpAny (model prog w) A (Builtin.Slice.slicePartIndex v) Q E s := by
  cases p with
  | none => exact slicePart_none h
  | int i t => exact slicePart_int h
theorem sliceApplied_gen {sl : Addr} {vl vu : Value} {lo hi : Option Int} {n : Nat} {Q : Int × Int × Nat -> Shared -> Prop} (hs : s.heap.IsSliceOf sl vl vu .none) (pl : IsPart vl lo) (pu : IsPart vu hi)
    (h : Q (((sIx n 0 lo : Nat) : Int), 1, sIx n n hi - sIx n 0 lo) s) : wpAny (model prog w) A (Builtin.Slice.sliceApplied (.ref sl) (pure (n : Int))) Q E s := by
  obtain ⟨os, hos, hcs, hds⟩ := id hs
  unfold Builtin.Slice.sliceApplied Builtin.Slice.sliceFields
  refine wpAny_bind (wpAny_bind (wpAny_field hos hds (x := vl) rfl (wpAny_bind (wpAny_field hos hds (x := vu) rfl (wpAny_bind (wpAny_field hos hds (x := .none) rfl (wpAny_pure ?_)))))))
  refine wpAny_bind (slicePart_none ?_)
  show wpAny _ _ (if ((1 : Int) == 0) = true then _ else _) _ _ s
  rw [if_neg (by decide)]
  refine wpAny_bind (slicePart_ pl (wpAny_bind (slicePart_ pu (wpAny_bind (wpAny_pure ?_)))))
  show wpAny _ _ (match Builtin.Slice.sliceAdjust lo hi 1 (n : Int) with | (lo, hi) => pure (lo, (1 : Int), Builtin.Slice.slicePlaces lo hi 1)) _ _ s
  rw [adjust_gen lo hi n]
  show wpAny _ _ (pure (((sIx n 0 lo : Nat) : Int), (1 : Int), Builtin.Slice.slicePlaces ((sIx n 0 lo : Nat) : Int) ((sIx n n hi : Nat) : Int) 1)) _ _ s
  rw [places_gen]
  exact wpAny_pure h
theorem pick_gen (xs : Array Value) (i k : Nat) : ((List.range k).filterMap fun (m : Nat) => xs[((i : Int) + (m : Int) * 1).toNat]?).toArray = ((xs.toList.drop i).take k).toArray := by
  have e : (fun (m : Nat) => xs[((i : Int) + (m : Int) * 1).toNat]?) = fun m => xs[i + m]? := by
    funext m
    have : ((i : Int) + (m : Int) * 1).toNat = i + m := by omega
    rw [this]
  rw [e]
  have := pick_run xs i k
  rw [List.filterMap_map] at this
  have e2 : ((fun x => xs[x]?) ∘ fun x => i + x) = fun m => xs[i + m]? := rfl
  rw [e2] at this
  rw [this]
theorem getItem_tuple_cut {t sl : Addr} {items : Array Value} {vl vu : Value} {lo hi : Option Int} {Q : Value -> Shared -> Prop} (ht : IsTup s.heap t items) (hs : s.heap.IsSliceOf sl vl vu .none) (pl : IsPart vl lo) (pu : IsPart vu hi)
    (hw : ¬ (sIx items.size 0 lo = 0 /\ sIx items.size items.size hi = items.size))
    (h : Q (.ref s.heap.objs.size) { s with heap := s.heap.push { cls := .type "tuple", data := .seq ((items.toList.drop (sIx items.size 0 lo)).take (sIx items.size items.size hi - sIx items.size 0 lo)).toArray } })
    (hsz : items.size <= sizeLine) : wpAny (model prog w) A (getItem (.ref t) (.ref sl)) Q E s := by
  have htake : sizeOk (.seq ((items.toList.drop (sIx items.size 0 lo)).take (sIx items.size items.size hi - sIx items.size 0 lo)).toArray) := by
    show ((items.toList.drop (sIx items.size 0 lo)).take (sIx items.size items.size hi - sIx items.size 0 lo)).toArray.size <= sizeLine
    rw [List.size_toArray, List.length_take, List.length_drop, Array.length_toList]
    omega
  have hj : sIx items.size items.size hi <= items.size := sIx_le _ _ (Nat.le_refl _) hi
  obtain ⟨os, hos, hcs, hds⟩ := id hs
  have hTs : s.TypeIs (.ref sl) "slice" := ⟨os, hos, hcs⟩
  unfold getItem
  try with_reducible refine wpAny_holding ?_
  first | refine wpAny_bind (wpAny_pure ?_) | skip
  refine wpAny_bind (wpAny_sequenceKey ht.typeIs (by decide) ?_)
  refine wpAny_bind (wpAny_callSpecial?_slot (name := Str.ofString "__getitem__") ht.typeIs PyProof.Rows.slot_tuple_getitem
    (wpAny_call_entry PyProof.Rows.slot_tuple_getitem ht.typeIs entry_tuple_getitem ?_ (args_tuple_getitem _ _)))
  show wpAny _ _ (Builtin.Tuple.tupleItemsOf (.ref t) >>= _) _ _ s
  refine wpAny_bind (tupleItemsOf_ ht ?_)
  refine wpAny_bind (wpAny_typeOf hTs ?_)
  rw [if_pos (by decide)]
  refine wpAny_bind (sliceApplied_gen hs pl pu ?_)
  have hno : ¬ ((((sIx items.size 0 lo : Nat) : Int) == 0 && (1 : Int) == 1 && (sIx items.size items.size hi - sIx items.size 0 lo) == items.size) = true) := by
    intro q
    rw [Bool.and_eq_true, Bool.and_eq_true] at q
    have q1 : ((sIx items.size 0 lo : Nat) : Int) = 0 := eq_of_beq q.1.1
    have q2 : sIx items.size items.size hi - sIx items.size 0 lo = items.size := eq_of_beq q.2
    exact hw ⟨by omega, by omega⟩
  show wpAny _ _ (if (((sIx items.size 0 lo : Nat) : Int) == 0 && (1 : Int) == 1 && (sIx items.size items.size hi - sIx items.size 0 lo) == items.size) = true then _ else _) _ _ s
  rw [if_neg hno, pick_gen]
  first
    | exact wpAny_bind (m := Builtin.Tuple.tupleExact _) (wpAny_newObj_type (wpAny_pure ⟨_, rfl, wpAny_pure h⟩) htake)
    | exact wpAny_bind (m := Builtin.Tuple.tupleExact _) (wpAny_newObj_type (wpAny_bind (wpAny_pure (wpAny_pure ⟨_, rfl, wpAny_pure h⟩))) htake)
    | exact wpAny_bind (wpAny_bind (m := Builtin.Tuple.tupleExact _) (wpAny_newObj_type (wpAny_pure (wpAny_pure ⟨_, rfl, wpAny_pure h⟩)) htake))
    | exact wpAny_bind (wpAny_bind (m := Builtin.Tuple.tupleExact _) (wpAny_newObj_type (wpAny_pure ⟨_, rfl, wpAny_pure h⟩) htake))
end
end HT
namespace L2
open PySem PySem.Spec PyProof.Rows
abbrev TO := St -> Hp -> (Option Int -> Hp -> Prop) -> Prop
def PO (X : Cx) (e : Option Expr) (t : TO) : Prop :=
  ∀ (pins : List (Addr × Obj)) (s : Shared) (σ : St) (H : Hp) (Q : Option Int -> Hp -> Prop), Inv X pins σ H s -> t σ H Q ->
    wpAny (model X.prog X.w) X.A (evalPart e X.env) (fun u s' => ∃ o H', Inv X pins σ H' s' /\ IsPart u o /\ Q o H') X.xe s
def tNoPart : TO := fun _ H Q => Q none H
def tPart (t : TE) : TO := fun σ H Q => t σ H fun x H1 => ∃ i, x = .int i /\ Q (some i) H1
section
variable {X : Cx} {e : Expr} {te : TE} {lo hi : Option Expr} {tl th : TO} {pos p2 : Pos}
theorem po_none : PO X none tNoPart := by
  intro pins s σ H Q I h
  rw [evalPart_none]
  exact wpAny_pure ⟨none, H, I, .none, h⟩
theorem po_some (h : PE X e te) : PO X (some e) (tPart te) := by
  intro pins s σ H Q I hw
  rw [evalPart_some]
  refine thn (h pins s σ H _ I hw) fun u s1 hhh => ?_
  obtain ⟨x, H1, I1, r1, q1⟩ := hhh
  obtain ⟨i, rfl, q⟩ := q1
  obtain ⟨t, rfl⟩ := r1
  exact ⟨some i, H1, I1, .int i t, q⟩
def SlR (X : Cx) (r : V -> Option Int -> Option Int -> Hp -> VK -> Prop) : Prop :=
  ∀ (pins : List (Addr × Obj)) (s : Shared) (σ : St) (H : Hp) (x : V) (v vl vu : Value) (lo hi : Option Int) (sl : Addr) (Q : VK), Inv X pins σ H s -> RelV x v -> s.heap.IsSliceOf sl vl vu .none -> IsPart vl lo -> IsPart vu hi -> r x lo hi H Q ->
    ∃ T id, typeLookup (.type T) "__getitem__" = pure (some (.builtin id)) /\ s.TypeIs v T /\ wpAny (model X.prog X.w) X.A (getItem v (.ref sl)) (EP X pins σ Q) X.xe s
def tSl (r : V -> Option Int -> Option Int -> Hp -> VK -> Prop) (te : TE) (tl th : TO) : TE := fun σ H Q => te σ H fun x H1 => tl σ H1 fun l H2 => th σ H2 fun u H3 => r x l u H3 Q
theorem pe_slice {r : V -> Option Int -> Option Int -> Hp -> VK -> Prop} (hr : SlR X r) (he : PE X e te) (hl : PO X lo tl) (hu : PO X hi th) : PE X (.Subscript e (.Slice lo hi none p2) pos) (tSl r te tl th) := by
  intro pins s σ H Q I h
  refine Subscript_ (thn (he pins s σ H _ I h) fun v s1 hhh => ?_)
  obtain ⟨x, H1, I1, r1, q1⟩ := hhh
  refine wpAny_Slice (thn (hl pins s1 σ H1 _ I1 q1) fun vl s2 ⟨l, H2, I2, pl, q2⟩ => thn (hu pins s2 σ H2 _ I2 q2) fun vu s3 hhh => ?_)
  obtain ⟨u, H3, I3, pu, q3⟩ := hhh
  rw [evalPart_none]
  refine wpAny_pure ?_
  have I4 : Inv X pins σ H3 { s3 with heap := s3.heap.push { cls := .type "slice", data := .fields #[vl, vu, .none] } } := I3.kept (t' := s3.toks) fun b ob q => Heap.get?_push_of_some _ q
  obtain ⟨T, id, hT, ht, hg⟩ := hr pins { s3 with heap := s3.heap.push { cls := .type "slice", data := .fields #[vl, vu, .none] } } σ H3 x v vl vu l u s3.heap.objs.size Q I4 r1 (Heap.IsSliceOf.new ..) pl pu q3
  show wpAny (model X.prog X.w) X.A (subscriptTail e (.Slice lo hi none p2) v (.ref s3.heap.objs.size)) (EP X pins σ Q) X.xe { s3 with heap := s3.heap.push { cls := .type "slice", data := .fields #[vl, vu, .none] } }
  exact tail_any (ops := [.ref s3.heap.objs.size, v]) ht hT hg (by with_unfolding_all rfl)
noncomputable def cutV (xs : List V) (lo hi : Option Int) : List V := (xs.drop (HT.sIx xs.length 0 lo)).take (HT.sIx xs.length xs.length hi - HT.sIx xs.length 0 lo)
theorem cutV_length (xs : List V) (lo hi : Option Int) : (cutV xs lo hi).length <= xs.length := by
  unfold cutV
  rw [List.length_take, List.length_drop]
  omega
end
end L2
namespace L2
open PySem PySem.Spec PyProof.Rows
noncomputable def ixN (n : Nat) (i : Int) : Option Nat := if 0 <= i then (if i < n then some i.toNat else none) else if -(n : Int) <= i then some (i + n).toNat else none
noncomputable def atI {α : Type} (xs : List α) (i : Int) : Option α := (ixN xs.length i).bind fun j => xs[j]?
theorem ixN_seq {n : Nat} {i : Int} {j : Nat} (h : ixN n i = some j) : seqIndex? i n = some j /\ j < n /\ -(n : Int) <= i /\ i < n := by
  unfold ixN at h
  by_cases h0 : 0 <= i
  . rw [if_pos h0] at h
    by_cases h1 : i < n
    . rw [if_pos h1] at h
      have e : i.toNat = j := Option.some.inj h
      exact ⟨by rw [seqIndex_of h0 h1, e], by omega, by omega, h1⟩
    . rw [if_neg h1] at h; cases h
  . rw [if_neg h0] at h
    by_cases h1 : -(n : Int) <= i
    . rw [if_pos h1] at h
      have e : (i + n).toNat = j := Option.some.inj h
      exact ⟨by rw [seqIndex_neg (by omega) h1, e], by omega, h1, by omega⟩
    . rw [if_neg h1] at h; cases h
theorem atI_get {α : Type} {xs : List α} {i : Int} {v : α} (h : atI xs i = some v) : ∃ j, seqIndex? i xs.length = some j /\ xs[j]? = some v /\ j < xs.length /\ -(xs.length : Int) <= i /\ i < xs.length := by
  unfold atI at h
  cases e : ixN xs.length i with
  | none => rw [e] at h; cases h
  | some j =>
    rw [e] at h
    obtain ⟨h1, h2, h3, h4⟩ := ixN_seq e
    exact ⟨j, h1, h, h2, h3, h4⟩
theorem atI_nat {α : Type} {xs : List α} {j : Nat} {v : α} (h : xs[j]? = some v) : atI xs (j : Int) = some v := by
  have hj : j < xs.length := (List.getElem?_eq_some_iff.mp h).1
  have e : ixN xs.length (j : Int) = some j := by
    unfold ixN
    rw [if_pos (by omega), if_pos (by omega)]; simp
  unfold atI; rw [e]; exact h
def PlainIx (b : Expr) : Prop := ∀ o i, subscripted b false o i = operate [o, i] (getItem o i)
def IxR (X : Cx) (r : R2) : Prop :=
  ∀ (value slice : Expr) (pins : List (Addr × Obj)) (s : Shared) (σ : St) (H : Hp) (x y : V) (v u : Value) (Q : VK), Inv X pins σ H s -> RelV x v -> RelV y u -> r x y H Q ->
    subscripted slice false v u = operate [v, u] (getItem v u) -> wpAny (model X.prog X.w) X.A (subscriptTail value slice v u) (EP X pins σ Q) X.xe s
def MtR (X : Cx) (id : String) (r : V -> List V -> Hp -> VK -> Prop) : Prop :=
  ∀ (pins : List (Addr × Obj)) (s : Shared) (σ : St) (H : Hp) (x : V) (xs : List V) (v : Value) (us : List Value) (Q : VK), Inv X pins σ H s -> RelV x v -> Vals xs us -> r x xs H Q ->
    wpAny (model X.prog X.w) X.A (call (.builtin id) (v :: us)) (EP X pins σ Q) X.xe s
section
variable {X : Cx} {a b : Expr} {ta tb : TE} {pos : Pos}
theorem IxR.or {r r' : R2} (h : IxR X r) (h' : IxR X r') : IxR X (fun x y H Q => r x y H Q \/ r' x y H Q) := by
  intro value slice pins s σ H x y v u Q I rx ry q hs
  rcases q with q | q
  . exact h value slice pins s σ H x y v u Q I rx ry q hs
  . exact h' value slice pins s σ H x y v u Q I rx ry q hs
theorem pe_ix {r : R2} (hr : IxR X r) (ha : PE X a ta) (hb : PE X b tb) (hs : PlainIx b) : PE X (.Subscript a b pos) (tOp r ta tb) := by
  intro pins s σ H Q I h
  exact Subscript_ (binT ha hb I h fun v u s2 x y H2 I2 rx ry q => hr a b pins s2 σ H2 x y v u Q I2 rx ry q (hs _ _))
def rIxL (K : PySem.W.Frag) : R2 := fun x y H Q => ∃ p xs i v, x = .ref p /\ y = .int i /\ SqL K H p xs /\ atI xs i = some v /\ Q v H
def rIxT (K : PySem.W.Frag) : R2 := fun x y H Q => ∃ p xs i v, x = .ref p /\ y = .int i /\ SqT K H p xs /\ atI xs i = some v /\ Q v H
def rIxS : R2 := fun x y H Q => ∃ z i c, x = .str z /\ y = .int i /\ z.length <= sizeLine /\ atI z.cps.toList i = some c /\ Q (.str ⟨#[c]⟩) H
theorem ix_list : IxR X (rIxL X.K) := by
  intro value slice pins s σ H x y v u Q I rx ry h hs
  obtain ⟨p, xs, i, z, rfl, rfl, hq, he, q⟩ := h
  cases rx
  obtain ⟨t, rfl⟩ := ry
  obtain ⟨its, r, pl, hz⟩ := I.list hq
  obtain ⟨j, h1, h2, h3, h4, h5⟩ := atI_get he
  obtain ⟨w, ew, rw'⟩ := r.get h2
  have hl := r.length
  have hn := line63
  have fin : EP X pins σ Q w s := ⟨z, H, I, rw', q⟩
  by_cases h0 : 0 <= i
  . have hj : i.toNat = j := by
      rw [seqIndex_of h0 h5] at h1
      exact Option.some.inj h1
    exact item_listR pl.isList h0 (by omega) (by rw [hj]; simpa using ew) fin hs
  . have hj : (i + (its.toArray.size : Int)).toNat = j := by
      rw [seqIndex_neg (by omega) h4] at h1
      rw [List.size_toArray, ← hl]
      exact Option.some.inj h1
    exact subscriptTail_builtinR (x := w) pl.isList.typeIs slot_list_getitem.lookup
      (wpAny_getItem_list_neg (Q := fun r s' => r = w /\ EP X pins σ Q r s') pl.isList (by omega) (by rw [List.size_toArray] <;> omega) (by omega) (by rw [hj]; simpa using ew) ⟨rfl, fin⟩) hs
theorem ix_tup : IxR X (rIxT X.K) := by
  intro value slice pins s σ H x y v u Q I rx ry h hs
  obtain ⟨p, xs, i, z, rfl, rfl, hq, he, q⟩ := h
  cases rx
  obtain ⟨t, rfl⟩ := ry
  obtain ⟨its, r, pl, hz⟩ := I.tuple hq
  obtain ⟨j, h1, h2, h3, h4, h5⟩ := atI_get he
  obtain ⟨w, ew, rw'⟩ := r.get h2
  have hl := r.length
  have hn := line63
  have fin : EP X pins σ Q w s := ⟨z, H, I, rw', q⟩
  exact subscriptTail_builtinR (x := w) pl.typeIs slot_tuple_getitem.lookup
    (getItem_tuple (j := j) (Q := fun r s' => r = w /\ EP X pins σ Q r s') pl (by omega) (by omega) (by rw [List.size_toArray, ← hl]; exact h1) (by simpa using ew) ⟨rfl, fin⟩) hs
theorem ix_str : IxR X rIxS := by
  intro value slice pins s σ H x y v u Q I rx ry h hs
  obtain ⟨z, i, c, rfl, rfl, hz, he, q⟩ := h
  obtain ⟨t, rfl⟩ := rx
  obtain ⟨t', rfl⟩ := ry
  obtain ⟨j, h1, h2, h3, h4, h5⟩ := atI_get he
  have hl : z.cps.toList.length = z.length := by simp [Str.length]
  rw [hl] at h1 h4 h5
  have hn := line63
  exact tail_any (typeIs_str s z t) slot_str_getitem.lookup (getItem_str (c := c) (by
    have e1 : decide (i < -(2 ^ 63 : Int)) = false := decide_eq_false (by omega)
    have e2 : decide (i ≥ 2 ^ 63) = false := decide_eq_false (by omega)
    rw [e1, e2, Bool.or_false]) (by rw [h1]; simpa using h2) ⟨.str ⟨#[c]⟩, H, I.tok _, ⟨_, rfl⟩, q⟩) hs
def rIx (K : PySem.W.Frag) : R2 := fun x y H Q => rIxL K x y H Q \/ rIxT K x y H Q \/ rIxS x y H Q
theorem ix_seq : IxR X (rIx X.K) := ix_list.or (ix_tup.or ix_str)
theorem slice_bounds (lo hi : Option Int) (n : Nat) : (sliceBounds lo hi none n).1 = ((HT.sIx n 0 lo : Nat) : Int) /\ (sliceBounds lo hi none n).2.1 = ((HT.sIx n n hi : Nat) : Int) /\ (sliceBounds lo hi none n).2.2 = 1 := by
  refine ⟨?_, ?_, rfl⟩
  . cases lo with
    | none => simp [sliceBounds, HT.sIx]
    | some i =>
      simp only [sliceBounds, HT.sIx, Option.getD_none, show (1 : Int) > 0 by decide, if_true]
      by_cases h : i < 0
      . simp only [h, if_true] <;> omega
      . simp only [h, if_false] <;> omega
  . cases hi with
    | none => simp [sliceBounds, HT.sIx]
    | some i =>
      simp only [sliceBounds, HT.sIx, Option.getD_none, show (1 : Int) > 0 by decide, if_true]
      by_cases h : i < 0
      . simp only [h, if_true] <;> omega
      . simp only [h, if_false] <;> omega
theorem slicePick_cut (its : List Value) (lo hi : Option Int) : slicePick its.toArray lo hi none = ((its.drop (HT.sIx its.length 0 lo)).take (HT.sIx its.length its.length hi - HT.sIx its.length 0 lo)).toArray := by
  obtain ⟨h1, h2, h3⟩ := slice_bounds lo hi its.toArray.size
  unfold slicePick
  rw [h1, h2, h3]
  simp only [sliceRange_one, pick_run, List.size_toArray] <;> rfl
def rSlL (K : PySem.W.Frag) : V -> Option Int -> Option Int -> Hp -> VK -> Prop := fun x lo hi H Q => ∃ a xs, x = .ref a /\ SqL K H a xs /\ ∀ p, H p = none -> Q (.ref p) (upd H p (.lst (cutV xs lo hi)))
theorem sl_list : SlR X (rSlL X.K) := by
  intro pins s σ H x v vl vu lo hi sl Q I rx hs pl pu h
  obtain ⟨a, xs, rfl, hx, q⟩ := h
  cases rx
  obtain ⟨its, r, ht, hz⟩ := I.list hx
  have hlen := r.length
  refine ⟨"list", _, slot_list_getitem.lookup, ht.isList.typeIs, ?_⟩
  refine wpAny_getItem_list_slice ht.isList hs pl pu .none (by simp) ?_ (by rw [List.size_toArray] <;> omega)
  rw [slicePick_cut, ← hlen]
  refine ⟨.ref s.heap.objs.size, _, I.laid (t' := s.toks) (o := .lst (cutV xs lo hi)) (fun b ob q => Heap.get?_push_of_some _ q) (Nat.le_refl _) ?_, rfl, q _ (I.hok.fresh (Nat.le_refl _))⟩
  exact ⟨Nat.le_trans (cutV_length xs lo hi) hz, _, 0, (r.drop (HT.sIx xs.length 0 lo)).take (HT.sIx xs.length xs.length hi - HT.sIx xs.length 0 lo), Heap.get?_push_size _ rfl⟩
theorem call_list_of : CallR X (.type "list") (fun xs H Q => ∃ p ys, xs = [.ref p] /\ (SqL X.K H p ys \/ SqT X.K H p ys) /\ ∀ l, H l = none -> Q (.ref l) (upd H l (.lst ys))) := by
  intro pins s σ H xs us Q I r h
  obtain ⟨p, ys, rfl, hq, q⟩ := h
  obtain ⟨u, rfl, rx⟩ := vals1 r
  cases rx
  have fin : ∀ (its : List Value), Vals ys its -> ys.length <= sizeLine -> ∀ (h' : Heap) (c' : Nat), (∀ b o', s.heap.get? b = some o' -> h'.get? b = some o') ->
      h'.get? s.heap.objs.size = some { cls := .type "list", dict := none, data := .seq its.toArray c', slots := #[] } -> EP X pins σ Q (.ref s.heap.objs.size) { s with heap := h' } := fun its r' hz h' c' kp e =>
    ⟨.ref s.heap.objs.size, _, I.laid (t' := s.toks) kp (Nat.le_refl _) (show ObjOk X.prog X.w _ h' _ (.lst ys) from ⟨hz, its, c', r', e⟩), rfl, q _ (I.hok.fresh (Nat.le_refl _))⟩
  rcases hq with hq | hq
  . obtain ⟨its, r', pl, hz⟩ := I.list hq
    have hlen := r'.length
    obtain ⟨o, ho, hc, n, hd⟩ := pl.isList
    exact call_list_seq p (.inl rfl) ho hc hd (fun h' c' kp e => fin its r' hz h' c' kp e) (by simp only [List.size_toArray] <;> omega)
  . obtain ⟨its, r', pl, hz⟩ := I.tuple hq
    have hlen := r'.length
    obtain ⟨o, ho, hc, n, hd⟩ := pl
    exact call_list_seq p (.inr rfl) ho hc hd (fun h' c' kp e => fin its r' hz h' c' kp e) (by simp only [List.size_toArray] <;> omega)
theorem call_tuple_of : CallR X (.type "tuple") (fun xs H Q => ∃ p ys, xs = [.ref p] /\ ((SqL X.K H p ys /\ ∀ l, H l = none -> Q (.ref l) (upd H l (.tup ys))) \/ (SqT X.K H p ys /\ Q (.ref p) H))) := by
  intro pins s σ H xs us Q I r h
  obtain ⟨p, ys, rfl, h⟩ := h
  obtain ⟨u, rfl, rx⟩ := vals1 r
  cases rx
  rcases h with ⟨hq, q⟩ | ⟨hq, q⟩
  . obtain ⟨its, r', pl, hz⟩ := I.list hq
    have hlen := r'.length
    refine call_tuple_list pl.isList (fun h' kp => ?_) (by simp only [List.size_toArray] <;> omega)
    have I1 : Inv X pins σ H { s with heap := h' } := I.kept (t' := s.toks) kp
    have I2 : Inv X pins σ (upd H h'.objs.size (.tup ys)) { s with heap := h'.push { cls := .type "tuple", data := .seq its.toArray } } :=
      I1.laid (t' := s.toks) (fun b o e => Heap.get?_push_of_some _ e) (Nat.le_refl _) (show ObjOk X.prog X.w _ _ _ (.tup ys) from ⟨hz, its, r', IsTup.new _ _⟩)
    exact ⟨.ref h'.objs.size, _, I2, rfl, q _ (I1.hok.fresh (Nat.le_refl _))⟩
  . obtain ⟨its, r', pl, hz⟩ := I.tuple hq
    exact call_tuple_same pl ⟨.ref p, H, I, rfl, q⟩
def tyV (K : PySem.W.Frag) (T : String) (x : V) (H : Hp) : Prop := match x with
  | .str _ => T = "str"
  | .int _ => T = "int"
  | .ref p => (T = "list" /\ ∃ xs, SqL K H p xs) \/ (T = "tuple" /\ ∃ o, K.lookup p = some o /\ o.cls = .type "tuple" /\ o.dict = none) \/
      (T = "dict" /\ ((∃ kvs, H p = some (.dK kvs)) \/ ∃ kvs, H p = some (.dT kvs))) \/ (T = "set" /\ ∃ S n, H p = some (.set S n))
  | _ => False
theorem tyV_is {pins : List (Addr × Obj)} {σ : St} {H : Hp} {s : Shared} {T : String} {x : V} {v : Value} (I : Inv X pins σ H s) (r : RelV x v) (ty : tyV X.K T x H) :
    s.TypeIs v T /\ ∀ a, v = .ref a -> ∃ ob, s.heap.get? a = some ob /\ ob.dict = none := by
  cases x with
  | str z =>
    obtain ⟨t, rfl⟩ := r
    cases (show T = "str" from ty)
    exact ⟨typeIs_str s z t, fun _ e => nomatch e⟩
  | int i =>
    obtain ⟨t, rfl⟩ := r
    cases (show T = "int" from ty)
    exact ⟨typeIs_int s i t, fun _ e => nomatch e⟩
  | ref p =>
    cases r
    rcases ty with ⟨rfl, xs, hq⟩ | ⟨rfl, o, hk, hc, hd⟩ | ⟨rfl, hk⟩ | ⟨rfl, S, n, hk⟩
    . obtain ⟨its, _, pl, _⟩ := I.list hq
      refine ⟨pl.isList.typeIs, fun a e => ?_⟩
      cases e
      obtain ⟨o, n, e, c, hd, _⟩ := pl
      exact ⟨o, e, hd⟩
    . refine ⟨⟨o, I.kIn p o hk, hc⟩, fun a e => ?_⟩
      cases e
      exact ⟨o, I.kIn _ o hk, hd⟩
    . have z : ∃ o, s.heap.get? p = some o /\ o.ExactDict := by
        rcases hk with ⟨kvs, hk⟩ | ⟨kvs, hk⟩
        . obtain ⟨_, _, _, _, o, _, _, e, ex, _⟩ := I.hok p _ hk
          exact ⟨o, e, ex⟩
        . obtain ⟨_, _, _, _, o, _, _, e, ex, _⟩ := I.hok p _ hk
          exact ⟨o, e, ex⟩
      obtain ⟨o, e, ex⟩ := z
      refine ⟨⟨o, e, ex.1⟩, fun a e2 => ?_⟩
      cases e2
      exact ⟨o, e, ex.2.1⟩
    . obtain ⟨o, _, _, _, e, ex, _⟩ := I.hok p _ hk
      refine ⟨⟨o, e, ex.1⟩, fun a e2 => ?_⟩
      cases e2
      exact ⟨o, e, ex.2.1⟩
  | _ => exact False.elim ty
def tBM (K : PySem.W.Frag) (T : String) (r : V -> List V -> Hp -> VK -> Prop) (to : TE) (t : TA) : TE := fun σ H Q => to σ H fun x H1 => tyV K T x H1 /\ t σ H1 fun xs H2 => r x xs H2 Q
variable {o e : Expr} {es : List Expr} {to : TE} {t : TA} {name : Str} {apos cpos : Pos} {T id : String} {r : V -> List V -> Hp -> VK -> Prop}
theorem pe_bm (pa : PlainAttrs T) (slot : Slot T name id) (hty : typeOf (.builtin id) = pure (.type "method_descriptor")) (hm : MtR X id r) (ho : PE X o to) (ha : PA X (e :: es) t)
    (hbase : autoParam (attributeBase o name X.env (eval o X.env) = eval o X.env) L2.ax4._auto_1)
    (hfew : autoParam (((backTo cpos (starEach (e :: es) X.env)).all (fun x => !x.1) && (backToKw cpos (keywordEach [] X.env)).all (fun x => x.1.isSome)
      && decide ((e :: es).length + ([] : List Keyword).length + (if ([] : List Keyword).isEmpty then 0 else 1) < 30)) = true) L2.ax4._auto_1)
    (hline : autoParam ((apos.endLine == cpos.line) = true) L2.ax4._auto_1) (hs : autoParam (starEach (e :: es) X.env = (false, eval e X.env) :: starEach es X.env) L2.ax4._auto_1) (hplain : autoParam ((backTo cpos (starEach es X.env)).any (·.1) = false) L2.ax4._auto_1) :
    PE X (.Call (.Attribute o name apos) (e :: es) [] cpos) (tBM X.K T r to t) := by
  intro pins s σ H Q I h
  refine wpAny_Call_method_late hbase hfew hline rfl (thn (ho pins s σ H _ I h) fun v s1 hhh => ?_)
  obtain ⟨x, H1, I1, r1, ty, q1⟩ := hhh
  obtain ⟨h1, h2⟩ := tyV_is I1 r1 ty
  refine ⟨T, id, pa, slot, hty, h1, h2, ?_⟩
  have hA := ha cpos pins s1 σ H1 _ I1 q1
  rw [hs] at hA ⊢
  refine Calls.callWith_builtin (by show (false || (backTo cpos (starEach es X.env)).any (·.1)) = false; rw [hplain] <;> rfl) (Calls.evalArgs_plain ?_)
  exact thn hA fun us s2 ⟨vs, H2, I2, r2, q2⟩ => hm pins s2 σ H2 x vs v us Q I2 r1 r2 q2
end
end L2
namespace L2
open PySem PySem.Spec PyProof.Rows
def MtM (X : Cx) (id : String) (r : V -> List V -> Hp -> VK -> Prop) : Prop :=
  ∀ (pins : List (Addr × Obj)) (s : Shared) (σ : St) (H : Hp) (x : V) (xs : List V) (v : Value) (us : List Value) (Q : VK), Inv X pins σ H s -> RelV x v -> Vals xs us -> r x xs H Q ->
    wpAny (model X.prog X.w) X.A (call (.builtin id) (v :: us)) (EP X pins σ Q) X.xe s
theorem Vals.one : ∀ {x : V} {us : List Value}, Vals [x] us -> ∃ u, us = [u] /\ RelV x u
  | _, _, .cons r .nil => ⟨_, rfl, r⟩
theorem Vals.rep {xs : List V} {us : List Value} (h : Vals xs us) : ∀ k : Nat, Vals (List.replicate k xs).flatten (List.replicate k us).flatten
  | 0 => .nil
  | k + 1 => by
    rw [List.replicate_succ, List.replicate_succ, List.flatten_cons, List.flatten_cons]
    exact Vals.append h (Vals.rep h k)
theorem foldl_rep (its : List Value) : ∀ (k : Nat) (acc : List Value),
    List.foldl (fun x1 x2 => x1 ++ x2) acc.toArray (List.replicate k its.toArray) = (acc ++ (List.replicate k its).flatten).toArray
  | 0, acc => by simp
  | k + 1, acc => by
    have e : acc.toArray ++ its.toArray = (acc ++ its).toArray := by simp
    have e2 : (acc ++ its) ++ (List.replicate k its).flatten = acc ++ (List.replicate (k + 1) its).flatten := by
      rw [List.replicate_succ, List.flatten_cons, List.append_assoc]
    rw [← e2, ← foldl_rep its k (acc ++ its), ← e, List.replicate_succ, List.foldl_cons]
section
variable {X : Cx} {pins : List (Addr × Obj)} {σ : St} {H : Hp} {s : Shared} {l b : Addr} {xs ys zs : List V}
theorem Inv.lset {its its' : List Value} {n : Nat} {f : Array Value -> Array Value} {t' : Nat} (I : Inv X pins σ H s) (hH : H l = some (.lst xs))
    (e : s.heap.get? l = some { cls := .type "list", data := .seq its.toArray n }) (hf : f its.toArray = its'.toArray) (hv : Vals ys its') (hz : ys.length <= sizeLine) :
    Inv X pins σ (upd H l (.lst ys)) { s with heap := s.heap.update l (Obj.mapSeq f), toks := t' } := by
  have q := PySem.IsL.update e f
  rw [hf] at q
  refine I.write (x := l) (e := l) (by rw [hH]; exact trivial) (.inl rfl) (fun b' u hb hu => (Heap.get?_update_other s.heap (Obj.mapSeq f) (Ne.symm hb)).trans hu) ⟨_, q⟩ ?_
  exact ⟨hz, its', _, hv, q⟩
theorem Inv.lnew {its : List Value} {t' : Nat} (I : Inv X pins σ H s) (hv : Vals ys its) (hz : ys.length <= sizeLine) :
    Inv X pins σ (upd H s.heap.objs.size (.lst ys)) { s with heap := s.heap.push { cls := .type "list", data := .seq its.toArray }, toks := t' } :=
  I.laid (fun _ _ q => Heap.get?_push_of_some _ q) (Nat.le_refl _) ⟨hz, its, 0, hv, Heap.get?_push_size _ rfl⟩
theorem Inv.fresh (I : Inv X pins σ H s) : H s.heap.objs.size = none := I.hok.fresh (Nat.le_refl _)
theorem Inv.lstM (I : Inv X pins σ H s) (hH : H l = some (.lst xs)) : xs.length <= sizeLine /\ ∃ (its : List Value) (n : Nat), Vals xs its /\ xs.length = its.length /\ s.heap.get? l = some { cls := .type "list", data := .seq its.toArray n } := by
  obtain ⟨z, its, n, r, e⟩ := I.hok l _ hH
  exact ⟨z, its, n, r, r.length, e⟩
theorem notLongL {n : Nat} (h : n <= sizeLine) : Builtin.List.listTooLong n = false := by
  unfold Builtin.List.listTooLong
  exact decide_eq_false (by omega)
end
section
variable {X : Cx}
def rAppend : V -> List V -> Hp -> VK -> Prop := fun x vs H Q => ∃ l xs y, x = .ref l /\ vs = [y] /\ H l = some (.lst xs) /\ xs.length < sizeLine /\ Q .non (upd H l (.lst (xs ++ [y])))
theorem mt_append : MtM X "list.append" rAppend := by
  intro pins s σ H x vs v us Q I rx rv h
  obtain ⟨l, xs, y, rfl, rfl, hH, hz, q⟩ := h
  cases rx
  obtain ⟨u, rfl, ru⟩ := rv.one
  obtain ⟨z, its, n, r, hl, e⟩ := I.lstM hH
  refine call_meets F.slot_list_append ⟨_, e, rfl⟩ F.entry_list_append (F.args_list_append_2 _ _) (PySem.list_append l its.toArray n u (by rw [List.size_toArray]; omega)) ⟨e, ?_⟩
  refine ⟨.non, _, I.lset (its' := its ++ [u]) hH e (by simp) (r.append (.cons ru .nil)) ?_, rfl, q⟩
  rw [List.length_append, List.length_singleton]
  omega
theorem len_rep {α : Type} (xs : List α) (k : Nat) : (List.replicate k xs).flatten.length = k * xs.length := by
  induction k with
  | zero => simp
  | succ k ih => rw [List.replicate_succ, List.flatten_cons, List.length_append, ih, Nat.succ_mul, Nat.add_comm]
end
end L2
namespace Att
open PySem PySem.W PySem.Calls PyProof.Rows
theorem ints_of_wellAll {P : Params} {h : Heap} : ∀ (ns : List Int) (vs : List Value), WellAll P h vs (ns.map WData.int) -> IntsAre vs ns := by
  intro ns
  induction ns with
  | nil =>
    intro vs w
    rw [List.map_nil] at w
    cases w
    exact .nil
  | cons n ns ih =>
    intro vs w
    rw [List.map_cons] at w
    cases w with
    | cons a b =>
      cases a
      exact .cons _ _ (ih _ b)
theorem script_of {l : OpenLaw} {n : Nat} (hn : l.most = some n) {P : Params} {h : Heap} {args : List WData} {vals : List Value}
    (hpre : l.row.toRowW.claim.pre args = true) (hwl : WellAll P h vals args) :
    ∃ a vs ns, vals = [Value.ref a] /\ args = [WData.list (ns.map WData.int)] /\ h.get? a = some { cls := .type "list", data := .seq vs.toArray } /\ IntsAre vs ns /\ ns.length <= n := by
  have hsh : WShape.hasAll [] args [.list .int] = true := (pre_splitW hpre).1
  have hc : l.pre.holds [] { args := args } = true := (pre_splitW hpre).2
  obtain ⟨d, r, rfl, h1, h2⟩ := hasAllW_cons hsh
  obtain rfl := hasAllW_nil h2
  obtain ⟨xs, rfl, h3⟩ := hasW_list h1
  obtain ⟨ns, rfl⟩ := items_int h3
  have hlen : ns.length <= n := by
    unfold OpenLaw.pre at hc
    have h4 : (WTm.not (.lt (.lit (.int (n : Int))) (.len (.arg 0)))).holds [] { args := [.list (ns.map .int)] } = true := by
      have h4 := (holds_andW hc).1
      rw [hn] at h4
      exact h4
    have h5 := condW_of h4 (w_not (w_lt w_lit (w_len_list (w_arg rfl))))
    rw [List.length_map] at h5
    refine Nat.le_of_not_lt fun q => ?_
    have q' : (n : Int) < ((ns.length : Nat) : Int) := by omega
    first
      | (rw [decide_eq_true q'] at h5; exact absurd h5 (by decide))
      | (simp at h5; omega)
  cases hwl with
  | cons w1 w2 =>
    cases w2
    cases w1 with
    | list ho hall => exact ⟨_, _, ns, rfl, rfl, ho, ints_of_wellAll ns _ hall, hlen⟩
theorem post_true (l : OpenLaw) (args : List WData) : l.row.toRowW.claim.post args (.bool true) args = true :=
  postW_of (r := l.row.toRowW) (X := (true == true))
    (show WShape.has [] (.bool true) .bool = true by first | rfl | decide | simp [WShape.has, WShape.arms, WShape.armsAll])
    (show (WTm.eq .res (.lit (.bool true))).value [] { args := args, res := some (.bool true), after := args } = some (.bool (true == true)) from w_eq_bool (w_res rfl) w_lit) rfl
theorem attach_call {l : OpenLaw} {n : Nat} {q : Program} {loose : List Str} {XP : (Str -> Option Value) -> Heap -> Prop} {YP : World -> Heap -> Prop} {d : DefRec}
    (hn : l.most = some n) (hdf : d.params.defaults = [])
    (call : ∀ (w : World) (s₀ s₁ : Shared) (mg mb : Str -> Option Value) (fa : Addr) (o : Obj) (pm cd doc : Value) (a : Addr) (vs : List Value) (ns : List Int),
      Ground q loose [] XP w s₀ mg mb s₁.heap -> YP w s₁.heap ->
      s₁.heap.get? fa = some o -> o.data = .func (docDef d.name d.params d.body d.scope pm cd doc) -> s₁.heap.CodeRec cd d.name -> mg d.name = some (.ref fa) ->
      s₁.heap.get? a = some { cls := .type "list", data := .seq vs.toArray } -> IntsAre vs ns -> ns.length <= n -> s₁.gens = #[] ->
      codeAny (model l.prog w) callerA (.call (.ref fa) ⟨[.ref a], []⟩) (fun r s' => r = .ok (.ret (.bool true)) /\ OldK s₁.heap s'.heap /\ s'.os = s₁.os /\ AllBare s'.gens) s₁) :
    WalkO q loose XP YP l.row.toRowW d [] (fun f vs => PySem.call f vs) := by
  intro w s₀ s₁ mg mb G Y fa o pm cd doc dV kV ho hd hcd hD hmg hg args vals as hpre hlay hrd hwl hlo
  obtain rfl : dV = .none := Dflts.none hD hdf
  obtain rfl : kV = .none := Dflts.noKw hD
  obtain ⟨a, vs, ns, rfl, rfl, hobj, hints, hlen⟩ := script_of hn hpre hwl
  refine enter_call (codeAny_mono (call w s₀ s₁ mg mb fa o pm cd doc a vs ns G Y ho (fd_plain hd) hcd hmg hobj hints hlen hg) fun r s' hq => ?_)
  obtain ⟨rfl, h2, h3, h4⟩ := hq
  exact ⟨.inl ⟨.bool true, .bool true, [], rfl, fun _ => rfl, .bool true, post_true l _, fun _ => ⟨List.Pairwise.nil, fun _ hm => (nomatch hm)⟩⟩, h2, h3, h4⟩
end Att
namespace L2
open PySem PySem.Spec PyProof.Rows
theorem vals_ints : ∀ {vs : List Value} {ns : List Int}, IntsAre vs ns -> Vals (ns.map V.int) vs
  | _, _, .nil => .nil
  | _, _, .cons n t h => .cons ⟨t, rfl⟩ (vals_ints h)
def Only (H : Hp) : Prop := ∀ b, H b = none \/ ∃ o xs, H b = some (.frz o (.lst xs))
theorem law_call {P : Program} {w : World} {K : PySem.W.Frag} {mg mb : Str -> Option Value} {CX : CXT} {k : Nat} {fa a : Addr} {fd : FuncData} {x : Str} {sp : Sp} {s₁ : Shared} {vs : List Value} {ns : List Int}
    (KX : K.In s₁.heap) (hns : s₁.heap.Ns mainGlobals mg) (hb : s₁.heap.Ns builtinsNs mb) (hbb : ∀ x : Str, x ≠ "__name__" -> mb x = bootBuiltins x) (hlim : s₁.heap.NoLimit) (hg : s₁.gens = #[])
    (ha : s₁.heap.get? a = some { cls := .type "list", data := .seq vs.toArray }) (hi : IntsAre vs ns) (hl : ns.length <= sizeLine) (hr : Room k callerA)
    (F : ∀ base : Heap, K.In base -> base.Ns mainGlobals mg -> FnOk P w K mg base CX k fa fd [x] sp) (hbind : ∀ (s : Shared) (u : Value), BindsTo s fd ⟨[u], []⟩ [(x, u)])
    (hsp : ∀ H : Hp, Only H -> SqL K H a (ns.map V.int) -> sp [.ref a] H (fun v _ => v = .bl true) fun _ _ _ => False)
    (hCX : ∀ H e s', CX [] H s₁ (fun _ _ _ => False) e s' -> False) :
    codeAny (model P w) callerA (.call (.ref fa) ⟨[.ref a], []⟩) (fun r s' => r = .ok (.ret (.bool true)) /\ OldK s₁.heap s'.heap /\ s'.os = s₁.os /\ AllBare s'.gens) s₁ := by
  have rv := vals_ints hi
  have lenV := hi.length
  have core : ∀ H : Hp, Only H -> SqL K H a (ns.map V.int) -> HOk P w H s₁.heap -> (∀ b, H b ≠ none -> b = a) -> (H a ≠ none -> K.lookup a = none) ->
      codeAny (model P w) callerA (.call (.ref fa) ⟨[.ref a], []⟩) (fun r s' => r = .ok (.ret (.bool true)) /\ OldK s₁.heap s'.heap /\ s'.os = s₁.os /\ AllBare s'.gens) s₁ := by
    intro H hO hS hok hA hK
    have base_of : ∀ {b : Addr} {o : Obj}, s₁.heap.get? b = some o -> H b = none -> (hidT s₁.heap H).get? b = some o := fun e n => hidT_get e n
    have noA : ∀ {b : Addr} {o : Obj} {es : Array DictEntry} {ep : Nat}, s₁.heap.get? b = some o -> o.data = .dict es ep -> H b = none := fun {b o es ep} e d => by
      cases q : H b with
      | none => rfl
      | some u =>
        have e' : b = a := hA b (by rw [q]; simp)
        subst e'
        rw [ha] at e; cases e
        have d' : Data.seq vs.toArray _ = Data.dict es ep := d
        cases d'
    have nsK : ∀ {b : Addr} {m : Str -> Option Value}, s₁.heap.Ns b m -> (hidT s₁.heap H).Ns b m := fun {b m} ⟨o, es, ep, e, d, r⟩ => ⟨o, es, ep, base_of e (noA e d), d, r⟩
    have hKb : K.In (hidT s₁.heap H) := fun b o e => base_of (KX b o e) (by
      cases q : H b with
      | none => rfl
      | some u =>
        have e' : b = a := hA b (by rw [q]; simp)
        subst e'
        rw [hK (by rw [q]; simp)] at e; cases e)
    have hM : Mod K mg (hidT s₁.heap H) := ⟨hKb, nsK hns, ⟨mb, nsK hb, hbb⟩, let ⟨mc, h1, h2⟩ := hlim; ⟨mc, nsK h1, h2⟩⟩
    have e0 : Env0 P w K mg (hidT s₁.heap H) callerA [] s₁ H := ⟨rfl, hM, fun b o e => of_hidT e, Nat.le_of_eq (hidT_size _ _), trivial, fun b hb => absurd (show b ∈ ([] : List Addr) from hb) (by simp), hok, .of_eq hg⟩
    refine codeAny_mono ((F _ hKb (nsK hns)).run callerA [] s₁ H ⟨[.ref a], []⟩ [.ref a] [.ref a] _ _ hr e0 (hbind s₁ (.ref a)) (.cons rfl .nil) (hsp H hO hS)) fun r s' h => ?_
    cases r with
    | error e => exact (hCX H e s' h).elim
    | ok fl =>
      cases fl with
      | next => exact False.elim h
      | brk => exact False.elim h
      | cont => exact False.elim h
      | ret u =>
        obtain ⟨v, H', os, bare, un, hok', r', q⟩ := h
        have q' : v = .bl true := q
        subst q'
        obtain rfl : u = Value.bool true := r'
        refine ⟨rfl, OldK.of_keep fun b o e => ?_, os, bare⟩
        cases q : H b with
        | none => exact un.keep b o e q (by intro z; exact absurd (show b ∈ ([] : List Addr) from z) (by simp)) (by simp)
        | some u =>
          rcases hO b with z | ⟨ob, xs, z⟩
          . rw [q] at z; cases z
          . have z2 := un.frzs b ob _ z
            obtain ⟨e1, _⟩ := hok b _ z
            obtain ⟨e2, _⟩ := hok' b _ z2
            rw [e] at e1; cases e1
            exact e2
  cases hk : K.lookup a with
  | some o =>
    have e := KX a o hk
    rw [ha] at e
    cases e
    refine core (fun _ => none) (fun _ => .inl rfl) (.inr ⟨_, vs.toArray, _, hk, rfl, rfl, rfl, by rw [List.size_toArray, lenV]; exact hl, by simpa using rv⟩) (fun b u z => by have z' : (none : Option HO) = some u := z; cases z') (fun b z => absurd rfl z) fun z => absurd rfl z
  | none =>
    refine core (fun b => if b = a then some (.frz { cls := .type "list", data := .seq vs.toArray } (.lst (ns.map V.int))) else none) (fun b => ?_) (.inl (.inr ⟨{ cls := .type "list", data := .seq vs.toArray }, if_pos rfl⟩)) (fun b u z => ?_) (fun b z => ?_) fun _ => hk
    . by_cases hb : b = a
      . exact .inr ⟨_, _, if_pos hb⟩
      . exact .inl (if_neg hb)
    . by_cases hb : b = a
      . have z' := (if_pos hb).symm.trans z
        cases z'
        subst hb
        exact ⟨ha, by rw [List.length_map]; exact hl, vs, _, rv, ha⟩
      . have z' := (if_neg hb).symm.trans z
        cases z'
    . by_cases hb : b = a
      . exact hb
      . exact absurd (if_neg hb) z
end L2
namespace L2
open PySem PySem.Spec PyProof.Rows
theorem walk_of {l : PySem.W.OpenLaw} {n k : Nat} {q : Program} {loose : List Str} {XP : (Str -> Option Value) -> Heap -> Prop} {YP : World -> Heap -> Prop} {d : DefRec} {K : Params -> PySem.W.Frag} {CX : World -> CXT} {sp : World -> Sp} {x : Str}
    (hn : l.most = some n) (hn2 : n <= sizeLine) (hdf : d.params.defaults = []) (hr : Room k callerA)
    (hY : ∀ (w : World) (h : Heap), YP w h -> (K w.params).In h)
    (F : ∀ (w : World) (mg : Str -> Option Value) (fa : Addr) (h : Heap), (K w.params).In h -> h.Ns mainGlobals mg -> mg d.name = some (.ref fa) ->
      ∃ fd : FuncData, (∀ (s : Shared) (u : Value), BindsTo s fd ⟨[u], []⟩ [(x, u)]) /\
        ∀ base : Heap, (K w.params).In base -> base.Ns mainGlobals mg -> FnOk l.prog w (K w.params) mg base (CX w) k fa fd [x] (sp w))
    (hsp : ∀ (w : World) (H : Hp) (a : Addr) (ns : List Int), ns.length <= n -> Only H -> SqL (K w.params) H a (ns.map V.int) -> sp w [.ref a] H (fun v _ => v = .bl true) fun _ _ _ => False)
    (hCX : ∀ (w : World) (H : Hp) (s : Shared) (e : Value) (s' : Shared), CX w [] H s (fun _ _ _ => False) e s' -> False) :
    PySem.W.WalkO q loose XP YP l.row.toRowW d [] (fun f vs => PySem.call f vs) := by
  refine Att.attach_call hn hdf fun w s₀ s₁ mg mb fa o pm cd doc a vs ns G Y ho hd hcd hmg hobj hints hlen hg => ?_
  have KX := hY w _ Y
  obtain ⟨fd, hb, hF⟩ := F w mg fa _ KX G.T.g hmg
  exact law_call KX G.T.g G.T.b G.T.builtins G.T.nolimit hg hobj hints (Nat.le_trans hlen hn2) hr hF hb (fun H hO hS => hsp w H a ns hlen hO hS) fun H e s' => hCX w H s₁ e s'
end L2
namespace L2
open PySem PySem.Spec PyProof.Rows
noncomputable def defArgs (s : Stmt) : Arguments := match s with
  | .FunctionDef _ a _ _ _ _ _ _ _ _ => a
  | _ => { posonlyargs := [], args := [], vararg := none, kwonlyargs := [], kw_defaults := [], kwarg := none, defaults := [] }
noncomputable def defBody (s : Stmt) : List Stmt := match s with
  | .FunctionDef _ _ b _ _ _ _ _ _ _ => b
  | _ => []
noncomputable def defScope (s : Stmt) : Scope := match s with
  | .FunctionDef _ _ _ _ _ _ sc _ _ _ => sc
  | _ => { kind := .function, names := [], isGenerator := false, isCoroutine := false }
abbrev CX0 : CXT := fun _ _ _ _ _ _ => False
abbrev E0 : XK := fun _ _ _ => False
theorem pass0 {X : Cx} : Passes CX0 X E0 := fun _ _ _ _ _ _ _ h => h.elim
structure Fun (K : PySem.W.Frag) (x qual : Str) (st : Stmt) (f : Addr) (fd : FuncData) : Prop where
  ex : ∃ (oc : Value) (od : Option Addr) (kV doc pm : Value) (an : Option Addr) (cdv ct : Value) (osl : Array (Option Value)),
    fd = PySem.W.fnOf x qual (defArgs st) (defBody st) (defScope st) .none kV doc pm an cdv ct /\ K.lookup f = some ⟨oc, od, .func fd, osl⟩ /\ PySem.W.codeIn K cdv qual = true
  kp : PySem.W.keepIn K (.ref f) = true
section
variable {P : Program} {w : World} {K : PySem.W.Frag} {mg : Str -> Option Value} {base : Heap}
theorem Fun.ok {x qual : Str} {st : Stmt} {f : Addr} {fd : FuncData} {N ps : List Str} {k : Nat} {sp : Sp} (F : Fun K x qual st f fd) (S : FnScope N ps (defScope st)) (len : ∀ vs H Q E, sp vs H Q E -> vs.length = ps.length)
    (hbody : ∀ (cdv : Value) (A : Around) (outer : List Env) (s : Shared) (H : Hp) (vs : List V) (Q : VK) (E : XK), Room k (A.deeper (envOfC qual (defScope st) s.heap.objs.size f cdv)) -> sp vs H Q E ->
      ∃ t, PSs (cxOf CX0 P w K mg base N qual (defScope st) f cdv A outer s H E).nox (defBody st) t /\ t { nx := fun _ H' => Q .non H', rt := Q } (start N vs) H) : FnOk P w K mg base CX0 (k + 1) f fd ps sp := by
  obtain ⟨oc, od, kV, doc, pm, an, cdv, ct, osl, rfl, lk, hcd⟩ := F.ex
  refine fn_of lk hcd S len fun A outer s H vs Q E hr hsp => ?_
  obtain ⟨t, h, q⟩ := hbody cdv A outer s H vs Q E hr hsp
  exact ⟨t, h.nox, q⟩
theorem Fun.binds {x qual : Str} {st : Stmt} {f : Addr} {fd : FuncData} {ps : List Str} (F : Fun K x qual st f fd)
    (h : ∀ (kV doc pm : Value) (an : Option Addr) (cdv ct : Value) (us : List Value), us.length = ps.length -> bindArgs (PySem.W.fnOf x qual (defArgs st) (defBody st) (defScope st) .none kV doc pm an cdv ct) ⟨us, []⟩ = pure (ps.zip us)) : Binds K fd ps [] := by
  obtain ⟨oc, od, kV, doc, pm, an, cdv, ct, osl, rfl, lk, hcd⟩ := F.ex
  exact .all (h kV doc pm an cdv ct)
theorem fun_mk {x qual : Str} {st : Stmt} {f : Addr} {oc : Value} {od an : Option Addr} {osl : Array (Option Value)} {kV doc pm cdv ct : Value} (l : K.lookup f = some ⟨oc, od, .func (PySem.W.fnOf x qual (defArgs st) (defBody st) (defScope st) .none kV doc pm an cdv ct), osl⟩)
    (c : PySem.W.codeIn K cdv qual = true) (k : PySem.W.keepIn K (.ref f) = true) : Fun K x qual st f (PySem.W.fnOf x qual (defArgs st) (defBody st) (defScope st) .none kV doc pm an cdv ct) := ⟨⟨oc, od, kV, doc, pm, an, cdv, ct, osl, rfl, l, c⟩, k⟩
end
def Same (H H' : Hp) : Prop := ∀ b o, H b = some o -> H' b = some o
theorem Same.refl (H : Hp) : Same H H := fun _ _ h => h
theorem Same.trans {H H1 H2 : Hp} (a : Same H H1) (b : Same H1 H2) : Same H H2 := fun c o h => b c o (a c o h)
theorem Same.free {H H' : Hp} (e : Same H H') {l : Addr} (h : H' l = Option.none) : H l = Option.none := by
  cases q : H l with
  | none => rfl
  | some o =>
    rw [e l o q] at h
    cases h
end L2
section
set_option Elab.async false
set_option linter.all false
set_option maxRecDepth 100000
namespace L2
open PySem PySem.Spec PyProof.Rows
section
variable {κ : Type} [DecidableEq κ]
noncomputable def valV (kvs : List (κ × V)) (k : κ) : Option V := (kvs.find? fun kv => decide (kv.1 = k)).map (·.2)
noncomputable def putK (kvs : List (κ × V)) (k : κ) (v : V) : List (κ × V) :=
  if (kvs.any fun kv => decide (kv.1 = k)) = true then kvs.map (fun kv => if kv.1 = k then (kv.1, v) else kv) else kvs ++ [(k, v)]
theorem valV_pos {p : κ × V} {r : List (κ × V)} {k : κ} (e : p.1 = k) : valV (p :: r) k = some p.2 := by simp [valV, List.find?_cons, e]
theorem valV_neg {p : κ × V} {r : List (κ × V)} {k : κ} (e : ¬ p.1 = k) : valV (p :: r) k = valV r k := by simp [valV, List.find?_cons, e]
theorem valV_any (k : κ) : ∀ kvs : List (κ × V), (kvs.any fun kv => decide (kv.1 = k)) = (valV kvs k).isSome
  | [] => rfl
  | p :: r => by
    rw [List.any_cons]
    by_cases e : p.1 = k
    . simp only [valV_pos e, decide_eq_true e, Bool.true_or, Option.isSome_some]
    . rw [valV_neg e, decide_eq_false e, Bool.false_or]; exact valV_any k r
theorem length_putK (kvs : List (κ × V)) (k : κ) (v : V) : (putK kvs k v).length <= kvs.length + 1 := by
  unfold putK
  split
  . rw [List.length_map]; omega
  . rw [List.length_append, List.length_cons, List.length_nil]; omega
theorem putK_new {kvs : List (κ × V)} {k : κ} (v : V) (h : valV kvs k = none) : putK kvs k v = kvs ++ [(k, v)] := by
  unfold putK
  rw [valV_any, h]
  exact if_neg (by decide)
theorem RelO.isSome_eq {o : Option V} {u : Option Value} (r : RelO o u) : o.isSome = u.isSome := by
  cases o with
  | none => cases u with
    | none => rfl
    | some _ => exact (show False from r).elim
  | some _ => cases u with
    | none => exact (show False from r).elim
    | some _ => rfl
theorem KV.val {kvs : List (κ × V)} {vs : List (κ × Value)} (r : KV kvs vs) (k : κ) : RelO (valV kvs k) (valueAt vs k) := by
  unfold KV at r
  induction r with
  | nil => exact True.intro
  | @cons p q ps qs h t ih =>
    obtain ⟨h1, h2⟩ := h
    by_cases e : p.1 = k
    . have e' : q.1 = k := h1.symm.trans e
      have b : valueAt (q :: qs) k = some q.2 := by simp [valueAt, List.find?_cons, e']
      rw [valV_pos e, b]; exact h2
    . have e' : ¬ q.1 = k := fun z => e (h1.trans z)
      have b : valueAt (q :: qs) k = valueAt qs k := by simp [valueAt, List.find?_cons, e']
      rw [valV_neg e, b]; exact ih
end
theorem kV_is {P : Program} {w : World} {k : Key} {u : Value} (r : RelV (kV k) u) : (mixKind P w).is k u = true := by
  cases k with
  | inl i => obtain ⟨t, e⟩ := (show ∃ t, u = Value.int i t from r); subst e; exact mixKind_int P w i t
  | inr x => obtain ⟨t, e⟩ := (show ∃ t, u = Value.str x t from r); subst e; exact mixKind_str P w x t
theorem items_are {P : Program} {w : World} : ∀ {ks : List Key} {us : List Value}, Vals (ks.map kV) us -> ItemsAre (mixKind P w) ks us
  | [], _, r => by rw [List.map_nil] at r; cases r; exact .nil
  | k :: ks, _, r => by
    rw [List.map_cons] at r
    cases r with
    | cons h t => exact .cons (kV_is h) (items_are t)
abbrev KT (H : Hp) : List (List Key × V) -> List (List Key × Addr × Value) -> Prop := Paired fun p q => p.1 = q.1 /\ H q.2.1 = some (.tup (p.1.map kV)) /\ RelV p.2 q.2.2
theorem KT.val {H : Hp} {kvs : List (List Key × V)} {xs : List (List Key × Addr × Value)} (r : KT H kvs xs) (k : List Key) : RelO (valV kvs k) ((atKey xs k).map (·.2)) := by
  induction r with
  | nil => exact True.intro
  | @cons p q ps qs h t ih =>
    obtain ⟨h1, _, h2⟩ := h
    by_cases e : p.1 = k
    . have e' : q.1 = k := h1.symm.trans e
      have b : atKey (q :: qs) k = some q.2 := by simp [atKey, List.find?_cons, e']
      rw [valV_pos e, b]; exact h2
    . have e' : ¬ q.1 = k := fun z => e (h1.trans z)
      have b : atKey (q :: qs) k = atKey qs k := by simp [atKey, List.find?_cons, e']
      rw [valV_neg e, b]; exact ih
theorem KT.repl {H : Hp} {kvs : List (List Key × V)} {xs : List (List Key × Addr × Value)} (r : KT H kvs xs) (k : List Key) {y : V} {u : Value} (ry : RelV y u) :
    KT H (kvs.map fun kv => if kv.1 = k then (kv.1, y) else kv) (xs.map (putAt k u)) := by
  induction r with
  | nil => exact .nil
  | @cons p q ps qs h t ih =>
    rw [List.map_cons, List.map_cons]
    refine .cons ?_ ih
    obtain ⟨h1, h2, h3⟩ := h
    unfold putAt
    by_cases e : p.1 = k
    . rw [if_pos e, if_pos (h1.symm.trans e)]; exact ⟨h1, h2, ry⟩
    . rw [if_neg e, if_neg (fun z => e (h1.trans z))]; exact ⟨h1, h2, h3⟩
theorem KT.put {H : Hp} {kvs : List (List Key × V)} {xs : List (List Key × Addr × Value)} (r : KT H kvs xs) (k : List Key) {b : Addr} {y : V} {u : Value} (hb : H b = some (.tup (k.map kV))) (ry : RelV y u) :
    KT H (putK kvs k y) (storedH xs k b u) := by
  have e : (kvs.any fun kv => decide (kv.1 = k)) = (atKey xs k).isSome := by
    rw [valV_any, (r.val k).isSome_eq, Option.isSome_map]
  unfold putK storedH
  rw [e]
  by_cases q : (atKey xs k).isSome = true
  . rw [if_pos q, if_pos q]; exact r.repl k ry
  . rw [if_neg q, if_neg q]; exact Paired.snoc r ⟨rfl, hb, ry⟩
theorem KT.keeps {H H' : Hp} {kvs : List (List Key × V)} {xs : List (List Key × Addr × Value)} (r : KT H kvs xs) (ht : ∀ b ys, H b = some (.tup ys) -> H' b = some (.tup ys)) : KT H' kvs xs :=
  Paired.mapP r fun _ _ z => ⟨z.1, ht _ _ z.2.1, z.2.2⟩
section
variable {P : Program} {w : World} {H : Hp} {h : Heap} {a : Addr}
theorem rd_of {u : HO} (ok : HOk P w H h) (e : Rd H a u) : ObjOk P w H h a u := e.ok ok
theorem dk_rd {kvs : List (Key × V)} (ok : HOk P w H h) (e : Rd H a (.dK kvs)) : kvs.length <= sizeLine /\ (a == sysModules) = false /\ ∃ vs, KV kvs vs /\ h.DictOf (mixKind P w) a vs :=
  show ObjOk P w H h a (.dK kvs) from rd_of ok e
theorem dk_of {kvs : List (Key × V)} (ok : HOk P w H h) (e : H a = some (.dK kvs)) : kvs.length <= sizeLine /\ (a == sysModules) = false /\ ∃ vs, KV kvs vs /\ h.DictOf (mixKind P w) a vs := dk_rd ok (.inl e)
theorem key_of {ks : List Key} (ok : HOk P w H h) (e : H a = some (.tup (ks.map kV))) : (tupleKind (mixKind P w)).is h ks a := by
  obtain ⟨_, its, r, o, h1, h2, n, h3⟩ := (show ObjOk P w H h a (.tup (ks.map kV)) from ok a _ e)
  exact ⟨o, its.toArray, n, h1, h2, h3, by simpa using items_are r⟩
theorem dt_rd {kvs : List (List Key × V)} (ok : HOk P w H h) (e : Rd H a (.dT kvs)) : kvs.length <= sizeLine /\ (a == sysModules) = false /\
    ∃ xs, KT H kvs xs /\ h.DictOfH (tupleKind (mixKind P w)) a xs := by
  obtain ⟨z, y, xs, r, o, es, ep, h1, h2, h3, h4, h5⟩ := (show ObjOk P w H h a (.dT kvs) from rd_of ok e)
  refine ⟨z, y, xs, r, o, es, ep, h1, h2, h3, h4, fun x hx => ?_, h5⟩
  have all : ∀ {l : List (List Key × V)} {m : List (List Key × Addr × Value)}, KT H l m -> ∀ x ∈ m, (tupleKind (mixKind P w)).is h x.1 x.2.1 := by
    intro l m q
    induction q with
    | nil => intro x hx; exact nomatch hx
    | @cons p q ps qs hq t ih =>
      intro x hx
      rcases List.mem_cons.mp hx with e | hx
      . subst e
        exact key_of ok (by rw [← hq.1]; exact hq.2.1)
      . exact ih x hx
  exact all r x hx
theorem dt_of {kvs : List (List Key × V)} (ok : HOk P w H h) (e : H a = some (.dT kvs)) : kvs.length <= sizeLine /\ (a == sysModules) = false /\
    ∃ xs, KT H kvs xs /\ h.DictOfH (tupleKind (mixKind P w)) a xs := dt_rd ok (.inl e)
end
def DGet (H : Hp) (a : Addr) (y : V) (r : Option V) : Prop :=
  (∃ kvs k, Rd H a (.dK kvs) /\ y = kV k /\ r = valV kvs k) \/ ∃ kvs k b, Rd H a (.dT kvs) /\ y = .ref b /\ H b = some (.tup (k.map kV)) /\ r = valV kvs k
theorem DGet.t {H : Hp} {a b : Addr} {kvs : List (List Key × V)} {k : List Key} (e : H a = some (.dT kvs)) (eb : H b = some (.tup (k.map kV))) : DGet H a (.ref b) (valV kvs k) := .inr ⟨kvs, k, b, .inl e, rfl, eb, rfl⟩
section
variable {X : Cx} {pins : List (Addr × Obj)} {σ : St} {H : Hp} {s : Shared} {a : Addr} {y v : V} {u r : Value} {o : Option V} {A : Around} {E : Value -> Shared -> Prop}
theorem Inv.big (I : Inv X pins σ H s) : sysModules < s.heap.objs.size := by
  have h : mainGlobals < s.heap.objs.size := (I.mod.glob.keeps I.bk).lt
  exact Nat.lt_trans (by decide) h
theorem d_getItem {Q : Value -> Shared -> Prop} (hu : A.units + 1 < cLine) (I : Inv X pins σ H s) (g : DGet H a y (some v)) (ry : RelV y u) (h : ∀ w' s', Inv X pins σ H s' -> RelV v w' -> Q w' s') :
    wpAny (model X.prog X.w) A (getItem (.ref a) u) Q E s := by
  rcases g with ⟨kvs, k, e, ey, l⟩ | ⟨kvs, k, b, e, ey, eb, l⟩
  . subst ey
    obtain ⟨z, hd, vs, rel, dd⟩ := dk_rd I.hok e
    obtain ⟨w', hw, rw'⟩ := RelO.some_of (v := v) (o := valueAt vs k) (by rw [l]; exact rel.val k)
    exact wpAny_getItem_of (kV_is ry) dd.mapOf hw (h w' _ (I.tok _) rw')
  . subst ey
    cases (show u = Value.ref b from ry)
    obtain ⟨z, hd, xs, rel, dd⟩ := dt_rd I.hok e
    obtain ⟨w', hw, rw'⟩ := RelO.some_of (v := v) (o := (atKey xs k).map (·.2)) (by rw [l]; exact rel.val k)
    obtain ⟨p, hp, hp2⟩ := Option.map_eq_some_iff.mp hw
    refine wpAny_getItem_heap (tupleKind_room_in1 hu) (key_of I.hok eb) dd hp ?_
    rw [hp2]
    exact h w' _ (I.tok _) rw'
theorem d_in {Q : Value -> Shared -> Prop} (hu : A.units + 1 < cLine) (I : Inv X pins σ H s) (g : DGet H a y o) (ry : RelV y u) (h : ∀ s', Inv X pins σ H s' -> Q (.bool o.isSome) s') :
    wpAny (model X.prog X.w) A (compareOp .In u (.ref a)) Q E s := by
  rcases g with ⟨kvs, k, e, ey, l⟩ | ⟨kvs, k, b, e, ey, eb, l⟩
  . subst ey
    obtain ⟨z, hd, vs, rel, dd⟩ := dk_rd I.hok e
    refine wpAny_in_of (kV_is ry) hd dd.mapOf ?_
    rw [← (rel.val k).isSome_eq, ← l]
    exact h _ (I.tok _)
  . subst ey
    cases (show u = Value.ref b from ry)
    obtain ⟨z, hd, xs, rel, dd⟩ := dt_rd I.hok e
    refine wpAny_in_heap (tupleKind_room_in1 hu) (key_of I.hok eb) hd dd ?_
    have q := (rel.val k).isSome_eq
    rw [Option.isSome_map] at q
    rw [← q, ← l]
    exact h _ (I.tok _)
theorem d_write {h' : Heap} {t' : Nat} {ob : HO} (I : Inv X pins σ H s) (mu : Mut (H a)) (hs : Heap.SameBut a s.heap h') (he : ∃ q, h'.get? a = some q) (new : ObjOk X.prog X.w (upd H a ob) h' a ob) :
    Inv X pins σ (upd H a ob) { s with heap := h', toks := t' } :=
  I.write (x := a) (e := a) mu (.inl rfl) (fun b q hb z => (hs.2 b hb).trans z) he new
end
section
variable {X : Cx} {pins : List (Addr × Obj)} {σ : St} {H : Hp} {s : Shared} {a : Addr} {kvs : List (Key × V)} {k : Key} {u : Value} {A : Around} {E : Value -> Shared -> Prop}
theorem d_len {Q : Value -> Shared -> Prop} (I : Inv X pins σ H s) (e : Rd H a (.dK kvs)) (h : ∀ t s', Inv X pins σ H s' -> Q (.int kvs.length t) s') : wpAny (model X.prog X.w) A (call (.builtin "len") [.ref a]) Q E s := by
  obtain ⟨z, hd, vs, rel, dd⟩ := dk_rd I.hok e
  refine call_len_dict hd dd (by rw [← rel.length]; rw [sizeLine_eq] at z; omega) ?_
  rw [← rel.length]
  exact h _ _ (I.tok _)
end
def NoSl (i : Expr) : Prop := ∀ ov iv, subscripted i false ov iv = operate [ov, iv] (getItem ov iv)
theorem subD_of {prog : Program} {w : World} {A : Around} {E : Value -> Shared -> Prop} {s : Shared} {env : Env} {value slice : Expr} {pos : Pos} {T id : String} {Q : Value -> Shared -> Prop}
    (hl : typeLookup (.type T) "__getitem__" = pure (some (.builtin id))) (hs : NoSl slice)
    (h : wpAny (model prog w) A (eval value env) (fun o s₁ => wpAny (model prog w) A (eval slice env) (fun i s₂ => s₂.TypeIs o T /\ wpAny (model prog w) A (getItem o i) Q E s₂) E s₁) E s) :
    wpAny (model prog w) A (eval (.Subscript value slice pos) env) Q E s := by
  refine Subscript_ (wpAny_mono h (fun o s₁ h₁ => wpAny_mono h₁ (fun i s₂ h₂ => ?_) fun _ _ x => x) fun _ _ x => x)
  obtain ⟨hT, h₂⟩ := h₂
  unfold subscriptTail
  refine wpAny_bind ?_
  rw [getitemInPython_of_ne hT.not_modules]
  refine wpAny_bind (wpAny_specialOf hT hl ?_)
  have fin : wpAny (model prog w) A (subscripted slice false o i) (fun r s₃ => wpAny (model prog w) A (letTemporaryGo value o r >>= fun _ => pure r) Q E s₃) E s₂ := by
    rw [hs o i]
    exact wpAny_operating (wpAny_mono h₂ (fun r s₃ h₃ => wpAny_bind (wpAny_letTemporaryGo (wpAny_pure h₃))) fun _ _ x => x)
  first
    | exact wpAny_pure (wpAny_bind fin)
    | exact wpAny_bind (wpAny_pure (wpAny_bind fin))
    | exact wpAny_bind fin
theorem dict_typeIs {X : Cx} {pins : List (Addr × Obj)} {σ : St} {H : Hp} {s : Shared} {a : Addr} {y : V} {o : Option V} (I : Inv X pins σ H s) (g : DGet H a y o) : s.TypeIs (.ref a) "dict" := by
  rcases g with ⟨kvs, k, e, _, _⟩ | ⟨kvs, k, b, e, _, _, _⟩
  . obtain ⟨_, _, vs, _, dd⟩ := dk_rd I.hok e
    exact dd.typeIs
  . obtain ⟨_, _, xs, _, dd⟩ := dt_rd I.hok e
    exact dd.typeIs
def tDGet (td ty : TE) : TE := fun σ H Q => td σ H fun x H1 => ty σ H1 fun y H2 => ∃ a v, x = .ref a /\ DGet H2 a y (some v) /\ Q v H2
def tDIn (ty td : TE) : TE := fun σ H Q => ty σ H fun y H1 => td σ H1 fun x H2 => ∃ a o, x = .ref a /\ DGet H2 a y o /\ Q (.bl o.isSome) H2
section
variable {X : Cx} {o i e value : Expr} {pos pos' tpos : Pos} {td ty tv : TE}
theorem pe_dget (hu : X.A.units + 1 < cLine) (ho : PE X o td) (hi : PE X i ty) (hs : NoSl i) : PE X (.Subscript o i pos) (tDGet td ty) := by
  intro pins s σ H Q I h
  refine subD_of PySem.F.slot_dict_getitem.lookup hs (thn (ho pins s σ H _ I h) fun u s1 ⟨x, H1, I1, rx, q1⟩ => thn (hi pins s1 σ H1 _ I1 q1) fun iv s2 hhh => ?_)
  obtain ⟨y, H2, I2, ry, a, v, ex, g, q2⟩ := hhh
  subst ex
  obtain rfl : u = Value.ref a := rx
  exact ⟨dict_typeIs I2 g, d_getItem hu I2 g ry fun w' s3 I3 rw' => ⟨v, H2, I3, rw', q2⟩⟩
theorem pc_din (hu : X.A.units + 1 < cLine) (hi : PE X i ty) (ho : PE X o td) : PC X .In i o (tDIn ty td) := by
  intro pins s σ H Q I h
  refine thn (hi pins s σ H _ I h) fun iv s1 ⟨y, H1, I1, ry, q1⟩ => thn (ho pins s1 σ H1 _ I1 q1) fun u s2 hhh => ?_
  obtain ⟨x, H2, I2, rx, a, ov, ex, g, q2⟩ := hhh
  subst ex
  obtain rfl : u = Value.ref a := rx
  exact d_in hu I2 g ry fun s3 I3 => ⟨.bl ov.isSome, H2, I3, rfl, q2⟩
end
theorem dt_empty {P : Program} {w : World} {H : Hp} (h : Heap) (hb : sysModules < h.objs.size) : ObjOk P w H (h.push { cls := .type "dict", data := .dict #[] }) h.objs.size (.dT []) :=
  ⟨Nat.zero_le _, beq_eq_false_iff_ne.mpr (Ne.symm (Nat.ne_of_lt hb)), [], .nil, _, #[], 0, Heap.get?_push_size _ rfl, ⟨rfl, rfl, rfl⟩, rfl, rfl, List.nodup_nil⟩
end L2
end
section
set_option Elab.async false
set_option linter.all false
set_option maxRecDepth 100000
set_option maxHeartbeats 4000000
set_option autoImplicit false
namespace Sm
open PySem PySem.Spec PyProof.Rows L2
abbrev St := L2.St
section
variable {prog : Program} {w : World} {A : Around} {R : Result -> Shared -> Prop} {s : Shared}
theorem compLoop_own {elt target iter : Expr} {ifs : List Expr} {scope : Scope} {pos : Pos} {it acc : Value} {env : Env} (I : Nat -> Shared -> Prop)
    (turn : ∀ n s, I n s -> wpAny (model prog w) A (pyNext it) (fun r s₁ => match r with
      | none => R (.ok .next) s₁
      | some v => wpAny (model prog w) A (letOwnedTupleGo target it v) (fun _ s₁' => wpAny (model prog w) A (assign target env v) (fun _ s₂ =>
          wpAny (model prog w) A (forIn ifs true fun c r => if r = true then do let ok ← isTrue c env (eval c env); pure (ForInStep.yield ok) else pure (ForInStep.yield r)) (fun ok s₃ =>
            if ok = true then wpAny (model prog w) A (eval elt env) (fun x s₄ =>
              wpAny (model prog w) A (call (.builtin "list.append") [acc, x]) (fun _ s₅ => ∃ m, m < n /\ I m s₅) (fun _ _ => False) s₄) (fun _ _ => False) s₃
            else ∃ m, m < n /\ I m s₃) (fun _ _ => False) s₂) (fun _ _ => False) s₁') (fun _ _ => False) s₁) (fun _ _ => False) s)
    (n : Nat) (h : I n s) : codeAny (model prog w) A (.compLoop (.ListComp elt [⟨target, iter, ifs, 0⟩] scope pos) 0 it acc env) R s := by
  refine codeAny_loop rfl I (fun n s hI => ?_) n h
  show wpAny _ A ((compTurn (.ListComp elt [⟨target, iter, ifs, 0⟩] scope pos) 0 it acc env).onRaise (fun x => do noteFrame x env; theTreesLotGoes x)) _ _ s
  refine wpAny_noted ?_
  rw [compTurn_list]
  refine wpAny_bind (wpAny_standAt (wpAny_bind (wpAny_mono (turn n s hI) (fun r s₁ h₁ => ?_) fun _ _ h' => h'.elim)))
  cases r with
  | none => exact wpAny_pure h₁
  | some v =>
    refine wpAny_bind (wpAny_mono h₁ (fun _ s₁' h₁' => ?_) fun _ _ h' => h'.elim)
    refine wpAny_bind (wpAny_mono h₁' (fun _ s₂ h₂ => wpAny_bind (wpAny_mono h₂ (fun ok s₃ h₃ => ?_) fun _ _ h' => h'.elim)) fun _ _ h' => h'.elim)
    cases ok with
    | false => exact wpAny_pure ⟨rfl, h₃⟩
    | true =>
      exact wpAny_bind (wpAny_bind (wpAny_mono h₃ (fun x s₄ h₄ => wpAny_bind (wpAny_mono h₄ (fun _ s₅ h₅ => wpAny_pure (wpAny_pure ⟨rfl, h₅⟩)) fun _ _ h' => h'.elim)) fun _ _ h' => h'.elim))
end
noncomputable def blkCx (X : Cx) (s₃ : Shared) (H₃ : Hp) (scope : Scope) (cl : List (Str × Addr)) (N' : List Str) (fp : List Addr) : Cx :=
  { X with N := N', s₀ := s₃, H₀ := H₃, env := compEnvC scope cl s₃.heap.objs.size X.env, outer := X.stack, stack := X.stack, ex := fp, fn := fun _ => false, pn := [], xe := fun _ _ => False }
structure Blk (X X' : Cx) (N' : List Str) (sc' : Scope) : Prop where
  prog : X'.prog = X.prog
  w : X'.w = X.w
  K : X'.K = X.K
  mg : X'.mg = X.mg
  base : X'.base = X.base
  A : X'.A = X.A
  calm : X'.calm = X.calm
  N : X'.N = N'
  sc : X'.env.scope = sc'
  xe : X'.xe = fun _ _ => False
structure Clos (X : Cx) (scope : Scope) (cl : List (Str × Addr)) : Prop where
  clo : closureFor scope X.env = pure cl
  sub : ∀ x c, cl.lookup x = some c -> X.env.cells.lookup x = some c
  has : ∀ x, (relabel scope X.env).names.lookup x = some .cell \/ (relabel scope X.env).names.lookup x = some .free -> ∃ c, cl.lookup x = some c
section
variable {X : Cx} {pins : List (Addr × Obj)} {σ : St} {H : Hp} {s₃ : Shared}
theorem blk_ok {scope : Scope} {cl : List (Str × Addr)} {N' : List Str} {fp : List Addr} (I : Inv X pins σ H s₃) (hk : scope.kind = .function) (C : Clos X scope cl) (hfp : ∀ b ∈ fp, FpOk X pins H b) (hlt : ∀ b ∈ fp, b < s₃.heap.objs.size) :
    (blkCx X s₃ H scope cl N' fp).Ok where
  mod := I.ok.mod
  kind := hk
  glob := I.ok.glob
  blt := I.ok.blt
  above := Nat.le_refl _
  inj := fun x y c h1 h2 => I.ok.inj x y c (C.sub x c h1) (C.sub y c h2)
  has := fun x h => C.has x h
  cab := fun x c h => nomatch h
  hd := I.ok.hd
  frames := I.ok.frames
  stk := .inl rfl
  exf := fun b hb => ⟨Nat.ne_of_lt (hlt b hb), fun x c h => (hfp b hb).2.2.2.2.1 x c (C.sub x c h)⟩
  bs := fun b o e => I.bs b o e
  bsz := Nat.le_trans I.ok.bsz I.sz
  noex := fun b o e hb => by
    rcases (hfp b hb).2.2.2.1 with z | z
    . exact I.ok.noex b o e z
    . exact absurd (Nat.lt_of_lt_of_le (Heap.lt_size e) (Nat.le_trans I.ok.bsz z)) (Nat.lt_irrefl _)
  exfs := fun b hb z => by
    rcases List.mem_cons.mp (I.stkSub b z) with q | q
    . exact (hfp b hb).2.1 q
    . exact (hfp b hb).2.2.1 q
  funs := I.stack
  frf := I.stkFree
noncomputable def capS (σ : St) (cap : List Nat) : St := cap.map fun j => σ[j]?.join
theorem blk_inv {scope : Scope} {cl : List (Str × Addr)} {xs : List Str} {cap : List Nat} {capN : List Str} {fp : List Addr} {h₁ : Heap} {tk : Nat} (I : Inv X pins σ H s₃) (hk : scope.kind = .function) (C : Clos X scope cl) (hfp : ∀ b ∈ fp, FpOk X pins H b) (hlt : ∀ b ∈ fp, b < s₃.heap.objs.size)
    (hcap : cap.map (fun j => X.N[j]?) = capN.map some) (hcl : ∀ x ∈ capN, (relabel scope X.env).names.lookup x = some .cell \/ (relabel scope X.env).names.lookup x = some .free)
    (hvis : ∀ x ∈ capN, X.env.scope.names.lookup x = some .cell \/ X.env.scope.names.lookup x = some .free) {m : Str -> Option Value}
    (hns : h₁.Ns s₃.heap.objs.size m) (old : ∀ b o, s₃.heap.get? b = some o -> h₁.get? b = some o) :
    Inv (blkCx X s₃ H scope cl (xs ++ capN) fp) [] (xs.map (fun _ => none) ++ capS σ cap) H { s₃ with heap := h₁, toks := tk } := by
  have hlen : cap.length = capN.length := by simpa using congrArg List.length hcap
  refine ⟨blk_ok I hk C hfp hlt, rfl, I.bare, Un.kept old, ⟨m, hns, fun i x v e1 e2 e3 => ?_⟩, fun x c e => ?_, I.hok.fresh (Nat.le_refl _), fun x c e => I.freeC x c (C.sub x c e), fun p hp => absurd (show p ∈ ([] : List (Addr × Obj)) from hp) (by simp), I.hok.kept old, ?_⟩
  . have e1' : (xs ++ capN)[i]? = some x := e1
    by_cases hi : i < xs.length
    . rw [List.getElem?_append_left (by simpa using hi), List.getElem?_map] at e2
      cases q : xs[i]? with
      | none => rw [q] at e2; cases e2
      | some z => rw [q] at e2; cases e2
    . rw [List.getElem?_append_right (by simpa using hi)] at e2
      rw [List.getElem?_append_right (by omega)] at e1'
      rw [List.length_map] at e2
      generalize i - xs.length = j at e1' e2
      unfold capS at e2
      rw [List.getElem?_map] at e2
      have hc : (cap.map (fun j => X.N[j]?))[j]? = some (some x) := by rw [hcap, List.getElem?_map, e1']; rfl
      rw [List.getElem?_map] at hc
      cases q : cap[j]? with
      | none => rw [q] at e2; cases e2
      | some k =>
        rw [q] at e2 hc
        simp only [Option.map_some] at e2 hc
        have hc' : X.N[k]? = some x := Option.some.inj hc
        have hs : σ[k]? = some (some v) := by
          cases z : σ[k]? with
          | none => rw [z] at e2; cases e2
          | some z' => rw [z] at e2; cases z' with
            | none => cases e2
            | some z'' => cases e2; rfl
        have hx : x ∈ capN := List.mem_of_getElem? e1'
        obtain ⟨m', hm', hl'⟩ := I.loc
        obtain ⟨u, r, l⟩ := hl' k x v hc' hs (by rcases hvis x hx with z | z; exact .inr (.inl z); exact .inr (.inr z))
        refine ⟨u, r, .inr ⟨hcl x hx, ?_⟩⟩
        obtain ⟨c, hcc⟩ := C.has x (hcl x hx)
        refine ⟨c, hcc, ?_⟩
        rcases l with ⟨z, _⟩ | ⟨_, c', e', z⟩
        . have z' : X.env.scope.names.lookup x = some .local := z
          rcases hvis x hx with y | y <;> (rw [z'] at y; cases y)
        . rw [C.sub x c hcc] at e'; cases e'
          obtain ⟨o, ho, hd⟩ := z
          exact ⟨o, old _ _ ho, hd⟩
  . obtain ⟨v, o, ho, hd⟩ := I.cell x c (C.sub x c e)
    exact ⟨v, o, old _ _ ho, hd⟩
  . show (xs.map (fun _ => none) ++ capS σ cap).length = (xs ++ capN).length
    unfold capS
    rw [List.length_append, List.length_append, List.length_map, List.length_map, hlen]
end
def Wk (σ1 σ2 : St) : Prop := σ1.length = σ2.length /\ ∀ (i : Nat) v, σ1[i]? = some (some v) -> σ2[i]? = some (some v)
def tComp (wi : TI) (σb : St -> St) (g : TG) (tt : TT) (te : TE) : TE := fun σ H Q => wi σ H fun J H1 => ∀ D, H1 D = none -> ∃ W : Nat -> Nat -> Hp -> Prop, (∃ m, W 0 m (upd H1 D (.lst []))) /\ ∀ i m H, W i m H ->
  (J.stop i H /\ Q (.ref D) H) \/ (J.go i H /\ ∃ N : Hp -> Prop, (∀ H', N H' -> ∃ m', m' < m /\ W (i + 1) m' H') /\ ∀ x H', J.yld i H x H' -> g x (σb σ) H' fun σ2 H2 => Wk (σb σ) σ2 /\ tt σ2 H2 fun b H3 =>
    if b = true then te σ2 H3 fun y H4 => ∃ acc, H4 D = some (.lst acc) /\ acc.length < sizeLine /\ N (upd H4 D (.lst (acc ++ [y]))) else N H3)
def PTs (X : Cx) (ifs : List Expr) (t : TT) : Prop :=
  ∀ (pins : List (Addr × Obj)) (s : Shared) (σ : St) (H : Hp) (Q : Bool -> Hp -> Prop), Inv X pins σ H s -> t σ H Q ->
    wpAny (model X.prog X.w) X.A (forIn ifs true fun c r => if r = true then do let ok ← isTrue c X.env (eval c X.env); pure (ForInStep.yield ok) else pure (ForInStep.yield r)) (TP X pins σ Q) X.xe s
theorem pts_nil {X : Cx} : PTs X [] (fun _ H Q => Q true H) := fun _ _ _ H _ I h => wpAny_tests_nil ⟨H, I, h⟩
theorem pts_one {X : Cx} {c : Expr} {t : TT} (h : PT X c t) : PTs X [c] t := fun pins s σ H Q I q => wpAny_tests_one (h pins s σ H Q I q)
structure CompFacts (X : Cx) (scope : Scope) (xs capN : List Str) (cap : List Nat) : Prop where
  kind : scope.kind = .function
  nocell : ∀ y ∈ scope.names, y.2 ≠ .cell
  names : ∀ y ∈ scope.names, y.2 = .local -> scope.names.lookup y.1 = some .local
  clos : ∃ cl, Clos X scope cl
  hcap : cap.map (fun j => X.N[j]?) = capN.map some
  hcl : ∀ x ∈ capN, (relabel scope X.env).names.lookup x = some .cell \/ (relabel scope X.env).names.lookup x = some .free
  hvis : ∀ x ∈ capN, X.env.scope.names.lookup x = some .cell \/ X.env.scope.names.lookup x = some .free
section
variable {X : Cx} {tg elt iter : Expr} {ifs : List Expr} {scope : Scope} {pos : Pos} {wi : TI} {g : TG} {tt : TT} {te : TE} {xs capN : List Str} {cap : List Nat}
theorem comp_run {use : Option (Value -> Sem Unit)} {Q : Value -> Shared -> Prop} {QQ : VK} (hc : X.calm = true) (F : CompFacts X scope xs capN cap) (hi : PI X tg iter wi)
    (hg : ∀ X', Blk X X' (xs ++ capN) (relabel scope X.env) -> PG X' tg g) (ht : ∀ X', Blk X X' (xs ++ capN) (relabel scope X.env) -> PTs X' ifs tt) (he : ∀ X', Blk X X' (xs ++ capN) (relabel scope X.env) -> PE X' elt te)
    (hs : ∀ x, foldedSetIterable iter X.env x = pure x)
    {pins : List (Addr × Obj)} {s : Shared} {σ : St} {H : Hp} (I : Inv X pins σ H s) (h : tComp wi (fun σ => xs.map (fun _ => none) ++ capS σ cap) g tt te σ H QQ) {ps : Pos}
    (fin : ∀ (s' : Shared) (H' : Hp) (D C : Addr) (m : Str -> Option Value), Inv X pins σ H' s' -> s'.heap.Ns C m -> (H' C = none /\ X.s₀.heap.objs.size <= C /\ C ≠ X.env.locals /\ (∀ x c, X.env.cells.lookup x = some c -> c ≠ C) /\ ∀ p ∈ X.pn ++ pins, p.1 ≠ C) ->
      QQ (.ref D) H' -> compPost (model X.prog X.w) X.A X.xe use Q (.ref D) C (.ok .next) s') :
    wpAny (model X.prog X.w) X.A (comprehension (.ListComp elt [⟨tg, iter, ifs, 0⟩] scope pos) scope X.env ps (newList []) false (eval iter X.env) use) Q X.xe s := by
  obtain ⟨cl, C⟩ := F.clos
  refine wpAny_comprehension_free rfl hs C.clo F.kind F.names (thn (hi pins s σ H _ I h) fun v s1 h1 => thn h1 fun itv s2 h2 => ?_)
  obtain ⟨it, fp, tn, J, H2, e, I2, T, st2, f2, h3⟩ := h2
  subst e
  refine wpAny_newObj_type ?_
  obtain ⟨W, ⟨m0, w0⟩, turn⟩ := h3 s2.heap.objs.size I2.fresh
  have I3 : Inv X pins σ (upd H2 s2.heap.objs.size (.lst [])) { s2 with heap := s2.heap.push { cls := .type "list", dict := none, data := .seq ([] : List Value).toArray } } := I2.lnew (t' := s2.toks) .nil (Nat.zero_le _)
  generalize hH3 : upd H2 s2.heap.objs.size (HO.lst []) = H3 at I3 w0
  generalize hs3 : ({ s2 with heap := s2.heap.push { cls := .type "list", dict := none, data := .seq ([] : List Value).toArray } } : Shared) = s3 at I3
  have hD3 : H3 s2.heap.objs.size = some (.lst []) := by rw [← hH3]; exact upd_same
  have kp3 : ∀ b o, s2.heap.get? b = some o -> s3.heap.get? b = some o := fun b o e => by rw [← hs3]; exact Heap.get?_push_of_some _ e
  have hDlt : s2.heap.objs.size < s3.heap.objs.size := by rw [← hs3]; show _ < (s2.heap.push _).objs.size; rw [Heap.size_push]; exact Nat.lt_succ_self _
  have flt : ∀ b ∈ fp, b < s2.heap.objs.size := fun b hb => by
    obtain ⟨o, e, _⟩ := T.obj 0 _ st2 b hb
    exact Heap.lt_size e
  have flt3 : ∀ b ∈ fp, b < s3.heap.objs.size := fun b hb => Nat.lt_trans (flt b hb) hDlt
  have f3 : ∀ b ∈ fp, FpOk X pins H3 b := fun b hb => ⟨by rw [← hH3, upd_ne (Nat.ne_of_lt (flt b hb))]; exact (f2 b hb).1, (f2 b hb).2⟩
  have st3 : tn 0 s3.heap := T.keep 0 _ _ st2 fun b hb o e => kp3 b o e
  show wpAny _ _ (newFunctionEnv scope X.env.globals cl [] X.env.qual none .none (some X.env)) _ _ s3
  refine wpAny_newFunctionEnv F.nocell (by intro y hy; simp at hy) (fun h₁ hns₁ hsb₁ => ?_) F.kind
  have old : ∀ b o, s3.heap.get? b = some o -> h₁.get? b = some o := fun b o e => hsb₁.extBut b o (Nat.ne_of_lt (Heap.lt_size e)) (Heap.get?_push_of_some _ e)
  have B : Blk X (blkCx X s3 H3 scope cl (xs ++ capN) fp) (xs ++ capN) (relabel scope X.env) := ⟨rfl, rfl, rfl, rfl, rfl, rfl, rfl, rfl, rfl, rfl⟩
  have J0 : Inv (blkCx X s3 H3 scope cl (xs ++ capN) fp) [] (xs.map (fun _ => none) ++ capS σ cap) H3 { s3 with heap := h₁, toks := s3.toks + ([] : List (Str × Value)).length } :=
    blk_inv I3 F.kind C f3 flt3 F.hcap F.hcl F.hvis hns₁ old
  have st4 : tn 0 h₁ := T.keep 0 _ _ st3 fun b hb o e => old b o e
  have hg' := hg _ B
  have ht' := ht _ B
  have he' := he _ B
  generalize hX' : blkCx X s3 H3 scope cl (xs ++ capN) fp = X' at B J0 hg' ht' he'
  have hex : X'.ex = fp := by rw [← hX']; rfl
  have hloc : X'.env.locals = s3.heap.objs.size := by rw [← hX']; rfl
  have henv : X'.env = compEnvC scope cl s3.heap.objs.size X.env := by rw [← hX']; rfl
  have hpn : X'.pn = [] := by rw [← hX']; rfl
  have hxe : X'.xe = fun _ _ => False := by rw [← hX']; rfl
  have hH0 : X'.H₀ = H3 := by rw [← hX']; rfl
  have hs0 : X'.s₀ = s3 := by rw [← hX']; rfl
  have hfs : X'.fs = frs X.stack := by rw [← hX']; rfl
  have hP : X'.prog = X.prog := B.prog
  have hw : X'.w = X.w := B.w
  have hA : X'.A = X.A := B.A
  have nfs : ∀ b ∈ fp, b ∉ X'.fs := fun b hb z => J0.ok.exfs b (by rw [hex]; exact hb) z
  have stat : ∀ {pn' : List (Addr × Obj)} {H' : Hp}, (∀ b ∈ fp, H' b = none) -> (∀ p ∈ pn', p.1 ∉ fp) -> ∀ b ∈ fp, FpOk X' pn' H' b := fun {pn' H'} hn hp b hb =>
    ⟨hn b hb, by rw [hloc]; exact Nat.ne_of_lt (flt3 b hb), nfs b hb, .inl (by rw [hex]; exact hb), fun x c e => (J0.ok.exf b (by rw [hex]; exact hb)).2 x c e, fun p hp' z => by
      rw [hpn, List.nil_append] at hp'
      exact hp p hp' (z ▸ hb)⟩
  have loop : ∀ s₀' : Shared, Inv X' [] (xs.map (fun _ => none) ++ capS σ cap) H3 s₀' -> tn 0 s₀'.heap ->
      codeAny (model X.prog X.w) X.A (.compLoop (.ListComp elt [⟨tg, iter, ifs, 0⟩] scope pos) 0 (.ref it) (.ref s2.heap.objs.size) X'.env) (compPost (model X.prog X.w) X.A X.xe use Q (.ref s2.heap.objs.size) s3.heap.objs.size) s₀' := by
    intro s₀' J1 st5
    refine compLoop_own (fun n s' => ∃ i H', Inv X' [] (xs.map (fun _ => none) ++ capS σ cap) H' s' /\ tn i s'.heap /\ (∀ b ∈ fp, H' b = none) /\ W i n H') ?_ m0 ⟨0, H3, J1, st5, fun b hb => (f3 b hb).1, w0⟩
    rintro n s4 ⟨i, H4, J4, st4, fr4, w4⟩
    rcases turn i n H4 w4 with ⟨stop, qn⟩ | ⟨go, N, hN, step⟩
    . have hd := T.done X' B.prog B.w B.K (B.calm.trans hc) i [] s4 _ H4 (fun _ _ => False) J4 (stat fr4 (by simp)) st4 stop
      rw [hA] at hd
      refine thn hd fun r s5 hhh => ?_
      obtain ⟨hr, J5⟩ := hhh
      subst hr
      have un : Un (frs X.stack) fp H3 H4 s3.heap s5.heap := by
        have := J5.base
        rw [hfs, hex, hH0, hs0] at this
        exact this
      have ho : s5.os = s3.os := by rw [J5.os, hs0]
      have hok5 : HOk X.prog X.w H4 s5.heap := by have := J5.hok; rw [hP, hw] at this; exact this
      have I5 : Inv X pins σ H4 s5 := I3.call' ho un hok5 J5.bare fun b hb => ⟨(f3 b hb).2.2.2.1, (f3 b hb).2.1, (f3 b hb).2.2.2.2.1, (f3 b hb).2.2.2.2.2⟩
      obtain ⟨m5, hm5, _⟩ := J5.loc
      rw [hloc] at hm5
      refine fin s5 H4 _ s3.heap.objs.size m5 I5 hm5 ⟨by have := J5.free; rw [hloc] at this; exact this, I3.sz, Nat.ne_of_gt I3.lt, fun x c e z => ?_, fun p hp z => ?_⟩ qn
      . obtain ⟨v, q⟩ := I3.cell x c e
        exact absurd q.lt (by rw [z]; exact Nat.lt_irrefl _)
      . exact absurd (Heap.lt_size (I3.pin p hp).1) (by rw [z]; exact Nat.lt_irrefl _)
    . have hd := T.item X' B.prog B.w B.K (B.calm.trans hc) i [] s4 _ H4 (fun _ _ => False) J4 (stat fr4 (by simp)) st4 go
      rw [hA] at hd
      refine thn hd fun r s5 hhh => ?_
      obtain ⟨u, hr, h5⟩ := hhh
      subst hr
      refine thn h5 fun _ s6 hhh => ?_
      obtain ⟨x, H6, J6, r6, y6, st6, fr6⟩ := hhh
      have J6' := J6.pinned (stat fr6 (by simp)) (T.obj _ _ st6)
      rw [List.nil_append] at J6'
      have hgx := hg' _ s6 _ H6 x u _ J6' r6 (step x H6 y6)
      rw [hP, hw, hA, hxe] at hgx
      refine thn hgx fun _ s7 hhh => ?_
      obtain ⟨σ7, H7, J7, wk7, q7⟩ := hhh
      have htx := ht' _ s7 σ7 H7 _ J7 q7
      rw [hP, hw, hA, hxe] at htx
      refine thn htx fun ok s8 hhh => ?_
      obtain ⟨H8, J8, q8⟩ := hhh
      have again : ∀ {H9 : Hp} {s9 : Shared}, Inv X' (pinsAt fp s6.heap) σ7 H9 s9 -> N H9 -> (∃ m, m < n /\ ∃ i H', Inv X' [] (xs.map (fun _ => none) ++ capS σ cap) H' s9 /\ tn i s9.heap /\ (∀ b ∈ fp, H' b = none) /\ W i m H') := fun {H9 s9} J9 n9 => by
        obtain ⟨m', hm, w9⟩ := hN H9 n9
        have pin9 : ∀ b ∈ fp, ∀ o, s6.heap.get? b = some o -> s9.heap.get? b = some o /\ H9 b = none := fun b hb o e => by
          have := J9.pin (b, o) (List.mem_append_right _ (mem_pinsAt hb e))
          exact ⟨this.1, this.2.1⟩
        refine ⟨m', hm, i + 1, H9, (J9.weak wk7.1 wk7.2).pins_of (fun p hp => nomatch hp), T.keep _ _ _ st6 fun b hb o e => (pin9 b hb o e).1, fun b hb => ?_, w9⟩
        obtain ⟨o, e, d⟩ := T.obj _ _ st6 b hb
        exact (pin9 b hb o e).2
      cases ok with
      | false =>
        rw [if_neg (by decide)] at q8 ⊢
        exact again J8 q8
      | true =>
        rw [if_pos rfl] at q8 ⊢
        have hex := he' _ s8 σ7 H8 _ J8 q8
        rw [hP, hw, hA, hxe] at hex
        refine thn hex fun y s9 hhh => ?_
        obtain ⟨x9, H9, J9, r9, acc, ha, hz, n9⟩ := hhh
        have hap := mt_append (X := X') _ s9 σ7 H9 (.ref s2.heap.objs.size) [x9] (.ref s2.heap.objs.size) [y] (fun _ H' => N H') J9 rfl (.cons r9 .nil) ⟨_, acc, x9, rfl, rfl, ha, hz, n9⟩
        rw [hP, hw, hA, hxe] at hap
        exact thn hap fun _ s10 ⟨_, H10, J10, _, n10⟩ => again J10 n10
  have e0 : ({ (newEnv scope s3.heap.objs.size X.env.globals cl X.env.qual none .none (some X.env) builtinsNs : Env) with scope := relabel scope X.env } : Env) = X'.env := by rw [henv]; rfl
  have e1 : (newEnv scope s3.heap.objs.size X.env.globals cl X.env.qual none .none (some X.env) builtinsNs : Env).locals = s3.heap.objs.size := rfl
  show codeAny _ _ (.compStart _ 0 (.ref it) (.ref s2.heap.objs.size) ({ (newEnv scope s3.heap.objs.size X.env.globals cl X.env.qual none .none (some X.env) builtinsNs : Env) with scope := relabel scope X.env } : Env)) (compPost _ _ _ _ _ _ s3.heap.objs.size) _
  rw [e0]
  exact codeAny_compStart_list (loop _ J0 st4) (T.self _ 0 _ _ _ st4 (loop _ J0 st4))
theorem pe_comp (hc : X.calm = true) (F : X.Ok -> CompFacts X scope xs capN cap) (hi : PI X tg iter wi)
    (hg : ∀ X', Blk X X' (xs ++ capN) (relabel scope X.env) -> PG X' tg g) (ht : ∀ X', Blk X X' (xs ++ capN) (relabel scope X.env) -> PTs X' ifs tt) (he : ∀ X', Blk X X' (xs ++ capN) (relabel scope X.env) -> PE X' elt te)
    (hs : autoParam (∀ x, foldedSetIterable iter X.env x = pure x) L2.ax5._auto_1) : PE X (.ListComp elt [⟨tg, iter, ifs, 0⟩] scope pos) (tComp wi (fun σ => xs.map (fun _ => none) ++ capS σ cap) g tt te) := by
  intro pins s σ H Q I h
  rw [eval_ListComp]
  refine comp_run (use := none) hc (F I.ok) hi hg ht he hs I h fun s' H' D C m I' hm ⟨c1, c2, c3, c4, c5⟩ q => ?_
  refine ⟨m, hm, fun h' sb => ?_⟩
  exact ⟨.ref D, H', I'.turned (t' := s'.toks) (fun b o hb e => (sb.2 b hb).trans e) c1 c3 (.inr c2) c4 c5, rfl, q⟩
theorem ps_setComp {i : Nat} {y : Str} {py spos : Pos} (hc : X.calm = true) (F : X.Ok -> CompFacts X scope xs capN cap) (hi : PI X tg iter wi)
    (hg : ∀ X', Blk X X' (xs ++ capN) (relabel scope X.env) -> PG X' tg g) (ht : ∀ X', Blk X X' (xs ++ capN) (relabel scope X.env) -> PTs X' ifs tt) (he : ∀ X', Blk X X' (xs ++ capN) (relabel scope X.env) -> PE X' elt te)
    (hN : X.N.Nodup) (hy : X.N[i]? = some y) (hl : X.env.scope.names.lookup y = some .local) (hsw : swapsWith (.ListComp elt [⟨tg, iter, ifs, 0⟩] scope pos) (some (.Name y py)) spos.line X.env = pure true)
    (hs : autoParam (∀ x, foldedSetIterable iter X.env x = pure x) L2.ax5._auto_1) : PS X (.Assign [.Name y py] (.ListComp elt [⟨tg, iter, ifs, 0⟩] scope pos) spos) (tAsg (tComp wi (fun σ => xs.map (fun _ => none) ++ capS σ cap) g tt te) (gName i)) := by
  intro pins s σ H D0 I h
  rw [exec_Assign_Name_used _ _ _ _ hsw]
  refine wpAny_bind (wpAny_standAt (wpAny_bind ?_))
  show wpAny _ _ (do let _ ← comprehension (.ListComp elt [⟨tg, iter, ifs, 0⟩] scope pos) scope X.env _ (newList []) false (eval iter X.env) (some (assign (.Name y py) X.env))) _ _ s
  refine wpAny_bind (wpAny_mono (comp_run (use := some (assign (.Name y py) X.env)) (Q := fun _ s' => SP X pins D0 .next s') hc (F I.ok) hi hg ht he hs I h fun s' H' D C m I' hm ⟨c1, c2, c3, c4, c5⟩ q => ?_) (fun _ s' hq => wpAny_pure (wpAny_pure hq)) fun _ _ e => e)
  show wpAny _ _ (assign (.Name y py) X.env (.ref D)) _ _ s'
  refine wpAny_assign_Name (store_ok2 I' hN hy (.inl hl) (v := .ref D) rfl (fun s'' I'' ⟨a, sa, ea⟩ => ?_) (.inr hl))
  have haC : a ≠ C := by
    rcases ea with z | z
    . rw [z]; exact Ne.symm c3
    . exact c4 _ _ z
  refine ⟨m, hm.sameBut sa (Ne.symm haC), fun h' sb => ?_⟩
  exact ⟨_, H', I''.turned (t' := s''.toks) (fun b o hb e => (sb.2 b hb).trans e) c1 c3 (.inr c2) c4 c5, q⟩
end
end Sm
end
section
set_option Elab.async false
set_option linter.all false
set_option maxRecDepth 100000
set_option maxHeartbeats 4000000
set_option autoImplicit false
namespace Sm
open PySem PySem.Spec PyProof.Rows L2
inductive Res (α : Type) where
  | ok (a : α)
  | exc (c : Str)
  | no
noncomputable def Res.bind {α β : Type} : Res α -> (α -> Res β) -> Res β
  | .ok a, k => k a
  | .exc c, _ => .exc c
  | .no, _ => .no
noncomputable def ofO {α : Type} : Option α -> Res α
  | some a => .ok a
  | none => .no
inductive Sl where
  | un
  | sh (d : PyData)
  | ow (d : PyData)
  | fd (kvs : List (PyData × PyData))
abbrev Dn := List Sl
mutual
noncomputable def Rep (G : Hp) : PyData -> V -> Prop
  | .none, v => v = .non
  | .bool b, v => v = .bl b
  | .int i, v => v = .int i
  | .str x, v => v = .str x /\ PyData.strOk x = true /\ x.length <= sizeLine
  | .list ds, v => ∃ a xs, v = .ref a /\ Rd G a (.lst xs) /\ RepL G ds xs
  | .tuple ds, v => ∃ a xs, v = .ref a /\ G a = some (.tup xs) /\ RepL G ds xs
  | .dict _, _ => False
noncomputable def RepL (G : Hp) : List PyData -> List V -> Prop
  | [], xs => xs = []
  | d :: ds, xs => ∃ x r, xs = x :: r /\ Rep G d x /\ RepL G ds r
end
theorem Rd.mono {G G' : Hp} (h : Same G G') {a : Addr} {u : HO} (r : Rd G a u) : Rd G' a u := by
  rcases r with r | ⟨o, r⟩
  . exact .inl (h _ _ r)
  . exact .inr ⟨o, h _ _ r⟩
mutual
theorem Rep.mono {G G' : Hp} (h : Same G G') : ∀ {d : PyData} {v : V}, Rep G d v -> Rep G' d v
  | .none, _, r => r
  | .bool _, _, r => r
  | .int _, _, r => r
  | .str _, _, r => r
  | .list _, _, r => by obtain ⟨a, xs, e, q, l⟩ := r; exact ⟨a, xs, e, Rd.mono h q, RepL.mono h l⟩
  | .tuple _, _, r => by obtain ⟨a, xs, e, q, l⟩ := r; exact ⟨a, xs, e, h _ _ q, RepL.mono h l⟩
  | .dict _, _, r => r.elim
theorem RepL.mono {G G' : Hp} (h : Same G G') : ∀ {ds : List PyData} {xs : List V}, RepL G ds xs -> RepL G' ds xs
  | [], _, r => r
  | _ :: _, _, r => by obtain ⟨x, t, e, q, l⟩ := r; exact ⟨x, t, e, Rep.mono h q, RepL.mono h l⟩
end
mutual
theorem Rep.lay {G : Hp} : ∀ {d : PyData} {v : V}, Rep G d v -> d.canLay0 = true
  | .none, _, r => rfl
  | .bool _, _, r => rfl
  | .int _, _, r => rfl
  | .str _, _, r => r.2.1
  | .list _, _, r => by obtain ⟨a, xs, e, q, l⟩ := r; exact RepL.lay l
  | .tuple _, _, r => by obtain ⟨a, xs, e, q, l⟩ := r; exact RepL.lay l
  | .dict _, _, r => r.elim
theorem RepL.lay {G : Hp} : ∀ {ds : List PyData} {xs : List V}, RepL G ds xs -> PyData.canLayAll0 ds = true
  | [], _, r => rfl
  | _ :: _, _, r => by
    obtain ⟨x, t, e, q, l⟩ := r
    rw [PyData.canLayAll0, Rep.lay q, RepL.lay l]; rfl
end
section
variable {G : Hp}
theorem RepL.cons {d : PyData} {ds : List PyData} {x : V} {xs : List V} (h : Rep G d x) (t : RepL G ds xs) : RepL G (d :: ds) (x :: xs) := ⟨x, xs, rfl, h, t⟩
theorem RepL.length : ∀ {ds : List PyData} {xs : List V}, RepL G ds xs -> ds.length = xs.length
  | [], _, r => by cases (show _ = _ from r); rfl
  | d :: ds, _, r => by obtain ⟨x, t, rfl, q, l⟩ := r; simp [RepL.length l]
theorem RepL.get : ∀ {ds : List PyData} {xs : List V} {i : Nat} {d : PyData}, RepL G ds xs -> ds[i]? = some d -> ∃ x, xs[i]? = some x /\ Rep G d x
  | [], _, _, _, _, e => by simp at e
  | d :: ds, _, 0, _, r, e => by obtain ⟨x, t, rfl, q, l⟩ := r; simp at e; subst e; exact ⟨x, rfl, q⟩
  | d :: ds, _, i + 1, _, r, e => by
    obtain ⟨x, t, rfl, q, l⟩ := r
    obtain ⟨y, h1, h2⟩ := RepL.get (i := i) l (by simpa using e)
    exact ⟨y, by simpa using h1, h2⟩
theorem RepL.append : ∀ {ds es : List PyData} {xs ys : List V}, RepL G ds xs -> RepL G es ys -> RepL G (ds ++ es) (xs ++ ys)
  | [], _, _, _, r, q => by cases (show _ = _ from r); exact q
  | d :: ds, _, _, _, r, q => by obtain ⟨x, t, rfl, h, l⟩ := r; exact RepL.cons h (RepL.append l q)
theorem RepL.drop : ∀ (n : Nat) {ds : List PyData} {xs : List V}, RepL G ds xs -> RepL G (ds.drop n) (xs.drop n)
  | 0, _, _, r => r
  | _ + 1, [], _, r => by cases (show _ = _ from r); exact rfl
  | n + 1, d :: ds, _, r => by obtain ⟨x, t, rfl, h, l⟩ := r; exact RepL.drop n l
theorem RepL.take : ∀ (n : Nat) {ds : List PyData} {xs : List V}, RepL G ds xs -> RepL G (ds.take n) (xs.take n)
  | 0, _, _, r => rfl
  | _ + 1, [], _, r => by cases (show _ = _ from r); exact rfl
  | n + 1, d :: ds, _, r => by obtain ⟨x, t, rfl, h, l⟩ := r; exact RepL.cons h (RepL.take n l)
theorem RepL.rep {ds : List PyData} {xs : List V} (r : RepL G ds xs) : ∀ k : Nat, RepL G (List.replicate k ds).flatten (List.replicate k xs).flatten
  | 0 => rfl
  | k + 1 => by
    rw [List.replicate_succ, List.replicate_succ, List.flatten_cons, List.flatten_cons]
    exact RepL.append r (RepL.rep r k)
theorem RepL.ints (ns : List Int) : RepL G (ns.map PyData.int) (ns.map V.int) := by
  induction ns with
  | nil => exact rfl
  | cons n ns ih => exact RepL.cons rfl ih
end
structure Grow (G H G' H' : Hp) : Prop where
  g : Same G G'
  h : Same H H'
  gh : Same G' H'
  fr : ∀ b o, G' b = some o -> G b = some o \/ H b = none \/ ∃ xs, o = HO.tup xs
theorem Grow.refl {G H : Hp} (h : Same G H) : Grow G H G H := ⟨Same.refl _, Same.refl _, h, fun _ _ e => .inl e⟩
theorem Grow.trans {G H G1 H1 G2 H2 : Hp} (a : Grow G H G1 H1) (b : Grow G1 H1 G2 H2) : Grow G H G2 H2 :=
  ⟨a.g.trans b.g, a.h.trans b.h, b.gh, fun c o e => by
    rcases b.fr c o e with q | q | q
    . exact a.fr c o q
    . exact .inr (.inl (a.h.free q))
    . exact .inr (.inr q)⟩
theorem Same.upd {H : Hp} {p : Addr} {o : HO} (h : H p = none) : Same H (upd H p o) := fun b u e => by
  rw [upd_ne (ne_of_none e h)]; exact e
theorem Grow.new {G H : Hp} {p : Addr} {o : HO} (s : Same G H) (h : H p = none) : Grow G H (upd G p o) (upd H p o) := by
  have hg : G p = none := s.free h
  refine ⟨Same.upd hg, Same.upd h, fun b u e => ?_, fun b u e => ?_⟩
  . by_cases hb : b = p
    . subst hb; rw [upd_same] at e ⊢; exact e
    . rw [upd_ne hb] at e ⊢; exact s _ _ e
  . by_cases hb : b = p
    . subst hb; exact .inr (.inl h)
    . rw [upd_ne hb] at e; exact .inl e
theorem Grow.own {G H : Hp} {p : Addr} {o : HO} (s : Same G H) (h : H p = none) : Grow G H G (upd H p o) :=
  ⟨Same.refl _, Same.upd h, s.trans (Same.upd h), fun _ _ e => .inl e⟩
noncomputable def keyD : Key -> PyData
  | .inl i => .int i
  | .inr x => .str x
noncomputable def liftK (kk : List (Key × V)) : List (List Key × V) := kk.map fun p => ([p.1], p.2)
noncomputable def OwnK (G H : Hp) (a : Addr) : List PyData -> Prop
  | [.dict kvs] => ∃ kk : List (Key × V), H a = some (.dK kk) /\ kvs.map (·.1) = (liftK kk).map (fun p => PyData.tuple (p.1.map keyD)) /\ RepL G (kvs.map (·.2)) ((liftK kk).map (·.2))
  | _ => False
theorem OwnK.keep {G G' H H' : Hp} {a : Addr} {xs : List PyData} (g : Same G G') (e : ∀ o, H a = some o -> H' a = some o) (h : OwnK G H a xs) : OwnK G' H' a xs := by
  unfold OwnK at h ⊢
  split at h
  . obtain ⟨kk, h1, h2, h3⟩ := h
    exact ⟨kk, e _ h1, h2, h3.mono g⟩
  . exact h.elim
theorem OwnK.is {G H : Hp} {a : Addr} {xs : List PyData} (h : OwnK G H a xs) : ∃ o, H a = .some o := by
  unfold OwnK at h
  split at h
  . obtain ⟨kk, h1, _⟩ := h
    exact ⟨_, h1⟩
  . exact h.elim
noncomputable def OwnOk (G H : Hp) (a : Addr) : PyData -> Prop
  | .list ds => ∃ xs, H a = some (.lst xs) /\ RepL G ds xs
  | .dict kvs => ∃ kk : List (List Key × V), H a = some (.dT kk) /\ kvs.map (·.1) = kk.map (fun p => PyData.tuple (p.1.map keyD)) /\ RepL G (kvs.map (·.2)) (kk.map (·.2))
  | .tuple xs => OwnK G H a xs
  | _ => False
def FdOk (G : Hp) (o : Option V) (kvs : List (PyData × PyData)) : Prop := ∃ a ob, ∃ kk : List (List Key × V), o = some (.ref a) /\ G a = some (.frz ob (.dT kk)) /\ kvs.map (·.1) = kk.map (fun p => PyData.tuple (p.1.map keyD)) /\ RepL G (kvs.map (·.2)) (kk.map (·.2))
theorem FdOk.mono {G G' : Hp} {o : Option V} {kvs : List (PyData × PyData)} (g : Same G G') (h : FdOk G o kvs) : FdOk G' o kvs := by
  obtain ⟨a, ob, kk, h1, h2, h3, h4⟩ := h
  exact ⟨a, ob, kk, h1, g _ _ h2, h3, h4.mono g⟩
noncomputable def SlOk (G H : Hp) (o : Option V) : Sl -> Prop
  | .un => True
  | .sh d => ∃ v, o = some v /\ Rep G d v
  | .ow d => ∃ a, o = some (.ref a) /\ G a = none /\ OwnOk G H a d
  | .fd kvs => FdOk G o kvs
structure SR (G H : Hp) (σ : St) (δ : Dn) : Prop where
  sub : Same G H
  len : σ.length = δ.length
  sl : ∀ (i : Nat) (s : Sl), δ[i]? = some s -> SlOk G H (σ[i]?.join) s
  ap : ∀ (i j : Nat) (a : Addr) (d e : PyData), δ[i]? = some (.ow d) -> δ[j]? = some (.ow e) -> σ[i]?.join = some (.ref a) -> σ[j]?.join = some (.ref a) -> i = j
theorem OwnOk.some {G H : Hp} {a : Addr} {d : PyData} (h : OwnOk G H a d) : ∃ o, H a = some o := by
  cases d with
  | list ds => obtain ⟨xs, e, _⟩ := h; exact ⟨_, e⟩
  | dict kvs => obtain ⟨xs, e, _⟩ := h; exact ⟨_, e⟩
  | tuple xs => exact OwnK.is h
  | _ => exact (show False from h).elim
theorem OwnOk.grow {G H G' H' : Hp} (g : Grow G H G' H') {a : Addr} {d : PyData} (h : OwnOk G H a d) : OwnOk G' H' a d := by
  cases d with
  | list ds => obtain ⟨xs, e, r⟩ := h; exact ⟨xs, g.h _ _ e, r.mono g.g⟩
  | dict kvs => obtain ⟨xs, e, k, r⟩ := h; exact ⟨xs, g.h _ _ e, k, r.mono g.g⟩
  | tuple xs => exact OwnK.keep g.g (fun o e => g.h _ _ e) h
  | _ => exact (show False from h).elim
theorem OwnOk.noTup {G H : Hp} {a : Addr} {d : PyData} (h : OwnOk G H a d) {xs : List V} (e : H a = .some (HO.tup xs)) : False := by
  cases d with
  | list ds => obtain ⟨_, z, _⟩ := h; rw [e] at z; cases z
  | dict kvs => obtain ⟨_, z, _⟩ := h; rw [e] at z; cases z
  | tuple ys =>
    have h' : OwnK G H a ys := h
    unfold OwnK at h'
    split at h'
    . obtain ⟨_, z, _⟩ := h'; rw [e] at z; cases z
    . exact h'
  | _ => exact (show False from h).elim
theorem SlOk.grow {G H G' H' : Hp} (g : Grow G H G' H') {o : Option V} {s : Sl} (h : SlOk G H o s) : SlOk G' H' o s := by
  cases s with
  | un => trivial
  | sh d => obtain ⟨v, e, r⟩ := h; exact ⟨v, e, r.mono g.g⟩
  | fd kvs => exact FdOk.mono g.g h
  | ow d =>
    obtain ⟨a, e, n, r⟩ := h
    refine ⟨a, e, ?_, r.grow g⟩
    cases q : G' a with
    | none => rfl
    | some u =>
      obtain ⟨o', eo⟩ := r.some
      rcases g.fr a u q with z | z | ⟨xs, rfl⟩
      . rw [n] at z; cases z
      . rw [eo] at z; cases z
      . exact ((r.grow g).noTup (g.gh _ _ q)).elim
theorem SR.grow {G H G' H' : Hp} {σ : St} {δ : Dn} (S : SR G H σ δ) (g : Grow G H G' H') : SR G' H' σ δ :=
  ⟨g.gh, S.len, fun i s e => (S.sl i s e).grow g, S.ap⟩
abbrev EK := Str -> Hp -> Prop
def Aft (E : EK) (G H : Hp) (r : Res PyData) (Q : VK) : Prop := match r with
  | .ok d => ∀ v G' H', Grow G H G' H' -> Rep G' d v -> Q v H'
  | .exc c => ∀ G' H', Grow G H G' H' -> E c H'
  | .no => False
def tD (E : EK) (f : Dn -> Res PyData) : TE := fun σ H Q => ∃ G δ, SR G H σ δ /\ Aft E G H (f δ) Q
abbrev DE (X : Cx) (E : EK) (e : Expr) (f : Dn -> Res PyData) : Prop := PE X e (tD E f)
theorem Aft.grow {E : EK} {G H G' H' : Hp} {r : Res PyData} {Q : VK} (g : Grow G H G' H') (a : Aft E G H r Q) : Aft E G' H' r Q := by
  cases r with
  | ok d => exact fun v G2 H2 g2 q => a v G2 H2 (g.trans g2) q
  | exc c => exact fun G2 H2 g2 => a G2 H2 (g.trans g2)
  | no => exact a
theorem PE.imp {X : Cx} {e : Expr} {t t' : TE} (h : PE X e t) (i : ∀ σ H Q, t' σ H Q -> t σ H Q) : PE X e t' := fun pins s σ H Q I q => h pins s σ H Q I (i _ _ _ q)
theorem aft_bind {E : EK} {G H : Hp} {σ : St} {δ : Dn} {f : Dn -> Res PyData} {k : PyData -> Res PyData} {Q R : VK} (S : SR G H σ δ) (a : Aft E G H ((f δ).bind k) Q)
    (h : ∀ d v G1 H1, Grow G H G1 H1 -> Rep G1 d v -> SR G1 H1 σ δ -> Aft E G1 H1 (k d) Q -> R v H1) : tD E f σ H R := by
  refine ⟨G, δ, S, ?_⟩
  cases e : f δ with
  | ok d =>
    rw [e] at a
    exact fun v G' H' g r => h d v G' H' g r (S.grow g) (Aft.grow g a)
  | exc c => rw [e] at a; exact a
  | no => rw [e] at a; exact a
section
variable {X : Cx} {E : EK} {pos : Pos}
noncomputable def vC (d : PyData) : Dn -> Res PyData := fun _ => .ok d
noncomputable def vVar (i : Nat) : Dn -> Res PyData := fun δ => match δ[i]? with
  | some (.sh d) => .ok d
  | _ => .no
theorem d_int {i : Int} {j : Nat} : DE X E (.Constant (.int i) j pos) (vC (.int i)) := PE.imp pe_int fun σ H Q ⟨G, δ, S, a⟩ => a _ G H (Grow.refl S.sub) rfl
theorem d_bool {b : Bool} {j : Nat} : DE X E (.Constant (.bool b) j pos) (vC (.bool b)) := PE.imp pe_bl fun σ H Q ⟨G, δ, S, a⟩ => a _ G H (Grow.refl S.sub) rfl
theorem d_none {j : Nat} : DE X E (.Constant .none j pos) (vC .none) := PE.imp pe_non fun σ H Q ⟨G, δ, S, a⟩ => a _ G H (Grow.refl S.sub) rfl
theorem d_str {x : Str} {j : Nat} (h : autoParam (PyData.strOk x = true) L2.ax7._auto_1) (hl : autoParam (x.length <= sizeLine) L2.ax7._auto_1) : DE X E (.Constant (.str x) j pos) (vC (.str x)) :=
  PE.imp pe_str fun σ H Q ⟨G, δ, S, a⟩ => a _ G H (Grow.refl S.sub) ⟨rfl, h, hl⟩
theorem d_var' {i : Nat} {x : Str} (hN : X.N[i]? = some x) (hv : Vis X.env.scope x) (hd : (x == ("__debug__" : Str)) = false) (hcd : (x == ("__classdict__" : Str)) = false) : DE X E (.Name x pos) (vVar i) :=
  PE.imp (pe_var hN hv hd hcd) fun σ H Q ⟨G, δ, S, a⟩ => by
    unfold vVar at a
    split at a
    . rename_i d e
      obtain ⟨v, e1, r⟩ := S.sl i _ e
      refine ⟨v, ?_, a _ G H (Grow.refl S.sub) r⟩
      cases q : σ[i]? with
      | none => rw [q] at e1; cases e1
      | some w => rw [q] at e1; cases w with
        | none => cases e1
        | some w => cases e1; rfl
    . exact a.elim
noncomputable def b2 (f g : Dn -> Res PyData) (op : PyData -> PyData -> Option PyData) : Dn -> Res PyData := fun δ => (f δ).bind fun x => (g δ).bind fun y => ofO (op x y)
def OpD (r : R2) (op : PyData -> PyData -> Option PyData) : Prop := ∀ (G H : Hp) (x y : V) (a b d : PyData) (Q : VK), Same G H -> Rep G a x -> Rep G b y -> op a b = some d -> (∀ v G' H', Grow G H G' H' -> Rep G' d v -> Q v H') -> r x y H Q
theorem tD_b2 {r : R2} {op : PyData -> PyData -> Option PyData} {f g : Dn -> Res PyData} (ho : OpD r op) {σ : St} {H : Hp} {Q : VK} (h : tD E (b2 f g op) σ H Q) : tOp r (tD E f) (tD E g) σ H Q := by
  obtain ⟨G, δ, S, a⟩ := h
  refine aft_bind S a fun d1 v1 G1 H1 g1 r1 S1 a1 => ?_
  refine aft_bind S1 a1 fun d2 v2 G2 H2 g2 r2 S2 a2 => ?_
  cases e : op d1 d2 with
  | none => rw [e] at a2; exact a2.elim
  | some d => rw [e] at a2; exact ho G2 H2 v1 v2 d1 d2 d Q S2.sub (r1.mono g2.g) r2 e a2
theorem d_bin {a b : Expr} {o : Operator} {r : R2} {op : PyData -> PyData -> Option PyData} {f g : Dn -> Res PyData} (hr : OpR X (binaryOp o) r) (ho : OpD r op) (ha : DE X E a f) (hb : DE X E b g) : DE X E (.BinOp a o b pos) (b2 f g op) :=
  PE.imp (pe_op hr ha hb) fun _ _ _ h => tD_b2 ho h
theorem d_cmp {a b : Expr} {o : CmpOp} {r : R2} {op : PyData -> PyData -> Option PyData} {f g : Dn -> Res PyData} (hr : OpR X (compareOp o) r) (ho : OpD r op) (ha : DE X E a f) (hb : DE X E b g) (hm : behindInMarks o b = false) : DE X E (.Compare a [o] [b] pos) (b2 f g op) :=
  PE.imp (pe_cmpR hr ha hb hm) fun _ _ _ h => tD_b2 ho h
end
end Sm
end
section
set_option Elab.async false
set_option linter.all false
set_option maxRecDepth 100000
set_option maxHeartbeats 4000000
set_option autoImplicit false
namespace Sm
open PySem PySem.Spec PyProof.Rows L2
section
variable {X : Cx} {pins : List (Addr × Obj)} {σ : St} {H G : Hp} {s : Shared}
theorem rd_list (I : Inv X pins σ H s) {a : Addr} {xs : List V} (hG : Same G H) (r : Rd G a (.lst xs)) : xs.length <= sizeLine /\ ∃ (its : List Value) (n : Nat), Vals xs its /\ s.heap.get? a = some { cls := .type "list", data := .seq its.toArray n } :=
  (Rd.ok (Rd.mono hG r) I.hok : ObjOk X.prog X.w H s.heap a (.lst xs))
theorem rd_tup (I : Inv X pins σ H s) {a : Addr} {xs : List V} (hG : Same G H) (r : G a = some (.tup xs)) : xs.length <= sizeLine /\ ∃ its : List Value, Vals xs its /\ IsTup s.heap a its.toArray :=
  (I.hok a _ (hG _ _ r) : ObjOk X.prog X.w H s.heap a (.tup xs))
mutual
theorem Rep.reads (I : Inv X pins σ H s) (hG : Same G H) : ∀ {d : PyData} {v : V} {u : Value}, Rep G d v -> RelV v u -> ∃ as, Reads s.heap u d as
  | .none, _, _, r, q => by cases (show _ = _ from r); cases q; exact ⟨_, .none⟩
  | .bool _, _, _, r, q => by cases (show _ = _ from r); cases q; exact ⟨_, .bool _⟩
  | .int _, _, _, r, q => by cases (show _ = _ from r); obtain ⟨t, rfl⟩ := q; exact ⟨_, .int _ _⟩
  | .str _, _, _, r, q => by cases r.1; obtain ⟨t, rfl⟩ := q; exact ⟨_, .str _ _⟩
  | .list _, _, _, r, q => by
    obtain ⟨a, xs, rfl, h, l⟩ := r
    cases q
    obtain ⟨z, its, n, rv, e⟩ := rd_list I hG h
    obtain ⟨as, ra⟩ := RepL.reads I hG l rv
    exact ⟨_, .list e rfl rfl (by simpa using ra)⟩
  | .tuple _, _, _, r, q => by
    obtain ⟨a, xs, rfl, h, l⟩ := r
    cases q
    obtain ⟨z, its, rv, o, e, c, n, hd⟩ := rd_tup I hG h
    obtain ⟨as, ra⟩ := RepL.reads I hG l rv
    exact ⟨_, .tuple e c hd (by simpa using ra)⟩
  | .dict _, _, _, r, _ => r.elim
theorem RepL.reads (I : Inv X pins σ H s) (hG : Same G H) : ∀ {ds : List PyData} {xs : List V} {us : List Value}, RepL G ds xs -> Vals xs us -> ∃ as, ReadsAll s.heap us ds as
  | [], _, _, r, q => by cases (show _ = _ from r); cases q; exact ⟨_, .nil⟩
  | _ :: _, _, _, r, q => by
    obtain ⟨x, t, rfl, h, l⟩ := r
    cases q with
    | cons q qs =>
      obtain ⟨as, r1⟩ := Rep.reads I hG h q
      obtain ⟨bs, r2⟩ := RepL.reads I hG l qs
      exact ⟨_, .cons r1 r2⟩
end
end
noncomputable def dEq (a b : PyData) : Option PyData := if min a.depth b.depth <= 64 then some (.bool (PyData.eqv a b)) else none
noncomputable def dNe (a b : PyData) : Option PyData := if min a.depth b.depth <= 64 then some (.bool (!PyData.eqv a b)) else none
def rEqD (neg : Bool) : R2 := fun x y H Q => ∃ G a b, Same G H /\ Rep G a x /\ Rep G b y /\ min a.depth b.depth <= 64 /\ Q (.bl (if neg then !PyData.eqv a b else PyData.eqv a b)) H
section
variable {X : Cx}
theorem op_eqD (hu : X.A.units + 64 < cLine) : OpR X (compareOp .Eq) (rEqD false) := by
  rintro pins s σ H x y v u Q I rx ry ⟨G, a, b, hG, ra, rb, hm, q⟩
  obtain ⟨as, r1⟩ := ra.reads I hG rx
  obtain ⟨bs, r2⟩ := rb.reads I hG ry
  exact SeqAt.compareEq_reads r1 r2 ra.lay rb.lay (by omega) ⟨.bl _, H, I, rfl, q⟩
theorem op_neD (hu : X.A.units + 64 < cLine) : OpR X (compareOp .NotEq) (rEqD true) := by
  rintro pins s σ H x y v u Q I rx ry ⟨G, a, b, hG, ra, rb, hm, q⟩
  obtain ⟨as, r1⟩ := ra.reads I hG rx
  obtain ⟨bs, r2⟩ := rb.reads I hG ry
  exact SeqAt.compareNe_reads r1 r2 ra.lay rb.lay (by omega) ⟨.bl _, H, I, rfl, q⟩
theorem opD_eq : OpD (rEqD false) dEq := by
  intro G H x y a b d Q hG ra rb e q
  unfold dEq at e
  split at e
  . rename_i h; cases e; exact ⟨G, a, b, hG, ra, rb, h, q _ G H (Grow.refl hG) rfl⟩
  . cases e
theorem opD_ne : OpD (rEqD true) dNe := by
  intro G H x y a b d Q hG ra rb e q
  unfold dNe at e
  split at e
  . rename_i h; cases e; exact ⟨G, a, b, hG, ra, rb, h, q _ G H (Grow.refl hG) rfl⟩
  . cases e
end
noncomputable def inStr (x y : Str) : Bool := !(Builtin.Str.occurrences y x 0 y.length 1).isEmpty
noncomputable def dIn (neg : Bool) (a b : PyData) : Option PyData := match b with
  | .list ds => if min (PyData.depthAll ds) a.depth <= 62 then some (.bool (if neg then !ds.any fun y => PyData.eqv y a else ds.any fun y => PyData.eqv y a)) else none
  | .tuple ds => if min (PyData.depthAll ds) a.depth <= 62 then some (.bool (if neg then !ds.any fun y => PyData.eqv y a else ds.any fun y => PyData.eqv y a)) else none
  | .str y => match a with
    | .str x => some (.bool (if neg then !inStr x y else inStr x y))
    | _ => none
  | _ => none
def rInD (neg : Bool) : R2 := fun x y H Q => ∃ G a b d, Same G H /\ Rep G a x /\ Rep G b y /\ dIn neg a b = some (.bool d) /\ Q (.bl d) H
section
variable {X : Cx}
theorem op_inD (hu : X.A.units + 64 < cLine) : OpR X (compareOp .In) (rInD false) := by
  rintro pins s σ H x y v u Q I rx ry ⟨G, a, b, d, hG, ra, rb, e, q⟩
  cases b with
  | list ds =>
    replace e : (if _ then _ else _) = some _ := e
    split at e
    . rename_i h
      cases e
      obtain ⟨as, r1⟩ := ra.reads I hG rx
      obtain ⟨bs, r2⟩ := rb.reads I hG ry
      exact SeqAt.in_list_reads r2 r1 rb.lay ra.lay (by omega) ⟨.bl _, H, I, rfl, q⟩
    . cases e
  | tuple ds =>
    replace e : (if _ then _ else _) = some _ := e
    split at e
    . rename_i h
      cases e
      obtain ⟨as, r1⟩ := ra.reads I hG rx
      obtain ⟨bs, r2⟩ := rb.reads I hG ry
      exact SeqAt.in_tuple_reads r2 r1 rb.lay ra.lay (by omega) ⟨.bl _, H, I, rfl, q⟩
    . cases e
  | str z =>
    cases a with
    | str z' =>
      cases e
      cases ra.1; cases rb.1
      obtain ⟨t, rfl⟩ := rx
      obtain ⟨t', rfl⟩ := ry
      exact in_str ⟨.bl _, H, I, rfl, q⟩
    | _ => cases e
  | _ => cases e
theorem dIn_bool {neg : Bool} {a b d : PyData} (e : dIn neg a b = some d) : ∃ k, d = .bool k := by
  cases b with
  | list ds => replace e : (if _ then _ else _) = some _ := e; split at e <;> cases e; exact ⟨_, rfl⟩
  | tuple ds => replace e : (if _ then _ else _) = some _ := e; split at e <;> cases e; exact ⟨_, rfl⟩
  | str z => cases a with
    | str z' => cases e; exact ⟨_, rfl⟩
    | _ => cases e
  | _ => cases e
theorem opD_in {neg : Bool} : OpD (rInD neg) (dIn neg) := by
  intro G H x y a b d Q hG ra rb e q
  obtain ⟨k, rfl⟩ := dIn_bool e
  exact ⟨G, a, b, k, hG, ra, rb, e, q _ G H (Grow.refl hG) rfl⟩
end
noncomputable def dAdd : PyData -> PyData -> Option PyData
  | .int i, .int j => some (.int (i + j))
  | .str x, .str y => if x.length + y.length <= sizeLine then some (.str (x ++ y)) else none
  | .list xs, .list ys => if xs.length + ys.length <= sizeLine then some (.list (xs ++ ys)) else none
  | .tuple xs, .tuple ys => if xs.length + ys.length <= sizeLine then some (.tuple (xs ++ ys)) else none
  | _, _ => none
def rAddD : R2 := fun x y H Q => ∃ G a b d, Same G H /\ Rep G a x /\ Rep G b y /\ dAdd a b = some d /\ ∀ v G' H', Grow G H G' H' -> Rep G' d v -> Q v H'
theorem strOk_append {x y : Str} (hx : PyData.strOk x = true) (hy : PyData.strOk y = true) : PyData.strOk (x ++ y) = true := by
  unfold PyData.strOk at *
  show (x.cps ++ y.cps).all _ = true
  rw [Array.all_append, hx, hy]; rfl
theorem str_len_append (x y : Str) : (x ++ y).length = x.length + y.length := by
  show (x.cps ++ y.cps).size = _
  rw [Array.size_append]; rfl
section
variable {X : Cx}
theorem fin_tup {pins : List (Addr × Obj)} {σ : St} {H G : Hp} {s : Shared} {Q : VK} {ds : List PyData} {xs : List V} {its : List Value} {t' : Nat} (I : Inv X pins σ H s) (hG : Same G H) (rv : Vals xs its) (rl : RepL G ds xs) (hz : xs.length <= sizeLine)
    (q : ∀ v G' H', Grow G H G' H' -> Rep G' (.tuple ds) v -> Q v H') : EP X pins σ Q (.ref s.heap.objs.size) { s with heap := s.heap.push { cls := .type "tuple", data := .seq its.toArray }, toks := t' } := by
  refine ⟨.ref s.heap.objs.size, _, I.laid (t' := t') (o := .tup xs) (fun b ob q => Heap.get?_push_of_some _ q) (Nat.le_refl _) ⟨hz, its, rv, IsTup.new _ _⟩, rfl, q _ (upd G s.heap.objs.size (.tup xs)) _ (Grow.new hG I.fresh) ⟨_, xs, rfl, upd_same, rl.mono (Same.upd (hG.free I.fresh))⟩⟩
theorem fin_lst {pins : List (Addr × Obj)} {σ : St} {H G : Hp} {s : Shared} {Q : VK} {ds : List PyData} {xs : List V} {its : List Value} {t' : Nat} (I : Inv X pins σ H s) (hG : Same G H) (rv : Vals xs its) (rl : RepL G ds xs) (hz : xs.length <= sizeLine)
    (q : ∀ v G' H', Grow G H G' H' -> Rep G' (.list ds) v -> Q v H') : EP X pins σ Q (.ref s.heap.objs.size) { s with heap := s.heap.push { cls := .type "list", data := .seq its.toArray }, toks := t' } := by
  refine ⟨.ref s.heap.objs.size, _, I.lnew (t' := t') rv hz, rfl, q _ (upd G s.heap.objs.size (.lst xs)) _ (Grow.new hG I.fresh) ⟨_, xs, rfl, .inl upd_same, rl.mono (Same.upd (hG.free I.fresh))⟩⟩
theorem op_addD : OpR X (binaryOp .Add) rAddD := by
  rintro pins s σ H x y v u Q I rx ry ⟨G, a, b, d, hG, ra, rb, e, q⟩
  cases a with
  | int i => cases b with
    | int j =>
      cases e
      cases (show _ = _ from ra); cases (show _ = _ from rb)
      obtain ⟨t, rfl⟩ := rx
      obtain ⟨t', rfl⟩ := ry
      exact add_int ⟨.int _, H, I.tok _, ⟨_, rfl⟩, q _ G H (Grow.refl hG) rfl⟩
    | _ => cases e
  | str i => cases b with
    | str j =>
      replace e : (if _ then _ else _) = some d := e
      split at e
      . rename_i hz
        cases e
        obtain ⟨e1, o1, _⟩ := ra
        obtain ⟨e2, o2, _⟩ := rb
        cases e1; cases e2
        obtain ⟨t, rfl⟩ := rx
        obtain ⟨t', rfl⟩ := ry
        exact add_str (fun t' tk => ⟨.str (i ++ j), H, I.tok _, ⟨_, rfl⟩, q _ G H (Grow.refl hG) ⟨rfl, strOk_append o1 o2, by rw [str_len_append]; exact hz⟩⟩) hz
      . cases e
    | _ => cases e
  | list xs => cases b with
    | list ys =>
      replace e : (if _ then _ else _) = some d := e
      split at e
      . rename_i hz
        cases e
        obtain ⟨l, vs, rfl, h1, l1⟩ := ra
        obtain ⟨l', ws, rfl, h2, l2⟩ := rb
        cases rx; cases ry
        obtain ⟨z1, its1, n1, v1, e1⟩ := rd_list I hG h1
        obtain ⟨z2, its2, n2, v2, e2⟩ := rd_list I hG h2
        have q1 := v1.length
        have q2 := v2.length
        have q3 := l1.length
        have q4 := l2.length
        refine PySem.P.add_list e1 e2 ?_ (by rw [List.size_toArray, List.size_toArray]; omega)
        have ea : its1.toArray ++ its2.toArray = (its1 ++ its2).toArray := by simp
        rw [ea]
        exact fin_lst (t' := s.toks) I hG (v1.append v2) (l1.append l2) (by rw [List.length_append]; omega) q
      . cases e
    | _ => cases e
  | tuple xs => cases b with
    | tuple ys =>
      replace e : (if _ then _ else _) = some d := e
      split at e
      . rename_i hz
        cases e
        obtain ⟨l, vs, rfl, h1, l1⟩ := ra
        obtain ⟨l', ws, rfl, h2, l2⟩ := rb
        cases rx; cases ry
        obtain ⟨z1, its1, v1, p1⟩ := rd_tup I hG h1
        obtain ⟨z2, its2, v2, p2⟩ := rd_tup I hG h2
        have q1 := v1.length
        have q2 := v2.length
        have q3 := l1.length
        have q4 := l2.length
        by_cases hx : its1 = []
        . subst hx
          obtain ⟨⟨cls, dd, data, sl⟩, ho, hc, n, hd⟩ := id p1
          obtain ⟨⟨cls2, dd2, data2, sl2⟩, ho2, hc2, n2, hd2⟩ := id p2
          simp only at hc hd hc2 hd2
          subst hc hd hc2 hd2
          refine concat_meets ⟨_, ho, rfl⟩ ⟨_, ho2, rfl⟩ noFill_tuple_add seq_tuple_add PySem.F.slot_tuple_add PySem.F.entry_tuple_add (PySem.F.args_tuple_add_2 _ _)
            (tuple_addW0 l l' _ _ n n2 dd dd2 sl sl2 (by simp)) ⟨ho, ho2, ?_⟩
          have hxs : xs = [] := by
            have : xs.length = 0 := by rw [q3, q1]; rfl
            exact List.length_eq_zero_iff.mp this
          subst hxs
          exact ⟨.ref l', H, I, rfl, q _ G H (Grow.refl hG) ⟨l', ws, rfl, h2, l2⟩⟩
        . refine HT.cat_tup p1 p2 hx (fun hy => ?_) (fun hy => ?_) (by omega)
          . subst hy
            have hys : ys = [] := by
              have : ys.length = 0 := by rw [q4, q2]; rfl
              exact List.length_eq_zero_iff.mp this
            subst hys
            rw [List.append_nil] at q
            exact ⟨.ref l, H, I, rfl, q _ G H (Grow.refl hG) ⟨l, vs, rfl, h1, l1⟩⟩
          . exact fin_tup (t' := s.toks) I hG (v1.append v2) (l1.append l2) (by rw [List.length_append]; omega) q
      . cases e
    | _ => cases e
  | _ => cases e
theorem opD_add : OpD rAddD dAdd := fun G H x y a b d Q hG ra rb e q => ⟨G, a, b, d, hG, ra, rb, e, q⟩
noncomputable def dSub : PyData -> PyData -> Option PyData
  | .int i, .int j => some (.int (i - j))
  | _, _ => none
noncomputable def dMod : PyData -> PyData -> Option PyData
  | .int i, .int j => if 0 < j then some (.int (i % j)) else none
  | _, _ => none
noncomputable def dFdiv : PyData -> PyData -> Option PyData
  | .int i, .int j => if 0 < j /\ j < 1073741824 then some (.int (i / j)) else none
  | _, _ => none
theorem opD_int {r : R2} {op : PyData -> PyData -> Option PyData} (h : ∀ a b d, op a b = some d -> ∃ i j k, a = .int i /\ b = .int j /\ d = .int k /\ ∀ H Q, Q (V.int k) H -> r (.int i) (.int j) H Q) : OpD r op := by
  intro G H x y a b d Q hG ra rb e q
  obtain ⟨i, j, k, rfl, rfl, rfl, hr⟩ := h a b d e
  cases (show _ = _ from ra); cases (show _ = _ from rb)
  exact hr H Q (q _ G H (Grow.refl hG) rfl)
theorem opD_sub : OpD (rI0 fun i j => .int (i - j)) dSub := opD_int fun a b d e => by
  unfold dSub at e
  split at e
  . cases e; exact ⟨_, _, _, rfl, rfl, rfl, fun H Q q => ⟨_, _, rfl, rfl, q⟩⟩
  . cases e
theorem opD_mod : OpD (rI (fun _ j => 0 < j) fun i j => .int (i % j)) dMod := opD_int fun a b d e => by
  unfold dMod at e
  split at e
  . split at e
    . rename_i h; cases e; exact ⟨_, _, _, rfl, rfl, rfl, fun H Q q => ⟨_, _, rfl, rfl, h, q⟩⟩
    . cases e
  . cases e
theorem opD_fdiv : OpD (rI CDiv fun i j => .int (i / j)) dFdiv := opD_int fun a b d e => by
  unfold dFdiv at e
  split at e
  . split at e
    . rename_i h; cases e; exact ⟨_, _, _, rfl, rfl, rfl, fun H Q q => ⟨_, _, rfl, rfl, h, q⟩⟩
    . cases e
  . cases e
end
end Sm
end
section
set_option Elab.async false
set_option linter.all false
set_option maxRecDepth 100000
set_option maxHeartbeats 4000000
set_option autoImplicit false
namespace Sm
open PySem PySem.Spec PyProof.Rows L2
open PySem.AutoSeq1 (wpAny_loadPart')
noncomputable def strRep (n : Nat) (x : Str) : Str := ⟨(List.replicate n x.cps).foldl (· ++ ·) #[]⟩
theorem foldl_app (l : List (Array Nat)) : ∀ acc : Array Nat, (l.foldl (· ++ ·) acc).toList = acc.toList ++ (l.map Array.toList).flatten := by
  induction l with
  | nil => intro acc; simp
  | cons a l ih => intro acc; rw [List.foldl_cons, ih]; simp
theorem strRep_toList (n : Nat) (x : Str) : (strRep n x).cps.toList = (List.replicate n x.cps.toList).flatten := by
  unfold strRep
  rw [foldl_app]; simp
theorem strRep_ok {x : Str} (h : PyData.strOk x = true) (n : Nat) : PyData.strOk (strRep n x) = true := by
  unfold PyData.strOk at *
  rw [← Array.all_toList, List.all_eq_true] at *
  rw [strRep_toList]
  intro c hc
  obtain ⟨l, hl, hc⟩ := List.mem_flatten.mp hc
  rw [List.eq_of_mem_replicate hl] at hc
  exact h c hc
theorem strRep_len (n : Nat) (x : Str) : (strRep n x).length = n * x.length := by
  show (strRep n x).cps.size = n * x.cps.size
  rw [← Array.length_toList, strRep_toList, len_rep, Array.length_toList]
theorem strRep_zero (x : Str) : strRep 0 x = Str.empty := rfl
theorem strRep_one (x : Str) : strRep 1 x = x := by
  have : (strRep 1 x).cps = x.cps := by
    apply Array.toList_inj.mp
    rw [strRep_toList]; simp
  cases x; cases h : strRep 1 _; rw [h] at this; cases this; rfl
theorem strRep_nil {x : Str} (n : Nat) (h : x.length = 0) : strRep n x = x := by
  have hx : x.cps = #[] := Array.size_eq_zero_iff.mp h
  have : (strRep n x).cps = x.cps := by
    apply Array.toList_inj.mp
    rw [strRep_toList, hx]; simp
  cases x; cases h : strRep n _; rw [h] at this; cases this; rfl
noncomputable def dMul : PyData -> PyData -> Option PyData
  | .int i, .int j => if (-(2 ^ 64) < i /\ i < 2 ^ 64) \/ (-(2 ^ 64) < j /\ j < 2 ^ 64) then some (.int (i * j)) else none
  | .str x, .int n => if -(2 ^ 63) <= n /\ n < 2 ^ 63 /\ x.length * n.toNat <= sizeLine then some (.str (strRep n.toNat x)) else none
  | .list xs, .int n => if -(2 ^ 63) <= n /\ n < 2 ^ 63 /\ xs.length * n.toNat <= sizeLine then some (.list (List.replicate n.toNat xs).flatten) else none
  | _, _ => none
def rMulD : R2 := fun x y H Q => ∃ G a b d, Same G H /\ Rep G a x /\ Rep G b y /\ dMul a b = some d /\ ∀ v G' H', Grow G H G' H' -> Rep G' d v -> Q v H'
theorem opD_mul : OpD rMulD dMul := fun G H x y a b d Q hG ra rb e q => ⟨G, a, b, d, hG, ra, rb, e, q⟩
section
variable {X : Cx}
theorem op_mulD : OpR X (binaryOp .Mult) rMulD := by
  rintro pins s σ H x y v u Q I rx ry ⟨G, a, b, d, hG, ra, rb, e, q⟩
  have h63 := line63
  obtain ⟨k, rfl⟩ : ∃ k, b = .int k := by unfold dMul at e; split at e <;> first | exact ⟨_, rfl⟩ | cases e
  cases (show _ = _ from rb)
  obtain ⟨t', rfl⟩ := ry
  cases a with
  | int i =>
    replace e : (if _ then _ else _) = some d := e
    split at e
    . rename_i hc
      cases e
      cases (show _ = _ from ra)
      obtain ⟨t, rfl⟩ := rx
      exact mul_int ⟨.int _, H, I.tok _, ⟨_, rfl⟩, q _ G H (Grow.refl hG) rfl⟩ (CMul.ok hc)
    . cases e
  | str z =>
    replace e : (if _ then _ else _) = some d := e
    split at e
    . rename_i hc
      obtain ⟨hc1, hc2, hc3⟩ := hc
      cases e
      obtain ⟨e1, o1, l1⟩ := ra
      cases e1
      obtain ⟨t, rfl⟩ := rx
      have fin : ∀ tk, Q (.str (strRep k.toNat z)) H /\ Inv X pins σ H { s with toks := tk } := fun tk => ⟨q _ G H (Grow.refl hG) ⟨rfl, strRep_ok o1 _, by rw [strRep_len, Nat.mul_comm]; exact hc3⟩, I.tok _⟩
      refine PySem.P.mul_str (by rw [decide_eq_false (by omega), decide_eq_false (by omega)]; rfl) (fun h1 _ => ?_) (fun h1 _ => ?_) ?_
      . intro hgt
        have hk : (0 : Int) < k := by omega
        have h2 : (2 ^ 63 - 1) / k + 1 <= (z.length : Int) := by omega
        have h3 : (2 ^ 63 - 1 : Int) < ((2 ^ 63 - 1) / k + 1) * k := Int.lt_ediv_add_one_mul_self _ hk
        have h4 : ((2 ^ 63 - 1) / k + 1) * k <= (z.length : Int) * k := Int.mul_le_mul_of_nonneg_right h2 (by omega)
        have h5 : (z.length : Int) * k = ((z.length * k.toNat : Nat) : Int) := by
          rw [Int.natCast_mul, Int.toNat_of_nonneg (by omega)]
        omega
      . unfold Builtin.Str.tooLong
        exact decide_eq_false (by omega)
      . by_cases h1 : k < 1
        . rw [if_pos h1]
          have : k.toNat = 0 := by omega
          rw [this, strRep_zero] at fin
          exact ⟨by decide, ⟨.str _, H, (fin _).2, ⟨_, rfl⟩, (fin 0).1⟩⟩
        . rw [if_neg h1]
          by_cases h2 : (k == 1 || z.length == 0) = true
          . rw [if_pos h2]
            rw [Bool.or_eq_true] at h2
            have ez : strRep k.toNat z = z := by
              rcases h2 with h2 | h2
              . have : k = 1 := eq_of_beq h2
                subst this
                exact strRep_one z
              . exact strRep_nil _ (eq_of_beq h2)
            rw [ez] at fin
            exact ⟨.str _, H, I, ⟨_, rfl⟩, (fin 0).1⟩
          . rw [if_neg h2]
            exact ⟨by show (strRep k.toNat z).length <= _; rw [strRep_len, Nat.mul_comm]; exact hc3, ⟨.str _, H, (fin _).2, ⟨_, rfl⟩, (fin 0).1⟩⟩
    . cases e
  | list xs =>
    replace e : (if _ then _ else _) = some d := e
    split at e
    . rename_i hc
      obtain ⟨hc1, hc2, hc3⟩ := hc
      cases e
      obtain ⟨l, vs, rfl, h1, l1⟩ := ra
      cases rx
      have q3 := l1.length
      obtain ⟨z, its, n, r, e⟩ := rd_list I hG h1
      have hl := r.length
      have hlen : its.toArray.size * k.toNat <= sizeLine := by rw [List.size_toArray, ← hl, ← q3]; exact hc3
      have hcap : ¬ its.toArray.size * k.toNat > (2 ^ 63 - 1) / 8 := by
        have : (sizeLine : Nat) <= (2 ^ 63 - 1) / 8 := by decide
        omega
      have hfit : ¬ (!Builtin.List.listFitsIndex k) = true := by
        rw [fitsIndex_both hc1 hc2]
        exact Bool.false_ne_true
      have hlong : ¬ Builtin.List.listTooLong (its.toArray.size * k.toNat) = true := by
        rw [notLongL hlen]
        exact Bool.false_ne_true
      have hnew : List.foldl (fun x1 x2 => x1 ++ x2) #[] (List.replicate (if its.toArray.isEmpty = true then 0 else k.toNat) its.toArray) = (List.replicate k.toNat its).flatten.toArray := by
        have f0 : ∀ m : Nat, List.foldl (fun x1 x2 => x1 ++ x2) #[] (List.replicate m its.toArray) = (List.replicate m its).flatten.toArray := fun m => by
          have := foldl_rep its m []
          rw [List.nil_append] at this
          exact this
        rw [f0]
        cases its with
        | nil => simp
        | cons a r' => rw [if_neg (by simp)]
      refine wpAny_binaryOp_repeat_ref (T := "list") (U := "int") (by decide) ⟨_, e, rfl⟩ (fun s' => typeIs_int s' k t') noFill_list_mul F.fills_int_mul F.slot_int_rmul repeat_list F.slot_int_index.lookup
        (call_meets F.slot_int_rmul (typeIs_int s k t') F.entry_int_rmul (F.args_int_rmul_2 _ _) (int___rmul___int_list k t' l its.toArray n)
          ⟨e, rfl, ⟨_, e, rfl⟩, call_meets F.slot_list_mul ⟨_, e, rfl⟩ F.entry_list_mul (F.args_list_mul_2 _ _) (AutoListH.list___mul___list_int_3 l its.toArray n k t' hfit hcap hlong) ⟨e, ?_⟩⟩)
      rw [hnew]
      exact fin_lst (t' := s.toks) I hG (r.rep k.toNat) (l1.rep k.toNat) (by rw [len_rep, Nat.mul_comm, ← q3]; exact hc3) q
    . cases e
  | _ => cases e
end
end Sm
end
section
set_option Elab.async false
set_option linter.all false
set_option maxRecDepth 100000
set_option maxHeartbeats 4000000
set_option autoImplicit false
namespace Sm
open PySem PySem.Spec PyProof.Rows L2
open PySem.AutoSeq1 (wpAny_loadPart')
open PySem.MeetsSeq PySem.MeetsSeq2 PySem.MeetsSeq3
noncomputable def iCmp : CmpOp -> Int -> Int -> Bool
  | .Lt, i, j => decide (i < j)
  | .LtE, i, j => decide (i <= j)
  | .Gt, i, j => decide (j < i)
  | _, i, j => decide (j <= i)
noncomputable def sCmp : CmpOp -> Str -> Str -> Bool
  | .Lt, x, y => decide (x.cps.toList < y.cps.toList)
  | .LtE, x, y => !decide (y.cps.toList < x.cps.toList)
  | .Gt, x, y => decide (y.cps.toList < x.cps.toList)
  | _, x, y => !decide (x.cps.toList < y.cps.toList)
noncomputable def zCmp : CmpOp -> Nat -> Nat -> Bool
  | .Lt, m, n => decide (m < n)
  | .LtE, m, n => decide (m <= n)
  | .Gt, m, n => decide (m > n)
  | _, m, n => decide (m ≥ n)
noncomputable def ordOp : CmpOp -> Bool
  | .Lt => true | .LtE => true | .Gt => true | .GtE => true | _ => false
mutual
noncomputable def cmpD (op : CmpOp) : PyData -> PyData -> Option Bool
  | .int i, .int j => some (iCmp op i j)
  | .str x, .str y => some (sCmp op x y)
  | .tuple xs, .tuple ys => cmpL op xs ys
  | _, _ => none
noncomputable def cmpL (op : CmpOp) : List PyData -> List PyData -> Option Bool
  | [], ys => some (zCmp op 0 ys.length)
  | x :: xs, [] => some (zCmp op (xs.length + 1) 0)
  | x :: xs, y :: ys => if PyData.eqv x y = true then cmpL op xs ys else cmpD op x y
end
def RcOp (op : CmpOp) (A : Around) (s : Shared) (u v : Value) (k : Bool) : Prop := ∀ (prog : Program) (w : World) (E : Value -> Shared -> Prop) (Q : Value -> Shared -> Prop), Q (.bool k) s -> wpAny (model prog w) A (richCompare op u v) Q E s
theorem rc_int {op : CmpOp} (h : ordOp op = true) (A : Around) (s : Shared) (i j : Int) (t u : Tok) : RcOp op A s (.int i t) (.int j u) (iCmp op i j) := fun prog w E Q q => by
  cases op with
  | Lt => exact (lt_int q : wpAny (model prog w) A (compareOp .Lt (.int i t) (.int j u)) Q E s)
  | LtE => exact (le_int q : wpAny (model prog w) A (compareOp .LtE (.int i t) (.int j u)) Q E s)
  | Gt => exact (gt_int q : wpAny (model prog w) A (compareOp .Gt (.int i t) (.int j u)) Q E s)
  | GtE => exact (ge_int q : wpAny (model prog w) A (compareOp .GtE (.int i t) (.int j u)) Q E s)
  | _ => cases h
theorem rc_str {op : CmpOp} (h : ordOp op = true) (A : Around) (s : Shared) (x y : Str) (t u : Tok) : RcOp op A s (.str x t) (.str y u) (sCmp op x y) := fun prog w E Q q => by
  cases op with
  | Lt => exact (PySem.P.lt_str q : wpAny (model prog w) A (compareOp .Lt (.str x t) (.str y u)) Q E s)
  | LtE => exact (PySem.P.le_str (by simpa [sCmp] using q) : wpAny (model prog w) A (compareOp .LtE (.str x t) (.str y u)) Q E s)
  | Gt => exact (PySem.P.gt_str q : wpAny (model prog w) A (compareOp .Gt (.str x t) (.str y u)) Q E s)
  | GtE => exact (PySem.P.ge_str (by simpa [sCmp] using q) : wpAny (model prog w) A (compareOp .GtE (.str x t) (.str y u)) Q E s)
  | _ => cases h
def ItemsOp (op : CmpOp) (A : Around) (s : Shared) (vs ws : List Value) (ds es : List PyData) : Prop :=
  ∀ (i : Nat) (v w : Value) (d e : PyData), vs[i]? = some v -> ws[i]? = some w -> ds[i]? = some d -> es[i]? = some e -> SeqAt.EqAt A s v w (PyData.eqv d e) /\ ∀ k, cmpD op d e = some k -> RcOp op A s v w k
theorem tuple_lt_data (l b : Addr) (items items2 : Array Value) (n n2 : Nat) (dd dd2 : Option Addr) (sl sl2 : Array (Option Value)) (ds es : List PyData) (k : Bool) (hz1 : items.toList.length = ds.length) (hz2 : items2.toList.length = es.length) (hk : cmpL .Lt ds es = some k) :
    Meets (Builtin.«tuple.__lt__» ⟨[.ref l, .ref b], []⟩)
      (fun A R s => s.heap.get? l = some { cls := .type "tuple", dict := dd, data := .seq items n, slots := sl } /\ s.heap.get? b = some { cls := .type "tuple", dict := dd2, data := .seq items2 n2, slots := sl2 } /\
        ItemsOp .Lt A.in1 s items.toList items2.toList ds es /\ R (.ok (.ret (.bool k))) s) :=
  .of_wp fun prog w A R s h => by
    obtain ⟨hp, g, d, tk, os⟩ := s; obtain ⟨hl, hb, hI, h⟩ := h
    have f2 := AutoSeq1.sub_tuple_tuple
    have z1 : items.size = ds.length := by rw [← hz1]; simp
    have z2 : items2.size = es.length := by rw [← hz2]; simp
    wp_walk using wpAny_loadPart' hl, wpAny_loadPart' hb, wpAny_forIn_list _ (fun rest b s' => b.1 = none /\ s' = ⟨hp, g, d, tk, os⟩ /\ ∃ (vs ws : List Value) (ds' es' : List PyData), rest = vs.zip ws /\
      vs.length = ds'.length /\ ws.length = es'.length /\ ds'.length + items2.size = es'.length + items.size /\ ItemsOp .Lt A.in1 ⟨hp, g, d, tk, os⟩ vs ws ds' es' /\ cmpL .Lt ds' es' = some k) _
    case turn =>
      rintro ⟨y, x⟩ rest b s' ⟨hb', rfl, vs, ws, ds', es', hz, hv, hw, hlen, hI', hR⟩
      cases vs with
      | nil => rw [List.zip_nil_left] at hz; cases hz
      | cons v0 vs =>
        cases ws with
        | nil => rw [List.zip_nil_right] at hz; cases hz
        | cons w0 ws =>
          cases ds' with
          | nil => simp at hv
          | cons d0 ds' =>
            cases es' with
            | nil => simp at hw
            | cons e0 es' =>
              rw [List.zip_cons_cons] at hz
              injection hz with hyx hrest
              injection hyx with hy hx
              subst hy hx
              simp only [List.length_cons] at hlen hv hw
              obtain ⟨he, hc⟩ := hI' 0 y x d0 e0 rfl rfl rfl rfl
              have hI2 : ItemsOp .Lt A.in1 ⟨hp, g, d, tk, os⟩ vs ws ds' es' := fun i v w d e h1 h2 h3 h4 => hI' (i + 1) v w d e (by simpa using h1) (by simpa using h2) (by simpa using h3) (by simpa using h4)
              rw [cmpL] at hR
              refine wpAny_bind (he prog w _ _ ?_)
              cases q : PyData.eqv d0 e0 with
              | true =>
                rw [q, if_pos rfl] at hR
                wp_walk
                exact ⟨rfl, rfl, _, _, _, _, hrest, by omega, by omega, by omega, hI2, hR⟩
              | false =>
                rw [q, if_neg (by decide)] at hR
                have hri := hc k hR prog w
                wp_walk using hri
                exact ⟨_, rfl, by simpa using h⟩
    case fin =>
      rintro ⟨b1, b2⟩ s' ⟨hb', rfl, vs, ws, ds', es', hz, hv, hw, hlen, hI', hR⟩
      simp only at hb'
      subst hb'
      have hv' : k = decide (items.size < items2.size) := by
        cases ds' with
        | nil =>
          rw [cmpL] at hR
          have := Option.some.inj hR
          rw [← this]
          simp only [List.length_nil] at hlen
          simp only [zCmp]
          exact decide_eq_decide.mpr (by omega)
        | cons d0 ds' =>
          cases es' with
          | nil =>
            rw [cmpL] at hR
            have := Option.some.inj hR
            rw [← this]
            simp only [List.length_nil, List.length_cons] at hlen
            simp only [zCmp]
            exact decide_eq_decide.mpr (by omega)
          | cons e0 es' =>
            cases vs with
            | nil => simp at hv
            | cons v0 vs =>
              cases ws with
              | nil => simp at hw
              | cons w0 ws => rw [List.zip_cons_cons] at hz; cases hz
      rw [hv'] at h
      wp_walk
      exact ⟨_, rfl, by simpa [Builtin.Tuple.tupleCompareSizes] using h⟩
    case h =>
      exact ⟨rfl, rfl, items.toList, items2.toList, ds, es, rfl, hz1, hz2, by omega, hI, hk⟩
theorem tuple_le_data (l b : Addr) (items items2 : Array Value) (n n2 : Nat) (dd dd2 : Option Addr) (sl sl2 : Array (Option Value)) (ds es : List PyData) (k : Bool) (hz1 : items.toList.length = ds.length) (hz2 : items2.toList.length = es.length) (hk : cmpL .LtE ds es = some k) :
    Meets (Builtin.«tuple.__le__» ⟨[.ref l, .ref b], []⟩)
      (fun A R s => s.heap.get? l = some { cls := .type "tuple", dict := dd, data := .seq items n, slots := sl } /\ s.heap.get? b = some { cls := .type "tuple", dict := dd2, data := .seq items2 n2, slots := sl2 } /\
        ItemsOp .LtE A.in1 s items.toList items2.toList ds es /\ R (.ok (.ret (.bool k))) s) :=
  .of_wp fun prog w A R s h => by
    obtain ⟨hp, g, d, tk, os⟩ := s; obtain ⟨hl, hb, hI, h⟩ := h
    have f2 := AutoSeq1.sub_tuple_tuple
    have z1 : items.size = ds.length := by rw [← hz1]; simp
    have z2 : items2.size = es.length := by rw [← hz2]; simp
    wp_walk using wpAny_loadPart' hl, wpAny_loadPart' hb, wpAny_forIn_list _ (fun rest b s' => b.1 = none /\ s' = ⟨hp, g, d, tk, os⟩ /\ ∃ (vs ws : List Value) (ds' es' : List PyData), rest = vs.zip ws /\
      vs.length = ds'.length /\ ws.length = es'.length /\ ds'.length + items2.size = es'.length + items.size /\ ItemsOp .LtE A.in1 ⟨hp, g, d, tk, os⟩ vs ws ds' es' /\ cmpL .LtE ds' es' = some k) _
    case turn =>
      rintro ⟨y, x⟩ rest b s' ⟨hb', rfl, vs, ws, ds', es', hz, hv, hw, hlen, hI', hR⟩
      cases vs with
      | nil => rw [List.zip_nil_left] at hz; cases hz
      | cons v0 vs =>
        cases ws with
        | nil => rw [List.zip_nil_right] at hz; cases hz
        | cons w0 ws =>
          cases ds' with
          | nil => simp at hv
          | cons d0 ds' =>
            cases es' with
            | nil => simp at hw
            | cons e0 es' =>
              rw [List.zip_cons_cons] at hz
              injection hz with hyx hrest
              injection hyx with hy hx
              subst hy hx
              simp only [List.length_cons] at hlen hv hw
              obtain ⟨he, hc⟩ := hI' 0 y x d0 e0 rfl rfl rfl rfl
              have hI2 : ItemsOp .LtE A.in1 ⟨hp, g, d, tk, os⟩ vs ws ds' es' := fun i v w d e h1 h2 h3 h4 => hI' (i + 1) v w d e (by simpa using h1) (by simpa using h2) (by simpa using h3) (by simpa using h4)
              rw [cmpL] at hR
              refine wpAny_bind (he prog w _ _ ?_)
              cases q : PyData.eqv d0 e0 with
              | true =>
                rw [q, if_pos rfl] at hR
                wp_walk
                exact ⟨rfl, rfl, _, _, _, _, hrest, by omega, by omega, by omega, hI2, hR⟩
              | false =>
                rw [q, if_neg (by decide)] at hR
                have hri := hc k hR prog w
                wp_walk using hri
                exact ⟨_, rfl, by simpa using h⟩
    case fin =>
      rintro ⟨b1, b2⟩ s' ⟨hb', rfl, vs, ws, ds', es', hz, hv, hw, hlen, hI', hR⟩
      simp only at hb'
      subst hb'
      have hv' : k = decide (items.size <= items2.size) := by
        cases ds' with
        | nil =>
          rw [cmpL] at hR
          have := Option.some.inj hR
          rw [← this]
          simp only [List.length_nil] at hlen
          simp only [zCmp]
          exact decide_eq_decide.mpr (by omega)
        | cons d0 ds' =>
          cases es' with
          | nil =>
            rw [cmpL] at hR
            have := Option.some.inj hR
            rw [← this]
            simp only [List.length_nil, List.length_cons] at hlen
            simp only [zCmp]
            exact decide_eq_decide.mpr (by omega)
          | cons e0 es' =>
            cases vs with
            | nil => simp at hv
            | cons v0 vs =>
              cases ws with
              | nil => simp at hw
              | cons w0 ws => rw [List.zip_cons_cons] at hz; cases hz
      rw [hv'] at h
      wp_walk
      exact ⟨_, rfl, by simpa [Builtin.Tuple.tupleCompareSizes] using h⟩
    case h =>
      exact ⟨rfl, rfl, items.toList, items2.toList, ds, es, rfl, hz1, hz2, by omega, hI, hk⟩
theorem rc_tuple {op : CmpOp} (ho : op = .Lt \/ op = .LtE) {A : Around} {s : Shared} {l b : Addr} {items items2 : Array Value} {ds es : List PyData} {k : Bool} (hl : IsTup s.heap l items) (hb : IsTup s.heap b items2) (hz1 : items.toList.length = ds.length) (hz2 : items2.toList.length = es.length)
    (hI : ItemsOp op A.in1 s items.toList items2.toList ds es) (hk : cmpL op ds es = some k) (hu : A.units < cLine) : RcOp op A s (.ref l) (.ref b) k := fun prog w E Q q => by
  obtain ⟨⟨cls, dd, data, sl⟩, ho1, hc, n, hd⟩ := id hl
  obtain ⟨⟨cls2, dd2, data2, sl2⟩, ho2, hc2, n2, hd2⟩ := id hb
  simp only at hc hd hc2 hd2
  subst hc hd hc2 hd2
  rcases ho with rfl | rfl
  . exact richCompare_meets_room (op := .Lt) ⟨_, ho1, rfl⟩ ⟨_, ho2, rfl⟩ PySem.F.slot_tuple_lt PySem.F.entry_tuple_lt (PySem.F.args_tuple_lt_2 _ _) (tuple_lt_data l b items items2 n n2 dd dd2 sl sl2 ds es k hz1 hz2 hk)
      ⟨ho1, ho2, hI, show Value.bool k ≠ Value.notImplemented /\ Q (.bool k) s from ⟨(fun x => nomatch x), q⟩⟩ hu
  . exact richCompare_meets_room (op := .LtE) ⟨_, ho1, rfl⟩ ⟨_, ho2, rfl⟩ PySem.F.slot_tuple_le PySem.F.entry_tuple_le (PySem.F.args_tuple_le_2 _ _) (tuple_le_data l b items items2 n n2 dd dd2 sl sl2 ds es k hz1 hz2 hk)
      ⟨ho1, ho2, hI, show Value.bool k ≠ Value.notImplemented /\ Q (.bool k) s from ⟨(fun x => nomatch x), q⟩⟩ hu
mutual
theorem rc_data {op : CmpOp} (ho : op = .Lt \/ op = .LtE) : ∀ (a b : PyData) (A : Around) (s : Shared) (u v : Value) (as bs : List Addr) (k : Bool), Reads s.heap u a as -> Reads s.heap v b bs -> a.canLay0 = true -> b.canLay0 = true -> A.units + a.depth < cLine -> cmpD op a b = some k -> RcOp op A s u v k
  | .int i, b, A, s, _, _, _, _, k, ra, rb, _, _, _, e => by
    have oo : ordOp op = true := by rcases ho with rfl | rfl <;> rfl
    cases b with
    | int j => cases ra; cases rb; cases e; exact rc_int oo A s i j _ _
    | _ => cases e
  | .str x, b, A, s, _, _, _, _, k, ra, rb, _, _, _, e => by
    have oo : ordOp op = true := by rcases ho with rfl | rfl <;> rfl
    cases b with
    | str j => cases ra; cases rb; cases e; exact rc_str oo A s x j _ _
    | _ => cases e
  | .tuple xs, b, A, s, _, _, _, _, k, ra, rb, ha, hb, hu, e => by
    cases b with
    | tuple ys =>
      cases ra with
      | tuple h1 h2 h3 h4 =>
        cases rb with
        | tuple k1 k2 k3 k4 =>
          have hu' : A.units + (PyData.depthAll xs + 1) < cLine := hu
          refine rc_tuple ho ⟨_, h1, h2, _, h3⟩ ⟨_, k1, k2, _, k3⟩ (SeqAt.ReadsAll.length _ _ _ h4) (SeqAt.ReadsAll.length _ _ _ k4) ?_ e (by omega)
          exact rc_dataL ho xs ys A.in1 s _ _ _ _ h4 k4 ha hb (by show A.units + 1 + _ < _; omega)
    | _ => cases e
  | .none, b, _, _, _, _, _, _, _, _, _, _, _, _, e => by cases b <;> cases e
  | .bool _, b, _, _, _, _, _, _, _, _, _, _, _, _, e => by cases b <;> cases e
  | .list _, b, _, _, _, _, _, _, _, _, _, _, _, _, e => by cases b <;> cases e
  | .dict _, b, _, _, _, _, _, _, _, _, _, _, _, _, e => by cases b <;> cases e
theorem rc_dataL {op : CmpOp} (ho : op = .Lt \/ op = .LtE) : ∀ (xs ys : List PyData) (A : Around) (s : Shared) (vs ws : List Value) (as bs : List Addr), ReadsAll s.heap vs xs as -> ReadsAll s.heap ws ys bs -> PyData.canLayAll0 xs = true -> PyData.canLayAll0 ys = true -> A.units + PyData.depthAll xs < cLine -> ItemsOp op A s vs ws xs ys
  | [], _, _, _, _, _, _, _, _, _, _, _, _ => fun i v w d e h1 h2 h3 h4 => by simp at h3
  | _ :: _, [], _, _, _, _, _, _, _, _, _, _, _ => fun i v w d e h1 h2 h3 h4 => by simp at h4
  | x :: xs, y :: ys, A, s, _, _, _, _, ra, rb, ha, hb, hu => by
    have ha' : x.canLay0 = true /\ PyData.canLayAll0 xs = true := by simpa [PyData.canLayAll0] using ha
    have hb' : y.canLay0 = true /\ PyData.canLayAll0 ys = true := by simpa [PyData.canLayAll0] using hb
    have hu' : A.units + max x.depth (PyData.depthAll xs) < cLine := hu
    cases ra with
    | cons r1 r2 =>
      cases rb with
      | cons q1 q2 =>
        intro i v w d e h1 h2 h3 h4
        cases i with
        | zero =>
          simp at h1 h2 h3 h4
          subst h1 h2 h3 h4
          exact ⟨SeqAt.eqAt_reads _ _ _ _ _ _ _ _ r1 q1 ha'.1 hb'.1 (by omega), fun k hk => rc_data ho _ _ A s _ _ _ _ k r1 q1 ha'.1 hb'.1 (by omega) hk⟩
        | succ i => exact rc_dataL ho xs ys A s _ _ _ _ r2 q2 ha'.2 hb'.2 (by omega) i v w d e (by simpa using h1) (by simpa using h2) (by simpa using h3) (by simpa using h4)
end
noncomputable def dCmp (op : CmpOp) (a b : PyData) : Option PyData := if a.depth <= 60 then (cmpD op a b).map .bool else none
def rCmpD (op : CmpOp) : R2 := fun x y H Q => ∃ G a b k, Same G H /\ Rep G a x /\ Rep G b y /\ a.depth <= 60 /\ cmpD op a b = some k /\ Q (.bl k) H
section
variable {X : Cx}
theorem op_cmpD {op : CmpOp} (ho : op = .Lt \/ op = .LtE) (hu : X.A.units + 64 < cLine) : OpR X (compareOp op) (rCmpD op) := by
  rintro pins s σ H x y v u Q I rx ry ⟨G, a, b, k, hG, ra, rb, hd, e, q⟩
  obtain ⟨as, r1⟩ := ra.reads I hG rx
  obtain ⟨bs, r2⟩ := rb.reads I hG ry
  have := rc_data ho a b X.A s v u as bs k r1 r2 ra.lay rb.lay (by omega) e X.prog X.w X.xe (EP X pins σ Q) ⟨.bl k, H, I, rfl, q⟩
  rcases ho with rfl | rfl
  . exact this
  . exact this
theorem op_cmpS {op : CmpOp} (ho : op = .Gt \/ op = .GtE) : OpR X (compareOp op) (fun x y H Q => ∃ i j, x = .int i /\ y = .int j /\ Q (.bl (iCmp op i j)) H) := by
  rintro pins s σ H x y v u Q I rx ry ⟨i, j, e1, e2, q⟩
  subst e1 e2
  obtain ⟨t, rfl⟩ := rx
  obtain ⟨t', rfl⟩ := ry
  rcases ho with rfl | rfl
  . exact gt_int ⟨.bl _, H, I, rfl, q⟩
  . exact ge_int ⟨.bl _, H, I, rfl, q⟩
theorem opD_cmp {op : CmpOp} : OpD (rCmpD op) (dCmp op) := by
  intro G H x y a b d Q hG ra rb e q
  unfold dCmp at e
  split at e
  . rename_i h
    cases e1 : cmpD op a b with
    | none => rw [e1] at e; cases e
    | some k => rw [e1] at e; cases e; exact ⟨G, a, b, k, hG, ra, rb, h, e1, q _ G H (Grow.refl hG) rfl⟩
  . cases e
noncomputable def dCmpS (op : CmpOp) : PyData -> PyData -> Option PyData
  | .int i, .int j => some (.bool (iCmp op i j))
  | _, _ => none
theorem opD_cmpS {op : CmpOp} : OpD (fun x y H Q => ∃ i j, x = .int i /\ y = .int j /\ Q (.bl (iCmp op i j)) H) (dCmpS op) := by
  intro G H x y a b d Q hG ra rb e q
  cases a with
  | int i => cases b with
    | int j => cases e; cases (show _ = _ from ra); cases (show _ = _ from rb); exact ⟨i, j, rfl, rfl, q _ G H (Grow.refl hG) rfl⟩
    | _ => cases e
  | _ => cases e
end
end Sm
end
section
set_option Elab.async false
set_option linter.all false
set_option maxRecDepth 100000
set_option maxHeartbeats 4000000
set_option autoImplicit false
namespace Sm
open PySem PySem.Spec PyProof.Rows L2
theorem Res.bind_assoc {α β γ : Type} (r : Res α) (f : α -> Res β) (g : β -> Res γ) : (r.bind f).bind g = r.bind fun x => (f x).bind g := by cases r <;> rfl
structure Cxt (P : Program) (w : World) (K : PySem.W.Frag) (mg : Str -> Option Value) (base : Heap) (X : Cx) (N : List Str) (sc : Scope) (k : Nat) (df : Bool) : Prop where
  hP : X.prog = P
  hw : X.w = w
  hK : X.K = K
  hmg : X.mg = mg
  hb : X.base = base
  hN : X.N = N
  hs : X.env.scope = sc
  calm : X.calm = true
  room : Room k X.A
  fn : df = true -> ∀ x, X.fn x = true
  own : PassesOwn (model X.prog X.w) X.A X.env X.xe
noncomputable def relS (scope sc : Scope) : Scope :=
  { scope with names := scope.names.map fun (n, k) => if (k == .free && sc.kind == .function && sc.names.lookup n == some .cell) then (n, .cell) else (n, k) }
theorem relS_eq {X : Cx} {scope sc : Scope} (h : X.env.scope = sc) : relabel scope X.env = relS scope sc := by subst h; rfl
section
variable {P : Program} {w : World} {K : PySem.W.Frag} {mg : Str -> Option Value} {base : Heap} {X : Cx} {N : List Str} {sc : Scope} {k : Nat} {df : Bool} {E : EK} {pos : Pos}
theorem Cxt.blk (C : Cxt P w K mg base X N sc k df) {X' : Cx} {N' : List Str} {scope : Scope} (B : Blk X X' N' (relabel scope X.env)) : Cxt P w K mg base X' N' (relS scope sc) k false :=
  ⟨B.prog.trans C.hP, B.w.trans C.hw, B.K.trans C.hK, B.mg.trans C.hmg, B.base.trans C.hb, B.N, B.sc.trans (relS_eq C.hs), B.calm.trans C.calm, by rw [B.A]; exact C.room, (fun h => by cases h), by rw [B.xe]; exact PassesOwn.never⟩
theorem Cxt.hu (C : Cxt P w K mg base X N sc k df) : X.A.units + 64 < cLine := C.room.units
noncomputable def okVar (N : List Str) (sc : Scope) (i : Nat) (x : Str) : Bool :=
  (N[i]? == some x) && (match sc.names.lookup x with | some .local => true | some .cell => true | some .free => true | _ => false) && !(x == ("__debug__" : Str)) && !(x == ("__classdict__" : Str))
theorem d_var (C : Cxt P w K mg base X N sc k df) (i : Nat) {x : Str} (h : okVar N sc i x = true) : DE X E (.Name x pos) (vVar i) := by
  unfold okVar at h
  simp only [Bool.and_eq_true, Bool.not_eq_true'] at h
  obtain ⟨⟨⟨h1, h2⟩, h3⟩, h4⟩ := h
  refine d_var' (by rw [C.hN]; exact eq_of_beq h1) ?_ h3 h4
  rw [C.hs]
  unfold Vis
  cases q : sc.names.lookup x with
  | none => rw [q] at h2; cases h2
  | some z =>
    rw [q] at h2
    cases z with
    | «local» => exact .inl rfl
    | cell => exact .inr (.inl rfl)
    | free => exact .inr (.inr rfl)
    | _ => cases h2
noncomputable def okGl (sc : Scope) (x : Str) : Bool := (sc.names.lookup x == some .globalImplicit) && !(x == ("__debug__" : Str)) && !(x == ("__name__" : Str))
theorem okGl.gl (C : Cxt P w K mg base X N sc k df) {x : Str} (h : okGl sc x = true) : Gl X x /\ (x == ("__debug__" : Str)) = false /\ x ≠ "__name__" := by
  unfold okGl at h
  simp only [Bool.and_eq_true, Bool.not_eq_true'] at h
  obtain ⟨⟨h1, h2⟩, h3⟩ := h
  refine ⟨?_, h2, by simpa using h3⟩
  unfold Gl
  show X.env.scope.names.lookup x = _
  rw [C.hs]; exact eq_of_beq h1
theorem d_globS (C : Cxt P w K mg base X N sc k df) {x z : Str} (h : okGl sc x = true) (hm : ∃ t, mg x = some (.str z t)) (hz : autoParam (PyData.strOk z = true) L2.ax7._auto_1) (hl : autoParam (z.length <= sizeLine) L2.ax7._auto_1) : DE X E (.Name x pos) (vC (.str z)) := by
  obtain ⟨t, hm⟩ := hm
  obtain ⟨h1, h2, h3⟩ := okGl.gl C h
  exact PE.imp (pe_glob (v := .str z) h1 (by rw [C.hmg]; exact hm) ⟨t, rfl⟩ h2) fun σ H Q ⟨G, δ, S, a⟩ => a _ G H (Grow.refl S.sub) ⟨rfl, hz, hl⟩
theorem d_globI (C : Cxt P w K mg base X N sc k df) {x : Str} {i : Int} (h : okGl sc x = true) (hm : ∃ t, mg x = some (.int i t)) : DE X E (.Name x pos) (vC (.int i)) := by
  obtain ⟨t, hm⟩ := hm
  obtain ⟨h1, h2, h3⟩ := okGl.gl C h
  exact PE.imp (pe_glob (v := .int i) h1 (by rw [C.hmg]; exact hm) ⟨t, rfl⟩ h2) fun σ H Q ⟨G, δ, S, a⟩ => a _ G H (Grow.refl S.sub) rfl
variable {a b c : Expr} {f g f' : Dn -> Res PyData}
theorem d_add (ha : DE X E a f) (hb : DE X E b g) : DE X E (.BinOp a .Add b pos) (b2 f g dAdd) := d_bin op_addD opD_add ha hb
theorem d_sub (ha : DE X E a f) (hb : DE X E b g) : DE X E (.BinOp a .Sub b pos) (b2 f g dSub) := d_bin op_sub opD_sub ha hb
theorem d_mul (ha : DE X E a f) (hb : DE X E b g) : DE X E (.BinOp a .Mult b pos) (b2 f g dMul) := d_bin op_mulD opD_mul ha hb
theorem d_mod (ha : DE X E a f) (hb : DE X E b g) : DE X E (.BinOp a .Mod b pos) (b2 f g dMod) := d_bin op_mod opD_mod ha hb
theorem d_fdiv (ha : DE X E a f) (hb : DE X E b g) : DE X E (.BinOp a .FloorDiv b pos) (b2 f g dFdiv) := d_bin op_fdiv opD_fdiv ha hb
theorem d_eq (C : Cxt P w K mg base X N sc k df) (ha : DE X E a f) (hb : DE X E b g) : DE X E (.Compare a [.Eq] [b] pos) (b2 f g dEq) := d_cmp (op_eqD C.hu) opD_eq ha hb (nomark _)
theorem d_lt (C : Cxt P w K mg base X N sc k df) (ha : DE X E a f) (hb : DE X E b g) : DE X E (.Compare a [.Lt] [b] pos) (b2 f g (dCmp .Lt)) := d_cmp (op_cmpD (.inl rfl) C.hu) opD_cmp ha hb (nomark _)
theorem d_ge (C : Cxt P w K mg base X N sc k df) (ha : DE X E a f) (hb : DE X E b g) : DE X E (.Compare a [.GtE] [b] pos) (b2 f g (dCmpS .GtE)) := d_cmp (op_cmpS (.inr rfl)) opD_cmpS ha hb (nomark _)
theorem d_in (C : Cxt P w K mg base X N sc k df) (ha : DE X E a f) (hb : DE X E b g) (hm : autoParam (behindInMarks .In b = false) L2.ax6._auto_1) : DE X E (.Compare a [.In] [b] pos) (b2 f g (dIn false)) := d_cmp (op_inD C.hu) opD_in ha hb hm
noncomputable def vChain (f g f' : Dn -> Res PyData) (op op' : PyData -> PyData -> Option PyData) : Dn -> Res PyData := fun δ => (f δ).bind fun x => (g δ).bind fun y => (ofO (op x y)).bind fun z => match z with
  | .bool true => (f' δ).bind fun u => ofO (op' y u)
  | .bool false => .ok (.bool false)
  | _ => .no
theorem d_chain' {o o' : CmpOp} {r r' : R2} {op op' : PyData -> PyData -> Option PyData} (hr : OpR X (compareOp o) r) (ho : OpD r op) (hr' : OpR X (compareOp o') r') (ho' : OpD r' op') (ha : DE X E a f) (hb : DE X E b g) (hc : DE X E c f')
    (hm : lastMarks [o, o'] [b, c] = false) : DE X E (.Compare a [o, o'] [b, c] pos) (vChain f g f' op op') := by
  refine PE.imp (pe_chain hr hr' ha hb hc hm) fun σ H Q hhh => ?_
  obtain ⟨G, δ, S, aft⟩ := hhh
  refine aft_bind S aft fun d1 v1 G1 H1 g1 r1 S1 a1 => ?_
  refine aft_bind S1 a1 fun d2 v2 G2 H2 g2 r2 S2 a2 => ?_
  cases e : op d1 d2 with
  | none => rw [e] at a2; exact a2.elim
  | some d =>
    rw [e] at a2
    refine ho G2 H2 v1 v2 d1 d2 d _ S2.sub (r1.mono g2.g) r2 e fun v G3 H3 g3 r3 => ?_
    cases d with
    | bool kk =>
      refine ⟨kk, r3, ?_⟩
      have S3 := S2.grow g3
      cases kk with
      | false => rw [if_neg (by decide)]; exact a2 _ G3 H3 g3 rfl
      | true =>
        rw [if_pos rfl]
        refine aft_bind S3 (Aft.grow g3 a2) fun d4 v4 G4 H4 g4 r4 S4 a4 => ?_
        cases e' : op' d2 d4 with
        | none => rw [e'] at a4; exact a4.elim
        | some d => rw [e'] at a4; exact ho' G4 H4 v2 v4 d2 d4 d Q S4.sub (r2.mono (g3.g.trans g4.g)) r4 e' a4
    | _ => exact (show False from a2).elim
theorem d_chainLe (C : Cxt P w K mg base X N sc k df) (ha : DE X E a f) (hb : DE X E b g) (hc : DE X E c f') (hm : autoParam (lastMarks [.LtE, .LtE] [b, c] = false) L2.ax6._auto_1) : DE X E (.Compare a [.LtE, .LtE] [b, c] pos) (vChain f g f' (dCmp .LtE) (dCmp .LtE)) :=
  d_chain' (op_cmpD (.inr rfl) C.hu) opD_cmp (op_cmpD (.inr rfl) C.hu) opD_cmp ha hb hc hm
noncomputable def isNone : PyData -> Bool
  | .none => true
  | _ => false
noncomputable def b1 (f : Dn -> Res PyData) (op : PyData -> Option PyData) : Dn -> Res PyData := fun δ => (f δ).bind fun x => ofO (op x)
theorem Rep.non {G : Hp} {d : PyData} {v : V} (r : Rep G d v) : decide (v = .non) = isNone d := by
  cases d with
  | none => cases (show _ = _ from r); rfl
  | bool _ => cases (show _ = _ from r); rfl
  | int _ => cases (show _ = _ from r); rfl
  | str _ => cases r.1; rfl
  | list _ => obtain ⟨a, xs, rfl, _⟩ := r; rfl
  | tuple _ => obtain ⟨a, xs, rfl, _⟩ := r; rfl
  | dict _ => exact (show False from r).elim
theorem d_isN {j : Nat} {p : Pos} (ha : DE X E a f) : DE X E (.Compare a [.Is] [.Constant .none j p] pos) (b1 f fun d => some (.bool (isNone d))) := by
  refine PE.imp (pe_cmp (pc_isN ha)) fun σ H Q hhh => ?_
  obtain ⟨G, δ, S, aft⟩ := hhh
  exact aft_bind S aft fun d1 v1 G1 H1 g1 r1 S1 a1 => by rw [r1.non]; exact a1 _ G1 H1 (Grow.refl S1.sub) rfl
noncomputable def dNeg : PyData -> Option PyData
  | .int i => some (.int (-i))
  | _ => none
theorem d_neg (ha : DE X E a f) : DE X E (.UnaryOp .USub a pos) (b1 f dNeg) := by
  refine PE.imp (pe_un un_neg ha) fun σ H Q hhh => ?_
  obtain ⟨G, δ, S, aft⟩ := hhh
  refine aft_bind S aft fun d1 v1 G1 H1 g1 r1 S1 a1 => ?_
  cases d1 with
  | int i => cases (show _ = _ from r1); exact ⟨i, rfl, a1 _ G1 H1 (Grow.refl S1.sub) rfl⟩
  | _ => exact (show False from a1).elim
noncomputable def vAnd (f g : Dn -> Res PyData) : Dn -> Res PyData := fun δ => (f δ).bind fun x => match x with
  | .bool true => g δ
  | .bool false => .ok (.bool false)
  | _ => .no
noncomputable def vOr (f g : Dn -> Res PyData) : Dn -> Res PyData := fun δ => (f δ).bind fun x => match x with
  | .bool false => g δ
  | .bool true => .ok (.bool true)
  | _ => .no
noncomputable def dNot : PyData -> Option PyData
  | .bool b => some (.bool (!b))
  | _ => none
variable {rest : List Expr}
theorem d_one {op : BoolOp} (ha : DE X E a f) : DE X E (.BoolOp op [a] pos) f := pe_one ha
theorem d_and (ha : DE X E a f) (hb : DE X E (.BoolOp .And (b :: rest) pos) g) : DE X E (.BoolOp .And (a :: b :: rest) pos) (vAnd f g) := by
  refine PE.imp (pe_and ha hb) fun σ H Q hhh => ?_
  obtain ⟨G, δ, S, aft⟩ := hhh
  refine aft_bind S aft fun d1 v1 G1 H1 g1 r1 S1 a1 => ?_
  cases d1 with
  | bool kk =>
    refine ⟨kk, r1, ?_⟩
    cases kk with
    | true => rw [if_pos rfl]; exact ⟨G1, δ, S1, a1⟩
    | false => rw [if_neg (by decide)]; exact a1 _ G1 H1 (Grow.refl S1.sub) rfl
  | _ => exact (show False from a1).elim
theorem d_or (ha : DE X E a f) (hb : DE X E (.BoolOp .Or (b :: rest) pos) g) : DE X E (.BoolOp .Or (a :: b :: rest) pos) (vOr f g) := by
  refine PE.imp (pe_or ha hb) fun σ H Q hhh => ?_
  obtain ⟨G, δ, S, aft⟩ := hhh
  refine aft_bind S aft fun d1 v1 G1 H1 g1 r1 S1 a1 => ?_
  cases d1 with
  | bool kk =>
    refine ⟨kk, r1, ?_⟩
    cases kk with
    | true => rw [if_pos rfl]; exact a1 _ G1 H1 (Grow.refl S1.sub) rfl
    | false => rw [if_neg (by decide)]; exact ⟨G1, δ, S1, a1⟩
  | _ => exact (show False from a1).elim
theorem d_not (ha : DE X E a f) : DE X E (.UnaryOp .Not a pos) (b1 f dNot) := by
  refine PE.imp (pe_not ha) fun σ H Q hhh => ?_
  obtain ⟨G, δ, S, aft⟩ := hhh
  refine aft_bind S aft fun d1 v1 G1 H1 g1 r1 S1 a1 => ?_
  cases d1 with
  | bool kk => exact ⟨kk, r1, a1 _ G1 H1 (Grow.refl S1.sub) rfl⟩
  | _ => exact (show False from a1).elim
def AftT (E : EK) (G H : Hp) (r : Res Bool) (Q : Bool -> Hp -> Prop) : Prop := match r with
  | .ok d => ∀ G' H', Grow G H G' H' -> Q d H'
  | .exc c => ∀ G' H', Grow G H G' H' -> E c H'
  | .no => False
def tT (E : EK) (f : Dn -> Res Bool) : TT := fun σ H Q => ∃ G δ, SR G H σ δ /\ AftT E G H (f δ) Q
abbrev DT (X : Cx) (E : EK) (e : Expr) (f : Dn -> Res Bool) : Prop := PT X e (tT E f)
abbrev DW (X : Cx) (E : EK) (e : Expr) (f : Dn -> Res Bool) : Prop := PW X e (tT E f)
theorem AftT.grow {E : EK} {G H G' H' : Hp} {r : Res Bool} {Q : Bool -> Hp -> Prop} (g : Grow G H G' H') (a : AftT E G H r Q) : AftT E G' H' r Q := by
  cases r with
  | ok d => exact fun G2 H2 g2 => a G2 H2 (g.trans g2)
  | exc c => exact fun G2 H2 g2 => a G2 H2 (g.trans g2)
  | no => exact a
theorem PT.imp {X : Cx} {e : Expr} {t t' : TT} (h : PT X e t) (i : ∀ σ H Q, t' σ H Q -> t σ H Q) : PT X e t' := fun pins s σ H Q I q => h pins s σ H Q I (i _ _ _ q)
theorem PW.imp {X : Cx} {e : Expr} {t t' : TT} (h : PW X e t) (i : ∀ σ H Q, t' σ H Q -> t σ H Q) : PW X e t' := fun wh pins s σ H Q I q => h wh pins s σ H Q I (i _ _ _ q)
theorem aftT_bind {E : EK} {G H : Hp} {σ : St} {δ : Dn} {f : Dn -> Res PyData} {k : PyData -> Res Bool} {Q : Bool -> Hp -> Prop} {R : VK} (S : SR G H σ δ) (a : AftT E G H ((f δ).bind k) Q)
    (h : ∀ d v G1 H1, Grow G H G1 H1 -> Rep G1 d v -> SR G1 H1 σ δ -> AftT E G1 H1 (k d) Q -> R v H1) : tD E f σ H R := by
  refine ⟨G, δ, S, ?_⟩
  cases e : f δ with
  | ok d =>
    rw [e] at a
    exact fun v G' H' g r => h d v G' H' g r (S.grow g) (AftT.grow g a)
  | exc c => rw [e] at a; exact a
  | no => rw [e] at a; exact a
theorem aftTT_bind {E : EK} {G H : Hp} {σ : St} {δ : Dn} {f : Dn -> Res Bool} {k : Bool -> Res Bool} {Q R : Bool -> Hp -> Prop} (S : SR G H σ δ) (a : AftT E G H ((f δ).bind k) Q)
    (h : ∀ d G1 H1, Grow G H G1 H1 -> SR G1 H1 σ δ -> AftT E G1 H1 (k d) Q -> R d H1) : tT E f σ H R := by
  refine ⟨G, δ, S, ?_⟩
  cases e : f δ with
  | ok d =>
    rw [e] at a
    exact fun G' H' g => h d G' H' g (S.grow g) (AftT.grow g a)
  | exc c => rw [e] at a; exact a
  | no => rw [e] at a; exact a
theorem aftTD_bind {E : EK} {G H : Hp} {σ : St} {δ : Dn} {f : Dn -> Res Bool} {k : Bool -> Res PyData} {Q : VK} {R : Bool -> Hp -> Prop} (S : SR G H σ δ) (a : Aft E G H ((f δ).bind k) Q)
    (h : ∀ d G1 H1, Grow G H G1 H1 -> SR G1 H1 σ δ -> Aft E G1 H1 (k d) Q -> R d H1) : tT E f σ H R := by
  refine ⟨G, δ, S, ?_⟩
  cases e : f δ with
  | ok d =>
    rw [e] at a
    exact fun G' H' g => h d G' H' g (S.grow g) (Aft.grow g a)
  | exc c => rw [e] at a; exact a
  | no => rw [e] at a; exact a
noncomputable def truD : PyData -> Option Bool
  | .none => some false
  | .bool b => some b
  | .int i => some (i != 0)
  | .str x => some (x.length != 0)
  | .list xs => some (!xs.isEmpty)
  | .tuple xs => some (!xs.isEmpty)
  | .dict _ => none
noncomputable def cVal (f : Dn -> Res PyData) : Dn -> Res Bool := fun δ => (f δ).bind fun d => ofO (truD d)
theorem RepL.isEmpty {G : Hp} {ds : List PyData} {xs : List V} (r : RepL G ds xs) : ds.isEmpty = xs.isEmpty := by
  have := r.length
  cases ds <;> cases xs <;> simp at this ⊢
theorem Rep.truV {G H : Hp} (hG : Same G H) {d : PyData} {v : V} (r : Rep G d v) {kk : Bool} (e : truD d = some kk) : TruV K v H kk := by
  cases d with
  | none => cases (show _ = _ from r); cases e; rfl
  | bool _ => cases (show _ = _ from r); cases e; rfl
  | int _ => cases (show _ = _ from r); cases e; rfl
  | str x =>
    cases r.1; cases e
    refine ⟨r.2.2, ?_⟩
    show (x.length != 0) = ((x.length : Int) != 0)
    rw [Bool.eq_iff_iff]; simp
  | list _ => obtain ⟨a, xs, rfl, h1, l1⟩ := r; cases e; exact .inl ⟨xs, .inl (Rd.mono hG h1), by rw [l1.isEmpty]⟩
  | tuple _ => obtain ⟨a, xs, rfl, h1, l1⟩ := r; cases e; exact .inr (.inl ⟨xs, .inl (.inl (hG _ _ h1)), by rw [l1.isEmpty]⟩)
  | dict _ => cases e
theorem t_val (ha : DE X E a f) (he : autoParam (∀ whole, isTrue a X.env whole = (do let v ← whole; standAt a.pos; holding [v] (truthy v))) L2.ax5._auto_1) : DT X E a (cVal f) := by
  refine PT.imp (pt_truth ha he) fun σ H Q hhh => ?_
  obtain ⟨G, δ, S, aft⟩ := hhh
  refine aftT_bind S aft fun d1 v1 G1 H1 g1 r1 S1 a1 => ?_
  cases e : truD d1 with
  | none => rw [e] at a1; exact a1.elim
  | some kk => rw [e] at a1; exact ⟨kk, r1.truV S1.sub e, a1 G1 H1 (Grow.refl S1.sub)⟩
theorem t_cmp' {o : CmpOp} {r : R2} {op : PyData -> PyData -> Option PyData} (hr : OpR X (compareOp o) r) (ho : OpD r op) (hbool : ∀ x y d, op x y = some d -> ∃ kk, d = .bool kk) (ha : DE X E a f) (hb : DE X E b g) (hm : behindInMarks o b = false) :
    DT X E (.Compare a [o] [b] pos) (cVal (b2 f g op)) := by
  refine PT.imp (pt_cmpR hr ha hb hm) fun σ H Q hhh => ?_
  obtain ⟨G, δ, S, aft⟩ := hhh
  have aft' : AftT E G H ((f δ).bind fun x => (g δ).bind fun y => (ofO (op x y)).bind fun d => ofO (truD d)) Q := by
    unfold cVal b2 at aft
    simp only [Res.bind_assoc] at aft
    exact aft
  refine aftT_bind S aft' fun d1 v1 G1 H1 g1 r1 S1 a1 => ?_
  refine aftT_bind S1 a1 fun d2 v2 G2 H2 g2 r2 S2 a2 => ?_
  cases e : op d1 d2 with
  | none => rw [e] at a2; exact a2.elim
  | some d =>
    rw [e] at a2
    obtain ⟨kk, rfl⟩ := hbool _ _ _ e
    exact ho G2 H2 v1 v2 d1 d2 _ _ S2.sub (r1.mono g2.g) r2 e fun v G3 H3 g3 r3 => ⟨kk, r3, a2 G3 H3 g3⟩
theorem bool_eq (x y d : PyData) (e : dEq x y = some d) : ∃ kk, d = .bool kk := by unfold dEq at e; split at e <;> cases e; exact ⟨_, rfl⟩
theorem bool_ne (x y d : PyData) (e : dNe x y = some d) : ∃ kk, d = .bool kk := by unfold dNe at e; split at e <;> cases e; exact ⟨_, rfl⟩
theorem bool_cmp {op : CmpOp} (x y d : PyData) (e : dCmp op x y = some d) : ∃ kk, d = .bool kk := by
  unfold dCmp at e; split at e
  . obtain ⟨kk, _, rfl⟩ := Option.map_eq_some_iff.mp e; exact ⟨_, rfl⟩
  . cases e
theorem t_eq (C : Cxt P w K mg base X N sc k df) (ha : DE X E a f) (hb : DE X E b g) : DT X E (.Compare a [.Eq] [b] pos) (cVal (b2 f g dEq)) := t_cmp' (op_eqD C.hu) opD_eq bool_eq ha hb (nomark _)
theorem t_ne (C : Cxt P w K mg base X N sc k df) (ha : DE X E a f) (hb : DE X E b g) : DT X E (.Compare a [.NotEq] [b] pos) (cVal (b2 f g dNe)) := t_cmp' (op_neD C.hu) opD_ne bool_ne ha hb (nomark _)
theorem t_lt (C : Cxt P w K mg base X N sc k df) (ha : DE X E a f) (hb : DE X E b g) : DT X E (.Compare a [.Lt] [b] pos) (cVal (b2 f g (dCmp .Lt))) := t_cmp' (op_cmpD (.inl rfl) C.hu) opD_cmp bool_cmp ha hb (nomark _)
theorem t_le (C : Cxt P w K mg base X N sc k df) (ha : DE X E a f) (hb : DE X E b g) : DT X E (.Compare a [.LtE] [b] pos) (cVal (b2 f g (dCmp .LtE))) := t_cmp' (op_cmpD (.inr rfl) C.hu) opD_cmp bool_cmp ha hb (nomark _)
theorem t_isN {j : Nat} {p : Pos} (ha : DE X E a f) : DT X E (.Compare a [.Is] [.Constant .none j p] pos) (fun δ => (f δ).bind fun d => .ok (isNone d)) := by
  refine PT.imp (pt_cmp (pc_isN ha)) fun σ H Q hhh => ?_
  obtain ⟨G, δ, S, aft⟩ := hhh
  exact aftT_bind S aft fun d1 v1 G1 H1 g1 r1 S1 a1 => by rw [r1.non]; exact ⟨_, rfl, a1 G1 H1 (Grow.refl S1.sub)⟩
theorem t_notN {j : Nat} {p : Pos} (ha : DE X E a f) : DT X E (.Compare a [.IsNot] [.Constant .none j p] pos) (fun δ => (f δ).bind fun d => .ok (!isNone d)) := by
  refine PT.imp (pt_cmp (pc_notN ha)) fun σ H Q hhh => ?_
  obtain ⟨G, δ, S, aft⟩ := hhh
  exact aftT_bind S aft fun d1 v1 G1 H1 g1 r1 S1 a1 => by rw [r1.non]; exact ⟨_, rfl, a1 G1 H1 (Grow.refl S1.sub)⟩
variable {c1 c2 : Dn -> Res Bool}
noncomputable def cNot (c : Dn -> Res Bool) : Dn -> Res Bool := fun δ => (c δ).bind fun b => .ok (!b)
noncomputable def cAnd (c c' : Dn -> Res Bool) : Dn -> Res Bool := fun δ => (c δ).bind fun b => if b = true then c' δ else .ok false
noncomputable def cOr (c c' : Dn -> Res Bool) : Dn -> Res Bool := fun δ => (c δ).bind fun b => if b = true then .ok true else c' δ
theorem t_not (ha : DT X E a c1) : DT X E (.UnaryOp .Not a pos) (cNot c1) := by
  refine PT.imp (pt_not ha) fun σ H Q hhh => ?_
  obtain ⟨G, δ, S, aft⟩ := hhh
  exact aftTT_bind S aft fun d G1 H1 g1 S1 a1 => a1 G1 H1 (Grow.refl S1.sub)
theorem w_and1 (ha : DT X E a c1) : DW X E (.BoolOp .And [a] pos) c1 := pw_and1 ha
theorem w_or1 (ha : DT X E a c1) : DW X E (.BoolOp .Or [a] pos) c1 := pw_or1 ha
theorem w_and (ha : DT X E a c1) (hb : DW X E (.BoolOp .And (b :: rest) pos) c2) : DW X E (.BoolOp .And (a :: b :: rest) pos) (cAnd c1 c2) := by
  refine PW.imp (pw_and ha hb) fun σ H Q hhh => ?_
  obtain ⟨G, δ, S, aft⟩ := hhh
  refine aftTT_bind S aft fun d G1 H1 g1 S1 a1 => ?_
  cases d with
  | true => rw [if_pos rfl]; exact ⟨G1, δ, S1, a1⟩
  | false => rw [if_neg (by decide)]; exact a1 G1 H1 (Grow.refl S1.sub)
theorem w_or (ha : DT X E a c1) (hb : DW X E (.BoolOp .Or (b :: rest) pos) c2) : DW X E (.BoolOp .Or (a :: b :: rest) pos) (cOr c1 c2) := by
  refine PW.imp (pw_or ha hb) fun σ H Q hhh => ?_
  obtain ⟨G, δ, S, aft⟩ := hhh
  refine aftTT_bind S aft fun d G1 H1 g1 S1 a1 => ?_
  cases d with
  | true => rw [if_pos rfl]; exact a1 G1 H1 (Grow.refl S1.sub)
  | false => rw [if_neg (by decide)]; exact ⟨G1, δ, S1, a1⟩
theorem w_t (h : DW X E a c1) : DT X E a c1 := h.pt
noncomputable def vIf (c : Dn -> Res Bool) (f g : Dn -> Res PyData) : Dn -> Res PyData := fun δ => (c δ).bind fun b => if b = true then f δ else g δ
theorem d_ifExp (hc : DT X E c c1) (ha : DE X E a f) (hb : DE X E b g) : DE X E (.IfExp c a b pos) (vIf c1 f g) := by
  refine PE.imp (pe_ifExp hc ha hb) fun σ H Q hhh => ?_
  obtain ⟨G, δ, S, aft⟩ := hhh
  refine aftTD_bind S aft fun d G1 H1 g1 S1 a1 => ?_
  cases d with
  | true => rw [if_pos rfl]; exact ⟨G1, δ, S1, a1⟩
  | false => rw [if_neg (by decide)]; exact ⟨G1, δ, S1, a1⟩
end
end Sm
end
section
set_option Elab.async false
set_option linter.all false
set_option maxRecDepth 100000
set_option maxHeartbeats 4000000
set_option autoImplicit false
namespace Sm
open PySem PySem.Spec PyProof.Rows L2
section
variable {P : Program} {w : World} {K : PySem.W.Frag} {mg : Str -> Option Value} {base : Heap} {X : Cx} {N : List Str} {sc : Scope} {k : Nat} {df : Bool} {E : EK} {pos : Pos} {a b c e : Expr} {es : List Expr} {f g : Dn -> Res PyData} {fs : Dn -> Res (List PyData)}
def AftL (E : EK) (G H : Hp) (r : Res (List PyData)) (Q : List V -> Hp -> Prop) : Prop := match r with
  | .ok ds => ∀ vs G' H', Grow G H G' H' -> RepL G' ds vs -> Q vs H'
  | .exc c => ∀ G' H', Grow G H G' H' -> E c H'
  | .no => False
def tA (E : EK) (fs : Dn -> Res (List PyData)) : TA := fun σ H Q => ∃ G δ, SR G H σ δ /\ AftL E G H (fs δ) Q
structure DA (X : Cx) (E : EK) (es : List Expr) (n : Nat) (fs : Dn -> Res (List PyData)) : Prop where
  pa : PA X es (tA E fs)
  len : ∀ δ ds, fs δ = .ok ds -> ds.length = n
theorem PA.imp {X : Cx} {es : List Expr} {t t' : TA} (h : PA X es t) (i : ∀ σ H Q, t' σ H Q -> t σ H Q) : PA X es t' := fun p pins s σ H Q I q => h p pins s σ H Q I (i _ _ _ q)
theorem AftL.grow {E : EK} {G H G' H' : Hp} {r : Res (List PyData)} {Q : List V -> Hp -> Prop} (g : Grow G H G' H') (a : AftL E G H r Q) : AftL E G' H' r Q := by
  cases r with
  | ok d => exact fun v G2 H2 g2 q => a v G2 H2 (g.trans g2) q
  | exc c => exact fun G2 H2 g2 => a G2 H2 (g.trans g2)
  | no => exact a
theorem aft_any {α : Type} {E : EK} {G H : Hp} {σ : St} {δ : Dn} {f : Dn -> Res PyData} {k : PyData -> Res α} {R : VK} {W : Hp -> Hp -> Res α -> Prop} (S : SR G H σ δ) (a : W G H ((f δ).bind k)) (hg : ∀ {G H G' H' : Hp} {r : Res α}, Grow G H G' H' -> W G H r -> W G' H' r)
    (hx : ∀ c, W G H (.exc c) -> ∀ G' H', Grow G H G' H' -> E c H') (hn : W G H .no -> False)
    (h : ∀ d v G1 H1, Grow G H G1 H1 -> Rep G1 d v -> SR G1 H1 σ δ -> W G1 H1 (k d) -> R v H1) : tD E f σ H R := by
  refine ⟨G, δ, S, ?_⟩
  cases e : f δ with
  | ok d => rw [e] at a; exact fun v G' H' g r => h d v G' H' g r (S.grow g) (hg g a)
  | exc c => rw [e] at a; exact hx c a
  | no => rw [e] at a; exact hn a
theorem aftA_any {α : Type} {E : EK} {G H : Hp} {σ : St} {δ : Dn} {fs : Dn -> Res (List PyData)} {k : List PyData -> Res α} {R : List V -> Hp -> Prop} {W : Hp -> Hp -> Res α -> Prop} (S : SR G H σ δ) (a : W G H ((fs δ).bind k)) (hg : ∀ {G H G' H' : Hp} {r : Res α}, Grow G H G' H' -> W G H r -> W G' H' r)
    (hx : ∀ c, W G H (.exc c) -> ∀ G' H', Grow G H G' H' -> E c H') (hn : W G H .no -> False)
    (h : ∀ ds vs G1 H1, fs δ = .ok ds -> Grow G H G1 H1 -> RepL G1 ds vs -> SR G1 H1 σ δ -> W G1 H1 (k ds) -> R vs H1) : tA E fs σ H R := by
  refine ⟨G, δ, S, ?_⟩
  cases e : fs δ with
  | ok d => rw [e] at a; exact fun v G' H' g r => h d v G' H' e g r (S.grow g) (hg g a)
  | exc c => rw [e] at a; exact hx c a
  | no => rw [e] at a; exact hn a
noncomputable def aNil : Dn -> Res (List PyData) := fun _ => .ok []
noncomputable def aCons (f : Dn -> Res PyData) (fs : Dn -> Res (List PyData)) : Dn -> Res (List PyData) := fun δ => (f δ).bind fun d => (fs δ).bind fun ds => .ok (d :: ds)
theorem a_nil : DA X E [] 0 aNil := ⟨PA.imp pa_nil fun σ H Q ⟨G, δ, S, a⟩ => a [] G H (Grow.refl S.sub) rfl, fun δ ds e => by cases e; rfl⟩
noncomputable def notStar : Expr -> Bool
  | .Starred .. => false
  | _ => true
theorem star_cons {a : Expr} {es : List Expr} {env : Env} (h : notStar a = true) : starEach (a :: es) env = (false, eval a env) :: starEach es env := by
  cases a <;> first | rfl | cases h
theorem a_cons {n : Nat} (ha : DE X E a f) (hr : DA X E es n fs) (hs : autoParam (notStar a = true) L2.ax4._auto_1) : DA X E (a :: es) (n + 1) (aCons f fs) := by
  refine ⟨PA.imp (pa_cons ha hr.pa (star_cons hs)) fun σ H Q ⟨G, δ, S, aft⟩ => ?_, fun δ ds e => ?_⟩
  . refine aft_any (W := fun G H r => AftL E G H r Q) S aft (fun g a => AftL.grow g a) (fun c a => a) (fun a => a) fun d v G1 H1 g1 r1 S1 a1 => ?_
    refine aftA_any (W := fun G H r => AftL E G H r Q) S1 a1 (fun g a => AftL.grow g a) (fun c a => a) (fun a => a) fun ds vs G2 H2 e g2 r2 S2 a2 => ?_
    exact a2 _ G2 H2 (Grow.refl S2.sub) (RepL.cons (r1.mono g2.g) r2)
  . unfold aCons at e
    cases h1 : f δ with
    | ok d =>
      rw [h1] at e
      cases h2 : fs δ with
      | ok ds' =>
        simp only [Res.bind, h2] at e
        cases e
        rw [List.length_cons, hr.len δ ds' h2]
      | exc c => simp only [Res.bind, h2] at e; cases e
      | no => simp only [Res.bind, h2] at e; cases e
    | exc c => rw [h1] at e; cases e
    | no => rw [h1] at e; cases e
noncomputable def vTup (fs : Dn -> Res (List PyData)) : Dn -> Res PyData := fun δ => (fs δ).bind fun ds => .ok (.tuple ds)
noncomputable def vLst (fs : Dn -> Res (List PyData)) : Dn -> Res PyData := fun δ => (fs δ).bind fun ds => .ok (.list ds)
theorem d_tup {n x1 : Nat} (h : DA X E es n fs) (hn : autoParam (n <= sizeLine) L2.ax2._auto_1) : DE X E (.Tuple es x1 pos) (vTup fs) := by
  refine PE.imp (pe_tup h.pa) fun σ H Q hhh => ?_
  obtain ⟨G, δ, S, aft⟩ := hhh
  refine aftA_any (W := fun G H r => Aft E G H r Q) S aft (fun g a => Aft.grow g a) (fun c a => a) (fun a => a) fun ds vs G1 H1 e g1 r1 S1 a1 => ?_
  refine ⟨by rw [← r1.length, h.len δ ds e]; exact hn, fun p hp => ?_⟩
  exact a1 _ (upd G1 p (.tup vs)) _ (Grow.new S1.sub hp) ⟨p, vs, rfl, upd_same, r1.mono (Same.upd (S1.sub.free hp))⟩
def AftF (E : EK) (G H : Hp) (r : Res (List PyData)) (Q : VK) : Prop := match r with
  | .ok ds => ∀ p xs G' H', Grow G H G' H' -> H p = none -> G' p = none -> H' p = some (.lst xs) -> RepL G' ds xs -> Q (.ref p) H'
  | .exc c => ∀ G' H', Grow G H G' H' -> E c H'
  | .no => False
def tF (E : EK) (f : Dn -> Res (List PyData)) : TE := fun σ H Q => ∃ G δ, SR G H σ δ /\ AftF E G H (f δ) Q
abbrev DF (X : Cx) (E : EK) (e : Expr) (f : Dn -> Res (List PyData)) : Prop := PE X e (tF E f)
theorem Grow.share {G H G' H' : Hp} {p : Addr} {o : HO} (g : Grow G H G' H') (hp : H p = none) (hg : G' p = none) (hH : H' p = some o) : Grow G H (upd G' p o) H' :=
  ⟨g.g.trans (Same.upd hg), g.h, fun b u e => by
    by_cases hb : b = p
    . subst hb; rw [upd_same] at e; cases e; exact hH
    . rw [upd_ne hb] at e; exact g.gh _ _ e, fun b u e => by
    by_cases hb : b = p
    . subst hb; exact .inr (.inl hp)
    . rw [upd_ne hb] at e; exact g.fr _ _ e⟩
theorem d_new (h : DF X E e fs) : DE X E e (vLst fs) := by
  refine PE.imp h fun σ H Q ⟨G, δ, S, aft⟩ => ⟨G, δ, S, ?_⟩
  unfold vLst at aft
  cases e : fs δ with
  | ok ds =>
    rw [e] at aft
    exact fun p xs G' H' g hp hg hH r => aft _ _ H' (g.share hp hg hH) ⟨p, xs, rfl, .inl upd_same, r.mono (Same.upd hg)⟩
  | exc c => rw [e] at aft; exact aft
  | no => rw [e] at aft; exact aft
theorem f_lst {n : Nat} (h : DA X E es n fs) (hn : autoParam (n <= sizeLine) L2.ax2._auto_1) : DF X E (.List es pos) fs := by
  refine PE.imp (pe_lst h.pa) fun σ H Q ⟨G, δ, S, aft⟩ => ⟨G, δ, S, ?_⟩
  cases e : fs δ with
  | ok ds =>
    rw [e] at aft
    refine fun vs G1 H1 g1 r1 => ⟨by rw [← r1.length, h.len δ ds e]; exact hn, fun p hp => ?_⟩
    exact aft p vs G1 _ (g1.trans (Grow.own g1.gh hp)) (g1.h.free hp) (g1.gh.free hp) upd_same r1
  | exc c => rw [e] at aft; exact aft
  | no => rw [e] at aft; exact aft
noncomputable def dIx : PyData -> PyData -> Option PyData
  | .list ds, .int i => atI ds i
  | .tuple ds, .int i => atI ds i
  | .str x, .int i => (atI x.cps.toList i).map fun c => .str ⟨#[c]⟩
  | _, _ => none
theorem atI_rep {G : Hp} {ds : List PyData} {xs : List V} {i : Int} {d : PyData} (r : RepL G ds xs) (e : atI ds i = some d) : ∃ x, atI xs i = some x /\ Rep G d x := by
  unfold atI at e ⊢
  rw [← r.length]
  cases q : ixN ds.length i with
  | none => rw [q] at e; cases e
  | some j => rw [q] at e; exact r.get e
theorem opD_ix : OpD (rIx K) dIx := by
  intro G H x y a b d Q hG ra rb e q
  cases b with
  | int i =>
    cases (show _ = _ from rb)
    cases a with
    | list ds =>
      obtain ⟨p, xs, rfl, h1, l1⟩ := ra
      obtain ⟨v, e1, r1⟩ := atI_rep l1 e
      exact .inl ⟨p, xs, i, v, rfl, rfl, .inl (Rd.mono hG h1), e1, q _ G H (Grow.refl hG) r1⟩
    | tuple ds =>
      obtain ⟨p, xs, rfl, h1, l1⟩ := ra
      obtain ⟨v, e1, r1⟩ := atI_rep l1 e
      exact .inr (.inl ⟨p, xs, i, v, rfl, rfl, .inl (.inl (hG _ _ h1)), e1, q _ G H (Grow.refl hG) r1⟩)
    | str z =>
      obtain ⟨e0, o1, l1⟩ := ra
      subst e0
      obtain ⟨cc, e1, rfl⟩ := Option.map_eq_some_iff.mp e
      refine .inr (.inr ⟨z, i, cc, rfl, rfl, l1, e1, q _ G H (Grow.refl hG) ⟨rfl, ?_, ?_⟩⟩)
      . obtain ⟨j, _, h2, _⟩ := atI_get e1
        have hm : cc ∈ z.cps.toList := List.mem_of_getElem? h2
        unfold PyData.strOk at *
        rw [← Array.all_toList, List.all_eq_true] at o1
        have := o1 cc hm
        simpa using this
      . show 1 <= sizeLine; decide
    | _ => cases e
  | _ => cases a <;> cases e
theorem d_ix (ha : DE X E a f) (hb : DE X E b g) (hs : autoParam (PlainIx b) L2.ax8._auto_1) : DE X E (.Subscript a b pos) (b2 f g dIx) :=
  PE.imp (pe_ix ix_seq ha hb hs) fun _ _ _ h => tD_b2 opD_ix h
noncomputable def cutD (xs : List PyData) (lo hi : Option Int) : List PyData := (xs.drop (HT.sIx xs.length 0 lo)).take (HT.sIx xs.length xs.length hi - HT.sIx xs.length 0 lo)
noncomputable def dCut (d : PyData) (lo hi : Option Int) : Option PyData := match d with
  | .list ds => some (.list (cutD ds lo hi))
  | .tuple ds => some (.tuple (cutD ds lo hi))
  | _ => none
theorem cut_rep {G : Hp} {ds : List PyData} {xs : List V} (r : RepL G ds xs) (lo hi : Option Int) : RepL G (cutD ds lo hi) (cutV xs lo hi) := by
  unfold cutD cutV
  rw [r.length]
  exact (r.drop _).take _
noncomputable def rSlD : V -> Option Int -> Option Int -> Hp -> VK -> Prop := fun x lo hi H Q => ∃ G a d, Same G H /\ Rep G a x /\ dCut a lo hi = some d /\ ∀ v G' H', Grow G H G' H' -> Rep G' d v -> Q v H'
theorem getItem_tuple_whole {prog : Program} {w : World} {A : Around} {E : Value -> Shared -> Prop} {s : Shared} {t sl : Addr} {items : Array Value} {vl vu : Value} {lo hi : Option Int} {Q : Value -> Shared -> Prop} (ht : IsTup s.heap t items) (hs : s.heap.IsSliceOf sl vl vu .none) (pl : IsPart vl lo) (pu : IsPart vu hi)
    (hw : HT.sIx items.size 0 lo = 0 /\ HT.sIx items.size items.size hi = items.size) (h : Q (.ref t) s) : wpAny (model prog w) A (getItem (.ref t) (.ref sl)) Q E s := by
  obtain ⟨os, hos, hcs, hds⟩ := id hs
  have hTs : s.TypeIs (.ref sl) "slice" := ⟨os, hos, hcs⟩
  unfold getItem
  try with_reducible refine wpAny_holding ?_
  first | refine wpAny_bind (wpAny_pure ?_) | skip
  refine wpAny_bind (wpAny_sequenceKey ht.typeIs (by decide) ?_)
  refine wpAny_bind (wpAny_callSpecial?_slot (name := Str.ofString "__getitem__") ht.typeIs PyProof.Rows.slot_tuple_getitem
    (wpAny_call_entry PyProof.Rows.slot_tuple_getitem ht.typeIs entry_tuple_getitem ?_ (args_tuple_getitem _ _)))
  show wpAny _ _ (Builtin.Tuple.tupleItemsOf (.ref t) >>= _) _ _ s
  refine wpAny_bind (tupleItemsOf_ ht ?_)
  refine wpAny_bind (wpAny_typeOf hTs ?_)
  rw [if_pos (by decide)]
  refine wpAny_bind (HT.sliceApplied_gen hs pl pu ?_)
  show wpAny _ _ (if (((HT.sIx items.size 0 lo : Nat) : Int) == 0 && (1 : Int) == 1 && (HT.sIx items.size items.size hi - HT.sIx items.size 0 lo) == items.size) = true then _ else _) _ _ s
  rw [if_pos (by rw [hw.1, hw.2]; simp)]
  unfold Builtin.Tuple.tupleIsExact
  refine wpAny_bind (wpAny_bind (wpAny_typeOf ht.typeIs (wpAny_pure ?_)))
  rw [if_pos (by decide)]
  first
    | exact wpAny_bind (wpAny_rule (wpAny_pure ⟨_, rfl, wpAny_pure h⟩))
    | exact wpAny_bind (wpAny_rule (wpAny_bind (wpAny_pure (wpAny_pure ⟨_, rfl, wpAny_pure h⟩))))
theorem sl_D : SlR X rSlD := by
  rintro pins s σ H x v vl vu lo hi sl Q I rx hs pl pu ⟨G, a, d, hG, ra, e, q⟩
  cases a with
  | list ds =>
    cases e
    obtain ⟨p, xs, rfl, h1, l1⟩ := ra
    cases rx
    obtain ⟨z, its, n, r, e1⟩ := rd_list I hG h1
    have hlen := r.length
    have hl : s.heap.IsList p its.toArray := ⟨_, e1, rfl, n, rfl⟩
    refine ⟨"list", _, slot_list_getitem.lookup, hl.typeIs, ?_⟩
    refine wpAny_getItem_list_slice hl hs pl pu .none (by simp) ?_ (by rw [List.size_toArray] <;> omega)
    rw [slicePick_cut, ← hlen]
    exact fin_lst (t' := s.toks) I hG ((r.drop (HT.sIx xs.length 0 lo)).take (HT.sIx xs.length xs.length hi - HT.sIx xs.length 0 lo)) (cut_rep l1 lo hi) (Nat.le_trans (cutV_length xs lo hi) z) q
  | tuple ds =>
    cases e
    obtain ⟨p, xs, rfl, h1, l1⟩ := ra
    cases rx
    obtain ⟨z, its, r, ht⟩ := rd_tup I hG h1
    have hlen : its.toArray.size = xs.length := by rw [List.size_toArray]; exact r.length.symm
    refine ⟨"tuple", _, PyProof.Rows.slot_tuple_getitem.lookup, ht.typeIs, ?_⟩
    by_cases hw : HT.sIx xs.length 0 lo = 0 /\ HT.sIx xs.length xs.length hi = xs.length
    . refine getItem_tuple_whole ht hs pl pu (by rw [hlen]; exact hw) ⟨.ref p, H, I, rfl, q _ G H (Grow.refl hG) ⟨p, xs, rfl, h1, ?_⟩⟩
      have : cutD ds lo hi = ds := by
        unfold cutD
        rw [l1.length, hw.1, hw.2, List.drop_zero, Nat.sub_zero, ← l1.length, List.take_length]
      rw [this]; exact l1
    . refine HT.getItem_tuple_cut ht hs pl pu (by rw [hlen]; exact hw) ?_ (by rw [hlen]; exact z)
      rw [hlen]
      exact fin_tup (t' := s.toks) I hG ((r.drop (HT.sIx xs.length 0 lo)).take (HT.sIx xs.length xs.length hi - HT.sIx xs.length 0 lo)) (cut_rep l1 lo hi) (Nat.le_trans (cutV_length xs lo hi) z) q
  | _ => cases e
def AftO (E : EK) (G H : Hp) (r : Res (Option Int)) (Q : Option Int -> Hp -> Prop) : Prop := match r with
  | .ok ds => ∀ G' H', Grow G H G' H' -> Q ds H'
  | .exc c => ∀ G' H', Grow G H G' H' -> E c H'
  | .no => False
def tO (E : EK) (f : Dn -> Res (Option Int)) : TO := fun σ H Q => ∃ G δ, SR G H σ δ /\ AftO E G H (f δ) Q
abbrev DO (X : Cx) (E : EK) (e : Option Expr) (f : Dn -> Res (Option Int)) : Prop := PO X e (tO E f)
theorem PO.imp {X : Cx} {e : Option Expr} {t t' : TO} (h : PO X e t) (i : ∀ σ H Q, t' σ H Q -> t σ H Q) : PO X e t' := fun pins s σ H Q I q => h pins s σ H Q I (i _ _ _ q)
noncomputable def oNone : Dn -> Res (Option Int) := fun _ => .ok none
noncomputable def oSome (f : Dn -> Res PyData) : Dn -> Res (Option Int) := fun δ => (f δ).bind fun d => match d with
  | .int i => .ok (some i)
  | _ => .no
theorem AftO.grow {E : EK} {G H G' H' : Hp} {r : Res (Option Int)} {Q : Option Int -> Hp -> Prop} (g : Grow G H G' H') (a : AftO E G H r Q) : AftO E G' H' r Q := by
  cases r with
  | ok d => exact fun G2 H2 g2 => a G2 H2 (g.trans g2)
  | exc c => exact fun G2 H2 g2 => a G2 H2 (g.trans g2)
  | no => exact a
theorem o_none : DO X E none oNone := PO.imp po_none fun σ H Q ⟨G, δ, S, a⟩ => a G H (Grow.refl S.sub)
theorem o_some (h : DE X E e f) : DO X E (some e) (oSome f) := by
  refine PO.imp (po_some h) fun σ H Q hhh => ?_
  obtain ⟨G, δ, S, aft⟩ := hhh
  refine aft_any (W := fun G H r => AftO E G H r Q) S aft (fun g a => AftO.grow g a) (fun c a => a) (fun a => a) fun d v G1 H1 g1 r1 S1 a1 => ?_
  cases d with
  | int i => exact ⟨i, r1, a1 G1 H1 (Grow.refl S1.sub)⟩
  | _ => exact (show False from a1).elim
theorem aftO_any {α : Type} {E : EK} {G H : Hp} {σ : St} {δ : Dn} {fs : Dn -> Res (Option Int)} {k : Option Int -> Res α} {R : Option Int -> Hp -> Prop} {W : Hp -> Hp -> Res α -> Prop} (S : SR G H σ δ) (a : W G H ((fs δ).bind k)) (hg : ∀ {G H G' H' : Hp} {r : Res α}, Grow G H G' H' -> W G H r -> W G' H' r)
    (hx : ∀ c, W G H (.exc c) -> ∀ G' H', Grow G H G' H' -> E c H') (hn : W G H .no -> False)
    (h : ∀ ds G1 H1, Grow G H G1 H1 -> SR G1 H1 σ δ -> W G1 H1 (k ds) -> R ds H1) : tO E fs σ H R := by
  refine ⟨G, δ, S, ?_⟩
  cases e : fs δ with
  | ok d => rw [e] at a; exact fun G' H' g => h d G' H' g (S.grow g) (hg g a)
  | exc c => rw [e] at a; exact hx c a
  | no => rw [e] at a; exact hn a
noncomputable def vSl (f : Dn -> Res PyData) (lo hi : Dn -> Res (Option Int)) : Dn -> Res PyData := fun δ => (f δ).bind fun x => (lo δ).bind fun l => (hi δ).bind fun u => ofO (dCut x l u)
variable {lo hi : Option Expr} {fl fh : Dn -> Res (Option Int)} {p2 : Pos}
theorem d_slice (he : DE X E e f) (hl : DO X E lo fl) (hu : DO X E hi fh) : DE X E (.Subscript e (.Slice lo hi none p2) pos) (vSl f fl fh) := by
  refine PE.imp (pe_slice sl_D he hl hu) fun σ H Q hhh => ?_
  obtain ⟨G, δ, S, aft⟩ := hhh
  refine aft_bind S aft fun d v G1 H1 g1 r1 S1 a1 => ?_
  refine aftO_any (W := fun G H r => Aft E G H r Q) S1 a1 (fun g a => Aft.grow g a) (fun c a => a) (fun a => a) fun l G2 H2 g2 S2 a2 => ?_
  refine aftO_any (W := fun G H r => Aft E G H r Q) S2 a2 (fun g a => Aft.grow g a) (fun c a => a) (fun a => a) fun u G3 H3 g3 S3 a3 => ?_
  cases e : dCut d l u with
  | none => rw [e] at a3; exact a3.elim
  | some z => rw [e] at a3; exact ⟨G3, d, z, S3.sub, r1.mono (g2.g.trans g3.g), e, a3⟩
end
end Sm
end
section
set_option Elab.async false
set_option linter.all false
set_option maxRecDepth 100000
set_option maxHeartbeats 4000000
set_option autoImplicit false
namespace Sm
open PySem PySem.Spec PyProof.Rows L2
section
variable {P : Program} {w : World} {K : PySem.W.Frag} {mg : Str -> Option Value} {base : Heap} {X : Cx} {N : List Str} {sc : Scope} {k : Nat} {df : Bool} {E : EK} {pos p : Pos} {a b c e : Expr} {es : List Expr} {f g : Dn -> Res PyData} {fs : Dn -> Res (List PyData)}
noncomputable def rCD (op : List PyData -> Option PyData) : List V -> Hp -> VK -> Prop := fun vs H Q => ∃ G ds d, Same G H /\ RepL G ds vs /\ op ds = some d /\ ∀ v G' H', Grow G H G' H' -> Rep G' d v -> Q v H'
noncomputable def vFn (fs : Dn -> Res (List PyData)) (op : List PyData -> Option PyData) : Dn -> Res PyData := fun δ => (fs δ).bind fun ds => ofO (op ds)
theorem tCB_D {op : List PyData -> Option PyData} {σ : St} {H : Hp} {Q : VK} (h : tD E (vFn fs op) σ H Q) : tCB (rCD op) (tA E fs) σ H Q := by
  obtain ⟨G, δ, S, aft⟩ := h
  refine aftA_any (W := fun G H r => Aft E G H r Q) S aft (fun g a => Aft.grow g a) (fun c a => a) (fun a => a) fun ds vs G1 H1 e g1 r1 S1 a1 => ?_
  cases e : op ds with
  | none => rw [e] at a1; exact a1.elim
  | some d => rw [e] at a1; exact ⟨G1, ds, d, S1.sub, r1, e, a1⟩
theorem d_callB' {x : Str} {id : String} {n : Nat} {op : List PyData -> Option PyData} (C : Cxt P w K mg base X N sc k df) (hc : CallR X (.builtin id) (rCD op)) (h : okGl sc x = true) (hm : mg x = none) (hv : bootBuiltins x = some (.builtin id)) (ha : DA X E (e :: es) n fs)
    (he : autoParam (starEach (e :: es) X.env = (false, eval e X.env) :: starEach es X.env) L2.ax4._auto_1) (hpl : autoParam ((backTo pos (starEach es X.env)).any (·.1) = false) L2.ax4._auto_1) : DE X E (.Call (.Name x p) (e :: es) [] pos) (vFn fs op) := by
  obtain ⟨h1, h2, h3⟩ := okGl.gl C h
  exact PE.imp (pe_callB hc h1 (by rw [C.hmg]; exact hm) hv ha.pa h3 h2 he hpl) fun _ _ _ q => tCB_D q
theorem d_callT' {x : Str} {T : String} {n : Nat} {op : List PyData -> Option PyData} (C : Cxt P w K mg base X N sc k df) (hc : CallR X (.type T) (rCD op)) (h : okGl sc x = true) (hm : mg x = none) (hv : bootBuiltins x = some (.type T)) (ha : DA X E (e :: es) n fs)
    (he : autoParam (starEach (e :: es) X.env = (false, eval e X.env) :: starEach es X.env) L2.ax4._auto_1) (hpl : autoParam ((backTo pos (starEach es X.env)).any (·.1) = false) L2.ax4._auto_1) : DE X E (.Call (.Name x p) (e :: es) [] pos) (vFn fs op) := by
  obtain ⟨h1, h2, h3⟩ := okGl.gl C h
  exact PE.imp (pe_callTy hc h1 (by rw [C.hmg]; exact hm) hv ha.pa h3 h2 he hpl) fun _ _ _ q => tCB_D q
theorem rep1 {G : Hp} {d : PyData} {vs : List V} (r : RepL G [d] vs) : ∃ v, vs = [v] /\ Rep G d v := by
  obtain ⟨x, t, rfl, h, l⟩ := r; cases (show _ = _ from l); exact ⟨x, rfl, h⟩
theorem rep2 {G : Hp} {d d' : PyData} {vs : List V} (r : RepL G [d, d'] vs) : ∃ v v', vs = [v, v'] /\ Rep G d v /\ Rep G d' v' := by
  obtain ⟨x, t, rfl, h, l⟩ := r
  obtain ⟨y, rfl, h'⟩ := rep1 l
  exact ⟨x, y, rfl, h, h'⟩
noncomputable def dLen : List PyData -> Option PyData
  | [.list ds] => some (.int ds.length)
  | [.tuple ds] => some (.int ds.length)
  | [.str x] => some (.int x.length)
  | _ => none
theorem call_lenDt : CallR X (.builtin "len") (rCD dLen) := by
  rintro pins s σ H xs us Q I r ⟨G, ds, d, hG, rl, e, q⟩
  unfold dLen at e
  split at e
  . rename_i ys
    cases e
    obtain ⟨v, rfl, a, vs, rfl, h1, l1⟩ := rep1 rl
    exact call_len pins s σ H _ us Q I r ⟨_, ys.length, rfl, .inl ⟨vs, .inl (Rd.mono hG h1), l1.length⟩, q _ G H (Grow.refl hG) rfl⟩
  . rename_i ys
    cases e
    obtain ⟨v, rfl, a, vs, rfl, h1, l1⟩ := rep1 rl
    exact call_len pins s σ H _ us Q I r ⟨_, ys.length, rfl, .inr ⟨vs, .inl (.inl (hG _ _ h1)), l1.length⟩, q _ G H (Grow.refl hG) rfl⟩
  . rename_i x
    cases e
    obtain ⟨v, rfl, r1⟩ := rep1 rl
    cases r1.1
    exact call_len pins s σ H _ us Q I r ⟨_, x.length, rfl, ⟨r1.2.2, rfl⟩, q _ G H (Grow.refl hG) rfl⟩
  . cases e
theorem d_len {n : Nat} (C : Cxt P w K mg base X N sc k df) (h : okGl sc "len" = true) (hm : mg "len" = none) (ha : DA X E (e :: es) n fs)
    (he : autoParam (starEach (e :: es) X.env = (false, eval e X.env) :: starEach es X.env) L2.ax4._auto_1) (hpl : autoParam ((backTo pos (starEach es X.env)).any (·.1) = false) L2.ax4._auto_1) : DE X E (.Call (.Name "len" p) (e :: es) [] pos) (vFn fs dLen) :=
  d_callB' C call_lenDt h hm PySem.boot_len ha he hpl
noncomputable def boolsOf : List PyData -> Option (List Bool)
  | [] => some []
  | .bool b :: ds => (boolsOf ds).map (b :: ·)
  | _ :: _ => none
noncomputable def dAll : List PyData -> Option PyData
  | [.list ds] => (boolsOf ds).map fun bs => .bool (bs.all id)
  | _ => none
theorem bools_rep {G : Hp} : ∀ {ds : List PyData} {xs : List V} {us : List Value} {bs : List Bool}, RepL G ds xs -> Vals xs us -> boolsOf ds = some bs -> us = bs.map Value.bool
  | [], _, _, _, r, q, e => by cases (show _ = _ from r); cases q; cases e; rfl
  | .bool b :: ds, _, _, _, r, q, e => by
    obtain ⟨x, t, rfl, h, l⟩ := r
    cases (show _ = _ from h)
    cases q with
    | cons q qs =>
      cases q
      obtain ⟨bs, e1, rfl⟩ := Option.map_eq_some_iff.mp e
      rw [bools_rep l qs e1]; rfl
  | .none :: _, _, _, _, _, _, e => by cases e
  | .int _ :: _, _, _, _, _, _, e => by cases e
  | .str _ :: _, _, _, _, _, _, e => by cases e
  | .list _ :: _, _, _, _, _, _, e => by cases e
  | .tuple _ :: _, _, _, _, _, _, e => by cases e
  | .dict _ :: _, _, _, _, _, _, e => by cases e
theorem kept_it {s : Shared} {h' : Heap} {o : Obj} (hk : ∀ b x, b ∉ [s.heap.objs.size] -> (s.heap.push o).get? b = some x -> h'.get? b = some x) : ∀ b x, s.heap.get? b = some x -> h'.get? b = some x :=
  fun b x e => hk b x (fun hm => by rw [List.mem_singleton.mp hm] at e; exact Nat.lt_irrefl _ (Heap.lt_size e)) (Heap.get?_push_of_some _ e)
theorem range_all (bs : List Bool) : ((List.range bs.length).all fun i => (bs[i]?).getD true) = bs.all id := by
  rw [Bool.eq_iff_iff, List.all_eq_true, List.all_eq_true]
  constructor
  . intro h b hb
    obtain ⟨i, hi, rfl⟩ := List.getElem_of_mem hb
    have := h i (List.mem_range.mpr hi)
    rwa [List.getElem?_eq_getElem hi] at this
  . intro h i hi
    have hi' := List.mem_range.mp hi
    rw [List.getElem?_eq_getElem hi']
    exact h _ (List.getElem_mem hi')
theorem call_allDt (hc : X.calm = true) : CallR X (.builtin "all") (rCD dAll) := by
  rintro pins s σ H xs us Q I r ⟨G, ds, d, hG, rl, e, q⟩
  unfold dAll at e
  split at e
  . rename_i ys
    obtain ⟨bs, e1, rfl⟩ := Option.map_eq_some_iff.mp e
    obtain ⟨v, rfl, a, vs, rfl, h1, l1⟩ := rep1 rl
    obtain ⟨u, rfl, ru⟩ := vals1 r
    cases ru
    obtain ⟨z, its, n, rv, e2⟩ := rd_list I hG h1
    have hb := bools_rep l1 rv e1
    have hl : s.heap.IsList a its.toArray := ⟨_, e2, rfl, n, rfl⟩
    have hlt : a < s.heap.objs.size := Heap.lt_size e2
    refine call_all_walk (wpAny_pyIter_list hl ?_)
    refine ⟨s.heap.objs.size, [s.heap.objs.size, a], [s.heap.objs.size], its.toArray.size, _, _, fun i => (bs[i]?).getD true, rfl, Walks.list (A := X.A.in1) (I.ok.hd hc) _ a (Nat.ne_of_lt hlt) its.toArray,
      ⟨⟨_, Heap.get?_push_size _ rfl, rfl, rfl⟩, hl.push _⟩, fun i v s' Q' E' hP hQ => ?_, fun h' tk hk => ?_⟩
    . have hP' : its[i]? = some v := by simpa using hP
      rw [hb, List.getElem?_map] at hP'
      obtain ⟨b, e3, rfl⟩ := Option.map_eq_some_iff.mp hP'
      simp only [e3, Option.getD_some] at hQ
      exact wpAny_truthy_bool hQ
    . have el : its.toArray.size = bs.length := by rw [List.size_toArray, hb, List.length_map]
      rw [el, range_all]
      exact ⟨.bl _, H, I.kept (kept_it hk), rfl, q _ G H (Grow.refl hG) rfl⟩
  . cases e
theorem d_all {n : Nat} (C : Cxt P w K mg base X N sc k df) (h : okGl sc "all" = true) (hm : mg "all" = none) (ha : DA X E (e :: es) n fs)
    (he : autoParam (starEach (e :: es) X.env = (false, eval e X.env) :: starEach es X.env) L2.ax4._auto_1) (hpl : autoParam ((backTo pos (starEach es X.env)).any (·.1) = false) L2.ax4._auto_1) : DE X E (.Call (.Name "all" p) (e :: es) [] pos) (vFn fs dAll) :=
  d_callB' C (call_allDt C.calm) h hm (by decide +kernel) ha he hpl
noncomputable def dListF : List PyData -> Option PyData
  | [.list ds] => some (.list ds)
  | [.tuple ds] => some (.list ds)
  | _ => none
noncomputable def dTupF : List PyData -> Option PyData
  | [.list ds] => some (.tuple ds)
  | [.tuple ds] => some (.tuple ds)
  | _ => none
noncomputable def dMax : List PyData -> Option PyData
  | [.int i, .int j] => some (.int (if i < j then j else i))
  | _ => none
noncomputable def dIntF : List PyData -> Option PyData
  | [.int i] => some (.int i)
  | [.bool b] => some (.int (if b then 1 else 0))
  | _ => none
noncomputable def dStrF : List PyData -> Option PyData
  | [.int i] => if i.natAbs.log2 < 1920 /\ ((toString i : String) : Str).length <= sizeLine then some (.str (toString i : String)) else none
  | _ => none
theorem strOk_of (z : String) : PyData.strOk (Str.ofString z) = true := by
  unfold PyData.strOk
  rw [Str.ofString_eq_toList, ← Array.all_toList, List.all_eq_true]
  intro c hc
  simp only [List.mem_map] at hc
  obtain ⟨ch, _, rfl⟩ := hc
  have h := ch.valid
  have hv : ch.toNat = ch.val.toNat := rfl
  simp only [UInt32.isValidChar, Nat.isValidChar] at h
  rw [decide_eq_true_eq, hv]; omega
theorem call_listDt : CallR X (.type "list") (rCD dListF) := by
  rintro pins s σ H xs us Q I r ⟨G, ds, d, hG, rl, e, q⟩
  unfold dListF at e
  split at e
  . rename_i ys
    cases e
    obtain ⟨v, rfl, a, vs, rfl, h1, l1⟩ := rep1 rl
    exact call_list_of pins s σ H _ us Q I r ⟨a, vs, rfl, .inl (.inl (Rd.mono hG h1)), fun l hl => q _ (upd G l (.lst vs)) _ (Grow.new hG hl) ⟨l, vs, rfl, .inl upd_same, l1.mono (Same.upd (hG.free hl))⟩⟩
  . rename_i ys
    cases e
    obtain ⟨v, rfl, a, vs, rfl, h1, l1⟩ := rep1 rl
    exact call_list_of pins s σ H _ us Q I r ⟨a, vs, rfl, .inr (.inl (.inl (hG _ _ h1))), fun l hl => q _ (upd G l (.lst vs)) _ (Grow.new hG hl) ⟨l, vs, rfl, .inl upd_same, l1.mono (Same.upd (hG.free hl))⟩⟩
  . cases e
theorem call_tupDt : CallR X (.type "tuple") (rCD dTupF) := by
  rintro pins s σ H xs us Q I r ⟨G, ds, d, hG, rl, e, q⟩
  unfold dTupF at e
  split at e
  . rename_i ys
    cases e
    obtain ⟨v, rfl, a, vs, rfl, h1, l1⟩ := rep1 rl
    exact call_tuple_of pins s σ H _ us Q I r ⟨a, vs, rfl, .inl ⟨.inl (Rd.mono hG h1), fun l hl => q _ (upd G l (.tup vs)) _ (Grow.new hG hl) ⟨l, vs, rfl, upd_same, l1.mono (Same.upd (hG.free hl))⟩⟩⟩
  . rename_i ys
    cases e
    obtain ⟨v, rfl, a, vs, rfl, h1, l1⟩ := rep1 rl
    exact call_tuple_of pins s σ H _ us Q I r ⟨a, vs, rfl, .inr ⟨.inl (.inl (hG _ _ h1)), q _ G H (Grow.refl hG) ⟨a, vs, rfl, h1, l1⟩⟩⟩
  . cases e
theorem call_intDt : CallR X (.type "int") (rCD dIntF) := by
  rintro pins s σ H xs us Q I r ⟨G, ds, d, hG, rl, e, q⟩
  unfold dIntF at e
  split at e
  . rename_i i
    cases e
    obtain ⟨v, rfl, e1⟩ := rep1 rl
    cases (show _ = _ from e1)
    exact call_int1 pins s σ H _ us Q I r (.inl ⟨i, rfl, q _ G H (Grow.refl hG) rfl⟩)
  . rename_i b
    cases e
    obtain ⟨v, rfl, e1⟩ := rep1 rl
    cases (show _ = _ from e1)
    refine call_int1 pins s σ H _ us Q I r (.inr ⟨b, rfl, ?_⟩)
    have := q (.int (if b then 1 else 0)) G H (Grow.refl hG) rfl
    cases b <;> exact this
  . cases e
theorem call_strDt : CallR X (.type "str") (rCD dStrF) := by
  rintro pins s σ H xs us Q I r ⟨G, ds, d, hG, rl, e, q⟩
  unfold dStrF at e
  split at e
  . rename_i i
    split at e
    . rename_i hc
      cases e
      obtain ⟨v, rfl, e1⟩ := rep1 rl
      cases (show _ = _ from e1)
      exact call_str_int pins s σ H _ us Q I r ⟨i, rfl, hc.1, q _ G H (Grow.refl hG) ⟨rfl, strOk_of _, hc.2⟩⟩
    . cases e
  . cases e
theorem d_listF {n : Nat} (C : Cxt P w K mg base X N sc k df) (h : okGl sc "list" = true) (hm : mg "list" = none) (ha : DA X E (e :: es) n fs)
    (he : autoParam (starEach (e :: es) X.env = (false, eval e X.env) :: starEach es X.env) L2.ax4._auto_1) (hpl : autoParam ((backTo pos (starEach es X.env)).any (·.1) = false) L2.ax4._auto_1) : DE X E (.Call (.Name "list" p) (e :: es) [] pos) (vFn fs dListF) :=
  d_callT' C call_listDt h hm (by decide +kernel) ha he hpl
theorem d_tupF {n : Nat} (C : Cxt P w K mg base X N sc k df) (h : okGl sc "tuple" = true) (hm : mg "tuple" = none) (ha : DA X E (e :: es) n fs)
    (he : autoParam (starEach (e :: es) X.env = (false, eval e X.env) :: starEach es X.env) L2.ax4._auto_1) (hpl : autoParam ((backTo pos (starEach es X.env)).any (·.1) = false) L2.ax4._auto_1) : DE X E (.Call (.Name "tuple" p) (e :: es) [] pos) (vFn fs dTupF) :=
  d_callT' C call_tupDt h hm (by decide +kernel) ha he hpl
theorem d_intF {n : Nat} (C : Cxt P w K mg base X N sc k df) (h : okGl sc "int" = true) (hm : mg "int" = none) (ha : DA X E (e :: es) n fs)
    (he : autoParam (starEach (e :: es) X.env = (false, eval e X.env) :: starEach es X.env) L2.ax4._auto_1) (hpl : autoParam ((backTo pos (starEach es X.env)).any (·.1) = false) L2.ax4._auto_1) : DE X E (.Call (.Name "int" p) (e :: es) [] pos) (vFn fs dIntF) :=
  d_callT' C call_intDt h hm (by decide +kernel) ha he hpl
theorem d_strF {n : Nat} (C : Cxt P w K mg base X N sc k df) (h : okGl sc "str" = true) (hm : mg "str" = none) (ha : DA X E (e :: es) n fs)
    (he : autoParam (starEach (e :: es) X.env = (false, eval e X.env) :: starEach es X.env) L2.ax4._auto_1) (hpl : autoParam ((backTo pos (starEach es X.env)).any (·.1) = false) L2.ax4._auto_1) : DE X E (.Call (.Name "str" p) (e :: es) [] pos) (vFn fs dStrF) :=
  d_callT' C call_strDt h hm (by decide +kernel) ha he hpl
noncomputable def tyName : PyData -> String
  | .none => "NoneType" | .bool _ => "bool" | .int _ => "int" | .str _ => "str" | .list _ => "list" | .tuple _ => "tuple" | .dict _ => "dict"
noncomputable def isTy (T : String) (d : PyData) : Bool := (tyName d == T) || (T == "int" && tyName d == "bool")
noncomputable def okTy (T : String) : Bool := T == "int" || T == "bool" || T == "str" || T == "list" || T == "tuple"
theorem kit_ty {K : PySem.W.Frag} {T : String} (h : okTy T = true) (d : PyData) (hd : ∀ kvs, d ≠ .dict kvs) : PySem.W.kitOne K (.type (tyName d)) (.type T) = some (isTy T d) := by
  unfold okTy at h
  simp only [Bool.or_eq_true, beq_iff_eq] at h
  rcases h with (((h | h) | h) | h) | h <;> subst h <;> cases d <;> first | kernel_rfl | exact absurd rfl (hd _)
theorem Rep.tyOf {G H : Hp} (hG : Same G H) {d : PyData} {v : V} (r : Rep G d v) : TyOf K H v (.type (tyName d)) := by
  cases d with
  | none => cases (show _ = _ from r); exact .non
  | bool _ => cases (show _ = _ from r); exact .bl _
  | int _ => cases (show _ = _ from r); exact .int _
  | str x => cases r.1; exact .str _
  | list _ =>
    obtain ⟨a, xs, rfl, h1, l1⟩ := r
    rcases h1 with h1 | ⟨o, h1⟩
    . exact .lst (hG _ _ h1)
    . exact .frz (hG _ _ h1)
  | tuple _ => obtain ⟨a, xs, rfl, h1, l1⟩ := r; exact .tup (hG _ _ h1)
  | dict _ => exact (show False from r).elim
theorem d_isinst {T : Str} {Tn : String} {p1 : Pos} (C : Cxt P w K mg base X N sc k df) (h : okGl sc "isinstance" = true) (hm : mg "isinstance" = none) (hT : okGl sc T = true) (hmT : mg T = none) (hbT : bootBuiltins T = some (.type Tn)) (hk : okTy Tn = true) (ha : DE X E a f)
    (he : autoParam (starEach (a :: [.Name T p1]) X.env = (false, eval a X.env) :: starEach [.Name T p1] X.env) L2.ax4._auto_1) (he2 : autoParam (starEach [.Name T p1] X.env = (false, eval (.Name T p1) X.env) :: starEach [] X.env) L2.ax4._auto_1) (hpl : autoParam ((backTo pos (starEach [.Name T p1] X.env)).any (·.1) = false) L2.ax4._auto_1) :
    DE X E (.Call (.Name "isinstance" p) [a, .Name T p1] [] pos) (b1 f fun d => some (.bool (isTy Tn d))) := by
  obtain ⟨h1, h2, h3⟩ := okGl.gl C h
  obtain ⟨t1, t2, t3⟩ := okGl.gl C hT
  have hc : CallR X (.builtin "isinstance") (fun vs H Q => ∃ G d v, Same G H /\ Rep G d v /\ vs = [v, .ty Tn] /\ Q (.bl (isTy Tn d)) H) := by
    rintro pins s σ H xs us Q I r ⟨G, d, v, hG, rd, e, q⟩
    subst e
    obtain ⟨u, u', rfl, r1, r2⟩ := vals2 r
    cases (show u' = Value.type Tn from r2)
    refine isinst_ok I r1 (rd.tyOf hG) (kit_ty hk d fun kvs z => ?_) fun tk => ⟨.bl _, H, I.tok _, rfl, q⟩
    subst z; exact rd
  refine PE.imp (pe_callB hc h1 (by rw [C.hmg]; exact hm) (by decide +kernel) (pa_cons ha (pa_cons (pe_bltn (v := .ty Tn) t1 (by rw [C.hmg]; exact hmT) hbT rfl t3 t2) pa_nil he2) he) h3 h2 he hpl) fun σ H Q hhh => ?_
  obtain ⟨G, δ, S, aft⟩ := hhh
  refine aft_bind S aft fun d v G1 H1 g1 r1 S1 a1 => ?_
  exact ⟨G1, d, v, S1.sub, r1, rfl, a1 _ G1 H1 (Grow.refl S1.sub) rfl⟩
noncomputable def strsOf : List PyData -> Option (List Str)
  | [] => some []
  | .str b :: ds => (strsOf ds).map (b :: ·)
  | _ :: _ => none
noncomputable def dJoin (x : Str) : PyData -> Option PyData
  | .list ds => (strsOf ds).bind fun ys => if (ys.map (·.length)).sum + ys.length * x.length <= 16777216 /\ PyData.strOk (Str.join x ys) = true /\ (Str.join x ys).length <= sizeLine then some (.str (Str.join x ys)) else none
  | _ => none
theorem strs_rep {G : Hp} : ∀ {ds : List PyData} {xs : List V} {us : List Value} {ys : List Str}, RepL G ds xs -> Vals xs us -> strsOf ds = some ys -> StrsAre us ys
  | [], _, _, _, r, q, e => by cases (show _ = _ from r); cases q; cases e; exact .nil
  | .str b :: ds, _, _, _, r, q, e => by
    obtain ⟨x, t, rfl, h, l⟩ := r
    cases h.1
    cases q with
    | cons q qs =>
      obtain ⟨tk, rfl⟩ := q
      obtain ⟨bs, e1, rfl⟩ := Option.map_eq_some_iff.mp e
      exact .cons _ _ (strs_rep l qs e1)
  | .none :: _, _, _, _, _, _, e => by cases e
  | .int _ :: _, _, _, _, _, _, e => by cases e
  | .bool _ :: _, _, _, _, _, _, e => by cases e
  | .list _ :: _, _, _, _, _, _, e => by cases e
  | .tuple _ :: _, _, _, _, _, _, e => by cases e
  | .dict _ :: _, _, _, _, _, _, e => by cases e
theorem mt_join : MtR X "str.join" (fun x vs H Q => ∃ G z v d r, Same G H /\ x = .str z /\ vs = [v] /\ Rep G d v /\ dJoin z d = some (.str r) /\ Q (.str r) H) := by
  rintro pins s σ H x vs v us Q I rx rv ⟨G, z, y, d, r, hG, e1, e2, rd, e, q⟩
  subst e1 e2
  obtain ⟨t, rfl⟩ := rx
  obtain ⟨u, rfl, ru⟩ := rv.one
  cases d with
  | list ds =>
    obtain ⟨ys, e3, e4⟩ := Option.bind_eq_some_iff.mp e
    split at e4
    . rename_i hc
      cases e4
      obtain ⟨l, xs, rfl, h1, l1⟩ := rd
      cases ru
      obtain ⟨zz, its, n, rv2, e5⟩ := rd_list I hG h1
      refine join_list ⟨_, e5, rfl, n, rfl⟩ (by simpa using strs_rep l1 rv2 e3) hc.1 fun t' k => ⟨.str _, H, I.tok _, ⟨t', ?_⟩, q⟩
      rw [eq_of_beq (join_plain_closes z ys)]
    . cases e4
  | _ => cases e
noncomputable def vJoin (x : Str) (f : Dn -> Res PyData) : Dn -> Res PyData := fun δ => (f δ).bind fun d => ofO (dJoin x d)
theorem dJoin_str {z : Str} {d d' : PyData} (e : dJoin z d = some d') : ∃ r, d' = .str r /\ PyData.strOk r = true /\ r.length <= sizeLine := by
  cases d with
  | list ds =>
    obtain ⟨ys, e3, e4⟩ := Option.bind_eq_some_iff.mp e
    split at e4
    . rename_i hc; cases e4; exact ⟨_, rfl, hc.2.1, hc.2.2⟩
    . cases e4
  | _ => cases e
theorem d_join {z : Str} {j : Nat} {p1 apos cpos : Pos} (ha : DE X E a f) (hbase : autoParam (attributeBase (.Constant (.str z) j p1) "join" X.env (eval (.Constant (.str z) j p1) X.env) = eval (.Constant (.str z) j p1) X.env) L2.ax4._auto_1)
    (hfew : autoParam (((backTo cpos (starEach [a] X.env)).all (fun x => !x.1) && (backToKw cpos (keywordEach [] X.env)).all (fun x => x.1.isSome)
      && decide ([a].length + ([] : List Keyword).length + (if ([] : List Keyword).isEmpty then 0 else 1) < 30)) = true) L2.ax4._auto_1)
    (hline : autoParam ((apos.endLine == cpos.line) = true) L2.ax4._auto_1) (hs : autoParam (starEach [a] X.env = (false, eval a X.env) :: starEach [] X.env) L2.ax4._auto_1) (hplain : autoParam ((backTo cpos (starEach [] X.env)).any (·.1) = false) L2.ax4._auto_1) :
    DE X E (.Call (.Attribute (.Constant (.str z) j p1) "join" apos) [a] [] cpos) (vJoin z f) := by
  refine PE.imp (pe_bm PySem.F.plainAttrs_str PySem.F.slot_str_join PySem.F.type_str_join mt_join pe_str (pa_cons ha pa_nil hs) hbase hfew hline hs hplain) fun σ H Q ⟨G, δ, S, aft⟩ => ⟨rfl, ?_⟩
  refine aft_bind S aft fun d v G1 H1 g1 r1 S1 a1 => ?_
  cases e : dJoin z d with
  | none => rw [e] at a1; exact a1.elim
  | some d' =>
    obtain ⟨r, rfl, o1, o2⟩ := dJoin_str e
    rw [e] at a1
    exact ⟨G1, z, v, d, r, S1.sub, rfl, rfl, r1, e, a1 _ G1 H1 (Grow.refl S1.sub) ⟨rfl, o1, o2⟩⟩
def spD (n : Nat) (m : List PyData -> Res PyData) : Sp := fun vs H Q _ => ∃ G ds d, Same G H /\ RepL G ds vs /\ ds.length = n /\ m ds = .ok d /\ ∀ v G' H', Grow G H G' H' -> Rep G' d v -> Q v H'
structure Fn (P : Program) (w : World) (K : PySem.W.Frag) (mg : Str -> Option Value) (base : Heap) (x : Str) (k n : Nat) (m : List PyData -> Res PyData) : Prop where
  ex : ∃ f fd ps, ps.length = n /\ FnOk P w K mg base CX0 k f fd ps (spD n m) /\ mg x = some (.ref f) /\ PySem.W.keepIn K (.ref f) = true /\ Binds K fd ps []
def E0k : EK := fun _ _ => False
noncomputable def vCall (fs : Dn -> Res (List PyData)) (m : List PyData -> Res PyData) : Dn -> Res PyData := fun δ => (fs δ).bind m
theorem d_call {x : Str} {j n : Nat} {m : List PyData -> Res PyData} (C : Cxt P w K mg base X N sc k df) (F : Fn P w K mg base x j n m) (hj : j <= k) (h : okGl sc x = true) (ha : DA X E0k (e :: es) n fs)
    (he : autoParam (starEach (e :: es) X.env = (false, eval e X.env) :: starEach es X.env) L2.ax4._auto_1) (hpl : autoParam ((backTo pos (starEach es X.env)).any (·.1) = false) L2.ax4._auto_1) : DE X E0k (.Call (.Name x p) (e :: es) [] pos) (vCall fs m) := by
  obtain ⟨f, fd, ps, hps, F, hm, hk, hb⟩ := F.ex
  obtain ⟨h1, h2, h3⟩ := okGl.gl C h
  have F' : FnOk X.prog X.w X.K X.mg X.base CX0 j f fd ps (spD n m) := by rw [C.hP, C.hw, C.hK, C.hmg, C.hb]; exact F
  refine PE.imp (pe_call F' (C.room.mono hj) h1 (by rw [C.hmg]; exact hm) (by rw [C.hK]; exact hk) (by rw [C.hK]; exact hb) .nil (pass0 (X := X)) ha.pa h2 he hpl) fun σ H Q hhh => ?_
  obtain ⟨G, δ, S, aft⟩ := hhh
  refine aftA_any (W := fun G H r => Aft E0k G H r Q) S aft (fun g a => Aft.grow g a) (fun c a => a) (fun a => a) fun ds vs G1 H1 e g1 r1 S1 a1 => ?_
  rw [List.append_nil]
  cases q : m ds with
  | ok d => rw [q] at a1; exact ⟨G1, ds, d, S1.sub, r1, ha.len δ ds e, q, a1⟩
  | exc c => rw [q] at a1; exact (a1 G1 H1 (Grow.refl S1.sub)).elim
  | no => rw [q] at a1; exact a1.elim
end
end Sm
end
section
set_option Elab.async false
set_option linter.all false
set_option maxRecDepth 100000
set_option maxHeartbeats 4000000
set_option autoImplicit false
namespace Sm
open PySem PySem.Spec PyProof.Rows L2
noncomputable def Its (z : Str) : It := ⟨fun i _ => i < z.cps.size, fun i H x H' => H' = H /\ ∃ c, z.cps[i]? = some c /\ x = .str ⟨#[c]⟩, fun i _ => z.cps.size <= i⟩
theorem turn_ascii {P : Program} {w : World} {K : PySem.W.Frag} {tg : Expr} (it : Addr) (z : Str) (t : Tok) : Turn P w K tg (Its z) [it] it (fun i h => h.IsStrIter it "str_ascii_iterator" z t i) where
  mem := by simp
  obj := fun i h st b hb => by
    have e : b = it := by simpa using hb
    subst e
    obtain ⟨o, e, c, d⟩ := st
    exact ⟨o, e, fun v z => by rw [d] at z; cases z⟩
  keep := fun i h h' st k => by
    obtain ⟨o, e, c, d⟩ := st
    exact ⟨o, k it (by simp) o e, c, d⟩
  item := by
    intro X hP hw hK hc i pins s σ H E I hf st hg
    subst hP hw hK
    obtain ⟨f0, f1, f2, f3, f4, f5⟩ := hf it (by simp)
    have hi : i < z.cps.size := hg
    refine wpAny_pyNext_ascii_item st (c := z.cps[i]) (by simp [hi]) fun h' st' sb => ?_
    have I1 : Inv X pins σ H { s with heap := h', toks := s.toks + 1 } := I.turned (fun b o hb e => (sb.2 b hb).trans e) f0 f1 f3 f4 f5
    obtain ⟨o, e, c, d⟩ := id st'
    exact ⟨_, rfl, go_of (s := { s with heap := h', toks := s.toks + 1 }) e c d (by decide) ⟨.str ⟨#[z.cps[i]]⟩, H, I1, ⟨_, rfl⟩, ⟨rfl, _, by simp [hi], rfl⟩, st', fun b hb => (hf b hb).1⟩⟩
  done := by
    intro X hP hw hK hc i pins s σ H E I hf st hg
    subst hP hw hK
    obtain ⟨f0, f1, f2, f3, f4, f5⟩ := hf it (by simp)
    have hi : z.cps.size <= i := hg
    exact wpAny_pyNext_ascii_end (I.ok.hd hc) st (by simpa using hi) fun h' eb => ⟨rfl, I.turned (t' := s.toks) (fun b o hb e => eb b o hb e) f0 f1 f3 f4 f5⟩
  self := fun _ _ _ _ _ st h => wpAny_pyIter_striter_ascii st h
theorem turn_wide {P : Program} {w : World} {K : PySem.W.Frag} {tg : Expr} (it : Addr) (z : Str) (t : Tok) : Turn P w K tg (Its z) [it] it (fun i h => h.IsStrIter it "str_iterator" z t i) where
  mem := by simp
  obj := fun i h st b hb => by
    have e : b = it := by simpa using hb
    subst e
    obtain ⟨o, e, c, d⟩ := st
    exact ⟨o, e, fun v z => by rw [d] at z; cases z⟩
  keep := fun i h h' st k => by
    obtain ⟨o, e, c, d⟩ := st
    exact ⟨o, k it (by simp) o e, c, d⟩
  item := by
    intro X hP hw hK hc i pins s σ H E I hf st hg
    subst hP hw hK
    obtain ⟨f0, f1, f2, f3, f4, f5⟩ := hf it (by simp)
    have hi : i < z.cps.size := hg
    refine wpAny_pyNext_wide_item st (c := z.cps[i]) (by simp [hi]) fun h' st' sb => ?_
    have I1 : Inv X pins σ H { s with heap := h', toks := s.toks + 1 } := I.turned (fun b o hb e => (sb.2 b hb).trans e) f0 f1 f3 f4 f5
    obtain ⟨o, e, c, d⟩ := id st'
    exact ⟨_, rfl, go_of (s := { s with heap := h', toks := s.toks + 1 }) e c d (by decide) ⟨.str ⟨#[z.cps[i]]⟩, H, I1, ⟨_, rfl⟩, ⟨rfl, _, by simp [hi], rfl⟩, st', fun b hb => (hf b hb).1⟩⟩
  done := by
    intro X hP hw hK hc i pins s σ H E I hf st hg
    subst hP hw hK
    obtain ⟨f0, f1, f2, f3, f4, f5⟩ := hf it (by simp)
    have hi : z.cps.size <= i := hg
    exact wpAny_pyNext_wide_end (I.ok.hd hc) st (by simpa using hi) fun h' eb => ⟨rfl, I.turned (t' := s.toks) (fun b o hb e => eb b o hb e) f0 f1 f3 f4 f5⟩
  self := fun _ _ _ _ _ st h => wpAny_pyIter_striter_wide st h
noncomputable def Ite (K : PySem.W.Frag) (a : Addr) : It :=
  ⟨fun i H => ∃ xs x, SqL K H a xs /\ xs[i]? = some x, fun i H x H' => ∃ p y, H p = none /\ x = .ref p /\ H' = upd H p (.tup [.int i, y]) /\ ∀ xs, SqL K H a xs -> xs[i]? = some y, fun i H => ∃ xs, SqL K H a xs /\ xs.length <= i⟩
theorem turn_enum {P : Program} {w : World} {K : PySem.W.Frag} {elts : List Expr} {x1 : Nat} {tp : Pos} (a e it : Addr) (hne : e ≠ it) : Turn P w K (.Tuple elts x1 tp) (Ite K a) [e, it] e (fun i h => (∃ old, IsEnum h e it (i : Int) old) /\ h.IsListIter it a i) where
  mem := by simp
  obj := fun i h st b hb => by
    obtain ⟨⟨old, h1⟩, o, h2, c, d⟩ := st
    rcases List.mem_cons.mp hb with rfl | hb
    . exact ⟨_, h1, fun v z => by cases z⟩
    . have e' : b = it := by simpa using hb
      subst e'
      exact ⟨o, h2, fun v z => by rw [d] at z; cases z⟩
  keep := fun i h h' st k => by
    obtain ⟨⟨old, h1⟩, o, h2, c, d⟩ := st
    exact ⟨⟨old, k e (by simp) _ h1⟩, o, k it (by simp) o h2, c, d⟩
  item := by
    intro X hP hw hK hc i pins s σ H E I hf st hg
    subst hP hw hK
    obtain ⟨⟨old, he⟩, st⟩ := st
    obtain ⟨xs, x, hq, hx⟩ := hg
    obtain ⟨its, rv, p, hz⟩ := I.list hq
    obtain ⟨u, hu, ru⟩ := rv.get hx
    obtain ⟨f0, f1, f2, f3, f4, f5⟩ := hf e (by simp)
    obtain ⟨g0, g1, g2, g3, g4, g5⟩ := hf it (by simp)
    refine wpAny_pyNext_enum_item he st p.isList (x := u) (by simpa using hu) hne fun h' he' st' ht' hsz kp => ?_
    refine ⟨_, rfl, wpAny_letOwnedTupleGo_enum he' fun h2 he2 sb => ?_⟩
    have hfr : H s.heap.objs.size = none := I.fresh
    have elt : e < s.heap.objs.size := Heap.lt_size he
    have ilt : it < s.heap.objs.size := by obtain ⟨o, h, _⟩ := st; exact Heap.lt_size h
    have kp2 : ∀ b o, b ≠ e -> b ≠ it -> s.heap.get? b = some o -> h2.get? b = some o := fun b o h1 h3 q => (sb.2 b h1).trans (kp b o h1 h3 q)
    have I1 : Inv X pins σ H { s with heap := h2, toks := s.toks + 1 } := by
      refine I.step (g' := s.gens) (d' := s.drawn) (ch := [e, it]) (fun b hb => ?_) (fun b o _ _ hcb q _ => kp2 b o (fun z => hcb (by simp [z])) (fun z => hcb (by simp [z])) q) (fun b o _ _ hcb q _ => ⟨o.slots, kp2 b o (fun z => hcb (by simp [z])) (fun z => hcb (by simp [z])) q⟩) (fun _ _ _ _ n => n)
        (fun b o hcb q => ⟨o, kp2 b o (fun z => hcb (by simp [z])) (fun z => hcb (by simp [z])) q⟩) (fun _ _ q => q) (fun _ _ _ q => q) (fun b ps q => ⟨#[], by rw [q]; simp⟩) (fun m hm => ?_) (fun b u' q => ?_) I.bare
      . rcases List.mem_cons.mp hb with rfl | hb
        . exact ⟨f3, f1, f4, f5⟩
        . have e' : b = it := by simpa using hb
          subst e'
          exact ⟨g3, g1, g4, g5⟩
      . obtain ⟨o, es, ep, ho, r⟩ := hm
        exact ⟨o, es, ep, kp2 _ o (Ne.symm f1) (Ne.symm g1) ho, r⟩
      . refine (I.hok b u' q).stay (fun c v hcc q' => kp2 c v ?_ ?_ q') (fun _ q' => q') fun _ _ q' => q'
        . rintro rfl
          rcases hcc with z | z
          . subst z; rw [f0] at q; cases q
          . rw [f0] at z; cases z
        . rintro rfl
          rcases hcc with z | z
          . subst z; rw [g0] at q; cases q
          . rw [g0] at z; cases z
    have htt : h2.get? s.heap.objs.size = some { cls := .type "tuple", data := .seq #[.int i s.toks, u] } := (sb.2 _ (Nat.ne_of_gt elt)).trans ht'
    have Hold : ∀ b o, H b = some o -> b ≠ s.heap.objs.size := fun b o q z => by subst z; rw [hfr] at q; cases q
    have I2 : Inv X pins σ (upd H s.heap.objs.size (.tup [.int i, x])) { s with heap := h2, toks := s.toks + 1 } := by
      have nb : ∀ b o, b ≠ s.heap.objs.size -> s.heap.get? b = some o -> True := fun _ _ _ _ => trivial
      have base' : Un X.fs X.ex X.H₀ (upd H s.heap.objs.size (.tup [.int i, x])) X.s₀.heap h2 := by
        have B := I1.base
        have ne0 : ∀ b o, X.s₀.heap.get? b = some o -> b ≠ s.heap.objs.size := fun b o q => Nat.ne_of_lt (Nat.lt_of_lt_of_le (Heap.lt_size q) I.sz)
        exact ⟨B.keep, B.slot, fun b o q n hx => by rw [upd_ne (ne0 b o q)]; exact B.free b o q n hx, B.there,
          fun b ys q => by rw [upd_ne (Hold b _ (B.tups b ys q))]; exact B.tups b ys q, fun b o' u' q => by rw [upd_ne (Hold b _ (B.frzs b o' u' q))]; exact B.frzs b o' u' q,
          fun b ps q => by obtain ⟨m, q'⟩ := B.tbls b ps q; exact ⟨m, by rw [upd_ne (Hold b _ q')]; exact q'⟩⟩
      have hok' : HOk X.prog X.w (upd H s.heap.objs.size (.tup [.int i, x])) h2 := fun b o q => by
        by_cases hb : b = s.heap.objs.size
        . subst hb
          rw [upd_same] at q
          cases q
          refine ⟨by show 2 <= sizeLine; decide, [.int i s.toks, u], .cons ⟨_, rfl⟩ (.cons ru .nil), ⟨_, htt, rfl, 0, rfl⟩⟩
        . rw [upd_ne hb] at q
          exact (I1.hok b o q).stay (fun _ _ _ q' => q') (fun c q' => by rw [upd_ne (Hold c _ q')]; exact q') fun c ys q' => by rw [upd_ne (Hold c _ q')]; exact q'
      refine ⟨I1.ok, I1.os, I1.bare, base', I1.loc, I1.cell, ?_, fun y c q => ?_, fun p hp => ?_, hok', I1.len⟩
      . rw [upd_ne (Nat.ne_of_lt I.lt)]; exact I1.free
      . obtain ⟨v, oc, hoc, _⟩ := I.cell y c q
        rw [upd_ne (Nat.ne_of_lt (Heap.lt_size hoc))]; exact I1.freeC y c q
      . obtain ⟨q1, q2, q3, q4, q5⟩ := I1.pin p hp
        refine ⟨q1, ?_, q3, q4, q5⟩
        rw [upd_ne (Nat.ne_of_lt (Heap.lt_size (I.pin p hp).1))]; exact q2
    refine ⟨.ref s.heap.objs.size, _, I2, rfl, ⟨_, x, hfr, rfl, rfl, fun ys hy => by rw [I.list_inj hy hq]; exact hx⟩, ⟨⟨_, by push_cast; exact he2⟩, ?_⟩, fun b hb => ?_⟩
    . obtain ⟨o, q, c, d⟩ := st'
      exact ⟨o, (sb.2 it (Ne.symm hne)).trans q, c, d⟩
    . rcases List.mem_cons.mp hb with rfl | hb
      . rw [upd_ne (Nat.ne_of_lt elt)]; exact f0
      . have e' : b = it := by simpa using hb
        subst e'
        rw [upd_ne (Nat.ne_of_lt ilt)]; exact g0
  done := by
    intro X hP hw hK hc i pins s σ H E I hf st hg
    subst hP hw hK
    obtain ⟨⟨old, he⟩, st⟩ := st
    obtain ⟨xs, hq, hx⟩ := hg
    obtain ⟨its, rv, p, hz⟩ := I.list hq
    obtain ⟨g0, g1, g2, g3, g4, g5⟩ := hf it (by simp)
    have hl := rv.length
    exact wpAny_pyNext_enum_end (I.ok.hd hc) he st p.isList (by simp; omega) fun h' eb => ⟨rfl, I.turned (t' := s.toks) (fun b o hb e => eb b o hb e) g0 g1 g3 g4 g5⟩
  self := fun _ _ _ _ _ st h => by
    obtain ⟨⟨old, he⟩, _⟩ := st
    exact wpAny_pyIter_enum he h
end Sm
end
section
set_option Elab.async false
set_option linter.all false
set_option maxRecDepth 100000
set_option maxHeartbeats 4000000
set_option autoImplicit false
namespace Sm
open PySem PySem.Spec PyProof.Rows L2
structure Walk (J : It) (G : Hp) (ds : List PyData) : Prop where
  go : ∀ (i : Nat) (H : Hp), i < ds.length -> Same G H -> J.go i H
  yld : ∀ (i : Nat) (d : PyData) (G2 H : Hp) (x : V) (H' : Hp), ds[i]? = some d -> Same G G2 -> Same G2 H -> J.yld i H x H' -> ∃ G3, Grow G2 H G3 H' /\ Rep G3 d x
  stop : ∀ (i : Nat) (H : Hp), ds.length <= i -> Same G H -> J.stop i H
def AftI (E : EK) (G H : Hp) (r : Res (List PyData)) (R : It -> Hp -> Prop) : Prop := match r with
  | .ok ds => ∀ J G' H', Grow G H G' H' -> Walk J G' ds -> R J H'
  | .exc c => ∀ G' H', Grow G H G' H' -> E c H'
  | .no => False
def tI (E : EK) (f : Dn -> Res (List PyData)) : TI := fun σ H R => ∃ G δ, SR G H σ δ /\ AftI E G H (f δ) R
abbrev DI (X : Cx) (E : EK) (tg e : Expr) (f : Dn -> Res (List PyData)) : Prop := PI X tg e (tI E f)
theorem AftI.grow {E : EK} {G H G' H' : Hp} {r : Res (List PyData)} {Q : It -> Hp -> Prop} (g : Grow G H G' H') (a : AftI E G H r Q) : AftI E G' H' r Q := by
  cases r with
  | ok d => exact fun v G2 H2 g2 q => a v G2 H2 (g.trans g2) q
  | exc c => exact fun G2 H2 g2 => a G2 H2 (g.trans g2)
  | no => exact a
theorem PI.imp {X : Cx} {tg e : Expr} {t t' : TI} (h : PI X tg e t) (i : ∀ σ H Q, t' σ H Q -> t σ H Q) : PI X tg e t' := fun pins s σ H Q I q => h pins s σ H Q I (i _ _ _ q)
noncomputable def signsD (x : Str) : List PyData := x.cps.toList.map fun c => .str ⟨#[c]⟩
noncomputable def seqOf : PyData -> Res (List PyData)
  | .list ds => .ok ds
  | .tuple ds => .ok ds
  | .str x => .ok (signsD x)
  | _ => .no
theorem walk_list {K : PySem.W.Frag} {G : Hp} {a : Addr} {xs : List V} {ds : List PyData} (h : Rd G a (.lst xs)) (l : RepL G ds xs) : Walk (Itl K a) G ds where
  go := fun i H hi hG => by
    have hi' : i < xs.length := by rw [← l.length]; exact hi
    exact ⟨xs, xs[i], .inl (Rd.mono hG h), by simp [hi']⟩
  yld := fun i d G2 H x H' e h1 h2 hy => by
    obtain ⟨rfl, hy⟩ := hy
    obtain ⟨y, e1, r⟩ := l.get e
    have := hy xs (.inl (Rd.mono (h1.trans h2) h))
    rw [e1] at this
    cases this
    exact ⟨G2, Grow.refl h2, r.mono h1⟩
  stop := fun i H hi hG => ⟨xs, .inl (Rd.mono hG h), by rw [← l.length]; exact hi⟩
theorem walk_tup {K : PySem.W.Frag} {G : Hp} {a : Addr} {xs : List V} {ds : List PyData} (h : G a = some (.tup xs)) (l : RepL G ds xs) : Walk (Itt K a) G ds where
  go := fun i H hi hG => by
    have hi' : i < xs.length := by rw [← l.length]; exact hi
    exact ⟨xs, xs[i], .inl (.inl (hG _ _ h)), by simp [hi']⟩
  yld := fun i d G2 H x H' e h1 h2 hy => by
    obtain ⟨rfl, hy⟩ := hy
    obtain ⟨y, e1, r⟩ := l.get e
    have := hy xs (.inl (.inl (h2 _ _ (h1 _ _ h))))
    rw [e1] at this
    cases this
    exact ⟨G2, Grow.refl h2, r.mono h1⟩
  stop := fun i H hi hG => ⟨xs, .inl (.inl (hG _ _ h)), by rw [← l.length]; exact hi⟩
theorem walk_str {G : Hp} {z : Str} (ho : PyData.strOk z = true) : Walk (Its z) G (signsD z) where
  go := fun i H hi hG => by
    show i < z.cps.size
    simpa [signsD] using hi
  yld := fun i d G2 H x H' e h1 h2 hy => by
    obtain ⟨rfl, c, hc, rfl⟩ := hy
    have e' : (z.cps.toList.map fun c => PyData.str ⟨#[c]⟩)[i]? = some d := e
    rw [List.getElem?_map, Array.getElem?_toList, hc] at e'
    cases e'
    refine ⟨G2, Grow.refl h2, rfl, ?_, by show 1 <= sizeLine; decide⟩
    unfold PyData.strOk at ho ⊢
    rw [← Array.all_toList, List.all_eq_true] at ho
    have := ho c (by rw [← Array.getElem?_toList] at hc; exact List.mem_of_getElem? hc)
    simpa using this
  stop := fun i H hi hG => by
    show z.cps.size <= i
    simpa [signsD] using hi
theorem walk_range {G : Hp} (lo : Int) (n : Nat) : Walk (Itr lo n) G ((List.range n).map fun (i : Nat) => PyData.int (lo + i)) where
  go := fun i H hi hG => by
    show i < n
    simpa using hi
  yld := fun i d G2 H x H' e h1 h2 hy => by
    obtain ⟨rfl, rfl⟩ := hy
    rw [List.getElem?_map] at e
    by_cases hi : i < n
    . rw [List.getElem?_range hi] at e; cases e; exact ⟨G2, Grow.refl h2, rfl⟩
    . rw [List.getElem?_eq_none (by simpa using hi)] at e; cases e
  stop := fun i H hi hG => by
    show n <= i
    simpa using hi
noncomputable def enumD (ds : List PyData) : List PyData := ds.mapIdx fun i d => .tuple [.int i, d]
theorem walk_enum {K : PySem.W.Frag} {G : Hp} {a : Addr} {xs : List V} {ds : List PyData} (h : Rd G a (.lst xs)) (l : RepL G ds xs) : Walk (Ite K a) G (enumD ds) where
  go := fun i H hi hG => by
    have hi' : i < xs.length := by rw [← l.length]; simpa [enumD] using hi
    exact ⟨xs, xs[i], .inl (Rd.mono hG h), by simp [hi']⟩
  yld := fun i d G2 H x H' e h1 h2 hy => by
    obtain ⟨p, y, hp, rfl, rfl, hy⟩ := hy
    unfold enumD at e
    rw [List.getElem?_mapIdx] at e
    obtain ⟨d0, e0, rfl⟩ := Option.map_eq_some_iff.mp e
    obtain ⟨y', e1, r⟩ := l.get e0
    have := hy xs (.inl (Rd.mono (h1.trans h2) h))
    rw [e1] at this
    cases this
    refine ⟨upd G2 p (.tup [.int i, y]), Grow.new h2 hp, p, _, rfl, upd_same, RepL.cons rfl (RepL.cons (r.mono (h1.trans (Same.upd (h2.free hp)))) rfl)⟩
  stop := fun i H hi hG => ⟨xs, .inl (Rd.mono hG h), by rw [← l.length]; simpa [enumD] using hi⟩
section
variable {P : Program} {w : World} {K : PySem.W.Frag} {mg : Str -> Option Value} {base : Heap} {X : Cx} {N : List Str} {sc : Scope} {k : Nat} {df : Bool} {E : EK} {pos p : Pos} {tg a b c e : Expr} {es : List Expr} {f g : Dn -> Res PyData} {fs src : Dn -> Res (List PyData)}
theorem i_seq (ha : DE X E a f) : DI X E tg a (fun δ => (f δ).bind seqOf) := by
  rintro pins s σ H R I ⟨G, δ, S, aft⟩
  have h := aft_any (R := fun v H1 => ∃ G1 d, Same G1 H1 /\ Rep G1 d v /\ AftI E G1 H1 (seqOf d) R) (W := fun G H r => AftI E G H r R) S aft (fun g a => AftI.grow g a) (fun c a => a) (fun a => a) fun d v G1 H1 g1 r1 S1 a1 => ⟨G1, d, S1.sub, r1, a1⟩
  refine thn (ha pins s σ H _ I h) fun v s1 hhh => ?_
  obtain ⟨x, H1, I1, rx, G1, d, hG, rd, a1⟩ := hhh
  cases d with
  | list ds =>
    obtain ⟨p, xs, rfl, h1, l1⟩ := rd
    cases rx
    obtain ⟨zz, its, n, rv, e1⟩ := rd_list I1 hG h1
    refine wpAny_pyIter_list ⟨_, e1, rfl, n, rfl⟩ ?_
    refine ⟨s1.heap.objs.size, [s1.heap.objs.size], _, _, H1, rfl, I1.kept (t' := s1.toks) fun b o e => Heap.get?_push_of_some _ e, turn_list p _, ⟨_, Heap.get?_push_size _ rfl, rfl, rfl⟩, fun b hb => ?_, a1 _ G1 H1 (Grow.refl hG) (walk_list h1 l1)⟩
    have e : b = s1.heap.objs.size := by simpa using hb
    subst e
    exact I1.fpOk (Nat.le_refl _) I1.fresh
  | tuple ds =>
    obtain ⟨p, xs, rfl, h1, l1⟩ := rd
    cases rx
    obtain ⟨zz, its, rv, pt⟩ := rd_tup I1 hG h1
    refine wpAny_pyIter_tuple (show s1.heap.IsTuple p its.toArray from pt) ?_
    refine ⟨s1.heap.objs.size, [s1.heap.objs.size], _, _, H1, rfl, I1.kept (t' := s1.toks) fun b o e => Heap.get?_push_of_some _ e, turn_tuple p _, ⟨_, Heap.get?_push_size _ rfl, rfl, rfl⟩, fun b hb => ?_, a1 _ G1 H1 (Grow.refl hG) (walk_tup h1 l1)⟩
    have e : b = s1.heap.objs.size := by simpa using hb
    subst e
    exact I1.fpOk (Nat.le_refl _) I1.fresh
  | str z =>
    obtain ⟨e0, o1, l1⟩ := rd
    subst e0
    obtain ⟨t, rfl⟩ := rx
    cases ha : z.cps.all (· < 128)
    . refine wpAny_pyIter_wide ha ?_
      refine ⟨s1.heap.objs.size, [s1.heap.objs.size], _, _, H1, rfl, I1.kept (t' := s1.toks) fun b o e => Heap.get?_push_of_some _ e, turn_wide _ z t, ⟨_, Heap.get?_push_size _ rfl, rfl, rfl⟩, fun b hb => ?_, a1 _ G1 H1 (Grow.refl hG) (walk_str o1)⟩
      have e : b = s1.heap.objs.size := by simpa using hb
      subst e
      exact I1.fpOk (Nat.le_refl _) I1.fresh
    . refine wpAny_pyIter_ascii ha ?_
      refine ⟨s1.heap.objs.size, [s1.heap.objs.size], _, _, H1, rfl, I1.kept (t' := s1.toks) fun b o e => Heap.get?_push_of_some _ e, turn_ascii _ z t, ⟨_, Heap.get?_push_size _ rfl, rfl, rfl⟩, fun b hb => ?_, a1 _ G1 H1 (Grow.refl hG) (walk_str o1)⟩
      have e : b = s1.heap.objs.size := by simpa using hb
      subst e
      exact I1.fpOk (Nat.le_refl _) I1.fresh
  | _ => exact (show False from a1).elim
noncomputable def rngD (lo hi : Int) : List PyData := (List.range (hi - lo).toNat).map fun (i : Nat) => PyData.int (lo + i)
noncomputable def rng1 : List PyData -> Res (List PyData)
  | [.int j] => if -(2 ^ 62) <= j /\ j < 2 ^ 62 then .ok (rngD 0 j) else .no
  | _ => .no
theorem i_range1 {n : Nat} (C : Cxt P w K mg base X N sc k df) (h : okGl sc "range" = true) (hm : mg "range" = none) (ha : DA X E [a] n fs) (hs : autoParam (starEach [a] X.env = [(false, eval a X.env)]) L2.ax4._auto_1) :
    DI X E tg (.Call (.Name "range" p) [a] [] pos) (fun δ => (fs δ).bind rng1) := by
  refine PI.imp (pi_range1 (okGl.gl C h).1 (by rw [C.hmg]; exact hm) ha.pa hs) fun σ H Q hhh => ?_
  obtain ⟨G, δ, S, aft⟩ := hhh
  refine aftA_any (W := fun G H r => AftI E G H r Q) S aft (fun g a => AftI.grow g a) (fun c a => a) (fun a => a) fun ds vs G1 H1 e g1 r1 S1 a1 => ?_
  unfold rng1 at a1
  split at a1
  . rename_i j
    split at a1
    . rename_i hc
      obtain ⟨v, rfl, e1⟩ := rep1 r1
      cases (show _ = _ from e1)
      refine ⟨j, rfl, hc.1, hc.2, a1 _ G1 H1 (Grow.refl S1.sub) ?_⟩
      have := walk_range (G := G1) 0 j.toNat
      unfold rngD
      rw [Int.sub_zero]; exact this
    . exact a1.elim
  . exact a1.elim
noncomputable def enum1 : List PyData -> Res (List PyData)
  | [.list ds] => .ok (enumD ds)
  | _ => .no
theorem i_enum {n x1 : Nat} {elts : List Expr} {tp : Pos} (C : Cxt P w K mg base X N sc k df) (h : okGl sc "enumerate" = true) (hm : mg "enumerate" = none) (ha : DA X E [a] n fs) (he : autoParam (starEach [a] X.env = (false, eval a X.env) :: starEach [] X.env) L2.ax4._auto_1) (hpl : autoParam ((backTo pos (starEach [] X.env)).any (·.1) = false) L2.ax4._auto_1) :
    DI X E (.Tuple elts x1 tp) (.Call (.Name "enumerate" p) [a] [] pos) (fun δ => (fs δ).bind enum1) := by
  rintro pins s σ H R I ⟨G, δ, S, aft⟩
  obtain ⟨h1, h2, h3⟩ := okGl.gl C h
  have hh := aftA_any (R := fun vs H1 => ∃ G1 ds, Same G1 H1 /\ RepL G1 ds vs /\ AftI E G1 H1 (enum1 ds) R) (W := fun G H r => AftI E G H r R) S aft (fun g a => AftI.grow g a) (fun c a => a) (fun a => a) fun ds vs G1 H1 e g1 r1 S1 a1 => ⟨G1, ds, S1.sub, r1, a1⟩
  refine wpAny_Call_Name_kw (ld_blt I h1 (by rw [C.hmg]; exact hm) boot_enumerate ?_ h3 h2)
  refine PyProof.Rows.callWith_type1 (thn (ha.pa pos pins s σ H _ I hh) fun us s1 hhh => ?_) he hpl
  obtain ⟨vs, H1, I1, rv, G1, ds, hG, rl, a1⟩ := hhh
  unfold enum1 at a1
  split at a1
  . rename_i ys
    obtain ⟨v, rfl, l, xs, rfl, q1, l1⟩ := rep1 rl
    obtain ⟨u, rfl, ru⟩ := vals1 rv
    cases ru
    obtain ⟨zz, its, nn, rw', e1⟩ := rd_list I1 hG q1
    refine call_enumerate_list ⟨_, e1, rfl, nn, rfl⟩ fun h' he' hit hsz kp => ?_
    have I2 : Inv X pins σ H1 { s1 with heap := h' } := I1.kept (t' := s1.toks) kp
    refine wpAny_pyIter_enum he' ?_
    refine ⟨s1.heap.objs.size + 1, [s1.heap.objs.size + 1, s1.heap.objs.size], _, _, H1, rfl, I2, turn_enum l _ _ (Nat.ne_of_gt (Nat.lt_succ_self _)), ⟨⟨_, he'⟩, hit⟩, fun b hb => ?_, a1 _ G1 H1 (Grow.refl hG) (walk_enum q1 l1)⟩
    rcases List.mem_cons.mp hb with rfl | hb
    . exact I1.fpOk (Nat.le_succ _) (I1.hok.fresh (Nat.le_succ _))
    . have e : b = s1.heap.objs.size := by simpa using hb
      subst e
      exact I1.fpOk (Nat.le_refl _) I1.fresh
  . exact a1.elim
noncomputable def bind1 (d : PyData) : Res (List Sl) := .ok [.sh d]
noncomputable def bind2 : PyData -> Res (List Sl)
  | .tuple [a, b] => .ok [.sh a, .sh b]
  | _ => .no
noncomputable def compRun (bnd : PyData -> Res (List Sl)) (δc : Dn) (tt : Dn -> Res Bool) (el : Dn -> Res PyData) : List PyData -> Res (List PyData)
  | [] => .ok []
  | d :: ds => match bnd d with
    | .ok sl => match tt (sl ++ δc) with
      | .ok true => match el (sl ++ δc) with
        | .ok y => match compRun bnd δc tt el ds with
          | .ok r => .ok (y :: r)
          | _ => .no
        | _ => .no
      | .ok false => compRun bnd δc tt el ds
      | _ => .no
    | _ => .no
noncomputable def capD (δ : Dn) (cap : List Nat) : Dn := cap.map fun j => δ[j]?.getD .un
noncomputable def lComp (src : Dn -> Res (List PyData)) (bnd : PyData -> Res (List Sl)) (cap : List Nat) (tt : Dn -> Res Bool) (el : Dn -> Res PyData) : Dn -> Res (List PyData) := fun δ => (src δ).bind fun ds => if ds.length <= sizeLine then compRun bnd (capD δ cap) tt el ds else .no
def GOk (g : TG) (m : Nat) (bnd : PyData -> Res (List Sl)) : Prop := ∀ (G H : Hp) (d : PyData) (x : V) (sl : List Sl) (τ : St) (Q : St -> Hp -> Prop), Same G H -> Rep G d x -> bnd d = .ok sl -> (∀ vs : List V, vs.length = m -> sl.length = m -> (∀ (i : Nat) s, sl[i]? = some s -> SlOk G H (vs[i]?) s /\ ∃ d, s = .sh d) -> Q (vs.map some ++ τ) H) -> g x (List.replicate m none ++ τ) H Q
theorem gok1 : GOk (gName 0) 1 bind1 := by
  intro G H d x sl τ Q hG r e h
  cases e
  exact h [x] rfl rfl fun i s hs => by
    cases i with
    | zero => cases hs; exact ⟨⟨x, rfl, r⟩, d, rfl⟩
    | succ i => simp at hs
theorem gok2 : GOk (gTup K 2 (gCons (gName 0) (gCons (gName 1) gNil))) 2 bind2 := by
  intro G H d x sl τ Q hG r e h
  cases d with
  | tuple ds =>
    match ds, e with
    | [a, b], e =>
      cases e
      obtain ⟨p, xs, rfl, h1, l1⟩ := r
      obtain ⟨v, v', rfl, r1, r2⟩ := rep2 l1
      refine ⟨p, _, rfl, .inl (.inl (hG _ _ h1)), rfl, v, [v'], rfl, v', [], rfl, rfl, ?_⟩
      exact h [v, v'] rfl rfl fun i s hs => by
        match i with
        | 0 => cases hs; exact ⟨⟨v, rfl, r1⟩, a, rfl⟩
        | 1 => cases hs; exact ⟨⟨v', rfl, r2⟩, b, rfl⟩
        | i + 2 => simp at hs
  | _ => cases e
theorem SR.cap {G H : Hp} {σ : St} {δ : Dn} (S : SR G H σ δ) (cap : List Nat) (hnd : cap.Nodup) {vs : List V} {sl : List Sl} (hv : vs.length = sl.length) (h : ∀ (i : Nat) s, sl[i]? = some s -> SlOk G H (vs[i]?) s /\ ∃ d, s = .sh d) : SR G H (vs.map some ++ capS σ cap) (sl ++ capD δ cap) := by
  have hlt : ∀ i, i < sl.length -> (vs.map some ++ capS σ cap)[i]? = (vs[i]?).map some := fun i hi => by
    rw [List.getElem?_append_left (by rw [List.length_map, hv]; exact hi), List.getElem?_map]
  have hge : ∀ i, ¬ i < sl.length -> (vs.map some ++ capS σ cap)[i]? = (cap[i - sl.length]?).map fun j => σ[j]?.join := fun i hi => by
    rw [List.getElem?_append_right (by rw [List.length_map, hv]; omega)]
    unfold capS
    rw [List.getElem?_map, List.length_map, hv]
  have hd : ∀ i, ¬ i < sl.length -> (sl ++ capD δ cap)[i]? = (cap[i - sl.length]?).map fun j => δ[j]?.getD .un := fun i hi => by
    rw [List.getElem?_append_right (by omega)]
    unfold capD
    rw [List.getElem?_map]
  refine ⟨S.sub, by simp [hv, capS, capD], fun i s e => ?_, fun i j a d d' ei ej hi hj => ?_⟩
  . by_cases hi : i < sl.length
    . rw [List.getElem?_append_left hi] at e
      rw [hlt i hi]
      have := (h i s e).1
      cases q : vs[i]? with
      | none => rw [q] at this; exact this
      | some v => rw [q] at this; exact this
    . rw [hd i hi] at e
      rw [hge i hi]
      cases q : cap[i - sl.length]? with
      | none => rw [q] at e; cases e
      | some j =>
        rw [q] at e
        simp only [Option.map_some, Option.some.injEq] at e
        subst e
        show SlOk G H (some (σ[j]?.join)).join _
        cases q2 : δ[j]? with
        | none => trivial
        | some s => exact S.sl j s q2
  . have key : ∀ i d, (sl ++ capD δ cap)[i]? = some (.ow d) -> ¬ i < sl.length /\ ∃ j, cap[i - sl.length]? = some j /\ δ[j]? = some (.ow d) := fun i d e => by
      have hi : ¬ i < sl.length := fun hi => by
        rw [List.getElem?_append_left hi] at e
        obtain ⟨_, d', z⟩ := h i _ e
        cases z
      refine ⟨hi, ?_⟩
      rw [hd i hi] at e
      cases q : cap[i - sl.length]? with
      | none => rw [q] at e; cases e
      | some j =>
        rw [q] at e
        simp only [Option.map_some, Option.some.injEq] at e
        refine ⟨j, rfl, ?_⟩
        cases q2 : δ[j]? with
        | none => rw [q2] at e; cases e
        | some s => rw [q2] at e; cases e; rfl
    obtain ⟨n1, j1, c1, o1⟩ := key i d ei
    obtain ⟨n2, j2, c2, o2⟩ := key j d' ej
    rw [hge i n1, c1] at hi
    rw [hge j n2, c2] at hj
    have hi' : σ[j1]?.join = some (.ref a) := hi
    have hj' : σ[j2]?.join = some (.ref a) := hj
    have := S.ap j1 j2 a d d' o1 o2 hi' hj'
    subst this
    have := (List.getElem?_inj (List.getElem?_eq_some_iff.mp c1).1 hnd).mp (c1.trans c2.symm)
    omega
theorem map_none (xs : List Str) : xs.map (fun _ => (none : Option V)) = List.replicate xs.length none := by
  induction xs with
  | nil => rfl
  | cons a t ih => rw [List.map_cons, ih]; rfl
theorem tComp_D {xs : List Str} {cap : List Nat} {g : TG} {m : Nat} {bnd : PyData -> Res (List Sl)} {tt : Dn -> Res Bool} {el : Dn -> Res PyData} (hx : xs.length = m) (hnd : cap.Nodup) (hg : GOk g m bnd) {σ : St} {H : Hp} {Q : VK} (h : tF E (lComp src bnd cap tt el) σ H Q) :
    tComp (tI E src) (fun σ => xs.map (fun _ => none) ++ capS σ cap) g (tT E0k tt) (tD E0k el) σ H Q := by
  obtain ⟨G, δ, S, aft⟩ := h
  refine ⟨G, δ, S, ?_⟩
  unfold lComp at aft
  cases e : src δ with
  | exc c => rw [e] at aft; exact aft
  | no => rw [e] at aft; exact aft
  | ok ds =>
    rw [e] at aft
    intro J G1 H1 g1 W D hD
    have aft1 : AftF E G H (if ds.length <= sizeLine then compRun bnd (capD δ cap) tt el ds else .no) Q := aft
    by_cases hz : ds.length <= sizeLine
    . rw [if_pos hz] at aft1
      have S1 := S.grow g1
      have hmap : xs.map (fun _ => (none : Option V)) = List.replicate m none := by rw [← hx]; exact map_none xs
      refine ⟨fun i n H' => n = ds.length - i /\ i <= ds.length /\ ∃ G' acc yd, Grow G1 H1 G' H' /\ G' D = none /\ H' D = some (.lst acc) /\ RepL G' yd acc /\ yd.length <= i /\
        AftF E G H (match compRun bnd (capD δ cap) tt el (ds.drop i) with | .ok r => .ok (yd ++ r) | _ => .no) Q, ⟨_, rfl, Nat.zero_le _, G1, [], [], Grow.own g1.gh hD, g1.gh.free hD, upd_same, rfl, Nat.le_refl _, ?_⟩, ?_⟩
      . rw [List.drop_zero]
        cases q : compRun bnd (capD δ cap) tt el ds with
        | ok r => rw [q] at aft1; exact aft1
        | exc c =>
          exfalso
          have : ∀ l c, compRun bnd (capD δ cap) tt el l ≠ .exc c := by
            intro l c
            induction l with
            | nil => intro z; cases z
            | cons d l ih =>
              unfold compRun
              intro z
              split at z
              . split at z
                . split at z
                  . split at z <;> cases z
                  . cases z
                . exact ih z
                . cases z
              . cases z
          exact this ds c q
        | no => rw [q] at aft1; exact aft1
      . rintro i n H' ⟨rfl, hi, G', acc, yd, g2, nD, hDa, ry, hyl, aft2⟩
        by_cases hlt : i < ds.length
        . refine .inr ⟨W.go i H' hlt (g2.g.trans g2.gh), fun H'' => ∃ n', n' < ds.length - i /\ (n' = ds.length - (i + 1) /\ i + 1 <= ds.length /\ ∃ G' acc yd, Grow G1 H1 G' H'' /\ G' D = none /\ H'' D = some (.lst acc) /\ RepL G' yd acc /\ yd.length <= i + 1 /\
            AftF E G H (match compRun bnd (capD δ cap) tt el (ds.drop (i + 1)) with | .ok r => .ok (yd ++ r) | _ => .no) Q), fun H'' q => ?_, fun x H'' hy => ?_⟩
          . obtain ⟨n', h1, h2⟩ := q
            exact ⟨n', h1, h2⟩
          . have hd : ds[i]? = some ds[i] := List.getElem?_eq_getElem hlt
            have hdrop : ds.drop i = ds[i] :: ds.drop (i + 1) := List.drop_eq_getElem_cons hlt
            obtain ⟨G3, g3, r3⟩ := W.yld i _ G' H' x H'' hd g2.g g2.gh hy
            have g13 := g2.trans g3
            have nD3 : G3 D = none := by
              cases q : G3 D with
              | none => rfl
              | some u => rcases g3.fr D u q with z | z | ⟨xs, rfl⟩
                          . rw [nD] at z; cases z
                          . rw [hDa] at z; cases z
                          . have := g3.gh _ _ q; rw [g3.h _ _ hDa] at this; cases this
            rw [hdrop] at aft2
            unfold compRun at aft2
            rw [hmap]
            cases eb : bnd ds[i] with
            | exc c => rw [eb] at aft2; exact aft2.elim
            | no => rw [eb] at aft2; exact aft2.elim
            | ok sl =>
              rw [eb] at aft2
              refine hg G3 H'' _ x sl _ _ g3.gh r3 eb fun vs hv hs hsl => ⟨⟨by rw [List.length_append, List.length_append, List.length_replicate, List.length_map, hv], fun j v z => ?_⟩, ?_⟩
              . by_cases hj : j < m
                . rw [List.getElem?_append_left (by rw [List.length_replicate]; exact hj), List.getElem?_replicate] at z
                  split at z <;> cases z
                . rw [List.getElem?_append_right (by rw [List.length_replicate]; exact Nat.not_lt.mp hj), List.length_replicate] at z
                  rw [List.getElem?_append_right (by rw [List.length_map, hv]; exact Nat.not_lt.mp hj), List.length_map, hv]
                  exact z
              . have Sb : SR G3 H'' (vs.map some ++ capS σ cap) (sl ++ capD δ cap) := (S1.grow g13).cap cap hnd (hv.trans hs.symm) hsl
                refine ⟨G3, _, Sb, ?_⟩
                simp only at aft2
                cases et : tt (sl ++ capD δ cap) with
                | exc c => rw [et] at aft2; exact aft2.elim
                | no => rw [et] at aft2; exact aft2.elim
                | ok kk =>
                  rw [et] at aft2
                  intro G4 H4 g4
                  have nD4 : G4 D = none := by
                    cases q : G4 D with
                    | none => rfl
                    | some u => rcases g4.fr D u q with z | z | ⟨xs, rfl⟩
                                . rw [nD3] at z; cases z
                                . rw [g3.h _ _ hDa] at z; cases z
                                . have := g4.gh _ _ q; rw [g4.h _ _ (g3.h _ _ hDa)] at this; cases this
                  have hD4 : H4 D = some (.lst acc) := g4.h _ _ (g3.h _ _ hDa)
                  cases kk with
                  | false =>
                    rw [if_neg (by decide)]
                    exact ⟨_, by omega, rfl, hlt, G4, acc, yd, g13.trans g4, nD4, hD4, ry.mono (g3.g.trans g4.g), by omega, aft2⟩
                  | true =>
                    rw [if_pos rfl]
                    refine ⟨G4, _, Sb.grow g4, ?_⟩
                    simp only at aft2
                    cases ee : el (sl ++ capD δ cap) with
                    | exc c => rw [ee] at aft2; exact aft2.elim
                    | no => rw [ee] at aft2; exact aft2.elim
                    | ok y =>
                      rw [ee] at aft2
                      intro v G5 H5 g5 r5
                      have nD5 : G5 D = none := by
                        cases q : G5 D with
                        | none => rfl
                        | some u => rcases g5.fr D u q with z | z | ⟨xs, rfl⟩
                                    . rw [nD4] at z; cases z
                                    . rw [hD4] at z; cases z
                                    . have := g5.gh _ _ q; rw [g5.h _ _ hD4] at this; cases this
                      have hD5 : H5 D = some (.lst acc) := g5.h _ _ hD4
                      have hal : acc.length <= i := by rw [← ry.length]; exact hyl
                      refine ⟨acc, hD5, by omega, _, by omega, rfl, hlt, G5, acc ++ [v], yd ++ [y], ?_, nD5, upd_same, ?_, by rw [List.length_append, List.length_singleton]; omega, ?_⟩
                      . have g15 := (g13.trans g4).trans g5
                        refine ⟨g15.g, fun b o q => ?_, fun b o q => ?_, g15.fr⟩
                        . rw [upd_ne (ne_of_none q hD)]; exact g15.h _ _ q
                        . rw [upd_ne (ne_of_none q nD5)]; exact g15.gh _ _ q
                      . exact (ry.mono (g3.g.trans (g4.g.trans g5.g))).append (RepL.cons r5 rfl)
                      . simp only at aft2
                        cases er : compRun bnd (capD δ cap) tt el (ds.drop (i + 1)) with
                        | ok r =>
                          rw [er] at aft2
                          simp only [List.append_assoc, List.singleton_append]
                          exact aft2
                        | exc c => rw [er] at aft2; exact aft2
                        | no => rw [er] at aft2; exact aft2
        . refine .inl ⟨W.stop i H' (Nat.not_lt.mp hlt) (g2.g.trans g2.gh), ?_⟩
          have : ds.drop i = [] := List.drop_eq_nil_of_le (Nat.not_lt.mp hlt)
          rw [this] at aft2
          unfold compRun at aft2
          have aft3 : AftF E G H (.ok (yd ++ [])) Q := aft2
          rw [List.append_nil] at aft3
          exact aft3 D acc G' H' (g1.trans g2) (g1.h.free hD) nD hDa ry
    . rw [if_neg hz] at aft1; exact aft1.elim
end
end Sm
end
section
set_option Elab.async false
set_option linter.all false
set_option maxRecDepth 100000
set_option maxHeartbeats 4000000
set_option autoImplicit false
namespace Sm
open PySem PySem.Spec PyProof.Rows L2
noncomputable def clFold (cells : List (Str × Addr)) : List (Str × NameKind) -> List (Str × Addr) -> List (Str × Addr)
  | [], cs => cs
  | (n, kd) :: r, cs => if kd == .free then clFold cells r ((n, (cells.lookup n).getD 0) :: cs) else clFold cells r cs
theorem clos_run {env : Env} : ∀ (names : List (Str × NameKind)) (cs : List (Str × Addr)), (∀ y ∈ names, y.2 = .free -> ∃ c, env.cells.lookup y.1 = some c) ->
    (forIn names cs fun (x : Str × NameKind) (r : List (Str × Addr)) => if (x.2 == NameKind.free) = true then do let c ← cellOf env x.1; pure (ForInStep.yield ((x.1, c) :: r)) else pure (ForInStep.yield r)) = (pure (clFold env.cells names cs) : Sem (List (Str × Addr)))
  | [], cs, _ => rfl
  | (n, kd) :: r, cs, h => by
    rw [List.forIn_cons]
    have ih := fun cs => clos_run r cs fun y hy => h y (List.mem_cons_of_mem _ hy)
    unfold clFold
    by_cases hk : (kd == NameKind.free) = true
    . obtain ⟨c, hc⟩ := h (n, kd) List.mem_cons_self (eq_of_beq hk)
      have hc' : cellOf env n = pure c := by unfold cellOf; rw [show env.cells.lookup n = some c from hc]
      simp only [hk, if_true, hc', pure_bind]
      rw [show env.cells.lookup n = some c from hc]
      exact ih _
    . simp only [hk, if_false, pure_bind]
      exact ih _
theorem clFold_mem {cells : List (Str × Addr)} : ∀ {names : List (Str × NameKind)} {cs : List (Str × Addr)} {y : Str × Addr}, y ∈ clFold cells names cs -> y ∈ cs \/ ((y.1, NameKind.free) ∈ names /\ y.2 = (cells.lookup y.1).getD 0)
  | [], cs, y, h => .inl h
  | (n, kd) :: r, cs, y, h => by
    unfold clFold at h
    by_cases hk : (kd == NameKind.free) = true
    . rw [if_pos hk] at h
      have hk' := eq_of_beq hk
      subst hk'
      rcases clFold_mem h with z | ⟨z1, z2⟩
      . rcases List.mem_cons.mp z with rfl | z
        . exact .inr ⟨List.mem_cons_self, rfl⟩
        . exact .inl z
      . exact .inr ⟨List.mem_cons_of_mem _ z1, z2⟩
    . rw [if_neg hk] at h
      rcases clFold_mem h with z | ⟨z1, z2⟩
      . exact .inl z
      . exact .inr ⟨List.mem_cons_of_mem _ z1, z2⟩
theorem clFold_has {cells : List (Str × Addr)} {x : Str} : ∀ {names : List (Str × NameKind)} {cs : List (Str × Addr)}, ((x, NameKind.free) ∈ names \/ ∃ c, (x, c) ∈ cs) -> ∃ c, (x, c) ∈ clFold cells names cs
  | [], cs, h => by
    rcases h with h | h
    . cases h
    . exact h
  | (n, kd) :: r, cs, h => by
    unfold clFold
    by_cases hk : (kd == NameKind.free) = true
    . rw [if_pos hk]
      refine clFold_has ?_
      rcases h with h | ⟨c, h⟩
      . rcases List.mem_cons.mp h with q | q
        . cases q; exact .inr ⟨_, List.mem_cons_self⟩
        . exact .inl q
      . exact .inr ⟨c, List.mem_cons_of_mem _ h⟩
    . rw [if_neg hk]
      refine clFold_has ?_
      rcases h with h | ⟨c, h⟩
      . rcases List.mem_cons.mp h with q | q
        . cases q; exact absurd rfl hk
        . exact .inl q
      . exact .inr ⟨c, h⟩
theorem lookup_some_mem {α : Type} {x : Str} {c : α} {l : List (Str × α)} (h : l.lookup x = some c) : (x, c) ∈ l := PySem.mem_of_lookup h
theorem lookup_of_mem {α : Type} {x : Str} : ∀ {l : List (Str × α)} {c : α}, (x, c) ∈ l -> ∃ c', l.lookup x = some c'
  | [], _, h => by cases h
  | (n, d) :: r, c, h => by
    rw [List.lookup_cons]
    cases q : x == n with
    | true => exact ⟨d, rfl⟩
    | false =>
      rcases List.mem_cons.mp h with z | z
      . cases z; simp at q
      . exact lookup_of_mem z
theorem clos_of {X : Cx} (ok : X.Ok) {scope : Scope} (hnc : ∀ y ∈ scope.names, y.2 ≠ .cell) (hfree : ∀ y ∈ scope.names, y.2 = .free -> X.env.scope.names.lookup y.1 = some .cell \/ X.env.scope.names.lookup y.1 = some .free) : ∃ cl, Clos X scope cl := by
  have hc : ∀ y ∈ scope.names, y.2 = .free -> ∃ c, X.env.cells.lookup y.1 = some c := fun y hy hf => ok.has y.1 (hfree y hy hf)
  refine ⟨clFold X.env.cells scope.names [], ⟨?_, fun x c h => ?_, fun x h => ?_⟩⟩
  . have := clos_run (env := X.env) scope.names [] hc
    unfold closureFor
    simp only
    rw [this]
    rfl
  . rcases clFold_mem (lookup_some_mem h) with z | ⟨z1, z2⟩
    . cases z
    . obtain ⟨c', e⟩ := hc _ z1 rfl
      have e' : X.env.cells.lookup x = some c' := e
      have z2' : c = (X.env.cells.lookup x).getD 0 := z2
      rw [e'] at z2' ⊢
      rw [z2']; rfl
  . have hm : (x, NameKind.free) ∈ scope.names := by
      have key : ∀ kd, (relabel scope X.env).names.lookup x = some kd -> (kd = .cell \/ kd = .free) -> (x, NameKind.free) ∈ scope.names := fun kd hl hkd => by
        have hm := lookup_some_mem hl
        unfold relabel at hm
        simp only [List.mem_map] at hm
        obtain ⟨⟨n, k0⟩, hy, e⟩ := hm
        simp only at e
        split at e
        . rename_i hc'
          cases e
          have : k0 = .free := by
            rw [Bool.and_eq_true, Bool.and_eq_true] at hc'
            exact eq_of_beq hc'.1.1
          subst this; exact hy
        . cases e
          rcases hkd with rfl | rfl
          . exact absurd rfl (hnc _ hy)
          . exact hy
      rcases h with h | h
      . exact key _ h (.inl rfl)
      . exact key _ h (.inr rfl)
    obtain ⟨c, hc'⟩ := clFold_has (cells := X.env.cells) (names := scope.names) (cs := []) (x := x) (.inl hm)
    exact lookup_of_mem hc'
noncomputable def okComp (N : List Str) (sc scope : Scope) (xs capN : List Str) (cap : List Nat) : Bool :=
  decide (scope.kind = .function) && scope.names.all (fun y => decide (y.2 ≠ .cell)) && scope.names.all (fun y => decide (y.2 = .local -> scope.names.lookup y.1 = some .local)) &&
  scope.names.all (fun y => decide (y.2 = .free -> sc.names.lookup y.1 = some .cell \/ sc.names.lookup y.1 = some .free)) && decide (cap.map (fun j => N[j]?) = capN.map some) &&
  capN.all (fun x => decide ((relS scope sc).names.lookup x = some .cell \/ (relS scope sc).names.lookup x = some .free)) && capN.all (fun x => decide (sc.names.lookup x = some .cell \/ sc.names.lookup x = some .free)) &&
  decide ((xs ++ capN).Nodup) && xs.all (fun x => decide ((relS scope sc).names.lookup x = some .local)) && decide (cap.Nodup)
section
variable {P : Program} {w : World} {K : PySem.W.Frag} {mg : Str -> Option Value} {base : Heap} {X : Cx} {N : List Str} {sc : Scope} {k : Nat} {df : Bool} {E : EK} {pos p px py tp : Pos} {tg a b c e elt iter : Expr} {ifs : List Expr} {es : List Expr} {f g el : Dn -> Res PyData} {fs src : Dn -> Res (List PyData)} {tt : Dn -> Res Bool} {scope : Scope} {capN : List Str} {cap : List Nat}
structure CompOk (N : List Str) (sc scope : Scope) (xs capN : List Str) (cap : List Nat) : Prop where
  h1 : scope.kind = .function
  h2 : ∀ y ∈ scope.names, y.2 ≠ .cell
  h3 : ∀ y ∈ scope.names, y.2 = .local -> scope.names.lookup y.1 = some .local
  h4 : ∀ y ∈ scope.names, y.2 = .free -> sc.names.lookup y.1 = some .cell \/ sc.names.lookup y.1 = some .free
  h5 : cap.map (fun j => N[j]?) = capN.map some
  h6 : ∀ x ∈ capN, (relS scope sc).names.lookup x = some .cell \/ (relS scope sc).names.lookup x = some .free
  h7 : ∀ x ∈ capN, sc.names.lookup x = some .cell \/ sc.names.lookup x = some .free
  h8 : (xs ++ capN).Nodup
  h9 : ∀ x ∈ xs, (relS scope sc).names.lookup x = some .local
  h10 : cap.Nodup
theorem okComp.ok {xs : List Str} (h : okComp N sc scope xs capN cap = true) : CompOk N sc scope xs capN cap := by
  unfold okComp at h
  simp only [Bool.and_eq_true, List.all_eq_true, decide_eq_true_eq] at h
  obtain ⟨⟨⟨⟨⟨⟨⟨⟨⟨h1, h2⟩, h3⟩, h4⟩, h5⟩, h6⟩, h7⟩, h8⟩, h9⟩, h10⟩ := h
  exact ⟨h1, h2, h3, h4, h5, h6, h7, h8, h9, h10⟩
theorem comp_facts {xs : List Str} (C : Cxt P w K mg base X N sc k df) (h : CompOk N sc scope xs capN cap) (ok : X.Ok) : CompFacts X scope xs capN cap := by
  refine ⟨h.h1, h.h2, h.h3, clos_of ok h.h2 fun y hy hf => ?_, by rw [C.hN]; exact h.h5, fun x hx => ?_, fun x hx => ?_⟩
  . rw [C.hs]; exact h.h4 y hy hf
  . rw [relS_eq C.hs]; exact h.h6 x hx
  . rw [C.hs]; exact h.h7 x hx
abbrev DTs (X : Cx) (E : EK) (ifs : List Expr) (f : Dn -> Res Bool) : Prop := PTs X ifs (tT E f)
noncomputable def cTrue : Dn -> Res Bool := fun _ => .ok true
theorem ts_nil : DTs X E [] cTrue := fun pins s σ H Q I ⟨G, δ, S, a⟩ => pts_nil pins s σ H Q I (a G H (Grow.refl S.sub))
theorem ts_one (h : DT X E c tt) : DTs X E [c] tt := pts_one h
theorem f_comp1 {x : Str} (C : Cxt P w K mg base X N sc k df) (cap : List Nat) (capN : List Str) (ho : okComp N sc scope [x] capN cap = true) (hi : DI X E (.Name x px) iter src)
    (ht : ∀ X', Cxt P w K mg base X' ([x] ++ capN) (relS scope sc) k false -> DTs X' E0k ifs tt) (he : ∀ X', Cxt P w K mg base X' ([x] ++ capN) (relS scope sc) k false -> DE X' E0k elt el)
    (hs : autoParam (∀ x, foldedSetIterable iter X.env x = pure x) L2.ax5._auto_1) : DF X E (.ListComp elt [⟨.Name x px, iter, ifs, 0⟩] scope pos) (lComp src bind1 cap tt el) := by
  have o := okComp.ok ho
  refine PE.imp (pe_comp (g := gName 0) C.calm (comp_facts C o) hi (fun X' B => ?_) (fun X' B => ht X' (C.blk B)) (fun X' B => he X' (C.blk B)) hs) fun σ H Q h => tComp_D (m := 1) rfl o.h10 gok1 h
  have C' := C.blk B
  have hl : X'.env.scope.names.lookup x = some .local := by rw [C'.hs]; exact o.h9 x (by simp)
  exact pg_name (by rw [C'.hN]; exact o.h8) (by rw [C'.hN]; rfl) (.inl hl) (.inr hl)
end
end Sm
end
section
set_option Elab.async false
set_option linter.all false
set_option maxRecDepth 100000
set_option maxHeartbeats 4000000
set_option autoImplicit false
namespace Sm
open PySem PySem.Spec PyProof.Rows L2
inductive Out where
  | nx (δ : Dn)
  | rt (d : PyData)
  | bk (δ : Dn)
  | ct (δ : Dn)
  | exc (c : Str)
  | no
structure SSt (G0 H0 G H : Hp) (σ : St) (δ : Dn) : Prop where
  gr : Grow G0 H0 G H
  sr : SR G H σ δ
  fr : ∀ (i : Nat) (d : PyData) (a : Addr), δ[i]? = some (.ow d) -> σ[i]?.join = some (.ref a) -> H0 a = none
theorem SSt.grow {G0 H0 G H G' H' : Hp} {σ : St} {δ : Dn} (S : SSt G0 H0 G H σ δ) (g : Grow G H G' H') : SSt G0 H0 G' H' σ δ := ⟨S.gr.trans g, S.sr.grow g, S.fr⟩
def AftS (E : EK) (G0 H0 : Hp) (o : Out) (D : Ends) : Prop := match o with
  | .nx δ => ∀ σ G H, SSt G0 H0 G H σ δ -> D.nx σ H
  | .rt d => ∀ v G H, Grow G0 H0 G H -> Rep G d v -> D.rt v H
  | .bk δ => ∀ σ G H, SSt G0 H0 G H σ δ -> D.bk σ H
  | .ct δ => ∀ σ G H, SSt G0 H0 G H σ δ -> D.ct σ H
  | .exc c => ∀ G H, Grow G0 H0 G H -> E c H
  | .no => False
def tS (E : EK) (G0 H0 : Hp) (g : Dn -> Out) : TS := fun D σ H => ∃ G δ, SSt G0 H0 G H σ δ /\ AftS E G0 H0 (g δ) D
def DS (X : Cx) (E : EK) (st : Stmt) (g : Dn -> Out) : Prop := ∀ G0 H0, PS X st (tS E G0 H0 g)
def DSs (X : Cx) (E : EK) (st : List Stmt) (g : Dn -> Out) : Prop := ∀ G0 H0, PSs X st (tS E G0 H0 g)
theorem PS.imp {X : Cx} {st : Stmt} {t t' : TS} (h : PS X st t) (i : ∀ D σ H, t' D σ H -> t D σ H) : PS X st t' := fun pins s σ H D I q => h pins s σ H D I (i _ _ _ q)
theorem PSs.imp {X : Cx} {st : List Stmt} {t t' : TS} (h : PSs X st t) (i : ∀ D σ H, t' D σ H -> t D σ H) : PSs X st t' := fun pins s σ H D I q => h pins s σ H D I (i _ _ _ q)
noncomputable def thenS {α : Type} (r : Res α) (k : α -> Out) : Out := match r with
  | .ok a => k a
  | .exc c => .exc c
  | .no => .no
theorem aftS_D {E : EK} {G0 H0 G H : Hp} {σ : St} {δ : Dn} {f : Dn -> Res PyData} {k : PyData -> Out} {D : Ends} {R : VK} (S : SSt G0 H0 G H σ δ) (a : AftS E G0 H0 (thenS (f δ) k) D)
    (h : ∀ d v G1 H1, Grow G H G1 H1 -> Rep G1 d v -> SSt G0 H0 G1 H1 σ δ -> AftS E G0 H0 (k d) D -> R v H1) : tD E f σ H R := by
  refine ⟨G, δ, S.sr, ?_⟩
  cases e : f δ with
  | ok d => rw [e] at a; exact fun v G' H' g r => h d v G' H' g r (S.grow g) a
  | exc c => rw [e] at a; exact fun G' H' g => a G' H' (S.gr.trans g)
  | no => rw [e] at a; exact a
theorem aftS_F {E : EK} {G0 H0 G H : Hp} {σ : St} {δ : Dn} {f : Dn -> Res (List PyData)} {k : List PyData -> Out} {D : Ends} {R : VK} (S : SSt G0 H0 G H σ δ) (a : AftS E G0 H0 (thenS (f δ) k) D)
    (h : ∀ ds p xs G1 H1, Grow G H G1 H1 -> H p = none -> G1 p = none -> H1 p = some (.lst xs) -> RepL G1 ds xs -> SSt G0 H0 G1 H1 σ δ -> AftS E G0 H0 (k ds) D -> R (.ref p) H1) : tF E f σ H R := by
  refine ⟨G, δ, S.sr, ?_⟩
  cases e : f δ with
  | ok d => rw [e] at a; exact fun p xs G' H' g q1 q2 q3 q4 => h d p xs G' H' g q1 q2 q3 q4 (S.grow g) a
  | exc c => rw [e] at a; exact fun G' H' g => a G' H' (S.gr.trans g)
  | no => rw [e] at a; exact a
theorem aftS_T {E : EK} {G0 H0 G H : Hp} {σ : St} {δ : Dn} {f : Dn -> Res Bool} {k : Bool -> Out} {D : Ends} {R : Bool -> Hp -> Prop} (S : SSt G0 H0 G H σ δ) (a : AftS E G0 H0 (thenS (f δ) k) D)
    (h : ∀ d G1 H1, Grow G H G1 H1 -> SSt G0 H0 G1 H1 σ δ -> AftS E G0 H0 (k d) D -> R d H1) : tT E f σ H R := by
  refine ⟨G, δ, S.sr, ?_⟩
  cases e : f δ with
  | ok d => rw [e] at a; exact fun G' H' g => h d G' H' g (S.grow g) a
  | exc c => rw [e] at a; exact fun G' H' g => a G' H' (S.gr.trans g)
  | no => rw [e] at a; exact a
theorem aftS_I {E : EK} {G0 H0 G H : Hp} {σ : St} {δ : Dn} {f : Dn -> Res (List PyData)} {k : List PyData -> Out} {D : Ends} {R : It -> Hp -> Prop} (S : SSt G0 H0 G H σ δ) (a : AftS E G0 H0 (thenS (f δ) k) D)
    (h : ∀ ds J G1 H1, Grow G H G1 H1 -> Walk J G1 ds -> SSt G0 H0 G1 H1 σ δ -> AftS E G0 H0 (k ds) D -> R J H1) : tI E f σ H R := by
  refine ⟨G, δ, S.sr, ?_⟩
  cases e : f δ with
  | ok d => rw [e] at a; exact fun J G' H' g q => h d J G' H' g q (S.grow g) a
  | exc c => rw [e] at a; exact fun G' H' g => a G' H' (S.gr.trans g)
  | no => rw [e] at a; exact a
theorem getset {α : Type} {l : List α} {i j : Nat} {v : α} : (l.set i v)[j]? = if i = j /\ i < l.length then some v else l[j]? := by
  rw [List.getElem?_set]
  by_cases h : i = j
  . subst h
    by_cases hl : i < l.length
    . simp [hl]
    . simp [hl, List.getElem?_eq_none (Nat.not_lt.mp hl)]
  . simp [h]
theorem SSt.set_sh {G0 H0 G H : Hp} {σ : St} {δ : Dn} (S : SSt G0 H0 G H σ δ) {i : Nat} {v : V} {d : PyData} (r : Rep G d v) : SSt G0 H0 G H (σ.set i (some v)) (δ.set i (.sh d)) := by
  have hl := S.sr.len
  have key : ∀ (j : Nat) (d' : PyData), (δ.set i (.sh d))[j]? = some (.ow d') -> (σ.set i (some v))[j]? = σ[j]? /\ δ[j]? = some (.ow d') := fun j d' e => by
    rw [getset] at e
    split at e
    . cases e
    . rename_i hn
      refine ⟨?_, e⟩
      rw [getset, if_neg (by rw [hl]; exact hn)]
  refine ⟨S.gr, ⟨S.sr.sub, by simp [hl], fun j s e => ?_, fun j1 j2 a d1 d2 e1 e2 h1 h2 => ?_⟩, fun j d' a e h => ?_⟩
  . rw [getset] at e ⊢
    rw [hl]
    split at e
    . rename_i hc; cases e; rw [if_pos hc]; exact ⟨v, rfl, r⟩
    . rename_i hc; rw [if_neg hc]; exact S.sr.sl j s e
  . obtain ⟨k1, o1⟩ := key j1 d1 e1
    obtain ⟨k2, o2⟩ := key j2 d2 e2
    rw [k1] at h1; rw [k2] at h2
    exact S.sr.ap j1 j2 a d1 d2 o1 o2 h1 h2
  . obtain ⟨k1, o1⟩ := key j d' e
    rw [k1] at h
    exact S.fr j d' a o1 h
theorem SSt.set_ow {G0 H0 G H : Hp} {σ : St} {δ : Dn} (S : SSt G0 H0 G H σ δ) {i : Nat} {p : Addr} {d : PyData} (h0 : H0 p = none) (hg : G p = none) (ho : OwnOk G H p d) (hf : ∀ (j : Nat) d', δ[j]? = some (.ow d') -> σ[j]?.join ≠ some (.ref p)) : SSt G0 H0 G H (σ.set i (some (.ref p))) (δ.set i (.ow d)) := by
  have hl := S.sr.len
  have key : ∀ (j : Nat) (d' : PyData), (δ.set i (.ow d))[j]? = some (.ow d') -> (i = j /\ i < δ.length /\ d' = d /\ (σ.set i (some (.ref p)))[j]? = some (some (.ref p))) \/ ((σ.set i (some (.ref p)))[j]? = σ[j]? /\ δ[j]? = some (.ow d')) := fun j d' e => by
    rw [getset] at e
    split at e
    . rename_i hc; cases e; exact .inl ⟨hc.1, hc.2, rfl, by rw [getset, if_pos (by rw [hl]; exact hc)]⟩
    . rename_i hn
      refine .inr ⟨?_, e⟩
      rw [getset, if_neg (by rw [hl]; exact hn)]
  refine ⟨S.gr, ⟨S.sr.sub, by simp [hl], fun j s e => ?_, fun j1 j2 a d1 d2 e1 e2 h1 h2 => ?_⟩, fun j d' a e h => ?_⟩
  . rw [getset] at e ⊢
    rw [hl]
    split at e
    . rename_i hc; cases e; rw [if_pos hc]; exact ⟨p, rfl, hg, ho⟩
    . rename_i hc; rw [if_neg hc]; exact S.sr.sl j s e
  . rcases key j1 d1 e1 with ⟨a1, b1, _, c1⟩ | ⟨k1, o1⟩
    . rcases key j2 d2 e2 with ⟨a2, b2, _, c2⟩ | ⟨k2, o2⟩
      . exact a1.symm.trans a2
      . rw [c1] at h1; cases h1
        rw [k2] at h2
        exact absurd h2 (hf j2 d2 o2)
    . rcases key j2 d2 e2 with ⟨a2, b2, _, c2⟩ | ⟨k2, o2⟩
      . rw [c2] at h2; cases h2
        rw [k1] at h1
        exact absurd h1 (hf j1 d1 o1)
      . rw [k1] at h1; rw [k2] at h2
        exact S.sr.ap j1 j2 a d1 d2 o1 o2 h1 h2
  . rcases key j d' e with ⟨a1, b1, _, c1⟩ | ⟨k1, o1⟩
    . rw [c1] at h; cases h; exact h0
    . rw [k1] at h; exact S.fr j d' a o1 h
theorem SSt.write {G0 H0 G H : Hp} {σ : St} {δ : Dn} (S : SSt G0 H0 G H σ δ) {i : Nat} {p : Addr} {d d' : PyData} {o : HO} (hi : δ[i]? = some (.ow d)) (hp : σ[i]?.join = some (.ref p)) (hg : G p = none) (ho : OwnOk G (upd H p o) p d') : SSt G0 H0 G (upd H p o) σ (δ.set i (.ow d')) := by
  have h0 := S.fr i d p hi hp
  have hil : i < δ.length := (List.getElem?_eq_some_iff.mp hi).1
  have hsub : Same G (upd H p o) := fun b u e => by rw [upd_ne (ne_of_none e hg)]; exact S.sr.sub _ _ e
  have key : ∀ (j : Nat) (e : PyData), (δ.set i (.ow d'))[j]? = some (.ow e) -> ∃ e', δ[j]? = some (.ow e') := fun j e h => by
    rw [getset] at h
    split at h
    . rename_i hc; rw [← hc.1]; exact ⟨d, hi⟩
    . exact ⟨e, h⟩
  refine ⟨⟨S.gr.g, fun b u e => by rw [upd_ne (ne_of_none e h0)]; exact S.gr.h _ _ e, hsub, S.gr.fr⟩, ⟨hsub, by simp [S.sr.len], fun j s e => ?_, fun j1 j2 a d1 d2 e1 e2 h1 h2 => ?_⟩, fun j e a h1 h2 => ?_⟩
  . rw [getset] at e
    split at e
    . rename_i hc; cases e; rw [← hc.1]; exact ⟨p, hp, hg, ho⟩
    . rename_i hc
      have hs := S.sr.sl j s e
      cases s with
      | un => trivial
      | sh d => exact hs
      | fd _ => exact hs
      | ow d2 =>
        obtain ⟨a, e1, n1, ok⟩ := hs
        refine ⟨a, e1, n1, ?_⟩
        have hne : a ≠ p := by
          rintro rfl
          exact hc ⟨S.sr.ap i j a d d2 hi e hp e1, hil⟩
        cases d2 with
        | list ds => obtain ⟨xs, q, r⟩ := ok; exact ⟨xs, by rw [upd_ne hne]; exact q, r⟩
        | dict kvs => obtain ⟨xs, q, r⟩ := ok; exact ⟨xs, by rw [upd_ne hne]; exact q, r⟩
        | tuple xs => exact OwnK.keep (Same.refl _) (fun o q => by rw [upd_ne hne]; exact q) ok
        | _ => exact (show False from ok).elim
  . obtain ⟨e1', o1⟩ := key j1 d1 e1
    obtain ⟨e2', o2⟩ := key j2 d2 e2
    exact S.sr.ap j1 j2 a _ _ o1 o2 h1 h2
  . obtain ⟨e', o1⟩ := key j e h1
    exact S.fr j e' a o1 h2
noncomputable def fz (i : Nat) (δ : Dn) : Dn := match δ[i]? with
  | some (.ow (.list ds)) => δ.set i (.sh (.list ds))
  | _ => δ
theorem SSt.fz {G0 H0 G H : Hp} {σ : St} {δ : Dn} (S : SSt G0 H0 G H σ δ) (i : Nat) : ∃ G', SSt G0 H0 G' H σ (fz i δ) := by
  unfold Sm.fz
  split
  . rename_i ds hi
    obtain ⟨p, hp, hg, xs, hx, r⟩ := S.sr.sl i _ hi
    have h0 := S.fr i _ p hi hp
    have g : Grow G0 H0 (upd G p (.lst xs)) H := S.gr.share h0 hg hx
    have hv : σ[i]? = some (some (.ref p)) := by
      cases q : σ[i]? with
      | none => rw [q] at hp; cases hp
      | some z => rw [q] at hp; cases z with
        | none => cases hp
        | some z => cases hp; rfl
    have key : ∀ (j : Nat) (d' : PyData), (δ.set i (.sh (.list ds)))[j]? = some (.ow d') -> δ[j]? = some (.ow d') /\ j ≠ i := fun j d' e => by
      rw [getset] at e
      split at e
      . cases e
      . rename_i hn
        refine ⟨e, fun z => ?_⟩
        subst z
        exact hn ⟨rfl, (List.getElem?_eq_some_iff.mp hi).1⟩
    refine ⟨_, g, ⟨g.gh, by simp [S.sr.len], fun j s e => ?_, fun j1 j2 a d1 d2 e1 e2 h1 h2 => S.sr.ap j1 j2 a d1 d2 (key j1 d1 e1).1 (key j2 d2 e2).1 h1 h2⟩, fun j d' a e h => S.fr j d' a (key j d' e).1 h⟩
    have sm : Same G (upd G p (.lst xs)) := Same.upd hg
    by_cases hj : i = j /\ i < δ.length
    . rw [getset, if_pos hj] at e
      cases e
      rw [← hj.1, hv]
      exact ⟨_, rfl, p, xs, rfl, .inl upd_same, r.mono sm⟩
    . have e2 := e
      rw [getset, if_neg hj] at e2
      have hs := S.sr.sl j s e2
      cases s with
      | un => trivial
      | sh d => obtain ⟨v, e1, r1⟩ := hs; exact ⟨v, e1, r1.mono sm⟩
      | fd _ => exact FdOk.mono sm hs
      | ow d2 =>
        obtain ⟨a, e1, n1, ok⟩ := hs
        have hne : a ≠ p := by
          rintro rfl
          exact (key j d2 e).2 (S.sr.ap j i a d2 _ e2 hi e1 hp)
        refine ⟨a, e1, by rw [upd_ne hne]; exact n1, ?_⟩
        cases d2 with
        | list ds => obtain ⟨xs, q, r⟩ := ok; exact ⟨xs, q, r.mono sm⟩
        | dict kvs => obtain ⟨xs, q, k, r⟩ := ok; exact ⟨xs, q, k, r.mono sm⟩
        | tuple xs => exact OwnK.keep sm (fun o q => q) ok
        | _ => exact (show False from ok).elim
  . exact ⟨G, S⟩
section
variable {P : Program} {w : World} {K : PySem.W.Frag} {mg : Str -> Option Value} {base : Heap} {X : Cx} {N : List Str} {sc : Scope} {k : Nat} {df : Bool} {E : EK} {pos p px py tp : Pos} {tg a b c e elt iter : Expr} {ifs : List Expr} {es : List Expr} {f g el : Dn -> Res PyData} {fs src : Dn -> Res (List PyData)} {tt : Dn -> Res Bool} {scope : Scope} {capN : List Str} {cap : List Nat} {st : Stmt} {sts sts' : List Stmt} {g1 g2 : Dn -> Out}
noncomputable def sNext : Dn -> Out := fun δ => .nx δ
noncomputable def sSeq (g1 g2 : Dn -> Out) : Dn -> Out := fun δ => match g1 δ with
  | .nx δ' => g2 δ'
  | o => o
theorem ss_nil : DSs X E [] sNext := fun G0 H0 => PSs.imp pss_nil fun D σ H ⟨G, δ, S, a⟩ => a σ G H S
theorem ss_cons (h1 : DS X E st g1) (h2 : DSs X E sts g2) : DSs X E (st :: sts) (sSeq g1 g2) := fun G0 H0 => by
  refine PSs.imp (pss_cons (h1 G0 H0) (h2 G0 H0)) fun D σ H ⟨G, δ, S, a⟩ => ⟨G, δ, S, ?_⟩
  unfold sSeq at a
  cases e : g1 δ with
  | nx δ' => rw [e] at a; exact fun σ' G' H' S' => ⟨G', δ', S', a⟩
  | rt d => rw [e] at a; exact a
  | bk d => rw [e] at a; exact a
  | ct d => rw [e] at a; exact a
  | exc d => rw [e] at a; exact a
  | no => rw [e] at a; exact a
theorem ss_one (h1 : DS X E st g1) : DSs X E [st] g1 := fun G0 H0 => pss_one (h1 G0 H0)
noncomputable def sFz (i : Nat) (g : Dn -> Out) : Dn -> Out := fun δ => g (fz i δ)
theorem s_fz (i : Nat) (h : DS X E st g1) : DS X E st (sFz i g1) := fun G0 H0 => PS.imp (h G0 H0) fun D σ H ⟨G, δ, S, a⟩ => by
  obtain ⟨G', S'⟩ := S.fz i
  exact ⟨G', _, S', a⟩
noncomputable def sRet (f : Dn -> Res PyData) : Dn -> Out := fun δ => thenS (f δ) .rt
theorem s_ret (h : DE X E e f) : DS X E (.Return (some e) pos) (sRet f) := fun G0 H0 => PS.imp (ps_ret h) fun D σ H ⟨G, δ, S, a⟩ =>
  aftS_D S a fun d v G1 H1 g1 r1 S1 a1 => a1 v G1 H1 S1.gr r1
noncomputable def sIf (c : Dn -> Res Bool) (g1 g2 : Dn -> Out) : Dn -> Out := fun δ => thenS (c δ) fun b => if b = true then g1 δ else g2 δ
theorem s_if (hc : DT X E c tt) (h1 : DSs X E sts g1) (h2 : DSs X E sts' g2) : DS X E (.If c sts sts' pos) (sIf tt g1 g2) := fun G0 H0 => PS.imp (ps_if hc (h1 G0 H0) (h2 G0 H0)) fun D σ H ⟨G, δ, S, a⟩ =>
  aftS_T S a fun d G1 H1 g1 S1 a1 => by
    cases d with
    | true => rw [if_pos rfl]; exact ⟨G1, δ, S1, a1⟩
    | false => rw [if_neg (by decide)]; exact ⟨G1, δ, S1, a1⟩
noncomputable def okSet (N : List Str) (sc : Scope) (df : Bool) (i : Nat) (x : Str) : Bool := decide (N.Nodup) && decide (N[i]? = some x) && (decide (sc.names.lookup x = some .local) || (decide (sc.names.lookup x = some .cell) && df))
theorem okSet.ok (C : Cxt P w K mg base X N sc k df) {i : Nat} {x : Str} (h : okSet N sc df i x = true) : X.N.Nodup /\ X.N[i]? = some x /\ Loc X.env.scope x /\ (X.fn x = true \/ X.env.scope.names.lookup x = some .local) := by
  unfold okSet at h
  simp only [Bool.and_eq_true, Bool.or_eq_true, decide_eq_true_eq] at h
  obtain ⟨⟨h1, h2⟩, h3⟩ := h
  rw [C.hN]
  refine ⟨h1, h2, ?_⟩
  unfold L2.Loc
  rw [C.hs]
  rcases h3 with h3 | ⟨h3, h4⟩
  . exact ⟨.inl h3, .inr h3⟩
  . exact ⟨.inr h3, .inl (C.fn h4 x)⟩
noncomputable def sSet (i : Nat) (f : Dn -> Res PyData) : Dn -> Out := fun δ => thenS (f δ) fun d => .nx (δ.set i (.sh d))
theorem s_set {x : Str} (C : Cxt P w K mg base X N sc k df) (i : Nat) (ho : okSet N sc df i x = true) (h : DE X E e f) (hs : autoParam (swapsWith e (some (.Name x p)) pos.line X.env = pure false) L2.ax4._auto_1) : DS X E (.Assign [.Name x p] e pos) (sSet i f) := fun G0 H0 => by
  obtain ⟨h1, h2, h3, h4⟩ := okSet.ok C ho
  exact PS.imp (ps_set h1 h2 h3 h hs h4) fun D σ H ⟨G, δ, S, a⟩ => aftS_D S a fun d v G1 H1 g1 r1 S1 a1 => a1 _ G1 H1 (S1.set_sh r1)
theorem fresh_slot {G0 H0 G H : Hp} {σ : St} {δ : Dn} (S : SSt G0 H0 G H σ δ) {p : Addr} (hp : H p = none) (j : Nat) (d' : PyData) (e : δ[j]? = some (.ow d')) : σ[j]?.join ≠ some (.ref p) := fun z => by
  obtain ⟨a, e1, _, ok⟩ := S.sr.sl j _ e
  rw [e1] at z; cases z
  obtain ⟨o, q⟩ := ok.some
  rw [hp] at q; cases q
noncomputable def sOwn (i : Nat) (f : Dn -> Res (List PyData)) : Dn -> Out := fun δ => thenS (f δ) fun ds => .nx (δ.set i (.ow (.list ds)))
theorem own_fin {G0 H0 : Hp} {D : Ends} {σ : St} {H : Hp} {i : Nat} (h : tS E G0 H0 (sOwn i fs) D σ H) : tF E fs σ H fun v H1 => D.nx (σ.set i (some v)) H1 := by
  obtain ⟨G, δ, S, a⟩ := h
  refine aftS_F S a fun ds p xs G1 H1 g1 q1 q2 q3 q4 S1 a1 => ?_
  exact a1 _ G1 H1 (S1.set_ow (S.gr.h.free q1) q2 ⟨xs, q3, q4⟩ (fresh_slot S q1))
theorem s_own {x : Str} (C : Cxt P w K mg base X N sc k df) (i : Nat) (ho : okSet N sc df i x = true) (h : DF X E e fs) (hs : autoParam (swapsWith e (some (.Name x p)) pos.line X.env = pure false) L2.ax4._auto_1) : DS X E (.Assign [.Name x p] e pos) (sOwn i fs) := fun G0 H0 => by
  obtain ⟨h1, h2, h3, h4⟩ := okSet.ok C ho
  exact PS.imp (ps_set h1 h2 h3 h hs h4) fun D σ H q => own_fin q
noncomputable def okSwap (sc scope : Scope) (x : Str) (l1 l2 : Nat) : Bool := decide (sc.kind = .function) && decide (sc.names.lookup x = some .local) && decide (l1 = l2) && !(scope.names.any fun (n, kd) => n == x && (kd == .local || kd == .cell))
theorem swap_true {x : Str} {elt : Expr} {gens : List Comprehension} {ln : Nat} (C : Cxt P w K mg base X N sc k df) (h : okSwap sc scope x p.line pos.line = true) : swapsWith (.ListComp elt gens scope pos) (some (.Name x p)) ln X.env = pure true := by
  unfold okSwap at h
  simp only [Bool.and_eq_true, decide_eq_true_eq] at h
  obtain ⟨⟨⟨h1, h2⟩, h3⟩, h4⟩ := h
  unfold swapsWith
  show pure (X.env.blockKind == .function && X.env.kindOf x == some .local && p.line == pos.line && !(scope.names.any fun (n, kd) => n == x && (kd == .local || kd == .cell))) = _
  have e1 : X.env.blockKind = .function := by unfold Env.blockKind; rw [C.hs, h1]; rfl
  have e2 : X.env.kindOf x = some .local := by show X.env.scope.names.lookup x = _; rw [C.hs]; exact h2
  rw [e1, e2, h3, h4]
  simp
section
variable {x y : Str} {i : Nat} {py spos : Pos}
noncomputable def sNew (i : Nat) (f : Dn -> Res (List PyData)) : Dn -> Out := fun δ => thenS (f δ) fun ds => .nx (δ.set i (.sh (.list ds)))
theorem new_fin {G0 H0 : Hp} {D : Ends} {σ : St} {H : Hp} {i : Nat} (h : tS E G0 H0 (sNew i fs) D σ H) : tF E fs σ H fun v H1 => D.nx (σ.set i (some v)) H1 := by
  obtain ⟨G, δ, S, a⟩ := h
  refine aftS_F S a fun ds p xs G1 H1 g1 q1 q2 q3 q4 S1 a1 => ?_
  exact a1 _ _ H1 ((S.grow (g1.share q1 q2 q3)).set_sh ⟨p, xs, rfl, .inl upd_same, q4.mono (Same.upd q2)⟩)
end
end
end Sm
end
section
set_option Elab.async false
set_option linter.all false
set_option maxRecDepth 100000
set_option maxHeartbeats 4000000
set_option autoImplicit false
namespace Sm
open PySem PySem.Spec PyProof.Rows L2
section
variable {P : Program} {w : World} {K : PySem.W.Frag} {mg : Str -> Option Value} {base : Heap} {X : Cx} {N : List Str} {sc : Scope} {k : Nat} {df : Bool} {E : EK} {pos p px py tp spos : Pos} {tg a b c e elt iter : Expr} {ifs : List Expr} {es : List Expr} {f g el : Dn -> Res PyData} {fs src : Dn -> Res (List PyData)} {tt : Dn -> Res Bool} {scope : Scope} {capN : List Str} {cap : List Nat} {st : Stmt} {sts sts' : List Stmt} {g1 g2 : Dn -> Out} {x y : Str} {i : Nat}
theorem s_newComp2 {x1 : Nat} {x2 : Str} (C : Cxt P w K mg base X N sc k df) (i : Nat) (hset : okSet N sc df i y = true) (hsw : okSwap sc scope y py.line pos.line = true) (cap : List Nat) (capN : List Str) (ho : okComp N sc scope [x, x2] capN cap = true) (hi : DI X E (.Tuple [.Name x px, .Name x2 p] x1 tp) iter src)
    (ht : ∀ X', Cxt P w K mg base X' ([x, x2] ++ capN) (relS scope sc) k false -> DTs X' E0k ifs tt) (he : ∀ X', Cxt P w K mg base X' ([x, x2] ++ capN) (relS scope sc) k false -> DE X' E0k elt el)
    (hs : autoParam (∀ x, foldedSetIterable iter X.env x = pure x) L2.ax5._auto_1) : DS X E (.Assign [.Name y py] (.ListComp elt [⟨.Tuple [.Name x px, .Name x2 p] x1 tp, iter, ifs, 0⟩] scope pos) spos) (sNew i (lComp src bind2 cap tt el)) := fun G0 H0 => by
  obtain ⟨h1, h2, h3, h4⟩ := okSet.ok C hset
  have o := okComp.ok ho
  have hl : X.env.scope.names.lookup y = some .local := by
    rw [C.hs]; unfold okSwap at hsw; simp only [Bool.and_eq_true, decide_eq_true_eq] at hsw; exact hsw.1.1.2
  refine PS.imp (ps_setComp (g := gTup K 2 (gCons (gName 0) (gCons (gName 1) gNil))) C.calm (comp_facts C o) hi (fun X' B => ?_) (fun X' B => ht X' (C.blk B)) (fun X' B => he X' (C.blk B)) h1 h2 hl (swap_true C hsw) hs) fun D σ H h => tComp_D (m := 2) rfl o.h10 gok2 (new_fin h)
  have C' := C.blk B
  have hl : X'.env.scope.names.lookup x = some .local := by rw [C'.hs]; exact o.h9 x (by simp)
  have hl2 : X'.env.scope.names.lookup x2 = some .local := by rw [C'.hs]; exact o.h9 x2 (by simp)
  have nd : X'.N.Nodup := by rw [C'.hN]; exact o.h8
  have p1 : PG X' (.Name x px) (gName 0) := pg_name nd (by rw [C'.hN]; rfl) (.inl hl) (.inr hl)
  have p2 : PG X' (.Name x2 p) (gName 1) := pg_name nd (by rw [C'.hN]; rfl) (.inl hl2) (.inr hl2)
  have := pg_tup (n := 2) (k := x1) (pos := tp) C'.calm (pgs_cons p1 (pgs_cons p2 pgs_nil))
  rw [C'.hK] at this
  exact this
noncomputable def sSet2 (i j : Nat) (f : Dn -> Res PyData) : Dn -> Out := fun δ => thenS (f δ) fun d => match d with
  | .tuple [a, b] => .nx ((δ.set i (.sh a)).set j (.sh b))
  | _ => .no
noncomputable def sApp (i : Nat) (f : Dn -> Res PyData) : Dn -> Out := fun δ => match δ[i]? with
  | some (.ow (.list ds)) => thenS (f δ) fun d => if ds.length < sizeLine then .nx (δ.set i (.ow (.list (ds ++ [d])))) else .no
  | _ => .no
theorem s_app {cpos apos : Pos} (C : Cxt P w K mg base X N sc k df) (i : Nat) (h : okVar N sc i x = true) (ha : DE X E a f)
    (hbase : autoParam (attributeBase (.Name x p) "append" X.env (eval (.Name x p) X.env) = eval (.Name x p) X.env) L2.ax4._auto_1)
    (hfew : autoParam (((backTo cpos (starEach [a] X.env)).all (fun x => !x.1) && (backToKw cpos (keywordEach [] X.env)).all (fun x => x.1.isSome)
      && decide ([a].length + ([] : List Keyword).length + (if ([] : List Keyword).isEmpty then 0 else 1) < 30)) = true) L2.ax4._auto_1)
    (hline : autoParam ((apos.endLine == cpos.line) = true) L2.ax4._auto_1) (hs : autoParam (starEach [a] X.env = (false, eval a X.env) :: starEach [] X.env) L2.ax4._auto_1) (hplain : autoParam ((backTo cpos (starEach [] X.env)).any (·.1) = false) L2.ax4._auto_1)
    (hsw : autoParam (swapsWith (.Call (.Attribute (.Name x p) "append" apos) [a] [] cpos) none pos.line X.env = pure false) L2.ax4._auto_1) :
    DS X E (.Expr (.Call (.Attribute (.Name x p) "append" apos) [a] [] cpos) pos) (sApp i f) := fun G0 H0 => by
  have hv : PE X (.Name x p) (tVar i) := by
    unfold okVar at h
    simp only [Bool.and_eq_true, Bool.not_eq_true'] at h
    obtain ⟨⟨⟨h1, h2⟩, h3⟩, h4⟩ := h
    refine pe_var (by rw [C.hN]; exact eq_of_beq h1) ?_ h3 h4
    rw [C.hs]
    unfold Vis
    cases q : sc.names.lookup x with
    | none => rw [q] at h2; cases h2
    | some z =>
      rw [q] at h2
      cases z with
      | «local» => exact .inl rfl
      | cell => exact .inr (.inl rfl)
      | free => exact .inr (.inr rfl)
      | _ => cases h2
  refine PS.imp (ps_expr (pe_bm PySem.F.plainAttrs_list PySem.F.slot_list_append PySem.F.type_list_append mt_append hv (pa_cons ha pa_nil hs) hbase hfew hline hs hplain) hsw) fun D σ H hhh => ?_
  obtain ⟨G, δ, S, aft⟩ := hhh
  unfold sApp at aft
  split at aft
  . rename_i ds hi
    obtain ⟨q, hq, hg, xs, hx, rl⟩ := S.sr.sl i _ hi
    have hσ : σ[i]? = some (some (.ref q)) := by
      cases z : σ[i]? with
      | none => rw [z] at hq; cases hq
      | some z' => rw [z] at hq; cases z' with
        | none => cases hq
        | some z'' => cases hq; rfl
    refine ⟨.ref q, hσ, .inl ⟨rfl, xs, .inl (.inl hx)⟩, ?_⟩
    refine aftS_D S aft fun d v G1 H1 g1 r1 S1 a1 => ?_
    split at a1
    . rename_i hz
      have hx1 : H1 q = some (.lst xs) := g1.h _ _ hx
      obtain ⟨q', hq', hg', _⟩ := S1.sr.sl i _ hi
      rw [hq] at hq'; cases hq'
      refine ⟨q, xs, v, rfl, rfl, hx1, by rw [← rl.length]; exact hz, ?_⟩
      exact a1 σ G1 _ (S1.write hi hq hg' ⟨xs ++ [v], upd_same, (rl.mono g1.g).append (RepL.cons r1 rfl)⟩)
    . exact a1.elim
  . exact aft.elim
noncomputable def runFor (st : PyData -> Dn -> Option Dn) (body : Dn -> Out) : List PyData -> Dn -> Out
  | [], δ => .nx δ
  | d :: ds, δ => match st d δ with
    | some δ1 => match body δ1 with
      | .nx δ' => runFor st body ds δ'
      | .ct δ' => runFor st body ds δ'
      | .bk δ' => .nx δ'
      | o => o
    | none => .no
noncomputable def sFor (src : Dn -> Res (List PyData)) (st : PyData -> Dn -> Option Dn) (body : Dn -> Out) : Dn -> Out := fun δ => thenS (src δ) fun ds => runFor st body ds δ
noncomputable def st1 (i : Nat) : PyData -> Dn -> Option Dn := fun d δ => some (δ.set i (.sh d))
noncomputable def st2 (i j : Nat) : PyData -> Dn -> Option Dn := fun d δ => match d with
  | .tuple [a, b] => some ((δ.set i (.sh a)).set j (.sh b))
  | _ => none
def TgOk (K : PySem.W.Frag) (g : TG) (st : PyData -> Dn -> Option Dn) : Prop := ∀ (G0 H0 G H : Hp) (σ : St) (δ δ1 : Dn) (d : PyData) (x : V) (Q : St -> Hp -> Prop), SSt G0 H0 G H σ δ -> Rep G d x -> st d δ = some δ1 -> (∀ σ', SSt G0 H0 G H σ' δ1 -> Q σ' H) -> g x σ H Q
theorem tg1 (i : Nat) : TgOk K (gName i) (st1 i) := fun G0 H0 G H σ δ δ1 d x Q S r e h => by cases e; exact h _ (S.set_sh r)
theorem SSt.rebase {G0 H0 G1 H1 G H : Hp} {σ : St} {δ : Dn} (g : Grow G0 H0 G1 H1) (S : SSt G0 H0 G H σ δ) (h : Same G1 G) : SSt G1 H0 G H σ δ :=
  ⟨⟨h, S.gr.h, S.gr.gh, fun b o e => (S.gr.fr b o e).imp (fun z => g.g _ _ z) id⟩, S.sr, S.fr⟩
theorem Grow.unbase {G0 H0 G1 H1 G H : Hp} (g : Grow G0 H0 G1 H1) (h : Grow G1 H0 G H) : Grow G0 H0 G H :=
  ⟨g.g.trans h.g, h.h, h.gh, fun b o e => (h.fr b o e).elim (fun z => g.fr b o z) .inr⟩
theorem SSt.unbase {G0 H0 G1 H1 G H : Hp} {σ : St} {δ : Dn} (g : Grow G0 H0 G1 H1) (S : SSt G1 H0 G H σ δ) : SSt G0 H0 G H σ δ := ⟨g.unbase S.gr, S.sr, S.fr⟩
theorem s_for' {gt : TG} {st : PyData -> Dn -> Option Dn} (C : Cxt P w K mg base X N sc k df) (hi : DI X E tg iter src) (hg : PG X tg gt) (ht : TgOk K gt st) (hb : DSs X E sts g1) (hs : ∀ x, foldedSetIterable iter X.env x = pure x) : DS X E (.For tg iter sts [] pos) (sFor src st g1) := fun G0 H0 => by
  have hb' : PSs X sts (fun D σ H => ∃ Gb, tS E Gb H0 g1 D σ H) := fun pins s σ H D I ⟨Gb, q⟩ => hb Gb H0 pins s σ H D I q
  refine PS.imp (ps_for C.own C.calm hi hg hb' hs) fun D σ H hhh => ?_
  obtain ⟨G, δ, S, aft⟩ := hhh
  refine aftS_I S aft fun ds J G1 H1 gr W S1 a1 => ?_
  have g01 := S1.gr
  refine ⟨fun i n σ' H' => n = ds.length - i /\ i <= ds.length /\ ∃ G' δ', SSt G1 H0 G' H' σ' δ' /\ AftS E G0 H0 (runFor st g1 (ds.drop i) δ') D, ⟨_, rfl, Nat.zero_le _, G1, δ, S1.rebase g01 (Same.refl _), by rw [List.drop_zero]; exact a1⟩, ?_⟩
  rintro i n σ' H' ⟨rfl, hi, G', δ', S', a'⟩
  by_cases hlt : i < ds.length
  . have hd : ds[i]? = some ds[i] := List.getElem?_eq_getElem hlt
    have hdrop : ds.drop i = ds[i] :: ds.drop (i + 1) := List.drop_eq_getElem_cons hlt
    rw [hdrop] at a'
    unfold runFor at a'
    refine .inr ⟨W.go i H' hlt (S'.gr.g.trans S'.sr.sub), fun σ2 H2 => ∃ G' δ', SSt G1 H0 G' H2 σ2 δ' /\ AftS E G0 H0 (runFor st g1 (ds.drop (i + 1)) δ') D, fun σ2 H2 q => ⟨_, by omega, rfl, hlt, q⟩, fun x H'' hy => ?_⟩
    obtain ⟨G3, g3, r3⟩ := W.yld i _ G' H' x H'' hd S'.gr.g S'.sr.sub hy
    have S3 := S'.grow g3
    cases es : st ds[i] δ' with
    | none => rw [es] at a'; exact a'.elim
    | some δ1 =>
      rw [es] at a'
      refine ht G1 H0 G3 H'' σ' δ' δ1 _ x _ S3 r3 es fun σ2 S4 => ⟨G1, G3, δ1, S4, ?_⟩
      simp only at a'
      cases eo : g1 δ1 with
      | nx δ2 => rw [eo] at a'; exact fun σ3 G4 H4 S5 => ⟨G4, δ2, S5, a'⟩
      | ct δ2 => rw [eo] at a'; exact fun σ3 G4 H4 S5 => ⟨G4, δ2, S5, a'⟩
      | bk δ2 => rw [eo] at a'; exact fun σ3 G4 H4 S5 => a' σ3 G4 H4 (S5.unbase g01)
      | rt d => rw [eo] at a'; exact fun v G4 H4 g r => a' v G4 H4 (g01.unbase g) r
      | exc c => rw [eo] at a'; exact fun G4 H4 g => a' G4 H4 (g01.unbase g)
      | no => rw [eo] at a'; exact a'
  . refine .inl ⟨W.stop i H' (Nat.not_lt.mp hlt) (S'.gr.g.trans S'.sr.sub), ?_⟩
    have : ds.drop i = [] := List.drop_eq_nil_of_le (Nat.not_lt.mp hlt)
    rw [this] at a'
    exact a' σ' G' H' (S'.unbase g01)
theorem s_for1 (C : Cxt P w K mg base X N sc k df) (i : Nat) (ho : okSet N sc df i x = true) (hi : DI X E (.Name x p) iter src) (hb : DSs X E sts g1) (hs : autoParam (∀ x, foldedSetIterable iter X.env x = pure x) L2.ax5._auto_1) : DS X E (.For (.Name x p) iter sts [] pos) (sFor src (st1 i) g1) := by
  obtain ⟨h1, h2, h3, h4⟩ := okSet.ok C ho
  exact s_for' C hi (pg_name h1 h2 h3 h4) (tg1 i) hb hs
noncomputable def keyOf : List PyData -> Option (List Key)
  | [] => some []
  | .int i :: ds => (keyOf ds).map (.inl i :: ·)
  | .str x :: ds => (keyOf ds).map (.inr x :: ·)
  | _ :: _ => none
noncomputable def keyT : PyData -> Option (List Key)
  | .tuple ds => keyOf ds
  | _ => none
theorem keyOf_rep {G : Hp} : ∀ {ds : List PyData} {xs : List V} {kk : List Key}, RepL G ds xs -> keyOf ds = some kk -> xs = kk.map kV /\ ds = kk.map keyD
  | [], _, _, r, e => by cases (show _ = _ from r); cases e; exact ⟨rfl, rfl⟩
  | .int i :: ds, _, _, r, e => by
    obtain ⟨x, t, rfl, h, l⟩ := r
    cases (show _ = _ from h)
    obtain ⟨k', e1, rfl⟩ := Option.map_eq_some_iff.mp e
    obtain ⟨q1, q2⟩ := keyOf_rep l e1
    exact ⟨by rw [q1]; rfl, by rw [q2]; rfl⟩
  | .str z :: ds, _, _, r, e => by
    obtain ⟨x, t, rfl, h, l⟩ := r
    cases h.1
    obtain ⟨k', e1, rfl⟩ := Option.map_eq_some_iff.mp e
    obtain ⟨q1, q2⟩ := keyOf_rep l e1
    exact ⟨by rw [q1]; rfl, by rw [q2]; rfl⟩
  | .none :: _, _, _, _, e => by cases e
  | .bool _ :: _, _, _, _, e => by cases e
  | .list _ :: _, _, _, _, e => by cases e
  | .tuple _ :: _, _, _, _, e => by cases e
  | .dict _ :: _, _, _, _, e => by cases e
noncomputable def getKv (kvs : List (PyData × PyData)) (kk : List Key) : Option PyData := (kvs.find? fun q => match keyT q.1 with | some k' => decide (k' = kk) | none => false).map (·.2)
noncomputable def putKv (kvs : List (PyData × PyData)) (kk : List Key) (v : PyData) : List (PyData × PyData) :=
  if (getKv kvs kk).isSome then kvs.map fun q => if keyT q.1 = some kk then (q.1, v) else q else kvs ++ [(.tuple (kk.map keyD), v)]
theorem keyOf_map (kk : List Key) : keyOf (kk.map keyD) = some kk := by
  induction kk with
  | nil => rfl
  | cons a r ih => cases a <;> (show (keyOf (r.map keyD)).map _ = _; rw [ih]; rfl)
theorem keyT_map (kk : List Key) : keyT (.tuple (kk.map keyD)) = some kk := keyOf_map kk
theorem get_rep {G : Hp} {kk : List Key} : ∀ {kvs : List (PyData × PyData)} {kv : List (List Key × V)}, kvs.map (·.1) = kv.map (fun q => PyData.tuple (q.1.map keyD)) -> RepL G (kvs.map (·.2)) (kv.map (·.2)) ->
    (getKv kvs kk = none /\ valV kv kk = none) \/ ∃ d v, getKv kvs kk = some d /\ valV kv kk = some v /\ Rep G d v
  | [], [], _, _ => .inl ⟨rfl, rfl⟩
  | [], _ :: _, h, _ => by cases h
  | _ :: _, [], h, _ => by cases h
  | (a, d) :: kvs, (k0, v0) :: kv, h, r => by
    simp only [List.map_cons, List.cons.injEq] at h
    obtain ⟨h1, h2⟩ := h
    obtain ⟨x, t, e, rd, rl⟩ := r
    simp only [List.map_cons, List.cons.injEq] at e
    obtain ⟨e1, e2⟩ := e
    subst e1 e2
    have h1' : a = .tuple (k0.map keyD) := h1
    subst h1'
    unfold getKv valV
    rw [List.find?_cons, List.find?_cons]
    simp only [keyT_map]
    by_cases hk : k0 = kk
    . simp only [hk, decide_true]
      exact .inr ⟨d, v0, rfl, rfl, rd⟩
    . simp only [hk, decide_false]
      exact get_rep h2 rl
theorem put_rep {G : Hp} {kk : List Key} {d : PyData} {v : V} (hd : Rep G d v) {kvs : List (PyData × PyData)} {kv : List (List Key × V)} (h : kvs.map (·.1) = kv.map (fun q => PyData.tuple (q.1.map keyD))) (r : RepL G (kvs.map (·.2)) (kv.map (·.2))) :
    (putKv kvs kk d).map (·.1) = (putK kv kk v).map (fun q => PyData.tuple (q.1.map keyD)) /\ RepL G ((putKv kvs kk d).map (·.2)) ((putK kv kk v).map (·.2)) := by
  have go : ∀ {kvs : List (PyData × PyData)} {kv : List (List Key × V)}, kvs.map (·.1) = kv.map (fun q => PyData.tuple (q.1.map keyD)) -> RepL G (kvs.map (·.2)) (kv.map (·.2)) ->
      (kvs.map fun q => if keyT q.1 = some kk then (q.1, d) else q).map (·.1) = (kv.map fun q => if q.1 = kk then (q.1, v) else q).map (fun q => PyData.tuple (q.1.map keyD)) /\ RepL G ((kvs.map fun q => if keyT q.1 = some kk then (q.1, d) else q).map (·.2)) ((kv.map fun q => if q.1 = kk then (q.1, v) else q).map (·.2)) := by
    intro kvs
    induction kvs with
    | nil => intro kv h r; cases kv with
      | nil => exact ⟨rfl, rfl⟩
      | cons _ _ => cases h
    | cons p kvs ih =>
      intro kv h r
      cases kv with
      | nil => cases h
      | cons q kv =>
        simp only [List.map_cons, List.cons.injEq] at h
        obtain ⟨h1, h2⟩ := h
        obtain ⟨x, t, e, rd, rl⟩ := r
        simp only [List.map_cons, List.cons.injEq] at e
        obtain ⟨e1, e2⟩ := e
        subst e1 e2
        obtain ⟨i1, i2⟩ := ih h2 rl
        have hk : keyT p.1 = some q.1 := by rw [h1]; exact keyT_map _
        simp only [List.map_cons]
        by_cases hq : q.1 = kk
        . rw [if_pos (by rw [hk, hq]), if_pos hq]
          exact ⟨by rw [i1]; simp only [h1], RepL.cons hd i2⟩
        . rw [if_neg (by rw [hk]; intro z; exact hq (Option.some.inj z)), if_neg hq]
          exact ⟨by rw [i1]; simp only [h1], RepL.cons rd i2⟩
  rcases get_rep (kk := kk) h r with ⟨n1, n2⟩ | ⟨d0, v0, n1, n2, _⟩
  . unfold putKv
    rw [n1]
    rw [putK_new _ n2]
    simp only [Option.isSome_none, Bool.false_eq_true, if_false, List.map_append, List.map_cons, List.map_nil]
    exact ⟨by rw [h], r.append (RepL.cons hd rfl)⟩
  . unfold putKv
    rw [n1]
    simp only [Option.isSome_some, if_true]
    have : putK kv kk v = kv.map fun q => if q.1 = kk then (q.1, v) else q := by
      unfold putK
      have hs : (kv.any fun q => decide (q.1 = kk)) = true := by rw [valV_any, n2]; rfl
      first | rw [if_pos hs] | simp [hs]
    rw [this]
    exact go h r
end
end Sm
end
section
set_option Elab.async false
set_option linter.all false
set_option maxRecDepth 100000
set_option maxHeartbeats 4000000
set_option autoImplicit false
namespace Sm
open PySem PySem.Spec PyProof.Rows L2
section
variable {P : Program} {w : World} {K : PySem.W.Frag} {mg : Str -> Option Value} {base : Heap} {X : Cx} {N : List Str} {sc : Scope} {k : Nat} {df : Bool} {E : EK} {pos p px py tp spos p2 : Pos} {a b c e : Expr} {f g : Dn -> Res PyData} {x : Str} {i : Nat}
theorem okVar.pe (C : Cxt P w K mg base X N sc k df) (h : okVar N sc i x = true) : PE X (.Name x p) (tVar i) := by
  unfold okVar at h
  simp only [Bool.and_eq_true, Bool.not_eq_true'] at h
  obtain ⟨⟨⟨h1, h2⟩, h3⟩, h4⟩ := h
  refine pe_var (by rw [C.hN]; exact eq_of_beq h1) ?_ h3 h4
  rw [C.hs]
  unfold Vis
  cases q : sc.names.lookup x with
  | none => rw [q] at h2; cases h2
  | some z =>
    rw [q] at h2
    cases z with
    | «local» => exact .inl rfl
    | cell => exact .inr (.inl rfl)
    | free => exact .inr (.inr rfl)
    | _ => cases h2
theorem SR.own {G H : Hp} {σ : St} {δ : Dn} (S : SR G H σ δ) {d : PyData} (hi : δ[i]? = some (.ow d)) : ∃ q, σ[i]? = some (some (.ref q)) /\ G q = none /\ OwnOk G H q d := by
  obtain ⟨q, hq, hg, ok⟩ := S.sl i _ hi
  refine ⟨q, ?_, hg, ok⟩
  cases z : σ[i]? with
  | none => rw [z] at hq; cases hq
  | some z' => rw [z] at hq; cases z' with
    | none => cases hq
    | some z'' => cases hq; rfl
theorem Cxt.hu1 (C : Cxt P w K mg base X N sc k df) : X.A.units + 1 < cLine := by have := C.hu; omega
noncomputable def sPut (i : Nat) (fk fv : Dn -> Res PyData) : Dn -> Out := fun δ => match δ[i]? with
  | some (.ow (.dict kvs)) => thenS (fv δ) fun v => thenS (fk δ) fun kd => match keyT kd with
    | some kk => if kvs.length < sizeLine then .nx (δ.set i (.ow (.dict (putKv kvs kk v)))) else .no
    | none => .no
  | _ => .no
noncomputable def vInD (i : Nat) (f : Dn -> Res PyData) : Dn -> Res PyData := fun δ => (f δ).bind fun kd => match keyT kd, δ[i]? with
  | some kk, some (.ow (.dict kvs)) => .ok (.bool (getKv kvs kk).isSome)
  | _, _ => .no
noncomputable def vGetD (i : Nat) (f : Dn -> Res PyData) : Dn -> Res PyData := fun δ => match δ[i]? with
  | some (.ow (.dict kvs)) => (f δ).bind fun kd => match keyT kd with
    | some kk => ofO (getKv kvs kk)
    | none => .no
  | _ => .no
theorem d_inD (C : Cxt P w K mg base X N sc k df) (i : Nat) (h : okVar N sc i x = true) (hk : DE X E a f) (hm : autoParam (behindInMarks .In (.Name x p) = false) L2.ax6._auto_1) : DE X E (.Compare a [.In] [.Name x p] pos) (vInD i f) := by
  refine PE.imp (pe_cmp (pc_din C.hu1 hk (okVar.pe C h)) hm) fun σ H Q hhh => ?_
  obtain ⟨G, δ, S, aft⟩ := hhh
  refine aft_bind S aft fun kd v G1 H1 g1 r1 S1 a1 => ?_
  cases kd with
  | tuple ds =>
    cases ek : keyOf ds with
    | none => simp only [keyT, ek] at a1; exact a1.elim
    | some kk =>
      simp only [keyT, ek] at a1
      split at a1
      . rename_i kk' kvs hkk hi
        cases hkk
        obtain ⟨q, hσ, hg, kv, hx, hkeys, hvals⟩ := S1.own hi
        obtain ⟨pk, xs, rfl, hpk, lk⟩ := r1
        obtain ⟨e1, e2⟩ := keyOf_rep lk ek
        subst e1
        refine ⟨.ref q, hσ, q, _, rfl, DGet.t hx (S1.sub _ _ hpk), ?_⟩
        have : (valV kv kk).isSome = (getKv kvs kk).isSome := by
          rcases get_rep (kk := kk) hkeys hvals with ⟨n1, n2⟩ | ⟨d0, v0, n1, n2, _⟩ <;> rw [n1, n2] <;> rfl
        rw [this]
        exact a1 _ G1 H1 (Grow.refl S1.sub) rfl
      . exact a1.elim
  | _ => exact (show False from a1).elim
theorem d_getD (C : Cxt P w K mg base X N sc k df) (i : Nat) (h : okVar N sc i x = true) (hk : DE X E a f) (hs : autoParam (NoSl a) L2.ax8._auto_1) : DE X E (.Subscript (.Name x p) a pos) (vGetD i f) := by
  refine PE.imp (pe_dget C.hu1 (okVar.pe C h) hk hs) fun σ H Q hhh => ?_
  obtain ⟨G, δ, S, aft⟩ := hhh
  unfold vGetD at aft
  split at aft
  . rename_i kvs hi
    obtain ⟨q, hσ, hg, kv, hx, hkeys, hvals⟩ := S.own hi
    refine ⟨.ref q, hσ, ?_⟩
    refine aft_bind S aft fun kd v G1 H1 g1 r1 S1 a1 => ?_
    cases kd with
    | tuple ds =>
      cases ek : keyOf ds with
      | none => simp only [keyT, ek] at a1; exact a1.elim
      | some kk =>
        simp only [keyT, ek] at a1
        obtain ⟨pk, xs, rfl, hpk, lk⟩ := r1
        obtain ⟨e1, e2⟩ := keyOf_rep lk ek
        subst e1
        rcases get_rep (kk := kk) hkeys hvals with ⟨n1, n2⟩ | ⟨d0, v0, n1, n2, rd⟩
        . rw [n1] at a1; exact a1.elim
        . rw [n1] at a1
          exact ⟨q, v0, rfl, by have := DGet.t (k := kk) (g1.h _ _ hx) (S1.sub _ _ hpk); rw [n2] at this; exact this, a1 _ G1 H1 (Grow.refl S1.sub) (rd.mono g1.g)⟩
    | _ => exact (show False from a1).elim
  . exact aft.elim
noncomputable def startD (N : List Str) (ds : List PyData) : Dn := ds.map .sh ++ List.replicate (N.length - ds.length) .un
noncomputable def fnD (N : List Str) (g : Dn -> Out) : List PyData -> Res PyData := fun ds => match g (startD N ds) with
  | .rt d => .ok d
  | .nx _ => .ok .none
  | .exc c => .exc c
  | _ => .no
theorem start_SR {G H : Hp} (hG : Same G H) {ds : List PyData} {vs : List V} (r : RepL G ds vs) (N : List Str) : SSt G H G H (start N vs) (startD N ds) := by
  have hl := r.length
  have noow : ∀ (i : Nat) (d : PyData), (startD N ds)[i]? ≠ some (.ow d) := fun i d e => by
    unfold startD at e
    by_cases hi : i < ds.length
    . rw [List.getElem?_append_left (by simpa using hi), List.getElem?_map] at e
      cases q : ds[i]? with
      | none => rw [q] at e; cases e
      | some z => rw [q] at e; cases e
    . rw [List.getElem?_append_right (by simpa using Nat.not_lt.mp hi), List.getElem?_replicate] at e
      split at e <;> cases e
  refine ⟨Grow.refl hG, ⟨hG, by unfold L2.start startD; simp [hl], fun i s e => ?_, fun i j a d d' e _ _ _ => absurd e (noow i d)⟩, fun i d a e _ => absurd e (noow i d)⟩
  unfold startD at e
  by_cases hi : i < ds.length
  . rw [List.getElem?_append_left (by simpa using hi), List.getElem?_map] at e
    cases q : ds[i]? with
    | none => rw [q] at e; cases e
    | some z =>
      rw [q] at e; cases e
      obtain ⟨v, e1, rv⟩ := r.get q
      unfold L2.start
      rw [List.getElem?_append_left (by rw [List.length_map, ← hl]; exact hi), List.getElem?_map, e1]
      exact ⟨v, rfl, rv⟩
  . rw [List.getElem?_append_right (by simpa using Nat.not_lt.mp hi), List.getElem?_replicate] at e
    split at e <;> cases e
    trivial
structure Def (K : PySem.W.Frag) (mg : Str -> Option Value) (x : Str) (st : Stmt) (ps : List Str) : Prop where
  ex : ∃ f fd, L2.Fun K x x st f fd /\ mg x = some (.ref f) /\ Binds K fd ps []
theorem fnok_D {x : Str} {st : Stmt} {ps : List Str} {n : Nat} {go : Dn -> Out} {m : List PyData -> Res PyData} {f : Addr} {fd : FuncData} (F : L2.Fun K x x st f fd) (S : FnScope N ps (defScope st)) (hn : ps.length = n)
    (body : ∀ X, Cxt P w K mg base X N (defScope st) k true -> DSs X E0k (defBody st) go) (hm : m = fnD N go) : FnOk P w K mg base CX0 (k + 1) f fd ps (spD n m) := by
  subst hm
  refine F.ok S (fun vs H Q E h => ?_) (fun cdv A outer s H vs Q E hr h => ?_)
  . obtain ⟨G, ds, d, _, r, hl, _⟩ := h
    rw [← r.length, hl, hn]
  . obtain ⟨G, ds, d, hG, r, hl, em, q⟩ := h
    refine ⟨_, body _ ⟨rfl, rfl, rfl, rfl, rfl, rfl, rfl, rfl, hr, fun _ _ => rfl, PassesOwn.never⟩ G H, G, _, start_SR hG r N, ?_⟩
    unfold fnD at em
    cases eg : go (startD N ds) with
    | rt d' => rw [eg] at em; cases em; exact fun v G' H' g r' => q v G' H' g r'
    | nx δ => rw [eg] at em; cases em; exact fun σ G' H' S' => q _ G' H' S'.gr rfl
    | bk _ => rw [eg] at em; cases em
    | ct _ => rw [eg] at em; cases em
    | exc _ => rw [eg] at em; cases em
    | no => rw [eg] at em; cases em
theorem fn_D {x : Str} {st : Stmt} {ps : List Str} {n : Nat} {go : Dn -> Out} {m : List PyData -> Res PyData} (F : Def K mg x st ps) (S : FnScope N ps (defScope st)) (hn : ps.length = n)
    (body : ∀ X, Cxt P w K mg base X N (defScope st) k true -> DSs X E0k (defBody st) go) (hm : m = fnD N go) : Fn P w K mg base x (k + 1) n m := by
  obtain ⟨f, fd, F, hmg, hb⟩ := F.ex
  exact ⟨f, fd, ps, hn, fnok_D F S hn body hm, hmg, F.kp, hb⟩
end
end Sm
end
section
set_option Elab.async false
set_option linter.all false
set_option maxRecDepth 100000
set_option maxHeartbeats 4000000
set_option autoImplicit false
namespace Sm
open PySem PySem.Spec PyProof.Rows L2
def Made (h : Heap) (H : Hp) (h0 : Heap) (a : Addr) (c : Value) : Prop :=
  ∃ oe vs a0, h.get? a = some oe /\ oe.cls = c /\ oe.data = .fields vs /\ vs[0]? = some a0 /\ h0.get? a = none /\ H a = none /\ vs[1]? = some .none
end Sm
end
section
set_option Elab.async false
set_option linter.all false
set_option maxRecDepth 100000
set_option maxHeartbeats 4000000
set_option autoImplicit false
namespace Sm
open PySem PySem.Spec PyProof.Rows L2
def eX (CN : Addr) (E : XK) : EK := fun _ H => E (.ref CN) none H
end Sm
end
section
set_option Elab.async false
set_option linter.all false
set_option maxRecDepth 100000
set_option maxHeartbeats 4000000
set_option autoImplicit false
namespace Sm
open PySem PySem.Spec PyProof.Rows L2
section
variable {P : Program} {w : World} {K : PySem.W.Frag} {mg : Str -> Option Value} {base : Heap} {X : Cx} {N : List Str} {sc : Scope} {k : Nat} {df : Bool} {E : EK} {pos p px py tp spos p2 : Pos} {a b c e : Expr} {es : List Expr} {f g : Dn -> Res PyData} {fs : Dn -> Res (List PyData)} {x : Str} {i : Nat} {tt : Dn -> Res Bool}
theorem d_dictSet {pins : List (Addr × Obj)} {σ : St} {H : Hp} {s : Shared} {A : Around} {E : Value -> Shared -> Prop} {d b : Addr} {kvs : List (List Key × V)} {kk : List Key} {v : V} {r : Value} {Q : Unit -> Shared -> Prop} (hu : A.units < cLine) (I : Inv X pins σ H s) (e : H d = some (.dT kvs)) (eb : H b = some (.tup (kk.map kV))) (l : kvs.length < sizeLine) (rv : RelV v r)
    (h : ∀ s', Inv X pins σ (upd H d (.dT (putK kvs kk v))) s' -> Heap.SameBut d s.heap s'.heap -> Q () s') : wpAny (model X.prog X.w) A (dictSet d (.ref b) r) Q E s := by
  obtain ⟨z, hd, xs, rel, dd⟩ := dt_of I.hok e
  have hz : xs.length <= sizeLine := by rw [← Paired.length rel]; exact z
  have hl : (putK kvs kk v).length <= sizeLine := by have := length_putK kvs kk v; omega
  refine wpAny_dictSet_heap (hsz := hz) hu (key_of I.hok eb) dd fun h' dd' hs => h _ ?_ hs
  obtain ⟨q, es, ep, hq, h2, h3, h4, _, h5⟩ := dd'
  refine d_write I (by rw [e]; exact True.intro) hs ⟨q, hq⟩ ⟨hl, hd, _, (rel.put kk eb rv).keeps fun c ys ec => ?_, q, es, ep, hq, h2, h3, h4, h5⟩
  rw [upd_ne (ne_of ec e (fun z => nomatch z))]
  exact ec
end
end Sm
end
section
set_option Elab.async false
set_option linter.all false
set_option maxRecDepth 100000
set_option maxHeartbeats 4000000
set_option autoImplicit false
namespace Sm
open PySem PySem.Spec PyProof.Rows L2
end Sm
end
section
set_option Elab.async false
set_option linter.all false
set_option maxRecDepth 100000
set_option maxHeartbeats 4000000
set_option autoImplicit false
namespace Sm
open PySem PySem.Spec PyProof.Rows L2 PySem.Builtin.Str
end Sm
end
section
set_option Elab.async false
set_option linter.all false
set_option maxRecDepth 100000
set_option maxHeartbeats 4000000
set_option autoImplicit false
namespace Sm
open PySem PySem.Spec PyProof.Rows L2
end Sm
end
section
set_option Elab.async false
set_option linter.all false
set_option maxRecDepth 100000
set_option maxHeartbeats 4000000
set_option autoImplicit false
namespace Sm
open PySem PySem.Spec PyProof.Rows L2
end Sm
end
section
set_option Elab.async false
set_option linter.all false
set_option maxRecDepth 100000
set_option maxHeartbeats 4000000
set_option autoImplicit false
namespace Sm
open PySem PySem.Spec PyProof.Rows L2
end Sm
end
section
set_option Elab.async false
set_option linter.all false
set_option maxRecDepth 100000
set_option maxHeartbeats 4000000
set_option autoImplicit false
namespace Sm
open PySem PySem.Spec PyProof.Rows L2
open AutoSeq1 (wpAny_loadPart')
end Sm
end
section
set_option Elab.async false
set_option linter.all false
set_option maxRecDepth 100000
set_option maxHeartbeats 4000000
set_option autoImplicit false
namespace Sm
open PySem PySem.Spec PyProof.Rows L2
end Sm
end
section
set_option Elab.async false
set_option linter.all false
set_option maxRecDepth 100000
set_option maxHeartbeats 4000000
set_option autoImplicit false
namespace Sm
open PySem PySem.W PyProof.Rows
end Sm
end
section
set_option Elab.async false
set_option linter.all false
set_option maxRecDepth 100000
set_option maxHeartbeats 4000000
set_option autoImplicit false
namespace Sm
open PySem PySem.Spec PyProof.Rows L2
end Sm
end
section
set_option Elab.async false
set_option linter.all false
set_option maxRecDepth 100000
set_option maxHeartbeats 4000000
set_option autoImplicit false
namespace Sm
open PySem PySem.Spec PyProof.Rows L2
section
variable {P : Program} {w : World} {K : PySem.W.Frag} {mg : Str -> Option Value} {base : Heap} {X : Cx} {N : List Str} {sc : Scope} {k : Nat} {df : Bool} {E : EK} {pos p p1 px py tp spos p2 apos cpos : Pos} {a b c e e1 : Expr} {es : List Expr} {f g : Dn -> Res PyData} {x : Str} {i : Nat}
noncomputable def sPutK (i : Nat) (fk fv : Dn -> Res PyData) : Dn -> Out := fun δ => match δ[i]? with
  | some (.ow (.tuple [.dict kvs])) => thenS (fv δ) fun v => thenS (fk δ) fun kd => match keyOf [kd] with
    | some kk => if kvs.length < sizeLine then .nx (δ.set i (.ow (.tuple [.dict (putKv kvs kk v)]))) else .no
    | none => .no
  | _ => .no
end
def tR (E : EK) (g : Dn -> Res PyData) : TS := fun D σ H => ∃ G δ, SR G H σ δ /\ Aft E G H (g δ) D.rt
def DR (X : Cx) (E : EK) (st : List Stmt) (g : Dn -> Res PyData) : Prop := PSs X st (tR E g)
noncomputable def rIf (c : Dn -> Res Bool) (g1 g2 : Dn -> Res PyData) : Dn -> Res PyData := fun δ => (c δ).bind fun b => if b = true then g1 δ else g2 δ
def spL (m : List (PyData × PyData) -> PyData -> Res PyData) : Sp := fun vs H Q _ => ∃ G a v kvs d r, Same G H /\ vs = [.ref a, v] /\ G a = none /\ OwnOk G H a (.dict kvs) /\ Rep G d v /\ m kvs d = .ok r /\ ∀ v G' H', Grow G H G' H' -> Rep G' r v -> Q v H'
structure FnL (P : Program) (w : World) (K : PySem.W.Frag) (mg : Str -> Option Value) (base : Heap) (x : Str) (k : Nat) (m : List (PyData × PyData) -> PyData -> Res PyData) : Prop where
  ex : ∃ f fd ps, ps.length = 2 /\ FnOk P w K mg base CX0 k f fd ps (spL m) /\ mg x = some (.ref f) /\ PySem.W.keepIn K (.ref f) = true /\ Binds K fd ps []
noncomputable def fnL (g : Dn -> Res PyData) : List (PyData × PyData) -> PyData -> Res PyData := fun kvs d => g [.ow (.dict kvs), .sh d]
noncomputable def vCallL (i : Nat) (f : Dn -> Res PyData) (m : List (PyData × PyData) -> PyData -> Res PyData) : Dn -> Res PyData := fun δ => match δ[i]? with
  | some (.ow (.dict kvs)) => (f δ).bind fun d => m kvs d
  | _ => .no
section
variable {P : Program} {w : World} {K : PySem.W.Frag} {mg : Str -> Option Value} {base : Heap} {X : Cx} {N : List Str} {sc : Scope} {k : Nat} {df : Bool} {E : EK} {pos p p1 px py tp spos p2 apos cpos : Pos} {a b c e e1 : Expr} {es : List Expr} {f g : Dn -> Res PyData} {x y : Str} {i : Nat} {sts rest : List Stmt} {tt : Dn -> Res Bool} {g1 g2 : Dn -> Res PyData}
theorem r_ret (h : DE X E e f) : DR X E [.Return (some e) pos] f := PSs.imp (pss_one (ps_ret h)) fun D σ H ⟨G, δ, S, a⟩ => ⟨G, δ, S, a⟩
theorem r_if (hc : DT X E c tt) (h1 : DR X E sts g1) (h2 : DR X E rest g2) : DR X E (.If c sts [] pos :: rest) (rIf tt g1 g2) := by
  refine PSs.imp (pss_cons (ps_if hc h1 pss_nil) h2) fun D σ H hhh => ?_
  obtain ⟨G, δ, S, a⟩ := hhh
  refine ⟨G, δ, S, ?_⟩
  unfold rIf at a
  cases q : tt δ with
  | ok d =>
    rw [q] at a
    intro G1 H1 g1
    cases d with
    | true => exact ⟨G1, δ, S.grow g1, Aft.grow g1 a⟩
    | false => exact ⟨G1, δ, S.grow g1, Aft.grow g1 a⟩
  | exc c => rw [q] at a; exact a
  | no => rw [q] at a; exact a
theorem fn_L {x : Str} {st : Stmt} {ps : List Str} {go : Dn -> Res PyData} {m : List (PyData × PyData) -> PyData -> Res PyData} (F : Def K mg x st ps) (S : FnScope N ps (defScope st)) (hn : ps.length = 2) (hN : N.length = 2)
    (body : ∀ X, Cxt P w K mg base X N (defScope st) k true -> DR X E0k (defBody st) go) (hm : m = fnL go) : FnL P w K mg base x (k + 1) m := by
  obtain ⟨f, fd, F, hmg, hb⟩ := F.ex
  refine ⟨f, fd, ps, hn, ?_, hmg, F.kp, hb⟩
  subst hm
  refine F.ok S (fun vs H Q E h => ?_) (fun cdv A outer s H vs Q E hr h => ?_)
  . obtain ⟨G, a, v, kvs, d, r, _, e, _⟩ := h
    rw [e, hn]; rfl
  . obtain ⟨G, a, v, kvs, d, r, hG, e, hg, ho, rd, em, q⟩ := h
    refine ⟨_, body _ ⟨rfl, rfl, rfl, rfl, rfl, rfl, rfl, rfl, hr, fun _ _ => rfl, PassesOwn.never⟩, G, [.ow (.dict kvs), .sh d], ?_, ?_⟩
    . have es : start N vs = [some (.ref a), some v] := by
        rw [e]; unfold L2.start; simp [hN]
      rw [es]
      refine ⟨hG, rfl, fun i s hs => ?_, fun i j b d1 d2 h1 h2 _ _ => ?_⟩
      . match i, hs with
        | 0, hs => cases hs; exact ⟨a, rfl, hg, ho⟩
        | 1, hs => cases hs; exact ⟨v, rfl, rd⟩
        | i + 2, hs => cases hs
      . match i, j, h1, h2 with
        | 0, 0, _, _ => rfl
        | 1, _, h1, _ => cases h1
        | 0, 1, _, h2 => cases h2
        | i + 2, _, h1, _ => cases h1
        | 0, j + 2, _, h2 => cases h2
    . unfold fnL at em
      rw [em]
      exact q
theorem d_callL {j : Nat} {m : List (PyData × PyData) -> PyData -> Res PyData} (C : Cxt P w K mg base X N sc k df) (F : FnL P w K mg base y j m) (hj : j <= k) (h : okGl sc y = true) (i : Nat) (hv : okVar N sc i x = true) (ha : DE X E0k e f)
    (he : autoParam (starEach [.Name x p1, e] X.env = (false, eval (.Name x p1) X.env) :: starEach [e] X.env) L2.ax4._auto_1) (he2 : autoParam (starEach [e] X.env = (false, eval e X.env) :: starEach [] X.env) L2.ax4._auto_1) (hpl : autoParam ((backTo pos (starEach [e] X.env)).any (·.1) = false) L2.ax4._auto_1) :
    DE X E0k (.Call (.Name y p) [.Name x p1, e] [] pos) (vCallL i f m) := by
  obtain ⟨fa, fd, ps, hps, F, hm, hk, hb⟩ := F.ex
  obtain ⟨h1, h2, h3⟩ := okGl.gl C h
  have F' : FnOk X.prog X.w X.K X.mg X.base CX0 j fa fd ps (spL m) := by rw [C.hP, C.hw, C.hK, C.hmg, C.hb]; exact F
  refine PE.imp (pe_call F' (C.room.mono hj) h1 (by rw [C.hmg]; exact hm) (by rw [C.hK]; exact hk) (by rw [C.hK]; exact hb) .nil (pass0 (X := X)) (pa_cons (okVar.pe C hv) (pa_cons ha pa_nil he2) he) h2 he hpl) fun σ H Q hhh => ?_
  obtain ⟨G, δ, S, aft⟩ := hhh
  unfold vCallL at aft
  split at aft
  . rename_i kvs hi
    obtain ⟨q, hσ, hg, ho⟩ := S.own hi
    refine ⟨.ref q, hσ, ?_⟩
    refine aft_bind S aft fun d v G1 H1 g1 r1 S1 a1 => ?_
    obtain ⟨q', hσ', hg', ho'⟩ := S1.own hi
    rw [hσ] at hσ'; cases hσ'
    cases em : m kvs d with
    | ok r => rw [em] at a1; exact ⟨G1, q, v, kvs, d, r, S1.sub, rfl, hg', ho', r1, em, a1⟩
    | exc c => rw [em] at a1; exact (a1 G1 H1 (Grow.refl S1.sub)).elim
    | no => rw [em] at a1; exact a1.elim
  . exact aft.elim
end
end Sm
end
section
set_option Elab.async false
set_option linter.all false
set_option maxRecDepth 100000
set_option maxHeartbeats 4000000
set_option autoImplicit false
namespace Sm
open PySem PySem.Spec
theorem list_no_keys : typeLookup (.type "list") "keys" = pure none := by
  rw [typeLookup_type, builtinLookup_eq_fast]; kernel_rfl
theorem list_no_hook : typeLookup (.type "list") "__getattr__" = pure none := by
  rw [typeLookup_type, builtinLookup_eq_fast]; kernel_rfl
section
variable {prog : Program} {w : World} {A : Around} {E : Value -> Shared -> Prop} {h : Heap} {g : Array GenState} {d : Drawn} {t : Nat} {os : OsState} {a : Addr} {vs : Array Value} {n : Nat}
theorem keys_miss {tk : Tok} {Q : Fin -> Shared -> Prop} (hA : A.handled = none) (hx : h.get? a = some { cls := .type "list", data := .seq vs n })
    (hq : ∀ h' tk' e, Heap.NewAttrErr h h' e (.ref a) "keys" -> E (.ref e) ⟨h', g, d, tk', os⟩) :
    wpAny (model prog w) A (Builtin.«object.__getattribute__» ⟨[.ref a, .str "keys" tk], []⟩) Q E ⟨h, g, d, t, os⟩ := by
  have hT : (⟨h, g, d, t, os⟩ : Shared).TypeIs (.ref a) "list" := ⟨_, hx, rfl⟩
  have f4 := list_no_keys
  unfold Builtin.«object.__getattribute__»
  repeat (any_goals (first | assumption | wp_step))
  exact wpAny_raiseAttrError hA hq (attrMsg_fits (by decide +kernel) (by decide))
theorem keys_none {Q : Option Value -> Shared -> Prop} (hA : A.handled = none) (hx : h.get? a = some { cls := .type "list", data := .seq vs n })
    (hq : ∀ h' tk', (∀ b o, h.get? b = some o -> h'.get? b = some o) -> Q none ⟨h', g, d, tk', os⟩) : wpAny (model prog w) A (getAttr? (.ref a) "keys") Q E ⟨h, g, d, t, os⟩ := by
  have hT : ∀ s' : Shared, s'.heap = h -> s'.TypeIs (.ref a) "list" := fun s' e => ⟨_, by rw [e]; exact hx, rfl⟩
  have f1 := sub_AttributeError
  have f2 := F.slot_list_getattribute.lookup
  have f3 := F.slot_list_getattribute.bind (.ref a)
  have f5 := list_no_hook
  unfold getAttr? getAttrBy? getAttrBy
  refine wpAny_bind (wpAny_mkText (wpAny_bind (wpAny_attempt ?_)))
  have hT1 := hT ⟨h, g, d, t + 1, os⟩ rfl
  repeat (any_goals (first | assumption | wp_step))
  refine codeAny_call_builtin F.slot_list_getattribute.plain F.entry_list_ga
    (F.slot_list_getattribute.check _ _ _ _ _ _ _ _ hT1 (F.args_list_getattribute_2 _ _)
      (keys_miss hA hx fun h' tk' e hx' => ?_))
  obtain ⟨t', u', he⟩ := hx'.there
  have kp := hx'.keeps
  show wpAny _ _ (getattributeRaised _ _ _ _ _ _ _) _ _ _
  unfold getattributeRaised
  repeat (any_goals (first | assumption | wp_step))
  exact hq _ _ kp
end
end Sm
end
section
set_option Elab.async false
set_option linter.all false
set_option maxRecDepth 100000
set_option maxHeartbeats 4000000
set_option autoImplicit false
namespace Sm
open PySem PySem.Spec PyProof.Rows L2
theorem entry_dict_loop : entryFor table "dict.update.loop" = some Builtin.«dict.update.loop» := entryFor_of_tree (by kernel_rfl)
theorem plain_dict_loop : plainId "dict.update.loop" = true := by decide +kernel
noncomputable def mergeT (acc prs : List (List Key × V)) : List (List Key × V) := prs.foldl (fun acc kv => putK acc kv.1 kv.2) acc
def PairAt (H : Hp) (y : V) (kv : List Key × V) : Prop := ∃ t b, y = .ref t /\ H t = some (.tup [.ref b, kv.2]) /\ H b = some (.tup (kv.1.map kV))
theorem PairAt.mono {H H' : Hp} {y : V} {kv : List Key × V} (h : PairAt H y kv) (k : ∀ b xs, H b = some (.tup xs) -> H' b = some (.tup xs)) : PairAt H' y kv := by
  obtain ⟨t, b, e, h1, h2⟩ := h
  exact ⟨t, b, e, k _ _ h1, k _ _ h2⟩
section
variable {X : Cx} {pins : List (Addr × Obj)} {σ : St}
theorem dict_loop {A : Around} {a d it : Addr} (hh : A.handled = none) (hu : A.units + 8 < cLine) {ys : List V} {R : Result -> Shared -> Prop} : ∀ (n i : Nat) (s : Shared) (H : Hp) (acc : List (List Key × V)) (prs : List (List Key × V)), n = prs.length ->
    Inv X pins σ H s -> H d = some (.dT acc) -> Rd H a (.lst ys) -> s.heap.IsListIter it a i -> FpOk X pins H it -> Paired (PairAt H) (ys.drop i) prs -> i + prs.length = ys.length -> acc.length + prs.length < 10000 -> ys.length < 10000 ->
    (∀ s', Inv X pins σ (upd H d (.dT (mergeT acc prs))) s' -> R (.ok (.ret .none)) s') ->
    codeAny (model X.prog X.w) A (.builtin "dict.update.loop" ⟨[.ref d, .ref it, rawInt i, .none], []⟩) R s := by
  intro n
  induction n with
  | zero =>
    intro i s H acc prs hn I hd hl st fp hp hlen hacc hys hR
    have : prs = [] := List.length_eq_zero_iff.mp hn.symm
    subst this
    refine codeAny_builtin entry_dict_loop ?_
    rw [Around.under_plainId plain_dict_loop _]
    obtain ⟨its, rv, p, hz⟩ := I.list (.inl hl)
    have hl' := rv.length
    simp only [List.length_nil, Nat.add_zero] at hlen
    show wpAny _ A.in1 (pyNext (.ref it) >>= _) _ _ s
    obtain ⟨f0, f1, f2, f3, f4, f5⟩ := fp
    refine wpAny_bind (wpAny_pyNext_list_end hh st p.isList (by simp; omega) fun h' eb => ?_)
    have I1 : Inv X pins σ H { s with heap := h' } := I.turned (t' := s.toks) (fun b o hb e => eb b o hb e) f0 f1 f3 f4 f5
    have hsame : upd H d (.dT (mergeT acc [])) = H := by
      funext b
      unfold upd
      split
      . rename_i e; rw [e, hd]; rfl
      . rfl
    rw [hsame] at hR
    show wpAny _ A.in1 (Builtin.Dict.addKeywords d [] >>= _) _ _ _
    exact wpAny_bind (wpAny_pure (wpAny_pure (hR _ I1)))
  | succ n ih =>
    intro i s H acc prs hn I hd hl st fp hp hlen hacc hys hR
    cases prs with
    | nil => simp at hn
    | cons kv prs =>
      simp only [List.length_cons] at hn hlen hacc
      have hi : i < ys.length := by omega
      have hdrop : ys.drop i = ys[i] :: ys.drop (i + 1) := List.drop_eq_getElem_cons hi
      rw [hdrop] at hp
      cases hp with
      | cons h0 hp =>
        obtain ⟨t, b, ey, ht, hb⟩ := h0
        refine codeAny_builtin entry_dict_loop ?_
        rw [Around.under_plainId plain_dict_loop _]
        obtain ⟨its, rv, p, hz⟩ := I.list (.inl hl)
        obtain ⟨u, hu', ru⟩ := rv.get (List.getElem?_eq_getElem hi)
        rw [ey] at ru
        cases (show u = Value.ref t from ru)
        obtain ⟨f0, f1, f2, f3, f4, f5⟩ := fp
        show wpAny _ A.in1 (pyNext (.ref it) >>= _) _ _ s
        refine wpAny_bind (wpAny_pyNext_list_item st p.isList (x := .ref t) (by simpa using hu') fun h' st' sb => ?_)
        have I1 : Inv X pins σ H { s with heap := h' } := I.turned (t' := s.toks) (fun b o hb e => (sb.2 b hb).trans e) f0 f1 f3 f4 f5
        obtain ⟨its2, rv2, p2, _⟩ := I1.tuple (.inl (.inl ht))
        cases rv2 with
        | @cons _ u1 _ _ r1 rr =>
          cases rr with
          | @cons _ u2 _ _ r2 rr2 =>
            cases rr2
            cases (show u1 = Value.ref b from r1)
            obtain ⟨ot, hot, hotc, nt, hotd⟩ := p2
            obtain ⟨c0, d0, da0, sl0⟩ := ot
            simp only at hotc hotd
            subst hotc hotd
            refine wpAny_bind (wpAny_holding (wpAny_bind (wpAny_tryCatch ?_)))
            unfold Builtin.Dict.pairItems
            have hT : ({ s with heap := h' } : Shared).TypeIs (.ref t) "tuple" := ⟨_, hot, rfl⟩
            generalize hDS : dictSet = DS
            repeat (any_goals (first | assumption | wp_step))
            subst hDS
            refine d_dictSet (A := A.in1) (by show A.units + 1 < cLine; omega) I1 hd hb (Nat.lt_of_lt_of_le (show acc.length < 10000 by omega) (by decide)) r2 fun s3 I3 sb3 => ?_
            have hne : it ≠ d := fun z => by rw [z, hd] at f0; cases f0
            have hne2 : ∀ c xs, H c = some (.tup xs) -> upd H d (.dT (putK acc kv.1 kv.2)) c = some (.tup xs) := fun c xs e => by rw [upd_ne (ne_of e hd (fun z => nomatch z))]; exact e
            refine wpAny_pure ⟨Code.quiet_builtin _ (by decide +kernel), ?_⟩
            refine ih (i + 1) s3 _ (putK acc kv.1 kv.2) prs (by omega) I3 upd_same ?_ (st'.at fun o e => (sb3.2 it hne).trans e) ⟨by rw [upd_ne hne]; exact f0, f1, f2, f3, f4, f5⟩ (Paired.mapP hp fun _ _ z => z.mono hne2) (by omega) (by have := length_putK acc kv.1 kv.2; omega) hys fun s' J => ?_
            . rcases hl with z | ⟨o, z⟩
              . exact .inl (by rw [upd_ne (ne_of z hd (fun z => nomatch z))]; exact z)
              . exact .inr ⟨o, by rw [upd_ne (ne_of z hd (fun z => nomatch z))]; exact z⟩
            . rw [upd_upd] at J
              exact hR s' J
noncomputable def rDictP : List V -> Hp -> VK -> Prop := fun vs H Q => ∃ a ys prs, vs = [.ref a] /\ Rd H a (.lst ys) /\ Paired (PairAt H) ys prs /\ ys.length < 1000 /\ ∀ p, H p = none -> Q (.ref p) (upd H p (.dT (mergeT [] prs)))
theorem call_dictP (hh : X.A.handled = none) (hu : X.A.units + 64 < cLine) : CallR X (.type "dict") rDictP := by
  rintro pins s σ H xs us Q I r ⟨a, ys, prs, e0, hl, hp, hn, q⟩
  subst e0
  cases r with
  | cons r0 rr =>
    cases rr
    obtain ⟨rfl⟩ := (show _ = Value.ref a from r0)
    refine callType_codes (Q₁ := fun obj s₁ => obj = .ref s.heap.objs.size /\ s₁ = { s with heap := s.heap.push { cls := .type "dict", data := .dict #[] } }) F.kt_called_dict (F.kt_typeCall_dict_1 _) F.entry_dict_init (kt_code_dict_new _ ⟨rfl, rfl⟩) ?_
    rintro obj s₁ ⟨rfl, rfl⟩
    have hfr := I.hok.fresh (Nat.le_refl s.heap.objs.size)
    have I1 := I.laid (a := s.heap.objs.size) (o := .dT []) (h' := s.heap.push { cls := .type "dict", data := .dict #[] }) (t' := s.toks) (fun _ _ q => Heap.get?_push_of_some _ q) (Nat.le_refl _) (dt_empty s.heap I.big)
    have hTd : ({ s with heap := s.heap.push { cls := .type "dict", data := .dict #[] } } : Shared).TypeIs (.ref s.heap.objs.size) "dict" := ⟨_, Heap.get?_push_size _ rfl, rfl⟩
    refine ⟨hTd, F.args_dict_init_2 _ _, ?_⟩
    have hl1 : Rd (upd H s.heap.objs.size (.dT [])) a (.lst ys) := by
      rcases hl with z | ⟨o, z⟩
      . exact .inl (by rw [upd_ne (ne_of_none z hfr)]; exact z)
      . exact .inr ⟨o, by rw [upd_ne (ne_of_none z hfr)]; exact z⟩
    obtain ⟨_, its, nn, rv, hobj⟩ := (show ObjOk X.prog X.w _ _ a (.lst ys) from hl1.ok I1.hok)
    unfold Builtin.«dict.__init__»
    refine wpAny_bind ?_
    unfold Builtin.Dict.selfAndRest
    refine wpAny_bind (wpAny_notOrdered_dict hTd ?_)
    show wpAny _ _ (pure (s.heap.objs.size, [Value.ref a])) _ _ _
    refine wpAny_pure ?_
    show wpAny _ _ (Builtin.Dict.updateFrom "dict.__init__" s.heap.objs.size (.ref a) [] .none) _ _ _
    unfold Builtin.Dict.updateFrom
    refine wpAny_bind (wpAny_typeOf (T := "list") ⟨_, hobj, rfl⟩ ?_)
    rw [if_pos (by decide)]
    refine wpAny_bind (keys_none hh hobj fun h1 tk1 kp => ?_)
    rw [if_pos (by rfl)]
    have I2 : Inv X pins σ (upd H s.heap.objs.size (.dT [])) { s with heap := h1, toks := tk1 } := I1.kept (t' := tk1) kp
    refine wpAny_bind (wpAny_rule ?_)
    obtain ⟨its2, rv2, p2, _⟩ := I2.list (.inl hl1)
    refine wpAny_bind (wpAny_pyIter_list p2.isList ?_)
    have I3 : Inv X pins σ (upd H s.heap.objs.size (.dT [])) { s with heap := h1.push { cls := .type "list_iterator", data := .fields #[.ref a, .int 0 0] }, toks := tk1 } := I2.kept (t' := tk1) fun b o e => Heap.get?_push_of_some _ e
    have hpz : Paired (PairAt (upd H s.heap.objs.size (.dT []))) ys prs := Paired.mapP hp fun _ _ z => z.mono fun b xs e => by rw [upd_ne (ne_of_none e hfr)]; exact e
    have hle : prs.length = ys.length := (Paired.length hp).symm
    refine wpAny_pure ⟨Code.quiet_builtin _ (by decide +kernel), ?_⟩
    refine dict_loop (A := X.A.in1) hh (by show X.A.units + 1 + 8 < cLine; omega) (ys := ys) prs.length 0 _ _ [] prs rfl I3 upd_same hl1 ⟨_, Heap.get?_push_size _ rfl, rfl, rfl⟩ (I2.fpOk (Nat.le_refl _) (I2.hok.fresh (Nat.le_refl _))) hpz (by omega) (by simp; omega) (by omega) fun s' J => ?_
    rw [upd_upd] at J
    exact ⟨rfl, .ref s.heap.objs.size, _, J, rfl, q _ hfr⟩
end
noncomputable def pairsKv : List PyData -> List (PyData × PyData) -> Option (List (PyData × PyData))
  | [], kvs => some kvs
  | .tuple [kd, v] :: ds, kvs => match keyT kd with
    | some kk => pairsKv ds (putKv kvs kk v)
    | none => none
  | _ :: _, _ => none
theorem pairs_rep {G : Hp} : ∀ (ds : List PyData) (ys : List V) (kvs kvs' : List (PyData × PyData)) (kv : List (List Key × V)), RepL G ds ys -> pairsKv ds kvs = some kvs' -> kvs.map (·.1) = kv.map (fun q => PyData.tuple (q.1.map keyD)) -> RepL G (kvs.map (·.2)) (kv.map (·.2)) ->
    ∃ prs, Paired (PairAt G) ys prs /\ kvs'.map (·.1) = (mergeT kv prs).map (fun q => PyData.tuple (q.1.map keyD)) /\ RepL G (kvs'.map (·.2)) ((mergeT kv prs).map (·.2))
  | [], ys, kvs, kvs', kv, r, e, h1, h2 => by
    cases (show _ = _ from r)
    cases e
    exact ⟨[], .nil, h1, h2⟩
  | d :: ds, ys, kvs, kvs', kv, r, e, h1, h2 => by
    obtain ⟨y, t, rfl, rd, rl⟩ := r
    unfold pairsKv at e
    split at e
    . rename_i heq
      cases heq
    . rename_i kd v ds' heq
      cases heq
      split at e
      . rename_i kk ek
        obtain ⟨p, xs, rfl, hp, lp⟩ := rd
        obtain ⟨v1, v2, rfl, r1, r2⟩ := rep2 lp
        cases kd with
        | tuple ks =>
          obtain ⟨b, zs, rfl, hb, lz⟩ := r1
          obtain ⟨e1, _⟩ := keyOf_rep lz ek
          subst e1
          obtain ⟨p1, p2⟩ := put_rep (kk := kk) r2 h1 h2
          obtain ⟨prs, q1, q2, q3⟩ := pairs_rep ds t _ kvs' _ rl e p1 p2
          exact ⟨(kk, v2) :: prs, .cons ⟨p, b, rfl, hp, hb⟩ q1, q2, q3⟩
        | _ => cases ek
      . cases e
    . cases e
end Sm
end
section
set_option Elab.async false
set_option linter.all false
set_option maxRecDepth 100000
set_option maxHeartbeats 4000000
set_option autoImplicit false
namespace Sm
open PySem PySem.Spec PyProof.Rows L2
abbrev Kvs := List (PyData × PyData)
def AftX (E : EK) (G H : Hp) (r : Res Kvs) (Q : VK) : Prop := match r with
  | .ok kvs => ∀ p G' H', Grow G H G' H' -> H p = none -> G' p = none -> OwnOk G' H' p (.dict kvs) -> Q (.ref p) H'
  | .exc c => ∀ G' H', Grow G H G' H' -> E c H'
  | .no => False
def tX (E : EK) (f : Dn -> Res Kvs) : TE := fun σ H Q => ∃ G δ, SR G H σ δ /\ AftX E G H (f δ) Q
abbrev DX (X : Cx) (E : EK) (e : Expr) (f : Dn -> Res Kvs) : Prop := PE X e (tX E f)
def DSW (X : Cx) (E : EK) (sts : List Stmt) (g : Dn -> Res Kvs) : Prop := ∀ G0 H0, PSs X sts (fun D σ H => ∃ G δ, SSt G0 H0 G H σ δ /\ AftX E G0 H0 (g δ) D.rt)
def spW (n : Nat) (m : List PyData -> Res Kvs) : Sp := fun vs H Q _ => ∃ G ds kvs, Same G H /\ RepL G ds vs /\ ds.length = n /\ m ds = .ok kvs /\ ∀ p G' H', Grow G H G' H' -> H p = none -> G' p = none -> OwnOk G' H' p (.dict kvs) -> Q (.ref p) H'
structure FnW (P : Program) (w : World) (K : PySem.W.Frag) (mg : Str -> Option Value) (base : Heap) (x : Str) (k n : Nat) (m : List PyData -> Res Kvs) : Prop where
  ex : ∃ f fd ps, ps.length = n /\ FnOk P w K mg base CX0 k f fd ps (spW n m) /\ mg x = some (.ref f) /\ PySem.W.keepIn K (.ref f) = true /\ Binds K fd ps []
noncomputable def fnW (N : List Str) (g : Dn -> Res Kvs) : List PyData -> Res Kvs := fun ds => g (startD N ds)
noncomputable def xCall (fs : Dn -> Res (List PyData)) (m : List PyData -> Res Kvs) : Dn -> Res Kvs := fun δ => (fs δ).bind m
noncomputable def sOwnX (i : Nat) (f : Dn -> Res Kvs) : Dn -> Out := fun δ => thenS (f δ) fun kvs => .nx (δ.set i (.ow (.dict kvs)))
noncomputable def xDictF (f : Dn -> Res (List PyData)) : Dn -> Res Kvs := fun δ => (f δ).bind fun ds => if ds.length < 1000 then ofO (pairsKv ds []) else .no
section
variable {P : Program} {w : World} {K : PySem.W.Frag} {mg : Str -> Option Value} {base : Heap} {X : Cx} {N : List Str} {sc : Scope} {k : Nat} {df : Bool} {E : EK} {pos p p1 p2 px py tp spos cp : Pos} {a b c e : Expr} {es : List Expr} {f g : Dn -> Res PyData} {fs : Dn -> Res (List PyData)} {fx fy : Dn -> Res Kvs} {x : Str} {i : Nat} {st : Stmt} {sts : List Stmt} {g1 : Dn -> Out} {g2 : Dn -> Res Kvs}
theorem w_expr (h : DX X E e fx) : DSW X E [.Return (some e) pos] fx := fun G0 H0 => by
  refine PSs.imp (pss_one (ps_ret h)) fun D σ H ⟨G, δ, S, a⟩ => ⟨G, δ, S.sr, ?_⟩
  cases q : fx δ with
  | ok kvs => rw [q] at a; exact fun p G' H' g hp hp' ho => a p G' H' (S.gr.trans g) (S.gr.h.free hp) hp' ho
  | exc c => rw [q] at a; exact fun G' H' g => a G' H' (S.gr.trans g)
  | no => rw [q] at a; exact a
theorem fn_W {x : Str} {st : Stmt} {ps : List Str} {n : Nat} {go : Dn -> Res Kvs} {m : List PyData -> Res Kvs} (F : Def K mg x st ps) (S : FnScope N ps (defScope st)) (hn : ps.length = n)
    (body : ∀ X, Cxt P w K mg base X N (defScope st) k true -> DSW X E0k (defBody st) go) (hm : m = fnW N go) : FnW P w K mg base x (k + 1) n m := by
  obtain ⟨f, fd, F, hmg, hb⟩ := F.ex
  refine ⟨f, fd, ps, hn, ?_, hmg, F.kp, hb⟩
  subst hm
  refine F.ok S (fun vs H Q E h => ?_) (fun cdv A outer s H vs Q E hr h => ?_)
  . obtain ⟨G, ds, d, _, r, hl, _⟩ := h
    rw [← r.length, hl, hn]
  . obtain ⟨G, ds, kvs, hG, r, hl, em, q⟩ := h
    refine ⟨_, body _ ⟨rfl, rfl, rfl, rfl, rfl, rfl, rfl, rfl, hr, fun _ _ => rfl, PassesOwn.never⟩ G H, G, _, start_SR hG r N, ?_⟩
    unfold fnW at em
    rw [em]
    exact q
theorem x_call {x : Str} {j n : Nat} {m : List PyData -> Res Kvs} (C : Cxt P w K mg base X N sc k df) (F : FnW P w K mg base x j n m) (hj : j <= k) (h : okGl sc x = true) (ha : DA X E0k (e :: es) n fs)
    (he : autoParam (starEach (e :: es) X.env = (false, eval e X.env) :: starEach es X.env) L2.ax4._auto_1) (hpl : autoParam ((backTo pos (starEach es X.env)).any (·.1) = false) L2.ax4._auto_1) : DX X E0k (.Call (.Name x p) (e :: es) [] pos) (xCall fs m) := by
  obtain ⟨f, fd, ps, hps, F, hm, hk, hb⟩ := F.ex
  obtain ⟨h1, h2, h3⟩ := okGl.gl C h
  have F' : FnOk X.prog X.w X.K X.mg X.base CX0 j f fd ps (spW n m) := by rw [C.hP, C.hw, C.hK, C.hmg, C.hb]; exact F
  refine PE.imp (pe_call F' (C.room.mono hj) h1 (by rw [C.hmg]; exact hm) (by rw [C.hK]; exact hk) (by rw [C.hK]; exact hb) .nil (pass0 (X := X)) ha.pa h2 he hpl) fun σ H Q hhh => ?_
  obtain ⟨G, δ, S, aft⟩ := hhh
  have gw : ∀ {G H G' H' : Hp} {r : Res Kvs}, Grow G H G' H' -> AftX E0k G H r Q -> AftX E0k G' H' r Q := fun {G H G' H' r} g a => by
    cases r with
    | ok kvs => exact fun p G2 H2 g2 hp hp' ho => a p G2 H2 (g.trans g2) (g.h.free hp) hp' ho
    | exc c => exact fun G2 H2 g2 => a G2 H2 (g.trans g2)
    | no => exact a
  refine aftA_any (W := fun G H r => AftX E0k G H r Q) S aft (fun g a => gw g a) (fun c a => a) (fun a => a) fun ds vs G1 H1 e g1 r1 S1 a1 => ?_
  rw [List.append_nil]
  cases q : m ds with
  | ok d => rw [q] at a1; exact ⟨G1, ds, d, S1.sub, r1, ha.len δ ds e, q, a1⟩
  | exc c => rw [q] at a1; exact (a1 G1 H1 (Grow.refl S1.sub)).elim
  | no => rw [q] at a1; exact a1.elim
theorem s_ownX (C : Cxt P w K mg base X N sc k df) (i : Nat) (ho : okSet N sc df i x = true) (h : DX X E e fx) (hs : autoParam (swapsWith e (some (.Name x p)) pos.line X.env = pure false) L2.ax4._auto_1) : DS X E (.Assign [.Name x p] e pos) (sOwnX i fx) := fun G0 H0 => by
  obtain ⟨h1, h2, h3, h4⟩ := okSet.ok C ho
  refine PS.imp (ps_set h1 h2 h3 h hs h4) fun D σ H ⟨G, δ, S, a⟩ => ⟨G, δ, S.sr, ?_⟩
  unfold sOwnX at a
  cases q : fx δ with
  | ok kvs =>
    rw [q] at a
    intro p G' H' g hp hp' ho
    have S1 := S.grow g
    exact a _ G' H' (S1.set_ow (S.gr.h.free hp) hp' ho (fresh_slot S hp))
  | exc c => rw [q] at a; exact fun G' H' g => a G' H' (S.gr.trans g)
  | no => rw [q] at a; exact a
theorem x_dictF (C : Cxt P w K mg base X N sc k df) (hd : okGl sc "dict" = true) (hm : mg "dict" = none) (hf : DF X E e fs) (hst : autoParam (notStar e = true) L2.ax4._auto_1)
    (he : autoParam (starEach [e] X.env = (false, eval e X.env) :: starEach [] X.env) L2.ax4._auto_1) (hpl : autoParam ((backTo cp (starEach [] X.env)).any (·.1) = false) L2.ax4._auto_1) :
    DX X E (.Call (.Name "dict" p2) [e] [] cp) (xDictF fs) := by
  obtain ⟨k1, k2, k3⟩ := okGl.gl C hd
  have ha : DA X E [e] 1 (aCons (vLst fs) aNil) := a_cons (d_new hf) a_nil hst
  refine PE.imp (pe_callTy (call_dictP C.room.hd C.hu) k1 (by rw [C.hmg]; exact hm) (by decide +kernel) ha.pa k3 k2 he hpl) fun σ H Q hhh => ?_
  obtain ⟨G, δ, S, aft⟩ := hhh
  refine ⟨G, δ, S, ?_⟩
  unfold xDictF at aft
  cases ef : fs δ with
  | ok ds =>
    rw [ef] at aft
    have ea : aCons (vLst fs) aNil δ = .ok [.list ds] := by unfold aCons vLst; rw [ef]; rfl
    rw [ea]
    intro vs G1 H1 g1 r1
    obtain ⟨v, rfl, a, ys, rfl, ha, la⟩ := rep1 r1
    simp only [Res.bind] at aft
    split at aft
    . rename_i hlen
      cases ek : pairsKv ds [] with
      | some kvs =>
        rw [ek] at aft
        obtain ⟨prs, q1, q2, q3⟩ := pairs_rep ds ys [] kvs [] la ek rfl rfl
        have S1 := S.grow g1
        refine ⟨a, ys, prs, rfl, Rd.mono S1.sub ha, Paired.mapP q1 fun _ _ z => z.mono fun b xs e => S1.sub _ _ e, by rw [← la.length]; exact hlen, fun q hq => ?_⟩
        have g2 : Grow G1 H1 G1 (upd H1 q (.dT (mergeT [] prs))) := Grow.own S1.sub hq
        exact aft q G1 _ (g1.trans g2) (g1.h.free hq) (S1.sub.free hq) ⟨_, upd_same, q2, q3⟩
      | none => rw [ek] at aft; exact (show False from aft).elim
    . exact (show False from aft).elim
  | exc c =>
    rw [ef] at aft
    have ea : aCons (vLst fs) aNil δ = .exc c := by unfold aCons vLst; rw [ef]; rfl
    rw [ea]
    exact fun G' H' g => aft G' H' g
  | no => rw [ef] at aft; exact (show False from aft).elim
noncomputable def sNo : Dn -> Out := fun _ => .no
theorem s_no : DS X E st sNo := fun G0 H0 pins s σ H D I ⟨G, δ, S, a⟩ => a.elim
end
end Sm
end
section
set_option Elab.async false
set_option linter.all false
set_option maxRecDepth 100000
set_option maxHeartbeats 4000000
set_option autoImplicit false
namespace Sm
open PySem PySem.Spec PyProof.Rows L2
end Sm
end
section
set_option Elab.async false
set_option linter.all false
set_option maxRecDepth 100000
set_option maxHeartbeats 4000000
set_option autoImplicit false
namespace Sm
open PySem PySem.Spec PyProof.Rows L2
end Sm
end
section
set_option Elab.async false
set_option linter.all false
set_option maxRecDepth 100000
set_option maxHeartbeats 4000000
set_option autoImplicit false
namespace Sm
open PySem PySem.Spec PySem.W PyProof.Rows
end Sm
end
section
set_option Elab.async false
set_option linter.all false
set_option maxRecDepth 100000
set_option maxHeartbeats 4000000
set_option autoImplicit false
namespace Sm
open PySem PySem.Spec PySem.W PyProof.Rows L2
end Sm
end
section
set_option Elab.async false
set_option linter.all false
set_option maxRecDepth 100000
set_option maxHeartbeats 4000000
set_option autoImplicit false
namespace Sm
open PySem PySem.Spec PyProof.Rows L2
section
variable {prog : Program} {w : World} {A : Around} {E : Value -> Shared -> Prop} {s : Shared}
theorem iter_key {d : Addr} {od : Obj} {es : Array DictEntry} {ep : Nat} {Q : Value -> Shared -> Prop} (hd : (d == sysModules) = false) (hT : s.TypeIs (.ref d) "dict") (ho : s.heap.get? d = some od) (hdat : od.data = .dict es ep)
    (hQ : Q (.ref s.heap.objs.size) { s with heap := s.heap.push { cls := .type "dict_keyiterator", data := .fields #[.ref d, .int 0 0, .int es.size 0, .int ep 0] } }) :
    wpAny (model prog w) A (pyIter (.ref d)) Q E s := by
  refine wpAny_pyIter_slot hT F.slot_dict_iter (wpAny_call_entry F.slot_dict_iter hT F.entry_dict_iter ?_ (F.args_dict_iter_1 _))
  unfold Builtin.«dict.__iter__» Builtin.Dict.dictSlotNone
  refine wpAny_bind (wpAny_bind (wpAny_notOrdered_dict hT (wpAny_pure ?_)))
  have hz : ∀ (R : Value -> Shared -> Prop), wpAny (model prog w) A.in1 (Builtin.Dict.showsAll d) (fun _ t => t = s) R s := fun R => by
    unfold Builtin.Dict.showsAll
    rw [hd]
    exact wpAny_pure rfl
  refine wpAny_bind (wpAny_of_eq (a := d) rfl (wpAny_bind (wpAny_mono (hz E) (fun _ t e => ?_) fun _ _ e => e)))
  subst e
  refine wpAny_bind (wpAny_dictEntries ho hdat (wpAny_bind (wpAny_dictEpoch ho hdat ?_)))
  refine wpAny_bind (wpAny_newObj_type (wpAny_pure ⟨_, rfl, "dict_keyiterator", _, ⟨_, Heap.get?_push_size _ rfl, rfl⟩, F.slot_dict_keyiterator_next.lookup, ?_⟩))
  simpa [rawInt] using hQ
theorem next_key {it d : Addr} {i ep : Nat} {od : Obj} {es : Array DictEntry} {Q : Option Value -> Shared -> Prop} (hit : s.heap.IsKeyIter it d i es.size ep) (hod : s.heap.get? d = some od) (hdd : od.data = .dict es ep) (hlt : i < es.size)
    (hQ : ∀ h', h'.IsKeyIter it d (i + 1) es.size ep -> Heap.SameBut it s.heap h' -> Q (some es[i].key) { s with heap := h' }) : wpAny (model prog w) A (pyNext (.ref it)) Q E s := by
  obtain ⟨o, ho, hc, hd⟩ := id hit
  have hnew : (s.heap.update it (Obj.mapFields (·.setIfInBounds 1 (rawInt ((i : Int) + 1))))).IsKeyIter it d (i + 1) es.size ep := by
    refine ⟨_, Heap.get?_update_self _ ho (Obj.isFreed_of_fields (Obj.data_mapFields hd _)), (Obj.cls_mapFields ..).trans hc, ?_⟩
    rw [Obj.data_mapFields hd]
    simp [rawInt]
  have hty : Shared.TypeIs { s with heap := s.heap.update it (Obj.mapFields (·.setIfInBounds 1 (rawInt ((i : Int) + 1)))) } (.ref it) "dict_keyiterator" := hnew.typeIs
  unfold pyNext
  refine wpAny_bind (wpAny_attempt ?_)
  refine wpAny_callSpecial?_slot (name := Str.ofString "__next__") hit.typeIs F.slot_dict_keyiterator_next ?_
  refine wpAny_call_entry F.slot_dict_keyiterator_next hit.typeIs F.entry_dict_keyiterator_next ?_ (F.args_dict_keyiterator_next_1 _)
  refine wpAny_bind (wpAny_pure (wpAny_bind (wpAny_bind ?_)))
  refine wpAny_bind (wpAny_typeNameOfWhole_keyiter hit.typeIs (wpAny_pure ?_))
  refine wpAny_bind (wpAny_fieldsOf ho hd ?_)
  simp only [show Builtin.Dict_items.ownsTuple "dict_keyiterator" = false by decide, Bool.false_eq_true, if_false]
  show wpAny _ _ (if (Value.ref d == Value.none) = true then _ else _) _ _ s
  rw [if_neg (by exact Bool.false_ne_true)]
  refine wpAny_bind (wpAny_pure (wpAny_bind (wpAny_dictEntries hod hdd ?_)))
  rw [if_neg (by simp)]
  refine wpAny_bind (wpAny_pure (wpAny_bind (wpAny_dictEpoch hod hdd ?_)))
  rw [if_neg (by simp)]
  refine wpAny_pure ?_
  simp only [show ¬ ((i : Int) < 0) from by omega, if_false, Int.toNat_natCast, Array.getElem?_eq_getElem hlt]
  refine wpAny_bind (wpAny_bind (wpAny_typeNameOfWhole_keyiter hit.typeIs (wpAny_pure ?_)))
  refine wpAny_bind (wpAny_isOneOf_keyiter hit.typeIs ?_)
  show wpAny _ _ (setField (.ref it) 1 (rawInt ((i : Int) + 1)) >>= _) _ _ s
  refine wpAny_bind (wpAny_setField ho hd (by simp) (wpAny_bind (wpAny_holding ?_)))
  refine wpAny_bind (wpAny_isOneOf_keyiter hty ?_)
  first
    | exact wpAny_pure (wpAny_pure ⟨_, rfl, wpAny_pure (hQ _ hnew (Heap.SameBut.update ..))⟩)
    | (refine wpAny_bind (wpAny_isOneOf_keyiter hty ?_); exact wpAny_pure (wpAny_pure ⟨_, rfl, wpAny_pure (hQ _ hnew (Heap.SameBut.update ..))⟩))
theorem end_key {it d : Addr} {i ep : Nat} {od : Obj} {es : Array DictEntry} {Q : Option Value -> Shared -> Prop} (hh : A.handled = none) (hi : es.size <= i) (hit : s.heap.IsKeyIter it d i es.size ep) (hod : s.heap.get? d = some od) (hdd : od.data = .dict es ep)
    (hQ : ∀ h', Heap.ExtBut it s.heap h' -> Q none { s with heap := h' }) : wpAny (model prog w) A (pyNext (.ref it)) Q E s := by
  obtain ⟨o, ho, hc, hd⟩ := id hit
  unfold pyNext
  refine wpAny_bind (wpAny_attempt ?_)
  refine wpAny_callSpecial?_slot (name := Str.ofString "__next__") hit.typeIs F.slot_dict_keyiterator_next ?_
  refine wpAny_call_entry F.slot_dict_keyiterator_next hit.typeIs F.entry_dict_keyiterator_next ?_ (F.args_dict_keyiterator_next_1 _)
  refine wpAny_bind (wpAny_pure (wpAny_bind (wpAny_bind ?_)))
  refine wpAny_bind (wpAny_typeNameOfWhole_keyiter hit.typeIs (wpAny_pure ?_))
  refine wpAny_bind (wpAny_fieldsOf ho hd ?_)
  simp only [show Builtin.Dict_items.ownsTuple "dict_keyiterator" = false by decide, Bool.false_eq_true, if_false]
  show wpAny _ _ (if (Value.ref d == Value.none) = true then _ else _) _ _ s
  rw [if_neg (by exact Bool.false_ne_true)]
  refine wpAny_bind (wpAny_pure (wpAny_bind (wpAny_dictEntries hod hdd ?_)))
  rw [if_neg (by simp)]
  refine wpAny_bind (wpAny_pure (wpAny_bind (wpAny_dictEpoch hod hdd ?_)))
  rw [if_neg (by simp)]
  refine wpAny_pure ?_
  simp only [show ¬ ((i : Int) < 0) from by omega, if_false, Int.toNat_natCast, Array.getElem?_eq_none hi]
  refine wpAny_bind (wpAny_bind (wpAny_typeNameOfWhole_keyiter hit.typeIs (wpAny_pure ?_)))
  show wpAny _ _ (setField (.ref it) 0 .none >>= _) _ _ s
  refine wpAny_bind (wpAny_setField ho hd (by simp) ?_)
  show wpAny _ _ (newExc (.type "StopIteration") [] >>= _) _ _ _
  refine wpAny_bind ?_
  simp only [newExc, newTuple]
  refine wpAny_bind (wpAny_newObj_type ?_ (by size_fits))
  refine wpAny_bind (m := firstArgMember _ _) (wpAny_of_eq (a := Value.none) (by first | rfl | (simp only [firstArgMember]; rfl)) (wpAny_newObj_type ?_ (by size_fits)))
  simp only [raiseNew]
  refine wpAny_bind (wpAny_handled ?_)
  rw [show A.in1.handled = none from hh]
  refine wpAny_bind (wpAny_pure (wpAny_throw (wpAny_bind ?_)))
  refine wpAny_isInstance (T := "StopIteration") (b := true) ⟨_, Heap.get?_push_size _ rfl, rfl⟩ isSubtype_stop ?_
  exact wpAny_pure (hQ _ (((Heap.SameBut.update ..).extBut.push _).push _))
theorem self_key {it d : Addr} {i n ep : Nat} {Q : Value -> Shared -> Prop} (hit : s.heap.IsKeyIter it d i n ep) (h : Q (.ref it) s) : wpAny (model prog w) A (pyIter (.ref it)) Q E s := wpAny_pyIter_keyiter hit h
end
end Sm
end
section
set_option Elab.async false
set_option linter.all false
set_option maxRecDepth 100000
set_option maxHeartbeats 4000000
set_option autoImplicit false
namespace Sm
open PySem PySem.Spec PyProof.Rows L2
end Sm
end
section
set_option Elab.async false
set_option linter.all false
set_option maxRecDepth 100000
set_option maxHeartbeats 4000000
set_option autoImplicit false
namespace Sm
open PySem PySem.Spec PyProof.Rows L2
section
variable {P : Program} {w : World} {K : PySem.W.Frag} {mg : Str -> Option Value} {base : Heap} {X : Cx} {N : List Str} {sc : Scope} {k : Nat} {df : Bool} {E : EK} {pos p p1 p2 p3 : Pos} {a b c e : Expr} {f g f' : Dn -> Res PyData} {x : Str} {i : Nat}
theorem t_chainLe (C : Cxt P w K mg base X N sc k df) (ha : DE X E a f) (hb : DE X E b g) (hc : DE X E c f') (hm : autoParam (lastMarks [.LtE, .LtE] [b, c] = false) L2.ax6._auto_1) :
    DT X E (.Compare a [.LtE, .LtE] [b, c] pos) (cVal (vChain f g f' (dCmp .LtE) (dCmp .LtE))) := by
  have hr : OpR X (compareOp .LtE) (rCmpD .LtE) := op_cmpD (.inr rfl) C.hu
  refine PT.imp (pt_chain hr hr ha hb hc hm) fun σ H Q hhh => ?_
  obtain ⟨G, δ, S, aft⟩ := hhh
  have aft' : AftT E G H ((f δ).bind fun x => (g δ).bind fun y => (ofO (dCmp .LtE x y)).bind fun z => (match z with
    | .bool true => (f' δ).bind fun u => ofO (dCmp .LtE y u)
    | .bool false => .ok (.bool false)
    | _ => .no).bind fun d => ofO (truD d)) Q := by
    unfold cVal vChain at aft
    simp only [Res.bind_assoc] at aft
    exact aft
  refine aftT_bind S aft' fun d1 v1 G1 H1 g1 r1 S1 a1 => ?_
  refine aftT_bind S1 a1 fun d2 v2 G2 H2 g2 r2 S2 a2 => ?_
  cases e : dCmp .LtE d1 d2 with
  | none => rw [e] at a2; exact a2.elim
  | some d =>
    rw [e] at a2
    obtain ⟨kk, rfl⟩ := bool_cmp _ _ _ e
    refine opD_cmp G2 H2 v1 v2 d1 d2 _ _ S2.sub (r1.mono g2.g) r2 e fun v G3 H3 g3 r3 => ⟨kk, r3, ?_⟩
    have S3 := S2.grow g3
    cases kk with
    | false => rw [if_neg (by decide)]; exact ⟨false, rfl, a2 G3 H3 g3⟩
    | true =>
      rw [if_pos rfl]
      have a3 : AftT E G3 H3 ((f' δ).bind fun u => (ofO (dCmp .LtE d2 u)).bind fun d => ofO (truD d)) Q := by
        have h0 : AftT E G3 H3 (((f' δ).bind fun u => ofO (dCmp .LtE d2 u)).bind fun d => ofO (truD d)) Q := AftT.grow g3 a2
        rw [Res.bind_assoc] at h0
        exact h0
      refine aftT_bind S3 a3 fun d4 v4 G4 H4 g4 r4 S4 a4 => ?_
      cases e' : dCmp .LtE d2 d4 with
      | none => rw [e'] at a4; exact a4.elim
      | some d =>
        rw [e'] at a4
        obtain ⟨k2, rfl⟩ := bool_cmp _ _ _ e'
        exact opD_cmp G4 H4 v2 v4 d2 d4 _ _ S4.sub (r2.mono (g3.g.trans g4.g)) r4 e' fun v G5 H5 g5 r5 => ⟨k2, r5, a4 G5 H5 g5⟩
end
end Sm
end
section
set_option Elab.async false
set_option linter.all false
set_option maxRecDepth 100000
set_option maxHeartbeats 4000000
set_option autoImplicit false
namespace Sm
open PySem PySem.Spec PyProof.Rows L2
noncomputable def partS (x y : Str) : Str × Str × Str := match PySem.Builtin.Str.occurrences x y 0 x.length 1 with
  | i :: _ => (PySem.Builtin.Str.strSub x 0 i, y, PySem.Builtin.Str.strSub x (i + y.length) x.length)
  | [] => (x, Str.empty, Str.empty)
noncomputable def okS (x : Str) : Bool := PyData.strOk x && decide (x.length <= sizeLine)
noncomputable def dPart (x : Str) : PyData -> Option PyData
  | .str y => if (y.length == 0) = false /\ okS (partS x y).1 = true /\ okS (partS x y).2.1 = true /\ okS (partS x y).2.2 = true then some (.tuple [.str (partS x y).1, .str (partS x y).2.1, .str (partS x y).2.2]) else none
  | _ => none
noncomputable def vPart (g f : Dn -> Res PyData) : Dn -> Res PyData := fun δ => (g δ).bind fun z => match z with
  | .str z => (f δ).bind fun d => ofO (dPart z d)
  | _ => .no
section
variable {X : Cx} {E : EK} {a b : Expr} {f g : Dn -> Res PyData}
theorem mt_part : MtR X "str.partition" (fun x vs H Q => ∃ z y, x = .str z /\ vs = [.str y] /\ (y.length == 0) = false /\ z.length <= sizeLine /\ ∀ p, H p = none -> Q (.ref p) (upd H p (.tup [.str (partS z y).1, .str (partS z y).2.1, .str (partS z y).2.2]))) := by
  rintro pins s σ H x vs v us Q I rx rv ⟨z, y, e1, e2, hy, hz, q⟩
  subst e1 e2
  obtain ⟨t, rfl⟩ := rx
  obtain ⟨u, rfl, ru⟩ := rv.one
  obtain ⟨t2, rfl⟩ := ru
  refine call_meets F.slot_str_partition (typeIs_str _ _ _) F.entry_str_partition (F.args_str_partition_2 _ _) (meets_str_partition z y t t2 hy hz) ?_
  have hf : H s.heap.objs.size = none := I.hok.fresh (Nat.le_refl _)
  have q' := q _ hf
  unfold partS at q'
  cases ho : PySem.Builtin.Str.occurrences z y 0 z.length 1 with
  | nil =>
    rw [ho] at q'
    refine ⟨.ref s.heap.objs.size, _, I.laid (t' := s.toks + 1) (fun b u e => Heap.get?_push_of_some _ e) (Nat.le_refl _) ?_, rfl, q'⟩
    exact ⟨(show 3 <= sizeLine by decide), _, .cons ⟨_, rfl⟩ (.cons ⟨_, rfl⟩ (.cons ⟨_, rfl⟩ .nil)), ⟨_, Heap.get?_push_size _ rfl, rfl, _, rfl⟩⟩
  | cons i r =>
    rw [ho] at q'
    refine ⟨.ref s.heap.objs.size, _, I.laid (t' := s.toks + 1 + 1) (fun b u e => Heap.get?_push_of_some _ e) (Nat.le_refl _) ?_, rfl, q'⟩
    exact ⟨(show 3 <= sizeLine by decide), _, .cons ⟨_, rfl⟩ (.cons ⟨_, rfl⟩ (.cons ⟨_, rfl⟩ .nil)), ⟨_, Heap.get?_push_size _ rfl, rfl, _, rfl⟩⟩
theorem okS.out {x : Str} (h : okS x = true) : PyData.strOk x = true /\ x.length <= sizeLine := by
  unfold okS at h
  simp only [Bool.and_eq_true, decide_eq_true_eq] at h
  exact h
theorem d_part {apos cpos : Pos} (hb : DE X E b g) (ha : DE X E a f) (hbase : autoParam (attributeBase b "partition" X.env (eval b X.env) = eval b X.env) L2.ax4._auto_1)
    (hfew : autoParam (((backTo cpos (starEach [a] X.env)).all (fun x => !x.1) && (backToKw cpos (keywordEach [] X.env)).all (fun x => x.1.isSome)
      && decide ([a].length + ([] : List Keyword).length + (if ([] : List Keyword).isEmpty then 0 else 1) < 30)) = true) L2.ax4._auto_1)
    (hline : autoParam ((apos.endLine == cpos.line) = true) L2.ax4._auto_1) (hs : autoParam (starEach [a] X.env = (false, eval a X.env) :: starEach [] X.env) L2.ax4._auto_1) (hplain : autoParam ((backTo cpos (starEach [] X.env)).any (·.1) = false) L2.ax4._auto_1) :
    DE X E (.Call (.Attribute b "partition" apos) [a] [] cpos) (vPart g f) := by
  refine PE.imp (pe_bm PySem.F.plainAttrs_str PySem.F.slot_str_partition PySem.F.type_str_partition mt_part hb (pa_cons ha pa_nil hs) hbase hfew hline hs hplain) fun σ H Q hhh => ?_
  obtain ⟨G, δ, S, aft⟩ := hhh
  refine aft_bind S aft fun d0 v0 G0 H0 g0 r0 S0 a0 => ?_
  cases d0 with
  | str z =>
    obtain ⟨rz, rz1, rz2⟩ := r0
    cases rz
    refine ⟨rfl, ?_⟩
    refine aft_bind S0 a0 fun d v G1 H1 g1 r1 S1 a1 => ?_
    cases d with
    | str y =>
      cases r1.1
      simp only [dPart] at a1
      split at a1
      . rename_i hc
        obtain ⟨h0, h1, h2, h3⟩ := hc
        refine ⟨z, y, rfl, rfl, h0, rz2, fun p hp => ?_⟩
        have gr := Grow.new (o := .tup [.str (partS z y).1, .str (partS z y).2.1, .str (partS z y).2.2]) S1.sub hp
        refine a1 (.ref p) _ _ gr ⟨p, _, rfl, upd_same, ?_⟩
        exact RepL.cons ⟨rfl, okS.out h1⟩ (RepL.cons ⟨rfl, okS.out h2⟩ (RepL.cons ⟨rfl, okS.out h3⟩ rfl))
      . exact (show False from a1).elim
    | _ => exact (show False from a1).elim
  | _ => exact (show False from a0).elim
end
end Sm
end
section
set_option Elab.async false
set_option linter.all false
set_option maxRecDepth 100000
set_option maxHeartbeats 4000000
set_option autoImplicit false
namespace Sm
open PySem PySem.Spec PyProof.Rows L2
theorem vals_strs : ∀ (ps : List Str) (k : Nat), Vals (ps.map V.str) (strsFrom k ps)
  | [], _ => .nil
  | p :: ps, k => .cons ⟨_, rfl⟩ (vals_strs ps (k + 1))
noncomputable def vEnds (g f : Dn -> Res PyData) : Dn -> Res PyData := fun δ => (g δ).bind fun z => match z with
  | .str z => (f δ).bind fun d => match d with
    | .str y => .ok (.bool (Txt.endswith z y))
    | _ => .no
  | _ => .no
noncomputable def vSplit (g f : Dn -> Res PyData) : Dn -> Res PyData := fun δ => (g δ).bind fun z => match z with
  | .str z => (f δ).bind fun d => match d with
    | .str y => if (y.length == 0) = false /\ (Txt.split z y).length <= sizeLine /\ (PySem.Builtin.Str.partsBetween z (PySem.Builtin.Str.occurrences z y 0 z.length (z.length + 1)) y.length).length <= sizeLine /\ (Txt.split z y).all okS = true then .ok (.list ((Txt.split z y).map .str)) else .no
    | _ => .no
  | _ => .no
section
variable {X : Cx} {E : EK} {a b : Expr} {f g : Dn -> Res PyData}
theorem mt_ends : MtR X "str.endswith" (fun x vs H Q => ∃ z y, x = .str z /\ vs = [.str y] /\ Q (.bl (Txt.endswith z y)) H) := by
  rintro pins s σ H x vs v us Q I rx rv ⟨z, y, e1, e2, q⟩
  subst e1 e2
  obtain ⟨t, rfl⟩ := rx
  obtain ⟨u, rfl, ru⟩ := rv.one
  obtain ⟨t2, rfl⟩ := ru
  exact PySem.SC.endswith ⟨.bl _, H, I, rfl, q⟩
theorem mt_split : MtR X "str.split" (fun x vs H Q => ∃ z y, x = .str z /\ vs = [.str y] /\ (y.length == 0) = false /\ z.length <= sizeLine /\ (Txt.split z y).length <= sizeLine /\ (PySem.Builtin.Str.partsBetween z (PySem.Builtin.Str.occurrences z y 0 z.length (z.length + 1)) y.length).length <= sizeLine /\ ∀ p, H p = none -> Q (.ref p) (upd H p (.lst ((Txt.split z y).map .str)))) := by
  rintro pins s σ H x vs v us Q I rx rv ⟨z, y, e1, e2, hy, hz, hl, hn, q⟩
  subst e1 e2
  obtain ⟨t, rfl⟩ := rx
  obtain ⟨u, rfl, ru⟩ := rv.one
  obtain ⟨t2, rfl⟩ := ru
  have hf0 : H s.heap.objs.size = none := I.hok.fresh (Nat.le_refl _)
  have q' := q _ hf0
  cases h1 : (decide (z.length < y.length) || decide (PySem.Builtin.Str.strKind z < PySem.Builtin.Str.strKind y)) with
  | true =>
    have e : Txt.split z y = [z] := by unfold Txt.split; rw [h1]; rfl
    rw [e] at q'
    refine call_meets F.slot_str_split (typeIs_str _ _ _) F.entry_str_split (F.args_str_split_2 _ _) (meets_str_split_cannot_occur z y t t2 h1) ?_
    refine ⟨.ref s.heap.objs.size, _, I.laid (t' := s.toks) (fun b u e => Heap.get?_push_of_some _ e) (Nat.le_refl _) ?_, rfl, q'⟩
    exact ⟨(show 1 <= sizeLine by decide), _, 0, .cons ⟨_, rfl⟩ .nil, Heap.get?_push_size _ rfl⟩
  | false =>
    cases hf : (PySem.Builtin.Str.occurrences z y 0 z.length (z.length + 1)).isEmpty with
    | true =>
      have e : Txt.split z y = [z] := by unfold Txt.split; rw [h1, hf]; rfl
      rw [e] at q'
      refine call_meets F.slot_str_split (typeIs_str _ _ _) F.entry_str_split (F.args_str_split_2 _ _) (meets_str_split_not_found z y t t2 h1 hy hf) ?_
      refine ⟨.ref s.heap.objs.size, _, I.laid (t' := s.toks) (fun b u e => Heap.get?_push_of_some _ e) (Nat.le_refl _) ?_, rfl, q'⟩
      exact ⟨(show 1 <= sizeLine by decide), _, 0, .cons ⟨_, rfl⟩ .nil, Heap.get?_push_size _ rfl⟩
    | false =>
      have e : Txt.split z y = PySem.Builtin.Str.partsBetween z (PySem.Builtin.Str.occurrences z y 0 z.length (z.length + 1)) y.length := by unfold Txt.split; rw [h1, hf]; rfl
      rw [e] at q'
      refine call_meets F.slot_str_split (typeIs_str _ _ _) F.entry_str_split (F.args_str_split_2 _ _) (meets_str_split_sep z y t t2 h1 hy hf hz hn) ?_
      refine ⟨.ref s.heap.objs.size, _, I.laid (t' := s.toks + _) (fun b u e => Heap.get?_push_of_some _ e) (Nat.le_refl _) ?_, rfl, q'⟩
      exact ⟨by rw [List.length_map]; exact hn, _, 0, vals_strs _ _, Heap.get?_push_size _ rfl⟩
theorem d_ends {apos cpos : Pos} (hb : DE X E b g) (ha : DE X E a f) (hbase : autoParam (attributeBase b "endswith" X.env (eval b X.env) = eval b X.env) L2.ax4._auto_1)
    (hfew : autoParam (((backTo cpos (starEach [a] X.env)).all (fun x => !x.1) && (backToKw cpos (keywordEach [] X.env)).all (fun x => x.1.isSome)
      && decide ([a].length + ([] : List Keyword).length + (if ([] : List Keyword).isEmpty then 0 else 1) < 30)) = true) L2.ax4._auto_1)
    (hline : autoParam ((apos.endLine == cpos.line) = true) L2.ax4._auto_1) (hs : autoParam (starEach [a] X.env = (false, eval a X.env) :: starEach [] X.env) L2.ax4._auto_1) (hplain : autoParam ((backTo cpos (starEach [] X.env)).any (·.1) = false) L2.ax4._auto_1) :
    DE X E (.Call (.Attribute b "endswith" apos) [a] [] cpos) (vEnds g f) := by
  refine PE.imp (pe_bm PySem.F.plainAttrs_str PySem.F.slot_str_endswith PySem.F.type_str_endswith mt_ends hb (pa_cons ha pa_nil hs) hbase hfew hline hs hplain) fun σ H Q hhh => ?_
  obtain ⟨G, δ, S, aft⟩ := hhh
  refine aft_bind S aft fun d0 v0 G0 H0 g0 r0 S0 a0 => ?_
  cases d0 with
  | str z =>
    obtain ⟨rz, rz1, rz2⟩ := r0
    cases rz
    refine ⟨rfl, ?_⟩
    refine aft_bind S0 a0 fun d v G1 H1 g1 r1 S1 a1 => ?_
    cases d with
    | str y =>
      cases r1.1
      exact ⟨z, y, rfl, rfl, a1 _ G1 H1 (Grow.refl S1.sub) rfl⟩
    | _ => exact (show False from a1).elim
  | _ => exact (show False from a0).elim
theorem rep_strs {G : Hp} : ∀ (ps : List Str), ps.all okS = true -> RepL G (ps.map PyData.str) (ps.map V.str)
  | [], _ => rfl
  | p :: ps, h => by
    rw [List.all_cons, Bool.and_eq_true] at h
    exact RepL.cons ⟨rfl, okS.out h.1⟩ (rep_strs ps h.2)
theorem d_split {apos cpos : Pos} (hb : DE X E b g) (ha : DE X E a f) (hbase : autoParam (attributeBase b "split" X.env (eval b X.env) = eval b X.env) L2.ax4._auto_1)
    (hfew : autoParam (((backTo cpos (starEach [a] X.env)).all (fun x => !x.1) && (backToKw cpos (keywordEach [] X.env)).all (fun x => x.1.isSome)
      && decide ([a].length + ([] : List Keyword).length + (if ([] : List Keyword).isEmpty then 0 else 1) < 30)) = true) L2.ax4._auto_1)
    (hline : autoParam ((apos.endLine == cpos.line) = true) L2.ax4._auto_1) (hs : autoParam (starEach [a] X.env = (false, eval a X.env) :: starEach [] X.env) L2.ax4._auto_1) (hplain : autoParam ((backTo cpos (starEach [] X.env)).any (·.1) = false) L2.ax4._auto_1) :
    DE X E (.Call (.Attribute b "split" apos) [a] [] cpos) (vSplit g f) := by
  refine PE.imp (pe_bm PySem.F.plainAttrs_str PySem.F.slot_str_split PySem.F.type_str_split mt_split hb (pa_cons ha pa_nil hs) hbase hfew hline hs hplain) fun σ H Q hhh => ?_
  obtain ⟨G, δ, S, aft⟩ := hhh
  refine aft_bind S aft fun d0 v0 G0 H0 g0 r0 S0 a0 => ?_
  cases d0 with
  | str z =>
    obtain ⟨rz, rz1, rz2⟩ := r0
    cases rz
    refine ⟨rfl, ?_⟩
    refine aft_bind S0 a0 fun d v G1 H1 g1 r1 S1 a1 => ?_
    cases d with
    | str y =>
      cases r1.1
      simp only at a1
      split at a1
      . rename_i hc
        obtain ⟨h0, h1, h2, h3⟩ := hc
        refine ⟨z, y, rfl, rfl, h0, rz2, h1, h2, fun p hp => ?_⟩
        refine a1 (.ref p) _ _ (Grow.new S1.sub hp) ⟨p, _, rfl, .inl upd_same, rep_strs _ h3⟩
      . exact (show False from a1).elim
    | _ => exact (show False from a1).elim
  | _ => exact (show False from a0).elim
end
end Sm
end
section
set_option Elab.async false
set_option linter.all false
set_option maxRecDepth 100000
set_option maxHeartbeats 4000000
set_option autoImplicit false
namespace Sm
open PySem PySem.Spec PyProof.Rows L2
noncomputable def dIntS : List PyData -> Option PyData
  | [.str x] => if x.length <= 640 then (PySem.intText? x).map .int else none
  | _ => none
section
variable {P : Program} {w : World} {K : PySem.W.Frag} {mg : Str -> Option Value} {base : Heap} {X : Cx} {N : List Str} {sc : Scope} {k : Nat} {df : Bool} {E : EK} {pos p : Pos} {e : Expr} {es : List Expr} {fs : Dn -> Res (List PyData)}
theorem call_intS : CallR X (.type "int") (rCD dIntS) := by
  rintro pins s σ H xs us Q I r ⟨G, ds, d, hG, rl, e, q⟩
  unfold dIntS at e
  split at e
  . rename_i x
    split at e
    . rename_i hl
      cases hn : PySem.intText? x with
      | none => rw [hn] at e; cases e
      | some n =>
        rw [hn] at e
        cases e
        obtain ⟨v, rfl, e1⟩ := rep1 rl
        cases e1.1
        obtain ⟨u, rfl, t, rfl⟩ := vals1 r
        exact PySem.W.KIN.call_text hn hl ⟨.int n, H, I.tok _, ⟨_, rfl⟩, q _ G H (Grow.refl hG) rfl⟩
    . cases e
  . cases e
theorem d_intS {n : Nat} (C : Cxt P w K mg base X N sc k df) (h : okGl sc "int" = true) (hm : mg "int" = none) (ha : DA X E (e :: es) n fs)
    (he : autoParam (starEach (e :: es) X.env = (false, eval e X.env) :: starEach es X.env) L2.ax4._auto_1) (hpl : autoParam ((backTo pos (starEach es X.env)).any (·.1) = false) L2.ax4._auto_1) : DE X E (.Call (.Name "int" p) (e :: es) [] pos) (vFn fs dIntS) :=
  d_callT' C call_intS h hm (by decide +kernel) ha he hpl
end
end Sm
end
section
set_option Elab.async false
set_option linter.all false
set_option maxRecDepth 100000
set_option maxHeartbeats 4000000
set_option autoImplicit false
namespace Sm
open PySem PySem.Spec PyProof.Rows L2
structure DictC (P : Program) (w : World) (K : PySem.W.Frag) (d : Addr) (kvs : List (Str × Str)) : Prop where
  ex : ∃ o es ep, ∃ vs : List (Key × Value), K.lookup d = some o /\ o.ExactDict /\ o.data = .dict es ep /\ KeysOf (mixKind P w) es /\ Pairs (mixKind P w) es.toList vs /\ (vs.map (·.1)).Nodup /\
    vs.map (·.1) = kvs.map (fun p => (Sum.inr p.1 : Key)) /\ ∀ (i : Nat) k v p, vs[i]? = some (k, v) -> kvs[i]? = some p -> ∃ t, v = .str p.2 t
noncomputable def getC (kvs : List (Str × Str)) (y : Str) : Option Str := (kvs.find? fun p => decide (p.1 = y)).map (·.2)
noncomputable def vGetC (kvs : List (Str × Str)) (f : Dn -> Res PyData) : Dn -> Res PyData := fun δ => (f δ).bind fun d => match d with
  | .str y => match getC kvs y with
    | some z => if okS z = true then .ok (.str z) else .no
    | none => .no
  | _ => .no
theorem at_C : ∀ (vs : List (Key × Value)) (kvs : List (Str × Str)) (y z : Str), vs.map (·.1) = kvs.map (fun p => (Sum.inr p.1 : Key)) -> (∀ (i : Nat) k v p, vs[i]? = some (k, v) -> kvs[i]? = some p -> ∃ t, v = .str p.2 t) -> getC kvs y = some z -> ∃ t, valueAt vs (Sum.inr y : Key) = some (.str z t)
  | [], [], _, _, _, _, h => by cases h
  | [], _ :: _, _, _, e, _, _ => by cases e
  | _ :: _, [], _, _, e, _, _ => by cases e
  | (k, v) :: vs, (a, b) :: kvs, y, z, e, hv, h => by
    simp only [List.map_cons, List.cons.injEq] at e
    obtain ⟨e1, e2⟩ := e
    subst e1
    unfold valueAt
    unfold getC at h
    rw [List.find?_cons] at h ⊢
    by_cases q : a = y
    . subst q
      simp only [decide_true] at h ⊢
      cases h
      obtain ⟨t, rfl⟩ := hv 0 _ _ _ rfl rfl
      exact ⟨t, rfl⟩
    . have q2 : ¬ (Sum.inr a : Key) = Sum.inr y := fun z => q (Sum.inr.inj z)
      simp only [decide_eq_false q, decide_eq_false q2] at h ⊢
      exact at_C vs kvs y z e2 (fun i k v p h1 h2 => hv (i + 1) k v p h1 h2) h
section
variable {P : Program} {w : World} {K : PySem.W.Frag} {mg : Str -> Option Value} {base : Heap} {X : Cx} {N : List Str} {sc : Scope} {k : Nat} {df : Bool} {E : EK} {pos p : Pos} {a : Expr} {f : Dn -> Res PyData} {x : Str}
theorem DictC.dict {d : Addr} {kvs : List (Str × Str)} (D : DictC P w K d kvs) {h : Heap} (KX : K.In h) : ∃ vs : List (Key × Value), h.DictOf (mixKind P w) d vs /\ vs.map (·.1) = kvs.map (fun p => (Sum.inr p.1 : Key)) /\ ∀ (i : Nat) k v p, vs[i]? = some (k, v) -> kvs[i]? = some p -> ∃ t, v = .str p.2 t := by
  obtain ⟨o, es, ep, vs, h1, h2, h3, h4, h5, h6, h7, h8⟩ := D.ex
  exact ⟨vs, ⟨o, es, ep, KX _ _ h1, h2, h3, h4, h5, h6⟩, h7, h8⟩
theorem d_getC {d : Addr} {kvs : List (Str × Str)} (C : Cxt P w K mg base X N sc k df) (h : okGl sc x = true) (hm : mg x = some (.ref d)) (D : DictC P w K d kvs) (hk : DE X E a f) (hs : autoParam (NoSl a) L2.ax8._auto_1) : DE X E (.Subscript (.Name x p) a pos) (vGetC kvs f) := by
  obtain ⟨g1, g2, g3⟩ := okGl.gl C h
  rintro pins s σ H Q I ⟨G, δ, S, aft⟩
  refine subD_of PySem.F.slot_dict_getitem.lookup hs (ld_glob I g1 (by rw [C.hmg]; exact hm) ?_ g2)
  refine thn (hk pins s σ H (fun v H1 => ∃ y z, v = .str y /\ getC kvs y = some z /\ Q (.str z) H1) I ⟨G, δ, S, ?_⟩) fun iv s2 ⟨v, H2, I2, rv, y, z, e1, e2, q⟩ => ?_
  . unfold vGetC at aft
    cases q : f δ with
    | ok d =>
      rw [q, Res.bind] at aft
      intro v G1 H1 g1 r1
      cases d with
      | str y =>
        dsimp only at aft
        cases e : getC kvs y with
        | none => rw [e] at aft; exact (show False from aft).elim
        | some z =>
          rw [e] at aft
          dsimp only at aft
          split at aft
          . rename_i ok
            exact ⟨y, z, r1.1, e, aft _ G1 H1 g1 ⟨rfl, okS.out ok⟩⟩
          . exact (show False from aft).elim
      | _ => exact (show False from aft).elim
    | exc c => rw [q] at aft; exact aft
    | no => rw [q] at aft; exact aft
  . subst e1
    obtain ⟨t, rfl⟩ := rv
    have KX : K.In s2.heap := by have := I2.kIn; rw [C.hK] at this; exact this
    obtain ⟨vs, dd, h7, h8⟩ := D.dict KX
    obtain ⟨t', hv⟩ := at_C vs kvs y z h7 h8 e2
    refine ⟨dd.typeIs, ?_⟩
    rw [C.hP, C.hw]
    exact wpAny_getItem_of (knd := mixKind P w) (k := (Sum.inr y : Key)) (keyIs_str y t) dd.mapOf hv ⟨.str z, H2, I2.tok _, ⟨_, rfl⟩, q⟩
end
end Sm
end
section
set_option Elab.async false
set_option linter.all false
set_option maxRecDepth 100000
set_option maxHeartbeats 4000000
set_option autoImplicit false
namespace Sm
open PySem PySem.Spec PyProof.Rows L2
theorem pairs_at {P : Program} {w : World} {es : List DictEntry} {vs : List (Key × Value)} (h : Pairs (mixKind P w) es vs) : ∀ (i : Nat) e, es[i]? = some e -> ∃ kv, vs[i]? = some kv /\ keyIs kv.1 e.key = true := by
  induction h with
  | nil => intro i e h; simp at h
  | cons h1 _ _ ih =>
    intro i e h
    cases i with
    | zero => simp at h; subst h; exact ⟨_, rfl, h1⟩
    | succ i => exact ih i e (by simpa using h)
theorem ent_C {P : Program} {w : World} {K : PySem.W.Frag} {d : Addr} {kvs : List (Str × Str)} (D : DictC P w K d kvs) : ∃ o es ep, K.lookup d = some o /\ o.ExactDict /\ o.data = .dict es ep /\ es.size = kvs.length /\ ∀ (i : Nat) (hi : i < es.size), ∃ p t, kvs[i]? = some p /\ es[i].key = .str p.1 t := by
  obtain ⟨o, es, ep, vs, h1, h2, h3, h4, h5, h6, h7, h8⟩ := D.ex
  have l1 : es.size = vs.length := by have := h5.length; rw [Array.length_toList] at this; exact this
  have l2 : vs.length = kvs.length := by have := congrArg List.length h7; rw [List.length_map, List.length_map] at this; exact this
  refine ⟨o, es, ep, h1, h2, h3, by omega, fun i hi => ?_⟩
  have e3 : es.toList[i]? = some es[i] := by simp [hi]
  obtain ⟨kv, k1, k2⟩ := pairs_at h5 i _ e3
  have hi2 : i < kvs.length := by omega
  have := congrArg (fun l => l[i]?) h7
  simp only [List.getElem?_map, k1, Option.map_some, List.getElem?_eq_getElem hi2] at this
  have hk : kv.1 = Sum.inr kvs[i].1 := Option.some.inj this
  rw [hk] at k2
  rcases keyIs_shape k2 with ⟨j, t, q, _⟩ | ⟨x, t, q, e⟩
  . cases q
  . cases q
    exact ⟨kvs[i], t, List.getElem?_eq_getElem hi2, e⟩
noncomputable def ItC (kvs : List (Str × Str)) : It :=
  ⟨fun i _ => i < kvs.length, fun i H x H' => H' = H /\ ∃ p, kvs[i]? = some p /\ x = .str p.1, fun i _ => kvs.length <= i⟩
theorem turn_C {P : Program} {w : World} {K : PySem.W.Frag} {tg : Expr} (d it : Addr) (o : Obj) (kvs : List (Str × Str)) (es : Array DictEntry) (ep : Nat) (hK' : K.lookup d = some o) (hd : o.data = .dict es ep) (hsz : es.size = kvs.length) (hat : ∀ (i : Nat) (hi : i < es.size), ∃ p t, kvs[i]? = some p /\ es[i].key = .str p.1 t) :
    Turn P w K tg (ItC kvs) [it] it (fun i h => h.IsKeyIter it d i es.size ep) where
  mem := by simp
  obj := fun i h st b hb => by
    have e : b = it := by simpa using hb
    subst e
    obtain ⟨o, e, c, dd⟩ := st
    exact ⟨o, e, fun v z => by rw [dd] at z; cases z⟩
  keep := fun i h h' st k => by
    obtain ⟨o, e, r⟩ := st
    exact ⟨o, k it (by simp) o e, r⟩
  item := by
    intro X hP hw hK hc i pins s σ H E I hf st hg
    subst hP hw hK
    have g1 : s.heap.get? d = some o := I.kIn _ _ hK'
    have h2 : i < kvs.length := hg
    obtain ⟨p, t, q1, q2⟩ := hat i (by omega)
    obtain ⟨f0, f1, f2, f3, f4, f5⟩ := hf it (by simp)
    refine next_key st g1 hd (by omega) fun h' st' sb => ?_
    have I1 : Inv X pins σ H { s with heap := h' } := I.turned (t' := s.toks) (fun b o hb e => (sb.2 b hb).trans e) f0 f1 f3 f4 f5
    obtain ⟨oi, e, c, dd⟩ := id st'
    exact ⟨_, rfl, go_of (s := { s with heap := h' }) e c dd (by decide) ⟨.str p.1, H, I1, ⟨t, q2⟩, ⟨rfl, p, q1, rfl⟩, st', fun b hb => (hf b hb).1⟩⟩
  done := by
    intro X hP hw hK hc i pins s σ H E I hf st hg
    subst hP hw hK
    have g1 : s.heap.get? d = some o := I.kIn _ _ hK'
    have h2 : kvs.length <= i := hg
    obtain ⟨f0, f1, f2, f3, f4, f5⟩ := hf it (by simp)
    exact end_key (I.ok.hd hc) (by omega) st g1 hd fun h' eb => ⟨rfl, I.turned (t' := s.toks) (fun b o hb e => eb b o hb e) f0 f1 f3 f4 f5⟩
  self := fun _ _ _ _ _ st h => self_key st h
section
variable {P : Program} {w : World} {K : PySem.W.Frag} {mg : Str -> Option Value} {base : Heap} {X : Cx} {N : List Str} {sc : Scope} {k : Nat} {df : Bool} {E : EK} {p : Pos} {tg : Expr} {x : Str}
theorem i_C {d : Addr} {kvs : List (Str × Str)} (C : Cxt P w K mg base X N sc k df) (h : okGl sc x = true) (hm : mg x = some (.ref d)) (hsm : (d == sysModules) = false) (D : DictC P w K d kvs) (hok : kvs.all (fun q => okS q.1) = true) : DI X E tg (.Name x p) (fun _ => .ok (kvs.map fun q => .str q.1)) := by
  rintro pins s σ H R I ⟨G, δ, S, aft⟩
  obtain ⟨g1, g2, g3⟩ := okGl.gl C h
  obtain ⟨o, es, ep, e1, hex, hdat, hsz, hat⟩ := ent_C D
  have eX : X.K.lookup d = some o := by rw [C.hK]; exact e1
  refine ld_glob I g1 (by rw [C.hmg]; exact hm) ?_ g2
  have e2 : s.heap.get? d = some o := I.kIn _ _ eX
  refine iter_key hsm ⟨o, e2, hex.1⟩ e2 hdat ?_
  have I3 : Inv X pins σ H { s with heap := s.heap.push { cls := .type "dict_keyiterator", data := .fields #[.ref d, .int 0 0, .int es.size 0, .int ep 0] } } := I.kept (t' := s.toks) fun b o e => Heap.get?_push_of_some _ e
  refine ⟨s.heap.objs.size, [s.heap.objs.size], _, _, _, rfl, I3, turn_C d _ o kvs es ep eX hdat hsz hat, ⟨_, Heap.get?_push_size _ rfl, rfl, rfl⟩, fun b hb => ?_, aft _ G H (Grow.refl S.sub) ?_⟩
  . have e : b = s.heap.objs.size := by simpa using hb
    subst e
    exact I.fpOk (Nat.le_refl _) (I.hok.fresh (Nat.le_refl _))
  . refine ⟨fun i H hi _ => by rw [List.length_map] at hi; exact hi, fun i e G2 H x H' he h1 h2 hy => ?_, fun i H hi _ => by rw [List.length_map] at hi; exact hi⟩
    obtain ⟨rfl, q, q1, rfl⟩ := hy
    rw [List.getElem?_map, q1] at he
    cases he
    exact ⟨G2, Grow.refl h2, rfl, okS.out (List.all_eq_true.mp hok q (List.mem_of_getElem? q1))⟩
end
end Sm
namespace Sm
open PySem PySem.Spec PyProof.Rows L2
structure HasC (P : Program) (w : World) (K : PySem.W.Frag) (mg : Str -> Option Value) (x : Str) (kvs : List (Str × Str)) : Prop where
  ex : ∃ d, mg x = some (.ref d) /\ (d == sysModules) = false /\ DictC P w K d kvs
section
variable {P : Program} {w : World} {K : PySem.W.Frag} {mg : Str -> Option Value} {base : Heap} {X : Cx} {N : List Str} {sc : Scope} {k : Nat} {df : Bool} {E : EK} {pos p : Pos} {a tg : Expr} {f : Dn -> Res PyData} {x : Str} {kvs : List (Str × Str)}
theorem d_getH (C : Cxt P w K mg base X N sc k df) (h : okGl sc x = true) (D : HasC P w K mg x kvs) (hk : DE X E a f) (hs : autoParam (NoSl a) L2.ax8._auto_1) : DE X E (.Subscript (.Name x p) a pos) (vGetC kvs f) := by
  obtain ⟨d, hm, _, D⟩ := D.ex
  exact d_getC C h hm D hk hs
theorem i_H (C : Cxt P w K mg base X N sc k df) (h : okGl sc x = true) (D : HasC P w K mg x kvs) (hok : kvs.all (fun q => okS q.1) = true) : DI X E tg (.Name x p) (fun _ => .ok (kvs.map fun q => .str q.1)) := by
  obtain ⟨d, hm, hs, D⟩ := D.ex
  exact i_C C h hm hs D hok
end
end Sm
end
section
set_option Elab.async false
set_option linter.all false
set_option maxRecDepth 100000
set_option maxHeartbeats 4000000
set_option autoImplicit false
namespace Sm
open PySem PySem.Spec PyProof.Rows L2
noncomputable def cutS (x : Str) (lo hi : Option Int) : Str := if (((PySem.Builtin.Str.strSliceIndices lo hi 1 x.length).length == x.length) = true) then x else ⟨((PySem.Builtin.Str.strSliceIndices lo hi 1 x.length).filterMap (x.cps[·]?)).toArray⟩
noncomputable def dCutS (d : PyData) (lo hi : Option Int) : Option PyData := match d with
  | .str x => if okS (cutS x lo hi) = true then some (.str (cutS x lo hi)) else none
  | _ => none
theorem part_is {v : Value} {o : Option Int} (h : IsPart v o) : ∃ l : Option (Int × Tok), v = partValue l /\ l.map (·.1) = o := by
  cases h with
  | none => exact ⟨none, rfl, rfl⟩
  | int i t => exact ⟨some (i, t), rfl, rfl⟩
section
variable {X : Cx}
noncomputable def rSlS : V -> Option Int -> Option Int -> Hp -> VK -> Prop := fun x lo hi H Q => ∃ z, x = .str z /\ (cutS z lo hi).length <= sizeLine /\ Q (.str (cutS z lo hi)) H
theorem sl_S : SlR X rSlS := by
  rintro pins s σ H x v vl vu lo hi sl Q I rx hs pl pu ⟨z, e, hl, q⟩
  subst e
  obtain ⟨t, rfl⟩ := rx
  obtain ⟨l, rfl, rfl⟩ := part_is pl
  obtain ⟨u, rfl, rfl⟩ := part_is pu
  refine ⟨"str", _, F.slot_str_getitem.lookup, typeIs_str _ _ _, ?_⟩
  refine wpAny_getItem_str_slice (l := l) (u := u) (st := none) hs rfl ?_
  unfold sliceMade slicePicked
  unfold cutS at q hl
  show (if ((1 : Int) == 1 && (PySem.Builtin.Str.strSliceIndices (l.map (·.1)) (u.map (·.1)) 1 z.length).length == z.length) = true then Made.val (.str z t) else .str ⟨((PySem.Builtin.Str.strSliceIndices (l.map (·.1)) (u.map (·.1)) 1 z.length).filterMap (z.cps[·]?)).toArray⟩).post _ s
  have e1 : ((1 : Int) == 1) = true := rfl
  rw [e1, Bool.true_and]
  split
  . rename_i h
    rw [if_pos h] at q
    exact ⟨.str z, H, I, ⟨_, rfl⟩, q⟩
  . rename_i h
    rw [if_neg h] at q hl
    exact ⟨hl, .str _, H, I.tok _, ⟨_, rfl⟩, q⟩
noncomputable def vSlS (f : Dn -> Res PyData) (fl fh : Dn -> Res (Option Int)) : Dn -> Res PyData := fun δ => (f δ).bind fun d => (fl δ).bind fun l => (fh δ).bind fun u => ofO (dCutS d l u)
theorem d_sliceS {E : EK} {e : Expr} {lo hi : Option Expr} {f : Dn -> Res PyData} {fl fh : Dn -> Res (Option Int)} {p2 pos : Pos} (he : DE X E e f) (hl : DO X E lo fl) (hu : DO X E hi fh) : DE X E (.Subscript e (.Slice lo hi none p2) pos) (vSlS f fl fh) := by
  refine PE.imp (pe_slice sl_S he hl hu) fun σ H Q hhh => ?_
  obtain ⟨G, δ, S, aft⟩ := hhh
  refine aft_bind S aft fun d v G1 H1 g1 r1 S1 a1 => ?_
  refine aftO_any (W := fun G H r => Aft E G H r Q) S1 a1 (fun g a => Aft.grow g a) (fun c a => a) (fun a => a) fun l G2 H2 g2 S2 a2 => ?_
  refine aftO_any (W := fun G H r => Aft E G H r Q) S2 a2 (fun g a => Aft.grow g a) (fun c a => a) (fun a => a) fun u G3 H3 g3 S3 a3 => ?_
  cases d with
  | str z =>
    simp only [dCutS] at a3
    split at a3
    . rename_i ok
      exact ⟨z, r1.1, (okS.out ok).2, a3 _ G3 H3 (Grow.refl S3.sub) ⟨rfl, okS.out ok⟩⟩
    . exact (show False from a3).elim
  | _ => exact (show False from a3).elim
end
end Sm
end
section
set_option Elab.async false
set_option linter.all false
set_option maxRecDepth 100000
set_option maxHeartbeats 4000000
set_option autoImplicit false
namespace Sm
open PySem PySem.Spec PyProof.Rows L2
noncomputable def EntC (w : World) : List DictEntry -> List (Str × Str) -> Prop
  | [], [] => True
  | e :: es, p :: ps => (∃ t, e.key = .str p.1 t) /\ e.hash = keyH w (.inr p.1) /\ (∃ t, e.val = .str p.2 t) /\ EntC w es ps
  | _, _ => False
theorem EntC.all {P : Program} {w : World} : ∀ {es : List DictEntry} {ps : List (Str × Str)}, EntC w es ps ->
    (∀ e ∈ es, ∃ k, (mixKind P w).is k e.key = true /\ e.hash = (mixKind P w).hash k) /\ ∃ vs : List (Key × Value), Pairs (mixKind P w) es vs /\ vs.map (·.1) = ps.map (fun p => (Sum.inr p.1 : Key)) /\ ∀ (i : Nat) k v p, vs[i]? = some (k, v) -> ps[i]? = some p -> ∃ t, v = .str p.2 t
  | [], [], _ => ⟨(fun _ h => nomatch h), [], .nil, rfl, fun i k v p h => by simp at h⟩
  | [], _ :: _, h => h.elim
  | _ :: _, [], h => h.elim
  | e :: es, p :: ps, ⟨⟨t, hk⟩, hh, ⟨u, hv⟩, r⟩ => by
    obtain ⟨h1, vs, h2, h3, h4⟩ := EntC.all (P := P) r
    have hi : (mixKind P w).is (.inr p.1) e.key = true := by rw [hk]; exact mixKind_str P w p.1 t
    refine ⟨fun x hx => ?_, ((.inr p.1 : Key), e.val) :: vs, .cons hi rfl h2, by simp [h3], fun i k v q hx hq => ?_⟩
    . rcases List.mem_cons.mp hx with rfl | hx
      . exact ⟨.inr p.1, hi, hh⟩
      . exact h1 x hx
    . cases i with
      | zero =>
        simp at hx hq
        rw [← hx.2, ← hq]; exact ⟨u, hv⟩
      | succ i => exact h4 i k v q (by simpa using hx) (by simpa using hq)
theorem hasC_mk {P : Program} {w : World} {K : PySem.W.Frag} {mg : Str -> Option Value} {h : Heap} {x : Str} {d : Addr} {es : Array DictEntry} {ep : Nat} {kvs : List (Str × Str)} (KX : K.In h) (G : h.Ns mainGlobals mg) (a : PySem.W.nsIn K mainGlobals x = some (some (.ref d)))
    (hs : (d == sysModules) = false) (l : K.lookup d = some ⟨.type "dict", none, .dict es ep, #[]⟩) (e : EntC w es.toList kvs) (nd : (kvs.map (fun p => (Sum.inr p.1 : Key))).Nodup) : HasC P w K mg x kvs := by
  obtain ⟨h1, vs, h2, h3, h4⟩ := e.all (P := P)
  exact ⟨d, PySem.W.mg_of KX G a, hs, ⟨_, es, ep, vs, l, ⟨rfl, rfl, rfl⟩, rfl, fun e he => h1 e (by simpa using he), h2, by rw [h3]; exact nd, h3, h4⟩⟩
end Sm
end
section
set_option Elab.async false
set_option linter.all false
set_option maxRecDepth 100000
set_option maxHeartbeats 4000000
set_option autoImplicit false
namespace Sm
open PySem PySem.Spec PyProof.Rows L2
noncomputable def top (i : Nat) : Stmt := PySem.Challenge.pw_staymark_k80_written.main.body.getD i (.Pass ⟨0, 0, 0, 0⟩)
noncomputable def stm (i j : Nat) : Stmt := (defBody (top i)).getD j (.Pass ⟨0, 0, 0, 0⟩)
structure Txt (mg : Str -> Option Value) : Prop where
  b_all : mg "all" = none
  b_bool : mg "bool" = none
  b_dict : mg "dict" = none
  b_enumerate : mg "enumerate" = none
  b_int : mg "int" = none
  b_isinstance : mg "isinstance" = none
  b_len : mg "len" = none
  b_list : mg "list" = none
  b_range : mg "range" = none
  b_str : mg "str" = none
  b_tuple : mg "tuple" = none
  c_FIGURES : ∃ t, mg "FIGURES" = some (.str "0123456789" t)
  c_HANDS : ∃ t, mg "HANDS" = some (.str "abcdefgh" t)
  c_LONGEST_NAME : ∃ t, mg "LONGEST_NAME" = some (.int 6 t)
  c_MOST_ADDED : ∃ t, mg "MOST_ADDED" = some (.int 20 t)
  c_MOST_DROPPED : ∃ t, mg "MOST_DROPPED" = some (.int 400 t)
  c_MOST_FIGURES : ∃ t, mg "MOST_FIGURES" = some (.int 6 t)
  c_SIDES : ∃ t, mg "SIDES" = some (.str "lr" t)
noncomputable def N_written_id : List Str := ["which"]
noncomputable def sem_written_id : Dn -> Out := (sRet (b2 (b2 (vVar 0) (vC (.int 1)) dIx) (vFn (aCons (b2 (vVar 0) (vC (.int 0)) dIx) aNil) dStrF) dAdd))
noncomputable def m_written_id : List PyData -> Res PyData := fnD N_written_id sem_written_id
noncomputable def N_written_sign : List Str := ["sign"]
noncomputable def sem_written_sign : Dn -> Out := (sSeq (sIf (fun δ => ((vVar 0) δ).bind fun d => .ok (isNone d)) (sRet (vC (.str "-"))) sNext) (sRet (b2 (b2 (vCall (aCons (b2 (vVar 0) (vC (.int 0)) dIx) aNil) m_written_id) (vC (.str ".")) dAdd) (vFn (aCons (b2 (vVar 0) (vC (.int 1)) dIx) aNil) dStrF) dAdd)))
noncomputable def m_written_sign : List PyData -> Res PyData := fnD N_written_sign sem_written_sign
noncomputable def N_written_anchor : List Str := ["anchor"]
noncomputable def sem_written_anchor : Dn -> Out := (sRet (b2 (vCall (aCons (b2 (vVar 0) (vC (.int 0)) dIx) aNil) m_written_sign) (vGetC [("l", "<"), ("r", ">")] (b2 (vVar 0) (vC (.int 1)) dIx)) dAdd))
noncomputable def m_written_anchor : List PyData -> Res PyData := fnD N_written_anchor sem_written_anchor
noncomputable def N_words_behind : List Str := ["deed"]
noncomputable def sx_words_behind_0 : Dn -> Out := (sIf (cVal (b2 (b2 (vVar 0) (vC (.int 0)) dIx) (vC (.str "add")) dEq)) (sRet (vLst (aCons (vCall (aCons (b2 (vVar 0) (vC (.int 2)) dIx) aNil) m_written_sign) (aCons (b2 (vVar 0) (vC (.int 3)) dIx) aNil)))) sNext)
noncomputable def sx_words_behind_1 : Dn -> Out := (sIf (cVal (b2 (b2 (vVar 0) (vC (.int 0)) dIx) (vC (.str "drop")) dEq)) (sRet (vLst (lComp (fun δ => ((b2 (vVar 0) (vC (.int 2)) dIx) δ).bind seqOf) bind1 [] cTrue (vCall (aCons (vVar 0) aNil) m_written_sign)))) sNext)
noncomputable def sx_words_behind_2 : Dn -> Out := (sIf (cVal (b2 (b2 (vVar 0) (vC (.int 0)) dIx) (vC (.str "mark")) dEq)) (sRet (vLst (aCons (b2 (vVar 0) (vC (.int 2)) dIx) (aCons (vCall (aCons (b2 (vVar 0) (vC (.int 3)) dIx) aNil) m_written_anchor) (aCons (vCall (aCons (b2 (vVar 0) (vC (.int 4)) dIx) aNil) m_written_anchor) aNil))))) sNext)
noncomputable def sx_words_behind_3 : Dn -> Out := (sIf (cVal (b2 (b2 (vVar 0) (vC (.int 0)) dIx) (vC (.str "unmark")) dEq)) (sRet (vLst (aCons (b2 (vVar 0) (vC (.int 2)) dIx) aNil))) sNext)
noncomputable def sx_words_behind_4 : Dn -> Out := (sRet (vLst (aCons (vCall (aCons (b2 (vVar 0) (vC (.int 2)) dIx) aNil) m_written_id) aNil)))
noncomputable def sem_words_behind : Dn -> Out := (sSeq sx_words_behind_0 (sSeq sx_words_behind_1 (sSeq sx_words_behind_2 (sSeq sx_words_behind_3 sx_words_behind_4))))
noncomputable def m_words_behind : List PyData -> Res PyData := fnD N_words_behind sem_words_behind
noncomputable def N_written_deed : List Str := ["deed"]
noncomputable def sem_written_deed : Dn -> Out := (sRet (b2 (vJoin " " (b2 (vLst (aCons (vCall (aCons (b2 (vVar 0) (vC (.int 1)) dIx) aNil) m_written_id) (aCons (b2 (vVar 0) (vC (.int 0)) dIx) aNil))) (vCall (aCons (vVar 0) aNil) m_words_behind) dAdd)) (vC (.str "\n")) dAdd))
noncomputable def m_written_deed : List PyData -> Res PyData := fnD N_written_deed sem_written_deed
noncomputable def N_written : List Str := ["book"]
noncomputable def sem_written : Dn -> Out := (sRet (vJoin "" (vLst (lComp (fun δ => ((vVar 0) δ).bind seqOf) bind1 [] cTrue (vCall (aCons (vVar 0) aNil) m_written_deed)))))
noncomputable def m_written : List PyData -> Res PyData := fnD N_written sem_written
noncomputable def N_is_whole : List Str := ["thing", "least"]
noncomputable def sem_is_whole : Dn -> Out := (sRet (vAnd (b1 (vVar 0) fun d => some (.bool (isTy "int" d))) (vAnd (b1 (b1 (vVar 0) fun d => some (.bool (isTy "bool" d))) dNot) (b2 (vVar 0) (vVar 1) (dCmpS .GtE)))))
noncomputable def m_is_whole : List PyData -> Res PyData := fnD N_is_whole sem_is_whole
noncomputable def N_is_one_of : List Str := ["thing", "letters"]
noncomputable def sem_is_one_of : Dn -> Out := (sRet (vAnd (b1 (vVar 0) fun d => some (.bool (isTy "str" d))) (vAnd (b2 (vFn (aCons (vVar 0) aNil) dLen) (vC (.int 1)) dEq) (b2 (vVar 0) (vVar 1) (dIn false)))))
noncomputable def m_is_one_of : List PyData -> Res PyData := fnD N_is_one_of sem_is_one_of
noncomputable def N_is_text : List Str := ["thing", "most", "first", "last"]
noncomputable def sem_is_text : Dn -> Out := (sSeq (sIf (cOr (cNot (cVal (b1 (vVar 0) fun d => some (.bool (isTy "str" d))))) (cNot (cVal (vChain (vC (.int 1)) (vFn (aCons (vVar 0) aNil) dLen) (vVar 1) (dCmp .LtE) (dCmp .LtE))))) (sRet (vC (.bool false))) sNext) (sRet (vFn (aCons (vLst (lComp (fun δ => ((vVar 0) δ).bind seqOf) bind1 [2, 3] cTrue (vChain (vVar 1) (vVar 0) (vVar 2) (dCmp .LtE) (dCmp .LtE)))) aNil) dAll)))
noncomputable def m_is_text : List PyData -> Res PyData := fnD N_is_text sem_is_text
noncomputable def N_is_name : List Str := ["thing"]
noncomputable def sem_is_name : Dn -> Out := (sRet (vCall (aCons (vVar 0) (aCons (vC (.int 6)) (aCons (vC (.str "a")) (aCons (vC (.str "z")) aNil)))) m_is_text))
noncomputable def m_is_name : List PyData -> Res PyData := fnD N_is_name sem_is_name
noncomputable def N_is_added_text : List Str := ["thing"]
noncomputable def sem_is_added_text : Dn -> Out := (sRet (vCall (aCons (vVar 0) (aCons (vC (.int 20)) (aCons (vC (.str " ")) (aCons (vC (.str "~")) aNil)))) m_is_text))
noncomputable def m_is_added_text : List PyData -> Res PyData := fnD N_is_added_text sem_is_added_text
noncomputable def N_is_pair : List Str := ["thing"]
noncomputable def sem_is_pair : Dn -> Out := (sRet (vAnd (b1 (vVar 0) fun d => some (.bool (isTy "tuple" d))) (b2 (vFn (aCons (vVar 0) aNil) dLen) (vC (.int 2)) dEq)))
noncomputable def m_is_pair : List PyData -> Res PyData := fnD N_is_pair sem_is_pair
noncomputable def N_is_deed_id : List Str := ["thing"]
noncomputable def sem_is_deed_id : Dn -> Out := (sRet (vAnd (vCall (aCons (vVar 0) aNil) m_is_pair) (vAnd (vCall (aCons (b2 (vVar 0) (vC (.int 0)) dIx) (aCons (vC (.int 1)) aNil)) m_is_whole) (vCall (aCons (b2 (vVar 0) (vC (.int 1)) dIx) (aCons (vC (.str "abcdefgh")) aNil)) m_is_one_of))))
noncomputable def m_is_deed_id : List PyData -> Res PyData := fnD N_is_deed_id sem_is_deed_id
noncomputable def N_is_sign_id : List Str := ["thing"]
noncomputable def sem_is_sign_id : Dn -> Out := (sRet (vAnd (vCall (aCons (vVar 0) aNil) m_is_pair) (vAnd (vCall (aCons (b2 (vVar 0) (vC (.int 0)) dIx) aNil) m_is_deed_id) (vCall (aCons (b2 (vVar 0) (vC (.int 1)) dIx) (aCons (vC (.int 0)) aNil)) m_is_whole))))
noncomputable def m_is_sign_id : List PyData -> Res PyData := fnD N_is_sign_id sem_is_sign_id
noncomputable def N_is_sign_id_or_none : List Str := ["thing"]
noncomputable def sem_is_sign_id_or_none : Dn -> Out := (sRet (vOr (b1 (vVar 0) fun d => some (.bool (isNone d))) (vCall (aCons (vVar 0) aNil) m_is_sign_id)))
noncomputable def m_is_sign_id_or_none : List PyData -> Res PyData := fnD N_is_sign_id_or_none sem_is_sign_id_or_none
noncomputable def N_is_anchor : List Str := ["thing"]
noncomputable def sem_is_anchor : Dn -> Out := (sRet (vAnd (vCall (aCons (vVar 0) aNil) m_is_pair) (vAnd (vCall (aCons (b2 (vVar 0) (vC (.int 0)) dIx) aNil) m_is_sign_id_or_none) (vCall (aCons (b2 (vVar 0) (vC (.int 1)) dIx) (aCons (vC (.str "lr")) aNil)) m_is_one_of))))
noncomputable def m_is_anchor : List PyData -> Res PyData := fnD N_is_anchor sem_is_anchor
noncomputable def N_is_rising : List Str := ["values"]
noncomputable def sem_is_rising : Dn -> Out := (sRet (vFn (aCons (vLst (lComp (fun δ => ((aCons (b2 (vFn (aCons (vVar 0) aNil) dLen) (vC (.int 1)) dSub) aNil) δ).bind rng1) bind1 [0] cTrue (b2 (b2 (vVar 1) (vVar 0) dIx) (b2 (vVar 1) (b2 (vVar 0) (vC (.int 1)) dAdd) dIx) (dCmp .Lt)))) aNil) dAll))
noncomputable def m_is_rising : List PyData -> Res PyData := fnD N_is_rising sem_is_rising
noncomputable def N_is_dropped : List Str := ["thing"]
noncomputable def sx_is_dropped_0 : Dn -> Out := (sIf (cOr (cNot (cVal (b1 (vVar 0) fun d => some (.bool (isTy "tuple" d))))) (cNot (cVal (vChain (vC (.int 1)) (vFn (aCons (vVar 0) aNil) dLen) (vC (.int 400)) (dCmp .LtE) (dCmp .LtE))))) (sRet (vC (.bool false))) sNext)
noncomputable def sx_is_dropped_1 : Dn -> Out := (sRet (vAnd (vFn (aCons (vLst (lComp (fun δ => ((vVar 0) δ).bind seqOf) bind1 [] cTrue (vCall (aCons (vVar 0) aNil) m_is_sign_id))) aNil) dAll) (vCall (aCons (vVar 0) aNil) m_is_rising)))
noncomputable def sem_is_dropped : Dn -> Out := (sSeq sx_is_dropped_0 sx_is_dropped_1)
noncomputable def m_is_dropped : List PyData -> Res PyData := fnD N_is_dropped sem_is_dropped
noncomputable def N_has_form : List Str := ["word", "parts"]
noncomputable def sx_has_form_0 : Dn -> Out := (sIf (cVal (b2 (vVar 0) (vC (.str "add")) dEq)) (sRet (vAnd (b2 (vFn (aCons (vVar 1) aNil) dLen) (vC (.int 2)) dEq) (vAnd (vCall (aCons (b2 (vVar 1) (vC (.int 0)) dIx) aNil) m_is_sign_id_or_none) (vCall (aCons (b2 (vVar 1) (vC (.int 1)) dIx) aNil) m_is_added_text)))) sNext)
noncomputable def sx_has_form_1 : Dn -> Out := (sIf (cVal (b2 (vVar 0) (vC (.str "drop")) dEq)) (sRet (vAnd (b2 (vFn (aCons (vVar 1) aNil) dLen) (vC (.int 1)) dEq) (vCall (aCons (b2 (vVar 1) (vC (.int 0)) dIx) aNil) m_is_dropped))) sNext)
noncomputable def sx_has_form_2 : Dn -> Out := (sIf (cVal (b2 (vVar 0) (vC (.str "mark")) dEq)) (sRet (vAnd (b2 (vFn (aCons (vVar 1) aNil) dLen) (vC (.int 3)) dEq) (vAnd (vCall (aCons (b2 (vVar 1) (vC (.int 0)) dIx) aNil) m_is_name) (vAnd (vCall (aCons (b2 (vVar 1) (vC (.int 1)) dIx) aNil) m_is_anchor) (vCall (aCons (b2 (vVar 1) (vC (.int 2)) dIx) aNil) m_is_anchor))))) sNext)
noncomputable def sx_has_form_3 : Dn -> Out := (sIf (cVal (b2 (vVar 0) (vC (.str "unmark")) dEq)) (sRet (vAnd (b2 (vFn (aCons (vVar 1) aNil) dLen) (vC (.int 1)) dEq) (vCall (aCons (b2 (vVar 1) (vC (.int 0)) dIx) aNil) m_is_name))) sNext)
noncomputable def sx_has_form_4 : Dn -> Out := (sIf (cVal (b2 (vVar 0) (vC (.str "undo")) dEq)) (sRet (vAnd (b2 (vFn (aCons (vVar 1) aNil) dLen) (vC (.int 1)) dEq) (vCall (aCons (b2 (vVar 1) (vC (.int 0)) dIx) aNil) m_is_deed_id))) sNext)
noncomputable def sx_has_form_5 : Dn -> Out := (sRet (vC (.bool false)))
noncomputable def sem_has_form : Dn -> Out := (sSeq sx_has_form_0 (sSeq sx_has_form_1 (sSeq sx_has_form_2 (sSeq sx_has_form_3 (sSeq sx_has_form_4 sx_has_form_5)))))
noncomputable def m_has_form : List PyData -> Res PyData := fnD N_has_form sem_has_form
noncomputable def N_signs_named : List Str := ["deed", "named"]
noncomputable def sx_signs_named_0 : Dn -> Out := (sSet 1 (vLst aNil))
noncomputable def sx_signs_named_1 : Dn -> Out := (sIf (cVal (b2 (b2 (vVar 0) (vC (.int 0)) dIx) (vC (.str "add")) dEq)) (sSet 1 (vLst (aCons (b2 (vVar 0) (vC (.int 2)) dIx) aNil))) (sIf (cVal (b2 (b2 (vVar 0) (vC (.int 0)) dIx) (vC (.str "drop")) dEq)) (sSet 1 (vFn (aCons (b2 (vVar 0) (vC (.int 2)) dIx) aNil) dListF)) (sIf (cVal (b2 (b2 (vVar 0) (vC (.int 0)) dIx) (vC (.str "mark")) dEq)) (sSet 1 (vLst (aCons (b2 (b2 (vVar 0) (vC (.int 3)) dIx) (vC (.int 0)) dIx) (aCons (b2 (b2 (vVar 0) (vC (.int 4)) dIx) (vC (.int 0)) dIx) aNil)))) sNext)))
noncomputable def sx_signs_named_2 : Dn -> Out := (sRet (vLst (lComp (fun δ => ((vVar 1) δ).bind seqOf) bind1 [] (fun δ => ((vVar 0) δ).bind fun d => .ok (!isNone d)) (vVar 0))))
noncomputable def sem_signs_named : Dn -> Out := (sSeq sx_signs_named_0 (sSeq sx_signs_named_1 sx_signs_named_2))
noncomputable def m_signs_named : List PyData -> Res PyData := fnD N_signs_named sem_signs_named
noncomputable def N_deeds_named : List Str := ["deed"]
noncomputable def sem_deeds_named : Dn -> Out := (sSeq (sIf (cVal (b2 (b2 (vVar 0) (vC (.int 0)) dIx) (vC (.str "undo")) dEq)) (sRet (vLst (aCons (b2 (vVar 0) (vC (.int 2)) dIx) aNil))) sNext) (sRet (vLst (lComp (fun δ => ((vCall (aCons (vVar 0) aNil) m_signs_named) δ).bind seqOf) bind1 [] cTrue (b2 (vVar 0) (vC (.int 0)) dIx)))))
noncomputable def m_deeds_named : List PyData -> Res PyData := fnD N_deeds_named sem_deeds_named
noncomputable def N_is_deed : List Str := ["thing"]
noncomputable def sx_is_deed_0 : Dn -> Out := (sIf (cOr (cNot (cVal (b1 (vVar 0) fun d => some (.bool (isTy "tuple" d))))) (cOr (cVal (b2 (vFn (aCons (vVar 0) aNil) dLen) (vC (.int 2)) (dCmp .Lt))) (cNot (cVal (vCall (aCons (b2 (vVar 0) (vC (.int 1)) dIx) aNil) m_is_deed_id))))) (sRet (vC (.bool false))) sNext)
noncomputable def sx_is_deed_1 : Dn -> Out := (sIf (cNot (cVal (vCall (aCons (b2 (vVar 0) (vC (.int 0)) dIx) (aCons (vSl (vVar 0) (oSome (vC (.int 2))) oNone) aNil)) m_has_form))) (sRet (vC (.bool false))) sNext)
noncomputable def sx_is_deed_2 : Dn -> Out := (sRet (vFn (aCons (vLst (lComp (fun δ => ((vCall (aCons (vVar 0) aNil) m_deeds_named) δ).bind seqOf) bind1 [0] cTrue (b2 (b2 (vVar 0) (vC (.int 0)) dIx) (b2 (b2 (vVar 1) (vC (.int 1)) dIx) (vC (.int 0)) dIx) (dCmp .Lt)))) aNil) dAll))
noncomputable def sem_is_deed : Dn -> Out := (sSeq sx_is_deed_0 (sSeq sx_is_deed_1 sx_is_deed_2))
noncomputable def m_is_deed : List PyData -> Res PyData := fnD N_is_deed sem_is_deed
noncomputable def N_signs_added : List Str := ["deed"]
noncomputable def sem_signs_added : Dn -> Out := (sRet (vIf (cVal (b2 (b2 (vVar 0) (vC (.int 0)) dIx) (vC (.str "add")) dEq)) (vFn (aCons (b2 (vVar 0) (vC (.int 3)) dIx) aNil) dLen) (vC (.int 0))))
noncomputable def m_signs_added : List PyData -> Res PyData := fnD N_signs_added sem_signs_added
noncomputable def N_by_ids : List Str := ["deeds"]
noncomputable def sem_by_ids : Dn -> Res Kvs := (xDictF (lComp (fun δ => ((vVar 0) δ).bind seqOf) bind1 [] cTrue (vTup (aCons (b2 (vVar 0) (vC (.int 1)) dIx) (aCons (vVar 0) aNil)))))
noncomputable def m_by_ids : List PyData -> Res Kvs := fnW N_by_ids sem_by_ids
noncomputable def N_has_all_named : List Str := ["known", "deed"]
noncomputable def sem_has_all_named : Dn -> Res PyData := (rIf (cNot (cVal (vFn (aCons (vLst (lComp (fun δ => ((vCall (aCons (vVar 1) aNil) m_deeds_named) δ).bind seqOf) bind1 [0] cTrue (vInD 1 (vVar 0)))) aNil) dAll))) (vC (.bool false)) (vFn (aCons (vLst (lComp (fun δ => ((vCall (aCons (vVar 1) aNil) m_signs_named) δ).bind seqOf) bind1 [0] cTrue (b2 (b2 (vVar 0) (vC (.int 1)) dIx) (vCall (aCons (vGetD 1 (b2 (vVar 0) (vC (.int 0)) dIx)) aNil) m_signs_added) (dCmp .Lt)))) aNil) dAll))
noncomputable def m_has_all_named : List (PyData × PyData) -> PyData -> Res PyData := fnL sem_has_all_named
noncomputable def N_is_book : List Str := ["thing", "known"]
noncomputable def sx_is_book_0 : Dn -> Out := (sIf (cOr (cNot (cVal (b1 (vVar 0) fun d => some (.bool (isTy "tuple" d))))) (cNot (cVal (vFn (aCons (vLst (lComp (fun δ => ((vVar 0) δ).bind seqOf) bind1 [] cTrue (vCall (aCons (vVar 0) aNil) m_is_deed))) aNil) dAll)))) (sRet (vC (.bool false))) sNext)
noncomputable def sx_is_book_1 : Dn -> Out := (sOwnX 1 (xCall (aCons (vVar 0) aNil) m_by_ids))
noncomputable def sx_is_book_2 : Dn -> Out := (sRet (vAnd (vCall (aCons (vLst (lComp (fun δ => ((vVar 0) δ).bind seqOf) bind1 [] cTrue (b2 (vVar 0) (vC (.int 1)) dIx))) aNil) m_is_rising) (vFn (aCons (vLst (lComp (fun δ => ((vVar 0) δ).bind seqOf) bind1 [1] cTrue (vCallL 1 (vVar 0) m_has_all_named))) aNil) dAll)))
noncomputable def sem_is_book : Dn -> Out := (sSeq sx_is_book_0 (sSeq sx_is_book_1 sx_is_book_2))
noncomputable def m_is_book : List PyData -> Res PyData := fnD N_is_book sem_is_book
noncomputable def N_number_in : List Str := ["word"]
noncomputable def sem_number_in : Dn -> Out := (sSeq (sIf (cOr (cNot (cVal (vChain (vC (.int 1)) (vFn (aCons (vVar 0) aNil) dLen) (vC (.int 6)) (dCmp .LtE) (dCmp .LtE)))) (cNot (cVal (vFn (aCons (vLst (lComp (fun δ => ((vVar 0) δ).bind seqOf) bind1 [] cTrue (b2 (vVar 0) (vC (.str "0123456789")) (dIn false)))) aNil) dAll)))) sNo sNext) (sRet (vFn (aCons (vVar 0) aNil) dIntS)))
noncomputable def m_number_in : List PyData -> Res PyData := fnD N_number_in sem_number_in
noncomputable def N_id_in : List Str := ["word"]
noncomputable def sem_id_in : Dn -> Out := (sRet (vTup (aCons (vCall (aCons (vSlS (vVar 0) (oSome (vC (.int 1))) oNone) aNil) m_number_in) (aCons (vSlS (vVar 0) oNone (oSome (vC (.int 1)))) aNil))))
noncomputable def m_id_in : List PyData -> Res PyData := fnD N_id_in sem_id_in
noncomputable def N_sign_in : List Str := ["word", "parts"]
noncomputable def sem_sign_in : Dn -> Out := (sSeq (sIf (cVal (b2 (vVar 0) (vC (.str "-")) dEq)) (sRet (vC .none)) sNext) (sSeq (sSet 1 (vPart (vVar 0) (vC (.str ".")))) (sRet (vTup (aCons (vCall (aCons (b2 (vVar 1) (vC (.int 0)) dIx) aNil) m_id_in) (aCons (vCall (aCons (b2 (vVar 1) (vC (.int 2)) dIx) aNil) m_number_in) aNil))))))
noncomputable def m_sign_in : List PyData -> Res PyData := fnD N_sign_in sem_sign_in
noncomputable def N_anchor_in : List Str := ["word", "side"]
noncomputable def sem_anchor_in : Dn -> Out := (sSeq (sFor (fun _ => .ok ([("l", "<"), ("r", ">")].map fun q => .str q.1)) (st1 1) (sIf (cVal (vEnds (vVar 0) (vGetC [("l", "<"), ("r", ">")] (vVar 1)))) (sRet (vTup (aCons (vCall (aCons (vSlS (vVar 0) oNone (oSome (b1 (vC (.int 1)) dNeg))) aNil) m_sign_in) (aCons (vVar 1) aNil)))) sNext)) sNo)
noncomputable def m_anchor_in : List PyData -> Res PyData := fnD N_anchor_in sem_anchor_in
noncomputable def N_parts_in : List Str := ["word", "rest", "words", "halves"]
noncomputable def sx_parts_in_0 : Dn -> Out := (sSet 2 (vSplit (vVar 1) (vC (.str " "))))
noncomputable def sx_parts_in_1 : Dn -> Out := (sIf (cVal (b2 (vVar 0) (vC (.str "add")) dEq)) (sSeq (sSet 3 (vPart (vVar 1) (vC (.str " ")))) (sRet (vTup (aCons (vCall (aCons (b2 (vVar 3) (vC (.int 0)) dIx) aNil) m_sign_in) (aCons (b2 (vVar 3) (vC (.int 2)) dIx) aNil))))) sNext)
noncomputable def sx_parts_in_2 : Dn -> Out := (sIf (cVal (b2 (vVar 0) (vC (.str "drop")) dEq)) (sRet (vTup (aCons (vFn (aCons (vLst (lComp (fun δ => ((vVar 2) δ).bind seqOf) bind1 [] cTrue (vCall (aCons (vVar 0) aNil) m_sign_in))) aNil) dTupF) aNil))) sNext)
noncomputable def sx_parts_in_3 : Dn -> Out := (sIf (cAnd (cVal (b2 (vVar 0) (vC (.str "mark")) dEq)) (cVal (b2 (vFn (aCons (vVar 2) aNil) dLen) (vC (.int 3)) dEq))) (sRet (vTup (aCons (b2 (vVar 2) (vC (.int 0)) dIx) (aCons (vCall (aCons (b2 (vVar 2) (vC (.int 1)) dIx) aNil) m_anchor_in) (aCons (vCall (aCons (b2 (vVar 2) (vC (.int 2)) dIx) aNil) m_anchor_in) aNil))))) sNext)
noncomputable def sx_parts_in_4 : Dn -> Out := (sIf (cVal (b2 (vVar 0) (vC (.str "unmark")) dEq)) (sRet (vTup (aCons (vVar 1) aNil))) sNext)
noncomputable def sx_parts_in_5 : Dn -> Out := (sIf (cVal (b2 (vVar 0) (vC (.str "undo")) dEq)) (sRet (vTup (aCons (vCall (aCons (vVar 1) aNil) m_id_in) aNil))) sNext)
noncomputable def sx_parts_in_6 : Dn -> Out := sNo
noncomputable def sem_parts_in : Dn -> Out := (sSeq sx_parts_in_0 (sSeq sx_parts_in_1 (sSeq sx_parts_in_2 (sSeq sx_parts_in_3 (sSeq sx_parts_in_4 (sSeq sx_parts_in_5 sx_parts_in_6))))))
noncomputable def m_parts_in : List PyData -> Res PyData := fnD N_parts_in sem_parts_in
noncomputable def N_deed_in : List Str := ["line", "halves", "behind"]
noncomputable def sem_deed_in : Dn -> Out := (sSeq (sSet 1 (vPart (vVar 0) (vC (.str " ")))) (sSeq (sSet 2 (vPart (b2 (vVar 1) (vC (.int 2)) dIx) (vC (.str " ")))) (sRet (b2 (vTup (aCons (b2 (vVar 2) (vC (.int 0)) dIx) (aCons (vCall (aCons (b2 (vVar 1) (vC (.int 0)) dIx) aNil) m_id_in) aNil))) (vCall (aCons (b2 (vVar 2) (vC (.int 0)) dIx) (aCons (b2 (vVar 2) (vC (.int 2)) dIx) aNil)) m_parts_in) dAdd))))
noncomputable def m_deed_in : List PyData -> Res PyData := fnD N_deed_in sem_deed_in
noncomputable def N_read : List Str := ["text", "book"]
noncomputable def sem_read : Dn -> Out := (sSeq (sSet 1 (vFn (aCons (vLst (lComp (fun δ => ((vSl (vSplit (vVar 0) (vC (.str "\n"))) oNone (oSome (b1 (vC (.int 1)) dNeg))) δ).bind seqOf) bind1 [] cTrue (vCall (aCons (vVar 0) aNil) m_deed_in))) aNil) dTupF)) (sSeq (sIf (cOr (cNot (cVal (vCall (aCons (vVar 1) aNil) m_is_book))) (cVal (b2 (vCall (aCons (vVar 1) aNil) m_written) (vVar 0) dNe))) sNo sNext) (sRet (vVar 1))))
noncomputable def m_read : List PyData -> Res PyData := fnD N_read sem_read
noncomputable def N__law_cell : List Str := ["_law_script", "_law_k"]
noncomputable def sem__law_cell : Dn -> Out := (sSeq (sIf (cVal (b2 (vVar 0) (vLst aNil) dEq)) (sRet (b2 (vC (.int 7)) (vVar 1) dMul)) sNext) (sRet (b2 (b2 (vVar 0) (b2 (vVar 1) (vFn (aCons (vVar 0) aNil) dLen) dMod) dIx) (b2 (vC (.int 6553)) (b2 (vVar 1) (vFn (aCons (vVar 0) aNil) dLen) dFdiv) dMul) dAdd)))
noncomputable def m__law_cell : List PyData -> Res PyData := fnD N__law_cell sem__law_cell
noncomputable def N__law_drawn : List Str := ["_law_script", "_law_k", "_law_many", "_law_cell_here"]
noncomputable def sem__law_drawn : Dn -> Out := (sSeq (sSet 3 (b2 (b2 (b2 (b2 (vCall (aCons (vVar 0) (aCons (vVar 1) aNil)) m__law_cell) (vC (.int 2147483563)) dMod) (vC (.int 69069)) dMul) (b2 (vC (.int 104723)) (b2 (vVar 1) (vC (.int 1)) dAdd) dMul) dAdd) (vC (.int 2147483563)) dMod)) (sSeq (sSet 3 (b2 (b2 (b2 (vVar 3) (vVar 3) dMul) (b2 (vVar 3) (vC (.int 3)) dFdiv) dAdd) (vC (.int 2147483399)) dMod)) (sRet (b2 (b2 (b2 (b2 (b2 (vVar 3) (vVar 3) dMul) (b2 (vVar 3) (vC (.int 7)) dFdiv) dAdd) (vC (.int 2147483647)) dMod) (vC (.int 11)) dFdiv) (vVar 2) dMod))))
noncomputable def m__law_drawn : List PyData -> Res PyData := fnD N__law_drawn sem__law_drawn
noncomputable def N__law_names : List Str := ["_law_script", "_law_at", "_law_found", "_law_k", "_law_word"]
noncomputable def sx__law_names_0 : Dn -> Out := (sOwn 2 aNil)
noncomputable def sx__law_names_1 : Dn -> Out := (sFor (fun δ => ((aCons (vC (.int 3)) aNil) δ).bind rng1) (st1 3) (sSeq (sSet 4 (b2 (b2 (vC (.str "abcdefghijklmnopqrstuvwxyz")) (vCall (aCons (vVar 0) (aCons (b2 (vVar 1) (b2 (vC (.int 2)) (vVar 3) dMul) dAdd) (aCons (vC (.int 26)) aNil))) m__law_drawn) dIx) (vCall (aCons (vVar 0) (aCons (b2 (b2 (vVar 1) (b2 (vC (.int 2)) (vVar 3) dMul) dAdd) (vC (.int 1)) dAdd) (aCons (vC (.int 2)) aNil))) m__law_drawn) dMul)) (sApp 2 (b2 (vLst (aCons (b2 (vVar 4) (b2 (vC (.str "xyz")) (vVar 3) dIx) dAdd) (aCons (b2 (b2 (vC (.str "xyz")) (vVar 3) dIx) (vVar 4) dAdd) aNil))) (vCall (aCons (vVar 0) (aCons (b2 (vVar 1) (vC (.int 6)) dAdd) (aCons (vC (.int 2)) aNil))) m__law_drawn) dIx))))
noncomputable def sx__law_names_2 : Dn -> Out := (sFz 2 (sRet (vVar 2)))
noncomputable def sem__law_names : Dn -> Out := (sSeq sx__law_names_0 (sSeq sx__law_names_1 sx__law_names_2))
noncomputable def m__law_names : List PyData -> Res PyData := fnD N__law_names sem__law_names
noncomputable def N__law_words : List Str := ["_law_script", "_law_at"]
noncomputable def sem__law_words : Dn -> Out := (sRet (vJoin "" (vLst (lComp (fun δ => ((aCons (b2 (vC (.int 1)) (vCall (aCons (vVar 0) (aCons (b2 (vVar 1) (vC (.int 4)) dAdd) (aCons (vC (.int 4)) aNil))) m__law_drawn) dAdd) aNil) δ).bind rng1) bind1 [0, 1] cTrue (b2 (vC (.str "ab cd~ <")) (vCall (aCons (vVar 1) (aCons (b2 (vVar 2) (vVar 0) dAdd) (aCons (vC (.int 8)) aNil))) m__law_drawn) dIx)))))
noncomputable def m__law_words : List PyData -> Res PyData := fnD N__law_words sem__law_words
noncomputable def N__law_signs : List Str := ["_law_book_here", "_law_found", "_law_deed_here"]
noncomputable def sem__law_signs : Dn -> Out := (sSeq (sSet 1 (vLst aNil)) (sSeq (sFor (fun δ => ((vVar 0) δ).bind seqOf) (st1 2) (sIf (cVal (b2 (b2 (vVar 2) (vC (.int 0)) dIx) (vC (.str "add")) dEq)) (sSet 1 (b2 (vVar 1) (vLst (lComp (fun δ => ((aCons (vFn (aCons (b2 (vVar 2) (vC (.int 3)) dIx) aNil) dLen) aNil) δ).bind rng1) bind1 [2] cTrue (vTup (aCons (b2 (vVar 1) (vC (.int 1)) dIx) (aCons (vVar 0) aNil))))) dAdd)) sNext)) (sRet (vVar 1))))
noncomputable def m__law_signs : List PyData -> Res PyData := fnD N__law_signs sem__law_signs
noncomputable def N__law_anchor : List Str := ["_law_script", "_law_at", "_law_signs_here", "_law_sign"]
noncomputable def sem__law_anchor : Dn -> Out := (sSeq (sSet 3 (b2 (b2 (vLst (aCons (vC .none) aNil)) (vVar 2) dAdd) (vCall (aCons (vVar 0) (aCons (vVar 1) (aCons (b2 (vFn (aCons (vVar 2) aNil) dLen) (vC (.int 1)) dAdd) aNil))) m__law_drawn) dIx)) (sRet (vTup (aCons (vVar 3) (aCons (b2 (vC (.str "lr")) (vCall (aCons (vVar 0) (aCons (b2 (vVar 1) (vC (.int 1)) dAdd) (aCons (vC (.int 2)) aNil))) m__law_drawn) dIx) aNil)))))
noncomputable def m__law_anchor : List PyData -> Res PyData := fnD N__law_anchor sem__law_anchor
noncomputable def N__law_deed : List Str := ["_law_script", "_law_at", "_law_one", "_law_known", "_law_names_here", "_law_signs_here", "_law_way", "_law_behind", "_law_some", "_law_ends"]
noncomputable def sx__law_deed_0 : Dn -> Out := (sSet 5 (vCall (aCons (vVar 3) aNil) m__law_signs))
noncomputable def sx__law_deed_1 : Dn -> Out := (sSet 6 (vCall (aCons (vVar 0) (aCons (vVar 1) (aCons (vC (.int 12)) aNil))) m__law_drawn))
noncomputable def sx__law_deed_2 : Dn -> Out := (sIf (cAnd (cVal (b2 (vVar 6) (vC (.int 2)) (dCmp .Lt))) (cVal (b2 (vVar 5) (vLst aNil) dNe))) (sSeq (sNew 8 (lComp (fun δ => ((aCons (vVar 5) aNil) δ).bind enum1) bind2 [0, 1] (cVal (b2 (vCall (aCons (vVar 2) (aCons (b2 (b2 (vVar 3) (vC (.int 20)) dAdd) (vVar 0) dAdd) (aCons (vC (.int 4)) aNil))) m__law_drawn) (vC (.int 0)) dEq)) (vVar 1))) (sRet (vTup (aCons (vC (.str "drop")) (aCons (vVar 2) (aCons (vFn (aCons (b2 (vVar 8) (b2 (vSl (vVar 5) oNone (oSome (vC (.int 1)))) (vFn (aCons (b2 (vVar 8) (vLst aNil) dEq) aNil) dIntF) dMul) dAdd) aNil) dTupF) aNil)))))) sNext)
noncomputable def sx__law_deed_3 : Dn -> Out := (sIf (cVal (b2 (vVar 6) (vC (.int 5)) (dCmp .Lt))) (sSeq (sSet 9 (vTup (aCons (vCall (aCons (vVar 0) (aCons (b2 (vVar 1) (vC (.int 1)) dAdd) (aCons (vVar 5) aNil))) m__law_anchor) (aCons (vCall (aCons (vVar 0) (aCons (b2 (vVar 1) (vC (.int 3)) dAdd) (aCons (vVar 5) aNil))) m__law_anchor) aNil)))) (sRet (b2 (vTup (aCons (vC (.str "mark")) (aCons (vVar 2) (aCons (b2 (vVar 4) (vCall (aCons (vVar 0) (aCons (b2 (vVar 1) (vC (.int 5)) dAdd) (aCons (vC (.int 3)) aNil))) m__law_drawn) dIx) aNil)))) (vVar 9) dAdd))) sNext)
noncomputable def sx__law_deed_4 : Dn -> Out := (sIf (cVal (b2 (vVar 6) (vC (.int 5)) dEq)) (sRet (vTup (aCons (vC (.str "unmark")) (aCons (vVar 2) (aCons (b2 (vVar 4) (vCall (aCons (vVar 0) (aCons (b2 (vVar 1) (vC (.int 5)) dAdd) (aCons (vC (.int 3)) aNil))) m__law_drawn) dIx) aNil))))) sNext)
noncomputable def sx__law_deed_5 : Dn -> Out := (sIf (cAnd (cVal (b2 (vVar 6) (vC (.int 8)) (dCmp .Lt))) (cVal (b2 (vVar 3) (vTup aNil) dNe))) (sRet (vTup (aCons (vC (.str "undo")) (aCons (vVar 2) (aCons (b2 (b2 (vVar 3) (vCall (aCons (vVar 0) (aCons (b2 (vVar 1) (vC (.int 6)) dAdd) (aCons (vFn (aCons (vVar 3) aNil) dLen) aNil))) m__law_drawn) dIx) (vC (.int 1)) dIx) aNil))))) sNext)
noncomputable def sx__law_deed_6 : Dn -> Out := (sSet 7 (b2 (b2 (b2 (vLst (aCons (vC .none) aNil)) (vVar 5) dAdd) (vSl (vVar 5) (oSome (b1 (vC (.int 3)) dNeg)) oNone) dAdd) (vCall (aCons (vVar 0) (aCons (b2 (vVar 1) (vC (.int 7)) dAdd) (aCons (b2 (b2 (vFn (aCons (vVar 5) aNil) dLen) (vC (.int 1)) dAdd) (vFn (aCons (vSl (vVar 5) (oSome (b1 (vC (.int 3)) dNeg)) oNone) aNil) dLen) dAdd) aNil))) m__law_drawn) dIx))
noncomputable def sx__law_deed_7 : Dn -> Out := (sRet (vTup (aCons (vC (.str "add")) (aCons (vVar 2) (aCons (vVar 7) (aCons (vCall (aCons (vVar 0) (aCons (b2 (vVar 1) (vC (.int 8)) dAdd) aNil)) m__law_words) aNil))))))
noncomputable def sem__law_deed : Dn -> Out := (sSeq sx__law_deed_0 (sSeq sx__law_deed_1 (sSeq sx__law_deed_2 (sSeq sx__law_deed_3 (sSeq sx__law_deed_4 (sSeq sx__law_deed_5 (sSeq sx__law_deed_6 sx__law_deed_7)))))))
noncomputable def m__law_deed : List PyData -> Res PyData := fnD N__law_deed sem__law_deed
noncomputable def N__law_book : List Str := ["_law_script", "_law_at", "_law_most", "_law_names_here", "_law_found", "_law_one", "_law_k", "_law_time", "_law_hand", "_law_known"]
noncomputable def sx__law_book_0 : Dn -> Out := (sSet 4 (vTup aNil))
noncomputable def sx__law_book_1 : Dn -> Out := (sSet 5 (vTup (aCons (vC (.int 1)) (aCons (vC (.str "a")) aNil))))
noncomputable def sx__law_book_2 : Dn -> Out := (sFor (fun δ => ((aCons (vCall (aCons (vVar 0) (aCons (vVar 1) (aCons (b2 (vVar 2) (vC (.int 1)) dAdd) aNil))) m__law_drawn) aNil) δ).bind rng1) (st1 6) (sSeq (sSet 7 (b2 (b2 (vVar 5) (vC (.int 0)) dIx) (vCall (aCons (vVar 0) (aCons (b2 (b2 (vVar 1) (vC (.int 1)) dAdd) (b2 (vC (.int 60)) (vVar 6) dMul) dAdd) (aCons (vC (.int 2)) aNil))) m__law_drawn) dAdd)) (sSeq (sSet 8 (b2 (vC (.str "abc")) (vCall (aCons (vVar 0) (aCons (b2 (b2 (vVar 1) (vC (.int 2)) dAdd) (b2 (vC (.int 60)) (vVar 6) dMul) dAdd) (aCons (vC (.int 3)) aNil))) m__law_drawn) dIx)) (sSeq (sIf (cAnd (cVal (b2 (vVar 4) (vTup aNil) dNe)) (cVal (b2 (vTup (aCons (vVar 7) (aCons (vVar 8) aNil))) (vVar 5) (dCmp .LtE)))) (sSet 7 (b2 (b2 (vVar 5) (vC (.int 0)) dIx) (vC (.int 1)) dAdd)) sNext) (sSeq (sSet 5 (vTup (aCons (vVar 7) (aCons (vVar 8) aNil)))) (sSeq (sSet 9 (vFn (aCons (vLst (lComp (fun δ => ((vVar 4) δ).bind seqOf) bind1 [7] (cVal (b2 (b2 (b2 (vVar 0) (vC (.int 1)) dIx) (vC (.int 0)) dIx) (vVar 1) (dCmp .Lt))) (vVar 0))) aNil) dTupF)) (sSet 4 (b2 (vVar 4) (vTup (aCons (vCall (aCons (vVar 0) (aCons (b2 (b2 (vVar 1) (vC (.int 3)) dAdd) (b2 (vC (.int 60)) (vVar 6) dMul) dAdd) (aCons (vVar 5) (aCons (vVar 9) (aCons (vVar 3) aNil))))) m__law_deed) aNil)) dAdd))))))))
noncomputable def sx__law_book_3 : Dn -> Out := (sRet (vVar 4))
noncomputable def sem__law_book : Dn -> Out := (sSeq sx__law_book_0 (sSeq sx__law_book_1 (sSeq sx__law_book_2 sx__law_book_3)))
noncomputable def m__law_book : List PyData -> Res PyData := fnD N__law_book sem__law_book
noncomputable def N__law_id_text : List Str := ["_law_one"]
noncomputable def sem__law_id_text : Dn -> Out := (sRet (b2 (b2 (vVar 0) (vC (.int 1)) dIx) (vFn (aCons (b2 (vVar 0) (vC (.int 0)) dIx) aNil) dStrF) dAdd))
noncomputable def m__law_id_text : List PyData -> Res PyData := fnD N__law_id_text sem__law_id_text
noncomputable def N__law_sign_text : List Str := ["_law_sign"]
noncomputable def sem__law_sign_text : Dn -> Out := (sSeq (sIf (fun δ => ((vVar 0) δ).bind fun d => .ok (isNone d)) (sRet (vC (.str "-"))) sNext) (sRet (b2 (b2 (vCall (aCons (b2 (vVar 0) (vC (.int 0)) dIx) aNil) m__law_id_text) (vC (.str ".")) dAdd) (vFn (aCons (b2 (vVar 0) (vC (.int 1)) dIx) aNil) dStrF) dAdd)))
noncomputable def m__law_sign_text : List PyData -> Res PyData := fnD N__law_sign_text sem__law_sign_text
noncomputable def N__law_line : List Str := ["_law_deed_here", "_law_found", "_law_anchor_here"]
noncomputable def sx__law_line_0 : Dn -> Out := (sSet 1 (b2 (b2 (vCall (aCons (b2 (vVar 0) (vC (.int 1)) dIx) aNil) m__law_id_text) (vC (.str " ")) dAdd) (b2 (vVar 0) (vC (.int 0)) dIx) dAdd))
noncomputable def sx__law_line_1 : Dn -> Out := (sIf (cVal (b2 (b2 (vVar 0) (vC (.int 0)) dIx) (vC (.str "add")) dEq)) (sRet (b2 (b2 (b2 (b2 (vVar 1) (vC (.str " ")) dAdd) (vCall (aCons (b2 (vVar 0) (vC (.int 2)) dIx) aNil) m__law_sign_text) dAdd) (vC (.str " ")) dAdd) (b2 (vVar 0) (vC (.int 3)) dIx) dAdd)) sNext)
noncomputable def sx__law_line_2 : Dn -> Out := (sIf (cVal (b2 (b2 (vVar 0) (vC (.int 0)) dIx) (vC (.str "drop")) dEq)) (sRet (b2 (vVar 1) (vJoin "" (vLst (lComp (fun δ => ((b2 (vVar 0) (vC (.int 2)) dIx) δ).bind seqOf) bind1 [] cTrue (b2 (vC (.str " ")) (vCall (aCons (vVar 0) aNil) m__law_sign_text) dAdd)))) dAdd)) sNext)
noncomputable def sx__law_line_3 : Dn -> Out := (sIf (cVal (b2 (b2 (vVar 0) (vC (.int 0)) dIx) (vC (.str "undo")) dEq)) (sRet (b2 (b2 (vVar 1) (vC (.str " ")) dAdd) (vCall (aCons (b2 (vVar 0) (vC (.int 2)) dIx) aNil) m__law_id_text) dAdd)) sNext)
noncomputable def sx__law_line_4 : Dn -> Out := (sSet 1 (b2 (b2 (vVar 1) (vC (.str " ")) dAdd) (b2 (vVar 0) (vC (.int 2)) dIx) dAdd))
noncomputable def sx__law_line_5 : Dn -> Out := (sFor (fun δ => ((vSl (vVar 0) (oSome (vC (.int 3))) oNone) δ).bind seqOf) (st1 2) (sSet 1 (b2 (b2 (b2 (vVar 1) (vC (.str " ")) dAdd) (vCall (aCons (b2 (vVar 2) (vC (.int 0)) dIx) aNil) m__law_sign_text) dAdd) (b2 (vC (.str "<>")) (vFn (aCons (b2 (b2 (vVar 2) (vC (.int 1)) dIx) (vC (.str "r")) dEq) aNil) dIntF) dIx) dAdd)))
noncomputable def sx__law_line_6 : Dn -> Out := (sRet (vVar 1))
noncomputable def sem__law_line : Dn -> Out := (sSeq sx__law_line_0 (sSeq sx__law_line_1 (sSeq sx__law_line_2 (sSeq sx__law_line_3 (sSeq sx__law_line_4 (sSeq sx__law_line_5 sx__law_line_6))))))
noncomputable def m__law_line : List PyData -> Res PyData := fnD N__law_line sem__law_line
noncomputable def N_law : List Str := ["_law_script", "_law_book_here", "_law_told"]
noncomputable def sx_law_0 : Dn -> Out := (sSet 1 (vCall (aCons (vVar 0) (aCons (vC (.int 10)) (aCons (vC (.int 9)) (aCons (vCall (aCons (vVar 0) (aCons (vC (.int 0)) aNil)) m__law_names) aNil)))) m__law_book))
noncomputable def sx_law_1 : Dn -> Out := (sSet 2 (vCall (aCons (vVar 1) aNil) m_written))
noncomputable def sx_law_2 : Dn -> Out := (sRet (vAnd (b2 (vVar 2) (vJoin "" (vLst (lComp (fun δ => ((vVar 1) δ).bind seqOf) bind1 [] cTrue (b2 (vCall (aCons (vVar 0) aNil) m__law_line) (vC (.str "\n")) dAdd)))) dEq) (b2 (vCall (aCons (vVar 2) aNil) m_read) (vVar 1) dEq)))
noncomputable def sem_law : Dn -> Out := (sSeq sx_law_0 (sSeq sx_law_1 sx_law_2))
noncomputable def m_law : List PyData -> Res PyData := fnD N_law sem_law
end Sm
end
section
set_option Elab.async false
set_option linter.all false
set_option maxRecDepth 100000
set_option maxHeartbeats 4000000
set_option autoImplicit false
namespace Sm
open PySem PySem.Spec PyProof.Rows L2
variable {P : Program} {w : World} {K : PySem.W.Frag} {mg : Str -> Option Value} {base : Heap} {X : Cx}
theorem sc_written_id : FnScope N_written_id ["which"] (defScope (top 2)) := ⟨rfl, rfl, rfl, by decide +kernel, rfl, by decide +kernel, by decide +kernel⟩
theorem body_written_id  (T : Txt mg) (C : Cxt P w K mg base X N_written_id (defScope (top 2)) 0 true) : DSs X E0k (defBody (top 2)) sem_written_id :=
  (ss_one (s_ret (d_add (d_ix (d_var C 0 (by kernel_rfl)) d_int) (d_strF C (by kernel_rfl) T.b_str (a_cons (d_ix (d_var C 0 (by kernel_rfl)) d_int) a_nil)))))
theorem sc_written_sign : FnScope N_written_sign ["sign"] (defScope (top 3)) := ⟨rfl, rfl, rfl, by decide +kernel, rfl, by decide +kernel, by decide +kernel⟩
theorem body_written_sign  (T : Txt mg) (F_written_id : Fn P w K mg base "written_id" 1 1 m_written_id) (C : Cxt P w K mg base X N_written_sign (defScope (top 3)) 1 true) : DSs X E0k (defBody (top 3)) sem_written_sign :=
  (ss_cons (s_if (t_isN (d_var C 0 (by kernel_rfl))) (ss_one (s_ret d_str)) ss_nil) (ss_one (s_ret (d_add (d_add (d_call C F_written_id (by decide) (by kernel_rfl) (a_cons (d_ix (d_var C 0 (by kernel_rfl)) d_int) a_nil)) d_str) (d_strF C (by kernel_rfl) T.b_str (a_cons (d_ix (d_var C 0 (by kernel_rfl)) d_int) a_nil))))))
theorem sc_written_anchor : FnScope N_written_anchor ["anchor"] (defScope (top 4)) := ⟨rfl, rfl, rfl, by decide +kernel, rfl, by decide +kernel, by decide +kernel⟩
theorem body_written_anchor  (T : Txt mg) (DC_SIDE_SIGNS : HasC P w K mg "SIDE_SIGNS" [("l", "<"), ("r", ">")]) (F_written_sign : Fn P w K mg base "written_sign" 2 1 m_written_sign) (C : Cxt P w K mg base X N_written_anchor (defScope (top 4)) 2 true) : DSs X E0k (defBody (top 4)) sem_written_anchor :=
  (ss_one (s_ret (d_add (d_call C F_written_sign (by decide) (by kernel_rfl) (a_cons (d_ix (d_var C 0 (by kernel_rfl)) d_int) a_nil)) (d_getH C (by kernel_rfl) DC_SIDE_SIGNS (d_ix (d_var C 0 (by kernel_rfl)) d_int)))))
theorem sc_words_behind : FnScope N_words_behind ["deed"] (defScope (top 5)) := ⟨rfl, rfl, rfl, by decide +kernel, rfl, by decide +kernel, by decide +kernel⟩
theorem st_words_behind_0  (T : Txt mg) (F_written_anchor : Fn P w K mg base "written_anchor" 3 1 m_written_anchor) (F_written_id : Fn P w K mg base "written_id" 1 1 m_written_id) (F_written_sign : Fn P w K mg base "written_sign" 2 1 m_written_sign) (C : Cxt P w K mg base X N_words_behind (defScope (top 5)) 3 true) : DS X E0k (stm 5 0) sx_words_behind_0 :=
  (s_if (t_eq C (d_ix (d_var C 0 (by kernel_rfl)) d_int) d_str) (ss_one (s_ret (d_new (f_lst (a_cons (d_call C F_written_sign (by decide) (by kernel_rfl) (a_cons (d_ix (d_var C 0 (by kernel_rfl)) d_int) a_nil)) (a_cons (d_ix (d_var C 0 (by kernel_rfl)) d_int) a_nil)))))) ss_nil)
theorem st_words_behind_1  (T : Txt mg) (F_written_anchor : Fn P w K mg base "written_anchor" 3 1 m_written_anchor) (F_written_id : Fn P w K mg base "written_id" 1 1 m_written_id) (F_written_sign : Fn P w K mg base "written_sign" 2 1 m_written_sign) (C : Cxt P w K mg base X N_words_behind (defScope (top 5)) 3 true) : DS X E0k (stm 5 1) sx_words_behind_1 :=
  (s_if (t_eq C (d_ix (d_var C 0 (by kernel_rfl)) d_int) d_str) (ss_one (s_ret (d_new (f_comp1 C [] [] (by kernel_rfl) (i_seq (d_ix (d_var C 0 (by kernel_rfl)) d_int)) (fun X' C' => ts_nil) (fun X' C' => (d_call C' F_written_sign (by decide) (by kernel_rfl) (a_cons (d_var C' 0 (by kernel_rfl)) a_nil))))))) ss_nil)
theorem st_words_behind_2  (T : Txt mg) (F_written_anchor : Fn P w K mg base "written_anchor" 3 1 m_written_anchor) (F_written_id : Fn P w K mg base "written_id" 1 1 m_written_id) (F_written_sign : Fn P w K mg base "written_sign" 2 1 m_written_sign) (C : Cxt P w K mg base X N_words_behind (defScope (top 5)) 3 true) : DS X E0k (stm 5 2) sx_words_behind_2 :=
  (s_if (t_eq C (d_ix (d_var C 0 (by kernel_rfl)) d_int) d_str) (ss_one (s_ret (d_new (f_lst (a_cons (d_ix (d_var C 0 (by kernel_rfl)) d_int) (a_cons (d_call C F_written_anchor (by decide) (by kernel_rfl) (a_cons (d_ix (d_var C 0 (by kernel_rfl)) d_int) a_nil)) (a_cons (d_call C F_written_anchor (by decide) (by kernel_rfl) (a_cons (d_ix (d_var C 0 (by kernel_rfl)) d_int) a_nil)) a_nil))))))) ss_nil)
theorem st_words_behind_3  (T : Txt mg) (F_written_anchor : Fn P w K mg base "written_anchor" 3 1 m_written_anchor) (F_written_id : Fn P w K mg base "written_id" 1 1 m_written_id) (F_written_sign : Fn P w K mg base "written_sign" 2 1 m_written_sign) (C : Cxt P w K mg base X N_words_behind (defScope (top 5)) 3 true) : DS X E0k (stm 5 3) sx_words_behind_3 :=
  (s_if (t_eq C (d_ix (d_var C 0 (by kernel_rfl)) d_int) d_str) (ss_one (s_ret (d_new (f_lst (a_cons (d_ix (d_var C 0 (by kernel_rfl)) d_int) a_nil))))) ss_nil)
theorem st_words_behind_4  (T : Txt mg) (F_written_anchor : Fn P w K mg base "written_anchor" 3 1 m_written_anchor) (F_written_id : Fn P w K mg base "written_id" 1 1 m_written_id) (F_written_sign : Fn P w K mg base "written_sign" 2 1 m_written_sign) (C : Cxt P w K mg base X N_words_behind (defScope (top 5)) 3 true) : DS X E0k (stm 5 4) sx_words_behind_4 :=
  (s_ret (d_new (f_lst (a_cons (d_call C F_written_id (by decide) (by kernel_rfl) (a_cons (d_ix (d_var C 0 (by kernel_rfl)) d_int) a_nil)) a_nil))))
theorem body_words_behind  (T : Txt mg) (F_written_anchor : Fn P w K mg base "written_anchor" 3 1 m_written_anchor) (F_written_id : Fn P w K mg base "written_id" 1 1 m_written_id) (F_written_sign : Fn P w K mg base "written_sign" 2 1 m_written_sign) (C : Cxt P w K mg base X N_words_behind (defScope (top 5)) 3 true) : DSs X E0k (defBody (top 5)) sem_words_behind := by
  have h : defBody (top 5) = [stm 5 0, stm 5 1, stm 5 2, stm 5 3, stm 5 4] := by kernel_rfl
  rw [h]
  exact (ss_cons (st_words_behind_0 T F_written_anchor F_written_id F_written_sign C) (ss_cons (st_words_behind_1 T F_written_anchor F_written_id F_written_sign C) (ss_cons (st_words_behind_2 T F_written_anchor F_written_id F_written_sign C) (ss_cons (st_words_behind_3 T F_written_anchor F_written_id F_written_sign C) (ss_one (st_words_behind_4 T F_written_anchor F_written_id F_written_sign C))))))
theorem sc_written_deed : FnScope N_written_deed ["deed"] (defScope (top 6)) := ⟨rfl, rfl, rfl, by decide +kernel, rfl, by decide +kernel, by decide +kernel⟩
theorem body_written_deed  (T : Txt mg) (F_words_behind : Fn P w K mg base "words_behind" 4 1 m_words_behind) (F_written_id : Fn P w K mg base "written_id" 1 1 m_written_id) (C : Cxt P w K mg base X N_written_deed (defScope (top 6)) 4 true) : DSs X E0k (defBody (top 6)) sem_written_deed :=
  (ss_one (s_ret (d_add (d_join (d_add (d_new (f_lst (a_cons (d_call C F_written_id (by decide) (by kernel_rfl) (a_cons (d_ix (d_var C 0 (by kernel_rfl)) d_int) a_nil)) (a_cons (d_ix (d_var C 0 (by kernel_rfl)) d_int) a_nil)))) (d_call C F_words_behind (by decide) (by kernel_rfl) (a_cons (d_var C 0 (by kernel_rfl)) a_nil)))) d_str)))
theorem sc_written : FnScope N_written ["book"] (defScope (top 7)) := ⟨rfl, rfl, rfl, by decide +kernel, rfl, by decide +kernel, by decide +kernel⟩
theorem body_written  (T : Txt mg) (F_written_deed : Fn P w K mg base "written_deed" 5 1 m_written_deed) (C : Cxt P w K mg base X N_written (defScope (top 7)) 5 true) : DSs X E0k (defBody (top 7)) sem_written :=
  (ss_one (s_ret (d_join (d_new (f_comp1 C [] [] (by kernel_rfl) (i_seq (d_var C 0 (by kernel_rfl))) (fun X' C' => ts_nil) (fun X' C' => (d_call C' F_written_deed (by decide) (by kernel_rfl) (a_cons (d_var C' 0 (by kernel_rfl)) a_nil))))))))
theorem sc_is_whole : FnScope N_is_whole ["thing", "least"] (defScope (top 14)) := ⟨rfl, rfl, rfl, by decide +kernel, rfl, by decide +kernel, by decide +kernel⟩
theorem body_is_whole  (T : Txt mg) (C : Cxt P w K mg base X N_is_whole (defScope (top 14)) 0 true) : DSs X E0k (defBody (top 14)) sem_is_whole :=
  (ss_one (s_ret (d_and (d_isinst C (by kernel_rfl) T.b_isinstance (by kernel_rfl) T.b_int (by decide +kernel) (by kernel_rfl) (d_var C 0 (by kernel_rfl))) (d_and (d_not (d_isinst C (by kernel_rfl) T.b_isinstance (by kernel_rfl) T.b_bool (by decide +kernel) (by kernel_rfl) (d_var C 0 (by kernel_rfl)))) (d_one (d_ge C (d_var C 0 (by kernel_rfl)) (d_var C 1 (by kernel_rfl))))))))
theorem sc_is_one_of : FnScope N_is_one_of ["thing", "letters"] (defScope (top 15)) := ⟨rfl, rfl, rfl, by decide +kernel, rfl, by decide +kernel, by decide +kernel⟩
theorem body_is_one_of  (T : Txt mg) (C : Cxt P w K mg base X N_is_one_of (defScope (top 15)) 0 true) : DSs X E0k (defBody (top 15)) sem_is_one_of :=
  (ss_one (s_ret (d_and (d_isinst C (by kernel_rfl) T.b_isinstance (by kernel_rfl) T.b_str (by decide +kernel) (by kernel_rfl) (d_var C 0 (by kernel_rfl))) (d_and (d_eq C (d_len C (by kernel_rfl) T.b_len (a_cons (d_var C 0 (by kernel_rfl)) a_nil)) d_int) (d_one (d_in C (d_var C 0 (by kernel_rfl)) (d_var C 1 (by kernel_rfl))))))))
theorem sc_is_text : FnScope N_is_text ["thing", "most", "first", "last"] (defScope (top 16)) := ⟨rfl, rfl, rfl, by decide +kernel, rfl, by decide +kernel, by decide +kernel⟩
theorem body_is_text  (T : Txt mg) (C : Cxt P w K mg base X N_is_text (defScope (top 16)) 0 true) : DSs X E0k (defBody (top 16)) sem_is_text :=
  (ss_cons (s_if (w_t (w_or (t_not (t_val (d_isinst C (by kernel_rfl) T.b_isinstance (by kernel_rfl) T.b_str (by decide +kernel) (by kernel_rfl) (d_var C 0 (by kernel_rfl))))) (w_or1 (t_not (t_chainLe C d_int (d_len C (by kernel_rfl) T.b_len (a_cons (d_var C 0 (by kernel_rfl)) a_nil)) (d_var C 1 (by kernel_rfl))))))) (ss_one (s_ret d_bool)) ss_nil) (ss_one (s_ret (d_all C (by kernel_rfl) T.b_all (a_cons (d_new (f_comp1 C [2, 3] ["first", "last"] (by kernel_rfl) (i_seq (d_var C 0 (by kernel_rfl))) (fun X' C' => ts_nil) (fun X' C' => (d_chainLe C' (d_var C' 1 (by kernel_rfl)) (d_var C' 0 (by kernel_rfl)) (d_var C' 2 (by kernel_rfl)))))) a_nil)))))
theorem sc_is_name : FnScope N_is_name ["thing"] (defScope (top 17)) := ⟨rfl, rfl, rfl, by decide +kernel, rfl, by decide +kernel, by decide +kernel⟩
theorem body_is_name  (T : Txt mg) (F_is_text : Fn P w K mg base "is_text" 1 4 m_is_text) (C : Cxt P w K mg base X N_is_name (defScope (top 17)) 1 true) : DSs X E0k (defBody (top 17)) sem_is_name :=
  (ss_one (s_ret (d_call C F_is_text (by decide) (by kernel_rfl) (a_cons (d_var C 0 (by kernel_rfl)) (a_cons (d_globI C (by kernel_rfl) T.c_LONGEST_NAME) (a_cons d_str (a_cons d_str a_nil)))))))
theorem sc_is_added_text : FnScope N_is_added_text ["thing"] (defScope (top 18)) := ⟨rfl, rfl, rfl, by decide +kernel, rfl, by decide +kernel, by decide +kernel⟩
theorem body_is_added_text  (T : Txt mg) (F_is_text : Fn P w K mg base "is_text" 1 4 m_is_text) (C : Cxt P w K mg base X N_is_added_text (defScope (top 18)) 1 true) : DSs X E0k (defBody (top 18)) sem_is_added_text :=
  (ss_one (s_ret (d_call C F_is_text (by decide) (by kernel_rfl) (a_cons (d_var C 0 (by kernel_rfl)) (a_cons (d_globI C (by kernel_rfl) T.c_MOST_ADDED) (a_cons d_str (a_cons d_str a_nil)))))))
theorem sc_is_pair : FnScope N_is_pair ["thing"] (defScope (top 19)) := ⟨rfl, rfl, rfl, by decide +kernel, rfl, by decide +kernel, by decide +kernel⟩
theorem body_is_pair  (T : Txt mg) (C : Cxt P w K mg base X N_is_pair (defScope (top 19)) 0 true) : DSs X E0k (defBody (top 19)) sem_is_pair :=
  (ss_one (s_ret (d_and (d_isinst C (by kernel_rfl) T.b_isinstance (by kernel_rfl) T.b_tuple (by decide +kernel) (by kernel_rfl) (d_var C 0 (by kernel_rfl))) (d_one (d_eq C (d_len C (by kernel_rfl) T.b_len (a_cons (d_var C 0 (by kernel_rfl)) a_nil)) d_int)))))
theorem sc_is_deed_id : FnScope N_is_deed_id ["thing"] (defScope (top 20)) := ⟨rfl, rfl, rfl, by decide +kernel, rfl, by decide +kernel, by decide +kernel⟩
theorem body_is_deed_id  (T : Txt mg) (F_is_one_of : Fn P w K mg base "is_one_of" 1 2 m_is_one_of) (F_is_pair : Fn P w K mg base "is_pair" 1 1 m_is_pair) (F_is_whole : Fn P w K mg base "is_whole" 1 2 m_is_whole) (C : Cxt P w K mg base X N_is_deed_id (defScope (top 20)) 1 true) : DSs X E0k (defBody (top 20)) sem_is_deed_id :=
  (ss_one (s_ret (d_and (d_call C F_is_pair (by decide) (by kernel_rfl) (a_cons (d_var C 0 (by kernel_rfl)) a_nil)) (d_and (d_call C F_is_whole (by decide) (by kernel_rfl) (a_cons (d_ix (d_var C 0 (by kernel_rfl)) d_int) (a_cons d_int a_nil))) (d_one (d_call C F_is_one_of (by decide) (by kernel_rfl) (a_cons (d_ix (d_var C 0 (by kernel_rfl)) d_int) (a_cons (d_globS (z := "abcdefgh") C (by kernel_rfl) T.c_HANDS) a_nil))))))))
theorem sc_is_sign_id : FnScope N_is_sign_id ["thing"] (defScope (top 21)) := ⟨rfl, rfl, rfl, by decide +kernel, rfl, by decide +kernel, by decide +kernel⟩
theorem body_is_sign_id  (T : Txt mg) (F_is_deed_id : Fn P w K mg base "is_deed_id" 2 1 m_is_deed_id) (F_is_pair : Fn P w K mg base "is_pair" 1 1 m_is_pair) (F_is_whole : Fn P w K mg base "is_whole" 1 2 m_is_whole) (C : Cxt P w K mg base X N_is_sign_id (defScope (top 21)) 2 true) : DSs X E0k (defBody (top 21)) sem_is_sign_id :=
  (ss_one (s_ret (d_and (d_call C F_is_pair (by decide) (by kernel_rfl) (a_cons (d_var C 0 (by kernel_rfl)) a_nil)) (d_and (d_call C F_is_deed_id (by decide) (by kernel_rfl) (a_cons (d_ix (d_var C 0 (by kernel_rfl)) d_int) a_nil)) (d_one (d_call C F_is_whole (by decide) (by kernel_rfl) (a_cons (d_ix (d_var C 0 (by kernel_rfl)) d_int) (a_cons d_int a_nil))))))))
theorem sc_is_sign_id_or_none : FnScope N_is_sign_id_or_none ["thing"] (defScope (top 22)) := ⟨rfl, rfl, rfl, by decide +kernel, rfl, by decide +kernel, by decide +kernel⟩
theorem body_is_sign_id_or_none  (T : Txt mg) (F_is_sign_id : Fn P w K mg base "is_sign_id" 3 1 m_is_sign_id) (C : Cxt P w K mg base X N_is_sign_id_or_none (defScope (top 22)) 3 true) : DSs X E0k (defBody (top 22)) sem_is_sign_id_or_none :=
  (ss_one (s_ret (d_or (d_isN (d_var C 0 (by kernel_rfl))) (d_one (d_call C F_is_sign_id (by decide) (by kernel_rfl) (a_cons (d_var C 0 (by kernel_rfl)) a_nil))))))
theorem sc_is_anchor : FnScope N_is_anchor ["thing"] (defScope (top 23)) := ⟨rfl, rfl, rfl, by decide +kernel, rfl, by decide +kernel, by decide +kernel⟩
theorem body_is_anchor  (T : Txt mg) (F_is_one_of : Fn P w K mg base "is_one_of" 1 2 m_is_one_of) (F_is_pair : Fn P w K mg base "is_pair" 1 1 m_is_pair) (F_is_sign_id_or_none : Fn P w K mg base "is_sign_id_or_none" 4 1 m_is_sign_id_or_none) (C : Cxt P w K mg base X N_is_anchor (defScope (top 23)) 4 true) : DSs X E0k (defBody (top 23)) sem_is_anchor :=
  (ss_one (s_ret (d_and (d_call C F_is_pair (by decide) (by kernel_rfl) (a_cons (d_var C 0 (by kernel_rfl)) a_nil)) (d_and (d_call C F_is_sign_id_or_none (by decide) (by kernel_rfl) (a_cons (d_ix (d_var C 0 (by kernel_rfl)) d_int) a_nil)) (d_one (d_call C F_is_one_of (by decide) (by kernel_rfl) (a_cons (d_ix (d_var C 0 (by kernel_rfl)) d_int) (a_cons (d_globS (z := "lr") C (by kernel_rfl) T.c_SIDES) a_nil))))))))
theorem sc_is_rising : FnScope N_is_rising ["values"] (defScope (top 24)) := ⟨rfl, rfl, rfl, by decide +kernel, rfl, by decide +kernel, by decide +kernel⟩
theorem body_is_rising  (T : Txt mg) (C : Cxt P w K mg base X N_is_rising (defScope (top 24)) 0 true) : DSs X E0k (defBody (top 24)) sem_is_rising :=
  (ss_one (s_ret (d_all C (by kernel_rfl) T.b_all (a_cons (d_new (f_comp1 C [0] ["values"] (by kernel_rfl) (i_range1 C (by kernel_rfl) T.b_range (a_cons (d_sub (d_len C (by kernel_rfl) T.b_len (a_cons (d_var C 0 (by kernel_rfl)) a_nil)) d_int) a_nil)) (fun X' C' => ts_nil) (fun X' C' => (d_lt C' (d_ix (d_var C' 1 (by kernel_rfl)) (d_var C' 0 (by kernel_rfl))) (d_ix (d_var C' 1 (by kernel_rfl)) (d_add (d_var C' 0 (by kernel_rfl)) d_int)))))) a_nil))))
theorem sc_is_dropped : FnScope N_is_dropped ["thing"] (defScope (top 25)) := ⟨rfl, rfl, rfl, by decide +kernel, rfl, by decide +kernel, by decide +kernel⟩
theorem st_is_dropped_0  (T : Txt mg) (F_is_rising : Fn P w K mg base "is_rising" 1 1 m_is_rising) (F_is_sign_id : Fn P w K mg base "is_sign_id" 3 1 m_is_sign_id) (C : Cxt P w K mg base X N_is_dropped (defScope (top 25)) 3 true) : DS X E0k (stm 25 0) sx_is_dropped_0 :=
  (s_if (w_t (w_or (t_not (t_val (d_isinst C (by kernel_rfl) T.b_isinstance (by kernel_rfl) T.b_tuple (by decide +kernel) (by kernel_rfl) (d_var C 0 (by kernel_rfl))))) (w_or1 (t_not (t_chainLe C d_int (d_len C (by kernel_rfl) T.b_len (a_cons (d_var C 0 (by kernel_rfl)) a_nil)) (d_globI C (by kernel_rfl) T.c_MOST_DROPPED)))))) (ss_one (s_ret d_bool)) ss_nil)
theorem st_is_dropped_1  (T : Txt mg) (F_is_rising : Fn P w K mg base "is_rising" 1 1 m_is_rising) (F_is_sign_id : Fn P w K mg base "is_sign_id" 3 1 m_is_sign_id) (C : Cxt P w K mg base X N_is_dropped (defScope (top 25)) 3 true) : DS X E0k (stm 25 1) sx_is_dropped_1 :=
  (s_ret (d_and (d_all C (by kernel_rfl) T.b_all (a_cons (d_new (f_comp1 C [] [] (by kernel_rfl) (i_seq (d_var C 0 (by kernel_rfl))) (fun X' C' => ts_nil) (fun X' C' => (d_call C' F_is_sign_id (by decide) (by kernel_rfl) (a_cons (d_var C' 0 (by kernel_rfl)) a_nil))))) a_nil)) (d_one (d_call C F_is_rising (by decide) (by kernel_rfl) (a_cons (d_var C 0 (by kernel_rfl)) a_nil)))))
theorem body_is_dropped  (T : Txt mg) (F_is_rising : Fn P w K mg base "is_rising" 1 1 m_is_rising) (F_is_sign_id : Fn P w K mg base "is_sign_id" 3 1 m_is_sign_id) (C : Cxt P w K mg base X N_is_dropped (defScope (top 25)) 3 true) : DSs X E0k (defBody (top 25)) sem_is_dropped := by
  have h : defBody (top 25) = [stm 25 0, stm 25 1] := by kernel_rfl
  rw [h]
  exact (ss_cons (st_is_dropped_0 T F_is_rising F_is_sign_id C) (ss_one (st_is_dropped_1 T F_is_rising F_is_sign_id C)))
theorem sc_has_form : FnScope N_has_form ["word", "parts"] (defScope (top 26)) := ⟨rfl, rfl, rfl, by decide +kernel, rfl, by decide +kernel, by decide +kernel⟩
theorem st_has_form_0  (T : Txt mg) (F_is_added_text : Fn P w K mg base "is_added_text" 2 1 m_is_added_text) (F_is_anchor : Fn P w K mg base "is_anchor" 5 1 m_is_anchor) (F_is_deed_id : Fn P w K mg base "is_deed_id" 2 1 m_is_deed_id) (F_is_dropped : Fn P w K mg base "is_dropped" 4 1 m_is_dropped) (F_is_name : Fn P w K mg base "is_name" 2 1 m_is_name) (F_is_sign_id_or_none : Fn P w K mg base "is_sign_id_or_none" 4 1 m_is_sign_id_or_none) (C : Cxt P w K mg base X N_has_form (defScope (top 26)) 5 true) : DS X E0k (stm 26 0) sx_has_form_0 :=
  (s_if (t_eq C (d_var C 0 (by kernel_rfl)) d_str) (ss_one (s_ret (d_and (d_eq C (d_len C (by kernel_rfl) T.b_len (a_cons (d_var C 1 (by kernel_rfl)) a_nil)) d_int) (d_and (d_call C F_is_sign_id_or_none (by decide) (by kernel_rfl) (a_cons (d_ix (d_var C 1 (by kernel_rfl)) d_int) a_nil)) (d_one (d_call C F_is_added_text (by decide) (by kernel_rfl) (a_cons (d_ix (d_var C 1 (by kernel_rfl)) d_int) a_nil))))))) ss_nil)
theorem st_has_form_1  (T : Txt mg) (F_is_added_text : Fn P w K mg base "is_added_text" 2 1 m_is_added_text) (F_is_anchor : Fn P w K mg base "is_anchor" 5 1 m_is_anchor) (F_is_deed_id : Fn P w K mg base "is_deed_id" 2 1 m_is_deed_id) (F_is_dropped : Fn P w K mg base "is_dropped" 4 1 m_is_dropped) (F_is_name : Fn P w K mg base "is_name" 2 1 m_is_name) (F_is_sign_id_or_none : Fn P w K mg base "is_sign_id_or_none" 4 1 m_is_sign_id_or_none) (C : Cxt P w K mg base X N_has_form (defScope (top 26)) 5 true) : DS X E0k (stm 26 1) sx_has_form_1 :=
  (s_if (t_eq C (d_var C 0 (by kernel_rfl)) d_str) (ss_one (s_ret (d_and (d_eq C (d_len C (by kernel_rfl) T.b_len (a_cons (d_var C 1 (by kernel_rfl)) a_nil)) d_int) (d_one (d_call C F_is_dropped (by decide) (by kernel_rfl) (a_cons (d_ix (d_var C 1 (by kernel_rfl)) d_int) a_nil)))))) ss_nil)
theorem st_has_form_2  (T : Txt mg) (F_is_added_text : Fn P w K mg base "is_added_text" 2 1 m_is_added_text) (F_is_anchor : Fn P w K mg base "is_anchor" 5 1 m_is_anchor) (F_is_deed_id : Fn P w K mg base "is_deed_id" 2 1 m_is_deed_id) (F_is_dropped : Fn P w K mg base "is_dropped" 4 1 m_is_dropped) (F_is_name : Fn P w K mg base "is_name" 2 1 m_is_name) (F_is_sign_id_or_none : Fn P w K mg base "is_sign_id_or_none" 4 1 m_is_sign_id_or_none) (C : Cxt P w K mg base X N_has_form (defScope (top 26)) 5 true) : DS X E0k (stm 26 2) sx_has_form_2 :=
  (s_if (t_eq C (d_var C 0 (by kernel_rfl)) d_str) (ss_one (s_ret (d_and (d_eq C (d_len C (by kernel_rfl) T.b_len (a_cons (d_var C 1 (by kernel_rfl)) a_nil)) d_int) (d_and (d_call C F_is_name (by decide) (by kernel_rfl) (a_cons (d_ix (d_var C 1 (by kernel_rfl)) d_int) a_nil)) (d_and (d_call C F_is_anchor (by decide) (by kernel_rfl) (a_cons (d_ix (d_var C 1 (by kernel_rfl)) d_int) a_nil)) (d_one (d_call C F_is_anchor (by decide) (by kernel_rfl) (a_cons (d_ix (d_var C 1 (by kernel_rfl)) d_int) a_nil)))))))) ss_nil)
theorem st_has_form_3  (T : Txt mg) (F_is_added_text : Fn P w K mg base "is_added_text" 2 1 m_is_added_text) (F_is_anchor : Fn P w K mg base "is_anchor" 5 1 m_is_anchor) (F_is_deed_id : Fn P w K mg base "is_deed_id" 2 1 m_is_deed_id) (F_is_dropped : Fn P w K mg base "is_dropped" 4 1 m_is_dropped) (F_is_name : Fn P w K mg base "is_name" 2 1 m_is_name) (F_is_sign_id_or_none : Fn P w K mg base "is_sign_id_or_none" 4 1 m_is_sign_id_or_none) (C : Cxt P w K mg base X N_has_form (defScope (top 26)) 5 true) : DS X E0k (stm 26 3) sx_has_form_3 :=
  (s_if (t_eq C (d_var C 0 (by kernel_rfl)) d_str) (ss_one (s_ret (d_and (d_eq C (d_len C (by kernel_rfl) T.b_len (a_cons (d_var C 1 (by kernel_rfl)) a_nil)) d_int) (d_one (d_call C F_is_name (by decide) (by kernel_rfl) (a_cons (d_ix (d_var C 1 (by kernel_rfl)) d_int) a_nil)))))) ss_nil)
theorem st_has_form_4  (T : Txt mg) (F_is_added_text : Fn P w K mg base "is_added_text" 2 1 m_is_added_text) (F_is_anchor : Fn P w K mg base "is_anchor" 5 1 m_is_anchor) (F_is_deed_id : Fn P w K mg base "is_deed_id" 2 1 m_is_deed_id) (F_is_dropped : Fn P w K mg base "is_dropped" 4 1 m_is_dropped) (F_is_name : Fn P w K mg base "is_name" 2 1 m_is_name) (F_is_sign_id_or_none : Fn P w K mg base "is_sign_id_or_none" 4 1 m_is_sign_id_or_none) (C : Cxt P w K mg base X N_has_form (defScope (top 26)) 5 true) : DS X E0k (stm 26 4) sx_has_form_4 :=
  (s_if (t_eq C (d_var C 0 (by kernel_rfl)) d_str) (ss_one (s_ret (d_and (d_eq C (d_len C (by kernel_rfl) T.b_len (a_cons (d_var C 1 (by kernel_rfl)) a_nil)) d_int) (d_one (d_call C F_is_deed_id (by decide) (by kernel_rfl) (a_cons (d_ix (d_var C 1 (by kernel_rfl)) d_int) a_nil)))))) ss_nil)
theorem st_has_form_5  (T : Txt mg) (F_is_added_text : Fn P w K mg base "is_added_text" 2 1 m_is_added_text) (F_is_anchor : Fn P w K mg base "is_anchor" 5 1 m_is_anchor) (F_is_deed_id : Fn P w K mg base "is_deed_id" 2 1 m_is_deed_id) (F_is_dropped : Fn P w K mg base "is_dropped" 4 1 m_is_dropped) (F_is_name : Fn P w K mg base "is_name" 2 1 m_is_name) (F_is_sign_id_or_none : Fn P w K mg base "is_sign_id_or_none" 4 1 m_is_sign_id_or_none) (C : Cxt P w K mg base X N_has_form (defScope (top 26)) 5 true) : DS X E0k (stm 26 5) sx_has_form_5 :=
  (s_ret d_bool)
theorem body_has_form  (T : Txt mg) (F_is_added_text : Fn P w K mg base "is_added_text" 2 1 m_is_added_text) (F_is_anchor : Fn P w K mg base "is_anchor" 5 1 m_is_anchor) (F_is_deed_id : Fn P w K mg base "is_deed_id" 2 1 m_is_deed_id) (F_is_dropped : Fn P w K mg base "is_dropped" 4 1 m_is_dropped) (F_is_name : Fn P w K mg base "is_name" 2 1 m_is_name) (F_is_sign_id_or_none : Fn P w K mg base "is_sign_id_or_none" 4 1 m_is_sign_id_or_none) (C : Cxt P w K mg base X N_has_form (defScope (top 26)) 5 true) : DSs X E0k (defBody (top 26)) sem_has_form := by
  have h : defBody (top 26) = [stm 26 0, stm 26 1, stm 26 2, stm 26 3, stm 26 4, stm 26 5] := by kernel_rfl
  rw [h]
  exact (ss_cons (st_has_form_0 T F_is_added_text F_is_anchor F_is_deed_id F_is_dropped F_is_name F_is_sign_id_or_none C) (ss_cons (st_has_form_1 T F_is_added_text F_is_anchor F_is_deed_id F_is_dropped F_is_name F_is_sign_id_or_none C) (ss_cons (st_has_form_2 T F_is_added_text F_is_anchor F_is_deed_id F_is_dropped F_is_name F_is_sign_id_or_none C) (ss_cons (st_has_form_3 T F_is_added_text F_is_anchor F_is_deed_id F_is_dropped F_is_name F_is_sign_id_or_none C) (ss_cons (st_has_form_4 T F_is_added_text F_is_anchor F_is_deed_id F_is_dropped F_is_name F_is_sign_id_or_none C) (ss_one (st_has_form_5 T F_is_added_text F_is_anchor F_is_deed_id F_is_dropped F_is_name F_is_sign_id_or_none C)))))))
theorem sc_signs_named : FnScope N_signs_named ["deed"] (defScope (top 27)) := ⟨rfl, rfl, rfl, by decide +kernel, rfl, by decide +kernel, by decide +kernel⟩
theorem st_signs_named_0  (T : Txt mg) (C : Cxt P w K mg base X N_signs_named (defScope (top 27)) 0 true) : DS X E0k (stm 27 0) sx_signs_named_0 :=
  (s_set C 1 (by kernel_rfl) (d_new (f_lst a_nil)))
theorem st_signs_named_1  (T : Txt mg) (C : Cxt P w K mg base X N_signs_named (defScope (top 27)) 0 true) : DS X E0k (stm 27 1) sx_signs_named_1 :=
  (s_if (t_eq C (d_ix (d_var C 0 (by kernel_rfl)) d_int) d_str) (ss_one (s_set C 1 (by kernel_rfl) (d_new (f_lst (a_cons (d_ix (d_var C 0 (by kernel_rfl)) d_int) a_nil))))) (ss_one (s_if (t_eq C (d_ix (d_var C 0 (by kernel_rfl)) d_int) d_str) (ss_one (s_set C 1 (by kernel_rfl) (d_listF C (by kernel_rfl) T.b_list (a_cons (d_ix (d_var C 0 (by kernel_rfl)) d_int) a_nil)))) (ss_one (s_if (t_eq C (d_ix (d_var C 0 (by kernel_rfl)) d_int) d_str) (ss_one (s_set C 1 (by kernel_rfl) (d_new (f_lst (a_cons (d_ix (d_ix (d_var C 0 (by kernel_rfl)) d_int) d_int) (a_cons (d_ix (d_ix (d_var C 0 (by kernel_rfl)) d_int) d_int) a_nil)))))) ss_nil)))))
theorem st_signs_named_2  (T : Txt mg) (C : Cxt P w K mg base X N_signs_named (defScope (top 27)) 0 true) : DS X E0k (stm 27 2) sx_signs_named_2 :=
  (s_ret (d_new (f_comp1 C [] [] (by kernel_rfl) (i_seq (d_var C 1 (by kernel_rfl))) (fun X' C' => (ts_one (t_notN (d_var C' 0 (by kernel_rfl))))) (fun X' C' => (d_var C' 0 (by kernel_rfl))))))
theorem body_signs_named  (T : Txt mg) (C : Cxt P w K mg base X N_signs_named (defScope (top 27)) 0 true) : DSs X E0k (defBody (top 27)) sem_signs_named := by
  have h : defBody (top 27) = [stm 27 0, stm 27 1, stm 27 2] := by kernel_rfl
  rw [h]
  exact (ss_cons (st_signs_named_0 T C) (ss_cons (st_signs_named_1 T C) (ss_one (st_signs_named_2 T C))))
theorem sc_deeds_named : FnScope N_deeds_named ["deed"] (defScope (top 28)) := ⟨rfl, rfl, rfl, by decide +kernel, rfl, by decide +kernel, by decide +kernel⟩
theorem body_deeds_named  (T : Txt mg) (F_signs_named : Fn P w K mg base "signs_named" 1 1 m_signs_named) (C : Cxt P w K mg base X N_deeds_named (defScope (top 28)) 1 true) : DSs X E0k (defBody (top 28)) sem_deeds_named :=
  (ss_cons (s_if (t_eq C (d_ix (d_var C 0 (by kernel_rfl)) d_int) d_str) (ss_one (s_ret (d_new (f_lst (a_cons (d_ix (d_var C 0 (by kernel_rfl)) d_int) a_nil))))) ss_nil) (ss_one (s_ret (d_new (f_comp1 C [] [] (by kernel_rfl) (i_seq (d_call C F_signs_named (by decide) (by kernel_rfl) (a_cons (d_var C 0 (by kernel_rfl)) a_nil))) (fun X' C' => ts_nil) (fun X' C' => (d_ix (d_var C' 0 (by kernel_rfl)) d_int)))))))
theorem sc_is_deed : FnScope N_is_deed ["thing"] (defScope (top 29)) := ⟨rfl, rfl, rfl, by decide +kernel, rfl, by decide +kernel, by decide +kernel⟩
theorem st_is_deed_0  (T : Txt mg) (F_deeds_named : Fn P w K mg base "deeds_named" 2 1 m_deeds_named) (F_has_form : Fn P w K mg base "has_form" 6 2 m_has_form) (F_is_deed_id : Fn P w K mg base "is_deed_id" 2 1 m_is_deed_id) (C : Cxt P w K mg base X N_is_deed (defScope (top 29)) 6 true) : DS X E0k (stm 29 0) sx_is_deed_0 :=
  (s_if (w_t (w_or (t_not (t_val (d_isinst C (by kernel_rfl) T.b_isinstance (by kernel_rfl) T.b_tuple (by decide +kernel) (by kernel_rfl) (d_var C 0 (by kernel_rfl))))) (w_or (t_lt C (d_len C (by kernel_rfl) T.b_len (a_cons (d_var C 0 (by kernel_rfl)) a_nil)) d_int) (w_or1 (t_not (t_val (d_call C F_is_deed_id (by decide) (by kernel_rfl) (a_cons (d_ix (d_var C 0 (by kernel_rfl)) d_int) a_nil)))))))) (ss_one (s_ret d_bool)) ss_nil)
theorem st_is_deed_1  (T : Txt mg) (F_deeds_named : Fn P w K mg base "deeds_named" 2 1 m_deeds_named) (F_has_form : Fn P w K mg base "has_form" 6 2 m_has_form) (F_is_deed_id : Fn P w K mg base "is_deed_id" 2 1 m_is_deed_id) (C : Cxt P w K mg base X N_is_deed (defScope (top 29)) 6 true) : DS X E0k (stm 29 1) sx_is_deed_1 :=
  (s_if (t_not (t_val (d_call C F_has_form (by decide) (by kernel_rfl) (a_cons (d_ix (d_var C 0 (by kernel_rfl)) d_int) (a_cons (d_slice (d_var C 0 (by kernel_rfl)) (o_some d_int) o_none) a_nil))))) (ss_one (s_ret d_bool)) ss_nil)
theorem st_is_deed_2  (T : Txt mg) (F_deeds_named : Fn P w K mg base "deeds_named" 2 1 m_deeds_named) (F_has_form : Fn P w K mg base "has_form" 6 2 m_has_form) (F_is_deed_id : Fn P w K mg base "is_deed_id" 2 1 m_is_deed_id) (C : Cxt P w K mg base X N_is_deed (defScope (top 29)) 6 true) : DS X E0k (stm 29 2) sx_is_deed_2 :=
  (s_ret (d_all C (by kernel_rfl) T.b_all (a_cons (d_new (f_comp1 C [0] ["thing"] (by kernel_rfl) (i_seq (d_call C F_deeds_named (by decide) (by kernel_rfl) (a_cons (d_var C 0 (by kernel_rfl)) a_nil))) (fun X' C' => ts_nil) (fun X' C' => (d_lt C' (d_ix (d_var C' 0 (by kernel_rfl)) d_int) (d_ix (d_ix (d_var C' 1 (by kernel_rfl)) d_int) d_int))))) a_nil)))
theorem body_is_deed  (T : Txt mg) (F_deeds_named : Fn P w K mg base "deeds_named" 2 1 m_deeds_named) (F_has_form : Fn P w K mg base "has_form" 6 2 m_has_form) (F_is_deed_id : Fn P w K mg base "is_deed_id" 2 1 m_is_deed_id) (C : Cxt P w K mg base X N_is_deed (defScope (top 29)) 6 true) : DSs X E0k (defBody (top 29)) sem_is_deed := by
  have h : defBody (top 29) = [stm 29 0, stm 29 1, stm 29 2] := by kernel_rfl
  rw [h]
  exact (ss_cons (st_is_deed_0 T F_deeds_named F_has_form F_is_deed_id C) (ss_cons (st_is_deed_1 T F_deeds_named F_has_form F_is_deed_id C) (ss_one (st_is_deed_2 T F_deeds_named F_has_form F_is_deed_id C))))
theorem sc_signs_added : FnScope N_signs_added ["deed"] (defScope (top 30)) := ⟨rfl, rfl, rfl, by decide +kernel, rfl, by decide +kernel, by decide +kernel⟩
theorem body_signs_added  (T : Txt mg) (C : Cxt P w K mg base X N_signs_added (defScope (top 30)) 0 true) : DSs X E0k (defBody (top 30)) sem_signs_added :=
  (ss_one (s_ret (d_ifExp (t_eq C (d_ix (d_var C 0 (by kernel_rfl)) d_int) d_str) (d_len C (by kernel_rfl) T.b_len (a_cons (d_ix (d_var C 0 (by kernel_rfl)) d_int) a_nil)) d_int)))
theorem sc_by_ids : FnScope N_by_ids ["deeds"] (defScope (top 31)) := ⟨rfl, rfl, rfl, by decide +kernel, rfl, by decide +kernel, by decide +kernel⟩
theorem body_by_ids  (T : Txt mg) (C : Cxt P w K mg base X N_by_ids (defScope (top 31)) 0 true) : DSW X E0k (defBody (top 31)) sem_by_ids :=
  (w_expr (x_dictF C (by kernel_rfl) T.b_dict (f_comp1 C [] [] (by kernel_rfl) (i_seq (d_var C 0 (by kernel_rfl))) (fun X' C' => ts_nil) (fun X' C' => (d_tup (a_cons (d_ix (d_var C' 0 (by kernel_rfl)) d_int) (a_cons (d_var C' 0 (by kernel_rfl)) a_nil)))))))
theorem sc_has_all_named : FnScope N_has_all_named ["known", "deed"] (defScope (top 32)) := ⟨rfl, rfl, rfl, by decide +kernel, rfl, by decide +kernel, by decide +kernel⟩
theorem body_has_all_named  (T : Txt mg) (F_deeds_named : Fn P w K mg base "deeds_named" 2 1 m_deeds_named) (F_signs_added : Fn P w K mg base "signs_added" 1 1 m_signs_added) (F_signs_named : Fn P w K mg base "signs_named" 1 1 m_signs_named) (C : Cxt P w K mg base X N_has_all_named (defScope (top 32)) 2 true) : DR X E0k (defBody (top 32)) sem_has_all_named :=
  (r_if (t_not (t_val (d_all C (by kernel_rfl) T.b_all (a_cons (d_new (f_comp1 C [0] ["known"] (by kernel_rfl) (i_seq (d_call C F_deeds_named (by decide) (by kernel_rfl) (a_cons (d_var C 1 (by kernel_rfl)) a_nil))) (fun X' C' => ts_nil) (fun X' C' => (d_inD C' 1 (by kernel_rfl) (d_var C' 0 (by kernel_rfl)))))) a_nil)))) (r_ret d_bool) (r_ret (d_all C (by kernel_rfl) T.b_all (a_cons (d_new (f_comp1 C [0] ["known"] (by kernel_rfl) (i_seq (d_call C F_signs_named (by decide) (by kernel_rfl) (a_cons (d_var C 1 (by kernel_rfl)) a_nil))) (fun X' C' => ts_nil) (fun X' C' => (d_lt C' (d_ix (d_var C' 0 (by kernel_rfl)) d_int) (d_call C' F_signs_added (by decide) (by kernel_rfl) (a_cons (d_getD C' 1 (by kernel_rfl) (d_ix (d_var C' 0 (by kernel_rfl)) d_int)) a_nil)))))) a_nil))))
theorem sc_is_book : FnScope N_is_book ["thing"] (defScope (top 33)) := ⟨rfl, rfl, rfl, by decide +kernel, rfl, by decide +kernel, by decide +kernel⟩
theorem st_is_book_0  (T : Txt mg) (F_by_ids : FnW P w K mg base "by_ids" 1 1 m_by_ids) (F_has_all_named : FnL P w K mg base "has_all_named" 3 m_has_all_named) (F_is_deed : Fn P w K mg base "is_deed" 7 1 m_is_deed) (F_is_rising : Fn P w K mg base "is_rising" 1 1 m_is_rising) (C : Cxt P w K mg base X N_is_book (defScope (top 33)) 7 true) : DS X E0k (stm 33 0) sx_is_book_0 :=
  (s_if (w_t (w_or (t_not (t_val (d_isinst C (by kernel_rfl) T.b_isinstance (by kernel_rfl) T.b_tuple (by decide +kernel) (by kernel_rfl) (d_var C 0 (by kernel_rfl))))) (w_or1 (t_not (t_val (d_all C (by kernel_rfl) T.b_all (a_cons (d_new (f_comp1 C [] [] (by kernel_rfl) (i_seq (d_var C 0 (by kernel_rfl))) (fun X' C' => ts_nil) (fun X' C' => (d_call C' F_is_deed (by decide) (by kernel_rfl) (a_cons (d_var C' 0 (by kernel_rfl)) a_nil))))) a_nil))))))) (ss_one (s_ret d_bool)) ss_nil)
theorem st_is_book_1  (T : Txt mg) (F_by_ids : FnW P w K mg base "by_ids" 1 1 m_by_ids) (F_has_all_named : FnL P w K mg base "has_all_named" 3 m_has_all_named) (F_is_deed : Fn P w K mg base "is_deed" 7 1 m_is_deed) (F_is_rising : Fn P w K mg base "is_rising" 1 1 m_is_rising) (C : Cxt P w K mg base X N_is_book (defScope (top 33)) 7 true) : DS X E0k (stm 33 1) sx_is_book_1 :=
  (s_ownX C 1 (by kernel_rfl) (x_call C F_by_ids (by decide) (by kernel_rfl) (a_cons (d_var C 0 (by kernel_rfl)) a_nil)))
theorem st_is_book_2  (T : Txt mg) (F_by_ids : FnW P w K mg base "by_ids" 1 1 m_by_ids) (F_has_all_named : FnL P w K mg base "has_all_named" 3 m_has_all_named) (F_is_deed : Fn P w K mg base "is_deed" 7 1 m_is_deed) (F_is_rising : Fn P w K mg base "is_rising" 1 1 m_is_rising) (C : Cxt P w K mg base X N_is_book (defScope (top 33)) 7 true) : DS X E0k (stm 33 2) sx_is_book_2 :=
  (s_ret (d_and (d_call C F_is_rising (by decide) (by kernel_rfl) (a_cons (d_new (f_comp1 C [] [] (by kernel_rfl) (i_seq (d_var C 0 (by kernel_rfl))) (fun X' C' => ts_nil) (fun X' C' => (d_ix (d_var C' 0 (by kernel_rfl)) d_int)))) a_nil)) (d_one (d_all C (by kernel_rfl) T.b_all (a_cons (d_new (f_comp1 C [1] ["known"] (by kernel_rfl) (i_seq (d_var C 0 (by kernel_rfl))) (fun X' C' => ts_nil) (fun X' C' => (d_callL C' F_has_all_named (by decide) (by kernel_rfl) 1 (by kernel_rfl) (d_var C' 0 (by kernel_rfl)))))) a_nil)))))
theorem body_is_book  (T : Txt mg) (F_by_ids : FnW P w K mg base "by_ids" 1 1 m_by_ids) (F_has_all_named : FnL P w K mg base "has_all_named" 3 m_has_all_named) (F_is_deed : Fn P w K mg base "is_deed" 7 1 m_is_deed) (F_is_rising : Fn P w K mg base "is_rising" 1 1 m_is_rising) (C : Cxt P w K mg base X N_is_book (defScope (top 33)) 7 true) : DSs X E0k (defBody (top 33)) sem_is_book := by
  have h : defBody (top 33) = [stm 33 0, stm 33 1, stm 33 2] := by kernel_rfl
  rw [h]
  exact (ss_cons (st_is_book_0 T F_by_ids F_has_all_named F_is_deed F_is_rising C) (ss_cons (st_is_book_1 T F_by_ids F_has_all_named F_is_deed F_is_rising C) (ss_one (st_is_book_2 T F_by_ids F_has_all_named F_is_deed F_is_rising C))))
theorem sc_number_in : FnScope N_number_in ["word"] (defScope (top 40)) := ⟨rfl, rfl, rfl, by decide +kernel, rfl, by decide +kernel, by decide +kernel⟩
theorem body_number_in  (T : Txt mg) (C : Cxt P w K mg base X N_number_in (defScope (top 40)) 0 true) : DSs X E0k (defBody (top 40)) sem_number_in :=
  (ss_cons (s_if (w_t (w_or (t_not (t_chainLe C d_int (d_len C (by kernel_rfl) T.b_len (a_cons (d_var C 0 (by kernel_rfl)) a_nil)) (d_globI C (by kernel_rfl) T.c_MOST_FIGURES))) (w_or1 (t_not (t_val (d_all C (by kernel_rfl) T.b_all (a_cons (d_new (f_comp1 C [] [] (by kernel_rfl) (i_seq (d_var C 0 (by kernel_rfl))) (fun X' C' => ts_nil) (fun X' C' => (d_in C' (d_var C' 0 (by kernel_rfl)) (d_globS (z := "0123456789") C' (by kernel_rfl) T.c_FIGURES))))) a_nil))))))) (ss_one s_no) ss_nil) (ss_one (s_ret (d_intS C (by kernel_rfl) T.b_int (a_cons (d_var C 0 (by kernel_rfl)) a_nil)))))
theorem sc_id_in : FnScope N_id_in ["word"] (defScope (top 41)) := ⟨rfl, rfl, rfl, by decide +kernel, rfl, by decide +kernel, by decide +kernel⟩
theorem body_id_in  (T : Txt mg) (F_number_in : Fn P w K mg base "number_in" 1 1 m_number_in) (C : Cxt P w K mg base X N_id_in (defScope (top 41)) 1 true) : DSs X E0k (defBody (top 41)) sem_id_in :=
  (ss_one (s_ret (d_tup (a_cons (d_call C F_number_in (by decide) (by kernel_rfl) (a_cons (d_sliceS (d_var C 0 (by kernel_rfl)) (o_some d_int) o_none) a_nil)) (a_cons (d_sliceS (d_var C 0 (by kernel_rfl)) o_none (o_some d_int)) a_nil)))))
theorem sc_sign_in : FnScope N_sign_in ["word"] (defScope (top 42)) := ⟨rfl, rfl, rfl, by decide +kernel, rfl, by decide +kernel, by decide +kernel⟩
theorem body_sign_in  (T : Txt mg) (F_id_in : Fn P w K mg base "id_in" 2 1 m_id_in) (F_number_in : Fn P w K mg base "number_in" 1 1 m_number_in) (C : Cxt P w K mg base X N_sign_in (defScope (top 42)) 2 true) : DSs X E0k (defBody (top 42)) sem_sign_in :=
  (ss_cons (s_if (t_eq C (d_var C 0 (by kernel_rfl)) d_str) (ss_one (s_ret d_none)) ss_nil) (ss_cons (s_set C 1 (by kernel_rfl) (d_part (d_var C 0 (by kernel_rfl)) d_str)) (ss_one (s_ret (d_tup (a_cons (d_call C F_id_in (by decide) (by kernel_rfl) (a_cons (d_ix (d_var C 1 (by kernel_rfl)) d_int) a_nil)) (a_cons (d_call C F_number_in (by decide) (by kernel_rfl) (a_cons (d_ix (d_var C 1 (by kernel_rfl)) d_int) a_nil)) a_nil)))))))
theorem sc_anchor_in : FnScope N_anchor_in ["word"] (defScope (top 43)) := ⟨rfl, rfl, rfl, by decide +kernel, rfl, by decide +kernel, by decide +kernel⟩
theorem body_anchor_in  (T : Txt mg) (DC_SIDE_SIGNS : HasC P w K mg "SIDE_SIGNS" [("l", "<"), ("r", ">")]) (F_sign_in : Fn P w K mg base "sign_in" 3 1 m_sign_in) (C : Cxt P w K mg base X N_anchor_in (defScope (top 43)) 3 true) : DSs X E0k (defBody (top 43)) sem_anchor_in :=
  (ss_cons (s_for1 C 1 (by kernel_rfl) (i_H C (by kernel_rfl) DC_SIDE_SIGNS (by kernel_rfl)) (ss_one (s_if (t_val (d_ends (d_var C 0 (by kernel_rfl)) (d_getH C (by kernel_rfl) DC_SIDE_SIGNS (d_var C 1 (by kernel_rfl))))) (ss_one (s_ret (d_tup (a_cons (d_call C F_sign_in (by decide) (by kernel_rfl) (a_cons (d_sliceS (d_var C 0 (by kernel_rfl)) o_none (o_some (d_neg d_int))) a_nil)) (a_cons (d_var C 1 (by kernel_rfl)) a_nil))))) ss_nil))) (ss_one s_no))
theorem sc_parts_in : FnScope N_parts_in ["word", "rest"] (defScope (top 44)) := ⟨rfl, rfl, rfl, by decide +kernel, rfl, by decide +kernel, by decide +kernel⟩
theorem st_parts_in_0  (T : Txt mg) (F_anchor_in : Fn P w K mg base "anchor_in" 4 1 m_anchor_in) (F_id_in : Fn P w K mg base "id_in" 2 1 m_id_in) (F_sign_in : Fn P w K mg base "sign_in" 3 1 m_sign_in) (C : Cxt P w K mg base X N_parts_in (defScope (top 44)) 4 true) : DS X E0k (stm 44 0) sx_parts_in_0 :=
  (s_set C 2 (by kernel_rfl) (d_split (d_var C 1 (by kernel_rfl)) d_str))
theorem st_parts_in_1  (T : Txt mg) (F_anchor_in : Fn P w K mg base "anchor_in" 4 1 m_anchor_in) (F_id_in : Fn P w K mg base "id_in" 2 1 m_id_in) (F_sign_in : Fn P w K mg base "sign_in" 3 1 m_sign_in) (C : Cxt P w K mg base X N_parts_in (defScope (top 44)) 4 true) : DS X E0k (stm 44 1) sx_parts_in_1 :=
  (s_if (t_eq C (d_var C 0 (by kernel_rfl)) d_str) (ss_cons (s_set C 3 (by kernel_rfl) (d_part (d_var C 1 (by kernel_rfl)) d_str)) (ss_one (s_ret (d_tup (a_cons (d_call C F_sign_in (by decide) (by kernel_rfl) (a_cons (d_ix (d_var C 3 (by kernel_rfl)) d_int) a_nil)) (a_cons (d_ix (d_var C 3 (by kernel_rfl)) d_int) a_nil)))))) ss_nil)
theorem st_parts_in_2  (T : Txt mg) (F_anchor_in : Fn P w K mg base "anchor_in" 4 1 m_anchor_in) (F_id_in : Fn P w K mg base "id_in" 2 1 m_id_in) (F_sign_in : Fn P w K mg base "sign_in" 3 1 m_sign_in) (C : Cxt P w K mg base X N_parts_in (defScope (top 44)) 4 true) : DS X E0k (stm 44 2) sx_parts_in_2 :=
  (s_if (t_eq C (d_var C 0 (by kernel_rfl)) d_str) (ss_one (s_ret (d_tup (a_cons (d_tupF C (by kernel_rfl) T.b_tuple (a_cons (d_new (f_comp1 C [] [] (by kernel_rfl) (i_seq (d_var C 2 (by kernel_rfl))) (fun X' C' => ts_nil) (fun X' C' => (d_call C' F_sign_in (by decide) (by kernel_rfl) (a_cons (d_var C' 0 (by kernel_rfl)) a_nil))))) a_nil)) a_nil)))) ss_nil)
theorem st_parts_in_3  (T : Txt mg) (F_anchor_in : Fn P w K mg base "anchor_in" 4 1 m_anchor_in) (F_id_in : Fn P w K mg base "id_in" 2 1 m_id_in) (F_sign_in : Fn P w K mg base "sign_in" 3 1 m_sign_in) (C : Cxt P w K mg base X N_parts_in (defScope (top 44)) 4 true) : DS X E0k (stm 44 3) sx_parts_in_3 :=
  (s_if (w_t (w_and (t_eq C (d_var C 0 (by kernel_rfl)) d_str) (w_and1 (t_eq C (d_len C (by kernel_rfl) T.b_len (a_cons (d_var C 2 (by kernel_rfl)) a_nil)) d_int)))) (ss_one (s_ret (d_tup (a_cons (d_ix (d_var C 2 (by kernel_rfl)) d_int) (a_cons (d_call C F_anchor_in (by decide) (by kernel_rfl) (a_cons (d_ix (d_var C 2 (by kernel_rfl)) d_int) a_nil)) (a_cons (d_call C F_anchor_in (by decide) (by kernel_rfl) (a_cons (d_ix (d_var C 2 (by kernel_rfl)) d_int) a_nil)) a_nil)))))) ss_nil)
theorem st_parts_in_4  (T : Txt mg) (F_anchor_in : Fn P w K mg base "anchor_in" 4 1 m_anchor_in) (F_id_in : Fn P w K mg base "id_in" 2 1 m_id_in) (F_sign_in : Fn P w K mg base "sign_in" 3 1 m_sign_in) (C : Cxt P w K mg base X N_parts_in (defScope (top 44)) 4 true) : DS X E0k (stm 44 4) sx_parts_in_4 :=
  (s_if (t_eq C (d_var C 0 (by kernel_rfl)) d_str) (ss_one (s_ret (d_tup (a_cons (d_var C 1 (by kernel_rfl)) a_nil)))) ss_nil)
theorem st_parts_in_5  (T : Txt mg) (F_anchor_in : Fn P w K mg base "anchor_in" 4 1 m_anchor_in) (F_id_in : Fn P w K mg base "id_in" 2 1 m_id_in) (F_sign_in : Fn P w K mg base "sign_in" 3 1 m_sign_in) (C : Cxt P w K mg base X N_parts_in (defScope (top 44)) 4 true) : DS X E0k (stm 44 5) sx_parts_in_5 :=
  (s_if (t_eq C (d_var C 0 (by kernel_rfl)) d_str) (ss_one (s_ret (d_tup (a_cons (d_call C F_id_in (by decide) (by kernel_rfl) (a_cons (d_var C 1 (by kernel_rfl)) a_nil)) a_nil)))) ss_nil)
theorem st_parts_in_6  (T : Txt mg) (F_anchor_in : Fn P w K mg base "anchor_in" 4 1 m_anchor_in) (F_id_in : Fn P w K mg base "id_in" 2 1 m_id_in) (F_sign_in : Fn P w K mg base "sign_in" 3 1 m_sign_in) (C : Cxt P w K mg base X N_parts_in (defScope (top 44)) 4 true) : DS X E0k (stm 44 6) sx_parts_in_6 :=
  s_no
theorem body_parts_in  (T : Txt mg) (F_anchor_in : Fn P w K mg base "anchor_in" 4 1 m_anchor_in) (F_id_in : Fn P w K mg base "id_in" 2 1 m_id_in) (F_sign_in : Fn P w K mg base "sign_in" 3 1 m_sign_in) (C : Cxt P w K mg base X N_parts_in (defScope (top 44)) 4 true) : DSs X E0k (defBody (top 44)) sem_parts_in := by
  have h : defBody (top 44) = [stm 44 0, stm 44 1, stm 44 2, stm 44 3, stm 44 4, stm 44 5, stm 44 6] := by kernel_rfl
  rw [h]
  exact (ss_cons (st_parts_in_0 T F_anchor_in F_id_in F_sign_in C) (ss_cons (st_parts_in_1 T F_anchor_in F_id_in F_sign_in C) (ss_cons (st_parts_in_2 T F_anchor_in F_id_in F_sign_in C) (ss_cons (st_parts_in_3 T F_anchor_in F_id_in F_sign_in C) (ss_cons (st_parts_in_4 T F_anchor_in F_id_in F_sign_in C) (ss_cons (st_parts_in_5 T F_anchor_in F_id_in F_sign_in C) (ss_one (st_parts_in_6 T F_anchor_in F_id_in F_sign_in C))))))))
theorem sc_deed_in : FnScope N_deed_in ["line"] (defScope (top 45)) := ⟨rfl, rfl, rfl, by decide +kernel, rfl, by decide +kernel, by decide +kernel⟩
theorem body_deed_in  (T : Txt mg) (F_id_in : Fn P w K mg base "id_in" 2 1 m_id_in) (F_parts_in : Fn P w K mg base "parts_in" 5 2 m_parts_in) (C : Cxt P w K mg base X N_deed_in (defScope (top 45)) 5 true) : DSs X E0k (defBody (top 45)) sem_deed_in :=
  (ss_cons (s_set C 1 (by kernel_rfl) (d_part (d_var C 0 (by kernel_rfl)) d_str)) (ss_cons (s_set C 2 (by kernel_rfl) (d_part (d_ix (d_var C 1 (by kernel_rfl)) d_int) d_str)) (ss_one (s_ret (d_add (d_tup (a_cons (d_ix (d_var C 2 (by kernel_rfl)) d_int) (a_cons (d_call C F_id_in (by decide) (by kernel_rfl) (a_cons (d_ix (d_var C 1 (by kernel_rfl)) d_int) a_nil)) a_nil))) (d_call C F_parts_in (by decide) (by kernel_rfl) (a_cons (d_ix (d_var C 2 (by kernel_rfl)) d_int) (a_cons (d_ix (d_var C 2 (by kernel_rfl)) d_int) a_nil))))))))
theorem sc_read : FnScope N_read ["text"] (defScope (top 46)) := ⟨rfl, rfl, rfl, by decide +kernel, rfl, by decide +kernel, by decide +kernel⟩
theorem body_read  (T : Txt mg) (F_deed_in : Fn P w K mg base "deed_in" 6 1 m_deed_in) (F_is_book : Fn P w K mg base "is_book" 8 1 m_is_book) (F_written : Fn P w K mg base "written" 6 1 m_written) (C : Cxt P w K mg base X N_read (defScope (top 46)) 8 true) : DSs X E0k (defBody (top 46)) sem_read :=
  (ss_cons (s_set C 1 (by kernel_rfl) (d_tupF C (by kernel_rfl) T.b_tuple (a_cons (d_new (f_comp1 C [] [] (by kernel_rfl) (i_seq (d_slice (d_split (d_var C 0 (by kernel_rfl)) d_str) o_none (o_some (d_neg d_int)))) (fun X' C' => ts_nil) (fun X' C' => (d_call C' F_deed_in (by decide) (by kernel_rfl) (a_cons (d_var C' 0 (by kernel_rfl)) a_nil))))) a_nil))) (ss_cons (s_if (w_t (w_or (t_not (t_val (d_call C F_is_book (by decide) (by kernel_rfl) (a_cons (d_var C 1 (by kernel_rfl)) a_nil)))) (w_or1 (t_ne C (d_call C F_written (by decide) (by kernel_rfl) (a_cons (d_var C 1 (by kernel_rfl)) a_nil)) (d_var C 0 (by kernel_rfl)))))) (ss_one s_no) ss_nil) (ss_one (s_ret (d_var C 1 (by kernel_rfl))))))
theorem sc__law_cell : FnScope N__law_cell ["_law_script", "_law_k"] (defScope (top 48)) := ⟨rfl, rfl, rfl, by decide +kernel, rfl, by decide +kernel, by decide +kernel⟩
theorem body__law_cell  (T : Txt mg) (C : Cxt P w K mg base X N__law_cell (defScope (top 48)) 0 true) : DSs X E0k (defBody (top 48)) sem__law_cell :=
  (ss_cons (s_if (t_eq C (d_var C 0 (by kernel_rfl)) (d_new (f_lst a_nil))) (ss_one (s_ret (d_mul d_int (d_var C 1 (by kernel_rfl))))) ss_nil) (ss_one (s_ret (d_add (d_ix (d_var C 0 (by kernel_rfl)) (d_mod (d_var C 1 (by kernel_rfl)) (d_len C (by kernel_rfl) T.b_len (a_cons (d_var C 0 (by kernel_rfl)) a_nil)))) (d_mul d_int (d_fdiv (d_var C 1 (by kernel_rfl)) (d_len C (by kernel_rfl) T.b_len (a_cons (d_var C 0 (by kernel_rfl)) a_nil))))))))
theorem sc__law_drawn : FnScope N__law_drawn ["_law_script", "_law_k", "_law_many"] (defScope (top 49)) := ⟨rfl, rfl, rfl, by decide +kernel, rfl, by decide +kernel, by decide +kernel⟩
theorem body__law_drawn  (T : Txt mg) (F__law_cell : Fn P w K mg base "_law_cell" 1 2 m__law_cell) (C : Cxt P w K mg base X N__law_drawn (defScope (top 49)) 1 true) : DSs X E0k (defBody (top 49)) sem__law_drawn :=
  (ss_cons (s_set C 3 (by kernel_rfl) (d_mod (d_add (d_mul (d_mod (d_call C F__law_cell (by decide) (by kernel_rfl) (a_cons (d_var C 0 (by kernel_rfl)) (a_cons (d_var C 1 (by kernel_rfl)) a_nil))) d_int) d_int) (d_mul d_int (d_add (d_var C 1 (by kernel_rfl)) d_int))) d_int)) (ss_cons (s_set C 3 (by kernel_rfl) (d_mod (d_add (d_mul (d_var C 3 (by kernel_rfl)) (d_var C 3 (by kernel_rfl))) (d_fdiv (d_var C 3 (by kernel_rfl)) d_int)) d_int)) (ss_one (s_ret (d_mod (d_fdiv (d_mod (d_add (d_mul (d_var C 3 (by kernel_rfl)) (d_var C 3 (by kernel_rfl))) (d_fdiv (d_var C 3 (by kernel_rfl)) d_int)) d_int) d_int) (d_var C 2 (by kernel_rfl)))))))
theorem sc__law_names : FnScope N__law_names ["_law_script", "_law_at"] (defScope (top 50)) := ⟨rfl, rfl, rfl, by decide +kernel, rfl, by decide +kernel, by decide +kernel⟩
theorem st__law_names_0  (T : Txt mg) (F__law_drawn : Fn P w K mg base "_law_drawn" 2 3 m__law_drawn) (C : Cxt P w K mg base X N__law_names (defScope (top 50)) 2 true) : DS X E0k (stm 50 0) sx__law_names_0 :=
  (s_own C 2 (by kernel_rfl) (f_lst a_nil))
theorem st__law_names_1  (T : Txt mg) (F__law_drawn : Fn P w K mg base "_law_drawn" 2 3 m__law_drawn) (C : Cxt P w K mg base X N__law_names (defScope (top 50)) 2 true) : DS X E0k (stm 50 1) sx__law_names_1 :=
  (s_for1 C 3 (by kernel_rfl) (i_range1 C (by kernel_rfl) T.b_range (a_cons d_int a_nil)) (ss_cons (s_set C 4 (by kernel_rfl) (d_mul (d_ix d_str (d_call C F__law_drawn (by decide) (by kernel_rfl) (a_cons (d_var C 0 (by kernel_rfl)) (a_cons (d_add (d_var C 1 (by kernel_rfl)) (d_mul d_int (d_var C 3 (by kernel_rfl)))) (a_cons d_int a_nil))))) (d_call C F__law_drawn (by decide) (by kernel_rfl) (a_cons (d_var C 0 (by kernel_rfl)) (a_cons (d_add (d_add (d_var C 1 (by kernel_rfl)) (d_mul d_int (d_var C 3 (by kernel_rfl)))) d_int) (a_cons d_int a_nil)))))) (ss_one (s_app C 2 (by kernel_rfl) (d_ix (d_new (f_lst (a_cons (d_add (d_var C 4 (by kernel_rfl)) (d_ix d_str (d_var C 3 (by kernel_rfl)))) (a_cons (d_add (d_ix d_str (d_var C 3 (by kernel_rfl))) (d_var C 4 (by kernel_rfl))) a_nil)))) (d_call C F__law_drawn (by decide) (by kernel_rfl) (a_cons (d_var C 0 (by kernel_rfl)) (a_cons (d_add (d_var C 1 (by kernel_rfl)) d_int) (a_cons d_int a_nil)))))))))
theorem st__law_names_2  (T : Txt mg) (F__law_drawn : Fn P w K mg base "_law_drawn" 2 3 m__law_drawn) (C : Cxt P w K mg base X N__law_names (defScope (top 50)) 2 true) : DS X E0k (stm 50 2) sx__law_names_2 :=
  (s_fz 2 (s_ret (d_var C 2 (by kernel_rfl))))
theorem body__law_names  (T : Txt mg) (F__law_drawn : Fn P w K mg base "_law_drawn" 2 3 m__law_drawn) (C : Cxt P w K mg base X N__law_names (defScope (top 50)) 2 true) : DSs X E0k (defBody (top 50)) sem__law_names := by
  have h : defBody (top 50) = [stm 50 0, stm 50 1, stm 50 2] := by kernel_rfl
  rw [h]
  exact (ss_cons (st__law_names_0 T F__law_drawn C) (ss_cons (st__law_names_1 T F__law_drawn C) (ss_one (st__law_names_2 T F__law_drawn C))))
theorem sc__law_words : FnScope N__law_words ["_law_script", "_law_at"] (defScope (top 51)) := ⟨rfl, rfl, rfl, by decide +kernel, rfl, by decide +kernel, by decide +kernel⟩
theorem body__law_words  (T : Txt mg) (F__law_drawn : Fn P w K mg base "_law_drawn" 2 3 m__law_drawn) (C : Cxt P w K mg base X N__law_words (defScope (top 51)) 2 true) : DSs X E0k (defBody (top 51)) sem__law_words :=
  (ss_one (s_ret (d_join (d_new (f_comp1 C [0, 1] ["_law_script", "_law_at"] (by kernel_rfl) (i_range1 C (by kernel_rfl) T.b_range (a_cons (d_add d_int (d_call C F__law_drawn (by decide) (by kernel_rfl) (a_cons (d_var C 0 (by kernel_rfl)) (a_cons (d_add (d_var C 1 (by kernel_rfl)) d_int) (a_cons d_int a_nil))))) a_nil)) (fun X' C' => ts_nil) (fun X' C' => (d_ix d_str (d_call C' F__law_drawn (by decide) (by kernel_rfl) (a_cons (d_var C' 1 (by kernel_rfl)) (a_cons (d_add (d_var C' 2 (by kernel_rfl)) (d_var C' 0 (by kernel_rfl))) (a_cons d_int a_nil)))))))))))
theorem sc__law_signs : FnScope N__law_signs ["_law_book_here"] (defScope (top 52)) := ⟨rfl, rfl, rfl, by decide +kernel, rfl, by decide +kernel, by decide +kernel⟩
theorem body__law_signs  (T : Txt mg) (C : Cxt P w K mg base X N__law_signs (defScope (top 52)) 0 true) : DSs X E0k (defBody (top 52)) sem__law_signs :=
  (ss_cons (s_set C 1 (by kernel_rfl) (d_new (f_lst a_nil))) (ss_cons (s_for1 C 2 (by kernel_rfl) (i_seq (d_var C 0 (by kernel_rfl))) (ss_one (s_if (t_eq C (d_ix (d_var C 2 (by kernel_rfl)) d_int) d_str) (ss_one (s_set C 1 (by kernel_rfl) (d_add (d_var C 1 (by kernel_rfl)) (d_new (f_comp1 C [2] ["_law_deed_here"] (by kernel_rfl) (i_range1 C (by kernel_rfl) T.b_range (a_cons (d_len C (by kernel_rfl) T.b_len (a_cons (d_ix (d_var C 2 (by kernel_rfl)) d_int) a_nil)) a_nil)) (fun X' C' => ts_nil) (fun X' C' => (d_tup (a_cons (d_ix (d_var C' 1 (by kernel_rfl)) d_int) (a_cons (d_var C' 0 (by kernel_rfl)) a_nil))))))))) ss_nil))) (ss_one (s_ret (d_var C 1 (by kernel_rfl))))))
theorem sc__law_anchor : FnScope N__law_anchor ["_law_script", "_law_at", "_law_signs_here"] (defScope (top 53)) := ⟨rfl, rfl, rfl, by decide +kernel, rfl, by decide +kernel, by decide +kernel⟩
theorem body__law_anchor  (T : Txt mg) (F__law_drawn : Fn P w K mg base "_law_drawn" 2 3 m__law_drawn) (C : Cxt P w K mg base X N__law_anchor (defScope (top 53)) 2 true) : DSs X E0k (defBody (top 53)) sem__law_anchor :=
  (ss_cons (s_set C 3 (by kernel_rfl) (d_ix (d_add (d_new (f_lst (a_cons d_none a_nil))) (d_var C 2 (by kernel_rfl))) (d_call C F__law_drawn (by decide) (by kernel_rfl) (a_cons (d_var C 0 (by kernel_rfl)) (a_cons (d_var C 1 (by kernel_rfl)) (a_cons (d_add (d_len C (by kernel_rfl) T.b_len (a_cons (d_var C 2 (by kernel_rfl)) a_nil)) d_int) a_nil)))))) (ss_one (s_ret (d_tup (a_cons (d_var C 3 (by kernel_rfl)) (a_cons (d_ix d_str (d_call C F__law_drawn (by decide) (by kernel_rfl) (a_cons (d_var C 0 (by kernel_rfl)) (a_cons (d_add (d_var C 1 (by kernel_rfl)) d_int) (a_cons d_int a_nil))))) a_nil))))))
theorem sc__law_deed : FnScope N__law_deed ["_law_script", "_law_at", "_law_one", "_law_known", "_law_names_here"] (defScope (top 54)) := ⟨rfl, rfl, rfl, by decide +kernel, rfl, by decide +kernel, by decide +kernel⟩
theorem st__law_deed_0  (T : Txt mg) (F__law_anchor : Fn P w K mg base "_law_anchor" 3 3 m__law_anchor) (F__law_drawn : Fn P w K mg base "_law_drawn" 2 3 m__law_drawn) (F__law_signs : Fn P w K mg base "_law_signs" 1 1 m__law_signs) (F__law_words : Fn P w K mg base "_law_words" 3 2 m__law_words) (C : Cxt P w K mg base X N__law_deed (defScope (top 54)) 3 true) : DS X E0k (stm 54 0) sx__law_deed_0 :=
  (s_set C 5 (by kernel_rfl) (d_call C F__law_signs (by decide) (by kernel_rfl) (a_cons (d_var C 3 (by kernel_rfl)) a_nil)))
theorem st__law_deed_1  (T : Txt mg) (F__law_anchor : Fn P w K mg base "_law_anchor" 3 3 m__law_anchor) (F__law_drawn : Fn P w K mg base "_law_drawn" 2 3 m__law_drawn) (F__law_signs : Fn P w K mg base "_law_signs" 1 1 m__law_signs) (F__law_words : Fn P w K mg base "_law_words" 3 2 m__law_words) (C : Cxt P w K mg base X N__law_deed (defScope (top 54)) 3 true) : DS X E0k (stm 54 1) sx__law_deed_1 :=
  (s_set C 6 (by kernel_rfl) (d_call C F__law_drawn (by decide) (by kernel_rfl) (a_cons (d_var C 0 (by kernel_rfl)) (a_cons (d_var C 1 (by kernel_rfl)) (a_cons d_int a_nil)))))
theorem st__law_deed_2  (T : Txt mg) (F__law_anchor : Fn P w K mg base "_law_anchor" 3 3 m__law_anchor) (F__law_drawn : Fn P w K mg base "_law_drawn" 2 3 m__law_drawn) (F__law_signs : Fn P w K mg base "_law_signs" 1 1 m__law_signs) (F__law_words : Fn P w K mg base "_law_words" 3 2 m__law_words) (C : Cxt P w K mg base X N__law_deed (defScope (top 54)) 3 true) : DS X E0k (stm 54 2) sx__law_deed_2 :=
  (s_if (w_t (w_and (t_lt C (d_var C 6 (by kernel_rfl)) d_int) (w_and1 (t_ne C (d_var C 5 (by kernel_rfl)) (d_new (f_lst a_nil)))))) (ss_cons (s_newComp2 C 8 (by kernel_rfl) (by kernel_rfl) [0, 1] ["_law_script", "_law_at"] (by kernel_rfl) (i_enum C (by kernel_rfl) T.b_enumerate (a_cons (d_var C 5 (by kernel_rfl)) a_nil)) (fun X' C' => (ts_one (t_eq C' (d_call C' F__law_drawn (by decide) (by kernel_rfl) (a_cons (d_var C' 2 (by kernel_rfl)) (a_cons (d_add (d_add (d_var C' 3 (by kernel_rfl)) d_int) (d_var C' 0 (by kernel_rfl))) (a_cons d_int a_nil)))) d_int))) (fun X' C' => (d_var C' 1 (by kernel_rfl)))) (ss_one (s_ret (d_tup (a_cons d_str (a_cons (d_var C 2 (by kernel_rfl)) (a_cons (d_tupF C (by kernel_rfl) T.b_tuple (a_cons (d_add (d_var C 8 (by kernel_rfl)) (d_mul (d_slice (d_var C 5 (by kernel_rfl)) o_none (o_some d_int)) (d_intF C (by kernel_rfl) T.b_int (a_cons (d_eq C (d_var C 8 (by kernel_rfl)) (d_new (f_lst a_nil))) a_nil)))) a_nil)) a_nil))))))) ss_nil)
theorem st__law_deed_3  (T : Txt mg) (F__law_anchor : Fn P w K mg base "_law_anchor" 3 3 m__law_anchor) (F__law_drawn : Fn P w K mg base "_law_drawn" 2 3 m__law_drawn) (F__law_signs : Fn P w K mg base "_law_signs" 1 1 m__law_signs) (F__law_words : Fn P w K mg base "_law_words" 3 2 m__law_words) (C : Cxt P w K mg base X N__law_deed (defScope (top 54)) 3 true) : DS X E0k (stm 54 3) sx__law_deed_3 :=
  (s_if (t_lt C (d_var C 6 (by kernel_rfl)) d_int) (ss_cons (s_set C 9 (by kernel_rfl) (d_tup (a_cons (d_call C F__law_anchor (by decide) (by kernel_rfl) (a_cons (d_var C 0 (by kernel_rfl)) (a_cons (d_add (d_var C 1 (by kernel_rfl)) d_int) (a_cons (d_var C 5 (by kernel_rfl)) a_nil)))) (a_cons (d_call C F__law_anchor (by decide) (by kernel_rfl) (a_cons (d_var C 0 (by kernel_rfl)) (a_cons (d_add (d_var C 1 (by kernel_rfl)) d_int) (a_cons (d_var C 5 (by kernel_rfl)) a_nil)))) a_nil)))) (ss_one (s_ret (d_add (d_tup (a_cons d_str (a_cons (d_var C 2 (by kernel_rfl)) (a_cons (d_ix (d_var C 4 (by kernel_rfl)) (d_call C F__law_drawn (by decide) (by kernel_rfl) (a_cons (d_var C 0 (by kernel_rfl)) (a_cons (d_add (d_var C 1 (by kernel_rfl)) d_int) (a_cons d_int a_nil))))) a_nil)))) (d_var C 9 (by kernel_rfl)))))) ss_nil)
theorem st__law_deed_4  (T : Txt mg) (F__law_anchor : Fn P w K mg base "_law_anchor" 3 3 m__law_anchor) (F__law_drawn : Fn P w K mg base "_law_drawn" 2 3 m__law_drawn) (F__law_signs : Fn P w K mg base "_law_signs" 1 1 m__law_signs) (F__law_words : Fn P w K mg base "_law_words" 3 2 m__law_words) (C : Cxt P w K mg base X N__law_deed (defScope (top 54)) 3 true) : DS X E0k (stm 54 4) sx__law_deed_4 :=
  (s_if (t_eq C (d_var C 6 (by kernel_rfl)) d_int) (ss_one (s_ret (d_tup (a_cons d_str (a_cons (d_var C 2 (by kernel_rfl)) (a_cons (d_ix (d_var C 4 (by kernel_rfl)) (d_call C F__law_drawn (by decide) (by kernel_rfl) (a_cons (d_var C 0 (by kernel_rfl)) (a_cons (d_add (d_var C 1 (by kernel_rfl)) d_int) (a_cons d_int a_nil))))) a_nil)))))) ss_nil)
theorem st__law_deed_5  (T : Txt mg) (F__law_anchor : Fn P w K mg base "_law_anchor" 3 3 m__law_anchor) (F__law_drawn : Fn P w K mg base "_law_drawn" 2 3 m__law_drawn) (F__law_signs : Fn P w K mg base "_law_signs" 1 1 m__law_signs) (F__law_words : Fn P w K mg base "_law_words" 3 2 m__law_words) (C : Cxt P w K mg base X N__law_deed (defScope (top 54)) 3 true) : DS X E0k (stm 54 5) sx__law_deed_5 :=
  (s_if (w_t (w_and (t_lt C (d_var C 6 (by kernel_rfl)) d_int) (w_and1 (t_ne C (d_var C 3 (by kernel_rfl)) (d_tup a_nil))))) (ss_one (s_ret (d_tup (a_cons d_str (a_cons (d_var C 2 (by kernel_rfl)) (a_cons (d_ix (d_ix (d_var C 3 (by kernel_rfl)) (d_call C F__law_drawn (by decide) (by kernel_rfl) (a_cons (d_var C 0 (by kernel_rfl)) (a_cons (d_add (d_var C 1 (by kernel_rfl)) d_int) (a_cons (d_len C (by kernel_rfl) T.b_len (a_cons (d_var C 3 (by kernel_rfl)) a_nil)) a_nil))))) d_int) a_nil)))))) ss_nil)
theorem st__law_deed_6  (T : Txt mg) (F__law_anchor : Fn P w K mg base "_law_anchor" 3 3 m__law_anchor) (F__law_drawn : Fn P w K mg base "_law_drawn" 2 3 m__law_drawn) (F__law_signs : Fn P w K mg base "_law_signs" 1 1 m__law_signs) (F__law_words : Fn P w K mg base "_law_words" 3 2 m__law_words) (C : Cxt P w K mg base X N__law_deed (defScope (top 54)) 3 true) : DS X E0k (stm 54 6) sx__law_deed_6 :=
  (s_set C 7 (by kernel_rfl) (d_ix (d_add (d_add (d_new (f_lst (a_cons d_none a_nil))) (d_var C 5 (by kernel_rfl))) (d_slice (d_var C 5 (by kernel_rfl)) (o_some (d_neg d_int)) o_none)) (d_call C F__law_drawn (by decide) (by kernel_rfl) (a_cons (d_var C 0 (by kernel_rfl)) (a_cons (d_add (d_var C 1 (by kernel_rfl)) d_int) (a_cons (d_add (d_add (d_len C (by kernel_rfl) T.b_len (a_cons (d_var C 5 (by kernel_rfl)) a_nil)) d_int) (d_len C (by kernel_rfl) T.b_len (a_cons (d_slice (d_var C 5 (by kernel_rfl)) (o_some (d_neg d_int)) o_none) a_nil))) a_nil))))))
theorem st__law_deed_7  (T : Txt mg) (F__law_anchor : Fn P w K mg base "_law_anchor" 3 3 m__law_anchor) (F__law_drawn : Fn P w K mg base "_law_drawn" 2 3 m__law_drawn) (F__law_signs : Fn P w K mg base "_law_signs" 1 1 m__law_signs) (F__law_words : Fn P w K mg base "_law_words" 3 2 m__law_words) (C : Cxt P w K mg base X N__law_deed (defScope (top 54)) 3 true) : DS X E0k (stm 54 7) sx__law_deed_7 :=
  (s_ret (d_tup (a_cons d_str (a_cons (d_var C 2 (by kernel_rfl)) (a_cons (d_var C 7 (by kernel_rfl)) (a_cons (d_call C F__law_words (by decide) (by kernel_rfl) (a_cons (d_var C 0 (by kernel_rfl)) (a_cons (d_add (d_var C 1 (by kernel_rfl)) d_int) a_nil))) a_nil))))))
theorem body__law_deed  (T : Txt mg) (F__law_anchor : Fn P w K mg base "_law_anchor" 3 3 m__law_anchor) (F__law_drawn : Fn P w K mg base "_law_drawn" 2 3 m__law_drawn) (F__law_signs : Fn P w K mg base "_law_signs" 1 1 m__law_signs) (F__law_words : Fn P w K mg base "_law_words" 3 2 m__law_words) (C : Cxt P w K mg base X N__law_deed (defScope (top 54)) 3 true) : DSs X E0k (defBody (top 54)) sem__law_deed := by
  have h : defBody (top 54) = [stm 54 0, stm 54 1, stm 54 2, stm 54 3, stm 54 4, stm 54 5, stm 54 6, stm 54 7] := by kernel_rfl
  rw [h]
  exact (ss_cons (st__law_deed_0 T F__law_anchor F__law_drawn F__law_signs F__law_words C) (ss_cons (st__law_deed_1 T F__law_anchor F__law_drawn F__law_signs F__law_words C) (ss_cons (st__law_deed_2 T F__law_anchor F__law_drawn F__law_signs F__law_words C) (ss_cons (st__law_deed_3 T F__law_anchor F__law_drawn F__law_signs F__law_words C) (ss_cons (st__law_deed_4 T F__law_anchor F__law_drawn F__law_signs F__law_words C) (ss_cons (st__law_deed_5 T F__law_anchor F__law_drawn F__law_signs F__law_words C) (ss_cons (st__law_deed_6 T F__law_anchor F__law_drawn F__law_signs F__law_words C) (ss_one (st__law_deed_7 T F__law_anchor F__law_drawn F__law_signs F__law_words C)))))))))
theorem sc__law_book : FnScope N__law_book ["_law_script", "_law_at", "_law_most", "_law_names_here"] (defScope (top 55)) := ⟨rfl, rfl, rfl, by decide +kernel, rfl, by decide +kernel, by decide +kernel⟩
theorem st__law_book_0  (T : Txt mg) (F__law_deed : Fn P w K mg base "_law_deed" 4 5 m__law_deed) (F__law_drawn : Fn P w K mg base "_law_drawn" 2 3 m__law_drawn) (C : Cxt P w K mg base X N__law_book (defScope (top 55)) 4 true) : DS X E0k (stm 55 0) sx__law_book_0 :=
  (s_set C 4 (by kernel_rfl) (d_tup a_nil))
theorem st__law_book_1  (T : Txt mg) (F__law_deed : Fn P w K mg base "_law_deed" 4 5 m__law_deed) (F__law_drawn : Fn P w K mg base "_law_drawn" 2 3 m__law_drawn) (C : Cxt P w K mg base X N__law_book (defScope (top 55)) 4 true) : DS X E0k (stm 55 1) sx__law_book_1 :=
  (s_set C 5 (by kernel_rfl) (d_tup (a_cons d_int (a_cons d_str a_nil))))
theorem st__law_book_2  (T : Txt mg) (F__law_deed : Fn P w K mg base "_law_deed" 4 5 m__law_deed) (F__law_drawn : Fn P w K mg base "_law_drawn" 2 3 m__law_drawn) (C : Cxt P w K mg base X N__law_book (defScope (top 55)) 4 true) : DS X E0k (stm 55 2) sx__law_book_2 :=
  (s_for1 C 6 (by kernel_rfl) (i_range1 C (by kernel_rfl) T.b_range (a_cons (d_call C F__law_drawn (by decide) (by kernel_rfl) (a_cons (d_var C 0 (by kernel_rfl)) (a_cons (d_var C 1 (by kernel_rfl)) (a_cons (d_add (d_var C 2 (by kernel_rfl)) d_int) a_nil)))) a_nil)) (ss_cons (s_set C 7 (by kernel_rfl) (d_add (d_ix (d_var C 5 (by kernel_rfl)) d_int) (d_call C F__law_drawn (by decide) (by kernel_rfl) (a_cons (d_var C 0 (by kernel_rfl)) (a_cons (d_add (d_add (d_var C 1 (by kernel_rfl)) d_int) (d_mul d_int (d_var C 6 (by kernel_rfl)))) (a_cons d_int a_nil)))))) (ss_cons (s_set C 8 (by kernel_rfl) (d_ix d_str (d_call C F__law_drawn (by decide) (by kernel_rfl) (a_cons (d_var C 0 (by kernel_rfl)) (a_cons (d_add (d_add (d_var C 1 (by kernel_rfl)) d_int) (d_mul d_int (d_var C 6 (by kernel_rfl)))) (a_cons d_int a_nil)))))) (ss_cons (s_if (w_t (w_and (t_ne C (d_var C 4 (by kernel_rfl)) (d_tup a_nil)) (w_and1 (t_le C (d_tup (a_cons (d_var C 7 (by kernel_rfl)) (a_cons (d_var C 8 (by kernel_rfl)) a_nil))) (d_var C 5 (by kernel_rfl)))))) (ss_one (s_set C 7 (by kernel_rfl) (d_add (d_ix (d_var C 5 (by kernel_rfl)) d_int) d_int))) ss_nil) (ss_cons (s_set C 5 (by kernel_rfl) (d_tup (a_cons (d_var C 7 (by kernel_rfl)) (a_cons (d_var C 8 (by kernel_rfl)) a_nil)))) (ss_cons (s_set C 9 (by kernel_rfl) (d_tupF C (by kernel_rfl) T.b_tuple (a_cons (d_new (f_comp1 C [7] ["_law_time"] (by kernel_rfl) (i_seq (d_var C 4 (by kernel_rfl))) (fun X' C' => (ts_one (t_lt C' (d_ix (d_ix (d_var C' 0 (by kernel_rfl)) d_int) d_int) (d_var C' 1 (by kernel_rfl))))) (fun X' C' => (d_var C' 0 (by kernel_rfl))))) a_nil))) (ss_one (s_set C 4 (by kernel_rfl) (d_add (d_var C 4 (by kernel_rfl)) (d_tup (a_cons (d_call C F__law_deed (by decide) (by kernel_rfl) (a_cons (d_var C 0 (by kernel_rfl)) (a_cons (d_add (d_add (d_var C 1 (by kernel_rfl)) d_int) (d_mul d_int (d_var C 6 (by kernel_rfl)))) (a_cons (d_var C 5 (by kernel_rfl)) (a_cons (d_var C 9 (by kernel_rfl)) (a_cons (d_var C 3 (by kernel_rfl)) a_nil)))))) a_nil)))))))))))
theorem st__law_book_3  (T : Txt mg) (F__law_deed : Fn P w K mg base "_law_deed" 4 5 m__law_deed) (F__law_drawn : Fn P w K mg base "_law_drawn" 2 3 m__law_drawn) (C : Cxt P w K mg base X N__law_book (defScope (top 55)) 4 true) : DS X E0k (stm 55 3) sx__law_book_3 :=
  (s_ret (d_var C 4 (by kernel_rfl)))
theorem body__law_book  (T : Txt mg) (F__law_deed : Fn P w K mg base "_law_deed" 4 5 m__law_deed) (F__law_drawn : Fn P w K mg base "_law_drawn" 2 3 m__law_drawn) (C : Cxt P w K mg base X N__law_book (defScope (top 55)) 4 true) : DSs X E0k (defBody (top 55)) sem__law_book := by
  have h : defBody (top 55) = [stm 55 0, stm 55 1, stm 55 2, stm 55 3] := by kernel_rfl
  rw [h]
  exact (ss_cons (st__law_book_0 T F__law_deed F__law_drawn C) (ss_cons (st__law_book_1 T F__law_deed F__law_drawn C) (ss_cons (st__law_book_2 T F__law_deed F__law_drawn C) (ss_one (st__law_book_3 T F__law_deed F__law_drawn C)))))
theorem sc__law_id_text : FnScope N__law_id_text ["_law_one"] (defScope (top 56)) := ⟨rfl, rfl, rfl, by decide +kernel, rfl, by decide +kernel, by decide +kernel⟩
theorem body__law_id_text  (T : Txt mg) (C : Cxt P w K mg base X N__law_id_text (defScope (top 56)) 0 true) : DSs X E0k (defBody (top 56)) sem__law_id_text :=
  (ss_one (s_ret (d_add (d_ix (d_var C 0 (by kernel_rfl)) d_int) (d_strF C (by kernel_rfl) T.b_str (a_cons (d_ix (d_var C 0 (by kernel_rfl)) d_int) a_nil)))))
theorem sc__law_sign_text : FnScope N__law_sign_text ["_law_sign"] (defScope (top 57)) := ⟨rfl, rfl, rfl, by decide +kernel, rfl, by decide +kernel, by decide +kernel⟩
theorem body__law_sign_text  (T : Txt mg) (F__law_id_text : Fn P w K mg base "_law_id_text" 1 1 m__law_id_text) (C : Cxt P w K mg base X N__law_sign_text (defScope (top 57)) 1 true) : DSs X E0k (defBody (top 57)) sem__law_sign_text :=
  (ss_cons (s_if (t_isN (d_var C 0 (by kernel_rfl))) (ss_one (s_ret d_str)) ss_nil) (ss_one (s_ret (d_add (d_add (d_call C F__law_id_text (by decide) (by kernel_rfl) (a_cons (d_ix (d_var C 0 (by kernel_rfl)) d_int) a_nil)) d_str) (d_strF C (by kernel_rfl) T.b_str (a_cons (d_ix (d_var C 0 (by kernel_rfl)) d_int) a_nil))))))
theorem sc__law_line : FnScope N__law_line ["_law_deed_here"] (defScope (top 58)) := ⟨rfl, rfl, rfl, by decide +kernel, rfl, by decide +kernel, by decide +kernel⟩
theorem st__law_line_0  (T : Txt mg) (F__law_id_text : Fn P w K mg base "_law_id_text" 1 1 m__law_id_text) (F__law_sign_text : Fn P w K mg base "_law_sign_text" 2 1 m__law_sign_text) (C : Cxt P w K mg base X N__law_line (defScope (top 58)) 2 true) : DS X E0k (stm 58 0) sx__law_line_0 :=
  (s_set C 1 (by kernel_rfl) (d_add (d_add (d_call C F__law_id_text (by decide) (by kernel_rfl) (a_cons (d_ix (d_var C 0 (by kernel_rfl)) d_int) a_nil)) d_str) (d_ix (d_var C 0 (by kernel_rfl)) d_int)))
theorem st__law_line_1  (T : Txt mg) (F__law_id_text : Fn P w K mg base "_law_id_text" 1 1 m__law_id_text) (F__law_sign_text : Fn P w K mg base "_law_sign_text" 2 1 m__law_sign_text) (C : Cxt P w K mg base X N__law_line (defScope (top 58)) 2 true) : DS X E0k (stm 58 1) sx__law_line_1 :=
  (s_if (t_eq C (d_ix (d_var C 0 (by kernel_rfl)) d_int) d_str) (ss_one (s_ret (d_add (d_add (d_add (d_add (d_var C 1 (by kernel_rfl)) d_str) (d_call C F__law_sign_text (by decide) (by kernel_rfl) (a_cons (d_ix (d_var C 0 (by kernel_rfl)) d_int) a_nil))) d_str) (d_ix (d_var C 0 (by kernel_rfl)) d_int)))) ss_nil)
theorem st__law_line_2  (T : Txt mg) (F__law_id_text : Fn P w K mg base "_law_id_text" 1 1 m__law_id_text) (F__law_sign_text : Fn P w K mg base "_law_sign_text" 2 1 m__law_sign_text) (C : Cxt P w K mg base X N__law_line (defScope (top 58)) 2 true) : DS X E0k (stm 58 2) sx__law_line_2 :=
  (s_if (t_eq C (d_ix (d_var C 0 (by kernel_rfl)) d_int) d_str) (ss_one (s_ret (d_add (d_var C 1 (by kernel_rfl)) (d_join (d_new (f_comp1 C [] [] (by kernel_rfl) (i_seq (d_ix (d_var C 0 (by kernel_rfl)) d_int)) (fun X' C' => ts_nil) (fun X' C' => (d_add d_str (d_call C' F__law_sign_text (by decide) (by kernel_rfl) (a_cons (d_var C' 0 (by kernel_rfl)) a_nil)))))))))) ss_nil)
theorem st__law_line_3  (T : Txt mg) (F__law_id_text : Fn P w K mg base "_law_id_text" 1 1 m__law_id_text) (F__law_sign_text : Fn P w K mg base "_law_sign_text" 2 1 m__law_sign_text) (C : Cxt P w K mg base X N__law_line (defScope (top 58)) 2 true) : DS X E0k (stm 58 3) sx__law_line_3 :=
  (s_if (t_eq C (d_ix (d_var C 0 (by kernel_rfl)) d_int) d_str) (ss_one (s_ret (d_add (d_add (d_var C 1 (by kernel_rfl)) d_str) (d_call C F__law_id_text (by decide) (by kernel_rfl) (a_cons (d_ix (d_var C 0 (by kernel_rfl)) d_int) a_nil))))) ss_nil)
theorem st__law_line_4  (T : Txt mg) (F__law_id_text : Fn P w K mg base "_law_id_text" 1 1 m__law_id_text) (F__law_sign_text : Fn P w K mg base "_law_sign_text" 2 1 m__law_sign_text) (C : Cxt P w K mg base X N__law_line (defScope (top 58)) 2 true) : DS X E0k (stm 58 4) sx__law_line_4 :=
  (s_set C 1 (by kernel_rfl) (d_add (d_add (d_var C 1 (by kernel_rfl)) d_str) (d_ix (d_var C 0 (by kernel_rfl)) d_int)))
theorem st__law_line_5  (T : Txt mg) (F__law_id_text : Fn P w K mg base "_law_id_text" 1 1 m__law_id_text) (F__law_sign_text : Fn P w K mg base "_law_sign_text" 2 1 m__law_sign_text) (C : Cxt P w K mg base X N__law_line (defScope (top 58)) 2 true) : DS X E0k (stm 58 5) sx__law_line_5 :=
  (s_for1 C 2 (by kernel_rfl) (i_seq (d_slice (d_var C 0 (by kernel_rfl)) (o_some d_int) o_none)) (ss_one (s_set C 1 (by kernel_rfl) (d_add (d_add (d_add (d_var C 1 (by kernel_rfl)) d_str) (d_call C F__law_sign_text (by decide) (by kernel_rfl) (a_cons (d_ix (d_var C 2 (by kernel_rfl)) d_int) a_nil))) (d_ix d_str (d_intF C (by kernel_rfl) T.b_int (a_cons (d_eq C (d_ix (d_var C 2 (by kernel_rfl)) d_int) d_str) a_nil)))))))
theorem st__law_line_6  (T : Txt mg) (F__law_id_text : Fn P w K mg base "_law_id_text" 1 1 m__law_id_text) (F__law_sign_text : Fn P w K mg base "_law_sign_text" 2 1 m__law_sign_text) (C : Cxt P w K mg base X N__law_line (defScope (top 58)) 2 true) : DS X E0k (stm 58 6) sx__law_line_6 :=
  (s_ret (d_var C 1 (by kernel_rfl)))
theorem body__law_line  (T : Txt mg) (F__law_id_text : Fn P w K mg base "_law_id_text" 1 1 m__law_id_text) (F__law_sign_text : Fn P w K mg base "_law_sign_text" 2 1 m__law_sign_text) (C : Cxt P w K mg base X N__law_line (defScope (top 58)) 2 true) : DSs X E0k (defBody (top 58)) sem__law_line := by
  have h : defBody (top 58) = [stm 58 0, stm 58 1, stm 58 2, stm 58 3, stm 58 4, stm 58 5, stm 58 6] := by kernel_rfl
  rw [h]
  exact (ss_cons (st__law_line_0 T F__law_id_text F__law_sign_text C) (ss_cons (st__law_line_1 T F__law_id_text F__law_sign_text C) (ss_cons (st__law_line_2 T F__law_id_text F__law_sign_text C) (ss_cons (st__law_line_3 T F__law_id_text F__law_sign_text C) (ss_cons (st__law_line_4 T F__law_id_text F__law_sign_text C) (ss_cons (st__law_line_5 T F__law_id_text F__law_sign_text C) (ss_one (st__law_line_6 T F__law_id_text F__law_sign_text C))))))))
theorem sc_law : FnScope N_law ["_law_script"] (defScope (top 59)) := ⟨rfl, rfl, rfl, by decide +kernel, rfl, by decide +kernel, by decide +kernel⟩
theorem st_law_0  (T : Txt mg) (F__law_book : Fn P w K mg base "_law_book" 5 4 m__law_book) (F__law_line : Fn P w K mg base "_law_line" 3 1 m__law_line) (F__law_names : Fn P w K mg base "_law_names" 3 2 m__law_names) (F_read : Fn P w K mg base "read" 9 1 m_read) (F_written : Fn P w K mg base "written" 6 1 m_written) (C : Cxt P w K mg base X N_law (defScope (top 59)) 9 true) : DS X E0k (stm 59 0) sx_law_0 :=
  (s_set C 1 (by kernel_rfl) (d_call C F__law_book (by decide) (by kernel_rfl) (a_cons (d_var C 0 (by kernel_rfl)) (a_cons d_int (a_cons d_int (a_cons (d_call C F__law_names (by decide) (by kernel_rfl) (a_cons (d_var C 0 (by kernel_rfl)) (a_cons d_int a_nil))) a_nil))))))
theorem st_law_1  (T : Txt mg) (F__law_book : Fn P w K mg base "_law_book" 5 4 m__law_book) (F__law_line : Fn P w K mg base "_law_line" 3 1 m__law_line) (F__law_names : Fn P w K mg base "_law_names" 3 2 m__law_names) (F_read : Fn P w K mg base "read" 9 1 m_read) (F_written : Fn P w K mg base "written" 6 1 m_written) (C : Cxt P w K mg base X N_law (defScope (top 59)) 9 true) : DS X E0k (stm 59 1) sx_law_1 :=
  (s_set C 2 (by kernel_rfl) (d_call C F_written (by decide) (by kernel_rfl) (a_cons (d_var C 1 (by kernel_rfl)) a_nil)))
theorem st_law_2  (T : Txt mg) (F__law_book : Fn P w K mg base "_law_book" 5 4 m__law_book) (F__law_line : Fn P w K mg base "_law_line" 3 1 m__law_line) (F__law_names : Fn P w K mg base "_law_names" 3 2 m__law_names) (F_read : Fn P w K mg base "read" 9 1 m_read) (F_written : Fn P w K mg base "written" 6 1 m_written) (C : Cxt P w K mg base X N_law (defScope (top 59)) 9 true) : DS X E0k (stm 59 2) sx_law_2 :=
  (s_ret (d_and (d_eq C (d_var C 2 (by kernel_rfl)) (d_join (d_new (f_comp1 C [] [] (by kernel_rfl) (i_seq (d_var C 1 (by kernel_rfl))) (fun X' C' => ts_nil) (fun X' C' => (d_add (d_call C' F__law_line (by decide) (by kernel_rfl) (a_cons (d_var C' 0 (by kernel_rfl)) a_nil)) d_str)))))) (d_one (d_eq C (d_call C F_read (by decide) (by kernel_rfl) (a_cons (d_var C 2 (by kernel_rfl)) a_nil)) (d_var C 1 (by kernel_rfl))))))
theorem body_law  (T : Txt mg) (F__law_book : Fn P w K mg base "_law_book" 5 4 m__law_book) (F__law_line : Fn P w K mg base "_law_line" 3 1 m__law_line) (F__law_names : Fn P w K mg base "_law_names" 3 2 m__law_names) (F_read : Fn P w K mg base "read" 9 1 m_read) (F_written : Fn P w K mg base "written" 6 1 m_written) (C : Cxt P w K mg base X N_law (defScope (top 59)) 9 true) : DSs X E0k (defBody (top 59)) sem_law := by
  have h : defBody (top 59) = [stm 59 0, stm 59 1, stm 59 2] := by kernel_rfl
  rw [h]
  exact (ss_cons (st_law_0 T F__law_book F__law_line F__law_names F_read F_written C) (ss_cons (st_law_1 T F__law_book F__law_line F__law_names F_read F_written C) (ss_one (st_law_2 T F__law_book F__law_line F__law_names F_read F_written C))))
end Sm
end
section
set_option Elab.async false
set_option linter.all false
set_option maxRecDepth 100000
set_option maxHeartbeats 4000000
set_option autoImplicit false
namespace Sm
open PySem PySem.Spec PyProof.Rows L2
theorem def_mk {K : PySem.W.Frag} {mg : Str -> Option Value} {h : Heap} {x : Str} {st : Stmt} {ps : List Str} {f : Addr} {oc : Value} {od an : Option Addr} {osl : Array (Option Value)} {kV doc pm cdv ct : Value} (X : K.In h) (G : h.Ns mainGlobals mg) (a : PySem.W.nsIn K mainGlobals x = some (some (.ref f)))
    (l : K.lookup f = some ⟨oc, od, .func (PySem.W.fnOf x x (defArgs st) (defBody st) (defScope st) .none kV doc pm an cdv ct), osl⟩) (c : PySem.W.codeIn K cdv x = true) (k : PySem.W.keepIn K (.ref f) = true)
    (hb : ∀ (kV doc pm : Value) (an : Option Addr) (cdv ct : Value) (us : List Value), us.length = ps.length -> bindArgs (PySem.W.fnOf x x (defArgs st) (defBody st) (defScope st) .none kV doc pm an cdv ct) ⟨us, []⟩ = pure (ps.zip us)) : Def K mg x st ps :=
  ⟨f, _, fun_mk l c k, PySem.W.mg_of X G a, (fun_mk l c k).binds hb⟩
theorem look_mem : ∀ {l : List (Addr × Obj)} {a : Addr} {o : Obj}, l.lookup a = some o -> (a, o) ∈ l
  | [], _, _, h => nomatch h
  | (b, q) :: r, a, o, h => by
    rw [List.lookup_cons] at h
    cases e : a == b with
    | true => rw [e] at h; cases h; rw [eq_of_beq e]; exact .head _
    | false => rw [e] at h; exact .tail _ (look_mem h)
noncomputable def noList (K : PySem.W.Frag) : Bool := K.all fun p => !(match p.2.cls with | .type n => n == "list" | _ => false)
theorem noList.out {K : PySem.W.Frag} (h : noList K = true) {a : Addr} {o : Obj} (e : K.lookup a = some o) : o.cls ≠ .type "list" := fun z => by
  have hm : (a, o) ∈ K := look_mem e
  unfold noList at h
  have := List.all_eq_true.mp h _ hm
  rw [z] at this
  simp at this
theorem us_cons {us : List Value} {n : Nat} (h : us.length = n + 1) : ∃ a t, us = a :: t /\ t.length = n := by cases us with | nil => cases h | cons a t => exact ⟨a, t, rfl, Nat.succ.inj h⟩
theorem def_mk1 {K : PySem.W.Frag} {mg : Str -> Option Value} {h : Heap} {x : Str} {st : Stmt} {ps : List Str} {f : Addr} {oc : Value} {od an : Option Addr} {osl : Array (Option Value)} {kV doc pm cdv ct : Value} (X : K.In h) (G : h.Ns mainGlobals mg) (a : PySem.W.nsIn K mainGlobals x = some (some (.ref f)))
    (l : K.lookup f = some ⟨oc, od, .func (PySem.W.fnOf x x (defArgs st) (defBody st) (defScope st) .none kV doc pm an cdv ct), osl⟩) (c : PySem.W.codeIn K cdv x = true) (k : PySem.W.keepIn K (.ref f) = true)
    (hb : ∀ (kV doc pm : Value) (an : Option Addr) (cdv ct : Value) (u0 : Value), bindArgs (PySem.W.fnOf x x (defArgs st) (defBody st) (defScope st) .none kV doc pm an cdv ct) ⟨[u0], []⟩ = pure (ps.zip [u0])) (hp : ps.length = 1) : Def K mg x st ps :=
  def_mk X G a l c k fun kV doc pm an cdv ct us hl => by
    have h0 := hl.trans hp
    obtain ⟨u0, t0, rfl, h1⟩ := us_cons h0
    cases List.length_eq_zero_iff.mp h1
    exact hb kV doc pm an cdv ct u0
theorem def_mk2 {K : PySem.W.Frag} {mg : Str -> Option Value} {h : Heap} {x : Str} {st : Stmt} {ps : List Str} {f : Addr} {oc : Value} {od an : Option Addr} {osl : Array (Option Value)} {kV doc pm cdv ct : Value} (X : K.In h) (G : h.Ns mainGlobals mg) (a : PySem.W.nsIn K mainGlobals x = some (some (.ref f)))
    (l : K.lookup f = some ⟨oc, od, .func (PySem.W.fnOf x x (defArgs st) (defBody st) (defScope st) .none kV doc pm an cdv ct), osl⟩) (c : PySem.W.codeIn K cdv x = true) (k : PySem.W.keepIn K (.ref f) = true)
    (hb : ∀ (kV doc pm : Value) (an : Option Addr) (cdv ct : Value) (u0 u1 : Value), bindArgs (PySem.W.fnOf x x (defArgs st) (defBody st) (defScope st) .none kV doc pm an cdv ct) ⟨[u0, u1], []⟩ = pure (ps.zip [u0, u1])) (hp : ps.length = 2) : Def K mg x st ps :=
  def_mk X G a l c k fun kV doc pm an cdv ct us hl => by
    have h0 := hl.trans hp
    obtain ⟨u0, t0, rfl, h1⟩ := us_cons h0
    obtain ⟨u1, t1, rfl, h2⟩ := us_cons h1
    cases List.length_eq_zero_iff.mp h2
    exact hb kV doc pm an cdv ct u0 u1
theorem def_mk3 {K : PySem.W.Frag} {mg : Str -> Option Value} {h : Heap} {x : Str} {st : Stmt} {ps : List Str} {f : Addr} {oc : Value} {od an : Option Addr} {osl : Array (Option Value)} {kV doc pm cdv ct : Value} (X : K.In h) (G : h.Ns mainGlobals mg) (a : PySem.W.nsIn K mainGlobals x = some (some (.ref f)))
    (l : K.lookup f = some ⟨oc, od, .func (PySem.W.fnOf x x (defArgs st) (defBody st) (defScope st) .none kV doc pm an cdv ct), osl⟩) (c : PySem.W.codeIn K cdv x = true) (k : PySem.W.keepIn K (.ref f) = true)
    (hb : ∀ (kV doc pm : Value) (an : Option Addr) (cdv ct : Value) (u0 u1 u2 : Value), bindArgs (PySem.W.fnOf x x (defArgs st) (defBody st) (defScope st) .none kV doc pm an cdv ct) ⟨[u0, u1, u2], []⟩ = pure (ps.zip [u0, u1, u2])) (hp : ps.length = 3) : Def K mg x st ps :=
  def_mk X G a l c k fun kV doc pm an cdv ct us hl => by
    have h0 := hl.trans hp
    obtain ⟨u0, t0, rfl, h1⟩ := us_cons h0
    obtain ⟨u1, t1, rfl, h2⟩ := us_cons h1
    obtain ⟨u2, t2, rfl, h3⟩ := us_cons h2
    cases List.length_eq_zero_iff.mp h3
    exact hb kV doc pm an cdv ct u0 u1 u2
theorem def_mk4 {K : PySem.W.Frag} {mg : Str -> Option Value} {h : Heap} {x : Str} {st : Stmt} {ps : List Str} {f : Addr} {oc : Value} {od an : Option Addr} {osl : Array (Option Value)} {kV doc pm cdv ct : Value} (X : K.In h) (G : h.Ns mainGlobals mg) (a : PySem.W.nsIn K mainGlobals x = some (some (.ref f)))
    (l : K.lookup f = some ⟨oc, od, .func (PySem.W.fnOf x x (defArgs st) (defBody st) (defScope st) .none kV doc pm an cdv ct), osl⟩) (c : PySem.W.codeIn K cdv x = true) (k : PySem.W.keepIn K (.ref f) = true)
    (hb : ∀ (kV doc pm : Value) (an : Option Addr) (cdv ct : Value) (u0 u1 u2 u3 : Value), bindArgs (PySem.W.fnOf x x (defArgs st) (defBody st) (defScope st) .none kV doc pm an cdv ct) ⟨[u0, u1, u2, u3], []⟩ = pure (ps.zip [u0, u1, u2, u3])) (hp : ps.length = 4) : Def K mg x st ps :=
  def_mk X G a l c k fun kV doc pm an cdv ct us hl => by
    have h0 := hl.trans hp
    obtain ⟨u0, t0, rfl, h1⟩ := us_cons h0
    obtain ⟨u1, t1, rfl, h2⟩ := us_cons h1
    obtain ⟨u2, t2, rfl, h3⟩ := us_cons h2
    obtain ⟨u3, t3, rfl, h4⟩ := us_cons h3
    cases List.length_eq_zero_iff.mp h4
    exact hb kV doc pm an cdv ct u0 u1 u2 u3
theorem def_mk5 {K : PySem.W.Frag} {mg : Str -> Option Value} {h : Heap} {x : Str} {st : Stmt} {ps : List Str} {f : Addr} {oc : Value} {od an : Option Addr} {osl : Array (Option Value)} {kV doc pm cdv ct : Value} (X : K.In h) (G : h.Ns mainGlobals mg) (a : PySem.W.nsIn K mainGlobals x = some (some (.ref f)))
    (l : K.lookup f = some ⟨oc, od, .func (PySem.W.fnOf x x (defArgs st) (defBody st) (defScope st) .none kV doc pm an cdv ct), osl⟩) (c : PySem.W.codeIn K cdv x = true) (k : PySem.W.keepIn K (.ref f) = true)
    (hb : ∀ (kV doc pm : Value) (an : Option Addr) (cdv ct : Value) (u0 u1 u2 u3 u4 : Value), bindArgs (PySem.W.fnOf x x (defArgs st) (defBody st) (defScope st) .none kV doc pm an cdv ct) ⟨[u0, u1, u2, u3, u4], []⟩ = pure (ps.zip [u0, u1, u2, u3, u4])) (hp : ps.length = 5) : Def K mg x st ps :=
  def_mk X G a l c k fun kV doc pm an cdv ct us hl => by
    have h0 := hl.trans hp
    obtain ⟨u0, t0, rfl, h1⟩ := us_cons h0
    obtain ⟨u1, t1, rfl, h2⟩ := us_cons h1
    obtain ⟨u2, t2, rfl, h3⟩ := us_cons h2
    obtain ⟨u3, t3, rfl, h4⟩ := us_cons h3
    obtain ⟨u4, t4, rfl, h5⟩ := us_cons h4
    cases List.length_eq_zero_iff.mp h5
    exact hb kV doc pm an cdv ct u0 u1 u2 u3 u4
def Defs (K : PySem.W.Frag) (mg : Str -> Option Value) : Prop :=
  Def K mg "law" (top 59) ["_law_script"] /\
  Def K mg "written_id" (top 2) ["which"] /\
  Def K mg "written_sign" (top 3) ["sign"] /\
  Def K mg "written_anchor" (top 4) ["anchor"] /\
  Def K mg "words_behind" (top 5) ["deed"] /\
  Def K mg "written_deed" (top 6) ["deed"] /\
  Def K mg "written" (top 7) ["book"] /\
  Def K mg "is_whole" (top 14) ["thing", "least"] /\
  Def K mg "is_one_of" (top 15) ["thing", "letters"] /\
  Def K mg "is_text" (top 16) ["thing", "most", "first", "last"] /\
  Def K mg "is_name" (top 17) ["thing"] /\
  Def K mg "is_added_text" (top 18) ["thing"] /\
  Def K mg "is_pair" (top 19) ["thing"] /\
  Def K mg "is_deed_id" (top 20) ["thing"] /\
  Def K mg "is_sign_id" (top 21) ["thing"] /\
  Def K mg "is_sign_id_or_none" (top 22) ["thing"] /\
  Def K mg "is_anchor" (top 23) ["thing"] /\
  Def K mg "is_rising" (top 24) ["values"] /\
  Def K mg "is_dropped" (top 25) ["thing"] /\
  Def K mg "has_form" (top 26) ["word", "parts"] /\
  Def K mg "signs_named" (top 27) ["deed"] /\
  Def K mg "deeds_named" (top 28) ["deed"] /\
  Def K mg "is_deed" (top 29) ["thing"] /\
  Def K mg "signs_added" (top 30) ["deed"] /\
  Def K mg "by_ids" (top 31) ["deeds"] /\
  Def K mg "has_all_named" (top 32) ["known", "deed"] /\
  Def K mg "is_book" (top 33) ["thing"] /\
  Def K mg "number_in" (top 40) ["word"] /\
  Def K mg "id_in" (top 41) ["word"] /\
  Def K mg "sign_in" (top 42) ["word"] /\
  Def K mg "anchor_in" (top 43) ["word"] /\
  Def K mg "parts_in" (top 44) ["word", "rest"] /\
  Def K mg "deed_in" (top 45) ["line"] /\
  Def K mg "read" (top 46) ["text"] /\
  Def K mg "_law_cell" (top 48) ["_law_script", "_law_k"] /\
  Def K mg "_law_drawn" (top 49) ["_law_script", "_law_k", "_law_many"] /\
  Def K mg "_law_names" (top 50) ["_law_script", "_law_at"] /\
  Def K mg "_law_words" (top 51) ["_law_script", "_law_at"] /\
  Def K mg "_law_signs" (top 52) ["_law_book_here"] /\
  Def K mg "_law_anchor" (top 53) ["_law_script", "_law_at", "_law_signs_here"] /\
  Def K mg "_law_deed" (top 54) ["_law_script", "_law_at", "_law_one", "_law_known", "_law_names_here"] /\
  Def K mg "_law_book" (top 55) ["_law_script", "_law_at", "_law_most", "_law_names_here"] /\
  Def K mg "_law_id_text" (top 56) ["_law_one"] /\
  Def K mg "_law_sign_text" (top 57) ["_law_sign"] /\
  Def K mg "_law_line" (top 58) ["_law_deed_here"]
section
variable {P : Program} {w : World} {K : PySem.W.Frag} {mg : Str -> Option Value} {base : Heap}
theorem law_fn {f : Addr} {fd : FuncData} (F : L2.Fun K "law" "law" (top 59) f fd) (T : Txt mg) (D : Defs K mg) (DC_SIDE_SIGNS : HasC P w K mg "SIDE_SIGNS" [("l", "<"), ("r", ">")]) : FnOk P w K mg base CX0 10 f fd ["_law_script"] (spD 1 m_law) := by
  have D_law := D.1
  have R1 := D.2
  have D_written_id := R1.1
  have R2 := R1.2
  have D_written_sign := R2.1
  have R3 := R2.2
  have D_written_anchor := R3.1
  have R4 := R3.2
  have D_words_behind := R4.1
  have R5 := R4.2
  have D_written_deed := R5.1
  have R6 := R5.2
  have D_written := R6.1
  have R7 := R6.2
  have D_is_whole := R7.1
  have R8 := R7.2
  have D_is_one_of := R8.1
  have R9 := R8.2
  have D_is_text := R9.1
  have R10 := R9.2
  have D_is_name := R10.1
  have R11 := R10.2
  have D_is_added_text := R11.1
  have R12 := R11.2
  have D_is_pair := R12.1
  have R13 := R12.2
  have D_is_deed_id := R13.1
  have R14 := R13.2
  have D_is_sign_id := R14.1
  have R15 := R14.2
  have D_is_sign_id_or_none := R15.1
  have R16 := R15.2
  have D_is_anchor := R16.1
  have R17 := R16.2
  have D_is_rising := R17.1
  have R18 := R17.2
  have D_is_dropped := R18.1
  have R19 := R18.2
  have D_has_form := R19.1
  have R20 := R19.2
  have D_signs_named := R20.1
  have R21 := R20.2
  have D_deeds_named := R21.1
  have R22 := R21.2
  have D_is_deed := R22.1
  have R23 := R22.2
  have D_signs_added := R23.1
  have R24 := R23.2
  have D_by_ids := R24.1
  have R25 := R24.2
  have D_has_all_named := R25.1
  have R26 := R25.2
  have D_is_book := R26.1
  have R27 := R26.2
  have D_number_in := R27.1
  have R28 := R27.2
  have D_id_in := R28.1
  have R29 := R28.2
  have D_sign_in := R29.1
  have R30 := R29.2
  have D_anchor_in := R30.1
  have R31 := R30.2
  have D_parts_in := R31.1
  have R32 := R31.2
  have D_deed_in := R32.1
  have R33 := R32.2
  have D_read := R33.1
  have R34 := R33.2
  have D__law_cell := R34.1
  have R35 := R34.2
  have D__law_drawn := R35.1
  have R36 := R35.2
  have D__law_names := R36.1
  have R37 := R36.2
  have D__law_words := R37.1
  have R38 := R37.2
  have D__law_signs := R38.1
  have R39 := R38.2
  have D__law_anchor := R39.1
  have R40 := R39.2
  have D__law_deed := R40.1
  have R41 := R40.2
  have D__law_book := R41.1
  have R42 := R41.2
  have D__law_id_text := R42.1
  have R43 := R42.2
  have D__law_sign_text := R43.1
  have R44 := R43.2
  have D__law_line := R44
  have F_written_id : Fn P w K mg base "written_id" 1 1 m_written_id := fn_D (k := 0) D_written_id sc_written_id rfl (fun X C => body_written_id T  C) rfl
  have F_written_sign : Fn P w K mg base "written_sign" 2 1 m_written_sign := fn_D (k := 1) D_written_sign sc_written_sign rfl (fun X C => body_written_sign T F_written_id C) rfl
  have F_written_anchor : Fn P w K mg base "written_anchor" 3 1 m_written_anchor := fn_D (k := 2) D_written_anchor sc_written_anchor rfl (fun X C => body_written_anchor T DC_SIDE_SIGNS F_written_sign C) rfl
  have F_words_behind : Fn P w K mg base "words_behind" 4 1 m_words_behind := fn_D (k := 3) D_words_behind sc_words_behind rfl (fun X C => body_words_behind T F_written_anchor F_written_id F_written_sign C) rfl
  have F_written_deed : Fn P w K mg base "written_deed" 5 1 m_written_deed := fn_D (k := 4) D_written_deed sc_written_deed rfl (fun X C => body_written_deed T F_words_behind F_written_id C) rfl
  have F_written : Fn P w K mg base "written" 6 1 m_written := fn_D (k := 5) D_written sc_written rfl (fun X C => body_written T F_written_deed C) rfl
  have F_is_whole : Fn P w K mg base "is_whole" 1 2 m_is_whole := fn_D (k := 0) D_is_whole sc_is_whole rfl (fun X C => body_is_whole T  C) rfl
  have F_is_one_of : Fn P w K mg base "is_one_of" 1 2 m_is_one_of := fn_D (k := 0) D_is_one_of sc_is_one_of rfl (fun X C => body_is_one_of T  C) rfl
  have F_is_text : Fn P w K mg base "is_text" 1 4 m_is_text := fn_D (k := 0) D_is_text sc_is_text rfl (fun X C => body_is_text T  C) rfl
  have F_is_name : Fn P w K mg base "is_name" 2 1 m_is_name := fn_D (k := 1) D_is_name sc_is_name rfl (fun X C => body_is_name T F_is_text C) rfl
  have F_is_added_text : Fn P w K mg base "is_added_text" 2 1 m_is_added_text := fn_D (k := 1) D_is_added_text sc_is_added_text rfl (fun X C => body_is_added_text T F_is_text C) rfl
  have F_is_pair : Fn P w K mg base "is_pair" 1 1 m_is_pair := fn_D (k := 0) D_is_pair sc_is_pair rfl (fun X C => body_is_pair T  C) rfl
  have F_is_deed_id : Fn P w K mg base "is_deed_id" 2 1 m_is_deed_id := fn_D (k := 1) D_is_deed_id sc_is_deed_id rfl (fun X C => body_is_deed_id T F_is_one_of F_is_pair F_is_whole C) rfl
  have F_is_sign_id : Fn P w K mg base "is_sign_id" 3 1 m_is_sign_id := fn_D (k := 2) D_is_sign_id sc_is_sign_id rfl (fun X C => body_is_sign_id T F_is_deed_id F_is_pair F_is_whole C) rfl
  have F_is_sign_id_or_none : Fn P w K mg base "is_sign_id_or_none" 4 1 m_is_sign_id_or_none := fn_D (k := 3) D_is_sign_id_or_none sc_is_sign_id_or_none rfl (fun X C => body_is_sign_id_or_none T F_is_sign_id C) rfl
  have F_is_anchor : Fn P w K mg base "is_anchor" 5 1 m_is_anchor := fn_D (k := 4) D_is_anchor sc_is_anchor rfl (fun X C => body_is_anchor T F_is_one_of F_is_pair F_is_sign_id_or_none C) rfl
  have F_is_rising : Fn P w K mg base "is_rising" 1 1 m_is_rising := fn_D (k := 0) D_is_rising sc_is_rising rfl (fun X C => body_is_rising T  C) rfl
  have F_is_dropped : Fn P w K mg base "is_dropped" 4 1 m_is_dropped := fn_D (k := 3) D_is_dropped sc_is_dropped rfl (fun X C => body_is_dropped T F_is_rising F_is_sign_id C) rfl
  have F_has_form : Fn P w K mg base "has_form" 6 2 m_has_form := fn_D (k := 5) D_has_form sc_has_form rfl (fun X C => body_has_form T F_is_added_text F_is_anchor F_is_deed_id F_is_dropped F_is_name F_is_sign_id_or_none C) rfl
  have F_signs_named : Fn P w K mg base "signs_named" 1 1 m_signs_named := fn_D (k := 0) D_signs_named sc_signs_named rfl (fun X C => body_signs_named T  C) rfl
  have F_deeds_named : Fn P w K mg base "deeds_named" 2 1 m_deeds_named := fn_D (k := 1) D_deeds_named sc_deeds_named rfl (fun X C => body_deeds_named T F_signs_named C) rfl
  have F_is_deed : Fn P w K mg base "is_deed" 7 1 m_is_deed := fn_D (k := 6) D_is_deed sc_is_deed rfl (fun X C => body_is_deed T F_deeds_named F_has_form F_is_deed_id C) rfl
  have F_signs_added : Fn P w K mg base "signs_added" 1 1 m_signs_added := fn_D (k := 0) D_signs_added sc_signs_added rfl (fun X C => body_signs_added T  C) rfl
  have F_by_ids : FnW P w K mg base "by_ids" 1 1 m_by_ids := fn_W (k := 0) D_by_ids sc_by_ids rfl (fun X C => body_by_ids T  C) rfl
  have F_has_all_named : FnL P w K mg base "has_all_named" 3 m_has_all_named := fn_L (k := 2) D_has_all_named sc_has_all_named rfl rfl (fun X C => body_has_all_named T F_deeds_named F_signs_added F_signs_named C) rfl
  have F_is_book : Fn P w K mg base "is_book" 8 1 m_is_book := fn_D (k := 7) D_is_book sc_is_book rfl (fun X C => body_is_book T F_by_ids F_has_all_named F_is_deed F_is_rising C) rfl
  have F_number_in : Fn P w K mg base "number_in" 1 1 m_number_in := fn_D (k := 0) D_number_in sc_number_in rfl (fun X C => body_number_in T  C) rfl
  have F_id_in : Fn P w K mg base "id_in" 2 1 m_id_in := fn_D (k := 1) D_id_in sc_id_in rfl (fun X C => body_id_in T F_number_in C) rfl
  have F_sign_in : Fn P w K mg base "sign_in" 3 1 m_sign_in := fn_D (k := 2) D_sign_in sc_sign_in rfl (fun X C => body_sign_in T F_id_in F_number_in C) rfl
  have F_anchor_in : Fn P w K mg base "anchor_in" 4 1 m_anchor_in := fn_D (k := 3) D_anchor_in sc_anchor_in rfl (fun X C => body_anchor_in T DC_SIDE_SIGNS F_sign_in C) rfl
  have F_parts_in : Fn P w K mg base "parts_in" 5 2 m_parts_in := fn_D (k := 4) D_parts_in sc_parts_in rfl (fun X C => body_parts_in T F_anchor_in F_id_in F_sign_in C) rfl
  have F_deed_in : Fn P w K mg base "deed_in" 6 1 m_deed_in := fn_D (k := 5) D_deed_in sc_deed_in rfl (fun X C => body_deed_in T F_id_in F_parts_in C) rfl
  have F_read : Fn P w K mg base "read" 9 1 m_read := fn_D (k := 8) D_read sc_read rfl (fun X C => body_read T F_deed_in F_is_book F_written C) rfl
  have F__law_cell : Fn P w K mg base "_law_cell" 1 2 m__law_cell := fn_D (k := 0) D__law_cell sc__law_cell rfl (fun X C => body__law_cell T  C) rfl
  have F__law_drawn : Fn P w K mg base "_law_drawn" 2 3 m__law_drawn := fn_D (k := 1) D__law_drawn sc__law_drawn rfl (fun X C => body__law_drawn T F__law_cell C) rfl
  have F__law_names : Fn P w K mg base "_law_names" 3 2 m__law_names := fn_D (k := 2) D__law_names sc__law_names rfl (fun X C => body__law_names T F__law_drawn C) rfl
  have F__law_words : Fn P w K mg base "_law_words" 3 2 m__law_words := fn_D (k := 2) D__law_words sc__law_words rfl (fun X C => body__law_words T F__law_drawn C) rfl
  have F__law_signs : Fn P w K mg base "_law_signs" 1 1 m__law_signs := fn_D (k := 0) D__law_signs sc__law_signs rfl (fun X C => body__law_signs T  C) rfl
  have F__law_anchor : Fn P w K mg base "_law_anchor" 3 3 m__law_anchor := fn_D (k := 2) D__law_anchor sc__law_anchor rfl (fun X C => body__law_anchor T F__law_drawn C) rfl
  have F__law_deed : Fn P w K mg base "_law_deed" 4 5 m__law_deed := fn_D (k := 3) D__law_deed sc__law_deed rfl (fun X C => body__law_deed T F__law_anchor F__law_drawn F__law_signs F__law_words C) rfl
  have F__law_book : Fn P w K mg base "_law_book" 5 4 m__law_book := fn_D (k := 4) D__law_book sc__law_book rfl (fun X C => body__law_book T F__law_deed F__law_drawn C) rfl
  have F__law_id_text : Fn P w K mg base "_law_id_text" 1 1 m__law_id_text := fn_D (k := 0) D__law_id_text sc__law_id_text rfl (fun X C => body__law_id_text T  C) rfl
  have F__law_sign_text : Fn P w K mg base "_law_sign_text" 2 1 m__law_sign_text := fn_D (k := 1) D__law_sign_text sc__law_sign_text rfl (fun X C => body__law_sign_text T F__law_id_text C) rfl
  have F__law_line : Fn P w K mg base "_law_line" 3 1 m__law_line := fn_D (k := 2) D__law_line sc__law_line rfl (fun X C => body__law_line T F__law_id_text F__law_sign_text C) rfl
  exact fnok_D (k := 9) F sc_law rfl (fun X C => body_law T F__law_book F__law_line F__law_names F_read F_written C) rfl
end
end Sm
open PySem PySem.W PyProof.Rows
theorem Sm.walkD {l : PySem.W.OpenLaw} {q : Program} {loose : List Str} {XP : (Str -> Option Value) -> Heap -> Prop} {YP : World -> Heap -> Prop} {d : DefRec} {K : Params -> PySem.W.Frag} (hn : l.most = some 63) (hdf : d.params.defaults = []) (hnm : d.name = "law")
    (hY : ∀ (w : World) (h : Heap), YP w h -> (K w.params).In h) (hK : ∀ w : World, Sm.noList (K w.params) = true)
    (F : ∀ (w : World) (mg : Str -> Option Value) (h : Heap), (K w.params).In h -> h.Ns mainGlobals mg -> Sm.Txt mg /\ Sm.Defs (K w.params) mg /\ Sm.HasC l.prog w (K w.params) mg "SIDE_SIGNS" [("l", "<"), ("r", ">")])
    (pure : ∀ ns : List Int, ns.length <= 63 -> Sm.m_law [.list (ns.map PyData.int)] = .ok (.bool true)) :
    PySem.W.WalkO q loose XP YP l.row.toRowW d [] (fun f vs => PySem.call f vs) := by
  refine L2.walk_of (n := 63) (k := 10) (x := "_law_script") (CX := fun _ => L2.CX0) (sp := fun _ => Sm.spD 1 Sm.m_law) hn (by decide) hdf ⟨rfl, by decide, by decide, rfl⟩ hY (fun w mg fa h KX G hmg => ?_) (fun w H a ns hl hO hS => ?_) fun _ _ _ _ _ z => z
  . obtain ⟨T, D, DC_SIDE_SIGNS⟩ := F w mg h KX G
    obtain ⟨f0, fd0, F0, hm0, hb0⟩ := D.1.ex
    rw [hnm, hm0] at hmg
    cases hmg
    refine ⟨fd0, fun s u => ?_, fun base kb nb => ?_⟩
    . obtain ⟨oc, od, kV, doc, pm, an, cdv, ct, osl, rfl, lk, hcd⟩ := F0.ex
      exact .of_eq rfl
    . exact Sm.law_fn F0 T D DC_SIDE_SIGNS
  . rcases hS with hS | ⟨o, its, nn, hk, hc, _⟩
    . refine ⟨H, [.list (ns.map PyData.int)], .bool true, L2.Same.refl _, Sm.RepL.cons ⟨a, _, rfl, hS, Sm.RepL.ints ns⟩ rfl, rfl, pure ns hl, fun v G' H' g r => r⟩
    . exact absurd hc (Sm.noList.out (hK w) hk)
end
section
set_option autoImplicit false
set_option linter.all false
set_option maxRecDepth 10000
open PySem
namespace Sm
open L2
noncomputable def Out.seq (o : Out) (g : Dn -> Out) : Out := match o with
  | .nx δ => g δ
  | o => o
noncomputable def Out.fin (o : Out) : Res PyData := match o with
  | .rt d => .ok d
  | .nx _ => .ok .none
  | .exc c => .exc c
  | _ => .no
noncomputable def slotV (s : Option Sl) : Res PyData := match s with
  | some (.sh d) => .ok d
  | _ => .no
theorem ok_bind {α β : Type} (a : α) (k : α -> Res β) : (Res.ok a).bind k = k a := rfl
theorem ofO_some {α : Type} (a : α) : ofO (some a) = .ok a := rfl
theorem thenS_ok {α : Type} (a : α) (k : α -> Out) : thenS (.ok a) k = k a := rfl
theorem sSeq_eq (g1 g2 : Dn -> Out) (δ : Dn) : sSeq g1 g2 δ = (g1 δ).seq g2 := by unfold sSeq Out.seq; cases g1 δ <;> rfl
theorem seq_nx (δ : Dn) (g : Dn -> Out) : (Out.nx δ).seq g = g δ := rfl
theorem seq_rt (d : PyData) (g : Dn -> Out) : (Out.rt d).seq g = .rt d := rfl
theorem fnD_eq (N : List Str) (g : Dn -> Out) (ds : List PyData) : fnD N g ds = (g (startD N ds)).fin := by unfold fnD Out.fin; cases g (startD N ds) <;> rfl
theorem fin_rt (d : PyData) : (Out.rt d).fin = .ok d := rfl
theorem vVar_eq (i : Nat) (δ : Dn) : vVar i δ = slotV δ[i]? := rfl
theorem slotV_sh (d : PyData) : slotV (some (.sh d)) = .ok d := rfl
theorem sIf_eq (c : Dn -> Res Bool) (g1 g2 : Dn -> Out) (δ : Dn) : sIf c g1 g2 δ = thenS (c δ) fun b => if b = true then g1 δ else g2 δ := rfl
theorem vAnd_t (f g : Dn -> Res PyData) (δ : Dn) (h : f δ = .ok (.bool true)) : vAnd f g δ = g δ := by unfold vAnd; rw [h]; rfl
theorem truD_bool (b : Bool) : truD (.bool b) = some b := rfl
theorem lComp_ok {src : Dn -> Res (List PyData)} {bnd : PyData -> Res (List Sl)} {cap : List Nat} {tt : Dn -> Res Bool} {el : Dn -> Res PyData} {δ δc : Dn} {ds ys : List PyData} (h : src δ = .ok ds) (hl : ds.length <= 1000) (hc : capD δ cap = δc) (e : compRun bnd δc tt el ds = .ok ys) : lComp src bnd cap tt el δ = .ok ys := by
  unfold lComp
  rw [h, ok_bind, if_pos (Nat.le_trans hl (by decide)), hc, e]
theorem b2_ok {f g : Dn -> Res PyData} {op : PyData -> PyData -> Option PyData} {δ : Dn} {x y d : PyData} (h1 : f δ = .ok x) (h2 : g δ = .ok y) (h3 : op x y = some d) : b2 f g op δ = .ok d := by
  unfold b2
  rw [h1, ok_bind, h2, ok_bind, h3]; rfl
theorem vLst_ok {f : Dn -> Res (List PyData)} {δ : Dn} {ds : List PyData} (h : f δ = .ok ds) : vLst f δ = .ok (.list ds) := by unfold vLst; rw [h]; rfl
theorem sSet_ok {i : Nat} {f : Dn -> Res PyData} {δ : Dn} {d : PyData} (h : f δ = .ok d) : sSet i f δ = .nx (δ.set i (.sh d)) := by unfold sSet; rw [h]; rfl
theorem sIf_t {c : Dn -> Res Bool} {g1 g2 : Dn -> Out} {δ : Dn} (h : c δ = .ok true) : sIf c g1 g2 δ = g1 δ := by unfold sIf; rw [h]; rfl
theorem sIf_f {c : Dn -> Res Bool} {g1 g2 : Dn -> Out} {δ : Dn} (h : c δ = .ok false) : sIf c g1 g2 δ = g2 δ := by unfold sIf; rw [h]; rfl
theorem sSeq_nx {g1 g2 : Dn -> Out} {δ δ' : Dn} (h : g1 δ = .nx δ') : sSeq g1 g2 δ = g2 δ' := by unfold sSeq; rw [h]
theorem sSeq_rt {g1 g2 : Dn -> Out} {δ : Dn} {d : PyData} (h : g1 δ = .rt d) : sSeq g1 g2 δ = .rt d := by unfold sSeq; rw [h]
theorem sRet_ok {f : Dn -> Res PyData} {δ : Dn} {d : PyData} (h : f δ = .ok d) : sRet f δ = .rt d := by unfold sRet; rw [h]; rfl
theorem fn_rt {N : List Str} {g : Dn -> Out} {ds : List PyData} {d : PyData} (h : g (startD N ds) = .rt d) : fnD N g ds = .ok d := by rw [fnD_eq, h]; rfl
theorem aCons_ok {f : Dn -> Res PyData} {fs : Dn -> Res (List PyData)} {δ : Dn} {d : PyData} {ds : List PyData} (h : f δ = .ok d) (h2 : fs δ = .ok ds) : aCons f fs δ = .ok (d :: ds) := by unfold aCons; rw [h, ok_bind, h2]; rfl
theorem vCall_ok {fs : Dn -> Res (List PyData)} {m : List PyData -> Res PyData} {δ : Dn} {ds : List PyData} {r : Res PyData} (h : fs δ = .ok ds) (h2 : m ds = r) : vCall fs m δ = r := by unfold vCall; rw [h, ok_bind, h2]
theorem vTup_ok {f : Dn -> Res (List PyData)} {δ : Dn} {ds : List PyData} (h : f δ = .ok ds) : vTup f δ = .ok (.tuple ds) := by unfold vTup; rw [h]; rfl
theorem vFn_ok {f : Dn -> Res (List PyData)} {op : List PyData -> Option PyData} {δ : Dn} {ds : List PyData} {d : PyData} (h : f δ = .ok ds) (h2 : op ds = some d) : vFn f op δ = .ok d := by unfold vFn; rw [h, ok_bind, h2]; rfl
theorem cVal_ok {f : Dn -> Res PyData} {δ : Dn} {b : Bool} (h : f δ = .ok (.bool b)) : cVal f δ = .ok b := by unfold cVal; rw [h]; rfl
noncomputable abbrev scr (ns : List Int) : PyData := .list (ns.map .int)
theorem ixN_nat {n j : Nat} (h : j < n) : ixN n (j : Int) = some j := by
  unfold ixN
  rw [if_pos (by omega)]
  simp [h]
theorem atI_nat {α : Type} {xs : List α} {j : Nat} (h : j < xs.length) : atI xs (j : Int) = some xs[j] := by
  unfold atI
  rw [ixN_nat h]
  simp
theorem atI_int {α : Type} {xs : List α} {i : Int} (h0 : 0 <= i) (h : i < xs.length) : ∃ x ∈ xs, atI xs i = some x := by
  obtain ⟨j, rfl⟩ := Int.eq_ofNat_of_zero_le h0
  have hj : j < xs.length := by omega
  exact ⟨xs[j], List.getElem_mem _, atI_nat hj⟩
theorem eqv_nil (ns : List Int) : PyData.eqv (scr ns) (.list []) = ns.isEmpty := by
  cases ns with
  | nil => rfl
  | cons n ns => rfl
theorem dEq_nil (ns : List Int) : dEq (scr ns) (.list []) = some (.bool ns.isEmpty) := by
  unfold dEq
  rw [if_pos (Nat.le_trans (Nat.min_le_right _ _) (by decide)), eqv_nil]
theorem mulI {a b : Int} (h : (-(2 ^ 64) < a /\ a < 2 ^ 64) \/ (-(2 ^ 64) < b /\ b < 2 ^ 64)) : dMul (.int a) (.int b) = some (.int (a * b)) := by
  show (if _ then _ else _) = _
  rw [if_pos h]
theorem mul7 {b : Int} : dMul (.int 7) (.int b) = some (.int (7 * b)) := mulI (.inl ⟨by decide, by decide⟩)
theorem mul6553 {b : Int} : dMul (.int 6553) (.int b) = some (.int (6553 * b)) := mulI (.inl ⟨by decide, by decide⟩)
theorem mul104723 {b : Int} : dMul (.int 104723) (.int b) = some (.int (104723 * b)) := mulI (.inl ⟨by decide, by decide⟩)
theorem mul69069 {b : Int} : dMul (.int b) (.int 69069) = some (.int (b * 69069)) := mulI (.inr ⟨by decide, by decide⟩)
theorem mul2 {b : Int} : dMul (.int 2) (.int b) = some (.int (2 * b)) := mulI (.inl ⟨by decide, by decide⟩)
theorem mul60 {b : Int} : dMul (.int 60) (.int b) = some (.int (60 * b)) := mulI (.inl ⟨by decide, by decide⟩)
theorem modI {a b : Int} (h : 0 < b) : dMod (.int a) (.int b) = some (.int (a % b)) := by
  show (if _ then _ else _) = _
  rw [if_pos h]
theorem divI {a b : Int} (h : 0 < b) (h2 : b < 1073741824) : dFdiv (.int a) (.int b) = some (.int (a / b)) := by
  show (if _ then _ else _) = _
  rw [if_pos ⟨h, h2⟩]
theorem addI {a b : Int} : dAdd (.int a) (.int b) = some (.int (a + b)) := rfl
theorem cell_ok (ns : List Int) (hns : ns.length <= 63) (k : Int) : ∃ c, m__law_cell [scr ns, .int k] = .ok (.int c) := by
  unfold m__law_cell sem__law_cell N__law_cell
  cases hn : ns with
  | nil =>
    refine ⟨7 * k, ?_⟩
    simp only [dEq_nil, List.isEmpty_nil, mul7, fnD_eq, startD, sSeq_eq, seq_nx, seq_rt, fin_rt, sIf_eq, cVal, b2, b1, vVar_eq, slotV_sh, vLst, vTup, aNil, aCons, vC, ok_bind, ofO_some, thenS_ok, sRet, sSet, sNext, vFn, vCall, cAnd, oSome, oNone, vSl, vJoin, cTrue, truD_bool, List.map_cons, List.map_nil, List.length_cons, List.length_nil, List.replicate, List.cons_append, List.nil_append, List.append_nil, List.getElem?_cons_zero, List.getElem?_cons_succ, List.set_cons_zero, List.set_cons_succ, Nat.reduceAdd, Nat.reduceSub, Bool.false_eq_true, reduceIte]
  | cons n r =>
    have e1 := dEq_nil (n :: r)
    have hl : (0 : Int) < ((n :: r).length : Int) := by simp
    have hl2 : ((n :: r).length : Int) <= 63 := by rw [← hn]; omega
    obtain ⟨x, hx, e2⟩ := atI_int (xs := (n :: r).map PyData.int) (i := k % ((n :: r).length : Int)) (Int.emod_nonneg _ (by omega)) (by rw [List.length_map]; exact Int.emod_lt_of_pos _ hl)
    obtain ⟨c, _, rfl⟩ := List.mem_map.mp hx
    refine ⟨c + 6553 * (k / ((n :: r).length : Int)), ?_⟩
    have e3 : dLen [scr (n :: r)] = some (.int ((n :: r).length : Int)) := by simp [dLen, scr]
    have e4 : dIx (scr (n :: r)) (.int (k % ((n :: r).length : Int))) = some (.int c) := e2
    generalize hS : scr (n :: r) = S at *
    generalize hL : ((n :: r).length : Int) = m at *
    simp only [e1, List.isEmpty_cons, e3, modI hl, divI hl (show m < 1073741824 by omega), mul6553, e4, addI, fnD_eq, startD, sSeq_eq, seq_nx, seq_rt, fin_rt, sIf_eq, cVal, b2, b1, vVar_eq, slotV_sh, vLst, vTup, aNil, aCons, vC, ok_bind, ofO_some, thenS_ok, sRet, sSet, sNext, vFn, vCall, cAnd, oSome, oNone, vSl, vJoin, cTrue, truD_bool, List.map_cons, List.map_nil, List.length_cons, List.length_nil, List.replicate, List.cons_append, List.nil_append, List.append_nil, List.getElem?_cons_zero, List.getElem?_cons_succ, List.set_cons_zero, List.set_cons_succ, Nat.reduceAdd, Nat.reduceSub, Bool.false_eq_true, reduceIte]
theorem drawn_ok (ns : List Int) (hns : ns.length <= 63) (k m : Int) (hm : 0 < m) : ∃ r, m__law_drawn [scr ns, .int k, .int m] = .ok (.int r) /\ 0 <= r /\ r < m := by
  obtain ⟨c, hc⟩ := cell_ok ns hns k
  unfold m__law_drawn sem__law_drawn N__law_drawn
  generalize scr ns = S at *
  simp only [hc, modI (show (0 : Int) < 2147483563 by decide), addI, mul69069, mul104723, fnD_eq, startD, sSeq_eq, seq_nx, seq_rt, fin_rt, sIf_eq, cVal, b2, b1, vVar_eq, slotV_sh, vLst, vTup, aNil, aCons, vC, ok_bind, ofO_some, thenS_ok, sRet, sSet, sNext, vFn, vCall, cAnd, oSome, oNone, vSl, vJoin, cTrue, truD_bool, List.map_cons, List.map_nil, List.length_cons, List.length_nil, List.replicate, List.cons_append, List.nil_append, List.append_nil, List.getElem?_cons_zero, List.getElem?_cons_succ, List.set_cons_zero, List.set_cons_succ, Nat.reduceAdd, Nat.reduceSub, Bool.false_eq_true, reduceIte]
  generalize hA : (c % 2147483563 * 69069 + 104723 * (k + 1)) % 2147483563 = A
  have a0 : 0 <= A := by rw [← hA]; exact Int.emod_nonneg _ (by decide)
  have a1 : A < 2147483563 := by rw [← hA]; exact Int.emod_lt_of_pos _ (by decide)
  simp only [mulI (a := A) (b := A) (.inl ⟨Int.lt_of_lt_of_le (by decide) a0, Int.lt_trans a1 (by decide)⟩), divI (show (0 : Int) < 3 by decide) (by decide), addI, modI (show (0 : Int) < 2147483399 by decide), fnD_eq, startD, sSeq_eq, seq_nx, seq_rt, fin_rt, sIf_eq, cVal, b2, b1, vVar_eq, slotV_sh, vLst, vTup, aNil, aCons, vC, ok_bind, ofO_some, thenS_ok, sRet, sSet, sNext, vFn, vCall, cAnd, oSome, oNone, vSl, vJoin, cTrue, truD_bool, List.map_cons, List.map_nil, List.length_cons, List.length_nil, List.replicate, List.cons_append, List.nil_append, List.append_nil, List.getElem?_cons_zero, List.getElem?_cons_succ, List.set_cons_zero, List.set_cons_succ, Nat.reduceAdd, Nat.reduceSub, Bool.false_eq_true, reduceIte]
  generalize hB : (A * A + A / 3) % 2147483399 = B
  have b0 : 0 <= B := by rw [← hB]; exact Int.emod_nonneg _ (by decide)
  have b1 : B < 2147483399 := by rw [← hB]; exact Int.emod_lt_of_pos _ (by decide)
  simp only [mulI (a := B) (b := B) (.inl ⟨Int.lt_of_lt_of_le (by decide) b0, Int.lt_trans b1 (by decide)⟩), divI (show (0 : Int) < 7 by decide) (by decide), addI, modI (show (0 : Int) < 2147483647 by decide), divI (show (0 : Int) < 11 by decide) (by decide), modI hm, fnD_eq, startD, sSeq_eq, seq_nx, seq_rt, fin_rt, sIf_eq, cVal, b2, b1, vVar_eq, slotV_sh, vLst, vTup, aNil, aCons, vC, ok_bind, ofO_some, thenS_ok, sRet, sSet, sNext, vFn, vCall, cAnd, oSome, oNone, vSl, vJoin, cTrue, truD_bool, List.map_cons, List.map_nil, List.length_cons, List.length_nil, List.replicate, List.cons_append, List.nil_append, List.append_nil, List.getElem?_cons_zero, List.getElem?_cons_succ, List.set_cons_zero, List.set_cons_succ, Nat.reduceAdd, Nat.reduceSub, Bool.false_eq_true, reduceIte]
  exact ⟨_, rfl, Int.emod_nonneg _ (by omega), Int.emod_lt_of_pos _ hm⟩
theorem ixS' {x : Str} {i : Int} (h0 : 0 <= i) (h : i < (x.cps.toList.length : Int)) : ∃ c ∈ x.cps.toList, dIx (.str x) (.int i) = some (.str ⟨#[c]⟩) := by
  obtain ⟨c, hc, e⟩ := atI_int (xs := x.cps.toList) h0 h
  exact ⟨c, hc, by show (atI x.cps.toList i).map _ = _; rw [e]; rfl⟩
theorem len1 (c : Nat) : (⟨#[c]⟩ : Str).length = 1 := rfl
theorem szBig : (1000 : Nat) <= sizeLine := by decide
theorem addS {x y : Str} (h : x.length + y.length <= 1000) : dAdd (.str x) (.str y) = some (.str (x ++ y)) := by
  show (if _ then _ else _) = _
  rw [if_pos (Nat.le_trans h szBig)]
theorem addL {x y : List PyData} (h : x.length + y.length <= 1000) : dAdd (.list x) (.list y) = some (.list (x ++ y)) := by
  show (if _ then _ else _) = _
  rw [if_pos (Nat.le_trans h szBig)]
theorem addT {x y : List PyData} (h : x.length + y.length <= 1000) : dAdd (.tuple x) (.tuple y) = some (.tuple (x ++ y)) := by
  show (if _ then _ else _) = _
  rw [if_pos (Nat.le_trans h szBig)]
theorem strLen_append (x y : Str) : (x ++ y).length = x.length + y.length := by
  show (x.cps ++ y.cps).size = _
  rw [Array.size_append]; rfl
def chOk (lo hi : Nat) (x : Str) : Prop := ∀ c ∈ x.cps.toList, lo <= c /\ c <= hi
theorem chOk.app {lo hi : Nat} {x y : Str} (hx : chOk lo hi x) (hy : chOk lo hi y) : chOk lo hi (x ++ y) := fun c hc => by
  have : c ∈ (x.cps ++ y.cps).toList := hc
  rw [Array.toList_append] at this
  exact (List.mem_append.mp this).elim (hx c) (hy c)
theorem chOk.one {lo hi c : Nat} (h : lo <= c /\ c <= hi) : chOk lo hi ⟨#[c]⟩ := fun d hd => by
  have : d = c := by simpa using hd
  rw [this]; exact h
theorem chOk.nil {lo hi : Nat} : chOk lo hi "" := fun c hc => by
  rw [show ("" : Str).cps.toList = [] from rfl] at hc; exact nomatch hc
theorem mulS {c : Nat} {n : Int} (h0 : 0 <= n) (h : n < 2) : ∃ y : Str, dMul (.str ⟨#[c]⟩) (.int n) = some (.str y) /\ y.length <= 1 /\ ∀ d ∈ y.cps.toList, d = c := by
  have : n = 0 \/ n = 1 := by omega
  rcases this with rfl | rfl
  . refine ⟨strRep 0 ⟨#[c]⟩, rfl, (show (0 : Nat) <= 1 by decide), fun d hd => ?_⟩
    simp [strRep] at hd
  . refine ⟨strRep 1 ⟨#[c]⟩, rfl, by unfold strRep; simp; exact Nat.le_refl _, fun d hd => ?_⟩
    simpa [strRep] using hd
def nmOk (x : Str) : Prop := 1 <= x.length /\ x.length <= 6 /\ chOk 97 122 x
def wdOk (x : Str) : Prop := 1 <= x.length /\ x.length <= 4 /\ chOk 32 126 x
theorem ixL {xs : List PyData} {i : Int} (h0 : 0 <= i) (h : i < (xs.length : Int)) : ∃ x ∈ xs, dIx (.list xs) (.int i) = some x := atI_int h0 h
theorem names_body (ns : List Int) (hns : ns.length <= 63) (a k : Int) (hk : 0 <= k) (hk2 : k < 3) (fd : List PyData) (hf : fd.length < 1000) (s4 : Sl) : ∃ z w : Str, nmOk z /\
    (sSeq (sSet 4 (b2 (b2 (vC (.str "abcdefghijklmnopqrstuvwxyz")) (vCall (aCons (vVar 0) (aCons (b2 (vVar 1) (b2 (vC (.int 2)) (vVar 3) dMul) dAdd) (aCons (vC (.int 26)) aNil))) m__law_drawn) dIx) (vCall (aCons (vVar 0) (aCons (b2 (b2 (vVar 1) (b2 (vC (.int 2)) (vVar 3) dMul) dAdd) (vC (.int 1)) dAdd) (aCons (vC (.int 2)) aNil))) m__law_drawn) dMul)) (sApp 2 (b2 (vLst (aCons (b2 (vVar 4) (b2 (vC (.str "xyz")) (vVar 3) dIx) dAdd) (aCons (b2 (b2 (vC (.str "xyz")) (vVar 3) dIx) (vVar 4) dAdd) aNil))) (vCall (aCons (vVar 0) (aCons (b2 (vVar 1) (vC (.int 6)) dAdd) (aCons (vC (.int 2)) aNil))) m__law_drawn) dIx)))
      [.sh (scr ns), .sh (.int a), .ow (.list fd), .sh (.int k), s4] = .nx [.sh (scr ns), .sh (.int a), .ow (.list (fd ++ [.str z])), .sh (.int k), .sh (.str w)] := by
  obtain ⟨r1, e1, a1, b1⟩ := drawn_ok ns hns (a + 2 * k) 26 (by decide)
  obtain ⟨r2, e2, a2, b2'⟩ := drawn_ok ns hns (a + 2 * k + 1) 2 (by decide)
  obtain ⟨r3, e3, a3, b3⟩ := drawn_ok ns hns (a + 6) 2 (by decide)
  obtain ⟨c1, hc1, f1⟩ := ixS' (x := "abcdefghijklmnopqrstuvwxyz") a1 (by rw [show ("abcdefghijklmnopqrstuvwxyz" : Str).cps.toList.length = 26 from by decide]; exact b1)
  obtain ⟨y, f2, l2, hy⟩ := mulS (c := c1) a2 b2'
  obtain ⟨c2, hc2, f3⟩ := ixS' (x := "xyz") hk (by rw [show ("xyz" : Str).cps.toList.length = 3 from by decide]; exact hk2)
  have g1 : dAdd (.str y) (.str ⟨#[c2]⟩) = _ := addS (x := y) (y := ⟨#[c2]⟩) (by rw [len1]; omega)
  have g2 : dAdd (.str ⟨#[c2]⟩) (.str y) = _ := addS (x := ⟨#[c2]⟩) (y := y) (by rw [len1]; omega)
  obtain ⟨x, hx, f4⟩ := ixL (xs := [.str (y ++ ⟨#[c2]⟩), .str (⟨#[c2]⟩ ++ y)]) a3 b3
  have o1 : chOk 97 122 y := fun d hd => by
    rw [hy d hd]
    exact (by decide : ∀ c ∈ ("abcdefghijklmnopqrstuvwxyz" : Str).cps.toList, 97 <= c /\ c <= 122) c1 hc1
  have o2 : chOk 97 122 ⟨#[c2]⟩ := .one ((by decide : ∀ c ∈ ("xyz" : Str).cps.toList, 97 <= c /\ c <= 122) c2 hc2)
  have : ∃ z, x = .str z /\ nmOk z := by
    rcases List.mem_cons.mp hx with h | h
    . exact ⟨_, h, by rw [strLen_append, len1]; omega, by rw [strLen_append, len1]; omega, o1.app o2⟩
    . exact ⟨_, List.mem_singleton.mp h, by rw [strLen_append, len1]; omega, by rw [strLen_append, len1]; omega, o2.app o1⟩
  obtain ⟨z, rfl, hz⟩ := this
  refine ⟨z, y, hz, ?_⟩
  have szB : fd.length < sizeLine := Nat.lt_of_lt_of_le hf szBig
  simp only [mul2, addI, e1, e2, e3, f1, f2, f3, g1, g2, f4, sApp, szB, fnD_eq, startD, sSeq_eq, seq_nx, seq_rt, fin_rt, sIf_eq, cVal, b2, b1, vVar_eq, slotV_sh, vLst, vTup, aNil, aCons, vC, ok_bind, ofO_some, thenS_ok, sRet, sSet, sNext, vFn, vCall, cAnd, oSome, oNone, vSl, vJoin, cTrue, truD_bool, List.map_cons, List.map_nil, List.length_cons, List.length_nil, List.replicate, List.cons_append, List.nil_append, List.append_nil, List.getElem?_cons_zero, List.getElem?_cons_succ, List.set_cons_zero, List.set_cons_succ, Nat.reduceAdd, Nat.reduceSub, Bool.false_eq_true, reduceIte]
theorem names_ok (ns : List Int) (hns : ns.length <= 63) (a : Int) : ∃ x y z : Str, (nmOk x /\ nmOk y /\ nmOk z) /\ m__law_names [scr ns, .int a] = .ok (.list [.str x, .str y, .str z]) := by
  obtain ⟨x, w1, hx, e1⟩ := names_body ns hns a 0 (by decide) (by decide) [] (by simp) .un
  obtain ⟨y, w2, hy, e2⟩ := names_body ns hns a 1 (by decide) (by decide) [.str x] (by simp) (.sh (.str w1))
  obtain ⟨z, w3, hz, e3⟩ := names_body ns hns a 2 (by decide) (by decide) [.str x, .str y] (by simp) (.sh (.str w2))
  refine ⟨x, y, z, ⟨hx, hy, hz⟩, ?_⟩
  unfold m__law_names sem__law_names sx__law_names_0 sx__law_names_1 sx__law_names_2 N__law_names
  have r : rng1 [.int 3] = .ok [.int 0, .int 1, .int 2] := rfl
  simp only [fnD_eq, startD, sSeq_eq (sOwn _ _), sOwn, aNil, thenS_ok, seq_nx, List.map_cons, List.map_nil, List.length_cons, List.length_nil, List.replicate, List.cons_append, List.nil_append, List.set_cons_zero, List.set_cons_succ, sSeq_eq (sFor _ _ _), sFor, aCons, vC, ok_bind, r, runFor, st1, Nat.reduceAdd, Nat.reduceSub]
  rw [e1]
  simp only [List.nil_append, List.set_cons_zero, List.set_cons_succ]
  rw [e2]
  simp only [List.cons_append, List.nil_append, List.set_cons_zero, List.set_cons_succ]
  rw [e3]
  rfl
theorem comp_all {bnd : PyData -> Res (List Sl)} {δc : Dn} {el : Dn -> Res PyData} {P : PyData -> Prop} : ∀ (ds : List PyData), (∀ d ∈ ds, ∃ sl y, bnd d = .ok sl /\ el (sl ++ δc) = .ok y /\ P y) -> ∃ ys : List PyData, compRun bnd δc cTrue el ds = .ok ys /\ ys.length = ds.length /\ ∀ y ∈ ys, P y
  | [], _ => ⟨[], rfl, rfl, fun _ h => nomatch h⟩
  | d :: ds, h => by
    obtain ⟨sl, y, e1, e2, p⟩ := h d (.head _)
    obtain ⟨ys, e3, e4, e5⟩ := comp_all ds fun d' h' => h d' (.tail _ h')
    refine ⟨y :: ys, ?_, by simp [e4], fun z hz => ?_⟩
    . unfold compRun
      rw [e1]
      simp only [cTrue, e2, e3]
    . rcases List.mem_cons.mp hz with rfl | hz
      . exact p
      . exact e5 z hz
theorem strs_of {P : Str -> Prop} : ∀ (ys : List PyData), (∀ y ∈ ys, ∃ x, y = .str x /\ P x) -> ∃ xs : List Str, strsOf ys = some xs /\ xs.length = ys.length /\ ∀ x ∈ xs, P x
  | [], _ => ⟨[], rfl, rfl, fun _ h => nomatch h⟩
  | y :: ys, h => by
    obtain ⟨x, rfl, p⟩ := h y (.head _)
    obtain ⟨xs, e1, e2, e3⟩ := strs_of ys fun d' h' => h d' (.tail _ h')
    exact ⟨x :: xs, by show (strsOf ys).map _ = _; rw [e1]; rfl, by simp [e2], fun z hz => by
      rcases List.mem_cons.mp hz with rfl | hz
      . exact p
      . exact e3 z hz⟩
theorem join_ones : ∀ (xs : List Str), (∀ x ∈ xs, x.length = 1 /\ PyData.strOk x = true /\ chOk 32 126 x) -> (Str.join "" xs).length = xs.length /\ PyData.strOk (Str.join "" xs) = true /\ chOk 32 126 (Str.join "" xs)
  | [], _ => ⟨rfl, by decide +kernel, chOk.nil⟩
  | [x], h => ⟨(h x (.head _)).1, (h x (.head _)).2.1, (h x (.head _)).2.2⟩
  | x :: y :: r, h => by
    obtain ⟨l, o, q⟩ := join_ones (y :: r) fun z hz => h z (.tail _ hz)
    obtain ⟨l1, o1, q1⟩ := h x (.head _)
    show (x ++ "" ++ Str.join "" (y :: r)).length = _ /\ PyData.strOk (x ++ "" ++ Str.join "" (y :: r)) = true /\ chOk 32 126 (x ++ "" ++ Str.join "" (y :: r))
    refine ⟨?_, strOk_append (strOk_append o1 (by decide +kernel)) o, (q1.app chOk.nil).app q⟩
    rw [strLen_append, strLen_append]
    have : (("" : Str)).length = 0 := rfl
    simp only [List.length_cons] at l ⊢
    omega
theorem sum_ones : ∀ (xs : List Str), (∀ x ∈ xs, x.length = 1 /\ PyData.strOk x = true /\ chOk 32 126 x) -> (xs.map (·.length)).sum = xs.length
  | [], _ => rfl
  | x :: r, h => by
    simp only [List.map_cons, List.sum_cons, List.length_cons, (h x (.head _)).1, sum_ones r fun z hz => h z (.tail _ hz)]
    omega
theorem rng_ok {n : Int} (h0 : 0 <= n) (h : n < 1000) : rng1 [.int n] = .ok (rngD 0 n) := by
  show (if _ then _ else _) = _
  rw [if_pos (by omega)]
theorem src_rng {fs : Dn -> Res (List PyData)} {δ : Dn} {n : Int} (h : fs δ = .ok [.int n]) (h0 : 0 <= n) (h1 : n < 1000) : (fun δ => (fs δ).bind rng1) δ = .ok (rngD 0 n) := by
  show (fs δ).bind rng1 = _
  rw [h, ok_bind, rng_ok h0 h1]
theorem src_seq {f : Dn -> Res PyData} {δ : Dn} {d : PyData} {ds : List PyData} (h : f δ = .ok d) (h2 : seqOf d = .ok ds) : (fun δ => (f δ).bind seqOf) δ = .ok ds := by
  show (f δ).bind seqOf = _
  rw [h, ok_bind, h2]
theorem words_ok (ns : List Int) (hns : ns.length <= 63) (a : Int) : ∃ x : Str, m__law_words [scr ns, .int a] = .ok (.str x) /\ wdOk x := by
  obtain ⟨r1, e1, a1, b1⟩ := drawn_ok ns hns (a + 4) 4 (by decide)
  unfold m__law_words sem__law_words N__law_words
  have hr : rng1 [.int (1 + r1)] = .ok (rngD 0 (1 + r1)) := rng_ok (by omega) (by omega)
  have hlen : (rngD 0 (1 + r1)).length <= 4 /\ 1 <= (rngD 0 (1 + r1)).length := by unfold rngD; simp; omega
  have hall : ∀ d ∈ rngD 0 (1 + r1), ∃ sl y, bind1 d = .ok sl /\ (b2 (vC (.str "ab cd~ <")) (vCall (aCons (vVar 1) (aCons (b2 (vVar 2) (vVar 0) dAdd) (aCons (vC (.int 8)) aNil))) m__law_drawn) dIx) (sl ++ [.sh (scr ns), .sh (.int a)]) = .ok y /\ ∃ x : Str, y = .str x /\ x.length = 1 /\ PyData.strOk x = true /\ chOk 32 126 x := fun d hd => by
    unfold rngD at hd
    obtain ⟨i, hi, rfl⟩ := List.mem_map.mp hd
    have hi' : i < 4 := by have := List.mem_range.mp hi; omega
    obtain ⟨r2, e2, a2, b2'⟩ := drawn_ok ns hns (a + (0 + (i : Int))) 8 (by decide)
    obtain ⟨c, hc, f⟩ := ixS' (x := "ab cd~ <") a2 (by have : ("ab cd~ <" : Str).cps.toList.length = 8 := by decide
                                                       rw [this]; exact b2')
    refine ⟨[.sh (.int (0 + (i : Int)))], .str ⟨#[c]⟩, rfl, ?_, ⟨#[c]⟩, rfl, rfl, ?_, .one ((by decide : ∀ c ∈ ("ab cd~ <" : Str).cps.toList, 32 <= c /\ c <= 126) c hc)⟩
    . simp only [addI, e2, f, fnD_eq, startD, sSeq_eq, seq_nx, seq_rt, fin_rt, sIf_eq, cVal, b2, b1, vVar_eq, slotV_sh, vLst, vTup, aNil, aCons, vC, ok_bind, ofO_some, thenS_ok, sRet, sSet, sNext, vFn, vCall, cAnd, oSome, oNone, vSl, vJoin, cTrue, truD_bool, List.map_cons, List.map_nil, List.length_cons, List.length_nil, List.replicate, List.cons_append, List.nil_append, List.append_nil, List.getElem?_cons_zero, List.getElem?_cons_succ, List.set_cons_zero, List.set_cons_succ, Nat.reduceAdd, Nat.reduceSub, Bool.false_eq_true, reduceIte]
    . have : ∀ c ∈ ("ab cd~ <" : Str).cps.toList, c < 0x110000 := by decide
      unfold PyData.strOk
      simp [this c hc]
  obtain ⟨ys, g1, g2, g3⟩ := comp_all (rngD 0 (1 + r1)) hall
  obtain ⟨xs, g4, g5, g6⟩ := strs_of ys g3
  obtain ⟨l1, o1, q1⟩ := join_ones xs g6
  have s1 := sum_ones xs g6
  refine ⟨Str.join "" xs, ?_, by omega, by omega, q1⟩
  have hj : dJoin "" (.list ys) = some (.str (Str.join "" xs)) := by
    show (strsOf ys).bind _ = _
    rw [g4]
    show (if _ then _ else _) = _
    have : (("" : Str)).length = 0 := rfl
    rw [if_pos ⟨by rw [s1, this]; omega, o1, Nat.le_trans (show _ <= 1000 by omega) szBig⟩]
  have hz : (rngD 0 (1 + r1)).length <= sizeLine := Nat.le_trans (show _ <= 1000 by omega) szBig
  simp only [addI, e1, hr, lComp, hz, capD, Option.getD_some, g1, hj, fnD_eq, startD, sSeq_eq, seq_nx, seq_rt, fin_rt, sIf_eq, cVal, b2, b1, vVar_eq, slotV_sh, vLst, vTup, aNil, aCons, vC, ok_bind, ofO_some, thenS_ok, sRet, sSet, sNext, vFn, vCall, cAnd, oSome, oNone, vSl, vJoin, cTrue, truD_bool, List.map_cons, List.map_nil, List.length_cons, List.length_nil, List.replicate, List.cons_append, List.nil_append, List.append_nil, List.getElem?_cons_zero, List.getElem?_cons_succ, List.set_cons_zero, List.set_cons_succ, Nat.reduceAdd, Nat.reduceSub, Bool.false_eq_true, reduceIte]
noncomputable abbrev idD (t : Int) (h : Str) : PyData := .tuple [.int t, .str h]
abbrev IdP := Int × Str
noncomputable abbrev idP (p : IdP) : PyData := idD p.1 p.2
noncomputable abbrev sgD (p : IdP) (n : Int) : PyData := .tuple [idP p, .int n]
noncomputable def hj (h : Str) : Nat := if h = "a" then 0 else if h = "b" then 1 else 2
noncomputable def key (p : IdP) : Int := 3 * p.1 + hj p.2
def okH (h : Str) : Prop := h = "a" \/ h = "b" \/ h = "c"
def okI (p : IdP) : Prop := 1 <= p.1 /\ p.1 <= 10 /\ okH p.2
theorem hj_lt (h : Str) : hj h <= 2 := by unfold hj; split <;> (try split) <;> omega
def SgOf (T : Int) (ds : List PyData) (x : PyData) : Prop := ∃ (p : IdP) (b : PyData) (w : Str) (n : Nat), PyData.tuple [.str "add", idP p, b, .str w] ∈ ds /\ x = sgD p n /\ n < w.length /\ p.1 < T /\ okI p
theorem SgOf.mono {T : Int} {ds ds' : List PyData} {x : PyData} (h : SgOf T ds x) (k : ∀ d ∈ ds, d ∈ ds') : SgOf T ds' x := by
  obtain ⟨p, b, w, n, e, r⟩ := h; exact ⟨p, b, w, n, k _ e, r⟩
def sgR (a b : PyData) : Prop := ∃ (p q : IdP) (n m : Int), a = sgD p n /\ b = sgD q m /\ okH p.2 /\ okH q.2 /\ (key p < key q \/ (p = q /\ n < m))
def OrN (S : PyData -> Prop) (d : PyData) : Prop := d = .none \/ S d
def lrOk (x : Str) : Prop := x = "l" \/ x = "r"
def Wf (p : IdP) (S : PyData -> Prop) (U : IdP -> Prop) (d : PyData) : Prop := okI p /\
  ((∃ b w, d = .tuple [.str "add", idP p, b, .str w] /\ OrN S b /\ wdOk w) \/
   (∃ sg, d = .tuple [.str "drop", idP p, .tuple sg] /\ (∀ x ∈ sg, S x) /\ sg.length <= 40 /\ sg ≠ [] /\ sg.Pairwise sgR) \/
   (∃ n s1 x1 s2 x2, d = .tuple [.str "mark", idP p, .str n, .tuple [s1, .str x1], .tuple [s2, .str x2]] /\ OrN S s1 /\ OrN S s2 /\ nmOk n /\ lrOk x1 /\ lrOk x2) \/
   (∃ n, d = .tuple [.str "unmark", idP p, .str n] /\ nmOk n) \/
   (∃ q, d = .tuple [.str "undo", idP p, idP q] /\ U q))
theorem OrN.mono {S S' : PyData -> Prop} {d : PyData} (h : OrN S d) (k : ∀ x, S x -> S' x) : OrN S' d := h.elim .inl fun z => .inr (k _ z)
theorem Wf.mono {p : IdP} {S S' : PyData -> Prop} {U U' : IdP -> Prop} {d : PyData} (h : Wf p S U d) (k2 : ∀ x, S x -> S' x) (k3 : ∀ q, U q -> U' q) : Wf p S' U' d := by
  obtain ⟨o, r⟩ := h
  refine ⟨o, ?_⟩
  rcases r with ⟨b, w, e, hb, hw⟩ | ⟨sg, e, hs, hl⟩ | ⟨n, s1, x1, s2, x2, e, h1, h2, h3⟩ | ⟨n, e⟩ | ⟨i, e, hi⟩
  . exact .inl ⟨b, w, e, hb.mono k2, hw⟩
  . exact .inr (.inl ⟨sg, e, fun x hx => k2 x (hs x hx), hl⟩)
  . exact .inr (.inr (.inl ⟨n, s1, x1, s2, x2, e, h1.mono k2, h2.mono k2, h3⟩))
  . exact .inr (.inr (.inr (.inl ⟨n, e⟩)))
  . exact .inr (.inr (.inr (.inr ⟨i, e, k3 _ hi⟩)))
theorem dEqS (x y : Str) : dEq (.str x) (.str y) = some (.bool (x == y)) := by
  unfold dEq
  rw [if_pos (Nat.le_trans (Nat.min_le_left _ _) (by simp [PyData.depth]))]
  rfl
theorem addEq : (("add" : Str) == ("add" : Str)) = true := by decide +kernel
noncomputable def bodyS : Dn -> Out := (sIf (cVal (b2 (b2 (vVar 2) (vC (.int 0)) dIx) (vC (.str "add")) dEq)) (sSet 1 (b2 (vVar 1) (vLst (lComp (fun δ => ((aCons (vFn (aCons (b2 (vVar 2) (vC (.int 3)) dIx) aNil) dLen) aNil) δ).bind rng1) bind1 [2] cTrue (vTup (aCons (b2 (vVar 1) (vC (.int 1)) dIx) (aCons (vVar 0) aNil))))) dAdd)) sNext)
theorem comp_map {α : Type} {δc : Dn} {el : Dn -> Res PyData} (g f : α -> PyData) (h : ∀ y : α, el ([.sh (g y)] ++ δc) = .ok (f y)) : ∀ ys : List α, compRun bind1 δc cTrue el (ys.map g) = .ok (ys.map f)
  | [] => rfl
  | y :: ys => by
    rw [List.map_cons, List.map_cons]
    unfold compRun
    simp only [bind1, cTrue, h y, comp_map g f h ys]
theorem signs_step {p : IdP} {S : PyData -> Prop} {U : IdP -> Prop} {T : Int} {d : PyData} (hd : Wf p S U d) (hT : p.1 < T) (B : PyData) (fd : List PyData) (hf : fd.length <= 100) : ∃ more : List PyData, more.length <= 4 /\ (∀ x ∈ more, SgOf T [d] x) /\ (∀ x ∈ more, ∃ n, x = sgD p n) /\ more.Pairwise sgR /\
    bodyS [.sh B, .sh (.list fd), .sh d] = .nx [.sh B, .sh (.list (fd ++ more)), .sh d] := by
  obtain ⟨o, r⟩ := hd
  have ix0 : ∀ (x : PyData) (xs : List PyData), dIx (.tuple (x :: xs)) (.int 0) = some x := fun x xs => atI_nat (xs := x :: xs) (j := 0) (by simp)
  have ix1 : ∀ (x y : PyData) (xs : List PyData), dIx (.tuple (x :: y :: xs)) (.int 1) = some y := fun x y xs => atI_nat (xs := x :: y :: xs) (j := 1) (by simp)
  have ix3 : ∀ (x y z u : PyData), dIx (.tuple [x, y, z, u]) (.int 3) = some u := fun x y z u => atI_nat (xs := [x, y, z, u]) (j := 3) (by simp)
  have no : ∀ d, (cVal (b2 (b2 (vVar 2) (vC (.int 0)) dIx) (vC (.str "add")) dEq)) [.sh B, .sh (.list fd), .sh d] = .ok false -> ∃ more : List PyData, more.length <= 4 /\ (∀ x ∈ more, SgOf T [d] x) /\ (∀ x ∈ more, ∃ n, x = sgD p n) /\ more.Pairwise sgR /\ bodyS [.sh B, .sh (.list fd), .sh d] = .nx [.sh B, .sh (.list (fd ++ more)), .sh d] := fun d e => by
    refine ⟨[], by simp, (fun _ h => nomatch h), (fun _ h => nomatch h), .nil, ?_⟩
    unfold bodyS
    rw [sIf_f e, List.append_nil]; rfl
  rcases r with ⟨b, w, rfl, hb, hw⟩ | ⟨sg, rfl, _⟩ | ⟨n, s1, x1, s2, x2, rfl, _⟩ | ⟨n, rfl, _⟩ | ⟨i, rfl, _⟩
  . have er : rngD 0 (w.length : Int) = (List.range w.length).map fun i : Nat => PyData.int (0 + (i : Int)) := by unfold rngD; simp
    have g1 := comp_map (δc := [.sh (.tuple [.str "add", idP p, b, .str w])]) (el := vTup (aCons (b2 (vVar 1) (vC (.int 1)) dIx) (aCons (vVar 0) aNil))) (fun i : Nat => PyData.int (0 + (i : Int))) (fun i => sgD p (0 + (i : Int))) (fun i => by simp only [ix1, fnD_eq, startD, sSeq_eq, seq_nx, seq_rt, fin_rt, sIf_eq, cVal, b2, b1, vVar_eq, slotV_sh, vLst, vTup, aNil, aCons, vC, ok_bind, ofO_some, thenS_ok, sRet, sSet, sNext, vFn, vCall, cAnd, oSome, oNone, vSl, vJoin, cTrue, truD_bool, List.map_cons, List.map_nil, List.length_cons, List.length_nil, List.replicate, List.cons_append, List.nil_append, List.append_nil, List.getElem?_cons_zero, List.getElem?_cons_succ, List.set_cons_zero, List.set_cons_succ, Nat.reduceAdd, Nat.reduceSub, Bool.false_eq_true, reduceIte]) (List.range w.length)
    have hl := hw.2.1
    refine ⟨(List.range w.length).map fun i : Nat => sgD p (0 + (i : Int)), by simp; exact hl, fun x hx => ?_, fun x hx => ?_, ?_, ?_⟩
    . obtain ⟨i, hi, rfl⟩ := List.mem_map.mp hx
      exact ⟨p, b, w, i, .head _, by rw [Int.zero_add], List.mem_range.mp hi, hT, o⟩
    . obtain ⟨i, hi, rfl⟩ := List.mem_map.mp hx
      exact ⟨_, rfl⟩
    . rw [List.pairwise_map]
      exact (List.pairwise_lt_range).imp fun {a b} h => ⟨p, p, _, _, rfl, rfl, o.2.2, o.2.2, .inr ⟨rfl, by omega⟩⟩
    . have ha : dAdd (.list fd) (.list ((List.range w.length).map fun i : Nat => sgD p (0 + (i : Int)))) = _ := addL (by simp; omega)
      have e1 : dLen [.str w] = some (.int (w.length : Int)) := rfl
      unfold bodyS
      rw [sIf_t (by simp only [ix0, dEqS, addEq, fnD_eq, startD, sSeq_eq, seq_nx, seq_rt, fin_rt, sIf_eq, cVal, b2, b1, vVar_eq, slotV_sh, vLst, vTup, aNil, aCons, vC, ok_bind, ofO_some, thenS_ok, sRet, sSet, sNext, vFn, vCall, cAnd, oSome, oNone, vSl, vJoin, cTrue, truD_bool, List.map_cons, List.map_nil, List.length_cons, List.length_nil, List.replicate, List.cons_append, List.nil_append, List.append_nil, List.getElem?_cons_zero, List.getElem?_cons_succ, List.set_cons_zero, List.set_cons_succ, Nat.reduceAdd, Nat.reduceSub, Bool.false_eq_true, reduceIte])]
      refine sSet_ok (b2_ok rfl (vLst_ok (lComp_ok (ds := rngD 0 (w.length : Int)) (src_rng (by simp only [ix3, e1, fnD_eq, startD, sSeq_eq, seq_nx, seq_rt, fin_rt, sIf_eq, cVal, b2, b1, vVar_eq, slotV_sh, vLst, vTup, aNil, aCons, vC, ok_bind, ofO_some, thenS_ok, sRet, sSet, sNext, vFn, vCall, cAnd, oSome, oNone, vSl, vJoin, cTrue, truD_bool, List.map_cons, List.map_nil, List.length_cons, List.length_nil, List.replicate, List.cons_append, List.nil_append, List.append_nil, List.getElem?_cons_zero, List.getElem?_cons_succ, List.set_cons_zero, List.set_cons_succ, Nat.reduceAdd, Nat.reduceSub, Bool.false_eq_true, reduceIte]) (by omega) (by omega)) (by rw [er]; simp; omega) rfl (by rw [er]; exact g1))) ha)
  . exact no _ (by simp only [ix0, dEqS, show (("drop" : Str) == ("add" : Str)) = false from by decide +kernel, fnD_eq, startD, sSeq_eq, seq_nx, seq_rt, fin_rt, sIf_eq, cVal, b2, b1, vVar_eq, slotV_sh, vLst, vTup, aNil, aCons, vC, ok_bind, ofO_some, thenS_ok, sRet, sSet, sNext, vFn, vCall, cAnd, oSome, oNone, vSl, vJoin, cTrue, truD_bool, List.map_cons, List.map_nil, List.length_cons, List.length_nil, List.replicate, List.cons_append, List.nil_append, List.append_nil, List.getElem?_cons_zero, List.getElem?_cons_succ, List.set_cons_zero, List.set_cons_succ, Nat.reduceAdd, Nat.reduceSub, Bool.false_eq_true, reduceIte])
  . exact no _ (by simp only [ix0, dEqS, show (("mark" : Str) == ("add" : Str)) = false from by decide +kernel, fnD_eq, startD, sSeq_eq, seq_nx, seq_rt, fin_rt, sIf_eq, cVal, b2, b1, vVar_eq, slotV_sh, vLst, vTup, aNil, aCons, vC, ok_bind, ofO_some, thenS_ok, sRet, sSet, sNext, vFn, vCall, cAnd, oSome, oNone, vSl, vJoin, cTrue, truD_bool, List.map_cons, List.map_nil, List.length_cons, List.length_nil, List.replicate, List.cons_append, List.nil_append, List.append_nil, List.getElem?_cons_zero, List.getElem?_cons_succ, List.set_cons_zero, List.set_cons_succ, Nat.reduceAdd, Nat.reduceSub, Bool.false_eq_true, reduceIte])
  . exact no _ (by simp only [ix0, dEqS, show (("unmark" : Str) == ("add" : Str)) = false from by decide +kernel, fnD_eq, startD, sSeq_eq, seq_nx, seq_rt, fin_rt, sIf_eq, cVal, b2, b1, vVar_eq, slotV_sh, vLst, vTup, aNil, aCons, vC, ok_bind, ofO_some, thenS_ok, sRet, sSet, sNext, vFn, vCall, cAnd, oSome, oNone, vSl, vJoin, cTrue, truD_bool, List.map_cons, List.map_nil, List.length_cons, List.length_nil, List.replicate, List.cons_append, List.nil_append, List.append_nil, List.getElem?_cons_zero, List.getElem?_cons_succ, List.set_cons_zero, List.set_cons_succ, Nat.reduceAdd, Nat.reduceSub, Bool.false_eq_true, reduceIte])
  . exact no _ (by simp only [ix0, dEqS, show (("undo" : Str) == ("add" : Str)) = false from by decide +kernel, fnD_eq, startD, sSeq_eq, seq_nx, seq_rt, fin_rt, sIf_eq, cVal, b2, b1, vVar_eq, slotV_sh, vLst, vTup, aNil, aCons, vC, ok_bind, ofO_some, thenS_ok, sRet, sSet, sNext, vFn, vCall, cAnd, oSome, oNone, vSl, vJoin, cTrue, truD_bool, List.map_cons, List.map_nil, List.length_cons, List.length_nil, List.replicate, List.cons_append, List.nil_append, List.append_nil, List.getElem?_cons_zero, List.getElem?_cons_succ, List.set_cons_zero, List.set_cons_succ, Nat.reduceAdd, Nat.reduceSub, Bool.false_eq_true, reduceIte])
abbrev Dp := PyData × IdP
theorem signs_loop {S : IdP -> PyData -> Prop} {U : IdP -> IdP -> Prop} {T : Int} (D : List PyData) (B : PyData) : ∀ (ds : List Dp), (∀ e ∈ ds, Wf e.2 (S e.2) (U e.2) e.1 /\ e.1 ∈ D /\ e.2.1 < T) -> ds.Pairwise (fun a b => key a.2 < key b.2) -> ∀ (fd : List PyData) (s2 : Sl), fd.length + 4 * ds.length <= 100 -> (∀ x ∈ fd, SgOf T D x) ->
    fd.Pairwise sgR -> (∀ x ∈ fd, ∃ q n, x = sgD q n /\ okH q.2 /\ ∀ e ∈ ds, key q < key e.2) -> ∃ (out : List PyData) (s2' : Sl), out.length <= fd.length + 4 * ds.length /\ (∀ x ∈ out, SgOf T D x) /\ out.Pairwise sgR /\
    runFor (st1 2) bodyS (ds.map (·.1)) [.sh B, .sh (.list fd), s2] = .nx [.sh B, .sh (.list out), s2']
  | [], _, _, fd, s2, _, hs, hp, _ => ⟨fd, s2, by omega, hs, hp, rfl⟩
  | e :: ds, hd, up, fd, s2, hl, hs, hp, hq => by
    obtain ⟨w, m, ht⟩ := hd e (.head _)
    obtain ⟨more, l1, s1, i1, p1, e1⟩ := signs_step w ht B fd (by simp at hl; omega)
    have up' := List.pairwise_cons.mp up
    obtain ⟨out, s2', l2, s3, p3, e2⟩ := signs_loop D B ds (fun d' h' => hd d' (.tail _ h')) up'.2 (fd ++ more) (.sh e.1) (by simp at hl ⊢; omega)
      (fun x hx => (List.mem_append.mp hx).elim (hs x) fun z => (s1 x z).mono fun q hq => by rw [List.mem_singleton.mp hq]; exact m)
      (List.pairwise_append.mpr ⟨hp, p1, fun a ha b hb => by
        obtain ⟨q, n, rfl, o, k⟩ := hq a ha
        obtain ⟨n', rfl⟩ := i1 b hb
        exact ⟨q, e.2, n, n', rfl, rfl, o, w.1.2.2, .inl (k e (.head _))⟩⟩)
      (fun x hx => (List.mem_append.mp hx).elim (fun z => by
        obtain ⟨q, n, h1, h2, h3⟩ := hq x z
        exact ⟨q, n, h1, h2, fun e' he' => h3 e' (.tail _ he')⟩) fun z => by
        obtain ⟨n', rfl⟩ := i1 x z
        exact ⟨e.2, n', rfl, w.1.2.2, fun e' he' => up'.1 e' he'⟩)
    refine ⟨out, s2', by simp at l2 ⊢; omega, s3, p3, ?_⟩
    rw [List.map_cons]
    unfold runFor
    simp only [st1, List.set_cons_zero, List.set_cons_succ]
    rw [e1]
    exact e2
theorem signs_ok {S : IdP -> PyData -> Prop} {U : IdP -> IdP -> Prop} {T : Int} (ds : List Dp) (hd : ∀ e ∈ ds, Wf e.2 (S e.2) (U e.2) e.1 /\ e.2.1 < T) (up : ds.Pairwise (fun a b => key a.2 < key b.2)) (hl : ds.length <= 9) :
    ∃ out : List PyData, m__law_signs [.tuple (ds.map (·.1))] = .ok (.list out) /\ out.length <= 36 /\ (∀ x ∈ out, SgOf T (ds.map (·.1)) x) /\ out.Pairwise sgR := by
  obtain ⟨out, s2', l2, s3, p3, e2⟩ := signs_loop (ds.map (·.1)) (.tuple (ds.map (·.1))) ds (fun e h => ⟨(hd e h).1, List.mem_map_of_mem h, (hd e h).2⟩) up [] .un (by simp; omega) (fun _ h => nomatch h) .nil (fun _ h => nomatch h)
  refine ⟨out, ?_, by simp at l2; omega, s3, p3⟩
  unfold m__law_signs sem__law_signs N__law_signs
  simp only [fnD_eq, startD, sSeq_eq (sSet _ _), sSet, vLst, aNil, thenS_ok, ok_bind, seq_nx, List.map_cons, List.map_nil, List.length_cons, List.length_nil, List.replicate, List.cons_append, List.nil_append, List.set_cons_zero, List.set_cons_succ, sSeq_eq (sFor _ _ _), sFor, vVar_eq, slotV_sh, seqOf, List.getElem?_cons_zero, Nat.reduceAdd, Nat.reduceSub]
  unfold bodyS at e2
  rw [e2]
  simp only [ok_bind, fnD_eq, startD, sSeq_eq, seq_nx, seq_rt, fin_rt, sIf_eq, cVal, b2, b1, vVar_eq, slotV_sh, vLst, vTup, aNil, aCons, vC, ok_bind, ofO_some, thenS_ok, sRet, sSet, sNext, vFn, vCall, cAnd, oSome, oNone, vSl, vJoin, cTrue, truD_bool, List.map_cons, List.map_nil, List.length_cons, List.length_nil, List.replicate, List.cons_append, List.nil_append, List.append_nil, List.getElem?_cons_zero, List.getElem?_cons_succ, List.set_cons_zero, List.set_cons_succ, Nat.reduceAdd, Nat.reduceSub, Bool.false_eq_true, reduceIte]
theorem sSeq_if_f {c : Dn -> Res Bool} {g1 g2 : Dn -> Out} {δ : Dn} (h : c δ = .ok false) : sSeq (sIf c g1 sNext) g2 δ = g2 δ := sSeq_nx (sIf_f h)
theorem mulL {xs : List PyData} {n : Int} (h : -(2 ^ 63) <= n /\ n < 2 ^ 63 /\ xs.length * n.toNat <= sizeLine) : dMul (.list xs) (.int n) = some (.list (List.replicate n.toNat xs).flatten) := by
  show (if _ then _ else _) = _
  rw [if_pos h]
theorem dNeL (xs : List PyData) : dNe (.list xs) (.list []) = some (.bool (!xs.isEmpty)) := by
  unfold dNe
  rw [if_pos (Nat.le_trans (Nat.min_le_right _ _) (by decide))]
  cases xs <;> rfl
theorem dEqL (xs : List PyData) : dEq (.list xs) (.list []) = some (.bool xs.isEmpty) := by
  unfold dEq
  rw [if_pos (Nat.le_trans (Nat.min_le_right _ _) (by decide))]
  cases xs <;> rfl
theorem dNeT (xs : List PyData) : dNe (.tuple xs) (.tuple []) = some (.bool (!xs.isEmpty)) := by
  unfold dNe
  rw [if_pos (Nat.le_trans (Nat.min_le_right _ _) (by decide))]
  cases xs <;> rfl
theorem ltI (a b : Int) : dCmp .Lt (.int a) (.int b) = some (.bool (decide (a < b))) := by
  unfold dCmp
  rw [if_pos (by simp [PyData.depth])]
  rfl
theorem dEqI (a b : Int) : dEq (.int a) (.int b) = some (.bool (a == b)) := by
  unfold dEq
  rw [if_pos (Nat.le_trans (Nat.min_le_left _ _) (by simp [PyData.depth]))]
  rfl
theorem depthId (t : Int) (h : Str) : (idD t h).depth <= 2 := by simp [idD, PyData.depth, PyData.depthAll]
theorem lenL (xs : List PyData) : dLen [.list xs] = some (.int (xs.length : Int)) := rfl
theorem lenT (xs : List PyData) : dLen [.tuple xs] = some (.int (xs.length : Int)) := rfl
theorem anchor_ok (ns : List Int) (hns : ns.length <= 63) (a : Int) (S : PyData -> Prop) (sg : List PyData) (hs : ∀ x ∈ sg, S x) (hl : sg.length <= 36) : ∃ s x, m__law_anchor [scr ns, .int a, .list sg] = .ok (.tuple [s, .str x]) /\ OrN S s /\ lrOk x := by
  obtain ⟨r1, e1, a1, b1⟩ := drawn_ok ns hns a ((sg.length : Int) + 1) (by omega)
  obtain ⟨r2, e2, a2, b2'⟩ := drawn_ok ns hns (a + 1) 2 (by decide)
  obtain ⟨c, hc, f2⟩ := ixS' (x := "lr") a2 (by rw [show ("lr" : Str).cps.toList.length = 2 from by decide]; exact b2')
  have g := addL (x := [.none]) (y := sg) (by simp; omega)
  obtain ⟨s, hs', f1⟩ := ixL (xs := [.none] ++ sg) a1 (by simp; omega)
  refine ⟨s, ⟨#[c]⟩, ?_, ?_, ?_⟩
  . unfold m__law_anchor sem__law_anchor N__law_anchor
    generalize [PyData.none] ++ sg = L at *
    simp only [g, lenL, addI, e1, f1, e2, f2, fnD_eq, startD, sSeq_eq, seq_nx, seq_rt, fin_rt, sIf_eq, cVal, b2, b1, vVar_eq, slotV_sh, vLst, vTup, aNil, aCons, vC, ok_bind, ofO_some, thenS_ok, sRet, sSet, sNext, vFn, vCall, cAnd, oSome, oNone, vSl, vJoin, cTrue, truD_bool, List.map_cons, List.map_nil, List.length_cons, List.length_nil, List.replicate, List.cons_append, List.nil_append, List.append_nil, List.getElem?_cons_zero, List.getElem?_cons_succ, List.set_cons_zero, List.set_cons_succ, Nat.reduceAdd, Nat.reduceSub, Bool.false_eq_true, reduceIte]
  . rcases List.mem_append.mp hs' with h | h
    . exact .inl (List.mem_singleton.mp h)
    . exact .inr (hs s h)
  . have h' : c ∈ [108, 114] := by rw [show ("lr" : Str).cps.toList = [108, 114] from by decide] at hc; exact hc
    simp only [List.mem_cons, List.not_mem_nil, or_false] at h'
    rcases h' with rfl | rfl
    . exact .inl (by decide)
    . exact .inr (by decide)
theorem comp_enum {δc : Dn} {tt : Dn -> Res Bool} : ∀ (zs : List (PyData × PyData)), (∀ z ∈ zs, ∃ b, tt ([.sh z.1, .sh z.2] ++ δc) = .ok b) -> ∃ ys : List PyData, compRun bind2 δc tt (vVar 1) (zs.map fun z => .tuple [z.1, z.2]) = .ok ys /\ ys.Sublist (zs.map (·.2))
  | [], _ => ⟨[], rfl, .slnil⟩
  | z :: zs, h => by
    obtain ⟨b, e⟩ := h z (.head _)
    obtain ⟨ys, e1, e2⟩ := comp_enum zs fun z' hz => h z' (.tail _ hz)
    rw [List.map_cons, List.map_cons]
    cases b with
    | true =>
      refine ⟨z.2 :: ys, ?_, e2.cons_cons _⟩
      unfold compRun
      rw [show bind2 (.tuple [z.1, z.2]) = .ok [.sh z.1, .sh z.2] from rfl]
      simp only [e, e1]
      rfl
    | false =>
      refine ⟨ys, ?_, e2.cons _⟩
      unfold compRun
      rw [show bind2 (.tuple [z.1, z.2]) = .ok [.sh z.1, .sh z.2] from rfl]
      simp only [e, e1]
theorem enum_eq (xs : List PyData) : enumD xs = (xs.mapIdx fun i d => (PyData.int i, d)).map fun z => PyData.tuple [z.1, z.2] := by
  unfold enumD
  apply List.ext_getElem?
  intro i
  simp [Function.comp_def]
theorem enum_snd (xs : List PyData) : (xs.mapIdx fun i d => (PyData.int i, d)).map (·.2) = xs := by
  apply List.ext_getElem?
  intro i
  simp only [List.getElem?_map, List.getElem?_mapIdx, Option.map_map]
  cases xs[i]? <;> rfl
theorem tail_mem {xs : List PyData} {x : PyData} (h : x ∈ cutD xs (some (-3)) none) : x ∈ xs := by
  unfold cutD at h
  exact List.mem_of_mem_drop (List.mem_of_mem_take h)
theorem cut_len (xs : List PyData) (lo hi : Option Int) : (cutD xs lo hi).length <= xs.length := by
  unfold cutD
  rw [List.length_take, List.length_drop]; exact Nat.le_trans (Nat.min_le_right _ _) (Nat.sub_le _ _)
theorem fin_of {o : Out} {d : PyData} (h : o = .rt d) : o.fin = .ok d := by rw [h]; rfl
theorem lt_t {a b : Int} (h : a < b) : dCmp .Lt (.int a) (.int b) = some (.bool true) := by rw [ltI, decide_eq_true h]
theorem lt_f {a b : Int} (h : ¬ a < b) : dCmp .Lt (.int a) (.int b) = some (.bool false) := by rw [ltI, decide_eq_false h]
theorem cAnd_tt {f g : Dn -> Res Bool} {δ : Dn} (h1 : f δ = .ok true) (h2 : g δ = .ok true) : cAnd f g δ = .ok true := by unfold cAnd; rw [h1, ok_bind, if_pos rfl, h2]
theorem cAnd_f {f g : Dn -> Res Bool} {δ : Dn} (h1 : f δ = .ok false) : cAnd f g δ = .ok false := by unfold cAnd; rw [h1, ok_bind, if_neg (by decide)]
theorem cAnd_tf {f g : Dn -> Res Bool} {δ : Dn} (h1 : f δ = .ok true) (h2 : g δ = .ok false) : cAnd f g δ = .ok false := by unfold cAnd; rw [h1, ok_bind, if_pos rfl, h2]
theorem vSl_ok {f : Dn -> Res PyData} {lo hi : Dn -> Res (Option Int)} {δ : Dn} {x y : PyData} {l u : Option Int} (h1 : f δ = .ok x) (h2 : lo δ = .ok l) (h3 : hi δ = .ok u) (h4 : dCut x l u = some y) : vSl f lo hi δ = .ok y := by unfold vSl; rw [h1, ok_bind, h2, ok_bind, h3, ok_bind, h4]; rfl
theorem deed_ok (ns : List Int) (hns : ns.length <= 63) {S : IdP -> PyData -> Prop} {U : IdP -> IdP -> Prop} (a : Int) (p : IdP) (ho : okI p) (kn0 : List Dp) (hk : ∀ e ∈ kn0, Wf e.2 (S e.2) (U e.2) e.1 /\ e.2.1 < p.1) (up : kn0.Pairwise (fun a b => key a.2 < key b.2)) (hkl : kn0.length <= 9) (x y z : Str) (hxyz : nmOk x /\ nmOk y /\ nmOk z) :
    ∃ d, m__law_deed [scr ns, .int a, idP p, .tuple (kn0.map (·.1)), .list [.str x, .str y, .str z]] = .ok d /\ Wf p (SgOf p.1 (kn0.map (·.1))) (fun q => ∃ e ∈ kn0, e.2 = q) d := by
  have hids : ∀ d ∈ kn0.map (·.1), ∃ q : IdP, dIx d (.int 1) = some (idP q) /\ ∃ e ∈ kn0, e.2 = q := fun d hd => by
    obtain ⟨e, he, rfl⟩ := List.mem_map.mp hd
    obtain ⟨_, hf⟩ := (hk e he).1
    refine ⟨e.2, ?_, e, he, rfl⟩
    rcases hf with ⟨_, _, q, _⟩ | ⟨_, q, _⟩ | ⟨_, _, _, _, _, q, _⟩ | ⟨_, q, _⟩ | ⟨_, q, _⟩ <;> rw [q] <;> exact atI_nat (j := 1) (by simp)
  obtain ⟨sg, es, hsl, hsg, hsr⟩ := signs_ok (T := p.1) kn0 hk up hkl
  have hkl' : (kn0.map (·.1)).length <= 9 := by rw [List.length_map]; exact hkl
  generalize kn0.map (·.1) = kn at *
  obtain ⟨way, ew, w0, w1⟩ := drawn_ok ns hns a 12 (by decide)
  obtain ⟨r5, e5, a5, b5⟩ := drawn_ok ns hns (a + 5) 3 (by decide)
  obtain ⟨nm, hnm, f5⟩ := ixL (xs := [.str x, .str y, .str z]) a5 b5
  have : ∃ q, nm = .str q /\ nmOk q := by
    simp only [List.mem_cons, List.not_mem_nil, or_false] at hnm
    rcases hnm with rfl | rfl | rfl
    . exact ⟨_, rfl, hxyz.1⟩
    . exact ⟨_, rfl, hxyz.2.1⟩
    . exact ⟨_, rfl, hxyz.2.2⟩
  obtain ⟨q, rfl, hq⟩ := this
  unfold m__law_deed sem__law_deed sx__law_deed_0 sx__law_deed_1 sx__law_deed_2 sx__law_deed_3 sx__law_deed_4 sx__law_deed_5 sx__law_deed_6 sx__law_deed_7 N__law_deed
  rw [fnD_eq]
  simp only [startD, List.map_cons, List.map_nil, List.length_cons, List.length_nil, List.replicate, List.cons_append, List.nil_append, Nat.reduceAdd, Nat.reduceSub]
  rw [sSeq_nx (sSet_ok (vCall_ok (aCons_ok rfl rfl) es)), sSeq_nx (sSet_ok (vCall_ok (aCons_ok rfl (aCons_ok rfl (aCons_ok rfl rfl))) ew))]
  simp only [List.set_cons_zero, List.set_cons_succ]
  by_cases c1 : way < 2 /\ sg ≠ []
  . have t1 : (cAnd (cVal (b2 (vVar 6) (vC (.int 2)) (dCmp .Lt))) (cVal (b2 (vVar 5) (vLst aNil) dNe))) [.sh (scr ns), .sh (.int a), .sh (idP p), .sh (.tuple kn), .sh (.list [.str x, .str y, .str z]), .sh (.list sg), .sh (.int way), .un, .un, .un] = .ok true := by
      have : sg.isEmpty = false := by cases sg with | nil => exact absurd rfl c1.2 | cons _ _ => rfl
      exact cAnd_tt (cVal_ok (b2_ok rfl rfl (lt_t c1.1))) (cVal_ok (b2_ok rfl rfl (by rw [dNeL, this]; rfl)))
    have hall : ∀ z ∈ sg.mapIdx (fun i d => (PyData.int i, d)), ∃ b, (cVal (b2 (vCall (aCons (vVar 2) (aCons (b2 (b2 (vVar 3) (vC (.int 20)) dAdd) (vVar 0) dAdd) (aCons (vC (.int 4)) aNil))) m__law_drawn) (vC (.int 0)) dEq)) ([.sh z.1, .sh z.2] ++ [.sh (scr ns), .sh (.int a)]) = .ok b := fun z hz => by
      rw [List.mem_mapIdx] at hz
      obtain ⟨i, hi, rfl⟩ := hz
      obtain ⟨r, er, _, _⟩ := drawn_ok ns hns (a + 20 + (i : Int)) 4 (by decide)
      refine ⟨r == 0, ?_⟩
      simp only [addI, er, dEqI, fnD_eq, startD, sSeq_eq, seq_nx, seq_rt, fin_rt, sIf_eq, cVal, b2, b1, vVar_eq, slotV_sh, vLst, vTup, aNil, aCons, vC, ok_bind, ofO_some, thenS_ok, sRet, sSet, sNext, vFn, vCall, cAnd, oSome, oNone, vSl, vJoin, cTrue, truD_bool, List.map_cons, List.map_nil, List.length_cons, List.length_nil, List.replicate, List.cons_append, List.nil_append, List.append_nil, List.getElem?_cons_zero, List.getElem?_cons_succ, List.set_cons_zero, List.set_cons_succ, Nat.reduceAdd, Nat.reduceSub, Bool.false_eq_true, reduceIte]
    obtain ⟨ys, g1, g2'⟩ := comp_enum _ hall
    rw [enum_snd] at g2'
    rw [← enum_eq] at g1
    have g2 := g2'.length_le
    have hel : (enumD sg).length = sg.length := by unfold enumD; simp
    have n1 : lComp (fun δ => ((aCons (vVar 5) aNil) δ).bind enum1) bind2 [0, 1] (cVal (b2 (vCall (aCons (vVar 2) (aCons (b2 (b2 (vVar 3) (vC (.int 20)) dAdd) (vVar 0) dAdd) (aCons (vC (.int 4)) aNil))) m__law_drawn) (vC (.int 0)) dEq)) (vVar 1) [.sh (scr ns), .sh (.int a), .sh (idP p), .sh (.tuple kn), .sh (.list [.str x, .str y, .str z]), .sh (.list sg), .sh (.int way), .un, .un, .un] = .ok ys :=
      lComp_ok (ds := enumD sg) (by show ((aCons (vVar 5) aNil) _).bind enum1 = _; rw [aCons_ok (d := .list sg) (ds := []) rfl rfl]; rfl) (by omega) rfl g1
    have hex : ∃ ex : List PyData, ex.length <= 1 /\ ((ys ++ ex).Sublist sg /\ ys ++ ex ≠ []) /\ dMul (.list (sg.take 1)) (.int (if ys.isEmpty = true then 1 else 0)) = some (.list ex) := by
      have lt : (sg.take 1).length <= 1 := by simp; omega
      cases ey : ys with
      | nil =>
        refine ⟨(List.replicate 1 (sg.take 1)).flatten, by simpa using lt, ⟨by simpa using List.take_sublist 1 sg, fun z => c1.2 ?_⟩, ?_⟩
        . cases sg with
          | nil => rfl
          | cons _ _ => simp at z
        . rw [if_pos (show List.isEmpty [] = true from rfl)]
          exact mulL ⟨by decide, by decide, Nat.le_trans (show _ <= 1 by simpa using lt) (by decide)⟩
      | cons y0 yr =>
        refine ⟨[], by simp, ⟨by rw [List.append_nil, ← ey]; exact g2', by simp⟩, ?_⟩
        rw [if_neg (by simp)]
        exact mulL ⟨by decide, by decide, by simp⟩
    obtain ⟨ex, exl, exs, hmul⟩ := hex
    have hadd := addL (x := ys) (y := ex) (by omega)
    have cut1 : dCut (.list sg) none (some 1) = some (.list (sg.take 1)) := by
      show some (PyData.list (cutD sg none (some 1))) = _
      congr 2
      cases sg with
      | nil => rfl
      | cons s r =>
        unfold cutD HT.sIx
        simp
    have hint : dIntF [.bool ys.isEmpty] = some (.int (if ys.isEmpty = true then 1 else 0)) := rfl
    have htup : ∀ l, dTupF [.list l] = some (.tuple l) := fun _ => rfl
    have hnew : sNew 8 (lComp (fun δ => ((aCons (vVar 5) aNil) δ).bind enum1) bind2 [0, 1] (cVal (b2 (vCall (aCons (vVar 2) (aCons (b2 (b2 (vVar 3) (vC (.int 20)) dAdd) (vVar 0) dAdd) (aCons (vC (.int 4)) aNil))) m__law_drawn) (vC (.int 0)) dEq)) (vVar 1)) [.sh (scr ns), .sh (.int a), .sh (idP p), .sh (.tuple kn), .sh (.list [.str x, .str y, .str z]), .sh (.list sg), .sh (.int way), .un, .un, .un] = .nx [.sh (scr ns), .sh (.int a), .sh (idP p), .sh (.tuple kn), .sh (.list [.str x, .str y, .str z]), .sh (.list sg), .sh (.int way), .un, .sh (.list ys), .un] := by
      unfold sNew; rw [n1]; rfl
    have t2 : (sRet (vTup (aCons (vC (.str "drop")) (aCons (vVar 2) (aCons (vFn (aCons (b2 (vVar 8) (b2 (vSl (vVar 5) oNone (oSome (vC (.int 1)))) (vFn (aCons (b2 (vVar 8) (vLst aNil) dEq) aNil) dIntF) dMul) dAdd) aNil) dTupF) aNil))))) [.sh (scr ns), .sh (.int a), .sh (idP p), .sh (.tuple kn), .sh (.list [.str x, .str y, .str z]), .sh (.list sg), .sh (.int way), .un, .sh (.list ys), .un] = .rt (.tuple [.str "drop", idP p, .tuple (ys ++ ex)]) := by
      simp only [dEqL, hint, cut1, hmul, hadd, htup, fnD_eq, startD, sSeq_eq, seq_nx, seq_rt, fin_rt, sIf_eq, cVal, b2, b1, vVar_eq, slotV_sh, vLst, vTup, aNil, aCons, vC, ok_bind, ofO_some, thenS_ok, sRet, sSet, sNext, vFn, vCall, cAnd, oSome, oNone, vSl, vJoin, cTrue, truD_bool, List.map_cons, List.map_nil, List.length_cons, List.length_nil, List.replicate, List.cons_append, List.nil_append, List.append_nil, List.getElem?_cons_zero, List.getElem?_cons_succ, List.set_cons_zero, List.set_cons_succ, Nat.reduceAdd, Nat.reduceSub, Bool.false_eq_true, reduceIte]
    rw [sSeq_rt ((sIf_t t1).trans ((sSeq_nx hnew).trans t2))]
    refine ⟨_, rfl, ho, .inr (.inl ⟨_, rfl, fun s hs => hsg s (exs.1.subset hs), ?_, exs.2, hsr.sublist exs.1⟩)⟩
    rw [List.length_append]
    omega
  . have t1 : (cAnd (cVal (b2 (vVar 6) (vC (.int 2)) (dCmp .Lt))) (cVal (b2 (vVar 5) (vLst aNil) dNe))) [.sh (scr ns), .sh (.int a), .sh (idP p), .sh (.tuple kn), .sh (.list [.str x, .str y, .str z]), .sh (.list sg), .sh (.int way), .un, .un, .un] = .ok false := by
      by_cases h2 : way < 2
      . have : sg = [] := Classical.byContradiction fun z => c1 ⟨h2, z⟩
        subst this
        exact cAnd_tf (cVal_ok (b2_ok rfl rfl (lt_t h2))) (cVal_ok (b2_ok rfl rfl (dNeL [])))
      . exact cAnd_f (cVal_ok (b2_ok rfl rfl (lt_f h2)))
    rw [sSeq_if_f t1]
    by_cases c2 : way < 5
    . obtain ⟨s1, x1, f1, g1, l1⟩ := anchor_ok ns hns (a + 1) (SgOf p.1 kn) sg hsg hsl
      obtain ⟨s2, x2, f2, g2, l2⟩ := anchor_ok ns hns (a + 3) (SgOf p.1 kn) sg hsg hsl
      have hadd := addT (x := [.str "mark", idP p, .str q]) (y := [.tuple [s1, .str x1], .tuple [s2, .str x2]]) (by simp)
      refine ⟨.tuple [.str "mark", idP p, .str q, .tuple [s1, .str x1], .tuple [s2, .str x2]], ?_, ho, .inr (.inr (.inl ⟨q, s1, x1, s2, x2, rfl, g1, g2, hq, l1, l2⟩))⟩
      exact fin_of (sSeq_rt ((sIf_t (cVal_ok (b2_ok rfl rfl (lt_t c2)))).trans ((sSeq_nx (sSet_ok (vTup_ok (aCons_ok (vCall_ok (aCons_ok rfl (aCons_ok (b2_ok rfl rfl addI) (aCons_ok rfl rfl))) f1) (aCons_ok (vCall_ok (aCons_ok rfl (aCons_ok (b2_ok rfl rfl addI) (aCons_ok rfl rfl))) f2) rfl))))).trans (sRet_ok (b2_ok (vTup_ok (aCons_ok rfl (aCons_ok rfl (aCons_ok (b2_ok rfl (vCall_ok (aCons_ok rfl (aCons_ok (b2_ok rfl rfl addI) (aCons_ok rfl rfl))) e5) f5) rfl)))) rfl hadd)))))
    . by_cases c3 : way = 5
      . refine ⟨.tuple [.str "unmark", idP p, .str q], ?_, ho, .inr (.inr (.inr (.inl ⟨q, rfl, hq⟩)))⟩
        rw [sSeq_if_f (cVal_ok (b2_ok rfl rfl (lt_f c2)))]
        exact fin_of (sSeq_rt ((sIf_t (cVal_ok (b2_ok rfl rfl (by rw [dEqI, c3]; rfl)))).trans (sRet_ok (vTup_ok (aCons_ok rfl (aCons_ok rfl (aCons_ok (b2_ok rfl (vCall_ok (aCons_ok rfl (aCons_ok (b2_ok rfl rfl addI) (aCons_ok rfl rfl))) e5) f5) rfl)))))))
      . have c3' : (way == 5) = false := by simpa using c3
        by_cases c4 : way < 8 /\ kn ≠ []
        . have hne : kn.isEmpty = false := by cases kn with | nil => exact absurd rfl c4.2 | cons _ _ => rfl
          have hpos : (0 : Int) < kn.length := by cases kn with | nil => exact absurd rfl c4.2 | cons _ _ => simp
          obtain ⟨r6, e6, a6, b6⟩ := drawn_ok ns hns (a + 6) (kn.length : Int) hpos
          obtain ⟨d, hd, f6⟩ := atI_int (xs := kn) a6 b6
          obtain ⟨qi, f7, hu⟩ := hids d hd
          have f6' : dIx (.tuple kn) (.int r6) = some d := f6
          refine ⟨.tuple [.str "undo", idP p, idP qi], ?_, ho, .inr (.inr (.inr (.inr ⟨_, rfl, hu⟩)))⟩
          rw [sSeq_if_f (cVal_ok (b2_ok rfl rfl (lt_f c2))), sSeq_if_f (cVal_ok (b2_ok rfl rfl (by rw [dEqI, c3'])))]
          exact fin_of (sSeq_rt ((sIf_t (cAnd_tt (cVal_ok (b2_ok rfl rfl (lt_t c4.1))) (cVal_ok (b2_ok rfl rfl (by rw [dNeT, hne]; rfl))))).trans (sRet_ok (vTup_ok (aCons_ok rfl (aCons_ok rfl (aCons_ok (b2_ok (b2_ok rfl (vCall_ok (aCons_ok rfl (aCons_ok (b2_ok rfl rfl addI) (aCons_ok (vFn_ok (aCons_ok rfl rfl) (lenT _)) rfl))) e6) f6') rfl f7) rfl)))))))
        . have t4 : (cAnd (cVal (b2 (vVar 6) (vC (.int 8)) (dCmp .Lt))) (cVal (b2 (vVar 3) (vTup aNil) dNe))) [.sh (scr ns), .sh (.int a), .sh (idP p), .sh (.tuple kn), .sh (.list [.str x, .str y, .str z]), .sh (.list sg), .sh (.int way), .un, .un, .un] = .ok false := by
            by_cases h2 : way < 8
            . have : kn = [] := Classical.byContradiction fun z => c4 ⟨h2, z⟩
              subst this
              exact cAnd_tf (cVal_ok (b2_ok rfl rfl (lt_t h2))) (cVal_ok (b2_ok rfl rfl (dNeT [])))
            . exact cAnd_f (cVal_ok (b2_ok rfl rfl (lt_f h2)))
          obtain ⟨w, ew2, wl⟩ := words_ok ns hns (a + 8)
          have g1 := addL (x := [.none]) (y := sg) (by simp; omega)
          have hc : dCut (.list sg) (some (-3)) none = some (.list (cutD sg (some (-3)) none)) := rfl
          have hcl := cut_len sg (some (-3)) none
          have hcm : ∀ s ∈ cutD sg (some (-3)) none, SgOf p.1 kn s := fun s hs => hsg s (tail_mem hs)
          generalize cutD sg (some (-3)) none = ct at *
          have g2 := addL (x := [.none] ++ sg) (y := ct) (by simp; omega)
          obtain ⟨r7, e7, a7, b7⟩ := drawn_ok ns hns (a + 7) ((sg.length : Int) + 1 + (ct.length : Int)) (by omega)
          obtain ⟨bh, hbh, f7⟩ := ixL (xs := [.none] ++ sg ++ ct) a7 (by simp; omega)
          have hneg : dNeg (.int 3) = some (.int (-3)) := rfl
          have hb : OrN (SgOf p.1 kn) bh := by
            rcases List.mem_append.mp hbh with h | h
            . rcases List.mem_append.mp h with h | h
              . exact .inl (List.mem_singleton.mp h)
              . exact .inr (hsg bh h)
            . exact .inr (hcm bh h)
          generalize [PyData.none] ++ sg = L1 at *
          generalize L1 ++ ct = L2' at *
          refine ⟨.tuple [.str "add", idP p, bh, .str w], ?_, ho, .inl ⟨bh, w, rfl, hb, wl⟩⟩
          rw [sSeq_if_f (cVal_ok (b2_ok rfl rfl (lt_f c2))), sSeq_if_f (cVal_ok (b2_ok rfl rfl (by rw [dEqI, c3']))), sSeq_if_f t4]
          have sl : vSl (vVar 5) (oSome (b1 (vC (.int 3)) dNeg)) oNone [.sh (scr ns), .sh (.int a), .sh (idP p), .sh (.tuple kn), .sh (.list [.str x, .str y, .str z]), .sh (.list sg), .sh (.int way), .un, .un, .un] = .ok (.list ct) := vSl_ok rfl rfl rfl hc
          exact fin_of ((sSeq_nx (sSet_ok (b2_ok (b2_ok (b2_ok rfl rfl g1) sl g2) (vCall_ok (aCons_ok rfl (aCons_ok (b2_ok rfl rfl addI) (aCons_ok (b2_ok (b2_ok (vFn_ok (aCons_ok rfl rfl) (lenL _)) rfl addI) (vFn_ok (aCons_ok sl rfl) (lenL _)) addI) rfl))) e7) f7))).trans (sRet_ok (vTup_ok (aCons_ok rfl (aCons_ok rfl (aCons_ok rfl (aCons_ok (vCall_ok (aCons_ok rfl (aCons_ok (b2_ok rfl rfl addI) rfl)) ew2) rfl)))))))
noncomputable def bodyB : Dn -> Out := (sSeq (sSet 7 (b2 (b2 (vVar 5) (vC (.int 0)) dIx) (vCall (aCons (vVar 0) (aCons (b2 (b2 (vVar 1) (vC (.int 1)) dAdd) (b2 (vC (.int 60)) (vVar 6) dMul) dAdd) (aCons (vC (.int 2)) aNil))) m__law_drawn) dAdd)) (sSeq (sSet 8 (b2 (vC (.str "abc")) (vCall (aCons (vVar 0) (aCons (b2 (b2 (vVar 1) (vC (.int 2)) dAdd) (b2 (vC (.int 60)) (vVar 6) dMul) dAdd) (aCons (vC (.int 3)) aNil))) m__law_drawn) dIx)) (sSeq (sIf (cAnd (cVal (b2 (vVar 4) (vTup aNil) dNe)) (cVal (b2 (vTup (aCons (vVar 7) (aCons (vVar 8) aNil))) (vVar 5) (dCmp .LtE)))) (sSet 7 (b2 (b2 (vVar 5) (vC (.int 0)) dIx) (vC (.int 1)) dAdd)) sNext) (sSeq (sSet 5 (vTup (aCons (vVar 7) (aCons (vVar 8) aNil)))) (sSeq (sSet 9 (vFn (aCons (vLst (lComp (fun δ => ((vVar 4) δ).bind seqOf) bind1 [7] (cVal (b2 (b2 (b2 (vVar 0) (vC (.int 1)) dIx) (vC (.int 0)) dIx) (vVar 1) (dCmp .Lt))) (vVar 0))) aNil) dTupF)) (sSet 4 (b2 (vVar 4) (vTup (aCons (vCall (aCons (vVar 0) (aCons (b2 (b2 (vVar 1) (vC (.int 3)) dAdd) (b2 (vC (.int 60)) (vVar 6) dMul) dAdd) (aCons (vVar 5) (aCons (vVar 9) (aCons (vVar 3) aNil))))) m__law_deed) aNil)) dAdd)))))))
theorem leS (h h' : Str) (k : okH h) (k' : okH h') : (h == h') = decide (hj h = hj h') /\ sCmp .LtE h h' = decide (hj h <= hj h') := by
  rcases k with rfl | rfl | rfl <;> rcases k' with rfl | rfl | rfl <;> exact ⟨by decide +kernel, by decide +kernel⟩
theorem leIdE {t t' : Int} {h h' : Str} (k : okH h) (k' : okH h') : dCmp .LtE (idD t h) (idD t' h') = some (.bool (decide (key (t, h) <= key (t', h')))) := by
  obtain ⟨e1, e2⟩ := leS h h' k k'
  have l1 := hj_lt h
  have l2 := hj_lt h'
  unfold dCmp key
  rw [if_pos (Nat.le_trans (depthId t h) (by decide))]
  show (cmpL .LtE [.int t, .str h] [.int t', .str h']).map PyData.bool = _
  simp only [cmpL]
  have f1 : PyData.eqv (.int t) (.int t') = (t == t') := rfl
  have f2 : PyData.eqv (.str h) (.str h') = (h == h') := rfl
  rw [f1, f2, e1]
  by_cases c1 : t = t'
  . subst c1
    rw [if_pos (by simp)]
    by_cases c2 : hj h = hj h'
    . rw [if_pos (by simp [c2])]
      simp [zCmp, c2]
    . rw [if_neg (by simp [c2])]
      show (some (sCmp .LtE h h')).map PyData.bool = _
      rw [e2]
      simp only [Option.map_some]
      congr 3
      apply propext; omega
  . rw [if_neg (by simp [c1])]
    show (some (decide (t <= t'))).map PyData.bool = _
    simp only [Option.map_some]
    congr 3
    apply propext; omega
theorem Wf.id {p : IdP} {S : PyData -> Prop} {U : IdP -> Prop} {d : PyData} (w : Wf p S U d) : dIx d (.int 1) = some (idP p) := by
  obtain ⟨_, hf⟩ := w
  rcases hf with ⟨_, _, q, _⟩ | ⟨_, q, _⟩ | ⟨_, _, _, _, _, q, _⟩ | ⟨_, q, _⟩ | ⟨_, q, _⟩ <;> rw [q] <;> exact atI_nat (j := 1) (by simp)
theorem ix0 (x : PyData) (xs : List PyData) : dIx (.tuple (x :: xs)) (.int 0) = some x := atI_nat (xs := x :: xs) (j := 0) (by simp)
theorem abc {c : Nat} (h : c ∈ ("abc" : Str).cps.toList) : (⟨#[c]⟩ : Str) = "a" \/ (⟨#[c]⟩ : Str) = "b" \/ (⟨#[c]⟩ : Str) = "c" := by
  have h' : c ∈ [97, 98, 99] := by
    have : ("abc" : Str).cps.toList = [97, 98, 99] := by decide
    rw [this] at h; exact h
  simp only [List.mem_cons, List.not_mem_nil, or_false] at h'
  rcases h' with rfl | rfl | rfl
  . exact .inl (by decide)
  . exact .inr (.inl (by decide))
  . exact .inr (.inr (by decide))
theorem comp_dp {δc : Dn} {tt : Dn -> Res Bool} (f : Dp -> Bool) : ∀ L : List Dp, (∀ e ∈ L, tt ([.sh e.1] ++ δc) = .ok (f e)) -> compRun bind1 δc tt (vVar 0) (L.map (·.1)) = .ok ((L.filter f).map (·.1))
  | [], _ => rfl
  | e :: L, h => by
    have h1 := h e (.head _)
    have ih := comp_dp f L fun e' he => h e' (.tail _ he)
    rw [List.map_cons]
    unfold compRun
    rw [show bind1 e.1 = .ok [.sh e.1] from rfl]
    simp only [h1, ih]
    cases hf : f e with
    | true => rw [List.filter_cons_of_pos hf]; rfl
    | false => rw [List.filter_cons_of_neg (by rw [hf]; decide)]
def Upk (L : List Dp) : Prop := L.Pairwise fun a b => key a.2 < key b.2
def WfIn (L : List Dp) (e : Dp) : Prop := Wf e.2 (SgOf e.2.1 (L.map (·.1))) (fun q => (∃ e' ∈ L, e'.2 = q) /\ q.1 < e.2.1) e.1
def BkW (L : List Dp) : Prop := (∀ e ∈ L, WfIn L e) /\ Upk L
theorem WfIn.mono {L L' : List Dp} {e : Dp} (h : WfIn L e) (k : ∀ x ∈ L, x ∈ L') : WfIn L' e :=
  Wf.mono h (fun x hx => hx.mono fun d hd => by obtain ⟨y, hy, rfl⟩ := List.mem_map.mp hd; exact List.mem_map_of_mem (k y hy)) fun q ⟨⟨y, hy, e⟩, hq⟩ => ⟨⟨y, k y hy, e⟩, hq⟩
theorem book_step (ns : List Int) (hns : ns.length <= 63) (x y z : Str) (hxyz : nmOk x /\ nmOk y /\ nmOk z) (k : Int) (hk : 0 <= k) (hk2 : k < 9) (j : Nat) (hj : j < 9) (L : List Dp) (hl : L.length = j) (hd : BkW L) (t : Int) (h : Str) (ht : 1 <= t) (ht2 : t <= j + 1) (hth : okH h) (s7 s8 s9 : Sl) :
    ∃ (d : PyData) (t' : Int) (h' : Str) (s7' s8' s9' : Sl), WfIn L (d, (t', h')) /\ 1 <= t' /\ t' <= ((j + 1 : Nat) : Int) + 1 /\ okH h' /\ (L = [] \/ key (t, h) < key (t', h')) /\ bodyB [.sh (scr ns), .sh (.int 10), .sh (.int 9), .sh (.list [.str x, .str y, .str z]), .sh (.tuple (L.map (·.1))), .sh (idD t h), .sh (.int k), s7, s8, s9]
      = .nx [.sh (scr ns), .sh (.int 10), .sh (.int 9), .sh (.list [.str x, .str y, .str z]), .sh (.tuple (L.map (·.1) ++ [d])), .sh (idD t' h'), .sh (.int k), s7', s8', s9'] := by
  obtain ⟨r1, e1, a1, b1⟩ := drawn_ok ns hns (10 + 1 + 60 * k) 2 (by decide)
  obtain ⟨r2, e2, a2, b2'⟩ := drawn_ok ns hns (10 + 2 + 60 * k) 3 (by decide)
  obtain ⟨c, hc, f2⟩ := ixS' (x := "abc") a2 (by have : ("abc" : Str).cps.toList.length = 3 := by decide
                                                 rw [this]; exact b2')
  have hh := abc hc
  generalize (⟨#[c]⟩ : Str) = hd' at *
  have eb := leIdE (t := t + r1) (t' := t) (show okH hd' from hh) hth
  have go : ∀ tt : Int, 1 <= tt -> tt <= j + 2 -> ∃ d, WfIn L (d, (tt, hd')) /\ ∃ kn, (sSeq (sSet 5 (vTup (aCons (vVar 7) (aCons (vVar 8) aNil)))) (sSeq (sSet 9 (vFn (aCons (vLst (lComp (fun δ => ((vVar 4) δ).bind seqOf) bind1 [7] (cVal (b2 (b2 (b2 (vVar 0) (vC (.int 1)) dIx) (vC (.int 0)) dIx) (vVar 1) (dCmp .Lt))) (vVar 0))) aNil) dTupF)) (sSet 4 (b2 (vVar 4) (vTup (aCons (vCall (aCons (vVar 0) (aCons (b2 (b2 (vVar 1) (vC (.int 3)) dAdd) (b2 (vC (.int 60)) (vVar 6) dMul) dAdd) (aCons (vVar 5) (aCons (vVar 9) (aCons (vVar 3) aNil))))) m__law_deed) aNil)) dAdd))))
      [.sh (scr ns), .sh (.int 10), .sh (.int 9), .sh (.list [.str x, .str y, .str z]), .sh (.tuple (L.map (·.1))), .sh (idD t h), .sh (.int k), .sh (.int tt), .sh (.str hd'), s9]
      = .nx [.sh (scr ns), .sh (.int 10), .sh (.int 9), .sh (.list [.str x, .str y, .str z]), .sh (.tuple (L.map (·.1) ++ [d])), .sh (idD tt hd'), .sh (.int k), .sh (.int tt), .sh (.str hd'), .sh (.tuple kn)] := fun tt h1 h2 => by
    have g1 := comp_dp (δc := [.sh (.int tt)]) (tt := cVal (b2 (b2 (b2 (vVar 0) (vC (.int 1)) dIx) (vC (.int 0)) dIx) (vVar 1) (dCmp .Lt))) (fun e => decide (e.2.1 < tt)) L fun e he => by
      have := (hd.1 e he).id
      simp only [this, ix0, ltI, fnD_eq, startD, sSeq_eq, seq_nx, seq_rt, fin_rt, sIf_eq, cVal, b2, b1, vVar_eq, slotV_sh, vLst, vTup, aNil, aCons, vC, ok_bind, ofO_some, thenS_ok, sRet, sSet, sNext, vFn, vCall, cAnd, oSome, oNone, vSl, vJoin, cTrue, truD_bool, List.map_cons, List.map_nil, List.length_cons, List.length_nil, List.replicate, List.cons_append, List.nil_append, List.append_nil, List.getElem?_cons_zero, List.getElem?_cons_succ, List.set_cons_zero, List.set_cons_succ, Nat.reduceAdd, Nat.reduceSub, Bool.false_eq_true, reduceIte]
    have fm : ∀ e ∈ L.filter fun e => decide (e.2.1 < tt), e ∈ L /\ e.2.1 < tt := fun e he => by
      obtain ⟨m, q⟩ := List.mem_filter.mp he
      exact ⟨m, of_decide_eq_true q⟩
    have fl := List.length_filter_le (fun e : Dp => decide (e.2.1 < tt)) L
    obtain ⟨d, ed, wd'⟩ := deed_ok ns hns (S := fun p => SgOf p.1 (L.map (·.1))) (U := fun p q => (∃ e' ∈ L, e'.2 = q) /\ q.1 < p.1) (10 + 3 + 60 * k) (tt, hd') ⟨h1, by simp only; omega, hh⟩ (L.filter fun e => decide (e.2.1 < tt)) (fun e he => ⟨hd.1 e (fm e he).1, (fm e he).2⟩) (hd.2.filter _) (by omega) x y z hxyz
    have wd : WfIn L (d, (tt, hd')) := wd'.mono (fun x hx => hx.mono fun q hq => by obtain ⟨e, he, rfl⟩ := List.mem_map.mp hq; exact List.mem_map_of_mem (fm e he).1) fun q ⟨e, he, hq⟩ => ⟨⟨e, (fm e he).1, hq⟩, hq ▸ (fm e he).2⟩
    have ll : (L.map (·.1)).length = j := by rw [List.length_map]; exact hl
    generalize (L.filter fun e => decide (e.2.1 < tt)).map (·.1) = kn at *
    refine ⟨d, wd, kn, ?_⟩
    have hadd := addT (x := L.map (·.1)) (y := [d]) (by simp; omega)
    have htup : dTupF [.list kn] = some (.tuple kn) := rfl
    rw [sSeq_nx (sSet_ok (vTup_ok (aCons_ok rfl (aCons_ok rfl rfl))))]
    simp only [List.set_cons_zero, List.set_cons_succ]
    rw [sSeq_nx (sSet_ok (vFn_ok (aCons_ok (vLst_ok (lComp_ok (src_seq rfl rfl) (by omega) rfl g1)) rfl) htup))]
    simp only [List.set_cons_zero, List.set_cons_succ]
    simp only [addI, mul60, ed, hadd, fnD_eq, startD, sSeq_eq, seq_nx, seq_rt, fin_rt, sIf_eq, cVal, b2, b1, vVar_eq, slotV_sh, vLst, vTup, aNil, aCons, vC, ok_bind, ofO_some, thenS_ok, sRet, sSet, sNext, vFn, vCall, cAnd, oSome, oNone, vSl, vJoin, cTrue, truD_bool, List.map_cons, List.map_nil, List.length_cons, List.length_nil, List.replicate, List.cons_append, List.nil_append, List.append_nil, List.getElem?_cons_zero, List.getElem?_cons_succ, List.set_cons_zero, List.set_cons_succ, Nat.reduceAdd, Nat.reduceSub, Bool.false_eq_true, reduceIte]
  unfold bodyB
  rw [sSeq_nx (sSet_ok (d := .int (t + r1)) (by simp only [ix0, addI, mul60, e1, fnD_eq, startD, sSeq_eq, seq_nx, seq_rt, fin_rt, sIf_eq, cVal, b2, b1, vVar_eq, slotV_sh, vLst, vTup, aNil, aCons, vC, ok_bind, ofO_some, thenS_ok, sRet, sSet, sNext, vFn, vCall, cAnd, oSome, oNone, vSl, vJoin, cTrue, truD_bool, List.map_cons, List.map_nil, List.length_cons, List.length_nil, List.replicate, List.cons_append, List.nil_append, List.append_nil, List.getElem?_cons_zero, List.getElem?_cons_succ, List.set_cons_zero, List.set_cons_succ, Nat.reduceAdd, Nat.reduceSub, Bool.false_eq_true, reduceIte]))]
  simp only [List.set_cons_zero, List.set_cons_succ]
  rw [sSeq_nx (sSet_ok (d := .str hd') (by simp only [addI, mul60, e2, f2, fnD_eq, startD, sSeq_eq, seq_nx, seq_rt, fin_rt, sIf_eq, cVal, b2, b1, vVar_eq, slotV_sh, vLst, vTup, aNil, aCons, vC, ok_bind, ofO_some, thenS_ok, sRet, sSet, sNext, vFn, vCall, cAnd, oSome, oNone, vSl, vJoin, cTrue, truD_bool, List.map_cons, List.map_nil, List.length_cons, List.length_nil, List.replicate, List.cons_append, List.nil_append, List.append_nil, List.getElem?_cons_zero, List.getElem?_cons_succ, List.set_cons_zero, List.set_cons_succ, Nat.reduceAdd, Nat.reduceSub, Bool.false_eq_true, reduceIte]))]
  simp only [List.set_cons_zero, List.set_cons_succ]
  have hc1 : ∃ b, (b = false -> L = [] \/ key (t, h) < key (t + r1, hd')) /\ (cAnd (cVal (b2 (vVar 4) (vTup aNil) dNe)) (cVal (b2 (vTup (aCons (vVar 7) (aCons (vVar 8) aNil))) (vVar 5) (dCmp .LtE)))) [.sh (scr ns), .sh (.int 10), .sh (.int 9), .sh (.list [.str x, .str y, .str z]), .sh (.tuple (L.map (·.1))), .sh (idD t h), .sh (.int k), .sh (.int (t + r1)), .sh (.str hd'), s9] = .ok b := by
    cases he : (L.map (·.1)).isEmpty with
    | true => exact ⟨false, fun _ => .inl (by cases L with | nil => rfl | cons _ _ => cases he), by simp only [dNeT, he, Bool.not_true, fnD_eq, startD, sSeq_eq, seq_nx, seq_rt, fin_rt, sIf_eq, cVal, b2, b1, vVar_eq, slotV_sh, vLst, vTup, aNil, aCons, vC, ok_bind, ofO_some, thenS_ok, sRet, sSet, sNext, vFn, vCall, cAnd, oSome, oNone, vSl, vJoin, cTrue, truD_bool, List.map_cons, List.map_nil, List.length_cons, List.length_nil, List.replicate, List.cons_append, List.nil_append, List.append_nil, List.getElem?_cons_zero, List.getElem?_cons_succ, List.set_cons_zero, List.set_cons_succ, Nat.reduceAdd, Nat.reduceSub, Bool.false_eq_true, reduceIte]⟩
    | false => exact ⟨decide (key (t + r1, hd') <= key (t, h)), fun z => .inr (by have := of_decide_eq_false z; omega), by simp only [dNeT, he, Bool.not_false, eb, fnD_eq, startD, sSeq_eq, seq_nx, seq_rt, fin_rt, sIf_eq, cVal, b2, b1, vVar_eq, slotV_sh, vLst, vTup, aNil, aCons, vC, ok_bind, ofO_some, thenS_ok, sRet, sSet, sNext, vFn, vCall, cAnd, oSome, oNone, vSl, vJoin, cTrue, truD_bool, List.map_cons, List.map_nil, List.length_cons, List.length_nil, List.replicate, List.cons_append, List.nil_append, List.append_nil, List.getElem?_cons_zero, List.getElem?_cons_succ, List.set_cons_zero, List.set_cons_succ, Nat.reduceAdd, Nat.reduceSub, Bool.false_eq_true, reduceIte]⟩
  obtain ⟨b, hbk, hb⟩ := hc1
  cases b with
  | true =>
    obtain ⟨d, wd, kn, ek⟩ := go (t + 1) (by omega) (by omega)
    refine ⟨d, t + 1, hd', .sh (.int (t + 1)), .sh (.str hd'), .sh (.tuple kn), wd, by omega, by omega, hh, .inr (by have := hj_lt h; unfold key; simp only; omega), ?_⟩
    rw [sSeq_nx ((sIf_t hb).trans (sSet_ok (d := .int (t + 1)) (by simp only [ix0, addI, fnD_eq, startD, sSeq_eq, seq_nx, seq_rt, fin_rt, sIf_eq, cVal, b2, b1, vVar_eq, slotV_sh, vLst, vTup, aNil, aCons, vC, ok_bind, ofO_some, thenS_ok, sRet, sSet, sNext, vFn, vCall, cAnd, oSome, oNone, vSl, vJoin, cTrue, truD_bool, List.map_cons, List.map_nil, List.length_cons, List.length_nil, List.replicate, List.cons_append, List.nil_append, List.append_nil, List.getElem?_cons_zero, List.getElem?_cons_succ, List.set_cons_zero, List.set_cons_succ, Nat.reduceAdd, Nat.reduceSub, Bool.false_eq_true, reduceIte])))]
    simp only [List.set_cons_zero, List.set_cons_succ]
    exact ek
  | false =>
    obtain ⟨d, wd, kn, ek⟩ := go (t + r1) (by omega) (by omega)
    refine ⟨d, t + r1, hd', .sh (.int (t + r1)), .sh (.str hd'), .sh (.tuple kn), wd, by omega, by omega, hh, hbk rfl, ?_⟩
    rw [sSeq_if_f hb]
    exact ek
theorem BkW.snoc {L : List Dp} {d : PyData} {p q : IdP} (h : BkW L) (w : WfIn L (d, q)) (hk : ∀ e ∈ L, key e.2 <= key p) (hq : L = [] \/ key p < key q) : BkW (L ++ [(d, q)]) /\ ∀ e ∈ L ++ [(d, q)], key e.2 <= key q := by
  have lt : ∀ e ∈ L, key e.2 < key q := fun e he => by
    rcases hq with z | z
    . rw [z] at he; exact nomatch he
    . have := hk e he; omega
  have up : ∀ x ∈ L, x ∈ L ++ [(d, q)] := fun x hx => List.mem_append_left _ hx
  refine ⟨⟨fun e he => ?_, ?_⟩, fun e he => ?_⟩
  . rcases List.mem_append.mp he with z | z
    . exact (h.1 e z).mono up
    . rw [List.mem_singleton.mp z]; exact w.mono up
  . exact List.pairwise_append.mpr ⟨h.2, List.pairwise_singleton _ _, fun a ha b hb => by rw [List.mem_singleton.mp hb]; exact lt a ha⟩
  . rcases List.mem_append.mp he with z | z
    . exact Int.le_of_lt (lt e z)
    . rw [List.mem_singleton.mp z]; exact Int.le_refl _
theorem book_loop (ns : List Int) (hns : ns.length <= 63) (x y z : Str) (hxyz : nmOk x /\ nmOk y /\ nmOk z) : ∀ (l : List PyData), (∀ d ∈ l, ∃ k : Int, d = .int k /\ 0 <= k /\ k < 9) -> ∀ (j : Nat) (L : List Dp) (t : Int) (h : Str) (s6 s7 s8 s9 : Sl), j + l.length <= 9 -> L.length = j -> BkW L -> (∀ e ∈ L, key e.2 <= key (t, h)) -> 1 <= t -> t <= j + 1 -> okH h ->
    ∃ L' s5 s6' s7' s8' s9', BkW L' /\ L'.length <= 9 /\ runFor (st1 6) bodyB l [.sh (scr ns), .sh (.int 10), .sh (.int 9), .sh (.list [.str x, .str y, .str z]), .sh (.tuple (L.map (·.1))), .sh (idD t h), s6, s7, s8, s9] = .nx [.sh (scr ns), .sh (.int 10), .sh (.int 9), .sh (.list [.str x, .str y, .str z]), .sh (.tuple (L'.map (·.1))), s5, s6', s7', s8', s9']
  | [], _, j, L, t, h, s6, s7, s8, s9, hj, hl, hd, _, _, _, _ => ⟨L, _, _, _, _, _, hd, by simp at hj; omega, rfl⟩
  | d0 :: l, hk, j, L, t, h, s6, s7, s8, s9, hj, hl, hd, hb, h1, h2, h3 => by
    obtain ⟨k, rfl, k0, k1⟩ := hk d0 (.head _)
    simp only [List.length_cons] at hj
    obtain ⟨d, t', h', s7', s8', s9', wd, t1, t2, t3, kk, e⟩ := book_step ns hns x y z hxyz k k0 k1 j (by omega) L hl hd t h h1 h2 h3 s7 s8 s9
    obtain ⟨hB, hB2⟩ := hd.snoc wd hb kk
    obtain ⟨L', s5, s6', s7'', s8'', s9'', w', l', e'⟩ := book_loop ns hns x y z hxyz l (fun d hd => hk d (.tail _ hd)) (j + 1) (L ++ [(d, (t', h'))]) t' h' (.sh (.int k)) s7' s8' s9' (by omega) (by simp [hl]) hB hB2 t1 t2 t3
    refine ⟨L', s5, s6', s7'', s8'', s9'', w', l', ?_⟩
    unfold runFor
    simp only [st1, List.set_cons_zero, List.set_cons_succ]
    rw [e]
    rw [List.map_append] at e'
    exact e'
theorem book_ok (ns : List Int) (hns : ns.length <= 63) (x y z : Str) (hxyz : nmOk x /\ nmOk y /\ nmOk z) : ∃ L, m__law_book [scr ns, .int 10, .int 9, .list [.str x, .str y, .str z]] = .ok (.tuple (L.map (·.1))) /\ L.length <= 9 /\ BkW L := by
  obtain ⟨r, e, a, b⟩ := drawn_ok ns hns 10 (9 + 1) (by decide)
  have hmem : ∀ d ∈ rngD 0 r, ∃ k : Int, d = .int k /\ 0 <= k /\ k < 9 := fun d hd => by
    unfold rngD at hd
    obtain ⟨i, hi, rfl⟩ := List.mem_map.mp hd
    have := List.mem_range.mp hi
    exact ⟨_, rfl, by omega, by omega⟩
  have hlen : (rngD 0 r).length <= 9 := by unfold rngD; simp; omega
  obtain ⟨L, s5, s6, s7, s8, s9, w, l, e'⟩ := book_loop ns hns x y z hxyz (rngD 0 r) hmem 0 [] 1 "a" .un .un .un .un (by omega) rfl ⟨(fun _ h => nomatch h), .nil⟩ (fun _ h => nomatch h) (by decide) (by decide) (.inl rfl)
  refine ⟨L, fn_rt ?_, l, w⟩
  unfold sem__law_book sx__law_book_0 sx__law_book_1 sx__law_book_2 sx__law_book_3 N__law_book
  simp only [startD, List.map_cons, List.map_nil, List.length_cons, List.length_nil, List.replicate, List.cons_append, List.nil_append, Nat.reduceAdd, Nat.reduceSub]
  rw [sSeq_nx (sSet_ok (d := .tuple []) rfl), sSeq_nx (sSet_ok (d := idD 1 "a") rfl)]
  simp only [List.set_cons_zero, List.set_cons_succ]
  have hfor : sFor (fun δ => ((aCons (vCall (aCons (vVar 0) (aCons (vVar 1) (aCons (b2 (vVar 2) (vC (.int 1)) dAdd) aNil))) m__law_drawn) aNil) δ).bind rng1) (st1 6) bodyB [.sh (scr ns), .sh (.int 10), .sh (.int 9), .sh (.list [.str x, .str y, .str z]), .sh (.tuple []), .sh (idD 1 "a"), .un, .un, .un, .un] = .nx [.sh (scr ns), .sh (.int 10), .sh (.int 9), .sh (.list [.str x, .str y, .str z]), .sh (.tuple (L.map (·.1))), s5, s6, s7, s8, s9] := by
    unfold sFor
    have := src_rng (fs := aCons (vCall (aCons (vVar 0) (aCons (vVar 1) (aCons (b2 (vVar 2) (vC (.int 1)) dAdd) aNil))) m__law_drawn) aNil) (δ := [.sh (scr ns), .sh (.int 10), .sh (.int 9), .sh (.list [.str x, .str y, .str z]), .sh (.tuple []), .sh (idD 1 "a"), .un, .un, .un, .un]) (n := r) (by simp only [addI, e, fnD_eq, startD, sSeq_eq, seq_nx, seq_rt, fin_rt, sIf_eq, cVal, b2, b1, vVar_eq, slotV_sh, vLst, vTup, aNil, aCons, vC, ok_bind, ofO_some, thenS_ok, sRet, sSet, sNext, vFn, vCall, cAnd, oSome, oNone, vSl, vJoin, cTrue, truD_bool, List.map_cons, List.map_nil, List.length_cons, List.length_nil, List.replicate, List.cons_append, List.nil_append, List.append_nil, List.getElem?_cons_zero, List.getElem?_cons_succ, List.set_cons_zero, List.set_cons_succ, Nat.reduceAdd, Nat.reduceSub, Bool.false_eq_true, reduceIte]) a (by omega)
    rw [this, thenS_ok]
    exact e'
  exact (sSeq_nx hfor).trans (sRet_ok rfl)
theorem eqvId (p q : IdP) : PyData.eqv (idP p) (idP q) = decide (p = q) := by
  show (PyData.eqv (.int p.1) (.int q.1) && (PyData.eqv (.str p.2) (.str q.2) && true)) = _
  show ((p.1 == q.1) && ((p.2 == q.2) && true)) = _
  rw [Bool.eq_iff_iff]
  simp [Prod.ext_iff]
theorem depthP (p : IdP) : (idP p).depth <= 2 := depthId p.1 p.2
theorem dEqP (p q : IdP) : dEq (idP p) (idP q) = some (.bool (decide (p = q))) := by
  unfold dEq
  rw [if_pos (Nat.le_trans (Nat.min_le_left _ _) (Nat.le_trans (depthP p) (by decide))), eqvId]
theorem dIdx1 (x y : PyData) (xs : List PyData) : dIx (.tuple (x :: y :: xs)) (.int 1) = some y := atI_nat (xs := x :: y :: xs) (j := 1) (by simp)
theorem dIdx2 (x y z : PyData) (xs : List PyData) : dIx (.tuple (x :: y :: z :: xs)) (.int 2) = some z := atI_nat (xs := x :: y :: z :: xs) (j := 2) (by simp)
theorem dIdx3 (x y z u : PyData) (xs : List PyData) : dIx (.tuple (x :: y :: z :: u :: xs)) (.int 3) = some u := atI_nat (xs := x :: y :: z :: u :: xs) (j := 3) (by simp)
theorem dIdx4 (x y z u v : PyData) (xs : List PyData) : dIx (.tuple (x :: y :: z :: u :: v :: xs)) (.int 4) = some v := atI_nat (xs := x :: y :: z :: u :: v :: xs) (j := 4) (by simp)
theorem leI (a b : Int) : dCmp .LtE (.int a) (.int b) = some (.bool (decide (a <= b))) := by
  unfold dCmp
  rw [if_pos (by simp [PyData.depth])]
  rfl
theorem ltIdS {p q : IdP} (k : okH p.2) (k' : okH q.2) (h : key p < key q) : PyData.eqv (idP p) (idP q) = false /\ cmpD .Lt (idP p) (idP q) = some true := by
  obtain ⟨t, x⟩ := p
  obtain ⟨t', y⟩ := q
  have hne : (t, x) ≠ (t', y) := fun e => by rw [e] at h; omega
  refine ⟨by rw [eqvId]; exact decide_eq_false hne, ?_⟩
  have e3 : sCmp .Lt x y = decide (hj x < hj y) := by
    rcases k with rfl | rfl | rfl <;> rcases k' with rfl | rfl | rfl <;> decide +kernel
  obtain ⟨e1, _⟩ := leS x y k k'
  have l1 := hj_lt x
  have l2 := hj_lt y
  unfold key at h
  simp only at h
  show cmpL .Lt [.int t, .str x] [.int t', .str y] = _
  simp only [cmpL]
  have f1 : PyData.eqv (.int t) (.int t') = (t == t') := rfl
  have f2 : PyData.eqv (.str x) (.str y) = (x == y) := rfl
  rw [f1, f2, e1]
  by_cases c1 : t = t'
  . subst c1
    rw [if_pos (by simp), if_neg (by simp; omega)]
    show some (sCmp .Lt x y) = _
    rw [e3, decide_eq_true (by omega)]
  . rw [if_neg (by simp [c1])]
    show some (decide (t < t')) = _
    rw [decide_eq_true (by omega)]
def ltD (a b : PyData) : Prop := dCmp .Lt a b = some (.bool true)
theorem ltId {p q : IdP} (k : okH p.2) (k' : okH q.2) (h : key p < key q) : ltD (idP p) (idP q) := by
  unfold ltD dCmp
  rw [if_pos (Nat.le_trans (depthP p) (by decide)), (ltIdS k k' h).2]; rfl
theorem sgR.lt {a b : PyData} (h : sgR a b) : ltD a b := by
  obtain ⟨p, q, n, m, rfl, rfl, k, k', h⟩ := h
  unfold ltD dCmp
  have hd : (sgD p n).depth <= 60 := by
    have := depthP p
    simp only [PyData.depth, PyData.depthAll] at this ⊢
    omega
  rw [if_pos hd]
  show (cmpL .Lt [idP p, .int n] [idP q, .int m]).map PyData.bool = _
  simp only [cmpL]
  rcases h with h | ⟨rfl, h⟩
  . obtain ⟨e1, e2⟩ := ltIdS k k' h
    rw [if_neg (by rw [e1]; decide), e2]; rfl
  . rw [if_pos (by rw [eqvId]; simp)]
    have f1 : PyData.eqv (.int n) (.int m) = (n == m) := rfl
    rw [f1, if_neg (by simp; omega)]
    show (some (decide (n < m))).map PyData.bool = _
    rw [decide_eq_true h]; rfl
theorem all_true : ∀ (ys : List PyData), (∀ y ∈ ys, y = .bool true) -> dAll [.list ys] = some (.bool true) := fun ys h => by
  have : ∀ ys : List PyData, (∀ y ∈ ys, y = .bool true) -> ∃ bs, boolsOf ys = some bs /\ bs.all id = true := fun ys => by
    induction ys with
    | nil => exact fun _ => ⟨[], rfl, rfl⟩
    | cons y ys ih =>
      intro h
      obtain ⟨bs, e1, e2⟩ := ih fun z hz => h z (.tail _ hz)
      rw [h y (.head _)]
      exact ⟨true :: bs, by show (boolsOf ys).map _ = _; rw [e1]; rfl, by simp [e2]⟩
  obtain ⟨bs, e1, e2⟩ := this ys h
  show (boolsOf ys).map _ = _
  rw [e1]
  show some (PyData.bool (bs.all id)) = _
  rw [e2]
theorem all_comp {src : Dn -> Res (List PyData)} {cap : List Nat} {el : Dn -> Res PyData} {δ δc : Dn} {ds : List PyData} (h : src δ = .ok ds) (hl : ds.length <= 1000) (hc : capD δ cap = δc) (e : ∀ d ∈ ds, el ([.sh d] ++ δc) = .ok (.bool true)) :
    (vFn (aCons (vLst (lComp src bind1 cap cTrue el)) aNil) dAll) δ = .ok (.bool true) := by
  obtain ⟨ys, g1, g2, g3⟩ := comp_all (bnd := bind1) (δc := δc) (el := el) (P := fun y => y = .bool true) ds fun d hd => ⟨_, _, rfl, e d hd, rfl⟩
  exact vFn_ok (aCons_ok (vLst_ok (lComp_ok h hl hc g1)) rfl) (all_true ys g3)
theorem rising_ok {V : PyData} {xs : List PyData} (hV : V = .list xs \/ V = .tuple xs) (hl : xs.length <= 900) (h : xs.Pairwise ltD) : m_is_rising [V] = .ok (.bool true) := by
  have e1 : dLen [V] = some (.int (xs.length : Int)) := by rcases hV with rfl | rfl <;> rfl
  have e2 : ∀ i : Int, dIx V (.int i) = atI xs i := fun i => by rcases hV with rfl | rfl <;> rfl
  have e3 : dSub (.int (xs.length : Int)) (.int 1) = some (.int ((xs.length : Int) - 1)) := rfl
  have e4 : rng1 [.int ((xs.length : Int) - 1)] = .ok (rngD 0 ((xs.length : Int) - 1)) := by
    show (if _ then _ else _) = _
    rw [if_pos (by omega)]
  refine fn_rt (sRet_ok (all_comp (ds := rngD 0 ((xs.length : Int) - 1)) (δc := [.sh V]) (by simp only [startD, e1, e3, e4, fnD_eq, startD, sSeq_eq, seq_nx, seq_rt, fin_rt, sIf_eq, cVal, b2, b1, vVar_eq, slotV_sh, vLst, vTup, aNil, aCons, vC, ok_bind, ofO_some, thenS_ok, sRet, sSet, sNext, vFn, vCall, cAnd, oSome, oNone, vSl, vJoin, cTrue, truD_bool, List.map_cons, List.map_nil, List.length_cons, List.length_nil, List.replicate, List.cons_append, List.nil_append, List.append_nil, List.getElem?_cons_zero, List.getElem?_cons_succ, List.set_cons_zero, List.set_cons_succ, Nat.reduceAdd, Nat.reduceSub, Bool.false_eq_true, reduceIte]) (by unfold rngD; simp; omega) rfl fun d hd => ?_))
  unfold rngD at hd
  obtain ⟨i, hi, rfl⟩ := List.mem_map.mp hd
  have hi' := List.mem_range.mp hi
  have hi2 : i + 1 < xs.length := by omega
  have hh : ltD xs[i] xs[i + 1] := (List.pairwise_iff_getElem.mp h) i (i + 1) (by omega) hi2 (by omega)
  have a1 : atI xs (0 + (i : Int)) = some xs[i] := by rw [Int.zero_add]; exact atI_nat (by omega)
  have a2 : atI xs (0 + (i : Int) + 1) = some xs[i + 1] := by
    have := atI_nat (xs := xs) (j := i + 1) hi2
    rw [show (0 + (i : Int) + 1) = ((i + 1 : Nat) : Int) from by omega]; exact this
  unfold ltD at hh
  simp only [e2, a1, addI, a2, hh, fnD_eq, startD, sSeq_eq, seq_nx, seq_rt, fin_rt, sIf_eq, cVal, b2, b1, vVar_eq, slotV_sh, vLst, vTup, aNil, aCons, vC, ok_bind, ofO_some, thenS_ok, sRet, sSet, sNext, vFn, vCall, cAnd, oSome, oNone, vSl, vJoin, cTrue, truD_bool, List.map_cons, List.map_nil, List.length_cons, List.length_nil, List.replicate, List.cons_append, List.nil_append, List.append_nil, List.getElem?_cons_zero, List.getElem?_cons_succ, List.set_cons_zero, List.set_cons_succ, Nat.reduceAdd, Nat.reduceSub, Bool.false_eq_true, reduceIte]
theorem vAnd_tt {f g : Dn -> Res PyData} {δ : Dn} (h : f δ = .ok (.bool true)) (h2 : g δ = .ok (.bool true)) : vAnd f g δ = .ok (.bool true) := by rw [vAnd_t _ _ _ h, h2]
theorem whole_ok {n l : Int} (h : l <= n) : m_is_whole [.int n, .int l] = .ok (.bool true) := by
  refine fn_rt (sRet_ok (vAnd_tt rfl (vAnd_tt rfl ?_)))
  refine b2_ok (x := .int n) (y := .int l) rfl rfl ?_
  show some (PyData.bool (decide (l <= n))) = _
  rw [decide_eq_true h]
theorem pair_ok (a b : PyData) : m_is_pair [.tuple [a, b]] = .ok (.bool true) := fn_rt (sRet_ok (vAnd_tt rfl rfl))
theorem hand_ok {h : Str} (k : okH h) : m_is_one_of [.str h, .str "abcdefgh"] = .ok (.bool true) := by
  rcases k with rfl | rfl | rfl <;> kernel_rfl
theorem side_ok {h : Str} (k : lrOk h) : m_is_one_of [.str h, .str "lr"] = .ok (.bool true) := by
  rcases k with rfl | rfl <;> kernel_rfl
theorem deedid_ok {p : IdP} (o : okI p) : m_is_deed_id [idP p] = .ok (.bool true) := by
  refine fn_rt (sRet_ok (vAnd_tt (vCall_ok (aCons_ok rfl rfl) (pair_ok _ _)) (vAnd_tt (vCall_ok (aCons_ok (b2_ok rfl rfl (ix0 _ _)) (aCons_ok rfl rfl)) (whole_ok o.1)) (vCall_ok (aCons_ok (b2_ok rfl rfl (dIdx1 _ _ _)) (aCons_ok rfl rfl)) (hand_ok o.2.2)))))
theorem signid_ok {p : IdP} (o : okI p) {n : Int} (h : 0 <= n) : m_is_sign_id [sgD p n] = .ok (.bool true) := by
  refine fn_rt (sRet_ok (vAnd_tt (vCall_ok (aCons_ok rfl rfl) (pair_ok _ _)) (vAnd_tt (vCall_ok (aCons_ok (b2_ok rfl rfl (ix0 _ _)) rfl) (deedid_ok o)) (vCall_ok (aCons_ok (b2_ok rfl rfl (dIdx1 _ _ _)) (aCons_ok rfl rfl)) (whole_ok h)))))
def SgK (S : PyData -> Prop) : Prop := ∀ x, S x -> ∃ (p : IdP) (n : Int), x = sgD p n /\ okI p /\ 0 <= n
theorem signN_ok {S : PyData -> Prop} (hS : SgK S) {s : PyData} (h : OrN S s) : m_is_sign_id_or_none [s] = .ok (.bool true) := by
  rcases h with rfl | h
  . kernel_rfl
  . obtain ⟨p, n, rfl, o, h0⟩ := hS s h
    refine fn_rt (sRet_ok ?_)
    have : (b1 (vVar 0) fun d => some (.bool (isNone d))) (startD N_is_sign_id_or_none [sgD p n]) = .ok (.bool false) := rfl
    unfold vOr
    rw [this]
    show vCall (aCons (vVar 0) aNil) m_is_sign_id (startD N_is_sign_id_or_none [sgD p n]) = _
    exact vCall_ok (aCons_ok rfl rfl) (signid_ok o h0)
theorem anchorIs_ok {S : PyData -> Prop} (hS : SgK S) {s : PyData} (h : OrN S s) {x : Str} (hx : lrOk x) : m_is_anchor [.tuple [s, .str x]] = .ok (.bool true) :=
  fn_rt (sRet_ok (vAnd_tt (vCall_ok (aCons_ok rfl rfl) (pair_ok _ _)) (vAnd_tt (vCall_ok (aCons_ok (b2_ok rfl rfl (ix0 _ _)) rfl) (signN_ok hS h)) (vCall_ok (aCons_ok (b2_ok rfl rfl (dIdx1 _ _ _)) (aCons_ok rfl rfl)) (side_ok hx)))))
theorem le1 (a b : Nat) : sCmp .LtE ⟨#[a]⟩ ⟨#[b]⟩ = decide (a <= b) := by
  show (!decide ([b] < [a])) = _
  rw [Bool.eq_iff_iff]
  simp [List.cons_lt_cons_iff]
theorem leS1 (a b : Nat) : dCmp .LtE (.str ⟨#[a]⟩) (.str ⟨#[b]⟩) = some (.bool (decide (a <= b))) := by
  unfold dCmp
  rw [if_pos (by simp [PyData.depth])]
  show some (PyData.bool (sCmp .LtE ⟨#[a]⟩ ⟨#[b]⟩)) = _
  rw [le1]
theorem chain_t {f g f' : Dn -> Res PyData} {op op' : PyData -> PyData -> Option PyData} {δ : Dn} {x y z : PyData} (h1 : f δ = .ok x) (h2 : g δ = .ok y) (h3 : f' δ = .ok z) (e1 : op x y = some (.bool true)) (e2 : op' y z = some (.bool true)) : vChain f g f' op op' δ = .ok (.bool true) := by
  unfold vChain
  rw [h1, ok_bind, h2, ok_bind, e1, ofO_some, ok_bind]
  show (f' δ).bind _ = _
  rw [h3, ok_bind, e2]; rfl
theorem text_ok {w : Str} {m : Int} {a b : Nat} (h1 : 1 <= w.length) (h2 : (w.length : Int) <= m) (h3 : w.length <= 900) (h4 : chOk a b w) : m_is_text [.str w, .int m, .str ⟨#[a]⟩, .str ⟨#[b]⟩] = .ok (.bool true) := by
  refine fn_rt ?_
  unfold sem_is_text
  rw [sSeq_if_f]
  . refine sRet_ok (all_comp (ds := signsD w) (δc := [.sh (.str ⟨#[a]⟩), .sh (.str ⟨#[b]⟩)]) rfl ?_ rfl fun d hd => ?_)
    . unfold signsD; rw [List.length_map]; exact Nat.le_trans h3 (by decide)
    . unfold signsD at hd
      obtain ⟨c, hc, rfl⟩ := List.mem_map.mp hd
      obtain ⟨l1, l2⟩ := h4 c hc
      exact chain_t (x := .str ⟨#[a]⟩) (y := .str ⟨#[c]⟩) (z := .str ⟨#[b]⟩) rfl rfl rfl (by rw [leS1, decide_eq_true l1]) (by rw [leS1, decide_eq_true l2])
  . have t1 : cNot (cVal (b1 (vVar 0) fun d => some (.bool (isTy "str" d)))) (startD N_is_text [.str w, .int m, .str ⟨#[a]⟩, .str ⟨#[b]⟩]) = .ok false := rfl
    have t2 : (vChain (vC (.int 1)) (vFn (aCons (vVar 0) aNil) dLen) (vVar 1) (dCmp .LtE) (dCmp .LtE)) (startD N_is_text [.str w, .int m, .str ⟨#[a]⟩, .str ⟨#[b]⟩]) = .ok (.bool true) :=
      chain_t (x := .int 1) (y := .int (w.length : Int)) (z := .int m) rfl rfl rfl (by rw [leI, decide_eq_true (by omega)]) (by rw [leI, decide_eq_true h2])
    unfold cOr
    rw [t1, ok_bind, if_neg (by decide)]
    unfold cNot
    rw [cVal_ok t2]; rfl
theorem name_ok {w : Str} (h : nmOk w) : m_is_name [.str w] = .ok (.bool true) :=
  fn_rt (sRet_ok (vCall_ok (aCons_ok rfl (aCons_ok rfl (aCons_ok rfl (aCons_ok rfl rfl)))) (text_ok (a := 97) (b := 122) h.1 (by have := h.2.1; omega) (by have := h.2.1; omega) h.2.2)))
theorem word_ok {w : Str} (h : wdOk w) : m_is_added_text [.str w] = .ok (.bool true) :=
  fn_rt (sRet_ok (vCall_ok (aCons_ok rfl (aCons_ok rfl (aCons_ok rfl (aCons_ok rfl rfl)))) (text_ok (a := 32) (b := 126) h.1 (by have := h.2.1; omega) (by have := h.2.1; omega) h.2.2)))
theorem dropped_ok {S : PyData -> Prop} (hS : SgK S) {sg : List PyData} (h : ∀ x ∈ sg, S x) (hl : sg.length <= 40) (hn : sg ≠ []) (hr : sg.Pairwise sgR) : m_is_dropped [.tuple sg] = .ok (.bool true) := by
  have h1 : 1 <= sg.length := by cases sg with | nil => exact absurd rfl hn | cons _ _ => simp
  refine fn_rt ?_
  unfold sem_is_dropped sx_is_dropped_0 sx_is_dropped_1
  rw [sSeq_if_f]
  . refine sRet_ok (vAnd_tt (all_comp (ds := sg) (δc := []) rfl (by omega) rfl fun d hd => ?_) (vCall_ok (aCons_ok rfl rfl) (rising_ok (.inr rfl) (by omega) (hr.imp fun h => h.lt))))
    obtain ⟨p, n, rfl, o, h0⟩ := hS d (h d hd)
    exact vCall_ok (aCons_ok rfl rfl) (signid_ok o h0)
  . have t1 : cNot (cVal (b1 (vVar 0) fun d => some (.bool (isTy "tuple" d)))) (startD N_is_dropped [.tuple sg]) = .ok false := rfl
    have t2 : (vChain (vC (.int 1)) (vFn (aCons (vVar 0) aNil) dLen) (vC (.int 400)) (dCmp .LtE) (dCmp .LtE)) (startD N_is_dropped [.tuple sg]) = .ok (.bool true) :=
      chain_t (x := .int 1) (y := .int (sg.length : Int)) (z := .int 400) rfl rfl rfl (by rw [leI, decide_eq_true (by omega)]) (by rw [leI, decide_eq_true (by omega)])
    unfold cOr
    rw [t1, ok_bind, if_neg (by decide)]
    unfold cNot
    rw [cVal_ok t2]; rfl
def isSg (d : PyData) : Prop := ∃ (p : IdP) (n : Int), d = sgD p n
theorem isSg.p {d : PyData} (h : isSg d) : ∃ (p : IdP) (n : Int), d = .tuple [idP p, .int n] := h
theorem isNone_sg {d : PyData} (h : isSg d) : isNone d = false := by obtain ⟨i, n, rfl⟩ := h; rfl
def isSgN (d : PyData) : Prop := d = .none \/ isSg d
theorem sg_ids : ∀ (sg : List PyData), (∀ s ∈ sg, isSg s) -> ∃ ps : List IdP, ps.length = sg.length /\
    compRun bind1 [] cTrue (b2 (vVar 0) (vC (.int 0)) dIx) sg = .ok (ps.map idP) /\
    compRun bind1 [] (fun δ => ((vVar 0) δ).bind fun d => .ok (!isNone d)) (vVar 0) sg = .ok sg /\
    ∀ q : IdP, ∃ ys : List PyData, compRun bind1 [.sh (idP q)] (cVal (b2 (b2 (vVar 0) (vC (.int 0)) dIx) (vVar 1) dEq)) (vVar 0) sg = .ok ys /\ (!ys.isEmpty) = decide (q ∈ ps) /\ (q ∈ ps ↔ ∃ n, PyData.tuple [idP q, .int n] ∈ sg)
  | [], _ => ⟨[], rfl, rfl, rfl, fun q => ⟨[], rfl, rfl, by simp⟩⟩
  | s :: sg, h => by
    obtain ⟨p, n, rfl⟩ := (h s (.head _)).p
    obtain ⟨ps, e1, e2, e3, e4⟩ := sg_ids sg fun x hx => h x (.tail _ hx)
    refine ⟨p :: ps, by simp [e1], ?_, ?_, fun q => ?_⟩
    . have : (b2 (vVar 0) (vC (.int 0)) dIx) ([.sh (.tuple [idP p, .int n])] ++ []) = .ok (idP p) := by simp only [ix0, fnD_eq, startD, sSeq_eq, seq_nx, seq_rt, fin_rt, sIf_eq, cVal, b2, b1, vVar_eq, slotV_sh, vLst, vTup, aNil, aCons, vC, ok_bind, ofO_some, thenS_ok, sRet, sSet, sNext, vFn, vCall, cAnd, oSome, oNone, vSl, vJoin, cTrue, truD_bool, List.map_cons, List.map_nil, List.length_cons, List.length_nil, List.replicate, List.cons_append, List.nil_append, List.append_nil, List.getElem?_cons_zero, List.getElem?_cons_succ, List.set_cons_zero, List.set_cons_succ, Nat.reduceAdd, Nat.reduceSub, Bool.false_eq_true, reduceIte]
      unfold compRun
      simp only [bind1, cTrue, this, e2, List.map_cons]
    . unfold compRun
      simp only [bind1, vVar_eq, List.append_nil, List.getElem?_cons_zero, slotV_sh, ok_bind, isNone, Bool.not_false]
      simp only [bind1, vVar_eq, List.append_nil, List.getElem?_cons_zero, slotV_sh, ok_bind, isNone, Bool.not_false] at e3
      rw [e3]
    . obtain ⟨ys, f1, f2, f3⟩ := e4 q
      have mm : q ∈ p :: ps ↔ ∃ m, PyData.tuple [idP q, .int m] ∈ PyData.tuple [idP p, .int n] :: sg := by
        rw [List.mem_cons, f3]
        constructor
        . rintro (rfl | ⟨m, hm⟩)
          . exact ⟨n, .head _⟩
          . exact ⟨m, .tail _ hm⟩
        . rintro ⟨m, hm⟩
          rcases List.mem_cons.mp hm with h | h
          . left
            simp only [idP, idD, PyData.tuple.injEq, List.cons.injEq, PyData.int.injEq, PyData.str.injEq, and_true] at h
            exact Prod.ext h.1.1 h.1.2
          . exact .inr ⟨m, h⟩
      have t : (cVal (b2 (b2 (vVar 0) (vC (.int 0)) dIx) (vVar 1) dEq)) ([.sh (.tuple [idP p, .int n])] ++ [.sh (idP q)]) = .ok (decide (p = q)) := by simp only [ix0, dEqP, fnD_eq, startD, sSeq_eq, seq_nx, seq_rt, fin_rt, sIf_eq, cVal, b2, b1, vVar_eq, slotV_sh, vLst, vTup, aNil, aCons, vC, ok_bind, ofO_some, thenS_ok, sRet, sSet, sNext, vFn, vCall, cAnd, oSome, oNone, vSl, vJoin, cTrue, truD_bool, List.map_cons, List.map_nil, List.length_cons, List.length_nil, List.replicate, List.cons_append, List.nil_append, List.append_nil, List.getElem?_cons_zero, List.getElem?_cons_succ, List.set_cons_zero, List.set_cons_succ, Nat.reduceAdd, Nat.reduceSub, Bool.false_eq_true, reduceIte]
      by_cases hpq : p = q
      . refine ⟨.tuple [idP p, .int n] :: ys, ?_, by simp [hpq], mm⟩
        unfold compRun
        rw [show bind1 (.tuple [idP p, .int n]) = .ok [.sh (.tuple [idP p, .int n])] from rfl]
        simp only [t, decide_eq_true hpq, f1]
        rfl
      . refine ⟨ys, ?_, by rw [f2]; simp [Ne.symm hpq], mm⟩
        unfold compRun
        rw [show bind1 (.tuple [idP p, .int n]) = .ok [.sh (.tuple [idP p, .int n])] from rfl]
        simp only [t, decide_eq_false hpq, f1]
theorem sgN_ids : ∀ (sg : List PyData), (∀ s ∈ sg, isSgN s) -> ∃ out : List PyData, (∀ s ∈ out, isSg s) /\ out.length <= sg.length /\ compRun bind1 [] (fun δ => ((vVar 0) δ).bind fun d => .ok (!isNone d)) (vVar 0) sg = .ok out /\ (∀ s ∈ sg, isSg s -> s ∈ out) /\ ∀ s ∈ out, s ∈ sg
  | [], _ => ⟨[], (fun _ h => nomatch h), Nat.le_refl _, rfl, (fun _ h => nomatch h), fun _ h => nomatch h⟩
  | s :: sg, h => by
    obtain ⟨out, e1, e2, e3, e4, e5⟩ := sgN_ids sg fun x hx => h x (.tail _ hx)
    rcases h s (.head _) with rfl | hs
    . refine ⟨out, e1, by simp; omega, ?_, fun x hx hq => ?_, fun x hx => .tail _ (e5 x hx)⟩
      . unfold compRun
        simp only [bind1, vVar_eq, List.append_nil, List.getElem?_cons_zero, slotV_sh, ok_bind, isNone, Bool.not_true]
        simp only [bind1, vVar_eq, List.append_nil, List.getElem?_cons_zero, slotV_sh, ok_bind] at e3
        exact e3
      . rcases List.mem_cons.mp hx with rfl | hx
        . obtain ⟨i, n, hh⟩ := hq; cases hh
        . exact e4 x hx hq
    . refine ⟨s :: out, fun x hx => (List.mem_cons.mp hx).elim (fun z => z ▸ hs) (e1 x), by simp; omega, ?_, fun x hx hq => ?_, fun x hx => ?_⟩
      . unfold compRun
        simp only [bind1, vVar_eq, List.append_nil, List.getElem?_cons_zero, slotV_sh, ok_bind, isNone_sg hs, Bool.not_false]
        simp only [bind1, vVar_eq, List.append_nil, List.getElem?_cons_zero, slotV_sh, ok_bind] at e3
        rw [e3]
      . rcases List.mem_cons.mp hx with rfl | hx
        . exact .head _
        . exact .tail _ (e4 x hx hq)
      . rcases List.mem_cons.mp hx with rfl | hx
        . exact .head _
        . exact .tail _ (e5 x hx)
theorem named_of {S : PyData -> Prop} (hS : ∀ x, S x -> isSg x) {d : PyData} {raw : List PyData} (hraw' : ∀ s ∈ raw, OrN S s) (hlen : raw.length <= 40) (hund : (cVal (b2 (b2 (vVar 0) (vC (.int 0)) dIx) (vC (.str "undo")) dEq)) [.sh d] = .ok false)
    (hsg : (sIf (cVal (b2 (b2 (vVar 0) (vC (.int 0)) dIx) (vC (.str "add")) dEq)) (sSet 1 (vLst (aCons (b2 (vVar 0) (vC (.int 2)) dIx) aNil))) (sIf (cVal (b2 (b2 (vVar 0) (vC (.int 0)) dIx) (vC (.str "drop")) dEq)) (sSet 1 (vFn (aCons (b2 (vVar 0) (vC (.int 2)) dIx) aNil) dListF)) (sIf (cVal (b2 (b2 (vVar 0) (vC (.int 0)) dIx) (vC (.str "mark")) dEq)) (sSet 1 (vLst (aCons (b2 (b2 (vVar 0) (vC (.int 3)) dIx) (vC (.int 0)) dIx) (aCons (b2 (b2 (vVar 0) (vC (.int 4)) dIx) (vC (.int 0)) dIx) aNil)))) sNext))) [.sh d, .sh (.list [])] = .nx [.sh d, .sh (.list raw)]) :
    ∃ (out : List PyData) (ps : List IdP), ps.length <= 40 /\ (∀ s ∈ out, isSg s) /\ (∀ s ∈ raw, isSg s -> s ∈ out) /\ (∀ s ∈ out, s ∈ raw) /\ m_deeds_named [d] = .ok (.list (ps.map idP)) /\
      (∃ out : List PyData, m_signs_named [d] = .ok (.list out) /\ out.length <= 40 /\ ∀ s ∈ out, S s /\ ∃ q n, s = .tuple [idP q, .int n] /\ q ∈ ps) /\ ∀ q : IdP, q ∈ ps ↔ ∃ n, .tuple [idP q, .int n] ∈ out := by
  have hraw : ∀ s ∈ raw, isSgN s := fun s hs => (hraw' s hs).elim .inl fun z => .inr (hS s z)
  obtain ⟨out, o1, o2, o3, o4, o5⟩ := sgN_ids raw hraw
  obtain ⟨ps, e1, e2, e3, e4⟩ := sg_ids out o1
  have hs : m_signs_named [d] = .ok (.list out) := by
    refine fn_rt ?_
    unfold sem_signs_named sx_signs_named_0 sx_signs_named_1 sx_signs_named_2 N_signs_named
    simp only [startD, List.map_cons, List.map_nil, List.length_cons, List.length_nil, List.replicate, List.cons_append, List.nil_append, Nat.reduceAdd, Nat.reduceSub]
    rw [sSeq_nx (sSet_ok (d := .list []) rfl)]
    simp only [List.set_cons_zero, List.set_cons_succ]
    rw [sSeq_nx hsg]
    exact sRet_ok (vLst_ok (lComp_ok (src_seq rfl rfl) (by omega) rfl o3))
  refine ⟨out, ps, by omega, o1, o4, o5, ?_, ⟨out, hs, by omega, fun s hs' => ?_⟩, fun q => ?_⟩
  . refine fn_rt ?_
    unfold sem_deeds_named N_deeds_named
    simp only [startD, List.map_cons, List.map_nil, List.length_cons, List.length_nil, List.replicate, List.cons_append, List.nil_append, Nat.reduceAdd, Nat.reduceSub]
    rw [sSeq_if_f hund]
    exact sRet_ok (vLst_ok (lComp_ok (src_seq (vCall_ok (aCons_ok rfl rfl) hs) rfl) (by omega) rfl e2))
  . obtain ⟨q, n, rfl⟩ := (o1 s hs').p
    obtain ⟨_, _, _, z⟩ := e4 q
    exact ⟨(hraw' _ (o5 _ hs')).elim (fun z => nomatch z) (fun z => z), q, n, rfl, z.mpr ⟨n, hs'⟩⟩
  . obtain ⟨_, _, _, z⟩ := e4 q
    exact z
theorem neS {x y : Str} (h : (x == y) = false) : dEq (.str x) (.str y) = some (.bool false) := by rw [dEqS, h]
theorem eqS' {x : Str} : dEq (.str x) (.str x) = some (.bool true) := by rw [dEqS]; simp
theorem k1 : (("add" : Str) == "undo") = false := by decide +kernel
theorem k2 : (("drop" : Str) == "undo") = false := by decide +kernel
theorem k3 : (("mark" : Str) == "undo") = false := by decide +kernel
theorem k4 : (("unmark" : Str) == "undo") = false := by decide +kernel
theorem k5 : (("drop" : Str) == "add") = false := by decide +kernel
theorem k6 : (("mark" : Str) == "add") = false := by decide +kernel
theorem k7 : (("unmark" : Str) == "add") = false := by decide +kernel
theorem k8 : (("undo" : Str) == "add") = false := by decide +kernel
theorem k9 : (("mark" : Str) == "drop") = false := by decide +kernel
theorem k10 : (("unmark" : Str) == "drop") = false := by decide +kernel
theorem k11 : (("undo" : Str) == "drop") = false := by decide +kernel
theorem k12 : (("unmark" : Str) == "mark") = false := by decide +kernel
theorem k14 : (("undo" : Str) == "unmark") = false := by decide +kernel
theorem k13 : (("undo" : Str) == "mark") = false := by decide +kernel
theorem signs_undo (i j : PyData) : m_signs_named [.tuple [.str "undo", i, j]] = .ok (.list []) := by
  refine fn_rt ?_
  unfold sem_signs_named sx_signs_named_0 sx_signs_named_1 sx_signs_named_2 N_signs_named
  simp only [startD, List.map_cons, List.map_nil, List.length_cons, List.length_nil, List.replicate, List.cons_append, List.nil_append, Nat.reduceAdd, Nat.reduceSub]
  rw [sSeq_nx (sSet_ok (d := .list []) rfl)]
  simp only [List.set_cons_zero, List.set_cons_succ]
  rw [sSeq_nx (show _ = Out.nx [.sh (.tuple [.str "undo", i, j]), .sh (.list [])] by rw [sIf_f (by simp only [ix0, neS k8, fnD_eq, startD, sSeq_eq, seq_nx, seq_rt, fin_rt, sIf_eq, cVal, b2, b1, vVar_eq, slotV_sh, vLst, vTup, aNil, aCons, vC, ok_bind, ofO_some, thenS_ok, sRet, sSet, sNext, vFn, vCall, cAnd, oSome, oNone, vSl, vJoin, cTrue, truD_bool, List.map_cons, List.map_nil, List.length_cons, List.length_nil, List.replicate, List.cons_append, List.nil_append, List.append_nil, List.getElem?_cons_zero, List.getElem?_cons_succ, List.set_cons_zero, List.set_cons_succ, Nat.reduceAdd, Nat.reduceSub, Bool.false_eq_true, reduceIte]), sIf_f (by simp only [ix0, neS k11, fnD_eq, startD, sSeq_eq, seq_nx, seq_rt, fin_rt, sIf_eq, cVal, b2, b1, vVar_eq, slotV_sh, vLst, vTup, aNil, aCons, vC, ok_bind, ofO_some, thenS_ok, sRet, sSet, sNext, vFn, vCall, cAnd, oSome, oNone, vSl, vJoin, cTrue, truD_bool, List.map_cons, List.map_nil, List.length_cons, List.length_nil, List.replicate, List.cons_append, List.nil_append, List.append_nil, List.getElem?_cons_zero, List.getElem?_cons_succ, List.set_cons_zero, List.set_cons_succ, Nat.reduceAdd, Nat.reduceSub, Bool.false_eq_true, reduceIte]), sIf_f (by simp only [ix0, neS k13, fnD_eq, startD, sSeq_eq, seq_nx, seq_rt, fin_rt, sIf_eq, cVal, b2, b1, vVar_eq, slotV_sh, vLst, vTup, aNil, aCons, vC, ok_bind, ofO_some, thenS_ok, sRet, sSet, sNext, vFn, vCall, cAnd, oSome, oNone, vSl, vJoin, cTrue, truD_bool, List.map_cons, List.map_nil, List.length_cons, List.length_nil, List.replicate, List.cons_append, List.nil_append, List.append_nil, List.getElem?_cons_zero, List.getElem?_cons_succ, List.set_cons_zero, List.set_cons_succ, Nat.reduceAdd, Nat.reduceSub, Bool.false_eq_true, reduceIte])]; rfl)]
  exact sRet_ok (vLst_ok (lComp_ok (ds := []) (src_seq (d := .list []) rfl rfl) (by simp) rfl rfl))
structure DK (S : PyData -> Prop) (U : IdP -> Prop) (d : PyData) (p : IdP) (ps : List IdP) : Prop where
  id : dIx d (.int 1) = some (idP p)
  ok : okI p
  nm : m_deeds_named [d] = .ok (.list (ps.map idP))
  len : ps.length <= 40
  sn : ∃ out : List PyData, m_signs_named [d] = .ok (.list out) /\ out.length <= 40 /\ ∀ s ∈ out, S s /\ ∃ q n, s = .tuple [idP q, .int n] /\ q ∈ ps
  nmd : ∀ q ∈ ps, U q \/ ∃ n, S (sgD q n)
  isd : m_is_deed [d] = .ok (.bool true)
theorem deed_is {x : PyData} {p : IdP} {rest : List PyData} {ps : List IdP} (o : okI p) (hl : ps.length <= 40) (hc : dCut (.tuple (x :: idP p :: rest)) (some 2) none = some (.tuple rest)) (hf : m_has_form [x, .tuple rest] = .ok (.bool true)) (nm : m_deeds_named [.tuple (x :: idP p :: rest)] = .ok (.list (ps.map idP))) (lt : ∀ q ∈ ps, q.1 < p.1) :
    m_is_deed [.tuple (x :: idP p :: rest)] = .ok (.bool true) := by
  refine fn_rt ?_
  unfold sem_is_deed sx_is_deed_0 sx_is_deed_1 sx_is_deed_2
  have t0 : cNot (cVal (b1 (vVar 0) fun d => some (.bool (isTy "tuple" d)))) (startD N_is_deed [.tuple (x :: idP p :: rest)]) = .ok false := rfl
  have t1 : cVal (b2 (vFn (aCons (vVar 0) aNil) dLen) (vC (.int 2)) (dCmp .Lt)) (startD N_is_deed [.tuple (x :: idP p :: rest)]) = .ok false := by
    refine cVal_ok (b2_ok (x := .int ((x :: idP p :: rest).length : Int)) (y := .int 2) rfl rfl ?_)
    rw [ltI, decide_eq_false (by simp only [List.length_cons]; omega)]
  have t2 : cVal (vCall (aCons (b2 (vVar 0) (vC (.int 1)) dIx) aNil) m_is_deed_id) (startD N_is_deed [.tuple (x :: idP p :: rest)]) = .ok true := cVal_ok (vCall_ok (aCons_ok (b2_ok rfl rfl (dIdx1 _ _ _)) rfl) (deedid_ok o))
  rw [sSeq_if_f (by unfold cOr; rw [t0, ok_bind, if_neg (by decide), t1, ok_bind, if_neg (by decide)]; unfold cNot; rw [t2]; rfl)]
  have t3 : cVal (vCall (aCons (b2 (vVar 0) (vC (.int 0)) dIx) (aCons (vSl (vVar 0) (oSome (vC (.int 2))) oNone) aNil)) m_has_form) (startD N_is_deed [.tuple (x :: idP p :: rest)]) = .ok true := by
    refine cVal_ok (vCall_ok (aCons_ok (b2_ok rfl rfl (ix0 _ _)) (aCons_ok (d := .tuple rest) ?_ rfl)) hf)
    unfold vSl
    show ofO (dCut (.tuple (x :: idP p :: rest)) (some 2) none) = _
    rw [hc]; rfl
  rw [sSeq_if_f (by unfold cNot; rw [t3]; rfl)]
  refine sRet_ok (all_comp (ds := ps.map idP) (δc := [.sh (.tuple (x :: idP p :: rest))]) (src_seq (vCall_ok (aCons_ok rfl rfl) nm) rfl) (by rw [List.length_map]; omega) rfl fun d hd => ?_)
  obtain ⟨q, hq, rfl⟩ := List.mem_map.mp hd
  refine b2_ok (x := .int q.1) (y := .int p.1) (b2_ok rfl rfl (ix0 _ _)) (b2_ok (b2_ok rfl rfl (dIdx1 _ _ _)) rfl (ix0 _ _)) ?_
  rw [ltI, decide_eq_true (lt q hq)]
theorem dk_of {S : PyData -> Prop} {U : IdP -> Prop} (hS : SgK S) {d : PyData} {p : IdP} (w : Wf p S U d) (hT : ∀ q n, S (sgD q n) -> q.1 < p.1) (hU : ∀ q, U q -> q.1 < p.1 /\ okI q) : ∃ ps, DK S U d p ps := by
  have hS' : ∀ x, S x -> isSg x := fun x hx => let ⟨q, n, e, _⟩ := hS x hx; ⟨q, n, e⟩
  obtain ⟨ok, hf⟩ := w
  have fin : ∀ {ps : List IdP} {out raw : List PyData}, (∀ s ∈ raw, OrN S s) -> (∀ s ∈ out, s ∈ raw) -> (∀ q : IdP, q ∈ ps ↔ ∃ n, PyData.tuple [idP q, .int n] ∈ out) -> ∀ q ∈ ps, ∃ n, S (sgD q n) := fun hr ho hq q hm => by
    obtain ⟨n, hn⟩ := (hq q).mp hm
    exact ⟨n, (hr _ (ho _ hn)).elim (fun z => nomatch z) (fun z => z)⟩
  rcases hf with ⟨b, wd, rfl, hb, hw⟩ | ⟨sg, rfl, hsg, hl, hne, hr⟩ | ⟨nme, s1, x1, s2, x2, rfl, hs1, hs2, hn, hx1, hx2⟩ | ⟨nme, rfl, hn⟩ | ⟨i, rfl, hi⟩
  . have hraw : ∀ s ∈ [b], OrN S s := fun s hs => by rw [List.mem_singleton.mp hs]; exact hb
    obtain ⟨out, ps, l, o1, o2, o3, nm, sn, hq⟩ := named_of hS' (d := .tuple [.str "add", idP p, b, .str wd]) (raw := [b]) hraw (by simp) (by simp only [ix0, neS k1, fnD_eq, startD, sSeq_eq, seq_nx, seq_rt, fin_rt, sIf_eq, cVal, b2, b1, vVar_eq, slotV_sh, vLst, vTup, aNil, aCons, vC, ok_bind, ofO_some, thenS_ok, sRet, sSet, sNext, vFn, vCall, cAnd, oSome, oNone, vSl, vJoin, cTrue, truD_bool, List.map_cons, List.map_nil, List.length_cons, List.length_nil, List.replicate, List.cons_append, List.nil_append, List.append_nil, List.getElem?_cons_zero, List.getElem?_cons_succ, List.set_cons_zero, List.set_cons_succ, Nat.reduceAdd, Nat.reduceSub, Bool.false_eq_true, reduceIte]) (by rw [sIf_t (by simp only [ix0, eqS', fnD_eq, startD, sSeq_eq, seq_nx, seq_rt, fin_rt, sIf_eq, cVal, b2, b1, vVar_eq, slotV_sh, vLst, vTup, aNil, aCons, vC, ok_bind, ofO_some, thenS_ok, sRet, sSet, sNext, vFn, vCall, cAnd, oSome, oNone, vSl, vJoin, cTrue, truD_bool, List.map_cons, List.map_nil, List.length_cons, List.length_nil, List.replicate, List.cons_append, List.nil_append, List.append_nil, List.getElem?_cons_zero, List.getElem?_cons_succ, List.set_cons_zero, List.set_cons_succ, Nat.reduceAdd, Nat.reduceSub, Bool.false_eq_true, reduceIte])]; simp only [dIdx2, fnD_eq, startD, sSeq_eq, seq_nx, seq_rt, fin_rt, sIf_eq, cVal, b2, b1, vVar_eq, slotV_sh, vLst, vTup, aNil, aCons, vC, ok_bind, ofO_some, thenS_ok, sRet, sSet, sNext, vFn, vCall, cAnd, oSome, oNone, vSl, vJoin, cTrue, truD_bool, List.map_cons, List.map_nil, List.length_cons, List.length_nil, List.replicate, List.cons_append, List.nil_append, List.append_nil, List.getElem?_cons_zero, List.getElem?_cons_succ, List.set_cons_zero, List.set_cons_succ, Nat.reduceAdd, Nat.reduceSub, Bool.false_eq_true, reduceIte])
    have hh := fin hraw o3 hq
    refine ⟨ps, dIdx1 _ _ _, ok, nm, l, sn, fun q hq => .inr (hh q hq), deed_is ok l rfl ?_ nm fun q hq => let ⟨n, z⟩ := hh q hq; hT q n z⟩
    exact fn_rt (sSeq_rt ((sIf_t (cVal_ok (b2_ok rfl rfl eqS'))).trans (sRet_ok (vAnd_tt rfl (vAnd_tt (vCall_ok (aCons_ok (b2_ok rfl rfl (ix0 _ _)) rfl) (signN_ok hS hb)) (vCall_ok (aCons_ok (b2_ok rfl rfl (dIdx1 _ _ _)) rfl) (word_ok hw)))))))
  . have hraw : ∀ s ∈ sg, OrN S s := fun s hs => .inr (hsg s hs)
    obtain ⟨out, ps, l, o1, o2, o3, nm, sn, hq⟩ := named_of hS' (d := .tuple [.str "drop", idP p, .tuple sg]) (raw := sg) hraw hl (by simp only [ix0, neS k2, fnD_eq, startD, sSeq_eq, seq_nx, seq_rt, fin_rt, sIf_eq, cVal, b2, b1, vVar_eq, slotV_sh, vLst, vTup, aNil, aCons, vC, ok_bind, ofO_some, thenS_ok, sRet, sSet, sNext, vFn, vCall, cAnd, oSome, oNone, vSl, vJoin, cTrue, truD_bool, List.map_cons, List.map_nil, List.length_cons, List.length_nil, List.replicate, List.cons_append, List.nil_append, List.append_nil, List.getElem?_cons_zero, List.getElem?_cons_succ, List.set_cons_zero, List.set_cons_succ, Nat.reduceAdd, Nat.reduceSub, Bool.false_eq_true, reduceIte]) (by
      rw [sIf_f (by simp only [ix0, neS k5, fnD_eq, startD, sSeq_eq, seq_nx, seq_rt, fin_rt, sIf_eq, cVal, b2, b1, vVar_eq, slotV_sh, vLst, vTup, aNil, aCons, vC, ok_bind, ofO_some, thenS_ok, sRet, sSet, sNext, vFn, vCall, cAnd, oSome, oNone, vSl, vJoin, cTrue, truD_bool, List.map_cons, List.map_nil, List.length_cons, List.length_nil, List.replicate, List.cons_append, List.nil_append, List.append_nil, List.getElem?_cons_zero, List.getElem?_cons_succ, List.set_cons_zero, List.set_cons_succ, Nat.reduceAdd, Nat.reduceSub, Bool.false_eq_true, reduceIte]), sIf_t (by simp only [ix0, eqS', fnD_eq, startD, sSeq_eq, seq_nx, seq_rt, fin_rt, sIf_eq, cVal, b2, b1, vVar_eq, slotV_sh, vLst, vTup, aNil, aCons, vC, ok_bind, ofO_some, thenS_ok, sRet, sSet, sNext, vFn, vCall, cAnd, oSome, oNone, vSl, vJoin, cTrue, truD_bool, List.map_cons, List.map_nil, List.length_cons, List.length_nil, List.replicate, List.cons_append, List.nil_append, List.append_nil, List.getElem?_cons_zero, List.getElem?_cons_succ, List.set_cons_zero, List.set_cons_succ, Nat.reduceAdd, Nat.reduceSub, Bool.false_eq_true, reduceIte])]
      have : dListF [.tuple sg] = some (.list sg) := rfl
      simp only [dIdx2, this, fnD_eq, startD, sSeq_eq, seq_nx, seq_rt, fin_rt, sIf_eq, cVal, b2, b1, vVar_eq, slotV_sh, vLst, vTup, aNil, aCons, vC, ok_bind, ofO_some, thenS_ok, sRet, sSet, sNext, vFn, vCall, cAnd, oSome, oNone, vSl, vJoin, cTrue, truD_bool, List.map_cons, List.map_nil, List.length_cons, List.length_nil, List.replicate, List.cons_append, List.nil_append, List.append_nil, List.getElem?_cons_zero, List.getElem?_cons_succ, List.set_cons_zero, List.set_cons_succ, Nat.reduceAdd, Nat.reduceSub, Bool.false_eq_true, reduceIte])
    have hh := fin hraw o3 hq
    refine ⟨ps, dIdx1 _ _ _, ok, nm, l, sn, fun q hq => .inr (hh q hq), deed_is ok l rfl ?_ nm fun q hq => let ⟨n, z⟩ := hh q hq; hT q n z⟩
    refine fn_rt ?_
    unfold sem_has_form sx_has_form_0 sx_has_form_1 sx_has_form_2 sx_has_form_3 sx_has_form_4 sx_has_form_5
    rw [sSeq_if_f (cVal_ok (b2_ok rfl rfl (neS k5)))]
    exact sSeq_rt ((sIf_t (cVal_ok (b2_ok rfl rfl eqS'))).trans (sRet_ok (vAnd_tt rfl (vCall_ok (aCons_ok (b2_ok rfl rfl (ix0 _ _)) rfl) (dropped_ok hS hsg hl hne hr)))))
  . have hraw : ∀ s ∈ [s1, s2], OrN S s := fun s hs => by
      rcases List.mem_cons.mp hs with rfl | hs
      . exact hs1
      . rw [List.mem_singleton.mp hs]; exact hs2
    obtain ⟨out, ps, l, o1, o2, o3, nm, sn, hq⟩ := named_of hS' (d := .tuple [.str "mark", idP p, .str nme, .tuple [s1, .str x1], .tuple [s2, .str x2]]) (raw := [s1, s2]) hraw (by simp) (by simp only [ix0, neS k3, fnD_eq, startD, sSeq_eq, seq_nx, seq_rt, fin_rt, sIf_eq, cVal, b2, b1, vVar_eq, slotV_sh, vLst, vTup, aNil, aCons, vC, ok_bind, ofO_some, thenS_ok, sRet, sSet, sNext, vFn, vCall, cAnd, oSome, oNone, vSl, vJoin, cTrue, truD_bool, List.map_cons, List.map_nil, List.length_cons, List.length_nil, List.replicate, List.cons_append, List.nil_append, List.append_nil, List.getElem?_cons_zero, List.getElem?_cons_succ, List.set_cons_zero, List.set_cons_succ, Nat.reduceAdd, Nat.reduceSub, Bool.false_eq_true, reduceIte]) (by
      rw [sIf_f (by simp only [ix0, neS k6, fnD_eq, startD, sSeq_eq, seq_nx, seq_rt, fin_rt, sIf_eq, cVal, b2, b1, vVar_eq, slotV_sh, vLst, vTup, aNil, aCons, vC, ok_bind, ofO_some, thenS_ok, sRet, sSet, sNext, vFn, vCall, cAnd, oSome, oNone, vSl, vJoin, cTrue, truD_bool, List.map_cons, List.map_nil, List.length_cons, List.length_nil, List.replicate, List.cons_append, List.nil_append, List.append_nil, List.getElem?_cons_zero, List.getElem?_cons_succ, List.set_cons_zero, List.set_cons_succ, Nat.reduceAdd, Nat.reduceSub, Bool.false_eq_true, reduceIte]), sIf_f (by simp only [ix0, neS k9, fnD_eq, startD, sSeq_eq, seq_nx, seq_rt, fin_rt, sIf_eq, cVal, b2, b1, vVar_eq, slotV_sh, vLst, vTup, aNil, aCons, vC, ok_bind, ofO_some, thenS_ok, sRet, sSet, sNext, vFn, vCall, cAnd, oSome, oNone, vSl, vJoin, cTrue, truD_bool, List.map_cons, List.map_nil, List.length_cons, List.length_nil, List.replicate, List.cons_append, List.nil_append, List.append_nil, List.getElem?_cons_zero, List.getElem?_cons_succ, List.set_cons_zero, List.set_cons_succ, Nat.reduceAdd, Nat.reduceSub, Bool.false_eq_true, reduceIte]), sIf_t (by simp only [ix0, eqS', fnD_eq, startD, sSeq_eq, seq_nx, seq_rt, fin_rt, sIf_eq, cVal, b2, b1, vVar_eq, slotV_sh, vLst, vTup, aNil, aCons, vC, ok_bind, ofO_some, thenS_ok, sRet, sSet, sNext, vFn, vCall, cAnd, oSome, oNone, vSl, vJoin, cTrue, truD_bool, List.map_cons, List.map_nil, List.length_cons, List.length_nil, List.replicate, List.cons_append, List.nil_append, List.append_nil, List.getElem?_cons_zero, List.getElem?_cons_succ, List.set_cons_zero, List.set_cons_succ, Nat.reduceAdd, Nat.reduceSub, Bool.false_eq_true, reduceIte])]
      simp only [dIdx3, dIdx4, ix0, fnD_eq, startD, sSeq_eq, seq_nx, seq_rt, fin_rt, sIf_eq, cVal, b2, b1, vVar_eq, slotV_sh, vLst, vTup, aNil, aCons, vC, ok_bind, ofO_some, thenS_ok, sRet, sSet, sNext, vFn, vCall, cAnd, oSome, oNone, vSl, vJoin, cTrue, truD_bool, List.map_cons, List.map_nil, List.length_cons, List.length_nil, List.replicate, List.cons_append, List.nil_append, List.append_nil, List.getElem?_cons_zero, List.getElem?_cons_succ, List.set_cons_zero, List.set_cons_succ, Nat.reduceAdd, Nat.reduceSub, Bool.false_eq_true, reduceIte])
    have hh := fin hraw o3 hq
    refine ⟨ps, dIdx1 _ _ _, ok, nm, l, sn, fun q hq => .inr (hh q hq), deed_is ok l rfl ?_ nm fun q hq => let ⟨n, z⟩ := hh q hq; hT q n z⟩
    refine fn_rt ?_
    unfold sem_has_form sx_has_form_0 sx_has_form_1 sx_has_form_2 sx_has_form_3 sx_has_form_4 sx_has_form_5
    rw [sSeq_if_f (cVal_ok (b2_ok rfl rfl (neS k6))), sSeq_if_f (cVal_ok (b2_ok rfl rfl (neS k9)))]
    exact sSeq_rt ((sIf_t (cVal_ok (b2_ok rfl rfl eqS'))).trans (sRet_ok (vAnd_tt rfl (vAnd_tt (vCall_ok (aCons_ok (b2_ok rfl rfl (ix0 _ _)) rfl) (name_ok hn)) (vAnd_tt (vCall_ok (aCons_ok (b2_ok rfl rfl (dIdx1 _ _ _)) rfl) (anchorIs_ok hS hs1 hx1)) (vCall_ok (aCons_ok (b2_ok rfl rfl (dIdx2 _ _ _ _)) rfl) (anchorIs_ok hS hs2 hx2)))))))
  . obtain ⟨out, ps, l, o1, o2, o3, nm, sn, hq⟩ := named_of hS' (d := .tuple [.str "unmark", idP p, .str nme]) (raw := []) (fun s hs => nomatch hs) (by simp) (by simp only [ix0, neS k4, fnD_eq, startD, sSeq_eq, seq_nx, seq_rt, fin_rt, sIf_eq, cVal, b2, b1, vVar_eq, slotV_sh, vLst, vTup, aNil, aCons, vC, ok_bind, ofO_some, thenS_ok, sRet, sSet, sNext, vFn, vCall, cAnd, oSome, oNone, vSl, vJoin, cTrue, truD_bool, List.map_cons, List.map_nil, List.length_cons, List.length_nil, List.replicate, List.cons_append, List.nil_append, List.append_nil, List.getElem?_cons_zero, List.getElem?_cons_succ, List.set_cons_zero, List.set_cons_succ, Nat.reduceAdd, Nat.reduceSub, Bool.false_eq_true, reduceIte]) (by
      rw [sIf_f (by simp only [ix0, neS k7, fnD_eq, startD, sSeq_eq, seq_nx, seq_rt, fin_rt, sIf_eq, cVal, b2, b1, vVar_eq, slotV_sh, vLst, vTup, aNil, aCons, vC, ok_bind, ofO_some, thenS_ok, sRet, sSet, sNext, vFn, vCall, cAnd, oSome, oNone, vSl, vJoin, cTrue, truD_bool, List.map_cons, List.map_nil, List.length_cons, List.length_nil, List.replicate, List.cons_append, List.nil_append, List.append_nil, List.getElem?_cons_zero, List.getElem?_cons_succ, List.set_cons_zero, List.set_cons_succ, Nat.reduceAdd, Nat.reduceSub, Bool.false_eq_true, reduceIte]), sIf_f (by simp only [ix0, neS k10, fnD_eq, startD, sSeq_eq, seq_nx, seq_rt, fin_rt, sIf_eq, cVal, b2, b1, vVar_eq, slotV_sh, vLst, vTup, aNil, aCons, vC, ok_bind, ofO_some, thenS_ok, sRet, sSet, sNext, vFn, vCall, cAnd, oSome, oNone, vSl, vJoin, cTrue, truD_bool, List.map_cons, List.map_nil, List.length_cons, List.length_nil, List.replicate, List.cons_append, List.nil_append, List.append_nil, List.getElem?_cons_zero, List.getElem?_cons_succ, List.set_cons_zero, List.set_cons_succ, Nat.reduceAdd, Nat.reduceSub, Bool.false_eq_true, reduceIte]), sIf_f (by simp only [ix0, neS k12, fnD_eq, startD, sSeq_eq, seq_nx, seq_rt, fin_rt, sIf_eq, cVal, b2, b1, vVar_eq, slotV_sh, vLst, vTup, aNil, aCons, vC, ok_bind, ofO_some, thenS_ok, sRet, sSet, sNext, vFn, vCall, cAnd, oSome, oNone, vSl, vJoin, cTrue, truD_bool, List.map_cons, List.map_nil, List.length_cons, List.length_nil, List.replicate, List.cons_append, List.nil_append, List.append_nil, List.getElem?_cons_zero, List.getElem?_cons_succ, List.set_cons_zero, List.set_cons_succ, Nat.reduceAdd, Nat.reduceSub, Bool.false_eq_true, reduceIte])]; rfl)
    have hh := fin (raw := []) (fun s hs => nomatch hs) o3 hq
    refine ⟨ps, dIdx1 _ _ _, ok, nm, l, sn, fun q hq => .inr (hh q hq), deed_is ok l rfl ?_ nm fun q hq => let ⟨n, z⟩ := hh q hq; hT q n z⟩
    refine fn_rt ?_
    unfold sem_has_form sx_has_form_0 sx_has_form_1 sx_has_form_2 sx_has_form_3 sx_has_form_4 sx_has_form_5
    rw [sSeq_if_f (cVal_ok (b2_ok rfl rfl (neS k7))), sSeq_if_f (cVal_ok (b2_ok rfl rfl (neS k10))), sSeq_if_f (cVal_ok (b2_ok rfl rfl (neS k12)))]
    exact sSeq_rt ((sIf_t (cVal_ok (b2_ok rfl rfl eqS'))).trans (sRet_ok (vAnd_tt rfl (vCall_ok (aCons_ok (b2_ok rfl rfl (ix0 _ _)) rfl) (name_ok hn)))))
  . have nm : m_deeds_named [.tuple [.str "undo", idP p, idP i]] = .ok (.list ([i].map idP)) := by
      refine fn_rt ?_
      unfold sem_deeds_named N_deeds_named
      simp only [startD, List.map_cons, List.map_nil, List.length_cons, List.length_nil, List.replicate, List.cons_append, List.nil_append, Nat.reduceAdd, Nat.reduceSub]
      refine sSeq_rt ((sIf_t (by simp only [ix0, eqS', fnD_eq, startD, sSeq_eq, seq_nx, seq_rt, fin_rt, sIf_eq, cVal, b2, b1, vVar_eq, slotV_sh, vLst, vTup, aNil, aCons, vC, ok_bind, ofO_some, thenS_ok, sRet, sSet, sNext, vFn, vCall, cAnd, oSome, oNone, vSl, vJoin, cTrue, truD_bool, List.map_cons, List.map_nil, List.length_cons, List.length_nil, List.replicate, List.cons_append, List.nil_append, List.append_nil, List.getElem?_cons_zero, List.getElem?_cons_succ, List.set_cons_zero, List.set_cons_succ, Nat.reduceAdd, Nat.reduceSub, Bool.false_eq_true, reduceIte])).trans (sRet_ok ?_))
      simp only [dIdx2, fnD_eq, startD, sSeq_eq, seq_nx, seq_rt, fin_rt, sIf_eq, cVal, b2, b1, vVar_eq, slotV_sh, vLst, vTup, aNil, aCons, vC, ok_bind, ofO_some, thenS_ok, sRet, sSet, sNext, vFn, vCall, cAnd, oSome, oNone, vSl, vJoin, cTrue, truD_bool, List.map_cons, List.map_nil, List.length_cons, List.length_nil, List.replicate, List.cons_append, List.nil_append, List.append_nil, List.getElem?_cons_zero, List.getElem?_cons_succ, List.set_cons_zero, List.set_cons_succ, Nat.reduceAdd, Nat.reduceSub, Bool.false_eq_true, reduceIte]
    have one : ∀ q ∈ [i], U q := fun q hq => by rw [List.mem_singleton.mp hq]; exact hi
    refine ⟨[i], dIdx1 _ _ _, ok, nm, by simp, ⟨[], signs_undo _ _, by simp, fun s hs => nomatch hs⟩, fun q hq => .inl (one q hq), deed_is ok (by simp) rfl ?_ nm fun q hq => (hU q (one q hq)).1⟩
    refine fn_rt ?_
    unfold sem_has_form sx_has_form_0 sx_has_form_1 sx_has_form_2 sx_has_form_3 sx_has_form_4 sx_has_form_5
    rw [sSeq_if_f (cVal_ok (b2_ok rfl rfl (neS k8))), sSeq_if_f (cVal_ok (b2_ok rfl rfl (neS k11))), sSeq_if_f (cVal_ok (b2_ok rfl rfl (neS k13))), sSeq_if_f (cVal_ok (b2_ok rfl rfl (neS k14)))]
    exact sSeq_rt ((sIf_t (cVal_ok (b2_ok rfl rfl eqS'))).trans (sRet_ok (vAnd_tt rfl (vCall_ok (aCons_ok (b2_ok rfl rfl (ix0 _ _)) rfl) (deedid_ok (hU i hi).2)))))
noncomputable def kkP (p : IdP) : List Key := [.inl p.1, .inr p.2]
theorem keyT_id (q : IdP) : keyT (idP q) = some (kkP q) := rfl
theorem kkP_inj {p q : IdP} : kkP p = kkP q ↔ p = q := by
  constructor
  . intro h; simp only [kkP, List.cons.injEq, Sum.inl.injEq, Sum.inr.injEq, and_true] at h; exact Prod.ext h.1 h.2
  . rintro rfl; rfl
theorem getKv_cons (k kk : List Key) (v : PyData) (r : List (PyData × PyData)) : getKv ((.tuple (k.map keyD), v) :: r) kk = if k = kk then some v else getKv r kk := by
  unfold getKv
  rw [List.find?_cons]
  simp only [keyT_map]
  by_cases h : k = kk
  . simp [h]
  . simp [h]
noncomputable def kvG (xs : List (IdP × PyData)) : List (PyData × PyData) := xs.map fun x => (idP x.1, x.2)
theorem get_kvG (q : IdP) : ∀ xs : List (IdP × PyData), getKv (kvG xs) (kkP q) = (xs.find? fun x => decide (x.1 = q)).map (·.2)
  | [] => rfl
  | x :: xs => by
    have h1 : kvG (x :: xs) = (.tuple ((kkP x.1).map keyD), x.2) :: kvG xs := rfl
    rw [h1, getKv_cons, get_kvG q xs, List.find?_cons]
    by_cases h : x.1 = q
    . rw [if_pos (kkP_inj.mpr h), decide_eq_true h]; rfl
    . rw [if_neg (fun z => h (kkP_inj.mp z)), decide_eq_false h]
theorem get_someG (q : IdP) (xs : List (IdP × PyData)) : (getKv (kvG xs) (kkP q)).isSome = decide (q ∈ xs.map (·.1)) := by
  rw [get_kvG, Option.isSome_map, Bool.eq_iff_iff, List.find?_isSome]
  simp only [decide_eq_true_eq, List.mem_map]
theorem put_kvG (xs : List (IdP × PyData)) (p : IdP) (v : PyData) (h : p ∉ xs.map (·.1)) : putKv (kvG xs) (kkP p) v = kvG (xs ++ [(p, v)]) := by
  unfold putKv
  rw [get_someG, decide_eq_false h, if_neg (by decide)]
  unfold kvG
  rw [List.map_append]
  rfl
abbrev Ent := PyData × IdP × List IdP
structure DB (d : PyData) (p : IdP) (ps : List IdP) : Prop where
  id : dIx d (.int 1) = some (idP p)
  ok : okI p
  nm : m_deeds_named [d] = .ok (.list (ps.map idP))
  len : ps.length <= 40
  isd : m_is_deed [d] = .ok (.bool true)
abbrev Bk (L : List Ent) : Prop := ∀ e ∈ L, DB e.1 e.2.1 e.2.2
structure Book (L : List Ent) : Prop where
  bk : Bk L
  up : L.Pairwise fun a b => key a.2.1 < key b.2.1
  len : L.length <= 9
  cl : ∀ e ∈ L, ∀ q ∈ e.2.2, (∃ e' ∈ L, e'.2.1 = q) /\ key q < key e.2.1
  sg : ∀ e ∈ L, ∃ out : List PyData, m_signs_named [e.1] = .ok (.list out) /\ out.length <= 40 /\ ∀ s ∈ out, ∃ (q : IdP) (n : Int) (e' : Ent) (m : Int), s = sgD q n /\ q ∈ e.2.2 /\ e' ∈ L /\ e'.2.1 = q /\ m_signs_added [e'.1] = .ok (.int m) /\ n < m
theorem uniq {L : List Ent} (up : L.Pairwise fun a b => key a.2.1 < key b.2.1) {e e' : Ent} (h : e ∈ L) (h' : e' ∈ L) (hk : e.2.1 = e'.2.1) : e = e' := by
  induction L with
  | nil => exact nomatch h
  | cons a L ih =>
    rw [List.pairwise_cons] at up
    rcases List.mem_cons.mp h with rfl | h1
    . rcases List.mem_cons.mp h' with rfl | h2
      . rfl
      . have := up.1 e' h2; rw [hk] at this; omega
    . rcases List.mem_cons.mp h' with rfl | h2
      . have := up.1 e h1; rw [hk] at this; omega
      . exact ih up.2 h1 h2
theorem added_ok (i : PyData) (b : PyData) (w : Str) : m_signs_added [.tuple [.str "add", i, b, .str w]] = .ok (.int (w.length : Int)) := by
  refine fn_rt ?_
  unfold sem_signs_added N_signs_added
  simp only [startD, List.map_cons, List.map_nil, List.length_cons, List.length_nil, List.replicate, List.cons_append, List.nil_append, Nat.reduceAdd, Nat.reduceSub]
  refine sRet_ok ?_
  have e1 : dLen [.str w] = some (.int (w.length : Int)) := rfl
  unfold vIf
  simp only [ix0, eqS', dIdx3, e1, fnD_eq, startD, sSeq_eq, seq_nx, seq_rt, fin_rt, sIf_eq, cVal, b2, b1, vVar_eq, slotV_sh, vLst, vTup, aNil, aCons, vC, ok_bind, ofO_some, thenS_ok, sRet, sSet, sNext, vFn, vCall, cAnd, oSome, oNone, vSl, vJoin, cTrue, truD_bool, List.map_cons, List.map_nil, List.length_cons, List.length_nil, List.replicate, List.cons_append, List.nil_append, List.append_nil, List.getElem?_cons_zero, List.getElem?_cons_succ, List.set_cons_zero, List.set_cons_succ, Nat.reduceAdd, Nat.reduceSub, Bool.false_eq_true, reduceIte]
theorem book_dk {L0 : List Dp} (hB : BkW L0) : ∀ (M : List Dp), (∀ e ∈ M, e ∈ L0) -> ∃ L : List Ent, L.map (fun e => (e.1, e.2.1)) = M /\ ∀ e ∈ L, DK (SgOf e.2.1.1 (L0.map (·.1))) (fun q => (∃ e' ∈ L0, e'.2 = q) /\ q.1 < e.2.1.1) e.1 e.2.1 e.2.2
  | [], _ => ⟨[], rfl, fun _ h => nomatch h⟩
  | d :: ds, h => by
    obtain ⟨ps, k⟩ := dk_of (fun x hx => by obtain ⟨p, b, w, n, _, e, _, _, o⟩ := hx; exact ⟨p, n, e, o, by omega⟩) (hB.1 d (h d (.head _))) (fun q n hs => by
      obtain ⟨p, b, w, m, _, e, _, ht, _⟩ := hs
      simp only [sgD, idP, idD, PyData.tuple.injEq, List.cons.injEq, PyData.int.injEq, PyData.str.injEq, and_true] at e
      rw [e.1.1]; exact ht) (fun q ⟨⟨e', m, hq⟩, hl⟩ => ⟨hl, by rw [← hq]; exact (hB.1 e' m).1⟩)
    obtain ⟨L, e, hL⟩ := book_dk hB ds fun x hx => h x (.tail _ hx)
    exact ⟨(d.1, d.2, ps) :: L, by simp [e], fun x hx => by
      rcases List.mem_cons.mp hx with rfl | hx
      . exact k
      . exact hL x hx⟩
theorem key_lt {p q : IdP} (h : q.1 < p.1) : key q < key p := by
  have := hj_lt q.2
  unfold key; omega
theorem book_book (ns : List Int) (hns : ns.length <= 63) (x y z : Str) (hxyz : nmOk x /\ nmOk y /\ nmOk z) : ∃ L, m__law_book [scr ns, .int 10, .int 9, .list [.str x, .str y, .str z]] = .ok (.tuple (L.map (·.1))) /\ Book L /\ ∃ L0, BkW L0 /\ L0.map (·.1) = L.map (·.1) := by
  obtain ⟨L0, e, hl, hB⟩ := book_ok ns hns x y z hxyz
  obtain ⟨L, eL, hL⟩ := book_dk hB L0 fun _ h => h
  have e1 : L0.map (·.1) = L.map (·.1) := by rw [← eL, List.map_map]; rfl
  have fromD : ∀ x ∈ L0, ∃ e ∈ L, e.1 = x.1 /\ e.2.1 = x.2 := fun x hx => by
    rw [← eL] at hx
    obtain ⟨e, he, rfl⟩ := List.mem_map.mp hx
    exact ⟨e, he, rfl, rfl⟩
  have sgE : ∀ {T : Int} {q : IdP} {n : Int}, SgOf T (L0.map (·.1)) (sgD q n) -> ∃ e' ∈ L, e'.2.1 = q /\ q.1 < T /\ ∃ m : Int, m_signs_added [e'.1] = .ok (.int m) /\ n < m := fun {T q n} hs => by
    obtain ⟨p, b, w, k, hm, e, hk, ht, _⟩ := hs
    simp only [sgD, idP, idD, PyData.tuple.injEq, List.cons.injEq, PyData.int.injEq, PyData.str.injEq, and_true] at e
    obtain ⟨⟨i1, i2⟩, i3⟩ := e
    have ep : q = p := Prod.ext i1 i2
    subst ep
    obtain ⟨x0, hx0, ex0⟩ := List.mem_map.mp hm
    obtain ⟨e', he', f1, f2⟩ := fromD x0 hx0
    have hid := (hL e' he').id
    rw [f1, ex0, dIdx1] at hid
    simp only [idP, idD, Option.some.injEq, PyData.tuple.injEq, List.cons.injEq, PyData.int.injEq, PyData.str.injEq, and_true] at hid
    refine ⟨e', he', (Prod.ext hid.1 hid.2).symm, ht, w.length, ?_, by omega⟩
    rw [f1, ex0]
    exact added_ok _ _ _
  refine ⟨L, by rw [e, e1], ⟨fun e he => ⟨(hL e he).id, (hL e he).ok, (hL e he).nm, (hL e he).len, (hL e he).isd⟩, ?_, by rw [← eL, List.length_map] at hl; exact hl, fun e he q hq => ?_, fun e he => ?_⟩, L0, hB, e1⟩
  . have := hB.2
    unfold Upk at this
    rw [← eL, List.pairwise_map] at this
    exact this
  . rcases (hL e he).nmd q hq with ⟨⟨x0, hx0, ex0⟩, hlt⟩ | ⟨n, hs⟩
    . obtain ⟨e', he', f1, f2⟩ := fromD x0 hx0
      exact ⟨⟨e', he', f2.trans ex0⟩, key_lt hlt⟩
    . obtain ⟨e', he', f1, f2, _⟩ := sgE hs
      exact ⟨⟨e', he', f1⟩, key_lt f2⟩
  . obtain ⟨out, o1, o2, o3⟩ := (hL e he).sn
    refine ⟨out, o1, o2, fun s hs => ?_⟩
    obtain ⟨hS, q, n, rfl, hq⟩ := o3 s hs
    obtain ⟨e', he', f1, _, m, f3, f4⟩ := sgE hS
    exact ⟨q, n, e', m, rfl, hq, he', f1, f3, f4⟩
theorem comp_eid {δc : Dn} : ∀ L : List Ent, Bk L -> compRun bind1 δc cTrue (b2 (vVar 0) (vC (.int 1)) dIx) (L.map (·.1)) = .ok ((L.map (·.2.1)).map idP)
  | [], _ => rfl
  | p :: ps, h => by
    have v : (b2 (vVar 0) (vC (.int 1)) dIx) ([.sh p.1] ++ δc) = .ok (idP p.2.1) := by simp only [(h p (.head _)).id, fnD_eq, startD, sSeq_eq, seq_nx, seq_rt, fin_rt, sIf_eq, cVal, b2, b1, vVar_eq, slotV_sh, vLst, vTup, aNil, aCons, vC, ok_bind, ofO_some, thenS_ok, sRet, sSet, sNext, vFn, vCall, cAnd, oSome, oNone, vSl, vJoin, cTrue, truD_bool, List.map_cons, List.map_nil, List.length_cons, List.length_nil, List.replicate, List.cons_append, List.nil_append, List.append_nil, List.getElem?_cons_zero, List.getElem?_cons_succ, List.set_cons_zero, List.set_cons_succ, Nat.reduceAdd, Nat.reduceSub, Bool.false_eq_true, reduceIte]
    have ih := comp_eid (δc := δc) ps fun e he => h e (.tail _ he)
    rw [List.map_cons]
    unfold compRun
    simp only [bind1, cTrue, v, ih, List.map_cons]
noncomputable abbrev idsE (K : List Ent) : List IdP := K.map (·.2.1)
noncomputable abbrev tupB (L : List Ent) : PyData := .tuple (L.map (·.1))
noncomputable def kvE (L : List Ent) : List (IdP × PyData) := L.map fun e => (e.2.1, e.1)
theorem pairs_E : ∀ (R M : List Ent), (M ++ R).Pairwise (fun a b => key a.2.1 < key b.2.1) -> pairsKv (R.map fun e => PyData.tuple [idP e.2.1, e.1]) (kvG (kvE M)) = some (kvG (kvE (M ++ R)))
  | [], M, _ => by simp [pairsKv]
  | e :: R, M, up => by
    have hn : e.2.1 ∉ (kvE M).map (·.1) := fun h => by
      unfold kvE at h
      rw [List.map_map] at h
      obtain ⟨e', he', h'⟩ := List.mem_map.mp h
      have := (List.pairwise_append.mp up).2.2 e' he' e (.head _)
      simp only [Function.comp] at h'
      rw [h'] at this; omega
    have := pairs_E R (M ++ [e]) (by rw [List.append_assoc]; exact up)
    rw [List.map_cons]
    unfold pairsKv
    simp only [keyT_id]
    rw [put_kvG _ _ _ hn]
    have e2 : kvE M ++ [(e.2.1, e.1)] = kvE (M ++ [e]) := by unfold kvE; rw [List.map_append]; rfl
    rw [e2, this, List.append_assoc]; rfl
theorem byids_ok {L : List Ent} (hB : Book L) : m_by_ids [tupB L] = .ok (kvG (kvE L)) := by
  have hl := hB.len
  have hc : compRun bind1 [] cTrue (vTup (aCons (b2 (vVar 0) (vC (.int 1)) dIx) (aCons (vVar 0) aNil))) (L.map (·.1)) = .ok (L.map fun e => PyData.tuple [idP e.2.1, e.1]) := by
    have bk := hB.bk
    clear hB hl
    induction L with
    | nil => rfl
    | cons e L ih =>
      have v : (vTup (aCons (b2 (vVar 0) (vC (.int 1)) dIx) (aCons (vVar 0) aNil))) ([.sh e.1] ++ []) = .ok (.tuple [idP e.2.1, e.1]) := by simp only [(bk e (.head _)).id, fnD_eq, startD, sSeq_eq, seq_nx, seq_rt, fin_rt, sIf_eq, cVal, b2, b1, vVar_eq, slotV_sh, vLst, vTup, aNil, aCons, vC, ok_bind, ofO_some, thenS_ok, sRet, sSet, sNext, vFn, vCall, cAnd, oSome, oNone, vSl, vJoin, cTrue, truD_bool, List.map_cons, List.map_nil, List.length_cons, List.length_nil, List.replicate, List.cons_append, List.nil_append, List.append_nil, List.getElem?_cons_zero, List.getElem?_cons_succ, List.set_cons_zero, List.set_cons_succ, Nat.reduceAdd, Nat.reduceSub, Bool.false_eq_true, reduceIte]
      rw [List.map_cons, List.map_cons]
      unfold compRun
      simp only [bind1, cTrue, v, ih fun x hx => bk x (.tail _ hx)]
  unfold m_by_ids fnW sem_by_ids xDictF
  rw [lComp_ok (δ := startD N_by_ids [tupB L]) (src_seq (d := tupB L) rfl rfl) (by rw [List.length_map]; omega) rfl hc, ok_bind, if_pos (by rw [List.length_map]; omega)]
  have := pairs_E L [] (by rw [List.nil_append]; exact hB.up)
  rw [show kvG (kvE []) = [] from rfl, List.nil_append] at this
  rw [this]; rfl
theorem get_E {L : List Ent} (hB : Book L) {e : Ent} (he : e ∈ L) : getKv (kvG (kvE L)) (kkP e.2.1) = some e.1 := by
  rw [get_kvG]
  have : ((kvE L).find? fun x => decide (x.1 = e.2.1)) = some (e.2.1, e.1) := by
    have hs : ((kvE L).find? fun x => decide (x.1 = e.2.1)).isSome := by
      rw [List.find?_isSome]
      exact ⟨(e.2.1, e.1), List.mem_map.mpr ⟨e, he, rfl⟩, by simp⟩
    obtain ⟨x, hx⟩ := Option.isSome_iff_exists.mp hs
    have hx0 := List.find?_some hx
    have hx1 : x.1 = e.2.1 := of_decide_eq_true hx0
    obtain ⟨e', he', h'⟩ := List.mem_map.mp (List.mem_of_find?_eq_some hx)
    rw [hx, ← h']
    rw [← h'] at hx1
    rw [uniq hB.up he' he hx1]
  rw [this]; rfl
theorem has_ok {L : List Ent} (hB : Book L) {e : Ent} (he : e ∈ L) : m_has_all_named (kvG (kvE L)) e.1 = .ok (.bool true) := by
  have k := hB.bk e he
  have keys : (kvE L).map (·.1) = idsE L := by unfold kvE; rw [List.map_map]; rfl
  have c1 : (vFn (aCons (vLst (lComp (fun δ => ((vCall (aCons (vVar 1) aNil) m_deeds_named) δ).bind seqOf) bind1 [0] cTrue (vInD 1 (vVar 0)))) aNil) dAll) [.ow (.dict (kvG (kvE L))), .sh e.1] = .ok (.bool true) := by
    refine all_comp (ds := e.2.2.map idP) (δc := [.ow (.dict (kvG (kvE L)))]) (src_seq (vCall_ok (aCons_ok rfl rfl) k.nm) rfl) (by rw [List.length_map]; have := k.len; omega) rfl fun d hd => ?_
    obtain ⟨q, hq, rfl⟩ := List.mem_map.mp hd
    obtain ⟨⟨e', he', h'⟩, _⟩ := hB.cl e he q hq
    unfold vInD
    rw [show vVar 0 ([.sh (idP q)] ++ [.ow (.dict (kvG (kvE L)))]) = .ok (idP q) from rfl, ok_bind]
    simp only [keyT_id, List.cons_append, List.nil_append, List.getElem?_cons_zero, List.getElem?_cons_succ]
    rw [get_someG, keys, decide_eq_true (List.mem_map.mpr ⟨e', he', h'⟩)]
  unfold m_has_all_named fnL sem_has_all_named rIf cNot
  rw [cVal_ok c1, ok_bind, ok_bind]
  simp only [Bool.not_true, Bool.false_eq_true, if_false]
  obtain ⟨out, o1, o2, o3⟩ := hB.sg e he
  refine all_comp (ds := out) (δc := [.ow (.dict (kvG (kvE L)))]) (src_seq (vCall_ok (aCons_ok rfl rfl) o1) rfl) (by omega) rfl fun s hs => ?_
  obtain ⟨q, n, e', m, rfl, hq, he', hi, ha, hlt⟩ := o3 s hs
  have g1 : vGetD 1 (b2 (vVar 0) (vC (.int 0)) dIx) ([.sh (sgD q n)] ++ [.ow (.dict (kvG (kvE L)))]) = .ok e'.1 := by
    unfold vGetD
    simp only [List.cons_append, List.nil_append, List.getElem?_cons_zero, List.getElem?_cons_succ]
    rw [show (b2 (vVar 0) (vC (.int 0)) dIx) [.sh (sgD q n), .ow (.dict (kvG (kvE L)))] = .ok (idP q) from by simp only [ix0, fnD_eq, startD, sSeq_eq, seq_nx, seq_rt, fin_rt, sIf_eq, cVal, b2, b1, vVar_eq, slotV_sh, vLst, vTup, aNil, aCons, vC, ok_bind, ofO_some, thenS_ok, sRet, sSet, sNext, vFn, vCall, cAnd, oSome, oNone, vSl, vJoin, cTrue, truD_bool, List.map_cons, List.map_nil, List.length_cons, List.length_nil, List.replicate, List.cons_append, List.nil_append, List.append_nil, List.getElem?_cons_zero, List.getElem?_cons_succ, List.set_cons_zero, List.set_cons_succ, Nat.reduceAdd, Nat.reduceSub, Bool.false_eq_true, reduceIte], ok_bind]
    simp only [keyT_id]
    rw [← hi, get_E hB he']; rfl
  refine b2_ok (x := .int n) (y := .int m) (b2_ok rfl rfl (dIdx1 _ _ _)) (vCall_ok (aCons_ok g1 rfl) ha) ?_
  rw [ltI, decide_eq_true hlt]
theorem isbook_ok {L : List Ent} (hB : Book L) : m_is_book [tupB L] = .ok (.bool true) := by
  have hl := hB.len
  have hl' : (L.map (·.1)).length <= 9 := by rw [List.length_map]; exact hl
  refine fn_rt ?_
  unfold sem_is_book sx_is_book_0 sx_is_book_1 sx_is_book_2
  have t0 : cNot (cVal (b1 (vVar 0) fun d => some (.bool (isTy "tuple" d)))) (startD N_is_book [tupB L]) = .ok false := rfl
  have t1 : (vFn (aCons (vLst (lComp (fun δ => ((vVar 0) δ).bind seqOf) bind1 [] cTrue (vCall (aCons (vVar 0) aNil) m_is_deed))) aNil) dAll) (startD N_is_book [tupB L]) = .ok (.bool true) := by
    refine all_comp (ds := L.map (·.1)) (δc := []) (src_seq (d := tupB L) rfl rfl) (by omega) rfl fun d hd => ?_
    obtain ⟨e, he, rfl⟩ := List.mem_map.mp hd
    exact vCall_ok (aCons_ok rfl rfl) (hB.bk e he).isd
  rw [sSeq_if_f (by unfold cOr; rw [t0, ok_bind, if_neg (by decide)]; unfold cNot; rw [cVal_ok t1]; rfl)]
  have h2 : sOwnX 1 (xCall (aCons (vVar 0) aNil) m_by_ids) (startD N_is_book [tupB L]) = .nx [.sh (tupB L), .ow (.dict (kvG (kvE L)))] := by
    unfold sOwnX xCall
    rw [aCons_ok (d := tupB L) (ds := []) rfl rfl, ok_bind, byids_ok hB, thenS_ok]; rfl
  rw [sSeq_nx h2]
  have idc := comp_eid (δc := []) L hB.bk
  have hr : ((idsE L).map idP).Pairwise ltD := by
    rw [List.pairwise_map, List.pairwise_map]
    exact hB.up.imp_of_mem fun {a b} ha hb h => ltId (hB.bk a ha).ok.2.2 (hB.bk b hb).ok.2.2 h
  refine sRet_ok (vAnd_tt (vCall_ok (aCons_ok (vLst_ok (lComp_ok (src_seq (d := tupB L) rfl rfl) (by omega) rfl idc)) rfl) (rising_ok (.inl rfl) (by simp; omega) hr)) ?_)
  refine all_comp (ds := L.map (·.1)) (δc := [.ow (.dict (kvG (kvE L)))]) (src_seq (d := tupB L) rfl rfl) (by omega) rfl fun d hd => ?_
  obtain ⟨e, he, rfl⟩ := List.mem_map.mp hd
  exact has_ok hB he
noncomputable abbrev tl (x : Str) : List Nat := x.cps.toList
theorem tl_ext {x y : Str} (h : tl x = tl y) : x = y := Str.ext' (Array.toList_inj.mp h)
theorem tl_app (x y : Str) : tl (x ++ y) = tl x ++ tl y := by
  show (x.cps ++ y.cps).toList = _
  rw [Array.toList_append]
theorem tl_len (x : Str) : (tl x).length = x.length := by simp [Str.length, tl]
theorem tl_one (c : Nat) : tl ⟨#[c]⟩ = [c] := rfl
theorem tl_mk (l : List Nat) : tl ⟨l.toArray⟩ = l := by simp [tl]
noncomputable def idxs (c : Nat) : List Nat -> Nat -> List Nat
  | [], _ => []
  | a :: r, k => if a = c then k :: idxs c r (k + 1) else idxs c r (k + 1)
theorem idxs_free (c : Nat) : ∀ (l : List Nat) (k : Nat), c ∉ l -> idxs c l k = []
  | [], _, _ => rfl
  | a :: r, k, h => by
    unfold idxs
    rw [if_neg (fun e => h (by rw [e]; exact .head _)), idxs_free c r (k + 1) fun z => h (.tail _ z)]
theorem idxs_app (c : Nat) (v : List Nat) : ∀ (u : List Nat) (k : Nat), idxs c (u ++ v) k = idxs c u k ++ idxs c v (k + u.length)
  | [], _ => rfl
  | a :: r, k => by
    have ih := idxs_app c v r (k + 1)
    have e : k + 1 + r.length = k + (a :: r).length := by simp; omega
    rw [e] at ih
    show (if a = c then k :: idxs c (r ++ v) (k + 1) else idxs c (r ++ v) (k + 1)) = (if a = c then k :: idxs c r (k + 1) else idxs c r (k + 1)) ++ _
    rw [ih]
    split <;> rfl
theorem idxs_shift (c m : Nat) : ∀ (l : List Nat) (k : Nat), idxs c l (k + m) = (idxs c l k).map (· + m)
  | [], _ => rfl
  | a :: r, k => by
    have ih := idxs_shift c m r (k + 1)
    have e : k + 1 + m = k + m + 1 := by omega
    rw [e] at ih
    unfold idxs
    rw [ih]
    split <;> rfl
theorem idxs_len (c : Nat) : ∀ (l : List Nat) (k : Nat), (idxs c l k).length <= l.length
  | [], _ => Nat.le_refl _
  | a :: r, k => by
    have ih := idxs_len c r (k + 1)
    unfold idxs
    split <;> simp <;> omega
theorem ar1 {k n m : Nat} (h : k + (n + 1) = m) : k + 1 + n = m := (Nat.succ_add_eq_add_succ k n).trans h
theorem occ_go (x : Str) (c lim : Nat) : ∀ (n k : Nat) (st : Array Nat × Nat), k + n = x.length + 1 -> st.2 <= k ->
    (forIn (List.range' k n) st (StrLaws.occBody x ⟨#[c]⟩ x.length lim)).run.fst.toList = st.1.toList ++ (idxs c ((tl x).drop k) k).take (lim - st.1.size)
  | 0, k, st, h, _ => by
    rw [List.drop_of_length_le (by rw [tl_len]; exact Nat.le_of_succ_le (Nat.le_of_eq h.symm))]
    show st.1.toList = _
    simp [idxs]
  | n + 1, k, st, h, hf => by
    rw [List.range'_succ, List.forIn_cons]
    unfold StrLaws.occBody
    have key := StrLaws.subAt_one x c k
    by_cases hk : k < x.length
    . have hk' : k < (tl x).length := by rw [tl_len]; exact hk
      rw [List.drop_eq_getElem_cons hk']
      have e0 : x.cps.toList[k]? = some (tl x)[k] := List.getElem?_eq_getElem hk'
      rw [e0] at key
      unfold idxs
      by_cases hc : (tl x)[k] = c
      . have kk := key.mpr (by rw [hc])
        by_cases hl : st.1.size < lim
        . rw [if_pos ⟨⟨⟨hl, hf⟩, kk.1⟩, kk.2⟩, if_pos hc]
          have ih := occ_go x c lim n (k + 1) (st.1.push k, k + 1) (ar1 h) (Nat.le_refl _)
          refine ih.trans ?_
          obtain ⟨m, hm⟩ : ∃ m, lim - st.1.size = m + 1 := Nat.exists_eq_succ_of_ne_zero (Nat.sub_ne_zero_of_lt hl)
          have hm2 : lim - (st.1.push k).size = m := by rw [Array.size_push, Nat.sub_succ, hm]; rfl
          rw [hm, hm2, List.take_succ_cons, Array.toList_push, List.append_assoc]; rfl
        . rw [if_neg (fun z => hl z.1.1.1)]
          have ih := occ_go x c lim n (k + 1) st (ar1 h) (Nat.le_succ_of_le hf)
          refine ih.trans ?_
          have : lim - st.1.size = 0 := Nat.sub_eq_zero_of_le (Nat.not_lt.mp hl)
          rw [this]; simp
      . rw [if_neg (fun z => hc (Option.some.inj (key.mp ⟨z.1.2, z.2⟩))), if_neg hc]
        exact occ_go x c lim n (k + 1) st (ar1 h) (Nat.le_succ_of_le hf)
    . have e0 : x.cps.toList[k]? = none := List.getElem?_eq_none (by rw [show x.cps.toList.length = x.length from tl_len x]; exact Nat.not_lt.mp hk)
      rw [if_neg (fun z => by have := key.mp ⟨z.1.2, z.2⟩; rw [e0] at this; cases this)]
      have ih := occ_go x c lim n (k + 1) st (ar1 h) (Nat.le_succ_of_le hf)
      refine ih.trans ?_
      rw [List.drop_of_length_le (by rw [tl_len]; exact Nat.le_succ_of_le (Nat.not_lt.mp hk)), List.drop_of_length_le (by rw [tl_len]; exact Nat.not_lt.mp hk)]
      rfl
theorem occ_one (x : Str) (c lim : Nat) : PySem.Builtin.Str.occurrences x ⟨#[c]⟩ 0 x.length lim = (idxs c (tl x) 0).take lim := by
  rw [StrLaws.occ_eq, Nat.sub_zero, occ_go x c lim (x.length + 1) 0 (#[], 0) (by omega) (Nat.le_refl _)]
  simp
theorem split_eq (x : Str) (c : Nat) : Txt.split x ⟨#[c]⟩ = StrLaws.partsFrom x 1 0 (idxs c (tl x) 0) := by
  have ho : PySem.Builtin.Str.occurrences x ⟨#[c]⟩ 0 x.length (x.length + 1) = idxs c (tl x) 0 := by
    rw [occ_one, List.take_of_length_le]
    have := idxs_len c (tl x) 0
    rw [tl_len] at this; omega
  have hn : idxs c (tl x) 0 = [] -> StrLaws.partsFrom x 1 0 (idxs c (tl x) 0) = [x] := fun e => by
    rw [e]
    show [PySem.Builtin.Str.strSub x 0 x.length] = _
    rw [StrLaws.sub_whole]
  unfold Txt.split
  rw [ho]
  split
  . rename_i h
    refine (hn ?_).symm
    by_cases hin : c ∈ tl x
    . exact absurd hin (StrLaws.split_free x c x (by unfold Txt.split; rw [if_pos h]; exact List.mem_singleton.mpr rfl))
    . exact idxs_free c _ _ hin
  . split
    . rename_i h
      exact (hn (List.isEmpty_iff.mp h)).symm
    . exact StrLaws.partsBetween_eq x _ 1
theorem sub_app (u v : Str) {i j k : Nat} (h : k = u.length) : PySem.Builtin.Str.strSub (u ++ v) (i + k) (j + k) = PySem.Builtin.Str.strSub v i j := by
  refine tl_ext ?_
  show (PySem.Builtin.Str.strSub (u ++ v) (i + k) (j + k)).cps.toList = (PySem.Builtin.Str.strSub v i j).cps.toList
  rw [StrLaws.strSub_toList, StrLaws.strSub_toList]
  show ((tl (u ++ v)).drop (i + k)).take _ = _
  rw [tl_app, Nat.add_comm i k, h, List.drop_append, ← tl_len u, List.drop_of_length_le (Nat.le_add_right _ _), List.nil_append]
  rw [Nat.add_sub_cancel_left, Nat.add_comm j, Nat.add_sub_add_left]
theorem sub_left (u v : Str) : PySem.Builtin.Str.strSub (u ++ v) 0 u.length = u := by
  refine tl_ext ?_
  show (PySem.Builtin.Str.strSub (u ++ v) 0 u.length).cps.toList = _
  rw [StrLaws.strSub_toList]
  show ((tl (u ++ v)).drop 0).take _ = _
  rw [tl_app, List.drop_zero, Nat.sub_zero, ← tl_len u, List.take_left]
theorem app_len (x y : Str) : (x ++ y).length = x.length + y.length := by
  rw [← tl_len, tl_app, List.length_append, tl_len, tl_len]
theorem parts_shift (u v : Str) (k : Nat) (h : k = u.length) : ∀ (cuts : List Nat) (a : Nat), StrLaws.partsFrom (u ++ v) 1 (a + k) (cuts.map (· + k)) = StrLaws.partsFrom v 1 a cuts
  | [], a => by
    show [PySem.Builtin.Str.strSub (u ++ v) (a + k) (u ++ v).length] = [PySem.Builtin.Str.strSub v a v.length]
    rw [app_len, Nat.add_comm u.length, ← h, sub_app u v h]
  | c :: r, a => by
    show PySem.Builtin.Str.strSub (u ++ v) (a + k) (c + k) :: StrLaws.partsFrom (u ++ v) 1 (c + k + 1) (r.map (· + k)) = PySem.Builtin.Str.strSub v a c :: StrLaws.partsFrom v 1 (c + 1) r
    rw [sub_app u v h, ← parts_shift u v k h r (c + 1)]
    congr 2; omega
theorem split_cons {u v : Str} {c : Nat} (h : c ∉ tl u) : Txt.split (u ++ ⟨#[c]⟩ ++ v) ⟨#[c]⟩ = u :: Txt.split v ⟨#[c]⟩ := by
  rw [split_eq, split_eq]
  have e : idxs c (tl (u ++ ⟨#[c]⟩ ++ v)) 0 = u.length :: (idxs c (tl v) 0).map (· + (u.length + 1)) := by
    rw [tl_app, tl_app, List.append_assoc, idxs_app, idxs_free c (tl u) 0 h, List.nil_append, Nat.zero_add, tl_len, tl_one, ← idxs_shift, Nat.zero_add]
    show (if c = c then _ else _) = _
    rw [if_pos rfl]; rfl
  rw [e]
  show PySem.Builtin.Str.strSub (u ++ ⟨#[c]⟩ ++ v) 0 u.length :: StrLaws.partsFrom (u ++ ⟨#[c]⟩ ++ v) 1 (u.length + 1) _ = _
  have e2 := parts_shift (u ++ ⟨#[c]⟩) v (u.length + 1) (by rw [app_len]; rfl) (idxs c (tl v) 0) 0
  rw [Nat.zero_add] at e2
  rw [e2, Str.append_assoc, sub_left]
theorem split_free' {u : Str} {c : Nat} (h : c ∉ tl u) : Txt.split u ⟨#[c]⟩ = [u] := by
  rw [split_eq, idxs_free c _ _ h]
  show [PySem.Builtin.Str.strSub u 0 u.length] = _
  rw [StrLaws.sub_whole]
theorem occ_first1 {u v : Str} {c : Nat} (h : c ∉ tl u) : PySem.Builtin.Str.occurrences (u ++ ⟨#[c]⟩ ++ v) ⟨#[c]⟩ 0 (u ++ ⟨#[c]⟩ ++ v).length 1 = [u.length] := by
  have e : idxs c (tl (u ++ ⟨#[c]⟩ ++ v)) 0 = u.length :: (idxs c (tl v) 0).map (· + (u.length + 1)) := by
    rw [tl_app, tl_app, List.append_assoc, idxs_app, idxs_free c (tl u) 0 h, List.nil_append, Nat.zero_add, tl_len, tl_one, ← idxs_shift, Nat.zero_add]
    show (if c = c then _ else _) = _
    rw [if_pos rfl]; rfl
  rw [occ_one, e]; rfl
theorem cut_eq (x : Str) (l u : Option Int) : cutS x l u = StrLaws.sliceText x l u := by
  unfold cutS StrLaws.sliceText
  simp
theorem cut_head {u v : Str} (h : u.length = 1) : cutS (u ++ v) none (some 1) = u := by
  have hl : (tl (u ++ v)).length = 1 + v.length := by rw [tl_len, app_len, h]
  rw [cut_eq, StrLaws.sliceText_to ⟨by decide, by show (1 : Int) <= ((tl (u ++ v)).length : Int); omega⟩]
  refine tl_ext ?_
  rw [tl_mk]
  show ((tl (u ++ v)).drop 0).take 1 = tl u
  rw [tl_app, List.drop_zero, ← h, ← tl_len u, List.take_left]
theorem cut_tail {u v : Str} (h : u.length = 1) : cutS (u ++ v) (some 1) none = v := by
  have hl : (tl (u ++ v)).length = 1 + v.length := by rw [tl_len, app_len, h]
  rw [cut_eq, StrLaws.sliceText_from ⟨by decide, by show (1 : Int) <= ((tl (u ++ v)).length : Int); omega⟩]
  refine tl_ext ?_
  rw [tl_mk]
  have e : (((tl (u ++ v)).length : Int) - 1).toNat = v.length := by omega
  show ((tl (u ++ v)).drop 1).take (((tl (u ++ v)).length : Int) - 1).toNat = tl v
  rw [e, tl_app, ← h, ← tl_len u, List.drop_left, List.take_of_length_le (by rw [tl_len]; exact Nat.le_refl _)]
theorem cut_last {u v : Str} (h : v.length = 1) : cutS (u ++ v) none (some (-1)) = u := by
  have hl : (u ++ v).length = u.length + 1 := by rw [app_len, h]
  rw [cut_eq, StrLaws.sliceText_to_neg (by decide) (by omega)]
  refine tl_ext ?_
  rw [tl_mk]
  have e : (-1 + ((u ++ v).length : Int) - 0).toNat = u.length := by omega
  rw [e]
  show ((tl (u ++ v)).drop 0).take u.length = tl u
  rw [tl_app, List.drop_zero, ← tl_len u, List.take_left]
theorem part_cut {u v : Str} {c : Nat} (h : c ∉ tl u) : partS (u ++ ⟨#[c]⟩ ++ v) ⟨#[c]⟩ = (u, ⟨#[c]⟩, v) := by
  unfold partS
  rw [occ_first1 h]
  dsimp only
  have e := sub_app (u ++ ⟨#[c]⟩) v (i := 0) (j := v.length) (k := u.length + 1) (by rw [app_len]; rfl)
  have e2 : (u ++ ⟨#[c]⟩ ++ v).length = v.length + (u.length + 1) := by rw [app_len, app_len]; show u.length + 1 + v.length = _; omega
  have e3 : u.length + (⟨#[c]⟩ : Str).length = 0 + (u.length + 1) := by show u.length + 1 = _; omega
  have e4 : PySem.Builtin.Str.strSub (u ++ ⟨#[c]⟩ ++ v) 0 u.length = u := by rw [Str.append_assoc]; exact sub_left u _
  rw [e4, e3, e2, e, StrLaws.sub_whole]
structure Tx (n : Nat) (x : Str) : Prop where
  ch : chOk 10 126 x
  le : x.length <= n
theorem Tx.app {n m : Nat} {x y : Str} (hx : Tx n x) (hy : Tx m y) : Tx (n + m) (x ++ y) := ⟨hx.ch.app hy.ch, by rw [app_len]; have := hx.le; have := hy.le; omega⟩
theorem Tx.mono {n m : Nat} {x : Str} (hx : Tx n x) (h : n <= m) : Tx m x := ⟨hx.ch, Nat.le_trans hx.le h⟩
theorem Tx.ok {n : Nat} {x : Str} (hx : Tx n x) (h : n <= 100000) : okS x = true := by
  unfold okS
  rw [Bool.and_eq_true]
  refine ⟨?_, decide_eq_true (Nat.le_trans (Nat.le_trans hx.le h) (by decide))⟩
  unfold PyData.strOk
  rw [← Array.all_toList, List.all_eq_true]
  intro c hc
  have := hx.ch c hc
  rw [decide_eq_true_eq]; omega
theorem addB {x y : Str} (h : x.length + y.length <= 100000) : dAdd (.str x) (.str y) = some (.str (x ++ y)) := by
  show (if _ then _ else _) = _
  rw [if_pos (Nat.le_trans h (by decide))]
theorem Tx.add {n m : Nat} {x y : Str} (hx : Tx n x) (hy : Tx m y) (h : n + m <= 100000) : dAdd (.str x) (.str y) = some (.str (x ++ y)) := addB (by have := hx.le; have := hy.le; omega)
theorem txC {x : Str} (h : x.cps.toList.all (fun c => decide (10 <= c /\ c <= 126)) = true) : Tx x.length x := ⟨fun c hc => by have := List.all_eq_true.mp h c hc; simpa using this, Nat.le_refl _⟩
noncomputable def numS (n : Int) : Str := Str.ofString (toString n)
structure Num (n : Int) : Prop where
  lo : 0 <= n
  hi : n < 1000000
theorem Num.len {n : Int} (h : Num n) : 1 <= (numS n).length /\ (numS n).length <= 6 := ⟨PySem.W.KLn.one_le h.lo, PyProof.Rows.toString_length_le h.lo (by decide) h.hi⟩
theorem Num.dig {n : Int} (h : Num n) : ∀ c ∈ tl (numS n), 48 <= c /\ c <= 57 := by
  obtain ⟨h0, _⟩ := h
  obtain ⟨m, rfl⟩ := Int.eq_ofNat_of_zero_le h0
  intro c hc
  unfold numS tl at hc
  rw [PySem.W.KIN.signs_num] at hc
  obtain ⟨ch, hch, e⟩ := List.mem_map.mp hc
  have hd := Nat.isDigit_of_mem_toDigits (by decide) (by decide) hch
  rw [← e]
  unfold Char.isDigit at hd
  simp only [Bool.and_eq_true, decide_eq_true_eq] at hd
  exact ⟨hd.1, hd.2⟩
theorem Num.tx {n : Int} (h : Num n) : Tx 6 (numS n) := ⟨fun c hc => by have := h.dig c hc; omega, h.len.2⟩
theorem Num.str {n : Int} (h : Num n) : dStrF [.int n] = some (.str (numS n)) := by
  show (if _ then _ else _) = _
  have h2 := h.len.2
  have hl : n.natAbs.log2 < 1920 := by
    by_cases z : n.natAbs = 0
    . rw [z]; decide
    . rw [Nat.log2_lt z]
      have := h.lo; have := h.hi
      exact Nat.lt_of_lt_of_le (show n.natAbs < 2 ^ 20 by omega) (Nat.pow_le_pow_right (by decide) (by decide))
  rw [if_pos ⟨hl, Nat.le_trans h2 (by decide)⟩]; rfl
theorem inFig {c : Nat} (h : 48 <= c /\ c <= 57) : dIn false (.str ⟨#[c]⟩) (.str "0123456789") = some (.bool true) := by
  show some (PyData.bool (inStr ⟨#[c]⟩ "0123456789")) = _
  unfold inStr
  rw [StrLaws.found_one]
  have e : ("0123456789" : Str).cps.toList = [48, 49, 50, 51, 52, 53, 54, 55, 56, 57] := by decide
  obtain ⟨k, rfl⟩ := Nat.exists_eq_add_of_le h.1
  rw [e, decide_eq_true ((by decide : ∀ k, k < 10 -> 48 + k ∈ [48, 49, 50, 51, 52, 53, 54, 55, 56, 57]) k (by omega))]
theorem cOr_ff {f g : Dn -> Res Bool} {δ : Dn} (h1 : f δ = .ok false) (h2 : g δ = .ok false) : cOr f g δ = .ok false := by
  unfold cOr
  rw [h1, ok_bind, if_neg (by decide), h2]
theorem cNot_t {f : Dn -> Res PyData} {δ : Dn} (h : f δ = .ok (.bool true)) : cNot (cVal f) δ = .ok false := by
  unfold cNot
  rw [cVal_ok h]; rfl
theorem number_ok {n : Int} (h : Num n) : m_number_in [.str (numS n)] = .ok (.int n) := by
  obtain ⟨l1, l2⟩ := h.len
  refine fn_rt ?_
  unfold sem_number_in
  rw [sSeq_if_f]
  . refine sRet_ok (vFn_ok (aCons_ok rfl rfl) ?_)
    show (if _ then _ else _) = _
    rw [if_pos (Nat.le_trans l2 (by decide)), show PySem.intText? (numS n) = some n from PySem.W.KIN.num_reads h.lo (by have := h.hi; omega)]; rfl
  . refine cOr_ff (cNot_t (chain_t (x := .int 1) (y := .int ((numS n).length : Int)) (z := .int 6) rfl rfl rfl (by rw [leI, decide_eq_true (by omega)]) (by rw [leI, decide_eq_true (by omega)]))) (cNot_t (all_comp (ds := signsD (numS n)) (δc := []) rfl ?_ rfl fun d hd => ?_))
    . unfold signsD; rw [List.length_map]; show (tl (numS n)).length <= _; rw [tl_len]; omega
    . unfold signsD at hd
      obtain ⟨c, hc, rfl⟩ := List.mem_map.mp hd
      exact b2_ok (x := .str ⟨#[c]⟩) rfl rfl (inFig (h.dig c hc))
noncomputable def idS (p : IdP) : Str := p.2 ++ numS p.1
theorem okI.num {p : IdP} (o : okI p) : Num p.1 := ⟨by have := o.1; omega, by have := o.2.1; omega⟩
theorem okH.one {h : Str} (k : okH h) : h.length = 1 := by rcases k with rfl | rfl | rfl <;> rfl
theorem okH.ch {h : Str} (k : okH h) : chOk 97 99 h := by
  rcases k with rfl | rfl | rfl <;> (intro c hc; revert c; decide)
theorem okH.tx {h : Str} (k : okH h) : Tx 1 h := ⟨fun c hc => by have := k.ch c hc; omega, Nat.le_of_eq k.one⟩
theorem ids_tx {p : IdP} (o : okI p) : Tx 7 (idS p) := (o.2.2.tx.app o.num.tx).mono (by decide)
theorem mem_app {c : Nat} {x y : Str} (h : c ∈ tl (x ++ y)) : c ∈ tl x \/ c ∈ tl y := by rw [tl_app] at h; exact List.mem_append.mp h
theorem ids_ch {p : IdP} (o : okI p) : ∀ c ∈ tl (idS p), 48 <= c := fun c hc => by
  rcases mem_app hc with h | h
  . have := o.2.2.ch c h; omega
  . exact (o.num.dig c h).1
theorem wid_ok {p : IdP} (o : okI p) : m_written_id [idP p] = .ok (.str (idS p)) :=
  fn_rt (sRet_ok (b2_ok (b2_ok rfl rfl (dIdx1 _ _ _)) (vFn_ok (aCons_ok (b2_ok rfl rfl (ix0 _ _)) rfl) o.num.str) (o.2.2.tx.add o.num.tx (by decide))))
theorem lid_ok {p : IdP} (o : okI p) : m__law_id_text [idP p] = .ok (.str (idS p)) :=
  fn_rt (sRet_ok (b2_ok (b2_ok rfl rfl (dIdx1 _ _ _)) (vFn_ok (aCons_ok (b2_ok rfl rfl (ix0 _ _)) rfl) o.num.str) (o.2.2.tx.add o.num.tx (by decide))))
theorem slS_ok {f : Dn -> Res PyData} {fl fh : Dn -> Res (Option Int)} {δ : Dn} {x y : Str} {l u : Option Int} (h1 : f δ = .ok (.str x)) (h2 : fl δ = .ok l) (h3 : fh δ = .ok u) (h4 : cutS x l u = y) (h5 : okS y = true) : vSlS f fl fh δ = .ok (.str y) := by
  unfold vSlS
  rw [h1, ok_bind, h2, ok_bind, h3, ok_bind]
  show ofO (if okS (cutS x l u) = true then _ else _) = _
  rw [h4, if_pos h5]; rfl
theorem idin_ok {p : IdP} (o : okI p) : m_id_in [.str (idS p)] = .ok (idP p) :=
  fn_rt (sRet_ok (vTup_ok (aCons_ok (vCall_ok (aCons_ok (slS_ok rfl rfl rfl (cut_tail o.2.2.one) (o.num.tx.ok (by decide))) rfl) (number_ok o.num)) (aCons_ok (slS_ok rfl rfl rfl (cut_head o.2.2.one) (o.2.2.tx.ok (by decide))) rfl))))
theorem part_ok {g f : Dn -> Res PyData} {δ : Dn} {u v : Str} {c n : Nat} (h1 : g δ = .ok (.str (u ++ ⟨#[c]⟩ ++ v))) (h2 : f δ = .ok (.str ⟨#[c]⟩)) (hc : c ∉ tl u) (hx : Tx n (u ++ ⟨#[c]⟩ ++ v)) (hn : n <= 100000) :
    vPart g f δ = .ok (.tuple [.str u, .str ⟨#[c]⟩, .str v]) := by
  have hl := hx.le
  rw [app_len, app_len] at hl
  have hl1 : (⟨#[c]⟩ : Str).length = 1 := rfl
  have m1 : ∀ z ∈ tl u, z ∈ tl (u ++ ⟨#[c]⟩ ++ v) := fun z h => by rw [tl_app, tl_app]; exact List.mem_append_left _ (List.mem_append_left _ h)
  have m2 : ∀ z ∈ tl ⟨#[c]⟩, z ∈ tl (u ++ ⟨#[c]⟩ ++ v) := fun z h => by rw [tl_app, tl_app]; exact List.mem_append_left _ (List.mem_append_right _ h)
  have m3 : ∀ z ∈ tl v, z ∈ tl (u ++ ⟨#[c]⟩ ++ v) := fun z h => by rw [tl_app, tl_app]; exact List.mem_append_right _ h
  have o1 : okS u = true := (Tx.mk (n := n) (fun z h => hx.ch z (m1 z h)) (by omega)).ok hn
  have o2 : okS ⟨#[c]⟩ = true := (Tx.mk (n := n) (fun z h => hx.ch z (m2 z h)) (by omega)).ok hn
  have o3 : okS v = true := (Tx.mk (n := n) (fun z h => hx.ch z (m3 z h)) (by omega)).ok hn
  unfold vPart
  rw [h1, ok_bind]
  show (f δ).bind _ = _
  rw [h2, ok_bind]
  show ofO (if _ then _ else _) = _
  rw [part_cut hc, if_pos ⟨rfl, o1, o2, o3⟩]; rfl
noncomputable def sgS (p : IdP) (n : Int) : Str := idS p ++ "." ++ numS n
structure SgF (s : PyData) (x : Str) : Prop where
  w : m_written_sign [s] = .ok (.str x)
  l : m__law_sign_text [s] = .ok (.str x)
  r : m_sign_in [.str x] = .ok s
  tx : Tx 14 x
  fr : ∀ c ∈ tl x, 45 <= c
theorem txN {n : Nat} {x : Str} (h : x.cps.toList.all (fun c => decide (10 <= c /\ c <= 126)) = true) (hl : x.length <= n) : Tx n x := (txC h).mono hl
theorem dot_tx : Tx 1 "." := txN (by decide) (by decide)
theorem sgs_tx {p : IdP} (o : okI p) {n : Int} (hn : Num n) : Tx 14 (sgS p n) := ((ids_tx o).app dot_tx).app hn.tx
theorem dEqF {x y : Str} (h : (x == y) = false) : dEq (.str x) (.str y) = some (.bool false) := by rw [dEqS, h]
theorem ne_len {x y : Str} (h : x.length ≠ y.length) : (x == y) = false := by
  cases e : x == y with
  | false => rfl
  | true => exact absurd (congrArg Str.length (eq_of_beq e)) h
theorem sgf_some {p : IdP} (o : okI p) {n : Int} (hn : Num n) : SgF (sgD p n) (sgS p n) where
  w := by
    refine fn_rt ?_
    unfold sem_written_sign
    rw [sSeq_if_f (show _ = Res.ok false from rfl)]
    exact sRet_ok (b2_ok (b2_ok (vCall_ok (aCons_ok (b2_ok rfl rfl (ix0 _ _)) rfl) (wid_ok o)) rfl ((ids_tx o).add dot_tx (by decide))) (vFn_ok (aCons_ok (b2_ok rfl rfl (dIdx1 _ _ _)) rfl) hn.str) (((ids_tx o).app dot_tx).add hn.tx (by decide)))
  l := by
    refine fn_rt ?_
    unfold sem__law_sign_text
    rw [sSeq_if_f (show _ = Res.ok false from rfl)]
    exact sRet_ok (b2_ok (b2_ok (vCall_ok (aCons_ok (b2_ok rfl rfl (ix0 _ _)) rfl) (lid_ok o)) rfl ((ids_tx o).add dot_tx (by decide))) (vFn_ok (aCons_ok (b2_ok rfl rfl (dIdx1 _ _ _)) rfl) hn.str) (((ids_tx o).app dot_tx).add hn.tx (by decide)))
  r := by
    refine fn_rt ?_
    unfold sem_sign_in
    have hne : (sgS p n == "-") = false := ne_len (by
      unfold sgS idS
      rw [app_len, app_len, app_len, o.2.2.one]
      show 1 + _ + 1 + _ ≠ 1
      omega)
    rw [sSeq_if_f (cVal_ok (b2_ok rfl rfl (dEqF hne)))]
    have hp : vPart (vVar 0) (vC (.str ".")) (startD N_sign_in [.str (sgS p n)]) = .ok (.tuple [.str (idS p), .str ".", .str (numS n)]) := part_ok (c := 46) rfl rfl (fun z => by have := ids_ch o 46 z; omega) (sgs_tx o hn) (by decide)
    rw [sSeq_nx (sSet_ok hp)]
    exact sRet_ok (vTup_ok (aCons_ok (vCall_ok (aCons_ok (b2_ok rfl rfl (ix0 _ _)) rfl) (idin_ok o)) (aCons_ok (vCall_ok (aCons_ok (b2_ok rfl rfl (dIdx2 _ _ _ _)) rfl) (number_ok hn)) rfl)))
  tx := sgs_tx o hn
  fr := fun c hc => by
    rcases mem_app hc with h | h
    . rcases mem_app h with h | h
      . have := ids_ch o c h; omega
      . have : c ∈ [46] := h
        rw [List.mem_singleton.mp this]; decide
    . have := hn.dig c h; omega
theorem sgf_none : SgF .none "-" where
  w := by kernel_rfl
  l := by kernel_rfl
  r := by kernel_rfl
  tx := txN (by decide) (by decide)
  fr := fun c hc => by
    have : c ∈ [45] := hc
    rw [List.mem_singleton.mp this]; decide
def SgN (S : PyData -> Prop) : Prop := ∀ x, S x -> ∃ (p : IdP) (n : Int), x = sgD p n /\ okI p /\ Num n
theorem sgf_of {S : PyData -> Prop} (hS : SgN S) {s : PyData} (h : OrN S s) : ∃ x, SgF s x := by
  rcases h with rfl | h
  . exact ⟨_, sgf_none⟩
  . obtain ⟨p, n, rfl, o, hn⟩ := hS s h
    exact ⟨_, sgf_some o hn⟩
theorem ends_one (y : Str) (c d : Nat) : Txt.endswith (y ++ ⟨#[c]⟩) ⟨#[d]⟩ = decide (c = d) := by
  unfold Txt.endswith
  have hl : (y ++ ⟨#[c]⟩).length = y.length + 1 := by rw [app_len]; rfl
  have hd : (⟨#[d]⟩ : Str).length = 1 := rfl
  rw [StrLaws.subAt_eq, hl, hd, Nat.add_sub_cancel, decide_eq_true (by omega : 0 + 1 <= y.length + 1), Bool.true_and]
  show (((tl (y ++ ⟨#[c]⟩)).drop y.length).take 1 == [d]) = _
  rw [tl_app, ← tl_len y, List.drop_left, tl_one]
  show ([c] == [d]) = _
  rw [Bool.eq_iff_iff]
  simp
noncomputable abbrev sdK : List (Str × Str) := [("l", "<"), ("r", ">")]
theorem getC_l {f : Dn -> Res PyData} {δ : Dn} (h : f δ = .ok (.str "l")) : vGetC sdK f δ = .ok (.str "<") := by
  unfold vGetC
  rw [h]
  kernel_rfl
theorem getC_r {f : Dn -> Res PyData} {δ : Dn} (h : f δ = .ok (.str "r")) : vGetC sdK f δ = .ok (.str ">") := by
  unfold vGetC
  rw [h]
  kernel_rfl
structure AnF (s : PyData) (e : Str) (y z : Str) : Prop where
  w : m_written_anchor [.tuple [s, .str e]] = .ok (.str (y ++ z))
  r : m_anchor_in [.str (y ++ z)] = .ok (.tuple [s, .str e])
  l : m__law_sign_text [s] = .ok (.str y)
  i : ∃ b, dEq (.str e) (.str "r") = some (.bool b) /\ dIx (.str "<>") (.int (if b = true then 1 else 0)) = some (.str z)
  tx : Tx 14 y
  tz : Tx 1 z
  fr : ∀ c ∈ tl (y ++ z), 45 <= c
theorem ends_v {f g : Dn -> Res PyData} {δ : Dn} {x y : Str} (h : f δ = .ok (.str x)) (h2 : g δ = .ok (.str y)) : vEnds f g δ = .ok (.bool (Txt.endswith x y)) := by
  unfold vEnds
  rw [h, ok_bind]
  show (g δ).bind _ = _
  rw [h2, ok_bind]
noncomputable abbrev bodyA : Dn -> Out := (sIf (cVal (vEnds (vVar 0) (vGetC [("l", "<"), ("r", ">")] (vVar 1)))) (sRet (vTup (aCons (vCall (aCons (vSlS (vVar 0) oNone (oSome (b1 (vC (.int 1)) dNeg))) aNil) m_sign_in) (aCons (vVar 1) aNil)))) sNext)
theorem anf_l {s : PyData} {y : Str} (h : SgF s y) : AnF s "l" y "<" where
  w := fn_rt (sRet_ok (b2_ok (vCall_ok (aCons_ok (b2_ok rfl rfl (ix0 _ _)) rfl) h.w) (getC_l (b2_ok rfl rfl (dIdx1 _ _ _))) (h.tx.add (m := 1) (txN (by decide) (by decide)) (by decide))))
  r := by
    refine fn_rt ?_
    unfold sem_anchor_in
    refine sSeq_rt ?_
    have e1 : Txt.endswith (y ++ "<") "<" = true := by rw [show ("<" : Str) = ⟨#[60]⟩ from by decide, ends_one]; rfl
    have b1' : bodyA [.sh (.str (y ++ "<")), .sh (.str "l")] = .rt (.tuple [s, .str "l"]) := by
      refine (sIf_t (cVal_ok (b := true) (by rw [ends_v (x := y ++ "<") (y := "<") rfl (getC_l rfl), e1]))).trans ?_
      exact sRet_ok (vTup_ok (aCons_ok (vCall_ok (aCons_ok (slS_ok (x := y ++ "<") (y := y) rfl rfl rfl (cut_last rfl) (h.tx.ok (by decide))) rfl) h.r) (aCons_ok rfl rfl)))
    show runFor (st1 1) bodyA [.str "l", .str "r"] [.sh (.str (y ++ "<")), .un] = _
    unfold runFor
    simp only [st1, List.set_cons_zero, List.set_cons_succ]
    rw [b1']
  l := h.l
  i := ⟨false, by kernel_rfl, by kernel_rfl⟩
  tx := h.tx
  tz := txN (by decide) (by decide)
  fr := fun c hc => by
    rcases mem_app hc with z | z
    . exact h.fr c z
    . have : c ∈ [60] := z
      rw [List.mem_singleton.mp this]; decide
theorem anf_r {s : PyData} {y : Str} (h : SgF s y) : AnF s "r" y ">" where
  w := fn_rt (sRet_ok (b2_ok (vCall_ok (aCons_ok (b2_ok rfl rfl (ix0 _ _)) rfl) h.w) (getC_r (b2_ok rfl rfl (dIdx1 _ _ _))) (h.tx.add (m := 1) (txN (by decide) (by decide)) (by decide))))
  r := by
    refine fn_rt ?_
    unfold sem_anchor_in
    refine sSeq_rt ?_
    have e0 : Txt.endswith (y ++ ">") "<" = false := by rw [show (">" : Str) = ⟨#[62]⟩ from by decide, show ("<" : Str) = ⟨#[60]⟩ from by decide, ends_one]; rfl
    have e1 : Txt.endswith (y ++ ">") ">" = true := by rw [show (">" : Str) = ⟨#[62]⟩ from by decide, ends_one]; rfl
    have b0' : bodyA [.sh (.str (y ++ ">")), .sh (.str "l")] = .nx [.sh (.str (y ++ ">")), .sh (.str "l")] := by
      refine (sIf_f (cVal_ok (b := false) (by rw [ends_v (x := y ++ ">") (y := "<") rfl (getC_l rfl), e0]))).trans rfl
    have b1' : bodyA [.sh (.str (y ++ ">")), .sh (.str "r")] = .rt (.tuple [s, .str "r"]) := by
      refine (sIf_t (cVal_ok (b := true) (by rw [ends_v (x := y ++ ">") (y := ">") rfl (getC_r rfl), e1]))).trans ?_
      exact sRet_ok (vTup_ok (aCons_ok (vCall_ok (aCons_ok (slS_ok (x := y ++ ">") (y := y) rfl rfl rfl (cut_last rfl) (h.tx.ok (by decide))) rfl) h.r) (aCons_ok rfl rfl)))
    show runFor (st1 1) bodyA [.str "l", .str "r"] [.sh (.str (y ++ ">")), .un] = _
    unfold runFor
    simp only [st1, List.set_cons_zero, List.set_cons_succ]
    rw [b0']
    dsimp only
    unfold runFor
    simp only [st1, List.set_cons_zero, List.set_cons_succ]
    rw [b1']
  l := h.l
  i := ⟨true, by kernel_rfl, by kernel_rfl⟩
  tx := h.tx
  tz := txN (by decide) (by decide)
  fr := fun c hc => by
    rcases mem_app hc with z | z
    . exact h.fr c z
    . have : c ∈ [62] := z
      rw [List.mem_singleton.mp this]; decide
theorem anf_of {S : PyData -> Prop} (hS : SgN S) {s : PyData} (h : OrN S s) {e : Str} (he : lrOk e) : ∃ y z, AnF s e y z := by
  obtain ⟨y, hy⟩ := sgf_of hS h
  rcases he with rfl | rfl
  . exact ⟨y, "<", anf_l hy⟩
  . exact ⟨y, ">", anf_r hy⟩
theorem parts_sub (z : Str) : ∀ (cuts : List Nat) (a : Nat) (p : Str), p ∈ StrLaws.partsFrom z 1 a cuts -> ∃ i j, p = PySem.Builtin.Str.strSub z i j
  | [], a, p, h => ⟨_, _, List.mem_singleton.mp h⟩
  | c :: r, a, p, h => by
    rcases List.mem_cons.mp h with h | h
    . exact ⟨_, _, h⟩
    . exact parts_sub z r (c + 1) p h
theorem parts_len (z : Str) : ∀ (cuts : List Nat) (a : Nat), (StrLaws.partsFrom z 1 a cuts).length = cuts.length + 1
  | [], _ => rfl
  | c :: r, a => by
    show (StrLaws.partsFrom z 1 (c + 1) r).length + 1 = _
    rw [parts_len z r (c + 1)]; rfl
theorem splitv_ok {g f : Dn -> Res PyData} {δ : Dn} {z : Str} {c n : Nat} (h1 : g δ = .ok (.str z)) (h2 : f δ = .ok (.str ⟨#[c]⟩)) (hz : Tx n z) (hn : n <= 100000) :
    vSplit g f δ = .ok (.list ((Txt.split z ⟨#[c]⟩).map .str)) := by
  have hl : (Txt.split z ⟨#[c]⟩).length <= 100001 := by
    rw [split_eq, parts_len]
    have := idxs_len c (tl z) 0
    have := tl_len z
    have := hz.le
    omega
  have ho : (PySem.Builtin.Str.partsBetween z (PySem.Builtin.Str.occurrences z ⟨#[c]⟩ 0 z.length (z.length + 1)) (⟨#[c]⟩ : Str).length).length <= 100002 := by
    rw [length_partsBetween]
    have := StrLaws.occ_length_le z ⟨#[c]⟩ 0 z.length (z.length + 1)
    have := hz.le
    omega
  have ha : (Txt.split z ⟨#[c]⟩).all okS = true := List.all_eq_true.mpr fun p hp => by
    rw [split_eq] at hp
    obtain ⟨i, j, rfl⟩ := parts_sub z _ _ p hp
    refine (Tx.mk (n := n) (fun k hk => hz.ch k ?_) (Nat.le_trans (le_strSub z i j) hz.le)).ok hn
    rw [StrLaws.strSub_toList] at hk
    exact List.mem_of_mem_drop (List.mem_of_mem_take hk)
  unfold vSplit
  rw [h1, ok_bind]
  show (f δ).bind _ = _
  rw [h2, ok_bind]
  show (if _ then _ else _) = _
  rw [if_pos ⟨rfl, Nat.le_trans hl (by decide), Nat.le_trans ho (by decide), ha⟩]
theorem split_join {c : Nat} : ∀ (xs : List Str), xs ≠ [] -> (∀ x ∈ xs, c ∉ tl x) -> Txt.split (Str.join ⟨#[c]⟩ xs) ⟨#[c]⟩ = xs
  | [], h, _ => absurd rfl h
  | [x], _, h => split_free' (h x (.head _))
  | x :: y :: r, _, h => by
    show Txt.split (x ++ ⟨#[c]⟩ ++ Str.join ⟨#[c]⟩ (y :: r)) ⟨#[c]⟩ = _
    rw [split_cons (h x (.head _)), split_join (y :: r) (by simp) fun z hz => h z (.tail _ hz)]
structure Wd (x : Str) : Prop where
  ch : chOk 32 126 x
  le : x.length <= 20
theorem sp_ch : chOk 32 126 " " := fun c hc => by
  have : c ∈ [32] := hc
  rw [List.mem_singleton.mp this]; decide
theorem join_wd : ∀ (xs : List Str), (∀ x ∈ xs, Wd x) -> chOk 32 126 (Str.join " " xs) /\ (Str.join " " xs).length <= 21 * xs.length /\ (xs.map (·.length)).sum <= 20 * xs.length
  | [], _ => ⟨chOk.nil, Nat.le_refl _, Nat.le_refl _⟩
  | [x], h => by
    have hx := h x (.head _)
    have := hx.le
    exact ⟨hx.ch, by show x.length <= 21; omega, by simp; omega⟩
  | x :: y :: r, h => by
    have hx := h x (.head _)
    obtain ⟨h1, h2, h3⟩ := join_wd (y :: r) fun z hz => h z (.tail _ hz)
    have := hx.le
    refine ⟨(hx.ch.app sp_ch).app h1, ?_, ?_⟩
    . show (x ++ " " ++ Str.join " " (y :: r)).length <= _
      rw [app_len, app_len]
      have e : (" " : Str).length = 1 := rfl
      simp only [List.length_cons] at h2 ⊢
      omega
    . simp only [List.map_cons, List.sum_cons, List.length_cons] at h3 ⊢
      omega
theorem ch_tx {x : Str} {n : Nat} (h : chOk 32 126 x) (hl : x.length <= n) : Tx n x := ⟨fun c hc => by have := h c hc; omega, hl⟩
theorem strs_map : ∀ xs : List Str, strsOf (xs.map PyData.str) = some xs
  | [] => rfl
  | x :: xs => by show (strsOf (xs.map PyData.str)).map _ = _; rw [strs_map xs]; rfl
theorem okS_str {x : Str} (h : okS x = true) : PyData.strOk x = true := (okS.out h).1
theorem join_sp {xs : List Str} (h : ∀ x ∈ xs, Wd x) (hl : xs.length <= 50) : dJoin " " (.list (xs.map .str)) = some (.str (Str.join " " xs)) := by
  obtain ⟨h1, h2, h3⟩ := join_wd xs h
  show (strsOf (xs.map PyData.str)).bind _ = _
  rw [strs_map]
  show (if _ then _ else _) = _
  have e : (" " : Str).length = 1 := rfl
  rw [if_pos ⟨by rw [e]; omega, okS_str ((ch_tx h1 (n := 2000) (by omega)).ok (by decide)), Nat.le_trans (show _ <= 2000 by omega) (by decide)⟩]
theorem vJoin_ok {f : Dn -> Res PyData} {δ : Dn} {z x : Str} {d : PyData} (h : f δ = .ok d) (h2 : dJoin z d = some (.str x)) : vJoin z f δ = .ok (.str x) := by
  unfold vJoin
  rw [h, ok_bind, h2]; rfl
theorem ids_wd {p : IdP} (o : okI p) : Wd (idS p) := ⟨fun c hc => ⟨by have := ids_ch o c hc; omega, ((ids_tx o).ch c hc).2⟩, by have := (ids_tx o).le; omega⟩
structure Beh (p : IdP) (w : Str) (xs : List Str) (ps : List PyData) : Prop where
  ok : okI p
  ww : Wd w
  wl : w.length <= 6
  w32 : 32 ∉ tl w
  wx : ∀ x ∈ xs, Wd x
  xl : xs.length <= 40
  xn : xs ≠ []
  pl : ps.length <= 10
  wd : m_words_behind [.tuple (.str w :: idP p :: ps)] = .ok (.list (xs.map .str))
  l : m__law_line [.tuple (.str w :: idP p :: ps)] = .ok (.str (idS p ++ " " ++ (w ++ " " ++ Str.join " " xs)))
  r : m_parts_in [.str w, .str (Str.join " " xs)] = .ok (.tuple ps)
structure DdF (d : PyData) (x : Str) : Prop where
  w : m_written_deed [d] = .ok (.str (x ++ "\n"))
  l : m__law_line [d] = .ok (.str x)
  r : m_deed_in [.str x] = .ok d
  ch : chOk 32 126 x
  le : x.length <= 1000
theorem Beh.dd {p : IdP} {w : Str} {xs : List Str} {ps : List PyData} (h : Beh p w xs ps) : DdF (.tuple (.str w :: idP p :: ps)) (idS p ++ " " ++ (w ++ " " ++ Str.join " " xs)) := by
  obtain ⟨j1, j2, j3⟩ := join_wd xs h.wx
  have hxl := h.xl
  have hwl := h.wl
  have ej : Str.join " " (idS p :: w :: xs) = idS p ++ " " ++ (w ++ " " ++ Str.join " " xs) := by
    cases e : xs with
    | nil => exact absurd e h.xn
    | cons x r => rfl
  have ws : ∀ x ∈ idS p :: w :: xs, Wd x := fun x hx => by
    rcases List.mem_cons.mp hx with rfl | hx
    . exact ids_wd h.ok
    . rcases List.mem_cons.mp hx with rfl | hx
      . exact h.ww
      . exact h.wx x hx
  obtain ⟨i1, i2, i3⟩ := join_wd _ ws
  rw [ej] at i1 i2
  have il : (idS p ++ " " ++ (w ++ " " ++ Str.join " " xs)).length <= 900 := Nat.le_trans i2 (by simp only [List.length_cons]; omega)
  have jt : Tx 900 (Str.join " " xs) := ch_tx j1 (by omega)
  have e1 : (" " : Str).length = 1 := rfl
  have kt : Tx 910 (w ++ " " ++ Str.join " " xs) := ch_tx ((h.ww.ch.app sp_ch).app j1) (by rw [app_len, app_len]; have := jt.le; omega)
  refine ⟨fn_rt (sRet_ok ?_), h.l, ?_, i1, by omega⟩
  . refine b2_ok (vJoin_ok (b2_ok (vLst_ok (aCons_ok (vCall_ok (aCons_ok (b2_ok rfl rfl (dIdx1 _ _ _)) rfl) (wid_ok h.ok)) (aCons_ok (b2_ok rfl rfl (ix0 _ _)) rfl))) (vCall_ok (aCons_ok rfl rfl) h.wd) (addL (by rw [List.length_map]; show 2 + _ <= _; omega))) ?_) rfl ((ch_tx i1 il).add (m := 1) (y := "\n") (txN (by decide) (by decide)) (by decide))
    have := join_sp (xs := idS p :: w :: xs) ws (by simp only [List.length_cons]; omega)
    rw [ej] at this
    exact this
  . refine fn_rt ?_
    unfold sem_deed_in
    have p1 : vPart (vVar 0) (vC (.str " ")) (startD N_deed_in [.str (idS p ++ " " ++ (w ++ " " ++ Str.join " " xs))]) = .ok (.tuple [.str (idS p), .str " ", .str (w ++ " " ++ Str.join " " xs)]) := part_ok (c := 32) rfl rfl (fun z => by have := ids_ch h.ok 32 z; omega) (ch_tx i1 il) (by decide)
    rw [sSeq_nx (sSet_ok p1)]
    have p2 : vPart (b2 (vVar 1) (vC (.int 2)) dIx) (vC (.str " ")) ((startD N_deed_in [.str (idS p ++ " " ++ (w ++ " " ++ Str.join " " xs))]).set 1 (.sh (.tuple [.str (idS p), .str " ", .str (w ++ " " ++ Str.join " " xs)]))) = .ok (.tuple [.str w, .str " ", .str (Str.join " " xs)]) := part_ok (c := 32) (b2_ok rfl rfl (dIdx2 _ _ _ _)) rfl h.w32 kt (by decide)
    rw [sSeq_nx (sSet_ok p2)]
    exact sRet_ok (b2_ok (vTup_ok (aCons_ok (b2_ok rfl rfl (ix0 _ _)) (aCons_ok (vCall_ok (aCons_ok (b2_ok rfl rfl (ix0 _ _)) rfl) (idin_ok h.ok)) rfl))) (vCall_ok (aCons_ok (b2_ok rfl rfl (ix0 _ _)) (aCons_ok (b2_ok rfl rfl (dIdx2 _ _ _ _)) rfl)) h.r) (addT (by have := h.pl; show 2 + _ <= _; omega)))
theorem spT : Tx 1 " " := txN (by decide) (by decide)
theorem SgF.wd {s : PyData} {y : Str} (h : SgF s y) : Wd y := ⟨fun c hc => ⟨by have := h.fr c hc; omega, (h.tx.ch c hc).2⟩, by have := h.tx.le; omega⟩
theorem AnF.wd {s : PyData} {e y z : Str} (h : AnF s e y z) : Wd (y ++ z) := ⟨fun c hc => ⟨by have := h.fr c hc; omega, ((h.tx.app h.tz).ch c hc).2⟩, by have := (h.tx.app h.tz).le; omega⟩
theorem nmOk.wd {n : Str} (h : nmOk n) : Wd n := ⟨fun c hc => by have := h.2.2 c hc; omega, by have := h.2.1; omega⟩
theorem wdOk.wd {n : Str} (h : wdOk n) : Wd n := ⟨h.2.2, by have := h.2.1; omega⟩
theorem Wd.tx {n : Str} (h : Wd n) : Tx 20 n := ch_tx h.ch h.le
theorem wdC {x : Str} (h : x.cps.toList.all (fun c => decide (32 <= c /\ c <= 126)) = true) (hl : x.length <= 20) : Wd x := ⟨fun c hc => by have := List.all_eq_true.mp h c hc; simpa using this, hl⟩
theorem split_sp {xs : List Str} (h : xs ≠ []) (h2 : ∀ x ∈ xs, 32 ∉ tl x) : Txt.split (Str.join " " xs) " " = xs := split_join (c := 32) xs h h2
theorem pin0 {w z : Str} (hz : Tx 1000 z) : sx_parts_in_0 (startD N_parts_in [.str w, .str z]) = .nx [.sh (.str w), .sh (.str z), .sh (.list ((Txt.split z " ").map .str)), .un] :=
  sSet_ok (f := vSplit (vVar 1) (vC (.str " "))) (splitv_ok (c := 32) rfl rfl hz (by decide))
theorem eqW {f : Dn -> Res PyData} {δ : Dn} {x : Str} (h : f δ = .ok (.str x)) : cVal (b2 f (vC (.str x)) dEq) δ = .ok true := cVal_ok (b2_ok h rfl eqS')
theorem neW {f : Dn -> Res PyData} {δ : Dn} {x y : Str} (h : f δ = .ok (.str x)) (k : (x == y) = false) : cVal (b2 f (vC (.str y)) dEq) δ = .ok false := cVal_ok (b2_ok h rfl (neS k))
theorem beh_add {p : IdP} (o : okI p) {b : PyData} {y w : Str} (hb : SgF b y) (hw : wdOk w) : Beh p "add" [y, w] [b, .str w] where
  ok := o
  ww := wdC (by decide) (by decide)
  wl := by decide
  w32 := by decide
  wx := fun x hx => by
    simp only [List.mem_cons, List.not_mem_nil, or_false] at hx
    rcases hx with rfl | rfl
    . exact hb.wd
    . exact hw.wd
  xl := by simp
  xn := by simp
  pl := by simp
  wd := by
    refine fn_rt ?_
    unfold sem_words_behind sx_words_behind_0
    refine sSeq_rt ((sIf_t (eqW (b2_ok rfl rfl (ix0 _ _)))).trans ?_)
    exact sRet_ok (vLst_ok (aCons_ok (vCall_ok (aCons_ok (b2_ok rfl rfl (dIdx2 _ _ _ _)) rfl) hb.w) (aCons_ok (b2_ok rfl rfl (dIdx3 _ _ _ _ _)) rfl)))
  l := by
    have e : idS p ++ " " ++ ("add" ++ " " ++ Str.join " " [y, w]) = idS p ++ " " ++ "add" ++ " " ++ y ++ " " ++ w := by
      show idS p ++ " " ++ ("add" ++ " " ++ (y ++ " " ++ w)) = _
      simp only [Str.append_assoc]
    rw [e]
    refine fn_rt ?_
    have t1 := (ids_tx o).app spT
    have aT : Tx 3 "add" := txN (by decide) (by decide)
    have t2 := t1.app aT
    unfold sem__law_line sx__law_line_0 sx__law_line_1
    rw [sSeq_nx (sSet_ok (b2_ok (b2_ok (vCall_ok (aCons_ok (b2_ok rfl rfl (dIdx1 _ _ _)) rfl) (lid_ok o)) rfl ((ids_tx o).add spT (by decide))) (b2_ok rfl rfl (ix0 _ _)) (t1.add aT (by decide))))]
    refine sSeq_rt ((sIf_t (eqW (b2_ok rfl rfl (ix0 _ _)))).trans ?_)
    exact sRet_ok (b2_ok (b2_ok (b2_ok (b2_ok rfl rfl (t2.add spT (by decide))) (vCall_ok (aCons_ok (b2_ok rfl rfl (dIdx2 _ _ _ _)) rfl) hb.l) ((t2.app spT).add hb.tx (by decide))) rfl (((t2.app spT).app hb.tx).add spT (by decide))) (b2_ok rfl rfl (dIdx3 _ _ _ _ _)) ((((t2.app spT).app hb.tx).app spT).add hw.wd.tx (by decide)))
  r := by
    refine fn_rt ?_
    have tz : Tx 1000 (Str.join " " [y, w]) := ((hb.tx.app spT).app hw.wd.tx).mono (by decide)
    unfold sem_parts_in sx_parts_in_1
    rw [sSeq_nx (pin0 tz)]
    refine sSeq_rt ((sIf_t (eqW rfl)).trans ?_)
    have hp : vPart (vVar 1) (vC (.str " ")) [.sh (.str "add"), .sh (.str (Str.join " " [y, w])), .sh (.list ((Txt.split (Str.join " " [y, w]) " ").map .str)), .un] = .ok (.tuple [.str y, .str " ", .str w]) :=
      part_ok (c := 32) (u := y) (v := w) rfl rfl (fun z => by have := hb.fr 32 z; omega) tz (by decide)
    rw [sSeq_nx (sSet_ok hp)]
    exact sRet_ok (vTup_ok (aCons_ok (vCall_ok (aCons_ok (b2_ok rfl rfl (ix0 _ _)) rfl) hb.r) (aCons_ok (b2_ok rfl rfl (dIdx2 _ _ _ _)) rfl)))
theorem beh_undo {p q : IdP} (o : okI p) (oq : okI q) : Beh p "undo" [idS q] [idP q] where
  ok := o
  ww := wdC (by decide) (by decide)
  wl := by decide
  w32 := by decide
  wx := fun x hx => by
    rw [List.mem_singleton.mp hx]; exact ids_wd oq
  xl := by simp
  xn := by simp
  pl := by simp
  wd := by
    refine fn_rt ?_
    unfold sem_words_behind sx_words_behind_0 sx_words_behind_1 sx_words_behind_2 sx_words_behind_3 sx_words_behind_4
    rw [sSeq_if_f (neW (b2_ok rfl rfl (ix0 _ _)) k8), sSeq_if_f (neW (b2_ok rfl rfl (ix0 _ _)) k11), sSeq_if_f (neW (b2_ok rfl rfl (ix0 _ _)) k13), sSeq_if_f (neW (b2_ok rfl rfl (ix0 _ _)) k14)]
    exact sRet_ok (vLst_ok (aCons_ok (vCall_ok (aCons_ok (b2_ok rfl rfl (dIdx2 _ _ _ _)) rfl) (wid_ok oq)) rfl))
  l := by
    have e : idS p ++ " " ++ ("undo" ++ " " ++ Str.join " " [idS q]) = idS p ++ " " ++ "undo" ++ " " ++ idS q := by
      show idS p ++ " " ++ ("undo" ++ " " ++ idS q) = _
      simp only [Str.append_assoc]
    rw [e]
    refine fn_rt ?_
    have t1 := (ids_tx o).app spT
    have aT : Tx 4 "undo" := txN (by decide) (by decide)
    have t2 := t1.app aT
    unfold sem__law_line sx__law_line_0 sx__law_line_1 sx__law_line_2 sx__law_line_3
    rw [sSeq_nx (sSet_ok (b2_ok (b2_ok (vCall_ok (aCons_ok (b2_ok rfl rfl (dIdx1 _ _ _)) rfl) (lid_ok o)) rfl ((ids_tx o).add spT (by decide))) (b2_ok rfl rfl (ix0 _ _)) (t1.add aT (by decide)))),
      sSeq_if_f (neW (b2_ok rfl rfl (ix0 _ _)) k8), sSeq_if_f (neW (b2_ok rfl rfl (ix0 _ _)) k11)]
    refine sSeq_rt ((sIf_t (eqW (b2_ok rfl rfl (ix0 _ _)))).trans ?_)
    exact sRet_ok (b2_ok (b2_ok rfl rfl (t2.add spT (by decide))) (vCall_ok (aCons_ok (b2_ok rfl rfl (dIdx2 _ _ _ _)) rfl) (lid_ok oq)) ((t2.app spT).add (ids_tx oq) (by decide)))
  r := by
    refine fn_rt ?_
    have tz : Tx 1000 (Str.join " " [idS q]) := (ids_tx oq).mono (by decide)
    unfold sem_parts_in sx_parts_in_1 sx_parts_in_2 sx_parts_in_3 sx_parts_in_4 sx_parts_in_5
    rw [sSeq_nx (pin0 tz), sSeq_if_f (neW rfl k8), sSeq_if_f (neW rfl k11), sSeq_if_f (show _ = Res.ok false by unfold cAnd; rw [neW rfl k13]; rfl), sSeq_if_f (neW rfl k14)]
    refine sSeq_rt ((sIf_t (eqW rfl)).trans ?_)
    exact sRet_ok (vTup_ok (aCons_ok (vCall_ok (aCons_ok rfl rfl) (idin_ok oq)) rfl))
theorem beh_unmark {p : IdP} (o : okI p) {n : Str} (hn : nmOk n) : Beh p "unmark" [n] [.str n] where
  ok := o
  ww := wdC (by decide) (by decide)
  wl := by decide
  w32 := by decide
  wx := fun x hx => by
    rw [List.mem_singleton.mp hx]; exact hn.wd
  xl := by simp
  xn := by simp
  pl := by simp
  wd := by
    refine fn_rt ?_
    unfold sem_words_behind sx_words_behind_0 sx_words_behind_1 sx_words_behind_2 sx_words_behind_3 sx_words_behind_4
    rw [sSeq_if_f (neW (b2_ok rfl rfl (ix0 _ _)) k7), sSeq_if_f (neW (b2_ok rfl rfl (ix0 _ _)) k10), sSeq_if_f (neW (b2_ok rfl rfl (ix0 _ _)) k12)]
    refine sSeq_rt ((sIf_t (eqW (b2_ok rfl rfl (ix0 _ _)))).trans ?_)
    exact sRet_ok (vLst_ok (aCons_ok (b2_ok rfl rfl (dIdx2 _ _ _ _)) rfl))
  l := by
    have e : idS p ++ " " ++ ("unmark" ++ " " ++ Str.join " " [n]) = idS p ++ " " ++ "unmark" ++ " " ++ n := by
      show idS p ++ " " ++ ("unmark" ++ " " ++ n) = _
      simp only [Str.append_assoc]
    rw [e]
    refine fn_rt ?_
    have t1 := (ids_tx o).app spT
    have aT : Tx 6 "unmark" := txN (by decide) (by decide)
    have t2 := t1.app aT
    unfold sem__law_line sx__law_line_0 sx__law_line_1 sx__law_line_2 sx__law_line_3 sx__law_line_4 sx__law_line_5 sx__law_line_6
    rw [sSeq_nx (sSet_ok (b2_ok (b2_ok (vCall_ok (aCons_ok (b2_ok rfl rfl (dIdx1 _ _ _)) rfl) (lid_ok o)) rfl ((ids_tx o).add spT (by decide))) (b2_ok rfl rfl (ix0 _ _)) (t1.add aT (by decide)))),
      sSeq_if_f (neW (b2_ok rfl rfl (ix0 _ _)) k7), sSeq_if_f (neW (b2_ok rfl rfl (ix0 _ _)) k10), sSeq_if_f (neW (b2_ok rfl rfl (ix0 _ _)) k4),
      sSeq_nx (sSet_ok (b2_ok (b2_ok rfl rfl (t2.add spT (by decide))) (b2_ok rfl rfl (dIdx2 _ _ _ _)) ((t2.app spT).add hn.wd.tx (by decide))))]
    exact Eq.trans (sSeq_nx (δ' := [.sh (.tuple [.str "unmark", idP p, .str n]), .sh (.str (idS p ++ " " ++ "unmark" ++ " " ++ n)), .un]) rfl) (sRet_ok rfl)
  r := by
    refine fn_rt ?_
    have tz : Tx 1000 (Str.join " " [n]) := hn.wd.tx.mono (by decide)
    unfold sem_parts_in sx_parts_in_1 sx_parts_in_2 sx_parts_in_3 sx_parts_in_4
    rw [sSeq_nx (pin0 tz), sSeq_if_f (neW rfl k7), sSeq_if_f (neW rfl k10), sSeq_if_f (show _ = Res.ok false by unfold cAnd; rw [neW rfl k12]; rfl)]
    refine sSeq_rt ((sIf_t (eqW rfl)).trans ?_)
    exact sRet_ok (vTup_ok (aCons_ok rfl rfl))
noncomputable abbrev bodyN : Dn -> Out := (sSet 1 (b2 (b2 (b2 (vVar 1) (vC (.str " ")) dAdd) (vCall (aCons (b2 (vVar 2) (vC (.int 0)) dIx) aNil) m__law_sign_text) dAdd) (b2 (vC (.str "<>")) (vFn (aCons (b2 (b2 (vVar 2) (vC (.int 1)) dIx) (vC (.str "r")) dEq) aNil) dIntF) dIx) dAdd))
theorem bodyN_ok {D s : PyData} {f e y z : Str} {m : Nat} (hf : Tx m f) (hm : m <= 1000) (h : AnF s e y z) : bodyN [.sh D, .sh (.str f), .sh (.tuple [s, .str e])] = .nx [.sh D, .sh (.str (f ++ " " ++ y ++ z)), .sh (.tuple [s, .str e])] := by
  obtain ⟨b, hb, hi⟩ := h.i
  exact sSet_ok (b2_ok (b2_ok (b2_ok rfl rfl (hf.add spT (by omega))) (vCall_ok (aCons_ok (b2_ok rfl rfl (ix0 _ _)) rfl) h.l) ((hf.app spT).add h.tx (by omega))) (b2_ok rfl (vFn_ok (aCons_ok (b2_ok (b2_ok rfl rfl (dIdx1 _ _ _)) rfl hb) rfl) rfl) hi) (((hf.app spT).app h.tx).add h.tz (by omega)))
theorem beh_mark {p : IdP} (o : okI p) {n : Str} (hn : nmOk n) {s1 s2 : PyData} {e1 e2 y1 z1 y2 z2 : Str} (h1 : AnF s1 e1 y1 z1) (h2 : AnF s2 e2 y2 z2) : Beh p "mark" [n, y1 ++ z1, y2 ++ z2] [.str n, .tuple [s1, .str e1], .tuple [s2, .str e2]] where
  ok := o
  ww := wdC (by decide) (by decide)
  wl := by decide
  w32 := by decide
  wx := fun x hx => by
    simp only [List.mem_cons, List.not_mem_nil, or_false] at hx
    rcases hx with rfl | rfl | rfl
    . exact hn.wd
    . exact h1.wd
    . exact h2.wd
  xl := by simp
  xn := by simp
  pl := by simp
  wd := by
    refine fn_rt ?_
    unfold sem_words_behind sx_words_behind_0 sx_words_behind_1 sx_words_behind_2
    rw [sSeq_if_f (neW (b2_ok rfl rfl (ix0 _ _)) k6), sSeq_if_f (neW (b2_ok rfl rfl (ix0 _ _)) k9)]
    refine sSeq_rt ((sIf_t (eqW (b2_ok rfl rfl (ix0 _ _)))).trans ?_)
    exact sRet_ok (vLst_ok (aCons_ok (b2_ok rfl rfl (dIdx2 _ _ _ _)) (aCons_ok (vCall_ok (aCons_ok (b2_ok rfl rfl (dIdx3 _ _ _ _ _)) rfl) h1.w) (aCons_ok (vCall_ok (aCons_ok (b2_ok rfl rfl (dIdx4 _ _ _ _ _ _)) rfl) h2.w) rfl))))
  l := by
    have e : idS p ++ " " ++ ("mark" ++ " " ++ Str.join " " [n, y1 ++ z1, y2 ++ z2]) = idS p ++ " " ++ "mark" ++ " " ++ n ++ " " ++ y1 ++ z1 ++ " " ++ y2 ++ z2 := by
      show idS p ++ " " ++ ("mark" ++ " " ++ (n ++ " " ++ (y1 ++ z1 ++ " " ++ (y2 ++ z2)))) = _
      simp only [Str.append_assoc]
    rw [e]
    refine fn_rt ?_
    have t1 := (ids_tx o).app spT
    have aT : Tx 4 "mark" := txN (by decide) (by decide)
    have t2 := t1.app aT
    have t3 := (t2.app spT).app hn.wd.tx
    have t4 := ((t3.app spT).app h1.tx).app h1.tz
    unfold sem__law_line sx__law_line_0 sx__law_line_1 sx__law_line_2 sx__law_line_3 sx__law_line_4 sx__law_line_5 sx__law_line_6
    rw [sSeq_nx (sSet_ok (b2_ok (b2_ok (vCall_ok (aCons_ok (b2_ok rfl rfl (dIdx1 _ _ _)) rfl) (lid_ok o)) rfl ((ids_tx o).add spT (by decide))) (b2_ok rfl rfl (ix0 _ _)) (t1.add aT (by decide)))),
      sSeq_if_f (neW (b2_ok rfl rfl (ix0 _ _)) k6), sSeq_if_f (neW (b2_ok rfl rfl (ix0 _ _)) k9), sSeq_if_f (neW (b2_ok rfl rfl (ix0 _ _)) k3),
      sSeq_nx (sSet_ok (b2_ok (b2_ok rfl rfl (t2.add spT (by decide))) (b2_ok rfl rfl (dIdx2 _ _ _ _)) ((t2.app spT).add hn.wd.tx (by decide))))]
    generalize hD : PyData.tuple [.str "mark", idP p, .str n, .tuple [s1, .str e1], .tuple [s2, .str e2]] = D
    refine Eq.trans (sSeq_nx (δ' := [.sh D, .sh (.str (idS p ++ " " ++ "mark" ++ " " ++ n ++ " " ++ y1 ++ z1 ++ " " ++ y2 ++ z2)), .sh (.tuple [s2, .str e2])]) ?_) (sRet_ok rfl)
    have hc : ((vSl (vVar 0) (oSome (vC (.int 3))) oNone) [.sh D, .sh (.str (idS p ++ " " ++ "mark" ++ " " ++ n)), .un]).bind seqOf = .ok [.tuple [s1, .str e1], .tuple [s2, .str e2]] := by rw [← hD]; rfl
    show thenS (((vSl (vVar 0) (oSome (vC (.int 3))) oNone) [.sh D, .sh (.str (idS p ++ " " ++ "mark" ++ " " ++ n)), .un]).bind seqOf) (fun ds => runFor (st1 2) bodyN ds [.sh D, .sh (.str (idS p ++ " " ++ "mark" ++ " " ++ n)), .un]) = _
    rw [hc, thenS_ok]
    unfold runFor
    simp only [st1, List.set_cons_zero, List.set_cons_succ]
    rw [bodyN_ok t3 (by decide) h1]
    dsimp only
    unfold runFor
    simp only [st1, List.set_cons_zero, List.set_cons_succ]
    rw [bodyN_ok t4 (by decide) h2]
    rfl
  r := by
    refine fn_rt ?_
    have f32 : ∀ x ∈ [n, y1 ++ z1, y2 ++ z2], 32 ∉ tl x := fun x hx hc => by
      simp only [List.mem_cons, List.not_mem_nil, or_false] at hx
      rcases hx with rfl | rfl | rfl
      . have := hn.2.2 32 hc; omega
      . have := h1.fr 32 hc; omega
      . have := h2.fr 32 hc; omega
    have tz : Tx 1000 (Str.join " " [n, y1 ++ z1, y2 ++ z2]) := ((hn.wd.tx.app spT).app ((h1.wd.tx.app spT).app h2.wd.tx)).mono (by decide)
    unfold sem_parts_in sx_parts_in_1 sx_parts_in_2 sx_parts_in_3
    rw [sSeq_nx (pin0 tz), split_sp (by simp) f32, sSeq_if_f (neW rfl k6), sSeq_if_f (neW rfl k9)]
    refine sSeq_rt ((sIf_t (show _ = Res.ok true by unfold cAnd; rw [eqW rfl]; rfl)).trans ?_)
    exact sRet_ok (vTup_ok (aCons_ok (b2_ok rfl rfl (show _ = some (PyData.str n) from rfl)) (aCons_ok (vCall_ok (aCons_ok (b2_ok rfl rfl (show _ = some (PyData.str (y1 ++ z1)) from rfl)) rfl) h1.r) (aCons_ok (vCall_ok (aCons_ok (b2_ok rfl rfl (show _ = some (PyData.str (y2 ++ z2)) from rfl)) rfl) h2.r) rfl))))
theorem sgs_of {S : PyData -> Prop} (hS : SgN S) : ∀ sg : List PyData, (∀ s ∈ sg, S s) -> ∃ ys : List Str, ys.length = sg.length /\
    compRun bind1 [] cTrue (vCall (aCons (vVar 0) aNil) m_written_sign) sg = .ok (ys.map .str) /\
    compRun bind1 [] cTrue (b2 (vC (.str " ")) (vCall (aCons (vVar 0) aNil) m__law_sign_text) dAdd) sg = .ok ((ys.map fun y : Str => (" " : Str) ++ y).map .str) /\
    compRun bind1 [] cTrue (vCall (aCons (vVar 0) aNil) m_sign_in) (ys.map .str) = .ok sg /\ ∀ y ∈ ys, ∃ s, SgF s y
  | [], _ => ⟨[], rfl, rfl, rfl, rfl, fun _ h => nomatch h⟩
  | s :: sg, h => by
    obtain ⟨ys, h1, h2, h3, h4, h5⟩ := sgs_of hS sg fun x hx => h x (.tail _ hx)
    obtain ⟨y, hy⟩ := sgf_of hS (.inr (h s (.head _)))
    have a1 : (vCall (aCons (vVar 0) aNil) m_written_sign) ([.sh s] ++ []) = .ok (.str y) := vCall_ok (aCons_ok rfl rfl) hy.w
    have a2 : (b2 (vC (.str " ")) (vCall (aCons (vVar 0) aNil) m__law_sign_text) dAdd) ([.sh s] ++ []) = .ok (.str (" " ++ y)) := b2_ok rfl (vCall_ok (aCons_ok rfl rfl) hy.l) (spT.add hy.tx (by decide))
    have a3 : (vCall (aCons (vVar 0) aNil) m_sign_in) ([.sh (.str y)] ++ []) = .ok s := vCall_ok (aCons_ok rfl rfl) hy.r
    refine ⟨y :: ys, by simp [h1], ?_, ?_, ?_, fun x hx => ?_⟩
    . unfold compRun; simp only [bind1, cTrue, a1, h2, List.map_cons]
    . unfold compRun; simp only [bind1, cTrue, a2, h3, List.map_cons]
    . rw [List.map_cons]; unfold compRun; simp only [bind1, cTrue, a3, h4]
    . rcases List.mem_cons.mp hx with rfl | hx
      . exact ⟨s, hy⟩
      . exact h5 x hx
theorem app_nil (x : Str) : x ++ "" = x := tl_ext (by rw [tl_app]; show tl x ++ [] = _; rw [List.append_nil])
theorem join_e {m : Nat} : ∀ (zs : List Str), (∀ z ∈ zs, Tx m z) -> Tx (m * zs.length) (Str.join "" zs) /\ (zs.map (·.length)).sum <= m * zs.length
  | [], _ => ⟨⟨chOk.nil, Nat.le_refl _⟩, Nat.le_refl _⟩
  | [x], h => ⟨by have := h x (.head _); rw [List.length_singleton, Nat.mul_one]; exact this, by have := (h x (.head _)).le; simpa using this⟩
  | x :: y :: r, h => by
    obtain ⟨h1, h2⟩ := join_e (y :: r) fun z hz => h z (.tail _ hz)
    have hx := h x (.head _)
    have e : m * (x :: y :: r).length = m + m * (y :: r).length := by rw [List.length_cons (a := x), Nat.mul_succ]; omega
    refine ⟨?_, ?_⟩
    . show Tx _ (x ++ "" ++ Str.join "" (y :: r))
      rw [app_nil, e]
      exact hx.app h1
    . rw [e]
      have := hx.le
      rw [List.map_cons, List.sum_cons]; omega
theorem joinE_ok {m : Nat} {zs : List Str} (h : ∀ z ∈ zs, Tx m z) (hl : m * zs.length <= 100000) : dJoin "" (.list (zs.map .str)) = some (.str (Str.join "" zs)) := by
  obtain ⟨h1, h2⟩ := join_e zs h
  show (strsOf (zs.map PyData.str)).bind _ = _
  rw [strs_map]
  show (if _ then _ else _) = _
  have e : ("" : Str).length = 0 := rfl
  rw [if_pos ⟨by rw [e]; omega, okS_str (h1.ok hl), Nat.le_trans (Nat.le_trans h1.le hl) (by decide)⟩]
theorem join_two : ∀ ys : List Str, ys ≠ [] -> Str.join "" (ys.map fun y : Str => (" " : Str) ++ y) = " " ++ Str.join " " ys
  | [], h => absurd rfl h
  | [y], _ => rfl
  | y :: z :: r, _ => by
    have ih := join_two (z :: r) (by simp)
    show (" " ++ y) ++ "" ++ Str.join "" ((z :: r).map fun y : Str => (" " : Str) ++ y) = " " ++ (y ++ " " ++ Str.join " " (z :: r))
    rw [ih, app_nil]
    simp only [Str.append_assoc]
theorem beh_drop {p : IdP} (o : okI p) {S : PyData -> Prop} (hS : SgN S) {sg : List PyData} (hsg : ∀ s ∈ sg, S s) (hl : sg.length <= 40) (hne : sg ≠ []) : ∃ ys, Beh p "drop" ys [.tuple sg] := by
  obtain ⟨ys, y1, y2, y3, y4, y5⟩ := sgs_of hS sg hsg
  have yne : ys ≠ [] := fun z => hne (by rw [z] at y1; exact List.length_eq_zero_iff.mp y1.symm)
  have wx : ∀ x ∈ ys, Wd x := fun x hx => by obtain ⟨s, h⟩ := y5 x hx; exact h.wd
  obtain ⟨j1, j2, j3⟩ := join_wd ys wx
  have jt : Tx 1000 (Str.join " " ys) := ch_tx j1 (by omega)
  refine ⟨ys, { ok := o, ww := wdC (by decide) (by decide), wl := by decide, w32 := by decide, wx := wx, xl := by omega, xn := yne, pl := by simp, wd := ?_, l := ?_, r := ?_ }⟩
  . refine fn_rt ?_
    unfold sem_words_behind sx_words_behind_0 sx_words_behind_1
    rw [sSeq_if_f (neW (b2_ok rfl rfl (ix0 _ _)) k5)]
    refine sSeq_rt ((sIf_t (eqW (b2_ok rfl rfl (ix0 _ _)))).trans ?_)
    exact sRet_ok (vLst_ok (lComp_ok (src_seq (b2_ok rfl rfl (dIdx2 _ _ _ _)) rfl) (by omega) rfl y2))
  . have e : idS p ++ " " ++ ("drop" ++ " " ++ Str.join " " ys) = idS p ++ " " ++ "drop" ++ Str.join "" (ys.map fun y : Str => (" " : Str) ++ y) := by
      rw [join_two ys yne]
      simp only [Str.append_assoc]
    rw [e]
    refine fn_rt ?_
    have t1 := (ids_tx o).app spT
    have aT : Tx 4 "drop" := txN (by decide) (by decide)
    have t2 := t1.app aT
    have zt : ∀ z ∈ ys.map (fun y : Str => (" " : Str) ++ y), Tx 15 z := fun z hz => by
      obtain ⟨y, hy, rfl⟩ := List.mem_map.mp hz
      obtain ⟨s, h⟩ := y5 y hy
      exact spT.app h.tx
    have zl : 15 * (ys.map fun y : Str => (" " : Str) ++ y).length <= 1000 := by rw [List.length_map]; omega
    unfold sem__law_line sx__law_line_0 sx__law_line_1 sx__law_line_2
    rw [sSeq_nx (sSet_ok (b2_ok (b2_ok (vCall_ok (aCons_ok (b2_ok rfl rfl (dIdx1 _ _ _)) rfl) (lid_ok o)) rfl ((ids_tx o).add spT (by decide))) (b2_ok rfl rfl (ix0 _ _)) (t1.add aT (by decide)))),
      sSeq_if_f (neW (b2_ok rfl rfl (ix0 _ _)) k5)]
    refine sSeq_rt ((sIf_t (eqW (b2_ok rfl rfl (ix0 _ _)))).trans ?_)
    exact sRet_ok (b2_ok rfl (vJoin_ok (vLst_ok (lComp_ok (src_seq (b2_ok rfl rfl (dIdx2 _ _ _ _)) rfl) (by omega) rfl y3)) (joinE_ok zt (by omega))) (t2.add (join_e _ zt).1 (by omega)))
  . refine fn_rt ?_
    have f32 : ∀ x ∈ ys, 32 ∉ tl x := fun x hx hc => by
      obtain ⟨s, h⟩ := y5 x hx
      have := h.fr 32 hc; omega
    unfold sem_parts_in sx_parts_in_1 sx_parts_in_2
    rw [sSeq_nx (pin0 jt), split_sp yne f32, sSeq_if_f (neW rfl k5)]
    refine sSeq_rt ((sIf_t (eqW rfl)).trans ?_)
    exact sRet_ok (vTup_ok (aCons_ok (vFn_ok (aCons_ok (vLst_ok (lComp_ok (src_seq (d := .list (ys.map .str)) rfl rfl) (by rw [List.length_map]; omega) rfl y4)) rfl) rfl) rfl))
theorem dd_of {p : IdP} {S : PyData -> Prop} {U : IdP -> Prop} {d : PyData} (hS : SgN S) (hU : ∀ q, U q -> okI q) (h : Wf p S U d) : ∃ x, DdF d x := by
  obtain ⟨o, r⟩ := h
  rcases r with ⟨b, w, rfl, hb, hw⟩ | ⟨sg, rfl, hsg, hl, hne, _⟩ | ⟨n, s1, x1, s2, x2, rfl, h1, h2, hn, l1, l2⟩ | ⟨n, rfl, hn⟩ | ⟨q, rfl, hq⟩
  . obtain ⟨y, hy⟩ := sgf_of hS hb
    exact ⟨_, (beh_add o hy hw).dd⟩
  . obtain ⟨ys, hy⟩ := beh_drop o hS hsg hl hne
    exact ⟨_, hy.dd⟩
  . obtain ⟨y1, z1, a1⟩ := anf_of hS h1 l1
    obtain ⟨y2, z2, a2⟩ := anf_of hS h2 l2
    exact ⟨_, (beh_mark o hn a1 a2).dd⟩
  . exact ⟨_, (beh_unmark o hn).dd⟩
  . exact ⟨_, (beh_undo o (hU q hq)).dd⟩
def Pl (n : Nat) (d : PyData) : Prop := PyData.eqv d d = true /\ d.depth <= n
def Pls (n : Nat) (xs : List PyData) : Prop := PyData.eqvAll xs xs = true /\ PyData.depthAll xs <= n
theorem sS (x : Str) : PyData.eqv (.str x) (.str x) = true := beq_self_eq_true x
theorem Pls.nil {n : Nat} : Pls n [] := ⟨rfl, Nat.zero_le _⟩
theorem Pls.cons {n : Nat} {x : PyData} {xs : List PyData} (h : Pl n x) (t : Pls n xs) : Pls n (x :: xs) := ⟨by rw [PyData.eqvAll, h.1, t.1]; rfl, Nat.max_le.mpr ⟨h.2, t.2⟩⟩
theorem Pl.tup {n : Nat} {xs : List PyData} (h : Pls n xs) : Pl (n + 1) (.tuple xs) := ⟨h.1, Nat.succ_le_succ h.2⟩
theorem Pl.str {n : Nat} (x : Str) : Pl n (.str x) := ⟨sS x, Nat.zero_le _⟩
theorem Pl.int {n : Nat} (i : Int) : Pl n (.int i) := ⟨beq_self_eq_true i, Nat.zero_le _⟩
theorem Pl.id {n : Nat} (p : IdP) : Pl (n + 1) (idP p) := .tup (.cons (.int _) (.cons (.str _) .nil))
theorem Pl.sg {n : Nat} {s : PyData} (h : isSg s) : Pl (n + 2) s := by
  obtain ⟨p, m, rfl⟩ := h.p
  exact .tup (.cons (.id p) (.cons (.int _) .nil))
theorem Pl.sgN {n : Nat} {s : PyData} (h : isSgN s) : Pl (n + 2) s := by
  rcases h with rfl | h
  . exact ⟨rfl, Nat.zero_le _⟩
  . exact .sg h
theorem Pls.sg {n : Nat} : ∀ {sg : List PyData}, (∀ s ∈ sg, isSg s) -> Pls (n + 2) sg
  | [], _ => .nil
  | s :: sg, h => .cons (.sg (h s (.head _))) (Pls.sg fun x hx => h x (.tail _ hx))
theorem dd_eq {p : IdP} {S : PyData -> Prop} {U : IdP -> Prop} {d : PyData} (hS : SgN S) (h : Wf p S U d) : Pl 4 d := by
  obtain ⟨o, r⟩ := h
  have sg1 : ∀ x, S x -> isSg x := fun x hx => by obtain ⟨p, n, e, _⟩ := hS x hx; exact ⟨p, n, e⟩
  have sgN : ∀ {x}, OrN S x -> isSgN x := fun hx => hx.elim .inl fun z => .inr (sg1 _ z)
  rcases r with ⟨b, w, rfl, hb, hw⟩ | ⟨sg, rfl, hsg, hl, hne, _⟩ | ⟨n, s1, x1, s2, x2, rfl, h1, h2, hn, l1, l2⟩ | ⟨n, rfl, hn⟩ | ⟨q, rfl, hq⟩
  . exact .tup (.cons (.str _) (.cons (.id p) (.cons (.sgN (sgN hb)) (.cons (.str _) .nil))))
  . exact .tup (.cons (.str _) (.cons (.id p) (.cons (.tup (.sg fun x hx => sg1 x (hsg x hx))) .nil)))
  . exact .tup (.cons (.str _) (.cons (.id p) (.cons (.str _) (.cons (.tup (.cons (.sgN (sgN h1)) (.cons (.str _) .nil))) (.cons (.tup (.cons (.sgN (sgN h2)) (.cons (.str _) .nil))) .nil)))))
  . exact .tup (.cons (.str _) (.cons (.id p) (.cons (.str _) .nil)))
  . exact .tup (.cons (.str _) (.cons (.id p) (.cons (.id q) .nil)))
theorem sgn_of {L0 : List Dp} (hB : BkW L0) (T : Int) : SgN (SgOf T (L0.map (·.1))) := fun x hx => by
  obtain ⟨p, b, w, n, hm, rfl, hn, _, o⟩ := hx
  refine ⟨p, n, rfl, o, by omega, ?_⟩
  obtain ⟨e, he, ee⟩ := List.mem_map.mp hm
  have hw : wdOk w := by
    obtain ⟨_, r⟩ := hB.1 e he
    have ne : ∀ {x y : Str} {a b : List PyData}, (x == y) = false -> PyData.tuple (.str x :: a) = .tuple (.str y :: b) -> False := fun h z => by
      simp only [PyData.tuple.injEq, List.cons.injEq, PyData.str.injEq] at z
      rw [z.1] at h
      simp at h
    rcases r with ⟨b', w', e', _, hw'⟩ | ⟨_, e', _⟩ | ⟨_, _, _, _, _, e', _⟩ | ⟨_, e', _⟩ | ⟨_, e', _⟩
    . rw [ee] at e'
      simp only [PyData.tuple.injEq, List.cons.injEq, PyData.str.injEq, and_true] at e'
      rw [e'.2.2.2]; exact hw'
    . exact (ne k5 (e'.symm.trans ee)).elim
    . exact (ne k6 (e'.symm.trans ee)).elim
    . exact (ne k7 (e'.symm.trans ee)).elim
    . exact (ne k8 (e'.symm.trans ee)).elim
  have := hw.2.1
  omega
structure DdG (d : PyData) : Prop where
  x : ∃ x, DdF d x
  pl : Pl 4 d
theorem book_dd {L0 : List Dp} (hB : BkW L0) : ∀ d ∈ L0.map (·.1), DdG d := fun d hd => by
  obtain ⟨e, he, rfl⟩ := List.mem_map.mp hd
  have hS := sgn_of hB e.2.1
  exact ⟨dd_of hS (fun q ⟨⟨e', m, hq⟩, _⟩ => by rw [← hq]; exact (hB.1 e' m).1) (hB.1 e he), dd_eq hS (hB.1 e he)⟩
theorem Pls.dd : ∀ {ds : List PyData}, (∀ d ∈ ds, DdG d) -> Pls 4 ds
  | [], _ => .nil
  | d :: ds, h => .cons (h d (.head _)).pl (Pls.dd fun x hx => h x (.tail _ hx))
theorem eq_dd {ds : List PyData} (h : ∀ d ∈ ds, DdG d) : dEq (.tuple ds) (.tuple ds) = some (.bool true) := by
  obtain ⟨e1, e2⟩ := Pl.tup (Pls.dd h)
  unfold dEq
  rw [if_pos (Nat.le_trans (Nat.min_le_left _ _) (Nat.le_trans e2 (by decide))), e1]
theorem nl_tx : Tx 1 "\n" := txN (by decide) (by decide)
theorem lines_of : ∀ ds : List PyData, (∀ d ∈ ds, DdG d) -> ∃ xs : List Str, xs.length = ds.length /\
    compRun bind1 [] cTrue (vCall (aCons (vVar 0) aNil) m_written_deed) ds = .ok ((xs.map fun x : Str => x ++ ("\n" : Str)).map .str) /\
    compRun bind1 [] cTrue (b2 (vCall (aCons (vVar 0) aNil) m__law_line) (vC (.str "\n")) dAdd) ds = .ok ((xs.map fun x : Str => x ++ ("\n" : Str)).map .str) /\
    compRun bind1 [] cTrue (vCall (aCons (vVar 0) aNil) m_deed_in) (xs.map .str) = .ok ds /\ ∀ x ∈ xs, chOk 32 126 x /\ x.length <= 1000
  | [], _ => ⟨[], rfl, rfl, rfl, rfl, fun _ h => nomatch h⟩
  | d :: ds, h => by
    obtain ⟨xs, h1, h2, h3, h4, h5⟩ := lines_of ds fun x hx => h x (.tail _ hx)
    obtain ⟨⟨x, hx⟩, _⟩ := h d (.head _)
    have a1 : (vCall (aCons (vVar 0) aNil) m_written_deed) ([.sh d] ++ []) = .ok (.str (x ++ "\n")) := vCall_ok (aCons_ok rfl rfl) hx.w
    have a2 : (b2 (vCall (aCons (vVar 0) aNil) m__law_line) (vC (.str "\n")) dAdd) ([.sh d] ++ []) = .ok (.str (x ++ "\n")) := b2_ok (vCall_ok (aCons_ok rfl rfl) hx.l) rfl ((ch_tx hx.ch hx.le).add nl_tx (by decide))
    have a3 : (vCall (aCons (vVar 0) aNil) m_deed_in) ([.sh (.str x)] ++ []) = .ok d := vCall_ok (aCons_ok rfl rfl) hx.r
    refine ⟨x :: xs, by simp [h1], ?_, ?_, ?_, fun z hz => ?_⟩
    . unfold compRun; simp only [bind1, cTrue, a1, h2, List.map_cons]
    . unfold compRun; simp only [bind1, cTrue, a2, h3, List.map_cons]
    . rw [List.map_cons]; unfold compRun; simp only [bind1, cTrue, a3, h4]
    . rcases List.mem_cons.mp hz with rfl | hz
      . exact ⟨hx.ch, hx.le⟩
      . exact h5 z hz
theorem split_lines : ∀ xs : List Str, (∀ x ∈ xs, chOk 32 126 x) -> Txt.split (Str.join "" (xs.map fun x : Str => x ++ ("\n" : Str))) "\n" = xs ++ [("" : Str)]
  | [], _ => split_free' (c := 10) (u := "") (by decide)
  | [x], h => by
    have e : Str.join "" ([x].map fun x : Str => x ++ ("\n" : Str)) = x ++ "\n" ++ "" := (app_nil _).symm
    rw [e]
    have := split_cons (c := 10) (u := x) (v := "") fun z => by have := h x (.head _) 10 z; omega
    refine this.trans ?_
    rw [split_free' (c := 10) (u := "") (by decide)]; rfl
  | x :: y :: r, h => by
    have ih := split_lines (y :: r) fun z hz => h z (.tail _ hz)
    show Txt.split ((x ++ "\n") ++ "" ++ Str.join "" ((y :: r).map fun x : Str => x ++ ("\n" : Str))) "\n" = _
    rw [app_nil]
    have := split_cons (c := 10) (u := x) (v := Str.join "" ((y :: r).map fun x : Str => x ++ ("\n" : Str))) fun z => by have := h x (.head _) 10 z; omega
    refine this.trans ?_
    have ih' : Txt.split (Str.join "" ((y :: r).map fun x : Str => x ++ ("\n" : Str))) ⟨#[10]⟩ = (y :: r) ++ [("" : Str)] := ih
    rw [ih']; rfl
theorem cut_init (l : List PyData) (a : PyData) : dCut (.list (l ++ [a])) none (some (-1)) = some (.list l) := by
  show some (PyData.list (cutD (l ++ [a]) none (some (-1)))) = _
  unfold cutD HT.sIx
  have e : (-1 + ((l ++ [a]).length : Int)).toNat = l.length := by simp; omega
  dsimp only
  rw [if_pos (by decide), e, List.drop_zero, Nat.sub_zero, List.take_left]
theorem ne_self (x : Str) : dNe (.str x) (.str x) = some (.bool false) := by
  unfold dNe
  rw [if_pos (Nat.le_trans (Nat.min_le_left _ _) (by simp [PyData.depth])), sS]; rfl
theorem law_of {L : List Ent} (hB : Book L) (hd : ∀ d ∈ L.map (·.1), DdG d) : ∃ t : Str, m_written [tupB L] = .ok (.str t) /\ m_read [.str t] = .ok (tupB L) /\
    ∀ (i : Nat) (δ : Dn), vVar i δ = .ok (tupB L) -> (vJoin "" (vLst (lComp (fun δ => ((vVar i) δ).bind seqOf) bind1 [] cTrue (b2 (vCall (aCons (vVar 0) aNil) m__law_line) (vC (.str "\n")) dAdd)))) δ = .ok (.str t) := by
  have hl := hB.len
  have hll : (L.map (·.1)).length <= 9 := by rw [List.length_map]; exact hl
  obtain ⟨xs, h1, h2, h3, h4, h5⟩ := lines_of _ hd
  have zt : ∀ z ∈ xs.map (fun x : Str => x ++ ("\n" : Str)), Tx 1001 z := fun z hz => by
    obtain ⟨x, hx, rfl⟩ := List.mem_map.mp hz
    exact (ch_tx (h5 x hx).1 (h5 x hx).2).app nl_tx
  have zl : 1001 * (xs.map fun x : Str => x ++ ("\n" : Str)).length <= 9009 := by rw [List.length_map]; omega
  have hw : m_written [tupB L] = .ok (.str (Str.join "" (xs.map fun x : Str => x ++ ("\n" : Str)))) :=
    fn_rt (sRet_ok (vJoin_ok (vLst_ok (lComp_ok (src_seq (d := tupB L) rfl rfl) (by omega) rfl h2)) (joinE_ok zt (by omega))))
  have ht : Tx 9009 (Str.join "" (xs.map fun x : Str => x ++ ("\n" : Str))) := (join_e _ zt).1.mono zl
  have hs := split_lines xs fun x hx => (h5 x hx).1
  refine ⟨_, hw, ?_, fun i δ hi => vJoin_ok (vLst_ok (lComp_ok (src_seq hi rfl) (by omega) rfl h3)) (joinE_ok zt (by omega))⟩
  generalize Str.join "" (xs.map fun x : Str => x ++ ("\n" : Str)) = t at *
  refine fn_rt ?_
  unfold sem_read
  have sp : vSplit (vVar 0) (vC (.str "\n")) (startD N_read [.str t]) = .ok (.list ((xs ++ [("" : Str)]).map .str)) := by
    rw [splitv_ok (c := 10) (z := t) rfl rfl ht (by decide)]
    exact congrArg (fun z : List Str => Res.ok (PyData.list (z.map .str))) hs
  have sl : vSl (vSplit (vVar 0) (vC (.str "\n"))) oNone (oSome (b1 (vC (.int 1)) dNeg)) (startD N_read [.str t]) = .ok (.list (xs.map .str)) := by
    unfold vSl
    rw [sp, ok_bind]
    show ofO (dCut (.list ((xs ++ [("" : Str)]).map .str)) none (some (-1))) = _
    rw [List.map_append]
    show ofO (dCut (.list (xs.map .str ++ [.str ""])) none (some (-1))) = _
    rw [cut_init]; rfl
  rw [sSeq_nx (sSet_ok (vFn_ok (aCons_ok (vLst_ok (lComp_ok (src_seq sl rfl) (by rw [List.length_map]; omega) rfl h4)) rfl) rfl))]
  rw [sSeq_if_f (cOr_ff (cNot_t (vCall_ok (aCons_ok rfl rfl) (isbook_ok hB))) (cVal_ok (b2_ok (vCall_ok (aCons_ok rfl rfl) hw) rfl (ne_self t))))]
  exact sRet_ok rfl
theorem pure_law (ns : List Int) (hns : ns.length <= 63) : m_law [.list (ns.map PyData.int)] = .ok (.bool true) := by
  obtain ⟨x, y, z, hxyz, en⟩ := names_ok ns hns 0
  obtain ⟨L, eb, hB, L0, hB0, eL⟩ := book_book ns hns x y z hxyz
  have hd : ∀ d ∈ L.map (·.1), DdG d := by rw [← eL]; exact book_dd hB0
  obtain ⟨t, hw, hr, hj⟩ := law_of hB hd
  refine fn_rt ?_
  unfold sem_law sx_law_0 sx_law_1 sx_law_2
  rw [sSeq_nx (sSet_ok (vCall_ok (aCons_ok rfl (aCons_ok rfl (aCons_ok rfl (aCons_ok (vCall_ok (aCons_ok rfl (aCons_ok rfl rfl)) en) rfl)))) eb)), sSeq_nx (sSet_ok (vCall_ok (aCons_ok rfl rfl) hw))]
  exact sRet_ok (vAnd_tt (b2_ok rfl (hj 1 _ rfl) eqS') (b2_ok (vCall_ok (aCons_ok rfl rfl) hr) rfl (eq_dd hd)))
end Sm
end
set_option maxRecDepth 100000 in
set_option maxHeartbeats 0 in
theorem PySem.Challenge.cw_staymark_k80_written_holds : PySem.Challenge.rw_staymark_k80_written.Holds := by
  w_on; o_law; k_head; (case hw => w_witness2)
  k_fill
  refine Sm.walkD (l := PySem.Challenge.rw_staymark_k80_written) rfl rfl rfl (fun w h Y => PySem.W.kIn_of Y) (fun w => ?hK) ?F Sm.pure_law
  case hK => kernel_rfl
  case F =>
    intro w mg h KX G
    refine' ⟨⟨?b0, ?b1, ?b2, ?b3, ?b4, ?b5, ?b6, ?b7, ?b8, ?b9, ?b10, ?c0, ?c1, ?c2, ?c3, ?c4, ?c5, ?c6⟩, ⟨?d44, ?d0, ?d1, ?d2, ?d3, ?d4, ?d5, ?d6, ?d7, ?d8, ?d9, ?d10, ?d11, ?d12, ?d13, ?d14, ?d15, ?d16, ?d17, ?d18, ?d19, ?d20, ?d21, ?d22, ?d23, ?d24, ?d25, ?d26, ?d27, ?d28, ?d29, ?d30, ?d31, ?d32, ?d33, ?d34, ?d35, ?d36, ?d37, ?d38, ?d39, ?d40, ?d41, ?d42, ?d43⟩, ?k_SIDE_SIGNS⟩
    case b0 => (refine' PySem.W.mg_none_of KX G ?z; (case z => k_is))
    case b1 => (refine' PySem.W.mg_none_of KX G ?z; (case z => k_is))
    case b2 => (refine' PySem.W.mg_none_of KX G ?z; (case z => k_is))
    case b3 => (refine' PySem.W.mg_none_of KX G ?z; (case z => k_is))
    case b4 => (refine' PySem.W.mg_none_of KX G ?z; (case z => k_is))
    case b5 => (refine' PySem.W.mg_none_of KX G ?z; (case z => k_is))
    case b6 => (refine' PySem.W.mg_none_of KX G ?z; (case z => k_is))
    case b7 => (refine' PySem.W.mg_none_of KX G ?z; (case z => k_is))
    case b8 => (refine' PySem.W.mg_none_of KX G ?z; (case z => k_is))
    case b9 => (refine' PySem.W.mg_none_of KX G ?z; (case z => k_is))
    case b10 => (refine' PySem.W.mg_none_of KX G ?z; (case z => k_is))
    case c0 => (refine' ⟨_, (PySem.W.mg_of KX G ?z).trans ?e⟩; (case z => k_is); (case e => exact rfl))
    case c1 => (refine' ⟨_, (PySem.W.mg_of KX G ?z).trans ?e⟩; (case z => k_is); (case e => exact rfl))
    case c2 => (refine' ⟨_, (PySem.W.mg_of KX G ?z).trans ?e⟩; (case z => k_is); (case e => exact rfl))
    case c3 => (refine' ⟨_, (PySem.W.mg_of KX G ?z).trans ?e⟩; (case z => k_is); (case e => exact rfl))
    case c4 => (refine' ⟨_, (PySem.W.mg_of KX G ?z).trans ?e⟩; (case z => k_is); (case e => exact rfl))
    case c5 => (refine' ⟨_, (PySem.W.mg_of KX G ?z).trans ?e⟩; (case z => k_is); (case e => exact rfl))
    case c6 => (refine' ⟨_, (PySem.W.mg_of KX G ?z).trans ?e⟩; (case z => k_is); (case e => exact rfl))
    case d0 => (refine' Sm.def_mk1 KX G ?a ?l ?c ?k (fun _ _ _ _ _ _ _ => rfl) rfl; (case a => k_is); (case l => k_is); (case c => k_is); (case k => k_is))
    case d1 => (refine' Sm.def_mk1 KX G ?a ?l ?c ?k (fun _ _ _ _ _ _ _ => rfl) rfl; (case a => k_is); (case l => k_is); (case c => k_is); (case k => k_is))
    case d2 => (refine' Sm.def_mk1 KX G ?a ?l ?c ?k (fun _ _ _ _ _ _ _ => rfl) rfl; (case a => k_is); (case l => k_is); (case c => k_is); (case k => k_is))
    case d3 => (refine' Sm.def_mk1 KX G ?a ?l ?c ?k (fun _ _ _ _ _ _ _ => rfl) rfl; (case a => k_is); (case l => k_is); (case c => k_is); (case k => k_is))
    case d4 => (refine' Sm.def_mk1 KX G ?a ?l ?c ?k (fun _ _ _ _ _ _ _ => rfl) rfl; (case a => k_is); (case l => k_is); (case c => k_is); (case k => k_is))
    case d5 => (refine' Sm.def_mk1 KX G ?a ?l ?c ?k (fun _ _ _ _ _ _ _ => rfl) rfl; (case a => k_is); (case l => k_is); (case c => k_is); (case k => k_is))
    case d6 => (refine' Sm.def_mk2 KX G ?a ?l ?c ?k (fun _ _ _ _ _ _ _ _ => rfl) rfl; (case a => k_is); (case l => k_is); (case c => k_is); (case k => k_is))
    case d7 => (refine' Sm.def_mk2 KX G ?a ?l ?c ?k (fun _ _ _ _ _ _ _ _ => rfl) rfl; (case a => k_is); (case l => k_is); (case c => k_is); (case k => k_is))
    case d8 => (refine' Sm.def_mk4 KX G ?a ?l ?c ?k (fun _ _ _ _ _ _ _ _ _ _ => rfl) rfl; (case a => k_is); (case l => k_is); (case c => k_is); (case k => k_is))
    case d9 => (refine' Sm.def_mk1 KX G ?a ?l ?c ?k (fun _ _ _ _ _ _ _ => rfl) rfl; (case a => k_is); (case l => k_is); (case c => k_is); (case k => k_is))
    case d10 => (refine' Sm.def_mk1 KX G ?a ?l ?c ?k (fun _ _ _ _ _ _ _ => rfl) rfl; (case a => k_is); (case l => k_is); (case c => k_is); (case k => k_is))
    case d11 => (refine' Sm.def_mk1 KX G ?a ?l ?c ?k (fun _ _ _ _ _ _ _ => rfl) rfl; (case a => k_is); (case l => k_is); (case c => k_is); (case k => k_is))
    case d12 => (refine' Sm.def_mk1 KX G ?a ?l ?c ?k (fun _ _ _ _ _ _ _ => rfl) rfl; (case a => k_is); (case l => k_is); (case c => k_is); (case k => k_is))
    case d13 => (refine' Sm.def_mk1 KX G ?a ?l ?c ?k (fun _ _ _ _ _ _ _ => rfl) rfl; (case a => k_is); (case l => k_is); (case c => k_is); (case k => k_is))
    case d14 => (refine' Sm.def_mk1 KX G ?a ?l ?c ?k (fun _ _ _ _ _ _ _ => rfl) rfl; (case a => k_is); (case l => k_is); (case c => k_is); (case k => k_is))
    case d15 => (refine' Sm.def_mk1 KX G ?a ?l ?c ?k (fun _ _ _ _ _ _ _ => rfl) rfl; (case a => k_is); (case l => k_is); (case c => k_is); (case k => k_is))
    case d16 => (refine' Sm.def_mk1 KX G ?a ?l ?c ?k (fun _ _ _ _ _ _ _ => rfl) rfl; (case a => k_is); (case l => k_is); (case c => k_is); (case k => k_is))
    case d17 => (refine' Sm.def_mk1 KX G ?a ?l ?c ?k (fun _ _ _ _ _ _ _ => rfl) rfl; (case a => k_is); (case l => k_is); (case c => k_is); (case k => k_is))
    case d18 => (refine' Sm.def_mk2 KX G ?a ?l ?c ?k (fun _ _ _ _ _ _ _ _ => rfl) rfl; (case a => k_is); (case l => k_is); (case c => k_is); (case k => k_is))
    case d19 => (refine' Sm.def_mk1 KX G ?a ?l ?c ?k (fun _ _ _ _ _ _ _ => rfl) rfl; (case a => k_is); (case l => k_is); (case c => k_is); (case k => k_is))
    case d20 => (refine' Sm.def_mk1 KX G ?a ?l ?c ?k (fun _ _ _ _ _ _ _ => rfl) rfl; (case a => k_is); (case l => k_is); (case c => k_is); (case k => k_is))
    case d21 => (refine' Sm.def_mk1 KX G ?a ?l ?c ?k (fun _ _ _ _ _ _ _ => rfl) rfl; (case a => k_is); (case l => k_is); (case c => k_is); (case k => k_is))
    case d22 => (refine' Sm.def_mk1 KX G ?a ?l ?c ?k (fun _ _ _ _ _ _ _ => rfl) rfl; (case a => k_is); (case l => k_is); (case c => k_is); (case k => k_is))
    case d23 => (refine' Sm.def_mk1 KX G ?a ?l ?c ?k (fun _ _ _ _ _ _ _ => rfl) rfl; (case a => k_is); (case l => k_is); (case c => k_is); (case k => k_is))
    case d24 => (refine' Sm.def_mk2 KX G ?a ?l ?c ?k (fun _ _ _ _ _ _ _ _ => rfl) rfl; (case a => k_is); (case l => k_is); (case c => k_is); (case k => k_is))
    case d25 => (refine' Sm.def_mk1 KX G ?a ?l ?c ?k (fun _ _ _ _ _ _ _ => rfl) rfl; (case a => k_is); (case l => k_is); (case c => k_is); (case k => k_is))
    case d26 => (refine' Sm.def_mk1 KX G ?a ?l ?c ?k (fun _ _ _ _ _ _ _ => rfl) rfl; (case a => k_is); (case l => k_is); (case c => k_is); (case k => k_is))
    case d27 => (refine' Sm.def_mk1 KX G ?a ?l ?c ?k (fun _ _ _ _ _ _ _ => rfl) rfl; (case a => k_is); (case l => k_is); (case c => k_is); (case k => k_is))
    case d28 => (refine' Sm.def_mk1 KX G ?a ?l ?c ?k (fun _ _ _ _ _ _ _ => rfl) rfl; (case a => k_is); (case l => k_is); (case c => k_is); (case k => k_is))
    case d29 => (refine' Sm.def_mk1 KX G ?a ?l ?c ?k (fun _ _ _ _ _ _ _ => rfl) rfl; (case a => k_is); (case l => k_is); (case c => k_is); (case k => k_is))
    case d30 => (refine' Sm.def_mk2 KX G ?a ?l ?c ?k (fun _ _ _ _ _ _ _ _ => rfl) rfl; (case a => k_is); (case l => k_is); (case c => k_is); (case k => k_is))
    case d31 => (refine' Sm.def_mk1 KX G ?a ?l ?c ?k (fun _ _ _ _ _ _ _ => rfl) rfl; (case a => k_is); (case l => k_is); (case c => k_is); (case k => k_is))
    case d32 => (refine' Sm.def_mk1 KX G ?a ?l ?c ?k (fun _ _ _ _ _ _ _ => rfl) rfl; (case a => k_is); (case l => k_is); (case c => k_is); (case k => k_is))
    case d33 => (refine' Sm.def_mk2 KX G ?a ?l ?c ?k (fun _ _ _ _ _ _ _ _ => rfl) rfl; (case a => k_is); (case l => k_is); (case c => k_is); (case k => k_is))
    case d34 => (refine' Sm.def_mk3 KX G ?a ?l ?c ?k (fun _ _ _ _ _ _ _ _ _ => rfl) rfl; (case a => k_is); (case l => k_is); (case c => k_is); (case k => k_is))
    case d35 => (refine' Sm.def_mk2 KX G ?a ?l ?c ?k (fun _ _ _ _ _ _ _ _ => rfl) rfl; (case a => k_is); (case l => k_is); (case c => k_is); (case k => k_is))
    case d36 => (refine' Sm.def_mk2 KX G ?a ?l ?c ?k (fun _ _ _ _ _ _ _ _ => rfl) rfl; (case a => k_is); (case l => k_is); (case c => k_is); (case k => k_is))
    case d37 => (refine' Sm.def_mk1 KX G ?a ?l ?c ?k (fun _ _ _ _ _ _ _ => rfl) rfl; (case a => k_is); (case l => k_is); (case c => k_is); (case k => k_is))
    case d38 => (refine' Sm.def_mk3 KX G ?a ?l ?c ?k (fun _ _ _ _ _ _ _ _ _ => rfl) rfl; (case a => k_is); (case l => k_is); (case c => k_is); (case k => k_is))
    case d39 => (refine' Sm.def_mk5 KX G ?a ?l ?c ?k (fun _ _ _ _ _ _ _ _ _ _ _ => rfl) rfl; (case a => k_is); (case l => k_is); (case c => k_is); (case k => k_is))
    case d40 => (refine' Sm.def_mk4 KX G ?a ?l ?c ?k (fun _ _ _ _ _ _ _ _ _ _ => rfl) rfl; (case a => k_is); (case l => k_is); (case c => k_is); (case k => k_is))
    case d41 => (refine' Sm.def_mk1 KX G ?a ?l ?c ?k (fun _ _ _ _ _ _ _ => rfl) rfl; (case a => k_is); (case l => k_is); (case c => k_is); (case k => k_is))
    case d42 => (refine' Sm.def_mk1 KX G ?a ?l ?c ?k (fun _ _ _ _ _ _ _ => rfl) rfl; (case a => k_is); (case l => k_is); (case c => k_is); (case k => k_is))
    case d43 => (refine' Sm.def_mk1 KX G ?a ?l ?c ?k (fun _ _ _ _ _ _ _ => rfl) rfl; (case a => k_is); (case l => k_is); (case c => k_is); (case k => k_is))
    case d44 => (refine' Sm.def_mk1 KX G ?a ?l ?c ?k (fun _ _ _ _ _ _ _ => rfl) rfl; (case a => k_is); (case l => k_is); (case c => k_is); (case k => k_is))
    case k_SIDE_SIGNS => (refine' Sm.hasC_mk KX G ?a ?hs ?l ?e ?nd; (case a => k_is); (case hs => kernel_rfl); (case l => k_is); (case e => exact ⟨⟨_, rfl⟩, rfl, ⟨_, rfl⟩, ⟨_, rfl⟩, rfl, ⟨_, rfl⟩, trivial⟩); (case nd => decide))
