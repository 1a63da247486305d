import PyProof.Rows.All
import Wide.All
import OpenK.AllK
import Wide.FinOn
import Lean
import PyProof.EqAt
import PyProof.EqKinds
import PyProof.TupleCall
import PyProof.StrCalls
import PyProof.SeqI3
import PyProof.Draws
import PyProof.EnumMake
import PyProof.DictValues
import PyProof.DictWalks
import PyProof.TupleOfSeq
import PyProof.TupleOfGen
import KE.KDictList
import PySem.Challenge.RW_staymark_k48_clocks
set_option Elab.async false
set_option linter.all false
set_option maxRecDepth 100000
namespace L2
open PySem PySem.Spec PyProof.Rows
abbrev Key := Sum Int Str
def keyIs : Key → Value → Bool
  | .inl k, v => Value.isInt k v
  | .inr x, v => Value.isStrOf x v
def keyH (w : World) : Key → Int
  | .inl k => hashInt k
  | .inr x => hashStr w x
theorem keyIs_shape : ∀ {k : Key} {v : Value}, keyIs k v = true → (∃ i t, k = Sum.inl i ∧ v = Value.int i t) ∨ (∃ x t, k = Sum.inr x ∧ v = Value.str x t)
  | .inl i, v, h => by
    obtain ⟨t, e⟩ := Value.isInt_shape (k := i) (v := v) h
    exact .inl ⟨i, t, rfl, e⟩
  | .inr x, v, h => by
    obtain ⟨t, e⟩ := Value.isStrOf_shape (x := x) (v := v) h
    exact .inr ⟨x, t, rfl, e⟩
theorem keyIs_int (i : Int) (t : Tok) : keyIs (.inl i) (.int i t) = true := by simp [keyIs, Value.isInt]
theorem keyIs_str (x : Str) (t : Tok) : keyIs (.inr x) (.str x t) = true := by simp [keyIs, Value.isStrOf]
theorem key_ll (a b : Int) : decide ((Sum.inl a : Key) = Sum.inl b) = (a == b) := by
  by_cases e : a = b
  · subst e; simp
  · have h : ¬ (Sum.inl a : Key) = Sum.inl b := fun q => e (Sum.inl.inj q)
    rw [decide_eq_false h]
    exact (beq_eq_false_iff_ne.mpr e).symm
theorem key_rr (a b : Str) : decide ((Sum.inr a : Key) = Sum.inr b) = decide (a = b) := by
  by_cases e : a = b
  · subst e; simp
  · have h : ¬ (Sum.inr a : Key) = Sum.inr b := fun q => e (Sum.inr.inj q)
    rw [decide_eq_false h, decide_eq_false e]
theorem key_lr (a : Int) (b : Str) : decide ((Sum.inl a : Key) = Sum.inr b) = false := decide_eq_false (fun q => nomatch q)
theorem key_rl (a : Str) (b : Int) : decide ((Sum.inr a : Key) = Sum.inl b) = false := decide_eq_false (fun q => nomatch q)
def mixKind (prog : Program) (w : World) : PySem.KeyKind prog w Key where
  is := keyIs
  hash := keyH w
  inj := fun v a b ha hb => by
    rcases keyIs_shape ha with ⟨i, t, rfl, rfl⟩ | ⟨x, t, rfl, rfl⟩
    · rcases keyIs_shape hb with ⟨j, u, rfl, e⟩ | ⟨y, u, rfl, e⟩
      · injection e with e1 _; rw [e1]
      · exact nomatch e
    · rcases keyIs_shape hb with ⟨j, u, rfl, e⟩ | ⟨y, u, rfl, e⟩
      · exact nomatch e
      · injection e with e1 _; rw [e1]
  byValue := fun k v h => by
    rcases keyIs_shape h with ⟨i, t, rfl, rfl⟩ | ⟨x, t, rfl, rfl⟩ <;> rfl
  pyHash := fun hv h => by
    rcases keyIs_shape hv with ⟨i, t, rfl, rfl⟩ | ⟨x, t, rfl, rfl⟩
    · exact wpAny_pyHash_int h
    · exact wpAny_pyHash_str h
  eqBool := fun hu hv h => by
    rcases keyIs_shape hu with ⟨i, t, rfl, rfl⟩ | ⟨x, t, rfl, rfl⟩
    · rcases keyIs_shape hv with ⟨j, u, rfl, rfl⟩ | ⟨y, u, rfl, rfl⟩
      · rw [key_ll] at h; exact wpAny_eqBool_int h
      · rw [key_lr] at h; exact SeqAt.EqAt.int_str i t y u _ _ _ _ h
    · rcases keyIs_shape hv with ⟨j, u, rfl, rfl⟩ | ⟨y, u, rfl, rfl⟩
      · rw [key_rl] at h; exact SeqAt.EqAt.str_int x t j u _ _ _ _ h
      · rw [key_rr] at h; exact wpAny_eqBool_str h
  «strs» := fun k x t v h => by
    rcases keyIs_shape h with ⟨i, u, rfl, e⟩ | ⟨y, u, rfl, e⟩
    · exact nomatch e
    · injection e with e1 _
      subst e1
      cases v <;> rfl
theorem mixKind_int (prog : Program) (w : World) (i : Int) (t : Tok) : (mixKind prog w).is (.inl i) (.int i t) = true := keyIs_int i t
theorem mixKind_str (prog : Program) (w : World) (x : Str) (t : Tok) : (mixKind prog w).is (.inr x) (.str x t) = true := keyIs_str x t
end L2
namespace L2
open PySem PySem.Spec PyProof.Rows
inductive V where
  | non | bl (b : Bool) | int (i : Int) | str (x : Str) | byt (b : Array UInt8) | flt (b : UInt64) | ref (a : Addr) | ty (n : String)
  deriving DecidableEq
def RelV : V → Value → Prop
  | .non, u => u = Value.none
  | .bl b, u => u = Value.bool b
  | .int i, u => ∃ t, u = Value.int i t
  | .str x, u => ∃ t, u = Value.str x t
  | .byt b, u => ∃ t, u = Value.bytes b t
  | .flt b, u => ∃ t, u = Value.float b t
  | .ref a, u => u = Value.ref a
  | .ty n, u => u = Value.type n
abbrev Vals : List V → List Value → Prop := Paired RelV
theorem Vals.length {xs : List V} {us : List Value} (r : Vals xs us) : xs.length = us.length := Paired.length r
theorem Vals.get : ∀ {xs : List V} {us : List Value} {i : Nat} {x : V}, Vals xs us → xs[i]? = some x → ∃ u, us[i]? = some u ∧ RelV x u
  | _, _, _, _, .nil, e => by simp at e
  | _, _, 0, _, .cons r _, e => by simp at e; subst e; exact ⟨_, rfl, r⟩
  | _, _, i + 1, x, .cons _ t, e => by
    obtain ⟨u, h1, h2⟩ := Vals.get (i := i) (x := x) t (by simpa using e)
    exact ⟨u, by simpa using h1, h2⟩
theorem Vals.set {x : V} {u : Value} (r : RelV x u) : ∀ {xs : List V} {us : List Value} (i : Nat), Vals xs us → Vals (xs.set i x) (us.set i u)
  | _, _, _, .nil => .nil
  | _, _, 0, .cons _ t => .cons r t
  | _, _, i + 1, .cons q t => .cons q (Vals.set r i t)
theorem Vals.append : ∀ {xs ys : List V} {us ws : List Value}, Vals xs us → Vals ys ws → Vals (xs ++ ys) (us ++ ws)
  | _, _, _, _, .nil, s => s
  | _, _, _, _, .cons r t, s => .cons r (Vals.append t s)
theorem Vals.take : ∀ {xs : List V} {us : List Value} (n : Nat), Vals xs us → Vals (xs.take n) (us.take n)
  | _, _, 0, _ => .nil
  | _, _, _ + 1, .nil => .nil
  | _, _, n + 1, .cons r t => .cons r (Vals.take n t)
theorem Vals.drop : ∀ {xs : List V} {us : List Value} (n : Nat), Vals xs us → Vals (xs.drop n) (us.drop n)
  | _, _, 0, r => r
  | _, _, _ + 1, .nil => .nil
  | _, _, n + 1, .cons _ t => Vals.drop n t
theorem Vals.none_of : ∀ {xs : List V} {us : List Value} {i : Nat}, Vals xs us → xs[i]? = none → us[i]? = none := fun {xs us i} r e => by
  have h1 := r.length
  have h2 : xs.length ≤ i := List.getElem?_eq_none_iff.mp e
  exact List.getElem?_eq_none_iff.mpr (by omega)
def RelO : Option V → Option Value → Prop
  | some v, some u => RelV v u
  | none, none => True
  | _, _ => False
def KV {κ : Type} : List (κ × V) → List (κ × Value) → Prop := Paired fun (p : κ × V) (q : κ × Value) => p.1 = q.1 ∧ RelV p.2 q.2
def kV : Key → V
  | .inl i => .int i
  | .inr x => .str x
inductive HO where
  /-- a list -/
  | lst (xs : List V)
  /-- a tuple (never changes) -/
  | tup (xs : List V)
  /-- a dict whose keys are ints and texts; one whose keys are tuples of ints and texts (the empty one is both) -/
  | dK (kvs : List (Key × V)) | dT (kvs : List (List Key × V))
  /-- a set of ints: its members, its size -/
  | set (S : Int → Bool) (n : Nat)
  /-- an instance of the class at C, its dict at dx, its attributes -/
  | ins (C dx : Addr) (fs : List (Str × V))
  /-- the dict of the instance at x -/
  | own (x : Addr)
  /-- the dict of an exception -/
  | xd (fs : List (Str × V))
  /-- a bound method, f of x -/
  | met (f x : Addr)
  /-- a range object lo, lo + 1, .. below hi -/
  | rng (lo hi : Int)
  /-- a thing that is known to the object (the script; a dict while a loop walks it): read, never written while it is so -/
  | frz (o : Obj) (u : HO)
  /-- a code object's table -/
  | tbl (ps : Array Value)
  /-- any other thing, by what is true of its one object (a def of one's own: SetO a S n := HO.ext fun h => ..) -/
  | ext (φ : Heap → Prop)
abbrev Hp := Addr → Option HO
def upd (H : Hp) (a : Addr) (o : HO) : Hp := fun b => if b = a then some o else H b
theorem upd_same {H : Hp} {a : Addr} {o : HO} : upd H a o a = some o := by unfold upd; rw [if_pos rfl]
theorem upd_ne {H : Hp} {a b : Addr} {o : HO} (h : b ≠ a) : upd H a o b = H b := by unfold upd; rw [if_neg h]
theorem ne_of {H : Hp} {a b : Addr} {o u : HO} (h : H a = some o) (h' : H b = some u) (d : o ≠ u) : a ≠ b := by
  intro e; subst e; rw [h] at h'; exact d (Option.some.inj h')
theorem ne_of_none {H : Hp} {a b : Addr} {o : HO} (h : H a = some o) (h' : H b = none) : a ≠ b := by
  intro e; subst e; rw [h] at h'; cases h'
section
variable (P : Program) (w : World)
def ObjOk (H : Hp) (h : Heap) (a : Addr) : HO → Prop
  | .lst xs => xs.length ≤ sizeLine ∧ ∃ (its : List Value) (n : Nat), Vals xs its ∧ h.get? a = some { cls := .type "list", data := .seq its.toArray n }
  | .tup xs => xs.length ≤ sizeLine ∧ ∃ its : List Value, Vals xs its ∧ IsTup h a its.toArray
  | .dK kvs => kvs.length ≤ sizeLine ∧ (a == sysModules) = false ∧ ∃ vs, KV kvs vs ∧ h.DictOf (mixKind P w) a vs
  | .dT kvs => kvs.length ≤ sizeLine ∧ (a == sysModules) = false ∧ ∃ xs : List (List Key × Addr × Value),
      Paired (fun (p : List Key × V) (q : List Key × Addr × Value) => p.1 = q.1 ∧ H q.2.1 = some (.tup (p.1.map kV)) ∧ RelV p.2 q.2.2) kvs xs ∧
      ∃ o es ep, h.get? a = some o ∧ o.ExactDict ∧ o.data = .dict es ep ∧ es.toList = xs.map (entryOfKey (tupleKind (mixKind P w))) ∧ (xs.map (·.1)).Nodup
  | .set S n => h.SetOf (intKind P w) a S n
  | .ins C dx fs => H dx = some (.own a) ∧ fs.length ≤ 1000 ∧ dx ≠ a ∧ h.get? a = some (PySem.W.instObj C dx) ∧
      ∃ mA, h.Ns1 dx mA ∧ (∀ f, RelO (fs.lookup f) (mA f)) ∧ PySem.Within mA (fs.map (·.1))
  | .own _ => ∃ o, h.get? a = some o
  | .xd fs => ∃ mA, h.Ns1 a mA ∧ ∀ f, RelO (fs.lookup f) (mA f)
  | .rng lo hi => ∃ t u v, h.get? a = some { cls := .type "range", data := .fields #[.int lo t, .int hi u, .int 1 v] }
  | .frz o u => h.get? a = some o ∧ ObjOk H h a u
  | .tbl ps => h.get? a = some { cls := .none, data := .fields ps }
  | .met f x => h.get? a = some (PySem.W.methodObj (.ref f) (.ref x))
  | .ext φ => φ h ∧ (∃ o, h.get? a = some o) ∧ ∀ h1 h2 : Heap, φ h1 → (∀ o, h1.get? a = some o → h2.get? a = some o) → φ h2
def HOk (H : Hp) (h : Heap) : Prop := ∀ a o, H a = some o → ObjOk P w H h a o
end
section
variable {P : Program} {w : World} {H H' : Hp} {h h' : Heap} {a : Addr} {o : HO}
theorem ObjOk.lt (x : ObjOk P w H h a o) : a < h.objs.size := by
  cases o with
  | lst xs => obtain ⟨_, _, _, _, e⟩ := x; exact Heap.lt_size e
  | tup xs => obtain ⟨_, _, _, p⟩ := x; exact p.lt
  | dK kvs => obtain ⟨_, _, _, _, o, _, _, e, _⟩ := x; exact Heap.lt_size e
  | dT kvs => obtain ⟨_, _, _, _, o, _, _, e, _⟩ := x; exact Heap.lt_size e
  | set S n => obtain ⟨o, _, _, _, e, _⟩ := x; exact Heap.lt_size e
  | ins C dx fs => obtain ⟨_, _, _, e, _⟩ := x; exact Heap.lt_size e
  | own y => obtain ⟨_, e⟩ := x; exact Heap.lt_size e
  | xd fs => obtain ⟨_, ⟨_, _, _, e, _⟩, _⟩ := x; exact Heap.lt_size e
  | rng lo hi => obtain ⟨_, _, _, e⟩ := x; exact Heap.lt_size e
  | frz ob u => obtain ⟨e, _⟩ := x; exact Heap.lt_size e
  | tbl ps => exact Heap.lt_size (show h.get? a = some _ from x)
  | met f y => exact Heap.lt_size (show h.get? a = some _ from x)
  | ext φ => obtain ⟨_, ⟨_, e⟩, _⟩ := x; exact Heap.lt_size e
theorem Paired.mapP {α β : Type} {F G : α → β → Prop} : ∀ {l₁ : List α} {l₂ : List β}, Paired F l₁ l₂ → (∀ a b, F a b → G a b) → Paired G l₁ l₂
  | _, _, .nil, _ => .nil
  | _, _, .cons r t, f => .cons (f _ _ r) (Paired.mapP t f)
theorem ObjOk.stay (x : ObjOk P w H h a o) (k : ∀ b u, (b = a ∨ H b = some (.own a)) → h.get? b = some u → h'.get? b = some u)
    (ho : ∀ b, H b = some (.own a) → H' b = some (.own a)) (ht : ∀ b xs, H b = some (.tup xs) → H' b = some (.tup xs)) : ObjOk P w H' h' a o := by
  induction o with
  | lst xs => obtain ⟨z, its, n, r, e⟩ := x; exact ⟨z, its, n, r, k _ _ (.inl rfl) e⟩
  | tup xs => obtain ⟨z, its, r, ob, e, c⟩ := x; exact ⟨z, its, r, ob, k _ _ (.inl rfl) e, c⟩
  | dK kvs => obtain ⟨z, y, vs, r, ob, es, ep, e, c⟩ := x; exact ⟨z, y, vs, r, ob, es, ep, k _ _ (.inl rfl) e, c⟩
  | dT kvs =>
    obtain ⟨z, y, xs, r, ob, es, ep, e, c⟩ := x
    exact ⟨z, y, xs, Paired.mapP r fun p q z => ⟨z.1, ht _ _ z.2.1, z.2.2⟩, ob, es, ep, k _ _ (.inl rfl) e, c⟩
  | set S n => obtain ⟨ob, es, ep, t, e, c⟩ := x; exact ⟨ob, es, ep, t, k _ _ (.inl rfl) e, c⟩
  | ins C dx fs =>
    obtain ⟨d, z, ne, e, mA, ⟨od, es, ep, e2, c⟩, r⟩ := x
    exact ⟨ho _ d, z, ne, k _ _ (.inl rfl) e, mA, ⟨od, es, ep, k _ _ (.inr d) e2, c⟩, r⟩
  | own y => obtain ⟨ob, e⟩ := x; exact ⟨ob, k _ _ (.inl rfl) e⟩
  | xd fs => obtain ⟨mA, ⟨od, es, ep, e, c⟩, r⟩ := x; exact ⟨mA, ⟨od, es, ep, k _ _ (.inl rfl) e, c⟩, r⟩
  | rng lo hi => obtain ⟨t, u, v, e⟩ := x; exact ⟨t, u, v, k _ _ (.inl rfl) e⟩
  | frz ob u ih => obtain ⟨e, q⟩ := x; exact ⟨k _ _ (.inl rfl) e, ih q⟩
  | tbl ps =>
    have e : h.get? a = some { cls := .none, data := .fields ps } := x
    show h'.get? a = some { cls := .none, data := .fields ps }
    exact k a _ (.inl rfl) e
  | met f y =>
    have e : h.get? a = some (PySem.W.methodObj (.ref f) (.ref y)) := x
    show h'.get? a = some (PySem.W.methodObj (.ref f) (.ref y))
    exact k a _ (.inl rfl) e
  | ext φ => obtain ⟨p, ⟨o, e⟩, st⟩ := x; exact ⟨st _ _ p fun o q => k _ _ (.inl rfl) q, ⟨o, k _ _ (.inl rfl) e⟩, st⟩
theorem HOk.lt (x : HOk P w H h) (e : H a = some o) : a < h.objs.size := (x a o e).lt
theorem HOk.fresh (x : HOk P w H h) (e : h.objs.size ≤ a) : H a = none := by
  cases q : H a with
  | none => rfl
  | some u => exact absurd (Nat.lt_of_lt_of_le (x.lt q) e) (Nat.lt_irrefl _)
theorem HOk.kept (x : HOk P w H h) (k : ∀ b u, h.get? b = some u → h'.get? b = some u) : HOk P w H h' := fun a o e =>
  (x a o e).stay (fun b u _ q => k b u q) (fun _ q => q) fun _ _ q => q
theorem HOk.laid (x : HOk P w H h) (k : ∀ b u, h.get? b = some u → h'.get? b = some u) (hp : h.objs.size ≤ a) (new : ObjOk P w (upd H a o) h' a o) : HOk P w (upd H a o) h' := fun b u e => by
  have hn := x.fresh hp
  by_cases hb : b = a
  · subst hb; rw [upd_same] at e; cases e; exact new
  · rw [upd_ne hb] at e
    exact (x b u e).stay (fun c v _ q => k c v q) (fun c q => by rw [upd_ne (ne_of_none q hn)]; exact q) fun c xs q => by rw [upd_ne (ne_of_none q hn)]; exact q
end
def Rd (H : Hp) (a : Addr) (u : HO) : Prop := H a = some u ∨ ∃ o, H a = some (.frz o u)
theorem Rd.of {H : Hp} {a : Addr} {u : HO} (h : H a = some u) : Rd H a u := .inl h
theorem Rd.ok {P : Program} {w : World} {H : Hp} {h : Heap} {a : Addr} {u : HO} (r : Rd H a u) (x : HOk P w H h) : ObjOk P w H h a u := by
  rcases r with r | ⟨o, r⟩
  · exact x a u r
  · obtain ⟨_, q⟩ := x a _ r
    exact q
def Mut : Option HO → Prop
  | some (.lst _) => True
  | some (.dK _) => True
  | some (.dT _) => True
  | some (.set _ _) => True
  | some (.ins _ _ _) => True
  | some (.ext _) => True
  | _ => False
section
variable {P : Program} {w : World} {H : Hp} {h h' : Heap} {x e : Addr} {o' : HO}
theorem HOk.write (ok : HOk P w H h) (mu : Mut (H x)) (he : e = x ∨ H e = some (.own x)) (k : ∀ b u, b ≠ e → h.get? b = some u → h'.get? b = some u) (heo : ∃ u, h'.get? e = some u)
    (new : ObjOk P w (upd H x o') h' x o') : HOk P w (upd H x o') h' := fun b u q => by
  have nown : ∀ c y, H c = some (.own y) → c ≠ x := fun c y r z => by subst z; rw [r] at mu; exact mu
  have ntup : ∀ c xs, H c = some (.tup xs) → c ≠ x := fun c xs r z => by subst z; rw [r] at mu; exact mu
  by_cases hb : b = x
  · subst hb; rw [upd_same] at q; cases q; exact new
  · rw [upd_ne hb] at q
    by_cases hbe : b = e
    · have q' : H b = some (.own x) := by
        rcases he with z | z
        · exact absurd (hbe.trans z) hb
        · rw [hbe]; exact z
      rw [q] at q'; cases q'
      obtain ⟨v, hv⟩ := heo
      exact ⟨v, by rw [hbe]; exact hv⟩
    · refine (ok b u q).stay (fun c v hc r => k c v ?_ r) (fun c r => by rw [upd_ne (nown c b r)]; exact r) fun c xs r => by rw [upd_ne (ntup c xs r)]; exact r
      rcases hc with rfl | hc
      · exact hbe
      · rintro rfl
        rcases he with z | z
        · exact nown c b hc z
        · rw [hc] at z; cases z; exact hb rfl
end
structure Un (fs ex : List Addr) (H H' : Hp) (h h' : Heap) : Prop where
  keep : ∀ b o, h.get? b = some o → H b = none → b ∉ fs → b ∉ ex → h'.get? b = some o
  slot : ∀ b o, h.get? b = some o → H b = none → b ∈ fs → b ∉ ex → ∃ sl, h'.get? b = some { o with slots := sl }
  free : ∀ b o, h.get? b = some o → H b = none → b ∉ ex → H' b = none
  there : ∀ b o, h.get? b = some o → b ∉ ex → ∃ o', h'.get? b = some o'
  tups : ∀ b xs, H b = some (.tup xs) → H' b = some (.tup xs)
  frzs : ∀ b o u, H b = some (.frz o u) → H' b = some (.frz o u)
  tbls : ∀ b ps, H b = some (.tbl ps) → ∃ more, H' b = some (.tbl (ps ++ more))
section
variable {fs fs' ex ex' : List Addr} {H H1 H2 : Hp} {h h1 h2 h' : Heap} {a x e : Addr} {o : HO}
theorem Un.any (u : Un fs ex H H1 h h1) {b : Addr} {ob : Obj} (q : h.get? b = some ob) (n : H b = none) (hx : b ∉ ex) : ∃ sl, h1.get? b = some { ob with slots := sl } := by
  by_cases hb : b ∈ fs
  · exact u.slot b ob q n hb hx
  · exact ⟨ob.slots, u.keep b ob q n hb hx⟩
theorem Un.trans (a : Un fs ex H H1 h h1) (b : Un fs ex H1 H2 h1 h2) : Un fs ex H H2 h h2 where
  keep := fun c ob q n hc hx => b.keep c ob (a.keep c ob q n hc hx) (a.free c ob q n hx) hc hx
  slot := fun c ob q n hc hx => by
    obtain ⟨sl, e1⟩ := a.slot c ob q n hc hx
    obtain ⟨sl', e2⟩ := b.slot c _ e1 (a.free c ob q n hx) hc hx
    exact ⟨sl', e2⟩
  free := fun c ob q n hx => by
    obtain ⟨o', e1⟩ := a.there c ob q hx
    exact b.free c o' e1 (a.free c ob q n hx) hx
  there := fun c ob q hx => by
    obtain ⟨o', e1⟩ := a.there c ob q hx
    exact b.there c o' e1 hx
  tups := fun c xs q => b.tups c xs (a.tups c xs q)
  frzs := fun c ob xs q => b.frzs c ob xs (a.frzs c ob xs q)
  tbls := fun c ps q => by
    obtain ⟨m1, e1⟩ := a.tbls c ps q
    obtain ⟨m2, e2⟩ := b.tbls c _ e1
    exact ⟨m1 ++ m2, by rw [e2, Array.append_assoc]⟩
theorem Un.kept (k : ∀ b u, h.get? b = some u → h'.get? b = some u) : Un fs ex H H h h' :=
  ⟨fun b ob q _ _ _ => k b ob q, fun b ob q _ _ _ => ⟨ob.slots, k b ob q⟩, fun _ _ _ n _ => n, fun b ob q _ => ⟨ob, k b ob q⟩, fun _ _ q => q, fun _ _ _ q => q, fun _ ps q => ⟨#[], by rw [q]; simp⟩⟩
theorem Un.refl : Un fs ex H H h h := Un.kept fun _ _ q => q
theorem Un.laid (k : ∀ b u, h.get? b = some u → h'.get? b = some u) (hp : h.objs.size ≤ a) (hn : H a = none) : Un fs ex H (upd H a o) h h' where
  keep := fun b u q _ _ _ => k b u q
  slot := fun b u q _ _ _ => ⟨u.slots, k b u q⟩
  free := fun b u q n _ => by rw [upd_ne (Nat.ne_of_lt (Nat.lt_of_lt_of_le (Heap.lt_size q) hp))]; exact n
  there := fun b u q _ => ⟨u, k b u q⟩
  tups := fun b xs q => by rw [upd_ne (ne_of_none q hn)]; exact q
  frzs := fun b u xs q => by rw [upd_ne (ne_of_none q hn)]; exact q
  tbls := fun b ps q => ⟨#[], by rw [upd_ne (ne_of_none q hn), q]; simp⟩
theorem Un.write (mu : Mut (H x)) (he : e = x ∨ H e = some (.own x)) (k : ∀ b u, b ≠ e → h.get? b = some u → h'.get? b = some u) (heo : ∃ u, h'.get? e = some u) : Un fs ex H (upd H x o) h h' := by
  have hx : ∀ b, H b = none → b ≠ x := fun b n z => by subst z; rw [n] at mu; exact mu
  have hb : ∀ b, H b = none → b ≠ e := fun b n z => by
    subst z
    rcases he with r | r
    · exact hx b n r
    · rw [n] at r; cases r
  have hm : ∀ b u, H b = some u → ¬ Mut (some u) → b ≠ x := fun b u q nm z => by subst z; rw [q] at mu; exact nm mu
  refine ⟨fun b u q n _ _ => k b u (hb b n) q, fun b u q n _ _ => ⟨u.slots, k b u (hb b n) q⟩, fun b u q n _ => by rw [upd_ne (hx b n)]; exact n, fun b u q _ => ?_,
    fun b xs q => by rw [upd_ne (hm b _ q fun z => z)]; exact q, fun b u xs q => by rw [upd_ne (hm b _ q fun z => z)]; exact q, fun b ps q => ⟨#[], by rw [upd_ne (hm b _ q fun z => z), q]; simp⟩⟩
  by_cases hbe : b = e
  · subst hbe; exact heo
  · exact ⟨u, k b u hbe q⟩
theorem Un.mono (u : Un fs ex H H1 h h1) (hs : ∀ b ∈ fs, b ∈ fs') (hx : ∀ b ∈ ex, b ∈ ex') : Un fs' ex' H H1 h h1 :=
  ⟨fun b ob q n hb he => u.keep b ob q n (fun z => hb (hs b z)) fun z => he (hx b z), fun _ _ q n _ he => u.any q n fun z => he (hx _ z), fun b ob q n he => u.free b ob q n fun z => he (hx b z), fun b ob q he => u.there b ob q fun z => he (hx b z), u.tups, u.frzs, u.tbls⟩
end
def trk (h : Heap) (H : Hp) : List Addr := (List.range h.objs.size).filter fun a => (H a).isSome
def hidT (h : Heap) (H : Hp) : Heap := PySem.W.hideAll h (trk h H)
theorem hidT_size (h : Heap) (H : Hp) : (hidT h H).objs.size = h.objs.size := PySem.W.hideAll_size _ _
theorem hidT_get {h : Heap} {H : Hp} {b : Addr} {o : Obj} (e : h.get? b = some o) (n : H b = none) : (hidT h H).get? b = some o :=
  PySem.W.hideAll_get _ e fun hm => by
    have q : (H b).isSome = true := (List.mem_filter.mp hm).2
    rw [n] at q; simp at q
theorem of_hidT {h : Heap} {H : Hp} {b : Addr} {o : Obj} (e : (hidT h H).get? b = some o) : h.get? b = some o ∧ H b = none := by
  have e' : h.get? b = some o := PySem.W.of_hideAll (trk h H) e
  refine ⟨e', ?_⟩
  cases q : H b with
  | none => rfl
  | some x =>
    have hm : b ∈ trk h H := List.mem_filter.mpr ⟨List.mem_range.mpr (Heap.lt_size e'), by simp [q]⟩
    have z : (hidT h H).get? b = none := PySem.W.hideAll_none (trk h H) hm
    rw [z] at e; cases e
def allNews (g h : Heap) (L : Addr) : List (Addr × Obj) := (List.range h.objs.size).filterMap fun a => if a = L ∨ (g.get? a).isSome = true then none else (h.get? a).map fun o => (a, o)
def rest (g h : Heap) (L d : Addr) : List (Addr × Obj) := (allNews g h L).filter fun p => decide (p.1 ≠ d)
end L2
namespace L2
open PySem PySem.Spec PyProof.Rows
structure Mod (K : PySem.W.Frag) (mg : Str → Option Value) (base : Heap) : Prop where
  kin : K.In base
  glob : base.Ns mainGlobals mg
  blt : ∃ mb, base.Ns builtinsNs mb ∧ ∀ x : Str, x ≠ "__name__" → mb x = bootBuiltins x
  nolimit : base.NoLimit
structure Cx where
  prog : Program
  w : World
  K : PySem.W.Frag
  mg : Str → Option Value
  base : Heap
  A : Around
  N : List Str
  s₀ : Shared
  H₀ : Hp
  env : Env
  outer : List Env
  stack : List Env
  ex : List Addr
  fn : Str → Bool
  calm : Bool
  pn : List (Addr × Obj)
  xe : Value → Shared → Prop
def frs (l : List Env) : List Addr := l.filterMap (·.frame)
abbrev Cx.fs (X : Cx) : List Addr := frs X.outer
def Vis (sc : Scope) (x : Str) : Prop := sc.names.lookup x = some .local ∨ sc.names.lookup x = some .cell ∨ sc.names.lookup x = some .free
def Loc (sc : Scope) (x : Str) : Prop := sc.names.lookup x = some .local ∨ sc.names.lookup x = some .cell
def Look (env : Env) (h : Heap) (m : Str → Option Value) (x : Str) (u : Value) : Prop :=
  (env.kindOf x = some .local ∧ m x = some u) ∨ ((env.kindOf x = some .cell ∨ env.kindOf x = some .free) ∧ ∃ c, env.cells.lookup x = some c ∧ h.IsCell c (some u))
structure Cx.Ok (X : Cx) : Prop where
  mod : Mod X.K X.mg X.base
  kind : X.env.scope.kind = .function
  glob : X.env.globals = mainGlobals
  blt : X.env.builtins = builtinsNs
  above : X.s₀.heap.objs.size ≤ X.env.locals
  inj : ∀ x y c, X.env.cells.lookup x = some c → X.env.cells.lookup y = some c → x = y
  has : ∀ x, (X.env.kindOf x = some .cell ∨ X.env.kindOf x = some .free) → ∃ c, X.env.cells.lookup x = some c
  cab : ∀ x c, X.fn x = true → X.env.cells.lookup x = some c → X.s₀.heap.objs.size ≤ c
  hd : X.calm = true → X.A.handled = none
  frames : X.A.frames = some X.stack
  stk : X.stack = X.outer ∨ (X.stack = X.env :: X.outer ∧ X.env.frame = some X.env.locals)
  exf : ∀ b ∈ X.ex, b ≠ X.env.locals ∧ ∀ x c, X.env.cells.lookup x = some c → c ≠ b
  bs : ∀ b o, X.base.get? b = some o → X.s₀.heap.get? b = some o ∧ X.H₀ b = none
  bsz : X.base.objs.size ≤ X.s₀.heap.objs.size
  noex : ∀ b o, X.base.get? b = some o → b ∉ X.ex
  exfs : ∀ b ∈ X.ex, b ∉ X.fs
  funs : X.s₀.heap.FunFrames X.base X.outer
  frf : ∀ b ∈ X.fs, X.H₀ b = none
structure Inv (X : Cx) (pins : List (Addr × Obj)) (σ : List (Option V)) (H : Hp) (s : Shared) : Prop where
  ok : X.Ok
  os : s.os = X.s₀.os
  bare : AllBare s.gens
  base : Un X.fs X.ex X.H₀ H X.s₀.heap s.heap
  loc : ∃ m, s.heap.Ns X.env.locals m ∧ ∀ (i : Nat) (x : Str) (v : V), X.N[i]? = some x → σ[i]? = some (some v) → Vis X.env.scope x → ∃ u, RelV v u ∧ Look X.env s.heap m x u
  cell : ∀ x c, X.env.cells.lookup x = some c → ∃ v, s.heap.IsCell c v
  free : H X.env.locals = none
  freeC : ∀ x c, X.env.cells.lookup x = some c → H c = none
  pin : ∀ p ∈ X.pn ++ pins, s.heap.get? p.1 = some p.2 ∧ H p.1 = none ∧ p.1 ≠ X.env.locals ∧ p.1 ∉ X.fs ∧ ∀ v, p.2.data ≠ .cell v
  hok : HOk X.prog X.w H s.heap
  len : σ.length = X.N.length
section
variable {X : Cx} {pins : List (Addr × Obj)} {σ : List (Option V)} {H H' : Hp} {s : Shared} {h' : Heap}
theorem Cx.Ok.nofr (ok : X.Ok) {b : Addr} {o : Obj} (e : X.base.get? b = some o) : b ∉ X.fs := fun hb => by
  have := (ok.funs.mem hb).1
  rw [e] at this; cases this
theorem Inv.bs (I : Inv X pins σ H s) : ∀ b o, X.base.get? b = some o → s.heap.get? b = some o ∧ H b = none := fun b o e =>
  ⟨I.base.keep b o (I.ok.bs b o e).1 (I.ok.bs b o e).2 (I.ok.nofr e) (I.ok.noex b o e), I.base.free b o (I.ok.bs b o e).1 (I.ok.bs b o e).2 (I.ok.noex b o e)⟩
theorem Inv.bk (I : Inv X pins σ H s) : ∀ b o, X.base.get? b = some o → s.heap.get? b = some o := fun b o e => (I.bs b o e).1
theorem Inv.mod (I : Inv X pins σ H s) : Mod X.K X.mg X.base := I.ok.mod
theorem Inv.kIn (I : Inv X pins σ H s) : X.K.In s.heap := I.ok.mod.kin.keeps I.bk
theorem Inv.nolimit (I : Inv X pins σ H s) : s.heap.NoLimit := I.ok.mod.nolimit.keeps I.bk
theorem Inv.fr (I : Inv X pins σ H s) : ∃ m, Fr X.base X.env.locals s.heap m :=
  let ⟨m, hn, _⟩ := I.loc
  ⟨m, hn, I.bk, Nat.le_trans I.ok.bsz I.ok.above⟩
theorem Inv.lt (I : Inv X pins σ H s) : X.env.locals < s.heap.objs.size := let ⟨_, hn, _⟩ := I.loc; hn.lt
theorem Inv.sz (I : Inv X pins σ H s) : X.s₀.heap.objs.size ≤ s.heap.objs.size := Nat.le_trans I.ok.above (Nat.le_of_lt I.lt)
theorem Inv.nofs (I : Inv X pins σ H s) {a : Addr} (h : s.heap.objs.size ≤ a) : a ∉ X.fs := fun hb => by
  obtain ⟨_, o, ho, _⟩ := I.ok.funs.mem hb
  exact absurd (Nat.lt_of_lt_of_le (Heap.lt_size ho) (Nat.le_trans I.sz h)) (Nat.lt_irrefl _)
theorem Inv.cne (I : Inv X pins σ H s) : ∀ x c, X.env.cells.lookup x = some c → c ≠ X.env.locals := fun x c e z => by
  obtain ⟨v, o, ho, hd⟩ := I.cell x c e
  obtain ⟨m, ⟨o', es, ep, ho', hd', _⟩, _⟩ := I.loc
  rw [z, ho'] at ho; cases ho; rw [hd'] at hd; cases hd
theorem Inv.funs (I : Inv X pins σ H s) : s.heap.FunFrames X.base X.outer := by
  have all : ∀ (l : List Env), (∀ b ∈ frs l, b ∈ X.fs) → X.s₀.heap.FunFrames X.base l → s.heap.FunFrames X.base l := by
    intro l
    induction l with
    | nil => intro _ _; trivial
    | cons env r ih =>
      intro hs hl
      obtain ⟨hk, ⟨L, o, hf, hn, ho, hd⟩, hr⟩ := hl
      have hL : L ∈ X.fs := hs L (by unfold frs; rw [List.filterMap_cons, hf]; exact List.mem_cons_self)
      obtain ⟨sl, e⟩ := I.base.slot L o ho (I.ok.frf L hL) hL fun z => I.ok.exfs L z hL
      exact ⟨hk, ⟨L, _, hf, hn, e, hd⟩, ih (fun b hb => hs b (by unfold frs; rw [List.filterMap_cons, hf]; exact List.mem_cons_of_mem _ hb)) hr⟩
  exact all X.outer (fun _ hb => hb) I.ok.funs
theorem Inv.stack (I : Inv X pins σ H s) : s.heap.FunFrames X.base X.stack := by
  rcases I.ok.stk with e | ⟨e, hf⟩
  · rw [e]; exact I.funs
  · rw [e]
    obtain ⟨m, hn, _⟩ := I.loc
    refine .cons (by rw [I.ok.kind]; decide) hf hn ?_ I.funs
    exact Heap.get?_none_of_le (Nat.le_trans I.ok.bsz I.ok.above)
theorem Inv.stkSub (I : Inv X pins σ H s) : ∀ b ∈ frs X.stack, b ∈ X.env.locals :: X.fs := fun b hb => by
  rcases I.ok.stk with e | ⟨e, hf⟩
  · rw [e] at hb; exact List.mem_cons_of_mem _ hb
  · rw [e] at hb
    unfold frs at hb
    rw [List.filterMap_cons, hf] at hb
    exact hb
theorem Inv.stkFree (I : Inv X pins σ H s) : ∀ b ∈ frs X.stack, H b = none := fun b hb => by
  rcases List.mem_cons.mp (I.stkSub b hb) with e | hb
  · rw [e]; exact I.free
  · obtain ⟨_, o, ho, _⟩ := I.ok.funs.mem hb
    exact I.base.free b o ho (I.ok.frf b hb) fun z => I.ok.exfs b z hb
theorem Inv.step {g' : Array GenState} {t' : Nat} {d' : Drawn} {ch : List Addr} (I : Inv X pins σ H s)
    (hch : ∀ b ∈ ch, (b ∈ X.ex ∨ X.s₀.heap.objs.size ≤ b) ∧ b ≠ X.env.locals ∧ (∀ x c, X.env.cells.lookup x = some c → c ≠ b) ∧ ∀ p ∈ X.pn ++ pins, p.1 ≠ b)
    (keep : ∀ b o, b ≠ X.env.locals → b ∉ X.fs → b ∉ ch → s.heap.get? b = some o → H b = none → h'.get? b = some o)
    (slot : ∀ b o, b ≠ X.env.locals → b ∈ X.fs → b ∉ ch → s.heap.get? b = some o → H b = none → ∃ sl, h'.get? b = some { o with slots := sl }) (free : ∀ b o, b ∉ ch → s.heap.get? b = some o → H b = none → H' b = none)
    (there : ∀ b o, b ∉ ch → s.heap.get? b = some o → ∃ o', h'.get? b = some o')
    (tups : ∀ b xs, H b = some (.tup xs) → H' b = some (.tup xs)) (frzs : ∀ b o u, H b = some (.frz o u) → H' b = some (.frz o u)) (tbls : ∀ b ps, H b = some (.tbl ps) → ∃ more, H' b = some (.tbl (ps ++ more)))
    (ns : ∀ m, s.heap.Ns X.env.locals m → h'.Ns X.env.locals m) (hok : HOk X.prog X.w H' h') (hg : AllBare g') :
    Inv X pins σ H' { s with heap := h', gens := g', drawn := d', toks := t' } := by
  have neL : ∀ b o, X.s₀.heap.get? b = some o → b ≠ X.env.locals := fun b o e => Nat.ne_of_lt (Nat.lt_of_lt_of_le (Heap.lt_size e) I.ok.above)
  have neC : ∀ b o, X.s₀.heap.get? b = some o → b ∉ X.ex → b ∉ ch := fun b o e hx hb => by
    rcases (hch b hb).1 with z | z
    · exact hx z
    · exact absurd (Nat.lt_of_lt_of_le (Heap.lt_size e) z) (Nat.lt_irrefl _)
  have cellK : ∀ x c, X.env.cells.lookup x = some c → ∀ v, s.heap.IsCell c v → h'.IsCell c v := fun x c e v ⟨o, ho, hd⟩ => by
    have nch : c ∉ ch := fun z => (hch c z).2.2.1 x c e rfl
    by_cases hc : c ∈ X.fs
    · obtain ⟨sl, q⟩ := slot c o (I.cne x c e) hc nch ho (I.freeC x c e)
      exact ⟨_, q, hd⟩
    · exact ⟨o, keep c o (I.cne x c e) hc nch ho (I.freeC x c e), hd⟩
  refine ⟨I.ok, I.os, hg, ⟨fun b o e n hb hx => ?_, fun b o e n hb hx => ?_, fun b o e n hx => ?_, fun b o e hx => ?_, fun b xs e => tups b xs (I.base.tups b xs e), fun b o xs e => frzs b o xs (I.base.frzs b o xs e), fun b ps e => ?_⟩, ?_, fun x c e => ?_, ?_, fun x c e => ?_, fun p hp => ?_, hok, I.len⟩
  · exact keep b o (neL b o e) hb (neC b o e hx) (I.base.keep b o e n hb hx) (I.base.free b o e n hx)
  · obtain ⟨sl, e1⟩ := I.base.slot b o e n hb hx
    obtain ⟨sl', e2⟩ := slot b _ (neL b o e) hb (neC b o e hx) e1 (I.base.free b o e n hx)
    exact ⟨sl', e2⟩
  · obtain ⟨o', e1⟩ := I.base.there b o e hx
    exact free b o' (neC b o e hx) e1 (I.base.free b o e n hx)
  · obtain ⟨o', e1⟩ := I.base.there b o e hx
    exact there b o' (neC b o e hx) e1
  · obtain ⟨m1, e1⟩ := I.base.tbls b ps e
    obtain ⟨m2, e2⟩ := tbls b _ e1
    exact ⟨m1 ++ m2, by rw [e2, Array.append_assoc]⟩
  · obtain ⟨m, hn, hl⟩ := I.loc
    refine ⟨m, ns m hn, fun i x v e1 e2 e3 => ?_⟩
    obtain ⟨u, r, l⟩ := hl i x v e1 e2 e3
    refine ⟨u, r, ?_⟩
    rcases l with l | ⟨k, c, e, z⟩
    · exact .inl l
    · exact .inr ⟨k, c, e, cellK x c e _ z⟩
  · obtain ⟨v, z⟩ := I.cell x c e
    exact ⟨v, cellK x c e v z⟩
  · obtain ⟨m, ⟨o, _, _, ho, _⟩, _⟩ := I.loc
    exact free _ o (fun z => (hch _ z).2.1 rfl) ho I.free
  · obtain ⟨v, o, ho, hd⟩ := I.cell x c e
    exact free c o (fun z => (hch c z).2.2.1 x c e rfl) ho (I.freeC x c e)
  · obtain ⟨e, n, ne, nf, d⟩ := I.pin p hp
    have nch : p.1 ∉ ch := fun z => (hch p.1 z).2.2.2 p hp rfl
    exact ⟨keep p.1 p.2 ne nf nch e n, free p.1 p.2 nch e n, ne, nf, d⟩
theorem Inv.un {t' : Nat} (I : Inv X pins σ H s) (u : Un X.fs [] H H' s.heap h') (hok : HOk X.prog X.w H' h') : Inv X pins σ H' { s with heap := h', toks := t' } := by
  obtain ⟨m, ⟨o, es, ep, ho, r⟩, _⟩ := id I.loc
  obtain ⟨sl, hL⟩ := u.any ho I.free (by simp)
  exact I.step (g' := s.gens) (d' := s.drawn) (ch := []) (fun _ z => nomatch z) (fun b o _ hb _ e n => u.keep b o e n hb (by simp)) (fun b o _ hb _ e n => u.slot b o e n hb (by simp)) (fun b o _ e n => u.free b o e n (by simp)) (fun b o _ e => u.there b o e (by simp)) u.tups u.frzs u.tbls (fun m' hm => by
    obtain ⟨o', es', ep', ho', r'⟩ := hm
    rw [ho] at ho'; cases ho'
    exact ⟨_, es', ep', hL, r'⟩) hok I.bare
theorem Inv.call {g' : Array GenState} {t' : Nat} {d' : Drawn} {ch : List Addr} (I : Inv X pins σ H s) (u : Un (frs X.stack) ch H H' s.heap h') (hok : HOk X.prog X.w H' h') (hg : AllBare g')
    (hch : ∀ b ∈ ch, (b ∈ X.ex ∨ X.s₀.heap.objs.size ≤ b) ∧ b ≠ X.env.locals ∧ (∀ x c, X.env.cells.lookup x = some c → c ≠ b) ∧ ∀ p ∈ X.pn ++ pins, p.1 ≠ b) :
    Inv X pins σ H' { s with heap := h', gens := g', drawn := d', toks := t' } := by
  obtain ⟨m, ⟨o, es, ep, ho, r⟩, _⟩ := id I.loc
  obtain ⟨sl, hL⟩ := u.any ho I.free fun z => (hch _ z).2.1 rfl
  exact I.step (ch := ch) hch (fun b o hL hb hc e n => u.keep b o e n (fun z => (List.mem_cons.mp (I.stkSub b z)).elim hL hb) hc) (fun b o _ _ hc e n => u.any e n hc) (fun b o hc e n => u.free b o e n hc) (fun b o hc e => u.there b o e hc) u.tups u.frzs u.tbls (fun m' hm => by
    obtain ⟨o', es', ep', ho', r'⟩ := hm
    rw [ho] at ho'; cases ho'
    exact ⟨_, es', ep', hL, r'⟩) hok hg
theorem Inv.turned {t' : Nat} {it : Addr} (I : Inv X pins σ H s) (k : ∀ b o, b ≠ it → s.heap.get? b = some o → h'.get? b = some o) (hn : H it = none) (hL : it ≠ X.env.locals)
    (h1 : it ∈ X.ex ∨ X.s₀.heap.objs.size ≤ it) (h2 : ∀ x c, X.env.cells.lookup x = some c → c ≠ it) (h3 : ∀ p ∈ X.pn ++ pins, p.1 ≠ it) : Inv X pins σ H { s with heap := h', toks := t' } := by
  have nit : ∀ b u, H b = some u → b ≠ it := fun b u e z => by rw [z, hn] at e; cases e
  refine I.step (g' := s.gens) (d' := s.drawn) (ch := [it]) (fun b hb => ?_) (fun b o _ _ hc e _ => k b o (fun z => hc (by simp [z])) e) (fun b o _ _ hc e _ => ⟨o.slots, k b o (fun z => hc (by simp [z])) e⟩) (fun _ _ _ _ n => n)
    (fun b o hc e => ⟨o, k b o (fun z => hc (by simp [z])) e⟩) (fun _ _ e => e) (fun _ _ _ e => e) (fun b ps e => ⟨#[], by rw [e]; simp⟩) (fun m hm => ?_) (fun b u e => ?_) I.bare
  · have e : b = it := by simpa using hb
    subst e
    exact ⟨h1, hL, h2, h3⟩
  · obtain ⟨o, es, ep, ho, r⟩ := hm
    exact ⟨o, es, ep, k _ o (Ne.symm hL) ho, r⟩
  · refine (I.hok b u e).stay (fun c v hc q => k c v ?_ q) (fun _ q => q) fun _ _ q => q
    rcases hc with z | z
    · rw [z]; exact nit b u e
    · exact nit c _ z
theorem Inv.tok (I : Inv X pins σ H s) (t : Nat) : Inv X pins σ H { s with toks := t } := I.un (h' := s.heap) (t' := t) Un.refl I.hok
theorem Inv.kept {t' : Nat} (I : Inv X pins σ H s) (k : ∀ b u, s.heap.get? b = some u → h'.get? b = some u) : Inv X pins σ H { s with heap := h', toks := t' } := I.un (Un.kept k) (I.hok.kept k)
theorem Inv.laid {a : Addr} {o : HO} {t' : Nat} (I : Inv X pins σ H s) (k : ∀ b u, s.heap.get? b = some u → h'.get? b = some u) (hp : s.heap.objs.size ≤ a) (new : ObjOk X.prog X.w (upd H a o) h' a o) :
    Inv X pins σ (upd H a o) { s with heap := h', toks := t' } := I.un (Un.laid k hp (I.hok.fresh hp)) (I.hok.laid k hp new)
theorem Inv.write {x e : Addr} {o : HO} {t' : Nat} (I : Inv X pins σ H s) (mu : Mut (H x)) (he : e = x ∨ H e = some (.own x)) (k : ∀ b u, b ≠ e → s.heap.get? b = some u → h'.get? b = some u) (heo : ∃ u, h'.get? e = some u)
    (new : ObjOk X.prog X.w (upd H x o) h' x o) : Inv X pins σ (upd H x o) { s with heap := h', toks := t' } := I.un (Un.write mu he k heo) (I.hok.write mu he k heo new)
theorem Inv.weak {σ' : List (Option V)} (I : Inv X pins σ H s) (hl : σ'.length = σ.length) (w : ∀ (i : Nat) v, σ'[i]? = some (some v) → σ[i]? = some (some v)) : Inv X pins σ' H s :=
  ⟨I.ok, I.os, I.bare, I.base, let ⟨m, hn, hl'⟩ := I.loc; ⟨m, hn, fun i x v e1 e2 e3 => hl' i x v e1 (w i v e2) e3⟩, I.cell, I.free, I.freeC, I.pin, I.hok, hl.trans I.len⟩
theorem Inv.pins_of {pins' : List (Addr × Obj)} (I : Inv X pins σ H s) (h : ∀ p ∈ pins', s.heap.get? p.1 = some p.2 ∧ H p.1 = none ∧ p.1 ≠ X.env.locals ∧ p.1 ∉ X.fs ∧ ∀ v, p.2.data ≠ .cell v) : Inv X pins' σ H s :=
  ⟨I.ok, I.os, I.bare, I.base, I.loc, I.cell, I.free, I.freeC, fun p hp => (List.mem_append.mp hp).elim (fun z => I.pin p (List.mem_append_left _ z)) (h p), I.hok, I.len⟩
theorem nodup_ix {N : List Str} (hN : N.Nodup) {i j : Nat} {x : Str} (a : N[i]? = some x) (b : N[j]? = some x) : i = j := by
  obtain ⟨h1, e1⟩ := List.getElem?_eq_some_iff.mp a
  obtain ⟨h2, e2⟩ := List.getElem?_eq_some_iff.mp b
  exact (List.getElem_inj hN).mp (e1.trans e2.symm)
theorem store_ok2 {M : Model} {A : Around} {E : Value → Shared → Prop} {i : Nat} {x : Str} {v : V} {u : Value} {Q : Unit → Shared → Prop} (I : Inv X pins σ H s) (hN : X.N.Nodup) (hi : X.N[i]? = some x) (hx : Loc X.env.scope x) (r : RelV v u)
    (h : ∀ s', Inv X pins (σ.set i (some v)) H s' → (∃ a, Heap.SameBut a s.heap s'.heap ∧ (a = X.env.locals ∨ X.env.cells.lookup x = some a)) → Q () s') (hf : X.fn x = true ∨ X.env.scope.names.lookup x = some .local := by first | exact .inl rfl | exact .inr rfl | assumption) : wpAny M A (storeName X.env x u) Q E s := by
  obtain ⟨m, hn, hl⟩ := id I.loc
  have hcls : (X.env.scope.kind == .class || (X.env.scope.kind == .module && X.env.locals != X.env.globals)) = false := by rw [I.ok.kind]; rfl
  have hiσ : i < σ.length := by rw [I.len]; exact (List.getElem?_eq_some_iff.mp hi).1
  have cne := I.cne
  have tracked : ∀ {a : Addr} {h' : Heap}, (∃ o, s.heap.get? a = some o ∧ H a = none) → Heap.SameBut a s.heap h' → HOk X.prog X.w H h' := fun {a h'} ha hs b ob e => by
    obtain ⟨_, _, hfree⟩ := ha
    refine (I.hok b ob e).stay (fun c w' hc q => (hs.2 c ?_).trans q) (fun _ q => q) fun _ _ q => q
    rintro rfl
    rcases hc with rfl | hc
    · rw [hfree] at e; cases e
    · rw [hfree] at hc; cases hc
  rcases hx with hk | hk
  · refine wpAny_storeName_local hk hn (fun h' hn' hs => ?_) hcls
    obtain ⟨oL, _, _, hoL, _⟩ := id hn
    refine h _ ⟨I.ok, I.os, I.bare, ⟨fun b o e n hb hx => ?_, fun b o e n hb hx => ?_, I.base.free, fun b o e hx => ?_, I.base.tups, I.base.frzs, I.base.tbls⟩, ⟨_, hn', fun j y v' e1 e2 e3 => ?_⟩, fun y c e => ?_, I.free, I.freeC, fun p hp => ?_, tracked ⟨oL, hoL, I.free⟩ hs, by simpa using I.len⟩ ⟨_, hs, .inl rfl⟩
    · exact (hs.2 b (Nat.ne_of_lt (Nat.lt_of_lt_of_le (Heap.lt_size e) I.ok.above))).trans (I.base.keep b o e n hb hx)
    · obtain ⟨sl, e1⟩ := I.base.slot b o e n hb hx
      exact ⟨sl, (hs.2 b (Nat.ne_of_lt (Nat.lt_of_lt_of_le (Heap.lt_size e) I.ok.above))).trans e1⟩
    · obtain ⟨o', e1⟩ := I.base.there b o e hx
      exact ⟨o', (hs.2 b (Nat.ne_of_lt (Nat.lt_of_lt_of_le (Heap.lt_size e) I.ok.above))).trans e1⟩
    · by_cases hj : j = i
      · subst hj
        rw [hi] at e1; cases e1
        rw [List.getElem?_set_self hiσ] at e2
        cases e2
        exact ⟨u, r, .inl ⟨hk, by simp⟩⟩
      · rw [List.getElem?_set_ne (Ne.symm hj)] at e2
        obtain ⟨u', r', q⟩ := hl j y v' e1 e2 e3
        refine ⟨u', r', ?_⟩
        rcases q with ⟨k, e⟩ | ⟨k, c, e, z⟩
        · refine .inl ⟨k, ?_⟩
          have : y ≠ x := fun e => hj (nodup_ix hN e1 (e ▸ hi))
          simp [this, e]
        · exact .inr ⟨k, c, e, z.sameBut hs (cne y c e)⟩
    · obtain ⟨w', z⟩ := I.cell y c e
      exact ⟨w', z.sameBut hs (cne y c e)⟩
    · obtain ⟨e, n, ne, nf, d⟩ := I.pin p hp
      exact ⟨(hs.2 p.1 ne).trans e, n, ne, nf, d⟩
  · have hfn : X.fn x = true := by
      rcases hf with z | z
      · exact z
      · rw [z] at hk; cases hk
    obtain ⟨c, hc⟩ := I.ok.has x (.inl hk)
    obtain ⟨w', z⟩ := I.cell x c hc
    refine wpAny_storeName_cell I.ok.kind hk hc z (fun h' hc' hs => ?_)
    obtain ⟨oc, hoc, hocd⟩ := id z
    refine h { s with heap := h' } ⟨I.ok, I.os, I.bare, ⟨fun b o e n hb hx => ?_, fun b o e n hb hx => ?_, I.base.free, fun b o e hx => ?_, I.base.tups, I.base.frzs, I.base.tbls⟩, ⟨m, hn.sameBut hs (Ne.symm (cne x c hc)), fun j y v' e1 e2 e3 => ?_⟩, fun y c' e => ?_, I.free, I.freeC, fun p hp => ?_, tracked ⟨oc, hoc, I.freeC x c hc⟩ hs, by simpa using I.len⟩ ⟨c, hs, .inr hc⟩
    · exact (hs.2 b (Nat.ne_of_lt (Nat.lt_of_lt_of_le (Heap.lt_size e) (I.ok.cab x c hfn hc)))).trans (I.base.keep b o e n hb hx)
    · obtain ⟨sl, e1⟩ := I.base.slot b o e n hb hx
      exact ⟨sl, (hs.2 b (Nat.ne_of_lt (Nat.lt_of_lt_of_le (Heap.lt_size e) (I.ok.cab x c hfn hc)))).trans e1⟩
    · obtain ⟨o', e1⟩ := I.base.there b o e hx
      exact ⟨o', (hs.2 b (Nat.ne_of_lt (Nat.lt_of_lt_of_le (Heap.lt_size e) (I.ok.cab x c hfn hc)))).trans e1⟩
    · by_cases hj : j = i
      · subst hj
        rw [hi] at e1; cases e1
        rw [List.getElem?_set_self hiσ] at e2
        cases e2
        exact ⟨u, r, .inr ⟨.inl hk, c, hc, hc'⟩⟩
      · rw [List.getElem?_set_ne (Ne.symm hj)] at e2
        obtain ⟨u', r', q⟩ := hl j y v' e1 e2 e3
        refine ⟨u', r', ?_⟩
        rcases q with q | ⟨k, c', e, z'⟩
        · exact .inl q
        · refine .inr ⟨k, c', e, z'.sameBut hs ?_⟩
          rintro rfl
          exact hj (nodup_ix hN e1 (I.ok.inj _ _ _ e hc ▸ hi))
    · by_cases hcc : c' = c
      · subst hcc; exact ⟨_, hc'⟩
      · obtain ⟨w2, z2⟩ := I.cell y c' e
        exact ⟨w2, z2.sameBut hs hcc⟩
    · obtain ⟨e, n, ne, nf, d⟩ := I.pin p hp
      refine ⟨(hs.2 p.1 ?_).trans e, n, ne, nf, d⟩
      intro q
      rw [q, hoc] at e
      have q' : oc = p.2 := Option.some.inj e
      exact d w' (by rw [← q']; exact hocd)
theorem store_ok {M : Model} {A : Around} {E : Value → Shared → Prop} {i : Nat} {x : Str} {v : V} {u : Value} {Q : Unit → Shared → Prop} (I : Inv X pins σ H s) (hN : X.N.Nodup) (hi : X.N[i]? = some x) (hx : Loc X.env.scope x) (r : RelV v u)
    (h : ∀ s', Inv X pins (σ.set i (some v)) H s' → Q () s') (hf : X.fn x = true ∨ X.env.scope.names.lookup x = some .local := by first | exact .inl rfl | exact .inr rfl | assumption) : wpAny M A (storeName X.env x u) Q E s :=
  store_ok2 I hN hi hx r (fun s' I' _ => h s' I') hf
theorem Inv.call' {s' : Shared} {ch : List Addr} (I : Inv X pins σ H s) (ho : s'.os = s.os) (u : Un (frs X.stack) ch H H' s.heap s'.heap) (hok : HOk X.prog X.w H' s'.heap) (hg : AllBare s'.gens)
    (hch : ∀ b ∈ ch, (b ∈ X.ex ∨ X.s₀.heap.objs.size ≤ b) ∧ b ≠ X.env.locals ∧ (∀ x c, X.env.cells.lookup x = some c → c ≠ b) ∧ ∀ p ∈ X.pn ++ pins, p.1 ≠ b) : Inv X pins σ H' s' := by
  obtain ⟨h', g', d', t', o'⟩ := s'
  have e : o' = s.os := ho
  subst e
  exact I.call (g' := g') (t' := t') (d' := d') u hok hg hch
end
abbrev XK := Value → Option Addr → Hp → Prop
abbrev St := List (Option V)
abbrev VK := V → Hp → Prop
abbrev TE := St → Hp → VK → Prop
abbrev TT := St → Hp → (Bool → Hp → Prop) → Prop
abbrev TA := St → Hp → (List V → Hp → Prop) → Prop
structure Ends where
  nx : St → Hp → Prop
  rt : VK
  bk : St → Hp → Prop := fun _ _ => False
  ct : St → Hp → Prop := fun _ _ => False
abbrev TS := Ends → St → Hp → Prop
def EP (X : Cx) (pins : List (Addr × Obj)) (σ : St) (Q : VK) (u : Value) (s' : Shared) : Prop := ∃ v H', Inv X pins σ H' s' ∧ RelV v u ∧ Q v H'
def TP (X : Cx) (pins : List (Addr × Obj)) (σ : St) (Q : Bool → Hp → Prop) (b : Bool) (s' : Shared) : Prop := ∃ H', Inv X pins σ H' s' ∧ Q b H'
def AP (X : Cx) (pins : List (Addr × Obj)) (σ : St) (Q : List V → Hp → Prop) (us : List Value) (s' : Shared) : Prop := ∃ vs H', Inv X pins σ H' s' ∧ Vals vs us ∧ Q vs H'
def SP (X : Cx) (pins : List (Addr × Obj)) (D : Ends) (f : Flow) (s' : Shared) : Prop :=
  match f with
  | .next => ∃ σ' H', Inv X pins σ' H' s' ∧ D.nx σ' H'
  | .brk => ∃ σ' H', Inv X pins σ' H' s' ∧ D.bk σ' H'
  | .cont => ∃ σ' H', Inv X pins σ' H' s' ∧ D.ct σ' H'
  | .ret u => ∃ v σ' H', Inv X pins σ' H' s' ∧ RelV v u ∧ D.rt v H'
def PE (X : Cx) (e : Expr) (t : TE) : Prop :=
  ∀ (pins : List (Addr × Obj)) (s : Shared) (σ : St) (H : Hp) (Q : VK), Inv X pins σ H s → t σ H Q → wpAny (model X.prog X.w) X.A (eval e X.env) (EP X pins σ Q) X.xe s
def PT (X : Cx) (e : Expr) (t : TT) : Prop :=
  ∀ (pins : List (Addr × Obj)) (s : Shared) (σ : St) (H : Hp) (Q : Bool → Hp → Prop), Inv X pins σ H s → t σ H Q → wpAny (model X.prog X.w) X.A (isTrue e X.env (eval e X.env)) (TP X pins σ Q) X.xe s
def PW (X : Cx) (e : Expr) (t : TT) : Prop :=
  ∀ (whole : Sem Value) (pins : List (Addr × Obj)) (s : Shared) (σ : St) (H : Hp) (Q : Bool → Hp → Prop), Inv X pins σ H s → t σ H Q → wpAny (model X.prog X.w) X.A (isTrue e X.env whole) (TP X pins σ Q) X.xe s
theorem PW.pt {X : Cx} {e : Expr} {t : TT} (h : PW X e t) : PT X e t := h _
def PA (X : Cx) (es : List Expr) (t : TA) : Prop :=
  ∀ (pos : Pos) (pins : List (Addr × Obj)) (s : Shared) (σ : St) (H : Hp) (Q : List V → Hp → Prop), Inv X pins σ H s → t σ H Q → wpAny (model X.prog X.w) X.A (spliced (backTo pos (starEach es X.env))) (AP X pins σ Q) X.xe s
def PS (X : Cx) (st : Stmt) (t : TS) : Prop :=
  ∀ (pins : List (Addr × Obj)) (s : Shared) (σ : St) (H : Hp) (D : Ends), Inv X pins σ H s → t D σ H → wpAny (model X.prog X.w) X.A (exec st X.env) (SP X pins D) X.xe s
def PSs (X : Cx) (st : List Stmt) (t : TS) : Prop :=
  ∀ (pins : List (Addr × Obj)) (s : Shared) (σ : St) (H : Hp) (D : Ends), Inv X pins σ H s → t D σ H → wpAny (model X.prog X.w) X.A (execs st X.env) (SP X pins D) X.xe s
theorem thn {α : Type} {t : Sem α} {Q Q' : α → Shared → Prop} {M : Model} {A : Around} {E : Value → Shared → Prop} {s : Shared} (h : wpAny M A t Q E s) (hQ : ∀ a s, Q a s → Q' a s) : wpAny M A t Q' E s := wpAny_mono h hQ fun _ _ x => x
end L2
namespace L2
open PySem PySem.Spec PyProof.Rows
section
variable {X : Cx}
def tVar (i : Nat) : TE := fun σ H Q => ∃ v, σ[i]? = some (some v) ∧ Q v H
def tC (v : V) : TE := fun _ H Q => Q v H
theorem pe_var {i : Nat} {x : Str} {pos : Pos} (hN : X.N[i]? = some x) (hv : Vis X.env.scope x) (hd : (x == ("__debug__" : Str)) = false := by decide) (hcd : (x == ("__classdict__" : Str)) = false := by decide) : PE X (.Name x pos) (tVar i) := by
  intro pins s σ H Q I h
  obtain ⟨v, e, h⟩ := h
  obtain ⟨m, hn, hl⟩ := I.loc
  obtain ⟨u, r, l⟩ := hl i x v hN e hv
  have fin : EP X pins σ Q u s := ⟨v, H, I, r, h⟩
  rcases l with ⟨hk, hm⟩ | ⟨hk, c, hc, hcell⟩
  · exact wpAny_Name (wpAny_loadName_local I.ok.kind hk hn hm fin) hd
  · rcases hk with hk | hk
    · exact wpAny_Name (wpAny_loadName_cell I.ok.kind hk hc hcell fin) hd
    · exact wpAny_Name (wpAny_loadName_free I.ok.kind hk hc hcell fin hcd) hd
theorem pe_int {i j pos} : PE X (.Constant (.int i) j pos) (tC (.int i)) := fun _ _ _ H _ I h => wpAny_Constant_int ⟨.int i, H, I.tok _, ⟨_, rfl⟩, h⟩
theorem pe_bl {b j pos} : PE X (.Constant (.bool b) j pos) (tC (.bl b)) := fun _ _ _ H _ I h => Constant_bool ⟨.bl b, H, I, rfl, h⟩
theorem pe_non {j pos} : PE X (.Constant .none j pos) (tC .non) := fun _ _ _ H _ I h => Constant_none ⟨.non, H, I, rfl, h⟩
theorem pe_str {x j pos} : PE X (.Constant (.str x) j pos) (tC (.str x)) := fun _ _ _ H _ I h => Calls.Constant_str ⟨.str x, H, I.tok _, ⟨_, rfl⟩, h⟩
def Gl (X : Cx) (x : Str) : Prop := X.env.kindOf x = some .globalImplicit
theorem ld_glob {E : Value → Shared → Prop} {pins : List (Addr × Obj)} {s : Shared} {σ : St} {H : Hp} {x : Str} {u : Value} {pos : Pos} {Q : Value → Shared → Prop} (I : Inv X pins σ H s) (hg : Gl X x) (hm : X.mg x = some u) (h : Q u s)
    (hd : (x == ("__debug__" : Str)) = false := by decide) : wpAny (model X.prog X.w) X.A (eval (.Name x pos) X.env) Q E s :=
  Calls.Name_function_global I.ok.kind hg (Calls.loadGlobal_global (by rw [I.ok.glob]; exact I.mod.glob.keeps I.bk) hm h) hd
theorem ld_blt {E : Value → Shared → Prop} {pins : List (Addr × Obj)} {s : Shared} {σ : St} {H : Hp} {x : Str} {u : Value} {pos : Pos} {Q : Value → Shared → Prop} (I : Inv X pins σ H s) (hg : Gl X x) (hm : X.mg x = none) (hv : bootBuiltins x = some u) (h : Q u s)
    (hn : x ≠ "__name__" := by decide) (hd : (x == ("__debug__" : Str)) = false := by decide) : wpAny (model X.prog X.w) X.A (eval (.Name x pos) X.env) Q E s := by
  obtain ⟨mb, h1, h2⟩ := I.mod.blt
  exact Calls.Name_function_global I.ok.kind hg (Calls.loadGlobal_builtin (by rw [I.ok.glob]; exact I.mod.glob.keeps I.bk) hm (by rw [I.ok.blt]; exact h1.keeps I.bk) ((h2 x hn).trans hv) h) hd
theorem pe_glob {x : Str} {v : V} {u : Value} {pos : Pos} (hg : Gl X x) (hm : X.mg x = some u) (r : RelV v u) (hd : (x == ("__debug__" : Str)) = false := by decide) : PE X (.Name x pos) (tC v) :=
  fun _ _ _ H _ I h => ld_glob I hg hm ⟨v, H, I, r, h⟩ hd
theorem pe_bltn {x : Str} {v : V} {u : Value} {pos : Pos} (hg : Gl X x) (hm : X.mg x = none) (hv : bootBuiltins x = some u) (r : RelV v u) (hn : x ≠ "__name__" := by decide) (hd : (x == ("__debug__" : Str)) = false := by decide) : PE X (.Name x pos) (tC v) :=
  fun _ _ _ H _ I h => ld_blt I hg hm hv ⟨v, H, I, r, h⟩ hn hd
variable {a b : Expr} {ta tb : TE} {pos : Pos}
def PC (X : Cx) (op : CmpOp) (a b : Expr) (t : TE) : Prop :=
  ∀ (pins : List (Addr × Obj)) (s : Shared) (σ : St) (H : Hp) (Q : VK), Inv X pins σ H s → t σ H Q →
    wpAny (model X.prog X.w) X.A (eval a X.env) (fun v s₁ => wpAny (model X.prog X.w) X.A (eval b X.env) (fun u s₂ => wpAny (model X.prog X.w) X.A (compareOp op v u) (EP X pins σ Q) X.xe s₂) X.xe s₁) X.xe s
theorem nobehind (b : Expr) {op : CmpOp} (h : op ≠ .In) (h2 : op ≠ .NotIn) : behindInMarks op b = false := by
  have e1 : (op == CmpOp.In) = false := by cases op <;> first | rfl | exact absurd rfl h
  have e2 : (op == CmpOp.NotIn) = false := by cases op <;> first | rfl | exact absurd rfl h2
  cases b <;> simp [behindInMarks, e1, e2]
def tIsN (ta : TE) : TE := fun σ H Q => ta σ H fun x H1 => Q (.bl (decide (x = .non))) H1
def tNotN (ta : TE) : TE := fun σ H Q => ta σ H fun x H1 => Q (.bl (!decide (x = .non))) H1
theorem RelV.none_iff {x : V} {v : Value} (r : RelV x v) : (v == Value.none) = decide (x = .non) := by
  cases x with
  | non => cases r; rfl
  | bl _ => cases r; rfl
  | int _ => obtain ⟨t, rfl⟩ := r; rfl
  | str _ => obtain ⟨t, rfl⟩ := r; rfl
  | byt _ => obtain ⟨t, rfl⟩ := r; rfl
  | flt _ => obtain ⟨t, rfl⟩ := r; rfl
  | ref _ => cases r; rfl
  | ty _ => cases r; rfl
theorem pc_isN {j pos'} (ha : PE X a ta) : PC X .Is a (.Constant .none j pos') (tIsN ta) := by
  intro pins s σ H Q I h
  refine thn (ha pins s σ H _ I h) fun v s1 ⟨x, H1, I1, r1, q1⟩ => ?_
  exact Constant_none (is_none_gen ⟨.bl _, H1, I1, by rw [r1.none_iff]; rfl, q1⟩)
theorem pc_notN {j pos'} (ha : PE X a ta) : PC X .IsNot a (.Constant .none j pos') (tNotN ta) := by
  intro pins s σ H Q I h
  refine thn (ha pins s σ H _ I h) fun v s1 ⟨x, H1, I1, r1, q1⟩ => ?_
  exact Constant_none (isnot_none_gen ⟨.bl _, H1, I1, by rw [r1.none_iff]; rfl, q1⟩)
def tB (t : TE) : TT := fun σ H Q => t σ H fun x H1 => ∃ c, x = .bl c ∧ Q c H1
theorem pe_cmp {op : CmpOp} {t : TE} (h : PC X op a b t) (h1 : behindInMarks op b = false := by first | exact nobehind _ (by decide) (by decide) | rfl) : PE X (.Compare a [op] [b] pos) t := fun pins s σ H Q I hw => wpAny_Compare1 (h pins s σ H Q I hw) h1
theorem pt_cmp {op : CmpOp} {t : TE} (h : PC X op a b t) (h1 : behindInMarks op b = false := by first | exact nobehind _ (by decide) (by decide) | rfl) : PT X (.Compare a [op] [b] pos) (tB t) := by
  intro pins s σ H Q I hw
  refine wpAny_isTrue_Compare1 (thn (h pins s σ H _ I hw) fun v s1 h1 => thn h1 fun u s2 h2 => thn h2 fun c s3 ⟨x, H1, I1, r1, q1⟩ => ?_) h1
  obtain ⟨d, rfl, q⟩ := q1
  cases r1
  exact wpAny_truthy_bool ⟨H1, I1, q⟩
variable {tA tB' : TT} {rest : List Expr}
def tAnd (t u : TT) : TT := fun σ H Q => t σ H fun c H1 => if c = true then u σ H1 Q else Q false H1
def tOr (t u : TT) : TT := fun σ H Q => t σ H fun c H1 => if c = true then Q true H1 else u σ H1 Q
def tNot (t : TT) : TT := fun σ H Q => t σ H fun c H1 => Q (!c) H1
theorem pw_and1 (ha : PT X a tA) : PW X (.BoolOp .And [a] pos) tA := by
  intro wh pins s σ H Q I h
  refine isTrue_and (thn (ha pins s σ H Q I h) fun c s1 e => ?_)
  cases c with
  | true => exact isTrue_and_nil e
  | false => exact e
theorem pw_or1 (ha : PT X a tA) : PW X (.BoolOp .Or [a] pos) tA := by
  intro wh pins s σ H Q I h
  refine isTrue_or (thn (ha pins s σ H Q I h) fun c s1 e => ?_)
  cases c with
  | false => exact isTrue_or_nil e
  | true => exact e
theorem pw_and (ha : PT X a tA) (hb : PW X (.BoolOp .And (b :: rest) pos) tB') : PW X (.BoolOp .And (a :: b :: rest) pos) (tAnd tA tB') := by
  intro wh pins s σ H Q I h
  refine isTrue_and (thn (ha pins s σ H _ I h) fun c s1 ⟨H1, I1, q1⟩ => ?_)
  cases c with
  | true => exact hb wh pins s1 σ H1 Q I1 q1
  | false => exact ⟨H1, I1, q1⟩
theorem pw_or (ha : PT X a tA) (hb : PW X (.BoolOp .Or (b :: rest) pos) tB') : PW X (.BoolOp .Or (a :: b :: rest) pos) (tOr tA tB') := by
  intro wh pins s σ H Q I h
  refine isTrue_or (thn (ha pins s σ H _ I h) fun c s1 ⟨H1, I1, q1⟩ => ?_)
  cases c with
  | true => exact ⟨H1, I1, q1⟩
  | false => exact hb wh pins s1 σ H1 Q I1 q1
theorem pt_not (ha : PT X a tA) : PT X (.UnaryOp .Not a pos) (tNot tA) := by
  intro pins s σ H Q I h
  exact isTrue_not (ha pins s σ H (fun c H1 => Q (!c) H1) I h)
def tAndV (ta tb : TE) : TE := fun σ H Q => ta σ H fun x H1 => ∃ c, x = .bl c ∧ if c = true then tb σ H1 Q else Q (.bl false) H1
def tOrV (ta tb : TE) : TE := fun σ H Q => ta σ H fun x H1 => ∃ c, x = .bl c ∧ if c = true then Q (.bl true) H1 else tb σ H1 Q
def tNotV (ta : TE) : TE := fun σ H Q => ta σ H fun x H1 => ∃ c, x = .bl c ∧ Q (.bl (!c)) H1
theorem pe_one {op} {t : TE} (h : PE X a t) : PE X (.BoolOp op [a] pos) t := fun pins s σ H Q I hw => BoolOp_one (h pins s σ H Q I hw)
theorem pe_and (ha : PE X a ta) (hb : PE X (.BoolOp .And (b :: rest) pos) tb) : PE X (.BoolOp .And (a :: b :: rest) pos) (tAndV ta tb) := by
  intro pins s σ H Q I h
  refine BoolOp_and (thn (ha pins s σ H _ I h) fun v s1 ⟨x, H1, I1, r1, q1⟩ => ?_)
  obtain ⟨c, rfl, q1⟩ := q1
  cases r1
  refine wpAny_truthy_bool ?_
  cases c with
  | true => exact hb pins s1 σ H1 Q I1 q1
  | false => exact ⟨.bl false, H1, I1, rfl, q1⟩
theorem pe_or (ha : PE X a ta) (hb : PE X (.BoolOp .Or (b :: rest) pos) tb) : PE X (.BoolOp .Or (a :: b :: rest) pos) (tOrV ta tb) := by
  intro pins s σ H Q I h
  refine BoolOp_or (thn (ha pins s σ H _ I h) fun v s1 ⟨x, H1, I1, r1, q1⟩ => ?_)
  obtain ⟨c, rfl, q1⟩ := q1
  cases r1
  refine wpAny_truthy_bool ?_
  cases c with
  | false => exact hb pins s1 σ H1 Q I1 q1
  | true => exact ⟨.bl true, H1, I1, rfl, q1⟩
theorem pe_not (ha : PE X a ta) : PE X (.UnaryOp .Not a pos) (tNotV ta) := by
  intro pins s σ H Q I h
  refine UnaryOp_ (thn (ha pins s σ H _ I h) fun v s1 ⟨x, H1, I1, r1, q1⟩ => ?_)
  obtain ⟨c, rfl, q1⟩ := q1
  cases r1
  exact not_of (wpAny_truthy_bool ⟨.bl (!c), H1, I1, rfl, q1⟩)
def tIf (t : TT) (ta tb : TE) : TE := fun σ H Q => t σ H fun c H1 => if c = true then ta σ H1 Q else tb σ H1 Q
theorem pe_ifExp {c : Expr} (hc : PT X c tA) (ha : PE X a ta) (hb : PE X b tb) : PE X (.IfExp c a b pos) (tIf tA ta tb) := by
  intro pins s σ H Q I h
  refine wpAny_IfExp (thn (hc pins s σ H _ I h) fun d s1 ⟨H1, I1, q1⟩ => ?_)
  cases d with
  | true => exact ha pins s1 σ H1 Q I1 q1
  | false => exact hb pins s1 σ H1 Q I1 q1
end
end L2
namespace L2
open PySem PySem.Spec PyProof.Rows
def SqL (K : PySem.W.Frag) (H : Hp) (a : Addr) (xs : List V) : Prop :=
  Rd H a (.lst xs) ∨
    ∃ (o : Obj) (its : Array Value) (n : Nat), K.lookup a = some o ∧ o.cls = .type "list" ∧ o.dict = none ∧ o.data = .seq its n ∧ its.size ≤ sizeLine ∧ Vals xs its.toList
def SqT (K : PySem.W.Frag) (H : Hp) (a : Addr) (xs : List V) : Prop :=
  Rd H a (.tup xs) ∨
    ∃ (o : Obj) (its : Array Value) (n : Nat), K.lookup a = some o ∧ o.cls = .type "tuple" ∧ o.data = .seq its n ∧ its.size ≤ sizeLine ∧ Vals xs its.toList
def absV : Value → Option V
  | .none => some .non
  | .bool b => some (.bl b)
  | .int i _ => some (.int i)
  | .str x _ => some (.str x)
  | .bytes b _ => some (.byt b)
  | .float b _ => some (.flt b)
  | .ref a => some (.ref a)
  | .type n => some (.ty n)
  | _ => none
theorem RelV.abs {x : V} {u : Value} (r : RelV x u) : absV u = some x := by
  cases x with
  | non => cases r; rfl
  | bl _ => cases r; rfl
  | int _ => obtain ⟨t, rfl⟩ := r; rfl
  | str _ => obtain ⟨t, rfl⟩ := r; rfl
  | byt _ => obtain ⟨t, rfl⟩ := r; rfl
  | flt _ => obtain ⟨t, rfl⟩ := r; rfl
  | ref _ => cases r; rfl
  | ty _ => cases r; rfl
theorem RelV.inj {x y : V} {u : Value} (r : RelV x u) (q : RelV y u) : x = y := Option.some.inj (r.abs.symm.trans q.abs)
theorem Vals.inj : ∀ {xs ys : List V} {us : List Value}, Vals xs us → Vals ys us → xs = ys
  | _, _, _, .nil, .nil => rfl
  | _, _, _, .cons r t, .cons r' t' => by rw [r.inj r', Vals.inj t t']
section
variable {X : Cx} {pins : List (Addr × Obj)} {σ : St} {H : Hp} {s : Shared} {a : Addr} {xs ys : List V}
theorem SqL.of {K : PySem.W.Frag} (h : H a = some (.lst xs)) : SqL K H a xs := .inl (.inl h)
theorem SqT.of {K : PySem.W.Frag} (h : H a = some (.tup xs)) : SqT K H a xs := .inl (.inl h)
theorem Inv.list (I : Inv X pins σ H s) (h : SqL X.K H a xs) : ∃ its : List Value, Vals xs its ∧ PlainL s.heap a its.toArray ∧ xs.length ≤ sizeLine := by
  rcases h with h | ⟨o, its, n, hk, hc, hd, hs, hz, r⟩
  · obtain ⟨z, its, n, r, e⟩ := h.ok I.hok
    exact ⟨its, r, ⟨_, n, e, rfl, rfl, rfl⟩, z⟩
  · refine ⟨its.toList, r, ⟨o, n, I.kIn a o hk, hc, hd, by simpa using hs⟩, ?_⟩
    have e := r.length
    simp only [Array.length_toList] at e
    omega
theorem Inv.tuple (I : Inv X pins σ H s) (h : SqT X.K H a xs) : ∃ its : List Value, Vals xs its ∧ IsTup s.heap a its.toArray ∧ xs.length ≤ sizeLine := by
  rcases h with h | ⟨o, its, n, hk, hc, hs, hz, r⟩
  · obtain ⟨z, its, r, p⟩ := h.ok I.hok
    exact ⟨its, r, p, z⟩
  · refine ⟨its.toList, r, ⟨o, I.kIn a o hk, hc, n, by simpa using hs⟩, ?_⟩
    have e := r.length
    simp only [Array.length_toList] at e
    omega
theorem Inv.list_inj (I : Inv X pins σ H s) (h : SqL X.K H a xs) (h' : SqL X.K H a ys) : xs = ys := by
  obtain ⟨its, r, ⟨o, n, e, _, _, d⟩, _⟩ := I.list h
  obtain ⟨its', r', ⟨o', n', e', _, _, d'⟩, _⟩ := I.list h'
  rw [e] at e'; cases e'
  rw [d] at d'
  injection d' with d1 _
  have : its = its' := by simpa using congrArg Array.toList d1
  subst this
  exact r.inj r'
theorem Inv.tuple_inj (I : Inv X pins σ H s) (h : SqT X.K H a xs) (h' : SqT X.K H a ys) : xs = ys := by
  obtain ⟨its, r, ⟨o, e, _, n, d⟩, _⟩ := I.tuple h
  obtain ⟨its', r', ⟨o', e', _, n', d'⟩, _⟩ := I.tuple h'
  rw [e] at e'; cases e'
  rw [d] at d'
  injection d' with d1 _
  have : its = its' := by simpa using congrArg Array.toList d1
  subst this
  exact r.inj r'
end
abbrev Cx.wish (X : Cx) (E : Value → Shared → Prop) : Cx := { X with xe := E }
abbrev Cx.nox (X : Cx) : Cx := X.wish fun _ _ => False
theorem Cx.Ok.wish {X : Cx} (ok : X.Ok) (E : Value → Shared → Prop) : (X.wish E).Ok :=
  ⟨ok.mod, ok.kind, ok.glob, ok.blt, ok.above, ok.inj, ok.has, ok.cab, ok.hd, ok.frames, ok.stk, ok.exf, ok.bs, ok.bsz, ok.noex, ok.exfs, ok.funs, ok.frf⟩
theorem Cx.Ok.unwish {X : Cx} {E : Value → Shared → Prop} (ok : (X.wish E).Ok) : X.Ok :=
  ⟨ok.mod, ok.kind, ok.glob, ok.blt, ok.above, ok.inj, ok.has, ok.cab, ok.hd, ok.frames, ok.stk, ok.exf, ok.bs, ok.bsz, ok.noex, ok.exfs, ok.funs, ok.frf⟩
section
variable {X : Cx} {pins : List (Addr × Obj)} {σ : St} {H : Hp} {s : Shared} {E : Value → Shared → Prop}
theorem Inv.wish (I : Inv X pins σ H s) (E : Value → Shared → Prop) : Inv (X.wish E) pins σ H s := ⟨I.ok.wish E, I.os, I.bare, I.base, I.loc, I.cell, I.free, I.freeC, I.pin, I.hok, I.len⟩
theorem Inv.unwish (I : Inv (X.wish E) pins σ H s) : Inv X pins σ H s := ⟨I.ok.unwish, I.os, I.bare, I.base, I.loc, I.cell, I.free, I.freeC, I.pin, I.hok, I.len⟩
theorem SP.unwish {D : Ends} {f : Flow} {s' : Shared} (h : SP (X.wish E) pins D f s') : SP X pins D f s' := by
  cases f with
  | next => obtain ⟨σ', H', I, q⟩ := h; exact ⟨σ', H', I.unwish, q⟩
  | brk => obtain ⟨σ', H', I, q⟩ := h; exact ⟨σ', H', I.unwish, q⟩
  | cont => obtain ⟨σ', H', I, q⟩ := h; exact ⟨σ', H', I.unwish, q⟩
  | ret u => obtain ⟨v, σ', H', I, r, q⟩ := h; exact ⟨v, σ', H', I.unwish, r, q⟩
theorem PE.nox {e : Expr} {t : TE} (h : PE X.nox e t) : PE X e t := fun pins s σ H Q I hw =>
  wpAny_mono (h pins s σ H Q (I.wish _) hw) (fun _ _ ⟨v, H', I', r, q⟩ => ⟨v, H', I'.unwish, r, q⟩) fun _ _ z => False.elim z
theorem PT.nox {e : Expr} {t : TT} (h : PT X.nox e t) : PT X e t := fun pins s σ H Q I hw =>
  wpAny_mono (h pins s σ H Q (I.wish _) hw) (fun _ _ ⟨H', I', q⟩ => ⟨H', I'.unwish, q⟩) fun _ _ z => False.elim z
theorem PSs.nox {st : List Stmt} {t : TS} (h : PSs X.nox st t) : PSs X st t := fun pins s σ H D I hw =>
  wpAny_mono (h pins s σ H D (I.wish _) hw) (fun _ _ q => q.unwish) fun _ _ z => False.elim z
end
section
variable {X : Cx} {st : Stmt} {rest : List Stmt} {t u : TS} {e : Expr} {te : TE} {pos : Pos}
def tNext : TS := fun D σ H => D.nx σ H
def tSeq (t u : TS) : TS := fun D σ H => t { D with nx := u D } σ H
theorem pss_nil : PSs X [] tNext := fun _ _ σ H _ I h => wpAny_execs_nil ⟨σ, H, I, h⟩
theorem pss_cons (h1 : PS X st t) (h2 : PSs X rest u) : PSs X (st :: rest) (tSeq t u) := by
  intro pins s σ H D I h
  refine wpAny_execs_cons (thn (h1 pins s σ H { D with nx := u D } I h) fun f s1 q => ?_)
  cases f with
  | next =>
    obtain ⟨σ', H', I', q⟩ := q
    exact h2 pins s1 σ' H' D I' q
  | ret v => exact q
  | brk => exact q
  | cont => exact q
theorem pss_one (h1 : PS X st t) : PSs X [st] t := by
  intro pins s σ H D I h
  refine wpAny_execs_cons (thn (h1 pins s σ H D I h) fun f s1 q => ?_)
  cases f with
  | next => exact wpAny_execs_nil q
  | ret v => exact q
  | brk => exact q
  | cont => exact q
def tBreak : TS := fun D σ H => D.bk σ H
def tCont : TS := fun D σ H => D.ct σ H
theorem ps_pass : PS X (.Pass pos) tNext := fun _ _ σ H _ I h => wpAny_Pass ⟨σ, H, I, h⟩
theorem ps_break : PS X (.Break pos) tBreak := fun _ _ σ H _ I h => wpAny_Break ⟨σ, H, I, h⟩
theorem ps_continue : PS X (.Continue pos) tCont := fun _ _ σ H _ I h => wpAny_Continue ⟨σ, H, I, h⟩
theorem Inv.quiet {pins : List (Addr × Obj)} {σ : St} {H : Hp} {s : Shared} (I : Inv X pins σ H s) : interactive X.env = false := by simp [interactive, I.ok.kind]
def tDrop (te : TE) : TS := fun D σ H => te σ H fun _ H1 => D.nx σ H1
theorem ps_expr (he : PE X e te) (hs : swapsWith e none pos.line X.env = pure false := by rfl) : PS X (.Expr e pos) (tDrop te) := by
  intro pins s σ H D I h
  exact wpAny_Expr_any (thn (he pins s σ H _ I h) fun v s1 ⟨x, H1, I1, r1, q1⟩ => ⟨σ, H1, I1, q1⟩) I.quiet hs
def tRet (te : TE) : TS := fun D σ H => te σ H D.rt
theorem ps_ret (he : PE X e te) : PS X (.Return (some e) pos) (tRet te) := by
  intro pins s σ H D I h
  exact wpAny_Return_some (thn (he pins s σ H _ I h) fun v s1 ⟨x, H1, I1, r1, q1⟩ => ⟨x, σ, H1, I1, r1, q1⟩)
def tIfS (c : TT) (t u : TS) : TS := fun D σ H => c σ H fun b H1 => if b = true then t D σ H1 else u D σ H1
theorem ps_if {c : Expr} {a b : List Stmt} {tc : TT} (hc : PT X c tc) (ha : PSs X a t) (hb : PSs X b u) : PS X (.If c a b pos) (tIfS tc t u) := by
  intro pins s σ H D I h
  refine wpAny_If (thn (hc pins s σ H _ I h) fun d s1 ⟨H1, I1, q1⟩ => ?_)
  cases d with
  | true => exact ha pins s1 σ H1 D I1 q1
  | false => exact hb pins s1 σ H1 D I1 q1
end
abbrev TG := V → St → Hp → (St → Hp → Prop) → Prop
abbrev TGs := List V → St → Hp → (St → Hp → Prop) → Prop
def PG (X : Cx) (target : Expr) (t : TG) : Prop :=
  ∀ (pins : List (Addr × Obj)) (s : Shared) (σ : St) (H : Hp) (v : V) (u : Value) (Q : St → Hp → Prop), Inv X pins σ H s → RelV v u → t v σ H Q →
    wpAny (model X.prog X.w) X.A (assign target X.env u) (fun _ s' => ∃ σ' H', Inv X pins σ' H' s' ∧ Q σ' H') X.xe s
def PGs (X : Cx) (ts : List Expr) (t : TGs) : Prop :=
  ∀ (pins : List (Addr × Obj)) (s : Shared) (σ : St) (H : Hp) (vs : List V) (us : List Value) (Q : St → Hp → Prop), Inv X pins σ H s → Vals vs us → t vs σ H Q →
    wpAny (model X.prog X.w) X.A (assignInOrder ((assignEach ts X.env).map (·.2)) us) (fun _ s' => ∃ σ' H', Inv X pins σ' H' s' ∧ Q σ' H') X.xe s
abbrev TSet := V → V → V → Hp → (Hp → Prop) → Prop
def PSet (X : Cx) (t : TSet) : Prop :=
  ∀ (pins : List (Addr × Obj)) (s : Shared) (σ : St) (H : Hp) (o i v : V) (ov iv u : Value) (Q : Hp → Prop), Inv X pins σ H s → RelV o ov → RelV i iv → RelV v u → t o i v H Q →
    wpAny (model X.prog X.w) X.A (setItem ov iv u) (fun _ s' => ∃ H', Inv X pins σ H' s' ∧ Q H') X.xe s
section
variable {X : Cx} {pos : Pos}
def gName (i : Nat) : TG := fun v σ H Q => Q (σ.set i (some v)) H
theorem pg_name {i : Nat} {x : Str} (hN : X.N.Nodup) (hi : X.N[i]? = some x) (hx : Loc X.env.scope x) (hf : X.fn x = true ∨ X.env.scope.names.lookup x = some .local := by first | exact .inl rfl | exact .inr rfl | assumption) : PG X (.Name x pos) (gName i) := by
  intro pins s σ H v u Q I r h
  exact wpAny_assign_Name (store_ok I hN hi hx r (fun s' I' => ⟨_, H, I', h⟩) hf)
def gNil : TGs := fun vs σ H Q => vs = [] ∧ Q σ H
def gCons (t : TG) (u : TGs) : TGs := fun vs σ H Q => ∃ v r, vs = v :: r ∧ t v σ H fun σ' H' => u r σ' H' Q
theorem pgs_nil : PGs X [] gNil := by
  intro pins s σ H vs us Q I r h
  obtain ⟨e, h⟩ := h
  subst e
  cases r
  exact assignInOrder_nil ⟨σ, H, I, h⟩
theorem pgs_cons {e : Expr} {es : List Expr} {t : TG} {u : TGs} (h1 : PG X e t) (h2 : PGs X es u)
    (hs : (assignEach (e :: es) X.env).map (·.2) = assign e X.env :: (assignEach es X.env).map (·.2) := by rfl) : PGs X (e :: es) (gCons t u) := by
  intro pins s σ H vs us Q I r h
  obtain ⟨v, vr, e1, h⟩ := h
  subst e1
  cases r with
  | cons r rr =>
    rw [hs]
    refine assignInOrder_cons (thn (h1 pins s σ H _ _ _ I r h) fun _ s1 ⟨σ1, H1, I1, q1⟩ => ?_)
    exact h2 pins s1 σ1 H1 _ _ Q I1 rr q1
def gTup (K : PySem.W.Frag) (n : Nat) (t : TGs) : TG := fun v σ H Q => ∃ a xs, v = .ref a ∧ SqT K H a xs ∧ xs.length = n ∧ t xs σ H Q
theorem pg_tup {es : List Expr} {k : Nat} {t : TGs} {n : Nat} (hc : X.calm = true) (h : PGs X es t)
    (hn : (assignEach es X.env).length = n := by rfl) (hst : (assignEach es X.env).findIdx? (·.1) = none := by rfl) : PG X (.Tuple es k pos) (gTup X.K n t) := by
  intro pins s σ H v u Q I r hw
  obtain ⟨a, xs, e1, hq, hl, hw⟩ := hw
  subst e1
  cases r
  obtain ⟨its, rv, ht, hz⟩ := I.tuple hq
  refine assign_Tuple_tuple (I.ok.hd hc) ht (by simp [hn, ← hl, rv.length]) hst fun h' hx => ?_
  have I1 : Inv X pins σ H { s with heap := h' } := I.kept (t' := s.toks) fun b o e => hx b o (Nat.ne_of_lt (Heap.lt_size e)) e
  exact h pins _ σ H xs _ Q I1 (by simpa using rv) hw
def gSub (to ti : TE) (t : TSet) : TG := fun v σ H Q => to σ H fun o H1 => ti σ H1 fun i H2 => t o i v H2 fun H3 => Q σ H3
theorem pg_sub {o i : Expr} {to ti : TE} {t : TSet} (ho : PE X o to) (hi : PE X i ti) (hs : PSet X t)
    (ha : ∀ v, assign (.Subscript o i pos) X.env v = (do
      let ov ← holding [v] (eval o X.env)
      let iv ← holding [v, ov] (eval i X.env)
      standAt pos
      holding [v, ov, iv] (setItem ov iv v)
      release [v, ov, iv] []) := by intro _; rfl) : PG X (.Subscript o i pos) (gSub to ti t) := by
  intro pins s σ H v u Q I r h
  rw [ha]
  refine wpAny_bind (wpAny_holding (thn (ho pins s σ H _ I h) fun ov s1 ⟨x, H1, I1, r1, q1⟩ => ?_))
  refine wpAny_bind (wpAny_holding (thn (hi pins s1 σ H1 _ I1 q1) fun iv s2 ⟨y, H2, I2, r2, q2⟩ => ?_))
  refine wpAny_bind (wpAny_standAt (wpAny_bind (wpAny_holding (thn (hs pins s2 σ H2 x y v ov iv u _ I2 r1 r2 r q2) fun _ s3 ⟨H3, I3, q3⟩ => ?_))))
  exact wpAny_release ⟨σ, H3, I3, q3⟩
def tAsg (te : TE) (g : TG) : TS := fun D σ H => te σ H fun x H1 => g x σ H1 D.nx
theorem ps_asg {tg e : Expr} {te : TE} {g : TG} (he : PE X e te) (hg : PG X tg g) (hs : swapsWithSole [tg] e pos.line X.env = pure false := by rfl) (hw : swappedStores [tg] e X.env = pure none := by rfl)
    (h1 : (assignEach [tg] X.env).map (·.2) = [assign tg X.env] := by rfl) : PS X (.Assign [tg] e pos) (tAsg te g) := by
  intro pins s σ H D I h
  refine wpAny_Assign_stores (thn (he pins s σ H _ I h) fun v s1 ⟨x, H1, I1, r1, q1⟩ => ?_) hs hw
  rw [h1]
  exact thn (hg pins s1 σ H1 x v _ I1 r1 q1) fun _ s2 q => q
theorem ps_set {i : Nat} {x : Str} {e : Expr} {te : TE} {pos' : Pos} (hN : X.N.Nodup) (hi : X.N[i]? = some x) (hx : Loc X.env.scope x) (he : PE X e te) (hs : swapsWith e (some (.Name x pos')) pos.line X.env = pure false := by rfl) (hf : X.fn x = true ∨ X.env.scope.names.lookup x = some .local := by first | exact .inl rfl | exact .inr rfl | assumption) :
    PS X (.Assign [.Name x pos'] e pos) (tAsg te (gName i)) := by
  intro pins s σ H D I h
  refine wpAny_Assign_Name (thn (he pins s σ H _ I h) fun v s1 ⟨y, H1, I1, r1, q1⟩ => ?_) hs
  exact store_ok I1 hN hi hx r1 (fun s2 I2 => ⟨_, H1, I2, q1⟩) hf
end
section
variable {X : Cx} {pos : Pos}
end
structure It where
  go : Nat → Hp → Prop
  yld : Nat → Hp → V → Hp → Prop
  stop : Nat → Hp → Prop
def FpOk (X : Cx) (pins : List (Addr × Obj)) (H : Hp) (b : Addr) : Prop :=
  H b = none ∧ b ≠ X.env.locals ∧ b ∉ X.fs ∧ (b ∈ X.ex ∨ X.s₀.heap.objs.size ≤ b) ∧ (∀ x c, X.env.cells.lookup x = some c → c ≠ b) ∧ ∀ p ∈ X.pn ++ pins, p.1 ≠ b
theorem Inv.fpOk {X : Cx} {pins : List (Addr × Obj)} {σ : St} {H H' : Hp} {s : Shared} {b : Addr} (I : Inv X pins σ H s) (hb : s.heap.objs.size ≤ b) (hn : H' b = none) : FpOk X pins H' b := by
  refine ⟨hn, Nat.ne_of_gt (Nat.lt_of_lt_of_le I.lt hb), I.nofs hb, .inr (Nat.le_trans I.sz hb), fun x c e z => ?_, fun p hp z => ?_⟩
  · obtain ⟨v, q⟩ := I.cell x c e
    exact absurd (Nat.lt_of_lt_of_le q.lt (by rw [z]; exact hb)) (Nat.lt_irrefl _)
  · exact absurd (Nat.lt_of_lt_of_le (Heap.lt_size (I.pin p hp).1) (by rw [z]; exact hb)) (Nat.lt_irrefl _)
structure Turn (P : Program) (w : World) (K : PySem.W.Frag) (tg : Expr) (J : It) (fp : List Addr) (it : Addr) (tn : Nat → Heap → Prop) : Prop where
  mem : it ∈ fp
  obj : ∀ i h, tn i h → ∀ b ∈ fp, ∃ o, h.get? b = some o ∧ ∀ v, o.data ≠ .cell v
  keep : ∀ i h h', tn i h → (∀ b ∈ fp, ∀ o, h.get? b = some o → h'.get? b = some o) → tn i h'
  item : ∀ (X : Cx), X.prog = P → X.w = w → X.K = K → X.calm = true → ∀ (i : Nat) (pins : List (Addr × Obj)) (s : Shared) (σ : St) (H : Hp) (E : Value → Shared → Prop), Inv X pins σ H s → (∀ b ∈ fp, FpOk X pins H b) → tn i s.heap → J.go i H →
    wpAny (model P w) X.A (pyNext (.ref it)) (fun r s1 => ∃ u, r = some u ∧
      wpAny (model P w) X.A (letOwnedTupleGo tg (.ref it) u) (fun _ s2 => ∃ x H', Inv X pins σ H' s2 ∧ RelV x u ∧ J.yld i H x H' ∧ tn (i + 1) s2.heap ∧ ∀ b ∈ fp, H' b = none) E s1) E s
  done : ∀ (X : Cx), X.prog = P → X.w = w → X.K = K → X.calm = true → ∀ (i : Nat) (pins : List (Addr × Obj)) (s : Shared) (σ : St) (H : Hp) (E : Value → Shared → Prop), Inv X pins σ H s → (∀ b ∈ fp, FpOk X pins H b) → tn i s.heap → J.stop i H →
    wpAny (model P w) X.A (pyNext (.ref it)) (fun r s1 => r = none ∧ Inv X pins σ H s1) E s
  self : ∀ (A : Around) (i : Nat) (s : Shared) (Q : Value → Shared → Prop) (E : Value → Shared → Prop), tn i s.heap → Q (.ref it) s → wpAny (model P w) A (pyIter (.ref it)) Q E s
abbrev TI := St → Hp → (It → Hp → Prop) → Prop
def PIE (X : Cx) (pins : List (Addr × Obj)) (σ : St) (tg : Expr) (R : It → Hp → Prop) (itv : Value) (s2 : Shared) : Prop :=
  ∃ (it : Addr) (fp : List Addr) (tn : Nat → Heap → Prop) (J : It) (H' : Hp), itv = .ref it ∧ Inv X pins σ H' s2 ∧ Turn X.prog X.w X.K tg J fp it tn ∧ tn 0 s2.heap ∧ (∀ b ∈ fp, FpOk X pins H' b) ∧ R J H'
def PI (X : Cx) (tg iter : Expr) (wi : TI) : Prop :=
  ∀ (pins : List (Addr × Obj)) (s : Shared) (σ : St) (H : Hp) (R : It → Hp → Prop), Inv X pins σ H s → wi σ H R →
    wpAny (model X.prog X.w) X.A (eval iter X.env) (fun v s1 => wpAny (model X.prog X.w) X.A (pyIter v) (PIE X pins σ tg R) X.xe s1) X.xe s
theorem go_of {M : Model} {A : Around} {E : Value → Shared → Prop} {s : Shared} {tg : Expr} {it : Addr} {u : Value} {o : Obj} {n : String} {vs : Array Value} {Q : Unit → Shared → Prop} (ho : s.heap.get? it = some o) (hc : o.cls = .type n) (hd : o.data = .fields vs)
    (hn : ["enumerate", "zip", "dict_itemiterator", "dict_reverseitemiterator", "odict_iterator", "itertools.zip_longest", "itertools.pairwise"].contains n = false) (hQ : Q () s) : wpAny M A (letOwnedTupleGo tg (.ref it) u) Q E s := by
  unfold letOwnedTupleGo
  cases tg <;> first
    | exact wpAny_pure hQ
    | (cases u <;> first
        | exact wpAny_pure hQ
        | (refine wpAny_bind (wpAny_load ho ?_)
           rw [hc, hd]
           show wpAny M A (if (["enumerate", "zip", "dict_itemiterator", "dict_reverseitemiterator", "odict_iterator", "itertools.zip_longest", "itertools.pairwise"].contains n && vs[0]? == some (rawInt _)) = true then _ else _) Q E s
           rw [if_neg (by intro h; rw [hn, Bool.false_and] at h; cases h)]
           exact wpAny_pure hQ))
def Itl (K : PySem.W.Frag) (a : Addr) : It :=
  ⟨fun i H => ∃ xs x, SqL K H a xs ∧ xs[i]? = some x, fun i H x H' => H' = H ∧ ∀ xs, SqL K H a xs → xs[i]? = some x, fun i H => ∃ xs, SqL K H a xs ∧ xs.length ≤ i⟩
def Itt (K : PySem.W.Frag) (a : Addr) : It :=
  ⟨fun i H => ∃ xs x, SqT K H a xs ∧ xs[i]? = some x, fun i H x H' => H' = H ∧ ∀ xs, SqT K H a xs → xs[i]? = some x, fun i H => ∃ xs, SqT K H a xs ∧ xs.length ≤ i⟩
def Itr (lo : Int) (n : Nat) : It := ⟨fun i _ => i < n, fun i H x H' => H' = H ∧ x = .int (lo + i), fun i _ => n ≤ i⟩
theorem turn_list {P : Program} {w : World} {K : PySem.W.Frag} {tg : Expr} (a it : Addr) : Turn P w K tg (Itl K a) [it] it (fun i h => h.IsListIter it a i) where
  mem := by simp
  obj := fun i h st b hb => by
    have e : b = it := by simpa using hb
    subst e
    obtain ⟨o, e, c, d⟩ := st
    exact ⟨o, e, fun v z => by rw [d] at z; cases z⟩
  keep := fun i h h' st k => st.at fun o e => k it (by simp) o e
  item := by
    intro X hP hw hK hc i pins s σ H E I hf st hg
    subst hP hw hK
    obtain ⟨xs, x, hq, hx⟩ := hg
    obtain ⟨its, rv, p, hz⟩ := I.list hq
    obtain ⟨u, hu, ru⟩ := rv.get hx
    obtain ⟨f0, f1, f2, f3, f4, f5⟩ := hf it (by simp)
    refine wpAny_pyNext_list_item st p.isList (x := u) (by simpa using hu) fun h' st' sb => ?_
    have I1 : Inv X pins σ H { s with heap := h' } := I.turned (t' := s.toks) (fun b o hb e => (sb.2 b hb).trans e) f0 f1 f3 f4 f5
    obtain ⟨o, e, c, d⟩ := id st'
    exact ⟨u, rfl, go_of (s := { s with heap := h' }) e c d (by decide) ⟨x, H, I1, ru, ⟨rfl, fun ys hy => by rw [I.list_inj hy hq]; exact hx⟩, st', fun b hb => (hf b hb).1⟩⟩
  done := by
    intro X hP hw hK hc i pins s σ H E I hf st hg
    subst hP hw hK
    obtain ⟨xs, hq, hx⟩ := hg
    obtain ⟨its, rv, p, hz⟩ := I.list hq
    obtain ⟨f0, f1, f2, f3, f4, f5⟩ := hf it (by simp)
    have hl := rv.length
    exact wpAny_pyNext_list_end (I.ok.hd hc) st p.isList (by simp; omega) fun h' eb => ⟨rfl, I.turned (t' := s.toks) (fun b o hb e => eb b o hb e) f0 f1 f3 f4 f5⟩
  self := fun _ _ _ _ _ st h => wpAny_pyIter_listiter st h
theorem turn_tuple {P : Program} {w : World} {K : PySem.W.Frag} {tg : Expr} (a it : Addr) : Turn P w K tg (Itt K a) [it] it (fun i h => h.IsTupleIter it a i) where
  mem := by simp
  obj := fun i h st b hb => by
    have e : b = it := by simpa using hb
    subst e
    obtain ⟨o, e, c, d⟩ := st
    exact ⟨o, e, fun v z => by rw [d] at z; cases z⟩
  keep := fun i h h' st k => st.at fun o e => k it (by simp) o e
  item := by
    intro X hP hw hK hc i pins s σ H E I hf st hg
    subst hP hw hK
    obtain ⟨xs, x, hq, hx⟩ := hg
    obtain ⟨its, rv, p, hz⟩ := I.tuple hq
    obtain ⟨u, hu, ru⟩ := rv.get hx
    obtain ⟨f0, f1, f2, f3, f4, f5⟩ := hf it (by simp)
    refine wpAny_pyNext_tuple_item st (show s.heap.IsTuple a its.toArray from p) (x := u) (by simpa using hu) fun h' st' sb => ?_
    have I1 : Inv X pins σ H { s with heap := h' } := I.turned (t' := s.toks) (fun b o hb e => (sb.2 b hb).trans e) f0 f1 f3 f4 f5
    obtain ⟨o, e, c, d⟩ := id st'
    exact ⟨u, rfl, go_of (s := { s with heap := h' }) e c d (by decide) ⟨x, H, I1, ru, ⟨rfl, fun ys hy => by rw [I.tuple_inj hy hq]; exact hx⟩, st', fun b hb => (hf b hb).1⟩⟩
  done := by
    intro X hP hw hK hc i pins s σ H E I hf st hg
    subst hP hw hK
    obtain ⟨xs, hq, hx⟩ := hg
    obtain ⟨its, rv, p, hz⟩ := I.tuple hq
    obtain ⟨f0, f1, f2, f3, f4, f5⟩ := hf it (by simp)
    have hl := rv.length
    exact wpAny_pyNext_tuple_end (I.ok.hd hc) st (show s.heap.IsTuple a its.toArray from p) (by simp; omega) fun h' eb => ⟨rfl, I.turned (t' := s.toks) (fun b o hb e => eb b o hb e) f0 f1 f3 f4 f5⟩
  self := fun _ _ _ _ _ st h => wpAny_pyIter_tupleiter st h
theorem turn_range {P : Program} {w : World} {K : PySem.W.Frag} {tg : Expr} (it : Addr) (lo : Int) (n : Nat) : Turn P w K tg (Itr lo n) [it] it (fun i h => IsRangeIter h it (lo + (i : Nat) * 1) ((n : Int) - (i : Nat)) 1) where
  mem := by simp
  obj := fun i h st b hb => by
    have e : b = it := by simpa using hb
    subst e
    exact ⟨_, st, fun v z => by
      have z' : Data.fields _ = Data.cell v := z
      cases z'⟩
  keep := fun i h h' st k => k it (by simp) _ st
  item := by
    intro X hP hw hK hc i pins s σ H E I hf st hg
    subst hP hw hK
    obtain ⟨f0, f1, f2, f3, f4, f5⟩ := hf it (by simp)
    have W := Walks.range (prog := X.prog) (w := X.w) (I.ok.hd hc) it lo 1 n
    refine W.item i s _ _ hg st fun v h' tk hv st' kk => ?_
    obtain ⟨t, rfl⟩ := hv
    have I1 : Inv X pins σ H { s with heap := h', toks := tk } := I.turned (fun b o hb e => kk b o (by simpa using hb) e) f0 f1 f3 f4 f5
    refine ⟨_, rfl, go_of (s := { s with heap := h', toks := tk }) (n := "range_iterator") st' rfl rfl (by decide) ⟨.int (lo + i), H, I1, ⟨t, ?_⟩, ⟨rfl, rfl⟩, st', fun b hb => (hf b hb).1⟩⟩
    rw [Int.mul_one]
  done := by
    intro X hP hw hK hc i pins s σ H E I hf st hg
    subst hP hw hK
    obtain ⟨f0, f1, f2, f3, f4, f5⟩ := hf it (by simp)
    exact wpAny_pyNext_range_end (I.ok.hd hc) st (by have : n ≤ i := hg; omega) fun h' eb => ⟨rfl, I.turned (t' := s.toks) (fun b o hb e => eb b o hb e) f0 f1 f3 f4 f5⟩
  self := fun _ _ _ _ _ st h => wpAny_pyIter_rangeiter st h
end L2
namespace L2
open PySem PySem.Spec PyProof.Rows
section
variable {X : Cx} {tg : Expr}
theorem range_it {pins : List (Addr × Obj)} {σ : St} {H : Hp} {s : Shared} {R : It → Hp → Prop} {E : Value → Shared → Prop} {lo hi : Int} {t u v : Tok} {tk : Nat} (I : Inv X pins σ H s) (h1 : -(2 ^ 62) ≤ lo) (h2 : lo < 2 ^ 62) (h3 : -(2 ^ 62) ≤ hi) (h4 : hi < 2 ^ 62)
    (q : R (Itr lo (hi - lo).toNat) H) : wpAny (model X.prog X.w) X.A (pyIter (.ref s.heap.objs.size)) (PIE X pins σ tg R) E { s with heap := s.heap.push { cls := .type "range", data := .fields #[.int lo t, .int hi u, .int 1 v] }, toks := tk } := by
  refine wpAny_pyIter_range (IsRange.new ..) (small_one h1 h2 h3 h4) ?_
  have I1 : Inv X pins σ H { s with heap := s.heap.push { cls := .type "range", data := .fields #[.int lo t, .int hi u, .int 1 v] }, toks := tk } := I.kept fun b o e => Heap.get?_push_of_some _ e
  refine ⟨(s.heap.push { cls := .type "range", data := .fields #[.int lo t, .int hi u, .int 1 v] }).objs.size, [(s.heap.push { cls := .type "range", data := .fields #[.int lo t, .int hi u, .int 1 v] }).objs.size], _, _, H, rfl,
    I1.kept (t' := tk) fun b o e => Heap.get?_push_of_some _ e, turn_range _ lo (hi - lo).toNat, ?_, fun b hb => ?_, q⟩
  · have e1 : lo + ((0 : Nat) : Int) * 1 = lo := by simp
    have e2 : (((hi - lo).toNat : Nat) : Int) - ((0 : Nat) : Int) = Builtin.Range.rangeSize lo hi 1 := by rw [rangeSize_one]; split <;> omega
    show IsRangeIter _ _ (lo + ((0 : Nat) : Int) * 1) ((((hi - lo).toNat : Nat) : Int) - ((0 : Nat) : Int)) 1
    rw [e1, e2]
    exact Heap.get?_push_size _ rfl
  · have e : b = (s.heap.push { cls := .type "range", data := .fields #[.int lo t, .int hi u, .int 1 v] }).objs.size := by simpa using hb
    subst e
    exact I1.fpOk (Nat.le_refl _) (I1.hok.fresh (Nat.le_refl _))
def iRng1 (ta : TA) : TI := fun σ H R => ta σ H fun vs H1 => ∃ j : Int, vs = [.int j] ∧ -(2 ^ 62) ≤ j ∧ j < 2 ^ 62 ∧ R (Itr 0 j.toNat) H1
def iRng2 (ta : TA) : TI := fun σ H R => ta σ H fun vs H1 => ∃ i j : Int, vs = [.int i, .int j] ∧ (-(2 ^ 62) ≤ i ∧ i < 2 ^ 62 ∧ -(2 ^ 62) ≤ j ∧ j < 2 ^ 62) ∧ R (Itr i (j - i).toNat) H1
theorem pi_range1 {a : Expr} {ta : TA} {p pos : Pos} (hg : Gl X "range") (hm : X.mg "range" = none) (ha : PA X [a] ta) (hs : starEach [a] X.env = [(false, eval a X.env)] := by rfl) : PI X tg (.Call (.Name "range" p) [a] [] pos) (iRng1 ta) := by
  intro pins s σ H R I h
  refine Call_ (ld_blt I hg hm boot_range (PyProof.Rows.callWith_type1 (thn (ha pos pins s σ H _ I h) fun us s1 ⟨vs, H1, I1, r1, q1⟩ => ?_) hs rfl))
  obtain ⟨j, e, q1, q2, q⟩ := q1
  subst e
  cases r1 with
  | cons r rr =>
    cases rr
    obtain ⟨t, rfl⟩ := r
    exact call_range_1 (range_it I1 (by omega) (by omega) q1 q2 (by simpa using q))
theorem pi_range2 {a b : Expr} {ta : TA} {p pos : Pos} (hg : Gl X "range") (hm : X.mg "range" = none) (ha : PA X [a, b] ta) (hs : starEach [a, b] X.env = [(false, eval a X.env), (false, eval b X.env)] := by rfl) (hs2 : starEach [b] X.env = [(false, eval b X.env)] := by rfl) :
    PI X tg (.Call (.Name "range" p) [a, b] [] pos) (iRng2 ta) := by
  intro pins s σ H R I h
  refine Call_ (ld_blt I hg hm boot_range (PyProof.Rows.callWith_type1 (thn (ha pos pins s σ H _ I h) fun us s1 ⟨vs, H1, I1, r1, q1⟩ => ?_) (by rw [hs, hs2]) (by rw [hs2]; rfl)))
  obtain ⟨i, j, e, ⟨q1, q2, q3, q4⟩, q⟩ := q1
  subst e
  cases r1 with
  | cons r rr =>
    cases rr with
    | cons r' rr =>
      cases rr
      obtain ⟨t, rfl⟩ := r
      obtain ⟨t', rfl⟩ := r'
      exact call_range_2 (range_it I1 q1 q2 q3 q4 q)
def tFor (wi : TI) (g : TG) (tb : TS) : TS := fun D σ H => wi σ H fun J H1 => ∃ W : Nat → Nat → St → Hp → Prop, (∃ m, W 0 m σ H1) ∧ ∀ i m σ H, W i m σ H →
  (J.stop i H ∧ D.nx σ H) ∨ (J.go i H ∧ ∃ N : St → Hp → Prop, (∀ σ' H', N σ' H' → ∃ m', m' < m ∧ W (i + 1) m' σ' H') ∧ ∀ x H', J.yld i H x H' → g x σ H' fun σ2 H2 => tb { D with nx := N, ct := N, bk := D.nx } σ2 H2)
def pinsAt (fp : List Addr) (h : Heap) : List (Addr × Obj) := fp.filterMap fun b => (h.get? b).map fun o => (b, o)
theorem mem_pinsAt {fp : List Addr} {h : Heap} {b : Addr} {o : Obj} (hb : b ∈ fp) (e : h.get? b = some o) : (b, o) ∈ pinsAt fp h := List.mem_filterMap.mpr ⟨b, hb, by rw [e]; rfl⟩
theorem of_pinsAt {fp : List Addr} {h : Heap} {p : Addr × Obj} (hp : p ∈ pinsAt fp h) : p.1 ∈ fp ∧ h.get? p.1 = some p.2 := by
  obtain ⟨b, hb, e⟩ := List.mem_filterMap.mp hp
  cases q : h.get? b with
  | none => rw [q] at e; cases e
  | some o =>
    rw [q] at e
    have e' : (b, o) = p := Option.some.inj e
    subst e'
    exact ⟨hb, q⟩
theorem Inv.pinned {pins : List (Addr × Obj)} {σ : St} {H : Hp} {s : Shared} {fp : List Addr} (I : Inv X pins σ H s) (hf : ∀ b ∈ fp, FpOk X pins H b) (ho : ∀ b ∈ fp, ∃ o, s.heap.get? b = some o ∧ ∀ v, o.data ≠ .cell v) : Inv X (pins ++ pinsAt fp s.heap) σ H s :=
  I.pins_of fun p hp => (List.mem_append.mp hp).elim (fun z => I.pin p (List.mem_append_right _ z)) fun z => by
    obtain ⟨hb, e⟩ := of_pinsAt z
    obtain ⟨f0, f1, f2, _⟩ := hf p.1 hb
    obtain ⟨o, e', d⟩ := ho p.1 hb
    rw [e] at e'; cases e'
    exact ⟨e, f0, f1, f2, d⟩
theorem Inv.unpinned {pins pl : List (Addr × Obj)} {σ : St} {H : Hp} {s : Shared} (I : Inv X (pins ++ pl) σ H s) : Inv X pins σ H s := I.pins_of fun p hp => I.pin p (List.mem_append_right _ (List.mem_append_left _ hp))
theorem ps_for {iter : Expr} {body : List Stmt} {wi : TI} {g : TG} {tb : TS} {pos : Pos} (hp : PassesOwn (model X.prog X.w) X.A X.env X.xe) (hc : X.calm = true) (hi : PI X tg iter wi) (hg : PG X tg g) (hb : PSs X body tb)
    (hs : ∀ x, foldedSetIterable iter X.env x = pure x := by intro _; rfl) : PS X (.For tg iter body [] pos) (tFor wi g tb) := by
  intro pins s σ H D I h
  refine wpAny_For (thn (hi pins s σ H _ I h) fun v s1 h1 => thn h1 fun itv s2 h2 => ?_) hs
  obtain ⟨it, fp, tn, J, H2, e, I2, T, st2, f2, W, ⟨m0, w0⟩, turn⟩ := h2
  subst e
  -- what stays true of the iterator's objects through the loop
  have stat : ∀ {H' : Hp}, (∀ b ∈ fp, H' b = none) → ∀ b ∈ fp, FpOk X pins H' b := fun hn b hb => ⟨hn b hb, (f2 b hb).2⟩
  refine codeAny_forLoop_any (fun n s' => ∃ i σ' H', Inv X pins σ' H' s' ∧ tn i s'.heap ∧ (∀ b ∈ fp, H' b = none) ∧ W i n σ' H') ?_ m0 ⟨0, σ, H2, I2, st2, fun b hb => (f2 b hb).1, w0⟩
  rintro n s3 ⟨i, σ3, H3, I3, st3, fr3, w3⟩
  rcases turn i n σ3 H3 w3 with ⟨stop, qn⟩ | ⟨go, N, hN, step⟩
  · refine wpAny_passesOwn hp (thn (T.done X rfl rfl rfl hc i pins s3 σ3 H3 X.xe I3 (stat fr3) st3 stop) fun r s4 ⟨hr, I4⟩ => ?_)
    subst hr
    exact wpAny_execs_nil ⟨σ3, H3, I4, qn⟩
  · refine wpAny_passesOwn hp (thn (T.item X rfl rfl rfl hc i pins s3 σ3 H3 X.xe I3 (stat fr3) st3 go) fun r s4 ⟨u, hr, h4⟩ => ?_)
    subst hr
    refine wpAny_passesOwn hp (thn h4 fun _ s5 ⟨x, H5, I5, r5, y5, st5, fr5⟩ => ?_)
    have I5' := I5.pinned (stat fr5) (T.obj _ _ st5)
    refine wpAny_passesOwn hp (thn (hg _ s5 σ3 H5 x u _ I5' r5 (step x H5 y5)) fun _ s6 ⟨σ6, H6, I6, q6⟩ => ?_)
    refine wpAny_passesOwn hp (thn (hb _ s6 σ6 H6 _ I6 q6) fun f s7 q7 => ?_)
    have again : ∀ {σ7 : St} {H7 : Hp}, Inv X (pins ++ pinsAt fp s5.heap) σ7 H7 s7 → N σ7 H7 → ∃ m, m < n ∧ ∃ i σ' H', Inv X pins σ' H' s7 ∧ tn i s7.heap ∧ (∀ b ∈ fp, H' b = none) ∧ W i m σ' H' := fun {σ7 H7} I7 n7 => by
      obtain ⟨m', hm, w7⟩ := hN σ7 H7 n7
      refine ⟨m', hm, i + 1, σ7, H7, I7.unpinned, T.keep _ _ _ st5 fun b hb o e => (I7.pin (b, o) (List.mem_append_right _ (List.mem_append_right _ (mem_pinsAt hb e)))).1, fun b hb => ?_, w7⟩
      obtain ⟨o, e, d⟩ := T.obj _ _ st5 b hb
      exact (I7.pin (b, o) (List.mem_append_right _ (List.mem_append_right _ (mem_pinsAt hb e)))).2.1
    cases f with
    | next => obtain ⟨σ7, H7, I7, n7⟩ := q7; exact again I7 n7
    | cont => obtain ⟨σ7, H7, I7, n7⟩ := q7; exact again I7 n7
    | brk => obtain ⟨σ7, H7, I7, q7⟩ := q7; exact ⟨σ7, H7, I7.unpinned, q7⟩
    | ret v => obtain ⟨x7, σ7, H7, I7, r7, q7⟩ := q7; exact ⟨x7, σ7, H7, I7.unpinned, r7, q7⟩
end
end L2
namespace L2
open PySem PySem.Spec PyProof.Rows
abbrev R2 := V → V → Hp → VK → Prop
def OpR (X : Cx) (f : Value → Value → Sem Value) (r : R2) : Prop :=
  ∀ (pins : List (Addr × Obj)) (s : Shared) (σ : St) (H : Hp) (x y : V) (v u : Value) (Q : VK), Inv X pins σ H s → RelV x v → RelV y u → r x y H Q →
    wpAny (model X.prog X.w) X.A (f v u) (EP X pins σ Q) X.xe s
def UnR (X : Cx) (f : Value → Sem Value) (r : V → Hp → VK → Prop) : Prop :=
  ∀ (pins : List (Addr × Obj)) (s : Shared) (σ : St) (H : Hp) (x : V) (v : Value) (Q : VK), Inv X pins σ H s → RelV x v → r x H Q →
    wpAny (model X.prog X.w) X.A (f v) (EP X pins σ Q) X.xe s
def CallR (X : Cx) (f : Value) (r : List V → Hp → VK → Prop) : Prop :=
  ∀ (pins : List (Addr × Obj)) (s : Shared) (σ : St) (H : Hp) (xs : List V) (us : List Value) (Q : VK), Inv X pins σ H s → Vals xs us → r xs H Q →
    wpAny (model X.prog X.w) X.A (call f us) (EP X pins σ Q) X.xe s
def TruR (X : Cx) (r : V → Hp → (Bool → Hp → Prop) → Prop) : Prop :=
  ∀ (pins : List (Addr × Obj)) (s : Shared) (σ : St) (H : Hp) (x : V) (v : Value) (Q : Bool → Hp → Prop), Inv X pins σ H s → RelV x v → r x H Q →
    wpAny (model X.prog X.w) X.A (truthy v) (TP X pins σ Q) X.xe s
def tOp (r : R2) (ta tb : TE) : TE := fun σ H Q => ta σ H fun x H1 => tb σ H1 fun y H2 => r x y H2 Q
def tUn (r : V → Hp → VK → Prop) (ta : TE) : TE := fun σ H Q => ta σ H fun x H1 => r x H1 Q
def rI (C : Int → Int → Prop) (g : Int → Int → V) : R2 := fun x y H Q => ∃ i j, x = .int i ∧ y = .int j ∧ C i j ∧ Q (g i j) H
def rI0 (g : Int → Int → V) : R2 := fun x y H Q => ∃ i j, x = .int i ∧ y = .int j ∧ Q (g i j) H
def rU (g : Int → V) : V → Hp → VK → Prop := fun x H Q => ∃ i, x = .int i ∧ Q (g i) H
section
variable {X : Cx} {a b c : Expr} {ta tb tc : TE} {pos : Pos}
theorem binT (ha : PE X a ta) (hb : PE X b tb) {pins : List (Addr × Obj)} {s : Shared} {σ : St} {H : Hp} {R : V → V → Hp → Prop} (I : Inv X pins σ H s)
    (h : ta σ H fun x H1 => tb σ H1 fun y H2 => R x y H2) {Q : Value → Shared → Prop} {f : Value → Value → Sem Value}
    (hf : ∀ v u s2 x y H2, Inv X pins σ H2 s2 → RelV x v → RelV y u → R x y H2 → wpAny (model X.prog X.w) X.A (f v u) Q X.xe s2) :
    wpAny (model X.prog X.w) X.A (eval a X.env) (fun v s₁ => wpAny (model X.prog X.w) X.A (eval b X.env) (fun u s₂ => wpAny (model X.prog X.w) X.A (f v u) Q X.xe s₂) X.xe s₁) X.xe s := by
  refine thn (ha pins s σ H _ I h) fun v s1 ⟨x, H1, I1, r1, q1⟩ => ?_
  refine thn (hb pins s1 σ H1 _ I1 q1) fun u s2 ⟨y, H2, I2, r2, q2⟩ => ?_
  exact hf v u s2 x y H2 I2 r1 r2 q2
theorem pe_op {op : Operator} {r : R2} (ho : OpR X (binaryOp op) r) (ha : PE X a ta) (hb : PE X b tb) : PE X (.BinOp a op b pos) (tOp r ta tb) := by
  intro pins s σ H Q I h
  exact wpAny_BinOp (binT ha hb I h fun v u s2 x y H2 I2 rx ry q => ho pins s2 σ H2 x y v u Q I2 rx ry q)
theorem pe_un {op : UnaryOp} {r : V → Hp → VK → Prop} (ho : UnR X (unaryOp op) r) (ha : PE X a ta) : PE X (.UnaryOp op a pos) (tUn r ta) := by
  intro pins s σ H Q I h
  exact UnaryOp_ (thn (ha pins s σ H _ I h) fun v s1 ⟨x, H1, I1, r1, q1⟩ => ho pins s1 σ H1 x v Q I1 r1 q1)
theorem opI {f : Value → Value → Sem Value} {C : Int → Int → Prop} {g : Int → Int → Int}
    (rule : ∀ (i j : Int) (t u : Tok) (s : Shared) (Q : Value → Shared → Prop) (E : Value → Shared → Prop), C i j → Q (.int (g i j) s.toks) { s with toks := s.toks + 1 } → wpAny (model X.prog X.w) X.A (f (.int i t) (.int j u)) Q E s) :
    OpR X f (rI C fun i j => .int (g i j)) := by
  intro pins s σ H x y v u Q I rx ry h
  obtain ⟨i, j, rfl, rfl, hc, q⟩ := h
  obtain ⟨t, rfl⟩ := rx
  obtain ⟨t', rfl⟩ := ry
  exact rule i j t t' s _ _ hc ⟨.int (g i j), H, I.tok _, ⟨_, rfl⟩, q⟩
theorem opI0 {f : Value → Value → Sem Value} {g : Int → Int → Int}
    (rule : ∀ (i j : Int) (t u : Tok) (s : Shared) (Q : Value → Shared → Prop) (E : Value → Shared → Prop), Q (.int (g i j) s.toks) { s with toks := s.toks + 1 } → wpAny (model X.prog X.w) X.A (f (.int i t) (.int j u)) Q E s) :
    OpR X f (rI0 fun i j => .int (g i j)) := by
  intro pins s σ H x y v u Q I rx ry h
  obtain ⟨i, j, rfl, rfl, q⟩ := h
  obtain ⟨t, rfl⟩ := rx
  obtain ⟨t', rfl⟩ := ry
  exact rule i j t t' s _ _ ⟨.int (g i j), H, I.tok _, ⟨_, rfl⟩, q⟩
def CDiv (i j : Int) : Prop := 0 < j ∧ j < 1073741824
def CPow (i j : Int) : Prop := 0 ≤ j ∧ j ≤ 1000000 ∧ i.natAbs < 2 ^ 64
def CMul (i j : Int) : Prop := (-(2 ^ 64) < i ∧ i < 2 ^ 64) ∨ (-(2 ^ 64) < j ∧ j < 2 ^ 64)
theorem CMul.ok {i j : Int} (h : CMul i j) : IntMulOk i j := by
  rcases h with ⟨h1, h2⟩ | ⟨h1, h2⟩
  · exact .of_left (intBits_le_64 h1 h2)
  · exact .of_right (intBits_le_64 h1 h2)
theorem op_sub : OpR X (binaryOp .Sub) (rI0 fun i j => .int (i - j)) := opI0 fun _ _ _ _ _ _ _ q => sub_int q
theorem op_fdiv : OpR X (binaryOp .FloorDiv) (rI CDiv fun i j => .int (i / j)) := opI fun i j _ _ _ _ _ hc q => by
  have h1 : (0 : Int) < j := hc.1
  have h2 : j < 1073741824 := hc.2
  exact floordiv_int (by omega) (by rw [Int.fdiv_eq_ediv_of_nonneg i (by omega)]; exact q) (.inl (PyProof.noPylong_small (by omega)))
theorem op_mod : OpR X (binaryOp .Mod) (rI (fun _ j => 0 < j) fun i j => .int (i % j)) := opI fun i j _ _ _ _ _ hc q => by
  have h1 : (0 : Int) < j := hc
  exact mod_int' (by omega) (by rw [Int.fmod_eq_emod_of_nonneg i (by omega)]; exact q)
theorem op_pow : OpR X (binaryOp .Pow) (rI CPow fun i j => .int (i ^ j.toNat)) := opI fun _ _ _ _ _ _ _ hc q => pow_int_small hc.1 hc.2.1 hc.2.2 q
theorem unI {f : Value → Sem Value} {g : Int → Int}
    (rule : ∀ (i : Int) (t : Tok) (s : Shared) (Q : Value → Shared → Prop) (E : Value → Shared → Prop), Q (.int (g i) s.toks) { s with toks := s.toks + 1 } → wpAny (model X.prog X.w) X.A (f (.int i t)) Q E s) :
    UnR X f (rU fun i => .int (g i)) := by
  intro pins s σ H x v Q I rx h
  obtain ⟨i, rfl, q⟩ := h
  obtain ⟨t, rfl⟩ := rx
  exact rule i t s _ _ ⟨.int (g i), H, I.tok _, ⟨_, rfl⟩, q⟩
theorem un_neg : UnR X (unaryOp .USub) (rU fun i => .int (-i)) := unI fun _ _ _ _ _ q => neg_int q
end
section
variable {X : Cx} {a b c : Expr} {ta tb tc : TE} {pos : Pos}
theorem OpR.or {f : Value → Value → Sem Value} {r r' : R2} (h : OpR X f r) (h' : OpR X f r') : OpR X f (fun x y H Q => r x y H Q ∨ r' x y H Q) := by
  intro pins s σ H x y v u Q I rx ry q
  rcases q with q | q
  · exact h pins s σ H x y v u Q I rx ry q
  · exact h' pins s σ H x y v u Q I rx ry q
theorem nomark (b : Expr) {op : CmpOp} (h : op ≠ .In := by decide) (h2 : op ≠ .NotIn := by decide) : behindInMarks op b = false := by
  have e1 : (op == CmpOp.In) = false := by cases op <;> first | rfl | exact absurd rfl h
  have e2 : (op == CmpOp.NotIn) = false := by cases op <;> first | rfl | exact absurd rfl h2
  cases b <;> simp [behindInMarks, e1, e2]
theorem pe_cmpR {op : CmpOp} {r : R2} (ho : OpR X (compareOp op) r) (ha : PE X a ta) (hb : PE X b tb) (hm : behindInMarks op b = false) : PE X (.Compare a [op] [b] pos) (tOp r ta tb) := by
  intro pins s σ H Q I h
  exact wpAny_Compare1 (binT ha hb I h fun v u s2 x y H2 I2 rx ry q => ho pins s2 σ H2 x y v u Q I2 rx ry q) hm
def tTest (t : TE) : TT := fun σ H Q => t σ H fun x H' => ∃ k, x = .bl k ∧ Q k H'
theorem pt_cmpR {op : CmpOp} {r : R2} (ho : OpR X (compareOp op) r) (ha : PE X a ta) (hb : PE X b tb) (hm : behindInMarks op b = false) : PT X (.Compare a [op] [b] pos) (tTest (tOp r ta tb)) := by
  intro pins s σ H Q I h
  refine wpAny_isTrue_Compare1 (thn (ha pins s σ H _ I h) fun v s1 ⟨x, H1, I1, r1, q1⟩ => thn (hb pins s1 σ H1 _ I1 q1) fun u s2 ⟨y, H2, I2, r2, q2⟩ =>
    thn (ho pins s2 σ H2 x y v u _ I2 r1 r2 q2) fun c s3 ⟨z, H3, I3, r3, k, e, q3⟩ => ?_) hm
  subst e
  cases r3
  exact wpAny_truthy_bool ⟨H3, I3, q3⟩
def tChain (r r' : R2) (ta tb tc : TE) : TE := fun σ H Q => ta σ H fun x H1 => tb σ H1 fun y H2 => r x y H2 fun z H3 => ∃ k, z = .bl k ∧
  (if k = true then tc σ H3 fun w' H4 => r' y w' H4 Q else Q (.bl false) H3)
theorem pe_chain {op op' : CmpOp} {r r' : R2} (ho : OpR X (compareOp op) r) (ho' : OpR X (compareOp op') r') (ha : PE X a ta) (hb : PE X b tb) (hc : PE X c tc)
    (hm : lastMarks [op, op'] [b, c] = false := by with_unfolding_all rfl) : PE X (.Compare a [op, op'] [b, c] pos) (tChain r r' ta tb tc) := by
  intro pins s σ H Q I h
  refine Compare_chain (thn (ha pins s σ H _ I h) fun v s1 ⟨x, H1, I1, r1, q1⟩ => chain_link (thn (hb pins s1 σ H1 _ I1 q1) fun u s2 ⟨y, H2, I2, r2, q2⟩ =>
    thn (ho pins s2 σ H2 x y v u _ I2 r1 r2 q2) fun d s3 ⟨z, H3, I3, r3, k, e, q3⟩ => ?_)) hm
  subst e
  cases r3
  refine wpAny_truthy_bool ?_
  cases k with
  | false => exact ite_ff ⟨.bl false, H3, I3, rfl, q3⟩
  | true => exact ite_tt (chain_last (thn (hc pins s3 σ H3 _ I3 q3) fun w' s4 ⟨z', H4, I4, r4, q4⟩ => ho' pins s4 σ H4 y z' u w' Q I4 r2 r4 q4))
def TruV (K : PySem.W.Frag) (x : V) (H : Hp) (k : Bool) : Prop :=
  match x with
  | .non => k = false
  | .bl b => k = b
  | .int i => k = (i != 0)
  | .str y => y.length ≤ sizeLine ∧ k = ((y.length : Int) != 0)
  | .byt y => y.size ≤ sizeLine ∧ k = ((y.size : Int) != 0)
  | .ref p => (∃ xs, SqL K H p xs ∧ k = !xs.isEmpty) ∨ (∃ xs, SqT K H p xs ∧ k = !xs.isEmpty) ∨ ∃ kvs, H p = some (.dK kvs) ∧ k = !kvs.isEmpty
  | _ => False
theorem isEmpty_kv {κ : Type} {kvs : List (κ × V)} {vs : List (κ × Value)} (r : KV kvs vs) : (!vs.isEmpty) = !kvs.isEmpty := by
  cases r <;> rfl
theorem isEmpty_of {xs : List V} {its : List Value} (r : Vals xs its) : (!its.toArray.isEmpty) = !xs.isEmpty := by
  cases r <;> simp
theorem line63 : (sizeLine : Nat) < 2 ^ 63 := by rw [sizeLine_eq]; decide
theorem tru_ok : TruR X (fun x H Q => ∃ k, TruV X.K x H k ∧ Q k H) := by
  intro pins s σ H x v Q I rx h
  obtain ⟨k, e, q⟩ := h
  have hl := line63
  have hs : sizeLine = 16777216 := sizeLine_eq
  cases x with
  | non =>
    cases rx
    have e' : k = false := e
    subst e'
    exact truthy_none ⟨H, I, q⟩
  | bl b =>
    cases rx
    have e' : k = b := e
    subst e'
    exact wpAny_truthy_bool ⟨H, I, q⟩
  | int i =>
    obtain ⟨t, rfl⟩ := rx
    have e' : k = (i != 0) := e
    subst e'
    exact PySem.P.truthy_int ⟨H, I, q⟩
  | str y =>
    obtain ⟨t, rfl⟩ := rx
    obtain ⟨hy, e'⟩ : y.length ≤ sizeLine ∧ k = ((y.length : Int) != 0) := e
    subst e'
    exact PySem.P.truthy_str (by omega) ⟨H, I.tok _, q⟩
  | byt y =>
    obtain ⟨t, rfl⟩ := rx
    obtain ⟨hy, e'⟩ : y.size ≤ sizeLine ∧ k = ((y.size : Int) != 0) := e
    subst e'
    exact PySem.W.truthy_bytes (by omega) ⟨H, I.tok _, q⟩
  | ref p =>
    cases rx
    have e' : (∃ xs, SqL X.K H p xs ∧ k = !xs.isEmpty) ∨ (∃ xs, SqT X.K H p xs ∧ k = !xs.isEmpty) ∨ ∃ kvs, H p = some (.dK kvs) ∧ k = !kvs.isEmpty := e
    rcases e' with ⟨xs, hx, e'⟩ | ⟨xs, hx, e'⟩ | ⟨kvs, hx, e'⟩
    · subst e'
      obtain ⟨its, r, pl, hz⟩ := I.list hx
      have hlen := r.length
      exact wpAny_truthy_list pl.isList (by simp only [List.size_toArray]; omega) ⟨H, I.tok _, by rw [isEmpty_of r]; exact q⟩
    · subst e'
      obtain ⟨its, r, pl, hz⟩ := I.tuple hx
      have hlen := r.length
      exact truthy_tuple pl (by simp only [List.size_toArray]; omega) ⟨H, I.tok _, by rw [isEmpty_of r]; exact q⟩
    · subst e'
      obtain ⟨hz, hS, vs, r, m⟩ : kvs.length ≤ sizeLine ∧ (p == sysModules) = false ∧ ∃ vs, KV kvs vs ∧ s.heap.DictOf (mixKind X.prog X.w) p vs := I.hok p _ hx
      have hlen : kvs.length = vs.length := Paired.length r
      exact wpAny_truthy_dict hS m (by omega) ⟨H, I.tok _, by rw [isEmpty_kv r]; exact q⟩
  | _ => exact (show False from e).elim
theorem pt_truth (ha : PE X a ta) (he : ∀ whole, isTrue a X.env whole = (do let v ← whole; standAt a.pos; holding [v] (truthy v))) :
    PT X a (fun σ H Q => ta σ H fun x H' => ∃ k, TruV X.K x H' k ∧ Q k H') := by
  intro pins s σ H Q I h
  exact isTrue_plain (thn (ha pins s σ H _ I h) fun v s1 ⟨x, H1, I1, r1, q1⟩ => tru_ok pins s1 σ H1 x v Q I1 r1 q1) (he _)
theorem vals1 {x : V} {us : List Value} (r : Vals [x] us) : ∃ u, us = [u] ∧ RelV x u := by
  cases r with
  | cons r1 r2 => cases r2; exact ⟨_, rfl, r1⟩
theorem vals2 {x y : V} {us : List Value} (r : Vals [x, y] us) : ∃ u w', us = [u, w'] ∧ RelV x u ∧ RelV y w' := by
  cases r with
  | cons r1 r2 =>
    cases r2 with
    | cons r3 r4 => cases r4; exact ⟨_, _, rfl, r1, r3⟩
theorem call_max2 (hc : X.calm = true) : CallR X (.builtin "max") (fun xs H Q => ∃ i j, xs = [.int i, .int j] ∧ Q (.int (if j > i then j else i)) H) := by
  intro pins s σ H xs us Q I r h
  obtain ⟨i, j, rfl, q⟩ := h
  obtain ⟨u, w', rfl, ⟨t, rfl⟩, ⟨t', rfl⟩⟩ := vals2 r
  refine max_two_ints (I.ok.hd hc) fun h' tk k => ⟨_, H, I.kept k, ?_, q⟩
  by_cases hj : j > i
  · rw [if_pos hj, if_pos hj]; exact ⟨_, rfl⟩
  · rw [if_neg hj, if_neg hj]; exact ⟨_, rfl⟩
theorem call_int1 : CallR X (.type "int") (fun xs H Q => (∃ i, xs = [.int i] ∧ Q (.int i) H) ∨ ∃ k, xs = [.bl k] ∧ Q (.int (if k then 1 else 0)) H) := by
  intro pins s σ H xs us Q I r h
  rcases h with ⟨i, rfl, q⟩ | ⟨k, rfl, q⟩
  · obtain ⟨u, rfl, t, rfl⟩ := vals1 r
    exact call_int_int ⟨.int i, H, I, ⟨_, rfl⟩, q⟩
  · obtain ⟨u, rfl, r1⟩ := vals1 r
    cases r1
    exact call_int_bool ⟨.int (if k then 1 else 0), H, I.tok _, ⟨_, rfl⟩, q⟩
theorem call_str_int : CallR X (.type "str") (fun xs H Q => ∃ i, xs = [.int i] ∧ i.natAbs.log2 < 1920 ∧ Q (.str (toString i)) H) := by
  intro pins s σ H xs us Q I r h
  obtain ⟨i, rfl, hz, q⟩ := h
  obtain ⟨u, rfl, t, rfl⟩ := vals1 r
  exact PySem.P.str_of_int hz ⟨.str _, H, I.tok _, ⟨_, rfl⟩, q⟩
def LenV (K : PySem.W.Frag) (x : V) (H : Hp) (n : Nat) : Prop :=
  match x with
  | .str y => y.length ≤ sizeLine ∧ n = y.length
  | .byt y => y.size ≤ sizeLine ∧ n = y.size
  | .ref p => (∃ xs, SqL K H p xs ∧ n = xs.length) ∨ ∃ xs, SqT K H p xs ∧ n = xs.length
  | _ => False
theorem call_len : CallR X (.builtin "len") (fun xs H Q => ∃ x n, xs = [x] ∧ LenV X.K x H n ∧ Q (.int n) H) := by
  intro pins s σ H xs us Q I r h
  obtain ⟨x, n, rfl, e, q⟩ := h
  obtain ⟨u, rfl, rx⟩ := vals1 r
  have hl := line63
  have hs : sizeLine = 16777216 := sizeLine_eq
  cases x with
  | str y =>
    obtain ⟨t, rfl⟩ := rx
    obtain ⟨hy, e'⟩ : y.length ≤ sizeLine ∧ n = y.length := e
    subst e'
    exact len_str (by omega) ⟨.int _, H, I.tok _, ⟨_, rfl⟩, q⟩
  | byt y =>
    obtain ⟨t, rfl⟩ := rx
    obtain ⟨hy, e'⟩ : y.size ≤ sizeLine ∧ n = y.size := e
    subst e'
    exact PySem.W.len_bytes (by omega) ⟨.int _, H, I.tok _, ⟨_, rfl⟩, q⟩
  | ref p =>
    cases rx
    have e' : (∃ xs, SqL X.K H p xs ∧ n = xs.length) ∨ ∃ xs, SqT X.K H p xs ∧ n = xs.length := e
    rcases e' with ⟨xs, hx, e'⟩ | ⟨xs, hx, e'⟩
    · subst e'
      obtain ⟨its, r', pl, hz⟩ := I.list hx
      have hlen := r'.length
      exact Calls.call_len_list pl.isList (by simp only [List.size_toArray]; omega) ⟨.int xs.length, H, I.tok _, ⟨_, by simp only [List.size_toArray]; rw [hlen]⟩, q⟩
    · subst e'
      obtain ⟨its, r', pl, hz⟩ := I.tuple hx
      have hlen := r'.length
      exact len_tuple pl (by simp only [List.size_toArray]; omega) ⟨.int xs.length, H, I.tok _, ⟨_, by simp only [List.size_toArray]; rw [hlen]⟩, q⟩
  | _ => exact (show False from e).elim
end
end L2
namespace L2
open PySem PySem.Spec PyProof.Rows
structure ObjM (h : Heap) (x dx C : Addr) (mA : Str → Option Value) : Prop where
  obj : h.get? x = some (PySem.W.instObj C dx)
  ns : h.Ns1 dx mA
  ne : dx ≠ x
theorem lookIn_ns {h : Heap} {dx : Addr} {mA : Str → Option Value} (n : h.Ns1 dx mA) : ∃ od, h.get? dx = some od ∧ ∀ name, PySem.W.lookIn name od = some (mA name) := by
  obtain ⟨o, es, ep, ho, hd, hk, _, hm⟩ := n
  refine ⟨o, ho, fun name => ?_⟩
  have e := hm name
  unfold nsFind findBy at e
  rw [← Array.find?_toList] at e
  unfold PySem.W.lookIn
  rw [hd]
  dsimp only
  split
  · rename_i y q
    rw [q] at e
    exact congrArg some e
  · rename_i q
    rw [q] at e
    have a : es.toList.any (·.refKey) = false := by
      rw [List.any_eq_false]
      intro y hy
      obtain ⟨z, t, hkey⟩ := hk y (Array.mem_toList_iff.mp hy)
      simp [DictEntry.refKey, hkey]
    have a' : ¬ es.toList.any (·.refKey) = true := by rw [a]; exact Bool.false_ne_true
    rw [if_neg a']
    exact congrArg some e
theorem ObjM.look {h : Heap} {x dx C : Addr} {mA : Str → Option Value} (I : ObjM h x dx C mA) : ∃ od, PySem.W.InstAt h x (PySem.W.instObj C dx) C (some od) ∧ ∀ name, PySem.W.lookIn name od = some (mA name) :=
  let ⟨od, ho, hl⟩ := lookIn_ns I.ns
  ⟨od, ⟨I.obj, rfl, rfl, ho⟩, hl⟩
section
variable {prog : Program} {w : World} {A : Around} {E : Value → Shared → Prop} {s : Shared} {K : PySem.W.Frag} {x dx C f : Addr} {mA : Str → Option Value} {name : Str} {v : Value}
end
theorem RelO.some_of {v : V} {o : Option Value} (r : RelO (some v) o) : ∃ u, o = some u ∧ RelV v u := by
  cases o with
  | none => exact (show False from r).elim
  | some u => exact ⟨u, rfl, r⟩
theorem RelO.none_of {o : Option Value} (r : RelO none o) : o = none := by
  cases o with
  | none => rfl
  | some u => exact (show False from r).elim
section
variable {P : Program} {w : World} {H H' : Hp} {h h' : Heap} {a C dx : Addr} {fs fs' : List (Str × V)}
theorem ins_get (hok : HOk P w H h) (e : H a = some (.ins C dx fs)) : ∃ mA, ObjM h a dx C mA ∧ (∀ f, RelO (fs.lookup f) (mA f)) ∧ PySem.Within mA (fs.map (·.1)) ∧ fs.length ≤ 1000 ∧ H dx = some (.own a) := by
  obtain ⟨d, z, ne, ob, mA, n, r, q⟩ := (show ObjOk P w H h a (.ins C dx fs) from hok a _ e)
  exact ⟨mA, ⟨ob, n, ne⟩, r, q, z, d⟩
end
structure Cls (K : PySem.W.Frag) (C : Addr) : Prop where
  pg : PySem.W.plainGet K C Str.empty = true
  hd : PySem.W.hasDictIn K C = true
  po : PySem.W.plainOver K C = true
  sa : PySem.W.findIn K (.ref C) "__setattr__" = some (some (.builtin "object.__setattr__"))
theorem Cls.get {K : PySem.W.Frag} {C : Addr} (c : Cls K C) (f : Str) : PySem.W.plainGet K C f = true := c.pg
section
variable {X : Cx} {pins : List (Addr × Obj)} {σ : St} {H : Hp} {s : Shared} {a C dx : Addr} {fs : List (Str × V)} {f : Str} {v : V} {A : Around} {E : Value → Shared → Prop}
theorem Inv.made (I : Inv X pins σ H s) : Inv X pins σ (upd (upd H s.heap.objs.size (.own (s.heap.objs.size + 1))) (s.heap.objs.size + 1) (.ins C s.heap.objs.size []))
    { s with heap := (s.heap.push PySem.W.emptyDict).push (PySem.W.instObj C s.heap.objs.size) } := by
  have e1 : (s.heap.push PySem.W.emptyDict).get? s.heap.objs.size = some PySem.W.emptyDict := Heap.get?_push_size s.heap rfl
  have e2 : ((s.heap.push PySem.W.emptyDict).push (PySem.W.instObj C s.heap.objs.size)).get? (s.heap.objs.size + 1) = some (PySem.W.instObj C s.heap.objs.size) := by
    have := Heap.get?_push_size (s.heap.push PySem.W.emptyDict) (o := PySem.W.instObj C s.heap.objs.size) rfl
    rwa [Heap.size_push] at this
  have e3 : (s.heap.push PySem.W.emptyDict).Ns s.heap.objs.size (fun _ => none) := ⟨PySem.W.emptyDict, #[], _, e1, rfl, (fun e he => absurd he (by simp)), fun _ => rfl⟩
  have I1 := I.laid (a := s.heap.objs.size) (o := .own (s.heap.objs.size + 1)) (h' := s.heap.push PySem.W.emptyDict) (t' := s.toks) (fun b u q => Heap.get?_push_of_some _ q) (Nat.le_refl _) ⟨_, e1⟩
  refine I1.laid (a := s.heap.objs.size + 1) (o := .ins C s.heap.objs.size []) (t' := s.toks) (fun b u q => Heap.get?_push_of_some _ q) (Nat.le_of_eq (Heap.size_push _ _)) ?_
  have ne : s.heap.objs.size ≠ s.heap.objs.size + 1 := Nat.ne_of_lt (Nat.lt_succ_self _)
  refine ⟨by rw [upd_ne ne, upd_same], Nat.zero_le _, ne, e2, fun _ => none, (Heap.Ns1.of_empty e3).at fun o q => Heap.get?_push_of_some _ q, fun _ => True.intro, fun y hy => absurd rfl hy⟩
end
def InOp (X : Cx) (op : Operator) (rd : V → V → Hp → VK → Prop) : Prop :=
  ∀ (pins : List (Addr × Obj)) (s : Shared) (σ : St) (H : Hp) (x y : V) (u v : Value) (Q : VK), Inv X pins σ H s → RelV x u → RelV y v → rd x y H Q → wpAny (model X.prog X.w) X.A (inplaceOp op u v) (EP X pins σ Q) X.xe s
section
variable {X : Cx} {o e value : Expr} {f : Str} {pos pos' tpos : Pos} {ta tv : TE}
end
section
variable {X : Cx} {pins : List (Addr × Obj)} {σ : St} {H : Hp} {s : Shared} {A : Around} {E : Value → Shared → Prop} {Q : Value → Shared → Prop} {c : Value} {b : Bool}
inductive TyOf (K : PySem.W.Frag) (H : Hp) : V → Value → Prop where
  | non : TyOf K H .non (.type "NoneType")
  | bl (x : Bool) : TyOf K H (.bl x) (.type "bool")
  | int (i : Int) : TyOf K H (.int i) (.type "int")
  | str (x : Str) : TyOf K H (.str x) (.type "str")
  | flt (x : UInt64) : TyOf K H (.flt x) (.type "float")
  | lst {a : Addr} {xs : List V} (e : H a = some (.lst xs)) : TyOf K H (.ref a) (.type "list")
  | frz {a : Addr} {o : Obj} {xs : List V} (e : H a = some (.frz o (.lst xs))) : TyOf K H (.ref a) (.type "list")
  | tup {a : Addr} {xs : List V} (e : H a = some (.tup xs)) : TyOf K H (.ref a) (.type "tuple")
  | dK {a : Addr} {kvs : List (Key × V)} (e : H a = some (.dK kvs)) : TyOf K H (.ref a) (.type "dict")
  | dT {a : Addr} {kvs : List (List Key × V)} (e : H a = some (.dT kvs)) : TyOf K H (.ref a) (.type "dict")
  | ins {a C dx : Addr} {fs : List (Str × V)} (e : H a = some (.ins C dx fs)) (cl : Cls K C) (ha : PySem.W.findIn K (.ref C) "__class__" = some (some (.builtin "object.__class__")))
      (hn : PySem.W.specialIn K (.builtin "object.__class__") "__get__" = some (some (.builtin "getset_descriptor.__get__"))) (htk : PySem.W.takesIn K (.builtin "object.__class__") = some true)
      (hm : PySem.W.mroIn K C (.type "object") = some true) : TyOf K H (.ref a) (.ref C)
theorem isinst_ok {x : V} {u t : Value} (I : Inv X pins σ H s) (rx : RelV x u) (ty : TyOf X.K H x t) (e : PySem.W.kitOne X.K t c = some b) (h : ∀ tk, Q (.bool b) { s with toks := tk }) :
    wpAny (model X.prog X.w) A (call (.builtin "isinstance") [u, c]) Q E s := by
  cases ty with
  | non => cases (show u = Value.none from rx); exact PySem.W.kia_one PySem.W.kitx_none I.kIn True.intro e (fun z => nomatch z) h
  | bl y => cases (show u = Value.bool y from rx); exact PySem.W.kia_one PySem.W.kitx_bool I.kIn True.intro e (fun z => nomatch z) h
  | int i => obtain ⟨t, q⟩ := (show ∃ t, u = Value.int i t from rx); cases q; exact PySem.W.kia_one PySem.W.kitx_int I.kIn True.intro e (fun z => nomatch z) h
  | str y => obtain ⟨t, q⟩ := (show ∃ t, u = Value.str y t from rx); cases q; exact PySem.W.kia_one PySem.W.kitx_str I.kIn True.intro e (fun z => nomatch z) h
  | flt y => obtain ⟨t, q⟩ := (show ∃ t, u = Value.float y t from rx); cases q; exact PySem.W.kia_one PySem.W.kitx_float I.kIn True.intro e (fun z => nomatch z) h
  | @lst a xs ea =>
    cases (show u = Value.ref a from rx)
    obtain ⟨_, _, n, _, h1⟩ := (show ObjOk X.prog X.w H s.heap a (.lst xs) from I.hok a _ ea)
    exact PySem.W.kia_one PySem.W.kitx_list I.kIn ⟨_, h1, rfl⟩ e (fun z => nomatch z) h
  | @frz a ob xs ea =>
    cases (show u = Value.ref a from rx)
    obtain ⟨_, _, _, n, _, h1⟩ := (show ObjOk X.prog X.w H s.heap a (.frz ob (.lst xs)) from I.hok a _ ea)
    exact PySem.W.kia_one PySem.W.kitx_list I.kIn ⟨_, h1, rfl⟩ e (fun z => nomatch z) h
  | @tup a xs ea =>
    cases (show u = Value.ref a from rx)
    obtain ⟨_, _, _, p⟩ := (show ObjOk X.prog X.w H s.heap a (.tup xs) from I.hok a _ ea)
    obtain ⟨o, h1, h2, _⟩ := p
    exact PySem.W.kia_one PySem.W.kitx_tuple I.kIn ⟨o, h1, h2⟩ e (fun z => nomatch z) h
  | @dK a kvs ea =>
    cases (show u = Value.ref a from rx)
    obtain ⟨_, _, vs, _, p⟩ := (show ObjOk X.prog X.w H s.heap a (.dK kvs) from I.hok a _ ea)
    obtain ⟨o, es, ep, h1, h2, _⟩ := p
    exact PySem.W.kia_one PySem.W.kitx_dict I.kIn ⟨o, h1, h2.1⟩ e (fun z => nomatch z) h
  | @dT a kvs ea =>
    cases (show u = Value.ref a from rx)
    obtain ⟨_, _, xs, _, o, es, ep, h1, h2, _⟩ := (show ObjOk X.prog X.w H s.heap a (.dT kvs) from I.hok a _ ea)
    exact PySem.W.kia_one PySem.W.kitx_dict I.kIn ⟨o, h1, h2.1⟩ e (fun z => nomatch z) h
  | @ins a C dx fs ea cl ha hn htk hm =>
    cases (show u = Value.ref a from rx)
    obtain ⟨mA, O, _⟩ := ins_get I.hok ea
    obtain ⟨od, J, _⟩ := O.look
    exact PySem.W.kia_one (PySem.W.kitx_own (cl.get _) cl.hd ha hn htk hm) I.kIn J e (fun z => nomatch z) h
end
end L2
namespace L2
open PySem PySem.Spec PyProof.Rows
structure Room (k : Nat) (A : Around) : Prop where
  hd : A.handled = none
  dp : A.depth + 3 * k + 5 < recursionLimit
  un : A.units + 16 * k + 200 < cLine
  gd : A.guards = some []
theorem Room.mono {j k : Nat} {A : Around} (r : Room k A) (h : j ≤ k) : Room j A := ⟨r.hd, by have := r.dp; omega, by have := r.un; omega, r.gd⟩
theorem Room.deeper {k : Nat} {A : Around} (r : Room (k + 1) A) (env : Env) : Room k (A.deeper env) :=
  ⟨r.hd, by have := r.dp; show A.depth + 1 + 3 * k + 5 < _; omega, by have := r.un; show A.units + 3 + 16 * k + 200 < _; omega, r.gd⟩
theorem Room.in1 {k : Nat} {A : Around} (r : Room (k + 1) A) : Room k A.in1 :=
  ⟨r.hd, by have := r.dp; show A.depth + 3 * k + 5 < _; omega, by have := r.un; show A.units + 1 + 16 * k + 200 < _; omega, r.gd⟩
theorem Room.depth {k : Nat} {A : Around} (r : Room k A) : A.depth < recursionLimit := by have := r.dp; omega
theorem Room.units {k : Nat} {A : Around} (r : Room k A) : A.units + 64 < cLine := by have := r.un; omega
def tNil : TA := fun _ H Q => Q [] H
def tCons (ta : TE) (tr : TA) : TA := fun σ H Q => ta σ H fun x H1 => tr σ H1 fun xs H2 => Q (x :: xs) H2
section
variable {X : Cx} {e : Expr} {es : List Expr} {te : TE} {t : TA} {pos : Pos}
theorem pa_nil : PA X [] tNil := fun _ _ _ _ H Q I h => Calls.spliced_nil ⟨[], H, I, .nil, h⟩
theorem pa_cons (ha : PE X e te) (hr : PA X es t) (hs : starEach (e :: es) X.env = (false, eval e X.env) :: starEach es X.env := by rfl) : PA X (e :: es) (tCons te t) := by
  intro pos pins s σ H Q I h
  rw [hs]
  show wpAny _ _ (spliced ((false, eval e X.env) :: backTo pos (starEach es X.env))) _ _ s
  refine Calls.spliced_cons (thn (ha pins s σ H _ I h) fun u s1 ⟨x, H1, I1, r1, q1⟩ => ?_)
  exact thn (hr pos pins s1 σ H1 _ I1 q1) fun us s2 ⟨xs, H2, I2, r2, q2⟩ => ⟨x :: xs, H2, I2, .cons r1 r2, q2⟩
def tTup (t : TA) : TE := fun σ H Q => t σ H fun xs H1 => xs.length ≤ sizeLine ∧ ∀ p, H1 p = none → Q (.ref p) (upd H1 p (.tup xs))
def tLst (t : TA) : TE := fun σ H Q => t σ H fun xs H1 => xs.length ≤ sizeLine ∧ ∀ p, H1 p = none → Q (.ref p) (upd H1 p (.lst xs))
theorem pe_tup {x1} (h : PA X es t) : PE X (.Tuple es x1 pos) (tTup t) := by
  intro pins s σ H Q I hq
  refine wpAny_Tuple_spliced (thn (h pos pins s σ H _ I hq) fun us s1 ⟨xs, H1, I1, r, z, q⟩ => ⟨by rw [← r.length]; exact z, ?_⟩)
  have hf : H1 s1.heap.objs.size = none := I1.hok.fresh (Nat.le_refl _)
  refine ⟨.ref s1.heap.objs.size, upd H1 s1.heap.objs.size (.tup xs), I1.laid (t' := s1.toks) (fun b u e => Heap.get?_push_of_some _ e) (Nat.le_refl _) ?_, rfl, q _ hf⟩
  exact ⟨z, us, r, ⟨_, Heap.get?_push_size _ rfl, rfl, _, rfl⟩⟩
theorem pe_lst (h : PA X es t) : PE X (.List es pos) (tLst t) := by
  intro pins s σ H Q I hq
  refine wpAny_List_spliced (thn (h pos pins s σ H _ I hq) fun us s1 ⟨xs, H1, I1, r, z, q⟩ => ⟨by rw [← r.length]; exact z, ?_⟩)
  have hf : H1 s1.heap.objs.size = none := I1.hok.fresh (Nat.le_refl _)
  refine ⟨.ref s1.heap.objs.size, upd H1 s1.heap.objs.size (.lst xs), I1.laid (t' := s1.toks) (fun b u e => Heap.get?_push_of_some _ e) (Nat.le_refl _) ?_, rfl, q _ hf⟩
  exact ⟨z, us, 0, r, Heap.get?_push_size _ rfl⟩
end
abbrev Sp := List V → Hp → VK → XK → Prop
abbrev CXT := List Env → Hp → Shared → XK → Value → Shared → Prop
structure Env0 (P : Program) (w : World) (K : PySem.W.Frag) (mg : Str → Option Value) (base : Heap) (A : Around) (outer : List Env) (s : Shared) (H : Hp) : Prop where
  frames : A.frames = some outer
  mod : Mod K mg base
  bs : ∀ b o, base.get? b = some o → s.heap.get? b = some o ∧ H b = none
  bsz : base.objs.size ≤ s.heap.objs.size
  funs : s.heap.FunFrames base outer
  frf : ∀ b ∈ frs outer, H b = none
  hok : HOk P w H s.heap
  bare : AllBare s.gens
def CE (outer : List Env) (P : Program) (w : World) (H : Hp) (s : Shared) (Q : VK) (u : Value) (s' : Shared) : Prop :=
  ∃ v H', s'.os = s.os ∧ AllBare s'.gens ∧ Un (frs outer) [] H H' s.heap s'.heap ∧ HOk P w H' s'.heap ∧ RelV v u ∧ Q v H'
def CR (CX : CXT) (outer : List Env) (P : Program) (w : World) (H : Hp) (s : Shared) (Q : VK) (E : XK) (r : Result) (s' : Shared) : Prop :=
  match r with
  | .ok (.ret u) => CE outer P w H s Q u s'
  | .ok _ => False
  | .error e => CX outer H s E e s'
structure FnOk (P : Program) (w : World) (K : PySem.W.Frag) (mg : Str → Option Value) (base : Heap) (CX : CXT) (k : Nat) (f : Addr) (fd : FuncData) (ps : List Str) (sp : Sp) : Prop where
  len : ∀ vs H Q E, sp vs H Q E → vs.length = ps.length
  run : ∀ (A : Around) (outer : List Env) (s : Shared) (H : Hp) (args : Args) (us : List Value) (vs : List V) (Q : VK) (E : XK), Room k A → Env0 P w K mg base A outer s H → BindsTo s fd args (ps.zip us) → Vals vs us → sp vs H Q E →
    codeAny (model P w) A (.call (.ref f) args) (CR CX outer P w H s Q E) s
theorem FnOk.mono {P : Program} {w : World} {K : PySem.W.Frag} {mg : Str → Option Value} {base : Heap} {CX : CXT} {j k : Nat} {f : Addr} {fd : FuncData} {ps : List Str} {sp : Sp} (F : FnOk P w K mg base CX j f fd ps sp) (h : j ≤ k) :
    FnOk P w K mg base CX k f fd ps sp := ⟨F.len, fun A outer s H args us vs Q E hr => F.run A outer s H args us vs Q E (hr.mono h)⟩
theorem FnOk.imp {P : Program} {w : World} {K : PySem.W.Frag} {mg : Str → Option Value} {base : Heap} {CX : CXT} {k : Nat} {f : Addr} {fd : FuncData} {ps : List Str} {sp sp' : Sp} (F : FnOk P w K mg base CX k f fd ps sp)
    (h : ∀ vs H Q E, sp' vs H Q E → sp vs H Q E) : FnOk P w K mg base CX k f fd ps sp' :=
  ⟨fun vs H Q E q => F.len vs H Q E (h _ _ _ _ q), fun A outer s H args us vs Q E hr he hb hv hs => F.run A outer s H args us vs Q E hr he hb hv (h _ _ _ _ hs)⟩
theorem Env0.in1 {P : Program} {w : World} {K : PySem.W.Frag} {mg : Str → Option Value} {base : Heap} {A : Around} {outer : List Env} {s : Shared} {H : Hp} (e : Env0 P w K mg base A outer s H) :
    Env0 P w K mg base A.in1 outer s H := ⟨e.frames, e.mod, e.bs, e.bsz, e.funs, e.frf, e.hok, e.bare⟩
section
variable {X : Cx} {pins : List (Addr × Obj)} {σ : St} {H : Hp} {s s' : Shared}
theorem Inv.env0 (I : Inv X pins σ H s) : Env0 X.prog X.w X.K X.mg X.base X.A X.stack s H :=
  ⟨I.ok.frames, I.ok.mod, I.bs, Nat.le_trans I.ok.bsz I.sz, I.stack, I.stkFree, I.hok, I.bare⟩
theorem Inv.after {Q : VK} {u : Value} (I : Inv X pins σ H s) (h : CE X.stack X.prog X.w H s Q u s') : EP X pins σ Q u s' := by
  obtain ⟨v, H', os, bare, un, hok, r, q⟩ := h
  obtain ⟨hh, g, d, t, os'⟩ := s'
  obtain rfl : os' = s.os := os
  exact ⟨v, H', I.call (h' := hh) (g' := g) (d' := d) (t' := t) (ch := []) un hok bare (fun b z => absurd z (by simp)), r, q⟩
end
def tCall (sp : Sp) (dvs : List V) (E : XK) (t : TA) : TE := fun σ H Q => t σ H fun vs H1 => sp (vs ++ dvs) H1 Q E
def Binds (K : PySem.W.Frag) (fd : FuncData) (ps : List Str) (ds : List Value) : Prop :=
  ∀ (s : Shared) (us : List Value), K.In s.heap → (us ++ ds).length = ps.length → BindsTo s fd ⟨us, []⟩ (ps.zip (us ++ ds))
theorem Binds.all {K : PySem.W.Frag} {fd : FuncData} {ps : List Str} (h : ∀ us : List Value, us.length = ps.length → bindArgs fd ⟨us, []⟩ = pure (ps.zip us)) : Binds K fd ps [] := fun s us _ hl => by
  rw [List.append_nil] at hl ⊢
  exact .of_eq (h us hl)
def Passes (CX : CXT) (X : Cx) (E : XK) : Prop := ∀ (pins : List (Addr × Obj)) (σ : St) (H : Hp) (s : Shared) (e : Value) (s' : Shared), Inv X pins σ H s → CX X.stack H s E e s' → X.xe e s'
section
variable {X : Cx} {CX : CXT} {k : Nat} {f C : Addr} {fd : FuncData} {ps : List Str} {sp : Sp} {dvs : List V} {ds : List Value} {E : XK} {x m : Str} {p pos apos : Pos} {e o : Expr} {es : List Expr} {ta : TE} {t : TA}
theorem run_fn {pins : List (Addr × Obj)} {σ : St} {H : Hp} {s : Shared} {Q : VK} {us : List Value} {vs : List V} (F : FnOk X.prog X.w X.K X.mg X.base CX k f fd ps sp) (hr : Room k X.A) (hb : Binds X.K fd ps ds) (hd : Vals dvs ds) (hx : Passes CX X E)
    (I : Inv X pins σ H s) (r : Vals vs us) (h : sp (vs ++ dvs) H Q E) : wpAny (model X.prog X.w) X.A (call (.ref f) us) (EP X pins σ Q) X.xe s := by
  have r2 : Vals (vs ++ dvs) (us ++ ds) := r.append hd
  have hl : (us ++ ds).length = ps.length := by rw [← r2.length]; exact F.len _ _ _ _ h
  refine wpAny_call (codeAny_mono (F.run X.A X.stack s H ⟨us, []⟩ (us ++ ds) (vs ++ dvs) Q E hr I.env0 (hb s us I.kIn hl) r2 h) fun r s' hq => ?_)
  cases r with
  | error e => exact hx pins σ H s e s' I hq
  | ok fl =>
    cases fl with
    | ret u => exact I.after hq
    | next => exact False.elim hq
    | brk => exact False.elim hq
    | cont => exact False.elim hq
theorem pe_call (F : FnOk X.prog X.w X.K X.mg X.base CX k f fd ps sp) (hr : Room k X.A) (hg : Gl X x) (hm : X.mg x = some (.ref f)) (hk : PySem.W.keepIn X.K (.ref f) = true) (hb : Binds X.K fd ps ds) (hd : Vals dvs ds) (hx : Passes CX X E)
    (ha : PA X (e :: es) t) (hdb : (x == ("__debug__" : Str)) = false := by decide) (he : starEach (e :: es) X.env = (false, eval e X.env) :: starEach es X.env := by rfl) (hpl : (backTo pos (starEach es X.env)).any (·.1) = false := by rfl) :
    PE X (.Call (.Name x p) (e :: es) [] pos) (tCall sp dvs E t) := by
  intro pins s σ H Q I h
  refine wpAny_Call_Name_kw (ld_glob I hg hm ?_ hdb)
  refine PySem.W.callWith_K (h₀ := X.base) I.ok.mod.kin hk (thn (ha pos pins s σ H _ I h) fun us s1 ⟨vs, H1, I1, r, q⟩ => ⟨I1.kIn, ?_⟩) he hpl
  exact run_fn F hr hb hd hx I1 r q
end
section
variable {X : Cx} {CX : CXT} {k : Nat} {f C : Addr} {fd : FuncData} {ps ks : List Str} {sp : Sp} {E : XK} {x m : Str} {p pos apos kpos : Pos} {e o : Expr} {es : List Expr} {kws : List Keyword} {te ta : TE} {t tk : TA} {nm : Option Str}
variable {g : List Value → List Value → List Value} {gV : List V → List V → List V}
end
structure FnScope (N P : List Str) (sc : Scope) : Prop where
  kind : sc.kind = .function
  co : sc.isCoroutine = false
  gen : sc.isGenerator = false
  nd : N.Nodup
  pre : N.take P.length = P
  par : ∀ x ∈ P, sc.names.lookup x = some .local ∨ sc.names.lookup x = some .cell
  nofree : ∀ y ∈ sc.names, y.2 ≠ .free
theorem bindL_out {kindOf : Str → Option NameKind} {x : Str} : ∀ {binds : List (Str × Value)} {m : Str → Option Value}, (∀ v, (x, v) ∉ binds) → bindL kindOf binds m x = m x
  | [], _, _ => rfl
  | (n, v) :: r, m, h => by
    unfold bindL
    rw [bindL_out fun w hw => h w (List.mem_cons_of_mem _ hw)]
    split
    · have : x ≠ n := by rintro rfl; exact h v List.mem_cons_self
      simp [this]
    · rfl
theorem bindC_out {kindOf : Str → Option NameKind} {x : Str} : ∀ {binds : List (Str × Value)} {m : Str → Option Value}, (∀ v, (x, v) ∉ binds) → bindC kindOf binds m x = m x
  | [], _, _ => rfl
  | (n, v) :: r, m, h => by
    unfold bindC
    rw [bindC_out fun w hw => h w (List.mem_cons_of_mem _ hw)]
    split
    · rfl
    · have : x ≠ n := by rintro rfl; exact h v List.mem_cons_self
      simp [this]
theorem bindL_get {kindOf : Str → Option NameKind} {x : Str} {v : Value} : ∀ {P : List Str} {vs : List Value} {i : Nat} {m : Str → Option Value}, P.Nodup → P[i]? = some x → vs[i]? = some v → kindOf x = some .local →
    bindL kindOf (P.zip vs) m x = some v
  | [], _, _, _, _, h, _, _ => by simp at h
  | _ :: _, [], _, _, _, _, h, _ => by simp at h
  | p :: P, w :: vs, 0, m, nd, h1, h2, hk => by
    simp at h1 h2; subst h1; subst h2
    show bindL kindOf ((p, w) :: P.zip vs) m p = _
    unfold bindL
    rw [bindL_out fun v hv => (List.nodup_cons.mp nd).1 (List.of_mem_zip hv).1, if_pos hk]
    simp
  | p :: P, w :: vs, i + 1, m, nd, h1, h2, hk => by
    show bindL kindOf ((p, w) :: P.zip vs) m x = _
    unfold bindL
    exact bindL_get (i := i) (List.nodup_cons.mp nd).2 (by simpa using h1) (by simpa using h2) hk
theorem bindC_get {kindOf : Str → Option NameKind} {x : Str} {v : Value} : ∀ {P : List Str} {vs : List Value} {i : Nat} {m : Str → Option Value}, P.Nodup → P[i]? = some x → vs[i]? = some v → kindOf x ≠ some .local →
    bindC kindOf (P.zip vs) m x = some v
  | [], _, _, _, _, h, _, _ => by simp at h
  | _ :: _, [], _, _, _, _, h, _ => by simp at h
  | p :: P, w :: vs, 0, m, nd, h1, h2, hk => by
    simp at h1 h2; subst h1; subst h2
    show bindC kindOf ((p, w) :: P.zip vs) m p = _
    unfold bindC
    rw [bindC_out fun v hv => (List.nodup_cons.mp nd).1 (List.of_mem_zip hv).1, if_neg hk]
    simp
  | p :: P, w :: vs, i + 1, m, nd, h1, h2, hk => by
    show bindC kindOf ((p, w) :: P.zip vs) m x = _
    unfold bindC
    exact bindC_get (i := i) (List.nodup_cons.mp nd).2 (by simpa using h1) (by simpa using h2) hk
def start (N : List Str) (vs : List V) : St := vs.map some ++ List.replicate (N.length - vs.length) none
def cxOf (CX : CXT) (P : Program) (w : World) (K : PySem.W.Frag) (mg : Str → Option Value) (base : Heap) (N : List Str) (qual : Str) (scope : Scope) (f : Addr) (cd : Value) (A : Around) (outer : List Env) (s : Shared) (H : Hp) (E : XK) : Cx where
  prog := P
  w := w
  K := K
  mg := mg
  base := base
  A := A.deeper (envOfC qual scope s.heap.objs.size f cd)
  N := N
  s₀ := s
  H₀ := H
  env := envOfC qual scope s.heap.objs.size f cd
  outer := outer
  stack := envOfC qual scope s.heap.objs.size f cd :: outer
  ex := []
  calm := true
  fn := fun _ => true
  pn := []
  xe := fun e s' => wpAny (model P w) (A.deeper (envOfC qual scope s.heap.objs.size f cd)) (leaving (envOfC qual scope s.heap.objs.size f cd) e) (fun _ s'' => CX outer H s E e s'') (fun e' s'' => CX outer H s E e' s'') s'
theorem cell_has {sc : Scope} {n : Nat} {x : Str} (h : sc.names.lookup x = some .cell) : ∃ c, (cellsFrom n sc.names []).lookup x = some c := by
  have q := PySem.W.cellsFrom_some sc.names n [] (.inl h)
  exact Option.isSome_iff_exists.mp q
theorem inv_start {CX : CXT} {P : Program} {w : World} {K : PySem.W.Frag} {mg : Str → Option Value} {base : Heap} {N ps : List Str} {qual : Str} {scope : Scope} {f : Addr} {cd : Value} {A : Around} {outer : List Env} {s s1 : Shared} {H : Hp} {E : XK} {us : List Value} {vs : List V}
    (S : FnScope N ps scope) (hd : A.handled = none) (e0 : Env0 P w K mg base A outer s H) (hl : vs.length = ps.length) (r : Vals vs us)
    (x : InCallC s s.heap.objs.size (bindL (envOfC qual scope s.heap.objs.size f cd).kindOf (ps.zip us) fun _ => none) (cellsFrom (s.heap.objs.size + 1) scope.names []) (bindC (envOfC qual scope s.heap.objs.size f cd).kindOf (ps.zip us) fun _ => none) s1) :
    Inv (cxOf CX P w K mg base N qual scope f cd A outer s H E) [] (start N vs) H s1 := by
  have hpl : ps.length ≤ N.length := by have := congrArg List.length S.pre; rw [List.length_take] at this; omega
  obtain ⟨h1, tk, rfl, hk⟩ := x.done
  have noA : ∀ b : Addr, b ∉ (cxOf CX P w K mg base N qual scope f cd A outer s H E).ex := fun b z => absurd (show b ∈ ([] : List Addr) from z) (by simp)
  refine ⟨⟨e0.mod, S.kind, rfl, rfl, Nat.le_refl _, fun y z c h1 h2 => ?_, fun y hy => ?_, fun y c _ h => ?_, fun _ => hd, Around.frames_deeper e0.frames, .inr ⟨rfl, rfl⟩, fun b z => absurd z (noA b), e0.bs, e0.bsz, fun b _ _ => noA b, fun b z => absurd z (noA b), e0.funs, e0.frf⟩,
    rfl, e0.bare, Un.kept hk, ⟨_, x.toInCall.ns, fun i y v h1 h2 h3 => ?_⟩, fun y c h => ⟨_, x.cell y c h⟩, e0.hok.fresh (Nat.le_refl _), fun y c h => ?_, fun p hp => absurd (show p ∈ ([] : List (Addr × Obj)) from hp) (by simp), e0.hok.kept hk, ?_⟩
  · exact name_of_addr x.apart (PySem.mem_of_lookup h1) (PySem.mem_of_lookup h2)
  · have hy : scope.names.lookup y = some .cell ∨ scope.names.lookup y = some .free := hy
    rcases hy with hy | hy
    · exact cell_has hy
    · exact absurd rfl (S.nofree _ (PySem.mem_of_lookup hy))
  · exact Nat.le_of_lt (x.above y c (PySem.mem_of_lookup h))
  · have hi : i < vs.length := by
      unfold start at h2
      by_cases hi : i < vs.length
      · exact hi
      · rw [List.getElem?_append_right (by simpa using hi)] at h2
        rw [List.getElem?_replicate] at h2
        split at h2 <;> cases h2
    have ha : vs[i]? = some v := by
      unfold start at h2
      rw [List.getElem?_append_left (by simpa using hi), List.getElem?_map] at h2
      cases e : vs[i]? with
      | none => rw [e] at h2; cases h2
      | some a => rw [e] at h2; cases h2; rfl
    obtain ⟨u, hu, rv⟩ := r.get ha
    have hp : ps[i]? = some y := by
      rw [← S.pre, List.getElem?_take_of_lt (by omega)]; exact h1
    have ndP : ps.Nodup := by rw [← S.pre]; exact S.nd.sublist (List.take_sublist _ _)
    refine ⟨u, rv, ?_⟩
    rcases S.par y (List.mem_of_getElem? hp) with k | k
    · exact .inl ⟨k, bindL_get ndP hp hu k⟩
    · obtain ⟨c, e⟩ := cell_has (n := s.heap.objs.size + 1) k
      refine .inr ⟨.inl k, c, e, ?_⟩
      have q := x.cell y c e
      rw [bindC_get ndP hp hu (by show scope.names.lookup y ≠ _; rw [k]; decide)] at q
      exact q
  · exact e0.hok.fresh (Nat.le_of_lt (x.above y c (PySem.mem_of_lookup h)))
  · unfold start
    show _ = N.length
    rw [List.length_append, List.length_map, List.length_replicate]
    omega
theorem fn_of {CX : CXT} {P : Program} {w : World} {K : PySem.W.Frag} {mg : Str → Option Value} {base : Heap} {k : Nat} {f : Addr} {name qual : Str} {params : Arguments} {body : List Stmt} {scope : Scope} {dV kV doc pm cdv ct oc : Value} {an od : Option Addr}
    {osl : Array (Option Value)} {N ps : List Str} {sp : Sp} (lk : K.lookup f = some ⟨oc, od, .func (PySem.W.fnOf name qual params body scope dV kV doc pm an cdv ct), osl⟩) (hcd : PySem.W.codeIn K cdv qual = true) (S : FnScope N ps scope)
    (len : ∀ vs H Q E, sp vs H Q E → vs.length = ps.length)
    (hbody : ∀ (A : Around) (outer : List Env) (s : Shared) (H : Hp) (vs : List V) (Q : VK) (E : XK), Room k (A.deeper (envOfC qual scope s.heap.objs.size f cdv)) → sp vs H Q E →
      ∃ t, PSs (cxOf CX P w K mg base N qual scope f cdv A outer s H E) body t ∧ t { nx := fun _ H' => Q .non H', rt := Q } (start N vs) H) :
    FnOk P w K mg base CX (k + 1) f (PySem.W.fnOf name qual params body scope dV kV doc pm an cdv ct) ps sp := by
  refine ⟨len, fun A outer s H args us vs Q E hr e0 hb r hsp => ?_⟩
  have hl := len _ _ _ _ hsp
  have KX : K.In s.heap := e0.mod.kin.keeps fun b o e => (e0.bs b o e).1
  have lim : s.heap.NoLimit := e0.mod.nolimit.keeps fun b o e => (e0.bs b o e).1
  have hkind : ∀ y ∈ ps.zip us, scope.names.lookup y.1 = some .local ∨ (scope.names.lookup y.1 = some .cell ∧ ((cellsFrom (s.heap.objs.size + 1) scope.names []).lookup y.1).isSome = true) := fun ⟨n, v⟩ hy => by
    rcases S.par n (List.of_mem_zip hy).1 with q | q
    · exact .inl q
    · exact .inr ⟨q, PySem.W.cellsFrom_some _ _ _ (.inl q)⟩
  refine codeAny_call_function hr.depth (KX _ _ lk) rfl S.co S.gen rfl (PySem.W.codeRec_of KX hcd) (hb _ _ _ _ ?_)
  refine wpAny_newFunctionEnv_cells S.kind hkind fun env he s1 x => ?_
  subst he
  refine ⟨lim.keeps x.toInCall.keep, codeAny_func ?_⟩
  obtain ⟨t, ht, hq⟩ := hbody A outer s H vs Q E (hr.deeper _) hsp
  have I : Inv (cxOf CX P w K mg base N qual scope f cdv A outer s H E) [] (start N vs) H s1 := inv_start S hr.hd e0 hl r x
  refine wpAny_mono (ht [] s1 (start N vs) H _ I hq) (fun fl s' hs => ?_) fun e s' hs => hs
  have fin : ∀ {σ' : St} {H' : Hp} {v : V} {u : Value}, Inv (cxOf CX P w K mg base N qual scope f cdv A outer s H E) [] σ' H' s' → RelV v u → Q v H' → CE outer P w H s Q u s' :=
    fun {σ' H' v u} J rv q => ⟨v, H', J.os, J.bare, J.base, J.hok, rv, q⟩
  cases fl with
  | ret u =>
    obtain ⟨v, σ', H', J, rv, q⟩ := hs
    exact fin J rv q
  | next =>
    obtain ⟨σ', H', J, q⟩ := hs
    exact fin (v := V.non) (u := Value.none) J rfl q
  | brk =>
    obtain ⟨_, _, _, q⟩ := hs
    exact False.elim q
  | cont =>
    obtain ⟨_, _, _, q⟩ := hs
    exact False.elim q
end L2
namespace L2
open PySem PySem.Spec PyProof.Rows
section
variable {X : Cx} {x : Str} {p pos : Pos} {e : Expr} {es : List Expr} {t : TA} {id T : String} {r : List V → Hp → VK → Prop}
def tCB (r : List V → Hp → VK → Prop) (t : TA) : TE := fun σ H Q => t σ H fun vs H1 => r vs H1 Q
theorem pe_callB (hc : CallR X (.builtin id) r) (hg : Gl X x) (hm : X.mg x = none) (hv : bootBuiltins x = some (.builtin id)) (ha : PA X (e :: es) t) (hn : x ≠ "__name__" := by decide) (hdb : (x == ("__debug__" : Str)) = false := by decide)
    (he : starEach (e :: es) X.env = (false, eval e X.env) :: starEach es X.env := by rfl) (hpl : (backTo pos (starEach es X.env)).any (·.1) = false := by rfl) : PE X (.Call (.Name x p) (e :: es) [] pos) (tCB r t) := by
  intro pins s σ H Q I h
  refine wpAny_Call_Name_kw (ld_blt I hg hm hv ?_ hn hdb)
  exact PyProof.Rows.callWith_builtin1 (thn (ha pos pins s σ H _ I h) fun us s1 ⟨vs, H1, I1, r1, q1⟩ => hc pins s1 σ H1 vs us Q I1 r1 q1) he hpl
theorem pe_callTy (hc : CallR X (.type T) r) (hg : Gl X x) (hm : X.mg x = none) (hv : bootBuiltins x = some (.type T)) (ha : PA X (e :: es) t) (hn : x ≠ "__name__" := by decide) (hdb : (x == ("__debug__" : Str)) = false := by decide)
    (he : starEach (e :: es) X.env = (false, eval e X.env) :: starEach es X.env := by rfl) (hpl : (backTo pos (starEach es X.env)).any (·.1) = false := by rfl) : PE X (.Call (.Name x p) (e :: es) [] pos) (tCB r t) := by
  intro pins s σ H Q I h
  refine wpAny_Call_Name_kw (ld_blt I hg hm hv ?_ hn hdb)
  exact PyProof.Rows.callWith_type1 (thn (ha pos pins s σ H _ I h) fun us s1 ⟨vs, H1, I1, r1, q1⟩ => hc pins s1 σ H1 vs us Q I1 r1 q1) he hpl
end
end L2
namespace HT
open PySem PyProof.Rows
section
open PySem.SeqAt
open PySem.AutoSeq1 (wpAny_loadPart')
open PySem.MeetsSeq PySem.MeetsSeq2 PySem.MeetsSeq3
end
section
variable {prog : Program} {w : World} {A : Around} {E : Value → Shared → Prop} {s : Shared}
theorem cat_tup {t b : Addr} {vs ws : List Value} {Q : Value → Shared → Prop} (ht : IsTup s.heap t vs.toArray) (hb : IsTup s.heap b ws.toArray) (hv : vs ≠ [])
    (h1 : ws = [] → Q (.ref t) s) (h2 : ws ≠ [] → Q (.ref s.heap.objs.size) { s with heap := s.heap.push { cls := .type "tuple", data := .seq (vs ++ ws).toArray } })
    (hsz : vs.length + ws.length ≤ sizeLine) : wpAny (model prog w) A (binaryOp .Add (.ref t) (.ref b)) Q E s := by
  obtain ⟨⟨cls, dd, data, sl⟩, ho, hc, n, hd⟩ := id ht
  obtain ⟨⟨cls2, dd2, data2, sl2⟩, ho2, hc2, n2, hd2⟩ := id hb
  simp only at hc hd hc2 hd2
  subst hc hd hc2 hd2
  have e : vs.toArray ++ ws.toArray = (vs ++ ws).toArray := by simp
  by_cases hw : ws = []
  · exact concat_meets ⟨_, ho, rfl⟩ ⟨_, ho2, rfl⟩ noFill_tuple_add seq_tuple_add PySem.F.slot_tuple_add PySem.F.entry_tuple_add (PySem.F.args_tuple_add_2 _ _)
      (tuple_addW1 t b vs.toArray ws.toArray n n2 dd dd2 sl sl2 (by simpa using hv) (by simp [hw])) ⟨ho, ho2, h1 hw⟩
  · refine concat_meets ⟨_, ho, rfl⟩ ⟨_, ho2, rfl⟩ noFill_tuple_add seq_tuple_add PySem.F.slot_tuple_add PySem.F.entry_tuple_add (PySem.F.args_tuple_add_2 _ _)
      (tuple_addW2 t b vs.toArray ws.toArray n n2 dd dd2 sl sl2 (by simpa using hv) (by simpa using hw) (by rw [List.size_toArray, List.size_toArray]; exact hsz)) ⟨ho, ho2, ?_⟩
    rw [e]
    exact h2 hw
def sIx (n d : Nat) : Option Int → Nat
  | none => d
  | some v => if v < 0 then (v + (n : Int)).toNat else min v.toNat n
theorem sIx_le (n d : Nat) (hd : d ≤ n) (o : Option Int) : sIx n d o ≤ n := by
  cases o with
  | none => exact hd
  | some v =>
    show (if v < 0 then (v + (n : Int)).toNat else min v.toNat n) ≤ n
    by_cases hv : v < 0
    · rw [if_pos hv]; omega
    · rw [if_neg hv]; exact Nat.min_le_right _ _
theorem clip_eq (v : Int) (n d : Nat) : (if v < 0 then max (v + (n : Int)) 0 else min v (n : Int)) = ((sIx n d (some v) : Nat) : Int) := by
  show (if v < 0 then max (v + (n : Int)) 0 else min v (n : Int)) = (((if v < 0 then (v + (n : Int)).toNat else min v.toNat n) : Nat) : Int)
  by_cases hv : v < 0
  · simp only [if_pos hv]; omega
  · simp only [if_neg hv]; omega
theorem adjust_gen (lo hi : Option Int) (n : Nat) : Builtin.Slice.sliceAdjust lo hi 1 (n : Int) = (((sIx n 0 lo : Nat) : Int), ((sIx n n hi : Nat) : Int)) := by
  have h1 : ¬ ((1 : Int) < 0) := by omega
  unfold Builtin.Slice.sliceAdjust
  simp only [h1, if_false]
  refine Prod.ext ?_ ?_
  · cases lo with
    | none => rfl
    | some v => exact clip_eq v n 0
  · cases hi with
    | none => rfl
    | some v => exact clip_eq v n n
theorem places_gen (i j : Nat) : Builtin.Slice.slicePlaces (i : Int) (j : Int) 1 = j - i := by
  unfold Builtin.Slice.slicePlaces
  have h1 : (1 : Int) > 0 := by omega
  simp only [h1, if_true, Int.ediv_one]
  split <;> omega
theorem slicePart_ {v : Value} {o : Option Int} {Q : Option Int → Shared → Prop} (p : IsPart v o) (h : Q o s) : wpAny (model prog w) A (Builtin.Slice.slicePartIndex v) Q E s := by
  cases p with
  | none => exact slicePart_none h
  | int i t => exact slicePart_int h
theorem sliceApplied_gen {sl : Addr} {vl vu : Value} {lo hi : Option Int} {n : Nat} {Q : Int × Int × Nat → Shared → Prop} (hs : s.heap.IsSliceOf sl vl vu .none) (pl : IsPart vl lo) (pu : IsPart vu hi)
    (h : Q (((sIx n 0 lo : Nat) : Int), 1, sIx n n hi - sIx n 0 lo) s) : wpAny (model prog w) A (Builtin.Slice.sliceApplied (.ref sl) (pure (n : Int))) Q E s := by
  obtain ⟨os, hos, hcs, hds⟩ := id hs
  unfold Builtin.Slice.sliceApplied Builtin.Slice.sliceFields
  refine wpAny_bind (wpAny_bind (wpAny_field hos hds (x := vl) rfl (wpAny_bind (wpAny_field hos hds (x := vu) rfl (wpAny_bind (wpAny_field hos hds (x := .none) rfl (wpAny_pure ?_)))))))
  refine wpAny_bind (slicePart_none ?_)
  show wpAny _ _ (if ((1 : Int) == 0) = true then _ else _) _ _ s
  rw [if_neg (by decide)]
  refine wpAny_bind (slicePart_ pl (wpAny_bind (slicePart_ pu (wpAny_bind (wpAny_pure ?_)))))
  show wpAny _ _ (match Builtin.Slice.sliceAdjust lo hi 1 (n : Int) with | (lo, hi) => pure (lo, (1 : Int), Builtin.Slice.slicePlaces lo hi 1)) _ _ s
  rw [adjust_gen lo hi n]
  show wpAny _ _ (pure (((sIx n 0 lo : Nat) : Int), (1 : Int), Builtin.Slice.slicePlaces ((sIx n 0 lo : Nat) : Int) ((sIx n n hi : Nat) : Int) 1)) _ _ s
  rw [places_gen]
  exact wpAny_pure h
theorem pick_gen (xs : Array Value) (i k : Nat) : ((List.range k).filterMap fun (m : Nat) => xs[((i : Int) + (m : Int) * 1).toNat]?).toArray = ((xs.toList.drop i).take k).toArray := by
  have e : (fun (m : Nat) => xs[((i : Int) + (m : Int) * 1).toNat]?) = fun m => xs[i + m]? := by
    funext m
    have : ((i : Int) + (m : Int) * 1).toNat = i + m := by omega
    rw [this]
  rw [e]
  have := pick_run xs i k
  rw [List.filterMap_map] at this
  have e2 : ((fun x => xs[x]?) ∘ fun x => i + x) = fun m => xs[i + m]? := rfl
  rw [e2] at this
  rw [this]
theorem getItem_tuple_cut {t sl : Addr} {items : Array Value} {vl vu : Value} {lo hi : Option Int} {Q : Value → Shared → Prop} (ht : IsTup s.heap t items) (hs : s.heap.IsSliceOf sl vl vu .none) (pl : IsPart vl lo) (pu : IsPart vu hi)
    (hw : ¬ (sIx items.size 0 lo = 0 ∧ sIx items.size items.size hi = items.size))
    (h : Q (.ref s.heap.objs.size) { s with heap := s.heap.push { cls := .type "tuple", data := .seq ((items.toList.drop (sIx items.size 0 lo)).take (sIx items.size items.size hi - sIx items.size 0 lo)).toArray } })
    (hsz : items.size ≤ sizeLine) : wpAny (model prog w) A (getItem (.ref t) (.ref sl)) Q E s := by
  have htake : sizeOk (.seq ((items.toList.drop (sIx items.size 0 lo)).take (sIx items.size items.size hi - sIx items.size 0 lo)).toArray) := by
    show ((items.toList.drop (sIx items.size 0 lo)).take (sIx items.size items.size hi - sIx items.size 0 lo)).toArray.size ≤ sizeLine
    rw [List.size_toArray, List.length_take, List.length_drop, Array.length_toList]
    omega
  have hj : sIx items.size items.size hi ≤ items.size := sIx_le _ _ (Nat.le_refl _) hi
  obtain ⟨os, hos, hcs, hds⟩ := id hs
  have hTs : s.TypeIs (.ref sl) "slice" := ⟨os, hos, hcs⟩
  unfold getItem
  try with_reducible refine wpAny_holding ?_
  first | refine wpAny_bind (wpAny_pure ?_) | skip
  refine wpAny_bind (wpAny_sequenceKey ht.typeIs (by decide) ?_)
  refine wpAny_bind (wpAny_callSpecial?_slot (name := Str.ofString "__getitem__") ht.typeIs PyProof.Rows.slot_tuple_getitem
    (wpAny_call_entry PyProof.Rows.slot_tuple_getitem ht.typeIs entry_tuple_getitem ?_ (args_tuple_getitem _ _)))
  show wpAny _ _ (Builtin.Tuple.tupleItemsOf (.ref t) >>= _) _ _ s
  refine wpAny_bind (tupleItemsOf_ ht ?_)
  refine wpAny_bind (wpAny_typeOf hTs ?_)
  rw [if_pos (by decide)]
  refine wpAny_bind (sliceApplied_gen hs pl pu ?_)
  have hno : ¬ ((((sIx items.size 0 lo : Nat) : Int) == 0 && (1 : Int) == 1 && (sIx items.size items.size hi - sIx items.size 0 lo) == items.size) = true) := by
    intro q
    rw [Bool.and_eq_true, Bool.and_eq_true] at q
    have q1 : ((sIx items.size 0 lo : Nat) : Int) = 0 := eq_of_beq q.1.1
    have q2 : sIx items.size items.size hi - sIx items.size 0 lo = items.size := eq_of_beq q.2
    exact hw ⟨by omega, by omega⟩
  show wpAny _ _ (if (((sIx items.size 0 lo : Nat) : Int) == 0 && (1 : Int) == 1 && (sIx items.size items.size hi - sIx items.size 0 lo) == items.size) = true then _ else _) _ _ s
  rw [if_neg hno, pick_gen]
  first
    | exact wpAny_bind (m := Builtin.Tuple.tupleExact _) (wpAny_newObj_type (wpAny_pure ⟨_, rfl, wpAny_pure h⟩) htake)
    | exact wpAny_bind (m := Builtin.Tuple.tupleExact _) (wpAny_newObj_type (wpAny_bind (wpAny_pure (wpAny_pure ⟨_, rfl, wpAny_pure h⟩))) htake)
    | exact wpAny_bind (wpAny_bind (m := Builtin.Tuple.tupleExact _) (wpAny_newObj_type (wpAny_pure (wpAny_pure ⟨_, rfl, wpAny_pure h⟩)) htake))
    | exact wpAny_bind (wpAny_bind (m := Builtin.Tuple.tupleExact _) (wpAny_newObj_type (wpAny_pure ⟨_, rfl, wpAny_pure h⟩) htake))
end
end HT
namespace L2
open PySem PySem.Spec PyProof.Rows
abbrev TO := St → Hp → (Option Int → Hp → Prop) → Prop
def PO (X : Cx) (e : Option Expr) (t : TO) : Prop :=
  ∀ (pins : List (Addr × Obj)) (s : Shared) (σ : St) (H : Hp) (Q : Option Int → Hp → Prop), Inv X pins σ H s → t σ H Q →
    wpAny (model X.prog X.w) X.A (evalPart e X.env) (fun u s' => ∃ o H', Inv X pins σ H' s' ∧ IsPart u o ∧ Q o H') X.xe s
def tNoPart : TO := fun _ H Q => Q none H
def tPart (t : TE) : TO := fun σ H Q => t σ H fun x H1 => ∃ i, x = .int i ∧ Q (some i) H1
section
variable {X : Cx} {e : Expr} {te : TE} {lo hi : Option Expr} {tl th : TO} {pos p2 : Pos}
theorem po_none : PO X none tNoPart := by
  intro pins s σ H Q I h
  rw [evalPart_none]
  exact wpAny_pure ⟨none, H, I, .none, h⟩
theorem po_some (h : PE X e te) : PO X (some e) (tPart te) := by
  intro pins s σ H Q I hw
  rw [evalPart_some]
  refine thn (h pins s σ H _ I hw) fun u s1 ⟨x, H1, I1, r1, q1⟩ => ?_
  obtain ⟨i, rfl, q⟩ := q1
  obtain ⟨t, rfl⟩ := r1
  exact ⟨some i, H1, I1, .int i t, q⟩
def SlR (X : Cx) (r : V → Option Int → Option Int → Hp → VK → Prop) : Prop :=
  ∀ (pins : List (Addr × Obj)) (s : Shared) (σ : St) (H : Hp) (x : V) (v vl vu : Value) (lo hi : Option Int) (sl : Addr) (Q : VK), Inv X pins σ H s → RelV x v → s.heap.IsSliceOf sl vl vu .none → IsPart vl lo → IsPart vu hi → r x lo hi H Q →
    ∃ T id, typeLookup (.type T) "__getitem__" = pure (some (.builtin id)) ∧ s.TypeIs v T ∧ wpAny (model X.prog X.w) X.A (getItem v (.ref sl)) (EP X pins σ Q) X.xe s
theorem SlR.or {r r' : V → Option Int → Option Int → Hp → VK → Prop} (h : SlR X r) (h' : SlR X r') : SlR X (fun x lo hi H Q => r x lo hi H Q ∨ r' x lo hi H Q) := by
  intro pins s σ H x v vl vu lo hi sl Q I rx hs pl pu q
  rcases q with q | q
  · exact h pins s σ H x v vl vu lo hi sl Q I rx hs pl pu q
  · exact h' pins s σ H x v vl vu lo hi sl Q I rx hs pl pu q
def tSl (r : V → Option Int → Option Int → Hp → VK → Prop) (te : TE) (tl th : TO) : TE := fun σ H Q => te σ H fun x H1 => tl σ H1 fun l H2 => th σ H2 fun u H3 => r x l u H3 Q
theorem pe_slice {r : V → Option Int → Option Int → Hp → VK → Prop} (hr : SlR X r) (he : PE X e te) (hl : PO X lo tl) (hu : PO X hi th) : PE X (.Subscript e (.Slice lo hi none p2) pos) (tSl r te tl th) := by
  intro pins s σ H Q I h
  refine Subscript_ (thn (he pins s σ H _ I h) fun v s1 ⟨x, H1, I1, r1, q1⟩ => ?_)
  refine wpAny_Slice (thn (hl pins s1 σ H1 _ I1 q1) fun vl s2 ⟨l, H2, I2, pl, q2⟩ => thn (hu pins s2 σ H2 _ I2 q2) fun vu s3 ⟨u, H3, I3, pu, q3⟩ => ?_)
  rw [evalPart_none]
  refine wpAny_pure ?_
  have I4 : Inv X pins σ H3 { s3 with heap := s3.heap.push { cls := .type "slice", data := .fields #[vl, vu, .none] } } := I3.kept (t' := s3.toks) fun b ob q => Heap.get?_push_of_some _ q
  obtain ⟨T, id, hT, ht, hg⟩ := hr pins { s3 with heap := s3.heap.push { cls := .type "slice", data := .fields #[vl, vu, .none] } } σ H3 x v vl vu l u s3.heap.objs.size Q I4 r1 (Heap.IsSliceOf.new ..) pl pu q3
  show wpAny (model X.prog X.w) X.A (subscriptTail e (.Slice lo hi none p2) v (.ref s3.heap.objs.size)) (EP X pins σ Q) X.xe { s3 with heap := s3.heap.push { cls := .type "slice", data := .fields #[vl, vu, .none] } }
  exact tail_any (ops := [.ref s3.heap.objs.size, v]) ht hT hg (by with_unfolding_all rfl)
def cutV (xs : List V) (lo hi : Option Int) : List V := (xs.drop (HT.sIx xs.length 0 lo)).take (HT.sIx xs.length xs.length hi - HT.sIx xs.length 0 lo)
theorem cutV_length (xs : List V) (lo hi : Option Int) : (cutV xs lo hi).length ≤ xs.length := by
  unfold cutV
  rw [List.length_take, List.length_drop]
  omega
end
end L2
namespace L2
open PySem PySem.Spec PyProof.Rows
def ixN (n : Nat) (i : Int) : Option Nat := if 0 ≤ i then (if i < n then some i.toNat else none) else if -(n : Int) ≤ i then some (i + n).toNat else none
def atI {α : Type} (xs : List α) (i : Int) : Option α := (ixN xs.length i).bind fun j => xs[j]?
theorem ixN_seq {n : Nat} {i : Int} {j : Nat} (h : ixN n i = some j) : seqIndex? i n = some j ∧ j < n ∧ -(n : Int) ≤ i ∧ i < n := by
  unfold ixN at h
  by_cases h0 : 0 ≤ i
  · rw [if_pos h0] at h
    by_cases h1 : i < n
    · rw [if_pos h1] at h
      have e : i.toNat = j := Option.some.inj h
      exact ⟨by rw [seqIndex_of h0 h1, e], by omega, by omega, h1⟩
    · rw [if_neg h1] at h; cases h
  · rw [if_neg h0] at h
    by_cases h1 : -(n : Int) ≤ i
    · rw [if_pos h1] at h
      have e : (i + n).toNat = j := Option.some.inj h
      exact ⟨by rw [seqIndex_neg (by omega) h1, e], by omega, h1, by omega⟩
    · rw [if_neg h1] at h; cases h
theorem atI_get {α : Type} {xs : List α} {i : Int} {v : α} (h : atI xs i = some v) : ∃ j, seqIndex? i xs.length = some j ∧ xs[j]? = some v ∧ j < xs.length ∧ -(xs.length : Int) ≤ i ∧ i < xs.length := by
  unfold atI at h
  cases e : ixN xs.length i with
  | none => rw [e] at h; cases h
  | some j =>
    rw [e] at h
    obtain ⟨h1, h2, h3, h4⟩ := ixN_seq e
    exact ⟨j, h1, h, h2, h3, h4⟩
theorem atI_nat {α : Type} {xs : List α} {j : Nat} {v : α} (h : xs[j]? = some v) : atI xs (j : Int) = some v := by
  have hj : j < xs.length := (List.getElem?_eq_some_iff.mp h).1
  have e : ixN xs.length (j : Int) = some j := by
    unfold ixN
    rw [if_pos (by omega), if_pos (by omega)]; simp
  unfold atI; rw [e]; exact h
def PlainIx (b : Expr) : Prop := ∀ o i, subscripted b false o i = operate [o, i] (getItem o i)
def IxR (X : Cx) (r : R2) : Prop :=
  ∀ (value slice : Expr) (pins : List (Addr × Obj)) (s : Shared) (σ : St) (H : Hp) (x y : V) (v u : Value) (Q : VK), Inv X pins σ H s → RelV x v → RelV y u → r x y H Q →
    subscripted slice false v u = operate [v, u] (getItem v u) → wpAny (model X.prog X.w) X.A (subscriptTail value slice v u) (EP X pins σ Q) X.xe s
def MtR (X : Cx) (id : String) (r : V → List V → Hp → VK → Prop) : Prop :=
  ∀ (pins : List (Addr × Obj)) (s : Shared) (σ : St) (H : Hp) (x : V) (xs : List V) (v : Value) (us : List Value) (Q : VK), Inv X pins σ H s → RelV x v → Vals xs us → r x xs H Q →
    wpAny (model X.prog X.w) X.A (call (.builtin id) (v :: us)) (EP X pins σ Q) X.xe s
section
variable {X : Cx} {a b : Expr} {ta tb : TE} {pos : Pos}
theorem IxR.or {r r' : R2} (h : IxR X r) (h' : IxR X r') : IxR X (fun x y H Q => r x y H Q ∨ r' x y H Q) := by
  intro value slice pins s σ H x y v u Q I rx ry q hs
  rcases q with q | q
  · exact h value slice pins s σ H x y v u Q I rx ry q hs
  · exact h' value slice pins s σ H x y v u Q I rx ry q hs
theorem MtR.or {id : String} {r r' : V → List V → Hp → VK → Prop} (h : MtR X id r) (h' : MtR X id r') : MtR X id (fun x xs H Q => r x xs H Q ∨ r' x xs H Q) := by
  intro pins s σ H x xs v us Q I rx rs q
  rcases q with q | q
  · exact h pins s σ H x xs v us Q I rx rs q
  · exact h' pins s σ H x xs v us Q I rx rs q
theorem pe_ix {r : R2} (hr : IxR X r) (ha : PE X a ta) (hb : PE X b tb) (hs : PlainIx b) : PE X (.Subscript a b pos) (tOp r ta tb) := by
  intro pins s σ H Q I h
  exact Subscript_ (binT ha hb I h fun v u s2 x y H2 I2 rx ry q => hr a b pins s2 σ H2 x y v u Q I2 rx ry q (hs _ _))
def rIxL (K : PySem.W.Frag) : R2 := fun x y H Q => ∃ p xs i v, x = .ref p ∧ y = .int i ∧ SqL K H p xs ∧ atI xs i = some v ∧ Q v H
def rIxT (K : PySem.W.Frag) : R2 := fun x y H Q => ∃ p xs i v, x = .ref p ∧ y = .int i ∧ SqT K H p xs ∧ atI xs i = some v ∧ Q v H
def rIxS : R2 := fun x y H Q => ∃ z i c, x = .str z ∧ y = .int i ∧ z.length ≤ sizeLine ∧ atI z.cps.toList i = some c ∧ Q (.str ⟨#[c]⟩) H
theorem ix_list : IxR X (rIxL X.K) := by
  intro value slice pins s σ H x y v u Q I rx ry h hs
  obtain ⟨p, xs, i, z, rfl, rfl, hq, he, q⟩ := h
  cases rx
  obtain ⟨t, rfl⟩ := ry
  obtain ⟨its, r, pl, hz⟩ := I.list hq
  obtain ⟨j, h1, h2, h3, h4, h5⟩ := atI_get he
  obtain ⟨w, ew, rw'⟩ := r.get h2
  have hl := r.length
  have hn := line63
  have fin : EP X pins σ Q w s := ⟨z, H, I, rw', q⟩
  by_cases h0 : 0 ≤ i
  · have hj : i.toNat = j := by
      rw [seqIndex_of h0 h5] at h1
      exact Option.some.inj h1
    exact item_listR pl.isList h0 (by omega) (by rw [hj]; simpa using ew) fin hs
  · have hj : (i + (its.toArray.size : Int)).toNat = j := by
      rw [seqIndex_neg (by omega) h4] at h1
      rw [List.size_toArray, ← hl]
      exact Option.some.inj h1
    exact subscriptTail_builtinR (x := w) pl.isList.typeIs slot_list_getitem.lookup
      (wpAny_getItem_list_neg (Q := fun r s' => r = w ∧ EP X pins σ Q r s') pl.isList (by omega) (by rw [List.size_toArray] <;> omega) (by omega) (by rw [hj]; simpa using ew) ⟨rfl, fin⟩) hs
theorem ix_tup : IxR X (rIxT X.K) := by
  intro value slice pins s σ H x y v u Q I rx ry h hs
  obtain ⟨p, xs, i, z, rfl, rfl, hq, he, q⟩ := h
  cases rx
  obtain ⟨t, rfl⟩ := ry
  obtain ⟨its, r, pl, hz⟩ := I.tuple hq
  obtain ⟨j, h1, h2, h3, h4, h5⟩ := atI_get he
  obtain ⟨w, ew, rw'⟩ := r.get h2
  have hl := r.length
  have hn := line63
  have fin : EP X pins σ Q w s := ⟨z, H, I, rw', q⟩
  exact subscriptTail_builtinR (x := w) pl.typeIs slot_tuple_getitem.lookup
    (getItem_tuple (j := j) (Q := fun r s' => r = w ∧ EP X pins σ Q r s') pl (by omega) (by omega) (by rw [List.size_toArray, ← hl]; exact h1) (by simpa using ew) ⟨rfl, fin⟩) hs
theorem ix_str : IxR X rIxS := by
  intro value slice pins s σ H x y v u Q I rx ry h hs
  obtain ⟨z, i, c, rfl, rfl, hz, he, q⟩ := h
  obtain ⟨t, rfl⟩ := rx
  obtain ⟨t', rfl⟩ := ry
  obtain ⟨j, h1, h2, h3, h4, h5⟩ := atI_get he
  have hl : z.cps.toList.length = z.length := by simp [Str.length]
  rw [hl] at h1 h4 h5
  have hn := line63
  exact tail_any (typeIs_str s z t) slot_str_getitem.lookup (getItem_str (c := c) (by
    have e1 : decide (i < -(2 ^ 63 : Int)) = false := decide_eq_false (by omega)
    have e2 : decide (i ≥ 2 ^ 63) = false := decide_eq_false (by omega)
    rw [e1, e2, Bool.or_false]) (by rw [h1]; simpa using h2) ⟨.str ⟨#[c]⟩, H, I.tok _, ⟨_, rfl⟩, q⟩) hs
def rIx (K : PySem.W.Frag) : R2 := fun x y H Q => rIxL K x y H Q ∨ rIxT K x y H Q ∨ rIxS x y H Q
theorem ix_seq : IxR X (rIx X.K) := ix_list.or (ix_tup.or ix_str)
theorem mapSeq_set (its : List Value) (n j : Nat) (u : Value) : Obj.mapSeq (·.setIfInBounds j u) { cls := .type "list", data := .seq its.toArray n } = { cls := .type "list", data := .seq (its.set j u).toArray n } := by
  simp [Obj.mapSeq]
theorem Inv.lst {pins : List (Addr × Obj)} {σ : St} {H : Hp} {s : Shared} {p : Addr} {xs : List V} (I : Inv X pins σ H s) (h : H p = some (.lst xs)) :
    ∃ (its : List Value) (n : Nat), Vals xs its ∧ s.heap.get? p = some { cls := .type "list", data := .seq its.toArray n } ∧ xs.length ≤ sizeLine := by
  obtain ⟨z, its, n, r, e⟩ := I.hok p _ h
  exact ⟨its, n, r, e, z⟩
theorem Inv.lstUpd {pins : List (Addr × Obj)} {σ : St} {H : Hp} {s : Shared} {p : Addr} {xs ys : List V} {its its' : List Value} {n n' : Nat} {f : Obj → Obj} (I : Inv X pins σ H s) (h : H p = some (.lst xs))
    (ho : s.heap.get? p = some { cls := .type "list", data := .seq its.toArray n }) (hf : f { cls := .type "list", data := .seq its.toArray n } = { cls := .type "list", data := .seq its'.toArray n' }) (r : Vals ys its') (hz : ys.length ≤ sizeLine) (t : Nat) :
    Inv X pins σ (upd H p (.lst ys)) { s with heap := s.heap.update p f, toks := t } := by
  have e : (s.heap.update p f).get? p = some { cls := .type "list", data := .seq its'.toArray n' } := by
    rw [Heap.get?_update_self f ho (by rw [hf] <;> rfl), hf]
  refine I.write (x := p) (e := p) (by rw [h]; trivial) (.inl rfl) (fun b u hb q => (Heap.get?_update_other _ _ (Ne.symm hb)).trans q) ⟨_, e⟩ ?_
  exact ⟨hz, its', n', r, e⟩
def rSetL : V → V → V → Hp → (Hp → Prop) → Prop := fun o i v H Q => ∃ p xs k j, o = .ref p ∧ i = .int k ∧ H p = some (.lst xs) ∧ ixN xs.length k = some j ∧ Q (upd H p (.lst (xs.set j v)))
theorem set_list : PSet X rSetL := by
  intro pins s σ H o i v ov iv u Q I ro ri rv h
  obtain ⟨p, xs, k, j, rfl, rfl, hp, hj, q⟩ := h
  cases ro
  obtain ⟨t, rfl⟩ := ri
  obtain ⟨its, n, r, ho, hz⟩ := I.lst hp
  obtain ⟨h1, h2, h3, h4⟩ := ixN_seq hj
  have hl := r.length
  have hn := line63
  have I' : Inv X pins σ (upd H p (.lst (xs.set j v))) { s with heap := s.heap.update p (Obj.mapSeq (·.setIfInBounds j u)) } :=
    I.lstUpd hp ho (mapSeq_set its n j u) (r.set rv j) (by rw [List.length_set]; exact hz) s.toks
  by_cases h0 : 0 ≤ k
  · have hk : k.toNat = j := by
      rw [seqIndex_of h0 h4] at h1
      exact Option.some.inj h1
    exact PySem.W.ki_setAt ho h0 (by omega) (by rw [List.size_toArray, ← hl]; exact h4) (by rw [hk]; exact ⟨_, I', q⟩)
  · have hk : (k + (its.toArray.size : Int)).toNat = j := by
      rw [seqIndex_neg (by omega) h3] at h1
      rw [List.size_toArray, ← hl]
      exact Option.some.inj h1
    exact PySem.W.ki_setBack ho (by omega) (by rw [List.size_toArray, ← hl]; exact h3) (by omega) (by rw [hk]; exact ⟨_, I', q⟩)
theorem slice_bounds (lo hi : Option Int) (n : Nat) : (sliceBounds lo hi none n).1 = ((HT.sIx n 0 lo : Nat) : Int) ∧ (sliceBounds lo hi none n).2.1 = ((HT.sIx n n hi : Nat) : Int) ∧ (sliceBounds lo hi none n).2.2 = 1 := by
  refine ⟨?_, ?_, rfl⟩
  · cases lo with
    | none => simp [sliceBounds, HT.sIx]
    | some i =>
      simp only [sliceBounds, HT.sIx, Option.getD_none, show (1 : Int) > 0 by decide, if_true]
      by_cases h : i < 0
      · simp only [h, if_true] <;> omega
      · simp only [h, if_false] <;> omega
  · cases hi with
    | none => simp [sliceBounds, HT.sIx]
    | some i =>
      simp only [sliceBounds, HT.sIx, Option.getD_none, show (1 : Int) > 0 by decide, if_true]
      by_cases h : i < 0
      · simp only [h, if_true] <;> omega
      · simp only [h, if_false] <;> omega
theorem slicePick_cut (its : List Value) (lo hi : Option Int) : slicePick its.toArray lo hi none = ((its.drop (HT.sIx its.length 0 lo)).take (HT.sIx its.length its.length hi - HT.sIx its.length 0 lo)).toArray := by
  obtain ⟨h1, h2, h3⟩ := slice_bounds lo hi its.toArray.size
  unfold slicePick
  rw [h1, h2, h3]
  simp only [sliceRange_one, pick_run, List.size_toArray] <;> rfl
theorem CallR.or {f : Value} {r r' : List V → Hp → VK → Prop} (h : CallR X f r) (h' : CallR X f r') : CallR X f (fun xs H Q => r xs H Q ∨ r' xs H Q) := by
  intro pins s σ H xs us Q I rs q
  rcases q with q | q
  · exact h pins s σ H xs us Q I rs q
  · exact h' pins s σ H xs us Q I rs q
theorem call_list_of : CallR X (.type "list") (fun xs H Q => ∃ p ys, xs = [.ref p] ∧ (SqL X.K H p ys ∨ SqT X.K H p ys) ∧ ∀ l, H l = none → Q (.ref l) (upd H l (.lst ys))) := by
  intro pins s σ H xs us Q I r h
  obtain ⟨p, ys, rfl, hq, q⟩ := h
  obtain ⟨u, rfl, rx⟩ := vals1 r
  cases rx
  have fin : ∀ (its : List Value), Vals ys its → ys.length ≤ sizeLine → ∀ (h' : Heap) (c' : Nat), (∀ b o', s.heap.get? b = some o' → h'.get? b = some o') →
      h'.get? s.heap.objs.size = some { cls := .type "list", dict := none, data := .seq its.toArray c', slots := #[] } → EP X pins σ Q (.ref s.heap.objs.size) { s with heap := h' } := fun its r' hz h' c' kp e =>
    ⟨.ref s.heap.objs.size, _, I.laid (t' := s.toks) kp (Nat.le_refl _) (show ObjOk X.prog X.w _ h' _ (.lst ys) from ⟨hz, its, c', r', e⟩), rfl, q _ (I.hok.fresh (Nat.le_refl _))⟩
  rcases hq with hq | hq
  · obtain ⟨its, r', pl, hz⟩ := I.list hq
    have hlen := r'.length
    obtain ⟨o, ho, hc, n, hd⟩ := pl.isList
    exact call_list_seq p (.inl rfl) ho hc hd (fun h' c' kp e => fin its r' hz h' c' kp e) (by simp only [List.size_toArray] <;> omega)
  · obtain ⟨its, r', pl, hz⟩ := I.tuple hq
    have hlen := r'.length
    obtain ⟨o, ho, hc, n, hd⟩ := pl
    exact call_list_seq p (.inr rfl) ho hc hd (fun h' c' kp e => fin its r' hz h' c' kp e) (by simp only [List.size_toArray] <;> omega)
theorem call_tuple_of : CallR X (.type "tuple") (fun xs H Q => ∃ p ys, xs = [.ref p] ∧ ((SqL X.K H p ys ∧ ∀ l, H l = none → Q (.ref l) (upd H l (.tup ys))) ∨ (SqT X.K H p ys ∧ Q (.ref p) H))) := by
  intro pins s σ H xs us Q I r h
  obtain ⟨p, ys, rfl, h⟩ := h
  obtain ⟨u, rfl, rx⟩ := vals1 r
  cases rx
  rcases h with ⟨hq, q⟩ | ⟨hq, q⟩
  · obtain ⟨its, r', pl, hz⟩ := I.list hq
    have hlen := r'.length
    refine call_tuple_list pl.isList (fun h' kp => ?_) (by simp only [List.size_toArray] <;> omega)
    have I1 : Inv X pins σ H { s with heap := h' } := I.kept (t' := s.toks) kp
    have I2 : Inv X pins σ (upd H h'.objs.size (.tup ys)) { s with heap := h'.push { cls := .type "tuple", data := .seq its.toArray } } :=
      I1.laid (t' := s.toks) (fun b o e => Heap.get?_push_of_some _ e) (Nat.le_refl _) (show ObjOk X.prog X.w _ _ _ (.tup ys) from ⟨hz, its, r', IsTup.new _ _⟩)
    exact ⟨.ref h'.objs.size, _, I2, rfl, q _ (I1.hok.fresh (Nat.le_refl _))⟩
  · obtain ⟨its, r', pl, hz⟩ := I.tuple hq
    exact call_tuple_same pl ⟨.ref p, H, I, rfl, q⟩
def tyV (K : PySem.W.Frag) (T : String) (x : V) (H : Hp) : Prop := match x with
  | .str _ => T = "str"
  | .int _ => T = "int"
  | .ref p => (T = "list" ∧ ∃ xs, SqL K H p xs) ∨ (T = "tuple" ∧ ∃ o, K.lookup p = some o ∧ o.cls = .type "tuple" ∧ o.dict = none) ∨
      (T = "dict" ∧ ((∃ kvs, H p = some (.dK kvs)) ∨ ∃ kvs, H p = some (.dT kvs))) ∨ (T = "set" ∧ ∃ S n, H p = some (.set S n))
  | _ => False
theorem tyV_is {pins : List (Addr × Obj)} {σ : St} {H : Hp} {s : Shared} {T : String} {x : V} {v : Value} (I : Inv X pins σ H s) (r : RelV x v) (ty : tyV X.K T x H) :
    s.TypeIs v T ∧ ∀ a, v = .ref a → ∃ ob, s.heap.get? a = some ob ∧ ob.dict = none := by
  cases x with
  | str z =>
    obtain ⟨t, rfl⟩ := r
    cases (show T = "str" from ty)
    exact ⟨typeIs_str s z t, fun _ e => nomatch e⟩
  | int i =>
    obtain ⟨t, rfl⟩ := r
    cases (show T = "int" from ty)
    exact ⟨typeIs_int s i t, fun _ e => nomatch e⟩
  | ref p =>
    cases r
    rcases ty with ⟨rfl, xs, hq⟩ | ⟨rfl, o, hk, hc, hd⟩ | ⟨rfl, hk⟩ | ⟨rfl, S, n, hk⟩
    · obtain ⟨its, _, pl, _⟩ := I.list hq
      refine ⟨pl.isList.typeIs, fun a e => ?_⟩
      cases e
      obtain ⟨o, n, e, c, hd, _⟩ := pl
      exact ⟨o, e, hd⟩
    · refine ⟨⟨o, I.kIn p o hk, hc⟩, fun a e => ?_⟩
      cases e
      exact ⟨o, I.kIn _ o hk, hd⟩
    · have z : ∃ o, s.heap.get? p = some o ∧ o.ExactDict := by
        rcases hk with ⟨kvs, hk⟩ | ⟨kvs, hk⟩
        · obtain ⟨_, _, _, _, o, _, _, e, ex, _⟩ := I.hok p _ hk
          exact ⟨o, e, ex⟩
        · obtain ⟨_, _, _, _, o, _, _, e, ex, _⟩ := I.hok p _ hk
          exact ⟨o, e, ex⟩
      obtain ⟨o, e, ex⟩ := z
      refine ⟨⟨o, e, ex.1⟩, fun a e2 => ?_⟩
      cases e2
      exact ⟨o, e, ex.2.1⟩
    · obtain ⟨o, _, _, _, e, ex, _⟩ := I.hok p _ hk
      refine ⟨⟨o, e, ex.1⟩, fun a e2 => ?_⟩
      cases e2
      exact ⟨o, e, ex.2.1⟩
  | _ => exact False.elim ty
def tBM0 (K : PySem.W.Frag) (T : String) (r : V → List V → Hp → VK → Prop) (to : TE) : TE := fun σ H Q => to σ H fun x H1 => tyV K T x H1 ∧ r x [] H1 Q
def tBM (K : PySem.W.Frag) (T : String) (r : V → List V → Hp → VK → Prop) (to : TE) (t : TA) : TE := fun σ H Q => to σ H fun x H1 => tyV K T x H1 ∧ t σ H1 fun xs H2 => r x xs H2 Q
variable {o e : Expr} {es : List Expr} {to : TE} {t : TA} {name : Str} {apos cpos : Pos} {T id : String} {r : V → List V → Hp → VK → Prop}
theorem pe_bm0 (pa : PlainAttrs T) (slot : Slot T name id) (hty : typeOf (.builtin id) = pure (.type "method_descriptor")) (hm : MtR X id r) (ho : PE X o to)
    (hbase : attributeBase o name X.env (eval o X.env) = eval o X.env := by rfl) (hline : (apos.endLine == cpos.line) = true := by rfl) : PE X (.Call (.Attribute o name apos) [] [] cpos) (tBM0 X.K T r to) := by
  intro pins s σ H Q I h
  refine wpAny_Call_method0_late hbase hline (thn (ho pins s σ H _ I h) fun v s1 ⟨x, H1, I1, r1, ty, q1⟩ => ?_)
  obtain ⟨h1, h2⟩ := tyV_is I1 r1 ty
  exact ⟨T, id, pa, slot, hty, h1, h2, Calls.callWith_builtin rfl (PySem.evalArgs_none (hm pins s1 σ H1 x [] v [] Q I1 r1 .nil q1))⟩
theorem pe_bm (pa : PlainAttrs T) (slot : Slot T name id) (hty : typeOf (.builtin id) = pure (.type "method_descriptor")) (hm : MtR X id r) (ho : PE X o to) (ha : PA X (e :: es) t)
    (hbase : attributeBase o name X.env (eval o X.env) = eval o X.env := by rfl)
    (hfew : ((backTo cpos (starEach (e :: es) X.env)).all (fun x => !x.1) && (backToKw cpos (keywordEach [] X.env)).all (fun x => x.1.isSome)
      && decide ((e :: es).length + ([] : List Keyword).length + (if ([] : List Keyword).isEmpty then 0 else 1) < 30)) = true := by rfl)
    (hline : (apos.endLine == cpos.line) = true := by rfl) (hs : starEach (e :: es) X.env = (false, eval e X.env) :: starEach es X.env := by rfl) (hplain : (backTo cpos (starEach es X.env)).any (·.1) = false := by rfl) :
    PE X (.Call (.Attribute o name apos) (e :: es) [] cpos) (tBM X.K T r to t) := by
  intro pins s σ H Q I h
  refine wpAny_Call_method_late hbase hfew hline rfl (thn (ho pins s σ H _ I h) fun v s1 ⟨x, H1, I1, r1, ty, q1⟩ => ?_)
  obtain ⟨h1, h2⟩ := tyV_is I1 r1 ty
  refine ⟨T, id, pa, slot, hty, h1, h2, ?_⟩
  have hA := ha cpos pins s1 σ H1 _ I1 q1
  rw [hs] at hA ⊢
  refine Calls.callWith_builtin (by show (false || (backTo cpos (starEach es X.env)).any (·.1)) = false; rw [hplain] <;> rfl) (Calls.evalArgs_plain ?_)
  exact thn hA fun us s2 ⟨vs, H2, I2, r2, q2⟩ => hm pins s2 σ H2 x vs v us Q I2 r1 r2 q2
/- xs.append(e), list.index on a module's tuple .. are MtR facts of 06m -/
end
end L2
namespace L2
open PySem PySem.Spec PyProof.Rows
def MtM (X : Cx) (id : String) (r : V → List V → Hp → VK → Prop) : Prop :=
  ∀ (pins : List (Addr × Obj)) (s : Shared) (σ : St) (H : Hp) (x : V) (xs : List V) (v : Value) (us : List Value) (Q : VK), Inv X pins σ H s → RelV x v → Vals xs us → r x xs H Q →
    wpAny (model X.prog X.w) X.A (call (.builtin id) (v :: us)) (EP X pins σ Q) X.xe s
theorem Vals.one : ∀ {x : V} {us : List Value}, Vals [x] us → ∃ u, us = [u] ∧ RelV x u
  | _, _, .cons r .nil => ⟨_, rfl, r⟩
theorem Vals.two : ∀ {x y : V} {us : List Value}, Vals [x, y] us → ∃ u v, us = [u, v] ∧ RelV x u ∧ RelV y v
  | _, _, _, .cons r (.cons q .nil) => ⟨_, _, rfl, r, q⟩
theorem Vals.zero : ∀ {us : List Value}, Vals [] us → us = []
  | _, .nil => rfl
theorem Vals.dropLast {xs : List V} {us : List Value} (h : Vals xs us) : Vals xs.dropLast us.dropLast := by
  induction h with
  | nil => exact .nil
  | cons r t ih =>
    cases t with
    | nil => exact .nil
    | cons q t' => exact .cons r ih
theorem Vals.reverse {xs : List V} {us : List Value} (h : Vals xs us) : Vals xs.reverse us.reverse := by
  induction h with
  | nil => exact .nil
  | cons r t ih => rw [List.reverse_cons, List.reverse_cons]; exact Vals.append ih (.cons r .nil)
theorem Vals.rep {xs : List V} {us : List Value} (h : Vals xs us) : ∀ k : Nat, Vals (List.replicate k xs).flatten (List.replicate k us).flatten
  | 0 => .nil
  | k + 1 => by
    rw [List.replicate_succ, List.replicate_succ, List.flatten_cons, List.flatten_cons]
    exact Vals.append h (Vals.rep h k)
theorem foldl_rep (its : List Value) : ∀ (k : Nat) (acc : List Value),
    List.foldl (fun x1 x2 => x1 ++ x2) acc.toArray (List.replicate k its.toArray) = (acc ++ (List.replicate k its).flatten).toArray
  | 0, acc => by simp
  | k + 1, acc => by
    have e : acc.toArray ++ its.toArray = (acc ++ its).toArray := by simp
    have e2 : (acc ++ its) ++ (List.replicate k its).flatten = acc ++ (List.replicate (k + 1) its).flatten := by
      rw [List.replicate_succ, List.flatten_cons, List.append_assoc]
    rw [← e2, ← foldl_rep its k (acc ++ its), ← e, List.replicate_succ, List.foldl_cons]
section
variable {X : Cx} {pins : List (Addr × Obj)} {σ : St} {H : Hp} {s : Shared} {l b : Addr} {xs ys zs : List V}
theorem Inv.lset {its its' : List Value} {n : Nat} {f : Array Value → Array Value} {t' : Nat} (I : Inv X pins σ H s) (hH : H l = some (.lst xs))
    (e : s.heap.get? l = some { cls := .type "list", data := .seq its.toArray n }) (hf : f its.toArray = its'.toArray) (hv : Vals ys its') (hz : ys.length ≤ sizeLine) :
    Inv X pins σ (upd H l (.lst ys)) { s with heap := s.heap.update l (Obj.mapSeq f), toks := t' } := by
  have q := PySem.IsL.update e f
  rw [hf] at q
  refine I.write (x := l) (e := l) (by rw [hH]; exact trivial) (.inl rfl) (fun b' u hb hu => (Heap.get?_update_other s.heap (Obj.mapSeq f) (Ne.symm hb)).trans hu) ⟨_, q⟩ ?_
  exact ⟨hz, its', _, hv, q⟩
theorem Inv.lnew {its : List Value} {t' : Nat} (I : Inv X pins σ H s) (hv : Vals ys its) (hz : ys.length ≤ sizeLine) :
    Inv X pins σ (upd H s.heap.objs.size (.lst ys)) { s with heap := s.heap.push { cls := .type "list", data := .seq its.toArray }, toks := t' } :=
  I.laid (fun _ _ q => Heap.get?_push_of_some _ q) (Nat.le_refl _) ⟨hz, its, 0, hv, Heap.get?_push_size _ rfl⟩
theorem Inv.fresh (I : Inv X pins σ H s) : H s.heap.objs.size = none := I.hok.fresh (Nat.le_refl _)
theorem Inv.lstM (I : Inv X pins σ H s) (hH : H l = some (.lst xs)) : xs.length ≤ sizeLine ∧ ∃ (its : List Value) (n : Nat), Vals xs its ∧ xs.length = its.length ∧ s.heap.get? l = some { cls := .type "list", data := .seq its.toArray n } := by
  obtain ⟨z, its, n, r, e⟩ := I.hok l _ hH
  exact ⟨z, its, n, r, r.length, e⟩
theorem notLongL {n : Nat} (h : n ≤ sizeLine) : Builtin.List.listTooLong n = false := by
  unfold Builtin.List.listTooLong
  exact decide_eq_false (by omega)
end
section
variable {X : Cx}
def rAppend : V → List V → Hp → VK → Prop := fun x vs H Q => ∃ l xs y, x = .ref l ∧ vs = [y] ∧ H l = some (.lst xs) ∧ xs.length < sizeLine ∧ Q .non (upd H l (.lst (xs ++ [y])))
theorem mt_append : MtM X "list.append" rAppend := by
  intro pins s σ H x vs v us Q I rx rv h
  obtain ⟨l, xs, y, rfl, rfl, hH, hz, q⟩ := h
  cases rx
  obtain ⟨u, rfl, ru⟩ := rv.one
  obtain ⟨z, its, n, r, hl, e⟩ := I.lstM hH
  refine call_meets F.slot_list_append ⟨_, e, rfl⟩ F.entry_list_append (F.args_list_append_2 _ _) (PySem.list_append l its.toArray n u (by rw [List.size_toArray]; omega)) ⟨e, ?_⟩
  refine ⟨.non, _, I.lset (its' := its ++ [u]) hH e (by simp) (r.append (.cons ru .nil)) ?_, rfl, q⟩
  rw [List.length_append, List.length_singleton]
  omega
theorem len_rep {α : Type} (xs : List α) (k : Nat) : (List.replicate k xs).flatten.length = k * xs.length := by
  induction k with
  | zero => simp
  | succ k ih => rw [List.replicate_succ, List.flatten_cons, List.length_append, ih, Nat.succ_mul, Nat.add_comm]
end
section
variable {prog : Program} {w : World} {A : Around} {E : Value → Shared → Prop} {s : Shared}
end
section
variable {X : Cx}
end
end L2
namespace Att
open PySem PySem.W PySem.Calls PyProof.Rows
theorem ints_of_wellAll {P : Params} {h : Heap} : ∀ (ns : List Int) (vs : List Value), WellAll P h vs (ns.map WData.int) → IntsAre vs ns := by
  intro ns
  induction ns with
  | nil =>
    intro vs w
    rw [List.map_nil] at w
    cases w
    exact .nil
  | cons n ns ih =>
    intro vs w
    rw [List.map_cons] at w
    cases w with
    | cons a b =>
      cases a
      exact .cons _ _ (ih _ b)
theorem script_of {l : OpenLaw} {n : Nat} (hn : l.most = some n) {P : Params} {h : Heap} {args : List WData} {vals : List Value}
    (hpre : l.row.toRowW.claim.pre args = true) (hwl : WellAll P h vals args) :
    ∃ a vs ns, vals = [Value.ref a] ∧ args = [WData.list (ns.map WData.int)] ∧ h.get? a = some { cls := .type "list", data := .seq vs.toArray } ∧ IntsAre vs ns ∧ ns.length ≤ n := by
  have hsh : WShape.hasAll [] args [.list .int] = true := (pre_splitW hpre).1
  have hc : l.pre.holds [] { args := args } = true := (pre_splitW hpre).2
  obtain ⟨d, r, rfl, h1, h2⟩ := hasAllW_cons hsh
  obtain rfl := hasAllW_nil h2
  obtain ⟨xs, rfl, h3⟩ := hasW_list h1
  obtain ⟨ns, rfl⟩ := items_int h3
  have hlen : ns.length ≤ n := by
    unfold OpenLaw.pre at hc
    have h4 : (WTm.not (.lt (.lit (.int (n : Int))) (.len (.arg 0)))).holds [] { args := [.list (ns.map .int)] } = true := by
      have h4 := (holds_andW hc).1
      rw [hn] at h4
      exact h4
    have h5 := condW_of h4 (w_not (w_lt w_lit (w_len_list (w_arg rfl))))
    rw [List.length_map] at h5
    refine Nat.le_of_not_lt fun q => ?_
    have q' : (n : Int) < ((ns.length : Nat) : Int) := by omega
    first
      | (rw [decide_eq_true q'] at h5; exact absurd h5 (by decide))
      | (simp at h5; omega)
  cases hwl with
  | cons w1 w2 =>
    cases w2
    cases w1 with
    | list ho hall => exact ⟨_, _, ns, rfl, rfl, ho, ints_of_wellAll ns _ hall, hlen⟩
theorem post_true (l : OpenLaw) (args : List WData) : l.row.toRowW.claim.post args (.bool true) args = true :=
  postW_of (r := l.row.toRowW) (X := (true == true))
    (show WShape.has [] (.bool true) .bool = true by first | rfl | decide | simp [WShape.has, WShape.arms, WShape.armsAll])
    (show (WTm.eq .res (.lit (.bool true))).value [] { args := args, res := some (.bool true), after := args } = some (.bool (true == true)) from w_eq_bool (w_res rfl) w_lit) rfl
theorem attach_call {l : OpenLaw} {n : Nat} {q : Program} {loose : List Str} {XP : (Str → Option Value) → Heap → Prop} {YP : World → Heap → Prop} {d : DefRec}
    (hn : l.most = some n) (hdf : d.params.defaults = [])
    (call : ∀ (w : World) (s₀ s₁ : Shared) (mg mb : Str → Option Value) (fa : Addr) (o : Obj) (pm cd doc : Value) (a : Addr) (vs : List Value) (ns : List Int),
      Ground q loose [] XP w s₀ mg mb s₁.heap → YP w s₁.heap →
      s₁.heap.get? fa = some o → o.data = .func (docDef d.name d.params d.body d.scope pm cd doc) → s₁.heap.CodeRec cd d.name → mg d.name = some (.ref fa) →
      s₁.heap.get? a = some { cls := .type "list", data := .seq vs.toArray } → IntsAre vs ns → ns.length ≤ n → s₁.gens = #[] →
      codeAny (model l.prog w) callerA (.call (.ref fa) ⟨[.ref a], []⟩) (fun r s' => r = .ok (.ret (.bool true)) ∧ OldK s₁.heap s'.heap ∧ s'.os = s₁.os ∧ AllBare s'.gens) s₁) :
    WalkO q loose XP YP l.row.toRowW d [] (fun f vs => PySem.call f vs) := by
  intro w s₀ s₁ mg mb G Y fa o pm cd doc dV kV ho hd hcd hD hmg hg args vals as hpre hlay hrd hwl hlo
  obtain rfl : dV = .none := Dflts.none hD hdf
  obtain rfl : kV = .none := Dflts.noKw hD
  obtain ⟨a, vs, ns, rfl, rfl, hobj, hints, hlen⟩ := script_of hn hpre hwl
  refine enter_call (codeAny_mono (call w s₀ s₁ mg mb fa o pm cd doc a vs ns G Y ho (fd_plain hd) hcd hmg hobj hints hlen hg) fun r s' hq => ?_)
  obtain ⟨rfl, h2, h3, h4⟩ := hq
  exact ⟨.inl ⟨.bool true, .bool true, [], rfl, fun _ => rfl, .bool true, post_true l _, fun _ => ⟨List.Pairwise.nil, fun _ hm => (nomatch hm)⟩⟩, h2, h3, h4⟩
section
variable {prog : Program} {w : World} {A : Around} {E : Value → Shared → Prop} {s : Shared} {K : Frag}
end
end Att
namespace L2
open PySem PySem.Spec PyProof.Rows
theorem vals_ints : ∀ {vs : List Value} {ns : List Int}, IntsAre vs ns → Vals (ns.map V.int) vs
  | _, _, .nil => .nil
  | _, _, .cons n t h => .cons ⟨t, rfl⟩ (vals_ints h)
def Only (H : Hp) : Prop := ∀ b, H b = none ∨ ∃ o xs, H b = some (.frz o (.lst xs))
theorem law_call {P : Program} {w : World} {K : PySem.W.Frag} {mg mb : Str → Option Value} {CX : CXT} {k : Nat} {fa a : Addr} {fd : FuncData} {x : Str} {sp : Sp} {s₁ : Shared} {vs : List Value} {ns : List Int}
    (KX : K.In s₁.heap) (hns : s₁.heap.Ns mainGlobals mg) (hb : s₁.heap.Ns builtinsNs mb) (hbb : ∀ x : Str, x ≠ "__name__" → mb x = bootBuiltins x) (hlim : s₁.heap.NoLimit) (hg : s₁.gens = #[])
    (ha : s₁.heap.get? a = some { cls := .type "list", data := .seq vs.toArray }) (hi : IntsAre vs ns) (hl : ns.length ≤ sizeLine) (hr : Room k callerA)
    (F : ∀ base : Heap, K.In base → base.Ns mainGlobals mg → FnOk P w K mg base CX k fa fd [x] sp) (hbind : ∀ (s : Shared) (u : Value), BindsTo s fd ⟨[u], []⟩ [(x, u)])
    (hsp : ∀ H : Hp, Only H → SqL K H a (ns.map V.int) → sp [.ref a] H (fun v _ => v = .bl true) fun _ _ _ => False)
    (hCX : ∀ H e s', CX [] H s₁ (fun _ _ _ => False) e s' → False) :
    codeAny (model P w) callerA (.call (.ref fa) ⟨[.ref a], []⟩) (fun r s' => r = .ok (.ret (.bool true)) ∧ OldK s₁.heap s'.heap ∧ s'.os = s₁.os ∧ AllBare s'.gens) s₁ := by
  have rv := vals_ints hi
  have lenV := hi.length
  -- from an abstract heap in which nothing but the script may be tracked
  have core : ∀ H : Hp, Only H → SqL K H a (ns.map V.int) → HOk P w H s₁.heap → (∀ b, H b ≠ none → b = a) → (H a ≠ none → K.lookup a = none) →
      codeAny (model P w) callerA (.call (.ref fa) ⟨[.ref a], []⟩) (fun r s' => r = .ok (.ret (.bool true)) ∧ OldK s₁.heap s'.heap ∧ s'.os = s₁.os ∧ AllBare s'.gens) s₁ := by
    intro H hO hS hok hA hK
    have base_of : ∀ {b : Addr} {o : Obj}, s₁.heap.get? b = some o → H b = none → (hidT s₁.heap H).get? b = some o := fun e n => hidT_get e n
    have noA : ∀ {b : Addr} {o : Obj} {es : Array DictEntry} {ep : Nat}, s₁.heap.get? b = some o → o.data = .dict es ep → H b = none := fun {b o es ep} e d => by
      cases q : H b with
      | none => rfl
      | some u =>
        have e' : b = a := hA b (by rw [q]; simp)
        subst e'
        rw [ha] at e; cases e
        have d' : Data.seq vs.toArray _ = Data.dict es ep := d
        cases d'
    have nsK : ∀ {b : Addr} {m : Str → Option Value}, s₁.heap.Ns b m → (hidT s₁.heap H).Ns b m := fun {b m} ⟨o, es, ep, e, d, r⟩ => ⟨o, es, ep, base_of e (noA e d), d, r⟩
    have hKb : K.In (hidT s₁.heap H) := fun b o e => base_of (KX b o e) (by
      cases q : H b with
      | none => rfl
      | some u =>
        have e' : b = a := hA b (by rw [q]; simp)
        subst e'
        rw [hK (by rw [q]; simp)] at e; cases e)
    have hM : Mod K mg (hidT s₁.heap H) := ⟨hKb, nsK hns, ⟨mb, nsK hb, hbb⟩, let ⟨mc, h1, h2⟩ := hlim; ⟨mc, nsK h1, h2⟩⟩
    have e0 : Env0 P w K mg (hidT s₁.heap H) callerA [] s₁ H := ⟨rfl, hM, fun b o e => of_hidT e, Nat.le_of_eq (hidT_size _ _), trivial, fun b hb => absurd (show b ∈ ([] : List Addr) from hb) (by simp), hok, .of_eq hg⟩
    refine codeAny_mono ((F _ hKb (nsK hns)).run callerA [] s₁ H ⟨[.ref a], []⟩ [.ref a] [.ref a] _ _ hr e0 (hbind s₁ (.ref a)) (.cons rfl .nil) (hsp H hO hS)) fun r s' h => ?_
    cases r with
    | error e => exact (hCX H e s' h).elim
    | ok fl =>
      cases fl with
      | next => exact False.elim h
      | brk => exact False.elim h
      | cont => exact False.elim h
      | ret u =>
        obtain ⟨v, H', os, bare, un, hok', r', q⟩ := h
        have q' : v = .bl true := q
        subst q'
        obtain rfl : u = Value.bool true := r'
        refine ⟨rfl, OldK.of_keep fun b o e => ?_, os, bare⟩
        cases q : H b with
        | none => exact un.keep b o e q (by intro z; exact absurd (show b ∈ ([] : List Addr) from z) (by simp)) (by simp)
        | some u =>
          rcases hO b with z | ⟨ob, xs, z⟩
          · rw [q] at z; cases z
          · have z2 := un.frzs b ob _ z
            obtain ⟨e1, _⟩ := hok b _ z
            obtain ⟨e2, _⟩ := hok' b _ z2
            rw [e] at e1; cases e1
            exact e2
  cases hk : K.lookup a with
  | some o =>
    -- the script is one of the module's own objects
    have e := KX a o hk
    rw [ha] at e
    cases e
    refine core (fun _ => none) (fun _ => .inl rfl) (.inr ⟨_, vs.toArray, _, hk, rfl, rfl, rfl, by rw [List.size_toArray, lenV]; exact hl, by simpa using rv⟩) (fun b u z => by have z' : (none : Option HO) = some u := z; cases z') (fun b z => absurd rfl z) fun z => absurd rfl z
  | none =>
    refine core (fun b => if b = a then some (.frz { cls := .type "list", data := .seq vs.toArray } (.lst (ns.map V.int))) else none) (fun b => ?_) (.inl (.inr ⟨{ cls := .type "list", data := .seq vs.toArray }, if_pos rfl⟩)) (fun b u z => ?_) (fun b z => ?_) fun _ => hk
    · by_cases hb : b = a
      · exact .inr ⟨_, _, if_pos hb⟩
      · exact .inl (if_neg hb)
    · by_cases hb : b = a
      · have z' := (if_pos hb).symm.trans z
        cases z'
        subst hb
        exact ⟨ha, by rw [List.length_map]; exact hl, vs, _, rv, ha⟩
      · have z' := (if_neg hb).symm.trans z
        cases z'
    · by_cases hb : b = a
      · exact hb
      · exact absurd (if_neg hb) z
end L2
namespace L2
open PySem PySem.Spec PyProof.Rows
abbrev KOf {K : PySem.W.Frag} {h : Heap} (_ : K.In h) : PySem.W.Frag := K
theorem walk_of {l : PySem.W.OpenLaw} {n k : Nat} {q : Program} {loose : List Str} {XP : (Str → Option Value) → Heap → Prop} {YP : World → Heap → Prop} {d : DefRec} {K : Params → PySem.W.Frag} {CX : World → CXT} {sp : World → Sp} {x : Str}
    (hn : l.most = some n) (hn2 : n ≤ sizeLine) (hdf : d.params.defaults = []) (hr : Room k callerA)
    (hY : ∀ (w : World) (h : Heap), YP w h → (K w.params).In h)
    (F : ∀ (w : World) (mg : Str → Option Value) (fa : Addr) (h : Heap), (K w.params).In h → h.Ns mainGlobals mg → mg d.name = some (.ref fa) →
      ∃ fd : FuncData, (∀ (s : Shared) (u : Value), BindsTo s fd ⟨[u], []⟩ [(x, u)]) ∧
        ∀ base : Heap, (K w.params).In base → base.Ns mainGlobals mg → FnOk l.prog w (K w.params) mg base (CX w) k fa fd [x] (sp w))
    (hsp : ∀ (w : World) (H : Hp) (a : Addr) (ns : List Int), ns.length ≤ n → Only H → SqL (K w.params) H a (ns.map V.int) → sp w [.ref a] H (fun v _ => v = .bl true) fun _ _ _ => False)
    (hCX : ∀ (w : World) (H : Hp) (s : Shared) (e : Value) (s' : Shared), CX w [] H s (fun _ _ _ => False) e s' → False) :
    PySem.W.WalkO q loose XP YP l.row.toRowW d [] (fun f vs => PySem.call f vs) := by
  refine Att.attach_call hn hdf fun w s₀ s₁ mg mb fa o pm cd doc a vs ns G Y ho hd hcd hmg hobj hints hlen hg => ?_
  have KX := hY w _ Y
  obtain ⟨fd, hb, hF⟩ := F w mg fa _ KX G.T.g hmg
  exact law_call KX G.T.g G.T.b G.T.builtins G.T.nolimit hg hobj hints (Nat.le_trans hlen hn2) hr hF hb (fun H hO hS => hsp w H a ns hlen hO hS) fun H e s' => hCX w H s₁ e s'
end L2
/- THE LAST THEOREM (shape; LID, My.* are yours):
   My.Adr: a structure of the addresses that your layer names (classes, functions); My.Txt K t: a structure (Prop) of the equations over K;
   My.txt_mk : {K} {implicit addresses ..} (e1 : nsIn K mainGlobals "law" = some (some (.ref f))) (e2 : K.lookup f = some ⟨oc, od, .func (fnOf "law" "law" params body scope dV kV doc pm an cdv ct), sl⟩) (e3 : codeIn K cdv "law" = true) .. : ∃ t, My.Txt K t
set_option maxRecDepth 100000 in
set_option maxHeartbeats 0 in
theorem PySem.Challenge.cw_LID_holds : PySem.Challenge.rw_LID.Holds := by
  w_on; o_law; k_head; (case hw => w_witness2)
  k_fill
  refine L2.walk_of (l := PySem.Challenge.rw_LID) (n := 63) (k := 40) (x := "script") (CX := fun w => ..) (sp := fun _ => My.sp_law) rfl (by decide) rfl ⟨rfl, by decide, by decide⟩ (fun w h Y => PySem.W.kIn_of Y) ?F ?S ?C
  case F =>
    intro w mg fa h KX G hmg
    have T : ∃ t, My.Txt (L2.KOf KX) t := by
      dsimp only [L2.KOf]                          -- K must stand as «<heap const> w.params» for k_is
      refine' My.txt_mk ?e1 ?e2 ?e3 ..
      (case e1 => PySem.W.k_is)                    -- in the order: a name -> its address -> its object -> its parts
      (case e2 => PySem.W.k_is)
      ..
    obtain ⟨t, T⟩ := T
    have e0 := hmg.symm.trans (PySem.W.mg_of KX G T.law)
    cases e0                                       -- fa is the law's own address
    exact ⟨_, fun s u => .of_eq rfl, fun base kb nb => My.law_fn T kb nb⟩     -- if «.of_eq rfl» comes too early: refine' ⟨_, ?b, fun base kb nb => My.law_fn T kb nb⟩; exact fun s u => .of_eq rfl
  case S => exact fun w H a ns hl hO hS => ..
  case C => exact ..
(the tactic k_is has no namespace: write k_is) -/
namespace L2
open PySem PySem.Spec PyProof.Rows
def inClass (s : Stmt) (j : Nat) : Stmt := match s with
  | .ClassDef _ _ _ body _ _ _ _ _ _ _ => body.getD j (.Pass ⟨0, 0, 0, 0⟩)
  | _ => .Pass ⟨0, 0, 0, 0⟩
def defArgs (s : Stmt) : Arguments := match s with
  | .FunctionDef _ a _ _ _ _ _ _ _ _ => a
  | _ => { posonlyargs := [], args := [], vararg := none, kwonlyargs := [], kw_defaults := [], kwarg := none, defaults := [] }
def defBody (s : Stmt) : List Stmt := match s with
  | .FunctionDef _ _ b _ _ _ _ _ _ _ => b
  | _ => []
def defScope (s : Stmt) : Scope := match s with
  | .FunctionDef _ _ _ _ _ _ sc _ _ _ => sc
  | _ => { kind := .function, names := [], isGenerator := false, isCoroutine := false }
abbrev CX0 : CXT := fun _ _ _ _ _ _ => False
abbrev E0 : XK := fun _ _ _ => False
theorem pass0 {X : Cx} : Passes CX0 X E0 := fun _ _ _ _ _ _ _ h => h.elim
structure Fun (K : PySem.W.Frag) (x qual : Str) (st : Stmt) (f : Addr) (fd : FuncData) : Prop where
  ex : ∃ (oc : Value) (od : Option Addr) (kV doc pm : Value) (an : Option Addr) (cdv ct : Value) (osl : Array (Option Value)),
    fd = PySem.W.fnOf x qual (defArgs st) (defBody st) (defScope st) .none kV doc pm an cdv ct ∧ K.lookup f = some ⟨oc, od, .func fd, osl⟩ ∧ PySem.W.codeIn K cdv qual = true
  kp : PySem.W.keepIn K (.ref f) = true
section
variable {P : Program} {w : World} {K : PySem.W.Frag} {mg : Str → Option Value} {base : Heap}
theorem Fun.ok {x qual : Str} {st : Stmt} {f : Addr} {fd : FuncData} {N ps : List Str} {k : Nat} {sp : Sp} (F : Fun K x qual st f fd) (S : FnScope N ps (defScope st)) (len : ∀ vs H Q E, sp vs H Q E → vs.length = ps.length)
    (hbody : ∀ (cdv : Value) (A : Around) (outer : List Env) (s : Shared) (H : Hp) (vs : List V) (Q : VK) (E : XK), Room k (A.deeper (envOfC qual (defScope st) s.heap.objs.size f cdv)) → sp vs H Q E →
      ∃ t, PSs (cxOf CX0 P w K mg base N qual (defScope st) f cdv A outer s H E).nox (defBody st) t ∧ t { nx := fun _ H' => Q .non H', rt := Q } (start N vs) H) : FnOk P w K mg base CX0 (k + 1) f fd ps sp := by
  obtain ⟨oc, od, kV, doc, pm, an, cdv, ct, osl, rfl, lk, hcd⟩ := F.ex
  refine fn_of lk hcd S len fun A outer s H vs Q E hr hsp => ?_
  obtain ⟨t, h, q⟩ := hbody cdv A outer s H vs Q E hr hsp
  exact ⟨t, h.nox, q⟩
theorem Fun.binds {x qual : Str} {st : Stmt} {f : Addr} {fd : FuncData} {ps : List Str} (F : Fun K x qual st f fd)
    (h : ∀ (kV doc pm : Value) (an : Option Addr) (cdv ct : Value) (us : List Value), us.length = ps.length → bindArgs (PySem.W.fnOf x qual (defArgs st) (defBody st) (defScope st) .none kV doc pm an cdv ct) ⟨us, []⟩ = pure (ps.zip us)) : Binds K fd ps [] := by
  obtain ⟨oc, od, kV, doc, pm, an, cdv, ct, osl, rfl, lk, hcd⟩ := F.ex
  exact .all (h kV doc pm an cdv ct)
theorem fun_mk {x qual : Str} {st : Stmt} {f : Addr} {oc : Value} {od an : Option Addr} {osl : Array (Option Value)} {kV doc pm cdv ct : Value} (l : K.lookup f = some ⟨oc, od, .func (PySem.W.fnOf x qual (defArgs st) (defBody st) (defScope st) .none kV doc pm an cdv ct), osl⟩)
    (c : PySem.W.codeIn K cdv qual = true) (k : PySem.W.keepIn K (.ref f) = true) : Fun K x qual st f (PySem.W.fnOf x qual (defArgs st) (defBody st) (defScope st) .none kV doc pm an cdv ct) := ⟨⟨oc, od, kV, doc, pm, an, cdv, ct, osl, rfl, l, c⟩, k⟩
end
theorem hu_of {A : Around} {k : Nat} (hr : Room k A) : A.units + 1 < cLine := Nat.lt_of_le_of_lt (Nat.add_le_add_left (by decide : 1 ≤ 64) _) hr.units
theorem small1000 {n : Nat} (h : n ≤ 1000) : n < sizeLine := Nat.lt_of_le_of_lt h (by decide)
section
variable {X : Cx}
theorem pv (i : Nat) {x : Str} {pos : Pos} (hN : X.N[i]? = some x := by rfl) (hv : Vis X.env.scope x := by first | exact Or.inl rfl | exact Or.inr (Or.inl rfl) | exact Or.inr (Or.inr rfl)) (hd : (x == ("__debug__" : Str)) = false := by decide)
    (hcd : (x == ("__classdict__" : Str)) = false := by decide) : PE X (.Name x pos) (tVar i) := pe_var hN hv hd hcd
end
theorem iteF {A B : Prop} (h : B) : if false = true then A else B := by
  rw [if_neg Bool.false_ne_true]
  exact h
theorem iteT {A B : Prop} (h : A) : if true = true then A else B := by
  rw [if_pos rfl]
  exact h
theorem ite2 {c A B : Prop} [Decidable c] (h1 : c → A) (h2 : ¬ c → B) : if c then A else B := by
  by_cases h : c
  · rw [if_pos h]
    exact h1 h
  · rw [if_neg h]
    exact h2 h
theorem iteNS {c A B : Prop} [Decidable c] (hc : c) (h : B) : if (!decide c) = true then A else B := by
  rw [decide_eq_true hc]
  exact iteF h
def Same (H H' : Hp) : Prop := ∀ b o, H b = some o → H' b = some o
theorem Same.refl (H : Hp) : Same H H := fun _ _ h => h
theorem Same.trans {H H1 H2 : Hp} (a : Same H H1) (b : Same H1 H2) : Same H H2 := fun c o h => b c o (a c o h)
theorem Same.free {H H' : Hp} (e : Same H H') {l : Addr} (h : H' l = Option.none) : H l = Option.none := by
  cases q : H l with
  | none => rfl
  | some o =>
    rw [e l o q] at h
    cases h
theorem Same.seq {K : PySem.W.Frag} {H H' : Hp} {a : Addr} {xs : List V} (e : Same H H') (h : SqL K H a xs) : SqL K H' a xs := by
  rcases h with (h | ⟨o, h⟩) | h
  · exact .inl (.inl (e _ _ h))
  · exact .inl (.inr ⟨o, e _ _ h⟩)
  · exact .inr h
end L2
section
set_option Elab.async false
set_option linter.all false
set_option maxRecDepth 100000
namespace L2
open PySem PySem.Spec PyProof.Rows
section
variable {κ : Type} [DecidableEq κ]
def valV (kvs : List (κ × V)) (k : κ) : Option V := (kvs.find? fun kv => decide (kv.1 = k)).map (·.2)
def putK (kvs : List (κ × V)) (k : κ) (v : V) : List (κ × V) :=
  if (kvs.any fun kv => decide (kv.1 = k)) = true then kvs.map (fun kv => if kv.1 = k then (kv.1, v) else kv) else kvs ++ [(k, v)]
def dropK (kvs : List (κ × V)) (k : κ) : List (κ × V) := kvs.filter fun kv => decide (kv.1 ≠ k)
theorem valV_nil {k : κ} : valV ([] : List (κ × V)) k = none := rfl
theorem valV_pos {p : κ × V} {r : List (κ × V)} {k : κ} (e : p.1 = k) : valV (p :: r) k = some p.2 := by simp [valV, List.find?_cons, e]
theorem valV_neg {p : κ × V} {r : List (κ × V)} {k : κ} (e : ¬ p.1 = k) : valV (p :: r) k = valV r k := by simp [valV, List.find?_cons, e]
theorem valV_any (k : κ) : ∀ kvs : List (κ × V), (kvs.any fun kv => decide (kv.1 = k)) = (valV kvs k).isSome
  | [] => rfl
  | p :: r => by
    rw [List.any_cons]
    by_cases e : p.1 = k
    · simp only [valV_pos e, decide_eq_true e, Bool.true_or, Option.isSome_some]
    · rw [valV_neg e, decide_eq_false e, Bool.false_or]; exact valV_any k r
theorem valV_map (k j : κ) (y : V) : ∀ kvs : List (κ × V), valV (kvs.map fun kv => if kv.1 = k then (kv.1, y) else kv) j = (valV kvs j).map fun x => if j = k then y else x
  | [] => rfl
  | p :: r => by
    have ih := valV_map k j y r
    rw [List.map_cons]
    by_cases h : p.1 = k
    · rw [if_pos h]
      by_cases e : p.1 = j
      · rw [valV_pos (p := (p.1, y)) e, valV_pos e, Option.map_some, if_pos (e.symm.trans h)]
      · rw [valV_neg (p := (p.1, y)) e, valV_neg e, ih]
    · rw [if_neg h]
      by_cases e : p.1 = j
      · rw [valV_pos (p := p) e, valV_pos e, Option.map_some, if_neg (fun z => h (e.trans z))]
      · rw [valV_neg (p := p) e, valV_neg e, ih]
theorem valV_snoc (k j : κ) (y : V) : ∀ kvs : List (κ × V), valV kvs k = none → valV (kvs ++ [(k, y)]) j = if j = k then some y else valV kvs j
  | [], _ => by
    by_cases e : k = j
    · rw [if_pos e.symm]; exact valV_pos (p := (k, y)) e
    · rw [if_neg (fun z => e z.symm)]; exact valV_neg (p := (k, y)) e
  | p :: r, hn => by
    rw [List.cons_append]
    have hk : ¬ p.1 = k := fun z => by rw [valV_pos z] at hn; cases hn
    rw [valV_neg hk] at hn
    have ih := valV_snoc k j y r hn
    by_cases e : p.1 = j
    · rw [valV_pos e, valV_pos e, if_neg (fun z => hk (e.trans z))]
    · rw [valV_neg e, valV_neg e, ih]
theorem valV_put (kvs : List (κ × V)) (k j : κ) (y : V) : valV (putK kvs k y) j = if j = k then some y else valV kvs j := by
  unfold putK
  by_cases a : (kvs.any fun kv => decide (kv.1 = k)) = true
  · rw [if_pos a, valV_map]
    rw [valV_any] at a
    by_cases e : j = k
    · obtain ⟨x, hx⟩ := Option.isSome_iff_exists.mp a
      rw [if_pos e, e, hx, Option.map_some, if_pos rfl]
    · rw [if_neg e]
      cases valV kvs j with
      | none => rfl
      | some x => rw [Option.map_some, if_neg e]
  · rw [if_neg a]
    refine valV_snoc k j y kvs ?_
    rw [valV_any] at a
    cases q : valV kvs k with
    | none => rfl
    | some x => rw [q] at a; exact (a rfl).elim
theorem length_putK (kvs : List (κ × V)) (k : κ) (v : V) : (putK kvs k v).length ≤ kvs.length + 1 := by
  unfold putK
  split
  · rw [List.length_map]; omega
  · rw [List.length_append, List.length_cons, List.length_nil]; omega
theorem putK_new {kvs : List (κ × V)} {k : κ} (v : V) (h : valV kvs k = none) : putK kvs k v = kvs ++ [(k, v)] := by
  unfold putK
  rw [valV_any, h]
  exact if_neg (by decide)
theorem RelO.isSome_eq {o : Option V} {u : Option Value} (r : RelO o u) : o.isSome = u.isSome := by
  cases o with
  | none => cases u with
    | none => rfl
    | some _ => exact (show False from r).elim
  | some _ => cases u with
    | none => exact (show False from r).elim
    | some _ => rfl
theorem RelO.getD {o : Option V} {u : Option Value} {d : V} {d' : Value} (r : RelO o u) (rd : RelV d d') : RelV (o.getD d) (u.getD d') := by
  cases o with
  | none => cases u with
    | none => exact rd
    | some _ => exact (show False from r).elim
  | some _ => cases u with
    | none => exact (show False from r).elim
    | some _ => exact r
theorem KV.val {kvs : List (κ × V)} {vs : List (κ × Value)} (r : KV kvs vs) (k : κ) : RelO (valV kvs k) (valueAt vs k) := by
  unfold KV at r
  induction r with
  | nil => exact True.intro
  | @cons p q ps qs h t ih =>
    obtain ⟨h1, h2⟩ := h
    by_cases e : p.1 = k
    · have e' : q.1 = k := h1.symm.trans e
      have b : valueAt (q :: qs) k = some q.2 := by simp [valueAt, List.find?_cons, e']
      rw [valV_pos e, b]; exact h2
    · have e' : ¬ q.1 = k := fun z => e (h1.trans z)
      have b : valueAt (q :: qs) k = valueAt qs k := by simp [valueAt, List.find?_cons, e']
      rw [valV_neg e, b]; exact ih
theorem KV.any {kvs : List (κ × V)} {vs : List (κ × Value)} (r : KV kvs vs) (k : κ) : (kvs.any fun kv => decide (kv.1 = k)) = vs.any fun kv => decide (kv.1 = k) := by
  unfold KV at r
  induction r with
  | nil => rfl
  | cons h t ih => rw [List.any_cons, List.any_cons, ih, h.1]
theorem KV.repl {kvs : List (κ × V)} {vs : List (κ × Value)} (r : KV kvs vs) (k : κ) {y : V} {u : Value} (ry : RelV y u) :
    KV (kvs.map fun kv => if kv.1 = k then (kv.1, y) else kv) (vs.map fun kv => if kv.1 = k then (kv.1, u) else kv) := by
  unfold KV at r ⊢
  induction r with
  | nil => exact .nil
  | @cons p q ps qs h t ih =>
    rw [List.map_cons, List.map_cons]
    refine .cons ?_ ih
    obtain ⟨h1, h2⟩ := h
    by_cases e : p.1 = k
    · rw [if_pos e, if_pos (h1.symm.trans e)]; exact ⟨h1, ry⟩
    · rw [if_neg e, if_neg (fun z => e (h1.trans z))]; exact ⟨h1, h2⟩
theorem KV.put {kvs : List (κ × V)} {vs : List (κ × Value)} (r : KV kvs vs) (k : κ) {y : V} {u : Value} (ry : RelV y u) : KV (putK kvs k y) (stored vs k u) := by
  unfold putK stored
  rw [r.any k]
  by_cases e : (vs.any fun kv => decide (kv.1 = k)) = true
  · rw [if_pos e, if_pos e]; exact r.repl k ry
  · rw [if_neg e, if_neg e]; exact Paired.snoc r ⟨rfl, ry⟩
theorem KV.drop {kvs : List (κ × V)} {vs : List (κ × Value)} (r : KV kvs vs) (k : κ) : KV (dropK kvs k) (without vs k) := by
  unfold KV at r ⊢
  unfold dropK without
  induction r with
  | nil => exact .nil
  | @cons p q ps qs h t ih =>
    obtain ⟨h1, h2⟩ := h
    rw [List.filter_cons, List.filter_cons]
    by_cases e : p.1 = k
    · have a : ¬ decide (p.1 ≠ k) = true := by simp [e]
      have b : ¬ decide (q.1 ≠ k) = true := by simp [h1.symm.trans e]
      rw [if_neg a, if_neg b]; exact ih
    · have e' : ¬ q.1 = k := fun z => e (h1.trans z)
      have a : decide (p.1 ≠ k) = true := by simp [e]
      have b : decide (q.1 ≠ k) = true := by simp [e']
      rw [if_pos a, if_pos b]; exact .cons ⟨h1, h2⟩ ih
theorem KV.keys {kvs : List (κ × V)} {vs : List (κ × Value)} (r : KV kvs vs) : kvs.map (·.1) = vs.map (·.1) := by
  unfold KV at r
  induction r with
  | nil => rfl
  | cons h t ih => rw [List.map_cons, List.map_cons, ih, h.1]
theorem KV.length {kvs : List (κ × V)} {vs : List (κ × Value)} (r : KV kvs vs) : kvs.length = vs.length := Paired.length r
theorem dropK_le (kvs : List (κ × V)) (k : κ) : (dropK kvs k).length ≤ kvs.length := List.length_filter_le _ _
end
theorem kV_is {P : Program} {w : World} {k : Key} {u : Value} (r : RelV (kV k) u) : (mixKind P w).is k u = true := by
  cases k with
  | inl i => obtain ⟨t, e⟩ := (show ∃ t, u = Value.int i t from r); subst e; exact mixKind_int P w i t
  | inr x => obtain ⟨t, e⟩ := (show ∃ t, u = Value.str x t from r); subst e; exact mixKind_str P w x t
theorem kV_inj {a b : Key} (e : kV a = kV b) : a = b := by
  cases a with
  | inl i => cases b with
    | inl j => have e' : V.int i = V.int j := e; injection e' with e'; rw [e']
    | inr y => exact nomatch (show V.int i = V.str y from e)
  | inr x => cases b with
    | inl j => exact nomatch (show V.str x = V.int j from e)
    | inr y => have e' : V.str x = V.str y := e; injection e' with e'; rw [e']
theorem kVs_inj : ∀ {a b : List Key}, a.map kV = b.map kV → a = b
  | [], [], _ => rfl
  | [], _ :: _, e => by simp at e
  | _ :: _, [], e => by simp at e
  | x :: xs, y :: ys, e => by
    rw [List.map_cons, List.map_cons] at e
    injection e with e1 e2
    rw [kV_inj e1, kVs_inj e2]
theorem items_are {P : Program} {w : World} : ∀ {ks : List Key} {us : List Value}, Vals (ks.map kV) us → ItemsAre (mixKind P w) ks us
  | [], _, r => by rw [List.map_nil] at r; cases r; exact .nil
  | k :: ks, _, r => by
    rw [List.map_cons] at r
    cases r with
    | cons h t => exact .cons (kV_is h) (items_are t)
abbrev KT (H : Hp) : List (List Key × V) → List (List Key × Addr × Value) → Prop := Paired fun p q => p.1 = q.1 ∧ H q.2.1 = some (.tup (p.1.map kV)) ∧ RelV p.2 q.2.2
theorem KT.val {H : Hp} {kvs : List (List Key × V)} {xs : List (List Key × Addr × Value)} (r : KT H kvs xs) (k : List Key) : RelO (valV kvs k) ((atKey xs k).map (·.2)) := by
  induction r with
  | nil => exact True.intro
  | @cons p q ps qs h t ih =>
    obtain ⟨h1, _, h2⟩ := h
    by_cases e : p.1 = k
    · have e' : q.1 = k := h1.symm.trans e
      have b : atKey (q :: qs) k = some q.2 := by simp [atKey, List.find?_cons, e']
      rw [valV_pos e, b]; exact h2
    · have e' : ¬ q.1 = k := fun z => e (h1.trans z)
      have b : atKey (q :: qs) k = atKey qs k := by simp [atKey, List.find?_cons, e']
      rw [valV_neg e, b]; exact ih
theorem KT.repl {H : Hp} {kvs : List (List Key × V)} {xs : List (List Key × Addr × Value)} (r : KT H kvs xs) (k : List Key) {y : V} {u : Value} (ry : RelV y u) :
    KT H (kvs.map fun kv => if kv.1 = k then (kv.1, y) else kv) (xs.map (putAt k u)) := by
  induction r with
  | nil => exact .nil
  | @cons p q ps qs h t ih =>
    rw [List.map_cons, List.map_cons]
    refine .cons ?_ ih
    obtain ⟨h1, h2, h3⟩ := h
    unfold putAt
    by_cases e : p.1 = k
    · rw [if_pos e, if_pos (h1.symm.trans e)]; exact ⟨h1, h2, ry⟩
    · rw [if_neg e, if_neg (fun z => e (h1.trans z))]; exact ⟨h1, h2, h3⟩
theorem KT.put {H : Hp} {kvs : List (List Key × V)} {xs : List (List Key × Addr × Value)} (r : KT H kvs xs) (k : List Key) {b : Addr} {y : V} {u : Value} (hb : H b = some (.tup (k.map kV))) (ry : RelV y u) :
    KT H (putK kvs k y) (storedH xs k b u) := by
  have e : (kvs.any fun kv => decide (kv.1 = k)) = (atKey xs k).isSome := by
    rw [valV_any, (r.val k).isSome_eq, Option.isSome_map]
  unfold putK storedH
  rw [e]
  by_cases q : (atKey xs k).isSome = true
  · rw [if_pos q, if_pos q]; exact r.repl k ry
  · rw [if_neg q, if_neg q]; exact Paired.snoc r ⟨rfl, hb, ry⟩
theorem KT.keeps {H H' : Hp} {kvs : List (List Key × V)} {xs : List (List Key × Addr × Value)} (r : KT H kvs xs) (ht : ∀ b ys, H b = some (.tup ys) → H' b = some (.tup ys)) : KT H' kvs xs :=
  Paired.mapP r fun _ _ z => ⟨z.1, ht _ _ z.2.1, z.2.2⟩
section
variable {P : Program} {w : World} {H : Hp} {h : Heap} {a : Addr}
theorem rd_of {u : HO} (ok : HOk P w H h) (e : Rd H a u) : ObjOk P w H h a u := e.ok ok
theorem dk_rd {kvs : List (Key × V)} (ok : HOk P w H h) (e : Rd H a (.dK kvs)) : kvs.length ≤ sizeLine ∧ (a == sysModules) = false ∧ ∃ vs, KV kvs vs ∧ h.DictOf (mixKind P w) a vs :=
  show ObjOk P w H h a (.dK kvs) from rd_of ok e
theorem dk_of {kvs : List (Key × V)} (ok : HOk P w H h) (e : H a = some (.dK kvs)) : kvs.length ≤ sizeLine ∧ (a == sysModules) = false ∧ ∃ vs, KV kvs vs ∧ h.DictOf (mixKind P w) a vs := dk_rd ok (.inl e)
theorem key_of {ks : List Key} (ok : HOk P w H h) (e : H a = some (.tup (ks.map kV))) : (tupleKind (mixKind P w)).is h ks a := by
  obtain ⟨_, its, r, o, h1, h2, n, h3⟩ := (show ObjOk P w H h a (.tup (ks.map kV)) from ok a _ e)
  exact ⟨o, its.toArray, n, h1, h2, h3, by simpa using items_are r⟩
theorem dt_rd {kvs : List (List Key × V)} (ok : HOk P w H h) (e : Rd H a (.dT kvs)) : kvs.length ≤ sizeLine ∧ (a == sysModules) = false ∧
    ∃ xs, KT H kvs xs ∧ h.DictOfH (tupleKind (mixKind P w)) a xs := by
  obtain ⟨z, y, xs, r, o, es, ep, h1, h2, h3, h4, h5⟩ := (show ObjOk P w H h a (.dT kvs) from rd_of ok e)
  refine ⟨z, y, xs, r, o, es, ep, h1, h2, h3, h4, fun x hx => ?_, h5⟩
  have all : ∀ {l : List (List Key × V)} {m : List (List Key × Addr × Value)}, KT H l m → ∀ x ∈ m, (tupleKind (mixKind P w)).is h x.1 x.2.1 := by
    intro l m q
    induction q with
    | nil => intro x hx; exact nomatch hx
    | @cons p q ps qs hq t ih =>
      intro x hx
      rcases List.mem_cons.mp hx with e | hx
      · subst e
        exact key_of ok (by rw [← hq.1]; exact hq.2.1)
      · exact ih x hx
  exact all r x hx
theorem dt_of {kvs : List (List Key × V)} (ok : HOk P w H h) (e : H a = some (.dT kvs)) : kvs.length ≤ sizeLine ∧ (a == sysModules) = false ∧
    ∃ xs, KT H kvs xs ∧ h.DictOfH (tupleKind (mixKind P w)) a xs := dt_rd ok (.inl e)
end
def DGet (H : Hp) (a : Addr) (y : V) (r : Option V) : Prop :=
  (∃ kvs k, Rd H a (.dK kvs) ∧ y = kV k ∧ r = valV kvs k) ∨ ∃ kvs k b, Rd H a (.dT kvs) ∧ y = .ref b ∧ H b = some (.tup (k.map kV)) ∧ r = valV kvs k
def DPut (H : Hp) (a : Addr) (y v : V) (H' : Hp) : Prop :=
  (∃ kvs k, H a = some (.dK kvs) ∧ y = kV k ∧ kvs.length < sizeLine ∧ H' = upd H a (.dK (putK kvs k v))) ∨
  ∃ kvs k b, H a = some (.dT kvs) ∧ y = .ref b ∧ H b = some (.tup (k.map kV)) ∧ kvs.length < sizeLine ∧ H' = upd H a (.dT (putK kvs k v))
theorem DGet.k {H : Hp} {a : Addr} {kvs : List (Key × V)} {k : Key} (e : H a = some (.dK kvs)) : DGet H a (kV k) (valV kvs k) := .inl ⟨kvs, k, .inl e, rfl, rfl⟩
theorem DGet.t {H : Hp} {a b : Addr} {kvs : List (List Key × V)} {k : List Key} (e : H a = some (.dT kvs)) (eb : H b = some (.tup (k.map kV))) : DGet H a (.ref b) (valV kvs k) := .inr ⟨kvs, k, b, .inl e, rfl, eb, rfl⟩
theorem DPut.k {H : Hp} {a : Addr} {kvs : List (Key × V)} {k : Key} {v : V} (e : H a = some (.dK kvs)) (hl : kvs.length < sizeLine) : DPut H a (kV k) v (upd H a (.dK (putK kvs k v))) := .inl ⟨kvs, k, e, rfl, hl, rfl⟩
theorem DPut.t {H : Hp} {a b : Addr} {kvs : List (List Key × V)} {k : List Key} {v : V} (e : H a = some (.dT kvs)) (eb : H b = some (.tup (k.map kV))) (hl : kvs.length < sizeLine) :
    DPut H a (.ref b) v (upd H a (.dT (putK kvs k v))) := .inr ⟨kvs, k, b, e, rfl, eb, hl, rfl⟩
section
variable {X : Cx} {pins : List (Addr × Obj)} {σ : St} {H : Hp} {s : Shared} {a : Addr} {y v : V} {u r : Value} {o : Option V} {A : Around} {E : Value → Shared → Prop}
theorem Inv.big (I : Inv X pins σ H s) : sysModules < s.heap.objs.size := by
  have h : mainGlobals < s.heap.objs.size := (I.mod.glob.keeps I.bk).lt
  exact Nat.lt_trans (by decide) h
theorem d_getItem {Q : Value → Shared → Prop} (hu : A.units + 1 < cLine) (I : Inv X pins σ H s) (g : DGet H a y (some v)) (ry : RelV y u) (h : ∀ w' s', Inv X pins σ H s' → RelV v w' → Q w' s') :
    wpAny (model X.prog X.w) A (getItem (.ref a) u) Q E s := by
  rcases g with ⟨kvs, k, e, ey, l⟩ | ⟨kvs, k, b, e, ey, eb, l⟩
  · subst ey
    obtain ⟨z, hd, vs, rel, dd⟩ := dk_rd I.hok e
    obtain ⟨w', hw, rw'⟩ := RelO.some_of (v := v) (o := valueAt vs k) (by rw [l]; exact rel.val k)
    exact wpAny_getItem_of (kV_is ry) dd.mapOf hw (h w' _ (I.tok _) rw')
  · subst ey
    cases (show u = Value.ref b from ry)
    obtain ⟨z, hd, xs, rel, dd⟩ := dt_rd I.hok e
    obtain ⟨w', hw, rw'⟩ := RelO.some_of (v := v) (o := (atKey xs k).map (·.2)) (by rw [l]; exact rel.val k)
    obtain ⟨p, hp, hp2⟩ := Option.map_eq_some_iff.mp hw
    refine wpAny_getItem_heap (tupleKind_room_in1 hu) (key_of I.hok eb) dd hp ?_
    rw [hp2]
    exact h w' _ (I.tok _) rw'
theorem d_in {Q : Value → Shared → Prop} (hu : A.units + 1 < cLine) (I : Inv X pins σ H s) (g : DGet H a y o) (ry : RelV y u) (h : ∀ s', Inv X pins σ H s' → Q (.bool o.isSome) s') :
    wpAny (model X.prog X.w) A (compareOp .In u (.ref a)) Q E s := by
  rcases g with ⟨kvs, k, e, ey, l⟩ | ⟨kvs, k, b, e, ey, eb, l⟩
  · subst ey
    obtain ⟨z, hd, vs, rel, dd⟩ := dk_rd I.hok e
    refine wpAny_in_of (kV_is ry) hd dd.mapOf ?_
    rw [← (rel.val k).isSome_eq, ← l]
    exact h _ (I.tok _)
  · subst ey
    cases (show u = Value.ref b from ry)
    obtain ⟨z, hd, xs, rel, dd⟩ := dt_rd I.hok e
    refine wpAny_in_heap (tupleKind_room_in1 hu) (key_of I.hok eb) hd dd ?_
    have q := (rel.val k).isSome_eq
    rw [Option.isSome_map] at q
    rw [← q, ← l]
    exact h _ (I.tok _)
theorem d_notIn {Q : Value → Shared → Prop} (hu : A.units + 1 < cLine) (I : Inv X pins σ H s) (g : DGet H a y o) (ry : RelV y u) (h : ∀ s', Inv X pins σ H s' → Q (.bool (!o.isSome)) s') :
    wpAny (model X.prog X.w) A (compareOp .NotIn u (.ref a)) Q E s := by
  rcases g with ⟨kvs, k, e, ey, l⟩ | ⟨kvs, k, b, e, ey, eb, l⟩
  · subst ey
    obtain ⟨z, hd, vs, rel, dd⟩ := dk_rd I.hok e
    refine wpAny_notIn_of (kV_is ry) hd dd.mapOf ?_
    rw [← (rel.val k).isSome_eq, ← l]
    exact h _ (I.tok _)
  · subst ey
    cases (show u = Value.ref b from ry)
    obtain ⟨z, hd, xs, rel, dd⟩ := dt_rd I.hok e
    refine wpAny_notIn_heap (tupleKind_room_in1 hu) (key_of I.hok eb) hd dd ?_
    have q := (rel.val k).isSome_eq
    rw [Option.isSome_map] at q
    rw [← q, ← l]
    exact h _ (I.tok _)
theorem d_write {h' : Heap} {t' : Nat} {ob : HO} (I : Inv X pins σ H s) (mu : Mut (H a)) (hs : Heap.SameBut a s.heap h') (he : ∃ q, h'.get? a = some q) (new : ObjOk X.prog X.w (upd H a ob) h' a ob) :
    Inv X pins σ (upd H a ob) { s with heap := h', toks := t' } :=
  I.write (x := a) (e := a) mu (.inl rfl) (fun b q hb z => (hs.2 b hb).trans z) he new
theorem dk_new {P : Program} {w : World} {H' : Hp} {h' : Heap} {kvs : List (Key × V)} {vs : List (Key × Value)} (z : kvs.length ≤ sizeLine) (hd : (a == sysModules) = false) (rel : KV kvs vs) (dd : h'.DictOf (mixKind P w) a vs) :
    ObjOk P w H' h' a (.dK kvs) := ⟨z, hd, vs, rel, dd⟩
theorem d_setItem {H' : Hp} {Q : Unit → Shared → Prop} (hu : A.units + 1 < cLine) (I : Inv X pins σ H s) (g : DPut H a y v H') (ry : RelV y u) (rv : RelV v r) (h : ∀ s', Inv X pins σ H' s' → Q () s') :
    wpAny (model X.prog X.w) A (setItem (.ref a) u r) Q E s := by
  rcases g with ⟨kvs, k, e, ey, l, eH⟩ | ⟨kvs, k, b, e, ey, eb, l, eH⟩
  · subst ey eH
    obtain ⟨z, hd, vs, rel, dd⟩ := dk_of I.hok e
    have hz : vs.length ≤ sizeLine := by rw [← rel.length]; exact z
    have hl : (putK kvs k v).length ≤ sizeLine := by have := length_putK kvs k v; omega
    refine wpAny_setItem_pairs (hsz := hz) (kV_is ry) dd fun h' dd' hs => h _ ?_
    have he : ∃ q, h'.get? a = some q := let ⟨q, _, _, hq, _⟩ := dd'; ⟨q, hq⟩
    exact d_write I (by rw [e]; exact True.intro) hs he (dk_new hl hd (rel.put k rv) dd')
  · subst ey eH
    cases (show u = Value.ref b from ry)
    obtain ⟨z, hd, xs, rel, dd⟩ := dt_of I.hok e
    have hz : xs.length ≤ sizeLine := by rw [← Paired.length rel]; exact z
    have hl : (putK kvs k v).length ≤ sizeLine := by have := length_putK kvs k v; omega
    refine wpAny_setItem_heap (hsz := hz) (tupleKind_room_in1 hu) (key_of I.hok eb) dd fun h' dd' hs => h _ ?_
    obtain ⟨q, es, ep, hq, h2, h3, h4, _, h5⟩ := dd'
    refine d_write I (by rw [e]; exact True.intro) hs ⟨q, hq⟩ ⟨hl, hd, _, (rel.put k eb rv).keeps fun c ys ec => ?_, q, es, ep, hq, h2, h3, h4, h5⟩
    rw [upd_ne (ne_of ec e (fun z => nomatch z))]
    exact ec
end
section
variable {X : Cx} {pins : List (Addr × Obj)} {σ : St} {H : Hp} {s : Shared} {a : Addr} {kvs : List (Key × V)} {k : Key} {u : Value} {A : Around} {E : Value → Shared → Prop}
theorem d_delItem {Q : Unit → Shared → Prop} (I : Inv X pins σ H s) (e : H a = some (.dK kvs)) (ry : RelV (kV k) u) (l : (valV kvs k).isSome = true) (h : ∀ s', Inv X pins σ (upd H a (.dK (dropK kvs k))) s' → Q () s') :
    wpAny (model X.prog X.w) A (delItem (.ref a) u) Q E s := by
  obtain ⟨z, hd, vs, rel, dd⟩ := dk_of I.hok e
  refine wpAny_delItem_slot dd.typeIs (by decide) PySem.F.slot_dict_delitem
    (call_meetsIn PySem.F.slot_dict_delitem dd.typeIs PySem.F.entry_dict_delitem (PySem.F.args_dict_delitem_2 _ _) (meets_dict_delitem_pairs (mixKind X.prog X.w) a (kV_is ry)) ⟨vs, dd, by rw [← rel.length]; exact z, by rw [← (rel.val k).isSome_eq]; exact l, fun h' dd' hs => h _ ?_⟩)
  have he : ∃ q, h'.get? a = some q := let ⟨q, _, _, hq, _⟩ := dd'; ⟨q, hq⟩
  exact d_write I (by rw [e]; exact True.intro) hs he (dk_new (Nat.le_trans (dropK_le kvs k) z) hd (rel.drop k) dd')
theorem d_pop {v : V} {more : List Value} {Q : Value → Shared → Prop} (I : Inv X pins σ H s) (e : H a = some (.dK kvs)) (ry : RelV (kV k) u) (l : valV kvs k = some v) (hm : more = [] ∨ ∃ x, more = [x])
    (h : ∀ w' s', Inv X pins σ (upd H a (.dK (dropK kvs k))) s' → RelV v w' → Q w' s') : wpAny (model X.prog X.w) A (call (.builtin "dict.pop") (.ref a :: u :: more)) Q E s := by
  obtain ⟨z, hd, vs, rel, dd⟩ := dk_of I.hok e
  obtain ⟨w', hw, rw'⟩ := RelO.some_of (v := v) (o := valueAt vs k) (by rw [← l]; exact rel.val k)
  have hp : (keyPart u).isSome = true := by
    cases k with
    | inl i => obtain ⟨t, q⟩ := (show ∃ t, u = Value.int i t from ry); subst q; rfl
    | inr x => obtain ⟨t, q⟩ := (show ∃ t, u = Value.str x t from ry); subst q; rfl
  have ha : argsOk "dict.pop" ⟨.ref a :: u :: more, []⟩ := by
    rcases hm with q | ⟨x, q⟩
    · subst q; exact PySem.F.args_dict_pop_2 _ _
    · subst q; exact PySem.F.args_dict_pop_3 _ _ _
  refine call_meetsIn PySem.F.slot_dict_pop dd.typeIs PySem.F.entry_dict_pop ha (meets_dict_pop_there (mixKind X.prog X.w) a (kV_is ry) more hm hp)
    ⟨vs, w', dd, by rw [← rel.length]; exact z, hw, fun h' dd' hs => h w' _ ?_ rw'⟩
  have he : ∃ q, h'.get? a = some q := let ⟨q, _, _, hq, _⟩ := dd'; ⟨q, hq⟩
  exact d_write I (by rw [e]; exact True.intro) hs he (dk_new (Nat.le_trans (dropK_le kvs k) z) hd (rel.drop k) dd')
theorem d_popD {r : Value} {Q : Value → Shared → Prop} (I : Inv X pins σ H s) (e : H a = some (.dK kvs)) (ry : RelV (kV k) u) (l : valV kvs k = none) (h : ∀ s', Inv X pins σ H s' → Q r s') :
    wpAny (model X.prog X.w) A (call (.builtin "dict.pop") [.ref a, u, r]) Q E s := by
  obtain ⟨z, hd, vs, rel, dd⟩ := dk_of I.hok e
  have hn : valueAt vs k = none := RelO.none_of (by rw [← l]; exact rel.val k)
  have hp : (keyPart u).isSome = true := by
    cases k with
    | inl i => obtain ⟨t, q⟩ := (show ∃ t, u = Value.int i t from ry); subst q; rfl
    | inr x => obtain ⟨t, q⟩ := (show ∃ t, u = Value.str x t from ry); subst q; rfl
  exact call_meetsIn PySem.F.slot_dict_pop dd.typeIs PySem.F.entry_dict_pop (PySem.F.args_dict_pop_3 _ _ _) (meets_dict_pop_default (mixKind X.prog X.w) a (kV_is ry) hd hp r) ⟨vs, dd, hn, h _ (I.tok _)⟩
theorem d_clear {Q : Value → Shared → Prop} (I : Inv X pins σ H s) (e : H a = some (.dK kvs)) (h : ∀ s', Inv X pins σ (upd H a (.dK [])) s' → Q .none s') : wpAny (model X.prog X.w) A (call (.builtin "dict.clear") [.ref a]) Q E s := by
  obtain ⟨z, hd, vs, rel, dd⟩ := dk_of I.hok e
  refine call_meetsIn PySem.F.slot_dict_clear dd.typeIs PySem.F.entry_dict_clear (PySem.F.args_dict_clear_1 _) (meets_dict_clear (mixKind X.prog X.w) a) ⟨vs, dd, by rw [← rel.length]; exact z, fun h' dd' hs => h _ ?_⟩
  have he : ∃ q, h'.get? a = some q := let ⟨q, _, _, hq, _⟩ := dd'; ⟨q, hq⟩
  exact d_write (t' := s.toks) I (by rw [e]; exact True.intro) hs he (dk_new (Nat.zero_le _) hd .nil dd')
theorem d_len {Q : Value → Shared → Prop} (I : Inv X pins σ H s) (e : Rd H a (.dK kvs)) (h : ∀ t s', Inv X pins σ H s' → Q (.int kvs.length t) s') : wpAny (model X.prog X.w) A (call (.builtin "len") [.ref a]) Q E s := by
  obtain ⟨z, hd, vs, rel, dd⟩ := dk_rd I.hok e
  refine call_len_dict hd dd (by rw [← rel.length]; rw [sizeLine_eq] at z; omega) ?_
  rw [← rel.length]
  exact h _ _ (I.tok _)
theorem d_truth {Q : Bool → Shared → Prop} (I : Inv X pins σ H s) (e : Rd H a (.dK kvs)) (h : ∀ s', Inv X pins σ H s' → Q (!kvs.isEmpty) s') : wpAny (model X.prog X.w) A (truthy (.ref a)) Q E s := by
  obtain ⟨z, hd, vs, rel, dd⟩ := dk_rd I.hok e
  refine wpAny_truthy_dict hd dd (by rw [← rel.length]; rw [sizeLine_eq] at z; omega) ?_
  have q : kvs.isEmpty = vs.isEmpty := by cases rel <;> rfl
  rw [← q]
  exact h _ (I.tok _)
end
def NoSl (i : Expr) : Prop := ∀ ov iv, subscripted i false ov iv = operate [ov, iv] (getItem ov iv)
theorem subD_of {prog : Program} {w : World} {A : Around} {E : Value → Shared → Prop} {s : Shared} {env : Env} {value slice : Expr} {pos : Pos} {T id : String} {Q : Value → Shared → Prop}
    (hl : typeLookup (.type T) "__getitem__" = pure (some (.builtin id))) (hs : NoSl slice)
    (h : wpAny (model prog w) A (eval value env) (fun o s₁ => wpAny (model prog w) A (eval slice env) (fun i s₂ => s₂.TypeIs o T ∧ wpAny (model prog w) A (getItem o i) Q E s₂) E s₁) E s) :
    wpAny (model prog w) A (eval (.Subscript value slice pos) env) Q E s := by
  refine Subscript_ (wpAny_mono h (fun o s₁ h₁ => wpAny_mono h₁ (fun i s₂ h₂ => ?_) fun _ _ x => x) fun _ _ x => x)
  obtain ⟨hT, h₂⟩ := h₂
  unfold subscriptTail
  refine wpAny_bind ?_
  rw [getitemInPython_of_ne hT.not_modules]
  refine wpAny_bind (wpAny_specialOf hT hl ?_)
  have fin : wpAny (model prog w) A (subscripted slice false o i) (fun r s₃ => wpAny (model prog w) A (letTemporaryGo value o r >>= fun _ => pure r) Q E s₃) E s₂ := by
    rw [hs o i]
    exact wpAny_operating (wpAny_mono h₂ (fun r s₃ h₃ => wpAny_bind (wpAny_letTemporaryGo (wpAny_pure h₃))) fun _ _ x => x)
  first
    | exact wpAny_pure (wpAny_bind fin)
    | exact wpAny_bind (wpAny_pure (wpAny_bind fin))
    | exact wpAny_bind fin
theorem dict_typeIs {X : Cx} {pins : List (Addr × Obj)} {σ : St} {H : Hp} {s : Shared} {a : Addr} {y : V} {o : Option V} (I : Inv X pins σ H s) (g : DGet H a y o) : s.TypeIs (.ref a) "dict" := by
  rcases g with ⟨kvs, k, e, _, _⟩ | ⟨kvs, k, b, e, _, _, _⟩
  · obtain ⟨_, _, vs, _, dd⟩ := dk_rd I.hok e
    exact dd.typeIs
  · obtain ⟨_, _, xs, _, dd⟩ := dt_rd I.hok e
    exact dd.typeIs
theorem dict_noDict {X : Cx} {pins : List (Addr × Obj)} {σ : St} {H : Hp} {s : Shared} {a : Addr} {y : V} {o : Option V} (I : Inv X pins σ H s) (g : DGet H a y o) :
    ∀ b, Value.ref a = .ref b → ∃ ob, s.heap.get? b = some ob ∧ ob.dict = none := fun b q => by
  cases q
  rcases g with ⟨kvs, k, e, _, _⟩ | ⟨kvs, k, b, e, _, _, _⟩
  · obtain ⟨_, _, vs, _, ob, _, _, h1, h2, _⟩ := dk_rd I.hok e
    exact ⟨ob, h1, h2.2.1⟩
  · obtain ⟨_, _, xs, _, ob, _, _, h1, h2, _⟩ := dt_rd I.hok e
    exact ⟨ob, h1, h2.2.1⟩
def tDGet (td ty : TE) : TE := fun σ H Q => td σ H fun x H1 => ty σ H1 fun y H2 => ∃ a v, x = .ref a ∧ DGet H2 a y (some v) ∧ Q v H2
def tDIn (ty td : TE) : TE := fun σ H Q => ty σ H fun y H1 => td σ H1 fun x H2 => ∃ a o, x = .ref a ∧ DGet H2 a y o ∧ Q (.bl o.isSome) H2
def tDNotIn (ty td : TE) : TE := fun σ H Q => ty σ H fun y H1 => td σ H1 fun x H2 => ∃ a o, x = .ref a ∧ DGet H2 a y o ∧ Q (.bl (!o.isSome)) H2
def sDPut (td ty tv : TE) : TS := fun D σ H => tv σ H fun v H1 => td σ H1 fun x H2 => ty σ H2 fun y H3 => ∃ a H4, x = .ref a ∧ DPut H3 a y v H4 ∧ D.nx σ H4
def sDAug (td ty tv : TE) (rd : V → V → Hp → VK → Prop) : TS := fun D σ H => td σ H fun x H1 => ty σ H1 fun y H2 => ∃ a v, x = .ref a ∧ DGet H2 a y (some v) ∧
  tv σ H2 fun y2 H3 => rd v y2 H3 fun z H4 => ∃ H5, DPut H4 a y z H5 ∧ D.nx σ H5
def sDDel (td ty : TE) : TS := fun D σ H => td σ H fun x H1 => ty σ H1 fun y H2 => ∃ a kvs k, x = .ref a ∧ H2 a = some (.dK kvs) ∧ y = kV k ∧ (valV kvs k).isSome = true ∧ D.nx σ (upd H2 a (.dK (dropK kvs k)))
section
variable {X : Cx} {o i e value : Expr} {pos pos' tpos : Pos} {td ty tv : TE}
theorem pe_dget (hu : X.A.units + 1 < cLine) (ho : PE X o td) (hi : PE X i ty) (hs : NoSl i) : PE X (.Subscript o i pos) (tDGet td ty) := by
  intro pins s σ H Q I h
  refine subD_of PySem.F.slot_dict_getitem.lookup hs (thn (ho pins s σ H _ I h) fun u s1 ⟨x, H1, I1, rx, q1⟩ => thn (hi pins s1 σ H1 _ I1 q1) fun iv s2 ⟨y, H2, I2, ry, a, v, ex, g, q2⟩ => ?_)
  subst ex
  obtain rfl : u = Value.ref a := rx
  exact ⟨dict_typeIs I2 g, d_getItem hu I2 g ry fun w' s3 I3 rw' => ⟨v, H2, I3, rw', q2⟩⟩
theorem pc_din (hu : X.A.units + 1 < cLine) (hi : PE X i ty) (ho : PE X o td) : PC X .In i o (tDIn ty td) := by
  intro pins s σ H Q I h
  refine thn (hi pins s σ H _ I h) fun iv s1 ⟨y, H1, I1, ry, q1⟩ => thn (ho pins s1 σ H1 _ I1 q1) fun u s2 ⟨x, H2, I2, rx, a, ov, ex, g, q2⟩ => ?_
  subst ex
  obtain rfl : u = Value.ref a := rx
  exact d_in hu I2 g ry fun s3 I3 => ⟨.bl ov.isSome, H2, I3, rfl, q2⟩
theorem pc_dnotin (hu : X.A.units + 1 < cLine) (hi : PE X i ty) (ho : PE X o td) : PC X .NotIn i o (tDNotIn ty td) := by
  intro pins s σ H Q I h
  refine thn (hi pins s σ H _ I h) fun iv s1 ⟨y, H1, I1, ry, q1⟩ => thn (ho pins s1 σ H1 _ I1 q1) fun u s2 ⟨x, H2, I2, rx, a, ov, ex, g, q2⟩ => ?_
  subst ex
  obtain rfl : u = Value.ref a := rx
  exact d_notIn hu I2 g ry fun s3 I3 => ⟨.bl (!ov.isSome), H2, I3, rfl, q2⟩
theorem ps_dput (hu : X.A.units + 1 < cLine) (ho : PE X o td) (hi : PE X i ty) (hv : PE X value tv) (hs : swapsWith value (some (.Subscript o i pos')) pos.line X.env = pure false) :
    PS X (.Assign [.Subscript o i pos'] value pos) (sDPut td ty tv) := by
  intro pins s σ H D I h
  refine wpAny_Assign_Subscript (thn (hv pins s σ H _ I h) fun r s1 ⟨v, H1, I1, rv, q1⟩ => thn (ho pins s1 σ H1 _ I1 q1) fun u s2 ⟨x, H2, I2, rx, q2⟩ => thn (hi pins s2 σ H2 _ I2 q2) fun iv s3 ⟨y, H3, I3, ry, a, H4, ex, g, q3⟩ => ?_) hs
  subst ex
  obtain rfl : u = Value.ref a := rx
  exact d_setItem hu I3 g ry rv fun s4 I4 => ⟨σ, H4, I4, q3⟩
theorem ps_daug {op : Operator} {rd : V → V → Hp → VK → Prop} (hu : X.A.units + 1 < cLine) (ho : PE X o td) (hi : PE X i ty) (hv : PE X value tv) (hop : InOp X op rd)
    (ha : ∀ ov iv new, augStore i ov iv new = (do holding [new, ov, iv] (setItem ov iv new); release [new, ov, iv] []; pure .next)) : PS X (.AugAssign (.Subscript o i tpos) op value pos) (sDAug td ty tv rd) := by
  intro pins s σ H D I h
  refine wpAny_AugAssign_SubscriptAny (thn (ho pins s σ H _ I h) fun u s1 ⟨x, H1, I1, rx, q1⟩ => thn (hi pins s1 σ H1 _ I1 q1) fun iv s2 ⟨y, H2, I2, ry, a, v, ex, g, q2⟩ => ?_) ha
  subst ex
  obtain rfl : u = Value.ref a := rx
  refine d_getItem hu I2 g ry fun w' s3 I3 rw' => thn (hv pins s3 σ H2 _ I3 q2) fun w2 s4 ⟨y2, H3, I4, ry2, q3⟩ => thn (hop pins s4 σ H3 v y2 w' w2 _ I4 rw' ry2 q3) fun w3 s5 ⟨z, H4, I5, rz, H5, g5, q4⟩ => ?_
  exact d_setItem hu I5 g5 ry rz fun s6 I6 => ⟨σ, H5, I6, q4⟩
theorem ps_ddel (ho : PE X o td) (hi : PE X i ty) : PS X (.Delete [.Subscript o i tpos] pos) (sDDel td ty) := by
  intro pins s σ H D I h
  refine wpAny_Delete (wpAny_deleteEach_cons (wpAny_delete_Subscript (thn (ho pins s σ H _ I h) fun u s1 ⟨x, H1, I1, rx, q1⟩ => thn (hi pins s1 σ H1 _ I1 q1) fun iv s2 ⟨y, H2, I2, ry, a, kvs, k, ex, e, ey, l, q2⟩ => ?_)))
  subst ex ey
  obtain rfl : u = Value.ref a := rx
  exact d_delItem I2 e ry l fun s3 I3 => wpAny_deleteEach_nil ⟨σ, _, I3, q2⟩
end
theorem dk_empty {P : Program} {w : World} {H : Hp} (h : Heap) (hb : sysModules < h.objs.size) : ObjOk P w H (h.push { cls := .type "dict", data := .dict #[] }) h.objs.size (.dK []) :=
  ⟨Nat.zero_le _, beq_eq_false_iff_ne.mpr (Ne.symm (Nat.ne_of_lt hb)), [], .nil, Heap.DictOf.new h⟩
theorem dt_empty {P : Program} {w : World} {H : Hp} (h : Heap) (hb : sysModules < h.objs.size) : ObjOk P w H (h.push { cls := .type "dict", data := .dict #[] }) h.objs.size (.dT []) :=
  ⟨Nat.zero_le _, beq_eq_false_iff_ne.mpr (Ne.symm (Nat.ne_of_lt hb)), [], .nil, _, #[], 0, Heap.get?_push_size _ rfl, ⟨rfl, rfl, rfl⟩, rfl, rfl, List.nodup_nil⟩
def tDNewK : TE := fun _ H Q => ∀ p, H p = none → Q (.ref p) (upd H p (.dK []))
def tDNewT : TE := fun _ H Q => ∀ p, H p = none → Q (.ref p) (upd H p (.dT []))
section
variable {X : Cx} {pos : Pos}
theorem pe_dnewK : PE X (.Dict [] [] pos) tDNewK := fun pins s σ H Q I h =>
  wpAny_Dict_empty ⟨.ref s.heap.objs.size, _, I.laid (a := s.heap.objs.size) (o := .dK []) (t' := s.toks) (fun _ _ q => Heap.get?_push_of_some _ q) (Nat.le_refl _) (dk_empty s.heap I.big), rfl, h _ (I.hok.fresh (Nat.le_refl _))⟩
theorem pe_dnewT : PE X (.Dict [] [] pos) tDNewT := fun pins s σ H Q I h =>
  wpAny_Dict_empty ⟨.ref s.heap.objs.size, _, I.laid (a := s.heap.objs.size) (o := .dT []) (t' := s.toks) (fun _ _ q => Heap.get?_push_of_some _ q) (Nat.le_refl _) (dt_empty s.heap I.big), rfl, h _ (I.hok.fresh (Nat.le_refl _))⟩
end
def tPairs : List (TE × TE) → St → Hp → (List (V × V) → Hp → Prop) → Prop
  | [], _, H, Q => Q [] H
  | (tk, tv) :: r, σ, H, Q => tk σ H fun x H1 => tv σ H1 fun y H2 => tPairs r σ H2 fun ps H3 => Q ((x, y) :: ps) H3
abbrev VV : List (V × V) → List (Value × Value) → Prop := Paired fun p q => RelV p.1 q.1 ∧ RelV p.2 q.2
def PPs (X : Cx) (pos : Pos) (keys : List (Option Expr)) (values : List Expr) (trs : List (TE × TE)) : Prop :=
  ∀ (pins : List (Addr × Obj)) (s : Shared) (σ : St) (H : Hp) (Q : List (V × V) → Hp → Prop), Inv X pins σ H s → tPairs trs σ H Q →
    wpAny (model X.prog X.w) X.A (evalPairs (pairTrees keys values X.env pos)) (fun vs s' => ∃ ps H', Inv X pins σ H' s' ∧ VV ps vs ∧ Q ps H') X.xe s
theorem pps_nil {X : Cx} {pos : Pos} : PPs X pos [] [] [] := fun pins s σ H Q I h => pairTrees_nil_walk ⟨[], H, I, .nil, h⟩
theorem pps_cons {X : Cx} {pos : Pos} {k v : Expr} {ks : List (Option Expr)} {vs : List Expr} {tk tv : TE} {trs : List (TE × TE)} (hk : PE X k tk) (hv : PE X v tv) (hr : PPs X pos ks vs trs) :
    PPs X pos (some k :: ks) (v :: vs) ((tk, tv) :: trs) := fun pins s σ H Q I h =>
  pairTrees_cons_walk (thn (hk pins s σ H _ I h) fun u s1 ⟨x, H1, I1, rx, q1⟩ => thn (hv pins s1 σ H1 _ I1 q1) fun w2 s2 ⟨y, H2, I2, ry, q2⟩ =>
    thn (hr pins s2 σ H2 _ I2 q2) fun ws s3 ⟨ps, H3, I3, rel, q3⟩ => ⟨(x, y) :: ps, H3, I3, .cons ⟨rx, ry⟩ rel, q3⟩)
def mergeK (kvs more : List (Key × V)) : List (Key × V) := more.foldl (fun acc kv => putK acc kv.1 kv.2) kvs
theorem KV.merge : ∀ {more : List (Key × V)} {rs : List (Key × Value)} {kvs : List (Key × V)} {vs : List (Key × Value)}, KV more rs → KV kvs vs → KV (mergeK kvs more) (merged vs rs) := by
  intro more rs kvs vs r
  unfold KV at r
  induction r generalizing kvs vs with
  | nil => intro q; exact q
  | @cons p q ps qs h t ih =>
    intro r0
    have e : KV (putK kvs p.1 p.2) (stored vs q.1 q.2) := by
      have := r0.put p.1 h.2
      rw [← h.1]; exact this
    exact ih e
theorem length_mergeK : ∀ (more kvs : List (Key × V)), (mergeK kvs more).length ≤ kvs.length + more.length
  | [], kvs => by show kvs.length ≤ kvs.length + 0; omega
  | p :: r, kvs => by
    have h1 := length_mergeK r (putK kvs p.1 p.2)
    have h2 := length_putK kvs p.1 p.2
    show (mergeK (putK kvs p.1 p.2) r).length ≤ _
    rw [List.length_cons]; omega
theorem carries_of {P : Program} {w : World} : ∀ {kvs : List (Key × V)} {ws : List (Value × Value)}, VV (kvs.map fun kv => (kV kv.1, kv.2)) ws → ∃ rs, Carries (mixKind P w) ws rs ∧ KV kvs rs
  | [], _, r => by rw [List.map_nil] at r; cases r; exact ⟨[], True.intro, .nil⟩
  | p :: kvs, _, r => by
    rw [List.map_cons] at r
    cases r with
    | @cons a b as bs h t =>
      obtain ⟨rs, c, q⟩ := carries_of (P := P) (w := w) t
      obtain ⟨b1, b2⟩ := b
      exact ⟨(p.1, b2) :: rs, ⟨kV_is h.1, rfl, c⟩, .cons ⟨rfl, h.2⟩ q⟩
def tDisp (trs : List (TE × TE)) : TE := fun σ H Q => ∀ p, H p = none → tPairs trs σ (upd H p (.dK [])) fun ps H2 => H2 p = some (.dK []) ∧ ∃ kvs : List (Key × V), ps = kvs.map (fun kv => (kV kv.1, kv.2)) ∧ kvs.length ≤ 15 ∧ Q (.ref p) (upd H2 p (.dK (mergeK [] kvs)))
theorem pe_disp {X : Cx} {pos : Pos} {keys : List (Option Expr)} {values : List Expr} {trs : List (TE × TE)} (h : PPs X pos keys values trs) (hall : keys.all (·.isSome) = true) (hl : keys.length = values.length) (h0 : keys ≠ [])
    (h15 : keys.length ≤ 15) : PE X (.Dict keys values pos) (tDisp trs) := by
  intro pins s σ H Q I q
  have hn := I.hok.fresh (Nat.le_refl s.heap.objs.size)
  have I1 := I.laid (a := s.heap.objs.size) (o := .dK []) (h' := s.heap.push { cls := .type "dict", data := .dict #[] }) (t' := s.toks) (fun _ _ q => Heap.get?_push_of_some _ q) (Nat.le_refl _) (dk_empty s.heap I.big)
  refine wpAny_Dict_walk (knd := mixKind X.prog X.w) hall hl h0 h15 (thn (h pins _ σ _ _ I1 (q _ hn)) fun ws s2 ⟨ps, H2, I2, rel, e, kvs, ep, lk, q2⟩ => ?_)
  subst ep
  obtain ⟨rs, c, rk⟩ := carries_of (P := X.prog) (w := X.w) rel
  obtain ⟨z, hd, vs0, r0, dd⟩ := dk_of I2.hok e
  cases r0
  refine ⟨rs, c, dd, fun h' dd' hs => ⟨.ref s.heap.objs.size, _, ?_, rfl, q2⟩⟩
  have hz : (mergeK [] kvs).length ≤ sizeLine := by
    have h1 := length_mergeK kvs []
    rw [List.length_nil] at h1
    rw [sizeLine_eq]; omega
  have he : ∃ q, h'.get? s.heap.objs.size = some q := let ⟨q, _, _, hq, _⟩ := dd'; ⟨q, hq⟩
  exact d_write I2 (by rw [e]; exact True.intro) hs he (dk_new hz hd (rk.merge .nil) dd')
structure M1 (X : Cx) (o : Expr) (m : Str) (apos : Pos) (e : Expr) (cpos : Pos) : Prop where
  base : attributeBase o m X.env (eval o X.env) = eval o X.env
  few : ((backTo cpos (starEach [e] X.env)).all (fun x => !x.1) && (backToKw cpos (keywordEach [] X.env)).all (fun x => x.1.isSome)
    && decide (([e] : List Expr).length + ([] : List Keyword).length + (if ([] : List Keyword).isEmpty then 0 else 1) < 30)) = true
  line : (apos.endLine == cpos.line) = true
  trees : backTo cpos (starEach [e] X.env) = [(false, eval e X.env)]
structure M2 (X : Cx) (o : Expr) (m : Str) (apos : Pos) (e f : Expr) (cpos : Pos) : Prop where
  base : attributeBase o m X.env (eval o X.env) = eval o X.env
  few : ((backTo cpos (starEach [e, f] X.env)).all (fun x => !x.1) && (backToKw cpos (keywordEach [] X.env)).all (fun x => x.1.isSome)
    && decide (([e, f] : List Expr).length + ([] : List Keyword).length + (if ([] : List Keyword).isEmpty then 0 else 1) < 30)) = true
  line : (apos.endLine == cpos.line) = true
  trees : backTo cpos (starEach [e, f] X.env) = [(false, eval e X.env), (false, eval f X.env)]
def IsD (H : Hp) (a : Addr) : Prop := (∃ kvs, Rd H a (.dK kvs)) ∨ ∃ kvs, Rd H a (.dT kvs)
theorem isD_at {X : Cx} {pins : List (Addr × Obj)} {σ : St} {H : Hp} {s : Shared} {a : Addr} (I : Inv X pins σ H s) (d : IsD H a) :
    s.TypeIs (.ref a) "dict" ∧ (∀ b, Value.ref a = .ref b → ∃ ob, s.heap.get? b = some ob ∧ ob.dict = none) ∧ (a == sysModules) = false := by
  rcases d with ⟨kvs, e⟩ | ⟨kvs, e⟩
  · obtain ⟨_, hd, vs, _, dd⟩ := dk_rd I.hok e
    refine ⟨dd.typeIs, fun b q => ?_, hd⟩
    cases q
    obtain ⟨ob, _, _, h1, h2, _⟩ := dd
    exact ⟨ob, h1, h2.2.1⟩
  · obtain ⟨_, hd, xs, _, dd⟩ := dt_rd I.hok e
    refine ⟨dd.typeIs, fun b q => ?_, hd⟩
    cases q
    obtain ⟨ob, _, _, h1, h2, _⟩ := dd
    exact ⟨ob, h1, h2.2.1⟩
section
variable {X : Cx} {pins : List (Addr × Obj)} {σ : St} {H : Hp} {s : Shared} {a : Addr} {y d : V} {u r : Value} {o : Option V} {A : Around} {E : Value → Shared → Prop}
theorem d_get1 {Q : Value → Shared → Prop} (hu : A.units + 1 < cLine) (I : Inv X pins σ H s) (g : DGet H a y o) (ry : RelV y u) (h : ∀ w' s', Inv X pins σ H s' → RelV (o.getD .non) w' → Q w' s') :
    wpAny (model X.prog X.w) A (call (.builtin "dict.get") [.ref a, u]) Q E s := by
  rcases g with ⟨kvs, k, e, ey, l⟩ | ⟨kvs, k, b, e, ey, eb, l⟩
  · subst ey
    obtain ⟨z, hd, vs, rel, dd⟩ := dk_rd I.hok e
    refine call_meetsIn PySem.F.slot_dict_get dd.typeIs PySem.F.entry_dict_get (PySem.F.args_dict_get_2 _ _) (meets_dict_get (mixKind X.prog X.w) a (kV_is ry) hd) ⟨_, dd.mapOf, h _ _ (I.tok _) ?_⟩
    rw [l]
    exact (rel.val k).getD rfl
  · subst ey
    cases (show u = Value.ref b from ry)
    obtain ⟨z, hd, xs, rel, dd⟩ := dt_rd I.hok e
    refine call_meetsIn PySem.F.slot_dict_get dd.typeIs PySem.F.entry_dict_get (PySem.F.args_dict_get_2 _ _) (meetsH_dict_get (tupleKind (mixKind X.prog X.w)) a b hd) ⟨tupleKind_room_in1 hu, k, xs, key_of I.hok eb, dd, h _ _ (I.tok _) ?_⟩
    rw [l]
    exact (rel.val k).getD rfl
theorem d_get2 {Q : Value → Shared → Prop} (hu : A.units + 1 < cLine) (I : Inv X pins σ H s) (g : DGet H a y o) (ry : RelV y u) (rd : RelV d r) (h : ∀ w' s', Inv X pins σ H s' → RelV (o.getD d) w' → Q w' s') :
    wpAny (model X.prog X.w) A (call (.builtin "dict.get") [.ref a, u, r]) Q E s := by
  rcases g with ⟨kvs, k, e, ey, l⟩ | ⟨kvs, k, b, e, ey, eb, l⟩
  · subst ey
    obtain ⟨z, hd, vs, rel, dd⟩ := dk_rd I.hok e
    refine call_meetsIn PySem.F.slot_dict_get dd.typeIs PySem.F.entry_dict_get (PySem.F.args_dict_get_3 _ _ _) (meets_dict_get_default (mixKind X.prog X.w) a (kV_is ry) hd r) ⟨_, dd.mapOf, h _ _ (I.tok _) ?_⟩
    rw [l]
    exact (rel.val k).getD rd
  · subst ey
    cases (show u = Value.ref b from ry)
    obtain ⟨z, hd, xs, rel, dd⟩ := dt_rd I.hok e
    refine call_meetsIn PySem.F.slot_dict_get dd.typeIs PySem.F.entry_dict_get (PySem.F.args_dict_get_3 _ _ _) (meetsH_dict_get_default (tupleKind (mixKind X.prog X.w)) a b hd r) ⟨tupleKind_room_in1 hu, k, xs, key_of I.hok eb, dd, h _ _ (I.tok _) ?_⟩
    rw [l]
    exact (rel.val k).getD rd
end
def tDGet1 (td ty : TE) : TE := fun σ H Q => td σ H fun x H1 => ∃ a, x = .ref a ∧ IsD H1 a ∧ ty σ H1 fun y H2 => ∃ o, DGet H2 a y o ∧ Q (o.getD .non) H2
def tDGet2 (td ty tx : TE) : TE := fun σ H Q => td σ H fun x H1 => ∃ a, x = .ref a ∧ IsD H1 a ∧ ty σ H1 fun y H2 => tx σ H2 fun z H3 => ∃ o, DGet H3 a y o ∧ Q (o.getD z) H3
def tDPop1 (td ty : TE) : TE := fun σ H Q => td σ H fun x H1 => ∃ a, x = .ref a ∧ IsD H1 a ∧ ty σ H1 fun y H2 => ∃ kvs k v, H2 a = some (.dK kvs) ∧ y = kV k ∧ valV kvs k = some v ∧ Q v (upd H2 a (.dK (dropK kvs k)))
def tDPop2 (td ty tx : TE) : TE := fun σ H Q => td σ H fun x H1 => ∃ a, x = .ref a ∧ IsD H1 a ∧ ty σ H1 fun y H2 => tx σ H2 fun z H3 => ∃ kvs k, H3 a = some (.dK kvs) ∧ y = kV k ∧
  (∀ v, valV kvs k = some v → Q v (upd H3 a (.dK (dropK kvs k)))) ∧ (valV kvs k = none → Q z H3)
section
variable {X : Cx} {o e f : Expr} {apos cpos : Pos} {td ty tx : TE}
theorem pe_dget1 (hu : X.A.units + 1 < cLine) (ho : PE X o td) (he : PE X e ty) (m : M1 X o "get" apos e cpos) : PE X (.Call (.Attribute o "get" apos) [e] [] cpos) (tDGet1 td ty) := by
  intro pins s σ H Q I h
  refine wpAny_Call_method m.base m.few m.line PySem.F.plainAttrs_dict PySem.F.slot_dict_get PySem.F.type_dict_get (thn (ho pins s σ H _ I h) fun u s1 ⟨x, H1, I1, rx, a, ex, d, q1⟩ => ?_)
  subst ex
  obtain rfl : u = Value.ref a := rx
  obtain ⟨t1, t2, _⟩ := isD_at I1 d
  refine ⟨t1, t2, ?_⟩
  rw [m.trees]
  refine Calls.callWith_builtin rfl (Calls.evalArgs_plain (Calls.spliced_cons (thn (he pins s1 σ H1 _ I1 q1) fun iv s2 ⟨y, H2, I2, ry, ov, g, q2⟩ => Calls.spliced_nil ?_)))
  exact d_get1 hu I2 g ry fun w' s3 I3 rw' => ⟨_, H2, I3, rw', q2⟩
theorem pe_dget2 (hu : X.A.units + 1 < cLine) (ho : PE X o td) (he : PE X e ty) (hf : PE X f tx) (m : M2 X o "get" apos e f cpos) : PE X (.Call (.Attribute o "get" apos) [e, f] [] cpos) (tDGet2 td ty tx) := by
  intro pins s σ H Q I h
  refine wpAny_Call_method m.base m.few m.line PySem.F.plainAttrs_dict PySem.F.slot_dict_get PySem.F.type_dict_get (thn (ho pins s σ H _ I h) fun u s1 ⟨x, H1, I1, rx, a, ex, d, q1⟩ => ?_)
  subst ex
  obtain rfl : u = Value.ref a := rx
  obtain ⟨t1, t2, _⟩ := isD_at I1 d
  refine ⟨t1, t2, ?_⟩
  rw [m.trees]
  refine Calls.callWith_builtin rfl (Calls.evalArgs_plain (Calls.spliced_cons (thn (he pins s1 σ H1 _ I1 q1) fun iv s2 ⟨y, H2, I2, ry, q2⟩ =>
    Calls.spliced_cons (thn (hf pins s2 σ H2 _ I2 q2) fun fv s3 ⟨z, H3, I3, rz, ov, g, q3⟩ => Calls.spliced_nil ?_))))
  exact d_get2 hu I3 g ry rz fun w' s4 I4 rw' => ⟨_, H3, I4, rw', q3⟩
theorem pe_dpop1 (ho : PE X o td) (he : PE X e ty) (m : M1 X o "pop" apos e cpos) : PE X (.Call (.Attribute o "pop" apos) [e] [] cpos) (tDPop1 td ty) := by
  intro pins s σ H Q I h
  refine wpAny_Call_method m.base m.few m.line PySem.F.plainAttrs_dict PySem.F.slot_dict_pop PySem.F.type_dict_pop (thn (ho pins s σ H _ I h) fun u s1 ⟨x, H1, I1, rx, a, ex, d, q1⟩ => ?_)
  subst ex
  obtain rfl : u = Value.ref a := rx
  obtain ⟨t1, t2, _⟩ := isD_at I1 d
  refine ⟨t1, t2, ?_⟩
  rw [m.trees]
  refine Calls.callWith_builtin rfl (Calls.evalArgs_plain (Calls.spliced_cons (thn (he pins s1 σ H1 _ I1 q1) fun iv s2 ⟨y, H2, I2, ry, kvs, k, v, ea, ey, l, q2⟩ => Calls.spliced_nil ?_)))
  subst ey
  exact d_pop I2 ea ry l (.inl rfl) fun w' s3 I3 rw' => ⟨v, _, I3, rw', q2⟩
theorem pe_dpop2 (ho : PE X o td) (he : PE X e ty) (hf : PE X f tx) (m : M2 X o "pop" apos e f cpos) : PE X (.Call (.Attribute o "pop" apos) [e, f] [] cpos) (tDPop2 td ty tx) := by
  intro pins s σ H Q I h
  refine wpAny_Call_method m.base m.few m.line PySem.F.plainAttrs_dict PySem.F.slot_dict_pop PySem.F.type_dict_pop (thn (ho pins s σ H _ I h) fun u s1 ⟨x, H1, I1, rx, a, ex, d, q1⟩ => ?_)
  subst ex
  obtain rfl : u = Value.ref a := rx
  obtain ⟨t1, t2, _⟩ := isD_at I1 d
  refine ⟨t1, t2, ?_⟩
  rw [m.trees]
  refine Calls.callWith_builtin rfl (Calls.evalArgs_plain (Calls.spliced_cons (thn (he pins s1 σ H1 _ I1 q1) fun iv s2 ⟨y, H2, I2, ry, q2⟩ =>
    Calls.spliced_cons (thn (hf pins s2 σ H2 _ I2 q2) fun fv s3 ⟨z, H3, I3, rz, kvs, k, ea, ey, q3, q4⟩ => Calls.spliced_nil ?_))))
  subst ey
  cases l : valV kvs k with
  | some v => exact d_pop I3 ea ry l (.inr ⟨fv, rfl⟩) fun w' s4 I4 rw' => ⟨v, _, I4, rw', q3 v l⟩
  | none => exact d_popD I3 ea ry l fun s4 I4 => ⟨z, H3, I4, rz, q4 l⟩
end
section
variable {X : Cx} {pins : List (Addr × Obj)} {σ : St} {H : Hp} {s : Shared} {a : Addr} {kvs : List (Key × V)} {A : Around} {E : Value → Shared → Prop}
theorem d_copyOf {Q : Value → Shared → Prop} (I : Inv X pins σ H s) (e : Rd H a (.dK kvs)) (h : ∀ p s', H p = none → Inv X pins σ (upd H p (.dK kvs)) s' → Q (.ref p) s') : wpAny (model X.prog X.w) A (call (.type "dict") [.ref a]) Q E s := by
  obtain ⟨z, hd, vs, rel, dd⟩ := dk_rd I.hok e
  refine kt_call_dict hd dd (by rw [← rel.length]; exact z) fun h' dd' hs => ?_
  refine h _ _ (I.hok.fresh (Nat.le_refl _)) (I.laid (a := s.heap.objs.size) (o := .dK kvs) (t' := s.toks) (fun b q hq => ?_) (Nat.le_refl _) (dk_new z (beq_eq_false_iff_ne.mpr (Ne.symm (Nat.ne_of_lt I.big))) rel dd'))
  exact (hs.2 b (Nat.ne_of_lt (Heap.lt_size hq))).trans (Heap.get?_push_of_some _ hq)
end
section
variable {X : Cx} {pins : List (Addr × Obj)} {σ : St} {H : Hp} {s : Shared} {a : Addr} {y : V} {u : Value} {A : Around} {E : Value → Shared → Prop}
theorem d_missing {Q : Value → Shared → Prop} (hu : A.units + 1 < cLine) (hh : A.handled = none) (I : Inv X pins σ H s) (g : DGet H a y none) (ry : RelV y u)
    (h : ∀ h' e t', Heap.NewExc s.heap h' e "KeyError" → E (.ref e) { s with heap := h', toks := t' }) : wpAny (model X.prog X.w) A (getItem (.ref a) u) Q E s := by
  rcases g with ⟨kvs, k, e, ey, l⟩ | ⟨kvs, k, b, e, ey, eb, l⟩
  · subst ey
    obtain ⟨z, hd, vs, rel, dd⟩ := dk_rd I.hok e
    have hn : valueAt vs k = none := RelO.none_of (by rw [l]; exact rel.val k)
    exact wpAny_getItem_missing_of (kV_is ry) hd hh dd.mapOf hn fun h' ex ne => h h' ex _ ne
  · subst ey
    cases (show u = Value.ref b from ry)
    obtain ⟨z, hd, xs, rel, dd⟩ := dt_rd I.hok e
    have hn : (atKey xs k).map (·.2) = none := RelO.none_of (by rw [l]; exact rel.val k)
    exact wpAny_getItem_missing_heap (tupleKind_room_in1 hu) (key_of I.hok eb) hd hh dd (Option.map_eq_none_iff.mp hn) fun h' ex ne => h h' ex _ ne
end 
end L2
end
section
set_option Elab.async false
set_option linter.all false
set_option maxRecDepth 100000
set_option maxHeartbeats 4000000
set_option autoImplicit false
namespace Sm
open PySem PySem.Spec PyProof.Rows L2
abbrev St := L2.St
section
variable {prog : Program} {w : World} {A : Around} {R : Result → Shared → Prop} {s : Shared}
theorem compLoop_own {elt target iter : Expr} {ifs : List Expr} {scope : Scope} {pos : Pos} {it acc : Value} {env : Env} (I : Nat → Shared → Prop)
    (turn : ∀ n s, I n s → wpAny (model prog w) A (pyNext it) (fun r s₁ => match r with
      | none => R (.ok .next) s₁
      | some v => wpAny (model prog w) A (letOwnedTupleGo target it v) (fun _ s₁' => wpAny (model prog w) A (assign target env v) (fun _ s₂ =>
          wpAny (model prog w) A (forIn ifs true fun c r => if r = true then do let ok ← isTrue c env (eval c env); pure (ForInStep.yield ok) else pure (ForInStep.yield r)) (fun ok s₃ =>
            if ok = true then wpAny (model prog w) A (eval elt env) (fun x s₄ =>
              wpAny (model prog w) A (call (.builtin "list.append") [acc, x]) (fun _ s₅ => ∃ m, m < n ∧ I m s₅) (fun _ _ => False) s₄) (fun _ _ => False) s₃
            else ∃ m, m < n ∧ I m s₃) (fun _ _ => False) s₂) (fun _ _ => False) s₁') (fun _ _ => False) s₁) (fun _ _ => False) s)
    (n : Nat) (h : I n s) : codeAny (model prog w) A (.compLoop (.ListComp elt [⟨target, iter, ifs, 0⟩] scope pos) 0 it acc env) R s := by
  refine codeAny_loop rfl I (fun n s hI => ?_) n h
  show wpAny _ A ((compTurn (.ListComp elt [⟨target, iter, ifs, 0⟩] scope pos) 0 it acc env).onRaise (fun x => do noteFrame x env; theTreesLotGoes x)) _ _ s
  refine wpAny_noted ?_
  rw [compTurn_list]
  refine wpAny_bind (wpAny_standAt (wpAny_bind (wpAny_mono (turn n s hI) (fun r s₁ h₁ => ?_) fun _ _ h' => h'.elim)))
  cases r with
  | none => exact wpAny_pure h₁
  | some v =>
    refine wpAny_bind (wpAny_mono h₁ (fun _ s₁' h₁' => ?_) fun _ _ h' => h'.elim)
    refine wpAny_bind (wpAny_mono h₁' (fun _ s₂ h₂ => wpAny_bind (wpAny_mono h₂ (fun ok s₃ h₃ => ?_) fun _ _ h' => h'.elim)) fun _ _ h' => h'.elim)
    cases ok with
    | false => exact wpAny_pure ⟨rfl, h₃⟩
    | true =>
      exact wpAny_bind (wpAny_bind (wpAny_mono h₃ (fun x s₄ h₄ => wpAny_bind (wpAny_mono h₄ (fun _ s₅ h₅ => wpAny_pure (wpAny_pure ⟨rfl, h₅⟩)) fun _ _ h' => h'.elim)) fun _ _ h' => h'.elim))
end
def blkCx (X : Cx) (s₃ : Shared) (H₃ : Hp) (scope : Scope) (cl : List (Str × Addr)) (N' : List Str) (fp : List Addr) : Cx :=
  { X with N := N', s₀ := s₃, H₀ := H₃, env := compEnvC scope cl s₃.heap.objs.size X.env, outer := X.stack, stack := X.stack, ex := fp, fn := fun _ => false, pn := [], xe := fun _ _ => False }
structure Blk (X X' : Cx) (N' : List Str) (sc' : Scope) : Prop where
  prog : X'.prog = X.prog
  w : X'.w = X.w
  K : X'.K = X.K
  mg : X'.mg = X.mg
  base : X'.base = X.base
  A : X'.A = X.A
  calm : X'.calm = X.calm
  N : X'.N = N'
  sc : X'.env.scope = sc'
  xe : X'.xe = fun _ _ => False
structure Clos (X : Cx) (scope : Scope) (cl : List (Str × Addr)) : Prop where
  clo : closureFor scope X.env = pure cl
  sub : ∀ x c, cl.lookup x = some c → X.env.cells.lookup x = some c
  has : ∀ x, (relabel scope X.env).names.lookup x = some .cell ∨ (relabel scope X.env).names.lookup x = some .free → ∃ c, cl.lookup x = some c
section
variable {X : Cx} {pins : List (Addr × Obj)} {σ : St} {H : Hp} {s₃ : Shared}
theorem blk_ok {scope : Scope} {cl : List (Str × Addr)} {N' : List Str} {fp : List Addr} (I : Inv X pins σ H s₃) (hk : scope.kind = .function) (C : Clos X scope cl) (hfp : ∀ b ∈ fp, FpOk X pins H b) (hlt : ∀ b ∈ fp, b < s₃.heap.objs.size) :
    (blkCx X s₃ H scope cl N' fp).Ok where
  mod := I.ok.mod
  kind := hk
  glob := I.ok.glob
  blt := I.ok.blt
  above := Nat.le_refl _
  inj := fun x y c h1 h2 => I.ok.inj x y c (C.sub x c h1) (C.sub y c h2)
  has := fun x h => C.has x h
  cab := fun x c h => nomatch h
  hd := I.ok.hd
  frames := I.ok.frames
  stk := .inl rfl
  exf := fun b hb => ⟨Nat.ne_of_lt (hlt b hb), fun x c h => (hfp b hb).2.2.2.2.1 x c (C.sub x c h)⟩
  bs := fun b o e => I.bs b o e
  bsz := Nat.le_trans I.ok.bsz I.sz
  noex := fun b o e hb => by
    rcases (hfp b hb).2.2.2.1 with z | z
    · exact I.ok.noex b o e z
    · exact absurd (Nat.lt_of_lt_of_le (Heap.lt_size e) (Nat.le_trans I.ok.bsz z)) (Nat.lt_irrefl _)
  exfs := fun b hb z => by
    rcases List.mem_cons.mp (I.stkSub b z) with q | q
    · exact (hfp b hb).2.1 q
    · exact (hfp b hb).2.2.1 q
  funs := I.stack
  frf := I.stkFree
def capS (σ : St) (cap : List Nat) : St := cap.map fun j => σ[j]?.join
theorem blk_inv {scope : Scope} {cl : List (Str × Addr)} {xs : List Str} {cap : List Nat} {capN : List Str} {fp : List Addr} {h₁ : Heap} {tk : Nat} (I : Inv X pins σ H s₃) (hk : scope.kind = .function) (C : Clos X scope cl) (hfp : ∀ b ∈ fp, FpOk X pins H b) (hlt : ∀ b ∈ fp, b < s₃.heap.objs.size)
    (hcap : cap.map (fun j => X.N[j]?) = capN.map some) (hcl : ∀ x ∈ capN, (relabel scope X.env).names.lookup x = some .cell ∨ (relabel scope X.env).names.lookup x = some .free)
    (hvis : ∀ x ∈ capN, X.env.scope.names.lookup x = some .cell ∨ X.env.scope.names.lookup x = some .free) {m : Str → Option Value}
    (hns : h₁.Ns s₃.heap.objs.size m) (old : ∀ b o, s₃.heap.get? b = some o → h₁.get? b = some o) :
    Inv (blkCx X s₃ H scope cl (xs ++ capN) fp) [] (xs.map (fun _ => none) ++ capS σ cap) H { s₃ with heap := h₁, toks := tk } := by
  have hlen : cap.length = capN.length := by simpa using congrArg List.length hcap
  refine ⟨blk_ok I hk C hfp hlt, rfl, I.bare, Un.kept old, ⟨m, hns, fun i x v e1 e2 e3 => ?_⟩, fun x c e => ?_, I.hok.fresh (Nat.le_refl _), fun x c e => I.freeC x c (C.sub x c e), fun p hp => absurd (show p ∈ ([] : List (Addr × Obj)) from hp) (by simp), I.hok.kept old, ?_⟩
  · have e1' : (xs ++ capN)[i]? = some x := e1
    by_cases hi : i < xs.length
    · rw [List.getElem?_append_left (by simpa using hi), List.getElem?_map] at e2
      cases q : xs[i]? with
      | none => rw [q] at e2; cases e2
      | some z => rw [q] at e2; cases e2
    · rw [List.getElem?_append_right (by simpa using hi)] at e2
      rw [List.getElem?_append_right (by omega)] at e1'
      rw [List.length_map] at e2
      generalize i - xs.length = j at e1' e2
      unfold capS at e2
      rw [List.getElem?_map] at e2
      have hc : (cap.map (fun j => X.N[j]?))[j]? = some (some x) := by rw [hcap, List.getElem?_map, e1']; rfl
      rw [List.getElem?_map] at hc
      cases q : cap[j]? with
      | none => rw [q] at e2; cases e2
      | some k =>
        rw [q] at e2 hc
        simp only [Option.map_some] at e2 hc
        have hc' : X.N[k]? = some x := Option.some.inj hc
        have hs : σ[k]? = some (some v) := by
          cases z : σ[k]? with
          | none => rw [z] at e2; cases e2
          | some z' => rw [z] at e2; cases z' with
            | none => cases e2
            | some z'' => cases e2; rfl
        have hx : x ∈ capN := List.mem_of_getElem? e1'
        obtain ⟨m', hm', hl'⟩ := I.loc
        obtain ⟨u, r, l⟩ := hl' k x v hc' hs (by rcases hvis x hx with z | z; exact .inr (.inl z); exact .inr (.inr z))
        refine ⟨u, r, .inr ⟨hcl x hx, ?_⟩⟩
        obtain ⟨c, hcc⟩ := C.has x (hcl x hx)
        refine ⟨c, hcc, ?_⟩
        rcases l with ⟨z, _⟩ | ⟨_, c', e', z⟩
        · have z' : X.env.scope.names.lookup x = some .local := z
          rcases hvis x hx with y | y <;> (rw [z'] at y; cases y)
        · rw [C.sub x c hcc] at e'; cases e'
          obtain ⟨o, ho, hd⟩ := z
          exact ⟨o, old _ _ ho, hd⟩
  · obtain ⟨v, o, ho, hd⟩ := I.cell x c (C.sub x c e)
    exact ⟨v, o, old _ _ ho, hd⟩
  · show (xs.map (fun _ => none) ++ capS σ cap).length = (xs ++ capN).length
    unfold capS
    rw [List.length_append, List.length_append, List.length_map, List.length_map, hlen]
end
def Wk (σ1 σ2 : St) : Prop := σ1.length = σ2.length ∧ ∀ (i : Nat) v, σ1[i]? = some (some v) → σ2[i]? = some (some v)
def tComp (wi : TI) (σb : St → St) (g : TG) (tt : TT) (te : TE) : TE := fun σ H Q => wi σ H fun J H1 => ∀ D, H1 D = none → ∃ W : Nat → Nat → Hp → Prop, (∃ m, W 0 m (upd H1 D (.lst []))) ∧ ∀ i m H, W i m H →
  (J.stop i H ∧ Q (.ref D) H) ∨ (J.go i H ∧ ∃ N : Hp → Prop, (∀ H', N H' → ∃ m', m' < m ∧ W (i + 1) m' H') ∧ ∀ x H', J.yld i H x H' → g x (σb σ) H' fun σ2 H2 => Wk (σb σ) σ2 ∧ tt σ2 H2 fun b H3 =>
    if b = true then te σ2 H3 fun y H4 => ∃ acc, H4 D = some (.lst acc) ∧ acc.length < sizeLine ∧ N (upd H4 D (.lst (acc ++ [y]))) else N H3)
def PTs (X : Cx) (ifs : List Expr) (t : TT) : Prop :=
  ∀ (pins : List (Addr × Obj)) (s : Shared) (σ : St) (H : Hp) (Q : Bool → Hp → Prop), Inv X pins σ H s → t σ H Q →
    wpAny (model X.prog X.w) X.A (forIn ifs true fun c r => if r = true then do let ok ← isTrue c X.env (eval c X.env); pure (ForInStep.yield ok) else pure (ForInStep.yield r)) (TP X pins σ Q) X.xe s
theorem pts_nil {X : Cx} : PTs X [] (fun _ H Q => Q true H) := fun _ _ _ H _ I h => wpAny_tests_nil ⟨H, I, h⟩
theorem pts_one {X : Cx} {c : Expr} {t : TT} (h : PT X c t) : PTs X [c] t := fun pins s σ H Q I q => wpAny_tests_one (h pins s σ H Q I q)
structure CompFacts (X : Cx) (scope : Scope) (xs capN : List Str) (cap : List Nat) : Prop where
  kind : scope.kind = .function
  nocell : ∀ y ∈ scope.names, y.2 ≠ .cell
  names : ∀ y ∈ scope.names, y.2 = .local → scope.names.lookup y.1 = some .local
  clos : ∃ cl, Clos X scope cl
  hcap : cap.map (fun j => X.N[j]?) = capN.map some
  hcl : ∀ x ∈ capN, (relabel scope X.env).names.lookup x = some .cell ∨ (relabel scope X.env).names.lookup x = some .free
  hvis : ∀ x ∈ capN, X.env.scope.names.lookup x = some .cell ∨ X.env.scope.names.lookup x = some .free
section
variable {X : Cx} {tg elt iter : Expr} {ifs : List Expr} {scope : Scope} {pos : Pos} {wi : TI} {g : TG} {tt : TT} {te : TE} {xs capN : List Str} {cap : List Nat}
theorem comp_run {use : Option (Value → Sem Unit)} {Q : Value → Shared → Prop} {QQ : VK} (hc : X.calm = true) (F : CompFacts X scope xs capN cap) (hi : PI X tg iter wi)
    (hg : ∀ X', Blk X X' (xs ++ capN) (relabel scope X.env) → PG X' tg g) (ht : ∀ X', Blk X X' (xs ++ capN) (relabel scope X.env) → PTs X' ifs tt) (he : ∀ X', Blk X X' (xs ++ capN) (relabel scope X.env) → PE X' elt te)
    (hs : ∀ x, foldedSetIterable iter X.env x = pure x)
    {pins : List (Addr × Obj)} {s : Shared} {σ : St} {H : Hp} (I : Inv X pins σ H s) (h : tComp wi (fun σ => xs.map (fun _ => none) ++ capS σ cap) g tt te σ H QQ) {ps : Pos}
    (fin : ∀ (s' : Shared) (H' : Hp) (D C : Addr) (m : Str → Option Value), Inv X pins σ H' s' → s'.heap.Ns C m → (H' C = none ∧ X.s₀.heap.objs.size ≤ C ∧ C ≠ X.env.locals ∧ (∀ x c, X.env.cells.lookup x = some c → c ≠ C) ∧ ∀ p ∈ X.pn ++ pins, p.1 ≠ C) →
      QQ (.ref D) H' → compPost (model X.prog X.w) X.A X.xe use Q (.ref D) C (.ok .next) s') :
    wpAny (model X.prog X.w) X.A (comprehension (.ListComp elt [⟨tg, iter, ifs, 0⟩] scope pos) scope X.env ps (newList []) false (eval iter X.env) use) Q X.xe s := by
  obtain ⟨cl, C⟩ := F.clos
  refine wpAny_comprehension_free rfl hs C.clo F.kind F.names (thn (hi pins s σ H _ I h) fun v s1 h1 => thn h1 fun itv s2 h2 => ?_)
  obtain ⟨it, fp, tn, J, H2, e, I2, T, st2, f2, h3⟩ := h2
  subst e
  refine wpAny_newObj_type ?_
  -- the list
  obtain ⟨W, ⟨m0, w0⟩, turn⟩ := h3 s2.heap.objs.size I2.fresh
  have I3 : Inv X pins σ (upd H2 s2.heap.objs.size (.lst [])) { s2 with heap := s2.heap.push { cls := .type "list", dict := none, data := .seq ([] : List Value).toArray } } := I2.lnew (t' := s2.toks) .nil (Nat.zero_le _)
  generalize hH3 : upd H2 s2.heap.objs.size (HO.lst []) = H3 at I3 w0
  generalize hs3 : ({ s2 with heap := s2.heap.push { cls := .type "list", dict := none, data := .seq ([] : List Value).toArray } } : Shared) = s3 at I3
  have hD3 : H3 s2.heap.objs.size = some (.lst []) := by rw [← hH3]; exact upd_same
  have kp3 : ∀ b o, s2.heap.get? b = some o → s3.heap.get? b = some o := fun b o e => by rw [← hs3]; exact Heap.get?_push_of_some _ e
  have hDlt : s2.heap.objs.size < s3.heap.objs.size := by rw [← hs3]; show _ < (s2.heap.push _).objs.size; rw [Heap.size_push]; exact Nat.lt_succ_self _
  have flt : ∀ b ∈ fp, b < s2.heap.objs.size := fun b hb => by
    obtain ⟨o, e, _⟩ := T.obj 0 _ st2 b hb
    exact Heap.lt_size e
  have flt3 : ∀ b ∈ fp, b < s3.heap.objs.size := fun b hb => Nat.lt_trans (flt b hb) hDlt
  have f3 : ∀ b ∈ fp, FpOk X pins H3 b := fun b hb => ⟨by rw [← hH3, upd_ne (Nat.ne_of_lt (flt b hb))]; exact (f2 b hb).1, (f2 b hb).2⟩
  have st3 : tn 0 s3.heap := T.keep 0 _ _ st2 fun b hb o e => kp3 b o e
  show wpAny _ _ (newFunctionEnv scope X.env.globals cl [] X.env.qual none .none (some X.env)) _ _ s3
  refine wpAny_newFunctionEnv F.nocell (by intro y hy; simp at hy) (fun h₁ hns₁ hsb₁ => ?_) F.kind
  have old : ∀ b o, s3.heap.get? b = some o → h₁.get? b = some o := fun b o e => hsb₁.extBut b o (Nat.ne_of_lt (Heap.lt_size e)) (Heap.get?_push_of_some _ e)
  have B : Blk X (blkCx X s3 H3 scope cl (xs ++ capN) fp) (xs ++ capN) (relabel scope X.env) := ⟨rfl, rfl, rfl, rfl, rfl, rfl, rfl, rfl, rfl, rfl⟩
  have J0 : Inv (blkCx X s3 H3 scope cl (xs ++ capN) fp) [] (xs.map (fun _ => none) ++ capS σ cap) H3 { s3 with heap := h₁, toks := s3.toks + ([] : List (Str × Value)).length } :=
    blk_inv I3 F.kind C f3 flt3 F.hcap F.hcl F.hvis hns₁ old
  have st4 : tn 0 h₁ := T.keep 0 _ _ st3 fun b hb o e => old b o e
  have hg' := hg _ B
  have ht' := ht _ B
  have he' := he _ B
  generalize hX' : blkCx X s3 H3 scope cl (xs ++ capN) fp = X' at B J0 hg' ht' he'
  have hex : X'.ex = fp := by rw [← hX']; rfl
  have hloc : X'.env.locals = s3.heap.objs.size := by rw [← hX']; rfl
  have henv : X'.env = compEnvC scope cl s3.heap.objs.size X.env := by rw [← hX']; rfl
  have hpn : X'.pn = [] := by rw [← hX']; rfl
  have hxe : X'.xe = fun _ _ => False := by rw [← hX']; rfl
  have hH0 : X'.H₀ = H3 := by rw [← hX']; rfl
  have hs0 : X'.s₀ = s3 := by rw [← hX']; rfl
  have hfs : X'.fs = frs X.stack := by rw [← hX']; rfl
  have hP : X'.prog = X.prog := B.prog
  have hw : X'.w = X.w := B.w
  have hA : X'.A = X.A := B.A
  have nfs : ∀ b ∈ fp, b ∉ X'.fs := fun b hb z => J0.ok.exfs b (by rw [hex]; exact hb) z
  have stat : ∀ {pn' : List (Addr × Obj)} {H' : Hp}, (∀ b ∈ fp, H' b = none) → (∀ p ∈ pn', p.1 ∉ fp) → ∀ b ∈ fp, FpOk X' pn' H' b := fun {pn' H'} hn hp b hb =>
    ⟨hn b hb, by rw [hloc]; exact Nat.ne_of_lt (flt3 b hb), nfs b hb, .inl (by rw [hex]; exact hb), fun x c e => (J0.ok.exf b (by rw [hex]; exact hb)).2 x c e, fun p hp' z => by
      rw [hpn, List.nil_append] at hp'
      exact hp p hp' (z ▸ hb)⟩
  -- what the loop keeps
  have loop : ∀ s₀' : Shared, Inv X' [] (xs.map (fun _ => none) ++ capS σ cap) H3 s₀' → tn 0 s₀'.heap →
      codeAny (model X.prog X.w) X.A (.compLoop (.ListComp elt [⟨tg, iter, ifs, 0⟩] scope pos) 0 (.ref it) (.ref s2.heap.objs.size) X'.env) (compPost (model X.prog X.w) X.A X.xe use Q (.ref s2.heap.objs.size) s3.heap.objs.size) s₀' := by
    intro s₀' J1 st5
    refine compLoop_own (fun n s' => ∃ i H', Inv X' [] (xs.map (fun _ => none) ++ capS σ cap) H' s' ∧ tn i s'.heap ∧ (∀ b ∈ fp, H' b = none) ∧ W i n H') ?_ m0 ⟨0, H3, J1, st5, fun b hb => (f3 b hb).1, w0⟩
    rintro n s4 ⟨i, H4, J4, st4, fr4, w4⟩
    rcases turn i n H4 w4 with ⟨stop, qn⟩ | ⟨go, N, hN, step⟩
    · have hd := T.done X' B.prog B.w B.K (B.calm.trans hc) i [] s4 _ H4 (fun _ _ => False) J4 (stat fr4 (by simp)) st4 stop
      rw [hA] at hd
      refine thn hd fun r s5 ⟨hr, J5⟩ => ?_
      subst hr
      have un : Un (frs X.stack) fp H3 H4 s3.heap s5.heap := by
        have := J5.base
        rw [hfs, hex, hH0, hs0] at this
        exact this
      have ho : s5.os = s3.os := by rw [J5.os, hs0]
      have hok5 : HOk X.prog X.w H4 s5.heap := by have := J5.hok; rw [hP, hw] at this; exact this
      have I5 : Inv X pins σ H4 s5 := I3.call' ho un hok5 J5.bare fun b hb => ⟨(f3 b hb).2.2.2.1, (f3 b hb).2.1, (f3 b hb).2.2.2.2.1, (f3 b hb).2.2.2.2.2⟩
      obtain ⟨m5, hm5, _⟩ := J5.loc
      rw [hloc] at hm5
      refine fin s5 H4 _ s3.heap.objs.size m5 I5 hm5 ⟨by have := J5.free; rw [hloc] at this; exact this, I3.sz, Nat.ne_of_gt I3.lt, fun x c e z => ?_, fun p hp z => ?_⟩ qn
      · obtain ⟨v, q⟩ := I3.cell x c e
        exact absurd q.lt (by rw [z]; exact Nat.lt_irrefl _)
      · exact absurd (Heap.lt_size (I3.pin p hp).1) (by rw [z]; exact Nat.lt_irrefl _)
    · have hd := T.item X' B.prog B.w B.K (B.calm.trans hc) i [] s4 _ H4 (fun _ _ => False) J4 (stat fr4 (by simp)) st4 go
      rw [hA] at hd
      refine thn hd fun r s5 ⟨u, hr, h5⟩ => ?_
      subst hr
      refine thn h5 fun _ s6 ⟨x, H6, J6, r6, y6, st6, fr6⟩ => ?_
      have J6' := J6.pinned (stat fr6 (by simp)) (T.obj _ _ st6)
      rw [List.nil_append] at J6'
      have hgx := hg' _ s6 _ H6 x u _ J6' r6 (step x H6 y6)
      rw [hP, hw, hA, hxe] at hgx
      refine thn hgx fun _ s7 ⟨σ7, H7, J7, wk7, q7⟩ => ?_
      have htx := ht' _ s7 σ7 H7 _ J7 q7
      rw [hP, hw, hA, hxe] at htx
      refine thn htx fun ok s8 ⟨H8, J8, q8⟩ => ?_
      have again : ∀ {H9 : Hp} {s9 : Shared}, Inv X' (pinsAt fp s6.heap) σ7 H9 s9 → N H9 → (∃ m, m < n ∧ ∃ i H', Inv X' [] (xs.map (fun _ => none) ++ capS σ cap) H' s9 ∧ tn i s9.heap ∧ (∀ b ∈ fp, H' b = none) ∧ W i m H') := fun {H9 s9} J9 n9 => by
        obtain ⟨m', hm, w9⟩ := hN H9 n9
        have pin9 : ∀ b ∈ fp, ∀ o, s6.heap.get? b = some o → s9.heap.get? b = some o ∧ H9 b = none := fun b hb o e => by
          have := J9.pin (b, o) (List.mem_append_right _ (mem_pinsAt hb e))
          exact ⟨this.1, this.2.1⟩
        refine ⟨m', hm, i + 1, H9, (J9.weak wk7.1 wk7.2).pins_of (fun p hp => nomatch hp), T.keep _ _ _ st6 fun b hb o e => (pin9 b hb o e).1, fun b hb => ?_, w9⟩
        obtain ⟨o, e, d⟩ := T.obj _ _ st6 b hb
        exact (pin9 b hb o e).2
      cases ok with
      | false =>
        rw [if_neg (by decide)] at q8 ⊢
        exact again J8 q8
      | true =>
        rw [if_pos rfl] at q8 ⊢
        have hex := he' _ s8 σ7 H8 _ J8 q8
        rw [hP, hw, hA, hxe] at hex
        refine thn hex fun y s9 ⟨x9, H9, J9, r9, acc, ha, hz, n9⟩ => ?_
        have hap := mt_append (X := X') _ s9 σ7 H9 (.ref s2.heap.objs.size) [x9] (.ref s2.heap.objs.size) [y] (fun _ H' => N H') J9 rfl (.cons r9 .nil) ⟨_, acc, x9, rfl, rfl, ha, hz, n9⟩
        rw [hP, hw, hA, hxe] at hap
        exact thn hap fun _ s10 ⟨_, H10, J10, _, n10⟩ => again J10 n10
  have e0 : ({ (newEnv scope s3.heap.objs.size X.env.globals cl X.env.qual none .none (some X.env) builtinsNs : Env) with scope := relabel scope X.env } : Env) = X'.env := by rw [henv]; rfl
  have e1 : (newEnv scope s3.heap.objs.size X.env.globals cl X.env.qual none .none (some X.env) builtinsNs : Env).locals = s3.heap.objs.size := rfl
  show codeAny _ _ (.compStart _ 0 (.ref it) (.ref s2.heap.objs.size) ({ (newEnv scope s3.heap.objs.size X.env.globals cl X.env.qual none .none (some X.env) builtinsNs : Env) with scope := relabel scope X.env } : Env)) (compPost _ _ _ _ _ _ s3.heap.objs.size) _
  rw [e0]
  exact codeAny_compStart_list (loop _ J0 st4) (T.self _ 0 _ _ _ st4 (loop _ J0 st4))
theorem pe_comp (hc : X.calm = true) (F : X.Ok → CompFacts X scope xs capN cap) (hi : PI X tg iter wi)
    (hg : ∀ X', Blk X X' (xs ++ capN) (relabel scope X.env) → PG X' tg g) (ht : ∀ X', Blk X X' (xs ++ capN) (relabel scope X.env) → PTs X' ifs tt) (he : ∀ X', Blk X X' (xs ++ capN) (relabel scope X.env) → PE X' elt te)
    (hs : ∀ x, foldedSetIterable iter X.env x = pure x := by intro _; rfl) : PE X (.ListComp elt [⟨tg, iter, ifs, 0⟩] scope pos) (tComp wi (fun σ => xs.map (fun _ => none) ++ capS σ cap) g tt te) := by
  intro pins s σ H Q I h
  rw [eval_ListComp]
  refine comp_run (use := none) hc (F I.ok) hi hg ht he hs I h fun s' H' D C m I' hm ⟨c1, c2, c3, c4, c5⟩ q => ?_
  refine ⟨m, hm, fun h' sb => ?_⟩
  exact ⟨.ref D, H', I'.turned (t' := s'.toks) (fun b o hb e => (sb.2 b hb).trans e) c1 c3 (.inr c2) c4 c5, rfl, q⟩
theorem ps_setComp {i : Nat} {y : Str} {py spos : Pos} (hc : X.calm = true) (F : X.Ok → CompFacts X scope xs capN cap) (hi : PI X tg iter wi)
    (hg : ∀ X', Blk X X' (xs ++ capN) (relabel scope X.env) → PG X' tg g) (ht : ∀ X', Blk X X' (xs ++ capN) (relabel scope X.env) → PTs X' ifs tt) (he : ∀ X', Blk X X' (xs ++ capN) (relabel scope X.env) → PE X' elt te)
    (hN : X.N.Nodup) (hy : X.N[i]? = some y) (hl : X.env.scope.names.lookup y = some .local) (hsw : swapsWith (.ListComp elt [⟨tg, iter, ifs, 0⟩] scope pos) (some (.Name y py)) spos.line X.env = pure true)
    (hs : ∀ x, foldedSetIterable iter X.env x = pure x := by intro _; rfl) : PS X (.Assign [.Name y py] (.ListComp elt [⟨tg, iter, ifs, 0⟩] scope pos) spos) (tAsg (tComp wi (fun σ => xs.map (fun _ => none) ++ capS σ cap) g tt te) (gName i)) := by
  intro pins s σ H D0 I h
  rw [exec_Assign_Name_used _ _ _ _ hsw]
  refine wpAny_bind (wpAny_standAt (wpAny_bind ?_))
  show wpAny _ _ (do let _ ← comprehension (.ListComp elt [⟨tg, iter, ifs, 0⟩] scope pos) scope X.env _ (newList []) false (eval iter X.env) (some (assign (.Name y py) X.env))) _ _ s
  refine wpAny_bind (wpAny_mono (comp_run (use := some (assign (.Name y py) X.env)) (Q := fun _ s' => SP X pins D0 .next s') hc (F I.ok) hi hg ht he hs I h fun s' H' D C m I' hm ⟨c1, c2, c3, c4, c5⟩ q => ?_) (fun _ s' hq => wpAny_pure (wpAny_pure hq)) fun _ _ e => e)
  show wpAny _ _ (assign (.Name y py) X.env (.ref D)) _ _ s'
  refine wpAny_assign_Name (store_ok2 I' hN hy (.inl hl) (v := .ref D) rfl (fun s'' I'' ⟨a, sa, ea⟩ => ?_) (.inr hl))
  have haC : a ≠ C := by
    rcases ea with z | z
    · rw [z]; exact Ne.symm c3
    · exact c4 _ _ z
  refine ⟨m, hm.sameBut sa (Ne.symm haC), fun h' sb => ?_⟩
  exact ⟨_, H', I''.turned (t' := s''.toks) (fun b o hb e => (sb.2 b hb).trans e) c1 c3 (.inr c2) c4 c5, q⟩
end
end Sm
end
section
set_option Elab.async false
set_option linter.all false
set_option maxRecDepth 100000
set_option maxHeartbeats 4000000
set_option autoImplicit false
namespace Sm
open PySem PySem.Spec PyProof.Rows L2
inductive Res (α : Type) where
  | ok (a : α)
  | exc (c : Str)
  | no
def Res.bind {α β : Type} : Res α → (α → Res β) → Res β
  | .ok a, k => k a
  | .exc c, _ => .exc c
  | .no, _ => .no
def ofO {α : Type} : Option α → Res α
  | some a => .ok a
  | none => .no
inductive Sl where
  | un
  | sh (d : PyData)
  | ow (d : PyData)
abbrev Dn := List Sl
mutual
def Rep (G : Hp) : PyData → V → Prop
  | .none, v => v = .non
  | .bool b, v => v = .bl b
  | .int i, v => v = .int i
  | .str x, v => v = .str x ∧ PyData.strOk x = true ∧ x.length ≤ sizeLine
  | .list ds, v => ∃ a xs, v = .ref a ∧ Rd G a (.lst xs) ∧ RepL G ds xs
  | .tuple ds, v => ∃ a xs, v = .ref a ∧ G a = some (.tup xs) ∧ RepL G ds xs
  | .dict _, _ => False
def RepL (G : Hp) : List PyData → List V → Prop
  | [], xs => xs = []
  | d :: ds, xs => ∃ x r, xs = x :: r ∧ Rep G d x ∧ RepL G ds r
end
theorem Rd.mono {G G' : Hp} (h : Same G G') {a : Addr} {u : HO} (r : Rd G a u) : Rd G' a u := by
  rcases r with r | ⟨o, r⟩
  · exact .inl (h _ _ r)
  · exact .inr ⟨o, h _ _ r⟩
mutual
theorem Rep.mono {G G' : Hp} (h : Same G G') : ∀ {d : PyData} {v : V}, Rep G d v → Rep G' d v
  | .none, _, r => r
  | .bool _, _, r => r
  | .int _, _, r => r
  | .str _, _, r => r
  | .list _, _, r => by obtain ⟨a, xs, e, q, l⟩ := r; exact ⟨a, xs, e, Rd.mono h q, RepL.mono h l⟩
  | .tuple _, _, r => by obtain ⟨a, xs, e, q, l⟩ := r; exact ⟨a, xs, e, h _ _ q, RepL.mono h l⟩
  | .dict _, _, r => r.elim
theorem RepL.mono {G G' : Hp} (h : Same G G') : ∀ {ds : List PyData} {xs : List V}, RepL G ds xs → RepL G' ds xs
  | [], _, r => r
  | _ :: _, _, r => by obtain ⟨x, t, e, q, l⟩ := r; exact ⟨x, t, e, Rep.mono h q, RepL.mono h l⟩
end
mutual
theorem Rep.lay {G : Hp} : ∀ {d : PyData} {v : V}, Rep G d v → d.canLay0 = true
  | .none, _, r => rfl
  | .bool _, _, r => rfl
  | .int _, _, r => rfl
  | .str _, _, r => r.2.1
  | .list _, _, r => by obtain ⟨a, xs, e, q, l⟩ := r; exact RepL.lay l
  | .tuple _, _, r => by obtain ⟨a, xs, e, q, l⟩ := r; exact RepL.lay l
  | .dict _, _, r => r.elim
theorem RepL.lay {G : Hp} : ∀ {ds : List PyData} {xs : List V}, RepL G ds xs → PyData.canLayAll0 ds = true
  | [], _, r => rfl
  | _ :: _, _, r => by
    obtain ⟨x, t, e, q, l⟩ := r
    rw [PyData.canLayAll0, Rep.lay q, RepL.lay l]; rfl
end
section
variable {G : Hp}
theorem RepL.nil : RepL G [] [] := rfl
theorem RepL.cons {d : PyData} {ds : List PyData} {x : V} {xs : List V} (h : Rep G d x) (t : RepL G ds xs) : RepL G (d :: ds) (x :: xs) := ⟨x, xs, rfl, h, t⟩
theorem RepL.length : ∀ {ds : List PyData} {xs : List V}, RepL G ds xs → ds.length = xs.length
  | [], _, r => by cases (show _ = _ from r); rfl
  | d :: ds, _, r => by obtain ⟨x, t, rfl, q, l⟩ := r; simp [RepL.length l]
theorem RepL.get : ∀ {ds : List PyData} {xs : List V} {i : Nat} {d : PyData}, RepL G ds xs → ds[i]? = some d → ∃ x, xs[i]? = some x ∧ Rep G d x
  | [], _, _, _, _, e => by simp at e
  | d :: ds, _, 0, _, r, e => by obtain ⟨x, t, rfl, q, l⟩ := r; simp at e; subst e; exact ⟨x, rfl, q⟩
  | d :: ds, _, i + 1, _, r, e => by
    obtain ⟨x, t, rfl, q, l⟩ := r
    obtain ⟨y, h1, h2⟩ := RepL.get (i := i) l (by simpa using e)
    exact ⟨y, by simpa using h1, h2⟩
theorem RepL.append : ∀ {ds es : List PyData} {xs ys : List V}, RepL G ds xs → RepL G es ys → RepL G (ds ++ es) (xs ++ ys)
  | [], _, _, _, r, q => by cases (show _ = _ from r); exact q
  | d :: ds, _, _, _, r, q => by obtain ⟨x, t, rfl, h, l⟩ := r; exact RepL.cons h (RepL.append l q)
theorem RepL.drop : ∀ (n : Nat) {ds : List PyData} {xs : List V}, RepL G ds xs → RepL G (ds.drop n) (xs.drop n)
  | 0, _, _, r => r
  | _ + 1, [], _, r => by cases (show _ = _ from r); exact rfl
  | n + 1, d :: ds, _, r => by obtain ⟨x, t, rfl, h, l⟩ := r; exact RepL.drop n l
theorem RepL.take : ∀ (n : Nat) {ds : List PyData} {xs : List V}, RepL G ds xs → RepL G (ds.take n) (xs.take n)
  | 0, _, _, r => rfl
  | _ + 1, [], _, r => by cases (show _ = _ from r); exact rfl
  | n + 1, d :: ds, _, r => by obtain ⟨x, t, rfl, h, l⟩ := r; exact RepL.cons h (RepL.take n l)
theorem RepL.reverse {ds : List PyData} {xs : List V} (r : RepL G ds xs) : RepL G ds.reverse xs.reverse := by
  induction ds generalizing xs with
  | nil => cases (show _ = _ from r); exact rfl
  | cons d ds ih =>
    obtain ⟨x, t, rfl, h, l⟩ := r
    rw [List.reverse_cons, List.reverse_cons]
    exact RepL.append (ih l) (RepL.cons h RepL.nil)
theorem RepL.rep {ds : List PyData} {xs : List V} (r : RepL G ds xs) : ∀ k : Nat, RepL G (List.replicate k ds).flatten (List.replicate k xs).flatten
  | 0 => rfl
  | k + 1 => by
    rw [List.replicate_succ, List.replicate_succ, List.flatten_cons, List.flatten_cons]
    exact RepL.append r (RepL.rep r k)
theorem RepL.ints (ns : List Int) : RepL G (ns.map PyData.int) (ns.map V.int) := by
  induction ns with
  | nil => exact rfl
  | cons n ns ih => exact RepL.cons rfl ih
theorem RepL.dropLast {ds : List PyData} {xs : List V} (r : RepL G ds xs) : RepL G ds.dropLast xs.dropLast := by
  rw [List.dropLast_eq_take, List.dropLast_eq_take, r.length]
  exact RepL.take _ r
theorem RepL.inv_nil {xs : List V} (r : RepL G [] xs) : xs = [] := r
theorem RepL.inv_cons {d : PyData} {ds : List PyData} {xs : List V} (r : RepL G (d :: ds) xs) : ∃ x t, xs = x :: t ∧ Rep G d x ∧ RepL G ds t := r
end
structure Grow (G H G' H' : Hp) : Prop where
  g : Same G G'
  h : Same H H'
  gh : Same G' H'
  fr : ∀ b o, G' b = some o → G b = some o ∨ H b = none
theorem Grow.refl {G H : Hp} (h : Same G H) : Grow G H G H := ⟨Same.refl _, Same.refl _, h, fun _ _ e => .inl e⟩
theorem Grow.trans {G H G1 H1 G2 H2 : Hp} (a : Grow G H G1 H1) (b : Grow G1 H1 G2 H2) : Grow G H G2 H2 :=
  ⟨a.g.trans b.g, a.h.trans b.h, b.gh, fun c o e => by
    rcases b.fr c o e with q | q
    · exact a.fr c o q
    · exact .inr (a.h.free q)⟩
theorem Same.upd {H : Hp} {p : Addr} {o : HO} (h : H p = none) : Same H (upd H p o) := fun b u e => by
  rw [upd_ne (ne_of_none e h)]; exact e
theorem Grow.new {G H : Hp} {p : Addr} {o : HO} (s : Same G H) (h : H p = none) : Grow G H (upd G p o) (upd H p o) := by
  have hg : G p = none := s.free h
  refine ⟨Same.upd hg, Same.upd h, fun b u e => ?_, fun b u e => ?_⟩
  · by_cases hb : b = p
    · subst hb; rw [upd_same] at e ⊢; exact e
    · rw [upd_ne hb] at e ⊢; exact s _ _ e
  · by_cases hb : b = p
    · subst hb; exact .inr h
    · rw [upd_ne hb] at e; exact .inl e
theorem Grow.own {G H : Hp} {p : Addr} {o : HO} (s : Same G H) (h : H p = none) : Grow G H G (upd H p o) :=
  ⟨Same.refl _, Same.upd h, s.trans (Same.upd h), fun _ _ e => .inl e⟩
def keyD : Key → PyData
  | .inl i => .int i
  | .inr x => .str x
def liftK (kk : List (Key × V)) : List (List Key × V) := kk.map fun p => ([p.1], p.2)
def OwnK (G H : Hp) (a : Addr) : List PyData → Prop
  | [.dict kvs] => ∃ kk : List (Key × V), H a = some (.dK kk) ∧ kvs.map (·.1) = (liftK kk).map (fun p => PyData.tuple (p.1.map keyD)) ∧ RepL G (kvs.map (·.2)) ((liftK kk).map (·.2))
  | _ => False
theorem OwnK.keep {G G' H H' : Hp} {a : Addr} {xs : List PyData} (g : Same G G') (e : ∀ o, H a = some o → H' a = some o) (h : OwnK G H a xs) : OwnK G' H' a xs := by
  unfold OwnK at h ⊢
  split at h
  · obtain ⟨kk, h1, h2, h3⟩ := h
    exact ⟨kk, e _ h1, h2, h3.mono g⟩
  · exact h.elim
theorem OwnK.is {G H : Hp} {a : Addr} {xs : List PyData} (h : OwnK G H a xs) : ∃ o, H a = .some o := by
  unfold OwnK at h
  split at h
  · obtain ⟨kk, h1, _⟩ := h
    exact ⟨_, h1⟩
  · exact h.elim
def OwnOk (G H : Hp) (a : Addr) : PyData → Prop
  | .list ds => ∃ xs, H a = some (.lst xs) ∧ RepL G ds xs
  | .dict kvs => ∃ kk : List (List Key × V), H a = some (.dT kk) ∧ kvs.map (·.1) = kk.map (fun p => PyData.tuple (p.1.map keyD)) ∧ RepL G (kvs.map (·.2)) (kk.map (·.2))
  | .tuple xs => OwnK G H a xs
  | _ => False
def SlOk (G H : Hp) (o : Option V) : Sl → Prop
  | .un => True
  | .sh d => ∃ v, o = some v ∧ Rep G d v
  | .ow d => ∃ a, o = some (.ref a) ∧ G a = none ∧ OwnOk G H a d
structure SR (G H : Hp) (σ : St) (δ : Dn) : Prop where
  sub : Same G H
  len : σ.length = δ.length
  sl : ∀ (i : Nat) (s : Sl), δ[i]? = some s → SlOk G H (σ[i]?.join) s
  ap : ∀ (i j : Nat) (a : Addr) (d e : PyData), δ[i]? = some (.ow d) → δ[j]? = some (.ow e) → σ[i]?.join = some (.ref a) → σ[j]?.join = some (.ref a) → i = j
theorem OwnOk.some {G H : Hp} {a : Addr} {d : PyData} (h : OwnOk G H a d) : ∃ o, H a = some o := by
  cases d with
  | list ds => obtain ⟨xs, e, _⟩ := h; exact ⟨_, e⟩
  | dict kvs => obtain ⟨xs, e, _⟩ := h; exact ⟨_, e⟩
  | tuple xs => exact OwnK.is h
  | _ => exact (show False from h).elim
theorem OwnOk.grow {G H G' H' : Hp} (g : Grow G H G' H') {a : Addr} {d : PyData} (h : OwnOk G H a d) : OwnOk G' H' a d := by
  cases d with
  | list ds => obtain ⟨xs, e, r⟩ := h; exact ⟨xs, g.h _ _ e, r.mono g.g⟩
  | dict kvs => obtain ⟨xs, e, k, r⟩ := h; exact ⟨xs, g.h _ _ e, k, r.mono g.g⟩
  | tuple xs => exact OwnK.keep g.g (fun o e => g.h _ _ e) h
  | _ => exact (show False from h).elim
theorem SlOk.grow {G H G' H' : Hp} (g : Grow G H G' H') {o : Option V} {s : Sl} (h : SlOk G H o s) : SlOk G' H' o s := by
  cases s with
  | un => trivial
  | sh d => obtain ⟨v, e, r⟩ := h; exact ⟨v, e, r.mono g.g⟩
  | ow d =>
    obtain ⟨a, e, n, r⟩ := h
    refine ⟨a, e, ?_, r.grow g⟩
    cases q : G' a with
    | none => rfl
    | some u =>
      obtain ⟨o', eo⟩ := r.some
      rcases g.fr a u q with z | z
      · rw [n] at z; cases z
      · rw [eo] at z; cases z
theorem SR.grow {G H G' H' : Hp} {σ : St} {δ : Dn} (S : SR G H σ δ) (g : Grow G H G' H') : SR G' H' σ δ :=
  ⟨g.gh, S.len, fun i s e => (S.sl i s e).grow g, S.ap⟩
abbrev EK := Str → Hp → Prop
def Aft (E : EK) (G H : Hp) (r : Res PyData) (Q : VK) : Prop := match r with
  | .ok d => ∀ v G' H', Grow G H G' H' → Rep G' d v → Q v H'
  | .exc c => ∀ G' H', Grow G H G' H' → E c H'
  | .no => False
def tD (E : EK) (f : Dn → Res PyData) : TE := fun σ H Q => ∃ G δ, SR G H σ δ ∧ Aft E G H (f δ) Q
abbrev DE (X : Cx) (E : EK) (e : Expr) (f : Dn → Res PyData) : Prop := PE X e (tD E f)
theorem Aft.grow {E : EK} {G H G' H' : Hp} {r : Res PyData} {Q : VK} (g : Grow G H G' H') (a : Aft E G H r Q) : Aft E G' H' r Q := by
  cases r with
  | ok d => exact fun v G2 H2 g2 q => a v G2 H2 (g.trans g2) q
  | exc c => exact fun G2 H2 g2 => a G2 H2 (g.trans g2)
  | no => exact a
theorem PE.imp {X : Cx} {e : Expr} {t t' : TE} (h : PE X e t) (i : ∀ σ H Q, t' σ H Q → t σ H Q) : PE X e t' := fun pins s σ H Q I q => h pins s σ H Q I (i _ _ _ q)
theorem aft_bind {E : EK} {G H : Hp} {σ : St} {δ : Dn} {f : Dn → Res PyData} {k : PyData → Res PyData} {Q R : VK} (S : SR G H σ δ) (a : Aft E G H ((f δ).bind k) Q)
    (h : ∀ d v G1 H1, Grow G H G1 H1 → Rep G1 d v → SR G1 H1 σ δ → Aft E G1 H1 (k d) Q → R v H1) : tD E f σ H R := by
  refine ⟨G, δ, S, ?_⟩
  cases e : f δ with
  | ok d =>
    rw [e] at a
    exact fun v G' H' g r => h d v G' H' g r (S.grow g) (Aft.grow g a)
  | exc c => rw [e] at a; exact a
  | no => rw [e] at a; exact a
section
variable {X : Cx} {E : EK} {pos : Pos}
def vC (d : PyData) : Dn → Res PyData := fun _ => .ok d
def vVar (i : Nat) : Dn → Res PyData := fun δ => match δ[i]? with
  | some (.sh d) => .ok d
  | _ => .no
theorem d_int {i : Int} {j : Nat} : DE X E (.Constant (.int i) j pos) (vC (.int i)) := PE.imp pe_int fun σ H Q ⟨G, δ, S, a⟩ => a _ G H (Grow.refl S.sub) rfl
theorem d_bool {b : Bool} {j : Nat} : DE X E (.Constant (.bool b) j pos) (vC (.bool b)) := PE.imp pe_bl fun σ H Q ⟨G, δ, S, a⟩ => a _ G H (Grow.refl S.sub) rfl
theorem d_none {j : Nat} : DE X E (.Constant .none j pos) (vC .none) := PE.imp pe_non fun σ H Q ⟨G, δ, S, a⟩ => a _ G H (Grow.refl S.sub) rfl
theorem d_str {x : Str} {j : Nat} (h : PyData.strOk x = true := by decide +kernel) (hl : x.length ≤ sizeLine := by decide +kernel) : DE X E (.Constant (.str x) j pos) (vC (.str x)) :=
  PE.imp pe_str fun σ H Q ⟨G, δ, S, a⟩ => a _ G H (Grow.refl S.sub) ⟨rfl, h, hl⟩
theorem d_var' {i : Nat} {x : Str} (hN : X.N[i]? = some x) (hv : Vis X.env.scope x) (hd : (x == ("__debug__" : Str)) = false) (hcd : (x == ("__classdict__" : Str)) = false) : DE X E (.Name x pos) (vVar i) :=
  PE.imp (pe_var hN hv hd hcd) fun σ H Q ⟨G, δ, S, a⟩ => by
    unfold vVar at a
    split at a
    · rename_i d e
      obtain ⟨v, e1, r⟩ := S.sl i _ e
      refine ⟨v, ?_, a _ G H (Grow.refl S.sub) r⟩
      cases q : σ[i]? with
      | none => rw [q] at e1; cases e1
      | some w => rw [q] at e1; cases w with
        | none => cases e1
        | some w => cases e1; rfl
    · exact a.elim
def b2 (f g : Dn → Res PyData) (op : PyData → PyData → Option PyData) : Dn → Res PyData := fun δ => (f δ).bind fun x => (g δ).bind fun y => ofO (op x y)
def OpD (r : R2) (op : PyData → PyData → Option PyData) : Prop := ∀ (G H : Hp) (x y : V) (a b d : PyData) (Q : VK), Same G H → Rep G a x → Rep G b y → op a b = some d → (∀ v G' H', Grow G H G' H' → Rep G' d v → Q v H') → r x y H Q
theorem tD_b2 {r : R2} {op : PyData → PyData → Option PyData} {f g : Dn → Res PyData} (ho : OpD r op) {σ : St} {H : Hp} {Q : VK} (h : tD E (b2 f g op) σ H Q) : tOp r (tD E f) (tD E g) σ H Q := by
  obtain ⟨G, δ, S, a⟩ := h
  refine aft_bind S a fun d1 v1 G1 H1 g1 r1 S1 a1 => ?_
  refine aft_bind S1 a1 fun d2 v2 G2 H2 g2 r2 S2 a2 => ?_
  cases e : op d1 d2 with
  | none => rw [e] at a2; exact a2.elim
  | some d => rw [e] at a2; exact ho G2 H2 v1 v2 d1 d2 d Q S2.sub (r1.mono g2.g) r2 e a2
theorem d_bin {a b : Expr} {o : Operator} {r : R2} {op : PyData → PyData → Option PyData} {f g : Dn → Res PyData} (hr : OpR X (binaryOp o) r) (ho : OpD r op) (ha : DE X E a f) (hb : DE X E b g) : DE X E (.BinOp a o b pos) (b2 f g op) :=
  PE.imp (pe_op hr ha hb) fun _ _ _ h => tD_b2 ho h
theorem d_cmp {a b : Expr} {o : CmpOp} {r : R2} {op : PyData → PyData → Option PyData} {f g : Dn → Res PyData} (hr : OpR X (compareOp o) r) (ho : OpD r op) (ha : DE X E a f) (hb : DE X E b g) (hm : behindInMarks o b = false) : DE X E (.Compare a [o] [b] pos) (b2 f g op) :=
  PE.imp (pe_cmpR hr ha hb hm) fun _ _ _ h => tD_b2 ho h
end
end Sm
end
section
set_option Elab.async false
set_option linter.all false
set_option maxRecDepth 100000
set_option maxHeartbeats 4000000
set_option autoImplicit false
namespace Sm
open PySem PySem.Spec PyProof.Rows L2
section
variable {X : Cx} {pins : List (Addr × Obj)} {σ : St} {H G : Hp} {s : Shared}
theorem rd_list (I : Inv X pins σ H s) {a : Addr} {xs : List V} (hG : Same G H) (r : Rd G a (.lst xs)) : xs.length ≤ sizeLine ∧ ∃ (its : List Value) (n : Nat), Vals xs its ∧ s.heap.get? a = some { cls := .type "list", data := .seq its.toArray n } :=
  (Rd.ok (Rd.mono hG r) I.hok : ObjOk X.prog X.w H s.heap a (.lst xs))
theorem rd_tup (I : Inv X pins σ H s) {a : Addr} {xs : List V} (hG : Same G H) (r : G a = some (.tup xs)) : xs.length ≤ sizeLine ∧ ∃ its : List Value, Vals xs its ∧ IsTup s.heap a its.toArray :=
  (I.hok a _ (hG _ _ r) : ObjOk X.prog X.w H s.heap a (.tup xs))
mutual
theorem Rep.reads (I : Inv X pins σ H s) (hG : Same G H) : ∀ {d : PyData} {v : V} {u : Value}, Rep G d v → RelV v u → ∃ as, Reads s.heap u d as
  | .none, _, _, r, q => by cases (show _ = _ from r); cases q; exact ⟨_, .none⟩
  | .bool _, _, _, r, q => by cases (show _ = _ from r); cases q; exact ⟨_, .bool _⟩
  | .int _, _, _, r, q => by cases (show _ = _ from r); obtain ⟨t, rfl⟩ := q; exact ⟨_, .int _ _⟩
  | .str _, _, _, r, q => by cases r.1; obtain ⟨t, rfl⟩ := q; exact ⟨_, .str _ _⟩
  | .list _, _, _, r, q => by
    obtain ⟨a, xs, rfl, h, l⟩ := r
    cases q
    obtain ⟨z, its, n, rv, e⟩ := rd_list I hG h
    obtain ⟨as, ra⟩ := RepL.reads I hG l rv
    exact ⟨_, .list e rfl rfl (by simpa using ra)⟩
  | .tuple _, _, _, r, q => by
    obtain ⟨a, xs, rfl, h, l⟩ := r
    cases q
    obtain ⟨z, its, rv, o, e, c, n, hd⟩ := rd_tup I hG h
    obtain ⟨as, ra⟩ := RepL.reads I hG l rv
    exact ⟨_, .tuple e c hd (by simpa using ra)⟩
  | .dict _, _, _, r, _ => r.elim
theorem RepL.reads (I : Inv X pins σ H s) (hG : Same G H) : ∀ {ds : List PyData} {xs : List V} {us : List Value}, RepL G ds xs → Vals xs us → ∃ as, ReadsAll s.heap us ds as
  | [], _, _, r, q => by cases (show _ = _ from r); cases q; exact ⟨_, .nil⟩
  | _ :: _, _, _, r, q => by
    obtain ⟨x, t, rfl, h, l⟩ := r
    cases q with
    | cons q qs =>
      obtain ⟨as, r1⟩ := Rep.reads I hG h q
      obtain ⟨bs, r2⟩ := RepL.reads I hG l qs
      exact ⟨_, .cons r1 r2⟩
end
end
def dEq (a b : PyData) : Option PyData := if min a.depth b.depth ≤ 64 then some (.bool (PyData.eqv a b)) else none
def dNe (a b : PyData) : Option PyData := if min a.depth b.depth ≤ 64 then some (.bool (!PyData.eqv a b)) else none
def rEqD (neg : Bool) : R2 := fun x y H Q => ∃ G a b, Same G H ∧ Rep G a x ∧ Rep G b y ∧ min a.depth b.depth ≤ 64 ∧ Q (.bl (if neg then !PyData.eqv a b else PyData.eqv a b)) H
section
variable {X : Cx}
theorem op_eqD (hu : X.A.units + 64 < cLine) : OpR X (compareOp .Eq) (rEqD false) := by
  intro pins s σ H x y v u Q I rx ry ⟨G, a, b, hG, ra, rb, hm, q⟩
  obtain ⟨as, r1⟩ := ra.reads I hG rx
  obtain ⟨bs, r2⟩ := rb.reads I hG ry
  exact SeqAt.compareEq_reads r1 r2 ra.lay rb.lay (by omega) ⟨.bl _, H, I, rfl, q⟩
theorem op_neD (hu : X.A.units + 64 < cLine) : OpR X (compareOp .NotEq) (rEqD true) := by
  intro pins s σ H x y v u Q I rx ry ⟨G, a, b, hG, ra, rb, hm, q⟩
  obtain ⟨as, r1⟩ := ra.reads I hG rx
  obtain ⟨bs, r2⟩ := rb.reads I hG ry
  exact SeqAt.compareNe_reads r1 r2 ra.lay rb.lay (by omega) ⟨.bl _, H, I, rfl, q⟩
theorem opD_eq : OpD (rEqD false) dEq := by
  intro G H x y a b d Q hG ra rb e q
  unfold dEq at e
  split at e
  · rename_i h; cases e; exact ⟨G, a, b, hG, ra, rb, h, q _ G H (Grow.refl hG) rfl⟩
  · cases e
theorem opD_ne : OpD (rEqD true) dNe := by
  intro G H x y a b d Q hG ra rb e q
  unfold dNe at e
  split at e
  · rename_i h; cases e; exact ⟨G, a, b, hG, ra, rb, h, q _ G H (Grow.refl hG) rfl⟩
  · cases e
end
def inStr (x y : Str) : Bool := !(Builtin.Str.occurrences y x 0 y.length 1).isEmpty
def dIn (neg : Bool) (a b : PyData) : Option PyData := match b with
  | .list ds => if min (PyData.depthAll ds) a.depth ≤ 62 then some (.bool (if neg then !ds.any fun y => PyData.eqv y a else ds.any fun y => PyData.eqv y a)) else none
  | .tuple ds => if min (PyData.depthAll ds) a.depth ≤ 62 then some (.bool (if neg then !ds.any fun y => PyData.eqv y a else ds.any fun y => PyData.eqv y a)) else none
  | .str y => match a with
    | .str x => some (.bool (if neg then !inStr x y else inStr x y))
    | _ => none
  | _ => none
def rInD (neg : Bool) : R2 := fun x y H Q => ∃ G a b d, Same G H ∧ Rep G a x ∧ Rep G b y ∧ dIn neg a b = some (.bool d) ∧ Q (.bl d) H
section
variable {X : Cx}
theorem op_inD (hu : X.A.units + 64 < cLine) : OpR X (compareOp .In) (rInD false) := by
  intro pins s σ H x y v u Q I rx ry ⟨G, a, b, d, hG, ra, rb, e, q⟩
  cases b with
  | list ds =>
    simp only [dIn] at e
    split at e
    · rename_i h
      cases e
      obtain ⟨as, r1⟩ := ra.reads I hG rx
      obtain ⟨bs, r2⟩ := rb.reads I hG ry
      exact SeqAt.in_list_reads r2 r1 rb.lay ra.lay (by omega) ⟨.bl _, H, I, rfl, q⟩
    · cases e
  | tuple ds =>
    simp only [dIn] at e
    split at e
    · rename_i h
      cases e
      obtain ⟨as, r1⟩ := ra.reads I hG rx
      obtain ⟨bs, r2⟩ := rb.reads I hG ry
      exact SeqAt.in_tuple_reads r2 r1 rb.lay ra.lay (by omega) ⟨.bl _, H, I, rfl, q⟩
    · cases e
  | str z =>
    cases a with
    | str z' =>
      cases e
      cases ra.1; cases rb.1
      obtain ⟨t, rfl⟩ := rx
      obtain ⟨t', rfl⟩ := ry
      exact in_str ⟨.bl _, H, I, rfl, q⟩
    | _ => cases e
  | _ => cases e
theorem op_notInD (hu : X.A.units + 64 < cLine) : OpR X (compareOp .NotIn) (rInD true) := by
  intro pins s σ H x y v u Q I rx ry ⟨G, a, b, d, hG, ra, rb, e, q⟩
  cases b with
  | list ds =>
    simp only [dIn] at e
    split at e
    · rename_i h
      cases e
      obtain ⟨as, r1⟩ := ra.reads I hG rx
      obtain ⟨bs, r2⟩ := rb.reads I hG ry
      exact SeqAt.notIn_list_reads r2 r1 rb.lay ra.lay (by omega) ⟨.bl _, H, I, rfl, q⟩
    · cases e
  | tuple ds =>
    simp only [dIn] at e
    split at e
    · rename_i h
      cases e
      obtain ⟨as, r1⟩ := ra.reads I hG rx
      obtain ⟨bs, r2⟩ := rb.reads I hG ry
      exact SeqAt.notIn_tuple_reads r2 r1 rb.lay ra.lay (by omega) ⟨.bl _, H, I, rfl, q⟩
    · cases e
  | str z =>
    cases a with
    | str z' =>
      cases e
      cases ra.1; cases rb.1
      obtain ⟨t, rfl⟩ := rx
      obtain ⟨t', rfl⟩ := ry
      exact notIn_str ⟨.bl _, H, I, rfl, q⟩
    | _ => cases e
  | _ => cases e
theorem dIn_bool {neg : Bool} {a b d : PyData} (e : dIn neg a b = some d) : ∃ k, d = .bool k := by
  cases b with
  | list ds => simp only [dIn] at e; split at e <;> cases e; exact ⟨_, rfl⟩
  | tuple ds => simp only [dIn] at e; split at e <;> cases e; exact ⟨_, rfl⟩
  | str z => cases a with
    | str z' => cases e; exact ⟨_, rfl⟩
    | _ => cases e
  | _ => cases e
theorem opD_in {neg : Bool} : OpD (rInD neg) (dIn neg) := by
  intro G H x y a b d Q hG ra rb e q
  obtain ⟨k, rfl⟩ := dIn_bool e
  exact ⟨G, a, b, k, hG, ra, rb, e, q _ G H (Grow.refl hG) rfl⟩
end
def dAdd : PyData → PyData → Option PyData
  | .int i, .int j => some (.int (i + j))
  | .str x, .str y => if x.length + y.length ≤ sizeLine then some (.str (x ++ y)) else none
  | .list xs, .list ys => if xs.length + ys.length ≤ sizeLine then some (.list (xs ++ ys)) else none
  | .tuple xs, .tuple ys => if xs.length + ys.length ≤ sizeLine then some (.tuple (xs ++ ys)) else none
  | _, _ => none
def rAddD : R2 := fun x y H Q => ∃ G a b d, Same G H ∧ Rep G a x ∧ Rep G b y ∧ dAdd a b = some d ∧ ∀ v G' H', Grow G H G' H' → Rep G' d v → Q v H'
theorem strOk_append {x y : Str} (hx : PyData.strOk x = true) (hy : PyData.strOk y = true) : PyData.strOk (x ++ y) = true := by
  unfold PyData.strOk at *
  show (x.cps ++ y.cps).all _ = true
  rw [Array.all_append, hx, hy]; rfl
theorem str_len_append (x y : Str) : (x ++ y).length = x.length + y.length := by
  show (x.cps ++ y.cps).size = _
  rw [Array.size_append]; rfl
section
variable {X : Cx}
theorem fin_tup {pins : List (Addr × Obj)} {σ : St} {H G : Hp} {s : Shared} {Q : VK} {ds : List PyData} {xs : List V} {its : List Value} {t' : Nat} (I : Inv X pins σ H s) (hG : Same G H) (rv : Vals xs its) (rl : RepL G ds xs) (hz : xs.length ≤ sizeLine)
    (q : ∀ v G' H', Grow G H G' H' → Rep G' (.tuple ds) v → Q v H') : EP X pins σ Q (.ref s.heap.objs.size) { s with heap := s.heap.push { cls := .type "tuple", data := .seq its.toArray }, toks := t' } := by
  refine ⟨.ref s.heap.objs.size, _, I.laid (t' := t') (o := .tup xs) (fun b ob q => Heap.get?_push_of_some _ q) (Nat.le_refl _) ⟨hz, its, rv, IsTup.new _ _⟩, rfl, q _ (upd G s.heap.objs.size (.tup xs)) _ (Grow.new hG I.fresh) ⟨_, xs, rfl, upd_same, rl.mono (Same.upd (hG.free I.fresh))⟩⟩
theorem fin_lst {pins : List (Addr × Obj)} {σ : St} {H G : Hp} {s : Shared} {Q : VK} {ds : List PyData} {xs : List V} {its : List Value} {t' : Nat} (I : Inv X pins σ H s) (hG : Same G H) (rv : Vals xs its) (rl : RepL G ds xs) (hz : xs.length ≤ sizeLine)
    (q : ∀ v G' H', Grow G H G' H' → Rep G' (.list ds) v → Q v H') : EP X pins σ Q (.ref s.heap.objs.size) { s with heap := s.heap.push { cls := .type "list", data := .seq its.toArray }, toks := t' } := by
  refine ⟨.ref s.heap.objs.size, _, I.lnew (t' := t') rv hz, rfl, q _ (upd G s.heap.objs.size (.lst xs)) _ (Grow.new hG I.fresh) ⟨_, xs, rfl, .inl upd_same, rl.mono (Same.upd (hG.free I.fresh))⟩⟩
theorem op_addD : OpR X (binaryOp .Add) rAddD := by
  intro pins s σ H x y v u Q I rx ry ⟨G, a, b, d, hG, ra, rb, e, q⟩
  cases a with
  | int i => cases b with
    | int j =>
      cases e
      cases (show _ = _ from ra); cases (show _ = _ from rb)
      obtain ⟨t, rfl⟩ := rx
      obtain ⟨t', rfl⟩ := ry
      exact add_int ⟨.int _, H, I.tok _, ⟨_, rfl⟩, q _ G H (Grow.refl hG) rfl⟩
    | _ => cases e
  | str i => cases b with
    | str j =>
      simp only [dAdd] at e
      split at e
      · rename_i hz
        cases e
        obtain ⟨e1, o1, _⟩ := ra
        obtain ⟨e2, o2, _⟩ := rb
        cases e1; cases e2
        obtain ⟨t, rfl⟩ := rx
        obtain ⟨t', rfl⟩ := ry
        exact add_str (fun t' tk => ⟨.str (i ++ j), H, I.tok _, ⟨_, rfl⟩, q _ G H (Grow.refl hG) ⟨rfl, strOk_append o1 o2, by rw [str_len_append]; exact hz⟩⟩) hz
      · cases e
    | _ => cases e
  | list xs => cases b with
    | list ys =>
      simp only [dAdd] at e
      split at e
      · rename_i hz
        cases e
        obtain ⟨l, vs, rfl, h1, l1⟩ := ra
        obtain ⟨l', ws, rfl, h2, l2⟩ := rb
        cases rx; cases ry
        obtain ⟨z1, its1, n1, v1, e1⟩ := rd_list I hG h1
        obtain ⟨z2, its2, n2, v2, e2⟩ := rd_list I hG h2
        have q1 := v1.length
        have q2 := v2.length
        have q3 := l1.length
        have q4 := l2.length
        refine PySem.P.add_list e1 e2 ?_ (by rw [List.size_toArray, List.size_toArray]; omega)
        have ea : its1.toArray ++ its2.toArray = (its1 ++ its2).toArray := by simp
        rw [ea]
        exact fin_lst (t' := s.toks) I hG (v1.append v2) (l1.append l2) (by rw [List.length_append]; omega) q
      · cases e
    | _ => cases e
  | tuple xs => cases b with
    | tuple ys =>
      simp only [dAdd] at e
      split at e
      · rename_i hz
        cases e
        obtain ⟨l, vs, rfl, h1, l1⟩ := ra
        obtain ⟨l', ws, rfl, h2, l2⟩ := rb
        cases rx; cases ry
        obtain ⟨z1, its1, v1, p1⟩ := rd_tup I hG h1
        obtain ⟨z2, its2, v2, p2⟩ := rd_tup I hG h2
        have q1 := v1.length
        have q2 := v2.length
        have q3 := l1.length
        have q4 := l2.length
        by_cases hx : its1 = []
        · subst hx
          obtain ⟨⟨cls, dd, data, sl⟩, ho, hc, n, hd⟩ := id p1
          obtain ⟨⟨cls2, dd2, data2, sl2⟩, ho2, hc2, n2, hd2⟩ := id p2
          simp only at hc hd hc2 hd2
          subst hc hd hc2 hd2
          refine concat_meets ⟨_, ho, rfl⟩ ⟨_, ho2, rfl⟩ noFill_tuple_add seq_tuple_add PySem.F.slot_tuple_add PySem.F.entry_tuple_add (PySem.F.args_tuple_add_2 _ _)
            (tuple_addW0 l l' _ _ n n2 dd dd2 sl sl2 (by simp)) ⟨ho, ho2, ?_⟩
          have hxs : xs = [] := by
            have : xs.length = 0 := by rw [q3, q1]; rfl
            exact List.length_eq_zero_iff.mp this
          subst hxs
          exact ⟨.ref l', H, I, rfl, q _ G H (Grow.refl hG) ⟨l', ws, rfl, h2, l2⟩⟩
        · refine HT.cat_tup p1 p2 hx (fun hy => ?_) (fun hy => ?_) (by omega)
          · subst hy
            have hys : ys = [] := by
              have : ys.length = 0 := by rw [q4, q2]; rfl
              exact List.length_eq_zero_iff.mp this
            subst hys
            rw [List.append_nil] at q
            exact ⟨.ref l, H, I, rfl, q _ G H (Grow.refl hG) ⟨l, vs, rfl, h1, l1⟩⟩
          · exact fin_tup (t' := s.toks) I hG (v1.append v2) (l1.append l2) (by rw [List.length_append]; omega) q
      · cases e
    | _ => cases e
  | _ => cases e
theorem opD_add : OpD rAddD dAdd := fun G H x y a b d Q hG ra rb e q => ⟨G, a, b, d, hG, ra, rb, e, q⟩
def dSub : PyData → PyData → Option PyData
  | .int i, .int j => some (.int (i - j))
  | _, _ => none
def dMod : PyData → PyData → Option PyData
  | .int i, .int j => if 0 < j then some (.int (i % j)) else none
  | _, _ => none
def dFdiv : PyData → PyData → Option PyData
  | .int i, .int j => if 0 < j ∧ j < 1073741824 then some (.int (i / j)) else none
  | _, _ => none
def dPow : PyData → PyData → Option PyData
  | .int i, .int j => if 0 ≤ j ∧ j ≤ 1000000 ∧ i.natAbs < 2 ^ 64 then some (.int (i ^ j.toNat)) else none
  | _, _ => none
theorem opD_int {r : R2} {op : PyData → PyData → Option PyData} (h : ∀ a b d, op a b = some d → ∃ i j k, a = .int i ∧ b = .int j ∧ d = .int k ∧ ∀ H Q, Q (V.int k) H → r (.int i) (.int j) H Q) : OpD r op := by
  intro G H x y a b d Q hG ra rb e q
  obtain ⟨i, j, k, rfl, rfl, rfl, hr⟩ := h a b d e
  cases (show _ = _ from ra); cases (show _ = _ from rb)
  exact hr H Q (q _ G H (Grow.refl hG) rfl)
theorem opD_sub : OpD (rI0 fun i j => .int (i - j)) dSub := opD_int fun a b d e => by
  cases a <;> cases b <;> first | cases e; exact ⟨_, _, _, rfl, rfl, rfl, fun H Q q => ⟨_, _, rfl, rfl, q⟩⟩ | cases e
theorem opD_mod : OpD (rI (fun _ j => 0 < j) fun i j => .int (i % j)) dMod := opD_int fun a b d e => by
  cases a <;> cases b <;> first
    | (simp only [dMod] at e; split at e
       · rename_i h; cases e; exact ⟨_, _, _, rfl, rfl, rfl, fun H Q q => ⟨_, _, rfl, rfl, h, q⟩⟩
       · cases e)
    | cases e
theorem opD_fdiv : OpD (rI CDiv fun i j => .int (i / j)) dFdiv := opD_int fun a b d e => by
  cases a <;> cases b <;> first
    | (simp only [dFdiv] at e; split at e
       · rename_i h; cases e; exact ⟨_, _, _, rfl, rfl, rfl, fun H Q q => ⟨_, _, rfl, rfl, h, q⟩⟩
       · cases e)
    | cases e
theorem opD_pow : OpD (rI CPow fun i j => .int (i ^ j.toNat)) dPow := opD_int fun a b d e => by
  cases a <;> cases b <;> first
    | (simp only [dPow] at e; split at e
       · rename_i h; cases e; exact ⟨_, _, _, rfl, rfl, rfl, fun H Q q => ⟨_, _, rfl, rfl, h, q⟩⟩
       · cases e)
    | cases e
end
end Sm
end
section
set_option Elab.async false
set_option linter.all false
set_option maxRecDepth 100000
set_option maxHeartbeats 4000000
set_option autoImplicit false
namespace Sm
open PySem PySem.Spec PyProof.Rows L2
open PySem.AutoSeq1 (wpAny_loadPart')
def strRep (n : Nat) (x : Str) : Str := ⟨(List.replicate n x.cps).foldl (· ++ ·) #[]⟩
theorem foldl_app (l : List (Array Nat)) : ∀ acc : Array Nat, (l.foldl (· ++ ·) acc).toList = acc.toList ++ (l.map Array.toList).flatten := by
  induction l with
  | nil => intro acc; simp
  | cons a l ih => intro acc; rw [List.foldl_cons, ih]; simp
theorem strRep_toList (n : Nat) (x : Str) : (strRep n x).cps.toList = (List.replicate n x.cps.toList).flatten := by
  unfold strRep
  rw [foldl_app]; simp
theorem strRep_ok {x : Str} (h : PyData.strOk x = true) (n : Nat) : PyData.strOk (strRep n x) = true := by
  unfold PyData.strOk at *
  rw [← Array.all_toList, List.all_eq_true] at *
  rw [strRep_toList]
  intro c hc
  obtain ⟨l, hl, hc⟩ := List.mem_flatten.mp hc
  rw [List.eq_of_mem_replicate hl] at hc
  exact h c hc
theorem strRep_len (n : Nat) (x : Str) : (strRep n x).length = n * x.length := by
  show (strRep n x).cps.size = n * x.cps.size
  rw [← Array.length_toList, strRep_toList, len_rep, Array.length_toList]
theorem strRep_zero (x : Str) : strRep 0 x = Str.empty := rfl
theorem strRep_one (x : Str) : strRep 1 x = x := by
  have : (strRep 1 x).cps = x.cps := by
    apply Array.toList_inj.mp
    rw [strRep_toList]; simp
  cases x; cases h : strRep 1 _; rw [h] at this; cases this; rfl
theorem strRep_nil {x : Str} (n : Nat) (h : x.length = 0) : strRep n x = x := by
  have hx : x.cps = #[] := Array.size_eq_zero_iff.mp h
  have : (strRep n x).cps = x.cps := by
    apply Array.toList_inj.mp
    rw [strRep_toList, hx]; simp
  cases x; cases h : strRep n _; rw [h] at this; cases this; rfl
def dMul : PyData → PyData → Option PyData
  | .int i, .int j => if (-(2 ^ 64) < i ∧ i < 2 ^ 64) ∨ (-(2 ^ 64) < j ∧ j < 2 ^ 64) then some (.int (i * j)) else none
  | .str x, .int n => if -(2 ^ 63) ≤ n ∧ n < 2 ^ 63 ∧ x.length * n.toNat ≤ sizeLine then some (.str (strRep n.toNat x)) else none
  | .list xs, .int n => if -(2 ^ 63) ≤ n ∧ n < 2 ^ 63 ∧ xs.length * n.toNat ≤ sizeLine then some (.list (List.replicate n.toNat xs).flatten) else none
  | .tuple xs, .int n => if 2 ≤ n ∧ n < 2 ^ 63 ∧ xs ≠ [] ∧ xs.length * n.toNat ≤ sizeLine then some (.tuple (List.replicate n.toNat xs).flatten)
    else if -(2 ^ 63) ≤ n ∧ n < 2 ^ 63 ∧ (xs = [] ∨ n = 1) then some (.tuple xs) else none
  | _, _ => none
def rMulD : R2 := fun x y H Q => ∃ G a b d, Same G H ∧ Rep G a x ∧ Rep G b y ∧ dMul a b = some d ∧ ∀ v G' H', Grow G H G' H' → Rep G' d v → Q v H'
theorem opD_mul : OpD rMulD dMul := fun G H x y a b d Q hG ra rb e q => ⟨G, a, b, d, hG, ra, rb, e, q⟩
theorem noFill_tuple_mul : fillsNumberSlot (.type "tuple") "mul" = pure false := by
  unfold fillsNumberSlot
  first | rfl | kernel_rfl | decide +kernel
theorem repeat_tuple : seqRepeat? (.type "tuple") = pure (some (.builtin "tuple.__mul__")) := by
  unfold seqRepeat?
  first | rfl | kernel_rfl
theorem int_rmul_tuple (a : Int) (t : Tok) (l : Addr) (items : Array Value) (n : Nat) (dd : Option Addr) (sl : Array (Option Value)) :
    Meets (Builtin.«int.__rmul__» ⟨[.int a t, .ref l], []⟩) (fun _ R s => s.heap.get? l = some { cls := .type "tuple", dict := dd, data := .seq items n, slots := sl } ∧ R (.ok (.ret Value.notImplemented)) s) :=
  .of_wp fun prog w A R s h => by obtain ⟨hp, g, d, tk, os⟩ := s; obtain ⟨hl, h⟩ := h; wp_walk; exact ⟨_, rfl, h⟩
theorem tuple_mul_many (l : Addr) (items : Array Value) (n : Nat) (x : Int) (u : Tok) (dd : Option Addr) (sl : Array (Option Value)) (h1 : ¬ (decide (x < -(2 ^ 63 : Int)) || decide (x ≥ 2 ^ 63)) = true) (h2 : ¬ (items.isEmpty || x == 1) = true) (h3 : ¬ (decide (x ≤ 0) || items.isEmpty) = true)
    (h4 : ¬ (items.size : Int) * x > (2 ^ 63 - 1) / 8) (h5 : ¬ Builtin.Tuple.tupleTooMany (items.size * x) = true) (h6 : (List.foldl (fun x1 x2 => x1 ++ x2) #[] (List.replicate x.toNat items)).size ≤ sizeLine) :
    Meets (Builtin.«tuple.__mul__» ⟨[.ref l, .int x u], []⟩) (fun _ R s => s.heap.get? l = some { cls := .type "tuple", dict := dd, data := .seq items n, slots := sl } ∧ R (.ok (.ret (Value.ref s.heap.objs.size))) { s with heap := s.heap.push { cls := Value.type "tuple", data := Data.seq (List.foldl (fun x1 x2 => x1 ++ x2) #[] (List.replicate x.toNat items)) }, toks := s.toks }) :=
  .of_wp fun prog w A R s h => by
    obtain ⟨hp, g, d, tk, os⟩ := s; obtain ⟨hl, h⟩ := h
    have f1 := AutoSeq1.idx_int
    wp_walk using wpAny_loadPart' hl
    rw [if_neg h1]
    wp_walk using wpAny_loadPart' hl
    rw [if_neg h4]
    wp_walk using wpAny_loadPart' hl
    exact ⟨_, rfl, h⟩
theorem tuple_mul_same (l : Addr) (items : Array Value) (n : Nat) (x : Int) (u : Tok) (dd : Option Addr) (sl : Array (Option Value)) (h1 : ¬ (decide (x < -(2 ^ 63 : Int)) || decide (x ≥ 2 ^ 63)) = true) (h2 : (items.isEmpty || x == 1) = true) :
    Meets (Builtin.«tuple.__mul__» ⟨[.ref l, .int x u], []⟩) (fun _ R s => s.heap.get? l = some { cls := .type "tuple", dict := dd, data := .seq items n, slots := sl } ∧ R (.ok (.ret (.ref l))) s) :=
  .of_wp fun prog w A R s h => by
    obtain ⟨hp, g, d, tk, os⟩ := s; obtain ⟨hl, h⟩ := h
    have f1 := AutoSeq1.idx_int
    wp_walk using wpAny_loadPart' hl
    rw [if_neg h1]
    wp_walk using wpAny_loadPart' hl
    exact ⟨_, rfl, h⟩
section
variable {X : Cx}
theorem op_mulD : OpR X (binaryOp .Mult) rMulD := by
  intro pins s σ H x y v u Q I rx ry ⟨G, a, b, d, hG, ra, rb, e, q⟩
  have h63 := line63
  cases b with
  | int k =>
    cases (show _ = _ from rb)
    obtain ⟨t', rfl⟩ := ry
    cases a with
    | int i =>
      simp only [dMul] at e
      split at e
      · rename_i hc
        cases e
        cases (show _ = _ from ra)
        obtain ⟨t, rfl⟩ := rx
        exact mul_int ⟨.int _, H, I.tok _, ⟨_, rfl⟩, q _ G H (Grow.refl hG) rfl⟩ (CMul.ok hc)
      · cases e
    | str z =>
      simp only [dMul] at e
      split at e
      · rename_i hc
        obtain ⟨hc1, hc2, hc3⟩ := hc
        cases e
        obtain ⟨e1, o1, l1⟩ := ra
        cases e1
        obtain ⟨t, rfl⟩ := rx
        have fin : ∀ tk, Q (.str (strRep k.toNat z)) H ∧ Inv X pins σ H { s with toks := tk } := fun tk => ⟨q _ G H (Grow.refl hG) ⟨rfl, strRep_ok o1 _, by rw [strRep_len, Nat.mul_comm]; exact hc3⟩, I.tok _⟩
        refine PySem.P.mul_str (by rw [decide_eq_false (by omega), decide_eq_false (by omega)]; rfl) (fun h1 _ => ?_) (fun h1 _ => ?_) ?_
        · intro hgt
          have hk : (0 : Int) < k := by omega
          have h2 : (2 ^ 63 - 1) / k + 1 ≤ (z.length : Int) := by omega
          have h3 : (2 ^ 63 - 1 : Int) < ((2 ^ 63 - 1) / k + 1) * k := Int.lt_ediv_add_one_mul_self _ hk
          have h4 : ((2 ^ 63 - 1) / k + 1) * k ≤ (z.length : Int) * k := Int.mul_le_mul_of_nonneg_right h2 (by omega)
          have h5 : (z.length : Int) * k = ((z.length * k.toNat : Nat) : Int) := by
            rw [Int.natCast_mul, Int.toNat_of_nonneg (by omega)]
          omega
        · unfold Builtin.Str.tooLong
          exact decide_eq_false (by omega)
        · by_cases h1 : k < 1
          · rw [if_pos h1]
            have : k.toNat = 0 := by omega
            rw [this, strRep_zero] at fin
            exact ⟨by decide, ⟨.str _, H, (fin _).2, ⟨_, rfl⟩, (fin 0).1⟩⟩
          · rw [if_neg h1]
            by_cases h2 : (k == 1 || z.length == 0) = true
            · rw [if_pos h2]
              rw [Bool.or_eq_true] at h2
              have ez : strRep k.toNat z = z := by
                rcases h2 with h2 | h2
                · have : k = 1 := eq_of_beq h2
                  subst this
                  exact strRep_one z
                · exact strRep_nil _ (eq_of_beq h2)
              rw [ez] at fin
              exact ⟨.str _, H, I, ⟨_, rfl⟩, (fin 0).1⟩
            · rw [if_neg h2]
              exact ⟨by show (strRep k.toNat z).length ≤ _; rw [strRep_len, Nat.mul_comm]; exact hc3, ⟨.str _, H, (fin _).2, ⟨_, rfl⟩, (fin 0).1⟩⟩
      · cases e
    | list xs =>
      simp only [dMul] at e
      split at e
      · rename_i hc
        obtain ⟨hc1, hc2, hc3⟩ := hc
        cases e
        obtain ⟨l, vs, rfl, h1, l1⟩ := ra
        cases rx
        have q3 := l1.length
        obtain ⟨z, its, n, r, e⟩ := rd_list I hG h1
        have hl := r.length
        have hlen : its.toArray.size * k.toNat ≤ sizeLine := by rw [List.size_toArray, ← hl, ← q3]; exact hc3
        have hcap : ¬ its.toArray.size * k.toNat > (2 ^ 63 - 1) / 8 := by
          have : (sizeLine : Nat) ≤ (2 ^ 63 - 1) / 8 := by decide
          omega
        have hfit : ¬ (!Builtin.List.listFitsIndex k) = true := by
          rw [fitsIndex_both hc1 hc2]
          exact Bool.false_ne_true
        have hlong : ¬ Builtin.List.listTooLong (its.toArray.size * k.toNat) = true := by
          rw [notLongL hlen]
          exact Bool.false_ne_true
        have hnew : List.foldl (fun x1 x2 => x1 ++ x2) #[] (List.replicate (if its.toArray.isEmpty = true then 0 else k.toNat) its.toArray) = (List.replicate k.toNat its).flatten.toArray := by
          have f0 : ∀ m : Nat, List.foldl (fun x1 x2 => x1 ++ x2) #[] (List.replicate m its.toArray) = (List.replicate m its).flatten.toArray := fun m => by
            have := foldl_rep its m []
            rw [List.nil_append] at this
            exact this
          rw [f0]
          cases its with
          | nil => simp
          | cons a r' => rw [if_neg (by simp)]
        refine wpAny_binaryOp_repeat_ref (T := "list") (U := "int") (by decide) ⟨_, e, rfl⟩ (fun s' => typeIs_int s' k t') noFill_list_mul F.fills_int_mul F.slot_int_rmul repeat_list F.slot_int_index.lookup
          (call_meets F.slot_int_rmul (typeIs_int s k t') F.entry_int_rmul (F.args_int_rmul_2 _ _) (int___rmul___int_list k t' l its.toArray n)
            ⟨e, rfl, ⟨_, e, rfl⟩, call_meets F.slot_list_mul ⟨_, e, rfl⟩ F.entry_list_mul (F.args_list_mul_2 _ _) (AutoListH.list___mul___list_int_3 l its.toArray n k t' hfit hcap hlong) ⟨e, ?_⟩⟩)
        rw [hnew]
        exact fin_lst (t' := s.toks) I hG (r.rep k.toNat) (l1.rep k.toNat) (by rw [len_rep, Nat.mul_comm, ← q3]; exact hc3) q
      · cases e
    | tuple xs =>
      simp only [dMul] at e
      split at e
      · rename_i hc
        obtain ⟨hc1, hc2, hc0, hc3⟩ := hc
        cases e
        obtain ⟨l, vs, rfl, h1, l1⟩ := ra
        cases rx
        have q3 := l1.length
        obtain ⟨z, its, r, p⟩ := rd_tup I hG h1
        have hl := r.length
        obtain ⟨⟨cls, dd, data, sl⟩, ho, hcl, n, hd⟩ := id p
        simp only at hcl hd
        subst hcl hd
        have hlen : its.toArray.size * k.toNat ≤ sizeLine := by rw [List.size_toArray, ← hl, ← q3]; exact hc3
        have hne : its.toArray.isEmpty = false := by
          have : its.length ≠ 0 := by
            rw [← hl, ← q3]
            intro z
            exact hc0 (List.length_eq_zero_iff.mp z)
          cases its with
          | nil => exact absurd rfl this
          | cons _ _ => rfl
        have hk : ((its.toArray.size : Nat) : Int) * k = ((its.toArray.size * k.toNat : Nat) : Int) := by
          rw [Int.natCast_mul, Int.toNat_of_nonneg (by omega)]
        have f0 : List.foldl (fun x1 x2 => x1 ++ x2) #[] (List.replicate k.toNat its.toArray) = (List.replicate k.toNat its).flatten.toArray := by
          have := foldl_rep its k.toNat []
          rw [List.nil_append] at this
          exact this
        have hs8 : (sizeLine : Nat) ≤ (2 ^ 63 - 1) / 8 := by decide
        refine wpAny_binaryOp_repeat_ref (T := "tuple") (U := "int") (by decide) ⟨_, ho, rfl⟩ (fun s' => typeIs_int s' k t') noFill_tuple_mul F.fills_int_mul F.slot_int_rmul repeat_tuple F.slot_int_index.lookup
          (call_meets F.slot_int_rmul (typeIs_int s k t') F.entry_int_rmul (F.args_int_rmul_2 _ _) (int_rmul_tuple k t' l its.toArray n dd sl)
            ⟨ho, rfl, ⟨_, ho, rfl⟩, call_meets F.slot_tuple_mul ⟨_, ho, rfl⟩ F.entry_tuple_mul (F.args_tuple_mul_2 _ _) (tuple_mul_many l its.toArray n k t' dd sl ?_ ?_ ?_ ?_ ?_ ?_) ⟨ho, ?_⟩⟩)
        · rw [decide_eq_false (by omega), decide_eq_false (by omega)]; decide
        · rw [hne]
          have : (k == 1) = false := by simpa using (show ¬ k = 1 by omega)
          rw [this]; decide
        · rw [hne, decide_eq_false (by omega)]; decide
        · rw [hk]; omega
        · rw [hk]; unfold Builtin.Tuple.tupleTooMany; rw [decide_eq_false (by omega)]; decide
        · rw [f0, List.size_toArray, len_rep, Nat.mul_comm, ← hl, ← q3]; exact hc3
        · rw [f0]
          exact fin_tup (t' := s.toks) I hG (r.rep k.toNat) (l1.rep k.toNat) (by rw [len_rep, Nat.mul_comm, ← q3]; exact hc3) q
      · split at e
        · rename_i hc
          obtain ⟨hc1, hc2, hc3⟩ := hc
          cases e
          have ra0 := ra
          obtain ⟨l, vs, rfl, h1, l1⟩ := ra
          cases rx
          have q3 := l1.length
          obtain ⟨z, its, r, p⟩ := rd_tup I hG h1
          have hl := r.length
          obtain ⟨⟨cls, dd, data, sl⟩, ho, hcl, n, hd⟩ := id p
          simp only at hcl hd
          subst hcl hd
          refine wpAny_binaryOp_repeat_ref (T := "tuple") (U := "int") (by decide) ⟨_, ho, rfl⟩ (fun s' => typeIs_int s' k t') noFill_tuple_mul F.fills_int_mul F.slot_int_rmul repeat_tuple F.slot_int_index.lookup
            (call_meets F.slot_int_rmul (typeIs_int s k t') F.entry_int_rmul (F.args_int_rmul_2 _ _) (int_rmul_tuple k t' l its.toArray n dd sl)
              ⟨ho, rfl, ⟨_, ho, rfl⟩, call_meets F.slot_tuple_mul ⟨_, ho, rfl⟩ F.entry_tuple_mul (F.args_tuple_mul_2 _ _) (tuple_mul_same l its.toArray n k t' dd sl ?_ ?_) ⟨ho, ?_⟩⟩)
          · rw [decide_eq_false (by omega), decide_eq_false (by omega)]; decide
          · rcases hc3 with hc3 | hc3
            · subst hc3
              have : its.length = 0 := by rw [← hl, ← q3]; rfl
              rw [List.length_eq_zero_iff.mp this]; rfl
            · subst hc3; simp
          · exact ⟨.ref l, H, I, rfl, q _ G H (Grow.refl hG) ra0⟩
        · cases e
    | _ => cases e
  | _ => cases a <;> cases e
end
end Sm
end
section
set_option Elab.async false
set_option linter.all false
set_option maxRecDepth 100000
set_option maxHeartbeats 4000000
set_option autoImplicit false
namespace Sm
open PySem PySem.Spec PyProof.Rows L2
open PySem.AutoSeq1 (wpAny_loadPart')
open PySem.MeetsSeq PySem.MeetsSeq2 PySem.MeetsSeq3
def iCmp : CmpOp → Int → Int → Bool
  | .Lt, i, j => decide (i < j)
  | .LtE, i, j => decide (i ≤ j)
  | .Gt, i, j => decide (j < i)
  | _, i, j => decide (j ≤ i)
def sCmp : CmpOp → Str → Str → Bool
  | .Lt, x, y => decide (x.cps.toList < y.cps.toList)
  | .LtE, x, y => !decide (y.cps.toList < x.cps.toList)
  | .Gt, x, y => decide (y.cps.toList < x.cps.toList)
  | _, x, y => !decide (x.cps.toList < y.cps.toList)
def zCmp : CmpOp → Nat → Nat → Bool
  | .Lt, m, n => decide (m < n)
  | .LtE, m, n => decide (m ≤ n)
  | .Gt, m, n => decide (m > n)
  | _, m, n => decide (m ≥ n)
def ordOp : CmpOp → Bool
  | .Lt => true | .LtE => true | .Gt => true | .GtE => true | _ => false
mutual
def cmpD (op : CmpOp) : PyData → PyData → Option Bool
  | .int i, .int j => some (iCmp op i j)
  | .str x, .str y => some (sCmp op x y)
  | .tuple xs, .tuple ys => cmpL op xs ys
  | _, _ => none
def cmpL (op : CmpOp) : List PyData → List PyData → Option Bool
  | [], ys => some (zCmp op 0 ys.length)
  | x :: xs, [] => some (zCmp op (xs.length + 1) 0)
  | x :: xs, y :: ys => if PyData.eqv x y = true then cmpL op xs ys else cmpD op x y
end
def RcOp (op : CmpOp) (A : Around) (s : Shared) (u v : Value) (k : Bool) : Prop := ∀ (prog : Program) (w : World) (E : Value → Shared → Prop) (Q : Value → Shared → Prop), Q (.bool k) s → wpAny (model prog w) A (richCompare op u v) Q E s
theorem rc_int {op : CmpOp} (h : ordOp op = true) (A : Around) (s : Shared) (i j : Int) (t u : Tok) : RcOp op A s (.int i t) (.int j u) (iCmp op i j) := fun prog w E Q q => by
  cases op with
  | Lt => exact (lt_int q : wpAny (model prog w) A (compareOp .Lt (.int i t) (.int j u)) Q E s)
  | LtE => exact (le_int q : wpAny (model prog w) A (compareOp .LtE (.int i t) (.int j u)) Q E s)
  | Gt => exact (gt_int q : wpAny (model prog w) A (compareOp .Gt (.int i t) (.int j u)) Q E s)
  | GtE => exact (ge_int q : wpAny (model prog w) A (compareOp .GtE (.int i t) (.int j u)) Q E s)
  | _ => cases h
theorem rc_str {op : CmpOp} (h : ordOp op = true) (A : Around) (s : Shared) (x y : Str) (t u : Tok) : RcOp op A s (.str x t) (.str y u) (sCmp op x y) := fun prog w E Q q => by
  cases op with
  | Lt => exact (PySem.P.lt_str q : wpAny (model prog w) A (compareOp .Lt (.str x t) (.str y u)) Q E s)
  | LtE => exact (PySem.P.le_str (by simpa [sCmp] using q) : wpAny (model prog w) A (compareOp .LtE (.str x t) (.str y u)) Q E s)
  | Gt => exact (PySem.P.gt_str q : wpAny (model prog w) A (compareOp .Gt (.str x t) (.str y u)) Q E s)
  | GtE => exact (PySem.P.ge_str (by simpa [sCmp] using q) : wpAny (model prog w) A (compareOp .GtE (.str x t) (.str y u)) Q E s)
  | _ => cases h
def ItemsOp (op : CmpOp) (A : Around) (s : Shared) (vs ws : List Value) (ds es : List PyData) : Prop :=
  ∀ (i : Nat) (v w : Value) (d e : PyData), vs[i]? = some v → ws[i]? = some w → ds[i]? = some d → es[i]? = some e → SeqAt.EqAt A s v w (PyData.eqv d e) ∧ ∀ k, cmpD op d e = some k → RcOp op A s v w k
theorem tuple_lt_data (l b : Addr) (items items2 : Array Value) (n n2 : Nat) (dd dd2 : Option Addr) (sl sl2 : Array (Option Value)) (ds es : List PyData) (k : Bool) (hz1 : items.toList.length = ds.length) (hz2 : items2.toList.length = es.length) (hk : cmpL .Lt ds es = some k) :
    Meets (Builtin.«tuple.__lt__» ⟨[.ref l, .ref b], []⟩)
      (fun A R s => s.heap.get? l = some { cls := .type "tuple", dict := dd, data := .seq items n, slots := sl } ∧ s.heap.get? b = some { cls := .type "tuple", dict := dd2, data := .seq items2 n2, slots := sl2 } ∧
        ItemsOp .Lt A.in1 s items.toList items2.toList ds es ∧ R (.ok (.ret (.bool k))) s) :=
  .of_wp fun prog w A R s h => by
    obtain ⟨hp, g, d, tk, os⟩ := s; obtain ⟨hl, hb, hI, h⟩ := h
    have f2 := AutoSeq1.sub_tuple_tuple
    have z1 : items.size = ds.length := by rw [← hz1]; simp
    have z2 : items2.size = es.length := by rw [← hz2]; simp
    wp_walk using wpAny_loadPart' hl, wpAny_loadPart' hb, wpAny_forIn_list _ (fun rest b s' => b.1 = none ∧ s' = ⟨hp, g, d, tk, os⟩ ∧ ∃ (vs ws : List Value) (ds' es' : List PyData), rest = vs.zip ws ∧
      vs.length = ds'.length ∧ ws.length = es'.length ∧ ds'.length + items2.size = es'.length + items.size ∧ ItemsOp .Lt A.in1 ⟨hp, g, d, tk, os⟩ vs ws ds' es' ∧ cmpL .Lt ds' es' = some k) _
    case turn =>
      rintro ⟨y, x⟩ rest b s' ⟨hb', rfl, vs, ws, ds', es', hz, hv, hw, hlen, hI', hR⟩
      cases vs with
      | nil => rw [List.zip_nil_left] at hz; cases hz
      | cons v0 vs =>
        cases ws with
        | nil => rw [List.zip_nil_right] at hz; cases hz
        | cons w0 ws =>
          cases ds' with
          | nil => simp at hv
          | cons d0 ds' =>
            cases es' with
            | nil => simp at hw
            | cons e0 es' =>
              rw [List.zip_cons_cons] at hz
              injection hz with hyx hrest
              injection hyx with hy hx
              subst hy hx
              simp only [List.length_cons] at hlen hv hw
              obtain ⟨he, hc⟩ := hI' 0 y x d0 e0 rfl rfl rfl rfl
              have hI2 : ItemsOp .Lt A.in1 ⟨hp, g, d, tk, os⟩ vs ws ds' es' := fun i v w d e h1 h2 h3 h4 => hI' (i + 1) v w d e (by simpa using h1) (by simpa using h2) (by simpa using h3) (by simpa using h4)
              rw [cmpL] at hR
              refine wpAny_bind (he prog w _ _ ?_)
              cases q : PyData.eqv d0 e0 with
              | true =>
                rw [q, if_pos rfl] at hR
                wp_walk
                exact ⟨rfl, rfl, _, _, _, _, hrest, by omega, by omega, by omega, hI2, hR⟩
              | false =>
                rw [q, if_neg (by decide)] at hR
                have hri := hc k hR prog w
                wp_walk using hri
                exact ⟨_, rfl, by simpa using h⟩
    case fin =>
      rintro ⟨b1, b2⟩ s' ⟨hb', rfl, vs, ws, ds', es', hz, hv, hw, hlen, hI', hR⟩
      simp only at hb'
      subst hb'
      have hv' : k = decide (items.size < items2.size) := by
        cases ds' with
        | nil =>
          rw [cmpL] at hR
          have := Option.some.inj hR
          rw [← this]
          simp only [List.length_nil] at hlen
          simp only [zCmp]
          exact decide_eq_decide.mpr (by omega)
        | cons d0 ds' =>
          cases es' with
          | nil =>
            rw [cmpL] at hR
            have := Option.some.inj hR
            rw [← this]
            simp only [List.length_nil, List.length_cons] at hlen
            simp only [zCmp]
            exact decide_eq_decide.mpr (by omega)
          | cons e0 es' =>
            cases vs with
            | nil => simp at hv
            | cons v0 vs =>
              cases ws with
              | nil => simp at hw
              | cons w0 ws => rw [List.zip_cons_cons] at hz; cases hz
      rw [hv'] at h
      wp_walk
      exact ⟨_, rfl, by simpa [Builtin.Tuple.tupleCompareSizes] using h⟩
    case h =>
      exact ⟨rfl, rfl, items.toList, items2.toList, ds, es, rfl, hz1, hz2, by omega, hI, hk⟩
theorem tuple_le_data (l b : Addr) (items items2 : Array Value) (n n2 : Nat) (dd dd2 : Option Addr) (sl sl2 : Array (Option Value)) (ds es : List PyData) (k : Bool) (hz1 : items.toList.length = ds.length) (hz2 : items2.toList.length = es.length) (hk : cmpL .LtE ds es = some k) :
    Meets (Builtin.«tuple.__le__» ⟨[.ref l, .ref b], []⟩)
      (fun A R s => s.heap.get? l = some { cls := .type "tuple", dict := dd, data := .seq items n, slots := sl } ∧ s.heap.get? b = some { cls := .type "tuple", dict := dd2, data := .seq items2 n2, slots := sl2 } ∧
        ItemsOp .LtE A.in1 s items.toList items2.toList ds es ∧ R (.ok (.ret (.bool k))) s) :=
  .of_wp fun prog w A R s h => by
    obtain ⟨hp, g, d, tk, os⟩ := s; obtain ⟨hl, hb, hI, h⟩ := h
    have f2 := AutoSeq1.sub_tuple_tuple
    have z1 : items.size = ds.length := by rw [← hz1]; simp
    have z2 : items2.size = es.length := by rw [← hz2]; simp
    wp_walk using wpAny_loadPart' hl, wpAny_loadPart' hb, wpAny_forIn_list _ (fun rest b s' => b.1 = none ∧ s' = ⟨hp, g, d, tk, os⟩ ∧ ∃ (vs ws : List Value) (ds' es' : List PyData), rest = vs.zip ws ∧
      vs.length = ds'.length ∧ ws.length = es'.length ∧ ds'.length + items2.size = es'.length + items.size ∧ ItemsOp .LtE A.in1 ⟨hp, g, d, tk, os⟩ vs ws ds' es' ∧ cmpL .LtE ds' es' = some k) _
    case turn =>
      rintro ⟨y, x⟩ rest b s' ⟨hb', rfl, vs, ws, ds', es', hz, hv, hw, hlen, hI', hR⟩
      cases vs with
      | nil => rw [List.zip_nil_left] at hz; cases hz
      | cons v0 vs =>
        cases ws with
        | nil => rw [List.zip_nil_right] at hz; cases hz
        | cons w0 ws =>
          cases ds' with
          | nil => simp at hv
          | cons d0 ds' =>
            cases es' with
            | nil => simp at hw
            | cons e0 es' =>
              rw [List.zip_cons_cons] at hz
              injection hz with hyx hrest
              injection hyx with hy hx
              subst hy hx
              simp only [List.length_cons] at hlen hv hw
              obtain ⟨he, hc⟩ := hI' 0 y x d0 e0 rfl rfl rfl rfl
              have hI2 : ItemsOp .LtE A.in1 ⟨hp, g, d, tk, os⟩ vs ws ds' es' := fun i v w d e h1 h2 h3 h4 => hI' (i + 1) v w d e (by simpa using h1) (by simpa using h2) (by simpa using h3) (by simpa using h4)
              rw [cmpL] at hR
              refine wpAny_bind (he prog w _ _ ?_)
              cases q : PyData.eqv d0 e0 with
              | true =>
                rw [q, if_pos rfl] at hR
                wp_walk
                exact ⟨rfl, rfl, _, _, _, _, hrest, by omega, by omega, by omega, hI2, hR⟩
              | false =>
                rw [q, if_neg (by decide)] at hR
                have hri := hc k hR prog w
                wp_walk using hri
                exact ⟨_, rfl, by simpa using h⟩
    case fin =>
      rintro ⟨b1, b2⟩ s' ⟨hb', rfl, vs, ws, ds', es', hz, hv, hw, hlen, hI', hR⟩
      simp only at hb'
      subst hb'
      have hv' : k = decide (items.size ≤ items2.size) := by
        cases ds' with
        | nil =>
          rw [cmpL] at hR
          have := Option.some.inj hR
          rw [← this]
          simp only [List.length_nil] at hlen
          simp only [zCmp]
          exact decide_eq_decide.mpr (by omega)
        | cons d0 ds' =>
          cases es' with
          | nil =>
            rw [cmpL] at hR
            have := Option.some.inj hR
            rw [← this]
            simp only [List.length_nil, List.length_cons] at hlen
            simp only [zCmp]
            exact decide_eq_decide.mpr (by omega)
          | cons e0 es' =>
            cases vs with
            | nil => simp at hv
            | cons v0 vs =>
              cases ws with
              | nil => simp at hw
              | cons w0 ws => rw [List.zip_cons_cons] at hz; cases hz
      rw [hv'] at h
      wp_walk
      exact ⟨_, rfl, by simpa [Builtin.Tuple.tupleCompareSizes] using h⟩
    case h =>
      exact ⟨rfl, rfl, items.toList, items2.toList, ds, es, rfl, hz1, hz2, by omega, hI, hk⟩
theorem rc_tuple {op : CmpOp} (ho : op = .Lt ∨ op = .LtE) {A : Around} {s : Shared} {l b : Addr} {items items2 : Array Value} {ds es : List PyData} {k : Bool} (hl : IsTup s.heap l items) (hb : IsTup s.heap b items2) (hz1 : items.toList.length = ds.length) (hz2 : items2.toList.length = es.length)
    (hI : ItemsOp op A.in1 s items.toList items2.toList ds es) (hk : cmpL op ds es = some k) (hu : A.units < cLine) : RcOp op A s (.ref l) (.ref b) k := fun prog w E Q q => by
  obtain ⟨⟨cls, dd, data, sl⟩, ho1, hc, n, hd⟩ := id hl
  obtain ⟨⟨cls2, dd2, data2, sl2⟩, ho2, hc2, n2, hd2⟩ := id hb
  simp only at hc hd hc2 hd2
  subst hc hd hc2 hd2
  rcases ho with rfl | rfl
  · exact richCompare_meets_room (op := .Lt) ⟨_, ho1, rfl⟩ ⟨_, ho2, rfl⟩ PySem.F.slot_tuple_lt PySem.F.entry_tuple_lt (PySem.F.args_tuple_lt_2 _ _) (tuple_lt_data l b items items2 n n2 dd dd2 sl sl2 ds es k hz1 hz2 hk)
      ⟨ho1, ho2, hI, show Value.bool k ≠ Value.notImplemented ∧ Q (.bool k) s from ⟨(fun x => nomatch x), q⟩⟩ hu
  · exact richCompare_meets_room (op := .LtE) ⟨_, ho1, rfl⟩ ⟨_, ho2, rfl⟩ PySem.F.slot_tuple_le PySem.F.entry_tuple_le (PySem.F.args_tuple_le_2 _ _) (tuple_le_data l b items items2 n n2 dd dd2 sl sl2 ds es k hz1 hz2 hk)
      ⟨ho1, ho2, hI, show Value.bool k ≠ Value.notImplemented ∧ Q (.bool k) s from ⟨(fun x => nomatch x), q⟩⟩ hu
mutual
theorem rc_data {op : CmpOp} (ho : op = .Lt ∨ op = .LtE) : ∀ (a b : PyData) (A : Around) (s : Shared) (u v : Value) (as bs : List Addr) (k : Bool), Reads s.heap u a as → Reads s.heap v b bs → a.canLay0 = true → b.canLay0 = true → A.units + a.depth < cLine → cmpD op a b = some k → RcOp op A s u v k
  | .int i, b, A, s, _, _, _, _, k, ra, rb, _, _, _, e => by
    have oo : ordOp op = true := by rcases ho with rfl | rfl <;> rfl
    cases b with
    | int j => cases ra; cases rb; cases e; exact rc_int oo A s i j _ _
    | _ => cases e
  | .str x, b, A, s, _, _, _, _, k, ra, rb, _, _, _, e => by
    have oo : ordOp op = true := by rcases ho with rfl | rfl <;> rfl
    cases b with
    | str j => cases ra; cases rb; cases e; exact rc_str oo A s x j _ _
    | _ => cases e
  | .tuple xs, b, A, s, _, _, _, _, k, ra, rb, ha, hb, hu, e => by
    cases b with
    | tuple ys =>
      cases ra with
      | tuple h1 h2 h3 h4 =>
        cases rb with
        | tuple k1 k2 k3 k4 =>
          have hu' : A.units + (PyData.depthAll xs + 1) < cLine := hu
          refine rc_tuple ho ⟨_, h1, h2, _, h3⟩ ⟨_, k1, k2, _, k3⟩ (SeqAt.ReadsAll.length _ _ _ h4) (SeqAt.ReadsAll.length _ _ _ k4) ?_ e (by omega)
          exact rc_dataL ho xs ys A.in1 s _ _ _ _ h4 k4 ha hb (by show A.units + 1 + _ < _; omega)
    | _ => cases e
  | .none, b, _, _, _, _, _, _, _, _, _, _, _, _, e => by cases b <;> cases e
  | .bool _, b, _, _, _, _, _, _, _, _, _, _, _, _, e => by cases b <;> cases e
  | .list _, b, _, _, _, _, _, _, _, _, _, _, _, _, e => by cases b <;> cases e
  | .dict _, b, _, _, _, _, _, _, _, _, _, _, _, _, e => by cases b <;> cases e
theorem rc_dataL {op : CmpOp} (ho : op = .Lt ∨ op = .LtE) : ∀ (xs ys : List PyData) (A : Around) (s : Shared) (vs ws : List Value) (as bs : List Addr), ReadsAll s.heap vs xs as → ReadsAll s.heap ws ys bs → PyData.canLayAll0 xs = true → PyData.canLayAll0 ys = true → A.units + PyData.depthAll xs < cLine → ItemsOp op A s vs ws xs ys
  | [], _, _, _, _, _, _, _, _, _, _, _, _ => fun i v w d e h1 h2 h3 h4 => by simp at h3
  | _ :: _, [], _, _, _, _, _, _, _, _, _, _, _ => fun i v w d e h1 h2 h3 h4 => by simp at h4
  | x :: xs, y :: ys, A, s, _, _, _, _, ra, rb, ha, hb, hu => by
    have ha' : x.canLay0 = true ∧ PyData.canLayAll0 xs = true := by simpa [PyData.canLayAll0] using ha
    have hb' : y.canLay0 = true ∧ PyData.canLayAll0 ys = true := by simpa [PyData.canLayAll0] using hb
    have hu' : A.units + max x.depth (PyData.depthAll xs) < cLine := hu
    cases ra with
    | cons r1 r2 =>
      cases rb with
      | cons q1 q2 =>
        intro i v w d e h1 h2 h3 h4
        cases i with
        | zero =>
          simp at h1 h2 h3 h4
          subst h1 h2 h3 h4
          exact ⟨SeqAt.eqAt_reads _ _ _ _ _ _ _ _ r1 q1 ha'.1 hb'.1 (by omega), fun k hk => rc_data ho _ _ A s _ _ _ _ k r1 q1 ha'.1 hb'.1 (by omega) hk⟩
        | succ i => exact rc_dataL ho xs ys A s _ _ _ _ r2 q2 ha'.2 hb'.2 (by omega) i v w d e (by simpa using h1) (by simpa using h2) (by simpa using h3) (by simpa using h4)
end
def dCmp (op : CmpOp) (a b : PyData) : Option PyData := if a.depth ≤ 60 then (cmpD op a b).map .bool else none
def rCmpD (op : CmpOp) : R2 := fun x y H Q => ∃ G a b k, Same G H ∧ Rep G a x ∧ Rep G b y ∧ a.depth ≤ 60 ∧ cmpD op a b = some k ∧ Q (.bl k) H
section
variable {X : Cx}
theorem op_cmpD {op : CmpOp} (ho : op = .Lt ∨ op = .LtE) (hu : X.A.units + 64 < cLine) : OpR X (compareOp op) (rCmpD op) := by
  intro pins s σ H x y v u Q I rx ry ⟨G, a, b, k, hG, ra, rb, hd, e, q⟩
  obtain ⟨as, r1⟩ := ra.reads I hG rx
  obtain ⟨bs, r2⟩ := rb.reads I hG ry
  have := rc_data ho a b X.A s v u as bs k r1 r2 ra.lay rb.lay (by omega) e X.prog X.w X.xe (EP X pins σ Q) ⟨.bl k, H, I, rfl, q⟩
  rcases ho with rfl | rfl
  · exact this
  · exact this
theorem op_cmpS {op : CmpOp} (ho : op = .Gt ∨ op = .GtE) : OpR X (compareOp op) (fun x y H Q => ∃ i j, x = .int i ∧ y = .int j ∧ Q (.bl (iCmp op i j)) H) := by
  intro pins s σ H x y v u Q I rx ry ⟨i, j, e1, e2, q⟩
  subst e1 e2
  obtain ⟨t, rfl⟩ := rx
  obtain ⟨t', rfl⟩ := ry
  rcases ho with rfl | rfl
  · exact gt_int ⟨.bl _, H, I, rfl, q⟩
  · exact ge_int ⟨.bl _, H, I, rfl, q⟩
theorem opD_cmp {op : CmpOp} : OpD (rCmpD op) (dCmp op) := by
  intro G H x y a b d Q hG ra rb e q
  unfold dCmp at e
  split at e
  · rename_i h
    cases e1 : cmpD op a b with
    | none => rw [e1] at e; cases e
    | some k => rw [e1] at e; cases e; exact ⟨G, a, b, k, hG, ra, rb, h, e1, q _ G H (Grow.refl hG) rfl⟩
  · cases e
def dCmpS (op : CmpOp) : PyData → PyData → Option PyData
  | .int i, .int j => some (.bool (iCmp op i j))
  | _, _ => none
theorem opD_cmpS {op : CmpOp} : OpD (fun x y H Q => ∃ i j, x = .int i ∧ y = .int j ∧ Q (.bl (iCmp op i j)) H) (dCmpS op) := by
  intro G H x y a b d Q hG ra rb e q
  cases a with
  | int i => cases b with
    | int j => cases e; cases (show _ = _ from ra); cases (show _ = _ from rb); exact ⟨i, j, rfl, rfl, q _ G H (Grow.refl hG) rfl⟩
    | _ => cases e
  | _ => cases e
end
end Sm
end
section
set_option Elab.async false
set_option linter.all false
set_option maxRecDepth 100000
set_option maxHeartbeats 4000000
set_option autoImplicit false
namespace Sm
open PySem PySem.Spec PyProof.Rows L2
theorem Res.bind_assoc {α β γ : Type} (r : Res α) (f : α → Res β) (g : β → Res γ) : (r.bind f).bind g = r.bind fun x => (f x).bind g := by cases r <;> rfl
structure Cxt (P : Program) (w : World) (K : PySem.W.Frag) (mg : Str → Option Value) (base : Heap) (X : Cx) (N : List Str) (sc : Scope) (k : Nat) (df : Bool) : Prop where
  hP : X.prog = P
  hw : X.w = w
  hK : X.K = K
  hmg : X.mg = mg
  hb : X.base = base
  hN : X.N = N
  hs : X.env.scope = sc
  calm : X.calm = true
  room : Room k X.A
  fn : df = true → ∀ x, X.fn x = true
  own : PassesOwn (model X.prog X.w) X.A X.env X.xe
def relS (scope sc : Scope) : Scope :=
  { scope with names := scope.names.map fun (n, k) => if (k == .free && sc.kind == .function && sc.names.lookup n == some .cell) then (n, .cell) else (n, k) }
theorem relS_eq {X : Cx} {scope sc : Scope} (h : X.env.scope = sc) : relabel scope X.env = relS scope sc := by subst h; rfl
section
variable {P : Program} {w : World} {K : PySem.W.Frag} {mg : Str → Option Value} {base : Heap} {X : Cx} {N : List Str} {sc : Scope} {k : Nat} {df : Bool} {E : EK} {pos : Pos}
theorem Cxt.blk (C : Cxt P w K mg base X N sc k df) {X' : Cx} {N' : List Str} {scope : Scope} (B : Blk X X' N' (relabel scope X.env)) : Cxt P w K mg base X' N' (relS scope sc) k false :=
  ⟨B.prog.trans C.hP, B.w.trans C.hw, B.K.trans C.hK, B.mg.trans C.hmg, B.base.trans C.hb, B.N, B.sc.trans (relS_eq C.hs), B.calm.trans C.calm, by rw [B.A]; exact C.room, (fun h => by cases h), by rw [B.xe]; exact PassesOwn.never⟩
theorem Cxt.hu (C : Cxt P w K mg base X N sc k df) : X.A.units + 64 < cLine := C.room.units
def okVar (N : List Str) (sc : Scope) (i : Nat) (x : Str) : Bool :=
  (N[i]? == some x) && (match sc.names.lookup x with | some .local => true | some .cell => true | some .free => true | _ => false) && !(x == ("__debug__" : Str)) && !(x == ("__classdict__" : Str))
theorem d_var (C : Cxt P w K mg base X N sc k df) (i : Nat) {x : Str} (h : okVar N sc i x = true) : DE X E (.Name x pos) (vVar i) := by
  unfold okVar at h
  simp only [Bool.and_eq_true, Bool.not_eq_true'] at h
  obtain ⟨⟨⟨h1, h2⟩, h3⟩, h4⟩ := h
  refine d_var' (by rw [C.hN]; exact eq_of_beq h1) ?_ h3 h4
  rw [C.hs]
  unfold Vis
  cases q : sc.names.lookup x with
  | none => rw [q] at h2; cases h2
  | some z =>
    rw [q] at h2
    cases z with
    | «local» => exact .inl rfl
    | cell => exact .inr (.inl rfl)
    | free => exact .inr (.inr rfl)
    | _ => cases h2
def okGl (sc : Scope) (x : Str) : Bool := (sc.names.lookup x == some .globalImplicit) && !(x == ("__debug__" : Str)) && !(x == ("__name__" : Str))
theorem okGl.gl (C : Cxt P w K mg base X N sc k df) {x : Str} (h : okGl sc x = true) : Gl X x ∧ (x == ("__debug__" : Str)) = false ∧ x ≠ "__name__" := by
  unfold okGl at h
  simp only [Bool.and_eq_true, Bool.not_eq_true'] at h
  obtain ⟨⟨h1, h2⟩, h3⟩ := h
  refine ⟨?_, h2, by simpa using h3⟩
  unfold Gl
  show X.env.scope.names.lookup x = _
  rw [C.hs]; exact eq_of_beq h1
theorem d_globS (C : Cxt P w K mg base X N sc k df) {x z : Str} (h : okGl sc x = true) (hm : ∃ t, mg x = some (.str z t)) (hz : PyData.strOk z = true := by decide +kernel) (hl : z.length ≤ sizeLine := by decide +kernel) : DE X E (.Name x pos) (vC (.str z)) := by
  obtain ⟨t, hm⟩ := hm
  obtain ⟨h1, h2, h3⟩ := okGl.gl C h
  exact PE.imp (pe_glob (v := .str z) h1 (by rw [C.hmg]; exact hm) ⟨t, rfl⟩ h2) fun σ H Q ⟨G, δ, S, a⟩ => a _ G H (Grow.refl S.sub) ⟨rfl, hz, hl⟩
theorem d_globI (C : Cxt P w K mg base X N sc k df) {x : Str} {i : Int} (h : okGl sc x = true) (hm : ∃ t, mg x = some (.int i t)) : DE X E (.Name x pos) (vC (.int i)) := by
  obtain ⟨t, hm⟩ := hm
  obtain ⟨h1, h2, h3⟩ := okGl.gl C h
  exact PE.imp (pe_glob (v := .int i) h1 (by rw [C.hmg]; exact hm) ⟨t, rfl⟩ h2) fun σ H Q ⟨G, δ, S, a⟩ => a _ G H (Grow.refl S.sub) rfl
variable {a b c : Expr} {f g f' : Dn → Res PyData}
theorem d_add (ha : DE X E a f) (hb : DE X E b g) : DE X E (.BinOp a .Add b pos) (b2 f g dAdd) := d_bin op_addD opD_add ha hb
theorem d_sub (ha : DE X E a f) (hb : DE X E b g) : DE X E (.BinOp a .Sub b pos) (b2 f g dSub) := d_bin op_sub opD_sub ha hb
theorem d_mul (ha : DE X E a f) (hb : DE X E b g) : DE X E (.BinOp a .Mult b pos) (b2 f g dMul) := d_bin op_mulD opD_mul ha hb
theorem d_mod (ha : DE X E a f) (hb : DE X E b g) : DE X E (.BinOp a .Mod b pos) (b2 f g dMod) := d_bin op_mod opD_mod ha hb
theorem d_fdiv (ha : DE X E a f) (hb : DE X E b g) : DE X E (.BinOp a .FloorDiv b pos) (b2 f g dFdiv) := d_bin op_fdiv opD_fdiv ha hb
theorem d_pow (ha : DE X E a f) (hb : DE X E b g) : DE X E (.BinOp a .Pow b pos) (b2 f g dPow) := d_bin op_pow opD_pow ha hb
theorem d_eq (C : Cxt P w K mg base X N sc k df) (ha : DE X E a f) (hb : DE X E b g) : DE X E (.Compare a [.Eq] [b] pos) (b2 f g dEq) := d_cmp (op_eqD C.hu) opD_eq ha hb (nomark _)
theorem d_ne (C : Cxt P w K mg base X N sc k df) (ha : DE X E a f) (hb : DE X E b g) : DE X E (.Compare a [.NotEq] [b] pos) (b2 f g dNe) := d_cmp (op_neD C.hu) opD_ne ha hb (nomark _)
theorem d_lt (C : Cxt P w K mg base X N sc k df) (ha : DE X E a f) (hb : DE X E b g) : DE X E (.Compare a [.Lt] [b] pos) (b2 f g (dCmp .Lt)) := d_cmp (op_cmpD (.inl rfl) C.hu) opD_cmp ha hb (nomark _)
theorem d_le (C : Cxt P w K mg base X N sc k df) (ha : DE X E a f) (hb : DE X E b g) : DE X E (.Compare a [.LtE] [b] pos) (b2 f g (dCmp .LtE)) := d_cmp (op_cmpD (.inr rfl) C.hu) opD_cmp ha hb (nomark _)
theorem d_gt (C : Cxt P w K mg base X N sc k df) (ha : DE X E a f) (hb : DE X E b g) : DE X E (.Compare a [.Gt] [b] pos) (b2 f g (dCmpS .Gt)) := d_cmp (op_cmpS (.inl rfl)) opD_cmpS ha hb (nomark _)
theorem d_ge (C : Cxt P w K mg base X N sc k df) (ha : DE X E a f) (hb : DE X E b g) : DE X E (.Compare a [.GtE] [b] pos) (b2 f g (dCmpS .GtE)) := d_cmp (op_cmpS (.inr rfl)) opD_cmpS ha hb (nomark _)
theorem d_in (C : Cxt P w K mg base X N sc k df) (ha : DE X E a f) (hb : DE X E b g) (hm : behindInMarks .In b = false := by with_unfolding_all rfl) : DE X E (.Compare a [.In] [b] pos) (b2 f g (dIn false)) := d_cmp (op_inD C.hu) opD_in ha hb hm
theorem d_notIn (C : Cxt P w K mg base X N sc k df) (ha : DE X E a f) (hb : DE X E b g) (hm : behindInMarks .NotIn b = false := by with_unfolding_all rfl) : DE X E (.Compare a [.NotIn] [b] pos) (b2 f g (dIn true)) := d_cmp (op_notInD C.hu) opD_in ha hb hm
def vChain (f g f' : Dn → Res PyData) (op op' : PyData → PyData → Option PyData) : Dn → Res PyData := fun δ => (f δ).bind fun x => (g δ).bind fun y => (ofO (op x y)).bind fun z => match z with
  | .bool true => (f' δ).bind fun u => ofO (op' y u)
  | .bool false => .ok (.bool false)
  | _ => .no
theorem d_chain' {o o' : CmpOp} {r r' : R2} {op op' : PyData → PyData → Option PyData} (hr : OpR X (compareOp o) r) (ho : OpD r op) (hr' : OpR X (compareOp o') r') (ho' : OpD r' op') (ha : DE X E a f) (hb : DE X E b g) (hc : DE X E c f')
    (hm : lastMarks [o, o'] [b, c] = false) : DE X E (.Compare a [o, o'] [b, c] pos) (vChain f g f' op op') := by
  refine PE.imp (pe_chain hr hr' ha hb hc hm) fun σ H Q ⟨G, δ, S, aft⟩ => ?_
  refine aft_bind S aft fun d1 v1 G1 H1 g1 r1 S1 a1 => ?_
  refine aft_bind S1 a1 fun d2 v2 G2 H2 g2 r2 S2 a2 => ?_
  cases e : op d1 d2 with
  | none => rw [e] at a2; exact a2.elim
  | some d =>
    rw [e] at a2
    refine ho G2 H2 v1 v2 d1 d2 d _ S2.sub (r1.mono g2.g) r2 e fun v G3 H3 g3 r3 => ?_
    cases d with
    | bool kk =>
      refine ⟨kk, r3, ?_⟩
      have S3 := S2.grow g3
      cases kk with
      | false => rw [if_neg (by decide)]; exact a2 _ G3 H3 g3 rfl
      | true =>
        rw [if_pos rfl]
        refine aft_bind S3 (Aft.grow g3 a2) fun d4 v4 G4 H4 g4 r4 S4 a4 => ?_
        cases e' : op' d2 d4 with
        | none => rw [e'] at a4; exact a4.elim
        | some d => rw [e'] at a4; exact ho' G4 H4 v2 v4 d2 d4 d Q S4.sub (r2.mono (g3.g.trans g4.g)) r4 e' a4
    | _ => exact (show False from a2).elim
theorem d_chainLe (C : Cxt P w K mg base X N sc k df) (ha : DE X E a f) (hb : DE X E b g) (hc : DE X E c f') (hm : lastMarks [.LtE, .LtE] [b, c] = false := by with_unfolding_all rfl) : DE X E (.Compare a [.LtE, .LtE] [b, c] pos) (vChain f g f' (dCmp .LtE) (dCmp .LtE)) :=
  d_chain' (op_cmpD (.inr rfl) C.hu) opD_cmp (op_cmpD (.inr rfl) C.hu) opD_cmp ha hb hc hm
theorem d_chainLeLt (C : Cxt P w K mg base X N sc k df) (ha : DE X E a f) (hb : DE X E b g) (hc : DE X E c f') (hm : lastMarks [.LtE, .Lt] [b, c] = false := by with_unfolding_all rfl) : DE X E (.Compare a [.LtE, .Lt] [b, c] pos) (vChain f g f' (dCmp .LtE) (dCmp .Lt)) :=
  d_chain' (op_cmpD (.inr rfl) C.hu) opD_cmp (op_cmpD (.inl rfl) C.hu) opD_cmp ha hb hc hm
def isNone : PyData → Bool
  | .none => true
  | _ => false
def b1 (f : Dn → Res PyData) (op : PyData → Option PyData) : Dn → Res PyData := fun δ => (f δ).bind fun x => ofO (op x)
theorem Rep.non {G : Hp} {d : PyData} {v : V} (r : Rep G d v) : decide (v = .non) = isNone d := by
  cases d with
  | none => cases (show _ = _ from r); rfl
  | bool _ => cases (show _ = _ from r); rfl
  | int _ => cases (show _ = _ from r); rfl
  | str _ => cases r.1; rfl
  | list _ => obtain ⟨a, xs, rfl, _⟩ := r; rfl
  | tuple _ => obtain ⟨a, xs, rfl, _⟩ := r; rfl
  | dict _ => exact (show False from r).elim
theorem d_isN {j : Nat} {p : Pos} (ha : DE X E a f) : DE X E (.Compare a [.Is] [.Constant .none j p] pos) (b1 f fun d => some (.bool (isNone d))) := by
  refine PE.imp (pe_cmp (pc_isN ha)) fun σ H Q ⟨G, δ, S, aft⟩ => ?_
  exact aft_bind S aft fun d1 v1 G1 H1 g1 r1 S1 a1 => by rw [r1.non]; exact a1 _ G1 H1 (Grow.refl S1.sub) rfl
theorem d_notN {j : Nat} {p : Pos} (ha : DE X E a f) : DE X E (.Compare a [.IsNot] [.Constant .none j p] pos) (b1 f fun d => some (.bool (!isNone d))) := by
  refine PE.imp (pe_cmp (pc_notN ha)) fun σ H Q ⟨G, δ, S, aft⟩ => ?_
  exact aft_bind S aft fun d1 v1 G1 H1 g1 r1 S1 a1 => by rw [r1.non]; exact a1 _ G1 H1 (Grow.refl S1.sub) rfl
def dNeg : PyData → Option PyData
  | .int i => some (.int (-i))
  | _ => none
theorem d_neg (ha : DE X E a f) : DE X E (.UnaryOp .USub a pos) (b1 f dNeg) := by
  refine PE.imp (pe_un un_neg ha) fun σ H Q ⟨G, δ, S, aft⟩ => ?_
  refine aft_bind S aft fun d1 v1 G1 H1 g1 r1 S1 a1 => ?_
  cases d1 with
  | int i => cases (show _ = _ from r1); exact ⟨i, rfl, a1 _ G1 H1 (Grow.refl S1.sub) rfl⟩
  | _ => exact (show False from a1).elim
def vAnd (f g : Dn → Res PyData) : Dn → Res PyData := fun δ => (f δ).bind fun x => match x with
  | .bool true => g δ
  | .bool false => .ok (.bool false)
  | _ => .no
def vOr (f g : Dn → Res PyData) : Dn → Res PyData := fun δ => (f δ).bind fun x => match x with
  | .bool false => g δ
  | .bool true => .ok (.bool true)
  | _ => .no
def dNot : PyData → Option PyData
  | .bool b => some (.bool (!b))
  | _ => none
variable {rest : List Expr}
theorem d_one {op : BoolOp} (ha : DE X E a f) : DE X E (.BoolOp op [a] pos) f := pe_one ha
theorem d_and (ha : DE X E a f) (hb : DE X E (.BoolOp .And (b :: rest) pos) g) : DE X E (.BoolOp .And (a :: b :: rest) pos) (vAnd f g) := by
  refine PE.imp (pe_and ha hb) fun σ H Q ⟨G, δ, S, aft⟩ => ?_
  refine aft_bind S aft fun d1 v1 G1 H1 g1 r1 S1 a1 => ?_
  cases d1 with
  | bool kk =>
    refine ⟨kk, r1, ?_⟩
    cases kk with
    | true => rw [if_pos rfl]; exact ⟨G1, δ, S1, a1⟩
    | false => rw [if_neg (by decide)]; exact a1 _ G1 H1 (Grow.refl S1.sub) rfl
  | _ => exact (show False from a1).elim
theorem d_or (ha : DE X E a f) (hb : DE X E (.BoolOp .Or (b :: rest) pos) g) : DE X E (.BoolOp .Or (a :: b :: rest) pos) (vOr f g) := by
  refine PE.imp (pe_or ha hb) fun σ H Q ⟨G, δ, S, aft⟩ => ?_
  refine aft_bind S aft fun d1 v1 G1 H1 g1 r1 S1 a1 => ?_
  cases d1 with
  | bool kk =>
    refine ⟨kk, r1, ?_⟩
    cases kk with
    | true => rw [if_pos rfl]; exact a1 _ G1 H1 (Grow.refl S1.sub) rfl
    | false => rw [if_neg (by decide)]; exact ⟨G1, δ, S1, a1⟩
  | _ => exact (show False from a1).elim
theorem d_not (ha : DE X E a f) : DE X E (.UnaryOp .Not a pos) (b1 f dNot) := by
  refine PE.imp (pe_not ha) fun σ H Q ⟨G, δ, S, aft⟩ => ?_
  refine aft_bind S aft fun d1 v1 G1 H1 g1 r1 S1 a1 => ?_
  cases d1 with
  | bool kk => exact ⟨kk, r1, a1 _ G1 H1 (Grow.refl S1.sub) rfl⟩
  | _ => exact (show False from a1).elim
def AftT (E : EK) (G H : Hp) (r : Res Bool) (Q : Bool → Hp → Prop) : Prop := match r with
  | .ok d => ∀ G' H', Grow G H G' H' → Q d H'
  | .exc c => ∀ G' H', Grow G H G' H' → E c H'
  | .no => False
def tT (E : EK) (f : Dn → Res Bool) : TT := fun σ H Q => ∃ G δ, SR G H σ δ ∧ AftT E G H (f δ) Q
abbrev DT (X : Cx) (E : EK) (e : Expr) (f : Dn → Res Bool) : Prop := PT X e (tT E f)
abbrev DW (X : Cx) (E : EK) (e : Expr) (f : Dn → Res Bool) : Prop := PW X e (tT E f)
theorem AftT.grow {E : EK} {G H G' H' : Hp} {r : Res Bool} {Q : Bool → Hp → Prop} (g : Grow G H G' H') (a : AftT E G H r Q) : AftT E G' H' r Q := by
  cases r with
  | ok d => exact fun G2 H2 g2 => a G2 H2 (g.trans g2)
  | exc c => exact fun G2 H2 g2 => a G2 H2 (g.trans g2)
  | no => exact a
theorem PT.imp {X : Cx} {e : Expr} {t t' : TT} (h : PT X e t) (i : ∀ σ H Q, t' σ H Q → t σ H Q) : PT X e t' := fun pins s σ H Q I q => h pins s σ H Q I (i _ _ _ q)
theorem PW.imp {X : Cx} {e : Expr} {t t' : TT} (h : PW X e t) (i : ∀ σ H Q, t' σ H Q → t σ H Q) : PW X e t' := fun wh pins s σ H Q I q => h wh pins s σ H Q I (i _ _ _ q)
theorem aftT_bind {E : EK} {G H : Hp} {σ : St} {δ : Dn} {f : Dn → Res PyData} {k : PyData → Res Bool} {Q : Bool → Hp → Prop} {R : VK} (S : SR G H σ δ) (a : AftT E G H ((f δ).bind k) Q)
    (h : ∀ d v G1 H1, Grow G H G1 H1 → Rep G1 d v → SR G1 H1 σ δ → AftT E G1 H1 (k d) Q → R v H1) : tD E f σ H R := by
  refine ⟨G, δ, S, ?_⟩
  cases e : f δ with
  | ok d =>
    rw [e] at a
    exact fun v G' H' g r => h d v G' H' g r (S.grow g) (AftT.grow g a)
  | exc c => rw [e] at a; exact a
  | no => rw [e] at a; exact a
theorem aftTT_bind {E : EK} {G H : Hp} {σ : St} {δ : Dn} {f : Dn → Res Bool} {k : Bool → Res Bool} {Q R : Bool → Hp → Prop} (S : SR G H σ δ) (a : AftT E G H ((f δ).bind k) Q)
    (h : ∀ d G1 H1, Grow G H G1 H1 → SR G1 H1 σ δ → AftT E G1 H1 (k d) Q → R d H1) : tT E f σ H R := by
  refine ⟨G, δ, S, ?_⟩
  cases e : f δ with
  | ok d =>
    rw [e] at a
    exact fun G' H' g => h d G' H' g (S.grow g) (AftT.grow g a)
  | exc c => rw [e] at a; exact a
  | no => rw [e] at a; exact a
theorem aftTD_bind {E : EK} {G H : Hp} {σ : St} {δ : Dn} {f : Dn → Res Bool} {k : Bool → Res PyData} {Q : VK} {R : Bool → Hp → Prop} (S : SR G H σ δ) (a : Aft E G H ((f δ).bind k) Q)
    (h : ∀ d G1 H1, Grow G H G1 H1 → SR G1 H1 σ δ → Aft E G1 H1 (k d) Q → R d H1) : tT E f σ H R := by
  refine ⟨G, δ, S, ?_⟩
  cases e : f δ with
  | ok d =>
    rw [e] at a
    exact fun G' H' g => h d G' H' g (S.grow g) (Aft.grow g a)
  | exc c => rw [e] at a; exact a
  | no => rw [e] at a; exact a
def truD : PyData → Option Bool
  | .none => some false
  | .bool b => some b
  | .int i => some (i != 0)
  | .str x => some (x.length != 0)
  | .list xs => some (!xs.isEmpty)
  | .tuple xs => some (!xs.isEmpty)
  | .dict _ => none
def cVal (f : Dn → Res PyData) : Dn → Res Bool := fun δ => (f δ).bind fun d => ofO (truD d)
theorem RepL.isEmpty {G : Hp} {ds : List PyData} {xs : List V} (r : RepL G ds xs) : ds.isEmpty = xs.isEmpty := by
  have := r.length
  cases ds <;> cases xs <;> simp at this ⊢
theorem Rep.truV {G H : Hp} (hG : Same G H) {d : PyData} {v : V} (r : Rep G d v) {kk : Bool} (e : truD d = some kk) : TruV K v H kk := by
  cases d with
  | none => cases (show _ = _ from r); cases e; rfl
  | bool _ => cases (show _ = _ from r); cases e; rfl
  | int _ => cases (show _ = _ from r); cases e; rfl
  | str x =>
    cases r.1; cases e
    refine ⟨r.2.2, ?_⟩
    show (x.length != 0) = ((x.length : Int) != 0)
    rw [Bool.eq_iff_iff]; simp
  | list _ => obtain ⟨a, xs, rfl, h1, l1⟩ := r; cases e; exact .inl ⟨xs, .inl (Rd.mono hG h1), by rw [l1.isEmpty]⟩
  | tuple _ => obtain ⟨a, xs, rfl, h1, l1⟩ := r; cases e; exact .inr (.inl ⟨xs, .inl (.inl (hG _ _ h1)), by rw [l1.isEmpty]⟩)
  | dict _ => cases e
theorem t_val (ha : DE X E a f) (he : ∀ whole, isTrue a X.env whole = (do let v ← whole; standAt a.pos; holding [v] (truthy v)) := by intro _; rfl) : DT X E a (cVal f) := by
  refine PT.imp (pt_truth ha he) fun σ H Q ⟨G, δ, S, aft⟩ => ?_
  refine aftT_bind S aft fun d1 v1 G1 H1 g1 r1 S1 a1 => ?_
  cases e : truD d1 with
  | none => rw [e] at a1; exact a1.elim
  | some kk => rw [e] at a1; exact ⟨kk, r1.truV S1.sub e, a1 G1 H1 (Grow.refl S1.sub)⟩
theorem t_cmp' {o : CmpOp} {r : R2} {op : PyData → PyData → Option PyData} (hr : OpR X (compareOp o) r) (ho : OpD r op) (hbool : ∀ x y d, op x y = some d → ∃ kk, d = .bool kk) (ha : DE X E a f) (hb : DE X E b g) (hm : behindInMarks o b = false) :
    DT X E (.Compare a [o] [b] pos) (cVal (b2 f g op)) := by
  refine PT.imp (pt_cmpR hr ha hb hm) fun σ H Q ⟨G, δ, S, aft⟩ => ?_
  have aft' : AftT E G H ((f δ).bind fun x => (g δ).bind fun y => (ofO (op x y)).bind fun d => ofO (truD d)) Q := by
    unfold cVal b2 at aft
    simp only [Res.bind_assoc] at aft
    exact aft
  refine aftT_bind S aft' fun d1 v1 G1 H1 g1 r1 S1 a1 => ?_
  refine aftT_bind S1 a1 fun d2 v2 G2 H2 g2 r2 S2 a2 => ?_
  cases e : op d1 d2 with
  | none => rw [e] at a2; exact a2.elim
  | some d =>
    rw [e] at a2
    obtain ⟨kk, rfl⟩ := hbool _ _ _ e
    exact ho G2 H2 v1 v2 d1 d2 _ _ S2.sub (r1.mono g2.g) r2 e fun v G3 H3 g3 r3 => ⟨kk, r3, a2 G3 H3 g3⟩
theorem bool_eq (x y d : PyData) (e : dEq x y = some d) : ∃ kk, d = .bool kk := by unfold dEq at e; split at e <;> cases e; exact ⟨_, rfl⟩
theorem bool_ne (x y d : PyData) (e : dNe x y = some d) : ∃ kk, d = .bool kk := by unfold dNe at e; split at e <;> cases e; exact ⟨_, rfl⟩
theorem bool_cmp {op : CmpOp} (x y d : PyData) (e : dCmp op x y = some d) : ∃ kk, d = .bool kk := by
  unfold dCmp at e; split at e
  · obtain ⟨kk, _, rfl⟩ := Option.map_eq_some_iff.mp e; exact ⟨_, rfl⟩
  · cases e
theorem bool_cmpS {op : CmpOp} (x y d : PyData) (e : dCmpS op x y = some d) : ∃ kk, d = .bool kk := by
  cases x <;> cases y <;> first | cases e; exact ⟨_, rfl⟩ | cases e
theorem t_eq (C : Cxt P w K mg base X N sc k df) (ha : DE X E a f) (hb : DE X E b g) : DT X E (.Compare a [.Eq] [b] pos) (cVal (b2 f g dEq)) := t_cmp' (op_eqD C.hu) opD_eq bool_eq ha hb (nomark _)
theorem t_ne (C : Cxt P w K mg base X N sc k df) (ha : DE X E a f) (hb : DE X E b g) : DT X E (.Compare a [.NotEq] [b] pos) (cVal (b2 f g dNe)) := t_cmp' (op_neD C.hu) opD_ne bool_ne ha hb (nomark _)
theorem t_lt (C : Cxt P w K mg base X N sc k df) (ha : DE X E a f) (hb : DE X E b g) : DT X E (.Compare a [.Lt] [b] pos) (cVal (b2 f g (dCmp .Lt))) := t_cmp' (op_cmpD (.inl rfl) C.hu) opD_cmp bool_cmp ha hb (nomark _)
theorem t_le (C : Cxt P w K mg base X N sc k df) (ha : DE X E a f) (hb : DE X E b g) : DT X E (.Compare a [.LtE] [b] pos) (cVal (b2 f g (dCmp .LtE))) := t_cmp' (op_cmpD (.inr rfl) C.hu) opD_cmp bool_cmp ha hb (nomark _)
theorem t_gt (C : Cxt P w K mg base X N sc k df) (ha : DE X E a f) (hb : DE X E b g) : DT X E (.Compare a [.Gt] [b] pos) (cVal (b2 f g (dCmpS .Gt))) := t_cmp' (op_cmpS (.inl rfl)) opD_cmpS bool_cmpS ha hb (nomark _)
theorem t_ge (C : Cxt P w K mg base X N sc k df) (ha : DE X E a f) (hb : DE X E b g) : DT X E (.Compare a [.GtE] [b] pos) (cVal (b2 f g (dCmpS .GtE))) := t_cmp' (op_cmpS (.inr rfl)) opD_cmpS bool_cmpS ha hb (nomark _)
theorem t_in (C : Cxt P w K mg base X N sc k df) (ha : DE X E a f) (hb : DE X E b g) (hm : behindInMarks .In b = false := by with_unfolding_all rfl) : DT X E (.Compare a [.In] [b] pos) (cVal (b2 f g (dIn false))) := t_cmp' (op_inD C.hu) opD_in (fun _ _ _ e => dIn_bool e) ha hb hm
theorem t_notIn (C : Cxt P w K mg base X N sc k df) (ha : DE X E a f) (hb : DE X E b g) (hm : behindInMarks .NotIn b = false := by with_unfolding_all rfl) : DT X E (.Compare a [.NotIn] [b] pos) (cVal (b2 f g (dIn true))) := t_cmp' (op_notInD C.hu) opD_in (fun _ _ _ e => dIn_bool e) ha hb hm
theorem t_isN {j : Nat} {p : Pos} (ha : DE X E a f) : DT X E (.Compare a [.Is] [.Constant .none j p] pos) (fun δ => (f δ).bind fun d => .ok (isNone d)) := by
  refine PT.imp (pt_cmp (pc_isN ha)) fun σ H Q ⟨G, δ, S, aft⟩ => ?_
  exact aftT_bind S aft fun d1 v1 G1 H1 g1 r1 S1 a1 => by rw [r1.non]; exact ⟨_, rfl, a1 G1 H1 (Grow.refl S1.sub)⟩
theorem t_notN {j : Nat} {p : Pos} (ha : DE X E a f) : DT X E (.Compare a [.IsNot] [.Constant .none j p] pos) (fun δ => (f δ).bind fun d => .ok (!isNone d)) := by
  refine PT.imp (pt_cmp (pc_notN ha)) fun σ H Q ⟨G, δ, S, aft⟩ => ?_
  exact aftT_bind S aft fun d1 v1 G1 H1 g1 r1 S1 a1 => by rw [r1.non]; exact ⟨_, rfl, a1 G1 H1 (Grow.refl S1.sub)⟩
variable {c1 c2 : Dn → Res Bool}
def cNot (c : Dn → Res Bool) : Dn → Res Bool := fun δ => (c δ).bind fun b => .ok (!b)
def cAnd (c c' : Dn → Res Bool) : Dn → Res Bool := fun δ => (c δ).bind fun b => if b = true then c' δ else .ok false
def cOr (c c' : Dn → Res Bool) : Dn → Res Bool := fun δ => (c δ).bind fun b => if b = true then .ok true else c' δ
theorem t_not (ha : DT X E a c1) : DT X E (.UnaryOp .Not a pos) (cNot c1) := by
  refine PT.imp (pt_not ha) fun σ H Q ⟨G, δ, S, aft⟩ => ?_
  exact aftTT_bind S aft fun d G1 H1 g1 S1 a1 => a1 G1 H1 (Grow.refl S1.sub)
theorem w_and1 (ha : DT X E a c1) : DW X E (.BoolOp .And [a] pos) c1 := pw_and1 ha
theorem w_or1 (ha : DT X E a c1) : DW X E (.BoolOp .Or [a] pos) c1 := pw_or1 ha
theorem w_and (ha : DT X E a c1) (hb : DW X E (.BoolOp .And (b :: rest) pos) c2) : DW X E (.BoolOp .And (a :: b :: rest) pos) (cAnd c1 c2) := by
  refine PW.imp (pw_and ha hb) fun σ H Q ⟨G, δ, S, aft⟩ => ?_
  refine aftTT_bind S aft fun d G1 H1 g1 S1 a1 => ?_
  cases d with
  | true => rw [if_pos rfl]; exact ⟨G1, δ, S1, a1⟩
  | false => rw [if_neg (by decide)]; exact a1 G1 H1 (Grow.refl S1.sub)
theorem w_or (ha : DT X E a c1) (hb : DW X E (.BoolOp .Or (b :: rest) pos) c2) : DW X E (.BoolOp .Or (a :: b :: rest) pos) (cOr c1 c2) := by
  refine PW.imp (pw_or ha hb) fun σ H Q ⟨G, δ, S, aft⟩ => ?_
  refine aftTT_bind S aft fun d G1 H1 g1 S1 a1 => ?_
  cases d with
  | true => rw [if_pos rfl]; exact a1 G1 H1 (Grow.refl S1.sub)
  | false => rw [if_neg (by decide)]; exact ⟨G1, δ, S1, a1⟩
theorem w_t (h : DW X E a c1) : DT X E a c1 := h.pt
def vIf (c : Dn → Res Bool) (f g : Dn → Res PyData) : Dn → Res PyData := fun δ => (c δ).bind fun b => if b = true then f δ else g δ
theorem d_ifExp (hc : DT X E c c1) (ha : DE X E a f) (hb : DE X E b g) : DE X E (.IfExp c a b pos) (vIf c1 f g) := by
  refine PE.imp (pe_ifExp hc ha hb) fun σ H Q ⟨G, δ, S, aft⟩ => ?_
  refine aftTD_bind S aft fun d G1 H1 g1 S1 a1 => ?_
  cases d with
  | true => rw [if_pos rfl]; exact ⟨G1, δ, S1, a1⟩
  | false => rw [if_neg (by decide)]; exact ⟨G1, δ, S1, a1⟩
end
end Sm
end
section
set_option Elab.async false
set_option linter.all false
set_option maxRecDepth 100000
set_option maxHeartbeats 4000000
set_option autoImplicit false
namespace Sm
open PySem PySem.Spec PyProof.Rows L2
section
variable {P : Program} {w : World} {K : PySem.W.Frag} {mg : Str → Option Value} {base : Heap} {X : Cx} {N : List Str} {sc : Scope} {k : Nat} {df : Bool} {E : EK} {pos : Pos} {a b c e : Expr} {es : List Expr} {f g : Dn → Res PyData} {fs : Dn → Res (List PyData)}
def AftL (E : EK) (G H : Hp) (r : Res (List PyData)) (Q : List V → Hp → Prop) : Prop := match r with
  | .ok ds => ∀ vs G' H', Grow G H G' H' → RepL G' ds vs → Q vs H'
  | .exc c => ∀ G' H', Grow G H G' H' → E c H'
  | .no => False
def tA (E : EK) (fs : Dn → Res (List PyData)) : TA := fun σ H Q => ∃ G δ, SR G H σ δ ∧ AftL E G H (fs δ) Q
structure DA (X : Cx) (E : EK) (es : List Expr) (n : Nat) (fs : Dn → Res (List PyData)) : Prop where
  pa : PA X es (tA E fs)
  len : ∀ δ ds, fs δ = .ok ds → ds.length = n
theorem PA.imp {X : Cx} {es : List Expr} {t t' : TA} (h : PA X es t) (i : ∀ σ H Q, t' σ H Q → t σ H Q) : PA X es t' := fun p pins s σ H Q I q => h p pins s σ H Q I (i _ _ _ q)
theorem AftL.grow {E : EK} {G H G' H' : Hp} {r : Res (List PyData)} {Q : List V → Hp → Prop} (g : Grow G H G' H') (a : AftL E G H r Q) : AftL E G' H' r Q := by
  cases r with
  | ok d => exact fun v G2 H2 g2 q => a v G2 H2 (g.trans g2) q
  | exc c => exact fun G2 H2 g2 => a G2 H2 (g.trans g2)
  | no => exact a
theorem aft_any {α : Type} {E : EK} {G H : Hp} {σ : St} {δ : Dn} {f : Dn → Res PyData} {k : PyData → Res α} {R : VK} {W : Hp → Hp → Res α → Prop} (S : SR G H σ δ) (a : W G H ((f δ).bind k)) (hg : ∀ {G H G' H' : Hp} {r : Res α}, Grow G H G' H' → W G H r → W G' H' r)
    (hx : ∀ c, W G H (.exc c) → ∀ G' H', Grow G H G' H' → E c H') (hn : W G H .no → False)
    (h : ∀ d v G1 H1, Grow G H G1 H1 → Rep G1 d v → SR G1 H1 σ δ → W G1 H1 (k d) → R v H1) : tD E f σ H R := by
  refine ⟨G, δ, S, ?_⟩
  cases e : f δ with
  | ok d => rw [e] at a; exact fun v G' H' g r => h d v G' H' g r (S.grow g) (hg g a)
  | exc c => rw [e] at a; exact hx c a
  | no => rw [e] at a; exact hn a
theorem aftA_any {α : Type} {E : EK} {G H : Hp} {σ : St} {δ : Dn} {fs : Dn → Res (List PyData)} {k : List PyData → Res α} {R : List V → Hp → Prop} {W : Hp → Hp → Res α → Prop} (S : SR G H σ δ) (a : W G H ((fs δ).bind k)) (hg : ∀ {G H G' H' : Hp} {r : Res α}, Grow G H G' H' → W G H r → W G' H' r)
    (hx : ∀ c, W G H (.exc c) → ∀ G' H', Grow G H G' H' → E c H') (hn : W G H .no → False)
    (h : ∀ ds vs G1 H1, fs δ = .ok ds → Grow G H G1 H1 → RepL G1 ds vs → SR G1 H1 σ δ → W G1 H1 (k ds) → R vs H1) : tA E fs σ H R := by
  refine ⟨G, δ, S, ?_⟩
  cases e : fs δ with
  | ok d => rw [e] at a; exact fun v G' H' g r => h d v G' H' e g r (S.grow g) (hg g a)
  | exc c => rw [e] at a; exact hx c a
  | no => rw [e] at a; exact hn a
def aNil : Dn → Res (List PyData) := fun _ => .ok []
def aCons (f : Dn → Res PyData) (fs : Dn → Res (List PyData)) : Dn → Res (List PyData) := fun δ => (f δ).bind fun d => (fs δ).bind fun ds => .ok (d :: ds)
theorem a_nil : DA X E [] 0 aNil := ⟨PA.imp pa_nil fun σ H Q ⟨G, δ, S, a⟩ => a [] G H (Grow.refl S.sub) rfl, fun δ ds e => by cases e; rfl⟩
def notStar : Expr → Bool
  | .Starred .. => false
  | _ => true
theorem star_cons {a : Expr} {es : List Expr} {env : Env} (h : notStar a = true) : starEach (a :: es) env = (false, eval a env) :: starEach es env := by
  cases a <;> first | rfl | cases h
theorem a_cons {n : Nat} (ha : DE X E a f) (hr : DA X E es n fs) (hs : notStar a = true := by rfl) : DA X E (a :: es) (n + 1) (aCons f fs) := by
  refine ⟨PA.imp (pa_cons ha hr.pa (star_cons hs)) fun σ H Q ⟨G, δ, S, aft⟩ => ?_, fun δ ds e => ?_⟩
  · refine aft_any (W := fun G H r => AftL E G H r Q) S aft (fun g a => AftL.grow g a) (fun c a => a) (fun a => a) fun d v G1 H1 g1 r1 S1 a1 => ?_
    refine aftA_any (W := fun G H r => AftL E G H r Q) S1 a1 (fun g a => AftL.grow g a) (fun c a => a) (fun a => a) fun ds vs G2 H2 e g2 r2 S2 a2 => ?_
    exact a2 _ G2 H2 (Grow.refl S2.sub) (RepL.cons (r1.mono g2.g) r2)
  · unfold aCons at e
    cases h1 : f δ with
    | ok d =>
      rw [h1] at e
      cases h2 : fs δ with
      | ok ds' =>
        simp only [Res.bind, h2] at e
        cases e
        rw [List.length_cons, hr.len δ ds' h2]
      | exc c => simp only [Res.bind, h2] at e; cases e
      | no => simp only [Res.bind, h2] at e; cases e
    | exc c => rw [h1] at e; cases e
    | no => rw [h1] at e; cases e
def vTup (fs : Dn → Res (List PyData)) : Dn → Res PyData := fun δ => (fs δ).bind fun ds => .ok (.tuple ds)
def vLst (fs : Dn → Res (List PyData)) : Dn → Res PyData := fun δ => (fs δ).bind fun ds => .ok (.list ds)
theorem d_tup {n x1 : Nat} (h : DA X E es n fs) (hn : n ≤ sizeLine := by decide) : DE X E (.Tuple es x1 pos) (vTup fs) := by
  refine PE.imp (pe_tup h.pa) fun σ H Q ⟨G, δ, S, aft⟩ => ?_
  refine aftA_any (W := fun G H r => Aft E G H r Q) S aft (fun g a => Aft.grow g a) (fun c a => a) (fun a => a) fun ds vs G1 H1 e g1 r1 S1 a1 => ?_
  refine ⟨by rw [← r1.length, h.len δ ds e]; exact hn, fun p hp => ?_⟩
  exact a1 _ (upd G1 p (.tup vs)) _ (Grow.new S1.sub hp) ⟨p, vs, rfl, upd_same, r1.mono (Same.upd (S1.sub.free hp))⟩
def AftF (E : EK) (G H : Hp) (r : Res (List PyData)) (Q : VK) : Prop := match r with
  | .ok ds => ∀ p xs G' H', Grow G H G' H' → H p = none → G' p = none → H' p = some (.lst xs) → RepL G' ds xs → Q (.ref p) H'
  | .exc c => ∀ G' H', Grow G H G' H' → E c H'
  | .no => False
def tF (E : EK) (f : Dn → Res (List PyData)) : TE := fun σ H Q => ∃ G δ, SR G H σ δ ∧ AftF E G H (f δ) Q
abbrev DF (X : Cx) (E : EK) (e : Expr) (f : Dn → Res (List PyData)) : Prop := PE X e (tF E f)
theorem AftF.grow {E : EK} {G H G' H' : Hp} {r : Res (List PyData)} {Q : VK} (g : Grow G H G' H') (a : AftF E G H r Q) : AftF E G' H' r Q := by
  cases r with
  | ok d => exact fun p xs G2 H2 g2 hp q1 q2 q3 => a p xs G2 H2 (g.trans g2) (g.h.free hp) q1 q2 q3
  | exc c => exact fun G2 H2 g2 => a G2 H2 (g.trans g2)
  | no => exact a
theorem Grow.share {G H G' H' : Hp} {p : Addr} {o : HO} (g : Grow G H G' H') (hp : H p = none) (hg : G' p = none) (hH : H' p = some o) : Grow G H (upd G' p o) H' :=
  ⟨g.g.trans (Same.upd hg), g.h, fun b u e => by
    by_cases hb : b = p
    · subst hb; rw [upd_same] at e; cases e; exact hH
    · rw [upd_ne hb] at e; exact g.gh _ _ e, fun b u e => by
    by_cases hb : b = p
    · subst hb; exact .inr hp
    · rw [upd_ne hb] at e; exact g.fr _ _ e⟩
theorem d_new (h : DF X E e fs) : DE X E e (vLst fs) := by
  refine PE.imp h fun σ H Q ⟨G, δ, S, aft⟩ => ⟨G, δ, S, ?_⟩
  unfold vLst at aft
  cases e : fs δ with
  | ok ds =>
    rw [e] at aft
    exact fun p xs G' H' g hp hg hH r => aft _ _ H' (g.share hp hg hH) ⟨p, xs, rfl, .inl upd_same, r.mono (Same.upd hg)⟩
  | exc c => rw [e] at aft; exact aft
  | no => rw [e] at aft; exact aft
theorem f_lst {n : Nat} (h : DA X E es n fs) (hn : n ≤ sizeLine := by decide) : DF X E (.List es pos) fs := by
  refine PE.imp (pe_lst h.pa) fun σ H Q ⟨G, δ, S, aft⟩ => ⟨G, δ, S, ?_⟩
  cases e : fs δ with
  | ok ds =>
    rw [e] at aft
    refine fun vs G1 H1 g1 r1 => ⟨by rw [← r1.length, h.len δ ds e]; exact hn, fun p hp => ?_⟩
    exact aft p vs G1 _ (g1.trans (Grow.own g1.gh hp)) (g1.h.free hp) (g1.gh.free hp) upd_same r1
  | exc c => rw [e] at aft; exact aft
  | no => rw [e] at aft; exact aft
theorem d_lst {n : Nat} (h : DA X E es n fs) (hn : n ≤ sizeLine := by decide) : DE X E (.List es pos) (vLst fs) := d_new (f_lst h hn)
def dIx : PyData → PyData → Option PyData
  | .list ds, .int i => atI ds i
  | .tuple ds, .int i => atI ds i
  | .str x, .int i => (atI x.cps.toList i).map fun c => .str ⟨#[c]⟩
  | _, _ => none
theorem atI_rep {G : Hp} {ds : List PyData} {xs : List V} {i : Int} {d : PyData} (r : RepL G ds xs) (e : atI ds i = some d) : ∃ x, atI xs i = some x ∧ Rep G d x := by
  unfold atI at e ⊢
  rw [← r.length]
  cases q : ixN ds.length i with
  | none => rw [q] at e; cases e
  | some j => rw [q] at e; exact r.get e
theorem opD_ix : OpD (rIx K) dIx := by
  intro G H x y a b d Q hG ra rb e q
  cases b with
  | int i =>
    cases (show _ = _ from rb)
    cases a with
    | list ds =>
      obtain ⟨p, xs, rfl, h1, l1⟩ := ra
      obtain ⟨v, e1, r1⟩ := atI_rep l1 e
      exact .inl ⟨p, xs, i, v, rfl, rfl, .inl (Rd.mono hG h1), e1, q _ G H (Grow.refl hG) r1⟩
    | tuple ds =>
      obtain ⟨p, xs, rfl, h1, l1⟩ := ra
      obtain ⟨v, e1, r1⟩ := atI_rep l1 e
      exact .inr (.inl ⟨p, xs, i, v, rfl, rfl, .inl (.inl (hG _ _ h1)), e1, q _ G H (Grow.refl hG) r1⟩)
    | str z =>
      obtain ⟨e0, o1, l1⟩ := ra
      subst e0
      obtain ⟨cc, e1, rfl⟩ := Option.map_eq_some_iff.mp e
      refine .inr (.inr ⟨z, i, cc, rfl, rfl, l1, e1, q _ G H (Grow.refl hG) ⟨rfl, ?_, ?_⟩⟩)
      · obtain ⟨j, _, h2, _⟩ := atI_get e1
        have hm : cc ∈ z.cps.toList := List.mem_of_getElem? h2
        unfold PyData.strOk at *
        rw [← Array.all_toList, List.all_eq_true] at o1
        have := o1 cc hm
        simpa using this
      · show 1 ≤ sizeLine; decide
    | _ => cases e
  | _ => cases a <;> cases e
theorem d_ix (ha : DE X E a f) (hb : DE X E b g) (hs : PlainIx b := by exact fun _ _ => rfl) : DE X E (.Subscript a b pos) (b2 f g dIx) :=
  PE.imp (pe_ix ix_seq ha hb hs) fun _ _ _ h => tD_b2 opD_ix h
def cutD (xs : List PyData) (lo hi : Option Int) : List PyData := (xs.drop (HT.sIx xs.length 0 lo)).take (HT.sIx xs.length xs.length hi - HT.sIx xs.length 0 lo)
def dCut (d : PyData) (lo hi : Option Int) : Option PyData := match d with
  | .list ds => some (.list (cutD ds lo hi))
  | .tuple ds => some (.tuple (cutD ds lo hi))
  | _ => none
theorem cut_rep {G : Hp} {ds : List PyData} {xs : List V} (r : RepL G ds xs) (lo hi : Option Int) : RepL G (cutD ds lo hi) (cutV xs lo hi) := by
  unfold cutD cutV
  rw [r.length]
  exact (r.drop _).take _
def rSlD : V → Option Int → Option Int → Hp → VK → Prop := fun x lo hi H Q => ∃ G a d, Same G H ∧ Rep G a x ∧ dCut a lo hi = some d ∧ ∀ v G' H', Grow G H G' H' → Rep G' d v → Q v H'
theorem getItem_tuple_whole {prog : Program} {w : World} {A : Around} {E : Value → Shared → Prop} {s : Shared} {t sl : Addr} {items : Array Value} {vl vu : Value} {lo hi : Option Int} {Q : Value → Shared → Prop} (ht : IsTup s.heap t items) (hs : s.heap.IsSliceOf sl vl vu .none) (pl : IsPart vl lo) (pu : IsPart vu hi)
    (hw : HT.sIx items.size 0 lo = 0 ∧ HT.sIx items.size items.size hi = items.size) (h : Q (.ref t) s) : wpAny (model prog w) A (getItem (.ref t) (.ref sl)) Q E s := by
  obtain ⟨os, hos, hcs, hds⟩ := id hs
  have hTs : s.TypeIs (.ref sl) "slice" := ⟨os, hos, hcs⟩
  unfold getItem
  try with_reducible refine wpAny_holding ?_
  first | refine wpAny_bind (wpAny_pure ?_) | skip
  refine wpAny_bind (wpAny_sequenceKey ht.typeIs (by decide) ?_)
  refine wpAny_bind (wpAny_callSpecial?_slot (name := Str.ofString "__getitem__") ht.typeIs PyProof.Rows.slot_tuple_getitem
    (wpAny_call_entry PyProof.Rows.slot_tuple_getitem ht.typeIs entry_tuple_getitem ?_ (args_tuple_getitem _ _)))
  show wpAny _ _ (Builtin.Tuple.tupleItemsOf (.ref t) >>= _) _ _ s
  refine wpAny_bind (tupleItemsOf_ ht ?_)
  refine wpAny_bind (wpAny_typeOf hTs ?_)
  rw [if_pos (by decide)]
  refine wpAny_bind (HT.sliceApplied_gen hs pl pu ?_)
  show wpAny _ _ (if (((HT.sIx items.size 0 lo : Nat) : Int) == 0 && (1 : Int) == 1 && (HT.sIx items.size items.size hi - HT.sIx items.size 0 lo) == items.size) = true then _ else _) _ _ s
  rw [if_pos (by rw [hw.1, hw.2]; simp)]
  unfold Builtin.Tuple.tupleIsExact
  refine wpAny_bind (wpAny_bind (wpAny_typeOf ht.typeIs (wpAny_pure ?_)))
  rw [if_pos (by decide)]
  first
    | exact wpAny_bind (wpAny_rule (wpAny_pure ⟨_, rfl, wpAny_pure h⟩))
    | exact wpAny_bind (wpAny_rule (wpAny_bind (wpAny_pure (wpAny_pure ⟨_, rfl, wpAny_pure h⟩))))
theorem sl_D : SlR X rSlD := by
  intro pins s σ H x v vl vu lo hi sl Q I rx hs pl pu ⟨G, a, d, hG, ra, e, q⟩
  cases a with
  | list ds =>
    cases e
    obtain ⟨p, xs, rfl, h1, l1⟩ := ra
    cases rx
    obtain ⟨z, its, n, r, e1⟩ := rd_list I hG h1
    have hlen := r.length
    have hl : s.heap.IsList p its.toArray := ⟨_, e1, rfl, n, rfl⟩
    refine ⟨"list", _, slot_list_getitem.lookup, hl.typeIs, ?_⟩
    refine wpAny_getItem_list_slice hl hs pl pu .none (by simp) ?_ (by rw [List.size_toArray] <;> omega)
    rw [slicePick_cut, ← hlen]
    exact fin_lst (t' := s.toks) I hG ((r.drop (HT.sIx xs.length 0 lo)).take (HT.sIx xs.length xs.length hi - HT.sIx xs.length 0 lo)) (cut_rep l1 lo hi) (Nat.le_trans (cutV_length xs lo hi) z) q
  | tuple ds =>
    cases e
    obtain ⟨p, xs, rfl, h1, l1⟩ := ra
    cases rx
    obtain ⟨z, its, r, ht⟩ := rd_tup I hG h1
    have hlen : its.toArray.size = xs.length := by rw [List.size_toArray]; exact r.length.symm
    refine ⟨"tuple", _, PyProof.Rows.slot_tuple_getitem.lookup, ht.typeIs, ?_⟩
    by_cases hw : HT.sIx xs.length 0 lo = 0 ∧ HT.sIx xs.length xs.length hi = xs.length
    · refine getItem_tuple_whole ht hs pl pu (by rw [hlen]; exact hw) ⟨.ref p, H, I, rfl, q _ G H (Grow.refl hG) ⟨p, xs, rfl, h1, ?_⟩⟩
      have : cutD ds lo hi = ds := by
        unfold cutD
        rw [l1.length, hw.1, hw.2, List.drop_zero, Nat.sub_zero, ← l1.length, List.take_length]
      rw [this]; exact l1
    · refine HT.getItem_tuple_cut ht hs pl pu (by rw [hlen]; exact hw) ?_ (by rw [hlen]; exact z)
      rw [hlen]
      exact fin_tup (t' := s.toks) I hG ((r.drop (HT.sIx xs.length 0 lo)).take (HT.sIx xs.length xs.length hi - HT.sIx xs.length 0 lo)) (cut_rep l1 lo hi) (Nat.le_trans (cutV_length xs lo hi) z) q
  | _ => cases e
def AftO (E : EK) (G H : Hp) (r : Res (Option Int)) (Q : Option Int → Hp → Prop) : Prop := match r with
  | .ok ds => ∀ G' H', Grow G H G' H' → Q ds H'
  | .exc c => ∀ G' H', Grow G H G' H' → E c H'
  | .no => False
def tO (E : EK) (f : Dn → Res (Option Int)) : TO := fun σ H Q => ∃ G δ, SR G H σ δ ∧ AftO E G H (f δ) Q
abbrev DO (X : Cx) (E : EK) (e : Option Expr) (f : Dn → Res (Option Int)) : Prop := PO X e (tO E f)
theorem PO.imp {X : Cx} {e : Option Expr} {t t' : TO} (h : PO X e t) (i : ∀ σ H Q, t' σ H Q → t σ H Q) : PO X e t' := fun pins s σ H Q I q => h pins s σ H Q I (i _ _ _ q)
def oNone : Dn → Res (Option Int) := fun _ => .ok none
def oSome (f : Dn → Res PyData) : Dn → Res (Option Int) := fun δ => (f δ).bind fun d => match d with
  | .int i => .ok (some i)
  | _ => .no
theorem AftO.grow {E : EK} {G H G' H' : Hp} {r : Res (Option Int)} {Q : Option Int → Hp → Prop} (g : Grow G H G' H') (a : AftO E G H r Q) : AftO E G' H' r Q := by
  cases r with
  | ok d => exact fun G2 H2 g2 => a G2 H2 (g.trans g2)
  | exc c => exact fun G2 H2 g2 => a G2 H2 (g.trans g2)
  | no => exact a
theorem o_none : DO X E none oNone := PO.imp po_none fun σ H Q ⟨G, δ, S, a⟩ => a G H (Grow.refl S.sub)
theorem o_some (h : DE X E e f) : DO X E (some e) (oSome f) := by
  refine PO.imp (po_some h) fun σ H Q ⟨G, δ, S, aft⟩ => ?_
  refine aft_any (W := fun G H r => AftO E G H r Q) S aft (fun g a => AftO.grow g a) (fun c a => a) (fun a => a) fun d v G1 H1 g1 r1 S1 a1 => ?_
  cases d with
  | int i => exact ⟨i, r1, a1 G1 H1 (Grow.refl S1.sub)⟩
  | _ => exact (show False from a1).elim
theorem aftO_any {α : Type} {E : EK} {G H : Hp} {σ : St} {δ : Dn} {fs : Dn → Res (Option Int)} {k : Option Int → Res α} {R : Option Int → Hp → Prop} {W : Hp → Hp → Res α → Prop} (S : SR G H σ δ) (a : W G H ((fs δ).bind k)) (hg : ∀ {G H G' H' : Hp} {r : Res α}, Grow G H G' H' → W G H r → W G' H' r)
    (hx : ∀ c, W G H (.exc c) → ∀ G' H', Grow G H G' H' → E c H') (hn : W G H .no → False)
    (h : ∀ ds G1 H1, Grow G H G1 H1 → SR G1 H1 σ δ → W G1 H1 (k ds) → R ds H1) : tO E fs σ H R := by
  refine ⟨G, δ, S, ?_⟩
  cases e : fs δ with
  | ok d => rw [e] at a; exact fun G' H' g => h d G' H' g (S.grow g) (hg g a)
  | exc c => rw [e] at a; exact hx c a
  | no => rw [e] at a; exact hn a
def vSl (f : Dn → Res PyData) (lo hi : Dn → Res (Option Int)) : Dn → Res PyData := fun δ => (f δ).bind fun x => (lo δ).bind fun l => (hi δ).bind fun u => ofO (dCut x l u)
variable {lo hi : Option Expr} {fl fh : Dn → Res (Option Int)} {p2 : Pos}
theorem d_slice (he : DE X E e f) (hl : DO X E lo fl) (hu : DO X E hi fh) : DE X E (.Subscript e (.Slice lo hi none p2) pos) (vSl f fl fh) := by
  refine PE.imp (pe_slice sl_D he hl hu) fun σ H Q ⟨G, δ, S, aft⟩ => ?_
  refine aft_bind S aft fun d v G1 H1 g1 r1 S1 a1 => ?_
  refine aftO_any (W := fun G H r => Aft E G H r Q) S1 a1 (fun g a => Aft.grow g a) (fun c a => a) (fun a => a) fun l G2 H2 g2 S2 a2 => ?_
  refine aftO_any (W := fun G H r => Aft E G H r Q) S2 a2 (fun g a => Aft.grow g a) (fun c a => a) (fun a => a) fun u G3 H3 g3 S3 a3 => ?_
  cases e : dCut d l u with
  | none => rw [e] at a3; exact a3.elim
  | some z => rw [e] at a3; exact ⟨G3, d, z, S3.sub, r1.mono (g2.g.trans g3.g), e, a3⟩
end
end Sm
end
section
set_option Elab.async false
set_option linter.all false
set_option maxRecDepth 100000
set_option maxHeartbeats 4000000
set_option autoImplicit false
namespace Sm
open PySem PySem.Spec PyProof.Rows L2
section
variable {P : Program} {w : World} {K : PySem.W.Frag} {mg : Str → Option Value} {base : Heap} {X : Cx} {N : List Str} {sc : Scope} {k : Nat} {df : Bool} {E : EK} {pos p : Pos} {a b c e : Expr} {es : List Expr} {f g : Dn → Res PyData} {fs : Dn → Res (List PyData)}
def rCD (op : List PyData → Option PyData) : List V → Hp → VK → Prop := fun vs H Q => ∃ G ds d, Same G H ∧ RepL G ds vs ∧ op ds = some d ∧ ∀ v G' H', Grow G H G' H' → Rep G' d v → Q v H'
def vFn (fs : Dn → Res (List PyData)) (op : List PyData → Option PyData) : Dn → Res PyData := fun δ => (fs δ).bind fun ds => ofO (op ds)
theorem tCB_D {op : List PyData → Option PyData} {σ : St} {H : Hp} {Q : VK} (h : tD E (vFn fs op) σ H Q) : tCB (rCD op) (tA E fs) σ H Q := by
  obtain ⟨G, δ, S, aft⟩ := h
  refine aftA_any (W := fun G H r => Aft E G H r Q) S aft (fun g a => Aft.grow g a) (fun c a => a) (fun a => a) fun ds vs G1 H1 e g1 r1 S1 a1 => ?_
  cases e : op ds with
  | none => rw [e] at a1; exact a1.elim
  | some d => rw [e] at a1; exact ⟨G1, ds, d, S1.sub, r1, e, a1⟩
theorem d_callB' {x : Str} {id : String} {n : Nat} {op : List PyData → Option PyData} (C : Cxt P w K mg base X N sc k df) (hc : CallR X (.builtin id) (rCD op)) (h : okGl sc x = true) (hm : mg x = none) (hv : bootBuiltins x = some (.builtin id)) (ha : DA X E (e :: es) n fs)
    (he : starEach (e :: es) X.env = (false, eval e X.env) :: starEach es X.env := by rfl) (hpl : (backTo pos (starEach es X.env)).any (·.1) = false := by rfl) : DE X E (.Call (.Name x p) (e :: es) [] pos) (vFn fs op) := by
  obtain ⟨h1, h2, h3⟩ := okGl.gl C h
  exact PE.imp (pe_callB hc h1 (by rw [C.hmg]; exact hm) hv ha.pa h3 h2 he hpl) fun _ _ _ q => tCB_D q
theorem d_callT' {x : Str} {T : String} {n : Nat} {op : List PyData → Option PyData} (C : Cxt P w K mg base X N sc k df) (hc : CallR X (.type T) (rCD op)) (h : okGl sc x = true) (hm : mg x = none) (hv : bootBuiltins x = some (.type T)) (ha : DA X E (e :: es) n fs)
    (he : starEach (e :: es) X.env = (false, eval e X.env) :: starEach es X.env := by rfl) (hpl : (backTo pos (starEach es X.env)).any (·.1) = false := by rfl) : DE X E (.Call (.Name x p) (e :: es) [] pos) (vFn fs op) := by
  obtain ⟨h1, h2, h3⟩ := okGl.gl C h
  exact PE.imp (pe_callTy hc h1 (by rw [C.hmg]; exact hm) hv ha.pa h3 h2 he hpl) fun _ _ _ q => tCB_D q
theorem rep1 {G : Hp} {d : PyData} {vs : List V} (r : RepL G [d] vs) : ∃ v, vs = [v] ∧ Rep G d v := by
  obtain ⟨x, t, rfl, h, l⟩ := r; cases (show _ = _ from l); exact ⟨x, rfl, h⟩
theorem rep2 {G : Hp} {d d' : PyData} {vs : List V} (r : RepL G [d, d'] vs) : ∃ v v', vs = [v, v'] ∧ Rep G d v ∧ Rep G d' v' := by
  obtain ⟨x, t, rfl, h, l⟩ := r
  obtain ⟨y, rfl, h'⟩ := rep1 l
  exact ⟨x, y, rfl, h, h'⟩
def dLen : List PyData → Option PyData
  | [.list ds] => some (.int ds.length)
  | [.tuple ds] => some (.int ds.length)
  | [.str x] => some (.int x.length)
  | _ => none
theorem call_lenDt : CallR X (.builtin "len") (rCD dLen) := by
  intro pins s σ H xs us Q I r ⟨G, ds, d, hG, rl, e, q⟩
  unfold dLen at e
  split at e
  · rename_i ys
    cases e
    obtain ⟨v, rfl, a, vs, rfl, h1, l1⟩ := rep1 rl
    exact call_len pins s σ H _ us Q I r ⟨_, ys.length, rfl, .inl ⟨vs, .inl (Rd.mono hG h1), l1.length⟩, q _ G H (Grow.refl hG) rfl⟩
  · rename_i ys
    cases e
    obtain ⟨v, rfl, a, vs, rfl, h1, l1⟩ := rep1 rl
    exact call_len pins s σ H _ us Q I r ⟨_, ys.length, rfl, .inr ⟨vs, .inl (.inl (hG _ _ h1)), l1.length⟩, q _ G H (Grow.refl hG) rfl⟩
  · rename_i x
    cases e
    obtain ⟨v, rfl, r1⟩ := rep1 rl
    cases r1.1
    exact call_len pins s σ H _ us Q I r ⟨_, x.length, rfl, ⟨r1.2.2, rfl⟩, q _ G H (Grow.refl hG) rfl⟩
  · cases e
theorem d_len {n : Nat} (C : Cxt P w K mg base X N sc k df) (h : okGl sc "len" = true) (hm : mg "len" = none) (ha : DA X E (e :: es) n fs)
    (he : starEach (e :: es) X.env = (false, eval e X.env) :: starEach es X.env := by rfl) (hpl : (backTo pos (starEach es X.env)).any (·.1) = false := by rfl) : DE X E (.Call (.Name "len" p) (e :: es) [] pos) (vFn fs dLen) :=
  d_callB' C call_lenDt h hm PySem.boot_len ha he hpl
def boolsOf : List PyData → Option (List Bool)
  | [] => some []
  | .bool b :: ds => (boolsOf ds).map (b :: ·)
  | _ :: _ => none
def dAll : List PyData → Option PyData
  | [.list ds] => (boolsOf ds).map fun bs => .bool (bs.all id)
  | _ => none
def dAny : List PyData → Option PyData
  | [.list ds] => (boolsOf ds).map fun bs => .bool (bs.any id)
  | _ => none
theorem bools_rep {G : Hp} : ∀ {ds : List PyData} {xs : List V} {us : List Value} {bs : List Bool}, RepL G ds xs → Vals xs us → boolsOf ds = some bs → us = bs.map Value.bool
  | [], _, _, _, r, q, e => by cases (show _ = _ from r); cases q; cases e; rfl
  | .bool b :: ds, _, _, _, r, q, e => by
    obtain ⟨x, t, rfl, h, l⟩ := r
    cases (show _ = _ from h)
    cases q with
    | cons q qs =>
      cases q
      obtain ⟨bs, e1, rfl⟩ := Option.map_eq_some_iff.mp e
      rw [bools_rep l qs e1]; rfl
  | .none :: _, _, _, _, _, _, e => by cases e
  | .int _ :: _, _, _, _, _, _, e => by cases e
  | .str _ :: _, _, _, _, _, _, e => by cases e
  | .list _ :: _, _, _, _, _, _, e => by cases e
  | .tuple _ :: _, _, _, _, _, _, e => by cases e
  | .dict _ :: _, _, _, _, _, _, e => by cases e
theorem kept_it {s : Shared} {h' : Heap} {o : Obj} (hk : ∀ b x, b ∉ [s.heap.objs.size] → (s.heap.push o).get? b = some x → h'.get? b = some x) : ∀ b x, s.heap.get? b = some x → h'.get? b = some x :=
  fun b x e => hk b x (fun hm => by rw [List.mem_singleton.mp hm] at e; exact Nat.lt_irrefl _ (Heap.lt_size e)) (Heap.get?_push_of_some _ e)
theorem range_all (bs : List Bool) : ((List.range bs.length).all fun i => (bs[i]?).getD true) = bs.all id := by
  rw [Bool.eq_iff_iff, List.all_eq_true, List.all_eq_true]
  constructor
  · intro h b hb
    obtain ⟨i, hi, rfl⟩ := List.getElem_of_mem hb
    have := h i (List.mem_range.mpr hi)
    rwa [List.getElem?_eq_getElem hi] at this
  · intro h i hi
    have hi' := List.mem_range.mp hi
    rw [List.getElem?_eq_getElem hi']
    exact h _ (List.getElem_mem hi')
theorem range_any (bs : List Bool) : ((List.range bs.length).any fun i => (bs[i]?).getD true) = bs.any id := by
  rw [Bool.eq_iff_iff, List.any_eq_true, List.any_eq_true]
  constructor
  · rintro ⟨i, hi, h⟩
    have hi' := List.mem_range.mp hi
    rw [List.getElem?_eq_getElem hi'] at h
    exact ⟨_, List.getElem_mem hi', h⟩
  · rintro ⟨b, hb, h⟩
    obtain ⟨i, hi, rfl⟩ := List.getElem_of_mem hb
    exact ⟨i, List.mem_range.mpr hi, by rw [List.getElem?_eq_getElem hi]; exact h⟩
theorem call_allDt (hc : X.calm = true) : CallR X (.builtin "all") (rCD dAll) := by
  intro pins s σ H xs us Q I r ⟨G, ds, d, hG, rl, e, q⟩
  unfold dAll at e
  split at e
  · rename_i ys
    obtain ⟨bs, e1, rfl⟩ := Option.map_eq_some_iff.mp e
    obtain ⟨v, rfl, a, vs, rfl, h1, l1⟩ := rep1 rl
    obtain ⟨u, rfl, ru⟩ := vals1 r
    cases ru
    obtain ⟨z, its, n, rv, e2⟩ := rd_list I hG h1
    have hb := bools_rep l1 rv e1
    have hl : s.heap.IsList a its.toArray := ⟨_, e2, rfl, n, rfl⟩
    have hlt : a < s.heap.objs.size := Heap.lt_size e2
    refine call_all_walk (wpAny_pyIter_list hl ?_)
    refine ⟨s.heap.objs.size, [s.heap.objs.size, a], [s.heap.objs.size], its.toArray.size, _, _, fun i => (bs[i]?).getD true, rfl, Walks.list (A := X.A.in1) (I.ok.hd hc) _ a (Nat.ne_of_lt hlt) its.toArray,
      ⟨⟨_, Heap.get?_push_size _ rfl, rfl, rfl⟩, hl.push _⟩, fun i v s' Q' E' hP hQ => ?_, fun h' tk hk => ?_⟩
    · have hP' : its[i]? = some v := by simpa using hP
      rw [hb, List.getElem?_map] at hP'
      obtain ⟨b, e3, rfl⟩ := Option.map_eq_some_iff.mp hP'
      simp only [e3, Option.getD_some] at hQ
      exact wpAny_truthy_bool hQ
    · have el : its.toArray.size = bs.length := by rw [List.size_toArray, hb, List.length_map]
      rw [el, range_all]
      exact ⟨.bl _, H, I.kept (kept_it hk), rfl, q _ G H (Grow.refl hG) rfl⟩
  · cases e
theorem call_anyDt (hc : X.calm = true) : CallR X (.builtin "any") (rCD dAny) := by
  intro pins s σ H xs us Q I r ⟨G, ds, d, hG, rl, e, q⟩
  unfold dAny at e
  split at e
  · rename_i ys
    obtain ⟨bs, e1, rfl⟩ := Option.map_eq_some_iff.mp e
    obtain ⟨v, rfl, a, vs, rfl, h1, l1⟩ := rep1 rl
    obtain ⟨u, rfl, ru⟩ := vals1 r
    cases ru
    obtain ⟨z, its, n, rv, e2⟩ := rd_list I hG h1
    have hb := bools_rep l1 rv e1
    have hl : s.heap.IsList a its.toArray := ⟨_, e2, rfl, n, rfl⟩
    have hlt : a < s.heap.objs.size := Heap.lt_size e2
    refine call_any_walk (wpAny_pyIter_list hl ?_)
    refine ⟨s.heap.objs.size, [s.heap.objs.size, a], [s.heap.objs.size], its.toArray.size, _, _, fun i => (bs[i]?).getD true, rfl, Walks.list (A := X.A.in1) (I.ok.hd hc) _ a (Nat.ne_of_lt hlt) its.toArray,
      ⟨⟨_, Heap.get?_push_size _ rfl, rfl, rfl⟩, hl.push _⟩, fun i v s' Q' E' hP hQ => ?_, fun h' tk hk => ?_⟩
    · have hP' : its[i]? = some v := by simpa using hP
      rw [hb, List.getElem?_map] at hP'
      obtain ⟨b, e3, rfl⟩ := Option.map_eq_some_iff.mp hP'
      simp only [e3, Option.getD_some] at hQ
      exact wpAny_truthy_bool hQ
    · have el : its.toArray.size = bs.length := by rw [List.size_toArray, hb, List.length_map]
      rw [el, range_any]
      exact ⟨.bl _, H, I.kept (kept_it hk), rfl, q _ G H (Grow.refl hG) rfl⟩
  · cases e
theorem d_all {n : Nat} (C : Cxt P w K mg base X N sc k df) (h : okGl sc "all" = true) (hm : mg "all" = none) (ha : DA X E (e :: es) n fs)
    (he : starEach (e :: es) X.env = (false, eval e X.env) :: starEach es X.env := by rfl) (hpl : (backTo pos (starEach es X.env)).any (·.1) = false := by rfl) : DE X E (.Call (.Name "all" p) (e :: es) [] pos) (vFn fs dAll) :=
  d_callB' C (call_allDt C.calm) h hm (by decide +kernel) ha he hpl
theorem d_any {n : Nat} (C : Cxt P w K mg base X N sc k df) (h : okGl sc "any" = true) (hm : mg "any" = none) (ha : DA X E (e :: es) n fs)
    (he : starEach (e :: es) X.env = (false, eval e X.env) :: starEach es X.env := by rfl) (hpl : (backTo pos (starEach es X.env)).any (·.1) = false := by rfl) : DE X E (.Call (.Name "any" p) (e :: es) [] pos) (vFn fs dAny) :=
  d_callB' C (call_anyDt C.calm) h hm (by decide +kernel) ha he hpl
def dListF : List PyData → Option PyData
  | [.list ds] => some (.list ds)
  | [.tuple ds] => some (.list ds)
  | _ => none
def dTupF : List PyData → Option PyData
  | [.list ds] => some (.tuple ds)
  | [.tuple ds] => some (.tuple ds)
  | _ => none
def dMax : List PyData → Option PyData
  | [.int i, .int j] => some (.int (if i < j then j else i))
  | _ => none
def dIntF : List PyData → Option PyData
  | [.int i] => some (.int i)
  | [.bool b] => some (.int (if b then 1 else 0))
  | _ => none
def dStrF : List PyData → Option PyData
  | [.int i] => if i.natAbs.log2 < 1920 ∧ ((toString i : String) : Str).length ≤ sizeLine then some (.str (toString i : String)) else none
  | _ => none
theorem strOk_of (z : String) : PyData.strOk (Str.ofString z) = true := by
  unfold PyData.strOk
  rw [Str.ofString_eq_toList, ← Array.all_toList, List.all_eq_true]
  intro c hc
  simp only [List.mem_map] at hc
  obtain ⟨ch, _, rfl⟩ := hc
  have h := ch.valid
  have hv : ch.toNat = ch.val.toNat := rfl
  simp only [UInt32.isValidChar, Nat.isValidChar] at h
  rw [decide_eq_true_eq, hv]; omega
theorem call_listDt : CallR X (.type "list") (rCD dListF) := by
  intro pins s σ H xs us Q I r ⟨G, ds, d, hG, rl, e, q⟩
  unfold dListF at e
  split at e
  · rename_i ys
    cases e
    obtain ⟨v, rfl, a, vs, rfl, h1, l1⟩ := rep1 rl
    exact call_list_of pins s σ H _ us Q I r ⟨a, vs, rfl, .inl (.inl (Rd.mono hG h1)), fun l hl => q _ (upd G l (.lst vs)) _ (Grow.new hG hl) ⟨l, vs, rfl, .inl upd_same, l1.mono (Same.upd (hG.free hl))⟩⟩
  · rename_i ys
    cases e
    obtain ⟨v, rfl, a, vs, rfl, h1, l1⟩ := rep1 rl
    exact call_list_of pins s σ H _ us Q I r ⟨a, vs, rfl, .inr (.inl (.inl (hG _ _ h1))), fun l hl => q _ (upd G l (.lst vs)) _ (Grow.new hG hl) ⟨l, vs, rfl, .inl upd_same, l1.mono (Same.upd (hG.free hl))⟩⟩
  · cases e
theorem call_tupDt : CallR X (.type "tuple") (rCD dTupF) := by
  intro pins s σ H xs us Q I r ⟨G, ds, d, hG, rl, e, q⟩
  unfold dTupF at e
  split at e
  · rename_i ys
    cases e
    obtain ⟨v, rfl, a, vs, rfl, h1, l1⟩ := rep1 rl
    exact call_tuple_of pins s σ H _ us Q I r ⟨a, vs, rfl, .inl ⟨.inl (Rd.mono hG h1), fun l hl => q _ (upd G l (.tup vs)) _ (Grow.new hG hl) ⟨l, vs, rfl, upd_same, l1.mono (Same.upd (hG.free hl))⟩⟩⟩
  · rename_i ys
    cases e
    obtain ⟨v, rfl, a, vs, rfl, h1, l1⟩ := rep1 rl
    exact call_tuple_of pins s σ H _ us Q I r ⟨a, vs, rfl, .inr ⟨.inl (.inl (hG _ _ h1)), q _ G H (Grow.refl hG) ⟨a, vs, rfl, h1, l1⟩⟩⟩
  · cases e
theorem call_maxDt (hc : X.calm = true) : CallR X (.builtin "max") (rCD dMax) := by
  intro pins s σ H xs us Q I r ⟨G, ds, d, hG, rl, e, q⟩
  unfold dMax at e
  split at e
  · rename_i i j
    cases e
    obtain ⟨v, v', rfl, e1, e2⟩ := rep2 rl
    cases (show _ = _ from e1); cases (show _ = _ from e2)
    refine call_max2 hc pins s σ H _ us Q I r ⟨i, j, rfl, ?_⟩
    have := q (.int (if i < j then j else i)) G H (Grow.refl hG) rfl
    first | exact this | (simpa [max_def] using this) | trace_state
  · cases e
theorem call_intDt : CallR X (.type "int") (rCD dIntF) := by
  intro pins s σ H xs us Q I r ⟨G, ds, d, hG, rl, e, q⟩
  unfold dIntF at e
  split at e
  · rename_i i
    cases e
    obtain ⟨v, rfl, e1⟩ := rep1 rl
    cases (show _ = _ from e1)
    exact call_int1 pins s σ H _ us Q I r (.inl ⟨i, rfl, q _ G H (Grow.refl hG) rfl⟩)
  · rename_i b
    cases e
    obtain ⟨v, rfl, e1⟩ := rep1 rl
    cases (show _ = _ from e1)
    refine call_int1 pins s σ H _ us Q I r (.inr ⟨b, rfl, ?_⟩)
    have := q (.int (if b then 1 else 0)) G H (Grow.refl hG) rfl
    cases b <;> exact this
  · cases e
theorem call_strDt : CallR X (.type "str") (rCD dStrF) := by
  intro pins s σ H xs us Q I r ⟨G, ds, d, hG, rl, e, q⟩
  unfold dStrF at e
  split at e
  · rename_i i
    split at e
    · rename_i hc
      cases e
      obtain ⟨v, rfl, e1⟩ := rep1 rl
      cases (show _ = _ from e1)
      exact call_str_int pins s σ H _ us Q I r ⟨i, rfl, hc.1, q _ G H (Grow.refl hG) ⟨rfl, strOk_of _, hc.2⟩⟩
    · cases e
  · cases e
theorem d_listF {n : Nat} (C : Cxt P w K mg base X N sc k df) (h : okGl sc "list" = true) (hm : mg "list" = none) (ha : DA X E (e :: es) n fs)
    (he : starEach (e :: es) X.env = (false, eval e X.env) :: starEach es X.env := by rfl) (hpl : (backTo pos (starEach es X.env)).any (·.1) = false := by rfl) : DE X E (.Call (.Name "list" p) (e :: es) [] pos) (vFn fs dListF) :=
  d_callT' C call_listDt h hm (by decide +kernel) ha he hpl
theorem d_tupF {n : Nat} (C : Cxt P w K mg base X N sc k df) (h : okGl sc "tuple" = true) (hm : mg "tuple" = none) (ha : DA X E (e :: es) n fs)
    (he : starEach (e :: es) X.env = (false, eval e X.env) :: starEach es X.env := by rfl) (hpl : (backTo pos (starEach es X.env)).any (·.1) = false := by rfl) : DE X E (.Call (.Name "tuple" p) (e :: es) [] pos) (vFn fs dTupF) :=
  d_callT' C call_tupDt h hm (by decide +kernel) ha he hpl
theorem d_max {n : Nat} (C : Cxt P w K mg base X N sc k df) (h : okGl sc "max" = true) (hm : mg "max" = none) (ha : DA X E (e :: es) n fs)
    (he : starEach (e :: es) X.env = (false, eval e X.env) :: starEach es X.env := by rfl) (hpl : (backTo pos (starEach es X.env)).any (·.1) = false := by rfl) : DE X E (.Call (.Name "max" p) (e :: es) [] pos) (vFn fs dMax) :=
  d_callB' C (call_maxDt C.calm) h hm (by decide +kernel) ha he hpl
theorem d_intF {n : Nat} (C : Cxt P w K mg base X N sc k df) (h : okGl sc "int" = true) (hm : mg "int" = none) (ha : DA X E (e :: es) n fs)
    (he : starEach (e :: es) X.env = (false, eval e X.env) :: starEach es X.env := by rfl) (hpl : (backTo pos (starEach es X.env)).any (·.1) = false := by rfl) : DE X E (.Call (.Name "int" p) (e :: es) [] pos) (vFn fs dIntF) :=
  d_callT' C call_intDt h hm (by decide +kernel) ha he hpl
theorem d_strF {n : Nat} (C : Cxt P w K mg base X N sc k df) (h : okGl sc "str" = true) (hm : mg "str" = none) (ha : DA X E (e :: es) n fs)
    (he : starEach (e :: es) X.env = (false, eval e X.env) :: starEach es X.env := by rfl) (hpl : (backTo pos (starEach es X.env)).any (·.1) = false := by rfl) : DE X E (.Call (.Name "str" p) (e :: es) [] pos) (vFn fs dStrF) :=
  d_callT' C call_strDt h hm (by decide +kernel) ha he hpl
def tyName : PyData → String
  | .none => "NoneType" | .bool _ => "bool" | .int _ => "int" | .str _ => "str" | .list _ => "list" | .tuple _ => "tuple" | .dict _ => "dict"
def isTy (T : String) (d : PyData) : Bool := (tyName d == T) || (T == "int" && tyName d == "bool")
def okTy (T : String) : Bool := T == "int" || T == "bool" || T == "str" || T == "list" || T == "tuple"
theorem kit_ty {K : PySem.W.Frag} {T : String} (h : okTy T = true) (d : PyData) (hd : ∀ kvs, d ≠ .dict kvs) : PySem.W.kitOne K (.type (tyName d)) (.type T) = some (isTy T d) := by
  unfold okTy at h
  simp only [Bool.or_eq_true, beq_iff_eq] at h
  rcases h with (((h | h) | h) | h) | h <;> subst h <;> cases d <;> first | kernel_rfl | exact absurd rfl (hd _)
theorem Rep.tyOf {G H : Hp} (hG : Same G H) {d : PyData} {v : V} (r : Rep G d v) : TyOf K H v (.type (tyName d)) := by
  cases d with
  | none => cases (show _ = _ from r); exact .non
  | bool _ => cases (show _ = _ from r); exact .bl _
  | int _ => cases (show _ = _ from r); exact .int _
  | str x => cases r.1; exact .str _
  | list _ =>
    obtain ⟨a, xs, rfl, h1, l1⟩ := r
    rcases h1 with h1 | ⟨o, h1⟩
    · exact .lst (hG _ _ h1)
    · exact .frz (hG _ _ h1)
  | tuple _ => obtain ⟨a, xs, rfl, h1, l1⟩ := r; exact .tup (hG _ _ h1)
  | dict _ => exact (show False from r).elim
theorem d_isinst {T : Str} {Tn : String} {p1 : Pos} (C : Cxt P w K mg base X N sc k df) (h : okGl sc "isinstance" = true) (hm : mg "isinstance" = none) (hT : okGl sc T = true) (hmT : mg T = none) (hbT : bootBuiltins T = some (.type Tn)) (hk : okTy Tn = true) (ha : DE X E a f)
    (he : starEach (a :: [.Name T p1]) X.env = (false, eval a X.env) :: starEach [.Name T p1] X.env := by rfl) (he2 : starEach [.Name T p1] X.env = (false, eval (.Name T p1) X.env) :: starEach [] X.env := by rfl) (hpl : (backTo pos (starEach [.Name T p1] X.env)).any (·.1) = false := by rfl) :
    DE X E (.Call (.Name "isinstance" p) [a, .Name T p1] [] pos) (b1 f fun d => some (.bool (isTy Tn d))) := by
  obtain ⟨h1, h2, h3⟩ := okGl.gl C h
  obtain ⟨t1, t2, t3⟩ := okGl.gl C hT
  have hc : CallR X (.builtin "isinstance") (fun vs H Q => ∃ G d v, Same G H ∧ Rep G d v ∧ vs = [v, .ty Tn] ∧ Q (.bl (isTy Tn d)) H) := by
    intro pins s σ H xs us Q I r ⟨G, d, v, hG, rd, e, q⟩
    subst e
    obtain ⟨u, u', rfl, r1, r2⟩ := vals2 r
    cases (show u' = Value.type Tn from r2)
    refine isinst_ok I r1 (rd.tyOf hG) (kit_ty hk d fun kvs z => ?_) fun tk => ⟨.bl _, H, I.tok _, rfl, q⟩
    subst z; exact rd
  refine PE.imp (pe_callB hc h1 (by rw [C.hmg]; exact hm) (by decide +kernel) (pa_cons ha (pa_cons (pe_bltn (v := .ty Tn) t1 (by rw [C.hmg]; exact hmT) hbT rfl t3 t2) pa_nil he2) he) h3 h2 he hpl) fun σ H Q ⟨G, δ, S, aft⟩ => ?_
  refine aft_bind S aft fun d v G1 H1 g1 r1 S1 a1 => ?_
  exact ⟨G1, d, v, S1.sub, r1, rfl, a1 _ G1 H1 (Grow.refl S1.sub) rfl⟩
def strsOf : List PyData → Option (List Str)
  | [] => some []
  | .str b :: ds => (strsOf ds).map (b :: ·)
  | _ :: _ => none
def dJoin (x : Str) : PyData → Option PyData
  | .list ds => (strsOf ds).bind fun ys => if (ys.map (·.length)).sum + ys.length * x.length ≤ 16777216 ∧ PyData.strOk (Str.join x ys) = true ∧ (Str.join x ys).length ≤ sizeLine then some (.str (Str.join x ys)) else none
  | _ => none
theorem strs_rep {G : Hp} : ∀ {ds : List PyData} {xs : List V} {us : List Value} {ys : List Str}, RepL G ds xs → Vals xs us → strsOf ds = some ys → StrsAre us ys
  | [], _, _, _, r, q, e => by cases (show _ = _ from r); cases q; cases e; exact .nil
  | .str b :: ds, _, _, _, r, q, e => by
    obtain ⟨x, t, rfl, h, l⟩ := r
    cases h.1
    cases q with
    | cons q qs =>
      obtain ⟨tk, rfl⟩ := q
      obtain ⟨bs, e1, rfl⟩ := Option.map_eq_some_iff.mp e
      exact .cons _ _ (strs_rep l qs e1)
  | .none :: _, _, _, _, _, _, e => by cases e
  | .int _ :: _, _, _, _, _, _, e => by cases e
  | .bool _ :: _, _, _, _, _, _, e => by cases e
  | .list _ :: _, _, _, _, _, _, e => by cases e
  | .tuple _ :: _, _, _, _, _, _, e => by cases e
  | .dict _ :: _, _, _, _, _, _, e => by cases e
theorem mt_join : MtR X "str.join" (fun x vs H Q => ∃ G z v d r, Same G H ∧ x = .str z ∧ vs = [v] ∧ Rep G d v ∧ dJoin z d = some (.str r) ∧ Q (.str r) H) := by
  intro pins s σ H x vs v us Q I rx rv ⟨G, z, y, d, r, hG, e1, e2, rd, e, q⟩
  subst e1 e2
  obtain ⟨t, rfl⟩ := rx
  obtain ⟨u, rfl, ru⟩ := rv.one
  cases d with
  | list ds =>
    obtain ⟨ys, e3, e4⟩ := Option.bind_eq_some_iff.mp e
    split at e4
    · rename_i hc
      cases e4
      obtain ⟨l, xs, rfl, h1, l1⟩ := rd
      cases ru
      obtain ⟨zz, its, n, rv2, e5⟩ := rd_list I hG h1
      refine join_list ⟨_, e5, rfl, n, rfl⟩ (by simpa using strs_rep l1 rv2 e3) hc.1 fun t' k => ⟨.str _, H, I.tok _, ⟨t', ?_⟩, q⟩
      rw [eq_of_beq (join_plain_closes z ys)]
    · cases e4
  | _ => cases e
def vJoin (x : Str) (f : Dn → Res PyData) : Dn → Res PyData := fun δ => (f δ).bind fun d => ofO (dJoin x d)
theorem dJoin_str {z : Str} {d d' : PyData} (e : dJoin z d = some d') : ∃ r, d' = .str r ∧ PyData.strOk r = true ∧ r.length ≤ sizeLine := by
  cases d with
  | list ds =>
    obtain ⟨ys, e3, e4⟩ := Option.bind_eq_some_iff.mp e
    split at e4
    · rename_i hc; cases e4; exact ⟨_, rfl, hc.2.1, hc.2.2⟩
    · cases e4
  | _ => cases e
theorem d_join {z : Str} {j : Nat} {p1 apos cpos : Pos} (ha : DE X E a f) (hbase : attributeBase (.Constant (.str z) j p1) "join" X.env (eval (.Constant (.str z) j p1) X.env) = eval (.Constant (.str z) j p1) X.env := by rfl)
    (hfew : ((backTo cpos (starEach [a] X.env)).all (fun x => !x.1) && (backToKw cpos (keywordEach [] X.env)).all (fun x => x.1.isSome)
      && decide ([a].length + ([] : List Keyword).length + (if ([] : List Keyword).isEmpty then 0 else 1) < 30)) = true := by rfl)
    (hline : (apos.endLine == cpos.line) = true := by rfl) (hs : starEach [a] X.env = (false, eval a X.env) :: starEach [] X.env := by rfl) (hplain : (backTo cpos (starEach [] X.env)).any (·.1) = false := by rfl) :
    DE X E (.Call (.Attribute (.Constant (.str z) j p1) "join" apos) [a] [] cpos) (vJoin z f) := by
  refine PE.imp (pe_bm PySem.F.plainAttrs_str PySem.F.slot_str_join PySem.F.type_str_join mt_join pe_str (pa_cons ha pa_nil hs) hbase hfew hline hs hplain) fun σ H Q ⟨G, δ, S, aft⟩ => ⟨rfl, ?_⟩
  refine aft_bind S aft fun d v G1 H1 g1 r1 S1 a1 => ?_
  cases e : dJoin z d with
  | none => rw [e] at a1; exact a1.elim
  | some d' =>
    obtain ⟨r, rfl, o1, o2⟩ := dJoin_str e
    rw [e] at a1
    exact ⟨G1, z, v, d, r, S1.sub, rfl, rfl, r1, e, a1 _ G1 H1 (Grow.refl S1.sub) ⟨rfl, o1, o2⟩⟩
def spD (n : Nat) (m : List PyData → Res PyData) : Sp := fun vs H Q _ => ∃ G ds d, Same G H ∧ RepL G ds vs ∧ ds.length = n ∧ m ds = .ok d ∧ ∀ v G' H', Grow G H G' H' → Rep G' d v → Q v H'
structure Fn (P : Program) (w : World) (K : PySem.W.Frag) (mg : Str → Option Value) (base : Heap) (x : Str) (k n : Nat) (m : List PyData → Res PyData) : Prop where
  ex : ∃ f fd ps, ps.length = n ∧ FnOk P w K mg base CX0 k f fd ps (spD n m) ∧ mg x = some (.ref f) ∧ PySem.W.keepIn K (.ref f) = true ∧ Binds K fd ps []
def E0k : EK := fun _ _ => False
def vCall (fs : Dn → Res (List PyData)) (m : List PyData → Res PyData) : Dn → Res PyData := fun δ => (fs δ).bind m
theorem d_call {x : Str} {j n : Nat} {m : List PyData → Res PyData} (C : Cxt P w K mg base X N sc k df) (F : Fn P w K mg base x j n m) (hj : j ≤ k) (h : okGl sc x = true) (ha : DA X E0k (e :: es) n fs)
    (he : starEach (e :: es) X.env = (false, eval e X.env) :: starEach es X.env := by rfl) (hpl : (backTo pos (starEach es X.env)).any (·.1) = false := by rfl) : DE X E0k (.Call (.Name x p) (e :: es) [] pos) (vCall fs m) := by
  obtain ⟨f, fd, ps, hps, F, hm, hk, hb⟩ := F.ex
  obtain ⟨h1, h2, h3⟩ := okGl.gl C h
  have F' : FnOk X.prog X.w X.K X.mg X.base CX0 j f fd ps (spD n m) := by rw [C.hP, C.hw, C.hK, C.hmg, C.hb]; exact F
  refine PE.imp (pe_call F' (C.room.mono hj) h1 (by rw [C.hmg]; exact hm) (by rw [C.hK]; exact hk) (by rw [C.hK]; exact hb) .nil (pass0 (X := X)) ha.pa h2 he hpl) fun σ H Q ⟨G, δ, S, aft⟩ => ?_
  refine aftA_any (W := fun G H r => Aft E0k G H r Q) S aft (fun g a => Aft.grow g a) (fun c a => a) (fun a => a) fun ds vs G1 H1 e g1 r1 S1 a1 => ?_
  rw [List.append_nil]
  cases q : m ds with
  | ok d => rw [q] at a1; exact ⟨G1, ds, d, S1.sub, r1, ha.len δ ds e, q, a1⟩
  | exc c => rw [q] at a1; exact (a1 G1 H1 (Grow.refl S1.sub)).elim
  | no => rw [q] at a1; exact a1.elim
end
end Sm
end
section
set_option Elab.async false
set_option linter.all false
set_option maxRecDepth 100000
set_option maxHeartbeats 4000000
set_option autoImplicit false
namespace Sm
open PySem PySem.Spec PyProof.Rows L2
def Its (z : Str) : It := ⟨fun i _ => i < z.cps.size, fun i H x H' => H' = H ∧ ∃ c, z.cps[i]? = some c ∧ x = .str ⟨#[c]⟩, fun i _ => z.cps.size ≤ i⟩
theorem turn_ascii {P : Program} {w : World} {K : PySem.W.Frag} {tg : Expr} (it : Addr) (z : Str) (t : Tok) : Turn P w K tg (Its z) [it] it (fun i h => h.IsStrIter it "str_ascii_iterator" z t i) where
  mem := by simp
  obj := fun i h st b hb => by
    have e : b = it := by simpa using hb
    subst e
    obtain ⟨o, e, c, d⟩ := st
    exact ⟨o, e, fun v z => by rw [d] at z; cases z⟩
  keep := fun i h h' st k => by
    obtain ⟨o, e, c, d⟩ := st
    exact ⟨o, k it (by simp) o e, c, d⟩
  item := by
    intro X hP hw hK hc i pins s σ H E I hf st hg
    subst hP hw hK
    obtain ⟨f0, f1, f2, f3, f4, f5⟩ := hf it (by simp)
    have hi : i < z.cps.size := hg
    refine wpAny_pyNext_ascii_item st (c := z.cps[i]) (by simp [hi]) fun h' st' sb => ?_
    have I1 : Inv X pins σ H { s with heap := h', toks := s.toks + 1 } := I.turned (fun b o hb e => (sb.2 b hb).trans e) f0 f1 f3 f4 f5
    obtain ⟨o, e, c, d⟩ := id st'
    exact ⟨_, rfl, go_of (s := { s with heap := h', toks := s.toks + 1 }) e c d (by decide) ⟨.str ⟨#[z.cps[i]]⟩, H, I1, ⟨_, rfl⟩, ⟨rfl, _, by simp [hi], rfl⟩, st', fun b hb => (hf b hb).1⟩⟩
  done := by
    intro X hP hw hK hc i pins s σ H E I hf st hg
    subst hP hw hK
    obtain ⟨f0, f1, f2, f3, f4, f5⟩ := hf it (by simp)
    have hi : z.cps.size ≤ i := hg
    exact wpAny_pyNext_ascii_end (I.ok.hd hc) st (by simpa using hi) fun h' eb => ⟨rfl, I.turned (t' := s.toks) (fun b o hb e => eb b o hb e) f0 f1 f3 f4 f5⟩
  self := fun _ _ _ _ _ st h => wpAny_pyIter_striter_ascii st h
theorem turn_wide {P : Program} {w : World} {K : PySem.W.Frag} {tg : Expr} (it : Addr) (z : Str) (t : Tok) : Turn P w K tg (Its z) [it] it (fun i h => h.IsStrIter it "str_iterator" z t i) where
  mem := by simp
  obj := fun i h st b hb => by
    have e : b = it := by simpa using hb
    subst e
    obtain ⟨o, e, c, d⟩ := st
    exact ⟨o, e, fun v z => by rw [d] at z; cases z⟩
  keep := fun i h h' st k => by
    obtain ⟨o, e, c, d⟩ := st
    exact ⟨o, k it (by simp) o e, c, d⟩
  item := by
    intro X hP hw hK hc i pins s σ H E I hf st hg
    subst hP hw hK
    obtain ⟨f0, f1, f2, f3, f4, f5⟩ := hf it (by simp)
    have hi : i < z.cps.size := hg
    refine wpAny_pyNext_wide_item st (c := z.cps[i]) (by simp [hi]) fun h' st' sb => ?_
    have I1 : Inv X pins σ H { s with heap := h', toks := s.toks + 1 } := I.turned (fun b o hb e => (sb.2 b hb).trans e) f0 f1 f3 f4 f5
    obtain ⟨o, e, c, d⟩ := id st'
    exact ⟨_, rfl, go_of (s := { s with heap := h', toks := s.toks + 1 }) e c d (by decide) ⟨.str ⟨#[z.cps[i]]⟩, H, I1, ⟨_, rfl⟩, ⟨rfl, _, by simp [hi], rfl⟩, st', fun b hb => (hf b hb).1⟩⟩
  done := by
    intro X hP hw hK hc i pins s σ H E I hf st hg
    subst hP hw hK
    obtain ⟨f0, f1, f2, f3, f4, f5⟩ := hf it (by simp)
    have hi : z.cps.size ≤ i := hg
    exact wpAny_pyNext_wide_end (I.ok.hd hc) st (by simpa using hi) fun h' eb => ⟨rfl, I.turned (t' := s.toks) (fun b o hb e => eb b o hb e) f0 f1 f3 f4 f5⟩
  self := fun _ _ _ _ _ st h => wpAny_pyIter_striter_wide st h
def Ite (K : PySem.W.Frag) (a : Addr) : It :=
  ⟨fun i H => ∃ xs x, SqL K H a xs ∧ xs[i]? = some x, fun i H x H' => ∃ p y, H p = none ∧ x = .ref p ∧ H' = upd H p (.tup [.int i, y]) ∧ ∀ xs, SqL K H a xs → xs[i]? = some y, fun i H => ∃ xs, SqL K H a xs ∧ xs.length ≤ i⟩
theorem turn_enum {P : Program} {w : World} {K : PySem.W.Frag} {elts : List Expr} {x1 : Nat} {tp : Pos} (a e it : Addr) (hne : e ≠ it) : Turn P w K (.Tuple elts x1 tp) (Ite K a) [e, it] e (fun i h => (∃ old, IsEnum h e it (i : Int) old) ∧ h.IsListIter it a i) where
  mem := by simp
  obj := fun i h st b hb => by
    obtain ⟨⟨old, h1⟩, o, h2, c, d⟩ := st
    rcases List.mem_cons.mp hb with rfl | hb
    · exact ⟨_, h1, fun v z => by cases z⟩
    · have e' : b = it := by simpa using hb
      subst e'
      exact ⟨o, h2, fun v z => by rw [d] at z; cases z⟩
  keep := fun i h h' st k => by
    obtain ⟨⟨old, h1⟩, o, h2, c, d⟩ := st
    exact ⟨⟨old, k e (by simp) _ h1⟩, o, k it (by simp) o h2, c, d⟩
  item := by
    intro X hP hw hK hc i pins s σ H E I hf st hg
    subst hP hw hK
    obtain ⟨⟨old, he⟩, st⟩ := st
    obtain ⟨xs, x, hq, hx⟩ := hg
    obtain ⟨its, rv, p, hz⟩ := I.list hq
    obtain ⟨u, hu, ru⟩ := rv.get hx
    obtain ⟨f0, f1, f2, f3, f4, f5⟩ := hf e (by simp)
    obtain ⟨g0, g1, g2, g3, g4, g5⟩ := hf it (by simp)
    refine wpAny_pyNext_enum_item he st p.isList (x := u) (by simpa using hu) hne fun h' he' st' ht' hsz kp => ?_
    refine ⟨_, rfl, wpAny_letOwnedTupleGo_enum he' fun h2 he2 sb => ?_⟩
    have hfr : H s.heap.objs.size = none := I.fresh
    have elt : e < s.heap.objs.size := Heap.lt_size he
    have ilt : it < s.heap.objs.size := by obtain ⟨o, h, _⟩ := st; exact Heap.lt_size h
    have kp2 : ∀ b o, b ≠ e → b ≠ it → s.heap.get? b = some o → h2.get? b = some o := fun b o h1 h3 q => (sb.2 b h1).trans (kp b o h1 h3 q)
    -- the two records have turned
    have I1 : Inv X pins σ H { s with heap := h2, toks := s.toks + 1 } := by
      refine I.step (g' := s.gens) (d' := s.drawn) (ch := [e, it]) (fun b hb => ?_) (fun b o _ _ hcb q _ => kp2 b o (fun z => hcb (by simp [z])) (fun z => hcb (by simp [z])) q) (fun b o _ _ hcb q _ => ⟨o.slots, kp2 b o (fun z => hcb (by simp [z])) (fun z => hcb (by simp [z])) q⟩) (fun _ _ _ _ n => n)
        (fun b o hcb q => ⟨o, kp2 b o (fun z => hcb (by simp [z])) (fun z => hcb (by simp [z])) q⟩) (fun _ _ q => q) (fun _ _ _ q => q) (fun b ps q => ⟨#[], by rw [q]; simp⟩) (fun m hm => ?_) (fun b u' q => ?_) I.bare
      · rcases List.mem_cons.mp hb with rfl | hb
        · exact ⟨f3, f1, f4, f5⟩
        · have e' : b = it := by simpa using hb
          subst e'
          exact ⟨g3, g1, g4, g5⟩
      · obtain ⟨o, es, ep, ho, r⟩ := hm
        exact ⟨o, es, ep, kp2 _ o (Ne.symm f1) (Ne.symm g1) ho, r⟩
      · refine (I.hok b u' q).stay (fun c v hcc q' => kp2 c v ?_ ?_ q') (fun _ q' => q') fun _ _ q' => q'
        · rintro rfl
          rcases hcc with z | z
          · subst z; rw [f0] at q; cases q
          · rw [f0] at z; cases z
        · rintro rfl
          rcases hcc with z | z
          · subst z; rw [g0] at q; cases q
          · rw [g0] at z; cases z
    have htt : h2.get? s.heap.objs.size = some { cls := .type "tuple", data := .seq #[.int i s.toks, u] } := (sb.2 _ (Nat.ne_of_gt elt)).trans ht'
    have Hold : ∀ b o, H b = some o → b ≠ s.heap.objs.size := fun b o q z => by subst z; rw [hfr] at q; cases q
    have I2 : Inv X pins σ (upd H s.heap.objs.size (.tup [.int i, x])) { s with heap := h2, toks := s.toks + 1 } := by
      have nb : ∀ b o, b ≠ s.heap.objs.size → s.heap.get? b = some o → True := fun _ _ _ _ => trivial
      have base' : Un X.fs X.ex X.H₀ (upd H s.heap.objs.size (.tup [.int i, x])) X.s₀.heap h2 := by
        have B := I1.base
        have ne0 : ∀ b o, X.s₀.heap.get? b = some o → b ≠ s.heap.objs.size := fun b o q => Nat.ne_of_lt (Nat.lt_of_lt_of_le (Heap.lt_size q) I.sz)
        exact ⟨B.keep, B.slot, fun b o q n hx => by rw [upd_ne (ne0 b o q)]; exact B.free b o q n hx, B.there,
          fun b ys q => by rw [upd_ne (Hold b _ (B.tups b ys q))]; exact B.tups b ys q, fun b o' u' q => by rw [upd_ne (Hold b _ (B.frzs b o' u' q))]; exact B.frzs b o' u' q,
          fun b ps q => by obtain ⟨m, q'⟩ := B.tbls b ps q; exact ⟨m, by rw [upd_ne (Hold b _ q')]; exact q'⟩⟩
      have hok' : HOk X.prog X.w (upd H s.heap.objs.size (.tup [.int i, x])) h2 := fun b o q => by
        by_cases hb : b = s.heap.objs.size
        · subst hb
          rw [upd_same] at q
          cases q
          refine ⟨by show 2 ≤ sizeLine; decide, [.int i s.toks, u], .cons ⟨_, rfl⟩ (.cons ru .nil), ⟨_, htt, rfl, 0, rfl⟩⟩
        · rw [upd_ne hb] at q
          exact (I1.hok b o q).stay (fun _ _ _ q' => q') (fun c q' => by rw [upd_ne (Hold c _ q')]; exact q') fun c ys q' => by rw [upd_ne (Hold c _ q')]; exact q'
      refine ⟨I1.ok, I1.os, I1.bare, base', I1.loc, I1.cell, ?_, fun y c q => ?_, fun p hp => ?_, hok', I1.len⟩
      · rw [upd_ne (Nat.ne_of_lt I.lt)]; exact I1.free
      · obtain ⟨v, oc, hoc, _⟩ := I.cell y c q
        rw [upd_ne (Nat.ne_of_lt (Heap.lt_size hoc))]; exact I1.freeC y c q
      · obtain ⟨q1, q2, q3, q4, q5⟩ := I1.pin p hp
        refine ⟨q1, ?_, q3, q4, q5⟩
        rw [upd_ne (Nat.ne_of_lt (Heap.lt_size (I.pin p hp).1))]; exact q2
    refine ⟨.ref s.heap.objs.size, _, I2, rfl, ⟨_, x, hfr, rfl, rfl, fun ys hy => by rw [I.list_inj hy hq]; exact hx⟩, ⟨⟨_, by push_cast; exact he2⟩, ?_⟩, fun b hb => ?_⟩
    · obtain ⟨o, q, c, d⟩ := st'
      exact ⟨o, (sb.2 it (Ne.symm hne)).trans q, c, d⟩
    · rcases List.mem_cons.mp hb with rfl | hb
      · rw [upd_ne (Nat.ne_of_lt elt)]; exact f0
      · have e' : b = it := by simpa using hb
        subst e'
        rw [upd_ne (Nat.ne_of_lt ilt)]; exact g0
  done := by
    intro X hP hw hK hc i pins s σ H E I hf st hg
    subst hP hw hK
    obtain ⟨⟨old, he⟩, st⟩ := st
    obtain ⟨xs, hq, hx⟩ := hg
    obtain ⟨its, rv, p, hz⟩ := I.list hq
    obtain ⟨g0, g1, g2, g3, g4, g5⟩ := hf it (by simp)
    have hl := rv.length
    exact wpAny_pyNext_enum_end (I.ok.hd hc) he st p.isList (by simp; omega) fun h' eb => ⟨rfl, I.turned (t' := s.toks) (fun b o hb e => eb b o hb e) g0 g1 g3 g4 g5⟩
  self := fun _ _ _ _ _ st h => by
    obtain ⟨⟨old, he⟩, _⟩ := st
    exact wpAny_pyIter_enum he h
end Sm
end
section
set_option Elab.async false
set_option linter.all false
set_option maxRecDepth 100000
set_option maxHeartbeats 4000000
set_option autoImplicit false
namespace Sm
open PySem PySem.Spec PyProof.Rows L2
structure Walk (J : It) (G : Hp) (ds : List PyData) : Prop where
  go : ∀ (i : Nat) (H : Hp), i < ds.length → Same G H → J.go i H
  yld : ∀ (i : Nat) (d : PyData) (G2 H : Hp) (x : V) (H' : Hp), ds[i]? = some d → Same G G2 → Same G2 H → J.yld i H x H' → ∃ G3, Grow G2 H G3 H' ∧ Rep G3 d x
  stop : ∀ (i : Nat) (H : Hp), ds.length ≤ i → Same G H → J.stop i H
def AftI (E : EK) (G H : Hp) (r : Res (List PyData)) (R : It → Hp → Prop) : Prop := match r with
  | .ok ds => ∀ J G' H', Grow G H G' H' → Walk J G' ds → R J H'
  | .exc c => ∀ G' H', Grow G H G' H' → E c H'
  | .no => False
def tI (E : EK) (f : Dn → Res (List PyData)) : TI := fun σ H R => ∃ G δ, SR G H σ δ ∧ AftI E G H (f δ) R
abbrev DI (X : Cx) (E : EK) (tg e : Expr) (f : Dn → Res (List PyData)) : Prop := PI X tg e (tI E f)
theorem AftI.grow {E : EK} {G H G' H' : Hp} {r : Res (List PyData)} {Q : It → Hp → Prop} (g : Grow G H G' H') (a : AftI E G H r Q) : AftI E G' H' r Q := by
  cases r with
  | ok d => exact fun v G2 H2 g2 q => a v G2 H2 (g.trans g2) q
  | exc c => exact fun G2 H2 g2 => a G2 H2 (g.trans g2)
  | no => exact a
theorem PI.imp {X : Cx} {tg e : Expr} {t t' : TI} (h : PI X tg e t) (i : ∀ σ H Q, t' σ H Q → t σ H Q) : PI X tg e t' := fun pins s σ H Q I q => h pins s σ H Q I (i _ _ _ q)
def signsD (x : Str) : List PyData := x.cps.toList.map fun c => .str ⟨#[c]⟩
def seqOf : PyData → Res (List PyData)
  | .list ds => .ok ds
  | .tuple ds => .ok ds
  | .str x => .ok (signsD x)
  | _ => .no
theorem walk_list {K : PySem.W.Frag} {G : Hp} {a : Addr} {xs : List V} {ds : List PyData} (h : Rd G a (.lst xs)) (l : RepL G ds xs) : Walk (Itl K a) G ds where
  go := fun i H hi hG => by
    have hi' : i < xs.length := by rw [← l.length]; exact hi
    exact ⟨xs, xs[i], .inl (Rd.mono hG h), by simp [hi']⟩
  yld := fun i d G2 H x H' e h1 h2 hy => by
    obtain ⟨rfl, hy⟩ := hy
    obtain ⟨y, e1, r⟩ := l.get e
    have := hy xs (.inl (Rd.mono (h1.trans h2) h))
    rw [e1] at this
    cases this
    exact ⟨G2, Grow.refl h2, r.mono h1⟩
  stop := fun i H hi hG => ⟨xs, .inl (Rd.mono hG h), by rw [← l.length]; exact hi⟩
theorem walk_tup {K : PySem.W.Frag} {G : Hp} {a : Addr} {xs : List V} {ds : List PyData} (h : G a = some (.tup xs)) (l : RepL G ds xs) : Walk (Itt K a) G ds where
  go := fun i H hi hG => by
    have hi' : i < xs.length := by rw [← l.length]; exact hi
    exact ⟨xs, xs[i], .inl (.inl (hG _ _ h)), by simp [hi']⟩
  yld := fun i d G2 H x H' e h1 h2 hy => by
    obtain ⟨rfl, hy⟩ := hy
    obtain ⟨y, e1, r⟩ := l.get e
    have := hy xs (.inl (.inl (h2 _ _ (h1 _ _ h))))
    rw [e1] at this
    cases this
    exact ⟨G2, Grow.refl h2, r.mono h1⟩
  stop := fun i H hi hG => ⟨xs, .inl (.inl (hG _ _ h)), by rw [← l.length]; exact hi⟩
theorem walk_str {G : Hp} {z : Str} (ho : PyData.strOk z = true) : Walk (Its z) G (signsD z) where
  go := fun i H hi hG => by
    show i < z.cps.size
    simpa [signsD] using hi
  yld := fun i d G2 H x H' e h1 h2 hy => by
    obtain ⟨rfl, c, hc, rfl⟩ := hy
    have e' : (z.cps.toList.map fun c => PyData.str ⟨#[c]⟩)[i]? = some d := e
    rw [List.getElem?_map, Array.getElem?_toList, hc] at e'
    cases e'
    refine ⟨G2, Grow.refl h2, rfl, ?_, by show 1 ≤ sizeLine; decide⟩
    unfold PyData.strOk at ho ⊢
    rw [← Array.all_toList, List.all_eq_true] at ho
    have := ho c (by rw [← Array.getElem?_toList] at hc; exact List.mem_of_getElem? hc)
    simpa using this
  stop := fun i H hi hG => by
    show z.cps.size ≤ i
    simpa [signsD] using hi
theorem walk_range {G : Hp} (lo : Int) (n : Nat) : Walk (Itr lo n) G ((List.range n).map fun (i : Nat) => PyData.int (lo + i)) where
  go := fun i H hi hG => by
    show i < n
    simpa using hi
  yld := fun i d G2 H x H' e h1 h2 hy => by
    obtain ⟨rfl, rfl⟩ := hy
    rw [List.getElem?_map] at e
    by_cases hi : i < n
    · rw [List.getElem?_range hi] at e; cases e; exact ⟨G2, Grow.refl h2, rfl⟩
    · rw [List.getElem?_eq_none (by simpa using hi)] at e; cases e
  stop := fun i H hi hG => by
    show n ≤ i
    simpa using hi
def enumD (ds : List PyData) : List PyData := ds.mapIdx fun i d => .tuple [.int i, d]
theorem walk_enum {K : PySem.W.Frag} {G : Hp} {a : Addr} {xs : List V} {ds : List PyData} (h : Rd G a (.lst xs)) (l : RepL G ds xs) : Walk (Ite K a) G (enumD ds) where
  go := fun i H hi hG => by
    have hi' : i < xs.length := by rw [← l.length]; simpa [enumD] using hi
    exact ⟨xs, xs[i], .inl (Rd.mono hG h), by simp [hi']⟩
  yld := fun i d G2 H x H' e h1 h2 hy => by
    obtain ⟨p, y, hp, rfl, rfl, hy⟩ := hy
    unfold enumD at e
    rw [List.getElem?_mapIdx] at e
    obtain ⟨d0, e0, rfl⟩ := Option.map_eq_some_iff.mp e
    obtain ⟨y', e1, r⟩ := l.get e0
    have := hy xs (.inl (Rd.mono (h1.trans h2) h))
    rw [e1] at this
    cases this
    refine ⟨upd G2 p (.tup [.int i, y]), Grow.new h2 hp, p, _, rfl, upd_same, RepL.cons rfl (RepL.cons (r.mono (h1.trans (Same.upd (h2.free hp)))) rfl)⟩
  stop := fun i H hi hG => ⟨xs, .inl (Rd.mono hG h), by rw [← l.length]; simpa [enumD] using hi⟩
section
variable {P : Program} {w : World} {K : PySem.W.Frag} {mg : Str → Option Value} {base : Heap} {X : Cx} {N : List Str} {sc : Scope} {k : Nat} {df : Bool} {E : EK} {pos p : Pos} {tg a b c e : Expr} {es : List Expr} {f g : Dn → Res PyData} {fs src : Dn → Res (List PyData)}
theorem i_seq (ha : DE X E a f) : DI X E tg a (fun δ => (f δ).bind seqOf) := by
  intro pins s σ H R I ⟨G, δ, S, aft⟩
  have h := aft_any (R := fun v H1 => ∃ G1 d, Same G1 H1 ∧ Rep G1 d v ∧ AftI E G1 H1 (seqOf d) R) (W := fun G H r => AftI E G H r R) S aft (fun g a => AftI.grow g a) (fun c a => a) (fun a => a) fun d v G1 H1 g1 r1 S1 a1 => ⟨G1, d, S1.sub, r1, a1⟩
  refine thn (ha pins s σ H _ I h) fun v s1 ⟨x, H1, I1, rx, G1, d, hG, rd, a1⟩ => ?_
  cases d with
  | list ds =>
    obtain ⟨p, xs, rfl, h1, l1⟩ := rd
    cases rx
    obtain ⟨zz, its, n, rv, e1⟩ := rd_list I1 hG h1
    refine wpAny_pyIter_list ⟨_, e1, rfl, n, rfl⟩ ?_
    refine ⟨s1.heap.objs.size, [s1.heap.objs.size], _, _, H1, rfl, I1.kept (t' := s1.toks) fun b o e => Heap.get?_push_of_some _ e, turn_list p _, ⟨_, Heap.get?_push_size _ rfl, rfl, rfl⟩, fun b hb => ?_, a1 _ G1 H1 (Grow.refl hG) (walk_list h1 l1)⟩
    have e : b = s1.heap.objs.size := by simpa using hb
    subst e
    exact I1.fpOk (Nat.le_refl _) I1.fresh
  | tuple ds =>
    obtain ⟨p, xs, rfl, h1, l1⟩ := rd
    cases rx
    obtain ⟨zz, its, rv, pt⟩ := rd_tup I1 hG h1
    refine wpAny_pyIter_tuple (show s1.heap.IsTuple p its.toArray from pt) ?_
    refine ⟨s1.heap.objs.size, [s1.heap.objs.size], _, _, H1, rfl, I1.kept (t' := s1.toks) fun b o e => Heap.get?_push_of_some _ e, turn_tuple p _, ⟨_, Heap.get?_push_size _ rfl, rfl, rfl⟩, fun b hb => ?_, a1 _ G1 H1 (Grow.refl hG) (walk_tup h1 l1)⟩
    have e : b = s1.heap.objs.size := by simpa using hb
    subst e
    exact I1.fpOk (Nat.le_refl _) I1.fresh
  | str z =>
    obtain ⟨e0, o1, l1⟩ := rd
    subst e0
    obtain ⟨t, rfl⟩ := rx
    cases ha : z.cps.all (· < 128)
    · refine wpAny_pyIter_wide ha ?_
      refine ⟨s1.heap.objs.size, [s1.heap.objs.size], _, _, H1, rfl, I1.kept (t' := s1.toks) fun b o e => Heap.get?_push_of_some _ e, turn_wide _ z t, ⟨_, Heap.get?_push_size _ rfl, rfl, rfl⟩, fun b hb => ?_, a1 _ G1 H1 (Grow.refl hG) (walk_str o1)⟩
      have e : b = s1.heap.objs.size := by simpa using hb
      subst e
      exact I1.fpOk (Nat.le_refl _) I1.fresh
    · refine wpAny_pyIter_ascii ha ?_
      refine ⟨s1.heap.objs.size, [s1.heap.objs.size], _, _, H1, rfl, I1.kept (t' := s1.toks) fun b o e => Heap.get?_push_of_some _ e, turn_ascii _ z t, ⟨_, Heap.get?_push_size _ rfl, rfl, rfl⟩, fun b hb => ?_, a1 _ G1 H1 (Grow.refl hG) (walk_str o1)⟩
      have e : b = s1.heap.objs.size := by simpa using hb
      subst e
      exact I1.fpOk (Nat.le_refl _) I1.fresh
  | _ => exact (show False from a1).elim
def rngD (lo hi : Int) : List PyData := (List.range (hi - lo).toNat).map fun (i : Nat) => PyData.int (lo + i)
def rng1 : List PyData → Res (List PyData)
  | [.int j] => if -(2 ^ 62) ≤ j ∧ j < 2 ^ 62 then .ok (rngD 0 j) else .no
  | _ => .no
def rng2 : List PyData → Res (List PyData)
  | [.int i, .int j] => if -(2 ^ 62) ≤ i ∧ i < 2 ^ 62 ∧ -(2 ^ 62) ≤ j ∧ j < 2 ^ 62 then .ok (rngD i j) else .no
  | _ => .no
theorem i_range1 {n : Nat} (C : Cxt P w K mg base X N sc k df) (h : okGl sc "range" = true) (hm : mg "range" = none) (ha : DA X E [a] n fs) (hs : starEach [a] X.env = [(false, eval a X.env)] := by rfl) :
    DI X E tg (.Call (.Name "range" p) [a] [] pos) (fun δ => (fs δ).bind rng1) := by
  refine PI.imp (pi_range1 (okGl.gl C h).1 (by rw [C.hmg]; exact hm) ha.pa hs) fun σ H Q ⟨G, δ, S, aft⟩ => ?_
  refine aftA_any (W := fun G H r => AftI E G H r Q) S aft (fun g a => AftI.grow g a) (fun c a => a) (fun a => a) fun ds vs G1 H1 e g1 r1 S1 a1 => ?_
  unfold rng1 at a1
  split at a1
  · rename_i j
    split at a1
    · rename_i hc
      obtain ⟨v, rfl, e1⟩ := rep1 r1
      cases (show _ = _ from e1)
      refine ⟨j, rfl, hc.1, hc.2, a1 _ G1 H1 (Grow.refl S1.sub) ?_⟩
      have := walk_range (G := G1) 0 j.toNat
      unfold rngD
      rw [Int.sub_zero]; exact this
    · exact a1.elim
  · exact a1.elim
theorem i_range2 {n : Nat} (C : Cxt P w K mg base X N sc k df) (h : okGl sc "range" = true) (hm : mg "range" = none) (ha : DA X E [a, b] n fs) (hs : starEach [a, b] X.env = [(false, eval a X.env), (false, eval b X.env)] := by rfl) (hs2 : starEach [b] X.env = [(false, eval b X.env)] := by rfl) :
    DI X E tg (.Call (.Name "range" p) [a, b] [] pos) (fun δ => (fs δ).bind rng2) := by
  refine PI.imp (pi_range2 (okGl.gl C h).1 (by rw [C.hmg]; exact hm) ha.pa hs hs2) fun σ H Q ⟨G, δ, S, aft⟩ => ?_
  refine aftA_any (W := fun G H r => AftI E G H r Q) S aft (fun g a => AftI.grow g a) (fun c a => a) (fun a => a) fun ds vs G1 H1 e g1 r1 S1 a1 => ?_
  unfold rng2 at a1
  split at a1
  · rename_i i j
    split at a1
    · rename_i hc
      obtain ⟨v, v', rfl, e1, e2⟩ := rep2 r1
      cases (show _ = _ from e1); cases (show _ = _ from e2)
      exact ⟨i, j, rfl, hc, a1 _ G1 H1 (Grow.refl S1.sub) (walk_range i (j - i).toNat)⟩
    · exact a1.elim
  · exact a1.elim
def enum1 : List PyData → Res (List PyData)
  | [.list ds] => .ok (enumD ds)
  | _ => .no
theorem i_enum {n x1 : Nat} {elts : List Expr} {tp : Pos} (C : Cxt P w K mg base X N sc k df) (h : okGl sc "enumerate" = true) (hm : mg "enumerate" = none) (ha : DA X E [a] n fs) (he : starEach [a] X.env = (false, eval a X.env) :: starEach [] X.env := by rfl) (hpl : (backTo pos (starEach [] X.env)).any (·.1) = false := by rfl) :
    DI X E (.Tuple elts x1 tp) (.Call (.Name "enumerate" p) [a] [] pos) (fun δ => (fs δ).bind enum1) := by
  intro pins s σ H R I ⟨G, δ, S, aft⟩
  obtain ⟨h1, h2, h3⟩ := okGl.gl C h
  have hh := aftA_any (R := fun vs H1 => ∃ G1 ds, Same G1 H1 ∧ RepL G1 ds vs ∧ AftI E G1 H1 (enum1 ds) R) (W := fun G H r => AftI E G H r R) S aft (fun g a => AftI.grow g a) (fun c a => a) (fun a => a) fun ds vs G1 H1 e g1 r1 S1 a1 => ⟨G1, ds, S1.sub, r1, a1⟩
  refine wpAny_Call_Name_kw (ld_blt I h1 (by rw [C.hmg]; exact hm) boot_enumerate ?_ h3 h2)
  refine PyProof.Rows.callWith_type1 (thn (ha.pa pos pins s σ H _ I hh) fun us s1 ⟨vs, H1, I1, rv, G1, ds, hG, rl, a1⟩ => ?_) he hpl
  unfold enum1 at a1
  split at a1
  · rename_i ys
    obtain ⟨v, rfl, l, xs, rfl, q1, l1⟩ := rep1 rl
    obtain ⟨u, rfl, ru⟩ := vals1 rv
    cases ru
    obtain ⟨zz, its, nn, rw', e1⟩ := rd_list I1 hG q1
    refine call_enumerate_list ⟨_, e1, rfl, nn, rfl⟩ fun h' he' hit hsz kp => ?_
    have I2 : Inv X pins σ H1 { s1 with heap := h' } := I1.kept (t' := s1.toks) kp
    refine wpAny_pyIter_enum he' ?_
    refine ⟨s1.heap.objs.size + 1, [s1.heap.objs.size + 1, s1.heap.objs.size], _, _, H1, rfl, I2, turn_enum l _ _ (Nat.ne_of_gt (Nat.lt_succ_self _)), ⟨⟨_, he'⟩, hit⟩, fun b hb => ?_, a1 _ G1 H1 (Grow.refl hG) (walk_enum q1 l1)⟩
    rcases List.mem_cons.mp hb with rfl | hb
    · exact I1.fpOk (Nat.le_succ _) (I1.hok.fresh (Nat.le_succ _))
    · have e : b = s1.heap.objs.size := by simpa using hb
      subst e
      exact I1.fpOk (Nat.le_refl _) I1.fresh
  · exact a1.elim
def bind1 (d : PyData) : Res (List Sl) := .ok [.sh d]
def bind2 : PyData → Res (List Sl)
  | .tuple [a, b] => .ok [.sh a, .sh b]
  | _ => .no
def compRun (bnd : PyData → Res (List Sl)) (δc : Dn) (tt : Dn → Res Bool) (el : Dn → Res PyData) : List PyData → Res (List PyData)
  | [] => .ok []
  | d :: ds => match bnd d with
    | .ok sl => match tt (sl ++ δc) with
      | .ok true => match el (sl ++ δc) with
        | .ok y => match compRun bnd δc tt el ds with
          | .ok r => .ok (y :: r)
          | _ => .no
        | _ => .no
      | .ok false => compRun bnd δc tt el ds
      | _ => .no
    | _ => .no
def capD (δ : Dn) (cap : List Nat) : Dn := cap.map fun j => δ[j]?.getD .un
def lComp (src : Dn → Res (List PyData)) (bnd : PyData → Res (List Sl)) (cap : List Nat) (tt : Dn → Res Bool) (el : Dn → Res PyData) : Dn → Res (List PyData) := fun δ => (src δ).bind fun ds => if ds.length ≤ sizeLine then compRun bnd (capD δ cap) tt el ds else .no
def GOk (g : TG) (m : Nat) (bnd : PyData → Res (List Sl)) : Prop := ∀ (G H : Hp) (d : PyData) (x : V) (sl : List Sl) (τ : St) (Q : St → Hp → Prop), Same G H → Rep G d x → bnd d = .ok sl → (∀ vs : List V, vs.length = m → sl.length = m → (∀ (i : Nat) s, sl[i]? = some s → SlOk G H (vs[i]?) s ∧ ∃ d, s = .sh d) → Q (vs.map some ++ τ) H) → g x (List.replicate m none ++ τ) H Q
theorem gok1 : GOk (gName 0) 1 bind1 := by
  intro G H d x sl τ Q hG r e h
  cases e
  exact h [x] rfl rfl fun i s hs => by
    cases i with
    | zero => cases hs; exact ⟨⟨x, rfl, r⟩, d, rfl⟩
    | succ i => simp at hs
theorem gok2 : GOk (gTup K 2 (gCons (gName 0) (gCons (gName 1) gNil))) 2 bind2 := by
  intro G H d x sl τ Q hG r e h
  cases d with
  | tuple ds =>
    match ds, e with
    | [a, b], e =>
      cases e
      obtain ⟨p, xs, rfl, h1, l1⟩ := r
      obtain ⟨v, v', rfl, r1, r2⟩ := rep2 l1
      refine ⟨p, _, rfl, .inl (.inl (hG _ _ h1)), rfl, v, [v'], rfl, v', [], rfl, rfl, ?_⟩
      exact h [v, v'] rfl rfl fun i s hs => by
        match i with
        | 0 => cases hs; exact ⟨⟨v, rfl, r1⟩, a, rfl⟩
        | 1 => cases hs; exact ⟨⟨v', rfl, r2⟩, b, rfl⟩
        | i + 2 => simp at hs
  | _ => cases e
theorem SR.cap {G H : Hp} {σ : St} {δ : Dn} (S : SR G H σ δ) (cap : List Nat) (hnd : cap.Nodup) {vs : List V} {sl : List Sl} (hv : vs.length = sl.length) (h : ∀ (i : Nat) s, sl[i]? = some s → SlOk G H (vs[i]?) s ∧ ∃ d, s = .sh d) : SR G H (vs.map some ++ capS σ cap) (sl ++ capD δ cap) := by
  have hlt : ∀ i, i < sl.length → (vs.map some ++ capS σ cap)[i]? = (vs[i]?).map some := fun i hi => by
    rw [List.getElem?_append_left (by rw [List.length_map, hv]; exact hi), List.getElem?_map]
  have hge : ∀ i, ¬ i < sl.length → (vs.map some ++ capS σ cap)[i]? = (cap[i - sl.length]?).map fun j => σ[j]?.join := fun i hi => by
    rw [List.getElem?_append_right (by rw [List.length_map, hv]; omega)]
    unfold capS
    rw [List.getElem?_map, List.length_map, hv]
  have hd : ∀ i, ¬ i < sl.length → (sl ++ capD δ cap)[i]? = (cap[i - sl.length]?).map fun j => δ[j]?.getD .un := fun i hi => by
    rw [List.getElem?_append_right (by omega)]
    unfold capD
    rw [List.getElem?_map]
  refine ⟨S.sub, by simp [hv, capS, capD], fun i s e => ?_, fun i j a d d' ei ej hi hj => ?_⟩
  · by_cases hi : i < sl.length
    · rw [List.getElem?_append_left hi] at e
      rw [hlt i hi]
      have := (h i s e).1
      cases q : vs[i]? with
      | none => rw [q] at this; exact this
      | some v => rw [q] at this; exact this
    · rw [hd i hi] at e
      rw [hge i hi]
      cases q : cap[i - sl.length]? with
      | none => rw [q] at e; cases e
      | some j =>
        rw [q] at e
        simp only [Option.map_some, Option.some.injEq] at e
        subst e
        show SlOk G H (some (σ[j]?.join)).join _
        cases q2 : δ[j]? with
        | none => trivial
        | some s => exact S.sl j s q2
  · have key : ∀ i d, (sl ++ capD δ cap)[i]? = some (.ow d) → ¬ i < sl.length ∧ ∃ j, cap[i - sl.length]? = some j ∧ δ[j]? = some (.ow d) := fun i d e => by
      have hi : ¬ i < sl.length := fun hi => by
        rw [List.getElem?_append_left hi] at e
        obtain ⟨_, d', z⟩ := h i _ e
        cases z
      refine ⟨hi, ?_⟩
      rw [hd i hi] at e
      cases q : cap[i - sl.length]? with
      | none => rw [q] at e; cases e
      | some j =>
        rw [q] at e
        simp only [Option.map_some, Option.some.injEq] at e
        refine ⟨j, rfl, ?_⟩
        cases q2 : δ[j]? with
        | none => rw [q2] at e; cases e
        | some s => rw [q2] at e; cases e; rfl
    obtain ⟨n1, j1, c1, o1⟩ := key i d ei
    obtain ⟨n2, j2, c2, o2⟩ := key j d' ej
    rw [hge i n1, c1] at hi
    rw [hge j n2, c2] at hj
    have hi' : σ[j1]?.join = some (.ref a) := hi
    have hj' : σ[j2]?.join = some (.ref a) := hj
    have := S.ap j1 j2 a d d' o1 o2 hi' hj'
    subst this
    have := (List.getElem?_inj (List.getElem?_eq_some_iff.mp c1).1 hnd).mp (c1.trans c2.symm)
    omega
theorem map_none (xs : List Str) : xs.map (fun _ => (none : Option V)) = List.replicate xs.length none := by
  induction xs with
  | nil => rfl
  | cons a t ih => rw [List.map_cons, ih]; rfl
theorem tComp_D {xs : List Str} {cap : List Nat} {g : TG} {m : Nat} {bnd : PyData → Res (List Sl)} {tt : Dn → Res Bool} {el : Dn → Res PyData} (hx : xs.length = m) (hnd : cap.Nodup) (hg : GOk g m bnd) {σ : St} {H : Hp} {Q : VK} (h : tF E (lComp src bnd cap tt el) σ H Q) :
    tComp (tI E src) (fun σ => xs.map (fun _ => none) ++ capS σ cap) g (tT E0k tt) (tD E0k el) σ H Q := by
  obtain ⟨G, δ, S, aft⟩ := h
  refine ⟨G, δ, S, ?_⟩
  unfold lComp at aft
  cases e : src δ with
  | exc c => rw [e] at aft; exact aft
  | no => rw [e] at aft; exact aft
  | ok ds =>
    rw [e] at aft
    intro J G1 H1 g1 W D hD
    have aft1 : AftF E G H (if ds.length ≤ sizeLine then compRun bnd (capD δ cap) tt el ds else .no) Q := aft
    by_cases hz : ds.length ≤ sizeLine
    · rw [if_pos hz] at aft1
      have S1 := S.grow g1
      have hmap : xs.map (fun _ => (none : Option V)) = List.replicate m none := by rw [← hx]; exact map_none xs
      -- what is so far: the list at D holds acc, of the items done
      refine ⟨fun i n H' => n = ds.length - i ∧ i ≤ ds.length ∧ ∃ G' acc yd, Grow G1 H1 G' H' ∧ G' D = none ∧ H' D = some (.lst acc) ∧ RepL G' yd acc ∧ yd.length ≤ i ∧
        AftF E G H (match compRun bnd (capD δ cap) tt el (ds.drop i) with | .ok r => .ok (yd ++ r) | _ => .no) Q, ⟨_, rfl, Nat.zero_le _, G1, [], [], Grow.own g1.gh hD, g1.gh.free hD, upd_same, rfl, Nat.le_refl _, ?_⟩, ?_⟩
      · rw [List.drop_zero]
        cases q : compRun bnd (capD δ cap) tt el ds with
        | ok r => rw [q] at aft1; exact aft1
        | exc c =>
          -- a comprehension's run never ends so
          exfalso
          have : ∀ l c, compRun bnd (capD δ cap) tt el l ≠ .exc c := by
            intro l c
            induction l with
            | nil => intro z; cases z
            | cons d l ih =>
              unfold compRun
              intro z
              split at z
              · split at z
                · split at z
                  · split at z <;> cases z
                  · cases z
                · exact ih z
                · cases z
              · cases z
          exact this ds c q
        | no => rw [q] at aft1; exact aft1
      · rintro i n H' ⟨rfl, hi, G', acc, yd, g2, nD, hDa, ry, hyl, aft2⟩
        by_cases hlt : i < ds.length
        · refine .inr ⟨W.go i H' hlt (g2.g.trans g2.gh), fun H'' => ∃ n', n' < ds.length - i ∧ (n' = ds.length - (i + 1) ∧ i + 1 ≤ ds.length ∧ ∃ G' acc yd, Grow G1 H1 G' H'' ∧ G' D = none ∧ H'' D = some (.lst acc) ∧ RepL G' yd acc ∧ yd.length ≤ i + 1 ∧
            AftF E G H (match compRun bnd (capD δ cap) tt el (ds.drop (i + 1)) with | .ok r => .ok (yd ++ r) | _ => .no) Q), fun H'' q => ?_, fun x H'' hy => ?_⟩
          · obtain ⟨n', h1, h2⟩ := q
            exact ⟨n', h1, h2⟩
          · have hd : ds[i]? = some ds[i] := List.getElem?_eq_getElem hlt
            have hdrop : ds.drop i = ds[i] :: ds.drop (i + 1) := List.drop_eq_getElem_cons hlt
            obtain ⟨G3, g3, r3⟩ := W.yld i _ G' H' x H'' hd g2.g g2.gh hy
            have g13 := g2.trans g3
            have nD3 : G3 D = none := by
              cases q : G3 D with
              | none => rfl
              | some u => rcases g3.fr D u q with z | z
                          · rw [nD] at z; cases z
                          · rw [hDa] at z; cases z
            rw [hdrop] at aft2
            unfold compRun at aft2
            rw [hmap]
            cases eb : bnd ds[i] with
            | exc c => rw [eb] at aft2; exact aft2.elim
            | no => rw [eb] at aft2; exact aft2.elim
            | ok sl =>
              rw [eb] at aft2
              refine hg G3 H'' _ x sl _ _ g3.gh r3 eb fun vs hv hs hsl => ⟨⟨by rw [List.length_append, List.length_append, List.length_replicate, List.length_map, hv], fun j v z => ?_⟩, ?_⟩
              · by_cases hj : j < m
                · rw [List.getElem?_append_left (by rw [List.length_replicate]; exact hj), List.getElem?_replicate] at z
                  split at z <;> cases z
                · rw [List.getElem?_append_right (by rw [List.length_replicate]; exact Nat.not_lt.mp hj), List.length_replicate] at z
                  rw [List.getElem?_append_right (by rw [List.length_map, hv]; exact Nat.not_lt.mp hj), List.length_map, hv]
                  exact z
              · have Sb : SR G3 H'' (vs.map some ++ capS σ cap) (sl ++ capD δ cap) := (S1.grow g13).cap cap hnd (hv.trans hs.symm) hsl
                refine ⟨G3, _, Sb, ?_⟩
                simp only at aft2
                cases et : tt (sl ++ capD δ cap) with
                | exc c => rw [et] at aft2; exact aft2.elim
                | no => rw [et] at aft2; exact aft2.elim
                | ok kk =>
                  rw [et] at aft2
                  intro G4 H4 g4
                  have nD4 : G4 D = none := by
                    cases q : G4 D with
                    | none => rfl
                    | some u => rcases g4.fr D u q with z | z
                                · rw [nD3] at z; cases z
                                · rw [g3.h _ _ hDa] at z; cases z
                  have hD4 : H4 D = some (.lst acc) := g4.h _ _ (g3.h _ _ hDa)
                  cases kk with
                  | false =>
                    rw [if_neg (by decide)]
                    exact ⟨_, by omega, rfl, hlt, G4, acc, yd, g13.trans g4, nD4, hD4, ry.mono (g3.g.trans g4.g), by omega, aft2⟩
                  | true =>
                    rw [if_pos rfl]
                    refine ⟨G4, _, Sb.grow g4, ?_⟩
                    simp only at aft2
                    cases ee : el (sl ++ capD δ cap) with
                    | exc c => rw [ee] at aft2; exact aft2.elim
                    | no => rw [ee] at aft2; exact aft2.elim
                    | ok y =>
                      rw [ee] at aft2
                      intro v G5 H5 g5 r5
                      have nD5 : G5 D = none := by
                        cases q : G5 D with
                        | none => rfl
                        | some u => rcases g5.fr D u q with z | z
                                    · rw [nD4] at z; cases z
                                    · rw [hD4] at z; cases z
                      have hD5 : H5 D = some (.lst acc) := g5.h _ _ hD4
                      have hal : acc.length ≤ i := by rw [← ry.length]; exact hyl
                      refine ⟨acc, hD5, by omega, _, by omega, rfl, hlt, G5, acc ++ [v], yd ++ [y], ?_, nD5, upd_same, ?_, by rw [List.length_append, List.length_singleton]; omega, ?_⟩
                      · have g15 := (g13.trans g4).trans g5
                        refine ⟨g15.g, fun b o q => ?_, fun b o q => ?_, g15.fr⟩
                        · rw [upd_ne (ne_of_none q hD)]; exact g15.h _ _ q
                        · rw [upd_ne (ne_of_none q nD5)]; exact g15.gh _ _ q
                      · exact (ry.mono (g3.g.trans (g4.g.trans g5.g))).append (RepL.cons r5 rfl)
                      · simp only at aft2
                        cases er : compRun bnd (capD δ cap) tt el (ds.drop (i + 1)) with
                        | ok r =>
                          rw [er] at aft2
                          simp only [List.append_assoc, List.singleton_append]
                          exact aft2
                        | exc c => rw [er] at aft2; exact aft2
                        | no => rw [er] at aft2; exact aft2
        · refine .inl ⟨W.stop i H' (Nat.not_lt.mp hlt) (g2.g.trans g2.gh), ?_⟩
          have : ds.drop i = [] := List.drop_eq_nil_of_le (Nat.not_lt.mp hlt)
          rw [this] at aft2
          unfold compRun at aft2
          have aft3 : AftF E G H (.ok (yd ++ [])) Q := aft2
          rw [List.append_nil] at aft3
          exact aft3 D acc G' H' (g1.trans g2) (g1.h.free hD) nD hDa ry
    · rw [if_neg hz] at aft1; exact aft1.elim
end
end Sm
end
section
set_option Elab.async false
set_option linter.all false
set_option maxRecDepth 100000
set_option maxHeartbeats 4000000
set_option autoImplicit false
namespace Sm
open PySem PySem.Spec PyProof.Rows L2
def clFold (cells : List (Str × Addr)) : List (Str × NameKind) → List (Str × Addr) → List (Str × Addr)
  | [], cs => cs
  | (n, kd) :: r, cs => if kd == .free then clFold cells r ((n, (cells.lookup n).getD 0) :: cs) else clFold cells r cs
theorem clos_run {env : Env} : ∀ (names : List (Str × NameKind)) (cs : List (Str × Addr)), (∀ y ∈ names, y.2 = .free → ∃ c, env.cells.lookup y.1 = some c) →
    (forIn names cs fun (x : Str × NameKind) (r : List (Str × Addr)) => if (x.2 == NameKind.free) = true then do let c ← cellOf env x.1; pure (ForInStep.yield ((x.1, c) :: r)) else pure (ForInStep.yield r)) = (pure (clFold env.cells names cs) : Sem (List (Str × Addr)))
  | [], cs, _ => rfl
  | (n, kd) :: r, cs, h => by
    rw [List.forIn_cons]
    have ih := fun cs => clos_run r cs fun y hy => h y (List.mem_cons_of_mem _ hy)
    unfold clFold
    by_cases hk : (kd == NameKind.free) = true
    · obtain ⟨c, hc⟩ := h (n, kd) List.mem_cons_self (eq_of_beq hk)
      have hc' : cellOf env n = pure c := by unfold cellOf; rw [show env.cells.lookup n = some c from hc]
      simp only [hk, if_true, hc', pure_bind]
      rw [show env.cells.lookup n = some c from hc]
      exact ih _
    · simp only [hk, if_false, pure_bind]
      exact ih _
theorem clFold_mem {cells : List (Str × Addr)} : ∀ {names : List (Str × NameKind)} {cs : List (Str × Addr)} {y : Str × Addr}, y ∈ clFold cells names cs → y ∈ cs ∨ ((y.1, NameKind.free) ∈ names ∧ y.2 = (cells.lookup y.1).getD 0)
  | [], cs, y, h => .inl h
  | (n, kd) :: r, cs, y, h => by
    unfold clFold at h
    by_cases hk : (kd == NameKind.free) = true
    · rw [if_pos hk] at h
      have hk' := eq_of_beq hk
      subst hk'
      rcases clFold_mem h with z | ⟨z1, z2⟩
      · rcases List.mem_cons.mp z with rfl | z
        · exact .inr ⟨List.mem_cons_self, rfl⟩
        · exact .inl z
      · exact .inr ⟨List.mem_cons_of_mem _ z1, z2⟩
    · rw [if_neg hk] at h
      rcases clFold_mem h with z | ⟨z1, z2⟩
      · exact .inl z
      · exact .inr ⟨List.mem_cons_of_mem _ z1, z2⟩
theorem clFold_has {cells : List (Str × Addr)} {x : Str} : ∀ {names : List (Str × NameKind)} {cs : List (Str × Addr)}, ((x, NameKind.free) ∈ names ∨ ∃ c, (x, c) ∈ cs) → ∃ c, (x, c) ∈ clFold cells names cs
  | [], cs, h => by
    rcases h with h | h
    · cases h
    · exact h
  | (n, kd) :: r, cs, h => by
    unfold clFold
    by_cases hk : (kd == NameKind.free) = true
    · rw [if_pos hk]
      refine clFold_has ?_
      rcases h with h | ⟨c, h⟩
      · rcases List.mem_cons.mp h with q | q
        · cases q; exact .inr ⟨_, List.mem_cons_self⟩
        · exact .inl q
      · exact .inr ⟨c, List.mem_cons_of_mem _ h⟩
    · rw [if_neg hk]
      refine clFold_has ?_
      rcases h with h | ⟨c, h⟩
      · rcases List.mem_cons.mp h with q | q
        · cases q; exact absurd rfl hk
        · exact .inl q
      · exact .inr ⟨c, h⟩
theorem lookup_some_mem {α : Type} {x : Str} {c : α} {l : List (Str × α)} (h : l.lookup x = some c) : (x, c) ∈ l := PySem.mem_of_lookup h
theorem lookup_of_mem {α : Type} {x : Str} : ∀ {l : List (Str × α)} {c : α}, (x, c) ∈ l → ∃ c', l.lookup x = some c'
  | [], _, h => by cases h
  | (n, d) :: r, c, h => by
    rw [List.lookup_cons]
    cases q : x == n with
    | true => exact ⟨d, rfl⟩
    | false =>
      rcases List.mem_cons.mp h with z | z
      · cases z; simp at q
      · exact lookup_of_mem z
theorem clos_of {X : Cx} (ok : X.Ok) {scope : Scope} (hnc : ∀ y ∈ scope.names, y.2 ≠ .cell) (hfree : ∀ y ∈ scope.names, y.2 = .free → X.env.scope.names.lookup y.1 = some .cell ∨ X.env.scope.names.lookup y.1 = some .free) : ∃ cl, Clos X scope cl := by
  have hc : ∀ y ∈ scope.names, y.2 = .free → ∃ c, X.env.cells.lookup y.1 = some c := fun y hy hf => ok.has y.1 (hfree y hy hf)
  refine ⟨clFold X.env.cells scope.names [], ⟨?_, fun x c h => ?_, fun x h => ?_⟩⟩
  · have := clos_run (env := X.env) scope.names [] hc
    unfold closureFor
    simp only
    rw [this]
    rfl
  · rcases clFold_mem (lookup_some_mem h) with z | ⟨z1, z2⟩
    · cases z
    · obtain ⟨c', e⟩ := hc _ z1 rfl
      have e' : X.env.cells.lookup x = some c' := e
      have z2' : c = (X.env.cells.lookup x).getD 0 := z2
      rw [e'] at z2' ⊢
      rw [z2']; rfl
  · have hm : (x, NameKind.free) ∈ scope.names := by
      have key : ∀ kd, (relabel scope X.env).names.lookup x = some kd → (kd = .cell ∨ kd = .free) → (x, NameKind.free) ∈ scope.names := fun kd hl hkd => by
        have hm := lookup_some_mem hl
        unfold relabel at hm
        simp only [List.mem_map] at hm
        obtain ⟨⟨n, k0⟩, hy, e⟩ := hm
        simp only at e
        split at e
        · rename_i hc'
          cases e
          have : k0 = .free := by
            rw [Bool.and_eq_true, Bool.and_eq_true] at hc'
            exact eq_of_beq hc'.1.1
          subst this; exact hy
        · cases e
          rcases hkd with rfl | rfl
          · exact absurd rfl (hnc _ hy)
          · exact hy
      rcases h with h | h
      · exact key _ h (.inl rfl)
      · exact key _ h (.inr rfl)
    obtain ⟨c, hc'⟩ := clFold_has (cells := X.env.cells) (names := scope.names) (cs := []) (x := x) (.inl hm)
    exact lookup_of_mem hc'
def okComp (N : List Str) (sc scope : Scope) (xs capN : List Str) (cap : List Nat) : Bool :=
  decide (scope.kind = .function) && scope.names.all (fun y => decide (y.2 ≠ .cell)) && scope.names.all (fun y => decide (y.2 = .local → scope.names.lookup y.1 = some .local)) &&
  scope.names.all (fun y => decide (y.2 = .free → sc.names.lookup y.1 = some .cell ∨ sc.names.lookup y.1 = some .free)) && decide (cap.map (fun j => N[j]?) = capN.map some) &&
  capN.all (fun x => decide ((relS scope sc).names.lookup x = some .cell ∨ (relS scope sc).names.lookup x = some .free)) && capN.all (fun x => decide (sc.names.lookup x = some .cell ∨ sc.names.lookup x = some .free)) &&
  decide ((xs ++ capN).Nodup) && xs.all (fun x => decide ((relS scope sc).names.lookup x = some .local)) && decide (cap.Nodup)
section
variable {P : Program} {w : World} {K : PySem.W.Frag} {mg : Str → Option Value} {base : Heap} {X : Cx} {N : List Str} {sc : Scope} {k : Nat} {df : Bool} {E : EK} {pos p px py tp : Pos} {tg a b c e elt iter : Expr} {ifs : List Expr} {es : List Expr} {f g el : Dn → Res PyData} {fs src : Dn → Res (List PyData)} {tt : Dn → Res Bool} {scope : Scope} {capN : List Str} {cap : List Nat}
structure CompOk (N : List Str) (sc scope : Scope) (xs capN : List Str) (cap : List Nat) : Prop where
  h1 : scope.kind = .function
  h2 : ∀ y ∈ scope.names, y.2 ≠ .cell
  h3 : ∀ y ∈ scope.names, y.2 = .local → scope.names.lookup y.1 = some .local
  h4 : ∀ y ∈ scope.names, y.2 = .free → sc.names.lookup y.1 = some .cell ∨ sc.names.lookup y.1 = some .free
  h5 : cap.map (fun j => N[j]?) = capN.map some
  h6 : ∀ x ∈ capN, (relS scope sc).names.lookup x = some .cell ∨ (relS scope sc).names.lookup x = some .free
  h7 : ∀ x ∈ capN, sc.names.lookup x = some .cell ∨ sc.names.lookup x = some .free
  h8 : (xs ++ capN).Nodup
  h9 : ∀ x ∈ xs, (relS scope sc).names.lookup x = some .local
  h10 : cap.Nodup
theorem okComp.ok {xs : List Str} (h : okComp N sc scope xs capN cap = true) : CompOk N sc scope xs capN cap := by
  unfold okComp at h
  simp only [Bool.and_eq_true, List.all_eq_true, decide_eq_true_eq] at h
  obtain ⟨⟨⟨⟨⟨⟨⟨⟨⟨h1, h2⟩, h3⟩, h4⟩, h5⟩, h6⟩, h7⟩, h8⟩, h9⟩, h10⟩ := h
  exact ⟨h1, h2, h3, h4, h5, h6, h7, h8, h9, h10⟩
theorem comp_facts {xs : List Str} (C : Cxt P w K mg base X N sc k df) (h : CompOk N sc scope xs capN cap) (ok : X.Ok) : CompFacts X scope xs capN cap := by
  refine ⟨h.h1, h.h2, h.h3, clos_of ok h.h2 fun y hy hf => ?_, by rw [C.hN]; exact h.h5, fun x hx => ?_, fun x hx => ?_⟩
  · rw [C.hs]; exact h.h4 y hy hf
  · rw [relS_eq C.hs]; exact h.h6 x hx
  · rw [C.hs]; exact h.h7 x hx
abbrev DTs (X : Cx) (E : EK) (ifs : List Expr) (f : Dn → Res Bool) : Prop := PTs X ifs (tT E f)
def cTrue : Dn → Res Bool := fun _ => .ok true
theorem ts_nil : DTs X E [] cTrue := fun pins s σ H Q I ⟨G, δ, S, a⟩ => pts_nil pins s σ H Q I (a G H (Grow.refl S.sub))
theorem ts_one (h : DT X E c tt) : DTs X E [c] tt := pts_one h
theorem PE.tF {t : TE} (h : PE X e t) (i : ∀ σ H Q, tF E src σ H Q → t σ H Q) : DF X E e src := PE.imp h i
theorem f_comp1 {x : Str} (C : Cxt P w K mg base X N sc k df) (cap : List Nat) (capN : List Str) (ho : okComp N sc scope [x] capN cap = true) (hi : DI X E (.Name x px) iter src)
    (ht : ∀ X', Cxt P w K mg base X' ([x] ++ capN) (relS scope sc) k false → DTs X' E0k ifs tt) (he : ∀ X', Cxt P w K mg base X' ([x] ++ capN) (relS scope sc) k false → DE X' E0k elt el)
    (hs : ∀ x, foldedSetIterable iter X.env x = pure x := by intro _; rfl) : DF X E (.ListComp elt [⟨.Name x px, iter, ifs, 0⟩] scope pos) (lComp src bind1 cap tt el) := by
  have o := okComp.ok ho
  refine PE.imp (pe_comp (g := gName 0) C.calm (comp_facts C o) hi (fun X' B => ?_) (fun X' B => ht X' (C.blk B)) (fun X' B => he X' (C.blk B)) hs) fun σ H Q h => tComp_D (m := 1) rfl o.h10 gok1 h
  have C' := C.blk B
  have hl : X'.env.scope.names.lookup x = some .local := by rw [C'.hs]; exact o.h9 x (by simp)
  exact pg_name (by rw [C'.hN]; exact o.h8) (by rw [C'.hN]; rfl) (.inl hl) (.inr hl)
theorem f_comp2 {x y : Str} {x1 : Nat} (C : Cxt P w K mg base X N sc k df) (cap : List Nat) (capN : List Str) (ho : okComp N sc scope [x, y] capN cap = true) (hi : DI X E (.Tuple [.Name x px, .Name y py] x1 tp) iter src)
    (ht : ∀ X', Cxt P w K mg base X' ([x, y] ++ capN) (relS scope sc) k false → DTs X' E0k ifs tt) (he : ∀ X', Cxt P w K mg base X' ([x, y] ++ capN) (relS scope sc) k false → DE X' E0k elt el)
    (hs : ∀ x, foldedSetIterable iter X.env x = pure x := by intro _; rfl) : DF X E (.ListComp elt [⟨.Tuple [.Name x px, .Name y py] x1 tp, iter, ifs, 0⟩] scope pos) (lComp src bind2 cap tt el) := by
  have o := okComp.ok ho
  refine PE.imp (pe_comp (g := gTup K 2 (gCons (gName 0) (gCons (gName 1) gNil))) C.calm (comp_facts C o) hi (fun X' B => ?_) (fun X' B => ht X' (C.blk B)) (fun X' B => he X' (C.blk B)) hs) fun σ H Q h => tComp_D (m := 2) rfl o.h10 gok2 h
  have C' := C.blk B
  have hl : X'.env.scope.names.lookup x = some .local := by rw [C'.hs]; exact o.h9 x (by simp)
  have hl2 : X'.env.scope.names.lookup y = some .local := by rw [C'.hs]; exact o.h9 y (by simp)
  have nd : X'.N.Nodup := by rw [C'.hN]; exact o.h8
  have p1 : PG X' (.Name x px) (gName 0) := pg_name nd (by rw [C'.hN]; rfl) (.inl hl) (.inr hl)
  have p2 : PG X' (.Name y py) (gName 1) := pg_name nd (by rw [C'.hN]; rfl) (.inl hl2) (.inr hl2)
  have := pg_tup (n := 2) (k := x1) (pos := tp) C'.calm (pgs_cons p1 (pgs_cons p2 pgs_nil))
  rw [C'.hK] at this
  exact this
end
end Sm
end
section
set_option Elab.async false
set_option linter.all false
set_option maxRecDepth 100000
set_option maxHeartbeats 4000000
set_option autoImplicit false
namespace Sm
open PySem PySem.Spec PyProof.Rows L2
inductive Out where
  | nx (δ : Dn)
  | rt (d : PyData)
  | bk (δ : Dn)
  | ct (δ : Dn)
  | exc (c : Str)
  | no
structure SSt (G0 H0 G H : Hp) (σ : St) (δ : Dn) : Prop where
  gr : Grow G0 H0 G H
  sr : SR G H σ δ
  fr : ∀ (i : Nat) (d : PyData) (a : Addr), δ[i]? = some (.ow d) → σ[i]?.join = some (.ref a) → H0 a = none
theorem SSt.grow {G0 H0 G H G' H' : Hp} {σ : St} {δ : Dn} (S : SSt G0 H0 G H σ δ) (g : Grow G H G' H') : SSt G0 H0 G' H' σ δ := ⟨S.gr.trans g, S.sr.grow g, S.fr⟩
def AftS (E : EK) (G0 H0 : Hp) (o : Out) (D : Ends) : Prop := match o with
  | .nx δ => ∀ σ G H, SSt G0 H0 G H σ δ → D.nx σ H
  | .rt d => ∀ v G H, Grow G0 H0 G H → Rep G d v → D.rt v H
  | .bk δ => ∀ σ G H, SSt G0 H0 G H σ δ → D.bk σ H
  | .ct δ => ∀ σ G H, SSt G0 H0 G H σ δ → D.ct σ H
  | .exc c => ∀ G H, Grow G0 H0 G H → E c H
  | .no => False
def tS (E : EK) (G0 H0 : Hp) (g : Dn → Out) : TS := fun D σ H => ∃ G δ, SSt G0 H0 G H σ δ ∧ AftS E G0 H0 (g δ) D
def DS (X : Cx) (E : EK) (st : Stmt) (g : Dn → Out) : Prop := ∀ G0 H0, PS X st (tS E G0 H0 g)
def DSs (X : Cx) (E : EK) (st : List Stmt) (g : Dn → Out) : Prop := ∀ G0 H0, PSs X st (tS E G0 H0 g)
theorem PS.imp {X : Cx} {st : Stmt} {t t' : TS} (h : PS X st t) (i : ∀ D σ H, t' D σ H → t D σ H) : PS X st t' := fun pins s σ H D I q => h pins s σ H D I (i _ _ _ q)
theorem PSs.imp {X : Cx} {st : List Stmt} {t t' : TS} (h : PSs X st t) (i : ∀ D σ H, t' D σ H → t D σ H) : PSs X st t' := fun pins s σ H D I q => h pins s σ H D I (i _ _ _ q)
def thenS {α : Type} (r : Res α) (k : α → Out) : Out := match r with
  | .ok a => k a
  | .exc c => .exc c
  | .no => .no
theorem aftS_D {E : EK} {G0 H0 G H : Hp} {σ : St} {δ : Dn} {f : Dn → Res PyData} {k : PyData → Out} {D : Ends} {R : VK} (S : SSt G0 H0 G H σ δ) (a : AftS E G0 H0 (thenS (f δ) k) D)
    (h : ∀ d v G1 H1, Grow G H G1 H1 → Rep G1 d v → SSt G0 H0 G1 H1 σ δ → AftS E G0 H0 (k d) D → R v H1) : tD E f σ H R := by
  refine ⟨G, δ, S.sr, ?_⟩
  cases e : f δ with
  | ok d => rw [e] at a; exact fun v G' H' g r => h d v G' H' g r (S.grow g) a
  | exc c => rw [e] at a; exact fun G' H' g => a G' H' (S.gr.trans g)
  | no => rw [e] at a; exact a
theorem aftS_F {E : EK} {G0 H0 G H : Hp} {σ : St} {δ : Dn} {f : Dn → Res (List PyData)} {k : List PyData → Out} {D : Ends} {R : VK} (S : SSt G0 H0 G H σ δ) (a : AftS E G0 H0 (thenS (f δ) k) D)
    (h : ∀ ds p xs G1 H1, Grow G H G1 H1 → H p = none → G1 p = none → H1 p = some (.lst xs) → RepL G1 ds xs → SSt G0 H0 G1 H1 σ δ → AftS E G0 H0 (k ds) D → R (.ref p) H1) : tF E f σ H R := by
  refine ⟨G, δ, S.sr, ?_⟩
  cases e : f δ with
  | ok d => rw [e] at a; exact fun p xs G' H' g q1 q2 q3 q4 => h d p xs G' H' g q1 q2 q3 q4 (S.grow g) a
  | exc c => rw [e] at a; exact fun G' H' g => a G' H' (S.gr.trans g)
  | no => rw [e] at a; exact a
theorem aftS_T {E : EK} {G0 H0 G H : Hp} {σ : St} {δ : Dn} {f : Dn → Res Bool} {k : Bool → Out} {D : Ends} {R : Bool → Hp → Prop} (S : SSt G0 H0 G H σ δ) (a : AftS E G0 H0 (thenS (f δ) k) D)
    (h : ∀ d G1 H1, Grow G H G1 H1 → SSt G0 H0 G1 H1 σ δ → AftS E G0 H0 (k d) D → R d H1) : tT E f σ H R := by
  refine ⟨G, δ, S.sr, ?_⟩
  cases e : f δ with
  | ok d => rw [e] at a; exact fun G' H' g => h d G' H' g (S.grow g) a
  | exc c => rw [e] at a; exact fun G' H' g => a G' H' (S.gr.trans g)
  | no => rw [e] at a; exact a
theorem aftS_I {E : EK} {G0 H0 G H : Hp} {σ : St} {δ : Dn} {f : Dn → Res (List PyData)} {k : List PyData → Out} {D : Ends} {R : It → Hp → Prop} (S : SSt G0 H0 G H σ δ) (a : AftS E G0 H0 (thenS (f δ) k) D)
    (h : ∀ ds J G1 H1, Grow G H G1 H1 → Walk J G1 ds → SSt G0 H0 G1 H1 σ δ → AftS E G0 H0 (k ds) D → R J H1) : tI E f σ H R := by
  refine ⟨G, δ, S.sr, ?_⟩
  cases e : f δ with
  | ok d => rw [e] at a; exact fun J G' H' g q => h d J G' H' g q (S.grow g) a
  | exc c => rw [e] at a; exact fun G' H' g => a G' H' (S.gr.trans g)
  | no => rw [e] at a; exact a
theorem getset {α : Type} {l : List α} {i j : Nat} {v : α} : (l.set i v)[j]? = if i = j ∧ i < l.length then some v else l[j]? := by
  rw [List.getElem?_set]
  by_cases h : i = j
  · subst h
    by_cases hl : i < l.length
    · simp [hl]
    · simp [hl, List.getElem?_eq_none (Nat.not_lt.mp hl)]
  · simp [h]
theorem SSt.set_sh {G0 H0 G H : Hp} {σ : St} {δ : Dn} (S : SSt G0 H0 G H σ δ) {i : Nat} {v : V} {d : PyData} (r : Rep G d v) : SSt G0 H0 G H (σ.set i (some v)) (δ.set i (.sh d)) := by
  have hl := S.sr.len
  have key : ∀ (j : Nat) (d' : PyData), (δ.set i (.sh d))[j]? = some (.ow d') → (σ.set i (some v))[j]? = σ[j]? ∧ δ[j]? = some (.ow d') := fun j d' e => by
    rw [getset] at e
    split at e
    · cases e
    · rename_i hn
      refine ⟨?_, e⟩
      rw [getset, if_neg (by rw [hl]; exact hn)]
  refine ⟨S.gr, ⟨S.sr.sub, by simp [hl], fun j s e => ?_, fun j1 j2 a d1 d2 e1 e2 h1 h2 => ?_⟩, fun j d' a e h => ?_⟩
  · rw [getset] at e ⊢
    rw [hl]
    split at e
    · rename_i hc; cases e; rw [if_pos hc]; exact ⟨v, rfl, r⟩
    · rename_i hc; rw [if_neg hc]; exact S.sr.sl j s e
  · obtain ⟨k1, o1⟩ := key j1 d1 e1
    obtain ⟨k2, o2⟩ := key j2 d2 e2
    rw [k1] at h1; rw [k2] at h2
    exact S.sr.ap j1 j2 a d1 d2 o1 o2 h1 h2
  · obtain ⟨k1, o1⟩ := key j d' e
    rw [k1] at h
    exact S.fr j d' a o1 h
theorem SSt.set_ow {G0 H0 G H : Hp} {σ : St} {δ : Dn} (S : SSt G0 H0 G H σ δ) {i : Nat} {p : Addr} {d : PyData} (h0 : H0 p = none) (hg : G p = none) (ho : OwnOk G H p d) (hf : ∀ (j : Nat) d', δ[j]? = some (.ow d') → σ[j]?.join ≠ some (.ref p)) : SSt G0 H0 G H (σ.set i (some (.ref p))) (δ.set i (.ow d)) := by
  have hl := S.sr.len
  have key : ∀ (j : Nat) (d' : PyData), (δ.set i (.ow d))[j]? = some (.ow d') → (i = j ∧ i < δ.length ∧ d' = d ∧ (σ.set i (some (.ref p)))[j]? = some (some (.ref p))) ∨ ((σ.set i (some (.ref p)))[j]? = σ[j]? ∧ δ[j]? = some (.ow d')) := fun j d' e => by
    rw [getset] at e
    split at e
    · rename_i hc; cases e; exact .inl ⟨hc.1, hc.2, rfl, by rw [getset, if_pos (by rw [hl]; exact hc)]⟩
    · rename_i hn
      refine .inr ⟨?_, e⟩
      rw [getset, if_neg (by rw [hl]; exact hn)]
  refine ⟨S.gr, ⟨S.sr.sub, by simp [hl], fun j s e => ?_, fun j1 j2 a d1 d2 e1 e2 h1 h2 => ?_⟩, fun j d' a e h => ?_⟩
  · rw [getset] at e ⊢
    rw [hl]
    split at e
    · rename_i hc; cases e; rw [if_pos hc]; exact ⟨p, rfl, hg, ho⟩
    · rename_i hc; rw [if_neg hc]; exact S.sr.sl j s e
  · rcases key j1 d1 e1 with ⟨a1, b1, _, c1⟩ | ⟨k1, o1⟩
    · rcases key j2 d2 e2 with ⟨a2, b2, _, c2⟩ | ⟨k2, o2⟩
      · exact a1.symm.trans a2
      · rw [c1] at h1; cases h1
        rw [k2] at h2
        exact absurd h2 (hf j2 d2 o2)
    · rcases key j2 d2 e2 with ⟨a2, b2, _, c2⟩ | ⟨k2, o2⟩
      · rw [c2] at h2; cases h2
        rw [k1] at h1
        exact absurd h1 (hf j1 d1 o1)
      · rw [k1] at h1; rw [k2] at h2
        exact S.sr.ap j1 j2 a d1 d2 o1 o2 h1 h2
  · rcases key j d' e with ⟨a1, b1, _, c1⟩ | ⟨k1, o1⟩
    · rw [c1] at h; cases h; exact h0
    · rw [k1] at h; exact S.fr j d' a o1 h
theorem SSt.write {G0 H0 G H : Hp} {σ : St} {δ : Dn} (S : SSt G0 H0 G H σ δ) {i : Nat} {p : Addr} {d d' : PyData} {o : HO} (hi : δ[i]? = some (.ow d)) (hp : σ[i]?.join = some (.ref p)) (hg : G p = none) (ho : OwnOk G (upd H p o) p d') : SSt G0 H0 G (upd H p o) σ (δ.set i (.ow d')) := by
  have h0 := S.fr i d p hi hp
  have hil : i < δ.length := (List.getElem?_eq_some_iff.mp hi).1
  have hsub : Same G (upd H p o) := fun b u e => by rw [upd_ne (ne_of_none e hg)]; exact S.sr.sub _ _ e
  have key : ∀ (j : Nat) (e : PyData), (δ.set i (.ow d'))[j]? = some (.ow e) → ∃ e', δ[j]? = some (.ow e') := fun j e h => by
    rw [getset] at h
    split at h
    · rename_i hc; rw [← hc.1]; exact ⟨d, hi⟩
    · exact ⟨e, h⟩
  refine ⟨⟨S.gr.g, fun b u e => by rw [upd_ne (ne_of_none e h0)]; exact S.gr.h _ _ e, hsub, S.gr.fr⟩, ⟨hsub, by simp [S.sr.len], fun j s e => ?_, fun j1 j2 a d1 d2 e1 e2 h1 h2 => ?_⟩, fun j e a h1 h2 => ?_⟩
  · rw [getset] at e
    split at e
    · rename_i hc; cases e; rw [← hc.1]; exact ⟨p, hp, hg, ho⟩
    · rename_i hc
      have hs := S.sr.sl j s e
      cases s with
      | un => trivial
      | sh d => exact hs
      | ow d2 =>
        obtain ⟨a, e1, n1, ok⟩ := hs
        refine ⟨a, e1, n1, ?_⟩
        have hne : a ≠ p := by
          rintro rfl
          exact hc ⟨S.sr.ap i j a d d2 hi e hp e1, hil⟩
        cases d2 with
        | list ds => obtain ⟨xs, q, r⟩ := ok; exact ⟨xs, by rw [upd_ne hne]; exact q, r⟩
        | dict kvs => obtain ⟨xs, q, r⟩ := ok; exact ⟨xs, by rw [upd_ne hne]; exact q, r⟩
        | tuple xs => exact OwnK.keep (Same.refl _) (fun o q => by rw [upd_ne hne]; exact q) ok
        | _ => exact (show False from ok).elim
  · obtain ⟨e1', o1⟩ := key j1 d1 e1
    obtain ⟨e2', o2⟩ := key j2 d2 e2
    exact S.sr.ap j1 j2 a _ _ o1 o2 h1 h2
  · obtain ⟨e', o1⟩ := key j e h1
    exact S.fr j e' a o1 h2
def fz (i : Nat) (δ : Dn) : Dn := match δ[i]? with
  | some (.ow (.list ds)) => δ.set i (.sh (.list ds))
  | _ => δ
theorem SSt.fz {G0 H0 G H : Hp} {σ : St} {δ : Dn} (S : SSt G0 H0 G H σ δ) (i : Nat) : ∃ G', SSt G0 H0 G' H σ (fz i δ) := by
  unfold Sm.fz
  split
  · rename_i ds hi
    obtain ⟨p, hp, hg, xs, hx, r⟩ := S.sr.sl i _ hi
    have h0 := S.fr i _ p hi hp
    have g : Grow G0 H0 (upd G p (.lst xs)) H := S.gr.share h0 hg hx
    have hv : σ[i]? = some (some (.ref p)) := by
      cases q : σ[i]? with
      | none => rw [q] at hp; cases hp
      | some z => rw [q] at hp; cases z with
        | none => cases hp
        | some z => cases hp; rfl
    have key : ∀ (j : Nat) (d' : PyData), (δ.set i (.sh (.list ds)))[j]? = some (.ow d') → δ[j]? = some (.ow d') ∧ j ≠ i := fun j d' e => by
      rw [getset] at e
      split at e
      · cases e
      · rename_i hn
        refine ⟨e, fun z => ?_⟩
        subst z
        exact hn ⟨rfl, (List.getElem?_eq_some_iff.mp hi).1⟩
    refine ⟨_, g, ⟨g.gh, by simp [S.sr.len], fun j s e => ?_, fun j1 j2 a d1 d2 e1 e2 h1 h2 => S.sr.ap j1 j2 a d1 d2 (key j1 d1 e1).1 (key j2 d2 e2).1 h1 h2⟩, fun j d' a e h => S.fr j d' a (key j d' e).1 h⟩
    have sm : Same G (upd G p (.lst xs)) := Same.upd hg
    by_cases hj : i = j ∧ i < δ.length
    · rw [getset, if_pos hj] at e
      cases e
      rw [← hj.1, hv]
      exact ⟨_, rfl, p, xs, rfl, .inl upd_same, r.mono sm⟩
    · have e2 := e
      rw [getset, if_neg hj] at e2
      have hs := S.sr.sl j s e2
      cases s with
      | un => trivial
      | sh d => obtain ⟨v, e1, r1⟩ := hs; exact ⟨v, e1, r1.mono sm⟩
      | ow d2 =>
        obtain ⟨a, e1, n1, ok⟩ := hs
        have hne : a ≠ p := by
          rintro rfl
          exact (key j d2 e).2 (S.sr.ap j i a d2 _ e2 hi e1 hp)
        refine ⟨a, e1, by rw [upd_ne hne]; exact n1, ?_⟩
        cases d2 with
        | list ds => obtain ⟨xs, q, r⟩ := ok; exact ⟨xs, q, r.mono sm⟩
        | dict kvs => obtain ⟨xs, q, k, r⟩ := ok; exact ⟨xs, q, k, r.mono sm⟩
        | tuple xs => exact OwnK.keep sm (fun o q => q) ok
        | _ => exact (show False from ok).elim
  · exact ⟨G, S⟩
section
variable {P : Program} {w : World} {K : PySem.W.Frag} {mg : Str → Option Value} {base : Heap} {X : Cx} {N : List Str} {sc : Scope} {k : Nat} {df : Bool} {E : EK} {pos p px py tp : Pos} {tg a b c e elt iter : Expr} {ifs : List Expr} {es : List Expr} {f g el : Dn → Res PyData} {fs src : Dn → Res (List PyData)} {tt : Dn → Res Bool} {scope : Scope} {capN : List Str} {cap : List Nat} {st : Stmt} {sts sts' : List Stmt} {g1 g2 : Dn → Out}
def sNext : Dn → Out := fun δ => .nx δ
def sSeq (g1 g2 : Dn → Out) : Dn → Out := fun δ => match g1 δ with
  | .nx δ' => g2 δ'
  | o => o
theorem ss_nil : DSs X E [] sNext := fun G0 H0 => PSs.imp pss_nil fun D σ H ⟨G, δ, S, a⟩ => a σ G H S
theorem ss_cons (h1 : DS X E st g1) (h2 : DSs X E sts g2) : DSs X E (st :: sts) (sSeq g1 g2) := fun G0 H0 => by
  refine PSs.imp (pss_cons (h1 G0 H0) (h2 G0 H0)) fun D σ H ⟨G, δ, S, a⟩ => ⟨G, δ, S, ?_⟩
  unfold sSeq at a
  cases e : g1 δ with
  | nx δ' => rw [e] at a; exact fun σ' G' H' S' => ⟨G', δ', S', a⟩
  | rt d => rw [e] at a; exact a
  | bk d => rw [e] at a; exact a
  | ct d => rw [e] at a; exact a
  | exc d => rw [e] at a; exact a
  | no => rw [e] at a; exact a
theorem ss_one (h1 : DS X E st g1) : DSs X E [st] g1 := fun G0 H0 => pss_one (h1 G0 H0)
def sFz (i : Nat) (g : Dn → Out) : Dn → Out := fun δ => g (fz i δ)
theorem s_fz (i : Nat) (h : DS X E st g1) : DS X E st (sFz i g1) := fun G0 H0 => PS.imp (h G0 H0) fun D σ H ⟨G, δ, S, a⟩ => by
  obtain ⟨G', S'⟩ := S.fz i
  exact ⟨G', _, S', a⟩
theorem s_pass : DS X E (.Pass pos) sNext := fun G0 H0 => PS.imp ps_pass fun D σ H ⟨G, δ, S, a⟩ => a σ G H S
theorem s_break : DS X E (.Break pos) (fun δ => .bk δ) := fun G0 H0 => PS.imp ps_break fun D σ H ⟨G, δ, S, a⟩ => a σ G H S
theorem s_continue : DS X E (.Continue pos) (fun δ => .ct δ) := fun G0 H0 => PS.imp ps_continue fun D σ H ⟨G, δ, S, a⟩ => a σ G H S
def sRet (f : Dn → Res PyData) : Dn → Out := fun δ => thenS (f δ) .rt
theorem s_ret (h : DE X E e f) : DS X E (.Return (some e) pos) (sRet f) := fun G0 H0 => PS.imp (ps_ret h) fun D σ H ⟨G, δ, S, a⟩ =>
  aftS_D S a fun d v G1 H1 g1 r1 S1 a1 => a1 v G1 H1 S1.gr r1
def sIf (c : Dn → Res Bool) (g1 g2 : Dn → Out) : Dn → Out := fun δ => thenS (c δ) fun b => if b = true then g1 δ else g2 δ
theorem s_if (hc : DT X E c tt) (h1 : DSs X E sts g1) (h2 : DSs X E sts' g2) : DS X E (.If c sts sts' pos) (sIf tt g1 g2) := fun G0 H0 => PS.imp (ps_if hc (h1 G0 H0) (h2 G0 H0)) fun D σ H ⟨G, δ, S, a⟩ =>
  aftS_T S a fun d G1 H1 g1 S1 a1 => by
    cases d with
    | true => rw [if_pos rfl]; exact ⟨G1, δ, S1, a1⟩
    | false => rw [if_neg (by decide)]; exact ⟨G1, δ, S1, a1⟩
def okSet (N : List Str) (sc : Scope) (df : Bool) (i : Nat) (x : Str) : Bool := decide (N.Nodup) && decide (N[i]? = some x) && (decide (sc.names.lookup x = some .local) || (decide (sc.names.lookup x = some .cell) && df))
theorem okSet.ok (C : Cxt P w K mg base X N sc k df) {i : Nat} {x : Str} (h : okSet N sc df i x = true) : X.N.Nodup ∧ X.N[i]? = some x ∧ Loc X.env.scope x ∧ (X.fn x = true ∨ X.env.scope.names.lookup x = some .local) := by
  unfold okSet at h
  simp only [Bool.and_eq_true, Bool.or_eq_true, decide_eq_true_eq] at h
  obtain ⟨⟨h1, h2⟩, h3⟩ := h
  rw [C.hN]
  refine ⟨h1, h2, ?_⟩
  unfold L2.Loc
  rw [C.hs]
  rcases h3 with h3 | ⟨h3, h4⟩
  · exact ⟨.inl h3, .inr h3⟩
  · exact ⟨.inr h3, .inl (C.fn h4 x)⟩
def sSet (i : Nat) (f : Dn → Res PyData) : Dn → Out := fun δ => thenS (f δ) fun d => .nx (δ.set i (.sh d))
theorem s_set {x : Str} (C : Cxt P w K mg base X N sc k df) (i : Nat) (ho : okSet N sc df i x = true) (h : DE X E e f) (hs : swapsWith e (some (.Name x p)) pos.line X.env = pure false := by rfl) : DS X E (.Assign [.Name x p] e pos) (sSet i f) := fun G0 H0 => by
  obtain ⟨h1, h2, h3, h4⟩ := okSet.ok C ho
  exact PS.imp (ps_set h1 h2 h3 h hs h4) fun D σ H ⟨G, δ, S, a⟩ => aftS_D S a fun d v G1 H1 g1 r1 S1 a1 => a1 _ G1 H1 (S1.set_sh r1)
theorem fresh_slot {G0 H0 G H : Hp} {σ : St} {δ : Dn} (S : SSt G0 H0 G H σ δ) {p : Addr} (hp : H p = none) (j : Nat) (d' : PyData) (e : δ[j]? = some (.ow d')) : σ[j]?.join ≠ some (.ref p) := fun z => by
  obtain ⟨a, e1, _, ok⟩ := S.sr.sl j _ e
  rw [e1] at z; cases z
  obtain ⟨o, q⟩ := ok.some
  rw [hp] at q; cases q
def sOwn (i : Nat) (f : Dn → Res (List PyData)) : Dn → Out := fun δ => thenS (f δ) fun ds => .nx (δ.set i (.ow (.list ds)))
theorem own_fin {G0 H0 : Hp} {D : Ends} {σ : St} {H : Hp} {i : Nat} (h : tS E G0 H0 (sOwn i fs) D σ H) : tF E fs σ H fun v H1 => D.nx (σ.set i (some v)) H1 := by
  obtain ⟨G, δ, S, a⟩ := h
  refine aftS_F S a fun ds p xs G1 H1 g1 q1 q2 q3 q4 S1 a1 => ?_
  exact a1 _ G1 H1 (S1.set_ow (S.gr.h.free q1) q2 ⟨xs, q3, q4⟩ (fresh_slot S q1))
theorem s_own {x : Str} (C : Cxt P w K mg base X N sc k df) (i : Nat) (ho : okSet N sc df i x = true) (h : DF X E e fs) (hs : swapsWith e (some (.Name x p)) pos.line X.env = pure false := by rfl) : DS X E (.Assign [.Name x p] e pos) (sOwn i fs) := fun G0 H0 => by
  obtain ⟨h1, h2, h3, h4⟩ := okSet.ok C ho
  exact PS.imp (ps_set h1 h2 h3 h hs h4) fun D σ H q => own_fin q
def okSwap (sc scope : Scope) (x : Str) (l1 l2 : Nat) : Bool := decide (sc.kind = .function) && decide (sc.names.lookup x = some .local) && decide (l1 = l2) && !(scope.names.any fun (n, kd) => n == x && (kd == .local || kd == .cell))
theorem swap_true {x : Str} {elt : Expr} {gens : List Comprehension} {ln : Nat} (C : Cxt P w K mg base X N sc k df) (h : okSwap sc scope x p.line pos.line = true) : swapsWith (.ListComp elt gens scope pos) (some (.Name x p)) ln X.env = pure true := by
  unfold okSwap at h
  simp only [Bool.and_eq_true, decide_eq_true_eq] at h
  obtain ⟨⟨⟨h1, h2⟩, h3⟩, h4⟩ := h
  unfold swapsWith
  show pure (X.env.blockKind == .function && X.env.kindOf x == some .local && p.line == pos.line && !(scope.names.any fun (n, kd) => n == x && (kd == .local || kd == .cell))) = _
  have e1 : X.env.blockKind = .function := by unfold Env.blockKind; rw [C.hs, h1]; rfl
  have e2 : X.env.kindOf x = some .local := by show X.env.scope.names.lookup x = _; rw [C.hs]; exact h2
  rw [e1, e2, h3, h4]
  simp
def noSwap (sc scope : Scope) (x : Str) (l1 l2 : Nat) : Bool := decide (sc.names.lookup x ≠ some .local) || decide (l1 ≠ l2) || (scope.names.any fun (n, kd) => n == x && (kd == .local || kd == .cell))
theorem swap_false {x : Str} {elt : Expr} {gens : List Comprehension} {ln : Nat} (C : Cxt P w K mg base X N sc k df) (h : noSwap sc scope x p.line pos.line = true) : swapsWith (.ListComp elt gens scope pos) (some (.Name x p)) ln X.env = pure false := by
  unfold noSwap at h
  unfold swapsWith
  show pure (X.env.blockKind == .function && X.env.kindOf x == some .local && p.line == pos.line && !(scope.names.any fun (n, kd) => n == x && (kd == .local || kd == .cell))) = _
  have e2 : X.env.kindOf x = sc.names.lookup x := by show X.env.scope.names.lookup x = _; rw [C.hs]
  rw [e2]
  rw [Bool.or_eq_true, Bool.or_eq_true, decide_eq_true_eq, decide_eq_true_eq] at h
  congr 1
  rcases h with (h | h) | h
  · have : (sc.names.lookup x == some NameKind.local) = false := by simpa using h
    rw [this]; simp
  · have : (p.line == pos.line) = false := by simpa using h
    rw [this]; simp
  · rw [h]; simp
section
variable {x y : Str} {i : Nat} {py spos : Pos}
theorem s_ownComp1 (C : Cxt P w K mg base X N sc k df) (i : Nat) (hset : okSet N sc df i y = true) (hsw : okSwap sc scope y py.line pos.line = true) (cap : List Nat) (capN : List Str) (ho : okComp N sc scope [x] capN cap = true) (hi : DI X E (.Name x px) iter src)
    (ht : ∀ X', Cxt P w K mg base X' ([x] ++ capN) (relS scope sc) k false → DTs X' E0k ifs tt) (he : ∀ X', Cxt P w K mg base X' ([x] ++ capN) (relS scope sc) k false → DE X' E0k elt el)
    (hs : ∀ x, foldedSetIterable iter X.env x = pure x := by intro _; rfl) : DS X E (.Assign [.Name y py] (.ListComp elt [⟨.Name x px, iter, ifs, 0⟩] scope pos) spos) (sOwn i (lComp src bind1 cap tt el)) := fun G0 H0 => by
  obtain ⟨h1, h2, h3, h4⟩ := okSet.ok C hset
  have o := okComp.ok ho
  have hl : X.env.scope.names.lookup y = some .local := by
    rw [C.hs]; unfold okSwap at hsw; simp only [Bool.and_eq_true, decide_eq_true_eq] at hsw; exact hsw.1.1.2
  refine PS.imp (ps_setComp (g := gName 0) C.calm (comp_facts C o) hi (fun X' B => ?_) (fun X' B => ht X' (C.blk B)) (fun X' B => he X' (C.blk B)) h1 h2 hl (swap_true C hsw) hs) fun D σ H h => tComp_D (m := 1) rfl o.h10 gok1 (own_fin h)
  have C' := C.blk B
  have hl : X'.env.scope.names.lookup x = some .local := by rw [C'.hs]; exact o.h9 x (by simp)
  exact pg_name (by rw [C'.hN]; exact o.h8) (by rw [C'.hN]; rfl) (.inl hl) (.inr hl)
def sNew (i : Nat) (f : Dn → Res (List PyData)) : Dn → Out := fun δ => thenS (f δ) fun ds => .nx (δ.set i (.sh (.list ds)))
theorem new_fin {G0 H0 : Hp} {D : Ends} {σ : St} {H : Hp} {i : Nat} (h : tS E G0 H0 (sNew i fs) D σ H) : tF E fs σ H fun v H1 => D.nx (σ.set i (some v)) H1 := by
  obtain ⟨G, δ, S, a⟩ := h
  refine aftS_F S a fun ds p xs G1 H1 g1 q1 q2 q3 q4 S1 a1 => ?_
  exact a1 _ _ H1 ((S.grow (g1.share q1 q2 q3)).set_sh ⟨p, xs, rfl, .inl upd_same, q4.mono (Same.upd q2)⟩)
end
end
end Sm
end
section
set_option Elab.async false
set_option linter.all false
set_option maxRecDepth 100000
set_option maxHeartbeats 4000000
set_option autoImplicit false
namespace Sm
open PySem PySem.Spec PyProof.Rows L2
section
variable {P : Program} {w : World} {K : PySem.W.Frag} {mg : Str → Option Value} {base : Heap} {X : Cx} {N : List Str} {sc : Scope} {k : Nat} {df : Bool} {E : EK} {pos p px py tp spos : Pos} {tg a b c e elt iter : Expr} {ifs : List Expr} {es : List Expr} {f g el : Dn → Res PyData} {fs src : Dn → Res (List PyData)} {tt : Dn → Res Bool} {scope : Scope} {capN : List Str} {cap : List Nat} {st : Stmt} {sts sts' : List Stmt} {g1 g2 : Dn → Out} {x y : Str} {i : Nat}
theorem s_newComp1 (C : Cxt P w K mg base X N sc k df) (i : Nat) (hset : okSet N sc df i y = true) (hsw : okSwap sc scope y py.line pos.line = true) (cap : List Nat) (capN : List Str) (ho : okComp N sc scope [x] capN cap = true) (hi : DI X E (.Name x px) iter src)
    (ht : ∀ X', Cxt P w K mg base X' ([x] ++ capN) (relS scope sc) k false → DTs X' E0k ifs tt) (he : ∀ X', Cxt P w K mg base X' ([x] ++ capN) (relS scope sc) k false → DE X' E0k elt el)
    (hs : ∀ x, foldedSetIterable iter X.env x = pure x := by intro _; rfl) : DS X E (.Assign [.Name y py] (.ListComp elt [⟨.Name x px, iter, ifs, 0⟩] scope pos) spos) (sNew i (lComp src bind1 cap tt el)) := fun G0 H0 => by
  obtain ⟨h1, h2, h3, h4⟩ := okSet.ok C hset
  have o := okComp.ok ho
  have hl : X.env.scope.names.lookup y = some .local := by
    rw [C.hs]; unfold okSwap at hsw; simp only [Bool.and_eq_true, decide_eq_true_eq] at hsw; exact hsw.1.1.2
  refine PS.imp (ps_setComp (g := gName 0) C.calm (comp_facts C o) hi (fun X' B => ?_) (fun X' B => ht X' (C.blk B)) (fun X' B => he X' (C.blk B)) h1 h2 hl (swap_true C hsw) hs) fun D σ H h => tComp_D (m := 1) rfl o.h10 gok1 (new_fin h)
  have C' := C.blk B
  have hl : X'.env.scope.names.lookup x = some .local := by rw [C'.hs]; exact o.h9 x (by simp)
  exact pg_name (by rw [C'.hN]; exact o.h8) (by rw [C'.hN]; rfl) (.inl hl) (.inr hl)
theorem s_newComp2 {x1 : Nat} {x2 : Str} (C : Cxt P w K mg base X N sc k df) (i : Nat) (hset : okSet N sc df i y = true) (hsw : okSwap sc scope y py.line pos.line = true) (cap : List Nat) (capN : List Str) (ho : okComp N sc scope [x, x2] capN cap = true) (hi : DI X E (.Tuple [.Name x px, .Name x2 p] x1 tp) iter src)
    (ht : ∀ X', Cxt P w K mg base X' ([x, x2] ++ capN) (relS scope sc) k false → DTs X' E0k ifs tt) (he : ∀ X', Cxt P w K mg base X' ([x, x2] ++ capN) (relS scope sc) k false → DE X' E0k elt el)
    (hs : ∀ x, foldedSetIterable iter X.env x = pure x := by intro _; rfl) : DS X E (.Assign [.Name y py] (.ListComp elt [⟨.Tuple [.Name x px, .Name x2 p] x1 tp, iter, ifs, 0⟩] scope pos) spos) (sNew i (lComp src bind2 cap tt el)) := fun G0 H0 => by
  obtain ⟨h1, h2, h3, h4⟩ := okSet.ok C hset
  have o := okComp.ok ho
  have hl : X.env.scope.names.lookup y = some .local := by
    rw [C.hs]; unfold okSwap at hsw; simp only [Bool.and_eq_true, decide_eq_true_eq] at hsw; exact hsw.1.1.2
  refine PS.imp (ps_setComp (g := gTup K 2 (gCons (gName 0) (gCons (gName 1) gNil))) C.calm (comp_facts C o) hi (fun X' B => ?_) (fun X' B => ht X' (C.blk B)) (fun X' B => he X' (C.blk B)) h1 h2 hl (swap_true C hsw) hs) fun D σ H h => tComp_D (m := 2) rfl o.h10 gok2 (new_fin h)
  have C' := C.blk B
  have hl : X'.env.scope.names.lookup x = some .local := by rw [C'.hs]; exact o.h9 x (by simp)
  have hl2 : X'.env.scope.names.lookup x2 = some .local := by rw [C'.hs]; exact o.h9 x2 (by simp)
  have nd : X'.N.Nodup := by rw [C'.hN]; exact o.h8
  have p1 : PG X' (.Name x px) (gName 0) := pg_name nd (by rw [C'.hN]; rfl) (.inl hl) (.inr hl)
  have p2 : PG X' (.Name x2 p) (gName 1) := pg_name nd (by rw [C'.hN]; rfl) (.inl hl2) (.inr hl2)
  have := pg_tup (n := 2) (k := x1) (pos := tp) C'.calm (pgs_cons p1 (pgs_cons p2 pgs_nil))
  rw [C'.hK] at this
  exact this
def sSet2 (i j : Nat) (f : Dn → Res PyData) : Dn → Out := fun δ => thenS (f δ) fun d => match d with
  | .tuple [a, b] => .nx ((δ.set i (.sh a)).set j (.sh b))
  | _ => .no
theorem s_set2 {x1 : Nat} (C : Cxt P w K mg base X N sc k df) (i j : Nat) (hi : okSet N sc df i x = true) (hj : okSet N sc df j y = true) (h : DE X E e f)
    (hs : swapsWithSole [.Tuple [.Name x px, .Name y py] x1 tp] e pos.line X.env = pure false := by rfl) (hw : swappedStores [.Tuple [.Name x px, .Name y py] x1 tp] e X.env = pure none := by rfl)
    (h1 : (assignEach [.Tuple [.Name x px, .Name y py] x1 tp] X.env).map (·.2) = [assign (.Tuple [.Name x px, .Name y py] x1 tp) X.env] := by rfl) :
    DS X E (.Assign [.Tuple [.Name x px, .Name y py] x1 tp] e pos) (sSet2 i j f) := fun G0 H0 => by
  obtain ⟨h1', h2, h3, h4⟩ := okSet.ok C hi
  obtain ⟨_, q2, q3, q4⟩ := okSet.ok C hj
  have pg := pg_tup (n := 2) (k := x1) (pos := tp) C.calm (pgs_cons (pg_name (pos := px) h1' h2 h3 h4) (pgs_cons (pg_name (pos := py) h1' q2 q3 q4) pgs_nil))
  refine PS.imp (ps_asg h pg hs hw h1) fun D σ H ⟨G, δ, S, a⟩ => aftS_D S a fun d v G1 H1 g1 r1 S1 a1 => ?_
  cases d with
  | tuple ds =>
    match ds, a1 with
    | [a, b], a1 =>
      obtain ⟨p, xs, rfl, e1, l1⟩ := r1
      obtain ⟨v, v', rfl, r1, r2⟩ := rep2 l1
      refine ⟨p, _, rfl, .inl (.inl (S1.sr.sub _ _ e1)), rfl, v, [v'], rfl, v', [], rfl, rfl, ?_⟩
      exact a1 _ G1 H1 ((S1.set_sh r1).set_sh r2)
  | _ => exact (show False from a1).elim
def sApp (i : Nat) (f : Dn → Res PyData) : Dn → Out := fun δ => match δ[i]? with
  | some (.ow (.list ds)) => thenS (f δ) fun d => if ds.length < sizeLine then .nx (δ.set i (.ow (.list (ds ++ [d])))) else .no
  | _ => .no
theorem s_app {cpos apos : Pos} (C : Cxt P w K mg base X N sc k df) (i : Nat) (h : okVar N sc i x = true) (ha : DE X E a f)
    (hbase : attributeBase (.Name x p) "append" X.env (eval (.Name x p) X.env) = eval (.Name x p) X.env := by rfl)
    (hfew : ((backTo cpos (starEach [a] X.env)).all (fun x => !x.1) && (backToKw cpos (keywordEach [] X.env)).all (fun x => x.1.isSome)
      && decide ([a].length + ([] : List Keyword).length + (if ([] : List Keyword).isEmpty then 0 else 1) < 30)) = true := by rfl)
    (hline : (apos.endLine == cpos.line) = true := by rfl) (hs : starEach [a] X.env = (false, eval a X.env) :: starEach [] X.env := by rfl) (hplain : (backTo cpos (starEach [] X.env)).any (·.1) = false := by rfl)
    (hsw : swapsWith (.Call (.Attribute (.Name x p) "append" apos) [a] [] cpos) none pos.line X.env = pure false := by rfl) :
    DS X E (.Expr (.Call (.Attribute (.Name x p) "append" apos) [a] [] cpos) pos) (sApp i f) := fun G0 H0 => by
  have hv : PE X (.Name x p) (tVar i) := by
    unfold okVar at h
    simp only [Bool.and_eq_true, Bool.not_eq_true'] at h
    obtain ⟨⟨⟨h1, h2⟩, h3⟩, h4⟩ := h
    refine pe_var (by rw [C.hN]; exact eq_of_beq h1) ?_ h3 h4
    rw [C.hs]
    unfold Vis
    cases q : sc.names.lookup x with
    | none => rw [q] at h2; cases h2
    | some z =>
      rw [q] at h2
      cases z with
      | «local» => exact .inl rfl
      | cell => exact .inr (.inl rfl)
      | free => exact .inr (.inr rfl)
      | _ => cases h2
  refine PS.imp (ps_expr (pe_bm PySem.F.plainAttrs_list PySem.F.slot_list_append PySem.F.type_list_append mt_append hv (pa_cons ha pa_nil hs) hbase hfew hline hs hplain) hsw) fun D σ H ⟨G, δ, S, aft⟩ => ?_
  unfold sApp at aft
  split at aft
  · rename_i ds hi
    obtain ⟨q, hq, hg, xs, hx, rl⟩ := S.sr.sl i _ hi
    have hσ : σ[i]? = some (some (.ref q)) := by
      cases z : σ[i]? with
      | none => rw [z] at hq; cases hq
      | some z' => rw [z] at hq; cases z' with
        | none => cases hq
        | some z'' => cases hq; rfl
    refine ⟨.ref q, hσ, .inl ⟨rfl, xs, .inl (.inl hx)⟩, ?_⟩
    refine aftS_D S aft fun d v G1 H1 g1 r1 S1 a1 => ?_
    split at a1
    · rename_i hz
      have hx1 : H1 q = some (.lst xs) := g1.h _ _ hx
      obtain ⟨q', hq', hg', _⟩ := S1.sr.sl i _ hi
      rw [hq] at hq'; cases hq'
      refine ⟨q, xs, v, rfl, rfl, hx1, by rw [← rl.length]; exact hz, ?_⟩
      exact a1 σ G1 _ (S1.write hi hq hg' ⟨xs ++ [v], upd_same, (rl.mono g1.g).append (RepL.cons r1 rfl)⟩)
    · exact a1.elim
  · exact aft.elim
def runFor (st : PyData → Dn → Option Dn) (body : Dn → Out) : List PyData → Dn → Out
  | [], δ => .nx δ
  | d :: ds, δ => match st d δ with
    | some δ1 => match body δ1 with
      | .nx δ' => runFor st body ds δ'
      | .ct δ' => runFor st body ds δ'
      | .bk δ' => .nx δ'
      | o => o
    | none => .no
def sFor (src : Dn → Res (List PyData)) (st : PyData → Dn → Option Dn) (body : Dn → Out) : Dn → Out := fun δ => thenS (src δ) fun ds => runFor st body ds δ
def st1 (i : Nat) : PyData → Dn → Option Dn := fun d δ => some (δ.set i (.sh d))
def st2 (i j : Nat) : PyData → Dn → Option Dn := fun d δ => match d with
  | .tuple [a, b] => some ((δ.set i (.sh a)).set j (.sh b))
  | _ => none
def TgOk (K : PySem.W.Frag) (g : TG) (st : PyData → Dn → Option Dn) : Prop := ∀ (G0 H0 G H : Hp) (σ : St) (δ δ1 : Dn) (d : PyData) (x : V) (Q : St → Hp → Prop), SSt G0 H0 G H σ δ → Rep G d x → st d δ = some δ1 → (∀ σ', SSt G0 H0 G H σ' δ1 → Q σ' H) → g x σ H Q
theorem tg1 (i : Nat) : TgOk K (gName i) (st1 i) := fun G0 H0 G H σ δ δ1 d x Q S r e h => by cases e; exact h _ (S.set_sh r)
theorem tg2 (i j : Nat) : TgOk K (gTup K 2 (gCons (gName i) (gCons (gName j) gNil))) (st2 i j) := fun G0 H0 G H σ δ δ1 d x Q S r e h => by
  cases d with
  | tuple ds =>
    match ds, e with
    | [a, b], e =>
      cases e
      obtain ⟨p, xs, rfl, e1, l1⟩ := r
      obtain ⟨v, v', rfl, r1, r2⟩ := rep2 l1
      exact ⟨p, _, rfl, .inl (.inl (S.sr.sub _ _ e1)), rfl, v, [v'], rfl, v', [], rfl, rfl, h _ ((S.set_sh r1).set_sh r2)⟩
  | _ => cases e
theorem SSt.rebase {G0 H0 G1 H1 G H : Hp} {σ : St} {δ : Dn} (g : Grow G0 H0 G1 H1) (S : SSt G0 H0 G H σ δ) (h : Same G1 G) : SSt G1 H0 G H σ δ :=
  ⟨⟨h, S.gr.h, S.gr.gh, fun b o e => (S.gr.fr b o e).imp (fun z => g.g _ _ z) id⟩, S.sr, S.fr⟩
theorem Grow.unbase {G0 H0 G1 H1 G H : Hp} (g : Grow G0 H0 G1 H1) (h : Grow G1 H0 G H) : Grow G0 H0 G H :=
  ⟨g.g.trans h.g, h.h, h.gh, fun b o e => (h.fr b o e).elim (fun z => g.fr b o z) .inr⟩
theorem SSt.unbase {G0 H0 G1 H1 G H : Hp} {σ : St} {δ : Dn} (g : Grow G0 H0 G1 H1) (S : SSt G1 H0 G H σ δ) : SSt G0 H0 G H σ δ := ⟨g.unbase S.gr, S.sr, S.fr⟩
theorem s_for' {gt : TG} {st : PyData → Dn → Option Dn} (C : Cxt P w K mg base X N sc k df) (hi : DI X E tg iter src) (hg : PG X tg gt) (ht : TgOk K gt st) (hb : DSs X E sts g1) (hs : ∀ x, foldedSetIterable iter X.env x = pure x) : DS X E (.For tg iter sts [] pos) (sFor src st g1) := fun G0 H0 => by
  have hb' : PSs X sts (fun D σ H => ∃ Gb, tS E Gb H0 g1 D σ H) := fun pins s σ H D I ⟨Gb, q⟩ => hb Gb H0 pins s σ H D I q
  refine PS.imp (ps_for C.own C.calm hi hg hb' hs) fun D σ H ⟨G, δ, S, aft⟩ => ?_
  refine aftS_I S aft fun ds J G1 H1 gr W S1 a1 => ?_
  have g01 := S1.gr
  refine ⟨fun i n σ' H' => n = ds.length - i ∧ i ≤ ds.length ∧ ∃ G' δ', SSt G1 H0 G' H' σ' δ' ∧ AftS E G0 H0 (runFor st g1 (ds.drop i) δ') D, ⟨_, rfl, Nat.zero_le _, G1, δ, S1.rebase g01 (Same.refl _), by rw [List.drop_zero]; exact a1⟩, ?_⟩
  rintro i n σ' H' ⟨rfl, hi, G', δ', S', a'⟩
  by_cases hlt : i < ds.length
  · have hd : ds[i]? = some ds[i] := List.getElem?_eq_getElem hlt
    have hdrop : ds.drop i = ds[i] :: ds.drop (i + 1) := List.drop_eq_getElem_cons hlt
    rw [hdrop] at a'
    unfold runFor at a'
    refine .inr ⟨W.go i H' hlt (S'.gr.g.trans S'.sr.sub), fun σ2 H2 => ∃ G' δ', SSt G1 H0 G' H2 σ2 δ' ∧ AftS E G0 H0 (runFor st g1 (ds.drop (i + 1)) δ') D, fun σ2 H2 q => ⟨_, by omega, rfl, hlt, q⟩, fun x H'' hy => ?_⟩
    obtain ⟨G3, g3, r3⟩ := W.yld i _ G' H' x H'' hd S'.gr.g S'.sr.sub hy
    have S3 := S'.grow g3
    cases es : st ds[i] δ' with
    | none => rw [es] at a'; exact a'.elim
    | some δ1 =>
      rw [es] at a'
      refine ht G1 H0 G3 H'' σ' δ' δ1 _ x _ S3 r3 es fun σ2 S4 => ⟨G1, G3, δ1, S4, ?_⟩
      simp only at a'
      cases eo : g1 δ1 with
      | nx δ2 => rw [eo] at a'; exact fun σ3 G4 H4 S5 => ⟨G4, δ2, S5, a'⟩
      | ct δ2 => rw [eo] at a'; exact fun σ3 G4 H4 S5 => ⟨G4, δ2, S5, a'⟩
      | bk δ2 => rw [eo] at a'; exact fun σ3 G4 H4 S5 => a' σ3 G4 H4 (S5.unbase g01)
      | rt d => rw [eo] at a'; exact fun v G4 H4 g r => a' v G4 H4 (g01.unbase g) r
      | exc c => rw [eo] at a'; exact fun G4 H4 g => a' G4 H4 (g01.unbase g)
      | no => rw [eo] at a'; exact a'
  · refine .inl ⟨W.stop i H' (Nat.not_lt.mp hlt) (S'.gr.g.trans S'.sr.sub), ?_⟩
    have : ds.drop i = [] := List.drop_eq_nil_of_le (Nat.not_lt.mp hlt)
    rw [this] at a'
    exact a' σ' G' H' (S'.unbase g01)
theorem s_for1 (C : Cxt P w K mg base X N sc k df) (i : Nat) (ho : okSet N sc df i x = true) (hi : DI X E (.Name x p) iter src) (hb : DSs X E sts g1) (hs : ∀ x, foldedSetIterable iter X.env x = pure x := by intro _; rfl) : DS X E (.For (.Name x p) iter sts [] pos) (sFor src (st1 i) g1) := by
  obtain ⟨h1, h2, h3, h4⟩ := okSet.ok C ho
  exact s_for' C hi (pg_name h1 h2 h3 h4) (tg1 i) hb hs
theorem s_for2 {x1 : Nat} (C : Cxt P w K mg base X N sc k df) (i j : Nat) (hi' : okSet N sc df i x = true) (hj : okSet N sc df j y = true) (hi : DI X E (.Tuple [.Name x px, .Name y py] x1 tp) iter src) (hb : DSs X E sts g1) (hs : ∀ x, foldedSetIterable iter X.env x = pure x := by intro _; rfl) :
    DS X E (.For (.Tuple [.Name x px, .Name y py] x1 tp) iter sts [] pos) (sFor src (st2 i j) g1) := by
  obtain ⟨h1', h2, h3, h4⟩ := okSet.ok C hi'
  obtain ⟨_, q2, q3, q4⟩ := okSet.ok C hj
  have pg := pg_tup (n := 2) (k := x1) (pos := tp) C.calm (pgs_cons (pg_name (pos := px) h1' h2 h3 h4) (pgs_cons (pg_name (pos := py) h1' q2 q3 q4) pgs_nil))
  rw [C.hK] at pg
  exact s_for' C hi pg (tg2 i j) hb hs
def keyOf : List PyData → Option (List Key)
  | [] => some []
  | .int i :: ds => (keyOf ds).map (.inl i :: ·)
  | .str x :: ds => (keyOf ds).map (.inr x :: ·)
  | _ :: _ => none
def keyT : PyData → Option (List Key)
  | .tuple ds => keyOf ds
  | _ => none
theorem keyOf_rep {G : Hp} : ∀ {ds : List PyData} {xs : List V} {kk : List Key}, RepL G ds xs → keyOf ds = some kk → xs = kk.map kV ∧ ds = kk.map keyD
  | [], _, _, r, e => by cases (show _ = _ from r); cases e; exact ⟨rfl, rfl⟩
  | .int i :: ds, _, _, r, e => by
    obtain ⟨x, t, rfl, h, l⟩ := r
    cases (show _ = _ from h)
    obtain ⟨k', e1, rfl⟩ := Option.map_eq_some_iff.mp e
    obtain ⟨q1, q2⟩ := keyOf_rep l e1
    exact ⟨by rw [q1]; rfl, by rw [q2]; rfl⟩
  | .str z :: ds, _, _, r, e => by
    obtain ⟨x, t, rfl, h, l⟩ := r
    cases h.1
    obtain ⟨k', e1, rfl⟩ := Option.map_eq_some_iff.mp e
    obtain ⟨q1, q2⟩ := keyOf_rep l e1
    exact ⟨by rw [q1]; rfl, by rw [q2]; rfl⟩
  | .none :: _, _, _, _, e => by cases e
  | .bool _ :: _, _, _, _, e => by cases e
  | .list _ :: _, _, _, _, e => by cases e
  | .tuple _ :: _, _, _, _, e => by cases e
  | .dict _ :: _, _, _, _, e => by cases e
theorem keyD_inj : ∀ {a b : Key}, keyD a = keyD b → a = b
  | .inl _, .inl _, h => by cases h; rfl
  | .inr _, .inr _, h => by cases h; rfl
  | .inl _, .inr _, h => by cases h
  | .inr _, .inl _, h => by cases h
theorem keysD_inj : ∀ {a b : List Key}, a.map keyD = b.map keyD → a = b
  | [], [], _ => rfl
  | [], _ :: _, h => by cases h
  | _ :: _, [], h => by cases h
  | x :: xs, y :: ys, h => by
    simp only [List.map_cons, List.cons.injEq] at h
    rw [keyD_inj h.1, keysD_inj h.2]
def getKv (kvs : List (PyData × PyData)) (kk : List Key) : Option PyData := (kvs.find? fun q => match keyT q.1 with | some k' => decide (k' = kk) | none => false).map (·.2)
def putKv (kvs : List (PyData × PyData)) (kk : List Key) (v : PyData) : List (PyData × PyData) :=
  if (getKv kvs kk).isSome then kvs.map fun q => if keyT q.1 = some kk then (q.1, v) else q else kvs ++ [(.tuple (kk.map keyD), v)]
theorem keyOf_map (kk : List Key) : keyOf (kk.map keyD) = some kk := by
  induction kk with
  | nil => rfl
  | cons a r ih => cases a <;> (show (keyOf (r.map keyD)).map _ = _; rw [ih]; rfl)
theorem keyT_map (kk : List Key) : keyT (.tuple (kk.map keyD)) = some kk := keyOf_map kk
theorem get_rep {G : Hp} {kk : List Key} : ∀ {kvs : List (PyData × PyData)} {kv : List (List Key × V)}, kvs.map (·.1) = kv.map (fun q => PyData.tuple (q.1.map keyD)) → RepL G (kvs.map (·.2)) (kv.map (·.2)) →
    (getKv kvs kk = none ∧ valV kv kk = none) ∨ ∃ d v, getKv kvs kk = some d ∧ valV kv kk = some v ∧ Rep G d v
  | [], [], _, _ => .inl ⟨rfl, rfl⟩
  | [], _ :: _, h, _ => by cases h
  | _ :: _, [], h, _ => by cases h
  | (a, d) :: kvs, (k0, v0) :: kv, h, r => by
    simp only [List.map_cons, List.cons.injEq] at h
    obtain ⟨h1, h2⟩ := h
    obtain ⟨x, t, e, rd, rl⟩ := r
    simp only [List.map_cons, List.cons.injEq] at e
    obtain ⟨e1, e2⟩ := e
    subst e1 e2
    have h1' : a = .tuple (k0.map keyD) := h1
    subst h1'
    unfold getKv valV
    rw [List.find?_cons, List.find?_cons]
    simp only [keyT_map]
    by_cases hk : k0 = kk
    · simp only [hk, decide_true]
      exact .inr ⟨d, v0, rfl, rfl, rd⟩
    · simp only [hk, decide_false]
      exact get_rep h2 rl
theorem put_rep {G : Hp} {kk : List Key} {d : PyData} {v : V} (hd : Rep G d v) {kvs : List (PyData × PyData)} {kv : List (List Key × V)} (h : kvs.map (·.1) = kv.map (fun q => PyData.tuple (q.1.map keyD))) (r : RepL G (kvs.map (·.2)) (kv.map (·.2))) :
    (putKv kvs kk d).map (·.1) = (putK kv kk v).map (fun q => PyData.tuple (q.1.map keyD)) ∧ RepL G ((putKv kvs kk d).map (·.2)) ((putK kv kk v).map (·.2)) := by
  have go : ∀ {kvs : List (PyData × PyData)} {kv : List (List Key × V)}, kvs.map (·.1) = kv.map (fun q => PyData.tuple (q.1.map keyD)) → RepL G (kvs.map (·.2)) (kv.map (·.2)) →
      (kvs.map fun q => if keyT q.1 = some kk then (q.1, d) else q).map (·.1) = (kv.map fun q => if q.1 = kk then (q.1, v) else q).map (fun q => PyData.tuple (q.1.map keyD)) ∧ RepL G ((kvs.map fun q => if keyT q.1 = some kk then (q.1, d) else q).map (·.2)) ((kv.map fun q => if q.1 = kk then (q.1, v) else q).map (·.2)) := by
    intro kvs
    induction kvs with
    | nil => intro kv h r; cases kv with
      | nil => exact ⟨rfl, rfl⟩
      | cons _ _ => cases h
    | cons p kvs ih =>
      intro kv h r
      cases kv with
      | nil => cases h
      | cons q kv =>
        simp only [List.map_cons, List.cons.injEq] at h
        obtain ⟨h1, h2⟩ := h
        obtain ⟨x, t, e, rd, rl⟩ := r
        simp only [List.map_cons, List.cons.injEq] at e
        obtain ⟨e1, e2⟩ := e
        subst e1 e2
        obtain ⟨i1, i2⟩ := ih h2 rl
        have hk : keyT p.1 = some q.1 := by rw [h1]; exact keyT_map _
        simp only [List.map_cons]
        by_cases hq : q.1 = kk
        · rw [if_pos (by rw [hk, hq]), if_pos hq]
          exact ⟨by rw [i1]; simp only [h1], RepL.cons hd i2⟩
        · rw [if_neg (by rw [hk]; intro z; exact hq (Option.some.inj z)), if_neg hq]
          exact ⟨by rw [i1]; simp only [h1], RepL.cons rd i2⟩
  rcases get_rep (kk := kk) h r with ⟨n1, n2⟩ | ⟨d0, v0, n1, n2, _⟩
  · unfold putKv
    rw [n1]
    rw [putK_new _ n2]
    simp only [Option.isSome_none, Bool.false_eq_true, if_false, List.map_append, List.map_cons, List.map_nil]
    exact ⟨by rw [h], r.append (RepL.cons hd rfl)⟩
  · unfold putKv
    rw [n1]
    simp only [Option.isSome_some, if_true]
    have : putK kv kk v = kv.map fun q => if q.1 = kk then (q.1, v) else q := by
      unfold putK
      have hs : (kv.any fun q => decide (q.1 = kk)) = true := by rw [valV_any, n2]; rfl
      first | rw [if_pos hs] | simp [hs]
    rw [this]
    exact go h r
end
end Sm
end
section
set_option Elab.async false
set_option linter.all false
set_option maxRecDepth 100000
set_option maxHeartbeats 4000000
set_option autoImplicit false
namespace Sm
open PySem PySem.Spec PyProof.Rows L2
section
variable {P : Program} {w : World} {K : PySem.W.Frag} {mg : Str → Option Value} {base : Heap} {X : Cx} {N : List Str} {sc : Scope} {k : Nat} {df : Bool} {E : EK} {pos p px py tp spos p2 : Pos} {a b c e : Expr} {f g : Dn → Res PyData} {x : Str} {i : Nat}
theorem okVar.pe (C : Cxt P w K mg base X N sc k df) (h : okVar N sc i x = true) : PE X (.Name x p) (tVar i) := by
  unfold okVar at h
  simp only [Bool.and_eq_true, Bool.not_eq_true'] at h
  obtain ⟨⟨⟨h1, h2⟩, h3⟩, h4⟩ := h
  refine pe_var (by rw [C.hN]; exact eq_of_beq h1) ?_ h3 h4
  rw [C.hs]
  unfold Vis
  cases q : sc.names.lookup x with
  | none => rw [q] at h2; cases h2
  | some z =>
    rw [q] at h2
    cases z with
    | «local» => exact .inl rfl
    | cell => exact .inr (.inl rfl)
    | free => exact .inr (.inr rfl)
    | _ => cases h2
theorem SR.own {G H : Hp} {σ : St} {δ : Dn} (S : SR G H σ δ) {d : PyData} (hi : δ[i]? = some (.ow d)) : ∃ q, σ[i]? = some (some (.ref q)) ∧ G q = none ∧ OwnOk G H q d := by
  obtain ⟨q, hq, hg, ok⟩ := S.sl i _ hi
  refine ⟨q, ?_, hg, ok⟩
  cases z : σ[i]? with
  | none => rw [z] at hq; cases hq
  | some z' => rw [z] at hq; cases z' with
    | none => cases hq
    | some z'' => cases hq; rfl
theorem Cxt.hu1 (C : Cxt P w K mg base X N sc k df) : X.A.units + 1 < cLine := by have := C.hu; omega
def sDict (i : Nat) : Dn → Out := fun δ => .nx (δ.set i (.ow (.dict [])))
theorem s_dict (C : Cxt P w K mg base X N sc k df) (i : Nat) (ho : okSet N sc df i x = true) (hs : swapsWith (.Dict [] [] p2) (some (.Name x p)) pos.line X.env = pure false := by rfl) : DS X E (.Assign [.Name x p] (.Dict [] [] p2) pos) (sDict i) := fun G0 H0 => by
  obtain ⟨h1, h2, h3, h4⟩ := okSet.ok C ho
  refine PS.imp (ps_set h1 h2 h3 pe_dnewT hs h4) fun D σ H ⟨G, δ, S, a⟩ q hq => ?_
  have S1 := S.grow (Grow.own (o := .dT []) S.sr.sub hq)
  exact a _ G _ (S1.set_ow (S.gr.h.free hq) (S.sr.sub.free hq) ⟨[], upd_same, rfl, rfl⟩ (fresh_slot S hq))
def sPut (i : Nat) (fk fv : Dn → Res PyData) : Dn → Out := fun δ => match δ[i]? with
  | some (.ow (.dict kvs)) => thenS (fv δ) fun v => thenS (fk δ) fun kd => match keyT kd with
    | some kk => if kvs.length < sizeLine then .nx (δ.set i (.ow (.dict (putKv kvs kk v)))) else .no
    | none => .no
  | _ => .no
theorem s_put (C : Cxt P w K mg base X N sc k df) (i : Nat) (h : okVar N sc i x = true) (hk : DE X E a f) (hv : DE X E b g) (hs : swapsWith b (some (.Subscript (.Name x p) a p2)) pos.line X.env = pure false := by rfl) : DS X E (.Assign [.Subscript (.Name x p) a p2] b pos) (sPut i f g) := fun G0 H0 => by
  refine PS.imp (ps_dput C.hu1 (okVar.pe C h) hk hv hs) fun D σ H ⟨G, δ, S, aft⟩ => ?_
  unfold sPut at aft
  split at aft
  · rename_i kvs hi
    refine aftS_D S aft fun v x1 G1 H1 g1 r1 S1 a1 => ?_
    obtain ⟨q, hσ, hg, kv, hx, hkeys, hvals⟩ := S1.sr.own hi
    refine ⟨.ref q, hσ, ?_⟩
    refine aftS_D S1 a1 fun kd x2 G2 H2 g2 r2 S2 a2 => ?_
    obtain ⟨q', hσ', hg', kv', hx', hkeys', hvals'⟩ := S2.sr.own hi
    rw [hσ] at hσ'; cases hσ'
    cases kd with
    | tuple ds =>
      cases ek : keyOf ds with
      | none => simp only [keyT, ek] at a2; exact a2.elim
      | some kk =>
        simp only [keyT, ek] at a2
        split at a2
        · rename_i hz
          obtain ⟨pk, xs, rfl, hpk, lk⟩ := r2
          obtain ⟨e1, e2⟩ := keyOf_rep lk ek
          subst e1
          have hlen : kv'.length < sizeLine := by
            have := congrArg List.length hkeys'
            rw [List.length_map, List.length_map] at this
            omega
          refine ⟨q, _, rfl, DPut.t hx' (S2.sr.sub _ _ hpk) hlen, ?_⟩
          obtain ⟨p1, p2⟩ := put_rep (kk := kk) (r1.mono g2.g) hkeys' hvals'
          exact a2 σ G2 _ (S2.write hi (by rw [hσ]; rfl) hg' ⟨_, upd_same, p1, p2⟩)
        · exact a2.elim
    | _ => exact (show False from a2).elim
  · exact aft.elim
def vInD (i : Nat) (f : Dn → Res PyData) : Dn → Res PyData := fun δ => (f δ).bind fun kd => match keyT kd, δ[i]? with
  | some kk, some (.ow (.dict kvs)) => .ok (.bool (getKv kvs kk).isSome)
  | _, _ => .no
def vGetD (i : Nat) (f : Dn → Res PyData) : Dn → Res PyData := fun δ => match δ[i]? with
  | some (.ow (.dict kvs)) => (f δ).bind fun kd => match keyT kd with
    | some kk => ofO (getKv kvs kk)
    | none => .no
  | _ => .no
theorem d_inD (C : Cxt P w K mg base X N sc k df) (i : Nat) (h : okVar N sc i x = true) (hk : DE X E a f) (hm : behindInMarks .In (.Name x p) = false := by with_unfolding_all rfl) : DE X E (.Compare a [.In] [.Name x p] pos) (vInD i f) := by
  refine PE.imp (pe_cmp (pc_din C.hu1 hk (okVar.pe C h)) hm) fun σ H Q ⟨G, δ, S, aft⟩ => ?_
  refine aft_bind S aft fun kd v G1 H1 g1 r1 S1 a1 => ?_
  cases kd with
  | tuple ds =>
    cases ek : keyOf ds with
    | none => simp only [keyT, ek] at a1; exact a1.elim
    | some kk =>
      simp only [keyT, ek] at a1
      split at a1
      · rename_i kk' kvs hkk hi
        cases hkk
        obtain ⟨q, hσ, hg, kv, hx, hkeys, hvals⟩ := S1.own hi
        obtain ⟨pk, xs, rfl, hpk, lk⟩ := r1
        obtain ⟨e1, e2⟩ := keyOf_rep lk ek
        subst e1
        refine ⟨.ref q, hσ, q, _, rfl, DGet.t hx (S1.sub _ _ hpk), ?_⟩
        have : (valV kv kk).isSome = (getKv kvs kk).isSome := by
          rcases get_rep (kk := kk) hkeys hvals with ⟨n1, n2⟩ | ⟨d0, v0, n1, n2, _⟩ <;> rw [n1, n2] <;> rfl
        rw [this]
        exact a1 _ G1 H1 (Grow.refl S1.sub) rfl
      · exact a1.elim
  | _ => exact (show False from a1).elim
theorem d_getD (C : Cxt P w K mg base X N sc k df) (i : Nat) (h : okVar N sc i x = true) (hk : DE X E a f) (hs : NoSl a := by exact fun _ _ => rfl) : DE X E (.Subscript (.Name x p) a pos) (vGetD i f) := by
  refine PE.imp (pe_dget C.hu1 (okVar.pe C h) hk hs) fun σ H Q ⟨G, δ, S, aft⟩ => ?_
  unfold vGetD at aft
  split at aft
  · rename_i kvs hi
    obtain ⟨q, hσ, hg, kv, hx, hkeys, hvals⟩ := S.own hi
    refine ⟨.ref q, hσ, ?_⟩
    refine aft_bind S aft fun kd v G1 H1 g1 r1 S1 a1 => ?_
    cases kd with
    | tuple ds =>
      cases ek : keyOf ds with
      | none => simp only [keyT, ek] at a1; exact a1.elim
      | some kk =>
        simp only [keyT, ek] at a1
        obtain ⟨pk, xs, rfl, hpk, lk⟩ := r1
        obtain ⟨e1, e2⟩ := keyOf_rep lk ek
        subst e1
        rcases get_rep (kk := kk) hkeys hvals with ⟨n1, n2⟩ | ⟨d0, v0, n1, n2, rd⟩
        · rw [n1] at a1; exact a1.elim
        · rw [n1] at a1
          exact ⟨q, v0, rfl, by have := DGet.t (k := kk) (g1.h _ _ hx) (S1.sub _ _ hpk); rw [n2] at this; exact this, a1 _ G1 H1 (Grow.refl S1.sub) (rd.mono g1.g)⟩
    | _ => exact (show False from a1).elim
  · exact aft.elim
def startD (N : List Str) (ds : List PyData) : Dn := ds.map .sh ++ List.replicate (N.length - ds.length) .un
def fnD (N : List Str) (g : Dn → Out) : List PyData → Res PyData := fun ds => match g (startD N ds) with
  | .rt d => .ok d
  | .nx _ => .ok .none
  | .exc c => .exc c
  | _ => .no
theorem start_SR {G H : Hp} (hG : Same G H) {ds : List PyData} {vs : List V} (r : RepL G ds vs) (N : List Str) : SSt G H G H (start N vs) (startD N ds) := by
  have hl := r.length
  have noow : ∀ (i : Nat) (d : PyData), (startD N ds)[i]? ≠ some (.ow d) := fun i d e => by
    unfold startD at e
    by_cases hi : i < ds.length
    · rw [List.getElem?_append_left (by simpa using hi), List.getElem?_map] at e
      cases q : ds[i]? with
      | none => rw [q] at e; cases e
      | some z => rw [q] at e; cases e
    · rw [List.getElem?_append_right (by simpa using Nat.not_lt.mp hi), List.getElem?_replicate] at e
      split at e <;> cases e
  refine ⟨Grow.refl hG, ⟨hG, by unfold L2.start startD; simp [hl], fun i s e => ?_, fun i j a d d' e _ _ _ => absurd e (noow i d)⟩, fun i d a e _ => absurd e (noow i d)⟩
  unfold startD at e
  by_cases hi : i < ds.length
  · rw [List.getElem?_append_left (by simpa using hi), List.getElem?_map] at e
    cases q : ds[i]? with
    | none => rw [q] at e; cases e
    | some z =>
      rw [q] at e; cases e
      obtain ⟨v, e1, rv⟩ := r.get q
      unfold L2.start
      rw [List.getElem?_append_left (by rw [List.length_map, ← hl]; exact hi), List.getElem?_map, e1]
      exact ⟨v, rfl, rv⟩
  · rw [List.getElem?_append_right (by simpa using Nat.not_lt.mp hi), List.getElem?_replicate] at e
    split at e <;> cases e
    trivial
structure Def (K : PySem.W.Frag) (mg : Str → Option Value) (x : Str) (st : Stmt) (ps : List Str) : Prop where
  ex : ∃ f fd, L2.Fun K x x st f fd ∧ mg x = some (.ref f) ∧ Binds K fd ps []
theorem fnok_D {x : Str} {st : Stmt} {ps : List Str} {n : Nat} {go : Dn → Out} {m : List PyData → Res PyData} {f : Addr} {fd : FuncData} (F : L2.Fun K x x st f fd) (S : FnScope N ps (defScope st)) (hn : ps.length = n)
    (body : ∀ X, Cxt P w K mg base X N (defScope st) k true → DSs X E0k (defBody st) go) (hm : m = fnD N go) : FnOk P w K mg base CX0 (k + 1) f fd ps (spD n m) := by
  subst hm
  refine F.ok S (fun vs H Q E h => ?_) (fun cdv A outer s H vs Q E hr h => ?_)
  · obtain ⟨G, ds, d, _, r, hl, _⟩ := h
    rw [← r.length, hl, hn]
  · obtain ⟨G, ds, d, hG, r, hl, em, q⟩ := h
    refine ⟨_, body _ ⟨rfl, rfl, rfl, rfl, rfl, rfl, rfl, rfl, hr, fun _ _ => rfl, PassesOwn.never⟩ G H, G, _, start_SR hG r N, ?_⟩
    unfold fnD at em
    cases eg : go (startD N ds) with
    | rt d' => rw [eg] at em; cases em; exact fun v G' H' g r' => q v G' H' g r'
    | nx δ => rw [eg] at em; cases em; exact fun σ G' H' S' => q _ G' H' S'.gr rfl
    | bk _ => rw [eg] at em; cases em
    | ct _ => rw [eg] at em; cases em
    | exc _ => rw [eg] at em; cases em
    | no => rw [eg] at em; cases em
theorem fn_D {x : Str} {st : Stmt} {ps : List Str} {n : Nat} {go : Dn → Out} {m : List PyData → Res PyData} (F : Def K mg x st ps) (S : FnScope N ps (defScope st)) (hn : ps.length = n)
    (body : ∀ X, Cxt P w K mg base X N (defScope st) k true → DSs X E0k (defBody st) go) (hm : m = fnD N go) : Fn P w K mg base x (k + 1) n m := by
  obtain ⟨f, fd, F, hmg, hb⟩ := F.ex
  exact ⟨f, fd, ps, hn, fnok_D F S hn body hm, hmg, F.kp, hb⟩
theorem fn_no {x : Str} {st : Stmt} {ps : List Str} {n : Nat} (F : Def K mg x st ps) (hn : ps.length = n) : Fn P w K mg base x k n (fun _ => .no) := by
  obtain ⟨f, fd, F, hmg, hb⟩ := F.ex
  refine ⟨f, fd, ps, hn, ⟨fun vs H Q E h => ?_, fun A outer s H args us vs Q E _ _ _ _ h => ?_⟩, hmg, F.kp, hb⟩
  · obtain ⟨G, ds, d, _, _, _, e, _⟩ := h; cases e
  · obtain ⟨G, ds, d, _, _, _, e, _⟩ := h; cases e
end
end Sm
end
section
set_option Elab.async false
set_option linter.all false
set_option maxRecDepth 100000
set_option maxHeartbeats 4000000
set_option autoImplicit false
namespace Sm
open PySem PySem.Spec PyProof.Rows L2
theorem ObjOk.here {P : Program} {w : World} {H : Hp} {h : Heap} {a : Addr} {o : HO} (x : ObjOk P w H h a o) : ∃ ob, h.get? a = some ob := by
  cases o with
  | lst xs => obtain ⟨_, _, _, _, e⟩ := x; exact ⟨_, e⟩
  | tup xs => obtain ⟨_, _, _, ob, e, _⟩ := x; exact ⟨_, e⟩
  | dK kvs => obtain ⟨_, _, _, _, o, _, _, e, _⟩ := x; exact ⟨_, e⟩
  | dT kvs => obtain ⟨_, _, _, _, o, _, _, e, _⟩ := x; exact ⟨_, e⟩
  | set S n => obtain ⟨o, _, _, _, e, _⟩ := x; exact ⟨_, e⟩
  | ins C dx fs => obtain ⟨_, _, _, e, _⟩ := x; exact ⟨_, e⟩
  | own y => obtain ⟨_, e⟩ := x; exact ⟨_, e⟩
  | xd fs => obtain ⟨_, ⟨_, _, _, e, _⟩, _⟩ := x; exact ⟨_, e⟩
  | rng lo hi => obtain ⟨_, _, _, e⟩ := x; exact ⟨_, e⟩
  | frz ob u => obtain ⟨e, _⟩ := x; exact ⟨_, e⟩
  | tbl ps => exact ⟨_, (show h.get? a = some _ from x)⟩
  | met f y => exact ⟨_, (show h.get? a = some _ from x)⟩
  | ext φ => obtain ⟨_, e, _⟩ := x; exact e
theorem HOk.gone {P : Program} {w : World} {H : Hp} {h : Heap} {a : Addr} (x : HOk P w H h) (e : h.get? a = none) : H a = none := by
  cases q : H a with
  | none => rfl
  | some o => obtain ⟨ob, z⟩ := ObjOk.here (x a o q); rw [e] at z; cases z
def Made (h : Heap) (H : Hp) (h0 : Heap) (a : Addr) (c : Value) : Prop :=
  ∃ oe vs a0, h.get? a = some oe ∧ oe.cls = c ∧ oe.data = .fields vs ∧ vs[0]? = some a0 ∧ h0.get? a = none ∧ H a = none ∧ vs[1]? = some .none
def Fly (h : Heap) (H : Hp) (h0 : Heap) (a : Addr) (c : Value) : Prop :=
  ∃ oe vs a0 T oT ts, h.get? a = some oe ∧ oe.cls = c ∧ oe.data = .fields vs ∧ vs[0]? = some a0 ∧ h0.get? a = none ∧ H a = none ∧ vs[1]? = some (.ref T) ∧ T ≠ a ∧ h.get? T = some oT ∧ oT.data = .fields ts ∧ ts[3]? = some .none ∧ h0.get? T = none ∧ H T = none
theorem Made.back {h h0 h1 : Heap} {H : Hp} {a : Addr} {c : Value} (m : Made h H h1 a c) (k : ∀ b o, h0.get? b = some o → ∃ o', h1.get? b = some o') : Made h H h0 a c := by
  obtain ⟨oe, vs, a0, e1, e2, e3, e4, e5, e6, e7⟩ := m
  refine ⟨oe, vs, a0, e1, e2, e3, e4, ?_, e6, e7⟩
  cases q : h0.get? a with
  | none => rfl
  | some o => obtain ⟨o', z⟩ := k _ _ q; rw [e5] at z; cases z
theorem Fly.back {h h0 h1 : Heap} {H : Hp} {a : Addr} {c : Value} (m : Fly h H h1 a c) (k : ∀ b o, h0.get? b = some o → ∃ o', h1.get? b = some o') : Fly h H h0 a c := by
  obtain ⟨oe, vs, a0, T, oT, ts, e1, e2, e3, e4, e5, e6, e7, e8, e9, e10, e11, e12, e13⟩ := m
  have nn : ∀ b, h1.get? b = none → h0.get? b = none := fun b z => by
    cases q : h0.get? b with
    | none => rfl
    | some o => obtain ⟨o', z'⟩ := k _ _ q; rw [z] at z'; cases z'
  exact ⟨oe, vs, a0, T, oT, ts, e1, e2, e3, e4, nn _ e5, e6, e7, e8, e9, e10, e11, nn _ e12, e13⟩
structure Flown (P : Program) (w : World) (fs : List Addr) (H0 : Hp) (h0 : Heap) (H' : Hp) (h : Heap) (a : Addr) (c : Value) : Prop where
  un : Un fs [] H0 H' h0 h
  hok : HOk P w H' h
  fly : Fly h H' h0 a c
theorem funFrames_hide {h base bs : Heap} : ∀ {l : List Env}, h.FunFrames base l → (∀ b ∈ frs l, bs.get? b = none) → h.FunFrames bs l
  | [], _, _ => trivial
  | env :: r, ⟨hk, ⟨L, o, hf, hn, ho, hd⟩, hr⟩, k => by
    refine ⟨hk, ⟨L, o, hf, k L (by unfold frs; rw [List.filterMap_cons, hf]; exact List.mem_cons_self), ho, hd⟩, funFrames_hide hr fun b hb => k b ?_⟩
    unfold frs at hb ⊢
    rw [List.filterMap_cons, hf]
    exact List.mem_cons_of_mem _ hb
theorem flown_step {P : Program} {w : World} {fs : List Addr} {H0 H' : Hp} {h0 h h2 base bs : Heap} {l l2 : List Env} {hid : List Addr} {a : Addr} {c a0 : Value} (un : Un fs [] H0 H' h0 h) (hok : HOk P w H' h) (ha : h0.get? a = none) (hHa : H' a = none)
    (hl : h.FunFrames base l) (hfree : ∀ b ∈ frs l, H' b = none) (hfs : ∀ b ∈ frs l, b ∈ fs ∨ h0.get? b = none) (hl2 : ∀ b ∈ frs l, b ∈ frs l2 ∨ h0.get? b = none)
    (hbs : bs = PySem.W.hideAll h (hid ++ frs l)) (hhid : ∀ b ∈ hid, h0.get? b = none ∧ H' b = none)
    (st : bs.StaysIn h2) (ff : h2.FunFrames bs l2) (tr : h2.TracedW bs a c a0) (up : h.UpToSlots h2) : Flown P w fs H0 h0 H' h2 a c := by
  have inb : ∀ b o, h.get? b = some o → b ∉ hid → b ∉ frs l → h2.get? b = some o := fun b o e n1 n2 => st b o (by
    rw [hbs]; exact PySem.W.hideAll_get _ e fun z => (List.mem_append.mp z).elim n1 n2)
  have nhid : ∀ b o, h0.get? b = some o → b ∉ hid := fun b o e z => by rw [(hhid b z).1] at e; cases e
  have thid : ∀ b o, H' b = some o → b ∉ hid := fun b o e z => by rw [(hhid b z).2] at e; cases e
  have tfr : ∀ b o, H' b = some o → b ∉ frs l := fun b o e z => by rw [hfree b z] at e; cases e
  have slt : ∀ b o, h.get? b = some o → b ∈ frs l → ∃ sl, h2.get? b = some { o with slots := sl } := fun b o e hb => by
    obtain ⟨_, o', ho', hd⟩ := hl.mem hb
    rw [e] at ho'; cases ho'
    exact up b o e hd
  refine ⟨⟨fun b o e n hb _ => ?_, fun b o e n hb _ => ?_, un.free, fun b o e _ => ?_, un.tups, un.frzs, un.tbls⟩, fun b u e => ?_, ?_⟩
  · refine inb b o (un.keep b o e n hb (by simp)) (nhid b o e) fun z => ?_
    rcases hfs b z with q | q
    · exact hb q
    · rw [q] at e; cases e
  · obtain ⟨sl, e1⟩ := un.slot b o e n hb (by simp)
    by_cases hf : b ∈ frs l
    · obtain ⟨sl2, e2⟩ := slt b _ e1 hf
      exact ⟨sl2, e2⟩
    · exact ⟨sl, inb b _ e1 (nhid b o e) hf⟩
  · obtain ⟨o', e1⟩ := un.there b o e (by simp)
    by_cases hf : b ∈ frs l
    · obtain ⟨sl2, e2⟩ := slt b _ e1 hf
      exact ⟨_, e2⟩
    · exact ⟨_, inb b _ e1 (nhid b o e) hf⟩
  · refine (hok b u e).stay (fun c' v hc q => ?_) (fun _ q => q) fun _ _ q => q
    have ht : ∃ o, H' c' = some o := by
      rcases hc with z | z
      · rw [z]; exact ⟨_, e⟩
      · exact ⟨_, z⟩
    obtain ⟨o, ht⟩ := ht
    exact inb c' v q (thid c' o ht) (tfr c' o ht)
  · obtain ⟨oe, vs, T, oT, ts, he, ⟨hcls, h0'⟩, hd, h1, hnT, hTe, hT, hdT, h3⟩ := tr
    have nin : ∀ o, h.get? T = some o → T ∈ hid ∨ T ∈ frs l := fun o e => by
      by_cases z : T ∈ hid ++ frs l
      · exact List.mem_append.mp z
      · rw [hbs, PySem.W.hideAll_get _ e z] at hnT; cases hnT
    have hT0 : h0.get? T = none := by
      cases q : h0.get? T with
      | none => rfl
      | some o =>
        obtain ⟨o', e1⟩ := un.there T o q (by simp)
        rcases nin o' e1 with z | z
        · rw [(hhid T z).1] at q; cases q
        · rcases hl2 T z with z' | z'
          · obtain ⟨_, o2, ho2, hd2⟩ := ff.mem z'
            rw [hT] at ho2; cases ho2
            exact absurd hdT (hd2 _)
          · rw [z'] at q; cases q
    have hTH : H' T = none := by
      cases q : H' T with
      | none => rfl
      | some o =>
        obtain ⟨ob, e1⟩ := ObjOk.here (hok T o q)
        rcases nin ob e1 with z | z
        · rw [(hhid T z).2] at q; cases q
        · rw [hfree T z] at q; cases q
    exact ⟨oe, vs, a0, T, oT, ts, he, hcls, hd, h0', ha, hHa, h1, hTe, hT, hdT, h3, hT0, hTH⟩
section
variable {P : Program} {w : World} {M : Model} {A : Around} {E : Value → Shared → Prop} {s : Shared} {env : Env} {outer : List Env} {L a : Addr} {c : Value} {fs : List Addr} {H0 H' : Hp} {h0 base : Heap} {Q : Unit → Shared → Prop}
theorem flown_hides {h : Heap} {l : List Env} (hl : h.FunFrames base l) {hid : List Addr} : h.FunFrames (PySem.W.hideAll h (hid ++ frs l)) l :=
  funFrames_hide hl fun b hb => PySem.W.hideAll_none _ (List.mem_append_right _ hb)
theorem leave_made (hfr : A.frames = some (env :: outer)) (hl : s.heap.FunFrames base (env :: outer)) (hf : env.frame = some L) (un : Un fs [] H0 H' h0 s.heap) (hok : HOk P w H' s.heap) (m : Made s.heap H' h0 a c)
    (hfree : ∀ b ∈ frs (env :: outer), H' b = none) (hfs : ∀ b ∈ frs (env :: outer), b ∈ fs ∨ h0.get? b = none)
    (h : ∀ h', Flown P w fs H0 h0 H' h' a c → Q () { s with heap := h' }) : wpAny M A (leaving env (.ref a)) Q E s := by
  obtain ⟨oe, vs, a0, e1, e2, e3, e4, e5, e6, e7⟩ := m
  subst e2
  refine wpAny_leaving_firstW (base := PySem.W.hideAll s.heap ([a] ++ frs (env :: outer))) hfr (flown_hides hl) hf e1 (fun b o z => PySem.W.of_hideAll _ z) (PySem.W.hideAll_none _ (by simp)) e3 e7 e4 fun h' ⟨k1, k2, k3, k4⟩ => h h' ?_
  exact flown_step un hok e5 e6 hl hfree hfs (fun b hb => .inl hb) rfl (fun b hb => by rw [List.mem_singleton.mp hb]; exact ⟨e5, e6⟩) k1 k2 k3 k4
theorem fly_flying {h : Heap} {l : List Env} (hl : h.FunFrames base l) (m : Fly h H' h0 a c) : ∃ T a0, Heap.FlyingW (PySem.W.hideAll h ([a, T] ++ frs l)) l a c a0 h ∧ ∀ b ∈ [a, T], h0.get? b = none ∧ H' b = none := by
  obtain ⟨oe, vs, a0, T, oT, ts, e1, e2, e3, e4, e5, e6, e7, e8, e9, e10, e11, e12, e13⟩ := m
  refine ⟨T, a0, ⟨fun b o z => PySem.W.of_hideAll _ z, PySem.W.hideAll_none _ (by simp), flown_hides hl, oe, vs, T, oT, ts, e1, ⟨e2, e4⟩, e3, e7, PySem.W.hideAll_none _ (by simp), e8, e9, e10, e11⟩, fun b hb => ?_⟩
  rcases List.mem_cons.mp hb with z | z
  · rw [z]; exact ⟨e5, e6⟩
  · rw [List.mem_singleton.mp z]; exact ⟨e12, e13⟩
theorem Fly.none {h : Heap} (m : Fly h H' h0 a c) : h0.get? a = none ∧ H' a = none := by
  obtain ⟨oe, vs, a0, T, oT, ts, e1, e2, e3, e4, e5, e6, _⟩ := m
  exact ⟨e5, e6⟩
theorem leave_fly (hfr : A.frames = some (env :: outer)) (hl : s.heap.FunFrames base (env :: outer)) (hf : env.frame = some L) (F : Flown P w fs H0 h0 H' s.heap a c)
    (hfree : ∀ b ∈ frs (env :: outer), H' b = none) (hfs : ∀ b ∈ frs (env :: outer), b ∈ fs ∨ h0.get? b = none) (hL : h0.get? L = none)
    (h : ∀ h', Flown P w fs H0 h0 H' h' a c → Q () { s with heap := h' }) : wpAny M A (leaving env (.ref a)) Q E s := by
  obtain ⟨T, a0, FW, hh⟩ := fly_flying hl F.fly
  refine wpAny_leaves_onW hfr hf FW fun h' ⟨k1, _, k2, k3⟩ k4 => h h' ?_
  refine flown_step F.un F.hok F.fly.none.1 F.fly.none.2 hl hfree hfs (l2 := outer) (fun b hb => ?_) rfl hh k1 k2 k3 k4
  unfold frs at hb
  rw [List.filterMap_cons, hf] at hb
  rcases List.mem_cons.mp hb with z | z
  · rw [z]; exact .inr hL
  · exact .inl z
theorem catch_fly (hfr : A.frames = some (env :: outer)) (hl : s.heap.FunFrames base (env :: outer)) (hf : env.frame = some L) (F : Flown P w fs H0 h0 H' s.heap a c)
    (hfree : ∀ b ∈ frs (env :: outer), H' b = none) (hfs : ∀ b ∈ frs (env :: outer), b ∈ fs ∨ h0.get? b = none)
    (h : ∀ h', Flown P w fs H0 h0 H' h' a c → h'.FunFrames base (env :: outer) → Q () { s with heap := h' }) : wpAny M A (noteFrame (.ref a) env) (fun _ s2 => wpAny M A (setFlight (.ref a) none) Q E s2) E s := by
  obtain ⟨T, a0, FW, hh⟩ := fly_flying hl F.fly
  refine wpAny_looks_onW hfr hf FW fun h2 hH up2 => ?_
  refine wpAny_landsW hH fun h3 ⟨k1, _, k2, k3⟩ up3 => h h3 ?_ ?_
  · exact flown_step F.un F.hok F.fly.none.1 F.fly.none.2 hl hfree hfs (l2 := env :: outer) (fun b hb => .inl hb) rfl hh k1 k2 k3 (up2.trans up3)
  · refine hl.of_keeps fun b o e hd => ?_
    obtain ⟨sl, e2⟩ := (up2.trans up3) b o e hd
    exact ⟨_, e2, rfl⟩
theorem land_fly {l : List Env} (hl : s.heap.FunFrames base l) (F : Flown P w fs H0 h0 H' s.heap a c) (hfree : ∀ b ∈ frs l, H' b = none) (hfs : ∀ b ∈ frs l, b ∈ fs ∨ h0.get? b = none)
    (h : ∀ h', Flown P w fs H0 h0 H' h' a c → Q () { s with heap := h' }) : wpAny M A (setFlight (.ref a) none) Q E s := by
  obtain ⟨T, a0, FW, hh⟩ := fly_flying hl F.fly
  refine lands_againW FW fun h3 ⟨k1, _, k2, k3⟩ up3 => h h3 ?_
  exact flown_step F.un F.hok F.fly.none.1 F.fly.none.2 hl hfree hfs (l2 := l) (fun b hb => .inl hb) rfl hh k1 k2 k3 up3
end
def CXe (P : Program) (w : World) : CXT := fun outer H s E e s' => ∃ a c H', e = .ref a ∧ s'.os = s.os ∧ AllBare s'.gens ∧ Flown P w (frs outer) H s.heap H' s'.heap a c ∧ E c none H'
def Lv (X : Cx) (E : XK) : Prop := ∀ (pins : List (Addr × Obj)) (σ : St) (H : Hp) (s : Shared) (a : Addr) (c : Value), Inv X pins σ H s → (Made s.heap H X.s₀.heap a c ∨ Fly s.heap H X.s₀.heap a c) → E c none H → X.xe (.ref a) s
theorem lv_of {P : Program} {w : World} {K : PySem.W.Frag} {mg : Str → Option Value} {base : Heap} {N : List Str} {qual : Str} {scope : Scope} {f : Addr} {cd : Value} {A : Around} {outer : List Env} {s : Shared} {H : Hp} {E : XK} :
    Lv (cxOf (CXe P w) P w K mg base N qual scope f cd A outer s H E) E := fun pins σ H' s' a c I m hE => by
  have hL : (envOfC qual scope s.heap.objs.size f cd).frame = some s.heap.objs.size := rfl
  have hfs : ∀ b ∈ frs (envOfC qual scope s.heap.objs.size f cd :: outer), b ∈ frs outer ∨ s.heap.get? b = none := fun b hb => by
    unfold frs at hb
    rw [List.filterMap_cons, hL] at hb
    rcases List.mem_cons.mp hb with z | z
    · rw [z]; exact .inr (Heap.get?_none_of_le (Nat.le_refl _))
    · exact .inl z
  have fin : ∀ h2, Flown P w (frs outer) H s.heap H' h2 a c → CXe P w outer H s E (.ref a) { s' with heap := h2 } := fun h2 F => ⟨a, c, H', rfl, I.os, I.bare, F, hE⟩
  rcases m with m | m
  · exact leave_made I.ok.frames I.stack hL I.base I.hok m I.stkFree hfs fin
  · exact leave_fly I.ok.frames I.stack hL ⟨I.base, I.hok, m⟩ I.stkFree hfs (Heap.get?_none_of_le (Nat.le_refl _)) fin
theorem Lv.passes {X : Cx} {E : XK} (L : Lv X E) (hex : X.ex = []) : Passes (CXe X.prog X.w) X E := fun pins σ H s e s' I ⟨a, c, H', e1, e2, e3, F, hE⟩ => by
  subst e1
  have I' : Inv X pins σ H' s' := I.call' (ch := []) e2 F.un F.hok e3 (fun b z => absurd z (by simp))
  refine L pins σ H' s' a c I' (.inr (F.fly.back fun b o z => ?_)) hE
  exact I.base.there b o z (by rw [hex]; simp)
end Sm
end
section
set_option Elab.async false
set_option linter.all false
set_option maxRecDepth 100000
set_option maxHeartbeats 4000000
set_option autoImplicit false
namespace Sm
open PySem PySem.Spec PyProof.Rows L2
def spX (n : Nat) (m : List PyData → Res PyData) (CN : Addr) : Sp := fun vs H Q E => ∃ G ds, Same G H ∧ RepL G ds vs ∧ ds.length = n ∧ match m ds with
  | .ok d => ∀ v G' H', Grow G H G' H' → Rep G' d v → Q v H'
  | .exc _ => ∀ G' H', Grow G H G' H' → E (.ref CN) none H'
  | .no => False
structure FnX (P : Program) (w : World) (K : PySem.W.Frag) (mg : Str → Option Value) (base : Heap) (CN : Addr) (x : Str) (k n : Nat) (m : List PyData → Res PyData) : Prop where
  ex : ∃ f fd ps, ps.length = n ∧ FnOk P w K mg base (CXe P w) k f fd ps (spX n m CN) ∧ mg x = some (.ref f) ∧ PySem.W.keepIn K (.ref f) = true ∧ Binds K fd ps []
def eX (CN : Addr) (E : XK) : EK := fun _ H => E (.ref CN) none H
section
variable {P : Program} {w : World} {K : PySem.W.Frag} {mg : Str → Option Value} {base : Heap} {X : Cx} {N : List Str} {sc : Scope} {k : Nat} {df : Bool} {E : EK} {pos p px py tp spos p2 : Pos} {a b c e : Expr} {es : List Expr} {f g : Dn → Res PyData} {fs : Dn → Res (List PyData)} {x : Str} {i : Nat} {CN : Addr} {Ex : XK}
theorem fnX_D {x : Str} {st : Stmt} {ps : List Str} {n : Nat} {go : Dn → Out} {m : List PyData → Res PyData} (F : Def K mg x st ps) (S : FnScope N ps (defScope st)) (hn : ps.length = n)
    (body : ∀ X E, Cxt P w K mg base X N (defScope st) k true → Lv X E → X.ex = [] → DSs X (eX CN E) (defBody st) go) (hm : m = fnD N go) : FnX P w K mg base CN x (k + 1) n m := by
  obtain ⟨f, fd, F, hmg, hb⟩ := F.ex
  have kp := F.kp
  obtain ⟨oc, od, kV, doc, pm, an, cdv, ct, osl, rfl, lk, hcd⟩ := F.ex
  subst hm
  refine ⟨f, _, ps, hn, fn_of lk hcd S (fun vs H Q E h => ?_) (fun A outer s H vs Q E hr h => ?_), hmg, kp, hb⟩
  · obtain ⟨G, ds, _, r, hl, _⟩ := h
    rw [← r.length, hl, hn]
  · obtain ⟨G, ds, hG, r, hl, q⟩ := h
    refine ⟨_, body _ E ⟨rfl, rfl, rfl, rfl, rfl, rfl, rfl, rfl, hr, fun _ _ => rfl, PassesOwn.leaving⟩ lv_of rfl G H, G, _, start_SR hG r N, ?_⟩
    unfold fnD at q
    cases eg : go (startD N ds) with
    | rt d' => rw [eg] at q; exact fun v G' H' g r' => q v G' H' g r'
    | nx δ => rw [eg] at q; exact fun σ G' H' S' => q _ G' H' S'.gr rfl
    | exc c => rw [eg] at q; exact fun G' H' g => q G' H' g
    | bk _ => rw [eg] at q; exact (show False from q).elim
    | ct _ => rw [eg] at q; exact (show False from q).elim
    | no => rw [eg] at q; exact (show False from q).elim
theorem d_callX {j n : Nat} {m : List PyData → Res PyData} (C : Cxt P w K mg base X N sc k df) (L : Lv X Ex) (hex : X.ex = []) (F : FnX P w K mg base CN x j n m) (hj : j ≤ k) (h : okGl sc x = true) (ha : DA X (eX CN Ex) (e :: es) n fs)
    (he : starEach (e :: es) X.env = (false, eval e X.env) :: starEach es X.env := by rfl) (hpl : (backTo pos (starEach es X.env)).any (·.1) = false := by rfl) : DE X (eX CN Ex) (.Call (.Name x p) (e :: es) [] pos) (vCall fs m) := by
  obtain ⟨f, fd, ps, hps, F, hm, hk, hb⟩ := F.ex
  obtain ⟨h1, h2, h3⟩ := okGl.gl C h
  have F' : FnOk X.prog X.w X.K X.mg X.base (CXe X.prog X.w) j f fd ps (spX n m CN) := by rw [C.hP, C.hw, C.hK, C.hmg, C.hb]; exact F
  refine PE.imp (pe_call F' (C.room.mono hj) h1 (by rw [C.hmg]; exact hm) (by rw [C.hK]; exact hk) (by rw [C.hK]; exact hb) .nil (L.passes hex) ha.pa h2 he hpl) fun σ H Q ⟨G, δ, S, aft⟩ => ?_
  refine aftA_any (W := fun G H r => Aft (eX CN Ex) G H r Q) S aft (fun g a => Aft.grow g a) (fun c a => a) (fun a => a) fun ds vs G1 H1 e g1 r1 S1 a1 => ?_
  rw [List.append_nil]
  refine ⟨G1, ds, S1.sub, r1, ha.len δ ds e, ?_⟩
  cases q : m ds with
  | ok d => rw [q] at a1; exact a1
  | exc c => rw [q] at a1; exact a1
  | no => rw [q] at a1; exact a1
def noX (r : Res PyData) : Res PyData := match r with
  | .ok d => .ok d
  | _ => .no
def vCall0 (fs : Dn → Res (List PyData)) (m : List PyData → Res PyData) : Dn → Res PyData := fun δ => (fs δ).bind fun ds => noX (m ds)
theorem d_call0 {j n : Nat} {m : List PyData → Res PyData} (C : Cxt P w K mg base X N sc k df) (F : Fn P w K mg base x j n m) (hj : j ≤ k) (h : okGl sc x = true) (ha : DA X E (e :: es) n fs)
    (he : starEach (e :: es) X.env = (false, eval e X.env) :: starEach es X.env := by rfl) (hpl : (backTo pos (starEach es X.env)).any (·.1) = false := by rfl) : DE X E (.Call (.Name x p) (e :: es) [] pos) (vCall0 fs m) := by
  obtain ⟨f, fd, ps, hps, F, hm, hk, hb⟩ := F.ex
  obtain ⟨h1, h2, h3⟩ := okGl.gl C h
  have F' : FnOk X.prog X.w X.K X.mg X.base CX0 j f fd ps (spD n m) := by rw [C.hP, C.hw, C.hK, C.hmg, C.hb]; exact F
  refine PE.imp (pe_call F' (C.room.mono hj) h1 (by rw [C.hmg]; exact hm) (by rw [C.hK]; exact hk) (by rw [C.hK]; exact hb) .nil (pass0 (X := X)) ha.pa h2 he hpl) fun σ H Q ⟨G, δ, S, aft⟩ => ?_
  refine aftA_any (W := fun G H r => Aft E G H r Q) S aft (fun g a => Aft.grow g a) (fun c a => a) (fun a => a) fun ds vs G1 H1 e g1 r1 S1 a1 => ?_
  rw [List.append_nil]
  cases q : m ds with
  | ok d => rw [q] at a1; exact ⟨G1, ds, d, S1.sub, r1, ha.len δ ds e, q, a1⟩
  | exc c => rw [q] at a1; exact (show False from a1).elim
  | no => rw [q] at a1; exact (show False from a1).elim
def sExp (f : Dn → Res PyData) : Dn → Out := fun δ => thenS (f δ) fun _ => .nx δ
theorem s_expr (h : DE X E e f) (hs : swapsWith e none pos.line X.env = pure false := by rfl) : DS X E (.Expr e pos) (sExp f) := fun G0 H0 => PS.imp (ps_expr h hs) fun D σ H ⟨G, δ, S, a⟩ =>
  aftS_D S a fun d v G1 H1 g1 r1 S1 a1 => a1 σ G1 H1 S1
def isTrueD : PyData → Bool
  | .bool true => true
  | _ => false
theorem RelV.true_iff {x : V} {v : Value} (r : RelV x v) : (v == Value.bool true) = decide (x = .bl true) := by
  cases x with
  | bl b => cases (show v = Value.bool b from r); cases b <;> rfl
  | non => cases (show v = Value.none from r); rfl
  | int i => obtain ⟨t, rfl⟩ := (show ∃ t, v = Value.int i t from r); rfl
  | str y => obtain ⟨t, rfl⟩ := (show ∃ t, v = Value.str y t from r); rfl
  | byt y => obtain ⟨t, rfl⟩ := (show ∃ t, v = Value.bytes y t from r); rfl
  | flt y => obtain ⟨t, rfl⟩ := (show ∃ t, v = Value.float y t from r); rfl
  | ref q => cases (show v = Value.ref q from r); rfl
  | ty q => cases (show v = Value.type q from r); rfl
theorem Rep.isTrue {G : Hp} {d : PyData} {v : V} (r : Rep G d v) : decide (v = .bl true) = isTrueD d := by
  cases d with
  | none => cases (show _ = _ from r); rfl
  | bool b => cases (show _ = _ from r); cases b <;> rfl
  | int _ => cases (show _ = _ from r); rfl
  | str _ => cases r.1; rfl
  | list _ => obtain ⟨a, xs, rfl, _⟩ := r; rfl
  | tuple _ => obtain ⟨a, xs, rfl, _⟩ := r; rfl
  | dict _ => exact (show False from r).elim
def okShow (d : PyData) : Bool := isDisplay d && d.showable && !d.hasDict && decide (d.shown.length ≤ 1000) && decide (d.depth ≤ 8)
def sRaise (f : Dn → Res PyData) : Dn → Out := fun δ => thenS (f δ) fun d => if okShow d = true then .exc "NoDeed" else .no
structure ExcAt (K : PySem.W.Frag) (mg : Str → Option Value) (x : Str) (C : Addr) : Prop where
  bound : mg x = some (.ref C)
  obj : PySem.W.excIn K C [.type "ValueError", .type "Exception", .type "BaseException", .type "object"] "ValueError.__new__" = true
theorem ExcAt.own {x : Str} {C : Addr} (O : ExcAt K mg x C) {h : Heap} (X : K.In h) : OwnCls x C [.type "ValueError", .type "Exception", .type "BaseException", .type "object"] "ValueError.__new__" mg h := by
  refine ⟨O.bound, ?_⟩
  have q := O.obj
  unfold PySem.W.excIn at q
  split at q
  · rename_i dd cd sl ho
    split at q
    · rename_i C' bm k0 k1 k2 k3 n k5 hm hs
      simp only [Bool.and_eq_true, beq_iff_eq, Bool.not_eq_true'] at q
      obtain ⟨⟨⟨⟨⟨rfl, rfl⟩, hdel⟩, ht⟩, hok⟩, hni⟩ := q
      obtain ⟨nm, bs, mro, ns, qn, hd, sn, sub, ab, col, del⟩ := cd
      dsimp only at hm hdel hok hni
      subst hm hdel
      have hsl : sl = #[k0, k1, k2, k3, some (.builtin "ValueError.__new__"), k5] := by
        obtain ⟨l⟩ := sl
        simp only at hs
        rw [hs]
      subst hsl
      exact ⟨bm, ns, nm, qn, bs, hd, sn, sub, ab, col, dd, k0, k1, k2, k3, k5, _, X _ _ ho, .of_isNs (PySem.W.isNs_of_in X hok), PySem.W.nsMap_none_of_in X hok hni, PySem.W.tail_of_in X ht⟩
    · cases q
  · cases q
theorem fmt_r {M : Model} {A : Around} {E : Value → Shared → Prop} {s : Shared} {env : Env} {value : Expr} {pos : Pos} {Q : Value → Shared → Prop}
    (h : wpAny M A (eval value env) (fun v s₁ => wpAny M A (pyReprObj v) (fun u s₂ => wpAny M A (formatField u Str.empty) Q E s₂) E s₁) E s) : wpAny M A (eval (.FormattedValue value 114 none pos) env) Q E s := by
  show wpAny M A (do let v ← eval value env; standAt pos; formatted pos (← holding [v] (converted 114 v)) none) Q E s
  refine wpAny_bind (wpAny_mono h (fun v s₁ h₁ => ?_) fun _ _ x => x)
  refine wpAny_bind (wpAny_standAt ?_)
  show wpAny _ _ (do let v' ← holding [v] (pyReprObj v); formatField v' Str.empty) Q E s₁
  exact wpAny_bind (wpAny_holding h₁)
theorem s_raise {z : Str} {j : Nat} {np cpos p3 p4 : Pos} (C : Cxt P w K mg base X N sc k df) (L : Lv X Ex) (hex : X.ex = []) (hgd : X.A.guards = some []) (O : ExcAt K mg "NoDeed" CN) (h : okGl sc "NoDeed" = true) (ha : DE X (eX CN Ex) a f) (hz : z.length ≤ 1000 := by decide +kernel) :
    DS X (eX CN Ex) (.Raise (some (.Call (.Name "NoDeed" np) [.JoinedStr [.Constant (.str z) j p, .FormattedValue a 114 none p2] p3] [] cpos)) none pos) (sRaise f) := fun G0 H0 pins s σ H D I ⟨G, δ, S, aft⟩ => by
  obtain ⟨g1, g2, g3⟩ := okGl.gl C h
  have KX : X.K = K := C.hK
  obtain ⟨bm, Nn, nm, q, bs, hdct, sn, sub, ab, col, dd, k0, k1, k2, k3, k5, mN, hC, hN, hni, T⟩ := (O.own (h := X.base) (by rw [← KX]; exact I.mod.kin)).obj
  have FB := PySem.F.excBase_ValueError
  refine wpAny_Raise_call_subT (C := CN) (nm := nm) (q := q) (N := Nn) (bs := bs) (bm := bm) (hdct := hdct) (sn := sn) (sub := sub) (ab := ab) (col := col) (dd := dd) (k0 := k0) (k1 := k1) (k2 := k2) (k3 := k3) (k5 := k5) FB (mN := mN) (T.hasType FB.hasBase) (I.ok.hd C.calm) rfl hni (ld_glob I g1 (by rw [C.hmg]; exact O.bound) ⟨rfl, ?_⟩ g2)
  refine Calls.evalArgs_plain (Calls.spliced_cons ?_)
  rw [if_neg (by decide)]
  refine JoinedStr_many (pos := p3) (joinParts_cons (Calls.Constant_str ?_))
  have sz : (2000 : Nat) ≤ sizeLine := by decide
  have l0 : (Str.empty ++ z).length ≤ 1000 := by rw [PySem.strLen_append]; exact (show Str.empty.length + z.length ≤ 1000 from by have : Str.empty.length = 0 := rfl; omega)
  refine ⟨by omega, joinParts_cons (fmt_r ?_)⟩
  refine thn (ha pins _ σ H (fun v H1 => ∃ G1 d, Rep G1 d v ∧ SSt G0 H0 G1 H1 σ δ ∧ okShow d = true ∧ ∀ G' H', Grow G0 H0 G' H' → Ex (.ref CN) none H') (I.tok _) (aftS_D S aft fun d v G1 H1 g1 r1 S1 a1 => ?_)) fun u s1 ⟨v, H1, I1, rv, G1, d, rd, S1, ok, hE⟩ => ?_
  · split at a1
    · rename_i ok
      exact ⟨G1, d, r1, S1, ok, fun G' H' g => a1 G' H' g⟩
    · exact (show False from a1).elim
  · unfold okShow at ok
    simp only [Bool.and_eq_true, Bool.not_eq_true', decide_eq_true_eq] at ok
    obtain ⟨⟨⟨⟨o1, o2⟩, o3⟩, o4⟩, o5⟩ := ok
    obtain ⟨as, rr⟩ := rd.reads I1 S1.sr.sub rv
    obtain ⟨aa, rfl⟩ := isRef_of_reads rr o1
    refine pyReprObj_of_reads rr o2 (PyData.noDict_hsm o3) hgd (by have := C.hu; omega) (fun _ _ e => e) (fun h1 u2 tk hk => ?_) (by omega)
    refine formatField_str (fun t2 tk2 => ?_) (by omega)
    have l1 : (Str.empty ++ z ++ d.shown).length ≤ 2000 := by rw [PySem.strLen_append]; omega
    refine ⟨by omega, joinParts_nil ?_ (by omega)⟩
    have I2 : Inv X pins σ H1 { s1 with heap := h1, toks := tk2 + 1 } := I1.kept hk
    refine Calls.spliced_nil ⟨rfl, (show (1 : Nat) ≤ sizeLine by decide), I2.bk _ _ hC, hN.keeps I2.bk, T.keeps I2.bk, fun h2 e2 mk => ?_⟩
    have I3 : Inv X pins σ H1 { s1 with heap := h2, toks := tk2 + 1 } := I2.kept mk.keeps
    refine L pins σ H1 _ e2 (.ref CN) I3 (.inl ?_) (hE G1 H1 S1.gr)
    obtain ⟨t, ht, _, _⟩ := mk.there
    refine ⟨_, _, .ref t, ht, rfl, rfl, rfl, ?_, HOk.gone I2.hok mk.new, rfl⟩
    cases q : X.s₀.heap.get? e2 with
    | none => rfl
    | some o =>
      obtain ⟨o', z'⟩ := I2.base.there e2 o q (by rw [hex]; simp)
      have := mk.new
      rw [z'] at this; cases this
end
end Sm
end
section
set_option Elab.async false
set_option linter.all false
set_option maxRecDepth 100000
set_option maxHeartbeats 4000000
set_option autoImplicit false
namespace Sm
open PySem PySem.Spec PyProof.Rows L2
section
variable {P : Program} {w : World} {K : PySem.W.Frag} {mg : Str → Option Value} {base : Heap} {X : Cx} {N : List Str} {sc : Scope} {k : Nat} {df : Bool} {E : EK} {pos p px py tp spos p2 : Pos} {a b c e : Expr} {es : List Expr} {f g : Dn → Res PyData} {fs : Dn → Res (List PyData)} {x : Str} {i : Nat} {tt : Dn → Res Bool}
def cFz (i : Nat) (c : Dn → Res Bool) : Dn → Res Bool := fun δ => c (fz i δ)
theorem SR.fz {G H : Hp} {σ : St} {δ : Dn} (S : SR G H σ δ) (i : Nat) : ∃ G', SR G' H σ (fz i δ) := by
  unfold Sm.fz
  split
  · rename_i ds hi
    obtain ⟨p, hp, hg, xs, hx, r⟩ := S.sl i _ hi
    have hv : σ[i]? = some (some (.ref p)) := by
      cases q : σ[i]? with
      | none => rw [q] at hp; cases hp
      | some z => rw [q] at hp; cases z with
        | none => cases hp
        | some z => cases hp; rfl
    have key : ∀ (j : Nat) (d' : PyData), (δ.set i (.sh (.list ds)))[j]? = some (.ow d') → δ[j]? = some (.ow d') ∧ j ≠ i := fun j d' e => by
      rw [getset] at e
      split at e
      · cases e
      · rename_i hn
        refine ⟨e, fun z => ?_⟩
        subst z
        exact hn ⟨rfl, (List.getElem?_eq_some_iff.mp hi).1⟩
    have sm : Same G (upd G p (.lst xs)) := Same.upd hg
    have sub : Same (upd G p (.lst xs)) H := fun b u e => by
      by_cases hb : b = p
      · subst hb; rw [upd_same] at e; rw [hx]; exact e
      · rw [upd_ne hb] at e; exact S.sub _ _ e
    refine ⟨_, sub, by simp [S.len], fun j s e => ?_, fun j1 j2 a d1 d2 e1 e2 h1 h2 => S.ap j1 j2 a d1 d2 (key j1 d1 e1).1 (key j2 d2 e2).1 h1 h2⟩
    by_cases hj : i = j ∧ i < δ.length
    · rw [getset, if_pos hj] at e
      cases e
      rw [← hj.1, hv]
      exact ⟨_, rfl, p, xs, rfl, .inl upd_same, r.mono sm⟩
    · have e2 := e
      rw [getset, if_neg hj] at e2
      have hs := S.sl j s e2
      cases s with
      | un => trivial
      | sh d => obtain ⟨v, e1, r1⟩ := hs; exact ⟨v, e1, r1.mono sm⟩
      | ow d2 =>
        obtain ⟨a, e1, n1, ok⟩ := hs
        have hne : a ≠ p := by
          rintro rfl
          exact (key j d2 e).2 (S.ap j i a d2 _ e2 hi e1 hp)
        refine ⟨a, e1, by rw [upd_ne hne]; exact n1, ?_⟩
        cases d2 with
        | list ds => obtain ⟨xs, q, r⟩ := ok; exact ⟨xs, q, r.mono sm⟩
        | dict kvs => obtain ⟨xs, q, k, r⟩ := ok; exact ⟨xs, q, k, r.mono sm⟩
        | tuple xs => exact OwnK.keep sm (fun o q => q) ok
        | _ => exact (show False from ok).elim
  · exact ⟨G, S⟩
theorem t_thaw (i : Nat) (h : DT X E c tt) : DT X E c (cFz i tt) := PT.imp h fun σ H Q ⟨G, δ, S, a⟩ => by
  obtain ⟨G', S'⟩ := S.fz i
  refine ⟨G', _, S', ?_⟩
  unfold cFz at a
  cases e : tt (fz i δ) with
  | ok d => rw [e] at a; exact fun G2 H2 g => a G H2 ⟨Same.refl _, g.h, S.sub.trans g.h, fun _ _ z => .inl z⟩
  | exc c => rw [e] at a; exact fun G2 H2 g => a G H2 ⟨Same.refl _, g.h, S.sub.trans g.h, fun _ _ z => .inl z⟩
  | no => rw [e] at a; exact a
def dIsT : PyData → Option PyData
  | .bool true => some (.bool true)
  | _ => none
def tIsT (ta : TE) : TE := fun σ H Q => ta σ H fun x H1 => x = .bl true ∧ Q (.bl true) H1
theorem is_true {M : Model} {A : Around} {E : Value → Shared → Prop} {s : Shared} {Q : Value → Shared → Prop} (h : Q (.bool true) s) : wpAny M A (compareOp .Is (.bool true) (.bool true)) Q E s := by
  show wpAny M A (do return Value.bool (← isSame (.bool true) (.bool true))) Q E s
  unfold isSame
  simp only [beq_self_eq_true, if_true]
  exact wpAny_bind (wpAny_pure (wpAny_pure h))
theorem pc_isT {j : Nat} {pos' : Pos} {ta : TE} (ha : PE X a ta) : PC X .Is a (.Constant (.bool true) j pos') (tIsT ta) := by
  intro pins s σ H Q I h
  refine thn (ha pins s σ H _ I h) fun v s1 ⟨x, H1, I1, r1, e, q1⟩ => ?_
  subst e
  cases (show v = Value.bool true from r1)
  exact Constant_bool (is_true ⟨.bl true, H1, I1, rfl, q1⟩)
theorem d_isT {j : Nat} {p : Pos} (ha : DE X E a f) : DE X E (.Compare a [.Is] [.Constant (.bool true) j p] pos) (b1 f dIsT) := by
  refine PE.imp (pe_cmp (pc_isT ha)) fun σ H Q ⟨G, δ, S, aft⟩ => ?_
  refine aft_bind S aft fun d1 v1 G1 H1 g1 r1 S1 a1 => ?_
  unfold dIsT at a1
  split at a1
  · exact ⟨r1, a1 _ G1 H1 (Grow.refl S1.sub) rfl⟩
  · exact a1.elim
def vNotInD (i : Nat) (f : Dn → Res PyData) : Dn → Res PyData := fun δ => (f δ).bind fun kd => match keyT kd, δ[i]? with
  | some kk, some (.ow (.dict kvs)) => .ok (.bool (!(getKv kvs kk).isSome))
  | _, _ => .no
theorem t_notInD (C : Cxt P w K mg base X N sc k df) (i : Nat) (h : okVar N sc i x = true) (hk : DE X E a f) (hm : behindInMarks .NotIn (.Name x p) = false := by with_unfolding_all rfl) : DT X E (.Compare a [.NotIn] [.Name x p] pos) (cVal (vNotInD i f)) := by
  refine PT.imp (pt_cmp (pc_dnotin C.hu1 hk (okVar.pe C h)) hm) fun σ H Q ⟨G, δ, S, aft⟩ => ?_
  unfold cVal vNotInD at aft
  rw [Res.bind_assoc] at aft
  refine aftT_bind S aft fun kd v G1 H1 g1 r1 S1 a1 => ?_
  cases kd with
  | tuple ds =>
    cases ek : keyOf ds with
    | none => simp only [keyT, ek] at a1; exact (show False from a1).elim
    | some kk =>
      simp only [keyT, ek] at a1
      split at a1
      · rename_i kk' kvs hkk hi
        cases hkk
        obtain ⟨q, hσ, hg, kv, hx, hkeys, hvals⟩ := S1.own hi
        obtain ⟨pk, xs, rfl, hpk, lk⟩ := r1
        obtain ⟨e1, e2⟩ := keyOf_rep lk ek
        subst e1
        refine ⟨.ref q, hσ, q, _, rfl, DGet.t hx (S1.sub _ _ hpk), ?_⟩
        have : (valV kv kk).isSome = (getKv kvs kk).isSome := by
          rcases get_rep (kk := kk) hkeys hvals with ⟨n1, n2⟩ | ⟨d0, v0, n1, n2, _⟩ <;> rw [n1, n2] <;> rfl
        rw [this]
        exact ⟨_, rfl, a1 G1 H1 (Grow.refl S1.sub)⟩
      · exact (show False from a1).elim
  | _ => exact (show False from a1).elim
theorem d_dictSet {pins : List (Addr × Obj)} {σ : St} {H : Hp} {s : Shared} {A : Around} {E : Value → Shared → Prop} {d b : Addr} {kvs : List (List Key × V)} {kk : List Key} {v : V} {r : Value} {Q : Unit → Shared → Prop} (hu : A.units < cLine) (I : Inv X pins σ H s) (e : H d = some (.dT kvs)) (eb : H b = some (.tup (kk.map kV))) (l : kvs.length < sizeLine) (rv : RelV v r)
    (h : ∀ s', Inv X pins σ (upd H d (.dT (putK kvs kk v))) s' → Heap.SameBut d s.heap s'.heap → Q () s') : wpAny (model X.prog X.w) A (dictSet d (.ref b) r) Q E s := by
  obtain ⟨z, hd, xs, rel, dd⟩ := dt_of I.hok e
  have hz : xs.length ≤ sizeLine := by rw [← Paired.length rel]; exact z
  have hl : (putK kvs kk v).length ≤ sizeLine := by have := length_putK kvs kk v; omega
  refine wpAny_dictSet_heap (hsz := hz) hu (key_of I.hok eb) dd fun h' dd' hs => h _ ?_ hs
  obtain ⟨q, es, ep, hq, h2, h3, h4, _, h5⟩ := dd'
  refine d_write I (by rw [e]; exact True.intro) hs ⟨q, hq⟩ ⟨hl, hd, _, (rel.put kk eb rv).keeps fun c ys ec => ?_, q, es, ep, hq, h2, h3, h4, h5⟩
  rw [upd_ne (ne_of ec e (fun z => nomatch z))]
  exact ec
def tDisp1 (tk tv : TE) : TE := fun σ H Q => ∀ p, H p = none → tk σ (upd H p (.dT [])) fun y H1 => tv σ H1 fun v H2 => ∃ kk b, H2 p = some (.dT []) ∧ y = .ref b ∧ H2 b = some (.tup (kk.map kV)) ∧ Q (.ref p) (upd H2 p (.dT [(kk, v)]))
theorem pe_disp1 {tk tv : TE} (hu : X.A.units < cLine) (hk : PE X a tk) (hv : PE X b tv) : PE X (.Dict [some a] [b] pos) (tDisp1 tk tv) := by
  intro pins s σ H Q I q
  have hn := I.hok.fresh (Nat.le_refl s.heap.objs.size)
  have I1 := I.laid (a := s.heap.objs.size) (o := .dT []) (h' := s.heap.push { cls := .type "dict", data := .dict #[] }) (t' := s.toks) (fun _ _ q => Heap.get?_push_of_some _ q) (Nat.le_refl _) (dt_empty s.heap I.big)
  have hp : PPs X pos [some a] [b] [(tk, tv)] := pps_cons hk hv pps_nil
  refine wpAny_Dict_any rfl rfl (by simp) (by simp) (thn (hp pins _ σ _ (fun ps H2 => match ps with
    | [(y, v)] => ∃ kk b, H2 s.heap.objs.size = some (.dT []) ∧ y = .ref b ∧ H2 b = some (.tup (kk.map kV)) ∧ Q (.ref s.heap.objs.size) (upd H2 s.heap.objs.size (.dT [(kk, v)]))
    | _ => False) I1 (q _ hn)) fun ws s2 ⟨ps, H2, I2, rel, hq⟩ => ?_)
  split at hq
  · rename_i y v
    obtain ⟨kk, bb, e1, e2, e3, q2⟩ := hq
    subst e2
    cases rel with
    | @cons p0 q0 _ _ h t =>
      cases t
      obtain ⟨u1, u2⟩ := q0
      obtain ⟨r1, r2⟩ := h
      cases (show u1 = Value.ref bb from r1)
      show wpAny _ _ (storeAll s.heap.objs.size [(Value.ref bb, u2)]) _ _ _
      unfold storeAll
      simp only [List.forIn_cons, List.forIn_nil]
      refine wpAny_bind (wpAny_bind (d_dictSet hu I2 e1 e3 (by decide) r2 fun s3 I3 _ => wpAny_pure ?_))
      exact wpAny_pure ⟨.ref s.heap.objs.size, _, I3, rfl, q2⟩
  · exact hq.elim
def sDict1 (i : Nat) (fk fv : Dn → Res PyData) : Dn → Out := fun δ => thenS (fk δ) fun kd => thenS (fv δ) fun v => match keyT kd with
  | some kk => .nx (δ.set i (.ow (.dict [(.tuple (kk.map keyD), v)])))
  | none => .no
theorem s_dict1 (C : Cxt P w K mg base X N sc k df) (i : Nat) (ho : okSet N sc df i x = true) (hk : DE X E a f) (hv : DE X E b g) (hs : swapsWith (.Dict [some a] [b] p2) (some (.Name x p)) pos.line X.env = pure false := by rfl) :
    DS X E (.Assign [.Name x p] (.Dict [some a] [b] p2) pos) (sDict1 i f g) := fun G0 H0 => by
  obtain ⟨h1, h2, h3, h4⟩ := okSet.ok C ho
  refine PS.imp (ps_set h1 h2 h3 (pe_disp1 (by have := C.hu; omega) hk hv) hs h4) fun D σ H ⟨G, δ, S, aft⟩ q hq => ?_
  have S1 := S.grow (Grow.own (o := .dT []) S.sr.sub hq)
  unfold sDict1 at aft
  refine aftS_D S1 aft fun kd y G1 H1 g1 r1 S2 a1 => ?_
  refine aftS_D S2 a1 fun vd v G2 H2 g2 r2 S3 a2 => ?_
  cases kd with
  | tuple ds =>
    cases ek : keyOf ds with
    | none => simp only [keyT, ek] at a2; exact (show False from a2).elim
    | some kk =>
      simp only [keyT, ek] at a2
      obtain ⟨pk, xs, rfl, hpk, lk⟩ := r1
      obtain ⟨e1, e2⟩ := keyOf_rep lk ek
      subst e1
      have hq2 : H2 q = some (.dT []) := g2.h _ _ (g1.h _ _ upd_same)
      have gq2 : G2 q = none := by
        cases z : G2 q with
        | none => rfl
        | some u =>
          rcases g2.fr q u z with z1 | z1
          · rcases g1.fr q u z1 with z2 | z2
            · rw [S.sr.sub.free hq] at z2; cases z2
            · rw [upd_same] at z2; cases z2
          · rw [g1.h _ _ upd_same] at z1; cases z1
      refine ⟨kk, pk, hq2, rfl, S3.sr.sub _ _ (g2.g _ _ hpk), ?_⟩
      have h0 : H0 q = none := S.gr.h.free hq
      have hsub : Same G2 (upd H2 q (.dT [(kk, v)])) := fun b u e => by rw [upd_ne (ne_of_none e gq2)]; exact S3.sr.sub _ _ e
      -- the new dict, no name holds it yet
      have S4 : SSt G0 H0 G2 (upd H2 q (.dT [(kk, v)])) σ δ := by
        refine ⟨⟨S3.gr.g, fun b u e => by rw [upd_ne (ne_of_none e h0)]; exact S3.gr.h _ _ e, hsub, S3.gr.fr⟩, ⟨hsub, S3.sr.len, fun j s e => ?_, S3.sr.ap⟩, S3.fr⟩
        have hs := S3.sr.sl j s e
        cases s with
        | un => trivial
        | sh d => exact hs
        | ow d2 =>
          obtain ⟨a, e1, n1, ok⟩ := hs
          have hne : a ≠ q := fun z => fresh_slot S hq j d2 e (z ▸ e1)
          refine ⟨a, e1, n1, ?_⟩
          cases d2 with
          | list ds => obtain ⟨xs, q, r⟩ := ok; exact ⟨xs, by rw [upd_ne hne]; exact q, r⟩
          | dict kvs => obtain ⟨xs, q, r⟩ := ok; exact ⟨xs, by rw [upd_ne hne]; exact q, r⟩
          | tuple xs => exact OwnK.keep (Same.refl _) (fun o q => by rw [upd_ne hne]; exact q) ok
          | _ => exact (show False from ok).elim
      exact a2 _ G2 _ (S4.set_ow h0 gq2 ⟨[(kk, v)], upd_same, rfl, RepL.cons r2 rfl⟩ (fresh_slot S hq))
  | _ => exact (show False from a2).elim
end
end Sm
end
section
set_option Elab.async false
set_option linter.all false
set_option maxRecDepth 100000
set_option maxHeartbeats 4000000
set_option autoImplicit false
namespace Sm
open PySem PySem.Spec PyProof.Rows L2
section
variable {P : Program} {w : World} {K : PySem.W.Frag} {mg : Str → Option Value} {base : Heap} {X : Cx} {N : List Str} {sc : Scope} {k : Nat} {df : Bool} {E : EK} {pos p px py tp spos p2 : Pos} {a b c e : Expr} {es : List Expr} {f g : Dn → Res PyData} {fs : Dn → Res (List PyData)} {x : Str} {i : Nat}
def isAtom : PyData → Bool
  | .none => true
  | .bool _ => true
  | .int _ => true
  | .str _ => true
  | _ => false
theorem Rep.atom {G G' : Hp} {d : PyData} {v : V} (r : Rep G d v) (h : isAtom d = true) : Rep G' d v := by
  cases d with
  | none => exact r
  | bool _ => exact r
  | int _ => exact r
  | str _ => exact r
  | _ => cases h
def vFz (i : Nat) (f : Dn → Res PyData) : Dn → Res PyData := fun δ => (f (fz i δ)).bind fun d => if isAtom d = true then .ok d else .no
theorem d_thaw (i : Nat) (h : DE X E e f) : DE X E e (vFz i f) := PE.imp h fun σ H Q ⟨G, δ, S, a⟩ => by
  obtain ⟨G', S'⟩ := S.fz i
  refine ⟨G', _, S', ?_⟩
  unfold vFz at a
  cases q : f (fz i δ) with
  | ok d =>
    rw [q] at a
    simp only [Res.bind] at a
    split at a
    · rename_i hd
      exact fun v G2 H2 g r => a v G H2 ⟨Same.refl _, g.h, S.sub.trans g.h, fun _ _ z => .inl z⟩ (r.atom hd)
    · exact (show False from a).elim
  | exc c => rw [q] at a; exact fun G2 H2 g => a G H2 ⟨Same.refl _, g.h, S.sub.trans g.h, fun _ _ z => .inl z⟩
  | no => rw [q] at a; exact a
def sPutL (i : Nat) (fk fv : Dn → Res PyData) : Dn → Out := fun δ => match δ[i]? with
  | some (.ow (.list ds)) => thenS (fv δ) fun v => thenS (fk δ) fun kd => match kd with
    | .int k => (match ixN ds.length k with
      | some j => .nx (δ.set i (.ow (.list (ds.set j v))))
      | none => .no)
    | _ => .no
  | _ => .no
theorem RepL.set {G : Hp} {d : PyData} {v : V} (r : Rep G d v) : ∀ {ds : List PyData} {vs : List V} (j : Nat), RepL G ds vs → RepL G (ds.set j d) (vs.set j v)
  | [], _, _, h => by cases (show _ = _ from h); rfl
  | _ :: _, _, 0, h => by
    obtain ⟨v0, r0, rfl, h1, h2⟩ := h
    exact ⟨v, r0, rfl, r, h2⟩
  | _ :: _, _, j + 1, h => by
    obtain ⟨v0, r0, rfl, h1, h2⟩ := h
    exact ⟨v0, _, rfl, h1, RepL.set r j h2⟩
theorem s_putL (C : Cxt P w K mg base X N sc k df) (i : Nat) (h : okVar N sc i x = true) (hk : DE X E a f) (hv : DE X E b g)
    (hs : swapsWithSole [.Subscript (.Name x p) a p2] b pos.line X.env = pure false := by rfl) (hw : swappedStores [.Subscript (.Name x p) a p2] b X.env = pure none := by rfl)
    (h1 : (assignEach [.Subscript (.Name x p) a p2] X.env).map (·.2) = [assign (.Subscript (.Name x p) a p2) X.env] := by rfl)
    (ha : ∀ v, assign (.Subscript (.Name x p) a p2) X.env v = (do
      let ov ← holding [v] (eval (.Name x p) X.env)
      let iv ← holding [v, ov] (eval a X.env)
      standAt p2
      holding [v, ov, iv] (setItem ov iv v)
      release [v, ov, iv] []) := by intro _; rfl) : DS X E (.Assign [.Subscript (.Name x p) a p2] b pos) (sPutL i f g) := fun G0 H0 => by
  refine PS.imp (ps_asg hv (pg_sub (okVar.pe C h) hk set_list ha) hs hw h1) fun D σ H ⟨G, δ, S, aft⟩ => ?_
  unfold sPutL at aft
  split at aft
  · rename_i ds hi
    refine aftS_D S aft fun v x1 G1 H1 g1 r1 S1 a1 => ?_
    obtain ⟨q, hσ, hg, xs, hx, hvals⟩ := S1.sr.own hi
    refine ⟨.ref q, hσ, ?_⟩
    refine aftS_D S1 a1 fun kd x2 G2 H2 g2 r2 S2 a2 => ?_
    obtain ⟨q', hσ', hg', xs', hx', hvals'⟩ := S2.sr.own hi
    rw [hσ] at hσ'; cases hσ'
    cases kd with
    | int kk =>
      cases (show _ = _ from r2)
      simp only at a2
      cases ej : ixN ds.length kk with
      | none => rw [ej] at a2; exact (show False from a2).elim
      | some j =>
        rw [ej] at a2
        refine ⟨q, xs', kk, j, rfl, rfl, hx', by rw [← hvals'.length]; exact ej, ?_⟩
        exact a2 σ G2 _ (S2.write hi (by rw [hσ]; rfl) hg' ⟨_, upd_same, RepL.set (r1.mono g2.g) j hvals'⟩)
    | _ => exact (show False from a2).elim
  · exact aft.elim
end
end Sm
end
section
set_option Elab.async false
set_option linter.all false
set_option maxRecDepth 100000
set_option maxHeartbeats 4000000
set_option autoImplicit false
namespace Sm
open PySem PySem.Spec PyProof.Rows L2 PySem.Builtin.Str
section
variable {P : Program} {w : World} {K : PySem.W.Frag} {mg : Str → Option Value} {base : Heap} {X : Cx} {N : List Str} {sc : Scope} {k : Nat} {df : Bool} {E : EK} {pos p px py tp spos p2 : Pos} {a b c e : Expr} {es : List Expr} {f g : Dn → Res PyData} {fs : Dn → Res (List PyData)} {x : Str} {i : Nat}
def intsOf : List PyData → Option (List Int)
  | [] => some []
  | .int i :: ds => (intsOf ds).map (i :: ·)
  | _ :: _ => none
def maxI : List Int → Option Int
  | [] => none
  | i :: r => some (r.foldl max i)
def dMaxL : List PyData → Option PyData
  | [.list ds] => ((intsOf ds).bind maxI).map .int
  | _ => none
theorem ints_rep {G : Hp} : ∀ {ds : List PyData} {xs : List V} {us : List Value} {is : List Int}, RepL G ds xs → Vals xs us → intsOf ds = some is → us.length = is.length ∧ ∀ (j : Nat) (v : Value), us[j]? = some v → ∃ t, v = Value.int ((is[j]?).getD 0) t
  | [], _, _, _, r, q, e => by cases (show _ = _ from r); cases q; cases e; exact ⟨rfl, fun j v h => by simp at h⟩
  | .int b :: ds, _, _, _, r, q, e => by
    obtain ⟨x, t, rfl, h, l⟩ := r
    cases (show _ = _ from h)
    cases q with
    | cons q qs =>
      obtain ⟨tk, rfl⟩ := q
      obtain ⟨is, e1, rfl⟩ := Option.map_eq_some_iff.mp e
      obtain ⟨h1, h2⟩ := ints_rep l qs e1
      refine ⟨by simp [h1], fun j v h => ?_⟩
      cases j with
      | zero => cases h; exact ⟨tk, rfl⟩
      | succ j => exact h2 j v h
  | .none :: _, _, _, _, _, _, e => by cases e
  | .bool _ :: _, _, _, _, _, _, e => by cases e
  | .str _ :: _, _, _, _, _, _, e => by cases e
  | .list _ :: _, _, _, _, _, _, e => by cases e
  | .tuple _ :: _, _, _, _, _, _, e => by cases e
  | .dict _ :: _, _, _, _, _, _, e => by cases e
theorem foldl_max_le : ∀ (r : List Int) (i M : Int), i ≤ M → (∀ a ∈ r, a ≤ M) → r.foldl max i ≤ M
  | [], _, _, h, _ => h
  | a :: r, i, M, h, q => foldl_max_le r _ M (by have := q a (.head _); omega) fun b hb => q b (.tail _ hb)
theorem le_foldl_max : ∀ (r : List Int) (i : Int), i ≤ r.foldl max i ∧ ∀ a ∈ r, a ≤ r.foldl max i
  | [], i => ⟨Int.le_refl _, fun _ h => nomatch h⟩
  | a :: r, i => by
    obtain ⟨h1, h2⟩ := le_foldl_max r (max i a)
    refine ⟨by simp only [List.foldl_cons]; omega, fun b hb => ?_⟩
    cases hb with
    | head => simp only [List.foldl_cons]; omega
    | tail _ hb => exact h2 b hb
theorem maxI_best {is : List Int} {M : Int} (e : maxI is = some M) : ((is[argBest (fun i j => decide ((is[i]?).getD 0 > (is[j]?).getD 0)) (is.length - 1)]?).getD 0) = M ∧ 0 < is.length := by
  cases is with
  | nil => cases e
  | cons i r =>
    have e' : r.foldl max i = M := by cases e; rfl
    obtain ⟨h1, h2⟩ := argBest_gt (fun j => ((i :: r)[j]?).getD 0) ((i :: r).length - 1)
    refine ⟨?_, by simp⟩
    generalize hB : argBest (fun a b => decide (((i :: r)[a]?).getD 0 > ((i :: r)[b]?).getD 0)) ((i :: r).length - 1) = B at *
    have hlt : B < (i :: r).length := by simp only [List.length_cons] at h1 ⊢; omega
    obtain ⟨l1, l2⟩ := le_foldl_max r i
    rw [e'] at l1 l2
    apply Int.le_antisymm
    · rw [List.getElem?_eq_getElem hlt]
      simp only [Option.getD_some]
      have hm := List.getElem_mem hlt
      cases List.mem_cons.mp hm with
      | inl z => omega
      | inr z => exact l2 _ z
    · rw [← e']
      refine foldl_max_le r i _ ?_ fun a ha => ?_
      · have := h2 0 (Nat.zero_le _)
        simpa using this
      · obtain ⟨j, hj, rfl⟩ := List.getElem_of_mem ha
        have := h2 (j + 1) (by simp only [List.length_cons]; omega)
        rw [List.getElem?_cons_succ, List.getElem?_eq_getElem hj] at this
        exact this
theorem call_maxDl (hc : X.calm = true) : CallR X (.builtin "max") (rCD dMaxL) := by
  intro pins s σ H xs us Q I r ⟨G, ds, d, hG, rl, e, q⟩
  unfold dMaxL at e
  split at e
  · rename_i ys
    obtain ⟨M, e1, rfl⟩ := Option.map_eq_some_iff.mp e
    obtain ⟨is, e0, e1⟩ := Option.bind_eq_some_iff.mp e1
    obtain ⟨v, rfl, a, vs, rfl, h1, l1⟩ := rep1 rl
    obtain ⟨u, rfl, ru⟩ := vals1 r
    cases ru
    obtain ⟨z, its, n, rv, e2⟩ := rd_list I hG h1
    obtain ⟨hb1, hb2⟩ := ints_rep l1 rv e0
    obtain ⟨m1, m2⟩ := maxI_best e1
    have hl : s.heap.IsList a its.toArray := ⟨_, e2, rfl, n, rfl⟩
    have hlt : a < s.heap.objs.size := Heap.lt_size e2
    refine call_max_walk (wpAny_pyIter_list hl ?_)
    refine ⟨s.heap.objs.size, [s.heap.objs.size, a], [s.heap.objs.size], its.toArray.size, _, _, fun i j => decide ((is[i]?).getD 0 > (is[j]?).getD 0), rfl, Walks.list (A := X.A.in1) (I.ok.hd hc) _ a (Nat.ne_of_lt hlt) its.toArray,
      ⟨⟨_, Heap.get?_push_size _ rfl, rfl, rfl⟩, hl.push _⟩, ?_, ?_, CmpOf.ints_gt (fun j => (is[j]?).getD 0) (fun j v hP => hb2 j v (by simpa using hP)), fun v h' tk hP hk => ?_⟩
    · intro b hb
      simp only [List.mem_cons, List.not_mem_nil, or_false] at hb
      rcases hb with rfl | rfl
      · exact Heap.lt_size (Heap.get?_push_size _ rfl)
      · exact Heap.lt_size (Heap.get?_push_of_some _ e2)
    · rw [List.size_toArray, hb1]; exact m2
    · have hP' : its[argBest (fun i j => decide ((is[i]?).getD 0 > (is[j]?).getD 0)) (its.toArray.size - 1)]? = some v := by simpa using hP
      rw [List.size_toArray, hb1] at hP'
      obtain ⟨t, rfl⟩ := hb2 _ _ hP'
      rw [m1]
      exact ⟨.int M, H, I.kept (kept_it hk), ⟨t, rfl⟩, q _ G H (Grow.refl hG) rfl⟩
  · cases e
theorem d_maxL (C : Cxt P w K mg base X N sc k df) (h : okGl sc "max" = true) (hm : mg "max" = none) (ha : DA X E [e] 1 fs)
    (he : starEach [e] X.env = (false, eval e X.env) :: starEach [] X.env := by rfl) (hpl : (backTo pos (starEach [] X.env)).any (·.1) = false := by rfl) : DE X E (.Call (.Name "max" p) [e] [] pos) (vFn fs dMaxL) :=
  d_callB' C (call_maxDl C.calm) h hm (by decide +kernel) ha he hpl
def dIndex (z : Str) : PyData → Option PyData
  | .str y => match occurrences z y 0 z.length 1 with
    | i :: _ => some (.int i)
    | [] => none
  | _ => none
theorem mt_index : MtR X "str.index" (fun x vs H Q => ∃ z y i rest, x = .str z ∧ vs = [.str y] ∧ occurrences z y 0 z.length 1 = i :: rest ∧ Q (.int (i : Nat)) H) := by
  intro pins s σ H x vs v us Q I rx rv ⟨z, y, i, rest, e1, e2, e, q⟩
  subst e1 e2
  obtain ⟨t, rfl⟩ := rx
  obtain ⟨u, rfl, ru⟩ := rv.one
  obtain ⟨t2, rfl⟩ := ru
  exact PySem.SC.index e ⟨.int i, H, I.tok _, ⟨_, rfl⟩, q⟩
theorem d_index {z : Str} {j : Nat} {p1 apos cpos : Pos} (ha : DE X E a f) (hbase : attributeBase (.Constant (.str z) j p1) "index" X.env (eval (.Constant (.str z) j p1) X.env) = eval (.Constant (.str z) j p1) X.env := by rfl)
    (hfew : ((backTo cpos (starEach [a] X.env)).all (fun x => !x.1) && (backToKw cpos (keywordEach [] X.env)).all (fun x => x.1.isSome)
      && decide ([a].length + ([] : List Keyword).length + (if ([] : List Keyword).isEmpty then 0 else 1) < 30)) = true := by rfl)
    (hline : (apos.endLine == cpos.line) = true := by rfl) (hs : starEach [a] X.env = (false, eval a X.env) :: starEach [] X.env := by rfl) (hplain : (backTo cpos (starEach [] X.env)).any (·.1) = false := by rfl) :
    DE X E (.Call (.Attribute (.Constant (.str z) j p1) "index" apos) [a] [] cpos) (b1 f (dIndex z)) := by
  refine PE.imp (pe_bm PySem.F.plainAttrs_str PySem.F.slot_str_index PySem.F.type_str_index mt_index pe_str (pa_cons ha pa_nil hs) hbase hfew hline hs hplain) fun σ H Q ⟨G, δ, S, aft⟩ => ⟨rfl, ?_⟩
  refine aft_bind S aft fun d v G1 H1 g1 r1 S1 a1 => ?_
  cases d with
  | str y =>
    cases r1.1
    cases eo : occurrences z y 0 z.length 1 with
    | nil => simp only [dIndex, eo] at a1; exact (show False from a1).elim
    | cons i rest =>
      simp only [dIndex, eo] at a1
      exact ⟨z, y, i, rest, rfl, rfl, eo, a1 _ G1 H1 (Grow.refl S1.sub) rfl⟩
  | _ => exact (show False from a1).elim
end
end Sm
end
section
set_option Elab.async false
set_option linter.all false
set_option maxRecDepth 100000
set_option maxHeartbeats 4000000
set_option autoImplicit false
namespace Sm
open PySem PySem.Spec PyProof.Rows L2
section
variable {P : Program} {w : World} {K : PySem.W.Frag} {mg : Str → Option Value} {base : Heap} {X : Cx} {N : List Str} {sc : Scope} {k : Nat} {df : Bool} {E : EK} {pos p px py tp spos p2 : Pos} {a b c e : Expr} {es : List Expr} {f g : Dn → Res PyData} {fs : Dn → Res (List PyData)} {x : Str} {i : Nat}
def lMul (f g : Dn → Res PyData) : Dn → Res (List PyData) := fun δ => (f δ).bind fun a => (g δ).bind fun b => match a, b with
  | .list ds, .int n => if -(2 ^ 63) ≤ n ∧ n < 2 ^ 63 ∧ ds.length * n.toNat ≤ sizeLine then .ok (List.replicate n.toNat ds).flatten else .no
  | _, _ => .no
theorem op_mulF : OpR X (binaryOp .Mult) (fun x y H Q => ∃ l vs kk, x = .ref l ∧ y = .int kk ∧ Rd H l (.lst vs) ∧ -(2 ^ 63) ≤ kk ∧ kk < 2 ^ 63 ∧ vs.length * kk.toNat ≤ sizeLine ∧ ∀ p, H p = none → Q (.ref p) (upd H p (.lst (List.replicate kk.toNat vs).flatten))) := by
  intro pins s σ H x y v u Q I rx ry hq
  obtain ⟨l, vs, kk, rfl, rfl, h1, hc1, hc2, hc3, q⟩ := hq
  have h63 := line63
  obtain ⟨t', rfl⟩ := ry
  cases rx
  obtain ⟨z, its, n, r, ho⟩ := rd_list I (Same.refl H) h1
  have hl := r.length
  have hlen : its.toArray.size * kk.toNat ≤ sizeLine := by rw [List.size_toArray, ← hl]; exact hc3
  have hcap : ¬ its.toArray.size * kk.toNat > (2 ^ 63 - 1) / 8 := by
    have : (sizeLine : Nat) ≤ (2 ^ 63 - 1) / 8 := by decide
    omega
  have hfit : ¬ (!Builtin.List.listFitsIndex kk) = true := by
    rw [fitsIndex_both hc1 hc2]; exact Bool.false_ne_true
  have hlong : ¬ Builtin.List.listTooLong (its.toArray.size * kk.toNat) = true := by
    rw [notLongL hlen]; exact Bool.false_ne_true
  have f0 : ∀ m : Nat, List.foldl (fun x1 x2 => x1 ++ x2) #[] (List.replicate m its.toArray) = (List.replicate m its).flatten.toArray := fun m => by
    have := foldl_rep its m []
    rw [List.nil_append] at this
    exact this
  have hnew : List.foldl (fun x1 x2 => x1 ++ x2) #[] (List.replicate (if its.toArray.isEmpty = true then 0 else kk.toNat) its.toArray) = (List.replicate kk.toNat its).flatten.toArray := by
    rw [f0]
    cases its with
    | nil => simp
    | cons a r' => rw [if_neg (by simp)]
  refine wpAny_binaryOp_repeat_ref (T := "list") (U := "int") (by decide) ⟨_, ho, rfl⟩ (fun s' => typeIs_int s' kk t') noFill_list_mul F.fills_int_mul F.slot_int_rmul repeat_list F.slot_int_index.lookup
    (call_meets F.slot_int_rmul (typeIs_int s kk t') F.entry_int_rmul (F.args_int_rmul_2 _ _) (int___rmul___int_list kk t' l its.toArray n)
      ⟨ho, rfl, ⟨_, ho, rfl⟩, call_meets F.slot_list_mul ⟨_, ho, rfl⟩ F.entry_list_mul (F.args_list_mul_2 _ _) (AutoListH.list___mul___list_int_3 l its.toArray n kk t' hfit hcap hlong) ⟨ho, ?_⟩⟩)
  rw [hnew]
  exact ⟨.ref s.heap.objs.size, _, I.lnew (t' := s.toks) (r.rep kk.toNat) (by rw [len_rep, Nat.mul_comm]; exact hc3), rfl, q _ I.fresh⟩
theorem aftF_D {G H : Hp} {σ : St} {δ : Dn} {k : PyData → Res (List PyData)} {Q R : VK} (S : SR G H σ δ) (a : AftF E G H ((f δ).bind k) Q)
    (h : ∀ d v G1 H1, Grow G H G1 H1 → Rep G1 d v → SR G1 H1 σ δ → AftF E G1 H1 (k d) Q → R v H1) : tD E f σ H R := by
  refine ⟨G, δ, S, ?_⟩
  cases e : f δ with
  | ok d => rw [e] at a; exact fun v G' H' g r => h d v G' H' g r (S.grow g) (AftF.grow g a)
  | exc c => rw [e] at a; exact a
  | no => rw [e] at a; exact a
theorem f_mul (ha : DE X E a f) (hb : DE X E b g) : DF X E (.BinOp a .Mult b pos) (lMul f g) := by
  refine PE.imp (pe_op op_mulF ha hb) fun σ H Q ⟨G, δ, S, aft⟩ => ?_
  refine aftF_D S aft fun d1 v1 G1 H1 g1 r1 S1 a1 => ?_
  refine aftF_D S1 a1 fun d2 v2 G2 H2 g2 r2 S2 a2 => ?_
  cases d1 with
  | list ds =>
    cases d2 with
    | int n =>
      simp only at a2
      split at a2
      · rename_i hc
        obtain ⟨l, vs, rfl, h1, l1⟩ := r1
        cases (show _ = _ from r2)
        have hl := l1.length
        refine ⟨l, vs, n, rfl, rfl, Rd.mono S2.sub (Rd.mono g2.g h1), hc.1, hc.2.1, by rw [← hl]; exact hc.2.2, fun p hp => ?_⟩
        exact a2 p _ G2 _ (Grow.own S2.sub hp) hp (S2.sub.free hp) upd_same ((l1.mono g2.g).rep n.toNat)
      · exact (show False from a2).elim
    | _ => exact (show False from a2).elim
  | _ => cases d2 <;> exact (show False from a2).elim
def lListF (fs : Dn → Res (List PyData)) : Dn → Res (List PyData) := fun δ => (fs δ).bind fun ds => match ds with
  | [.list xs] => .ok xs
  | [.tuple xs] => .ok xs
  | _ => .no
theorem f_listF {n : Nat} (C : Cxt P w K mg base X N sc k df) (h : okGl sc "list" = true) (hm : mg "list" = none) (ha : DA X E (e :: es) n fs)
    (he : starEach (e :: es) X.env = (false, eval e X.env) :: starEach es X.env := by rfl) (hpl : (backTo pos (starEach es X.env)).any (·.1) = false := by rfl) : DF X E (.Call (.Name "list" p) (e :: es) [] pos) (lListF fs) := by
  obtain ⟨h1, h2, h3⟩ := okGl.gl C h
  refine PE.imp (pe_callTy call_list_of h1 (by rw [C.hmg]; exact hm) (by decide +kernel) ha.pa h3 h2 he hpl) fun σ H Q ⟨G, δ, S, aft⟩ => ?_
  refine aftA_any (W := fun G H r => AftF E G H r Q) S aft (fun g a => AftF.grow g a) (fun c a => a) (fun a => a) fun ds vs G1 H1 e1 g1 r1 S1 a1 => ?_
  match ds, a1 with
  | [.list xs], a1 =>
    obtain ⟨v, rfl, l, ys, rfl, h1, l1⟩ := rep1 r1
    exact ⟨l, ys, rfl, .inl (.inl (Rd.mono S1.sub h1)), fun q hq => a1 q ys G1 _ (Grow.own S1.sub hq) hq (S1.sub.free hq) upd_same l1⟩
  | [.tuple xs], a1 =>
    obtain ⟨v, rfl, l, ys, rfl, h1, l1⟩ := rep1 r1
    exact ⟨l, ys, rfl, .inr (.inl (.inl (S1.sub _ _ h1))), fun q hq => a1 q ys G1 _ (Grow.own S1.sub hq) hq (S1.sub.free hq) upd_same l1⟩
  | [], a1 => exact (show False from a1).elim
  | [.none], a1 => exact (show False from a1).elim
  | [.bool _], a1 => exact (show False from a1).elim
  | [.int _], a1 => exact (show False from a1).elim
  | [.str _], a1 => exact (show False from a1).elim
  | [.dict _], a1 => exact (show False from a1).elim
  | _ :: _ :: _, a1 => simp only at a1; exact (show False from a1).elim
def vIndexE (g f : Dn → Res PyData) : Dn → Res PyData := fun δ => (g δ).bind fun z => match z with
  | .str z => (f δ).bind fun d => ofO (dIndex z d)
  | _ => .no
theorem d_indexE {apos cpos : Pos} (hb : DE X E b g) (ha : DE X E a f) (hbase : attributeBase b "index" X.env (eval b X.env) = eval b X.env := by rfl)
    (hfew : ((backTo cpos (starEach [a] X.env)).all (fun x => !x.1) && (backToKw cpos (keywordEach [] X.env)).all (fun x => x.1.isSome)
      && decide ([a].length + ([] : List Keyword).length + (if ([] : List Keyword).isEmpty then 0 else 1) < 30)) = true := by rfl)
    (hline : (apos.endLine == cpos.line) = true := by rfl) (hs : starEach [a] X.env = (false, eval a X.env) :: starEach [] X.env := by rfl) (hplain : (backTo cpos (starEach [] X.env)).any (·.1) = false := by rfl) :
    DE X E (.Call (.Attribute b "index" apos) [a] [] cpos) (vIndexE g f) := by
  refine PE.imp (pe_bm PySem.F.plainAttrs_str PySem.F.slot_str_index PySem.F.type_str_index mt_index hb (pa_cons ha pa_nil hs) hbase hfew hline hs hplain) fun σ H Q ⟨G, δ, S, aft⟩ => ?_
  refine aft_bind S aft fun d0 v0 G0 H0 g0 r0 S0 a0 => ?_
  cases d0 with
  | str z =>
    cases r0.1
    refine ⟨rfl, ?_⟩
    refine aft_bind S0 a0 fun d v G1 H1 g1 r1 S1 a1 => ?_
    cases d with
    | str y =>
      cases r1.1
      cases eo : PySem.Builtin.Str.occurrences z y 0 z.length 1 with
      | nil => simp only [dIndex, eo] at a1; exact (show False from a1).elim
      | cons i rest =>
        simp only [dIndex, eo] at a1
        exact ⟨z, y, i, rest, rfl, rfl, eo, a1 _ G1 H1 (Grow.refl S1.sub) rfl⟩
    | _ => exact (show False from a1).elim
  | _ => exact (show False from a0).elim
end
end Sm
end
section
set_option Elab.async false
set_option linter.all false
set_option maxRecDepth 100000
set_option maxHeartbeats 4000000
set_option autoImplicit false
namespace Sm
open PySem PySem.Spec PyProof.Rows L2
theorem lk_cons {α : Type} {a y : Str} {n c : α} {cl : List (Str × α)} (h : ((y, n) :: cl).lookup a = some c) : (a = y ∧ c = n) ∨ (a ≠ y ∧ cl.lookup a = some c) := by
  rw [List.lookup_cons] at h
  cases q : a == y with
  | true => rw [q] at h; cases h; exact .inl ⟨eq_of_beq q, rfl⟩
  | false => rw [q] at h; exact .inr ⟨fun z => by rw [z] at q; simp at q, h⟩
theorem lk_self {α : Type} {y : Str} {n : α} {cl : List (Str × α)} : ((y, n) :: cl).lookup y = some n := by rw [List.lookup_cons]; simp
theorem lk_ne {α : Type} {a y : Str} {n : α} {cl : List (Str × α)} (h : a ≠ y) : ((y, n) :: cl).lookup a = cl.lookup a := by
  rw [List.lookup_cons]
  cases q : a == y with
  | true => exact absurd (eq_of_beq q) h
  | false => rfl
theorem cells_none : ∀ (names : List (Str × NameKind)) (n : Nat) (acc : List (Str × Addr)) (h : Heap), names.filter (fun y => y.2 == .cell) = [] → cellsFrom n names acc = acc ∧ pushCells h names = h
  | [], _, _, _, _ => ⟨rfl, rfl⟩
  | (a, kd) :: r, n, acc, h, e => by
    cases q : kd == NameKind.cell with
    | true => rw [List.filter_cons_of_pos (by exact q)] at e; cases e
    | false =>
      rw [List.filter_cons_of_neg (by simp [q])] at e
      obtain ⟨i1, i2⟩ := cells_none r n acc h e
      unfold cellsFrom pushCells
      rw [q]
      exact ⟨i1, i2⟩
theorem cells_one {y : Str} : ∀ (names : List (Str × NameKind)) (n : Nat) (acc : List (Str × Addr)) (h : Heap), names.filter (fun y => y.2 == .cell) = [(y, .cell)] → cellsFrom n names acc = (y, n) :: acc ∧ pushCells h names = h.push { cls := .type "cell", data := .cell none }
  | [], _, _, _, e => by cases e
  | (a, kd) :: r, n, acc, h, e => by
    cases q : kd == NameKind.cell with
    | true =>
      rw [List.filter_cons_of_pos (by exact q)] at e
      obtain ⟨e1, e2⟩ := List.cons.inj e
      cases e1
      obtain ⟨i1, i2⟩ := cells_none r (n + 1) ((y, n) :: acc) (h.push { cls := .type "cell", data := .cell none }) e2
      unfold cellsFrom pushCells
      rw [q]
      exact ⟨i1, i2⟩
    | false =>
      rw [List.filter_cons_of_neg (by simp [q])] at e
      obtain ⟨i1, i2⟩ := cells_one r n acc h e
      unfold cellsFrom pushCells
      rw [q]
      exact ⟨i1, i2⟩
theorem env_one {M : Model} {A : Around} {E : Value → Shared → Prop} {s : Shared} {scope : Scope} {gl : Addr} {cl : List (Str × Addr)} {qual y : Str} {out : Env} {Q : Env → Shared → Prop} (h1 : scope.names.filter (fun y => y.2 == .cell) = [(y, .cell)])
    (h : Q (newEnv scope s.heap.objs.size gl ((y, s.heap.objs.size + 1) :: cl) qual none .none (some out) builtinsNs) { s with heap := (s.heap.push { cls := .type "dict", data := .dict #[] }).push { cls := .type "cell", data := .cell none } }) :
    wpAny M A (newFunctionEnv scope gl cl [] qual none .none (some out)) Q E s := by
  simp only [newFunctionEnv, Option.isSome_some, if_true]
  refine wpAny_bind (wpAny_alloc (wpAny_bind (wpAny_layCells _ (fun name kind cells => by cases z : kind == NameKind.cell <;> simp [z]) _ _ _ _ ?_)))
  have hz : ({ s with heap := s.heap.push { cls := .type "dict", data := .dict #[] } } : Shared).heap.objs.size = s.heap.objs.size + 1 := Heap.size_push ..
  obtain ⟨i1, i2⟩ := cells_one (y := y) scope.names (s.heap.objs.size + 1) cl (s.heap.push { cls := .type "dict", data := .dict #[] }) h1
  rw [hz, i1, i2]
  rw [List.forIn_nil]
  exact wpAny_bind (wpAny_pure (wpAny_pure h))
def blkCx2 (X : Cx) (s₃ : Shared) (H₃ : Hp) (scope : Scope) (cl : List (Str × Addr)) (N' : List Str) (fp : List Addr) (y : Str) : Cx :=
  { X with N := N', s₀ := s₃, H₀ := H₃, env := { compEnvC scope cl s₃.heap.objs.size X.env with cells := (y, s₃.heap.objs.size + 1) :: cl }, outer := X.stack, stack := X.stack, ex := fp, fn := fun z => z == y, pn := [], xe := fun _ _ => False }
structure Clos2 (X : Cx) (scope : Scope) (cl : List (Str × Addr)) (y : Str) : Prop where
  clo : closureFor scope X.env = pure cl
  sub : ∀ x c, cl.lookup x = some c → X.env.cells.lookup x = some c
  has : ∀ x, x ≠ y → (relabel scope X.env).names.lookup x = some .cell ∨ (relabel scope X.env).names.lookup x = some .free → ∃ c, cl.lookup x = some c
structure CompFacts2 (X : Cx) (scope : Scope) (xs capN : List Str) (cap : List Nat) (y : Str) : Prop where
  kind : scope.kind = .function
  one : scope.names.filter (fun y => y.2 == .cell) = [(y, .cell)]
  names : ∀ y ∈ scope.names, y.2 = .local → scope.names.lookup y.1 = some .local
  clos : ∃ cl, Clos2 X scope cl y
  hcap : cap.map (fun j => X.N[j]?) = capN.map some
  hcl : ∀ x ∈ capN, (relabel scope X.env).names.lookup x = some .cell ∨ (relabel scope X.env).names.lookup x = some .free
  hvis : ∀ x ∈ capN, X.env.scope.names.lookup x = some .cell ∨ X.env.scope.names.lookup x = some .free
  hy : ∀ x ∈ capN, x ≠ y
section
variable {X : Cx} {pins : List (Addr × Obj)} {σ : St} {H : Hp} {s₃ : Shared}
theorem cl_lt {scope : Scope} {cl : List (Str × Addr)} {y : Str} (I : Inv X pins σ H s₃) (C : Clos2 X scope cl y) {a : Str} {c : Addr} (h : cl.lookup a = some c) : c < s₃.heap.objs.size := by
  obtain ⟨v, q⟩ := I.cell a c (C.sub a c h)
  exact q.lt
theorem blk_ok2 {y : Str} {scope : Scope} {cl : List (Str × Addr)} {N' : List Str} {fp : List Addr} (I : Inv X pins σ H s₃) (hk : scope.kind = .function) (C : Clos2 X scope cl y) (hfp : ∀ b ∈ fp, FpOk X pins H b) (hlt : ∀ b ∈ fp, b < s₃.heap.objs.size) :
    (blkCx2 X s₃ H scope cl N' fp y).Ok where
  mod := I.ok.mod
  kind := hk
  glob := I.ok.glob
  blt := I.ok.blt
  above := Nat.le_refl _
  inj := fun a b c h1 h2 => by
    have g1 : ((y, s₃.heap.objs.size + 1) :: cl).lookup a = some c := h1
    have g2 : ((y, s₃.heap.objs.size + 1) :: cl).lookup b = some c := h2
    rcases lk_cons g1 with ⟨e1, f1⟩ | ⟨e1, f1⟩ <;> rcases lk_cons g2 with ⟨e2, f2⟩ | ⟨e2, f2⟩
    · rw [e1, e2]
    · subst f1; exact absurd (cl_lt I C f2) (Nat.not_lt_of_le (Nat.le_succ _))
    · subst f2; exact absurd (cl_lt I C f1) (Nat.not_lt_of_le (Nat.le_succ _))
    · exact I.ok.inj a b c (C.sub a c f1) (C.sub b c f2)
  has := fun a h => by
    by_cases e : a = y
    · exact ⟨_, by rw [e]; exact lk_self⟩
    · obtain ⟨c, z⟩ := C.has a e h
      exact ⟨c, by show ((y, s₃.heap.objs.size + 1) :: cl).lookup a = _; rw [lk_ne e]; exact z⟩
  cab := fun a c h e => by
    have g1 : ((y, s₃.heap.objs.size + 1) :: cl).lookup a = some c := e
    rcases lk_cons g1 with ⟨e1, f1⟩ | ⟨e1, f1⟩
    · show s₃.heap.objs.size ≤ c; omega
    · exact absurd (eq_of_beq h) e1
  hd := I.ok.hd
  frames := I.ok.frames
  stk := .inl rfl
  exf := fun b hb => ⟨Nat.ne_of_lt (hlt b hb), fun a c h => by
    have g1 : ((y, s₃.heap.objs.size + 1) :: cl).lookup a = some c := h
    rcases lk_cons g1 with ⟨e1, f1⟩ | ⟨e1, f1⟩
    · subst f1; intro z; have := hlt b hb; rw [← z] at this; exact absurd this (Nat.not_lt_of_le (Nat.le_succ _))
    · exact (hfp b hb).2.2.2.2.1 a c (C.sub a c f1)⟩
  bs := fun b o e => I.bs b o e
  bsz := Nat.le_trans I.ok.bsz I.sz
  noex := fun b o e hb => by
    rcases (hfp b hb).2.2.2.1 with z | z
    · exact I.ok.noex b o e z
    · exact absurd (Nat.lt_of_lt_of_le (Heap.lt_size e) (Nat.le_trans I.ok.bsz z)) (Nat.lt_irrefl _)
  exfs := fun b hb z => by
    rcases List.mem_cons.mp (I.stkSub b z) with q | q
    · exact (hfp b hb).2.1 q
    · exact (hfp b hb).2.2.1 q
  funs := I.stack
  frf := I.stkFree
theorem blk_inv2 {y : Str} {scope : Scope} {cl : List (Str × Addr)} {xs : List Str} {cap : List Nat} {capN : List Str} {fp : List Addr} {h₁ : Heap} {tk : Nat} (I : Inv X pins σ H s₃) (hk : scope.kind = .function) (C : Clos2 X scope cl y) (hfp : ∀ b ∈ fp, FpOk X pins H b) (hlt : ∀ b ∈ fp, b < s₃.heap.objs.size)
    (hcap : cap.map (fun j => X.N[j]?) = capN.map some) (hcl : ∀ x ∈ capN, (relabel scope X.env).names.lookup x = some .cell ∨ (relabel scope X.env).names.lookup x = some .free)
    (hvis : ∀ x ∈ capN, X.env.scope.names.lookup x = some .cell ∨ X.env.scope.names.lookup x = some .free) {m : Str → Option Value}
    (hns : h₁.Ns s₃.heap.objs.size m) (old : ∀ b o, s₃.heap.get? b = some o → h₁.get? b = some o) (hy : ∀ x ∈ capN, x ≠ y) (hcell : h₁.IsCell (s₃.heap.objs.size + 1) none) :
    Inv (blkCx2 X s₃ H scope cl (xs ++ capN) fp y) [] (xs.map (fun _ => none) ++ capS σ cap) H { s₃ with heap := h₁, toks := tk } := by
  have hlen : cap.length = capN.length := by simpa using congrArg List.length hcap
  refine ⟨blk_ok2 I hk C hfp hlt, rfl, I.bare, Un.kept old, ⟨m, hns, fun i x v e1 e2 e3 => ?_⟩, fun x c e => ?_, I.hok.fresh (Nat.le_refl _), fun a c e => ?_, fun p hp => absurd (show p ∈ ([] : List (Addr × Obj)) from hp) (by simp), I.hok.kept old, ?_⟩
  · have e1' : (xs ++ capN)[i]? = some x := e1
    by_cases hi : i < xs.length
    · rw [List.getElem?_append_left (by simpa using hi), List.getElem?_map] at e2
      cases q : xs[i]? with
      | none => rw [q] at e2; cases e2
      | some z => rw [q] at e2; cases e2
    · rw [List.getElem?_append_right (by simpa using hi)] at e2
      rw [List.getElem?_append_right (by omega)] at e1'
      rw [List.length_map] at e2
      generalize i - xs.length = j at e1' e2
      unfold capS at e2
      rw [List.getElem?_map] at e2
      have hc : (cap.map (fun j => X.N[j]?))[j]? = some (some x) := by rw [hcap, List.getElem?_map, e1']; rfl
      rw [List.getElem?_map] at hc
      cases q : cap[j]? with
      | none => rw [q] at e2; cases e2
      | some k =>
        rw [q] at e2 hc
        simp only [Option.map_some] at e2 hc
        have hc' : X.N[k]? = some x := Option.some.inj hc
        have hs : σ[k]? = some (some v) := by
          cases z : σ[k]? with
          | none => rw [z] at e2; cases e2
          | some z' => rw [z] at e2; cases z' with
            | none => cases e2
            | some z'' => cases e2; rfl
        have hx : x ∈ capN := List.mem_of_getElem? e1'
        obtain ⟨m', hm', hl'⟩ := I.loc
        obtain ⟨u, r, l⟩ := hl' k x v hc' hs (by rcases hvis x hx with z | z; exact .inr (.inl z); exact .inr (.inr z))
        refine ⟨u, r, .inr ⟨hcl x hx, ?_⟩⟩
        obtain ⟨c, hcc⟩ := C.has x (hy x hx) (hcl x hx)
        refine ⟨c, (lk_ne (hy x hx)).trans hcc, ?_⟩
        rcases l with ⟨z, _⟩ | ⟨_, c', e', z⟩
        · have z' : X.env.scope.names.lookup x = some .local := z
          rcases hvis x hx with y | y <;> (rw [z'] at y; cases y)
        · rw [C.sub x c hcc] at e'; cases e'
          obtain ⟨o, ho, hd⟩ := z
          exact ⟨o, old _ _ ho, hd⟩
  · have g1 : ((y, s₃.heap.objs.size + 1) :: cl).lookup x = some c := e
    rcases lk_cons g1 with ⟨e1, f1⟩ | ⟨e1, f1⟩
    · rw [f1]; exact ⟨_, hcell⟩
    · obtain ⟨v, o, ho, hd⟩ := I.cell x c (C.sub x c f1)
      exact ⟨v, o, old _ _ ho, hd⟩
  · have g1 : ((y, s₃.heap.objs.size + 1) :: cl).lookup a = some c := e
    rcases lk_cons g1 with ⟨e1, f1⟩ | ⟨e1, f1⟩
    · rw [f1]; exact I.hok.fresh (Nat.le_succ _)
    · exact I.freeC a c (C.sub a c f1)
  · show (xs.map (fun _ => none) ++ capS σ cap).length = (xs ++ capN).length
    unfold capS
    rw [List.length_append, List.length_append, List.length_map, List.length_map, hlen]
end
structure Blk2 (X X' : Cx) (N' : List Str) (sc' : Scope) (y : Str) : Prop where
  b : Blk X X' N' sc'
  fn : X'.fn y = true
section
variable {X : Cx} {tg elt iter : Expr} {ifs : List Expr} {scope : Scope} {pos : Pos} {wi : TI} {g : TG} {tt : TT} {te : TE} {xs capN : List Str} {cap : List Nat}
theorem comp_run2 {y : Str} {use : Option (Value → Sem Unit)} {Q : Value → Shared → Prop} {QQ : VK} (hc : X.calm = true) (F : CompFacts2 X scope xs capN cap y) (hi : PI X tg iter wi)
    (hg : ∀ X', Blk2 X X' (xs ++ capN) (relabel scope X.env) y → PG X' tg g) (ht : ∀ X', Blk2 X X' (xs ++ capN) (relabel scope X.env) y → PTs X' ifs tt) (he : ∀ X', Blk2 X X' (xs ++ capN) (relabel scope X.env) y → PE X' elt te)
    (hs : ∀ x, foldedSetIterable iter X.env x = pure x)
    {pins : List (Addr × Obj)} {s : Shared} {σ : St} {H : Hp} (I : Inv X pins σ H s) (h : tComp wi (fun σ => xs.map (fun _ => none) ++ capS σ cap) g tt te σ H QQ) {ps : Pos}
    (fin : ∀ (s' : Shared) (H' : Hp) (D C : Addr) (m : Str → Option Value), Inv X pins σ H' s' → s'.heap.Ns C m → (H' C = none ∧ X.s₀.heap.objs.size ≤ C ∧ C ≠ X.env.locals ∧ (∀ x c, X.env.cells.lookup x = some c → c ≠ C) ∧ ∀ p ∈ X.pn ++ pins, p.1 ≠ C) →
      QQ (.ref D) H' → compPost (model X.prog X.w) X.A X.xe use Q (.ref D) C (.ok .next) s') :
    wpAny (model X.prog X.w) X.A (comprehension (.ListComp elt [⟨tg, iter, ifs, 0⟩] scope pos) scope X.env ps (newList []) false (eval iter X.env) use) Q X.xe s := by
  obtain ⟨cl, C⟩ := F.clos
  refine wpAny_comprehension_free rfl hs C.clo F.kind F.names (thn (hi pins s σ H _ I h) fun v s1 h1 => thn h1 fun itv s2 h2 => ?_)
  obtain ⟨it, fp, tn, J, H2, e, I2, T, st2, f2, h3⟩ := h2
  subst e
  refine wpAny_newObj_type ?_
  -- the list
  obtain ⟨W, ⟨m0, w0⟩, turn⟩ := h3 s2.heap.objs.size I2.fresh
  have I3 : Inv X pins σ (upd H2 s2.heap.objs.size (.lst [])) { s2 with heap := s2.heap.push { cls := .type "list", dict := none, data := .seq ([] : List Value).toArray } } := I2.lnew (t' := s2.toks) .nil (Nat.zero_le _)
  generalize hH3 : upd H2 s2.heap.objs.size (HO.lst []) = H3 at I3 w0
  generalize hs3 : ({ s2 with heap := s2.heap.push { cls := .type "list", dict := none, data := .seq ([] : List Value).toArray } } : Shared) = s3 at I3
  have hD3 : H3 s2.heap.objs.size = some (.lst []) := by rw [← hH3]; exact upd_same
  have kp3 : ∀ b o, s2.heap.get? b = some o → s3.heap.get? b = some o := fun b o e => by rw [← hs3]; exact Heap.get?_push_of_some _ e
  have hDlt : s2.heap.objs.size < s3.heap.objs.size := by rw [← hs3]; show _ < (s2.heap.push _).objs.size; rw [Heap.size_push]; exact Nat.lt_succ_self _
  have flt : ∀ b ∈ fp, b < s2.heap.objs.size := fun b hb => by
    obtain ⟨o, e, _⟩ := T.obj 0 _ st2 b hb
    exact Heap.lt_size e
  have flt3 : ∀ b ∈ fp, b < s3.heap.objs.size := fun b hb => Nat.lt_trans (flt b hb) hDlt
  have f3 : ∀ b ∈ fp, FpOk X pins H3 b := fun b hb => ⟨by rw [← hH3, upd_ne (Nat.ne_of_lt (flt b hb))]; exact (f2 b hb).1, (f2 b hb).2⟩
  have st3 : tn 0 s3.heap := T.keep 0 _ _ st2 fun b hb o e => kp3 b o e
  show wpAny _ _ (newFunctionEnv scope X.env.globals cl [] X.env.qual none .none (some X.env)) _ _ s3
  refine env_one F.one ?_
  have old0 : ∀ b o, s3.heap.get? b = some o → ((s3.heap.push { cls := .type "dict", data := .dict #[] }).push { cls := .type "cell", data := .cell none }).get? b = some o := fun b o e => Heap.get?_push_of_some _ (Heap.get?_push_of_some _ e)
  have hns0 : ((s3.heap.push { cls := .type "dict", data := .dict #[] }).push { cls := .type "cell", data := .cell none }).Ns s3.heap.objs.size (fun _ => none) := (Heap.Ns.new s3.heap (.type "dict")).keeps fun b o e => Heap.get?_push_of_some _ e
  have hcell0 : ((s3.heap.push { cls := .type "dict", data := .dict #[] }).push { cls := .type "cell", data := .cell none }).IsCell (s3.heap.objs.size + 1) none := ⟨{ cls := .type "cell", data := .cell none }, by rw [← Heap.size_push s3.heap { cls := .type "dict", data := .dict #[] }]; exact Heap.get?_push_size _ rfl, rfl⟩
  generalize (s3.heap.push { cls := .type "dict", data := .dict #[] }).push { cls := .type "cell", data := .cell none } = h₁ at old0 hns0 hcell0 ⊢
  have old := old0
  have B : Blk2 X (blkCx2 X s3 H3 scope cl (xs ++ capN) fp y) (xs ++ capN) (relabel scope X.env) y := ⟨⟨rfl, rfl, rfl, rfl, rfl, rfl, rfl, rfl, rfl, rfl⟩, beq_self_eq_true y⟩
  have J0 : Inv (blkCx2 X s3 H3 scope cl (xs ++ capN) fp y) [] (xs.map (fun _ => none) ++ capS σ cap) H3 { s3 with heap := h₁, toks := s3.toks } :=
    blk_inv2 I3 F.kind C f3 flt3 F.hcap F.hcl F.hvis hns0 old F.hy hcell0
  have st4 : tn 0 h₁ := T.keep 0 _ _ st3 fun b hb o e => old b o e
  have hg' := hg _ B
  have ht' := ht _ B
  have he' := he _ B
  generalize hX' : blkCx2 X s3 H3 scope cl (xs ++ capN) fp y = X' at B J0 hg' ht' he'
  have hex : X'.ex = fp := by rw [← hX']; rfl
  have hloc : X'.env.locals = s3.heap.objs.size := by rw [← hX']; rfl
  have henv : X'.env = { compEnvC scope cl s3.heap.objs.size X.env with cells := (y, s3.heap.objs.size + 1) :: cl } := by rw [← hX']; rfl
  have hpn : X'.pn = [] := by rw [← hX']; rfl
  have hxe : X'.xe = fun _ _ => False := by rw [← hX']; rfl
  have hH0 : X'.H₀ = H3 := by rw [← hX']; rfl
  have hs0 : X'.s₀ = s3 := by rw [← hX']; rfl
  have hfs : X'.fs = frs X.stack := by rw [← hX']; rfl
  have hP : X'.prog = X.prog := B.b.prog
  have hw : X'.w = X.w := B.b.w
  have hA : X'.A = X.A := B.b.A
  have nfs : ∀ b ∈ fp, b ∉ X'.fs := fun b hb z => J0.ok.exfs b (by rw [hex]; exact hb) z
  have stat : ∀ {pn' : List (Addr × Obj)} {H' : Hp}, (∀ b ∈ fp, H' b = none) → (∀ p ∈ pn', p.1 ∉ fp) → ∀ b ∈ fp, FpOk X' pn' H' b := fun {pn' H'} hn hp b hb =>
    ⟨hn b hb, by rw [hloc]; exact Nat.ne_of_lt (flt3 b hb), nfs b hb, .inl (by rw [hex]; exact hb), fun x c e => (J0.ok.exf b (by rw [hex]; exact hb)).2 x c e, fun p hp' z => by
      rw [hpn, List.nil_append] at hp'
      exact hp p hp' (z ▸ hb)⟩
  -- what the loop keeps
  have loop : ∀ s₀' : Shared, Inv X' [] (xs.map (fun _ => none) ++ capS σ cap) H3 s₀' → tn 0 s₀'.heap →
      codeAny (model X.prog X.w) X.A (.compLoop (.ListComp elt [⟨tg, iter, ifs, 0⟩] scope pos) 0 (.ref it) (.ref s2.heap.objs.size) X'.env) (compPost (model X.prog X.w) X.A X.xe use Q (.ref s2.heap.objs.size) s3.heap.objs.size) s₀' := by
    intro s₀' J1 st5
    refine compLoop_own (fun n s' => ∃ i H', Inv X' [] (xs.map (fun _ => none) ++ capS σ cap) H' s' ∧ tn i s'.heap ∧ (∀ b ∈ fp, H' b = none) ∧ W i n H') ?_ m0 ⟨0, H3, J1, st5, fun b hb => (f3 b hb).1, w0⟩
    rintro n s4 ⟨i, H4, J4, st4, fr4, w4⟩
    rcases turn i n H4 w4 with ⟨stop, qn⟩ | ⟨go, N, hN, step⟩
    · have hd := T.done X' B.b.prog B.b.w B.b.K (B.b.calm.trans hc) i [] s4 _ H4 (fun _ _ => False) J4 (stat fr4 (by simp)) st4 stop
      rw [hA] at hd
      refine thn hd fun r s5 ⟨hr, J5⟩ => ?_
      subst hr
      have un : Un (frs X.stack) fp H3 H4 s3.heap s5.heap := by
        have := J5.base
        rw [hfs, hex, hH0, hs0] at this
        exact this
      have ho : s5.os = s3.os := by rw [J5.os, hs0]
      have hok5 : HOk X.prog X.w H4 s5.heap := by have := J5.hok; rw [hP, hw] at this; exact this
      have I5 : Inv X pins σ H4 s5 := I3.call' ho un hok5 J5.bare fun b hb => ⟨(f3 b hb).2.2.2.1, (f3 b hb).2.1, (f3 b hb).2.2.2.2.1, (f3 b hb).2.2.2.2.2⟩
      obtain ⟨m5, hm5, _⟩ := J5.loc
      rw [hloc] at hm5
      refine fin s5 H4 _ s3.heap.objs.size m5 I5 hm5 ⟨by have := J5.free; rw [hloc] at this; exact this, I3.sz, Nat.ne_of_gt I3.lt, fun x c e z => ?_, fun p hp z => ?_⟩ qn
      · obtain ⟨v, q⟩ := I3.cell x c e
        exact absurd q.lt (by rw [z]; exact Nat.lt_irrefl _)
      · exact absurd (Heap.lt_size (I3.pin p hp).1) (by rw [z]; exact Nat.lt_irrefl _)
    · have hd := T.item X' B.b.prog B.b.w B.b.K (B.b.calm.trans hc) i [] s4 _ H4 (fun _ _ => False) J4 (stat fr4 (by simp)) st4 go
      rw [hA] at hd
      refine thn hd fun r s5 ⟨u, hr, h5⟩ => ?_
      subst hr
      refine thn h5 fun _ s6 ⟨x, H6, J6, r6, y6, st6, fr6⟩ => ?_
      have J6' := J6.pinned (stat fr6 (by simp)) (T.obj _ _ st6)
      rw [List.nil_append] at J6'
      have hgx := hg' _ s6 _ H6 x u _ J6' r6 (step x H6 y6)
      rw [hP, hw, hA, hxe] at hgx
      refine thn hgx fun _ s7 ⟨σ7, H7, J7, wk7, q7⟩ => ?_
      have htx := ht' _ s7 σ7 H7 _ J7 q7
      rw [hP, hw, hA, hxe] at htx
      refine thn htx fun ok s8 ⟨H8, J8, q8⟩ => ?_
      have again : ∀ {H9 : Hp} {s9 : Shared}, Inv X' (pinsAt fp s6.heap) σ7 H9 s9 → N H9 → (∃ m, m < n ∧ ∃ i H', Inv X' [] (xs.map (fun _ => none) ++ capS σ cap) H' s9 ∧ tn i s9.heap ∧ (∀ b ∈ fp, H' b = none) ∧ W i m H') := fun {H9 s9} J9 n9 => by
        obtain ⟨m', hm, w9⟩ := hN H9 n9
        have pin9 : ∀ b ∈ fp, ∀ o, s6.heap.get? b = some o → s9.heap.get? b = some o ∧ H9 b = none := fun b hb o e => by
          have := J9.pin (b, o) (List.mem_append_right _ (mem_pinsAt hb e))
          exact ⟨this.1, this.2.1⟩
        refine ⟨m', hm, i + 1, H9, (J9.weak wk7.1 wk7.2).pins_of (fun p hp => nomatch hp), T.keep _ _ _ st6 fun b hb o e => (pin9 b hb o e).1, fun b hb => ?_, w9⟩
        obtain ⟨o, e, d⟩ := T.obj _ _ st6 b hb
        exact (pin9 b hb o e).2
      cases ok with
      | false =>
        rw [if_neg (by decide)] at q8 ⊢
        exact again J8 q8
      | true =>
        rw [if_pos rfl] at q8 ⊢
        have hex := he' _ s8 σ7 H8 _ J8 q8
        rw [hP, hw, hA, hxe] at hex
        refine thn hex fun y s9 ⟨x9, H9, J9, r9, acc, ha, hz, n9⟩ => ?_
        have hap := mt_append (X := X') _ s9 σ7 H9 (.ref s2.heap.objs.size) [x9] (.ref s2.heap.objs.size) [y] (fun _ H' => N H') J9 rfl (.cons r9 .nil) ⟨_, acc, x9, rfl, rfl, ha, hz, n9⟩
        rw [hP, hw, hA, hxe] at hap
        exact thn hap fun _ s10 ⟨_, H10, J10, _, n10⟩ => again J10 n10
  have e0 : ({ (newEnv scope s3.heap.objs.size X.env.globals ((y, s3.heap.objs.size + 1) :: cl) X.env.qual none .none (some X.env) builtinsNs : Env) with scope := relabel scope X.env } : Env) = X'.env := by rw [henv]; rfl
  have e1 : (newEnv scope s3.heap.objs.size X.env.globals ((y, s3.heap.objs.size + 1) :: cl) X.env.qual none .none (some X.env) builtinsNs : Env).locals = s3.heap.objs.size := rfl
  show codeAny _ _ (.compStart _ 0 (.ref it) (.ref s2.heap.objs.size) ({ (newEnv scope s3.heap.objs.size X.env.globals ((y, s3.heap.objs.size + 1) :: cl) X.env.qual none .none (some X.env) builtinsNs : Env) with scope := relabel scope X.env } : Env)) (compPost _ _ _ _ _ _ s3.heap.objs.size) _
  rw [e0]
  exact codeAny_compStart_list (loop _ J0 st4) (T.self _ 0 _ _ _ st4 (loop _ J0 st4))
theorem pe_comp2 {y : Str} (hc : X.calm = true) (F : X.Ok → CompFacts2 X scope xs capN cap y) (hi : PI X tg iter wi)
    (hg : ∀ X', Blk2 X X' (xs ++ capN) (relabel scope X.env) y → PG X' tg g) (ht : ∀ X', Blk2 X X' (xs ++ capN) (relabel scope X.env) y → PTs X' ifs tt) (he : ∀ X', Blk2 X X' (xs ++ capN) (relabel scope X.env) y → PE X' elt te)
    (hs : ∀ x, foldedSetIterable iter X.env x = pure x := by intro _; rfl) : PE X (.ListComp elt [⟨tg, iter, ifs, 0⟩] scope pos) (tComp wi (fun σ => xs.map (fun _ => none) ++ capS σ cap) g tt te) := by
  intro pins s σ H Q I h
  rw [eval_ListComp]
  refine comp_run2 (use := none) hc (F I.ok) hi hg ht he hs I h fun s' H' D C m I' hm ⟨c1, c2, c3, c4, c5⟩ q => ?_
  refine ⟨m, hm, fun h' sb => ?_⟩
  exact ⟨.ref D, H', I'.turned (t' := s'.toks) (fun b o hb e => (sb.2 b hb).trans e) c1 c3 (.inr c2) c4 c5, rfl, q⟩
end
end Sm
end
section
set_option Elab.async false
set_option linter.all false
set_option maxRecDepth 100000
set_option maxHeartbeats 4000000
set_option autoImplicit false
namespace Sm
open PySem PySem.Spec PyProof.Rows L2
theorem clos_of2 {X : Cx} (ok : X.Ok) {scope : Scope} {y : Str} (hone : scope.names.filter (fun y => y.2 == .cell) = [(y, .cell)]) (hfree : ∀ y ∈ scope.names, y.2 = .free → X.env.scope.names.lookup y.1 = some .cell ∨ X.env.scope.names.lookup y.1 = some .free) : ∃ cl, Clos2 X scope cl y := by
  have hc : ∀ y ∈ scope.names, y.2 = .free → ∃ c, X.env.cells.lookup y.1 = some c := fun y hy hf => ok.has y.1 (hfree y hy hf)
  refine ⟨clFold X.env.cells scope.names [], ⟨?_, fun x c h => ?_, fun x hxy h => ?_⟩⟩
  · have := clos_run (env := X.env) scope.names [] hc
    unfold closureFor
    simp only
    rw [this]
    rfl
  · rcases clFold_mem (lookup_some_mem h) with z | ⟨z1, z2⟩
    · cases z
    · obtain ⟨c', e⟩ := hc _ z1 rfl
      have e' : X.env.cells.lookup x = some c' := e
      have z2' : c = (X.env.cells.lookup x).getD 0 := z2
      rw [e'] at z2' ⊢
      rw [z2']; rfl
  · have hm : (x, NameKind.free) ∈ scope.names := by
      have key : ∀ kd, (relabel scope X.env).names.lookup x = some kd → (kd = .cell ∨ kd = .free) → (x, NameKind.free) ∈ scope.names := fun kd hl hkd => by
        have hm := lookup_some_mem hl
        unfold relabel at hm
        simp only [List.mem_map] at hm
        obtain ⟨⟨n, k0⟩, hy, e⟩ := hm
        simp only at e
        split at e
        · rename_i hc'
          cases e
          have : k0 = .free := by
            rw [Bool.and_eq_true, Bool.and_eq_true] at hc'
            exact eq_of_beq hc'.1.1
          subst this; exact hy
        · cases e
          rcases hkd with rfl | rfl
          · have : (x, NameKind.cell) ∈ scope.names.filter (fun y => y.2 == .cell) := List.mem_filter.mpr ⟨hy, rfl⟩
            rw [hone] at this
            cases List.mem_singleton.mp this
            exact absurd rfl hxy
          · exact hy
      rcases h with h | h
      · exact key _ h (.inl rfl)
      · exact key _ h (.inr rfl)
    obtain ⟨c, hc'⟩ := clFold_has (cells := X.env.cells) (names := scope.names) (cs := []) (x := x) (.inl hm)
    exact lookup_of_mem hc'
def okCompC (N : List Str) (sc scope : Scope) (x : Str) (capN : List Str) (cap : List Nat) : Bool :=
  decide (scope.kind = .function) && decide (scope.names.filter (fun y => y.2 == .cell) = [(x, .cell)]) && scope.names.all (fun y => decide (y.2 = .local → scope.names.lookup y.1 = some .local)) &&
  scope.names.all (fun y => decide (y.2 = .free → sc.names.lookup y.1 = some .cell ∨ sc.names.lookup y.1 = some .free)) && decide (cap.map (fun j => N[j]?) = capN.map some) &&
  capN.all (fun x => decide ((relS scope sc).names.lookup x = some .cell ∨ (relS scope sc).names.lookup x = some .free)) && capN.all (fun x => decide (sc.names.lookup x = some .cell ∨ sc.names.lookup x = some .free)) &&
  decide (([x] ++ capN).Nodup) && decide ((relS scope sc).names.lookup x = some .cell) && decide (cap.Nodup)
section
variable {P : Program} {w : World} {K : PySem.W.Frag} {mg : Str → Option Value} {base : Heap} {X : Cx} {N : List Str} {sc scope : Scope} {k : Nat} {df : Bool} {E : EK} {pos p px py tp : Pos} {tg a b c e elt iter : Expr} {ifs : List Expr} {es : List Expr} {f g el : Dn → Res PyData} {fs src : Dn → Res (List PyData)} {tt : Dn → Res Bool} {capN : List Str} {cap : List Nat}
theorem f_comp1c {x : Str} (C : Cxt P w K mg base X N sc k df) (cap : List Nat) (capN : List Str) (ho : okCompC N sc scope x capN cap = true) (hi : DI X E (.Name x px) iter src)
    (ht : ∀ X', Cxt P w K mg base X' ([x] ++ capN) (relS scope sc) k false → DTs X' E0k ifs tt) (he : ∀ X', Cxt P w K mg base X' ([x] ++ capN) (relS scope sc) k false → DE X' E0k elt el)
    (hs : ∀ x, foldedSetIterable iter X.env x = pure x := by intro _; rfl) : DF X E (.ListComp elt [⟨.Name x px, iter, ifs, 0⟩] scope pos) (lComp src bind1 cap tt el) := by
  unfold okCompC at ho
  simp only [Bool.and_eq_true, List.all_eq_true, decide_eq_true_eq] at ho
  obtain ⟨⟨⟨⟨⟨⟨⟨⟨⟨h1, h2⟩, h3⟩, h4⟩, h5⟩, h6⟩, h7⟩, h8⟩, h9⟩, h10⟩ := ho
  have F : X.Ok → CompFacts2 X scope [x] capN cap x := fun ok => by
    refine ⟨h1, h2, h3, clos_of2 ok h2 fun y hy hf => ?_, by rw [C.hN]; exact h5, fun z hz => ?_, fun z hz => ?_, fun z hz e => ?_⟩
    · rw [C.hs]; exact h4 y hy hf
    · rw [relS_eq C.hs]; exact h6 z hz
    · rw [C.hs]; exact h7 z hz
    · subst e
      simp only [List.singleton_append, List.nodup_cons] at h8
      exact h8.1 hz
  refine PE.imp (pe_comp2 (g := gName 0) C.calm F hi (fun X' B => ?_) (fun X' B => ht X' (C.blk B.b)) (fun X' B => he X' (C.blk B.b)) hs) fun σ H Q h => tComp_D (m := 1) rfl h10 gok1 h
  have C' := C.blk B.b
  have hl : X'.env.scope.names.lookup x = some .cell := by rw [C'.hs]; exact h9
  exact pg_name (by rw [C'.hN]; exact h8) (by rw [C'.hN]; rfl) (.inr hl) (.inl B.fn)
end
end Sm
end
section
set_option Elab.async false
set_option linter.all false
set_option maxRecDepth 100000
set_option maxHeartbeats 4000000
set_option autoImplicit false
namespace Sm
open PySem PySem.Spec PyProof.Rows L2
open AutoSeq1 (wpAny_loadPart')
section
variable {prog : Program} {w : World} {A : Around} {E : Value → Shared → Prop} {s : Shared}
theorem nextT_item {it t : Addr} {i : Nat} {items : Array Value} {x : Value} {Q : Value → Shared → Prop} (hit : s.heap.IsTupleIter it t i) (ht : s.heap.IsTuple t items) (hx : items[i]? = some x)
    (hQ : ∀ h', h'.IsTupleIter it t (i + 1) → Heap.SameBut it s.heap h' → Q x { s with heap := h' }) : wpAny (model prog w) A (Builtin.SmallTypes.nextOf (.ref it)) Q E s := by
  obtain ⟨o, ho, hc, hd⟩ := id hit
  obtain ⟨ol, hol, _, nl, hdl⟩ := ht
  unfold Builtin.SmallTypes.nextOf
  refine wpAny_bind (wpAny_callSpecial?_slot (name := Str.ofString "__next__") hit.typeIs F.slot_tuple_iterator_next (wpAny_call_entry F.slot_tuple_iterator_next hit.typeIs F.entry_tuple_iterator_next ?_ (F.args_tuple_iterator_next_1 _)))
  show wpAny _ _ (field (.ref it) 0 >>= _) _ _ s
  refine wpAny_bind (wpAny_field ho hd (x := .ref t) rfl ?_)
  show wpAny _ _ (if (Value.ref t == Value.none) = true then _ else _) _ _ s
  have nn : ¬ ((Value.ref t == Value.none) = true) := Bool.false_ne_true
  rw [if_neg nn]
  show wpAny _ _ (field (.ref it) 1 >>= _) _ _ s
  refine wpAny_bind (wpAny_field ho hd (x := .int i 0) rfl ?_)
  show wpAny _ _ (seqItems? (.ref t) >>= _) _ _ s
  refine wpAny_bind (wpAny_seqItems hol hdl ?_)
  simp only [Int.toNat_natCast, hx]
  refine wpAny_bind (wpAny_setField ho hd (by simp) (wpAny_pure ⟨x, rfl, wpAny_pure (hQ _ ⟨_, Heap.get?_update_self _ ho (Obj.isFreed_of_fields (Obj.data_mapFields hd _)), (Obj.cls_mapFields ..).trans hc, by rw [Obj.data_mapFields hd]; simp [rawInt]⟩ (Heap.SameBut.update ..))⟩))
theorem nextT_end {it t : Addr} {i : Nat} {items : Array Value} {Q : Value → Shared → Prop} (hh : A.handled = none) (hit : s.heap.IsTupleIter it t i) (ht : s.heap.IsTuple t items) (hx : items[i]? = none)
    (hE : ∀ h' e, Heap.ExtBut it s.heap h' → (∃ o, h'.get? e = some o ∧ o.cls = .type "StopIteration") → E (.ref e) { s with heap := h' }) : wpAny (model prog w) A (Builtin.SmallTypes.nextOf (.ref it)) Q E s := by
  obtain ⟨o, ho, hc, hd⟩ := id hit
  obtain ⟨ol, hol, _, nl, hdl⟩ := ht
  unfold Builtin.SmallTypes.nextOf
  refine wpAny_bind (wpAny_callSpecial?_slot (name := Str.ofString "__next__") hit.typeIs F.slot_tuple_iterator_next (wpAny_call_entry F.slot_tuple_iterator_next hit.typeIs F.entry_tuple_iterator_next ?_ (F.args_tuple_iterator_next_1 _)))
  show wpAny _ _ (field (.ref it) 0 >>= _) _ _ s
  refine wpAny_bind (wpAny_field ho hd (x := .ref t) rfl ?_)
  show wpAny _ _ (if (Value.ref t == Value.none) = true then _ else _) _ _ s
  have nn : ¬ ((Value.ref t == Value.none) = true) := Bool.false_ne_true
  rw [if_neg nn]
  show wpAny _ _ (field (.ref it) 1 >>= _) _ _ s
  refine wpAny_bind (wpAny_field ho hd (x := .int i 0) rfl ?_)
  show wpAny _ _ (seqItems? (.ref t) >>= _) _ _ s
  refine wpAny_bind (wpAny_seqItems hol hdl ?_)
  simp only [Int.toNat_natCast, hx]
  refine wpAny_bind (wpAny_rule (wpAny_bind (wpAny_setField ho hd (by simp) ?_)))
  show wpAny _ _ (newExc (.type "StopIteration") [] >>= _) _ _ _
  refine wpAny_bind ?_
  simp only [newExc, newTuple]
  refine wpAny_bind (wpAny_newObj_type ?_ (by size_fits))
  refine wpAny_bind (m := firstArgMember _ _) (wpAny_of_eq (a := Value.none) (by first | rfl | (simp only [firstArgMember]; rfl)) ?_)
  refine wpAny_newObj_type ?_ (by size_fits)
  simp only [raiseNew]
  refine wpAny_bind (wpAny_handled ?_)
  first | rw [show A.in1.handled = none from hh] | rw [hh]
  refine wpAny_bind (wpAny_pure (wpAny_throw (hE _ _ (((Heap.SameBut.update ..).extBut.push _).push _) ⟨_, Heap.get?_push_size _ rfl, rfl⟩)))
end
theorem drawsT {prog : Program} {w : World} {A : Around} (hh : A.handled = none) (it l : Addr) (hne : l ≠ it) (items : Array Value) :
    Draws prog w A it [it, l] items.size (fun i v => items[i]? = some v) (fun i h => h.IsTupleIter it l i ∧ h.IsTuple l items) where
  live := fun _ _ st => let ⟨o, ho, _⟩ := st.1; ⟨o, ho⟩
  frame := fun _ _ _ st hk => ⟨st.1.at fun o e => hk it (by simp) o e, st.2.at fun o e => hk l (by simp) o e⟩
  item := fun i s Q E hi st hQ => nextT_item st.1 st.2 (x := items[i]) (by simp [hi]) fun h' hit' hs' => hQ _ h' s.toks (by simp [hi]) ⟨hit', st.2.extBut hs'.extBut hne⟩ hs'
  done := fun s Q E st hE => nextT_end hh st.1 st.2 (by simp) hE
section
variable {prog : Program} {w : World} {A : Around} {E : Value → Shared → Prop} {s : Shared}
theorem wpAny_pyNext_enum_endX {e it l : Addr} {i : Nat} {items : Array Value} {old : Value} {Q : Option Value → Shared → Prop} (hh : A.handled = none)
    (he : IsEnum s.heap e it i old) (hit : s.heap.IsTupleIter it l i) (hl : s.heap.IsTuple l items) (hx : items[i]? = none)
    (hQ : ∀ h', Heap.ExtBut it s.heap h' → Q none { s with heap := h' }) : wpAny (model prog w) A (pyNext (.ref e)) Q E s := by
  have hT : s.TypeIs (.ref e) "enumerate" := ⟨_, he, rfl⟩
  unfold pyNext
  refine wpAny_bind (wpAny_attempt (wpAny_callSpecial?_slot (name := Str.ofString "__next__") hT F.slot_enumerate_next (wpAny_call_entry F.slot_enumerate_next hT F.entry_enumerate_next ?_ (F.args_enumerate_next_1 _))))
  show wpAny _ _ (field (.ref e) 2 >>= _) _ _ _
  refine wpAny_bind (wpAny_field he rfl (x := .ref it) rfl (wpAny_bind (nextT_end hh hit hl hx fun h' x he' hx' => ?_)))
  obtain ⟨o, ho, hc⟩ := hx'
  exact wpAny_bind (wpAny_isInstance (T := "StopIteration") (b := true) ⟨o, ho, hc⟩ isSubtype_stop (wpAny_pure (hQ _ he')))
theorem meets_enum_newT (l : Addr) (items : Array Value) (n : Nat) (dct : Option Addr) (sl : Array (Option Value)) :
    Meets (Builtin.«enumerate.__new__» ⟨[.type "enumerate", .ref l], []⟩) (fun _ R s => s.heap.get? l = some { cls := .type "tuple", dict := dct, data := .seq items n, slots := sl } ∧
      R (.ok (.ret (.ref (s.heap.push { cls := .type "tuple_iterator", data := .fields #[.ref l, .int 0 0] }).objs.size)))
        { s with heap := (s.heap.push { cls := .type "tuple_iterator", data := .fields #[.ref l, .int 0 0] }).push { cls := .type "enumerate", data := .fields #[.none, .bool false, .ref s.heap.objs.size, rawInt 0, .none, .none] } }) :=
  .of_wp fun prog w A R s h => by
    obtain ⟨hp, g, d, tk, os⟩ := s; obtain ⟨hl, h⟩ := h
    have hsub := sub_enumerate
    have hL : Heap.IsTuple (Shared.heap ⟨hp, g, d, tk, os⟩) l items := ⟨_, hl, rfl, n, rfl⟩
    wp_walk using wpAny_loadPart' hl
    refine wpAny_stack_any fun st => wpAny_pure ?_
    split
    · rename_i c _ _ _ _ _
      cases (c == Value.type "enumerate") <;> (wp_walk using wpAny_loadPart' hl, wpAny_pyIter_tuple hL; exact ⟨_, rfl, h⟩)
    · wp_walk using wpAny_loadPart' hl, wpAny_pyIter_tuple hL
      exact ⟨_, rfl, h⟩
theorem call_enum_tuple {l : Addr} {items : Array Value} {Q : Value → Shared → Prop} (hL : s.heap.IsTuple l items)
    (h : ∀ h', IsEnum h' (s.heap.objs.size + 1) s.heap.objs.size 0 .none → h'.IsTupleIter s.heap.objs.size l 0 → h'.objs.size = s.heap.objs.size + 2 → (∀ b o, s.heap.get? b = some o → h'.get? b = some o) → Q (.ref (s.heap.objs.size + 1)) { s with heap := h' }) :
    wpAny (model prog w) A (call (.type "enumerate") [.ref l]) Q E s := by
  obtain ⟨⟨c, dct, dt, sl⟩, hl, hc, n, hd⟩ := hL
  replace hc : c = .type "tuple" := hc
  replace hd : dt = .seq items n := hd
  subst hc hd
  refine callType_new F.called_enumerate (by decide) (F.typeCall_enumerate_1 _) (F.newCall_enumerate_1 _) (fun obj => F.args_object_init_2 obj _) F.entry_enumerate_new (meets_enum_newT l items n dct sl) ⟨hl, ?_⟩
  have hz : (s.heap.push { cls := .type "tuple_iterator", data := .fields #[.ref l, .int 0 0] }).objs.size = s.heap.objs.size + 1 := Heap.size_push ..
  show _ ∧ _
  rw [hz]
  have he : IsEnum ((s.heap.push { cls := .type "tuple_iterator", data := .fields #[.ref l, .int 0 0] }).push { cls := .type "enumerate", data := .fields #[.none, .bool false, .ref s.heap.objs.size, rawInt 0, .none, .none] }) (s.heap.objs.size + 1) s.heap.objs.size 0 .none := by
    have := Heap.get?_push_size (s.heap.push { cls := .type "tuple_iterator", data := .fields #[.ref l, .int 0 0] }) (o := { cls := .type "enumerate", data := .fields #[.none, .bool false, .ref s.heap.objs.size, rawInt 0, .none, .none] }) rfl
    rw [hz] at this; exact this
  refine ⟨⟨_, he, rfl⟩, h _ he ⟨_, Heap.get?_push_of_some _ (Heap.get?_push_size _ rfl), rfl, rfl⟩ (by rw [Heap.size_push, hz]) fun b o x => Heap.get?_push_of_some _ (Heap.get?_push_of_some _ x)⟩
end
def IteT (K : PySem.W.Frag) (a : Addr) : It :=
  ⟨fun i H => ∃ xs x, SqT K H a xs ∧ xs[i]? = some x, fun i H x H' => ∃ p y, H p = none ∧ x = .ref p ∧ H' = upd H p (.tup [.int i, y]) ∧ ∀ xs, SqT K H a xs → xs[i]? = some y, fun i H => ∃ xs, SqT K H a xs ∧ xs.length ≤ i⟩
theorem turn_enumT {P : Program} {w : World} {K : PySem.W.Frag} {elts : List Expr} {x1 : Nat} {tp : Pos} (a e it : Addr) (hne : e ≠ it) : Turn P w K (.Tuple elts x1 tp) (IteT K a) [e, it] e (fun i h => (∃ old, IsEnum h e it (i : Int) old) ∧ h.IsTupleIter it a i) where
  mem := by simp
  obj := fun i h st b hb => by
    obtain ⟨⟨old, h1⟩, o, h2, c, d⟩ := st
    rcases List.mem_cons.mp hb with rfl | hb
    · exact ⟨_, h1, fun v z => by cases z⟩
    · have e' : b = it := by simpa using hb
      subst e'
      exact ⟨o, h2, fun v z => by rw [d] at z; cases z⟩
  keep := fun i h h' st k => by
    obtain ⟨⟨old, h1⟩, o, h2, c, d⟩ := st
    exact ⟨⟨old, k e (by simp) _ h1⟩, o, k it (by simp) o h2, c, d⟩
  item := by
    intro X hP hw hK hc i pins s σ H E I hf st hg
    subst hP hw hK
    obtain ⟨⟨old, he⟩, st⟩ := st
    obtain ⟨xs, x, hq, hx⟩ := hg
    obtain ⟨its, rv, p, hz⟩ := I.tuple hq
    obtain ⟨u, hu, ru⟩ := rv.get hx
    obtain ⟨f0, f1, f2, f3, f4, f5⟩ := hf e (by simp)
    obtain ⟨g0, g1, g2, g3, g4, g5⟩ := hf it (by simp)
    have ple : a ≠ it := by
      rintro rfl
      obtain ⟨o1, q1, c1, _⟩ := st
      obtain ⟨o2, q2, c2, _⟩ := (show s.heap.IsTuple a its.toArray from p)
      rw [q1] at q2; cases q2; rw [c1] at c2; exact absurd (Value.type.inj c2) (by decide)
    have pae : e ≠ a := by
      rintro rfl
      obtain ⟨o2, q2, c2, _⟩ := (show s.heap.IsTuple e its.toArray from p)
      rw [show s.heap.get? e = _ from he] at q2; cases q2; exact absurd (Value.type.inj c2) (by decide)
    have hilt : i < its.toArray.size := by
      rw [List.size_toArray, ← rv.length]; exact (List.getElem?_eq_some_iff.mp hx).1
    refine wpAny_pyNext_enum_itemD (drawsT (A := X.A.in1) (I.ok.hd hc) it a ple its.toArray) he ⟨st, p⟩ hilt hne (by simp [hne, pae]) fun u' h' tk0 hu' he' st2' ht' hsz kp => ?_
    have hu'' : u' = u := by
      have z : its.toArray[i]? = some u' := hu'
      rw [List.getElem?_toArray, hu] at z; exact (Option.some.inj z).symm
    subst hu''
    have st' := st2'.1
    refine ⟨_, rfl, wpAny_letOwnedTupleGo_enum he' fun h2 he2 sb => ?_⟩
    have hfr : H s.heap.objs.size = none := I.fresh
    have elt : e < s.heap.objs.size := Heap.lt_size he
    have ilt : it < s.heap.objs.size := by obtain ⟨o, h, _⟩ := st; exact Heap.lt_size h
    have kp2 : ∀ b o, b ≠ e → b ≠ it → s.heap.get? b = some o → h2.get? b = some o := fun b o h1 h3 q => (sb.2 b h1).trans (kp b o h1 h3 q)
    -- the two records have turned
    have I1 : Inv X pins σ H { s with heap := h2, toks := tk0 + 1 } := by
      refine I.step (g' := s.gens) (d' := s.drawn) (ch := [e, it]) (fun b hb => ?_) (fun b o _ _ hcb q _ => kp2 b o (fun z => hcb (by simp [z])) (fun z => hcb (by simp [z])) q) (fun b o _ _ hcb q _ => ⟨o.slots, kp2 b o (fun z => hcb (by simp [z])) (fun z => hcb (by simp [z])) q⟩) (fun _ _ _ _ n => n)
        (fun b o hcb q => ⟨o, kp2 b o (fun z => hcb (by simp [z])) (fun z => hcb (by simp [z])) q⟩) (fun _ _ q => q) (fun _ _ _ q => q) (fun b ps q => ⟨#[], by rw [q]; simp⟩) (fun m hm => ?_) (fun b u' q => ?_) I.bare
      · rcases List.mem_cons.mp hb with rfl | hb
        · exact ⟨f3, f1, f4, f5⟩
        · have e' : b = it := by simpa using hb
          subst e'
          exact ⟨g3, g1, g4, g5⟩
      · obtain ⟨o, es, ep, ho, r⟩ := hm
        exact ⟨o, es, ep, kp2 _ o (Ne.symm f1) (Ne.symm g1) ho, r⟩
      · refine (I.hok b u' q).stay (fun c v hcc q' => kp2 c v ?_ ?_ q') (fun _ q' => q') fun _ _ q' => q'
        · rintro rfl
          rcases hcc with z | z
          · subst z; rw [f0] at q; cases q
          · rw [f0] at z; cases z
        · rintro rfl
          rcases hcc with z | z
          · subst z; rw [g0] at q; cases q
          · rw [g0] at z; cases z
    have htt : h2.get? s.heap.objs.size = some { cls := .type "tuple", data := .seq #[.int i tk0, u'] } := (sb.2 _ (Nat.ne_of_gt elt)).trans ht'
    have Hold : ∀ b o, H b = some o → b ≠ s.heap.objs.size := fun b o q z => by subst z; rw [hfr] at q; cases q
    have I2 : Inv X pins σ (upd H s.heap.objs.size (.tup [.int i, x])) { s with heap := h2, toks := tk0 + 1 } := by
      have nb : ∀ b o, b ≠ s.heap.objs.size → s.heap.get? b = some o → True := fun _ _ _ _ => trivial
      have base' : Un X.fs X.ex X.H₀ (upd H s.heap.objs.size (.tup [.int i, x])) X.s₀.heap h2 := by
        have B := I1.base
        have ne0 : ∀ b o, X.s₀.heap.get? b = some o → b ≠ s.heap.objs.size := fun b o q => Nat.ne_of_lt (Nat.lt_of_lt_of_le (Heap.lt_size q) I.sz)
        exact ⟨B.keep, B.slot, fun b o q n hx => by rw [upd_ne (ne0 b o q)]; exact B.free b o q n hx, B.there,
          fun b ys q => by rw [upd_ne (Hold b _ (B.tups b ys q))]; exact B.tups b ys q, fun b o' u' q => by rw [upd_ne (Hold b _ (B.frzs b o' u' q))]; exact B.frzs b o' u' q,
          fun b ps q => by obtain ⟨m, q'⟩ := B.tbls b ps q; exact ⟨m, by rw [upd_ne (Hold b _ q')]; exact q'⟩⟩
      have hok' : HOk X.prog X.w (upd H s.heap.objs.size (.tup [.int i, x])) h2 := fun b o q => by
        by_cases hb : b = s.heap.objs.size
        · subst hb
          rw [upd_same] at q
          cases q
          refine ⟨by show 2 ≤ sizeLine; decide, [.int i tk0, u'], .cons ⟨_, rfl⟩ (.cons ru .nil), ⟨_, htt, rfl, 0, rfl⟩⟩
        · rw [upd_ne hb] at q
          exact (I1.hok b o q).stay (fun _ _ _ q' => q') (fun c q' => by rw [upd_ne (Hold c _ q')]; exact q') fun c ys q' => by rw [upd_ne (Hold c _ q')]; exact q'
      refine ⟨I1.ok, I1.os, I1.bare, base', I1.loc, I1.cell, ?_, fun y c q => ?_, fun p hp => ?_, hok', I1.len⟩
      · rw [upd_ne (Nat.ne_of_lt I.lt)]; exact I1.free
      · obtain ⟨v, oc, hoc, _⟩ := I.cell y c q
        rw [upd_ne (Nat.ne_of_lt (Heap.lt_size hoc))]; exact I1.freeC y c q
      · obtain ⟨q1, q2, q3, q4, q5⟩ := I1.pin p hp
        refine ⟨q1, ?_, q3, q4, q5⟩
        rw [upd_ne (Nat.ne_of_lt (Heap.lt_size (I.pin p hp).1))]; exact q2
    refine ⟨.ref s.heap.objs.size, _, I2, rfl, ⟨_, x, hfr, rfl, rfl, fun ys hy => by rw [I.tuple_inj hy hq]; exact hx⟩, ⟨⟨_, by push_cast; exact he2⟩, ?_⟩, fun b hb => ?_⟩
    · obtain ⟨o, q, c, d⟩ := st'
      exact ⟨o, (sb.2 it (Ne.symm hne)).trans q, c, d⟩
    · rcases List.mem_cons.mp hb with rfl | hb
      · rw [upd_ne (Nat.ne_of_lt elt)]; exact f0
      · have e' : b = it := by simpa using hb
        subst e'
        rw [upd_ne (Nat.ne_of_lt ilt)]; exact g0
  done := by
    intro X hP hw hK hc i pins s σ H E I hf st hg
    subst hP hw hK
    obtain ⟨⟨old, he⟩, st⟩ := st
    obtain ⟨xs, hq, hx⟩ := hg
    obtain ⟨its, rv, p, hz⟩ := I.tuple hq
    obtain ⟨g0, g1, g2, g3, g4, g5⟩ := hf it (by simp)
    have hl := rv.length
    have ple : a ≠ it := by
      rintro rfl
      obtain ⟨o1, q1, c1, _⟩ := st
      obtain ⟨o2, q2, c2, _⟩ := (show s.heap.IsTuple a its.toArray from p)
      rw [q1] at q2; cases q2; rw [c1] at c2; exact absurd (Value.type.inj c2) (by decide)
    exact wpAny_pyNext_enum_endX (I.ok.hd hc) he st (show s.heap.IsTuple a its.toArray from p) (by simp; omega) fun h' eb => ⟨rfl, I.turned (t' := s.toks) (fun b o hb e => eb b o hb e) g0 g1 g3 g4 g5⟩
  self := fun _ _ _ _ _ st h => by
    obtain ⟨⟨old, he⟩, _⟩ := st
    exact wpAny_pyIter_enum he h
end Sm
end
section
set_option Elab.async false
set_option linter.all false
set_option maxRecDepth 100000
set_option maxHeartbeats 4000000
set_option autoImplicit false
namespace Sm
open PySem PySem.Spec PyProof.Rows L2
theorem walk_enumT {K : PySem.W.Frag} {G : Hp} {a : Addr} {xs : List V} {ds : List PyData} (h : G a = some (.tup xs)) (l : RepL G ds xs) : Walk (IteT K a) G (enumD ds) where
  go := fun i H hi hG => by
    have hi' : i < xs.length := by rw [← l.length]; simpa [enumD] using hi
    exact ⟨xs, xs[i], .inl (.inl (hG _ _ h)), by simp [hi']⟩
  yld := fun i d G2 H x H' e h1 h2 hy => by
    obtain ⟨p, y, hp, rfl, rfl, hy⟩ := hy
    unfold enumD at e
    rw [List.getElem?_mapIdx] at e
    obtain ⟨d0, e0, rfl⟩ := Option.map_eq_some_iff.mp e
    obtain ⟨y', e1, r⟩ := l.get e0
    have := hy xs (.inl (.inl ((h1.trans h2) _ _ h)))
    rw [e1] at this
    cases this
    refine ⟨upd G2 p (.tup [.int i, y]), Grow.new h2 hp, p, _, rfl, upd_same, RepL.cons rfl (RepL.cons (r.mono (h1.trans (Same.upd (h2.free hp)))) rfl)⟩
  stop := fun i H hi hG => ⟨xs, .inl (.inl (hG _ _ h)), by rw [← l.length]; simpa [enumD] using hi⟩
section
variable {P : Program} {w : World} {K : PySem.W.Frag} {mg : Str → Option Value} {base : Heap} {X : Cx} {N : List Str} {sc : Scope} {k : Nat} {df : Bool} {E : EK} {pos p : Pos} {tg a b c e : Expr} {es : List Expr} {f g : Dn → Res PyData} {fs src : Dn → Res (List PyData)}
def enumX : List PyData → Res (List PyData)
  | [.list ds] => .ok (enumD ds)
  | [.tuple ds] => .ok (enumD ds)
  | _ => .no
theorem i_enumX {n x1 : Nat} {elts : List Expr} {tp : Pos} (C : Cxt P w K mg base X N sc k df) (h : okGl sc "enumerate" = true) (hm : mg "enumerate" = none) (ha : DA X E [a] n fs) (he : starEach [a] X.env = (false, eval a X.env) :: starEach [] X.env := by rfl) (hpl : (backTo pos (starEach [] X.env)).any (·.1) = false := by rfl) :
    DI X E (.Tuple elts x1 tp) (.Call (.Name "enumerate" p) [a] [] pos) (fun δ => (fs δ).bind enumX) := by
  intro pins s σ H R I ⟨G, δ, S, aft⟩
  obtain ⟨h1, h2, h3⟩ := okGl.gl C h
  have hh := aftA_any (R := fun vs H1 => ∃ G1 ds, Same G1 H1 ∧ RepL G1 ds vs ∧ AftI E G1 H1 (enumX ds) R) (W := fun G H r => AftI E G H r R) S aft (fun g a => AftI.grow g a) (fun c a => a) (fun a => a) fun ds vs G1 H1 e g1 r1 S1 a1 => ⟨G1, ds, S1.sub, r1, a1⟩
  refine wpAny_Call_Name_kw (ld_blt I h1 (by rw [C.hmg]; exact hm) boot_enumerate ?_ h3 h2)
  refine PyProof.Rows.callWith_type1 (thn (ha.pa pos pins s σ H _ I hh) fun us s1 ⟨vs, H1, I1, rv, G1, ds, hG, rl, a1⟩ => ?_) he hpl
  unfold enumX at a1
  split at a1
  · rename_i ys
    obtain ⟨v, rfl, l, xs, rfl, q1, l1⟩ := rep1 rl
    obtain ⟨u, rfl, ru⟩ := vals1 rv
    cases ru
    obtain ⟨zz, its, nn, rw', e1⟩ := rd_list I1 hG q1
    refine call_enumerate_list ⟨_, e1, rfl, nn, rfl⟩ fun h' he' hit hsz kp => ?_
    have I2 : Inv X pins σ H1 { s1 with heap := h' } := I1.kept (t' := s1.toks) kp
    refine wpAny_pyIter_enum he' ?_
    refine ⟨s1.heap.objs.size + 1, [s1.heap.objs.size + 1, s1.heap.objs.size], _, _, H1, rfl, I2, turn_enum l _ _ (Nat.ne_of_gt (Nat.lt_succ_self _)), ⟨⟨_, he'⟩, hit⟩, fun b hb => ?_, a1 _ G1 H1 (Grow.refl hG) (walk_enum q1 l1)⟩
    rcases List.mem_cons.mp hb with rfl | hb
    · exact I1.fpOk (Nat.le_succ _) (I1.hok.fresh (Nat.le_succ _))
    · have e : b = s1.heap.objs.size := by simpa using hb
      subst e
      exact I1.fpOk (Nat.le_refl _) I1.fresh
  · rename_i ys
    obtain ⟨v, rfl, l, xs, rfl, q1, l1⟩ := rep1 rl
    obtain ⟨u, rfl, ru⟩ := vals1 rv
    cases ru
    obtain ⟨zz, its, rw', e1⟩ := rd_tup I1 hG q1
    refine call_enum_tuple (show s1.heap.IsTuple l its.toArray from e1) fun h' he' hit hsz kp => ?_
    have I2 : Inv X pins σ H1 { s1 with heap := h' } := I1.kept (t' := s1.toks) kp
    refine wpAny_pyIter_enum he' ?_
    refine ⟨s1.heap.objs.size + 1, [s1.heap.objs.size + 1, s1.heap.objs.size], _, _, H1, rfl, I2, turn_enumT l _ _ (Nat.ne_of_gt (Nat.lt_succ_self _)), ⟨⟨_, he'⟩, hit⟩, fun b hb => ?_, a1 _ G1 H1 (Grow.refl hG) (walk_enumT q1 l1)⟩
    rcases List.mem_cons.mp hb with rfl | hb
    · exact I1.fpOk (Nat.le_succ _) (I1.hok.fresh (Nat.le_succ _))
    · have e : b = s1.heap.objs.size := by simpa using hb
      subst e
      exact I1.fpOk (Nat.le_refl _) I1.fresh
  · exact a1.elim
end
end Sm
end
section
set_option Elab.async false
set_option linter.all false
set_option maxRecDepth 100000
set_option maxHeartbeats 4000000
set_option autoImplicit false
namespace Sm
open PySem PySem.W PyProof.Rows
section
variable {prog : Program} {w : World} {A : Around} {E : Value → Shared → Prop} {s : Shared}
abbrev viewObj (d : Addr) : Obj := { cls := .type "dict_values", data := .fields #[.ref d] }
theorem vals_made (d : Addr) (hd : (d == sysModules) = false) :
    MeetsIn prog w (Builtin.«dict.values» ⟨[.ref d], []⟩) (fun _ R s => s.TypeIs (.ref d) "dict" ∧ R (.ok (.ret (.ref s.heap.objs.size))) { s with heap := s.heap.push (viewObj d) }) :=
  .of_wp fun A R s h => by
    refine wpAny_bind ?_
    unfold Builtin.Dict.noArgs
    refine wpAny_bind (wpAny_notOrdered_dict h.1 (wpAny_pure ?_))
    have hz : wpAny (model prog w) A.in1 (Builtin.Dict.showsAll d) (fun _ t => t = s) (fun e t => R (.error e) t) s := by
      unfold Builtin.Dict.showsAll
      rw [hd]
      exact wpAny_pure rfl
    refine wpAny_bind (wpAny_mono hz (fun _ t e => ?_) fun _ _ e => e)
    subst e
    exact wpAny_bind (wpAny_newObj_type (wpAny_pure ⟨_, rfl, h.2⟩))
theorem iter_vals {v d : Addr} {od : Obj} {es : Array DictEntry} {ep : Nat} {Q : Value → Shared → Prop} (hv : s.heap.IsValuesView v d) (ho : s.heap.get? d = some od) (hdat : od.data = .dict es ep)
    (hQ : Q (.ref s.heap.objs.size) { s with heap := s.heap.push { cls := .type "dict_valueiterator", data := .fields #[.ref d, .int 0 0, .int es.size 0, .int ep 0] } }) :
    wpAny (model prog w) A (pyIter (.ref v)) Q E s := by
  obtain ⟨ov, hov, hcv, hdv⟩ := id hv
  refine wpAny_pyIter_slot hv.typeIs F.slot_dict_values_iter (wpAny_call_entry F.slot_dict_values_iter hv.typeIs F.entry_dict_values_iter ?_ (F.args_dict_values_iter_1 _))
  unfold Builtin.«dict_values.__iter__» Builtin.Dict_items.dictOf Builtin.Dict_items.newIterator
  refine wpAny_bind (wpAny_pure (wpAny_bind (wpAny_bind (wpAny_field hov hdv (x := .ref d) rfl (wpAny_pure (wpAny_bind ?_))))))
  refine wpAny_bind (wpAny_dictEntries ho hdat (wpAny_bind (wpAny_dictEpoch ho hdat ?_)))
  simp only [show Builtin.Dict_items.ownsTuple "dict_valueiterator" = false by decide, Bool.false_eq_true, if_false]
  refine wpAny_newObj_type (wpAny_pure ⟨_, rfl, "dict_valueiterator", _, ⟨_, Heap.get?_push_size _ rfl, rfl⟩, F.slot_dict_valueiterator_next.lookup, ?_⟩)
  simpa [rawInt] using hQ
theorem next_val {it d : Addr} {i ep : Nat} {od : Obj} {es : Array DictEntry} {Q : Option Value → Shared → Prop} (hit : s.heap.IsValIter it d i es.size ep) (hod : s.heap.get? d = some od) (hdd : od.data = .dict es ep) (hlt : i < es.size)
    (hQ : ∀ h', h'.IsValIter it d (i + 1) es.size ep → Heap.SameBut it s.heap h' → Q (some es[i].val) { s with heap := h' }) : wpAny (model prog w) A (pyNext (.ref it)) Q E s := by
  obtain ⟨o, ho, hc, hd⟩ := id hit
  have hnew : (s.heap.update it (Obj.mapFields (·.setIfInBounds 1 (rawInt ((i : Int) + 1))))).IsValIter it d (i + 1) es.size ep := by
    refine ⟨_, Heap.get?_update_self _ ho (Obj.isFreed_of_fields (Obj.data_mapFields hd _)), (Obj.cls_mapFields ..).trans hc, ?_⟩
    rw [Obj.data_mapFields hd]
    simp [rawInt]
  have hty : Shared.TypeIs { s with heap := s.heap.update it (Obj.mapFields (·.setIfInBounds 1 (rawInt ((i : Int) + 1)))) } (.ref it) "dict_valueiterator" := hnew.typeIs
  unfold pyNext
  refine wpAny_bind (wpAny_attempt ?_)
  refine wpAny_callSpecial?_slot (name := Str.ofString "__next__") hit.typeIs F.slot_dict_valueiterator_next ?_
  refine wpAny_call_entry F.slot_dict_valueiterator_next hit.typeIs F.entry_dict_valueiterator_next ?_ (F.args_dict_valueiterator_next_1 _)
  refine wpAny_bind (wpAny_pure (wpAny_bind (wpAny_bind ?_)))
  refine wpAny_bind (wpAny_typeNameOfWhole_valiter hit.typeIs (wpAny_pure ?_))
  refine wpAny_bind (wpAny_fieldsOf ho hd ?_)
  simp only [show Builtin.Dict_items.ownsTuple "dict_valueiterator" = false by decide, Bool.false_eq_true, if_false]
  show wpAny _ _ (if (Value.ref d == Value.none) = true then _ else _) _ _ s
  rw [if_neg (by exact Bool.false_ne_true)]
  refine wpAny_bind (wpAny_pure (wpAny_bind (wpAny_dictEntries hod hdd ?_)))
  rw [if_neg (by simp)]
  refine wpAny_bind (wpAny_pure (wpAny_bind (wpAny_dictEpoch hod hdd ?_)))
  rw [if_neg (by simp)]
  refine wpAny_pure ?_
  simp only [show ¬ ((i : Int) < 0) from by omega, if_false, Int.toNat_natCast, Array.getElem?_eq_getElem hlt]
  refine wpAny_bind (wpAny_bind (wpAny_typeNameOfWhole_valiter hit.typeIs (wpAny_pure ?_)))
  refine wpAny_bind (wpAny_isOneOf_valiter hit.typeIs ?_)
  show wpAny _ _ (setField (.ref it) 1 (rawInt ((i : Int) + 1)) >>= _) _ _ s
  refine wpAny_bind (wpAny_setField ho hd (by simp) (wpAny_bind (wpAny_holding ?_)))
  refine wpAny_bind (wpAny_isOneOf_valiter hty ?_)
  refine wpAny_bind (wpAny_isOneOf_valiter hty ?_)
  exact wpAny_pure (wpAny_pure ⟨_, rfl, wpAny_pure (hQ _ hnew (Heap.SameBut.update ..))⟩)
theorem end_val {it d : Addr} {ep : Nat} {od : Obj} {es : Array DictEntry} {Q : Option Value → Shared → Prop} (hh : A.handled = none) (hit : s.heap.IsValIter it d es.size es.size ep) (hod : s.heap.get? d = some od) (hdd : od.data = .dict es ep)
    (hQ : ∀ h', Heap.ExtBut it s.heap h' → Q none { s with heap := h' }) : wpAny (model prog w) A (pyNext (.ref it)) Q E s := by
  obtain ⟨o, ho, hc, hd⟩ := id hit
  unfold pyNext
  refine wpAny_bind (wpAny_attempt ?_)
  refine wpAny_callSpecial?_slot (name := Str.ofString "__next__") hit.typeIs F.slot_dict_valueiterator_next ?_
  refine wpAny_call_entry F.slot_dict_valueiterator_next hit.typeIs F.entry_dict_valueiterator_next ?_ (F.args_dict_valueiterator_next_1 _)
  refine wpAny_bind (wpAny_pure (wpAny_bind (wpAny_bind ?_)))
  refine wpAny_bind (wpAny_typeNameOfWhole_valiter hit.typeIs (wpAny_pure ?_))
  refine wpAny_bind (wpAny_fieldsOf ho hd ?_)
  simp only [show Builtin.Dict_items.ownsTuple "dict_valueiterator" = false by decide, Bool.false_eq_true, if_false]
  show wpAny _ _ (if (Value.ref d == Value.none) = true then _ else _) _ _ s
  rw [if_neg (by exact Bool.false_ne_true)]
  refine wpAny_bind (wpAny_pure (wpAny_bind (wpAny_dictEntries hod hdd ?_)))
  rw [if_neg (by simp)]
  refine wpAny_bind (wpAny_pure (wpAny_bind (wpAny_dictEpoch hod hdd ?_)))
  rw [if_neg (by simp)]
  refine wpAny_pure ?_
  simp only [show ¬ ((es.size : Int) < 0) from by omega, if_false, Int.toNat_natCast, Array.getElem?_eq_none (Nat.le_refl _)]
  refine wpAny_bind (wpAny_bind (wpAny_typeNameOfWhole_valiter hit.typeIs (wpAny_pure ?_)))
  show wpAny _ _ (setField (.ref it) 0 .none >>= _) _ _ s
  refine wpAny_bind (wpAny_setField ho hd (by simp) ?_)
  show wpAny _ _ (newExc (.type "StopIteration") [] >>= _) _ _ _
  refine wpAny_bind ?_
  simp only [newExc, newTuple]
  refine wpAny_bind (wpAny_newObj_type ?_ (by size_fits))
  refine wpAny_bind (m := firstArgMember _ _) (wpAny_of_eq (a := Value.none) (by first | rfl | (simp only [firstArgMember]; rfl)) (wpAny_newObj_type ?_ (by size_fits)))
  simp only [raiseNew]
  refine wpAny_bind (wpAny_handled ?_)
  rw [show A.in1.handled = none from hh]
  refine wpAny_bind (wpAny_pure (wpAny_throw (wpAny_bind ?_)))
  refine wpAny_isInstance (T := "StopIteration") (b := true) ⟨_, Heap.get?_push_size _ rfl, rfl⟩ isSubtype_stop ?_
  exact wpAny_pure (hQ _ (((Heap.SameBut.update ..).extBut.push _).push _))
theorem walk_vals (hh : A.handled = none) (I d : Addr) (hne : d ≠ I) (od : Obj) (es : Array DictEntry) (ep : Nat) (hdd : od.data = .dict es ep) :
    Walks prog w A I [I, d] [I] es.size (fun i v => ∃ e, es[i]? = some e ∧ v = e.val) (fun i h => h.IsValIter I d i es.size ep ∧ h.get? d = some od) where
  sub := fun b hb => by simp at hb; simp [hb]
  frame := fun _ _ _ st hk => ⟨st.1.at fun o e => hk I (by simp) o e, hk d (by simp) _ st.2⟩
  item := fun i s Q E hi st hQ => by
    refine next_val st.1 st.2 hdd hi fun h' n hs => ?_
    exact hQ _ h' s.toks ⟨es[i], by simp [hi], rfl⟩ ⟨n, hs.extBut d _ hne st.2⟩ fun b o hb e => hs.extBut b o (fun z => hb (by simp [z])) e
  done := fun s Q E st hQ => end_val hh st.1 st.2 hdd fun h' he => hQ h' s.toks fun b o hb e => he b o (fun z => hb (by simp [z])) e
  self := fun _ _ _ _ st hQ => wpAny_pyIter_valiter st.1 hQ
theorem src_vals {r d : Addr} {od : Obj} {es : Array DictEntry} {ep : Nat} (hdd : od.data = .dict es ep) :
    KdlSrc prog w "dict_values" r d es.size (fun i v => ∃ e, es[i]? = some e ∧ v = e.val) (fun h => h.IsValuesView r d ∧ h.get? d = some od) where
  type := fun _ hm => hm.1.typeIs
  there := fun _ hm => ⟨let ⟨_, ho, _⟩ := hm.1; Heap.lt_size ho, Heap.lt_size hm.2⟩
  keep := fun _ _ hm hk => ⟨let ⟨o, ho, x⟩ := hm.1; ⟨o, hk r (.inl rfl) o ho, x⟩, hk d (.inr rfl) _ hm.2⟩
  notList := by decide
  notTuple := by decide
  hint := fun _ _ _ _ hm hq => kdl_hint_values hm.1.typeIs hq
  iter := fun _ _ hh hm => ⟨_, _, (fun _ _ hq => iter_vals hm.1 hm.2 hdd hq), walk_vals hh _ d (Nat.ne_of_lt (Heap.lt_size hm.2)) od es ep hdd, ⟨⟨_, Heap.get?_push_size _ rfl, rfl, rfl⟩, Heap.get?_push_of_some _ hm.2⟩⟩
theorem collect_vals {T : String} {r d : Addr} {n : Nat} {P : Nat → Value → Prop} {OK : Heap → Prop} {Q : List Value → Shared → Prop} (K : KdlSrc prog w T r d n P OK) (hh : A.handled = none) (hok : OK s.heap) (hn : n ≤ sizeLine)
    (hQ : ∀ (h' : Heap) tk acc, (∀ b o, s.heap.get? b = some o → h'.get? b = some o) → ItemsOf P acc n → Q acc.toList { s with heap := h', toks := tk }) : wpAny (model prog w) A (collect (.ref r)) Q E s := by
  have hlt := K.there _ hok
  have hS : (s.heap.push { cls := .type "list", data := .seq ([] : List Value).toArray }).get? s.heap.objs.size = some { cls := .type "list", data := .seq #[] 0 } := Heap.get?_push_size _ rfl
  unfold collect
  refine wpAny_bind (wpAny_runValue (codeAny_builtin F.entry_proto_collect ?_))
  rw [Around.under_plainId F.plain_proto_collect _]
  refine wpAny_bind (wpAny_newObj_type (wpAny_pure ⟨plainId_quiet F.plain_list_iadd _, codeAny_builtin F.entry_list_iadd ?_⟩))
  rw [Around.under_plainId F.plain_list_iadd _]
  refine wpAny_mono (kdl_extend (A := A) (s := { s with heap := s.heap.push { cls := .type "list", data := .seq ([] : List Value).toArray } })
    (R := fun res s' => ∃ h' tk acc c, res = .ok (.ret (.ref s.heap.objs.size)) ∧ s' = { s with heap := h', toks := tk } ∧ (∀ b o, s.heap.get? b = some o → h'.get? b = some o) ∧
      h'.get? s.heap.objs.size = some { cls := .type "list", dict := none, data := .seq acc c, slots := #[] } ∧ ItemsOf P acc n)
    K hh (K.keep _ _ hok fun b _ o e => Heap.get?_push_of_some _ e) s.heap.objs.size (Nat.ne_of_gt hlt.1) (Nat.ne_of_gt hlt.2) (.ref s.heap.objs.size) 0 hS
    (fun h' tk acc c hk hS' hacc => ⟨h', tk, acc, c, rfl, rfl, fun b o e => hk b o (Nat.ne_of_lt (Heap.lt_size e)) (Heap.get?_push_of_some _ e), hS', hacc⟩) hn) (fun fin s' h => ?_) (fun e s' h => ?_)
  · cases fin with
    | done f =>
      obtain ⟨h', tk, acc, c, e, rfl, hk, hS', hacc⟩ := h
      cases e
      exact wpAny_bind (wpAny_load hS' (wpAny_pure (hQ h' tk acc hk hacc)))
    | again c' =>
      refine ⟨h.1, codeAny_mono h.2 fun r s'' hr => ?_⟩
      obtain ⟨h', tk, acc, c, rfl, rfl, hk, hS', hacc⟩ := hr
      exact wpAny_bind (wpAny_load hS' (wpAny_pure (hQ h' tk acc hk hacc)))
  · obtain ⟨_, _, _, _, e, _⟩ := h
    cases e
theorem code_tuple_vals {T : String} {r d : Addr} {n : Nat} {P : Nat → Value → Prop} {OK : Heap → Prop} {Q₁ : Value → Shared → Prop} (K : KdlSrc prog w T r d n P OK) (hh : A.handled = none) (hok : OK s.heap) (hn : n ≤ sizeLine)
    (h : ∀ (h' : Heap) tk acc, (∀ b o, s.heap.get? b = some o → h'.get? b = some o) → ItemsOf P acc n → Q₁ (.ref h'.objs.size) { s with heap := h'.push { cls := .type "tuple", data := .seq acc }, toks := tk }) :
    codeAny (model prog w) A (.call (.builtin "tuple.__new__") ⟨[.type "tuple", .ref r], []⟩) (wants Q₁ E) s := by
  refine codeAny_of_tree (wpAny_bind (wpAny_of_eq (F.newCall_tuple_1 _) (wpAny_pure ⟨plainId_quiet F.plain_tuple_new _, codeAny_builtin F.entry_tuple_new ?_⟩)))
  rw [Around.under_plainId F.plain_tuple_new _]
  have q1 := sub_tuple_self
  have q2 := init_tuple_lookup
  have q3 := madeHere_tuple
  have hT := K.type s hok
  have hnt := K.notTuple
  wp_walk using wpAny_typeOf hT, collect_vals K (show A.in1.handled = none from hh) hok hn
  intro h' tk acc hk hacc
  unfold Builtin.Tuple.tupleExact
  refine wpAny_bind (wpAny_pure (wpAny_bind (wpAny_newObj_type (wpAny_pure ?_) ?_)))
  · simpa using h h' tk acc hk hacc
  · rw [Array.toArray_toList]; show acc.size ≤ sizeLine; rw [hacc.1]; exact hn
theorem call_tuple_vals {T : String} {r d : Addr} {n : Nat} {P : Nat → Value → Prop} {OK : Heap → Prop} {Q : Value → Shared → Prop} (K : KdlSrc prog w T r d n P OK) (hh : A.handled = none) (hok : OK s.heap) (hn : n ≤ sizeLine)
    (h : ∀ (h' : Heap) tk acc, (∀ b o, s.heap.get? b = some o → h'.get? b = some o) → ItemsOf P acc n → Q (.ref h'.objs.size) { s with heap := h'.push { cls := .type "tuple", data := .seq acc }, toks := tk }) :
    wpAny (model prog w) A (call (.type "tuple") [.ref r]) Q E s := by
  refine callType_codes (Q₁ := fun obj t => t.TypeIs obj "tuple" ∧ Q obj t) F.called_tuple (F.typeCall_tuple_1 _) F.entry_object_init
    (code_tuple_vals K hh hok hn fun h' tk acc hk hacc => ⟨⟨_, Heap.get?_push_size _ rfl, rfl⟩, h h' tk acc hk hacc⟩) fun obj t ht => ?_
  exact ⟨ht.1, F.args_object_init_2 obj _, object_init_meets F.called_tuple.init.lookup F.called_tuple.made (by decide) prog w A.in1 _ t ⟨ht.1, rfl, ht.2⟩⟩
end
end Sm
end
section
set_option Elab.async false
set_option linter.all false
set_option maxRecDepth 100000
set_option maxHeartbeats 4000000
set_option autoImplicit false
namespace Sm
open PySem PySem.Spec PyProof.Rows L2
section
variable {X : Cx}
abbrev ViewO (p a : Addr) : HO := .ext fun h => h.IsValuesView p a
theorem mt_vals : MtR X "dict.values" (fun x xs H Q => ∃ a kk, x = .ref a ∧ xs = [] ∧ Rd H a (.dT kk) ∧ ∀ p, H p = none → Q (.ref p) (upd H p (ViewO p a))) := by
  intro pins s σ H x xs v us Q I r rs ⟨a, kk, hx, hxs, hd, q⟩
  subst hx hxs
  cases rs
  cases (show v = Value.ref a from r)
  obtain ⟨z, hsys, ys, rel, dd⟩ := dt_rd I.hok hd
  refine call_meetsIn PySem.F.slot_dict_values dd.typeIs PySem.F.entry_dict_values (PySem.F.args_dict_values_1 _) (vals_made a hsys) ⟨dd.typeIs, ?_⟩
  refine ⟨.ref s.heap.objs.size, _, I.laid (a := s.heap.objs.size) (o := ViewO s.heap.objs.size a) (t' := s.toks) (fun b o e => Heap.get?_push_of_some _ e) (Nat.le_refl _) ?_, rfl, q _ (I.hok.fresh (Nat.le_refl _))⟩
  exact ⟨⟨_, Heap.get?_push_size _ rfl, rfl, rfl⟩, ⟨_, Heap.get?_push_size _ rfl⟩, fun h1 h2 ⟨o, e, x⟩ k => ⟨o, k o e, x⟩⟩
theorem vals_of_pairs {H : Hp} : ∀ {kk : List (List Key × V)} {ys : List (List Key × Addr × Value)}, KT H kk ys → Vals (kk.map (·.2)) (ys.map (·.2.2))
  | _, _, .nil => .nil
  | _, _, .cons r t => .cons r.2.2 (vals_of_pairs t)
theorem call_tuple_view (hh : X.A.handled = none) : CallR X (.type "tuple") (fun xs H Q => ∃ p a kk, xs = [.ref p] ∧ H p = some (ViewO p a) ∧ Rd H a (.dT kk) ∧ ∀ l, H l = none → Q (.ref l) (upd H l (.tup (kk.map (·.2))))) := by
  intro pins s σ H xs us Q I r ⟨p, a, kk, hx, hp, ha, q⟩
  subst hx
  obtain ⟨u, rfl, ru⟩ := Vals.one r
  cases (show u = Value.ref p from ru)
  obtain ⟨hv, _, _⟩ := I.hok p _ hp
  obtain ⟨z, hsys, ys, rel, o, es, ep, ho, hex, hdat, hes, hnd⟩ := ha.ok I.hok
  have hlen : es.size = ys.length := by
    have := congrArg List.length hes
    rw [List.length_map] at this
    simpa using this
  have hkl : kk.length = ys.length := Paired.length rel
  refine call_tuple_vals (src_vals (r := p) (d := a) hdat) hh ⟨hv, ho⟩ (by rw [hlen, ← hkl]; exact z) fun h' tk acc hk hacc => ?_
  have hacc2 : acc.toList = ys.map (·.2.2) := by
    apply List.ext_getElem?
    intro j
    by_cases hj : j < es.size
    · have hja : j < acc.size := by rw [hacc.1]; exact hj
      obtain ⟨e, e1, e2⟩ := hacc.2 j acc[j] (by simp [hja])
      have e3 : es.toList[j]? = some e := by rw [← e1]; simp
      rw [hes, List.getElem?_map] at e3
      have hjy : j < ys.length := by rw [← hlen]; exact hj
      rw [List.getElem?_map]
      rw [List.getElem?_eq_getElem hjy] at e3 ⊢
      simp only [Option.map_some, Option.some.injEq] at e3 ⊢
      rw [Array.getElem?_toList, Array.getElem?_eq_getElem hja, e2, ← e3]
      rfl
    · rw [List.getElem?_eq_none (by simpa [hacc.1] using Nat.not_lt.mp hj), List.getElem?_eq_none (by rw [List.length_map, ← hlen]; exact Nat.not_lt.mp hj)]
  have I1 : Inv X pins σ H { s with heap := h', toks := tk } := I.kept (t' := tk) hk
  have I2 : Inv X pins σ (upd H h'.objs.size (.tup (kk.map (·.2)))) { s with heap := h'.push { cls := .type "tuple", data := .seq acc }, toks := tk } := by
    refine I1.laid (t' := tk) (fun b o e => Heap.get?_push_of_some _ e) (Nat.le_refl _) (show ObjOk X.prog X.w _ _ _ (.tup (kk.map (·.2))) from ⟨by rw [List.length_map]; exact z, acc.toList, ?_, ?_⟩)
    · rw [hacc2]; exact vals_of_pairs rel
    · rw [Array.toArray_toList]; exact IsTup.new _ _
  exact ⟨.ref h'.objs.size, _, I2, rfl, q _ (I1.hok.fresh (Nat.le_refl _))⟩
end
section
variable {P : Program} {w : World} {K : PySem.W.Frag} {mg : Str → Option Value} {base : Heap} {X : Cx} {N : List Str} {sc : Scope} {k : Nat} {df : Bool} {E : EK} {pos p p1 px py tp spos p2 apos cpos : Pos} {a b c e e1 : Expr} {es : List Expr} {f g : Dn → Res PyData} {x : Str} {i : Nat}
def vTupVals (i : Nat) : Dn → Res PyData := fun δ => match δ[i]? with
  | some (.ow (.dict kvs)) => .ok (.tuple (kvs.map (·.2)))
  | _ => .no
theorem d_tupVals (C : Cxt P w K mg base X N sc k df) (h : okGl sc "tuple" = true) (hm : mg "tuple" = none) (i : Nat) (hv : okVar N sc i x = true)
    (hbase : attributeBase (.Name x p1) "values" X.env (eval (.Name x p1) X.env) = eval (.Name x p1) X.env := by rfl) (hline : (apos.endLine == cpos.line) = true := by rfl)
    (he : starEach [.Call (.Attribute (.Name x p1) "values" apos) [] [] cpos] X.env = (false, eval (.Call (.Attribute (.Name x p1) "values" apos) [] [] cpos) X.env) :: starEach [] X.env := by rfl)
    (hpl : (backTo pos (starEach [] X.env)).any (·.1) = false := by rfl) :
    DE X E (.Call (.Name "tuple" p) [.Call (.Attribute (.Name x p1) "values" apos) [] [] cpos] [] pos) (vTupVals i) := by
  obtain ⟨h1, h2, h3⟩ := okGl.gl C h
  refine PE.imp (pe_callTy (call_tuple_view C.room.hd) h1 (by rw [C.hmg]; exact hm) (by decide +kernel) (pa_cons (pe_bm0 PySem.F.plainAttrs_dict PySem.F.slot_dict_values PySem.F.type_dict_values mt_vals (okVar.pe C hv) hbase hline) pa_nil he) h3 h2 he hpl) fun σ H Q ⟨G, δ, S, aft⟩ => ?_
  unfold vTupVals at aft
  split at aft
  · rename_i kvs hi
    obtain ⟨q, hσ, hg, kv, hx, hkeys, hvals⟩ := S.own hi
    refine ⟨.ref q, hσ, .inr (.inr (.inl ⟨rfl, .inr ⟨kv, hx⟩⟩)), q, kv, rfl, rfl, .inl hx, fun v hv => ?_⟩
    have hne : q ≠ v := ne_of_none hx hv
    refine ⟨v, q, kv, rfl, upd_same, .inl (by rw [upd_ne hne]; exact hx), fun l hl => ?_⟩
    have g1 : Grow G H G (upd H v (ViewO v q)) := Grow.own S.sub hv
    exact aft _ _ _ (g1.trans (Grow.new (o := .tup (kv.map (·.2))) g1.gh hl)) ⟨l, kv.map (·.2), rfl, upd_same, hvals.mono (Same.upd (g1.gh.free hl))⟩
  · exact aft.elim
end
end Sm
end
section
set_option Elab.async false
set_option linter.all false
set_option maxRecDepth 100000
set_option maxHeartbeats 4000000
set_option autoImplicit false
namespace Sm
open PySem PySem.Spec PyProof.Rows L2
theorem valV_lift (k : Key) : ∀ kk : List (Key × V), valV (liftK kk) [k] = valV kk k
  | [] => rfl
  | q :: r => by
    show valV (([q.1], q.2) :: liftK r) [k] = valV (q :: r) k
    by_cases h : q.1 = k
    · rw [valV_pos h, valV_pos (p := ([q.1], q.2)) (by rw [h])]
    · rw [valV_neg h, valV_neg (p := ([q.1], q.2)) (fun z => h (List.cons.inj z).1)]
      exact valV_lift k r
theorem any_lift (k : Key) (kk : List (Key × V)) : ((liftK kk).any fun kv => decide (kv.1 = [k])) = kk.any fun kv => decide (kv.1 = k) := by
  rw [valV_any, valV_any, valV_lift]
theorem put_lift (kk : List (Key × V)) (k : Key) (v : V) : putK (liftK kk) [k] v = liftK (putK kk k v) := by
  have e := any_lift k kk
  unfold putK
  by_cases h : (kk.any fun kv => decide (kv.1 = k)) = true
  · rw [if_pos h, if_pos (by rw [e]; exact h)]
    unfold liftK
    rw [List.map_map, List.map_map]
    apply List.map_congr_left
    intro q _
    simp only [Function.comp]
    by_cases hq : q.1 = k
    · rw [if_pos hq, if_pos (by rw [hq])]
    · rw [if_neg hq, if_neg (fun z => hq (List.cons.inj z).1)]
  · rw [if_neg h, if_neg (by rw [e]; exact h)]
    unfold liftK
    rw [List.map_append]
    rfl
theorem keyOf1 {G : Hp} {d : PyData} {v : V} {kk : List Key} (r : Rep G d v) (e : keyOf [d] = some kk) : ∃ k, kk = [k] ∧ v = kV k ∧ d = keyD k := by
  obtain ⟨e1, e2⟩ := keyOf_rep (RepL.cons r RepL.nil) e
  cases kk with
  | nil => cases e1
  | cons k t =>
    cases t with
    | cons _ _ => cases e1
    | nil =>
      simp only [List.map_cons, List.map_nil, List.cons.injEq, and_true] at e1 e2
      exact ⟨k, rfl, e1, e2⟩
section
variable {P : Program} {w : World} {K : PySem.W.Frag} {mg : Str → Option Value} {base : Heap} {X : Cx} {N : List Str} {sc : Scope} {k : Nat} {df : Bool} {E : EK} {pos p p1 px py tp spos p2 apos cpos : Pos} {a b c e e1 : Expr} {es : List Expr} {f g : Dn → Res PyData} {x : Str} {i : Nat}
def sDictK (i : Nat) : Dn → Out := fun δ => .nx (δ.set i (.ow (.tuple [.dict []])))
theorem s_dictK (C : Cxt P w K mg base X N sc k df) (i : Nat) (ho : okSet N sc df i x = true) (hs : swapsWith (.Dict [] [] p2) (some (.Name x p)) pos.line X.env = pure false := by rfl) : DS X E (.Assign [.Name x p] (.Dict [] [] p2) pos) (sDictK i) := fun G0 H0 => by
  obtain ⟨h1, h2, h3, h4⟩ := okSet.ok C ho
  refine PS.imp (ps_set h1 h2 h3 pe_dnewK hs h4) fun D σ H ⟨G, δ, S, a⟩ q hq => ?_
  have S1 := S.grow (Grow.own (o := .dK []) S.sr.sub hq)
  exact a _ G _ (S1.set_ow (S.gr.h.free hq) (S.sr.sub.free hq) ⟨[], upd_same, rfl, rfl⟩ (fresh_slot S hq))
def sPutK (i : Nat) (fk fv : Dn → Res PyData) : Dn → Out := fun δ => match δ[i]? with
  | some (.ow (.tuple [.dict kvs])) => thenS (fv δ) fun v => thenS (fk δ) fun kd => match keyOf [kd] with
    | some kk => if kvs.length < sizeLine then .nx (δ.set i (.ow (.tuple [.dict (putKv kvs kk v)]))) else .no
    | none => .no
  | _ => .no
theorem s_putK (C : Cxt P w K mg base X N sc k df) (i : Nat) (h : okVar N sc i x = true) (hk : DE X E a f) (hv : DE X E b g) (hs : swapsWith b (some (.Subscript (.Name x p) a p2)) pos.line X.env = pure false := by rfl) : DS X E (.Assign [.Subscript (.Name x p) a p2] b pos) (sPutK i f g) := fun G0 H0 => by
  refine PS.imp (ps_dput C.hu1 (okVar.pe C h) hk hv hs) fun D σ H ⟨G, δ, S, aft⟩ => ?_
  unfold sPutK at aft
  split at aft
  · rename_i kvs hi
    refine aftS_D S aft fun v x1 G1 H1 g1 r1 S1 a1 => ?_
    obtain ⟨q, hσ, hg, kv, hx, hkeys, hvals⟩ := S1.sr.own hi
    refine ⟨.ref q, hσ, ?_⟩
    refine aftS_D S1 a1 fun kd x2 G2 H2 g2 r2 S2 a2 => ?_
    obtain ⟨q', hσ', hg', kv', hx', hkeys', hvals'⟩ := S2.sr.own hi
    rw [hσ] at hσ'; cases hσ'
    cases ek : keyOf [kd] with
    | none => simp only [ek] at a2; exact a2.elim
    | some kk =>
      simp only [ek] at a2
      split at a2
      · rename_i hz
        obtain ⟨k0, rfl, rfl, _⟩ := keyOf1 r2 ek
        have hlen : kv'.length < sizeLine := by
          have := congrArg List.length hkeys'
          rw [List.length_map, List.length_map] at this
          unfold liftK at this
          rw [List.length_map] at this
          omega
        refine ⟨q, _, rfl, DPut.k hx' hlen, ?_⟩
        obtain ⟨p1, p2⟩ := put_rep (kk := [k0]) (r1.mono g2.g) hkeys' hvals'
        rw [put_lift] at p1 p2
        exact a2 σ G2 _ (S2.write hi (by rw [hσ]; rfl) hg' ⟨_, upd_same, p1, p2⟩)
      · exact a2.elim
  · exact aft.elim
def vGetK (i : Nat) (f g : Dn → Res PyData) : Dn → Res PyData := fun δ => match δ[i]? with
  | some (.ow (.tuple [.dict kvs])) => (f δ).bind fun kd => (g δ).bind fun dd => match keyOf [kd] with
    | some kk => .ok ((getKv kvs kk).getD dd)
    | none => .no
  | _ => .no
theorem d_getK (C : Cxt P w K mg base X N sc k df) (i : Nat) (h : okVar N sc i x = true) (ha : DE X E a f) (hb : DE X E b g) (m : M2 X (.Name x p) "get" apos a b cpos := by exact ⟨rfl, rfl, rfl, rfl⟩) :
    DE X E (.Call (.Attribute (.Name x p) "get" apos) [a, b] [] cpos) (vGetK i f g) := by
  refine PE.imp (pe_dget2 C.hu1 (okVar.pe C h) ha hb m) fun σ H Q ⟨G, δ, S, aft⟩ => ?_
  unfold vGetK at aft
  split at aft
  · rename_i kvs hi
    obtain ⟨q, hσ, hg, kv, hx, hkeys, hvals⟩ := S.own hi
    refine ⟨.ref q, hσ, q, rfl, .inl ⟨kv, .inl hx⟩, ?_⟩
    refine aft_bind S aft fun kd x1 G1 H1 g1 r1 S1 a1 => ?_
    refine aft_bind S1 a1 fun dd x2 G2 H2 g2 r2 S2 a2 => ?_
    cases ek : keyOf [kd] with
    | none => simp only [ek] at a2; exact a2.elim
    | some kk =>
      simp only [ek] at a2
      obtain ⟨k0, rfl, rfl, _⟩ := keyOf1 r1 ek
      refine ⟨_, DGet.k (k := k0) (g2.h _ _ (g1.h _ _ hx)), ?_⟩
      rw [← valV_lift]
      rcases get_rep (kk := [k0]) hkeys hvals with ⟨n1, n2⟩ | ⟨d0, v0, n1, n2, rd⟩
      · rw [n1] at a2; rw [n2]; exact a2 _ G2 H2 (Grow.refl S2.sub) r2
      · rw [n1] at a2; rw [n2]; exact a2 _ G2 H2 (Grow.refl S2.sub) ((rd.mono g1.g).mono g2.g)
  · exact aft.elim
end
def tR (E : EK) (g : Dn → Res PyData) : TS := fun D σ H => ∃ G δ, SR G H σ δ ∧ Aft E G H (g δ) D.rt
def DR (X : Cx) (E : EK) (st : List Stmt) (g : Dn → Res PyData) : Prop := PSs X st (tR E g)
def rIf (c : Dn → Res Bool) (g1 g2 : Dn → Res PyData) : Dn → Res PyData := fun δ => (c δ).bind fun b => if b = true then g1 δ else g2 δ
def spL (m : List (PyData × PyData) → PyData → Res PyData) : Sp := fun vs H Q _ => ∃ G a v kvs d r, Same G H ∧ vs = [.ref a, v] ∧ G a = none ∧ OwnOk G H a (.dict kvs) ∧ Rep G d v ∧ m kvs d = .ok r ∧ ∀ v G' H', Grow G H G' H' → Rep G' r v → Q v H'
structure FnL (P : Program) (w : World) (K : PySem.W.Frag) (mg : Str → Option Value) (base : Heap) (x : Str) (k : Nat) (m : List (PyData × PyData) → PyData → Res PyData) : Prop where
  ex : ∃ f fd ps, ps.length = 2 ∧ FnOk P w K mg base CX0 k f fd ps (spL m) ∧ mg x = some (.ref f) ∧ PySem.W.keepIn K (.ref f) = true ∧ Binds K fd ps []
def fnL (g : Dn → Res PyData) : List (PyData × PyData) → PyData → Res PyData := fun kvs d => g [.ow (.dict kvs), .sh d]
def vCallL (i : Nat) (f : Dn → Res PyData) (m : List (PyData × PyData) → PyData → Res PyData) : Dn → Res PyData := fun δ => match δ[i]? with
  | some (.ow (.dict kvs)) => (f δ).bind fun d => m kvs d
  | _ => .no
section
variable {P : Program} {w : World} {K : PySem.W.Frag} {mg : Str → Option Value} {base : Heap} {X : Cx} {N : List Str} {sc : Scope} {k : Nat} {df : Bool} {E : EK} {pos p p1 px py tp spos p2 apos cpos : Pos} {a b c e e1 : Expr} {es : List Expr} {f g : Dn → Res PyData} {x y : Str} {i : Nat} {sts rest : List Stmt} {tt : Dn → Res Bool} {g1 g2 : Dn → Res PyData}
theorem r_ret (h : DE X E e f) : DR X E [.Return (some e) pos] f := PSs.imp (pss_one (ps_ret h)) fun D σ H ⟨G, δ, S, a⟩ => ⟨G, δ, S, a⟩
theorem r_if (hc : DT X E c tt) (h1 : DR X E sts g1) (h2 : DR X E rest g2) : DR X E (.If c sts [] pos :: rest) (rIf tt g1 g2) := by
  refine PSs.imp (pss_cons (ps_if hc h1 pss_nil) h2) fun D σ H ⟨G, δ, S, a⟩ => ?_
  refine ⟨G, δ, S, ?_⟩
  unfold rIf at a
  cases q : tt δ with
  | ok d =>
    rw [q] at a
    intro G1 H1 g1
    cases d with
    | true => exact ⟨G1, δ, S.grow g1, Aft.grow g1 a⟩
    | false => exact ⟨G1, δ, S.grow g1, Aft.grow g1 a⟩
  | exc c => rw [q] at a; exact a
  | no => rw [q] at a; exact a
theorem fn_L {x : Str} {st : Stmt} {ps : List Str} {go : Dn → Res PyData} {m : List (PyData × PyData) → PyData → Res PyData} (F : Def K mg x st ps) (S : FnScope N ps (defScope st)) (hn : ps.length = 2) (hN : N.length = 2)
    (body : ∀ X, Cxt P w K mg base X N (defScope st) k true → DR X E0k (defBody st) go) (hm : m = fnL go) : FnL P w K mg base x (k + 1) m := by
  obtain ⟨f, fd, F, hmg, hb⟩ := F.ex
  refine ⟨f, fd, ps, hn, ?_, hmg, F.kp, hb⟩
  subst hm
  refine F.ok S (fun vs H Q E h => ?_) (fun cdv A outer s H vs Q E hr h => ?_)
  · obtain ⟨G, a, v, kvs, d, r, _, e, _⟩ := h
    rw [e, hn]; rfl
  · obtain ⟨G, a, v, kvs, d, r, hG, e, hg, ho, rd, em, q⟩ := h
    refine ⟨_, body _ ⟨rfl, rfl, rfl, rfl, rfl, rfl, rfl, rfl, hr, fun _ _ => rfl, PassesOwn.never⟩, G, [.ow (.dict kvs), .sh d], ?_, ?_⟩
    · have es : start N vs = [some (.ref a), some v] := by
        rw [e]; unfold L2.start; simp [hN]
      rw [es]
      refine ⟨hG, rfl, fun i s hs => ?_, fun i j b d1 d2 h1 h2 _ _ => ?_⟩
      · match i, hs with
        | 0, hs => cases hs; exact ⟨a, rfl, hg, ho⟩
        | 1, hs => cases hs; exact ⟨v, rfl, rd⟩
        | i + 2, hs => cases hs
      · match i, j, h1, h2 with
        | 0, 0, _, _ => rfl
        | 1, _, h1, _ => cases h1
        | 0, 1, _, h2 => cases h2
        | i + 2, _, h1, _ => cases h1
        | 0, j + 2, _, h2 => cases h2
    · unfold fnL at em
      rw [em]
      exact q
theorem d_callL {j : Nat} {m : List (PyData × PyData) → PyData → Res PyData} (C : Cxt P w K mg base X N sc k df) (F : FnL P w K mg base y j m) (hj : j ≤ k) (h : okGl sc y = true) (i : Nat) (hv : okVar N sc i x = true) (ha : DE X E0k e f)
    (he : starEach [.Name x p1, e] X.env = (false, eval (.Name x p1) X.env) :: starEach [e] X.env := by rfl) (he2 : starEach [e] X.env = (false, eval e X.env) :: starEach [] X.env := by rfl) (hpl : (backTo pos (starEach [e] X.env)).any (·.1) = false := by rfl) :
    DE X E0k (.Call (.Name y p) [.Name x p1, e] [] pos) (vCallL i f m) := by
  obtain ⟨fa, fd, ps, hps, F, hm, hk, hb⟩ := F.ex
  obtain ⟨h1, h2, h3⟩ := okGl.gl C h
  have F' : FnOk X.prog X.w X.K X.mg X.base CX0 j fa fd ps (spL m) := by rw [C.hP, C.hw, C.hK, C.hmg, C.hb]; exact F
  refine PE.imp (pe_call F' (C.room.mono hj) h1 (by rw [C.hmg]; exact hm) (by rw [C.hK]; exact hk) (by rw [C.hK]; exact hb) .nil (pass0 (X := X)) (pa_cons (okVar.pe C hv) (pa_cons ha pa_nil he2) he) h2 he hpl) fun σ H Q ⟨G, δ, S, aft⟩ => ?_
  unfold vCallL at aft
  split at aft
  · rename_i kvs hi
    obtain ⟨q, hσ, hg, ho⟩ := S.own hi
    refine ⟨.ref q, hσ, ?_⟩
    refine aft_bind S aft fun d v G1 H1 g1 r1 S1 a1 => ?_
    obtain ⟨q', hσ', hg', ho'⟩ := S1.own hi
    rw [hσ] at hσ'; cases hσ'
    cases em : m kvs d with
    | ok r => rw [em] at a1; exact ⟨G1, q, v, kvs, d, r, S1.sub, rfl, hg', ho', r1, em, a1⟩
    | exc c => rw [em] at a1; exact (a1 G1 H1 (Grow.refl S1.sub)).elim
    | no => rw [em] at a1; exact a1.elim
  · exact aft.elim
end
end Sm
end
section
set_option Elab.async false
set_option linter.all false
set_option maxRecDepth 100000
set_option maxHeartbeats 4000000
set_option autoImplicit false
namespace Sm
open PySem PySem.Spec PyProof.Rows L2
def top (i : Nat) : Stmt := PySem.Challenge.pw_staymark_k48_clocks.main.body.getD i (.Pass ⟨0, 0, 0, 0⟩)
def stm (i j : Nat) : Stmt := (defBody (top i)).getD j (.Pass ⟨0, 0, 0, 0⟩)
structure Txt (mg : Str → Option Value) : Prop where
  b_all : mg "all" = none
  b_enumerate : mg "enumerate" = none
  b_int : mg "int" = none
  b_len : mg "len" = none
  b_list : mg "list" = none
  b_max : mg "max" = none
  b_range : mg "range" = none
  b_tuple : mg "tuple" = none
  c_HANDS : ∃ t, mg "HANDS" = some (.str "abcdefgh" t)
def N_signs_named : List Str := ["deed", "named"]
def sem_signs_named : Dn → Out := (sSeq (sSet 1 (vLst aNil)) (sSeq (sIf (cVal (b2 (b2 (vVar 0) (vC (.int 0)) dIx) (vC (.str "add")) dEq)) (sSet 1 (vLst (aCons (b2 (vVar 0) (vC (.int 2)) dIx) aNil))) (sIf (cVal (b2 (b2 (vVar 0) (vC (.int 0)) dIx) (vC (.str "drop")) dEq)) (sSet 1 (vFn (aCons (b2 (vVar 0) (vC (.int 2)) dIx) aNil) dListF)) (sIf (cVal (b2 (b2 (vVar 0) (vC (.int 0)) dIx) (vC (.str "mark")) dEq)) (sSet 1 (vLst (aCons (b2 (b2 (vVar 0) (vC (.int 3)) dIx) (vC (.int 0)) dIx) (aCons (b2 (b2 (vVar 0) (vC (.int 4)) dIx) (vC (.int 0)) dIx) aNil)))) sNext))) (sRet (vLst (lComp (fun δ => ((vVar 1) δ).bind seqOf) bind1 [] (fun δ => ((vVar 0) δ).bind fun d => .ok (!isNone d)) (vVar 0))))))
def m_signs_named : List PyData → Res PyData := fnD N_signs_named sem_signs_named
def N_deeds_named : List Str := ["deed"]
def sem_deeds_named : Dn → Out := (sSeq (sIf (cVal (b2 (b2 (vVar 0) (vC (.int 0)) dIx) (vC (.str "undo")) dEq)) (sRet (vLst (aCons (b2 (vVar 0) (vC (.int 2)) dIx) aNil))) sNext) (sRet (vLst (lComp (fun δ => ((vCall (aCons (vVar 0) aNil) m_signs_named) δ).bind seqOf) bind1 [] cTrue (b2 (vVar 0) (vC (.int 0)) dIx)))))
def m_deeds_named : List PyData → Res PyData := fnD N_deeds_named sem_deeds_named
def N_signs_added : List Str := ["deed"]
def sem_signs_added : Dn → Out := (sRet (vIf (cVal (b2 (b2 (vVar 0) (vC (.int 0)) dIx) (vC (.str "add")) dEq)) (vFn (aCons (b2 (vVar 0) (vC (.int 3)) dIx) aNil) dLen) (vC (.int 0))))
def m_signs_added : List PyData → Res PyData := fnD N_signs_added sem_signs_added
def N_has_all_named : List Str := ["known", "deed"]
def sem_has_all_named : Dn → Res PyData := (rIf (cNot (cVal (vFn (aCons (vLst (lComp (fun δ => ((vCall (aCons (vVar 1) aNil) m_deeds_named) δ).bind seqOf) bind1 [0] cTrue (vInD 1 (vVar 0)))) aNil) dAll))) (vC (.bool false)) (vFn (aCons (vLst (lComp (fun δ => ((vCall (aCons (vVar 1) aNil) m_signs_named) δ).bind seqOf) bind1 [0] cTrue (b2 (b2 (vVar 0) (vC (.int 1)) dIx) (vCall (aCons (vGetD 1 (b2 (vVar 0) (vC (.int 0)) dIx)) aNil) m_signs_added) (dCmp .Lt)))) aNil) dAll))
def m_has_all_named : List (PyData × PyData) → PyData → Res PyData := fnL sem_has_all_named
def N_clock_of : List Str := ["book", "times", "deed"]
def sem_clock_of : Dn → Out := (sSeq (sDictK 1) (sSeq (sFor (fun δ => ((vVar 0) δ).bind seqOf) (st1 2) (sPutK 1 (b2 (b2 (vVar 2) (vC (.int 1)) dIx) (vC (.int 1)) dIx) (b2 (b2 (vVar 2) (vC (.int 1)) dIx) (vC (.int 0)) dIx))) (sRet (vFn (aCons (vLst (lComp (fun δ => ((vC (.str "abcdefgh")) δ).bind seqOf) bind1 [1] cTrue (vGetK 1 (vVar 0) (vC (.int 0))))) aNil) dTupF))))
def m_clock_of : List PyData → Res PyData := fnD N_clock_of sem_clock_of
def N_is_newer : List Str := ["deed", "clock"]
def sem_is_newer : Dn → Out := (sRet (b2 (b2 (b2 (vVar 0) (vC (.int 1)) dIx) (vC (.int 0)) dIx) (b2 (vVar 1) (vIndexE (vC (.str "abcdefgh")) (b2 (b2 (vVar 0) (vC (.int 1)) dIx) (vC (.int 1)) dIx)) dIx) (dCmpS .Gt)))
def m_is_newer : List PyData → Res PyData := fnD N_is_newer sem_is_newer
def N_newer : List Str := ["book", "clock"]
def sem_newer : Dn → Out := (sRet (vLst (lComp (fun δ => ((vVar 0) δ).bind seqOf) bind1 [1] (cVal (vCall (aCons (vVar 0) (aCons (vVar 1) aNil)) m_is_newer)) (vVar 0))))
def m_newer : List PyData → Res PyData := fnD N_newer sem_newer
def N_later_clock : List Str := ["one", "other"]
def sem_later_clock : Dn → Out := (sRet (vFn (aCons (vLst (lComp (fun δ => ((aCons (vFn (aCons (vC (.str "abcdefgh")) aNil) dLen) aNil) δ).bind rng1) bind1 [0, 1] cTrue (vFn (aCons (b2 (vVar 1) (vVar 0) dIx) (aCons (b2 (vVar 2) (vVar 0) dIx) aNil)) dMax))) aNil) dTupF))
def m_later_clock : List PyData → Res PyData := fnD N_later_clock sem_later_clock
def N_kept_to : List Str := ["book", "clock", "kept", "deed"]
def sem_kept_to : Dn → Out := (sSeq (sDict 2) (sSeq (sFor (fun δ => ((vVar 0) δ).bind seqOf) (st1 3) (sIf (cAnd (cNot (cVal (vCall (aCons (vVar 3) (aCons (vVar 1) aNil)) m_is_newer))) (cVal (vCallL 2 (vVar 3) m_has_all_named))) (sPut 2 (b2 (vVar 3) (vC (.int 1)) dIx) (vVar 3)) sNext)) (sRet (vTupVals 2))))
def m_kept_to : List PyData → Res PyData := fnD N_kept_to sem_kept_to
def N__law_cell : List Str := ["_law_script", "_law_k"]
def sem__law_cell : Dn → Out := (sSeq (sIf (cVal (b2 (vVar 0) (vLst aNil) dEq)) (sRet (b2 (vC (.int 7)) (vVar 1) dMul)) sNext) (sRet (b2 (b2 (vVar 0) (b2 (vVar 1) (vFn (aCons (vVar 0) aNil) dLen) dMod) dIx) (b2 (vC (.int 6553)) (b2 (vVar 1) (vFn (aCons (vVar 0) aNil) dLen) dFdiv) dMul) dAdd)))
def m__law_cell : List PyData → Res PyData := fnD N__law_cell sem__law_cell
def N__law_drawn : List Str := ["_law_script", "_law_k", "_law_many", "_law_cell_here"]
def sem__law_drawn : Dn → Out := (sSeq (sSet 3 (b2 (b2 (b2 (b2 (vCall (aCons (vVar 0) (aCons (vVar 1) aNil)) m__law_cell) (vC (.int 2147483563)) dMod) (vC (.int 69069)) dMul) (b2 (vC (.int 104723)) (b2 (vVar 1) (vC (.int 1)) dAdd) dMul) dAdd) (vC (.int 2147483563)) dMod)) (sSeq (sSet 3 (b2 (b2 (b2 (vVar 3) (vVar 3) dMul) (b2 (vVar 3) (vC (.int 3)) dFdiv) dAdd) (vC (.int 2147483399)) dMod)) (sRet (b2 (b2 (b2 (b2 (b2 (vVar 3) (vVar 3) dMul) (b2 (vVar 3) (vC (.int 7)) dFdiv) dAdd) (vC (.int 2147483647)) dMod) (vC (.int 11)) dFdiv) (vVar 2) dMod))))
def m__law_drawn : List PyData → Res PyData := fnD N__law_drawn sem__law_drawn
def N__law_names : List Str := ["_law_script", "_law_at", "_law_found", "_law_k", "_law_word"]
def sem__law_names : Dn → Out := (sSeq (sOwn 2 aNil) (sSeq (sFor (fun δ => ((aCons (vC (.int 3)) aNil) δ).bind rng1) (st1 3) (sSeq (sSet 4 (b2 (b2 (vC (.str "abcdefghijklmnopqrstuvwxyz")) (vCall (aCons (vVar 0) (aCons (b2 (vVar 1) (b2 (vC (.int 2)) (vVar 3) dMul) dAdd) (aCons (vC (.int 26)) aNil))) m__law_drawn) dIx) (vCall (aCons (vVar 0) (aCons (b2 (b2 (vVar 1) (b2 (vC (.int 2)) (vVar 3) dMul) dAdd) (vC (.int 1)) dAdd) (aCons (vC (.int 2)) aNil))) m__law_drawn) dMul)) (sApp 2 (b2 (vLst (aCons (b2 (vVar 4) (b2 (vC (.str "xyz")) (vVar 3) dIx) dAdd) (aCons (b2 (b2 (vC (.str "xyz")) (vVar 3) dIx) (vVar 4) dAdd) aNil))) (vCall (aCons (vVar 0) (aCons (b2 (vVar 1) (vC (.int 6)) dAdd) (aCons (vC (.int 2)) aNil))) m__law_drawn) dIx)))) (sFz 2 (sRet (vVar 2)))))
def m__law_names : List PyData → Res PyData := fnD N__law_names sem__law_names
def N__law_words : List Str := ["_law_script", "_law_at"]
def sem__law_words : Dn → Out := (sRet (vJoin "" (vLst (lComp (fun δ => ((aCons (b2 (vC (.int 1)) (vCall (aCons (vVar 0) (aCons (b2 (vVar 1) (vC (.int 4)) dAdd) (aCons (vC (.int 4)) aNil))) m__law_drawn) dAdd) aNil) δ).bind rng1) bind1 [0, 1] cTrue (b2 (vC (.str "ab cd~ <")) (vCall (aCons (vVar 1) (aCons (b2 (vVar 2) (vVar 0) dAdd) (aCons (vC (.int 8)) aNil))) m__law_drawn) dIx)))))
def m__law_words : List PyData → Res PyData := fnD N__law_words sem__law_words
def N__law_signs : List Str := ["_law_book_here", "_law_found", "_law_deed_here"]
def sem__law_signs : Dn → Out := (sSeq (sSet 1 (vLst aNil)) (sSeq (sFor (fun δ => ((vVar 0) δ).bind seqOf) (st1 2) (sIf (cVal (b2 (b2 (vVar 2) (vC (.int 0)) dIx) (vC (.str "add")) dEq)) (sSet 1 (b2 (vVar 1) (vLst (lComp (fun δ => ((aCons (vFn (aCons (b2 (vVar 2) (vC (.int 3)) dIx) aNil) dLen) aNil) δ).bind rng1) bind1 [2] cTrue (vTup (aCons (b2 (vVar 1) (vC (.int 1)) dIx) (aCons (vVar 0) aNil))))) dAdd)) sNext)) (sRet (vVar 1))))
def m__law_signs : List PyData → Res PyData := fnD N__law_signs sem__law_signs
def N__law_anchor : List Str := ["_law_script", "_law_at", "_law_signs_here", "_law_sign"]
def sem__law_anchor : Dn → Out := (sSeq (sSet 3 (b2 (b2 (vLst (aCons (vC .none) aNil)) (vVar 2) dAdd) (vCall (aCons (vVar 0) (aCons (vVar 1) (aCons (b2 (vFn (aCons (vVar 2) aNil) dLen) (vC (.int 1)) dAdd) aNil))) m__law_drawn) dIx)) (sRet (vTup (aCons (vVar 3) (aCons (b2 (vC (.str "lr")) (vCall (aCons (vVar 0) (aCons (b2 (vVar 1) (vC (.int 1)) dAdd) (aCons (vC (.int 2)) aNil))) m__law_drawn) dIx) aNil)))))
def m__law_anchor : List PyData → Res PyData := fnD N__law_anchor sem__law_anchor
def N__law_deed : List Str := ["_law_script", "_law_at", "_law_one", "_law_known", "_law_names_here", "_law_signs_here", "_law_way", "_law_behind", "_law_some", "_law_ends"]
def sem__law_deed : Dn → Out := (sSeq (sSet 5 (vCall (aCons (vVar 3) aNil) m__law_signs)) (sSeq (sSet 6 (vCall (aCons (vVar 0) (aCons (vVar 1) (aCons (vC (.int 12)) aNil))) m__law_drawn)) (sSeq (sIf (cAnd (cVal (b2 (vVar 6) (vC (.int 2)) (dCmp .Lt))) (cVal (b2 (vVar 5) (vLst aNil) dNe))) (sSeq (sNew 8 (lComp (fun δ => ((aCons (vVar 5) aNil) δ).bind enumX) bind2 [0, 1] (cVal (b2 (vCall (aCons (vVar 2) (aCons (b2 (b2 (vVar 3) (vC (.int 20)) dAdd) (vVar 0) dAdd) (aCons (vC (.int 4)) aNil))) m__law_drawn) (vC (.int 0)) dEq)) (vVar 1))) (sRet (vTup (aCons (vC (.str "drop")) (aCons (vVar 2) (aCons (vFn (aCons (b2 (vVar 8) (b2 (vSl (vVar 5) oNone (oSome (vC (.int 1)))) (vFn (aCons (b2 (vVar 8) (vLst aNil) dEq) aNil) dIntF) dMul) dAdd) aNil) dTupF) aNil)))))) sNext) (sSeq (sIf (cVal (b2 (vVar 6) (vC (.int 5)) (dCmp .Lt))) (sSeq (sSet 9 (vTup (aCons (vCall (aCons (vVar 0) (aCons (b2 (vVar 1) (vC (.int 1)) dAdd) (aCons (vVar 5) aNil))) m__law_anchor) (aCons (vCall (aCons (vVar 0) (aCons (b2 (vVar 1) (vC (.int 3)) dAdd) (aCons (vVar 5) aNil))) m__law_anchor) aNil)))) (sRet (b2 (vTup (aCons (vC (.str "mark")) (aCons (vVar 2) (aCons (b2 (vVar 4) (vCall (aCons (vVar 0) (aCons (b2 (vVar 1) (vC (.int 5)) dAdd) (aCons (vC (.int 3)) aNil))) m__law_drawn) dIx) aNil)))) (vVar 9) dAdd))) sNext) (sSeq (sIf (cVal (b2 (vVar 6) (vC (.int 5)) dEq)) (sRet (vTup (aCons (vC (.str "unmark")) (aCons (vVar 2) (aCons (b2 (vVar 4) (vCall (aCons (vVar 0) (aCons (b2 (vVar 1) (vC (.int 5)) dAdd) (aCons (vC (.int 3)) aNil))) m__law_drawn) dIx) aNil))))) sNext) (sSeq (sIf (cAnd (cVal (b2 (vVar 6) (vC (.int 8)) (dCmp .Lt))) (cVal (b2 (vVar 3) (vTup aNil) dNe))) (sRet (vTup (aCons (vC (.str "undo")) (aCons (vVar 2) (aCons (b2 (b2 (vVar 3) (vCall (aCons (vVar 0) (aCons (b2 (vVar 1) (vC (.int 6)) dAdd) (aCons (vFn (aCons (vVar 3) aNil) dLen) aNil))) m__law_drawn) dIx) (vC (.int 1)) dIx) aNil))))) sNext) (sSeq (sSet 7 (b2 (b2 (b2 (vLst (aCons (vC .none) aNil)) (vVar 5) dAdd) (vSl (vVar 5) (oSome (b1 (vC (.int 3)) dNeg)) oNone) dAdd) (vCall (aCons (vVar 0) (aCons (b2 (vVar 1) (vC (.int 7)) dAdd) (aCons (b2 (b2 (vFn (aCons (vVar 5) aNil) dLen) (vC (.int 1)) dAdd) (vFn (aCons (vSl (vVar 5) (oSome (b1 (vC (.int 3)) dNeg)) oNone) aNil) dLen) dAdd) aNil))) m__law_drawn) dIx)) (sRet (vTup (aCons (vC (.str "add")) (aCons (vVar 2) (aCons (vVar 7) (aCons (vCall (aCons (vVar 0) (aCons (b2 (vVar 1) (vC (.int 8)) dAdd) aNil)) m__law_words) aNil)))))))))))))
def m__law_deed : List PyData → Res PyData := fnD N__law_deed sem__law_deed
def N__law_book : List Str := ["_law_script", "_law_at", "_law_most", "_law_names_here", "_law_found", "_law_one", "_law_k", "_law_time", "_law_hand", "_law_known"]
def sem__law_book : Dn → Out := (sSeq (sSet 4 (vTup aNil)) (sSeq (sSet 5 (vTup (aCons (vC (.int 1)) (aCons (vC (.str "a")) aNil)))) (sSeq (sFor (fun δ => ((aCons (vCall (aCons (vVar 0) (aCons (vVar 1) (aCons (b2 (vVar 2) (vC (.int 1)) dAdd) aNil))) m__law_drawn) aNil) δ).bind rng1) (st1 6) (sSeq (sSet 7 (b2 (b2 (vVar 5) (vC (.int 0)) dIx) (vCall (aCons (vVar 0) (aCons (b2 (b2 (vVar 1) (vC (.int 1)) dAdd) (b2 (vC (.int 60)) (vVar 6) dMul) dAdd) (aCons (vC (.int 2)) aNil))) m__law_drawn) dAdd)) (sSeq (sSet 8 (b2 (vC (.str "abc")) (vCall (aCons (vVar 0) (aCons (b2 (b2 (vVar 1) (vC (.int 2)) dAdd) (b2 (vC (.int 60)) (vVar 6) dMul) dAdd) (aCons (vC (.int 3)) aNil))) m__law_drawn) dIx)) (sSeq (sIf (cAnd (cVal (b2 (vVar 4) (vTup aNil) dNe)) (cVal (b2 (vTup (aCons (vVar 7) (aCons (vVar 8) aNil))) (vVar 5) (dCmp .LtE)))) (sSet 7 (b2 (b2 (vVar 5) (vC (.int 0)) dIx) (vC (.int 1)) dAdd)) sNext) (sSeq (sSet 5 (vTup (aCons (vVar 7) (aCons (vVar 8) aNil)))) (sSeq (sSet 9 (vFn (aCons (vLst (lComp (fun δ => ((vVar 4) δ).bind seqOf) bind1 [7] (cVal (b2 (b2 (b2 (vVar 0) (vC (.int 1)) dIx) (vC (.int 0)) dIx) (vVar 1) (dCmp .Lt))) (vVar 0))) aNil) dTupF)) (sSet 4 (b2 (vVar 4) (vTup (aCons (vCall (aCons (vVar 0) (aCons (b2 (b2 (vVar 1) (vC (.int 3)) dAdd) (b2 (vC (.int 60)) (vVar 6) dMul) dAdd) (aCons (vVar 5) (aCons (vVar 9) (aCons (vVar 3) aNil))))) m__law_deed) aNil)) dAdd)))))))) (sRet (vVar 4)))))
def m__law_book : List PyData → Res PyData := fnD N__law_book sem__law_book
def N__law_named : List Str := ["_law_deed_here"]
def sem__law_named : Dn → Out := (sSeq (sIf (cVal (b2 (b2 (vVar 0) (vC (.int 0)) dIx) (vC (.str "undo")) dEq)) (sRet (vLst (aCons (b2 (vVar 0) (vC (.int 2)) dIx) aNil))) sNext) (sSeq (sIf (cVal (b2 (b2 (vVar 0) (vC (.int 0)) dIx) (vC (.str "add")) dEq)) (sRet (vIf (fun δ => ((b2 (vVar 0) (vC (.int 2)) dIx) δ).bind fun d => .ok (!isNone d)) (vLst (aCons (b2 (b2 (vVar 0) (vC (.int 2)) dIx) (vC (.int 0)) dIx) aNil)) (vLst aNil))) sNext) (sSeq (sIf (cVal (b2 (b2 (vVar 0) (vC (.int 0)) dIx) (vC (.str "drop")) dEq)) (sRet (vLst (lComp (fun δ => ((b2 (vVar 0) (vC (.int 2)) dIx) δ).bind seqOf) bind1 [] cTrue (b2 (vVar 0) (vC (.int 0)) dIx)))) sNext) (sRet (vLst (lComp (fun δ => ((vSl (vVar 0) (oSome (vC (.int 3))) oNone) δ).bind seqOf) bind1 [] (fun δ => ((b2 (vVar 0) (vC (.int 0)) dIx) δ).bind fun d => .ok (!isNone d)) (b2 (b2 (vVar 0) (vC (.int 0)) dIx) (vC (.int 0)) dIx)))))))
def m__law_named : List PyData → Res PyData := fnD N__law_named sem__law_named
def N__law_clock : List Str := ["_law_script", "_law_at", "_law_book_here", "_law_found", "_law_k", "_law_deed_here", "_law_hand"]
def sem__law_clock : Dn → Out := (sSeq (sOwn 3 (lMul (vLst (aCons (vC (.int 0)) aNil)) (vC (.int 8)))) (sSeq (sFor (fun δ => ((aCons (vVar 2) aNil) δ).bind enumX) (st2 4 5) (sIf (cVal (b2 (vCall (aCons (vVar 0) (aCons (b2 (vVar 1) (vVar 4) dAdd) (aCons (vC (.int 2)) aNil))) m__law_drawn) (vC (.int 0)) dEq)) (sSeq (sSet 6 (vIndexE (vC (.str "abcdefgh")) (b2 (b2 (vVar 5) (vC (.int 1)) dIx) (vC (.int 1)) dIx))) (sPutL 3 (vVar 6) (vFz 3 (vFn (aCons (b2 (vVar 3) (vVar 6) dIx) (aCons (b2 (b2 (vVar 5) (vC (.int 1)) dIx) (vC (.int 0)) dIx) aNil)) dMax)))) sNext)) (sFz 3 (sRet (vFn (aCons (vVar 3) aNil) dTupF)))))
def m__law_clock : List PyData → Res PyData := fnD N__law_clock sem__law_clock
def N_law : List Str := ["_law_script", "_law_book_here", "_law_due", "_law_some", "_law_clock_here", "_law_fresh", "_law_kept", "_law_deed_here", "_law_other", "_law_ids"]
def sem_law : Dn → Out := (sSeq (sSet 1 (vCall (aCons (vVar 0) (aCons (vC (.int 10)) (aCons (vC (.int 9)) (aCons (vCall (aCons (vVar 0) (aCons (vC (.int 0)) aNil)) m__law_names) aNil)))) m__law_book)) (sSeq (sSet 2 (vFn (aCons (vLst (lComp (fun δ => ((vC (.str "abcdefgh")) δ).bind seqOf) bind1 [1] cTrue (vFn (aCons (b2 (vLst (aCons (vC (.int 0)) aNil)) (vLst (lComp (fun δ => ((vVar 1) δ).bind seqOf) bind1 [0] (cVal (b2 (b2 (b2 (vVar 0) (vC (.int 1)) dIx) (vC (.int 1)) dIx) (vVar 1) dEq)) (b2 (b2 (vVar 0) (vC (.int 1)) dIx) (vC (.int 0)) dIx))) dAdd) aNil) dMaxL))) aNil) dTupF)) (sSeq (sIf (cVal (b2 (vCall (aCons (vVar 1) aNil) m_clock_of) (vVar 2) dNe)) (sRet (vC (.bool false))) sNext) (sSeq (sSet 3 (vLst (aCons (vCall (aCons (vVar 0) (aCons (vC (.int 600)) (aCons (vVar 1) aNil))) m__law_clock) (aCons (vCall (aCons (vVar 0) (aCons (vC (.int 640)) (aCons (vVar 1) aNil))) m__law_clock) (aCons (vVar 2) aNil))))) (sSeq (sSet 3 (b2 (vVar 3) (vLst (aCons (b2 (vTup (aCons (vC (.int 0)) aNil)) (vC (.int 8)) dMul) (aCons (b2 (vTup (aCons (vC (.int 99)) aNil)) (vC (.int 8)) dMul) (aCons (b2 (vTup (aCons (vC (.int 2)) aNil)) (vC (.int 8)) dMul) (aCons (b2 (vTup (aCons (vC (.int 0)) (aCons (vC (.int 4)) (aCons (vC (.int 1)) aNil)))) (b2 (vTup (aCons (vC (.int 0)) aNil)) (vC (.int 5)) dMul) dAdd) aNil))))) dAdd)) (sSeq (sFor (fun δ => ((vVar 3) δ).bind seqOf) (st1 4) (sSeq (sNew 5 (lComp (fun δ => ((vVar 1) δ).bind seqOf) bind1 [4] (cVal (b2 (b2 (b2 (vVar 0) (vC (.int 1)) dIx) (vC (.int 0)) dIx) (b2 (vVar 1) (vIndexE (vC (.str "abcdefgh")) (b2 (b2 (vVar 0) (vC (.int 1)) dIx) (vC (.int 1)) dIx)) dIx) (dCmpS .Gt))) (vVar 0))) (sSeq (sIf (cVal (b2 (vCall (aCons (vVar 1) (aCons (vVar 4) aNil)) m_newer) (vVar 5) dNe)) (sRet (vC (.bool false))) sNext) (sSeq (sSet 6 (vTup aNil)) (sSeq (sFor (fun δ => ((vVar 1) δ).bind seqOf) (st1 7) (sSeq (sSet 9 (vLst (lComp (fun δ => ((vVar 6) δ).bind seqOf) bind1 [] cTrue (b2 (vVar 0) (vC (.int 1)) dIx)))) (sIf (cAnd (cVal (b2 (vVar 7) (vVar 5) (dIn true))) (cVal (b2 (vLst (lComp (fun δ => ((vCall (aCons (vVar 7) aNil) m__law_named) δ).bind seqOf) bind1 [9] (cVal (b2 (vVar 0) (vVar 1) (dIn true))) (vVar 0))) (vLst aNil) dEq))) (sSet 6 (b2 (vVar 6) (vTup (aCons (vVar 7) aNil)) dAdd)) sNext))) (sSeq (sIf (cVal (b2 (vCall (aCons (vVar 1) (aCons (vVar 4) aNil)) m_kept_to) (vVar 6) dNe)) (sRet (vC (.bool false))) sNext) (sFor (fun δ => ((vVar 3) δ).bind seqOf) (st1 8) (sIf (cVal (b2 (vCall (aCons (vVar 4) (aCons (vVar 8) aNil)) m_later_clock) (vFn (aCons (vLst (lComp (fun δ => ((aCons (vC (.int 8)) aNil) δ).bind rng1) bind1 [4, 8] cTrue (vFn (aCons (b2 (vVar 1) (vVar 0) dIx) (aCons (b2 (vVar 2) (vVar 0) dIx) aNil)) dMax))) aNil) dTupF) dNe)) (sRet (vC (.bool false))) sNext)))))))) (sRet (vAnd (b2 (vCall (aCons (vTup aNil) aNil) m_clock_of) (b2 (vTup (aCons (vC (.int 0)) aNil)) (vC (.int 8)) dMul) dEq) (vAnd (b2 (vCall (aCons (vTup aNil) (aCons (b2 (vTup (aCons (vC (.int 9)) aNil)) (vC (.int 8)) dMul) aNil)) m_kept_to) (vTup aNil) dEq) (b2 (vCall (aCons (vTup aNil) (aCons (b2 (vTup (aCons (vC (.int 0)) aNil)) (vC (.int 8)) dMul) aNil)) m_newer) (vLst aNil) dEq))))))))))
def m_law : List PyData → Res PyData := fnD N_law sem_law
end Sm
end
section
set_option Elab.async false
set_option linter.all false
set_option maxRecDepth 100000
set_option maxHeartbeats 4000000
set_option autoImplicit false
namespace Sm
open PySem PySem.Spec PyProof.Rows L2
theorem sc_signs_named : FnScope N_signs_named ["deed"] (defScope (top 2)) := ⟨rfl, rfl, rfl, by decide +kernel, rfl, by decide +kernel, by decide +kernel⟩
theorem st_signs_named_0 {P : Program} {w : World} {K : PySem.W.Frag} {mg : Str → Option Value} {base : Heap} {X : Cx} (T : Txt mg) (C : Cxt P w K mg base X N_signs_named (defScope (top 2)) 0 true) : DS X E0k (stm 2 0) (sSet 1 (vLst aNil)) :=
  (s_set C 1 (by kernel_rfl) (d_new (f_lst a_nil)))
theorem st_signs_named_1 {P : Program} {w : World} {K : PySem.W.Frag} {mg : Str → Option Value} {base : Heap} {X : Cx} (T : Txt mg) (C : Cxt P w K mg base X N_signs_named (defScope (top 2)) 0 true) : DS X E0k (stm 2 1) (sIf (cVal (b2 (b2 (vVar 0) (vC (.int 0)) dIx) (vC (.str "add")) dEq)) (sSet 1 (vLst (aCons (b2 (vVar 0) (vC (.int 2)) dIx) aNil))) (sIf (cVal (b2 (b2 (vVar 0) (vC (.int 0)) dIx) (vC (.str "drop")) dEq)) (sSet 1 (vFn (aCons (b2 (vVar 0) (vC (.int 2)) dIx) aNil) dListF)) (sIf (cVal (b2 (b2 (vVar 0) (vC (.int 0)) dIx) (vC (.str "mark")) dEq)) (sSet 1 (vLst (aCons (b2 (b2 (vVar 0) (vC (.int 3)) dIx) (vC (.int 0)) dIx) (aCons (b2 (b2 (vVar 0) (vC (.int 4)) dIx) (vC (.int 0)) dIx) aNil)))) sNext))) :=
  (s_if (t_eq C (d_ix (d_var C 0 (by kernel_rfl)) d_int) d_str) (ss_one (s_set C 1 (by kernel_rfl) (d_new (f_lst (a_cons (d_ix (d_var C 0 (by kernel_rfl)) d_int) a_nil))))) (ss_one (s_if (t_eq C (d_ix (d_var C 0 (by kernel_rfl)) d_int) d_str) (ss_one (s_set C 1 (by kernel_rfl) (d_listF C (by kernel_rfl) T.b_list (a_cons (d_ix (d_var C 0 (by kernel_rfl)) d_int) a_nil)))) (ss_one (s_if (t_eq C (d_ix (d_var C 0 (by kernel_rfl)) d_int) d_str) (ss_one (s_set C 1 (by kernel_rfl) (d_new (f_lst (a_cons (d_ix (d_ix (d_var C 0 (by kernel_rfl)) d_int) d_int) (a_cons (d_ix (d_ix (d_var C 0 (by kernel_rfl)) d_int) d_int) a_nil)))))) ss_nil)))))
theorem st_signs_named_2 {P : Program} {w : World} {K : PySem.W.Frag} {mg : Str → Option Value} {base : Heap} {X : Cx} (T : Txt mg) (C : Cxt P w K mg base X N_signs_named (defScope (top 2)) 0 true) : DS X E0k (stm 2 2) (sRet (vLst (lComp (fun δ => ((vVar 1) δ).bind seqOf) bind1 [] (fun δ => ((vVar 0) δ).bind fun d => .ok (!isNone d)) (vVar 0)))) :=
  (s_ret (d_new (f_comp1 C [] [] (by kernel_rfl) (i_seq (d_var C 1 (by kernel_rfl))) (fun X' C' => (ts_one (t_notN (d_var C' 0 (by kernel_rfl))))) (fun X' C' => (d_var C' 0 (by kernel_rfl))))))
theorem body_signs_named {P : Program} {w : World} {K : PySem.W.Frag} {mg : Str → Option Value} {base : Heap} {X : Cx} (T : Txt mg) (C : Cxt P w K mg base X N_signs_named (defScope (top 2)) 0 true) : DSs X E0k (defBody (top 2)) sem_signs_named := by
  have h : defBody (top 2) = [stm 2 0, stm 2 1, stm 2 2] := by kernel_rfl
  rw [h]
  exact (ss_cons (st_signs_named_0 T C) (ss_cons (st_signs_named_1 T C) (ss_one (st_signs_named_2 T C))))
theorem sc_deeds_named : FnScope N_deeds_named ["deed"] (defScope (top 3)) := ⟨rfl, rfl, rfl, by decide +kernel, rfl, by decide +kernel, by decide +kernel⟩
theorem body_deeds_named {P : Program} {w : World} {K : PySem.W.Frag} {mg : Str → Option Value} {base : Heap} {X : Cx} (T : Txt mg) (F_signs_named : Fn P w K mg base "signs_named" 1 1 m_signs_named) (C : Cxt P w K mg base X N_deeds_named (defScope (top 3)) 1 true) : DSs X E0k (defBody (top 3)) sem_deeds_named :=
  (ss_cons (s_if (t_eq C (d_ix (d_var C 0 (by kernel_rfl)) d_int) d_str) (ss_one (s_ret (d_new (f_lst (a_cons (d_ix (d_var C 0 (by kernel_rfl)) d_int) a_nil))))) ss_nil) (ss_one (s_ret (d_new (f_comp1 C [] [] (by kernel_rfl) (i_seq (d_call C F_signs_named (by decide) (by kernel_rfl) (a_cons (d_var C 0 (by kernel_rfl)) a_nil))) (fun X' C' => ts_nil) (fun X' C' => (d_ix (d_var C' 0 (by kernel_rfl)) d_int)))))))
theorem sc_signs_added : FnScope N_signs_added ["deed"] (defScope (top 4)) := ⟨rfl, rfl, rfl, by decide +kernel, rfl, by decide +kernel, by decide +kernel⟩
theorem body_signs_added {P : Program} {w : World} {K : PySem.W.Frag} {mg : Str → Option Value} {base : Heap} {X : Cx} (T : Txt mg) (C : Cxt P w K mg base X N_signs_added (defScope (top 4)) 0 true) : DSs X E0k (defBody (top 4)) sem_signs_added :=
  (ss_one (s_ret (d_ifExp (t_eq C (d_ix (d_var C 0 (by kernel_rfl)) d_int) d_str) (d_len C (by kernel_rfl) T.b_len (a_cons (d_ix (d_var C 0 (by kernel_rfl)) d_int) a_nil)) d_int)))
theorem sc_has_all_named : FnScope N_has_all_named ["known", "deed"] (defScope (top 5)) := ⟨rfl, rfl, rfl, by decide +kernel, rfl, by decide +kernel, by decide +kernel⟩
theorem body_has_all_named {P : Program} {w : World} {K : PySem.W.Frag} {mg : Str → Option Value} {base : Heap} {X : Cx} (T : Txt mg) (F_deeds_named : Fn P w K mg base "deeds_named" 2 1 m_deeds_named) (F_signs_added : Fn P w K mg base "signs_added" 1 1 m_signs_added) (F_signs_named : Fn P w K mg base "signs_named" 1 1 m_signs_named) (C : Cxt P w K mg base X N_has_all_named (defScope (top 5)) 2 true) : DR X E0k (defBody (top 5)) sem_has_all_named :=
  (r_if (t_not (t_val (d_all C (by kernel_rfl) T.b_all (a_cons (d_new (f_comp1 C [0] ["known"] (by kernel_rfl) (i_seq (d_call C F_deeds_named (by decide) (by kernel_rfl) (a_cons (d_var C 1 (by kernel_rfl)) a_nil))) (fun X' C' => ts_nil) (fun X' C' => (d_inD C' 1 (by kernel_rfl) (d_var C' 0 (by kernel_rfl)))))) a_nil)))) (r_ret d_bool) (r_ret (d_all C (by kernel_rfl) T.b_all (a_cons (d_new (f_comp1 C [0] ["known"] (by kernel_rfl) (i_seq (d_call C F_signs_named (by decide) (by kernel_rfl) (a_cons (d_var C 1 (by kernel_rfl)) a_nil))) (fun X' C' => ts_nil) (fun X' C' => (d_lt C' (d_ix (d_var C' 0 (by kernel_rfl)) d_int) (d_call C' F_signs_added (by decide) (by kernel_rfl) (a_cons (d_getD C' 1 (by kernel_rfl) (d_ix (d_var C' 0 (by kernel_rfl)) d_int)) a_nil)))))) a_nil))))
theorem sc_clock_of : FnScope N_clock_of ["book"] (defScope (top 7)) := ⟨rfl, rfl, rfl, by decide +kernel, rfl, by decide +kernel, by decide +kernel⟩
theorem body_clock_of {P : Program} {w : World} {K : PySem.W.Frag} {mg : Str → Option Value} {base : Heap} {X : Cx} (T : Txt mg) (C : Cxt P w K mg base X N_clock_of (defScope (top 7)) 0 true) : DSs X E0k (defBody (top 7)) sem_clock_of :=
  (ss_cons (s_dictK C 1 (by kernel_rfl)) (ss_cons (s_for1 C 2 (by kernel_rfl) (i_seq (d_var C 0 (by kernel_rfl))) (ss_one (s_putK C 1 (by kernel_rfl) (d_ix (d_ix (d_var C 2 (by kernel_rfl)) d_int) d_int) (d_ix (d_ix (d_var C 2 (by kernel_rfl)) d_int) d_int)))) (ss_one (s_ret (d_tupF C (by kernel_rfl) T.b_tuple (a_cons (d_new (f_comp1 C [1] ["times"] (by kernel_rfl) (i_seq (d_globS (z := "abcdefgh") C (by kernel_rfl) T.c_HANDS)) (fun X' C' => ts_nil) (fun X' C' => (d_getK C' 1 (by kernel_rfl) (d_var C' 0 (by kernel_rfl)) d_int)))) a_nil))))))
theorem sc_is_newer : FnScope N_is_newer ["deed", "clock"] (defScope (top 8)) := ⟨rfl, rfl, rfl, by decide +kernel, rfl, by decide +kernel, by decide +kernel⟩
theorem body_is_newer {P : Program} {w : World} {K : PySem.W.Frag} {mg : Str → Option Value} {base : Heap} {X : Cx} (T : Txt mg) (C : Cxt P w K mg base X N_is_newer (defScope (top 8)) 0 true) : DSs X E0k (defBody (top 8)) sem_is_newer :=
  (ss_one (s_ret (d_gt C (d_ix (d_ix (d_var C 0 (by kernel_rfl)) d_int) d_int) (d_ix (d_var C 1 (by kernel_rfl)) (d_indexE (d_globS (z := "abcdefgh") C (by kernel_rfl) T.c_HANDS) (d_ix (d_ix (d_var C 0 (by kernel_rfl)) d_int) d_int))))))
theorem sc_newer : FnScope N_newer ["book", "clock"] (defScope (top 9)) := ⟨rfl, rfl, rfl, by decide +kernel, rfl, by decide +kernel, by decide +kernel⟩
theorem body_newer {P : Program} {w : World} {K : PySem.W.Frag} {mg : Str → Option Value} {base : Heap} {X : Cx} (T : Txt mg) (F_is_newer : Fn P w K mg base "is_newer" 1 2 m_is_newer) (C : Cxt P w K mg base X N_newer (defScope (top 9)) 1 true) : DSs X E0k (defBody (top 9)) sem_newer :=
  (ss_one (s_ret (d_new (f_comp1 C [1] ["clock"] (by kernel_rfl) (i_seq (d_var C 0 (by kernel_rfl))) (fun X' C' => (ts_one (t_val (d_call C' F_is_newer (by decide) (by kernel_rfl) (a_cons (d_var C' 0 (by kernel_rfl)) (a_cons (d_var C' 1 (by kernel_rfl)) a_nil)))))) (fun X' C' => (d_var C' 0 (by kernel_rfl)))))))
theorem sc_later_clock : FnScope N_later_clock ["one", "other"] (defScope (top 10)) := ⟨rfl, rfl, rfl, by decide +kernel, rfl, by decide +kernel, by decide +kernel⟩
theorem body_later_clock {P : Program} {w : World} {K : PySem.W.Frag} {mg : Str → Option Value} {base : Heap} {X : Cx} (T : Txt mg) (C : Cxt P w K mg base X N_later_clock (defScope (top 10)) 0 true) : DSs X E0k (defBody (top 10)) sem_later_clock :=
  (ss_one (s_ret (d_tupF C (by kernel_rfl) T.b_tuple (a_cons (d_new (f_comp1 C [0, 1] ["one", "other"] (by kernel_rfl) (i_range1 C (by kernel_rfl) T.b_range (a_cons (d_len C (by kernel_rfl) T.b_len (a_cons (d_globS (z := "abcdefgh") C (by kernel_rfl) T.c_HANDS) a_nil)) a_nil)) (fun X' C' => ts_nil) (fun X' C' => (d_max C' (by kernel_rfl) T.b_max (a_cons (d_ix (d_var C' 1 (by kernel_rfl)) (d_var C' 0 (by kernel_rfl))) (a_cons (d_ix (d_var C' 2 (by kernel_rfl)) (d_var C' 0 (by kernel_rfl))) a_nil)))))) a_nil))))
theorem sc_kept_to : FnScope N_kept_to ["book", "clock"] (defScope (top 11)) := ⟨rfl, rfl, rfl, by decide +kernel, rfl, by decide +kernel, by decide +kernel⟩
theorem body_kept_to {P : Program} {w : World} {K : PySem.W.Frag} {mg : Str → Option Value} {base : Heap} {X : Cx} (T : Txt mg) (F_has_all_named : FnL P w K mg base "has_all_named" 3 m_has_all_named) (F_is_newer : Fn P w K mg base "is_newer" 1 2 m_is_newer) (C : Cxt P w K mg base X N_kept_to (defScope (top 11)) 3 true) : DSs X E0k (defBody (top 11)) sem_kept_to :=
  (ss_cons (s_dict C 2 (by kernel_rfl)) (ss_cons (s_for1 C 3 (by kernel_rfl) (i_seq (d_var C 0 (by kernel_rfl))) (ss_one (s_if (w_t (w_and (t_not (t_val (d_call C F_is_newer (by decide) (by kernel_rfl) (a_cons (d_var C 3 (by kernel_rfl)) (a_cons (d_var C 1 (by kernel_rfl)) a_nil))))) (w_and1 (t_val (d_callL C F_has_all_named (by decide) (by kernel_rfl) 2 (by kernel_rfl) (d_var C 3 (by kernel_rfl))))))) (ss_one (s_put C 2 (by kernel_rfl) (d_ix (d_var C 3 (by kernel_rfl)) d_int) (d_var C 3 (by kernel_rfl)))) ss_nil))) (ss_one (s_ret (d_tupVals C (by kernel_rfl) T.b_tuple 2 (by kernel_rfl))))))
theorem sc__law_cell : FnScope N__law_cell ["_law_script", "_law_k"] (defScope (top 13)) := ⟨rfl, rfl, rfl, by decide +kernel, rfl, by decide +kernel, by decide +kernel⟩
theorem body__law_cell {P : Program} {w : World} {K : PySem.W.Frag} {mg : Str → Option Value} {base : Heap} {X : Cx} (T : Txt mg) (C : Cxt P w K mg base X N__law_cell (defScope (top 13)) 0 true) : DSs X E0k (defBody (top 13)) sem__law_cell :=
  (ss_cons (s_if (t_eq C (d_var C 0 (by kernel_rfl)) (d_new (f_lst a_nil))) (ss_one (s_ret (d_mul d_int (d_var C 1 (by kernel_rfl))))) ss_nil) (ss_one (s_ret (d_add (d_ix (d_var C 0 (by kernel_rfl)) (d_mod (d_var C 1 (by kernel_rfl)) (d_len C (by kernel_rfl) T.b_len (a_cons (d_var C 0 (by kernel_rfl)) a_nil)))) (d_mul d_int (d_fdiv (d_var C 1 (by kernel_rfl)) (d_len C (by kernel_rfl) T.b_len (a_cons (d_var C 0 (by kernel_rfl)) a_nil))))))))
theorem sc__law_drawn : FnScope N__law_drawn ["_law_script", "_law_k", "_law_many"] (defScope (top 14)) := ⟨rfl, rfl, rfl, by decide +kernel, rfl, by decide +kernel, by decide +kernel⟩
theorem body__law_drawn {P : Program} {w : World} {K : PySem.W.Frag} {mg : Str → Option Value} {base : Heap} {X : Cx} (T : Txt mg) (F__law_cell : Fn P w K mg base "_law_cell" 1 2 m__law_cell) (C : Cxt P w K mg base X N__law_drawn (defScope (top 14)) 1 true) : DSs X E0k (defBody (top 14)) sem__law_drawn :=
  (ss_cons (s_set C 3 (by kernel_rfl) (d_mod (d_add (d_mul (d_mod (d_call C F__law_cell (by decide) (by kernel_rfl) (a_cons (d_var C 0 (by kernel_rfl)) (a_cons (d_var C 1 (by kernel_rfl)) a_nil))) d_int) d_int) (d_mul d_int (d_add (d_var C 1 (by kernel_rfl)) d_int))) d_int)) (ss_cons (s_set C 3 (by kernel_rfl) (d_mod (d_add (d_mul (d_var C 3 (by kernel_rfl)) (d_var C 3 (by kernel_rfl))) (d_fdiv (d_var C 3 (by kernel_rfl)) d_int)) d_int)) (ss_one (s_ret (d_mod (d_fdiv (d_mod (d_add (d_mul (d_var C 3 (by kernel_rfl)) (d_var C 3 (by kernel_rfl))) (d_fdiv (d_var C 3 (by kernel_rfl)) d_int)) d_int) d_int) (d_var C 2 (by kernel_rfl)))))))
theorem sc__law_names : FnScope N__law_names ["_law_script", "_law_at"] (defScope (top 15)) := ⟨rfl, rfl, rfl, by decide +kernel, rfl, by decide +kernel, by decide +kernel⟩
theorem st__law_names_0 {P : Program} {w : World} {K : PySem.W.Frag} {mg : Str → Option Value} {base : Heap} {X : Cx} (T : Txt mg) (F__law_drawn : Fn P w K mg base "_law_drawn" 2 3 m__law_drawn) (C : Cxt P w K mg base X N__law_names (defScope (top 15)) 2 true) : DS X E0k (stm 15 0) (sOwn 2 aNil) :=
  (s_own C 2 (by kernel_rfl) (f_lst a_nil))
theorem st__law_names_1 {P : Program} {w : World} {K : PySem.W.Frag} {mg : Str → Option Value} {base : Heap} {X : Cx} (T : Txt mg) (F__law_drawn : Fn P w K mg base "_law_drawn" 2 3 m__law_drawn) (C : Cxt P w K mg base X N__law_names (defScope (top 15)) 2 true) : DS X E0k (stm 15 1) (sFor (fun δ => ((aCons (vC (.int 3)) aNil) δ).bind rng1) (st1 3) (sSeq (sSet 4 (b2 (b2 (vC (.str "abcdefghijklmnopqrstuvwxyz")) (vCall (aCons (vVar 0) (aCons (b2 (vVar 1) (b2 (vC (.int 2)) (vVar 3) dMul) dAdd) (aCons (vC (.int 26)) aNil))) m__law_drawn) dIx) (vCall (aCons (vVar 0) (aCons (b2 (b2 (vVar 1) (b2 (vC (.int 2)) (vVar 3) dMul) dAdd) (vC (.int 1)) dAdd) (aCons (vC (.int 2)) aNil))) m__law_drawn) dMul)) (sApp 2 (b2 (vLst (aCons (b2 (vVar 4) (b2 (vC (.str "xyz")) (vVar 3) dIx) dAdd) (aCons (b2 (b2 (vC (.str "xyz")) (vVar 3) dIx) (vVar 4) dAdd) aNil))) (vCall (aCons (vVar 0) (aCons (b2 (vVar 1) (vC (.int 6)) dAdd) (aCons (vC (.int 2)) aNil))) m__law_drawn) dIx)))) :=
  (s_for1 C 3 (by kernel_rfl) (i_range1 C (by kernel_rfl) T.b_range (a_cons d_int a_nil)) (ss_cons (s_set C 4 (by kernel_rfl) (d_mul (d_ix d_str (d_call C F__law_drawn (by decide) (by kernel_rfl) (a_cons (d_var C 0 (by kernel_rfl)) (a_cons (d_add (d_var C 1 (by kernel_rfl)) (d_mul d_int (d_var C 3 (by kernel_rfl)))) (a_cons d_int a_nil))))) (d_call C F__law_drawn (by decide) (by kernel_rfl) (a_cons (d_var C 0 (by kernel_rfl)) (a_cons (d_add (d_add (d_var C 1 (by kernel_rfl)) (d_mul d_int (d_var C 3 (by kernel_rfl)))) d_int) (a_cons d_int a_nil)))))) (ss_one (s_app C 2 (by kernel_rfl) (d_ix (d_new (f_lst (a_cons (d_add (d_var C 4 (by kernel_rfl)) (d_ix d_str (d_var C 3 (by kernel_rfl)))) (a_cons (d_add (d_ix d_str (d_var C 3 (by kernel_rfl))) (d_var C 4 (by kernel_rfl))) a_nil)))) (d_call C F__law_drawn (by decide) (by kernel_rfl) (a_cons (d_var C 0 (by kernel_rfl)) (a_cons (d_add (d_var C 1 (by kernel_rfl)) d_int) (a_cons d_int a_nil)))))))))
theorem st__law_names_2 {P : Program} {w : World} {K : PySem.W.Frag} {mg : Str → Option Value} {base : Heap} {X : Cx} (T : Txt mg) (F__law_drawn : Fn P w K mg base "_law_drawn" 2 3 m__law_drawn) (C : Cxt P w K mg base X N__law_names (defScope (top 15)) 2 true) : DS X E0k (stm 15 2) (sFz 2 (sRet (vVar 2))) :=
  (s_fz 2 (s_ret (d_var C 2 (by kernel_rfl))))
theorem body__law_names {P : Program} {w : World} {K : PySem.W.Frag} {mg : Str → Option Value} {base : Heap} {X : Cx} (T : Txt mg) (F__law_drawn : Fn P w K mg base "_law_drawn" 2 3 m__law_drawn) (C : Cxt P w K mg base X N__law_names (defScope (top 15)) 2 true) : DSs X E0k (defBody (top 15)) sem__law_names := by
  have h : defBody (top 15) = [stm 15 0, stm 15 1, stm 15 2] := by kernel_rfl
  rw [h]
  exact (ss_cons (st__law_names_0 T F__law_drawn C) (ss_cons (st__law_names_1 T F__law_drawn C) (ss_one (st__law_names_2 T F__law_drawn C))))
theorem sc__law_words : FnScope N__law_words ["_law_script", "_law_at"] (defScope (top 16)) := ⟨rfl, rfl, rfl, by decide +kernel, rfl, by decide +kernel, by decide +kernel⟩
theorem body__law_words {P : Program} {w : World} {K : PySem.W.Frag} {mg : Str → Option Value} {base : Heap} {X : Cx} (T : Txt mg) (F__law_drawn : Fn P w K mg base "_law_drawn" 2 3 m__law_drawn) (C : Cxt P w K mg base X N__law_words (defScope (top 16)) 2 true) : DSs X E0k (defBody (top 16)) sem__law_words :=
  (ss_one (s_ret (d_join (d_new (f_comp1 C [0, 1] ["_law_script", "_law_at"] (by kernel_rfl) (i_range1 C (by kernel_rfl) T.b_range (a_cons (d_add d_int (d_call C F__law_drawn (by decide) (by kernel_rfl) (a_cons (d_var C 0 (by kernel_rfl)) (a_cons (d_add (d_var C 1 (by kernel_rfl)) d_int) (a_cons d_int a_nil))))) a_nil)) (fun X' C' => ts_nil) (fun X' C' => (d_ix d_str (d_call C' F__law_drawn (by decide) (by kernel_rfl) (a_cons (d_var C' 1 (by kernel_rfl)) (a_cons (d_add (d_var C' 2 (by kernel_rfl)) (d_var C' 0 (by kernel_rfl))) (a_cons d_int a_nil)))))))))))
theorem sc__law_signs : FnScope N__law_signs ["_law_book_here"] (defScope (top 17)) := ⟨rfl, rfl, rfl, by decide +kernel, rfl, by decide +kernel, by decide +kernel⟩
theorem body__law_signs {P : Program} {w : World} {K : PySem.W.Frag} {mg : Str → Option Value} {base : Heap} {X : Cx} (T : Txt mg) (C : Cxt P w K mg base X N__law_signs (defScope (top 17)) 0 true) : DSs X E0k (defBody (top 17)) sem__law_signs :=
  (ss_cons (s_set C 1 (by kernel_rfl) (d_new (f_lst a_nil))) (ss_cons (s_for1 C 2 (by kernel_rfl) (i_seq (d_var C 0 (by kernel_rfl))) (ss_one (s_if (t_eq C (d_ix (d_var C 2 (by kernel_rfl)) d_int) d_str) (ss_one (s_set C 1 (by kernel_rfl) (d_add (d_var C 1 (by kernel_rfl)) (d_new (f_comp1 C [2] ["_law_deed_here"] (by kernel_rfl) (i_range1 C (by kernel_rfl) T.b_range (a_cons (d_len C (by kernel_rfl) T.b_len (a_cons (d_ix (d_var C 2 (by kernel_rfl)) d_int) a_nil)) a_nil)) (fun X' C' => ts_nil) (fun X' C' => (d_tup (a_cons (d_ix (d_var C' 1 (by kernel_rfl)) d_int) (a_cons (d_var C' 0 (by kernel_rfl)) a_nil))))))))) ss_nil))) (ss_one (s_ret (d_var C 1 (by kernel_rfl))))))
theorem sc__law_anchor : FnScope N__law_anchor ["_law_script", "_law_at", "_law_signs_here"] (defScope (top 18)) := ⟨rfl, rfl, rfl, by decide +kernel, rfl, by decide +kernel, by decide +kernel⟩
theorem body__law_anchor {P : Program} {w : World} {K : PySem.W.Frag} {mg : Str → Option Value} {base : Heap} {X : Cx} (T : Txt mg) (F__law_drawn : Fn P w K mg base "_law_drawn" 2 3 m__law_drawn) (C : Cxt P w K mg base X N__law_anchor (defScope (top 18)) 2 true) : DSs X E0k (defBody (top 18)) sem__law_anchor :=
  (ss_cons (s_set C 3 (by kernel_rfl) (d_ix (d_add (d_new (f_lst (a_cons d_none a_nil))) (d_var C 2 (by kernel_rfl))) (d_call C F__law_drawn (by decide) (by kernel_rfl) (a_cons (d_var C 0 (by kernel_rfl)) (a_cons (d_var C 1 (by kernel_rfl)) (a_cons (d_add (d_len C (by kernel_rfl) T.b_len (a_cons (d_var C 2 (by kernel_rfl)) a_nil)) d_int) a_nil)))))) (ss_one (s_ret (d_tup (a_cons (d_var C 3 (by kernel_rfl)) (a_cons (d_ix d_str (d_call C F__law_drawn (by decide) (by kernel_rfl) (a_cons (d_var C 0 (by kernel_rfl)) (a_cons (d_add (d_var C 1 (by kernel_rfl)) d_int) (a_cons d_int a_nil))))) a_nil))))))
theorem sc__law_deed : FnScope N__law_deed ["_law_script", "_law_at", "_law_one", "_law_known", "_law_names_here"] (defScope (top 19)) := ⟨rfl, rfl, rfl, by decide +kernel, rfl, by decide +kernel, by decide +kernel⟩
theorem st__law_deed_0 {P : Program} {w : World} {K : PySem.W.Frag} {mg : Str → Option Value} {base : Heap} {X : Cx} (T : Txt mg) (F__law_anchor : Fn P w K mg base "_law_anchor" 3 3 m__law_anchor) (F__law_drawn : Fn P w K mg base "_law_drawn" 2 3 m__law_drawn) (F__law_signs : Fn P w K mg base "_law_signs" 1 1 m__law_signs) (F__law_words : Fn P w K mg base "_law_words" 3 2 m__law_words) (C : Cxt P w K mg base X N__law_deed (defScope (top 19)) 3 true) : DS X E0k (stm 19 0) (sSet 5 (vCall (aCons (vVar 3) aNil) m__law_signs)) :=
  (s_set C 5 (by kernel_rfl) (d_call C F__law_signs (by decide) (by kernel_rfl) (a_cons (d_var C 3 (by kernel_rfl)) a_nil)))
theorem st__law_deed_1 {P : Program} {w : World} {K : PySem.W.Frag} {mg : Str → Option Value} {base : Heap} {X : Cx} (T : Txt mg) (F__law_anchor : Fn P w K mg base "_law_anchor" 3 3 m__law_anchor) (F__law_drawn : Fn P w K mg base "_law_drawn" 2 3 m__law_drawn) (F__law_signs : Fn P w K mg base "_law_signs" 1 1 m__law_signs) (F__law_words : Fn P w K mg base "_law_words" 3 2 m__law_words) (C : Cxt P w K mg base X N__law_deed (defScope (top 19)) 3 true) : DS X E0k (stm 19 1) (sSet 6 (vCall (aCons (vVar 0) (aCons (vVar 1) (aCons (vC (.int 12)) aNil))) m__law_drawn)) :=
  (s_set C 6 (by kernel_rfl) (d_call C F__law_drawn (by decide) (by kernel_rfl) (a_cons (d_var C 0 (by kernel_rfl)) (a_cons (d_var C 1 (by kernel_rfl)) (a_cons d_int a_nil)))))
theorem st__law_deed_2 {P : Program} {w : World} {K : PySem.W.Frag} {mg : Str → Option Value} {base : Heap} {X : Cx} (T : Txt mg) (F__law_anchor : Fn P w K mg base "_law_anchor" 3 3 m__law_anchor) (F__law_drawn : Fn P w K mg base "_law_drawn" 2 3 m__law_drawn) (F__law_signs : Fn P w K mg base "_law_signs" 1 1 m__law_signs) (F__law_words : Fn P w K mg base "_law_words" 3 2 m__law_words) (C : Cxt P w K mg base X N__law_deed (defScope (top 19)) 3 true) : DS X E0k (stm 19 2) (sIf (cAnd (cVal (b2 (vVar 6) (vC (.int 2)) (dCmp .Lt))) (cVal (b2 (vVar 5) (vLst aNil) dNe))) (sSeq (sNew 8 (lComp (fun δ => ((aCons (vVar 5) aNil) δ).bind enumX) bind2 [0, 1] (cVal (b2 (vCall (aCons (vVar 2) (aCons (b2 (b2 (vVar 3) (vC (.int 20)) dAdd) (vVar 0) dAdd) (aCons (vC (.int 4)) aNil))) m__law_drawn) (vC (.int 0)) dEq)) (vVar 1))) (sRet (vTup (aCons (vC (.str "drop")) (aCons (vVar 2) (aCons (vFn (aCons (b2 (vVar 8) (b2 (vSl (vVar 5) oNone (oSome (vC (.int 1)))) (vFn (aCons (b2 (vVar 8) (vLst aNil) dEq) aNil) dIntF) dMul) dAdd) aNil) dTupF) aNil)))))) sNext) :=
  (s_if (w_t (w_and (t_lt C (d_var C 6 (by kernel_rfl)) d_int) (w_and1 (t_ne C (d_var C 5 (by kernel_rfl)) (d_new (f_lst a_nil)))))) (ss_cons (s_newComp2 C 8 (by kernel_rfl) (by kernel_rfl) [0, 1] ["_law_script", "_law_at"] (by kernel_rfl) (i_enumX C (by kernel_rfl) T.b_enumerate (a_cons (d_var C 5 (by kernel_rfl)) a_nil)) (fun X' C' => (ts_one (t_eq C' (d_call C' F__law_drawn (by decide) (by kernel_rfl) (a_cons (d_var C' 2 (by kernel_rfl)) (a_cons (d_add (d_add (d_var C' 3 (by kernel_rfl)) d_int) (d_var C' 0 (by kernel_rfl))) (a_cons d_int a_nil)))) d_int))) (fun X' C' => (d_var C' 1 (by kernel_rfl)))) (ss_one (s_ret (d_tup (a_cons d_str (a_cons (d_var C 2 (by kernel_rfl)) (a_cons (d_tupF C (by kernel_rfl) T.b_tuple (a_cons (d_add (d_var C 8 (by kernel_rfl)) (d_mul (d_slice (d_var C 5 (by kernel_rfl)) o_none (o_some d_int)) (d_intF C (by kernel_rfl) T.b_int (a_cons (d_eq C (d_var C 8 (by kernel_rfl)) (d_new (f_lst a_nil))) a_nil)))) a_nil)) a_nil))))))) ss_nil)
theorem st__law_deed_3 {P : Program} {w : World} {K : PySem.W.Frag} {mg : Str → Option Value} {base : Heap} {X : Cx} (T : Txt mg) (F__law_anchor : Fn P w K mg base "_law_anchor" 3 3 m__law_anchor) (F__law_drawn : Fn P w K mg base "_law_drawn" 2 3 m__law_drawn) (F__law_signs : Fn P w K mg base "_law_signs" 1 1 m__law_signs) (F__law_words : Fn P w K mg base "_law_words" 3 2 m__law_words) (C : Cxt P w K mg base X N__law_deed (defScope (top 19)) 3 true) : DS X E0k (stm 19 3) (sIf (cVal (b2 (vVar 6) (vC (.int 5)) (dCmp .Lt))) (sSeq (sSet 9 (vTup (aCons (vCall (aCons (vVar 0) (aCons (b2 (vVar 1) (vC (.int 1)) dAdd) (aCons (vVar 5) aNil))) m__law_anchor) (aCons (vCall (aCons (vVar 0) (aCons (b2 (vVar 1) (vC (.int 3)) dAdd) (aCons (vVar 5) aNil))) m__law_anchor) aNil)))) (sRet (b2 (vTup (aCons (vC (.str "mark")) (aCons (vVar 2) (aCons (b2 (vVar 4) (vCall (aCons (vVar 0) (aCons (b2 (vVar 1) (vC (.int 5)) dAdd) (aCons (vC (.int 3)) aNil))) m__law_drawn) dIx) aNil)))) (vVar 9) dAdd))) sNext) :=
  (s_if (t_lt C (d_var C 6 (by kernel_rfl)) d_int) (ss_cons (s_set C 9 (by kernel_rfl) (d_tup (a_cons (d_call C F__law_anchor (by decide) (by kernel_rfl) (a_cons (d_var C 0 (by kernel_rfl)) (a_cons (d_add (d_var C 1 (by kernel_rfl)) d_int) (a_cons (d_var C 5 (by kernel_rfl)) a_nil)))) (a_cons (d_call C F__law_anchor (by decide) (by kernel_rfl) (a_cons (d_var C 0 (by kernel_rfl)) (a_cons (d_add (d_var C 1 (by kernel_rfl)) d_int) (a_cons (d_var C 5 (by kernel_rfl)) a_nil)))) a_nil)))) (ss_one (s_ret (d_add (d_tup (a_cons d_str (a_cons (d_var C 2 (by kernel_rfl)) (a_cons (d_ix (d_var C 4 (by kernel_rfl)) (d_call C F__law_drawn (by decide) (by kernel_rfl) (a_cons (d_var C 0 (by kernel_rfl)) (a_cons (d_add (d_var C 1 (by kernel_rfl)) d_int) (a_cons d_int a_nil))))) a_nil)))) (d_var C 9 (by kernel_rfl)))))) ss_nil)
theorem st__law_deed_4 {P : Program} {w : World} {K : PySem.W.Frag} {mg : Str → Option Value} {base : Heap} {X : Cx} (T : Txt mg) (F__law_anchor : Fn P w K mg base "_law_anchor" 3 3 m__law_anchor) (F__law_drawn : Fn P w K mg base "_law_drawn" 2 3 m__law_drawn) (F__law_signs : Fn P w K mg base "_law_signs" 1 1 m__law_signs) (F__law_words : Fn P w K mg base "_law_words" 3 2 m__law_words) (C : Cxt P w K mg base X N__law_deed (defScope (top 19)) 3 true) : DS X E0k (stm 19 4) (sIf (cVal (b2 (vVar 6) (vC (.int 5)) dEq)) (sRet (vTup (aCons (vC (.str "unmark")) (aCons (vVar 2) (aCons (b2 (vVar 4) (vCall (aCons (vVar 0) (aCons (b2 (vVar 1) (vC (.int 5)) dAdd) (aCons (vC (.int 3)) aNil))) m__law_drawn) dIx) aNil))))) sNext) :=
  (s_if (t_eq C (d_var C 6 (by kernel_rfl)) d_int) (ss_one (s_ret (d_tup (a_cons d_str (a_cons (d_var C 2 (by kernel_rfl)) (a_cons (d_ix (d_var C 4 (by kernel_rfl)) (d_call C F__law_drawn (by decide) (by kernel_rfl) (a_cons (d_var C 0 (by kernel_rfl)) (a_cons (d_add (d_var C 1 (by kernel_rfl)) d_int) (a_cons d_int a_nil))))) a_nil)))))) ss_nil)
theorem st__law_deed_5 {P : Program} {w : World} {K : PySem.W.Frag} {mg : Str → Option Value} {base : Heap} {X : Cx} (T : Txt mg) (F__law_anchor : Fn P w K mg base "_law_anchor" 3 3 m__law_anchor) (F__law_drawn : Fn P w K mg base "_law_drawn" 2 3 m__law_drawn) (F__law_signs : Fn P w K mg base "_law_signs" 1 1 m__law_signs) (F__law_words : Fn P w K mg base "_law_words" 3 2 m__law_words) (C : Cxt P w K mg base X N__law_deed (defScope (top 19)) 3 true) : DS X E0k (stm 19 5) (sIf (cAnd (cVal (b2 (vVar 6) (vC (.int 8)) (dCmp .Lt))) (cVal (b2 (vVar 3) (vTup aNil) dNe))) (sRet (vTup (aCons (vC (.str "undo")) (aCons (vVar 2) (aCons (b2 (b2 (vVar 3) (vCall (aCons (vVar 0) (aCons (b2 (vVar 1) (vC (.int 6)) dAdd) (aCons (vFn (aCons (vVar 3) aNil) dLen) aNil))) m__law_drawn) dIx) (vC (.int 1)) dIx) aNil))))) sNext) :=
  (s_if (w_t (w_and (t_lt C (d_var C 6 (by kernel_rfl)) d_int) (w_and1 (t_ne C (d_var C 3 (by kernel_rfl)) (d_tup a_nil))))) (ss_one (s_ret (d_tup (a_cons d_str (a_cons (d_var C 2 (by kernel_rfl)) (a_cons (d_ix (d_ix (d_var C 3 (by kernel_rfl)) (d_call C F__law_drawn (by decide) (by kernel_rfl) (a_cons (d_var C 0 (by kernel_rfl)) (a_cons (d_add (d_var C 1 (by kernel_rfl)) d_int) (a_cons (d_len C (by kernel_rfl) T.b_len (a_cons (d_var C 3 (by kernel_rfl)) a_nil)) a_nil))))) d_int) a_nil)))))) ss_nil)
theorem st__law_deed_6 {P : Program} {w : World} {K : PySem.W.Frag} {mg : Str → Option Value} {base : Heap} {X : Cx} (T : Txt mg) (F__law_anchor : Fn P w K mg base "_law_anchor" 3 3 m__law_anchor) (F__law_drawn : Fn P w K mg base "_law_drawn" 2 3 m__law_drawn) (F__law_signs : Fn P w K mg base "_law_signs" 1 1 m__law_signs) (F__law_words : Fn P w K mg base "_law_words" 3 2 m__law_words) (C : Cxt P w K mg base X N__law_deed (defScope (top 19)) 3 true) : DS X E0k (stm 19 6) (sSet 7 (b2 (b2 (b2 (vLst (aCons (vC .none) aNil)) (vVar 5) dAdd) (vSl (vVar 5) (oSome (b1 (vC (.int 3)) dNeg)) oNone) dAdd) (vCall (aCons (vVar 0) (aCons (b2 (vVar 1) (vC (.int 7)) dAdd) (aCons (b2 (b2 (vFn (aCons (vVar 5) aNil) dLen) (vC (.int 1)) dAdd) (vFn (aCons (vSl (vVar 5) (oSome (b1 (vC (.int 3)) dNeg)) oNone) aNil) dLen) dAdd) aNil))) m__law_drawn) dIx)) :=
  (s_set C 7 (by kernel_rfl) (d_ix (d_add (d_add (d_new (f_lst (a_cons d_none a_nil))) (d_var C 5 (by kernel_rfl))) (d_slice (d_var C 5 (by kernel_rfl)) (o_some (d_neg d_int)) o_none)) (d_call C F__law_drawn (by decide) (by kernel_rfl) (a_cons (d_var C 0 (by kernel_rfl)) (a_cons (d_add (d_var C 1 (by kernel_rfl)) d_int) (a_cons (d_add (d_add (d_len C (by kernel_rfl) T.b_len (a_cons (d_var C 5 (by kernel_rfl)) a_nil)) d_int) (d_len C (by kernel_rfl) T.b_len (a_cons (d_slice (d_var C 5 (by kernel_rfl)) (o_some (d_neg d_int)) o_none) a_nil))) a_nil))))))
theorem st__law_deed_7 {P : Program} {w : World} {K : PySem.W.Frag} {mg : Str → Option Value} {base : Heap} {X : Cx} (T : Txt mg) (F__law_anchor : Fn P w K mg base "_law_anchor" 3 3 m__law_anchor) (F__law_drawn : Fn P w K mg base "_law_drawn" 2 3 m__law_drawn) (F__law_signs : Fn P w K mg base "_law_signs" 1 1 m__law_signs) (F__law_words : Fn P w K mg base "_law_words" 3 2 m__law_words) (C : Cxt P w K mg base X N__law_deed (defScope (top 19)) 3 true) : DS X E0k (stm 19 7) (sRet (vTup (aCons (vC (.str "add")) (aCons (vVar 2) (aCons (vVar 7) (aCons (vCall (aCons (vVar 0) (aCons (b2 (vVar 1) (vC (.int 8)) dAdd) aNil)) m__law_words) aNil)))))) :=
  (s_ret (d_tup (a_cons d_str (a_cons (d_var C 2 (by kernel_rfl)) (a_cons (d_var C 7 (by kernel_rfl)) (a_cons (d_call C F__law_words (by decide) (by kernel_rfl) (a_cons (d_var C 0 (by kernel_rfl)) (a_cons (d_add (d_var C 1 (by kernel_rfl)) d_int) a_nil))) a_nil))))))
theorem body__law_deed {P : Program} {w : World} {K : PySem.W.Frag} {mg : Str → Option Value} {base : Heap} {X : Cx} (T : Txt mg) (F__law_anchor : Fn P w K mg base "_law_anchor" 3 3 m__law_anchor) (F__law_drawn : Fn P w K mg base "_law_drawn" 2 3 m__law_drawn) (F__law_signs : Fn P w K mg base "_law_signs" 1 1 m__law_signs) (F__law_words : Fn P w K mg base "_law_words" 3 2 m__law_words) (C : Cxt P w K mg base X N__law_deed (defScope (top 19)) 3 true) : DSs X E0k (defBody (top 19)) sem__law_deed := by
  have h : defBody (top 19) = [stm 19 0, stm 19 1, stm 19 2, stm 19 3, stm 19 4, stm 19 5, stm 19 6, stm 19 7] := by kernel_rfl
  rw [h]
  exact (ss_cons (st__law_deed_0 T F__law_anchor F__law_drawn F__law_signs F__law_words C) (ss_cons (st__law_deed_1 T F__law_anchor F__law_drawn F__law_signs F__law_words C) (ss_cons (st__law_deed_2 T F__law_anchor F__law_drawn F__law_signs F__law_words C) (ss_cons (st__law_deed_3 T F__law_anchor F__law_drawn F__law_signs F__law_words C) (ss_cons (st__law_deed_4 T F__law_anchor F__law_drawn F__law_signs F__law_words C) (ss_cons (st__law_deed_5 T F__law_anchor F__law_drawn F__law_signs F__law_words C) (ss_cons (st__law_deed_6 T F__law_anchor F__law_drawn F__law_signs F__law_words C) (ss_one (st__law_deed_7 T F__law_anchor F__law_drawn F__law_signs F__law_words C)))))))))
theorem sc__law_book : FnScope N__law_book ["_law_script", "_law_at", "_law_most", "_law_names_here"] (defScope (top 20)) := ⟨rfl, rfl, rfl, by decide +kernel, rfl, by decide +kernel, by decide +kernel⟩
theorem st__law_book_0 {P : Program} {w : World} {K : PySem.W.Frag} {mg : Str → Option Value} {base : Heap} {X : Cx} (T : Txt mg) (F__law_deed : Fn P w K mg base "_law_deed" 4 5 m__law_deed) (F__law_drawn : Fn P w K mg base "_law_drawn" 2 3 m__law_drawn) (C : Cxt P w K mg base X N__law_book (defScope (top 20)) 4 true) : DS X E0k (stm 20 0) (sSet 4 (vTup aNil)) :=
  (s_set C 4 (by kernel_rfl) (d_tup a_nil))
theorem st__law_book_1 {P : Program} {w : World} {K : PySem.W.Frag} {mg : Str → Option Value} {base : Heap} {X : Cx} (T : Txt mg) (F__law_deed : Fn P w K mg base "_law_deed" 4 5 m__law_deed) (F__law_drawn : Fn P w K mg base "_law_drawn" 2 3 m__law_drawn) (C : Cxt P w K mg base X N__law_book (defScope (top 20)) 4 true) : DS X E0k (stm 20 1) (sSet 5 (vTup (aCons (vC (.int 1)) (aCons (vC (.str "a")) aNil)))) :=
  (s_set C 5 (by kernel_rfl) (d_tup (a_cons d_int (a_cons d_str a_nil))))
theorem st__law_book_2 {P : Program} {w : World} {K : PySem.W.Frag} {mg : Str → Option Value} {base : Heap} {X : Cx} (T : Txt mg) (F__law_deed : Fn P w K mg base "_law_deed" 4 5 m__law_deed) (F__law_drawn : Fn P w K mg base "_law_drawn" 2 3 m__law_drawn) (C : Cxt P w K mg base X N__law_book (defScope (top 20)) 4 true) : DS X E0k (stm 20 2) (sFor (fun δ => ((aCons (vCall (aCons (vVar 0) (aCons (vVar 1) (aCons (b2 (vVar 2) (vC (.int 1)) dAdd) aNil))) m__law_drawn) aNil) δ).bind rng1) (st1 6) (sSeq (sSet 7 (b2 (b2 (vVar 5) (vC (.int 0)) dIx) (vCall (aCons (vVar 0) (aCons (b2 (b2 (vVar 1) (vC (.int 1)) dAdd) (b2 (vC (.int 60)) (vVar 6) dMul) dAdd) (aCons (vC (.int 2)) aNil))) m__law_drawn) dAdd)) (sSeq (sSet 8 (b2 (vC (.str "abc")) (vCall (aCons (vVar 0) (aCons (b2 (b2 (vVar 1) (vC (.int 2)) dAdd) (b2 (vC (.int 60)) (vVar 6) dMul) dAdd) (aCons (vC (.int 3)) aNil))) m__law_drawn) dIx)) (sSeq (sIf (cAnd (cVal (b2 (vVar 4) (vTup aNil) dNe)) (cVal (b2 (vTup (aCons (vVar 7) (aCons (vVar 8) aNil))) (vVar 5) (dCmp .LtE)))) (sSet 7 (b2 (b2 (vVar 5) (vC (.int 0)) dIx) (vC (.int 1)) dAdd)) sNext) (sSeq (sSet 5 (vTup (aCons (vVar 7) (aCons (vVar 8) aNil)))) (sSeq (sSet 9 (vFn (aCons (vLst (lComp (fun δ => ((vVar 4) δ).bind seqOf) bind1 [7] (cVal (b2 (b2 (b2 (vVar 0) (vC (.int 1)) dIx) (vC (.int 0)) dIx) (vVar 1) (dCmp .Lt))) (vVar 0))) aNil) dTupF)) (sSet 4 (b2 (vVar 4) (vTup (aCons (vCall (aCons (vVar 0) (aCons (b2 (b2 (vVar 1) (vC (.int 3)) dAdd) (b2 (vC (.int 60)) (vVar 6) dMul) dAdd) (aCons (vVar 5) (aCons (vVar 9) (aCons (vVar 3) aNil))))) m__law_deed) aNil)) dAdd)))))))) :=
  (s_for1 C 6 (by kernel_rfl) (i_range1 C (by kernel_rfl) T.b_range (a_cons (d_call C F__law_drawn (by decide) (by kernel_rfl) (a_cons (d_var C 0 (by kernel_rfl)) (a_cons (d_var C 1 (by kernel_rfl)) (a_cons (d_add (d_var C 2 (by kernel_rfl)) d_int) a_nil)))) a_nil)) (ss_cons (s_set C 7 (by kernel_rfl) (d_add (d_ix (d_var C 5 (by kernel_rfl)) d_int) (d_call C F__law_drawn (by decide) (by kernel_rfl) (a_cons (d_var C 0 (by kernel_rfl)) (a_cons (d_add (d_add (d_var C 1 (by kernel_rfl)) d_int) (d_mul d_int (d_var C 6 (by kernel_rfl)))) (a_cons d_int a_nil)))))) (ss_cons (s_set C 8 (by kernel_rfl) (d_ix d_str (d_call C F__law_drawn (by decide) (by kernel_rfl) (a_cons (d_var C 0 (by kernel_rfl)) (a_cons (d_add (d_add (d_var C 1 (by kernel_rfl)) d_int) (d_mul d_int (d_var C 6 (by kernel_rfl)))) (a_cons d_int a_nil)))))) (ss_cons (s_if (w_t (w_and (t_ne C (d_var C 4 (by kernel_rfl)) (d_tup a_nil)) (w_and1 (t_le C (d_tup (a_cons (d_var C 7 (by kernel_rfl)) (a_cons (d_var C 8 (by kernel_rfl)) a_nil))) (d_var C 5 (by kernel_rfl)))))) (ss_one (s_set C 7 (by kernel_rfl) (d_add (d_ix (d_var C 5 (by kernel_rfl)) d_int) d_int))) ss_nil) (ss_cons (s_set C 5 (by kernel_rfl) (d_tup (a_cons (d_var C 7 (by kernel_rfl)) (a_cons (d_var C 8 (by kernel_rfl)) a_nil)))) (ss_cons (s_set C 9 (by kernel_rfl) (d_tupF C (by kernel_rfl) T.b_tuple (a_cons (d_new (f_comp1 C [7] ["_law_time"] (by kernel_rfl) (i_seq (d_var C 4 (by kernel_rfl))) (fun X' C' => (ts_one (t_lt C' (d_ix (d_ix (d_var C' 0 (by kernel_rfl)) d_int) d_int) (d_var C' 1 (by kernel_rfl))))) (fun X' C' => (d_var C' 0 (by kernel_rfl))))) a_nil))) (ss_one (s_set C 4 (by kernel_rfl) (d_add (d_var C 4 (by kernel_rfl)) (d_tup (a_cons (d_call C F__law_deed (by decide) (by kernel_rfl) (a_cons (d_var C 0 (by kernel_rfl)) (a_cons (d_add (d_add (d_var C 1 (by kernel_rfl)) d_int) (d_mul d_int (d_var C 6 (by kernel_rfl)))) (a_cons (d_var C 5 (by kernel_rfl)) (a_cons (d_var C 9 (by kernel_rfl)) (a_cons (d_var C 3 (by kernel_rfl)) a_nil)))))) a_nil)))))))))))
theorem st__law_book_3 {P : Program} {w : World} {K : PySem.W.Frag} {mg : Str → Option Value} {base : Heap} {X : Cx} (T : Txt mg) (F__law_deed : Fn P w K mg base "_law_deed" 4 5 m__law_deed) (F__law_drawn : Fn P w K mg base "_law_drawn" 2 3 m__law_drawn) (C : Cxt P w K mg base X N__law_book (defScope (top 20)) 4 true) : DS X E0k (stm 20 3) (sRet (vVar 4)) :=
  (s_ret (d_var C 4 (by kernel_rfl)))
theorem body__law_book {P : Program} {w : World} {K : PySem.W.Frag} {mg : Str → Option Value} {base : Heap} {X : Cx} (T : Txt mg) (F__law_deed : Fn P w K mg base "_law_deed" 4 5 m__law_deed) (F__law_drawn : Fn P w K mg base "_law_drawn" 2 3 m__law_drawn) (C : Cxt P w K mg base X N__law_book (defScope (top 20)) 4 true) : DSs X E0k (defBody (top 20)) sem__law_book := by
  have h : defBody (top 20) = [stm 20 0, stm 20 1, stm 20 2, stm 20 3] := by kernel_rfl
  rw [h]
  exact (ss_cons (st__law_book_0 T F__law_deed F__law_drawn C) (ss_cons (st__law_book_1 T F__law_deed F__law_drawn C) (ss_cons (st__law_book_2 T F__law_deed F__law_drawn C) (ss_one (st__law_book_3 T F__law_deed F__law_drawn C)))))
theorem sc__law_named : FnScope N__law_named ["_law_deed_here"] (defScope (top 21)) := ⟨rfl, rfl, rfl, by decide +kernel, rfl, by decide +kernel, by decide +kernel⟩
theorem st__law_named_0 {P : Program} {w : World} {K : PySem.W.Frag} {mg : Str → Option Value} {base : Heap} {X : Cx} (T : Txt mg) (C : Cxt P w K mg base X N__law_named (defScope (top 21)) 0 true) : DS X E0k (stm 21 0) (sIf (cVal (b2 (b2 (vVar 0) (vC (.int 0)) dIx) (vC (.str "undo")) dEq)) (sRet (vLst (aCons (b2 (vVar 0) (vC (.int 2)) dIx) aNil))) sNext) :=
  (s_if (t_eq C (d_ix (d_var C 0 (by kernel_rfl)) d_int) d_str) (ss_one (s_ret (d_new (f_lst (a_cons (d_ix (d_var C 0 (by kernel_rfl)) d_int) a_nil))))) ss_nil)
theorem st__law_named_1 {P : Program} {w : World} {K : PySem.W.Frag} {mg : Str → Option Value} {base : Heap} {X : Cx} (T : Txt mg) (C : Cxt P w K mg base X N__law_named (defScope (top 21)) 0 true) : DS X E0k (stm 21 1) (sIf (cVal (b2 (b2 (vVar 0) (vC (.int 0)) dIx) (vC (.str "add")) dEq)) (sRet (vIf (fun δ => ((b2 (vVar 0) (vC (.int 2)) dIx) δ).bind fun d => .ok (!isNone d)) (vLst (aCons (b2 (b2 (vVar 0) (vC (.int 2)) dIx) (vC (.int 0)) dIx) aNil)) (vLst aNil))) sNext) :=
  (s_if (t_eq C (d_ix (d_var C 0 (by kernel_rfl)) d_int) d_str) (ss_one (s_ret (d_ifExp (t_notN (d_ix (d_var C 0 (by kernel_rfl)) d_int)) (d_new (f_lst (a_cons (d_ix (d_ix (d_var C 0 (by kernel_rfl)) d_int) d_int) a_nil))) (d_new (f_lst a_nil))))) ss_nil)
theorem st__law_named_2 {P : Program} {w : World} {K : PySem.W.Frag} {mg : Str → Option Value} {base : Heap} {X : Cx} (T : Txt mg) (C : Cxt P w K mg base X N__law_named (defScope (top 21)) 0 true) : DS X E0k (stm 21 2) (sIf (cVal (b2 (b2 (vVar 0) (vC (.int 0)) dIx) (vC (.str "drop")) dEq)) (sRet (vLst (lComp (fun δ => ((b2 (vVar 0) (vC (.int 2)) dIx) δ).bind seqOf) bind1 [] cTrue (b2 (vVar 0) (vC (.int 0)) dIx)))) sNext) :=
  (s_if (t_eq C (d_ix (d_var C 0 (by kernel_rfl)) d_int) d_str) (ss_one (s_ret (d_new (f_comp1 C [] [] (by kernel_rfl) (i_seq (d_ix (d_var C 0 (by kernel_rfl)) d_int)) (fun X' C' => ts_nil) (fun X' C' => (d_ix (d_var C' 0 (by kernel_rfl)) d_int)))))) ss_nil)
theorem st__law_named_3 {P : Program} {w : World} {K : PySem.W.Frag} {mg : Str → Option Value} {base : Heap} {X : Cx} (T : Txt mg) (C : Cxt P w K mg base X N__law_named (defScope (top 21)) 0 true) : DS X E0k (stm 21 3) (sRet (vLst (lComp (fun δ => ((vSl (vVar 0) (oSome (vC (.int 3))) oNone) δ).bind seqOf) bind1 [] (fun δ => ((b2 (vVar 0) (vC (.int 0)) dIx) δ).bind fun d => .ok (!isNone d)) (b2 (b2 (vVar 0) (vC (.int 0)) dIx) (vC (.int 0)) dIx)))) :=
  (s_ret (d_new (f_comp1 C [] [] (by kernel_rfl) (i_seq (d_slice (d_var C 0 (by kernel_rfl)) (o_some d_int) o_none)) (fun X' C' => (ts_one (t_notN (d_ix (d_var C' 0 (by kernel_rfl)) d_int)))) (fun X' C' => (d_ix (d_ix (d_var C' 0 (by kernel_rfl)) d_int) d_int)))))
theorem body__law_named {P : Program} {w : World} {K : PySem.W.Frag} {mg : Str → Option Value} {base : Heap} {X : Cx} (T : Txt mg) (C : Cxt P w K mg base X N__law_named (defScope (top 21)) 0 true) : DSs X E0k (defBody (top 21)) sem__law_named := by
  have h : defBody (top 21) = [stm 21 0, stm 21 1, stm 21 2, stm 21 3] := by kernel_rfl
  rw [h]
  exact (ss_cons (st__law_named_0 T C) (ss_cons (st__law_named_1 T C) (ss_cons (st__law_named_2 T C) (ss_one (st__law_named_3 T C)))))
theorem sc__law_clock : FnScope N__law_clock ["_law_script", "_law_at", "_law_book_here"] (defScope (top 22)) := ⟨rfl, rfl, rfl, by decide +kernel, rfl, by decide +kernel, by decide +kernel⟩
theorem st__law_clock_0 {P : Program} {w : World} {K : PySem.W.Frag} {mg : Str → Option Value} {base : Heap} {X : Cx} (T : Txt mg) (F__law_drawn : Fn P w K mg base "_law_drawn" 2 3 m__law_drawn) (C : Cxt P w K mg base X N__law_clock (defScope (top 22)) 2 true) : DS X E0k (stm 22 0) (sOwn 3 (lMul (vLst (aCons (vC (.int 0)) aNil)) (vC (.int 8)))) :=
  (s_own C 3 (by kernel_rfl) (f_mul (d_new (f_lst (a_cons d_int a_nil))) d_int))
theorem st__law_clock_1 {P : Program} {w : World} {K : PySem.W.Frag} {mg : Str → Option Value} {base : Heap} {X : Cx} (T : Txt mg) (F__law_drawn : Fn P w K mg base "_law_drawn" 2 3 m__law_drawn) (C : Cxt P w K mg base X N__law_clock (defScope (top 22)) 2 true) : DS X E0k (stm 22 1) (sFor (fun δ => ((aCons (vVar 2) aNil) δ).bind enumX) (st2 4 5) (sIf (cVal (b2 (vCall (aCons (vVar 0) (aCons (b2 (vVar 1) (vVar 4) dAdd) (aCons (vC (.int 2)) aNil))) m__law_drawn) (vC (.int 0)) dEq)) (sSeq (sSet 6 (vIndexE (vC (.str "abcdefgh")) (b2 (b2 (vVar 5) (vC (.int 1)) dIx) (vC (.int 1)) dIx))) (sPutL 3 (vVar 6) (vFz 3 (vFn (aCons (b2 (vVar 3) (vVar 6) dIx) (aCons (b2 (b2 (vVar 5) (vC (.int 1)) dIx) (vC (.int 0)) dIx) aNil)) dMax)))) sNext)) :=
  (s_for2 C 4 5 (by kernel_rfl) (by kernel_rfl) (i_enumX C (by kernel_rfl) T.b_enumerate (a_cons (d_var C 2 (by kernel_rfl)) a_nil)) (ss_one (s_if (t_eq C (d_call C F__law_drawn (by decide) (by kernel_rfl) (a_cons (d_var C 0 (by kernel_rfl)) (a_cons (d_add (d_var C 1 (by kernel_rfl)) (d_var C 4 (by kernel_rfl))) (a_cons d_int a_nil)))) d_int) (ss_cons (s_set C 6 (by kernel_rfl) (d_indexE d_str (d_ix (d_ix (d_var C 5 (by kernel_rfl)) d_int) d_int))) (ss_one (s_putL C 3 (by kernel_rfl) (d_var C 6 (by kernel_rfl)) (d_thaw 3 (d_max C (by kernel_rfl) T.b_max (a_cons (d_ix (d_var C 3 (by kernel_rfl)) (d_var C 6 (by kernel_rfl))) (a_cons (d_ix (d_ix (d_var C 5 (by kernel_rfl)) d_int) d_int) a_nil))))))) ss_nil)))
theorem st__law_clock_2 {P : Program} {w : World} {K : PySem.W.Frag} {mg : Str → Option Value} {base : Heap} {X : Cx} (T : Txt mg) (F__law_drawn : Fn P w K mg base "_law_drawn" 2 3 m__law_drawn) (C : Cxt P w K mg base X N__law_clock (defScope (top 22)) 2 true) : DS X E0k (stm 22 2) (sFz 3 (sRet (vFn (aCons (vVar 3) aNil) dTupF))) :=
  (s_fz 3 (s_ret (d_tupF C (by kernel_rfl) T.b_tuple (a_cons (d_var C 3 (by kernel_rfl)) a_nil))))
theorem body__law_clock {P : Program} {w : World} {K : PySem.W.Frag} {mg : Str → Option Value} {base : Heap} {X : Cx} (T : Txt mg) (F__law_drawn : Fn P w K mg base "_law_drawn" 2 3 m__law_drawn) (C : Cxt P w K mg base X N__law_clock (defScope (top 22)) 2 true) : DSs X E0k (defBody (top 22)) sem__law_clock := by
  have h : defBody (top 22) = [stm 22 0, stm 22 1, stm 22 2] := by kernel_rfl
  rw [h]
  exact (ss_cons (st__law_clock_0 T F__law_drawn C) (ss_cons (st__law_clock_1 T F__law_drawn C) (ss_one (st__law_clock_2 T F__law_drawn C))))
theorem sc_law : FnScope N_law ["_law_script"] (defScope (top 23)) := ⟨rfl, rfl, rfl, by decide +kernel, rfl, by decide +kernel, by decide +kernel⟩
theorem st_law_0 {P : Program} {w : World} {K : PySem.W.Frag} {mg : Str → Option Value} {base : Heap} {X : Cx} (T : Txt mg) (F__law_book : Fn P w K mg base "_law_book" 5 4 m__law_book) (F__law_clock : Fn P w K mg base "_law_clock" 3 3 m__law_clock) (F__law_named : Fn P w K mg base "_law_named" 1 1 m__law_named) (F__law_names : Fn P w K mg base "_law_names" 3 2 m__law_names) (F_clock_of : Fn P w K mg base "clock_of" 1 1 m_clock_of) (F_kept_to : Fn P w K mg base "kept_to" 4 2 m_kept_to) (F_later_clock : Fn P w K mg base "later_clock" 1 2 m_later_clock) (F_newer : Fn P w K mg base "newer" 2 2 m_newer) (C : Cxt P w K mg base X N_law (defScope (top 23)) 5 true) : DS X E0k (stm 23 0) (sSet 1 (vCall (aCons (vVar 0) (aCons (vC (.int 10)) (aCons (vC (.int 9)) (aCons (vCall (aCons (vVar 0) (aCons (vC (.int 0)) aNil)) m__law_names) aNil)))) m__law_book)) :=
  (s_set C 1 (by kernel_rfl) (d_call C F__law_book (by decide) (by kernel_rfl) (a_cons (d_var C 0 (by kernel_rfl)) (a_cons d_int (a_cons d_int (a_cons (d_call C F__law_names (by decide) (by kernel_rfl) (a_cons (d_var C 0 (by kernel_rfl)) (a_cons d_int a_nil))) a_nil))))))
theorem st_law_1 {P : Program} {w : World} {K : PySem.W.Frag} {mg : Str → Option Value} {base : Heap} {X : Cx} (T : Txt mg) (F__law_book : Fn P w K mg base "_law_book" 5 4 m__law_book) (F__law_clock : Fn P w K mg base "_law_clock" 3 3 m__law_clock) (F__law_named : Fn P w K mg base "_law_named" 1 1 m__law_named) (F__law_names : Fn P w K mg base "_law_names" 3 2 m__law_names) (F_clock_of : Fn P w K mg base "clock_of" 1 1 m_clock_of) (F_kept_to : Fn P w K mg base "kept_to" 4 2 m_kept_to) (F_later_clock : Fn P w K mg base "later_clock" 1 2 m_later_clock) (F_newer : Fn P w K mg base "newer" 2 2 m_newer) (C : Cxt P w K mg base X N_law (defScope (top 23)) 5 true) : DS X E0k (stm 23 1) (sSet 2 (vFn (aCons (vLst (lComp (fun δ => ((vC (.str "abcdefgh")) δ).bind seqOf) bind1 [1] cTrue (vFn (aCons (b2 (vLst (aCons (vC (.int 0)) aNil)) (vLst (lComp (fun δ => ((vVar 1) δ).bind seqOf) bind1 [0] (cVal (b2 (b2 (b2 (vVar 0) (vC (.int 1)) dIx) (vC (.int 1)) dIx) (vVar 1) dEq)) (b2 (b2 (vVar 0) (vC (.int 1)) dIx) (vC (.int 0)) dIx))) dAdd) aNil) dMaxL))) aNil) dTupF)) :=
  (s_set C 2 (by kernel_rfl) (d_tupF C (by kernel_rfl) T.b_tuple (a_cons (d_new (f_comp1c C [1] ["_law_book_here"] (by kernel_rfl) (i_seq d_str) (fun X' C' => ts_nil) (fun X' C' => (d_maxL C' (by kernel_rfl) T.b_max (a_cons (d_add (d_new (f_lst (a_cons d_int a_nil))) (d_new (f_comp1 C' [0] ["_law_hand"] (by kernel_rfl) (i_seq (d_var C' 1 (by kernel_rfl))) (fun X' C' => (ts_one (t_eq C' (d_ix (d_ix (d_var C' 0 (by kernel_rfl)) d_int) d_int) (d_var C' 1 (by kernel_rfl))))) (fun X' C' => (d_ix (d_ix (d_var C' 0 (by kernel_rfl)) d_int) d_int))))) a_nil))))) a_nil)))
theorem st_law_2 {P : Program} {w : World} {K : PySem.W.Frag} {mg : Str → Option Value} {base : Heap} {X : Cx} (T : Txt mg) (F__law_book : Fn P w K mg base "_law_book" 5 4 m__law_book) (F__law_clock : Fn P w K mg base "_law_clock" 3 3 m__law_clock) (F__law_named : Fn P w K mg base "_law_named" 1 1 m__law_named) (F__law_names : Fn P w K mg base "_law_names" 3 2 m__law_names) (F_clock_of : Fn P w K mg base "clock_of" 1 1 m_clock_of) (F_kept_to : Fn P w K mg base "kept_to" 4 2 m_kept_to) (F_later_clock : Fn P w K mg base "later_clock" 1 2 m_later_clock) (F_newer : Fn P w K mg base "newer" 2 2 m_newer) (C : Cxt P w K mg base X N_law (defScope (top 23)) 5 true) : DS X E0k (stm 23 2) (sIf (cVal (b2 (vCall (aCons (vVar 1) aNil) m_clock_of) (vVar 2) dNe)) (sRet (vC (.bool false))) sNext) :=
  (s_if (t_ne C (d_call C F_clock_of (by decide) (by kernel_rfl) (a_cons (d_var C 1 (by kernel_rfl)) a_nil)) (d_var C 2 (by kernel_rfl))) (ss_one (s_ret d_bool)) ss_nil)
theorem st_law_3 {P : Program} {w : World} {K : PySem.W.Frag} {mg : Str → Option Value} {base : Heap} {X : Cx} (T : Txt mg) (F__law_book : Fn P w K mg base "_law_book" 5 4 m__law_book) (F__law_clock : Fn P w K mg base "_law_clock" 3 3 m__law_clock) (F__law_named : Fn P w K mg base "_law_named" 1 1 m__law_named) (F__law_names : Fn P w K mg base "_law_names" 3 2 m__law_names) (F_clock_of : Fn P w K mg base "clock_of" 1 1 m_clock_of) (F_kept_to : Fn P w K mg base "kept_to" 4 2 m_kept_to) (F_later_clock : Fn P w K mg base "later_clock" 1 2 m_later_clock) (F_newer : Fn P w K mg base "newer" 2 2 m_newer) (C : Cxt P w K mg base X N_law (defScope (top 23)) 5 true) : DS X E0k (stm 23 3) (sSet 3 (vLst (aCons (vCall (aCons (vVar 0) (aCons (vC (.int 600)) (aCons (vVar 1) aNil))) m__law_clock) (aCons (vCall (aCons (vVar 0) (aCons (vC (.int 640)) (aCons (vVar 1) aNil))) m__law_clock) (aCons (vVar 2) aNil))))) :=
  (s_set C 3 (by kernel_rfl) (d_new (f_lst (a_cons (d_call C F__law_clock (by decide) (by kernel_rfl) (a_cons (d_var C 0 (by kernel_rfl)) (a_cons d_int (a_cons (d_var C 1 (by kernel_rfl)) a_nil)))) (a_cons (d_call C F__law_clock (by decide) (by kernel_rfl) (a_cons (d_var C 0 (by kernel_rfl)) (a_cons d_int (a_cons (d_var C 1 (by kernel_rfl)) a_nil)))) (a_cons (d_var C 2 (by kernel_rfl)) a_nil))))))
theorem st_law_4 {P : Program} {w : World} {K : PySem.W.Frag} {mg : Str → Option Value} {base : Heap} {X : Cx} (T : Txt mg) (F__law_book : Fn P w K mg base "_law_book" 5 4 m__law_book) (F__law_clock : Fn P w K mg base "_law_clock" 3 3 m__law_clock) (F__law_named : Fn P w K mg base "_law_named" 1 1 m__law_named) (F__law_names : Fn P w K mg base "_law_names" 3 2 m__law_names) (F_clock_of : Fn P w K mg base "clock_of" 1 1 m_clock_of) (F_kept_to : Fn P w K mg base "kept_to" 4 2 m_kept_to) (F_later_clock : Fn P w K mg base "later_clock" 1 2 m_later_clock) (F_newer : Fn P w K mg base "newer" 2 2 m_newer) (C : Cxt P w K mg base X N_law (defScope (top 23)) 5 true) : DS X E0k (stm 23 4) (sSet 3 (b2 (vVar 3) (vLst (aCons (b2 (vTup (aCons (vC (.int 0)) aNil)) (vC (.int 8)) dMul) (aCons (b2 (vTup (aCons (vC (.int 99)) aNil)) (vC (.int 8)) dMul) (aCons (b2 (vTup (aCons (vC (.int 2)) aNil)) (vC (.int 8)) dMul) (aCons (b2 (vTup (aCons (vC (.int 0)) (aCons (vC (.int 4)) (aCons (vC (.int 1)) aNil)))) (b2 (vTup (aCons (vC (.int 0)) aNil)) (vC (.int 5)) dMul) dAdd) aNil))))) dAdd)) :=
  (s_set C 3 (by kernel_rfl) (d_add (d_var C 3 (by kernel_rfl)) (d_new (f_lst (a_cons (d_mul (d_tup (a_cons d_int a_nil)) d_int) (a_cons (d_mul (d_tup (a_cons d_int a_nil)) d_int) (a_cons (d_mul (d_tup (a_cons d_int a_nil)) d_int) (a_cons (d_add (d_tup (a_cons d_int (a_cons d_int (a_cons d_int a_nil)))) (d_mul (d_tup (a_cons d_int a_nil)) d_int)) a_nil))))))))
theorem st_law_5 {P : Program} {w : World} {K : PySem.W.Frag} {mg : Str → Option Value} {base : Heap} {X : Cx} (T : Txt mg) (F__law_book : Fn P w K mg base "_law_book" 5 4 m__law_book) (F__law_clock : Fn P w K mg base "_law_clock" 3 3 m__law_clock) (F__law_named : Fn P w K mg base "_law_named" 1 1 m__law_named) (F__law_names : Fn P w K mg base "_law_names" 3 2 m__law_names) (F_clock_of : Fn P w K mg base "clock_of" 1 1 m_clock_of) (F_kept_to : Fn P w K mg base "kept_to" 4 2 m_kept_to) (F_later_clock : Fn P w K mg base "later_clock" 1 2 m_later_clock) (F_newer : Fn P w K mg base "newer" 2 2 m_newer) (C : Cxt P w K mg base X N_law (defScope (top 23)) 5 true) : DS X E0k (stm 23 5) (sFor (fun δ => ((vVar 3) δ).bind seqOf) (st1 4) (sSeq (sNew 5 (lComp (fun δ => ((vVar 1) δ).bind seqOf) bind1 [4] (cVal (b2 (b2 (b2 (vVar 0) (vC (.int 1)) dIx) (vC (.int 0)) dIx) (b2 (vVar 1) (vIndexE (vC (.str "abcdefgh")) (b2 (b2 (vVar 0) (vC (.int 1)) dIx) (vC (.int 1)) dIx)) dIx) (dCmpS .Gt))) (vVar 0))) (sSeq (sIf (cVal (b2 (vCall (aCons (vVar 1) (aCons (vVar 4) aNil)) m_newer) (vVar 5) dNe)) (sRet (vC (.bool false))) sNext) (sSeq (sSet 6 (vTup aNil)) (sSeq (sFor (fun δ => ((vVar 1) δ).bind seqOf) (st1 7) (sSeq (sSet 9 (vLst (lComp (fun δ => ((vVar 6) δ).bind seqOf) bind1 [] cTrue (b2 (vVar 0) (vC (.int 1)) dIx)))) (sIf (cAnd (cVal (b2 (vVar 7) (vVar 5) (dIn true))) (cVal (b2 (vLst (lComp (fun δ => ((vCall (aCons (vVar 7) aNil) m__law_named) δ).bind seqOf) bind1 [9] (cVal (b2 (vVar 0) (vVar 1) (dIn true))) (vVar 0))) (vLst aNil) dEq))) (sSet 6 (b2 (vVar 6) (vTup (aCons (vVar 7) aNil)) dAdd)) sNext))) (sSeq (sIf (cVal (b2 (vCall (aCons (vVar 1) (aCons (vVar 4) aNil)) m_kept_to) (vVar 6) dNe)) (sRet (vC (.bool false))) sNext) (sFor (fun δ => ((vVar 3) δ).bind seqOf) (st1 8) (sIf (cVal (b2 (vCall (aCons (vVar 4) (aCons (vVar 8) aNil)) m_later_clock) (vFn (aCons (vLst (lComp (fun δ => ((aCons (vC (.int 8)) aNil) δ).bind rng1) bind1 [4, 8] cTrue (vFn (aCons (b2 (vVar 1) (vVar 0) dIx) (aCons (b2 (vVar 2) (vVar 0) dIx) aNil)) dMax))) aNil) dTupF) dNe)) (sRet (vC (.bool false))) sNext)))))))) :=
  (s_for1 C 4 (by kernel_rfl) (i_seq (d_var C 3 (by kernel_rfl))) (ss_cons (s_newComp1 C 5 (by kernel_rfl) (by kernel_rfl) [4] ["_law_clock_here"] (by kernel_rfl) (i_seq (d_var C 1 (by kernel_rfl))) (fun X' C' => (ts_one (t_gt C' (d_ix (d_ix (d_var C' 0 (by kernel_rfl)) d_int) d_int) (d_ix (d_var C' 1 (by kernel_rfl)) (d_indexE d_str (d_ix (d_ix (d_var C' 0 (by kernel_rfl)) d_int) d_int)))))) (fun X' C' => (d_var C' 0 (by kernel_rfl)))) (ss_cons (s_if (t_ne C (d_call C F_newer (by decide) (by kernel_rfl) (a_cons (d_var C 1 (by kernel_rfl)) (a_cons (d_var C 4 (by kernel_rfl)) a_nil))) (d_var C 5 (by kernel_rfl))) (ss_one (s_ret d_bool)) ss_nil) (ss_cons (s_set C 6 (by kernel_rfl) (d_tup a_nil)) (ss_cons (s_for1 C 7 (by kernel_rfl) (i_seq (d_var C 1 (by kernel_rfl))) (ss_cons (s_set C 9 (by kernel_rfl) (d_new (f_comp1 C [] [] (by kernel_rfl) (i_seq (d_var C 6 (by kernel_rfl))) (fun X' C' => ts_nil) (fun X' C' => (d_ix (d_var C' 0 (by kernel_rfl)) d_int)))) (swap_false C (by kernel_rfl))) (ss_one (s_if (w_t (w_and (t_notIn C (d_var C 7 (by kernel_rfl)) (d_var C 5 (by kernel_rfl))) (w_and1 (t_eq C (d_new (f_comp1 C [9] ["_law_ids"] (by kernel_rfl) (i_seq (d_call C F__law_named (by decide) (by kernel_rfl) (a_cons (d_var C 7 (by kernel_rfl)) a_nil))) (fun X' C' => (ts_one (t_notIn C' (d_var C' 0 (by kernel_rfl)) (d_var C' 1 (by kernel_rfl))))) (fun X' C' => (d_var C' 0 (by kernel_rfl))))) (d_new (f_lst a_nil)))))) (ss_one (s_set C 6 (by kernel_rfl) (d_add (d_var C 6 (by kernel_rfl)) (d_tup (a_cons (d_var C 7 (by kernel_rfl)) a_nil))))) ss_nil)))) (ss_cons (s_if (t_ne C (d_call C F_kept_to (by decide) (by kernel_rfl) (a_cons (d_var C 1 (by kernel_rfl)) (a_cons (d_var C 4 (by kernel_rfl)) a_nil))) (d_var C 6 (by kernel_rfl))) (ss_one (s_ret d_bool)) ss_nil) (ss_one (s_for1 C 8 (by kernel_rfl) (i_seq (d_var C 3 (by kernel_rfl))) (ss_one (s_if (t_ne C (d_call C F_later_clock (by decide) (by kernel_rfl) (a_cons (d_var C 4 (by kernel_rfl)) (a_cons (d_var C 8 (by kernel_rfl)) a_nil))) (d_tupF C (by kernel_rfl) T.b_tuple (a_cons (d_new (f_comp1 C [4, 8] ["_law_clock_here", "_law_other"] (by kernel_rfl) (i_range1 C (by kernel_rfl) T.b_range (a_cons d_int a_nil)) (fun X' C' => ts_nil) (fun X' C' => (d_max C' (by kernel_rfl) T.b_max (a_cons (d_ix (d_var C' 1 (by kernel_rfl)) (d_var C' 0 (by kernel_rfl))) (a_cons (d_ix (d_var C' 2 (by kernel_rfl)) (d_var C' 0 (by kernel_rfl))) a_nil)))))) a_nil))) (ss_one (s_ret d_bool)) ss_nil))))))))))
theorem st_law_6 {P : Program} {w : World} {K : PySem.W.Frag} {mg : Str → Option Value} {base : Heap} {X : Cx} (T : Txt mg) (F__law_book : Fn P w K mg base "_law_book" 5 4 m__law_book) (F__law_clock : Fn P w K mg base "_law_clock" 3 3 m__law_clock) (F__law_named : Fn P w K mg base "_law_named" 1 1 m__law_named) (F__law_names : Fn P w K mg base "_law_names" 3 2 m__law_names) (F_clock_of : Fn P w K mg base "clock_of" 1 1 m_clock_of) (F_kept_to : Fn P w K mg base "kept_to" 4 2 m_kept_to) (F_later_clock : Fn P w K mg base "later_clock" 1 2 m_later_clock) (F_newer : Fn P w K mg base "newer" 2 2 m_newer) (C : Cxt P w K mg base X N_law (defScope (top 23)) 5 true) : DS X E0k (stm 23 6) (sRet (vAnd (b2 (vCall (aCons (vTup aNil) aNil) m_clock_of) (b2 (vTup (aCons (vC (.int 0)) aNil)) (vC (.int 8)) dMul) dEq) (vAnd (b2 (vCall (aCons (vTup aNil) (aCons (b2 (vTup (aCons (vC (.int 9)) aNil)) (vC (.int 8)) dMul) aNil)) m_kept_to) (vTup aNil) dEq) (b2 (vCall (aCons (vTup aNil) (aCons (b2 (vTup (aCons (vC (.int 0)) aNil)) (vC (.int 8)) dMul) aNil)) m_newer) (vLst aNil) dEq)))) :=
  (s_ret (d_and (d_eq C (d_call C F_clock_of (by decide) (by kernel_rfl) (a_cons (d_tup a_nil) a_nil)) (d_mul (d_tup (a_cons d_int a_nil)) d_int)) (d_and (d_eq C (d_call C F_kept_to (by decide) (by kernel_rfl) (a_cons (d_tup a_nil) (a_cons (d_mul (d_tup (a_cons d_int a_nil)) d_int) a_nil))) (d_tup a_nil)) (d_one (d_eq C (d_call C F_newer (by decide) (by kernel_rfl) (a_cons (d_tup a_nil) (a_cons (d_mul (d_tup (a_cons d_int a_nil)) d_int) a_nil))) (d_new (f_lst a_nil)))))))
theorem body_law {P : Program} {w : World} {K : PySem.W.Frag} {mg : Str → Option Value} {base : Heap} {X : Cx} (T : Txt mg) (F__law_book : Fn P w K mg base "_law_book" 5 4 m__law_book) (F__law_clock : Fn P w K mg base "_law_clock" 3 3 m__law_clock) (F__law_named : Fn P w K mg base "_law_named" 1 1 m__law_named) (F__law_names : Fn P w K mg base "_law_names" 3 2 m__law_names) (F_clock_of : Fn P w K mg base "clock_of" 1 1 m_clock_of) (F_kept_to : Fn P w K mg base "kept_to" 4 2 m_kept_to) (F_later_clock : Fn P w K mg base "later_clock" 1 2 m_later_clock) (F_newer : Fn P w K mg base "newer" 2 2 m_newer) (C : Cxt P w K mg base X N_law (defScope (top 23)) 5 true) : DSs X E0k (defBody (top 23)) sem_law := by
  have h : defBody (top 23) = [stm 23 0, stm 23 1, stm 23 2, stm 23 3, stm 23 4, stm 23 5, stm 23 6] := by kernel_rfl
  rw [h]
  exact (ss_cons (st_law_0 T F__law_book F__law_clock F__law_named F__law_names F_clock_of F_kept_to F_later_clock F_newer C) (ss_cons (st_law_1 T F__law_book F__law_clock F__law_named F__law_names F_clock_of F_kept_to F_later_clock F_newer C) (ss_cons (st_law_2 T F__law_book F__law_clock F__law_named F__law_names F_clock_of F_kept_to F_later_clock F_newer C) (ss_cons (st_law_3 T F__law_book F__law_clock F__law_named F__law_names F_clock_of F_kept_to F_later_clock F_newer C) (ss_cons (st_law_4 T F__law_book F__law_clock F__law_named F__law_names F_clock_of F_kept_to F_later_clock F_newer C) (ss_cons (st_law_5 T F__law_book F__law_clock F__law_named F__law_names F_clock_of F_kept_to F_later_clock F_newer C) (ss_one (st_law_6 T F__law_book F__law_clock F__law_named F__law_names F_clock_of F_kept_to F_later_clock F_newer C))))))))
end Sm
end
section
set_option Elab.async false
set_option linter.all false
set_option maxRecDepth 100000
set_option maxHeartbeats 4000000
set_option autoImplicit false
namespace Sm
open PySem PySem.Spec PyProof.Rows L2
theorem def_mk {K : PySem.W.Frag} {mg : Str → Option Value} {h : Heap} {x : Str} {st : Stmt} {ps : List Str} {f : Addr} {oc : Value} {od an : Option Addr} {osl : Array (Option Value)} {kV doc pm cdv ct : Value} (X : K.In h) (G : h.Ns mainGlobals mg) (a : PySem.W.nsIn K mainGlobals x = some (some (.ref f)))
    (l : K.lookup f = some ⟨oc, od, .func (PySem.W.fnOf x x (defArgs st) (defBody st) (defScope st) .none kV doc pm an cdv ct), osl⟩) (c : PySem.W.codeIn K cdv x = true) (k : PySem.W.keepIn K (.ref f) = true)
    (hb : ∀ (kV doc pm : Value) (an : Option Addr) (cdv ct : Value) (us : List Value), us.length = ps.length → bindArgs (PySem.W.fnOf x x (defArgs st) (defBody st) (defScope st) .none kV doc pm an cdv ct) ⟨us, []⟩ = pure (ps.zip us)) : Def K mg x st ps :=
  ⟨f, _, fun_mk l c k, PySem.W.mg_of X G a, (fun_mk l c k).binds hb⟩
theorem fn_Dt {P : Program} {w : World} {K : PySem.W.Frag} {mg : Str → Option Value} {base : Heap} {N : List Str} {k : Nat} {x : Str} {st : Stmt} {ps : List Str} {n : Nat} {go : Dn → Out} {m : List PyData → Res PyData} (F : Def K mg x st ps) (S : FnScope N ps (defScope st)) (hn : ps.length = n)
    (body : ∀ X, Cxt P w K mg base X N (defScope st) k true → (X.stack = X.env :: X.outer ∧ X.env.frame = some X.env.locals) → X.ex = [] → DSs X E0k (defBody st) go) (hm : m = fnD N go) : Fn P w K mg base x (k + 1) n m := by
  obtain ⟨f, fd, F, hmg, hb⟩ := F.ex
  refine ⟨f, fd, ps, hn, ?_, hmg, F.kp, hb⟩
  subst hm
  refine F.ok S (fun vs H Q E h => ?_) (fun cdv A outer s H vs Q E hr h => ?_)
  · obtain ⟨G, ds, d, _, r, hl, _⟩ := h
    rw [← r.length, hl, hn]
  · obtain ⟨G, ds, d, hG, r, hl, em, q⟩ := h
    refine ⟨_, body _ ⟨rfl, rfl, rfl, rfl, rfl, rfl, rfl, rfl, hr, fun _ _ => rfl, PassesOwn.never⟩ ⟨rfl, rfl⟩ rfl G H, G, _, start_SR hG r N, ?_⟩
    unfold fnD at em
    cases eg : go (startD N ds) with
    | rt d' => rw [eg] at em; cases em; exact fun v G' H' g r' => q v G' H' g r'
    | nx δ => rw [eg] at em; cases em; exact fun σ G' H' S' => q _ G' H' S'.gr rfl
    | bk _ => rw [eg] at em; cases em
    | ct _ => rw [eg] at em; cases em
    | exc _ => rw [eg] at em; cases em
    | no => rw [eg] at em; cases em
theorem look_mem : ∀ {l : List (Addr × Obj)} {a : Addr} {o : Obj}, l.lookup a = some o → (a, o) ∈ l
  | [], _, _, h => nomatch h
  | (b, q) :: r, a, o, h => by
    rw [List.lookup_cons] at h
    cases e : a == b with
    | true => rw [e] at h; cases h; rw [eq_of_beq e]; exact .head _
    | false => rw [e] at h; exact .tail _ (look_mem h)
def noList (K : PySem.W.Frag) : Bool := K.all fun p => !(match p.2.cls with | .type n => n == "list" | _ => false)
theorem noList.out {K : PySem.W.Frag} (h : noList K = true) {a : Addr} {o : Obj} (e : K.lookup a = some o) : o.cls ≠ .type "list" := fun z => by
  have hm : (a, o) ∈ K := look_mem e
  unfold noList at h
  have := List.all_eq_true.mp h _ hm
  rw [z] at this
  simp at this
structure Defs (K : PySem.W.Frag) (mg : Str → Option Value) : Prop where
  D_signs_named : Def K mg "signs_named" (top 2) ["deed"]
  D_deeds_named : Def K mg "deeds_named" (top 3) ["deed"]
  D_signs_added : Def K mg "signs_added" (top 4) ["deed"]
  D_has_all_named : Def K mg "has_all_named" (top 5) ["known", "deed"]
  D_clock_of : Def K mg "clock_of" (top 7) ["book"]
  D_is_newer : Def K mg "is_newer" (top 8) ["deed", "clock"]
  D_newer : Def K mg "newer" (top 9) ["book", "clock"]
  D_later_clock : Def K mg "later_clock" (top 10) ["one", "other"]
  D_kept_to : Def K mg "kept_to" (top 11) ["book", "clock"]
  D__law_cell : Def K mg "_law_cell" (top 13) ["_law_script", "_law_k"]
  D__law_drawn : Def K mg "_law_drawn" (top 14) ["_law_script", "_law_k", "_law_many"]
  D__law_names : Def K mg "_law_names" (top 15) ["_law_script", "_law_at"]
  D__law_words : Def K mg "_law_words" (top 16) ["_law_script", "_law_at"]
  D__law_signs : Def K mg "_law_signs" (top 17) ["_law_book_here"]
  D__law_anchor : Def K mg "_law_anchor" (top 18) ["_law_script", "_law_at", "_law_signs_here"]
  D__law_deed : Def K mg "_law_deed" (top 19) ["_law_script", "_law_at", "_law_one", "_law_known", "_law_names_here"]
  D__law_book : Def K mg "_law_book" (top 20) ["_law_script", "_law_at", "_law_most", "_law_names_here"]
  D__law_named : Def K mg "_law_named" (top 21) ["_law_deed_here"]
  D__law_clock : Def K mg "_law_clock" (top 22) ["_law_script", "_law_at", "_law_book_here"]
  D_law : Def K mg "law" (top 23) ["_law_script"]
section
variable {P : Program} {w : World} {K : PySem.W.Frag} {mg : Str → Option Value} {base : Heap}
theorem law_fn {f : Addr} {fd : FuncData} (F : L2.Fun K "law" "law" (top 23) f fd) (T : Txt mg) (D : Defs K mg) : FnOk P w K mg base CX0 6 f fd ["_law_script"] (spD 1 m_law) := by
  have F_signs_named : Fn P w K mg base "signs_named" 1 1 m_signs_named := fn_D (k := 0) D.D_signs_named sc_signs_named rfl (fun X C => body_signs_named T  C) rfl
  have F_deeds_named : Fn P w K mg base "deeds_named" 2 1 m_deeds_named := fn_D (k := 1) D.D_deeds_named sc_deeds_named rfl (fun X C => body_deeds_named T F_signs_named C) rfl
  have F_signs_added : Fn P w K mg base "signs_added" 1 1 m_signs_added := fn_D (k := 0) D.D_signs_added sc_signs_added rfl (fun X C => body_signs_added T  C) rfl
  have F_has_all_named : FnL P w K mg base "has_all_named" 3 m_has_all_named := fn_L (k := 2) D.D_has_all_named sc_has_all_named rfl rfl (fun X C => body_has_all_named T F_deeds_named F_signs_added F_signs_named C) rfl
  have F_clock_of : Fn P w K mg base "clock_of" 1 1 m_clock_of := fn_D (k := 0) D.D_clock_of sc_clock_of rfl (fun X C => body_clock_of T  C) rfl
  have F_is_newer : Fn P w K mg base "is_newer" 1 2 m_is_newer := fn_D (k := 0) D.D_is_newer sc_is_newer rfl (fun X C => body_is_newer T  C) rfl
  have F_newer : Fn P w K mg base "newer" 2 2 m_newer := fn_D (k := 1) D.D_newer sc_newer rfl (fun X C => body_newer T F_is_newer C) rfl
  have F_later_clock : Fn P w K mg base "later_clock" 1 2 m_later_clock := fn_D (k := 0) D.D_later_clock sc_later_clock rfl (fun X C => body_later_clock T  C) rfl
  have F_kept_to : Fn P w K mg base "kept_to" 4 2 m_kept_to := fn_D (k := 3) D.D_kept_to sc_kept_to rfl (fun X C => body_kept_to T F_has_all_named F_is_newer C) rfl
  have F__law_cell : Fn P w K mg base "_law_cell" 1 2 m__law_cell := fn_D (k := 0) D.D__law_cell sc__law_cell rfl (fun X C => body__law_cell T  C) rfl
  have F__law_drawn : Fn P w K mg base "_law_drawn" 2 3 m__law_drawn := fn_D (k := 1) D.D__law_drawn sc__law_drawn rfl (fun X C => body__law_drawn T F__law_cell C) rfl
  have F__law_names : Fn P w K mg base "_law_names" 3 2 m__law_names := fn_D (k := 2) D.D__law_names sc__law_names rfl (fun X C => body__law_names T F__law_drawn C) rfl
  have F__law_words : Fn P w K mg base "_law_words" 3 2 m__law_words := fn_D (k := 2) D.D__law_words sc__law_words rfl (fun X C => body__law_words T F__law_drawn C) rfl
  have F__law_signs : Fn P w K mg base "_law_signs" 1 1 m__law_signs := fn_D (k := 0) D.D__law_signs sc__law_signs rfl (fun X C => body__law_signs T  C) rfl
  have F__law_anchor : Fn P w K mg base "_law_anchor" 3 3 m__law_anchor := fn_D (k := 2) D.D__law_anchor sc__law_anchor rfl (fun X C => body__law_anchor T F__law_drawn C) rfl
  have F__law_deed : Fn P w K mg base "_law_deed" 4 5 m__law_deed := fn_D (k := 3) D.D__law_deed sc__law_deed rfl (fun X C => body__law_deed T F__law_anchor F__law_drawn F__law_signs F__law_words C) rfl
  have F__law_book : Fn P w K mg base "_law_book" 5 4 m__law_book := fn_D (k := 4) D.D__law_book sc__law_book rfl (fun X C => body__law_book T F__law_deed F__law_drawn C) rfl
  have F__law_named : Fn P w K mg base "_law_named" 1 1 m__law_named := fn_D (k := 0) D.D__law_named sc__law_named rfl (fun X C => body__law_named T  C) rfl
  have F__law_clock : Fn P w K mg base "_law_clock" 3 3 m__law_clock := fn_D (k := 2) D.D__law_clock sc__law_clock rfl (fun X C => body__law_clock T F__law_drawn C) rfl
  exact fnok_D (k := 5) F sc_law rfl (fun X C => body_law T F__law_book F__law_clock F__law_named F__law_names F_clock_of F_kept_to F_later_clock F_newer C) rfl
end
end Sm
open PySem PySem.W PyProof.Rows
theorem Sm.walkD {l : PySem.W.OpenLaw} {q : Program} {loose : List Str} {XP : (Str → Option Value) → Heap → Prop} {YP : World → Heap → Prop} {d : DefRec} {K : Params → PySem.W.Frag} (hn : l.most = some 63) (hdf : d.params.defaults = []) (hnm : d.name = "law")
    (hY : ∀ (w : World) (h : Heap), YP w h → (K w.params).In h) (hK : ∀ w : World, Sm.noList (K w.params) = true)
    (F : ∀ (w : World) (mg : Str → Option Value) (h : Heap), (K w.params).In h → h.Ns mainGlobals mg → Sm.Txt mg ∧ Sm.Defs (K w.params) mg)
    (pure : ∀ ns : List Int, ns.length ≤ 63 → Sm.m_law [.list (ns.map PyData.int)] = .ok (.bool true)) :
    PySem.W.WalkO q loose XP YP l.row.toRowW d [] (fun f vs => PySem.call f vs) := by
  refine L2.walk_of (n := 63) (k := 6) (x := "_law_script") (CX := fun _ => L2.CX0) (sp := fun _ => Sm.spD 1 Sm.m_law) hn (by decide) hdf ⟨rfl, by decide, by decide, rfl⟩ hY (fun w mg fa h KX G hmg => ?_) (fun w H a ns hl hO hS => ?_) fun _ _ _ _ _ z => z
  · obtain ⟨T, D⟩ := F w mg h KX G
    obtain ⟨f0, fd0, F0, hm0, hb0⟩ := D.D_law.ex
    rw [hnm, hm0] at hmg
    cases hmg
    refine ⟨fd0, fun s u => ?_, fun base kb nb => ?_⟩
    · obtain ⟨oc, od, kV, doc, pm, an, cdv, ct, osl, rfl, lk, hcd⟩ := F0.ex
      exact .of_eq rfl
    · exact Sm.law_fn F0 T D
  · rcases hS with hS | ⟨o, its, nn, hk, hc, _⟩
    · refine ⟨H, [.list (ns.map PyData.int)], .bool true, L2.Same.refl _, Sm.RepL.cons ⟨a, _, rfl, hS, Sm.RepL.ints ns⟩ rfl, rfl, pure ns hl, fun v G' H' g r => r⟩
    · exact absurd hc (Sm.noList.out (hK w) hk)
end
section
set_option autoImplicit false
set_option linter.all false
set_option maxRecDepth 10000
open PySem
namespace Sm
open L2
def Out.seq (o : Out) (g : Dn → Out) : Out := match o with
  | .nx δ => g δ
  | o => o
def Out.fin (o : Out) : Res PyData := match o with
  | .rt d => .ok d
  | .nx _ => .ok .none
  | .exc c => .exc c
  | _ => .no
def slotV (s : Option Sl) : Res PyData := match s with
  | some (.sh d) => .ok d
  | _ => .no
theorem ok_bind {α β : Type} (a : α) (k : α → Res β) : (Res.ok a).bind k = k a := rfl
theorem exc_bind {α β : Type} (a : Str) (k : α → Res β) : (Res.exc a : Res α).bind k = .exc a := rfl
theorem ofO_some {α : Type} (a : α) : ofO (some a) = .ok a := rfl
theorem thenS_ok {α : Type} (a : α) (k : α → Out) : thenS (.ok a) k = k a := rfl
theorem thenS_exc {α : Type} (a : Str) (k : α → Out) : thenS (.exc a : Res α) k = .exc a := rfl
theorem sSeq_eq (g1 g2 : Dn → Out) (δ : Dn) : sSeq g1 g2 δ = (g1 δ).seq g2 := by unfold sSeq Out.seq; cases g1 δ <;> rfl
theorem seq_nx (δ : Dn) (g : Dn → Out) : (Out.nx δ).seq g = g δ := rfl
theorem seq_rt (d : PyData) (g : Dn → Out) : (Out.rt d).seq g = .rt d := rfl
theorem seq_exc (d : Str) (g : Dn → Out) : (Out.exc d).seq g = .exc d := rfl
theorem fnD_eq (N : List Str) (g : Dn → Out) (ds : List PyData) : fnD N g ds = (g (startD N ds)).fin := by unfold fnD Out.fin; cases g (startD N ds) <;> rfl
theorem fin_rt (d : PyData) : (Out.rt d).fin = .ok d := rfl
theorem fin_nx (δ : Dn) : (Out.nx δ).fin = .ok .none := rfl
theorem fin_exc (d : Str) : (Out.exc d).fin = .exc d := rfl
theorem vVar_eq (i : Nat) (δ : Dn) : vVar i δ = slotV δ[i]? := rfl
theorem slotV_sh (d : PyData) : slotV (some (.sh d)) = .ok d := rfl
theorem sIf_eq (c : Dn → Res Bool) (g1 g2 : Dn → Out) (δ : Dn) : sIf c g1 g2 δ = thenS (c δ) fun b => if b = true then g1 δ else g2 δ := rfl
theorem vAnd_t (f g : Dn → Res PyData) (δ : Dn) (h : f δ = .ok (.bool true)) : vAnd f g δ = g δ := by unfold vAnd; rw [h]; rfl
theorem vAnd_f (f g : Dn → Res PyData) (δ : Dn) (h : f δ = .ok (.bool false)) : vAnd f g δ = .ok (.bool false) := by unfold vAnd; rw [h]; rfl
theorem truD_bool (b : Bool) : truD (.bool b) = some b := rfl
local macro_rules
  | `(tactic| simp_arith) => `(tactic| simp_arith [ok_bind])
  | `(tactic| simp_arith [$ls,*]) => `(tactic| simp only [$ls,*, fnD_eq, startD, sSeq_eq, seq_nx, seq_rt, seq_exc, fin_rt, fin_nx, fin_exc, sIf_eq, cVal, b2, b1, vVar_eq, slotV_sh, vLst, vTup, aNil, aCons, vC, ok_bind, exc_bind, ofO_some, thenS_ok, thenS_exc, sRet, sSet, sOwn, sNew, sNext, vFn, vCall, vCall0, noX, cAnd, cOr, cNot, sFor, sExp, sFz, oSome, oNone, vSl, vJoin, cTrue, cFz, truD_bool,
  List.map_cons, List.map_nil, List.length_cons, List.length_nil, List.replicate, List.cons_append, List.nil_append, List.append_nil, List.getElem?_cons_zero, List.getElem?_cons_succ, List.set_cons_zero, List.set_cons_succ, Nat.reduceAdd, Nat.reduceSub, Nat.zero_add, if_true, if_false, Bool.false_eq_true, Bool.true_eq_false, reduceIte])
theorem lComp_ok {src : Dn → Res (List PyData)} {bnd : PyData → Res (List Sl)} {cap : List Nat} {tt : Dn → Res Bool} {el : Dn → Res PyData} {δ δc : Dn} {ds ys : List PyData} (h : src δ = .ok ds) (hl : ds.length ≤ 1000) (hc : capD δ cap = δc) (e : compRun bnd δc tt el ds = .ok ys) : lComp src bnd cap tt el δ = .ok ys := by
  unfold lComp
  rw [h, ok_bind, if_pos (Nat.le_trans hl (by decide)), hc, e]
theorem b2_ok {f g : Dn → Res PyData} {op : PyData → PyData → Option PyData} {δ : Dn} {x y d : PyData} (h1 : f δ = .ok x) (h2 : g δ = .ok y) (h3 : op x y = some d) : b2 f g op δ = .ok d := by
  unfold b2
  rw [h1, ok_bind, h2, ok_bind, h3]; rfl
theorem vLst_ok {f : Dn → Res (List PyData)} {δ : Dn} {ds : List PyData} (h : f δ = .ok ds) : vLst f δ = .ok (.list ds) := by unfold vLst; rw [h]; rfl
theorem sSet_ok {i : Nat} {f : Dn → Res PyData} {δ : Dn} {d : PyData} (h : f δ = .ok d) : sSet i f δ = .nx (δ.set i (.sh d)) := by unfold sSet; rw [h]; rfl
theorem sIf_t {c : Dn → Res Bool} {g1 g2 : Dn → Out} {δ : Dn} (h : c δ = .ok true) : sIf c g1 g2 δ = g1 δ := by unfold sIf; rw [h]; rfl
theorem sIf_f {c : Dn → Res Bool} {g1 g2 : Dn → Out} {δ : Dn} (h : c δ = .ok false) : sIf c g1 g2 δ = g2 δ := by unfold sIf; rw [h]; rfl
theorem sSeq_nx {g1 g2 : Dn → Out} {δ δ' : Dn} (h : g1 δ = .nx δ') : sSeq g1 g2 δ = g2 δ' := by unfold sSeq; rw [h]
theorem sSeq_rt {g1 g2 : Dn → Out} {δ : Dn} {d : PyData} (h : g1 δ = .rt d) : sSeq g1 g2 δ = .rt d := by unfold sSeq; rw [h]
theorem sRet_ok {f : Dn → Res PyData} {δ : Dn} {d : PyData} (h : f δ = .ok d) : sRet f δ = .rt d := by unfold sRet; rw [h]; rfl
theorem fn_rt {N : List Str} {g : Dn → Out} {ds : List PyData} {d : PyData} (h : g (startD N ds) = .rt d) : fnD N g ds = .ok d := by rw [fnD_eq, h]; rfl
theorem aCons_ok {f : Dn → Res PyData} {fs : Dn → Res (List PyData)} {δ : Dn} {d : PyData} {ds : List PyData} (h : f δ = .ok d) (h2 : fs δ = .ok ds) : aCons f fs δ = .ok (d :: ds) := by unfold aCons; rw [h, ok_bind, h2]; rfl
theorem vCall_ok {fs : Dn → Res (List PyData)} {m : List PyData → Res PyData} {δ : Dn} {ds : List PyData} {r : Res PyData} (h : fs δ = .ok ds) (h2 : m ds = r) : vCall fs m δ = r := by unfold vCall; rw [h, ok_bind, h2]
theorem vTup_ok {f : Dn → Res (List PyData)} {δ : Dn} {ds : List PyData} (h : f δ = .ok ds) : vTup f δ = .ok (.tuple ds) := by unfold vTup; rw [h]; rfl
theorem vFn_ok {f : Dn → Res (List PyData)} {op : List PyData → Option PyData} {δ : Dn} {ds : List PyData} {d : PyData} (h : f δ = .ok ds) (h2 : op ds = some d) : vFn f op δ = .ok d := by unfold vFn; rw [h, ok_bind, h2]; rfl
theorem cVal_ok {f : Dn → Res PyData} {δ : Dn} {b : Bool} (h : f δ = .ok (.bool b)) : cVal f δ = .ok b := by unfold cVal; rw [h]; rfl
abbrev scr (ns : List Int) : PyData := .list (ns.map .int)
theorem ixN_nat {n j : Nat} (h : j < n) : ixN n (j : Int) = some j := by
  unfold ixN
  rw [if_pos (by omega)]
  simp [h]
theorem atI_nat {α : Type} {xs : List α} {j : Nat} (h : j < xs.length) : atI xs (j : Int) = some xs[j] := by
  unfold atI
  rw [ixN_nat h]
  simp
theorem atI_int {α : Type} {xs : List α} {i : Int} (h0 : 0 ≤ i) (h : i < xs.length) : ∃ x ∈ xs, atI xs i = some x := by
  obtain ⟨j, rfl⟩ := Int.eq_ofNat_of_zero_le h0
  have hj : j < xs.length := by omega
  exact ⟨xs[j], List.getElem_mem _, atI_nat hj⟩
theorem eqv_nil (ns : List Int) : PyData.eqv (scr ns) (.list []) = ns.isEmpty := by
  cases ns with
  | nil => rfl
  | cons n ns => rfl
theorem dEq_nil (ns : List Int) : dEq (scr ns) (.list []) = some (.bool ns.isEmpty) := by
  unfold dEq
  rw [if_pos (Nat.le_trans (Nat.min_le_right _ _) (by decide)), eqv_nil]
theorem mulI {a b : Int} (h : (-(2 ^ 64) < a ∧ a < 2 ^ 64) ∨ (-(2 ^ 64) < b ∧ b < 2 ^ 64)) : dMul (.int a) (.int b) = some (.int (a * b)) := by
  show (if _ then _ else _) = _
  rw [if_pos h]
theorem mul7 {b : Int} : dMul (.int 7) (.int b) = some (.int (7 * b)) := mulI (.inl ⟨by decide, by decide⟩)
theorem mul6553 {b : Int} : dMul (.int 6553) (.int b) = some (.int (6553 * b)) := mulI (.inl ⟨by decide, by decide⟩)
theorem mul104723 {b : Int} : dMul (.int 104723) (.int b) = some (.int (104723 * b)) := mulI (.inl ⟨by decide, by decide⟩)
theorem mul69069 {b : Int} : dMul (.int b) (.int 69069) = some (.int (b * 69069)) := mulI (.inr ⟨by decide, by decide⟩)
theorem mul2 {b : Int} : dMul (.int 2) (.int b) = some (.int (2 * b)) := mulI (.inl ⟨by decide, by decide⟩)
theorem mul60 {b : Int} : dMul (.int 60) (.int b) = some (.int (60 * b)) := mulI (.inl ⟨by decide, by decide⟩)
theorem modI {a b : Int} (h : 0 < b) : dMod (.int a) (.int b) = some (.int (a % b)) := by
  show (if _ then _ else _) = _
  rw [if_pos h]
theorem divI {a b : Int} (h : 0 < b) (h2 : b < 1073741824) : dFdiv (.int a) (.int b) = some (.int (a / b)) := by
  show (if _ then _ else _) = _
  rw [if_pos ⟨h, h2⟩]
theorem addI {a b : Int} : dAdd (.int a) (.int b) = some (.int (a + b)) := rfl
theorem cell_ok (ns : List Int) (hns : ns.length ≤ 63) (k : Int) (h0 : 0 ≤ k) (h1 : k < 1000000) : ∃ c, m__law_cell [scr ns, .int k] = .ok (.int c) := by
  unfold m__law_cell sem__law_cell N__law_cell
  cases hn : ns with
  | nil =>
    refine ⟨7 * k, ?_⟩
    simp_arith [dEq_nil, List.isEmpty_nil, mul7]
  | cons n r =>
    have e1 := dEq_nil (n :: r)
    have hl : (0 : Int) < ((n :: r).length : Int) := by simp
    have hl2 : ((n :: r).length : Int) ≤ 63 := by rw [← hn]; omega
    obtain ⟨x, hx, e2⟩ := atI_int (xs := (n :: r).map PyData.int) (i := k % ((n :: r).length : Int)) (Int.emod_nonneg _ (by omega)) (by rw [List.length_map]; exact Int.emod_lt_of_pos _ hl)
    obtain ⟨c, _, rfl⟩ := List.mem_map.mp hx
    refine ⟨c + 6553 * (k / ((n :: r).length : Int)), ?_⟩
    have e3 : dLen [scr (n :: r)] = some (.int ((n :: r).length : Int)) := by simp [dLen, scr]
    have e4 : dIx (scr (n :: r)) (.int (k % ((n :: r).length : Int))) = some (.int c) := e2
    generalize hS : scr (n :: r) = S at *
    generalize hL : ((n :: r).length : Int) = m at *
    simp_arith [e1, List.isEmpty_cons, e3, modI hl, divI hl (show m < 1073741824 by omega), mul6553, e4, addI]
theorem drawn_ok (ns : List Int) (hns : ns.length ≤ 63) (k m : Int) (h0 : 0 ≤ k) (h1 : k < 1000000) (hm : 0 < m) : ∃ r, m__law_drawn [scr ns, .int k, .int m] = .ok (.int r) ∧ 0 ≤ r ∧ r < m := by
  obtain ⟨c, hc⟩ := cell_ok ns hns k h0 h1
  unfold m__law_drawn sem__law_drawn N__law_drawn
  generalize scr ns = S at *
  simp_arith [hc, modI (show (0 : Int) < 2147483563 by decide), addI, mul69069, mul104723]
  generalize hA : (c % 2147483563 * 69069 + 104723 * (k + 1)) % 2147483563 = A
  have a0 : 0 ≤ A := by rw [← hA]; exact Int.emod_nonneg _ (by decide)
  have a1 : A < 2147483563 := by rw [← hA]; exact Int.emod_lt_of_pos _ (by decide)
  simp_arith [mulI (a := A) (b := A) (.inl ⟨by omega, by omega⟩), divI (show (0 : Int) < 3 by decide) (by decide), addI, modI (show (0 : Int) < 2147483399 by decide)]
  generalize hB : (A * A + A / 3) % 2147483399 = B
  have b0 : 0 ≤ B := by rw [← hB]; exact Int.emod_nonneg _ (by decide)
  have b1 : B < 2147483399 := by rw [← hB]; exact Int.emod_lt_of_pos _ (by decide)
  simp_arith [mulI (a := B) (b := B) (.inl ⟨by omega, by omega⟩), divI (show (0 : Int) < 7 by decide) (by decide), addI, modI (show (0 : Int) < 2147483647 by decide), divI (show (0 : Int) < 11 by decide) (by decide), modI hm]
  exact ⟨_, rfl, Int.emod_nonneg _ (by omega), Int.emod_lt_of_pos _ hm⟩
end Sm
set_option autoImplicit false
set_option linter.all false
set_option maxRecDepth 10000
open PySem
namespace Sm
open L2
local macro_rules
  | `(tactic| simp_arith) => `(tactic| simp_arith [ok_bind])
  | `(tactic| simp_arith [$ls,*]) => `(tactic| simp only [$ls,*, fnD_eq, startD, sSeq_eq, seq_nx, seq_rt, seq_exc, fin_rt, fin_nx, fin_exc, sIf_eq, cVal, b2, b1, vVar_eq, slotV_sh, vLst, vTup, aNil, aCons, vC, ok_bind, exc_bind, ofO_some, thenS_ok, thenS_exc, sRet, sSet, sOwn, sNew, sNext, vFn, vCall, vCall0, noX, cAnd, cOr, cNot, sFor, sExp, sFz, oSome, oNone, vSl, vJoin, cTrue, cFz, truD_bool,
  List.map_cons, List.map_nil, List.length_cons, List.length_nil, List.replicate, List.cons_append, List.nil_append, List.append_nil, List.getElem?_cons_zero, List.getElem?_cons_succ, List.set_cons_zero, List.set_cons_succ, Nat.reduceAdd, Nat.reduceSub, Nat.zero_add, if_true, if_false, Bool.false_eq_true, Bool.true_eq_false, reduceIte])
theorem ixS' {x : Str} {i : Int} (h0 : 0 ≤ i) (h : i < (x.cps.toList.length : Int)) : ∃ c ∈ x.cps.toList, dIx (.str x) (.int i) = some (.str ⟨#[c]⟩) := by
  obtain ⟨c, hc, e⟩ := atI_int (xs := x.cps.toList) h0 h
  exact ⟨c, hc, by show (atI x.cps.toList i).map _ = _; rw [e]; rfl⟩
theorem ixS {x : Str} {i : Int} (h0 : 0 ≤ i) (h : i < (x.cps.toList.length : Int)) : ∃ c, dIx (.str x) (.int i) = some (.str ⟨#[c]⟩) := by
  obtain ⟨c, _, e⟩ := atI_int (xs := x.cps.toList) h0 h
  exact ⟨c, by show (atI x.cps.toList i).map _ = _; rw [e]; rfl⟩
theorem len1 (c : Nat) : (⟨#[c]⟩ : Str).length = 1 := rfl
theorem szBig : (1000 : Nat) ≤ sizeLine := by decide
theorem addS {x y : Str} (h : x.length + y.length ≤ 1000) : dAdd (.str x) (.str y) = some (.str (x ++ y)) := by
  show (if _ then _ else _) = _
  rw [if_pos (Nat.le_trans h szBig)]
theorem addL {x y : List PyData} (h : x.length + y.length ≤ 1000) : dAdd (.list x) (.list y) = some (.list (x ++ y)) := by
  show (if _ then _ else _) = _
  rw [if_pos (Nat.le_trans h szBig)]
theorem addT {x y : List PyData} (h : x.length + y.length ≤ 1000) : dAdd (.tuple x) (.tuple y) = some (.tuple (x ++ y)) := by
  show (if _ then _ else _) = _
  rw [if_pos (Nat.le_trans h szBig)]
theorem strLen_append (x y : Str) : (x ++ y).length = x.length + y.length := by
  show (x.cps ++ y.cps).size = _
  rw [Array.size_append]; rfl
theorem mulS {c : Nat} {n : Int} (h0 : 0 ≤ n) (h : n < 2) : ∃ y : Str, dMul (.str ⟨#[c]⟩) (.int n) = some (.str y) ∧ y.length ≤ 1 := by
  have : n = 0 ∨ n = 1 := by omega
  rcases this with rfl | rfl
  · exact ⟨_, rfl, (show (0 : Nat) ≤ 1 by decide)⟩
  · exact ⟨strRep 1 ⟨#[c]⟩, rfl, by unfold strRep; simp; exact Nat.le_refl _⟩
theorem ixL {xs : List PyData} {i : Int} (h0 : 0 ≤ i) (h : i < (xs.length : Int)) : ∃ x ∈ xs, dIx (.list xs) (.int i) = some x := atI_int h0 h
theorem names_body (ns : List Int) (hns : ns.length ≤ 63) (a k : Int) (ha : 0 ≤ a) (ha2 : a < 1000) (hk : 0 ≤ k) (hk2 : k < 3) (fd : List PyData) (hf : fd.length < 1000) (s4 : Sl) : ∃ z w : Str,
    (sSeq (sSet 4 (b2 (b2 (vC (.str "abcdefghijklmnopqrstuvwxyz")) (vCall (aCons (vVar 0) (aCons (b2 (vVar 1) (b2 (vC (.int 2)) (vVar 3) dMul) dAdd) (aCons (vC (.int 26)) aNil))) m__law_drawn) dIx) (vCall (aCons (vVar 0) (aCons (b2 (b2 (vVar 1) (b2 (vC (.int 2)) (vVar 3) dMul) dAdd) (vC (.int 1)) dAdd) (aCons (vC (.int 2)) aNil))) m__law_drawn) dMul)) (sApp 2 (b2 (vLst (aCons (b2 (vVar 4) (b2 (vC (.str "xyz")) (vVar 3) dIx) dAdd) (aCons (b2 (b2 (vC (.str "xyz")) (vVar 3) dIx) (vVar 4) dAdd) aNil))) (vCall (aCons (vVar 0) (aCons (b2 (vVar 1) (vC (.int 6)) dAdd) (aCons (vC (.int 2)) aNil))) m__law_drawn) dIx)))
      [.sh (scr ns), .sh (.int a), .ow (.list fd), .sh (.int k), s4] = .nx [.sh (scr ns), .sh (.int a), .ow (.list (fd ++ [.str z])), .sh (.int k), .sh (.str w)] := by
  obtain ⟨r1, e1, a1, b1⟩ := drawn_ok ns hns (a + 2 * k) 26 (by omega) (by omega) (by decide)
  obtain ⟨r2, e2, a2, b2'⟩ := drawn_ok ns hns (a + 2 * k + 1) 2 (by omega) (by omega) (by decide)
  obtain ⟨r3, e3, a3, b3⟩ := drawn_ok ns hns (a + 6) 2 (by omega) (by omega) (by decide)
  obtain ⟨c1, f1⟩ := ixS (x := "abcdefghijklmnopqrstuvwxyz") a1 (by have : ("abcdefghijklmnopqrstuvwxyz" : Str).cps.toList.length = 26 := by decide
                                                                    rw [this]; exact b1)
  obtain ⟨y, f2, l2⟩ := mulS (c := c1) a2 b2'
  obtain ⟨c2, f3⟩ := ixS (x := "xyz") hk (by have : ("xyz" : Str).cps.toList.length = 3 := by decide
                                             rw [this]; exact hk2)
  have g1 : dAdd (.str y) (.str ⟨#[c2]⟩) = _ := addS (x := y) (y := ⟨#[c2]⟩) (by rw [len1]; omega)
  have g2 : dAdd (.str ⟨#[c2]⟩) (.str y) = _ := addS (x := ⟨#[c2]⟩) (y := y) (by rw [len1]; omega)
  obtain ⟨x, hx, f4⟩ := ixL (xs := [.str (y ++ ⟨#[c2]⟩), .str (⟨#[c2]⟩ ++ y)]) a3 b3
  have : ∃ z, x = .str z := by
    rcases List.mem_cons.mp hx with h | h
    · exact ⟨_, h⟩
    · exact ⟨_, List.mem_singleton.mp h⟩
  obtain ⟨z, rfl⟩ := this
  refine ⟨z, y, ?_⟩
  have szB : fd.length < sizeLine := Nat.lt_of_lt_of_le hf szBig
  simp_arith [mul2, addI, e1, e2, e3, f1, f2, f3, g1, g2, f4, sApp, szB]
theorem names_ok (ns : List Int) (hns : ns.length ≤ 63) (a : Int) (ha : 0 ≤ a) (ha2 : a < 1000) : ∃ x y z : Str, m__law_names [scr ns, .int a] = .ok (.list [.str x, .str y, .str z]) := by
  obtain ⟨x, w1, e1⟩ := names_body ns hns a 0 ha ha2 (by decide) (by decide) [] (by simp) .un
  obtain ⟨y, w2, e2⟩ := names_body ns hns a 1 ha ha2 (by decide) (by decide) [.str x] (by simp) (.sh (.str w1))
  obtain ⟨z, w3, e3⟩ := names_body ns hns a 2 ha ha2 (by decide) (by decide) [.str x, .str y] (by simp) (.sh (.str w2))
  refine ⟨x, y, z, ?_⟩
  unfold m__law_names sem__law_names N__law_names
  have r : rng1 [.int 3] = .ok [.int 0, .int 1, .int 2] := rfl
  simp only [fnD_eq, startD, sSeq_eq (sOwn _ _), sOwn, aNil, thenS_ok, seq_nx, List.map_cons, List.map_nil, List.length_cons, List.length_nil, List.replicate, List.cons_append, List.nil_append, List.set_cons_zero, List.set_cons_succ, sSeq_eq (sFor _ _ _), sFor, aCons, vC, ok_bind, r, runFor, st1, Nat.reduceAdd, Nat.reduceSub]
  rw [e1]
  simp only [List.nil_append, List.set_cons_zero, List.set_cons_succ]
  rw [e2]
  simp only [List.cons_append, List.nil_append, List.set_cons_zero, List.set_cons_succ]
  rw [e3]
  rfl
theorem comp_all {bnd : PyData → Res (List Sl)} {δc : Dn} {el : Dn → Res PyData} {P : PyData → Prop} : ∀ (ds : List PyData), (∀ d ∈ ds, ∃ sl y, bnd d = .ok sl ∧ el (sl ++ δc) = .ok y ∧ P y) → ∃ ys : List PyData, compRun bnd δc cTrue el ds = .ok ys ∧ ys.length = ds.length ∧ ∀ y ∈ ys, P y
  | [], _ => ⟨[], rfl, rfl, fun _ h => nomatch h⟩
  | d :: ds, h => by
    obtain ⟨sl, y, e1, e2, p⟩ := h d (.head _)
    obtain ⟨ys, e3, e4, e5⟩ := comp_all ds fun d' h' => h d' (.tail _ h')
    refine ⟨y :: ys, ?_, by simp [e4], fun z hz => ?_⟩
    · unfold compRun
      rw [e1]
      simp only [cTrue, e2, e3]
    · rcases List.mem_cons.mp hz with rfl | hz
      · exact p
      · exact e5 z hz
theorem strs_of {P : Str → Prop} : ∀ (ys : List PyData), (∀ y ∈ ys, ∃ x, y = .str x ∧ P x) → ∃ xs : List Str, strsOf ys = some xs ∧ xs.length = ys.length ∧ ∀ x ∈ xs, P x
  | [], _ => ⟨[], rfl, rfl, fun _ h => nomatch h⟩
  | y :: ys, h => by
    obtain ⟨x, rfl, p⟩ := h y (.head _)
    obtain ⟨xs, e1, e2, e3⟩ := strs_of ys fun d' h' => h d' (.tail _ h')
    exact ⟨x :: xs, by show (strsOf ys).map _ = _; rw [e1]; rfl, by simp [e2], fun z hz => by
      rcases List.mem_cons.mp hz with rfl | hz
      · exact p
      · exact e3 z hz⟩
theorem strOk_append2 {x y : Str} (hx : PyData.strOk x = true) (hy : PyData.strOk y = true) : PyData.strOk (x ++ y) = true := by
  show ((x.cps ++ y.cps).all _) = true
  rw [Array.all_append]
  unfold PyData.strOk at hx hy
  rw [hx, hy]; rfl
theorem join_ones : ∀ (xs : List Str), (∀ x ∈ xs, x.length = 1 ∧ PyData.strOk x = true) → (Str.join "" xs).length ≤ xs.length ∧ PyData.strOk (Str.join "" xs) = true
  | [], _ => ⟨Nat.le_refl _, by decide +kernel⟩
  | [x], h => ⟨by have := (h x (.head _)).1; show x.length ≤ 1; omega, (h x (.head _)).2⟩
  | x :: y :: r, h => by
    obtain ⟨l, o⟩ := join_ones (y :: r) fun z hz => h z (.tail _ hz)
    obtain ⟨l1, o1⟩ := h x (.head _)
    show (x ++ "" ++ Str.join "" (y :: r)).length ≤ _ ∧ PyData.strOk (x ++ "" ++ Str.join "" (y :: r)) = true
    refine ⟨?_, strOk_append (strOk_append o1 (by decide +kernel)) o⟩
    rw [strLen_append, strLen_append]
    have : (("" : Str)).length = 0 := rfl
    simp only [List.length_cons] at l ⊢
    omega
theorem sum_ones : ∀ (xs : List Str), (∀ x ∈ xs, x.length = 1 ∧ PyData.strOk x = true) → (xs.map (·.length)).sum = xs.length
  | [], _ => rfl
  | x :: r, h => by
    simp only [List.map_cons, List.sum_cons, List.length_cons, (h x (.head _)).1, sum_ones r fun z hz => h z (.tail _ hz)]
    omega
theorem rng_ok {n : Int} (h0 : 0 ≤ n) (h : n < 1000) : rng1 [.int n] = .ok (rngD 0 n) := by
  show (if _ then _ else _) = _
  rw [if_pos (by omega)]
theorem src_rng {fs : Dn → Res (List PyData)} {δ : Dn} {n : Int} (h : fs δ = .ok [.int n]) (h0 : 0 ≤ n) (h1 : n < 1000) : (fun δ => (fs δ).bind rng1) δ = .ok (rngD 0 n) := by
  show (fs δ).bind rng1 = _
  rw [h, ok_bind, rng_ok h0 h1]
theorem src_seq {f : Dn → Res PyData} {δ : Dn} {d : PyData} {ds : List PyData} (h : f δ = .ok d) (h2 : seqOf d = .ok ds) : (fun δ => (f δ).bind seqOf) δ = .ok ds := by
  show (f δ).bind seqOf = _
  rw [h, ok_bind, h2]
theorem words_ok (ns : List Int) (hns : ns.length ≤ 63) (a : Int) (ha : 0 ≤ a) (ha2 : a < 100000) : ∃ x : Str, m__law_words [scr ns, .int a] = .ok (.str x) ∧ x.length ≤ 4 := by
  obtain ⟨r1, e1, a1, b1⟩ := drawn_ok ns hns (a + 4) 4 (by omega) (by omega) (by decide)
  unfold m__law_words sem__law_words N__law_words
  have hr : rng1 [.int (1 + r1)] = .ok (rngD 0 (1 + r1)) := rng_ok (by omega) (by omega)
  have hlen : (rngD 0 (1 + r1)).length ≤ 4 := by unfold rngD; simp; omega
  have hall : ∀ d ∈ rngD 0 (1 + r1), ∃ sl y, bind1 d = .ok sl ∧ (b2 (vC (.str "ab cd~ <")) (vCall (aCons (vVar 1) (aCons (b2 (vVar 2) (vVar 0) dAdd) (aCons (vC (.int 8)) aNil))) m__law_drawn) dIx) (sl ++ [.sh (scr ns), .sh (.int a)]) = .ok y ∧ ∃ x : Str, y = .str x ∧ x.length = 1 ∧ PyData.strOk x = true := fun d hd => by
    unfold rngD at hd
    obtain ⟨i, hi, rfl⟩ := List.mem_map.mp hd
    have hi' : i < 4 := by have := List.mem_range.mp hi; omega
    obtain ⟨r2, e2, a2, b2'⟩ := drawn_ok ns hns (a + (0 + (i : Int))) 8 (by omega) (by omega) (by decide)
    obtain ⟨c, hc, f⟩ := ixS' (x := "ab cd~ <") a2 (by have : ("ab cd~ <" : Str).cps.toList.length = 8 := by decide
                                                       rw [this]; exact b2')
    refine ⟨[.sh (.int (0 + (i : Int)))], .str ⟨#[c]⟩, rfl, ?_, ⟨#[c]⟩, rfl, rfl, ?_⟩
    · simp_arith [addI, e2, f]
    · have : ∀ c ∈ ("ab cd~ <" : Str).cps.toList, c < 0x110000 := by decide
      unfold PyData.strOk
      simp [this c hc]
  obtain ⟨ys, g1, g2, g3⟩ := comp_all (rngD 0 (1 + r1)) hall
  obtain ⟨xs, g4, g5, g6⟩ := strs_of ys g3
  obtain ⟨l1, o1⟩ := join_ones xs g6
  have s1 := sum_ones xs g6
  refine ⟨Str.join "" xs, ?_, by omega⟩
  have hj : dJoin "" (.list ys) = some (.str (Str.join "" xs)) := by
    show (strsOf ys).bind _ = _
    rw [g4]
    show (if _ then _ else _) = _
    have : (("" : Str)).length = 0 := rfl
    rw [if_pos ⟨by rw [s1, this]; omega, o1, Nat.le_trans (show _ ≤ 1000 by omega) szBig⟩]
  have hz : (rngD 0 (1 + r1)).length ≤ sizeLine := Nat.le_trans (show _ ≤ 1000 by omega) szBig
  simp_arith [addI, e1, hr, lComp, hz, capD, Option.getD_some, g1, hj]
end Sm
set_option autoImplicit false
set_option linter.all false
set_option maxRecDepth 10000
open PySem
namespace Sm
open L2
local macro_rules
  | `(tactic| simp_arith) => `(tactic| simp_arith [ok_bind])
  | `(tactic| simp_arith [$ls,*]) => `(tactic| simp only [$ls,*, fnD_eq, startD, sSeq_eq, seq_nx, seq_rt, seq_exc, fin_rt, fin_nx, fin_exc, sIf_eq, cVal, b2, b1, vVar_eq, slotV_sh, vLst, vTup, aNil, aCons, vC, ok_bind, exc_bind, ofO_some, thenS_ok, thenS_exc, sRet, sSet, sOwn, sNew, sNext, vFn, vCall, vCall0, noX, cAnd, cOr, cNot, sFor, sExp, sFz, oSome, oNone, vSl, vJoin, cTrue, cFz, truD_bool,
  List.map_cons, List.map_nil, List.length_cons, List.length_nil, List.replicate, List.cons_append, List.nil_append, List.append_nil, List.getElem?_cons_zero, List.getElem?_cons_succ, List.set_cons_zero, List.set_cons_succ, Nat.reduceAdd, Nat.reduceSub, Nat.zero_add, if_true, if_false, Bool.false_eq_true, Bool.true_eq_false, reduceIte])
abbrev idD (t : Int) (h : Str) : PyData := .tuple [.int t, .str h]
def isId (d : PyData) : Prop := ∃ t h, d = idD t h
def isSg (d : PyData) : Prop := ∃ i n, d = .tuple [i, .int n] ∧ isId i
def SgOf (ds : List PyData) (x : PyData) : Prop := ∃ (t : Int) (h : Str) (b : PyData) (w : Str) (n : Nat), PyData.tuple [.str "add", idD t h, b, .str w] ∈ ds ∧ x = .tuple [idD t h, .int n] ∧ n < w.length
theorem SgOf.sg {ds : List PyData} {x : PyData} (h : SgOf ds x) : isSg x := by
  obtain ⟨t, h, b, w, n, _, rfl, _⟩ := h; exact ⟨_, _, rfl, t, h, rfl⟩
theorem SgOf.mono {ds ds' : List PyData} {x : PyData} (h : SgOf ds x) (k : ∀ d ∈ ds, d ∈ ds') : SgOf ds' x := by
  obtain ⟨t, h, b, w, n, e, r⟩ := h; exact ⟨t, h, b, w, n, k _ e, r⟩
def OrN (S : PyData → Prop) (d : PyData) : Prop := d = .none ∨ S d
def Wf (P : Int → Str → Prop) (S : PyData → Prop) (d : PyData) : Prop := ∃ t h, P t h ∧
  ((∃ b w, d = .tuple [.str "add", idD t h, b, .str w] ∧ OrN S b ∧ w.length ≤ 4) ∨
   (∃ sg, d = .tuple [.str "drop", idD t h, .tuple sg] ∧ (∀ x ∈ sg, S x) ∧ sg.length ≤ 40) ∨
   (∃ n s1 x1 s2 x2, d = .tuple [.str "mark", idD t h, .str n, .tuple [s1, .str x1], .tuple [s2, .str x2]] ∧ OrN S s1 ∧ OrN S s2) ∨
   (∃ n, d = .tuple [.str "unmark", idD t h, .str n]) ∨
   (∃ i, d = .tuple [.str "undo", idD t h, i] ∧ isId i))
theorem OrN.mono {S S' : PyData → Prop} {d : PyData} (h : OrN S d) (k : ∀ x, S x → S' x) : OrN S' d := h.elim .inl fun z => .inr (k _ z)
theorem Wf.mono {P Q : Int → Str → Prop} {S S' : PyData → Prop} {d : PyData} (h : Wf P S d) (k : ∀ t h, P t h → Q t h) (k2 : ∀ x, S x → S' x) : Wf Q S' d := by
  obtain ⟨t, x, p, r⟩ := h
  refine ⟨t, x, k t x p, ?_⟩
  rcases r with ⟨b, w, e, hb, hw⟩ | ⟨sg, e, hs, hl⟩ | ⟨n, s1, x1, s2, x2, e, h1, h2⟩ | ⟨n, e⟩ | ⟨i, e, hi⟩
  · exact .inl ⟨b, w, e, hb.mono k2, hw⟩
  · exact .inr (.inl ⟨sg, e, fun x hx => k2 x (hs x hx), hl⟩)
  · exact .inr (.inr (.inl ⟨n, s1, x1, s2, x2, e, h1.mono k2, h2.mono k2⟩))
  · exact .inr (.inr (.inr (.inl ⟨n, e⟩)))
  · exact .inr (.inr (.inr (.inr ⟨i, e, hi⟩)))
theorem dEqS (x y : Str) : dEq (.str x) (.str y) = some (.bool (x == y)) := by
  unfold dEq
  rw [if_pos (Nat.le_trans (Nat.min_le_left _ _) (by simp [PyData.depth]))]
  rfl
theorem addEq : (("add" : Str) == ("add" : Str)) = true := by decide +kernel
theorem signs_step (P : Int → Str → Prop) (S : PyData → Prop) (d : PyData) (hd : Wf P S d) (B : PyData) (fd : List PyData) (hf : fd.length ≤ 100) : ∃ more : List PyData, more.length ≤ 4 ∧ (∀ x ∈ more, SgOf [d] x) ∧
    (sIf (cVal (b2 (b2 (vVar 2) (vC (.int 0)) dIx) (vC (.str "add")) dEq)) (sSet 1 (b2 (vVar 1) (vLst (lComp (fun δ => ((aCons (vFn (aCons (b2 (vVar 2) (vC (.int 3)) dIx) aNil) dLen) aNil) δ).bind rng1) bind1 [2] cTrue (vTup (aCons (b2 (vVar 1) (vC (.int 1)) dIx) (aCons (vVar 0) aNil))))) dAdd)) sNext) [.sh B, .sh (.list fd), .sh d]
      = .nx [.sh B, .sh (.list (fd ++ more)), .sh d] := by
  obtain ⟨t, h, p, r⟩ := hd
  have ix0 : ∀ (x : PyData) (xs : List PyData), dIx (.tuple (x :: xs)) (.int 0) = some x := fun x xs => atI_nat (xs := x :: xs) (j := 0) (by simp)
  have ix1 : ∀ (x y : PyData) (xs : List PyData), dIx (.tuple (x :: y :: xs)) (.int 1) = some y := fun x y xs => atI_nat (xs := x :: y :: xs) (j := 1) (by simp)
  have ix3 : ∀ (x y z u : PyData), dIx (.tuple [x, y, z, u]) (.int 3) = some u := fun x y z u => atI_nat (xs := [x, y, z, u]) (j := 3) (by simp)
  rcases r with ⟨b, w, rfl, hb, hw⟩ | ⟨sg, rfl, _⟩ | ⟨n, s1, x1, s2, x2, rfl, _⟩ | ⟨n, rfl⟩ | ⟨i, rfl, _⟩
  · have hall : ∀ d' ∈ rngD 0 (w.length : Int), ∃ sl y, bind1 d' = .ok sl ∧ (vTup (aCons (b2 (vVar 1) (vC (.int 1)) dIx) (aCons (vVar 0) aNil))) (sl ++ [.sh (.tuple [.str "add", idD t h, b, .str w])]) = .ok y ∧ SgOf [.tuple [.str "add", idD t h, b, .str w]] y := fun d' hd => by
      unfold rngD at hd
      obtain ⟨i, hi, rfl⟩ := List.mem_map.mp hd
      refine ⟨_, .tuple [idD t h, .int (0 + (i : Int))], rfl, ?_, t, h, b, w, i, .head _, by rw [Int.zero_add], by have := List.mem_range.mp hi; omega⟩
      simp_arith [ix1]
    obtain ⟨ys, g1, g2, g3⟩ := comp_all (rngD 0 (w.length : Int)) hall
    have hl : (rngD 0 (w.length : Int)).length = w.length := by unfold rngD; simp
    refine ⟨ys, by omega, g3, ?_⟩
    have ha : dAdd (.list fd) (.list ys) = _ := addL (x := fd) (y := ys) (by omega)
    have e1 : dLen [.str w] = some (.int (w.length : Int)) := rfl
    rw [sIf_t (by simp_arith [ix0, dEqS, addEq])]
    exact sSet_ok (b2_ok rfl (vLst_ok (lComp_ok (ds := rngD 0 (w.length : Int)) (src_rng (by simp_arith [ix3, e1]) (by omega) (by omega)) (by omega) rfl g1)) ha)
  · refine ⟨[], by simp, (fun _ h => nomatch h), ?_⟩
    simp_arith [ix0, dEqS, show (("drop" : Str) == ("add" : Str)) = false from by decide +kernel]
  · refine ⟨[], by simp, (fun _ h => nomatch h), ?_⟩
    simp_arith [ix0, dEqS, show (("mark" : Str) == ("add" : Str)) = false from by decide +kernel]
  · refine ⟨[], by simp, (fun _ h => nomatch h), ?_⟩
    simp_arith [ix0, dEqS, show (("unmark" : Str) == ("add" : Str)) = false from by decide +kernel]
  · refine ⟨[], by simp, (fun _ h => nomatch h), ?_⟩
    simp_arith [ix0, dEqS, show (("undo" : Str) == ("add" : Str)) = false from by decide +kernel]
theorem signs_loop (P : Int → Str → Prop) (S : PyData → Prop) (D : List PyData) (B : PyData) : ∀ (ds : List PyData), (∀ d ∈ ds, Wf P S d ∧ d ∈ D) → ∀ (fd : List PyData) (s2 : Sl), fd.length + 4 * ds.length ≤ 100 → (∀ x ∈ fd, SgOf D x) → ∃ (out : List PyData) (s2' : Sl), out.length ≤ fd.length + 4 * ds.length ∧ (∀ x ∈ out, SgOf D x) ∧
    runFor (st1 2) (sIf (cVal (b2 (b2 (vVar 2) (vC (.int 0)) dIx) (vC (.str "add")) dEq)) (sSet 1 (b2 (vVar 1) (vLst (lComp (fun δ => ((aCons (vFn (aCons (b2 (vVar 2) (vC (.int 3)) dIx) aNil) dLen) aNil) δ).bind rng1) bind1 [2] cTrue (vTup (aCons (b2 (vVar 1) (vC (.int 1)) dIx) (aCons (vVar 0) aNil))))) dAdd)) sNext) ds [.sh B, .sh (.list fd), s2] = .nx [.sh B, .sh (.list out), s2']
  | [], _, fd, s2, _, hs => ⟨fd, s2, by omega, hs, rfl⟩
  | d :: ds, hd, fd, s2, hl, hs => by
    obtain ⟨more, l1, s1, e1⟩ := signs_step P S d (hd d (.head _)).1 B fd (by simp at hl; omega)
    obtain ⟨out, s2', l2, s3, e2⟩ := signs_loop P S D B ds (fun d' h' => hd d' (.tail _ h')) (fd ++ more) (.sh d) (by simp at hl ⊢; omega) (fun x hx => (List.mem_append.mp hx).elim (hs x) fun z => (s1 x z).mono fun q hq => by rw [List.mem_singleton.mp hq]; exact (hd d (.head _)).2)
    refine ⟨out, s2', by simp at l2 ⊢; omega, s3, ?_⟩
    unfold runFor
    simp only [st1, List.set_cons_zero, List.set_cons_succ]
    rw [e1]
    exact e2
theorem signs_ok (P : Int → Str → Prop) (S : PyData → Prop) (ds : List PyData) (hd : ∀ d ∈ ds, Wf P S d) (hl : ds.length ≤ 9) : ∃ out : List PyData, m__law_signs [.tuple ds] = .ok (.list out) ∧ out.length ≤ 36 ∧ ∀ x ∈ out, SgOf ds x := by
  obtain ⟨out, s2', l2, s3, e2⟩ := signs_loop P S ds (.tuple ds) ds (fun d h => ⟨hd d h, h⟩) [] .un (by simp; omega) (fun _ h => nomatch h)
  refine ⟨out, ?_, by simp at l2; omega, s3⟩
  unfold m__law_signs sem__law_signs N__law_signs
  simp only [fnD_eq, startD, sSeq_eq (sSet _ _), sSet, vLst, aNil, thenS_ok, ok_bind, seq_nx, List.map_cons, List.map_nil, List.length_cons, List.length_nil, List.replicate, List.cons_append, List.nil_append, List.set_cons_zero, List.set_cons_succ, sSeq_eq (sFor _ _ _), sFor, vVar_eq, slotV_sh, seqOf, List.getElem?_cons_zero, Nat.reduceAdd, Nat.reduceSub]
  rw [e2]
  simp_arith
end Sm
set_option autoImplicit false
set_option linter.all false
set_option maxRecDepth 10000
open PySem
namespace Sm
open L2
local macro_rules
  | `(tactic| simp_arith) => `(tactic| simp_arith [ok_bind])
  | `(tactic| simp_arith [$ls,*]) => `(tactic| simp only [$ls,*, fnD_eq, startD, sSeq_eq, seq_nx, seq_rt, seq_exc, fin_rt, fin_nx, fin_exc, sIf_eq, cVal, b2, b1, vVar_eq, slotV_sh, vLst, vTup, aNil, aCons, vC, ok_bind, exc_bind, ofO_some, thenS_ok, thenS_exc, sRet, sSet, sOwn, sNew, sNext, vFn, vCall, vCall0, noX, cAnd, cOr, cNot, sFor, sExp, sFz, oSome, oNone, vSl, vJoin, cTrue, cFz, truD_bool,
  List.map_cons, List.map_nil, List.length_cons, List.length_nil, List.replicate, List.cons_append, List.nil_append, List.append_nil, List.getElem?_cons_zero, List.getElem?_cons_succ, List.set_cons_zero, List.set_cons_succ, Nat.reduceAdd, Nat.reduceSub, Nat.zero_add, if_true, if_false, Bool.false_eq_true, Bool.true_eq_false, reduceIte])
theorem comp_some {bnd : PyData → Res (List Sl)} {δc : Dn} {tt : Dn → Res Bool} {el : Dn → Res PyData} {P : PyData → Prop} : ∀ (ds : List PyData), (∀ d ∈ ds, ∃ sl b, bnd d = .ok sl ∧ tt (sl ++ δc) = .ok b ∧ ∃ y, el (sl ++ δc) = .ok y ∧ P y) → ∃ ys : List PyData, compRun bnd δc tt el ds = .ok ys ∧ ys.length ≤ ds.length ∧ ∀ y ∈ ys, P y
  | [], _ => ⟨[], rfl, Nat.le_refl _, fun _ h => nomatch h⟩
  | d :: ds, h => by
    obtain ⟨sl, b, e1, e2, y, e0, p⟩ := h d (.head _)
    obtain ⟨ys, e3, e4, e5⟩ := comp_some ds fun d' h' => h d' (.tail _ h')
    cases b with
    | true =>
      refine ⟨y :: ys, ?_, by simp [e4], fun z hz => ?_⟩
      · unfold compRun
        simp only [e1, e2, e0, e3]
      · rcases List.mem_cons.mp hz with rfl | hz
        · exact p
        · exact e5 z hz
    | false =>
      refine ⟨ys, ?_, by simp; omega, e5⟩
      unfold compRun
      simp only [e1, e2, e3]
theorem sSeq_if_f {c : Dn → Res Bool} {g1 g2 : Dn → Out} {δ : Dn} (h : c δ = .ok false) : sSeq (sIf c g1 sNext) g2 δ = g2 δ := sSeq_nx (sIf_f h)
theorem mulL {xs : List PyData} {n : Int} (h : -(2 ^ 63) ≤ n ∧ n < 2 ^ 63 ∧ xs.length * n.toNat ≤ sizeLine) : dMul (.list xs) (.int n) = some (.list (List.replicate n.toNat xs).flatten) := by
  show (if _ then _ else _) = _
  rw [if_pos h]
theorem dNeL (xs : List PyData) : dNe (.list xs) (.list []) = some (.bool (!xs.isEmpty)) := by
  unfold dNe
  rw [if_pos (Nat.le_trans (Nat.min_le_right _ _) (by decide))]
  cases xs <;> rfl
theorem dEqL (xs : List PyData) : dEq (.list xs) (.list []) = some (.bool xs.isEmpty) := by
  unfold dEq
  rw [if_pos (Nat.le_trans (Nat.min_le_right _ _) (by decide))]
  cases xs <;> rfl
theorem dNeT (xs : List PyData) : dNe (.tuple xs) (.tuple []) = some (.bool (!xs.isEmpty)) := by
  unfold dNe
  rw [if_pos (Nat.le_trans (Nat.min_le_right _ _) (by decide))]
  cases xs <;> rfl
theorem ltI (a b : Int) : dCmp .Lt (.int a) (.int b) = some (.bool (decide (a < b))) := by
  unfold dCmp
  rw [if_pos (by simp [PyData.depth])]
  rfl
theorem dEqI (a b : Int) : dEq (.int a) (.int b) = some (.bool (a == b)) := by
  unfold dEq
  rw [if_pos (Nat.le_trans (Nat.min_le_left _ _) (by simp [PyData.depth]))]
  rfl
theorem depthId (t : Int) (h : Str) : (idD t h).depth ≤ 2 := by simp [idD, PyData.depth, PyData.depthAll]
theorem leId (t t' : Int) (h h' : Str) : ∃ b, dCmp .LtE (idD t h) (idD t' h') = some (.bool b) := by
  unfold dCmp
  rw [if_pos (Nat.le_trans (depthId t h) (by decide))]
  show ∃ b, (cmpL .LtE [.int t, .str h] [.int t', .str h']).map PyData.bool = some (.bool b)
  simp only [cmpL]
  split
  · split
    · exact ⟨_, rfl⟩
    · exact ⟨_, rfl⟩
  · exact ⟨_, rfl⟩
theorem lenL (xs : List PyData) : dLen [.list xs] = some (.int (xs.length : Int)) := rfl
theorem lenT (xs : List PyData) : dLen [.tuple xs] = some (.int (xs.length : Int)) := rfl
theorem anchor_ok (ns : List Int) (hns : ns.length ≤ 63) (a : Int) (ha : 0 ≤ a) (ha2 : a < 100000) (S : PyData → Prop) (sg : List PyData) (hs : ∀ x ∈ sg, S x) (hl : sg.length ≤ 36) : ∃ s x, m__law_anchor [scr ns, .int a, .list sg] = .ok (.tuple [s, .str x]) ∧ OrN S s := by
  obtain ⟨r1, e1, a1, b1⟩ := drawn_ok ns hns a ((sg.length : Int) + 1) ha (by omega) (by omega)
  obtain ⟨r2, e2, a2, b2'⟩ := drawn_ok ns hns (a + 1) 2 (by omega) (by omega) (by decide)
  obtain ⟨c, f2⟩ := ixS (x := "lr") a2 (by have : ("lr" : Str).cps.toList.length = 2 := by decide
                                           rw [this]; exact b2')
  have g := addL (x := [.none]) (y := sg) (by simp; omega)
  obtain ⟨s, hs', f1⟩ := ixL (xs := [.none] ++ sg) a1 (by simp; omega)
  refine ⟨s, ⟨#[c]⟩, ?_, ?_⟩
  · unfold m__law_anchor sem__law_anchor N__law_anchor
    generalize [PyData.none] ++ sg = L at *
    simp_arith [g, lenL, addI, e1, f1, e2, f2]
  · rcases List.mem_append.mp hs' with h | h
    · exact .inl (List.mem_singleton.mp h)
    · exact .inr (hs s h)
theorem enum_mem {xs : List PyData} {d : PyData} (h : d ∈ enumD xs) : ∃ (i : Nat) (x : PyData), i < xs.length ∧ x ∈ xs ∧ d = .tuple [.int i, x] := by
  unfold enumD at h
  rw [List.mem_mapIdx] at h
  obtain ⟨i, hi, rfl⟩ := h
  exact ⟨i, xs[i], hi, List.getElem_mem _, rfl⟩
theorem tail_mem {xs : List PyData} {x : PyData} (h : x ∈ cutD xs (some (-3)) none) : x ∈ xs := by
  unfold cutD at h
  exact List.mem_of_mem_drop (List.mem_of_mem_take h)
theorem cut_len (xs : List PyData) (lo hi : Option Int) : (cutD xs lo hi).length ≤ xs.length := by
  unfold cutD
  rw [List.length_take, List.length_drop]; omega
theorem deed_ok (ns : List Int) (hns : ns.length ≤ 63) (P Q : Int → Str → Prop) (a : Int) (ha : 0 ≤ a) (ha2 : a < 10000) (t : Int) (h : Str) (hp : Q t h) (S : PyData → Prop) (kn : List PyData) (hk : ∀ d ∈ kn, Wf P S d) (hkl : kn.length ≤ 9) (x y z : Str) :
    ∃ d, m__law_deed [scr ns, .int a, idD t h, .tuple kn, .list [.str x, .str y, .str z]] = .ok d ∧ Wf Q (SgOf kn) d := by
  obtain ⟨sg, es, hsl, hsg⟩ := signs_ok P S kn hk hkl
  obtain ⟨way, ew, w0, w1⟩ := drawn_ok ns hns a 12 ha (by omega) (by decide)
  obtain ⟨r5, e5, a5, b5⟩ := drawn_ok ns hns (a + 5) 3 (by omega) (by omega) (by decide)
  obtain ⟨nm, hnm, f5⟩ := ixL (xs := [.str x, .str y, .str z]) a5 b5
  have : ∃ q, nm = .str q := by
    simp only [List.mem_cons, List.not_mem_nil, or_false] at hnm
    rcases hnm with rfl | rfl | rfl <;> exact ⟨_, rfl⟩
  obtain ⟨q, rfl⟩ := this
  unfold m__law_deed sem__law_deed N__law_deed
  rw [fnD_eq]
  simp only [startD, List.map_cons, List.map_nil, List.length_cons, List.length_nil, List.replicate, List.cons_append, List.nil_append, Nat.reduceAdd, Nat.reduceSub]
  rw [sSeq_nx (sSet_ok (vCall_ok (aCons_ok rfl rfl) es)), sSeq_nx (sSet_ok (vCall_ok (aCons_ok rfl (aCons_ok rfl (aCons_ok rfl rfl))) ew))]
  simp only [List.set_cons_zero, List.set_cons_succ]
  by_cases c1 : way < 2 ∧ sg ≠ []
  · have t1 : (cAnd (cVal (b2 (vVar 6) (vC (.int 2)) (dCmp .Lt))) (cVal (b2 (vVar 5) (vLst aNil) dNe))) [.sh (scr ns), .sh (.int a), .sh (idD t h), .sh (.tuple kn), .sh (.list [.str x, .str y, .str z]), .sh (.list sg), .sh (.int way), .un, .un, .un] = .ok true := by
      have : sg.isEmpty = false := by cases sg with | nil => exact absurd rfl c1.2 | cons _ _ => rfl
      simp_arith [ltI, dNeL, decide_eq_true c1.1, this, Bool.not_false]
    have hall : ∀ d ∈ enumD sg, ∃ sl b, bind2 d = .ok sl ∧ (cVal (b2 (vCall (aCons (vVar 2) (aCons (b2 (b2 (vVar 3) (vC (.int 20)) dAdd) (vVar 0) dAdd) (aCons (vC (.int 4)) aNil))) m__law_drawn) (vC (.int 0)) dEq)) (sl ++ [.sh (scr ns), .sh (.int a)]) = .ok b ∧ ∃ y, vVar 1 (sl ++ [.sh (scr ns), .sh (.int a)]) = .ok y ∧ SgOf kn y := fun d hd => by
      obtain ⟨i, s, hi, hs, rfl⟩ := enum_mem hd
      obtain ⟨r, er, _, _⟩ := drawn_ok ns hns (a + 20 + (i : Int)) 4 (by omega) (by omega) (by decide)
      refine ⟨_, r == 0, rfl, ?_, s, rfl, hsg s hs⟩
      simp_arith [addI, er, dEqI]
    obtain ⟨ys, g1, g2, g3⟩ := comp_some (enumD sg) hall
    have hel : (enumD sg).length = sg.length := by unfold enumD; simp
    have n1 : lComp (fun δ => ((aCons (vVar 5) aNil) δ).bind enumX) bind2 [0, 1] (cVal (b2 (vCall (aCons (vVar 2) (aCons (b2 (b2 (vVar 3) (vC (.int 20)) dAdd) (vVar 0) dAdd) (aCons (vC (.int 4)) aNil))) m__law_drawn) (vC (.int 0)) dEq)) (vVar 1) [.sh (scr ns), .sh (.int a), .sh (idD t h), .sh (.tuple kn), .sh (.list [.str x, .str y, .str z]), .sh (.list sg), .sh (.int way), .un, .un, .un] = .ok ys :=
      lComp_ok (ds := enumD sg) (by show ((aCons (vVar 5) aNil) _).bind enumX = _; rw [aCons_ok (d := .list sg) (ds := []) rfl rfl]; rfl) (by omega) rfl g1
    have hex : ∃ ex : List PyData, ex.length ≤ 1 ∧ (∀ s ∈ ex, SgOf kn s) ∧ dMul (.list (sg.take 1)) (.int (if ys.isEmpty = true then 1 else 0)) = some (.list ex) := by
      have lt : (sg.take 1).length ≤ 1 := by simp; omega
      cases ys.isEmpty with
      | true =>
        refine ⟨(List.replicate 1 (sg.take 1)).flatten, by simpa using lt, fun s hs => hsg s (List.mem_of_mem_take (by simpa using hs)), ?_⟩
        rw [if_pos (show true = true from rfl)]
        exact mulL ⟨by decide, by decide, Nat.le_trans (show _ ≤ 1 by simpa using lt) (by decide)⟩
      | false =>
        refine ⟨[], by simp, (fun _ h => nomatch h), ?_⟩
        rw [if_neg (show ¬ (false = true) by decide)]
        exact mulL ⟨by decide, by decide, by simp⟩
    obtain ⟨ex, exl, exs, hmul⟩ := hex
    have hadd := addL (x := ys) (y := ex) (by omega)
    have cut1 : dCut (.list sg) none (some 1) = some (.list (sg.take 1)) := by
      show some (PyData.list (cutD sg none (some 1))) = _
      congr 2
      cases sg with
      | nil => rfl
      | cons s r =>
        unfold cutD HT.sIx
        simp
    have hint : dIntF [.bool ys.isEmpty] = some (.int (if ys.isEmpty = true then 1 else 0)) := rfl
    have htup : ∀ l, dTupF [.list l] = some (.tuple l) := fun _ => rfl
    have hnew : sNew 8 (lComp (fun δ => ((aCons (vVar 5) aNil) δ).bind enumX) bind2 [0, 1] (cVal (b2 (vCall (aCons (vVar 2) (aCons (b2 (b2 (vVar 3) (vC (.int 20)) dAdd) (vVar 0) dAdd) (aCons (vC (.int 4)) aNil))) m__law_drawn) (vC (.int 0)) dEq)) (vVar 1)) [.sh (scr ns), .sh (.int a), .sh (idD t h), .sh (.tuple kn), .sh (.list [.str x, .str y, .str z]), .sh (.list sg), .sh (.int way), .un, .un, .un] = .nx [.sh (scr ns), .sh (.int a), .sh (idD t h), .sh (.tuple kn), .sh (.list [.str x, .str y, .str z]), .sh (.list sg), .sh (.int way), .un, .sh (.list ys), .un] := by
      unfold sNew; rw [n1]; rfl
    have t2 : (sRet (vTup (aCons (vC (.str "drop")) (aCons (vVar 2) (aCons (vFn (aCons (b2 (vVar 8) (b2 (vSl (vVar 5) oNone (oSome (vC (.int 1)))) (vFn (aCons (b2 (vVar 8) (vLst aNil) dEq) aNil) dIntF) dMul) dAdd) aNil) dTupF) aNil))))) [.sh (scr ns), .sh (.int a), .sh (idD t h), .sh (.tuple kn), .sh (.list [.str x, .str y, .str z]), .sh (.list sg), .sh (.int way), .un, .sh (.list ys), .un] = .rt (.tuple [.str "drop", idD t h, .tuple (ys ++ ex)]) := by
      simp_arith [dEqL, hint, cut1, hmul, hadd, htup]
    rw [sSeq_rt ((sIf_t t1).trans ((sSeq_nx hnew).trans t2))]
    refine ⟨_, rfl, t, h, hp, .inr (.inl ⟨_, rfl, fun s hs => (List.mem_append.mp hs).elim (g3 s) (exs s), ?_⟩)⟩
    rw [List.length_append]
    omega
  · have t1 : (cAnd (cVal (b2 (vVar 6) (vC (.int 2)) (dCmp .Lt))) (cVal (b2 (vVar 5) (vLst aNil) dNe))) [.sh (scr ns), .sh (.int a), .sh (idD t h), .sh (.tuple kn), .sh (.list [.str x, .str y, .str z]), .sh (.list sg), .sh (.int way), .un, .un, .un] = .ok false := by
      by_cases h2 : way < 2
      · have : sg = [] := Classical.byContradiction fun z => c1 ⟨h2, z⟩
        subst this
        simp_arith [ltI, dNeL, decide_eq_true h2, List.isEmpty_nil, Bool.not_true]
      · simp_arith [ltI, decide_eq_false h2]
    rw [sSeq_if_f t1]
    by_cases c2 : way < 5
    · obtain ⟨s1, x1, f1, g1⟩ := anchor_ok ns hns (a + 1) (by omega) (by omega) (SgOf kn) sg hsg hsl
      obtain ⟨s2, x2, f2, g2⟩ := anchor_ok ns hns (a + 3) (by omega) (by omega) (SgOf kn) sg hsg hsl
      have hadd := addT (x := [.str "mark", idD t h, .str q]) (y := [.tuple [s1, .str x1], .tuple [s2, .str x2]]) (by simp)
      refine ⟨.tuple [.str "mark", idD t h, .str q, .tuple [s1, .str x1], .tuple [s2, .str x2]], ?_, t, h, hp, .inr (.inr (.inl ⟨q, s1, x1, s2, x2, rfl, g1, g2⟩))⟩
      simp_arith [ltI, decide_eq_true c2, addI, f1, f2, e5, f5, hadd]
    · by_cases c3 : way = 5
      · refine ⟨.tuple [.str "unmark", idD t h, .str q], ?_, t, h, hp, .inr (.inr (.inr (.inl ⟨q, rfl⟩)))⟩
        simp_arith [ltI, decide_eq_false c2, addI, e5, f5, dEqI, c3, beq_self_eq_true, show decide ((5 : Int) < 5) = false from rfl]
      · have c3' : (way == 5) = false := by simpa using c3
        by_cases c4 : way < 8 ∧ kn ≠ []
        · have hne : kn.isEmpty = false := by cases kn with | nil => exact absurd rfl c4.2 | cons _ _ => rfl
          have hpos : (0 : Int) < kn.length := by cases kn with | nil => exact absurd rfl c4.2 | cons _ _ => simp
          obtain ⟨r6, e6, a6, b6⟩ := drawn_ok ns hns (a + 6) (kn.length : Int) (by omega) (by omega) hpos
          obtain ⟨d, hd, f6⟩ := atI_int (xs := kn) a6 b6
          obtain ⟨t', h', _, hf⟩ := hk d hd
          have f7 : dIx d (.int 1) = some (idD t' h') := by
            rcases hf with ⟨_, _, rfl, _⟩ | ⟨_, rfl, _⟩ | ⟨_, _, _, _, _, rfl, _⟩ | ⟨_, rfl⟩ | ⟨_, rfl, _⟩ <;> exact atI_nat (j := 1) (by simp)
          have f6' : dIx (.tuple kn) (.int r6) = some d := f6
          refine ⟨.tuple [.str "undo", idD t h, idD t' h'], ?_, t, h, hp, .inr (.inr (.inr (.inr ⟨_, rfl, t', h', rfl⟩)))⟩
          simp_arith [ltI, decide_eq_false c2, dEqI, c3', decide_eq_true c4.1, dNeT, hne, Bool.not_false, addI, lenT, e6, f6', f7]
        · have t4 : (cAnd (cVal (b2 (vVar 6) (vC (.int 8)) (dCmp .Lt))) (cVal (b2 (vVar 3) (vTup aNil) dNe))) [.sh (scr ns), .sh (.int a), .sh (idD t h), .sh (.tuple kn), .sh (.list [.str x, .str y, .str z]), .sh (.list sg), .sh (.int way), .un, .un, .un] = .ok false := by
            by_cases h2 : way < 8
            · have : kn = [] := Classical.byContradiction fun z => c4 ⟨h2, z⟩
              subst this
              simp_arith [ltI, dNeT, decide_eq_true h2, List.isEmpty_nil, Bool.not_true]
            · simp_arith [ltI, decide_eq_false h2]
          obtain ⟨w, ew2, wl⟩ := words_ok ns hns (a + 8) (by omega) (by omega)
          have g1 := addL (x := [.none]) (y := sg) (by simp; omega)
          have hc : dCut (.list sg) (some (-3)) none = some (.list (cutD sg (some (-3)) none)) := rfl
          have hcl := cut_len sg (some (-3)) none
          have hcm : ∀ s ∈ cutD sg (some (-3)) none, SgOf kn s := fun s hs => hsg s (tail_mem hs)
          generalize cutD sg (some (-3)) none = ct at *
          have g2 := addL (x := [.none] ++ sg) (y := ct) (by simp; omega)
          obtain ⟨r7, e7, a7, b7⟩ := drawn_ok ns hns (a + 7) ((sg.length : Int) + 1 + (ct.length : Int)) (by omega) (by omega) (by omega)
          obtain ⟨bh, hbh, f7⟩ := ixL (xs := [.none] ++ sg ++ ct) a7 (by simp; omega)
          have hneg : dNeg (.int 3) = some (.int (-3)) := rfl
          have hb : OrN (SgOf kn) bh := by
            rcases List.mem_append.mp hbh with h | h
            · rcases List.mem_append.mp h with h | h
              · exact .inl (List.mem_singleton.mp h)
              · exact .inr (hsg bh h)
            · exact .inr (hcm bh h)
          generalize [PyData.none] ++ sg = L1 at *
          generalize L1 ++ ct = L2' at *
          refine ⟨.tuple [.str "add", idD t h, bh, .str w], ?_, t, h, hp, .inl ⟨bh, w, rfl, hb, wl⟩⟩
          rw [sSeq_if_f (by simp_arith [ltI, decide_eq_false c2]), sSeq_if_f (by simp_arith [dEqI, c3']), sSeq_if_f t4]
          simp_arith [g1, hneg, hc, g2, lenL, addI, e7, f7, ew2]
end Sm
set_option autoImplicit false
set_option linter.all false
set_option maxRecDepth 10000
open PySem
namespace Sm
open L2
local macro_rules
  | `(tactic| simp_arith) => `(tactic| simp_arith [ok_bind])
  | `(tactic| simp_arith [$ls,*]) => `(tactic| simp only [$ls,*, fnD_eq, startD, sSeq_eq, seq_nx, seq_rt, seq_exc, fin_rt, fin_nx, fin_exc, sIf_eq, cVal, b2, b1, vVar_eq, slotV_sh, vLst, vTup, aNil, aCons, vC, ok_bind, exc_bind, ofO_some, thenS_ok, thenS_exc, sRet, sSet, sOwn, sNew, sNext, vFn, vCall, vCall0, noX, cAnd, cOr, cNot, sFor, sExp, sFz, oSome, oNone, vSl, vJoin, cTrue, cFz, truD_bool,
  List.map_cons, List.map_nil, List.length_cons, List.length_nil, List.replicate, List.cons_append, List.nil_append, List.append_nil, List.getElem?_cons_zero, List.getElem?_cons_succ, List.set_cons_zero, List.set_cons_succ, Nat.reduceAdd, Nat.reduceSub, Nat.zero_add, if_true, if_false, Bool.false_eq_true, Bool.true_eq_false, reduceIte])
def bodyB : Dn → Out := (sSeq (sSet 7 (b2 (b2 (vVar 5) (vC (.int 0)) dIx) (vCall (aCons (vVar 0) (aCons (b2 (b2 (vVar 1) (vC (.int 1)) dAdd) (b2 (vC (.int 60)) (vVar 6) dMul) dAdd) (aCons (vC (.int 2)) aNil))) m__law_drawn) dAdd)) (sSeq (sSet 8 (b2 (vC (.str "abc")) (vCall (aCons (vVar 0) (aCons (b2 (b2 (vVar 1) (vC (.int 2)) dAdd) (b2 (vC (.int 60)) (vVar 6) dMul) dAdd) (aCons (vC (.int 3)) aNil))) m__law_drawn) dIx)) (sSeq (sIf (cAnd (cVal (b2 (vVar 4) (vTup aNil) dNe)) (cVal (b2 (vTup (aCons (vVar 7) (aCons (vVar 8) aNil))) (vVar 5) (dCmp .LtE)))) (sSet 7 (b2 (b2 (vVar 5) (vC (.int 0)) dIx) (vC (.int 1)) dAdd)) sNext) (sSeq (sSet 5 (vTup (aCons (vVar 7) (aCons (vVar 8) aNil)))) (sSeq (sSet 9 (vFn (aCons (vLst (lComp (fun δ => ((vVar 4) δ).bind seqOf) bind1 [7] (cVal (b2 (b2 (b2 (vVar 0) (vC (.int 1)) dIx) (vC (.int 0)) dIx) (vVar 1) (dCmp .Lt))) (vVar 0))) aNil) dTupF)) (sSet 4 (b2 (vVar 4) (vTup (aCons (vCall (aCons (vVar 0) (aCons (b2 (b2 (vVar 1) (vC (.int 3)) dAdd) (b2 (vC (.int 60)) (vVar 6) dMul) dAdd) (aCons (vVar 5) (aCons (vVar 9) (aCons (vVar 3) aNil))))) m__law_deed) aNil)) dAdd)))))))
def okI (t : Int) (h : Str) : Prop := 1 ≤ t ∧ t ≤ 10 ∧ (h = "a" ∨ h = "b" ∨ h = "c")
def hj (h : Str) : Nat := if h = "a" then 0 else if h = "b" then 1 else 2
abbrev IdP := Int × Str
abbrev idP (p : IdP) : PyData := idD p.1 p.2
def key (p : IdP) : Int := 3 * p.1 + hj p.2
def okH (h : Str) : Prop := h = "a" ∨ h = "b" ∨ h = "c"
def QI (p : IdP) (t : Int) (h : Str) : Prop := okI t h ∧ t = p.1 ∧ h = p.2
theorem hj_lt (h : Str) : hj h ≤ 2 := by unfold hj; split <;> (try split) <;> omega
theorem leS (h h' : Str) (k : okH h) (k' : okH h') : (h == h') = decide (hj h = hj h') ∧ sCmp .LtE h h' = decide (hj h ≤ hj h') := by
  rcases k with rfl | rfl | rfl <;> rcases k' with rfl | rfl | rfl <;> exact ⟨by decide +kernel, by decide +kernel⟩
theorem leIdE {t t' : Int} {h h' : Str} (k : okH h) (k' : okH h') : dCmp .LtE (idD t h) (idD t' h') = some (.bool (decide (key (t, h) ≤ key (t', h')))) := by
  obtain ⟨e1, e2⟩ := leS h h' k k'
  have l1 := hj_lt h
  have l2 := hj_lt h'
  unfold dCmp key
  rw [if_pos (Nat.le_trans (depthId t h) (by decide))]
  show (cmpL .LtE [.int t, .str h] [.int t', .str h']).map PyData.bool = _
  simp only [cmpL]
  have f1 : PyData.eqv (.int t) (.int t') = (t == t') := rfl
  have f2 : PyData.eqv (.str h) (.str h') = (h == h') := rfl
  rw [f1, f2, e1]
  by_cases c1 : t = t'
  · subst c1
    rw [if_pos (by simp)]
    by_cases c2 : hj h = hj h'
    · rw [if_pos (by simp [c2])]
      simp [zCmp, c2]
    · rw [if_neg (by simp [c2])]
      show (some (sCmp .LtE h h')).map PyData.bool = _
      rw [e2]
      simp only [Option.map_some]
      congr 3
      apply propext; omega
  · rw [if_neg (by simp [c1])]
    show (some (decide (t ≤ t'))).map PyData.bool = _
    simp only [Option.map_some]
    congr 3
    apply propext; omega
theorem Wf.id {P : Int → Str → Prop} {S : PyData → Prop} {d : PyData} (w : Wf P S d) : ∃ t h, P t h ∧ dIx d (.int 1) = some (idD t h) := by
  obtain ⟨t', h', p, hf⟩ := w
  refine ⟨t', h', p, ?_⟩
  rcases hf with ⟨_, _, rfl, _⟩ | ⟨_, rfl, _⟩ | ⟨_, _, _, _, _, rfl, _⟩ | ⟨_, rfl⟩ | ⟨_, rfl, _⟩ <;> exact atI_nat (j := 1) (by simp)
theorem ix0 (x : PyData) (xs : List PyData) : dIx (.tuple (x :: xs)) (.int 0) = some x := atI_nat (xs := x :: xs) (j := 0) (by simp)
theorem abc {c : Nat} (h : c ∈ ("abc" : Str).cps.toList) : (⟨#[c]⟩ : Str) = "a" ∨ (⟨#[c]⟩ : Str) = "b" ∨ (⟨#[c]⟩ : Str) = "c" := by
  have h' : c ∈ [97, 98, 99] := by
    have : ("abc" : Str).cps.toList = [97, 98, 99] := by decide
    rw [this] at h; exact h
  simp only [List.mem_cons, List.not_mem_nil, or_false] at h'
  rcases h' with rfl | rfl | rfl
  · exact .inl (by decide)
  · exact .inr (.inl (by decide))
  · exact .inr (.inr (by decide))
theorem book_step (ns : List Int) (hns : ns.length ≤ 63) (x y z : Str) (k : Int) (hk : 0 ≤ k) (hk2 : k < 9) (j : Nat) (hj : j < 9) (ds : List PyData) (hl : ds.length = j) (hd : ∀ d ∈ ds, Wf okI (SgOf ds) d) (t : Int) (h : Str) (ht : 1 ≤ t) (ht2 : t ≤ j + 1) (hth : okH h) (s7 s8 s9 : Sl) :
    ∃ (d : PyData) (t' : Int) (h' : Str) (s7' s8' s9' : Sl), Wf (QI (t', h')) (SgOf ds) d ∧ 1 ≤ t' ∧ t' ≤ ((j + 1 : Nat) : Int) + 1 ∧ okH h' ∧ (ds = [] ∨ key (t, h) < key (t', h')) ∧ bodyB [.sh (scr ns), .sh (.int 10), .sh (.int 9), .sh (.list [.str x, .str y, .str z]), .sh (.tuple ds), .sh (idD t h), .sh (.int k), s7, s8, s9]
      = .nx [.sh (scr ns), .sh (.int 10), .sh (.int 9), .sh (.list [.str x, .str y, .str z]), .sh (.tuple (ds ++ [d])), .sh (idD t' h'), .sh (.int k), s7', s8', s9'] := by
  obtain ⟨r1, e1, a1, b1⟩ := drawn_ok ns hns (10 + 1 + 60 * k) 2 (by omega) (by omega) (by decide)
  obtain ⟨r2, e2, a2, b2'⟩ := drawn_ok ns hns (10 + 2 + 60 * k) 3 (by omega) (by omega) (by decide)
  obtain ⟨c, hc, f2⟩ := ixS' (x := "abc") a2 (by have : ("abc" : Str).cps.toList.length = 3 := by decide
                                                 rw [this]; exact b2')
  have hh := abc hc
  generalize (⟨#[c]⟩ : Str) = hd' at *
  have eb := leIdE (t := t + r1) (t' := t) (show okH hd' from hh) hth
  -- the time, either way
  have go : ∀ tt : Int, 1 ≤ tt → tt ≤ j + 2 → ∃ d, Wf (QI (tt, hd')) (SgOf ds) d ∧ ∃ kn, (sSeq (sSet 5 (vTup (aCons (vVar 7) (aCons (vVar 8) aNil)))) (sSeq (sSet 9 (vFn (aCons (vLst (lComp (fun δ => ((vVar 4) δ).bind seqOf) bind1 [7] (cVal (b2 (b2 (b2 (vVar 0) (vC (.int 1)) dIx) (vC (.int 0)) dIx) (vVar 1) (dCmp .Lt))) (vVar 0))) aNil) dTupF)) (sSet 4 (b2 (vVar 4) (vTup (aCons (vCall (aCons (vVar 0) (aCons (b2 (b2 (vVar 1) (vC (.int 3)) dAdd) (b2 (vC (.int 60)) (vVar 6) dMul) dAdd) (aCons (vVar 5) (aCons (vVar 9) (aCons (vVar 3) aNil))))) m__law_deed) aNil)) dAdd))))
      [.sh (scr ns), .sh (.int 10), .sh (.int 9), .sh (.list [.str x, .str y, .str z]), .sh (.tuple ds), .sh (idD t h), .sh (.int k), .sh (.int tt), .sh (.str hd'), s9]
      = .nx [.sh (scr ns), .sh (.int 10), .sh (.int 9), .sh (.list [.str x, .str y, .str z]), .sh (.tuple (ds ++ [d])), .sh (idD tt hd'), .sh (.int k), .sh (.int tt), .sh (.str hd'), .sh (.tuple kn)] := fun tt h1 h2 => by
    have hall : ∀ d ∈ ds, ∃ sl b, bind1 d = .ok sl ∧ (cVal (b2 (b2 (b2 (vVar 0) (vC (.int 1)) dIx) (vC (.int 0)) dIx) (vVar 1) (dCmp .Lt))) (sl ++ [.sh (.int tt)]) = .ok b ∧ ∃ y, vVar 0 (sl ++ [.sh (.int tt)]) = .ok y ∧ (Wf okI (SgOf ds) y ∧ y ∈ ds) := fun d hd1 => by
      obtain ⟨t1, h1', _, e⟩ := (hd d hd1).id
      refine ⟨_, decide (t1 < tt), rfl, ?_, d, rfl, hd d hd1, hd1⟩
      simp_arith [e, ix0, ltI]
    obtain ⟨kn, g1, g2, g3⟩ := comp_some ds hall
    obtain ⟨d, ed, wd'⟩ := deed_ok ns hns okI (QI (tt, hd')) (10 + 3 + 60 * k) (by omega) (by omega) tt hd' ⟨⟨h1, by omega, hh⟩, rfl, rfl⟩ (SgOf ds) kn (fun y hy => (g3 y hy).1) (by omega) x y z
    have wd := wd'.mono (fun _ _ q => q) fun x hx => hx.mono fun q hq => (g3 q hq).2
    refine ⟨d, wd, kn, ?_⟩
    have hadd := addT (x := ds) (y := [d]) (by simp; omega)
    have htup : dTupF [.list kn] = some (.tuple kn) := rfl
    rw [sSeq_nx (sSet_ok (vTup_ok (aCons_ok rfl (aCons_ok rfl rfl))))]
    simp only [List.set_cons_zero, List.set_cons_succ]
    rw [sSeq_nx (sSet_ok (vFn_ok (aCons_ok (vLst_ok (lComp_ok (src_seq rfl rfl) (by omega) rfl g1)) rfl) htup))]
    simp only [List.set_cons_zero, List.set_cons_succ]
    simp_arith [addI, mul60, ed, hadd]
  unfold bodyB
  rw [sSeq_nx (sSet_ok (d := .int (t + r1)) (by simp_arith [ix0, addI, mul60, e1]))]
  simp only [List.set_cons_zero, List.set_cons_succ]
  rw [sSeq_nx (sSet_ok (d := .str hd') (by simp_arith [addI, mul60, e2, f2]))]
  simp only [List.set_cons_zero, List.set_cons_succ]
  have hc1 : ∃ b, (b = false → ds = [] ∨ key (t, h) < key (t + r1, hd')) ∧ (cAnd (cVal (b2 (vVar 4) (vTup aNil) dNe)) (cVal (b2 (vTup (aCons (vVar 7) (aCons (vVar 8) aNil))) (vVar 5) (dCmp .LtE)))) [.sh (scr ns), .sh (.int 10), .sh (.int 9), .sh (.list [.str x, .str y, .str z]), .sh (.tuple ds), .sh (idD t h), .sh (.int k), .sh (.int (t + r1)), .sh (.str hd'), s9] = .ok b := by
    cases he : ds.isEmpty with
    | true => exact ⟨false, fun _ => .inl (by cases ds with | nil => rfl | cons _ _ => cases he), by simp_arith [dNeT, he, Bool.not_true]⟩
    | false => exact ⟨decide (key (t + r1, hd') ≤ key (t, h)), fun z => .inr (by have := of_decide_eq_false z; omega), by simp_arith [dNeT, he, Bool.not_false, eb]⟩
  obtain ⟨b, hbk, hb⟩ := hc1
  cases b with
  | true =>
    obtain ⟨d, wd, kn, ek⟩ := go (t + 1) (by omega) (by omega)
    refine ⟨d, t + 1, hd', .sh (.int (t + 1)), .sh (.str hd'), .sh (.tuple kn), wd, by omega, by omega, hh, .inr (by have := hj_lt h; unfold key; simp only; omega), ?_⟩
    rw [sSeq_nx ((sIf_t hb).trans (sSet_ok (d := .int (t + 1)) (by simp_arith [ix0, addI])))]
    simp only [List.set_cons_zero, List.set_cons_succ]
    exact ek
  | false =>
    obtain ⟨d, wd, kn, ek⟩ := go (t + r1) (by omega) (by omega)
    refine ⟨d, t + r1, hd', .sh (.int (t + r1)), .sh (.str hd'), .sh (.tuple kn), wd, by omega, by omega, hh, hbk rfl, ?_⟩
    rw [sSeq_if_f hb]
    exact ek
def BkW (L : List (PyData × IdP)) : Prop := (∀ e ∈ L, Wf (QI e.2) (SgOf (L.map (·.1))) e.1) ∧ L.Pairwise fun a b => key a.2 < key b.2
theorem BkW.snoc {L : List (PyData × IdP)} {d : PyData} {p q : IdP} (h : BkW L) (w : Wf (QI q) (SgOf (L.map (·.1))) d) (hk : ∀ e ∈ L, key e.2 ≤ key p) (hq : L.map (·.1) = [] ∨ key p < key q) : BkW (L ++ [(d, q)]) ∧ ∀ e ∈ L ++ [(d, q)], key e.2 ≤ key q := by
  have lt : ∀ e ∈ L, key e.2 < key q := fun e he => by
    rcases hq with z | z
    · rw [List.map_eq_nil_iff] at z; rw [z] at he; exact nomatch he
    · have := hk e he; omega
  have up : ∀ x, SgOf (L.map (·.1)) x → SgOf ((L ++ [(d, q)]).map (·.1)) x := fun x hx => hx.mono fun y hy => by rw [List.map_append]; exact List.mem_append_left _ hy
  refine ⟨⟨fun e he => ?_, ?_⟩, fun e he => ?_⟩
  · rcases List.mem_append.mp he with z | z
    · exact (h.1 e z).mono (fun _ _ q => q) up
    · rw [List.mem_singleton.mp z]; exact w.mono (fun _ _ q => q) up
  · rw [List.pairwise_append]
    exact ⟨h.2, List.pairwise_singleton _ _, fun a ha b hb => by rw [List.mem_singleton.mp hb]; exact lt a ha⟩
  · rcases List.mem_append.mp he with z | z
    · exact Int.le_of_lt (lt e z)
    · rw [List.mem_singleton.mp z]; exact Int.le_refl _
theorem BkW.wf {L : List (PyData × IdP)} (h : BkW L) : ∀ d ∈ L.map (·.1), Wf okI (SgOf (L.map (·.1))) d := fun d hd => by
  obtain ⟨e, he, rfl⟩ := List.mem_map.mp hd
  exact (h.1 e he).mono (fun _ _ q => q.1) fun _ q => q
theorem book_loop (ns : List Int) (hns : ns.length ≤ 63) (x y z : Str) : ∀ (l : List PyData), (∀ d ∈ l, ∃ k : Int, d = .int k ∧ 0 ≤ k ∧ k < 9) → ∀ (j : Nat) (L : List (PyData × IdP)) (t : Int) (h : Str) (s6 s7 s8 s9 : Sl), j + l.length ≤ 9 → L.length = j → BkW L → (∀ e ∈ L, key e.2 ≤ key (t, h)) → 1 ≤ t → t ≤ j + 1 → okH h →
    ∃ L' s5 s6' s7' s8' s9', BkW L' ∧ L'.length ≤ 9 ∧ runFor (st1 6) bodyB l [.sh (scr ns), .sh (.int 10), .sh (.int 9), .sh (.list [.str x, .str y, .str z]), .sh (.tuple (L.map (·.1))), .sh (idD t h), s6, s7, s8, s9] = .nx [.sh (scr ns), .sh (.int 10), .sh (.int 9), .sh (.list [.str x, .str y, .str z]), .sh (.tuple (L'.map (·.1))), s5, s6', s7', s8', s9']
  | [], _, j, L, t, h, s6, s7, s8, s9, hj, hl, hd, _, _, _, _ => ⟨L, _, _, _, _, _, hd, by simp at hj; omega, rfl⟩
  | d0 :: l, hk, j, L, t, h, s6, s7, s8, s9, hj, hl, hd, hb, h1, h2, h3 => by
    obtain ⟨k, rfl, k0, k1⟩ := hk d0 (.head _)
    simp only [List.length_cons] at hj
    obtain ⟨d, t', h', s7', s8', s9', wd, t1, t2, t3, kk, e⟩ := book_step ns hns x y z k k0 k1 j (by omega) (L.map (·.1)) (by rw [List.length_map]; exact hl) hd.wf t h h1 h2 h3 s7 s8 s9
    obtain ⟨hB, hB2⟩ := hd.snoc wd hb kk
    obtain ⟨L', s5, s6', s7'', s8'', s9'', w', l', e'⟩ := book_loop ns hns x y z l (fun d hd => hk d (.tail _ hd)) (j + 1) (L ++ [(d, (t', h'))]) t' h' (.sh (.int k)) s7' s8' s9' (by omega) (by simp [hl]) hB hB2 t1 t2 t3
    refine ⟨L', s5, s6', s7'', s8'', s9'', w', l', ?_⟩
    unfold runFor
    simp only [st1, List.set_cons_zero, List.set_cons_succ]
    rw [e]
    rw [List.map_append] at e'
    exact e'
theorem book_ok (ns : List Int) (hns : ns.length ≤ 63) (x y z : Str) : ∃ L, m__law_book [scr ns, .int 10, .int 9, .list [.str x, .str y, .str z]] = .ok (.tuple (L.map (·.1))) ∧ L.length ≤ 9 ∧ BkW L := by
  obtain ⟨r, e, a, b⟩ := drawn_ok ns hns 10 (9 + 1) (by decide) (by decide) (by decide)
  have hmem : ∀ d ∈ rngD 0 r, ∃ k : Int, d = .int k ∧ 0 ≤ k ∧ k < 9 := fun d hd => by
    unfold rngD at hd
    obtain ⟨i, hi, rfl⟩ := List.mem_map.mp hd
    have := List.mem_range.mp hi
    exact ⟨_, rfl, by omega, by omega⟩
  have hlen : (rngD 0 r).length ≤ 9 := by unfold rngD; simp; omega
  obtain ⟨L, s5, s6, s7, s8, s9, w, l, e'⟩ := book_loop ns hns x y z (rngD 0 r) hmem 0 [] 1 "a" .un .un .un .un (by omega) rfl ⟨(fun _ h => nomatch h), .nil⟩ (fun _ h => nomatch h) (by decide) (by decide) (.inl rfl)
  refine ⟨L, fn_rt ?_, l, w⟩
  unfold sem__law_book N__law_book
  simp only [startD, List.map_cons, List.map_nil, List.length_cons, List.length_nil, List.replicate, List.cons_append, List.nil_append, Nat.reduceAdd, Nat.reduceSub]
  rw [sSeq_nx (sSet_ok (d := .tuple []) rfl), sSeq_nx (sSet_ok (d := idD 1 "a") rfl)]
  simp only [List.set_cons_zero, List.set_cons_succ]
  have hfor : sFor (fun δ => ((aCons (vCall (aCons (vVar 0) (aCons (vVar 1) (aCons (b2 (vVar 2) (vC (.int 1)) dAdd) aNil))) m__law_drawn) aNil) δ).bind rng1) (st1 6) bodyB [.sh (scr ns), .sh (.int 10), .sh (.int 9), .sh (.list [.str x, .str y, .str z]), .sh (.tuple []), .sh (idD 1 "a"), .un, .un, .un, .un] = .nx [.sh (scr ns), .sh (.int 10), .sh (.int 9), .sh (.list [.str x, .str y, .str z]), .sh (.tuple (L.map (·.1))), s5, s6, s7, s8, s9] := by
    unfold sFor
    have := src_rng (fs := aCons (vCall (aCons (vVar 0) (aCons (vVar 1) (aCons (b2 (vVar 2) (vC (.int 1)) dAdd) aNil))) m__law_drawn) aNil) (δ := [.sh (scr ns), .sh (.int 10), .sh (.int 9), .sh (.list [.str x, .str y, .str z]), .sh (.tuple []), .sh (idD 1 "a"), .un, .un, .un, .un]) (n := r) (by simp_arith [addI, e]) a (by omega)
    rw [this, thenS_ok]
    exact e'
  exact (sSeq_nx hfor).trans (sRet_ok rfl)
end Sm
set_option autoImplicit false
set_option linter.all false
set_option maxRecDepth 10000
open PySem
namespace Sm
open L2
local macro_rules
  | `(tactic| simp_arith) => `(tactic| simp_arith [ok_bind])
  | `(tactic| simp_arith [$ls,*]) => `(tactic| simp only [$ls,*, fnD_eq, startD, sSeq_eq, seq_nx, seq_rt, seq_exc, fin_rt, fin_nx, fin_exc, sIf_eq, cVal, b2, b1, vVar_eq, slotV_sh, vLst, vTup, aNil, aCons, vC, ok_bind, exc_bind, ofO_some, thenS_ok, thenS_exc, sRet, sSet, sOwn, sNew, sNext, vFn, vCall, vCall0, noX, cAnd, cOr, cNot, sFor, sExp, sFz, oSome, oNone, vSl, vJoin, cTrue, cFz, truD_bool,
  List.map_cons, List.map_nil, List.length_cons, List.length_nil, List.replicate, List.cons_append, List.nil_append, List.append_nil, List.getElem?_cons_zero, List.getElem?_cons_succ, List.set_cons_zero, List.set_cons_succ, Nat.reduceAdd, Nat.reduceSub, Nat.zero_add, if_true, if_false, Bool.false_eq_true, Bool.true_eq_false, reduceIte])
def isSgN (d : PyData) : Prop := d = .none ∨ isSg d
theorem isId.p {d : PyData} (h : isId d) : ∃ p : IdP, d = idP p := by obtain ⟨t, h, rfl⟩ := h; exact ⟨(t, h), rfl⟩
theorem beqI (a b : Int) : (a == b) = decide (a = b) := by rw [Bool.eq_iff_iff]; simp
theorem beqS (a b : Str) : (a == b) = decide (a = b) := by rw [Bool.eq_iff_iff]; simp
theorem eqvId (p q : IdP) : PyData.eqv (idP p) (idP q) = decide (p = q) := by
  show (PyData.eqv (.int p.1) (.int q.1) && (PyData.eqv (.str p.2) (.str q.2) && true)) = _
  show ((p.1 == q.1) && ((p.2 == q.2) && true)) = _
  rw [Bool.eq_iff_iff]
  simp [Prod.ext_iff]
theorem depthP (p : IdP) : (idP p).depth ≤ 2 := depthId p.1 p.2
theorem dEqP (p q : IdP) : dEq (idP p) (idP q) = some (.bool (decide (p = q))) := by
  unfold dEq
  rw [if_pos (Nat.le_trans (Nat.min_le_left _ _) (Nat.le_trans (depthP p) (by decide))), eqvId]
theorem dNeP (p q : IdP) : dNe (idP p) (idP q) = some (.bool (!decide (p = q))) := by
  unfold dNe
  rw [if_pos (Nat.le_trans (Nat.min_le_left _ _) (Nat.le_trans (depthP p) (by decide))), eqvId]
theorem dIdx2 (x y z : PyData) (xs : List PyData) : dIx (.tuple (x :: y :: z :: xs)) (.int 2) = some z := atI_nat (xs := x :: y :: z :: xs) (j := 2) (by simp)
theorem dIdx1 (x y : PyData) (xs : List PyData) : dIx (.tuple (x :: y :: xs)) (.int 1) = some y := atI_nat (xs := x :: y :: xs) (j := 1) (by simp)
theorem dIdx3 (x y z u : PyData) (xs : List PyData) : dIx (.tuple (x :: y :: z :: u :: xs)) (.int 3) = some u := atI_nat (xs := x :: y :: z :: u :: xs) (j := 3) (by simp)
theorem dIdx4 (x y z u v : PyData) (xs : List PyData) : dIx (.tuple (x :: y :: z :: u :: v :: xs)) (.int 4) = some v := atI_nat (xs := x :: y :: z :: u :: v :: xs) (j := 4) (by simp)
theorem isNone_sg {d : PyData} (h : isSg d) : isNone d = false := by obtain ⟨i, n, rfl, _⟩ := h; rfl
theorem isSg.p {d : PyData} (h : isSg d) : ∃ (p : IdP) (n : Int), d = .tuple [idP p, .int n] := by
  obtain ⟨i, n, rfl, hi⟩ := h
  obtain ⟨p, rfl⟩ := hi.p
  exact ⟨p, n, rfl⟩
theorem sg_ids : ∀ (sg : List PyData), (∀ s ∈ sg, isSg s) → ∃ ps : List IdP, ps.length = sg.length ∧
    compRun bind1 [] cTrue (b2 (vVar 0) (vC (.int 0)) dIx) sg = .ok (ps.map idP) ∧
    compRun bind1 [] (fun δ => ((vVar 0) δ).bind fun d => .ok (!isNone d)) (vVar 0) sg = .ok sg ∧
    ∀ q : IdP, ∃ ys : List PyData, compRun bind1 [.sh (idP q)] (cVal (b2 (b2 (vVar 0) (vC (.int 0)) dIx) (vVar 1) dEq)) (vVar 0) sg = .ok ys ∧ (!ys.isEmpty) = decide (q ∈ ps) ∧ (q ∈ ps ↔ ∃ n, PyData.tuple [idP q, .int n] ∈ sg)
  | [], _ => ⟨[], rfl, rfl, rfl, fun q => ⟨[], rfl, rfl, by simp⟩⟩
  | s :: sg, h => by
    obtain ⟨p, n, rfl⟩ := (h s (.head _)).p
    obtain ⟨ps, e1, e2, e3, e4⟩ := sg_ids sg fun x hx => h x (.tail _ hx)
    refine ⟨p :: ps, by simp [e1], ?_, ?_, fun q => ?_⟩
    · have : (b2 (vVar 0) (vC (.int 0)) dIx) ([.sh (.tuple [idP p, .int n])] ++ []) = .ok (idP p) := by simp_arith [ix0]
      unfold compRun
      simp only [bind1, cTrue, this, e2, List.map_cons]
    · unfold compRun
      simp only [bind1, vVar_eq, List.append_nil, List.getElem?_cons_zero, slotV_sh, ok_bind, isNone, Bool.not_false]
      simp only [bind1, vVar_eq, List.append_nil, List.getElem?_cons_zero, slotV_sh, ok_bind, isNone, Bool.not_false] at e3
      rw [e3]
    · obtain ⟨ys, f1, f2, f3⟩ := e4 q
      have mm : q ∈ p :: ps ↔ ∃ m, PyData.tuple [idP q, .int m] ∈ PyData.tuple [idP p, .int n] :: sg := by
        rw [List.mem_cons, f3]
        constructor
        · rintro (rfl | ⟨m, hm⟩)
          · exact ⟨n, .head _⟩
          · exact ⟨m, .tail _ hm⟩
        · rintro ⟨m, hm⟩
          rcases List.mem_cons.mp hm with h | h
          · left
            simp only [idP, idD, PyData.tuple.injEq, List.cons.injEq, PyData.int.injEq, PyData.str.injEq, and_true] at h
            exact Prod.ext h.1.1 h.1.2
          · exact .inr ⟨m, h⟩
      have t : (cVal (b2 (b2 (vVar 0) (vC (.int 0)) dIx) (vVar 1) dEq)) ([.sh (.tuple [idP p, .int n])] ++ [.sh (idP q)]) = .ok (decide (p = q)) := by simp_arith [ix0, dEqP]
      by_cases hpq : p = q
      · refine ⟨.tuple [idP p, .int n] :: ys, ?_, by simp [hpq], mm⟩
        unfold compRun
        rw [show bind1 (.tuple [idP p, .int n]) = .ok [.sh (.tuple [idP p, .int n])] from rfl]
        simp only [t, decide_eq_true hpq, f1]
        rfl
      · refine ⟨ys, ?_, by rw [f2]; simp [Ne.symm hpq], mm⟩
        unfold compRun
        rw [show bind1 (.tuple [idP p, .int n]) = .ok [.sh (.tuple [idP p, .int n])] from rfl]
        simp only [t, decide_eq_false hpq, f1]
structure DK (S : PyData → Prop) (d : PyData) (p : IdP) (ps : List IdP) : Prop where
  id : dIx d (.int 1) = some (idP p)
  ok : okI p.1 p.2
  nm : m_deeds_named [d] = .ok (.list (ps.map idP))
  ln : ∃ ps' : List IdP, m__law_named [d] = .ok (.list (ps'.map idP)) ∧ ps'.length ≤ 40 ∧ ∀ q, q ∈ ps' ↔ q ∈ ps
  len : ps.length ≤ 40
  eq : PyData.eqv d d = true
  dp : d.depth ≤ 5
  sn : ∃ out : List PyData, m_signs_named [d] = .ok (.list out) ∧ out.length ≤ 40 ∧ ∀ s ∈ out, S s ∧ ∃ q n, s = .tuple [idP q, .int n] ∧ q ∈ ps
  fm : ∃ x r, d = .tuple (x :: idP p :: r)
theorem eqvAll_sg : ∀ (sg : List PyData), (∀ s ∈ sg, isSg s) → PyData.eqvAll sg sg = true ∧ PyData.depthAll sg ≤ 3
  | [], _ => ⟨rfl, by simp [PyData.depthAll]⟩
  | s :: sg, h => by
    obtain ⟨p, n, rfl⟩ := (h s (.head _)).p
    obtain ⟨e1, e2⟩ := eqvAll_sg sg fun x hx => h x (.tail _ hx)
    have : PyData.eqv (.tuple [idP p, .int n]) (.tuple [idP p, .int n]) = true := by
      show (PyData.eqv (idP p) (idP p) && (PyData.eqv (.int n) (.int n) && true)) = true
      rw [eqvId]; simp [PyData.eqv]
    refine ⟨by rw [PyData.eqvAll, this, e1]; rfl, ?_⟩
    have d := depthP p
    simp only [PyData.depthAll, PyData.depth] at d ⊢
    omega
theorem eqv_sgN {s : PyData} (h : isSgN s) : PyData.eqv s s = true ∧ s.depth ≤ 3 := by
  rcases h with rfl | h
  · exact ⟨rfl, by simp [PyData.depth]⟩
  · obtain ⟨e1, e2⟩ := eqvAll_sg [s] (fun x hx => by rw [List.mem_singleton.mp hx]; exact h)
    simp only [PyData.eqvAll, Bool.and_true, PyData.depthAll] at e1 e2
    exact ⟨e1, by omega⟩
theorem sS (x : Str) : PyData.eqv (.str x) (.str x) = true := by show (x == x) = true; simp
theorem sgN_ids : ∀ (sg : List PyData), (∀ s ∈ sg, isSgN s) → ∃ out : List PyData, (∀ s ∈ out, isSg s) ∧ out.length ≤ sg.length ∧ compRun bind1 [] (fun δ => ((vVar 0) δ).bind fun d => .ok (!isNone d)) (vVar 0) sg = .ok out ∧ (∀ s ∈ sg, isSg s → s ∈ out) ∧ ∀ s ∈ out, s ∈ sg
  | [], _ => ⟨[], (fun _ h => nomatch h), Nat.le_refl _, rfl, (fun _ h => nomatch h), fun _ h => nomatch h⟩
  | s :: sg, h => by
    obtain ⟨out, e1, e2, e3, e4, e5⟩ := sgN_ids sg fun x hx => h x (.tail _ hx)
    rcases h s (.head _) with rfl | hs
    · refine ⟨out, e1, by simp; omega, ?_, fun x hx hq => ?_, fun x hx => .tail _ (e5 x hx)⟩
      · unfold compRun
        simp only [bind1, vVar_eq, List.append_nil, List.getElem?_cons_zero, slotV_sh, ok_bind, isNone, Bool.not_true]
        simp only [bind1, vVar_eq, List.append_nil, List.getElem?_cons_zero, slotV_sh, ok_bind] at e3
        exact e3
      · rcases List.mem_cons.mp hx with rfl | hx
        · obtain ⟨i, n, hh, _⟩ := hq; cases hh
        · exact e4 x hx hq
    · refine ⟨s :: out, fun x hx => (List.mem_cons.mp hx).elim (fun z => z ▸ hs) (e1 x), by simp; omega, ?_, fun x hx hq => ?_, fun x hx => ?_⟩
      · unfold compRun
        simp only [bind1, vVar_eq, List.append_nil, List.getElem?_cons_zero, slotV_sh, ok_bind, isNone_sg hs, Bool.not_false]
        simp only [bind1, vVar_eq, List.append_nil, List.getElem?_cons_zero, slotV_sh, ok_bind] at e3
        rw [e3]
      · rcases List.mem_cons.mp hx with rfl | hx
        · exact .head _
        · exact .tail _ (e4 x hx hq)
      · rcases List.mem_cons.mp hx with rfl | hx
        · exact .head _
        · exact .tail _ (e5 x hx)
theorem named_of {S : PyData → Prop} (hS : ∀ x, S x → isSg x) {d : PyData} {raw : List PyData} (hraw' : ∀ s ∈ raw, OrN S s) (hlen : raw.length ≤ 40) (hund : (cVal (b2 (b2 (vVar 0) (vC (.int 0)) dIx) (vC (.str "undo")) dEq)) [.sh d] = .ok false)
    (hsg : (sIf (cVal (b2 (b2 (vVar 0) (vC (.int 0)) dIx) (vC (.str "add")) dEq)) (sSet 1 (vLst (aCons (b2 (vVar 0) (vC (.int 2)) dIx) aNil))) (sIf (cVal (b2 (b2 (vVar 0) (vC (.int 0)) dIx) (vC (.str "drop")) dEq)) (sSet 1 (vFn (aCons (b2 (vVar 0) (vC (.int 2)) dIx) aNil) dListF)) (sIf (cVal (b2 (b2 (vVar 0) (vC (.int 0)) dIx) (vC (.str "mark")) dEq)) (sSet 1 (vLst (aCons (b2 (b2 (vVar 0) (vC (.int 3)) dIx) (vC (.int 0)) dIx) (aCons (b2 (b2 (vVar 0) (vC (.int 4)) dIx) (vC (.int 0)) dIx) aNil)))) sNext))) [.sh d, .sh (.list [])] = .nx [.sh d, .sh (.list raw)]) :
    ∃ (out : List PyData) (ps : List IdP), ps.length ≤ 40 ∧ (∀ s ∈ out, isSg s) ∧ (∀ s ∈ raw, isSg s → s ∈ out) ∧ (∀ s ∈ out, s ∈ raw) ∧ m_deeds_named [d] = .ok (.list (ps.map idP)) ∧
      (∃ out : List PyData, m_signs_named [d] = .ok (.list out) ∧ out.length ≤ 40 ∧ ∀ s ∈ out, S s ∧ ∃ q n, s = .tuple [idP q, .int n] ∧ q ∈ ps) ∧ ∀ q : IdP, q ∈ ps ↔ ∃ n, .tuple [idP q, .int n] ∈ out := by
  have hraw : ∀ s ∈ raw, isSgN s := fun s hs => (hraw' s hs).elim .inl fun z => .inr (hS s z)
  obtain ⟨out, o1, o2, o3, o4, o5⟩ := sgN_ids raw hraw
  obtain ⟨ps, e1, e2, e3, e4⟩ := sg_ids out o1
  have hs : m_signs_named [d] = .ok (.list out) := by
    refine fn_rt ?_
    unfold sem_signs_named N_signs_named
    simp only [startD, List.map_cons, List.map_nil, List.length_cons, List.length_nil, List.replicate, List.cons_append, List.nil_append, Nat.reduceAdd, Nat.reduceSub]
    rw [sSeq_nx (sSet_ok (d := .list []) rfl)]
    simp only [List.set_cons_zero, List.set_cons_succ]
    rw [sSeq_nx hsg]
    exact sRet_ok (vLst_ok (lComp_ok (src_seq rfl rfl) (by omega) rfl o3))
  refine ⟨out, ps, by omega, o1, o4, o5, ?_, ⟨out, hs, by omega, fun s hs' => ?_⟩, fun q => ?_⟩
  · refine fn_rt ?_
    unfold sem_deeds_named N_deeds_named
    simp only [startD, List.map_cons, List.map_nil, List.length_cons, List.length_nil, List.replicate, List.cons_append, List.nil_append, Nat.reduceAdd, Nat.reduceSub]
    rw [sSeq_if_f hund]
    exact sRet_ok (vLst_ok (lComp_ok (src_seq (vCall_ok (aCons_ok rfl rfl) hs) rfl) (by omega) rfl e2))
  · obtain ⟨q, n, rfl⟩ := (o1 s hs').p
    obtain ⟨_, _, _, z⟩ := e4 q
    exact ⟨(hraw' _ (o5 _ hs')).elim (fun z => nomatch z) (fun z => z), q, n, rfl, z.mpr ⟨n, hs'⟩⟩
  · obtain ⟨_, _, _, z⟩ := e4 q
    exact z
end Sm
set_option autoImplicit false
set_option linter.all false
set_option maxRecDepth 10000
open PySem
namespace Sm
open L2
local macro_rules
  | `(tactic| simp_arith) => `(tactic| simp_arith [ok_bind])
  | `(tactic| simp_arith [$ls,*]) => `(tactic| simp only [$ls,*, fnD_eq, startD, sSeq_eq, seq_nx, seq_rt, seq_exc, fin_rt, fin_nx, fin_exc, sIf_eq, cVal, b2, b1, vVar_eq, slotV_sh, vLst, vTup, aNil, aCons, vC, ok_bind, exc_bind, ofO_some, thenS_ok, thenS_exc, sRet, sSet, sOwn, sNew, sNext, vFn, vCall, vCall0, noX, cAnd, cOr, cNot, sFor, sExp, sFz, oSome, oNone, vSl, vJoin, cTrue, cFz, truD_bool,
  List.map_cons, List.map_nil, List.length_cons, List.length_nil, List.replicate, List.cons_append, List.nil_append, List.append_nil, List.getElem?_cons_zero, List.getElem?_cons_succ, List.set_cons_zero, List.set_cons_succ, Nat.reduceAdd, Nat.reduceSub, Nat.zero_add, if_true, if_false, Bool.false_eq_true, Bool.true_eq_false, reduceIte])
theorem neS {x y : Str} (h : (x == y) = false) : dEq (.str x) (.str y) = some (.bool false) := by rw [dEqS, h]
theorem eqS' {x : Str} : dEq (.str x) (.str x) = some (.bool true) := by rw [dEqS]; simp
theorem k1 : (("add" : Str) == "undo") = false := by decide +kernel
theorem k2 : (("drop" : Str) == "undo") = false := by decide +kernel
theorem k3 : (("mark" : Str) == "undo") = false := by decide +kernel
theorem k4 : (("unmark" : Str) == "undo") = false := by decide +kernel
theorem k5 : (("drop" : Str) == "add") = false := by decide +kernel
theorem k6 : (("mark" : Str) == "add") = false := by decide +kernel
theorem k7 : (("unmark" : Str) == "add") = false := by decide +kernel
theorem k8 : (("undo" : Str) == "add") = false := by decide +kernel
theorem k9 : (("mark" : Str) == "drop") = false := by decide +kernel
theorem k10 : (("unmark" : Str) == "drop") = false := by decide +kernel
theorem k11 : (("undo" : Str) == "drop") = false := by decide +kernel
theorem k12 : (("unmark" : Str) == "mark") = false := by decide +kernel
theorem k13 : (("undo" : Str) == "mark") = false := by decide +kernel
def hit (s : PyData) (q : IdP) : Prop := ∃ n, s = .tuple [idP q, .int n]
theorem hit_none (q : IdP) : ¬ hit .none q := fun ⟨_, h⟩ => by cases h
theorem hit_sg (p q : IdP) (n : Int) : hit (.tuple [idP p, .int n]) q ↔ p = q := by
  constructor
  · rintro ⟨m, h⟩
    simp only [idP, idD, PyData.tuple.injEq, List.cons.injEq, PyData.int.injEq, PyData.str.injEq, and_true] at h
    exact Prod.ext h.1.1 h.1.2
  · rintro rfl; exact ⟨n, rfl⟩
theorem ret_seq {g1 g2 : Dn → Out} {δ : Dn} {d : PyData} (h : g1 δ = .rt d) : sSeq g1 g2 δ = .rt d := sSeq_rt h
theorem signs_undo (i j : PyData) : m_signs_named [.tuple [.str "undo", i, j]] = .ok (.list []) := by
  refine fn_rt ?_
  unfold sem_signs_named N_signs_named
  simp only [startD, List.map_cons, List.map_nil, List.length_cons, List.length_nil, List.replicate, List.cons_append, List.nil_append, Nat.reduceAdd, Nat.reduceSub]
  rw [sSeq_nx (sSet_ok (d := .list []) rfl)]
  simp only [List.set_cons_zero, List.set_cons_succ]
  rw [sSeq_nx (show _ = Out.nx [.sh (.tuple [.str "undo", i, j]), .sh (.list [])] by rw [sIf_f (by simp_arith [ix0, neS k8]), sIf_f (by simp_arith [ix0, neS k11]), sIf_f (by simp_arith [ix0, neS k13])]; rfl)]
  exact sRet_ok (vLst_ok (lComp_ok (ds := []) (src_seq (d := .list []) rfl rfl) (by simp) rfl rfl))
theorem dk_of {S : PyData → Prop} (hS : ∀ x, S x → isSg x) {d : PyData} {p : IdP} (w : Wf (QI p) S d) : ∃ ps, DK S d p ps := by
  have toN : ∀ {s : PyData}, OrN S s → isSgN s := fun z => z.elim .inl fun z => .inr (hS _ z)
  obtain ⟨t, h, ⟨ok, e1, e2⟩, hf⟩ := w
  have ep : p = (t, h) := Prod.ext e1.symm e2.symm
  subst ep
  rcases hf with ⟨b, wd, rfl, hb, hw⟩ | ⟨sg, rfl, hsg, hl⟩ | ⟨nme, s1, x1, s2, x2, rfl, hs1, hs2⟩ | ⟨nme, rfl⟩ | ⟨i, rfl, hi⟩
  · obtain ⟨out, ps, l, o1, o2, o3, nm, sn, hq⟩ := named_of hS (d := .tuple [.str "add", idD t h, b, .str wd]) (raw := [b]) (fun s hs => by rw [List.mem_singleton.mp hs]; exact hb) (by simp) (by simp_arith [ix0, neS k1]) (by rw [sIf_t (by simp_arith [ix0, eqS'])]; simp_arith [dIdx2])
    refine ⟨ps, dIdx1 _ _ _, ok, nm, ?_, l, ?_, ?_, sn, ⟨_, _, rfl⟩⟩
    · have key : ∀ q, q ∈ ps ↔ hit b q := fun q => by
        rw [hq]
        constructor
        · rintro ⟨n, hn⟩; exact ⟨n, (List.mem_singleton.mp (o3 _ hn)).symm⟩
        · rintro ⟨n, rfl⟩; exact ⟨n, o2 _ (.head _) ⟨_, _, rfl, _, _, rfl⟩⟩
      have go : ∀ ps' : List IdP, (vIf (fun δ => ((b2 (vVar 0) (vC (.int 2)) dIx) δ).bind fun d => .ok (!isNone d)) (vLst (aCons (b2 (b2 (vVar 0) (vC (.int 2)) dIx) (vC (.int 0)) dIx) aNil)) (vLst aNil)) [.sh (.tuple [.str "add", idD t h, b, .str wd])] = .ok (.list (ps'.map idP)) →
          m__law_named [.tuple [.str "add", idD t h, b, .str wd]] = .ok (.list (ps'.map idP)) := fun ps' hh => by
        refine fn_rt ?_
        unfold sem__law_named N__law_named
        simp only [startD, List.map_cons, List.map_nil, List.length_cons, List.length_nil, List.replicate, List.cons_append, List.nil_append, Nat.reduceAdd, Nat.reduceSub]
        rw [sSeq_if_f (by simp_arith [ix0, neS k1])]
        exact sSeq_rt ((sIf_t (by simp_arith [ix0, eqS'])).trans (sRet_ok hh))
      have hb := toN hb
      rcases hb with rfl | hb
      · exact ⟨[], go [] (by unfold vIf; simp_arith [dIdx2, isNone, Bool.not_true]), by simp, fun q => by rw [key q]; simp [hit_none]⟩
      · obtain ⟨p, n, rfl⟩ := hb.p
        exact ⟨[p], go [p] (by unfold vIf; simp_arith [dIdx2, isNone, Bool.not_false, ix0]), by simp, fun q => by rw [key q, hit_sg]; simp [eq_comm]⟩
    · obtain ⟨e1, _⟩ := eqv_sgN (toN hb)
      show (PyData.eqv (.str "add") (.str "add") && (PyData.eqv (idP (t, h)) (idP (t, h)) && (PyData.eqv b b && (PyData.eqv (.str wd) (.str wd) && true)))) = true
      rw [sS, sS, eqvId, e1]; simp
    · obtain ⟨_, e1⟩ := eqv_sgN (toN hb)
      have e2 := depthId t h
      simp only [PyData.depth, PyData.depthAll] at e2 ⊢
      omega
  · obtain ⟨out, ps, l, o1, o2, o3, nm, sn, hq⟩ := named_of hS (d := .tuple [.str "drop", idD t h, .tuple sg]) (raw := sg) (fun s hs => .inr (hsg s hs)) hl (by simp_arith [ix0, neS k2]) (by
      rw [sIf_f (by simp_arith [ix0, neS k5]), sIf_t (by simp_arith [ix0, eqS'])]
      have : dListF [.tuple sg] = some (.list sg) := rfl
      simp_arith [dIdx2, this])
    have hsg' : ∀ x ∈ sg, isSg x := fun x hx => hS x (hsg x hx)
    obtain ⟨ps', f1, f2, f3, f4⟩ := sg_ids sg hsg'
    refine ⟨ps, dIdx1 _ _ _, ok, nm, ?_, l, ?_, ?_, sn, ⟨_, _, rfl⟩⟩
    · refine ⟨ps', ?_, by omega, fun q => ?_⟩
      · refine fn_rt ?_
        unfold sem__law_named N__law_named
        simp only [startD, List.map_cons, List.map_nil, List.length_cons, List.length_nil, List.replicate, List.cons_append, List.nil_append, Nat.reduceAdd, Nat.reduceSub]
        rw [sSeq_if_f (by simp_arith [ix0, neS k2]), sSeq_if_f (by simp_arith [ix0, neS k5])]
        refine sSeq_rt ((sIf_t (by simp_arith [ix0, eqS'])).trans (sRet_ok ?_))
        exact vLst_ok (lComp_ok (src_seq (d := .tuple sg) (by simp_arith [dIdx2]) rfl) (by omega) rfl f2)
      · obtain ⟨ys, y1, y2, y3⟩ := f4 q
        rw [hq, y3]
        exact ⟨fun ⟨n, hn⟩ => ⟨n, o2 _ hn (hsg' _ hn)⟩, fun ⟨n, hn⟩ => ⟨n, o3 _ hn⟩⟩
    · obtain ⟨e1, _⟩ := eqvAll_sg sg hsg'
      show (PyData.eqv (.str "drop") (.str "drop") && (PyData.eqv (idP (t, h)) (idP (t, h)) && (PyData.eqvAll sg sg && true))) = true
      rw [sS, eqvId, e1]; simp
    · obtain ⟨_, e1⟩ := eqvAll_sg sg hsg'
      have e2 := depthId t h
      simp only [PyData.depth, PyData.depthAll] at e2 ⊢
      omega
  · obtain ⟨out, ps, l, o1, o2, o3, nm, sn, hq⟩ := named_of hS (d := .tuple [.str "mark", idD t h, .str nme, .tuple [s1, .str x1], .tuple [s2, .str x2]]) (raw := [s1, s2]) (fun s hs => by
      rcases List.mem_cons.mp hs with rfl | hs
      · exact hs1
      · rw [List.mem_singleton.mp hs]; exact hs2) (by simp) (by simp_arith [ix0, neS k3]) (by
      rw [sIf_f (by simp_arith [ix0, neS k6]), sIf_f (by simp_arith [ix0, neS k9]), sIf_t (by simp_arith [ix0, eqS'])]
      simp_arith [dIdx3, dIdx4, ix0])
    refine ⟨ps, dIdx1 _ _ _, ok, nm, ?_, l, ?_, ?_, sn, ⟨_, _, rfl⟩⟩
    · have key : ∀ q, q ∈ ps ↔ hit s1 q ∨ hit s2 q := fun q => by
        rw [hq]
        constructor
        · rintro ⟨n, hn⟩
          rcases List.mem_cons.mp (o3 _ hn) with h | h
          · exact .inl ⟨n, h.symm⟩
          · exact .inr ⟨n, (List.mem_singleton.mp h).symm⟩
        · rintro (⟨n, rfl⟩ | ⟨n, rfl⟩)
          · exact ⟨n, o2 _ (.head _) ⟨_, _, rfl, _, _, rfl⟩⟩
          · exact ⟨n, o2 _ (.tail _ (.head _)) ⟨_, _, rfl, _, _, rfl⟩⟩
      have one : ∀ (s : PyData) (x : Str), isSgN s → ∃ ids : List IdP, ids.length ≤ 1 ∧ (∀ q, q ∈ ids ↔ hit s q) ∧ ∀ (r : List PyData) (ys : List PyData), compRun bind1 [] (fun δ => ((b2 (vVar 0) (vC (.int 0)) dIx) δ).bind fun d => .ok (!isNone d)) (b2 (b2 (vVar 0) (vC (.int 0)) dIx) (vC (.int 0)) dIx) r = .ok ys →
          compRun bind1 [] (fun δ => ((b2 (vVar 0) (vC (.int 0)) dIx) δ).bind fun d => .ok (!isNone d)) (b2 (b2 (vVar 0) (vC (.int 0)) dIx) (vC (.int 0)) dIx) (.tuple [s, .str x] :: r) = .ok (ids.map idP ++ ys) := fun s x hs => by
        rcases hs with rfl | hs
        · refine ⟨[], by simp, fun q => by simp [hit_none], fun r ys e => ?_⟩
          unfold compRun
          have t1 : (fun δ => ((b2 (vVar 0) (vC (.int 0)) dIx) δ).bind fun d => Res.ok (!isNone d)) ([Sl.sh (.tuple [.none, .str x])] ++ []) = .ok false := by simp_arith [ix0, isNone, Bool.not_true]
          rw [show bind1 (.tuple [.none, .str x]) = .ok [.sh (.tuple [.none, .str x])] from rfl]
          simp only [t1, e]
          rfl
        · obtain ⟨p, n, rfl⟩ := hs.p
          refine ⟨[p], by simp, fun q => by rw [hit_sg]; simp [eq_comm], fun r ys e => ?_⟩
          unfold compRun
          have t1 : (fun δ => ((b2 (vVar 0) (vC (.int 0)) dIx) δ).bind fun d => Res.ok (!isNone d)) ([Sl.sh (.tuple [.tuple [idP p, .int n], .str x])] ++ []) = .ok true := by simp_arith [ix0, isNone, Bool.not_false]
          have t2 : (b2 (b2 (vVar 0) (vC (.int 0)) dIx) (vC (.int 0)) dIx) ([Sl.sh (.tuple [.tuple [idP p, .int n], .str x])] ++ []) = .ok (idP p) := by simp_arith [ix0]
          rw [show bind1 (.tuple [.tuple [idP p, .int n], .str x]) = .ok [.sh (.tuple [.tuple [idP p, .int n], .str x])] from rfl]
          simp only [t1, t2, e]
          rfl
      obtain ⟨i1, l1, m1, c1⟩ := one s1 x1 (toN hs1)
      obtain ⟨i2, l2, m2, c2⟩ := one s2 x2 (toN hs2)
      refine ⟨i1 ++ i2, ?_, by rw [List.length_append]; omega, fun q => by rw [List.mem_append, m1, m2, key q]⟩
      refine fn_rt ?_
      unfold sem__law_named N__law_named
      simp only [startD, List.map_cons, List.map_nil, List.length_cons, List.length_nil, List.replicate, List.cons_append, List.nil_append, Nat.reduceAdd, Nat.reduceSub]
      rw [sSeq_if_f (by simp_arith [ix0, neS k3]), sSeq_if_f (by simp_arith [ix0, neS k6]), sSeq_if_f (by simp_arith [ix0, neS k9])]
      refine sRet_ok ?_
      have hc : dCut (.tuple [.str "mark", idD t h, .str nme, .tuple [s1, .str x1], .tuple [s2, .str x2]]) (some 3) none = some (.tuple [.tuple [s1, .str x1], .tuple [s2, .str x2]]) := rfl
      refine vLst_ok (lComp_ok (src_seq (d := .tuple [.tuple [s1, .str x1], .tuple [s2, .str x2]]) (by simp_arith [hc]) rfl) (by simp) rfl ?_)
      have := c1 _ _ (c2 [] [] rfl)
      rw [List.append_nil] at this
      rw [List.map_append]
      exact this
    · obtain ⟨e1, _⟩ := eqv_sgN (toN hs1)
      obtain ⟨e2, _⟩ := eqv_sgN (toN hs2)
      show (PyData.eqv (.str "mark") (.str "mark") && (PyData.eqv (idP (t, h)) (idP (t, h)) && (PyData.eqv (.str nme) (.str nme) && ((PyData.eqv s1 s1 && (PyData.eqv (.str x1) (.str x1) && true)) && ((PyData.eqv s2 s2 && (PyData.eqv (.str x2) (.str x2) && true)) && true))))) = true
      rw [sS, sS, sS, sS, eqvId, e1, e2]; simp
    · obtain ⟨_, e1⟩ := eqv_sgN (toN hs1)
      obtain ⟨_, e3⟩ := eqv_sgN (toN hs2)
      have e2 := depthId t h
      simp only [PyData.depth, PyData.depthAll] at e2 ⊢
      omega
  · obtain ⟨out, ps, l, o1, o2, o3, nm, sn, hq⟩ := named_of hS (d := .tuple [.str "unmark", idD t h, .str nme]) (raw := []) (fun s hs => nomatch hs) (by simp) (by simp_arith [ix0, neS k4]) (by
      rw [sIf_f (by simp_arith [ix0, neS k7]), sIf_f (by simp_arith [ix0, neS k10]), sIf_f (by simp_arith [ix0, neS k12])]; rfl)
    refine ⟨ps, dIdx1 _ _ _, ok, nm, ?_, l, ?_, ?_, sn, ⟨_, _, rfl⟩⟩
    · have key : ∀ q, ¬ q ∈ ps := fun q => by
        rw [hq]
        rintro ⟨n, hn⟩; exact nomatch (o3 _ hn)
      refine ⟨[], ?_, by simp, fun q => by simp [key q]⟩
      refine fn_rt ?_
      unfold sem__law_named N__law_named
      simp only [startD, List.map_cons, List.map_nil, List.length_cons, List.length_nil, List.replicate, List.cons_append, List.nil_append, Nat.reduceAdd, Nat.reduceSub]
      rw [sSeq_if_f (by simp_arith [ix0, neS k4]), sSeq_if_f (by simp_arith [ix0, neS k7]), sSeq_if_f (by simp_arith [ix0, neS k10])]
      refine sRet_ok ?_
      have hc : dCut (.tuple [.str "unmark", idD t h, .str nme]) (some 3) none = some (.tuple []) := rfl
      exact vLst_ok (lComp_ok (ds := []) (src_seq (d := .tuple []) (by simp_arith [hc]) rfl) (by simp) rfl rfl)
    · show (PyData.eqv (.str "unmark") (.str "unmark") && (PyData.eqv (idP (t, h)) (idP (t, h)) && (PyData.eqv (.str nme) (.str nme) && true))) = true
      rw [sS, sS, eqvId]; simp
    · have e2 := depthId t h
      simp only [PyData.depth, PyData.depthAll] at e2 ⊢
      omega
  · obtain ⟨p, rfl⟩ := hi.p
    refine ⟨[p], dIdx1 _ _ _, ok, ?_, ⟨[p], ?_, by simp, fun q => Iff.rfl⟩, by simp, ?_, ?_, ⟨[], signs_undo _ _, by simp, fun s hs => nomatch hs⟩, ⟨_, _, rfl⟩⟩
    · refine fn_rt ?_
      unfold sem_deeds_named N_deeds_named
      simp only [startD, List.map_cons, List.map_nil, List.length_cons, List.length_nil, List.replicate, List.cons_append, List.nil_append, Nat.reduceAdd, Nat.reduceSub]
      refine sSeq_rt ((sIf_t (by simp_arith [ix0, eqS'])).trans (sRet_ok ?_))
      simp_arith [dIdx2]
    · refine fn_rt ?_
      unfold sem__law_named N__law_named
      simp only [startD, List.map_cons, List.map_nil, List.length_cons, List.length_nil, List.replicate, List.cons_append, List.nil_append, Nat.reduceAdd, Nat.reduceSub]
      refine sSeq_rt ((sIf_t (by simp_arith [ix0, eqS'])).trans (sRet_ok ?_))
      simp_arith [dIdx2]
    · show (PyData.eqv (.str "undo") (.str "undo") && (PyData.eqv (idP (t, h)) (idP (t, h)) && (PyData.eqv (idP p) (idP p) && true))) = true
      rw [sS, eqvId, eqvId]; simp
    · have e2 := depthId t h
      have e3 := depthP p
      simp only [PyData.depth, PyData.depthAll] at e2 e3 ⊢
      omega
end Sm
set_option autoImplicit false
set_option linter.all false
set_option maxRecDepth 10000
open PySem
namespace Sm
open L2
local macro_rules
  | `(tactic| simp_arith) => `(tactic| simp_arith [ok_bind])
  | `(tactic| simp_arith [$ls,*]) => `(tactic| simp only [$ls,*, fnD_eq, startD, sSeq_eq, seq_nx, seq_rt, seq_exc, fin_rt, fin_nx, fin_exc, sIf_eq, cVal, b2, b1, vVar_eq, slotV_sh, vLst, vTup, aNil, aCons, vC, ok_bind, exc_bind, ofO_some, thenS_ok, thenS_exc, sRet, sSet, sOwn, sNew, sNext, vFn, vCall, vCall0, noX, cAnd, cOr, cNot, sFor, sExp, sFz, oSome, oNone, vSl, vJoin, cTrue, cFz, truD_bool,
  List.map_cons, List.map_nil, List.length_cons, List.length_nil, List.replicate, List.cons_append, List.nil_append, List.append_nil, List.getElem?_cons_zero, List.getElem?_cons_succ, List.set_cons_zero, List.set_cons_succ, Nat.reduceAdd, Nat.reduceSub, Nat.zero_add, if_true, if_false, Bool.false_eq_true, Bool.true_eq_false, reduceIte])
abbrev Ent := PyData × IdP × List IdP
abbrev Bk (S : PyData → Prop) (L : List Ent) : Prop := ∀ e ∈ L, DK S e.1 e.2.1 e.2.2
variable {S : PyData → Prop}
theorem book_dk (hS : ∀ x, S x → isSg x) : ∀ (L0 : List (PyData × IdP)), (∀ e ∈ L0, Wf (QI e.2) S e.1) → ∃ L : List Ent, L.map (fun e => (e.1, e.2.1)) = L0 ∧ Bk S L
  | [], _ => ⟨[], rfl, fun _ h => nomatch h⟩
  | d :: ds, h => by
    obtain ⟨ps, k⟩ := dk_of hS (h d (.head _))
    obtain ⟨L, e, hL⟩ := book_dk hS ds fun x hx => h x (.tail _ hx)
    exact ⟨(d.1, d.2, ps) :: L, by simp [e], fun x hx => by
      rcases List.mem_cons.mp hx with rfl | hx
      · exact k
      · exact hL x hx⟩
structure Book (L : List Ent) : Prop where
  bk : Bk (SgOf (L.map (·.1))) L
  up : L.Pairwise fun a b => key a.2.1 < key b.2.1
  len : L.length ≤ 9
theorem book_book (ns : List Int) (hns : ns.length ≤ 63) (x y z : Str) : ∃ L, m__law_book [scr ns, .int 10, .int 9, .list [.str x, .str y, .str z]] = .ok (.tuple (L.map (·.1))) ∧ Book L := by
  obtain ⟨L0, e, hl, hB⟩ := book_ok ns hns x y z
  obtain ⟨L, eL, hL⟩ := book_dk (fun x h => h.sg) L0 hB.1
  have e1 : L0.map (·.1) = L.map (·.1) := by rw [← eL, List.map_map]; rfl
  refine ⟨L, by rw [e, e1], by rw [← e1]; exact hL, ?_, by rw [← eL, List.length_map] at hl; exact hl⟩
  have := hB.2
  rw [← eL, List.pairwise_map] at this
  exact this
theorem bools_any (ps : List IdP) (f : IdP → Bool) : boolsOf (ps.map fun x => PyData.bool (f x)) = some (ps.map f) := by
  induction ps with
  | nil => rfl
  | cons p ps ih => show (boolsOf _).map _ = _; rw [ih]; rfl
theorem comp_ids {δc : Dn} {el : Dn → Res PyData} (f : IdP → PyData) (h : ∀ q : IdP, el ([.sh (idP q)] ++ δc) = .ok (f q)) : ∀ ps : List IdP, compRun bind1 δc cTrue el (ps.map idP) = .ok (ps.map f)
  | [] => rfl
  | p :: ps => by
    rw [List.map_cons]
    unfold compRun
    simp only [bind1, cTrue, h p, comp_ids f h ps, List.map_cons]
theorem comp_fids {δc : Dn} {tt : Dn → Res Bool} (f : IdP → Bool) (h : ∀ q : IdP, tt ([.sh (idP q)] ++ δc) = .ok (f q)) : ∀ ps : List IdP, compRun bind1 δc tt (vVar 0) (ps.map idP) = .ok ((ps.filter f).map idP)
  | [] => rfl
  | p :: ps => by
    have v : vVar 0 ([.sh (idP p)] ++ δc) = .ok (idP p) := rfl
    rw [List.map_cons]
    unfold compRun
    cases e : f p with
    | true => simp only [bind1, h p, e, v, comp_fids f h ps, List.filter_cons_of_pos e, List.map_cons]
    | false => simp only [bind1, h p, e, comp_fids f h ps, List.filter_cons_of_neg (by simp [e] : ¬ f p = true)]
theorem comp_ent {δc : Dn} {tt : Dn → Res Bool} (f : Ent → Bool) : ∀ L : List Ent, (∀ e ∈ L, tt ([.sh e.1] ++ δc) = .ok (f e)) → compRun bind1 δc tt (vVar 0) (L.map (·.1)) = .ok ((L.filter f).map (·.1))
  | [], _ => rfl
  | p :: ps, h => by
    have v : vVar 0 ([.sh p.1] ++ δc) = .ok p.1 := rfl
    have ih := comp_ent f ps fun e he => h e (.tail _ he)
    have hp := h p (.head _)
    rw [List.map_cons]
    unfold compRun
    cases e : f p with
    | true => simp only [bind1, hp, e, v, ih, List.filter_cons_of_pos e, List.map_cons]
    | false => simp only [bind1, hp, e, ih, List.filter_cons_of_neg (by simp [e] : ¬ f p = true)]
theorem comp_eid {δc : Dn} : ∀ L : List Ent, Bk S L → compRun bind1 δc cTrue (b2 (vVar 0) (vC (.int 1)) dIx) (L.map (·.1)) = .ok ((L.map (·.2.1)).map idP)
  | [], _ => rfl
  | p :: ps, h => by
    have v : (b2 (vVar 0) (vC (.int 1)) dIx) ([.sh p.1] ++ δc) = .ok (idP p.2.1) := by simp_arith [(h p (.head _)).id]
    have ih := comp_eid (δc := δc) ps fun e he => h e (.tail _ he)
    rw [List.map_cons]
    unfold compRun
    simp only [bind1, cTrue, v, ih, List.map_cons]
theorem sLt {n : Nat} (h : n < 1000) : n < sizeLine := Nat.lt_of_lt_of_le h szBig
theorem hj_ix {t : Int} {h : Str} (ok : okI t h) : dIndex "abcdefgh" (.str h) = some (.int (hj h : Nat)) ∧ hj h < 8 := by
  rcases ok.2.2 with rfl | rfl | rfl <;> exact ⟨by kernel_rfl, by decide +kernel⟩
theorem idx_ok {δ : Dn} {f : Dn → Res PyData} {t : Int} {h : Str} (ok : okI t h) (e : f δ = .ok (.str h)) : vIndexE (vC (.str "abcdefgh")) f δ = .ok (.int (hj h : Nat)) := by
  unfold vIndexE vC
  rw [ok_bind]
  simp only
  rw [e, ok_bind, (hj_ix ok).1]; rfl
def Clk (c : List Int) : Prop := c.length = 8 ∧ ∀ x ∈ c, 0 ≤ x ∧ x ≤ 100
abbrev clk (c : List Int) : PyData := .tuple (c.map .int)
theorem maxI2 (a b : Int) : dMax [.int a, .int b] = some (.int (if a < b then b else a)) := rfl
def bodyK : Dn → Out := (sIf (cVal (b2 (vCall (aCons (vVar 0) (aCons (b2 (vVar 1) (vVar 4) dAdd) (aCons (vC (.int 2)) aNil))) m__law_drawn) (vC (.int 0)) dEq)) (sSeq (sSet 6 (vIndexE (vC (.str "abcdefgh")) (b2 (b2 (vVar 5) (vC (.int 1)) dIx) (vC (.int 1)) dIx))) (sPutL 3 (vVar 6) (vFz 3 (vFn (aCons (b2 (vVar 3) (vVar 6) dIx) (aCons (b2 (b2 (vVar 5) (vC (.int 1)) dIx) (vC (.int 0)) dIx) aNil)) dMax)))) sNext)
theorem clock_step (ns : List Int) (hns : ns.length ≤ 63) (a : Int) (ha : 0 ≤ a) (ha2 : a < 10000) (B d : PyData) (p : IdP) (ps : List IdP) (k : DK S d p ps) (i : Nat) (hi : i < 100) (c : List Int) (hc : Clk c) (s6 : Sl) :
    ∃ c' s6', Clk c' ∧ bodyK [.sh (scr ns), .sh (.int a), .sh B, .ow (.list (c.map .int)), .sh (.int i), .sh d, s6] = .nx [.sh (scr ns), .sh (.int a), .sh B, .ow (.list (c'.map .int)), .sh (.int i), .sh d, s6'] := by
  obtain ⟨r, e, r1, r2⟩ := drawn_ok ns hns (a + i) 2 (by omega) (by omega) (by decide)
  by_cases hr : r = 0
  · have hj' := hj_ix k.ok
    have hlt : hj p.2 < c.length := by rw [hc.1]; exact hj'.2
    refine ⟨c.set (hj p.2) (if c[hj p.2] < p.1 then p.1 else c[hj p.2]), .sh (.int (hj p.2 : Nat)), ⟨by rw [List.length_set]; exact hc.1, fun x hx => ?_⟩, ?_⟩
    · rcases List.mem_or_eq_of_mem_set hx with z | z
      · exact hc.2 x z
      · have b1 := hc.2 _ (List.getElem_mem hlt)
        have b2 := k.ok
        unfold okI at b2
        rw [z]; split <;> omega
    · unfold bodyK
      rw [sIf_t (by simp_arith [addI, e, dEqI, hr]; rfl)]
      rw [sSeq_nx (sSet_ok (idx_ok k.ok (by simp_arith [k.id, dIdx1])))]
      simp only [List.set_cons_zero, List.set_cons_succ]
      have hat : dIx (.list (c.map .int)) (.int (hj p.2 : Nat)) = some (.int c[hj p.2]) := by
        show atI (c.map PyData.int) _ = _
        rw [atI_nat (by rw [List.length_map]; exact hlt)]; simp
      have hv : vFz 3 (vFn (aCons (b2 (vVar 3) (vVar 6) dIx) (aCons (b2 (b2 (vVar 5) (vC (.int 1)) dIx) (vC (.int 0)) dIx) aNil)) dMax) [.sh (scr ns), .sh (.int a), .sh B, .ow (.list (c.map .int)), .sh (.int i), .sh d, .sh (.int (hj p.2 : Nat))] = .ok (.int (if c[hj p.2] < p.1 then p.1 else c[hj p.2])) := by
        unfold vFz
        have hf : fz 3 [.sh (scr ns), .sh (.int a), .sh B, .ow (.list (c.map .int)), .sh (.int i), .sh d, .sh (.int (hj p.2 : Nat))] = [.sh (scr ns), .sh (.int a), .sh B, .sh (.list (c.map .int)), .sh (.int i), .sh d, .sh (.int (hj p.2 : Nat))] := rfl
        rw [hf]
        simp_arith [hat, k.id, ix0, maxI2]
        rfl
      unfold sPutL
      simp only [List.getElem?_cons_zero, List.getElem?_cons_succ]
      rw [hv, thenS_ok]
      rw [show vVar 6 [.sh (scr ns), .sh (.int a), .sh B, .ow (.list (c.map .int)), .sh (.int i), .sh d, .sh (.int (hj p.2 : Nat))] = .ok (.int (hj p.2 : Nat)) from rfl, thenS_ok]
      simp only [List.length_map, ixN_nat hlt, List.set_cons_zero, List.set_cons_succ]
      rw [List.map_set]
  · refine ⟨c, s6, hc, ?_⟩
    unfold bodyK
    rw [sIf_f (by simp_arith [addI, e, dEqI]; rw [show (r == 0) = false from by simp [hr]])]
    rfl
end Sm
set_option autoImplicit false
set_option linter.all false
set_option maxRecDepth 10000
open PySem
namespace Sm
open L2
local macro_rules
  | `(tactic| simp_arith) => `(tactic| simp_arith [ok_bind])
  | `(tactic| simp_arith [$ls,*]) => `(tactic| simp only [$ls,*, fnD_eq, startD, sSeq_eq, seq_nx, seq_rt, seq_exc, fin_rt, fin_nx, fin_exc, sIf_eq, cVal, b2, b1, vVar_eq, slotV_sh, vLst, vTup, aNil, aCons, vC, ok_bind, exc_bind, ofO_some, thenS_ok, thenS_exc, sRet, sSet, sOwn, sNew, sNext, vFn, vCall, vCall0, noX, cAnd, cOr, cNot, sFor, sExp, sFz, oSome, oNone, vSl, vJoin, cTrue, cFz, truD_bool,
  List.map_cons, List.map_nil, List.length_cons, List.length_nil, List.replicate, List.cons_append, List.nil_append, List.append_nil, List.getElem?_cons_zero, List.getElem?_cons_succ, List.set_cons_zero, List.set_cons_succ, Nat.reduceAdd, Nat.reduceSub, Nat.zero_add, if_true, if_false, Bool.false_eq_true, Bool.true_eq_false, reduceIte])
variable {S : PyData → Prop}
theorem clock_loop (ns : List Int) (hns : ns.length ≤ 63) (a : Int) (ha : 0 ≤ a) (ha2 : a < 10000) (B : PyData) : ∀ (l : List PyData), (∀ x ∈ l, ∃ (i : Nat) (d : PyData) (p : IdP) (ps : List IdP), x = .tuple [.int i, d] ∧ i < 100 ∧ DK S d p ps) →
    ∀ (c : List Int) (s4 s5 s6 : Sl), Clk c → ∃ (c' : List Int) (s4' s5' s6' : Sl), Clk c' ∧
      runFor (st2 4 5) bodyK l [.sh (scr ns), .sh (.int a), .sh B, .ow (.list (c.map .int)), s4, s5, s6] = .nx [.sh (scr ns), .sh (.int a), .sh B, .ow (.list (c'.map .int)), s4', s5', s6']
  | [], _, c, s4, s5, s6, hc => ⟨c, s4, s5, s6, hc, rfl⟩
  | x :: l, h, c, s4, s5, s6, hc => by
    obtain ⟨i, d, p, ps, rfl, hi, k⟩ := h x (.head _)
    obtain ⟨c1, s6', hc1, e1⟩ := clock_step ns hns a ha ha2 B d p ps k i hi c hc s6
    obtain ⟨c2, t4, t5, t6, hc2, e2⟩ := clock_loop ns hns a ha ha2 B l (fun y hy => h y (.tail _ hy)) c1 (.sh (.int i)) (.sh d) s6' hc1
    refine ⟨c2, t4, t5, t6, hc2, ?_⟩
    unfold runFor
    have hst : st2 4 5 (.tuple [.int i, d]) [.sh (scr ns), .sh (.int a), .sh B, .ow (.list (c.map .int)), s4, s5, s6] = some [.sh (scr ns), .sh (.int a), .sh B, .ow (.list (c.map .int)), .sh (.int i), .sh d, s6] := rfl
    rw [hst]
    simp only [e1]
    exact e2
theorem lawclock_ok (ns : List Int) (hns : ns.length ≤ 63) (a : Int) (ha : 0 ≤ a) (ha2 : a < 10000) (L : List Ent) (hB : Bk S L) (hl : L.length ≤ 9) :
    ∃ c, Clk c ∧ m__law_clock [scr ns, .int a, .tuple (L.map (·.1))] = .ok (clk c) := by
  have hmem : ∀ x ∈ enumD (L.map (·.1)), ∃ (i : Nat) (d : PyData) (p : IdP) (ps : List IdP), x = .tuple [.int i, d] ∧ i < 100 ∧ DK S d p ps := fun x hx => by
    obtain ⟨i, d, hi, hd, rfl⟩ := enum_mem hx
    obtain ⟨e, he, rfl⟩ := List.mem_map.mp hd
    exact ⟨i, e.1, e.2.1, e.2.2, rfl, by rw [List.length_map] at hi; omega, hB e he⟩
  have c0 : Clk [0, 0, 0, 0, 0, 0, 0, 0] := ⟨rfl, by decide⟩
  obtain ⟨c, s4, s5, s6, hc, e⟩ := clock_loop ns hns a ha ha2 (.tuple (L.map (·.1))) _ hmem _ .un .un .un c0
  refine ⟨c, hc, fn_rt ?_⟩
  unfold sem__law_clock N__law_clock
  simp only [startD, List.map_cons, List.map_nil, List.length_cons, List.length_nil, List.replicate, List.cons_append, List.nil_append, Nat.reduceAdd, Nat.reduceSub]
  have h1 : sOwn 3 (lMul (vLst (aCons (vC (.int 0)) aNil)) (vC (.int 8))) [.sh (scr ns), .sh (.int a), .sh (.tuple (L.map (·.1))), .un, .un, .un, .un] = .nx [.sh (scr ns), .sh (.int a), .sh (.tuple (L.map (·.1))), .ow (.list ([0, 0, 0, 0, 0, 0, 0, 0].map PyData.int)), .un, .un, .un] := rfl
  rw [sSeq_nx h1]
  have h2 : sFor (fun δ => ((aCons (vVar 2) aNil) δ).bind enumX) (st2 4 5) bodyK [.sh (scr ns), .sh (.int a), .sh (.tuple (L.map (·.1))), .ow (.list ([0, 0, 0, 0, 0, 0, 0, 0].map PyData.int)), .un, .un, .un] = .nx [.sh (scr ns), .sh (.int a), .sh (.tuple (L.map (·.1))), .ow (.list (c.map .int)), s4, s5, s6] := e
  unfold bodyK at h2
  rw [sSeq_nx h2]
  rfl
end Sm
set_option autoImplicit false
set_option linter.all false
set_option maxRecDepth 10000
open PySem
namespace Sm
open L2
local macro_rules
  | `(tactic| simp_arith) => `(tactic| simp_arith [ok_bind])
  | `(tactic| simp_arith [$ls,*]) => `(tactic| simp only [$ls,*, fnD_eq, startD, sSeq_eq, seq_nx, seq_rt, seq_exc, fin_rt, fin_nx, fin_exc, sIf_eq, cVal, b2, b1, vVar_eq, slotV_sh, vLst, vTup, aNil, aCons, vC, ok_bind, exc_bind, ofO_some, thenS_ok, thenS_exc, sRet, sSet, sOwn, sNew, sNext, vFn, vCall, vCall0, noX, cAnd, cOr, cNot, sFor, sExp, sFz, oSome, oNone, vSl, vJoin, cTrue, cFz, truD_bool,
  List.map_cons, List.map_nil, List.length_cons, List.length_nil, List.replicate, List.cons_append, List.nil_append, List.append_nil, List.getElem?_cons_zero, List.getElem?_cons_succ, List.set_cons_zero, List.set_cons_succ, Nat.reduceAdd, Nat.reduceSub, Nat.zero_add, if_true, if_false, Bool.false_eq_true, Bool.true_eq_false, reduceIte])
variable {S : PyData → Prop}
def hands : List Str := ["a", "b", "c", "d", "e", "f", "g", "h"]
theorem hands_eq : signsD "abcdefgh" = hands.map PyData.str := by kernel_rfl
def times (L : List Ent) (y : Str) : List Int := (L.filter fun e => e.2.1.2 == y).map (·.2.1.1)
def dueF (L : List Ent) : List Int := hands.map fun y => (times L y).foldl max 0
theorem comp_map {α : Type} {δc : Dn} {el : Dn → Res PyData} (g f : α → PyData) (h : ∀ y : α, el ([.sh (g y)] ++ δc) = .ok (f y)) : ∀ ys : List α, compRun bind1 δc cTrue el (ys.map g) = .ok (ys.map f)
  | [] => rfl
  | y :: ys => by
    rw [List.map_cons]
    unfold compRun
    simp only [bind1, cTrue, h y, comp_map g f h ys, List.map_cons]
theorem ints_map (is : List Int) : intsOf (is.map PyData.int) = some is := by
  induction is with
  | nil => rfl
  | cons i is ih => show (intsOf _).map _ = _; rw [ih]; rfl
theorem inner_ok (y : Str) (δ : Dn) : ∀ (L : List Ent), Bk S L → compRun bind1 (.sh (.str y) :: δ) (cVal (b2 (b2 (b2 (vVar 0) (vC (.int 1)) dIx) (vC (.int 1)) dIx) (vVar 1) dEq)) (b2 (b2 (vVar 0) (vC (.int 1)) dIx) (vC (.int 0)) dIx) (L.map (·.1)) = .ok ((times L y).map .int)
  | [], _ => rfl
  | e :: L, h => by
    have k := h e (.head _)
    have ih := inner_ok y δ L fun x hx => h x (.tail _ hx)
    have t1 : (cVal (b2 (b2 (b2 (vVar 0) (vC (.int 1)) dIx) (vC (.int 1)) dIx) (vVar 1) dEq)) ([.sh e.1] ++ .sh (.str y) :: δ) = .ok (e.2.1.2 == y) := by simp_arith [k.id, dIdx1, dEqS]
    have t2 : (b2 (b2 (vVar 0) (vC (.int 1)) dIx) (vC (.int 0)) dIx) ([.sh e.1] ++ .sh (.str y) :: δ) = .ok (.int e.2.1.1) := by simp_arith [k.id, ix0]
    rw [List.map_cons]
    unfold compRun times
    cases q : e.2.1.2 == y with
    | true => simp only [bind1, t1, t2, q, ih, List.filter_cons_of_pos (p := fun e : Ent => e.2.1.2 == y) (by exact q), List.map_cons]; rfl
    | false =>
      have hf : (e :: L).filter (fun e : Ent => e.2.1.2 == y) = L.filter (fun e : Ent => e.2.1.2 == y) := by rw [List.filter_cons, if_neg (by rw [q]; decide)]
      simp only [bind1, t1, q, ih, hf]; rfl
theorem times_le {L : List Ent} (hB : Bk S L) (y : Str) : ∀ x ∈ times L y, 1 ≤ x ∧ x ≤ 10 := fun x hx => by
  obtain ⟨e, he, rfl⟩ := List.mem_map.mp hx
  have := (hB e (List.mem_filter.mp he).1).ok
  exact ⟨this.1, this.2.1⟩
theorem times_len (L : List Ent) (y : Str) : (times L y).length ≤ L.length := by unfold times; rw [List.length_map]; exact List.length_filter_le _ _
theorem foldl_bd : ∀ (r : List Int) (i : Int), 0 ≤ i → i ≤ 100 → (∀ x ∈ r, 1 ≤ x ∧ x ≤ 10) → 0 ≤ r.foldl max i ∧ r.foldl max i ≤ 100
  | [], i, h1, h2, _ => ⟨h1, h2⟩
  | a :: r, i, h1, h2, h => foldl_bd r (max i a) (by omega) (by have := h a (.head _); omega) fun x hx => h x (.tail _ hx)
theorem due_clk {L : List Ent} (hB : Bk S L) : Clk (dueF L) := by
  refine ⟨rfl, fun x hx => ?_⟩
  obtain ⟨y, _, rfl⟩ := List.mem_map.mp hx
  exact foldl_bd _ 0 (by decide) (by decide) (times_le hB y)
theorem due_ok (L : List Ent) (hB : Bk S L) (hl : L.length ≤ 9) (i : Nat) (δ : Dn) (hi : capD δ [i] = [.sh (.tuple (L.map (·.1)))]) :
    (vFn (aCons (vLst (lComp (fun δ => ((vC (.str "abcdefgh")) δ).bind seqOf) bind1 [i] cTrue (vFn (aCons (b2 (vLst (aCons (vC (.int 0)) aNil)) (vLst (lComp (fun δ => ((vVar 1) δ).bind seqOf) bind1 [0] (cVal (b2 (b2 (b2 (vVar 0) (vC (.int 1)) dIx) (vC (.int 1)) dIx) (vVar 1) dEq)) (b2 (b2 (vVar 0) (vC (.int 1)) dIx) (vC (.int 0)) dIx))) dAdd) aNil) dMaxL))) aNil) dTupF) δ = .ok (clk (dueF L)) := by
  have hel : ∀ y : Str, (vFn (aCons (b2 (vLst (aCons (vC (.int 0)) aNil)) (vLst (lComp (fun δ => ((vVar 1) δ).bind seqOf) bind1 [0] (cVal (b2 (b2 (b2 (vVar 0) (vC (.int 1)) dIx) (vC (.int 1)) dIx) (vVar 1) dEq)) (b2 (b2 (vVar 0) (vC (.int 1)) dIx) (vC (.int 0)) dIx))) dAdd) aNil) dMaxL) ([.sh (.str y)] ++ [.sh (.tuple (L.map (·.1)))]) = .ok (.int ((times L y).foldl max 0)) := fun y => by
    have hadd : dAdd (.list [.int 0]) (.list ((times L y).map .int)) = some (.list ((0 :: times L y).map .int)) := by
      have : ([PyData.int 0] ++ (times L y).map PyData.int).length ≤ sizeLine := by
        have := times_len L y
        simp only [List.length_append, List.length_map, List.length_cons, List.length_nil]
        exact Nat.le_trans (show _ ≤ 1000 by omega) (by decide)
      simp only [dAdd]
      first | rfl | (rw [if_pos this]; rfl) | (simp_all; omega)
    refine vFn_ok (aCons_ok (b2_ok (vLst_ok (aCons_ok rfl rfl)) (vLst_ok (lComp_ok (ds := L.map (·.1)) (δc := [.sh (.str y)]) (src_seq rfl rfl) (by rw [List.length_map]; omega) rfl (inner_ok y [] L hB))) hadd) rfl) ?_
    show ((intsOf _).bind maxI).map PyData.int = _
    rw [ints_map]; rfl
  refine vFn_ok (aCons_ok (vLst_ok (lComp_ok (ds := hands.map PyData.str) (src_seq rfl (by show Res.ok (signsD _) = _; rw [hands_eq])) (by decide) hi (comp_map PyData.str (fun y => .int ((times L y).foldl max 0)) hel hands))) rfl) ?_
  unfold dueF clk
  rw [List.map_map]; rfl
end Sm
set_option autoImplicit false
set_option linter.all false
set_option maxRecDepth 10000
open PySem
namespace Sm
open L2
local macro_rules
  | `(tactic| simp_arith) => `(tactic| simp_arith [ok_bind])
  | `(tactic| simp_arith [$ls,*]) => `(tactic| simp only [$ls,*, fnD_eq, startD, sSeq_eq, seq_nx, seq_rt, seq_exc, fin_rt, fin_nx, fin_exc, sIf_eq, cVal, b2, b1, vVar_eq, slotV_sh, vLst, vTup, aNil, aCons, vC, ok_bind, exc_bind, ofO_some, thenS_ok, thenS_exc, sRet, sSet, sOwn, sNew, sNext, vFn, vCall, vCall0, noX, cAnd, cOr, cNot, sFor, sExp, sFz, oSome, oNone, vSl, vJoin, cTrue, cFz, truD_bool,
  List.map_cons, List.map_nil, List.length_cons, List.length_nil, List.replicate, List.cons_append, List.nil_append, List.append_nil, List.getElem?_cons_zero, List.getElem?_cons_succ, List.set_cons_zero, List.set_cons_succ, Nat.reduceAdd, Nat.reduceSub, Nat.zero_add, if_true, if_false, Bool.false_eq_true, Bool.true_eq_false, reduceIte])
variable {S : PyData → Prop}
def goodKv (kvs : List (PyData × PyData)) : Prop := ∀ q ∈ kvs, ∃ k : List Key, q.1 = .tuple (k.map keyD)
theorem getKv_nil (kk : List Key) : getKv [] kk = none := rfl
theorem getKv_cons (k kk : List Key) (v : PyData) (r : List (PyData × PyData)) : getKv ((.tuple (k.map keyD), v) :: r) kk = if k = kk then some v else getKv r kk := by
  unfold getKv
  rw [List.find?_cons]
  simp only [keyT_map]
  by_cases h : k = kk
  · simp [h]
  · simp [h]
theorem getKv_map (kk j : List Key) (v : PyData) : ∀ (kvs : List (PyData × PyData)), goodKv kvs → getKv (kvs.map fun q => if keyT q.1 = some kk then (q.1, v) else q) j = if j = kk then (getKv kvs j).map (fun _ => v) else getKv kvs j
  | [], _ => by simp [getKv_nil]
  | (a, b) :: r, h => by
    obtain ⟨k, e⟩ := h (a, b) (.head _)
    simp only at e
    subst e
    have ih := getKv_map kk j v r fun q hq => h q (.tail _ hq)
    rw [List.map_cons]
    simp only [keyT_map, Option.some.injEq]
    by_cases h1 : k = kk
    · subst h1
      rw [if_pos rfl, getKv_cons, getKv_cons, ih]
      by_cases h2 : k = j
      · subst h2; simp
      · rw [if_neg h2, if_neg h2]
    · rw [if_neg h1, getKv_cons, getKv_cons, ih]
      by_cases h2 : k = j
      · subst h2; simp [h1]
      · rw [if_neg h2, if_neg h2]
theorem getKv_snoc (k j : List Key) (v : PyData) : ∀ (kvs : List (PyData × PyData)), goodKv kvs → getKv (kvs ++ [(.tuple (k.map keyD), v)]) j = (getKv kvs j).or (if k = j then some v else none)
  | [], _ => by rw [List.nil_append, getKv_cons, getKv_nil]; simp
  | (a, b) :: r, h => by
    obtain ⟨k', e⟩ := h (a, b) (.head _)
    simp only at e
    subst e
    rw [List.cons_append, getKv_cons, getKv_cons, getKv_snoc k j v r fun q hq => h q (.tail _ hq)]
    by_cases h2 : k' = j
    · simp [h2]
    · rw [if_neg h2, if_neg h2]
theorem goodKv.put {kvs : List (PyData × PyData)} (h : goodKv kvs) (kk : List Key) (v : PyData) : goodKv (putKv kvs kk v) ∧ (putKv kvs kk v).length ≤ kvs.length + 1 ∧ ∀ j, getKv (putKv kvs kk v) j = if j = kk then some v else getKv kvs j := by
  unfold putKv
  split
  · rename_i hs
    refine ⟨fun q hq => ?_, by simp, fun j => ?_⟩
    · obtain ⟨q', hq', rfl⟩ := List.mem_map.mp hq
      split
      · exact h q' hq'
      · exact h q' hq'
    · rw [getKv_map kk j v kvs h]
      by_cases hj : j = kk
      · subst hj
        rw [if_pos rfl, if_pos rfl]
        cases q : getKv kvs j with
        | none => rw [q] at hs; cases hs
        | some x => rfl
      · rw [if_neg hj, if_neg hj]
  · rename_i hs
    refine ⟨fun q hq => ?_, by simp, fun j => ?_⟩
    · rcases List.mem_append.mp hq with z | z
      · exact h q z
      · rw [List.mem_singleton.mp z]; exact ⟨kk, rfl⟩
    · rw [getKv_snoc kk j v kvs h]
      by_cases hj : j = kk
      · subst hj
        rw [if_pos rfl, if_pos rfl]
        cases q : getKv kvs j with
        | none => rfl
        | some x => rw [q] at hs; exact absurd rfl hs
      · rw [if_neg hj, if_neg (Ne.symm hj), Option.or_none]
def lastT (M : List Ent) (y : Str) : Option Int := (times M y).getLast?
theorem times_snoc (M : List Ent) (e : Ent) (y : Str) : times (M ++ [e]) y = times M y ++ if e.2.1.2 = y then [e.2.1.1] else [] := by
  unfold times
  rw [List.filter_append, List.map_append]
  congr 1
  by_cases h : e.2.1.2 = y
  · rw [if_pos h, List.filter_cons_of_pos (by simp [h])]; rfl
  · rw [if_neg h, List.filter_cons_of_neg (by simp [h])]; rfl
theorem lastT_snoc (M : List Ent) (e : Ent) (y : Str) : lastT (M ++ [e]) y = if e.2.1.2 = y then some e.2.1.1 else lastT M y := by
  unfold lastT
  rw [times_snoc]
  split
  · simp
  · rw [List.append_nil]
def bodyT : Dn → Out := sPutK 1 (b2 (b2 (vVar 2) (vC (.int 1)) dIx) (vC (.int 1)) dIx) (b2 (b2 (vVar 2) (vC (.int 1)) dIx) (vC (.int 0)) dIx)
structure TimesOk (M : List Ent) (kvs : List (PyData × PyData)) : Prop where
  gd : goodKv kvs
  len : kvs.length ≤ M.length
  get : ∀ y : Str, getKv kvs [.inr y] = (lastT M y).map .int
theorem times_step {M : List Ent} {kvs : List (PyData × PyData)} (T : TimesOk M kvs) (hM : M.length ≤ 9) (e : Ent) (k : DK S e.1 e.2.1 e.2.2) (B : PyData) :
    ∃ kvs', TimesOk (M ++ [e]) kvs' ∧ bodyT [.sh B, .ow (.tuple [.dict kvs]), .sh e.1] = .nx [.sh B, .ow (.tuple [.dict kvs']), .sh e.1] := by
  obtain ⟨g1, g2, g3⟩ := T.gd.put [.inr e.2.1.2] (.int e.2.1.1)
  refine ⟨_, ⟨g1, ?_, fun y => ?_⟩, ?_⟩
  · rw [List.length_append]; have := T.len; simp only [List.length_cons, List.length_nil]; omega
  · rw [g3, T.get y, lastT_snoc]
    by_cases hy : e.2.1.2 = y
    · subst hy; simp
    · have : ¬ ([.inr y] : List Key) = [.inr e.2.1.2] := fun z => hy (by injection z with z _; injection z with z; exact z.symm)
      rw [if_neg this, if_neg hy]
  · unfold bodyT sPutK
    simp only [List.getElem?_cons_zero, List.getElem?_cons_succ]
    have v1 : (b2 (b2 (vVar 2) (vC (.int 1)) dIx) (vC (.int 0)) dIx) [.sh B, .ow (.tuple [.dict kvs]), .sh e.1] = .ok (.int e.2.1.1) := by simp_arith [k.id, ix0]
    have v2 : (b2 (b2 (vVar 2) (vC (.int 1)) dIx) (vC (.int 1)) dIx) [.sh B, .ow (.tuple [.dict kvs]), .sh e.1] = .ok (.str e.2.1.2) := by simp_arith [k.id, dIdx1]
    rw [v1, thenS_ok, v2, thenS_ok]
    have hk : keyOf [.str e.2.1.2] = some [.inr e.2.1.2] := rfl
    simp only [hk]
    rw [if_pos (sLt (by have := T.len; omega))]
    rfl
theorem times_loop (B : PyData) : ∀ (L M : List Ent) (kvs : List (PyData × PyData)) (s2 : Sl), Bk S L → M.length + L.length ≤ 9 → TimesOk M kvs → ∃ kvs' s2', TimesOk (M ++ L) kvs' ∧
    runFor (st1 2) bodyT (L.map (·.1)) [.sh B, .ow (.tuple [.dict kvs]), s2] = .nx [.sh B, .ow (.tuple [.dict kvs']), s2']
  | [], M, kvs, s2, _, _, T => ⟨kvs, s2, by rw [List.append_nil]; exact T, rfl⟩
  | e :: L, M, kvs, s2, h, hl, T => by
    simp only [List.length_cons] at hl
    obtain ⟨k1, T1, e1⟩ := times_step (S := S) T (by omega) e (h e (.head _)) B
    obtain ⟨k2, s2', T2, e2⟩ := times_loop B L (M ++ [e]) k1 (.sh e.1) (fun x hx => h x (.tail _ hx)) (by rw [List.length_append]; simp only [List.length_cons, List.length_nil]; omega) T1
    refine ⟨k2, s2', by rw [List.append_assoc] at T2; exact T2, ?_⟩
    rw [List.map_cons]
    unfold runFor
    simp only [st1, List.set_cons_zero, List.set_cons_succ]
    rw [e1]
    exact e2
theorem foldl_last : ∀ (r : List Int) (i : Int), r.Pairwise (· ≤ ·) → (∀ x ∈ r, i ≤ x) → r.foldl max i = r.getLast?.getD i
  | [], i, _, _ => rfl
  | a :: r, i, h, hi => by
    have ha := hi a (.head _)
    rw [List.pairwise_cons] at h
    rw [List.foldl_cons, show max i a = a by omega, foldl_last r a h.2 h.1, List.getLast?_cons]
    rfl
theorem times_up {L : List Ent} (h : L.Pairwise fun a b => key a.2.1 < key b.2.1) (y : Str) : (times L y).Pairwise (· ≤ ·) := by
  unfold times
  rw [List.pairwise_map]
  refine (h.filter _).imp fun {a b} z => ?_
  have l1 := hj_lt a.2.1.2
  have l2 := hj_lt b.2.1.2
  unfold key at z
  omega
theorem clockof_ok {L : List Ent} (hB : Book L) : m_clock_of [.tuple (L.map (·.1))] = .ok (clk (dueF L)) := by
  obtain ⟨kvs, s2, T, e⟩ := times_loop (.tuple (L.map (·.1))) L [] [] .un hB.bk (by simpa using hB.len) ⟨(fun _ h => nomatch h), Nat.le_refl _, fun y => rfl⟩
  rw [List.nil_append] at T
  refine fn_rt ?_
  unfold sem_clock_of N_clock_of
  simp only [startD, List.map_cons, List.map_nil, List.length_cons, List.length_nil, List.replicate, List.cons_append, List.nil_append, Nat.reduceAdd, Nat.reduceSub]
  have h1 : sDictK 1 [.sh (.tuple (L.map (·.1))), .un, .un] = .nx [.sh (.tuple (L.map (·.1))), .ow (.tuple [.dict []]), .un] := rfl
  rw [sSeq_nx h1]
  have h2 : sFor (fun δ => ((vVar 0) δ).bind seqOf) (st1 2) bodyT [.sh (.tuple (L.map (·.1))), .ow (.tuple [.dict []]), .un] = .nx [.sh (.tuple (L.map (·.1))), .ow (.tuple [.dict kvs]), s2] := e
  unfold bodyT at h2
  rw [sSeq_nx h2]
  refine sRet_ok ?_
  have hel : ∀ y : Str, vGetK 1 (vVar 0) (vC (.int 0)) ([.sh (.str y)] ++ [.ow (.tuple [.dict kvs])]) = .ok (.int ((times L y).foldl max 0)) := fun y => by
    unfold vGetK
    simp only [List.cons_append, List.nil_append, List.getElem?_cons_zero, List.getElem?_cons_succ]
    rw [show vVar 0 [.sh (.str y), .ow (.tuple [.dict kvs])] = .ok (.str y) from rfl, ok_bind, show vC (.int 0) [.sh (.str y), .ow (.tuple [.dict kvs])] = .ok (.int 0) from rfl, ok_bind]
    have hk : keyOf [.str y] = some [.inr y] := rfl
    simp only [hk]
    rw [T.get y, foldl_last _ 0 (times_up hB.up y) fun x hx => by have := (times_le hB.bk y x hx).1; omega]
    unfold lastT
    cases (times L y).getLast? <;> rfl
  refine vFn_ok (aCons_ok (vLst_ok (lComp_ok (ds := hands.map PyData.str) (src_seq rfl (by show Res.ok (signsD _) = _; rw [hands_eq])) (by decide) rfl (comp_map PyData.str (fun y => .int ((times L y).foldl max 0)) hel hands))) rfl) ?_
  unfold dueF clk
  rw [List.map_map]; rfl
end Sm
set_option autoImplicit false
set_option linter.all false
set_option maxRecDepth 10000
open PySem
namespace Sm
open L2
local macro_rules
  | `(tactic| simp_arith) => `(tactic| simp_arith [ok_bind])
  | `(tactic| simp_arith [$ls,*]) => `(tactic| simp only [$ls,*, fnD_eq, startD, sSeq_eq, seq_nx, seq_rt, seq_exc, fin_rt, fin_nx, fin_exc, sIf_eq, cVal, b2, b1, vVar_eq, slotV_sh, vLst, vTup, aNil, aCons, vC, ok_bind, exc_bind, ofO_some, thenS_ok, thenS_exc, sRet, sSet, sOwn, sNew, sNext, vFn, vCall, vCall0, noX, cAnd, cOr, cNot, sFor, sExp, sFz, oSome, oNone, vSl, vJoin, cTrue, cFz, truD_bool,
  List.map_cons, List.map_nil, List.length_cons, List.length_nil, List.replicate, List.cons_append, List.nil_append, List.append_nil, List.getElem?_cons_zero, List.getElem?_cons_succ, List.set_cons_zero, List.set_cons_succ, Nat.reduceAdd, Nat.reduceSub, Nat.zero_add, if_true, if_false, Bool.false_eq_true, Bool.true_eq_false, reduceIte])
variable {S : PyData → Prop}
def newF (c : List Int) (e : Ent) : Bool := decide (c.getD (hj e.2.1.2) 0 < e.2.1.1)
theorem clk_ix {c : List Int} (hc : Clk c) {t : Int} {h : Str} (ok : okI t h) : dIx (clk c) (.int (hj h : Nat)) = some (.int (c.getD (hj h) 0)) := by
  have hlt : hj h < c.length := by rw [hc.1]; exact (hj_ix ok).2
  show atI (c.map PyData.int) _ = _
  rw [atI_nat (by rw [List.length_map]; exact hlt)]
  simp [List.getD, hlt]
theorem newer_el {c : List Int} (hc : Clk c) {d : PyData} {p : IdP} {ps : List IdP} (k : DK S d p ps) (δ : Dn) (i j : Nat) (h1 : vVar i δ = .ok d) (h2 : vVar j δ = .ok (clk c)) :
    (b2 (b2 (b2 (vVar i) (vC (.int 1)) dIx) (vC (.int 0)) dIx) (b2 (vVar j) (vIndexE (vC (.str "abcdefgh")) (b2 (b2 (vVar i) (vC (.int 1)) dIx) (vC (.int 1)) dIx)) dIx) (dCmpS .Gt)) δ = .ok (.bool (newF c (d, p, ps))) := by
  have a1 : (b2 (vVar i) (vC (.int 1)) dIx) δ = .ok (idP p) := b2_ok h1 rfl k.id
  refine b2_ok (b2_ok a1 rfl (ix0 _ _)) (b2_ok h2 (idx_ok k.ok (b2_ok a1 rfl (dIdx1 _ _ _))) (clk_ix hc k.ok)) ?_
  rfl
theorem isnewer_ok {c : List Int} (hc : Clk c) {d : PyData} {p : IdP} {ps : List IdP} (k : DK S d p ps) : m_is_newer [d, clk c] = .ok (.bool (newF c (d, p, ps))) := by
  refine fn_rt ?_
  unfold sem_is_newer N_is_newer
  simp only [startD, List.map_cons, List.map_nil, List.length_cons, List.length_nil, List.replicate, List.cons_append, List.nil_append, Nat.reduceAdd, Nat.reduceSub]
  exact sRet_ok (newer_el hc k _ 0 1 rfl rfl)
theorem newer_ok {c : List Int} (hc : Clk c) {L : List Ent} (hB : Bk S L) (hl : L.length ≤ 9) : m_newer [.tuple (L.map (·.1)), clk c] = .ok (.list ((L.filter (newF c)).map (·.1))) := by
  refine fn_rt ?_
  unfold sem_newer N_newer
  simp only [startD, List.map_cons, List.map_nil, List.length_cons, List.length_nil, List.replicate, List.cons_append, List.nil_append, Nat.reduceAdd, Nat.reduceSub]
  refine sRet_ok (vLst_ok (lComp_ok (src_seq rfl rfl) (by rw [List.length_map]; omega) rfl (comp_ent (newF c) L fun e he => ?_)))
  exact cVal_ok (vCall_ok (aCons_ok rfl (aCons_ok rfl rfl)) (isnewer_ok hc (hB e he)))
theorem fresh_ok {c : List Int} (hc : Clk c) {L : List Ent} (hB : Bk S L) (hl : L.length ≤ 9) (i j : Nat) (δ : Dn) (h1 : vVar i δ = .ok (.tuple (L.map (·.1)))) (h2 : capD δ [j] = [.sh (clk c)]) :
    lComp (fun δ => ((vVar i) δ).bind seqOf) bind1 [j] (cVal (b2 (b2 (b2 (vVar 0) (vC (.int 1)) dIx) (vC (.int 0)) dIx) (b2 (vVar 1) (vIndexE (vC (.str "abcdefgh")) (b2 (b2 (vVar 0) (vC (.int 1)) dIx) (vC (.int 1)) dIx)) dIx) (dCmpS .Gt))) (vVar 0) δ = .ok ((L.filter (newF c)).map (·.1)) :=
  lComp_ok (src_seq h1 rfl) (by rw [List.length_map]; omega) h2 (comp_ent (newF c) L fun e he => cVal_ok (newer_el hc (hB e he) _ 0 1 rfl rfl))
theorem eqvAll_ent : ∀ (L : List Ent), Bk S L → PyData.eqvAll (L.map (·.1)) (L.map (·.1)) = true ∧ PyData.depthAll (L.map (·.1)) ≤ 5
  | [], _ => ⟨rfl, by simp [PyData.depthAll]⟩
  | e :: L, h => by
    obtain ⟨e1, e2⟩ := eqvAll_ent L fun x hx => h x (.tail _ hx)
    have k := h e (.head _)
    refine ⟨by rw [List.map_cons, PyData.eqvAll, k.eq, e1]; rfl, ?_⟩
    have := k.dp
    simp only [List.map_cons, PyData.depthAll]
    omega
theorem Bk.sub {L L' : List Ent} (h : Bk S L) (k : ∀ e ∈ L', e ∈ L) : Bk S L' := fun e he => h e (k e he)
theorem ne_list {L : List Ent} (h : Bk S L) : dNe (.list (L.map (·.1))) (.list (L.map (·.1))) = some (.bool false) := by
  obtain ⟨e1, e2⟩ := eqvAll_ent L h
  unfold dNe
  have e3 : PyData.eqv (.list (L.map (·.1))) (.list (L.map (·.1))) = true := e1
  rw [if_pos (by simp only [PyData.depth]; omega), e3]; rfl
theorem ne_tup {L : List Ent} (h : Bk S L) : dNe (.tuple (L.map (·.1))) (.tuple (L.map (·.1))) = some (.bool false) := by
  obtain ⟨e1, e2⟩ := eqvAll_ent L h
  unfold dNe
  have e3 : PyData.eqv (.tuple (L.map (·.1))) (.tuple (L.map (·.1))) = true := e1
  rw [if_pos (by simp only [PyData.depth]; omega), e3]; rfl
theorem eqvAll_ints : ∀ c : List Int, PyData.eqvAll (c.map .int) (c.map .int) = true ∧ PyData.depthAll (c.map .int) ≤ 1
  | [] => ⟨rfl, by simp [PyData.depthAll]⟩
  | i :: c => by
    obtain ⟨e1, e2⟩ := eqvAll_ints c
    have : PyData.eqv (.int i) (.int i) = true := by show (i == i) = true; simp
    refine ⟨by rw [List.map_cons, PyData.eqvAll, this, e1]; rfl, ?_⟩
    simp only [List.map_cons, PyData.depthAll, PyData.depth]
    omega
theorem ne_clk (c : List Int) : dNe (clk c) (clk c) = some (.bool false) := by
  obtain ⟨e1, e2⟩ := eqvAll_ints c
  unfold dNe
  have e3 : PyData.eqv (clk c) (clk c) = true := e1
  rw [if_pos (by simp only [PyData.depth]; omega), e3]; rfl
theorem eqv_id {d d' : PyData} {p p' : IdP} {ps ps' : List IdP} (k : DK S d p ps) (k' : DK S d' p' ps') (h : PyData.eqv d d' = true) : p = p' := by
  obtain ⟨x, r, rfl⟩ := k.fm
  obtain ⟨x', r', rfl⟩ := k'.fm
  have h2 : (PyData.eqv x x' && (PyData.eqv (idP p) (idP p') && PyData.eqvAll r r')) = true := h
  rw [Bool.and_eq_true, Bool.and_eq_true, eqvId] at h2
  exact of_decide_eq_true h2.2.1
theorem uniq {L : List Ent} (up : L.Pairwise fun a b => key a.2.1 < key b.2.1) {e e' : Ent} (h : e ∈ L) (h' : e' ∈ L) (hk : e.2.1 = e'.2.1) : e = e' := by
  induction L with
  | nil => exact nomatch h
  | cons a L ih =>
    rw [List.pairwise_cons] at up
    rcases List.mem_cons.mp h with rfl | h1
    · rcases List.mem_cons.mp h' with rfl | h2
      · rfl
      · have := up.1 e' h2; rw [hk] at this; omega
    · rcases List.mem_cons.mp h' with rfl | h2
      · have := up.1 e h1; rw [hk] at this; omega
      · exact ih up.2 h1 h2
theorem notin_ok {L : List Ent} (hB : Book L) (f : Ent → Bool) {e : Ent} (he : e ∈ L) : dIn true e.1 (.list ((L.filter f).map (·.1))) = some (.bool (!f e)) := by
  have hs : Bk (SgOf (L.map (·.1))) (L.filter f) := Bk.sub hB.bk fun x hx => (List.mem_filter.mp hx).1
  obtain ⟨_, e2⟩ := eqvAll_ent (L.filter f) hs
  unfold dIn
  simp only
  rw [if_pos (by omega)]
  have : (((L.filter f).map (·.1)).any fun y => PyData.eqv y e.1) = f e := by
    rw [Bool.eq_iff_iff, List.any_eq_true]
    constructor
    · rintro ⟨y, hy, q⟩
      obtain ⟨e', he', rfl⟩ := List.mem_map.mp hy
      obtain ⟨m1, m2⟩ := List.mem_filter.mp he'
      have := uniq hB.up m1 he (eqv_id (hB.bk e' m1) (hB.bk e he) q)
      rw [← this]; exact m2
    · intro q
      exact ⟨e.1, List.mem_map.mpr ⟨e, List.mem_filter.mpr ⟨he, q⟩, rfl⟩, (hB.bk e he).eq⟩
  rw [this]; rfl
theorem notin_ids (q : IdP) (ids : List IdP) : dIn true (idP q) (.list (ids.map idP)) = some (.bool (!decide (q ∈ ids))) := by
  have hd : (idP q).depth ≤ 2 := depthP q
  unfold dIn
  simp only
  rw [if_pos (by omega)]
  have : ((ids.map idP).any fun y => PyData.eqv y (idP q)) = decide (q ∈ ids) := by
    rw [List.any_map, Bool.eq_iff_iff, List.any_eq_true, decide_eq_true_eq]
    constructor
    · rintro ⟨x, hx, h⟩
      simp only [Function.comp, eqvId, decide_eq_true_eq] at h
      rw [← h]; exact hx
    · intro h
      exact ⟨q, h, by simp only [Function.comp, eqvId, decide_true]⟩
  rw [this]; rfl
end Sm
set_option autoImplicit false
set_option linter.all false
set_option maxRecDepth 10000
open PySem
namespace Sm
open L2
local macro_rules
  | `(tactic| simp_arith) => `(tactic| simp_arith [ok_bind])
  | `(tactic| simp_arith [$ls,*]) => `(tactic| simp only [$ls,*, fnD_eq, startD, sSeq_eq, seq_nx, seq_rt, seq_exc, fin_rt, fin_nx, fin_exc, sIf_eq, cVal, b2, b1, vVar_eq, slotV_sh, vLst, vTup, aNil, aCons, vC, ok_bind, exc_bind, ofO_some, thenS_ok, thenS_exc, sRet, sSet, sOwn, sNew, sNext, vFn, vCall, vCall0, noX, cAnd, cOr, cNot, sFor, sExp, sFz, oSome, oNone, vSl, vJoin, cTrue, cFz, truD_bool,
  List.map_cons, List.map_nil, List.length_cons, List.length_nil, List.replicate, List.cons_append, List.nil_append, List.append_nil, List.getElem?_cons_zero, List.getElem?_cons_succ, List.set_cons_zero, List.set_cons_succ, Nat.reduceAdd, Nat.reduceSub, Nat.zero_add, if_true, if_false, Bool.false_eq_true, Bool.true_eq_false, reduceIte])
variable {S : PyData → Prop}
def kkP (p : IdP) : List Key := [.inl p.1, .inr p.2]
theorem kkP_inj {p q : IdP} : kkP p = kkP q ↔ p = q := by
  constructor
  · intro h
    unfold kkP at h
    simp only [List.cons.injEq, Sum.inl.injEq, Sum.inr.injEq, and_true] at h
    exact Prod.ext h.1 h.2
  · rintro rfl; rfl
def kvE (K : List Ent) : List (PyData × PyData) := K.map fun e => (idP e.2.1, e.1)
abbrev idsE (K : List Ent) : List IdP := K.map (·.2.1)
theorem get_kvE (q : IdP) : ∀ K : List Ent, getKv (kvE K) (kkP q) = (K.find? fun e => decide (e.2.1 = q)).map (·.1)
  | [] => rfl
  | e :: K => by
    have h1 : kvE (e :: K) = (.tuple ((kkP e.2.1).map keyD), e.1) :: kvE K := rfl
    rw [h1, getKv_cons, get_kvE q K, List.find?_cons]
    by_cases h : e.2.1 = q
    · rw [if_pos (kkP_inj.mpr h), decide_eq_true h]; rfl
    · rw [if_neg (fun z => h (kkP_inj.mp z)), decide_eq_false h]
theorem get_some (q : IdP) (K : List Ent) : (getKv (kvE K) (kkP q)).isSome = decide (q ∈ idsE K) := by
  rw [get_kvE, Option.isSome_map, Bool.eq_iff_iff, List.find?_isSome]
  simp only [decide_eq_true_eq, List.mem_map]
theorem put_kvE (K : List Ent) (e : Ent) (h : e.2.1 ∉ idsE K) : putKv (kvE K) (kkP e.2.1) e.1 = kvE (K ++ [e]) := by
  unfold putKv
  rw [get_some, decide_eq_false h, if_neg (by decide)]
  unfold kvE
  rw [List.map_append]
  rfl
theorem added_ok (t : Int) (h : Str) (b : PyData) (w : Str) : m_signs_added [.tuple [.str "add", idD t h, b, .str w]] = .ok (.int (w.length : Int)) := by
  refine fn_rt ?_
  unfold sem_signs_added N_signs_added
  simp only [startD, List.map_cons, List.map_nil, List.length_cons, List.length_nil, List.replicate, List.cons_append, List.nil_append, Nat.reduceAdd, Nat.reduceSub]
  refine sRet_ok ?_
  have e1 : dLen [.str w] = some (.int (w.length : Int)) := rfl
  unfold vIf
  simp_arith [ix0, eqS', dIdx3, e1]
def hasB (K : List Ent) (e : Ent) : Bool := decide (∀ q ∈ e.2.2, q ∈ idsE K)
theorem all_true : ∀ (ys : List PyData), (∀ y ∈ ys, y = .bool true) → dAll [.list ys] = some (.bool true) := fun ys h => by
  have : ∀ ys : List PyData, (∀ y ∈ ys, y = .bool true) → ∃ bs, boolsOf ys = some bs ∧ bs.all id = true := fun ys => by
    induction ys with
    | nil => exact fun _ => ⟨[], rfl, rfl⟩
    | cons y ys ih =>
      intro h
      obtain ⟨bs, e1, e2⟩ := ih fun z hz => h z (.tail _ hz)
      rw [h y (.head _)]
      exact ⟨true :: bs, by show (boolsOf ys).map _ = _; rw [e1]; rfl, by simp [e2]⟩
  obtain ⟨bs, e1, e2⟩ := this ys h
  show (boolsOf ys).map _ = _
  rw [e1]
  show some (PyData.bool (bs.all id)) = _
  rw [e2]
theorem has_ok {L : List Ent} (hB : Book L) {K : List Ent} (hK : ∀ x ∈ K, x ∈ L) {e : Ent} (he : e ∈ L) : m_has_all_named (kvE K) e.1 = .ok (.bool (hasB K e)) := by
  have k := hB.bk e he
  have hin : ∀ q : IdP, vInD 1 (vVar 0) ([.sh (idP q)] ++ [.ow (.dict (kvE K))]) = .ok (.bool (decide (q ∈ idsE K))) := fun q => by
    unfold vInD
    rw [show vVar 0 ([.sh (idP q)] ++ [.ow (.dict (kvE K))]) = .ok (idP q) from rfl, ok_bind]
    have h1 : keyT (idP q) = some (kkP q) := rfl
    simp only [h1, List.cons_append, List.nil_append, List.getElem?_cons_zero, List.getElem?_cons_succ]
    rw [get_some]
  have hall : (e.2.2.map fun q => decide (q ∈ idsE K)).all id = hasB K e := by
    unfold hasB
    rw [Bool.eq_iff_iff]
    simp [List.all_eq_true]
  have c1 : (cVal (vFn (aCons (vLst (lComp (fun δ => ((vCall (aCons (vVar 1) aNil) m_deeds_named) δ).bind seqOf) bind1 [0] cTrue (vInD 1 (vVar 0)))) aNil) dAll)) [.ow (.dict (kvE K)), .sh e.1] = .ok (hasB K e) := by
    refine cVal_ok (vFn_ok (aCons_ok (vLst_ok (lComp_ok (δc := [.ow (.dict (kvE K))]) (src_seq (vCall_ok (aCons_ok rfl rfl) k.nm) rfl) (by rw [List.length_map]; have := k.len; omega) rfl (comp_ids (fun q => .bool (decide (q ∈ idsE K))) hin e.2.2))) rfl) ?_)
    show (boolsOf _).map _ = _
    rw [bools_any, ← hall]; rfl
  unfold m_has_all_named fnL sem_has_all_named rIf cNot
  rw [c1, ok_bind, ok_bind]
  cases hb : hasB K e with
  | false => rfl
  | true =>
    have hsub : ∀ q ∈ e.2.2, q ∈ idsE K := of_decide_eq_true hb
    simp only [Bool.not_true, Bool.false_eq_true, if_false]
    obtain ⟨out, o1, o2, o3⟩ := k.sn
    have hel : ∀ s ∈ out, ∃ sl y, bind1 s = .ok sl ∧ (b2 (b2 (vVar 0) (vC (.int 1)) dIx) (vCall (aCons (vGetD 1 (b2 (vVar 0) (vC (.int 0)) dIx)) aNil) m_signs_added) (dCmp .Lt)) (sl ++ [.ow (.dict (kvE K))]) = .ok y ∧ y = .bool true := fun s hs => by
      obtain ⟨⟨t, h, b, w, n, hm, rfl, hn⟩, q, n', eq, hq⟩ := o3 s hs
      have eqq : q = (t, h) := by
        simp only [idP, idD, PyData.tuple.injEq, List.cons.injEq, PyData.int.injEq, PyData.str.injEq, and_true] at eq
        exact Prod.ext eq.1.1.symm eq.1.2.symm
      subst eqq
      obtain ⟨a, ha, ea⟩ := List.mem_map.mp hm
      have ia : a.2.1 = (t, h) := by
        have := (hB.bk a ha).id
        rw [ea, dIdx1] at this
        simp only [idP, idD, Option.some.injEq, PyData.tuple.injEq, List.cons.injEq, PyData.int.injEq, PyData.str.injEq, and_true] at this
        exact Prod.ext this.1.symm this.2.symm
      have hg : getKv (kvE K) (kkP (t, h)) = some a.1 := by
        have hs := get_some (t, h) K
        rw [decide_eq_true (hsub _ hq)] at hs
        rw [get_kvE] at hs ⊢
        rw [Option.isSome_map] at hs
        obtain ⟨x, hx⟩ := Option.isSome_iff_exists.mp hs
        rw [hx]
        have hx1 := List.find?_some hx
        have hx2 := List.mem_of_find?_eq_some hx
        rw [uniq hB.up (hK x hx2) ha ((of_decide_eq_true hx1).trans ia.symm)]
        rfl
      refine ⟨_, .bool true, rfl, ?_, rfl⟩
      have g1 : vGetD 1 (b2 (vVar 0) (vC (.int 0)) dIx) ([.sh (.tuple [idD t h, .int n])] ++ [.ow (.dict (kvE K))]) = .ok a.1 := by
        unfold vGetD
        simp only [List.cons_append, List.nil_append, List.getElem?_cons_zero, List.getElem?_cons_succ]
        rw [show (b2 (vVar 0) (vC (.int 0)) dIx) [.sh (.tuple [idD t h, .int n]), .ow (.dict (kvE K))] = .ok (idP (t, h)) from by simp_arith [ix0], ok_bind]
        have h1 : keyT (idP (t, h)) = some (kkP (t, h)) := rfl
        simp only [h1]
        rw [hg]; rfl
      refine b2_ok (d := .bool true) (b2_ok (d := .int n) rfl rfl (dIdx1 _ _ _)) (vCall_ok (aCons_ok g1 rfl) (by rw [ea]; exact added_ok t h b w)) ?_
      rw [ltI, decide_eq_true (by omega)]
    obtain ⟨ys, y1, y2, y3⟩ := comp_all out hel
    refine vFn_ok (aCons_ok (vLst_ok (lComp_ok (δc := [.ow (.dict (kvE K))]) (src_seq (vCall_ok (aCons_ok rfl rfl) o1) rfl) (by omega) rfl y1)) rfl) (all_true ys y3)
def keepB (c : List Int) (K : List Ent) (e : Ent) : Bool := !newF c e && hasB K e
def keepF (c : List Int) : List Ent → List Ent → List Ent
  | K, [] => K
  | K, e :: L => keepF c (if keepB c K e = true then K ++ [e] else K) L
def bodyP : Dn → Out := (sIf (cAnd (cNot (cVal (vCall (aCons (vVar 3) (aCons (vVar 1) aNil)) m_is_newer))) (cVal (vCallL 2 (vVar 3) m_has_all_named))) (sPut 2 (b2 (vVar 3) (vC (.int 1)) dIx) (vVar 3)) sNext)
structure KeptIn (L K R : List Ent) : Prop where
  sub : ∀ x ∈ K, x ∈ L
  len : K.length + R.length ≤ 9
  lt : ∀ x ∈ K, ∀ e ∈ R, key x.2.1 < key e.2.1
theorem KeptIn.step {L K R : List Ent} {e : Ent} (h : KeptIn L K (e :: R)) (he : e ∈ L) (up : (e :: R).Pairwise fun a b => key a.2.1 < key b.2.1) (b : Bool) : KeptIn L (if b = true then K ++ [e] else K) R := by
  have hl := h.len
  simp only [List.length_cons] at hl
  rw [List.pairwise_cons] at up
  split
  · refine ⟨fun x hx => ?_, by rw [List.length_append]; simp only [List.length_cons, List.length_nil]; omega, fun x hx y hy => ?_⟩
    · rcases List.mem_append.mp hx with z | z
      · exact h.sub x z
      · rw [List.mem_singleton.mp z]; exact he
    · rcases List.mem_append.mp hx with z | z
      · exact h.lt x z y (.tail _ hy)
      · rw [List.mem_singleton.mp z]; exact up.1 y hy
  · exact ⟨h.sub, by omega, fun x hx y hy => h.lt x hx y (.tail _ hy)⟩
theorem kept_loop {L : List Ent} (hB : Book L) {c : List Int} (hc : Clk c) (B : PyData) : ∀ (R K : List Ent) (s3 : Sl), (∀ x ∈ R, x ∈ L) → R.Pairwise (fun a b => key a.2.1 < key b.2.1) → KeptIn L K R →
    (∀ x ∈ keepF c K R, x ∈ L) ∧ ∃ s3', runFor (st1 3) bodyP (R.map (·.1)) [.sh B, .sh (clk c), .ow (.dict (kvE K)), s3] = .nx [.sh B, .sh (clk c), .ow (.dict (kvE (keepF c K R))), s3']
  | [], K, s3, _, _, h => ⟨h.sub, s3, rfl⟩
  | e :: R, K, s3, hR, up, h => by
    have he := hR e (.head _)
    have hn := isnewer_ok hc (hB.bk e he)
    have hh := has_ok hB h.sub he
    have hstep : bodyP [.sh B, .sh (clk c), .ow (.dict (kvE K)), .sh e.1] = .nx [.sh B, .sh (clk c), .ow (.dict (kvE (if keepB c K e = true then K ++ [e] else K))), .sh e.1] := by
      unfold bodyP
      have n1 : cVal (vCall (aCons (vVar 3) (aCons (vVar 1) aNil)) m_is_newer) [.sh B, .sh (clk c), .ow (.dict (kvE K)), .sh e.1] = .ok (newF c e) := cVal_ok (vCall_ok (aCons_ok rfl (aCons_ok rfl rfl)) hn)
      have n2 : cVal (vCallL 2 (vVar 3) m_has_all_named) [.sh B, .sh (clk c), .ow (.dict (kvE K)), .sh e.1] = .ok (hasB K e) := cVal_ok (by
        unfold vCallL
        simp only [List.getElem?_cons_zero, List.getElem?_cons_succ]
        rw [show vVar 3 [.sh B, .sh (clk c), .ow (.dict (kvE K)), .sh e.1] = .ok e.1 from rfl, ok_bind]
        exact hh)
      have n3 : (cAnd (cNot (cVal (vCall (aCons (vVar 3) (aCons (vVar 1) aNil)) m_is_newer))) (cVal (vCallL 2 (vVar 3) m_has_all_named))) [.sh B, .sh (clk c), .ow (.dict (kvE K)), .sh e.1] = .ok (keepB c K e) := by
        unfold cAnd cNot keepB
        rw [n1, ok_bind, ok_bind, n2]
        cases newF c e <;> simp
      cases hb : keepB c K e with
      | false => rw [sIf_f (n3.trans (by rw [hb]))]; rfl
      | true =>
        rw [sIf_t (n3.trans (by rw [hb])), if_pos rfl]
        have hnew : e.2.1 ∉ idsE K := fun z => by
          obtain ⟨x, hx, ex⟩ := List.mem_map.mp z
          have := h.lt x hx e (.head _)
          rw [ex] at this; omega
        unfold sPut
        simp only [List.getElem?_cons_zero, List.getElem?_cons_succ]
        rw [show vVar 3 [.sh B, .sh (clk c), .ow (.dict (kvE K)), .sh e.1] = .ok e.1 from rfl, thenS_ok]
        rw [show (b2 (vVar 3) (vC (.int 1)) dIx) [.sh B, .sh (clk c), .ow (.dict (kvE K)), .sh e.1] = .ok (idP e.2.1) from by simp_arith [(hB.bk e he).id], thenS_ok]
        have h1 : keyT (idP e.2.1) = some (kkP e.2.1) := rfl
        simp only [h1]
        rw [if_pos (sLt (by have := h.len; unfold kvE; rw [List.length_map]; omega)), put_kvE K e hnew]
        rfl
    obtain ⟨q1, s3', q2⟩ := kept_loop hB hc B R _ (.sh e.1) (fun x hx => hR x (.tail _ hx)) (List.pairwise_cons.mp up).2 (h.step he up (keepB c K e))
    refine ⟨q1, s3', ?_⟩
    rw [List.map_cons]
    unfold runFor
    simp only [st1, List.set_cons_zero, List.set_cons_succ]
    rw [hstep]
    exact q2
theorem kept_ok {L : List Ent} (hB : Book L) {c : List Int} (hc : Clk c) : m_kept_to [.tuple (L.map (·.1)), clk c] = .ok (.tuple ((keepF c [] L).map (·.1))) ∧ ∀ x ∈ keepF c [] L, x ∈ L := by
  obtain ⟨q1, s3, q2⟩ := kept_loop hB hc (.tuple (L.map (·.1))) L [] .un (fun x hx => hx) hB.up ⟨(fun _ h => nomatch h), by have := hB.len; simpa using this, fun _ h => nomatch h⟩
  refine ⟨fn_rt ?_, q1⟩
  unfold sem_kept_to N_kept_to
  simp only [startD, List.map_cons, List.map_nil, List.length_cons, List.length_nil, List.replicate, List.cons_append, List.nil_append, Nat.reduceAdd, Nat.reduceSub]
  have h1 : sDict 2 [.sh (.tuple (L.map (·.1))), .sh (clk c), .un, .un] = .nx [.sh (.tuple (L.map (·.1))), .sh (clk c), .ow (.dict (kvE [])), .un] := rfl
  rw [sSeq_nx h1]
  have h2 : sFor (fun δ => ((vVar 0) δ).bind seqOf) (st1 3) bodyP [.sh (.tuple (L.map (·.1))), .sh (clk c), .ow (.dict (kvE [])), .un] = .nx [.sh (.tuple (L.map (·.1))), .sh (clk c), .ow (.dict (kvE (keepF c [] L))), s3] := q2
  unfold bodyP at h2
  rw [sSeq_nx h2]
  refine sRet_ok ?_
  unfold vTupVals
  simp only [List.getElem?_cons_zero, List.getElem?_cons_succ]
  unfold kvE
  rw [List.map_map]
  rfl
end Sm
set_option autoImplicit false
set_option linter.all false
set_option maxRecDepth 10000
open PySem
namespace Sm
open L2
local macro_rules
  | `(tactic| simp_arith) => `(tactic| simp_arith [ok_bind])
  | `(tactic| simp_arith [$ls,*]) => `(tactic| simp only [$ls,*, fnD_eq, startD, sSeq_eq, seq_nx, seq_rt, seq_exc, fin_rt, fin_nx, fin_exc, sIf_eq, cVal, b2, b1, vVar_eq, slotV_sh, vLst, vTup, aNil, aCons, vC, ok_bind, exc_bind, ofO_some, thenS_ok, thenS_exc, sRet, sSet, sOwn, sNew, sNext, vFn, vCall, vCall0, noX, cAnd, cOr, cNot, sFor, sExp, sFz, oSome, oNone, vSl, vJoin, cTrue, cFz, truD_bool,
  List.map_cons, List.map_nil, List.length_cons, List.length_nil, List.replicate, List.cons_append, List.nil_append, List.append_nil, List.getElem?_cons_zero, List.getElem?_cons_succ, List.set_cons_zero, List.set_cons_succ, Nat.reduceAdd, Nat.reduceSub, Nat.zero_add, if_true, if_false, Bool.false_eq_true, Bool.true_eq_false, reduceIte])
variable {S : PyData → Prop}
def bodyKL : Dn → Out := (sSeq (sSet 9 (vLst (lComp (fun δ => ((vVar 6) δ).bind seqOf) bind1 [] cTrue (b2 (vVar 0) (vC (.int 1)) dIx)))) (sIf (cAnd (cVal (b2 (vVar 7) (vVar 5) (dIn true))) (cVal (b2 (vLst (lComp (fun δ => ((vCall (aCons (vVar 7) aNil) m__law_named) δ).bind seqOf) bind1 [9] (cVal (b2 (vVar 0) (vVar 1) (dIn true))) (vVar 0))) (vLst aNil) dEq))) (sSet 6 (b2 (vVar 6) (vTup (aCons (vVar 7) aNil)) dAdd)) sNext))
def bodyLL : Dn → Out := (sIf (cVal (b2 (vCall (aCons (vVar 4) (aCons (vVar 8) aNil)) m_later_clock) (vFn (aCons (vLst (lComp (fun δ => ((aCons (vC (.int 8)) aNil) δ).bind rng1) bind1 [4, 8] cTrue (vFn (aCons (b2 (vVar 1) (vVar 0) dIx) (aCons (b2 (vVar 2) (vVar 0) dIx) aNil)) dMax))) aNil) dTupF) dNe)) (sRet (vC (.bool false))) sNext)
def bodyO : Dn → Out := (sSeq (sNew 5 (lComp (fun δ => ((vVar 1) δ).bind seqOf) bind1 [4] (cVal (b2 (b2 (b2 (vVar 0) (vC (.int 1)) dIx) (vC (.int 0)) dIx) (b2 (vVar 1) (vIndexE (vC (.str "abcdefgh")) (b2 (b2 (vVar 0) (vC (.int 1)) dIx) (vC (.int 1)) dIx)) dIx) (dCmpS .Gt))) (vVar 0))) (sSeq (sIf (cVal (b2 (vCall (aCons (vVar 1) (aCons (vVar 4) aNil)) m_newer) (vVar 5) dNe)) (sRet (vC (.bool false))) sNext) (sSeq (sSet 6 (vTup aNil)) (sSeq (sFor (fun δ => ((vVar 1) δ).bind seqOf) (st1 7) (sSeq (sSet 9 (vLst (lComp (fun δ => ((vVar 6) δ).bind seqOf) bind1 [] cTrue (b2 (vVar 0) (vC (.int 1)) dIx)))) (sIf (cAnd (cVal (b2 (vVar 7) (vVar 5) (dIn true))) (cVal (b2 (vLst (lComp (fun δ => ((vCall (aCons (vVar 7) aNil) m__law_named) δ).bind seqOf) bind1 [9] (cVal (b2 (vVar 0) (vVar 1) (dIn true))) (vVar 0))) (vLst aNil) dEq))) (sSet 6 (b2 (vVar 6) (vTup (aCons (vVar 7) aNil)) dAdd)) sNext))) (sSeq (sIf (cVal (b2 (vCall (aCons (vVar 1) (aCons (vVar 4) aNil)) m_kept_to) (vVar 6) dNe)) (sRet (vC (.bool false))) sNext) (sFor (fun δ => ((vVar 3) δ).bind seqOf) (st1 8) (sIf (cVal (b2 (vCall (aCons (vVar 4) (aCons (vVar 8) aNil)) m_later_clock) (vFn (aCons (vLst (lComp (fun δ => ((aCons (vC (.int 8)) aNil) δ).bind rng1) bind1 [4, 8] cTrue (vFn (aCons (b2 (vVar 1) (vVar 0) dIx) (aCons (b2 (vVar 2) (vVar 0) dIx) aNil)) dMax))) aNil) dTupF) dNe)) (sRet (vC (.bool false))) sNext)))))))
theorem comp_mapM {α : Type} {δc : Dn} {el : Dn → Res PyData} (g f : α → PyData) : ∀ ys : List α, (∀ y ∈ ys, el ([.sh (g y)] ++ δc) = .ok (f y)) → compRun bind1 δc cTrue el (ys.map g) = .ok (ys.map f)
  | [], _ => rfl
  | y :: ys, h => by
    rw [List.map_cons]
    unfold compRun
    simp only [bind1, cTrue, h y (.head _), comp_mapM g f ys fun z hz => h z (.tail _ hz), List.map_cons]
def mx (a b : List Int) : List Int := (List.range 8).map fun k => if a.getD k 0 < b.getD k 0 then b.getD k 0 else a.getD k 0
theorem clk_at {c : List Int} (hc : Clk c) {k : Nat} (hk : k < 8) : dIx (clk c) (.int (0 + (k : Int))) = some (.int (c.getD k 0)) := by
  have hlt : k < c.length := by rw [hc.1]; exact hk
  rw [Int.zero_add]
  show atI (c.map PyData.int) _ = _
  rw [atI_nat (by rw [List.length_map]; exact hlt)]
  simp [List.getD, hlt]
theorem mx_ok {a b : List Int} (ha : Clk a) (hb : Clk b) : compRun bind1 [.sh (clk a), .sh (clk b)] cTrue (vFn (aCons (b2 (vVar 1) (vVar 0) dIx) (aCons (b2 (vVar 2) (vVar 0) dIx) aNil)) dMax) (rngD 0 8) = .ok ((mx a b).map .int) := by
  have h1 : rngD 0 8 = (List.range 8).map fun (i : Nat) => PyData.int (0 + i) := rfl
  unfold mx
  rw [h1, List.map_map]
  refine comp_mapM (fun (i : Nat) => PyData.int (0 + i)) _ (List.range 8) fun k hk => ?_
  have hk' := List.mem_range.mp hk
  exact vFn_ok (aCons_ok (b2_ok rfl rfl (clk_at ha hk')) (aCons_ok (b2_ok rfl rfl (clk_at hb hk')) rfl)) rfl
theorem later_ok {a b : List Int} (ha : Clk a) (hb : Clk b) : m_later_clock [clk a, clk b] = .ok (clk (mx a b)) := by
  refine fn_rt ?_
  unfold sem_later_clock N_later_clock
  simp only [startD, List.map_cons, List.map_nil, List.length_cons, List.length_nil, List.replicate, List.cons_append, List.nil_append, Nat.reduceAdd, Nat.reduceSub]
  exact sRet_ok (vFn_ok (aCons_ok (vLst_ok (lComp_ok (src_rng (n := 8) rfl (by decide) (by decide)) (by decide) rfl (mx_ok ha hb))) rfl) rfl)
theorem law_later {a b : List Int} (ha : Clk a) (hb : Clk b) (i j : Nat) (δ : Dn) (h : capD δ [i, j] = [.sh (clk a), .sh (clk b)]) : (vFn (aCons (vLst (lComp (fun δ => ((aCons (vC (.int 8)) aNil) δ).bind rng1) bind1 [i, j] cTrue (vFn (aCons (b2 (vVar 1) (vVar 0) dIx) (aCons (b2 (vVar 2) (vVar 0) dIx) aNil)) dMax))) aNil) dTupF) δ = .ok (clk (mx a b)) :=
  vFn_ok (aCons_ok (vLst_ok (lComp_ok (src_rng (n := 8) rfl (by decide) (by decide)) (by decide) h (mx_ok ha hb))) rfl) rfl
theorem later_loop {c : List Int} (hc : Clk c) (s0 s1 s2 s3 s5 s6 s7 s9 : Sl) : ∀ (cs : List (List Int)) (s8 : Sl), (∀ x ∈ cs, Clk x) → ∃ s8', runFor (st1 8) bodyLL (cs.map clk) [s0, s1, s2, s3, .sh (clk c), s5, s6, s7, s8, s9] = .nx [s0, s1, s2, s3, .sh (clk c), s5, s6, s7, s8', s9]
  | [], s8, _ => ⟨s8, rfl⟩
  | b :: cs, s8, h => by
    obtain ⟨s8', e⟩ := later_loop hc s0 s1 s2 s3 s5 s6 s7 s9 cs (.sh (clk b)) fun x hx => h x (.tail _ hx)
    refine ⟨s8', ?_⟩
    have hb := h b (.head _)
    have h1 : bodyLL [s0, s1, s2, s3, .sh (clk c), s5, s6, s7, .sh (clk b), s9] = .nx [s0, s1, s2, s3, .sh (clk c), s5, s6, s7, .sh (clk b), s9] := by
      unfold bodyLL
      exact (sIf_f (cVal_ok (b2_ok (vCall_ok (aCons_ok rfl (aCons_ok rfl rfl)) (later_ok hc hb)) (law_later hc hb 4 8 _ rfl) (ne_clk _)))).trans rfl
    rw [List.map_cons]
    unfold runFor
    simp only [st1, List.set_cons_zero, List.set_cons_succ]
    rw [h1]
    exact e
theorem law_step {L : List Ent} (hB : Book L) (c : List Int) {K : List Ent} (hK : ∀ x ∈ K, x ∈ L) (hl : K.length ≤ 9) {e : Ent} (he : e ∈ L) (s0 s1 s2 s3 s4 s8 s9 : Sl) :
    ∃ s9', bodyKL [s0, s1, s2, s3, s4, .sh (.list ((L.filter (newF c)).map (·.1))), .sh (.tuple (K.map (·.1))), .sh e.1, s8, s9] = .nx [s0, s1, s2, s3, s4, .sh (.list ((L.filter (newF c)).map (·.1))), .sh (.tuple ((if keepB c K e = true then K ++ [e] else K).map (·.1))), .sh e.1, s8, s9'] := by
  have k := hB.bk e he
  obtain ⟨ps', n1, n2, n3⟩ := k.ln
  refine ⟨.sh (.list ((idsE K).map idP)), ?_⟩
  unfold bodyKL
  rw [sSeq_nx (sSet_ok (vLst_ok (lComp_ok (src_seq rfl rfl) (by rw [List.length_map]; omega) rfl (comp_eid (S := SgOf (L.map (·.1))) K (Bk.sub hB.bk hK)))))]
  simp only [List.set_cons_zero, List.set_cons_succ]
  have h1 : ∀ q : IdP, (cVal (b2 (vVar 0) (vVar 1) (dIn true))) ([.sh (idP q)] ++ [.sh (.list ((idsE K).map idP))]) = .ok (!decide (q ∈ idsE K)) := fun q => cVal_ok (b2_ok rfl rfl (notin_ids q (idsE K)))
  have h2 : ((ps'.filter fun q => !decide (q ∈ idsE K)).map idP).isEmpty = hasB K e := by
    rw [List.isEmpty_map, Bool.eq_iff_iff, List.isEmpty_iff, List.filter_eq_nil_iff]
    unfold hasB
    rw [decide_eq_true_eq]
    constructor
    · intro h q hq
      have := h q ((n3 q).mpr hq)
      simpa using this
    · intro h q hq
      have := h q ((n3 q).mp hq)
      simpa using this
  have hc1 : (cAnd (cVal (b2 (vVar 7) (vVar 5) (dIn true))) (cVal (b2 (vLst (lComp (fun δ => ((vCall (aCons (vVar 7) aNil) m__law_named) δ).bind seqOf) bind1 [9] (cVal (b2 (vVar 0) (vVar 1) (dIn true))) (vVar 0))) (vLst aNil) dEq))) [s0, s1, s2, s3, s4, .sh (.list ((L.filter (newF c)).map (·.1))), .sh (.tuple (K.map (·.1))), .sh e.1, s8, .sh (.list ((idsE K).map idP))] = .ok (keepB c K e) := by
    have a1 : cVal (b2 (vVar 7) (vVar 5) (dIn true)) [s0, s1, s2, s3, s4, .sh (.list ((L.filter (newF c)).map (·.1))), .sh (.tuple (K.map (·.1))), .sh e.1, s8, .sh (.list ((idsE K).map idP))] = .ok (!newF c e) := cVal_ok (b2_ok rfl rfl (notin_ok hB (newF c) he))
    have a2 : cVal (b2 (vLst (lComp (fun δ => ((vCall (aCons (vVar 7) aNil) m__law_named) δ).bind seqOf) bind1 [9] (cVal (b2 (vVar 0) (vVar 1) (dIn true))) (vVar 0))) (vLst aNil) dEq) [s0, s1, s2, s3, s4, .sh (.list ((L.filter (newF c)).map (·.1))), .sh (.tuple (K.map (·.1))), .sh e.1, s8, .sh (.list ((idsE K).map idP))] = .ok (hasB K e) := by
      refine cVal_ok (b2_ok (vLst_ok (lComp_ok (δc := [.sh (.list ((idsE K).map idP))]) (src_seq (vCall_ok (aCons_ok rfl rfl) n1) rfl) (by rw [List.length_map]; omega) rfl (comp_fids (fun q => !decide (q ∈ idsE K)) h1 ps'))) rfl ?_)
      rw [dEqL, h2]
    unfold cAnd keepB
    rw [a1, ok_bind, a2]
    cases newF c e <;> simp
  cases hb : keepB c K e with
  | false => rw [sIf_f (hc1.trans (by rw [hb]))]; rfl
  | true =>
    rw [sIf_t (hc1.trans (by rw [hb])), if_pos rfl]
    have hadd := addT (x := K.map (·.1)) (y := [e.1]) (by rw [List.length_map]; simp only [List.length_cons, List.length_nil]; omega)
    rw [List.map_append]
    exact sSet_ok (b2_ok rfl rfl hadd)
theorem law_loop {L : List Ent} (hB : Book L) (c : List Int) (s0 s1 s2 s3 s4 s8 : Sl) : ∀ (R K : List Ent) (s7 s9 : Sl), (∀ x ∈ R, x ∈ L) → R.Pairwise (fun a b => key a.2.1 < key b.2.1) → KeptIn L K R → ∃ s7' s9',
    runFor (st1 7) bodyKL (R.map (·.1)) [s0, s1, s2, s3, s4, .sh (.list ((L.filter (newF c)).map (·.1))), .sh (.tuple (K.map (·.1))), s7, s8, s9] = .nx [s0, s1, s2, s3, s4, .sh (.list ((L.filter (newF c)).map (·.1))), .sh (.tuple ((keepF c K R).map (·.1))), s7', s8, s9']
  | [], K, s7, s9, _, _, _ => ⟨s7, s9, rfl⟩
  | e :: R, K, s7, s9, hR, up, h => by
    have he := hR e (.head _)
    obtain ⟨s9', e1⟩ := law_step hB c h.sub (by have := h.len; omega) he s0 s1 s2 s3 s4 s8 s9
    obtain ⟨s7'', s9'', e2⟩ := law_loop hB c s0 s1 s2 s3 s4 s8 R _ (.sh e.1) s9' (fun x hx => hR x (.tail _ hx)) (List.pairwise_cons.mp up).2 (h.step he up (keepB c K e))
    refine ⟨s7'', s9'', ?_⟩
    rw [List.map_cons]
    unfold runFor
    simp only [st1, List.set_cons_zero, List.set_cons_succ]
    rw [e1]
    exact e2
theorem one_clock {L : List Ent} (hB : Book L) {c : List Int} (hc : Clk c) (cs : List (List Int)) (hcs : ∀ x ∈ cs, Clk x) (s0 s2 s5 s6 s7 s8 s9 : Sl) : ∃ s5' s6' s7' s8' s9',
    bodyO [s0, .sh (.tuple (L.map (·.1))), s2, .sh (.list (cs.map clk)), .sh (clk c), s5, s6, s7, s8, s9] = .nx [s0, .sh (.tuple (L.map (·.1))), s2, .sh (.list (cs.map clk)), .sh (clk c), s5', s6', s7', s8', s9'] := by
  have hf := fresh_ok hc hB.bk hB.len 1 4 [s0, .sh (.tuple (L.map (·.1))), s2, .sh (.list (cs.map clk)), .sh (clk c), s5, s6, s7, s8, s9] rfl rfl
  obtain ⟨s7', s9', e1⟩ := law_loop hB c s0 (.sh (.tuple (L.map (·.1)))) s2 (.sh (.list (cs.map clk))) (.sh (clk c)) s8 L [] s7 s9 (fun x hx => hx) hB.up ⟨(fun _ h => nomatch h), by have := hB.len; simpa using this, fun _ h => nomatch h⟩
  obtain ⟨k1, k2⟩ := kept_ok hB hc
  obtain ⟨s8', e2⟩ := later_loop hc s0 (.sh (.tuple (L.map (·.1)))) s2 (.sh (.list (cs.map clk))) (.sh (.list ((L.filter (newF c)).map (·.1)))) (.sh (.tuple ((keepF c [] L).map (·.1)))) s7' s9' cs s8 hcs
  refine ⟨.sh (.list ((L.filter (newF c)).map (·.1))), .sh (.tuple ((keepF c [] L).map (·.1))), s7', s8', s9', ?_⟩
  unfold bodyO
  have h1 : sNew 5 (lComp (fun δ => ((vVar 1) δ).bind seqOf) bind1 [4] (cVal (b2 (b2 (b2 (vVar 0) (vC (.int 1)) dIx) (vC (.int 0)) dIx) (b2 (vVar 1) (vIndexE (vC (.str "abcdefgh")) (b2 (b2 (vVar 0) (vC (.int 1)) dIx) (vC (.int 1)) dIx)) dIx) (dCmpS .Gt))) (vVar 0)) [s0, .sh (.tuple (L.map (·.1))), s2, .sh (.list (cs.map clk)), .sh (clk c), s5, s6, s7, s8, s9] = .nx [s0, .sh (.tuple (L.map (·.1))), s2, .sh (.list (cs.map clk)), .sh (clk c), .sh (.list ((L.filter (newF c)).map (·.1))), s6, s7, s8, s9] := by
    unfold sNew; rw [hf]; rfl
  rw [sSeq_nx h1, sSeq_if_f (cVal_ok (b2_ok (vCall_ok (aCons_ok rfl (aCons_ok rfl rfl)) (newer_ok hc hB.bk hB.len)) rfl (ne_list (Bk.sub hB.bk fun x hx => (List.mem_filter.mp hx).1))))]
  rw [sSeq_nx (sSet_ok (d := .tuple (([] : List Ent).map (·.1))) rfl)]
  simp only [List.set_cons_zero, List.set_cons_succ]
  have h2 : sFor (fun δ => ((vVar 1) δ).bind seqOf) (st1 7) bodyKL [s0, .sh (.tuple (L.map (·.1))), s2, .sh (.list (cs.map clk)), .sh (clk c), .sh (.list ((L.filter (newF c)).map (·.1))), .sh (.tuple (([] : List Ent).map (·.1))), s7, s8, s9] = .nx [s0, .sh (.tuple (L.map (·.1))), s2, .sh (.list (cs.map clk)), .sh (clk c), .sh (.list ((L.filter (newF c)).map (·.1))), .sh (.tuple ((keepF c [] L).map (·.1))), s7', s8, s9'] := e1
  unfold bodyKL at h2
  rw [sSeq_nx h2, sSeq_if_f (cVal_ok (b2_ok (vCall_ok (aCons_ok rfl (aCons_ok rfl rfl)) k1) rfl (ne_tup (Bk.sub hB.bk k2))))]
  unfold bodyLL at e2
  exact e2
theorem all_clocks {L : List Ent} (hB : Book L) (cs : List (List Int)) (hcs : ∀ x ∈ cs, Clk x) (s0 s2 : Sl) : ∀ (r : List (List Int)) (s4 s5 s6 s7 s8 s9 : Sl), (∀ x ∈ r, Clk x) → ∃ s4' s5' s6' s7' s8' s9',
    runFor (st1 4) bodyO (r.map clk) [s0, .sh (.tuple (L.map (·.1))), s2, .sh (.list (cs.map clk)), s4, s5, s6, s7, s8, s9] = .nx [s0, .sh (.tuple (L.map (·.1))), s2, .sh (.list (cs.map clk)), s4', s5', s6', s7', s8', s9']
  | [], s4, s5, s6, s7, s8, s9, _ => ⟨s4, s5, s6, s7, s8, s9, rfl⟩
  | c :: r, s4, s5, s6, s7, s8, s9, h => by
    obtain ⟨a5, a6, a7, a8, a9, e1⟩ := one_clock hB (h c (.head _)) cs hcs s0 s2 s5 s6 s7 s8 s9
    obtain ⟨b4, b5, b6, b7, b8, b9, e2⟩ := all_clocks hB cs hcs s0 s2 r (.sh (clk c)) a5 a6 a7 a8 a9 fun x hx => h x (.tail _ hx)
    refine ⟨b4, b5, b6, b7, b8, b9, ?_⟩
    rw [List.map_cons]
    unfold runFor
    simp only [st1, List.set_cons_zero, List.set_cons_succ]
    rw [e1]
    exact e2
theorem sFor_ok {src : Dn → Res (List PyData)} {st : PyData → Dn → Option Dn} {b : Dn → Out} {δ : Dn} {ds : List PyData} {o : Out} (h : src δ = .ok ds) (e : runFor st b ds δ = o) : sFor src st b δ = o := by
  unfold sFor; rw [h, thenS_ok, e]
theorem pure_law (ns : List Int) (hns : ns.length ≤ 63) : m_law [.list (ns.map PyData.int)] = .ok (.bool true) := by
  obtain ⟨x, y, z, en⟩ := names_ok ns hns 0 (by decide) (by decide)
  obtain ⟨L, eb, hB⟩ := book_book ns hns x y z
  obtain ⟨c1, hc1, e1⟩ := lawclock_ok ns hns 600 (by decide) (by decide) L hB.bk hB.len
  obtain ⟨c2, hc2, e2⟩ := lawclock_ok ns hns 640 (by decide) (by decide) L hB.bk hB.len
  have hdue := due_clk hB.bk
  have hcs : ∀ x ∈ [c1, c2, dueF L, [0, 0, 0, 0, 0, 0, 0, 0], [99, 99, 99, 99, 99, 99, 99, 99], [2, 2, 2, 2, 2, 2, 2, 2], [0, 4, 1, 0, 0, 0, 0, 0]], Clk x := fun x hx => by
    simp only [List.mem_cons, List.not_mem_nil, or_false] at hx
    rcases hx with rfl | rfl | rfl | rfl | rfl | rfl | rfl
    · exact hc1
    · exact hc2
    · exact hdue
    · exact ⟨rfl, by decide⟩
    · exact ⟨rfl, by decide⟩
    · exact ⟨rfl, by decide⟩
    · exact ⟨rfl, by decide⟩
  refine fn_rt ?_
  unfold sem_law N_law
  simp only [startD, List.map_cons, List.map_nil, List.length_cons, List.length_nil, List.replicate, List.cons_append, List.nil_append, Nat.reduceAdd, Nat.reduceSub]
  rw [sSeq_nx (sSet_ok (vCall_ok (aCons_ok rfl (aCons_ok rfl (aCons_ok rfl (aCons_ok (vCall_ok (aCons_ok rfl (aCons_ok rfl rfl)) en) rfl)))) eb))]
  simp only [List.set_cons_zero, List.set_cons_succ]
  rw [sSeq_nx (sSet_ok (due_ok L hB.bk hB.len 1 _ rfl))]
  simp only [List.set_cons_zero, List.set_cons_succ]
  rw [sSeq_if_f (cVal_ok (b2_ok (vCall_ok (aCons_ok rfl rfl) (clockof_ok hB)) rfl (ne_clk _)))]
  rw [sSeq_nx (sSet_ok (d := .list ([c1, c2, dueF L].map clk)) (vLst_ok (aCons_ok (vCall_ok (aCons_ok rfl (aCons_ok rfl (aCons_ok rfl rfl))) e1) (aCons_ok (vCall_ok (aCons_ok rfl (aCons_ok rfl (aCons_ok rfl rfl))) e2) (aCons_ok rfl rfl)))))]
  simp only [List.set_cons_zero, List.set_cons_succ]
  rw [sSeq_nx (sSet_ok (d := .list ([c1, c2, dueF L, [0, 0, 0, 0, 0, 0, 0, 0], [99, 99, 99, 99, 99, 99, 99, 99], [2, 2, 2, 2, 2, 2, 2, 2], [0, 4, 1, 0, 0, 0, 0, 0]].map clk)) (b2_ok rfl (vLst_ok (aCons_ok (b2_ok rfl rfl rfl) (aCons_ok (b2_ok rfl rfl rfl) (aCons_ok (b2_ok rfl rfl rfl) (aCons_ok (b2_ok rfl (b2_ok rfl rfl rfl) rfl) rfl))))) rfl))]
  simp only [List.set_cons_zero, List.set_cons_succ]
  obtain ⟨s4, s5, s6, s7, s8, s9, ea⟩ := all_clocks hB _ hcs (.sh (.list (ns.map PyData.int))) (.sh (clk (dueF L))) _ .un .un .un .un .un .un hcs
  unfold bodyO at ea
  rw [sSeq_nx (sFor_ok (src := fun δ => ((vVar 3) δ).bind seqOf) rfl ea)]
  have hB0 : Book [] := ⟨(fun _ h => nomatch h), .nil, by decide⟩
  have z0 : Clk [0, 0, 0, 0, 0, 0, 0, 0] := ⟨rfl, by decide⟩
  have z9 : Clk [9, 9, 9, 9, 9, 9, 9, 9] := ⟨rfl, by decide⟩
  have q1 := clockof_ok hB0
  have q2 := (kept_ok hB0 z9).1
  have q3 := newer_ok z0 hB0.bk hB0.len
  refine sRet_ok ?_
  rw [vAnd_t _ _ _ (b2_ok (vCall_ok (aCons_ok rfl rfl) q1) (b2_ok rfl rfl rfl) rfl)]
  rw [vAnd_t _ _ _ (b2_ok (vCall_ok (aCons_ok rfl (aCons_ok (b2_ok rfl rfl rfl) rfl)) q2) rfl rfl)]
  exact b2_ok (vCall_ok (aCons_ok rfl (aCons_ok (b2_ok rfl rfl rfl) rfl)) q3) rfl rfl
end Sm
end
set_option maxRecDepth 100000 in
set_option maxHeartbeats 0 in
theorem PySem.Challenge.cw_staymark_k48_clocks_holds : PySem.Challenge.rw_staymark_k48_clocks.Holds := by
  w_on; o_law; k_head; (case hw => w_witness2)
  k_fill
  refine Sm.walkD (l := PySem.Challenge.rw_staymark_k48_clocks) rfl rfl rfl (fun w h Y => PySem.W.kIn_of Y) (fun w => ?hK) ?F Sm.pure_law
  case hK => kernel_rfl
  case F =>
    intro w mg h KX G
    refine' ⟨⟨?b0, ?b1, ?b2, ?b3, ?b4, ?b5, ?b6, ?b7, ?c0⟩, ⟨?d0, ?d1, ?d2, ?d3, ?d4, ?d5, ?d6, ?d7, ?d8, ?d9, ?d10, ?d11, ?d12, ?d13, ?d14, ?d15, ?d16, ?d17, ?d18, ?d19⟩⟩
    case b0 => (refine' PySem.W.mg_none_of KX G ?z; (case z => k_is))
    case b1 => (refine' PySem.W.mg_none_of KX G ?z; (case z => k_is))
    case b2 => (refine' PySem.W.mg_none_of KX G ?z; (case z => k_is))
    case b3 => (refine' PySem.W.mg_none_of KX G ?z; (case z => k_is))
    case b4 => (refine' PySem.W.mg_none_of KX G ?z; (case z => k_is))
    case b5 => (refine' PySem.W.mg_none_of KX G ?z; (case z => k_is))
    case b6 => (refine' PySem.W.mg_none_of KX G ?z; (case z => k_is))
    case b7 => (refine' PySem.W.mg_none_of KX G ?z; (case z => k_is))
    case c0 => (refine' ⟨_, (PySem.W.mg_of KX G ?z).trans ?e⟩; (case z => k_is); (case e => exact rfl))
    case d0 => (refine' Sm.def_mk KX G ?a ?l ?c ?k (fun _ _ _ _ _ _ us hl => match us, hl with | [_], _ => rfl); (case a => k_is); (case l => k_is); (case c => k_is); (case k => k_is))
    case d1 => (refine' Sm.def_mk KX G ?a ?l ?c ?k (fun _ _ _ _ _ _ us hl => match us, hl with | [_], _ => rfl); (case a => k_is); (case l => k_is); (case c => k_is); (case k => k_is))
    case d2 => (refine' Sm.def_mk KX G ?a ?l ?c ?k (fun _ _ _ _ _ _ us hl => match us, hl with | [_], _ => rfl); (case a => k_is); (case l => k_is); (case c => k_is); (case k => k_is))
    case d3 => (refine' Sm.def_mk KX G ?a ?l ?c ?k (fun _ _ _ _ _ _ us hl => match us, hl with | [_, _], _ => rfl); (case a => k_is); (case l => k_is); (case c => k_is); (case k => k_is))
    case d4 => (refine' Sm.def_mk KX G ?a ?l ?c ?k (fun _ _ _ _ _ _ us hl => match us, hl with | [_], _ => rfl); (case a => k_is); (case l => k_is); (case c => k_is); (case k => k_is))
    case d5 => (refine' Sm.def_mk KX G ?a ?l ?c ?k (fun _ _ _ _ _ _ us hl => match us, hl with | [_, _], _ => rfl); (case a => k_is); (case l => k_is); (case c => k_is); (case k => k_is))
    case d6 => (refine' Sm.def_mk KX G ?a ?l ?c ?k (fun _ _ _ _ _ _ us hl => match us, hl with | [_, _], _ => rfl); (case a => k_is); (case l => k_is); (case c => k_is); (case k => k_is))
    case d7 => (refine' Sm.def_mk KX G ?a ?l ?c ?k (fun _ _ _ _ _ _ us hl => match us, hl with | [_, _], _ => rfl); (case a => k_is); (case l => k_is); (case c => k_is); (case k => k_is))
    case d8 => (refine' Sm.def_mk KX G ?a ?l ?c ?k (fun _ _ _ _ _ _ us hl => match us, hl with | [_, _], _ => rfl); (case a => k_is); (case l => k_is); (case c => k_is); (case k => k_is))
    case d9 => (refine' Sm.def_mk KX G ?a ?l ?c ?k (fun _ _ _ _ _ _ us hl => match us, hl with | [_, _], _ => rfl); (case a => k_is); (case l => k_is); (case c => k_is); (case k => k_is))
    case d10 => (refine' Sm.def_mk KX G ?a ?l ?c ?k (fun _ _ _ _ _ _ us hl => match us, hl with | [_, _, _], _ => rfl); (case a => k_is); (case l => k_is); (case c => k_is); (case k => k_is))
    case d11 => (refine' Sm.def_mk KX G ?a ?l ?c ?k (fun _ _ _ _ _ _ us hl => match us, hl with | [_, _], _ => rfl); (case a => k_is); (case l => k_is); (case c => k_is); (case k => k_is))
    case d12 => (refine' Sm.def_mk KX G ?a ?l ?c ?k (fun _ _ _ _ _ _ us hl => match us, hl with | [_, _], _ => rfl); (case a => k_is); (case l => k_is); (case c => k_is); (case k => k_is))
    case d13 => (refine' Sm.def_mk KX G ?a ?l ?c ?k (fun _ _ _ _ _ _ us hl => match us, hl with | [_], _ => rfl); (case a => k_is); (case l => k_is); (case c => k_is); (case k => k_is))
    case d14 => (refine' Sm.def_mk KX G ?a ?l ?c ?k (fun _ _ _ _ _ _ us hl => match us, hl with | [_, _, _], _ => rfl); (case a => k_is); (case l => k_is); (case c => k_is); (case k => k_is))
    case d15 => (refine' Sm.def_mk KX G ?a ?l ?c ?k (fun _ _ _ _ _ _ us hl => match us, hl with | [_, _, _, _, _], _ => rfl); (case a => k_is); (case l => k_is); (case c => k_is); (case k => k_is))
    case d16 => (refine' Sm.def_mk KX G ?a ?l ?c ?k (fun _ _ _ _ _ _ us hl => match us, hl with | [_, _, _, _], _ => rfl); (case a => k_is); (case l => k_is); (case c => k_is); (case k => k_is))
    case d17 => (refine' Sm.def_mk KX G ?a ?l ?c ?k (fun _ _ _ _ _ _ us hl => match us, hl with | [_], _ => rfl); (case a => k_is); (case l => k_is); (case c => k_is); (case k => k_is))
    case d18 => (refine' Sm.def_mk KX G ?a ?l ?c ?k (fun _ _ _ _ _ _ us hl => match us, hl with | [_, _, _], _ => rfl); (case a => k_is); (case l => k_is); (case c => k_is); (case k => k_is))
    case d19 => (refine' Sm.def_mk KX G ?a ?l ?c ?k (fun _ _ _ _ _ _ us hl => match us, hl with | [_], _ => rfl); (case a => k_is); (case l => k_is); (case c => k_is); (case k => k_is))
