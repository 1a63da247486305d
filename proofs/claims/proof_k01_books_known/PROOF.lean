import PyProof.Rows.All
import Wide.All
import OpenK.AllK
import Wide.FinOn
import Lean
import PySem.SetOps
import PyProof.SetScanFacts
import PyProof.SetKind
import PyProof.IsRules
import PyProof.EqAt
import PyProof.EqKinds
import PyProof.TupleCall
import PyProof.TupleKey
import PyProof.P3Eq
import Wide.Seal
import PyProof.Rows.SetFrom
import PyProof.DictWalks
import KE.KDictList
import PyProof.SetRoads
import PyProof.SetNew
import PyProof.WalksMore
import PyProof.FactsAll.subtypes_4
import PyProof.TupleIter
import PyProof.StrCalls
import PyProof.SeqI3
import PyProof.Draws
import PyProof.EnumMake
import PyProof.DictValues
import PyProof.TupleOfSeq
import PyProof.TupleOfGen
import PyProof.AttrMiss
import PyProof.IsiH_list
import KE.KRevIter
import PyProof.MinMaxWalk
import PyProof.Rows.CallKwBuiltin
import KE.KSortTup
import PyProof.Rows.SortWalk
import PyProof.Rows.SortShell
import PyProof.DictIter
import PyProof.P3In
import PyProof.Rows.SortStr
import PyProof.MeetsStr
import PyProof.FactsAll.str_6
import PyProof.StrCalls2
import PyProof.MeetsStr2
import KE.KIntText
import PyProof.SliceStr2
import PyProof.Rows.Range3
import PySem.Challenge.RW_staymark_k01_books_known
set_option Elab.async false
set_option linter.all false
set_option maxRecDepth 100000
set_option maxHeartbeats 4000000
set_option compiler.extract_closed false
set_option bootstrap.genMatcherCode false
set_option genSizeOf false
section
namespace Sm
open PySem PySem.SetTable
theorem Cu {xs:Array Nat} (hr:xs.toList.Pairwise (· < ·)) {a b d:Nat} (h:a < b) (hb:b < xs.size):xs.getD a d < xs.getD b d:=by
 have ha:a < xs.size:=by lia
 have:=(List.pairwise_iff_getElem.mp hr) a b (by simpa using ha) (by simpa using hb) h
 simpa [Array.getD,ha,hb] using this
theorem lS (xs:Array Nat) (j:Nat) (hr:xs.toList.Pairwise (· < ·)) :
   ∀ (fuel lo hi:Nat),lo<=hi->hi<=xs.size->hi - lo<=fuel->(∀ i,i < lo->xs.getD i j < j)->(∀ i,hi<=i->i < xs.size->j<=xs.getD i j) ->
     below.go xs j fuel lo hi<=hi/\(∀ i,i < below.go xs j fuel lo hi->xs.getD i j < j)/\(∀ i,below.go xs j fuel lo hi<=i->i < xs.size->j<=xs.getD i j):=by
 intro iN; induction iN with
 | zero =>
   intro lo hi h1 h2 h3 h4 h5; have:lo=hi:=by lia
   subst this; exact ⟨Nat.le_refl _,h4,h5⟩
 | succ fuel ih =>
   intro lo hi h1 h2 h3 h4 h5; unfold below.go
   by_cases hl:lo < hi
   . rw [if_pos hl]
     by_cases hm:xs.getD ((lo+hi) / 2) j < j
     . simp only [hm,if_true]
       refine ih _ hi (by lia) h2 (by lia) ?_ h5
       intro i hi'
       by_cases he:i=(lo+hi) / 2
       . subst he; exact hm
       . exact Nat.lt_trans (Cu hr (by lia) (by lia)) hm
     . simp only [hm,if_false]
       have r:=ih lo ((lo+hi) / 2) (by lia) (by lia) (by lia) h4 (by
         intro i hi' hs
         by_cases he:i=(lo+hi) / 2
         . subst he; lia
         . have:=Cu hr (d:=j) (show (lo+hi) / 2 < i by lia) hs
           lia)
       exact ⟨by lia,r.2⟩
   . rw [if_neg hl]
     have:lo=hi:=by lia
     subst this; exact ⟨Nat.le_refl _,h4,h5⟩
theorem Bh (xs:Array Nat) (j:Nat) (hr:xs.toList.Pairwise (· < ·)) :
   below xs j<=xs.size/\(∀ i,i < below xs j->xs.getD i j < j)/\(∀ i,below xs j<=i->i < xs.size->j<=xs.getD i j) :=
 lS xs j hr xs.size 0 xs.size (Nat.zero_le _) (Nat.le_refl _) (by lia) (fun _ h=>absurd h (Nat.not_lt_zero _)) (fun _ h h'=>absurd h' (by lia))
theorem Fp {xs:Array Nat} (hr:xs.toList.Pairwise (· < ·)) {i j:Nat} (h:xs[i]? = some j):below xs j=i:=by
 obtain ⟨h1,h2,h3⟩:=Bh xs j hr
 have hi:i < xs.size:=by
   rcases Nat.lt_or_ge i xs.size with h' | h'
   . exact h'
   . rw [Array.getElem?_eq_none h'] at h; exact nomatch h
 have e:xs.getD i j=j:=by simp only [Array.getD,hi,dif_pos]; rw [Array.getElem?_eq_getElem hi] at h; simpa using h
 rcases Nat.lt_trichotomy (below xs j) i with hl | hl | hl
 . have a:=h3 _ (Nat.le_refl _) (by lia)
   have b:=Cu hr (d:=j) hl hi
   lia
 . exact hl
 . have:=h2 i hl; lia
theorem cU (j:Nat):has #[] j=false:=rfl
theorem Sy {t:SetTable} (hr:t.place.toList.Pairwise (· < ·)) {i j:Nat} (h:t.place[i]? = some j):t.slot j=.live i:=by
 unfold slot
 simp only [Fp hr h,h,beq_self_eq_true,if_true]
theorem Zq {t:SetTable} (hd:t.dummies = #[]) {j:Nat} (h:j∉t.place.toList):t.slot j=.empty:=by
 unfold slot
 have:(t.place[below t.place j]? == some j)=false:=by
   rw [beq_eq_false_iff_ne]; intro e; exact h (by rw [<- Array.mem_def]; exact Array.mem_of_getElem? e)
 simp only [this,hd,cU,Bool.false_eq_true,if_false]
noncomputable def adv (mask:Nat) (p:Probe):Probe :=
 if p.more>0 then { p with j:=p.j+1,more:=p.more - 1 } else
 { p with j:=(leap mask p.i p.perturb).1,more:=runEnd mask (leap mask p.i p.perturb).1 - (leap mask p.i p.perturb).1,i:=(leap mask p.i p.perturb).1,perturb:=(leap mask p.i p.perturb).2 }
noncomputable def stW (mask:Nat) (h:Int):Nat->Probe
 | 0=>{ j:=bits h % (mask+1),more:=runEnd mask (bits h % (mask+1)) - bits h % (mask+1),i:=bits h % (mask+1),perturb:=bits h,dummy:=none }
 | n+1=>adv mask (stW mask h n)
theorem Lb {mask i:Nat} (h:i<=mask):runEnd mask i<=mask:=by unfold runEnd; split <;> lia
theorem Lh (mask i:Nat):i<=runEnd mask i:=by unfold runEnd; split <;> lia
theorem aI (mask i:Nat):runEnd mask i - i<=9:=by unfold runEnd; split <;> lia
theorem Nq (mask:Nat) (h:Int):∀ n,(stW mask h n).dummy=none/\(stW mask h n).j+(stW mask h n).more<=mask
 | 0 => ⟨rfl, by
     have:bits h % (mask+1) < mask+1:=Nat.mod_lt _ (by lia)
     have a:=Lb (mask:=mask) (i:=bits h % (mask+1)) (by lia)
     have b:=Lh mask (bits h % (mask+1)); simp only [stW]; lia⟩
 | n+1=>by
   obtain ⟨h1,h2⟩:=Nq mask h n; simp only [stW,adv]
   split
   . exact ⟨h1,by simp only; lia⟩
   . refine ⟨h1,?_⟩
     have:(leap mask (stW mask h n).i (stW mask h n).perturb).1 < mask+1:=Nat.mod_lt _ (by lia)
     have a:=Lb (mask:=mask) (i:=(leap mask (stW mask h n).i (stW mask h n).perturb).1) (by lia)
     have b:=Lh mask (leap mask (stW mask h n).i (stW mask h n).perturb).1; simp only; lia
noncomputable def I0 (mask:Nat) (h:Int):Nat->Nat×Nat
 | 0=>(bits h % (mask+1),bits h)
 | k+1=>leap mask (I0 mask h k).1 (I0 mask h k).2
theorem Ul (mask:Nat) (h:Int) (n i pt:Nat) (hn:stW mask h n={ j:=i,more:=runEnd mask i - i,i:=i,perturb:=pt,dummy:=none }) :
   ∀ m,m<=runEnd mask i - i->stW mask h (n+m)={ j:=i+m,more:=runEnd mask i - i - m,i:=i,perturb:=pt,dummy:=none }
 | 0,_=>by simpa using hn
 | m+1,hm=>by
   have r:=Ul mask h n i pt hn m (by lia)
   show adv mask (stW mask h (n+m))=_
   rw [r]; unfold adv; rw [if_pos (show runEnd mask i - i - m>0 by lia)]
   simp only [Probe.mk.injEq,and_true,true_and]
   lia
theorem iG (mask:Nat) (h:Int):∀ k,∃ n,n<=10*k /\
   stW mask h n={ j:=(I0 mask h k).1,more:=runEnd mask (I0 mask h k).1 - (I0 mask h k).1,i:=(I0 mask h k).1,perturb:=(I0 mask h k).2,dummy:=none }:=by
 intro iN; induction iN with
 | zero=>skip; exact ⟨0,Nat.le_refl _,rfl⟩
 | succ k ih =>
   skip
   obtain ⟨n,h1,h2⟩:=ih; have r:=Ul mask h n _ _ h2 _ (Nat.le_refl _); have b:=aI mask (I0 mask h k).1; refine ⟨n+(runEnd mask (I0 mask h k).1 - (I0 mask h k).1)+1,by lia,?_⟩
   show adv mask (stW mask h (n+_))=_
   rw [r]; unfold adv; rw [if_neg (by simp)]; rfl
noncomputable def fC (mask i:Nat):Nat:=(i*5+1) % (mask+1)
noncomputable def itC (mask:Nat):Nat->Nat->Nat
 | 0,a=>a
 | n+1,a=>itC mask n (fC mask a)
theorem Nv (mask:Nat):∀ m n a,itC mask (m+n) a=itC mask n (itC mask m a):=by
 intro iN; induction iN with
 | zero=>intro n a; simp [itC]
 | succ m ih =>
   intro n a; have:m+1+n=(m+n)+1:=by lia
   rw [this]; simp only [itC]; exact ih n _
theorem kQ (mask n a:Nat):itC mask (n+1) a=fC mask (itC mask n a):=by rw [Nv]; rfl
noncomputable def bV (mask:Nat):Nat->Nat->List Nat
 | 0,_=>[]
 | n+1,a=>a::bV mask n (fC mask a)
theorem Sr (mask:Nat):∀ n a e,e∈bV mask n a->∃ m,m < n/\itC mask m a=e:=by
 intro iN; induction iN with
 | zero=>intro a e h; exact nomatch h
 | succ n ih =>
   intro a e h; simp only [bV,List.mem_cons] at h; rcases h with h | h
   . exact ⟨0,by lia,h.symm⟩
   . obtain ⟨m,h1,h2⟩:=ih _ e h
     exact ⟨m+1,by lia,h2⟩
noncomputable def Tl (mask:Nat):Bool:=((List.range (mask+1)).all fun e=>(bV mask (mask+1) 0).contains e)&&itC mask (mask+1) 0==0
noncomputable def T6 (mask:Nat):Bool:=mask==7||mask==31||mask==127||mask==511
theorem full7:Tl 7=true:=by decide +kernel
theorem vG:Tl 31=true:=by decide +kernel
theorem pD:Tl 127=true:=by decide +kernel
theorem pC:Tl 511=true:=by decide +kernel
theorem pB {mask:Nat} (h:T6 mask=true):Tl mask=true:=by
 simp only [T6,Bool.or_eq_true,beq_iff_eq] at h
 rcases h with ((h | h) | h) | h <;> subst h
 . exact full7
 . exact vG
 . exact pD
 . exact pC
theorem qV {mask:Nat} (h:T6 mask=true) {a e:Nat} (ha:a<=mask) (he:e<=mask):∃ m,m<=mask/\itC mask m a=e:=by
 have f:=pB h
 simp only [Tl,Bool.and_eq_true,List.all_eq_true,beq_iff_eq,List.mem_range,List.contains_iff_mem] at f
 obtain ⟨r,hr,er⟩:=Sr mask _ _ _ (f.1 a (by lia))
 obtain ⟨s,hs,es⟩:=Sr mask _ _ _ (f.1 e (by lia))
 by_cases c:r<=s
 . refine ⟨s - r,by lia,?_⟩
   rw [<- er,<- Nv,<- es]; congr 1; lia
 . refine ⟨s+(mask+1) - r,by lia,?_⟩
   rw [<- er,<- Nv,<- es]; have:r+(s+(mask+1) - r)=(mask+1)+s:=by lia
   rw [this,Nv,f.2]
theorem qF (h:Int):bits h < 2 ^ 64:=by
 unfold bits
 have:=Int.emod_lt_of_pos h (b:=(2 ^ 64:Int)) (by decide)
 have:=Int.emod_nonneg h (b:=(2 ^ 64:Int)) (by decide)
 lia
theorem oK (mask:Nat) (h:Int):∀ k,(I0 mask h k).2=bits h / 32 ^ k:=by
 intro iN; induction iN with
 | zero=>skip; simp [I0]
 | succ k ih =>
   skip
   simp only [I0,leap,ih]; rw [Nat.div_div_eq_div_mul,Nat.pow_succ]
theorem kI (mask:Nat) (h:Int) (m:Nat):(I0 mask h (13+m)).2=0:=by
 rw [oK]
 apply Nat.div_eq_of_lt
 have a:=qF h
 have b:32 ^ 13<=32 ^ (13+m):=Nat.pow_le_pow_right (by decide) (by lia)
 have c:(2 ^ 64:Nat) < 32 ^ 13:=by decide
 lia
theorem cS (mask:Nat) (h:Int):∀ m,(I0 mask h (13+m)).1=itC mask m (I0 mask h 13).1:=by
 intro iN; induction iN with
 | zero=>skip; exact rfl
 | succ m ih =>
   skip
   rw [kQ,<- ih]; show (leap mask (I0 mask h (13+m)).1 (I0 mask h (13+m)).2).1=_
   rw [kI]; simp [leap,fC]
theorem Vo (mask:Nat) (h:Int):∀ k,(I0 mask h k).1<=mask:=by
 intro iN; induction iN with
 | zero=>skip; exact Nat.le_of_lt_succ (Nat.mod_lt _ (by lia))
 | succ k ih=>skip; exact Nat.le_of_lt_succ (Nat.mod_lt _ (by lia))
theorem vW {mask:Nat} (hm:T6 mask=true) (h:Int) {e:Nat} (he:e<=mask):∃ n,n < 10*turns mask/\(stW mask h n).j=e:=by
 obtain ⟨m,h1,h2⟩:=qV hm (Vo mask h 13) he
 obtain ⟨n,h3,h4⟩:=iG mask h (13+m)
 refine ⟨n,by unfold turns; lia,?_⟩
 rw [h4]; simp only [cS,h2]
theorem few:∀ (n:Nat) (L:List Nat),(∀ e,e < n->e∈L)->n<=L.length:=by
 intro iN; induction iN with
 | zero=>intro _ _; exact Nat.zero_le _
 | succ n ih =>
   intro L h; have a:=h n (by lia)
   have b:=ih (L.erase n) (fun e he=>(List.mem_erase_of_ne (by lia)).mpr (h e (by lia)))
   have c:=List.length_erase_of_mem a; have d:=List.length_pos_of_mem a
   lia
theorem room {L:List Nat} {mask:Nat} (h:L.length<=mask):∃ e,e<=mask/\e∉L:=by
 by_cases c:∃ e,e<=mask/\e∉L
 . exact c
 . have:=few (mask+1) L (fun e he=>Classical.byContradiction fun hn=>c ⟨e,by lia,hn⟩)
   lia
end Sm
end
section
namespace Sm
open PySem PySem.SetTable
structure Good (t:SetTable) (hs:Array Int):Prop where
 dum:t.dummies = #[]
 ris:t.place.toList.Pairwise (· < ·)
 bnd:∀ j,j∈t.place.toList->j<=t.mask
 siz:t.place.size=hs.size
 msk:T6 t.mask=true
 fil:t.place.size<=t.mask
 pth:∀ (i j:Nat) (h:Int),t.place[i]? = some j->hs[i]? = some h->∃ n,(stW t.mask h n).j=j/\∀ m,m < n->(stW t.mask h m).j∈t.place.toList
theorem eU {t:SetTable} {j:Nat} (h:j∈t.place.toList):∃ i:Nat,t.place[i]? = some j:=by
 rw [<- Array.mem_def] at h
 obtain ⟨i,hi,e⟩:=Array.getElem_of_mem h
 exact ⟨i,by rw [Array.getElem?_eq_getElem hi,e]⟩
theorem Tb {t:SetTable} {i j:Nat} (h:t.place[i]? = some j):j∈t.place.toList:=by
 rw [<- Array.mem_def]; exact Array.mem_of_getElem? h
theorem pA {t:SetTable} {hs:Array Int} (G:Good t hs) (hashAt:Nat->Int) (h:Int) (N:Nat) (hN:(stW t.mask h N).j∉t.place.toList) :
   ∀ (fuel n:Nat),n<=N->N - n < fuel->(∀ m,m < n->(stW t.mask h m).j∈t.place.toList) ->
     ∃ n',n<=n'/\n'<=N/\(∀ m,m < n'->(stW t.mask h m).j∈t.place.toList)/\(∀ m i,n<=m->m < n'->t.place[i]? = some (stW t.mask h m).j->hashAt i≠h) /\
       ((probe.go t hashAt h fuel (stW t.mask h n)=some (.empty (stW t.mask h n').j none)/\(stW t.mask h n').j∉t.place.toList) \/
        (∃ i,probe.go t hashAt h fuel (stW t.mask h n)=some (.candidate (stW t.mask h n').j i (stW t.mask h (n'+1)))/\t.place[i]? = some (stW t.mask h n').j/\hashAt i=h/\n' < N)):=by
 intro iN; induction iN with
 | zero=>intro n h1 h2 _; exact absurd h2 (Nat.not_lt_zero _)
 | succ fuel ih =>
   intro n h1 h2 h3; unfold probe.go
   by_cases c:(stW t.mask h n).j∈t.place.toList
   . obtain ⟨i,hi⟩:=eU c
     have hlt:n < N:=by
       rcases Nat.lt_or_ge n N with a | a
       . exact a
       . have:n=N:=by lia
         subst this; exact absurd c hN
     simp only [Sy G.ris hi]
     by_cases e:hashAt i=h
     . refine ⟨n,Nat.le_refl _,h1,h3,fun m i a b=>absurd b (by lia),.inr ⟨i,?_,hi,e,hlt⟩⟩
       simp only [e,beq_self_eq_true,if_true]; rfl
     . have e':(hashAt i==h)=false:=by simpa using e
       simp only [e',Bool.false_eq_true,if_false]; obtain ⟨n',a1,a2,a3,a4,a5⟩:=ih (n+1) (by lia) (by lia) (fun m hm=>by
         by_cases em:m=n
         . subst em; exact c
         . exact h3 m (by lia))
       refine ⟨n',by lia,a2,a3,?_,a5⟩
       intro m i' b1 b2 b3
       by_cases em:m=n
       . subst em
         rw [<- Fp G.ris b3,Fp G.ris hi]; exact e
       . exact a4 m i' (by lia) b2 b3
   . simp only [Zq G.dum c]
     refine ⟨n,Nat.le_refl _,h1,h3,fun m i a b=>absurd b (by lia),.inl ⟨?_,c⟩⟩
     simp only [(Nq t.mask h n).1]
theorem hole {t:SetTable} {hs:Array Int} (G:Good t hs) (h:Int):∃ N,N < 10*turns t.mask/\(stW t.mask h N).j∉t.place.toList:=by
 obtain ⟨e,h1,h2⟩:=room (L:=t.place.toList) (mask:=t.mask) (by simpa using G.fil)
 obtain ⟨n,h3,h4⟩:=vW G.msk h h1
 exact ⟨n,h3,by rw [h4]; exact h2⟩
theorem aN {t:SetTable} {hs:Array Int} (G:Good t hs) (hashAt:Nat->Int) (h:Int) (n:Nat) (hl:∀ m,m < n->(stW t.mask h m).j∈t.place.toList) :
   ∃ n', n <= n' /\ n' < 10 * turns t.mask /\ (∀ m, m < n' -> (stW t.mask h m).j ∈ t.place.toList) /\ (∀ m i, n <= m -> m < n' -> t.place[i]? = some (stW t.mask h m).j -> hashAt i ≠ h) /\
       ((t.probe hashAt h (stW t.mask h n)=some (.empty (stW t.mask h n').j none)/\(stW t.mask h n').j∉t.place.toList) \/
        (∃ i,t.probe hashAt h (stW t.mask h n)=some (.candidate (stW t.mask h n').j i (stW t.mask h (n'+1)))/\t.place[i]? = some (stW t.mask h n').j/\hashAt i=h/\n'+1 < 10*turns t.mask)):=by
 obtain ⟨N,h1,h2⟩:=hole G h
 have hnN:n<=N:=by
   rcases Nat.lt_or_ge N n with a | a
   . exact absurd (hl N a) h2
   . exact a
 obtain ⟨n',a1,a2,a3,a4,a5⟩:=pA G hashAt h N h2 (10*turns t.mask) n hnN (by lia) hl
 refine ⟨n',a1,by lia,a3,a4,?_⟩
 rcases a5 with a5 | ⟨i,b1,b2,b3,b4⟩
 . exact .inl a5
 . exact .inr ⟨i,b1,b2,b3,by lia⟩
theorem aT {t:SetTable} {hs:Array Int} (G:Good t hs) {h:Int} {n:Nat} (he:(stW t.mask h n).j∉t.place.toList) {i:Nat} (hi:hs[i]? = some h) :
   ∃ m,m < n/\t.place[i]? = some (stW t.mask h m).j:=by
 have hs':i < t.place.size:=by
   rw [G.siz]; rcases Nat.lt_or_ge i hs.size with h' | h'
   . exact h'
   . rw [Array.getElem?_eq_none h'] at hi; exact nomatch hi
 have e:t.place[i]? = some t.place[i]:=Array.getElem?_eq_getElem hs'
 obtain ⟨k,h1,h2⟩:=G.pth i _ h e hi
 refine ⟨k,?_,by rw [h1]; exact e⟩
 rcases Nat.lt_trichotomy k n with a | a | a
 . exact a
 . subst a; rw [h1] at he; exact absurd (Tb e) he
 . exact absurd (h2 n a) he
theorem Js {α:Type} (xs:Array α) (p:Nat) (x:α) (hp:p<=xs.size) (i:Nat) :
   (insertAt xs p x)[i]? = if i < p then xs[i]? else if i=p then some x else xs[i - 1]? := by
 have e:(insertAt xs p x)[i]? = (xs.toList.take p++x::xs.toList.drop p)[i]? := by rw [<- SetTable.toList_insertAt]; simp
 rw [e]
 have hl:(xs.toList.take p).length=p:=by simp; lia
 by_cases c:i < p
 . rw [if_pos c,List.getElem?_append_left (by lia),List.getElem?_take_of_lt c]; simp
 . rw [if_neg c,List.getElem?_append_right (by lia),hl]
   by_cases d:i=p
   . rw [if_pos d]; subst d; simp
   . rw [if_neg d]
     obtain ⟨k,rfl⟩:∃ k,i=p+k+1:=⟨i - p - 1,by lia⟩
     have:p+k+1 - p=k+1:=by lia
     rw [this,List.getElem?_cons_succ,List.getElem?_drop]; simp
theorem T7 {α:Type} (xs:Array α) (p:Nat) (x:α) (hp:p<=xs.size):(insertAt xs p x).size=xs.size+1:=by
 have:=congrArg List.length (SetTable.toList_insertAt xs p x)
 simp at this
 lia
theorem Sc {xs:Array Nat} (hr:xs.toList.Pairwise (· < ·)) {j:Nat} (hj:j∉xs.toList):(insertAt xs (below xs j) j).toList.Pairwise (· < ·):=by
 obtain ⟨h1,h2,h3⟩:=Bh xs j hr
 rw [SetTable.toList_insertAt,List.pairwise_append]
 have ht:∀ a,a∈xs.toList.take (below xs j)->a < j:=by
   intro a ha; obtain ⟨i,hi,e⟩:=List.getElem_of_mem ha; have hi':i < below xs j:=by simp at hi; lia
   have:=h2 i hi'; have hs:i < xs.size:=by lia
   simp only [List.getElem_take,Array.getElem_toList] at e
   simpa [Array.getD,hs,e] using this
 have hd:∀ a,a∈xs.toList.drop (below xs j)->j < a:=by
   intro a ha; have hm:=List.mem_of_mem_drop ha; obtain ⟨i,hi,e⟩:=List.getElem_of_mem ha; simp only [List.getElem_drop,Array.getElem_toList] at e; simp at hi
   have:=h3 (below xs j+i) (by lia) (by lia)
   have hs:below xs j+i < xs.size:=by lia
   simp [Array.getD,hs,e] at this
   rcases Nat.lt_or_ge j a with c | c
   . exact c
   . have:j=a:=by lia
     subst this; exact absurd hm hj
 refine ⟨hr.sublist (List.take_sublist _ _),?_,?_⟩
 . rw [List.pairwise_cons]
   exact ⟨hd,hr.sublist (List.drop_sublist _ _)⟩
 . intro a ha b hb
   rw [List.mem_cons] at hb; rcases hb with hb | hb
   . subst hb; exact ht a ha
   . exact Nat.lt_trans (ht a ha) (hd b hb)
theorem Dj {α:Type} (xs:Array α) (p:Nat) (x y:α):y∈(insertAt xs p x).toList↔y=x\/y∈xs.toList:=by
 rw [(SetTable.insertAt_perm xs p x).mem_iff,Array.toList_push]
 simp [or_comm]
theorem lA {t:SetTable} {hs:Array Int} (G:Good t hs) {h:Int} {n:Nat} (he:(stW t.mask h n).j∉t.place.toList)
   (hl:∀ m,m < n->(stW t.mask h m).j∈t.place.toList) (hf:t.place.size+1<=t.mask) :
   Good (t.put (stW t.mask h n).j).1 (insertAt hs (t.put (stW t.mask h n).j).2 h):=by
 obtain ⟨b1,_,_⟩:=Bh t.place (stW t.mask h n).j G.ris
 have hm:=(Nq t.mask h n).2
 generalize hj:(stW t.mask h n).j=j at he b1 hm ⊢
 have hdum:(t.put j).1.dummies = #[]:=by simp [put,G.dum,cU]
 have hpl:(t.put j).1.place=insertAt t.place (below t.place j) j:=rfl
 have hmk:(t.put j).1.mask=t.mask:=rfl
 have hp:(t.put j).2=below t.place j:=rfl
 have bh:below t.place j<=hs.size:=by rw [<- G.siz]; exact b1
 refine ⟨hdum,?_,?_,?_,?_,?_,?_⟩
 . rw [hpl]; exact Sc G.ris he
 . rw [hpl,hmk]
   intro k hk; rw [Dj] at hk; rcases hk with hk | hk
   . subst hk; lia
   . exact G.bnd k hk
 . rw [hpl,hp,T7 _ _ _ b1,T7 _ _ _ bh,G.siz]
 . rw [hmk]; exact G.msk
 . rw [hpl,hmk,T7 _ _ _ b1]; exact hf
 . rw [hpl,hmk,hp]
   intro i k h' e1 e2; rw [Js _ _ _ b1] at e1; rw [Js _ _ _ bh] at e2; have old:∀ i':Nat,t.place[i']? = some k->hs[i']? = some h'->∃ n,(stW t.mask h' n).j=k/\∀ m,m < n->(stW t.mask h' m).j∈(insertAt t.place (below t.place j) j).toList:=by
     intro i' f1 f2; obtain ⟨n',g1,g2⟩:=G.pth i' k h' f1 f2; exact ⟨n',g1,fun m hm=>(Dj _ _ _ _).mpr (.inr (g2 m hm))⟩
   by_cases c:i < below t.place j
   . rw [if_pos c] at e1 e2; exact old i e1 e2
   . rw [if_neg c] at e1 e2
     by_cases d:i=below t.place j
     . rw [if_pos d] at e1 e2
       cases e1; cases e2
       exact ⟨n,hj,fun m hm=>(Dj _ _ _ _).mpr (.inr (hl m hm))⟩
     . rw [if_neg d] at e1 e2; exact old _ e1 e2
end Sm
end
section
namespace Sm
open PySem PySem.SetTable
structure Own (mask:Nat) (ow:Array (Option Nat)) (L:List Int):Prop where
 siz:ow.size=mask+1
 low:∀ (j i:Nat),ow[j]? = some (some i)->i < L.length
 all:∀ (i:Nat),i < L.length->∃ j:Nat,ow[j]? = some (some i)
 one:∀ (j j' i:Nat),ow[j]? = some (some i)->ow[j']? = some (some i)->j=j'
 pth:∀ (j i:Nat) (h:Int),ow[j]? = some (some i)->L[i]? = some h->∃ n,(stW mask h n).j=j/\∀ m,m < n->∃ i':Nat,ow[(stW mask h m).j]? = some (some i')
theorem Own.hole {mask:Nat} {ow:Array (Option Nat)} {L:List Int} (O:Own mask ow L) (hL:L.length<=mask):∃ e,e<=mask/\ow[e]? = some none:=by
 have hc:∃ f:Nat->Nat,∀ i,i < L.length->ow[f i]? = some (some i) :=
   ⟨fun i=>if h:i < L.length then Classical.choose (O.all i h) else 0,fun i h=>by simp only [h,dif_pos]; exact Classical.choose_spec (O.all i h)⟩
 obtain ⟨f,hf⟩:=hc
 obtain ⟨e,h1,h2⟩:=room (L:=(List.range L.length).map f) (mask:=mask) (by simpa using hL)
 refine ⟨e,h1,?_⟩
 have hs:e < ow.size:=by rw [O.siz]; lia
 cases he:ow[e] with
 | none=>rw [Array.getElem?_eq_getElem hs,he]
 | some i =>
   have e1:ow[e]? = some (some i):=by rw [Array.getElem?_eq_getElem hs,he]
   have hi:=O.low e i e1; have:=O.one _ _ i e1 (hf i hi); exact absurd (List.mem_map.mpr ⟨i,List.mem_range.mpr hi,this.symm⟩) h2
theorem cN {ow:Array (Option Nat)} {j:Nat} (hj:j < ow.size):(ow.getD j (some 0)).isNone=true↔ow[j]? = some none:=by
 have e:ow.getD j (some 0)=ow[j]:=by simp [Array.getD,hj]
 rw [e,Array.getElem?_eq_getElem hj]
 cases ow[j] <;> simp
theorem Xt {ow:Array (Option Nat)} {j:Nat} (hj:j < ow.size) (h:(ow.getD j (some 0)).isNone=false):∃ i:Nat,ow[j]? = some (some i):=by
 have e:ow.getD j (some 0)=ow[j]:=by simp [Array.getD,hj]
 rw [e] at h
 rw [Array.getElem?_eq_getElem hj]
 cases c:ow[j] with
 | none=>rw [c] at h; simp at h
 | some i=>exact ⟨i,rfl⟩
theorem fO {mask:Nat} {ow:Array (Option Nat)} (hs:ow.size=mask+1) (h:Int) (K:Nat) (hK:ow[(I0 mask h K).1]? = some none) :
   ∀ (fuel k n:Nat),k<=K->K - k < fuel ->
     stW mask h n={ j:=(I0 mask h k).1,more:=runEnd mask (I0 mask h k).1 - (I0 mask h k).1,i:=(I0 mask h k).1,perturb:=(I0 mask h k).2,dummy:=none } ->
     (∀ m,m < n->∃ i':Nat,ow[(stW mask h m).j]? = some (some i')) ->
     ∃ n',layClean.free mask ow fuel (I0 mask h k).1 (I0 mask h k).2=some (stW mask h n').j/\ow[(stW mask h n').j]? = some none /\
       (∀ m,m < n'->∃ i':Nat,ow[(stW mask h m).j]? = some (some i')):=by
 intro iN; induction iN with
 | zero=>intro k n _ h2 _ _; exact absurd h2 (Nat.not_lt_zero _)
 | succ fuel ih =>
   intro k n h1 h2 h3 h4; have hle:=Vo mask h k; have a:=Lb hle; have b:=Lh mask (I0 mask h k).1; have run:=Ul mask h n _ _ h3; unfold layClean.free
   cases hf:(List.range (runEnd mask (I0 mask h k).1+1 - (I0 mask h k).1)).find? fun q=>(ow.getD ((I0 mask h k).1+q) (some 0)).isNone with
   | some q =>
     rw [List.find?_range_eq_some] at hf; obtain ⟨f1,f2,f3⟩:=hf; have f2':q < runEnd mask (I0 mask h k).1+1 - (I0 mask h k).1:=by simpa using f2
     have e:=run q (by lia)
     refine ⟨n+q,by rw [e],?_,?_⟩
     . rw [e]; exact (cN (by simp only; lia)).mp f1
     . intro m hm
       by_cases c:m < n
       . exact h4 m c
       . obtain ⟨r,rfl⟩:∃ r,m=n+r:=⟨m - n,by lia⟩
         rw [run r (by lia)]; have:=f3 r (by lia)
         exact Xt (by simp only; lia) (by simpa using this)
   | none =>
     rw [List.find?_range_eq_none] at hf; have hk:k≠K:=by
       rintro rfl
       have:=hf 0 (by lia)
       have g:=(cN (ow:=ow) (j:=(I0 mask h k).1) (by lia)).mpr hK
       rw [Nat.add_zero,g] at this; simp at this
     have e:=run _ (Nat.le_refl _); refine ih (k+1) (n+(runEnd mask (I0 mask h k).1 - (I0 mask h k).1)+1) (by lia) (by lia) ?_ ?_
     . show adv mask (stW mask h (n+_))=_
       rw [e]; unfold adv; rw [if_neg (by simp)]; rfl
     . intro m hm
       by_cases c:m < n
       . exact h4 m c
       . obtain ⟨r,rfl⟩:∃ r,m=n+r:=⟨m - n,by lia⟩
         rw [run r (by lia)]; have:=hf r (by lia)
         exact Xt (by simp only; lia) (by simpa using this)
theorem pE {mask:Nat} (hm:T6 mask=true) {ow:Array (Option Nat)} {L:List Int} (O:Own mask ow L) (hL:L.length<=mask) (h:Int) :
   ∃ n', layClean.free mask ow (turns mask) (bits h % (mask + 1)) (bits h) = some (stW mask h n').j /\ ow[(stW mask h n').j]? = some none /\
       (∀ m,m < n'->∃ i':Nat,ow[(stW mask h m).j]? = some (some i')):=by
 obtain ⟨e,h1,h2⟩:=O.hole hL
 obtain ⟨m,h3,h4⟩:=qV hm (Vo mask h 13) h1
 have hK:ow[(I0 mask h (13+m)).1]? = some none:=by rw [cS,h4]; exact h2
 exact fO O.siz h (13+m) hK (turns mask) 0 0 (Nat.zero_le _) (by unfold turns; lia) rfl (fun m hm=>absurd hm (Nat.not_lt_zero _))
theorem nQ {mask:Nat} {ow:Array (Option Nat)} {L:List Int} (O:Own mask ow L) {h:Int} {n:Nat} (he:ow[(stW mask h n).j]? = some none)
   (hl:∀ m,m < n->∃ i':Nat,ow[(stW mask h m).j]? = some (some i')):Own mask (ow.setIfInBounds (stW mask h n).j (some L.length)) (L++[h]):=by
 have hm:=(Nq mask h n).2
 generalize hj:(stW mask h n).j=j at he hm ⊢
 have hs:j < ow.size:=by rw [O.siz]; lia
 have get:∀ k:Nat,(ow.setIfInBounds j (some L.length))[k]? = if j=k then some (some L.length) else ow[k]? := by
   intro k; rw [Array.getElem?_setIfInBounds,if_pos hs]
 have keep:∀ k i:Nat,ow[k]? = some (some i)->(ow.setIfInBounds j (some L.length))[k]? = some (some i):=by
   intro k i hk; rw [get,if_neg]; exact hk
   rintro rfl; rw [he] at hk; simp at hk
 refine ⟨by simpa using O.siz,?_,?_,?_,?_⟩
 . intro k i hk
   rw [get] at hk
   by_cases c:j=k
   . rw [if_pos c] at hk; simp at hk; simp; lia
   . rw [if_neg c] at hk; have:=O.low k i hk; simp; lia
 . intro i hi
   by_cases c:i < L.length
   . obtain ⟨k,hk⟩:=O.all i c
     exact ⟨k,keep k i hk⟩
   . simp at hi
     have:i=L.length:=by lia
     subst this; exact ⟨j,by rw [get,if_pos rfl]⟩
 . intro k k' i hk hk'
   rw [get] at hk hk'
   by_cases c:j=k
   . rw [if_pos c] at hk
     by_cases c':j=k'
     . lia
     . rw [if_neg c'] at hk'
       have:=O.low _ _ hk'; simp at hk; lia
   . rw [if_neg c] at hk
     by_cases c':j=k'
     . rw [if_pos c'] at hk'
       have:=O.low _ _ hk; simp at hk'; lia
     . rw [if_neg c'] at hk'
       exact O.one _ _ _ hk hk'
 . intro k i h' hk hh
   rw [get] at hk
   by_cases c:j=k
   . rw [if_pos c] at hk
     simp at hk
     subst hk; have:h'=h:=by simpa using hh.symm
     subst this; exact ⟨n,by lia,fun m hm=>by obtain ⟨i',hi'⟩:=hl m hm; exact ⟨i',keep _ _ hi'⟩⟩
   . rw [if_neg c] at hk
     have hi:=O.low _ _ hk; rw [List.getElem?_append_left hi] at hh; obtain ⟨n',g1,g2⟩:=O.pth k i h' hk hh; exact ⟨n',g1,fun m hm=>by obtain ⟨i',hi'⟩:=g2 m hm; exact ⟨i',keep _ _ hi'⟩⟩
theorem nR (mask:Nat):Own mask (Array.replicate (mask+1) none) []:=by
 have no:∀ j i:Nat,(Array.replicate (mask+1) (none:Option Nat))[j]? ≠ some (some i):=by
   intro j i h; rw [Array.getElem?_replicate] at h
   split at h <;> simp at h
 exact ⟨by simp,fun j i h=>absurd h (no j i),fun i h=>absurd h (by simp),fun j j' i h=>absurd h (no j i),fun j i h' h=>absurd h (no j i)⟩
theorem kJ {mask:Nat} (hm:T6 mask=true):∀ (R L:List Int) (ow:Array (Option Nat)),Own mask ow L->L.length+R.length<=mask ->
   ∃ ow',Own mask ow' (L++R)/\List.foldl (fun (acc:Option (Array (Option Nat)×Nat)) h=>do
     let (owner,k) <- acc
     let j <- layClean.free mask owner (turns mask) (bits h % (mask+1)) (bits h)
     pure (owner.setIfInBounds j (some k),k+1)) (some (ow,L.length)) R=some (ow',(L++R).length):=by
 intro iN; induction iN with
 | nil=>intro L ow O _; exact ⟨ow,by simpa using O,by simp⟩
 | cons h R ih =>
   intro L ow O hl; simp only [List.length_cons] at hl; obtain ⟨n,h1,h2,h3⟩:=pE hm O (by lia) h
   obtain ⟨ow',a1,a2⟩:=ih (L++[h]) _ (nQ O h2 h3) (by simp; lia)
   refine ⟨ow',by simpa using a1,?_⟩
   rw [List.foldl_cons]; simp only [h1,Option.bind_eq_bind,Option.bind_some,Option.pure_def] at a2 ⊢
   simpa using a2
theorem Se {mask:Nat} (hm:T6 mask=true) (hs:Array Int) (hl:hs.size<=mask):∃ ow,layClean mask hs=some ow/\Own mask ow hs.toList:=by
 obtain ⟨ow,a1,a2⟩:=kJ hm hs.toList [] _ (nR mask) (by simpa using hl)
 refine ⟨ow,?_,by simpa using a1⟩
 unfold layClean
 rw [<- Array.foldl_toList]
 simp only [List.length_nil] at a2
 rw [a2]; rfl
end Sm
end
section
namespace Sm
open PySem PySem.SetTable
noncomputable def N4 (mask:Nat) (ow:Array (Option Nat)):List (Nat×Nat):=(List.range (mask+1)).filterMap fun j=>(ow.getD j none).map (j,·)
theorem Xu {ow:Array (Option Nat)} {j i:Nat}:ow.getD j none=some i↔ow[j]? = some (some i):=by
 by_cases hj:j < ow.size
 . have e:ow.getD j none=ow[j]:=by simp [Array.getD,hj]
   rw [e,Array.getElem?_eq_getElem hj]; simp
 . have e:ow.getD j none=none:=by simp [Array.getD,hj]
   rw [e,Array.getElem?_eq_none (by lia)]; simp
theorem X8 {mask:Nat} {ow:Array (Option Nat)} (hs:ow.size=mask+1) {j i:Nat}:(j,i)∈N4 mask ow↔ow[j]? = some (some i):=by
 unfold N4
 rw [List.mem_filterMap]
 constructor
 . rintro ⟨j',_,h⟩
   rw [Option.map_eq_some_iff] at h; obtain ⟨i',h1,h2⟩:=h; cases h2; exact Xu.mp h1
 . intro h
   have hj:j < mask+1:=by
     rcases Nat.lt_or_ge j (mask+1) with c | c
     . exact c
     . rw [Array.getElem?_eq_none (by lia)] at h; exact nomatch h
   exact ⟨j,List.mem_range.mpr hj,by rw [Xu.mpr h]; rfl⟩
theorem Yg (mask:Nat) (ow:Array (Option Nat)):(N4 mask ow).Pairwise (fun a b=>a.1 < b.1):=by
 unfold N4
 rw [List.pairwise_filterMap]
 refine List.pairwise_lt_range.imp ?_
 intro a b hab x hx y hy
 rw [Option.map_eq_some_iff] at hx hy
 obtain ⟨_,_,rfl⟩:=hx
 obtain ⟨_,_,rfl⟩:=hy
 exact hab
theorem eW {mask:Nat} {ow:Array (Option Nat)} {L:List Int} (O:Own mask ow L):((N4 mask ow).map (·.2)).Perm (List.range L.length):=by
 refine (List.perm_ext_iff_of_nodup ?_ List.nodup_range).mpr ?_
 . rw [List.Nodup,List.pairwise_map]
   have hr:=Yg mask ow; rw [List.pairwise_iff_getElem] at hr ⊢
   intro i j hi hj hij e; have h1:=hr i j hi hj hij; have a:=(X8 O.siz).mp (show ((N4 mask ow)[i].1,(N4 mask ow)[i].2)∈N4 mask ow from List.getElem_mem hi)
   have b:=(X8 O.siz).mp (show ((N4 mask ow)[j].1,(N4 mask ow)[j].2)∈N4 mask ow from List.getElem_mem hj)
   rw [e] at a; have:=O.one _ _ _ a b
   lia
 . intro i
   rw [List.mem_map,List.mem_range]
   constructor
   . rintro ⟨⟨j,i'⟩,h,rfl⟩
     exact O.low _ _ ((X8 O.siz).mp h)
   . intro h
     obtain ⟨j,hj⟩:=O.all i h; exact ⟨(j,i),(X8 O.siz).mpr hj,rfl⟩
theorem El {α β:Type} {hs:Array α} {L:List β} {g:β->Nat} (h:∀ x,x∈L->g x < hs.size) (i:Nat) :
   ((L.map g).filterMap (fun k=>hs[k]?))[i]? = (L[i]?).bind fun x=>hs[g x]? := by
 induction L generalizing i with
 | nil=>simp
 | cons x L ih =>
   have hx:=h x (by simp)
   simp only [List.map_cons,List.filterMap_cons,Array.getElem?_eq_getElem hx]
   cases i with
   | zero=>simp [Array.getElem?_eq_getElem hx]
   | succ i=>simpa using ih (fun y hy=>h y (by simp [hy])) i
theorem eY {mask:Nat} (hm:T6 mask=true) (hs:Array Int) (hl:hs.size<=mask) (f mv:Nat) (led plain:Bool) :
   ∃ t order,laid mask f mv led plain hs=some (t,order)/\t.mask=mask/\t.led=led/\t.plain=plain/\order.toList.Perm (List.range hs.size)/\t.place.size=hs.size/\Good t (order.filterMap (fun k=>hs[k]?)):=by
 obtain ⟨ow,h1,O⟩:=Se hm hs hl
 have hp:=eW O
 have hlen:(N4 mask ow).length=hs.size:=by simpa using hp.length_eq
 have hlow:∀ x,x∈N4 mask ow->x.2 < hs.size:=by
   rintro ⟨j,i⟩ hx
   simpa using O.low _ _ ((X8 O.siz).mp hx)
 refine ⟨{ mask,place:=((N4 mask ow).map (·.1)).toArray,dummies := #[],finger:=f,led,moves:=mv,plain },((N4 mask ow).map (·.2)).toArray,?_,rfl,rfl,rfl,by simpa using hp,by simpa using hlen,?_⟩
 . unfold laid
   rw [h1]; rfl
 . have hfm:(((N4 mask ow).map (·.2)).toArray.filterMap (fun k=>hs[k]?)).toList=((N4 mask ow).map (·.2)).filterMap (fun k=>hs[k]?):=by simp
   have hget:∀ i:Nat,(((N4 mask ow).map (·.2)).toArray.filterMap (fun k=>hs[k]?))[i]? = ((N4 mask ow)[i]?).bind fun x=>hs[x.2]? := by
     intro i; rw [<- El hlow i,<- hfm]; simp
   refine ⟨rfl,?_,?_,?_,hm,by simpa [hlen] using hl,?_⟩
   . show ((N4 mask ow).map (·.1)).toArray.toList.Pairwise _
     simp only [List.pairwise_map]; exact Yg mask ow
   . intro j hj
     simp only [List.mem_map] at hj; obtain ⟨⟨j',i⟩,hx,rfl⟩:=hj; have:=(X8 O.siz).mp hx; rcases Nat.lt_or_ge j' (mask+1) with c | c
     . simp only; lia
     . rw [Array.getElem?_eq_none (by rw [O.siz]; exact c)] at this; exact nomatch this
   . have e : (((N4 mask ow).map (·.2)).filterMap (fun k => hs[k]?)).length = (N4 mask ow).length := by
       have:∀ L:List (Nat×Nat),(∀ x,x∈L->x.2 < hs.size)->((L.map (·.2)).filterMap (fun k=>hs[k]?)).length=L.length:=by
         intro L
         induction L with
         | nil=>simp
         | cons x L ih =>
           intro h; have hx:=h x (by simp)
           simp only [List.map_cons,List.filterMap_cons,Array.getElem?_eq_getElem hx,List.length_cons]; rw [ih (fun y hy=>h y (by simp [hy]))]
       exact this _ hlow
     have e2:=congrArg List.length hfm; rw [e] at e2
     simpa using e2.symm
   . intro i j h e1 e2
     rw [hget] at e2; have e1':((N4 mask ow)[i]?).map (·.1)=some j:=by simpa using e1
     cases hx:(N4 mask ow)[i]? with
     | none=>rw [hx] at e1'; simp at e1'
     | some x =>
       rw [hx] at e1' e2; simp at e1' e2
       have hmem:(x.1,x.2)∈N4 mask ow:=List.mem_of_getElem? hx; have ho:=(X8 O.siz).mp hmem; obtain ⟨n,g1,g2⟩:=O.pth _ _ h ho (by simpa using e2)
       refine ⟨n,by rw [<- e1']; exact g1,?_⟩
       intro m hm'; obtain ⟨i',hi'⟩:=g2 m hm'; have:=(X8 O.siz).mpr hi'; show _∈((N4 mask ow).map (·.1)).toArray.toList
       simp only [List.mem_map]; exact ⟨_,this,rfl⟩
theorem oZ {mask size:Nat} (hm:T6 mask=true) (h1:size*5≥mask*3) (h2:(size - 1)*5 < mask*3) (h3:size<=306) :
   T6 (sizeAbove (grown size) - 1)=true/\size*5 < (sizeAbove (grown size) - 1)*3/\sizeAbove (grown size)<=512:=by
 simp only [T6,Bool.or_eq_true,beq_iff_eq] at hm
 rcases hm with ((hm | hm) | hm) | hm <;> subst hm
 . have:size=5:=by lia
   subst this; decide +kernel
 . have:size=19:=by lia
   subst this; decide +kernel
 . have:size=77:=by lia
   subst this; decide +kernel
 . lia
end Sm
end
section
namespace Sm
open PySem PySem.SetTable
set_option genInjectivity false in
structure Elems (prog:Program) (w:World) (A:Around) (E:Value->Shared->Prop) (a:Addr) where
 D:Type
 dec:DecidableEq D
 I:Shared->Prop
 R:Value->D->Prop
 hash:D->Int
 heap:∀ {s:Shared} {h':Heap},I s->Heap.SameBut a s.heap h'->I { s with heap:=h' }
 toks:∀ {s:Shared} (tk:Nat),I s->I { s with toks:=tk }
 ref:∀ {v:Value} {d:D},R v d->∃ b,v=.ref b
 eqB:∀ {s:Shared} {y x:Value} {d d':D} {Q:Bool->Shared->Prop},I s->R y d->R x d'->Q (@decide (d=d') (dec d d')) s->wpAny (model prog w) A (eqBool y x) Q E s
 byV:∀ {s:Shared} {x:Value} {d:D} {Q:Bool->Shared->Prop},I s->R x d->(∀ b,Q b s)->wpAny (model prog w) A (hashByValue 8 x) Q E s
 seen:∀ {s:Shared} {x:Value} {d:D} {ys:List Value} {Q:Bool->Shared->Prop},I s->R x d->(∀ y,y∈ys->∃ d',R y d')->Q false s->wpAny (model prog w) A (searchCouldBeSeen x ys) Q E s
section
variable {prog:Program} {w:World} {A:Around} {E:Value->Shared->Prop} {a:Addr} (B:Elems prog w A E a)
def Zs (B:Elems prog w A E a) (zs:List ((Int×Value)×B.D)):Prop:=∀ z,z∈zs->B.R z.1.2 z.2/\z.1.1=B.hash z.2
structure TabAt (B:Elems prog w A E a) (ld:Bool) (s:Shared) (o:Obj) (es:Array (Int×Value)) (ep:Nat) (t:SetTable) (zs:List ((Int×Value)×B.D)):Prop where
 inv:B.I s
 get:s.heap.get? a=some o
 ex:o.ExactSet
 dat:o.data=.set es ep t
 led:t.led=ld
 good:Good t (es.map (·.1))
 ent:es.toList=zs.map (·.1)
 rel:Zs B zs
variable {B}
variable {ld:Bool} {s:Shared} {o:Obj} {es:Array (Int×Value)} {ep:Nat} {t:SetTable} {zs:List ((Int×Value)×B.D)}
theorem TabAt.fits (T:TabAt B ld s o es ep t zs):t.fits es.size=true:=by
 have h1:=T.good.siz
 have h2:=T.good.fil
 have h3:=T.good.dum
 simp at h1
 simp [SetTable.fits,SetTable.fill,h1,h3]
 lia
theorem TabAt.at (T:TabAt B ld s o es ep t zs) {i:Nat} {e:Int×Value} (h:es[i]? = some e):∃ d,zs[i]? = some (e,d)/\B.R e.2 d/\e.1=B.hash d:=by
 have h1:(zs.map (·.1))[i]? = some e:=by rw [<- T.ent]; simpa using h
 rw [List.getElem?_map,Option.map_eq_some_iff] at h1
 obtain ⟨z,h2,rfl⟩:=h1
 exact ⟨z.2,h2,T.rel z (List.mem_of_getElem? h2)⟩
theorem jT {mask:Nat} (h:T6 mask=true):(mask % 2==0)=false:=by
 simp only [T6,Bool.or_eq_true,beq_iff_eq] at h
 rcases h with ((h | h) | h) | h <;> subst h <;> rfl
theorem Zr {mask:Nat} (h:T6 mask=true):10*turns mask<=6000:=by
 simp only [T6,Bool.or_eq_true,beq_iff_eq] at h
 rcases h with ((h | h) | h) | h <;> subst h <;> decide
noncomputable def hAt (es:Array (Int×Value)) (i:Nat):Int:=(es[i]?.map (·.1)).getD 0
theorem dH (T:TabAt B ld s o es ep t zs) {x:Value} {d:B.D} (hx:B.R x d) {Q:SetFound->Shared->Prop}
   (hin:d∈zs.map (·.2)->Q (.there none) s)
   (hout:d∉zs.map (·.2)->∀ n,(stW t.mask (B.hash d) n).j∉t.place.toList->(∀ m,m < n->(stW t.mask (B.hash d) m).j∈t.place.toList)->Q (.free (stW t.mask (B.hash d) n).j false) s) :
   ∀ (fuel n:Nat) (stand:Option Probe),10*turns t.mask < n+fuel->stand.getD (t.probeStart (B.hash d))=stW t.mask (B.hash d) n ->
     n < 10*turns t.mask ->
     (∀ m,m < n->(stW t.mask (B.hash d) m).j∈t.place.toList) ->
     (∀ (m i:Nat) (z:(Int×Value)×B.D),m < n->t.place[i]? = some (stW t.mask (B.hash d) m).j->zs[i]? = some z->z.2≠d) ->
     wpAny (model prog w) A (setSearchFrom a x (B.hash d) true fuel stand) Q E s:=by
 intro iN; induction iN with
 | zero=>intro n stand h1 _ h2 _ _; lia
 | succ fuel ih =>
   intro n stand h1 hst h2 hl hne; have T':=T; unfold setSearchFrom; refine wpAny_bind (wpAny_setState_of T'.get T'.dat T'.fits ?_); dsimp only; rw [show t.gaveWay=false from jT T.good.msk]; simp only [Bool.false_eq_true,↓reduceIte]; rw [hst]; obtain ⟨n',a1,a2,a3,a4,a5⟩:=aN T.good (hAt es) (B.hash d) n hl; have hsame:t.probe (hAt es)=t.probe (hAt es):=rfl; rcases a5 with ⟨e1,e2⟩ | ⟨i,e1,e2,e3,e4⟩
   . erw [e1]
     dsimp only; refine wpAny_pure (hout ?_ n' e2 a3); intro hmem; rw [List.mem_map] at hmem; obtain ⟨z,hz,rfl⟩:=hmem; obtain ⟨i,hi⟩:=List.getElem?_of_mem hz; have hes:es[i]? = some z.1:=by
       have:(zs.map (·.1))[i]? = some z.1:=by rw [List.getElem?_map,hi]; rfl
       rw [<- T.ent] at this; simpa using this
     have hh:(es.map (·.1))[i]? = some (B.hash z.2):=by rw [Array.getElem?_map,hes,<- (T.rel z hz).2]; rfl
     obtain ⟨m,b1,b2⟩:=aT T.good e2 hh
     by_cases c:m < n
     . exact hne m i z c b2 hi rfl
     . refine a4 m i (by lia) b1 b2 ?_
       simp only [hAt,hes,Option.map_some,Option.getD_some]; exact (T.rel z hz).2
   . erw [e1]
     dsimp only; have his:i < es.size:=by
       have h3:=T.good.siz; simp at h3
       rcases Nat.lt_or_ge i t.place.size with c | c
       . lia
       . rw [Array.getElem?_eq_none c] at e2; exact nomatch e2
     have hes : es[i]? = some es[i] := Array.getElem?_eq_getElem his; obtain ⟨d', g1, g2, g3⟩ := T.at hes; have main : wpAny (model prog w) A (do
         let some (_,y):=es[i]? | unsupported "internal:set-entry"
         let equal <- holding [y] (eqBool y x)
         let (es',_,t') <- setState a
         if true&&equal then return SetFound.there none
         let some same:=t'.sameMemory t.moves t.mask | unsupported "set.changed-during-lookup:is-the-new-block-at-the-old-address"
         let still <- match (if same then t'.slot (stW t.mask (B.hash d) n').j else .empty) with
           | .live i'=>match es'[i']? with
             | some (_,y')=>do pure (if <- isSame y' y then some i' else none)
             | none=>pure none
           | _=>pure none
         match still with
         | none=>rule "set.search.anew"; setSearchFrom a x (B.hash d) true fuel none
         | some i'=>if equal then return .there (some i') else setSearchFrom a x (B.hash d) true fuel (some (stW t.mask (B.hash d) (n'+1)))) Q E s:=by
       rw [hes]; dsimp only; obtain ⟨b,hb⟩:=B.ref g2; refine wpAny_bind (wpAny_holding (B.eqB T'.inv g2 hx ?_)); have T2:=T; refine wpAny_bind (wpAny_setState_of T2.get T2.dat T2.fits ?_); dsimp only
       by_cases c:d'=d
       . subst c
         simp only [decide_true,Bool.and_self,↓reduceIte]; exact wpAny_pure (hin (List.mem_map.mpr ⟨_,List.mem_of_getElem? g1,rfl⟩))
       . have hc:@decide (d'=d) (B.dec d' d)=false:=@decide_eq_false _ (B.dec d' d) c
         simp only [hc,Bool.and_false,Bool.false_eq_true,↓reduceIte]; rw [show t.sameMemory t.moves t.mask=some true from by simp [sameMemory]]
         dsimp only; simp only [↓reduceIte,Sy T.good.ris e2]; rw [hes]; dsimp only; rw [hb]; refine wpAny_bind (wpAny_isSame_ref_self ?_); simp only [↓reduceIte]; refine wpAny_bind (wpAny_pure ?_); dsimp only; refine ih (n'+1) _ (by lia) rfl e4 ?_ ?_
         . intro m hm
           by_cases cm:m=n'
           . subst cm; exact Tb e2
           . exact a3 m (by lia)
         . intro m i' z hm b1 b2
           by_cases cm:m=n'
           . subst cm
             have:i'=i:=by rw [<- Fp T.good.ris b1,Fp T.good.ris e2]
             subst this; rw [g1] at b2; cases b2; exact c
           . by_cases cn:m < n
             . exact hne m i' z cn b1 b2
             . have ha:=a4 m i' (by lia) (by lia) b1
               intro hz; apply ha
               have hes':es[i']? = some z.1:=by
                 have:(zs.map (·.1))[i']? = some z.1:=by rw [List.getElem?_map,b2]; rfl
                 rw [<- T.ent] at this; simpa using this
               simp only [hAt,hes',Option.map_some,Option.getD_some]; rw [<- hz]; exact (T.rel z (List.mem_of_getElem? b2)).2
     by_cases hled:t.led=true
     . simp only [hled,Bool.not_true,Bool.false_eq_true,↓reduceIte]
       exact main
     . have hled':t.led=false:=by simpa using hled
       simp only [hled',Bool.not_false,↓reduceIte]; refine wpAny_bind (B.seen T'.inv hx ?_ ?_)
       . intro y hy
         rw [List.mem_map] at hy; obtain ⟨e,he,rfl⟩:=hy; have he':e∈es.toList:=by
           have:=Array.mem_filter.mp (Array.mem_def.mpr he); exact Array.mem_def.mp this.1
         rw [T.ent,List.mem_map] at he'; obtain ⟨z,hz,rfl⟩:=he'; exact ⟨z.2,(T.rel z hz).1⟩
       . simp only [Bool.false_eq_true,↓reduceIte]
         exact main
end
end Sm
end
section
namespace Sm
open PySem PySem.SetTable
theorem Sf {α:Type} (L:List α):(List.range L.length).filterMap (fun k=>L[k]?)=L:=by
 apply List.ext_getElem?
 intro i
 have:=El (hs:=L.toArray) (L:=List.range L.length) (g:=id) (fun x hx=>by simpa using hx) i
 simp only [List.map_id,List.getElem?_toArray] at this
 rw [this]
 by_cases c:i < L.length
 . rw [List.getElem?_range c]; rfl
 . rw [List.getElem?_eq_none (by simpa using c),List.getElem?_eq_none (by lia)]; rfl
theorem Va {α:Type} {L:List α} {ord:List Nat} (h:ord.Perm (List.range L.length)):(ord.filterMap (fun k=>L[k]?)).Perm L:=by
 have:=h.filterMap (fun k=>L[k]?)
 rwa [Sf] at this
theorem Good.flag {t:SetTable} {hs:Array Int} (G:Good t hs) (b:Bool):Good { t with plain:=b } hs:=⟨G.dum,G.ris,G.bnd,G.siz,G.msk,G.fil,G.pth⟩
section
variable {prog:Program} {w:World} {A:Around} {E:Value->Shared->Prop} {a:Addr} {B:Elems prog w A E a}
variable {ld:Bool} {s:Shared} {o:Obj} {es:Array (Int×Value)} {ep:Nat} {t:SetTable} {zs:List ((Int×Value)×B.D)}
theorem TabAt.store (T:TabAt B ld s o es ep t zs) {es':Array (Int×Value)} {t':SetTable} {zs':List ((Int×Value)×B.D)} (hl:t'.led=ld) (hg:Good t' (es'.map (·.1))) (he:es'.toList=zs'.map (·.1)) (hz:Zs B zs') :
   TabAt B ld { s with heap:=s.heap.update a (Obj.putSet es' t') } { o with data:=.set es' (ep+1) t' } es' (ep+1) t' zs':=by
 refine ⟨B.heap T.inv (Heap.SameBut.update s.heap a _),?_,T.ex,rfl,hl,hg,he,hz⟩
 have:=Heap.get?_update_self (Obj.putSet es' t') T.get (by rw [putSet_of es' t' T.dat]; rfl)
 rw [putSet_of es' t' T.dat] at this
 exact this
def SetIn (B:Elems prog w A E a) (ld:Bool) (s:Shared) (L:List B.D):Prop:=∃ o es ep t zs,TabAt B ld s o es ep t zs/\(zs.map (·.2)).Perm L/\t.tooFull=false
theorem gM (T:TabAt B ld s o es ep t zs) (hn:es.size<=306) (hf:t.tooFull=true) (hb:(es.size - 1)*5 < t.mask*3) {Q:Unit->Shared->Prop}
   (h:∀ h',Heap.SameBut a s.heap h'->SetIn B ld { s with heap:=h' } (zs.map (·.2))->Q () { s with heap:=h' }) :
   wpAny (model prog w) A (setRelay a (grown es.size)) Q E s:=by
 have hps:t.place.size=es.size:=by simpa using T.good.siz
 have hfl:es.size*5≥t.mask*3:=by
   have:t.fill=es.size:=by simp [SetTable.fill,T.good.dum,hps]
   simpa [SetTable.tooFull,this] using hf
 obtain ⟨k1,k2,k3⟩:=oZ T.good.msk hfl hb hn
 obtain ⟨t',order,l1,l2,l3,l4,l5,l6,l7⟩:=eY k1 (es.map (·.1)) (by simp; lia) t.finger (t.movedTo (sizeAbove (grown es.size) - 1)) t.led t.plain
 have hlen:zs.length=es.size:=by have:=congrArg List.length T.ent; simpa using this.symm
 have l5':order.toList.Perm (List.range zs.length):=by rw [hlen]; simpa using l5
 have pz:=Va (L:=zs) l5'
 have hE:(order.filterMap (es[·]?)).toList=(order.toList.filterMap (fun k=>zs[k]?)).map (·.1):=by
   rw [Array.toList_filterMap,List.map_filterMap]
   congr 1
   funext k
   rw [<- List.getElem?_map,<- T.ent]; simp
 have hsz:(order.filterMap (es[·]?)).size=es.size:=by
   have:=congrArg List.length hE; rw [List.length_map,pz.length_eq,hlen] at this; rw [<- this]; rfl
 have hH:(order.filterMap (es[·]?)).map (·.1)=order.filterMap (fun k=>(es.map (·.1))[k]?):=by
   apply Array.toList_inj.mp
   rw [Array.toList_map,Array.toList_filterMap,Array.toList_filterMap,List.map_filterMap]
   congr 1
   funext k
   simp
 unfold setRelay
 refine wpAny_bind (wpAny_setState_of T.get T.dat T.fits ?_)
 dsimp only
 rw [if_neg (Nat.not_lt.mpr (fits_of_scanBound (show sizeAbove (grown es.size) < scanBound by have:scanBound=4096:=rfl; lia)))]
 have hrel:t.relaid (es.map (·.1)) (grown es.size)=some (t',order):=l1
 rw [hrel]
 refine wpAny_bind ?_
 show wpAny _ _ (do
     let es':=order.filterMap (es[·]?)
     if es'.size != es.size then unsupported "internal:set-table-lost-an-element"
     pure (es',t')) _ _ _
 dsimp only
 rw [hsz]
 simp only [bne_self_eq_false,Bool.false_eq_true,↓reduceIte]
 refine wpAny_pure ?_
 have hz:Zs B (order.toList.filterMap (fun k=>zs[k]?)):=fun z hz=>T.rel z (pz.mem_iff.mp hz)
 have hl:t'.led=ld:=by rw [l3]; exact T.led
 refine wpAny_storeSet_of T.get T.dat ?_ (fits_of_scanBound (by rw [hsz]; have:scanBound=4096:=rfl; lia))
 refine h _ (Heap.SameBut.update s.heap a _) ⟨_,_,_,_,_,T.store hl (by rw [hH]; exact l7) hE hz,pz.map _,?_⟩
 have:t'.fill=es.size:=by simp [SetTable.fill,l7.dum,l6]
 simp only [SetTable.tooFull,this,l2,decide_eq_false_iff_not]
 lia
theorem oS (es:Array (Int×Value)) (p:Nat) (e:Int×Value):(insertAt es p e).map (·.1)=insertAt (es.map (·.1)) p e.1:=by
 apply Array.toList_inj.mp
 rw [Array.toList_map,SetTable.toList_insertAt,SetTable.toList_insertAt]
 simp
theorem sE {L:List B.D} {x:Value} {d:B.D} {Q:Bool->Shared->Prop} (S:SetIn B ld s L) (hx:B.R x d) (hL:L.length < 306)
   (h1:d∈L->Q false s)
   (h2:d∉L->∀ h',Heap.SameBut a s.heap h'->SetIn B ld { s with heap:=h' } (d::L)->Q true { s with heap:=h' }) :
   wpAny (model prog w) A (setAddHashed a x (B.hash d)) Q E s:=by
 obtain ⟨o,es,ep,t,zs,T,hp,hfull⟩:=S
 obtain ⟨b,hb⟩:=B.ref hx
 have hlen:zs.length=es.size:=by have:=congrArg List.length T.ent; simpa using this.symm
 have hLl:es.size=L.length:=by rw [<- hlen,<- hp.length_eq]; simp
 have hps:t.place.size=es.size:=by simpa using T.good.siz
 have hfill:t.fill=es.size:=by simp [SetTable.fill,T.good.dum,hps]
 have hroom:es.size*5 < t.mask*3:=by simpa [SetTable.tooFull,hfill] using hfull
 unfold setAddHashed setAddHashedIn
 refine wpAny_holding (wpAny_bind (wpAny_setState_of T.get T.dat T.fits ?_))
 dsimp only
 have hby:byScan x es=false:=by subst hb; rfl
 rw [hby]
 simp only [Bool.false_eq_true,↓reduceIte]
 unfold setSearch
 have e0:s={ s with toks:=s.toks }:=by cases s; rfl
 refine wpAny_bind ?_
 have hpos:0 < 10*turns t.mask:=by unfold turns; lia
 have go:=dH (Q:=fun r s'=>wpAny (model prog w) A (match r with
   | .free slot wasDummy=>do
     let (es,_,t) <- setState a
     let (t,p):=t.put slot
     let byValue <- if t.plain then hashByValue 8 x else pure true
     let t:=if byValue then t else { t with plain:=false }
     storeSet a (SetTable.insertAt es p (B.hash d,x)) t
     if !wasDummy&&t.tooFull then setRelay a (SetTable.grown (es.size+1))
     return true
   | _=>pure false) Q E s') T hx ?_ ?_ 100000 0 none (by have:=Zr T.good.msk; lia) rfl hpos (fun m hm=>absurd hm (Nat.not_lt_zero _)) (fun m i z hm=>absurd hm (Nat.not_lt_zero _))
 . exact go
 . intro hm
   dsimp only; exact wpAny_pure (h1 (hp.mem_iff.mp hm))
 . intro hm n hh hl
   have hd:d∉L:=fun hc=>hm (hp.mem_iff.mpr hc)
   have T2:=T; dsimp only; refine wpAny_bind (wpAny_setState_of T2.get T2.dat T2.fits ?_); dsimp only; have G:=lA T.good hh hl (by lia)
   have hpb:(t.put (stW t.mask (B.hash d) n).j).2<=es.size:=by rw [<- hps]; exact (Bh t.place _ T.good.ris).1
   have hled:(t.put (stW t.mask (B.hash d) n).j).1.led=ld:=T.led; have hmk:(t.put (stW t.mask (B.hash d) n).j).1.mask=t.mask:=rfl
   generalize hpt:t.put (stW t.mask (B.hash d) n).j=pt at G hpb hled hmk ⊢
   obtain ⟨t1,p⟩:=pt; dsimp only at G hpb hled hmk ⊢
   have sz : (insertAt es p (B.hash d, x)).size = es.size + 1 := T7 _ _ _ hpb; have tail : ∀ pl : Bool, wpAny (model prog w) A (do
       storeSet a (SetTable.insertAt es p (B.hash d,x)) (if pl=true then t1 else { t1 with plain:=false })
       if (!false&&(if pl=true then t1 else { t1 with plain:=false }).tooFull)=true then do
         setRelay a (SetTable.grown (es.size+1))
         pure true
       else pure true) Q E s:=by
     intro pl
     generalize ht2:(if pl=true then t1 else ({ t1 with plain:=false }:SetTable))=t2
     have G2:Good t2 (insertAt (es.map (·.1)) p (B.hash d)):=by
       subst ht2; cases pl
       . exact G.flag false
       . exact G
     have led2:t2.led=ld:=by subst ht2; cases pl <;> exact hled
     have mk2:t2.mask=t.mask:=by subst ht2; cases pl <;> exact hmk
     have hE:(insertAt es p (B.hash d,x)).toList=(zs.take p++((B.hash d,x),d)::zs.drop p).map (·.1):=by
       rw [SetTable.toList_insertAt,T.ent]; simp
     have hZ:Zs B (zs.take p++((B.hash d,x),d)::zs.drop p):=by
       intro z hz; rw [List.mem_append,List.mem_cons] at hz; rcases hz with hz | hz | hz
       . exact T.rel z (List.mem_of_mem_take hz)
       . subst hz; exact ⟨hx,rfl⟩
       . exact T.rel z (List.mem_of_mem_drop hz)
     have hP:((zs.take p++((B.hash d,x),d)::zs.drop p).map (·.2)).Perm (d::L):=by
       refine (List.Perm.map _ List.perm_middle).trans ?_; rw [List.take_append_drop]; exact hp.cons d
     refine wpAny_bind (wpAny_storeSet_of T2.get T2.dat ?_ (fits_of_scanBound (by rw [sz]; have:scanBound=4096:=rfl; lia)))
     have T3:=T2.store led2 (by rw [oS]; exact G2) hE hZ
     have f2:t2.fill=es.size+1:=by
       have:=G2.siz; rw [T7 _ _ _ (by simpa using hpb)] at this; simp [SetTable.fill,G2.dum,this]
     by_cases hc:t2.tooFull=true
     . simp only [hc,Bool.not_false,Bool.and_self,↓reduceIte]
       rw [<- sz]; refine wpAny_bind (gM T3 (by lia) hc (by rw [sz,mk2]; lia) ?_)
       intro h' hs' S'; refine wpAny_pure (h2 hd h' ((Heap.SameBut.update s.heap a _).trans hs') ?_); obtain ⟨o',es',ep',t',zs',T',hp',hf'⟩:=S'; exact ⟨o',es',ep',t',zs',T',hp'.trans hP,hf'⟩
     . have hc':t2.tooFull=false:=by simpa using hc
       simp only [hc',Bool.and_false,Bool.false_eq_true,↓reduceIte]; exact wpAny_pure (h2 hd _ (Heap.SameBut.update s.heap a _) ⟨_,_,_,_,_,T3,hP,hc'⟩)
   by_cases hpl:t1.plain=true
   . rw [if_pos hpl]
     exact wpAny_bind (B.byV T2.inv hx fun pl=>tail pl)
   . rw [if_neg hpl]
     exact wpAny_bind (wpAny_pure (tail true))
end
end Sm
end
namespace L2
open PySem PySem.Spec PyProof.Rows
abbrev Key:=Sum Int Str
noncomputable def Te:Key->Value->Bool
 | .inl k,v=>Value.isInt k v
 | .inr x,v=>Value.isStrOf x v
noncomputable def keyH (w:World):Key->Int
 | .inl k=>hashInt k
 | .inr x=>hashStr w x
theorem P3:∀ {k:Key} {v:Value},Te k v=true->(∃ i t,k=Sum.inl i/\v=Value.int i t)\/(∃ x t,k=Sum.inr x/\v=Value.str x t)
 | .inl i,v,h=>by
   obtain ⟨t,e⟩:=Value.isInt_shape (k:=i) (v:=v) h; exact .inl ⟨i,t,rfl,e⟩
 | .inr x,v,h=>by
   obtain ⟨t,e⟩:=Value.isStrOf_shape (x:=x) (v:=v) h; exact .inr ⟨x,t,rfl,e⟩
theorem fF (i:Int) (t:Tok):Te (.inl i) (.int i t)=true:=by simp [Te,Value.isInt]
theorem fE (x:Str) (t:Tok):Te (.inr x) (.str x t)=true:=by simp [Te,Value.isStrOf]
theorem uX (a b:Int):decide ((Sum.inl a:Key)=Sum.inl b)=(a==b):=by
 by_cases e:a=b
 . subst e; simp
 . have h:¬ (Sum.inl a:Key)=Sum.inl b:=fun q=>e (Sum.inl.inj q)
   rw [decide_eq_false h]; exact (beq_eq_false_iff_ne.mpr e).symm
theorem uU (a b:Str):decide ((Sum.inr a:Key)=Sum.inr b)=decide (a=b):=by
 by_cases e:a=b
 . subst e; simp
 . have h:¬ (Sum.inr a:Key)=Sum.inr b:=fun q=>e (Sum.inr.inj q)
   rw [decide_eq_false h,decide_eq_false e]
theorem uW (a:Int) (b:Str):decide ((Sum.inl a:Key)=Sum.inr b)=false:=decide_eq_false (fun q=>nomatch q)
theorem uV (a:Str) (b:Int):decide ((Sum.inr a:Key)=Sum.inl b)=false:=decide_eq_false (fun q=>nomatch q)
noncomputable def U1 (prog:Program) (w:World):PySem.KeyKind prog w Key where
 is:=Te
 hash:=keyH w
 inj:=fun v a b ha hb=>by
   rcases P3 ha with ⟨i,t,rfl,rfl⟩ | ⟨x,t,rfl,rfl⟩
   . rcases P3 hb with ⟨j,u,rfl,e⟩ | ⟨y,u,rfl,e⟩
     . injection e with e1 _; rw [e1]
     . exact nomatch e
   . rcases P3 hb with ⟨j,u,rfl,e⟩ | ⟨y,u,rfl,e⟩
     . exact nomatch e
     . injection e with e1 _; rw [e1]
 byValue:=fun k v h=>by
   rcases P3 h with ⟨i,t,rfl,rfl⟩ | ⟨x,t,rfl,rfl⟩ <;> rfl
 pyHash:=fun hv h=>by
   rcases P3 hv with ⟨i,t,rfl,rfl⟩ | ⟨x,t,rfl,rfl⟩
   . exact wpAny_pyHash_int h
   . exact wpAny_pyHash_str h
 eqBool:=fun hu hv h=>by
   rcases P3 hu with ⟨i,t,rfl,rfl⟩ | ⟨x,t,rfl,rfl⟩
   . rcases P3 hv with ⟨j,u,rfl,rfl⟩ | ⟨y,u,rfl,rfl⟩
     . rw [uX] at h; exact wpAny_eqBool_int h
     . rw [uW] at h; exact SeqAt.EqAt.int_str i t y u _ _ _ _ h
   . rcases P3 hv with ⟨j,u,rfl,rfl⟩ | ⟨y,u,rfl,rfl⟩
     . rw [uV] at h; exact SeqAt.EqAt.str_int x t j u _ _ _ _ h
     . rw [uU] at h; exact wpAny_eqBool_str h
 «strs» := fun k x t v h=>by
   rcases P3 h with ⟨i,u,rfl,e⟩ | ⟨y,u,rfl,e⟩
   . exact nomatch e
   . injection e with e1 _
     subst e1
     cases v <;> rfl
theorem Yc (prog:Program) (w:World) (i:Int) (t:Tok):(U1 prog w).is (.inl i) (.int i t)=true:=fF i t
theorem Yb (prog:Program) (w:World) (x:Str) (t:Tok):(U1 prog w).is (.inr x) (.str x t)=true:=fE x t
end L2
namespace L2
open PySem PySem.Spec PyProof.Rows
inductive V where
 | non | bl (b:Bool) | int (i:Int) | str (x:Str) | byt (b:Array UInt8) | flt (b:UInt64) | ref (a:Addr) | ty (n:String)
 deriving DecidableEq
def RelV:V->Value->Prop
 | .non,u=>u=Value.none
 | .bl b,u=>u=Value.bool b
 | .int i,u=>∃ t,u=Value.int i t
 | .str x,u=>∃ t,u=Value.str x t
 | .byt b,u=>∃ t,u=Value.bytes b t
 | .flt b,u=>∃ t,u=Value.float b t
 | .ref a,u=>u=Value.ref a
 | .ty n,u=>u=Value.type n
abbrev Vals:List V->List Value->Prop:=Paired RelV
theorem Vals.length {xs:List V} {us:List Value} (r:Vals xs us):xs.length=us.length:=Paired.length r
theorem Vals.get:∀ {xs:List V} {us:List Value} {i:Nat} {x:V},Vals xs us->xs[i]? = some x->∃ u,us[i]? = some u/\RelV x u
 | _,_,_,_,.nil,e=>by simp at e
 | _,_,0,_,.cons r _,e=>by simp at e; subst e; exact ⟨_,rfl,r⟩
 | _,_,i+1,x,.cons _ t,e=>by
   obtain ⟨u,h1,h2⟩:=Vals.get (i:=i) (x:=x) t (by simpa using e)
   exact ⟨u,by simpa using h1,h2⟩
theorem Vals.append:∀ {xs ys:List V} {us ws:List Value},Vals xs us->Vals ys ws->Vals (xs++ys) (us++ws)
 | _,_,_,_,.nil,s=>s
 | _,_,_,_,.cons r t,s=>.cons r (Vals.append t s)
theorem Vals.take:∀ {xs:List V} {us:List Value} (n:Nat),Vals xs us->Vals (xs.take n) (us.take n)
 | _,_,0,_=>.nil
 | _,_,_+1,.nil=>.nil
 | _,_,n+1,.cons r t=>.cons r (Vals.take n t)
theorem Vals.drop:∀ {xs:List V} {us:List Value} (n:Nat),Vals xs us->Vals (xs.drop n) (us.drop n)
 | _,_,0,r=>r
 | _,_,_+1,.nil=>.nil
 | _,_,n+1,.cons _ t=>Vals.drop n t
def RelO:Option V->Option Value->Prop
 | some v,some u=>RelV v u
 | none,none=>True
 | _,_=>False
def KV {κ:Type}:List (κ×V)->List (κ×Value)->Prop:=Paired fun (p:κ×V) (q:κ×Value)=>p.1=q.1/\RelV p.2 q.2
noncomputable def kV:Key->V
 | .inl i=>.int i
 | .inr x=>.str x
inductive HO where
 | lst (xs:List V)
 | tup (xs:List V)
 | dK (kvs:List (Key×V)) | dT (kvs:List (List Key×V))
 | dN (kvs:List (PyData×V))
 | set (S:Int->Bool) (n:Nat)
 | ins (C dx:Addr) (fs:List (Str×V))
 | own (x:Addr)
 | xd (fs:List (Str×V))
 | met (f x:Addr)
 | rng (lo hi:Int)
 | frz (o:Obj) (u:HO)
 | tbl (ps:Array Value)
 | ext (φ:Heap->Prop)
abbrev Hp:=Addr->Option HO
noncomputable def upd (H:Hp) (a:Addr) (o:HO):Hp:=fun b=>if b=a then some o else H b
theorem G8 {H:Hp} {a:Addr} {o:HO}:upd H a o a=some o:=by unfold upd; rw [if_pos rfl]
theorem E4 {H:Hp} {a b:Addr} {o:HO} (h:b≠a):upd H a o b=H b:=by unfold upd; rw [if_neg h]
theorem bZ {H:Hp} {a:Addr} {o u:HO}:upd (upd H a o) a u=upd H a u:=by
 funext b; unfold upd; split <;> rfl
theorem cQ {H:Hp} {a b:Addr} {o u:HO} (h:H a=some o) (h':H b=some u) (d:o≠u):a≠b:=by
 intro e; subst e; rw [h] at h'; exact d (Option.some.inj h')
theorem M7 {H:Hp} {a b:Addr} {o:HO} (h:H a=some o) (h':H b=none):a≠b:=by
 intro e; subst e; rw [h] at h'; cases h'
mutual
noncomputable def isK:PyData->Bool
 | .int _=>true
 | .str _=>true
 | .tuple xs=>Fi xs
 | .none | .bool _ | .list _ | .dict _=>false
noncomputable def Fi:List PyData->Bool
 | []=>true
 | x::r=>isK x&&Fi r
end
mutual
noncomputable def Yj (w:World):PyData->Int
 | .int i=>hashInt i
 | .str x=>hashStr w x
 | .tuple xs=>reduceHash (Builtin.Tuple.tupleHashOf (Ga w xs))
 | .none | .bool _ | .list _ | .dict _=>0
noncomputable def Ga (w:World):List PyData->List Int
 | []=>[]
 | x::r=>Yj w x::Ga w r
end
noncomputable def hashN (w:World):PyData->Int
 | .none=>0xFCA86420
 | d=>Yj w d
noncomputable def nkD (d:PyData):Bool:=match d with
 | .none=>true
 | .str _=>true
 | .tuple xs=>Fi xs&&decide ((PyData.tuple xs).depth<=8)
 | _=>false
mutual
def KRep (H:Hp):PyData->V->Prop
 | .none,v=>v=.non
 | .int i,v=>v=.int i
 | .str x,v=>v=.str x/\PyData.strOk x=true/\x.length<=sizeLine
 | .tuple ds,v=>∃ b xs,v=.ref b/\H b=some (.tup xs)/\KRepL H ds xs
 | .bool _,_=>False
 | .list _,_=>False
 | .dict _,_=>False
def KRepL (H:Hp):List PyData->List V->Prop
 | [],xs=>xs=[]
 | d::ds,xs=>∃ x r,xs=x::r/\KRep H d x/\KRepL H ds r
end
mutual
theorem KRep.mono {H H':Hp} (ht:∀ b xs,H b=some (.tup xs)->H' b=some (.tup xs)):∀ {d:PyData} {v:V},KRep H d v->KRep H' d v
 | .none,_,r=>r
 | .int _,_,r=>r
 | .str _,_,r=>r
 | .tuple _,_,r=>by obtain ⟨b,xs,e,q,l⟩:=r; exact ⟨b,xs,e,ht _ _ q,KRepL.mono ht l⟩
 | .bool _,_,r=>r.elim
 | .list _,_,r=>r.elim
 | .dict _,_,r=>r.elim
theorem KRepL.mono {H H':Hp} (ht:∀ b xs,H b=some (.tup xs)->H' b=some (.tup xs)):∀ {ds:List PyData} {xs:List V},KRepL H ds xs->KRepL H' ds xs
 | [],_,r=>r
 | _::_,_,r=>by obtain ⟨x,t,e,q,l⟩:=r; exact ⟨x,t,e,KRep.mono ht q,KRepL.mono ht l⟩
end
noncomputable def entsN (w:World) (kvs:List (PyData×V)) (xs:List (Value×Value)):List DictEntry:=List.zipWith (fun p q=>⟨hashN w p.1,q.1,q.2⟩) kvs xs
section
variable (P:Program) (w:World)
def ObjOk (H:Hp) (h:Heap) (a:Addr):HO->Prop
 | .lst xs=>xs.length<=sizeLine/\∃ (its:List Value) (n:Nat),Vals xs its/\h.get? a=some { cls:=.type "list",data:=.seq its.toArray n }
 | .tup xs=>xs.length<=sizeLine/\∃ its:List Value,Vals xs its/\IsTup h a its.toArray
 | .dK kvs=>kvs.length<=sizeLine/\(a==sysModules)=false/\∃ vs,KV kvs vs/\h.DictOf (U1 P w) a vs
 | .dT kvs => kvs.length <= sizeLine /\ (a == sysModules) = false /\ ∃ xs : List (List Key × Addr × Value),
     Paired (fun (p:List Key×V) (q:List Key×Addr×Value)=>p.1=q.1/\H q.2.1=some (.tup (p.1.map kV))/\RelV p.2 q.2.2) kvs xs /\
     ∃ o es ep,h.get? a=some o/\o.ExactDict/\o.data=.dict es ep/\es.toList=xs.map (entryOfKey (tupleKind (U1 P w)))/\(xs.map (·.1)).Nodup
 | .dN kvs => kvs.length <= sizeLine /\ (a == sysModules) = false /\ (kvs.map (·.1)).Nodup /\ (∀ p ∈ kvs, nkD p.1 = true) /\ ∃ xs : List (Value × Value),
     Paired (fun (p:PyData×V) (q:Value×Value)=>(∃ v,KRep H p.1 v/\RelV v q.1)/\RelV p.2 q.2) kvs xs/\∃ ep,h.get? a=some { cls:=.type "dict",data:=.dict (entsN w kvs xs).toArray ep }
 | .set S n=>h.SetOf (intKind P w) a S n
 | .ins C dx fs => H dx = some (.own a) /\ fs.length <= 1000 /\ dx ≠ a /\ h.get? a = some (PySem.W.instObj C dx) /\
     ∃ mA,h.Ns1 dx mA/\(∀ f,RelO (fs.lookup f) (mA f))/\PySem.Within mA (fs.map (·.1))
 | .own _=>∃ o,h.get? a=some o
 | .xd fs=>∃ mA,h.Ns1 a mA/\∀ f,RelO (fs.lookup f) (mA f)
 | .rng lo hi=>∃ t u v,h.get? a=some { cls:=.type "range",data:=.fields #[.int lo t,.int hi u,.int 1 v] }
 | .frz o u=>h.get? a=some o/\ObjOk H h a u
 | .tbl ps=>h.get? a=some { cls:=.none,data:=.fields ps }
 | .met f x=>h.get? a=some (PySem.W.methodObj (.ref f) (.ref x))
 | .ext φ=>φ h/\(∃ o,h.get? a=some o)/\∀ h1 h2:Heap,φ h1->(∀ o,h1.get? a=some o->h2.get? a=some o)->φ h2
def HOk (H:Hp) (h:Heap):Prop:=∀ a o,H a=some o->ObjOk P w H h a o
end
section
variable {P:Program} {w:World} {H H':Hp} {h h':Heap} {a:Addr} {o:HO}
theorem ObjOk.lt (x:ObjOk P w H h a o):a < h.objs.size:=by
 cases o with
 | lst xs=>obtain ⟨_,_,_,_,e⟩:=x; exact Heap.lt_size e
 | tup xs=>obtain ⟨_,_,_,p⟩:=x; exact p.lt
 | dK kvs=>obtain ⟨_,_,_,_,o,_,_,e,_⟩:=x; exact Heap.lt_size e
 | dT kvs=>obtain ⟨_,_,_,_,o,_,_,e,_⟩:=x; exact Heap.lt_size e
 | dN kvs=>obtain ⟨_,_,_,_,_,_,_,e⟩:=x; exact Heap.lt_size e
 | set S n=>obtain ⟨o,_,_,_,e,_⟩:=x; exact Heap.lt_size e
 | ins C dx fs=>obtain ⟨_,_,_,e,_⟩:=x; exact Heap.lt_size e
 | own y=>obtain ⟨_,e⟩:=x; exact Heap.lt_size e
 | xd fs=>obtain ⟨_,⟨_,_,_,e,_⟩,_⟩:=x; exact Heap.lt_size e
 | rng lo hi=>obtain ⟨_,_,_,e⟩:=x; exact Heap.lt_size e
 | frz ob u=>obtain ⟨e,_⟩:=x; exact Heap.lt_size e
 | tbl ps=>exact Heap.lt_size (show h.get? a=some _ from x)
 | met f y=>exact Heap.lt_size (show h.get? a=some _ from x)
 | ext φ=>obtain ⟨_,⟨_,e⟩,_⟩:=x; exact Heap.lt_size e
theorem Paired.mapP {α β:Type} {F G:α->β->Prop}:∀ {l₁:List α} {l₂:List β},Paired F l₁ l₂->(∀ a b,F a b->G a b)->Paired G l₁ l₂
 | _,_,.nil,_=>.nil
 | _,_,.cons r t,f=>.cons (f _ _ r) (Paired.mapP t f)
theorem ObjOk.stay (x:ObjOk P w H h a o) (k:∀ b u,(b=a\/H b=some (.own a))->h.get? b=some u->h'.get? b=some u)
   (ho:∀ b,H b=some (.own a)->H' b=some (.own a)) (ht:∀ b xs,H b=some (.tup xs)->H' b=some (.tup xs)):ObjOk P w H' h' a o:=by
 induction o with
 | lst xs=>obtain ⟨z,its,n,r,e⟩:=x; exact ⟨z,its,n,r,k _ _ (.inl rfl) e⟩
 | tup xs=>obtain ⟨z,its,r,ob,e,c⟩:=x; exact ⟨z,its,r,ob,k _ _ (.inl rfl) e,c⟩
 | dK kvs=>obtain ⟨z,y,vs,r,ob,es,ep,e,c⟩:=x; exact ⟨z,y,vs,r,ob,es,ep,k _ _ (.inl rfl) e,c⟩
 | dT kvs =>
   obtain ⟨z,y,xs,r,ob,es,ep,e,c⟩:=x; exact ⟨z,y,xs,Paired.mapP r fun p q z=>⟨z.1,ht _ _ z.2.1,z.2.2⟩,ob,es,ep,k _ _ (.inl rfl) e,c⟩
 | dN kvs =>
   obtain ⟨z,y,nd,nk,xs,r,ep,e⟩:=x; exact ⟨z,y,nd,nk,xs,Paired.mapP r fun p q hZ2=>by obtain ⟨⟨v,z1,z2⟩,z3⟩:=hZ2; exact ⟨⟨v,z1.mono ht,z2⟩,z3⟩,ep,k _ _ (.inl rfl) e⟩
 | set S n=>obtain ⟨ob,es,ep,t,e,c⟩:=x; exact ⟨ob,es,ep,t,k _ _ (.inl rfl) e,c⟩
 | ins C dx fs =>
   obtain ⟨d,z,ne,e,mA,⟨od,es,ep,e2,c⟩,r⟩:=x; exact ⟨ho _ d,z,ne,k _ _ (.inl rfl) e,mA,⟨od,es,ep,k _ _ (.inr d) e2,c⟩,r⟩
 | own y=>obtain ⟨ob,e⟩:=x; exact ⟨ob,k _ _ (.inl rfl) e⟩
 | xd fs=>obtain ⟨mA,⟨od,es,ep,e,c⟩,r⟩:=x; exact ⟨mA,⟨od,es,ep,k _ _ (.inl rfl) e,c⟩,r⟩
 | rng lo hi=>obtain ⟨t,u,v,e⟩:=x; exact ⟨t,u,v,k _ _ (.inl rfl) e⟩
 | frz ob u ih=>obtain ⟨e,q⟩:=x; exact ⟨k _ _ (.inl rfl) e,ih q⟩
 | tbl ps =>
   have e:h.get? a=some { cls:=.none,data:=.fields ps }:=x; show h'.get? a=some { cls:=.none,data:=.fields ps }
   exact k a _ (.inl rfl) e
 | met f y =>
   have e:h.get? a=some (PySem.W.methodObj (.ref f) (.ref y)):=x; show h'.get? a=some (PySem.W.methodObj (.ref f) (.ref y))
   exact k a _ (.inl rfl) e
 | ext φ=>obtain ⟨p,⟨o,e⟩,st⟩:=x; exact ⟨st _ _ p fun o q=>k _ _ (.inl rfl) q,⟨o,k _ _ (.inl rfl) e⟩,st⟩
theorem HOk.lt (x:HOk P w H h) (e:H a=some o):a < h.objs.size:=(x a o e).lt
theorem HOk.fresh (x:HOk P w H h) (e:h.objs.size<=a):H a=none:=by
 cases q:H a with
 | none=>rfl
 | some u=>exact absurd (Nat.lt_of_lt_of_le (x.lt q) e) (Nat.lt_irrefl _)
theorem HOk.kept (x:HOk P w H h) (k:∀ b u,h.get? b=some u->h'.get? b=some u):HOk P w H h':=fun a o e =>
 (x a o e).stay (fun b u _ q=>k b u q) (fun _ q=>q) fun _ _ q=>q
theorem HOk.laid (x:HOk P w H h) (k:∀ b u,h.get? b=some u->h'.get? b=some u) (hp:h.objs.size<=a) (new:ObjOk P w (upd H a o) h' a o):HOk P w (upd H a o) h':=fun b u e=>by
 have hn:=x.fresh hp
 by_cases hb:b=a
 . subst hb; rw [G8] at e; cases e; exact new
 . rw [E4 hb] at e
   exact (x b u e).stay (fun c v _ q=>k c v q) (fun c q=>by rw [E4 (M7 q hn)]; exact q) fun c xs q=>by rw [E4 (M7 q hn)]; exact q
end
def Rd (H:Hp) (a:Addr) (u:HO):Prop:=H a=some u\/∃ o,H a=some (.frz o u)
theorem Rd.ok {P:Program} {w:World} {H:Hp} {h:Heap} {a:Addr} {u:HO} (r:Rd H a u) (x:HOk P w H h):ObjOk P w H h a u:=by
 rcases r with r | ⟨o,r⟩
 . exact x a u r
 . obtain ⟨_,q⟩:=x a _ r
   exact q
def Mut:Option HO->Prop
 | some (.lst _)=>True
 | some (.dK _)=>True
 | some (.dT _)=>True
 | some (.dN _)=>True
 | some (.set _ _)=>True
 | some (.ins _ _ _)=>True
 | some (.ext _)=>True
 | _=>False
section
variable {P:Program} {w:World} {H:Hp} {h h':Heap} {x e:Addr} {o':HO}
theorem HOk.write (ok:HOk P w H h) (mu:Mut (H x)) (he:e=x\/H e=some (.own x)) (k:∀ b u,b≠e->h.get? b=some u->h'.get? b=some u) (heo:∃ u,h'.get? e=some u)
   (new:ObjOk P w (upd H x o') h' x o'):HOk P w (upd H x o') h':=fun b u q=>by
 have nown:∀ c y,H c=some (.own y)->c≠x:=fun c y r z=>by subst z; rw [r] at mu; exact mu
 have ntup:∀ c xs,H c=some (.tup xs)->c≠x:=fun c xs r z=>by subst z; rw [r] at mu; exact mu
 by_cases hb:b=x
 . subst hb; rw [G8] at q; cases q; exact new
 . rw [E4 hb] at q
   by_cases hbe:b=e
   . have q' : H b = some (.own x) := by
       rcases he with z | z
       . exact absurd (hbe.trans z) hb
       . rw [hbe]; exact z
     rw [q] at q'; cases q'
     obtain ⟨v,hv⟩:=heo; exact ⟨v,by rw [hbe]; exact hv⟩
   . refine (ok b u q).stay (fun c v hc r=>k c v ?_ r) (fun c r=>by rw [E4 (nown c b r)]; exact r) fun c xs r=>by rw [E4 (ntup c xs r)]; exact r
     rcases hc with rfl | hc
     . exact hbe
     . rintro rfl
       rcases he with z | z
       . exact nown c b hc z
       . rw [hc] at z; cases z; exact hb rfl
end
structure Un (fs ex:List Addr) (H H':Hp) (h h':Heap):Prop where
 keep:∀ b o,h.get? b=some o->H b=none->b∉fs->b∉ex->h'.get? b=some o
 slot:∀ b o,h.get? b=some o->H b=none->b∈fs->b∉ex->∃ sl,h'.get? b=some { o with slots:=sl }
 free:∀ b o,h.get? b=some o->H b=none->b∉ex->H' b=none
 there:∀ b o,h.get? b=some o->b∉ex->∃ o',h'.get? b=some o'
 tups:∀ b xs,H b=some (.tup xs)->H' b=some (.tup xs)
 frzs:∀ b o u,H b=some (.frz o u)->H' b=some (.frz o u)
 tbls:∀ b ps,H b=some (.tbl ps)->∃ more,H' b=some (.tbl (ps++more))
section
variable {fs ex:List Addr} {H H1:Hp} {h h1 h':Heap} {a x e:Addr} {o:HO}
theorem Un.any (u:Un fs ex H H1 h h1) {b:Addr} {ob:Obj} (q:h.get? b=some ob) (n:H b=none) (hx:b∉ex):∃ sl,h1.get? b=some { ob with slots:=sl }:=by
 by_cases hb:b∈fs
 . exact u.slot b ob q n hb hx
 . exact ⟨ob.slots,u.keep b ob q n hb hx⟩
theorem Un.kept (k:∀ b u,h.get? b=some u->h'.get? b=some u):Un fs ex H H h h' :=
 ⟨fun b ob q _ _ _=>k b ob q,fun b ob q _ _ _=>⟨ob.slots,k b ob q⟩,fun _ _ _ n _=>n,fun b ob q _=>⟨ob,k b ob q⟩,fun _ _ q=>q,fun _ _ _ q=>q,fun _ ps q=>⟨#[],by rw [q]; simp⟩⟩
theorem Un.refl:Un fs ex H H h h:=Un.kept fun _ _ q=>q
theorem Un.laid (k:∀ b u,h.get? b=some u->h'.get? b=some u) (hp:h.objs.size<=a) (hn:H a=none):Un fs ex H (upd H a o) h h' where
 keep:=fun b u q _ _ _=>k b u q
 slot:=fun b u q _ _ _=>⟨u.slots,k b u q⟩
 free:=fun b u q n _=>by rw [E4 (Nat.ne_of_lt (Nat.lt_of_lt_of_le (Heap.lt_size q) hp))]; exact n
 there:=fun b u q _=>⟨u,k b u q⟩
 tups:=fun b xs q=>by rw [E4 (M7 q hn)]; exact q
 frzs:=fun b u xs q=>by rw [E4 (M7 q hn)]; exact q
 tbls:=fun b ps q=>⟨#[],by rw [E4 (M7 q hn),q]; simp⟩
theorem Un.write (mu:Mut (H x)) (he:e=x\/H e=some (.own x)) (k:∀ b u,b≠e->h.get? b=some u->h'.get? b=some u) (heo:∃ u,h'.get? e=some u):Un fs ex H (upd H x o) h h':=by
 have hx:∀ b,H b=none->b≠x:=fun b n z=>by subst z; rw [n] at mu; exact mu
 have hb:∀ b,H b=none->b≠e:=fun b n z=>by
   subst z; rcases he with r | r
   . exact hx b n r
   . rw [n] at r; cases r
 have hm:∀ b u,H b=some u->¬ Mut (some u)->b≠x:=fun b u q nm z=>by subst z; rw [q] at mu; exact nm mu
 refine ⟨fun b u q n _ _=>k b u (hb b n) q,fun b u q n _ _=>⟨u.slots,k b u (hb b n) q⟩,fun b u q n _=>by rw [E4 (hx b n)]; exact n,fun b u q _=>?_,
   fun b xs q=>by rw [E4 (hm b _ q fun z=>z)]; exact q,fun b u xs q=>by rw [E4 (hm b _ q fun z=>z)]; exact q,fun b ps q=>⟨#[],by rw [E4 (hm b _ q fun z=>z),q]; simp⟩⟩
 by_cases hbe:b=e
 . subst hbe; exact heo
 . exact ⟨u,k b u hbe q⟩
end
noncomputable def trk (h:Heap) (H:Hp):List Addr:=(List.range h.objs.size).filter fun a=>(H a).isSome
noncomputable def Vq (h:Heap) (H:Hp):Heap:=PySem.W.hideAll h (trk h H)
theorem fN (h:Heap) (H:Hp):(Vq h H).objs.size=h.objs.size:=PySem.W.hideAll_size _ _
theorem kY {h:Heap} {H:Hp} {b:Addr} {o:Obj} (e:h.get? b=some o) (n:H b=none):(Vq h H).get? b=some o :=
 PySem.W.hideAll_get _ e fun hm=>by
   have q:(H b).isSome=true:=(List.mem_filter.mp hm).2; rw [n] at q; simp at q
theorem oB {h:Heap} {H:Hp} {b:Addr} {o:Obj} (e:(Vq h H).get? b=some o):h.get? b=some o/\H b=none:=by
 have e':h.get? b=some o:=PySem.W.of_hideAll (trk h H) e
 refine ⟨e',?_⟩
 cases q:H b with
 | none=>rfl
 | some x =>
   have hm:b∈trk h H:=List.mem_filter.mpr ⟨List.mem_range.mpr (Heap.lt_size e'),by simp [q]⟩
   have z:(Vq h H).get? b=none:=PySem.W.hideAll_none (trk h H) hm; rw [z] at e; cases e
noncomputable def qI (g h:Heap) (L:Addr):List (Addr×Obj):=(List.range h.objs.size).filterMap fun a=>if a=L\/(g.get? a).isSome=true then none else (h.get? a).map fun o=>(a,o)
noncomputable def T0 (g h:Heap) (L d:Addr):List (Addr×Obj):=(qI g h L).filter fun p=>decide (p.1≠d)
end L2
namespace L2
open PySem PySem.Spec PyProof.Rows
structure Mod (K:PySem.W.Frag) (mg:Str->Option Value) (base:Heap):Prop where
 kin:K.In base
 glob:base.Ns mainGlobals mg
 blt:∃ mb,base.Ns builtinsNs mb/\∀ x:Str,x ≠ "__name__" -> mb x=bootBuiltins x
 nolimit:base.NoLimit
set_option genInjectivity false in
structure Cx where
 prog:Program
 w:World
 K:PySem.W.Frag
 mg:Str->Option Value
 base:Heap
 A:Around
 N:List Str
 s₀:Shared
 H₀:Hp
 env:Env
 outer:List Env
 stack:List Env
 ex:List Addr
 fn:Str->Bool
 calm:Bool
 pn:List (Addr×Obj)
 xe:Value->Shared->Prop
noncomputable def frs (l:List Env):List Addr:=l.filterMap (·.frame)
noncomputable abbrev Cx.fs (X:Cx):List Addr:=frs X.outer
def Vis (sc:Scope) (x:Str):Prop:=sc.names.lookup x=some .local\/sc.names.lookup x=some .cell\/sc.names.lookup x=some .free
def Loc (sc:Scope) (x:Str):Prop:=sc.names.lookup x=some .local\/sc.names.lookup x=some .cell
def Look (env:Env) (h:Heap) (m:Str->Option Value) (x:Str) (u:Value):Prop :=
 (env.kindOf x=some .local/\m x=some u)\/((env.kindOf x=some .cell\/env.kindOf x=some .free)/\∃ c,env.cells.lookup x=some c/\h.IsCell c (some u))
structure Cx.Ok (X:Cx):Prop where
 mod:Mod X.K X.mg X.base
 kind:X.env.scope.kind=.function
 glob:X.env.globals=mainGlobals
 blt:X.env.builtins=builtinsNs
 above:X.s₀.heap.objs.size<=X.env.locals
 inj:∀ x y c,X.env.cells.lookup x=some c->X.env.cells.lookup y=some c->x=y
 has:∀ x,(X.env.kindOf x=some .cell\/X.env.kindOf x=some .free)->∃ c,X.env.cells.lookup x=some c
 cab:∀ x c,X.fn x=true->X.env.cells.lookup x=some c->X.s₀.heap.objs.size<=c
 hd:X.calm=true->X.A.handled=none
 frames:X.A.frames=some X.stack
 stk:X.stack=X.outer\/(X.stack=X.env::X.outer/\X.env.frame=some X.env.locals)
 exf:∀ b∈X.ex,b≠X.env.locals/\∀ x c,X.env.cells.lookup x=some c->c≠b
 bs:∀ b o,X.base.get? b=some o->X.s₀.heap.get? b=some o/\X.H₀ b=none
 bsz:X.base.objs.size<=X.s₀.heap.objs.size
 noex:∀ b o,X.base.get? b=some o->b∉X.ex
 exfs:∀ b∈X.ex,b∉X.fs
 funs:X.s₀.heap.FunFrames X.base X.outer
 frf:∀ b∈X.fs,X.H₀ b=none
structure Inv (X:Cx) (pins:List (Addr×Obj)) (σ:List (Option V)) (H:Hp) (s:Shared):Prop where
 ok:X.Ok
 os:s.os=X.s₀.os
 bare:AllBare s.gens
 base:Un X.fs X.ex X.H₀ H X.s₀.heap s.heap
 loc:∃ m,s.heap.Ns X.env.locals m/\∀ (i:Nat) (x:Str) (v:V),X.N[i]? = some x->σ[i]? = some (some v)->Vis X.env.scope x->∃ u,RelV v u/\Look X.env s.heap m x u
 cell:∀ x c,X.env.cells.lookup x=some c->∃ v,s.heap.IsCell c v
 free:H X.env.locals=none
 freeC:∀ x c,X.env.cells.lookup x=some c->H c=none
 pin:∀ p∈X.pn++pins,s.heap.get? p.1=some p.2/\H p.1=none/\p.1≠X.env.locals/\p.1∉X.fs/\∀ v,p.2.data≠.cell v
 hok:HOk X.prog X.w H s.heap
 len:σ.length=X.N.length
section
variable {X:Cx} {pins:List (Addr×Obj)} {σ:List (Option V)} {H H':Hp} {s:Shared} {h':Heap}
theorem Cx.Ok.nofr (ok:X.Ok) {b:Addr} {o:Obj} (e:X.base.get? b=some o):b∉X.fs:=fun hb=>by
 have:=(ok.funs.mem hb).1
 rw [e] at this; cases this
theorem Inv.bs (I:Inv X pins σ H s):∀ b o,X.base.get? b=some o->s.heap.get? b=some o/\H b=none:=fun b o e =>
 ⟨I.base.keep b o (I.ok.bs b o e).1 (I.ok.bs b o e).2 (I.ok.nofr e) (I.ok.noex b o e),I.base.free b o (I.ok.bs b o e).1 (I.ok.bs b o e).2 (I.ok.noex b o e)⟩
theorem Inv.bk (I:Inv X pins σ H s):∀ b o,X.base.get? b=some o->s.heap.get? b=some o:=fun b o e=>(I.bs b o e).1
theorem Inv.mod (I:Inv X pins σ H s):Mod X.K X.mg X.base:=I.ok.mod
theorem Inv.kIn (I:Inv X pins σ H s):X.K.In s.heap:=I.ok.mod.kin.keeps I.bk
theorem Inv.fr (I:Inv X pins σ H s):∃ m,Fr X.base X.env.locals s.heap m :=
 let ⟨m,hn,_⟩:=I.loc
 ⟨m,hn,I.bk,Nat.le_trans I.ok.bsz I.ok.above⟩
theorem Inv.lt (I:Inv X pins σ H s):X.env.locals < s.heap.objs.size:=let ⟨_,hn,_⟩:=I.loc; hn.lt
theorem Inv.sz (I:Inv X pins σ H s):X.s₀.heap.objs.size<=s.heap.objs.size:=Nat.le_trans I.ok.above (Nat.le_of_lt I.lt)
theorem Inv.nofs (I:Inv X pins σ H s) {a:Addr} (h:s.heap.objs.size<=a):a∉X.fs:=fun hb=>by
 obtain ⟨_,o,ho,_⟩:=I.ok.funs.mem hb
 exact absurd (Nat.lt_of_lt_of_le (Heap.lt_size ho) (Nat.le_trans I.sz h)) (Nat.lt_irrefl _)
theorem Inv.cne (I:Inv X pins σ H s):∀ x c,X.env.cells.lookup x=some c->c≠X.env.locals:=fun x c e z=>by
 obtain ⟨v,o,ho,hd⟩:=I.cell x c e
 obtain ⟨m,⟨o',es,ep,ho',hd',_⟩,_⟩:=I.loc
 rw [z,ho'] at ho; cases ho; rw [hd'] at hd; cases hd
theorem Inv.funs (I:Inv X pins σ H s):s.heap.FunFrames X.base X.outer:=by
 have all:∀ (l:List Env),(∀ b∈frs l,b∈X.fs)->X.s₀.heap.FunFrames X.base l->s.heap.FunFrames X.base l:=by
   intro l
   induction l with
   | nil=>intro _ _; trivial
   | cons env r ih =>
     intro hs hl; obtain ⟨hk,⟨L,o,hf,hn,ho,hd⟩,hr⟩:=hl; have hL:L∈X.fs:=hs L (by unfold frs; rw [List.filterMap_cons,hf]; exact List.mem_cons_self)
     obtain ⟨sl,e⟩:=I.base.slot L o ho (I.ok.frf L hL) hL fun z=>I.ok.exfs L z hL
     exact ⟨hk,⟨L,_,hf,hn,e,hd⟩,ih (fun b hb=>hs b (by unfold frs; rw [List.filterMap_cons,hf]; exact List.mem_cons_of_mem _ hb)) hr⟩
 exact all X.outer (fun _ hb=>hb) I.ok.funs
theorem Inv.stack (I:Inv X pins σ H s):s.heap.FunFrames X.base X.stack:=by
 rcases I.ok.stk with e | ⟨e,hf⟩
 . rw [e]; exact I.funs
 . rw [e]
   obtain ⟨m,hn,_⟩:=I.loc; refine .cons (by rw [I.ok.kind]; decide) hf hn ?_ I.funs
   exact Heap.get?_none_of_le (Nat.le_trans I.ok.bsz I.ok.above)
theorem Inv.stkSub (I:Inv X pins σ H s):∀ b∈frs X.stack,b∈X.env.locals::X.fs:=fun b hb=>by
 rcases I.ok.stk with e | ⟨e,hf⟩
 . rw [e] at hb; exact List.mem_cons_of_mem _ hb
 . rw [e] at hb
   unfold frs at hb; rw [List.filterMap_cons,hf] at hb; exact hb
theorem Inv.stkFree (I:Inv X pins σ H s):∀ b∈frs X.stack,H b=none:=fun b hb=>by
 rcases List.mem_cons.mp (I.stkSub b hb) with e | hb
 . rw [e]; exact I.free
 . obtain ⟨_,o,ho,_⟩:=I.ok.funs.mem hb
   exact I.base.free b o ho (I.ok.frf b hb) fun z=>I.ok.exfs b z hb
theorem Inv.step {g':Array GenState} {t':Nat} {d':Drawn} {ch:List Addr} (I:Inv X pins σ H s)
   (hch:∀ b∈ch,(b∈X.ex\/X.s₀.heap.objs.size<=b)/\b≠X.env.locals/\(∀ x c,X.env.cells.lookup x=some c->c≠b)/\∀ p∈X.pn++pins,p.1≠b)
   (keep:∀ b o,b≠X.env.locals->b∉X.fs->b∉ch->s.heap.get? b=some o->H b=none->h'.get? b=some o)
   (slot:∀ b o,b≠X.env.locals->b∈X.fs->b∉ch->s.heap.get? b=some o->H b=none->∃ sl,h'.get? b=some { o with slots:=sl }) (free:∀ b o,b∉ch->s.heap.get? b=some o->H b=none->H' b=none)
   (there:∀ b o,b∉ch->s.heap.get? b=some o->∃ o',h'.get? b=some o')
   (tups:∀ b xs,H b=some (.tup xs)->H' b=some (.tup xs)) (frzs:∀ b o u,H b=some (.frz o u)->H' b=some (.frz o u)) (tbls:∀ b ps,H b=some (.tbl ps)->∃ more,H' b=some (.tbl (ps++more)))
   (ns:∀ m,s.heap.Ns X.env.locals m->h'.Ns X.env.locals m) (hok:HOk X.prog X.w H' h') (hg:AllBare g') :
   Inv X pins σ H' { s with heap:=h',gens:=g',drawn:=d',toks:=t' }:=by
 have neL:∀ b o,X.s₀.heap.get? b=some o->b≠X.env.locals:=fun b o e=>Nat.ne_of_lt (Nat.lt_of_lt_of_le (Heap.lt_size e) I.ok.above)
 have neC:∀ b o,X.s₀.heap.get? b=some o->b∉X.ex->b∉ch:=fun b o e hx hb=>by
   rcases (hch b hb).1 with z | z
   . exact hx z
   . exact absurd (Nat.lt_of_lt_of_le (Heap.lt_size e) z) (Nat.lt_irrefl _)
 have cellK:∀ x c,X.env.cells.lookup x=some c->∀ v,s.heap.IsCell c v->h'.IsCell c v:=fun x c e v hZ4=>by
   obtain ⟨o,ho,hd⟩:=hZ4; have nch:c∉ch:=fun z=>(hch c z).2.2.1 x c e rfl
   by_cases hc:c∈X.fs
   . obtain ⟨sl,q⟩:=slot c o (I.cne x c e) hc nch ho (I.freeC x c e)
     exact ⟨_,q,hd⟩
   . exact ⟨o,keep c o (I.cne x c e) hc nch ho (I.freeC x c e),hd⟩
 refine ⟨I.ok,I.os,hg,⟨fun b o e n hb hx=>?_,fun b o e n hb hx=>?_,fun b o e n hx=>?_,fun b o e hx=>?_,fun b xs e=>tups b xs (I.base.tups b xs e),fun b o xs e=>frzs b o xs (I.base.frzs b o xs e),fun b ps e=>?_⟩,?_,fun x c e=>?_,?_,fun x c e=>?_,fun p hp=>?_,hok,I.len⟩
 . exact keep b o (neL b o e) hb (neC b o e hx) (I.base.keep b o e n hb hx) (I.base.free b o e n hx)
 . obtain ⟨sl,e1⟩:=I.base.slot b o e n hb hx
   obtain ⟨sl',e2⟩:=slot b _ (neL b o e) hb (neC b o e hx) e1 (I.base.free b o e n hx); exact ⟨sl',e2⟩
 . obtain ⟨o',e1⟩:=I.base.there b o e hx
   exact free b o' (neC b o e hx) e1 (I.base.free b o e n hx)
 . obtain ⟨o',e1⟩:=I.base.there b o e hx
   exact there b o' (neC b o e hx) e1
 . obtain ⟨m1,e1⟩:=I.base.tbls b ps e
   obtain ⟨m2,e2⟩:=tbls b _ e1; exact ⟨m1++m2,by rw [e2,Array.append_assoc]⟩
 . obtain ⟨m,hn,hl⟩:=I.loc
   refine ⟨m,ns m hn,fun i x v e1 e2 e3=>?_⟩
   obtain ⟨u,r,l⟩:=hl i x v e1 e2 e3; refine ⟨u,r,?_⟩; rcases l with l | ⟨k,c,e,z⟩
   . exact .inl l
   . exact .inr ⟨k,c,e,cellK x c e _ z⟩
 . obtain ⟨v,z⟩:=I.cell x c e
   exact ⟨v,cellK x c e v z⟩
 . obtain ⟨m,⟨o,_,_,ho,_⟩,_⟩:=I.loc
   exact free _ o (fun z=>(hch _ z).2.1 rfl) ho I.free
 . obtain ⟨v,o,ho,hd⟩:=I.cell x c e
   exact free c o (fun z=>(hch c z).2.2.1 x c e rfl) ho (I.freeC x c e)
 . obtain ⟨e,n,ne,nf,d⟩:=I.pin p hp
   have nch:p.1∉ch:=fun z=>(hch p.1 z).2.2.2 p hp rfl
   exact ⟨keep p.1 p.2 ne nf nch e n,free p.1 p.2 nch e n,ne,nf,d⟩
theorem Inv.un {t':Nat} (I:Inv X pins σ H s) (u:Un X.fs [] H H' s.heap h') (hok:HOk X.prog X.w H' h'):Inv X pins σ H' { s with heap:=h',toks:=t' }:=by
 obtain ⟨m,⟨o,es,ep,ho,r⟩,_⟩:=id I.loc
 obtain ⟨sl,hL⟩:=u.any ho I.free (by simp)
 exact I.step (g':=s.gens) (d':=s.drawn) (ch:=[]) (fun _ z=>nomatch z) (fun b o _ hb _ e n=>u.keep b o e n hb (by simp)) (fun b o _ hb _ e n=>u.slot b o e n hb (by simp)) (fun b o _ e n=>u.free b o e n (by simp)) (fun b o _ e=>u.there b o e (by simp)) u.tups u.frzs u.tbls (fun m' hm=>by
   obtain ⟨o',es',ep',ho',r'⟩:=hm; rw [ho] at ho'; cases ho'; exact ⟨_,es',ep',hL,r'⟩) hok I.bare
theorem Inv.call {g':Array GenState} {t':Nat} {d':Drawn} {ch:List Addr} (I:Inv X pins σ H s) (u:Un (frs X.stack) ch H H' s.heap h') (hok:HOk X.prog X.w H' h') (hg:AllBare g')
   (hch:∀ b∈ch,(b∈X.ex\/X.s₀.heap.objs.size<=b)/\b≠X.env.locals/\(∀ x c,X.env.cells.lookup x=some c->c≠b)/\∀ p∈X.pn++pins,p.1≠b) :
   Inv X pins σ H' { s with heap:=h',gens:=g',drawn:=d',toks:=t' }:=by
 obtain ⟨m,⟨o,es,ep,ho,r⟩,_⟩:=id I.loc
 obtain ⟨sl,hL⟩:=u.any ho I.free fun z=>(hch _ z).2.1 rfl
 exact I.step (ch:=ch) hch (fun b o hL hb hc e n=>u.keep b o e n (fun z=>(List.mem_cons.mp (I.stkSub b z)).elim hL hb) hc) (fun b o _ _ hc e n=>u.any e n hc) (fun b o hc e n=>u.free b o e n hc) (fun b o hc e=>u.there b o e hc) u.tups u.frzs u.tbls (fun m' hm=>by
   obtain ⟨o',es',ep',ho',r'⟩:=hm; rw [ho] at ho'; cases ho'; exact ⟨_,es',ep',hL,r'⟩) hok hg
theorem Inv.turned {t':Nat} {it:Addr} (I:Inv X pins σ H s) (k:∀ b o,b≠it->s.heap.get? b=some o->h'.get? b=some o) (hn:H it=none) (hL:it≠X.env.locals)
   (h1:it∈X.ex\/X.s₀.heap.objs.size<=it) (h2:∀ x c,X.env.cells.lookup x=some c->c≠it) (h3:∀ p∈X.pn++pins,p.1≠it):Inv X pins σ H { s with heap:=h',toks:=t' }:=by
 have nit:∀ b u,H b=some u->b≠it:=fun b u e z=>by rw [z,hn] at e; cases e
 refine I.step (g':=s.gens) (d':=s.drawn) (ch:=[it]) (fun b hb=>?_) (fun b o _ _ hc e _=>k b o (fun z=>hc (by simp [z])) e) (fun b o _ _ hc e _=>⟨o.slots,k b o (fun z=>hc (by simp [z])) e⟩) (fun _ _ _ _ n=>n)
   (fun b o hc e=>⟨o,k b o (fun z=>hc (by simp [z])) e⟩) (fun _ _ e=>e) (fun _ _ _ e=>e) (fun b ps e=>⟨#[],by rw [e]; simp⟩) (fun m hm=>?_) (fun b u e=>?_) I.bare
 . have e:b=it:=by simpa using hb
   subst e; exact ⟨h1,hL,h2,h3⟩
 . obtain ⟨o,es,ep,ho,r⟩:=hm
   exact ⟨o,es,ep,k _ o (Ne.symm hL) ho,r⟩
 . refine (I.hok b u e).stay (fun c v hc q=>k c v ?_ q) (fun _ q=>q) fun _ _ q=>q
   rcases hc with z | z
   . rw [z]; exact nit b u e
   . exact nit c _ z
theorem Inv.tok (I:Inv X pins σ H s) (t:Nat):Inv X pins σ H { s with toks:=t }:=I.un (h':=s.heap) (t':=t) Un.refl I.hok
theorem Inv.kept {t':Nat} (I:Inv X pins σ H s) (k:∀ b u,s.heap.get? b=some u->h'.get? b=some u):Inv X pins σ H { s with heap:=h',toks:=t' }:=I.un (Un.kept k) (I.hok.kept k)
theorem Inv.laid {a:Addr} {o:HO} {t':Nat} (I:Inv X pins σ H s) (k:∀ b u,s.heap.get? b=some u->h'.get? b=some u) (hp:s.heap.objs.size<=a) (new:ObjOk X.prog X.w (upd H a o) h' a o) :
   Inv X pins σ (upd H a o) { s with heap:=h',toks:=t' }:=I.un (Un.laid k hp (I.hok.fresh hp)) (I.hok.laid k hp new)
theorem Inv.write {x e:Addr} {o:HO} {t':Nat} (I:Inv X pins σ H s) (mu:Mut (H x)) (he:e=x\/H e=some (.own x)) (k:∀ b u,b≠e->s.heap.get? b=some u->h'.get? b=some u) (heo:∃ u,h'.get? e=some u)
   (new:ObjOk X.prog X.w (upd H x o) h' x o):Inv X pins σ (upd H x o) { s with heap:=h',toks:=t' }:=I.un (Un.write mu he k heo) (I.hok.write mu he k heo new)
theorem Inv.weak {σ':List (Option V)} (I:Inv X pins σ H s) (hl:σ'.length=σ.length) (w:∀ (i:Nat) v,σ'[i]? = some (some v)->σ[i]? = some (some v)):Inv X pins σ' H s :=
 ⟨I.ok,I.os,I.bare,I.base,let ⟨m,hn,hl'⟩:=I.loc; ⟨m,hn,fun i x v e1 e2 e3=>hl' i x v e1 (w i v e2) e3⟩,I.cell,I.free,I.freeC,I.pin,I.hok,hl.trans I.len⟩
theorem Inv.pins_of {pins':List (Addr×Obj)} (I:Inv X pins σ H s) (h:∀ p∈pins',s.heap.get? p.1=some p.2/\H p.1=none/\p.1≠X.env.locals/\p.1∉X.fs/\∀ v,p.2.data≠.cell v):Inv X pins' σ H s :=
 ⟨I.ok,I.os,I.bare,I.base,I.loc,I.cell,I.free,I.freeC,fun p hp=>(List.mem_append.mp hp).elim (fun z=>I.pin p (List.mem_append_left _ z)) (h p),I.hok,I.len⟩
theorem Xx {N:List Str} (hN:N.Nodup) {i j:Nat} {x:Str} (a:N[i]? = some x) (b:N[j]? = some x):i=j:=by
 obtain ⟨h1,e1⟩:=List.getElem?_eq_some_iff.mp a
 obtain ⟨h2,e2⟩:=List.getElem?_eq_some_iff.mp b
 exact (List.getElem_inj hN).mp (e1.trans e2.symm)
theorem Sw {M:Model} {A:Around} {E:Value->Shared->Prop} {i:Nat} {x:Str} {v:V} {u:Value} {Q:Unit->Shared->Prop} (I:Inv X pins σ H s) (hN:X.N.Nodup) (hi:X.N[i]? = some x) (hx:Loc X.env.scope x) (r:RelV v u)
   (h:∀ s',Inv X pins (σ.set i (some v)) H s'->(∃ a,Heap.SameBut a s.heap s'.heap/\(a=X.env.locals\/X.env.cells.lookup x=some a))->Q () s') (hf:X.fn x=true\/X.env.scope.names.lookup x=some .local:=by first | exact .inl rfl | exact .inr rfl | assumption):wpAny M A (storeName X.env x u) Q E s:=by
 obtain ⟨m,hn,hl⟩:=id I.loc
 have hcls:(X.env.scope.kind==.class||(X.env.scope.kind==.module&&X.env.locals != X.env.globals))=false:=by rw [I.ok.kind]; rfl
 have hiσ:i < σ.length:=by rw [I.len]; exact (List.getElem?_eq_some_iff.mp hi).1
 have cne:=I.cne
 have tracked:∀ {a:Addr} {h':Heap},(∃ o,s.heap.get? a=some o/\H a=none)->Heap.SameBut a s.heap h'->HOk X.prog X.w H h':=fun {a h'} ha hs b ob e=>by
   obtain ⟨_,_,hfree⟩:=ha; refine (I.hok b ob e).stay (fun c w' hc q=>(hs.2 c ?_).trans q) (fun _ q=>q) fun _ _ q=>q
   rintro rfl
   rcases hc with rfl | hc
   . rw [hfree] at e; cases e
   . rw [hfree] at hc; cases hc
 rcases hx with hk | hk
 . refine wpAny_storeName_local hk hn (fun h' hn' hs=>?_) hcls
   obtain ⟨oL,_,_,hoL,_⟩:=id hn; refine h _ ⟨I.ok,I.os,I.bare,⟨fun b o e n hb hx=>?_,fun b o e n hb hx=>?_,I.base.free,fun b o e hx=>?_,I.base.tups,I.base.frzs,I.base.tbls⟩,⟨_,hn',fun j y v' e1 e2 e3=>?_⟩,fun y c e=>?_,I.free,I.freeC,fun p hp=>?_,tracked ⟨oL,hoL,I.free⟩ hs,by simpa using I.len⟩ ⟨_,hs,.inl rfl⟩
   . exact (hs.2 b (Nat.ne_of_lt (Nat.lt_of_lt_of_le (Heap.lt_size e) I.ok.above))).trans (I.base.keep b o e n hb hx)
   . obtain ⟨sl,e1⟩:=I.base.slot b o e n hb hx
     exact ⟨sl,(hs.2 b (Nat.ne_of_lt (Nat.lt_of_lt_of_le (Heap.lt_size e) I.ok.above))).trans e1⟩
   . obtain ⟨o',e1⟩:=I.base.there b o e hx
     exact ⟨o',(hs.2 b (Nat.ne_of_lt (Nat.lt_of_lt_of_le (Heap.lt_size e) I.ok.above))).trans e1⟩
   . by_cases hj:j=i
     . subst hj
       rw [hi] at e1; cases e1
       rw [List.getElem?_set_self hiσ] at e2; cases e2; exact ⟨u,r,.inl ⟨hk,by simp⟩⟩
     . rw [List.getElem?_set_ne (Ne.symm hj)] at e2
       obtain ⟨u',r',q⟩:=hl j y v' e1 e2 e3; refine ⟨u',r',?_⟩; rcases q with ⟨k,e⟩ | ⟨k,c,e,z⟩
       . refine .inl ⟨k,?_⟩
         have:y≠x:=fun e=>hj (Xx hN e1 (e▸hi))
         simp [this,e]
       . exact .inr ⟨k,c,e,z.sameBut hs (cne y c e)⟩
   . obtain ⟨w',z⟩:=I.cell y c e
     exact ⟨w',z.sameBut hs (cne y c e)⟩
   . obtain ⟨e,n,ne,nf,d⟩:=I.pin p hp
     exact ⟨(hs.2 p.1 ne).trans e,n,ne,nf,d⟩
 . have hfn : X.fn x = true := by
     rcases hf with z | z
     . exact z
     . rw [z] at hk; cases hk
   obtain ⟨c,hc⟩:=I.ok.has x (.inl hk); obtain ⟨w',z⟩:=I.cell x c hc; refine wpAny_storeName_cell I.ok.kind hk hc z (fun h' hc' hs=>?_)
   obtain ⟨oc,hoc,hocd⟩:=id z; refine h { s with heap:=h' } ⟨I.ok,I.os,I.bare,⟨fun b o e n hb hx=>?_,fun b o e n hb hx=>?_,I.base.free,fun b o e hx=>?_,I.base.tups,I.base.frzs,I.base.tbls⟩,⟨m,hn.sameBut hs (Ne.symm (cne x c hc)),fun j y v' e1 e2 e3=>?_⟩,fun y c' e=>?_,I.free,I.freeC,fun p hp=>?_,tracked ⟨oc,hoc,I.freeC x c hc⟩ hs,by simpa using I.len⟩ ⟨c,hs,.inr hc⟩
   . exact (hs.2 b (Nat.ne_of_lt (Nat.lt_of_lt_of_le (Heap.lt_size e) (I.ok.cab x c hfn hc)))).trans (I.base.keep b o e n hb hx)
   . obtain ⟨sl,e1⟩:=I.base.slot b o e n hb hx
     exact ⟨sl,(hs.2 b (Nat.ne_of_lt (Nat.lt_of_lt_of_le (Heap.lt_size e) (I.ok.cab x c hfn hc)))).trans e1⟩
   . obtain ⟨o',e1⟩:=I.base.there b o e hx
     exact ⟨o',(hs.2 b (Nat.ne_of_lt (Nat.lt_of_lt_of_le (Heap.lt_size e) (I.ok.cab x c hfn hc)))).trans e1⟩
   . by_cases hj:j=i
     . subst hj
       rw [hi] at e1; cases e1
       rw [List.getElem?_set_self hiσ] at e2; cases e2; exact ⟨u,r,.inr ⟨.inl hk,c,hc,hc'⟩⟩
     . rw [List.getElem?_set_ne (Ne.symm hj)] at e2
       obtain ⟨u',r',q⟩:=hl j y v' e1 e2 e3; refine ⟨u',r',?_⟩; rcases q with q | ⟨k,c',e,z'⟩
       . exact .inl q
       . refine .inr ⟨k,c',e,z'.sameBut hs ?_⟩
         rintro rfl
         exact hj (Xx hN e1 (I.ok.inj _ _ _ e hc▸hi))
   . by_cases hcc:c'=c
     . subst hcc; exact ⟨_,hc'⟩
     . obtain ⟨w2,z2⟩:=I.cell y c' e
       exact ⟨w2,z2.sameBut hs hcc⟩
   . obtain ⟨e,n,ne,nf,d⟩:=I.pin p hp
     refine ⟨(hs.2 p.1 ?_).trans e,n,ne,nf,d⟩; intro q; rw [q,hoc] at e; have q':oc=p.2:=Option.some.inj e; exact d w' (by rw [<- q']; exact hocd)
theorem Xi {M:Model} {A:Around} {E:Value->Shared->Prop} {i:Nat} {x:Str} {v:V} {u:Value} {Q:Unit->Shared->Prop} (I:Inv X pins σ H s) (hN:X.N.Nodup) (hi:X.N[i]? = some x) (hx:Loc X.env.scope x) (r:RelV v u)
   (h:∀ s',Inv X pins (σ.set i (some v)) H s'->Q () s') (hf:X.fn x=true\/X.env.scope.names.lookup x=some .local:=by first | exact .inl rfl | exact .inr rfl | assumption):wpAny M A (storeName X.env x u) Q E s :=
 Sw I hN hi hx r (fun s' I' _=>h s' I') hf
theorem Inv.call' {s':Shared} {ch:List Addr} (I:Inv X pins σ H s) (ho:s'.os=s.os) (u:Un (frs X.stack) ch H H' s.heap s'.heap) (hok:HOk X.prog X.w H' s'.heap) (hg:AllBare s'.gens)
   (hch:∀ b∈ch,(b∈X.ex\/X.s₀.heap.objs.size<=b)/\b≠X.env.locals/\(∀ x c,X.env.cells.lookup x=some c->c≠b)/\∀ p∈X.pn++pins,p.1≠b):Inv X pins σ H' s':=by
 obtain ⟨h',g',d',t',o'⟩:=s'
 have e:o'=s.os:=ho
 subst e
 exact I.call (g':=g') (t':=t') (d':=d') u hok hg hch
end
abbrev XK:=Value->Option Addr->Hp->Prop
abbrev St:=List (Option V)
abbrev VK:=V->Hp->Prop
abbrev TE:=St->Hp->VK->Prop
abbrev TT:=St->Hp->(Bool->Hp->Prop)->Prop
abbrev TA:=St->Hp->(List V->Hp->Prop)->Prop
structure Ends where
 nx:St->Hp->Prop
 rt:VK
 bk:St->Hp->Prop:=fun _ _=>False
 ct:St->Hp->Prop:=fun _ _=>False
abbrev TS:=Ends->St->Hp->Prop
def EP (X:Cx) (pins:List (Addr×Obj)) (σ:St) (Q:VK) (u:Value) (s':Shared):Prop:=∃ v H',Inv X pins σ H' s'/\RelV v u/\Q v H'
def TP (X:Cx) (pins:List (Addr×Obj)) (σ:St) (Q:Bool->Hp->Prop) (b:Bool) (s':Shared):Prop:=∃ H',Inv X pins σ H' s'/\Q b H'
def AP (X:Cx) (pins:List (Addr×Obj)) (σ:St) (Q:List V->Hp->Prop) (us:List Value) (s':Shared):Prop:=∃ vs H',Inv X pins σ H' s'/\Vals vs us/\Q vs H'
def SP (X:Cx) (pins:List (Addr×Obj)) (D:Ends) (f:Flow) (s':Shared):Prop :=
 match f with
 | .next=>∃ σ' H',Inv X pins σ' H' s'/\D.nx σ' H'
 | .brk=>∃ σ' H',Inv X pins σ' H' s'/\D.bk σ' H'
 | .cont=>∃ σ' H',Inv X pins σ' H' s'/\D.ct σ' H'
 | .ret u=>∃ v σ' H',Inv X pins σ' H' s'/\RelV v u/\D.rt v H'
def PE (X:Cx) (e:Expr) (t:TE):Prop :=
 ∀ (pins:List (Addr×Obj)) (s:Shared) (σ:St) (H:Hp) (Q:VK),Inv X pins σ H s->t σ H Q->wpAny (model X.prog X.w) X.A (eval e X.env) (EP X pins σ Q) X.xe s
def PT (X:Cx) (e:Expr) (t:TT):Prop :=
 ∀ (pins:List (Addr×Obj)) (s:Shared) (σ:St) (H:Hp) (Q:Bool->Hp->Prop),Inv X pins σ H s->t σ H Q->wpAny (model X.prog X.w) X.A (isTrue e X.env (eval e X.env)) (TP X pins σ Q) X.xe s
def PW (X:Cx) (e:Expr) (t:TT):Prop :=
 ∀ (whole:Sem Value) (pins:List (Addr×Obj)) (s:Shared) (σ:St) (H:Hp) (Q:Bool->Hp->Prop),Inv X pins σ H s->t σ H Q->wpAny (model X.prog X.w) X.A (isTrue e X.env whole) (TP X pins σ Q) X.xe s
theorem PW.pt {X:Cx} {e:Expr} {t:TT} (h:PW X e t):PT X e t:=h _
def PA (X:Cx) (es:List Expr) (t:TA):Prop :=
 ∀ (pos:Pos) (pins:List (Addr×Obj)) (s:Shared) (σ:St) (H:Hp) (Q:List V->Hp->Prop),Inv X pins σ H s->t σ H Q->wpAny (model X.prog X.w) X.A (spliced (backTo pos (starEach es X.env))) (AP X pins σ Q) X.xe s
def PS (X:Cx) (st:Stmt) (t:TS):Prop :=
 ∀ (pins:List (Addr×Obj)) (s:Shared) (σ:St) (H:Hp) (D:Ends),Inv X pins σ H s->t D σ H->wpAny (model X.prog X.w) X.A (exec st X.env) (SP X pins D) X.xe s
def PSs (X:Cx) (st:List Stmt) (t:TS):Prop :=
 ∀ (pins:List (Addr×Obj)) (s:Shared) (σ:St) (H:Hp) (D:Ends),Inv X pins σ H s->t D σ H->wpAny (model X.prog X.w) X.A (execs st X.env) (SP X pins D) X.xe s
theorem thn {α:Type} {t:Sem α} {Q Q':α->Shared->Prop} {M:Model} {A:Around} {E:Value->Shared->Prop} {s:Shared} (h:wpAny M A t Q E s) (hQ:∀ a s,Q a s->Q' a s):wpAny M A t Q' E s:=wpAny_mono h hQ fun _ _ x=>x
end L2
namespace L2
open PySem PySem.Spec PyProof.Rows
section
variable {X:Cx}
def sM (i:Nat):TE:=fun σ H Q=>∃ v,σ[i]? = some (some v)/\Q v H
def tC (v:V):TE:=fun _ H Q=>Q v H
theorem aP {i:Nat} {x:Str} {pos:Pos} (hN:X.N[i]? = some x) (hv:Vis X.env.scope x) (hd:(x==("__debug__" : Str))=false:=by decide) (hcd:(x==("__classdict__" : Str))=false:=by decide):PE X (.Name x pos) (sM i):=by
 intro pins s σ H Q I h
 obtain ⟨v,e,h⟩:=h
 obtain ⟨m,hn,hl⟩:=I.loc
 obtain ⟨u,r,l⟩:=hl i x v hN e hv
 have fin:EP X pins σ Q u s:=⟨v,H,I,r,h⟩
 rcases l with ⟨hk,hm⟩ | ⟨hk,c,hc,hcell⟩
 . exact wpAny_Name (wpAny_loadName_local I.ok.kind hk hn hm fin) hd
 . rcases hk with hk | hk
   . exact wpAny_Name (wpAny_loadName_cell I.ok.kind hk hc hcell fin) hd
   . exact wpAny_Name (wpAny_loadName_free I.ok.kind hk hc hcell fin hcd) hd
theorem jI {i j pos}:PE X (.Constant (.int i) j pos) (tC (.int i)):=fun _ _ _ H _ I h=>wpAny_Constant_int ⟨.int i,H,I.tok _,⟨_,rfl⟩,h⟩
theorem pe_bl {b j pos}:PE X (.Constant (.bool b) j pos) (tC (.bl b)):=fun _ _ _ H _ I h=>Constant_bool ⟨.bl b,H,I,rfl,h⟩
theorem tW {j pos}:PE X (.Constant .none j pos) (tC .non):=fun _ _ _ H _ I h=>Constant_none ⟨.non,H,I,rfl,h⟩
theorem jG {x j pos}:PE X (.Constant (.str x) j pos) (tC (.str x)):=fun _ _ _ H _ I h=>Calls.Constant_str ⟨.str x,H,I.tok _,⟨_,rfl⟩,h⟩
def Gl (X:Cx) (x:Str):Prop:=X.env.kindOf x=some .globalImplicit
theorem cT {E:Value->Shared->Prop} {pins:List (Addr×Obj)} {s:Shared} {σ:St} {H:Hp} {x:Str} {u:Value} {pos:Pos} {Q:Value->Shared->Prop} (I:Inv X pins σ H s) (hg:Gl X x) (hm:X.mg x=some u) (h:Q u s)
   (hd:(x==("__debug__" : Str))=false:=by decide):wpAny (model X.prog X.w) X.A (eval (.Name x pos) X.env) Q E s :=
 Calls.Name_function_global I.ok.kind hg (Calls.loadGlobal_global (by rw [I.ok.glob]; exact I.mod.glob.keeps I.bk) hm h) hd
theorem Li {E:Value->Shared->Prop} {pins:List (Addr×Obj)} {s:Shared} {σ:St} {H:Hp} {x:Str} {u:Value} {pos:Pos} {Q:Value->Shared->Prop} (I:Inv X pins σ H s) (hg:Gl X x) (hm:X.mg x=none) (hv:bootBuiltins x=some u) (h:Q u s)
   (hn:x ≠ "__name__" := by decide) (hd:(x==("__debug__" : Str))=false:=by decide):wpAny (model X.prog X.w) X.A (eval (.Name x pos) X.env) Q E s:=by
 obtain ⟨mb,h1,h2⟩:=I.mod.blt
 exact Calls.Name_function_global I.ok.kind hg (Calls.loadGlobal_builtin (by rw [I.ok.glob]; exact I.mod.glob.keeps I.bk) hm (by rw [I.ok.blt]; exact h1.keeps I.bk) ((h2 x hn).trans hv) h) hd
theorem cL {x:Str} {v:V} {u:Value} {pos:Pos} (hg:Gl X x) (hm:X.mg x=some u) (r:RelV v u) (hd:(x==("__debug__" : Str))=false:=by decide):PE X (.Name x pos) (tC v) :=
 fun _ _ _ H _ I h=>cT I hg hm ⟨v,H,I,r,h⟩ hd
theorem nO {x:Str} {v:V} {u:Value} {pos:Pos} (hg:Gl X x) (hm:X.mg x=none) (hv:bootBuiltins x=some u) (r:RelV v u) (hn:x ≠ "__name__" := by decide) (hd:(x==("__debug__" : Str))=false:=by decide):PE X (.Name x pos) (tC v) :=
 fun _ _ _ H _ I h=>Li I hg hm hv ⟨v,H,I,r,h⟩ hn hd
variable {a b:Expr} {ta tb:TE} {pos:Pos}
def PC (X:Cx) (op:CmpOp) (a b:Expr) (t:TE):Prop :=
 ∀ (pins:List (Addr×Obj)) (s:Shared) (σ:St) (H:Hp) (Q:VK),Inv X pins σ H s->t σ H Q ->
   wpAny (model X.prog X.w) X.A (eval a X.env) (fun v s₁=>wpAny (model X.prog X.w) X.A (eval b X.env) (fun u s₂=>wpAny (model X.prog X.w) X.A (compareOp op v u) (EP X pins σ Q) X.xe s₂) X.xe s₁) X.xe s
theorem Xy (b:Expr) {op:CmpOp} (h:op≠.In) (h2:op≠.NotIn):behindInMarks op b=false:=by
 have e1:(op==CmpOp.In)=false:=by cases op <;> first | rfl | exact absurd rfl h
 have e2:(op==CmpOp.NotIn)=false:=by cases op <;> first | rfl | exact absurd rfl h2
 cases b <;> simp [behindInMarks,e1,e2]
def tIsN (ta:TE):TE:=fun σ H Q=>ta σ H fun x H1=>Q (.bl (decide (x=.non))) H1
def tNotN (ta:TE):TE:=fun σ H Q=>ta σ H fun x H1=>Q (.bl (!decide (x=.non))) H1
theorem RelV.none_iff {x:V} {v:Value} (r:RelV x v):(v==Value.none)=decide (x=.non):=by
 cases x with
 | non=>cases r; rfl
 | bl _=>cases r; rfl
 | int _=>obtain ⟨t,rfl⟩:=r; rfl
 | str _=>obtain ⟨t,rfl⟩:=r; rfl
 | byt _=>obtain ⟨t,rfl⟩:=r; rfl
 | flt _=>obtain ⟨t,rfl⟩:=r; rfl
 | ref _=>cases r; rfl
 | ty _=>cases r; rfl
theorem uA {j pos'} (ha:PE X a ta):PC X .Is a (.Constant .none j pos') (tIsN ta):=by
 intro pins s σ H Q I h
 refine thn (ha pins s σ H _ I h) fun v s1 hZ2=>?_
 obtain ⟨x,H1,I1,r1,q1⟩:=hZ2
 exact Constant_none (is_none_gen ⟨.bl _,H1,I1,by rw [r1.none_iff]; rfl,q1⟩)
theorem cM {j pos'} (ha:PE X a ta):PC X .IsNot a (.Constant .none j pos') (tNotN ta):=by
 intro pins s σ H Q I h
 refine thn (ha pins s σ H _ I h) fun v s1 hZ2=>?_
 obtain ⟨x,H1,I1,r1,q1⟩:=hZ2
 exact Constant_none (isnot_none_gen ⟨.bl _,H1,I1,by rw [r1.none_iff]; rfl,q1⟩)
def tB (t:TE):TT:=fun σ H Q=>t σ H fun x H1=>∃ c,x=.bl c/\Q c H1
theorem aQ {op:CmpOp} {t:TE} (h:PC X op a b t) (h1:behindInMarks op b=false:=by first | exact Xy _ (by decide) (by decide) | rfl):PE X (.Compare a [op] [b] pos) t:=fun pins s σ H Q I hw=>wpAny_Compare1 (h pins s σ H Q I hw) h1
theorem tM {op:CmpOp} {t:TE} (h:PC X op a b t) (h1:behindInMarks op b=false:=by first | exact Xy _ (by decide) (by decide) | rfl):PT X (.Compare a [op] [b] pos) (tB t):=by
 intro pins s σ H Q I hw
 refine wpAny_isTrue_Compare1 (thn (h pins s σ H _ I hw) fun v s1 h1=>thn h1 fun u s2 h2=>thn h2 fun c s3 hY1=>?_) h1
 obtain ⟨x,H1,I1,r1,q1⟩:=hY1
 obtain ⟨d,rfl,q⟩:=q1
 cases r1
 exact wpAny_truthy_bool ⟨H1,I1,q⟩
variable {tA tB':TT} {T0:List Expr}
def tAnd (t u:TT):TT:=fun σ H Q=>t σ H fun c H1=>if c=true then u σ H1 Q else Q false H1
def tOr (t u:TT):TT:=fun σ H Q=>t σ H fun c H1=>if c=true then Q true H1 else u σ H1 Q
def tNot (t:TT):TT:=fun σ H Q=>t σ H fun c H1=>Q (!c) H1
theorem nA (ha:PT X a tA):PW X (.BoolOp .And [a] pos) tA:=by
 intro wh pins s σ H Q I h
 refine isTrue_and (thn (ha pins s σ H Q I h) fun c s1 e=>?_)
 cases c with
 | true=>exact isTrue_and_nil e
 | false=>exact e
theorem tJ (ha:PT X a tA):PW X (.BoolOp .Or [a] pos) tA:=by
 intro wh pins s σ H Q I h
 refine isTrue_or (thn (ha pins s σ H Q I h) fun c s1 e=>?_)
 cases c with
 | false=>exact isTrue_or_nil e
 | true=>exact e
theorem tK (ha:PT X a tA) (hb:PW X (.BoolOp .And (b::T0) pos) tB'):PW X (.BoolOp .And (a::b::T0) pos) (tAnd tA tB'):=by
 intro wh pins s σ H Q I h
 refine isTrue_and (thn (ha pins s σ H _ I h) fun c s1 hZ2=>?_)
 obtain ⟨H1,I1,q1⟩:=hZ2
 cases c with
 | true=>exact hb wh pins s1 σ H1 Q I1 q1
 | false=>exact ⟨H1,I1,q1⟩
theorem pw_or (ha:PT X a tA) (hb:PW X (.BoolOp .Or (b::T0) pos) tB'):PW X (.BoolOp .Or (a::b::T0) pos) (tOr tA tB'):=by
 intro wh pins s σ H Q I h
 refine isTrue_or (thn (ha pins s σ H _ I h) fun c s1 hZ2=>?_)
 obtain ⟨H1,I1,q1⟩:=hZ2
 cases c with
 | true=>exact ⟨H1,I1,q1⟩
 | false=>exact hb wh pins s1 σ H1 Q I1 q1
theorem tL (ha:PT X a tA):PT X (.UnaryOp .Not a pos) (tNot tA):=by
 intro pins s σ H Q I h
 exact isTrue_not (ha pins s σ H (fun c H1=>Q (!c) H1) I h)
def tAndV (ta tb:TE):TE:=fun σ H Q=>ta σ H fun x H1=>∃ c,x=.bl c/\if c=true then tb σ H1 Q else Q (.bl false) H1
def tOrV (ta tb:TE):TE:=fun σ H Q=>ta σ H fun x H1=>∃ c,x=.bl c/\if c=true then Q (.bl true) H1 else tb σ H1 Q
def tNotV (ta:TE):TE:=fun σ H Q=>ta σ H fun x H1=>∃ c,x=.bl c/\Q (.bl (!c)) H1
theorem tU {op} {t:TE} (h:PE X a t):PE X (.BoolOp op [a] pos) t:=fun pins s σ H Q I hw=>BoolOp_one (h pins s σ H Q I hw)
theorem tZ (ha:PE X a ta) (hb:PE X (.BoolOp .And (b::T0) pos) tb):PE X (.BoolOp .And (a::b::T0) pos) (tAndV ta tb):=by
 intro pins s σ H Q I h
 refine BoolOp_and (thn (ha pins s σ H _ I h) fun v s1 hZ2=>?_)
 obtain ⟨x,H1,I1,r1,q1⟩:=hZ2
 obtain ⟨c,rfl,q1⟩:=q1
 cases r1
 refine wpAny_truthy_bool ?_
 cases c with
 | true=>exact hb pins s1 σ H1 Q I1 q1
 | false=>exact ⟨.bl false,H1,I1,rfl,q1⟩
theorem pe_or (ha:PE X a ta) (hb:PE X (.BoolOp .Or (b::T0) pos) tb):PE X (.BoolOp .Or (a::b::T0) pos) (tOrV ta tb):=by
 intro pins s σ H Q I h
 refine BoolOp_or (thn (ha pins s σ H _ I h) fun v s1 hZ2=>?_)
 obtain ⟨x,H1,I1,r1,q1⟩:=hZ2
 obtain ⟨c,rfl,q1⟩:=q1
 cases r1
 refine wpAny_truthy_bool ?_
 cases c with
 | false=>exact hb pins s1 σ H1 Q I1 q1
 | true=>exact ⟨.bl true,H1,I1,rfl,q1⟩
theorem tV (ha:PE X a ta):PE X (.UnaryOp .Not a pos) (tNotV ta):=by
 intro pins s σ H Q I h
 refine UnaryOp_ (thn (ha pins s σ H _ I h) fun v s1 hZ2=>?_)
 obtain ⟨x,H1,I1,r1,q1⟩:=hZ2
 obtain ⟨c,rfl,q1⟩:=q1
 cases r1
 exact not_of (wpAny_truthy_bool ⟨.bl (!c),H1,I1,rfl,q1⟩)
def tIf (t:TT) (ta tb:TE):TE:=fun σ H Q=>t σ H fun c H1=>if c=true then ta σ H1 Q else tb σ H1 Q
theorem jJ {c:Expr} (hc:PT X c tA) (ha:PE X a ta) (hb:PE X b tb):PE X (.IfExp c a b pos) (tIf tA ta tb):=by
 intro pins s σ H Q I h
 refine wpAny_IfExp (thn (hc pins s σ H _ I h) fun d s1 hZ2=>?_)
 obtain ⟨H1,I1,q1⟩:=hZ2
 cases d with
 | true=>exact ha pins s1 σ H1 Q I1 q1
 | false=>exact hb pins s1 σ H1 Q I1 q1
end
end L2
namespace L2
open PySem PySem.Spec PyProof.Rows
def SqL (K:PySem.W.Frag) (H:Hp) (a:Addr) (xs:List V):Prop :=
 Rd H a (.lst xs) \/
   ∃ (o:Obj) (its:Array Value) (n:Nat),K.lookup a=some o/\o.cls=.type "list" /\ o.dict=none/\o.data=.seq its n/\its.size<=sizeLine/\Vals xs its.toList
def SqT (K:PySem.W.Frag) (H:Hp) (a:Addr) (xs:List V):Prop :=
 Rd H a (.tup xs) \/
   ∃ (o:Obj) (its:Array Value) (n:Nat),K.lookup a=some o/\o.cls=.type "tuple" /\ o.data=.seq its n/\its.size<=sizeLine/\Vals xs its.toList
noncomputable def absV:Value->Option V
 | .none=>some .non
 | .bool b=>some (.bl b)
 | .int i _=>some (.int i)
 | .str x _=>some (.str x)
 | .bytes b _=>some (.byt b)
 | .float b _=>some (.flt b)
 | .ref a=>some (.ref a)
 | .type n=>some (.ty n)
 | _=>none
theorem RelV.abs {x:V} {u:Value} (r:RelV x u):absV u=some x:=by
 cases x with
 | non=>cases r; rfl
 | bl _=>cases r; rfl
 | int _=>obtain ⟨t,rfl⟩:=r; rfl
 | str _=>obtain ⟨t,rfl⟩:=r; rfl
 | byt _=>obtain ⟨t,rfl⟩:=r; rfl
 | flt _=>obtain ⟨t,rfl⟩:=r; rfl
 | ref _=>cases r; rfl
 | ty _=>cases r; rfl
theorem RelV.inj {x y:V} {u:Value} (r:RelV x u) (q:RelV y u):x=y:=Option.some.inj (r.abs.symm.trans q.abs)
theorem Vals.inj {xs:List V}:∀ {ys:List V} {us:List Value},Vals xs us->Vals ys us->xs=ys:=by
 induction xs with
 | nil=>intro ys us h q; cases h; cases q; rfl
 | cons x xs ih=>intro ys us h q; cases h with | cons r t=>cases q with | cons r' t'=>rw [r.inj r',ih t t']
section
variable {X:Cx} {pins:List (Addr×Obj)} {σ:St} {H:Hp} {s:Shared} {a:Addr} {xs ys:List V}
theorem Inv.list (I:Inv X pins σ H s) (h:SqL X.K H a xs):∃ its:List Value,Vals xs its/\PlainL s.heap a its.toArray/\xs.length<=sizeLine:=by
 rcases h with h | ⟨o,its,n,hk,hc,hd,hs,hz,r⟩
 . obtain ⟨z,its,n,r,e⟩:=h.ok I.hok
   exact ⟨its,r,⟨_,n,e,rfl,rfl,rfl⟩,z⟩
 . refine ⟨its.toList,r,⟨o,n,I.kIn a o hk,hc,hd,by simpa using hs⟩,?_⟩
   have e:=r.length; simp only [Array.length_toList] at e
   lia
theorem Inv.tuple (I:Inv X pins σ H s) (h:SqT X.K H a xs):∃ its:List Value,Vals xs its/\IsTup s.heap a its.toArray/\xs.length<=sizeLine:=by
 rcases h with h | ⟨o,its,n,hk,hc,hs,hz,r⟩
 . obtain ⟨z,its,r,p⟩:=h.ok I.hok
   exact ⟨its,r,p,z⟩
 . refine ⟨its.toList,r,⟨o,I.kIn a o hk,hc,n,by simpa using hs⟩,?_⟩
   have e:=r.length; simp only [Array.length_toList] at e
   lia
theorem Inv.list_inj (I:Inv X pins σ H s) (h:SqL X.K H a xs) (h':SqL X.K H a ys):xs=ys:=by
 obtain ⟨its,r,⟨o,n,e,_,_,d⟩,_⟩:=I.list h
 obtain ⟨its',r',⟨o',n',e',_,_,d'⟩,_⟩:=I.list h'
 rw [e] at e'; cases e'
 rw [d] at d'
 injection d' with d1 _
 have:its=its':=by simpa using congrArg Array.toList d1
 subst this
 exact r.inj r'
theorem Inv.tuple_inj (I:Inv X pins σ H s) (h:SqT X.K H a xs) (h':SqT X.K H a ys):xs=ys:=by
 obtain ⟨its,r,⟨o,e,_,n,d⟩,_⟩:=I.tuple h
 obtain ⟨its',r',⟨o',e',_,n',d'⟩,_⟩:=I.tuple h'
 rw [e] at e'; cases e'
 rw [d] at d'
 injection d' with d1 _
 have:its=its':=by simpa using congrArg Array.toList d1
 subst this
 exact r.inj r'
end
noncomputable abbrev Cx.wish (X:Cx) (E:Value->Shared->Prop):Cx:={ X with xe:=E }
noncomputable abbrev Cx.nox (X:Cx):Cx:=X.wish fun _ _=>False
theorem Cx.Ok.wish {X:Cx} (ok:X.Ok) (E:Value->Shared->Prop):(X.wish E).Ok :=
 ⟨ok.mod,ok.kind,ok.glob,ok.blt,ok.above,ok.inj,ok.has,ok.cab,ok.hd,ok.frames,ok.stk,ok.exf,ok.bs,ok.bsz,ok.noex,ok.exfs,ok.funs,ok.frf⟩
theorem Cx.Ok.unwish {X:Cx} {E:Value->Shared->Prop} (ok:(X.wish E).Ok):X.Ok :=
 ⟨ok.mod,ok.kind,ok.glob,ok.blt,ok.above,ok.inj,ok.has,ok.cab,ok.hd,ok.frames,ok.stk,ok.exf,ok.bs,ok.bsz,ok.noex,ok.exfs,ok.funs,ok.frf⟩
section
variable {X:Cx} {pins:List (Addr×Obj)} {σ:St} {H:Hp} {s:Shared} {E:Value->Shared->Prop}
theorem Inv.wish (I:Inv X pins σ H s) (E:Value->Shared->Prop):Inv (X.wish E) pins σ H s:=⟨I.ok.wish E,I.os,I.bare,I.base,I.loc,I.cell,I.free,I.freeC,I.pin,I.hok,I.len⟩
theorem Inv.unwish (I:Inv (X.wish E) pins σ H s):Inv X pins σ H s:=⟨I.ok.unwish,I.os,I.bare,I.base,I.loc,I.cell,I.free,I.freeC,I.pin,I.hok,I.len⟩
theorem SP.unwish {D:Ends} {f:Flow} {s':Shared} (h:SP (X.wish E) pins D f s'):SP X pins D f s':=by
 cases f with
 | next=>obtain ⟨σ',H',I,q⟩:=h; exact ⟨σ',H',I.unwish,q⟩
 | brk=>obtain ⟨σ',H',I,q⟩:=h; exact ⟨σ',H',I.unwish,q⟩
 | cont=>obtain ⟨σ',H',I,q⟩:=h; exact ⟨σ',H',I.unwish,q⟩
 | ret u=>obtain ⟨v,σ',H',I,r,q⟩:=h; exact ⟨v,σ',H',I.unwish,r,q⟩
theorem PSs.nox {st:List Stmt} {t:TS} (h:PSs X.nox st t):PSs X st t:=fun pins s σ H D I hw =>
 wpAny_mono (h pins s σ H D (I.wish _) hw) (fun _ _ q=>q.unwish) fun _ _ z=>False.elim z
end
section
variable {X:Cx} {st:Stmt} {T0:List Stmt} {t u:TS} {e:Expr} {te:TE} {pos:Pos}
def tNext:TS:=fun D σ H=>D.nx σ H
def tSeq (t u:TS):TS:=fun D σ H=>t { D with nx:=u D } σ H
theorem cJ:PSs X [] tNext:=fun _ _ σ H _ I h=>wpAny_execs_nil ⟨σ,H,I,h⟩
theorem Xs (h1:PS X st t) (h2:PSs X T0 u):PSs X (st::T0) (tSeq t u):=by
 intro pins s σ H D I h
 refine wpAny_execs_cons (thn (h1 pins s σ H { D with nx:=u D } I h) fun f s1 q=>?_)
 cases f with
 | next =>
   obtain ⟨σ',H',I',q⟩:=q; exact h2 pins s1 σ' H' D I' q
 | ret v=>exact q
 | brk=>exact q
 | cont=>exact q
theorem Vc (h1:PS X st t):PSs X [st] t:=by
 intro pins s σ H D I h
 refine wpAny_execs_cons (thn (h1 pins s σ H D I h) fun f s1 q=>?_)
 cases f with
 | next=>exact wpAny_execs_nil q
 | ret v=>exact q
 | brk=>exact q
 | cont=>exact q
theorem Inv.quiet {pins:List (Addr×Obj)} {σ:St} {H:Hp} {s:Shared} (I:Inv X pins σ H s):interactive X.env=false:=by simp [interactive,I.ok.kind]
def tDrop (te:TE):TS:=fun D σ H=>te σ H fun _ H1=>D.nx σ H1
theorem nG (he:PE X e te) (hs:swapsWith e none pos.line X.env=pure false:=by rfl):PS X (.Expr e pos) (tDrop te):=by
 intro pins s σ H D I h
 exact wpAny_Expr_any (thn (he pins s σ H _ I h) fun v s1 hZ2=>by obtain ⟨x,H1,I1,r1,q1⟩:=hZ2; exact ⟨σ,H1,I1,q1⟩) I.quiet hs
def tRet (te:TE):TS:=fun D σ H=>te σ H D.rt
theorem aM (he:PE X e te):PS X (.Return (some e) pos) (tRet te):=by
 intro pins s σ H D I h
 exact wpAny_Return_some (thn (he pins s σ H _ I h) fun v s1 hZ2=>by obtain ⟨x,H1,I1,r1,q1⟩:=hZ2; exact ⟨x,σ,H1,I1,r1,q1⟩)
def tIfS (c:TT) (t u:TS):TS:=fun D σ H=>c σ H fun b H1=>if b=true then t D σ H1 else u D σ H1
theorem rA {c:Expr} {a b:List Stmt} {tc:TT} (hc:PT X c tc) (ha:PSs X a t) (hb:PSs X b u):PS X (.If c a b pos) (tIfS tc t u):=by
 intro pins s σ H D I h
 refine wpAny_If (thn (hc pins s σ H _ I h) fun d s1 hZ2=>?_)
 obtain ⟨H1,I1,q1⟩:=hZ2
 cases d with
 | true=>exact ha pins s1 σ H1 D I1 q1
 | false=>exact hb pins s1 σ H1 D I1 q1
end
abbrev TG:=V->St->Hp->(St->Hp->Prop)->Prop
abbrev TGs:=List V->St->Hp->(St->Hp->Prop)->Prop
def PG (X:Cx) (target:Expr) (t:TG):Prop :=
 ∀ (pins:List (Addr×Obj)) (s:Shared) (σ:St) (H:Hp) (v:V) (u:Value) (Q:St->Hp->Prop),Inv X pins σ H s->RelV v u->t v σ H Q ->
   wpAny (model X.prog X.w) X.A (assign target X.env u) (fun _ s'=>∃ σ' H',Inv X pins σ' H' s'/\Q σ' H') X.xe s
def PGs (X:Cx) (ts:List Expr) (t:TGs):Prop :=
 ∀ (pins:List (Addr×Obj)) (s:Shared) (σ:St) (H:Hp) (vs:List V) (us:List Value) (Q:St->Hp->Prop),Inv X pins σ H s->Vals vs us->t vs σ H Q ->
   wpAny (model X.prog X.w) X.A (assignInOrder ((assignEach ts X.env).map (·.2)) us) (fun _ s'=>∃ σ' H',Inv X pins σ' H' s'/\Q σ' H') X.xe s
section
variable {X:Cx} {pos:Pos}
def Ek (i:Nat):TG:=fun v σ H Q=>Q (σ.set i (some v)) H
theorem Fx {i:Nat} {x:Str} (hN:X.N.Nodup) (hi:X.N[i]? = some x) (hx:Loc X.env.scope x) (hf:X.fn x=true\/X.env.scope.names.lookup x=some .local:=by first | exact .inl rfl | exact .inr rfl | assumption):PG X (.Name x pos) (Ek i):=by
 intro pins s σ H v u Q I r h
 exact wpAny_assign_Name (Xi I hN hi hx r (fun s' I'=>⟨_,H,I',h⟩) hf)
def vF:TGs:=fun vs σ H Q=>vs=[]/\Q σ H
def Yl (t:TG) (u:TGs):TGs:=fun vs σ H Q=>∃ v r,vs=v::r/\t v σ H fun σ' H'=>u r σ' H' Q
theorem cK:PGs X [] vF:=by
 intro pins s σ H vs us Q I r h
 obtain ⟨e,h⟩:=h
 subst e
 cases r
 exact assignInOrder_nil ⟨σ,H,I,h⟩
theorem Jn {e:Expr} {es:List Expr} {t:TG} {u:TGs} (h1:PG X e t) (h2:PGs X es u)
   (hs:(assignEach (e::es) X.env).map (·.2)=assign e X.env::(assignEach es X.env).map (·.2):=by rfl):PGs X (e::es) (Yl t u):=by
 intro pins s σ H vs us Q I r h
 obtain ⟨v,vr,e1,h⟩:=h
 subst e1
 cases r with
 | cons r rr =>
   rw [hs]; refine assignInOrder_cons (thn (h1 pins s σ H _ _ _ I r h) fun _ s1 hZ2=>?_)
   obtain ⟨σ1,H1,I1,q1⟩:=hZ2; exact h2 pins s1 σ1 H1 _ _ Q I1 rr q1
def vE (K:PySem.W.Frag) (n:Nat) (t:TGs):TG:=fun v σ H Q=>∃ a xs,v=.ref a/\SqT K H a xs/\xs.length=n/\t xs σ H Q
theorem jF {es:List Expr} {k:Nat} {t:TGs} {n:Nat} (hc:X.calm=true) (h:PGs X es t)
   (hn:(assignEach es X.env).length=n:=by rfl) (hst:(assignEach es X.env).findIdx? (·.1)=none:=by rfl):PG X (.Tuple es k pos) (vE X.K n t):=by
 intro pins s σ H v u Q I r hw
 obtain ⟨a,xs,e1,hq,hl,hw⟩:=hw
 subst e1
 cases r
 obtain ⟨its,rv,ht,hz⟩:=I.tuple hq
 refine assign_Tuple_tuple (I.ok.hd hc) ht (by simp [hn,<- hl,rv.length]) hst fun h' hx=>?_
 have I1:Inv X pins σ H { s with heap:=h' }:=I.kept (t':=s.toks) fun b o e=>hx b o (Nat.ne_of_lt (Heap.lt_size e)) e
 exact h pins _ σ H xs _ Q I1 (by simpa using rv) hw
def sN (te:TE) (g:TG):TS:=fun D σ H=>te σ H fun x H1=>g x σ H1 D.nx
theorem tP {tg e:Expr} {te:TE} {g:TG} (he:PE X e te) (hg:PG X tg g) (hs:swapsWithSole [tg] e pos.line X.env=pure false:=by rfl) (hw:swappedStores [tg] e X.env=pure none:=by rfl)
   (h1:(assignEach [tg] X.env).map (·.2)=[assign tg X.env]:=by rfl):PS X (.Assign [tg] e pos) (sN te g):=by
 intro pins s σ H D I h
 refine wpAny_Assign_stores (thn (he pins s σ H _ I h) fun v s1 hY3=>?_) hs hw
 obtain ⟨x,H1,I1,r1,q1⟩:=hY3
 rw [h1]
 exact thn (hg pins s1 σ H1 x v _ I1 r1 q1) fun _ s2 q=>q
theorem aL {i:Nat} {x:Str} {e:Expr} {te:TE} {pos':Pos} (hN:X.N.Nodup) (hi:X.N[i]? = some x) (hx:Loc X.env.scope x) (he:PE X e te) (hs:swapsWith e (some (.Name x pos')) pos.line X.env=pure false:=by rfl) (hf:X.fn x=true\/X.env.scope.names.lookup x=some .local:=by first | exact .inl rfl | exact .inr rfl | assumption) :
   PS X (.Assign [.Name x pos'] e pos) (sN te (Ek i)):=by
 intro pins s σ H D I h
 refine wpAny_Assign_Name (thn (he pins s σ H _ I h) fun v s1 hY4=>?_) hs
 obtain ⟨y,H1,I1,r1,q1⟩:=hY4
 exact Xi I1 hN hi hx r1 (fun s2 I2=>⟨_,H1,I2,q1⟩) hf
end
structure It where
 go:Nat->Hp->Prop
 yld:Nat->Hp->V->Hp->Prop
 stop:Nat->Hp->Prop
def Qz (X:Cx) (pins:List (Addr×Obj)) (H:Hp) (b:Addr):Prop :=
 H b=none/\b≠X.env.locals/\b∉X.fs/\(b∈X.ex\/X.s₀.heap.objs.size<=b)/\(∀ x c,X.env.cells.lookup x=some c->c≠b)/\∀ p∈X.pn++pins,p.1≠b
theorem Inv.fpOk {X:Cx} {pins:List (Addr×Obj)} {σ:St} {H H':Hp} {s:Shared} {b:Addr} (I:Inv X pins σ H s) (hb:s.heap.objs.size<=b) (hn:H' b=none):Qz X pins H' b:=by
 refine ⟨hn,Nat.ne_of_gt (Nat.lt_of_lt_of_le I.lt hb),I.nofs hb,.inr (Nat.le_trans I.sz hb),fun x c e z=>?_,fun p hp z=>?_⟩
 . obtain ⟨v,q⟩:=I.cell x c e
   exact absurd (Nat.lt_of_lt_of_le q.lt (by rw [z]; exact hb)) (Nat.lt_irrefl _)
 . exact absurd (Nat.lt_of_lt_of_le (Heap.lt_size (I.pin p hp).1) (by rw [z]; exact hb)) (Nat.lt_irrefl _)
structure Turn (P:Program) (w:World) (K:PySem.W.Frag) (tg:Expr) (J:It) (fp:List Addr) (it:Addr) (tn:Nat->Heap->Prop):Prop where
 mem:it∈fp
 obj:∀ i h,tn i h->∀ b∈fp,∃ o,h.get? b=some o/\∀ v,o.data≠.cell v
 keep:∀ i h h',tn i h->(∀ b∈fp,∀ o,h.get? b=some o->h'.get? b=some o)->tn i h'
 item:∀ (X:Cx),X.prog=P->X.w=w->X.K=K->X.calm=true->∀ (i:Nat) (pins:List (Addr×Obj)) (s:Shared) (σ:St) (H:Hp) (E:Value->Shared->Prop),Inv X pins σ H s->(∀ b∈fp,Qz X pins H b)->tn i s.heap->J.go i H ->
   wpAny (model P w) X.A (pyNext (.ref it)) (fun r s1=>∃ u,r=some u /\
     wpAny (model P w) X.A (letOwnedTupleGo tg (.ref it) u) (fun _ s2=>∃ x H',Inv X pins σ H' s2/\RelV x u/\J.yld i H x H'/\tn (i+1) s2.heap/\∀ b∈fp,H' b=none) E s1) E s
 done:∀ (X:Cx),X.prog=P->X.w=w->X.K=K->X.calm=true->∀ (i:Nat) (pins:List (Addr×Obj)) (s:Shared) (σ:St) (H:Hp) (E:Value->Shared->Prop),Inv X pins σ H s->(∀ b∈fp,Qz X pins H b)->tn i s.heap->J.stop i H ->
   wpAny (model P w) X.A (pyNext (.ref it)) (fun r s1=>r=none/\Inv X pins σ H s1) E s
 self:∀ (A:Around) (i:Nat) (s:Shared) (Q:Value->Shared->Prop) (E:Value->Shared->Prop),tn i s.heap->Q (.ref it) s->wpAny (model P w) A (pyIter (.ref it)) Q E s
abbrev TI:=St->Hp->(It->Hp->Prop)->Prop
def PIE (X:Cx) (pins:List (Addr×Obj)) (σ:St) (tg:Expr) (R:It->Hp->Prop) (itv:Value) (s2:Shared):Prop :=
 ∃ (it:Addr) (fp:List Addr) (tn:Nat->Heap->Prop) (J:It) (H':Hp),itv=.ref it/\Inv X pins σ H' s2/\Turn X.prog X.w X.K tg J fp it tn/\tn 0 s2.heap/\(∀ b∈fp,Qz X pins H' b)/\R J H'
def PI (X:Cx) (tg iter:Expr) (wi:TI):Prop :=
 ∀ (pins:List (Addr×Obj)) (s:Shared) (σ:St) (H:Hp) (R:It->Hp->Prop),Inv X pins σ H s->wi σ H R ->
   wpAny (model X.prog X.w) X.A (eval iter X.env) (fun v s1=>wpAny (model X.prog X.w) X.A (pyIter v) (PIE X pins σ tg R) X.xe s1) X.xe s
theorem Yk {M:Model} {A:Around} {E:Value->Shared->Prop} {s:Shared} {tg:Expr} {it:Addr} {u:Value} {o:Obj} {n:String} {vs:Array Value} {Q:Unit->Shared->Prop} (ho:s.heap.get? it=some o) (hc:o.cls=.type n) (hd:o.data=.fields vs)
   (hn:["enumerate", "zip", "dict_itemiterator", "dict_reverseitemiterator", "odict_iterator", "itertools.zip_longest", "itertools.pairwise"].contains n=false) (hQ:Q () s):wpAny M A (letOwnedTupleGo tg (.ref it) u) Q E s:=by
 unfold letOwnedTupleGo
 cases tg <;> first
   | exact wpAny_pure hQ
   | (cases u <;> first
       | exact wpAny_pure hQ
       | (refine wpAny_bind (wpAny_load ho ?_)
          rw [hc,hd]; show wpAny M A (if (["enumerate", "zip", "dict_itemiterator", "dict_reverseitemiterator", "odict_iterator", "itertools.zip_longest", "itertools.pairwise"].contains n&&vs[0]? == some (rawInt _))=true then _ else _) Q E s
          rw [if_neg (by intro h; rw [hn,Bool.false_and] at h; cases h)]
          exact wpAny_pure hQ))
noncomputable def Itl (K:PySem.W.Frag) (a:Addr):It :=
 ⟨fun i H=>∃ xs x,SqL K H a xs/\xs[i]? = some x,fun i H x H'=>H'=H/\∀ xs,SqL K H a xs->xs[i]? = some x,fun i H=>∃ xs,SqL K H a xs/\xs.length<=i⟩
noncomputable def Itt (K:PySem.W.Frag) (a:Addr):It :=
 ⟨fun i H=>∃ xs x,SqT K H a xs/\xs[i]? = some x,fun i H x H'=>H'=H/\∀ xs,SqT K H a xs->xs[i]? = some x,fun i H=>∃ xs,SqT K H a xs/\xs.length<=i⟩
noncomputable def Itr (lo:Int) (n:Nat):It:=⟨fun i _=>i < n,fun i H x H'=>H'=H/\x=.int (lo+i),fun i _=>n<=i⟩
theorem dP {P:Program} {w:World} {K:PySem.W.Frag} {tg:Expr} (a it:Addr):Turn P w K tg (Itl K a) [it] it (fun i h=>h.IsListIter it a i) where
 mem:=by simp
 obj:=fun i h st b hb=>by
   have e:b=it:=by simpa using hb
   subst e; obtain ⟨o,e,c,d⟩:=st; exact ⟨o,e,fun v z=>by rw [d] at z; cases z⟩
 keep:=fun i h h' st k=>st.at fun o e=>k it (by simp) o e
 item:=by
   intro X hP hw hK hc i pins s σ H E I hf st hg; subst hP hw hK; obtain ⟨xs,x,hq,hx⟩:=hg; obtain ⟨its,rv,p,hz⟩:=I.list hq; obtain ⟨u,hu,ru⟩:=rv.get hx; obtain ⟨f0,f1,f2,f3,f4,f5⟩:=hf it (by simp)
   refine wpAny_pyNext_list_item st p.isList (x:=u) (by simpa using hu) fun h' st' sb=>?_
   have I1:Inv X pins σ H { s with heap:=h' }:=I.turned (t':=s.toks) (fun b o hb e=>(sb.2 b hb).trans e) f0 f1 f3 f4 f5
   obtain ⟨o,e,c,d⟩:=id st'; exact ⟨u,rfl,Yk (s:={ s with heap:=h' }) e c d (by decide) ⟨x,H,I1,ru,⟨rfl,fun ys hy=>by rw [I.list_inj hy hq]; exact hx⟩,st',fun b hb=>(hf b hb).1⟩⟩
 done:=by
   intro X hP hw hK hc i pins s σ H E I hf st hg; subst hP hw hK; obtain ⟨xs,hq,hx⟩:=hg; obtain ⟨its,rv,p,hz⟩:=I.list hq; obtain ⟨f0,f1,f2,f3,f4,f5⟩:=hf it (by simp)
   have hl:=rv.length; exact wpAny_pyNext_list_end (I.ok.hd hc) st p.isList (by simp; lia) fun h' eb=>⟨rfl,I.turned (t':=s.toks) (fun b o hb e=>eb b o hb e) f0 f1 f3 f4 f5⟩
 self:=fun _ _ _ _ _ st h=>wpAny_pyIter_listiter st h
theorem Zj {P:Program} {w:World} {K:PySem.W.Frag} {tg:Expr} (a it:Addr):Turn P w K tg (Itt K a) [it] it (fun i h=>h.IsTupleIter it a i) where
 mem:=by simp
 obj:=fun i h st b hb=>by
   have e:b=it:=by simpa using hb
   subst e; obtain ⟨o,e,c,d⟩:=st; exact ⟨o,e,fun v z=>by rw [d] at z; cases z⟩
 keep:=fun i h h' st k=>st.at fun o e=>k it (by simp) o e
 item:=by
   intro X hP hw hK hc i pins s σ H E I hf st hg; subst hP hw hK; obtain ⟨xs,x,hq,hx⟩:=hg; obtain ⟨its,rv,p,hz⟩:=I.tuple hq; obtain ⟨u,hu,ru⟩:=rv.get hx; obtain ⟨f0,f1,f2,f3,f4,f5⟩:=hf it (by simp)
   refine wpAny_pyNext_tuple_item st (show s.heap.IsTuple a its.toArray from p) (x:=u) (by simpa using hu) fun h' st' sb=>?_
   have I1:Inv X pins σ H { s with heap:=h' }:=I.turned (t':=s.toks) (fun b o hb e=>(sb.2 b hb).trans e) f0 f1 f3 f4 f5
   obtain ⟨o,e,c,d⟩:=id st'; exact ⟨u,rfl,Yk (s:={ s with heap:=h' }) e c d (by decide) ⟨x,H,I1,ru,⟨rfl,fun ys hy=>by rw [I.tuple_inj hy hq]; exact hx⟩,st',fun b hb=>(hf b hb).1⟩⟩
 done:=by
   intro X hP hw hK hc i pins s σ H E I hf st hg; subst hP hw hK; obtain ⟨xs,hq,hx⟩:=hg; obtain ⟨its,rv,p,hz⟩:=I.tuple hq; obtain ⟨f0,f1,f2,f3,f4,f5⟩:=hf it (by simp)
   have hl:=rv.length; exact wpAny_pyNext_tuple_end (I.ok.hd hc) st (show s.heap.IsTuple a its.toArray from p) (by simp; lia) fun h' eb=>⟨rfl,I.turned (t':=s.toks) (fun b o hb e=>eb b o hb e) f0 f1 f3 f4 f5⟩
 self:=fun _ _ _ _ _ st h=>wpAny_pyIter_tupleiter st h
theorem Zk {P:Program} {w:World} {K:PySem.W.Frag} {tg:Expr} (it:Addr) (lo:Int) (n:Nat):Turn P w K tg (Itr lo n) [it] it (fun i h=>IsRangeIter h it (lo+(i:Nat)*1) ((n:Int) - (i:Nat)) 1) where
 mem:=by simp
 obj:=fun i h st b hb=>by
   have e:b=it:=by simpa using hb
   subst e; exact ⟨_,st,fun v z=>by
     have z':Data.fields _=Data.cell v:=z
     cases z'⟩
 keep:=fun i h h' st k=>k it (by simp) _ st
 item:=by
   intro X hP hw hK hc i pins s σ H E I hf st hg; subst hP hw hK; obtain ⟨f0,f1,f2,f3,f4,f5⟩:=hf it (by simp)
   have W:=Walks.range (prog:=X.prog) (w:=X.w) (I.ok.hd hc) it lo 1 n; refine W.item i s _ _ hg st fun v h' tk hv st' kk=>?_
   obtain ⟨t,rfl⟩:=hv; have I1:Inv X pins σ H { s with heap:=h',toks:=tk }:=I.turned (fun b o hb e=>kk b o (by simpa using hb) e) f0 f1 f3 f4 f5
   refine ⟨_,rfl,Yk (s:={ s with heap:=h',toks:=tk }) (n := "range_iterator") st' rfl rfl (by decide) ⟨.int (lo+i),H,I1,⟨t,?_⟩,⟨rfl,rfl⟩,st',fun b hb=>(hf b hb).1⟩⟩
   rw [Int.mul_one]
 done:=by
   intro X hP hw hK hc i pins s σ H E I hf st hg; subst hP hw hK; obtain ⟨f0,f1,f2,f3,f4,f5⟩:=hf it (by simp)
   exact wpAny_pyNext_range_end (I.ok.hd hc) st (by have:n<=i:=hg; lia) fun h' eb=>⟨rfl,I.turned (t':=s.toks) (fun b o hb e=>eb b o hb e) f0 f1 f3 f4 f5⟩
 self:=fun _ _ _ _ _ st h=>wpAny_pyIter_rangeiter st h
end L2
namespace L2
open PySem PySem.Spec PyProof.Rows
section
variable {X:Cx} {tg:Expr}
theorem Xq {pins:List (Addr×Obj)} {σ:St} {H:Hp} {s:Shared} {R:It->Hp->Prop} {E:Value->Shared->Prop} {lo hi:Int} {t u v:Tok} {tk:Nat} (I:Inv X pins σ H s) (h1 : -(2 ^ 62)<=lo) (h2:lo < 2 ^ 62) (h3 : -(2 ^ 62)<=hi) (h4:hi < 2 ^ 62)
   (q:R (Itr lo (hi - lo).toNat) H):wpAny (model X.prog X.w) X.A (pyIter (.ref s.heap.objs.size)) (PIE X pins σ tg R) E { s with heap:=s.heap.push { cls:=.type "range",data:=.fields #[.int lo t,.int hi u,.int 1 v] },toks:=tk }:=by
 refine wpAny_pyIter_range (IsRange.new ..) (small_one h1 h2 h3 h4) ?_
 have I1:Inv X pins σ H { s with heap:=s.heap.push { cls:=.type "range",data:=.fields #[.int lo t,.int hi u,.int 1 v] },toks:=tk }:=I.kept fun b o e=>Heap.get?_push_of_some _ e
 refine ⟨(s.heap.push { cls:=.type "range",data:=.fields #[.int lo t,.int hi u,.int 1 v] }).objs.size,[(s.heap.push { cls:=.type "range",data:=.fields #[.int lo t,.int hi u,.int 1 v] }).objs.size],_,_,H,rfl,
   I1.kept (t':=tk) fun b o e=>Heap.get?_push_of_some _ e,Zk _ lo (hi - lo).toNat,?_,fun b hb=>?_,q⟩
 . have e1:lo+((0:Nat):Int)*1=lo:=by simp
   have e2:(((hi - lo).toNat:Nat):Int) - ((0:Nat):Int)=Builtin.Range.rangeSize lo hi 1:=by rw [rangeSize_one]; split <;> lia
   show IsRangeIter _ _ (lo+((0:Nat):Int)*1) ((((hi - lo).toNat:Nat):Int) - ((0:Nat):Int)) 1
   rw [e1,e2]; exact Heap.get?_push_size _ rfl
 . have e:b=(s.heap.push { cls:=.type "range",data:=.fields #[.int lo t,.int hi u,.int 1 v] }).objs.size:=by simpa using hb
   subst e; exact I1.fpOk (Nat.le_refl _) (I1.hok.fresh (Nat.le_refl _))
def iRng1 (ta:TA):TI:=fun σ H R=>ta σ H fun vs H1=>∃ j:Int,vs=[.int j] /\ -(2 ^ 62)<=j/\j < 2 ^ 62/\R (Itr 0 j.toNat) H1
def iRng2 (ta:TA):TI:=fun σ H R=>ta σ H fun vs H1=>∃ i j:Int,vs=[.int i,.int j]/\(-(2 ^ 62)<=i/\i < 2 ^ 62 /\ -(2 ^ 62)<=j/\j < 2 ^ 62)/\R (Itr i (j - i).toNat) H1
theorem eL {a:Expr} {ta:TA} {p pos:Pos} (hg:Gl X "range") (hm:X.mg "range" = none) (ha:PA X [a] ta) (hs:starEach [a] X.env=[(false,eval a X.env)]:=by rfl):PI X tg (.Call (.Name "range" p) [a] [] pos) (iRng1 ta):=by
 intro pins s σ H R I h
 refine Call_ (Li I hg hm boot_range (PyProof.Rows.callWith_type1 (thn (ha pos pins s σ H _ I h) fun us s1 hY6=>?_) hs rfl))
 obtain ⟨vs,H1,I1,r1,q1⟩:=hY6
 obtain ⟨j,e,q1,q2,q⟩:=q1
 subst e
 cases r1 with
 | cons r rr =>
   cases rr; obtain ⟨t,rfl⟩:=r; exact call_range_1 (Xq I1 (by lia) (by lia) q1 q2 (by simpa using q))
theorem eK {a b:Expr} {ta:TA} {p pos:Pos} (hg:Gl X "range") (hm:X.mg "range" = none) (ha:PA X [a,b] ta) (hs:starEach [a,b] X.env=[(false,eval a X.env),(false,eval b X.env)]:=by rfl) (hs2:starEach [b] X.env=[(false,eval b X.env)]:=by rfl) :
   PI X tg (.Call (.Name "range" p) [a,b] [] pos) (iRng2 ta):=by
 intro pins s σ H R I h
 refine Call_ (Li I hg hm boot_range (PyProof.Rows.callWith_type1 (thn (ha pos pins s σ H _ I h) fun us s1 hY7=>?_) (by rw [hs,hs2]) (by rw [hs2]; rfl)))
 obtain ⟨vs,H1,I1,r1,q1⟩:=hY7
 obtain ⟨i,j,e,⟨q1,q2,q3,q4⟩,q⟩:=q1
 subst e
 cases r1 with
 | cons r rr =>
   cases rr with
   | cons r' rr =>
     cases rr; obtain ⟨t,rfl⟩:=r; obtain ⟨t',rfl⟩:=r'; exact call_range_2 (Xq I1 q1 q2 q3 q4 q)
def tFor (wi:TI) (g:TG) (tb:TS):TS:=fun D σ H=>wi σ H fun J H1=>∃ W:Nat->Nat->St->Hp->Prop,(∃ m,W 0 m σ H1)/\∀ i m σ H,W i m σ H ->
 (J.stop i H/\D.nx σ H)\/(J.go i H/\∃ N:St->Hp->Prop,(∀ σ' H',N σ' H'->∃ m',m' < m/\W (i+1) m' σ' H')/\∀ x H',J.yld i H x H'->g x σ H' fun σ2 H2=>tb { D with nx:=N,ct:=N,bk:=D.nx } σ2 H2)
noncomputable def Pp (fp:List Addr) (h:Heap):List (Addr×Obj):=fp.filterMap fun b=>(h.get? b).map fun o=>(b,o)
theorem Hv {fp:List Addr} {h:Heap} {b:Addr} {o:Obj} (hb:b∈fp) (e:h.get? b=some o):(b,o)∈Pp fp h:=List.mem_filterMap.mpr ⟨b,hb,by rw [e]; rfl⟩
theorem eQ {fp:List Addr} {h:Heap} {p:Addr×Obj} (hp:p∈Pp fp h):p.1∈fp/\h.get? p.1=some p.2:=by
 obtain ⟨b,hb,e⟩:=List.mem_filterMap.mp hp
 cases q:h.get? b with
 | none=>rw [q] at e; cases e
 | some o =>
   rw [q] at e; have e':(b,o)=p:=Option.some.inj e; subst e'; exact ⟨hb,q⟩
theorem Inv.pinned {pins:List (Addr×Obj)} {σ:St} {H:Hp} {s:Shared} {fp:List Addr} (I:Inv X pins σ H s) (hf:∀ b∈fp,Qz X pins H b) (ho:∀ b∈fp,∃ o,s.heap.get? b=some o/\∀ v,o.data≠.cell v):Inv X (pins++Pp fp s.heap) σ H s :=
 I.pins_of fun p hp=>(List.mem_append.mp hp).elim (fun z=>I.pin p (List.mem_append_right _ z)) fun z=>by
   obtain ⟨hb,e⟩:=eQ z; obtain ⟨f0,f1,f2,_⟩:=hf p.1 hb; obtain ⟨o,e',d⟩:=ho p.1 hb; rw [e] at e'; cases e'; exact ⟨e,f0,f1,f2,d⟩
theorem Inv.unpinned {pins pl:List (Addr×Obj)} {σ:St} {H:Hp} {s:Shared} (I:Inv X (pins++pl) σ H s):Inv X pins σ H s:=I.pins_of fun p hp=>I.pin p (List.mem_append_right _ (List.mem_append_left _ hp))
theorem tN {iter:Expr} {body:List Stmt} {wi:TI} {g:TG} {tb:TS} {pos:Pos} (hp:PassesOwn (model X.prog X.w) X.A X.env X.xe) (hc:X.calm=true) (hi:PI X tg iter wi) (hg:PG X tg g) (hb:PSs X body tb)
   (hs:∀ x,foldedSetIterable iter X.env x=pure x:=by intro _; rfl):PS X (.For tg iter body [] pos) (tFor wi g tb):=by
 intro pins s σ H D I h
 refine wpAny_For (thn (hi pins s σ H _ I h) fun v s1 h1=>thn h1 fun itv s2 h2=>?_) hs
 obtain ⟨it,fp,tn,J,H2,e,I2,T,st2,f2,W,⟨m0,w0⟩,turn⟩:=h2
 subst e
 have stat:∀ {H':Hp},(∀ b∈fp,H' b=none)->∀ b∈fp,Qz X pins H' b:=fun hn b hb=>⟨hn b hb,(f2 b hb).2⟩
 refine codeAny_forLoop_any (fun n s'=>∃ i σ' H',Inv X pins σ' H' s'/\tn i s'.heap/\(∀ b∈fp,H' b=none)/\W i n σ' H') ?_ m0 ⟨0,σ,H2,I2,st2,fun b hb=>(f2 b hb).1,w0⟩
 rintro n s3 ⟨i,σ3,H3,I3,st3,fr3,w3⟩
 rcases turn i n σ3 H3 w3 with ⟨stop,qn⟩ | ⟨go,N,hN,step⟩
 . refine wpAny_passesOwn hp (thn (T.done X rfl rfl rfl hc i pins s3 σ3 H3 X.xe I3 (stat fr3) st3 stop) fun r s4 hZ2=>?_)
   obtain ⟨hr,I4⟩:=hZ2; subst hr; exact wpAny_execs_nil ⟨σ3,H3,I4,qn⟩
 . refine wpAny_passesOwn hp (thn (T.item X rfl rfl rfl hc i pins s3 σ3 H3 X.xe I3 (stat fr3) st3 go) fun r s4 hZ2=>?_)
   obtain ⟨u,hr,h4⟩:=hZ2; subst hr; refine wpAny_passesOwn hp (thn h4 fun _ s5 hZ2=>?_)
   obtain ⟨x,H5,I5,r5,y5,st5,fr5⟩:=hZ2; have I5':=I5.pinned (stat fr5) (T.obj _ _ st5); refine wpAny_passesOwn hp (thn (hg _ s5 σ3 H5 x u _ I5' r5 (step x H5 y5)) fun _ s6 hZ2=>?_)
   obtain ⟨σ6,H6,I6,q6⟩:=hZ2; refine wpAny_passesOwn hp (thn (hb _ s6 σ6 H6 _ I6 q6) fun f s7 q7=>?_)
   have again:∀ {σ7:St} {H7:Hp},Inv X (pins++Pp fp s5.heap) σ7 H7 s7->N σ7 H7->∃ m,m < n/\∃ i σ' H',Inv X pins σ' H' s7/\tn i s7.heap/\(∀ b∈fp,H' b=none)/\W i m σ' H':=fun {σ7 H7} I7 n7=>by
     obtain ⟨m',hm,w7⟩:=hN σ7 H7 n7; refine ⟨m',hm,i+1,σ7,H7,I7.unpinned,T.keep _ _ _ st5 fun b hb o e=>(I7.pin (b,o) (List.mem_append_right _ (List.mem_append_right _ (Hv hb e)))).1,fun b hb=>?_,w7⟩
     obtain ⟨o,e,d⟩:=T.obj _ _ st5 b hb; exact (I7.pin (b,o) (List.mem_append_right _ (List.mem_append_right _ (Hv hb e)))).2.1
   cases f with
   | next=>obtain ⟨σ7,H7,I7,n7⟩:=q7; exact again I7 n7
   | cont=>obtain ⟨σ7,H7,I7,n7⟩:=q7; exact again I7 n7
   | brk=>obtain ⟨σ7,H7,I7,q7⟩:=q7; exact ⟨σ7,H7,I7.unpinned,q7⟩
   | ret v=>obtain ⟨x7,σ7,H7,I7,r7,q7⟩:=q7; exact ⟨x7,σ7,H7,I7.unpinned,r7,q7⟩
end
end L2
namespace L2
open PySem PySem.Spec PyProof.Rows
abbrev R2:=V->V->Hp->VK->Prop
def OpR (X:Cx) (f:Value->Value->Sem Value) (r:R2):Prop :=
 ∀ (pins:List (Addr×Obj)) (s:Shared) (σ:St) (H:Hp) (x y:V) (v u:Value) (Q:VK),Inv X pins σ H s->RelV x v->RelV y u->r x y H Q ->
   wpAny (model X.prog X.w) X.A (f v u) (EP X pins σ Q) X.xe s
def UnR (X:Cx) (f:Value->Sem Value) (r:V->Hp->VK->Prop):Prop :=
 ∀ (pins:List (Addr×Obj)) (s:Shared) (σ:St) (H:Hp) (x:V) (v:Value) (Q:VK),Inv X pins σ H s->RelV x v->r x H Q ->
   wpAny (model X.prog X.w) X.A (f v) (EP X pins σ Q) X.xe s
def T5 (X:Cx) (f:Value) (r:List V->Hp->VK->Prop):Prop :=
 ∀ (pins:List (Addr×Obj)) (s:Shared) (σ:St) (H:Hp) (xs:List V) (us:List Value) (Q:VK),Inv X pins σ H s->Vals xs us->r xs H Q ->
   wpAny (model X.prog X.w) X.A (call f us) (EP X pins σ Q) X.xe s
def TruR (X:Cx) (r:V->Hp->(Bool->Hp->Prop)->Prop):Prop :=
 ∀ (pins:List (Addr×Obj)) (s:Shared) (σ:St) (H:Hp) (x:V) (v:Value) (Q:Bool->Hp->Prop),Inv X pins σ H s->RelV x v->r x H Q ->
   wpAny (model X.prog X.w) X.A (truthy v) (TP X pins σ Q) X.xe s
def tOp (r:R2) (ta tb:TE):TE:=fun σ H Q=>ta σ H fun x H1=>tb σ H1 fun y H2=>r x y H2 Q
def tUn (r:V->Hp->VK->Prop) (ta:TE):TE:=fun σ H Q=>ta σ H fun x H1=>r x H1 Q
def rI (C:Int->Int->Prop) (g:Int->Int->V):R2:=fun x y H Q=>∃ i j,x=.int i/\y=.int j/\C i j/\Q (g i j) H
def rI0 (g:Int->Int->V):R2:=fun x y H Q=>∃ i j,x=.int i/\y=.int j/\Q (g i j) H
def rU (g:Int->V):V->Hp->VK->Prop:=fun x H Q=>∃ i,x=.int i/\Q (g i) H
section
variable {X:Cx} {a b:Expr} {ta tb:TE} {pos:Pos}
theorem wC (ha:PE X a ta) (hb:PE X b tb) {pins:List (Addr×Obj)} {s:Shared} {σ:St} {H:Hp} {R:V->V->Hp->Prop} (I:Inv X pins σ H s)
   (h:ta σ H fun x H1=>tb σ H1 fun y H2=>R x y H2) {Q:Value->Shared->Prop} {f:Value->Value->Sem Value}
   (hf:∀ v u s2 x y H2,Inv X pins σ H2 s2->RelV x v->RelV y u->R x y H2->wpAny (model X.prog X.w) X.A (f v u) Q X.xe s2) :
   wpAny (model X.prog X.w) X.A (eval a X.env) (fun v s₁=>wpAny (model X.prog X.w) X.A (eval b X.env) (fun u s₂=>wpAny (model X.prog X.w) X.A (f v u) Q X.xe s₂) X.xe s₁) X.xe s:=by
 refine thn (ha pins s σ H _ I h) fun v s1 hZ2=>?_
 obtain ⟨x,H1,I1,r1,q1⟩:=hZ2
 refine thn (hb pins s1 σ H1 _ I1 q1) fun u s2 hZ2=>?_
 obtain ⟨y,H2,I2,r2,q2⟩:=hZ2
 exact hf v u s2 x y H2 I2 r1 r2 q2
theorem pe_op {op:Operator} {r:R2} (ho:OpR X (binaryOp op) r) (ha:PE X a ta) (hb:PE X b tb):PE X (.BinOp a op b pos) (tOp r ta tb):=by
 intro pins s σ H Q I h
 exact wpAny_BinOp (wC ha hb I h fun v u s2 x y H2 I2 rx ry q=>ho pins s2 σ H2 x y v u Q I2 rx ry q)
theorem rB {op:UnaryOp} {r:V->Hp->VK->Prop} (ho:UnR X (unaryOp op) r) (ha:PE X a ta):PE X (.UnaryOp op a pos) (tUn r ta):=by
 intro pins s σ H Q I h
 exact UnaryOp_ (thn (ha pins s σ H _ I h) fun v s1 hZ2=>by obtain ⟨x,H1,I1,r1,q1⟩:=hZ2; exact ho pins s1 σ H1 x v Q I1 r1 q1)
theorem opI {f:Value->Value->Sem Value} {C:Int->Int->Prop} {g:Int->Int->Int}
   (rule:∀ (i j:Int) (t u:Tok) (s:Shared) (Q:Value->Shared->Prop) (E:Value->Shared->Prop),C i j->Q (.int (g i j) s.toks) { s with toks:=s.toks+1 }->wpAny (model X.prog X.w) X.A (f (.int i t) (.int j u)) Q E s) :
   OpR X f (rI C fun i j=>.int (g i j)):=by
 intro pins s σ H x y v u Q I rx ry h
 obtain ⟨i,j,rfl,rfl,hc,q⟩:=h
 obtain ⟨t,rfl⟩:=rx
 obtain ⟨t',rfl⟩:=ry
 exact rule i j t t' s _ _ hc ⟨.int (g i j),H,I.tok _,⟨_,rfl⟩,q⟩
theorem opI0 {f:Value->Value->Sem Value} {g:Int->Int->Int}
   (rule:∀ (i j:Int) (t u:Tok) (s:Shared) (Q:Value->Shared->Prop) (E:Value->Shared->Prop),Q (.int (g i j) s.toks) { s with toks:=s.toks+1 }->wpAny (model X.prog X.w) X.A (f (.int i t) (.int j u)) Q E s) :
   OpR X f (rI0 fun i j=>.int (g i j)):=by
 intro pins s σ H x y v u Q I rx ry h
 obtain ⟨i,j,rfl,rfl,q⟩:=h
 obtain ⟨t,rfl⟩:=rx
 obtain ⟨t',rfl⟩:=ry
 exact rule i j t t' s _ _ ⟨.int (g i j),H,I.tok _,⟨_,rfl⟩,q⟩
def CDiv (i j:Int):Prop:=0 < j/\j < 1073741824
def CPow (i j:Int):Prop:=0<=j/\j<=1000000/\i.natAbs < 2 ^ 64
def CMul (i j:Int):Prop:=(-(2 ^ 64) < i/\i < 2 ^ 64)\/(-(2 ^ 64) < j/\j < 2 ^ 64)
theorem CMul.ok {i j:Int} (h:CMul i j):IntMulOk i j:=by
 rcases h with ⟨h1,h2⟩ | ⟨h1,h2⟩
 . exact .of_left (intBits_le_64 h1 h2)
 . exact .of_right (intBits_le_64 h1 h2)
theorem uC:OpR X (binaryOp .Sub) (rI0 fun i j=>.int (i - j)):=opI0 fun _ _ _ _ _ _ _ q=>sub_int q
theorem nU:OpR X (binaryOp .FloorDiv) (rI CDiv fun i j=>.int (i / j)):=opI fun i j _ _ _ _ _ hc q=>by
 have h1:(0:Int) < j:=hc.1
 have h2:j < 1073741824:=hc.2
 exact floordiv_int (by lia) (by rw [Int.fdiv_eq_ediv_of_nonneg i (by lia)]; exact q) (.inl (PyProof.noPylong_small (by lia)))
theorem uF:OpR X (binaryOp .Mod) (rI (fun _ j=>0 < j) fun i j=>.int (i % j)):=opI fun i j _ _ _ _ _ hc q=>by
 have h1:(0:Int) < j:=hc
 exact mod_int' (by lia) (by rw [Int.fmod_eq_emod_of_nonneg i (by lia)]; exact q)
theorem uD:OpR X (binaryOp .Pow) (rI CPow fun i j=>.int (i ^ j.toNat)):=opI fun _ _ _ _ _ _ _ hc q=>pow_int_small hc.1 hc.2.1 hc.2.2 q
theorem unI {f:Value->Sem Value} {g:Int->Int}
   (rule:∀ (i:Int) (t:Tok) (s:Shared) (Q:Value->Shared->Prop) (E:Value->Shared->Prop),Q (.int (g i) s.toks) { s with toks:=s.toks+1 }->wpAny (model X.prog X.w) X.A (f (.int i t)) Q E s) :
   UnR X f (rU fun i=>.int (g i)):=by
 intro pins s σ H x v Q I rx h
 obtain ⟨i,rfl,q⟩:=h
 obtain ⟨t,rfl⟩:=rx
 exact rule i t s _ _ ⟨.int (g i),H,I.tok _,⟨_,rfl⟩,q⟩
theorem gU:UnR X (unaryOp .USub) (rU fun i=>.int (-i)):=unI fun _ _ _ _ _ q=>neg_int q
end
section
variable {X:Cx} {a b c:Expr} {ta tb tc:TE} {pos:Pos}
theorem Di (b:Expr) {op:CmpOp} (h:op≠.In:=by decide) (h2:op≠.NotIn:=by decide):behindInMarks op b=false:=by
 have e1:(op==CmpOp.In)=false:=by cases op <;> first | rfl | exact absurd rfl h
 have e2:(op==CmpOp.NotIn)=false:=by cases op <;> first | rfl | exact absurd rfl h2
 cases b <;> simp [behindInMarks,e1,e2]
theorem nN {op:CmpOp} {r:R2} (ho:OpR X (compareOp op) r) (ha:PE X a ta) (hb:PE X b tb) (hm:behindInMarks op b=false):PE X (.Compare a [op] [b] pos) (tOp r ta tb):=by
 intro pins s σ H Q I h
 exact wpAny_Compare1 (wC ha hb I h fun v u s2 x y H2 I2 rx ry q=>ho pins s2 σ H2 x y v u Q I2 rx ry q) hm
def qN (t:TE):TT:=fun σ H Q=>t σ H fun x H'=>∃ k,x=.bl k/\Q k H'
theorem nF {op:CmpOp} {r:R2} (ho:OpR X (compareOp op) r) (ha:PE X a ta) (hb:PE X b tb) (hm:behindInMarks op b=false):PT X (.Compare a [op] [b] pos) (qN (tOp r ta tb)):=by
 intro pins s σ H Q I h
 refine wpAny_isTrue_Compare1 (thn (ha pins s σ H _ I h) fun v s1 hY8=>?_) hm
 obtain ⟨x,H1,I1,r1,q1⟩:=hY8
 refine thn (hb pins s1 σ H1 _ I1 q1) fun u s2 hY9=>?_
 obtain ⟨y,H2,I2,r2,q2⟩:=hY9
 refine thn (ho pins s2 σ H2 x y v u _ I2 r1 r2 q2) fun c s3 hY10=>?_
 obtain ⟨z,H3,I3,r3,k,e,q3⟩:=hY10
 subst e
 cases r3
 exact wpAny_truthy_bool ⟨H3,I3,q3⟩
def gY (r r':R2) (ta tb tc:TE):TE:=fun σ H Q=>ta σ H fun x H1=>tb σ H1 fun y H2=>r x y H2 fun z H3=>∃ k,z=.bl k /\
 (if k=true then tc σ H3 fun w' H4=>r' y w' H4 Q else Q (.bl false) H3)
theorem jK {op op':CmpOp} {r r':R2} (ho:OpR X (compareOp op) r) (ho':OpR X (compareOp op') r') (ha:PE X a ta) (hb:PE X b tb) (hc:PE X c tc)
   (hm:lastMarks [op,op'] [b,c]=false:=by with_unfolding_all rfl):PE X (.Compare a [op,op'] [b,c] pos) (gY r r' ta tb tc):=by
 intro pins s σ H Q I h
 refine Compare_chain (thn (ha pins s σ H _ I h) fun v s1 hY11=>?_) hm
 obtain ⟨x,H1,I1,r1,q1⟩:=hY11
 refine chain_link (thn (hb pins s1 σ H1 _ I1 q1) fun u s2 hY12=>?_)
 obtain ⟨y,H2,I2,r2,q2⟩:=hY12
 refine thn (ho pins s2 σ H2 x y v u _ I2 r1 r2 q2) fun d s3 hY13=>?_
 obtain ⟨z,H3,I3,r3,k,e,q3⟩:=hY13
 subst e
 cases r3
 refine wpAny_truthy_bool ?_
 cases k with
 | false=>exact ite_ff ⟨.bl false,H3,I3,rfl,q3⟩
 | true=>exact ite_tt (chain_last (thn (hc pins s3 σ H3 _ I3 q3) fun w' s4 hZ2=>by obtain ⟨z',H4,I4,r4,q4⟩:=hZ2; exact ho' pins s4 σ H4 y z' u w' Q I4 r2 r4 q4))
theorem jA {op op':CmpOp} {r r':R2} (ho:OpR X (compareOp op) r) (ho':OpR X (compareOp op') r') (ha:PE X a ta) (hb:PE X b tb) (hc:PE X c tc)
   (hm:lastMarks [op,op'] [b,c]=false:=by with_unfolding_all rfl):PT X (.Compare a [op,op'] [b,c] pos) (qN (gY r r' ta tb tc)):=by
 intro pins s σ H Q I h
 refine isTrue_chain (thn (ha pins s σ H _ I h) fun v s1 hY14=>?_) hm
 obtain ⟨x,H1,I1,r1,q1⟩:=hY14
 refine test_link (thn (hb pins s1 σ H1 _ I1 q1) fun u s2 hY15=>?_)
 obtain ⟨y,H2,I2,r2,q2⟩:=hY15
 refine thn (ho pins s2 σ H2 x y v u _ I2 r1 r2 q2) fun d s3 hY16=>?_
 obtain ⟨z,H3,I3,r3,k,e,q3⟩:=hY16
 subst e
 cases r3
 refine wpAny_truthy_bool ?_
 cases k with
 | false =>
   obtain ⟨k',e',q'⟩:=q3
   cases e'; exact ite_ff ⟨H3,I3,q'⟩
 | true =>
   refine ite_tt (test_last (thn (hc pins s3 σ H3 _ I3 q3) fun w' s4 hY17=>?_))
   obtain ⟨z',H4,I4,r4,q4⟩:=hY17; refine thn (ho' pins s4 σ H4 y z' u w' _ I4 r2 r4 q4) fun d' s5 hZ2=>?_
   obtain ⟨z2,H5,I5,r5,k2,e2,q5⟩:=hZ2; subst e2; cases r5; exact wpAny_truthy_bool ⟨H5,I5,q5⟩
def wF (K:PySem.W.Frag) (x:V) (H:Hp) (k:Bool):Prop :=
 match x with
 | .non=>k=false
 | .bl b=>k=b
 | .int i=>k=(i != 0)
 | .str y=>y.length<=sizeLine/\k=((y.length:Int) != 0)
 | .byt y=>y.size<=sizeLine/\k=((y.size:Int) != 0)
 | .ref p=>(∃ xs,SqL K H p xs/\k = !xs.isEmpty)\/(∃ xs,SqT K H p xs/\k = !xs.isEmpty)\/∃ kvs,H p=some (.dK kvs)/\k = !kvs.isEmpty
 | _=>False
theorem aY {κ:Type} {kvs:List (κ×V)} {vs:List (κ×Value)} (r:KV kvs vs):(!vs.isEmpty) = !kvs.isEmpty:=by
 cases r <;> rfl
theorem Pu {xs:List V} {its:List Value} (r:Vals xs its):(!its.toArray.isEmpty) = !xs.isEmpty:=by
 cases r <;> simp
theorem Lg:(sizeLine:Nat) < 2 ^ 63:=by rw [sizeLine_eq]; decide
theorem sL:TruR X (fun x H Q=>∃ k,wF X.K x H k/\Q k H):=by
 intro pins s σ H x v Q I rx h
 obtain ⟨k,e,q⟩:=h
 have hl:=Lg
 have hs:sizeLine=16777216:=sizeLine_eq
 cases x with
 | non =>
   cases rx; have e':k=false:=e; subst e'; exact truthy_none ⟨H,I,q⟩
 | bl b =>
   cases rx; have e':k=b:=e; subst e'; exact wpAny_truthy_bool ⟨H,I,q⟩
 | int i =>
   obtain ⟨t,rfl⟩:=rx; have e':k=(i != 0):=e; subst e'; exact PySem.P.truthy_int ⟨H,I,q⟩
 | str y =>
   obtain ⟨t,rfl⟩:=rx; obtain ⟨hy,e'⟩:y.length<=sizeLine/\k=((y.length:Int) != 0):=e; subst e'; exact PySem.P.truthy_str (by lia) ⟨H,I.tok _,q⟩
 | byt y =>
   obtain ⟨t,rfl⟩:=rx; obtain ⟨hy,e'⟩:y.size<=sizeLine/\k=((y.size:Int) != 0):=e; subst e'; exact PySem.W.truthy_bytes (by lia) ⟨H,I.tok _,q⟩
 | ref p =>
   cases rx; have e':(∃ xs,SqL X.K H p xs/\k = !xs.isEmpty)\/(∃ xs,SqT X.K H p xs/\k = !xs.isEmpty)\/∃ kvs,H p=some (.dK kvs)/\k = !kvs.isEmpty:=e; rcases e' with ⟨xs,hx,e'⟩ | ⟨xs,hx,e'⟩ | ⟨kvs,hx,e'⟩
   . subst e'
     obtain ⟨its,r,pl,hz⟩:=I.list hx; have hlen:=r.length; exact wpAny_truthy_list pl.isList (by simp only [List.size_toArray]; lia) ⟨H,I.tok _,by rw [Pu r]; exact q⟩
   . subst e'
     obtain ⟨its,r,pl,hz⟩:=I.tuple hx; have hlen:=r.length; exact truthy_tuple pl (by simp only [List.size_toArray]; lia) ⟨H,I.tok _,by rw [Pu r]; exact q⟩
   . subst e'
     obtain ⟨hz,hS,vs,r,m⟩:kvs.length<=sizeLine/\(p==sysModules)=false/\∃ vs,KV kvs vs/\s.heap.DictOf (U1 X.prog X.w) p vs:=I.hok p _ hx; have hlen:kvs.length=vs.length:=Paired.length r; exact wpAny_truthy_dict hS m (by lia) ⟨H,I.tok _,by rw [aY r]; exact q⟩
 | _=>exact (show False from e).elim
theorem iZ (ha:PE X a ta) (he:∀ whole,isTrue a X.env whole=(do let v <- whole; standAt a.pos; holding [v] (truthy v))) :
   PT X a (fun σ H Q=>ta σ H fun x H'=>∃ k,wF X.K x H' k/\Q k H'):=by
 intro pins s σ H Q I h
 exact isTrue_plain (thn (ha pins s σ H _ I h) fun v s1 hZ2=>by obtain ⟨x,H1,I1,r1,q1⟩:=hZ2; exact sL pins s1 σ H1 x v Q I1 r1 q1) (he _)
theorem Lx {x:V} {us:List Value} (r:Vals [x] us):∃ u,us=[u]/\RelV x u:=by
 cases r with
 | cons r1 r2=>cases r2; exact ⟨_,rfl,r1⟩
theorem qK {x y:V} {us:List Value} (r:Vals [x,y] us):∃ u w',us=[u,w']/\RelV x u/\RelV y w':=by
 cases r with
 | cons r1 r2 =>
   cases r2 with
   | cons r3 r4=>cases r4; exact ⟨_,_,rfl,r1,r3⟩
theorem gE (hc:X.calm=true):T5 X (.builtin "max") (fun xs H Q=>∃ i j,xs=[.int i,.int j]/\Q (.int (if j>i then j else i)) H):=by
 intro pins s σ H xs us Q I r h
 obtain ⟨i,j,rfl,q⟩:=h
 obtain ⟨u,w',rfl,⟨t,rfl⟩,⟨t',rfl⟩⟩:=qK r
 refine max_two_ints (I.ok.hd hc) fun h' tk k=>⟨_,H,I.kept k,?_,q⟩
 by_cases hj:j>i
 . rw [if_pos hj,if_pos hj]; exact ⟨_,rfl⟩
 . rw [if_neg hj,if_neg hj]; exact ⟨_,rfl⟩
theorem Tr:T5 X (.type "int") (fun xs H Q=>(∃ i,xs=[.int i]/\Q (.int i) H)\/∃ k,xs=[.bl k]/\Q (.int (if k then 1 else 0)) H):=by
 intro pins s σ H xs us Q I r h
 rcases h with ⟨i,rfl,q⟩ | ⟨k,rfl,q⟩
 . obtain ⟨u,rfl,t,rfl⟩:=Lx r
   exact call_int_int ⟨.int i,H,I,⟨_,rfl⟩,q⟩
 . obtain ⟨u,rfl,r1⟩:=Lx r
   cases r1; exact call_int_bool ⟨.int (if k then 1 else 0),H,I.tok _,⟨_,rfl⟩,q⟩
theorem Vz:T5 X (.type "str") (fun xs H Q=>∃ i,xs=[.int i]/\i.natAbs.log2 < 1920/\Q (.str (toString i)) H):=by
 intro pins s σ H xs us Q I r h
 obtain ⟨i,rfl,hz,q⟩:=h
 obtain ⟨u,rfl,t,rfl⟩:=Lx r
 exact PySem.P.str_of_int hz ⟨.str _,H,I.tok _,⟨_,rfl⟩,q⟩
def LenV (K:PySem.W.Frag) (x:V) (H:Hp) (n:Nat):Prop :=
 match x with
 | .str y=>y.length<=sizeLine/\n=y.length
 | .byt y=>y.size<=sizeLine/\n=y.size
 | .ref p=>(∃ xs,SqL K H p xs/\n=xs.length)\/∃ xs,SqT K H p xs/\n=xs.length
 | _=>False
theorem Qm:T5 X (.builtin "len") (fun xs H Q=>∃ x n,xs=[x]/\LenV X.K x H n/\Q (.int n) H):=by
 intro pins s σ H xs us Q I r h
 obtain ⟨x,n,rfl,e,q⟩:=h
 obtain ⟨u,rfl,rx⟩:=Lx r
 have hl:=Lg
 have hs:sizeLine=16777216:=sizeLine_eq
 cases x with
 | str y =>
   obtain ⟨t,rfl⟩:=rx; obtain ⟨hy,e'⟩:y.length<=sizeLine/\n=y.length:=e; subst e'; exact len_str (by lia) ⟨.int _,H,I.tok _,⟨_,rfl⟩,q⟩
 | byt y =>
   obtain ⟨t,rfl⟩:=rx; obtain ⟨hy,e'⟩:y.size<=sizeLine/\n=y.size:=e; subst e'; exact PySem.W.len_bytes (by lia) ⟨.int _,H,I.tok _,⟨_,rfl⟩,q⟩
 | ref p =>
   cases rx; have e':(∃ xs,SqL X.K H p xs/\n=xs.length)\/∃ xs,SqT X.K H p xs/\n=xs.length:=e; rcases e' with ⟨xs,hx,e'⟩ | ⟨xs,hx,e'⟩
   . subst e'
     obtain ⟨its,r',pl,hz⟩:=I.list hx; have hlen:=r'.length; exact Calls.call_len_list pl.isList (by simp only [List.size_toArray]; lia) ⟨.int xs.length,H,I.tok _,⟨_,by simp only [List.size_toArray]; rw [hlen]⟩,q⟩
   . subst e'
     obtain ⟨its,r',pl,hz⟩:=I.tuple hx; have hlen:=r'.length; exact len_tuple pl (by simp only [List.size_toArray]; lia) ⟨.int xs.length,H,I.tok _,⟨_,by simp only [List.size_toArray]; rw [hlen]⟩,q⟩
 | _=>exact (show False from e).elim
end
end L2
namespace L2
open PySem PySem.Spec PyProof.Rows
structure ObjM (h:Heap) (x dx C:Addr) (mA:Str->Option Value):Prop where
 obj:h.get? x=some (PySem.W.instObj C dx)
 ns:h.Ns1 dx mA
 ne:dx≠x
theorem eV {h:Heap} {dx:Addr} {mA:Str->Option Value} (n:h.Ns1 dx mA):∃ od,h.get? dx=some od/\∀ name,PySem.W.lookIn name od=some (mA name):=by
 obtain ⟨o,es,ep,ho,hd,hk,_,hm⟩:=n
 refine ⟨o,ho,fun name=>?_⟩
 have e:=hm name
 unfold nsFind findBy at e
 rw [<- Array.find?_toList] at e
 unfold PySem.W.lookIn
 rw [hd]
 dsimp only
 split
 . rename_i y q
   rw [q] at e; exact congrArg some e
 . rename_i q
   rw [q] at e; have a:es.toList.any (·.refKey)=false:=by
     rw [List.any_eq_false]; intro y hy; obtain ⟨z,t,hkey⟩:=hk y (Array.mem_toList_iff.mp hy); simp [DictEntry.refKey,hkey]
   have a':¬ es.toList.any (·.refKey)=true:=by rw [a]; exact Bool.false_ne_true
   rw [if_neg a']; exact congrArg some e
theorem ObjM.look {h:Heap} {x dx C:Addr} {mA:Str->Option Value} (I:ObjM h x dx C mA):∃ od,PySem.W.InstAt h x (PySem.W.instObj C dx) C (some od)/\∀ name,PySem.W.lookIn name od=some (mA name) :=
 let ⟨od,ho,hl⟩:=eV I.ns
 ⟨od,⟨I.obj,rfl,rfl,ho⟩,hl⟩
theorem RelO.some_of {v:V} {o:Option Value} (r:RelO (some v) o):∃ u,o=some u/\RelV v u:=by
 cases o with
 | none=>exact (show False from r).elim
 | some u=>exact ⟨u,rfl,r⟩
section
variable {P:Program} {w:World} {H:Hp} {h:Heap} {a C dx:Addr} {fs:List (Str×V)}
theorem oT (hok:HOk P w H h) (e:H a=some (.ins C dx fs)):∃ mA,ObjM h a dx C mA/\(∀ f,RelO (fs.lookup f) (mA f))/\PySem.Within mA (fs.map (·.1))/\fs.length<=1000/\H dx=some (.own a):=by
 obtain ⟨d,z,ne,ob,mA,n,r,q⟩:=(show ObjOk P w H h a (.ins C dx fs) from hok a _ e)
 exact ⟨mA,⟨ob,n,ne⟩,r,q,z,d⟩
end
structure Cls (K:PySem.W.Frag) (C:Addr):Prop where
 pg:PySem.W.plainGet K C Str.empty=true
 hd:PySem.W.hasDictIn K C=true
 po:PySem.W.plainOver K C=true
 sa:PySem.W.findIn K (.ref C) "__setattr__" = some (some (.builtin "object.__setattr__"))
theorem Cls.get {K:PySem.W.Frag} {C:Addr} (c:Cls K C) (f:Str):PySem.W.plainGet K C f=true:=c.pg
section
variable {X:Cx} {pins:List (Addr×Obj)} {σ:St} {H:Hp} {s:Shared} {A:Around} {E:Value->Shared->Prop} {Q:Value->Shared->Prop} {c:Value} {b:Bool}
inductive TyOf (K:PySem.W.Frag) (H:Hp):V->Value->Prop where
 | non:TyOf K H .non (.type "NoneType")
 | bl (x:Bool):TyOf K H (.bl x) (.type "bool")
 | int (i:Int):TyOf K H (.int i) (.type "int")
 | str (x:Str):TyOf K H (.str x) (.type "str")
 | flt (x:UInt64):TyOf K H (.flt x) (.type "float")
 | lst {a:Addr} {xs:List V} (e:H a=some (.lst xs)):TyOf K H (.ref a) (.type "list")
 | frz {a:Addr} {o:Obj} {xs:List V} (e:H a=some (.frz o (.lst xs))):TyOf K H (.ref a) (.type "list")
 | tup {a:Addr} {xs:List V} (e:H a=some (.tup xs)):TyOf K H (.ref a) (.type "tuple")
 | dK {a:Addr} {kvs:List (Key×V)} (e:H a=some (.dK kvs)):TyOf K H (.ref a) (.type "dict")
 | dT {a:Addr} {kvs:List (List Key×V)} (e:H a=some (.dT kvs)):TyOf K H (.ref a) (.type "dict")
 | ins {a C dx : Addr} {fs : List (Str × V)} (e : H a = some (.ins C dx fs)) (cl : Cls K C) (ha : PySem.W.findIn K (.ref C) "__class__" = some (some (.builtin "object.__class__")))
     (hn:PySem.W.specialIn K (.builtin "object.__class__") "__get__" = some (some (.builtin "getset_descriptor.__get__"))) (htk:PySem.W.takesIn K (.builtin "object.__class__")=some true)
     (hm:PySem.W.mroIn K C (.type "object")=some true):TyOf K H (.ref a) (.ref C)
theorem fI {x:V} {u t:Value} (I:Inv X pins σ H s) (rx:RelV x u) (ty:TyOf X.K H x t) (e:PySem.W.kitOne X.K t c=some b) (h:∀ tk,Q (.bool b) { s with toks:=tk }) :
   wpAny (model X.prog X.w) A (call (.builtin "isinstance") [u,c]) Q E s:=by
 cases ty with
 | non=>cases (show u=Value.none from rx); exact PySem.W.kia_one PySem.W.kitx_none I.kIn True.intro e (fun z=>nomatch z) h
 | bl y=>cases (show u=Value.bool y from rx); exact PySem.W.kia_one PySem.W.kitx_bool I.kIn True.intro e (fun z=>nomatch z) h
 | int i=>obtain ⟨t,q⟩:=(show ∃ t,u=Value.int i t from rx); cases q; exact PySem.W.kia_one PySem.W.kitx_int I.kIn True.intro e (fun z=>nomatch z) h
 | str y=>obtain ⟨t,q⟩:=(show ∃ t,u=Value.str y t from rx); cases q; exact PySem.W.kia_one PySem.W.kitx_str I.kIn True.intro e (fun z=>nomatch z) h
 | flt y=>obtain ⟨t,q⟩:=(show ∃ t,u=Value.float y t from rx); cases q; exact PySem.W.kia_one PySem.W.kitx_float I.kIn True.intro e (fun z=>nomatch z) h
 | @lst a xs ea =>
   cases (show u=Value.ref a from rx)
   obtain ⟨_,_,n,_,h1⟩:=(show ObjOk X.prog X.w H s.heap a (.lst xs) from I.hok a _ ea)
   exact PySem.W.kia_one PySem.W.kitx_list I.kIn ⟨_,h1,rfl⟩ e (fun z=>nomatch z) h
 | @frz a ob xs ea =>
   cases (show u=Value.ref a from rx)
   obtain ⟨_,_,_,n,_,h1⟩:=(show ObjOk X.prog X.w H s.heap a (.frz ob (.lst xs)) from I.hok a _ ea)
   exact PySem.W.kia_one PySem.W.kitx_list I.kIn ⟨_,h1,rfl⟩ e (fun z=>nomatch z) h
 | @tup a xs ea =>
   cases (show u=Value.ref a from rx)
   obtain ⟨_,_,_,p⟩:=(show ObjOk X.prog X.w H s.heap a (.tup xs) from I.hok a _ ea)
   obtain ⟨o,h1,h2,_⟩:=p; exact PySem.W.kia_one PySem.W.kitx_tuple I.kIn ⟨o,h1,h2⟩ e (fun z=>nomatch z) h
 | @dK a kvs ea =>
   cases (show u=Value.ref a from rx)
   obtain ⟨_,_,vs,_,p⟩:=(show ObjOk X.prog X.w H s.heap a (.dK kvs) from I.hok a _ ea)
   obtain ⟨o,es,ep,h1,h2,_⟩:=p; exact PySem.W.kia_one PySem.W.kitx_dict I.kIn ⟨o,h1,h2.1⟩ e (fun z=>nomatch z) h
 | @dT a kvs ea =>
   cases (show u=Value.ref a from rx)
   obtain ⟨_,_,xs,_,o,es,ep,h1,h2,_⟩:=(show ObjOk X.prog X.w H s.heap a (.dT kvs) from I.hok a _ ea)
   exact PySem.W.kia_one PySem.W.kitx_dict I.kIn ⟨o,h1,h2.1⟩ e (fun z=>nomatch z) h
 | @ins a C dx fs ea cl ha hn htk hm =>
   cases (show u=Value.ref a from rx)
   obtain ⟨mA,O,_⟩:=oT I.hok ea; obtain ⟨od,J,_⟩:=O.look; exact PySem.W.kia_one (PySem.W.kitx_own (cl.get _) cl.hd ha hn htk hm) I.kIn J e (fun z=>nomatch z) h
end
end L2
namespace L2
open PySem PySem.Spec PyProof.Rows
structure Room (k:Nat) (A:Around):Prop where
 hd:A.handled=none
 dp:A.depth+3*k+5 < recursionLimit
 un:A.units+16*k+200 < cLine
 gd:A.guards=some []
theorem Room.mono {j k:Nat} {A:Around} (r:Room k A) (h:j<=k):Room j A:=⟨r.hd,by have:=r.dp; lia,by have:=r.un; lia,r.gd⟩
theorem Room.deeper {k:Nat} {A:Around} (r:Room (k+1) A) (env:Env):Room k (A.deeper env) :=
 ⟨r.hd,by have:=r.dp; show A.depth+1+3*k+5 < _; lia,by have:=r.un; show A.units+3+16*k+200 < _; lia,r.gd⟩
theorem Room.depth {k:Nat} {A:Around} (r:Room k A):A.depth < recursionLimit:=by have:=r.dp; lia
theorem Room.units {k:Nat} {A:Around} (r:Room k A):A.units+64 < cLine:=by have:=r.un; lia
def tNil:TA:=fun _ H Q=>Q [] H
def tCons (ta:TE) (tr:TA):TA:=fun σ H Q=>ta σ H fun x H1=>tr σ H1 fun xs H2=>Q (x::xs) H2
section
variable {X:Cx} {e:Expr} {es:List Expr} {te:TE} {t:TA} {pos:Pos}
theorem Le:PA X [] tNil:=fun _ _ _ _ H Q I h=>Calls.spliced_nil ⟨[],H,I,.nil,h⟩
theorem Bu (ha:PE X e te) (hr:PA X es t) (hs:starEach (e::es) X.env=(false,eval e X.env)::starEach es X.env:=by rfl):PA X (e::es) (tCons te t):=by
 intro pos pins s σ H Q I h
 rw [hs]
 show wpAny _ _ (spliced ((false,eval e X.env)::backTo pos (starEach es X.env))) _ _ s
 refine Calls.spliced_cons (thn (ha pins s σ H _ I h) fun u s1 hZ2=>?_)
 obtain ⟨x,H1,I1,r1,q1⟩:=hZ2
 exact thn (hr pos pins s1 σ H1 _ I1 q1) fun us s2 hZ2=>by obtain ⟨xs,H2,I2,r2,q2⟩:=hZ2; exact ⟨x::xs,H2,I2,.cons r1 r2,q2⟩
def tTup (t:TA):TE:=fun σ H Q=>t σ H fun xs H1=>xs.length<=sizeLine/\∀ p,H1 p=none->Q (.ref p) (upd H1 p (.tup xs))
def tLst (t:TA):TE:=fun σ H Q=>t σ H fun xs H1=>xs.length<=sizeLine/\∀ p,H1 p=none->Q (.ref p) (upd H1 p (.lst xs))
theorem tQ {x1} (h:PA X es t):PE X (.Tuple es x1 pos) (tTup t):=by
 intro pins s σ H Q I hq
 refine wpAny_Tuple_spliced (thn (h pos pins s σ H _ I hq) fun us s1 hY22=>?_)
 obtain ⟨xs,H1,I1,r,z,q⟩:=hY22
 refine ⟨by rw [<- r.length]; exact z,?_⟩
 have hf:H1 s1.heap.objs.size=none:=I1.hok.fresh (Nat.le_refl _)
 refine ⟨.ref s1.heap.objs.size,upd H1 s1.heap.objs.size (.tup xs),I1.laid (t':=s1.toks) (fun b u e=>Heap.get?_push_of_some _ e) (Nat.le_refl _) ?_,rfl,q _ hf⟩
 exact ⟨z,us,r,⟨_,Heap.get?_push_size _ rfl,rfl,_,rfl⟩⟩
theorem tY (h:PA X es t):PE X (.List es pos) (tLst t):=by
 intro pins s σ H Q I hq
 refine wpAny_List_spliced (thn (h pos pins s σ H _ I hq) fun us s1 hY23=>?_)
 obtain ⟨xs,H1,I1,r,z,q⟩:=hY23
 refine ⟨by rw [<- r.length]; exact z,?_⟩
 have hf:H1 s1.heap.objs.size=none:=I1.hok.fresh (Nat.le_refl _)
 refine ⟨.ref s1.heap.objs.size,upd H1 s1.heap.objs.size (.lst xs),I1.laid (t':=s1.toks) (fun b u e=>Heap.get?_push_of_some _ e) (Nat.le_refl _) ?_,rfl,q _ hf⟩
 exact ⟨z,us,0,r,Heap.get?_push_size _ rfl⟩
end
abbrev Sp:=List V->Hp->VK->XK->Prop
abbrev CXT:=List Env->Hp->Shared->XK->Value->Shared->Prop
structure Env0 (P:Program) (w:World) (K:PySem.W.Frag) (mg:Str->Option Value) (base:Heap) (A:Around) (outer:List Env) (s:Shared) (H:Hp):Prop where
 frames:A.frames=some outer
 mod:Mod K mg base
 bs:∀ b o,base.get? b=some o->s.heap.get? b=some o/\H b=none
 bsz:base.objs.size<=s.heap.objs.size
 funs:s.heap.FunFrames base outer
 frf:∀ b∈frs outer,H b=none
 hok:HOk P w H s.heap
 bare:AllBare s.gens
def CE (outer:List Env) (P:Program) (w:World) (H:Hp) (s:Shared) (Q:VK) (u:Value) (s':Shared):Prop :=
 ∃ v H',s'.os=s.os/\AllBare s'.gens/\Un (frs outer) [] H H' s.heap s'.heap/\HOk P w H' s'.heap/\RelV v u/\Q v H'
def CR (CX:CXT) (outer:List Env) (P:Program) (w:World) (H:Hp) (s:Shared) (Q:VK) (E:XK) (r:Result) (s':Shared):Prop :=
 match r with
 | .ok (.ret u)=>CE outer P w H s Q u s'
 | .ok _=>False
 | .error e=>CX outer H s E e s'
structure FnOk (P:Program) (w:World) (K:PySem.W.Frag) (mg:Str->Option Value) (base:Heap) (CX:CXT) (k:Nat) (f:Addr) (fd:FuncData) (ps:List Str) (sp:Sp):Prop where
 len:∀ vs H Q E,sp vs H Q E->vs.length=ps.length
 run:∀ (A:Around) (outer:List Env) (s:Shared) (H:Hp) (args:Args) (us:List Value) (vs:List V) (Q:VK) (E:XK),Room k A->Env0 P w K mg base A outer s H->BindsTo s fd args (ps.zip us)->Vals vs us->sp vs H Q E ->
   codeAny (model P w) A (.call (.ref f) args) (CR CX outer P w H s Q E) s
section
variable {X:Cx} {pins:List (Addr×Obj)} {σ:St} {H:Hp} {s s':Shared}
theorem Inv.env0 (I:Inv X pins σ H s):Env0 X.prog X.w X.K X.mg X.base X.A X.stack s H :=
 ⟨I.ok.frames,I.ok.mod,I.bs,Nat.le_trans I.ok.bsz I.sz,I.stack,I.stkFree,I.hok,I.bare⟩
theorem Inv.after {Q:VK} {u:Value} (I:Inv X pins σ H s) (h:CE X.stack X.prog X.w H s Q u s'):EP X pins σ Q u s':=by
 obtain ⟨v,H',os,bare,un,hok,r,q⟩:=h
 obtain ⟨hh,g,d,t,os'⟩:=s'
 obtain rfl:os'=s.os:=os
 exact ⟨v,H',I.call (h':=hh) (g':=g) (d':=d) (t':=t) (ch:=[]) un hok bare (fun b z=>absurd z (by simp)),r,q⟩
end
def tCall (sp:Sp) (dvs:List V) (E:XK) (t:TA):TE:=fun σ H Q=>t σ H fun vs H1=>sp (vs++dvs) H1 Q E
def Binds (K:PySem.W.Frag) (fd:FuncData) (ps:List Str) (ds:List Value):Prop :=
 ∀ (s:Shared) (us:List Value),K.In s.heap->(us++ds).length=ps.length->BindsTo s fd ⟨us,[]⟩ (ps.zip (us++ds))
theorem Binds.all {K:PySem.W.Frag} {fd:FuncData} {ps:List Str} (h:∀ us:List Value,us.length=ps.length->bindArgs fd ⟨us,[]⟩=pure (ps.zip us)):Binds K fd ps []:=fun s us _ hl=>by
 rw [List.append_nil] at hl ⊢
 exact .of_eq (h us hl)
def bS (CX:CXT) (X:Cx) (E:XK):Prop:=∀ (pins:List (Addr×Obj)) (σ:St) (H:Hp) (s:Shared) (e:Value) (s':Shared),Inv X pins σ H s->CX X.stack H s E e s'->X.xe e s'
section
variable {X:Cx} {CX:CXT} {k:Nat} {f:Addr} {fd:FuncData} {ps:List Str} {sp:Sp} {dvs:List V} {ds:List Value} {E:XK} {x:Str} {p pos:Pos} {e:Expr} {es:List Expr} {t:TA}
theorem sY {pins:List (Addr×Obj)} {σ:St} {H:Hp} {s:Shared} {Q:VK} {us:List Value} {vs:List V} (F:FnOk X.prog X.w X.K X.mg X.base CX k f fd ps sp) (hr:Room k X.A) (hb:Binds X.K fd ps ds) (hd:Vals dvs ds) (hx:bS CX X E)
   (I:Inv X pins σ H s) (r:Vals vs us) (h:sp (vs++dvs) H Q E):wpAny (model X.prog X.w) X.A (call (.ref f) us) (EP X pins σ Q) X.xe s:=by
 have r2:Vals (vs++dvs) (us++ds):=r.append hd
 have hl:(us++ds).length=ps.length:=by rw [<- r2.length]; exact F.len _ _ _ _ h
 refine wpAny_call (codeAny_mono (F.run X.A X.stack s H ⟨us,[]⟩ (us++ds) (vs++dvs) Q E hr I.env0 (hb s us I.kIn hl) r2 h) fun r s' hq=>?_)
 cases r with
 | error e=>exact hx pins σ H s e s' I hq
 | ok fl =>
   cases fl with
   | ret u=>exact I.after hq
   | next=>exact False.elim hq
   | brk=>exact False.elim hq
   | cont=>exact False.elim hq
theorem Ve (F:FnOk X.prog X.w X.K X.mg X.base CX k f fd ps sp) (hr:Room k X.A) (hg:Gl X x) (hm:X.mg x=some (.ref f)) (hk:PySem.W.keepIn X.K (.ref f)=true) (hb:Binds X.K fd ps ds) (hd:Vals dvs ds) (hx:bS CX X E)
   (ha:PA X (e::es) t) (hdb:(x==("__debug__" : Str))=false:=by decide) (he:starEach (e::es) X.env=(false,eval e X.env)::starEach es X.env:=by rfl) (hpl:(backTo pos (starEach es X.env)).any (·.1)=false:=by rfl) :
   PE X (.Call (.Name x p) (e::es) [] pos) (tCall sp dvs E t):=by
 intro pins s σ H Q I h
 refine wpAny_Call_Name_kw (cT I hg hm ?_ hdb)
 refine PySem.W.callWith_K (h₀:=X.base) I.ok.mod.kin hk (thn (ha pos pins s σ H _ I h) fun us s1 hY24=>?_) he hpl
 obtain ⟨vs,H1,I1,r,q⟩:=hY24
 refine ⟨I1.kIn,?_⟩
 exact sY F hr hb hd hx I1 r q
end
structure FnScope (N P:List Str) (sc:Scope):Prop where
 kind:sc.kind=.function
 co:sc.isCoroutine=false
 gen:sc.isGenerator=false
 nd:N.Nodup
 pre:N.take P.length=P
 par:∀ x∈P,sc.names.lookup x=some .local\/sc.names.lookup x=some .cell
 nofree:∀ y∈sc.names,y.2≠.free
theorem Tv {kindOf:Str->Option NameKind} {x:Str}:∀ {binds:List (Str×Value)} {m:Str->Option Value},(∀ v,(x,v)∉binds)->bindL kindOf binds m x=m x
 | [],_,_=>rfl
 | (n,v)::r,m,h=>by
   unfold bindL; rw [Tv fun w hw=>h w (List.mem_cons_of_mem _ hw)]
   split
   . have:x≠n:=by rintro rfl; exact h v List.mem_cons_self
     simp [this]
   . rfl
theorem Tx {kindOf:Str->Option NameKind} {x:Str}:∀ {binds:List (Str×Value)} {m:Str->Option Value},(∀ v,(x,v)∉binds)->bindC kindOf binds m x=m x
 | [],_,_=>rfl
 | (n,v)::r,m,h=>by
   unfold bindC; rw [Tx fun w hw=>h w (List.mem_cons_of_mem _ hw)]
   split
   . rfl
   . have:x≠n:=by rintro rfl; exact h v List.mem_cons_self
     simp [this]
theorem Tw {kindOf:Str->Option NameKind} {x:Str} {v:Value}:∀ {P:List Str} {vs:List Value} {i:Nat} {m:Str->Option Value},P.Nodup->P[i]? = some x->vs[i]? = some v->kindOf x=some .local ->
   bindL kindOf (P.zip vs) m x=some v
 | [],_,_,_,_,h,_,_=>by simp at h
 | _::_,[],_,_,_,_,h,_=>by simp at h
 | p::P,w::vs,0,m,nd,h1,h2,hk=>by
   simp at h1 h2; subst h1; subst h2
   show bindL kindOf ((p,w)::P.zip vs) m p=_
   unfold bindL; rw [Tv fun v hv=>(List.nodup_cons.mp nd).1 (List.of_mem_zip hv).1,if_pos hk]
   simp
 | p::P,w::vs,i+1,m,nd,h1,h2,hk=>by
   show bindL kindOf ((p,w)::P.zip vs) m x=_
   unfold bindL; exact Tw (i:=i) (List.nodup_cons.mp nd).2 (by simpa using h1) (by simpa using h2) hk
theorem Ty {kindOf:Str->Option NameKind} {x:Str} {v:Value}:∀ {P:List Str} {vs:List Value} {i:Nat} {m:Str->Option Value},P.Nodup->P[i]? = some x->vs[i]? = some v->kindOf x≠some .local ->
   bindC kindOf (P.zip vs) m x=some v
 | [],_,_,_,_,h,_,_=>by simp at h
 | _::_,[],_,_,_,_,h,_=>by simp at h
 | p::P,w::vs,0,m,nd,h1,h2,hk=>by
   simp at h1 h2; subst h1; subst h2
   show bindC kindOf ((p,w)::P.zip vs) m p=_
   unfold bindC; rw [Tx fun v hv=>(List.nodup_cons.mp nd).1 (List.of_mem_zip hv).1,if_neg hk]
   simp
 | p::P,w::vs,i+1,m,nd,h1,h2,hk=>by
   show bindC kindOf ((p,w)::P.zip vs) m x=_
   unfold bindC; exact Ty (i:=i) (List.nodup_cons.mp nd).2 (by simpa using h1) (by simpa using h2) hk
noncomputable def Ck (N:List Str) (vs:List V):St:=vs.map some++List.replicate (N.length - vs.length) none
noncomputable def fY (CX:CXT) (P:Program) (w:World) (K:PySem.W.Frag) (mg:Str->Option Value) (base:Heap) (N:List Str) (qual:Str) (scope:Scope) (f:Addr) (cd:Value) (A:Around) (outer:List Env) (s:Shared) (H:Hp) (E:XK):Cx where
 prog:=P
 w:=w
 K:=K
 mg:=mg
 base:=base
 A:=A.deeper (envOfC qual scope s.heap.objs.size f cd)
 N:=N
 s₀:=s
 H₀:=H
 env:=envOfC qual scope s.heap.objs.size f cd
 outer:=outer
 stack:=envOfC qual scope s.heap.objs.size f cd::outer
 ex:=[]
 calm:=true
 fn:=fun _=>true
 pn:=[]
 xe:=fun e s'=>wpAny (model P w) (A.deeper (envOfC qual scope s.heap.objs.size f cd)) (leaving (envOfC qual scope s.heap.objs.size f cd) e) (fun _ s''=>CX outer H s E e s'') (fun e' s''=>CX outer H s E e' s'') s'
theorem Yv {sc:Scope} {n:Nat} {x:Str} (h:sc.names.lookup x=some .cell):∃ c,(cellsFrom n sc.names []).lookup x=some c:=by
 have q:=PySem.W.cellsFrom_some sc.names n [] (.inl h)
 exact Option.isSome_iff_exists.mp q
theorem fJ {CX:CXT} {P:Program} {w:World} {K:PySem.W.Frag} {mg:Str->Option Value} {base:Heap} {N ps:List Str} {qual:Str} {scope:Scope} {f:Addr} {cd:Value} {A:Around} {outer:List Env} {s s1:Shared} {H:Hp} {E:XK} {us:List Value} {vs:List V}
   (S:FnScope N ps scope) (hd:A.handled=none) (e0:Env0 P w K mg base A outer s H) (hl:vs.length=ps.length) (r:Vals vs us)
   (x:InCallC s s.heap.objs.size (bindL (envOfC qual scope s.heap.objs.size f cd).kindOf (ps.zip us) fun _=>none) (cellsFrom (s.heap.objs.size+1) scope.names []) (bindC (envOfC qual scope s.heap.objs.size f cd).kindOf (ps.zip us) fun _=>none) s1) :
   Inv (fY CX P w K mg base N qual scope f cd A outer s H E) [] (Ck N vs) H s1:=by
 have hpl:ps.length<=N.length:=by have:=congrArg List.length S.pre; rw [List.length_take] at this; lia
 obtain ⟨h1,tk,rfl,hk⟩:=x.done
 have noA:∀ b:Addr,b∉(fY CX P w K mg base N qual scope f cd A outer s H E).ex:=fun b z=>absurd (show b∈([]:List Addr) from z) (by simp)
 refine ⟨⟨e0.mod,S.kind,rfl,rfl,Nat.le_refl _,fun y z c h1 h2=>?_,fun y hy=>?_,fun y c _ h=>?_,fun _=>hd,Around.frames_deeper e0.frames,.inr ⟨rfl,rfl⟩,fun b z=>absurd z (noA b),e0.bs,e0.bsz,fun b _ _=>noA b,fun b z=>absurd z (noA b),e0.funs,e0.frf⟩,
   rfl,e0.bare,Un.kept hk,⟨_,x.toInCall.ns,fun i y v h1 h2 h3=>?_⟩,fun y c h=>⟨_,x.cell y c h⟩,e0.hok.fresh (Nat.le_refl _),fun y c h=>?_,fun p hp=>absurd (show p∈([]:List (Addr×Obj)) from hp) (by simp),e0.hok.kept hk,?_⟩
 . exact name_of_addr x.apart (PySem.mem_of_lookup h1) (PySem.mem_of_lookup h2)
 . have hy:scope.names.lookup y=some .cell\/scope.names.lookup y=some .free:=hy
   rcases hy with hy | hy
   . exact Yv hy
   . exact absurd rfl (S.nofree _ (PySem.mem_of_lookup hy))
 . exact Nat.le_of_lt (x.above y c (PySem.mem_of_lookup h))
 . have hi : i < vs.length := by
     unfold Ck at h2
     by_cases hi:i < vs.length
     . exact hi
     . rw [List.getElem?_append_right (by simpa using hi)] at h2
       rw [List.getElem?_replicate] at h2
       split at h2 <;> cases h2
   have ha:vs[i]? = some v:=by
     unfold Ck at h2; rw [List.getElem?_append_left (by simpa using hi),List.getElem?_map] at h2
     cases e:vs[i]? with
     | none=>rw [e] at h2; cases h2
     | some a=>rw [e] at h2; cases h2; rfl
   obtain ⟨u,hu,rv⟩:=r.get ha; have hp:ps[i]? = some y:=by
     rw [<- S.pre,List.getElem?_take_of_lt (by lia)]; exact h1
   have ndP:ps.Nodup:=by rw [<- S.pre]; exact S.nd.sublist (List.take_sublist _ _)
   refine ⟨u,rv,?_⟩; rcases S.par y (List.mem_of_getElem? hp) with k | k
   . exact .inl ⟨k,Tw ndP hp hu k⟩
   . obtain ⟨c,e⟩:=Yv (n:=s.heap.objs.size+1) k
     refine .inr ⟨.inl k,c,e,?_⟩; have q:=x.cell y c e; rw [Ty ndP hp hu (by show scope.names.lookup y≠_; rw [k]; decide)] at q
     exact q
 . exact e0.hok.fresh (Nat.le_of_lt (x.above y c (PySem.mem_of_lookup h)))
 . unfold Ck
   show _=N.length
   rw [List.length_append,List.length_map,List.length_replicate]
   lia
theorem fn_of {CX:CXT} {P:Program} {w:World} {K:PySem.W.Frag} {mg:Str->Option Value} {base:Heap} {k:Nat} {f:Addr} {name qual:Str} {params:Arguments} {body:List Stmt} {scope:Scope} {dV kV doc pm cdv ct oc:Value} {an od:Option Addr}
   {osl:Array (Option Value)} {N ps:List Str} {sp:Sp} (lk:K.lookup f=some ⟨oc,od,.func (PySem.W.fnOf name qual params body scope dV kV doc pm an cdv ct),osl⟩) (hcd:PySem.W.codeIn K cdv qual=true) (S:FnScope N ps scope)
   (len:∀ vs H Q E,sp vs H Q E->vs.length=ps.length)
   (hbody:∀ (A:Around) (outer:List Env) (s:Shared) (H:Hp) (vs:List V) (Q:VK) (E:XK),Room k (A.deeper (envOfC qual scope s.heap.objs.size f cdv))->sp vs H Q E ->
     ∃ t,PSs (fY CX P w K mg base N qual scope f cdv A outer s H E) body t/\t { nx:=fun _ H'=>Q .non H',rt:=Q } (Ck N vs) H) :
   FnOk P w K mg base CX (k+1) f (PySem.W.fnOf name qual params body scope dV kV doc pm an cdv ct) ps sp:=by
 refine ⟨len,fun A outer s H args us vs Q E hr e0 hb r hsp=>?_⟩
 have hl:=len _ _ _ _ hsp
 have KX:K.In s.heap:=e0.mod.kin.keeps fun b o e=>(e0.bs b o e).1
 have lim:s.heap.NoLimit:=e0.mod.nolimit.keeps fun b o e=>(e0.bs b o e).1
 have hkind:∀ y∈ps.zip us,scope.names.lookup y.1=some .local\/(scope.names.lookup y.1=some .cell/\((cellsFrom (s.heap.objs.size+1) scope.names []).lookup y.1).isSome=true):=fun hZ0 hy=>by
   obtain ⟨n,v⟩:=hZ0; rcases S.par n (List.of_mem_zip hy).1 with q | q
   . exact .inl q
   . exact .inr ⟨q,PySem.W.cellsFrom_some _ _ _ (.inl q)⟩
 refine codeAny_call_function hr.depth (KX _ _ lk) rfl S.co S.gen rfl (PySem.W.codeRec_of KX hcd) (hb _ _ _ _ ?_)
 refine wpAny_newFunctionEnv_cells S.kind hkind fun env he s1 x=>?_
 subst he
 refine ⟨lim.keeps x.toInCall.keep,codeAny_func ?_⟩
 obtain ⟨t,ht,hq⟩:=hbody A outer s H vs Q E (hr.deeper _) hsp
 have I:Inv (fY CX P w K mg base N qual scope f cdv A outer s H E) [] (Ck N vs) H s1:=fJ S hr.hd e0 hl r x
 refine wpAny_mono (ht [] s1 (Ck N vs) H _ I hq) (fun fl s' hs=>?_) fun e s' hs=>hs
 have fin:∀ {σ':St} {H':Hp} {v:V} {u:Value},Inv (fY CX P w K mg base N qual scope f cdv A outer s H E) [] σ' H' s'->RelV v u->Q v H'->CE outer P w H s Q u s' :=
   fun {σ' H' v u} J rv q=>⟨v,H',J.os,J.bare,J.base,J.hok,rv,q⟩
 cases fl with
 | ret u =>
   obtain ⟨v,σ',H',J,rv,q⟩:=hs; exact fin J rv q
 | next =>
   obtain ⟨σ',H',J,q⟩:=hs; exact fin (v:=V.non) (u:=Value.none) J rfl q
 | brk =>
   obtain ⟨_,_,_,q⟩:=hs; exact False.elim q
 | cont =>
   obtain ⟨_,_,_,q⟩:=hs; exact False.elim q
end L2
namespace L2
open PySem PySem.Spec PyProof.Rows
section
variable {X:Cx} {x:Str} {p pos:Pos} {e:Expr} {es:List Expr} {t:TA} {id T:String} {r:List V->Hp->VK->Prop}
def tCB (r:List V->Hp->VK->Prop) (t:TA):TE:=fun σ H Q=>t σ H fun vs H1=>r vs H1 Q
theorem Pq (hc:T5 X (.builtin id) r) (hg:Gl X x) (hm:X.mg x=none) (hv:bootBuiltins x=some (.builtin id)) (ha:PA X (e::es) t) (hn:x ≠ "__name__" := by decide) (hdb:(x==("__debug__" : Str))=false:=by decide)
   (he:starEach (e::es) X.env=(false,eval e X.env)::starEach es X.env:=by rfl) (hpl:(backTo pos (starEach es X.env)).any (·.1)=false:=by rfl):PE X (.Call (.Name x p) (e::es) [] pos) (tCB r t):=by
 intro pins s σ H Q I h
 refine wpAny_Call_Name_kw (Li I hg hm hv ?_ hn hdb)
 exact PyProof.Rows.callWith_builtin1 (thn (ha pos pins s σ H _ I h) fun us s1 hZ2=>by obtain ⟨vs,H1,I1,r1,q1⟩:=hZ2; exact hc pins s1 σ H1 vs us Q I1 r1 q1) he hpl
theorem Ld (hc:T5 X (.type T) r) (hg:Gl X x) (hm:X.mg x=none) (hv:bootBuiltins x=some (.type T)) (ha:PA X (e::es) t) (hn:x ≠ "__name__" := by decide) (hdb:(x==("__debug__" : Str))=false:=by decide)
   (he:starEach (e::es) X.env=(false,eval e X.env)::starEach es X.env:=by rfl) (hpl:(backTo pos (starEach es X.env)).any (·.1)=false:=by rfl):PE X (.Call (.Name x p) (e::es) [] pos) (tCB r t):=by
 intro pins s σ H Q I h
 refine wpAny_Call_Name_kw (Li I hg hm hv ?_ hn hdb)
 exact PyProof.Rows.callWith_type1 (thn (ha pos pins s σ H _ I h) fun us s1 hZ2=>by obtain ⟨vs,H1,I1,r1,q1⟩:=hZ2; exact hc pins s1 σ H1 vs us Q I1 r1 q1) he hpl
end
end L2
namespace HT
open PySem PyProof.Rows
section
variable {prog:Program} {w:World} {A:Around} {E:Value->Shared->Prop} {s:Shared}
theorem cat_tup {t b:Addr} {vs ws:List Value} {Q:Value->Shared->Prop} (ht:IsTup s.heap t vs.toArray) (hb:IsTup s.heap b ws.toArray) (hv:vs≠[])
   (h1:ws=[]->Q (.ref t) s) (h2:ws≠[]->Q (.ref s.heap.objs.size) { s with heap:=s.heap.push { cls:=.type "tuple",data:=.seq (vs++ws).toArray } })
   (hsz:vs.length+ws.length<=sizeLine):wpAny (model prog w) A (binaryOp .Add (.ref t) (.ref b)) Q E s:=by
 obtain ⟨⟨cls,dd,data,sl⟩,ho,hc,n,hd⟩:=id ht
 obtain ⟨⟨cls2,dd2,data2,sl2⟩,ho2,hc2,n2,hd2⟩:=id hb
 simp only at hc hd hc2 hd2
 subst hc hd hc2 hd2
 have e:vs.toArray++ws.toArray=(vs++ws).toArray:=by simp
 by_cases hw:ws=[]
 . exact concat_meets ⟨_, ho, rfl⟩ ⟨_, ho2, rfl⟩ noFill_tuple_add seq_tuple_add PySem.F.slot_tuple_add PySem.F.entry_tuple_add (PySem.F.args_tuple_add_2 _ _)
     (tuple_addW1 t b vs.toArray ws.toArray n n2 dd dd2 sl sl2 (by simpa using hv) (by simp [hw])) ⟨ho,ho2,h1 hw⟩
 . refine concat_meets ⟨_, ho, rfl⟩ ⟨_, ho2, rfl⟩ noFill_tuple_add seq_tuple_add PySem.F.slot_tuple_add PySem.F.entry_tuple_add (PySem.F.args_tuple_add_2 _ _)
     (tuple_addW2 t b vs.toArray ws.toArray n n2 dd dd2 sl sl2 (by simpa using hv) (by simpa using hw) (by rw [List.size_toArray,List.size_toArray]; exact hsz)) ⟨ho,ho2,?_⟩
   rw [e]; exact h2 hw
noncomputable def sIx (n d:Nat):Option Int->Nat
 | none=>d
 | some v=>if v < 0 then (v+(n:Int)).toNat else min v.toNat n
theorem sIx_none (n d:Nat):sIx n d none=d:=rfl
theorem sIx_nat (n d k:Nat):sIx n d (some (k:Int))=min k n:=by
 show (if (k:Int) < 0 then ((k:Int)+(n:Int)).toNat else min (k:Int).toNat n)=min k n
 rw [if_neg (by lia),Int.toNat_natCast]
theorem sW (n d:Nat) (hd:d<=n) (o:Option Int):sIx n d o<=n:=by
 cases o with
 | none=>exact hd
 | some v =>
   show (if v < 0 then (v+(n:Int)).toNat else min v.toNat n)<=n
   by_cases hv:v < 0
   . rw [if_pos hv]; lia
   . rw [if_neg hv]; exact Nat.min_le_right _ _
theorem dD (v:Int) (n d:Nat):(if v < 0 then max (v+(n:Int)) 0 else min v (n:Int))=((sIx n d (some v):Nat):Int):=by
 show (if v < 0 then max (v+(n:Int)) 0 else min v (n:Int))=(((if v < 0 then (v+(n:Int)).toNat else min v.toNat n):Nat):Int)
 by_cases hv:v < 0
 . simp only [if_pos hv]; lia
 . simp only [if_neg hv]; lia
theorem bQ (lo hi:Option Int) (n:Nat):Builtin.Slice.sliceAdjust lo hi 1 (n:Int)=(((sIx n 0 lo:Nat):Int),((sIx n n hi:Nat):Int)):=by
 have h1:¬ ((1:Int) < 0):=by lia
 unfold Builtin.Slice.sliceAdjust
 simp only [h1,if_false]
 refine Prod.ext ?_ ?_
 . cases lo with
   | none=>rfl
   | some v=>exact dD v n 0
 . cases hi with
   | none=>rfl
   | some v=>exact dD v n n
theorem aO (i j:Nat):Builtin.Slice.slicePlaces (i:Int) (j:Int) 1=j - i:=by
 unfold Builtin.Slice.slicePlaces
 have h1:(1:Int)>0:=by lia
 simp only [h1,if_true,Int.ediv_one]
 split <;> lia
theorem Pf {v:Value} {o:Option Int} {Q:Option Int->Shared->Prop} (p:IsPart v o) (h:Q o s):wpAny (model prog w) A (Builtin.Slice.slicePartIndex v) Q E s:=by
 cases p with
 | none=>exact slicePart_none h
 | int i t=>exact slicePart_int h
theorem sliceApplied_gen {sl:Addr} {vl vu:Value} {lo hi:Option Int} {n:Nat} {Q:Int×Int×Nat->Shared->Prop} (hs:s.heap.IsSliceOf sl vl vu .none) (pl:IsPart vl lo) (pu:IsPart vu hi)
   (h:Q (((sIx n 0 lo:Nat):Int),1,sIx n n hi - sIx n 0 lo) s):wpAny (model prog w) A (Builtin.Slice.sliceApplied (.ref sl) (pure (n:Int))) Q E s:=by
 obtain ⟨os,hos,hcs,hds⟩:=id hs
 unfold Builtin.Slice.sliceApplied Builtin.Slice.sliceFields
 refine wpAny_bind (wpAny_bind (wpAny_field hos hds (x:=vl) rfl (wpAny_bind (wpAny_field hos hds (x:=vu) rfl (wpAny_bind (wpAny_field hos hds (x:=.none) rfl (wpAny_pure ?_)))))))
 refine wpAny_bind (slicePart_none ?_)
 show wpAny _ _ (if ((1:Int)==0)=true then _ else _) _ _ s
 rw [if_neg (by decide)]
 refine wpAny_bind (Pf pl (wpAny_bind (Pf pu (wpAny_bind (wpAny_pure ?_)))))
 show wpAny _ _ (match Builtin.Slice.sliceAdjust lo hi 1 (n:Int) with | (lo,hi)=>pure (lo,(1:Int),Builtin.Slice.slicePlaces lo hi 1)) _ _ s
 rw [bQ lo hi n]
 show wpAny _ _ (pure (((sIx n 0 lo:Nat):Int),(1:Int),Builtin.Slice.slicePlaces ((sIx n 0 lo:Nat):Int) ((sIx n n hi:Nat):Int) 1)) _ _ s
 rw [aO]
 exact wpAny_pure h
theorem jE (xs:Array Value) (i k:Nat):((List.range k).filterMap fun (m:Nat)=>xs[((i:Int)+(m:Int)*1).toNat]?).toArray=((xs.toList.drop i).take k).toArray:=by
 have e:(fun (m:Nat)=>xs[((i:Int)+(m:Int)*1).toNat]?)=fun m=>xs[i+m]? := by
   funext m
   have:((i:Int)+(m:Int)*1).toNat=i+m:=by lia
   rw [this]
 rw [e]
 have:=pick_run xs i k
 rw [List.filterMap_map] at this
 have e2:((fun x=>xs[x]?)∘fun x=>i+x)=fun m=>xs[i+m]? := rfl
 rw [e2] at this
 rw [this]
theorem getItem_tuple_cut {t sl:Addr} {items:Array Value} {vl vu:Value} {lo hi:Option Int} {Q:Value->Shared->Prop} (ht:IsTup s.heap t items) (hs:s.heap.IsSliceOf sl vl vu .none) (pl:IsPart vl lo) (pu:IsPart vu hi)
   (hw:¬ (sIx items.size 0 lo=0/\sIx items.size items.size hi=items.size))
   (h:Q (.ref s.heap.objs.size) { s with heap:=s.heap.push { cls:=.type "tuple",data:=.seq ((items.toList.drop (sIx items.size 0 lo)).take (sIx items.size items.size hi - sIx items.size 0 lo)).toArray } })
   (hsz:items.size<=sizeLine):wpAny (model prog w) A (getItem (.ref t) (.ref sl)) Q E s:=by
 have htake:sizeOk (.seq ((items.toList.drop (sIx items.size 0 lo)).take (sIx items.size items.size hi - sIx items.size 0 lo)).toArray):=by
   show ((items.toList.drop (sIx items.size 0 lo)).take (sIx items.size items.size hi - sIx items.size 0 lo)).toArray.size<=sizeLine
   rw [List.size_toArray,List.length_take,List.length_drop,Array.length_toList]; omega
 have hj:sIx items.size items.size hi<=items.size:=sW _ _ (Nat.le_refl _) hi
 obtain ⟨os,hos,hcs,hds⟩:=id hs
 have hTs:s.TypeIs (.ref sl) "slice" := ⟨os,hos,hcs⟩
 unfold getItem
 try with_reducible refine wpAny_holding ?_
 first | refine wpAny_bind (wpAny_pure ?_) | skip
 refine wpAny_bind (wpAny_sequenceKey ht.typeIs (by decide) ?_)
 refine wpAny_bind (wpAny_callSpecial?_slot (name:=Str.ofString "__getitem__") ht.typeIs PyProof.Rows.slot_tuple_getitem
   (wpAny_call_entry PyProof.Rows.slot_tuple_getitem ht.typeIs entry_tuple_getitem ?_ (args_tuple_getitem _ _)))
 show wpAny _ _ (Builtin.Tuple.tupleItemsOf (.ref t)>>=_) _ _ s
 refine wpAny_bind (tupleItemsOf_ ht ?_)
 refine wpAny_bind (wpAny_typeOf hTs ?_)
 rw [if_pos (by decide)]
 refine wpAny_bind (sliceApplied_gen hs pl pu ?_)
 have hno:¬ ((((sIx items.size 0 lo:Nat):Int)==0&&(1:Int)==1&&(sIx items.size items.size hi - sIx items.size 0 lo)==items.size)=true):=by
   intro q; rw [Bool.and_eq_true,Bool.and_eq_true] at q; have q1:((sIx items.size 0 lo:Nat):Int)=0:=eq_of_beq q.1.1; have q2:sIx items.size items.size hi - sIx items.size 0 lo=items.size:=eq_of_beq q.2; exact hw ⟨by omega,by omega⟩
 show wpAny _ _ (if (((sIx items.size 0 lo:Nat):Int)==0&&(1:Int)==1&&(sIx items.size items.size hi - sIx items.size 0 lo)==items.size)=true then _ else _) _ _ s
 rw [if_neg hno,jE]
 first
   | exact wpAny_bind (m:=Builtin.Tuple.tupleExact _) (wpAny_newObj_type (wpAny_pure ⟨_,rfl,wpAny_pure h⟩) htake)
   | exact wpAny_bind (m:=Builtin.Tuple.tupleExact _) (wpAny_newObj_type (wpAny_bind (wpAny_pure (wpAny_pure ⟨_,rfl,wpAny_pure h⟩))) htake)
   | exact wpAny_bind (wpAny_bind (m:=Builtin.Tuple.tupleExact _) (wpAny_newObj_type (wpAny_pure (wpAny_pure ⟨_,rfl,wpAny_pure h⟩)) htake))
   | exact wpAny_bind (wpAny_bind (m:=Builtin.Tuple.tupleExact _) (wpAny_newObj_type (wpAny_pure ⟨_,rfl,wpAny_pure h⟩) htake))
end
end HT
namespace L2
open PySem PySem.Spec PyProof.Rows
abbrev TO:=St->Hp->(Option Int->Hp->Prop)->Prop
def PO (X:Cx) (e:Option Expr) (t:TO):Prop :=
 ∀ (pins:List (Addr×Obj)) (s:Shared) (σ:St) (H:Hp) (Q:Option Int->Hp->Prop),Inv X pins σ H s->t σ H Q ->
   wpAny (model X.prog X.w) X.A (evalPart e X.env) (fun u s'=>∃ o H',Inv X pins σ H' s'/\IsPart u o/\Q o H') X.xe s
def mL:TO:=fun _ H Q=>Q none H
def tPart (t:TE):TO:=fun σ H Q=>t σ H fun x H1=>∃ i,x=.int i/\Q (some i) H1
section
variable {X:Cx} {e:Expr} {te:TE} {lo hi:Option Expr} {tl th:TO} {pos p2:Pos}
theorem nJ:PO X none mL:=by
 intro pins s σ H Q I h
 rw [evalPart_none]
 exact wpAny_pure ⟨none,H,I,.none,h⟩
theorem nI (h:PE X e te):PO X (some e) (tPart te):=by
 intro pins s σ H Q I hw
 rw [evalPart_some]
 refine thn (h pins s σ H _ I hw) fun u s1 hZ2=>?_
 obtain ⟨x,H1,I1,r1,q1⟩:=hZ2
 obtain ⟨i,rfl,q⟩:=q1
 obtain ⟨t,rfl⟩:=r1
 exact ⟨some i,H1,I1,.int i t,q⟩
def SlR (X:Cx) (r:V->Option Int->Option Int->Hp->VK->Prop):Prop :=
 ∀ (pins:List (Addr×Obj)) (s:Shared) (σ:St) (H:Hp) (x:V) (v vl vu:Value) (lo hi:Option Int) (sl:Addr) (Q:VK),Inv X pins σ H s->RelV x v->s.heap.IsSliceOf sl vl vu .none->IsPart vl lo->IsPart vu hi->r x lo hi H Q ->
   ∃ T id,typeLookup (.type T) "__getitem__" = pure (some (.builtin id))/\s.TypeIs v T/\wpAny (model X.prog X.w) X.A (getItem v (.ref sl)) (EP X pins σ Q) X.xe s
def tSl (r:V->Option Int->Option Int->Hp->VK->Prop) (te:TE) (tl th:TO):TE:=fun σ H Q=>te σ H fun x H1=>tl σ H1 fun l H2=>th σ H2 fun u H3=>r x l u H3 Q
theorem jH {r:V->Option Int->Option Int->Hp->VK->Prop} (hr:SlR X r) (he:PE X e te) (hl:PO X lo tl) (hu:PO X hi th):PE X (.Subscript e (.Slice lo hi none p2) pos) (tSl r te tl th):=by
 intro pins s σ H Q I h
 refine Subscript_ (thn (he pins s σ H _ I h) fun v s1 hZ2=>?_)
 obtain ⟨x,H1,I1,r1,q1⟩:=hZ2
 refine wpAny_Slice (thn (hl pins s1 σ H1 _ I1 q1) fun vl s2 hY32=>?_)
 obtain ⟨l,H2,I2,pl,q2⟩:=hY32
 refine thn (hu pins s2 σ H2 _ I2 q2) fun vu s3 hZ2=>?_
 obtain ⟨u,H3,I3,pu,q3⟩:=hZ2
 rw [evalPart_none]
 refine wpAny_pure ?_
 have I4:Inv X pins σ H3 { s3 with heap:=s3.heap.push { cls:=.type "slice",data:=.fields #[vl,vu,.none] } }:=I3.kept (t':=s3.toks) fun b ob q=>Heap.get?_push_of_some _ q
 obtain ⟨T,id,hT,ht,hg⟩:=hr pins { s3 with heap:=s3.heap.push { cls:=.type "slice",data:=.fields #[vl,vu,.none] } } σ H3 x v vl vu l u s3.heap.objs.size Q I4 r1 (Heap.IsSliceOf.new ..) pl pu q3
 show wpAny (model X.prog X.w) X.A (subscriptTail e (.Slice lo hi none p2) v (.ref s3.heap.objs.size)) (EP X pins σ Q) X.xe { s3 with heap:=s3.heap.push { cls:=.type "slice",data:=.fields #[vl,vu,.none] } }
 exact tail_any (ops:=[.ref s3.heap.objs.size,v]) ht hT hg (by with_unfolding_all rfl)
noncomputable def fZ (xs:List V) (lo hi:Option Int):List V:=(xs.drop (HT.sIx xs.length 0 lo)).take (HT.sIx xs.length xs.length hi - HT.sIx xs.length 0 lo)
theorem Fl (xs:List V) (lo hi:Option Int):(fZ xs lo hi).length<=xs.length:=by
 unfold fZ
 rw [List.length_take,List.length_drop]
 lia
end
end L2
namespace L2
open PySem PySem.Spec PyProof.Rows
noncomputable def ixN (n:Nat) (i:Int):Option Nat:=if 0<=i then (if i < n then some i.toNat else none) else if -(n:Int)<=i then some (i+n).toNat else none
noncomputable def atI {α:Type} (xs:List α) (i:Int):Option α:=(ixN xs.length i).bind fun j=>xs[j]?
theorem oQ {n:Nat} {i:Int} {j:Nat} (h:ixN n i=some j):seqIndex? i n=some j/\j < n /\ -(n:Int)<=i/\i < n:=by
 unfold ixN at h
 by_cases h0:0<=i
 . rw [if_pos h0] at h
   by_cases h1:i < n
   . rw [if_pos h1] at h
     have e:i.toNat=j:=Option.some.inj h; exact ⟨by rw [seqIndex_of h0 h1,e],by lia,by lia,h1⟩
   . rw [if_neg h1] at h; cases h
 . rw [if_neg h0] at h
   by_cases h1 : -(n:Int)<=i
   . rw [if_pos h1] at h
     have e:(i+n).toNat=j:=Option.some.inj h; exact ⟨by rw [seqIndex_neg (by lia) h1,e],by lia,h1,by lia⟩
   . rw [if_neg h1] at h; cases h
theorem Oa {α:Type} {xs:List α} {i:Int} {v:α} (h:atI xs i=some v):∃ j,seqIndex? i xs.length=some j/\xs[j]? = some v/\j < xs.length /\ -(xs.length:Int)<=i/\i < xs.length:=by
 unfold atI at h
 cases e:ixN xs.length i with
 | none=>rw [e] at h; cases h
 | some j =>
   rw [e] at h; obtain ⟨h1,h2,h3,h4⟩:=oQ e; exact ⟨j,h1,h,h2,h3,h4⟩
def dG (b:Expr):Prop:=∀ o i,subscripted b false o i=operate [o,i] (getItem o i)
def IxR (X:Cx) (r:R2):Prop :=
 ∀ (value slice:Expr) (pins:List (Addr×Obj)) (s:Shared) (σ:St) (H:Hp) (x y:V) (v u:Value) (Q:VK),Inv X pins σ H s->RelV x v->RelV y u->r x y H Q ->
   subscripted slice false v u=operate [v,u] (getItem v u)->wpAny (model X.prog X.w) X.A (subscriptTail value slice v u) (EP X pins σ Q) X.xe s
def MtR (X:Cx) (id:String) (r:V->List V->Hp->VK->Prop):Prop :=
 ∀ (pins:List (Addr×Obj)) (s:Shared) (σ:St) (H:Hp) (x:V) (xs:List V) (v:Value) (us:List Value) (Q:VK),Inv X pins σ H s->RelV x v->Vals xs us->r x xs H Q ->
   wpAny (model X.prog X.w) X.A (call (.builtin id) (v::us)) (EP X pins σ Q) X.xe s
section
variable {X:Cx} {a b:Expr} {ta tb:TE} {pos:Pos}
theorem IxR.or {r r':R2} (h:IxR X r) (h':IxR X r'):IxR X (fun x y H Q=>r x y H Q\/r' x y H Q):=by
 intro value slice pins s σ H x y v u Q I rx ry q hs
 rcases q with q | q
 . exact h value slice pins s σ H x y v u Q I rx ry q hs
 . exact h' value slice pins s σ H x y v u Q I rx ry q hs
theorem pe_ix {r:R2} (hr:IxR X r) (ha:PE X a ta) (hb:PE X b tb) (hs:dG b):PE X (.Subscript a b pos) (tOp r ta tb):=by
 intro pins s σ H Q I h
 exact Subscript_ (wC ha hb I h fun v u s2 x y H2 I2 rx ry q=>hr a b pins s2 σ H2 x y v u Q I2 rx ry q (hs _ _))
def rIxL (K:PySem.W.Frag):R2:=fun x y H Q=>∃ p xs i v,x=.ref p/\y=.int i/\SqL K H p xs/\atI xs i=some v/\Q v H
def rIxT (K:PySem.W.Frag):R2:=fun x y H Q=>∃ p xs i v,x=.ref p/\y=.int i/\SqT K H p xs/\atI xs i=some v/\Q v H
def rIxS:R2:=fun x y H Q=>∃ z i c,x=.str z/\y=.int i/\z.length<=sizeLine/\atI z.cps.toList i=some c/\Q (.str ⟨#[c]⟩) H
theorem oP:IxR X (rIxL X.K):=by
 intro value slice pins s σ H x y v u Q I rx ry h hs
 obtain ⟨p,xs,i,z,rfl,rfl,hq,he,q⟩:=h
 cases rx
 obtain ⟨t,rfl⟩:=ry
 obtain ⟨its,r,pl,hz⟩:=I.list hq
 obtain ⟨j,h1,h2,h3,h4,h5⟩:=Oa he
 obtain ⟨w,ew,rw'⟩:=r.get h2
 have hl:=r.length
 have hn:=Lg
 have fin:EP X pins σ Q w s:=⟨z,H,I,rw',q⟩
 by_cases h0:0<=i
 . have hj : i.toNat = j := by
     rw [seqIndex_of h0 h5] at h1; exact Option.some.inj h1
   exact item_listR pl.isList h0 (by lia) (by rw [hj]; simpa using ew) fin hs
 . have hj : (i + (its.toArray.size : Int)).toNat = j := by
     rw [seqIndex_neg (by lia) h4] at h1; rw [List.size_toArray,<- hl]; exact Option.some.inj h1
   exact subscriptTail_builtinR (x:=w) pl.isList.typeIs slot_list_getitem.lookup
     (wpAny_getItem_list_neg (Q:=fun r s'=>r=w/\EP X pins σ Q r s') pl.isList (by lia) (by rw [List.size_toArray] <;> lia) (by lia) (by rw [hj]; simpa using ew) ⟨rfl,fin⟩) hs
theorem uY:IxR X (rIxT X.K):=by
 intro value slice pins s σ H x y v u Q I rx ry h hs
 obtain ⟨p,xs,i,z,rfl,rfl,hq,he,q⟩:=h
 cases rx
 obtain ⟨t,rfl⟩:=ry
 obtain ⟨its,r,pl,hz⟩:=I.tuple hq
 obtain ⟨j,h1,h2,h3,h4,h5⟩:=Oa he
 obtain ⟨w,ew,rw'⟩:=r.get h2
 have hl:=r.length
 have hn:=Lg
 have fin:EP X pins σ Q w s:=⟨z,H,I,rw',q⟩
 exact subscriptTail_builtinR (x:=w) pl.typeIs slot_tuple_getitem.lookup
   (getItem_tuple (j:=j) (Q:=fun r s'=>r=w/\EP X pins σ Q r s') pl (by lia) (by lia) (by rw [List.size_toArray,<- hl]; exact h1) (by simpa using ew) ⟨rfl,fin⟩) hs
theorem uZ:IxR X rIxS:=by
 intro value slice pins s σ H x y v u Q I rx ry h hs
 obtain ⟨z,i,c,rfl,rfl,hz,he,q⟩:=h
 obtain ⟨t,rfl⟩:=rx
 obtain ⟨t',rfl⟩:=ry
 obtain ⟨j,h1,h2,h3,h4,h5⟩:=Oa he
 have hl:z.cps.toList.length=z.length:=by simp [Str.length]
 rw [hl] at h1 h4 h5
 have hn:=Lg
 exact tail_any (typeIs_str s z t) slot_str_getitem.lookup (getItem_str (c:=c) (by
   have e1:decide (i < -(2 ^ 63:Int))=false:=decide_eq_false (by lia)
   have e2:decide (i≥2 ^ 63)=false:=decide_eq_false (by lia)
   rw [e1,e2,Bool.or_false]) (by rw [h1]; simpa using h2) ⟨.str ⟨#[c]⟩,H,I.tok _,⟨_,rfl⟩,q⟩) hs
def rIx (K:PySem.W.Frag):R2:=fun x y H Q=>rIxL K x y H Q\/rIxT K x y H Q\/rIxS x y H Q
theorem vA:IxR X (rIx X.K):=oP.or (uY.or uZ)
theorem Uo (lo hi:Option Int) (n:Nat):(sliceBounds lo hi none n).1=((HT.sIx n 0 lo:Nat):Int)/\(sliceBounds lo hi none n).2.1=((HT.sIx n n hi:Nat):Int)/\(sliceBounds lo hi none n).2.2=1:=by
 refine ⟨?_,?_,rfl⟩
 . cases lo with
   | none=>simp [sliceBounds,HT.sIx]
   | some i =>
     simp only [sliceBounds,HT.sIx,Option.getD_none,show (1:Int)>0 by decide,if_true]
     by_cases h:i < 0
     . simp only [h,if_true] <;> lia
     . simp only [h,if_false] <;> lia
 . cases hi with
   | none=>simp [sliceBounds,HT.sIx]
   | some i =>
     simp only [sliceBounds,HT.sIx,Option.getD_none,show (1:Int)>0 by decide,if_true]
     by_cases h:i < 0
     . simp only [h,if_true] <;> lia
     . simp only [h,if_false] <;> lia
theorem Gx (its:List Value) (lo hi:Option Int):slicePick its.toArray lo hi none=((its.drop (HT.sIx its.length 0 lo)).take (HT.sIx its.length its.length hi - HT.sIx its.length 0 lo)).toArray:=by
 obtain ⟨h1,h2,h3⟩:=Uo lo hi its.toArray.size
 unfold slicePick
 rw [h1,h2,h3]
 simp only [sliceRange_one,pick_run,List.size_toArray] <;> rfl
def rSlL (K:PySem.W.Frag):V->Option Int->Option Int->Hp->VK->Prop:=fun x lo hi H Q=>∃ a xs,x=.ref a/\SqL K H a xs/\∀ p,H p=none->Q (.ref p) (upd H p (.lst (fZ xs lo hi)))
theorem sl_list:SlR X (rSlL X.K):=by
 intro pins s σ H x v vl vu lo hi sl Q I rx hs pl pu h
 obtain ⟨a,xs,rfl,hx,q⟩:=h
 cases rx
 obtain ⟨its,r,ht,hz⟩:=I.list hx
 have hlen:=r.length
 refine ⟨"list",_,slot_list_getitem.lookup,ht.isList.typeIs,?_⟩
 refine wpAny_getItem_list_slice ht.isList hs pl pu .none (by simp) ?_ (by rw [List.size_toArray] <;> lia)
 rw [Gx,<- hlen]
 refine ⟨.ref s.heap.objs.size,_,I.laid (t':=s.toks) (o:=.lst (fZ xs lo hi)) (fun b ob q=>Heap.get?_push_of_some _ q) (Nat.le_refl _) ?_,rfl,q _ (I.hok.fresh (Nat.le_refl _))⟩
 exact ⟨Nat.le_trans (Fl xs lo hi) hz,_,0,(r.drop (HT.sIx xs.length 0 lo)).take (HT.sIx xs.length xs.length hi - HT.sIx xs.length 0 lo),Heap.get?_push_size _ rfl⟩
theorem Ke:T5 X (.type "list") (fun xs H Q=>∃ p ys,xs=[.ref p]/\(SqL X.K H p ys\/SqT X.K H p ys)/\∀ l,H l=none->Q (.ref l) (upd H l (.lst ys))):=by
 intro pins s σ H xs us Q I r h
 obtain ⟨p,ys,rfl,hq,q⟩:=h
 obtain ⟨u,rfl,rx⟩:=Lx r
 cases rx
 have fin : ∀ (its : List Value), Vals ys its -> ys.length <= sizeLine -> ∀ (h' : Heap) (c' : Nat), (∀ b o', s.heap.get? b = some o' -> h'.get? b = some o') ->
     h'.get? s.heap.objs.size=some { cls:=.type "list",dict:=none,data:=.seq its.toArray c',slots := #[] }->EP X pins σ Q (.ref s.heap.objs.size) { s with heap:=h' }:=fun its r' hz h' c' kp e =>
   ⟨.ref s.heap.objs.size,_,I.laid (t':=s.toks) kp (Nat.le_refl _) (show ObjOk X.prog X.w _ h' _ (.lst ys) from ⟨hz,its,c',r',e⟩),rfl,q _ (I.hok.fresh (Nat.le_refl _))⟩
 rcases hq with hq | hq
 . obtain ⟨its,r',pl,hz⟩:=I.list hq
   have hlen:=r'.length; obtain ⟨o,ho,hc,n,hd⟩:=pl.isList; exact call_list_seq p (.inl rfl) ho hc hd (fun h' c' kp e=>fin its r' hz h' c' kp e) (by simp only [List.size_toArray] <;> lia)
 . obtain ⟨its,r',pl,hz⟩:=I.tuple hq
   have hlen:=r'.length; obtain ⟨o,ho,hc,n,hd⟩:=pl; exact call_list_seq p (.inr rfl) ho hc hd (fun h' c' kp e=>fin its r' hz h' c' kp e) (by simp only [List.size_toArray] <;> lia)
theorem Hg:T5 X (.type "tuple") (fun xs H Q=>∃ p ys,xs=[.ref p]/\((SqL X.K H p ys/\∀ l,H l=none->Q (.ref l) (upd H l (.tup ys)))\/(SqT X.K H p ys/\Q (.ref p) H))):=by
 intro pins s σ H xs us Q I r h
 obtain ⟨p,ys,rfl,h⟩:=h
 obtain ⟨u,rfl,rx⟩:=Lx r
 cases rx
 rcases h with ⟨hq,q⟩ | ⟨hq,q⟩
 . obtain ⟨its,r',pl,hz⟩:=I.list hq
   have hlen:=r'.length; refine call_tuple_list pl.isList (fun h' kp=>?_) (by simp only [List.size_toArray] <;> lia)
   have I1:Inv X pins σ H { s with heap:=h' }:=I.kept (t':=s.toks) kp; have I2:Inv X pins σ (upd H h'.objs.size (.tup ys)) { s with heap:=h'.push { cls:=.type "tuple",data:=.seq its.toArray } } :=
     I1.laid (t':=s.toks) (fun b o e=>Heap.get?_push_of_some _ e) (Nat.le_refl _) (show ObjOk X.prog X.w _ _ _ (.tup ys) from ⟨hz,its,r',IsTup.new _ _⟩)
   exact ⟨.ref h'.objs.size,_,I2,rfl,q _ (I1.hok.fresh (Nat.le_refl _))⟩
 . obtain ⟨its,r',pl,hz⟩:=I.tuple hq
   exact call_tuple_same pl ⟨.ref p,H,I,rfl,q⟩
def tyV (K:PySem.W.Frag) (T:String) (x:V) (H:Hp):Prop:=match x with
 | .str _=>T = "str"
 | .int _=>T = "int"
 | .ref p => (T = "list" /\ ∃ xs, SqL K H p xs) \/ (T = "tuple" /\ ∃ o, K.lookup p = some o /\ o.cls = .type "tuple" /\ o.dict = none) \/
     (T = "dict" /\ ((∃ kvs,H p=some (.dK kvs))\/∃ kvs,H p=some (.dT kvs)))\/(T = "set" /\ ∃ S n,H p=some (.set S n))
 | _=>False
theorem sJ {pins:List (Addr×Obj)} {σ:St} {H:Hp} {s:Shared} {T:String} {x:V} {v:Value} (I:Inv X pins σ H s) (r:RelV x v) (ty:tyV X.K T x H) :
   s.TypeIs v T/\∀ a,v=.ref a->∃ ob,s.heap.get? a=some ob/\ob.dict=none:=by
 cases x with
 | str z =>
   obtain ⟨t,rfl⟩:=r
   cases (show T = "str" from ty)
   exact ⟨typeIs_str s z t,fun _ e=>nomatch e⟩
 | int i =>
   obtain ⟨t,rfl⟩:=r
   cases (show T = "int" from ty)
   exact ⟨typeIs_int s i t,fun _ e=>nomatch e⟩
 | ref p =>
   cases r; rcases ty with ⟨rfl,xs,hq⟩ | ⟨rfl,o,hk,hc,hd⟩ | ⟨rfl,hk⟩ | ⟨rfl,S,n,hk⟩
   . obtain ⟨its,_,pl,_⟩:=I.list hq
     refine ⟨pl.isList.typeIs,fun a e=>?_⟩
     cases e; obtain ⟨o,n,e,c,hd,_⟩:=pl; exact ⟨o,e,hd⟩
   . refine ⟨⟨o,I.kIn p o hk,hc⟩,fun a e=>?_⟩
     cases e; exact ⟨o,I.kIn _ o hk,hd⟩
   . have z : ∃ o, s.heap.get? p = some o /\ o.ExactDict := by
       rcases hk with ⟨kvs,hk⟩ | ⟨kvs,hk⟩
       . obtain ⟨_,_,_,_,o,_,_,e,ex,_⟩:=I.hok p _ hk
         exact ⟨o,e,ex⟩
       . obtain ⟨_,_,_,_,o,_,_,e,ex,_⟩:=I.hok p _ hk
         exact ⟨o,e,ex⟩
     obtain ⟨o,e,ex⟩:=z; refine ⟨⟨o,e,ex.1⟩,fun a e2=>?_⟩
     cases e2; exact ⟨o,e,ex.2.1⟩
   . obtain ⟨o,_,_,_,e,ex,_⟩:=I.hok p _ hk
     refine ⟨⟨o,e,ex.1⟩,fun a e2=>?_⟩
     cases e2; exact ⟨o,e,ex.2.1⟩
 | _=>exact False.elim ty
def tBM (K:PySem.W.Frag) (T:String) (r:V->List V->Hp->VK->Prop) (to:TE) (t:TA):TE:=fun σ H Q=>to σ H fun x H1=>tyV K T x H1/\t σ H1 fun xs H2=>r x xs H2 Q
variable {o e:Expr} {es:List Expr} {to:TE} {t:TA} {name:Str} {apos cpos:Pos} {T id:String} {r:V->List V->Hp->VK->Prop}
theorem rC (pa:PlainAttrs T) (slot:Slot T name id) (hty:typeOf (.builtin id)=pure (.type "method_descriptor")) (hm:MtR X id r) (ho:PE X o to) (ha:PA X (e::es) t)
   (hbase:attributeBase o name X.env (eval o X.env)=eval o X.env:=by rfl)
   (hfew:((backTo cpos (starEach (e::es) X.env)).all (fun x => !x.1)&&(backToKw cpos (keywordEach [] X.env)).all (fun x=>x.1.isSome)
     && decide ((e::es).length+([]:List Keyword).length+(if ([]:List Keyword).isEmpty then 0 else 1) < 30))=true:=by rfl)
   (hline:(apos.endLine==cpos.line)=true:=by rfl) (hs:starEach (e::es) X.env=(false,eval e X.env)::starEach es X.env:=by rfl) (hplain:(backTo cpos (starEach es X.env)).any (·.1)=false:=by rfl) :
   PE X (.Call (.Attribute o name apos) (e::es) [] cpos) (tBM X.K T r to t):=by
 intro pins s σ H Q I h
 refine wpAny_Call_method_late hbase hfew hline rfl (thn (ho pins s σ H _ I h) fun v s1 hZ2=>?_)
 obtain ⟨x,H1,I1,r1,ty,q1⟩:=hZ2
 obtain ⟨h1,h2⟩:=sJ I1 r1 ty
 refine ⟨T,id,pa,slot,hty,h1,h2,?_⟩
 have hA:=ha cpos pins s1 σ H1 _ I1 q1
 rw [hs] at hA ⊢
 refine Calls.callWith_builtin (by show (false||(backTo cpos (starEach es X.env)).any (·.1))=false; rw [hplain] <;> rfl) (Calls.evalArgs_plain ?_)
 exact thn hA fun us s2 hZ2=>by obtain ⟨vs,H2,I2,r2,q2⟩:=hZ2; exact hm pins s2 σ H2 x vs v us Q I2 r1 r2 q2
end
end L2
namespace L2
open PySem PySem.Spec PyProof.Rows
def MtM (X:Cx) (id:String) (r:V->List V->Hp->VK->Prop):Prop :=
 ∀ (pins:List (Addr×Obj)) (s:Shared) (σ:St) (H:Hp) (x:V) (xs:List V) (v:Value) (us:List Value) (Q:VK),Inv X pins σ H s->RelV x v->Vals xs us->r x xs H Q ->
   wpAny (model X.prog X.w) X.A (call (.builtin id) (v::us)) (EP X pins σ Q) X.xe s
theorem Vals.zero {us:List Value} (h:Vals [] us):us=[]:=by cases h; rfl
theorem Vals.uncons {x:V} {xs:List V} {us:List Value} (h:Vals (x::xs) us):∃ u r,us=u::r/\RelV x u/\Vals xs r:=by cases h with | cons a t=>exact ⟨_,_,rfl,a,t⟩
theorem Vals.one {x:V} {us:List Value} (h:Vals [x] us):∃ u,us=[u]/\RelV x u:=by
 obtain ⟨u,r,rfl,a,t⟩:=h.uncons
 exact ⟨u,by rw [t.zero],a⟩
theorem Vals.two {x y:V} {us:List Value} (h:Vals [x,y] us):∃ u v,us=[u,v]/\RelV x u/\RelV y v:=by
 obtain ⟨u,r,rfl,a,t⟩:=h.uncons
 obtain ⟨v,rfl,b⟩:=t.one
 exact ⟨u,v,rfl,a,b⟩
theorem Vals.reverse {xs:List V} {us:List Value} (h:Vals xs us):Vals xs.reverse us.reverse:=by
 induction h with
 | nil=>exact .nil
 | cons r t ih=>rw [List.reverse_cons,List.reverse_cons]; exact Vals.append ih (.cons r .nil)
theorem Vals.rep {xs:List V} {us:List Value} (h:Vals xs us):∀ k:Nat,Vals (List.replicate k xs).flatten (List.replicate k us).flatten:=by
 intro iN; induction iN with
 | zero=>skip; exact .nil
 | succ k ih =>
   skip
   rw [List.replicate_succ,List.replicate_succ,List.flatten_cons,List.flatten_cons]; exact Vals.append h (ih)
theorem Tm (its:List Value):∀ (k:Nat) (acc:List Value),
   List.foldl (fun x1 x2=>x1++x2) acc.toArray (List.replicate k its.toArray)=(acc++(List.replicate k its).flatten).toArray:=by
 intro iN; induction iN with
 | zero=>intro acc; simp
 | succ k ih =>
   intro acc; have e:acc.toArray++its.toArray=(acc++its).toArray:=by simp
   have e2:(acc++its)++(List.replicate k its).flatten=acc++(List.replicate (k+1) its).flatten:=by
     rw [List.replicate_succ,List.flatten_cons,List.append_assoc]
   rw [<- e2,<- ih (acc++its),<- e,List.replicate_succ,List.foldl_cons]
section
variable {X:Cx} {pins:List (Addr×Obj)} {σ:St} {H:Hp} {s:Shared} {l:Addr} {xs ys:List V}
theorem Inv.lset {its its':List Value} {n:Nat} {f:Array Value->Array Value} {t':Nat} (I:Inv X pins σ H s) (hH:H l=some (.lst xs))
   (e:s.heap.get? l=some { cls:=.type "list",data:=.seq its.toArray n }) (hf:f its.toArray=its'.toArray) (hv:Vals ys its') (hz:ys.length<=sizeLine) :
   Inv X pins σ (upd H l (.lst ys)) { s with heap:=s.heap.update l (Obj.mapSeq f),toks:=t' }:=by
 have q:=PySem.IsL.update e f
 rw [hf] at q
 refine I.write (x:=l) (e:=l) (by rw [hH]; exact trivial) (.inl rfl) (fun b' u hb hu=>(Heap.get?_update_other s.heap (Obj.mapSeq f) (Ne.symm hb)).trans hu) ⟨_,q⟩ ?_
 exact ⟨hz,its',_,hv,q⟩
theorem Inv.lnew {its:List Value} {t':Nat} (I:Inv X pins σ H s) (hv:Vals ys its) (hz:ys.length<=sizeLine) :
   Inv X pins σ (upd H s.heap.objs.size (.lst ys)) { s with heap:=s.heap.push { cls:=.type "list",data:=.seq its.toArray },toks:=t' } :=
 I.laid (fun _ _ q=>Heap.get?_push_of_some _ q) (Nat.le_refl _) ⟨hz,its,0,hv,Heap.get?_push_size _ rfl⟩
theorem Inv.fresh (I:Inv X pins σ H s):H s.heap.objs.size=none:=I.hok.fresh (Nat.le_refl _)
theorem Inv.lstM (I:Inv X pins σ H s) (hH:H l=some (.lst xs)):xs.length<=sizeLine/\∃ (its:List Value) (n:Nat),Vals xs its/\xs.length=its.length/\s.heap.get? l=some { cls:=.type "list",data:=.seq its.toArray n }:=by
 obtain ⟨z,its,n,r,e⟩:=I.hok l _ hH
 exact ⟨z,its,n,r,r.length,e⟩
theorem jU {n:Nat} (h:n<=sizeLine):Builtin.List.listTooLong n=false:=by
 unfold Builtin.List.listTooLong
 exact decide_eq_false (by lia)
end
section
variable {X:Cx}
def mZ:V->List V->Hp->VK->Prop:=fun x vs H Q=>∃ l xs y,x=.ref l/\vs=[y]/\H l=some (.lst xs)/\xs.length < sizeLine/\Q .non (upd H l (.lst (xs++[y])))
theorem Tc:MtM X "list.append" mZ:=by
 intro pins s σ H x vs v us Q I rx rv h
 obtain ⟨l,xs,y,rfl,rfl,hH,hz,q⟩:=h
 cases rx
 obtain ⟨u,rfl,ru⟩:=rv.one
 obtain ⟨z,its,n,r,hl,e⟩:=I.lstM hH
 refine call_meets F.slot_list_append ⟨_,e,rfl⟩ F.entry_list_append (F.args_list_append_2 _ _) (PySem.list_append l its.toArray n u (by rw [List.size_toArray]; lia)) ⟨e,?_⟩
 refine ⟨.non,_,I.lset (its':=its++[u]) hH e (by simp) (r.append (.cons ru .nil)) ?_,rfl,q⟩
 rw [List.length_append,List.length_singleton]
 lia
theorem Nu {α:Type} (xs:List α) (k:Nat):(List.replicate k xs).flatten.length=k*xs.length:=by
 induction k with
 | zero=>simp
 | succ k ih=>rw [List.replicate_succ,List.flatten_cons,List.length_append,ih,Nat.succ_mul,Nat.add_comm]
end
end L2
namespace Att
open PySem PySem.W PySem.Calls PyProof.Rows
theorem Na {P:Params} {h:Heap}:∀ (ns:List Int) (vs:List Value),WellAll P h vs (ns.map WData.int)->IntsAre vs ns:=by
 intro ns
 induction ns with
 | nil =>
   intro vs w; rw [List.map_nil] at w; cases w; exact .nil
 | cons n ns ih =>
   intro vs w; rw [List.map_cons] at w
   cases w with
   | cons a b =>
     cases a; exact .cons _ _ (ih _ b)
theorem eF {l:OpenLaw} {n:Nat} (hn:l.most=some n) {P:Params} {h:Heap} {args:List WData} {vals:List Value}
   (hpre:l.row.toRowW.claim.pre args=true) (hwl:WellAll P h vals args) :
   ∃ a vs ns,vals=[Value.ref a]/\args=[WData.list (ns.map WData.int)]/\h.get? a=some { cls:=.type "list",data:=.seq vs.toArray }/\IntsAre vs ns/\ns.length<=n:=by
 have hsh:WShape.hasAll [] args [.list .int]=true:=(pre_splitW hpre).1
 have hc:l.pre.holds [] { args:=args }=true:=(pre_splitW hpre).2
 obtain ⟨d,r,rfl,h1,h2⟩:=hasAllW_cons hsh
 obtain rfl:=hasAllW_nil h2
 obtain ⟨xs,rfl,h3⟩:=hasW_list h1
 obtain ⟨ns,rfl⟩:=items_int h3
 have hlen:ns.length<=n:=by
   unfold OpenLaw.pre at hc; have h4:(WTm.not (.lt (.lit (.int (n:Int))) (.len (.arg 0)))).holds [] { args:=[.list (ns.map .int)] }=true:=by
     have h4:=(holds_andW hc).1; rw [hn] at h4; exact h4
   have h5:=condW_of h4 (w_not (w_lt w_lit (w_len_list (w_arg rfl)))); rw [List.length_map] at h5; refine Nat.le_of_not_lt fun q=>?_
   have q':(n:Int) < ((ns.length:Nat):Int):=by lia
   first
     | (rw [decide_eq_true q'] at h5; exact absurd h5 (by decide))
     | (simp at h5; lia)
 cases hwl with
 | cons w1 w2 =>
   cases w2
   cases w1 with
   | list ho hall=>exact ⟨_,_,ns,rfl,rfl,ho,Na ns _ hall,hlen⟩
theorem eJ (l:OpenLaw) (args:List WData):l.row.toRowW.claim.post args (.bool true) args=true :=
 postW_of (r:=l.row.toRowW) (X:=(true==true))
   (show WShape.has [] (.bool true) .bool=true by first | rfl | decide | simp [WShape.has,WShape.arms,WShape.armsAll])
   (show (WTm.eq .res (.lit (.bool true))).value [] { args:=args,res:=some (.bool true),after:=args }=some (.bool (true==true)) from w_eq_bool (w_res rfl) w_lit) rfl
theorem attach_call {l:OpenLaw} {n:Nat} {q:Program} {loose:List Str} {XP:(Str->Option Value)->Heap->Prop} {YP:World->Heap->Prop} {d:DefRec}
   (hn:l.most=some n) (hdf:d.params.defaults=[])
   (call:∀ (w:World) (s₀ s₁:Shared) (mg mb:Str->Option Value) (fa:Addr) (o:Obj) (pm cd doc:Value) (a:Addr) (vs:List Value) (ns:List Int),
     Ground q loose [] XP w s₀ mg mb s₁.heap->YP w s₁.heap ->
     s₁.heap.get? fa=some o->o.data=.func (docDef d.name d.params d.body d.scope pm cd doc)->s₁.heap.CodeRec cd d.name->mg d.name=some (.ref fa) ->
     s₁.heap.get? a=some { cls:=.type "list",data:=.seq vs.toArray }->IntsAre vs ns->ns.length<=n->s₁.gens = #[] ->
     codeAny (model l.prog w) callerA (.call (.ref fa) ⟨[.ref a],[]⟩) (fun r s'=>r=.ok (.ret (.bool true))/\OldK s₁.heap s'.heap/\s'.os=s₁.os/\AllBare s'.gens) s₁) :
   WalkO q loose XP YP l.row.toRowW d [] (fun f vs=>PySem.call f vs):=by
 intro w s₀ s₁ mg mb G Y fa o pm cd doc dV kV ho hd hcd hD hmg hg args vals as hpre hlay hrd hwl hlo
 obtain rfl:dV=.none:=Dflts.none hD hdf
 obtain rfl:kV=.none:=Dflts.noKw hD
 obtain ⟨a,vs,ns,rfl,rfl,hobj,hints,hlen⟩:=eF hn hpre hwl
 refine enter_call (codeAny_mono (call w s₀ s₁ mg mb fa o pm cd doc a vs ns G Y ho (fd_plain hd) hcd hmg hobj hints hlen hg) fun r s' hq=>?_)
 obtain ⟨rfl,h2,h3,h4⟩:=hq
 exact ⟨.inl ⟨.bool true,.bool true,[],rfl,fun _=>rfl,.bool true,eJ l _,fun _=>⟨List.Pairwise.nil,fun _ hm=>(nomatch hm)⟩⟩,h2,h3,h4⟩
end Att
namespace L2
open PySem PySem.Spec PyProof.Rows
theorem Ss:∀ {vs:List Value} {ns:List Int},IntsAre vs ns->Vals (ns.map V.int) vs
 | _,_,.nil=>.nil
 | _,_,.cons n t h=>.cons ⟨t,rfl⟩ (Ss h)
def wG (H:Hp):Prop:=∀ b,H b=none\/∃ o xs,H b=some (.frz o (.lst xs))
theorem kK {P:Program} {w:World} {K:PySem.W.Frag} {mg mb:Str->Option Value} {CX:CXT} {k:Nat} {fa a:Addr} {fd:FuncData} {x:Str} {sp:Sp} {s₁:Shared} {vs:List Value} {ns:List Int}
   (KX:K.In s₁.heap) (hns:s₁.heap.Ns mainGlobals mg) (hb:s₁.heap.Ns builtinsNs mb) (hbb:∀ x:Str,x ≠ "__name__" -> mb x=bootBuiltins x) (hlim:s₁.heap.NoLimit) (hg:s₁.gens = #[])
   (ha:s₁.heap.get? a=some { cls:=.type "list",data:=.seq vs.toArray }) (hi:IntsAre vs ns) (hl:ns.length<=sizeLine) (hr:Room k callerA)
   (F:∀ base:Heap,K.In base->base.Ns mainGlobals mg->FnOk P w K mg base CX k fa fd [x] sp) (hbind:∀ (s:Shared) (u:Value),BindsTo s fd ⟨[u],[]⟩ [(x,u)])
   (hsp:∀ H:Hp,wG H->SqL K H a (ns.map V.int)->sp [.ref a] H (fun v _=>v=.bl true) fun _ _ _=>False)
   (hCX:∀ H e s',CX [] H s₁ (fun _ _ _=>False) e s'->False) :
   codeAny (model P w) callerA (.call (.ref fa) ⟨[.ref a],[]⟩) (fun r s'=>r=.ok (.ret (.bool true))/\OldK s₁.heap s'.heap/\s'.os=s₁.os/\AllBare s'.gens) s₁:=by
 have rv:=Ss hi
 have lenV:=hi.length
 have core : ∀ H : Hp, wG H -> SqL K H a (ns.map V.int) -> HOk P w H s₁.heap -> (∀ b, H b ≠ none -> b = a) -> (H a ≠ none -> K.lookup a = none) ->
     codeAny (model P w) callerA (.call (.ref fa) ⟨[.ref a],[]⟩) (fun r s'=>r=.ok (.ret (.bool true))/\OldK s₁.heap s'.heap/\s'.os=s₁.os/\AllBare s'.gens) s₁:=by
   intro H hO hS hok hA hK; have base_of:∀ {b:Addr} {o:Obj},s₁.heap.get? b=some o->H b=none->(Vq s₁.heap H).get? b=some o:=fun e n=>kY e n
   have noA:∀ {b:Addr} {o:Obj} {es:Array DictEntry} {ep:Nat},s₁.heap.get? b=some o->o.data=.dict es ep->H b=none:=fun {b o es ep} e d=>by
     cases q:H b with
     | none=>rfl
     | some u =>
       have e':b=a:=hA b (by rw [q]; simp)
       subst e'; rw [ha] at e; cases e; have d':Data.seq vs.toArray _=Data.dict es ep:=d
       cases d'
   have nsK:∀ {b:Addr} {m:Str->Option Value},s₁.heap.Ns b m->(Vq s₁.heap H).Ns b m:=fun {b m} ⟨o,es,ep,e,d,r⟩=>⟨o,es,ep,base_of e (noA e d),d,r⟩
   have hKb:K.In (Vq s₁.heap H):=fun b o e=>base_of (KX b o e) (by
     cases q:H b with
     | none=>rfl
     | some u =>
       have e':b=a:=hA b (by rw [q]; simp)
       subst e'; rw [hK (by rw [q]; simp)] at e; cases e)
   have hM:Mod K mg (Vq s₁.heap H):=⟨hKb,nsK hns,⟨mb,nsK hb,hbb⟩,let ⟨mc,h1,h2⟩:=hlim; ⟨mc,nsK h1,h2⟩⟩
   have e0:Env0 P w K mg (Vq s₁.heap H) callerA [] s₁ H:=⟨rfl,hM,fun b o e=>oB e,Nat.le_of_eq (fN _ _),trivial,fun b hb=>absurd (show b∈([]:List Addr) from hb) (by simp),hok,.of_eq hg⟩
   refine codeAny_mono ((F _ hKb (nsK hns)).run callerA [] s₁ H ⟨[.ref a],[]⟩ [.ref a] [.ref a] _ _ hr e0 (hbind s₁ (.ref a)) (.cons rfl .nil) (hsp H hO hS)) fun r s' h=>?_
   cases r with
   | error e=>exact (hCX H e s' h).elim
   | ok fl =>
     cases fl with
     | next=>exact False.elim h
     | brk=>exact False.elim h
     | cont=>exact False.elim h
     | ret u =>
       obtain ⟨v,H',os,bare,un,hok',r',q⟩:=h; have q':v=.bl true:=q; subst q'; obtain rfl:u=Value.bool true:=r'; refine ⟨rfl,OldK.of_keep fun b o e=>?_,os,bare⟩
       cases q:H b with
       | none=>exact un.keep b o e q (by intro z; exact absurd (show b∈([]:List Addr) from z) (by simp)) (by simp)
       | some u =>
         rcases hO b with z | ⟨ob,xs,z⟩
         . rw [q] at z; cases z
         . have z2:=un.frzs b ob _ z
           obtain ⟨e1,_⟩:=hok b _ z; obtain ⟨e2,_⟩:=hok' b _ z2; rw [e] at e1; cases e1; exact e2
 cases hk:K.lookup a with
 | some o =>
   have e:=KX a o hk; rw [ha] at e; cases e; refine core (fun _=>none) (fun _=>.inl rfl) (.inr ⟨_,vs.toArray,_,hk,rfl,rfl,rfl,by rw [List.size_toArray,lenV]; exact hl,by simpa using rv⟩) (fun b u z=>by have z':(none:Option HO)=some u:=z; cases z') (fun b z=>absurd rfl z) fun z=>absurd rfl z
 | none =>
   refine core (fun b=>if b=a then some (.frz { cls:=.type "list",data:=.seq vs.toArray } (.lst (ns.map V.int))) else none) (fun b=>?_) (.inl (.inr ⟨{ cls:=.type "list",data:=.seq vs.toArray },if_pos rfl⟩)) (fun b u z=>?_) (fun b z=>?_) fun _=>hk
   . by_cases hb:b=a
     . exact .inr ⟨_,_,if_pos hb⟩
     . exact .inl (if_neg hb)
   . by_cases hb:b=a
     . have z':=(if_pos hb).symm.trans z
       cases z'; subst hb; exact ⟨ha,by rw [List.length_map]; exact hl,vs,_,rv,ha⟩
     . have z':=(if_neg hb).symm.trans z
       cases z'
   . by_cases hb:b=a
     . exact hb
     . exact absurd (if_neg hb) z
end L2
namespace L2
open PySem PySem.Spec PyProof.Rows
theorem mG {l:PySem.W.OpenLaw} {n k:Nat} {q:Program} {loose:List Str} {XP:(Str->Option Value)->Heap->Prop} {YP:World->Heap->Prop} {d:DefRec} {K:Params->PySem.W.Frag} {CX:World->CXT} {sp:World->Sp} {x:Str}
   (hn:l.most=some n) (hn2:n<=sizeLine) (hdf:d.params.defaults=[]) (hr:Room k callerA)
   (hY:∀ (w:World) (h:Heap),YP w h->(K w.params).In h)
   (F:∀ (w:World) (mg:Str->Option Value) (fa:Addr) (h:Heap),(K w.params).In h->h.Ns mainGlobals mg->mg d.name=some (.ref fa) ->
     ∃ fd:FuncData,(∀ (s:Shared) (u:Value),BindsTo s fd ⟨[u],[]⟩ [(x,u)]) /\
       ∀ base:Heap,(K w.params).In base->base.Ns mainGlobals mg->FnOk l.prog w (K w.params) mg base (CX w) k fa fd [x] (sp w))
   (hsp:∀ (w:World) (H:Hp) (a:Addr) (ns:List Int),ns.length<=n->wG H->SqL (K w.params) H a (ns.map V.int)->sp w [.ref a] H (fun v _=>v=.bl true) fun _ _ _=>False)
   (hCX:∀ (w:World) (H:Hp) (s:Shared) (e:Value) (s':Shared),CX w [] H s (fun _ _ _=>False) e s'->False) :
   PySem.W.WalkO q loose XP YP l.row.toRowW d [] (fun f vs=>PySem.call f vs):=by
 refine Att.attach_call hn hdf fun w s₀ s₁ mg mb fa o pm cd doc a vs ns G Y ho hd hcd hmg hobj hints hlen hg=>?_
 have KX:=hY w _ Y
 obtain ⟨fd,hb,hF⟩:=F w mg fa _ KX G.T.g hmg
 exact kK KX G.T.g G.T.b G.T.builtins G.T.nolimit hg hobj hints (Nat.le_trans hlen hn2) hr hF hb (fun H hO hS=>hsp w H a ns hlen hO hS) fun H e s'=>hCX w H s₁ e s'
end L2
namespace L2
open PySem PySem.Spec PyProof.Rows
noncomputable def P5 (s:Stmt):Arguments:=match s with
 | .FunctionDef _ a _ _ _ _ _ _ _ _=>a
 | _=>{ posonlyargs:=[],args:=[],vararg:=none,kwonlyargs:=[],kw_defaults:=[],kwarg:=none,defaults:=[] }
noncomputable def B5 (s:Stmt):List Stmt:=match s with
 | .FunctionDef _ _ b _ _ _ _ _ _ _=>b
 | _=>[]
noncomputable def A5 (s:Stmt):Scope:=match s with
 | .FunctionDef _ _ _ _ _ _ sc _ _ _=>sc
 | _=>{ kind:=.function,names:=[],isGenerator:=false,isCoroutine:=false }
abbrev CX0:CXT:=fun _ _ _ _ _ _=>False
abbrev E0:XK:=fun _ _ _=>False
theorem jL {X:Cx}:bS CX0 X E0:=fun _ _ _ _ _ _ _ h=>h.elim
structure Fun (K:PySem.W.Frag) (x qual:Str) (st:Stmt) (f:Addr) (fd:FuncData):Prop where
 ex:∃ (oc:Value) (od:Option Addr) (kV doc pm:Value) (an:Option Addr) (cdv ct:Value) (osl:Array (Option Value)),
   fd=PySem.W.fnOf x qual (P5 st) (B5 st) (A5 st) .none kV doc pm an cdv ct/\K.lookup f=some ⟨oc,od,.func fd,osl⟩/\PySem.W.codeIn K cdv qual=true
 kp:PySem.W.keepIn K (.ref f)=true
section
variable {P:Program} {w:World} {K:PySem.W.Frag} {mg:Str->Option Value} {base:Heap}
theorem Fun.ok {x qual:Str} {st:Stmt} {f:Addr} {fd:FuncData} {N ps:List Str} {k:Nat} {sp:Sp} (F:Fun K x qual st f fd) (S:FnScope N ps (A5 st)) (len:∀ vs H Q E,sp vs H Q E->vs.length=ps.length)
   (hbody:∀ (cdv:Value) (A:Around) (outer:List Env) (s:Shared) (H:Hp) (vs:List V) (Q:VK) (E:XK),Room k (A.deeper (envOfC qual (A5 st) s.heap.objs.size f cdv))->sp vs H Q E ->
     ∃ t,PSs (fY CX0 P w K mg base N qual (A5 st) f cdv A outer s H E).nox (B5 st) t/\t { nx:=fun _ H'=>Q .non H',rt:=Q } (Ck N vs) H):FnOk P w K mg base CX0 (k+1) f fd ps sp:=by
 obtain ⟨oc,od,kV,doc,pm,an,cdv,ct,osl,rfl,lk,hcd⟩:=F.ex
 refine fn_of lk hcd S len fun A outer s H vs Q E hr hsp=>?_
 obtain ⟨t,h,q⟩:=hbody cdv A outer s H vs Q E hr hsp
 exact ⟨t,h.nox,q⟩
theorem Fun.binds {x qual:Str} {st:Stmt} {f:Addr} {fd:FuncData} {ps:List Str} (F:Fun K x qual st f fd)
   (h:∀ (kV doc pm:Value) (an:Option Addr) (cdv ct:Value) (us:List Value),us.length=ps.length->bindArgs (PySem.W.fnOf x qual (P5 st) (B5 st) (A5 st) .none kV doc pm an cdv ct) ⟨us,[]⟩=pure (ps.zip us)):Binds K fd ps []:=by
 obtain ⟨oc,od,kV,doc,pm,an,cdv,ct,osl,rfl,lk,hcd⟩:=F.ex
 exact .all (h kV doc pm an cdv ct)
theorem lB {x qual:Str} {st:Stmt} {f:Addr} {oc:Value} {od an:Option Addr} {osl:Array (Option Value)} {kV doc pm cdv ct:Value} (l:K.lookup f=some ⟨oc,od,.func (PySem.W.fnOf x qual (P5 st) (B5 st) (A5 st) .none kV doc pm an cdv ct),osl⟩)
   (c:PySem.W.codeIn K cdv qual=true) (k:PySem.W.keepIn K (.ref f)=true):Fun K x qual st f (PySem.W.fnOf x qual (P5 st) (B5 st) (A5 st) .none kV doc pm an cdv ct):=⟨⟨oc,od,kV,doc,pm,an,cdv,ct,osl,rfl,l,c⟩,k⟩
end
def Same (H H':Hp):Prop:=∀ b o,H b=some o->H' b=some o
theorem Same.refl (H:Hp):Same H H:=fun _ _ h=>h
theorem Same.trans {H H1 H2:Hp} (a:Same H H1) (b:Same H1 H2):Same H H2:=fun c o h=>b c o (a c o h)
theorem Same.free {H H':Hp} (e:Same H H') {l:Addr} (h:H' l=Option.none):H l=Option.none:=by
 cases q:H l with
 | none=>rfl
 | some o =>
   rw [e l o q] at h; cases h
end L2
section
namespace Sm
open PySem PySem.SetTable
open L2 (isK Fi Yj Ga)
mutual
theorem eqvK:∀ (a b:PyData),isK a=true->isK b=true->(PyData.eqv a b=true↔a=b)
 | .int i,.int j,_,_=>by simp [PyData.eqv]
 | .str x,.str y,_,_=>by simp [PyData.eqv]
 | .tuple xs,.tuple ys,ha,hb=>by
   simp only [PyData.eqv,PyData.tuple.injEq]; exact rS xs ys (by simpa [isK] using ha) (by simpa [isK] using hb)
 | .int _,.str _,_,_ | .int _,.tuple _,_,_ | .str _,.int _,_,_ | .str _,.tuple _,_,_ | .tuple _,.int _,_,_ | .tuple _,.str _,_,_=>by simp [PyData.eqv]
 | .none,_,h,_ | .bool _,_,h,_ | .list _,_,h,_ | .dict _,_,h,_=>by simp [isK] at h
 | .int _,.none,_,h | .int _,.bool _,_,h | .int _,.list _,_,h | .int _,.dict _,_,h=>by simp [isK] at h
 | .str _,.none,_,h | .str _,.bool _,_,h | .str _,.list _,_,h | .str _,.dict _,_,h=>by simp [isK] at h
 | .tuple _,.none,_,h | .tuple _,.bool _,_,h | .tuple _,.list _,_,h | .tuple _,.dict _,_,h=>by simp [isK] at h
theorem rS:∀ (a b:List PyData),Fi a=true->Fi b=true->(PyData.eqvAll a b=true↔a=b)
 | [],[],_,_=>by simp [PyData.eqvAll]
 | [],_::_,_,_=>by simp [PyData.eqvAll]
 | _::_,[],_,_=>by simp [PyData.eqvAll]
 | x::xs,y::ys,ha,hb=>by
   simp only [Fi,Bool.and_eq_true] at ha hb; simp only [PyData.eqvAll,Bool.and_eq_true,List.cons.injEq]; rw [eqvK x y ha.1 hb.1,rS xs ys ha.2 hb.2]
end
section
variable {prog:Program} {w:World} {E:Value->Shared->Prop}
mutual
theorem Pv:∀ (k:PyData) (v:Value) (as:List Addr) (A:Around) (s:Shared) (Q:Int->Shared->Prop),isK k=true->Reads s.heap v k as->A.units+k.depth < cLine ->
   (∀ tk,s.toks<=tk->Q (Yj w k) { s with toks:=tk })->wpAny (model prog w) A (pyHash v) Q E s
 | .int i,_,_,A,s,Q,_,x,_,h=>by cases x; exact wpAny_pyHash_int (h _ (Nat.le_succ _))
 | .str y,_,_,A,s,Q,_,x,_,h=>by cases x; exact wpAny_pyHash_str (h _ (Nat.le_succ _))
 | .tuple xs,_,_,A,s,Q,hk,x,hu,h=>by
   cases x with
   | tuple hg hc hd hr =>
     rename_i _ a o vs n
     refine PySem.W.pyHash_slot (T := "tuple") ⟨_,hg,hc⟩ F.slot_tuple_hash F.entry_tuple_hash (F.args_tuple_hash_1 _) (beq_builtin_none _) (.inr (by lia)) ?_
     show wpAny _ _ (Builtin.Tuple.tupleItemsOf (.ref a)>>=_) _ _ s
     refine wpAny_bind (wpAny_tupleItemsOf hg hd ?_); refine wpAny_bind ?_; rw [<- Array.forIn_toList]; refine Ti xs _ _ A.in1 s #[] _ (by simpa [isK] using hk) hr (by simp only [PyData.depth,Around.in1_units] at hu ⊢; lia) fun tk b ht hb=>?_
     show wpAny _ _ (retInt (Builtin.Tuple.tupleHashOf b.toList)) _ _ _
     rw [hb]; exact wpAny_bind (wpAny_mkInt (wpAny_pure ⟨_,_,rfl,h _ (Nat.le_succ_of_le ht)⟩))
 | .none,_,_,_,_,_,hk,_,_,_ | .bool _,_,_,_,_,_,hk,_,_,_ | .list _,_,_,_,_,_,hk,_,_,_ | .dict _,_,_,_,_,_,hk,_,_,_=>by simp [isK] at hk
theorem Ti:∀ (xs:List PyData) (vs:List Value) (as:List Addr) (A:Around) (s:Shared) (b:Array Int) (Q:Array Int->Shared->Prop),Fi xs=true->ReadsAll s.heap vs xs as ->
   A.units+PyData.depthAll xs < cLine->(∀ tk b',s.toks<=tk->b'.toList=b.toList++Ga w xs->Q b' { s with toks:=tk }) ->
   wpAny (model prog w) A (forIn vs b fun x r=>do let h <- pyHash x; pure PUnit.unit; pure (ForInStep.yield (r.push h))) Q E s
 | [],_,_,A,s,b,Q,_,x,_,h=>by cases x; exact wpAny_pure (h s.toks b (Nat.le_refl _) (by simp [Ga]))
 | k::xs,_,_,A,s,b,Q,hk,x,hu,h=>by
   cases x with
   | cons x1 x2 =>
     simp only [Fi,Bool.and_eq_true,PyData.depthAll] at hk hu; rw [List.forIn_cons]; refine wpAny_bind (wpAny_bind (Pv k _ _ A s _ hk.1 x1 (by lia) fun tk ht=>?_))
     refine wpAny_bind (wpAny_pure (wpAny_pure ?_)); exact Ti xs _ _ A _ _ Q hk.2 x2 (by lia) fun tk' b' ht' hb=>h tk' b' (Nat.le_trans ht ht') (by simp [hb,Ga])
end
end
section
variable {prog:Program} {w:World} {A:Around} {E:Value->Shared->Prop}
mutual
theorem Ts:∀ (fuel:Nat) (k:PyData) (v:Value) (as:List Addr) (s:Shared) (Q:Bool->Shared->Prop),isK k=true->Reads s.heap v k as->(∀ b,Q b s) ->
   wpAny (model prog w) A (hashByValue fuel v) Q E s
 | fuel,.int _,_,_,s,Q,_,x,h=>by cases x; cases fuel <;> exact wpAny_pure (h _)
 | fuel,.str _,_,_,s,Q,_,x,h=>by cases x; cases fuel <;> exact wpAny_pure (h _)
 | 0,.tuple _,_,_,s,Q,_,x,h=>by cases x; exact wpAny_pure (h _)
 | fuel+1,.tuple xs,_,_,s,Q,hk,x,h=>by
   cases x with
   | tuple hg hc hd hr =>
     rename_i _ a o vs n
     unfold hashByValue; refine wpAny_bind (wpAny_specialOf ⟨_,hg,hc⟩ F.slot_tuple_hash.lookup ?_); show wpAny _ _ (seqItems? (.ref a)>>=_) _ _ s
     refine wpAny_bind (wpAny_seqItems hg hd ?_); refine wpAny_bind ?_; show wpAny _ _ (forIn vs _ _) _ _ s
     rw [<- Array.forIn_toList]; refine Yx fuel xs _ _ s _ (by simpa [isK] using hk) hr ?_ ?_
     . exact wpAny_pure (h _)
     . exact wpAny_pure (h _)
 | _,.none,_,_,_,_,hk,_,_ | _,.bool _,_,_,_,_,hk,_,_ | _,.list _,_,_,_,_,hk,_,_ | _,.dict _,_,_,_,_,hk,_,_=>by simp [isK] at hk
theorem Yx:∀ (fuel:Nat) (xs:List PyData) (vs:List Value) (as:List Addr) (s:Shared) (Q:Option Bool×Unit->Shared->Prop),Fi xs=true->ReadsAll s.heap vs xs as ->
   Q (none,()) s->Q (some false,()) s ->
   wpAny (model prog w) A (forIn vs ((none,()):Option Bool×Unit) fun x r=>do
     let b <- hashByValue fuel x
     if (!b)=true then pure (ForInStep.done (some false,())) else do
       pure PUnit.unit
       pure (ForInStep.yield (none,()))) Q E s
 | _,[],_,_,s,Q,_,x,h1,h2=>by cases x; exact wpAny_pure h1
 | fuel,k::xs,_,_,s,Q,hk,x,h1,h2=>by
   cases x with
   | cons x1 x2 =>
     simp only [Fi,Bool.and_eq_true] at hk; rw [List.forIn_cons]; refine wpAny_bind (wpAny_bind (Ts fuel k _ _ s _ hk.1 x1 fun c=>?_))
     cases c
     . exact wpAny_pure (wpAny_pure h2)
     . exact wpAny_pure (Yx fuel xs _ _ s Q hk.2 x2 h1 h2)
end
mutual
theorem Fh:∀ (fuel:Nat) (k:PyData) (v:Value) (as:List Addr) (s:Shared) (Q:Bool->Shared->Prop),isK k=true->k.depth<=fuel->Reads s.heap v k as->Q true s ->
   wpAny (model prog w) A (eqIsQuiet fuel v) Q E s
 | fuel,.int _,_,_,s,Q,_,_,x,h=>by cases x; rw [eqIsQuiet_byValue _ rfl]; exact wpAny_pure h
 | fuel,.str _,_,_,s,Q,_,_,x,h=>by cases x; rw [eqIsQuiet_byValue _ rfl]; exact wpAny_pure h
 | 0,.tuple _,_,_,s,Q,_,hd,x,h=>by simp [PyData.depth] at hd
 | fuel+1,.tuple xs,_,_,s,Q,hk,hdp,x,h=>by
   cases x with
   | tuple hg hc hd hr =>
     rename_i _ a o vs n
     have hT:s.TypeIs (.ref a) "tuple" := ⟨_,hg,hc⟩; unfold eqIsQuiet; refine wpAny_bind (wpAny_specialOf hT F.slot_tuple_eq.lookup ?_); show wpAny _ _ (isInstance (.ref a) (.type "tuple")>>=_) _ _ s
     refine wpAny_bind (wpAny_isInstance hT isSubtype_tuple_tuple ?_); simp only [Bool.not_true,Bool.false_eq_true,if_false]; refine wpAny_bind (wpAny_seqItems hg hd ?_); refine wpAny_bind ?_; show wpAny _ _ (forIn vs _ _) _ _ s
     rw [<- Array.forIn_toList]; refine Po fuel xs _ _ s _ (by simpa [isK] using hk) (by simp only [PyData.depth] at hdp; lia) hr ?_
     exact wpAny_pure h
 | _,.none,_,_,_,_,hk,_,_,_ | _,.bool _,_,_,_,_,hk,_,_,_ | _,.list _,_,_,_,_,hk,_,_,_ | _,.dict _,_,_,_,_,hk,_,_,_=>by simp [isK] at hk
theorem Po:∀ (fuel:Nat) (xs:List PyData) (vs:List Value) (as:List Addr) (s:Shared) (Q:Option Bool×Unit->Shared->Prop),Fi xs=true->PyData.depthAll xs<=fuel->ReadsAll s.heap vs xs as ->
   Q (none,()) s ->
   wpAny (model prog w) A (forIn vs ((none,()):Option Bool×Unit) fun x r=>do
     let b <- eqIsQuiet fuel x
     if (!b)=true then pure (ForInStep.done (some false,())) else do
       pure PUnit.unit
       pure (ForInStep.yield (none,()))) Q E s
 | _,[],_,_,s,Q,_,_,x,h1=>by cases x; exact wpAny_pure h1
 | fuel,k::xs,_,_,s,Q,hk,hdp,x,h1=>by
   cases x with
   | cons x1 x2 =>
     simp only [Fi,Bool.and_eq_true,PyData.depthAll] at hk hdp; rw [List.forIn_cons]; refine wpAny_bind (wpAny_bind (Fh fuel k _ _ s _ hk.1 (by lia) x1 ?_))
     simp only [Bool.not_true,Bool.false_eq_true,if_false]; exact wpAny_pure (Po fuel xs _ _ s Q hk.2 (by lia) x2 h1)
end
end
end Sm
end
section
namespace Sm
open PySem PySem.SetTable L2
section
variable {prog:Program} {w:World} {A:Around} {E:Value->Shared->Prop}
mutual
theorem Fo:∀ (fuel:Nat) (k:PyData) (v:Value) (as:List Addr) (s:Shared) (Q:Bool->Shared->Prop),isK k=true->k.depth<=fuel->Reads s.heap v k as->Q false s ->
   wpAny (model prog w) A (ofAClassStatement fuel v) Q E s
 | fuel,.int _,_,_,s,Q,_,_,x,h=>by cases x; cases fuel <;> exact wpAny_pure h
 | fuel,.str _,_,_,s,Q,_,_,x,h=>by cases x; cases fuel <;> exact wpAny_pure h
 | 0,.tuple _,_,_,s,Q,_,hd,x,h=>by simp [PyData.depth] at hd
 | fuel+1,.tuple xs,_,_,s,Q,hk,hdp,x,h=>by
   cases x with
   | tuple hg hc hd hr =>
     rename_i _ a o vs n
     have hT:s.TypeIs (.ref a) "tuple" := ⟨_,hg,hc⟩; unfold ofAClassStatement; refine wpAny_bind (wpAny_typeOf hT ?_); dsimp only; rw [if_pos (by decide)]; refine wpAny_bind (wpAny_pure ?_); simp only [Bool.not_true,Bool.false_eq_true,if_false]; refine wpAny_bind (wpAny_seqItems hg hd ?_); dsimp only; refine wpAny_bind ?_; rw [<- Array.forIn_toList]; refine Qk fuel xs _ _ s _ (by simpa [isK] using hk) (by simp only [PyData.depth] at hdp; lia) hr ?_
     exact wpAny_pure h
 | _,.none,_,_,_,_,hk,_,_,_ | _,.bool _,_,_,_,_,hk,_,_,_ | _,.list _,_,_,_,_,hk,_,_,_ | _,.dict _,_,_,_,_,hk,_,_,_=>by simp [isK] at hk
theorem Qk:∀ (fuel:Nat) (xs:List PyData) (vs:List Value) (as:List Addr) (s:Shared) (Q:Option Bool×Unit->Shared->Prop),Fi xs=true->PyData.depthAll xs<=fuel->ReadsAll s.heap vs xs as ->
   Q (none,()) s ->
   wpAny (model prog w) A (forIn vs ((none,()):Option Bool×Unit) fun x r=>do
     let b <- ofAClassStatement fuel x
     if b=true then pure (ForInStep.done (some true,())) else
       pure (ForInStep.yield (none,()))) Q E s
 | _,[],_,_,s,Q,_,_,x,h1=>by cases x; exact wpAny_pure h1
 | fuel,k::xs,_,_,s,Q,hk,hdp,x,h1=>by
   cases x with
   | cons x1 x2 =>
     simp only [Fi,Bool.and_eq_true,PyData.depthAll] at hk hdp; rw [List.forIn_cons]; refine wpAny_bind (wpAny_bind (Fo fuel k _ _ s _ hk.1 (by lia) x1 ?_))
     simp only [Bool.false_eq_true,if_false]; exact wpAny_pure (Qk fuel xs _ _ s Q hk.2 (by lia) x2 h1)
end
structure KeyIn (h0:Heap) (v:Value) (d:PyData):Prop where
 rd:∃ as,Reads h0 v d as
 k:isK d=true
 lay:d.canLay0=true
 dp:d.depth<=8
 tup:∃ xs,d=.tuple xs
mutual
theorem Reads.keep {h h':Heap} (hk:∀ b o,h.get? b=some o->h'.get? b=some o):∀ {d:PyData} {v:Value} {as:List Addr},isK d=true->Reads h v d as->Reads h' v d as
 | .int _,_,_,_,x=>by cases x; exact .int _ _
 | .str _,_,_,_,x=>by cases x; exact .str _ _
 | .tuple _,_,_,e,x=>by
   cases x with
   | tuple hg hc hd hr=>exact .tuple (hk _ _ hg) hc hd (ReadsAll.keep hk (by simpa [isK] using e) hr)
 | .none,_,_,e,_ | .bool _,_,_,e,_ | .list _,_,_,e,_ | .dict _,_,_,e,_=>by simp [isK] at e
theorem ReadsAll.keep {h h':Heap} (hk:∀ b o,h.get? b=some o->h'.get? b=some o):∀ {ds:List PyData} {vs:List Value} {as:List Addr},Fi ds=true->ReadsAll h vs ds as->ReadsAll h' vs ds as
 | [],_,_,_,x=>by cases x; exact .nil
 | _::_,_,_,e,x=>by
   cases x with
   | cons x1 x2 =>
     simp only [Fi,Bool.and_eq_true] at e; exact .cons (Reads.keep hk e.1 x1) (ReadsAll.keep hk e.2 x2)
end
theorem Zz (s:Shared) (x:Value) (d:PyData) (ys:List Value) (Q:Bool->Shared->Prop) (hx:KeyIn s.heap x d) (hy:∀ y,y∈ys->∃ d',KeyIn s.heap y d') (h:Q false s) :
   wpAny (model prog w) A (searchCouldBeSeen x ys) Q E s:=by
 unfold searchCouldBeSeen
 refine wpAny_bind ?_
 refine wpAny_forIn_list _ (fun T0 r s'=>r.1=none/\s'=s/\∀ y,y∈T0->∃ d',KeyIn s.heap y d') _ ?_ ?_ _ _ ⟨rfl,rfl,hy⟩
 . rintro y T0 r s' ⟨hr,rfl,hall⟩
   obtain ⟨d',hy'⟩:=hall y List.mem_cons_self; obtain ⟨as,rx⟩:=hx.rd; obtain ⟨bs,ry⟩:=hy'.rd; have hrest:∀ y,y∈T0->∃ d',KeyIn s'.heap y d':=fun z hz=>hall z (List.mem_cons_of_mem _ hz)
   dsimp only; have chain : ∀ c : Bool, wpAny (model prog w) A (if c = true then pure (ForInStep.yield ((none, ()) : Option Bool × Unit)) else do
       let b <- eqIsQuiet 8 x
       if (!b)=true then pure (ForInStep.done (some true,())) else do
         let b <- eqIsQuiet 8 y
         if (!b)=true then pure (ForInStep.done (some true,())) else do
           let b <- ofAClassStatement 8 x
           if b=true then pure (ForInStep.done (some true,())) else do
             let b <- ofAClassStatement 8 y
             if b=true then pure (ForInStep.done (some true,())) else pure (ForInStep.yield (none,())))
       (fun r s1=>match r with
         | .yield b'=>b'.1=none/\s1=s'/\∀ y,y∈T0->∃ d',KeyIn s'.heap y d'
         | .done b'=>False) E s':=by
     intro c; cases c
     . simp only [Bool.false_eq_true,if_false]
       refine wpAny_bind (Fh 8 d x as s' _ hx.k hx.dp rx ?_); simp only [Bool.not_true,Bool.false_eq_true,if_false]; refine wpAny_bind (Fh 8 d' y bs s' _ hy'.k hy'.dp ry ?_); simp only [Bool.not_true,Bool.false_eq_true,if_false]; refine wpAny_bind (Fo 8 d x as s' _ hx.k hx.dp rx ?_); simp only [Bool.false_eq_true,if_false]; refine wpAny_bind (Fo 8 d' y bs s' _ hy'.k hy'.dp ry ?_); simp only [Bool.false_eq_true,if_false]; exact wpAny_pure ⟨rfl,rfl,hrest⟩
     . rw [if_pos rfl]
       exact wpAny_pure ⟨rfl,rfl,hrest⟩
   exact wpAny_mono (chain _) (fun r s1 hr=>by cases r <;> first | exact hr | exact hr.elim) (fun _ _ z=>z)
 . rintro ⟨r1,r2⟩ s' ⟨hr,rfl,_⟩
   simp only at hr; subst hr; exact wpAny_pure h
end
noncomputable def Bf (prog:Program) (w:World) (A:Around) (E:Value->Shared->Prop) (h0:Heap) (a:Addr) (ha:h0.get? a=none) (hu:A.units+8 < cLine):Elems prog w A E a where
 D:=PyData
 dec:=fun _ _=>Classical.propDecidable _
 I:=fun s=>∀ b o,h0.get? b=some o->s.heap.get? b=some o
 R:=KeyIn h0
 hash:=Yj w
 heap:=fun {s h'} I sb b o e=>by
   have hne:b≠a:=by rintro rfl; rw [ha] at e; exact nomatch e
   exact (sb.2 b hne).trans (I b o e)
 toks:=fun tk I=>I
 ref:=fun {v d} r=>by
   obtain ⟨as,x⟩:=r.rd; obtain ⟨xs,rfl⟩:=r.tup; cases x; exact ⟨_,rfl⟩
 eqB:=fun {s y x d d' Q} I ry rx h=>by
   obtain ⟨as,x1⟩:=ry.rd; obtain ⟨bs,x2⟩:=rx.rd; refine SeqAt.eqBoolOverData prog w A E s y x d d' as bs Q (Reads.keep I ry.k x1) (Reads.keep I rx.k x2) ry.lay rx.lay (by have:=ry.dp; lia) ?_
   have e:PyData.eqv d d'=@decide (d=d') (Classical.propDecidable _):=by
     rw [Bool.eq_iff_iff,eqvK d d' ry.k rx.k]; simp
   rw [e]; exact h
 byV:=fun {s x d Q} I rx h=>by
   obtain ⟨as,x1⟩:=rx.rd; exact Ts 8 d x as s Q rx.k (Reads.keep I rx.k x1) h
 seen:=fun {s x d ys Q} I rx hy h=>by
   have up:∀ {v e},KeyIn h0 v e->KeyIn s.heap v e:=fun r=>⟨by obtain ⟨as,x⟩:=r.rd; exact ⟨as,Reads.keep I r.k x⟩,r.k,r.lay,r.dp,r.tup⟩
   exact Zz s x d ys Q (up rx) (fun y hm=>by obtain ⟨d',r⟩:=hy y hm; exact ⟨d',up r⟩) h
end Sm
end
section
namespace Sm
open PySem PySem.SetTable PyProof.Rows L2
noncomputable def Zd (L:List PyData) (d:PyData):List PyData:=if @decide (d∈L) (Classical.propDecidable _) then L else d::L
noncomputable def Y5 (ds:Nat->PyData):Nat->List PyData
 | 0=>[]
 | i+1=>Zd (Y5 ds i) (ds i)
theorem kC (ds:Nat->PyData):∀ i,(Y5 ds i).length<=i:=by
 intro iN; induction iN with
 | zero=>skip; exact Nat.le_refl _
 | succ i ih =>
   skip
   have:=ih; simp only [Y5,Zd]
   split
   . lia
   . simp; lia
theorem Wo {L:List PyData} {d:PyData} (h:d∈L):Zd L d=L:=by simp [Zd,h]
theorem Qw {L:List PyData} {d:PyData} (h:d∉L):Zd L d=d::L:=by simp [Zd,h]
section
variable {prog:Program} {w:World} {A:Around} {E:Value->Shared->Prop} {a:Addr} {B:Elems prog w A E a} {ld:Bool} {s s':Shared} {L:List B.D}
theorem SetIn.move (S:SetIn B ld s L) (hi:B.I s') (hg:∀ o,s.heap.get? a=some o->s'.heap.get? a=some o):SetIn B ld s' L:=by
 obtain ⟨o,es,ep,t,zs,T,hp,hf⟩:=S
 exact ⟨o,es,ep,t,zs,⟨hi,hg _ T.get,T.ex,T.dat,T.led,T.good,T.ent,T.rel⟩,hp,hf⟩
theorem SetIn.inv (S:SetIn B ld s L):B.I s:=by
 obtain ⟨o,es,ep,t,zs,T,hp,hf⟩:=S
 exact T.inv
end
end Sm
end
section
namespace Sm
open PySem PySem.W PyProof.Rows
theorem U0:Slot "set_iterator" "__next__" "set_iterator.__next__" :=
 .of (owner := "set_iterator") (n := "__next__") (by rw [typeLookup_type,builtinLookup_eq_fast]; kernel_rfl) (by decide +kernel) (by decide +kernel) (by decide +kernel) (by first | exact .inl (by decide +kernel) | exact .inr (by decide +kernel)) (by rw [isSubtype_type]; kernel_rfl)
theorem cF:Slot "set_iterator" "__iter__" "set_iterator.__iter__" :=
 .of (owner := "set_iterator") (n := "__iter__") (by rw [typeLookup_type,builtinLookup_eq_fast]; kernel_rfl) (by decide +kernel) (by decide +kernel) (by decide +kernel) (by first | exact .inl (by decide +kernel) | exact .inr (by decide +kernel)) (by rw [isSubtype_type]; kernel_rfl)
theorem Je:entryFor table "set_iterator.__next__" = some Builtin.«set_iterator.__next__» := entryFor_of_tree (by kernel_rfl)
theorem iL:entryFor table "set_iterator.__iter__" = some Builtin.«dict_keyiterator.__iter__» := entryFor_alias (id' := "dict_keyiterator.__iter__") (by kernel_rfl) rfl (by decide +kernel) (by kernel_rfl)
theorem eE:entryFor table "set.__iter__" = some Builtin.«frozenset.__iter__» := entryFor_alias (id' := "frozenset.__iter__") (by kernel_rfl) rfl (by decide +kernel) (by kernel_rfl)
theorem Jf (a:Value):argsOk "set_iterator.__next__" ⟨[a],[]⟩:=by unfold argsOk; kernel_rfl
theorem iM (a:Value):argsOk "set_iterator.__iter__" ⟨[a],[]⟩:=by unfold argsOk; kernel_rfl
end Sm
end
section
namespace Sm
open PySem PySem.W PyProof.Rows
noncomputable abbrev Eb (f:Value) (i:Nat) (a:Addr) (n ep:Nat):Obj:={ cls:=.type "set_iterator",data:=.fields #[f,.int i 0,.ref a,.int n 0,.int ep 0] }
theorem Hx {α:Type}:∀ {l:List α} {i:Nat} {x:α},l[i]? = some x->(x::l.eraseIdx i).Perm l
 | [],_,_,h=>by cases h
 | y::l,0,x,h=>by cases h; exact List.Perm.refl _
 | y::l,i+1,x,h=>(List.Perm.swap y x _).trans ((Hx (l:=l) (i:=i) h).cons y)
theorem nK {α:Type} (nx:Nat->Nat):∀ (n k:Nat) (l:List α) (out:Array α),l.length=n->(pickOrder.go nx n k l out).toList.Perm (out.toList++l):=by
 intro iN; induction iN with
 | zero =>
   intro k l out h
   cases List.eq_nil_of_length_eq_zero h
   rw [List.append_nil]; exact List.Perm.refl _
 | succ n ih =>
   intro k l out h; unfold pickOrder.go; have hi:nx k % l.length < l.length:=Nat.mod_lt _ (by lia)
   rw [List.getElem?_eq_getElem hi]; refine (ih (k+1) _ _ (by rw [List.length_eraseIdx_of_lt hi]; lia)).trans ?_
   rw [Array.toList_push,List.append_assoc]; exact List.Perm.append_left _ (Hx (List.getElem?_eq_getElem hi))
theorem Lc {α:Type} (nx:Nat->Nat) (xs:Array α):(pickOrder nx xs).toList.Perm xs.toList:=nK nx xs.size 0 xs.toList #[] (by simp)
section
variable {prog:Program} {w:World} {A:Around} {E:Value->Shared->Prop} {s:Shared}
theorem dI {src:Source} {n:Nat} {Q:Nat->Shared->Prop} (h:n≠0) (hQ:∀ i d,i < n->Q i { s with drawn:=d }):wpAny (model prog w) A (choose src n) Q E s:=fun Γ p hΓ=>by
 unfold choose
 rw [Sem.wp_choose]
 exact ⟨h,hQ _ _ (Nat.mod_lt _ (Nat.pos_of_ne_zero h))⟩
theorem Ik {α:Type}:∀ (n:Nat) (xs:List α) (s:Shared) (Q:List α->Shared->Prop),xs.length=n->(∀ ys d,ys.Perm xs->Q ys { s with drawn:=d })->wpAny (model prog w) A (drawOrder n xs) Q E s
 | 0,xs,s,Q,h,q=>by
   cases List.eq_nil_of_length_eq_zero h
   exact wpAny_pure (q [] s.drawn (List.Perm.refl _))
 | n+1,[],s,Q,h,q=>by cases h
 | n+1,x::xs,s,Q,h,q=>by
   refine wpAny_bind (dI (by simp) fun i d hi=>?_)
   rw [List.getElem?_eq_getElem hi]; refine wpAny_bind (Ik n _ _ _ (by rw [List.length_eraseIdx_of_lt hi]; lia) fun ys d' hp=>wpAny_pure (q _ d' ?_))
   exact (hp.cons _).trans (Hx (List.getElem?_eq_getElem hi))
theorem Pe {a:Addr} {o:Obj} {es:Array (Int×Value)} {ep sl i:Nat} {t:SetTable} {Q:Option (Value×Nat)->Shared->Prop} (hb:w.params.followText "set-order" = true) (ho:s.heap.get? a=some o) (hd:o.data=.set es ep t) (hf:t.fits es.size=true)
   (hQ:Q (((pickOrder (w.params.setOrder a ep) es)[i]?).map fun e=>(e.2,sl)) s):wpAny (model prog w) A (setNext a sl i ep) Q E s:=by
 unfold setNext setWalk setsByText
 refine wpAny_bind (wpAny_setState_of ho hd hf ?_)
 refine wpAny_bind (wpAny_bind (wpAny_askSetting (wpAny_pure ?_)))
 have hb':(model prog w).w.params.followText "set-order" = true:=hb
 simp only [hb',if_true,bne_self_eq_false,Bool.false_eq_true,if_false]
 refine wpAny_bind (wpAny_bind (wpAny_setState_of ho hd hf ?_))
 refine wpAny_bind (wpAny_bind (wpAny_askSetting (wpAny_pure ?_)))
 simp only [hb',if_true]
 exact wpAny_bind (wpAny_askSetting (wpAny_pure (wpAny_pure hQ)))
theorem Sx {a:Addr} {o:Obj} {es:Array (Int×Value)} {ep sl i:Nat} {t:SetTable} {Q:Option (Value×Nat)->Shared->Prop} (hb:w.params.followText "set-order" = false) (ho:s.heap.get? a=some o) (hd:o.data=.set es ep t) (hf:t.fits es.size=true)
   (hdr:(!t.plain&&decide (es.size>1))=false) (hl:t.led=true)
   (hQ:Q (match es[SetTable.below t.place sl]?,t.place[SetTable.below t.place sl]? with | some (_,x),some j=>some (x,j+1) | _,_=>none) s):wpAny (model prog w) A (setNext a sl i ep) Q E s:=by
 unfold setNext setsByText
 refine wpAny_bind (wpAny_setState_of ho hd hf ?_)
 refine wpAny_bind (wpAny_bind (wpAny_askSetting (wpAny_pure ?_)))
 have hb':(model prog w).w.params.followText "set-order" = false:=hb
 simp only [hb',Bool.false_eq_true,if_false]
 refine wpAny_ite_split (fun h=>absurd (show (!t.plain&&decide (es.size>1))=true from h) (by rw [hdr]; decide)) fun _=>wpAny_bind ?_
 show wpAny _ _ (if (!t.led && !es.isEmpty)=true then _ else _) _ _ _
 rw [hl]
 exact wpAny_pure (wpAny_pure hQ)
theorem cP {I a:Addr} {sl i nx ep:Nat} {o:Obj} {es:Array (Int×Value)} {t:SetTable} {x:Value} {Q:Option Value->Shared->Prop} (hit:s.heap.get? I=some (Eb (.int sl 0) i a es.size ep)) (ho:s.heap.get? a=some o) (hd:o.data=.set es ep t) (hf:t.fits es.size=true)
   (hx:∀ (A:Around) (E:Value->Shared->Prop) (Q:Option (Value×Nat)->Shared->Prop),Q (some (x,nx)) s->wpAny (model prog w) A (setNext a sl i ep) Q E s)
   (hQ:∀ h',h'.get? I=some (Eb (.int nx 0) (i+1) a es.size ep)->Heap.SameBut I s.heap h'->Q (some x) { s with heap:=h' }):wpAny (model prog w) A (pyNext (.ref I)) Q E s:=by
 have hT:s.TypeIs (.ref I) "set_iterator" := ⟨_,hit,rfl⟩
 unfold pyNext
 refine wpAny_bind (wpAny_attempt ?_)
 refine wpAny_callSpecial?_slot (name:=Str.ofString "__next__") hT U0 (wpAny_call_entry U0 hT Je ?_ (Jf _))
 unfold Builtin.«set_iterator.__next__» slotArgs
 refine wpAny_bind (wpAny_pure ?_)
 refine wpAny_bind (wpAny_fieldsOf hit rfl ?_)
 refine wpAny_bind (wpAny_setEntries_of ho hd hf ?_)
 simp only [bne_self_eq_false,Bool.false_eq_true,if_false]
 refine wpAny_bind (hx _ _ _ ?_)
 refine wpAny_bind (wpAny_setField_rec hit (by simp) fun h1 q1 b1=>?_)
 refine wpAny_bind (wpAny_setField_rec (s:={ s with heap:=h1 }) q1 (by simp) fun h2 q2 b2=>?_)
 exact wpAny_pure ⟨_,rfl,wpAny_pure (hQ h2 q2 (b1.trans b2))⟩
theorem Xr {A:Around} {I:Addr} {Q:Option Value->Shared->Prop} (hh:A.handled=none) (k:Nat) (hk:k < 5) (y:Value) {h0:Heap} (hq:Heap.ExtBut I h0 s.heap) (hit:∃ vs,s.heap.get? I=some { cls:=.type "set_iterator",data:=.fields vs }/\vs.size=5)
   (hQ:∀ h',Heap.ExtBut I h0 h'->Q none { s with heap:=h' }) :
   wpAny (model prog w) A.in1 (do
       setField (Value.ref I) k y
       let e <- newExc (Value.type "StopIteration") []
       raiseNew e) (fun fin s'=>∃ v,fin=Fin.done (Flow.ret v)/\wpAny (model prog w) A (pure (some v)) Q E s')
     (fun e s' => wpAny (model prog w) A (do
         let d <- isInstance e (Value.type "StopIteration")
         if d=true then pure none else throw e) Q E s') s:=by
 obtain ⟨vs,hit,hv⟩:=hit
 refine wpAny_bind (wpAny_setField_rec hit (by lia) fun h1 q1 b1=>?_)
 refine wpAny_bind ?_
 simp only [newExc,newTuple]
 refine wpAny_bind (wpAny_newObj_type ?_ (by size_fits))
 refine wpAny_bind (m:=firstArgMember _ _) (wpAny_of_eq (a:=Value.none) (by first | rfl | (simp only [firstArgMember]; rfl)) (wpAny_newObj_type ?_ (by size_fits)))
 simp only [raiseNew]
 refine wpAny_bind (wpAny_handled ?_)
 rw [show A.in1.handled=none from hh]
 refine wpAny_bind (wpAny_pure (wpAny_throw (wpAny_bind ?_)))
 refine wpAny_isInstance (T := "StopIteration") (b:=true) ⟨_,Heap.get?_push_size _ rfl,rfl⟩ isSubtype_stop ?_
 exact wpAny_pure (hQ _ (((hq.trans b1.extBut).push _).push _))
theorem lH {I a:Addr} {sl i ep:Nat} {o:Obj} {es:Array (Int×Value)} {t:SetTable} {Q:Option Value->Shared->Prop} (hh:A.handled=none) (hit:s.heap.get? I=some (Eb (.int sl 0) i a es.size ep)) (ho:s.heap.get? a=some o) (hd:o.data=.set es ep t) (hf:t.fits es.size=true)
   (hx:∀ (A:Around) (E:Value->Shared->Prop) (Q:Option (Value×Nat)->Shared->Prop),Q none s->wpAny (model prog w) A (setNext a sl i ep) Q E s)
   (hQ:∀ h',Heap.ExtBut I s.heap h'->Q none { s with heap:=h' }):wpAny (model prog w) A (pyNext (.ref I)) Q E s:=by
 have hT:s.TypeIs (.ref I) "set_iterator" := ⟨_,hit,rfl⟩
 unfold pyNext
 refine wpAny_bind (wpAny_attempt ?_)
 refine wpAny_callSpecial?_slot (name:=Str.ofString "__next__") hT U0 (wpAny_call_entry U0 hT Je ?_ (Jf _))
 unfold Builtin.«set_iterator.__next__» slotArgs
 refine wpAny_bind (wpAny_pure ?_)
 refine wpAny_bind (wpAny_fieldsOf hit rfl ?_)
 refine wpAny_bind (wpAny_setEntries_of ho hd hf ?_)
 simp only [bne_self_eq_false,Bool.false_eq_true,if_false]
 refine wpAny_bind (hx _ _ _ ?_)
 exact Xr hh 2 (by decide) .none (Heap.SameBut.refl I _).extBut ⟨_,hit,rfl⟩ hQ
theorem oD {I a tp:Addr} {i ep pl c:Nat} {o:Obj} {es:Array (Int×Value)} {t:SetTable} {x:Value} {hv:Int} {ps:Array Value} {Q:Option Value->Shared->Prop} (hit:s.heap.get? I=some (Eb (.ref tp) i a es.size ep)) (ho:s.heap.get? a=some o) (hd:o.data=.set es ep t) (hf:t.fits es.size=true)
   (htp:s.heap.get? tp=some { cls:=.type "tuple",data:=.seq ps c }) (hp:ps[i]? = some (.int pl 0)) (hx:es[pl]? = some (hv,x))
   (hQ:∀ h',h'.get? I=some (Eb (.ref tp) (i+1) a es.size ep)->Heap.SameBut I s.heap h'->Q (some x) { s with heap:=h' }):wpAny (model prog w) A (pyNext (.ref I)) Q E s:=by
 have hT:s.TypeIs (.ref I) "set_iterator" := ⟨_,hit,rfl⟩
 unfold pyNext
 refine wpAny_bind (wpAny_attempt ?_)
 refine wpAny_callSpecial?_slot (name:=Str.ofString "__next__") hT U0 (wpAny_call_entry U0 hT Je ?_ (Jf _))
 unfold Builtin.«set_iterator.__next__» slotArgs
 refine wpAny_bind (wpAny_pure ?_)
 refine wpAny_bind (wpAny_fieldsOf hit rfl ?_)
 refine wpAny_bind (wpAny_setEntries_of ho hd hf ?_)
 simp only [bne_self_eq_false,Bool.false_eq_true,if_false]
 refine wpAny_bind (wpAny_seqItems htp rfl ?_)
 simp only [Int.toNat_natCast,hp]
 unfold setNextDrawn
 refine wpAny_bind (wpAny_bind (wpAny_setState_of ho hd hf ?_))
 simp only [bne_self_eq_false,Bool.false_eq_true,if_false,hx]
 refine wpAny_pure ?_
 refine wpAny_bind (wpAny_setField_rec hit (by simp) fun h1 q1 b1=>?_)
 exact wpAny_pure ⟨_,rfl,wpAny_pure (hQ h1 q1 b1)⟩
theorem vM {I a tp:Addr} {i ep c:Nat} {o:Obj} {es:Array (Int×Value)} {t:SetTable} {ps:Array Value} {Q:Option Value->Shared->Prop} (hh:A.handled=none) (hit:s.heap.get? I=some (Eb (.ref tp) i a es.size ep)) (ho:s.heap.get? a=some o) (hd:o.data=.set es ep t) (hf:t.fits es.size=true)
   (htp:s.heap.get? tp=some { cls:=.type "tuple",data:=.seq ps c }) (hp:ps[i]? = none)
   (hQ:∀ h',Heap.ExtBut I s.heap h'->Q none { s with heap:=h' }):wpAny (model prog w) A (pyNext (.ref I)) Q E s:=by
 have hT:s.TypeIs (.ref I) "set_iterator" := ⟨_,hit,rfl⟩
 unfold pyNext
 refine wpAny_bind (wpAny_attempt ?_)
 refine wpAny_callSpecial?_slot (name:=Str.ofString "__next__") hT U0 (wpAny_call_entry U0 hT Je ?_ (Jf _))
 unfold Builtin.«set_iterator.__next__» slotArgs
 refine wpAny_bind (wpAny_pure ?_)
 refine wpAny_bind (wpAny_fieldsOf hit rfl ?_)
 refine wpAny_bind (wpAny_setEntries_of ho hd hf ?_)
 simp only [bne_self_eq_false,Bool.false_eq_true,if_false]
 refine wpAny_bind (wpAny_seqItems htp rfl ?_)
 simp only [Int.toNat_natCast,hp]
 refine wpAny_bind (wpAny_setField_rec hit (by simp) fun h1 q1 b1=>?_)
 exact Xr (s:={ s with heap:=h1 }) hh 2 (by decide) .none b1.extBut ⟨_,q1,rfl⟩ hQ
theorem Us {I a:Addr} {f:Value} {i n ep:Nat} {Q:Value->Shared->Prop} (hit:s.heap.get? I=some (Eb f i a n ep)) (h:Q (.ref I) s):wpAny (model prog w) A (pyIter (.ref I)) Q E s:=by
 have hT:s.TypeIs (.ref I) "set_iterator" := ⟨_,hit,rfl⟩
 refine wpAny_pyIter_slot hT cF (wpAny_call_entry cF hT iL ?_ (iM _))
 show wpAny _ _ (ret (.ref I)) _ _ s
 exact wpAny_pure ⟨_,rfl, "set_iterator",_,hT,U0.lookup,h⟩
theorem mF (hh:A.handled=none) (I a tp:Addr) (h1:a≠I) (h2:tp≠I) (o:Obj) (es:Array (Int×Value)) (ep c:Nat) (t:SetTable) (hd:o.data=.set es ep t) (hf:t.fits es.size=true) (pl:List Nat) (hl:pl.length=es.size) (hp:∀ j∈pl,j < es.size) :
   Walks prog w A I [I,a,tp] [I] es.size (fun i v=>(pl.map fun j=>(es[j]?.map (·.2)).getD .none)[i]? = some v) (fun i h=>h.get? I=some (Eb (.ref tp) i a es.size ep)/\h.get? a=some o/\h.get? tp=some { cls:=.type "tuple",data:=.seq ((pl.map fun j:Nat=>Value.int (j:Int) 0).toArray) c }) where
 sub:=fun b hb=>by simp at hb; simp [hb]
 frame:=fun _ _ _ st hk=>⟨hk I (by simp) _ st.1,hk a (by simp) _ st.2.1,hk tp (by simp) _ st.2.2⟩
 item:=fun i s Q E hi st hQ=>by
   have hi':i < pl.length:=by lia
   have hj:=hp pl[i] (List.getElem_mem hi'); refine oD (pl:=pl[i]) (hv:=es[pl[i]].1) (x:=es[pl[i]].2) st.1 st.2.1 hd hf st.2.2 (by simp [hi']) (by simp [hj]) fun h' q b=>?_
   refine hQ _ h' s.toks ?_ ⟨q,b.extBut a _ h1 st.2.1,b.extBut tp _ h2 st.2.2⟩ fun b' o' hb e=>b.extBut b' o' (fun z=>hb (by simp [z])) e
   simp [hi',hj]
 done:=fun s Q E st hQ=>vM hh st.1 st.2.1 hd hf st.2.2 (by simp [hl]) fun h' he=>hQ h' s.toks fun b o hb e=>he b o (fun z=>hb (by simp [z])) e
 self:=fun _ _ _ _ st hQ=>Us st.1 hQ
theorem mC (hh:A.handled=none) (I a:Addr) (h1:a≠I) (o:Obj) (es:Array (Int×Value)) (ep:Nat) (t:SetTable) (hd:o.data=.set es ep t) (hf:t.fits es.size=true) (hb:w.params.followText "set-order" = true) :
   Walks prog w A I [I,a] [I] es.size (fun i v=>((pickOrder (w.params.setOrder a ep) es).toList.map (·.2))[i]? = some v) (fun i h=>h.get? I=some (Eb (.int 0 0) i a es.size ep)/\h.get? a=some o) where
 sub:=fun b hb=>by simp at hb; simp [hb]
 frame:=fun _ _ _ st hk=>⟨hk I (by simp) _ st.1,hk a (by simp) _ st.2⟩
 item:=fun i s Q E hi st hQ=>by
   have hsz:(pickOrder (w.params.setOrder a ep) es).size=es.size:=by rw [<- Array.length_toList,(Lc _ es).length_eq,Array.length_toList]
   have hi':i < (pickOrder (w.params.setOrder a ep) es).size:=by lia
   refine cP (sl:=0) (nx:=0) (x:=(pickOrder (w.params.setOrder a ep) es)[i].2) st.1 st.2 hd hf (fun A E Q q=>Pe hb st.2 hd hf ?_) fun h' q b=>?_
   . rw [Array.getElem?_eq_getElem hi']; exact q
   refine hQ _ h' s.toks ?_ ⟨q,b.extBut a _ h1 st.2⟩ fun b' o' hb e=>b.extBut b' o' (fun z=>hb (by simp [z])) e
   simp [hi']
 done:=fun s Q E st hQ=>by
   have hsz:(pickOrder (w.params.setOrder a ep) es).size=es.size:=by rw [<- Array.length_toList,(Lc _ es).length_eq,Array.length_toList]
   refine lH (sl:=0) hh st.1 st.2 hd hf (fun A E Q q=>Pe hb st.2 hd hf ?_) fun h' he=>hQ h' s.toks fun b o hb e=>he b o (fun z=>hb (by simp [z])) e
   rw [Array.getElem?_eq_none (by lia)]; exact q
 self:=fun _ _ _ _ st hQ=>Us st.1 hQ
noncomputable def Pg (xs:Array Nat):Nat->Nat
 | 0=>0
 | i+1=>xs.getD i 0+1
theorem Za {xs:Array Nat} (hr:xs.toList.Pairwise (· < ·)):∀ {i:Nat},i<=xs.size->SetTable.below xs (Pg xs i)=i:=fun {i} hi=>by
 obtain ⟨h1,h2,h3⟩:=Bh xs (Pg xs i) hr
 have ge:∀ k d,k < xs.size->xs.getD k d=xs.getD k 0:=fun k d hk=>by simp [Array.getD,hk]
 rcases Nat.lt_trichotomy (SetTable.below xs (Pg xs i)) i with hl | hl | hl
 . have e:=h3 _ (Nat.le_refl _) (Nat.lt_of_lt_of_le hl hi)
   cases i with
   | zero=>lia
   | succ i =>
     rw [ge _ _ (by lia)] at e; rw [show Pg xs (i+1)=xs.getD i 0+1 from rfl] at e hl; rcases Nat.lt_or_ge (SetTable.below xs (xs.getD i 0+1)) i with z | z
     . have:=Cu hr (d:=0) z (by lia); lia
     . have z2:SetTable.below xs (xs.getD i 0+1)=i:=by lia
       rw [z2] at e; lia
 . exact hl
 . have e:=h2 i hl
   rw [ge _ _ (by lia)] at e
   cases i with
   | zero=>exact absurd e (Nat.not_lt_zero _)
   | succ i=>rw [show Pg xs (i+1)=xs.getD i 0+1 from rfl] at e; have:=Cu hr (d:=0) (show i < i+1 by lia) (by lia); lia
theorem mE (hh:A.handled=none) (I a:Addr) (h1:a≠I) (o:Obj) (es:Array (Int×Value)) (ep:Nat) (t:SetTable) (hd:o.data=.set es ep t) (hf:t.fits es.size=true) (hb:w.params.followText "set-order" = false) (hdr:(!t.plain&&decide (es.size>1))=false) (hl:t.led=true) (hr:t.place.toList.Pairwise (· < ·)) :
   Walks prog w A I [I,a] [I] es.size (fun i v=>(es.toList.map (·.2))[i]? = some v) (fun i h=>h.get? I=some (Eb (.int (Pg t.place i) 0) i a es.size ep)/\h.get? a=some o) where
 sub:=fun b hb=>by simp at hb; simp [hb]
 frame:=fun _ _ _ st hk=>⟨hk I (by simp) _ st.1,hk a (by simp) _ st.2⟩
 item:=fun i s Q E hi st hQ=>by
   have hsz:t.place.size=es.size:=by unfold SetTable.fits at hf; simp at hf; exact hf.1
   have hi':i < t.place.size:=by lia
   refine cP (sl:=Pg t.place i) (nx:=Pg t.place (i+1)) (x:=es[i].2) st.1 st.2 hd hf (fun A E Q q=>Sx hb st.2 hd hf hdr hl ?_) fun h' q b=>?_
   . rw [Za hr (by lia),Array.getElem?_eq_getElem hi,Array.getElem?_eq_getElem hi']
     have:Pg t.place (i+1)=t.place[i]+1:=by unfold Pg; simp [Array.getD,hi']
     rw [this] at q; exact q
   refine hQ _ h' s.toks ?_ ⟨q,b.extBut a _ h1 st.2⟩ fun b' o' hb e=>b.extBut b' o' (fun z=>hb (by simp [z])) e
   simp [hi]
 done:=fun s Q E st hQ=>by
   have hsz:t.place.size=es.size:=by unfold SetTable.fits at hf; simp at hf; exact hf.1
   refine lH (sl:=Pg t.place es.size) hh st.1 st.2 hd hf (fun A E Q q=>Sx hb st.2 hd hf hdr hl ?_) fun h' he=>hQ h' s.toks fun b o hb e=>he b o (fun z=>hb (by simp [z])) e
   rw [Za hr (by lia),Array.getElem?_eq_none (Nat.le_refl _)]; exact q
 self:=fun _ _ _ _ st hQ=>Us st.1 hQ
end
end Sm
end
section
namespace Sm
open PySem PySem.W PyProof.Rows
def qJ (w:World) (t:SetTable):Prop:=t.led = !(w.params.followText "set-order")/\t.dummies = #[]/\t.place.toList.Pairwise (· < ·)
theorem eN {es:Array (Int×Value)} {pl:List Nat} (h:pl.Perm (List.range es.size)):(pl.map fun j=>(es[j]?.map (·.2)).getD .none).Perm (es.toList.map (·.2)):=by
 refine (h.map _).trans ?_
 have:(List.range es.size).map (fun j=>(es[j]?.map (·.2)).getD .none)=es.toList.map (·.2):=by
   apply List.ext_getElem
   . simp
   . intro i h1 h2
     simp at h1
     simp [h1]
 rw [this]
section
variable {prog:Program} {w:World} {A:Around} {E:Value->Shared->Prop} {s:Shared}
theorem kP {a:Addr} {o:Obj} {es:Array (Int×Value)} {ep:Nat} {t:SetTable} {Q:Value->Shared->Prop} (ho:s.heap.get? a=some o) (hex:o.ExactSet) (hd:o.data=.set es ep t) (hf:t.fits es.size=true) (ht:qJ w t) (hz:es.size<=4096) (hh:A.handled=none)
   (hQ:∀ (h1:Heap) (d1:Drawn) (I:Addr) (fp:List Addr) (ord:List Value) (St:Nat->Heap->Prop),(∀ b o,s.heap.get? b=some o->h1.get? b=some o)->s.heap.get? I=none->(∀ b∈fp,b=a\/s.heap.get? b=none)->ord.Perm (es.toList.map (·.2)) ->
     Walks prog w A I fp [I] es.size (fun i v=>ord[i]? = some v) St->St 0 h1->Q (.ref I) { s with heap:=h1,drawn:=d1 }):wpAny (model prog w) A (pyIter (.ref a)) Q E s:=by
 have hT:s.TypeIs (.ref a) "set" := ⟨o,ho,hex.1⟩
 have hlt:a < s.heap.objs.size:=Heap.lt_size ho
 refine wpAny_pyIter_slot hT F.slot_set_iter (wpAny_call_entry F.slot_set_iter hT eE ?_ (F.args_set_iter_1 _))
 unfold Builtin.«frozenset.__iter__» Builtin.Frozenset.slot0 slotArgs Builtin.Frozenset.sizeOf setDrawn setsByText setEpoch
 refine wpAny_bind (wpAny_bind (wpAny_pure (wpAny_pure ?_)))
 refine wpAny_bind (wpAny_bind (wpAny_setEntries_of ho hd hf (wpAny_pure ?_)))
 refine wpAny_bind (wpAny_bind (wpAny_setState_of ho hd hf ?_))
 refine wpAny_bind (wpAny_bind (wpAny_askSetting (wpAny_pure (wpAny_pure ?_))))
 show wpAny _ _ (if (!(w.params.followText "set-order")&&(!t.plain&&decide (es.size>1)))=true then _ else _) _ _ _
 cases hb:w.params.followText "set-order" with
 | true =>
   refine wpAny_ite_split (fun h=>by cases h) fun _=>wpAny_bind (wpAny_pure ?_)
   refine wpAny_bind (wpAny_bind (wpAny_setState_of ho hd hf (wpAny_pure ?_))); refine wpAny_bind (wpAny_newObj_type (wpAny_pure ⟨_,rfl, "set_iterator",_,⟨_,Heap.get?_push_size _ rfl,rfl⟩,U0.lookup,?_⟩)); exact hQ (s.heap.push (Eb (.int 0 0) 0 a es.size ep)) s.drawn s.heap.objs.size _ _ _ (fun b o e=>Heap.get?_push_of_some _ e) (Heap.get?_none_of_le (Nat.le_refl _)) (fun b hb=>by
     rcases List.mem_cons.mp hb with rfl | hb
     . exact .inr (Heap.get?_none_of_le (Nat.le_refl _))
     . exact .inl (List.mem_singleton.mp hb)) ((Lc _ es).map _) (mC hh _ a (Nat.ne_of_lt hlt) o es ep t hd hf hb) ⟨Heap.get?_push_size _ rfl,Heap.get?_push_of_some _ ho⟩
 | false =>
   have hl:t.led=true:=by rw [ht.1,hb]; rfl
   cases hp:(!t.plain&&decide (es.size>1)) with
   | false =>
     refine wpAny_ite_split (fun h=>by cases h) fun _=>wpAny_bind (wpAny_pure ?_)
     refine wpAny_bind (wpAny_bind (wpAny_setState_of ho hd hf (wpAny_pure ?_))); refine wpAny_bind (wpAny_newObj_type (wpAny_pure ⟨_,rfl, "set_iterator",_,⟨_,Heap.get?_push_size _ rfl,rfl⟩,U0.lookup,?_⟩)); exact hQ (s.heap.push (Eb (.int 0 0) 0 a es.size ep)) s.drawn s.heap.objs.size _ _ _ (fun b o e=>Heap.get?_push_of_some _ e) (Heap.get?_none_of_le (Nat.le_refl _)) (fun b hb=>by
       rcases List.mem_cons.mp hb with rfl | hb
       . exact .inr (Heap.get?_none_of_le (Nat.le_refl _))
       . exact .inl (List.mem_singleton.mp hb)) (List.Perm.refl _) (mE hh _ a (Nat.ne_of_lt hlt) o es ep t hd hf hb hp hl ht.2.2) ⟨Heap.get?_push_size _ rfl,Heap.get?_push_of_some _ ho⟩
   | true =>
     refine wpAny_ite_split (fun _=>?_) fun h=>absurd rfl h
     refine wpAny_bind (Ik _ _ _ _ (by simp) fun pl d hpl=>?_)
     unfold newTuple; have hplen:pl.length=es.size:=by rw [hpl.length_eq]; simp
     refine wpAny_bind (wpAny_newObj_type ?_ (by show (List.toArray _).size<=_; rw [sizeLine_eq]; simp; lia))
     refine wpAny_bind (wpAny_bind (wpAny_setState_of (s:={ s with heap:=s.heap.push _,drawn:=d }) (Heap.get?_push_of_some _ ho) hd hf (wpAny_pure ?_))); refine wpAny_bind (wpAny_newObj_type (wpAny_pure ⟨_,rfl, "set_iterator",_,⟨_,Heap.get?_push_size _ rfl,rfl⟩,U0.lookup,?_⟩)); have hsz:∀ o:Obj,(s.heap.push o).objs.size=s.heap.objs.size+1:=fun o=>Heap.size_push ..
     refine hQ _ d _ [(s.heap.push { cls:=.type "tuple",data:=.seq ((pl.map fun j:Nat=>Value.int (j:Int) 0).toArray) 0 }).objs.size,a,s.heap.objs.size] _ _ (fun b o e=>Heap.get?_push_of_some _ (Heap.get?_push_of_some _ e)) (Heap.get?_none_of_le (by rw [hsz]; lia)) (fun b hb=>?_) (eN hpl)
       (mF hh _ a s.heap.objs.size (by rw [hsz]; exact Nat.ne_of_lt (Nat.lt_succ_of_lt hlt)) (by rw [hsz]; exact Nat.ne_of_lt (Nat.lt_succ_self _)) o es ep 0 t hd hf pl hplen (fun j hj=>List.mem_range.mp (hpl.mem_iff.mp hj))) ⟨Heap.get?_push_size _ rfl,Heap.get?_push_of_some _ (Heap.get?_push_of_some _ ho),Heap.get?_push_of_some _ (Heap.get?_push_size _ rfl)⟩
     rcases List.mem_cons.mp hb with rfl | hb
     . exact .inr (Heap.get?_none_of_le (by rw [hsz]; lia))
     rcases List.mem_cons.mp hb with rfl | hb
     . exact .inl rfl
     . rw [List.mem_singleton.mp hb]; exact .inr (Heap.get?_none_of_le (Nat.le_refl _))
end
end Sm
end
section
namespace Sm
open PySem PySem.W PyProof.Rows
section
variable {prog:Program} {w:World} {A:Around} {E:Value->Shared->Prop} {s:Shared}
theorem kX {r:Addr} {Q:Bool->Shared->Prop} (hT:s.TypeIs (.ref r) "set") (h:Q false s):wpAny (model prog w) A (Builtin.List.listLengthHint (.ref r)) Q E s:=by
 unfold Builtin.List.listLengthHint
 refine wpAny_bind (wpAny_specialOf hT PySem.F.slot_set_len.lookup ?_)
 generalize hid:("set.__len__" : String)=z
 wp_delta
 rw [show splitId z=some ("set", "__len__") from by subst hid; decide +kernel]
 subst hid
 refine wpAny_bind (wpAny_isInstance (T := "set") (b:=true) hT (by rw [isSubtype_type]; kernel_rfl) ?_)
 refine wpAny_ite_split (fun hab=>absurd hab (by decide)) (fun _=>wpAny_ite_split (fun _=>?_) (fun hab=>absurd (by decide +kernel) hab))
 exact wpAny_bind (wpAny_typeOf hT (wpAny_pure h))
theorem Yt {a:Addr} {o:Obj} {es:Array (Int×Value)} {ep:Nat} {t:SetTable} {Q:List Value->Shared->Prop} (ho:s.heap.get? a=some o) (hex:o.ExactSet) (hd:o.data=.set es ep t) (hf:t.fits es.size=true) (ht:qJ w t) (hz:es.size<=4096) (hh:A.handled=none)
   (hQ:∀ (h1:Heap) (d1:Drawn) tk (ord:List Value),(∀ b o,s.heap.get? b=some o->h1.get? b=some o)->ord.Perm (es.toList.map (·.2))->Q ord { s with heap:=h1,drawn:=d1,toks:=tk }):wpAny (model prog w) A (collect (.ref a)) Q E s:=by
 have hlt:a < s.heap.objs.size:=Heap.lt_size ho
 have hzl:es.size<=sizeLine:=by rw [sizeLine_eq]; omega
 have hnS:s.heap.get? s.heap.objs.size=none:=Heap.get?_none_of_le (Nat.le_refl _)
 let hp:=s.heap.push { cls:=.type "list",data:=.seq ([]:List Value).toArray }
 have hS:hp.get? s.heap.objs.size=some { cls:=.type "list",data:=.seq #[] 0 }:=Heap.get?_push_size _ rfl
 have ho':hp.get? a=some o:=Heap.get?_push_of_some _ ho
 unfold collect
 refine wpAny_bind (wpAny_runValue (codeAny_builtin F.entry_proto_collect ?_))
 rw [Around.under_plainId F.plain_proto_collect _]
 refine wpAny_bind (wpAny_newObj_type (wpAny_pure ⟨plainId_quiet F.plain_list_iadd _,codeAny_builtin F.entry_list_iadd ?_⟩))
 rw [Around.under_plainId F.plain_list_iadd _]
 show wpAny _ _ (Builtin.List.listExtendWith (.ref s.heap.objs.size) (.ref a) (.ref s.heap.objs.size)) _ _ { s with heap:=hp }
 unfold Builtin.List.listExtendWith
 have hT:Shared.TypeIs { s with heap:=hp } (.ref a) "set" := ⟨o,ho',hex.1⟩
 refine wpAny_bind (wpAny_typeOf hT ?_)
 have h1:Builtin.List.listSameRef (.ref s.heap.objs.size) (.ref a)=false:=by simp [Builtin.List.listSameRef]; exact Nat.ne_of_gt hlt
 rw [h1,show (Value.type "set" == Value.type "list")=false from by decide,show (Value.type "set" == Value.type "tuple")=false from by decide]
 simp only [Bool.or_false,Bool.false_eq_true,if_false]
 refine wpAny_bind (kP (s:={ s with heap:=hp }) ho' hex hd hf ht hz hh fun h1 d1 I fp ord St hk hI hfp hord W st=>?_)
 refine wpAny_bind (wpAny_holding (kX (s:={ s with heap:=h1,drawn:=d1 }) ⟨o,hk _ _ ho',hex.1⟩ ?_))
 have hS1:=hk _ _ hS
 have hSf:s.heap.objs.size∉fp:=fun hb=>by
   rcases hfp _ hb with e | e
   . exact absurd (show s.heap.objs.size=a from e) (Nat.ne_of_gt hlt)
   . rw [show hp.get? s.heap.objs.size=none from e] at hS; cases hS
 have key : ∀ (h : Heap) (c : Nat), St 0 h -> (∀ b o, s.heap.get? b = some o -> h.get? b = some o) -> h.get? s.heap.objs.size = some { cls := .type "list", data := .seq #[] c } ->
     codeAny (model prog w) A (.builtin "list.extend.loop" ⟨[.ref s.heap.objs.size,.ref I,.ref s.heap.objs.size],[]⟩) (wants (fun v s'=>v=.ref s.heap.objs.size/\∃ h1 d1 tk acc c',s'={ s with heap:=h1,drawn:=d1,toks:=tk }/\(∀ b o,s.heap.get? b=some o->h1.get? b=some o)/\h1.get? s.heap.objs.size=some { cls:=.type "list",dict:=none,data:=.seq acc c',slots := #[] }/\ItemsOf (fun i v=>ord[i]? = some v) acc es.size) E) { s with heap:=h,drawn:=d1 }:=by
   intro h c hst hk2 hc; refine codeAny_extend_loopS W.toS hzl s.heap.objs.size hSf (.ref s.heap.objs.size) es.size 0 _ #[] c rfl (Nat.zero_le _) hst hc (ItemsOf.nil _) fun s' acc' c' hm hS' hacc=>?_
   rw [Moved.eq_with hm]; refine ⟨rfl,s'.heap,d1,s'.toks,acc',c',rfl,fun b o e=>hm.heap b o (fun hmem=>?_) (hk2 b o e),hS',hacc⟩
   rcases List.mem_cons.mp hmem with e' | hmem
   . rw [e',hnS] at e; cases e
   . have hI':hp.get? I=none:=hI
     rw [List.mem_singleton.mp hmem] at e; rw [show hp.get? I=some o from Heap.get?_push_of_some _ e] at hI'; cases hI'
 have fin : ∀ (r : Result) (s' : Shared), wants (fun v s' => v = .ref s.heap.objs.size /\ ∃ h1 d1 tk acc c', s' = { s with heap := h1, drawn := d1, toks := tk } /\ (∀ b o, s.heap.get? b = some o -> h1.get? b = some o) /\ h1.get? s.heap.objs.size = some { cls := .type "list", dict := none, data := .seq acc c', slots := #[] } /\ ItemsOf (fun i v => ord[i]? = some v) acc es.size) E r s' ->
     wants (fun v s'=>wpAny (model prog w) A (match v with | .ref a=>load a>>=fun o=>(match o.data with | .seq xs _=>pure xs.toList | _=>unsupported "internal:collect") | _=>unsupported "internal:collect") Q E s') E r s':=fun r s' h=>by
   cases r with
   | error e=>exact h
   | ok fl =>
     cases fl with
     | ret v =>
       obtain ⟨rfl,h2,d2,tk,acc,c',rfl,hk2,hS2,hacc⟩:=h; refine wpAny_bind (wpAny_load hS2 (wpAny_pure ?_)); have:acc.toList=ord:=by
         have hol:ord.length=es.size:=by rw [hord.length_eq]; simp
         apply List.ext_getElem?
         intro j
         by_cases hj:j < es.size
         . have hja:j < acc.size:=by rw [hacc.1]; exact hj
           rw [hacc.2 j acc[j] (by simp [hja])]; simp [hja]
         . rw [List.getElem?_eq_none (by simpa [hacc.1] using Nat.not_lt.mp hj),List.getElem?_eq_none (by omega)]
       rw [this]; exact hQ h2 d2 tk ord hk2 hord
     | _=>exact h
 refine wpAny_ite_split (fun _=>?_) fun _=>wpAny_pure ⟨plainId_quiet F.plain_extend_loop _,codeAny_mono (key h1 0 st (fun b o e=>hk b o (Heap.get?_push_of_some _ e)) hS1) fin⟩
 refine wpAny_bind (wpAny_rule (wpAny_bind ?_))
 show wpAny _ _ (updateSeq s.heap.objs.size (·.push .none)>>=fun _=>updateSeq s.heap.objs.size (·.pop)) _ _ _
 refine wpAny_bind (wpAny_updateSeq (s:={ s with heap:=h1,drawn:=d1 }) hS1 rfl ?_)
 have u2:=Heap.get?_update_self (Obj.mapSeq (·.push Value.none)) hS1 rfl
 refine wpAny_updateSeq (hz:=by seq_fits) u2 rfl ?_
 have u3:=Heap.get?_update_self (Obj.mapSeq (·.pop)) u2 rfl
 have oth:∀ b o,b≠s.heap.objs.size->h1.get? b=some o->((h1.update s.heap.objs.size (Obj.mapSeq (·.push Value.none))).update s.heap.objs.size (Obj.mapSeq (·.pop))).get? b=some o:=fun b o hb e=>by rw [Heap.get?_update_other _ _ (Ne.symm hb),Heap.get?_update_other _ _ (Ne.symm hb)]; exact e
 refine wpAny_pure ⟨plainId_quiet F.plain_extend_loop _,codeAny_mono (key _ _ (W.frame 0 _ _ st fun b hb o e=>oth b o (fun z=>hSf (z▸hb)) e) (fun b o e=>oth b o (fun z=>?_) (hk b o (Heap.get?_push_of_some _ e))) u3) fin⟩
 rw [z,hnS] at e; cases e
end
end Sm
end
section
namespace Sm
open PySem PySem.W PyProof.Rows
end Sm
end
section
namespace Sm
open PySem PySem.W PyProof.Rows
section
variable {K:Type} [DecidableEq K]
noncomputable def Ly (l:List K) (k:K):List K:=if k∈l then l else l++[k]
noncomputable def kE (ks:Nat->K):Nat->List K
 | 0=>[]
 | i+1=>Ly (kE ks i) (ks i)
theorem kD (ks:Nat->K):∀ i,(kE ks i).length<=i:=by
 intro iN; induction iN with
 | zero=>skip; exact Nat.le_refl _
 | succ i ih =>
   skip
   have:=ih; unfold kE Ly
   split
   . lia
   . simp; lia
end
section
variable {prog:Program} {w:World} {A:Around} {E:Value->Shared->Prop} {s:Shared}
noncomputable abbrev Dg (w:World):Obj:={ cls:=.type "set",dict:=none,data:=.set #[] 0 (.fresh 0 0 (!(w.params.followText "set-order"))) }
theorem Xz (a:Value) {Q₁:Value->Shared->Prop} (h:Q₁ (.ref s.heap.objs.size) { s with heap:=s.heap.push (Dg w) }):codeAny (model prog w) A (.call (.builtin "set.__new__") ⟨[.type "set",a],[]⟩) (wants Q₁ E) s:=by
 refine codeAny_of_tree (wpAny_bind (wpAny_of_eq (F.newCall_set_1 a) (wpAny_pure ⟨plainId_quiet F.plain_set_new _,codeAny_builtin F.entry_set_new ?_⟩)))
 rw [Around.under_plainId F.plain_set_new _]
 unfold Builtin.«set.__new__» Builtin.Frozenset.newClass
 have hsub:=sub_set_self
 obtain ⟨hp,g,d,tk,os⟩:=s
 wp_walk
 refine wpAny_askSetting (wpAny_pure ?_)
 dsimp only
 simp only [newObj]
 exact wpAny_bind (wpAny_alloc (wpAny_pure (wpAny_pure h)))
end
end Sm
end
section
namespace Sm
open PySem PySem.SetTable PyProof.Rows L2
noncomputable def Elems.res {prog:Program} {w:World} {A:Around} {E:Value->Shared->Prop} {a:Addr} (B:Elems prog w A E a) (Z:Value->B.D->Prop):Elems prog w A E a where
 D:=B.D
 dec:=B.dec
 I:=B.I
 R:=fun v d=>B.R v d/\Z v d
 hash:=B.hash
 heap:=B.heap
 toks:=B.toks
 ref:=fun r=>B.ref r.1
 eqB:=fun i y x q=>B.eqB i y.1 x.1 q
 byV:=fun i x q=>B.byV i x.1 q
 seen:=fun i x ys q=>B.seen i x.1 (fun y hy=>let ⟨d,r⟩:=ys y hy; ⟨d,r.1⟩) q
section
variable {prog:Program} {w:World} {A:Around} {R:Result->Shared->Prop} {I:Addr} {fp wr:List Addr} {G:Array GenState->Array GenState->Prop} {n:Nat} {P:Nat->Value->Prop} {St:Nat->Shared->Prop}
theorem rK (W:WalksS prog w A.in1 I fp wr G n P St) (S:Addr) (hSf:S∉fp) {h0:Heap} (ha:h0.get? S=none) (hw:∀ b,b∈wr->h0.get? b=none) (hu:A.in1.units+8 < cLine)
   (Z:Value->PyData->Prop) (ds:Nat->PyData) (hval:∀ i v,P i v->KeyIn h0 v (ds i)/\Z v (ds i)) (hn:n<=300) (ld:Bool) :
   ∀ (k i:Nat) (s:Shared),n - i=k->i<=n->St i s ->
     SetIn ((Bf prog w A.in1 (fun e s=>R (.error e) s) h0 S ha hu).res Z) ld s (Y5 ds i) ->
     (∀ s',Moved (S::wr) G s s'->SetIn ((Bf prog w A.in1 (fun e s=>R (.error e) s) h0 S ha hu).res Z) ld s' (Y5 ds n)->R (.ok (.ret .none)) s') ->
     codeAny (model prog w) A (.builtin "set.update.loop" ⟨[.ref S,.ref I],[]⟩) R s:=by
 have hSw:S∉wr:=fun h=>hSf (W.sub _ h)
 have hsub:∀ b∈wr,b∈S::wr:=fun b hb=>List.mem_cons_of_mem _ hb
 have keep:∀ {s s':Shared} {L:List PyData},Moved wr G s s'->SetIn ((Bf prog w A.in1 (fun e s=>R (.error e) s) h0 S ha hu).res Z) ld s L->SetIn ((Bf prog w A.in1 (fun e s=>R (.error e) s) h0 S ha hu).res Z) ld s' L:=by
   intro s s' L hm X; refine X.move (fun b o e=>?_) fun o e=>hm.heap S o hSw e
   exact hm.heap b o (fun hb=>by rw [hw b hb] at e; exact nomatch e) (X.inv b o e)
 intro k
 induction k with
 | zero =>
   intro i s hk hi hst hS hR; have hin:i=n:=by lia
   subst hin; refine codeAny_builtin F.entry_set_update_loop ?_; rw [Around.under_plainId F.plain_set_update_loop _]; show wpAny _ A.in1 (pyNext (.ref I)>>=_) _ _ s
   refine wpAny_bind (W.done s _ _ hst fun s' hm=>?_)
   show wpAny _ A.in1 (ret Value.none) _ _ s'
   exact wpAny_pure (hR s' (hm.mono hsub) (keep hm hS))
 | succ k ih =>
   intro i s hk hi hst hS hR; have hlt:i < n:=by lia
   refine codeAny_builtin F.entry_set_update_loop ?_; rw [Around.under_plainId F.plain_set_update_loop _]; show wpAny _ A.in1 (pyNext (.ref I)>>=_) _ _ s
   refine wpAny_bind (W.item i s _ _ hlt hst fun v s' hP hst' hm=>?_)
   obtain ⟨hK,hZ⟩:=hval i v hP; have hS':=keep hm hS; show wpAny _ A.in1 (holding [v] (setAdd S v)>>=_) _ _ s'
   refine wpAny_bind (wpAny_holding ?_); unfold setAdd; refine wpAny_holding ?_; obtain ⟨as,rd⟩:=hK.rd; refine wpAny_bind (Pv (ds i) v as A.in1 s' _ hK.k (Reads.keep hS'.inv hK.k rd) (by have:=hK.dp; lia) fun tk htk=>?_)
   have hS1:SetIn ((Bf prog w A.in1 (fun e s=>R (.error e) s) h0 S ha hu).res Z) ld { s' with toks:=tk } (Y5 ds i):=hS'.move hS'.inv fun o e=>e
   have hlen:(Y5 ds i).length < 306:=Nat.lt_of_le_of_lt (kC ds i) (by lia)
   refine sE (B:=(Bf prog w A.in1 (fun e s=>R (.error e) s) h0 S ha hu).res Z) (d:=ds i) hS1 ⟨hK,hZ⟩ hlen ?_ ?_
   . intro hin
     have e:Y5 ds (i+1)=Y5 ds i:=Wo hin; refine wpAny_pure ⟨plainId_quiet F.plain_set_update_loop _,ih (i+1) _ (by lia) hlt (W.frame _ s' _ _ hst' htk fun b hb o e=>e) (by rw [e]; exact hS1) fun s'' hm'' hS''=>?_⟩
     exact hR s'' (Moved.trans W.gtrans ((hm.mono hsub).then_heap htk fun b o hb e=>e) hm'') hS''
   . intro hout h' hsb hS2
     have e:Y5 ds (i+1)=ds i::Y5 ds i:=Qw hout; refine wpAny_pure ⟨plainId_quiet F.plain_set_update_loop _,ih (i+1) _ (by lia) hlt (W.frame _ s' _ _ hst' htk fun b hb o e=>?_) (by rw [e]; exact hS2) fun s'' hm'' hS''=>?_⟩
     . rw [hsb.2 b (fun h:b=S=>hSf (by rw [<- h]; exact hb))]; exact e
     . refine hR s'' (Moved.trans W.gtrans ((hm.mono hsub).then_heap htk fun b o hb e=>?_) hm'') hS''
       rw [hsb.2 b (fun h:b=S=>hb (by rw [h]; exact List.mem_cons_self))]; exact e
end
theorem Sz (h:Heap):h.get? h.objs.size=none:=Heap.get?_none_of_le (Nat.le_refl _)
theorem Pw (led:Bool):Good (SetTable.fresh 0 0 led) #[] :=
 ⟨rfl,List.Pairwise.nil,(fun j hj=>nomatch hj),rfl,rfl,Nat.zero_le _,fun i j h e _=>by simp [SetTable.fresh] at e⟩
def bR (w:World) (Z:Value->PyData->Prop) (h:Heap) (a:Addr) (L:List PyData):Prop :=
 ∃ o es ep t,∃ ds:List PyData,h.get? a=some o/\o.ExactSet/\o.data=.set es ep t/\t.fits es.size=true/\qJ w t/\ds.Perm L/\ds.length=es.size/\∀ (i:Nat) e d,es[i]? = some e->ds[i]? = some d->Z e.2 d
theorem iP {es:Array (Int×Value)} {zs:List ((Int×Value)×PyData)} {Z:Value->PyData->Prop} (hes:es.toList=zs.map (·.1)) (hr:∀ z∈zs,Z z.1.2 z.2):(zs.map (·.2)).length=es.size/\∀ (i:Nat) e d,es[i]? = some e->(zs.map (·.2))[i]? = some d->Z e.2 d:=by
 refine ⟨by rw [List.length_map,<- Array.length_toList,hes,List.length_map],fun i e d h1 h2=>?_⟩
 rw [<- Array.getElem?_toList,hes,List.getElem?_map] at h1
 rw [List.getElem?_map] at h2
 cases hz:zs[i]? with
 | none=>rw [hz] at h1; cases h1
 | some z =>
   rw [hz] at h1 h2
   cases h1; cases h2
   exact hr z (List.mem_of_getElem? hz)
theorem cG {prog:Program} {w:World} {A:Around} {E:Value->Shared->Prop} {s:Shared} {h0:Heap} {a:Addr} {ha:h0.get? a=none} {hu:A.units+8 < cLine} {Z:Value->PyData->Prop} {L:List PyData}
   (S:SetIn ((Bf prog w A E h0 a ha hu).res Z) (!(w.params.followText "set-order")) s L):bR w Z s.heap a L:=by
 obtain ⟨o,es,ep,t,zs,T,hp,hf⟩:=S
 have hsz:t.place.size=es.size:=by have:=T.good.siz; simpa using this
 obtain ⟨a1,a2⟩:=iP (es:=es) (zs:=zs) (Z:=Z) T.ent fun z hz=>(T.rel z hz).1.2
 have hp':(List.map (fun z:(Int×Value)×PyData=>z.2) zs).Perm L:=hp
 refine ⟨o,es,ep,t,List.map (fun z:(Int×Value)×PyData=>z.2) zs,T.get,T.ex,T.dat,?_,⟨T.led,T.good.dum,T.good.ris⟩,hp',a1,a2⟩
 unfold SetTable.fits SetTable.fill
 rw [T.good.dum,hsz]
 have:=T.good.fil
 simp; lia
end Sm
end
section
namespace Sm
open PySem PySem.SetTable PyProof.Rows L2
section
variable {prog:Program} {w:World} {A:Around} {E:Value->Shared->Prop} {s:Shared}
theorem gC {l:Addr} {items:Array Value} {ds:Nat->PyData} {Q:Value->Shared->Prop}
   (hh:A.handled=none) (hl:s.heap.IsList l items) (hu:A.units+20 < cLine) {Z:Value->PyData->Prop} (hk:∀ i v,items[i]? = some v->KeyIn s.heap v (ds i)/\Z v (ds i)) (hn:items.size<=300)
   (h:∀ (s':Shared),s'.gens=s.gens->s'.drawn=s.drawn->s'.os=s.os->(∀ b o,s.heap.get? b=some o->s'.heap.get? b=some o) ->
     bR w Z s'.heap s.heap.objs.size (Y5 ds items.size)->Q (.ref s.heap.objs.size) s') :
   wpAny (model prog w) A (call (.type "set") [.ref l]) Q E s:=by
 obtain ⟨c,tl,hmro⟩:=F.called_set.mro
 have hmade:=F.called_set.made
 have hsub:=F.called_set.sub
 refine wpAny_call (codeAny_of_tree ?_)
 show wpAny _ _ (callAny (.type "set") _) _ _ _
 refine wpAny_pure ⟨Code.quiet_builtin _ (by decide +kernel),codeAny_builtin F.entry_type_call ?_⟩
 rw [Around.under_plain (weight_type_call_type "set" [.ref l] []) rfl]
 have h1:=F.called_set.notType
 have h2:=F.called_set.canCreate
 have hct:=F.typeCall_set_1 (.ref l)
 repeat (any_goals (first | assumption | wp_step))
 refine codeAny_mono (Xz (.ref l) (E:=E) (Q₁:=fun obj s₁=>obj=.ref s.heap.objs.size/\s₁={ s with heap:=s.heap.push (Dg w) }) ⟨rfl,rfl⟩) fun r s₁ hr=>?_
 cases r with
 | error e=>exact hr
 | ok fl =>
   cases fl with
   | ret obj =>
     obtain ⟨rfl,rfl⟩:=hr; have hS:(s.heap.push (Dg w)).get? s.heap.objs.size=some (Dg w):=Heap.get?_push_size _ rfl; have hT:Shared.TypeIs { s with heap:=s.heap.push (Dg w) } (.ref s.heap.objs.size) "set" := ⟨_,hS,rfl⟩; have hli:=F.called_set.init.lookup; have hbi:=F.called_set.init.bind (.ref s.heap.objs.size)
     repeat (any_goals (first | assumption | wp_step))
     refine codeAny_mono (codeAny_call_builtin (R:=wants (fun r s₂=>r=.none/\s₂.gens=s.gens/\s₂.drawn=s.drawn/\s₂.os=s.os/\(∀ b o,s.heap.get? b=some o->s₂.heap.get? b=some o)/\bR w Z s₂.heap s.heap.objs.size (Y5 ds items.size)) E)
       F.called_set.init.plain F.entry_set_init (check_set_init_1 hT ?_)) fun r₂ s₂ hr₂=>?_
     . obtain ⟨ol,hol,hcl,nl,hdl⟩:=hl
       obtain ⟨ocls,odict,odata,oslots⟩:=ol; simp only at hcl hdl; subst hcl hdl; have hol':(s.heap.push (Dg w)).get? l=some { cls:=.type "list",dict:=odict,data:=.seq items nl,slots:=oslots }:=Heap.get?_push_of_some _ hol; have hsls:=F.sub_list_set; have hslf:=F.sub_list_frozenset; have hne:(Value.type "list" == Value.type "dict")=false:=by decide
       have hl1:(s.heap.push (Dg w)).IsList l items:=⟨_,hol',rfl,nl,rfl⟩; unfold Builtin.«set.__init__» noKeywords Builtin.Frozenset.updateFrom
       generalize hPI:pyIter=PI
       wp_walk
       subst hPI; refine wpAny_pyIter_list hl1 ?_; refine wpAny_bind (wpAny_runValue ?_); have hlS:l < s.heap.objs.size:=Heap.lt_size hol; have hh3:A.in1.in1.in1.handled=none:=by simp [hh]
       have hneI:l≠(s.heap.push (Dg w)).objs.size:=by
         rw [Heap.size_push]; exact Nat.ne_of_lt (Nat.lt_succ_of_lt hlS)
       have hSf:s.heap.objs.size∉[(s.heap.push (Dg w)).objs.size,l]:=by
         rw [Heap.size_push]; simp only [List.mem_cons,List.mem_singleton,List.not_mem_nil,or_false,not_or]
         exact ⟨Nat.ne_of_lt (Nat.lt_succ_self _),Nat.ne_of_gt hlS⟩
       refine rK ((Walks.list hh3 _ l hneI items).toS) s.heap.objs.size hSf (h0:=s.heap) (Sz _) ?hw ?hu3 Z ds hk hn (!(w.params.followText "set-order")) (items.size - 0) 0 _ (by lia) (Nat.zero_le _)
         ⟨⟨_,Heap.get?_push_size _ rfl,rfl,rfl⟩,(hl1.push _)⟩ ?hS0 ?hR
       case hw =>
         intro b hb; have hb':b=(s.heap.push (Dg w)).objs.size:=by simpa using hb
         subst hb'; rw [Heap.size_push]; exact Heap.get?_none_of_le (Nat.le_succ _)
       case hu3=>(simp only [Around.in1_units]; lia)
       case hS0 =>
         exact ⟨_,#[],0,_,[],⟨fun b o e=>Heap.get?_push_of_some _ (Heap.get?_push_of_some _ e),Heap.get?_push_of_some _ hS,⟨rfl,rfl,rfl⟩,rfl,rfl,by simpa using Pw _,rfl,fun z hz=>nomatch hz⟩,List.Perm.nil,rfl⟩
       case hR =>
         intro s' hm hS'; show wpAny _ _ _ _ _ _
         refine wpAny_pure ?_; show wpAny _ _ (ret Value.none) _ _ _
         refine wpAny_pure ⟨rfl,hm.gens,hm.drawn,hm.os,fun b o e=>hm.heap b o (fun hb=>?_) (Heap.get?_push_of_some _ (Heap.get?_push_of_some _ e)),cG hS'⟩
         have hlt:=Heap.lt_size e; rcases List.mem_cons.mp hb with e' | hb
         . rw [e'] at hlt; exact Nat.lt_irrefl _ hlt
         . rw [List.mem_singleton.mp hb,Heap.size_push] at hlt; exact Nat.lt_irrefl _ (Nat.lt_of_succ_lt hlt)
     . cases r₂ with
       | error e=>exact hr₂
       | ok fl₂ =>
         cases fl₂ with
         | ret r =>
           obtain ⟨rfl,g1,g2,g3,g4,hS'⟩:=hr₂
           repeat (any_goals (first | assumption | wp_step))
           exact h _ g1 g2 g3 g4 hS'
         | _=>exact hr₂.elim
   | _=>exact hr.elim
end
end Sm
end
section
namespace Sm
open PySem PySem.SetTable PyProof.Rows L2
section
variable {prog:Program} {w:World} {A:Around} {E:Value->Shared->Prop} {s:Shared}
theorem bJ {l:Addr} {items:Array Value} {ds:Nat->PyData} {Q:Value->Shared->Prop}
   (hh:A.handled=none) (hl:s.heap.IsTuple l items) (hu:A.units+20 < cLine) {Z:Value->PyData->Prop} (hk:∀ i v,items[i]? = some v->KeyIn s.heap v (ds i)/\Z v (ds i)) (hn:items.size<=300)
   (h:∀ (s':Shared),s'.gens=s.gens->s'.drawn=s.drawn->s'.os=s.os->(∀ b o,s.heap.get? b=some o->s'.heap.get? b=some o) ->
     bR w Z s'.heap s.heap.objs.size (Y5 ds items.size)->Q (.ref s.heap.objs.size) s') :
   wpAny (model prog w) A (call (.type "set") [.ref l]) Q E s:=by
 obtain ⟨c,tl,hmro⟩:=F.called_set.mro
 have hmade:=F.called_set.made
 have hsub:=F.called_set.sub
 refine wpAny_call (codeAny_of_tree ?_)
 show wpAny _ _ (callAny (.type "set") _) _ _ _
 refine wpAny_pure ⟨Code.quiet_builtin _ (by decide +kernel),codeAny_builtin F.entry_type_call ?_⟩
 rw [Around.under_plain (weight_type_call_type "set" [.ref l] []) rfl]
 have h1:=F.called_set.notType
 have h2:=F.called_set.canCreate
 have hct:=F.typeCall_set_1 (.ref l)
 repeat (any_goals (first | assumption | wp_step))
 refine codeAny_mono (Xz (.ref l) (E:=E) (Q₁:=fun obj s₁=>obj=.ref s.heap.objs.size/\s₁={ s with heap:=s.heap.push (Dg w) }) ⟨rfl,rfl⟩) fun r s₁ hr=>?_
 cases r with
 | error e=>exact hr
 | ok fl =>
   cases fl with
   | ret obj =>
     obtain ⟨rfl,rfl⟩:=hr; have hS:(s.heap.push (Dg w)).get? s.heap.objs.size=some (Dg w):=Heap.get?_push_size _ rfl; have hT:Shared.TypeIs { s with heap:=s.heap.push (Dg w) } (.ref s.heap.objs.size) "set" := ⟨_,hS,rfl⟩; have hli:=F.called_set.init.lookup; have hbi:=F.called_set.init.bind (.ref s.heap.objs.size)
     repeat (any_goals (first | assumption | wp_step))
     refine codeAny_mono (codeAny_call_builtin (R:=wants (fun r s₂=>r=.none/\s₂.gens=s.gens/\s₂.drawn=s.drawn/\s₂.os=s.os/\(∀ b o,s.heap.get? b=some o->s₂.heap.get? b=some o)/\bR w Z s₂.heap s.heap.objs.size (Y5 ds items.size)) E)
       F.called_set.init.plain F.entry_set_init (check_set_init_1 hT ?_)) fun r₂ s₂ hr₂=>?_
     . obtain ⟨ol,hol,hcl,nl,hdl⟩:=hl
       obtain ⟨ocls,odict,odata,oslots⟩:=ol; simp only at hcl hdl; subst hcl hdl; have hol':(s.heap.push (Dg w)).get? l=some { cls:=.type "tuple",dict:=odict,data:=.seq items nl,slots:=oslots }:=Heap.get?_push_of_some _ hol; have hsls:=F.sub_tuple_set; have hslf:=F.sub_tuple_frozenset; have hne:(Value.type "tuple" == Value.type "dict")=false:=by decide
       have hl1:(s.heap.push (Dg w)).IsTuple l items:=⟨_,hol',rfl,nl,rfl⟩; unfold Builtin.«set.__init__» noKeywords Builtin.Frozenset.updateFrom
       generalize hPI:pyIter=PI
       wp_walk
       subst hPI; refine wpAny_pyIter_tuple hl1 ?_; refine wpAny_bind (wpAny_runValue ?_); have hlS:l < s.heap.objs.size:=Heap.lt_size hol; have hh3:A.in1.in1.in1.handled=none:=by simp [hh]
       have hneI:l≠(s.heap.push (Dg w)).objs.size:=by
         rw [Heap.size_push]; exact Nat.ne_of_lt (Nat.lt_succ_of_lt hlS)
       have hSf:s.heap.objs.size∉[(s.heap.push (Dg w)).objs.size,l]:=by
         rw [Heap.size_push]; simp only [List.mem_cons,List.mem_singleton,List.not_mem_nil,or_false,not_or]
         exact ⟨Nat.ne_of_lt (Nat.lt_succ_self _),Nat.ne_of_gt hlS⟩
       refine rK ((Walks.tuple hh3 _ l hneI items).toS) s.heap.objs.size hSf (h0:=s.heap) (Sz _) ?hw ?hu3 Z ds hk hn (!(w.params.followText "set-order")) (items.size - 0) 0 _ (by lia) (Nat.zero_le _)
         ⟨⟨_,Heap.get?_push_size _ rfl,rfl,rfl⟩,(hl1.push _)⟩ ?hS0 ?hR
       case hw =>
         intro b hb; have hb':b=(s.heap.push (Dg w)).objs.size:=by simpa using hb
         subst hb'; rw [Heap.size_push]; exact Heap.get?_none_of_le (Nat.le_succ _)
       case hu3=>(simp only [Around.in1_units]; lia)
       case hS0 =>
         exact ⟨_,#[],0,_,[],⟨fun b o e=>Heap.get?_push_of_some _ (Heap.get?_push_of_some _ e),Heap.get?_push_of_some _ hS,⟨rfl,rfl,rfl⟩,rfl,rfl,by simpa using Pw _,rfl,fun z hz=>nomatch hz⟩,List.Perm.nil,rfl⟩
       case hR =>
         intro s' hm hS'; show wpAny _ _ _ _ _ _
         refine wpAny_pure ?_; show wpAny _ _ (ret Value.none) _ _ _
         refine wpAny_pure ⟨rfl,hm.gens,hm.drawn,hm.os,fun b o e=>hm.heap b o (fun hb=>?_) (Heap.get?_push_of_some _ (Heap.get?_push_of_some _ e)),cG hS'⟩
         have hlt:=Heap.lt_size e; rcases List.mem_cons.mp hb with e' | hb
         . rw [e'] at hlt; exact Nat.lt_irrefl _ hlt
         . rw [List.mem_singleton.mp hb,Heap.size_push] at hlt; exact Nat.lt_irrefl _ (Nat.lt_of_succ_lt hlt)
     . cases r₂ with
       | error e=>exact hr₂
       | ok fl₂ =>
         cases fl₂ with
         | ret r =>
           obtain ⟨rfl,g1,g2,g3,g4,hS'⟩:=hr₂
           repeat (any_goals (first | assumption | wp_step))
           exact h _ g1 g2 g3 g4 hS'
         | _=>exact hr₂.elim
   | _=>exact hr.elim
end
end Sm
end
section
namespace Sm
open PySem PySem.Spec PyProof.Rows L2
abbrev St:=L2.St
section
variable {prog:Program} {w:World} {A:Around} {R:Result->Shared->Prop} {s:Shared}
theorem Vx {elt target iter:Expr} {ifs:List Expr} {scope:Scope} {pos:Pos} {it acc:Value} {env:Env} (I:Nat->Shared->Prop)
   (turn:∀ n s,I n s->wpAny (model prog w) A (pyNext it) (fun r s₁=>match r with
     | none=>R (.ok .next) s₁
     | some v => wpAny (model prog w) A (letOwnedTupleGo target it v) (fun _ s₁' => wpAny (model prog w) A (assign target env v) (fun _ s₂ =>
         wpAny (model prog w) A (forIn ifs true fun c r=>if r=true then do let ok <- isTrue c env (eval c env); pure (ForInStep.yield ok) else pure (ForInStep.yield r)) (fun ok s₃ =>
           if ok=true then wpAny (model prog w) A (eval elt env) (fun x s₄ =>
             wpAny (model prog w) A (call (.builtin "list.append") [acc,x]) (fun _ s₅=>∃ m,m < n/\I m s₅) (fun _ _=>False) s₄) (fun _ _=>False) s₃
           else ∃ m,m < n/\I m s₃) (fun _ _=>False) s₂) (fun _ _=>False) s₁') (fun _ _=>False) s₁) (fun _ _=>False) s)
   (n:Nat) (h:I n s):codeAny (model prog w) A (.compLoop (.ListComp elt [⟨target,iter,ifs,0⟩] scope pos) 0 it acc env) R s:=by
 refine codeAny_loop rfl I (fun n s hI=>?_) n h
 show wpAny _ A ((compTurn (.ListComp elt [⟨target,iter,ifs,0⟩] scope pos) 0 it acc env).onRaise (fun x=>do noteFrame x env; theTreesLotGoes x)) _ _ s
 refine wpAny_noted ?_
 rw [compTurn_list]
 refine wpAny_bind (wpAny_standAt (wpAny_bind (wpAny_mono (turn n s hI) (fun r s₁ h₁=>?_) fun _ _ h'=>h'.elim)))
 cases r with
 | none=>exact wpAny_pure h₁
 | some v =>
   refine wpAny_bind (wpAny_mono h₁ (fun _ s₁' h₁'=>?_) fun _ _ h'=>h'.elim)
   refine wpAny_bind (wpAny_mono h₁' (fun _ s₂ h₂=>wpAny_bind (wpAny_mono h₂ (fun ok s₃ h₃=>?_) fun _ _ h'=>h'.elim)) fun _ _ h'=>h'.elim)
   cases ok with
   | false=>exact wpAny_pure ⟨rfl,h₃⟩
   | true =>
     exact wpAny_bind (wpAny_bind (wpAny_mono h₃ (fun x s₄ h₄=>wpAny_bind (wpAny_mono h₄ (fun _ s₅ h₅=>wpAny_pure (wpAny_pure ⟨rfl,h₅⟩)) fun _ _ h'=>h'.elim)) fun _ _ h'=>h'.elim))
end
noncomputable def Yz (X:Cx) (s₃:Shared) (H₃:Hp) (scope:Scope) (cl:List (Str×Addr)) (N':List Str) (fp:List Addr):Cx :=
 { X with N:=N',s₀:=s₃,H₀:=H₃,env:=compEnvC scope cl s₃.heap.objs.size X.env,outer:=X.stack,stack:=X.stack,ex:=fp,fn:=fun _=>false,pn:=[],xe:=fun _ _=>False }
structure Blk (X X':Cx) (N':List Str) (sc':Scope):Prop where
 prog:X'.prog=X.prog
 w:X'.w=X.w
 K:X'.K=X.K
 mg:X'.mg=X.mg
 base:X'.base=X.base
 A:X'.A=X.A
 calm:X'.calm=X.calm
 N:X'.N=N'
 sc:X'.env.scope=sc'
 xe:X'.xe=fun _ _=>False
structure Clos (X:Cx) (scope:Scope) (cl:List (Str×Addr)):Prop where
 clo:closureFor scope X.env=pure cl
 sub:∀ x c,cl.lookup x=some c->X.env.cells.lookup x=some c
 has:∀ x,(relabel scope X.env).names.lookup x=some .cell\/(relabel scope X.env).names.lookup x=some .free->∃ c,cl.lookup x=some c
section
variable {X:Cx} {pins:List (Addr×Obj)} {σ:St} {H:Hp} {s₃:Shared}
theorem wB {scope:Scope} {cl:List (Str×Addr)} {N':List Str} {fp:List Addr} (I:Inv X pins σ H s₃) (hk:scope.kind=.function) (C:Clos X scope cl) (hfp:∀ b∈fp,Qz X pins H b) (hlt:∀ b∈fp,b < s₃.heap.objs.size) :
   (Yz X s₃ H scope cl N' fp).Ok where
 mod:=I.ok.mod
 kind:=hk
 glob:=I.ok.glob
 blt:=I.ok.blt
 above:=Nat.le_refl _
 inj:=fun x y c h1 h2=>I.ok.inj x y c (C.sub x c h1) (C.sub y c h2)
 has:=fun x h=>C.has x h
 cab:=fun x c h=>nomatch h
 hd:=I.ok.hd
 frames:=I.ok.frames
 stk:=.inl rfl
 exf:=fun b hb=>⟨Nat.ne_of_lt (hlt b hb),fun x c h=>(hfp b hb).2.2.2.2.1 x c (C.sub x c h)⟩
 bs:=fun b o e=>I.bs b o e
 bsz:=Nat.le_trans I.ok.bsz I.sz
 noex:=fun b o e hb=>by
   rcases (hfp b hb).2.2.2.1 with z | z
   . exact I.ok.noex b o e z
   . exact absurd (Nat.lt_of_lt_of_le (Heap.lt_size e) (Nat.le_trans I.ok.bsz z)) (Nat.lt_irrefl _)
 exfs:=fun b hb z=>by
   rcases List.mem_cons.mp (I.stkSub b z) with q | q
   . exact (hfp b hb).2.1 q
   . exact (hfp b hb).2.2.1 q
 funs:=I.stack
 frf:=I.stkFree
noncomputable def Ev (σ:St) (cap:List Nat):St:=cap.map fun j=>σ[j]?.join
theorem qE {scope:Scope} {cl:List (Str×Addr)} {xs:List Str} {cap:List Nat} {capN:List Str} {fp:List Addr} {h₁:Heap} {tk:Nat} (I:Inv X pins σ H s₃) (hk:scope.kind=.function) (C:Clos X scope cl) (hfp:∀ b∈fp,Qz X pins H b) (hlt:∀ b∈fp,b < s₃.heap.objs.size)
   (hcap:cap.map (fun j=>X.N[j]?)=capN.map some) (hcl:∀ x∈capN,(relabel scope X.env).names.lookup x=some .cell\/(relabel scope X.env).names.lookup x=some .free)
   (hvis:∀ x∈capN,X.env.scope.names.lookup x=some .cell\/X.env.scope.names.lookup x=some .free) {m:Str->Option Value}
   (hns:h₁.Ns s₃.heap.objs.size m) (old:∀ b o,s₃.heap.get? b=some o->h₁.get? b=some o) :
   Inv (Yz X s₃ H scope cl (xs++capN) fp) [] (xs.map (fun _=>none)++Ev σ cap) H { s₃ with heap:=h₁,toks:=tk }:=by
 have hlen:cap.length=capN.length:=by simpa using congrArg List.length hcap
 refine ⟨wB I hk C hfp hlt,rfl,I.bare,Un.kept old,⟨m,hns,fun i x v e1 e2 e3=>?_⟩,fun x c e=>?_,I.hok.fresh (Nat.le_refl _),fun x c e=>I.freeC x c (C.sub x c e),fun p hp=>absurd (show p∈([]:List (Addr×Obj)) from hp) (by simp),I.hok.kept old,?_⟩
 . have e1':(xs++capN)[i]? = some x:=e1
   by_cases hi:i < xs.length
   . rw [List.getElem?_append_left (by simpa using hi),List.getElem?_map] at e2
     cases q:xs[i]? with
     | none=>rw [q] at e2; cases e2
     | some z=>rw [q] at e2; cases e2
   . rw [List.getElem?_append_right (by simpa using hi)] at e2
     rw [List.getElem?_append_right (by lia)] at e1'; rw [List.length_map] at e2
     generalize i - xs.length=j at e1' e2
     unfold Ev at e2; rw [List.getElem?_map] at e2; have hc:(cap.map (fun j=>X.N[j]?))[j]? = some (some x):=by rw [hcap,List.getElem?_map,e1']; rfl
     rw [List.getElem?_map] at hc
     cases q:cap[j]? with
     | none=>rw [q] at e2; cases e2
     | some k =>
       rw [q] at e2 hc; simp only [Option.map_some] at e2 hc; have hc':X.N[k]? = some x:=Option.some.inj hc; have hs:σ[k]? = some (some v):=by
         cases z:σ[k]? with
         | none=>rw [z] at e2; cases e2
         | some z'=>rw [z] at e2; cases z' with
           | none=>cases e2
           | some z''=>cases e2; rfl
       have hx:x∈capN:=List.mem_of_getElem? e1'; obtain ⟨m',hm',hl'⟩:=I.loc; obtain ⟨u,r,l⟩:=hl' k x v hc' hs (by rcases hvis x hx with z | z; exact .inr (.inl z); exact .inr (.inr z))
       refine ⟨u,r,.inr ⟨hcl x hx,?_⟩⟩; obtain ⟨c,hcc⟩:=C.has x (hcl x hx); refine ⟨c,hcc,?_⟩; rcases l with ⟨z,_⟩ | ⟨_,c',e',z⟩
       . have z':X.env.scope.names.lookup x=some .local:=z
         rcases hvis x hx with y | y <;> (rw [z'] at y; cases y)
       . rw [C.sub x c hcc] at e'; cases e'
         obtain ⟨o,ho,hd⟩:=z; exact ⟨o,old _ _ ho,hd⟩
 . obtain ⟨v,o,ho,hd⟩:=I.cell x c (C.sub x c e)
   exact ⟨v,o,old _ _ ho,hd⟩
 . show (xs.map (fun _=>none)++Ev σ cap).length=(xs++capN).length
   unfold Ev; rw [List.length_append,List.length_append,List.length_map,List.length_map,hlen]
end
def Wk (σ1 σ2:St):Prop:=σ1.length=σ2.length/\∀ (i:Nat) v,σ1[i]? = some (some v)->σ2[i]? = some (some v)
def cE (wi:TI) (σb:St->St) (g:TG) (tt:TT) (te:TE):TE:=fun σ H Q=>wi σ H fun J H1=>∀ D,H1 D=none->∃ W:Nat->Nat->Hp->Prop,(∃ m,W 0 m (upd H1 D (.lst [])))/\∀ i m H,W i m H ->
 (J.stop i H/\Q (.ref D) H)\/(J.go i H/\∃ N:Hp->Prop,(∀ H',N H'->∃ m',m' < m/\W (i+1) m' H')/\∀ x H',J.yld i H x H'->g x (σb σ) H' fun σ2 H2=>Wk (σb σ) σ2/\tt σ2 H2 fun b H3 =>
   if b=true then te σ2 H3 fun y H4=>∃ acc,H4 D=some (.lst acc)/\acc.length < sizeLine/\N (upd H4 D (.lst (acc++[y]))) else N H3)
def PTs (X:Cx) (ifs:List Expr) (t:TT):Prop :=
 ∀ (pins:List (Addr×Obj)) (s:Shared) (σ:St) (H:Hp) (Q:Bool->Hp->Prop),Inv X pins σ H s->t σ H Q ->
   wpAny (model X.prog X.w) X.A (forIn ifs true fun c r=>if r=true then do let ok <- isTrue c X.env (eval c X.env); pure (ForInStep.yield ok) else pure (ForInStep.yield r)) (TP X pins σ Q) X.xe s
theorem nE {X:Cx}:PTs X [] (fun _ H Q=>Q true H):=fun _ _ _ H _ I h=>wpAny_tests_nil ⟨H,I,h⟩
theorem nC {X:Cx} {c:Expr} {t:TT} (h:PT X c t):PTs X [c] t:=fun pins s σ H Q I q=>wpAny_tests_one (h pins s σ H Q I q)
structure CompFacts (X:Cx) (scope:Scope) (xs capN:List Str) (cap:List Nat):Prop where
 kind:scope.kind=.function
 nocell:∀ y∈scope.names,y.2≠.cell
 names:∀ y∈scope.names,y.2=.local->scope.names.lookup y.1=some .local
 clos:∃ cl,Clos X scope cl
 hcap:cap.map (fun j=>X.N[j]?)=capN.map some
 hcl:∀ x∈capN,(relabel scope X.env).names.lookup x=some .cell\/(relabel scope X.env).names.lookup x=some .free
 hvis:∀ x∈capN,X.env.scope.names.lookup x=some .cell\/X.env.scope.names.lookup x=some .free
section
variable {X:Cx} {tg elt iter:Expr} {ifs:List Expr} {scope:Scope} {pos:Pos} {wi:TI} {g:TG} {tt:TT} {te:TE} {xs capN:List Str} {cap:List Nat}
theorem Yr {use:Option (Value->Sem Unit)} {Q:Value->Shared->Prop} {QQ:VK} (hc:X.calm=true) (F:CompFacts X scope xs capN cap) (hi:PI X tg iter wi)
   (hg:∀ X',Blk X X' (xs++capN) (relabel scope X.env)->PG X' tg g) (ht:∀ X',Blk X X' (xs++capN) (relabel scope X.env)->PTs X' ifs tt) (he:∀ X',Blk X X' (xs++capN) (relabel scope X.env)->PE X' elt te)
   (hs:∀ x,foldedSetIterable iter X.env x=pure x)
   {pins:List (Addr×Obj)} {s:Shared} {σ:St} {H:Hp} (I:Inv X pins σ H s) (h:cE wi (fun σ=>xs.map (fun _=>none)++Ev σ cap) g tt te σ H QQ) {ps:Pos}
   (fin:∀ (s':Shared) (H':Hp) (D C:Addr) (m:Str->Option Value),Inv X pins σ H' s'->s'.heap.Ns C m->(H' C=none/\X.s₀.heap.objs.size<=C/\C≠X.env.locals/\(∀ x c,X.env.cells.lookup x=some c->c≠C)/\∀ p∈X.pn++pins,p.1≠C) ->
     QQ (.ref D) H'->compPost (model X.prog X.w) X.A X.xe use Q (.ref D) C (.ok .next) s') :
   wpAny (model X.prog X.w) X.A (comprehension (.ListComp elt [⟨tg,iter,ifs,0⟩] scope pos) scope X.env ps (newList []) false (eval iter X.env) use) Q X.xe s:=by
 obtain ⟨cl,C⟩:=F.clos
 refine wpAny_comprehension_free rfl hs C.clo F.kind F.names (thn (hi pins s σ H _ I h) fun v s1 h1=>thn h1 fun itv s2 h2=>?_)
 obtain ⟨it,fp,tn,J,H2,e,I2,T,st2,f2,h3⟩:=h2
 subst e
 refine wpAny_newObj_type ?_
 obtain ⟨W,⟨m0,w0⟩,turn⟩:=h3 s2.heap.objs.size I2.fresh
 have I3:Inv X pins σ (upd H2 s2.heap.objs.size (.lst [])) { s2 with heap:=s2.heap.push { cls:=.type "list",dict:=none,data:=.seq ([]:List Value).toArray } }:=I2.lnew (t':=s2.toks) .nil (Nat.zero_le _)
 generalize hH3:upd H2 s2.heap.objs.size (HO.lst [])=H3 at I3 w0
 generalize hs3:({ s2 with heap:=s2.heap.push { cls:=.type "list",dict:=none,data:=.seq ([]:List Value).toArray } }:Shared)=s3 at I3
 have hD3:H3 s2.heap.objs.size=some (.lst []):=by rw [<- hH3]; exact G8
 have kp3:∀ b o,s2.heap.get? b=some o->s3.heap.get? b=some o:=fun b o e=>by rw [<- hs3]; exact Heap.get?_push_of_some _ e
 have hDlt:s2.heap.objs.size < s3.heap.objs.size:=by rw [<- hs3]; show _ < (s2.heap.push _).objs.size; rw [Heap.size_push]; exact Nat.lt_succ_self _
 have flt:∀ b∈fp,b < s2.heap.objs.size:=fun b hb=>by
   obtain ⟨o,e,_⟩:=T.obj 0 _ st2 b hb; exact Heap.lt_size e
 have flt3:∀ b∈fp,b < s3.heap.objs.size:=fun b hb=>Nat.lt_trans (flt b hb) hDlt
 have f3:∀ b∈fp,Qz X pins H3 b:=fun b hb=>⟨by rw [<- hH3,E4 (Nat.ne_of_lt (flt b hb))]; exact (f2 b hb).1,(f2 b hb).2⟩
 have st3:tn 0 s3.heap:=T.keep 0 _ _ st2 fun b hb o e=>kp3 b o e
 show wpAny _ _ (newFunctionEnv scope X.env.globals cl [] X.env.qual none .none (some X.env)) _ _ s3
 refine wpAny_newFunctionEnv F.nocell (by intro y hy; simp at hy) (fun h₁ hns₁ hsb₁=>?_) F.kind
 have old:∀ b o,s3.heap.get? b=some o->h₁.get? b=some o:=fun b o e=>hsb₁.extBut b o (Nat.ne_of_lt (Heap.lt_size e)) (Heap.get?_push_of_some _ e)
 have B:Blk X (Yz X s3 H3 scope cl (xs++capN) fp) (xs++capN) (relabel scope X.env):=⟨rfl,rfl,rfl,rfl,rfl,rfl,rfl,rfl,rfl,rfl⟩
 have J0:Inv (Yz X s3 H3 scope cl (xs++capN) fp) [] (xs.map (fun _=>none)++Ev σ cap) H3 { s3 with heap:=h₁,toks:=s3.toks+([]:List (Str×Value)).length } :=
   qE I3 F.kind C f3 flt3 F.hcap F.hcl F.hvis hns₁ old
 have st4:tn 0 h₁:=T.keep 0 _ _ st3 fun b hb o e=>old b o e
 have hg':=hg _ B
 have ht':=ht _ B
 have he':=he _ B
 generalize hX':Yz X s3 H3 scope cl (xs++capN) fp=X' at B J0 hg' ht' he'
 have hex:X'.ex=fp:=by rw [<- hX']; rfl
 have hloc:X'.env.locals=s3.heap.objs.size:=by rw [<- hX']; rfl
 have henv:X'.env=compEnvC scope cl s3.heap.objs.size X.env:=by rw [<- hX']; rfl
 have hpn:X'.pn=[]:=by rw [<- hX']; rfl
 have hxe:X'.xe=fun _ _=>False:=by rw [<- hX']; rfl
 have hH0:X'.H₀=H3:=by rw [<- hX']; rfl
 have hs0:X'.s₀=s3:=by rw [<- hX']; rfl
 have hfs:X'.fs=frs X.stack:=by rw [<- hX']; rfl
 have hP:X'.prog=X.prog:=B.prog
 have hw:X'.w=X.w:=B.w
 have hA:X'.A=X.A:=B.A
 have nfs:∀ b∈fp,b∉X'.fs:=fun b hb z=>J0.ok.exfs b (by rw [hex]; exact hb) z
 have stat:∀ {pn':List (Addr×Obj)} {H':Hp},(∀ b∈fp,H' b=none)->(∀ p∈pn',p.1∉fp)->∀ b∈fp,Qz X' pn' H' b:=fun {pn' H'} hn hp b hb =>
   ⟨hn b hb,by rw [hloc]; exact Nat.ne_of_lt (flt3 b hb),nfs b hb,.inl (by rw [hex]; exact hb),fun x c e=>(J0.ok.exf b (by rw [hex]; exact hb)).2 x c e,fun p hp' z=>by
     rw [hpn,List.nil_append] at hp'; exact hp p hp' (z▸hb)⟩
 have loop : ∀ s₀' : Shared, Inv X' [] (xs.map (fun _ => none) ++ Ev σ cap) H3 s₀' -> tn 0 s₀'.heap ->
     codeAny (model X.prog X.w) X.A (.compLoop (.ListComp elt [⟨tg,iter,ifs,0⟩] scope pos) 0 (.ref it) (.ref s2.heap.objs.size) X'.env) (compPost (model X.prog X.w) X.A X.xe use Q (.ref s2.heap.objs.size) s3.heap.objs.size) s₀':=by
   intro s₀' J1 st5; refine Vx (fun n s'=>∃ i H',Inv X' [] (xs.map (fun _=>none)++Ev σ cap) H' s'/\tn i s'.heap/\(∀ b∈fp,H' b=none)/\W i n H') ?_ m0 ⟨0,H3,J1,st5,fun b hb=>(f3 b hb).1,w0⟩
   rintro n s4 ⟨i,H4,J4,st4,fr4,w4⟩
   rcases turn i n H4 w4 with ⟨stop,qn⟩ | ⟨go,N,hN,step⟩
   . have hd:=T.done X' B.prog B.w B.K (B.calm.trans hc) i [] s4 _ H4 (fun _ _=>False) J4 (stat fr4 (by simp)) st4 stop
     rw [hA] at hd; refine thn hd fun r s5 hZ2=>?_
     obtain ⟨hr,J5⟩:=hZ2; subst hr; have un:Un (frs X.stack) fp H3 H4 s3.heap s5.heap:=by
       have:=J5.base; rw [hfs,hex,hH0,hs0] at this; exact this
     have ho:s5.os=s3.os:=by rw [J5.os,hs0]
     have hok5:HOk X.prog X.w H4 s5.heap:=by have:=J5.hok; rw [hP,hw] at this; exact this
     have I5:Inv X pins σ H4 s5:=I3.call' ho un hok5 J5.bare fun b hb=>⟨(f3 b hb).2.2.2.1,(f3 b hb).2.1,(f3 b hb).2.2.2.2.1,(f3 b hb).2.2.2.2.2⟩
     obtain ⟨m5,hm5,_⟩:=J5.loc; rw [hloc] at hm5; refine fin s5 H4 _ s3.heap.objs.size m5 I5 hm5 ⟨by have:=J5.free; rw [hloc] at this; exact this,I3.sz,Nat.ne_of_gt I3.lt,fun x c e z=>?_,fun p hp z=>?_⟩ qn
     . obtain ⟨v,q⟩:=I3.cell x c e
       exact absurd q.lt (by rw [z]; exact Nat.lt_irrefl _)
     . exact absurd (Heap.lt_size (I3.pin p hp).1) (by rw [z]; exact Nat.lt_irrefl _)
   . have hd:=T.item X' B.prog B.w B.K (B.calm.trans hc) i [] s4 _ H4 (fun _ _=>False) J4 (stat fr4 (by simp)) st4 go
     rw [hA] at hd; refine thn hd fun r s5 hZ2=>?_
     obtain ⟨u,hr,h5⟩:=hZ2; subst hr; refine thn h5 fun _ s6 hZ2=>?_
     obtain ⟨x,H6,J6,r6,y6,st6,fr6⟩:=hZ2; have J6':=J6.pinned (stat fr6 (by simp)) (T.obj _ _ st6)
     rw [List.nil_append] at J6'; have hgx:=hg' _ s6 _ H6 x u _ J6' r6 (step x H6 y6); rw [hP,hw,hA,hxe] at hgx; refine thn hgx fun _ s7 hZ2=>?_
     obtain ⟨σ7,H7,J7,wk7,q7⟩:=hZ2; have htx:=ht' _ s7 σ7 H7 _ J7 q7; rw [hP,hw,hA,hxe] at htx; refine thn htx fun ok s8 hZ2=>?_
     obtain ⟨H8,J8,q8⟩:=hZ2; have again:∀ {H9:Hp} {s9:Shared},Inv X' (Pp fp s6.heap) σ7 H9 s9->N H9->(∃ m,m < n/\∃ i H',Inv X' [] (xs.map (fun _=>none)++Ev σ cap) H' s9/\tn i s9.heap/\(∀ b∈fp,H' b=none)/\W i m H'):=fun {H9 s9} J9 n9=>by
       obtain ⟨m',hm,w9⟩:=hN H9 n9; have pin9:∀ b∈fp,∀ o,s6.heap.get? b=some o->s9.heap.get? b=some o/\H9 b=none:=fun b hb o e=>by
         have:=J9.pin (b,o) (List.mem_append_right _ (Hv hb e)); exact ⟨this.1,this.2.1⟩
       refine ⟨m',hm,i+1,H9,(J9.weak wk7.1 wk7.2).pins_of (fun p hp=>nomatch hp),T.keep _ _ _ st6 fun b hb o e=>(pin9 b hb o e).1,fun b hb=>?_,w9⟩
       obtain ⟨o,e,d⟩:=T.obj _ _ st6 b hb; exact (pin9 b hb o e).2
     cases ok with
     | false =>
       rw [if_neg (by decide)] at q8 ⊢
       exact again J8 q8
     | true =>
       rw [if_pos rfl] at q8 ⊢
       have hex:=he' _ s8 σ7 H8 _ J8 q8; rw [hP,hw,hA,hxe] at hex; refine thn hex fun y s9 hZ2=>?_
       obtain ⟨x9,H9,J9,r9,acc,ha,hz,n9⟩:=hZ2; have hap:=Tc (X:=X') _ s9 σ7 H9 (.ref s2.heap.objs.size) [x9] (.ref s2.heap.objs.size) [y] (fun _ H'=>N H') J9 rfl (.cons r9 .nil) ⟨_,acc,x9,rfl,rfl,ha,hz,n9⟩
       rw [hP,hw,hA,hxe] at hap; exact thn hap fun _ s10 hZ2=>by obtain ⟨_,H10,J10,_,n10⟩:=hZ2; exact again J10 n10
 have e0:({ (newEnv scope s3.heap.objs.size X.env.globals cl X.env.qual none .none (some X.env) builtinsNs:Env) with scope:=relabel scope X.env }:Env)=X'.env:=by rw [henv]; rfl
 have e1:(newEnv scope s3.heap.objs.size X.env.globals cl X.env.qual none .none (some X.env) builtinsNs:Env).locals=s3.heap.objs.size:=rfl
 show codeAny _ _ (.compStart _ 0 (.ref it) (.ref s2.heap.objs.size) ({ (newEnv scope s3.heap.objs.size X.env.globals cl X.env.qual none .none (some X.env) builtinsNs:Env) with scope:=relabel scope X.env }:Env)) (compPost _ _ _ _ _ _ s3.heap.objs.size) _
 rw [e0]
 exact codeAny_compStart_list (loop _ J0 st4) (T.self _ 0 _ _ _ st4 (loop _ J0 st4))
theorem nM (hc:X.calm=true) (F:X.Ok->CompFacts X scope xs capN cap) (hi:PI X tg iter wi)
   (hg:∀ X',Blk X X' (xs++capN) (relabel scope X.env)->PG X' tg g) (ht:∀ X',Blk X X' (xs++capN) (relabel scope X.env)->PTs X' ifs tt) (he:∀ X',Blk X X' (xs++capN) (relabel scope X.env)->PE X' elt te)
   (hs:∀ x,foldedSetIterable iter X.env x=pure x:=by intro _; rfl):PE X (.ListComp elt [⟨tg,iter,ifs,0⟩] scope pos) (cE wi (fun σ=>xs.map (fun _=>none)++Ev σ cap) g tt te):=by
 intro pins s σ H Q I h
 rw [eval_ListComp]
 refine Yr (use:=none) hc (F I.ok) hi hg ht he hs I h fun s' H' D C m I' hm hZ7 q=>?_
 obtain ⟨c1,c2,c3,c4,c5⟩:=hZ7
 refine ⟨m,hm,fun h' sb=>?_⟩
 exact ⟨.ref D,H',I'.turned (t':=s'.toks) (fun b o hb e=>(sb.2 b hb).trans e) c1 c3 (.inr c2) c4 c5,rfl,q⟩
theorem aK {i:Nat} {y:Str} {py spos:Pos} (hc:X.calm=true) (F:X.Ok->CompFacts X scope xs capN cap) (hi:PI X tg iter wi)
   (hg:∀ X',Blk X X' (xs++capN) (relabel scope X.env)->PG X' tg g) (ht:∀ X',Blk X X' (xs++capN) (relabel scope X.env)->PTs X' ifs tt) (he:∀ X',Blk X X' (xs++capN) (relabel scope X.env)->PE X' elt te)
   (hN:X.N.Nodup) (hy:X.N[i]? = some y) (hl:X.env.scope.names.lookup y=some .local) (hsw:swapsWith (.ListComp elt [⟨tg,iter,ifs,0⟩] scope pos) (some (.Name y py)) spos.line X.env=pure true)
   (hs:∀ x,foldedSetIterable iter X.env x=pure x:=by intro _; rfl):PS X (.Assign [.Name y py] (.ListComp elt [⟨tg,iter,ifs,0⟩] scope pos) spos) (sN (cE wi (fun σ=>xs.map (fun _=>none)++Ev σ cap) g tt te) (Ek i)):=by
 intro pins s σ H D0 I h
 rw [exec_Assign_Name_used _ _ _ _ hsw]
 refine wpAny_bind (wpAny_standAt (wpAny_bind ?_))
 show wpAny _ _ (do let _ <- comprehension (.ListComp elt [⟨tg,iter,ifs,0⟩] scope pos) scope X.env _ (newList []) false (eval iter X.env) (some (assign (.Name y py) X.env))) _ _ s
 refine wpAny_bind (wpAny_mono (Yr (use:=some (assign (.Name y py) X.env)) (Q:=fun _ s'=>SP X pins D0 .next s') hc (F I.ok) hi hg ht he hs I h fun s' H' D C m I' hm hY33 q=>?_) (fun _ s' hq=>wpAny_pure (wpAny_pure hq)) fun _ _ e=>e)
 obtain ⟨c1,c2,c3,c4,c5⟩:=hY33
 show wpAny _ _ (assign (.Name y py) X.env (.ref D)) _ _ s'
 refine wpAny_assign_Name (Sw I' hN hy (.inl hl) (v:=.ref D) rfl (fun s'' I'' hY34=>?_) (.inr hl))
 obtain ⟨a,sa,ea⟩:=hY34
 have haC:a≠C:=by
   rcases ea with z | z
   . rw [z]; exact Ne.symm c3
   . exact c4 _ _ z
 refine ⟨m,hm.sameBut sa (Ne.symm haC),fun h' sb=>?_⟩
 exact ⟨_,H',I''.turned (t':=s''.toks) (fun b o hb e=>(sb.2 b hb).trans e) c1 c3 (.inr c2) c4 c5,q⟩
end
end Sm
end
section
namespace L2
open PySem PySem.Spec PyProof.Rows
section
variable {κ:Type} [DecidableEq κ]
noncomputable def Gg (kvs:List (κ×V)) (k:κ):Option V:=(kvs.find? fun kv=>decide (kv.1=k)).map (·.2)
noncomputable def Ht (kvs:List (κ×V)) (k:κ) (v:V):List (κ×V) :=
 if (kvs.any fun kv=>decide (kv.1=k))=true then kvs.map (fun kv=>if kv.1=k then (kv.1,v) else kv) else kvs++[(k,v)]
theorem Oe {p:κ×V} {r:List (κ×V)} {k:κ} (e:p.1=k):Gg (p::r) k=some p.2:=by simp [Gg,List.find?_cons,e]
theorem Og {p:κ×V} {r:List (κ×V)} {k:κ} (e:¬ p.1=k):Gg (p::r) k=Gg r k:=by simp [Gg,List.find?_cons,e]
theorem Oh (k:κ):∀ kvs:List (κ×V),(kvs.any fun kv=>decide (kv.1=k))=(Gg kvs k).isSome:=by
 intro iN; induction iN with
 | nil=>skip; exact rfl
 | cons p r ih =>
   skip
   rw [List.any_cons]
   by_cases e:p.1=k
   . simp only [Oe e,decide_eq_true e,Bool.true_or,Option.isSome_some]
   . rw [Og e,decide_eq_false e,Bool.false_or]; exact ih
theorem Me (kvs:List (κ×V)) (k:κ) (v:V):(Ht kvs k v).length<=kvs.length+1:=by
 unfold Ht
 split
 . rw [List.length_map]; lia
 . rw [List.length_append,List.length_cons,List.length_nil]; lia
theorem iX {kvs:List (κ×V)} {k:κ} (v:V) (h:Gg kvs k=none):Ht kvs k v=kvs++[(k,v)]:=by
 unfold Ht
 rw [Oh,h]
 exact if_neg (by decide)
theorem RelO.isSome_eq {o:Option V} {u:Option Value} (r:RelO o u):o.isSome=u.isSome:=by
 cases o with
 | none=>cases u with
   | none=>rfl
   | some _=>exact (show False from r).elim
 | some _=>cases u with
   | none=>exact (show False from r).elim
   | some _=>rfl
theorem KV.val {kvs:List (κ×V)} {vs:List (κ×Value)} (r:KV kvs vs) (k:κ):RelO (Gg kvs k) (valueAt vs k):=by
 unfold KV at r
 induction r with
 | nil=>exact True.intro
 | @cons p q ps qs h t ih =>
   obtain ⟨h1,h2⟩:=h
   by_cases e:p.1=k
   . have e':q.1=k:=h1.symm.trans e
     have b:valueAt (q::qs) k=some q.2:=by simp [valueAt,List.find?_cons,e']
     rw [Oe e,b]; exact h2
   . have e':¬ q.1=k:=fun z=>e (h1.trans z)
     have b:valueAt (q::qs) k=valueAt qs k:=by simp [valueAt,List.find?_cons,e']
     rw [Og e,b]; exact ih
end
theorem kN {P:Program} {w:World} {k:Key} {u:Value} (r:RelV (kV k) u):(U1 P w).is k u=true:=by
 cases k with
 | inl i=>obtain ⟨t,e⟩:=(show ∃ t,u=Value.int i t from r); subst e; exact Yc P w i t
 | inr x=>obtain ⟨t,e⟩:=(show ∃ t,u=Value.str x t from r); subst e; exact Yb P w x t
theorem fH {P:Program} {w:World}:∀ {ks:List Key} {us:List Value},Vals (ks.map kV) us->ItemsAre (U1 P w) ks us:=by
 intro iN; induction iN with
 | nil=>intro _ r; rw [List.map_nil] at r; cases r; exact .nil
 | cons k ks ih =>
   intro _ r; rw [List.map_cons] at r
   cases r with
   | cons h t=>exact .cons (kN h) (ih t)
abbrev KT (H:Hp):List (List Key×V)->List (List Key×Addr×Value)->Prop:=Paired fun p q=>p.1=q.1/\H q.2.1=some (.tup (p.1.map kV))/\RelV p.2 q.2.2
theorem KT.val {H:Hp} {kvs:List (List Key×V)} {xs:List (List Key×Addr×Value)} (r:KT H kvs xs) (k:List Key):RelO (Gg kvs k) ((atKey xs k).map (·.2)):=by
 induction r with
 | nil=>exact True.intro
 | @cons p q ps qs h t ih =>
   obtain ⟨h1,_,h2⟩:=h
   by_cases e:p.1=k
   . have e':q.1=k:=h1.symm.trans e
     have b:atKey (q::qs) k=some q.2:=by simp [atKey,List.find?_cons,e']
     rw [Oe e,b]; exact h2
   . have e':¬ q.1=k:=fun z=>e (h1.trans z)
     have b:atKey (q::qs) k=atKey qs k:=by simp [atKey,List.find?_cons,e']
     rw [Og e,b]; exact ih
theorem KT.repl {H:Hp} {kvs:List (List Key×V)} {xs:List (List Key×Addr×Value)} (r:KT H kvs xs) (k:List Key) {y:V} {u:Value} (ry:RelV y u) :
   KT H (kvs.map fun kv=>if kv.1=k then (kv.1,y) else kv) (xs.map (putAt k u)):=by
 induction r with
 | nil=>exact .nil
 | @cons p q ps qs h t ih =>
   rw [List.map_cons,List.map_cons]; refine .cons ?_ ih; obtain ⟨h1,h2,h3⟩:=h; unfold putAt
   by_cases e:p.1=k
   . rw [if_pos e,if_pos (h1.symm.trans e)]; exact ⟨h1,h2,ry⟩
   . rw [if_neg e,if_neg (fun z=>e (h1.trans z))]; exact ⟨h1,h2,h3⟩
theorem KT.put {H:Hp} {kvs:List (List Key×V)} {xs:List (List Key×Addr×Value)} (r:KT H kvs xs) (k:List Key) {b:Addr} {y:V} {u:Value} (hb:H b=some (.tup (k.map kV))) (ry:RelV y u) :
   KT H (Ht kvs k y) (storedH xs k b u):=by
 have e:(kvs.any fun kv=>decide (kv.1=k))=(atKey xs k).isSome:=by
   rw [Oh,(r.val k).isSome_eq,Option.isSome_map]
 unfold Ht storedH
 rw [e]
 by_cases q:(atKey xs k).isSome=true
 . rw [if_pos q,if_pos q]; exact r.repl k ry
 . rw [if_neg q,if_neg q]; exact Paired.snoc r ⟨rfl,hb,ry⟩
theorem KT.keeps {H H':Hp} {kvs:List (List Key×V)} {xs:List (List Key×Addr×Value)} (r:KT H kvs xs) (ht:∀ b ys,H b=some (.tup ys)->H' b=some (.tup ys)):KT H' kvs xs :=
 Paired.mapP r fun _ _ z=>⟨z.1,ht _ _ z.2.1,z.2.2⟩
section
variable {P:Program} {w:World} {H:Hp} {h:Heap} {a:Addr}
theorem qW {u:HO} (ok:HOk P w H h) (e:Rd H a u):ObjOk P w H h a u:=e.ok ok
theorem lJ {kvs:List (Key×V)} (ok:HOk P w H h) (e:Rd H a (.dK kvs)):kvs.length<=sizeLine/\(a==sysModules)=false/\∃ vs,KV kvs vs/\h.DictOf (U1 P w) a vs :=
 show ObjOk P w H h a (.dK kvs) from qW ok e
theorem Vp {ks:List Key} (ok:HOk P w H h) (e:H a=some (.tup (ks.map kV))):(tupleKind (U1 P w)).is h ks a:=by
 obtain ⟨_,its,r,o,h1,h2,n,h3⟩:=(show ObjOk P w H h a (.tup (ks.map kV)) from ok a _ e)
 exact ⟨o,its.toArray,n,h1,h2,h3,by simpa using fH r⟩
theorem cW {kvs:List (List Key×V)} (ok:HOk P w H h) (e:Rd H a (.dT kvs)):kvs.length<=sizeLine/\(a==sysModules)=false /\
   ∃ xs,KT H kvs xs/\h.DictOfH (tupleKind (U1 P w)) a xs:=by
 obtain ⟨z,y,xs,r,o,es,ep,h1,h2,h3,h4,h5⟩:=(show ObjOk P w H h a (.dT kvs) from qW ok e)
 refine ⟨z,y,xs,r,o,es,ep,h1,h2,h3,h4,fun x hx=>?_,h5⟩
 have all:∀ {l:List (List Key×V)} {m:List (List Key×Addr×Value)},KT H l m->∀ x∈m,(tupleKind (U1 P w)).is h x.1 x.2.1:=by
   intro l m q
   induction q with
   | nil=>intro x hx; exact nomatch hx
   | @cons p q ps qs hq t ih =>
     intro x hx; rcases List.mem_cons.mp hx with e | hx
     . subst e
       exact Vp ok (by rw [<- hq.1]; exact hq.2.1)
     . exact ih x hx
 exact all r x hx
theorem dt_of {kvs:List (List Key×V)} (ok:HOk P w H h) (e:H a=some (.dT kvs)):kvs.length<=sizeLine/\(a==sysModules)=false /\
   ∃ xs,KT H kvs xs/\h.DictOfH (tupleKind (U1 P w)) a xs:=cW ok (.inl e)
end
def DGet (H:Hp) (a:Addr) (y:V) (r:Option V):Prop :=
 (∃ kvs k,Rd H a (.dK kvs)/\y=kV k/\r=Gg kvs k)\/∃ kvs k b,Rd H a (.dT kvs)/\y=.ref b/\H b=some (.tup (k.map kV))/\r=Gg kvs k
theorem DGet.t {H:Hp} {a b:Addr} {kvs:List (List Key×V)} {k:List Key} (e:H a=some (.dT kvs)) (eb:H b=some (.tup (k.map kV))):DGet H a (.ref b) (Gg kvs k):=.inr ⟨kvs,k,b,.inl e,rfl,eb,rfl⟩
section
variable {X:Cx} {pins:List (Addr×Obj)} {σ:St} {H:Hp} {s:Shared} {a:Addr} {y v:V} {u:Value} {o:Option V} {A:Around} {E:Value->Shared->Prop}
theorem Inv.big (I:Inv X pins σ H s):sysModules < s.heap.objs.size:=by
 have h:mainGlobals < s.heap.objs.size:=(I.mod.glob.keeps I.bk).lt
 exact Nat.lt_trans (by decide) h
theorem fS {Q:Value->Shared->Prop} (hu:A.units+1 < cLine) (I:Inv X pins σ H s) (g:DGet H a y (some v)) (ry:RelV y u) (h:∀ w' s',Inv X pins σ H s'->RelV v w'->Q w' s') :
   wpAny (model X.prog X.w) A (getItem (.ref a) u) Q E s:=by
 rcases g with ⟨kvs,k,e,ey,l⟩ | ⟨kvs,k,b,e,ey,eb,l⟩
 . subst ey
   obtain ⟨z,hd,vs,rel,dd⟩:=lJ I.hok e; obtain ⟨w',hw,rw'⟩:=RelO.some_of (v:=v) (o:=valueAt vs k) (by rw [l]; exact rel.val k)
   exact wpAny_getItem_of (kN ry) dd.mapOf hw (h w' _ (I.tok _) rw')
 . subst ey
   cases (show u=Value.ref b from ry)
   obtain ⟨z,hd,xs,rel,dd⟩:=cW I.hok e; obtain ⟨w',hw,rw'⟩:=RelO.some_of (v:=v) (o:=(atKey xs k).map (·.2)) (by rw [l]; exact rel.val k)
   obtain ⟨p,hp,hp2⟩:=Option.map_eq_some_iff.mp hw; refine wpAny_getItem_heap (tupleKind_room_in1 hu) (Vp I.hok eb) dd hp ?_; rw [hp2]; exact h w' _ (I.tok _) rw'
theorem d_in {Q:Value->Shared->Prop} (hu:A.units+1 < cLine) (I:Inv X pins σ H s) (g:DGet H a y o) (ry:RelV y u) (h:∀ s',Inv X pins σ H s'->Q (.bool o.isSome) s') :
   wpAny (model X.prog X.w) A (compareOp .In u (.ref a)) Q E s:=by
 rcases g with ⟨kvs,k,e,ey,l⟩ | ⟨kvs,k,b,e,ey,eb,l⟩
 . subst ey
   obtain ⟨z,hd,vs,rel,dd⟩:=lJ I.hok e; refine wpAny_in_of (kN ry) hd dd.mapOf ?_; rw [<- (rel.val k).isSome_eq,<- l]; exact h _ (I.tok _)
 . subst ey
   cases (show u=Value.ref b from ry)
   obtain ⟨z,hd,xs,rel,dd⟩:=cW I.hok e; refine wpAny_in_heap (tupleKind_room_in1 hu) (Vp I.hok eb) hd dd ?_; have q:=(rel.val k).isSome_eq; rw [Option.isSome_map] at q; rw [<- q,<- l]; exact h _ (I.tok _)
theorem pT {h':Heap} {t':Nat} {ob:HO} (I:Inv X pins σ H s) (mu:Mut (H a)) (hs:Heap.SameBut a s.heap h') (he:∃ q,h'.get? a=some q) (new:ObjOk X.prog X.w (upd H a ob) h' a ob) :
   Inv X pins σ (upd H a ob) { s with heap:=h',toks:=t' } :=
 I.write (x:=a) (e:=a) mu (.inl rfl) (fun b q hb z=>(hs.2 b hb).trans z) he new
end
def wH (i:Expr):Prop:=∀ ov iv,subscripted i false ov iv=operate [ov,iv] (getItem ov iv)
theorem mM {prog:Program} {w:World} {A:Around} {E:Value->Shared->Prop} {s:Shared} {env:Env} {value slice:Expr} {pos:Pos} {T id:String} {Q:Value->Shared->Prop}
   (hl:typeLookup (.type T) "__getitem__" = pure (some (.builtin id))) (hs:wH slice)
   (h:wpAny (model prog w) A (eval value env) (fun o s₁=>wpAny (model prog w) A (eval slice env) (fun i s₂=>s₂.TypeIs o T/\wpAny (model prog w) A (getItem o i) Q E s₂) E s₁) E s) :
   wpAny (model prog w) A (eval (.Subscript value slice pos) env) Q E s:=by
 refine Subscript_ (wpAny_mono h (fun o s₁ h₁=>wpAny_mono h₁ (fun i s₂ h₂=>?_) fun _ _ x=>x) fun _ _ x=>x)
 obtain ⟨hT,h₂⟩:=h₂
 unfold subscriptTail
 refine wpAny_bind ?_
 rw [getitemInPython_of_ne hT.not_modules]
 refine wpAny_bind (wpAny_specialOf hT hl ?_)
 have fin:wpAny (model prog w) A (subscripted slice false o i) (fun r s₃=>wpAny (model prog w) A (letTemporaryGo value o r>>=fun _=>pure r) Q E s₃) E s₂:=by
   rw [hs o i]; exact wpAny_operating (wpAny_mono h₂ (fun r s₃ h₃=>wpAny_bind (wpAny_letTemporaryGo (wpAny_pure h₃))) fun _ _ x=>x)
 first
   | exact wpAny_pure (wpAny_bind fin)
   | exact wpAny_bind (wpAny_pure (wpAny_bind fin))
   | exact wpAny_bind fin
theorem Ym {X:Cx} {pins:List (Addr×Obj)} {σ:St} {H:Hp} {s:Shared} {a:Addr} {y:V} {o:Option V} (I:Inv X pins σ H s) (g:DGet H a y o):s.TypeIs (.ref a) "dict" := by
 rcases g with ⟨kvs,k,e,_,_⟩ | ⟨kvs,k,b,e,_,_,_⟩
 . obtain ⟨_,_,vs,_,dd⟩:=lJ I.hok e
   exact dd.typeIs
 . obtain ⟨_,_,xs,_,dd⟩:=cW I.hok e
   exact dd.typeIs
def tDGet (td ty:TE):TE:=fun σ H Q=>td σ H fun x H1=>ty σ H1 fun y H2=>∃ a v,x=.ref a/\DGet H2 a y (some v)/\Q v H2
def tDIn (ty td:TE):TE:=fun σ H Q=>ty σ H fun y H1=>td σ H1 fun x H2=>∃ a o,x=.ref a/\DGet H2 a y o/\Q (.bl o.isSome) H2
section
variable {X:Cx} {o i:Expr} {pos:Pos} {td ty:TE}
theorem nL (hu:X.A.units+1 < cLine) (ho:PE X o td) (hi:PE X i ty) (hs:wH i):PE X (.Subscript o i pos) (tDGet td ty):=by
 intro pins s σ H Q I h
 refine mM PySem.F.slot_dict_getitem.lookup hs (thn (ho pins s σ H _ I h) fun u s1 hY37=>?_)
 obtain ⟨x,H1,I1,rx,q1⟩:=hY37
 refine thn (hi pins s1 σ H1 _ I1 q1) fun iv s2 hZ2=>?_
 obtain ⟨y,H2,I2,ry,a,v,ex,g,q2⟩:=hZ2
 subst ex
 obtain rfl:u=Value.ref a:=rx
 exact ⟨Ym I2 g,fS hu I2 g ry fun w' s3 I3 rw'=>⟨v,H2,I3,rw',q2⟩⟩
theorem uB (hu:X.A.units+1 < cLine) (hi:PE X i ty) (ho:PE X o td):PC X .In i o (tDIn ty td):=by
 intro pins s σ H Q I h
 refine thn (hi pins s σ H _ I h) fun iv s1 hY38=>?_
 obtain ⟨y,H1,I1,ry,q1⟩:=hY38
 refine thn (ho pins s1 σ H1 _ I1 q1) fun u s2 hZ2=>?_
 obtain ⟨x,H2,I2,rx,a,ov,ex,g,q2⟩:=hZ2
 subst ex
 obtain rfl:u=Value.ref a:=rx
 exact d_in hu I2 g ry fun s3 I3=>⟨.bl ov.isSome,H2,I3,rfl,q2⟩
end
theorem lI {P:Program} {w:World} {H:Hp} (h:Heap) (hb:sysModules < h.objs.size):ObjOk P w H (h.push { cls:=.type "dict",data:=.dict #[] }) h.objs.size (.dT []) :=
 ⟨Nat.zero_le _,beq_eq_false_iff_ne.mpr (Ne.symm (Nat.ne_of_lt hb)),[],.nil,_,#[],0,Heap.get?_push_size _ rfl,⟨rfl,rfl,rfl⟩,rfl,rfl,List.nodup_nil⟩
end L2
end
section
namespace Sm
open PySem PySem.Spec PyProof.Rows L2
inductive Res (α:Type) where
 | ok (a:α)
 | exc (c:Str)
 | no
noncomputable def Res.bind {α β:Type}:Res α->(α->Res β)->Res β
 | .ok a,k=>k a
 | .exc c,_=>.exc c
 | .no,_=>.no
noncomputable def ofO {α:Type}:Option α->Res α
 | some a=>.ok a
 | none=>.no
inductive Sl where
 | un
 | sh (d:PyData)
 | ow (d:PyData)
 | fd (kvs:List (PyData×PyData))
abbrev Dn:=List Sl
mutual
noncomputable def Rep (G:Hp):PyData->V->Prop
 | .none,v=>v=.non
 | .bool b,v=>v=.bl b
 | .int i,v=>v=.int i
 | .str x,v=>v=.str x/\PyData.strOk x=true/\x.length<=sizeLine
 | .list ds,v=>∃ a xs,v=.ref a/\Rd G a (.lst xs)/\RepL G ds xs
 | .tuple ds,v=>∃ a xs,v=.ref a/\G a=some (.tup xs)/\RepL G ds xs
 | .dict _,_=>False
noncomputable def RepL (G:Hp):List PyData->List V->Prop
 | [],xs=>xs=[]
 | d::ds,xs=>∃ x r,xs=x::r/\Rep G d x/\RepL G ds r
end
theorem Rd.mono {G G':Hp} (h:Same G G') {a:Addr} {u:HO} (r:Rd G a u):Rd G' a u:=by
 rcases r with r | ⟨o,r⟩
 . exact .inl (h _ _ r)
 . exact .inr ⟨o,h _ _ r⟩
mutual
theorem Rep.mono {G G':Hp} (h:Same G G'):∀ {d:PyData} {v:V},Rep G d v->Rep G' d v
 | .none,_,r=>r
 | .bool _,_,r=>r
 | .int _,_,r=>r
 | .str _,_,r=>r
 | .list _,_,r=>by obtain ⟨a,xs,e,q,l⟩:=r; exact ⟨a,xs,e,Rd.mono h q,RepL.mono h l⟩
 | .tuple _,_,r=>by obtain ⟨a,xs,e,q,l⟩:=r; exact ⟨a,xs,e,h _ _ q,RepL.mono h l⟩
 | .dict _,_,r=>r.elim
theorem RepL.mono {G G':Hp} (h:Same G G'):∀ {ds:List PyData} {xs:List V},RepL G ds xs->RepL G' ds xs
 | [],_,r=>r
 | _::_,_,r=>by obtain ⟨x,t,e,q,l⟩:=r; exact ⟨x,t,e,Rep.mono h q,RepL.mono h l⟩
end
mutual
theorem Rep.lay {G:Hp}:∀ {d:PyData} {v:V},Rep G d v->d.canLay0=true
 | .none,_,r=>rfl
 | .bool _,_,r=>rfl
 | .int _,_,r=>rfl
 | .str _,_,r=>r.2.1
 | .list _,_,r=>by obtain ⟨a,xs,e,q,l⟩:=r; exact RepL.lay l
 | .tuple _,_,r=>by obtain ⟨a,xs,e,q,l⟩:=r; exact RepL.lay l
 | .dict _,_,r=>r.elim
theorem RepL.lay {G:Hp}:∀ {ds:List PyData} {xs:List V},RepL G ds xs->PyData.canLayAll0 ds=true
 | [],_,r=>rfl
 | _::_,_,r=>by
   obtain ⟨x,t,e,q,l⟩:=r; rw [PyData.canLayAll0,Rep.lay q,RepL.lay l]; rfl
end
noncomputable section
variable {G:Hp}
theorem RepL.nil:RepL G [] []:=rfl
theorem RepL.cons {d:PyData} {ds:List PyData} {x:V} {xs:List V} (h:Rep G d x) (t:RepL G ds xs):RepL G (d::ds) (x::xs):=⟨x,xs,rfl,h,t⟩
theorem RepL.length:∀ {ds:List PyData} {xs:List V},RepL G ds xs->ds.length=xs.length:=by
 intro iN; induction iN with
 | nil=>intro _ r; cases (show _=_ from r); rfl
 | cons d ds ih=>intro _ r; obtain ⟨x,t,rfl,q,l⟩:=r; simp [ih l]
theorem RepL.get:∀ {ds:List PyData} {xs:List V} {i:Nat} {d:PyData},RepL G ds xs->ds[i]? = some d->∃ x,xs[i]? = some x/\Rep G d x
 | [],_,_,_,_,e=>by simp at e
 | d::ds,_,0,_,r,e=>by obtain ⟨x,t,rfl,q,l⟩:=r; simp at e; subst e; exact ⟨x,rfl,q⟩
 | d::ds,_,i+1,_,r,e=>by
   obtain ⟨x,t,rfl,q,l⟩:=r; obtain ⟨y,h1,h2⟩:=RepL.get (i:=i) l (by simpa using e)
   exact ⟨y,by simpa using h1,h2⟩
theorem RepL.append:∀ {ds es:List PyData} {xs ys:List V},RepL G ds xs->RepL G es ys->RepL G (ds++es) (xs++ys):=by
 intro iN; induction iN with
 | nil=>intro _ _ _ r q; cases (show _=_ from r); exact q
 | cons d ds ih=>intro _ _ _ r q; obtain ⟨x,t,rfl,h,l⟩:=r; exact RepL.cons h (ih l q)
theorem RepL.drop:∀ (n:Nat) {ds:List PyData} {xs:List V},RepL G ds xs->RepL G (ds.drop n) (xs.drop n)
 | 0,_,_,r=>r
 | _+1,[],_,r=>by cases (show _=_ from r); exact rfl
 | n+1,d::ds,_,r=>by obtain ⟨x,t,rfl,h,l⟩:=r; exact RepL.drop n l
theorem RepL.take:∀ (n:Nat) {ds:List PyData} {xs:List V},RepL G ds xs->RepL G (ds.take n) (xs.take n)
 | 0,_,_,r=>rfl
 | _+1,[],_,r=>by cases (show _=_ from r); exact rfl
 | n+1,d::ds,_,r=>by obtain ⟨x,t,rfl,h,l⟩:=r; exact RepL.cons h (RepL.take n l)
theorem RepL.reverse {ds:List PyData} {xs:List V} (r:RepL G ds xs):RepL G ds.reverse xs.reverse:=by
 induction ds generalizing xs with
 | nil=>cases (show _=_ from r); exact rfl
 | cons d ds ih =>
   obtain ⟨x,t,rfl,h,l⟩:=r; rw [List.reverse_cons,List.reverse_cons]; exact RepL.append (ih l) (RepL.cons h RepL.nil)
theorem RepL.rep {ds:List PyData} {xs:List V} (r:RepL G ds xs):∀ k:Nat,RepL G (List.replicate k ds).flatten (List.replicate k xs).flatten:=by
 intro iN; induction iN with
 | zero=>skip; exact rfl
 | succ k ih =>
   skip
   rw [List.replicate_succ,List.replicate_succ,List.flatten_cons,List.flatten_cons]; exact RepL.append r (ih)
theorem RepL.ints (ns:List Int):RepL G (ns.map PyData.int) (ns.map V.int):=by
 induction ns with
 | nil=>exact rfl
 | cons n ns ih=>exact RepL.cons rfl ih
end
structure Grow (G H G' H':Hp):Prop where
 g:Same G G'
 h:Same H H'
 gh:Same G' H'
 fr:∀ b o,G' b=some o->G b=some o\/H b=none\/∃ xs,o=HO.tup xs
theorem Grow.refl {G H:Hp} (h:Same G H):Grow G H G H:=⟨Same.refl _,Same.refl _,h,fun _ _ e=>.inl e⟩
theorem Grow.trans {G H G1 H1 G2 H2:Hp} (a:Grow G H G1 H1) (b:Grow G1 H1 G2 H2):Grow G H G2 H2 :=
 ⟨a.g.trans b.g,a.h.trans b.h,b.gh,fun c o e=>by
   rcases b.fr c o e with q | q | q
   . exact a.fr c o q
   . exact .inr (.inl (a.h.free q))
   . exact .inr (.inr q)⟩
theorem Same.upd {H:Hp} {p:Addr} {o:HO} (h:H p=none):Same H (upd H p o):=fun b u e=>by
 rw [E4 (M7 e h)]; exact e
theorem Grow.new {G H:Hp} {p:Addr} {o:HO} (s:Same G H) (h:H p=none):Grow G H (upd G p o) (upd H p o):=by
 have hg:G p=none:=s.free h
 refine ⟨Same.upd hg,Same.upd h,fun b u e=>?_,fun b u e=>?_⟩
 . by_cases hb:b=p
   . subst hb; rw [G8] at e ⊢; exact e
   . rw [E4 hb] at e ⊢; exact s _ _ e
 . by_cases hb:b=p
   . subst hb; exact .inr (.inl h)
   . rw [E4 hb] at e; exact .inl e
theorem Grow.own {G H:Hp} {p:Addr} {o:HO} (s:Same G H) (h:H p=none):Grow G H G (upd H p o) :=
 ⟨Same.refl _,Same.upd h,s.trans (Same.upd h),fun _ _ e=>.inl e⟩
noncomputable def Dk:Key->PyData
 | .inl i=>.int i
 | .inr x=>.str x
noncomputable def rM (kk:List (Key×V)):List (List Key×V):=kk.map fun p=>([p.1],p.2)
noncomputable def OwnK (G H:Hp) (a:Addr):List PyData->Prop
 | [.dict kvs]=>∃ kk:List (Key×V),H a=some (.dK kk)/\kvs.map (·.1)=(rM kk).map (fun p=>PyData.tuple (p.1.map Dk))/\RepL G (kvs.map (·.2)) ((rM kk).map (·.2))
 | [.dict kvs,.none]=>∃ kk:List (PyData×V),H a=some (.dN kk)/\kvs.map (·.1)=kk.map (·.1)/\RepL G (kvs.map (·.2)) (kk.map (·.2))
 | _=>False
theorem OwnK.keep {G G' H H':Hp} {a:Addr} {xs:List PyData} (g:Same G G') (e:∀ o,H a=some o->H' a=some o) (h:OwnK G H a xs):OwnK G' H' a xs:=by
 unfold OwnK at h ⊢
 split at h
 . obtain ⟨kk,h1,h2,h3⟩:=h
   exact ⟨kk,e _ h1,h2,h3.mono g⟩
 . obtain ⟨kk,h1,h2,h3⟩:=h
   exact ⟨kk,e _ h1,h2,h3.mono g⟩
 . exact h.elim
theorem OwnK.is {G H:Hp} {a:Addr} {xs:List PyData} (h:OwnK G H a xs):∃ o,H a=.some o:=by
 unfold OwnK at h
 split at h
 . obtain ⟨kk,h1,_⟩:=h
   exact ⟨_,h1⟩
 . obtain ⟨kk,h1,_⟩:=h
   exact ⟨_,h1⟩
 . exact h.elim
noncomputable def OwnOk (G H:Hp) (a:Addr):PyData->Prop
 | .list ds=>∃ xs,H a=some (.lst xs)/\RepL G ds xs
 | .dict kvs=>∃ kk:List (List Key×V),H a=some (.dT kk)/\kvs.map (·.1)=kk.map (fun p=>PyData.tuple (p.1.map Dk))/\RepL G (kvs.map (·.2)) (kk.map (·.2))
 | .tuple xs=>OwnK G H a xs
 | _=>False
def FdOk (G:Hp) (o:Option V) (kvs:List (PyData×PyData)):Prop:=match kvs with
 | (.dict [],.none)::r=>∃ a,∃ kk:List (PyData×V),o=some (.ref a)/\Rd G a (.dN kk)/\r.map (·.1)=kk.map (·.1)/\RepL G (r.map (·.2)) (kk.map (·.2))
 | _=>∃ a ob,∃ kk:List (List Key×V),o=some (.ref a)/\G a=some (.frz ob (.dT kk))/\kvs.map (·.1)=kk.map (fun p=>PyData.tuple (p.1.map Dk))/\RepL G (kvs.map (·.2)) (kk.map (·.2))
theorem FdOk.mono {G G':Hp} {o:Option V} {kvs:List (PyData×PyData)} (g:Same G G') (h:FdOk G o kvs):FdOk G' o kvs:=by
 unfold FdOk at h ⊢
 split at h
 . obtain ⟨a,kk,h1,h2,h3,h4⟩:=h
   exact ⟨a,kk,h1,Rd.mono g h2,h3,h4.mono g⟩
 . obtain ⟨a,ob,kk,h1,h2,h3,h4⟩:=h
   exact ⟨a,ob,kk,h1,g _ _ h2,h3,h4.mono g⟩
noncomputable def SlOk (G H:Hp) (o:Option V):Sl->Prop
 | .un=>True
 | .sh d=>∃ v,o=some v/\Rep G d v
 | .ow d=>∃ a,o=some (.ref a)/\G a=none/\OwnOk G H a d
 | .fd kvs=>FdOk G o kvs
structure SR (G H:Hp) (σ:St) (δ:Dn):Prop where
 sub:Same G H
 len:σ.length=δ.length
 sl:∀ (i:Nat) (s:Sl),δ[i]? = some s->SlOk G H (σ[i]?.join) s
 ap:∀ (i j:Nat) (a:Addr) (d e:PyData),δ[i]? = some (.ow d)->δ[j]? = some (.ow e)->σ[i]?.join=some (.ref a)->σ[j]?.join=some (.ref a)->i=j
theorem OwnOk.some {G H:Hp} {a:Addr} {d:PyData} (h:OwnOk G H a d):∃ o,H a=some o:=by
 cases d with
 | list ds=>obtain ⟨xs,e,_⟩:=h; exact ⟨_,e⟩
 | dict kvs=>obtain ⟨xs,e,_⟩:=h; exact ⟨_,e⟩
 | tuple xs=>exact OwnK.is h
 | _=>exact (show False from h).elim
theorem OwnOk.grow {G H G' H':Hp} (g:Grow G H G' H') {a:Addr} {d:PyData} (h:OwnOk G H a d):OwnOk G' H' a d:=by
 cases d with
 | list ds=>obtain ⟨xs,e,r⟩:=h; exact ⟨xs,g.h _ _ e,r.mono g.g⟩
 | dict kvs=>obtain ⟨xs,e,k,r⟩:=h; exact ⟨xs,g.h _ _ e,k,r.mono g.g⟩
 | tuple xs=>exact OwnK.keep g.g (fun o e=>g.h _ _ e) h
 | _=>exact (show False from h).elim
theorem OwnOk.noTup {G H:Hp} {a:Addr} {d:PyData} (h:OwnOk G H a d) {xs:List V} (e:H a=.some (HO.tup xs)):False:=by
 cases d with
 | list ds=>obtain ⟨_,z,_⟩:=h; rw [e] at z; cases z
 | dict kvs=>obtain ⟨_,z,_⟩:=h; rw [e] at z; cases z
 | tuple ys =>
   have h':OwnK G H a ys:=h; unfold OwnK at h'
   split at h'
   . obtain ⟨_,z,_⟩:=h'; rw [e] at z; cases z
   . obtain ⟨_,z,_⟩:=h'; rw [e] at z; cases z
   . exact h'
 | _=>exact (show False from h).elim
theorem SlOk.grow {G H G' H':Hp} (g:Grow G H G' H') {o:Option V} {s:Sl} (h:SlOk G H o s):SlOk G' H' o s:=by
 cases s with
 | un=>trivial
 | sh d=>obtain ⟨v,e,r⟩:=h; exact ⟨v,e,r.mono g.g⟩
 | fd kvs=>exact FdOk.mono g.g h
 | ow d =>
   obtain ⟨a,e,n,r⟩:=h; refine ⟨a,e,?_,r.grow g⟩
   cases q:G' a with
   | none=>rfl
   | some u =>
     obtain ⟨o',eo⟩:=r.some; rcases g.fr a u q with z | z | ⟨xs,rfl⟩
     . rw [n] at z; cases z
     . rw [eo] at z; cases z
     . exact ((r.grow g).noTup (g.gh _ _ q)).elim
theorem SR.grow {G H G' H':Hp} {σ:St} {δ:Dn} (S:SR G H σ δ) (g:Grow G H G' H'):SR G' H' σ δ :=
 ⟨g.gh,S.len,fun i s e=>(S.sl i s e).grow g,S.ap⟩
abbrev EK:=Str->Hp->Prop
def Aft (E:EK) (G H:Hp) (r:Res PyData) (Q:VK):Prop:=match r with
 | .ok d=>∀ v G' H',Grow G H G' H'->Rep G' d v->Q v H'
 | .exc c=>∀ G' H',Grow G H G' H'->E c H'
 | .no=>False
def tD (E:EK) (f:Dn->Res PyData):TE:=fun σ H Q=>∃ G δ,SR G H σ δ/\Aft E G H (f δ) Q
abbrev DE (X:Cx) (E:EK) (e:Expr) (f:Dn->Res PyData):Prop:=PE X e (tD E f)
theorem Aft.grow {E:EK} {G H G' H':Hp} {r:Res PyData} {Q:VK} (g:Grow G H G' H') (a:Aft E G H r Q):Aft E G' H' r Q:=by
 cases r with
 | ok d=>exact fun v G2 H2 g2 q=>a v G2 H2 (g.trans g2) q
 | exc c=>exact fun G2 H2 g2=>a G2 H2 (g.trans g2)
 | no=>exact a
theorem PE.imp {X:Cx} {e:Expr} {t t':TE} (h:PE X e t) (i:∀ σ H Q,t' σ H Q->t σ H Q):PE X e t':=fun pins s σ H Q I q=>h pins s σ H Q I (i _ _ _ q)
theorem M6 {E:EK} {G H:Hp} {σ:St} {δ:Dn} {f:Dn->Res PyData} {k:PyData->Res PyData} {Q R:VK} (S:SR G H σ δ) (a:Aft E G H ((f δ).bind k) Q)
   (h:∀ d v G1 H1,Grow G H G1 H1->Rep G1 d v->SR G1 H1 σ δ->Aft E G1 H1 (k d) Q->R v H1):tD E f σ H R:=by
 refine ⟨G,δ,S,?_⟩
 cases e:f δ with
 | ok d =>
   rw [e] at a; exact fun v G' H' g r=>h d v G' H' g r (S.grow g) (Aft.grow g a)
 | exc c=>rw [e] at a; exact a
 | no=>rw [e] at a; exact a
noncomputable section
variable {X:Cx} {E:EK} {pos:Pos}
noncomputable def vC (d:PyData):Dn->Res PyData:=fun _=>.ok d
noncomputable def A2 (i:Nat):Dn->Res PyData:=fun δ=>match δ[i]? with
 | some (.sh d)=>.ok d
 | _=>.no
theorem A6 {i:Int} {j:Nat}:DE X E (.Constant (.int i) j pos) (vC (.int i)):=PE.imp jI fun σ H Q hZ3=>by obtain ⟨G,δ,S,a⟩:=hZ3; exact a _ G H (Grow.refl S.sub) rfl
theorem N5 {b:Bool} {j:Nat}:DE X E (.Constant (.bool b) j pos) (vC (.bool b)):=PE.imp pe_bl fun σ H Q hZ3=>by obtain ⟨G,δ,S,a⟩:=hZ3; exact a _ G H (Grow.refl S.sub) rfl
theorem Dl {j:Nat}:DE X E (.Constant .none j pos) (vC .none):=PE.imp tW fun σ H Q hZ3=>by obtain ⟨G,δ,S,a⟩:=hZ3; exact a _ G H (Grow.refl S.sub) rfl
theorem E1 {x:Str} {j:Nat} (h:PyData.strOk x=true:=by decide +kernel) (hl:x.length<=sizeLine:=by decide +kernel):DE X E (.Constant (.str x) j pos) (vC (.str x)) :=
 PE.imp jG fun σ H Q hZ3=>by obtain ⟨G,δ,S,a⟩:=hZ3; exact a _ G H (Grow.refl S.sub) ⟨rfl,h,hl⟩
theorem vO {i:Nat} {x:Str} (hN:X.N[i]? = some x) (hv:Vis X.env.scope x) (hd:(x==("__debug__" : Str))=false) (hcd:(x==("__classdict__" : Str))=false):DE X E (.Name x pos) (A2 i) :=
 PE.imp (aP hN hv hd hcd) fun σ H Q hZ3=>by
   obtain ⟨G,δ,S,a⟩:=hZ3; unfold A2 at a
   split at a
   . rename_i d e
     obtain ⟨v,e1,r⟩:=S.sl i _ e; refine ⟨v,?_,a _ G H (Grow.refl S.sub) r⟩
     cases q:σ[i]? with
     | none=>rw [q] at e1; cases e1
     | some w=>rw [q] at e1; cases w with
       | none=>cases e1
       | some w=>cases e1; rfl
   . exact a.elim
noncomputable def b2 (f g:Dn->Res PyData) (op:PyData->PyData->Option PyData):Dn->Res PyData:=fun δ=>(f δ).bind fun x=>(g δ).bind fun y=>ofO (op x y)
def OpD (r:R2) (op:PyData->PyData->Option PyData):Prop:=∀ (G H:Hp) (x y:V) (a b d:PyData) (Q:VK),Same G H->Rep G a x->Rep G b y->op a b=some d->(∀ v G' H',Grow G H G' H'->Rep G' d v->Q v H')->r x y H Q
theorem gX {r:R2} {op:PyData->PyData->Option PyData} {f g:Dn->Res PyData} (ho:OpD r op) {σ:St} {H:Hp} {Q:VK} (h:tD E (b2 f g op) σ H Q):tOp r (tD E f) (tD E g) σ H Q:=by
 obtain ⟨G,δ,S,a⟩:=h
 refine M6 S a fun d1 v1 G1 H1 g1 r1 S1 a1=>?_
 refine M6 S1 a1 fun d2 v2 G2 H2 g2 r2 S2 a2=>?_
 cases e:op d1 d2 with
 | none=>rw [e] at a2; exact a2.elim
 | some d=>rw [e] at a2; exact ho G2 H2 v1 v2 d1 d2 d Q S2.sub (r1.mono g2.g) r2 e a2
theorem Tp {a b:Expr} {o:Operator} {r:R2} {op:PyData->PyData->Option PyData} {f g:Dn->Res PyData} (hr:OpR X (binaryOp o) r) (ho:OpD r op) (ha:DE X E a f) (hb:DE X E b g):DE X E (.BinOp a o b pos) (b2 f g op) :=
 PE.imp (pe_op hr ha hb) fun _ _ _ h=>gX ho h
theorem cZ {a b:Expr} {o:CmpOp} {r:R2} {op:PyData->PyData->Option PyData} {f g:Dn->Res PyData} (hr:OpR X (compareOp o) r) (ho:OpD r op) (ha:DE X E a f) (hb:DE X E b g) (hm:behindInMarks o b=false):DE X E (.Compare a [o] [b] pos) (b2 f g op) :=
 PE.imp (nN hr ha hb hm) fun _ _ _ h=>gX ho h
end
end Sm
end
noncomputable section
set_option backward.match.sparseCases false
namespace Sm
open PySem PySem.Spec PyProof.Rows L2
noncomputable section
variable {X:Cx} {pins:List (Addr×Obj)} {σ:St} {H G:Hp} {s:Shared}
theorem X2 (I:Inv X pins σ H s) {a:Addr} {xs:List V} (hG:Same G H) (r:Rd G a (.lst xs)):xs.length<=sizeLine/\∃ (its:List Value) (n:Nat),Vals xs its/\s.heap.get? a=some { cls:=.type "list",data:=.seq its.toArray n } :=
 (Rd.ok (Rd.mono hG r) I.hok:ObjOk X.prog X.w H s.heap a (.lst xs))
theorem Bb (I:Inv X pins σ H s) {a:Addr} {xs:List V} (hG:Same G H) (r:G a=some (.tup xs)):xs.length<=sizeLine/\∃ its:List Value,Vals xs its/\IsTup s.heap a its.toArray :=
 (I.hok a _ (hG _ _ r):ObjOk X.prog X.w H s.heap a (.tup xs))
mutual
theorem Rep.reads (I:Inv X pins σ H s) (hG:Same G H):∀ {d:PyData} {v:V} {u:Value},Rep G d v->RelV v u->∃ as,Reads s.heap u d as
 | .none,_,_,r,q=>by cases (show _=_ from r); cases q; exact ⟨_,.none⟩
 | .bool _,_,_,r,q=>by cases (show _=_ from r); cases q; exact ⟨_,.bool _⟩
 | .int _,_,_,r,q=>by cases (show _=_ from r); obtain ⟨t,rfl⟩:=q; exact ⟨_,.int _ _⟩
 | .str _,_,_,r,q=>by cases r.1; obtain ⟨t,rfl⟩:=q; exact ⟨_,.str _ _⟩
 | .list _,_,_,r,q=>by
   obtain ⟨a,xs,rfl,h,l⟩:=r; cases q; obtain ⟨z,its,n,rv,e⟩:=X2 I hG h; obtain ⟨as,ra⟩:=RepL.reads I hG l rv; exact ⟨_,.list e rfl rfl (by simpa using ra)⟩
 | .tuple _,_,_,r,q=>by
   obtain ⟨a,xs,rfl,h,l⟩:=r; cases q; obtain ⟨z,its,rv,o,e,c,n,hd⟩:=Bb I hG h; obtain ⟨as,ra⟩:=RepL.reads I hG l rv; exact ⟨_,.tuple e c hd (by simpa using ra)⟩
 | .dict _,_,_,r,_=>r.elim
theorem RepL.reads (I:Inv X pins σ H s) (hG:Same G H):∀ {ds:List PyData} {xs:List V} {us:List Value},RepL G ds xs->Vals xs us->∃ as,ReadsAll s.heap us ds as
 | [],_,_,r,q=>by cases (show _=_ from r); cases q; exact ⟨_,.nil⟩
 | _::_,_,_,r,q=>by
   obtain ⟨x,t,rfl,h,l⟩:=r
   cases q with
   | cons q qs =>
     obtain ⟨as,r1⟩:=Rep.reads I hG h q; obtain ⟨bs,r2⟩:=RepL.reads I hG l qs; exact ⟨_,.cons r1 r2⟩
end
end
noncomputable def dEq (a b:PyData):Option PyData:=if min a.depth b.depth<=64 then some (.bool (PyData.eqv a b)) else none
noncomputable def dNe (a b:PyData):Option PyData:=if min a.depth b.depth<=64 then some (.bool (!PyData.eqv a b)) else none
def mY (neg:Bool):R2:=fun x y H Q=>∃ G a b,Same G H/\Rep G a x/\Rep G b y/\min a.depth b.depth<=64/\Q (.bl (if neg then !PyData.eqv a b else PyData.eqv a b)) H
noncomputable section
variable {X:Cx}
theorem jO (hu:X.A.units+64 < cLine):OpR X (compareOp .Eq) (mY false):=by
 rintro pins s σ H x y v u Q I rx ry ⟨G,a,b,hG,ra,rb,hm,q⟩
 obtain ⟨as,r1⟩:=ra.reads I hG rx
 obtain ⟨bs,r2⟩:=rb.reads I hG ry
 exact SeqAt.compareEq_reads r1 r2 ra.lay rb.lay (by lia) ⟨.bl _,H,I,rfl,q⟩
theorem uE (hu:X.A.units+64 < cLine):OpR X (compareOp .NotEq) (mY true):=by
 rintro pins s σ H x y v u Q I rx ry ⟨G,a,b,hG,ra,rb,hm,q⟩
 obtain ⟨as,r1⟩:=ra.reads I hG rx
 obtain ⟨bs,r2⟩:=rb.reads I hG ry
 exact SeqAt.compareNe_reads r1 r2 ra.lay rb.lay (by lia) ⟨.bl _,H,I,rfl,q⟩
theorem jQ:OpD (mY false) dEq:=by
 intro G H x y a b d Q hG ra rb e q
 unfold dEq at e
 split at e
 . rename_i h; cases e; exact ⟨G,a,b,hG,ra,rb,h,q _ G H (Grow.refl hG) rfl⟩
 . cases e
theorem uG:OpD (mY true) dNe:=by
 intro G H x y a b d Q hG ra rb e q
 unfold dNe at e
 split at e
 . rename_i h; cases e; exact ⟨G,a,b,hG,ra,rb,h,q _ G H (Grow.refl hG) rfl⟩
 . cases e
end
noncomputable def Fk (x y:Str):Bool := !(Builtin.Str.occurrences y x 0 y.length 1).isEmpty
noncomputable def dIn (neg:Bool) (a b:PyData):Option PyData:=match b with
 | .list ds=>if min (PyData.depthAll ds) a.depth<=62 then some (.bool (if neg then !ds.any fun y=>PyData.eqv y a else ds.any fun y=>PyData.eqv y a)) else none
 | .tuple ds=>if min (PyData.depthAll ds) a.depth<=62 then some (.bool (if neg then !ds.any fun y=>PyData.eqv y a else ds.any fun y=>PyData.eqv y a)) else none
 | .str y=>match a with
   | .str x=>some (.bool (if neg then !Fk x y else Fk x y))
   | _=>none
 | _=>none
def tG (neg:Bool):R2:=fun x y H Q=>∃ G a b d,Same G H/\Rep G a x/\Rep G b y/\dIn neg a b=some (.bool d)/\Q (.bl d) H
noncomputable section
variable {X:Cx}
theorem jN (hu:X.A.units+64 < cLine):OpR X (compareOp .In) (tG false):=by
 rintro pins s σ H x y v u Q I rx ry ⟨G,a,b,d,hG,ra,rb,e,q⟩
 cases b with
 | list ds =>
   replace e:(if _ then _ else _)=some _:=e
   split at e
   . rename_i h
     cases e; obtain ⟨as,r1⟩:=ra.reads I hG rx; obtain ⟨bs,r2⟩:=rb.reads I hG ry; exact SeqAt.in_list_reads r2 r1 rb.lay ra.lay (by lia) ⟨.bl _,H,I,rfl,q⟩
   . cases e
 | tuple ds =>
   replace e:(if _ then _ else _)=some _:=e
   split at e
   . rename_i h
     cases e; obtain ⟨as,r1⟩:=ra.reads I hG rx; obtain ⟨bs,r2⟩:=rb.reads I hG ry; exact SeqAt.in_tuple_reads r2 r1 rb.lay ra.lay (by lia) ⟨.bl _,H,I,rfl,q⟩
   . cases e
 | str z =>
   cases a with
   | str z' =>
     cases e
     cases ra.1; cases rb.1
     obtain ⟨t,rfl⟩:=rx; obtain ⟨t',rfl⟩:=ry; exact in_str ⟨.bl _,H,I,rfl,q⟩
   | _=>cases e
 | _=>cases e
theorem eO (hu:X.A.units+64 < cLine):OpR X (compareOp .NotIn) (tG true):=by
 rintro pins s σ H x y v u Q I rx ry ⟨G,a,b,d,hG,ra,rb,e,q⟩
 cases b with
 | list ds =>
   replace e:(if _ then _ else _)=some _:=e
   split at e
   . rename_i h
     cases e; obtain ⟨as,r1⟩:=ra.reads I hG rx; obtain ⟨bs,r2⟩:=rb.reads I hG ry; exact SeqAt.notIn_list_reads r2 r1 rb.lay ra.lay (by lia) ⟨.bl _,H,I,rfl,q⟩
   . cases e
 | tuple ds =>
   replace e:(if _ then _ else _)=some _:=e
   split at e
   . rename_i h
     cases e; obtain ⟨as,r1⟩:=ra.reads I hG rx; obtain ⟨bs,r2⟩:=rb.reads I hG ry; exact SeqAt.notIn_tuple_reads r2 r1 rb.lay ra.lay (by lia) ⟨.bl _,H,I,rfl,q⟩
   . cases e
 | str z =>
   cases a with
   | str z' =>
     cases e
     cases ra.1; cases rb.1
     obtain ⟨t,rfl⟩:=rx; obtain ⟨t',rfl⟩:=ry; exact notIn_str ⟨.bl _,H,I,rfl,q⟩
   | _=>cases e
 | _=>cases e
theorem Qh {neg:Bool} {a b d:PyData} (e:dIn neg a b=some d):∃ k,d=.bool k:=by
 cases b with
 | list ds=>replace e:(if _ then _ else _)=some _:=e; split at e <;> cases e; exact ⟨_,rfl⟩
 | tuple ds=>replace e:(if _ then _ else _)=some _:=e; split at e <;> cases e; exact ⟨_,rfl⟩
 | str z=>cases a with
   | str z'=>cases e; exact ⟨_,rfl⟩
   | _=>cases e
 | _=>cases e
theorem aR {neg:Bool}:OpD (tG neg) (dIn neg):=by
 intro G H x y a b d Q hG ra rb e q
 obtain ⟨k,rfl⟩:=Qh e
 exact ⟨G,a,b,k,hG,ra,rb,e,q _ G H (Grow.refl hG) rfl⟩
end
noncomputable def C7:PyData->PyData->Option PyData
 | .int i,.int j=>some (.int (i+j))
 | .str x,.str y=>if x.length+y.length<=sizeLine then some (.str (x++y)) else none
 | .list xs,.list ys=>if xs.length+ys.length<=sizeLine then some (.list (xs++ys)) else none
 | .tuple xs,.tuple ys=>if xs.length+ys.length<=sizeLine then some (.tuple (xs++ys)) else none
 | _,_=>none
def qZ:R2:=fun x y H Q=>∃ G a b d,Same G H/\Rep G a x/\Rep G b y/\C7 a b=some d/\∀ v G' H',Grow G H G' H'->Rep G' d v->Q v H'
theorem Df {x y:Str} (hx:PyData.strOk x=true) (hy:PyData.strOk y=true):PyData.strOk (x++y)=true:=by
 unfold PyData.strOk at *
 show (x.cps++y.cps).all _=true
 rw [Array.all_append,hx,hy]; rfl
theorem On (x y:Str):(x++y).length=x.length+y.length:=by
 show (x.cps++y.cps).size=_
 rw [Array.size_append]; rfl
noncomputable section
variable {X:Cx}
theorem Ny {pins:List (Addr×Obj)} {σ:St} {H G:Hp} {s:Shared} {Q:VK} {ds:List PyData} {xs:List V} {its:List Value} {t':Nat} (I:Inv X pins σ H s) (hG:Same G H) (rv:Vals xs its) (rl:RepL G ds xs) (hz:xs.length<=sizeLine)
   (q:∀ v G' H',Grow G H G' H'->Rep G' (.tuple ds) v->Q v H'):EP X pins σ Q (.ref s.heap.objs.size) { s with heap:=s.heap.push { cls:=.type "tuple",data:=.seq its.toArray },toks:=t' }:=by
 refine ⟨.ref s.heap.objs.size,_,I.laid (t':=t') (o:=.tup xs) (fun b ob q=>Heap.get?_push_of_some _ q) (Nat.le_refl _) ⟨hz,its,rv,IsTup.new _ _⟩,rfl,q _ (upd G s.heap.objs.size (.tup xs)) _ (Grow.new hG I.fresh) ⟨_,xs,rfl,G8,rl.mono (Same.upd (hG.free I.fresh))⟩⟩
theorem Vs {pins:List (Addr×Obj)} {σ:St} {H G:Hp} {s:Shared} {Q:VK} {ds:List PyData} {xs:List V} {its:List Value} {t':Nat} (I:Inv X pins σ H s) (hG:Same G H) (rv:Vals xs its) (rl:RepL G ds xs) (hz:xs.length<=sizeLine)
   (q:∀ v G' H',Grow G H G' H'->Rep G' (.list ds) v->Q v H'):EP X pins σ Q (.ref s.heap.objs.size) { s with heap:=s.heap.push { cls:=.type "list",data:=.seq its.toArray },toks:=t' }:=by
 refine ⟨.ref s.heap.objs.size,_,I.lnew (t':=t') rv hz,rfl,q _ (upd G s.heap.objs.size (.lst xs)) _ (Grow.new hG I.fresh) ⟨_,xs,rfl,.inl G8,rl.mono (Same.upd (hG.free I.fresh))⟩⟩
theorem nV:OpR X (binaryOp .Add) qZ:=by
 rintro pins s σ H x y v u Q I rx ry ⟨G,a,b,d,hG,ra,rb,e,q⟩
 cases a with
 | int i=>cases b with
   | int j =>
     cases e
     cases (show _=_ from ra); cases (show _=_ from rb)
     obtain ⟨t,rfl⟩:=rx; obtain ⟨t',rfl⟩:=ry; exact add_int ⟨.int _,H,I.tok _,⟨_,rfl⟩,q _ G H (Grow.refl hG) rfl⟩
   | _=>cases e
 | str i=>cases b with
   | str j =>
     replace e:(if _ then _ else _)=some d:=e
     split at e
     . rename_i hz
       cases e; obtain ⟨e1,o1,_⟩:=ra; obtain ⟨e2,o2,_⟩:=rb
       cases e1; cases e2
       obtain ⟨t,rfl⟩:=rx; obtain ⟨t',rfl⟩:=ry; exact add_str (fun t' tk=>⟨.str (i++j),H,I.tok _,⟨_,rfl⟩,q _ G H (Grow.refl hG) ⟨rfl,Df o1 o2,by rw [On]; exact hz⟩⟩) hz
     . cases e
   | _=>cases e
 | list xs=>cases b with
   | list ys =>
     replace e:(if _ then _ else _)=some d:=e
     split at e
     . rename_i hz
       cases e; obtain ⟨l,vs,rfl,h1,l1⟩:=ra; obtain ⟨l',ws,rfl,h2,l2⟩:=rb
       cases rx; cases ry
       obtain ⟨z1,its1,n1,v1,e1⟩:=X2 I hG h1; obtain ⟨z2,its2,n2,v2,e2⟩:=X2 I hG h2; have q1:=v1.length; have q2:=v2.length; have q3:=l1.length; have q4:=l2.length; refine PySem.P.add_list e1 e2 ?_ (by rw [List.size_toArray,List.size_toArray]; lia)
       have ea:its1.toArray++its2.toArray=(its1++its2).toArray:=by simp
       rw [ea]; exact Vs (t':=s.toks) I hG (v1.append v2) (l1.append l2) (by rw [List.length_append]; lia) q
     . cases e
   | _=>cases e
 | tuple xs=>cases b with
   | tuple ys =>
     replace e:(if _ then _ else _)=some d:=e
     split at e
     . rename_i hz
       cases e; obtain ⟨l,vs,rfl,h1,l1⟩:=ra; obtain ⟨l',ws,rfl,h2,l2⟩:=rb
       cases rx; cases ry
       obtain ⟨z1,its1,v1,p1⟩:=Bb I hG h1; obtain ⟨z2,its2,v2,p2⟩:=Bb I hG h2; have q1:=v1.length; have q2:=v2.length; have q3:=l1.length; have q4:=l2.length
       by_cases hx:its1=[]
       . subst hx
         obtain ⟨⟨cls,dd,data,sl⟩,ho,hc,n,hd⟩:=id p1; obtain ⟨⟨cls2,dd2,data2,sl2⟩,ho2,hc2,n2,hd2⟩:=id p2; simp only at hc hd hc2 hd2; subst hc hd hc2 hd2; refine concat_meets ⟨_,ho,rfl⟩ ⟨_,ho2,rfl⟩ noFill_tuple_add seq_tuple_add PySem.F.slot_tuple_add PySem.F.entry_tuple_add (PySem.F.args_tuple_add_2 _ _)
           (tuple_addW0 l l' _ _ n n2 dd dd2 sl sl2 (by simp)) ⟨ho,ho2,?_⟩
         have hxs:xs=[]:=by
           have:xs.length=0:=by rw [q3,q1]; rfl
           exact List.length_eq_zero_iff.mp this
         subst hxs; exact ⟨.ref l',H,I,rfl,q _ G H (Grow.refl hG) ⟨l',ws,rfl,h2,l2⟩⟩
       . refine HT.cat_tup p1 p2 hx (fun hy=>?_) (fun hy=>?_) (by lia)
         . subst hy
           have hys:ys=[]:=by
             have:ys.length=0:=by rw [q4,q2]; rfl
             exact List.length_eq_zero_iff.mp this
           subst hys; rw [List.append_nil] at q; exact ⟨.ref l,H,I,rfl,q _ G H (Grow.refl hG) ⟨l,vs,rfl,h1,l1⟩⟩
         . exact Ny (t':=s.toks) I hG (v1.append v2) (l1.append l2) (by rw [List.length_append]; lia) q
     . cases e
   | _=>cases e
 | _=>cases e
theorem oA:OpD qZ C7:=fun G H x y a b d Q hG ra rb e q=>⟨G,a,b,d,hG,ra,rb,e,q⟩
noncomputable def Jz:PyData->PyData->Option PyData
 | .int i,.int j=>some (.int (i - j))
 | _,_=>none
noncomputable def W0:PyData->PyData->Option PyData
 | .int i,.int j=>if 0 < j then some (.int (i % j)) else none
 | _,_=>none
noncomputable def Q3:PyData->PyData->Option PyData
 | .int i,.int j=>if 0 < j/\j < 1073741824 then some (.int (i / j)) else none
 | _,_=>none
noncomputable def bE:PyData->PyData->Option PyData
 | .int i,.int j=>if 0<=j/\j<=1000000/\i.natAbs < 2 ^ 64 then some (.int (i ^ j.toNat)) else none
 | _,_=>none
theorem Nr {r:R2} {op:PyData->PyData->Option PyData} (h:∀ a b d,op a b=some d->∃ i j k,a=.int i/\b=.int j/\d=.int k/\∀ H Q,Q (V.int k) H->r (.int i) (.int j) H Q):OpD r op:=by
 intro G H x y a b d Q hG ra rb e q
 obtain ⟨i,j,k,rfl,rfl,rfl,hr⟩:=h a b d e
 cases (show _=_ from ra); cases (show _=_ from rb)
 exact hr H Q (q _ G H (Grow.refl hG) rfl)
theorem nW:OpD (rI0 fun i j=>.int (i - j)) Jz:=Nr fun a b d e=>by
 unfold Jz at e
 split at e
 . cases e; exact ⟨_,_,_,rfl,rfl,rfl,fun H Q q=>⟨_,_,rfl,rfl,q⟩⟩
 . cases e
theorem nZ:OpD (rI (fun _ j=>0 < j) fun i j=>.int (i % j)) W0:=Nr fun a b d e=>by
 unfold W0 at e
 split at e
 . split at e
   . rename_i h; cases e; exact ⟨_,_,_,rfl,rfl,rfl,fun H Q q=>⟨_,_,rfl,rfl,h,q⟩⟩
   . cases e
 . cases e
theorem jP:OpD (rI CDiv fun i j=>.int (i / j)) Q3:=Nr fun a b d e=>by
 unfold Q3 at e
 split at e
 . split at e
   . rename_i h; cases e; exact ⟨_,_,_,rfl,rfl,rfl,fun H Q q=>⟨_,_,rfl,rfl,h,q⟩⟩
   . cases e
 . cases e
theorem nX:OpD (rI CPow fun i j=>.int (i ^ j.toNat)) bE:=Nr fun a b d e=>by
 unfold bE at e
 split at e
 . split at e
   . rename_i h; cases e; exact ⟨_,_,_,rfl,rfl,rfl,fun H Q q=>⟨_,_,rfl,rfl,h,q⟩⟩
   . cases e
 . cases e
end
end Sm
end
noncomputable section
namespace Sm
open PySem PySem.Spec PyProof.Rows L2
open PySem.AutoSeq1 (wpAny_loadPart')
noncomputable def P0 (n:Nat) (x:Str):Str:=⟨(List.replicate n x.cps).foldl (· ++ ·) #[]⟩
theorem fP (l:List (Array Nat)):∀ acc:Array Nat,(l.foldl (· ++ ·) acc).toList=acc.toList++(l.map Array.toList).flatten:=by
 induction l with
 | nil=>intro acc; simp
 | cons a l ih=>intro acc; rw [List.foldl_cons,ih]; simp
theorem X1 (n:Nat) (x:Str):(P0 n x).cps.toList=(List.replicate n x.cps.toList).flatten:=by
 unfold P0
 rw [fP]; simp
theorem dX {x:Str} (h:PyData.strOk x=true) (n:Nat):PyData.strOk (P0 n x)=true:=by
 unfold PyData.strOk at *
 rw [<- Array.all_toList,List.all_eq_true] at *
 rw [X1]
 intro c hc
 obtain ⟨l,hl,hc⟩:=List.mem_flatten.mp hc
 rw [List.eq_of_mem_replicate hl] at hc
 exact h c hc
theorem Oo (n:Nat) (x:Str):(P0 n x).length=n*x.length:=by
 show (P0 n x).cps.size=n*x.cps.size
 rw [<- Array.length_toList,X1,Nu,Array.length_toList]
theorem Xh (x:Str):P0 0 x=Str.empty:=rfl
theorem Zo (x:Str):P0 1 x=x:=by
 have:(P0 1 x).cps=x.cps:=by
   apply Array.toList_inj.mp
   rw [X1]; simp
 cases x; cases h:P0 1 _; rw [h] at this; cases this; rfl
theorem Zp {x:Str} (n:Nat) (h:x.length=0):P0 n x=x:=by
 have hx:x.cps = #[]:=Array.size_eq_zero_iff.mp h
 have:(P0 n x).cps=x.cps:=by
   apply Array.toList_inj.mp
   rw [X1,hx]; simp
 cases x; cases h:P0 n _; rw [h] at this; cases this; rfl
noncomputable def M3:PyData->PyData->Option PyData
 | .int i,.int j=>if (-(2 ^ 64) < i/\i < 2 ^ 64)\/(-(2 ^ 64) < j/\j < 2 ^ 64) then some (.int (i*j)) else none
 | .str x,.int n=>if -(2 ^ 63)<=n/\n < 2 ^ 63/\x.length*n.toNat<=sizeLine then some (.str (P0 n.toNat x)) else none
 | .list xs,.int n=>if -(2 ^ 63)<=n/\n < 2 ^ 63/\xs.length*n.toNat<=sizeLine then some (.list (List.replicate n.toNat xs).flatten) else none
 | .tuple xs,.int n=>if 2<=n/\n < 2 ^ 63/\xs≠[]/\xs.length*n.toNat<=sizeLine then some (.tuple (List.replicate n.toNat xs).flatten)
   else if -(2 ^ 63)<=n/\n < 2 ^ 63/\(xs=[]\/n=1) then some (.tuple xs) else none
 | _,_=>none
def qY:R2:=fun x y H Q=>∃ G a b d,Same G H/\Rep G a x/\Rep G b y/\M3 a b=some d/\∀ v G' H',Grow G H G' H'->Rep G' d v->Q v H'
theorem nY:OpD qY M3:=fun G H x y a b d Q hG ra rb e q=>⟨G,a,b,d,hG,ra,rb,e,q⟩
theorem Cq:fillsNumberSlot (.type "tuple") "mul" = pure false:=by
 unfold fillsNumberSlot
 first | rfl | kernel_rfl | decide +kernel
theorem Jm:seqRepeat? (.type "tuple")=pure (some (.builtin "tuple.__mul__")):=by
 unfold seqRepeat?
 first | rfl | kernel_rfl
theorem Fj (a:Int) (t:Tok) (l:Addr) (items:Array Value) (n:Nat) (dd:Option Addr) (sl:Array (Option Value)) :
   Meets (Builtin.«int.__rmul__» ⟨[.int a t,.ref l],[]⟩) (fun _ R s=>s.heap.get? l=some { cls:=.type "tuple",dict:=dd,data:=.seq items n,slots:=sl }/\R (.ok (.ret Value.notImplemented)) s) :=
 .of_wp fun prog w A R s h=>by obtain ⟨hp,g,d,tk,os⟩:=s; obtain ⟨hl,h⟩:=h; wp_walk; exact ⟨_,rfl,h⟩
theorem Oj (l:Addr) (items:Array Value) (n:Nat) (x:Int) (u:Tok) (dd:Option Addr) (sl:Array (Option Value)) (h1:¬ (decide (x < -(2 ^ 63:Int))||decide (x≥2 ^ 63))=true) (h2:¬ (items.isEmpty||x==1)=true) (h3:¬ (decide (x<=0)||items.isEmpty)=true)
   (h4:¬ (items.size:Int)*x>(2 ^ 63 - 1) / 8) (h5:¬ Builtin.Tuple.tupleTooMany (items.size*x)=true) (h6:(List.foldl (fun x1 x2=>x1++x2) #[] (List.replicate x.toNat items)).size<=sizeLine) :
   Meets (Builtin.«tuple.__mul__» ⟨[.ref l,.int x u],[]⟩) (fun _ R s=>s.heap.get? l=some { cls:=.type "tuple",dict:=dd,data:=.seq items n,slots:=sl }/\R (.ok (.ret (Value.ref s.heap.objs.size))) { s with heap:=s.heap.push { cls:=Value.type "tuple",data:=Data.seq (List.foldl (fun x1 x2=>x1++x2) #[] (List.replicate x.toNat items)) },toks:=s.toks }) :=
 .of_wp fun prog w A R s h=>by
   obtain ⟨hp,g,d,tk,os⟩:=s; obtain ⟨hl,h⟩:=h
   have f1:=AutoSeq1.idx_int
   wp_walk using wpAny_loadPart' hl
   rw [if_neg h1]
   wp_walk using wpAny_loadPart' hl
   rw [if_neg h4]
   wp_walk using wpAny_loadPart' hl
   exact ⟨_,rfl,h⟩
theorem Oi (l:Addr) (items:Array Value) (n:Nat) (x:Int) (u:Tok) (dd:Option Addr) (sl:Array (Option Value)) (h1:¬ (decide (x < -(2 ^ 63:Int))||decide (x≥2 ^ 63))=true) (h2:(items.isEmpty||x==1)=true) :
   Meets (Builtin.«tuple.__mul__» ⟨[.ref l,.int x u],[]⟩) (fun _ R s=>s.heap.get? l=some { cls:=.type "tuple",dict:=dd,data:=.seq items n,slots:=sl }/\R (.ok (.ret (.ref l))) s) :=
 .of_wp fun prog w A R s h=>by
   obtain ⟨hp,g,d,tk,os⟩:=s; obtain ⟨hl,h⟩:=h
   have f1:=AutoSeq1.idx_int
   wp_walk using wpAny_loadPart' hl
   rw [if_neg h1]
   wp_walk using wpAny_loadPart' hl
   exact ⟨_,rfl,h⟩
noncomputable section
variable {X:Cx}
theorem nT:OpR X (binaryOp .Mult) qY:=by
 rintro pins s σ H x y v u Q I rx ry ⟨G,a,b,d,hG,ra,rb,e,q⟩
 have h63:=Lg
 obtain ⟨k,rfl⟩:∃ k,b=.int k:=by unfold M3 at e; split at e <;> first | exact ⟨_,rfl⟩ | cases e
 cases (show _=_ from rb)
 obtain ⟨t',rfl⟩:=ry
 cases a with
 | int i =>
   simp only [M3] at e
   split at e
   . rename_i hc
     cases e
     cases (show _=_ from ra)
     obtain ⟨t,rfl⟩:=rx; exact mul_int ⟨.int _,H,I.tok _,⟨_,rfl⟩,q _ G H (Grow.refl hG) rfl⟩ (CMul.ok hc)
   . cases e
 | str z =>
   simp only [M3] at e
   split at e
   . rename_i hc
     obtain ⟨hc1,hc2,hc3⟩:=hc; cases e; obtain ⟨e1,o1,l1⟩:=ra; cases e1; obtain ⟨t,rfl⟩:=rx; have fin:∀ tk,Q (.str (P0 k.toNat z)) H/\Inv X pins σ H { s with toks:=tk }:=fun tk=>⟨q _ G H (Grow.refl hG) ⟨rfl,dX o1 _,by rw [Oo,Nat.mul_comm]; exact hc3⟩,I.tok _⟩
     refine PySem.P.mul_str (by rw [decide_eq_false (by lia),decide_eq_false (by lia)]; rfl) (fun h1 _=>?_) (fun h1 _=>?_) ?_
     . intro hgt
       have hk:(0:Int) < k:=by lia
       have h2:(2 ^ 63 - 1) / k+1<=(z.length:Int):=by lia
       have h3:(2 ^ 63 - 1:Int) < ((2 ^ 63 - 1) / k+1)*k:=Int.lt_ediv_add_one_mul_self _ hk; have h4:((2 ^ 63 - 1) / k+1)*k<=(z.length:Int)*k:=Int.mul_le_mul_of_nonneg_right h2 (by lia)
       have h5:(z.length:Int)*k=((z.length*k.toNat:Nat):Int):=by
         rw [Int.natCast_mul,Int.toNat_of_nonneg (by lia)]
       lia
     . unfold Builtin.Str.tooLong
       exact decide_eq_false (by lia)
     . by_cases h1:k < 1
       . rw [if_pos h1]
         have:k.toNat=0:=by lia
         rw [this,Xh] at fin; exact ⟨by decide,⟨.str _,H,(fin _).2,⟨_,rfl⟩,(fin 0).1⟩⟩
       . rw [if_neg h1]
         by_cases h2:(k==1||z.length==0)=true
         . rw [if_pos h2]
           rw [Bool.or_eq_true] at h2; have ez:P0 k.toNat z=z:=by
             rcases h2 with h2 | h2
             . have:k=1:=eq_of_beq h2
               subst this; exact Zo z
             . exact Zp _ (eq_of_beq h2)
           rw [ez] at fin; exact ⟨.str _,H,I,⟨_,rfl⟩,(fin 0).1⟩
         . rw [if_neg h2]
           exact ⟨by show (P0 k.toNat z).length<=_; rw [Oo,Nat.mul_comm]; exact hc3,⟨.str _,H,(fin _).2,⟨_,rfl⟩,(fin 0).1⟩⟩
   . cases e
 | list xs =>
   simp only [M3] at e
   split at e
   . rename_i hc
     obtain ⟨hc1,hc2,hc3⟩:=hc; cases e; obtain ⟨l,vs,rfl,h1,l1⟩:=ra; cases rx; have q3:=l1.length; obtain ⟨z,its,n,r,e⟩:=X2 I hG h1; have hl:=r.length; have hlen:its.toArray.size*k.toNat<=sizeLine:=by rw [List.size_toArray,<- hl,<- q3]; exact hc3
     have hcap:¬ its.toArray.size*k.toNat>(2 ^ 63 - 1) / 8:=by
       have:(sizeLine:Nat)<=(2 ^ 63 - 1) / 8:=by decide
       lia
     have hfit:¬ (!Builtin.List.listFitsIndex k)=true:=by
       rw [fitsIndex_both hc1 hc2]; exact Bool.false_ne_true
     have hlong:¬ Builtin.List.listTooLong (its.toArray.size*k.toNat)=true:=by
       rw [jU hlen]; exact Bool.false_ne_true
     have hnew:List.foldl (fun x1 x2=>x1++x2) #[] (List.replicate (if its.toArray.isEmpty=true then 0 else k.toNat) its.toArray)=(List.replicate k.toNat its).flatten.toArray:=by
       have f0:∀ m:Nat,List.foldl (fun x1 x2=>x1++x2) #[] (List.replicate m its.toArray)=(List.replicate m its).flatten.toArray:=fun m=>by
         have:=Tm its m []; rw [List.nil_append] at this; exact this
       rw [f0]
       cases its with
       | nil=>simp
       | cons a r'=>rw [if_neg (by simp)]
     refine wpAny_binaryOp_repeat_ref (T := "list") (U := "int") (by decide) ⟨_,e,rfl⟩ (fun s'=>typeIs_int s' k t') noFill_list_mul F.fills_int_mul F.slot_int_rmul repeat_list F.slot_int_index.lookup
       (call_meets F.slot_int_rmul (typeIs_int s k t') F.entry_int_rmul (F.args_int_rmul_2 _ _) (int___rmul___int_list k t' l its.toArray n)
         ⟨e,rfl,⟨_,e,rfl⟩,call_meets F.slot_list_mul ⟨_,e,rfl⟩ F.entry_list_mul (F.args_list_mul_2 _ _) (AutoListH.list___mul___list_int_3 l its.toArray n k t' hfit hcap hlong) ⟨e,?_⟩⟩)
     rw [hnew]; exact Vs (t':=s.toks) I hG (r.rep k.toNat) (l1.rep k.toNat) (by rw [Nu,Nat.mul_comm,<- q3]; exact hc3) q
   . cases e
 | tuple xs =>
   simp only [M3] at e
   split at e
   . rename_i hc
     obtain ⟨hc1,hc2,hc0,hc3⟩:=hc; cases e; obtain ⟨l,vs,rfl,h1,l1⟩:=ra; cases rx; have q3:=l1.length; obtain ⟨z,its,r,p⟩:=Bb I hG h1; have hl:=r.length; obtain ⟨⟨cls,dd,data,sl⟩,ho,hcl,n,hd⟩:=id p; simp only at hcl hd; subst hcl hd; have hlen:its.toArray.size*k.toNat<=sizeLine:=by rw [List.size_toArray,<- hl,<- q3]; exact hc3
     have hne:its.toArray.isEmpty=false:=by
       have:its.length≠0:=by
         rw [<- hl,<- q3]; intro z; exact hc0 (List.length_eq_zero_iff.mp z)
       cases its with
       | nil=>exact absurd rfl this
       | cons _ _=>rfl
     have hk:((its.toArray.size:Nat):Int)*k=((its.toArray.size*k.toNat:Nat):Int):=by
       rw [Int.natCast_mul,Int.toNat_of_nonneg (by lia)]
     have f0:List.foldl (fun x1 x2=>x1++x2) #[] (List.replicate k.toNat its.toArray)=(List.replicate k.toNat its).flatten.toArray:=by
       have:=Tm its k.toNat []; rw [List.nil_append] at this; exact this
     have hs8:(sizeLine:Nat)<=(2 ^ 63 - 1) / 8:=by decide
     refine wpAny_binaryOp_repeat_ref (T := "tuple") (U := "int") (by decide) ⟨_,ho,rfl⟩ (fun s'=>typeIs_int s' k t') Cq F.fills_int_mul F.slot_int_rmul Jm F.slot_int_index.lookup
       (call_meets F.slot_int_rmul (typeIs_int s k t') F.entry_int_rmul (F.args_int_rmul_2 _ _) (Fj k t' l its.toArray n dd sl)
         ⟨ho,rfl,⟨_,ho,rfl⟩,call_meets F.slot_tuple_mul ⟨_,ho,rfl⟩ F.entry_tuple_mul (F.args_tuple_mul_2 _ _) (Oj l its.toArray n k t' dd sl ?_ ?_ ?_ ?_ ?_ ?_) ⟨ho,?_⟩⟩)
     . rw [decide_eq_false (by lia),decide_eq_false (by lia)]; decide
     . rw [hne]
       have:(k==1)=false:=by simpa using (show ¬ k=1 by lia)
       rw [this]; decide
     . rw [hne,decide_eq_false (by lia)]; decide
     . rw [hk]; lia
     . rw [hk]; unfold Builtin.Tuple.tupleTooMany; rw [decide_eq_false (by lia)]; decide
     . rw [f0,List.size_toArray,Nu,Nat.mul_comm,<- hl,<- q3]; exact hc3
     . rw [f0]
       exact Ny (t':=s.toks) I hG (r.rep k.toNat) (l1.rep k.toNat) (by rw [Nu,Nat.mul_comm,<- q3]; exact hc3) q
   . split at e
     . rename_i hc
       obtain ⟨hc1,hc2,hc3⟩:=hc; cases e; have ra0:=ra; obtain ⟨l,vs,rfl,h1,l1⟩:=ra; cases rx; have q3:=l1.length; obtain ⟨z,its,r,p⟩:=Bb I hG h1; have hl:=r.length; obtain ⟨⟨cls,dd,data,sl⟩,ho,hcl,n,hd⟩:=id p; simp only at hcl hd; subst hcl hd; refine wpAny_binaryOp_repeat_ref (T := "tuple") (U := "int") (by decide) ⟨_,ho,rfl⟩ (fun s'=>typeIs_int s' k t') Cq F.fills_int_mul F.slot_int_rmul Jm F.slot_int_index.lookup
         (call_meets F.slot_int_rmul (typeIs_int s k t') F.entry_int_rmul (F.args_int_rmul_2 _ _) (Fj k t' l its.toArray n dd sl)
           ⟨ho,rfl,⟨_,ho,rfl⟩,call_meets F.slot_tuple_mul ⟨_,ho,rfl⟩ F.entry_tuple_mul (F.args_tuple_mul_2 _ _) (Oi l its.toArray n k t' dd sl ?_ ?_) ⟨ho,?_⟩⟩)
       . rw [decide_eq_false (by lia),decide_eq_false (by lia)]; decide
       . rcases hc3 with hc3 | hc3
         . subst hc3
           have:its.length=0:=by rw [<- hl,<- q3]; rfl
           rw [List.length_eq_zero_iff.mp this]; rfl
         . subst hc3; simp
       . exact ⟨.ref l,H,I,rfl,q _ G H (Grow.refl hG) ra0⟩
     . cases e
 | _=>cases e
end
end Sm
end
noncomputable section
set_option backward.match.sparseCases false
namespace Sm
open PySem PySem.Spec PyProof.Rows L2
open PySem.AutoSeq1 (wpAny_loadPart')
open PySem.MeetsSeq PySem.MeetsSeq2 PySem.MeetsSeq3
noncomputable def fM:CmpOp->Int->Int->Bool
 | .Lt,i,j=>decide (i < j)
 | .LtE,i,j=>decide (i<=j)
 | .Gt,i,j=>decide (j < i)
 | _,i,j=>decide (j<=i)
noncomputable def aH:CmpOp->Str->Str->Bool
 | .Lt,x,y=>decide (x.cps.toList < y.cps.toList)
 | .LtE,x,y => !decide (y.cps.toList < x.cps.toList)
 | .Gt,x,y=>decide (y.cps.toList < x.cps.toList)
 | _,x,y => !decide (x.cps.toList < y.cps.toList)
noncomputable def Zg:CmpOp->Nat->Nat->Bool
 | .Lt,m,n=>decide (m < n)
 | .LtE,m,n=>decide (m<=n)
 | .Gt,m,n=>decide (m>n)
 | _,m,n=>decide (m≥n)
noncomputable def rD:CmpOp->Bool
 | .Lt=>true | .LtE=>true | .Gt=>true | .GtE=>true | _=>false
mutual
noncomputable def Nb (op:CmpOp):PyData->PyData->Option Bool
 | .int i,.int j=>some (fM op i j)
 | .str x,.str y=>some (aH op x y)
 | .tuple xs,.tuple ys=>Z4 op xs ys
 | _,_=>none
noncomputable def Z4 (op:CmpOp):List PyData->List PyData->Option Bool
 | [],ys=>some (Zg op 0 ys.length)
 | x::xs,[]=>some (Zg op (xs.length+1) 0)
 | x::xs,y::ys=>if PyData.eqv x y=true then Z4 op xs ys else Nb op x y
end
def lX (op:CmpOp) (A:Around) (s:Shared) (u v:Value) (k:Bool):Prop:=∀ (prog:Program) (w:World) (E:Value->Shared->Prop) (Q:Value->Shared->Prop),Q (.bool k) s->wpAny (model prog w) A (richCompare op u v) Q E s
theorem tE {op:CmpOp} (h:rD op=true) (A:Around) (s:Shared) (i j:Int) (t u:Tok):lX op A s (.int i t) (.int j u) (fM op i j):=fun prog w E Q q=>by
 cases op with
 | Lt=>exact (lt_int q:wpAny (model prog w) A (compareOp .Lt (.int i t) (.int j u)) Q E s)
 | LtE=>exact (le_int q:wpAny (model prog w) A (compareOp .LtE (.int i t) (.int j u)) Q E s)
 | Gt=>exact (gt_int q:wpAny (model prog w) A (compareOp .Gt (.int i t) (.int j u)) Q E s)
 | GtE=>exact (ge_int q:wpAny (model prog w) A (compareOp .GtE (.int i t) (.int j u)) Q E s)
 | _=>cases h
theorem sZ {op:CmpOp} (h:rD op=true) (A:Around) (s:Shared) (x y:Str) (t u:Tok):lX op A s (.str x t) (.str y u) (aH op x y):=fun prog w E Q q=>by
 cases op with
 | Lt=>exact (PySem.P.lt_str q:wpAny (model prog w) A (compareOp .Lt (.str x t) (.str y u)) Q E s)
 | LtE=>exact (PySem.P.le_str (by simpa [aH] using q):wpAny (model prog w) A (compareOp .LtE (.str x t) (.str y u)) Q E s)
 | Gt=>exact (PySem.P.gt_str q:wpAny (model prog w) A (compareOp .Gt (.str x t) (.str y u)) Q E s)
 | GtE=>exact (PySem.P.ge_str (by simpa [aH] using q):wpAny (model prog w) A (compareOp .GtE (.str x t) (.str y u)) Q E s)
 | _=>cases h
def Bx (op:CmpOp) (A:Around) (s:Shared) (vs ws:List Value) (ds es:List PyData):Prop :=
 ∀ (i:Nat) (v w:Value) (d e:PyData),vs[i]? = some v->ws[i]? = some w->ds[i]? = some d->es[i]? = some e->SeqAt.EqAt A s v w (PyData.eqv d e)/\∀ k,Nb op d e=some k->lX op A s v w k
theorem Rh (l b:Addr) (items items2:Array Value) (n n2:Nat) (dd dd2:Option Addr) (sl sl2:Array (Option Value)) (ds es:List PyData) (k:Bool) (hz1:items.toList.length=ds.length) (hz2:items2.toList.length=es.length) (hk:Z4 .Lt ds es=some k) :
   Meets (Builtin.«tuple.__lt__» ⟨[.ref l,.ref b],[]⟩)
     (fun A R s=>s.heap.get? l=some { cls:=.type "tuple",dict:=dd,data:=.seq items n,slots:=sl }/\s.heap.get? b=some { cls:=.type "tuple",dict:=dd2,data:=.seq items2 n2,slots:=sl2 } /\
       Bx .Lt A.in1 s items.toList items2.toList ds es/\R (.ok (.ret (.bool k))) s) :=
 .of_wp fun prog w A R s h=>by
   obtain ⟨hp,g,d,tk,os⟩:=s; obtain ⟨hl,hb,hI,h⟩:=h
   have f2:=AutoSeq1.sub_tuple_tuple; have z1:items.size=ds.length:=by rw [<- hz1]; simp
   have z2:items2.size=es.length:=by rw [<- hz2]; simp
   wp_walk using wpAny_loadPart' hl,wpAny_loadPart' hb,wpAny_forIn_list _ (fun T0 b s'=>b.1=none/\s'=⟨hp,g,d,tk,os⟩/\∃ (vs ws:List Value) (ds' es':List PyData),T0=vs.zip ws /\
     vs.length=ds'.length/\ws.length=es'.length/\ds'.length+items2.size=es'.length+items.size/\Bx .Lt A.in1 ⟨hp,g,d,tk,os⟩ vs ws ds' es'/\Z4 .Lt ds' es'=some k) _
   case turn =>
     rintro ⟨y,x⟩ T0 b s' ⟨hb',rfl,vs,ws,ds',es',hz,hv,hw,hlen,hI',hR⟩
     cases vs with
     | nil=>rw [List.zip_nil_left] at hz; cases hz
     | cons v0 vs =>
       cases ws with
       | nil=>rw [List.zip_nil_right] at hz; cases hz
       | cons w0 ws =>
         cases ds' with
         | nil=>simp at hv
         | cons d0 ds' =>
           cases es' with
           | nil=>simp at hw
           | cons e0 es' =>
             rw [List.zip_cons_cons] at hz
             injection hz with hyx hrest
             injection hyx with hy hx
             subst hy hx; simp only [List.length_cons] at hlen hv hw; obtain ⟨he,hc⟩:=hI' 0 y x d0 e0 rfl rfl rfl rfl; have hI2:Bx .Lt A.in1 ⟨hp,g,d,tk,os⟩ vs ws ds' es':=fun i v w d e h1 h2 h3 h4=>hI' (i+1) v w d e (by simpa using h1) (by simpa using h2) (by simpa using h3) (by simpa using h4)
             rw [Z4] at hR; refine wpAny_bind (he prog w _ _ ?_)
             cases q:PyData.eqv d0 e0 with
             | true =>
               rw [q,if_pos rfl] at hR
               wp_walk
               exact ⟨rfl,rfl,_,_,_,_,hrest,by lia,by lia,by lia,hI2,hR⟩
             | false =>
               rw [q,if_neg (by decide)] at hR; have hri:=hc k hR prog w
               wp_walk using hri
               exact ⟨_,rfl,by simpa using h⟩
   case fin =>
     rintro ⟨b1,b2⟩ s' ⟨hb',rfl,vs,ws,ds',es',hz,hv,hw,hlen,hI',hR⟩
     simp only at hb'; subst hb'; have hv':k=decide (items.size < items2.size):=by
       cases ds' with
       | nil =>
         rw [Z4] at hR; have:=Option.some.inj hR; rw [<- this]; simp only [List.length_nil] at hlen; simp only [Zg]; exact decide_eq_decide.mpr (by lia)
       | cons d0 ds' =>
         cases es' with
         | nil =>
           rw [Z4] at hR; have:=Option.some.inj hR; rw [<- this]; simp only [List.length_nil,List.length_cons] at hlen; simp only [Zg]; exact decide_eq_decide.mpr (by lia)
         | cons e0 es' =>
           cases vs with
           | nil=>simp at hv
           | cons v0 vs =>
             cases ws with
             | nil=>simp at hw
             | cons w0 ws=>rw [List.zip_cons_cons] at hz; cases hz
     rw [hv'] at h
     wp_walk
     exact ⟨_,rfl,by simpa [Builtin.Tuple.tupleCompareSizes] using h⟩
   case h =>
     exact ⟨rfl,rfl,items.toList,items2.toList,ds,es,rfl,hz1,hz2,by lia,hI,hk⟩
theorem Ri (l b:Addr) (items items2:Array Value) (n n2:Nat) (dd dd2:Option Addr) (sl sl2:Array (Option Value)) (ds es:List PyData) (k:Bool) (hz1:items.toList.length=ds.length) (hz2:items2.toList.length=es.length) (hk:Z4 .LtE ds es=some k) :
   Meets (Builtin.«tuple.__le__» ⟨[.ref l,.ref b],[]⟩)
     (fun A R s=>s.heap.get? l=some { cls:=.type "tuple",dict:=dd,data:=.seq items n,slots:=sl }/\s.heap.get? b=some { cls:=.type "tuple",dict:=dd2,data:=.seq items2 n2,slots:=sl2 } /\
       Bx .LtE A.in1 s items.toList items2.toList ds es/\R (.ok (.ret (.bool k))) s) :=
 .of_wp fun prog w A R s h=>by
   obtain ⟨hp,g,d,tk,os⟩:=s; obtain ⟨hl,hb,hI,h⟩:=h
   have f2:=AutoSeq1.sub_tuple_tuple; have z1:items.size=ds.length:=by rw [<- hz1]; simp
   have z2:items2.size=es.length:=by rw [<- hz2]; simp
   wp_walk using wpAny_loadPart' hl,wpAny_loadPart' hb,wpAny_forIn_list _ (fun T0 b s'=>b.1=none/\s'=⟨hp,g,d,tk,os⟩/\∃ (vs ws:List Value) (ds' es':List PyData),T0=vs.zip ws /\
     vs.length=ds'.length/\ws.length=es'.length/\ds'.length+items2.size=es'.length+items.size/\Bx .LtE A.in1 ⟨hp,g,d,tk,os⟩ vs ws ds' es'/\Z4 .LtE ds' es'=some k) _
   case turn =>
     rintro ⟨y,x⟩ T0 b s' ⟨hb',rfl,vs,ws,ds',es',hz,hv,hw,hlen,hI',hR⟩
     cases vs with
     | nil=>rw [List.zip_nil_left] at hz; cases hz
     | cons v0 vs =>
       cases ws with
       | nil=>rw [List.zip_nil_right] at hz; cases hz
       | cons w0 ws =>
         cases ds' with
         | nil=>simp at hv
         | cons d0 ds' =>
           cases es' with
           | nil=>simp at hw
           | cons e0 es' =>
             rw [List.zip_cons_cons] at hz
             injection hz with hyx hrest
             injection hyx with hy hx
             subst hy hx; simp only [List.length_cons] at hlen hv hw; obtain ⟨he,hc⟩:=hI' 0 y x d0 e0 rfl rfl rfl rfl; have hI2:Bx .LtE A.in1 ⟨hp,g,d,tk,os⟩ vs ws ds' es':=fun i v w d e h1 h2 h3 h4=>hI' (i+1) v w d e (by simpa using h1) (by simpa using h2) (by simpa using h3) (by simpa using h4)
             rw [Z4] at hR; refine wpAny_bind (he prog w _ _ ?_)
             cases q:PyData.eqv d0 e0 with
             | true =>
               rw [q,if_pos rfl] at hR
               wp_walk
               exact ⟨rfl,rfl,_,_,_,_,hrest,by lia,by lia,by lia,hI2,hR⟩
             | false =>
               rw [q,if_neg (by decide)] at hR; have hri:=hc k hR prog w
               wp_walk using hri
               exact ⟨_,rfl,by simpa using h⟩
   case fin =>
     rintro ⟨b1,b2⟩ s' ⟨hb',rfl,vs,ws,ds',es',hz,hv,hw,hlen,hI',hR⟩
     simp only at hb'; subst hb'; have hv':k=decide (items.size<=items2.size):=by
       cases ds' with
       | nil =>
         rw [Z4] at hR; have:=Option.some.inj hR; rw [<- this]; simp only [List.length_nil] at hlen; simp only [Zg]; exact decide_eq_decide.mpr (by lia)
       | cons d0 ds' =>
         cases es' with
         | nil =>
           rw [Z4] at hR; have:=Option.some.inj hR; rw [<- this]; simp only [List.length_nil,List.length_cons] at hlen; simp only [Zg]; exact decide_eq_decide.mpr (by lia)
         | cons e0 es' =>
           cases vs with
           | nil=>simp at hv
           | cons v0 vs =>
             cases ws with
             | nil=>simp at hw
             | cons w0 ws=>rw [List.zip_cons_cons] at hz; cases hz
     rw [hv'] at h
     wp_walk
     exact ⟨_,rfl,by simpa [Builtin.Tuple.tupleCompareSizes] using h⟩
   case h =>
     exact ⟨rfl,rfl,items.toList,items2.toList,ds,es,rfl,hz1,hz2,by lia,hI,hk⟩
theorem iV {op:CmpOp} (ho:op=.Lt\/op=.LtE) {A:Around} {s:Shared} {l b:Addr} {items items2:Array Value} {ds es:List PyData} {k:Bool} (hl:IsTup s.heap l items) (hb:IsTup s.heap b items2) (hz1:items.toList.length=ds.length) (hz2:items2.toList.length=es.length)
   (hI:Bx op A.in1 s items.toList items2.toList ds es) (hk:Z4 op ds es=some k) (hu:A.units < cLine):lX op A s (.ref l) (.ref b) k:=fun prog w E Q q=>by
 obtain ⟨⟨cls,dd,data,sl⟩,ho1,hc,n,hd⟩:=id hl
 obtain ⟨⟨cls2,dd2,data2,sl2⟩,ho2,hc2,n2,hd2⟩:=id hb
 simp only at hc hd hc2 hd2
 subst hc hd hc2 hd2
 rcases ho with rfl | rfl
 . exact richCompare_meets_room (op := .Lt) ⟨_, ho1, rfl⟩ ⟨_, ho2, rfl⟩ PySem.F.slot_tuple_lt PySem.F.entry_tuple_lt (PySem.F.args_tuple_lt_2 _ _) (Rh l b items items2 n n2 dd dd2 sl sl2 ds es k hz1 hz2 hk)
     ⟨ho1,ho2,hI,show Value.bool k≠Value.notImplemented/\Q (.bool k) s from ⟨(fun x=>nomatch x),q⟩⟩ hu
 . exact richCompare_meets_room (op := .LtE) ⟨_, ho1, rfl⟩ ⟨_, ho2, rfl⟩ PySem.F.slot_tuple_le PySem.F.entry_tuple_le (PySem.F.args_tuple_le_2 _ _) (Ri l b items items2 n n2 dd dd2 sl sl2 ds es k hz1 hz2 hk)
     ⟨ho1,ho2,hI,show Value.bool k≠Value.notImplemented/\Q (.bool k) s from ⟨(fun x=>nomatch x),q⟩⟩ hu
theorem vZ {op:CmpOp} {i:Int} {b:PyData} {k:Bool} (e:Nb op (.int i) b=some k):∃ j,b=.int j/\k=fM op i j:=by cases b <;> cases e; exact ⟨_,rfl,rfl⟩
theorem vY {op:CmpOp} {i:Str} {b:PyData} {k:Bool} (e:Nb op (.str i) b=some k):∃ j,b=.str j/\k=aH op i j:=by cases b <;> cases e; exact ⟨_,rfl,rfl⟩
theorem vX {op:CmpOp} {i:List PyData} {b:PyData} {k:Bool} (e:Nb op (.tuple i) b=some k):∃ j,b=.tuple j/\Z4 op i j=some k:=by cases b with | tuple j=>exact ⟨j,rfl,e⟩ | _=>cases e
noncomputable def ordB:PyData->Bool
 | .int _=>true | .str _=>true | .tuple _=>true | _=>false
theorem Vy {op:CmpOp} {a b:PyData} {k:Bool} (h:ordB a=false) (e:Nb op a b=some k):False:=by cases a <;> first | (cases h; done) | cases e
mutual
theorem Vb {op:CmpOp} (ho:op=.Lt\/op=.LtE):∀ (a b:PyData) (A:Around) (s:Shared) (u v:Value) (as bs:List Addr) (k:Bool),Reads s.heap u a as->Reads s.heap v b bs->a.canLay0=true->b.canLay0=true->A.units+a.depth < cLine->Nb op a b=some k->lX op A s u v k
 | .int i,b,A,s,_,_,_,_,k,ra,rb,_,_,_,e=>by
   obtain ⟨j,rfl,rfl⟩:=vZ e
   cases ra; cases rb; exact tE (by rcases ho with rfl | rfl <;> rfl) A s i j _ _
 | .str x,b,A,s,_,_,_,_,k,ra,rb,_,_,_,e=>by
   obtain ⟨j,rfl,rfl⟩:=vY e
   cases ra; cases rb; exact sZ (by rcases ho with rfl | rfl <;> rfl) A s x j _ _
 | .tuple xs,b,A,s,_,_,_,_,k,ra,rb,ha,hb,hu,e=>by
   obtain ⟨ys,rfl,e⟩:=vX e
   cases ra with
   | tuple h1 h2 h3 h4 =>
     cases rb with
     | tuple k1 k2 k3 k4 =>
       have hu':A.units+(PyData.depthAll xs+1) < cLine:=hu; refine iV ho ⟨_,h1,h2,_,h3⟩ ⟨_,k1,k2,_,k3⟩ (SeqAt.ReadsAll.length _ _ _ h4) (SeqAt.ReadsAll.length _ _ _ k4) ?_ e (by lia)
       exact Xp ho xs ys A.in1 s _ _ _ _ h4 k4 ha hb (by show A.units+1+_ < _; lia)
 | .none,b,_,_,_,_,_,_,_,_,_,_,_,_,e=>(Vy (a:=.none) rfl e).elim
 | .bool c,b,_,_,_,_,_,_,_,_,_,_,_,_,e=>(Vy (a:=.bool c) rfl e).elim
 | .list c,b,_,_,_,_,_,_,_,_,_,_,_,_,e=>(Vy (a:=.list c) rfl e).elim
 | .dict c,b,_,_,_,_,_,_,_,_,_,_,_,_,e=>(Vy (a:=.dict c) rfl e).elim
theorem Xp {op:CmpOp} (ho:op=.Lt\/op=.LtE):∀ (xs ys:List PyData) (A:Around) (s:Shared) (vs ws:List Value) (as bs:List Addr),ReadsAll s.heap vs xs as->ReadsAll s.heap ws ys bs->PyData.canLayAll0 xs=true->PyData.canLayAll0 ys=true->A.units+PyData.depthAll xs < cLine->Bx op A s vs ws xs ys
 | [],_,_,_,_,_,_,_,_,_,_,_,_=>fun i v w d e h1 h2 h3 h4=>by simp at h3
 | _::_,[],_,_,_,_,_,_,_,_,_,_,_=>fun i v w d e h1 h2 h3 h4=>by simp at h4
 | x::xs,y::ys,A,s,_,_,_,_,ra,rb,ha,hb,hu=>by
   have ha':x.canLay0=true/\PyData.canLayAll0 xs=true:=by simpa [PyData.canLayAll0] using ha
   have hb':y.canLay0=true/\PyData.canLayAll0 ys=true:=by simpa [PyData.canLayAll0] using hb
   have hu':A.units+max x.depth (PyData.depthAll xs) < cLine:=hu
   cases ra with
   | cons r1 r2 =>
     cases rb with
     | cons q1 q2 =>
       intro i v w d e h1 h2 h3 h4
       cases i with
       | zero =>
         simp at h1 h2 h3 h4
         subst h1 h2 h3 h4; exact ⟨SeqAt.eqAt_reads _ _ _ _ _ _ _ _ r1 q1 ha'.1 hb'.1 (by lia),fun k hk=>Vb ho _ _ A s _ _ _ _ k r1 q1 ha'.1 hb'.1 (by lia) hk⟩
       | succ i=>exact Xp ho xs ys A s _ _ _ _ r2 q2 ha'.2 hb'.2 (by lia) i v w d e (by simpa using h1) (by simpa using h2) (by simpa using h3) (by simpa using h4)
end
noncomputable def K5 (op:CmpOp) (a b:PyData):Option PyData:=if a.depth<=60 then (Nb op a b).map .bool else none
def iW (op:CmpOp):R2:=fun x y H Q=>∃ G a b k,Same G H/\Rep G a x/\Rep G b y/\a.depth<=60/\Nb op a b=some k/\Q (.bl k) H
noncomputable section
variable {X:Cx}
theorem Fz {op:CmpOp} (ho:op=.Lt\/op=.LtE) (hu:X.A.units+64 < cLine):OpR X (compareOp op) (iW op):=by
 rintro pins s σ H x y v u Q I rx ry ⟨G,a,b,k,hG,ra,rb,hd,e,q⟩
 obtain ⟨as,r1⟩:=ra.reads I hG rx
 obtain ⟨bs,r2⟩:=rb.reads I hG ry
 have:=Vb ho a b X.A s v u as bs k r1 r2 ra.lay rb.lay (by lia) e X.prog X.w X.xe (EP X pins σ Q) ⟨.bl k,H,I,rfl,q⟩
 rcases ho with rfl | rfl
 . exact this
 . exact this
theorem Vf {op:CmpOp} (ho:op=.Gt\/op=.GtE):OpR X (compareOp op) (fun x y H Q=>∃ i j,x=.int i/\y=.int j/\Q (.bl (fM op i j)) H):=by
 rintro pins s σ H x y v u Q I rx ry ⟨i,j,e1,e2,q⟩
 subst e1 e2
 obtain ⟨t,rfl⟩:=rx
 obtain ⟨t',rfl⟩:=ry
 rcases ho with rfl | rfl
 . exact gt_int ⟨.bl _,H,I,rfl,q⟩
 . exact ge_int ⟨.bl _,H,I,rfl,q⟩
theorem Dh {op:CmpOp}:OpD (iW op) (K5 op):=by
 intro G H x y a b d Q hG ra rb e q
 unfold K5 at e
 split at e
 . rename_i h
   cases e1:Nb op a b with
   | none=>rw [e1] at e; cases e
   | some k=>rw [e1] at e; cases e; exact ⟨G,a,b,k,hG,ra,rb,h,e1,q _ G H (Grow.refl hG) rfl⟩
 . cases e
noncomputable def T8 (op:CmpOp):PyData->PyData->Option PyData
 | .int i,.int j=>some (.bool (fM op i j))
 | _,_=>none
theorem Pr {op:CmpOp}:OpD (fun x y H Q=>∃ i j,x=.int i/\y=.int j/\Q (.bl (fM op i j)) H) (T8 op):=by
 intro G H x y a b d Q hG ra rb e q
 cases a with
 | int i=>cases b with
   | int j=>cases e; cases (show _=_ from ra); cases (show _=_ from rb); exact ⟨i,j,rfl,rfl,q _ G H (Grow.refl hG) rfl⟩
   | _=>cases e
 | _=>cases e
end
end Sm
end
noncomputable section
namespace Sm
open PySem PySem.Spec PyProof.Rows L2
theorem Res.bind_assoc {α β γ:Type} (r:Res α) (f:α->Res β) (g:β->Res γ):(r.bind f).bind g=r.bind fun x=>(f x).bind g:=by cases r <;> rfl
structure Cxt (P:Program) (w:World) (K:PySem.W.Frag) (mg:Str->Option Value) (base:Heap) (X:Cx) (N:List Str) (sc:Scope) (k:Nat) (df:Bool):Prop where
 hP:X.prog=P
 hw:X.w=w
 hK:X.K=K
 hmg:X.mg=mg
 hb:X.base=base
 hN:X.N=N
 hs:X.env.scope=sc
 calm:X.calm=true
 room:Room k X.A
 fn:df=true->∀ x,X.fn x=true
 own:PassesOwn (model X.prog X.w) X.A X.env X.xe
noncomputable def Mz (scope sc:Scope):Scope :=
 { scope with names:=scope.names.map fun (n,k)=>if (k==.free&&sc.kind==.function&&sc.names.lookup n==some .cell) then (n,.cell) else (n,k) }
theorem cI {X:Cx} {scope sc:Scope} (h:X.env.scope=sc):relabel scope X.env=Mz scope sc:=by subst h; rfl
noncomputable section
variable {P:Program} {w:World} {K:PySem.W.Frag} {mg:Str->Option Value} {base:Heap} {X:Cx} {N:List Str} {sc:Scope} {k:Nat} {df:Bool} {E:EK} {pos:Pos}
theorem Cxt.blk (C:Cxt P w K mg base X N sc k df) {X':Cx} {N':List Str} {scope:Scope} (B:Blk X X' N' (relabel scope X.env)):Cxt P w K mg base X' N' (Mz scope sc) k false :=
 ⟨B.prog.trans C.hP,B.w.trans C.hw,B.K.trans C.hK,B.mg.trans C.hmg,B.base.trans C.hb,B.N,B.sc.trans (cI C.hs),B.calm.trans C.calm,by rw [B.A]; exact C.room,(fun h=>by cases h),by rw [B.xe]; exact PassesOwn.never⟩
theorem Cxt.hu (C:Cxt P w K mg base X N sc k df):X.A.units+64 < cLine:=C.room.units
noncomputable def okVar (N:List Str) (sc:Scope) (i:Nat) (x:Str):Bool :=
 (N[i]? == some x)&&(match sc.names.lookup x with | some .local=>true | some .cell=>true | some .free=>true | _=>false) && !(x==("__debug__" : Str)) && !(x==("__classdict__" : Str))
theorem A3 (C:Cxt P w K mg base X N sc k df) (i:Nat) {x:Str} (h:okVar N sc i x=true):DE X E (.Name x pos) (A2 i):=by
 unfold okVar at h
 simp only [Bool.and_eq_true,Bool.not_eq_true'] at h
 obtain ⟨⟨⟨h1,h2⟩,h3⟩,h4⟩:=h
 refine vO (by rw [C.hN]; exact eq_of_beq h1) ?_ h3 h4
 rw [C.hs]
 unfold Vis
 cases q:sc.names.lookup x with
 | none=>rw [q] at h2; cases h2
 | some z =>
   rw [q] at h2
   cases z with
   | «local» => exact .inl rfl
   | cell=>exact .inr (.inl rfl)
   | free=>exact .inr (.inr rfl)
   | _=>cases h2
noncomputable def okGl (sc:Scope) (x:Str):Bool:=(sc.names.lookup x==some .globalImplicit) && !(x==("__debug__" : Str)) && !(x==("__name__" : Str))
theorem okGl.gl (C:Cxt P w K mg base X N sc k df) {x:Str} (h:okGl sc x=true):Gl X x/\(x==("__debug__" : Str))=false/\x ≠ "__name__" := by
 unfold okGl at h
 simp only [Bool.and_eq_true,Bool.not_eq_true'] at h
 obtain ⟨⟨h1,h2⟩,h3⟩:=h
 refine ⟨?_,h2,by simpa using h3⟩
 unfold Gl
 show X.env.scope.names.lookup x=_
 rw [C.hs]; exact eq_of_beq h1
theorem cY (C:Cxt P w K mg base X N sc k df) {x z:Str} (h:okGl sc x=true) (hm:∃ t,mg x=some (.str z t)) (hz:PyData.strOk z=true:=by decide +kernel) (hl:z.length<=sizeLine:=by decide +kernel):DE X E (.Name x pos) (vC (.str z)):=by
 obtain ⟨t,hm⟩:=hm
 obtain ⟨h1,h2,h3⟩:=okGl.gl C h
 exact PE.imp (cL (v:=.str z) h1 (by rw [C.hmg]; exact hm) ⟨t,rfl⟩ h2) fun σ H Q hZ3=>by obtain ⟨G,δ,S,a⟩:=hZ3; exact a _ G H (Grow.refl S.sub) ⟨rfl,hz,hl⟩
theorem Vv (C:Cxt P w K mg base X N sc k df) {x:Str} {i:Int} (h:okGl sc x=true) (hm:∃ t,mg x=some (.int i t)):DE X E (.Name x pos) (vC (.int i)):=by
 obtain ⟨t,hm⟩:=hm
 obtain ⟨h1,h2,h3⟩:=okGl.gl C h
 exact PE.imp (cL (v:=.int i) h1 (by rw [C.hmg]; exact hm) ⟨t,rfl⟩ h2) fun σ H Q hZ3=>by obtain ⟨G,δ,S,a⟩:=hZ3; exact a _ G H (Grow.refl S.sub) rfl
variable {a b c:Expr} {f g f':Dn->Res PyData}
theorem D6 (ha:DE X E a f) (hb:DE X E b g):DE X E (.BinOp a .Add b pos) (b2 f g C7):=Tp nV oA ha hb
theorem Yo (ha:DE X E a f) (hb:DE X E b g):DE X E (.BinOp a .Sub b pos) (b2 f g Jz):=Tp uC nW ha hb
theorem V0 (ha:DE X E a f) (hb:DE X E b g):DE X E (.BinOp a .Mult b pos) (b2 f g M3):=Tp nT nY ha hb
theorem Cw (ha:DE X E a f) (hb:DE X E b g):DE X E (.BinOp a .Mod b pos) (b2 f g W0):=Tp uF nZ ha hb
theorem Bg (ha:DE X E a f) (hb:DE X E b g):DE X E (.BinOp a .FloorDiv b pos) (b2 f g Q3):=Tp nU jP ha hb
theorem rV (ha:DE X E a f) (hb:DE X E b g):DE X E (.BinOp a .Pow b pos) (b2 f g bE):=Tp uD nX ha hb
theorem Eu (C:Cxt P w K mg base X N sc k df) (ha:DE X E a f) (hb:DE X E b g):DE X E (.Compare a [.Eq] [b] pos) (b2 f g dEq):=cZ (jO C.hu) jQ ha hb (Di _)
theorem vR (C:Cxt P w K mg base X N sc k df) (ha:DE X E a f) (hb:DE X E b g):DE X E (.Compare a [.Lt] [b] pos) (b2 f g (K5 .Lt)):=cZ (Fz (.inl rfl) C.hu) Dh ha hb (Di _)
theorem d_ge (C:Cxt P w K mg base X N sc k df) (ha:DE X E a f) (hb:DE X E b g):DE X E (.Compare a [.GtE] [b] pos) (b2 f g (T8 .GtE)):=cZ (Vf (.inr rfl)) Pr ha hb (Di _)
theorem d_in (C:Cxt P w K mg base X N sc k df) (ha:DE X E a f) (hb:DE X E b g) (hm:behindInMarks .In b=false:=by with_unfolding_all rfl):DE X E (.Compare a [.In] [b] pos) (b2 f g (dIn false)):=cZ (jN C.hu) aR ha hb hm
noncomputable def U2 (f g f':Dn->Res PyData) (op op':PyData->PyData->Option PyData):Dn->Res PyData:=fun δ=>(f δ).bind fun x=>(g δ).bind fun y=>(ofO (op x y)).bind fun z=>match z with
 | .bool true=>(f' δ).bind fun u=>ofO (op' y u)
 | .bool false=>.ok (.bool false)
 | _=>.no
theorem lL {o o':CmpOp} {r r':R2} {op op':PyData->PyData->Option PyData} (hr:OpR X (compareOp o) r) (ho:OpD r op) (hr':OpR X (compareOp o') r') (ho':OpD r' op') (ha:DE X E a f) (hb:DE X E b g) (hc:DE X E c f')
   (hm:lastMarks [o,o'] [b,c]=false):DE X E (.Compare a [o,o'] [b,c] pos) (U2 f g f' op op'):=by
 refine PE.imp (jK hr hr' ha hb hc hm) fun σ H Q hZ3=>?_
 obtain ⟨G,δ,S,aft⟩:=hZ3
 refine M6 S aft fun d1 v1 G1 H1 g1 r1 S1 a1=>?_
 refine M6 S1 a1 fun d2 v2 G2 H2 g2 r2 S2 a2=>?_
 cases e:op d1 d2 with
 | none=>rw [e] at a2; exact a2.elim
 | some d =>
   rw [e] at a2; refine ho G2 H2 v1 v2 d1 d2 d _ S2.sub (r1.mono g2.g) r2 e fun v G3 H3 g3 r3=>?_
   cases d with
   | bool kk =>
     refine ⟨kk,r3,?_⟩; have S3:=S2.grow g3
     cases kk with
     | false=>rw [if_neg (by decide)]; exact a2 _ G3 H3 g3 rfl
     | true =>
       rw [if_pos rfl]; refine M6 S3 (Aft.grow g3 a2) fun d4 v4 G4 H4 g4 r4 S4 a4=>?_
       cases e':op' d2 d4 with
       | none=>rw [e'] at a4; exact a4.elim
       | some d=>rw [e'] at a4; exact ho' G4 H4 v2 v4 d2 d4 d Q S4.sub (r2.mono (g3.g.trans g4.g)) r4 e' a4
   | _=>exact (show False from a2).elim
theorem fU (C:Cxt P w K mg base X N sc k df) (ha:DE X E a f) (hb:DE X E b g) (hc:DE X E c f') (hm:lastMarks [.LtE,.LtE] [b,c]=false:=by with_unfolding_all rfl):DE X E (.Compare a [.LtE,.LtE] [b,c] pos) (U2 f g f' (K5 .LtE) (K5 .LtE)) :=
 lL (Fz (.inr rfl) C.hu) Dh (Fz (.inr rfl) C.hu) Dh ha hb hc hm
noncomputable def isNone:PyData->Bool
 | .none=>true
 | _=>false
noncomputable def b1 (f:Dn->Res PyData) (op:PyData->Option PyData):Dn->Res PyData:=fun δ=>(f δ).bind fun x=>ofO (op x)
theorem Rep.non {G:Hp} {d:PyData} {v:V} (r:Rep G d v):decide (v=.non)=isNone d:=by
 cases d with
 | none=>cases (show _=_ from r); rfl
 | bool _=>cases (show _=_ from r); rfl
 | int _=>cases (show _=_ from r); rfl
 | str _=>cases r.1; rfl
 | list _=>obtain ⟨a,xs,rfl,_⟩:=r; rfl
 | tuple _=>obtain ⟨a,xs,rfl,_⟩:=r; rfl
 | dict _=>exact (show False from r).elim
theorem rX {j:Nat} {p:Pos} (ha:DE X E a f):DE X E (.Compare a [.Is] [.Constant .none j p] pos) (b1 f fun d=>some (.bool (isNone d))):=by
 refine PE.imp (aQ (uA ha)) fun σ H Q hZ3=>?_
 obtain ⟨G,δ,S,aft⟩:=hZ3
 exact M6 S aft fun d1 v1 G1 H1 g1 r1 S1 a1=>by rw [r1.non]; exact a1 _ G1 H1 (Grow.refl S1.sub) rfl
theorem vQ {j:Nat} {p:Pos} (ha:DE X E a f):DE X E (.Compare a [.IsNot] [.Constant .none j p] pos) (b1 f fun d=>some (.bool (!isNone d))):=by
 refine PE.imp (aQ (cM ha)) fun σ H Q hZ3=>?_
 obtain ⟨G,δ,S,aft⟩:=hZ3
 exact M6 S aft fun d1 v1 G1 H1 g1 r1 S1 a1=>by rw [r1.non]; exact a1 _ G1 H1 (Grow.refl S1.sub) rfl
noncomputable def Ka:PyData->Option PyData
 | .int i=>some (.int (-i))
 | _=>none
theorem Qf (ha:DE X E a f):DE X E (.UnaryOp .USub a pos) (b1 f Ka):=by
 refine PE.imp (rB gU ha) fun σ H Q hZ3=>?_
 obtain ⟨G,δ,S,aft⟩:=hZ3
 refine M6 S aft fun d1 v1 G1 H1 g1 r1 S1 a1=>?_
 cases d1 with
 | int i=>cases (show _=_ from r1); exact ⟨i,rfl,a1 _ G1 H1 (Grow.refl S1.sub) rfl⟩
 | _=>exact (show False from a1).elim
noncomputable def O0 (f g:Dn->Res PyData):Dn->Res PyData:=fun δ=>(f δ).bind fun x=>match x with
 | .bool true=>g δ
 | .bool false=>.ok (.bool false)
 | _=>.no
noncomputable def vOr (f g:Dn->Res PyData):Dn->Res PyData:=fun δ=>(f δ).bind fun x=>match x with
 | .bool false=>g δ
 | .bool true=>.ok (.bool true)
 | _=>.no
noncomputable def lM:PyData->Option PyData
 | .bool b=>some (.bool (!b))
 | _=>none
variable {T0:List Expr}
theorem U9 {op:BoolOp} (ha:DE X E a f):DE X E (.BoolOp op [a] pos) f:=tU ha
theorem O8 (ha:DE X E a f) (hb:DE X E (.BoolOp .And (b::T0) pos) g):DE X E (.BoolOp .And (a::b::T0) pos) (O0 f g):=by
 refine PE.imp (tZ ha hb) fun σ H Q hZ3=>?_
 obtain ⟨G,δ,S,aft⟩:=hZ3
 refine M6 S aft fun d1 v1 G1 H1 g1 r1 S1 a1=>?_
 cases d1 with
 | bool kk =>
   refine ⟨kk,r1,?_⟩
   cases kk with
   | true=>rw [if_pos rfl]; exact ⟨G1,δ,S1,a1⟩
   | false=>rw [if_neg (by decide)]; exact a1 _ G1 H1 (Grow.refl S1.sub) rfl
 | _=>exact (show False from a1).elim
theorem d_or (ha:DE X E a f) (hb:DE X E (.BoolOp .Or (b::T0) pos) g):DE X E (.BoolOp .Or (a::b::T0) pos) (vOr f g):=by
 refine PE.imp (pe_or ha hb) fun σ H Q hZ3=>?_
 obtain ⟨G,δ,S,aft⟩:=hZ3
 refine M6 S aft fun d1 v1 G1 H1 g1 r1 S1 a1=>?_
 cases d1 with
 | bool kk =>
   refine ⟨kk,r1,?_⟩
   cases kk with
   | true=>rw [if_pos rfl]; exact a1 _ G1 H1 (Grow.refl S1.sub) rfl
   | false=>rw [if_neg (by decide)]; exact ⟨G1,δ,S1,a1⟩
 | _=>exact (show False from a1).elim
theorem rW (ha:DE X E a f):DE X E (.UnaryOp .Not a pos) (b1 f lM):=by
 refine PE.imp (tV ha) fun σ H Q hZ3=>?_
 obtain ⟨G,δ,S,aft⟩:=hZ3
 refine M6 S aft fun d1 v1 G1 H1 g1 r1 S1 a1=>?_
 cases d1 with
 | bool kk=>exact ⟨kk,r1,a1 _ G1 H1 (Grow.refl S1.sub) rfl⟩
 | _=>exact (show False from a1).elim
def AftT (E:EK) (G H:Hp) (r:Res Bool) (Q:Bool->Hp->Prop):Prop:=match r with
 | .ok d=>∀ G' H',Grow G H G' H'->Q d H'
 | .exc c=>∀ G' H',Grow G H G' H'->E c H'
 | .no=>False
def tT (E:EK) (f:Dn->Res Bool):TT:=fun σ H Q=>∃ G δ,SR G H σ δ/\AftT E G H (f δ) Q
abbrev DT (X:Cx) (E:EK) (e:Expr) (f:Dn->Res Bool):Prop:=PT X e (tT E f)
abbrev DW (X:Cx) (E:EK) (e:Expr) (f:Dn->Res Bool):Prop:=PW X e (tT E f)
theorem AftT.grow {E:EK} {G H G' H':Hp} {r:Res Bool} {Q:Bool->Hp->Prop} (g:Grow G H G' H') (a:AftT E G H r Q):AftT E G' H' r Q:=by
 cases r with
 | ok d=>exact fun G2 H2 g2=>a G2 H2 (g.trans g2)
 | exc c=>exact fun G2 H2 g2=>a G2 H2 (g.trans g2)
 | no=>exact a
theorem PT.imp {X:Cx} {e:Expr} {t t':TT} (h:PT X e t) (i:∀ σ H Q,t' σ H Q->t σ H Q):PT X e t':=fun pins s σ H Q I q=>h pins s σ H Q I (i _ _ _ q)
theorem PW.imp {X:Cx} {e:Expr} {t t':TT} (h:PW X e t) (i:∀ σ H Q,t' σ H Q->t σ H Q):PW X e t':=fun wh pins s σ H Q I q=>h wh pins s σ H Q I (i _ _ _ q)
theorem W9 {E:EK} {G H:Hp} {σ:St} {δ:Dn} {f:Dn->Res PyData} {k:PyData->Res Bool} {Q:Bool->Hp->Prop} {R:VK} (S:SR G H σ δ) (a:AftT E G H ((f δ).bind k) Q)
   (h:∀ d v G1 H1,Grow G H G1 H1->Rep G1 d v->SR G1 H1 σ δ->AftT E G1 H1 (k d) Q->R v H1):tD E f σ H R:=by
 refine ⟨G,δ,S,?_⟩
 cases e:f δ with
 | ok d =>
   rw [e] at a; exact fun v G' H' g r=>h d v G' H' g r (S.grow g) (AftT.grow g a)
 | exc c=>rw [e] at a; exact a
 | no=>rw [e] at a; exact a
theorem Ih {E:EK} {G H:Hp} {σ:St} {δ:Dn} {f:Dn->Res Bool} {k:Bool->Res Bool} {Q R:Bool->Hp->Prop} (S:SR G H σ δ) (a:AftT E G H ((f δ).bind k) Q)
   (h:∀ d G1 H1,Grow G H G1 H1->SR G1 H1 σ δ->AftT E G1 H1 (k d) Q->R d H1):tT E f σ H R:=by
 refine ⟨G,δ,S,?_⟩
 cases e:f δ with
 | ok d =>
   rw [e] at a; exact fun G' H' g=>h d G' H' g (S.grow g) (AftT.grow g a)
 | exc c=>rw [e] at a; exact a
 | no=>rw [e] at a; exact a
theorem bP {E:EK} {G H:Hp} {σ:St} {δ:Dn} {f:Dn->Res Bool} {k:Bool->Res PyData} {Q:VK} {R:Bool->Hp->Prop} (S:SR G H σ δ) (a:Aft E G H ((f δ).bind k) Q)
   (h:∀ d G1 H1,Grow G H G1 H1->SR G1 H1 σ δ->Aft E G1 H1 (k d) Q->R d H1):tT E f σ H R:=by
 refine ⟨G,δ,S,?_⟩
 cases e:f δ with
 | ok d =>
   rw [e] at a; exact fun G' H' g=>h d G' H' g (S.grow g) (Aft.grow g a)
 | exc c=>rw [e] at a; exact a
 | no=>rw [e] at a; exact a
noncomputable def Wx:PyData->Option Bool
 | .none=>some false
 | .bool b=>some b
 | .int i=>some (i != 0)
 | .str x=>some (x.length != 0)
 | .list xs=>some (!xs.isEmpty)
 | .tuple xs=>some (!xs.isEmpty)
 | .dict _=>none
noncomputable def B2 (f:Dn->Res PyData):Dn->Res Bool:=fun δ=>(f δ).bind fun d=>ofO (Wx d)
theorem RepL.isEmpty {G:Hp} {ds:List PyData} {xs:List V} (r:RepL G ds xs):ds.isEmpty=xs.isEmpty:=by
 have:=r.length
 cases ds <;> cases xs <;> simp at this ⊢
theorem Rep.truV {G H:Hp} (hG:Same G H) {d:PyData} {v:V} (r:Rep G d v) {kk:Bool} (e:Wx d=some kk):wF K v H kk:=by
 cases d with
 | none=>cases (show _=_ from r); cases e; rfl
 | bool _=>cases (show _=_ from r); cases e; rfl
 | int _=>cases (show _=_ from r); cases e; rfl
 | str x =>
   cases r.1; cases e
   refine ⟨r.2.2,?_⟩; show (x.length != 0)=((x.length:Int) != 0)
   rw [Bool.eq_iff_iff]; simp
 | list _=>obtain ⟨a,xs,rfl,h1,l1⟩:=r; cases e; exact .inl ⟨xs,.inl (Rd.mono hG h1),by rw [l1.isEmpty]⟩
 | tuple _=>obtain ⟨a,xs,rfl,h1,l1⟩:=r; cases e; exact .inr (.inl ⟨xs,.inl (.inl (hG _ _ h1)),by rw [l1.isEmpty]⟩)
 | dict _=>cases e
theorem O3 (ha:DE X E a f) (he:∀ whole,isTrue a X.env whole=(do let v <- whole; standAt a.pos; holding [v] (truthy v)):=by intro _; rfl):DT X E a (B2 f):=by
 refine PT.imp (iZ ha he) fun σ H Q hZ3=>?_
 obtain ⟨G,δ,S,aft⟩:=hZ3
 refine W9 S aft fun d1 v1 G1 H1 g1 r1 S1 a1=>?_
 cases e:Wx d1 with
 | none=>rw [e] at a1; exact a1.elim
 | some kk=>rw [e] at a1; exact ⟨kk,r1.truV S1.sub e,a1 G1 H1 (Grow.refl S1.sub)⟩
theorem Ex {o:CmpOp} {r:R2} {op:PyData->PyData->Option PyData} (hr:OpR X (compareOp o) r) (ho:OpD r op) (hbool:∀ x y d,op x y=some d->∃ kk,d=.bool kk) (ha:DE X E a f) (hb:DE X E b g) (hm:behindInMarks o b=false) :
   DT X E (.Compare a [o] [b] pos) (B2 (b2 f g op)):=by
 refine PT.imp (nF hr ha hb hm) fun σ H Q hZ3=>?_
 obtain ⟨G,δ,S,aft⟩:=hZ3
 have aft':AftT E G H ((f δ).bind fun x=>(g δ).bind fun y=>(ofO (op x y)).bind fun d=>ofO (Wx d)) Q:=by
   unfold B2 b2 at aft; simp only [Res.bind_assoc] at aft; exact aft
 refine W9 S aft' fun d1 v1 G1 H1 g1 r1 S1 a1=>?_
 refine W9 S1 a1 fun d2 v2 G2 H2 g2 r2 S2 a2=>?_
 cases e:op d1 d2 with
 | none=>rw [e] at a2; exact a2.elim
 | some d =>
   rw [e] at a2; obtain ⟨kk,rfl⟩:=hbool _ _ _ e; exact ho G2 H2 v1 v2 d1 d2 _ _ S2.sub (r1.mono g2.g) r2 e fun v G3 H3 g3 r3=>⟨kk,r3,a2 G3 H3 g3⟩
theorem qC (x y d:PyData) (e:dEq x y=some d):∃ kk,d=.bool kk:=by unfold dEq at e; split at e <;> cases e; exact ⟨_,rfl⟩
theorem qB (x y d:PyData) (e:dNe x y=some d):∃ kk,d=.bool kk:=by unfold dNe at e; split at e <;> cases e; exact ⟨_,rfl⟩
theorem Kf {op:CmpOp} (x y d:PyData) (e:K5 op x y=some d):∃ kk,d=.bool kk:=by
 unfold K5 at e; split at e
 . obtain ⟨kk,_,rfl⟩:=Option.map_eq_some_iff.mp e; exact ⟨_,rfl⟩
 . cases e
theorem Tu {op:CmpOp} (x y d:PyData) (e:T8 op x y=some d):∃ kk,d=.bool kk:=by
 unfold T8 at e; split at e
 . cases e; exact ⟨_,rfl⟩
 . cases e
theorem W3 (C:Cxt P w K mg base X N sc k df) (ha:DE X E a f) (hb:DE X E b g):DT X E (.Compare a [.Eq] [b] pos) (B2 (b2 f g dEq)):=Ex (jO C.hu) jQ qC ha hb (Di _)
theorem Kp (C:Cxt P w K mg base X N sc k df) (ha:DE X E a f) (hb:DE X E b g):DT X E (.Compare a [.NotEq] [b] pos) (B2 (b2 f g dNe)):=Ex (uE C.hu) uG qB ha hb (Di _)
theorem dS (C:Cxt P w K mg base X N sc k df) (ha:DE X E a f) (hb:DE X E b g):DT X E (.Compare a [.Lt] [b] pos) (B2 (b2 f g (K5 .Lt))):=Ex (Fz (.inl rfl) C.hu) Dh Kf ha hb (Di _)
theorem t_le (C:Cxt P w K mg base X N sc k df) (ha:DE X E a f) (hb:DE X E b g):DT X E (.Compare a [.LtE] [b] pos) (B2 (b2 f g (K5 .LtE))):=Ex (Fz (.inr rfl) C.hu) Dh Kf ha hb (Di _)
theorem mK (C:Cxt P w K mg base X N sc k df) (ha:DE X E a f) (hb:DE X E b g):DT X E (.Compare a [.Gt] [b] pos) (B2 (b2 f g (T8 .Gt))):=Ex (Vf (.inl rfl)) Pr Tu ha hb (Di _)
theorem t_ge (C:Cxt P w K mg base X N sc k df) (ha:DE X E a f) (hb:DE X E b g):DT X E (.Compare a [.GtE] [b] pos) (B2 (b2 f g (T8 .GtE))):=Ex (Vf (.inr rfl)) Pr Tu ha hb (Di _)
theorem t_in (C:Cxt P w K mg base X N sc k df) (ha:DE X E a f) (hb:DE X E b g) (hm:behindInMarks .In b=false:=by with_unfolding_all rfl):DT X E (.Compare a [.In] [b] pos) (B2 (b2 f g (dIn false))):=Ex (jN C.hu) aR (fun _ _ _ e=>Qh e) ha hb hm
theorem Np (C:Cxt P w K mg base X N sc k df) (ha:DE X E a f) (hb:DE X E b g) (hm:behindInMarks .NotIn b=false:=by with_unfolding_all rfl):DT X E (.Compare a [.NotIn] [b] pos) (B2 (b2 f g (dIn true))):=Ex (eO C.hu) aR (fun _ _ _ e=>Qh e) ha hb hm
theorem Zm {j:Nat} {p:Pos} (ha:DE X E a f):DT X E (.Compare a [.IsNot] [.Constant .none j p] pos) (fun δ=>(f δ).bind fun d=>.ok (!isNone d)):=by
 refine PT.imp (tM (cM ha)) fun σ H Q hZ3=>?_
 obtain ⟨G,δ,S,aft⟩:=hZ3
 exact W9 S aft fun d1 v1 G1 H1 g1 r1 S1 a1=>by rw [r1.non]; exact ⟨_,rfl,a1 G1 H1 (Grow.refl S1.sub)⟩
variable {c1 c2:Dn->Res Bool}
noncomputable def L8 (c:Dn->Res Bool):Dn->Res Bool:=fun δ=>(c δ).bind fun b=>.ok (!b)
noncomputable def Q1 (c c':Dn->Res Bool):Dn->Res Bool:=fun δ=>(c δ).bind fun b=>if b=true then c' δ else .ok false
noncomputable def cOr (c c':Dn->Res Bool):Dn->Res Bool:=fun δ=>(c δ).bind fun b=>if b=true then .ok true else c' δ
theorem N9 (ha:DT X E a c1):DT X E (.UnaryOp .Not a pos) (L8 c1):=by
 refine PT.imp (tL ha) fun σ H Q hZ3=>?_
 obtain ⟨G,δ,S,aft⟩:=hZ3
 exact Ih S aft fun d G1 H1 g1 S1 a1=>a1 G1 H1 (Grow.refl S1.sub)
theorem Ad (ha:DT X E a c1):DW X E (.BoolOp .And [a] pos) c1:=nA ha
theorem Ac (ha:DT X E a c1):DW X E (.BoolOp .Or [a] pos) c1:=tJ ha
theorem Bk (ha:DT X E a c1) (hb:DW X E (.BoolOp .And (b::T0) pos) c2):DW X E (.BoolOp .And (a::b::T0) pos) (Q1 c1 c2):=by
 refine PW.imp (tK ha hb) fun σ H Q hZ3=>?_
 obtain ⟨G,δ,S,aft⟩:=hZ3
 refine Ih S aft fun d G1 H1 g1 S1 a1=>?_
 cases d with
 | true=>rw [if_pos rfl]; exact ⟨G1,δ,S1,a1⟩
 | false=>rw [if_neg (by decide)]; exact a1 G1 H1 (Grow.refl S1.sub)
theorem Dd (ha:DT X E a c1) (hb:DW X E (.BoolOp .Or (b::T0) pos) c2):DW X E (.BoolOp .Or (a::b::T0) pos) (cOr c1 c2):=by
 refine PW.imp (pw_or ha hb) fun σ H Q hZ3=>?_
 obtain ⟨G,δ,S,aft⟩:=hZ3
 refine Ih S aft fun d G1 H1 g1 S1 a1=>?_
 cases d with
 | true=>rw [if_pos rfl]; exact a1 G1 H1 (Grow.refl S1.sub)
 | false=>rw [if_neg (by decide)]; exact ⟨G1,δ,S1,a1⟩
theorem w_t (h:DW X E a c1):DT X E a c1:=h.pt
noncomputable def vIf (c:Dn->Res Bool) (f g:Dn->Res PyData):Dn->Res PyData:=fun δ=>(c δ).bind fun b=>if b=true then f δ else g δ
theorem Vu (hc:DT X E c c1) (ha:DE X E a f) (hb:DE X E b g):DE X E (.IfExp c a b pos) (vIf c1 f g):=by
 refine PE.imp (jJ hc ha hb) fun σ H Q hZ3=>?_
 obtain ⟨G,δ,S,aft⟩:=hZ3
 refine bP S aft fun d G1 H1 g1 S1 a1=>?_
 cases d with
 | true=>rw [if_pos rfl]; exact ⟨G1,δ,S1,a1⟩
 | false=>rw [if_neg (by decide)]; exact ⟨G1,δ,S1,a1⟩
end
end Sm
end
noncomputable section
set_option backward.match.sparseCases false
namespace Sm
open PySem PySem.Spec PyProof.Rows L2
noncomputable section
variable {w:World} {K:PySem.W.Frag} {X:Cx} {k:Nat} {E:EK} {pos:Pos} {a b c e:Expr} {es:List Expr} {f g:Dn->Res PyData} {fs:Dn->Res (List PyData)}
def AftL (E:EK) (G H:Hp) (r:Res (List PyData)) (Q:List V->Hp->Prop):Prop:=match r with
 | .ok ds=>∀ vs G' H',Grow G H G' H'->RepL G' ds vs->Q vs H'
 | .exc c=>∀ G' H',Grow G H G' H'->E c H'
 | .no=>False
def tA (E:EK) (fs:Dn->Res (List PyData)):TA:=fun σ H Q=>∃ G δ,SR G H σ δ/\AftL E G H (fs δ) Q
structure DA (X:Cx) (E:EK) (es:List Expr) (n:Nat) (fs:Dn->Res (List PyData)):Prop where
 pa:PA X es (tA E fs)
 len:∀ δ ds,fs δ=.ok ds->ds.length=n
theorem PA.imp {X:Cx} {es:List Expr} {t t':TA} (h:PA X es t) (i:∀ σ H Q,t' σ H Q->t σ H Q):PA X es t':=fun p pins s σ H Q I q=>h p pins s σ H Q I (i _ _ _ q)
theorem AftL.grow {E:EK} {G H G' H':Hp} {r:Res (List PyData)} {Q:List V->Hp->Prop} (g:Grow G H G' H') (a:AftL E G H r Q):AftL E G' H' r Q:=by
 cases r with
 | ok d=>exact fun v G2 H2 g2 q=>a v G2 H2 (g.trans g2) q
 | exc c=>exact fun G2 H2 g2=>a G2 H2 (g.trans g2)
 | no=>exact a
theorem Wj {α:Type} {E:EK} {G H:Hp} {σ:St} {δ:Dn} {f:Dn->Res PyData} {k:PyData->Res α} {R:VK} {W:Hp->Hp->Res α->Prop} (S:SR G H σ δ) (a:W G H ((f δ).bind k)) (hg:∀ {G H G' H':Hp} {r:Res α},Grow G H G' H'->W G H r->W G' H' r)
   (hx:∀ c,W G H (.exc c)->∀ G' H',Grow G H G' H'->E c H') (hn:W G H .no->False)
   (h:∀ d v G1 H1,Grow G H G1 H1->Rep G1 d v->SR G1 H1 σ δ->W G1 H1 (k d)->R v H1):tD E f σ H R:=by
 refine ⟨G,δ,S,?_⟩
 cases e:f δ with
 | ok d=>rw [e] at a; exact fun v G' H' g r=>h d v G' H' g r (S.grow g) (hg g a)
 | exc c=>rw [e] at a; exact hx c a
 | no=>rw [e] at a; exact hn a
theorem V7 {α:Type} {E:EK} {G H:Hp} {σ:St} {δ:Dn} {fs:Dn->Res (List PyData)} {k:List PyData->Res α} {R:List V->Hp->Prop} {W:Hp->Hp->Res α->Prop} (S:SR G H σ δ) (a:W G H ((fs δ).bind k)) (hg:∀ {G H G' H':Hp} {r:Res α},Grow G H G' H'->W G H r->W G' H' r)
   (hx:∀ c,W G H (.exc c)->∀ G' H',Grow G H G' H'->E c H') (hn:W G H .no->False)
   (h:∀ ds vs G1 H1,fs δ=.ok ds->Grow G H G1 H1->RepL G1 ds vs->SR G1 H1 σ δ->W G1 H1 (k ds)->R vs H1):tA E fs σ H R:=by
 refine ⟨G,δ,S,?_⟩
 cases e:fs δ with
 | ok d=>rw [e] at a; exact fun v G' H' g r=>h d v G' H' e g r (S.grow g) (hg g a)
 | exc c=>rw [e] at a; exact hx c a
 | no=>rw [e] at a; exact hn a
noncomputable def A7:Dn->Res (List PyData):=fun _=>.ok []
noncomputable def A0 (f:Dn->Res PyData) (fs:Dn->Res (List PyData)):Dn->Res (List PyData):=fun δ=>(f δ).bind fun d=>(fs δ).bind fun ds=>.ok (d::ds)
theorem A9:DA X E [] 0 A7:=⟨PA.imp Le fun σ H Q hZ3=>by obtain ⟨G,δ,S,a⟩:=hZ3; exact a [] G H (Grow.refl S.sub) rfl,fun δ ds e=>by cases e; rfl⟩
noncomputable def Nt:Expr->Bool
 | .Starred .. => false
 | _=>true
theorem dY {a:Expr} {es:List Expr} {env:Env} (h:Nt a=true):starEach (a::es) env=(false,eval a env)::starEach es env:=by
 cases a <;> first | rfl | cases h
theorem A1 {n:Nat} (ha:DE X E a f) (hr:DA X E es n fs) (hs:Nt a=true:=by rfl):DA X E (a::es) (n+1) (A0 f fs):=by
 refine ⟨PA.imp (Bu ha hr.pa (dY hs)) fun σ H Q ⟨G,δ,S,aft⟩=>?_,fun δ ds e=>?_⟩
 . refine Wj (W:=fun G H r=>AftL E G H r Q) S aft (fun g a=>AftL.grow g a) (fun c a=>a) (fun a=>a) fun d v G1 H1 g1 r1 S1 a1=>?_
   refine V7 (W:=fun G H r=>AftL E G H r Q) S1 a1 (fun g a=>AftL.grow g a) (fun c a=>a) (fun a=>a) fun ds vs G2 H2 e g2 r2 S2 a2=>?_
   exact a2 _ G2 H2 (Grow.refl S2.sub) (RepL.cons (r1.mono g2.g) r2)
 . unfold A0 at e
   cases h1:f δ with
   | ok d =>
     rw [h1] at e
     cases h2:fs δ with
     | ok ds' =>
       simp only [Res.bind,h2] at e; cases e; rw [List.length_cons,hr.len δ ds' h2]
     | exc c=>simp only [Res.bind,h2] at e; cases e
     | no=>simp only [Res.bind,h2] at e; cases e
   | exc c=>rw [h1] at e; cases e
   | no=>rw [h1] at e; cases e
noncomputable def L9 (fs:Dn->Res (List PyData)):Dn->Res PyData:=fun δ=>(fs δ).bind fun ds=>.ok (.tuple ds)
noncomputable def D1 (fs:Dn->Res (List PyData)):Dn->Res PyData:=fun δ=>(fs δ).bind fun ds=>.ok (.list ds)
theorem M5 {n x1:Nat} (h:DA X E es n fs) (hn:n<=sizeLine:=by decide):DE X E (.Tuple es x1 pos) (L9 fs):=by
 refine PE.imp (tQ h.pa) fun σ H Q hZ3=>?_
 obtain ⟨G,δ,S,aft⟩:=hZ3
 refine V7 (W:=fun G H r=>Aft E G H r Q) S aft (fun g a=>Aft.grow g a) (fun c a=>a) (fun a=>a) fun ds vs G1 H1 e g1 r1 S1 a1=>?_
 refine ⟨by rw [<- r1.length,h.len δ ds e]; exact hn,fun p hp=>?_⟩
 exact a1 _ (upd G1 p (.tup vs)) _ (Grow.new S1.sub hp) ⟨p,vs,rfl,G8,r1.mono (Same.upd (S1.sub.free hp))⟩
def lZ (E:EK) (G H:Hp) (r:Res (List PyData)) (Q:VK):Prop:=match r with
 | .ok ds=>∀ p xs G' H',Grow G H G' H'->H p=none->G' p=none->H' p=some (.lst xs)->RepL G' ds xs->Q (.ref p) H'
 | .exc c=>∀ G' H',Grow G H G' H'->E c H'
 | .no=>False
def tF (E:EK) (f:Dn->Res (List PyData)):TE:=fun σ H Q=>∃ G δ,SR G H σ δ/\lZ E G H (f δ) Q
abbrev DF (X:Cx) (E:EK) (e:Expr) (f:Dn->Res (List PyData)):Prop:=PE X e (tF E f)
theorem Grow.share {G H G' H':Hp} {p:Addr} {o:HO} (g:Grow G H G' H') (hp:H p=none) (hg:G' p=none) (hH:H' p=some o):Grow G H (upd G' p o) H' :=
 ⟨g.g.trans (Same.upd hg),g.h,fun b u e=>by
   by_cases hb:b=p
   . subst hb; rw [G8] at e; cases e; exact hH
   . rw [E4 hb] at e; exact g.gh _ _ e,fun b u e=>by
   by_cases hb:b=p
   . subst hb; exact .inr (.inl hp)
   . rw [E4 hb] at e; exact g.fr _ _ e⟩
theorem E2 (h:DF X E e fs):DE X E e (D1 fs):=by
 refine PE.imp h fun σ H Q hY35=>?_
 obtain ⟨G,δ,S,aft⟩:=hY35
 refine ⟨G,δ,S,?_⟩
 unfold D1 at aft
 cases e:fs δ with
 | ok ds =>
   rw [e] at aft; exact fun p xs G' H' g hp hg hH r=>aft _ _ H' (g.share hp hg hH) ⟨p,xs,rfl,.inl G8,r.mono (Same.upd hg)⟩
 | exc c=>rw [e] at aft; exact aft
 | no=>rw [e] at aft; exact aft
theorem L0 {n:Nat} (h:DA X E es n fs) (hn:n<=sizeLine:=by decide):DF X E (.List es pos) fs:=by
 refine PE.imp (tY h.pa) fun σ H Q hY36=>?_
 obtain ⟨G,δ,S,aft⟩:=hY36
 refine ⟨G,δ,S,?_⟩
 cases e:fs δ with
 | ok ds =>
   rw [e] at aft; refine fun vs G1 H1 g1 r1=>⟨by rw [<- r1.length,h.len δ ds e]; exact hn,fun p hp=>?_⟩
   exact aft p vs G1 _ (g1.trans (Grow.own g1.gh hp)) (g1.h.free hp) (g1.gh.free hp) G8 r1
 | exc c=>rw [e] at aft; exact aft
 | no=>rw [e] at aft; exact aft
noncomputable def dIx:PyData->PyData->Option PyData
 | .list ds,.int i=>atI ds i
 | .tuple ds,.int i=>atI ds i
 | .str x,.int i=>(atI x.cps.toList i).map fun c=>.str ⟨#[c]⟩
 | _,_=>none
theorem dF {G:Hp} {ds:List PyData} {xs:List V} {i:Int} {d:PyData} (r:RepL G ds xs) (e:atI ds i=some d):∃ x,atI xs i=some x/\Rep G d x:=by
 unfold atI at e ⊢
 rw [<- r.length]
 cases q:ixN ds.length i with
 | none=>rw [q] at e; cases e
 | some j=>rw [q] at e; exact r.get e
theorem uH:OpD (rIx K) dIx:=by
 intro G H x y a b d Q hG ra rb e q
 cases b with
 | int i =>
   cases (show _=_ from rb)
   cases a with
   | list ds =>
     obtain ⟨p,xs,rfl,h1,l1⟩:=ra; obtain ⟨v,e1,r1⟩:=dF l1 e; exact .inl ⟨p,xs,i,v,rfl,rfl,.inl (Rd.mono hG h1),e1,q _ G H (Grow.refl hG) r1⟩
   | tuple ds =>
     obtain ⟨p,xs,rfl,h1,l1⟩:=ra; obtain ⟨v,e1,r1⟩:=dF l1 e; exact .inr (.inl ⟨p,xs,i,v,rfl,rfl,.inl (.inl (hG _ _ h1)),e1,q _ G H (Grow.refl hG) r1⟩)
   | str z =>
     obtain ⟨e0,o1,l1⟩:=ra; subst e0; obtain ⟨cc,e1,rfl⟩:=Option.map_eq_some_iff.mp e; refine .inr (.inr ⟨z,i,cc,rfl,rfl,l1,e1,q _ G H (Grow.refl hG) ⟨rfl,?_,?_⟩⟩)
     . obtain ⟨j,_,h2,_⟩:=Oa e1
       have hm:cc∈z.cps.toList:=List.mem_of_getElem? h2; unfold PyData.strOk at *
       rw [<- Array.all_toList,List.all_eq_true] at o1; have:=o1 cc hm
       simpa using this
     . show 1<=sizeLine; decide
   | _=>cases e
 | _=>cases a <;> cases e
theorem D3 (ha:DE X E a f) (hb:DE X E b g) (hs:dG b:=by exact fun _ _=>rfl):DE X E (.Subscript a b pos) (b2 f g dIx) :=
 PE.imp (pe_ix vA ha hb hs) fun _ _ _ h=>gX uH h
noncomputable def V1 (xs:List PyData) (lo hi:Option Int):List PyData:=(xs.drop (HT.sIx xs.length 0 lo)).take (HT.sIx xs.length xs.length hi - HT.sIx xs.length 0 lo)
noncomputable def fX (d:PyData) (lo hi:Option Int):Option PyData:=match d with
 | .list ds=>some (.list (V1 ds lo hi))
 | .tuple ds=>some (.tuple (V1 ds lo hi))
 | _=>none
theorem dC {G:Hp} {ds:List PyData} {xs:List V} (r:RepL G ds xs) (lo hi:Option Int):RepL G (V1 ds lo hi) (fZ xs lo hi):=by
 unfold V1 fZ
 rw [r.length]
 exact (r.drop _).take _
noncomputable def rSlD:V->Option Int->Option Int->Hp->VK->Prop:=fun x lo hi H Q=>∃ G a d,Same G H/\Rep G a x/\fX a lo hi=some d/\∀ v G' H',Grow G H G' H'->Rep G' d v->Q v H'
theorem Gk {prog:Program} {w:World} {A:Around} {E:Value->Shared->Prop} {s:Shared} {t sl:Addr} {items:Array Value} {vl vu:Value} {lo hi:Option Int} {Q:Value->Shared->Prop} (ht:IsTup s.heap t items) (hs:s.heap.IsSliceOf sl vl vu .none) (pl:IsPart vl lo) (pu:IsPart vu hi)
   (hw:HT.sIx items.size 0 lo=0/\HT.sIx items.size items.size hi=items.size) (h:Q (.ref t) s):wpAny (model prog w) A (getItem (.ref t) (.ref sl)) Q E s:=by
 obtain ⟨os,hos,hcs,hds⟩:=id hs
 have hTs:s.TypeIs (.ref sl) "slice" := ⟨os,hos,hcs⟩
 unfold getItem
 try with_reducible refine wpAny_holding ?_
 first | refine wpAny_bind (wpAny_pure ?_) | skip
 refine wpAny_bind (wpAny_sequenceKey ht.typeIs (by decide) ?_)
 refine wpAny_bind (wpAny_callSpecial?_slot (name:=Str.ofString "__getitem__") ht.typeIs PyProof.Rows.slot_tuple_getitem
   (wpAny_call_entry PyProof.Rows.slot_tuple_getitem ht.typeIs entry_tuple_getitem ?_ (args_tuple_getitem _ _)))
 show wpAny _ _ (Builtin.Tuple.tupleItemsOf (.ref t)>>=_) _ _ s
 refine wpAny_bind (tupleItemsOf_ ht ?_)
 refine wpAny_bind (wpAny_typeOf hTs ?_)
 rw [if_pos (by decide)]
 refine wpAny_bind (HT.sliceApplied_gen hs pl pu ?_)
 show wpAny _ _ (if (((HT.sIx items.size 0 lo:Nat):Int)==0&&(1:Int)==1&&(HT.sIx items.size items.size hi - HT.sIx items.size 0 lo)==items.size)=true then _ else _) _ _ s
 rw [if_pos (by rw [hw.1,hw.2]; simp)]
 unfold Builtin.Tuple.tupleIsExact
 refine wpAny_bind (wpAny_bind (wpAny_typeOf ht.typeIs (wpAny_pure ?_)))
 rw [if_pos (by decide)]
 first
   | exact wpAny_bind (wpAny_rule (wpAny_pure ⟨_,rfl,wpAny_pure h⟩))
   | exact wpAny_bind (wpAny_rule (wpAny_bind (wpAny_pure (wpAny_pure ⟨_,rfl,wpAny_pure h⟩))))
theorem sl_D:SlR X rSlD:=by
 rintro pins s σ H x v vl vu lo hi sl Q I rx hs pl pu ⟨G,a,d,hG,ra,e,q⟩
 cases a with
 | list ds =>
   cases e; obtain ⟨p,xs,rfl,h1,l1⟩:=ra; cases rx; obtain ⟨z,its,n,r,e1⟩:=X2 I hG h1; have hlen:=r.length; have hl:s.heap.IsList p its.toArray:=⟨_,e1,rfl,n,rfl⟩; refine ⟨"list",_,slot_list_getitem.lookup,hl.typeIs,?_⟩; refine wpAny_getItem_list_slice hl hs pl pu .none (by simp) ?_ (by rw [List.size_toArray] <;> lia)
   rw [Gx,<- hlen]; exact Vs (t':=s.toks) I hG ((r.drop (HT.sIx xs.length 0 lo)).take (HT.sIx xs.length xs.length hi - HT.sIx xs.length 0 lo)) (dC l1 lo hi) (Nat.le_trans (Fl xs lo hi) z) q
 | tuple ds =>
   cases e; obtain ⟨p,xs,rfl,h1,l1⟩:=ra; cases rx; obtain ⟨z,its,r,ht⟩:=Bb I hG h1; have hlen:its.toArray.size=xs.length:=by rw [List.size_toArray]; exact r.length.symm
   refine ⟨"tuple",_,PyProof.Rows.slot_tuple_getitem.lookup,ht.typeIs,?_⟩
   by_cases hw:HT.sIx xs.length 0 lo=0/\HT.sIx xs.length xs.length hi=xs.length
   . refine Gk ht hs pl pu (by rw [hlen]; exact hw) ⟨.ref p,H,I,rfl,q _ G H (Grow.refl hG) ⟨p,xs,rfl,h1,?_⟩⟩
     have:V1 ds lo hi=ds:=by
       unfold V1; rw [l1.length,hw.1,hw.2,List.drop_zero,Nat.sub_zero,<- l1.length,List.take_length]
     rw [this]; exact l1
   . refine HT.getItem_tuple_cut ht hs pl pu (by rw [hlen]; exact hw) ?_ (by rw [hlen]; exact z)
     rw [hlen]; exact Ny (t':=s.toks) I hG ((r.drop (HT.sIx xs.length 0 lo)).take (HT.sIx xs.length xs.length hi - HT.sIx xs.length 0 lo)) (dC l1 lo hi) (Nat.le_trans (Fl xs lo hi) z) q
 | _=>cases e
def AftO (E:EK) (G H:Hp) (r:Res (Option Int)) (Q:Option Int->Hp->Prop):Prop:=match r with
 | .ok ds=>∀ G' H',Grow G H G' H'->Q ds H'
 | .exc c=>∀ G' H',Grow G H G' H'->E c H'
 | .no=>False
def tO (E:EK) (f:Dn->Res (Option Int)):TO:=fun σ H Q=>∃ G δ,SR G H σ δ/\AftO E G H (f δ) Q
abbrev DO (X:Cx) (E:EK) (e:Option Expr) (f:Dn->Res (Option Int)):Prop:=PO X e (tO E f)
theorem PO.imp {X:Cx} {e:Option Expr} {t t':TO} (h:PO X e t) (i:∀ σ H Q,t' σ H Q->t σ H Q):PO X e t':=fun pins s σ H Q I q=>h pins s σ H Q I (i _ _ _ q)
noncomputable def P1:Dn->Res (Option Int):=fun _=>.ok none
noncomputable def O5 (f:Dn->Res PyData):Dn->Res (Option Int):=fun δ=>(f δ).bind fun d=>match d with
 | .int i=>.ok (some i)
 | _=>.no
theorem AftO.grow {E:EK} {G H G' H':Hp} {r:Res (Option Int)} {Q:Option Int->Hp->Prop} (g:Grow G H G' H') (a:AftO E G H r Q):AftO E G' H' r Q:=by
 cases r with
 | ok d=>exact fun G2 H2 g2=>a G2 H2 (g.trans g2)
 | exc c=>exact fun G2 H2 g2=>a G2 H2 (g.trans g2)
 | no=>exact a
theorem R7:DO X E none P1:=PO.imp nJ fun σ H Q hZ3=>by obtain ⟨G,δ,S,a⟩:=hZ3; exact a G H (Grow.refl S.sub)
theorem P8 (h:DE X E e f):DO X E (some e) (O5 f):=by
 refine PO.imp (nI h) fun σ H Q hZ3=>?_
 obtain ⟨G,δ,S,aft⟩:=hZ3
 refine Wj (W:=fun G H r=>AftO E G H r Q) S aft (fun g a=>AftO.grow g a) (fun c a=>a) (fun a=>a) fun d v G1 H1 g1 r1 S1 a1=>?_
 cases d with
 | int i=>exact ⟨i,r1,a1 G1 H1 (Grow.refl S1.sub)⟩
 | _=>exact (show False from a1).elim
theorem Zc {α:Type} {E:EK} {G H:Hp} {σ:St} {δ:Dn} {fs:Dn->Res (Option Int)} {k:Option Int->Res α} {R:Option Int->Hp->Prop} {W:Hp->Hp->Res α->Prop} (S:SR G H σ δ) (a:W G H ((fs δ).bind k)) (hg:∀ {G H G' H':Hp} {r:Res α},Grow G H G' H'->W G H r->W G' H' r)
   (hx:∀ c,W G H (.exc c)->∀ G' H',Grow G H G' H'->E c H') (hn:W G H .no->False)
   (h:∀ ds G1 H1,Grow G H G1 H1->SR G1 H1 σ δ->W G1 H1 (k ds)->R ds H1):tO E fs σ H R:=by
 refine ⟨G,δ,S,?_⟩
 cases e:fs δ with
 | ok d=>rw [e] at a; exact fun G' H' g=>h d G' H' g (S.grow g) (hg g a)
 | exc c=>rw [e] at a; exact hx c a
 | no=>rw [e] at a; exact hn a
noncomputable def vSl (f:Dn->Res PyData) (lo hi:Dn->Res (Option Int)):Dn->Res PyData:=fun δ=>(f δ).bind fun x=>(lo δ).bind fun l=>(hi δ).bind fun u=>ofO (fX x l u)
variable {lo hi:Option Expr} {fl fh:Dn->Res (Option Int)} {p2:Pos}
theorem N8 (he:DE X E e f) (hl:DO X E lo fl) (hu:DO X E hi fh):DE X E (.Subscript e (.Slice lo hi none p2) pos) (vSl f fl fh):=by
 refine PE.imp (jH sl_D he hl hu) fun σ H Q hZ3=>?_
 obtain ⟨G,δ,S,aft⟩:=hZ3
 refine M6 S aft fun d v G1 H1 g1 r1 S1 a1=>?_
 refine Zc (W:=fun G H r=>Aft E G H r Q) S1 a1 (fun g a=>Aft.grow g a) (fun c a=>a) (fun a=>a) fun l G2 H2 g2 S2 a2=>?_
 refine Zc (W:=fun G H r=>Aft E G H r Q) S2 a2 (fun g a=>Aft.grow g a) (fun c a=>a) (fun a=>a) fun u G3 H3 g3 S3 a3=>?_
 cases e:fX d l u with
 | none=>rw [e] at a3; exact a3.elim
 | some z=>rw [e] at a3; exact ⟨G3,d,z,S3.sub,r1.mono (g2.g.trans g3.g),e,a3⟩
end
end Sm
end
noncomputable section
set_option backward.match.sparseCases false
namespace Sm
open PySem PySem.Spec PyProof.Rows L2
noncomputable section
variable {P:Program} {w:World} {K:PySem.W.Frag} {mg:Str->Option Value} {base:Heap} {X:Cx} {N:List Str} {sc:Scope} {k:Nat} {df:Bool} {E:EK} {pos p:Pos} {a b c e:Expr} {es:List Expr} {f g:Dn->Res PyData} {fs:Dn->Res (List PyData)}
noncomputable def rCD (op:List PyData->Option PyData):List V->Hp->VK->Prop:=fun vs H Q=>∃ G ds d,Same G H/\RepL G ds vs/\op ds=some d/\∀ v G' H',Grow G H G' H'->Rep G' d v->Q v H'
noncomputable def vFn (fs:Dn->Res (List PyData)) (op:List PyData->Option PyData):Dn->Res PyData:=fun δ=>(fs δ).bind fun ds=>ofO (op ds)
theorem qO {op:List PyData->Option PyData} {σ:St} {H:Hp} {Q:VK} (h:tD E (vFn fs op) σ H Q):tCB (rCD op) (tA E fs) σ H Q:=by
 obtain ⟨G,δ,S,aft⟩:=h
 refine V7 (W:=fun G H r=>Aft E G H r Q) S aft (fun g a=>Aft.grow g a) (fun c a=>a) (fun a=>a) fun ds vs G1 H1 e g1 r1 S1 a1=>?_
 cases e:op ds with
 | none=>rw [e] at a1; exact a1.elim
 | some d=>rw [e] at a1; exact ⟨G1,ds,d,S1.sub,r1,e,a1⟩
theorem Qg {x:Str} {id:String} {n:Nat} {op:List PyData->Option PyData} (C:Cxt P w K mg base X N sc k df) (hc:T5 X (.builtin id) (rCD op)) (h:okGl sc x=true) (hm:mg x=none) (hv:bootBuiltins x=some (.builtin id)) (ha:DA X E (e::es) n fs)
   (he:starEach (e::es) X.env=(false,eval e X.env)::starEach es X.env:=by rfl) (hpl:(backTo pos (starEach es X.env)).any (·.1)=false:=by rfl):DE X E (.Call (.Name x p) (e::es) [] pos) (vFn fs op):=by
 obtain ⟨h1,h2,h3⟩:=okGl.gl C h
 exact PE.imp (Pq hc h1 (by rw [C.hmg]; exact hm) hv ha.pa h3 h2 he hpl) fun _ _ _ q=>qO q
theorem Jy {x:Str} {T:String} {n:Nat} {op:List PyData->Option PyData} (C:Cxt P w K mg base X N sc k df) (hc:T5 X (.type T) (rCD op)) (h:okGl sc x=true) (hm:mg x=none) (hv:bootBuiltins x=some (.type T)) (ha:DA X E (e::es) n fs)
   (he:starEach (e::es) X.env=(false,eval e X.env)::starEach es X.env:=by rfl) (hpl:(backTo pos (starEach es X.env)).any (·.1)=false:=by rfl):DE X E (.Call (.Name x p) (e::es) [] pos) (vFn fs op):=by
 obtain ⟨h1,h2,h3⟩:=okGl.gl C h
 exact PE.imp (Ld hc h1 (by rw [C.hmg]; exact hm) hv ha.pa h3 h2 he hpl) fun _ _ _ q=>qO q
theorem Hs {G:Hp} {d:PyData} {vs:List V} (r:RepL G [d] vs):∃ v,vs=[v]/\Rep G d v:=by
 obtain ⟨x,t,rfl,h,l⟩:=r; cases (show _=_ from l); exact ⟨x,rfl,h⟩
theorem aJ {G:Hp} {d d':PyData} {vs:List V} (r:RepL G [d,d'] vs):∃ v v',vs=[v,v']/\Rep G d v/\Rep G d' v':=by
 obtain ⟨x,t,rfl,h,l⟩:=r
 obtain ⟨y,rfl,h'⟩:=Hs l
 exact ⟨x,y,rfl,h,h'⟩
noncomputable def K4:List PyData->Option PyData
 | [.list ds]=>some (.int ds.length)
 | [.tuple ds]=>some (.int ds.length)
 | [.str x]=>some (.int x.length)
 | _=>none
theorem bL:T5 X (.builtin "len") (rCD K4):=by
 rintro pins s σ H xs us Q I r ⟨G,ds,d,hG,rl,e,q⟩
 unfold K4 at e
 split at e
 . rename_i ys
   cases e; obtain ⟨v,rfl,a,vs,rfl,h1,l1⟩:=Hs rl; exact Qm pins s σ H _ us Q I r ⟨_,ys.length,rfl,.inl ⟨vs,.inl (Rd.mono hG h1),l1.length⟩,q _ G H (Grow.refl hG) rfl⟩
 . rename_i ys
   cases e; obtain ⟨v,rfl,a,vs,rfl,h1,l1⟩:=Hs rl; exact Qm pins s σ H _ us Q I r ⟨_,ys.length,rfl,.inr ⟨vs,.inl (.inl (hG _ _ h1)),l1.length⟩,q _ G H (Grow.refl hG) rfl⟩
 . rename_i x
   cases e; obtain ⟨v,rfl,r1⟩:=Hs rl
   cases r1.1
   exact Qm pins s σ H _ us Q I r ⟨_,x.length,rfl,⟨r1.2.2,rfl⟩,q _ G H (Grow.refl hG) rfl⟩
 . cases e
theorem M8 {n:Nat} (C:Cxt P w K mg base X N sc k df) (h:okGl sc "len" = true) (hm:mg "len" = none) (ha:DA X E (e::es) n fs)
   (he:starEach (e::es) X.env=(false,eval e X.env)::starEach es X.env:=by rfl) (hpl:(backTo pos (starEach es X.env)).any (·.1)=false:=by rfl):DE X E (.Call (.Name "len" p) (e::es) [] pos) (vFn fs K4) :=
 Qg C bL h hm PySem.boot_len ha he hpl
noncomputable def Gf:List PyData->Option (List Bool)
 | []=>some []
 | .bool b::ds=>(Gf ds).map (b::·)
 | _::_=>none
noncomputable def Kb:List PyData->Option PyData
 | [.list ds]=>(Gf ds).map fun bs=>.bool (bs.all id)
 | _=>none
theorem Tt {G:Hp}:∀ {ds:List PyData} {xs:List V} {us:List Value} {bs:List Bool},RepL G ds xs->Vals xs us->Gf ds=some bs->us=bs.map Value.bool
 | [],_,_,_,r,q,e=>by cases (show _=_ from r); cases q; cases e; rfl
 | .bool b::ds,_,_,_,r,q,e=>by
   obtain ⟨x,t,rfl,h,l⟩:=r
   cases (show _=_ from h)
   cases q with
   | cons q qs =>
     cases q; obtain ⟨bs,e1,rfl⟩:=Option.map_eq_some_iff.mp e; rw [Tt l qs e1]; rfl
 | .none::_,_,_,_,_,_,e=>by cases e
 | .int _::_,_,_,_,_,_,e=>by cases e
 | .str _::_,_,_,_,_,_,e=>by cases e
 | .list _::_,_,_,_,_,_,e=>by cases e
 | .tuple _::_,_,_,_,_,_,e=>by cases e
 | .dict _::_,_,_,_,_,_,e=>by cases e
theorem oO {s:Shared} {h':Heap} {o:Obj} (hk:∀ b x,b∉[s.heap.objs.size]->(s.heap.push o).get? b=some x->h'.get? b=some x):∀ b x,s.heap.get? b=some x->h'.get? b=some x :=
 fun b x e=>hk b x (fun hm=>by rw [List.mem_singleton.mp hm] at e; exact Nat.lt_irrefl _ (Heap.lt_size e)) (Heap.get?_push_of_some _ e)
theorem eI (bs:List Bool):((List.range bs.length).all fun i=>(bs[i]?).getD true)=bs.all id:=by
 rw [Bool.eq_iff_iff,List.all_eq_true,List.all_eq_true]
 constructor
 . intro h b hb
   obtain ⟨i,hi,rfl⟩:=List.getElem_of_mem hb; have:=h i (List.mem_range.mpr hi)
   rwa [List.getElem?_eq_getElem hi] at this
 . intro h i hi
   have hi':=List.mem_range.mp hi; rw [List.getElem?_eq_getElem hi']; exact h _ (List.getElem_mem hi')
theorem bO (hc:X.calm=true):T5 X (.builtin "all") (rCD Kb):=by
 rintro pins s σ H xs us Q I r ⟨G,ds,d,hG,rl,e,q⟩
 unfold Kb at e
 split at e
 . rename_i ys
   obtain ⟨bs,e1,rfl⟩:=Option.map_eq_some_iff.mp e; obtain ⟨v,rfl,a,vs,rfl,h1,l1⟩:=Hs rl; obtain ⟨u,rfl,ru⟩:=Lx r; cases ru; obtain ⟨z,its,n,rv,e2⟩:=X2 I hG h1; have hb:=Tt l1 rv e1; have hl:s.heap.IsList a its.toArray:=⟨_,e2,rfl,n,rfl⟩; have hlt:a < s.heap.objs.size:=Heap.lt_size e2; refine call_all_walk (wpAny_pyIter_list hl ?_); refine ⟨s.heap.objs.size,[s.heap.objs.size,a],[s.heap.objs.size],its.toArray.size,_,_,fun i=>(bs[i]?).getD true,rfl,Walks.list (A:=X.A.in1) (I.ok.hd hc) _ a (Nat.ne_of_lt hlt) its.toArray,
     ⟨⟨_,Heap.get?_push_size _ rfl,rfl,rfl⟩,hl.push _⟩,fun i v s' Q' E' hP hQ=>?_,fun h' tk hk=>?_⟩
   . have hP':its[i]? = some v:=by simpa using hP
     rw [hb,List.getElem?_map] at hP'; obtain ⟨b,e3,rfl⟩:=Option.map_eq_some_iff.mp hP'; simp only [e3,Option.getD_some] at hQ; exact wpAny_truthy_bool hQ
   . have el:its.toArray.size=bs.length:=by rw [List.size_toArray,hb,List.length_map]
     rw [el,eI]; exact ⟨.bl _,H,I.kept (oO hk),rfl,q _ G H (Grow.refl hG) rfl⟩
 . cases e
theorem Mf {n:Nat} (C:Cxt P w K mg base X N sc k df) (h:okGl sc "all" = true) (hm:mg "all" = none) (ha:DA X E (e::es) n fs)
   (he:starEach (e::es) X.env=(false,eval e X.env)::starEach es X.env:=by rfl) (hpl:(backTo pos (starEach es X.env)).any (·.1)=false:=by rfl):DE X E (.Call (.Name "all" p) (e::es) [] pos) (vFn fs Kb) :=
 Qg C (bO C.calm) h hm (by decide +kernel) ha he hpl
noncomputable def Y7:List PyData->Option PyData
 | [.list ds]=>some (.list ds)
 | [.tuple ds]=>some (.list ds)
 | _=>none
noncomputable def He:List PyData->Option PyData
 | [.list ds]=>some (.tuple ds)
 | [.tuple ds]=>some (.tuple ds)
 | _=>none
noncomputable def lN:List PyData->Option PyData
 | [.int i,.int j]=>some (.int (if i < j then j else i))
 | _=>none
noncomputable def Mg:List PyData->Option PyData
 | [.int i]=>some (.int i)
 | [.bool b]=>some (.int (if b then 1 else 0))
 | _=>none
noncomputable def Hf:List PyData->Option PyData
 | [.int i]=>if i.natAbs.log2 < 1920/\((toString i:String):Str).length<=sizeLine then some (.str (toString i:String)) else none
 | _=>none
theorem hJ (z:String):PyData.strOk (Str.ofString z)=true:=by
 unfold PyData.strOk
 rw [Str.ofString_eq_toList,<- Array.all_toList,List.all_eq_true]
 intro c hc
 simp only [List.mem_map] at hc
 obtain ⟨ch,_,rfl⟩:=hc
 have h:=ch.valid
 have hv:ch.toNat=ch.val.toNat:=rfl
 simp only [UInt32.isValidChar,Nat.isValidChar] at h
 rw [decide_eq_true_eq,hv]; lia
theorem Yw:T5 X (.type "list") (rCD Y7):=by
 rintro pins s σ H xs us Q I r ⟨G,ds,d,hG,rl,e,q⟩
 unfold Y7 at e
 split at e
 . rename_i ys
   cases e; obtain ⟨v,rfl,a,vs,rfl,h1,l1⟩:=Hs rl; exact Ke pins s σ H _ us Q I r ⟨a,vs,rfl,.inl (.inl (Rd.mono hG h1)),fun l hl=>q _ (upd G l (.lst vs)) _ (Grow.new hG hl) ⟨l,vs,rfl,.inl G8,l1.mono (Same.upd (hG.free hl))⟩⟩
 . rename_i ys
   cases e; obtain ⟨v,rfl,a,vs,rfl,h1,l1⟩:=Hs rl; exact Ke pins s σ H _ us Q I r ⟨a,vs,rfl,.inr (.inl (.inl (hG _ _ h1))),fun l hl=>q _ (upd G l (.lst vs)) _ (Grow.new hG hl) ⟨l,vs,rfl,.inl G8,l1.mono (Same.upd (hG.free hl))⟩⟩
 . cases e
theorem bG:T5 X (.type "tuple") (rCD He):=by
 rintro pins s σ H xs us Q I r ⟨G,ds,d,hG,rl,e,q⟩
 unfold He at e
 split at e
 . rename_i ys
   cases e; obtain ⟨v,rfl,a,vs,rfl,h1,l1⟩:=Hs rl; exact Hg pins s σ H _ us Q I r ⟨a,vs,rfl,.inl ⟨.inl (Rd.mono hG h1),fun l hl=>q _ (upd G l (.tup vs)) _ (Grow.new hG hl) ⟨l,vs,rfl,G8,l1.mono (Same.upd (hG.free hl))⟩⟩⟩
 . rename_i ys
   cases e; obtain ⟨v,rfl,a,vs,rfl,h1,l1⟩:=Hs rl; exact Hg pins s σ H _ us Q I r ⟨a,vs,rfl,.inr ⟨.inl (.inl (hG _ _ h1)),q _ G H (Grow.refl hG) ⟨a,vs,rfl,h1,l1⟩⟩⟩
 . cases e
theorem bK (hc:X.calm=true):T5 X (.builtin "max") (rCD lN):=by
 rintro pins s σ H xs us Q I r ⟨G,ds,d,hG,rl,e,q⟩
 unfold lN at e
 split at e
 . rename_i i j
   cases e; obtain ⟨v,v',rfl,e1,e2⟩:=aJ rl
   cases (show _=_ from e1); cases (show _=_ from e2)
   refine gE hc pins s σ H _ us Q I r ⟨i,j,rfl,?_⟩; have:=q (.int (if i < j then j else i)) G H (Grow.refl hG) rfl
   first | exact this | (simpa [max_def] using this) | trace_state
 . cases e
theorem bM:T5 X (.type "int") (rCD Mg):=by
 rintro pins s σ H xs us Q I r ⟨G,ds,d,hG,rl,e,q⟩
 unfold Mg at e
 split at e
 . rename_i i
   cases e; obtain ⟨v,rfl,e1⟩:=Hs rl
   cases (show _=_ from e1)
   exact Tr pins s σ H _ us Q I r (.inl ⟨i,rfl,q _ G H (Grow.refl hG) rfl⟩)
 . rename_i b
   cases e; obtain ⟨v,rfl,e1⟩:=Hs rl
   cases (show _=_ from e1)
   refine Tr pins s σ H _ us Q I r (.inr ⟨b,rfl,?_⟩); have:=q (.int (if b then 1 else 0)) G H (Grow.refl hG) rfl
   cases b <;> exact this
 . cases e
theorem bH:T5 X (.type "str") (rCD Hf):=by
 rintro pins s σ H xs us Q I r ⟨G,ds,d,hG,rl,e,q⟩
 unfold Hf at e
 split at e
 . rename_i i
   split at e
   . rename_i hc
     cases e; obtain ⟨v,rfl,e1⟩:=Hs rl
     cases (show _=_ from e1)
     exact Vz pins s σ H _ us Q I r ⟨i,rfl,hc.1,q _ G H (Grow.refl hG) ⟨rfl,hJ _,hc.2⟩⟩
   . cases e
 . cases e
theorem Dm {n:Nat} (C:Cxt P w K mg base X N sc k df) (h:okGl sc "list" = true) (hm:mg "list" = none) (ha:DA X E (e::es) n fs)
   (he:starEach (e::es) X.env=(false,eval e X.env)::starEach es X.env:=by rfl) (hpl:(backTo pos (starEach es X.env)).any (·.1)=false:=by rfl):DE X E (.Call (.Name "list" p) (e::es) [] pos) (vFn fs Y7) :=
 Jy C Yw h hm (by decide +kernel) ha he hpl
theorem lK {n:Nat} (C:Cxt P w K mg base X N sc k df) (h:okGl sc "tuple" = true) (hm:mg "tuple" = none) (ha:DA X E (e::es) n fs)
   (he:starEach (e::es) X.env=(false,eval e X.env)::starEach es X.env:=by rfl) (hpl:(backTo pos (starEach es X.env)).any (·.1)=false:=by rfl):DE X E (.Call (.Name "tuple" p) (e::es) [] pos) (vFn fs He) :=
 Jy C bG h hm (by decide +kernel) ha he hpl
theorem d_max {n:Nat} (C:Cxt P w K mg base X N sc k df) (h:okGl sc "max" = true) (hm:mg "max" = none) (ha:DA X E (e::es) n fs)
   (he:starEach (e::es) X.env=(false,eval e X.env)::starEach es X.env:=by rfl) (hpl:(backTo pos (starEach es X.env)).any (·.1)=false:=by rfl):DE X E (.Call (.Name "max" p) (e::es) [] pos) (vFn fs lN) :=
 Qg C (bK C.calm) h hm (by decide +kernel) ha he hpl
theorem bD {n:Nat} (C:Cxt P w K mg base X N sc k df) (h:okGl sc "int" = true) (hm:mg "int" = none) (ha:DA X E (e::es) n fs)
   (he:starEach (e::es) X.env=(false,eval e X.env)::starEach es X.env:=by rfl) (hpl:(backTo pos (starEach es X.env)).any (·.1)=false:=by rfl):DE X E (.Call (.Name "int" p) (e::es) [] pos) (vFn fs Mg) :=
 Jy C bM h hm (by decide +kernel) ha he hpl
theorem vP {n:Nat} (C:Cxt P w K mg base X N sc k df) (h:okGl sc "str" = true) (hm:mg "str" = none) (ha:DA X E (e::es) n fs)
   (he:starEach (e::es) X.env=(false,eval e X.env)::starEach es X.env:=by rfl) (hpl:(backTo pos (starEach es X.env)).any (·.1)=false:=by rfl):DE X E (.Call (.Name "str" p) (e::es) [] pos) (vFn fs Hf) :=
 Jy C bH h hm (by decide +kernel) ha he hpl
noncomputable def Ud:PyData->String
 | .none => "NoneType" | .bool _ => "bool" | .int _ => "int" | .str _ => "str" | .list _ => "list" | .tuple _ => "tuple" | .dict _ => "dict"
noncomputable def K9 (T:String) (d:PyData):Bool:=(Ud d==T)||(T == "int" && Ud d == "bool")
noncomputable def uI (T:String):Bool:=T == "int" || T == "bool" || T == "str" || T == "list" || T == "tuple"
theorem uT {K:PySem.W.Frag} {T:String} (h:uI T=true) (d:PyData) (hd:∀ kvs,d≠.dict kvs):PySem.W.kitOne K (.type (Ud d)) (.type T)=some (K9 T d):=by
 unfold uI at h
 simp only [Bool.or_eq_true,beq_iff_eq] at h
 rcases h with (((h | h) | h) | h) | h <;> subst h <;> cases d <;> first | kernel_rfl | exact absurd rfl (hd _)
theorem Rep.tyOf {G H:Hp} (hG:Same G H) {d:PyData} {v:V} (r:Rep G d v):TyOf K H v (.type (Ud d)):=by
 cases d with
 | none=>cases (show _=_ from r); exact .non
 | bool _=>cases (show _=_ from r); exact .bl _
 | int _=>cases (show _=_ from r); exact .int _
 | str x=>cases r.1; exact .str _
 | list _ =>
   obtain ⟨a,xs,rfl,h1,l1⟩:=r; rcases h1 with h1 | ⟨o,h1⟩
   . exact .lst (hG _ _ h1)
   . exact .frz (hG _ _ h1)
 | tuple _=>obtain ⟨a,xs,rfl,h1,l1⟩:=r; exact .tup (hG _ _ h1)
 | dict _=>exact (show False from r).elim
theorem F6 {T:Str} {Tn:String} {p1:Pos} (C:Cxt P w K mg base X N sc k df) (h:okGl sc "isinstance" = true) (hm:mg "isinstance" = none) (hT:okGl sc T=true) (hmT:mg T=none) (hbT:bootBuiltins T=some (.type Tn)) (hk:uI Tn=true) (ha:DE X E a f)
   (he:starEach (a::[.Name T p1]) X.env=(false,eval a X.env)::starEach [.Name T p1] X.env:=by rfl) (he2:starEach [.Name T p1] X.env=(false,eval (.Name T p1) X.env)::starEach [] X.env:=by rfl) (hpl:(backTo pos (starEach [.Name T p1] X.env)).any (·.1)=false:=by rfl) :
   DE X E (.Call (.Name "isinstance" p) [a,.Name T p1] [] pos) (b1 f fun d=>some (.bool (K9 Tn d))):=by
 obtain ⟨h1,h2,h3⟩:=okGl.gl C h
 obtain ⟨t1,t2,t3⟩:=okGl.gl C hT
 have hc:T5 X (.builtin "isinstance") (fun vs H Q=>∃ G d v,Same G H/\Rep G d v/\vs=[v,.ty Tn]/\Q (.bl (K9 Tn d)) H):=by
   rintro pins s σ H xs us Q I r ⟨G,d,v,hG,rd,e,q⟩
   subst e; obtain ⟨u,u',rfl,r1,r2⟩:=qK r
   cases (show u'=Value.type Tn from r2)
   refine fI I r1 (rd.tyOf hG) (uT hk d fun kvs z=>?_) fun tk=>⟨.bl _,H,I.tok _,rfl,q⟩
   subst z; exact rd
 refine PE.imp (Pq hc h1 (by rw [C.hmg]; exact hm) (by decide +kernel) (Bu ha (Bu (nO (v:=.ty Tn) t1 (by rw [C.hmg]; exact hmT) hbT rfl t3 t2) Le he2) he) h3 h2 he hpl) fun σ H Q hY53=>?_
 obtain ⟨G,δ,S,aft⟩:=hY53
 refine M6 S aft fun d v G1 H1 g1 r1 S1 a1=>?_
 exact ⟨G1,d,v,S1.sub,r1,rfl,a1 _ G1 H1 (Grow.refl S1.sub) rfl⟩
noncomputable def Kr:List PyData->Option (List Str)
 | []=>some []
 | .str b::ds=>(Kr ds).map (b::·)
 | _::_=>none
noncomputable def Yp (x:Str):PyData->Option PyData
 | .list ds=>(Kr ds).bind fun ys=>if (ys.map (·.length)).sum+ys.length*x.length<=16777216/\PyData.strOk (Str.join x ys)=true/\(Str.join x ys).length<=sizeLine then some (.str (Str.join x ys)) else none
 | _=>none
theorem Xg {G:Hp}:∀ {ds:List PyData} {xs:List V} {us:List Value} {ys:List Str},RepL G ds xs->Vals xs us->Kr ds=some ys->StrsAre us ys
 | [],_,_,_,r,q,e=>by cases (show _=_ from r); cases q; cases e; exact .nil
 | .str b::ds,_,_,_,r,q,e=>by
   obtain ⟨x,t,rfl,h,l⟩:=r
   cases h.1
   cases q with
   | cons q qs =>
     obtain ⟨tk,rfl⟩:=q; obtain ⟨bs,e1,rfl⟩:=Option.map_eq_some_iff.mp e; exact .cons _ _ (Xg l qs e1)
 | .none::_,_,_,_,_,_,e=>by cases e
 | .int _::_,_,_,_,_,_,e=>by cases e
 | .bool _::_,_,_,_,_,_,e=>by cases e
 | .list _::_,_,_,_,_,_,e=>by cases e
 | .tuple _::_,_,_,_,_,_,e=>by cases e
 | .dict _::_,_,_,_,_,_,e=>by cases e
theorem oJ:MtR X "str.join" (fun x vs H Q=>∃ G z v d r,Same G H/\x=.str z/\vs=[v]/\Rep G d v/\Yp z d=some (.str r)/\Q (.str r) H):=by
 rintro pins s σ H x vs v us Q I rx rv ⟨G,z,y,d,r,hG,e1,e2,rd,e,q⟩
 subst e1 e2
 obtain ⟨t,rfl⟩:=rx
 obtain ⟨u,rfl,ru⟩:=rv.one
 cases d with
 | list ds =>
   obtain ⟨ys,e3,e4⟩:=Option.bind_eq_some_iff.mp e
   split at e4
   . rename_i hc
     cases e4; obtain ⟨l,xs,rfl,h1,l1⟩:=rd; cases ru; obtain ⟨zz,its,n,rv2,e5⟩:=X2 I hG h1; refine join_list ⟨_,e5,rfl,n,rfl⟩ (by simpa using Xg l1 rv2 e3) hc.1 fun t' k=>⟨.str _,H,I.tok _,⟨t',?_⟩,q⟩
     rw [eq_of_beq (join_plain_closes z ys)]
   . cases e4
 | _=>cases e
noncomputable def gS (x:Str) (f:Dn->Res PyData):Dn->Res PyData:=fun δ=>(f δ).bind fun d=>ofO (Yp x d)
theorem fW {z:Str} {d d':PyData} (e:Yp z d=some d'):∃ r,d'=.str r/\PyData.strOk r=true/\r.length<=sizeLine:=by
 cases d with
 | list ds =>
   obtain ⟨ys,e3,e4⟩:=Option.bind_eq_some_iff.mp e
   split at e4
   . rename_i hc; cases e4; exact ⟨_,rfl,hc.2.1,hc.2.2⟩
   . cases e4
 | _=>cases e
theorem vS {z:Str} {j:Nat} {p1 apos cpos:Pos} (ha:DE X E a f) (hbase:attributeBase (.Constant (.str z) j p1) "join" X.env (eval (.Constant (.str z) j p1) X.env)=eval (.Constant (.str z) j p1) X.env:=by rfl)
   (hfew:((backTo cpos (starEach [a] X.env)).all (fun x => !x.1)&&(backToKw cpos (keywordEach [] X.env)).all (fun x=>x.1.isSome)
     && decide ([a].length+([]:List Keyword).length+(if ([]:List Keyword).isEmpty then 0 else 1) < 30))=true:=by rfl)
   (hline:(apos.endLine==cpos.line)=true:=by rfl) (hs:starEach [a] X.env=(false,eval a X.env)::starEach [] X.env:=by rfl) (hplain:(backTo cpos (starEach [] X.env)).any (·.1)=false:=by rfl) :
   DE X E (.Call (.Attribute (.Constant (.str z) j p1) "join" apos) [a] [] cpos) (gS z f):=by
 refine PE.imp (rC PySem.F.plainAttrs_str PySem.F.slot_str_join PySem.F.type_str_join oJ jG (Bu ha Le hs) hbase hfew hline hs hplain) fun σ H Q hY54=>?_
 obtain ⟨G,δ,S,aft⟩:=hY54
 refine ⟨rfl,?_⟩
 refine M6 S aft fun d v G1 H1 g1 r1 S1 a1=>?_
 cases e:Yp z d with
 | none=>rw [e] at a1; exact a1.elim
 | some d' =>
   obtain ⟨r,rfl,o1,o2⟩:=fW e; rw [e] at a1; exact ⟨G1,z,v,d,r,S1.sub,rfl,rfl,r1,e,a1 _ G1 H1 (Grow.refl S1.sub) ⟨rfl,o1,o2⟩⟩
def spD (n:Nat) (m:List PyData->Res PyData):Sp:=fun vs H Q _=>∃ G ds d,Same G H/\RepL G ds vs/\ds.length=n/\m ds=.ok d/\∀ v G' H',Grow G H G' H'->Rep G' d v->Q v H'
structure Fn (P:Program) (w:World) (K:PySem.W.Frag) (mg:Str->Option Value) (base:Heap) (x:Str) (k n:Nat) (m:List PyData->Res PyData):Prop where
 ex:∃ f fd ps,ps.length=n/\FnOk P w K mg base CX0 k f fd ps (spD n m)/\mg x=some (.ref f)/\PySem.W.keepIn K (.ref f)=true/\Binds K fd ps []
def E0k:EK:=fun _ _=>False
noncomputable def B4 (fs:Dn->Res (List PyData)) (m:List PyData->Res PyData):Dn->Res PyData:=fun δ=>(fs δ).bind m
theorem B9 {x:Str} {j n:Nat} {m:List PyData->Res PyData} (C:Cxt P w K mg base X N sc k df) (F:Fn P w K mg base x j n m) (hj:j<=k) (h:okGl sc x=true) (ha:DA X E0k (e::es) n fs)
   (he:starEach (e::es) X.env=(false,eval e X.env)::starEach es X.env:=by rfl) (hpl:(backTo pos (starEach es X.env)).any (·.1)=false:=by rfl):DE X E0k (.Call (.Name x p) (e::es) [] pos) (B4 fs m):=by
 obtain ⟨f,fd,ps,hps,F,hm,hk,hb⟩:=F.ex
 obtain ⟨h1,h2,h3⟩:=okGl.gl C h
 have F':FnOk X.prog X.w X.K X.mg X.base CX0 j f fd ps (spD n m):=by rw [C.hP,C.hw,C.hK,C.hmg,C.hb]; exact F
 refine PE.imp (Ve F' (C.room.mono hj) h1 (by rw [C.hmg]; exact hm) (by rw [C.hK]; exact hk) (by rw [C.hK]; exact hb) .nil (jL (X:=X)) ha.pa h2 he hpl) fun σ H Q hY55=>?_
 obtain ⟨G,δ,S,aft⟩:=hY55
 refine V7 (W:=fun G H r=>Aft E0k G H r Q) S aft (fun g a=>Aft.grow g a) (fun c a=>a) (fun a=>a) fun ds vs G1 H1 e g1 r1 S1 a1=>?_
 rw [List.append_nil]
 cases q:m ds with
 | ok d=>rw [q] at a1; exact ⟨G1,ds,d,S1.sub,r1,ha.len δ ds e,q,a1⟩
 | exc c=>rw [q] at a1; exact (a1 G1 H1 (Grow.refl S1.sub)).elim
 | no=>rw [q] at a1; exact a1.elim
end
end Sm
end
noncomputable section
namespace Sm
open PySem PySem.Spec PyProof.Rows L2
noncomputable def Its (z:Str):It:=⟨fun i _=>i < z.cps.size,fun i H x H'=>H'=H/\∃ c,z.cps[i]? = some c/\x=.str ⟨#[c]⟩,fun i _=>z.cps.size<=i⟩
theorem Zl {P:Program} {w:World} {K:PySem.W.Frag} {tg:Expr} (it:Addr) (z:Str) (t:Tok):Turn P w K tg (Its z) [it] it (fun i h=>h.IsStrIter it "str_ascii_iterator" z t i) where
 mem:=by simp
 obj:=fun i h st b hb=>by
   have e:b=it:=by simpa using hb
   subst e; obtain ⟨o,e,c,d⟩:=st; exact ⟨o,e,fun v z=>by rw [d] at z; cases z⟩
 keep:=fun i h h' st k=>by
   obtain ⟨o,e,c,d⟩:=st; exact ⟨o,k it (by simp) o e,c,d⟩
 item:=by
   intro X hP hw hK hc i pins s σ H E I hf st hg; subst hP hw hK; obtain ⟨f0,f1,f2,f3,f4,f5⟩:=hf it (by simp)
   have hi:i < z.cps.size:=hg; refine wpAny_pyNext_ascii_item st (c:=z.cps[i]) (by simp [hi]) fun h' st' sb=>?_
   have I1:Inv X pins σ H { s with heap:=h',toks:=s.toks+1 }:=I.turned (fun b o hb e=>(sb.2 b hb).trans e) f0 f1 f3 f4 f5
   obtain ⟨o,e,c,d⟩:=id st'; exact ⟨_,rfl,Yk (s:={ s with heap:=h',toks:=s.toks+1 }) e c d (by decide) ⟨.str ⟨#[z.cps[i]]⟩,H,I1,⟨_,rfl⟩,⟨rfl,_,by simp [hi],rfl⟩,st',fun b hb=>(hf b hb).1⟩⟩
 done:=by
   intro X hP hw hK hc i pins s σ H E I hf st hg; subst hP hw hK; obtain ⟨f0,f1,f2,f3,f4,f5⟩:=hf it (by simp)
   have hi:z.cps.size<=i:=hg; exact wpAny_pyNext_ascii_end (I.ok.hd hc) st (by simpa using hi) fun h' eb=>⟨rfl,I.turned (t':=s.toks) (fun b o hb e=>eb b o hb e) f0 f1 f3 f4 f5⟩
 self:=fun _ _ _ _ _ st h=>wpAny_pyIter_striter_ascii st h
theorem dO {P:Program} {w:World} {K:PySem.W.Frag} {tg:Expr} (it:Addr) (z:Str) (t:Tok):Turn P w K tg (Its z) [it] it (fun i h=>h.IsStrIter it "str_iterator" z t i) where
 mem:=by simp
 obj:=fun i h st b hb=>by
   have e:b=it:=by simpa using hb
   subst e; obtain ⟨o,e,c,d⟩:=st; exact ⟨o,e,fun v z=>by rw [d] at z; cases z⟩
 keep:=fun i h h' st k=>by
   obtain ⟨o,e,c,d⟩:=st; exact ⟨o,k it (by simp) o e,c,d⟩
 item:=by
   intro X hP hw hK hc i pins s σ H E I hf st hg; subst hP hw hK; obtain ⟨f0,f1,f2,f3,f4,f5⟩:=hf it (by simp)
   have hi:i < z.cps.size:=hg; refine wpAny_pyNext_wide_item st (c:=z.cps[i]) (by simp [hi]) fun h' st' sb=>?_
   have I1:Inv X pins σ H { s with heap:=h',toks:=s.toks+1 }:=I.turned (fun b o hb e=>(sb.2 b hb).trans e) f0 f1 f3 f4 f5
   obtain ⟨o,e,c,d⟩:=id st'; exact ⟨_,rfl,Yk (s:={ s with heap:=h',toks:=s.toks+1 }) e c d (by decide) ⟨.str ⟨#[z.cps[i]]⟩,H,I1,⟨_,rfl⟩,⟨rfl,_,by simp [hi],rfl⟩,st',fun b hb=>(hf b hb).1⟩⟩
 done:=by
   intro X hP hw hK hc i pins s σ H E I hf st hg; subst hP hw hK; obtain ⟨f0,f1,f2,f3,f4,f5⟩:=hf it (by simp)
   have hi:z.cps.size<=i:=hg; exact wpAny_pyNext_wide_end (I.ok.hd hc) st (by simpa using hi) fun h' eb=>⟨rfl,I.turned (t':=s.toks) (fun b o hb e=>eb b o hb e) f0 f1 f3 f4 f5⟩
 self:=fun _ _ _ _ _ st h=>wpAny_pyIter_striter_wide st h
noncomputable def Ite (K:PySem.W.Frag) (a:Addr):It :=
 ⟨fun i H=>∃ xs x,SqL K H a xs/\xs[i]? = some x,fun i H x H'=>∃ p y,H p=none/\x=.ref p/\H'=upd H p (.tup [.int i,y])/\∀ xs,SqL K H a xs->xs[i]? = some y,fun i H=>∃ xs,SqL K H a xs/\xs.length<=i⟩
theorem dQ {P:Program} {w:World} {K:PySem.W.Frag} {elts:List Expr} {x1:Nat} {tp:Pos} (a e it:Addr) (hne:e≠it):Turn P w K (.Tuple elts x1 tp) (Ite K a) [e,it] e (fun i h=>(∃ old,IsEnum h e it (i:Int) old)/\h.IsListIter it a i) where
 mem:=by simp
 obj:=fun i h st b hb=>by
   obtain ⟨⟨old,h1⟩,o,h2,c,d⟩:=st; rcases List.mem_cons.mp hb with rfl | hb
   . exact ⟨_,h1,fun v z=>by cases z⟩
   . have e':b=it:=by simpa using hb
     subst e'; exact ⟨o,h2,fun v z=>by rw [d] at z; cases z⟩
 keep:=fun i h h' st k=>by
   obtain ⟨⟨old,h1⟩,o,h2,c,d⟩:=st; exact ⟨⟨old,k e (by simp) _ h1⟩,o,k it (by simp) o h2,c,d⟩
 item:=by
   intro X hP hw hK hc i pins s σ H E I hf st hg; subst hP hw hK; obtain ⟨⟨old,he⟩,st⟩:=st; obtain ⟨xs,x,hq,hx⟩:=hg; obtain ⟨its,rv,p,hz⟩:=I.list hq; obtain ⟨u,hu,ru⟩:=rv.get hx; obtain ⟨f0,f1,f2,f3,f4,f5⟩:=hf e (by simp)
   obtain ⟨g0,g1,g2,g3,g4,g5⟩:=hf it (by simp)
   refine wpAny_pyNext_enum_item he st p.isList (x:=u) (by simpa using hu) hne fun h' he' st' ht' hsz kp=>?_
   refine ⟨_,rfl,wpAny_letOwnedTupleGo_enum he' fun h2 he2 sb=>?_⟩
   have hfr:H s.heap.objs.size=none:=I.fresh; have elt:e < s.heap.objs.size:=Heap.lt_size he; have ilt:it < s.heap.objs.size:=by obtain ⟨o,h,_⟩:=st; exact Heap.lt_size h
   have kp2:∀ b o,b≠e->b≠it->s.heap.get? b=some o->h2.get? b=some o:=fun b o h1 h3 q=>(sb.2 b h1).trans (kp b o h1 h3 q)
   have I1:Inv X pins σ H { s with heap:=h2,toks:=s.toks+1 }:=by
     refine I.step (g':=s.gens) (d':=s.drawn) (ch:=[e,it]) (fun b hb=>?_) (fun b o _ _ hcb q _=>kp2 b o (fun z=>hcb (by simp [z])) (fun z=>hcb (by simp [z])) q) (fun b o _ _ hcb q _=>⟨o.slots,kp2 b o (fun z=>hcb (by simp [z])) (fun z=>hcb (by simp [z])) q⟩) (fun _ _ _ _ n=>n)
       (fun b o hcb q=>⟨o,kp2 b o (fun z=>hcb (by simp [z])) (fun z=>hcb (by simp [z])) q⟩) (fun _ _ q=>q) (fun _ _ _ q=>q) (fun b ps q=>⟨#[],by rw [q]; simp⟩) (fun m hm=>?_) (fun b u' q=>?_) I.bare
     . rcases List.mem_cons.mp hb with rfl | hb
       . exact ⟨f3,f1,f4,f5⟩
       . have e':b=it:=by simpa using hb
         subst e'; exact ⟨g3,g1,g4,g5⟩
     . obtain ⟨o,es,ep,ho,r⟩:=hm
       exact ⟨o,es,ep,kp2 _ o (Ne.symm f1) (Ne.symm g1) ho,r⟩
     . refine (I.hok b u' q).stay (fun c v hcc q'=>kp2 c v ?_ ?_ q') (fun _ q'=>q') fun _ _ q'=>q'
       . rintro rfl
         rcases hcc with z | z
         . subst z; rw [f0] at q; cases q
         . rw [f0] at z; cases z
       . rintro rfl
         rcases hcc with z | z
         . subst z; rw [g0] at q; cases q
         . rw [g0] at z; cases z
   have htt:h2.get? s.heap.objs.size=some { cls:=.type "tuple",data:=.seq #[.int i s.toks,u] }:=(sb.2 _ (Nat.ne_of_gt elt)).trans ht'; have Hold:∀ b o,H b=some o->b≠s.heap.objs.size:=fun b o q z=>by subst z; rw [hfr] at q; cases q
   have I2:Inv X pins σ (upd H s.heap.objs.size (.tup [.int i,x])) { s with heap:=h2,toks:=s.toks+1 }:=by
     have nb:∀ b o,b≠s.heap.objs.size->s.heap.get? b=some o->True:=fun _ _ _ _=>trivial
     have base':Un X.fs X.ex X.H₀ (upd H s.heap.objs.size (.tup [.int i,x])) X.s₀.heap h2:=by
       have B:=I1.base; have ne0:∀ b o,X.s₀.heap.get? b=some o->b≠s.heap.objs.size:=fun b o q=>Nat.ne_of_lt (Nat.lt_of_lt_of_le (Heap.lt_size q) I.sz)
       exact ⟨B.keep,B.slot,fun b o q n hx=>by rw [E4 (ne0 b o q)]; exact B.free b o q n hx,B.there,
         fun b ys q=>by rw [E4 (Hold b _ (B.tups b ys q))]; exact B.tups b ys q,fun b o' u' q=>by rw [E4 (Hold b _ (B.frzs b o' u' q))]; exact B.frzs b o' u' q,
         fun b ps q=>by obtain ⟨m,q'⟩:=B.tbls b ps q; exact ⟨m,by rw [E4 (Hold b _ q')]; exact q'⟩⟩
     have hok':HOk X.prog X.w (upd H s.heap.objs.size (.tup [.int i,x])) h2:=fun b o q=>by
       by_cases hb:b=s.heap.objs.size
       . subst hb
         rw [G8] at q; cases q; refine ⟨by show 2<=sizeLine; decide,[.int i s.toks,u],.cons ⟨_,rfl⟩ (.cons ru .nil),⟨_,htt,rfl,0,rfl⟩⟩
       . rw [E4 hb] at q
         exact (I1.hok b o q).stay (fun _ _ _ q'=>q') (fun c q'=>by rw [E4 (Hold c _ q')]; exact q') fun c ys q'=>by rw [E4 (Hold c _ q')]; exact q'
     refine ⟨I1.ok,I1.os,I1.bare,base',I1.loc,I1.cell,?_,fun y c q=>?_,fun p hp=>?_,hok',I1.len⟩
     . rw [E4 (Nat.ne_of_lt I.lt)]; exact I1.free
     . obtain ⟨v,oc,hoc,_⟩:=I.cell y c q
       rw [E4 (Nat.ne_of_lt (Heap.lt_size hoc))]; exact I1.freeC y c q
     . obtain ⟨q1,q2,q3,q4,q5⟩:=I1.pin p hp
       refine ⟨q1,?_,q3,q4,q5⟩; rw [E4 (Nat.ne_of_lt (Heap.lt_size (I.pin p hp).1))]; exact q2
   refine ⟨.ref s.heap.objs.size,_,I2,rfl,⟨_,x,hfr,rfl,rfl,fun ys hy=>by rw [I.list_inj hy hq]; exact hx⟩,⟨⟨_,by push_cast; exact he2⟩,?_⟩,fun b hb=>?_⟩
   . obtain ⟨o,q,c,d⟩:=st'
     exact ⟨o,(sb.2 it (Ne.symm hne)).trans q,c,d⟩
   . rcases List.mem_cons.mp hb with rfl | hb
     . rw [E4 (Nat.ne_of_lt elt)]; exact f0
     . have e':b=it:=by simpa using hb
       subst e'; rw [E4 (Nat.ne_of_lt ilt)]; exact g0
 done:=by
   intro X hP hw hK hc i pins s σ H E I hf st hg; subst hP hw hK; obtain ⟨⟨old,he⟩,st⟩:=st; obtain ⟨xs,hq,hx⟩:=hg; obtain ⟨its,rv,p,hz⟩:=I.list hq; obtain ⟨g0,g1,g2,g3,g4,g5⟩:=hf it (by simp)
   have hl:=rv.length; exact wpAny_pyNext_enum_end (I.ok.hd hc) he st p.isList (by simp; lia) fun h' eb=>⟨rfl,I.turned (t':=s.toks) (fun b o hb e=>eb b o hb e) g0 g1 g3 g4 g5⟩
 self:=fun _ _ _ _ _ st h=>by
   obtain ⟨⟨old,he⟩,_⟩:=st; exact wpAny_pyIter_enum he h
end Sm
end
noncomputable section
namespace Sm
open PySem PySem.Spec PyProof.Rows L2
structure Walk (J:It) (G:Hp) (ds:List PyData):Prop where
 go:∀ (i:Nat) (H:Hp),i < ds.length->Same G H->J.go i H
 yld:∀ (i:Nat) (d:PyData) (G2 H:Hp) (x:V) (H':Hp),ds[i]? = some d->Same G G2->Same G2 H->J.yld i H x H'->∃ G3,Grow G2 H G3 H'/\Rep G3 d x
 stop:∀ (i:Nat) (H:Hp),ds.length<=i->Same G H->J.stop i H
def AftI (E:EK) (G H:Hp) (r:Res (List PyData)) (R:It->Hp->Prop):Prop:=match r with
 | .ok ds=>∀ J G' H',Grow G H G' H'->Walk J G' ds->R J H'
 | .exc c=>∀ G' H',Grow G H G' H'->E c H'
 | .no=>False
def tI (E:EK) (f:Dn->Res (List PyData)):TI:=fun σ H R=>∃ G δ,SR G H σ δ/\AftI E G H (f δ) R
abbrev DI (X:Cx) (E:EK) (tg e:Expr) (f:Dn->Res (List PyData)):Prop:=PI X tg e (tI E f)
theorem AftI.grow {E:EK} {G H G' H':Hp} {r:Res (List PyData)} {Q:It->Hp->Prop} (g:Grow G H G' H') (a:AftI E G H r Q):AftI E G' H' r Q:=by
 cases r with
 | ok d=>exact fun v G2 H2 g2 q=>a v G2 H2 (g.trans g2) q
 | exc c=>exact fun G2 H2 g2=>a G2 H2 (g.trans g2)
 | no=>exact a
theorem PI.imp {X:Cx} {tg e:Expr} {t t':TI} (h:PI X tg e t) (i:∀ σ H Q,t' σ H Q->t σ H Q):PI X tg e t':=fun pins s σ H Q I q=>h pins s σ H Q I (i _ _ _ q)
noncomputable def Au (x:Str):List PyData:=x.cps.toList.map fun c=>.str ⟨#[c]⟩
noncomputable def J2:PyData->Res (List PyData)
 | .list ds=>.ok ds
 | .tuple ds=>.ok ds
 | .str x=>.ok (Au x)
 | _=>.no
theorem dJ {K:PySem.W.Frag} {G:Hp} {a:Addr} {xs:List V} {ds:List PyData} (h:Rd G a (.lst xs)) (l:RepL G ds xs):Walk (Itl K a) G ds where
 go:=fun i H hi hG=>by
   have hi':i < xs.length:=by rw [<- l.length]; exact hi
   exact ⟨xs,xs[i],.inl (Rd.mono hG h),by simp [hi']⟩
 yld:=fun i d G2 H x H' e h1 h2 hy=>by
   obtain ⟨rfl,hy⟩:=hy; obtain ⟨y,e1,r⟩:=l.get e; have:=hy xs (.inl (Rd.mono (h1.trans h2) h)); rw [e1] at this; cases this; exact ⟨G2,Grow.refl h2,r.mono h1⟩
 stop:=fun i H hi hG=>⟨xs,.inl (Rd.mono hG h),by rw [<- l.length]; exact hi⟩
theorem gQ {K:PySem.W.Frag} {G:Hp} {a:Addr} {xs:List V} {ds:List PyData} (h:G a=some (.tup xs)) (l:RepL G ds xs):Walk (Itt K a) G ds where
 go:=fun i H hi hG=>by
   have hi':i < xs.length:=by rw [<- l.length]; exact hi
   exact ⟨xs,xs[i],.inl (.inl (hG _ _ h)),by simp [hi']⟩
 yld:=fun i d G2 H x H' e h1 h2 hy=>by
   obtain ⟨rfl,hy⟩:=hy; obtain ⟨y,e1,r⟩:=l.get e; have:=hy xs (.inl (.inl (h2 _ _ (h1 _ _ h)))); rw [e1] at this; cases this; exact ⟨G2,Grow.refl h2,r.mono h1⟩
 stop:=fun i H hi hG=>⟨xs,.inl (.inl (hG _ _ h)),by rw [<- l.length]; exact hi⟩
theorem Wv {G:Hp} {z:Str} (ho:PyData.strOk z=true):Walk (Its z) G (Au z) where
 go:=fun i H hi hG=>by
   show i < z.cps.size
   simpa [Au] using hi
 yld:=fun i d G2 H x H' e h1 h2 hy=>by
   obtain ⟨rfl,c,hc,rfl⟩:=hy; have e':(z.cps.toList.map fun c=>PyData.str ⟨#[c]⟩)[i]? = some d:=e
   rw [List.getElem?_map,Array.getElem?_toList,hc] at e'
   cases e'; refine ⟨G2,Grow.refl h2,rfl,?_,by show 1<=sizeLine; decide⟩
   unfold PyData.strOk at ho ⊢
   rw [<- Array.all_toList,List.all_eq_true] at ho; have:=ho c (by rw [<- Array.getElem?_toList] at hc; exact List.mem_of_getElem? hc)
   simpa using this
 stop:=fun i H hi hG=>by
   show z.cps.size<=i
   simpa [Au] using hi
theorem Od {G:Hp} (lo:Int) (n:Nat):Walk (Itr lo n) G ((List.range n).map fun (i:Nat)=>PyData.int (lo+i)) where
 go:=fun i H hi hG=>by
   show i < n
   simpa using hi
 yld:=fun i d G2 H x H' e h1 h2 hy=>by
   obtain ⟨rfl,rfl⟩:=hy; rw [List.getElem?_map] at e
   by_cases hi:i < n
   . rw [List.getElem?_range hi] at e; cases e; exact ⟨G2,Grow.refl h2,rfl⟩
   . rw [List.getElem?_eq_none (by simpa using hi)] at e; cases e
 stop:=fun i H hi hG=>by
   show n<=i
   simpa using hi
noncomputable def Hd (ds:List PyData):List PyData:=ds.mapIdx fun i d=>.tuple [.int i,d]
theorem dL {K:PySem.W.Frag} {G:Hp} {a:Addr} {xs:List V} {ds:List PyData} (h:Rd G a (.lst xs)) (l:RepL G ds xs):Walk (Ite K a) G (Hd ds) where
 go:=fun i H hi hG=>by
   have hi':i < xs.length:=by rw [<- l.length]; simpa [Hd] using hi
   exact ⟨xs,xs[i],.inl (Rd.mono hG h),by simp [hi']⟩
 yld:=fun i d G2 H x H' e h1 h2 hy=>by
   obtain ⟨p,y,hp,rfl,rfl,hy⟩:=hy; unfold Hd at e; rw [List.getElem?_mapIdx] at e; obtain ⟨d0,e0,rfl⟩:=Option.map_eq_some_iff.mp e; obtain ⟨y',e1,r⟩:=l.get e0; have:=hy xs (.inl (Rd.mono (h1.trans h2) h)); rw [e1] at this; cases this; refine ⟨upd G2 p (.tup [.int i,y]),Grow.new h2 hp,p,_,rfl,G8,RepL.cons rfl (RepL.cons (r.mono (h1.trans (Same.upd (h2.free hp)))) rfl)⟩
 stop:=fun i H hi hG=>⟨xs,.inl (Rd.mono hG h),by rw [<- l.length]; simpa [Hd] using hi⟩
noncomputable section
variable {P:Program} {w:World} {K:PySem.W.Frag} {mg:Str->Option Value} {base:Heap} {X:Cx} {N:List Str} {sc:Scope} {k:Nat} {df:Bool} {E:EK} {pos p:Pos} {tg a b c e:Expr} {f g:Dn->Res PyData} {fs src:Dn->Res (List PyData)}
theorem P4 (ha:DE X E a f):DI X E tg a (fun δ=>(f δ).bind J2):=by
 rintro pins s σ H R I ⟨G,δ,S,aft⟩
 have h:=Wj (R:=fun v H1=>∃ G1 d,Same G1 H1/\Rep G1 d v/\AftI E G1 H1 (J2 d) R) (W:=fun G H r=>AftI E G H r R) S aft (fun g a=>AftI.grow g a) (fun c a=>a) (fun a=>a) fun d v G1 H1 g1 r1 S1 a1=>⟨G1,d,S1.sub,r1,a1⟩
 refine thn (ha pins s σ H _ I h) fun v s1 hZ2=>?_
 obtain ⟨x,H1,I1,rx,G1,d,hG,rd,a1⟩:=hZ2
 cases d with
 | list ds =>
   obtain ⟨p,xs,rfl,h1,l1⟩:=rd; cases rx; obtain ⟨zz,its,n,rv,e1⟩:=X2 I1 hG h1; refine wpAny_pyIter_list ⟨_,e1,rfl,n,rfl⟩ ?_; refine ⟨s1.heap.objs.size,[s1.heap.objs.size],_,_,H1,rfl,I1.kept (t':=s1.toks) fun b o e=>Heap.get?_push_of_some _ e,dP p _,⟨_,Heap.get?_push_size _ rfl,rfl,rfl⟩,fun b hb=>?_,a1 _ G1 H1 (Grow.refl hG) (dJ h1 l1)⟩
   have e:b=s1.heap.objs.size:=by simpa using hb
   subst e; exact I1.fpOk (Nat.le_refl _) I1.fresh
 | tuple ds =>
   obtain ⟨p,xs,rfl,h1,l1⟩:=rd; cases rx; obtain ⟨zz,its,rv,pt⟩:=Bb I1 hG h1; refine wpAny_pyIter_tuple (show s1.heap.IsTuple p its.toArray from pt) ?_
   refine ⟨s1.heap.objs.size,[s1.heap.objs.size],_,_,H1,rfl,I1.kept (t':=s1.toks) fun b o e=>Heap.get?_push_of_some _ e,Zj p _,⟨_,Heap.get?_push_size _ rfl,rfl,rfl⟩,fun b hb=>?_,a1 _ G1 H1 (Grow.refl hG) (gQ h1 l1)⟩
   have e:b=s1.heap.objs.size:=by simpa using hb
   subst e; exact I1.fpOk (Nat.le_refl _) I1.fresh
 | str z =>
   obtain ⟨e0,o1,l1⟩:=rd; subst e0; obtain ⟨t,rfl⟩:=rx
   cases ha:z.cps.all (· < 128)
   . refine wpAny_pyIter_wide ha ?_
     refine ⟨s1.heap.objs.size,[s1.heap.objs.size],_,_,H1,rfl,I1.kept (t':=s1.toks) fun b o e=>Heap.get?_push_of_some _ e,dO _ z t,⟨_,Heap.get?_push_size _ rfl,rfl,rfl⟩,fun b hb=>?_,a1 _ G1 H1 (Grow.refl hG) (Wv o1)⟩
     have e:b=s1.heap.objs.size:=by simpa using hb
     subst e; exact I1.fpOk (Nat.le_refl _) I1.fresh
   . refine wpAny_pyIter_ascii ha ?_
     refine ⟨s1.heap.objs.size,[s1.heap.objs.size],_,_,H1,rfl,I1.kept (t':=s1.toks) fun b o e=>Heap.get?_push_of_some _ e,Zl _ z t,⟨_,Heap.get?_push_size _ rfl,rfl,rfl⟩,fun b hb=>?_,a1 _ G1 H1 (Grow.refl hG) (Wv o1)⟩
     have e:b=s1.heap.objs.size:=by simpa using hb
     subst e; exact I1.fpOk (Nat.le_refl _) I1.fresh
 | _=>exact (show False from a1).elim
noncomputable def U7 (lo hi:Int):List PyData:=(List.range (hi - lo).toNat).map fun (i:Nat)=>PyData.int (lo+i)
noncomputable def Ff:List PyData->Res (List PyData)
 | [.int j]=>if -(2 ^ 62)<=j/\j < 2 ^ 62 then .ok (U7 0 j) else .no
 | _=>.no
noncomputable def mX:List PyData->Res (List PyData)
 | [.int i,.int j]=>if -(2 ^ 62)<=i/\i < 2 ^ 62 /\ -(2 ^ 62)<=j/\j < 2 ^ 62 then .ok (U7 i j) else .no
 | _=>.no
theorem Ct {n:Nat} (C:Cxt P w K mg base X N sc k df) (h:okGl sc "range" = true) (hm:mg "range" = none) (ha:DA X E [a] n fs) (hs:starEach [a] X.env=[(false,eval a X.env)]:=by rfl) :
   DI X E tg (.Call (.Name "range" p) [a] [] pos) (fun δ=>(fs δ).bind Ff):=by
 refine PI.imp (eL (okGl.gl C h).1 (by rw [C.hmg]; exact hm) ha.pa hs) fun σ H Q hY56=>?_
 obtain ⟨G,δ,S,aft⟩:=hY56
 refine V7 (W:=fun G H r=>AftI E G H r Q) S aft (fun g a=>AftI.grow g a) (fun c a=>a) (fun a=>a) fun ds vs G1 H1 e g1 r1 S1 a1=>?_
 unfold Ff at a1
 split at a1
 . rename_i j
   split at a1
   . rename_i hc
     obtain ⟨v,rfl,e1⟩:=Hs r1
     cases (show _=_ from e1)
     refine ⟨j,rfl,hc.1,hc.2,a1 _ G1 H1 (Grow.refl S1.sub) ?_⟩; have:=Od (G:=G1) 0 j.toNat; unfold U7; rw [Int.sub_zero]; exact this
   . exact a1.elim
 . exact a1.elim
theorem kU {n:Nat} (C:Cxt P w K mg base X N sc k df) (h:okGl sc "range" = true) (hm:mg "range" = none) (ha:DA X E [a,b] n fs) (hs:starEach [a,b] X.env=[(false,eval a X.env),(false,eval b X.env)]:=by rfl) (hs2:starEach [b] X.env=[(false,eval b X.env)]:=by rfl) :
   DI X E tg (.Call (.Name "range" p) [a,b] [] pos) (fun δ=>(fs δ).bind mX):=by
 refine PI.imp (eK (okGl.gl C h).1 (by rw [C.hmg]; exact hm) ha.pa hs hs2) fun σ H Q hY57=>?_
 obtain ⟨G,δ,S,aft⟩:=hY57
 refine V7 (W:=fun G H r=>AftI E G H r Q) S aft (fun g a=>AftI.grow g a) (fun c a=>a) (fun a=>a) fun ds vs G1 H1 e g1 r1 S1 a1=>?_
 unfold mX at a1
 split at a1
 . rename_i i j
   split at a1
   . rename_i hc
     obtain ⟨v,v',rfl,e1,e2⟩:=aJ r1
     cases (show _=_ from e1); cases (show _=_ from e2)
     exact ⟨i,j,rfl,hc,a1 _ G1 H1 (Grow.refl S1.sub) (Od i (j - i).toNat)⟩
   . exact a1.elim
 . exact a1.elim
noncomputable def Qc:List PyData->Res (List PyData)
 | [.list ds]=>.ok (Hd ds)
 | _=>.no
theorem vD {n x1:Nat} {elts:List Expr} {tp:Pos} (C:Cxt P w K mg base X N sc k df) (h:okGl sc "enumerate" = true) (hm:mg "enumerate" = none) (ha:DA X E [a] n fs) (he:starEach [a] X.env=(false,eval a X.env)::starEach [] X.env:=by rfl) (hpl:(backTo pos (starEach [] X.env)).any (·.1)=false:=by rfl) :
   DI X E (.Tuple elts x1 tp) (.Call (.Name "enumerate" p) [a] [] pos) (fun δ=>(fs δ).bind Qc):=by
 rintro pins s σ H R I ⟨G,δ,S,aft⟩
 obtain ⟨h1,h2,h3⟩:=okGl.gl C h
 have hh:=V7 (R:=fun vs H1=>∃ G1 ds,Same G1 H1/\RepL G1 ds vs/\AftI E G1 H1 (Qc ds) R) (W:=fun G H r=>AftI E G H r R) S aft (fun g a=>AftI.grow g a) (fun c a=>a) (fun a=>a) fun ds vs G1 H1 e g1 r1 S1 a1=>⟨G1,ds,S1.sub,r1,a1⟩
 refine wpAny_Call_Name_kw (Li I h1 (by rw [C.hmg]; exact hm) boot_enumerate ?_ h3 h2)
 refine PyProof.Rows.callWith_type1 (thn (ha.pa pos pins s σ H _ I hh) fun us s1 hY58=>?_) he hpl
 obtain ⟨vs,H1,I1,rv,G1,ds,hG,rl,a1⟩:=hY58
 unfold Qc at a1
 split at a1
 . rename_i ys
   obtain ⟨v,rfl,l,xs,rfl,q1,l1⟩:=Hs rl; obtain ⟨u,rfl,ru⟩:=Lx rv; cases ru; obtain ⟨zz,its,nn,rw',e1⟩:=X2 I1 hG q1; refine call_enumerate_list ⟨_,e1,rfl,nn,rfl⟩ fun h' he' hit hsz kp=>?_
   have I2:Inv X pins σ H1 { s1 with heap:=h' }:=I1.kept (t':=s1.toks) kp; refine wpAny_pyIter_enum he' ?_; refine ⟨s1.heap.objs.size+1,[s1.heap.objs.size+1,s1.heap.objs.size],_,_,H1,rfl,I2,dQ l _ _ (Nat.ne_of_gt (Nat.lt_succ_self _)),⟨⟨_,he'⟩,hit⟩,fun b hb=>?_,a1 _ G1 H1 (Grow.refl hG) (dL q1 l1)⟩
   rcases List.mem_cons.mp hb with rfl | hb
   . exact I1.fpOk (Nat.le_succ _) (I1.hok.fresh (Nat.le_succ _))
   . have e:b=s1.heap.objs.size:=by simpa using hb
     subst e; exact I1.fpOk (Nat.le_refl _) I1.fresh
 . exact a1.elim
noncomputable def E9 (d:PyData):Res (List Sl):=.ok [.sh d]
noncomputable def Mi:PyData->Res (List Sl)
 | .tuple [a,b]=>.ok [.sh a,.sh b]
 | _=>.no
noncomputable def F2 (bnd:PyData->Res (List Sl)) (δc:Dn) (tt:Dn->Res Bool) (el:Dn->Res PyData):List PyData->Res (List PyData)
 | []=>.ok []
 | d::ds=>match bnd d with
   | .ok sl=>match tt (sl++δc) with
     | .ok true=>match el (sl++δc) with
       | .ok y=>match F2 bnd δc tt el ds with
         | .ok r=>.ok (y::r)
         | _=>.no
       | _=>.no
     | .ok false=>F2 bnd δc tt el ds
     | _=>.no
   | _=>.no
noncomputable def Cz (δ:Dn) (cap:List Nat):Dn:=cap.map fun j=>δ[j]?.getD .un
noncomputable def G7 (src:Dn->Res (List PyData)) (bnd:PyData->Res (List Sl)) (cap:List Nat) (tt:Dn->Res Bool) (el:Dn->Res PyData):Dn->Res (List PyData):=fun δ=>(src δ).bind fun ds=>if ds.length<=sizeLine then F2 bnd (Cz δ cap) tt el ds else .no
def GOk (g:TG) (m:Nat) (bnd:PyData->Res (List Sl)):Prop:=∀ (G H:Hp) (d:PyData) (x:V) (sl:List Sl) (τ:St) (Q:St->Hp->Prop),Same G H->Rep G d x->bnd d=.ok sl->(∀ vs:List V,vs.length=m->sl.length=m->(∀ (i:Nat) s,sl[i]? = some s->SlOk G H (vs[i]?) s/\∃ d,s=.sh d)->Q (vs.map some++τ) H)->g x (List.replicate m none++τ) H Q
theorem gok1:GOk (Ek 0) 1 E9:=by
 intro G H d x sl τ Q hG r e h
 cases e
 exact h [x] rfl rfl fun i s hs=>by
   cases i with
   | zero=>cases hs; exact ⟨⟨x,rfl,r⟩,d,rfl⟩
   | succ i=>simp at hs
theorem gok2:GOk (vE K 2 (Yl (Ek 0) (Yl (Ek 1) vF))) 2 Mi:=by
 intro G H d x sl τ Q hG r e h
 cases d with
 | tuple ds =>
   match ds,e with
   | [a,b],e =>
     cases e; obtain ⟨p,xs,rfl,h1,l1⟩:=r; obtain ⟨v,v',rfl,r1,r2⟩:=aJ l1; refine ⟨p,_,rfl,.inl (.inl (hG _ _ h1)),rfl,v,[v'],rfl,v',[],rfl,rfl,?_⟩; exact h [v,v'] rfl rfl fun i s hs=>by
       match i with
       | 0=>cases hs; exact ⟨⟨v,rfl,r1⟩,a,rfl⟩
       | 1=>cases hs; exact ⟨⟨v',rfl,r2⟩,b,rfl⟩
       | i+2=>simp at hs
 | _=>cases e
theorem SR.cap {G H:Hp} {σ:St} {δ:Dn} (S:SR G H σ δ) (cap:List Nat) (hnd:cap.Nodup) {vs:List V} {sl:List Sl} (hv:vs.length=sl.length) (h:∀ (i:Nat) s,sl[i]? = some s->SlOk G H (vs[i]?) s/\∃ d,s=.sh d):SR G H (vs.map some++Ev σ cap) (sl++Cz δ cap):=by
 have hlt:∀ i,i < sl.length->(vs.map some++Ev σ cap)[i]? = (vs[i]?).map some:=fun i hi=>by
   rw [List.getElem?_append_left (by rw [List.length_map,hv]; exact hi),List.getElem?_map]
 have hge:∀ i,¬ i < sl.length->(vs.map some++Ev σ cap)[i]? = (cap[i - sl.length]?).map fun j=>σ[j]?.join:=fun i hi=>by
   rw [List.getElem?_append_right (by rw [List.length_map,hv]; lia)]
   unfold Ev; rw [List.getElem?_map,List.length_map,hv]
 have hd:∀ i,¬ i < sl.length->(sl++Cz δ cap)[i]? = (cap[i - sl.length]?).map fun j=>δ[j]?.getD .un:=fun i hi=>by
   rw [List.getElem?_append_right (by lia)]; unfold Cz; rw [List.getElem?_map]
 refine ⟨S.sub,by simp [hv,Ev,Cz],fun i s e=>?_,fun i j a d d' ei ej hi hj=>?_⟩
 . by_cases hi:i < sl.length
   . rw [List.getElem?_append_left hi] at e
     rw [hlt i hi]; have:=(h i s e).1
     cases q:vs[i]? with
     | none=>rw [q] at this; exact this
     | some v=>rw [q] at this; exact this
   . rw [hd i hi] at e
     rw [hge i hi]
     cases q:cap[i - sl.length]? with
     | none=>rw [q] at e; cases e
     | some j =>
       rw [q] at e; simp only [Option.map_some,Option.some.injEq] at e; subst e; show SlOk G H (some (σ[j]?.join)).join _
       cases q2:δ[j]? with
       | none=>trivial
       | some s=>exact S.sl j s q2
 . have key : ∀ i d, (sl ++ Cz δ cap)[i]? = some (.ow d) -> ¬ i < sl.length /\ ∃ j, cap[i - sl.length]? = some j /\ δ[j]? = some (.ow d) := fun i d e => by
     have hi:¬ i < sl.length:=fun hi=>by
       rw [List.getElem?_append_left hi] at e; obtain ⟨_,d',z⟩:=h i _ e; cases z
     refine ⟨hi,?_⟩; rw [hd i hi] at e
     cases q:cap[i - sl.length]? with
     | none=>rw [q] at e; cases e
     | some j =>
       rw [q] at e; simp only [Option.map_some,Option.some.injEq] at e; refine ⟨j,rfl,?_⟩
       cases q2:δ[j]? with
       | none=>rw [q2] at e; cases e
       | some s=>rw [q2] at e; cases e; rfl
   obtain ⟨n1,j1,c1,o1⟩:=key i d ei; obtain ⟨n2,j2,c2,o2⟩:=key j d' ej; rw [hge i n1,c1] at hi; rw [hge j n2,c2] at hj; have hi':σ[j1]?.join=some (.ref a):=hi; have hj':σ[j2]?.join=some (.ref a):=hj; have:=S.ap j1 j2 a d d' o1 o2 hi' hj'; subst this; have:=(List.getElem?_inj (List.getElem?_eq_some_iff.mp c1).1 hnd).mp (c1.trans c2.symm)
   lia
theorem kF (xs:List Str):xs.map (fun _=>(none:Option V))=List.replicate xs.length none:=by
 induction xs with
 | nil=>rfl
 | cons a t ih=>rw [List.map_cons,ih]; rfl
theorem cD {xs:List Str} {cap:List Nat} {g:TG} {m:Nat} {bnd:PyData->Res (List Sl)} {tt:Dn->Res Bool} {el:Dn->Res PyData} (hx:xs.length=m) (hnd:cap.Nodup) (hg:GOk g m bnd) {σ:St} {H:Hp} {Q:VK} (h:tF E (G7 src bnd cap tt el) σ H Q) :
   cE (tI E src) (fun σ=>xs.map (fun _=>none)++Ev σ cap) g (tT E0k tt) (tD E0k el) σ H Q:=by
 obtain ⟨G,δ,S,aft⟩:=h
 refine ⟨G,δ,S,?_⟩
 unfold G7 at aft
 cases e:src δ with
 | exc c=>rw [e] at aft; exact aft
 | no=>rw [e] at aft; exact aft
 | ok ds =>
   rw [e] at aft; intro J G1 H1 g1 W D hD; have aft1:lZ E G H (if ds.length<=sizeLine then F2 bnd (Cz δ cap) tt el ds else .no) Q:=aft
   by_cases hz:ds.length<=sizeLine
   . rw [if_pos hz] at aft1
     have S1:=S.grow g1; have hmap:xs.map (fun _=>(none:Option V))=List.replicate m none:=by rw [<- hx]; exact kF xs
     refine ⟨fun i n H'=>n=ds.length - i/\i<=ds.length/\∃ G' acc yd,Grow G1 H1 G' H'/\G' D=none/\H' D=some (.lst acc)/\RepL G' yd acc/\yd.length<=i /\
       lZ E G H (match F2 bnd (Cz δ cap) tt el (ds.drop i) with | .ok r=>.ok (yd++r) | _=>.no) Q,⟨_,rfl,Nat.zero_le _,G1,[],[],Grow.own g1.gh hD,g1.gh.free hD,G8,rfl,Nat.le_refl _,?_⟩,?_⟩
     . rw [List.drop_zero]
       cases q:F2 bnd (Cz δ cap) tt el ds with
       | ok r=>rw [q] at aft1; exact aft1
       | exc c =>
         exfalso
         have:∀ l c,F2 bnd (Cz δ cap) tt el l≠.exc c:=by
           intro l c
           induction l with
           | nil=>intro z; cases z
           | cons d l ih =>
             unfold F2; intro z
             split at z
             . split at z
               . split at z
                 . split at z <;> cases z
                 . cases z
               . exact ih z
               . cases z
             . cases z
         exact this ds c q
       | no=>rw [q] at aft1; exact aft1
     . rintro i n H' ⟨rfl,hi,G',acc,yd,g2,nD,hDa,ry,hyl,aft2⟩
       by_cases hlt:i < ds.length
       . refine .inr ⟨W.go i H' hlt (g2.g.trans g2.gh), fun H'' => ∃ n', n' < ds.length - i /\ (n' = ds.length - (i + 1) /\ i + 1 <= ds.length /\ ∃ G' acc yd, Grow G1 H1 G' H'' /\ G' D = none /\ H'' D = some (.lst acc) /\ RepL G' yd acc /\ yd.length <= i + 1 /\
           lZ E G H (match F2 bnd (Cz δ cap) tt el (ds.drop (i+1)) with | .ok r=>.ok (yd++r) | _=>.no) Q),fun H'' q=>?_,fun x H'' hy=>?_⟩
         . obtain ⟨n',h1,h2⟩:=q
           exact ⟨n',h1,h2⟩
         . have hd:ds[i]? = some ds[i]:=List.getElem?_eq_getElem hlt
           have hdrop:ds.drop i=ds[i]::ds.drop (i+1):=List.drop_eq_getElem_cons hlt; obtain ⟨G3,g3,r3⟩:=W.yld i _ G' H' x H'' hd g2.g g2.gh hy; have g13:=g2.trans g3; have nD3:G3 D=none:=by
             cases q:G3 D with
             | none=>rfl
             | some u => rcases g3.fr D u q with z | z | ⟨xs, rfl⟩
                         . rw [nD] at z; cases z
                         . rw [hDa] at z; cases z
                         . have:=g3.gh _ _ q; rw [g3.h _ _ hDa] at this; cases this
           rw [hdrop] at aft2; unfold F2 at aft2; rw [hmap]
           cases eb:bnd ds[i] with
           | exc c=>rw [eb] at aft2; exact aft2.elim
           | no=>rw [eb] at aft2; exact aft2.elim
           | ok sl =>
             rw [eb] at aft2; refine hg G3 H'' _ x sl _ _ g3.gh r3 eb fun vs hv hs hsl=>⟨⟨by rw [List.length_append,List.length_append,List.length_replicate,List.length_map,hv],fun j v z=>?_⟩,?_⟩
             . by_cases hj:j < m
               . rw [List.getElem?_append_left (by rw [List.length_replicate]; exact hj),List.getElem?_replicate] at z
                 split at z <;> cases z
               . rw [List.getElem?_append_right (by rw [List.length_replicate]; exact Nat.not_lt.mp hj),List.length_replicate] at z
                 rw [List.getElem?_append_right (by rw [List.length_map,hv]; exact Nat.not_lt.mp hj),List.length_map,hv]
                 exact z
             . have Sb:SR G3 H'' (vs.map some++Ev σ cap) (sl++Cz δ cap):=(S1.grow g13).cap cap hnd (hv.trans hs.symm) hsl
               refine ⟨G3,_,Sb,?_⟩; simp only at aft2
               cases et:tt (sl++Cz δ cap) with
               | exc c=>rw [et] at aft2; exact aft2.elim
               | no=>rw [et] at aft2; exact aft2.elim
               | ok kk =>
                 rw [et] at aft2; intro G4 H4 g4; have nD4:G4 D=none:=by
                   cases q:G4 D with
                   | none=>rfl
                   | some u => rcases g4.fr D u q with z | z | ⟨xs, rfl⟩
                               . rw [nD3] at z; cases z
                               . rw [g3.h _ _ hDa] at z; cases z
                               . have:=g4.gh _ _ q; rw [g4.h _ _ (g3.h _ _ hDa)] at this; cases this
                 have hD4:H4 D=some (.lst acc):=g4.h _ _ (g3.h _ _ hDa)
                 cases kk with
                 | false =>
                   rw [if_neg (by decide)]; exact ⟨_,by lia,rfl,hlt,G4,acc,yd,g13.trans g4,nD4,hD4,ry.mono (g3.g.trans g4.g),by lia,aft2⟩
                 | true =>
                   rw [if_pos rfl]; refine ⟨G4,_,Sb.grow g4,?_⟩; simp only at aft2
                   cases ee:el (sl++Cz δ cap) with
                   | exc c=>rw [ee] at aft2; exact aft2.elim
                   | no=>rw [ee] at aft2; exact aft2.elim
                   | ok y =>
                     rw [ee] at aft2; intro v G5 H5 g5 r5; have nD5:G5 D=none:=by
                       cases q:G5 D with
                       | none=>rfl
                       | some u => rcases g5.fr D u q with z | z | ⟨xs, rfl⟩
                                   . rw [nD4] at z; cases z
                                   . rw [hD4] at z; cases z
                                   . have:=g5.gh _ _ q; rw [g5.h _ _ hD4] at this; cases this
                     have hD5:H5 D=some (.lst acc):=g5.h _ _ hD4; have hal:acc.length<=i:=by rw [<- ry.length]; exact hyl
                     refine ⟨acc,hD5,by lia,_,by lia,rfl,hlt,G5,acc++[v],yd++[y],?_,nD5,G8,?_,by rw [List.length_append,List.length_singleton]; lia,?_⟩
                     . have g15:=(g13.trans g4).trans g5
                       refine ⟨g15.g,fun b o q=>?_,fun b o q=>?_,g15.fr⟩
                       . rw [E4 (M7 q hD)]; exact g15.h _ _ q
                       . rw [E4 (M7 q nD5)]; exact g15.gh _ _ q
                     . exact (ry.mono (g3.g.trans (g4.g.trans g5.g))).append (RepL.cons r5 rfl)
                     . simp only at aft2
                       cases er:F2 bnd (Cz δ cap) tt el (ds.drop (i+1)) with
                       | ok r =>
                         rw [er] at aft2; simp only [List.append_assoc,List.singleton_append]; exact aft2
                       | exc c=>rw [er] at aft2; exact aft2
                       | no=>rw [er] at aft2; exact aft2
       . refine .inl ⟨W.stop i H' (Nat.not_lt.mp hlt) (g2.g.trans g2.gh),?_⟩
         have:ds.drop i=[]:=List.drop_eq_nil_of_le (Nat.not_lt.mp hlt); rw [this] at aft2; unfold F2 at aft2; have aft3:lZ E G H (.ok (yd++[])) Q:=aft2; rw [List.append_nil] at aft3; exact aft3 D acc G' H' (g1.trans g2) (g1.h.free hD) nD hDa ry
   . rw [if_neg hz] at aft1; exact aft1.elim
end
end Sm
end
noncomputable section
namespace Sm
open PySem PySem.Spec PyProof.Rows L2
noncomputable def Dq (cells:List (Str×Addr)):List (Str×NameKind)->List (Str×Addr)->List (Str×Addr)
 | [],cs=>cs
 | (n,kd)::r,cs=>if kd==.free then Dq cells r ((n,(cells.lookup n).getD 0)::cs) else Dq cells r cs
theorem Yu {env:Env}:∀ (names:List (Str×NameKind)) (cs:List (Str×Addr)),(∀ y∈names,y.2=.free->∃ c,env.cells.lookup y.1=some c) ->
   (forIn names cs fun (x:Str×NameKind) (r:List (Str×Addr))=>if (x.2==NameKind.free)=true then do let c <- cellOf env x.1; pure (ForInStep.yield ((x.1,c)::r)) else pure (ForInStep.yield r))=(pure (Dq env.cells names cs):Sem (List (Str×Addr)))
 | [],cs,_=>rfl
 | (n,kd)::r,cs,h=>by
   rw [List.forIn_cons]; have ih:=fun cs=>Yu r cs fun y hy=>h y (List.mem_cons_of_mem _ hy)
   unfold Dq
   by_cases hk:(kd==NameKind.free)=true
   . obtain ⟨c,hc⟩:=h (n,kd) List.mem_cons_self (eq_of_beq hk)
     have hc':cellOf env n=pure c:=by unfold cellOf; rw [show env.cells.lookup n=some c from hc]
     simp only [hk,if_true,hc',pure_bind]; rw [show env.cells.lookup n=some c from hc]; exact ih _
   . simp only [hk,if_false,pure_bind]
     exact ih _
theorem Hz {cells:List (Str×Addr)}:∀ {names:List (Str×NameKind)} {cs:List (Str×Addr)} {y:Str×Addr},y∈Dq cells names cs->y∈cs\/((y.1,NameKind.free)∈names/\y.2=(cells.lookup y.1).getD 0)
 | [],cs,y,h=>.inl h
 | (n,kd)::r,cs,y,h=>by
   unfold Dq at h
   by_cases hk:(kd==NameKind.free)=true
   . rw [if_pos hk] at h
     have hk':=eq_of_beq hk; subst hk'; rcases Hz h with z | ⟨z1,z2⟩
     . rcases List.mem_cons.mp z with rfl | z
       . exact .inr ⟨List.mem_cons_self,rfl⟩
       . exact .inl z
     . exact .inr ⟨List.mem_cons_of_mem _ z1,z2⟩
   . rw [if_neg hk] at h
     rcases Hz h with z | ⟨z1,z2⟩
     . exact .inl z
     . exact .inr ⟨List.mem_cons_of_mem _ z1,z2⟩
theorem Ia {cells:List (Str×Addr)} {x:Str}:∀ {names:List (Str×NameKind)} {cs:List (Str×Addr)},((x,NameKind.free)∈names\/∃ c,(x,c)∈cs)->∃ c,(x,c)∈Dq cells names cs
 | [],cs,h=>by
   rcases h with h | h
   . cases h
   . exact h
 | (n,kd)::r,cs,h=>by
   unfold Dq
   by_cases hk:(kd==NameKind.free)=true
   . rw [if_pos hk]
     refine Ia ?_; rcases h with h | ⟨c,h⟩
     . rcases List.mem_cons.mp h with q | q
       . cases q; exact .inr ⟨_,List.mem_cons_self⟩
       . exact .inl q
     . exact .inr ⟨c,List.mem_cons_of_mem _ h⟩
   . rw [if_neg hk]
     refine Ia ?_; rcases h with h | ⟨c,h⟩
     . rcases List.mem_cons.mp h with q | q
       . cases q; exact absurd rfl hk
       . exact .inl q
     . exact .inr ⟨c,h⟩
theorem Ej {α:Type} {x:Str} {c:α} {l:List (Str×α)} (h:l.lookup x=some c):(x,c)∈l:=PySem.mem_of_lookup h
theorem Hc {α:Type} {x:Str}:∀ {l:List (Str×α)} {c:α},(x,c)∈l->∃ c',l.lookup x=some c'
 | [],_,h=>by cases h
 | (n,d)::r,c,h=>by
   rw [List.lookup_cons]
   cases q:x==n with
   | true=>exact ⟨d,rfl⟩
   | false =>
     rcases List.mem_cons.mp h with z | z
     . cases z; simp at q
     . exact Hc z
theorem pZ {X:Cx} (ok:X.Ok) {scope:Scope} (hnc:∀ y∈scope.names,y.2≠.cell) (hfree:∀ y∈scope.names,y.2=.free->X.env.scope.names.lookup y.1=some .cell\/X.env.scope.names.lookup y.1=some .free):∃ cl,Clos X scope cl:=by
 have hc:∀ y∈scope.names,y.2=.free->∃ c,X.env.cells.lookup y.1=some c:=fun y hy hf=>ok.has y.1 (hfree y hy hf)
 refine ⟨Dq X.env.cells scope.names [],⟨?_,fun x c h=>?_,fun x h=>?_⟩⟩
 . have:=Yu (env:=X.env) scope.names [] hc
   unfold closureFor; simp only
   rw [this]; rfl
 . rcases Hz (Ej h) with z | ⟨z1,z2⟩
   . cases z
   . obtain ⟨c',e⟩:=hc _ z1 rfl
     have e':X.env.cells.lookup x=some c':=e; have z2':c=(X.env.cells.lookup x).getD 0:=z2; rw [e'] at z2' ⊢
     rw [z2']; rfl
 . have hm : (x, NameKind.free) ∈ scope.names := by
     have key:∀ kd,(relabel scope X.env).names.lookup x=some kd->(kd=.cell\/kd=.free)->(x,NameKind.free)∈scope.names:=fun kd hl hkd=>by
       have hm:=Ej hl; unfold relabel at hm; simp only [List.mem_map] at hm; obtain ⟨⟨n,k0⟩,hy,e⟩:=hm; simp only at e
       split at e
       . rename_i hc'
         cases e; have:k0=.free:=by
           rw [Bool.and_eq_true,Bool.and_eq_true] at hc'; exact eq_of_beq hc'.1.1
         subst this; exact hy
       . cases e
         rcases hkd with rfl | rfl
         . exact absurd rfl (hnc _ hy)
         . exact hy
     rcases h with h | h
     . exact key _ h (.inl rfl)
     . exact key _ h (.inr rfl)
   obtain ⟨c,hc'⟩:=Ia (cells:=X.env.cells) (names:=scope.names) (cs:=[]) (x:=x) (.inl hm); exact Hc hc'
noncomputable def okComp (N:List Str) (sc scope:Scope) (xs capN:List Str) (cap:List Nat):Bool :=
 decide (scope.kind=.function)&&scope.names.all (fun y=>decide (y.2≠.cell))&&scope.names.all (fun y=>decide (y.2=.local->scope.names.lookup y.1=some .local)) &&
 scope.names.all (fun y=>decide (y.2=.free->sc.names.lookup y.1=some .cell\/sc.names.lookup y.1=some .free))&&decide (cap.map (fun j=>N[j]?)=capN.map some) &&
 capN.all (fun x=>decide ((Mz scope sc).names.lookup x=some .cell\/(Mz scope sc).names.lookup x=some .free))&&capN.all (fun x=>decide (sc.names.lookup x=some .cell\/sc.names.lookup x=some .free)) &&
 decide ((xs++capN).Nodup)&&xs.all (fun x=>decide ((Mz scope sc).names.lookup x=some .local))&&decide (cap.Nodup)
noncomputable section
variable {P:Program} {w:World} {K:PySem.W.Frag} {mg:Str->Option Value} {base:Heap} {X:Cx} {N:List Str} {sc:Scope} {k:Nat} {df:Bool} {E:EK} {pos px:Pos} {a c elt iter:Expr} {ifs:List Expr} {f g el:Dn->Res PyData} {src:Dn->Res (List PyData)} {tt:Dn->Res Bool} {scope:Scope} {capN:List Str} {cap:List Nat}
structure CompOk (N:List Str) (sc scope:Scope) (xs capN:List Str) (cap:List Nat):Prop where
 h1:scope.kind=.function
 h2:∀ y∈scope.names,y.2≠.cell
 h3:∀ y∈scope.names,y.2=.local->scope.names.lookup y.1=some .local
 h4:∀ y∈scope.names,y.2=.free->sc.names.lookup y.1=some .cell\/sc.names.lookup y.1=some .free
 h5:cap.map (fun j=>N[j]?)=capN.map some
 h6:∀ x∈capN,(Mz scope sc).names.lookup x=some .cell\/(Mz scope sc).names.lookup x=some .free
 h7:∀ x∈capN,sc.names.lookup x=some .cell\/sc.names.lookup x=some .free
 h8:(xs++capN).Nodup
 h9:∀ x∈xs,(Mz scope sc).names.lookup x=some .local
 h10:cap.Nodup
theorem okComp.ok {xs:List Str} (h:okComp N sc scope xs capN cap=true):CompOk N sc scope xs capN cap:=by
 unfold okComp at h
 simp only [Bool.and_eq_true,List.all_eq_true,decide_eq_true_eq] at h
 obtain ⟨⟨⟨⟨⟨⟨⟨⟨⟨h1,h2⟩,h3⟩,h4⟩,h5⟩,h6⟩,h7⟩,h8⟩,h9⟩,h10⟩:=h
 exact ⟨h1,h2,h3,h4,h5,h6,h7,h8,h9,h10⟩
theorem Qj {xs:List Str} (C:Cxt P w K mg base X N sc k df) (h:CompOk N sc scope xs capN cap) (ok:X.Ok):CompFacts X scope xs capN cap:=by
 refine ⟨h.h1,h.h2,h.h3,pZ ok h.h2 fun y hy hf=>?_,by rw [C.hN]; exact h.h5,fun x hx=>?_,fun x hx=>?_⟩
 . rw [C.hs]; exact h.h4 y hy hf
 . rw [cI C.hs]; exact h.h6 x hx
 . rw [C.hs]; exact h.h7 x hx
abbrev DTs (X:Cx) (E:EK) (ifs:List Expr) (f:Dn->Res Bool):Prop:=PTs X ifs (tT E f)
noncomputable def N7:Dn->Res Bool:=fun _=>.ok true
theorem S8:DTs X E [] N7:=fun pins s σ H Q I hZ6=>by obtain ⟨G,δ,S,a⟩:=hZ6; exact nE pins s σ H Q I (a G H (Grow.refl S.sub))
theorem Y0 (h:DT X E c tt):DTs X E [c] tt:=nC h
theorem I9 {x:Str} (C:Cxt P w K mg base X N sc k df) (cap:List Nat) (capN:List Str) (ho:okComp N sc scope [x] capN cap=true) (hi:DI X E (.Name x px) iter src)
   (ht:∀ X',Cxt P w K mg base X' ([x]++capN) (Mz scope sc) k false->DTs X' E0k ifs tt) (he:∀ X',Cxt P w K mg base X' ([x]++capN) (Mz scope sc) k false->DE X' E0k elt el)
   (hs:∀ x,foldedSetIterable iter X.env x=pure x:=by intro _; rfl):DF X E (.ListComp elt [⟨.Name x px,iter,ifs,0⟩] scope pos) (G7 src E9 cap tt el):=by
 have o:=okComp.ok ho
 refine PE.imp (nM (g:=Ek 0) C.calm (Qj C o) hi (fun X' B=>?_) (fun X' B=>ht X' (C.blk B)) (fun X' B=>he X' (C.blk B)) hs) fun σ H Q h=>cD (m:=1) rfl o.h10 gok1 h
 have C':=C.blk B
 have hl:X'.env.scope.names.lookup x=some .local:=by rw [C'.hs]; exact o.h9 x (by simp)
 exact Fx (by rw [C'.hN]; exact o.h8) (by rw [C'.hN]; rfl) (.inl hl) (.inr hl)
end
end Sm
end
noncomputable section
set_option backward.match.sparseCases false
namespace Sm
open PySem PySem.Spec PyProof.Rows L2
inductive Out where
 | nx (δ:Dn)
 | rt (d:PyData)
 | bk (δ:Dn)
 | ct (δ:Dn)
 | exc (c:Str)
 | no
structure SSt (G0 H0 G H:Hp) (σ:St) (δ:Dn):Prop where
 gr:Grow G0 H0 G H
 sr:SR G H σ δ
 fr:∀ (i:Nat) (d:PyData) (a:Addr),δ[i]? = some (.ow d)->σ[i]?.join=some (.ref a)->H0 a=none
theorem SSt.grow {G0 H0 G H G' H':Hp} {σ:St} {δ:Dn} (S:SSt G0 H0 G H σ δ) (g:Grow G H G' H'):SSt G0 H0 G' H' σ δ:=⟨S.gr.trans g,S.sr.grow g,S.fr⟩
def Rg (E:EK) (G0 H0:Hp) (o:Out) (D:Ends):Prop:=match o with
 | .nx δ=>∀ σ G H,SSt G0 H0 G H σ δ->D.nx σ H
 | .rt d=>∀ v G H,Grow G0 H0 G H->Rep G d v->D.rt v H
 | .bk δ=>∀ σ G H,SSt G0 H0 G H σ δ->D.bk σ H
 | .ct δ=>∀ σ G H,SSt G0 H0 G H σ δ->D.ct σ H
 | .exc c=>∀ G H,Grow G0 H0 G H->E c H
 | .no=>False
def tS (E:EK) (G0 H0:Hp) (g:Dn->Out):TS:=fun D σ H=>∃ G δ,SSt G0 H0 G H σ δ/\Rg E G0 H0 (g δ) D
def DS (X:Cx) (E:EK) (st:Stmt) (g:Dn->Out):Prop:=∀ G0 H0,PS X st (tS E G0 H0 g)
def DSs (X:Cx) (E:EK) (st:List Stmt) (g:Dn->Out):Prop:=∀ G0 H0,PSs X st (tS E G0 H0 g)
theorem PS.imp {X:Cx} {st:Stmt} {t t':TS} (h:PS X st t) (i:∀ D σ H,t' D σ H->t D σ H):PS X st t':=fun pins s σ H D I q=>h pins s σ H D I (i _ _ _ q)
theorem PSs.imp {X:Cx} {st:List Stmt} {t t':TS} (h:PSs X st t) (i:∀ D σ H,t' D σ H->t D σ H):PSs X st t':=fun pins s σ H D I q=>h pins s σ H D I (i _ _ _ q)
noncomputable def V2 {α:Type} (r:Res α) (k:α->Out):Out:=match r with
 | .ok a=>k a
 | .exc c=>.exc c
 | .no=>.no
theorem Wl {E:EK} {G0 H0 G H:Hp} {σ:St} {δ:Dn} {f:Dn->Res PyData} {k:PyData->Out} {D:Ends} {R:VK} (S:SSt G0 H0 G H σ δ) (a:Rg E G0 H0 (V2 (f δ) k) D)
   (h:∀ d v G1 H1,Grow G H G1 H1->Rep G1 d v->SSt G0 H0 G1 H1 σ δ->Rg E G0 H0 (k d) D->R v H1):tD E f σ H R:=by
 refine ⟨G,δ,S.sr,?_⟩
 cases e:f δ with
 | ok d=>rw [e] at a; exact fun v G' H' g r=>h d v G' H' g r (S.grow g) a
 | exc c=>rw [e] at a; exact fun G' H' g=>a G' H' (S.gr.trans g)
 | no=>rw [e] at a; exact a
theorem lT {E:EK} {G0 H0 G H:Hp} {σ:St} {δ:Dn} {f:Dn->Res (List PyData)} {k:List PyData->Out} {D:Ends} {R:VK} (S:SSt G0 H0 G H σ δ) (a:Rg E G0 H0 (V2 (f δ) k) D)
   (h:∀ ds p xs G1 H1,Grow G H G1 H1->H p=none->G1 p=none->H1 p=some (.lst xs)->RepL G1 ds xs->SSt G0 H0 G1 H1 σ δ->Rg E G0 H0 (k ds) D->R (.ref p) H1):tF E f σ H R:=by
 refine ⟨G,δ,S.sr,?_⟩
 cases e:f δ with
 | ok d=>rw [e] at a; exact fun p xs G' H' g q1 q2 q3 q4=>h d p xs G' H' g q1 q2 q3 q4 (S.grow g) a
 | exc c=>rw [e] at a; exact fun G' H' g=>a G' H' (S.gr.trans g)
 | no=>rw [e] at a; exact a
theorem wD {E:EK} {G0 H0 G H:Hp} {σ:St} {δ:Dn} {f:Dn->Res Bool} {k:Bool->Out} {D:Ends} {R:Bool->Hp->Prop} (S:SSt G0 H0 G H σ δ) (a:Rg E G0 H0 (V2 (f δ) k) D)
   (h:∀ d G1 H1,Grow G H G1 H1->SSt G0 H0 G1 H1 σ δ->Rg E G0 H0 (k d) D->R d H1):tT E f σ H R:=by
 refine ⟨G,δ,S.sr,?_⟩
 cases e:f δ with
 | ok d=>rw [e] at a; exact fun G' H' g=>h d G' H' g (S.grow g) a
 | exc c=>rw [e] at a; exact fun G' H' g=>a G' H' (S.gr.trans g)
 | no=>rw [e] at a; exact a
theorem wE {E:EK} {G0 H0 G H:Hp} {σ:St} {δ:Dn} {f:Dn->Res (List PyData)} {k:List PyData->Out} {D:Ends} {R:It->Hp->Prop} (S:SSt G0 H0 G H σ δ) (a:Rg E G0 H0 (V2 (f δ) k) D)
   (h:∀ ds J G1 H1,Grow G H G1 H1->Walk J G1 ds->SSt G0 H0 G1 H1 σ δ->Rg E G0 H0 (k ds) D->R J H1):tI E f σ H R:=by
 refine ⟨G,δ,S.sr,?_⟩
 cases e:f δ with
 | ok d=>rw [e] at a; exact fun J G' H' g q=>h d J G' H' g q (S.grow g) a
 | exc c=>rw [e] at a; exact fun G' H' g=>a G' H' (S.gr.trans g)
 | no=>rw [e] at a; exact a
theorem Y6 {α:Type} {l:List α} {i j:Nat} {v:α}:(l.set i v)[j]? = if i=j/\i < l.length then some v else l[j]? := by
 rw [List.getElem?_set]
 by_cases h:i=j
 . subst h
   by_cases hl:i < l.length
   . simp [hl]
   . simp [hl,List.getElem?_eq_none (Nat.not_lt.mp hl)]
 . simp [h]
theorem SSt.set_sh {G0 H0 G H:Hp} {σ:St} {δ:Dn} (S:SSt G0 H0 G H σ δ) {i:Nat} {v:V} {d:PyData} (r:Rep G d v):SSt G0 H0 G H (σ.set i (some v)) (δ.set i (.sh d)):=by
 have hl:=S.sr.len
 have key:∀ (j:Nat) (d':PyData),(δ.set i (.sh d))[j]? = some (.ow d')->(σ.set i (some v))[j]? = σ[j]? /\ δ[j]? = some (.ow d'):=fun j d' e=>by
   rw [Y6] at e
   split at e
   . cases e
   . rename_i hn
     refine ⟨?_,e⟩; rw [Y6,if_neg (by rw [hl]; exact hn)]
 refine ⟨S.gr,⟨S.sr.sub,by simp [hl],fun j s e=>?_,fun j1 j2 a d1 d2 e1 e2 h1 h2=>?_⟩,fun j d' a e h=>?_⟩
 . rw [Y6] at e ⊢
   rw [hl]
   split at e
   . rename_i hc; cases e; rw [if_pos hc]; exact ⟨v,rfl,r⟩
   . rename_i hc; rw [if_neg hc]; exact S.sr.sl j s e
 . obtain ⟨k1,o1⟩:=key j1 d1 e1
   obtain ⟨k2,o2⟩:=key j2 d2 e2; rw [k1] at h1; rw [k2] at h2; exact S.sr.ap j1 j2 a d1 d2 o1 o2 h1 h2
 . obtain ⟨k1,o1⟩:=key j d' e
   rw [k1] at h; exact S.fr j d' a o1 h
theorem SSt.set_ow {G0 H0 G H:Hp} {σ:St} {δ:Dn} (S:SSt G0 H0 G H σ δ) {i:Nat} {p:Addr} {d:PyData} (h0:H0 p=none) (hg:G p=none) (ho:OwnOk G H p d) (hf:∀ (j:Nat) d',δ[j]? = some (.ow d')->σ[j]?.join≠some (.ref p)):SSt G0 H0 G H (σ.set i (some (.ref p))) (δ.set i (.ow d)):=by
 have hl:=S.sr.len
 have key:∀ (j:Nat) (d':PyData),(δ.set i (.ow d))[j]? = some (.ow d')->(i=j/\i < δ.length/\d'=d/\(σ.set i (some (.ref p)))[j]? = some (some (.ref p)))\/((σ.set i (some (.ref p)))[j]? = σ[j]? /\ δ[j]? = some (.ow d')):=fun j d' e=>by
   rw [Y6] at e
   split at e
   . rename_i hc; cases e; exact .inl ⟨hc.1,hc.2,rfl,by rw [Y6,if_pos (by rw [hl]; exact hc)]⟩
   . rename_i hn
     refine .inr ⟨?_,e⟩; rw [Y6,if_neg (by rw [hl]; exact hn)]
 refine ⟨S.gr,⟨S.sr.sub,by simp [hl],fun j s e=>?_,fun j1 j2 a d1 d2 e1 e2 h1 h2=>?_⟩,fun j d' a e h=>?_⟩
 . rw [Y6] at e ⊢
   rw [hl]
   split at e
   . rename_i hc; cases e; rw [if_pos hc]; exact ⟨p,rfl,hg,ho⟩
   . rename_i hc; rw [if_neg hc]; exact S.sr.sl j s e
 . rcases key j1 d1 e1 with ⟨a1,b1,_,c1⟩ | ⟨k1,o1⟩
   . rcases key j2 d2 e2 with ⟨a2,b2,_,c2⟩ | ⟨k2,o2⟩
     . exact a1.symm.trans a2
     . rw [c1] at h1; cases h1
       rw [k2] at h2; exact absurd h2 (hf j2 d2 o2)
   . rcases key j2 d2 e2 with ⟨a2,b2,_,c2⟩ | ⟨k2,o2⟩
     . rw [c2] at h2; cases h2
       rw [k1] at h1; exact absurd h1 (hf j1 d1 o1)
     . rw [k1] at h1; rw [k2] at h2
       exact S.sr.ap j1 j2 a d1 d2 o1 o2 h1 h2
 . rcases key j d' e with ⟨a1,b1,_,c1⟩ | ⟨k1,o1⟩
   . rw [c1] at h; cases h; exact h0
   . rw [k1] at h; exact S.fr j d' a o1 h
theorem SSt.write {G0 H0 G H:Hp} {σ:St} {δ:Dn} (S:SSt G0 H0 G H σ δ) {i:Nat} {p:Addr} {d d':PyData} {o:HO} (hi:δ[i]? = some (.ow d)) (hp:σ[i]?.join=some (.ref p)) (hg:G p=none) (ho:OwnOk G (upd H p o) p d'):SSt G0 H0 G (upd H p o) σ (δ.set i (.ow d')):=by
 have h0:=S.fr i d p hi hp
 have hil:i < δ.length:=(List.getElem?_eq_some_iff.mp hi).1
 have hsub:Same G (upd H p o):=fun b u e=>by rw [E4 (M7 e hg)]; exact S.sr.sub _ _ e
 have key:∀ (j:Nat) (e:PyData),(δ.set i (.ow d'))[j]? = some (.ow e)->∃ e',δ[j]? = some (.ow e'):=fun j e h=>by
   rw [Y6] at h
   split at h
   . rename_i hc; rw [<- hc.1]; exact ⟨d,hi⟩
   . exact ⟨e,h⟩
 refine ⟨⟨S.gr.g,fun b u e=>by rw [E4 (M7 e h0)]; exact S.gr.h _ _ e,hsub,S.gr.fr⟩,⟨hsub,by simp [S.sr.len],fun j s e=>?_,fun j1 j2 a d1 d2 e1 e2 h1 h2=>?_⟩,fun j e a h1 h2=>?_⟩
 . rw [Y6] at e
   split at e
   . rename_i hc; cases e; rw [<- hc.1]; exact ⟨p,hp,hg,ho⟩
   . rename_i hc
     have hs:=S.sr.sl j s e
     cases s with
     | un=>trivial
     | sh d=>exact hs
     | fd _=>exact hs
     | ow d2 =>
       obtain ⟨a,e1,n1,ok⟩:=hs; refine ⟨a,e1,n1,?_⟩; have hne:a≠p:=by
         rintro rfl
         exact hc ⟨S.sr.ap i j a d d2 hi e hp e1,hil⟩
       cases d2 with
       | list ds=>obtain ⟨xs,q,r⟩:=ok; exact ⟨xs,by rw [E4 hne]; exact q,r⟩
       | dict kvs=>obtain ⟨xs,q,r⟩:=ok; exact ⟨xs,by rw [E4 hne]; exact q,r⟩
       | tuple xs=>exact OwnK.keep (Same.refl _) (fun o q=>by rw [E4 hne]; exact q) ok
       | _=>exact (show False from ok).elim
 . obtain ⟨e1',o1⟩:=key j1 d1 e1
   obtain ⟨e2',o2⟩:=key j2 d2 e2; exact S.sr.ap j1 j2 a _ _ o1 o2 h1 h2
 . obtain ⟨e',o1⟩:=key j e h1
   exact S.fr j e' a o1 h2
noncomputable def fz (i:Nat) (δ:Dn):Dn:=match δ[i]? with
 | some (.ow (.list ds))=>δ.set i (.sh (.list ds))
 | _=>δ
theorem SSt.fz {G0 H0 G H:Hp} {σ:St} {δ:Dn} (S:SSt G0 H0 G H σ δ) (i:Nat):∃ G',SSt G0 H0 G' H σ (fz i δ):=by
 unfold Sm.fz
 split
 . rename_i ds hi
   obtain ⟨p,hp,hg,xs,hx,r⟩:=S.sr.sl i _ hi; have h0:=S.fr i _ p hi hp; have g:Grow G0 H0 (upd G p (.lst xs)) H:=S.gr.share h0 hg hx; have hv:σ[i]? = some (some (.ref p)):=by
     cases q:σ[i]? with
     | none=>rw [q] at hp; cases hp
     | some z=>rw [q] at hp; cases z with
       | none=>cases hp
       | some z=>cases hp; rfl
   have key:∀ (j:Nat) (d':PyData),(δ.set i (.sh (.list ds)))[j]? = some (.ow d')->δ[j]? = some (.ow d')/\j≠i:=fun j d' e=>by
     rw [Y6] at e
     split at e
     . cases e
     . rename_i hn
       refine ⟨e,fun z=>?_⟩
       subst z; exact hn ⟨rfl,(List.getElem?_eq_some_iff.mp hi).1⟩
   refine ⟨_,g,⟨g.gh,by simp [S.sr.len],fun j s e=>?_,fun j1 j2 a d1 d2 e1 e2 h1 h2=>S.sr.ap j1 j2 a d1 d2 (key j1 d1 e1).1 (key j2 d2 e2).1 h1 h2⟩,fun j d' a e h=>S.fr j d' a (key j d' e).1 h⟩
   have sm:Same G (upd G p (.lst xs)):=Same.upd hg
   by_cases hj:i=j/\i < δ.length
   . rw [Y6,if_pos hj] at e
     cases e; rw [<- hj.1,hv]; exact ⟨_,rfl,p,xs,rfl,.inl G8,r.mono sm⟩
   . have e2:=e
     rw [Y6,if_neg hj] at e2; have hs:=S.sr.sl j s e2
     cases s with
     | un=>trivial
     | sh d=>obtain ⟨v,e1,r1⟩:=hs; exact ⟨v,e1,r1.mono sm⟩
     | fd _=>exact FdOk.mono sm hs
     | ow d2 =>
       obtain ⟨a,e1,n1,ok⟩:=hs; have hne:a≠p:=by
         rintro rfl
         exact (key j d2 e).2 (S.sr.ap j i a d2 _ e2 hi e1 hp)
       refine ⟨a,e1,by rw [E4 hne]; exact n1,?_⟩
       cases d2 with
       | list ds=>obtain ⟨xs,q,r⟩:=ok; exact ⟨xs,q,r.mono sm⟩
       | dict kvs=>obtain ⟨xs,q,k,r⟩:=ok; exact ⟨xs,q,k,r.mono sm⟩
       | tuple xs=>exact OwnK.keep sm (fun o q=>q) ok
       | _=>exact (show False from ok).elim
 . exact ⟨G,S⟩
noncomputable section
variable {P:Program} {w:World} {K:PySem.W.Frag} {mg:Str->Option Value} {base:Heap} {X:Cx} {N:List Str} {sc:Scope} {k:Nat} {df:Bool} {E:EK} {pos p:Pos} {a b c e elt:Expr} {f g:Dn->Res PyData} {fs:Dn->Res (List PyData)} {tt:Dn->Res Bool} {scope:Scope} {st:Stmt} {sts sts':List Stmt} {g1 g2:Dn->Out}
noncomputable def F4:Dn->Out:=fun δ=>.nx δ
noncomputable def C5 (g1 g2:Dn->Out):Dn->Out:=fun δ=>match g1 δ with
 | .nx δ'=>g2 δ'
 | o=>o
theorem E8:DSs X E [] F4:=fun G0 H0=>PSs.imp cJ fun D σ H hZ3=>by obtain ⟨G,δ,S,a⟩:=hZ3; exact a σ G H S
theorem B1 (h1:DS X E st g1) (h2:DSs X E sts g2):DSs X E (st::sts) (C5 g1 g2):=fun G0 H0=>by
 refine PSs.imp (Xs (h1 G0 H0) (h2 G0 H0)) fun D σ H hY59=>?_
 obtain ⟨G,δ,S,a⟩:=hY59
 refine ⟨G,δ,S,?_⟩
 unfold C5 at a
 cases e:g1 δ with
 | nx δ'=>rw [e] at a; exact fun σ' G' H' S'=>⟨G',δ',S',a⟩
 | rt d=>rw [e] at a; exact a
 | bk d=>rw [e] at a; exact a
 | ct d=>rw [e] at a; exact a
 | exc d=>rw [e] at a; exact a
 | no=>rw [e] at a; exact a
theorem B6 (h1:DS X E st g1):DSs X E [st] g1:=fun G0 H0=>Vc (h1 G0 H0)
noncomputable def sFz (i:Nat) (g:Dn->Out):Dn->Out:=fun δ=>g (fz i δ)
theorem s_fz (i:Nat) (h:DS X E st g1):DS X E st (sFz i g1):=fun G0 H0=>PS.imp (h G0 H0) fun D σ H hZ3=>by
 obtain ⟨G,δ,S,a⟩:=hZ3
 obtain ⟨G',S'⟩:=S.fz i
 exact ⟨G',_,S',a⟩
noncomputable def E5 (f:Dn->Res PyData):Dn->Out:=fun δ=>V2 (f δ) .rt
theorem C6 (h:DE X E e f):DS X E (.Return (some e) pos) (E5 f):=fun G0 H0=>PS.imp (aM h) fun D σ H ⟨G,δ,S,a⟩ =>
 Wl S a fun d v G1 H1 g1 r1 S1 a1=>a1 v G1 H1 S1.gr r1
noncomputable def sIf (c:Dn->Res Bool) (g1 g2:Dn->Out):Dn->Out:=fun δ=>V2 (c δ) fun b=>if b=true then g1 δ else g2 δ
theorem O1 (hc:DT X E c tt) (h1:DSs X E sts g1) (h2:DSs X E sts' g2):DS X E (.If c sts sts' pos) (sIf tt g1 g2):=fun G0 H0=>PS.imp (rA hc (h1 G0 H0) (h2 G0 H0)) fun D σ H ⟨G,δ,S,a⟩ =>
 wD S a fun d G1 H1 g1 S1 a1=>by
   cases d with
   | true=>rw [if_pos rfl]; exact ⟨G1,δ,S1,a1⟩
   | false=>rw [if_neg (by decide)]; exact ⟨G1,δ,S1,a1⟩
noncomputable def okSet (N:List Str) (sc:Scope) (df:Bool) (i:Nat) (x:Str):Bool:=decide (N.Nodup)&&decide (N[i]? = some x)&&(decide (sc.names.lookup x=some .local)||(decide (sc.names.lookup x=some .cell)&&df))
theorem okSet.ok (C:Cxt P w K mg base X N sc k df) {i:Nat} {x:Str} (h:okSet N sc df i x=true):X.N.Nodup/\X.N[i]? = some x/\Loc X.env.scope x/\(X.fn x=true\/X.env.scope.names.lookup x=some .local):=by
 unfold okSet at h
 simp only [Bool.and_eq_true,Bool.or_eq_true,decide_eq_true_eq] at h
 obtain ⟨⟨h1,h2⟩,h3⟩:=h
 rw [C.hN]
 refine ⟨h1,h2,?_⟩
 unfold L2.Loc
 rw [C.hs]
 rcases h3 with h3 | ⟨h3,h4⟩
 . exact ⟨.inl h3,.inr h3⟩
 . exact ⟨.inr h3,.inl (C.fn h4 x)⟩
noncomputable def M1 (i:Nat) (f:Dn->Res PyData):Dn->Out:=fun δ=>V2 (f δ) fun d=>.nx (δ.set i (.sh d))
theorem K7 {x:Str} (C:Cxt P w K mg base X N sc k df) (i:Nat) (ho:okSet N sc df i x=true) (h:DE X E e f) (hs:swapsWith e (some (.Name x p)) pos.line X.env=pure false:=by rfl):DS X E (.Assign [.Name x p] e pos) (M1 i f):=fun G0 H0=>by
 obtain ⟨h1,h2,h3,h4⟩:=okSet.ok C ho
 exact PS.imp (aL h1 h2 h3 h hs h4) fun D σ H hZ3=>by obtain ⟨G,δ,S,a⟩:=hZ3; exact Wl S a fun d v G1 H1 g1 r1 S1 a1=>a1 _ G1 H1 (S1.set_sh r1)
theorem Py {G0 H0 G H:Hp} {σ:St} {δ:Dn} (S:SSt G0 H0 G H σ δ) {p:Addr} (hp:H p=none) (j:Nat) (d':PyData) (e:δ[j]? = some (.ow d')):σ[j]?.join≠some (.ref p):=fun z=>by
 obtain ⟨a,e1,_,ok⟩:=S.sr.sl j _ e
 rw [e1] at z; cases z
 obtain ⟨o,q⟩:=ok.some
 rw [hp] at q; cases q
noncomputable def iR (i:Nat) (f:Dn->Res (List PyData)):Dn->Out:=fun δ=>V2 (f δ) fun ds=>.nx (δ.set i (.ow (.list ds)))
theorem nS {G0 H0:Hp} {D:Ends} {σ:St} {H:Hp} {i:Nat} (h:tS E G0 H0 (iR i fs) D σ H):tF E fs σ H fun v H1=>D.nx (σ.set i (some v)) H1:=by
 obtain ⟨G,δ,S,a⟩:=h
 refine lT S a fun ds p xs G1 H1 g1 q1 q2 q3 q4 S1 a1=>?_
 exact a1 _ G1 H1 (S1.set_ow (S.gr.h.free q1) q2 ⟨xs,q3,q4⟩ (Py S q1))
theorem s_own {x:Str} (C:Cxt P w K mg base X N sc k df) (i:Nat) (ho:okSet N sc df i x=true) (h:DF X E e fs) (hs:swapsWith e (some (.Name x p)) pos.line X.env=pure false:=by rfl):DS X E (.Assign [.Name x p] e pos) (iR i fs):=fun G0 H0=>by
 obtain ⟨h1,h2,h3,h4⟩:=okSet.ok C ho
 exact PS.imp (aL h1 h2 h3 h hs h4) fun D σ H q=>nS q
noncomputable def Vg (sc scope:Scope) (x:Str) (l1 l2:Nat):Bool:=decide (sc.kind=.function)&&decide (sc.names.lookup x=some .local)&&decide (l1=l2) && !(scope.names.any fun (n,kd)=>n==x&&(kd==.local||kd==.cell))
theorem dU {x:Str} {elt:Expr} {gens:List Comprehension} {ln:Nat} (C:Cxt P w K mg base X N sc k df) (h:Vg sc scope x p.line pos.line=true):swapsWith (.ListComp elt gens scope pos) (some (.Name x p)) ln X.env=pure true:=by
 unfold Vg at h
 simp only [Bool.and_eq_true,decide_eq_true_eq] at h
 obtain ⟨⟨⟨h1,h2⟩,h3⟩,h4⟩:=h
 unfold swapsWith
 show pure (X.env.blockKind==.function&&X.env.kindOf x==some .local&&p.line==pos.line && !(scope.names.any fun (n,kd)=>n==x&&(kd==.local||kd==.cell)))=_
 have e1:X.env.blockKind=.function:=by unfold Env.blockKind; rw [C.hs,h1]; rfl
 have e2:X.env.kindOf x=some .local:=by show X.env.scope.names.lookup x=_; rw [C.hs]; exact h2
 rw [e1,e2,h3,h4]
 simp
noncomputable def jV (sc scope:Scope) (x:Str) (l1 l2:Nat):Bool:=decide (sc.names.lookup x≠some .local)||decide (l1≠l2)||(scope.names.any fun (n,kd)=>n==x&&(kd==.local||kd==.cell))
theorem Zn {x:Str} {elt:Expr} {gens:List Comprehension} {ln:Nat} (C:Cxt P w K mg base X N sc k df) (h:jV sc scope x p.line pos.line=true):swapsWith (.ListComp elt gens scope pos) (some (.Name x p)) ln X.env=pure false:=by
 unfold jV at h
 unfold swapsWith
 show pure (X.env.blockKind==.function&&X.env.kindOf x==some .local&&p.line==pos.line && !(scope.names.any fun (n,kd)=>n==x&&(kd==.local||kd==.cell)))=_
 have e2:X.env.kindOf x=sc.names.lookup x:=by show X.env.scope.names.lookup x=_; rw [C.hs]
 rw [e2]
 rw [Bool.or_eq_true,Bool.or_eq_true,decide_eq_true_eq,decide_eq_true_eq] at h
 congr 1
 rcases h with (h | h) | h
 . have:(sc.names.lookup x==some NameKind.local)=false:=by simpa using h
   rw [this]; simp
 . have:(p.line==pos.line)=false:=by simpa using h
   rw [this]; simp
 . rw [h]; simp
noncomputable section
variable {i:Nat}
noncomputable def iS (i:Nat) (f:Dn->Res (List PyData)):Dn->Out:=fun δ=>V2 (f δ) fun ds=>.nx (δ.set i (.sh (.list ds)))
theorem oG {G0 H0:Hp} {D:Ends} {σ:St} {H:Hp} {i:Nat} (h:tS E G0 H0 (iS i fs) D σ H):tF E fs σ H fun v H1=>D.nx (σ.set i (some v)) H1:=by
 obtain ⟨G,δ,S,a⟩:=h
 refine lT S a fun ds p xs G1 H1 g1 q1 q2 q3 q4 S1 a1=>?_
 exact a1 _ _ H1 ((S.grow (g1.share q1 q2 q3)).set_sh ⟨p,xs,rfl,.inl G8,q4.mono (Same.upd q2)⟩)
end
end
end Sm
end
noncomputable section
set_option backward.match.sparseCases false
namespace Sm
open PySem PySem.Spec PyProof.Rows L2
noncomputable section
variable {P:Program} {w:World} {K:PySem.W.Frag} {mg:Str->Option Value} {base:Heap} {X:Cx} {N:List Str} {sc:Scope} {k:Nat} {df:Bool} {E:EK} {pos p px py tp spos:Pos} {tg a b c e elt iter:Expr} {ifs:List Expr} {es:List Expr} {f g el:Dn->Res PyData} {src:Dn->Res (List PyData)} {tt:Dn->Res Bool} {scope:Scope} {capN:List Str} {cap:List Nat} {st:Stmt} {sts:List Stmt} {g1:Dn->Out} {x y:Str} {i:Nat}
theorem aF {x1:Nat} {x2:Str} (C:Cxt P w K mg base X N sc k df) (i:Nat) (hset:okSet N sc df i y=true) (hsw:Vg sc scope y py.line pos.line=true) (cap:List Nat) (capN:List Str) (ho:okComp N sc scope [x,x2] capN cap=true) (hi:DI X E (.Tuple [.Name x px,.Name x2 p] x1 tp) iter src)
   (ht:∀ X',Cxt P w K mg base X' ([x,x2]++capN) (Mz scope sc) k false->DTs X' E0k ifs tt) (he:∀ X',Cxt P w K mg base X' ([x,x2]++capN) (Mz scope sc) k false->DE X' E0k elt el)
   (hs:∀ x,foldedSetIterable iter X.env x=pure x:=by intro _; rfl):DS X E (.Assign [.Name y py] (.ListComp elt [⟨.Tuple [.Name x px,.Name x2 p] x1 tp,iter,ifs,0⟩] scope pos) spos) (iS i (G7 src Mi cap tt el)):=fun G0 H0=>by
 obtain ⟨h1,h2,h3,h4⟩:=okSet.ok C hset
 have o:=okComp.ok ho
 have hl:X.env.scope.names.lookup y=some .local:=by
   rw [C.hs]; unfold Vg at hsw; simp only [Bool.and_eq_true,decide_eq_true_eq] at hsw; exact hsw.1.1.2
 refine PS.imp (aK (g:=vE K 2 (Yl (Ek 0) (Yl (Ek 1) vF))) C.calm (Qj C o) hi (fun X' B=>?_) (fun X' B=>ht X' (C.blk B)) (fun X' B=>he X' (C.blk B)) h1 h2 hl (dU C hsw) hs) fun D σ H h=>cD (m:=2) rfl o.h10 gok2 (oG h)
 have C':=C.blk B
 have hl:X'.env.scope.names.lookup x=some .local:=by rw [C'.hs]; exact o.h9 x (by simp)
 have hl2:X'.env.scope.names.lookup x2=some .local:=by rw [C'.hs]; exact o.h9 x2 (by simp)
 have nd:X'.N.Nodup:=by rw [C'.hN]; exact o.h8
 have p1:PG X' (.Name x px) (Ek 0):=Fx nd (by rw [C'.hN]; rfl) (.inl hl) (.inr hl)
 have p2:PG X' (.Name x2 p) (Ek 1):=Fx nd (by rw [C'.hN]; rfl) (.inl hl2) (.inr hl2)
 have:=jF (n:=2) (k:=x1) (pos:=tp) C'.calm (Jn p1 (Jn p2 cK))
 rw [C'.hK] at this
 exact this
noncomputable def Pn (i j:Nat) (f:Dn->Res PyData):Dn->Out:=fun δ=>V2 (f δ) fun d=>match d with
 | .tuple [a,b]=>.nx ((δ.set i (.sh a)).set j (.sh b))
 | _=>.no
theorem iQ {x1:Nat} (C:Cxt P w K mg base X N sc k df) (i j:Nat) (hi:okSet N sc df i x=true) (hj:okSet N sc df j y=true) (h:DE X E e f)
   (hs:swapsWithSole [.Tuple [.Name x px,.Name y py] x1 tp] e pos.line X.env=pure false:=by rfl) (hw:swappedStores [.Tuple [.Name x px,.Name y py] x1 tp] e X.env=pure none:=by rfl)
   (h1:(assignEach [.Tuple [.Name x px,.Name y py] x1 tp] X.env).map (·.2)=[assign (.Tuple [.Name x px,.Name y py] x1 tp) X.env]:=by rfl) :
   DS X E (.Assign [.Tuple [.Name x px,.Name y py] x1 tp] e pos) (Pn i j f):=fun G0 H0=>by
 obtain ⟨h1',h2,h3,h4⟩:=okSet.ok C hi
 obtain ⟨_,q2,q3,q4⟩:=okSet.ok C hj
 have pg:=jF (n:=2) (k:=x1) (pos:=tp) C.calm (Jn (Fx (pos:=px) h1' h2 h3 h4) (Jn (Fx (pos:=py) h1' q2 q3 q4) cK))
 refine PS.imp (tP h pg hs hw h1) fun D σ H hY60=>?_
 obtain ⟨G,δ,S,a⟩:=hY60
 refine Wl S a fun d v G1 H1 g1 r1 S1 a1=>?_
 cases d with
 | tuple ds =>
   match ds,a1 with
   | [a,b],a1 =>
     obtain ⟨p,xs,rfl,e1,l1⟩:=r1; obtain ⟨v,v',rfl,r1,r2⟩:=aJ l1; refine ⟨p,_,rfl,.inl (.inl (S1.sr.sub _ _ e1)),rfl,v,[v'],rfl,v',[],rfl,rfl,?_⟩; exact a1 _ G1 H1 ((S1.set_sh r1).set_sh r2)
 | _=>exact (show False from a1).elim
noncomputable def iT (i:Nat) (f:Dn->Res PyData):Dn->Out:=fun δ=>match δ[i]? with
 | some (.ow (.list ds))=>V2 (f δ) fun d=>if ds.length < sizeLine then .nx (δ.set i (.ow (.list (ds++[d])))) else .no
 | _=>.no
theorem s_app {cpos apos:Pos} (C:Cxt P w K mg base X N sc k df) (i:Nat) (h:okVar N sc i x=true) (ha:DE X E a f)
   (hbase:attributeBase (.Name x p) "append" X.env (eval (.Name x p) X.env)=eval (.Name x p) X.env:=by rfl)
   (hfew:((backTo cpos (starEach [a] X.env)).all (fun x => !x.1)&&(backToKw cpos (keywordEach [] X.env)).all (fun x=>x.1.isSome)
     && decide ([a].length+([]:List Keyword).length+(if ([]:List Keyword).isEmpty then 0 else 1) < 30))=true:=by rfl)
   (hline:(apos.endLine==cpos.line)=true:=by rfl) (hs:starEach [a] X.env=(false,eval a X.env)::starEach [] X.env:=by rfl) (hplain:(backTo cpos (starEach [] X.env)).any (·.1)=false:=by rfl)
   (hsw:swapsWith (.Call (.Attribute (.Name x p) "append" apos) [a] [] cpos) none pos.line X.env=pure false:=by rfl) :
   DS X E (.Expr (.Call (.Attribute (.Name x p) "append" apos) [a] [] cpos) pos) (iT i f):=fun G0 H0=>by
 have hv:PE X (.Name x p) (sM i):=by
   unfold okVar at h; simp only [Bool.and_eq_true,Bool.not_eq_true'] at h; obtain ⟨⟨⟨h1,h2⟩,h3⟩,h4⟩:=h; refine aP (by rw [C.hN]; exact eq_of_beq h1) ?_ h3 h4
   rw [C.hs]; unfold Vis
   cases q:sc.names.lookup x with
   | none=>rw [q] at h2; cases h2
   | some z =>
     rw [q] at h2
     cases z with
     | «local» => exact .inl rfl
     | cell=>exact .inr (.inl rfl)
     | free=>exact .inr (.inr rfl)
     | _=>cases h2
 refine PS.imp (nG (rC PySem.F.plainAttrs_list PySem.F.slot_list_append PySem.F.type_list_append Tc hv (Bu ha Le hs) hbase hfew hline hs hplain) hsw) fun D σ H hZ3=>?_
 obtain ⟨G,δ,S,aft⟩:=hZ3
 unfold iT at aft
 split at aft
 . rename_i ds hi
   obtain ⟨q,hq,hg,xs,hx,rl⟩:=S.sr.sl i _ hi; have hσ:σ[i]? = some (some (.ref q)):=by
     cases z:σ[i]? with
     | none=>rw [z] at hq; cases hq
     | some z'=>rw [z] at hq; cases z' with
       | none=>cases hq
       | some z''=>cases hq; rfl
   refine ⟨.ref q,hσ,.inl ⟨rfl,xs,.inl (.inl hx)⟩,?_⟩; refine Wl S aft fun d v G1 H1 g1 r1 S1 a1=>?_
   split at a1
   . rename_i hz
     have hx1:H1 q=some (.lst xs):=g1.h _ _ hx; obtain ⟨q',hq',hg',_⟩:=S1.sr.sl i _ hi; rw [hq] at hq'; cases hq'; refine ⟨q,xs,v,rfl,rfl,hx1,by rw [<- rl.length]; exact hz,?_⟩
     exact a1 σ G1 _ (S1.write hi hq hg' ⟨xs++[v],G8,(rl.mono g1.g).append (RepL.cons r1 rfl)⟩)
   . exact a1.elim
 . exact aft.elim
noncomputable def P7 (st:PyData->Dn->Option Dn) (body:Dn->Out):List PyData->Dn->Out
 | [],δ=>.nx δ
 | d::ds,δ=>match st d δ with
   | some δ1=>match body δ1 with
     | .nx δ'=>P7 st body ds δ'
     | .ct δ'=>P7 st body ds δ'
     | .bk δ'=>.nx δ'
     | o=>o
   | none=>.no
noncomputable def Es (src:Dn->Res (List PyData)) (st:PyData->Dn->Option Dn) (body:Dn->Out):Dn->Out:=fun δ=>V2 (src δ) fun ds=>P7 st body ds δ
noncomputable def st1 (i:Nat):PyData->Dn->Option Dn:=fun d δ=>some (δ.set i (.sh d))
noncomputable def st2 (i j:Nat):PyData->Dn->Option Dn:=fun d δ=>match d with
 | .tuple [a,b]=>some ((δ.set i (.sh a)).set j (.sh b))
 | _=>none
def TgOk (K:PySem.W.Frag) (g:TG) (st:PyData->Dn->Option Dn):Prop:=∀ (G0 H0 G H:Hp) (σ:St) (δ δ1:Dn) (d:PyData) (x:V) (Q:St->Hp->Prop),SSt G0 H0 G H σ δ->Rep G d x->st d δ=some δ1->(∀ σ',SSt G0 H0 G H σ' δ1->Q σ' H)->g x σ H Q
theorem tg1 (i:Nat):TgOk K (Ek i) (st1 i):=fun G0 H0 G H σ δ δ1 d x Q S r e h=>by cases e; exact h _ (S.set_sh r)
theorem SSt.rebase {G0 H0 G1 H1 G H:Hp} {σ:St} {δ:Dn} (g:Grow G0 H0 G1 H1) (S:SSt G0 H0 G H σ δ) (h:Same G1 G):SSt G1 H0 G H σ δ :=
 ⟨⟨h,S.gr.h,S.gr.gh,fun b o e=>(S.gr.fr b o e).imp (fun z=>g.g _ _ z) id⟩,S.sr,S.fr⟩
theorem Grow.unbase {G0 H0 G1 H1 G H:Hp} (g:Grow G0 H0 G1 H1) (h:Grow G1 H0 G H):Grow G0 H0 G H :=
 ⟨g.g.trans h.g,h.h,h.gh,fun b o e=>(h.fr b o e).elim (fun z=>g.fr b o z) .inr⟩
theorem SSt.unbase {G0 H0 G1 H1 G H:Hp} {σ:St} {δ:Dn} (g:Grow G0 H0 G1 H1) (S:SSt G1 H0 G H σ δ):SSt G0 H0 G H σ δ:=⟨g.unbase S.gr,S.sr,S.fr⟩
theorem sV {gt:TG} {st:PyData->Dn->Option Dn} (C:Cxt P w K mg base X N sc k df) (hi:DI X E tg iter src) (hg:PG X tg gt) (ht:TgOk K gt st) (hb:DSs X E sts g1) (hs:∀ x,foldedSetIterable iter X.env x=pure x):DS X E (.For tg iter sts [] pos) (Es src st g1):=fun G0 H0=>by
 have hb':PSs X sts (fun D σ H=>∃ Gb,tS E Gb H0 g1 D σ H):=fun pins s σ H D I hZ6=>by obtain ⟨Gb,q⟩:=hZ6; exact hb Gb H0 pins s σ H D I q
 refine PS.imp (tN C.own C.calm hi hg hb' hs) fun D σ H hZ3=>?_
 obtain ⟨G,δ,S,aft⟩:=hZ3
 refine wE S aft fun ds J G1 H1 gr W S1 a1=>?_
 have g01:=S1.gr
 refine ⟨fun i n σ' H'=>n=ds.length - i/\i<=ds.length/\∃ G' δ',SSt G1 H0 G' H' σ' δ'/\Rg E G0 H0 (P7 st g1 (ds.drop i) δ') D,⟨_,rfl,Nat.zero_le _,G1,δ,S1.rebase g01 (Same.refl _),by rw [List.drop_zero]; exact a1⟩,?_⟩
 rintro i n σ' H' ⟨rfl,hi,G',δ',S',a'⟩
 by_cases hlt:i < ds.length
 . have hd:ds[i]? = some ds[i]:=List.getElem?_eq_getElem hlt
   have hdrop:ds.drop i=ds[i]::ds.drop (i+1):=List.drop_eq_getElem_cons hlt; rw [hdrop] at a'; unfold P7 at a'; refine .inr ⟨W.go i H' hlt (S'.gr.g.trans S'.sr.sub),fun σ2 H2=>∃ G' δ',SSt G1 H0 G' H2 σ2 δ'/\Rg E G0 H0 (P7 st g1 (ds.drop (i+1)) δ') D,fun σ2 H2 q=>⟨_,by omega,rfl,hlt,q⟩,fun x H'' hy=>?_⟩
   obtain ⟨G3,g3,r3⟩:=W.yld i _ G' H' x H'' hd S'.gr.g S'.sr.sub hy; have S3:=S'.grow g3
   cases es:st ds[i] δ' with
   | none=>rw [es] at a'; exact a'.elim
   | some δ1 =>
     rw [es] at a'; refine ht G1 H0 G3 H'' σ' δ' δ1 _ x _ S3 r3 es fun σ2 S4=>⟨G1,G3,δ1,S4,?_⟩
     simp only at a'
     cases eo:g1 δ1 with
     | nx δ2=>rw [eo] at a'; exact fun σ3 G4 H4 S5=>⟨G4,δ2,S5,a'⟩
     | ct δ2=>rw [eo] at a'; exact fun σ3 G4 H4 S5=>⟨G4,δ2,S5,a'⟩
     | bk δ2=>rw [eo] at a'; exact fun σ3 G4 H4 S5=>a' σ3 G4 H4 (S5.unbase g01)
     | rt d=>rw [eo] at a'; exact fun v G4 H4 g r=>a' v G4 H4 (g01.unbase g) r
     | exc c=>rw [eo] at a'; exact fun G4 H4 g=>a' G4 H4 (g01.unbase g)
     | no=>rw [eo] at a'; exact a'
 . refine .inl ⟨W.stop i H' (Nat.not_lt.mp hlt) (S'.gr.g.trans S'.sr.sub),?_⟩
   have:ds.drop i=[]:=List.drop_eq_nil_of_le (Nat.not_lt.mp hlt); rw [this] at a'; exact a' σ' G' H' (S'.unbase g01)
theorem Fe (C:Cxt P w K mg base X N sc k df) (i:Nat) (ho:okSet N sc df i x=true) (hi:DI X E (.Name x p) iter src) (hb:DSs X E sts g1) (hs:∀ x,foldedSetIterable iter X.env x=pure x:=by intro _; rfl):DS X E (.For (.Name x p) iter sts [] pos) (Es src (st1 i) g1):=by
 obtain ⟨h1,h2,h3,h4⟩:=okSet.ok C ho
 exact sV C hi (Fx h1 h2 h3 h4) (tg1 i) hb hs
noncomputable def Jr:List PyData->Option (List Key)
 | []=>some []
 | .int i::ds=>(Jr ds).map (.inl i::·)
 | .str x::ds=>(Jr ds).map (.inr x::·)
 | _::_=>none
noncomputable def Hw:PyData->Option (List Key)
 | .tuple ds=>Jr ds
 | _=>none
theorem Cs {G:Hp}:∀ {ds:List PyData} {xs:List V} {kk:List Key},RepL G ds xs->Jr ds=some kk->xs=kk.map kV/\ds=kk.map Dk
 | [],_,_,r,e=>by cases (show _=_ from r); cases e; exact ⟨rfl,rfl⟩
 | .int i::ds,_,_,r,e=>by
   obtain ⟨x,t,rfl,h,l⟩:=r
   cases (show _=_ from h)
   obtain ⟨k',e1,rfl⟩:=Option.map_eq_some_iff.mp e; obtain ⟨q1,q2⟩:=Cs l e1; exact ⟨by rw [q1]; rfl,by rw [q2]; rfl⟩
 | .str z::ds,_,_,r,e=>by
   obtain ⟨x,t,rfl,h,l⟩:=r
   cases h.1
   obtain ⟨k',e1,rfl⟩:=Option.map_eq_some_iff.mp e; obtain ⟨q1,q2⟩:=Cs l e1; exact ⟨by rw [q1]; rfl,by rw [q2]; rfl⟩
 | .none::_,_,_,_,e=>by cases e
 | .bool _::_,_,_,_,e=>by cases e
 | .list _::_,_,_,_,e=>by cases e
 | .tuple _::_,_,_,_,e=>by cases e
 | .dict _::_,_,_,_,e=>by cases e
noncomputable def O7 (kvs:List (PyData×PyData)) (kk:List Key):Option PyData:=(kvs.find? fun q=>match Hw q.1 with | some k'=>decide (k'=kk) | none=>false).map (·.2)
noncomputable def Eg (kvs:List (PyData×PyData)) (kk:List Key) (v:PyData):List (PyData×PyData) :=
 if (O7 kvs kk).isSome then kvs.map fun q=>if Hw q.1=some kk then (q.1,v) else q else kvs++[(.tuple (kk.map Dk),v)]
theorem fD (kk:List Key):Jr (kk.map Dk)=some kk:=by
 induction kk with
 | nil=>rfl
 | cons a r ih=>cases a <;> (show (Jr (r.map Dk)).map _=_; rw [ih]; rfl)
theorem Jq (kk:List Key):Hw (.tuple (kk.map Dk))=some kk:=fD kk
theorem Nw {G:Hp} {kk:List Key}:∀ {kvs:List (PyData×PyData)} {kv:List (List Key×V)},kvs.map (·.1)=kv.map (fun q=>PyData.tuple (q.1.map Dk))->RepL G (kvs.map (·.2)) (kv.map (·.2)) ->
   (O7 kvs kk=none/\Gg kv kk=none)\/∃ d v,O7 kvs kk=some d/\Gg kv kk=some v/\Rep G d v
 | [],[],_,_=>.inl ⟨rfl,rfl⟩
 | [],_::_,h,_=>by cases h
 | _::_,[],h,_=>by cases h
 | (a,d)::kvs,(k0,v0)::kv,h,r=>by
   simp only [List.map_cons,List.cons.injEq] at h; obtain ⟨h1,h2⟩:=h; obtain ⟨x,t,e,rd,rl⟩:=r; simp only [List.map_cons,List.cons.injEq] at e; obtain ⟨e1,e2⟩:=e; subst e1 e2; have h1':a=.tuple (k0.map Dk):=h1; subst h1'; unfold O7 Gg; rw [List.find?_cons,List.find?_cons]; simp only [Jq]
   by_cases hk:k0=kk
   . simp only [hk,decide_true]
     exact .inr ⟨d,v0,rfl,rfl,rd⟩
   . simp only [hk,decide_false]
     exact Nw h2 rl
theorem nB {G:Hp} {kk:List Key} {d:PyData} {v:V} (hd:Rep G d v) {kvs:List (PyData×PyData)} {kv:List (List Key×V)} (h:kvs.map (·.1)=kv.map (fun q=>PyData.tuple (q.1.map Dk))) (r:RepL G (kvs.map (·.2)) (kv.map (·.2))) :
   (Eg kvs kk d).map (·.1)=(Ht kv kk v).map (fun q=>PyData.tuple (q.1.map Dk))/\RepL G ((Eg kvs kk d).map (·.2)) ((Ht kv kk v).map (·.2)):=by
 have go : ∀ {kvs : List (PyData × PyData)} {kv : List (List Key × V)}, kvs.map (·.1) = kv.map (fun q => PyData.tuple (q.1.map Dk)) -> RepL G (kvs.map (·.2)) (kv.map (·.2)) ->
     (kvs.map fun q=>if Hw q.1=some kk then (q.1,d) else q).map (·.1)=(kv.map fun q=>if q.1=kk then (q.1,v) else q).map (fun q=>PyData.tuple (q.1.map Dk))/\RepL G ((kvs.map fun q=>if Hw q.1=some kk then (q.1,d) else q).map (·.2)) ((kv.map fun q=>if q.1=kk then (q.1,v) else q).map (·.2)):=by
   intro kvs
   induction kvs with
   | nil=>intro kv h r; cases kv with
     | nil=>exact ⟨rfl,rfl⟩
     | cons _ _=>cases h
   | cons p kvs ih =>
     intro kv h r
     cases kv with
     | nil=>cases h
     | cons q kv =>
       simp only [List.map_cons,List.cons.injEq] at h; obtain ⟨h1,h2⟩:=h; obtain ⟨x,t,e,rd,rl⟩:=r; simp only [List.map_cons,List.cons.injEq] at e; obtain ⟨e1,e2⟩:=e; subst e1 e2; obtain ⟨i1,i2⟩:=ih h2 rl; have hk:Hw p.1=some q.1:=by rw [h1]; exact Jq _
       simp only [List.map_cons]
       by_cases hq:q.1=kk
       . rw [if_pos (by rw [hk,hq]),if_pos hq]
         exact ⟨by rw [i1]; simp only [h1],RepL.cons hd i2⟩
       . rw [if_neg (by rw [hk]; intro z; exact hq (Option.some.inj z)),if_neg hq]
         exact ⟨by rw [i1]; simp only [h1],RepL.cons rd i2⟩
 rcases Nw (kk:=kk) h r with ⟨n1,n2⟩ | ⟨d0,v0,n1,n2,_⟩
 . unfold Eg
   rw [n1]; rw [iX _ n2]; simp only [Option.isSome_none,Bool.false_eq_true,if_false,List.map_append,List.map_cons,List.map_nil]; exact ⟨by rw [h],r.append (RepL.cons hd rfl)⟩
 . unfold Eg
   rw [n1]; simp only [Option.isSome_some,if_true]; have:Ht kv kk v=kv.map fun q=>if q.1=kk then (q.1,v) else q:=by
     unfold Ht; have hs:(kv.any fun q=>decide (q.1=kk))=true:=by rw [Oh,n2]; rfl
     first | rw [if_pos hs] | simp [hs]
   rw [this]; exact go h r
end
end Sm
end
noncomputable section
namespace Sm
open PySem PySem.Spec PyProof.Rows L2
noncomputable section
variable {P:Program} {w:World} {K:PySem.W.Frag} {mg:Str->Option Value} {base:Heap} {X:Cx} {N:List Str} {sc:Scope} {k:Nat} {df:Bool} {E:EK} {pos p:Pos} {a c e:Expr} {f g:Dn->Res PyData} {x:Str} {i:Nat}
theorem okVar.pe (C:Cxt P w K mg base X N sc k df) (h:okVar N sc i x=true):PE X (.Name x p) (sM i):=by
 unfold okVar at h
 simp only [Bool.and_eq_true,Bool.not_eq_true'] at h
 obtain ⟨⟨⟨h1,h2⟩,h3⟩,h4⟩:=h
 refine aP (by rw [C.hN]; exact eq_of_beq h1) ?_ h3 h4
 rw [C.hs]
 unfold Vis
 cases q:sc.names.lookup x with
 | none=>rw [q] at h2; cases h2
 | some z =>
   rw [q] at h2
   cases z with
   | «local» => exact .inl rfl
   | cell=>exact .inr (.inl rfl)
   | free=>exact .inr (.inr rfl)
   | _=>cases h2
theorem SR.own {G H:Hp} {σ:St} {δ:Dn} (S:SR G H σ δ) {d:PyData} (hi:δ[i]? = some (.ow d)):∃ q,σ[i]? = some (some (.ref q))/\G q=none/\OwnOk G H q d:=by
 obtain ⟨q,hq,hg,ok⟩:=S.sl i _ hi
 refine ⟨q,?_,hg,ok⟩
 cases z:σ[i]? with
 | none=>rw [z] at hq; cases hq
 | some z'=>rw [z] at hq; cases z' with
   | none=>cases hq
   | some z''=>cases hq; rfl
theorem Cxt.hu1 (C:Cxt P w K mg base X N sc k df):X.A.units+1 < cLine:=by have:=C.hu; lia
noncomputable def sPut (i:Nat) (fk fv:Dn->Res PyData):Dn->Out:=fun δ=>match δ[i]? with
 | some (.ow (.dict kvs))=>V2 (fv δ) fun v=>V2 (fk δ) fun kd=>match Hw kd with
   | some kk=>if kvs.length < sizeLine then .nx (δ.set i (.ow (.dict (Eg kvs kk v)))) else .no
   | none=>.no
 | _=>.no
noncomputable def sG (i:Nat) (f:Dn->Res PyData):Dn->Res PyData:=fun δ=>(f δ).bind fun kd=>match Hw kd,δ[i]? with
 | some kk,some (.ow (.dict kvs))=>.ok (.bool (O7 kvs kk).isSome)
 | _,_=>.no
noncomputable def gT (i:Nat) (f:Dn->Res PyData):Dn->Res PyData:=fun δ=>match δ[i]? with
 | some (.ow (.dict kvs))=>(f δ).bind fun kd=>match Hw kd with
   | some kk=>ofO (O7 kvs kk)
   | none=>.no
 | _=>.no
theorem d_inD (C:Cxt P w K mg base X N sc k df) (i:Nat) (h:okVar N sc i x=true) (hk:DE X E a f) (hm:behindInMarks .In (.Name x p)=false:=by with_unfolding_all rfl):DE X E (.Compare a [.In] [.Name x p] pos) (sG i f):=by
 refine PE.imp (aQ (uB C.hu1 hk (okVar.pe C h)) hm) fun σ H Q hZ3=>?_
 obtain ⟨G,δ,S,aft⟩:=hZ3
 refine M6 S aft fun kd v G1 H1 g1 r1 S1 a1=>?_
 cases kd with
 | tuple ds =>
   cases ek:Jr ds with
   | none=>simp only [Hw,ek] at a1; exact a1.elim
   | some kk =>
     simp only [Hw,ek] at a1
     split at a1
     . rename_i kk' kvs hkk hi
       cases hkk; obtain ⟨q,hσ,hg,kv,hx,hkeys,hvals⟩:=S1.own hi; obtain ⟨pk,xs,rfl,hpk,lk⟩:=r1; obtain ⟨e1,e2⟩:=Cs lk ek; subst e1; refine ⟨.ref q,hσ,q,_,rfl,DGet.t hx (S1.sub _ _ hpk),?_⟩; have:(Gg kv kk).isSome=(O7 kvs kk).isSome:=by
         rcases Nw (kk:=kk) hkeys hvals with ⟨n1,n2⟩ | ⟨d0,v0,n1,n2,_⟩ <;> rw [n1,n2] <;> rfl
       rw [this]; exact a1 _ G1 H1 (Grow.refl S1.sub) rfl
     . exact a1.elim
 | _=>exact (show False from a1).elim
theorem vT (C:Cxt P w K mg base X N sc k df) (i:Nat) (h:okVar N sc i x=true) (hk:DE X E a f) (hs:wH a:=by exact fun _ _=>rfl):DE X E (.Subscript (.Name x p) a pos) (gT i f):=by
 refine PE.imp (nL C.hu1 (okVar.pe C h) hk hs) fun σ H Q hZ3=>?_
 obtain ⟨G,δ,S,aft⟩:=hZ3
 unfold gT at aft
 split at aft
 . rename_i kvs hi
   obtain ⟨q,hσ,hg,kv,hx,hkeys,hvals⟩:=S.own hi; refine ⟨.ref q,hσ,?_⟩; refine M6 S aft fun kd v G1 H1 g1 r1 S1 a1=>?_
   cases kd with
   | tuple ds =>
     cases ek:Jr ds with
     | none=>simp only [Hw,ek] at a1; exact a1.elim
     | some kk =>
       simp only [Hw,ek] at a1; obtain ⟨pk,xs,rfl,hpk,lk⟩:=r1; obtain ⟨e1,e2⟩:=Cs lk ek; subst e1; rcases Nw (kk:=kk) hkeys hvals with ⟨n1,n2⟩ | ⟨d0,v0,n1,n2,rd⟩
       . rw [n1] at a1; exact a1.elim
       . rw [n1] at a1
         exact ⟨q,v0,rfl,by have:=DGet.t (k:=kk) (g1.h _ _ hx) (S1.sub _ _ hpk); rw [n2] at this; exact this,a1 _ G1 H1 (Grow.refl S1.sub) (rd.mono g1.g)⟩
   | _=>exact (show False from a1).elim
 . exact aft.elim
noncomputable def S9 (N:List Str) (ds:List PyData):Dn:=ds.map .sh++List.replicate (N.length - ds.length) .un
noncomputable def fnD (N:List Str) (g:Dn->Out):List PyData->Res PyData:=fun ds=>match g (S9 N ds) with
 | .rt d=>.ok d
 | .nx _=>.ok .none
 | .exc c=>.exc c
 | _=>.no
theorem Xj {G H:Hp} (hG:Same G H) {ds:List PyData} {vs:List V} (r:RepL G ds vs) (N:List Str):SSt G H G H (Ck N vs) (S9 N ds):=by
 have hl:=r.length
 have noow:∀ (i:Nat) (d:PyData),(S9 N ds)[i]? ≠ some (.ow d):=fun i d e=>by
   unfold S9 at e
   by_cases hi:i < ds.length
   . rw [List.getElem?_append_left (by simpa using hi),List.getElem?_map] at e
     cases q:ds[i]? with
     | none=>rw [q] at e; cases e
     | some z=>rw [q] at e; cases e
   . rw [List.getElem?_append_right (by simpa using Nat.not_lt.mp hi),List.getElem?_replicate] at e
     split at e <;> cases e
 refine ⟨Grow.refl hG,⟨hG,by unfold L2.Ck S9; simp [hl],fun i s e=>?_,fun i j a d d' e _ _ _=>absurd e (noow i d)⟩,fun i d a e _=>absurd e (noow i d)⟩
 unfold S9 at e
 by_cases hi:i < ds.length
 . rw [List.getElem?_append_left (by simpa using hi),List.getElem?_map] at e
   cases q:ds[i]? with
   | none=>rw [q] at e; cases e
   | some z =>
     rw [q] at e; cases e
     obtain ⟨v,e1,rv⟩:=r.get q; unfold L2.Ck; rw [List.getElem?_append_left (by rw [List.length_map,<- hl]; exact hi),List.getElem?_map,e1]
     exact ⟨v,rfl,rv⟩
 . rw [List.getElem?_append_right (by simpa using Nat.not_lt.mp hi),List.getElem?_replicate] at e
   split at e <;> cases e
   trivial
structure Def (K:PySem.W.Frag) (mg:Str->Option Value) (x:Str) (st:Stmt) (ps:List Str):Prop where
 ex:∃ f fd,L2.Fun K x x st f fd/\mg x=some (.ref f)/\Binds K fd ps []
theorem lC {x:Str} {st:Stmt} {ps:List Str} {n:Nat} {go:Dn->Out} {m:List PyData->Res PyData} {f:Addr} {fd:FuncData} (F:L2.Fun K x x st f fd) (S:FnScope N ps (A5 st)) (hn:ps.length=n)
   (body:∀ X,Cxt P w K mg base X N (A5 st) k true->DSs X E0k (B5 st) go) (hm:m=fnD N go):FnOk P w K mg base CX0 (k+1) f fd ps (spD n m):=by
 subst hm
 refine F.ok S (fun vs H Q E h=>?_) (fun cdv A outer s H vs Q E hr h=>?_)
 . obtain ⟨G,ds,d,_,r,hl,_⟩:=h
   rw [<- r.length,hl,hn]
 . obtain ⟨G,ds,d,hG,r,hl,em,q⟩:=h
   refine ⟨_,body _ ⟨rfl,rfl,rfl,rfl,rfl,rfl,rfl,rfl,hr,fun _ _=>rfl,PassesOwn.never⟩ G H,G,_,Xj hG r N,?_⟩
   unfold fnD at em
   cases eg:go (S9 N ds) with
   | rt d'=>rw [eg] at em; cases em; exact fun v G' H' g r'=>q v G' H' g r'
   | nx δ=>rw [eg] at em; cases em; exact fun σ G' H' S'=>q _ G' H' S'.gr rfl
   | bk _=>rw [eg] at em; cases em
   | ct _=>rw [eg] at em; cases em
   | exc _=>rw [eg] at em; cases em
   | no=>rw [eg] at em; cases em
theorem R1 {x:Str} {st:Stmt} {ps:List Str} {n:Nat} {go:Dn->Out} {m:List PyData->Res PyData} (F:Def K mg x st ps) (S:FnScope N ps (A5 st)) (hn:ps.length=n)
   (body:∀ X,Cxt P w K mg base X N (A5 st) k true->DSs X E0k (B5 st) go) (hm:m=fnD N go):Fn P w K mg base x (k+1) n m:=by
 obtain ⟨f,fd,F,hmg,hb⟩:=F.ex
 exact ⟨f,fd,ps,hn,lC F S hn body hm,hmg,F.kp,hb⟩
theorem rQ {x:Str} {st:Stmt} {ps:List Str} {n:Nat} (F:Def K mg x st ps) (hn:ps.length=n):Fn P w K mg base x k n (fun _=>.no):=by
 obtain ⟨f,fd,F,hmg,hb⟩:=F.ex
 refine ⟨f,fd,ps,hn,⟨fun vs H Q E h=>?_,fun A outer s H args us vs Q E _ _ _ _ h=>?_⟩,hmg,F.kp,hb⟩
 . obtain ⟨G,ds,d,_,_,_,e,_⟩:=h; cases e
 . obtain ⟨G,ds,d,_,_,_,e,_⟩:=h; cases e
end
end Sm
end
noncomputable section
namespace Sm
open PySem PySem.Spec PyProof.Rows L2
end Sm
end
noncomputable section
namespace Sm
open PySem PySem.Spec PyProof.Rows L2
end Sm
end
noncomputable section
namespace Sm
open PySem PySem.Spec PyProof.Rows L2
noncomputable section
variable {w:World} {X:Cx} {E:EK} {b c e:Expr} {es:List Expr}
theorem fT {pins:List (Addr×Obj)} {σ:St} {H:Hp} {s:Shared} {A:Around} {E:Value->Shared->Prop} {d b:Addr} {kvs:List (List Key×V)} {kk:List Key} {v:V} {r:Value} {Q:Unit->Shared->Prop} (hu:A.units < cLine) (I:Inv X pins σ H s) (e:H d=some (.dT kvs)) (eb:H b=some (.tup (kk.map kV))) (l:kvs.length < sizeLine) (rv:RelV v r)
   (h:∀ s',Inv X pins σ (upd H d (.dT (Ht kvs kk v))) s'->Heap.SameBut d s.heap s'.heap->Q () s'):wpAny (model X.prog X.w) A (dictSet d (.ref b) r) Q E s:=by
 obtain ⟨z,hd,xs,rel,dd⟩:=dt_of I.hok e
 have hz:xs.length<=sizeLine:=by rw [<- Paired.length rel]; exact z
 have hl:(Ht kvs kk v).length<=sizeLine:=by have:=Me kvs kk v; lia
 refine wpAny_dictSet_heap (hsz:=hz) hu (Vp I.hok eb) dd fun h' dd' hs=>h _ ?_ hs
 obtain ⟨q,es,ep,hq,h2,h3,h4,_,h5⟩:=dd'
 refine pT I (by rw [e]; exact True.intro) hs ⟨q,hq⟩ ⟨hl,hd,_,(rel.put kk eb rv).keeps fun c ys ec=>?_,q,es,ep,hq,h2,h3,h4,h5⟩
 rw [E4 (cQ ec e (fun z=>nomatch z))]
 exact ec
end
end Sm
end
noncomputable section
namespace Sm
open PySem PySem.Spec PyProof.Rows L2
end Sm
end
noncomputable section
namespace Sm
open PySem PySem.Spec PyProof.Rows L2 PySem.Builtin.Str
end Sm
end
noncomputable section
namespace Sm
open PySem PySem.Spec PyProof.Rows L2
end Sm
end
noncomputable section
namespace Sm
open PySem PySem.Spec PyProof.Rows L2
end Sm
end
noncomputable section
namespace Sm
open PySem PySem.Spec PyProof.Rows L2
end Sm
end
noncomputable section
namespace Sm
open PySem PySem.Spec PyProof.Rows L2
open AutoSeq1 (wpAny_loadPart')
end Sm
end
noncomputable section
namespace Sm
open PySem PySem.Spec PyProof.Rows L2
end Sm
end
noncomputable section
namespace Sm
open PySem PySem.W PyProof.Rows
end Sm
end
noncomputable section
namespace Sm
open PySem PySem.Spec PyProof.Rows L2
end Sm
end
noncomputable section
set_option backward.match.sparseCases false
namespace Sm
open PySem PySem.Spec PyProof.Rows L2
noncomputable section
variable {i:Nat}
noncomputable def sPutK (i:Nat) (fk fv:Dn->Res PyData):Dn->Out:=fun δ=>match δ[i]? with
 | some (.ow (.tuple [.dict kvs]))=>V2 (fv δ) fun v=>V2 (fk δ) fun kd=>match Jr [kd] with
   | some kk=>if kvs.length < sizeLine then .nx (δ.set i (.ow (.tuple [.dict (Eg kvs kk v)]))) else .no
   | none=>.no
 | _=>.no
end
def tR (E:EK) (g:Dn->Res PyData):TS:=fun D σ H=>∃ G δ,SR G H σ δ/\Aft E G H (g δ) D.rt
def DR (X:Cx) (E:EK) (st:List Stmt) (g:Dn->Res PyData):Prop:=PSs X st (tR E g)
noncomputable def rIf (c:Dn->Res Bool) (g1 g2:Dn->Res PyData):Dn->Res PyData:=fun δ=>(c δ).bind fun b=>if b=true then g1 δ else g2 δ
def spL (m:List (PyData×PyData)->PyData->Res PyData):Sp:=fun vs H Q _=>∃ G a v kvs d r,Same G H/\vs=[.ref a,v]/\G a=none/\OwnOk G H a (.dict kvs)/\Rep G d v/\m kvs d=.ok r/\∀ v G' H',Grow G H G' H'->Rep G' r v->Q v H'
structure FnL (P:Program) (w:World) (K:PySem.W.Frag) (mg:Str->Option Value) (base:Heap) (x:Str) (k:Nat) (m:List (PyData×PyData)->PyData->Res PyData):Prop where
 ex:∃ f fd ps,ps.length=2/\FnOk P w K mg base CX0 k f fd ps (spL m)/\mg x=some (.ref f)/\PySem.W.keepIn K (.ref f)=true/\Binds K fd ps []
noncomputable def fnL (g:Dn->Res PyData):List (PyData×PyData)->PyData->Res PyData:=fun kvs d=>g [.ow (.dict kvs),.sh d]
noncomputable def Zh (i:Nat) (f:Dn->Res PyData) (m:List (PyData×PyData)->PyData->Res PyData):Dn->Res PyData:=fun δ=>match δ[i]? with
 | some (.ow (.dict kvs))=>(f δ).bind fun d=>m kvs d
 | _=>.no
noncomputable section
variable {P:Program} {w:World} {K:PySem.W.Frag} {mg:Str->Option Value} {base:Heap} {X:Cx} {N:List Str} {sc:Scope} {k:Nat} {df:Bool} {E:EK} {pos p p1:Pos} {a b c e:Expr} {es:List Expr} {f:Dn->Res PyData} {x y:Str} {i:Nat} {sts T0:List Stmt} {tt:Dn->Res Bool} {g1 g2:Dn->Res PyData}
theorem qX (h:DE X E e f):DR X E [.Return (some e) pos] f:=PSs.imp (Vc (aM h)) fun D σ H hZ3=>by obtain ⟨G,δ,S,a⟩:=hZ3; exact ⟨G,δ,S,a⟩
theorem r_if (hc:DT X E c tt) (h1:DR X E sts g1) (h2:DR X E T0 g2):DR X E (.If c sts [] pos::T0) (rIf tt g1 g2):=by
 refine PSs.imp (Xs (rA hc h1 cJ) h2) fun D σ H hZ3=>?_
 obtain ⟨G,δ,S,a⟩:=hZ3
 refine ⟨G,δ,S,?_⟩
 unfold rIf at a
 cases q:tt δ with
 | ok d =>
   rw [q] at a; intro G1 H1 g1
   cases d with
   | true=>exact ⟨G1,δ,S.grow g1,Aft.grow g1 a⟩
   | false=>exact ⟨G1,δ,S.grow g1,Aft.grow g1 a⟩
 | exc c=>rw [q] at a; exact a
 | no=>rw [q] at a; exact a
theorem fn_L {x:Str} {st:Stmt} {ps:List Str} {go:Dn->Res PyData} {m:List (PyData×PyData)->PyData->Res PyData} (F:Def K mg x st ps) (S:FnScope N ps (A5 st)) (hn:ps.length=2) (hN:N.length=2)
   (body:∀ X,Cxt P w K mg base X N (A5 st) k true->DR X E0k (B5 st) go) (hm:m=fnL go):FnL P w K mg base x (k+1) m:=by
 obtain ⟨f,fd,F,hmg,hb⟩:=F.ex
 refine ⟨f,fd,ps,hn,?_,hmg,F.kp,hb⟩
 subst hm
 refine F.ok S (fun vs H Q E h=>?_) (fun cdv A outer s H vs Q E hr h=>?_)
 . obtain ⟨G,a,v,kvs,d,r,_,e,_⟩:=h
   rw [e,hn]; rfl
 . obtain ⟨G,a,v,kvs,d,r,hG,e,hg,ho,rd,em,q⟩:=h
   refine ⟨_,body _ ⟨rfl,rfl,rfl,rfl,rfl,rfl,rfl,rfl,hr,fun _ _=>rfl,PassesOwn.never⟩,G,[.ow (.dict kvs),.sh d],?_,?_⟩
   . have es : Ck N vs = [some (.ref a), some v] := by
       rw [e]; unfold L2.Ck; simp [hN]
     rw [es]; refine ⟨hG,rfl,fun i s hs=>?_,fun i j b d1 d2 h1 h2 _ _=>?_⟩
     . match i,hs with
       | 0,hs=>cases hs; exact ⟨a,rfl,hg,ho⟩
       | 1,hs=>cases hs; exact ⟨v,rfl,rd⟩
       | i+2,hs=>cases hs
     . match i,j,h1,h2 with
       | 0,0,_,_=>rfl
       | 1,_,h1,_=>cases h1
       | 0,1,_,h2=>cases h2
       | i+2,_,h1,_=>cases h1
       | 0,j+2,_,h2=>cases h2
   . unfold fnL at em
     rw [em]; exact q
theorem pU {j:Nat} {m:List (PyData×PyData)->PyData->Res PyData} (C:Cxt P w K mg base X N sc k df) (F:FnL P w K mg base y j m) (hj:j<=k) (h:okGl sc y=true) (i:Nat) (hv:okVar N sc i x=true) (ha:DE X E0k e f)
   (he:starEach [.Name x p1,e] X.env=(false,eval (.Name x p1) X.env)::starEach [e] X.env:=by rfl) (he2:starEach [e] X.env=(false,eval e X.env)::starEach [] X.env:=by rfl) (hpl:(backTo pos (starEach [e] X.env)).any (·.1)=false:=by rfl) :
   DE X E0k (.Call (.Name y p) [.Name x p1,e] [] pos) (Zh i f m):=by
 obtain ⟨fa,fd,ps,hps,F,hm,hk,hb⟩:=F.ex
 obtain ⟨h1,h2,h3⟩:=okGl.gl C h
 have F':FnOk X.prog X.w X.K X.mg X.base CX0 j fa fd ps (spL m):=by rw [C.hP,C.hw,C.hK,C.hmg,C.hb]; exact F
 refine PE.imp (Ve F' (C.room.mono hj) h1 (by rw [C.hmg]; exact hm) (by rw [C.hK]; exact hk) (by rw [C.hK]; exact hb) .nil (jL (X:=X)) (Bu (okVar.pe C hv) (Bu ha Le he2) he) h2 he hpl) fun σ H Q hY71=>?_
 obtain ⟨G,δ,S,aft⟩:=hY71
 unfold Zh at aft
 split at aft
 . rename_i kvs hi
   obtain ⟨q,hσ,hg,ho⟩:=S.own hi; refine ⟨.ref q,hσ,?_⟩; refine M6 S aft fun d v G1 H1 g1 r1 S1 a1=>?_
   obtain ⟨q',hσ',hg',ho'⟩:=S1.own hi; rw [hσ] at hσ'; cases hσ'
   cases em:m kvs d with
   | ok r=>rw [em] at a1; exact ⟨G1,q,v,kvs,d,r,S1.sub,rfl,hg',ho',r1,em,a1⟩
   | exc c=>rw [em] at a1; exact (a1 G1 H1 (Grow.refl S1.sub)).elim
   | no=>rw [em] at a1; exact a1.elim
 . exact aft.elim
end
end Sm
end
noncomputable section
namespace Sm
open PySem PySem.Spec
theorem Vm:typeLookup (.type "list") "keys" = pure none:=by
 rw [typeLookup_type,builtinLookup_eq_fast]; kernel_rfl
theorem Vn:typeLookup (.type "list") "__getattr__" = pure none:=by
 rw [typeLookup_type,builtinLookup_eq_fast]; kernel_rfl
noncomputable section
variable {prog:Program} {w:World} {A:Around} {E:Value->Shared->Prop} {h:Heap} {g:Array GenState} {d:Drawn} {t:Nat} {os:OsState} {a:Addr} {vs:Array Value} {n:Nat}
theorem fB {tk:Tok} {Q:Fin->Shared->Prop} (hA:A.handled=none) (hx:h.get? a=some { cls:=.type "list",data:=.seq vs n })
   (hq:∀ h' tk' e,Heap.NewAttrErr h h' e (.ref a) "keys" -> E (.ref e) ⟨h',g,d,tk',os⟩) :
   wpAny (model prog w) A (Builtin.«object.__getattribute__» ⟨[.ref a,.str "keys" tk],[]⟩) Q E ⟨h,g,d,t,os⟩:=by
 have hT:(⟨h,g,d,t,os⟩:Shared).TypeIs (.ref a) "list" := ⟨_,hx,rfl⟩
 have f4:=Vm
 unfold Builtin.«object.__getattribute__»
 repeat (any_goals (first | assumption | wp_step))
 exact wpAny_raiseAttrError hA hq (attrMsg_fits (by decide +kernel) (by decide))
theorem fA {Q:Option Value->Shared->Prop} (hA:A.handled=none) (hx:h.get? a=some { cls:=.type "list",data:=.seq vs n })
   (hq:∀ h' tk',(∀ b o,h.get? b=some o->h'.get? b=some o)->Q none ⟨h',g,d,tk',os⟩):wpAny (model prog w) A (getAttr? (.ref a) "keys") Q E ⟨h,g,d,t,os⟩:=by
 have hT:∀ s':Shared,s'.heap=h->s'.TypeIs (.ref a) "list" := fun s' e=>⟨_,by rw [e]; exact hx,rfl⟩
 have f1:=sub_AttributeError
 have f2:=F.slot_list_getattribute.lookup
 have f3:=F.slot_list_getattribute.bind (.ref a)
 have f5:=Vn
 unfold getAttr? getAttrBy? getAttrBy
 refine wpAny_bind (wpAny_mkText (wpAny_bind (wpAny_attempt ?_)))
 have hT1:=hT ⟨h,g,d,t+1,os⟩ rfl
 repeat (any_goals (first | assumption | wp_step))
 refine codeAny_call_builtin F.slot_list_getattribute.plain F.entry_list_ga
   (F.slot_list_getattribute.check _ _ _ _ _ _ _ _ hT1 (F.args_list_getattribute_2 _ _)
     (fB hA hx fun h' tk' e hx'=>?_))
 obtain ⟨t',u',he⟩:=hx'.there
 have kp:=hx'.keeps
 show wpAny _ _ (getattributeRaised _ _ _ _ _ _ _) _ _ _
 unfold getattributeRaised
 repeat (any_goals (first | assumption | wp_step))
 exact hq _ _ kp
end
end Sm
end
noncomputable section
set_option backward.match.sparseCases false
namespace Sm
open PySem PySem.Spec PyProof.Rows L2
theorem Em:entryFor table "dict.update.loop" = some Builtin.«dict.update.loop» := entryFor_of_tree (by kernel_rfl)
theorem Eh:plainId "dict.update.loop" = true:=by decide +kernel
noncomputable def Lf (acc prs:List (List Key×V)):List (List Key×V):=prs.foldl (fun acc kv=>Ht acc kv.1 kv.2) acc
def PairAt (H:Hp) (y:V) (kv:List Key×V):Prop:=∃ t b,y=.ref t/\H t=some (.tup [.ref b,kv.2])/\H b=some (.tup (kv.1.map kV))
theorem PairAt.mono {H H':Hp} {y:V} {kv:List Key×V} (h:PairAt H y kv) (k:∀ b xs,H b=some (.tup xs)->H' b=some (.tup xs)):PairAt H' y kv:=by
 obtain ⟨t,b,e,h1,h2⟩:=h
 exact ⟨t,b,e,k _ _ h1,k _ _ h2⟩
noncomputable section
variable {X:Cx} {pins:List (Addr×Obj)} {σ:St}
theorem fQ {A:Around} {a d it:Addr} (hh:A.handled=none) (hu:A.units+8 < cLine) {ys:List V} {R:Result->Shared->Prop}:∀ (n i:Nat) (s:Shared) (H:Hp) (acc:List (List Key×V)) (prs:List (List Key×V)),n=prs.length ->
   Inv X pins σ H s->H d=some (.dT acc)->Rd H a (.lst ys)->s.heap.IsListIter it a i->Qz X pins H it->Paired (PairAt H) (ys.drop i) prs->i+prs.length=ys.length->acc.length+prs.length < 10000->ys.length < 10000 ->
   (∀ s',Inv X pins σ (upd H d (.dT (Lf acc prs))) s'->R (.ok (.ret .none)) s') ->
   codeAny (model X.prog X.w) A (.builtin "dict.update.loop" ⟨[.ref d,.ref it,rawInt i,.none],[]⟩) R s:=by
 intro n
 induction n with
 | zero =>
   intro i s H acc prs hn I hd hl st fp hp hlen hacc hys hR; have:prs=[]:=List.length_eq_zero_iff.mp hn.symm; subst this; refine codeAny_builtin Em ?_; rw [Around.under_plainId Eh _]; obtain ⟨its,rv,p,hz⟩:=I.list (.inl hl); have hl':=rv.length; simp only [List.length_nil,Nat.add_zero] at hlen; show wpAny _ A.in1 (pyNext (.ref it)>>=_) _ _ s
   obtain ⟨f0,f1,f2,f3,f4,f5⟩:=fp; refine wpAny_bind (wpAny_pyNext_list_end hh st p.isList (by simp; lia) fun h' eb=>?_)
   have I1:Inv X pins σ H { s with heap:=h' }:=I.turned (t':=s.toks) (fun b o hb e=>eb b o hb e) f0 f1 f3 f4 f5
   have hsame:upd H d (.dT (Lf acc []))=H:=by
     funext b
     unfold upd
     split
     . rename_i e; rw [e,hd]; rfl
     . rfl
   rw [hsame] at hR; show wpAny _ A.in1 (Builtin.Dict.addKeywords d []>>=_) _ _ _
   exact wpAny_bind (wpAny_pure (wpAny_pure (hR _ I1)))
 | succ n ih =>
   intro i s H acc prs hn I hd hl st fp hp hlen hacc hys hR
   cases prs with
   | nil=>simp at hn
   | cons kv prs =>
     simp only [List.length_cons] at hn hlen hacc; have hi:i < ys.length:=by lia
     have hdrop:ys.drop i=ys[i]::ys.drop (i+1):=List.drop_eq_getElem_cons hi; rw [hdrop] at hp
     cases hp with
     | cons h0 hp =>
       obtain ⟨t,b,ey,ht,hb⟩:=h0; refine codeAny_builtin Em ?_; rw [Around.under_plainId Eh _]; obtain ⟨its,rv,p,hz⟩:=I.list (.inl hl); obtain ⟨u,hu',ru⟩:=rv.get (List.getElem?_eq_getElem hi); rw [ey] at ru
       cases (show u=Value.ref t from ru)
       obtain ⟨f0,f1,f2,f3,f4,f5⟩:=fp; show wpAny _ A.in1 (pyNext (.ref it)>>=_) _ _ s
       refine wpAny_bind (wpAny_pyNext_list_item st p.isList (x:=.ref t) (by simpa using hu') fun h' st' sb=>?_)
       have I1:Inv X pins σ H { s with heap:=h' }:=I.turned (t':=s.toks) (fun b o hb e=>(sb.2 b hb).trans e) f0 f1 f3 f4 f5
       obtain ⟨its2,rv2,p2,_⟩:=I1.tuple (.inl (.inl ht))
       cases rv2 with
       | @cons _ u1 _ _ r1 rr =>
         cases rr with
         | @cons _ u2 _ _ r2 rr2 =>
           cases rr2
           cases (show u1=Value.ref b from r1)
           obtain ⟨ot,hot,hotc,nt,hotd⟩:=p2; obtain ⟨c0,d0,da0,sl0⟩:=ot; simp only at hotc hotd; subst hotc hotd; refine wpAny_bind (wpAny_holding (wpAny_bind (wpAny_tryCatch ?_))); unfold Builtin.Dict.pairItems; have hT:({ s with heap:=h' }:Shared).TypeIs (.ref t) "tuple" := ⟨_,hot,rfl⟩
           generalize hDS:dictSet=DS
           repeat (any_goals (first | assumption | wp_step))
           subst hDS; refine fT (A:=A.in1) (by show A.units+1 < cLine; lia) I1 hd hb (Nat.lt_of_lt_of_le (show acc.length < 10000 by lia) (by decide)) r2 fun s3 I3 sb3=>?_
           have hne:it≠d:=fun z=>by rw [z,hd] at f0; cases f0
           have hne2:∀ c xs,H c=some (.tup xs)->upd H d (.dT (Ht acc kv.1 kv.2)) c=some (.tup xs):=fun c xs e=>by rw [E4 (cQ e hd (fun z=>nomatch z))]; exact e
           refine wpAny_pure ⟨Code.quiet_builtin _ (by decide +kernel),?_⟩
           refine ih (i+1) s3 _ (Ht acc kv.1 kv.2) prs (by lia) I3 G8 ?_ (st'.at fun o e=>(sb3.2 it hne).trans e) ⟨by rw [E4 hne]; exact f0,f1,f2,f3,f4,f5⟩ (Paired.mapP hp fun _ _ z=>z.mono hne2) (by lia) (by have:=Me acc kv.1 kv.2; lia) hys fun s' J=>?_
           . rcases hl with z | ⟨o,z⟩
             . exact .inl (by rw [E4 (cQ z hd (fun z=>nomatch z))]; exact z)
             . exact .inr ⟨o,by rw [E4 (cQ z hd (fun z=>nomatch z))]; exact z⟩
           . rw [bZ] at J
             exact hR s' J
noncomputable def tH:List V->Hp->VK->Prop:=fun vs H Q=>∃ a ys prs,vs=[.ref a]/\Rd H a (.lst ys)/\Paired (PairAt H) ys prs/\ys.length < 1000/\∀ p,H p=none->Q (.ref p) (upd H p (.dT (Lf [] prs)))
theorem bN (hh:X.A.handled=none) (hu:X.A.units+64 < cLine):T5 X (.type "dict") tH:=by
 rintro pins s σ H xs us Q I r ⟨a,ys,prs,e0,hl,hp,hn,q⟩
 subst e0
 cases r with
 | cons r0 rr =>
   cases rr; obtain ⟨rfl⟩:=(show _=Value.ref a from r0)
   refine callType_codes (Q₁:=fun obj s₁=>obj=.ref s.heap.objs.size/\s₁={ s with heap:=s.heap.push { cls:=.type "dict",data:=.dict #[] } }) F.kt_called_dict (F.kt_typeCall_dict_1 _) F.entry_dict_init (kt_code_dict_new _ ⟨rfl,rfl⟩) ?_
   rintro obj s₁ ⟨rfl,rfl⟩
   have hfr:=I.hok.fresh (Nat.le_refl s.heap.objs.size); have I1:=I.laid (a:=s.heap.objs.size) (o:=.dT []) (h':=s.heap.push { cls:=.type "dict",data:=.dict #[] }) (t':=s.toks) (fun _ _ q=>Heap.get?_push_of_some _ q) (Nat.le_refl _) (lI s.heap I.big)
   have hTd:({ s with heap:=s.heap.push { cls:=.type "dict",data:=.dict #[] } }:Shared).TypeIs (.ref s.heap.objs.size) "dict" := ⟨_,Heap.get?_push_size _ rfl,rfl⟩; refine ⟨hTd,F.args_dict_init_2 _ _,?_⟩; have hl1:Rd (upd H s.heap.objs.size (.dT [])) a (.lst ys):=by
     rcases hl with z | ⟨o,z⟩
     . exact .inl (by rw [E4 (M7 z hfr)]; exact z)
     . exact .inr ⟨o,by rw [E4 (M7 z hfr)]; exact z⟩
   obtain ⟨_,its,nn,rv,hobj⟩:=(show ObjOk X.prog X.w _ _ a (.lst ys) from hl1.ok I1.hok)
   unfold Builtin.«dict.__init__»
   refine wpAny_bind ?_; unfold Builtin.Dict.selfAndRest; refine wpAny_bind (wpAny_notOrdered_dict hTd ?_); show wpAny _ _ (pure (s.heap.objs.size,[Value.ref a])) _ _ _
   refine wpAny_pure ?_; show wpAny _ _ (Builtin.Dict.updateFrom "dict.__init__" s.heap.objs.size (.ref a) [] .none) _ _ _
   unfold Builtin.Dict.updateFrom; refine wpAny_bind (wpAny_typeOf (T := "list") ⟨_,hobj,rfl⟩ ?_); rw [if_pos (by decide)]; refine wpAny_bind (fA hh hobj fun h1 tk1 kp=>?_)
   rw [if_pos (by rfl)]; have I2:Inv X pins σ (upd H s.heap.objs.size (.dT [])) { s with heap:=h1,toks:=tk1 }:=I1.kept (t':=tk1) kp; refine wpAny_bind (wpAny_rule ?_); obtain ⟨its2,rv2,p2,_⟩:=I2.list (.inl hl1); refine wpAny_bind (wpAny_pyIter_list p2.isList ?_); have I3:Inv X pins σ (upd H s.heap.objs.size (.dT [])) { s with heap:=h1.push { cls:=.type "list_iterator",data:=.fields #[.ref a,.int 0 0] },toks:=tk1 }:=I2.kept (t':=tk1) fun b o e=>Heap.get?_push_of_some _ e
   have hpz:Paired (PairAt (upd H s.heap.objs.size (.dT []))) ys prs:=Paired.mapP hp fun _ _ z=>z.mono fun b xs e=>by rw [E4 (M7 e hfr)]; exact e
   have hle:prs.length=ys.length:=(Paired.length hp).symm; refine wpAny_pure ⟨Code.quiet_builtin _ (by decide +kernel),?_⟩
   refine fQ (A:=X.A.in1) hh (by show X.A.units+1+8 < cLine; lia) (ys:=ys) prs.length 0 _ _ [] prs rfl I3 G8 hl1 ⟨_,Heap.get?_push_size _ rfl,rfl,rfl⟩ (I2.fpOk (Nat.le_refl _) (I2.hok.fresh (Nat.le_refl _))) hpz (by lia) (by simp; lia) (by lia) fun s' J=>?_
   rw [bZ] at J; exact ⟨rfl,.ref s.heap.objs.size,_,J,rfl,q _ hfr⟩
end
noncomputable def Fy:List PyData->List (PyData×PyData)->Option (List (PyData×PyData))
 | [],kvs=>some kvs
 | .tuple [kd,v]::ds,kvs=>match Hw kd with
   | some kk=>Fy ds (Eg kvs kk v)
   | none=>none
 | _::_,_=>none
theorem eM {G:Hp}:∀ (ds:List PyData) (ys:List V) (kvs kvs':List (PyData×PyData)) (kv:List (List Key×V)),RepL G ds ys->Fy ds kvs=some kvs'->kvs.map (·.1)=kv.map (fun q=>PyData.tuple (q.1.map Dk))->RepL G (kvs.map (·.2)) (kv.map (·.2)) ->
   ∃ prs,Paired (PairAt G) ys prs/\kvs'.map (·.1)=(Lf kv prs).map (fun q=>PyData.tuple (q.1.map Dk))/\RepL G (kvs'.map (·.2)) ((Lf kv prs).map (·.2)):=by
 intro iN; induction iN with
 | nil =>
   intro ys kvs kvs' kv r e h1 h2
   cases (show _=_ from r)
   cases e; exact ⟨[],.nil,h1,h2⟩
 | cons d ds ih =>
   intro ys kvs kvs' kv r e h1 h2; obtain ⟨y,t,rfl,rd,rl⟩:=r; unfold Fy at e
   split at e
   . rename_i heq
     cases heq
   . rename_i kd v ds' heq
     cases heq
     split at e
     . rename_i kk ek
       obtain ⟨p,xs,rfl,hp,lp⟩:=rd; obtain ⟨v1,v2,rfl,r1,r2⟩:=aJ lp
       cases kd with
       | tuple ks =>
         obtain ⟨b,zs,rfl,hb,lz⟩:=r1; obtain ⟨e1,_⟩:=Cs lz ek; subst e1; obtain ⟨p1,p2⟩:=nB (kk:=kk) r2 h1 h2; obtain ⟨prs,q1,q2,q3⟩:=ih t _ kvs' _ rl e p1 p2; exact ⟨(kk,v2)::prs,.cons ⟨p,b,rfl,hp,hb⟩ q1,q2,q3⟩
       | _=>cases ek
     . cases e
   . cases e
end Sm
end
noncomputable section
set_option backward.match.sparseCases false
namespace Sm
open PySem PySem.Spec PyProof.Rows L2
abbrev Kvs:=List (PyData×PyData)
def lY (E:EK) (G H:Hp) (r:Res Kvs) (Q:VK):Prop:=match r with
 | .ok kvs=>∀ p G' H',Grow G H G' H'->H p=none->G' p=none->OwnOk G' H' p (.dict kvs)->Q (.ref p) H'
 | .exc c=>∀ G' H',Grow G H G' H'->E c H'
 | .no=>False
def tX (E:EK) (f:Dn->Res Kvs):TE:=fun σ H Q=>∃ G δ,SR G H σ δ/\lY E G H (f δ) Q
abbrev DX (X:Cx) (E:EK) (e:Expr) (f:Dn->Res Kvs):Prop:=PE X e (tX E f)
def DSW (X:Cx) (E:EK) (sts:List Stmt) (g:Dn->Res Kvs):Prop:=∀ G0 H0,PSs X sts (fun D σ H=>∃ G δ,SSt G0 H0 G H σ δ/\lY E G0 H0 (g δ) D.rt)
def spW (n:Nat) (m:List PyData->Res Kvs):Sp:=fun vs H Q _=>∃ G ds kvs,Same G H/\RepL G ds vs/\ds.length=n/\m ds=.ok kvs/\∀ p G' H',Grow G H G' H'->H p=none->G' p=none->OwnOk G' H' p (.dict kvs)->Q (.ref p) H'
structure FnW (P:Program) (w:World) (K:PySem.W.Frag) (mg:Str->Option Value) (base:Heap) (x:Str) (k n:Nat) (m:List PyData->Res Kvs):Prop where
 ex:∃ f fd ps,ps.length=n/\FnOk P w K mg base CX0 k f fd ps (spW n m)/\mg x=some (.ref f)/\PySem.W.keepIn K (.ref f)=true/\Binds K fd ps []
noncomputable def fnW (N:List Str) (g:Dn->Res Kvs):List PyData->Res Kvs:=fun ds=>g (S9 N ds)
noncomputable def gK (fs:Dn->Res (List PyData)) (m:List PyData->Res Kvs):Dn->Res Kvs:=fun δ=>(fs δ).bind m
noncomputable def cH (i:Nat) (f:Dn->Res Kvs):Dn->Out:=fun δ=>V2 (f δ) fun kvs=>.nx (δ.set i (.ow (.dict kvs)))
noncomputable def Ub (f:Dn->Res (List PyData)):Dn->Res Kvs:=fun δ=>(f δ).bind fun ds=>if ds.length < 1000 then ofO (Fy ds []) else .no
noncomputable section
variable {P:Program} {w:World} {K:PySem.W.Frag} {mg:Str->Option Value} {base:Heap} {X:Cx} {N:List Str} {sc:Scope} {k:Nat} {df:Bool} {E:EK} {pos p p2 cp:Pos} {a b c e:Expr} {es:List Expr} {f g:Dn->Res PyData} {fs:Dn->Res (List PyData)} {fx:Dn->Res Kvs} {x:Str} {i:Nat} {st:Stmt} {g1:Dn->Out} {g2:Dn->Res Kvs}
theorem sF (h:DX X E e fx):DSW X E [.Return (some e) pos] fx:=fun G0 H0=>by
 refine PSs.imp (Vc (aM h)) fun D σ H hY73=>?_
 obtain ⟨G,δ,S,a⟩:=hY73
 refine ⟨G,δ,S.sr,?_⟩
 cases q:fx δ with
 | ok kvs=>rw [q] at a; exact fun p G' H' g hp hp' ho=>a p G' H' (S.gr.trans g) (S.gr.h.free hp) hp' ho
 | exc c=>rw [q] at a; exact fun G' H' g=>a G' H' (S.gr.trans g)
 | no=>rw [q] at a; exact a
theorem fn_W {x:Str} {st:Stmt} {ps:List Str} {n:Nat} {go:Dn->Res Kvs} {m:List PyData->Res Kvs} (F:Def K mg x st ps) (S:FnScope N ps (A5 st)) (hn:ps.length=n)
   (body:∀ X,Cxt P w K mg base X N (A5 st) k true->DSW X E0k (B5 st) go) (hm:m=fnW N go):FnW P w K mg base x (k+1) n m:=by
 obtain ⟨f,fd,F,hmg,hb⟩:=F.ex
 refine ⟨f,fd,ps,hn,?_,hmg,F.kp,hb⟩
 subst hm
 refine F.ok S (fun vs H Q E h=>?_) (fun cdv A outer s H vs Q E hr h=>?_)
 . obtain ⟨G,ds,d,_,r,hl,_⟩:=h
   rw [<- r.length,hl,hn]
 . obtain ⟨G,ds,kvs,hG,r,hl,em,q⟩:=h
   refine ⟨_,body _ ⟨rfl,rfl,rfl,rfl,rfl,rfl,rfl,rfl,hr,fun _ _=>rfl,PassesOwn.never⟩ G H,G,_,Xj hG r N,?_⟩
   unfold fnW at em; rw [em]; exact q
theorem sD {x:Str} {j n:Nat} {m:List PyData->Res Kvs} (C:Cxt P w K mg base X N sc k df) (F:FnW P w K mg base x j n m) (hj:j<=k) (h:okGl sc x=true) (ha:DA X E0k (e::es) n fs)
   (he:starEach (e::es) X.env=(false,eval e X.env)::starEach es X.env:=by rfl) (hpl:(backTo pos (starEach es X.env)).any (·.1)=false:=by rfl):DX X E0k (.Call (.Name x p) (e::es) [] pos) (gK fs m):=by
 obtain ⟨f,fd,ps,hps,F,hm,hk,hb⟩:=F.ex
 obtain ⟨h1,h2,h3⟩:=okGl.gl C h
 have F':FnOk X.prog X.w X.K X.mg X.base CX0 j f fd ps (spW n m):=by rw [C.hP,C.hw,C.hK,C.hmg,C.hb]; exact F
 refine PE.imp (Ve F' (C.room.mono hj) h1 (by rw [C.hmg]; exact hm) (by rw [C.hK]; exact hk) (by rw [C.hK]; exact hb) .nil (jL (X:=X)) ha.pa h2 he hpl) fun σ H Q hY75=>?_
 obtain ⟨G,δ,S,aft⟩:=hY75
 have gw:∀ {G H G' H':Hp} {r:Res Kvs},Grow G H G' H'->lY E0k G H r Q->lY E0k G' H' r Q:=fun {G H G' H' r} g a=>by
   cases r with
   | ok kvs=>exact fun p G2 H2 g2 hp hp' ho=>a p G2 H2 (g.trans g2) (g.h.free hp) hp' ho
   | exc c=>exact fun G2 H2 g2=>a G2 H2 (g.trans g2)
   | no=>exact a
 refine V7 (W:=fun G H r=>lY E0k G H r Q) S aft (fun g a=>gw g a) (fun c a=>a) (fun a=>a) fun ds vs G1 H1 e g1 r1 S1 a1=>?_
 rw [List.append_nil]
 cases q:m ds with
 | ok d=>rw [q] at a1; exact ⟨G1,ds,d,S1.sub,r1,ha.len δ ds e,q,a1⟩
 | exc c=>rw [q] at a1; exact (a1 G1 H1 (Grow.refl S1.sub)).elim
 | no=>rw [q] at a1; exact a1.elim
theorem sU (C:Cxt P w K mg base X N sc k df) (i:Nat) (ho:okSet N sc df i x=true) (h:DX X E e fx) (hs:swapsWith e (some (.Name x p)) pos.line X.env=pure false:=by rfl):DS X E (.Assign [.Name x p] e pos) (cH i fx):=fun G0 H0=>by
 obtain ⟨h1,h2,h3,h4⟩:=okSet.ok C ho
 refine PS.imp (aL h1 h2 h3 h hs h4) fun D σ H hY76=>?_
 obtain ⟨G,δ,S,a⟩:=hY76
 refine ⟨G,δ,S.sr,?_⟩
 unfold cH at a
 cases q:fx δ with
 | ok kvs =>
   rw [q] at a; intro p G' H' g hp hp' ho; have S1:=S.grow g; exact a _ G' H' (S1.set_ow (S.gr.h.free hp) hp' ho (Py S hp))
 | exc c=>rw [q] at a; exact fun G' H' g=>a G' H' (S.gr.trans g)
 | no=>rw [q] at a; exact a
theorem mB (C:Cxt P w K mg base X N sc k df) (hd:okGl sc "dict" = true) (hm:mg "dict" = none) (hf:DF X E e fs) (hst:Nt e=true:=by rfl)
   (he:starEach [e] X.env=(false,eval e X.env)::starEach [] X.env:=by rfl) (hpl:(backTo cp (starEach [] X.env)).any (·.1)=false:=by rfl) :
   DX X E (.Call (.Name "dict" p2) [e] [] cp) (Ub fs):=by
 obtain ⟨k1,k2,k3⟩:=okGl.gl C hd
 have ha:DA X E [e] 1 (A0 (D1 fs) A7):=A1 (E2 hf) A9 hst
 refine PE.imp (Ld (bN C.room.hd C.hu) k1 (by rw [C.hmg]; exact hm) (by decide +kernel) ha.pa k3 k2 he hpl) fun σ H Q hY77=>?_
 obtain ⟨G,δ,S,aft⟩:=hY77
 refine ⟨G,δ,S,?_⟩
 unfold Ub at aft
 cases ef:fs δ with
 | ok ds =>
   rw [ef] at aft; have ea:A0 (D1 fs) A7 δ=.ok [.list ds]:=by unfold A0 D1; rw [ef]; rfl
   rw [ea]; intro vs G1 H1 g1 r1; obtain ⟨v,rfl,a,ys,rfl,ha,la⟩:=Hs r1; simp only [Res.bind] at aft
   split at aft
   . rename_i hlen
     cases ek:Fy ds [] with
     | some kvs =>
       rw [ek] at aft; obtain ⟨prs,q1,q2,q3⟩:=eM ds ys [] kvs [] la ek rfl rfl; have S1:=S.grow g1; refine ⟨a,ys,prs,rfl,Rd.mono S1.sub ha,Paired.mapP q1 fun _ _ z=>z.mono fun b xs e=>S1.sub _ _ e,by rw [<- la.length]; exact hlen,fun q hq=>?_⟩
       have g2:Grow G1 H1 G1 (upd H1 q (.dT (Lf [] prs))):=Grow.own S1.sub hq; exact aft q G1 _ (g1.trans g2) (g1.h.free hq) (S1.sub.free hq) ⟨_,G8,q2,q3⟩
     | none=>rw [ek] at aft; exact (show False from aft).elim
   . exact (show False from aft).elim
 | exc c =>
   rw [ef] at aft; have ea:A0 (D1 fs) A7 δ=.exc c:=by unfold A0 D1; rw [ef]; rfl
   rw [ea]; exact fun G' H' g=>aft G' H' g
 | no=>rw [ef] at aft; exact (show False from aft).elim
end
end Sm
end
noncomputable section
namespace Sm
open PySem PySem.Spec PyProof.Rows L2
end Sm
end
noncomputable section
namespace Sm
open PySem PySem.Spec PyProof.Rows L2
end Sm
end
noncomputable section
namespace Sm
open PySem PySem.Spec PySem.W PyProof.Rows
noncomputable def okR {α:Type} (n:Nat) (lt:Nat->Nat->Bool):KasT α->(α->Prop)->Prop
 | .ret a,P=>P a
 | .ask i j k,P=>i < n/\j < n/\okR n lt (k (lt i j)) P
theorem okR.bind {α β:Type} {n:Nat} {lt:Nat->Nat->Bool} {f:α->KasT β} {P:β->Prop}:∀ {t:KasT α},okR n lt t (fun a=>okR n lt (f a) P)->okR n lt (t.bind f) P
 | .ret _,h=>h
 | .ask i j k,h=>⟨h.1,h.2.1,okR.bind (t:=k (lt i j)) h.2.2⟩
theorem okR.mono {α:Type} {n:Nat} {lt:Nat->Nat->Bool} {P Q:α->Prop} (hq:∀ a,P a->Q a):∀ {t:KasT α},okR n lt t P->okR n lt t Q
 | .ret a,h=>hq a h
 | .ask i j k,h=>⟨h.1,h.2.1,okR.mono hq (t:=k (lt i j)) h.2.2⟩
theorem okR.wp {α:Type} {n:Nat} {lt:Nat->Nat->Bool} {P:α->Prop} {Q:α->Shared->Prop} {s:Shared} {cmp:Nat->Nat->(Bool->Shared->Prop)->Shared->Prop} (hc:∀ i j C,i < n->j < n->C (lt i j) s->cmp i j C s) (hq:∀ a,P a->Q a s) :
   ∀ {t:KasT α},okR n lt t P->t.kasWp cmp Q s
 | .ret a,h=>hq a h
 | .ask i j k,h=>hc i j _ h.1 h.2.1 (okR.wp hc hq (t:=k (lt i j)) h.2.2)
noncomputable section
variable {n:Nat} {r:Nat->Int}
structure Gd (n:Nat) (p:Array Nat):Prop where
 size:p.size=n
 perm:p.toList.Perm (List.range n)
noncomputable abbrev ltR (r:Nat->Int) (i j:Nat):Bool:=decide (r i < r j)
theorem Gd.lt {p:Array Nat} (g:Gd n p) {k:Nat} (hk:k < n):p.getD k 0 < n:=by
 have h1:k < p.size:=by rw [g.size]; exact hk
 have:p[k]∈p.toList:=by rw [Array.mem_toList_iff]; exact Array.getElem_mem h1
 have:=g.perm.mem_iff.mp this
 have e:p.getD k 0=p[k]:=by simp [Array.getD,h1]
 rw [e]; exact List.mem_range.mp this
theorem Gd.inj {p:Array Nat} (g:Gd n p) {k l:Nat} (hk:k < n) (hl:l < n) (h:p.getD k 0=p.getD l 0):k=l:=by
 have h1:k < p.size:=by rw [g.size]; exact hk
 have h2:l < p.size:=by rw [g.size]; exact hl
 have nd:p.toList.Nodup:=g.perm.nodup_iff.mpr List.nodup_range
 have e1:p.getD k 0=p[k]:=by simp [Array.getD,h1]
 have e2:p.getD l 0=p[l]:=by simp [Array.getD,h2]
 rw [e1,e2] at h
 exact (List.getElem_inj (xs:=p.toList) (h₀:=by simpa using h1) (h₁:=by simpa using h2) nd).mp (by simpa using h)
theorem Gd.ne {p:Array Nat} (g:Gd n p) (hr:∀ i j,i < n->j < n->r i=r j->i=j) {k l:Nat} (hk:k < n) (hl:l < n) (h:k≠l):r (p.getD k 0)≠r (p.getD l 0):=fun e=>h (g.inj hk hl (hr _ _ (g.lt hk) (g.lt hl) e))
theorem Gd.ofPerm {p q:Array Nat} (g:Gd n p) (h:q.Perm p):Gd n q:=⟨by rw [h.size_eq]; exact g.size,(Array.perm_iff_toList_perm.mp h).trans g.perm⟩
def Up (r:Nat->Int) (p:Array Nat) (m:Nat):Prop:=∀ i j,i < j->j < m->r (p.getD i 0) < r (p.getD j 0)
def Dn' (r:Nat->Int) (p:Array Nat) (m:Nat):Prop:=∀ i j,i < j->j < m->r (p.getD j 0) < r (p.getD i 0)
theorem Nx {p q:Array Nat} {k l:Nat} (h:p[k]? = q[l]?):p.getD k 0=q.getD l 0:=by
 rw [Array.getD_eq_getD_getElem?,Array.getD_eq_getD_getElem?,h]
theorem iJ {p:Array Nat} (g:Gd n p) (hr:∀ i j,i < n->j < n->r i=r j->i=j):∀ (f m:Nat),1<=m->m+f<=n->Up r p m->okR n (ltR r) (kas_asc p f m) fun m'=>m<=m'/\m'<=m+f/\Up r p m'/\(m' < m+f->r (p.getD m' 0) < r (p.getD (m' - 1) 0)):=by
 intro iN; induction iN with
 | zero=>intro m h1 h2 u; exact ⟨Nat.le_refl _,Nat.le_refl _,u,fun z=>absurd z (Nat.lt_irrefl _)⟩
 | succ f ih =>
   intro m h1 h2 u; refine ⟨g.lt (by lia),g.lt (by lia),?_⟩
   by_cases c:r (p.getD m 0) < r (p.getD (m - 1) 0)
   . rw [show ltR r (p.getD m 0) (p.getD (m - 1) 0)=true from decide_eq_true c]
     dsimp only; rw [if_pos rfl]; exact ⟨Nat.le_refl _,by lia,u,fun _=>c⟩
   . rw [show ltR r (p.getD m 0) (p.getD (m - 1) 0)=false from decide_eq_false c]
     dsimp only; rw [if_neg (by decide)]; have ne:=g.ne hr (k:=m) (l:=m - 1) (by lia) (by lia) (by lia)
     have u2:Up r p (m+1):=fun i j hij hj=>by
       by_cases e:j=m
       . subst e
         by_cases e2:i=j - 1
         . subst e2; lia
         . have:=u i (j - 1) (by lia) (by lia); lia
       . exact u i j hij (by lia)
     refine (ih (m+1) (by lia) (by lia) u2).mono fun m' hZ1=>by obtain ⟨a,b,c,d⟩:=hZ1; exact ⟨by lia,by lia,c,fun z=>d (by lia)⟩
theorem mR {p:Array Nat} (g:Gd n p) (hr:∀ i j,i < n->j < n->r i=r j->i=j):∀ (f m:Nat),1<=m->m+f<=n->Dn' r p m->okR n (ltR r) (kas_desc f p m 0) fun t=>t.1=p/\t.2.2=0/\m<=t.2.1/\t.2.1<=m+f/\Dn' r p t.2.1:=by
 intro iN; induction iN with
 | zero=>intro m h1 h2 u; exact ⟨rfl,rfl,Nat.le_refl _,Nat.le_refl _,u⟩
 | succ f ih =>
   intro m h1 h2 u; refine ⟨g.lt (by lia),g.lt (by lia),?_⟩
   by_cases c:r (p.getD m 0) < r (p.getD (m - 1) 0)
   . rw [show ltR r (p.getD m 0) (p.getD (m - 1) 0)=true from decide_eq_true c]
     dsimp only; rw [if_pos rfl,if_neg (by decide)]; have u2:Dn' r p (m+1):=fun i j hij hj=>by
       by_cases e:j=m
       . subst e
         by_cases e2:i=j - 1
         . subst e2; lia
         . have:=u i (j - 1) (by lia) (by lia); lia
       . exact u i j hij (by lia)
     exact (ih (m+1) (by lia) (by lia) u2).mono fun t hZ1=>by obtain ⟨a,b,c,d,e⟩:=hZ1; exact ⟨a,b,by lia,by lia,e⟩
   . rw [show ltR r (p.getD m 0) (p.getD (m - 1) 0)=false from decide_eq_false c]
     dsimp only; rw [if_neg (by decide)]; have ne:=g.ne hr (k:=m) (l:=m - 1) (by lia) (by lia) (by lia)
     refine ⟨g.lt (by lia),g.lt (by lia),?_⟩
     rw [show ltR r (p.getD (m - 1) 0) (p.getD m 0)=true from decide_eq_true (by lia)]; dsimp only; rw [if_pos rfl]; exact ⟨rfl,rfl,Nat.le_refl _,by show m<=m+(f+1); lia,u⟩
theorem mP {p:Array Nat} (g:Gd n p) (hr:∀ i j,i < n->j < n->r i=r j->i=j) (m:Nat) (h1:1<=m) (h2:m<=n) (d:Dn' r p m):okR n (ltR r) (kas_tail3 m n p) fun t=>Gd n t.2/\1<=t.1/\t.1<=n/\Up r t.2 t.1:=by
 have hsz:=g.size
 have g2:Gd n (kas_rev p 0 m):=g.ofPerm (mirror_perm _ _ _ _)
 have e:∀ k,k < m->(kas_rev p 0 m).getD k 0=p.getD (m - 1 - k) 0:=fun k hk=>Nx (by
   unfold kas_rev; rw [getElem?_mirror_all (by lia),if_pos ⟨Nat.zero_le _,hk⟩]
   congr 1; lia)
 have u:Up r (kas_rev p 0 m) m:=fun i j hij hj=>by
   show r _ < r _
   rw [e i (by lia),e j hj]; exact d (m - 1 - j) (m - 1 - i) (by lia) (by lia)
 refine okR.bind ((iJ g2 hr (n - m) m h1 (by lia) u).mono fun m' hZ1=>?_)
 obtain ⟨a,b,c,_⟩:=hZ1
 exact ⟨g2,by lia,by lia,c⟩
theorem iI {p:Array Nat} (g:Gd n p) (hr:∀ i j,i < n->j < n->r i=r j->i=j) (hn:1<=n):okR n (ltR r) (kas_count n p) fun t=>Gd n t.2/\1<=t.1/\t.1<=n/\Up r t.2 t.1:=by
 have u1:Up r p 1:=fun i j h1 h2=>by lia
 refine okR.bind ((iJ g hr (n - 1) 1 (Nat.le_refl _) (by lia) u1).mono fun m hZ1=>?_)
 obtain ⟨a,b,c,d⟩:=hZ1
 by_cases e:m=n
 . rw [if_pos (by simp [e])]
   exact ⟨g,by lia,by lia,c⟩
 . rw [if_neg (by simp [e])]
   by_cases e2:m>1
   . rw [if_pos e2]
     refine ⟨g.lt (by lia),g.lt (by lia),?_⟩
     rw [show ltR r (p.getD 0 0) (p.getD (m - 1) 0)=true from decide_eq_true (c 0 (m - 1) (by lia) (by lia))]; dsimp only; rw [if_pos rfl]; exact ⟨g,by lia,by lia,c⟩
   . rw [if_neg e2]
     have em:m=1:=by lia
     subst em; have h0:=d (by lia)
     have dd:Dn' r p 2:=fun i j h1 h2=>by
       have:i=0:=by lia
       have:j=1:=by lia
       subst_vars
       simpa using h0
     refine okR.bind ((mR g hr (n - (1+1)) 2 (by lia) (by lia) dd).mono fun t hZ1=>?_)
     obtain ⟨q1,q2,q3,q4,q5⟩:=hZ1; rw [if_neg (by lia),q1]; exact mP g hr t.2.1 (by lia) (by lia) q5
theorem iH {p:Array Nat} (g:Gd n p) (hr:∀ i j,i < n->j < n->r i=r j->i=j) (k:Nat) (hk:k < n) (u:Up r p k):∀ (f l h:Nat),h - l<=f->l<=h->h<=k->(∀ i,i < l->r (p.getD i 0) < r (p.getD k 0))->(∀ i,h<=i->i < k->r (p.getD k 0) < r (p.getD i 0)) ->
   okR n (ltR r) (kas_place p k f l h) fun l0=>l0<=k/\(∀ i,i < l0->r (p.getD i 0) < r (p.getD k 0))/\∀ i,l0<=i->i < k->r (p.getD k 0) < r (p.getD i 0):=by
 intro iN; induction iN with
 | zero=>intro l h hf hl hh a b; exact ⟨by lia,a,fun i h1 h2=>b i (by lia) h2⟩
 | succ f ih =>
   intro l h hf hl hh a b; unfold kas_place
   by_cases c:l≥h
   . rw [if_pos c]
     exact ⟨by lia,a,fun i h1 h2=>b i (by lia) h2⟩
   . rw [if_neg c]
     refine ⟨g.lt (by lia),g.lt (by lia),?_⟩
     have hmk:(l+h) / 2 < k:=by lia
     by_cases d:r (p.getD k 0) < r (p.getD ((l+h) / 2) 0)
     . rw [show ltR r (p.getD k 0) (p.getD ((l+h) / 2) 0)=true from decide_eq_true d]
       dsimp only; rw [if_pos rfl]; refine ih l ((l+h) / 2) (by lia) (by lia) (by lia) a fun i h1 h2=>?_
       by_cases e:i=(l+h) / 2
       . rw [e]; exact d
       . have:=u ((l+h) / 2) i (by lia) h2; lia
     . rw [show ltR r (p.getD k 0) (p.getD ((l+h) / 2) 0)=false from decide_eq_false d]
       dsimp only; rw [if_neg (by decide)]; have ne:=g.ne hr (k:=k) (l:=(l+h) / 2) (by lia) (by lia) (by lia)
       refine ih ((l+h) / 2+1) h (by lia) (by lia) (by lia) (fun i h1=>?_) b
       by_cases e:i=(l+h) / 2
       . rw [e]; lia
       . have:=u i ((l+h) / 2) (by lia) (by lia); lia
theorem sQ (hr:∀ i j,i < n->j < n->r i=r j->i=j):∀ (f:Nat) (p:Array Nat) (k:Nat),k+f=n->Gd n p->Up r p k->okR n (ltR r) (kas_bin f p k) fun q=>Gd n q/\Up r q n:=by
 intro iN; induction iN with
 | zero=>intro p k e g u; exact ⟨g,by rw [<- show k=n by lia]; exact u⟩
 | succ f ih =>
   intro p k e g u; have hsz:=g.size; refine okR.bind ((iH g hr k (by lia) u k 0 k (by lia) (by lia) (Nat.le_refl _) (fun i h=>by lia) (fun i h1 h2=>by lia)).mono fun l hZ1=>?_)
   obtain ⟨h1,h2,h3⟩:=hZ1; have g2:Gd n (bubble p k (k - l)):=g.ofPerm (bubble_perm _ _ _); have ed:∀ i,(bubble p k (k - l)).getD i 0=if i=l then p.getD k 0 else if l < i/\i<=k then p.getD (i - 1) 0 else p.getD i 0:=fun i=>by
     have:=getElem?_bubble (xs:=p) (src:=k) (by lia) (k - l) (by lia) i
     rw [show k - (k - l)=l by lia] at this
     split
     . rename_i z; rw [if_pos z] at this; exact Nx this
     . rename_i z; rw [if_neg z] at this
       split
       . rename_i z2; rw [if_pos z2] at this; exact Nx this
       . rename_i z2; rw [if_neg z2] at this; exact Nx this
   refine ih _ (k+1) (by lia) g2 fun i j hij hj=>?_
   show r _ < r _
   rw [ed i,ed j]
   by_cases ci:i=l
   . rw [if_pos ci]
     have cj:¬ j=l:=by lia
     rw [if_neg cj,if_pos (by lia)]; exact h3 (j - 1) (by lia) (by lia)
   . rw [if_neg ci]
     by_cases cj:j=l
     . rw [if_pos cj,if_neg (by lia)]
       exact h2 i (by lia)
     . rw [if_neg cj]
       by_cases di:l < i/\i<=k
       . rw [if_pos di,if_pos (by lia)]
         exact u (i - 1) (j - 1) (by lia) (by lia)
       . rw [if_neg di]
         by_cases dj:l < j/\j<=k
         . rw [if_pos dj]
           by_cases e2:i=j - 1
           . lia
           . exact u i (j - 1) (by lia) (by lia)
         . rw [if_neg dj]
           exact u i j hij (by lia)
theorem mQ (hr:∀ i j,i < n->j < n->r i=r j->i=j) (hn:1<=n):okR n (ltR r) (kas_sort n) fun q=>Gd n q/\Up r q n:=by
 have g:Gd n (List.toArray (List.range n)):=⟨by simp,by simp⟩
 refine okR.bind ((iI g hr hn).mono fun t hZ1=>?_)
 obtain ⟨g2,h1,h2,u⟩:=hZ1
 by_cases c:t.1 < n
 . rw [if_pos c,show max t.1 1=t.1 by lia]
   exact sQ hr (n - t.1) t.2 t.1 (by lia) g2 u
 . rw [if_neg c]
   exact ⟨g2,by rw [<- show t.1=n by lia]; exact u⟩
end
end Sm
end
noncomputable section
namespace Sm
open PySem PySem.Spec PySem.W PyProof.Rows L2
def IdAt (h:Heap) (v:Value) (p:Int×Str):Prop:=∃ b o t u n,v=.ref b/\h.get? b=some o/\o.cls=.type "tuple" /\ o.data=.seq #[.int p.1 t,.str p.2 u] n
noncomputable section
theorem mI {h:Heap}:∀ (vs:List Value),(∀ (i:Nat) v,vs[i]? = some v->∃ p,IdAt h v p)->∃ fs,fs.length=vs.length/\KatTups h vs fs/\∀ v∈fs,∃ i t,v=Value.int i t:=by
 intro iN; induction iN with
 | nil=>intro _; exact ⟨[],rfl,KatTups.nil,fun _ h=>nomatch h⟩
 | cons v vs ih =>
   intro hv; obtain ⟨fs,f1,f2,f3⟩:=ih fun i u e=>hv (i+1) u (by simpa using e)
   obtain ⟨p,b,o,t,u,n,rfl,hb,hc,hd⟩:=hv 0 v rfl; exact ⟨.int p.1 t::fs,by simp [f1],KatTups.cons hb hc hd rfl f2,fun x hx=>by
     rcases List.mem_cons.mp hx with rfl | hx
     . exact ⟨_,_,rfl⟩
     . exact f3 x hx⟩
end
noncomputable abbrev id3 (p:Int×Str):PyData:=.tuple [.int p.1,.str p.2]
end Sm
end
noncomputable section
namespace Sm
open PySem PySem.Spec PyProof.Rows L2
end Sm
end
noncomputable section
namespace Sm
open PySem PySem.Spec PyProof.Rows L2
end Sm
end
noncomputable section
namespace Sm
open PySem PySem.Spec PyProof.Rows L2
noncomputable section
variable {P:Program} {w:World} {K:PySem.W.Frag} {mg:Str->Option Value} {base:Heap} {X:Cx} {N:List Str} {sc:Scope} {k:Nat} {df:Bool} {E:EK} {pos:Pos} {a b c e:Expr} {f g f':Dn->Res PyData} {x:Str}
theorem Z8 (C:Cxt P w K mg base X N sc k df) (ha:DE X E a f) (hb:DE X E b g) (hc:DE X E c f') (hm:lastMarks [.LtE,.LtE] [b,c]=false:=by with_unfolding_all rfl) :
   DT X E (.Compare a [.LtE,.LtE] [b,c] pos) (B2 (U2 f g f' (K5 .LtE) (K5 .LtE))):=by
 have hr:OpR X (compareOp .LtE) (iW .LtE):=Fz (.inr rfl) C.hu
 refine PT.imp (jA hr hr ha hb hc hm) fun σ H Q hZ3=>?_
 obtain ⟨G,δ,S,aft⟩:=hZ3
 have aft':AftT E G H ((f δ).bind fun x=>(g δ).bind fun y=>(ofO (K5 .LtE x y)).bind fun z=>(match z with
   | .bool true=>(f' δ).bind fun u=>ofO (K5 .LtE y u)
   | .bool false=>.ok (.bool false)
   | _=>.no).bind fun d=>ofO (Wx d)) Q:=by
   unfold B2 U2 at aft; simp only [Res.bind_assoc] at aft; exact aft
 refine W9 S aft' fun d1 v1 G1 H1 g1 r1 S1 a1=>?_
 refine W9 S1 a1 fun d2 v2 G2 H2 g2 r2 S2 a2=>?_
 cases e:K5 .LtE d1 d2 with
 | none=>rw [e] at a2; exact a2.elim
 | some d =>
   rw [e] at a2; obtain ⟨kk,rfl⟩:=Kf _ _ _ e; refine Dh G2 H2 v1 v2 d1 d2 _ _ S2.sub (r1.mono g2.g) r2 e fun v G3 H3 g3 r3=>⟨kk,r3,?_⟩
   have S3:=S2.grow g3
   cases kk with
   | false=>rw [if_neg (by decide)]; exact ⟨false,rfl,a2 G3 H3 g3⟩
   | true =>
     rw [if_pos rfl]; have a3:AftT E G3 H3 ((f' δ).bind fun u=>(ofO (K5 .LtE d2 u)).bind fun d=>ofO (Wx d)) Q:=by
       have h0:AftT E G3 H3 (((f' δ).bind fun u=>ofO (K5 .LtE d2 u)).bind fun d=>ofO (Wx d)) Q:=AftT.grow g3 a2
       rw [Res.bind_assoc] at h0; exact h0
     refine W9 S3 a3 fun d4 v4 G4 H4 g4 r4 S4 a4=>?_
     cases e':K5 .LtE d2 d4 with
     | none=>rw [e'] at a4; exact a4.elim
     | some d =>
       rw [e'] at a4; obtain ⟨k2,rfl⟩:=Kf _ _ _ e'; exact Dh G4 H4 v2 v4 d2 d4 _ _ S4.sub (r2.mono (g3.g.trans g4.g)) r4 e' fun v G5 H5 g5 r5=>⟨k2,r5,a4 G5 H5 g5⟩
end
end Sm
end
noncomputable section
namespace Sm
open PySem PySem.Spec PyProof.Rows PySem.W L2
end Sm
end
noncomputable section
namespace Sm
open PySem PySem.Spec PyProof.Rows PySem.W L2
end Sm
end
noncomputable section
namespace Sm
open PySem PySem.Spec PyProof.Rows PySem.W L2
end Sm
end
noncomputable section
namespace Sm
open PySem PySem.Spec PyProof.Rows PySem.W L2
end Sm
end
noncomputable section
namespace Sm
open PySem PySem.Spec PyProof.Rows PySem.W L2
noncomputable abbrev prs (kk:List (PyData×Addr×List V)):List (PyData×V):=kk.map fun r=>(r.1,.ref r.2.1)
end Sm
end
noncomputable section
namespace Sm
open PySem PySem.Spec PyProof.Rows PySem.W L2
end Sm
end
noncomputable section
namespace Sm
open PySem PySem.Spec PyProof.Rows PySem.W L2
end Sm
end
noncomputable section
namespace Sm
open PySem PySem.Spec PyProof.Rows PySem.W L2
end Sm
end
noncomputable section
namespace Sm
open PySem PySem.Spec PyProof.Rows PySem.W L2
end Sm
end
noncomputable section
namespace Sm
open PySem PySem.Spec PyProof.Rows PySem.W L2
end Sm
end
noncomputable section
namespace Sm
open PySem PySem.Spec PyProof.Rows PySem.W L2
end Sm
end
noncomputable section
namespace Sm
open PySem PySem.Spec PyProof.Rows PySem.W L2
end Sm
end
noncomputable section
namespace Sm
open PySem PySem.Spec PyProof.Rows PySem.W L2
end Sm
end
noncomputable section
namespace Sm
open PySem PySem.Spec PySem.W PyProof.Rows L2
structure SortBy {α:Type} (prog:Program) (w:World) (rk:α->Int) (At:Heap->Value->α->Prop) (κ:SortKind):Prop where
 mono':∀ {h h':Heap} {v:Value} {p:α},(∀ b o,(∃ c d,o.data=.seq c d/\o.cls=.type "tuple")->h.get? b=some o->h'.get? b=some o)->At h v p->At h' v p
 lt:∀ {A:Around} {s:Shared} {x y:Value} {p q:α} {C:Bool->Shared->Prop} {E:Value->Shared->Prop},A.units+8 < cLine->At s.heap x p->At s.heap y q->C (decide (rk p < rk q)) s->wpAny (model prog w) A (keyLt' κ x y) C E s
 kind:∀ {A:Around} {s:Shared} {vs:List Value} {Q:SortKind->Shared->Prop} {E:Value->Shared->Prop},0 < vs.length->(∀ v∈vs,∃ p,At s.heap v p)->Q κ s->wpAny (model prog w) A (keyKind' vs.toArray) Q E s
theorem SortBy.mono {α:Type} {prog:Program} {w:World} {rk:α->Int} {At:Heap->Value->α->Prop} {κ:SortKind} (B:SortBy prog w rk At κ) {h h':Heap} {a:Addr} {its:Array Value} {n:Nat} {v:Value} {p:α} (ho:h.get? a=some (seqObj "list" its n)) (hk:∀ b o,b≠a->h.get? b=some o->h'.get? b=some o) (x:At h v p):At h' v p :=
 B.mono' (fun b o ⟨c,d,e1,e2⟩ q=>hk b o (fun z=>by
   subst z; rw [ho] at q; cases q; exact absurd (show Value.type "list" = Value.type "tuple" from e2) (by decide)) q) x
noncomputable section
variable {α:Type} {rk:α->Int} {At:Heap->Value->α->Prop} {κ:SortKind} {prog:Program} {w:World} {A:Around} {E:Value->Shared->Prop} {s:Shared}
theorem oY (B:SortBy prog w rk At κ) (hu:A.units+8 < cLine) {a:Addr} {vs:List Value} {ps:List α} {n:Nat} {P:PySem.Fin->Shared->Prop} (ho:s.heap.get? a=some (seqObj "list" vs.toArray n)) (hv:∀ (i:Nat) v,vs[i]? = some v->∃ p,ps[i]? = some p/\At s.heap v p) (hl:ps.length=vs.length) (h64:vs.length < 64)
   (hnd:∀ (i j:Nat) p q,ps[i]? = some p->ps[j]? = some q->rk p=rk q->i=j)
   (h:∀ q:Array Nat,Gd vs.length q->(∀ (i j:Nat) x y,i < j->j < vs.length->ps[q.getD i 0]? = some x->ps[q.getD j 0]? = some y->rk x < rk y)->P (.done (.ret .none)) { s with heap:=sortedHeap s.heap a vs (List.toArray (q.toList.map fun i=>vs.getD i Value.none)) }) :
   wpAny (model prog w) A (Builtin.«list.sort» ⟨[.ref a],[]⟩) P E s:=by
 have ha:a < s.heap.objs.size:=Heap.lt_size ho
 obtain ⟨e1,ho1⟩:∃ e1,(s.heap.update a (Obj.mapSeq fun _ => #[])).get? a=some (seqObj "list" #[] e1):=⟨_,get?_update_seq ho (fun _ => #[])⟩
 have keep:∀ b o,b≠a->s.heap.get? b=some o->(((s.heap.update a (Obj.mapSeq fun _ => #[])).push (seqObj "tuple" vs.toArray 0)).push (seqObj "list" #[] 0)).get? b=some o:=fun b o hb e =>
   Heap.get?_push_of_some _ (Heap.get?_push_of_some _ ((Heap.get?_update_ne _ _ _ _ hb).trans e))
 have ho6:(((s.heap.update a (Obj.mapSeq fun _ => #[])).push (seqObj "tuple" vs.toArray 0)).push (seqObj "list" #[] 0)).get? a=some (seqObj "list" #[] e1):=Heap.get?_push_of_some _ (Heap.get?_push_of_some _ ho1)
 rw [list_sort_plain]
 refine wpAny_bind (listItems_at ho rfl (wpAny_bind (listUpdate_at ho rfl ?_ (by rw [List.size_toArray,sizeLine_eq]; omega) (Nat.zero_le _))))
 refine wpAny_bind (seqEpoch_at ho1 rfl (wpAny_bind (wpAny_newTuple ?_ (by show vs.length<=_; rw [sizeLine_eq]; omega))))
 refine wpAny_bind (wpAny_newList (wpAny_holding ?_) (Nat.zero_le _))
 show wpAny (model prog w) A _ P E { s with heap:=((s.heap.update a (Obj.mapSeq fun _ => #[])).push (seqObj "tuple" vs.toArray 0)).push (seqObj "list" #[] 0) }
 dsimp only
 have fin : ∀ (st : SortSt) (q : Array Nat), (arrOf st).map (·.2) = List.toArray (q.toList.map fun i => vs.getD i Value.none) -> failedOf st = none -> Gd vs.length q -> (∀ (i j : Nat) x y, i < j -> j < vs.length -> ps[q.getD i 0]? = some x -> ps[q.getD j 0]? = some y -> rk x < rk y) ->
     wpAny (model prog w) A (do
       let touched:=(<- seqEpoch a) != e1
       Builtin.List.listUpdate (.ref a) fun _=>(arrOf st).map (·.2)
       if let some e:=failedOf st then rule "list.sort.comparison-raised"; throw e
       if touched then rule "list.sort.modified"; raiseError "ValueError" "list modified during sort"
       ret .none) P E { s with heap:=((s.heap.update a (Obj.mapSeq fun _ => #[])).push (seqObj "tuple" vs.toArray 0)).push (seqObj "list" #[] 0) }:=fun st q hq hf hg hu=>by
   have hz:((arrOf st).map (·.2)).size<=sizeLine:=by
     rw [hq,List.size_toArray,List.length_map,Array.length_toList,hg.size,sizeLine_eq]; omega
   refine wpAny_bind (seqEpoch_at ho6 rfl (wpAny_bind (listUpdate_at ho6 rfl ?_ (Nat.zero_le _) (Nat.le_succ_of_le hz)))); rw [hf,hq]; simp only [bne_self_eq_false,Bool.false_eq_true,if_false]; exact wpAny_pure (h q hg hu)
 by_cases h2:vs.toArray.size < 2
 . rw [if_pos h2,if_pos h2]
   refine wpAny_bind (wpAny_pure ?_); rw [StateT.run_pure]; refine wpAny_bind (wpAny_pure ?_); have e:=kas_range (vs.toArray.zip vs.toArray); rw [show (vs.toArray.zip vs.toArray).size=vs.length by simp] at e
   exact fin (SortSt.mk' general' (vs.toArray.zip vs.toArray) #[] 7 none) (List.toArray (List.range vs.length)) (kat_snds rfl e.symm) rfl ⟨by simp,by simp⟩ fun i j x y h1 h3=>by rw [List.size_toArray] at h2; omega
 . rw [if_neg h2,if_neg h2]
   rw [List.size_toArray] at h2; have id6:∀ (i:Nat) v,vs[i]? = some v->∃ p,ps[i]? = some p/\At (((s.heap.update a (Obj.mapSeq fun _ => #[])).push (seqObj "tuple" vs.toArray 0)).push (seqObj "list" #[] 0)) v p:=fun i v e=>by
     obtain ⟨p,e1,ip⟩:=hv i v e; exact ⟨p,e1,B.mono ho keep ip⟩
   refine wpAny_bind (B.kind (by omega) (fun v hv=>?_) ?_)
   . obtain ⟨i,hi⟩:=List.mem_iff_getElem?.mp hv
     obtain ⟨p,_,ip⟩:=id6 i v hi; exact ⟨p,ip⟩
   let r:Nat->Int:=fun i=>match ps[i]? with | some p=>rk p | none=>0
   have hr:∀ i j,i < vs.length->j < vs.length->r i=r j->i=j:=fun i j hi hj e=>by
     have h1:i < ps.length:=by omega
     have h3:j < ps.length:=by omega
     simp only [r,List.getElem?_eq_getElem h1,List.getElem?_eq_getElem h3] at e; exact hnd i j _ _ (List.getElem?_eq_getElem h1) (List.getElem?_eq_getElem h3) e
   refine wpAny_bind (wpAny_mono (kat_run (κ:=κ) (ks:=vs) (Q:=fun st s'=>s'={ s with heap:=((s.heap.update a (Obj.mapSeq fun _ => #[])).push (seqObj "tuple" vs.toArray 0)).push (seqObj "list" #[] 0) }/\∃ q:Array Nat,Gd vs.length q/\Up r q vs.length/\arrOf st=q.map (kas_item (vs.toArray.zip vs.toArray))/\failedOf st=none)
     (G:=fun q s'=>s'={ s with heap:=((s.heap.update a (Obj.mapSeq fun _ => #[])).push (seqObj "tuple" vs.toArray 0)).push (seqObj "list" #[] 0) }/\Gd vs.length q/\Up r q vs.length) rfl (by omega) h64 (fun q st s' a1 a2 a3 a4=>⟨a4.1,q,a4.2.1,a4.2.2,a2,a3⟩)
     ((mQ (n:=vs.length) (r:=r) hr (by omega)).wp (fun i j C hi hj hC=>?_) fun q hq=>⟨rfl,hq⟩)) ?_ fun _ _ e=>e)
   . obtain ⟨p,e1,ip⟩:=id6 i _ (List.getElem?_eq_getElem hi)
     obtain ⟨q,e2,iq⟩:=id6 j _ (List.getElem?_eq_getElem hj); unfold kas_ask; rw [show vs.getD i Value.none=vs[i] by simp [List.getD,hi],show vs.getD j Value.none=vs[j] by simp [List.getD,hj]]
     refine B.lt hu ip iq ?_; have:ltR r i j=decide (rk p < rk q):=by simp only [ltR,r,e1,e2]
     rw [<- this]; exact hC
   . rintro ⟨⟨⟩,st⟩ s' ⟨rfl,q,g1,g2,g3,g4⟩
     refine fin st q (kat_snds rfl g3) g4 g1 fun i j x y hij hj e1 e2=>?_
     have:=g2 i j hij hj; simp only [r,e1,e2] at this; exact this
end
end Sm
end
noncomputable section
namespace Sm
open PySem PySem.Spec PySem.W PyProof.Rows L2
abbrev Sg:=(Int×Str)×Int
noncomputable abbrev sg3 (p:Sg):PyData:=.tuple [id3 p.1,.int p.2]
theorem Th (p:Int×Str):(id3 p).depth<=2:=by simp [PyData.depth,PyData.depthAll]
theorem oV (p q:Int×Str):PyData.eqv (id3 p) (id3 q)=decide (p=q):=by
 show ((p.1==q.1)&&((p.2==q.2)&&true))=_
 rw [Bool.eq_iff_iff]
 simp [Prod.ext_iff]
end Sm
end
noncomputable section
set_option backward.match.sparseCases false
namespace Sm
open PySem PySem.Spec PySem.W PyProof.Rows L2
noncomputable def hn8 (h:Str):Nat:=h.cps.toList.headD 0
noncomputable def okM (h:Str):Bool:=match h.cps.toList with
 | [c]=>decide (97<=c)&&decide (c<=104)
 | _=>false
theorem Vh {h:Str} (e:okM h=true):∃ c,h=⟨#[c]⟩/\97<=c/\c<=104:=by
 obtain ⟨⟨l⟩⟩:=h
 unfold okM at e
 split at e
 . rename_i c hc
   simp only [Bool.and_eq_true,decide_eq_true_eq] at e; have:l=[c]:=hc; subst this; exact ⟨c,rfl,e.1,e.2⟩
 . cases e
theorem Lj {h:Str} (e:okM h=true):hn8 h<=104:=by obtain ⟨c,rfl,_,h2⟩:=Vh e; exact h2
theorem lt8 {h h':Str} (k:okM h=true) (k':okM h'=true):decide (h=h')=decide (hn8 h=hn8 h')/\decide (h.cps.toList < h'.cps.toList)=decide (hn8 h < hn8 h'):=by
 obtain ⟨c,rfl,_,_⟩:=Vh k
 obtain ⟨c',rfl,_,_⟩:=Vh k'
 constructor
 . show decide ((⟨#[c]⟩:Str)=⟨#[c']⟩)=decide (c=c')
   congr 1; simp
 . show decide ([c] < [c'])=decide (c < c')
   congr 1; simp [List.cons_lt_cons_iff]
noncomputable def rk8 (p:Int×Str):Int:=200*p.1+hn8 p.2
noncomputable def Ei (p:Sg):Bool:=okM p.1.2&&decide (0<=p.2)&&decide (p.2 < 1000000)
def Ba (p:Sg):Int:=rk8 p.1*1000000+p.2
theorem Bc {p:Sg} (h:Ei p=true):okM p.1.2=true/\0<=p.2/\p.2 < 1000000:=by
 unfold Ei at h
 simp only [Bool.and_eq_true,decide_eq_true_eq] at h
 exact ⟨h.1.1,h.1.2,h.2⟩
theorem Jl {p q:Int×Str} (k:okM p.2=true) (k':okM q.2=true) (h:rk8 p=rk8 q):p=q:=by
 obtain ⟨e1,_⟩:=lt8 k k'
 have l1:=Lj k
 have l2:=Lj k'
 unfold rk8 at h
 have h1:p.1=q.1:=by lia
 have h2:hn8 p.2=hn8 q.2:=by lia
 rw [decide_eq_true h2] at e1
 exact Prod.ext h1 (of_decide_eq_true e1)
theorem Xo {p q:Sg} (k:Ei p=true) (k':Ei q=true) (h:Ba p=Ba q):p=q:=by
 obtain ⟨a1,a2,a3⟩:=Bc k
 obtain ⟨b1,b2,b3⟩:=Bc k'
 unfold Ba at h
 have h1:rk8 p.1=rk8 q.1:=by lia
 have h2:p.2=q.2:=by lia
 exact Prod.ext (Jl a1 b1 h1) h2
theorem wA {p q:Int×Str} (k:okM p.2=true) (k':okM q.2=true):Nb .Lt (id3 p) (id3 q)=some (decide (rk8 p < rk8 q)):=by
 obtain ⟨e1,e2⟩:=lt8 k k'
 have l1:=Lj k
 have l2:=Lj k'
 show Z4 .Lt [.int p.1,.str p.2] [.int q.1,.str q.2]=_
 have f1:PyData.eqv (.int p.1) (.int q.1)=(p.1==q.1):=rfl
 have f2:PyData.eqv (.str p.2) (.str q.2)=(p.2==q.2):=rfl
 unfold Z4
 rw [f1]
 by_cases c1:p.1=q.1
 . rw [if_pos (by simp [c1])]
   unfold Z4; rw [f2]
   by_cases c2:p.2=q.2
   . rw [if_pos (by simp [c2])]
     have:p=q:=Prod.ext c1 c2; subst this; unfold Z4; simp
     rfl
   . rw [if_neg (fun z=>c2 (eq_of_beq z))]
     show some (decide (p.2.cps.toList < q.2.cps.toList))=_
     rw [e2]
     congr 2
     unfold rk8; apply propext; omega
 . rw [if_neg (fun z=>c1 (eq_of_beq z))]
   show some (decide (p.1 < q.1))=_
   congr 2
   unfold rk8; apply propext; omega
theorem cO {x:Str} (h:okM x=true):PyData.strOk x=true:=by
 obtain ⟨c,rfl,_,h2⟩:=Vh h
 unfold PyData.strOk
 simp; lia
theorem Jt {p:Int×Str} (h:okM p.2=true):(id3 p).canLay0=true:=by
 have:=cO h
 simp [PyData.canLay0,PyData.canLayAll0,this]
theorem IdAt.reads8 {h:Heap} {c:Addr} {p:Int×Str} (x:IdAt h (.ref c) p):∃ as,Reads h (.ref c) (id3 p) as:=by
 obtain ⟨b,o,t,u,n,e,ho,hc,hd⟩:=x
 cases e
 exact ⟨_,.tuple ho hc hd (.cons (.int _ _) (.cons (.str _ _) .nil))⟩
def sC (h:Heap) (v:Value) (p:Int×Str):Prop:=okM p.2=true/\IdAt h v p
def lW (h:Heap) (v:Value) (p:Sg):Prop:=Ei p=true/\∃ b o c t n,v=.ref b/\h.get? b=some o/\o.cls=.type "tuple" /\ o.data=.seq #[.ref c,.int p.2 t] n/\IdAt h (.ref c) p.1
theorem sP {prog:Program} {w:World}:SortBy prog w rk8 sC (tuples' true) where
 mono':=fun k x=>by
   obtain ⟨h0,b,o,t,u,n,e1,h1,h2,h3⟩:=x; exact ⟨h0,b,o,t,u,n,e1,k _ _ ⟨_,_,h3,h2⟩ h1,h2,h3⟩
 lt:=by
   intro A s x y p q C E hu hx hy h; obtain ⟨k,b,o,t,u,n,rfl,ho,hc,hd⟩:=hx; obtain ⟨k',b',o',t',u',n',rfl,ho',hc',hd'⟩:=hy; obtain ⟨e1,e2⟩:=lt8 k k'; have l1:=Lj k; have l2:=Lj k'; refine kat_lt ho hd ho' hd' (kat_cons (wpAny_eqBool_int ?_))
   by_cases c:p.1=q.1
   . rw [show (p.1==q.1)=true by simp [c]]
     refine kat_yes (kat_cons (wpAny_eqBool_str ?_)); rw [e1]
     by_cases c2:hn8 p.2=hn8 q.2
     . rw [decide_eq_true c2]
       refine kat_yes (kat_nil ?_); rw [show decide (rk8 p < rk8 q)=false by apply decide_eq_false; unfold rk8; lia] at h
       exact h
     . rw [decide_eq_false c2]
       refine kat_no (kat_one _ _ (P.lt_str ?_)); show C _ s
       rw [e2]; rw [show decide (rk8 p < rk8 q)=decide (hn8 p.2 < hn8 q.2) by unfold rk8; congr 1; apply propext; lia] at h
       exact h
   . rw [show (p.1==q.1)=false by simp [c]]
     refine kat_no (oneLt_int ?_); rw [show decide (rk8 p < rk8 q)=decide (p.1 < q.1) by unfold rk8; congr 1; apply propext; lia] at h
     exact h
 kind:=by
   intro A s vs Q E hl hv q; obtain ⟨fs,f1,f2,f3⟩:=mI (h:=s.heap) vs fun i v e=>by obtain ⟨p,_,r⟩:=hv v (List.mem_of_getElem? e); exact ⟨p,r⟩
   exact kat_kind (T:=.type "int") f2 (by lia) (fun v hv=>by obtain ⟨i,t,rfl⟩:=f3 v hv; exact Looks.of_pure rfl) (by decide) q
theorem sO {prog:Program} {w:World}:SortBy prog w Ba lW (tuples' false) where
 mono':=fun k x=>by
   obtain ⟨h0,b,o,c,t,n,e1,h1,h2,h3,c',o',t',u',n',e2,g1,g2,g3⟩:=x; exact ⟨h0,b,o,c,t,n,e1,k _ _ ⟨_,_,h3,h2⟩ h1,h2,h3,c',o',t',u',n',e2,k _ _ ⟨_,_,g3,g2⟩ g1,g2,g3⟩
 lt:=by
   intro A s x y p q C E hu hx hy h; obtain ⟨kp,b,o,c,t,n,rfl,ho,hc,hd,ip⟩:=hx; obtain ⟨kq,b',o',c',t',n',rfl,ho',hc',hd',iq⟩:=hy; obtain ⟨a1,a2,a3⟩:=Bc kp; obtain ⟨b1,b2,b3⟩:=Bc kq; obtain ⟨as,r⟩:=ip.reads8; obtain ⟨bs,r'⟩:=iq.reads8; have d1:=Th p.1; refine kat_lt ho hd ho' hd' (kat_cons (SeqAt.eqBoolOverData prog w A _ s _ _ _ _ as bs _ r r' (Jt a1) (Jt b1) (by have:=Nat.min_le_left (id3 p.1).depth (id3 q.1).depth; lia) ?_))
   rw [oV]
   by_cases c1:p.1=q.1
   . rw [decide_eq_true c1]
     refine kat_yes (kat_cons (wpAny_eqBool_int ?_)); have er:Ba p < Ba q↔p.2 < q.2:=by unfold Ba; rw [c1]; lia
     by_cases c2:p.2=q.2
     . rw [show (p.2==q.2)=true by simp [c2]]
       refine kat_yes (kat_nil ?_); rw [show decide (Ba p < Ba q)=false by apply decide_eq_false; rw [er]; lia] at h
       exact h
     . rw [show (p.2==q.2)=false by simp [c2]]
       refine kat_no (kat_one _ _ (P.lt_int ?_)); rw [show decide (Ba p < Ba q)=decide (p.2 < q.2) by congr 1; exact propext er] at h
       exact h
   . rw [decide_eq_false c1]
     refine kat_no (kat_one _ _ ?_); have er:Ba p < Ba q↔rk8 p.1 < rk8 q.1:=by
       have:rk8 p.1≠rk8 q.1:=fun z=>c1 (Jl a1 b1 z)
       unfold Ba; lia
     refine Vb (.inl rfl) (id3 p.1) (id3 q.1) A s _ _ as bs _ r r' (Jt a1) (Jt b1) (by lia) (wA a1 b1) prog w _ _ ?_
     rw [show decide (Ba p < Ba q)=decide (rk8 p.1 < rk8 q.1) by congr 1; exact propext er] at h
     exact h
 kind:=by
   intro A s vs Q E hl hv q; have tups:∀ (l:List Value),(∀ v∈l,∃ p,lW s.heap v p)->∃ fs,fs.length=l.length/\KatTups s.heap l fs/\∀ v∈fs,∃ c o,v=Value.ref c/\s.heap.get? c=some o/\o.cls=.type "tuple" := fun l=>by
     induction l with
     | nil=>intro _; exact ⟨[],rfl,KatTups.nil,fun _ h=>nomatch h⟩
     | cons v l ih =>
       intro h; obtain ⟨fs,f1,f2,f3⟩:=ih fun u hu=>h u (.tail _ hu)
       obtain ⟨p,h0,b,o,c,t,n,rfl,h1,h2,h3,c',o',t',u',n',e2,g1,g2,g3⟩:=h v (.head _); cases e2; exact ⟨.ref c::fs,by simp [f1],KatTups.cons h1 h2 h3 rfl f2,fun x hx=>by
         rcases List.mem_cons.mp hx with rfl | hx
         . exact ⟨_,_,rfl,g1,g2⟩
         . exact f3 x hx⟩
   obtain ⟨fs,f1,f2,f3⟩:=tups vs hv; refine kat_kind (T:=.type "tuple") f2 (by lia) (fun v hv=>?_) (by decide) q
   obtain ⟨c,o,rfl,g1,g2⟩:=f3 v hv; rw [<- g2]; exact (show Looks _ s.heap (typeOf (.ref c)) o.cls from (Looks.ld g1).andThen .now)
end Sm
end
noncomputable section
namespace Sm
open PySem PySem.Spec PyProof.Rows PySem.W L2
end Sm
end
noncomputable section
namespace Sm
open PySem PySem.Spec PyProof.Rows L2
noncomputable def fV:PyData->Option PyData
 | .tuple ds=>some (.tuple ds.reverse)
 | _=>none
theorem vI {α β:Type} (f:α->Option β) (g:α->β):∀ l:List α,(∀ a∈l,f a=some (g a))->l.filterMap f=l.map g:=by
 intro iN; induction iN with
 | nil=>intro _; exact rfl
 | cons a l ih =>
   intro h; rw [List.filterMap_cons,h a List.mem_cons_self,List.map_cons,ih fun b hb=>h b (List.mem_cons_of_mem _ hb)]
theorem jD (xs:List Value):((List.range xs.length).filterMap fun (m:Nat)=>xs.toArray[(((xs.length:Int) - 1)+(m:Int)*(-1)).toNat]?).toArray=xs.reverse.toArray:=by
 have e:((List.range xs.length).filterMap fun (m:Nat)=>xs.toArray[(((xs.length:Int) - 1)+(m:Int)*(-1)).toNat]?)=(List.range xs.length).map fun m=>xs.getD (xs.length - 1 - m) .none:=by
   refine vI _ _ _ fun m hm=>?_
   have hm':=List.mem_range.mp hm; have e:(((xs.length:Int) - 1)+(m:Int)*(-1)).toNat=xs.length - 1 - m:=by omega
   rw [e,List.getElem?_toArray,List.getD_eq_getElem?_getD,List.getElem?_eq_getElem (by omega)]; rfl
 rw [e]
 congr 1
 apply List.ext_getElem?
 intro i
 rw [List.getElem?_map]
 by_cases hi:i < xs.length
 . rw [List.getElem?_range hi,List.getElem?_reverse hi,Option.map_some,List.getD_eq_getElem?_getD,List.getElem?_eq_getElem (by omega)]
   rfl
 . rw [List.getElem?_eq_none (by simpa using Nat.not_lt.mp hi),List.getElem?_eq_none (by simpa using Nat.not_lt.mp hi)]
   rfl
theorem Ju {prog:Program} {w:World} {A:Around} {E:Value->Shared->Prop} {s:Shared} {t sl:Addr} {its:List Value} {tk:Tok} {Q:Value->Shared->Prop} (ht:IsTup s.heap t its.toArray) (hs:s.heap.IsSliceOf sl .none .none (.int (-1) tk)) (hsz:its.length<=sizeLine)
   (h:Q (.ref s.heap.objs.size) { s with heap:=s.heap.push { cls:=.type "tuple",data:=.seq its.reverse.toArray } }):wpAny (model prog w) A (getItem (.ref t) (.ref sl)) Q E s:=by
 obtain ⟨os,hos,hcs,hds⟩:=id hs
 have hTs:s.TypeIs (.ref sl) "slice" := ⟨os,hos,hcs⟩
 have htake:sizeOk (.seq its.reverse.toArray):=by
   show its.reverse.toArray.size<=sizeLine
   rw [List.size_toArray,List.length_reverse]; exact hsz
 unfold getItem
 try with_reducible refine wpAny_holding ?_
 first | refine wpAny_bind (wpAny_pure ?_) | skip
 refine wpAny_bind (wpAny_sequenceKey ht.typeIs (by decide) ?_)
 refine wpAny_bind (wpAny_callSpecial?_slot (name:=Str.ofString "__getitem__") ht.typeIs PyProof.Rows.slot_tuple_getitem
   (wpAny_call_entry PyProof.Rows.slot_tuple_getitem ht.typeIs entry_tuple_getitem ?_ (args_tuple_getitem _ _)))
 show wpAny _ _ (Builtin.Tuple.tupleItemsOf (.ref t)>>=_) _ _ s
 refine wpAny_bind (tupleItemsOf_ ht ?_)
 refine wpAny_bind (wpAny_typeOf hTs ?_)
 rw [if_pos (by decide)]
 have hz:its.toArray.size=its.length:=List.size_toArray
 have hap:∀ {Q:Int×Int×Nat->Shared->Prop},Q ((its.length:Int) - 1,-1,its.length) s->wpAny (model prog w) A.in1 (Builtin.Slice.sliceApplied (.ref sl) (pure (its.toArray.size:Int))) Q E s:=fun {Q} hQ=>by
   unfold Builtin.Slice.sliceApplied Builtin.Slice.sliceFields; refine wpAny_bind (wpAny_bind (wpAny_field hos hds (x:=.none) rfl (wpAny_bind (wpAny_field hos hds (x:=.none) rfl (wpAny_bind (wpAny_field hos hds (x:=.int (-1) tk) rfl (wpAny_pure ?_))))))); refine wpAny_bind (slicePart_int ?_); show wpAny _ _ (if ((-1:Int)==0)=true then _ else _) _ _ s
   rw [if_neg (by decide)]; refine wpAny_bind (slicePart_none (wpAny_bind (slicePart_none (wpAny_bind (wpAny_pure ?_))))); show wpAny _ _ (match Builtin.Slice.sliceAdjust none none (-1) (its.toArray.size:Int) with | (lo,hi)=>pure (lo,(-1:Int),Builtin.Slice.slicePlaces lo hi (-1))) _ _ s
   have ea:Builtin.Slice.sliceAdjust none none (-1) (its.toArray.size:Int)=((its.length:Int) - 1,-1):=by
     rw [hz]; rfl
   rw [ea]; show wpAny _ _ (pure ((its.length:Int) - 1,(-1:Int),Builtin.Slice.slicePlaces ((its.length:Int) - 1) (-1) (-1))) _ _ s
   have ep:Builtin.Slice.slicePlaces ((its.length:Int) - 1) (-1) (-1)=its.length:=by
     unfold Builtin.Slice.slicePlaces; rw [if_neg (by decide)]
     split
     . have : ((its.length : Int) - 1 - -1 - 1) / (- -1) = (its.length : Int) - 1 := by
         rw [show (- -1:Int)=1 by decide,Int.ediv_one]; omega
       rw [this]; omega
     . omega
   rw [ep]; exact wpAny_pure hQ
 refine wpAny_bind (hap ?_)
 show wpAny _ _ (if (((its.length:Int) - 1==0&&(-1:Int)==1&&its.length==its.toArray.size)=true) then _ else _) _ _ s
 rw [if_neg (by simp),jD]
 first
   | exact wpAny_bind (m:=Builtin.Tuple.tupleExact _) (wpAny_newObj_type (wpAny_pure ⟨_,rfl,wpAny_pure h⟩) htake)
   | exact wpAny_bind (m:=Builtin.Tuple.tupleExact _) (wpAny_newObj_type (wpAny_bind (wpAny_pure (wpAny_pure ⟨_,rfl,wpAny_pure h⟩))) htake)
   | exact wpAny_bind (wpAny_bind (m:=Builtin.Tuple.tupleExact _) (wpAny_newObj_type (wpAny_pure (wpAny_pure ⟨_,rfl,wpAny_pure h⟩)) htake))
   | exact wpAny_bind (wpAny_bind (m:=Builtin.Tuple.tupleExact _) (wpAny_newObj_type (wpAny_pure ⟨_,rfl,wpAny_pure h⟩) htake))
noncomputable section
variable {w:World} {X:Cx} {E:EK} {pos p1 p2 p3:Pos} {a b:Expr} {f:Dn->Res PyData} {x:Str} {i:Nat}
theorem rT {j:Nat} (ha:DE X E a f):DE X E (.Subscript a (.Slice none none (some (.UnaryOp .USub (.Constant (.int 1) j p1) p2)) p3) pos) (b1 f fV):=by
 rintro pins s σ H Q I ⟨G,δ,S,aft⟩
 have hh:tD E f σ H (fun v H1=>∃ G1 d,Same G1 H1/\Rep G1 d v/\Aft E G1 H1 (ofO (fV d)) Q):=M6 S aft fun d v G1 H1 g1 r1 S1 a1=>⟨G1,d,S1.sub,r1,a1⟩
 refine Subscript_ (thn (ha pins s σ H _ I hh) fun v s1 hZ2=>?_)
 obtain ⟨x,H1,I1,rx,G1,d,hG,rd,a1⟩:=hZ2
 refine wpAny_Slice ?_
 rw [evalPart_none]
 refine wpAny_pure (wpAny_pure ?_)
 rw [evalPart_some]
 refine thn ((rB gU (jI (i:=1) (j:=j) (pos:=p1))) pins s1 σ H1 (fun v H2=>v=.int (-1)/\H2=H1) I1 ⟨1,rfl,rfl,rfl⟩) fun u s2 hZ2=>?_
 obtain ⟨y,H2,I2,ry,ey,eh⟩:=hZ2
 subst ey eh
 obtain ⟨tk,rfl⟩:=ry
 cases d with
 | tuple ds =>
   obtain ⟨q,xs,rfl,h1,l1⟩:=rd; cases rx; have I3:Inv X pins σ H2 { s2 with heap:=s2.heap.push { cls:=.type "slice",data:=.fields #[.none,.none,.int (-1) tk] } }:=I2.kept (t':=s2.toks) fun b ob q=>Heap.get?_push_of_some _ q
   obtain ⟨z,its,rv,ht⟩:=Bb I3 hG h1; show wpAny (model X.prog X.w) X.A (subscriptTail a _ (.ref q) (.ref s2.heap.objs.size)) (EP X pins σ Q) X.xe { s2 with heap:=s2.heap.push { cls:=.type "slice",data:=.fields #[.none,.none,.int (-1) tk] } }
   refine tail_any (ops:=[.ref q,.ref s2.heap.objs.size]) ht.typeIs PyProof.Rows.slot_tuple_getitem.lookup (Ju ht (Heap.IsSliceOf.new ..) (by rw [<- rv.length]; exact z) ?_) (by with_unfolding_all rfl)
   exact Ny (t':=s2.toks) I3 hG rv.reverse l1.reverse (by rw [List.length_reverse]; exact z) a1
 | _=>exact (show False from a1).elim
end
end Sm
end
noncomputable section
namespace Sm
open PySem PySem.Spec PyProof.Rows L2
end Sm
end
noncomputable section
namespace Sm
open PySem PySem.Spec PyProof.Rows L2
end Sm
end
noncomputable section
namespace Sm
open PySem PySem.Spec PyProof.Rows L2
end Sm
end
noncomputable section
namespace Sm
open PySem PySem.Spec PyProof.Rows L2
end Sm
end
noncomputable section
namespace Sm
open PySem PySem.Spec PyProof.Rows L2
end Sm
namespace Sm
open PySem PySem.Spec PyProof.Rows L2
end Sm
end
noncomputable section
namespace Sm
open PySem PySem.Spec PyProof.Rows L2
end Sm
end
noncomputable section
namespace Sm
open PySem PySem.Spec PyProof.Rows L2
noncomputable section
variable {a b c d:Expr}
noncomputable def st3 (i j l:Nat):PyData->Dn->Option Dn:=fun d δ=>match d with
 | .tuple [a,b,c]=>some (((δ.set i (.sh a)).set j (.sh b)).set l (.sh c))
 | _=>none
end
end Sm
end
noncomputable section
namespace Sm
open PySem PySem.Spec PyProof.Rows L2
end Sm
end
noncomputable section
namespace Sm
open PySem PySem.Spec PyProof.Rows PySem.W L2
end Sm
end
noncomputable section
namespace Sm
open PySem PySem.Spec PyProof.Rows PySem.W L2
end Sm
end
noncomputable section
namespace Sm
open PySem PySem.Spec PyProof.Rows PySem.W L2
noncomputable def Hy {K:Type} [DecidableEq K] (l:List K):List K:=l.foldl Ly []
theorem eS {K:Type} [DecidableEq K] (ks:Nat->K):∀ i,kE ks i=((List.range i).map ks).foldl Ly []:=by
 intro iN; induction iN with
 | zero=>skip; exact rfl
 | succ i ih=>skip; rw [List.range_succ,List.map_append,List.foldl_append,<- ih]; rfl
theorem eT {K:Type} [DecidableEq K] (l:List K) (d:K):kE (fun i=>l.getD i d) l.length=Hy l:=by
 rw [eS]
 have:(List.range l.length).map (fun i=>l.getD i d)=l:=by
   apply List.ext_getElem
   . simp
   . intro i h1 h2; simp [h2]
 rw [this]; rfl
theorem Jx {K:Type} [DecidableEq K] {l:List K} {x:K}:x∈Hy l↔x∈l:=by
 have:∀ (l m:List K),x∈l.foldl Ly m↔x∈m\/x∈l:=fun l=>by
   induction l with
   | nil=>intro m; simp
   | cons y l ih =>
     intro m; rw [List.foldl_cons,ih]; unfold Ly
     split
     . rename_i hy
       constructor
       . rintro (h | h)
         . exact .inl h
         . exact .inr (.tail _ h)
       . rintro (h | h)
         . exact .inl h
         . rcases List.mem_cons.mp h with rfl | h
           . exact .inl hy
           . exact .inr h
     . simp [or_assoc]
 rw [Hy,this]; simp
theorem Inv.dr {X:Cx} {pins:List (Addr×Obj)} {σ:List (Option V)} {H:Hp} {s:Shared} (d:Drawn) (I:Inv X pins σ H s):Inv X pins σ H { s with drawn:=d }:=⟨I.ok,I.os,I.bare,I.base,I.loc,I.cell,I.free,I.freeC,I.pin,I.hok,I.len⟩
end Sm
end
noncomputable section
namespace Sm
open PySem PySem.Spec PySem.W PyProof.Rows L2
noncomputable def fK {α:Type} (rk:α->Int) (p:α):List α->List α
 | []=>[p]
 | q::r=>if rk p < rk q then p::q::r else q::fK rk p r
noncomputable def Bp {α:Type} (rk:α->Int):List α->List α
 | []=>[]
 | p::r=>fK rk p (Bp rk r)
noncomputable section
variable {α:Type} {rk:α->Int}
theorem Tg (p:α):∀ l,(fK rk p l).Perm (p::l):=by
 intro iN; induction iN with
 | nil=>skip; exact List.Perm.refl _
 | cons q r ih =>
   skip
   unfold fK
   split
   . exact List.Perm.refl _
   . exact ((ih).cons q).trans (List.Perm.swap p q r)
theorem As:∀ l,(Bp rk l).Perm l:=by
 intro iN; induction iN with
 | nil=>skip; exact List.Perm.refl _
 | cons p r ih=>skip; exact (Tg p (Bp rk r)).trans ((ih).cons p)
theorem oU (p:α):∀ l:List α,l.Pairwise (fun a b=>rk a < rk b)->(∀ q∈l,rk q≠rk p)->(fK rk p l).Pairwise (fun a b=>rk a < rk b):=by
 intro iN; induction iN with
 | nil=>intro _ _; exact List.pairwise_singleton _ _
 | cons q r ih =>
   intro h hn; rw [List.pairwise_cons] at h; unfold fK
   split
   . rename_i c
     refine List.pairwise_cons.mpr ⟨fun x hx=>?_,List.pairwise_cons.mpr h⟩
     rcases List.mem_cons.mp hx with rfl | hx
     . exact c
     . have:=h.1 x hx; lia
   . rename_i c
     have hq:=hn q (.head _); refine List.pairwise_cons.mpr ⟨fun x hx=>?_,ih h.2 fun y hy=>hn y (.tail _ hy)⟩
     rcases List.mem_cons.mp ((Tg p r).mem_iff.mp hx) with rfl | hx
     . lia
     . exact h.1 x hx
theorem Jd:∀ l:List α,(l.map rk).Nodup->(Bp rk l).Pairwise (fun a b=>rk a < rk b):=by
 intro iN; induction iN with
 | nil=>intro _; exact .nil
 | cons p r ih =>
   intro h; rw [List.map_cons,List.nodup_cons] at h; refine oU p _ (ih h.2) fun q hq e=>h.1 ?_
   rw [<- e]; exact List.mem_map.mpr ⟨q,(As r).mem_iff.mp hq,rfl⟩
theorem Il:∀ {l m:List α},l.Perm m->l.Pairwise (fun a b=>rk a < rk b)->m.Pairwise (fun a b=>rk a < rk b)->l=m
 | [],m,h,_,_=>(List.Perm.nil_eq h)
 | a::l,[],h,_,_=>absurd h.length_eq (by simp)
 | a::l,b::m,h,h1,h2=>by
   rw [List.pairwise_cons] at h1 h2; have e:a=b:=by
     rcases List.mem_cons.mp (h.mem_iff.mp (List.mem_cons_self (a:=a) (l:=l))) with e | e
     . exact e
     . rcases List.mem_cons.mp (h.mem_iff.mpr (List.mem_cons_self (a:=b) (l:=m))) with e' | e'
       . exact e'.symm
       . have:=h1.1 b e'; have:=h2.1 a e; lia
   subst e; rw [Il (List.Perm.cons_inv h) h1.2 h2.2]
end
theorem Vd {α β:Type} (f:α->β) {l:List β} {m:List α} (p:l.Perm (m.map f)):∃ m':List α,m'.Perm m/\m'.map f=l:=by
 generalize hk:m.map f=k at p
 induction p generalizing m with
 | nil =>
   cases m with
   | nil=>exact ⟨[],List.Perm.nil,rfl⟩
   | cons _ _=>cases hk
 | cons x _ ih =>
   cases m with
   | nil=>cases hk
   | cons a m =>
     cases hk; obtain ⟨m',h1,h2⟩:=ih rfl; exact ⟨a::m',h1.cons a,by rw [List.map_cons,h2]⟩
 | swap x y l =>
   match m,hk with
   | a::b::m,hk =>
     cases hk; exact ⟨b::a::m,List.Perm.swap a b m,rfl⟩
 | trans _ _ ih1 ih2 =>
   obtain ⟨m1,h1,h2⟩:=ih2 hk; obtain ⟨m2,h3,h4⟩:=ih1 h2; exact ⟨m2,h3.trans h1,h4⟩
theorem Jw {K:Type} [DecidableEq K] (l:List K):(Hy l).Nodup:=by
 have:∀ (l m:List K),m.Nodup->(l.foldl Ly m).Nodup:=fun l=>by
   induction l with
   | nil=>exact fun m h=>h
   | cons y l ih =>
     intro m h; refine ih _ ?_; unfold Ly
     split
     . exact h
     . rename_i hy
       rw [List.nodup_append]; exact ⟨h,by simp,fun a ha b hb e=>by rw [List.mem_singleton.mp hb] at e; exact hy (e▸ha)⟩
 exact this l [] List.nodup_nil
theorem aU (ds:Nat->PyData):∀ n,(Y5 ds n).Nodup:=by
 intro iN; induction iN with
 | zero=>skip; exact List.nodup_nil
 | succ n ih =>
   skip
   show (Zd (Y5 ds n) (ds n)).Nodup
   by_cases h:ds n∈Y5 ds n
   . rw [Wo h]; exact ih
   . rw [Qw h]; exact List.nodup_cons.mpr ⟨h,ih⟩
theorem kB (ds:Nat->PyData) (d:PyData):∀ n,d∈Y5 ds n↔∃ i,i < n/\ds i=d:=by
 intro iN; induction iN with
 | zero=>skip; exact ⟨fun h=>(nomatch h),fun hZ0=>by obtain ⟨_,h,_⟩:=hZ0; exact absurd h (Nat.not_lt_zero _)⟩
 | succ n ih =>
   skip
   have ih:=ih; have e:d∈Y5 ds (n+1)↔d∈Y5 ds n\/d=ds n:=by
     show d∈Zd (Y5 ds n) (ds n)↔_
     by_cases h:ds n∈Y5 ds n
     . rw [Wo h]
       exact ⟨.inl,fun z=>z.elim id fun z=>z▸h⟩
     . rw [Qw h,List.mem_cons]
       exact ⟨fun z=>z.symm,fun z=>z.symm⟩
   rw [e,ih]
   constructor
   . rintro (⟨i,h1,h2⟩ | rfl)
     . exact ⟨i,by lia,h2⟩
     . exact ⟨n,by lia,rfl⟩
   . rintro ⟨i,h1,rfl⟩
     by_cases c:i=n
     . subst c; exact .inr rfl
     . exact .inl ⟨i,by lia,rfl⟩
set_option genInjectivity false in
structure Fam (α:Type) where
 dt:α->PyData
 ok:α->Bool
 rk:α->Int
 At:Heap->Value->α->Prop
 κ:SortKind
 inj:∀ {p q:α},ok p=true->ok q=true->rk p=rk q->p=q
 inj':∀ {p q:α},dt p=dt q->p=q
 by':∀ {prog:Program} {w:World},SortBy prog w rk At κ
 key:∀ {p:α},ok p=true->isK (dt p)=true/\(dt p).canLay0=true/\(dt p).depth<=8/\∃ xs,dt p=.tuple xs
 rep:∀ {X:Cx} {pins:List (Addr×Obj)} {σ:List (Option V)} {H G:Hp} {s:Shared} {p:α} {v:V} {u:Value},Inv X pins σ H s->Same G H->ok p=true->Rep G (dt p) v->RelV v u->At s.heap u p
abbrev Tri (α:Type):=Value×V×α
def Qx {α:Type} (F:Fam α) (G:Hp) (t:Tri α):Prop:=RelV t.2.1 t.1/\Rep G (F.dt t.2.2) t.2.1/\F.ok t.2.2=true
def SetV (w:World) (a:Addr) (us:List Value) (h:Heap):Prop:=∃ o es ep t,h.get? a=some o/\o.ExactSet/\o.data=.set es ep t/\t.fits es.size=true/\qJ w t/\es.toList.map (·.2)=us
theorem SetV.at {w:World} {a:Addr} {us:List Value} {h h':Heap} (S:SetV w a us h) (e:∀ o,h.get? a=some o->h'.get? a=some o):SetV w a us h':=by
 obtain ⟨o,es,ep,t,ho,r⟩:=S
 exact ⟨o,es,ep,t,e _ ho,r⟩
noncomputable section
variable {α:Type} [DecidableEq α] {F:Fam α} {w:World} {h:Heap} {a:Addr} {G:Hp}
theorem mV {ps:List α} {n:Nat} (hn:n=ps.length) (S:bR w (fun v d=>∃ x p,RelV x v/\Rep G d x/\d=F.dt p/\F.ok p=true) h a (Y5 (fun i=>(ps.map F.dt).getD i .none) n)) :
   ∃ trip:List (Tri α),SetV w a (trip.map (·.1)) h/\(∀ t∈trip,Qx F G t)/\(trip.map (·.2.2)).Perm (Hy ps):=by
 obtain ⟨o,es,ep,t,ds,ho,hex,hd,hf,T,hp,hl,hz⟩:=S
 have build:∀ (vs:List Value) (ds:List PyData),vs.length=ds.length->(∀ (i:Nat) v d,vs[i]? = some v->ds[i]? = some d->∃ x p,RelV x v/\Rep G d x/\d=F.dt p/\F.ok p=true)->∃ trip:List (Tri α),trip.map (·.1)=vs/\trip.map (fun t=>F.dt t.2.2)=ds/\∀ t∈trip,Qx F G t:=fun vs=>by
   induction vs with
   | nil=>intro ds hl _; cases List.eq_nil_of_length_eq_zero hl.symm; exact ⟨[],rfl,rfl,fun _ h=>nomatch h⟩
   | cons v vs ih =>
     intro ds hl h
     cases ds with
     | nil=>cases hl
     | cons d ds =>
       obtain ⟨tr,t1,t2,t3⟩:=ih ds (by simpa using hl) fun i v d e1 e2=>h (i+1) v d (by simpa using e1) (by simpa using e2)
       obtain ⟨x,p,r1,r2,rfl,r4⟩:=h 0 v d rfl rfl; exact ⟨(v,x,p)::tr,by rw [List.map_cons,t1],by rw [List.map_cons,t2],fun t ht=>by
         rcases List.mem_cons.mp ht with rfl | ht
         . exact ⟨r1,r2,r4⟩
         . exact t3 t ht⟩
 obtain ⟨trip,t1,t2,t3⟩:=build (es.toList.map (·.2)) ds (by simp [hl]) fun i v d e1 e2=>by
   rw [List.getElem?_map,Array.getElem?_toList] at e1
   cases he:es[i]? with
   | none=>rw [he] at e1; cases e1
   | some e=>rw [he] at e1; cases e1; exact hz i e d he e2
 refine ⟨trip,⟨o,es,ep,t,ho,hex,hd,hf,T,t1.symm⟩,t3,?_⟩
 have nd:((trip.map (·.2.2)).map F.dt).Nodup:=by rw [List.map_map]; exact (show (trip.map fun t=>F.dt t.2.2)=ds from t2)▸hp.nodup_iff.mpr (aU _ _)
 have nd':(trip.map (·.2.2)).Nodup:=by
   rw [List.Nodup,List.pairwise_map] at nd; exact nd.imp fun {p q} h e=>h (by rw [e])
 refine (List.perm_ext_iff_of_nodup nd' (Jw _)).mpr fun p=>?_
 rw [Jx]
 have e1:p∈trip.map (·.2.2)↔F.dt p∈ds:=by
   rw [<- t2,List.mem_map,List.mem_map]; exact ⟨fun hZ0=>by obtain ⟨t,h1,h2⟩:=hZ0; exact ⟨t,h1,by rw [h2]⟩,fun hZ0=>by obtain ⟨t,h1,h2⟩:=hZ0; exact ⟨t,h1,F.inj' h2⟩⟩
 rw [e1,hp.mem_iff,kB]
 constructor
 . rintro ⟨i,hi,e⟩
   have hi':i < ps.length:=by lia
   simp [List.getD,hi'] at e
   rw [<- F.inj' e]; exact List.getElem_mem hi'
 . intro h
   obtain ⟨i,hi,rfl⟩:=List.getElem_of_mem h; exact ⟨i,by lia,by simp [List.getD,hi]⟩
end
end Sm
end
noncomputable section
namespace Sm
open PySem PySem.Spec PySem.W PyProof.Rows L2
noncomputable section
variable {w:World} {X:Cx} {k:Nat} {p:Pos} {e:Expr}
variable {α:Type} [DecidableEq α]
noncomputable def Uq (b:Bool) (ds:List PyData):PyData:=if b then .tuple ds else .list ds
def rSetF (F:Fam α) (X:Cx) (xs:List V) (H:Hp) (Q:VK):Prop:=∃ G,∃ ps:List α,∃ b:Bool,Same G H/\RepL G [Uq b (ps.map F.dt)] xs/\ps.length < 64/\(∀ p∈ps,F.ok p=true) /\
 ∀ a (trip:List (Tri α)),H a=none->(∀ t∈trip,Qx F G t)->(trip.map (·.2.2)).Perm (Hy ps)->Q (.ref a) (upd H a (.ext (SetV X.w a (trip.map (·.1)))))
theorem Tq (F:Fam α) (hh:X.A.handled=none) (hu:X.A.units+64 < cLine):T5 X (.type "set") (rSetF F X):=by
 rintro pins s σ H xs us Q I r ⟨G,ps,b,hG,rl,hl,hok,q⟩
 obtain ⟨v,t0,rfl,rv,e0⟩:=rl
 cases (show t0=[] from e0)
 obtain ⟨u,rfl,ru⟩:=r.one
 have hfr:H s.heap.objs.size=none:=I.hok.fresh (Nat.le_refl _)
 have fin:∀ (s':Shared),s'.gens=s.gens->s'.drawn=s.drawn->s'.os=s.os->(∀ b o,s.heap.get? b=some o->s'.heap.get? b=some o)->∀ n,n=ps.length->bR X.w (fun v d=>∃ x p,RelV x v/\Rep G d x/\d=F.dt p/\F.ok p=true) s'.heap s.heap.objs.size (Y5 (fun i=>(ps.map F.dt).getD i .none) n)->EP X pins σ Q (.ref s.heap.objs.size) s':=fun s' g1 g2 g3 g4 n hn S=>by
   obtain ⟨trip,SV,ht,hp⟩:=mV hn S; obtain ⟨hp',g,d,tk,os⟩:=s'
   cases g1; cases g2; cases g3
   refine ⟨.ref s.heap.objs.size,_,I.laid (o:=.ext (SetV X.w s.heap.objs.size (trip.map (·.1)))) (t':=tk) g4 (Nat.le_refl _) ⟨SV,?_,fun h1 h2 a b=>SetV.at a b⟩,rfl,q _ trip hfr ht hp⟩
   obtain ⟨o,_,_,_,ho,_⟩:=SV; exact ⟨o,ho⟩
 have elt:∀ {vs:List V} {its:List Value},RepL G (ps.map F.dt) vs->Vals vs its->its.length=ps.length/\∀ (i:Nat) v,its[i]? = some v->KeyIn s.heap v ((ps.map F.dt).getD i .none)/\∃ x p,RelV x v/\Rep G ((ps.map F.dt).getD i .none) x/\(ps.map F.dt).getD i .none=F.dt p/\F.ok p=true:=fun {vs its} l1 rr=>by
   have hlen:=rr.length; have hyl:=l1.length; rw [List.length_map] at hyl; refine ⟨by lia,fun i v hv=>?_⟩
   have hi:i < its.length:=(List.getElem?_eq_some_iff.mp hv).1; have hi':i < ps.length:=by lia
   have ed:(ps.map F.dt)[i]? = some (F.dt ps[i]):=by rw [List.getElem?_map,List.getElem?_eq_getElem hi']; rfl
   obtain ⟨x,x1,x2⟩:=l1.get ed; obtain ⟨v',y1,y2⟩:=rr.get x1; rw [hv] at y1; cases y1; have eg:(ps.map F.dt).getD i .none=F.dt ps[i]:=by simp [List.getD,hi']
   have okp:=hok _ (List.getElem_mem hi'); obtain ⟨k1,k2,k3,k4⟩:=F.key okp; rw [eg]; exact ⟨⟨Rep.reads I hG x2 y2,k1,k2,k3,k4⟩,x,_,y2,x2,rfl,okp⟩
 cases b with
 | false =>
   obtain ⟨l,vs,rfl,h1,l1⟩:=(show Rep G (.list (ps.map F.dt)) v from rv)
   cases (show u=Value.ref l from ru)
   obtain ⟨z,its,n,rr,ho⟩:=X2 I hG h1; obtain ⟨hle,hel⟩:=elt l1 rr; refine gC (Z:=fun v d=>∃ x p,RelV x v/\Rep G d x/\d=F.dt p/\F.ok p=true) (ds:=fun i=>(ps.map F.dt).getD i .none) hh ⟨_,ho,rfl,n,rfl⟩ (by lia) (fun i v hv=>hel i v (by simpa using hv)) (by simp; lia) fun s' g1 g2 g3 g4 S=>fin s' g1 g2 g3 g4 _ (by simp [hle]) S
 | true =>
   obtain ⟨l,vs,rfl,h1,l1⟩:=(show Rep G (.tuple (ps.map F.dt)) v from rv)
   cases (show u=Value.ref l from ru)
   obtain ⟨z,its,rr,o,ho,hc,m,hd⟩:=Bb I hG h1; obtain ⟨hle,hel⟩:=elt l1 rr; refine bJ (Z:=fun v d=>∃ x p,RelV x v/\Rep G d x/\d=F.dt p/\F.ok p=true) (ds:=fun i=>(ps.map F.dt).getD i .none) hh ⟨_,ho,hc,m,hd⟩ (by lia) (fun i v hv=>hel i v (by simpa using hv)) (by simp; lia) fun s' g1 g2 g3 g4 S=>fin s' g1 g2 g3 g4 _ (by simp [hle]) S
theorem lF {β:Type} (tr:List β):∀ (l:List Nat),(∀ i∈l,i < tr.length)->∀ j:Nat,(l.filterMap (tr[·]?))[j]? = (l[j]?).bind (tr[·]?):=by
 intro iN; induction iN with
 | nil=>intro _ _; exact rfl
 | cons i l ih =>
   intro h j; have hi:=h i (.head _); rw [List.filterMap_cons_some (List.getElem?_eq_getElem hi)]
   cases j with
   | zero=>simp [hi]
   | succ j=>simpa using ih (fun k hk=>h k (.tail _ hk)) j
theorem lE {β:Type} (tr:List β):(List.range tr.length).filterMap (tr[·]?)=tr:=by
 apply List.ext_getElem?
 intro j
 rw [lF tr _ fun i hi=>List.mem_range.mp hi]
 by_cases hj:j < tr.length
 . simp [hj]
 . rw [List.getElem?_eq_none (by simpa using Nat.not_lt.mp hj),List.getElem?_eq_none (Nat.not_lt.mp hj)]; rfl
def Fg (F:Fam α) (X:Cx) (xs:List V) (H:Hp) (Q:VK):Prop:=∃ a G,∃ trip:List (Tri α),xs=[.ref a]/\Same G H/\H a=some (.ext (SetV X.w a (trip.map (·.1))))/\(∀ t∈trip,Qx F G t)/\(trip.map (·.2.2)).Nodup/\trip.length < 64 /\
 ∀ l ys,H l=none->RepL G ((Bp F.rk (trip.map (·.2.2))).map F.dt) ys->Q (.ref l) (upd H l (.lst ys))
theorem eH {F:Fam α} {G:Hp}:∀ (tr:List (Tri α)),(∀ t∈tr,Qx F G t)->RepL G (tr.map fun t=>F.dt t.2.2) (tr.map (·.2.1))/\Vals (tr.map (·.2.1)) (tr.map (·.1)):=by
 intro iN; induction iN with
 | nil=>intro _; exact ⟨rfl,.nil⟩
 | cons t tr ih =>
   intro h; obtain ⟨a1,a2⟩:=ih fun x hx=>h x (.tail _ hx)
   obtain ⟨b1,b2,_⟩:=h t (.head _); exact ⟨RepL.cons b2 a1,.cons b1 a2⟩
theorem Ql (F:Fam α) (hh:X.A.handled=none) (hu:X.A.units+64 < cLine):T5 X (.builtin "sorted") (Fg F X):=by
 rintro pins s σ H xs us Q I r ⟨a,G,trip,hxs,hG,hd,ht,hnd,h64,q⟩
 subst hxs
 obtain ⟨u,rfl,ru⟩:=r.one
 cases (show u=Value.ref a from ru)
 obtain ⟨⟨o,es,ep,t,ho,hex,hdat,hf,T,hes⟩,_⟩:=I.hok a _ hd
 have hel:es.size=trip.length:=by have:=congrArg List.length hes; simpa using this
 refine Calls.call_function_entry kind_sorted plain_sorted entry_sorted (args_sorted1 _) (wpAny_bind (m:=checkCount "sorted" 1 1 _) (wpAny_pure (wpAny_bind (Yt ho hex hdat hf T (by lia) hh fun h1 d1 tk vs hk hvs=>?_))))
 rw [hes] at hvs
 obtain ⟨tr,htp,hte⟩:=Vd (fun t:Tri α=>t.1) hvs
 have hvl:vs.length=trip.length:=by rw [<- hte,List.length_map,htp.length_eq]
 have trl:tr.length=vs.length:=by rw [<- hte,List.length_map]
 have trok:∀ t∈tr,Qx F G t:=fun t h=>ht t (htp.mem_iff.mp h)
 have trnd:(tr.map (·.2.2)).Nodup:=(htp.map _).nodup_iff.mpr hnd
 have I1:Inv X pins σ H { s with heap:=h1,drawn:=d1,toks:=tk }:=Inv.dr d1 (I.kept (t':=tk) hk)
 refine wpAny_bind (wpAny_newList ?_ (by rw [sizeLine_eq]; lia))
 have hoL:(h1.push (seqObj "list" vs.toArray 0)).get? h1.objs.size=some (seqObj "list" vs.toArray 0):=Heap.get?_push_size _ rfl
 show wpAny _ _ _ _ _ { s with heap:=h1.push (seqObj "list" vs.toArray 0),drawn:=d1,toks:=tk }
 have hndr:∀ (i j:Nat) p q,(tr.map (·.2.2))[i]? = some p->(tr.map (·.2.2))[j]? = some q->F.rk p=F.rk q->i=j:=fun i j p q e1 e2 e3=>by
   have okp:F.ok p=true:=by obtain ⟨t,h1,rfl⟩:=List.mem_map.mp (List.mem_of_getElem? e1); exact (trok t h1).2.2
   have okq:F.ok q=true:=by obtain ⟨t,h1,rfl⟩:=List.mem_map.mp (List.mem_of_getElem? e2); exact (trok t h1).2.2
   have:=F.inj okp okq e3; subst this; obtain ⟨hi,a1⟩:=List.getElem?_eq_some_iff.mp e1; obtain ⟨hj,a2⟩:=List.getElem?_eq_some_iff.mp e2; exact (List.getElem_inj (h₀:=hi) (h₁:=hj) trnd).mp (a1.trans a2.symm)
 have gv:∀ (i:Nat) v,vs[i]? = some v->∃ t,tr[i]? = some t/\t.1=v:=fun i v e=>by
   rw [<- hte,List.getElem?_map] at e
   cases ht:tr[i]? with
   | none=>rw [ht] at e; cases e
   | some t=>rw [ht] at e; cases e; exact ⟨t,rfl,rfl⟩
 refine wpAny_bind (wpAny_holding (wpAny_call_entry slot_list_sort ⟨_,hoL,rfl⟩ entry_list_sort (oY (F.by') (by simp only [Around.in1_units]; lia) (ps:=tr.map (·.2.2)) hoL (fun i v e=>?_) (by simp [trl]) (by lia) hndr fun qq g u=>⟨_,rfl,wpAny_pure ⟨_,rfl,?_⟩⟩) (args_list_sort _)))
 . obtain ⟨t,e1,e2⟩:=gv i v e
   obtain ⟨r1,r2,r3⟩:=trok t (List.mem_of_getElem? e1); refine ⟨t.2.2,by rw [List.getElem?_map,e1]; rfl,?_⟩
   rw [e2] at r1; exact F.by'.mono' (prog:=X.prog) (w:=X.w) (fun b o _ z=>Heap.get?_push_of_some _ z) (F.rep I1 hG r3 r2 r1)
 . have hq:∀ i∈qq.toList,i < tr.length:=fun i hi=>by rw [trl]; exact List.mem_range.mp (g.perm.mem_iff.mp hi)
   have fg:=lF tr qq.toList hq
   let tq:=qq.toList.filterMap (tr[·]?)
   have tqp:tq.Perm tr:=by
     have:=g.perm.filterMap (tr[·]?); rw [<- trl,lE] at this; exact this
   have tqok:∀ t∈tq,Qx F G t:=fun t h=>trok t (tqp.mem_iff.mp h)
   have e1:tq.map (·.1)=qq.toList.map fun i=>vs.getD i Value.none:=by
     apply List.ext_getElem?
     intro j; rw [List.getElem?_map,List.getElem?_map,fg]
     cases hj:qq.toList[j]? with
     | none=>rfl
     | some i =>
       have hi:=hq i (List.mem_of_getElem? hj); have hi':i < vs.length:=by lia
       have:vs[i]? = (tr[i]?).map (·.1):=by rw [<- hte,List.getElem?_map]
       rw [List.getElem?_eq_getElem hi,List.getElem?_eq_getElem hi'] at this; simp only [Option.bind_some,List.getElem?_eq_getElem hi,Option.map_some,List.getD,List.getElem?_eq_getElem hi',Option.getD_some]; exact this.symm
   have e2:tq.map (·.2.2)=Bp F.rk (trip.map (·.2.2)):=by
     refine Il (((tqp.trans htp).map _).trans (As _).symm) ?_ (Jd _ ?_)
     . rw [List.pairwise_iff_getElem]
       intro i j h1 h2 hij; simp only [List.length_map] at h1 h2; have c1:=fg i; have c2:=fg j; rw [show (qq.toList.filterMap (tr[·]?))[i]? = some tq[i] from List.getElem?_eq_getElem h1] at c1
       rw [show (qq.toList.filterMap (tr[·]?))[j]? = some tq[j] from List.getElem?_eq_getElem h2] at c2
       have hjl:j < qq.toList.length:=by
         rcases Nat.lt_or_ge j qq.toList.length with z | z
         . exact z
         . rw [List.getElem?_eq_none z] at c2; cases c2
       have hil:i < qq.toList.length:=by lia
       rw [List.getElem?_eq_getElem hil] at c1; rw [List.getElem?_eq_getElem hjl] at c2; simp only [Option.bind_some,Array.getElem_toList] at c1 c2; have hjs:j < vs.length:=by rw [<- g.size]; simpa using hjl
       have gi:qq.getD i 0=qq[i]'(by simpa using hil):=by simp [Array.getD,show i < qq.size by simpa using hil]
       have gj:qq.getD j 0=qq[j]'(by simpa using hjl):=by simp [Array.getD,show j < qq.size by simpa using hjl]
       have:=u i j tq[i].2.2 tq[j].2.2 hij hjs (by rw [gi,List.getElem?_map,<- c1]; rfl) (by rw [gj,List.getElem?_map,<- c2]; rfl)
       simpa using this
     . rw [List.Nodup,List.pairwise_map]
       refine (List.pairwise_iff_getElem.mpr fun i j h1 h2 hij e=>?_)
       have o1:F.ok (trip.map (·.2.2))[i]=true:=by obtain ⟨t,a1,a2⟩:=List.mem_map.mp (List.getElem_mem h1); rw [<- a2]; exact (ht t a1).2.2
       have o2:F.ok (trip.map (·.2.2))[j]=true:=by obtain ⟨t,a1,a2⟩:=List.mem_map.mp (List.getElem_mem h2); rw [<- a2]; exact (ht t a1).2.2
       have:=(List.getElem_inj (h₀:=h1) (h₁:=h2) hnd).mp (F.inj o1 o2 e)
       lia
   obtain ⟨rp,vp⟩:=eH tq tqok; have hfr:H h1.objs.size=none:=I1.hok.fresh (Nat.le_refl _); obtain ⟨ee,hat⟩:=sortedHeap_at (out:=List.toArray (qq.toList.map fun i=>vs.getD i Value.none)) hoL
   refine ⟨.ref h1.objs.size,_,I1.laid (o:=.lst (tq.map (·.2.1))) (t':=tk) (fun b o e=>?_) (Nat.le_refl _) ⟨?_,tq.map (·.1),ee,vp,by rw [e1]; exact hat⟩,rfl,q _ _ hfr (by rw [<- e2,List.map_map]; exact rp)⟩
   . have hlt:b < h1.objs.size:=Heap.lt_size e
     rw [sortedHeap_old (Nat.ne_of_lt hlt) (by rw [size_push']; exact Nat.lt_succ_of_lt hlt)]
     exact Heap.get?_push_of_some _ e
   . rw [List.length_map,tqp.length_eq,sizeLine_eq]; lia
end
end Sm
end
noncomputable section
set_option backward.match.sparseCases false
namespace Sm
open PySem PySem.Spec PySem.W PyProof.Rows L2
theorem rP {X:Cx} {pins:List (Addr×Obj)} {σ:List (Option V)} {H G:Hp} {s:Shared} {p:Int×Str} {v:V} {u:Value} (I:Inv X pins σ H s) (hG:Same G H) (r:Rep G (id3 p) v) (ru:RelV v u):IdAt s.heap u p:=by
 obtain ⟨b,zs,rfl,hb,lb⟩:=r
 cases ru
 obtain ⟨y,y',rfl,ry,ry'⟩:=aJ lb
 cases (show _=_ from ry); cases ry'.1
 obtain ⟨z3,its3,rv3,o3,e5,c3,m3,hd3⟩:=Bb I hG hb
 obtain ⟨u3,u4,hu3,r3,r4⟩:=Vals.two rv3
 obtain ⟨t3,rfl⟩:=r3
 obtain ⟨t4,rfl⟩:=r4
 subst hu3
 exact ⟨b,o3,t3,t4,m3,rfl,e5,c3,hd3⟩
noncomputable def Qb:Fam (Int×Str) where
 dt:=id3
 ok:=fun p=>okM p.2
 rk:=rk8
 At:=sC
 κ:=tuples' true
 inj:=Jl
 inj':=fun {p q} h=>by injection h with h; injection h with h1 h2; injection h2 with h2 _; injection h1 with h1; injection h2 with h2; exact Prod.ext h1 h2
 by':=sP
 key:=fun {p} h=>⟨rfl,Jt h,Nat.le_trans (Th p) (by decide),_,rfl⟩
 rep:=fun I hG ok r ru=>⟨ok,rP I hG r ru⟩
noncomputable def Qa:Fam Sg where
 dt:=sg3
 ok:=Ei
 rk:=Ba
 At:=lW
 κ:=tuples' false
 inj:=Xo
 inj':=fun {p q} h=>by
   injection h with h; injection h with h1 h2; injection h2 with h2 _; injection h2 with h2
   injection h1 with h; injection h with h1 h3; injection h3 with h3 _; injection h1 with h1; injection h3 with h3
   exact Prod.ext (Prod.ext h1 h3) h2
 by':=sO
 key:=fun {p} h=>⟨rfl,by
   have:=cO (Bc h).1; simp [PyData.canLay0,PyData.canLayAll0,this],by simp [PyData.depth,PyData.depthAll],_,rfl⟩
 rep:=fun {X pins σ H G s p v u} I hG ok r ru=>by
   obtain ⟨b,zs,rfl,hb,lb⟩:=r; cases ru; obtain ⟨x,x',rfl,rx,rx'⟩:=aJ lb
   cases (show _=_ from rx')
   obtain ⟨z2,its2,rv2,o,e4,cc,m,hd⟩:=Bb I hG hb; obtain ⟨u1,u2,hu2,r1,r2⟩:=Vals.two rv2; obtain ⟨t2,rfl⟩:=r2; subst hu2; have ia:=rP I hG rx r1; obtain ⟨c,e⟩:∃ c,u1=.ref c:=by obtain ⟨b',_,_,_,_,e,_⟩:=ia; exact ⟨b',e⟩
   subst e; exact ⟨ok,b,o,c,t2,m,rfl,e4,cc,hd,ia⟩
noncomputable def mH:PyData->Option (PyData×PyData)
 | .tuple [a,b]=>some (a,b)
 | _=>none
noncomputable def int8:PyData->Option Int
 | .int t=>some t
 | _=>none
noncomputable def str8:PyData->Option Str
 | .str h=>some h
 | _=>none
noncomputable def pr8:PyData->Option (Int×Str):=fun d=>(mH d).bind fun p=>(int8 p.1).bind fun t=>(str8 p.2).map fun h=>(t,h)
noncomputable def kT:PyData->Option (Int×Str):=fun d=>(pr8 d).bind fun p=>if okM p.2=true then some p else none
noncomputable def qT:PyData->Option Sg:=fun d=>(mH d).bind fun p=>(pr8 p.1).bind fun i=>(int8 p.2).bind fun n=>if Ei (i,n)=true then some (i,n) else none
noncomputable def Qv {α:Type} (f:PyData->Option α):List PyData->Option (List α)
 | []=>some []
 | d::ds=>(f d).bind fun p=>(Qv f ds).map (p::·)
theorem Zb {α:Type} {f:PyData->Option α} {F:Fam α} (hf:∀ d p,f d=some p->d=F.dt p/\F.ok p=true):∀ {ds:List PyData} {ps:List α},Qv f ds=some ps->ds=ps.map F.dt/\∀ p∈ps,F.ok p=true:=by
 intro iN; induction iN with
 | nil=>intro ps e; cases e; exact ⟨rfl,fun _ h=>nomatch h⟩
 | cons d ds ih =>
   intro ps e; obtain ⟨p,e1,e2⟩:=Option.bind_eq_some_iff.mp e; obtain ⟨r,e3,rfl⟩:=Option.map_eq_some_iff.mp e2; obtain ⟨h1,h2⟩:=ih e3; obtain ⟨h3,h4⟩:=hf d p e1; exact ⟨by rw [h3,h1,List.map_cons],fun q hq=>by
     rcases List.mem_cons.mp hq with rfl | hq
     . exact h4
     . exact h2 q hq⟩
theorem cA {d:PyData} {p:PyData×PyData} (e:mH d=some p):d=.tuple [p.1,p.2]:=by
 unfold mH at e
 split at e
 . cases e; rfl
 . cases e
theorem jC {d:PyData} {p:Int×Str} (e:pr8 d=some p):d=.tuple [.int p.1,.str p.2]:=by
 obtain ⟨q,e1,e⟩:=Option.bind_eq_some_iff.mp e
 obtain ⟨t,e2,e⟩:=Option.bind_eq_some_iff.mp e
 obtain ⟨h,e3,rfl⟩:=Option.map_eq_some_iff.mp e
 rw [cA e1]
 have a1:q.1=.int t:=by revert e2; cases q.1 <;> intro e2 <;> cases e2; rfl
 have a2:q.2=.str h:=by revert e3; cases q.2 <;> intro e3 <;> cases e3; rfl
 rw [a1,a2]
theorem kS (d:PyData) (p:Int×Str) (e:kT d=some p):d=Qb.dt p/\Qb.ok p=true:=by
 obtain ⟨q,e1,e⟩:=Option.bind_eq_some_iff.mp e
 split at e
 . rename_i h; cases e; exact ⟨jC e1,h⟩
 . cases e
theorem iO (d:PyData) (p:Sg) (e:qT d=some p):d=Qa.dt p/\Qa.ok p=true:=by
 obtain ⟨q,e1,e⟩:=Option.bind_eq_some_iff.mp e
 obtain ⟨i,e2,e⟩:=Option.bind_eq_some_iff.mp e
 obtain ⟨n,e3,e⟩:=Option.bind_eq_some_iff.mp e
 have a2:q.2=.int n:=by revert e3; cases q.2 <;> intro e3 <;> cases e3; rfl
 split at e
 . rename_i h; cases e; exact ⟨by rw [cA e1,jC e2,a2]; rfl,h⟩
 . cases e
noncomputable def sK (ds:List PyData):Option PyData:=if ds.length < 64 then match Qv kT ds with
   | some ps=>some (.list ((Bp rk8 (Hy ps)).map id3))
   | none=>match Qv qT ds with
     | some ps=>some (.list ((Bp Ba (Hy ps)).map sg3))
     | none=>none
 else none
noncomputable def Cy:List PyData->Option PyData
 | [.list ds]=>sK ds
 | [.tuple ds]=>sK ds
 | _=>none
noncomputable section
variable {P:Program} {w:World} {K:PySem.W.Frag} {mg:Str->Option Value} {base:Heap} {X:Cx} {N:List Str} {sc:Scope} {k:Nat} {df:Bool} {E:EK} {pos p p1 pos1:Pos} {e:Expr} {fs:Dn->Res (List PyData)}
theorem cV {α:Type} [DecidableEq α] (F:Fam α) {G1 H1:Hp} {vs:List V} {Q:VK} {ps:List α} {b:Bool} (hG:Same G1 H1) (r1:RepL G1 [Uq b (ps.map F.dt)] vs) (hl:ps.length < 64) (hok:∀ p∈ps,F.ok p=true)
   (a1:∀ v G' H',Grow G1 H1 G' H'->Rep G' (.list ((Bp F.rk (Hy ps)).map F.dt)) v->Q v H'):rSetF F X vs H1 fun v H2=>Fg F X [v] H2 Q:=by
 refine ⟨G1,ps,b,hG,r1,hl,hok,fun a trip ha ht hp=>?_⟩
 have hG1a:G1 a=none:=hG.free ha
 have hnd:(trip.map (·.2.2)).Nodup:=hp.nodup_iff.mpr (Jw ps)
 have hdl:(Hy ps).length<=ps.length:=by
   cases ps with
   | nil=>exact Nat.le_refl _
   | cons x r=>rw [<- eT (x::r) x]; exact kD _ _
 have hlen:trip.length < 64:=by have:=hp.length_eq; simp only [List.length_map] at this; lia
 have hsame:Bp F.rk (trip.map (·.2.2))=Bp F.rk (Hy ps):=by
   have rknd:∀ l:List α,l.Nodup->(∀ p∈l,F.ok p=true)->(l.map F.rk).Nodup:=fun l h1 h2=>by
     rw [List.Nodup,List.pairwise_map]; refine (List.pairwise_iff_getElem.mpr fun i j a1 a2 hij e=>?_)
     have:=(List.getElem_inj (h₀:=a1) (h₁:=a2) h1).mp (F.inj (h2 _ (List.getElem_mem a1)) (h2 _ (List.getElem_mem a2)) e)
     lia
   refine Il (((As _).trans hp).trans (As _).symm) (Jd _ (rknd _ hnd fun p h=>?_)) (Jd _ (rknd _ (Jw ps) fun p h=>hok p (Jx.mp h)))
   obtain ⟨t,h1,rfl⟩:=List.mem_map.mp h; exact (ht t h1).2.2
 refine ⟨a,upd G1 a (.ext (SetV X.w a (trip.map (·.1)))),trip,rfl,(Grow.new hG ha).gh,G8,fun t h=>?_,hnd,hlen,fun l ys hl rl=>?_⟩
 . obtain ⟨t1,t2,t3⟩:=ht t h
   exact ⟨t1,t2.mono (Same.upd hG1a),t3⟩
 . rw [hsame] at rl
   exact a1 _ (upd (upd G1 a (.ext (SetV X.w a (trip.map (·.1))))) l (.lst ys)) _ ((Grow.new hG ha).trans (Grow.new (Grow.new hG ha).gh hl)) ⟨l,ys,rfl,.inl G8,rl.mono (Same.upd ((Grow.new hG ha).gh.free hl))⟩
theorem gD (hh:X.A.handled=none) (hu:X.A.units+64 < cLine):T5 X (.type "set") (fun xs H Q=>rSetF Qb X xs H Q\/rSetF Qa X xs H Q):=fun pins s σ H xs us Q I r h=>h.elim (Tq Qb hh hu pins s σ H xs us Q I r) (Tq Qa hh hu pins s σ H xs us Q I r)
theorem bI (hh:X.A.handled=none) (hu:X.A.units+64 < cLine):T5 X (.builtin "sorted") (fun xs H Q=>Fg Qb X xs H Q\/Fg Qa X xs H Q):=fun pins s σ H xs us Q I r h=>h.elim (Ql Qb hh hu pins s σ H xs us Q I r) (Ql Qa hh hu pins s σ H xs us Q I r)
theorem rSetF.mono {α:Type} [DecidableEq α] {F:Fam α} {xs:List V} {H:Hp} {Q Q':VK} (h:rSetF F X xs H Q) (k:∀ v H,Q v H->Q' v H):rSetF F X xs H Q':=by
 obtain ⟨G,ps,b,a1,a2,a3,a4,a5⟩:=h
 exact ⟨G,ps,b,a1,a2,a3,a4,fun a tr h1 h2 h3=>k _ _ (a5 a tr h1 h2 h3)⟩
theorem Qe {n:Nat} (C:Cxt P w K mg base X N sc k df) (h:okGl sc "sorted" = true) (hm:mg "sorted" = none) (h':okGl sc "set" = true) (hm':mg "set" = none) (ha:DA X E [e] n fs)
   (he:starEach [.Call (.Name "set" p1) [e] [] pos1] X.env=(false,eval (.Call (.Name "set" p1) [e] [] pos1) X.env)::starEach [] X.env:=by rfl) (hpl:(backTo pos (starEach [] X.env)).any (·.1)=false:=by rfl)
   (he':starEach [e] X.env=(false,eval e X.env)::starEach [] X.env:=by rfl) (hpl':(backTo pos1 (starEach [] X.env)).any (·.1)=false:=by rfl):DE X E (.Call (.Name "sorted" p) [.Call (.Name "set" p1) [e] [] pos1] [] pos) (vFn fs Cy):=by
 obtain ⟨g1,g2,g3⟩:=okGl.gl C h
 obtain ⟨g4,g5,g6⟩:=okGl.gl C h'
 intro pins s σ H Q I q
 have hh:=I.ok.hd C.calm
 refine (PE.imp (Pq (bI hh C.hu) g1 (by rw [C.hmg]; exact hm) (by decide +kernel) (Bu (Ld (gD hh C.hu) g4 (by rw [C.hmg]; exact hm') (by decide +kernel) ha.pa g6 g5 he' hpl') Le he) g3 g2 he hpl) fun σ H Q hY99=>?_) pins s σ H Q I q
 obtain ⟨G,δ,S,aft⟩:=hY99
 refine V7 (W:=fun G H r=>Aft E G H r Q) S aft (fun g a=>Aft.grow g a) (fun c a=>a) (fun a=>a) fun ds vs G1 H1 e g1 r1 S1 a1=>?_
 have main:∀ (b:Bool) (ys:List PyData),ds=[Uq b ys]->∀ d,sK ys=some d->Aft E G1 H1 (.ok d) Q->rSetF Qb X vs H1 (fun v H2=>Fg Qb X [v] H2 Q\/Fg Qa X [v] H2 Q)\/rSetF Qa X vs H1 (fun v H2=>Fg Qb X [v] H2 Q\/Fg Qa X [v] H2 Q):=fun b ys hds d ek az=>by
   subst hds; unfold sK at ek
   split at ek
   . rename_i hc
     split at ek
     . rename_i ps ep
       cases ek; obtain ⟨rfl,hok⟩:=Zb (F:=Qb) kS ep; exact .inl ((cV Qb S1.sub r1 (by simpa using hc) hok az).mono fun v H z=>.inl z)
     . split at ek
       . rename_i ps ep
         cases ek; obtain ⟨rfl,hok⟩:=Zb (F:=Qa) iO ep; exact .inr ((cV Qa S1.sub r1 (by simpa using hc) hok az).mono fun v H z=>.inr z)
       . cases ek
   . cases ek
 cases e:Cy ds with
 | none=>rw [e] at a1; exact a1.elim
 | some d =>
   rw [e] at a1; unfold Cy at e
   split at e
   . exact main false _ rfl d e a1
   . exact main true _ rfl d e a1
   . cases e
end
end Sm
end
noncomputable section
namespace Sm
open PySem PySem.Spec PyProof.Rows PySem.W L2
noncomputable def cstC:Const->Option PyData
 | .int i=>some (.int i)
 | .str x=>if PyData.strOk x=true/\x.length<=sizeLine then some (.str x) else none
 | .none=>some .none
 | _=>none
noncomputable def cst:Nat->Expr->Option PyData
 | 0,_=>none
 | n+1,e=>match e with
   | .Constant c _ _=>cstC c
   | .Tuple es _ _=>if es.length<=sizeLine then ((es.map (cst n)).foldr (fun o r=>match o,r with | some d,some ds=>some (d::ds) | _,_=>none) (some [])).map .tuple else none
   | _=>none
noncomputable def Ob:List (Option PyData)->Option (List PyData):=fun l=>l.foldr (fun o r=>match o,r with | some d,some ds=>some (d::ds) | _,_=>none) (some [])
noncomputable section
variable {X:Cx} {E:EK} {e:Expr} {x:Str}
theorem T9 {n:Nat} {d:PyData} (h:cst n e=some d):Nt e=true:=by
 cases n with
 | zero=>cases h
 | succ n=>cases e <;> first | rfl | (exfalso; unfold cst at h; cases h)
theorem sB {n:Nat} (ih:∀ e d,cst n e=some d->DE X E e (vC d)):∀ (es:List Expr) (ds:List PyData),Ob (es.map (cst n))=some ds->DA X E es es.length (fun _=>.ok ds)
 | [],ds,h=>by cases h; exact A9
 | e::es,ds,h=>by
   have h':(match cst n e,Ob (es.map (cst n)) with | some d,some ds=>some (d::ds) | _,_=>none)=some ds:=h
   cases q:cst n e with
   | none=>rw [q] at h'; cases h'
   | some d =>
     cases q2:Ob (es.map (cst n)) with
     | none=>rw [q,q2] at h'; cases h'
     | some ds2 =>
       rw [q,q2] at h'
       cases h'; exact A1 (ih e d q) (sB ih es ds2 q2) (T9 q)
theorem d_cst:∀ (n:Nat) (e:Expr) (d:PyData),cst n e=some d->DE X E e (vC d):=by
 intro n
 induction n with
 | zero=>intro _ _ h; cases h
 | succ n ih =>
   intro e d h
   cases e with
   | Constant c _ _ =>
     have h:cstC c=some d:=h
     cases c with
     | int i=>cases h; exact A6
     | str x =>
       have h:(if PyData.strOk x=true/\x.length<=sizeLine then some (PyData.str x) else none)=some d:=h
       split at h
       . rename_i z; cases h; exact E1 z.1 z.2
       . cases h
     | none=>cases h; exact Dl
     | _=>cases h
   | Tuple es _ _ =>
     unfold cst at h; dsimp only at h
     split at h
     . rename_i hl
       cases q:Ob (es.map (cst n)) with
       | none=>rw [show (es.map (cst n)).foldr _ (some [])=none from q] at h; cases h
       | some ds =>
         rw [show (es.map (cst n)).foldr _ (some [])=some ds from q] at h
         cases h; exact M5 (sB ih es ds q) hl
     . cases h
   | _=>cases h
theorem W8 {n:Nat} {d:PyData} (h:cst n e=some d):DE X E e (vC d):=d_cst n e d h
end
end Sm
end
noncomputable section
namespace Sm
open PySem PySem.Spec PyProof.Rows L2
noncomputable def top (i:Nat):Stmt:=PySem.Challenge.pw_staymark_k01_books_known.main.body.getD i (.Pass ⟨0,0,0,0⟩)
noncomputable def stm (i j:Nat):Stmt:=(B5 (top i)).getD j (.Pass ⟨0,0,0,0⟩)
structure Txt (mg:Str->Option Value):Prop where
 b_all:mg "all" = none
 b_bool:mg "bool" = none
 b_dict:mg "dict" = none
 b_enumerate:mg "enumerate" = none
 b_int:mg "int" = none
 b_isinstance:mg "isinstance" = none
 b_len:mg "len" = none
 b_list:mg "list" = none
 b_max:mg "max" = none
 b_range:mg "range" = none
 b_set:mg "set" = none
 b_sorted:mg "sorted" = none
 b_str:mg "str" = none
 b_tuple:mg "tuple" = none
 c_HANDS:∃ t,mg "HANDS" = some (.str "abcdefgh" t)
 c_LONGEST_NAME:∃ t,mg "LONGEST_NAME" = some (.int 6 t)
 c_MOST_ADDED:∃ t,mg "MOST_ADDED" = some (.int 20 t)
 c_MOST_DROPPED:∃ t,mg "MOST_DROPPED" = some (.int 400 t)
 c_SIDES:∃ t,mg "SIDES" = some (.str "lr" t)
noncomputable def Ii:List Str:=["thing", "least"]
noncomputable def Jg:Dn->Out:=(E5 (O0 (b1 (A2 0) fun d=>some (.bool (K9 "int" d))) (O0 (b1 (b1 (A2 0) fun d=>some (.bool (K9 "bool" d))) lM) (b2 (A2 0) (A2 1) (T8 .GtE)))))
noncomputable def W6:List PyData->Res PyData:=fnD Ii Jg
noncomputable def Fs:List Str:=["thing", "letters"]
noncomputable def Gz:Dn->Out:=(E5 (O0 (b1 (A2 0) fun d=>some (.bool (K9 "str" d))) (O0 (b2 (vFn (A0 (A2 0) A7) K4) (vC (.int 1)) dEq) (b2 (A2 0) (A2 1) (dIn false)))))
noncomputable def Q2:List PyData->Res PyData:=fnD Fs Gz
noncomputable def Lq:List Str:=["thing", "most", "first", "last"]
noncomputable def Lz:Dn->Out:=(C5 (sIf (cOr (L8 (B2 (b1 (A2 0) fun d=>some (.bool (K9 "str" d))))) (L8 (B2 (U2 (vC (.int 1)) (vFn (A0 (A2 0) A7) K4) (A2 1) (K5 .LtE) (K5 .LtE))))) (E5 (vC (.bool false))) F4) (E5 (vFn (A0 (D1 (G7 (fun δ=>((A2 0) δ).bind J2) E9 [2,3] N7 (U2 (A2 1) (A2 0) (A2 2) (K5 .LtE) (K5 .LtE)))) A7) Kb)))
noncomputable def Z9:List PyData->Res PyData:=fnD Lq Lz
noncomputable def Ls:List Str:=["thing"]
noncomputable def Mb:Dn->Out:=(E5 (B4 (A0 (A2 0) (A0 (vC (.int 6)) (A0 (vC (.str "a")) (A0 (vC (.str "z")) A7)))) Z9))
noncomputable def P9:List PyData->Res PyData:=fnD Ls Mb
noncomputable def Y8:List Str:=["thing"]
noncomputable def Bq:Dn->Out:=(E5 (B4 (A0 (A2 0) (A0 (vC (.int 20)) (A0 (vC (.str " ")) (A0 (vC (.str "~")) A7)))) Z9))
noncomputable def K0:List PyData->Res PyData:=fnD Y8 Bq
noncomputable def Lr:List Str:=["thing"]
noncomputable def Ma:Dn->Out:=(E5 (O0 (b1 (A2 0) fun d=>some (.bool (K9 "tuple" d))) (b2 (vFn (A0 (A2 0) A7) K4) (vC (.int 2)) dEq)))
noncomputable def R4:List PyData->Res PyData:=fnD Lr Ma
noncomputable def Ds:List Str:=["thing"]
noncomputable def Fb:Dn->Out:=(E5 (O0 (B4 (A0 (A2 0) A7) R4) (O0 (B4 (A0 (b2 (A2 0) (vC (.int 0)) dIx) (A0 (vC (.int 1)) A7)) W6) (B4 (A0 (b2 (A2 0) (vC (.int 1)) dIx) (A0 (vC (.str "abcdefgh")) A7)) Q2))))
noncomputable def E6:List PyData->Res PyData:=fnD Ds Fb
noncomputable def Dr:List Str:=["thing"]
noncomputable def Ez:Dn->Out:=(E5 (O0 (B4 (A0 (A2 0) A7) R4) (O0 (B4 (A0 (b2 (A2 0) (vC (.int 0)) dIx) A7) E6) (B4 (A0 (b2 (A2 0) (vC (.int 1)) dIx) (A0 (vC (.int 0)) A7)) W6))))
noncomputable def P2:List PyData->Res PyData:=fnD Dr Ez
noncomputable def T4:List Str:=["thing"]
noncomputable def V6:Dn->Out:=(E5 (vOr (b1 (A2 0) fun d=>some (.bool (isNone d))) (B4 (A0 (A2 0) A7) P2)))
noncomputable def D2:List PyData->Res PyData:=fnD T4 V6
noncomputable def Ft:List Str:=["thing"]
noncomputable def Ha:Dn->Out:=(E5 (O0 (B4 (A0 (A2 0) A7) R4) (O0 (B4 (A0 (b2 (A2 0) (vC (.int 0)) dIx) A7) D2) (B4 (A0 (b2 (A2 0) (vC (.int 1)) dIx) (A0 (vC (.str "lr")) A7)) Q2))))
noncomputable def N2:List PyData->Res PyData:=fnD Ft Ha
noncomputable def Fq:List Str:=["values"]
noncomputable def Gy:Dn->Out:=(E5 (vFn (A0 (D1 (G7 (fun δ=>((A0 (b2 (vFn (A0 (A2 0) A7) K4) (vC (.int 1)) Jz) A7) δ).bind Ff) E9 [0] N7 (b2 (b2 (A2 1) (A2 0) dIx) (b2 (A2 1) (b2 (A2 0) (vC (.int 1)) C7) dIx) (K5 .Lt)))) A7) Kb))
noncomputable def N1:List PyData->Res PyData:=fnD Fq Gy
noncomputable def V8:List Str:=["thing"]
noncomputable def Du:Dn->Out:=(sIf (cOr (L8 (B2 (b1 (A2 0) fun d=>some (.bool (K9 "tuple" d))))) (L8 (B2 (U2 (vC (.int 1)) (vFn (A0 (A2 0) A7) K4) (vC (.int 400)) (K5 .LtE) (K5 .LtE))))) (E5 (vC (.bool false))) F4)
noncomputable def Dt:Dn->Out:=(E5 (O0 (vFn (A0 (D1 (G7 (fun δ=>((A2 0) δ).bind J2) E9 [] N7 (B4 (A0 (A2 0) A7) P2))) A7) Kb) (B4 (A0 (A2 0) A7) N1)))
noncomputable def Fa:Dn->Out:=(C5 Du Dt)
noncomputable def M9:List PyData->Res PyData:=fnD V8 Fa
noncomputable def Q7:List Str:=["word", "parts"]
noncomputable def Gs:Dn->Out:=(sIf (B2 (b2 (A2 0) (vC (.str "add")) dEq)) (E5 (O0 (b2 (vFn (A0 (A2 1) A7) K4) (vC (.int 2)) dEq) (O0 (B4 (A0 (b2 (A2 1) (vC (.int 0)) dIx) A7) D2) (B4 (A0 (b2 (A2 1) (vC (.int 1)) dIx) A7) K0)))) F4)
noncomputable def Gr:Dn->Out:=(sIf (B2 (b2 (A2 0) (vC (.str "drop")) dEq)) (E5 (O0 (b2 (vFn (A0 (A2 1) A7) K4) (vC (.int 1)) dEq) (B4 (A0 (b2 (A2 1) (vC (.int 0)) dIx) A7) M9))) F4)
noncomputable def Gq:Dn->Out:=(sIf (B2 (b2 (A2 0) (vC (.str "mark")) dEq)) (E5 (O0 (b2 (vFn (A0 (A2 1) A7) K4) (vC (.int 3)) dEq) (O0 (B4 (A0 (b2 (A2 1) (vC (.int 0)) dIx) A7) P9) (O0 (B4 (A0 (b2 (A2 1) (vC (.int 1)) dIx) A7) N2) (B4 (A0 (b2 (A2 1) (vC (.int 2)) dIx) A7) N2))))) F4)
noncomputable def Gp:Dn->Out:=(sIf (B2 (b2 (A2 0) (vC (.str "unmark")) dEq)) (E5 (O0 (b2 (vFn (A0 (A2 1) A7) K4) (vC (.int 1)) dEq) (B4 (A0 (b2 (A2 1) (vC (.int 0)) dIx) A7) P9))) F4)
noncomputable def Go:Dn->Out:=(sIf (B2 (b2 (A2 0) (vC (.str "undo")) dEq)) (E5 (O0 (b2 (vFn (A0 (A2 1) A7) K4) (vC (.int 1)) dEq) (B4 (A0 (b2 (A2 1) (vC (.int 0)) dIx) A7) E6))) F4)
noncomputable def Gn:Dn->Out:=(E5 (vC (.bool false)))
noncomputable def Jh:Dn->Out:=(C5 Gs (C5 Gr (C5 Gq (C5 Gp (C5 Go Gn)))))
noncomputable def T1:List PyData->Res PyData:=fnD Q7 Jh
noncomputable def R5:List Str:=["deed", "named"]
noncomputable def Ci:Dn->Out:=(M1 1 (D1 A7))
noncomputable def W5:Dn->Out:=(sIf (B2 (b2 (b2 (A2 0) (vC (.int 0)) dIx) (vC (.str "add")) dEq)) (M1 1 (D1 (A0 (b2 (A2 0) (vC (.int 2)) dIx) A7))) (sIf (B2 (b2 (b2 (A2 0) (vC (.int 0)) dIx) (vC (.str "drop")) dEq)) (M1 1 (vFn (A0 (b2 (A2 0) (vC (.int 2)) dIx) A7) Y7)) (sIf (B2 (b2 (b2 (A2 0) (vC (.int 0)) dIx) (vC (.str "mark")) dEq)) (M1 1 (D1 (A0 (b2 (b2 (A2 0) (vC (.int 3)) dIx) (vC (.int 0)) dIx) (A0 (b2 (b2 (A2 0) (vC (.int 4)) dIx) (vC (.int 0)) dIx) A7)))) F4)))
noncomputable def W4:Dn->Out:=(E5 (D1 (G7 (fun δ=>((A2 1) δ).bind J2) E9 [] (fun δ=>((A2 0) δ).bind fun d=>.ok (!isNone d)) (A2 0))))
noncomputable def Ec:Dn->Out:=(C5 Ci (C5 W5 W4))
noncomputable def G9:List PyData->Res PyData:=fnD R5 Ec
noncomputable def Cd:List Str:=["deed"]
noncomputable def Ee:Dn->Out:=(C5 (sIf (B2 (b2 (b2 (A2 0) (vC (.int 0)) dIx) (vC (.str "undo")) dEq)) (E5 (D1 (A0 (b2 (A2 0) (vC (.int 2)) dIx) A7))) F4) (E5 (D1 (G7 (fun δ=>((B4 (A0 (A2 0) A7) G9) δ).bind J2) E9 [] N7 (b2 (A2 0) (vC (.int 0)) dIx)))))
noncomputable def K8:List PyData->Res PyData:=fnD Cd Ee
noncomputable def Aa:List Str:=["thing"]
noncomputable def Iq:Dn->Out:=(sIf (cOr (L8 (B2 (b1 (A2 0) fun d=>some (.bool (K9 "tuple" d))))) (cOr (B2 (b2 (vFn (A0 (A2 0) A7) K4) (vC (.int 2)) (K5 .Lt))) (L8 (B2 (B4 (A0 (b2 (A2 0) (vC (.int 1)) dIx) A7) E6))))) (E5 (vC (.bool false))) F4)
noncomputable def Ip:Dn->Out:=(sIf (L8 (B2 (B4 (A0 (b2 (A2 0) (vC (.int 0)) dIx) (A0 (vSl (A2 0) (O5 (vC (.int 2))) P1) A7)) T1))) (E5 (vC (.bool false))) F4)
noncomputable def Io:Dn->Out:=(E5 (vFn (A0 (D1 (G7 (fun δ=>((B4 (A0 (A2 0) A7) K8) δ).bind J2) E9 [0] N7 (b2 (b2 (A2 0) (vC (.int 0)) dIx) (b2 (b2 (A2 1) (vC (.int 1)) dIx) (vC (.int 0)) dIx) (K5 .Lt)))) A7) Kb))
noncomputable def Mc:Dn->Out:=(C5 Iq (C5 Ip Io))
noncomputable def D8:List PyData->Res PyData:=fnD Aa Mc
noncomputable def Cc:List Str:=["deed"]
noncomputable def Ed:Dn->Out:=(E5 (vIf (B2 (b2 (b2 (A2 0) (vC (.int 0)) dIx) (vC (.str "add")) dEq)) (vFn (A0 (b2 (A2 0) (vC (.int 3)) dIx) A7) K4) (vC (.int 0))))
noncomputable def X3:List PyData->Res PyData:=fnD Cc Ed
noncomputable def Kl:List Str:=["deeds"]
noncomputable def Hr:Dn->Res Kvs:=(Ub (G7 (fun δ=>((A2 0) δ).bind J2) E9 [] N7 (L9 (A0 (b2 (A2 0) (vC (.int 1)) dIx) (A0 (A2 0) A7)))))
noncomputable def X6:List PyData->Res Kvs:=fnW Kl Hr
noncomputable def En:List Str:=["known", "deed"]
noncomputable def Br:Dn->Res PyData:=(rIf (L8 (B2 (vFn (A0 (D1 (G7 (fun δ=>((B4 (A0 (A2 1) A7) K8) δ).bind J2) E9 [0] N7 (sG 1 (A2 0)))) A7) Kb))) (vC (.bool false)) (vFn (A0 (D1 (G7 (fun δ=>((B4 (A0 (A2 1) A7) G9) δ).bind J2) E9 [0] N7 (b2 (b2 (A2 0) (vC (.int 1)) dIx) (B4 (A0 (gT 1 (b2 (A2 0) (vC (.int 0)) dIx)) A7) X3) (K5 .Lt)))) A7) Kb))
noncomputable def L5:List (PyData×PyData)->PyData->Res PyData:=fnL Br
noncomputable def Ab:List Str:=["thing", "known"]
noncomputable def Ir:Dn->Out:=(sIf (cOr (L8 (B2 (b1 (A2 0) fun d=>some (.bool (K9 "tuple" d))))) (L8 (B2 (vFn (A0 (D1 (G7 (fun δ=>((A2 0) δ).bind J2) E9 [] N7 (B4 (A0 (A2 0) A7) D8))) A7) Kb)))) (E5 (vC (.bool false))) F4)
noncomputable def V3:Dn->Out:=(cH 1 (gK (A0 (A2 0) A7) X6))
noncomputable def De:Dn->Out:=(E5 (O0 (B4 (A0 (D1 (G7 (fun δ=>((A2 0) δ).bind J2) E9 [] N7 (b2 (A2 0) (vC (.int 1)) dIx))) A7) N1) (vFn (A0 (D1 (G7 (fun δ=>((A2 0) δ).bind J2) E9 [1] N7 (Zh 1 (A2 0) L5))) A7) Kb)))
noncomputable def Md:Dn->Out:=(C5 Ir (C5 V3 De))
noncomputable def K2:List PyData->Res PyData:=fnD Ab Md
noncomputable def Bw:List Str:=["_law_script", "_law_k"]
noncomputable def Ca:Dn->Out:=(C5 (sIf (B2 (b2 (A2 0) (D1 A7) dEq)) (E5 (b2 (vC (.int 7)) (A2 1) M3)) F4) (E5 (b2 (b2 (A2 0) (b2 (A2 1) (vFn (A0 (A2 0) A7) K4) W0) dIx) (b2 (vC (.int 6553)) (b2 (A2 1) (vFn (A0 (A2 0) A7) K4) Q3) M3) C7)))
noncomputable def X7:List PyData->Res PyData:=fnD Bw Ca
noncomputable def Z7:List Str:=["_law_script", "_law_k", "_law_many", "_law_cell_here"]
noncomputable def Az:Dn->Out:=(C5 (M1 3 (b2 (b2 (b2 (b2 (B4 (A0 (A2 0) (A0 (A2 1) A7)) X7) (vC (.int 2147483563)) W0) (vC (.int 69069)) M3) (b2 (vC (.int 104723)) (b2 (A2 1) (vC (.int 1)) C7) M3) C7) (vC (.int 2147483563)) W0)) (C5 (M1 3 (b2 (b2 (b2 (A2 3) (A2 3) M3) (b2 (A2 3) (vC (.int 3)) Q3) C7) (vC (.int 2147483399)) W0)) (E5 (b2 (b2 (b2 (b2 (b2 (A2 3) (A2 3) M3) (b2 (A2 3) (vC (.int 7)) Q3) C7) (vC (.int 2147483647)) W0) (vC (.int 11)) Q3) (A2 2) W0))))
noncomputable def A8:List PyData->Res PyData:=fnD Z7 Az
noncomputable def Q8:List Str:=["_law_script", "_law_at", "_law_found", "_law_k", "_law_word"]
noncomputable def Y3:Dn->Out:=(iR 2 A7)
noncomputable def Y2:Dn->Out:=(Es (fun δ=>((A0 (vC (.int 3)) A7) δ).bind Ff) (st1 3) (C5 (M1 4 (b2 (b2 (vC (.str "abcdefghijklmnopqrstuvwxyz")) (B4 (A0 (A2 0) (A0 (b2 (A2 1) (b2 (vC (.int 2)) (A2 3) M3) C7) (A0 (vC (.int 26)) A7))) A8) dIx) (B4 (A0 (A2 0) (A0 (b2 (b2 (A2 1) (b2 (vC (.int 2)) (A2 3) M3) C7) (vC (.int 1)) C7) (A0 (vC (.int 2)) A7))) A8) M3)) (iT 2 (b2 (D1 (A0 (b2 (A2 4) (b2 (vC (.str "xyz")) (A2 3) dIx) C7) (A0 (b2 (b2 (vC (.str "xyz")) (A2 3) dIx) (A2 4) C7) A7))) (B4 (A0 (A2 0) (A0 (b2 (A2 1) (vC (.int 6)) C7) (A0 (vC (.int 2)) A7))) A8) dIx))))
noncomputable def Y1:Dn->Out:=(sFz 2 (E5 (A2 2)))
noncomputable def Ax:Dn->Out:=(C5 Y3 (C5 Y2 Y1))
noncomputable def E7:List PyData->Res PyData:=fnD Q8 Ax
noncomputable def Z5:List Str:=["_law_script", "_law_at"]
noncomputable def Av:Dn->Out:=(E5 (gS "" (D1 (G7 (fun δ=>((A0 (b2 (vC (.int 1)) (B4 (A0 (A2 0) (A0 (b2 (A2 1) (vC (.int 4)) C7) (A0 (vC (.int 4)) A7))) A8) C7) A7) δ).bind Ff) E9 [0,1] N7 (b2 (vC (.str "ab cd~ <")) (B4 (A0 (A2 1) (A0 (b2 (A2 2) (A2 0) C7) (A0 (vC (.int 8)) A7))) A8) dIx)))))
noncomputable def K3:List PyData->Res PyData:=fnD Z5 Av
noncomputable def Z6:List Str:=["_law_book_here", "_law_found", "_law_deed_here"]
noncomputable def Aw:Dn->Out:=(C5 (M1 1 (D1 A7)) (C5 (Es (fun δ=>((A2 0) δ).bind J2) (st1 2) (sIf (B2 (b2 (b2 (A2 2) (vC (.int 0)) dIx) (vC (.str "add")) dEq)) (M1 1 (b2 (A2 1) (D1 (G7 (fun δ=>((A0 (vFn (A0 (b2 (A2 2) (vC (.int 3)) dIx) A7) K4) A7) δ).bind Ff) E9 [2] N7 (L9 (A0 (b2 (A2 1) (vC (.int 1)) dIx) (A0 (A2 0) A7))))) C7)) F4)) (E5 (A2 1))))
noncomputable def D4:List PyData->Res PyData:=fnD Z6 Aw
noncomputable def X4:List Str:=["_law_script", "_law_at", "_law_signs_here", "_law_sign"]
noncomputable def Y4:Dn->Out:=(C5 (M1 3 (b2 (b2 (D1 (A0 (vC .none) A7)) (A2 2) C7) (B4 (A0 (A2 0) (A0 (A2 1) (A0 (b2 (vFn (A0 (A2 2) A7) K4) (vC (.int 1)) C7) A7))) A8) dIx)) (E5 (L9 (A0 (A2 3) (A0 (b2 (vC (.str "lr")) (B4 (A0 (A2 0) (A0 (b2 (A2 1) (vC (.int 1)) C7) (A0 (vC (.int 2)) A7))) A8) dIx) A7)))))
noncomputable def F9:List PyData->Res PyData:=fnD X4 Y4
noncomputable def M2:List Str:=["_law_script", "_law_at", "_law_one", "_law_known", "_law_names_here", "_law_signs_here", "_law_way", "_law_behind", "_law_some", "_law_ends"]
noncomputable def An:Dn->Out:=(M1 5 (B4 (A0 (A2 3) A7) D4))
noncomputable def Am:Dn->Out:=(M1 6 (B4 (A0 (A2 0) (A0 (A2 1) (A0 (vC (.int 12)) A7))) A8))
noncomputable def Al:Dn->Out:=(sIf (Q1 (B2 (b2 (A2 6) (vC (.int 2)) (K5 .Lt))) (B2 (b2 (A2 5) (D1 A7) dNe))) (C5 (iS 8 (G7 (fun δ=>((A0 (A2 5) A7) δ).bind Qc) Mi [0,1] (B2 (b2 (B4 (A0 (A2 2) (A0 (b2 (b2 (A2 3) (vC (.int 20)) C7) (A2 0) C7) (A0 (vC (.int 4)) A7))) A8) (vC (.int 0)) dEq)) (A2 1))) (E5 (L9 (A0 (vC (.str "drop")) (A0 (A2 2) (A0 (vFn (A0 (b2 (A2 8) (b2 (vSl (A2 5) P1 (O5 (vC (.int 1)))) (vFn (A0 (b2 (A2 8) (D1 A7) dEq) A7) Mg) M3) C7) A7) He) A7)))))) F4)
noncomputable def Ak:Dn->Out:=(sIf (B2 (b2 (A2 6) (vC (.int 5)) (K5 .Lt))) (C5 (M1 9 (L9 (A0 (B4 (A0 (A2 0) (A0 (b2 (A2 1) (vC (.int 1)) C7) (A0 (A2 5) A7))) F9) (A0 (B4 (A0 (A2 0) (A0 (b2 (A2 1) (vC (.int 3)) C7) (A0 (A2 5) A7))) F9) A7)))) (E5 (b2 (L9 (A0 (vC (.str "mark")) (A0 (A2 2) (A0 (b2 (A2 4) (B4 (A0 (A2 0) (A0 (b2 (A2 1) (vC (.int 5)) C7) (A0 (vC (.int 3)) A7))) A8) dIx) A7)))) (A2 9) C7))) F4)
noncomputable def Aj:Dn->Out:=(sIf (B2 (b2 (A2 6) (vC (.int 5)) dEq)) (E5 (L9 (A0 (vC (.str "unmark")) (A0 (A2 2) (A0 (b2 (A2 4) (B4 (A0 (A2 0) (A0 (b2 (A2 1) (vC (.int 5)) C7) (A0 (vC (.int 3)) A7))) A8) dIx) A7))))) F4)
noncomputable def Ai:Dn->Out:=(sIf (Q1 (B2 (b2 (A2 6) (vC (.int 8)) (K5 .Lt))) (B2 (b2 (A2 3) (L9 A7) dNe))) (E5 (L9 (A0 (vC (.str "undo")) (A0 (A2 2) (A0 (b2 (b2 (A2 3) (B4 (A0 (A2 0) (A0 (b2 (A2 1) (vC (.int 6)) C7) (A0 (vFn (A0 (A2 3) A7) K4) A7))) A8) dIx) (vC (.int 1)) dIx) A7))))) F4)
noncomputable def Ah:Dn->Out:=(M1 7 (b2 (b2 (b2 (D1 (A0 (vC .none) A7)) (A2 5) C7) (vSl (A2 5) (O5 (b1 (vC (.int 3)) Ka)) P1) C7) (B4 (A0 (A2 0) (A0 (b2 (A2 1) (vC (.int 7)) C7) (A0 (b2 (b2 (vFn (A0 (A2 5) A7) K4) (vC (.int 1)) C7) (vFn (A0 (vSl (A2 5) (O5 (b1 (vC (.int 3)) Ka)) P1) A7) K4) C7) A7))) A8) dIx))
noncomputable def Ag:Dn->Out:=(E5 (L9 (A0 (vC (.str "add")) (A0 (A2 2) (A0 (A2 7) (A0 (B4 (A0 (A2 0) (A0 (b2 (A2 1) (vC (.int 8)) C7) A7)) K3) A7))))))
noncomputable def Bz:Dn->Out:=(C5 An (C5 Am (C5 Al (C5 Ak (C5 Aj (C5 Ai (C5 Ah Ag)))))))
noncomputable def N3:List PyData->Res PyData:=fnD M2 Bz
noncomputable def Q4:List Str:=["_law_script", "_law_at", "_law_most", "_law_names_here", "_law_found", "_law_one", "_law_k", "_law_time", "_law_hand", "_law_known"]
noncomputable def Ar:Dn->Out:=(M1 4 (L9 A7))
noncomputable def Aq:Dn->Out:=(M1 5 (L9 (A0 (vC (.int 1)) (A0 (vC (.str "a")) A7))))
noncomputable def Ap:Dn->Out:=(Es (fun δ=>((A0 (B4 (A0 (A2 0) (A0 (A2 1) (A0 (b2 (A2 2) (vC (.int 1)) C7) A7))) A8) A7) δ).bind Ff) (st1 6) (C5 (M1 7 (b2 (b2 (A2 5) (vC (.int 0)) dIx) (B4 (A0 (A2 0) (A0 (b2 (b2 (A2 1) (vC (.int 1)) C7) (b2 (vC (.int 60)) (A2 6) M3) C7) (A0 (vC (.int 2)) A7))) A8) C7)) (C5 (M1 8 (b2 (vC (.str "abc")) (B4 (A0 (A2 0) (A0 (b2 (b2 (A2 1) (vC (.int 2)) C7) (b2 (vC (.int 60)) (A2 6) M3) C7) (A0 (vC (.int 3)) A7))) A8) dIx)) (C5 (sIf (Q1 (B2 (b2 (A2 4) (L9 A7) dNe)) (B2 (b2 (L9 (A0 (A2 7) (A0 (A2 8) A7))) (A2 5) (K5 .LtE)))) (M1 7 (b2 (b2 (A2 5) (vC (.int 0)) dIx) (vC (.int 1)) C7)) F4) (C5 (M1 5 (L9 (A0 (A2 7) (A0 (A2 8) A7)))) (C5 (M1 9 (vFn (A0 (D1 (G7 (fun δ=>((A2 4) δ).bind J2) E9 [7] (B2 (b2 (b2 (b2 (A2 0) (vC (.int 1)) dIx) (vC (.int 0)) dIx) (A2 1) (K5 .Lt))) (A2 0))) A7) He)) (M1 4 (b2 (A2 4) (L9 (A0 (B4 (A0 (A2 0) (A0 (b2 (b2 (A2 1) (vC (.int 3)) C7) (b2 (vC (.int 60)) (A2 6) M3) C7) (A0 (A2 5) (A0 (A2 9) (A0 (A2 3) A7))))) N3) A7)) C7))))))))
noncomputable def Ao:Dn->Out:=(E5 (A2 4))
noncomputable def Cb:Dn->Out:=(C5 Ar (C5 Aq (C5 Ap Ao)))
noncomputable def G6:List PyData->Res PyData:=fnD Q4 Cb
noncomputable def X0:List Str:=["_law_number", "_law_some"]
noncomputable def Gw:Dn->Out:=(M1 1 (D1 (A0 (b1 (vC (.int 1)) Ka) (A0 (vC (.int 0)) (A0 (vC (.int 1)) (A0 (vC (.int 2)) (A0 (vC (.bool true)) (A0 (vC (.bool false)) (A0 (vC .none) (A0 (vC (.str "")) (A0 (vC (.str "a")) (A0 (vC (.str "i")) (A0 (vC (.str "l")) (A0 (vC (.str "add")) (A0 (vC (.str "undo")) (A0 (L9 A7) (A0 (D1 A7) (A0 (L9 (A0 (vC (.int 1)) (A0 (vC (.str "a")) A7))) (A0 (L9 (A0 (vC (.int 0)) (A0 (vC (.str "a")) A7))) (A0 (L9 (A0 (vC (.int 1)) (A0 (vC (.str "ab")) A7))) A7))))))))))))))))))))
noncomputable def Gv:Dn->Out:=(M1 1 (b2 (A2 1) (D1 (A0 (vC (.tuple [(.tuple [.int 1,.str "a"]),.int 0])) (A0 (L9 (A0 (L9 (A0 (vC (.int 1)) (A0 (vC (.str "a")) A7))) (A0 (b1 (vC (.int 1)) Ka) A7))) (A0 (L9 (A0 (vC .none) (A0 (vC (.str "l")) A7))) (A0 (L9 (A0 (vC .none) (A0 (vC (.str "x")) A7))) (A0 (vC (.tuple [.str "add",(.tuple [.int 1,.str "a"]),.none,.str "x"])) A7)))))) C7))
noncomputable def Gu:Dn->Out:=(E5 (b2 (b2 (A2 1) (D1 (A0 (vC (.str "\n")) (A0 (b2 (vC (.str "x")) (vC (.int 21)) M3) A7))) C7) (b2 (A2 0) (vC (.int 25)) W0) dIx))
noncomputable def Ji:Dn->Out:=(C5 Gw (C5 Gv Gu))
noncomputable def Be:List PyData->Res PyData:=fnD X0 Ji
noncomputable def Ce:List Str:=["_law_thing", "_law_number", "_law_deep", "_law_at", "_law_part"]
noncomputable def Ef (mself:List PyData->Res PyData):Dn->Out:=(C5 (sIf (Q1 (B2 (b2 (A2 2) (vC (.int 0)) (T8 .Gt))) (Q1 (B2 (b1 (A2 0) fun d=>some (.bool (K9 "tuple" d)))) (Q1 (B2 (b2 (vFn (A0 (A2 0) A7) K4) (vC (.int 0)) (T8 .Gt))) (B2 (b2 (b2 (A2 1) (vC (.int 7)) W0) (vC (.int 0)) (T8 .Gt)))))) (C5 (M1 3 (b2 (b2 (A2 1) (vC (.int 7)) Q3) (vFn (A0 (A2 0) A7) K4) W0)) (C5 (M1 4 (B4 (A0 (b2 (A2 0) (A2 3) dIx) (A0 (b2 (A2 1) (vC (.int 91)) Q3) (A0 (b2 (A2 2) (vC (.int 1)) Jz) A7))) mself)) (E5 (b2 (b2 (vSl (A2 0) P1 (O5 (A2 3))) (L9 (A0 (A2 4) A7)) C7) (vSl (A2 0) (O5 (b2 (A2 3) (vC (.int 1)) C7)) P1) C7)))) F4) (C5 (sIf (Q1 (B2 (b1 (A2 0) fun d=>some (.bool (K9 "tuple" d)))) (Q1 (B2 (b2 (vFn (A0 (A2 0) A7) K4) (vC (.int 0)) (T8 .Gt))) (B2 (b2 (b2 (b2 (A2 1) (vC (.int 7)) Q3) (vC (.int 2)) W0) (vC (.int 0)) dEq)))) (E5 (b2 (D1 (A0 (vFn (A0 (A2 0) A7) Y7) (A0 (vSl (A2 0) P1 (O5 (b1 (vC (.int 1)) Ka))) (A0 (b2 (A2 0) (vSl (A2 0) (O5 (b1 (vC (.int 1)) Ka)) P1) C7) (A0 (vSl (A2 0) (O5 (vC (.int 1))) P1) (A0 (b1 (A2 0) fV) (A0 (b2 (A2 0) (vC (.int 2)) M3) A7))))))) (b2 (b2 (A2 1) (vC (.int 14)) Q3) (vC (.int 6)) W0) dIx)) F4) (C5 (sIf (Q1 (B2 (b1 (A2 0) fun d=>some (.bool (K9 "int" d)))) (B2 (b2 (b2 (b2 (A2 1) (vC (.int 7)) Q3) (vC (.int 2)) W0) (vC (.int 0)) dEq))) (E5 (b2 (D1 (A0 (vFn (A0 (A2 0) A7) Hf) (A0 (b2 (vC (.int 0)) (A2 0) Jz) (A0 (b2 (A2 0) (vC (.int 1)) C7) (A0 (b2 (A2 0) (vC (.int 1)) dEq) (A0 (b2 (A2 0) (vC (.int 1)) Jz) (A0 (b2 (A2 0) (vC (.int 9)) C7) A7))))))) (b2 (b2 (A2 1) (vC (.int 14)) Q3) (vC (.int 6)) W0) dIx)) F4) (E5 (B4 (A0 (b2 (A2 1) (vC (.int 7)) Q3) A7) Be)))))
noncomputable def C8:Nat->List PyData->Res PyData
 | 0=>fun _=>.no
 | n+1=>fnD Ce (Ef (C8 n))
noncomputable def Y9:List Str:=["_law_thing", "_law_low"]
noncomputable def Bs:Dn->Out:=(E5 (O0 (b1 (A2 0) fun d=>some (.bool (K9 "int" d))) (O0 (b1 (b1 (A2 0) fun d=>some (.bool (K9 "bool" d))) lM) (b2 (A2 0) (A2 1) (T8 .GtE)))))
noncomputable def F3:List PyData->Res PyData:=fnD Y9 Bs
noncomputable def V9:List Str:=["_law_thing"]
noncomputable def Ea:Dn->Out:=(sIf (cOr (L8 (B2 (b1 (A2 0) fun d=>some (.bool (K9 "tuple" d))))) (cOr (B2 (b2 (vFn (A0 (A2 0) A7) K4) (vC (.int 2)) dNe)) (L8 (B2 (B4 (A0 (b2 (A2 0) (vC (.int 0)) dIx) (A0 (vC (.int 1)) A7)) F3))))) (E5 (vC (.bool false))) F4)
noncomputable def Dz:Dn->Out:=(E5 (O0 (b1 (b2 (A2 0) (vC (.int 1)) dIx) fun d=>some (.bool (K9 "str" d))) (b2 (b2 (A2 0) (vC (.int 1)) dIx) (L9 (A0 (vC (.str "a")) (A0 (vC (.str "b")) (A0 (vC (.str "c")) (A0 (vC (.str "d")) (A0 (vC (.str "e")) (A0 (vC (.str "f")) (A0 (vC (.str "g")) (A0 (vC (.str "h")) A7))))))))) (dIn false))))
noncomputable def Fd:Dn->Out:=(C5 Ea Dz)
noncomputable def D5:List PyData->Res PyData:=fnD V9 Fd
noncomputable def Bj:List Str:=["_law_thing"]
noncomputable def Cn:Dn->Out:=(E5 (O0 (b1 (A2 0) fun d=>some (.bool (K9 "tuple" d))) (O0 (b2 (vFn (A0 (A2 0) A7) K4) (vC (.int 2)) dEq) (O0 (B4 (A0 (b2 (A2 0) (vC (.int 0)) dIx) A7) D5) (B4 (A0 (b2 (A2 0) (vC (.int 1)) dIx) (A0 (vC (.int 0)) A7)) F3)))))
noncomputable def D9:List PyData->Res PyData:=fnD Bj Cn
noncomputable def Bi:List Str:=["_law_thing", "_law_signs_here", "_law_most"]
noncomputable def Cm:Dn->Out:=(C5 (sIf (cOr (L8 (B2 (b1 (A2 0) fun d=>some (.bool (K9 "str" d))))) (L8 (B2 (U2 (vC (.int 1)) (vFn (A0 (A2 0) A7) K4) (A2 2) (K5 .LtE) (K5 .LtE))))) (E5 (vC (.bool false))) F4) (E5 (b2 (D1 (G7 (fun δ=>((A2 0) δ).bind J2) E9 [1] (B2 (b2 (A2 0) (A2 1) (dIn true))) (A2 0))) (D1 A7) dEq)))
noncomputable def J3:List PyData->Res PyData:=fnD Bi Cm
noncomputable def O2:List Str:=["_law_thing"]
noncomputable def Z2:Dn->Out:=(sIf (cOr (L8 (B2 (b1 (A2 0) fun d=>some (.bool (K9 "tuple" d))))) (B2 (b2 (vFn (A0 (A2 0) A7) K4) (vC (.int 2)) dNe))) (E5 (vC (.bool false))) F4)
noncomputable def Z1:Dn->Out:=(sIf (cOr (L8 (B2 (b1 (b2 (A2 0) (vC (.int 1)) dIx) fun d=>some (.bool (K9 "str" d))))) (B2 (b2 (b2 (A2 0) (vC (.int 1)) dIx) (L9 (A0 (vC (.str "l")) (A0 (vC (.str "r")) A7))) (dIn true)))) (E5 (vC (.bool false))) F4)
noncomputable def Z0:Dn->Out:=(E5 (vOr (b1 (b2 (A2 0) (vC (.int 0)) dIx) fun d=>some (.bool (isNone d))) (B4 (A0 (b2 (A2 0) (vC (.int 0)) dIx) A7) D9)))
noncomputable def Ay:Dn->Out:=(C5 Z2 (C5 Z1 Z0))
noncomputable def F8:List PyData->Res PyData:=fnD O2 Ay
noncomputable def L7:List Str:=["_law_thing", "_law_letters"]
noncomputable def Af:Dn->Out:=(sIf (Q1 (B2 (b2 (b2 (A2 0) (vC (.int 0)) dIx) (vC (.str "add")) dEq)) (B2 (b2 (vFn (A0 (A2 0) A7) K4) (vC (.int 4)) dEq))) (C5 (sIf (Q1 (fun δ=>((b2 (A2 0) (vC (.int 2)) dIx) δ).bind fun d=>.ok (!isNone d)) (L8 (B2 (B4 (A0 (b2 (A2 0) (vC (.int 2)) dIx) A7) D9)))) (E5 (vC (.bool false))) F4) (C5 (sIf (cOr (L8 (B2 (b1 (b2 (A2 0) (vC (.int 3)) dIx) fun d=>some (.bool (K9 "str" d))))) (L8 (B2 (U2 (vC (.int 1)) (vFn (A0 (b2 (A2 0) (vC (.int 3)) dIx) A7) K4) (vC (.int 20)) (K5 .LtE) (K5 .LtE))))) (E5 (vC (.bool false))) F4) (E5 (b2 (D1 (G7 (fun δ=>((b2 (A2 0) (vC (.int 3)) dIx) δ).bind J2) E9 [] (L8 (B2 (U2 (vC (.str " ")) (A2 0) (vC (.str "~")) (K5 .LtE) (K5 .LtE)))) (A2 0))) (D1 A7) dEq)))) F4)
noncomputable def Ae:Dn->Out:=(sIf (Q1 (B2 (b2 (b2 (A2 0) (vC (.int 0)) dIx) (vC (.str "drop")) dEq)) (B2 (b2 (vFn (A0 (A2 0) A7) K4) (vC (.int 3)) dEq))) (C5 (sIf (cOr (L8 (B2 (b1 (b2 (A2 0) (vC (.int 2)) dIx) fun d=>some (.bool (K9 "tuple" d))))) (L8 (B2 (U2 (vC (.int 1)) (vFn (A0 (b2 (A2 0) (vC (.int 2)) dIx) A7) K4) (vC (.int 400)) (K5 .LtE) (K5 .LtE))))) (E5 (vC (.bool false))) F4) (C5 (sIf (B2 (b2 (D1 (G7 (fun δ=>((b2 (A2 0) (vC (.int 2)) dIx) δ).bind J2) E9 [] (L8 (B2 (B4 (A0 (A2 0) A7) D9))) (A2 0))) (D1 A7) dNe)) (E5 (vC (.bool false))) F4) (E5 (b2 (vFn (A0 (b2 (A2 0) (vC (.int 2)) dIx) A7) Y7) (vFn (A0 (b2 (A2 0) (vC (.int 2)) dIx) A7) Cy) dEq)))) F4)
noncomputable def U6:Dn->Out:=(M1 1 (vC (.str "abcdefghijklmnopqrstuvwxyz")))
noncomputable def U5:Dn->Out:=(sIf (Q1 (B2 (b2 (b2 (A2 0) (vC (.int 0)) dIx) (vC (.str "mark")) dEq)) (B2 (b2 (vFn (A0 (A2 0) A7) K4) (vC (.int 5)) dEq))) (E5 (O0 (B4 (A0 (b2 (A2 0) (vC (.int 2)) dIx) (A0 (A2 1) (A0 (vC (.int 6)) A7))) J3) (O0 (B4 (A0 (b2 (A2 0) (vC (.int 3)) dIx) A7) F8) (B4 (A0 (b2 (A2 0) (vC (.int 4)) dIx) A7) F8)))) F4)
noncomputable def U4:Dn->Out:=(sIf (Q1 (B2 (b2 (b2 (A2 0) (vC (.int 0)) dIx) (vC (.str "unmark")) dEq)) (B2 (b2 (vFn (A0 (A2 0) A7) K4) (vC (.int 3)) dEq))) (E5 (B4 (A0 (b2 (A2 0) (vC (.int 2)) dIx) (A0 (A2 1) (A0 (vC (.int 6)) A7))) J3)) F4)
noncomputable def U3:Dn->Out:=(E5 (O0 (b2 (b2 (A2 0) (vC (.int 0)) dIx) (vC (.str "undo")) dEq) (O0 (b2 (vFn (A0 (A2 0) A7) K4) (vC (.int 3)) dEq) (B4 (A0 (b2 (A2 0) (vC (.int 2)) dIx) A7) D5))))
noncomputable def Bt:Dn->Out:=(C5 Af (C5 Ae (C5 U6 (C5 U5 (C5 U4 U3)))))
noncomputable def K1:List PyData->Res PyData:=fnD L7 Bt
noncomputable def Q9:List Str:=["_law_deed_here"]
noncomputable def Dy:Dn->Out:=(sIf (B2 (b2 (b2 (A2 0) (vC (.int 0)) dIx) (vC (.str "add")) dEq)) (E5 (L9 (A0 (b2 (D1 (A0 (b2 (A2 0) (vC (.int 2)) dIx) A7)) (vFn (A0 (b1 (b2 (A2 0) (vC (.int 2)) dIx) fun d=>some (.bool (!isNone d))) A7) Mg) M3) (A0 (D1 A7) A7)))) F4)
noncomputable def Dx:Dn->Out:=(sIf (B2 (b2 (b2 (A2 0) (vC (.int 0)) dIx) (vC (.str "drop")) dEq)) (E5 (L9 (A0 (vFn (A0 (b2 (A2 0) (vC (.int 2)) dIx) A7) Y7) (A0 (D1 A7) A7)))) F4)
noncomputable def Dw:Dn->Out:=(sIf (B2 (b2 (b2 (A2 0) (vC (.int 0)) dIx) (vC (.str "mark")) dEq)) (E5 (L9 (A0 (D1 (G7 (fun δ=>((vSl (A2 0) (O5 (vC (.int 3))) P1) δ).bind J2) E9 [] (fun δ=>((b2 (A2 0) (vC (.int 0)) dIx) δ).bind fun d=>.ok (!isNone d)) (b2 (A2 0) (vC (.int 0)) dIx))) (A0 (D1 A7) A7)))) F4)
noncomputable def Dv:Dn->Out:=(E5 (L9 (A0 (D1 A7) (A0 (b2 (D1 (A0 (b2 (A2 0) (vC (.int 2)) dIx) A7)) (vFn (A0 (b2 (b2 (A2 0) (vC (.int 0)) dIx) (vC (.str "undo")) dEq) A7) Mg) M3) A7))))
noncomputable def Fc:Dn->Out:=(C5 Dy (C5 Dx (C5 Dw Dv)))
noncomputable def F5:List PyData->Res PyData:=fnD Q9 Fc
noncomputable def O9:List Str:=["_law_thing", "_law_signs_here", "_law_others"]
noncomputable def Bn:Dn->Out:=(sIf (cOr (L8 (B2 (b1 (A2 0) fun d=>some (.bool (K9 "tuple" d))))) (cOr (B2 (b2 (vFn (A0 (A2 0) A7) K4) (vC (.int 3)) (K5 .Lt))) (cOr (L8 (B2 (b1 (b2 (A2 0) (vC (.int 0)) dIx) fun d=>some (.bool (K9 "str" d))))) (L8 (B2 (B4 (A0 (b2 (A2 0) (vC (.int 1)) dIx) A7) D5)))))) (E5 (vC (.bool false))) F4)
noncomputable def Bm:Dn->Out:=(sIf (L8 (B2 (B4 (A0 (A2 0) A7) K1))) (E5 (vC (.bool false))) F4)
noncomputable def R9:Dn->Out:=(Pn 1 2 (B4 (A0 (A2 0) A7) F5))
noncomputable def Bl:Dn->Out:=(E5 (b2 (D1 (G7 (fun δ=>((b2 (D1 (G7 (fun δ=>((A2 1) δ).bind J2) E9 [] N7 (b2 (A2 0) (vC (.int 0)) dIx))) (A2 2) C7) δ).bind J2) E9 [0] (B2 (b2 (b2 (A2 0) (vC (.int 0)) dIx) (b2 (b2 (A2 1) (vC (.int 1)) dIx) (vC (.int 0)) dIx) (T8 .GtE))) (A2 0))) (D1 A7) dEq))
noncomputable def Co:Dn->Out:=(C5 Bn (C5 Bm (C5 R9 Bl)))
noncomputable def B7:List PyData->Res PyData:=fnD O9 Co
noncomputable def N6:List Str:=["_law_thing", "_law_ids", "_law_every", "_law_deed_here", "_law_signs_here", "_law_others"]
noncomputable def Bo:Dn->Out:=(sIf (cOr (L8 (B2 (b1 (A2 0) fun d=>some (.bool (K9 "tuple" d))))) (B2 (b2 (D1 (G7 (fun δ=>((A2 0) δ).bind J2) E9 [] (L8 (B2 (B4 (A0 (A2 0) A7) B7))) (A2 0))) (D1 A7) dNe))) (E5 (vC (.bool false))) F4)
noncomputable def V5:Dn->Out:=(M1 1 (D1 (G7 (fun δ=>((A2 0) δ).bind J2) E9 [] N7 (b2 (A2 0) (vC (.int 1)) dIx))))
noncomputable def V4:Dn->Out:=(M1 2 (B4 (A0 (A2 0) A7) D4))
noncomputable def S7:Dn->Out:=(Es (fun δ=>((A2 0) δ).bind J2) (st1 3) (C5 (Pn 4 5 (B4 (A0 (A2 3) A7) F5)) (sIf (cOr (B2 (b2 (D1 (G7 (fun δ=>((A2 4) δ).bind J2) E9 [2] (B2 (b2 (A2 0) (A2 1) (dIn true))) (A2 0))) (D1 A7) dNe)) (B2 (b2 (D1 (G7 (fun δ=>((A2 5) δ).bind J2) E9 [1] (B2 (b2 (A2 0) (A2 1) (dIn true))) (A2 0))) (D1 A7) dNe))) (E5 (vC (.bool false))) F4)))
noncomputable def S0:Dn->Out:=(E5 (b2 (A2 1) (vFn (A0 (A2 1) A7) Cy) dEq))
noncomputable def Cp:Dn->Out:=(C5 Bo (C5 V5 (C5 V4 (C5 S7 S0))))
noncomputable def C9:List PyData->Res PyData:=fnD N6 Cp
noncomputable def Fu:List Str:=["_law_thing", "_law_found", "_law_place"]
noncomputable def Hb (mself:List PyData->Res PyData):Dn->Out:=(C5 (sIf (B2 (b1 (A2 0) fun d=>some (.bool (K9 "int" d)))) (E5 (D1 (A0 (vC .none) (A0 (vC (.bool true)) (A0 (b2 (A2 0) (vC (.int 1)) Jz) (A0 (b2 (A2 0) (vC (.int 1)) C7) (A0 (vC (.int 1000)) A7))))))) F4) (C5 (sIf (L8 (B2 (b1 (A2 0) fun d=>some (.bool (K9 "tuple" d))))) (E5 (D1 (A0 (vC .none) (A0 (vC (.str "")) (A0 (vC (.str "A")) (A0 (vC (.str "zz")) (A0 (vC (.str "i")) A7))))))) F4) (C5 (M1 1 (D1 (A0 (vC .none) (A0 (vFn (A0 (A2 0) A7) Y7) (A0 (b2 (A2 0) (vSl (A2 0) (O5 (b1 (vC (.int 1)) Ka)) P1) C7) (A0 (vSl (A2 0) (O5 (vC (.int 1))) P1) A7)))))) (C5 (Es (fun δ=>((A0 (vFn (A0 (A2 0) A7) K4) A7) δ).bind Ff) (st1 2) (M1 1 (b2 (A2 1) (D1 (G7 (fun δ=>((B4 (A0 (b2 (A2 0) (A2 2) dIx) A7) mself) δ).bind J2) E9 [0,2] N7 (b2 (b2 (vSl (A2 1) P1 (O5 (A2 2))) (L9 (A0 (A2 0) A7)) C7) (vSl (A2 1) (O5 (b2 (A2 2) (vC (.int 1)) C7)) P1) C7))) C7))) (E5 (A2 1))))))
noncomputable def E3:Nat->List PyData->Res PyData
 | 0=>fun _=>.no
 | n+1=>fnD Fu (Hb (E3 n))
noncomputable def Z3:List Str:=["_law_script", "_law_book_here", "_law_thing", "_law_at", "_law_some", "_law_one", "_law_deeds", "_law_deed_here", "_law_known", "_law_base", "_law_said"]
noncomputable def Xf:Dn->Out:=(M1 1 (B4 (A0 (A2 0) (A0 (vC (.int 10)) (A0 (vC (.int 7)) (A0 (B4 (A0 (A2 0) (A0 (vC (.int 0)) A7)) E7) A7)))) G6))
noncomputable def Xe:Dn->Out:=(M1 2 (B4 (A0 (A2 1) (A0 (B4 (A0 (A2 0) (A0 (vC (.int 7)) (A0 (b2 (vC (.int 10)) (vC (.int 7)) bE) A7))) A8) (A0 (B4 (A0 (A2 0) (A0 (vC (.int 8)) (A0 (vC (.int 5)) A7))) A8) A7))) (C8 7)))
noncomputable def Xd:Dn->Out:=(M1 3 (B4 (A0 (A2 0) (A0 (vC (.int 9)) (A0 (vFn (A0 (vC (.int 1)) (A0 (vFn (A0 (A2 1) A7) K4) A7)) lN) A7))) A8))
noncomputable def Om:Dn->Out:=(M1 4 (D1 (A0 (A2 1) (A0 (A2 2) (A0 (b2 (vSl (A2 1) P1 (O5 (A2 3))) (vSl (A2 1) (O5 (b2 (A2 3) (vC (.int 1)) C7)) P1) C7) (A0 (b2 (b2 (vSl (A2 1) P1 (O5 (A2 3))) (b2 (vSl (A2 1) (O5 (A2 3)) (O5 (b2 (A2 3) (vC (.int 1)) C7))) (vC (.int 2)) M3) C7) (vSl (A2 1) (O5 (b2 (A2 3) (vC (.int 1)) C7)) P1) C7) A7))))))
noncomputable def Xc:Dn->Out:=(M1 4 (b2 (A2 4) (D1 (A0 (b1 (A2 1) fV) (A0 (vFn (A0 (A2 1) A7) Y7) A7))) C7))
noncomputable def Xb:Dn->Out:=(Es (fun δ=>((A2 4) δ).bind J2) (st1 5) (C5 (M1 10 (B4 (A0 (A2 5) A7) K2)) (sIf (cOr (L8 (B2 (b1 (A2 10) fun d=>some (.bool (K9 "bool" d))))) (B2 (b2 (A2 10) (B4 (A0 (A2 5) A7) C9) dNe))) (E5 (vC (.bool false))) F4)))
noncomputable def Xa:Dn->Out:=(M1 6 (b2 (vFn (A0 (A2 1) A7) Y7) (D1 (A0 (L9 (A0 (vC (.str "add")) (A0 (L9 (A0 (vC (.int 3)) (A0 (vC (.str "h")) A7))) (A0 (vC (.tuple [(.tuple [.int 2,.str "a"]),.int 5])) (A0 (b2 (vC (.str "x")) (vC (.int 20)) M3) A7))))) (A0 (vC (.tuple [.str "undo",(.tuple [.int 2,.str "a"]),(.tuple [.int 2,.str "a"])])) A7))) C7))
noncomputable def Wz:Dn->Out:=(M1 7 (B4 (A0 (b2 (A2 6) (A2 3) dIx) (A0 (B4 (A0 (A2 0) (A0 (vC (.int 500)) (A0 (b2 (vC (.int 10)) (vC (.int 7)) bE) A7))) A8) (A0 (B4 (A0 (A2 0) (A0 (vC (.int 501)) (A0 (vC (.int 5)) A7))) A8) A7))) (C8 7)))
noncomputable def Ey:Dn->Out:=(Es (fun δ=>((b2 (A2 6) (D1 (A0 (A2 7) (A0 (A2 2) (A0 (vIf (B2 (b1 (A2 7) fun d=>some (.bool (K9 "tuple" d)))) (b2 (A2 7) (A2 7) C7) (A2 7)) A7)))) C7) δ).bind J2) (st1 5) (C5 (M1 10 (B4 (A0 (A2 5) A7) D8)) (sIf (cOr (L8 (B2 (b1 (A2 10) fun d=>some (.bool (K9 "bool" d))))) (B2 (b2 (A2 10) (B4 (A0 (A2 5) A7) B7) dNe))) (E5 (vC (.bool false))) F4)))
noncomputable def Wy:Dn->Out:=(M1 8 (D1 (A0 (vC (.tuple [.str "add",(.tuple [.int 3,.str "h"]),(.tuple [(.tuple [.int 2,.str "a"]),.int 5]),.str "xy"])) (A0 (vC (.tuple [.str "drop",(.tuple [.int 3,.str "h"]),(.tuple [(.tuple [(.tuple [.int 2,.str "a"]),.int 0])])])) A7))))
noncomputable def Sv:Dn->Out:=(M1 8 (b2 (A2 8) (D1 (A0 (vC (.tuple [.str "undo",(.tuple [.int 3,.str "h"]),(.tuple [.int 2,.str "a"])])) (A0 (vC (.tuple [.str "unmark",(.tuple [.int 3,.str "h"]),.str "ab"])) A7))) C7))
noncomputable def Cj:Dn->Out:=(Es (fun δ=>((b2 (A2 8) (D1 (G7 (fun δ=>((A0 (vC (.int 5)) (A0 (vC (.int 15)) A7)) δ).bind mX) E9 [] N7 (L9 (A0 (vC (.str "unmark")) (A0 (L9 (A0 (vC (.int 3)) (A0 (vC (.str "h")) A7))) (A0 (b2 (vC (.str "a")) (A2 0) M3) A7)))))) C7) δ).bind J2) (st1 9) (C5 (M1 4 (b2 (D1 (A0 (A2 9) A7)) (vIf (B2 (b2 (A2 9) (A2 8) (dIn false))) (B4 (A0 (A2 9) A7) (E3 7)) (D1 A7)) C7)) (sIf (B2 (b2 (D1 (G7 (fun δ=>((A2 4) δ).bind J2) E9 [] (B2 (b2 (B4 (A0 (A2 0) A7) D8) (B4 (A0 (A2 0) A7) B7) dNe)) (A2 0))) (D1 A7) dNe)) (E5 (vC (.bool false))) F4)))
noncomputable def Kq:Dn->Out:=(E5 (vC (.bool true)))
noncomputable def Ur:Dn->Out:=(C5 Xf (C5 Xe (C5 Xd (C5 Om (C5 Xc (C5 Xb (C5 Xa (C5 Wz (C5 Ey (C5 Wy (C5 Sv (C5 Cj Kq))))))))))))
noncomputable def Yd:List PyData->Res PyData:=fnD Z3 Ur
end Sm
end
noncomputable section
namespace Sm
open PySem PySem.Spec PyProof.Rows L2
variable {P:Program} {w:World} {K:PySem.W.Frag} {mg:Str->Option Value} {base:Heap} {X:Cx}
theorem Xl:FnScope Ii ["thing", "least"] (A5 (top 6)):=⟨rfl,rfl,rfl,by decide +kernel,rfl,by decide +kernel,by decide +kernel⟩
theorem Sh  (T:Txt mg) (C:Cxt P w K mg base X Ii (A5 (top 6)) 0 true):DSs X E0k (B5 (top 6)) Jg :=
 (B6 (C6 (O8 (F6 C (by kernel_rfl) T.b_isinstance (by kernel_rfl) T.b_int (by decide +kernel) (by kernel_rfl) (A3 C 0 (by kernel_rfl))) (O8 (rW (F6 C (by kernel_rfl) T.b_isinstance (by kernel_rfl) T.b_bool (by decide +kernel) (by kernel_rfl) (A3 C 0 (by kernel_rfl)))) (U9 (d_ge C (A3 C 0 (by kernel_rfl)) (A3 C 1 (by kernel_rfl))))))))
theorem Uu:FnScope Fs ["thing", "letters"] (A5 (top 7)):=⟨rfl,rfl,rfl,by decide +kernel,rfl,by decide +kernel,by decide +kernel⟩
theorem Qo  (T:Txt mg) (C:Cxt P w K mg base X Fs (A5 (top 7)) 0 true):DSs X E0k (B5 (top 7)) Gz :=
 (B6 (C6 (O8 (F6 C (by kernel_rfl) T.b_isinstance (by kernel_rfl) T.b_str (by decide +kernel) (by kernel_rfl) (A3 C 0 (by kernel_rfl))) (O8 (Eu C (M8 C (by kernel_rfl) T.b_len (A1 (A3 C 0 (by kernel_rfl)) A9)) A6) (U9 (d_in C (A3 C 0 (by kernel_rfl)) (A3 C 1 (by kernel_rfl))))))))
theorem aA:FnScope Lq ["thing", "most", "first", "last"] (A5 (top 8)):=⟨rfl,rfl,rfl,by decide +kernel,rfl,by decide +kernel,by decide +kernel⟩
theorem Wd  (T:Txt mg) (C:Cxt P w K mg base X Lq (A5 (top 8)) 0 true):DSs X E0k (B5 (top 8)) Lz :=
 (B1 (O1 (w_t (Dd (N9 (O3 (F6 C (by kernel_rfl) T.b_isinstance (by kernel_rfl) T.b_str (by decide +kernel) (by kernel_rfl) (A3 C 0 (by kernel_rfl))))) (Ac (N9 (Z8 C A6 (M8 C (by kernel_rfl) T.b_len (A1 (A3 C 0 (by kernel_rfl)) A9)) (A3 C 1 (by kernel_rfl))))))) (B6 (C6 N5)) E8) (B6 (C6 (Mf C (by kernel_rfl) T.b_all (A1 (E2 (I9 C [2,3] ["first", "last"] (by kernel_rfl) (P4 (A3 C 0 (by kernel_rfl))) (fun X' C'=>S8) (fun X' C'=>(fU C' (A3 C' 1 (by kernel_rfl)) (A3 C' 0 (by kernel_rfl)) (A3 C' 2 (by kernel_rfl)))))) A9)))))
theorem aC:FnScope Ls ["thing"] (A5 (top 9)):=⟨rfl,rfl,rfl,by decide +kernel,rfl,by decide +kernel,by decide +kernel⟩
theorem Wg  (T:Txt mg) (F_is_text:Fn P w K mg base "is_text" 1 4 Z9) (C:Cxt P w K mg base X Ls (A5 (top 9)) 1 true):DSs X E0k (B5 (top 9)) Mb :=
 (B6 (C6 (B9 C F_is_text (by decide) (by kernel_rfl) (A1 (A3 C 0 (by kernel_rfl)) (A1 (Vv C (by kernel_rfl) T.c_LONGEST_NAME) (A1 E1 (A1 E1 A9)))))))
theorem Kx:FnScope Y8 ["thing"] (A5 (top 10)):=⟨rfl,rfl,rfl,by decide +kernel,rfl,by decide +kernel,by decide +kernel⟩
theorem Ib  (T:Txt mg) (F_is_text:Fn P w K mg base "is_text" 1 4 Z9) (C:Cxt P w K mg base X Y8 (A5 (top 10)) 1 true):DSs X E0k (B5 (top 10)) Bq :=
 (B6 (C6 (B9 C F_is_text (by decide) (by kernel_rfl) (A1 (A3 C 0 (by kernel_rfl)) (A1 (Vv C (by kernel_rfl) T.c_MOST_ADDED) (A1 E1 (A1 E1 A9)))))))
theorem aB:FnScope Lr ["thing"] (A5 (top 11)):=⟨rfl,rfl,rfl,by decide +kernel,rfl,by decide +kernel,by decide +kernel⟩
theorem We  (T:Txt mg) (C:Cxt P w K mg base X Lr (A5 (top 11)) 0 true):DSs X E0k (B5 (top 11)) Ma :=
 (B6 (C6 (O8 (F6 C (by kernel_rfl) T.b_isinstance (by kernel_rfl) T.b_tuple (by decide +kernel) (by kernel_rfl) (A3 C 0 (by kernel_rfl))) (U9 (Eu C (M8 C (by kernel_rfl) T.b_len (A1 (A3 C 0 (by kernel_rfl)) A9)) A6)))))
theorem Ru:FnScope Ds ["thing"] (A5 (top 12)):=⟨rfl,rfl,rfl,by decide +kernel,rfl,by decide +kernel,by decide +kernel⟩
theorem Nf  (T:Txt mg) (F_is_one_of:Fn P w K mg base "is_one_of" 1 2 Q2) (F_is_pair:Fn P w K mg base "is_pair" 1 1 R4) (F_is_whole:Fn P w K mg base "is_whole" 1 2 W6) (C:Cxt P w K mg base X Ds (A5 (top 12)) 1 true):DSs X E0k (B5 (top 12)) Fb :=
 (B6 (C6 (O8 (B9 C F_is_pair (by decide) (by kernel_rfl) (A1 (A3 C 0 (by kernel_rfl)) A9)) (O8 (B9 C F_is_whole (by decide) (by kernel_rfl) (A1 (D3 (A3 C 0 (by kernel_rfl)) A6) (A1 A6 A9))) (U9 (B9 C F_is_one_of (by decide) (by kernel_rfl) (A1 (D3 (A3 C 0 (by kernel_rfl)) A6) (A1 (cY (z := "abcdefgh") C (by kernel_rfl) T.c_HANDS) A9))))))))
theorem Rs:FnScope Dr ["thing"] (A5 (top 13)):=⟨rfl,rfl,rfl,by decide +kernel,rfl,by decide +kernel,by decide +kernel⟩
theorem Nc  (T:Txt mg) (F_is_deed_id:Fn P w K mg base "is_deed_id" 2 1 E6) (F_is_pair:Fn P w K mg base "is_pair" 1 1 R4) (F_is_whole:Fn P w K mg base "is_whole" 1 2 W6) (C:Cxt P w K mg base X Dr (A5 (top 13)) 2 true):DSs X E0k (B5 (top 13)) Ez :=
 (B6 (C6 (O8 (B9 C F_is_pair (by decide) (by kernel_rfl) (A1 (A3 C 0 (by kernel_rfl)) A9)) (O8 (B9 C F_is_deed_id (by decide) (by kernel_rfl) (A1 (D3 (A3 C 0 (by kernel_rfl)) A6) A9)) (U9 (B9 C F_is_whole (by decide) (by kernel_rfl) (A1 (D3 (A3 C 0 (by kernel_rfl)) A6) (A1 A6 A9))))))))
theorem Er:FnScope T4 ["thing"] (A5 (top 14)):=⟨rfl,rfl,rfl,by decide +kernel,rfl,by decide +kernel,by decide +kernel⟩
theorem Db  (T:Txt mg) (F_is_sign_id:Fn P w K mg base "is_sign_id" 3 1 P2) (C:Cxt P w K mg base X T4 (A5 (top 14)) 3 true):DSs X E0k (B5 (top 14)) V6 :=
 (B6 (C6 (d_or (rX (A3 C 0 (by kernel_rfl))) (U9 (B9 C F_is_sign_id (by decide) (by kernel_rfl) (A1 (A3 C 0 (by kernel_rfl)) A9))))))
theorem Uv:FnScope Ft ["thing"] (A5 (top 15)):=⟨rfl,rfl,rfl,by decide +kernel,rfl,by decide +kernel,by decide +kernel⟩
theorem Qp  (T:Txt mg) (F_is_one_of:Fn P w K mg base "is_one_of" 1 2 Q2) (F_is_pair:Fn P w K mg base "is_pair" 1 1 R4) (F_is_sign_id_or_none:Fn P w K mg base "is_sign_id_or_none" 4 1 D2) (C:Cxt P w K mg base X Ft (A5 (top 15)) 4 true):DSs X E0k (B5 (top 15)) Ha :=
 (B6 (C6 (O8 (B9 C F_is_pair (by decide) (by kernel_rfl) (A1 (A3 C 0 (by kernel_rfl)) A9)) (O8 (B9 C F_is_sign_id_or_none (by decide) (by kernel_rfl) (A1 (D3 (A3 C 0 (by kernel_rfl)) A6) A9)) (U9 (B9 C F_is_one_of (by decide) (by kernel_rfl) (A1 (D3 (A3 C 0 (by kernel_rfl)) A6) (A1 (cY (z := "lr") C (by kernel_rfl) T.c_SIDES) A9))))))))
theorem Ut:FnScope Fq ["values"] (A5 (top 16)):=⟨rfl,rfl,rfl,by decide +kernel,rfl,by decide +kernel,by decide +kernel⟩
theorem Qn  (T:Txt mg) (C:Cxt P w K mg base X Fq (A5 (top 16)) 0 true):DSs X E0k (B5 (top 16)) Gy :=
 (B6 (C6 (Mf C (by kernel_rfl) T.b_all (A1 (E2 (I9 C [0] ["values"] (by kernel_rfl) (Ct C (by kernel_rfl) T.b_range (A1 (Yo (M8 C (by kernel_rfl) T.b_len (A1 (A3 C 0 (by kernel_rfl)) A9)) A6) A9)) (fun X' C'=>S8) (fun X' C'=>(vR C' (D3 (A3 C' 1 (by kernel_rfl)) (A3 C' 0 (by kernel_rfl))) (D3 (A3 C' 1 (by kernel_rfl)) (D6 (A3 C' 0 (by kernel_rfl)) A6)))))) A9))))
theorem Rt:FnScope V8 ["thing"] (A5 (top 17)):=⟨rfl,rfl,rfl,by decide +kernel,rfl,by decide +kernel,by decide +kernel⟩
theorem Ml  (T:Txt mg) (F_is_rising:Fn P w K mg base "is_rising" 1 1 N1) (F_is_sign_id:Fn P w K mg base "is_sign_id" 3 1 P2) (C:Cxt P w K mg base X V8 (A5 (top 17)) 3 true):DS X E0k (stm 17 0) Du :=
 (O1 (w_t (Dd (N9 (O3 (F6 C (by kernel_rfl) T.b_isinstance (by kernel_rfl) T.b_tuple (by decide +kernel) (by kernel_rfl) (A3 C 0 (by kernel_rfl))))) (Ac (N9 (Z8 C A6 (M8 C (by kernel_rfl) T.b_len (A1 (A3 C 0 (by kernel_rfl)) A9)) (Vv C (by kernel_rfl) T.c_MOST_DROPPED)))))) (B6 (C6 N5)) E8)
theorem Mk  (T:Txt mg) (F_is_rising:Fn P w K mg base "is_rising" 1 1 N1) (F_is_sign_id:Fn P w K mg base "is_sign_id" 3 1 P2) (C:Cxt P w K mg base X V8 (A5 (top 17)) 3 true):DS X E0k (stm 17 1) Dt :=
 (C6 (O8 (Mf C (by kernel_rfl) T.b_all (A1 (E2 (I9 C [] [] (by kernel_rfl) (P4 (A3 C 0 (by kernel_rfl))) (fun X' C'=>S8) (fun X' C'=>(B9 C' F_is_sign_id (by decide) (by kernel_rfl) (A1 (A3 C' 0 (by kernel_rfl)) A9))))) A9)) (U9 (B9 C F_is_rising (by decide) (by kernel_rfl) (A1 (A3 C 0 (by kernel_rfl)) A9)))))
theorem Nd  (T:Txt mg) (F_is_rising:Fn P w K mg base "is_rising" 1 1 N1) (F_is_sign_id:Fn P w K mg base "is_sign_id" 3 1 P2) (C:Cxt P w K mg base X V8 (A5 (top 17)) 3 true):DSs X E0k (B5 (top 17)) Fa:=by
 have h:B5 (top 17)=[stm 17 0,stm 17 1]:=by kernel_rfl
 rw [h]
 exact (B1 (Ml T F_is_rising F_is_sign_id C) (B6 (Mk T F_is_rising F_is_sign_id C)))
theorem Xm:FnScope Q7 ["word", "parts"] (A5 (top 18)):=⟨rfl,rfl,rfl,by decide +kernel,rfl,by decide +kernel,by decide +kernel⟩
theorem Ro  (T:Txt mg) (F_is_added_text:Fn P w K mg base "is_added_text" 2 1 K0) (F_is_anchor:Fn P w K mg base "is_anchor" 5 1 N2) (F_is_deed_id:Fn P w K mg base "is_deed_id" 2 1 E6) (F_is_dropped:Fn P w K mg base "is_dropped" 4 1 M9) (F_is_name:Fn P w K mg base "is_name" 2 1 P9) (F_is_sign_id_or_none:Fn P w K mg base "is_sign_id_or_none" 4 1 D2) (C:Cxt P w K mg base X Q7 (A5 (top 18)) 5 true):DS X E0k (stm 18 0) Gs :=
 (O1 (W3 C (A3 C 0 (by kernel_rfl)) E1) (B6 (C6 (O8 (Eu C (M8 C (by kernel_rfl) T.b_len (A1 (A3 C 1 (by kernel_rfl)) A9)) A6) (O8 (B9 C F_is_sign_id_or_none (by decide) (by kernel_rfl) (A1 (D3 (A3 C 1 (by kernel_rfl)) A6) A9)) (U9 (B9 C F_is_added_text (by decide) (by kernel_rfl) (A1 (D3 (A3 C 1 (by kernel_rfl)) A6) A9))))))) E8)
theorem Rn  (T:Txt mg) (F_is_added_text:Fn P w K mg base "is_added_text" 2 1 K0) (F_is_anchor:Fn P w K mg base "is_anchor" 5 1 N2) (F_is_deed_id:Fn P w K mg base "is_deed_id" 2 1 E6) (F_is_dropped:Fn P w K mg base "is_dropped" 4 1 M9) (F_is_name:Fn P w K mg base "is_name" 2 1 P9) (F_is_sign_id_or_none:Fn P w K mg base "is_sign_id_or_none" 4 1 D2) (C:Cxt P w K mg base X Q7 (A5 (top 18)) 5 true):DS X E0k (stm 18 1) Gr :=
 (O1 (W3 C (A3 C 0 (by kernel_rfl)) E1) (B6 (C6 (O8 (Eu C (M8 C (by kernel_rfl) T.b_len (A1 (A3 C 1 (by kernel_rfl)) A9)) A6) (U9 (B9 C F_is_dropped (by decide) (by kernel_rfl) (A1 (D3 (A3 C 1 (by kernel_rfl)) A6) A9)))))) E8)
theorem Rm  (T:Txt mg) (F_is_added_text:Fn P w K mg base "is_added_text" 2 1 K0) (F_is_anchor:Fn P w K mg base "is_anchor" 5 1 N2) (F_is_deed_id:Fn P w K mg base "is_deed_id" 2 1 E6) (F_is_dropped:Fn P w K mg base "is_dropped" 4 1 M9) (F_is_name:Fn P w K mg base "is_name" 2 1 P9) (F_is_sign_id_or_none:Fn P w K mg base "is_sign_id_or_none" 4 1 D2) (C:Cxt P w K mg base X Q7 (A5 (top 18)) 5 true):DS X E0k (stm 18 2) Gq :=
 (O1 (W3 C (A3 C 0 (by kernel_rfl)) E1) (B6 (C6 (O8 (Eu C (M8 C (by kernel_rfl) T.b_len (A1 (A3 C 1 (by kernel_rfl)) A9)) A6) (O8 (B9 C F_is_name (by decide) (by kernel_rfl) (A1 (D3 (A3 C 1 (by kernel_rfl)) A6) A9)) (O8 (B9 C F_is_anchor (by decide) (by kernel_rfl) (A1 (D3 (A3 C 1 (by kernel_rfl)) A6) A9)) (U9 (B9 C F_is_anchor (by decide) (by kernel_rfl) (A1 (D3 (A3 C 1 (by kernel_rfl)) A6) A9)))))))) E8)
theorem Rl  (T:Txt mg) (F_is_added_text:Fn P w K mg base "is_added_text" 2 1 K0) (F_is_anchor:Fn P w K mg base "is_anchor" 5 1 N2) (F_is_deed_id:Fn P w K mg base "is_deed_id" 2 1 E6) (F_is_dropped:Fn P w K mg base "is_dropped" 4 1 M9) (F_is_name:Fn P w K mg base "is_name" 2 1 P9) (F_is_sign_id_or_none:Fn P w K mg base "is_sign_id_or_none" 4 1 D2) (C:Cxt P w K mg base X Q7 (A5 (top 18)) 5 true):DS X E0k (stm 18 3) Gp :=
 (O1 (W3 C (A3 C 0 (by kernel_rfl)) E1) (B6 (C6 (O8 (Eu C (M8 C (by kernel_rfl) T.b_len (A1 (A3 C 1 (by kernel_rfl)) A9)) A6) (U9 (B9 C F_is_name (by decide) (by kernel_rfl) (A1 (D3 (A3 C 1 (by kernel_rfl)) A6) A9)))))) E8)
theorem Rk  (T:Txt mg) (F_is_added_text:Fn P w K mg base "is_added_text" 2 1 K0) (F_is_anchor:Fn P w K mg base "is_anchor" 5 1 N2) (F_is_deed_id:Fn P w K mg base "is_deed_id" 2 1 E6) (F_is_dropped:Fn P w K mg base "is_dropped" 4 1 M9) (F_is_name:Fn P w K mg base "is_name" 2 1 P9) (F_is_sign_id_or_none:Fn P w K mg base "is_sign_id_or_none" 4 1 D2) (C:Cxt P w K mg base X Q7 (A5 (top 18)) 5 true):DS X E0k (stm 18 4) Go :=
 (O1 (W3 C (A3 C 0 (by kernel_rfl)) E1) (B6 (C6 (O8 (Eu C (M8 C (by kernel_rfl) T.b_len (A1 (A3 C 1 (by kernel_rfl)) A9)) A6) (U9 (B9 C F_is_deed_id (by decide) (by kernel_rfl) (A1 (D3 (A3 C 1 (by kernel_rfl)) A6) A9)))))) E8)
theorem Rj  (T:Txt mg) (F_is_added_text:Fn P w K mg base "is_added_text" 2 1 K0) (F_is_anchor:Fn P w K mg base "is_anchor" 5 1 N2) (F_is_deed_id:Fn P w K mg base "is_deed_id" 2 1 E6) (F_is_dropped:Fn P w K mg base "is_dropped" 4 1 M9) (F_is_name:Fn P w K mg base "is_name" 2 1 P9) (F_is_sign_id_or_none:Fn P w K mg base "is_sign_id_or_none" 4 1 D2) (C:Cxt P w K mg base X Q7 (A5 (top 18)) 5 true):DS X E0k (stm 18 5) Gn :=
 (C6 N5)
theorem Si  (T:Txt mg) (F_is_added_text:Fn P w K mg base "is_added_text" 2 1 K0) (F_is_anchor:Fn P w K mg base "is_anchor" 5 1 N2) (F_is_deed_id:Fn P w K mg base "is_deed_id" 2 1 E6) (F_is_dropped:Fn P w K mg base "is_dropped" 4 1 M9) (F_is_name:Fn P w K mg base "is_name" 2 1 P9) (F_is_sign_id_or_none:Fn P w K mg base "is_sign_id_or_none" 4 1 D2) (C:Cxt P w K mg base X Q7 (A5 (top 18)) 5 true):DSs X E0k (B5 (top 18)) Jh:=by
 have h:B5 (top 18)=[stm 18 0,stm 18 1,stm 18 2,stm 18 3,stm 18 4,stm 18 5]:=by kernel_rfl
 rw [h]
 exact (B1 (Ro T F_is_added_text F_is_anchor F_is_deed_id F_is_dropped F_is_name F_is_sign_id_or_none C) (B1 (Rn T F_is_added_text F_is_anchor F_is_deed_id F_is_dropped F_is_name F_is_sign_id_or_none C) (B1 (Rm T F_is_added_text F_is_anchor F_is_deed_id F_is_dropped F_is_name F_is_sign_id_or_none C) (B1 (Rl T F_is_added_text F_is_anchor F_is_deed_id F_is_dropped F_is_name F_is_sign_id_or_none C) (B1 (Rk T F_is_added_text F_is_anchor F_is_deed_id F_is_dropped F_is_name F_is_sign_id_or_none C) (B6 (Rj T F_is_added_text F_is_anchor F_is_deed_id F_is_dropped F_is_name F_is_sign_id_or_none C)))))))
theorem Pi:FnScope R5 ["deed"] (A5 (top 19)):=⟨rfl,rfl,rfl,by decide +kernel,rfl,by decide +kernel,by decide +kernel⟩
theorem Ku  (T:Txt mg) (C:Cxt P w K mg base X R5 (A5 (top 19)) 0 true):DS X E0k (stm 19 0) Ci :=
 (K7 C 1 (by kernel_rfl) (E2 (L0 A9)))
theorem Kt  (T:Txt mg) (C:Cxt P w K mg base X R5 (A5 (top 19)) 0 true):DS X E0k (stm 19 1) W5 :=
 (O1 (W3 C (D3 (A3 C 0 (by kernel_rfl)) A6) E1) (B6 (K7 C 1 (by kernel_rfl) (E2 (L0 (A1 (D3 (A3 C 0 (by kernel_rfl)) A6) A9))))) (B6 (O1 (W3 C (D3 (A3 C 0 (by kernel_rfl)) A6) E1) (B6 (K7 C 1 (by kernel_rfl) (Dm C (by kernel_rfl) T.b_list (A1 (D3 (A3 C 0 (by kernel_rfl)) A6) A9)))) (B6 (O1 (W3 C (D3 (A3 C 0 (by kernel_rfl)) A6) E1) (B6 (K7 C 1 (by kernel_rfl) (E2 (L0 (A1 (D3 (D3 (A3 C 0 (by kernel_rfl)) A6) A6) (A1 (D3 (D3 (A3 C 0 (by kernel_rfl)) A6) A6) A9)))))) E8)))))
theorem Ks  (T:Txt mg) (C:Cxt P w K mg base X R5 (A5 (top 19)) 0 true):DS X E0k (stm 19 2) W4 :=
 (C6 (E2 (I9 C [] [] (by kernel_rfl) (P4 (A3 C 1 (by kernel_rfl))) (fun X' C'=>(Y0 (Zm (A3 C' 0 (by kernel_rfl))))) (fun X' C'=>(A3 C' 0 (by kernel_rfl))))))
theorem Ll  (T:Txt mg) (C:Cxt P w K mg base X R5 (A5 (top 19)) 0 true):DSs X E0k (B5 (top 19)) Ec:=by
 have h:B5 (top 19)=[stm 19 0,stm 19 1,stm 19 2]:=by kernel_rfl
 rw [h]
 exact (B1 (Ku T C) (B1 (Kt T C) (B6 (Ks T C))))
theorem Pk:FnScope Cd ["deed"] (A5 (top 20)):=⟨rfl,rfl,rfl,by decide +kernel,rfl,by decide +kernel,by decide +kernel⟩
theorem Ln  (T:Txt mg) (F_signs_named:Fn P w K mg base "signs_named" 1 1 G9) (C:Cxt P w K mg base X Cd (A5 (top 20)) 1 true):DSs X E0k (B5 (top 20)) Ee :=
 (B1 (O1 (W3 C (D3 (A3 C 0 (by kernel_rfl)) A6) E1) (B6 (C6 (E2 (L0 (A1 (D3 (A3 C 0 (by kernel_rfl)) A6) A9))))) E8) (B6 (C6 (E2 (I9 C [] [] (by kernel_rfl) (P4 (B9 C F_signs_named (by decide) (by kernel_rfl) (A1 (A3 C 0 (by kernel_rfl)) A9))) (fun X' C'=>S8) (fun X' C'=>(D3 (A3 C' 0 (by kernel_rfl)) A6)))))))
theorem aD:FnScope Aa ["thing"] (A5 (top 21)):=⟨rfl,rfl,rfl,by decide +kernel,rfl,by decide +kernel,by decide +kernel⟩
theorem Uh  (T:Txt mg) (F_deeds_named:Fn P w K mg base "deeds_named" 2 1 K8) (F_has_form:Fn P w K mg base "has_form" 6 2 T1) (F_is_deed_id:Fn P w K mg base "is_deed_id" 2 1 E6) (C:Cxt P w K mg base X Aa (A5 (top 21)) 6 true):DS X E0k (stm 21 0) Iq :=
 (O1 (w_t (Dd (N9 (O3 (F6 C (by kernel_rfl) T.b_isinstance (by kernel_rfl) T.b_tuple (by decide +kernel) (by kernel_rfl) (A3 C 0 (by kernel_rfl))))) (Dd (dS C (M8 C (by kernel_rfl) T.b_len (A1 (A3 C 0 (by kernel_rfl)) A9)) A6) (Ac (N9 (O3 (B9 C F_is_deed_id (by decide) (by kernel_rfl) (A1 (D3 (A3 C 0 (by kernel_rfl)) A6) A9)))))))) (B6 (C6 N5)) E8)
theorem Ug  (T:Txt mg) (F_deeds_named:Fn P w K mg base "deeds_named" 2 1 K8) (F_has_form:Fn P w K mg base "has_form" 6 2 T1) (F_is_deed_id:Fn P w K mg base "is_deed_id" 2 1 E6) (C:Cxt P w K mg base X Aa (A5 (top 21)) 6 true):DS X E0k (stm 21 1) Ip :=
 (O1 (N9 (O3 (B9 C F_has_form (by decide) (by kernel_rfl) (A1 (D3 (A3 C 0 (by kernel_rfl)) A6) (A1 (N8 (A3 C 0 (by kernel_rfl)) (P8 A6) R7) A9))))) (B6 (C6 N5)) E8)
theorem Uf  (T:Txt mg) (F_deeds_named:Fn P w K mg base "deeds_named" 2 1 K8) (F_has_form:Fn P w K mg base "has_form" 6 2 T1) (F_is_deed_id:Fn P w K mg base "is_deed_id" 2 1 E6) (C:Cxt P w K mg base X Aa (A5 (top 21)) 6 true):DS X E0k (stm 21 2) Io :=
 (C6 (Mf C (by kernel_rfl) T.b_all (A1 (E2 (I9 C [0] ["thing"] (by kernel_rfl) (P4 (B9 C F_deeds_named (by decide) (by kernel_rfl) (A1 (A3 C 0 (by kernel_rfl)) A9))) (fun X' C'=>S8) (fun X' C'=>(vR C' (D3 (A3 C' 0 (by kernel_rfl)) A6) (D3 (D3 (A3 C' 1 (by kernel_rfl)) A6) A6))))) A9)))
theorem Wh  (T:Txt mg) (F_deeds_named:Fn P w K mg base "deeds_named" 2 1 K8) (F_has_form:Fn P w K mg base "has_form" 6 2 T1) (F_is_deed_id:Fn P w K mg base "is_deed_id" 2 1 E6) (C:Cxt P w K mg base X Aa (A5 (top 21)) 6 true):DSs X E0k (B5 (top 21)) Mc:=by
 have h:B5 (top 21)=[stm 21 0,stm 21 1,stm 21 2]:=by kernel_rfl
 rw [h]
 exact (B1 (Uh T F_deeds_named F_has_form F_is_deed_id C) (B1 (Ug T F_deeds_named F_has_form F_is_deed_id C) (B6 (Uf T F_deeds_named F_has_form F_is_deed_id C))))
theorem Pj:FnScope Cc ["deed"] (A5 (top 22)):=⟨rfl,rfl,rfl,by decide +kernel,rfl,by decide +kernel,by decide +kernel⟩
theorem Lm  (T:Txt mg) (C:Cxt P w K mg base X Cc (A5 (top 22)) 0 true):DSs X E0k (B5 (top 22)) Ed :=
 (B6 (C6 (Vu (W3 C (D3 (A3 C 0 (by kernel_rfl)) A6) E1) (M8 C (by kernel_rfl) T.b_len (A1 (D3 (A3 C 0 (by kernel_rfl)) A6) A9)) A6)))
theorem eG:FnScope Kl ["deeds"] (A5 (top 23)):=⟨rfl,rfl,rfl,by decide +kernel,rfl,by decide +kernel,by decide +kernel⟩
theorem Yy  (T:Txt mg) (C:Cxt P w K mg base X Kl (A5 (top 23)) 0 true):DSW X E0k (B5 (top 23)) Hr :=
 (sF (mB C (by kernel_rfl) T.b_dict (I9 C [] [] (by kernel_rfl) (P4 (A3 C 0 (by kernel_rfl))) (fun X' C'=>S8) (fun X' C'=>(M5 (A1 (D3 (A3 C' 0 (by kernel_rfl)) A6) (A1 (A3 C' 0 (by kernel_rfl)) A9)))))))
theorem Ky:FnScope En ["known", "deed"] (A5 (top 24)):=⟨rfl,rfl,rfl,by decide +kernel,rfl,by decide +kernel,by decide +kernel⟩
theorem Ic  (T:Txt mg) (F_deeds_named:Fn P w K mg base "deeds_named" 2 1 K8) (F_signs_added:Fn P w K mg base "signs_added" 1 1 X3) (F_signs_named:Fn P w K mg base "signs_named" 1 1 G9) (C:Cxt P w K mg base X En (A5 (top 24)) 2 true):DR X E0k (B5 (top 24)) Br :=
 (r_if (N9 (O3 (Mf C (by kernel_rfl) T.b_all (A1 (E2 (I9 C [0] ["known"] (by kernel_rfl) (P4 (B9 C F_deeds_named (by decide) (by kernel_rfl) (A1 (A3 C 1 (by kernel_rfl)) A9))) (fun X' C'=>S8) (fun X' C'=>(d_inD C' 1 (by kernel_rfl) (A3 C' 0 (by kernel_rfl)))))) A9)))) (qX N5) (qX (Mf C (by kernel_rfl) T.b_all (A1 (E2 (I9 C [0] ["known"] (by kernel_rfl) (P4 (B9 C F_signs_named (by decide) (by kernel_rfl) (A1 (A3 C 1 (by kernel_rfl)) A9))) (fun X' C'=>S8) (fun X' C'=>(vR C' (D3 (A3 C' 0 (by kernel_rfl)) A6) (B9 C' F_signs_added (by decide) (by kernel_rfl) (A1 (vT C' 1 (by kernel_rfl) (D3 (A3 C' 0 (by kernel_rfl)) A6)) A9)))))) A9))))
theorem aE:FnScope Ab ["thing"] (A5 (top 25)):=⟨rfl,rfl,rfl,by decide +kernel,rfl,by decide +kernel,by decide +kernel⟩
theorem Uk  (T:Txt mg) (F_by_ids:FnW P w K mg base "by_ids" 1 1 X6) (F_has_all_named:FnL P w K mg base "has_all_named" 3 L5) (F_is_deed:Fn P w K mg base "is_deed" 7 1 D8) (F_is_rising:Fn P w K mg base "is_rising" 1 1 N1) (C:Cxt P w K mg base X Ab (A5 (top 25)) 7 true):DS X E0k (stm 25 0) Ir :=
 (O1 (w_t (Dd (N9 (O3 (F6 C (by kernel_rfl) T.b_isinstance (by kernel_rfl) T.b_tuple (by decide +kernel) (by kernel_rfl) (A3 C 0 (by kernel_rfl))))) (Ac (N9 (O3 (Mf C (by kernel_rfl) T.b_all (A1 (E2 (I9 C [] [] (by kernel_rfl) (P4 (A3 C 0 (by kernel_rfl))) (fun X' C'=>S8) (fun X' C'=>(B9 C' F_is_deed (by decide) (by kernel_rfl) (A1 (A3 C' 0 (by kernel_rfl)) A9))))) A9))))))) (B6 (C6 N5)) E8)
theorem Uj  (T:Txt mg) (F_by_ids:FnW P w K mg base "by_ids" 1 1 X6) (F_has_all_named:FnL P w K mg base "has_all_named" 3 L5) (F_is_deed:Fn P w K mg base "is_deed" 7 1 D8) (F_is_rising:Fn P w K mg base "is_rising" 1 1 N1) (C:Cxt P w K mg base X Ab (A5 (top 25)) 7 true):DS X E0k (stm 25 1) V3 :=
 (sU C 1 (by kernel_rfl) (sD C F_by_ids (by decide) (by kernel_rfl) (A1 (A3 C 0 (by kernel_rfl)) A9)))
theorem Ui  (T:Txt mg) (F_by_ids:FnW P w K mg base "by_ids" 1 1 X6) (F_has_all_named:FnL P w K mg base "has_all_named" 3 L5) (F_is_deed:Fn P w K mg base "is_deed" 7 1 D8) (F_is_rising:Fn P w K mg base "is_rising" 1 1 N1) (C:Cxt P w K mg base X Ab (A5 (top 25)) 7 true):DS X E0k (stm 25 2) De :=
 (C6 (O8 (B9 C F_is_rising (by decide) (by kernel_rfl) (A1 (E2 (I9 C [] [] (by kernel_rfl) (P4 (A3 C 0 (by kernel_rfl))) (fun X' C'=>S8) (fun X' C'=>(D3 (A3 C' 0 (by kernel_rfl)) A6)))) A9)) (U9 (Mf C (by kernel_rfl) T.b_all (A1 (E2 (I9 C [1] ["known"] (by kernel_rfl) (P4 (A3 C 0 (by kernel_rfl))) (fun X' C'=>S8) (fun X' C'=>(pU C' F_has_all_named (by decide) (by kernel_rfl) 1 (by kernel_rfl) (A3 C' 0 (by kernel_rfl)))))) A9)))))
theorem Wi  (T:Txt mg) (F_by_ids:FnW P w K mg base "by_ids" 1 1 X6) (F_has_all_named:FnL P w K mg base "has_all_named" 3 L5) (F_is_deed:Fn P w K mg base "is_deed" 7 1 D8) (F_is_rising:Fn P w K mg base "is_rising" 1 1 N1) (C:Cxt P w K mg base X Ab (A5 (top 25)) 7 true):DSs X E0k (B5 (top 25)) Md:=by
 have h:B5 (top 25)=[stm 25 0,stm 25 1,stm 25 2]:=by kernel_rfl
 rw [h]
 exact (B1 (Uk T F_by_ids F_has_all_named F_is_deed F_is_rising C) (B1 (Uj T F_by_ids F_has_all_named F_is_deed F_is_rising C) (B6 (Ui T F_by_ids F_has_all_named F_is_deed F_is_rising C))))
theorem Uy:FnScope Bw ["_law_script", "_law_k"] (A5 (top 27)):=⟨rfl,rfl,rfl,by decide +kernel,rfl,by decide +kernel,by decide +kernel⟩
theorem Qs  (T:Txt mg) (C:Cxt P w K mg base X Bw (A5 (top 27)) 0 true):DSs X E0k (B5 (top 27)) Ca :=
 (B1 (O1 (W3 C (A3 C 0 (by kernel_rfl)) (E2 (L0 A9))) (B6 (C6 (V0 A6 (A3 C 1 (by kernel_rfl))))) E8) (B6 (C6 (D6 (D3 (A3 C 0 (by kernel_rfl)) (Cw (A3 C 1 (by kernel_rfl)) (M8 C (by kernel_rfl) T.b_len (A1 (A3 C 0 (by kernel_rfl)) A9)))) (V0 A6 (Bg (A3 C 1 (by kernel_rfl)) (M8 C (by kernel_rfl) T.b_len (A1 (A3 C 0 (by kernel_rfl)) A9))))))))
theorem Sa:FnScope Z7 ["_law_script", "_law_k", "_law_many"] (A5 (top 28)):=⟨rfl,rfl,rfl,by decide +kernel,rfl,by decide +kernel,by decide +kernel⟩
theorem Nl  (T:Txt mg) (F__law_cell:Fn P w K mg base "_law_cell" 1 2 X7) (C:Cxt P w K mg base X Z7 (A5 (top 28)) 1 true):DSs X E0k (B5 (top 28)) Az :=
 (B1 (K7 C 3 (by kernel_rfl) (Cw (D6 (V0 (Cw (B9 C F__law_cell (by decide) (by kernel_rfl) (A1 (A3 C 0 (by kernel_rfl)) (A1 (A3 C 1 (by kernel_rfl)) A9))) A6) A6) (V0 A6 (D6 (A3 C 1 (by kernel_rfl)) A6))) A6)) (B1 (K7 C 3 (by kernel_rfl) (Cw (D6 (V0 (A3 C 3 (by kernel_rfl)) (A3 C 3 (by kernel_rfl))) (Bg (A3 C 3 (by kernel_rfl)) A6)) A6)) (B6 (C6 (Cw (Bg (Cw (D6 (V0 (A3 C 3 (by kernel_rfl)) (A3 C 3 (by kernel_rfl))) (Bg (A3 C 3 (by kernel_rfl)) A6)) A6) A6) (A3 C 2 (by kernel_rfl)))))))
theorem Rx:FnScope Q8 ["_law_script", "_law_at"] (A5 (top 29)):=⟨rfl,rfl,rfl,by decide +kernel,rfl,by decide +kernel,by decide +kernel⟩
theorem Mo  (T:Txt mg) (F__law_drawn:Fn P w K mg base "_law_drawn" 2 3 A8) (C:Cxt P w K mg base X Q8 (A5 (top 29)) 2 true):DS X E0k (stm 29 0) Y3 :=
 (s_own C 2 (by kernel_rfl) (L0 A9))
theorem Mn  (T:Txt mg) (F__law_drawn:Fn P w K mg base "_law_drawn" 2 3 A8) (C:Cxt P w K mg base X Q8 (A5 (top 29)) 2 true):DS X E0k (stm 29 1) Y2 :=
 (Fe C 3 (by kernel_rfl) (Ct C (by kernel_rfl) T.b_range (A1 A6 A9)) (B1 (K7 C 4 (by kernel_rfl) (V0 (D3 E1 (B9 C F__law_drawn (by decide) (by kernel_rfl) (A1 (A3 C 0 (by kernel_rfl)) (A1 (D6 (A3 C 1 (by kernel_rfl)) (V0 A6 (A3 C 3 (by kernel_rfl)))) (A1 A6 A9))))) (B9 C F__law_drawn (by decide) (by kernel_rfl) (A1 (A3 C 0 (by kernel_rfl)) (A1 (D6 (D6 (A3 C 1 (by kernel_rfl)) (V0 A6 (A3 C 3 (by kernel_rfl)))) A6) (A1 A6 A9)))))) (B6 (s_app C 2 (by kernel_rfl) (D3 (E2 (L0 (A1 (D6 (A3 C 4 (by kernel_rfl)) (D3 E1 (A3 C 3 (by kernel_rfl)))) (A1 (D6 (D3 E1 (A3 C 3 (by kernel_rfl))) (A3 C 4 (by kernel_rfl))) A9)))) (B9 C F__law_drawn (by decide) (by kernel_rfl) (A1 (A3 C 0 (by kernel_rfl)) (A1 (D6 (A3 C 1 (by kernel_rfl)) A6) (A1 A6 A9)))))))))
theorem Mm  (T:Txt mg) (F__law_drawn:Fn P w K mg base "_law_drawn" 2 3 A8) (C:Cxt P w K mg base X Q8 (A5 (top 29)) 2 true):DS X E0k (stm 29 2) Y1 :=
 (s_fz 2 (C6 (A3 C 2 (by kernel_rfl))))
theorem Ni  (T:Txt mg) (F__law_drawn:Fn P w K mg base "_law_drawn" 2 3 A8) (C:Cxt P w K mg base X Q8 (A5 (top 29)) 2 true):DSs X E0k (B5 (top 29)) Ax:=by
 have h:B5 (top 29)=[stm 29 0,stm 29 1,stm 29 2]:=by kernel_rfl
 rw [h]
 exact (B1 (Mo T F__law_drawn C) (B1 (Mn T F__law_drawn C) (B6 (Mm T F__law_drawn C))))
theorem Rv:FnScope Z5 ["_law_script", "_law_at"] (A5 (top 30)):=⟨rfl,rfl,rfl,by decide +kernel,rfl,by decide +kernel,by decide +kernel⟩
theorem Ng  (T:Txt mg) (F__law_drawn:Fn P w K mg base "_law_drawn" 2 3 A8) (C:Cxt P w K mg base X Z5 (A5 (top 30)) 2 true):DSs X E0k (B5 (top 30)) Av :=
 (B6 (C6 (vS (E2 (I9 C [0,1] ["_law_script", "_law_at"] (by kernel_rfl) (Ct C (by kernel_rfl) T.b_range (A1 (D6 A6 (B9 C F__law_drawn (by decide) (by kernel_rfl) (A1 (A3 C 0 (by kernel_rfl)) (A1 (D6 (A3 C 1 (by kernel_rfl)) A6) (A1 A6 A9))))) A9)) (fun X' C'=>S8) (fun X' C'=>(D3 E1 (B9 C' F__law_drawn (by decide) (by kernel_rfl) (A1 (A3 C' 1 (by kernel_rfl)) (A1 (D6 (A3 C' 2 (by kernel_rfl)) (A3 C' 0 (by kernel_rfl))) (A1 A6 A9)))))))))))
theorem Rw:FnScope Z6 ["_law_book_here"] (A5 (top 31)):=⟨rfl,rfl,rfl,by decide +kernel,rfl,by decide +kernel,by decide +kernel⟩
theorem Nh  (T:Txt mg) (C:Cxt P w K mg base X Z6 (A5 (top 31)) 0 true):DSs X E0k (B5 (top 31)) Aw :=
 (B1 (K7 C 1 (by kernel_rfl) (E2 (L0 A9))) (B1 (Fe C 2 (by kernel_rfl) (P4 (A3 C 0 (by kernel_rfl))) (B6 (O1 (W3 C (D3 (A3 C 2 (by kernel_rfl)) A6) E1) (B6 (K7 C 1 (by kernel_rfl) (D6 (A3 C 1 (by kernel_rfl)) (E2 (I9 C [2] ["_law_deed_here"] (by kernel_rfl) (Ct C (by kernel_rfl) T.b_range (A1 (M8 C (by kernel_rfl) T.b_len (A1 (D3 (A3 C 2 (by kernel_rfl)) A6) A9)) A9)) (fun X' C'=>S8) (fun X' C'=>(M5 (A1 (D3 (A3 C' 1 (by kernel_rfl)) A6) (A1 (A3 C' 0 (by kernel_rfl)) A9))))))))) E8))) (B6 (C6 (A3 C 1 (by kernel_rfl))))))
theorem Pm:FnScope X4 ["_law_script", "_law_at", "_law_signs_here"] (A5 (top 32)):=⟨rfl,rfl,rfl,by decide +kernel,rfl,by decide +kernel,by decide +kernel⟩
theorem Lp  (T:Txt mg) (F__law_drawn:Fn P w K mg base "_law_drawn" 2 3 A8) (C:Cxt P w K mg base X X4 (A5 (top 32)) 2 true):DSs X E0k (B5 (top 32)) Y4 :=
 (B1 (K7 C 3 (by kernel_rfl) (D3 (D6 (E2 (L0 (A1 Dl A9))) (A3 C 2 (by kernel_rfl))) (B9 C F__law_drawn (by decide) (by kernel_rfl) (A1 (A3 C 0 (by kernel_rfl)) (A1 (A3 C 1 (by kernel_rfl)) (A1 (D6 (M8 C (by kernel_rfl) T.b_len (A1 (A3 C 2 (by kernel_rfl)) A9)) A6) A9)))))) (B6 (C6 (M5 (A1 (A3 C 3 (by kernel_rfl)) (A1 (D3 E1 (B9 C F__law_drawn (by decide) (by kernel_rfl) (A1 (A3 C 0 (by kernel_rfl)) (A1 (D6 (A3 C 1 (by kernel_rfl)) A6) (A1 A6 A9))))) A9))))))
theorem Ux:FnScope M2 ["_law_script", "_law_at", "_law_one", "_law_known", "_law_names_here"] (A5 (top 33)):=⟨rfl,rfl,rfl,by decide +kernel,rfl,by decide +kernel,by decide +kernel⟩
theorem Ox  (T:Txt mg) (F__law_anchor:Fn P w K mg base "_law_anchor" 3 3 F9) (F__law_drawn:Fn P w K mg base "_law_drawn" 2 3 A8) (F__law_signs:Fn P w K mg base "_law_signs" 1 1 D4) (F__law_words:Fn P w K mg base "_law_words" 3 2 K3) (C:Cxt P w K mg base X M2 (A5 (top 33)) 3 true):DS X E0k (stm 33 0) An :=
 (K7 C 5 (by kernel_rfl) (B9 C F__law_signs (by decide) (by kernel_rfl) (A1 (A3 C 3 (by kernel_rfl)) A9)))
theorem Ow  (T:Txt mg) (F__law_anchor:Fn P w K mg base "_law_anchor" 3 3 F9) (F__law_drawn:Fn P w K mg base "_law_drawn" 2 3 A8) (F__law_signs:Fn P w K mg base "_law_signs" 1 1 D4) (F__law_words:Fn P w K mg base "_law_words" 3 2 K3) (C:Cxt P w K mg base X M2 (A5 (top 33)) 3 true):DS X E0k (stm 33 1) Am :=
 (K7 C 6 (by kernel_rfl) (B9 C F__law_drawn (by decide) (by kernel_rfl) (A1 (A3 C 0 (by kernel_rfl)) (A1 (A3 C 1 (by kernel_rfl)) (A1 A6 A9)))))
theorem Ov  (T:Txt mg) (F__law_anchor:Fn P w K mg base "_law_anchor" 3 3 F9) (F__law_drawn:Fn P w K mg base "_law_drawn" 2 3 A8) (F__law_signs:Fn P w K mg base "_law_signs" 1 1 D4) (F__law_words:Fn P w K mg base "_law_words" 3 2 K3) (C:Cxt P w K mg base X M2 (A5 (top 33)) 3 true):DS X E0k (stm 33 2) Al :=
 (O1 (w_t (Bk (dS C (A3 C 6 (by kernel_rfl)) A6) (Ad (Kp C (A3 C 5 (by kernel_rfl)) (E2 (L0 A9)))))) (B1 (aF C 8 (by kernel_rfl) (by kernel_rfl) [0,1] ["_law_script", "_law_at"] (by kernel_rfl) (vD C (by kernel_rfl) T.b_enumerate (A1 (A3 C 5 (by kernel_rfl)) A9)) (fun X' C'=>(Y0 (W3 C' (B9 C' F__law_drawn (by decide) (by kernel_rfl) (A1 (A3 C' 2 (by kernel_rfl)) (A1 (D6 (D6 (A3 C' 3 (by kernel_rfl)) A6) (A3 C' 0 (by kernel_rfl))) (A1 A6 A9)))) A6))) (fun X' C'=>(A3 C' 1 (by kernel_rfl)))) (B6 (C6 (M5 (A1 E1 (A1 (A3 C 2 (by kernel_rfl)) (A1 (lK C (by kernel_rfl) T.b_tuple (A1 (D6 (A3 C 8 (by kernel_rfl)) (V0 (N8 (A3 C 5 (by kernel_rfl)) R7 (P8 A6)) (bD C (by kernel_rfl) T.b_int (A1 (Eu C (A3 C 8 (by kernel_rfl)) (E2 (L0 A9))) A9)))) A9)) A9))))))) E8)
theorem Ou  (T:Txt mg) (F__law_anchor:Fn P w K mg base "_law_anchor" 3 3 F9) (F__law_drawn:Fn P w K mg base "_law_drawn" 2 3 A8) (F__law_signs:Fn P w K mg base "_law_signs" 1 1 D4) (F__law_words:Fn P w K mg base "_law_words" 3 2 K3) (C:Cxt P w K mg base X M2 (A5 (top 33)) 3 true):DS X E0k (stm 33 3) Ak :=
 (O1 (dS C (A3 C 6 (by kernel_rfl)) A6) (B1 (K7 C 9 (by kernel_rfl) (M5 (A1 (B9 C F__law_anchor (by decide) (by kernel_rfl) (A1 (A3 C 0 (by kernel_rfl)) (A1 (D6 (A3 C 1 (by kernel_rfl)) A6) (A1 (A3 C 5 (by kernel_rfl)) A9)))) (A1 (B9 C F__law_anchor (by decide) (by kernel_rfl) (A1 (A3 C 0 (by kernel_rfl)) (A1 (D6 (A3 C 1 (by kernel_rfl)) A6) (A1 (A3 C 5 (by kernel_rfl)) A9)))) A9)))) (B6 (C6 (D6 (M5 (A1 E1 (A1 (A3 C 2 (by kernel_rfl)) (A1 (D3 (A3 C 4 (by kernel_rfl)) (B9 C F__law_drawn (by decide) (by kernel_rfl) (A1 (A3 C 0 (by kernel_rfl)) (A1 (D6 (A3 C 1 (by kernel_rfl)) A6) (A1 A6 A9))))) A9)))) (A3 C 9 (by kernel_rfl)))))) E8)
theorem Ot  (T:Txt mg) (F__law_anchor:Fn P w K mg base "_law_anchor" 3 3 F9) (F__law_drawn:Fn P w K mg base "_law_drawn" 2 3 A8) (F__law_signs:Fn P w K mg base "_law_signs" 1 1 D4) (F__law_words:Fn P w K mg base "_law_words" 3 2 K3) (C:Cxt P w K mg base X M2 (A5 (top 33)) 3 true):DS X E0k (stm 33 4) Aj :=
 (O1 (W3 C (A3 C 6 (by kernel_rfl)) A6) (B6 (C6 (M5 (A1 E1 (A1 (A3 C 2 (by kernel_rfl)) (A1 (D3 (A3 C 4 (by kernel_rfl)) (B9 C F__law_drawn (by decide) (by kernel_rfl) (A1 (A3 C 0 (by kernel_rfl)) (A1 (D6 (A3 C 1 (by kernel_rfl)) A6) (A1 A6 A9))))) A9)))))) E8)
theorem Os  (T:Txt mg) (F__law_anchor:Fn P w K mg base "_law_anchor" 3 3 F9) (F__law_drawn:Fn P w K mg base "_law_drawn" 2 3 A8) (F__law_signs:Fn P w K mg base "_law_signs" 1 1 D4) (F__law_words:Fn P w K mg base "_law_words" 3 2 K3) (C:Cxt P w K mg base X M2 (A5 (top 33)) 3 true):DS X E0k (stm 33 5) Ai :=
 (O1 (w_t (Bk (dS C (A3 C 6 (by kernel_rfl)) A6) (Ad (Kp C (A3 C 3 (by kernel_rfl)) (M5 A9))))) (B6 (C6 (M5 (A1 E1 (A1 (A3 C 2 (by kernel_rfl)) (A1 (D3 (D3 (A3 C 3 (by kernel_rfl)) (B9 C F__law_drawn (by decide) (by kernel_rfl) (A1 (A3 C 0 (by kernel_rfl)) (A1 (D6 (A3 C 1 (by kernel_rfl)) A6) (A1 (M8 C (by kernel_rfl) T.b_len (A1 (A3 C 3 (by kernel_rfl)) A9)) A9))))) A6) A9)))))) E8)
theorem Oq  (T:Txt mg) (F__law_anchor:Fn P w K mg base "_law_anchor" 3 3 F9) (F__law_drawn:Fn P w K mg base "_law_drawn" 2 3 A8) (F__law_signs:Fn P w K mg base "_law_signs" 1 1 D4) (F__law_words:Fn P w K mg base "_law_words" 3 2 K3) (C:Cxt P w K mg base X M2 (A5 (top 33)) 3 true):DS X E0k (stm 33 6) Ah :=
 (K7 C 7 (by kernel_rfl) (D3 (D6 (D6 (E2 (L0 (A1 Dl A9))) (A3 C 5 (by kernel_rfl))) (N8 (A3 C 5 (by kernel_rfl)) (P8 (Qf A6)) R7)) (B9 C F__law_drawn (by decide) (by kernel_rfl) (A1 (A3 C 0 (by kernel_rfl)) (A1 (D6 (A3 C 1 (by kernel_rfl)) A6) (A1 (D6 (D6 (M8 C (by kernel_rfl) T.b_len (A1 (A3 C 5 (by kernel_rfl)) A9)) A6) (M8 C (by kernel_rfl) T.b_len (A1 (N8 (A3 C 5 (by kernel_rfl)) (P8 (Qf A6)) R7) A9))) A9))))))
theorem Op  (T:Txt mg) (F__law_anchor:Fn P w K mg base "_law_anchor" 3 3 F9) (F__law_drawn:Fn P w K mg base "_law_drawn" 2 3 A8) (F__law_signs:Fn P w K mg base "_law_signs" 1 1 D4) (F__law_words:Fn P w K mg base "_law_words" 3 2 K3) (C:Cxt P w K mg base X M2 (A5 (top 33)) 3 true):DS X E0k (stm 33 7) Ag :=
 (C6 (M5 (A1 E1 (A1 (A3 C 2 (by kernel_rfl)) (A1 (A3 C 7 (by kernel_rfl)) (A1 (B9 C F__law_words (by decide) (by kernel_rfl) (A1 (A3 C 0 (by kernel_rfl)) (A1 (D6 (A3 C 1 (by kernel_rfl)) A6) A9))) A9))))))
theorem Qr  (T:Txt mg) (F__law_anchor:Fn P w K mg base "_law_anchor" 3 3 F9) (F__law_drawn:Fn P w K mg base "_law_drawn" 2 3 A8) (F__law_signs:Fn P w K mg base "_law_signs" 1 1 D4) (F__law_words:Fn P w K mg base "_law_words" 3 2 K3) (C:Cxt P w K mg base X M2 (A5 (top 33)) 3 true):DSs X E0k (B5 (top 33)) Bz:=by
 have h:B5 (top 33)=[stm 33 0,stm 33 1,stm 33 2,stm 33 3,stm 33 4,stm 33 5,stm 33 6,stm 33 7]:=by kernel_rfl
 rw [h]
 exact (B1 (Ox T F__law_anchor F__law_drawn F__law_signs F__law_words C) (B1 (Ow T F__law_anchor F__law_drawn F__law_signs F__law_words C) (B1 (Ov T F__law_anchor F__law_drawn F__law_signs F__law_words C) (B1 (Ou T F__law_anchor F__law_drawn F__law_signs F__law_words C) (B1 (Ot T F__law_anchor F__law_drawn F__law_signs F__law_words C) (B1 (Os T F__law_anchor F__law_drawn F__law_signs F__law_words C) (B1 (Oq T F__law_anchor F__law_drawn F__law_signs F__law_words C) (B6 (Op T F__law_anchor F__law_drawn F__law_signs F__law_words C)))))))))
theorem Uz:FnScope Q4 ["_law_script", "_law_at", "_law_most", "_law_names_here"] (A5 (top 34)):=⟨rfl,rfl,rfl,by decide +kernel,rfl,by decide +kernel,by decide +kernel⟩
theorem Pb  (T:Txt mg) (F__law_deed:Fn P w K mg base "_law_deed" 4 5 N3) (F__law_drawn:Fn P w K mg base "_law_drawn" 2 3 A8) (C:Cxt P w K mg base X Q4 (A5 (top 34)) 4 true):DS X E0k (stm 34 0) Ar :=
 (K7 C 4 (by kernel_rfl) (M5 A9))
theorem Pa  (T:Txt mg) (F__law_deed:Fn P w K mg base "_law_deed" 4 5 N3) (F__law_drawn:Fn P w K mg base "_law_drawn" 2 3 A8) (C:Cxt P w K mg base X Q4 (A5 (top 34)) 4 true):DS X E0k (stm 34 1) Aq :=
 (K7 C 5 (by kernel_rfl) (M5 (A1 A6 (A1 E1 A9))))
theorem Oz  (T:Txt mg) (F__law_deed:Fn P w K mg base "_law_deed" 4 5 N3) (F__law_drawn:Fn P w K mg base "_law_drawn" 2 3 A8) (C:Cxt P w K mg base X Q4 (A5 (top 34)) 4 true):DS X E0k (stm 34 2) Ap :=
 (Fe C 6 (by kernel_rfl) (Ct C (by kernel_rfl) T.b_range (A1 (B9 C F__law_drawn (by decide) (by kernel_rfl) (A1 (A3 C 0 (by kernel_rfl)) (A1 (A3 C 1 (by kernel_rfl)) (A1 (D6 (A3 C 2 (by kernel_rfl)) A6) A9)))) A9)) (B1 (K7 C 7 (by kernel_rfl) (D6 (D3 (A3 C 5 (by kernel_rfl)) A6) (B9 C F__law_drawn (by decide) (by kernel_rfl) (A1 (A3 C 0 (by kernel_rfl)) (A1 (D6 (D6 (A3 C 1 (by kernel_rfl)) A6) (V0 A6 (A3 C 6 (by kernel_rfl)))) (A1 A6 A9)))))) (B1 (K7 C 8 (by kernel_rfl) (D3 E1 (B9 C F__law_drawn (by decide) (by kernel_rfl) (A1 (A3 C 0 (by kernel_rfl)) (A1 (D6 (D6 (A3 C 1 (by kernel_rfl)) A6) (V0 A6 (A3 C 6 (by kernel_rfl)))) (A1 A6 A9)))))) (B1 (O1 (w_t (Bk (Kp C (A3 C 4 (by kernel_rfl)) (M5 A9)) (Ad (t_le C (M5 (A1 (A3 C 7 (by kernel_rfl)) (A1 (A3 C 8 (by kernel_rfl)) A9))) (A3 C 5 (by kernel_rfl)))))) (B6 (K7 C 7 (by kernel_rfl) (D6 (D3 (A3 C 5 (by kernel_rfl)) A6) A6))) E8) (B1 (K7 C 5 (by kernel_rfl) (M5 (A1 (A3 C 7 (by kernel_rfl)) (A1 (A3 C 8 (by kernel_rfl)) A9)))) (B1 (K7 C 9 (by kernel_rfl) (lK C (by kernel_rfl) T.b_tuple (A1 (E2 (I9 C [7] ["_law_time"] (by kernel_rfl) (P4 (A3 C 4 (by kernel_rfl))) (fun X' C'=>(Y0 (dS C' (D3 (D3 (A3 C' 0 (by kernel_rfl)) A6) A6) (A3 C' 1 (by kernel_rfl))))) (fun X' C'=>(A3 C' 0 (by kernel_rfl))))) A9))) (B6 (K7 C 4 (by kernel_rfl) (D6 (A3 C 4 (by kernel_rfl)) (M5 (A1 (B9 C F__law_deed (by decide) (by kernel_rfl) (A1 (A3 C 0 (by kernel_rfl)) (A1 (D6 (D6 (A3 C 1 (by kernel_rfl)) A6) (V0 A6 (A3 C 6 (by kernel_rfl)))) (A1 (A3 C 5 (by kernel_rfl)) (A1 (A3 C 9 (by kernel_rfl)) (A1 (A3 C 3 (by kernel_rfl)) A9)))))) A9)))))))))))
theorem Oy  (T:Txt mg) (F__law_deed:Fn P w K mg base "_law_deed" 4 5 N3) (F__law_drawn:Fn P w K mg base "_law_drawn" 2 3 A8) (C:Cxt P w K mg base X Q4 (A5 (top 34)) 4 true):DS X E0k (stm 34 3) Ao :=
 (C6 (A3 C 4 (by kernel_rfl)))
theorem Qt  (T:Txt mg) (F__law_deed:Fn P w K mg base "_law_deed" 4 5 N3) (F__law_drawn:Fn P w K mg base "_law_drawn" 2 3 A8) (C:Cxt P w K mg base X Q4 (A5 (top 34)) 4 true):DSs X E0k (B5 (top 34)) Cb:=by
 have h:B5 (top 34)=[stm 34 0,stm 34 1,stm 34 2,stm 34 3]:=by kernel_rfl
 rw [h]
 exact (B1 (Pb T F__law_deed F__law_drawn C) (B1 (Pa T F__law_deed F__law_drawn C) (B1 (Oz T F__law_deed F__law_drawn C) (B6 (Oy T F__law_deed F__law_drawn C)))))
theorem Xn:FnScope X0 ["_law_number"] (A5 (top 35)):=⟨rfl,rfl,rfl,by decide +kernel,rfl,by decide +kernel,by decide +kernel⟩
theorem Rr  (T:Txt mg) (C:Cxt P w K mg base X X0 (A5 (top 35)) 0 true):DS X E0k (stm 35 0) Gw :=
 (K7 C 1 (by kernel_rfl) (E2 (L0 (A1 (Qf A6) (A1 A6 (A1 A6 (A1 A6 (A1 N5 (A1 N5 (A1 Dl (A1 E1 (A1 E1 (A1 E1 (A1 E1 (A1 E1 (A1 E1 (A1 (M5 A9) (A1 (E2 (L0 A9)) (A1 (M5 (A1 A6 (A1 E1 A9))) (A1 (M5 (A1 A6 (A1 E1 A9))) (A1 (M5 (A1 A6 (A1 E1 A9))) A9)))))))))))))))))))))
theorem Rq  (T:Txt mg) (C:Cxt P w K mg base X X0 (A5 (top 35)) 0 true):DS X E0k (stm 35 1) Gv :=
 (K7 C 1 (by kernel_rfl) (D6 (A3 C 1 (by kernel_rfl)) (E2 (L0 (A1 (@W8 _ _ _ 9 _ (by kernel_rfl)) (A1 (M5 (A1 (M5 (A1 A6 (A1 E1 A9))) (A1 (Qf A6) A9))) (A1 (M5 (A1 Dl (A1 E1 A9))) (A1 (M5 (A1 Dl (A1 E1 A9))) (A1 (@W8 _ _ _ 9 _ (by kernel_rfl)) A9)))))))))
theorem Rp  (T:Txt mg) (C:Cxt P w K mg base X X0 (A5 (top 35)) 0 true):DS X E0k (stm 35 2) Gu :=
 (C6 (D3 (D6 (A3 C 1 (by kernel_rfl)) (E2 (L0 (A1 E1 (A1 (V0 E1 A6) A9))))) (Cw (A3 C 0 (by kernel_rfl)) A6)))
theorem Sj  (T:Txt mg) (C:Cxt P w K mg base X X0 (A5 (top 35)) 0 true):DSs X E0k (B5 (top 35)) Ji:=by
 have h:B5 (top 35)=[stm 35 0,stm 35 1,stm 35 2]:=by kernel_rfl
 rw [h]
 exact (B1 (Rr T C) (B1 (Rq T C) (B6 (Rp T C))))
theorem Pl:FnScope Ce ["_law_thing", "_law_number", "_law_deep"] (A5 (top 36)):=⟨rfl,rfl,rfl,by decide +kernel,rfl,by decide +kernel,by decide +kernel⟩
theorem Lo {P:Program} {w:World} {K:PySem.W.Frag} {mg:Str->Option Value} {base:Heap} {X:Cx} {k j:Nat} {mself:List PyData->Res PyData} (T:Txt mg) (hk:1<=k) (Fself:Fn P w K mg base "_law_spoilt" j 3 mself) (hself:j<=k) (F__law_odd:Fn P w K mg base "_law_odd" 1 1 Be) (C:Cxt P w K mg base X Ce (A5 (top 36)) k true):DSs X E0k (B5 (top 36)) (Ef mself) :=
 (B1 (O1 (w_t (Bk (mK C (A3 C 2 (by kernel_rfl)) A6) (Bk (O3 (F6 C (by kernel_rfl) T.b_isinstance (by kernel_rfl) T.b_tuple (by decide +kernel) (by kernel_rfl) (A3 C 0 (by kernel_rfl)))) (Bk (mK C (M8 C (by kernel_rfl) T.b_len (A1 (A3 C 0 (by kernel_rfl)) A9)) A6) (Ad (mK C (Cw (A3 C 1 (by kernel_rfl)) A6) A6)))))) (B1 (K7 C 3 (by kernel_rfl) (Cw (Bg (A3 C 1 (by kernel_rfl)) A6) (M8 C (by kernel_rfl) T.b_len (A1 (A3 C 0 (by kernel_rfl)) A9)))) (B1 (K7 C 4 (by kernel_rfl) (B9 C Fself hself (by kernel_rfl) (A1 (D3 (A3 C 0 (by kernel_rfl)) (A3 C 3 (by kernel_rfl))) (A1 (Bg (A3 C 1 (by kernel_rfl)) A6) (A1 (Yo (A3 C 2 (by kernel_rfl)) A6) A9))))) (B6 (C6 (D6 (D6 (N8 (A3 C 0 (by kernel_rfl)) R7 (P8 (A3 C 3 (by kernel_rfl)))) (M5 (A1 (A3 C 4 (by kernel_rfl)) A9))) (N8 (A3 C 0 (by kernel_rfl)) (P8 (D6 (A3 C 3 (by kernel_rfl)) A6)) R7)))))) E8) (B1 (O1 (w_t (Bk (O3 (F6 C (by kernel_rfl) T.b_isinstance (by kernel_rfl) T.b_tuple (by decide +kernel) (by kernel_rfl) (A3 C 0 (by kernel_rfl)))) (Bk (mK C (M8 C (by kernel_rfl) T.b_len (A1 (A3 C 0 (by kernel_rfl)) A9)) A6) (Ad (W3 C (Cw (Bg (A3 C 1 (by kernel_rfl)) A6) A6) A6))))) (B6 (C6 (D3 (E2 (L0 (A1 (Dm C (by kernel_rfl) T.b_list (A1 (A3 C 0 (by kernel_rfl)) A9)) (A1 (N8 (A3 C 0 (by kernel_rfl)) R7 (P8 (Qf A6))) (A1 (D6 (A3 C 0 (by kernel_rfl)) (N8 (A3 C 0 (by kernel_rfl)) (P8 (Qf A6)) R7)) (A1 (N8 (A3 C 0 (by kernel_rfl)) (P8 A6) R7) (A1 (rT (A3 C 0 (by kernel_rfl))) (A1 (V0 (A3 C 0 (by kernel_rfl)) A6) A9)))))))) (Cw (Bg (A3 C 1 (by kernel_rfl)) A6) A6)))) E8) (B1 (O1 (w_t (Bk (O3 (F6 C (by kernel_rfl) T.b_isinstance (by kernel_rfl) T.b_int (by decide +kernel) (by kernel_rfl) (A3 C 0 (by kernel_rfl)))) (Ad (W3 C (Cw (Bg (A3 C 1 (by kernel_rfl)) A6) A6) A6)))) (B6 (C6 (D3 (E2 (L0 (A1 (vP C (by kernel_rfl) T.b_str (A1 (A3 C 0 (by kernel_rfl)) A9)) (A1 (Yo A6 (A3 C 0 (by kernel_rfl))) (A1 (D6 (A3 C 0 (by kernel_rfl)) A6) (A1 (Eu C (A3 C 0 (by kernel_rfl)) A6) (A1 (Yo (A3 C 0 (by kernel_rfl)) A6) (A1 (D6 (A3 C 0 (by kernel_rfl)) A6) A9)))))))) (Cw (Bg (A3 C 1 (by kernel_rfl)) A6) A6)))) E8) (B6 (C6 (B9 C F__law_odd (Nat.le_trans (by decide) hk) (by kernel_rfl) (A1 (Bg (A3 C 1 (by kernel_rfl)) A6) A9)))))))
theorem Kz:FnScope Y9 ["_law_thing", "_law_low"] (A5 (top 37)):=⟨rfl,rfl,rfl,by decide +kernel,rfl,by decide +kernel,by decide +kernel⟩
theorem Ie  (T:Txt mg) (C:Cxt P w K mg base X Y9 (A5 (top 37)) 0 true):DSs X E0k (B5 (top 37)) Bs :=
 (B6 (C6 (O8 (F6 C (by kernel_rfl) T.b_isinstance (by kernel_rfl) T.b_int (by decide +kernel) (by kernel_rfl) (A3 C 0 (by kernel_rfl))) (O8 (rW (F6 C (by kernel_rfl) T.b_isinstance (by kernel_rfl) T.b_bool (by decide +kernel) (by kernel_rfl) (A3 C 0 (by kernel_rfl)))) (U9 (d_ge C (A3 C 0 (by kernel_rfl)) (A3 C 1 (by kernel_rfl))))))))
theorem Rz:FnScope V9 ["_law_thing"] (A5 (top 38)):=⟨rfl,rfl,rfl,by decide +kernel,rfl,by decide +kernel,by decide +kernel⟩
theorem Mu  (T:Txt mg) (F__law_is_count:Fn P w K mg base "_law_is_count" 1 2 F3) (C:Cxt P w K mg base X V9 (A5 (top 38)) 1 true):DS X E0k (stm 38 0) Ea :=
 (O1 (w_t (Dd (N9 (O3 (F6 C (by kernel_rfl) T.b_isinstance (by kernel_rfl) T.b_tuple (by decide +kernel) (by kernel_rfl) (A3 C 0 (by kernel_rfl))))) (Dd (Kp C (M8 C (by kernel_rfl) T.b_len (A1 (A3 C 0 (by kernel_rfl)) A9)) A6) (Ac (N9 (O3 (B9 C F__law_is_count (by decide) (by kernel_rfl) (A1 (D3 (A3 C 0 (by kernel_rfl)) A6) (A1 A6 A9))))))))) (B6 (C6 N5)) E8)
theorem Mt  (T:Txt mg) (F__law_is_count:Fn P w K mg base "_law_is_count" 1 2 F3) (C:Cxt P w K mg base X V9 (A5 (top 38)) 1 true):DS X E0k (stm 38 1) Dz :=
 (C6 (O8 (F6 C (by kernel_rfl) T.b_isinstance (by kernel_rfl) T.b_str (by decide +kernel) (by kernel_rfl) (D3 (A3 C 0 (by kernel_rfl)) A6)) (U9 (d_in C (D3 (A3 C 0 (by kernel_rfl)) A6) (M5 (A1 E1 (A1 E1 (A1 E1 (A1 E1 (A1 E1 (A1 E1 (A1 E1 (A1 E1 A9)))))))))))))
theorem Nk  (T:Txt mg) (F__law_is_count:Fn P w K mg base "_law_is_count" 1 2 F3) (C:Cxt P w K mg base X V9 (A5 (top 38)) 1 true):DSs X E0k (B5 (top 38)) Fd:=by
 have h:B5 (top 38)=[stm 38 0,stm 38 1]:=by kernel_rfl
 rw [h]
 exact (B1 (Mu T F__law_is_count C) (B6 (Mt T F__law_is_count C)))
theorem Mw:FnScope Bj ["_law_thing"] (A5 (top 39)):=⟨rfl,rfl,rfl,by decide +kernel,rfl,by decide +kernel,by decide +kernel⟩
theorem Kh  (T:Txt mg) (F__law_is_count:Fn P w K mg base "_law_is_count" 1 2 F3) (F__law_is_id:Fn P w K mg base "_law_is_id" 2 1 D5) (C:Cxt P w K mg base X Bj (A5 (top 39)) 2 true):DSs X E0k (B5 (top 39)) Cn :=
 (B6 (C6 (O8 (F6 C (by kernel_rfl) T.b_isinstance (by kernel_rfl) T.b_tuple (by decide +kernel) (by kernel_rfl) (A3 C 0 (by kernel_rfl))) (O8 (Eu C (M8 C (by kernel_rfl) T.b_len (A1 (A3 C 0 (by kernel_rfl)) A9)) A6) (O8 (B9 C F__law_is_id (by decide) (by kernel_rfl) (A1 (D3 (A3 C 0 (by kernel_rfl)) A6) A9)) (U9 (B9 C F__law_is_count (by decide) (by kernel_rfl) (A1 (D3 (A3 C 0 (by kernel_rfl)) A6) (A1 A6 A9)))))))))
theorem Mv:FnScope Bi ["_law_thing", "_law_signs_here", "_law_most"] (A5 (top 40)):=⟨rfl,rfl,rfl,by decide +kernel,rfl,by decide +kernel,by decide +kernel⟩
theorem Kg  (T:Txt mg) (C:Cxt P w K mg base X Bi (A5 (top 40)) 0 true):DSs X E0k (B5 (top 40)) Cm :=
 (B1 (O1 (w_t (Dd (N9 (O3 (F6 C (by kernel_rfl) T.b_isinstance (by kernel_rfl) T.b_str (by decide +kernel) (by kernel_rfl) (A3 C 0 (by kernel_rfl))))) (Ac (N9 (Z8 C A6 (M8 C (by kernel_rfl) T.b_len (A1 (A3 C 0 (by kernel_rfl)) A9)) (A3 C 2 (by kernel_rfl))))))) (B6 (C6 N5)) E8) (B6 (C6 (Eu C (E2 (I9 C [1] ["_law_signs_here"] (by kernel_rfl) (P4 (A3 C 0 (by kernel_rfl))) (fun X' C'=>(Y0 (Np C' (A3 C' 0 (by kernel_rfl)) (A3 C' 1 (by kernel_rfl))))) (fun X' C'=>(A3 C' 0 (by kernel_rfl))))) (E2 (L0 A9))))))
theorem Jj:FnScope O2 ["_law_thing"] (A5 (top 41)):=⟨rfl,rfl,rfl,by decide +kernel,rfl,by decide +kernel,by decide +kernel⟩
theorem Gj  (T:Txt mg) (F__law_is_sign:Fn P w K mg base "_law_is_sign" 3 1 D9) (C:Cxt P w K mg base X O2 (A5 (top 41)) 3 true):DS X E0k (stm 41 0) Z2 :=
 (O1 (w_t (Dd (N9 (O3 (F6 C (by kernel_rfl) T.b_isinstance (by kernel_rfl) T.b_tuple (by decide +kernel) (by kernel_rfl) (A3 C 0 (by kernel_rfl))))) (Ac (Kp C (M8 C (by kernel_rfl) T.b_len (A1 (A3 C 0 (by kernel_rfl)) A9)) A6)))) (B6 (C6 N5)) E8)
theorem Gi  (T:Txt mg) (F__law_is_sign:Fn P w K mg base "_law_is_sign" 3 1 D9) (C:Cxt P w K mg base X O2 (A5 (top 41)) 3 true):DS X E0k (stm 41 1) Z1 :=
 (O1 (w_t (Dd (N9 (O3 (F6 C (by kernel_rfl) T.b_isinstance (by kernel_rfl) T.b_str (by decide +kernel) (by kernel_rfl) (D3 (A3 C 0 (by kernel_rfl)) A6)))) (Ac (Np C (D3 (A3 C 0 (by kernel_rfl)) A6) (M5 (A1 E1 (A1 E1 A9))))))) (B6 (C6 N5)) E8)
theorem Gh  (T:Txt mg) (F__law_is_sign:Fn P w K mg base "_law_is_sign" 3 1 D9) (C:Cxt P w K mg base X O2 (A5 (top 41)) 3 true):DS X E0k (stm 41 2) Z0 :=
 (C6 (d_or (rX (D3 (A3 C 0 (by kernel_rfl)) A6)) (U9 (B9 C F__law_is_sign (by decide) (by kernel_rfl) (A1 (D3 (A3 C 0 (by kernel_rfl)) A6) A9)))))
theorem Gm  (T:Txt mg) (F__law_is_sign:Fn P w K mg base "_law_is_sign" 3 1 D9) (C:Cxt P w K mg base X O2 (A5 (top 41)) 3 true):DSs X E0k (B5 (top 41)) Ay:=by
 have h:B5 (top 41)=[stm 41 0,stm 41 1,stm 41 2]:=by kernel_rfl
 rw [h]
 exact (B1 (Gj T F__law_is_sign C) (B1 (Gi T F__law_is_sign C) (B6 (Gh T F__law_is_sign C))))
theorem La:FnScope L7 ["_law_thing"] (A5 (top 42)):=⟨rfl,rfl,rfl,by decide +kernel,rfl,by decide +kernel,by decide +kernel⟩
theorem Hq  (T:Txt mg) (F__law_is_anchor:Fn P w K mg base "_law_is_anchor" 4 1 F8) (F__law_is_id:Fn P w K mg base "_law_is_id" 2 1 D5) (F__law_is_sign:Fn P w K mg base "_law_is_sign" 3 1 D9) (F__law_is_text:Fn P w K mg base "_law_is_text" 1 3 J3) (C:Cxt P w K mg base X L7 (A5 (top 42)) 4 true):DS X E0k (stm 42 0) Af :=
 (O1 (w_t (Bk (W3 C (D3 (A3 C 0 (by kernel_rfl)) A6) E1) (Ad (W3 C (M8 C (by kernel_rfl) T.b_len (A1 (A3 C 0 (by kernel_rfl)) A9)) A6)))) (B1 (O1 (w_t (Bk (Zm (D3 (A3 C 0 (by kernel_rfl)) A6)) (Ad (N9 (O3 (B9 C F__law_is_sign (by decide) (by kernel_rfl) (A1 (D3 (A3 C 0 (by kernel_rfl)) A6) A9))))))) (B6 (C6 N5)) E8) (B1 (O1 (w_t (Dd (N9 (O3 (F6 C (by kernel_rfl) T.b_isinstance (by kernel_rfl) T.b_str (by decide +kernel) (by kernel_rfl) (D3 (A3 C 0 (by kernel_rfl)) A6)))) (Ac (N9 (Z8 C A6 (M8 C (by kernel_rfl) T.b_len (A1 (D3 (A3 C 0 (by kernel_rfl)) A6) A9)) A6))))) (B6 (C6 N5)) E8) (B6 (C6 (Eu C (E2 (I9 C [] [] (by kernel_rfl) (P4 (D3 (A3 C 0 (by kernel_rfl)) A6)) (fun X' C'=>(Y0 (N9 (Z8 C' E1 (A3 C' 0 (by kernel_rfl)) E1)))) (fun X' C'=>(A3 C' 0 (by kernel_rfl))))) (E2 (L0 A9))))))) E8)
theorem Ho  (T:Txt mg) (F__law_is_anchor:Fn P w K mg base "_law_is_anchor" 4 1 F8) (F__law_is_id:Fn P w K mg base "_law_is_id" 2 1 D5) (F__law_is_sign:Fn P w K mg base "_law_is_sign" 3 1 D9) (F__law_is_text:Fn P w K mg base "_law_is_text" 1 3 J3) (C:Cxt P w K mg base X L7 (A5 (top 42)) 4 true):DS X E0k (stm 42 1) Ae :=
 (O1 (w_t (Bk (W3 C (D3 (A3 C 0 (by kernel_rfl)) A6) E1) (Ad (W3 C (M8 C (by kernel_rfl) T.b_len (A1 (A3 C 0 (by kernel_rfl)) A9)) A6)))) (B1 (O1 (w_t (Dd (N9 (O3 (F6 C (by kernel_rfl) T.b_isinstance (by kernel_rfl) T.b_tuple (by decide +kernel) (by kernel_rfl) (D3 (A3 C 0 (by kernel_rfl)) A6)))) (Ac (N9 (Z8 C A6 (M8 C (by kernel_rfl) T.b_len (A1 (D3 (A3 C 0 (by kernel_rfl)) A6) A9)) A6))))) (B6 (C6 N5)) E8) (B1 (O1 (Kp C (E2 (I9 C [] [] (by kernel_rfl) (P4 (D3 (A3 C 0 (by kernel_rfl)) A6)) (fun X' C'=>(Y0 (N9 (O3 (B9 C' F__law_is_sign (by decide) (by kernel_rfl) (A1 (A3 C' 0 (by kernel_rfl)) A9)))))) (fun X' C'=>(A3 C' 0 (by kernel_rfl))))) (E2 (L0 A9))) (B6 (C6 N5)) E8) (B6 (C6 (Eu C (Dm C (by kernel_rfl) T.b_list (A1 (D3 (A3 C 0 (by kernel_rfl)) A6) A9)) (Qe C (by kernel_rfl) T.b_sorted (by kernel_rfl) T.b_set (A1 (D3 (A3 C 0 (by kernel_rfl)) A6) A9))))))) E8)
theorem Hn  (T:Txt mg) (F__law_is_anchor:Fn P w K mg base "_law_is_anchor" 4 1 F8) (F__law_is_id:Fn P w K mg base "_law_is_id" 2 1 D5) (F__law_is_sign:Fn P w K mg base "_law_is_sign" 3 1 D9) (F__law_is_text:Fn P w K mg base "_law_is_text" 1 3 J3) (C:Cxt P w K mg base X L7 (A5 (top 42)) 4 true):DS X E0k (stm 42 2) U6 :=
 (K7 C 1 (by kernel_rfl) E1)
theorem Hm  (T:Txt mg) (F__law_is_anchor:Fn P w K mg base "_law_is_anchor" 4 1 F8) (F__law_is_id:Fn P w K mg base "_law_is_id" 2 1 D5) (F__law_is_sign:Fn P w K mg base "_law_is_sign" 3 1 D9) (F__law_is_text:Fn P w K mg base "_law_is_text" 1 3 J3) (C:Cxt P w K mg base X L7 (A5 (top 42)) 4 true):DS X E0k (stm 42 3) U5 :=
 (O1 (w_t (Bk (W3 C (D3 (A3 C 0 (by kernel_rfl)) A6) E1) (Ad (W3 C (M8 C (by kernel_rfl) T.b_len (A1 (A3 C 0 (by kernel_rfl)) A9)) A6)))) (B6 (C6 (O8 (B9 C F__law_is_text (by decide) (by kernel_rfl) (A1 (D3 (A3 C 0 (by kernel_rfl)) A6) (A1 (A3 C 1 (by kernel_rfl)) (A1 A6 A9)))) (O8 (B9 C F__law_is_anchor (by decide) (by kernel_rfl) (A1 (D3 (A3 C 0 (by kernel_rfl)) A6) A9)) (U9 (B9 C F__law_is_anchor (by decide) (by kernel_rfl) (A1 (D3 (A3 C 0 (by kernel_rfl)) A6) A9))))))) E8)
theorem Hl  (T:Txt mg) (F__law_is_anchor:Fn P w K mg base "_law_is_anchor" 4 1 F8) (F__law_is_id:Fn P w K mg base "_law_is_id" 2 1 D5) (F__law_is_sign:Fn P w K mg base "_law_is_sign" 3 1 D9) (F__law_is_text:Fn P w K mg base "_law_is_text" 1 3 J3) (C:Cxt P w K mg base X L7 (A5 (top 42)) 4 true):DS X E0k (stm 42 4) U4 :=
 (O1 (w_t (Bk (W3 C (D3 (A3 C 0 (by kernel_rfl)) A6) E1) (Ad (W3 C (M8 C (by kernel_rfl) T.b_len (A1 (A3 C 0 (by kernel_rfl)) A9)) A6)))) (B6 (C6 (B9 C F__law_is_text (by decide) (by kernel_rfl) (A1 (D3 (A3 C 0 (by kernel_rfl)) A6) (A1 (A3 C 1 (by kernel_rfl)) (A1 A6 A9)))))) E8)
theorem Hk  (T:Txt mg) (F__law_is_anchor:Fn P w K mg base "_law_is_anchor" 4 1 F8) (F__law_is_id:Fn P w K mg base "_law_is_id" 2 1 D5) (F__law_is_sign:Fn P w K mg base "_law_is_sign" 3 1 D9) (F__law_is_text:Fn P w K mg base "_law_is_text" 1 3 J3) (C:Cxt P w K mg base X L7 (A5 (top 42)) 4 true):DS X E0k (stm 42 5) U3 :=
 (C6 (O8 (Eu C (D3 (A3 C 0 (by kernel_rfl)) A6) E1) (O8 (Eu C (M8 C (by kernel_rfl) T.b_len (A1 (A3 C 0 (by kernel_rfl)) A9)) A6) (U9 (B9 C F__law_is_id (by decide) (by kernel_rfl) (A1 (D3 (A3 C 0 (by kernel_rfl)) A6) A9))))))
theorem Ig  (T:Txt mg) (F__law_is_anchor:Fn P w K mg base "_law_is_anchor" 4 1 F8) (F__law_is_id:Fn P w K mg base "_law_is_id" 2 1 D5) (F__law_is_sign:Fn P w K mg base "_law_is_sign" 3 1 D9) (F__law_is_text:Fn P w K mg base "_law_is_text" 1 3 J3) (C:Cxt P w K mg base X L7 (A5 (top 42)) 4 true):DSs X E0k (B5 (top 42)) Bt:=by
 have h:B5 (top 42)=[stm 42 0,stm 42 1,stm 42 2,stm 42 3,stm 42 4,stm 42 5]:=by kernel_rfl
 rw [h]
 exact (B1 (Hq T F__law_is_anchor F__law_is_id F__law_is_sign F__law_is_text C) (B1 (Ho T F__law_is_anchor F__law_is_id F__law_is_sign F__law_is_text C) (B1 (Hn T F__law_is_anchor F__law_is_id F__law_is_sign F__law_is_text C) (B1 (Hm T F__law_is_anchor F__law_is_id F__law_is_sign F__law_is_text C) (B1 (Hl T F__law_is_anchor F__law_is_id F__law_is_sign F__law_is_text C) (B6 (Hk T F__law_is_anchor F__law_is_id F__law_is_sign F__law_is_text C)))))))
theorem Ry:FnScope Q9 ["_law_deed_here"] (A5 (top 43)):=⟨rfl,rfl,rfl,by decide +kernel,rfl,by decide +kernel,by decide +kernel⟩
theorem Ms  (T:Txt mg) (C:Cxt P w K mg base X Q9 (A5 (top 43)) 0 true):DS X E0k (stm 43 0) Dy :=
 (O1 (W3 C (D3 (A3 C 0 (by kernel_rfl)) A6) E1) (B6 (C6 (M5 (A1 (V0 (E2 (L0 (A1 (D3 (A3 C 0 (by kernel_rfl)) A6) A9))) (bD C (by kernel_rfl) T.b_int (A1 (vQ (D3 (A3 C 0 (by kernel_rfl)) A6)) A9))) (A1 (E2 (L0 A9)) A9))))) E8)
theorem Mr  (T:Txt mg) (C:Cxt P w K mg base X Q9 (A5 (top 43)) 0 true):DS X E0k (stm 43 1) Dx :=
 (O1 (W3 C (D3 (A3 C 0 (by kernel_rfl)) A6) E1) (B6 (C6 (M5 (A1 (Dm C (by kernel_rfl) T.b_list (A1 (D3 (A3 C 0 (by kernel_rfl)) A6) A9)) (A1 (E2 (L0 A9)) A9))))) E8)
theorem Mq  (T:Txt mg) (C:Cxt P w K mg base X Q9 (A5 (top 43)) 0 true):DS X E0k (stm 43 2) Dw :=
 (O1 (W3 C (D3 (A3 C 0 (by kernel_rfl)) A6) E1) (B6 (C6 (M5 (A1 (E2 (I9 C [] [] (by kernel_rfl) (P4 (N8 (A3 C 0 (by kernel_rfl)) (P8 A6) R7)) (fun X' C'=>(Y0 (Zm (D3 (A3 C' 0 (by kernel_rfl)) A6)))) (fun X' C'=>(D3 (A3 C' 0 (by kernel_rfl)) A6)))) (A1 (E2 (L0 A9)) A9))))) E8)
theorem Mp  (T:Txt mg) (C:Cxt P w K mg base X Q9 (A5 (top 43)) 0 true):DS X E0k (stm 43 3) Dv :=
 (C6 (M5 (A1 (E2 (L0 A9)) (A1 (V0 (E2 (L0 (A1 (D3 (A3 C 0 (by kernel_rfl)) A6) A9))) (bD C (by kernel_rfl) T.b_int (A1 (Eu C (D3 (A3 C 0 (by kernel_rfl)) A6) E1) A9))) A9))))
theorem Nj  (T:Txt mg) (C:Cxt P w K mg base X Q9 (A5 (top 43)) 0 true):DSs X E0k (B5 (top 43)) Fc:=by
 have h:B5 (top 43)=[stm 43 0,stm 43 1,stm 43 2,stm 43 3]:=by kernel_rfl
 rw [h]
 exact (B1 (Ms T C) (B1 (Mr T C) (B1 (Mq T C) (B6 (Mp T C)))))
theorem Mx:FnScope O9 ["_law_thing"] (A5 (top 44)):=⟨rfl,rfl,rfl,by decide +kernel,rfl,by decide +kernel,by decide +kernel⟩
theorem Ix  (T:Txt mg) (F__law_has_form:Fn P w K mg base "_law_has_form" 5 1 K1) (F__law_is_id:Fn P w K mg base "_law_is_id" 2 1 D5) (F__law_named:Fn P w K mg base "_law_named" 1 1 F5) (C:Cxt P w K mg base X O9 (A5 (top 44)) 5 true):DS X E0k (stm 44 0) Bn :=
 (O1 (w_t (Dd (N9 (O3 (F6 C (by kernel_rfl) T.b_isinstance (by kernel_rfl) T.b_tuple (by decide +kernel) (by kernel_rfl) (A3 C 0 (by kernel_rfl))))) (Dd (dS C (M8 C (by kernel_rfl) T.b_len (A1 (A3 C 0 (by kernel_rfl)) A9)) A6) (Dd (N9 (O3 (F6 C (by kernel_rfl) T.b_isinstance (by kernel_rfl) T.b_str (by decide +kernel) (by kernel_rfl) (D3 (A3 C 0 (by kernel_rfl)) A6)))) (Ac (N9 (O3 (B9 C F__law_is_id (by decide) (by kernel_rfl) (A1 (D3 (A3 C 0 (by kernel_rfl)) A6) A9))))))))) (B6 (C6 N5)) E8)
theorem Iw  (T:Txt mg) (F__law_has_form:Fn P w K mg base "_law_has_form" 5 1 K1) (F__law_is_id:Fn P w K mg base "_law_is_id" 2 1 D5) (F__law_named:Fn P w K mg base "_law_named" 1 1 F5) (C:Cxt P w K mg base X O9 (A5 (top 44)) 5 true):DS X E0k (stm 44 1) Bm :=
 (O1 (N9 (O3 (B9 C F__law_has_form (by decide) (by kernel_rfl) (A1 (A3 C 0 (by kernel_rfl)) A9)))) (B6 (C6 N5)) E8)
theorem Iv  (T:Txt mg) (F__law_has_form:Fn P w K mg base "_law_has_form" 5 1 K1) (F__law_is_id:Fn P w K mg base "_law_is_id" 2 1 D5) (F__law_named:Fn P w K mg base "_law_named" 1 1 F5) (C:Cxt P w K mg base X O9 (A5 (top 44)) 5 true):DS X E0k (stm 44 2) R9 :=
 (iQ C 1 2 (by kernel_rfl) (by kernel_rfl) (B9 C F__law_named (by decide) (by kernel_rfl) (A1 (A3 C 0 (by kernel_rfl)) A9)))
theorem Iu  (T:Txt mg) (F__law_has_form:Fn P w K mg base "_law_has_form" 5 1 K1) (F__law_is_id:Fn P w K mg base "_law_is_id" 2 1 D5) (F__law_named:Fn P w K mg base "_law_named" 1 1 F5) (C:Cxt P w K mg base X O9 (A5 (top 44)) 5 true):DS X E0k (stm 44 3) Bl :=
 (C6 (Eu C (E2 (I9 C [0] ["_law_thing"] (by kernel_rfl) (P4 (D6 (E2 (I9 C [] [] (by kernel_rfl) (P4 (A3 C 1 (by kernel_rfl))) (fun X' C'=>S8) (fun X' C'=>(D3 (A3 C' 0 (by kernel_rfl)) A6)))) (A3 C 2 (by kernel_rfl)))) (fun X' C'=>(Y0 (t_ge C' (D3 (A3 C' 0 (by kernel_rfl)) A6) (D3 (D3 (A3 C' 1 (by kernel_rfl)) A6) A6)))) (fun X' C'=>(A3 C' 0 (by kernel_rfl))))) (E2 (L0 A9))))
theorem Ki  (T:Txt mg) (F__law_has_form:Fn P w K mg base "_law_has_form" 5 1 K1) (F__law_is_id:Fn P w K mg base "_law_is_id" 2 1 D5) (F__law_named:Fn P w K mg base "_law_named" 1 1 F5) (C:Cxt P w K mg base X O9 (A5 (top 44)) 5 true):DSs X E0k (B5 (top 44)) Co:=by
 have h:B5 (top 44)=[stm 44 0,stm 44 1,stm 44 2,stm 44 3]:=by kernel_rfl
 rw [h]
 exact (B1 (Ix T F__law_has_form F__law_is_id F__law_named C) (B1 (Iw T F__law_has_form F__law_is_id F__law_named C) (B1 (Iv T F__law_has_form F__law_is_id F__law_named C) (B6 (Iu T F__law_has_form F__law_is_id F__law_named C)))))
theorem My:FnScope N6 ["_law_thing"] (A5 (top 45)):=⟨rfl,rfl,rfl,by decide +kernel,rfl,by decide +kernel,by decide +kernel⟩
theorem Jc  (T:Txt mg) (F__law_is_deed:Fn P w K mg base "_law_is_deed" 6 1 B7) (F__law_named:Fn P w K mg base "_law_named" 1 1 F5) (F__law_signs:Fn P w K mg base "_law_signs" 1 1 D4) (C:Cxt P w K mg base X N6 (A5 (top 45)) 6 true):DS X E0k (stm 45 0) Bo :=
 (O1 (w_t (Dd (N9 (O3 (F6 C (by kernel_rfl) T.b_isinstance (by kernel_rfl) T.b_tuple (by decide +kernel) (by kernel_rfl) (A3 C 0 (by kernel_rfl))))) (Ac (Kp C (E2 (I9 C [] [] (by kernel_rfl) (P4 (A3 C 0 (by kernel_rfl))) (fun X' C'=>(Y0 (N9 (O3 (B9 C' F__law_is_deed (by decide) (by kernel_rfl) (A1 (A3 C' 0 (by kernel_rfl)) A9)))))) (fun X' C'=>(A3 C' 0 (by kernel_rfl))))) (E2 (L0 A9)))))) (B6 (C6 N5)) E8)
theorem Jb  (T:Txt mg) (F__law_is_deed:Fn P w K mg base "_law_is_deed" 6 1 B7) (F__law_named:Fn P w K mg base "_law_named" 1 1 F5) (F__law_signs:Fn P w K mg base "_law_signs" 1 1 D4) (C:Cxt P w K mg base X N6 (A5 (top 45)) 6 true):DS X E0k (stm 45 1) V5 :=
 (K7 C 1 (by kernel_rfl) (E2 (I9 C [] [] (by kernel_rfl) (P4 (A3 C 0 (by kernel_rfl))) (fun X' C'=>S8) (fun X' C'=>(D3 (A3 C' 0 (by kernel_rfl)) A6)))) (Zn C (by kernel_rfl)))
theorem Ja  (T:Txt mg) (F__law_is_deed:Fn P w K mg base "_law_is_deed" 6 1 B7) (F__law_named:Fn P w K mg base "_law_named" 1 1 F5) (F__law_signs:Fn P w K mg base "_law_signs" 1 1 D4) (C:Cxt P w K mg base X N6 (A5 (top 45)) 6 true):DS X E0k (stm 45 2) V4 :=
 (K7 C 2 (by kernel_rfl) (B9 C F__law_signs (by decide) (by kernel_rfl) (A1 (A3 C 0 (by kernel_rfl)) A9)))
theorem Iz  (T:Txt mg) (F__law_is_deed:Fn P w K mg base "_law_is_deed" 6 1 B7) (F__law_named:Fn P w K mg base "_law_named" 1 1 F5) (F__law_signs:Fn P w K mg base "_law_signs" 1 1 D4) (C:Cxt P w K mg base X N6 (A5 (top 45)) 6 true):DS X E0k (stm 45 3) S7 :=
 (Fe C 3 (by kernel_rfl) (P4 (A3 C 0 (by kernel_rfl))) (B1 (iQ C 4 5 (by kernel_rfl) (by kernel_rfl) (B9 C F__law_named (by decide) (by kernel_rfl) (A1 (A3 C 3 (by kernel_rfl)) A9))) (B6 (O1 (w_t (Dd (Kp C (E2 (I9 C [2] ["_law_every"] (by kernel_rfl) (P4 (A3 C 4 (by kernel_rfl))) (fun X' C'=>(Y0 (Np C' (A3 C' 0 (by kernel_rfl)) (A3 C' 1 (by kernel_rfl))))) (fun X' C'=>(A3 C' 0 (by kernel_rfl))))) (E2 (L0 A9))) (Ac (Kp C (E2 (I9 C [1] ["_law_ids"] (by kernel_rfl) (P4 (A3 C 5 (by kernel_rfl))) (fun X' C'=>(Y0 (Np C' (A3 C' 0 (by kernel_rfl)) (A3 C' 1 (by kernel_rfl))))) (fun X' C'=>(A3 C' 0 (by kernel_rfl))))) (E2 (L0 A9)))))) (B6 (C6 N5)) E8))))
theorem Iy  (T:Txt mg) (F__law_is_deed:Fn P w K mg base "_law_is_deed" 6 1 B7) (F__law_named:Fn P w K mg base "_law_named" 1 1 F5) (F__law_signs:Fn P w K mg base "_law_signs" 1 1 D4) (C:Cxt P w K mg base X N6 (A5 (top 45)) 6 true):DS X E0k (stm 45 4) S0 :=
 (C6 (Eu C (A3 C 1 (by kernel_rfl)) (Qe C (by kernel_rfl) T.b_sorted (by kernel_rfl) T.b_set (A1 (A3 C 1 (by kernel_rfl)) A9))))
theorem Kj  (T:Txt mg) (F__law_is_deed:Fn P w K mg base "_law_is_deed" 6 1 B7) (F__law_named:Fn P w K mg base "_law_named" 1 1 F5) (F__law_signs:Fn P w K mg base "_law_signs" 1 1 D4) (C:Cxt P w K mg base X N6 (A5 (top 45)) 6 true):DSs X E0k (B5 (top 45)) Cp:=by
 have h:B5 (top 45)=[stm 45 0,stm 45 1,stm 45 2,stm 45 3,stm 45 4]:=by kernel_rfl
 rw [h]
 exact (B1 (Jc T F__law_is_deed F__law_named F__law_signs C) (B1 (Jb T F__law_is_deed F__law_named F__law_signs C) (B1 (Ja T F__law_is_deed F__law_named F__law_signs C) (B1 (Iz T F__law_is_deed F__law_named F__law_signs C) (B6 (Iy T F__law_is_deed F__law_named F__law_signs C))))))
theorem Uw:FnScope Fu ["_law_thing"] (A5 (top 46)):=⟨rfl,rfl,rfl,by decide +kernel,rfl,by decide +kernel,by decide +kernel⟩
theorem Qq {P:Program} {w:World} {K:PySem.W.Frag} {mg:Str->Option Value} {base:Heap} {X:Cx} {k j:Nat} {mself:List PyData->Res PyData} (T:Txt mg) (hk:0<=k) (Fself:Fn P w K mg base "_law_each" j 1 mself) (hself:j<=k) (C:Cxt P w K mg base X Fu (A5 (top 46)) k true):DSs X E0k (B5 (top 46)) (Hb mself) :=
 (B1 (O1 (O3 (F6 C (by kernel_rfl) T.b_isinstance (by kernel_rfl) T.b_int (by decide +kernel) (by kernel_rfl) (A3 C 0 (by kernel_rfl)))) (B6 (C6 (E2 (L0 (A1 Dl (A1 N5 (A1 (Yo (A3 C 0 (by kernel_rfl)) A6) (A1 (D6 (A3 C 0 (by kernel_rfl)) A6) (A1 A6 A9))))))))) E8) (B1 (O1 (N9 (O3 (F6 C (by kernel_rfl) T.b_isinstance (by kernel_rfl) T.b_tuple (by decide +kernel) (by kernel_rfl) (A3 C 0 (by kernel_rfl))))) (B6 (C6 (E2 (L0 (A1 Dl (A1 E1 (A1 E1 (A1 E1 (A1 E1 A9))))))))) E8) (B1 (K7 C 1 (by kernel_rfl) (E2 (L0 (A1 Dl (A1 (Dm C (by kernel_rfl) T.b_list (A1 (A3 C 0 (by kernel_rfl)) A9)) (A1 (D6 (A3 C 0 (by kernel_rfl)) (N8 (A3 C 0 (by kernel_rfl)) (P8 (Qf A6)) R7)) (A1 (N8 (A3 C 0 (by kernel_rfl)) (P8 A6) R7) A9))))))) (B1 (Fe C 2 (by kernel_rfl) (Ct C (by kernel_rfl) T.b_range (A1 (M8 C (by kernel_rfl) T.b_len (A1 (A3 C 0 (by kernel_rfl)) A9)) A9)) (B6 (K7 C 1 (by kernel_rfl) (D6 (A3 C 1 (by kernel_rfl)) (E2 (I9 C [0,2] ["_law_thing", "_law_place"] (by kernel_rfl) (P4 (B9 C Fself hself (by kernel_rfl) (A1 (D3 (A3 C 0 (by kernel_rfl)) (A3 C 2 (by kernel_rfl))) A9))) (fun X' C'=>S8) (fun X' C'=>(D6 (D6 (N8 (A3 C' 1 (by kernel_rfl)) R7 (P8 (A3 C' 2 (by kernel_rfl)))) (M5 (A1 (A3 C' 0 (by kernel_rfl)) A9))) (N8 (A3 C' 1 (by kernel_rfl)) (P8 (D6 (A3 C' 2 (by kernel_rfl)) A6)) R7))))))))) (B6 (C6 (A3 C 1 (by kernel_rfl))))))))
theorem sT:FnScope Z3 ["_law_script"] (A5 (top 47)):=⟨rfl,rfl,rfl,by decide +kernel,rfl,by decide +kernel,by decide +kernel⟩
theorem iF  (T:Txt mg) (F__law_book:Fn P w K mg base "_law_book" 5 4 G6) (F__law_drawn:Fn P w K mg base "_law_drawn" 2 3 A8) (F__law_each:Fn P w K mg base "_law_each" 8 1 (E3 7)) (F__law_is_book:Fn P w K mg base "_law_is_book" 7 1 C9) (F__law_is_deed:Fn P w K mg base "_law_is_deed" 6 1 B7) (F__law_names:Fn P w K mg base "_law_names" 3 2 E7) (F__law_spoilt:Fn P w K mg base "_law_spoilt" 9 3 (C8 7)) (F_is_book:Fn P w K mg base "is_book" 8 1 K2) (F_is_deed:Fn P w K mg base "is_deed" 7 1 D8) (C:Cxt P w K mg base X Z3 (A5 (top 47)) 9 true):DS X E0k (stm 47 0) Xf :=
 (K7 C 1 (by kernel_rfl) (B9 C F__law_book (by decide) (by kernel_rfl) (A1 (A3 C 0 (by kernel_rfl)) (A1 A6 (A1 A6 (A1 (B9 C F__law_names (by decide) (by kernel_rfl) (A1 (A3 C 0 (by kernel_rfl)) (A1 A6 A9))) A9))))))
theorem iE  (T:Txt mg) (F__law_book:Fn P w K mg base "_law_book" 5 4 G6) (F__law_drawn:Fn P w K mg base "_law_drawn" 2 3 A8) (F__law_each:Fn P w K mg base "_law_each" 8 1 (E3 7)) (F__law_is_book:Fn P w K mg base "_law_is_book" 7 1 C9) (F__law_is_deed:Fn P w K mg base "_law_is_deed" 6 1 B7) (F__law_names:Fn P w K mg base "_law_names" 3 2 E7) (F__law_spoilt:Fn P w K mg base "_law_spoilt" 9 3 (C8 7)) (F_is_book:Fn P w K mg base "is_book" 8 1 K2) (F_is_deed:Fn P w K mg base "is_deed" 7 1 D8) (C:Cxt P w K mg base X Z3 (A5 (top 47)) 9 true):DS X E0k (stm 47 1) Xe :=
 (K7 C 2 (by kernel_rfl) (B9 C F__law_spoilt (by decide) (by kernel_rfl) (A1 (A3 C 1 (by kernel_rfl)) (A1 (B9 C F__law_drawn (by decide) (by kernel_rfl) (A1 (A3 C 0 (by kernel_rfl)) (A1 A6 (A1 (rV A6 A6) A9)))) (A1 (B9 C F__law_drawn (by decide) (by kernel_rfl) (A1 (A3 C 0 (by kernel_rfl)) (A1 A6 (A1 A6 A9)))) A9)))))
theorem iD  (T:Txt mg) (F__law_book:Fn P w K mg base "_law_book" 5 4 G6) (F__law_drawn:Fn P w K mg base "_law_drawn" 2 3 A8) (F__law_each:Fn P w K mg base "_law_each" 8 1 (E3 7)) (F__law_is_book:Fn P w K mg base "_law_is_book" 7 1 C9) (F__law_is_deed:Fn P w K mg base "_law_is_deed" 6 1 B7) (F__law_names:Fn P w K mg base "_law_names" 3 2 E7) (F__law_spoilt:Fn P w K mg base "_law_spoilt" 9 3 (C8 7)) (F_is_book:Fn P w K mg base "is_book" 8 1 K2) (F_is_deed:Fn P w K mg base "is_deed" 7 1 D8) (C:Cxt P w K mg base X Z3 (A5 (top 47)) 9 true):DS X E0k (stm 47 2) Xd :=
 (K7 C 3 (by kernel_rfl) (B9 C F__law_drawn (by decide) (by kernel_rfl) (A1 (A3 C 0 (by kernel_rfl)) (A1 A6 (A1 (d_max C (by kernel_rfl) T.b_max (A1 A6 (A1 (M8 C (by kernel_rfl) T.b_len (A1 (A3 C 1 (by kernel_rfl)) A9)) A9))) A9)))))
theorem iC  (T:Txt mg) (F__law_book:Fn P w K mg base "_law_book" 5 4 G6) (F__law_drawn:Fn P w K mg base "_law_drawn" 2 3 A8) (F__law_each:Fn P w K mg base "_law_each" 8 1 (E3 7)) (F__law_is_book:Fn P w K mg base "_law_is_book" 7 1 C9) (F__law_is_deed:Fn P w K mg base "_law_is_deed" 6 1 B7) (F__law_names:Fn P w K mg base "_law_names" 3 2 E7) (F__law_spoilt:Fn P w K mg base "_law_spoilt" 9 3 (C8 7)) (F_is_book:Fn P w K mg base "is_book" 8 1 K2) (F_is_deed:Fn P w K mg base "is_deed" 7 1 D8) (C:Cxt P w K mg base X Z3 (A5 (top 47)) 9 true):DS X E0k (stm 47 3) Om :=
 (K7 C 4 (by kernel_rfl) (E2 (L0 (A1 (A3 C 1 (by kernel_rfl)) (A1 (A3 C 2 (by kernel_rfl)) (A1 (D6 (N8 (A3 C 1 (by kernel_rfl)) R7 (P8 (A3 C 3 (by kernel_rfl)))) (N8 (A3 C 1 (by kernel_rfl)) (P8 (D6 (A3 C 3 (by kernel_rfl)) A6)) R7)) (A1 (D6 (D6 (N8 (A3 C 1 (by kernel_rfl)) R7 (P8 (A3 C 3 (by kernel_rfl)))) (V0 (N8 (A3 C 1 (by kernel_rfl)) (P8 (A3 C 3 (by kernel_rfl))) (P8 (D6 (A3 C 3 (by kernel_rfl)) A6))) A6)) (N8 (A3 C 1 (by kernel_rfl)) (P8 (D6 (A3 C 3 (by kernel_rfl)) A6)) R7)) A9)))))))
theorem iB  (T:Txt mg) (F__law_book:Fn P w K mg base "_law_book" 5 4 G6) (F__law_drawn:Fn P w K mg base "_law_drawn" 2 3 A8) (F__law_each:Fn P w K mg base "_law_each" 8 1 (E3 7)) (F__law_is_book:Fn P w K mg base "_law_is_book" 7 1 C9) (F__law_is_deed:Fn P w K mg base "_law_is_deed" 6 1 B7) (F__law_names:Fn P w K mg base "_law_names" 3 2 E7) (F__law_spoilt:Fn P w K mg base "_law_spoilt" 9 3 (C8 7)) (F_is_book:Fn P w K mg base "is_book" 8 1 K2) (F_is_deed:Fn P w K mg base "is_deed" 7 1 D8) (C:Cxt P w K mg base X Z3 (A5 (top 47)) 9 true):DS X E0k (stm 47 4) Xc :=
 (K7 C 4 (by kernel_rfl) (D6 (A3 C 4 (by kernel_rfl)) (E2 (L0 (A1 (rT (A3 C 1 (by kernel_rfl))) (A1 (Dm C (by kernel_rfl) T.b_list (A1 (A3 C 1 (by kernel_rfl)) A9)) A9))))))
theorem iA  (T:Txt mg) (F__law_book:Fn P w K mg base "_law_book" 5 4 G6) (F__law_drawn:Fn P w K mg base "_law_drawn" 2 3 A8) (F__law_each:Fn P w K mg base "_law_each" 8 1 (E3 7)) (F__law_is_book:Fn P w K mg base "_law_is_book" 7 1 C9) (F__law_is_deed:Fn P w K mg base "_law_is_deed" 6 1 B7) (F__law_names:Fn P w K mg base "_law_names" 3 2 E7) (F__law_spoilt:Fn P w K mg base "_law_spoilt" 9 3 (C8 7)) (F_is_book:Fn P w K mg base "is_book" 8 1 K2) (F_is_deed:Fn P w K mg base "is_deed" 7 1 D8) (C:Cxt P w K mg base X Z3 (A5 (top 47)) 9 true):DS X E0k (stm 47 5) Xb :=
 (Fe C 5 (by kernel_rfl) (P4 (A3 C 4 (by kernel_rfl))) (B1 (K7 C 10 (by kernel_rfl) (B9 C F_is_book (by decide) (by kernel_rfl) (A1 (A3 C 5 (by kernel_rfl)) A9))) (B6 (O1 (w_t (Dd (N9 (O3 (F6 C (by kernel_rfl) T.b_isinstance (by kernel_rfl) T.b_bool (by decide +kernel) (by kernel_rfl) (A3 C 10 (by kernel_rfl))))) (Ac (Kp C (A3 C 10 (by kernel_rfl)) (B9 C F__law_is_book (by decide) (by kernel_rfl) (A1 (A3 C 5 (by kernel_rfl)) A9)))))) (B6 (C6 N5)) E8))))
theorem hX  (T:Txt mg) (F__law_book:Fn P w K mg base "_law_book" 5 4 G6) (F__law_drawn:Fn P w K mg base "_law_drawn" 2 3 A8) (F__law_each:Fn P w K mg base "_law_each" 8 1 (E3 7)) (F__law_is_book:Fn P w K mg base "_law_is_book" 7 1 C9) (F__law_is_deed:Fn P w K mg base "_law_is_deed" 6 1 B7) (F__law_names:Fn P w K mg base "_law_names" 3 2 E7) (F__law_spoilt:Fn P w K mg base "_law_spoilt" 9 3 (C8 7)) (F_is_book:Fn P w K mg base "is_book" 8 1 K2) (F_is_deed:Fn P w K mg base "is_deed" 7 1 D8) (C:Cxt P w K mg base X Z3 (A5 (top 47)) 9 true):DS X E0k (stm 47 6) Xa:=by
 obtain ⟨a1,c1,c2,x2,t2,a3,a4,a5,m,x1,t,e2,p,p2,p3,p4,q,b,r,h,g1,g2,g3,g4,g5,g6,g7⟩:∃ a1 c1 c2 x2 t2 a3 a4 a5 m x1 t e2 p p2 p3 p4 q b r,stm 47 6=.Assign [.Name "_law_deeds" p] (.BinOp (.Call (.Name "list" p2) [.Name "_law_book_here" p3] [] p4) .Add (.List [.Tuple [a1,.Tuple [c1,c2] x2 t2,a3,.BinOp a4 .Mult a5 m] x1 t,e2] q) b) r/\cst 9 a1=some (.str "add")/\cst 9 c1=some (.int 3)/\cst 9 c2=some (.str "h")/\cst 9 a3=some (.tuple [.tuple [.int 2,.str "a"],.int 5])/\cst 9 a4=some (.str "x")/\cst 9 a5=some (.int 20)/\cst 9 e2=some (.tuple [.str "undo",.tuple [.int 2,.str "a"],.tuple [.int 2,.str "a"]]):=⟨_,_,_,_,_,_,_,_,_,_,_,_,_,_,_,_,_,_,_,rfl,by kernel_rfl,by kernel_rfl,by kernel_rfl,by kernel_rfl,by kernel_rfl,by kernel_rfl,by kernel_rfl⟩
 rw [h]
 exact K7 C 6 (by kernel_rfl) (D6 (Dm C (by kernel_rfl) T.b_list (A1 (A3 C 1 (by kernel_rfl)) A9)) (E2 (L0 (A1 (M5 (A1 (W8 g1) (A1 (M5 (A1 (W8 g2) (A1 (W8 g3) A9 (T9 g3)) (T9 g2))) (A1 (W8 g4) (A1 (V0 (W8 g5) (W8 g6)) A9) (T9 g4))) (T9 g1))) (A1 (W8 g7) A9 (T9 g7))))))
theorem hW  (T:Txt mg) (F__law_book:Fn P w K mg base "_law_book" 5 4 G6) (F__law_drawn:Fn P w K mg base "_law_drawn" 2 3 A8) (F__law_each:Fn P w K mg base "_law_each" 8 1 (E3 7)) (F__law_is_book:Fn P w K mg base "_law_is_book" 7 1 C9) (F__law_is_deed:Fn P w K mg base "_law_is_deed" 6 1 B7) (F__law_names:Fn P w K mg base "_law_names" 3 2 E7) (F__law_spoilt:Fn P w K mg base "_law_spoilt" 9 3 (C8 7)) (F_is_book:Fn P w K mg base "is_book" 8 1 K2) (F_is_deed:Fn P w K mg base "is_deed" 7 1 D8) (C:Cxt P w K mg base X Z3 (A5 (top 47)) 9 true):DS X E0k (stm 47 7) Wz :=
 (K7 C 7 (by kernel_rfl) (B9 C F__law_spoilt (by decide) (by kernel_rfl) (A1 (D3 (A3 C 6 (by kernel_rfl)) (A3 C 3 (by kernel_rfl))) (A1 (B9 C F__law_drawn (by decide) (by kernel_rfl) (A1 (A3 C 0 (by kernel_rfl)) (A1 A6 (A1 (rV A6 A6) A9)))) (A1 (B9 C F__law_drawn (by decide) (by kernel_rfl) (A1 (A3 C 0 (by kernel_rfl)) (A1 A6 (A1 A6 A9)))) A9)))))
theorem hV  (T:Txt mg) (F__law_book:Fn P w K mg base "_law_book" 5 4 G6) (F__law_drawn:Fn P w K mg base "_law_drawn" 2 3 A8) (F__law_each:Fn P w K mg base "_law_each" 8 1 (E3 7)) (F__law_is_book:Fn P w K mg base "_law_is_book" 7 1 C9) (F__law_is_deed:Fn P w K mg base "_law_is_deed" 6 1 B7) (F__law_names:Fn P w K mg base "_law_names" 3 2 E7) (F__law_spoilt:Fn P w K mg base "_law_spoilt" 9 3 (C8 7)) (F_is_book:Fn P w K mg base "is_book" 8 1 K2) (F_is_deed:Fn P w K mg base "is_deed" 7 1 D8) (C:Cxt P w K mg base X Z3 (A5 (top 47)) 9 true):DS X E0k (stm 47 8) Ey :=
 (Fe C 5 (by kernel_rfl) (P4 (D6 (A3 C 6 (by kernel_rfl)) (E2 (L0 (A1 (A3 C 7 (by kernel_rfl)) (A1 (A3 C 2 (by kernel_rfl)) (A1 (Vu (O3 (F6 C (by kernel_rfl) T.b_isinstance (by kernel_rfl) T.b_tuple (by decide +kernel) (by kernel_rfl) (A3 C 7 (by kernel_rfl)))) (D6 (A3 C 7 (by kernel_rfl)) (A3 C 7 (by kernel_rfl))) (A3 C 7 (by kernel_rfl))) A9))))))) (B1 (K7 C 10 (by kernel_rfl) (B9 C F_is_deed (by decide) (by kernel_rfl) (A1 (A3 C 5 (by kernel_rfl)) A9))) (B6 (O1 (w_t (Dd (N9 (O3 (F6 C (by kernel_rfl) T.b_isinstance (by kernel_rfl) T.b_bool (by decide +kernel) (by kernel_rfl) (A3 C 10 (by kernel_rfl))))) (Ac (Kp C (A3 C 10 (by kernel_rfl)) (B9 C F__law_is_deed (by decide) (by kernel_rfl) (A1 (A3 C 5 (by kernel_rfl)) A9)))))) (B6 (C6 N5)) E8))))
theorem hU  (T:Txt mg) (F__law_book:Fn P w K mg base "_law_book" 5 4 G6) (F__law_drawn:Fn P w K mg base "_law_drawn" 2 3 A8) (F__law_each:Fn P w K mg base "_law_each" 8 1 (E3 7)) (F__law_is_book:Fn P w K mg base "_law_is_book" 7 1 C9) (F__law_is_deed:Fn P w K mg base "_law_is_deed" 6 1 B7) (F__law_names:Fn P w K mg base "_law_names" 3 2 E7) (F__law_spoilt:Fn P w K mg base "_law_spoilt" 9 3 (C8 7)) (F_is_book:Fn P w K mg base "is_book" 8 1 K2) (F_is_deed:Fn P w K mg base "is_deed" 7 1 D8) (C:Cxt P w K mg base X Z3 (A5 (top 47)) 9 true):DS X E0k (stm 47 9) Wy:=by
 obtain ⟨e1,e2,p,q,r,h,h1,h2⟩:∃ e1 e2 p q r,stm 47 9=.Assign [.Name "_law_known" p] (.List [e1,e2] q) r/\cst 9 e1=some (.tuple [.str "add",.tuple [.int 3,.str "h"],.tuple [.tuple [.int 2,.str "a"],.int 5],.str "xy"])/\cst 9 e2=some (.tuple [.str "drop",.tuple [.int 3,.str "h"],.tuple [.tuple [.tuple [.int 2,.str "a"],.int 0]]]):=⟨_,_,_,_,_,rfl,by kernel_rfl,by kernel_rfl⟩
 rw [h]
 exact K7 C 8 (by kernel_rfl) (E2 (L0 (A1 (W8 h1) (A1 (W8 h2) A9 (T9 h2)) (T9 h1))))
theorem eB  (T:Txt mg) (F__law_book:Fn P w K mg base "_law_book" 5 4 G6) (F__law_drawn:Fn P w K mg base "_law_drawn" 2 3 A8) (F__law_each:Fn P w K mg base "_law_each" 8 1 (E3 7)) (F__law_is_book:Fn P w K mg base "_law_is_book" 7 1 C9) (F__law_is_deed:Fn P w K mg base "_law_is_deed" 6 1 B7) (F__law_names:Fn P w K mg base "_law_names" 3 2 E7) (F__law_spoilt:Fn P w K mg base "_law_spoilt" 9 3 (C8 7)) (F_is_book:Fn P w K mg base "is_book" 8 1 K2) (F_is_deed:Fn P w K mg base "is_deed" 7 1 D8) (C:Cxt P w K mg base X Z3 (A5 (top 47)) 9 true):DS X E0k (stm 47 10) Sv:=by
 obtain ⟨e1,e2,p,p2,b,q,r,h,h1,h2⟩:∃ e1 e2 p p2 b q r,stm 47 10=.Assign [.Name "_law_known" p] (.BinOp (.Name "_law_known" p2) .Add (.List [e1,e2] q) b) r/\cst 9 e1=some (.tuple [.str "undo",.tuple [.int 3,.str "h"],.tuple [.int 2,.str "a"]])/\cst 9 e2=some (.tuple [.str "unmark",.tuple [.int 3,.str "h"],.str "ab"]):=⟨_,_,_,_,_,_,_,rfl,by kernel_rfl,by kernel_rfl⟩
 rw [h]
 exact K7 C 8 (by kernel_rfl) (D6 (A3 C 8 (by kernel_rfl)) (E2 (L0 (A1 (W8 h1) (A1 (W8 h2) A9 (T9 h2)) (T9 h1)))))
theorem eA  (T:Txt mg) (F__law_book:Fn P w K mg base "_law_book" 5 4 G6) (F__law_drawn:Fn P w K mg base "_law_drawn" 2 3 A8) (F__law_each:Fn P w K mg base "_law_each" 8 1 (E3 7)) (F__law_is_book:Fn P w K mg base "_law_is_book" 7 1 C9) (F__law_is_deed:Fn P w K mg base "_law_is_deed" 6 1 B7) (F__law_names:Fn P w K mg base "_law_names" 3 2 E7) (F__law_spoilt:Fn P w K mg base "_law_spoilt" 9 3 (C8 7)) (F_is_book:Fn P w K mg base "is_book" 8 1 K2) (F_is_deed:Fn P w K mg base "is_deed" 7 1 D8) (C:Cxt P w K mg base X Z3 (A5 (top 47)) 9 true):DS X E0k (stm 47 11) Cj :=
 (Fe C 9 (by kernel_rfl) (P4 (D6 (A3 C 8 (by kernel_rfl)) (E2 (I9 C [] [] (by kernel_rfl) (kU C (by kernel_rfl) T.b_range (A1 A6 (A1 A6 A9))) (fun X' C'=>S8) (fun X' C'=>(M5 (A1 E1 (A1 (M5 (A1 A6 (A1 E1 A9))) (A1 (V0 E1 (A3 C' 0 (by kernel_rfl))) A9))))))))) (B1 (K7 C 4 (by kernel_rfl) (D6 (E2 (L0 (A1 (A3 C 9 (by kernel_rfl)) A9))) (Vu (t_in C (A3 C 9 (by kernel_rfl)) (A3 C 8 (by kernel_rfl))) (B9 C F__law_each (by decide) (by kernel_rfl) (A1 (A3 C 9 (by kernel_rfl)) A9)) (E2 (L0 A9))))) (B6 (O1 (Kp C (E2 (I9 C [] [] (by kernel_rfl) (P4 (A3 C 4 (by kernel_rfl))) (fun X' C'=>(Y0 (Kp C' (B9 C' F_is_deed (by decide) (by kernel_rfl) (A1 (A3 C' 0 (by kernel_rfl)) A9)) (B9 C' F__law_is_deed (by decide) (by kernel_rfl) (A1 (A3 C' 0 (by kernel_rfl)) A9))))) (fun X' C'=>(A3 C' 0 (by kernel_rfl))))) (E2 (L0 A9))) (B6 (C6 N5)) E8))))
theorem dZ  (T:Txt mg) (F__law_book:Fn P w K mg base "_law_book" 5 4 G6) (F__law_drawn:Fn P w K mg base "_law_drawn" 2 3 A8) (F__law_each:Fn P w K mg base "_law_each" 8 1 (E3 7)) (F__law_is_book:Fn P w K mg base "_law_is_book" 7 1 C9) (F__law_is_deed:Fn P w K mg base "_law_is_deed" 6 1 B7) (F__law_names:Fn P w K mg base "_law_names" 3 2 E7) (F__law_spoilt:Fn P w K mg base "_law_spoilt" 9 3 (C8 7)) (F_is_book:Fn P w K mg base "is_book" 8 1 K2) (F_is_deed:Fn P w K mg base "is_deed" 7 1 D8) (C:Cxt P w K mg base X Z3 (A5 (top 47)) 9 true):DS X E0k (stm 47 12) Kq :=
 (C6 N5)
theorem lQ  (T:Txt mg) (F__law_book:Fn P w K mg base "_law_book" 5 4 G6) (F__law_drawn:Fn P w K mg base "_law_drawn" 2 3 A8) (F__law_each:Fn P w K mg base "_law_each" 8 1 (E3 7)) (F__law_is_book:Fn P w K mg base "_law_is_book" 7 1 C9) (F__law_is_deed:Fn P w K mg base "_law_is_deed" 6 1 B7) (F__law_names:Fn P w K mg base "_law_names" 3 2 E7) (F__law_spoilt:Fn P w K mg base "_law_spoilt" 9 3 (C8 7)) (F_is_book:Fn P w K mg base "is_book" 8 1 K2) (F_is_deed:Fn P w K mg base "is_deed" 7 1 D8) (C:Cxt P w K mg base X Z3 (A5 (top 47)) 9 true):DSs X E0k (B5 (top 47)) Ur:=by
 have h:B5 (top 47)=[stm 47 0,stm 47 1,stm 47 2,stm 47 3,stm 47 4,stm 47 5,stm 47 6,stm 47 7,stm 47 8,stm 47 9,stm 47 10,stm 47 11,stm 47 12]:=by kernel_rfl
 rw [h]
 have v0:=@iF P w K mg base X T F__law_book F__law_drawn F__law_each F__law_is_book F__law_is_deed F__law_names F__law_spoilt F_is_book F_is_deed C
 have v1:=@iE P w K mg base X T F__law_book F__law_drawn F__law_each F__law_is_book F__law_is_deed F__law_names F__law_spoilt F_is_book F_is_deed C
 have v2:=@iD P w K mg base X T F__law_book F__law_drawn F__law_each F__law_is_book F__law_is_deed F__law_names F__law_spoilt F_is_book F_is_deed C
 have v3:=@iC P w K mg base X T F__law_book F__law_drawn F__law_each F__law_is_book F__law_is_deed F__law_names F__law_spoilt F_is_book F_is_deed C
 have v4:=@iB P w K mg base X T F__law_book F__law_drawn F__law_each F__law_is_book F__law_is_deed F__law_names F__law_spoilt F_is_book F_is_deed C
 have v5:=@iA P w K mg base X T F__law_book F__law_drawn F__law_each F__law_is_book F__law_is_deed F__law_names F__law_spoilt F_is_book F_is_deed C
 have v6:=@hX P w K mg base X T F__law_book F__law_drawn F__law_each F__law_is_book F__law_is_deed F__law_names F__law_spoilt F_is_book F_is_deed C
 have v7:=@hW P w K mg base X T F__law_book F__law_drawn F__law_each F__law_is_book F__law_is_deed F__law_names F__law_spoilt F_is_book F_is_deed C
 have v8:=@hV P w K mg base X T F__law_book F__law_drawn F__law_each F__law_is_book F__law_is_deed F__law_names F__law_spoilt F_is_book F_is_deed C
 have v9:=@hU P w K mg base X T F__law_book F__law_drawn F__law_each F__law_is_book F__law_is_deed F__law_names F__law_spoilt F_is_book F_is_deed C
 have v10:=@eB P w K mg base X T F__law_book F__law_drawn F__law_each F__law_is_book F__law_is_deed F__law_names F__law_spoilt F_is_book F_is_deed C
 have v11:=@eA P w K mg base X T F__law_book F__law_drawn F__law_each F__law_is_book F__law_is_deed F__law_names F__law_spoilt F_is_book F_is_deed C
 have v12:=@dZ P w K mg base X T F__law_book F__law_drawn F__law_each F__law_is_book F__law_is_deed F__law_names F__law_spoilt F_is_book F_is_deed C
 generalize stm 47 0=z0 at v0 ⊢
 generalize stm 47 1=z1 at v1 ⊢
 generalize stm 47 2=z2 at v2 ⊢
 generalize stm 47 3=z3 at v3 ⊢
 generalize stm 47 4=z4 at v4 ⊢
 generalize stm 47 5=z5 at v5 ⊢
 generalize stm 47 6=z6 at v6 ⊢
 generalize stm 47 7=z7 at v7 ⊢
 generalize stm 47 8=z8 at v8 ⊢
 generalize stm 47 9=z9 at v9 ⊢
 generalize stm 47 10=z10 at v10 ⊢
 generalize stm 47 11=z11 at v11 ⊢
 generalize stm 47 12=z12 at v12 ⊢
 have u12:=B6 v12
 have u11:=B1 v11 u12
 have u10:=B1 v10 u11
 have u9:=B1 v9 u10
 have u8:=B1 v8 u9
 have u7:=B1 v7 u8
 have u6:=B1 v6 u7
 have u5:=B1 v5 u6
 have u4:=B1 v4 u5
 have u3:=B1 v3 u4
 have u2:=B1 v2 u3
 have u1:=B1 v1 u2
 have u0:=B1 v0 u1
 exact u0
end Sm
end
noncomputable section
namespace Sm
open PySem PySem.Spec PyProof.Rows L2
theorem Qd {K:PySem.W.Frag} {mg:Str->Option Value} {h:Heap} {x:Str} {st:Stmt} {ps:List Str} {f:Addr} {oc:Value} {od an:Option Addr} {osl:Array (Option Value)} {kV doc pm cdv ct:Value} (X:K.In h) (G:h.Ns mainGlobals mg) (a:PySem.W.nsIn K mainGlobals x=some (some (.ref f)))
   (l:K.lookup f=some ⟨oc,od,.func (PySem.W.fnOf x x (P5 st) (B5 st) (A5 st) .none kV doc pm an cdv ct),osl⟩) (c:PySem.W.codeIn K cdv x=true) (k:PySem.W.keepIn K (.ref f)=true)
   (hb:∀ (kV doc pm:Value) (an:Option Addr) (cdv ct:Value) (us:List Value),us.length=ps.length->bindArgs (PySem.W.fnOf x x (P5 st) (B5 st) (A5 st) .none kV doc pm an cdv ct) ⟨us,[]⟩=pure (ps.zip us)):Def K mg x st ps :=
 ⟨f,_,lB l c k,PySem.W.mg_of X G a,(lB l c k).binds hb⟩
theorem Ye:∀ {l:List (Addr×Obj)} {a:Addr} {o:Obj},l.lookup a=some o->(a,o)∈l
 | [],_,_,h=>nomatch h
 | (b,q)::r,a,o,h=>by
   rw [List.lookup_cons] at h
   cases e:a==b with
   | true=>rw [e] at h; cases h; rw [eq_of_beq e]; exact .head _
   | false=>rw [e] at h; exact .tail _ (Ye h)
noncomputable def noList (K:PySem.W.Frag):Bool:=K.all fun p => !(match p.2.cls with | .type n=>n == "list" | _=>false)
theorem noList.out {K:PySem.W.Frag} (h:noList K=true) {a:Addr} {o:Obj} (e:K.lookup a=some o):o.cls≠.type "list" := fun z=>by
 have hm:(a,o)∈K:=Ye e
 unfold noList at h
 have:=List.all_eq_true.mp h _ hm
 rw [z] at this
 simp at this
theorem Q5 {us:List Value} {n:Nat} (h:us.length=n+1):∃ a t,us=a::t/\t.length=n:=by cases us with | nil=>cases h | cons a t=>exact ⟨a,t,rfl,Nat.succ.inj h⟩
theorem pQ {K:PySem.W.Frag} {mg:Str->Option Value} {h:Heap} {x:Str} {st:Stmt} {ps:List Str} {f:Addr} {oc:Value} {od an:Option Addr} {osl:Array (Option Value)} {kV doc pm cdv ct:Value} (X:K.In h) (G:h.Ns mainGlobals mg) (a:PySem.W.nsIn K mainGlobals x=some (some (.ref f)))
   (l:K.lookup f=some ⟨oc,od,.func (PySem.W.fnOf x x (P5 st) (B5 st) (A5 st) .none kV doc pm an cdv ct),osl⟩) (c:PySem.W.codeIn K cdv x=true) (k:PySem.W.keepIn K (.ref f)=true)
   (hb:∀ (kV doc pm:Value) (an:Option Addr) (cdv ct:Value) (u0:Value),bindArgs (PySem.W.fnOf x x (P5 st) (B5 st) (A5 st) .none kV doc pm an cdv ct) ⟨[u0],[]⟩=pure (ps.zip [u0])) (hp:ps.length=1):Def K mg x st ps :=
 Qd X G a l c k fun kV doc pm an cdv ct us hl=>by
   have h0:=hl.trans hp; obtain ⟨u0,t0,rfl,h1⟩:=Q5 h0
   cases List.length_eq_zero_iff.mp h1
   exact hb kV doc pm an cdv ct u0
theorem pP {K:PySem.W.Frag} {mg:Str->Option Value} {h:Heap} {x:Str} {st:Stmt} {ps:List Str} {f:Addr} {oc:Value} {od an:Option Addr} {osl:Array (Option Value)} {kV doc pm cdv ct:Value} (X:K.In h) (G:h.Ns mainGlobals mg) (a:PySem.W.nsIn K mainGlobals x=some (some (.ref f)))
   (l:K.lookup f=some ⟨oc,od,.func (PySem.W.fnOf x x (P5 st) (B5 st) (A5 st) .none kV doc pm an cdv ct),osl⟩) (c:PySem.W.codeIn K cdv x=true) (k:PySem.W.keepIn K (.ref f)=true)
   (hb:∀ (kV doc pm:Value) (an:Option Addr) (cdv ct:Value) (u0 u1:Value),bindArgs (PySem.W.fnOf x x (P5 st) (B5 st) (A5 st) .none kV doc pm an cdv ct) ⟨[u0,u1],[]⟩=pure (ps.zip [u0,u1])) (hp:ps.length=2):Def K mg x st ps :=
 Qd X G a l c k fun kV doc pm an cdv ct us hl=>by
   have h0:=hl.trans hp; obtain ⟨u0,t0,rfl,h1⟩:=Q5 h0; obtain ⟨u1,t1,rfl,h2⟩:=Q5 h1
   cases List.length_eq_zero_iff.mp h2
   exact hb kV doc pm an cdv ct u0 u1
theorem pO {K:PySem.W.Frag} {mg:Str->Option Value} {h:Heap} {x:Str} {st:Stmt} {ps:List Str} {f:Addr} {oc:Value} {od an:Option Addr} {osl:Array (Option Value)} {kV doc pm cdv ct:Value} (X:K.In h) (G:h.Ns mainGlobals mg) (a:PySem.W.nsIn K mainGlobals x=some (some (.ref f)))
   (l:K.lookup f=some ⟨oc,od,.func (PySem.W.fnOf x x (P5 st) (B5 st) (A5 st) .none kV doc pm an cdv ct),osl⟩) (c:PySem.W.codeIn K cdv x=true) (k:PySem.W.keepIn K (.ref f)=true)
   (hb:∀ (kV doc pm:Value) (an:Option Addr) (cdv ct:Value) (u0 u1 u2:Value),bindArgs (PySem.W.fnOf x x (P5 st) (B5 st) (A5 st) .none kV doc pm an cdv ct) ⟨[u0,u1,u2],[]⟩=pure (ps.zip [u0,u1,u2])) (hp:ps.length=3):Def K mg x st ps :=
 Qd X G a l c k fun kV doc pm an cdv ct us hl=>by
   have h0:=hl.trans hp; obtain ⟨u0,t0,rfl,h1⟩:=Q5 h0; obtain ⟨u1,t1,rfl,h2⟩:=Q5 h1; obtain ⟨u2,t2,rfl,h3⟩:=Q5 h2
   cases List.length_eq_zero_iff.mp h3
   exact hb kV doc pm an cdv ct u0 u1 u2
theorem pN {K:PySem.W.Frag} {mg:Str->Option Value} {h:Heap} {x:Str} {st:Stmt} {ps:List Str} {f:Addr} {oc:Value} {od an:Option Addr} {osl:Array (Option Value)} {kV doc pm cdv ct:Value} (X:K.In h) (G:h.Ns mainGlobals mg) (a:PySem.W.nsIn K mainGlobals x=some (some (.ref f)))
   (l:K.lookup f=some ⟨oc,od,.func (PySem.W.fnOf x x (P5 st) (B5 st) (A5 st) .none kV doc pm an cdv ct),osl⟩) (c:PySem.W.codeIn K cdv x=true) (k:PySem.W.keepIn K (.ref f)=true)
   (hb:∀ (kV doc pm:Value) (an:Option Addr) (cdv ct:Value) (u0 u1 u2 u3:Value),bindArgs (PySem.W.fnOf x x (P5 st) (B5 st) (A5 st) .none kV doc pm an cdv ct) ⟨[u0,u1,u2,u3],[]⟩=pure (ps.zip [u0,u1,u2,u3])) (hp:ps.length=4):Def K mg x st ps :=
 Qd X G a l c k fun kV doc pm an cdv ct us hl=>by
   have h0:=hl.trans hp; obtain ⟨u0,t0,rfl,h1⟩:=Q5 h0; obtain ⟨u1,t1,rfl,h2⟩:=Q5 h1; obtain ⟨u2,t2,rfl,h3⟩:=Q5 h2; obtain ⟨u3,t3,rfl,h4⟩:=Q5 h3
   cases List.length_eq_zero_iff.mp h4
   exact hb kV doc pm an cdv ct u0 u1 u2 u3
theorem pM {K:PySem.W.Frag} {mg:Str->Option Value} {h:Heap} {x:Str} {st:Stmt} {ps:List Str} {f:Addr} {oc:Value} {od an:Option Addr} {osl:Array (Option Value)} {kV doc pm cdv ct:Value} (X:K.In h) (G:h.Ns mainGlobals mg) (a:PySem.W.nsIn K mainGlobals x=some (some (.ref f)))
   (l:K.lookup f=some ⟨oc,od,.func (PySem.W.fnOf x x (P5 st) (B5 st) (A5 st) .none kV doc pm an cdv ct),osl⟩) (c:PySem.W.codeIn K cdv x=true) (k:PySem.W.keepIn K (.ref f)=true)
   (hb:∀ (kV doc pm:Value) (an:Option Addr) (cdv ct:Value) (u0 u1 u2 u3 u4:Value),bindArgs (PySem.W.fnOf x x (P5 st) (B5 st) (A5 st) .none kV doc pm an cdv ct) ⟨[u0,u1,u2,u3,u4],[]⟩=pure (ps.zip [u0,u1,u2,u3,u4])) (hp:ps.length=5):Def K mg x st ps :=
 Qd X G a l c k fun kV doc pm an cdv ct us hl=>by
   have h0:=hl.trans hp; obtain ⟨u0,t0,rfl,h1⟩:=Q5 h0; obtain ⟨u1,t1,rfl,h2⟩:=Q5 h1; obtain ⟨u2,t2,rfl,h3⟩:=Q5 h2; obtain ⟨u3,t3,rfl,h4⟩:=Q5 h3; obtain ⟨u4,t4,rfl,h5⟩:=Q5 h4
   cases List.length_eq_zero_iff.mp h5
   exact hb kV doc pm an cdv ct u0 u1 u2 u3 u4
def wI (K:PySem.W.Frag) (mg:Str->Option Value):Prop :=
 Def K mg "law" (top 47) ["_law_script"] /\
 Def K mg "is_whole" (top 6) ["thing", "least"] /\
 Def K mg "is_one_of" (top 7) ["thing", "letters"] /\
 Def K mg "is_text" (top 8) ["thing", "most", "first", "last"] /\
 Def K mg "is_name" (top 9) ["thing"] /\
 Def K mg "is_added_text" (top 10) ["thing"] /\
 Def K mg "is_pair" (top 11) ["thing"] /\
 Def K mg "is_deed_id" (top 12) ["thing"] /\
 Def K mg "is_sign_id" (top 13) ["thing"] /\
 Def K mg "is_sign_id_or_none" (top 14) ["thing"] /\
 Def K mg "is_anchor" (top 15) ["thing"] /\
 Def K mg "is_rising" (top 16) ["values"] /\
 Def K mg "is_dropped" (top 17) ["thing"] /\
 Def K mg "has_form" (top 18) ["word", "parts"] /\
 Def K mg "signs_named" (top 19) ["deed"] /\
 Def K mg "deeds_named" (top 20) ["deed"] /\
 Def K mg "is_deed" (top 21) ["thing"] /\
 Def K mg "signs_added" (top 22) ["deed"] /\
 Def K mg "by_ids" (top 23) ["deeds"] /\
 Def K mg "has_all_named" (top 24) ["known", "deed"] /\
 Def K mg "is_book" (top 25) ["thing"] /\
 Def K mg "_law_cell" (top 27) ["_law_script", "_law_k"] /\
 Def K mg "_law_drawn" (top 28) ["_law_script", "_law_k", "_law_many"] /\
 Def K mg "_law_names" (top 29) ["_law_script", "_law_at"] /\
 Def K mg "_law_words" (top 30) ["_law_script", "_law_at"] /\
 Def K mg "_law_signs" (top 31) ["_law_book_here"] /\
 Def K mg "_law_anchor" (top 32) ["_law_script", "_law_at", "_law_signs_here"] /\
 Def K mg "_law_deed" (top 33) ["_law_script", "_law_at", "_law_one", "_law_known", "_law_names_here"] /\
 Def K mg "_law_book" (top 34) ["_law_script", "_law_at", "_law_most", "_law_names_here"] /\
 Def K mg "_law_odd" (top 35) ["_law_number"] /\
 Def K mg "_law_spoilt" (top 36) ["_law_thing", "_law_number", "_law_deep"] /\
 Def K mg "_law_is_count" (top 37) ["_law_thing", "_law_low"] /\
 Def K mg "_law_is_id" (top 38) ["_law_thing"] /\
 Def K mg "_law_is_sign" (top 39) ["_law_thing"] /\
 Def K mg "_law_is_text" (top 40) ["_law_thing", "_law_signs_here", "_law_most"] /\
 Def K mg "_law_is_anchor" (top 41) ["_law_thing"] /\
 Def K mg "_law_has_form" (top 42) ["_law_thing"] /\
 Def K mg "_law_named" (top 43) ["_law_deed_here"] /\
 Def K mg "_law_is_deed" (top 44) ["_law_thing"] /\
 Def K mg "_law_is_book" (top 45) ["_law_thing"] /\
 Def K mg "_law_each" (top 46) ["_law_thing"]
noncomputable section
variable {P:Program} {w:World} {K:PySem.W.Frag} {mg:Str->Option Value} {base:Heap}
noncomputable section
variable (T:Txt mg) (D:wI K mg)
include T D
theorem Mj:Fn P w K mg base "is_whole" 1 2 W6:=R1 (k:=0) D.2.1 Xl rfl (fun X C=>Sh T  C) rfl
theorem Kn:Fn P w K mg base "is_one_of" 1 2 Q2:=R1 (k:=0) D.2.2.1 Uu rfl (fun X C=>Qo T  C) rfl
theorem Rb:Fn P w K mg base "is_text" 1 4 Z9:=R1 (k:=0) D.2.2.2.1 aA rfl (fun X C=>Wd T  C) rfl
theorem bT:Fn P w K mg base "is_name" 2 1 P9:=R1 (k:=1) D.2.2.2.2.1 aC rfl (fun X C=>Wg T (Rb T D) C) rfl
theorem Lu:Fn P w K mg base "is_added_text" 2 1 K0:=R1 (k:=1) D.2.2.2.2.2.1 Kx rfl (fun X C=>Ib T (Rb T D) C) rfl
theorem Ij:Fn P w K mg base "is_pair" 1 1 R4:=R1 (k:=0) D.2.2.2.2.2.2.1 aB rfl (fun X C=>We T  C) rfl
theorem Cf:Fn P w K mg base "is_deed_id" 2 1 E6:=R1 (k:=1) D.2.2.2.2.2.2.2.1 Ru rfl (fun X C=>Nf T (Kn T D) (Ij T D) (Mj T D) C) rfl
theorem Hh:Fn P w K mg base "is_sign_id" 3 1 P2:=R1 (k:=2) D.2.2.2.2.2.2.2.2.1 Rs rfl (fun X C=>Nc T (Cf T D) (Ij T D) (Mj T D) C) rfl
theorem W1:Fn P w K mg base "is_sign_id_or_none" 4 1 D2:=R1 (k:=3) D.2.2.2.2.2.2.2.2.2.1 Er rfl (fun X C=>Db T (Hh T D) C) rfl
theorem Wq:Fn P w K mg base "is_anchor" 5 1 N2:=R1 (k:=4) D.2.2.2.2.2.2.2.2.2.2.1 Uv rfl (fun X C=>Qp T (Kn T D) (Ij T D) (W1 T D) C) rfl
theorem Km:Fn P w K mg base "is_rising" 1 1 N1:=R1 (k:=0) D.2.2.2.2.2.2.2.2.2.2.2.1 Ut rfl (fun X C=>Qn T  C) rfl
theorem Sn:Fn P w K mg base "is_dropped" 4 1 M9:=R1 (k:=3) D.2.2.2.2.2.2.2.2.2.2.2.2.1 Rt rfl (fun X C=>Nd T (Km T D) (Hh T D) C) rfl
theorem Ze:Fn P w K mg base "has_form" 6 2 T1:=R1 (k:=5) D.2.2.2.2.2.2.2.2.2.2.2.2.2.1 Xm rfl (fun X C=>Si T (Lu T D) (Wq T D) (Cf T D) (Sn T D) (bT T D) (W1 T D) C) rfl
theorem Fv:Fn P w K mg base "signs_named" 1 1 G9:=R1 (k:=0) D.2.2.2.2.2.2.2.2.2.2.2.2.2.2.1 Pi rfl (fun X C=>Ll T  C) rfl
theorem Fw:Fn P w K mg base "deeds_named" 2 1 K8:=R1 (k:=1) D.2.2.2.2.2.2.2.2.2.2.2.2.2.2.2.1 Pk rfl (fun X C=>Ln T (Fv T D) C) rfl
theorem Rc:Fn P w K mg base "is_deed" 7 1 D8:=R1 (k:=6) D.2.2.2.2.2.2.2.2.2.2.2.2.2.2.2.2.1 aD rfl (fun X C=>Wh T (Fw T D) (Ze T D) (Cf T D) C) rfl
theorem Ra:Fn P w K mg base "signs_added" 1 1 X3:=R1 (k:=0) D.2.2.2.2.2.2.2.2.2.2.2.2.2.2.2.2.2.1 Pj rfl (fun X C=>Lm T  C) rfl
theorem gJ:FnW P w K mg base "by_ids" 1 1 X6:=fn_W (k:=0) D.2.2.2.2.2.2.2.2.2.2.2.2.2.2.2.2.2.2.1 eG rfl (fun X C=>Yy T  C) rfl
theorem Lv:FnL P w K mg base "has_all_named" 3 L5:=fn_L (k:=2) D.2.2.2.2.2.2.2.2.2.2.2.2.2.2.2.2.2.2.2.1 Ky rfl rfl (fun X C=>Ic T (Fw T D) (Ra T D) (Fv T D) C) rfl
theorem bU:Fn P w K mg base "is_book" 8 1 K2:=R1 (k:=7) D.2.2.2.2.2.2.2.2.2.2.2.2.2.2.2.2.2.2.2.2.1 aE rfl (fun X C=>Wi T (gJ T D) (Lv T D) (Rc T D) (Km T D) C) rfl
theorem Wt:Fn P w K mg base "_law_cell" 1 2 X7:=R1 (k:=0) D.2.2.2.2.2.2.2.2.2.2.2.2.2.2.2.2.2.2.2.2.2.1 Uy rfl (fun X C=>Qs T  C) rfl
theorem R6:Fn P w K mg base "_law_drawn" 2 3 A8:=R1 (k:=1) D.2.2.2.2.2.2.2.2.2.2.2.2.2.2.2.2.2.2.2.2.2.2.1 Sa rfl (fun X C=>Nl T (Wt T D) C) rfl
theorem Sq:Fn P w K mg base "_law_names" 3 2 E7:=R1 (k:=2) D.2.2.2.2.2.2.2.2.2.2.2.2.2.2.2.2.2.2.2.2.2.2.2.1 Rx rfl (fun X C=>Ni T (R6 T D) C) rfl
theorem So:Fn P w K mg base "_law_words" 3 2 K3:=R1 (k:=2) D.2.2.2.2.2.2.2.2.2.2.2.2.2.2.2.2.2.2.2.2.2.2.2.2.1 Rv rfl (fun X C=>Ng T (R6 T D) C) rfl
theorem Hi:Fn P w K mg base "_law_signs" 1 1 D4:=R1 (k:=0) D.2.2.2.2.2.2.2.2.2.2.2.2.2.2.2.2.2.2.2.2.2.2.2.2.2.1 Rw rfl (fun X C=>Nh T  C) rfl
theorem Rf:Fn P w K mg base "_law_anchor" 3 3 F9:=R1 (k:=2) D.2.2.2.2.2.2.2.2.2.2.2.2.2.2.2.2.2.2.2.2.2.2.2.2.2.2.1 Pm rfl (fun X C=>Lp T (R6 T D) C) rfl
theorem Ws:Fn P w K mg base "_law_deed" 4 5 N3:=R1 (k:=3) D.2.2.2.2.2.2.2.2.2.2.2.2.2.2.2.2.2.2.2.2.2.2.2.2.2.2.2.1 Ux rfl (fun X C=>Qr T (Rf T D) (R6 T D) (Hi T D) (So T D) C) rfl
theorem Wu:Fn P w K mg base "_law_book" 5 4 G6:=R1 (k:=4) D.2.2.2.2.2.2.2.2.2.2.2.2.2.2.2.2.2.2.2.2.2.2.2.2.2.2.2.2.1 Uz rfl (fun X C=>Qt T (Ws T D) (R6 T D) C) rfl
theorem Zf:Fn P w K mg base "_law_odd" 1 1 Be:=R1 (k:=0) D.2.2.2.2.2.2.2.2.2.2.2.2.2.2.2.2.2.2.2.2.2.2.2.2.2.2.2.2.2.1 Xn rfl (fun X C=>Sj T  C) rfl
theorem Qy:∀ j,Fn P w K mg base "_law_spoilt" (1+j+1) 3 (C8 j):=fun j=>by
 induction j with
 | zero=>exact rQ D.2.2.2.2.2.2.2.2.2.2.2.2.2.2.2.2.2.2.2.2.2.2.2.2.2.2.2.2.2.2.1 rfl
 | succ j ih=>exact R1 (k:=1+j+1) D.2.2.2.2.2.2.2.2.2.2.2.2.2.2.2.2.2.2.2.2.2.2.2.2.2.2.2.2.2.2.1 Pl rfl (fun X C=>Lo T (by lia) ih (Nat.le_refl _) (Zf T D) C) rfl
theorem Re:Fn P w K mg base "_law_spoilt" 9 3 (C8 7):=(Qy T D) 7
theorem Dc:Fn P w K mg base "_law_is_count" 1 2 F3:=R1 (k:=0) D.2.2.2.2.2.2.2.2.2.2.2.2.2.2.2.2.2.2.2.2.2.2.2.2.2.2.2.2.2.2.2.1 Kz rfl (fun X C=>Ie T  C) rfl
theorem Cg:Fn P w K mg base "_law_is_id" 2 1 D5:=R1 (k:=1) D.2.2.2.2.2.2.2.2.2.2.2.2.2.2.2.2.2.2.2.2.2.2.2.2.2.2.2.2.2.2.2.2.1 Rz rfl (fun X C=>Nk T (Dc T D) C) rfl
theorem Eo:Fn P w K mg base "_law_is_sign" 3 1 D9:=R1 (k:=2) D.2.2.2.2.2.2.2.2.2.2.2.2.2.2.2.2.2.2.2.2.2.2.2.2.2.2.2.2.2.2.2.2.2.1 Mw rfl (fun X C=>Kh T (Dc T D) (Cg T D) C) rfl
theorem Nm:Fn P w K mg base "_law_is_text" 1 3 J3:=R1 (k:=0) D.2.2.2.2.2.2.2.2.2.2.2.2.2.2.2.2.2.2.2.2.2.2.2.2.2.2.2.2.2.2.2.2.2.2.1 Mv rfl (fun X C=>Kg T  C) rfl
theorem Ko:Fn P w K mg base "_law_is_anchor" 4 1 F8:=R1 (k:=3) D.2.2.2.2.2.2.2.2.2.2.2.2.2.2.2.2.2.2.2.2.2.2.2.2.2.2.2.2.2.2.2.2.2.2.2.1 Jj rfl (fun X C=>Gm T (Eo T D) C) rfl
theorem Lw:Fn P w K mg base "_law_has_form" 5 1 K1:=R1 (k:=4) D.2.2.2.2.2.2.2.2.2.2.2.2.2.2.2.2.2.2.2.2.2.2.2.2.2.2.2.2.2.2.2.2.2.2.2.2.1 La rfl (fun X C=>Ig T (Ko T D) (Cg T D) (Eo T D) (Nm T D) C) rfl
theorem Hj:Fn P w K mg base "_law_named" 1 1 F5:=R1 (k:=0) D.2.2.2.2.2.2.2.2.2.2.2.2.2.2.2.2.2.2.2.2.2.2.2.2.2.2.2.2.2.2.2.2.2.2.2.2.2.1 Ry rfl (fun X C=>Nj T  C) rfl
theorem Ep:Fn P w K mg base "_law_is_deed" 6 1 B7:=R1 (k:=5) D.2.2.2.2.2.2.2.2.2.2.2.2.2.2.2.2.2.2.2.2.2.2.2.2.2.2.2.2.2.2.2.2.2.2.2.2.2.2.1 Mx rfl (fun X C=>Ki T (Lw T D) (Cg T D) (Hj T D) C) rfl
theorem Nn:Fn P w K mg base "_law_is_book" 7 1 C9:=R1 (k:=6) D.2.2.2.2.2.2.2.2.2.2.2.2.2.2.2.2.2.2.2.2.2.2.2.2.2.2.2.2.2.2.2.2.2.2.2.2.2.2.2.1 My rfl (fun X C=>Kj T (Ep T D) (Hj T D) (Hi T D) C) rfl
theorem Wp:∀ j,Fn P w K mg base "_law_each" (0+j+1) 1 (E3 j):=fun j=>by
 induction j with
 | zero=>exact rQ D.2.2.2.2.2.2.2.2.2.2.2.2.2.2.2.2.2.2.2.2.2.2.2.2.2.2.2.2.2.2.2.2.2.2.2.2.2.2.2.2 rfl
 | succ j ih=>exact R1 (k:=0+j+1) D.2.2.2.2.2.2.2.2.2.2.2.2.2.2.2.2.2.2.2.2.2.2.2.2.2.2.2.2.2.2.2.2.2.2.2.2.2.2.2.2 Uw rfl (fun X C=>Qq T (by lia) ih (Nat.le_refl _)  C) rfl
theorem Wr:Fn P w K mg base "_law_each" 8 1 (E3 7):=(Wp T D) 7
end
theorem uP {f:Addr} {fd:FuncData} (F:L2.Fun K "law" "law" (top 47) f fd) (T:Txt mg) (D:wI K mg):FnOk P w K mg base CX0 10 f fd ["_law_script"] (spD 1 Yd):=by
 exact lC (k:=9) F sT rfl (fun X C=>lQ T (Wu T D) (R6 T D) (Wr T D) (Nn T D) (Ep T D) (Sq T D) (Re T D) (bU T D) (Rc T D) C) rfl
end
end Sm
open PySem PySem.W PyProof.Rows
theorem Sm.walkD {l:PySem.W.OpenLaw} {q:Program} {loose:List Str} {XP:(Str->Option Value)->Heap->Prop} {YP:World->Heap->Prop} {d:DefRec} {K:Params->PySem.W.Frag} (hn:l.most=some 63) (hdf:d.params.defaults=[]) (hnm:d.name = "law")
   (hY:∀ (w:World) (h:Heap),YP w h->(K w.params).In h) (hK:∀ w:World,Sm.noList (K w.params)=true)
   (F:∀ (w:World) (mg:Str->Option Value) (h:Heap),(K w.params).In h->h.Ns mainGlobals mg->Sm.Txt mg/\Sm.wI (K w.params) mg)
   (pure:∀ ns:List Int,ns.length<=63->Sm.Yd [.list (ns.map PyData.int)]=.ok (.bool true)) :
   PySem.W.WalkO q loose XP YP l.row.toRowW d [] (fun f vs=>PySem.call f vs):=by
 refine L2.mG (n:=63) (k:=10) (x := "_law_script") (CX:=fun _=>L2.CX0) (sp:=fun _=>Sm.spD 1 Sm.Yd) hn (by decide) hdf ⟨rfl,by decide,by decide,rfl⟩ hY (fun w mg fa h KX G hmg=>?_) (fun w H a ns hl hO hS=>?_) fun _ _ _ _ _ z=>z
 . obtain ⟨T,D⟩:=F w mg h KX G
   obtain ⟨f0,fd0,F0,hm0,hb0⟩:=D.1.ex; rw [hnm,hm0] at hmg; cases hmg; refine ⟨fd0,fun s u=>?_,fun base kb nb=>?_⟩
   . obtain ⟨oc,od,kV,doc,pm,an,cdv,ct,osl,rfl,lk,hcd⟩:=F0.ex
     exact .of_eq rfl
   . exact Sm.uP F0 T D
 . rcases hS with hS | ⟨o,its,nn,hk,hc,_⟩
   . refine ⟨H,[.list (ns.map PyData.int)],.bool true,L2.Same.refl _,Sm.RepL.cons ⟨a,_,rfl,hS,Sm.RepL.ints ns⟩ rfl,rfl,pure ns hl,fun v G' H' g r=>r⟩
   . exact absurd hc (Sm.noList.out (hK w) hk)
end
noncomputable section
open PySem
namespace Sm
open L2
noncomputable def Out.seq (o:Out) (g:Dn->Out):Out:=match o with
 | .nx δ=>g δ
 | o=>o
noncomputable def Out.fin (o:Out):Res PyData:=match o with
 | .rt d=>.ok d
 | .nx _=>.ok .none
 | .exc c=>.exc c
 | _=>.no
noncomputable def qP (s:Option Sl):Res PyData:=match s with
 | some (.sh d)=>.ok d
 | _=>.no
theorem F7 {α β:Type} (a:α) (k:α->Res β):(Res.ok a).bind k=k a:=rfl
theorem Xw {α:Type} (a:α):ofO (some a)=.ok a:=rfl
theorem Ch {α:Type} (a:α) (k:α->Out):V2 (.ok a) k=k a:=rfl
theorem Jk (g1 g2:Dn->Out) (δ:Dn):C5 g1 g2 δ=(g1 δ).seq g2:=by unfold C5 Out.seq; cases g1 δ <;> rfl
theorem Zy (δ:Dn) (g:Dn->Out):(Out.nx δ).seq g=g δ:=rfl
theorem sS (d:PyData) (g:Dn->Out):(Out.rt d).seq g=.rt d:=rfl
theorem Pz (N:List Str) (g:Dn->Out) (ds:List PyData):fnD N g ds=(g (S9 N ds)).fin:=by unfold fnD Out.fin; cases g (S9 N ds) <;> rfl
theorem vJ (d:PyData):(Out.rt d).fin=.ok d:=rfl
theorem bW (i:Nat) (δ:Dn):A2 i δ=qP δ[i]? := rfl
theorem Xk (d:PyData):qP (some (.sh d))=.ok d:=rfl
theorem sX (c:Dn->Res Bool) (g1 g2:Dn->Out) (δ:Dn):sIf c g1 g2 δ=V2 (c δ) fun b=>if b=true then g1 δ else g2 δ:=rfl
theorem sH (f g:Dn->Res PyData) (δ:Dn) (h:f δ=.ok (.bool true)):O0 f g δ=g δ:=by unfold O0; rw [h]; rfl
theorem sI (f g:Dn->Res PyData) (δ:Dn) (h:f δ=.ok (.bool false)):O0 f g δ=.ok (.bool false):=by unfold O0; rw [h]; rfl
theorem dR (b:Bool):Wx (.bool b)=some b:=rfl
local macro_rules
 | `(tactic| simp_arith) => `(tactic| simp_arith [F7])
 | `(tactic| simp_arith [$ls,*]) => `(tactic| simp only [$ls,*, Pz, S9, Jk, Zy, sS, vJ, sX, B2, b2, b1, bW, Xk, D1, L9, A7, A0, vC, F7, Xw, Ch, E5, M1, F4, vFn, B4, Q1, O5, P1, vSl, gS, N7, dR,
 List.map_cons,List.map_nil,List.length_cons,List.length_nil,List.replicate,List.cons_append,List.nil_append,List.append_nil,List.getElem?_cons_zero,List.getElem?_cons_succ,List.set_cons_zero,List.set_cons_succ,Nat.reduceAdd,Nat.reduceSub,Bool.false_eq_true,reduceIte])
theorem O6 {src:Dn->Res (List PyData)} {bnd:PyData->Res (List Sl)} {cap:List Nat} {tt:Dn->Res Bool} {el:Dn->Res PyData} {δ δc:Dn} {ds ys:List PyData} (h:src δ=.ok ds) (hl:ds.length<=1000) (hc:Cz δ cap=δc) (e:F2 bnd δc tt el ds=.ok ys):G7 src bnd cap tt el δ=.ok ys:=by
 unfold G7
 rw [h,F7,if_pos (Nat.le_trans hl (by decide)),hc,e]
theorem B0 {f g:Dn->Res PyData} {op:PyData->PyData->Option PyData} {δ:Dn} {x y d:PyData} (h1:f δ=.ok x) (h2:g δ=.ok y) (h3:op x y=some d):b2 f g op δ=.ok d:=by
 unfold b2
 rw [h1,F7,h2,F7,h3]; rfl
theorem K6 {f:Dn->Res (List PyData)} {δ:Dn} {ds:List PyData} (h:f δ=.ok ds):D1 f δ=.ok (.list ds):=by unfold D1; rw [h]; rfl
theorem F1 {i:Nat} {f:Dn->Res PyData} {δ:Dn} {d:PyData} (h:f δ=.ok d):M1 i f δ=.nx (δ.set i (.sh d)):=by unfold M1; rw [h]; rfl
theorem O4 {c:Dn->Res Bool} {g1 g2:Dn->Out} {δ:Dn} (h:c δ=.ok true):sIf c g1 g2 δ=g1 δ:=by unfold sIf; rw [h]; rfl
theorem R0 {c:Dn->Res Bool} {g1 g2:Dn->Out} {δ:Dn} (h:c δ=.ok false):sIf c g1 g2 δ=g2 δ:=by unfold sIf; rw [h]; rfl
theorem C4 {g1 g2:Dn->Out} {δ δ':Dn} (h:g1 δ=.nx δ'):C5 g1 g2 δ=g2 δ':=by unfold C5; rw [h]
theorem L4 {g1 g2:Dn->Out} {δ:Dn} {d:PyData} (h:g1 δ=.rt d):C5 g1 g2 δ=.rt d:=by unfold C5; rw [h]
theorem C0 {f:Dn->Res PyData} {δ:Dn} {d:PyData} (h:f δ=.ok d):E5 f δ=.rt d:=by unfold E5; rw [h]; rfl
theorem I8 {N:List Str} {g:Dn->Out} {ds:List PyData} {d:PyData} (h:g (S9 N ds)=.rt d):fnD N g ds=.ok d:=by rw [Pz,h]; rfl
theorem A4 {f:Dn->Res PyData} {fs:Dn->Res (List PyData)} {δ:Dn} {d:PyData} {ds:List PyData} (h:f δ=.ok d) (h2:fs δ=.ok ds):A0 f fs δ=.ok (d::ds):=by unfold A0; rw [h,F7,h2]; rfl
theorem B3 {fs:Dn->Res (List PyData)} {m:List PyData->Res PyData} {δ:Dn} {ds:List PyData} {r:Res PyData} (h:fs δ=.ok ds) (h2:m ds=r):B4 fs m δ=r:=by unfold B4; rw [h,F7,h2]
theorem R8 {f:Dn->Res (List PyData)} {δ:Dn} {ds:List PyData} (h:f δ=.ok ds):L9 f δ=.ok (.tuple ds):=by unfold L9; rw [h]; rfl
theorem N0 {f:Dn->Res (List PyData)} {op:List PyData->Option PyData} {δ:Dn} {ds:List PyData} {d:PyData} (h:f δ=.ok ds) (h2:op ds=some d):vFn f op δ=.ok d:=by unfold vFn; rw [h,F7,h2]; rfl
theorem B8 {f:Dn->Res PyData} {δ:Dn} {b:Bool} (h:f δ=.ok (.bool b)):B2 f δ=.ok b:=by unfold B2; rw [h]; rfl
noncomputable abbrev scr (ns:List Int):PyData:=.list (ns.map .int)
theorem oR {n j:Nat} (h:j < n):ixN n (j:Int)=some j:=by
 unfold ixN
 rw [if_pos (by lia)]
 simp [h]
theorem P6 {α:Type} {xs:List α} {j:Nat} (h:j < xs.length):atI xs (j:Int)=some xs[j]:=by
 unfold atI
 rw [oR h]
 simp
theorem Nz {α:Type} {xs:List α} {i:Int} (h0:0<=i) (h:i < xs.length):∃ x∈xs,atI xs i=some x:=by
 obtain ⟨j,rfl⟩:=Int.eq_ofNat_of_zero_le h0
 have hj:j < xs.length:=by lia
 exact ⟨xs[j],List.getElem_mem _,P6 hj⟩
theorem pJ (ns:List Int):PyData.eqv (scr ns) (.list [])=ns.isEmpty:=by
 cases ns with
 | nil=>rfl
 | cons n ns=>rfl
theorem dA (ns:List Int):dEq (scr ns) (.list [])=some (.bool ns.isEmpty):=by
 unfold dEq
 rw [if_pos (Nat.le_trans (Nat.min_le_right _ _) (by decide)),pJ]
theorem Ya {a b:Int} (h:(-(2 ^ 64) < a/\a < 2 ^ 64)\/(-(2 ^ 64) < b/\b < 2 ^ 64)):M3 (.int a) (.int b)=some (.int (a*b)):=by
 show (if _ then _ else _)=_
 rw [if_pos h]
theorem mul7 {b:Int}:M3 (.int 7) (.int b)=some (.int (7*b)):=Ya (.inl ⟨by decide,by decide⟩)
theorem oI {b:Int}:M3 (.int 6553) (.int b)=some (.int (6553*b)):=Ya (.inl ⟨by decide,by decide⟩)
theorem eR {b:Int}:M3 (.int 104723) (.int b)=some (.int (104723*b)):=Ya (.inl ⟨by decide,by decide⟩)
theorem jZ {b:Int}:M3 (.int b) (.int 69069)=some (.int (b*69069)):=Ya (.inr ⟨by decide,by decide⟩)
theorem mul2 {b:Int}:M3 (.int 2) (.int b)=some (.int (2*b)):=Ya (.inl ⟨by decide,by decide⟩)
theorem kA {b:Int}:M3 (.int 60) (.int b)=some (.int (60*b)):=Ya (.inl ⟨by decide,by decide⟩)
theorem Sd {a b:Int} (h:0 < b):W0 (.int a) (.int b)=some (.int (a % b)):=by
 show (if _ then _ else _)=_
 rw [if_pos h]
theorem Vt {a b:Int} (h:0 < b) (h2:b < 1073741824):Q3 (.int a) (.int b)=some (.int (a / b)):=by
 show (if _ then _ else _)=_
 rw [if_pos ⟨h,h2⟩]
theorem X9 {a b:Int}:C7 (.int a) (.int b)=some (.int (a+b)):=rfl
theorem qA (ns:List Int) (hns:ns.length<=63) (k:Int):∃ c,X7 [scr ns,.int k]=.ok (.int c):=by
 unfold X7 Ca Bw
 cases hn:ns with
 | nil =>
   refine ⟨7*k,?_⟩
   simp_arith [dA,List.isEmpty_nil,mul7]
 | cons n r =>
   have e1:=dA (n::r); have hl:(0:Int) < ((n::r).length:Int):=by simp
   have hl2:((n::r).length:Int)<=63:=by rw [<- hn]; lia
   obtain ⟨x,hx,e2⟩:=Nz (xs:=(n::r).map PyData.int) (i:=k % ((n::r).length:Int)) (Int.emod_nonneg _ (by lia)) (by rw [List.length_map]; exact Int.emod_lt_of_pos _ hl)
   obtain ⟨c,_,rfl⟩:=List.mem_map.mp hx; refine ⟨c+6553*(k / ((n::r).length:Int)),?_⟩; have e3:K4 [scr (n::r)]=some (.int ((n::r).length:Int)):=by simp [K4,scr]
   have e4:dIx (scr (n::r)) (.int (k % ((n::r).length:Int)))=some (.int c):=e2
   generalize hS:scr (n::r)=S at *
   generalize hL:((n::r).length:Int)=m at *
   simp_arith [e1,List.isEmpty_cons,e3,Sd hl,Vt hl (show m < 1073741824 by lia),oI,e4,X9]
theorem M4 (ns:List Int) (hns:ns.length<=63) (k m:Int) (hm:0 < m):∃ r,A8 [scr ns,.int k,.int m]=.ok (.int r)/\0<=r/\r < m:=by
 obtain ⟨c,hc⟩:=qA ns hns k
 unfold A8 Az Z7
 generalize scr ns=S at *
 simp_arith [hc,Sd (show (0:Int) < 2147483563 by decide),X9,jZ,eR]
 generalize hA:(c % 2147483563*69069+104723*(k+1)) % 2147483563=A
 have a0:0<=A:=by rw [<- hA]; exact Int.emod_nonneg _ (by decide)
 have a1:A < 2147483563:=by rw [<- hA]; exact Int.emod_lt_of_pos _ (by decide)
 simp_arith [Ya (a:=A) (b:=A) (.inl ⟨Int.lt_of_lt_of_le (by decide) a0,Int.lt_trans a1 (by decide)⟩),Vt (show (0:Int) < 3 by decide) (by decide),X9,Sd (show (0:Int) < 2147483399 by decide)]
 generalize hB:(A*A+A / 3) % 2147483399=B
 have b0:0<=B:=by rw [<- hB]; exact Int.emod_nonneg _ (by decide)
 have b1:B < 2147483399:=by rw [<- hB]; exact Int.emod_lt_of_pos _ (by decide)
 simp_arith [Ya (a:=B) (b:=B) (.inl ⟨Int.lt_of_lt_of_le (by decide) b0,Int.lt_trans b1 (by decide)⟩),Vt (show (0:Int) < 7 by decide) (by decide),X9,Sd (show (0:Int) < 2147483647 by decide),Vt (show (0:Int) < 11 by decide) (by decide),Sd hm]
 exact ⟨_,rfl,Int.emod_nonneg _ (by lia),Int.emod_lt_of_pos _ hm⟩
theorem kO {x:Str} {i:Int} (h0:0<=i) (h:i < (x.cps.toList.length:Int)):∃ c∈x.cps.toList,dIx (.str x) (.int i)=some (.str ⟨#[c]⟩):=by
 obtain ⟨c,hc,e⟩:=Nz (xs:=x.cps.toList) h0 h
 exact ⟨c,hc,by show (atI x.cps.toList i).map _=_; rw [e]; rfl⟩
theorem eX (c:Nat):(⟨#[c]⟩:Str).length=1:=rfl
theorem Su:(1000:Nat)<=sizeLine:=by decide
theorem addS {x y:Str} (h:x.length+y.length<=1000):C7 (.str x) (.str y)=some (.str (x++y)):=by
 show (if _ then _ else _)=_
 rw [if_pos (Nat.le_trans h Su)]
theorem Kk {x y:List PyData} (h:x.length+y.length<=1000):C7 (.list x) (.list y)=some (.list (x++y)):=by
 show (if _ then _ else _)=_
 rw [if_pos (Nat.le_trans h Su)]
theorem Wn {x y:List PyData} (h:x.length+y.length<=1000):C7 (.tuple x) (.tuple y)=some (.tuple (x++y)):=by
 show (if _ then _ else _)=_
 rw [if_pos (Nat.le_trans h Su)]
theorem R3 (x y:Str):(x++y).length=x.length+y.length:=by
 show (x.cps++y.cps).size=_
 rw [Array.size_append]; rfl
def chOk (lo hi:Nat) (x:Str):Prop:=∀ c∈x.cps.toList,lo<=c/\c<=hi
theorem chOk.app {lo hi:Nat} {x y:Str} (hx:chOk lo hi x) (hy:chOk lo hi y):chOk lo hi (x++y):=fun c hc=>by
 have:c∈(x.cps++y.cps).toList:=hc
 rw [Array.toList_append] at this
 exact (List.mem_append.mp this).elim (hx c) (hy c)
theorem chOk.one {lo hi c:Nat} (h:lo<=c/\c<=hi):chOk lo hi ⟨#[c]⟩:=fun d hd=>by
 have:d=c:=by simpa using hd
 rw [this]; exact h
theorem chOk.nil {lo hi:Nat}:chOk lo hi "" := fun c hc=>by
 rw [show ("" : Str).cps.toList=[] from rfl] at hc; exact nomatch hc
theorem mulS {c:Nat} {n:Int} (h0:0<=n) (h:n < 2):∃ y:Str,M3 (.str ⟨#[c]⟩) (.int n)=some (.str y)/\y.length<=1/\∀ d∈y.cps.toList,d=c:=by
 have:n=0\/n=1:=by lia
 rcases this with rfl | rfl
 . refine ⟨P0 0 ⟨#[c]⟩,rfl,(show (0:Nat)<=1 by decide),fun d hd=>?_⟩
   simp [P0] at hd
 . refine ⟨P0 1 ⟨#[c]⟩,rfl,by unfold P0; simp; exact Nat.le_refl _,fun d hd=>?_⟩
   simpa [P0] using hd
def Cr (x:Str):Prop:=1<=x.length/\x.length<=6/\chOk 97 122 x
def wdOk (x:Str):Prop:=1<=x.length/\x.length<=4/\chOk 32 126 x
theorem ixL {xs:List PyData} {i:Int} (h0:0<=i) (h:i < (xs.length:Int)):∃ x∈xs,dIx (.list xs) (.int i)=some x:=Nz h0 h
theorem Hu (ns:List Int) (hns:ns.length<=63) (a k:Int) (hk:0<=k) (hk2:k < 3) (fd:List PyData) (hf:fd.length < 1000) (s4:Sl):∃ z w:Str,Cr z /\
   (C5 (M1 4 (b2 (b2 (vC (.str "abcdefghijklmnopqrstuvwxyz")) (B4 (A0 (A2 0) (A0 (b2 (A2 1) (b2 (vC (.int 2)) (A2 3) M3) C7) (A0 (vC (.int 26)) A7))) A8) dIx) (B4 (A0 (A2 0) (A0 (b2 (b2 (A2 1) (b2 (vC (.int 2)) (A2 3) M3) C7) (vC (.int 1)) C7) (A0 (vC (.int 2)) A7))) A8) M3)) (iT 2 (b2 (D1 (A0 (b2 (A2 4) (b2 (vC (.str "xyz")) (A2 3) dIx) C7) (A0 (b2 (b2 (vC (.str "xyz")) (A2 3) dIx) (A2 4) C7) A7))) (B4 (A0 (A2 0) (A0 (b2 (A2 1) (vC (.int 6)) C7) (A0 (vC (.int 2)) A7))) A8) dIx)))
     [.sh (scr ns),.sh (.int a),.ow (.list fd),.sh (.int k),s4]=.nx [.sh (scr ns),.sh (.int a),.ow (.list (fd++[.str z])),.sh (.int k),.sh (.str w)]:=by
 obtain ⟨r1,e1,a1,b1⟩:=M4 ns hns (a+2*k) 26 (by decide)
 obtain ⟨r2,e2,a2,b2'⟩:=M4 ns hns (a+2*k+1) 2 (by decide)
 obtain ⟨r3,e3,a3,b3⟩:=M4 ns hns (a+6) 2 (by decide)
 obtain ⟨c1,hc1,f1⟩:=kO (x := "abcdefghijklmnopqrstuvwxyz") a1 (by rw [show ("abcdefghijklmnopqrstuvwxyz" : Str).cps.toList.length=26 from by decide]; exact b1)
 obtain ⟨y,f2,l2,hy⟩:=mulS (c:=c1) a2 b2'
 obtain ⟨c2,hc2,f3⟩:=kO (x := "xyz") hk (by rw [show ("xyz" : Str).cps.toList.length=3 from by decide]; exact hk2)
 have g1:C7 (.str y) (.str ⟨#[c2]⟩)=_:=addS (x:=y) (y:=⟨#[c2]⟩) (by rw [eX]; lia)
 have g2:C7 (.str ⟨#[c2]⟩) (.str y)=_:=addS (x:=⟨#[c2]⟩) (y:=y) (by rw [eX]; lia)
 obtain ⟨x,hx,f4⟩:=ixL (xs:=[.str (y++⟨#[c2]⟩),.str (⟨#[c2]⟩++y)]) a3 b3
 have o1:chOk 97 122 y:=fun d hd=>by
   rw [hy d hd]; exact (by decide:∀ c∈("abcdefghijklmnopqrstuvwxyz" : Str).cps.toList,97<=c/\c<=122) c1 hc1
 have o2:chOk 97 122 ⟨#[c2]⟩:=.one ((by decide:∀ c∈("xyz" : Str).cps.toList,97<=c/\c<=122) c2 hc2)
 have:∃ z,x=.str z/\Cr z:=by
   rcases List.mem_cons.mp hx with h | h
   . exact ⟨_,h,by rw [R3,eX]; lia,by rw [R3,eX]; lia,o1.app o2⟩
   . exact ⟨_,List.mem_singleton.mp h,by rw [R3,eX]; lia,by rw [R3,eX]; lia,o2.app o1⟩
 obtain ⟨z,rfl,hz⟩:=this
 refine ⟨z,y,hz,?_⟩
 have szB:fd.length < sizeLine:=Nat.lt_of_lt_of_le hf Su
 simp_arith [mul2,X9,e1,e2,e3,f1,f2,f3,g1,g2,f4,iT,szB]
theorem jX (ns:List Int) (hns:ns.length<=63) (a:Int):∃ x y z:Str,(Cr x/\Cr y/\Cr z)/\E7 [scr ns,.int a]=.ok (.list [.str x,.str y,.str z]):=by
 obtain ⟨x,w1,hx,e1⟩:=Hu ns hns a 0 (by decide) (by decide) [] (by simp) .un
 obtain ⟨y,w2,hy,e2⟩:=Hu ns hns a 1 (by decide) (by decide) [.str x] (by simp) (.sh (.str w1))
 obtain ⟨z,w3,hz,e3⟩:=Hu ns hns a 2 (by decide) (by decide) [.str x,.str y] (by simp) (.sh (.str w2))
 refine ⟨x,y,z,⟨hx,hy,hz⟩,?_⟩
 unfold E7 Ax Y3 Y2 Y1 Q8
 have r:Ff [.int 3]=.ok [.int 0,.int 1,.int 2]:=rfl
 simp only [Pz,S9,Jk (iR _ _),iR,A7,Ch,Zy,List.map_cons,List.map_nil,List.length_cons,List.length_nil,List.replicate,List.cons_append,List.nil_append,List.set_cons_zero,List.set_cons_succ,Jk (Es _ _ _),Es,A0,vC,F7,r,P7,st1,Nat.reduceAdd,Nat.reduceSub]
 rw [e1]
 simp only [List.nil_append,List.set_cons_zero,List.set_cons_succ]
 rw [e2]
 simp only [List.cons_append,List.nil_append,List.set_cons_zero,List.set_cons_succ]
 rw [e3]
 rfl
theorem lO {bnd:PyData->Res (List Sl)} {δc:Dn} {el:Dn->Res PyData} {P:PyData->Prop}:∀ (ds:List PyData),(∀ d∈ds,∃ sl y,bnd d=.ok sl/\el (sl++δc)=.ok y/\P y)->∃ ys:List PyData,F2 bnd δc N7 el ds=.ok ys/\ys.length=ds.length/\∀ y∈ys,P y:=by
 intro iN; induction iN with
 | nil=>intro _; exact ⟨[],rfl,rfl,fun _ h=>nomatch h⟩
 | cons d ds ih =>
   intro h; obtain ⟨sl,y,e1,e2,p⟩:=h d (.head _); obtain ⟨ys,e3,e4,e5⟩:=ih fun d' h'=>h d' (.tail _ h')
   refine ⟨y::ys,?_,by simp [e4],fun z hz=>?_⟩
   . unfold F2
     rw [e1]; simp only [N7,e2,e3]
   . rcases List.mem_cons.mp hz with rfl | hz
     . exact p
     . exact e5 z hz
theorem mN {P:Str->Prop}:∀ (ys:List PyData),(∀ y∈ys,∃ x,y=.str x/\P x)->∃ xs:List Str,Kr ys=some xs/\xs.length=ys.length/\∀ x∈xs,P x:=by
 intro iN; induction iN with
 | nil=>intro _; exact ⟨[],rfl,rfl,fun _ h=>nomatch h⟩
 | cons y ys ih =>
   intro h; obtain ⟨x,rfl,p⟩:=h y (.head _); obtain ⟨xs,e1,e2,e3⟩:=ih fun d' h'=>h d' (.tail _ h')
   exact ⟨x::xs,by show (Kr ys).map _=_; rw [e1]; rfl,by simp [e2],fun z hz=>by
     rcases List.mem_cons.mp hz with rfl | hz
     . exact p
     . exact e3 z hz⟩
theorem Tf:∀ (xs:List Str),(∀ x∈xs,x.length=1/\PyData.strOk x=true/\chOk 32 126 x)->(Str.join "" xs).length=xs.length/\PyData.strOk (Str.join "" xs)=true/\chOk 32 126 (Str.join "" xs)
 | [],_=>⟨rfl,by decide +kernel,chOk.nil⟩
 | [x],h=>⟨(h x (.head _)).1,(h x (.head _)).2.1,(h x (.head _)).2.2⟩
 | x::y::r,h=>by
   obtain ⟨l,o,q⟩:=Tf (y::r) fun z hz=>h z (.tail _ hz)
   obtain ⟨l1,o1,q1⟩:=h x (.head _); show (x ++ "" ++ Str.join "" (y::r)).length=_/\PyData.strOk (x ++ "" ++ Str.join "" (y::r))=true/\chOk 32 126 (x ++ "" ++ Str.join "" (y::r))
   refine ⟨?_,Df (Df o1 (by decide +kernel)) o,(q1.app chOk.nil).app q⟩
   rw [R3,R3]; have:(("" : Str)).length=0:=rfl; simp only [List.length_cons] at l ⊢
   lia
theorem gZ:∀ (xs:List Str),(∀ x∈xs,x.length=1/\PyData.strOk x=true/\chOk 32 126 x)->(xs.map (·.length)).sum=xs.length:=by
 intro iN; induction iN with
 | nil=>intro _; exact rfl
 | cons x r ih =>
   intro h; simp only [List.map_cons,List.sum_cons,List.length_cons,(h x (.head _)).1,ih fun z hz=>h z (.tail _ hz)]
   lia
theorem iU {n:Int} (h0:0<=n) (h:n < 1000):Ff [.int n]=.ok (U7 0 n):=by
 show (if _ then _ else _)=_
 rw [if_pos (by lia)]
theorem Um {fs:Dn->Res (List PyData)} {δ:Dn} {n:Int} (h:fs δ=.ok [.int n]) (h0:0<=n) (h1:n < 1000):(fun δ=>(fs δ).bind Ff) δ=.ok (U7 0 n):=by
 show (fs δ).bind Ff=_
 rw [h,F7,iU h0 h1]
theorem L3 {f:Dn->Res PyData} {δ:Dn} {d:PyData} {ds:List PyData} (h:f δ=.ok d) (h2:J2 d=.ok ds):(fun δ=>(f δ).bind J2) δ=.ok ds:=by
 show (f δ).bind J2=_
 rw [h,F7,h2]
theorem gN (ns:List Int) (hns:ns.length<=63) (a:Int):∃ x:Str,K3 [scr ns,.int a]=.ok (.str x)/\wdOk x:=by
 obtain ⟨r1,e1,a1,b1⟩:=M4 ns hns (a+4) 4 (by decide)
 unfold K3 Av Z5
 have hr:Ff [.int (1+r1)]=.ok (U7 0 (1+r1)):=iU (by lia) (by lia)
 have hlen:(U7 0 (1+r1)).length<=4/\1<=(U7 0 (1+r1)).length:=by unfold U7; simp; lia
 have hall:∀ d∈U7 0 (1+r1),∃ sl y,E9 d=.ok sl/\(b2 (vC (.str "ab cd~ <")) (B4 (A0 (A2 1) (A0 (b2 (A2 2) (A2 0) C7) (A0 (vC (.int 8)) A7))) A8) dIx) (sl++[.sh (scr ns),.sh (.int a)])=.ok y/\∃ x:Str,y=.str x/\x.length=1/\PyData.strOk x=true/\chOk 32 126 x:=fun d hd=>by
   unfold U7 at hd; obtain ⟨i,hi,rfl⟩:=List.mem_map.mp hd; have hi':i < 4:=by have:=List.mem_range.mp hi; lia
   obtain ⟨r2,e2,a2,b2'⟩:=M4 ns hns (a+(0+(i:Int))) 8 (by decide)
   obtain ⟨c,hc,f⟩:=kO (x := "ab cd~ <") a2 (by have:("ab cd~ <" : Str).cps.toList.length=8:=(by decide); rw [this]; exact b2')
   refine ⟨[.sh (.int (0+(i:Int)))],.str ⟨#[c]⟩,rfl,?_,⟨#[c]⟩,rfl,rfl,?_,.one ((by decide:∀ c∈("ab cd~ <" : Str).cps.toList,32<=c/\c<=126) c hc)⟩
   . simp_arith [X9,e2,f]
   . have:∀ c∈("ab cd~ <" : Str).cps.toList,c < 0x110000:=by decide
     unfold PyData.strOk; simp [this c hc]
 obtain ⟨ys,g1,g2,g3⟩:=lO (U7 0 (1+r1)) hall
 obtain ⟨xs,g4,g5,g6⟩:=mN ys g3
 obtain ⟨l1,o1,q1⟩:=Tf xs g6
 have s1:=gZ xs g6
 refine ⟨Str.join "" xs,?_,by lia,by lia,q1⟩
 have hj:Yp "" (.list ys)=some (.str (Str.join "" xs)):=by
   show (Kr ys).bind _=_
   rw [g4]; show (if _ then _ else _)=_
   have:(("" : Str)).length=0:=rfl; rw [if_pos ⟨by rw [s1,this]; lia,o1,Nat.le_trans (show _<=1000 by lia) Su⟩]
 have hz:(U7 0 (1+r1)).length<=sizeLine:=Nat.le_trans (show _<=1000 by lia) Su
 simp_arith [X9,e1,hr,G7,hz,Cz,Option.getD_some,g1,hj]
noncomputable abbrev idD (t:Int) (h:Str):PyData:=.tuple [.int t,.str h]
abbrev IdP:=Int×Str
noncomputable abbrev idP (p:IdP):PyData:=idD p.1 p.2
noncomputable abbrev sgD (p:IdP) (n:Int):PyData:=.tuple [idP p,.int n]
noncomputable def hj (h:Str):Nat:=if h = "a" then 0 else if h = "b" then 1 else 2
noncomputable def key (p:IdP):Int:=3*p.1+hj p.2
def okH (h:Str):Prop:=h = "a" \/ h = "b" \/ h = "c"
def okI (p:IdP):Prop:=1<=p.1/\p.1<=10/\okH p.2
theorem kW (h:Str):hj h<=2:=by unfold hj; split <;> (try split) <;> lia
def SgOf (T:Int) (ds:List PyData) (x:PyData):Prop:=∃ (p:IdP) (b:PyData) (w:Str) (n:Nat),PyData.tuple [.str "add",idP p,b,.str w]∈ds/\x=sgD p n/\n < w.length/\p.1 < T/\okI p
theorem SgOf.mono {T:Int} {ds ds':List PyData} {x:PyData} (h:SgOf T ds x) (k:∀ d∈ds,d∈ds'):SgOf T ds' x:=by
 obtain ⟨p,b,w,n,e,r⟩:=h; exact ⟨p,b,w,n,k _ e,r⟩
def sgR (a b:PyData):Prop:=∃ (p q:IdP) (n m:Int),a=sgD p n/\b=sgD q m/\okH p.2/\okH q.2/\(key p < key q\/(p=q/\n < m))
def OrN (S:PyData->Prop) (d:PyData):Prop:=d=.none\/S d
def uL (x:Str):Prop:=x = "l" \/ x = "r"
def Wf (p:IdP) (S:PyData->Prop) (U:IdP->Prop) (d:PyData):Prop:=okI p /\
 ((∃ b w,d=.tuple [.str "add",idP p,b,.str w]/\OrN S b/\wdOk w) \/
  (∃ sg,d=.tuple [.str "drop",idP p,.tuple sg]/\(∀ x∈sg,S x)/\sg.length<=31/\sg≠[]/\sg.Pairwise sgR) \/
  (∃ n s1 x1 s2 x2,d=.tuple [.str "mark",idP p,.str n,.tuple [s1,.str x1],.tuple [s2,.str x2]]/\OrN S s1/\OrN S s2/\Cr n/\uL x1/\uL x2) \/
  (∃ n,d=.tuple [.str "unmark",idP p,.str n]/\Cr n) \/
  (∃ q,d=.tuple [.str "undo",idP p,idP q]/\U q))
theorem OrN.mono {S S':PyData->Prop} {d:PyData} (h:OrN S d) (k:∀ x,S x->S' x):OrN S' d:=h.elim .inl fun z=>.inr (k _ z)
theorem Wf.mono {p:IdP} {S S':PyData->Prop} {U U':IdP->Prop} {d:PyData} (h:Wf p S U d) (k2:∀ x,S x->S' x) (k3:∀ q,U q->U' q):Wf p S' U' d:=by
 obtain ⟨o,r⟩:=h
 refine ⟨o,?_⟩
 rcases r with ⟨b,w,e,hb,hw⟩ | ⟨sg,e,hs,hl⟩ | ⟨n,s1,x1,s2,x2,e,h1,h2,h3⟩ | ⟨n,e⟩ | ⟨i,e,hi⟩
 . exact .inl ⟨b,w,e,hb.mono k2,hw⟩
 . exact .inr (.inl ⟨sg,e,fun x hx=>k2 x (hs x hx),hl⟩)
 . exact .inr (.inr (.inl ⟨n,s1,x1,s2,x2,e,h1.mono k2,h2.mono k2,h3⟩))
 . exact .inr (.inr (.inr (.inl ⟨n,e⟩)))
 . exact .inr (.inr (.inr (.inr ⟨i,e,k3 _ hi⟩)))
theorem Vw (x y:Str):dEq (.str x) (.str y)=some (.bool (x==y)):=by
 unfold dEq
 rw [if_pos (Nat.le_trans (Nat.min_le_left _ _) (by simp [PyData.depth]))]
 rfl
theorem addEq:(("add" : Str)==("add" : Str))=true:=by decide +kernel
noncomputable def Mh:Dn->Out:=(sIf (B2 (b2 (b2 (A2 2) (vC (.int 0)) dIx) (vC (.str "add")) dEq)) (M1 1 (b2 (A2 1) (D1 (G7 (fun δ=>((A0 (vFn (A0 (b2 (A2 2) (vC (.int 3)) dIx) A7) K4) A7) δ).bind Ff) E9 [2] N7 (L9 (A0 (b2 (A2 1) (vC (.int 1)) dIx) (A0 (A2 0) A7))))) C7)) F4)
theorem Kd {α:Type} {δc:Dn} {el:Dn->Res PyData} (g f:α->PyData) (h:∀ y:α,el ([.sh (g y)]++δc)=.ok (f y)):∀ ys:List α,F2 E9 δc N7 el (ys.map g)=.ok (ys.map f):=by
 intro iN; induction iN with
 | nil=>skip; exact rfl
 | cons y ys ih =>
   skip
   rw [List.map_cons,List.map_cons]; unfold F2; simp only [E9,N7,h y,ih]
theorem Zt {p:IdP} {S:PyData->Prop} {U:IdP->Prop} {T:Int} {d:PyData} (hd:Wf p S U d) (hT:p.1 < T) (B:PyData) (fd:List PyData) (hf:fd.length<=100):∃ more:List PyData,more.length<=4/\(∀ x∈more,SgOf T [d] x)/\(∀ x∈more,∃ n,x=sgD p n)/\more.Pairwise sgR /\
   Mh [.sh B,.sh (.list fd),.sh d]=.nx [.sh B,.sh (.list (fd++more)),.sh d]:=by
 obtain ⟨o,r⟩:=hd
 have ix0:∀ (x:PyData) (xs:List PyData),dIx (.tuple (x::xs)) (.int 0)=some x:=fun x xs=>P6 (xs:=x::xs) (j:=0) (by simp)
 have ix1:∀ (x y:PyData) (xs:List PyData),dIx (.tuple (x::y::xs)) (.int 1)=some y:=fun x y xs=>P6 (xs:=x::y::xs) (j:=1) (by simp)
 have ix3:∀ (x y z u:PyData),dIx (.tuple [x,y,z,u]) (.int 3)=some u:=fun x y z u=>P6 (xs:=[x,y,z,u]) (j:=3) (by simp)
 have no:∀ d,(B2 (b2 (b2 (A2 2) (vC (.int 0)) dIx) (vC (.str "add")) dEq)) [.sh B,.sh (.list fd),.sh d]=.ok false->∃ more:List PyData,more.length<=4/\(∀ x∈more,SgOf T [d] x)/\(∀ x∈more,∃ n,x=sgD p n)/\more.Pairwise sgR/\Mh [.sh B,.sh (.list fd),.sh d]=.nx [.sh B,.sh (.list (fd++more)),.sh d]:=fun d e=>by
   refine ⟨[],by simp,(fun _ h=>nomatch h),(fun _ h=>nomatch h),.nil,?_⟩
   unfold Mh; rw [R0 e,List.append_nil]; rfl
 rcases r with ⟨b,w,rfl,hb,hw⟩ | ⟨sg,rfl,_⟩ | ⟨n,s1,x1,s2,x2,rfl,_⟩ | ⟨n,rfl,_⟩ | ⟨i,rfl,_⟩
 . have er:U7 0 (w.length:Int)=(List.range w.length).map fun i:Nat=>PyData.int (0+(i:Int)):=by unfold U7; simp
   have g1:=Kd (δc:=[.sh (.tuple [.str "add",idP p,b,.str w])]) (el:=L9 (A0 (b2 (A2 1) (vC (.int 1)) dIx) (A0 (A2 0) A7))) (fun i:Nat=>PyData.int (0+(i:Int))) (fun i=>sgD p (0+(i:Int))) (fun i=>by simp_arith [ix1]) (List.range w.length)
   have hl:=hw.2.1; refine ⟨(List.range w.length).map fun i:Nat=>sgD p (0+(i:Int)),by simp; exact hl,fun x hx=>?_,fun x hx=>?_,?_,?_⟩
   . obtain ⟨i,hi,rfl⟩:=List.mem_map.mp hx
     exact ⟨p,b,w,i,.head _,by rw [Int.zero_add],List.mem_range.mp hi,hT,o⟩
   . obtain ⟨i,hi,rfl⟩:=List.mem_map.mp hx
     exact ⟨_,rfl⟩
   . rw [List.pairwise_map]
     exact (List.pairwise_lt_range).imp fun {a b} h=>⟨p,p,_,_,rfl,rfl,o.2.2,o.2.2,.inr ⟨rfl,by lia⟩⟩
   . have ha:C7 (.list fd) (.list ((List.range w.length).map fun i:Nat=>sgD p (0+(i:Int))))=_:=Kk (by simp; lia)
     have e1:K4 [.str w]=some (.int (w.length:Int)):=rfl; unfold Mh; rw [O4 (by simp_arith [ix0,Vw,addEq])]
     refine F1 (B0 rfl (K6 (O6 (ds:=U7 0 (w.length:Int)) (Um (by simp_arith [ix3,e1]) (by lia) (by lia)) (by rw [er]; simp; lia) rfl (by rw [er]; exact g1))) ha)
 . exact no _ (by simp_arith [ix0,Vw,show (("drop" : Str)==("add" : Str))=false from by decide +kernel])
 . exact no _ (by simp_arith [ix0,Vw,show (("mark" : Str)==("add" : Str))=false from by decide +kernel])
 . exact no _ (by simp_arith [ix0,Vw,show (("unmark" : Str)==("add" : Str))=false from by decide +kernel])
 . exact no _ (by simp_arith [ix0,Vw,show (("undo" : Str)==("add" : Str))=false from by decide +kernel])
abbrev Dp:=PyData×IdP
theorem Zu {S:IdP->PyData->Prop} {U:IdP->IdP->Prop} {T:Int} (D:List PyData) (B:PyData):∀ (ds:List Dp),(∀ e∈ds,Wf e.2 (S e.2) (U e.2) e.1/\e.1∈D/\e.2.1 < T)->ds.Pairwise (fun a b=>key a.2 < key b.2)->∀ (fd:List PyData) (s2:Sl),fd.length+4*ds.length<=100->(∀ x∈fd,SgOf T D x) ->
   fd.Pairwise sgR->(∀ x∈fd,∃ q n,x=sgD q n/\okH q.2/\∀ e∈ds,key q < key e.2)->∃ (out:List PyData) (s2':Sl),out.length<=fd.length+4*ds.length/\(∀ x∈out,SgOf T D x)/\out.Pairwise sgR /\
   P7 (st1 2) Mh (ds.map (·.1)) [.sh B,.sh (.list fd),s2]=.nx [.sh B,.sh (.list out),s2']:=by
 intro iN; induction iN with
 | nil=>intro _ _ fd s2 _ hs hp _; exact ⟨fd,s2,by lia,hs,hp,rfl⟩
 | cons e ds ih =>
   intro hd up fd s2 hl hs hp hq; obtain ⟨w,m,ht⟩:=hd e (.head _); obtain ⟨more,l1,s1,i1,p1,e1⟩:=Zt w ht B fd (by simp at hl; lia)
   have up':=List.pairwise_cons.mp up; obtain ⟨out,s2',l2,s3,p3,e2⟩:=ih (fun d' h'=>hd d' (.tail _ h')) up'.2 (fd++more) (.sh e.1) (by simp at hl ⊢; lia)
     (fun x hx=>(List.mem_append.mp hx).elim (hs x) fun z=>(s1 x z).mono fun q hq=>by rw [List.mem_singleton.mp hq]; exact m)
     (List.pairwise_append.mpr ⟨hp,p1,fun a ha b hb=>by
       obtain ⟨q,n,rfl,o,k⟩:=hq a ha; obtain ⟨n',rfl⟩:=i1 b hb; exact ⟨q,e.2,n,n',rfl,rfl,o,w.1.2.2,.inl (k e (.head _))⟩⟩)
     (fun x hx=>(List.mem_append.mp hx).elim (fun z=>by
       obtain ⟨q,n,h1,h2,h3⟩:=hq x z; exact ⟨q,n,h1,h2,fun e' he'=>h3 e' (.tail _ he')⟩) fun z=>by
       obtain ⟨n',rfl⟩:=i1 x z; exact ⟨e.2,n',rfl,w.1.2.2,fun e' he'=>up'.1 e' he'⟩)
   refine ⟨out,s2',by simp at l2 ⊢; lia,s3,p3,?_⟩
   rw [List.map_cons]; unfold P7; simp only [st1,List.set_cons_zero,List.set_cons_succ]; rw [e1]; exact e2
theorem iK {S:IdP->PyData->Prop} {U:IdP->IdP->Prop} {T:Int} (ds:List Dp) (hd:∀ e∈ds,Wf e.2 (S e.2) (U e.2) e.1/\e.2.1 < T) (up:ds.Pairwise (fun a b=>key a.2 < key b.2)) (hl:ds.length<=7) :
   ∃ out:List PyData,D4 [.tuple (ds.map (·.1))]=.ok (.list out)/\out.length<=28/\(∀ x∈out,SgOf T (ds.map (·.1)) x)/\out.Pairwise sgR:=by
 obtain ⟨out,s2',l2,s3,p3,e2⟩:=Zu (ds.map (·.1)) (.tuple (ds.map (·.1))) ds (fun e h=>⟨(hd e h).1,List.mem_map_of_mem h,(hd e h).2⟩) up [] .un (by simp; lia) (fun _ h=>nomatch h) .nil (fun _ h=>nomatch h)
 refine ⟨out,?_,by simp at l2; lia,s3,p3⟩
 unfold D4 Aw Z6
 simp only [Pz,S9,Jk (M1 _ _),M1,D1,A7,Ch,F7,Zy,List.map_cons,List.map_nil,List.length_cons,List.length_nil,List.replicate,List.cons_append,List.nil_append,List.set_cons_zero,List.set_cons_succ,Jk (Es _ _ _),Es,bW,Xk,J2,List.getElem?_cons_zero,Nat.reduceAdd,Nat.reduceSub]
 unfold Mh at e2
 rw [e2]
 simp_arith
theorem D7 {c:Dn->Res Bool} {g1 g2:Dn->Out} {δ:Dn} (h:c δ=.ok false):C5 (sIf c g1 F4) g2 δ=g2 δ:=C4 (R0 h)
theorem oH {xs:List PyData} {n:Int} (h : -(2 ^ 63)<=n/\n < 2 ^ 63/\xs.length*n.toNat<=sizeLine):M3 (.list xs) (.int n)=some (.list (List.replicate n.toNat xs).flatten):=by
 show (if _ then _ else _)=_
 rw [if_pos h]
theorem vU (xs:List PyData):dNe (.list xs) (.list [])=some (.bool (!xs.isEmpty)):=by
 unfold dNe
 rw [if_pos (Nat.le_trans (Nat.min_le_right _ _) (by decide))]
 cases xs <;> rfl
theorem dEqL (xs:List PyData):dEq (.list xs) (.list [])=some (.bool xs.isEmpty):=by
 unfold dEq
 rw [if_pos (Nat.le_trans (Nat.min_le_right _ _) (by decide))]
 cases xs <;> rfl
theorem pV (xs:List PyData):dNe (.tuple xs) (.tuple [])=some (.bool (!xs.isEmpty)):=by
 unfold dNe
 rw [if_pos (Nat.le_trans (Nat.min_le_right _ _) (by decide))]
 cases xs <;> rfl
theorem ltI (a b:Int):K5 .Lt (.int a) (.int b)=some (.bool (decide (a < b))):=by
 unfold K5
 rw [if_pos (by simp [PyData.depth])]
 rfl
theorem Qi (a b:Int):dEq (.int a) (.int b)=some (.bool (a==b)):=by
 unfold dEq
 rw [if_pos (Nat.le_trans (Nat.min_le_left _ _) (by simp [PyData.depth]))]
 rfl
theorem pL (t:Int) (h:Str):(idD t h).depth<=2:=by simp [idD,PyData.depth,PyData.depthAll]
theorem uN (xs:List PyData):K4 [.list xs]=some (.int (xs.length:Int)):=rfl
theorem lenT (xs:List PyData):K4 [.tuple xs]=some (.int (xs.length:Int)):=rfl
theorem Tz (ns:List Int) (hns:ns.length<=63) (a:Int) (S:PyData->Prop) (sg:List PyData) (hs:∀ x∈sg,S x) (hl:sg.length<=28):∃ s x,F9 [scr ns,.int a,.list sg]=.ok (.tuple [s,.str x])/\OrN S s/\uL x:=by
 obtain ⟨r1,e1,a1,b1⟩:=M4 ns hns a ((sg.length:Int)+1) (by lia)
 obtain ⟨r2,e2,a2,b2'⟩:=M4 ns hns (a+1) 2 (by decide)
 obtain ⟨c,hc,f2⟩:=kO (x := "lr") a2 (by rw [show ("lr" : Str).cps.toList.length=2 from by decide]; exact b2')
 have g:=Kk (x:=[.none]) (y:=sg) (by simp; lia)
 obtain ⟨s,hs',f1⟩:=ixL (xs:=[.none]++sg) a1 (by simp; lia)
 refine ⟨s,⟨#[c]⟩,?_,?_,?_⟩
 . unfold F9 Y4 X4
   generalize [PyData.none]++sg=L at *
   simp_arith [g,uN,X9,e1,f1,e2,f2]
 . rcases List.mem_append.mp hs' with h | h
   . exact .inl (List.mem_singleton.mp h)
   . exact .inr (hs s h)
 . have h':c∈[108,114]:=by rw [show ("lr" : Str).cps.toList=[108,114] from by decide] at hc; exact hc
   simp only [List.mem_cons,List.not_mem_nil,or_false] at h'; rcases h' with rfl | rfl
   . exact .inl (by decide)
   . exact .inr (by decide)
theorem gA {δc:Dn} {tt:Dn->Res Bool}:∀ (zs:List (PyData×PyData)),(∀ z∈zs,∃ b,tt ([.sh z.1,.sh z.2]++δc)=.ok b)->∃ ys:List PyData,F2 Mi δc tt (A2 1) (zs.map fun z=>.tuple [z.1,z.2])=.ok ys/\ys.Sublist (zs.map (·.2)):=by
 intro iN; induction iN with
 | nil=>intro _; exact ⟨[],rfl,.slnil⟩
 | cons z zs ih =>
   intro h; obtain ⟨b,e⟩:=h z (.head _); obtain ⟨ys,e1,e2⟩:=ih fun z' hz=>h z' (.tail _ hz)
   rw [List.map_cons,List.map_cons]
   cases b with
   | true =>
     refine ⟨z.2::ys,?_,e2.cons_cons _⟩; unfold F2; rw [show Mi (.tuple [z.1,z.2])=.ok [.sh z.1,.sh z.2] from rfl]
     simp only [e,e1]; rfl
   | false =>
     refine ⟨ys,?_,e2.cons _⟩; unfold F2; rw [show Mi (.tuple [z.1,z.2])=.ok [.sh z.1,.sh z.2] from rfl]
     simp only [e,e1]
theorem pK (xs:List PyData):Hd xs=(xs.mapIdx fun i d=>(PyData.int i,d)).map fun z=>PyData.tuple [z.1,z.2]:=by
 unfold Hd
 apply List.ext_getElem?
 intro i
 simp [Function.comp_def]
theorem lG (xs:List PyData):(xs.mapIdx fun i d=>(PyData.int i,d)).map (·.2)=xs:=by
 apply List.ext_getElem?
 intro i
 simp only [List.getElem?_map,List.getElem?_mapIdx,Option.map_map]
 cases xs[i]? <;> rfl
theorem gV {xs:List PyData} {x:PyData} (h:x∈V1 xs (some (-3)) none):x∈xs:=by
 unfold V1 at h
 exact List.mem_of_mem_drop (List.mem_of_mem_take h)
theorem Gc (xs:List PyData) (lo hi:Option Int):(V1 xs lo hi).length<=xs.length:=by
 unfold V1
 rw [List.length_take,List.length_drop]; exact Nat.le_trans (Nat.min_le_right _ _) (Nat.sub_le _ _)
theorem Vr {o:Out} {d:PyData} (h:o=.rt d):o.fin=.ok d:=by rw [h]; rfl
theorem kG {a b:Int} (h:a < b):K5 .Lt (.int a) (.int b)=some (.bool true):=by rw [ltI,decide_eq_true h]
theorem kH {a b:Int} (h:¬ a < b):K5 .Lt (.int a) (.int b)=some (.bool false):=by rw [ltI,decide_eq_false h]
theorem Wa {f g:Dn->Res Bool} {δ:Dn} (h1:f δ=.ok true) (h2:g δ=.ok true):Q1 f g δ=.ok true:=by unfold Q1; rw [h1,F7,if_pos rfl,h2]
theorem Wc {f g:Dn->Res Bool} {δ:Dn} (h1:f δ=.ok false):Q1 f g δ=.ok false:=by unfold Q1; rw [h1,F7,if_neg (by decide)]
theorem Wb {f g:Dn->Res Bool} {δ:Dn} (h1:f δ=.ok true) (h2:g δ=.ok false):Q1 f g δ=.ok false:=by unfold Q1; rw [h1,F7,if_pos rfl,h2]
theorem W2 {f:Dn->Res PyData} {lo hi:Dn->Res (Option Int)} {δ:Dn} {x y:PyData} {l u:Option Int} (h1:f δ=.ok x) (h2:lo δ=.ok l) (h3:hi δ=.ok u) (h4:fX x l u=some y):vSl f lo hi δ=.ok y:=by unfold vSl; rw [h1,F7,h2,F7,h3,F7,h4]; rfl
theorem pR (ns:List Int) (hns:ns.length<=63) {S:IdP->PyData->Prop} {U:IdP->IdP->Prop} (a:Int) (p:IdP) (ho:okI p) (kn0:List Dp) (hk:∀ e∈kn0,Wf e.2 (S e.2) (U e.2) e.1/\e.2.1 < p.1) (up:kn0.Pairwise (fun a b=>key a.2 < key b.2)) (hkl:kn0.length<=7) (x y z:Str) (hxyz:Cr x/\Cr y/\Cr z) :
   ∃ d,N3 [scr ns,.int a,idP p,.tuple (kn0.map (·.1)),.list [.str x,.str y,.str z]]=.ok d/\Wf p (SgOf p.1 (kn0.map (·.1))) (fun q=>∃ e∈kn0,e.2=q) d:=by
 have hids:∀ d∈kn0.map (·.1),∃ q:IdP,dIx d (.int 1)=some (idP q)/\∃ e∈kn0,e.2=q:=fun d hd=>by
   obtain ⟨e,he,rfl⟩:=List.mem_map.mp hd; obtain ⟨_,hf⟩:=(hk e he).1; refine ⟨e.2,?_,e,he,rfl⟩; rcases hf with ⟨_,_,q,_⟩ | ⟨_,q,_⟩ | ⟨_,_,_,_,_,q,_⟩ | ⟨_,q,_⟩ | ⟨_,q,_⟩ <;> rw [q] <;> exact P6 (j:=1) (by simp)
 obtain ⟨sg,es,hsl,hsg,hsr⟩:=iK (T:=p.1) kn0 hk up hkl
 have hkl':(kn0.map (·.1)).length<=7:=by rw [List.length_map]; exact hkl
 generalize kn0.map (·.1)=kn at *
 obtain ⟨way,ew,w0,w1⟩:=M4 ns hns a 12 (by decide)
 obtain ⟨r5,e5,a5,b5⟩:=M4 ns hns (a+5) 3 (by decide)
 obtain ⟨nm,hnm,f5⟩:=ixL (xs:=[.str x,.str y,.str z]) a5 b5
 have:∃ q,nm=.str q/\Cr q:=by
   simp only [List.mem_cons,List.not_mem_nil,or_false] at hnm; rcases hnm with rfl | rfl | rfl
   . exact ⟨_,rfl,hxyz.1⟩
   . exact ⟨_,rfl,hxyz.2.1⟩
   . exact ⟨_,rfl,hxyz.2.2⟩
 obtain ⟨q,rfl,hq⟩:=this
 unfold N3 Bz An Am Al Ak Aj Ai Ah Ag M2
 rw [Pz]
 simp only [S9,List.map_cons,List.map_nil,List.length_cons,List.length_nil,List.replicate,List.cons_append,List.nil_append,Nat.reduceAdd,Nat.reduceSub]
 rw [C4 (F1 (B3 (A4 rfl rfl) es)),C4 (F1 (B3 (A4 rfl (A4 rfl (A4 rfl rfl))) ew))]
 simp only [List.set_cons_zero,List.set_cons_succ]
 by_cases c1:way < 2/\sg≠[]
 . have t1 : (Q1 (B2 (b2 (A2 6) (vC (.int 2)) (K5 .Lt))) (B2 (b2 (A2 5) (D1 A7) dNe))) [.sh (scr ns), .sh (.int a), .sh (idP p), .sh (.tuple kn), .sh (.list [.str x, .str y, .str z]), .sh (.list sg), .sh (.int way), .un, .un, .un] = .ok true := by
     have:sg.isEmpty=false:=by cases sg with | nil=>exact absurd rfl c1.2 | cons _ _=>rfl
     exact Wa (B8 (B0 rfl rfl (kG c1.1))) (B8 (B0 rfl rfl (by rw [vU,this]; rfl)))
   have hall:∀ z∈sg.mapIdx (fun i d=>(PyData.int i,d)),∃ b,(B2 (b2 (B4 (A0 (A2 2) (A0 (b2 (b2 (A2 3) (vC (.int 20)) C7) (A2 0) C7) (A0 (vC (.int 4)) A7))) A8) (vC (.int 0)) dEq)) ([.sh z.1,.sh z.2]++[.sh (scr ns),.sh (.int a)])=.ok b:=fun z hz=>by
     rw [List.mem_mapIdx] at hz; obtain ⟨i,hi,rfl⟩:=hz; obtain ⟨r,er,_,_⟩:=M4 ns hns (a+20+(i:Int)) 4 (by decide)
     refine ⟨r==0,?_⟩
     simp_arith [X9,er,Qi]
   obtain ⟨ys,g1,g2'⟩:=gA _ hall; rw [lG] at g2'; rw [<- pK] at g1; have g2:=g2'.length_le; have hel:(Hd sg).length=sg.length:=by unfold Hd; simp
   have n1:G7 (fun δ=>((A0 (A2 5) A7) δ).bind Qc) Mi [0,1] (B2 (b2 (B4 (A0 (A2 2) (A0 (b2 (b2 (A2 3) (vC (.int 20)) C7) (A2 0) C7) (A0 (vC (.int 4)) A7))) A8) (vC (.int 0)) dEq)) (A2 1) [.sh (scr ns),.sh (.int a),.sh (idP p),.sh (.tuple kn),.sh (.list [.str x,.str y,.str z]),.sh (.list sg),.sh (.int way),.un,.un,.un]=.ok ys :=
     O6 (ds:=Hd sg) (by show ((A0 (A2 5) A7) _).bind Qc=_; rw [A4 (d:=.list sg) (ds:=[]) rfl rfl]; rfl) (by lia) rfl g1
   have hex:∃ ex:List PyData,ex.length<=1/\((ys++ex).Sublist sg/\ys++ex≠[])/\M3 (.list (sg.take 1)) (.int (if ys.isEmpty=true then 1 else 0))=some (.list ex):=by
     have lt:(sg.take 1).length<=1:=by simp; lia
     cases ey:ys with
     | nil =>
       refine ⟨(List.replicate 1 (sg.take 1)).flatten,by simpa using lt,⟨by simpa using List.take_sublist 1 sg,fun z=>c1.2 ?_⟩,?_⟩
       . cases sg with
         | nil=>rfl
         | cons _ _=>simp at z
       . rw [if_pos (show List.isEmpty []=true from rfl)]
         exact oH ⟨by decide,by decide,Nat.le_trans (show _<=1 by simpa using lt) (by decide)⟩
     | cons y0 yr =>
       refine ⟨[],by simp,⟨by rw [List.append_nil,<- ey]; exact g2',by simp⟩,?_⟩
       rw [if_neg (by simp)]; exact oH ⟨by decide,by decide,by simp⟩
   obtain ⟨ex,exl,exs,hmul⟩:=hex; have hadd:=Kk (x:=ys) (y:=ex) (by lia)
   have cut1:fX (.list sg) none (some 1)=some (.list (sg.take 1)):=by
     show some (PyData.list (V1 sg none (some 1)))=_
     congr 2
     cases sg with
     | nil=>rfl
     | cons s r =>
       unfold V1 HT.sIx; simp
   have hint:Mg [.bool ys.isEmpty]=some (.int (if ys.isEmpty=true then 1 else 0)):=rfl
   have htup:∀ l,He [.list l]=some (.tuple l):=fun _=>rfl
   have hnew:iS 8 (G7 (fun δ=>((A0 (A2 5) A7) δ).bind Qc) Mi [0,1] (B2 (b2 (B4 (A0 (A2 2) (A0 (b2 (b2 (A2 3) (vC (.int 20)) C7) (A2 0) C7) (A0 (vC (.int 4)) A7))) A8) (vC (.int 0)) dEq)) (A2 1)) [.sh (scr ns),.sh (.int a),.sh (idP p),.sh (.tuple kn),.sh (.list [.str x,.str y,.str z]),.sh (.list sg),.sh (.int way),.un,.un,.un]=.nx [.sh (scr ns),.sh (.int a),.sh (idP p),.sh (.tuple kn),.sh (.list [.str x,.str y,.str z]),.sh (.list sg),.sh (.int way),.un,.sh (.list ys),.un]:=by
     unfold iS; rw [n1]; rfl
   have t2:(E5 (L9 (A0 (vC (.str "drop")) (A0 (A2 2) (A0 (vFn (A0 (b2 (A2 8) (b2 (vSl (A2 5) P1 (O5 (vC (.int 1)))) (vFn (A0 (b2 (A2 8) (D1 A7) dEq) A7) Mg) M3) C7) A7) He) A7))))) [.sh (scr ns),.sh (.int a),.sh (idP p),.sh (.tuple kn),.sh (.list [.str x,.str y,.str z]),.sh (.list sg),.sh (.int way),.un,.sh (.list ys),.un]=.rt (.tuple [.str "drop",idP p,.tuple (ys++ex)]):=by
     simp_arith [dEqL,hint,cut1,hmul,hadd,htup]
   rw [L4 ((O4 t1).trans ((C4 hnew).trans t2))]; refine ⟨_,rfl,ho,.inr (.inl ⟨_,rfl,fun s hs=>hsg s (exs.1.subset hs),?_,exs.2,hsr.sublist exs.1⟩)⟩
   rw [List.length_append]
   lia
 . have t1 : (Q1 (B2 (b2 (A2 6) (vC (.int 2)) (K5 .Lt))) (B2 (b2 (A2 5) (D1 A7) dNe))) [.sh (scr ns), .sh (.int a), .sh (idP p), .sh (.tuple kn), .sh (.list [.str x, .str y, .str z]), .sh (.list sg), .sh (.int way), .un, .un, .un] = .ok false := by
     by_cases h2:way < 2
     . have:sg=[]:=Classical.byContradiction fun z=>c1 ⟨h2,z⟩
       subst this; exact Wb (B8 (B0 rfl rfl (kG h2))) (B8 (B0 rfl rfl (vU [])))
     . exact Wc (B8 (B0 rfl rfl (kH h2)))
   rw [D7 t1]
   by_cases c2:way < 5
   . obtain ⟨s1,x1,f1,g1,l1⟩:=Tz ns hns (a+1) (SgOf p.1 kn) sg hsg hsl
     obtain ⟨s2,x2,f2,g2,l2⟩:=Tz ns hns (a+3) (SgOf p.1 kn) sg hsg hsl; have hadd:=Wn (x:=[.str "mark",idP p,.str q]) (y:=[.tuple [s1,.str x1],.tuple [s2,.str x2]]) (by simp)
     refine ⟨.tuple [.str "mark",idP p,.str q,.tuple [s1,.str x1],.tuple [s2,.str x2]],?_,ho,.inr (.inr (.inl ⟨q,s1,x1,s2,x2,rfl,g1,g2,hq,l1,l2⟩))⟩; exact Vr (L4 ((O4 (B8 (B0 rfl rfl (kG c2)))).trans ((C4 (F1 (R8 (A4 (B3 (A4 rfl (A4 (B0 rfl rfl X9) (A4 rfl rfl))) f1) (A4 (B3 (A4 rfl (A4 (B0 rfl rfl X9) (A4 rfl rfl))) f2) rfl))))).trans (C0 (B0 (R8 (A4 rfl (A4 rfl (A4 (B0 rfl (B3 (A4 rfl (A4 (B0 rfl rfl X9) (A4 rfl rfl))) e5) f5) rfl)))) rfl hadd)))))
   . by_cases c3:way=5
     . refine ⟨.tuple [.str "unmark",idP p,.str q],?_,ho,.inr (.inr (.inr (.inl ⟨q,rfl,hq⟩)))⟩
       rw [D7 (B8 (B0 rfl rfl (kH c2)))]; exact Vr (L4 ((O4 (B8 (B0 rfl rfl (by rw [Qi,c3]; rfl)))).trans (C0 (R8 (A4 rfl (A4 rfl (A4 (B0 rfl (B3 (A4 rfl (A4 (B0 rfl rfl X9) (A4 rfl rfl))) e5) f5) rfl)))))))
     . have c3':(way==5)=false:=by simpa using c3
       by_cases c4:way < 8/\kn≠[]
       . have hne:kn.isEmpty=false:=by cases kn with | nil=>exact absurd rfl c4.2 | cons _ _=>rfl
         have hpos:(0:Int) < kn.length:=by cases kn with | nil=>exact absurd rfl c4.2 | cons _ _=>simp
         obtain ⟨r6,e6,a6,b6⟩:=M4 ns hns (a+6) (kn.length:Int) hpos; obtain ⟨d,hd,f6⟩:=Nz (xs:=kn) a6 b6; obtain ⟨qi,f7,hu⟩:=hids d hd; have f6':dIx (.tuple kn) (.int r6)=some d:=f6; refine ⟨.tuple [.str "undo",idP p,idP qi],?_,ho,.inr (.inr (.inr (.inr ⟨_,rfl,hu⟩)))⟩; rw [D7 (B8 (B0 rfl rfl (kH c2))),D7 (B8 (B0 rfl rfl (by rw [Qi,c3'])))]
         exact Vr (L4 ((O4 (Wa (B8 (B0 rfl rfl (kG c4.1))) (B8 (B0 rfl rfl (by rw [pV,hne]; rfl))))).trans (C0 (R8 (A4 rfl (A4 rfl (A4 (B0 (B0 rfl (B3 (A4 rfl (A4 (B0 rfl rfl X9) (A4 (N0 (A4 rfl rfl) (lenT _)) rfl))) e6) f6') rfl f7) rfl)))))))
       . have t4 : (Q1 (B2 (b2 (A2 6) (vC (.int 8)) (K5 .Lt))) (B2 (b2 (A2 3) (L9 A7) dNe))) [.sh (scr ns), .sh (.int a), .sh (idP p), .sh (.tuple kn), .sh (.list [.str x, .str y, .str z]), .sh (.list sg), .sh (.int way), .un, .un, .un] = .ok false := by
           by_cases h2:way < 8
           . have:kn=[]:=Classical.byContradiction fun z=>c4 ⟨h2,z⟩
             subst this; exact Wb (B8 (B0 rfl rfl (kG h2))) (B8 (B0 rfl rfl (pV [])))
           . exact Wc (B8 (B0 rfl rfl (kH h2)))
         obtain ⟨w,ew2,wl⟩:=gN ns hns (a+8); have g1:=Kk (x:=[.none]) (y:=sg) (by simp; lia)
         have hc:fX (.list sg) (some (-3)) none=some (.list (V1 sg (some (-3)) none)):=rfl; have hcl:=Gc sg (some (-3)) none; have hcm:∀ s∈V1 sg (some (-3)) none,SgOf p.1 kn s:=fun s hs=>hsg s (gV hs)
         generalize V1 sg (some (-3)) none=ct at *
         have g2:=Kk (x:=[.none]++sg) (y:=ct) (by simp; lia)
         obtain ⟨r7,e7,a7,b7⟩:=M4 ns hns (a+7) ((sg.length:Int)+1+(ct.length:Int)) (by lia)
         obtain ⟨bh,hbh,f7⟩:=ixL (xs:=[.none]++sg++ct) a7 (by simp; lia)
         have hneg:Ka (.int 3)=some (.int (-3)):=rfl; have hb:OrN (SgOf p.1 kn) bh:=by
           rcases List.mem_append.mp hbh with h | h
           . rcases List.mem_append.mp h with h | h
             . exact .inl (List.mem_singleton.mp h)
             . exact .inr (hsg bh h)
           . exact .inr (hcm bh h)
         generalize [PyData.none]++sg=L1 at *
         generalize L1++ct=L2' at *
         refine ⟨.tuple [.str "add",idP p,bh,.str w],?_,ho,.inl ⟨bh,w,rfl,hb,wl⟩⟩; rw [D7 (B8 (B0 rfl rfl (kH c2))),D7 (B8 (B0 rfl rfl (by rw [Qi,c3']))),D7 t4]
         have sl:vSl (A2 5) (O5 (b1 (vC (.int 3)) Ka)) P1 [.sh (scr ns),.sh (.int a),.sh (idP p),.sh (.tuple kn),.sh (.list [.str x,.str y,.str z]),.sh (.list sg),.sh (.int way),.un,.un,.un]=.ok (.list ct):=W2 rfl rfl rfl hc; exact Vr ((C4 (F1 (B0 (B0 (B0 rfl rfl g1) sl g2) (B3 (A4 rfl (A4 (B0 rfl rfl X9) (A4 (B0 (B0 (N0 (A4 rfl rfl) (uN _)) rfl X9) (N0 (A4 sl rfl) (uN _)) X9) rfl))) e7) f7))).trans (C0 (R8 (A4 rfl (A4 rfl (A4 rfl (A4 (B3 (A4 rfl (A4 (B0 rfl rfl X9) rfl)) ew2) rfl)))))))
noncomputable def dE:Dn->Out:=(C5 (M1 7 (b2 (b2 (A2 5) (vC (.int 0)) dIx) (B4 (A0 (A2 0) (A0 (b2 (b2 (A2 1) (vC (.int 1)) C7) (b2 (vC (.int 60)) (A2 6) M3) C7) (A0 (vC (.int 2)) A7))) A8) C7)) (C5 (M1 8 (b2 (vC (.str "abc")) (B4 (A0 (A2 0) (A0 (b2 (b2 (A2 1) (vC (.int 2)) C7) (b2 (vC (.int 60)) (A2 6) M3) C7) (A0 (vC (.int 3)) A7))) A8) dIx)) (C5 (sIf (Q1 (B2 (b2 (A2 4) (L9 A7) dNe)) (B2 (b2 (L9 (A0 (A2 7) (A0 (A2 8) A7))) (A2 5) (K5 .LtE)))) (M1 7 (b2 (b2 (A2 5) (vC (.int 0)) dIx) (vC (.int 1)) C7)) F4) (C5 (M1 5 (L9 (A0 (A2 7) (A0 (A2 8) A7)))) (C5 (M1 9 (vFn (A0 (D1 (G7 (fun δ=>((A2 4) δ).bind J2) E9 [7] (B2 (b2 (b2 (b2 (A2 0) (vC (.int 1)) dIx) (vC (.int 0)) dIx) (A2 1) (K5 .Lt))) (A2 0))) A7) He)) (M1 4 (b2 (A2 4) (L9 (A0 (B4 (A0 (A2 0) (A0 (b2 (b2 (A2 1) (vC (.int 3)) C7) (b2 (vC (.int 60)) (A2 6) M3) C7) (A0 (A2 5) (A0 (A2 9) (A0 (A2 3) A7))))) N3) A7)) C7)))))))
theorem leS (h h':Str) (k:okH h) (k':okH h'):(h==h')=decide (hj h=hj h')/\aH .LtE h h'=decide (hj h<=hj h'):=by
 rcases k with rfl | rfl | rfl <;> rcases k' with rfl | rfl | rfl <;> exact ⟨by decide +kernel,by decide +kernel⟩
theorem leIdE {t t':Int} {h h':Str} (k:okH h) (k':okH h'):K5 .LtE (idD t h) (idD t' h')=some (.bool (decide (key (t,h)<=key (t',h')))):=by
 obtain ⟨e1,e2⟩:=leS h h' k k'
 have l1:=kW h
 have l2:=kW h'
 unfold K5 key
 rw [if_pos (Nat.le_trans (pL t h) (by decide))]
 show (Z4 .LtE [.int t,.str h] [.int t',.str h']).map PyData.bool=_
 simp only [Z4]
 have f1:PyData.eqv (.int t) (.int t')=(t==t'):=rfl
 have f2:PyData.eqv (.str h) (.str h')=(h==h'):=rfl
 rw [f1,f2,e1]
 by_cases c1:t=t'
 . subst c1
   rw [if_pos (by simp)]
   by_cases c2:hj h=hj h'
   . rw [if_pos (by simp [c2])]
     simp [Zg,c2]
   . rw [if_neg (by simp [c2])]
     show (some (aH .LtE h h')).map PyData.bool=_
     rw [e2]; simp only [Option.map_some]
     congr 3
     apply propext; lia
 . rw [if_neg (by simp [c1])]
   show (some (decide (t<=t'))).map PyData.bool=_
   simp only [Option.map_some]
   congr 3
   apply propext; lia
theorem Wf.id {p:IdP} {S:PyData->Prop} {U:IdP->Prop} {d:PyData} (w:Wf p S U d):dIx d (.int 1)=some (idP p):=by
 obtain ⟨_,hf⟩:=w
 rcases hf with ⟨_,_,q,_⟩ | ⟨_,q,_⟩ | ⟨_,_,_,_,_,q,_⟩ | ⟨_,q,_⟩ | ⟨_,q,_⟩ <;> rw [q] <;> exact P6 (j:=1) (by simp)
theorem ix0 (x:PyData) (xs:List PyData):dIx (.tuple (x::xs)) (.int 0)=some x:=P6 (xs:=x::xs) (j:=0) (by simp)
theorem abc {c:Nat} (h:c∈("abc" : Str).cps.toList):(⟨#[c]⟩:Str) = "a" \/ (⟨#[c]⟩:Str) = "b" \/ (⟨#[c]⟩:Str) = "c" := by
 have h':c∈[97,98,99]:=by
   have:("abc" : Str).cps.toList=[97,98,99]:=by decide
   rw [this] at h; exact h
 simp only [List.mem_cons,List.not_mem_nil,or_false] at h'
 rcases h' with rfl | rfl | rfl
 . exact .inl (by decide)
 . exact .inr (.inl (by decide))
 . exact .inr (.inr (by decide))
theorem pY {δc:Dn} {tt:Dn->Res Bool} (f:Dp->Bool):∀ L:List Dp,(∀ e∈L,tt ([.sh e.1]++δc)=.ok (f e))->F2 E9 δc tt (A2 0) (L.map (·.1))=.ok ((L.filter f).map (·.1)):=by
 intro iN; induction iN with
 | nil=>intro _; exact rfl
 | cons e L ih =>
   intro h; have h1:=h e (.head _); have ih:=ih fun e' he=>h e' (.tail _ he)
   rw [List.map_cons]; unfold F2; rw [show E9 e.1=.ok [.sh e.1] from rfl]
   simp only [h1,ih]
   cases hf:f e with
   | true=>rw [List.filter_cons_of_pos hf]; rfl
   | false=>rw [List.filter_cons_of_neg (by rw [hf]; decide)]
def Upk (L:List Dp):Prop:=L.Pairwise fun a b=>key a.2 < key b.2
def WfIn (L:List Dp) (e:Dp):Prop:=Wf e.2 (SgOf e.2.1 (L.map (·.1))) (fun q=>(∃ e'∈L,e'.2=q)/\q.1 < e.2.1) e.1
def BkW (L:List Dp):Prop:=(∀ e∈L,WfIn L e)/\Upk L
theorem WfIn.mono {L L':List Dp} {e:Dp} (h:WfIn L e) (k:∀ x∈L,x∈L'):WfIn L' e :=
 Wf.mono h (fun x hx=>hx.mono fun d hd=>by obtain ⟨y,hy,rfl⟩:=List.mem_map.mp hd; exact List.mem_map_of_mem (k y hy)) fun q hZ1=>by obtain ⟨⟨y,hy,e⟩,hq⟩:=hZ1; exact ⟨⟨y,k y hy,e⟩,hq⟩
theorem gG (ns:List Int) (hns:ns.length<=63) (x y z:Str) (hxyz:Cr x/\Cr y/\Cr z) (k:Int) (hk:0<=k) (hk2:k < 8) (j:Nat) (hj:j < 8) (L:List Dp) (hl:L.length=j) (hd:BkW L) (t:Int) (h:Str) (ht:1<=t) (ht2:t<=j+1) (hth:okH h) (s7 s8 s9:Sl) :
   ∃ (d:PyData) (t':Int) (h':Str) (s7' s8' s9':Sl),WfIn L (d,(t',h'))/\1<=t'/\t'<=((j+1:Nat):Int)+1/\okH h'/\(L=[]\/key (t,h) < key (t',h'))/\dE [.sh (scr ns),.sh (.int 10),.sh (.int 7),.sh (.list [.str x,.str y,.str z]),.sh (.tuple (L.map (·.1))),.sh (idD t h),.sh (.int k),s7,s8,s9]
     = .nx [.sh (scr ns),.sh (.int 10),.sh (.int 7),.sh (.list [.str x,.str y,.str z]),.sh (.tuple (L.map (·.1)++[d])),.sh (idD t' h'),.sh (.int k),s7',s8',s9']:=by
 obtain ⟨r1,e1,a1,b1⟩:=M4 ns hns (10+1+60*k) 2 (by decide)
 obtain ⟨r2,e2,a2,b2'⟩:=M4 ns hns (10+2+60*k) 3 (by decide)
 obtain ⟨c,hc,f2⟩:=kO (x := "abc") a2 (by have:("abc" : Str).cps.toList.length=3:=(by decide); rw [this]; exact b2')
 have hh:=abc hc
 generalize (⟨#[c]⟩:Str)=hd' at *
 have eb:=leIdE (t:=t+r1) (t':=t) (show okH hd' from hh) hth
 have go : ∀ tt : Int, 1 <= tt -> tt <= j + 2 -> ∃ d, WfIn L (d, (tt, hd')) /\ ∃ kn, (C5 (M1 5 (L9 (A0 (A2 7) (A0 (A2 8) A7)))) (C5 (M1 9 (vFn (A0 (D1 (G7 (fun δ => ((A2 4) δ).bind J2) E9 [7] (B2 (b2 (b2 (b2 (A2 0) (vC (.int 1)) dIx) (vC (.int 0)) dIx) (A2 1) (K5 .Lt))) (A2 0))) A7) He)) (M1 4 (b2 (A2 4) (L9 (A0 (B4 (A0 (A2 0) (A0 (b2 (b2 (A2 1) (vC (.int 3)) C7) (b2 (vC (.int 60)) (A2 6) M3) C7) (A0 (A2 5) (A0 (A2 9) (A0 (A2 3) A7))))) N3) A7)) C7))))
     [.sh (scr ns),.sh (.int 10),.sh (.int 7),.sh (.list [.str x,.str y,.str z]),.sh (.tuple (L.map (·.1))),.sh (idD t h),.sh (.int k),.sh (.int tt),.sh (.str hd'),s9]
     = .nx [.sh (scr ns),.sh (.int 10),.sh (.int 7),.sh (.list [.str x,.str y,.str z]),.sh (.tuple (L.map (·.1)++[d])),.sh (idD tt hd'),.sh (.int k),.sh (.int tt),.sh (.str hd'),.sh (.tuple kn)]:=fun tt h1 h2=>by
   have g1:=pY (δc:=[.sh (.int tt)]) (tt:=B2 (b2 (b2 (b2 (A2 0) (vC (.int 1)) dIx) (vC (.int 0)) dIx) (A2 1) (K5 .Lt))) (fun e=>decide (e.2.1 < tt)) L fun e he=>by
     have:=(hd.1 e he).id
     simp_arith [this,ix0,ltI]
   have fm:∀ e∈L.filter fun e=>decide (e.2.1 < tt),e∈L/\e.2.1 < tt:=fun e he=>by
     obtain ⟨m,q⟩:=List.mem_filter.mp he; exact ⟨m,of_decide_eq_true q⟩
   have fl:=List.length_filter_le (fun e:Dp=>decide (e.2.1 < tt)) L
   obtain ⟨d,ed,wd'⟩:=pR ns hns (S:=fun p=>SgOf p.1 (L.map (·.1))) (U:=fun p q=>(∃ e'∈L,e'.2=q)/\q.1 < p.1) (10+3+60*k) (tt,hd') ⟨h1,by simp only; lia,hh⟩ (L.filter fun e=>decide (e.2.1 < tt)) (fun e he=>⟨hd.1 e (fm e he).1,(fm e he).2⟩) (hd.2.filter _) (by lia) x y z hxyz
   have wd:WfIn L (d,(tt,hd')):=wd'.mono (fun x hx=>hx.mono fun q hq=>by obtain ⟨e,he,rfl⟩:=List.mem_map.mp hq; exact List.mem_map_of_mem (fm e he).1) fun q hZ1=>by obtain ⟨e,he,hq⟩:=hZ1; exact ⟨⟨e,(fm e he).1,hq⟩,hq▸(fm e he).2⟩
   have ll:(L.map (·.1)).length=j:=by rw [List.length_map]; exact hl
   generalize (L.filter fun e=>decide (e.2.1 < tt)).map (·.1)=kn at *
   refine ⟨d,wd,kn,?_⟩; have hadd:=Wn (x:=L.map (·.1)) (y:=[d]) (by simp; lia)
   have htup:He [.list kn]=some (.tuple kn):=rfl; rw [C4 (F1 (R8 (A4 rfl (A4 rfl rfl))))]; simp only [List.set_cons_zero,List.set_cons_succ]; rw [C4 (F1 (N0 (A4 (K6 (O6 (L3 rfl rfl) (by lia) rfl g1)) rfl) htup))]; simp only [List.set_cons_zero,List.set_cons_succ]
   simp_arith [X9,kA,ed,hadd]
 unfold dE
 rw [C4 (F1 (d:=.int (t+r1)) (by simp_arith [ix0,X9,kA,e1]))]
 simp only [List.set_cons_zero,List.set_cons_succ]
 rw [C4 (F1 (d:=.str hd') (by simp_arith [X9,kA,e2,f2]))]
 simp only [List.set_cons_zero,List.set_cons_succ]
 have hc1:∃ b,(b=false->L=[]\/key (t,h) < key (t+r1,hd'))/\(Q1 (B2 (b2 (A2 4) (L9 A7) dNe)) (B2 (b2 (L9 (A0 (A2 7) (A0 (A2 8) A7))) (A2 5) (K5 .LtE)))) [.sh (scr ns),.sh (.int 10),.sh (.int 7),.sh (.list [.str x,.str y,.str z]),.sh (.tuple (L.map (·.1))),.sh (idD t h),.sh (.int k),.sh (.int (t+r1)),.sh (.str hd'),s9]=.ok b:=by
   cases he:(L.map (·.1)).isEmpty with
   | true=>exact ⟨false,fun _=>.inl (by cases L with | nil=>rfl | cons _ _=>cases he),by simp_arith [pV,he,Bool.not_true]⟩
   | false=>exact ⟨decide (key (t+r1,hd')<=key (t,h)),fun z=>.inr (by have:=of_decide_eq_false z; lia),by simp_arith [pV,he,Bool.not_false,eb]⟩
 obtain ⟨b,hbk,hb⟩:=hc1
 cases b with
 | true =>
   obtain ⟨d,wd,kn,ek⟩:=go (t+1) (by lia) (by lia)
   refine ⟨d,t+1,hd',.sh (.int (t+1)),.sh (.str hd'),.sh (.tuple kn),wd,by lia,by lia,hh,.inr (by have:=kW h; unfold key; simp only; lia),?_⟩
   rw [C4 ((O4 hb).trans (F1 (d:=.int (t+1)) (by simp_arith [ix0,X9])))]
   simp only [List.set_cons_zero,List.set_cons_succ]; exact ek
 | false =>
   obtain ⟨d,wd,kn,ek⟩:=go (t+r1) (by lia) (by lia)
   refine ⟨d,t+r1,hd',.sh (.int (t+r1)),.sh (.str hd'),.sh (.tuple kn),wd,by lia,by lia,hh,hbk rfl,?_⟩
   rw [D7 hb]; exact ek
theorem BkW.snoc {L:List Dp} {d:PyData} {p q:IdP} (h:BkW L) (w:WfIn L (d,q)) (hk:∀ e∈L,key e.2<=key p) (hq:L=[]\/key p < key q):BkW (L++[(d,q)])/\∀ e∈L++[(d,q)],key e.2<=key q:=by
 have lt:∀ e∈L,key e.2 < key q:=fun e he=>by
   rcases hq with z | z
   . rw [z] at he; exact nomatch he
   . have:=hk e he; lia
 have up:∀ x∈L,x∈L++[(d,q)]:=fun x hx=>List.mem_append_left _ hx
 refine ⟨⟨fun e he=>?_,?_⟩,fun e he=>?_⟩
 . rcases List.mem_append.mp he with z | z
   . exact (h.1 e z).mono up
   . rw [List.mem_singleton.mp z]; exact w.mono up
 . exact List.pairwise_append.mpr ⟨h.2,List.pairwise_singleton _ _,fun a ha b hb=>by rw [List.mem_singleton.mp hb]; exact lt a ha⟩
 . rcases List.mem_append.mp he with z | z
   . exact Int.le_of_lt (lt e z)
   . rw [List.mem_singleton.mp z]; exact Int.le_refl _
theorem gH (ns:List Int) (hns:ns.length<=63) (x y z:Str) (hxyz:Cr x/\Cr y/\Cr z):∀ (l:List PyData),(∀ d∈l,∃ k:Int,d=.int k/\0<=k/\k < 8)->∀ (j:Nat) (L:List Dp) (t:Int) (h:Str) (s6 s7 s8 s9:Sl),j+l.length<=7->L.length=j->BkW L->(∀ e∈L,key e.2<=key (t,h))->1<=t->t<=j+1->okH h ->
   ∃ L' s5 s6' s7' s8' s9',BkW L'/\L'.length<=7/\P7 (st1 6) dE l [.sh (scr ns),.sh (.int 10),.sh (.int 7),.sh (.list [.str x,.str y,.str z]),.sh (.tuple (L.map (·.1))),.sh (idD t h),s6,s7,s8,s9]=.nx [.sh (scr ns),.sh (.int 10),.sh (.int 7),.sh (.list [.str x,.str y,.str z]),.sh (.tuple (L'.map (·.1))),s5,s6',s7',s8',s9']:=by
 intro iN; induction iN with
 | nil=>intro _ j L t h s6 s7 s8 s9 hj hl hd _ _ _ _; exact ⟨L,_,_,_,_,_,hd,by simp at hj; lia,rfl⟩
 | cons d0 l ih =>
   intro hk j L t h s6 s7 s8 s9 hj hl hd hb h1 h2 h3; obtain ⟨k,rfl,k0,k1⟩:=hk d0 (.head _); simp only [List.length_cons] at hj; obtain ⟨d,t',h',s7',s8',s9',wd,t1,t2,t3,kk,e⟩:=gG ns hns x y z hxyz k k0 k1 j (by lia) L hl hd t h h1 h2 h3 s7 s8 s9
   obtain ⟨hB,hB2⟩:=hd.snoc wd hb kk; obtain ⟨L',s5,s6',s7'',s8'',s9'',w',l',e'⟩:=ih (fun d hd=>hk d (.tail _ hd)) (j+1) (L++[(d,(t',h'))]) t' h' (.sh (.int k)) s7' s8' s9' (by lia) (by simp [hl]) hB hB2 t1 t2 t3
   refine ⟨L',s5,s6',s7'',s8'',s9'',w',l',?_⟩; unfold P7; simp only [st1,List.set_cons_zero,List.set_cons_succ]; rw [e]; rw [List.map_append] at e'; exact e'
theorem qD (ns:List Int) (hns:ns.length<=63) (x y z:Str) (hxyz:Cr x/\Cr y/\Cr z):∃ L,G6 [scr ns,.int 10,.int 7,.list [.str x,.str y,.str z]]=.ok (.tuple (L.map (·.1)))/\L.length<=7/\BkW L:=by
 obtain ⟨r,e,a,b⟩:=M4 ns hns 10 (7+1) (by decide)
 have hmem:∀ d∈U7 0 r,∃ k:Int,d=.int k/\0<=k/\k < 8:=fun d hd=>by
   unfold U7 at hd; obtain ⟨i,hi,rfl⟩:=List.mem_map.mp hd; have:=List.mem_range.mp hi; exact ⟨_,rfl,by lia,by lia⟩
 have hlen:(U7 0 r).length<=7:=by unfold U7; simp; lia
 obtain ⟨L,s5,s6,s7,s8,s9,w,l,e'⟩:=gH ns hns x y z hxyz (U7 0 r) hmem 0 [] 1 "a" .un .un .un .un (by lia) rfl ⟨(fun _ h=>nomatch h),.nil⟩ (fun _ h=>nomatch h) (by decide) (by decide) (.inl rfl)
 refine ⟨L,I8 ?_,l,w⟩
 unfold Cb Ar Aq Ap Ao Q4
 simp only [S9,List.map_cons,List.map_nil,List.length_cons,List.length_nil,List.replicate,List.cons_append,List.nil_append,Nat.reduceAdd,Nat.reduceSub]
 rw [C4 (F1 (d:=.tuple []) rfl),C4 (F1 (d:=idD 1 "a") rfl)]
 simp only [List.set_cons_zero,List.set_cons_succ]
 have hfor:Es (fun δ=>((A0 (B4 (A0 (A2 0) (A0 (A2 1) (A0 (b2 (A2 2) (vC (.int 1)) C7) A7))) A8) A7) δ).bind Ff) (st1 6) dE [.sh (scr ns),.sh (.int 10),.sh (.int 7),.sh (.list [.str x,.str y,.str z]),.sh (.tuple []),.sh (idD 1 "a"),.un,.un,.un,.un]=.nx [.sh (scr ns),.sh (.int 10),.sh (.int 7),.sh (.list [.str x,.str y,.str z]),.sh (.tuple (L.map (·.1))),s5,s6,s7,s8,s9]:=by
   unfold Es; have:=Um (fs:=A0 (B4 (A0 (A2 0) (A0 (A2 1) (A0 (b2 (A2 2) (vC (.int 1)) C7) A7))) A8) A7) (δ:=[.sh (scr ns),.sh (.int 10),.sh (.int 7),.sh (.list [.str x,.str y,.str z]),.sh (.tuple []),.sh (idD 1 "a"),.un,.un,.un,.un]) (n:=r) (by simp_arith [X9,e]) a (by lia)
   rw [this,Ch]; exact e'
 exact (C4 hfor).trans (C0 rfl)
theorem M0 {f g:Dn->Res PyData} {δ:Dn} {a b:Bool} (h1:f δ=.ok (.bool a)) (h2:a=true->g δ=.ok (.bool b)):O0 f g δ=.ok (.bool (a&&b)):=by
 cases a with
 | false=>exact sI _ _ _ h1
 | true=>rw [sH _ _ _ h1,h2 rfl]; rfl
theorem bX {f g:Dn->Res PyData} {δ:Dn} {a b:Bool} (h1:f δ=.ok (.bool a)) (h2:a=false->g δ=.ok (.bool b)):vOr f g δ=.ok (.bool (a||b)):=by
 cases a with
 | false=>unfold vOr; rw [h1,F7]; show g δ=_; rw [h2 rfl]; rfl
 | true=>unfold vOr; rw [h1,F7]; rfl
theorem Q6 {c c':Dn->Res Bool} {δ:Dn} {a b:Bool} (h1:c δ=.ok a) (h2:a=false->c' δ=.ok b):cOr c c' δ=.ok (a||b):=by
 cases a with
 | false=>unfold cOr; rw [h1,F7,if_neg (by decide),h2 rfl]; rfl
 | true=>unfold cOr; rw [h1,F7,if_pos rfl]; rfl
theorem L6 {c:Dn->Res Bool} {δ:Dn} {a:Bool} (h1:c δ=.ok a):L8 c δ=.ok (!a):=by unfold L8; rw [h1]; rfl
theorem Q0 {f:Dn->Res PyData} {op:PyData->Option PyData} {δ:Dn} {x d:PyData} (h1:f δ=.ok x) (h3:op x=some d):b1 f op δ=.ok d:=by unfold b1; rw [h1,F7,h3]; rfl
theorem ff {P:Prop} (h:false=true):P:=absurd h Bool.false_ne_true
noncomputable def mJ:PyData->Bool | .int _=>true | .bool _=>true | _=>false
noncomputable def tagB:PyData->Bool | .bool _=>true | _=>false
noncomputable def Ol:PyData->Bool | .str _=>true | _=>false
noncomputable def Im:PyData->Bool | .tuple _=>true | _=>false
theorem isI (d:PyData):K9 "int" d=mJ d:=by cases d <;> first | rfl | decide +kernel
theorem isB (d:PyData):K9 "bool" d=tagB d:=by cases d <;> first | rfl | decide +kernel
theorem isS (d:PyData):K9 "str" d=Ol d:=by cases d <;> first | rfl | decide +kernel
theorem isT (d:PyData):K9 "tuple" d=Im d:=by cases d <;> first | rfl | decide +kernel
noncomputable def whB (k:Int):PyData->Bool | .int a=>decide (k<=a) | _=>false
theorem Oc (d:PyData) (k:Int):W6 [d,.int k]=.ok (.bool (whB k d)):=by
 refine I8 (C0 ?_)
 show O0 _ _ [.sh d,.sh (.int k)]=_
 have h:=M0 (δ:=[.sh d,.sh (.int k)]) (a:=mJ d) (b:=whB k d) (f:=b1 (A2 0) fun d=>some (.bool (K9 "int" d))) (g:=O0 (b1 (b1 (A2 0) fun d=>some (.bool (K9 "bool" d))) lM) (b2 (A2 0) (A2 1) (T8 .GtE))) (Q0 rfl (by rw [isI])) fun z=>by
   have h2:=M0 (δ:=[.sh d,.sh (.int k)]) (a := !tagB d) (b:=whB k d) (f:=b1 (b1 (A2 0) fun d=>some (.bool (K9 "bool" d))) lM) (g:=b2 (A2 0) (A2 1) (T8 .GtE)) (Q0 (Q0 rfl (by rw [isB])) rfl) fun z2=>by
     cases d with
     | int a=>exact B0 rfl rfl rfl
     | _=>first | exact ff z | exact ff z2
   rw [h2]
   cases d <;> first | rfl | exact ff z
 rw [h]
 cases d <;> rfl
noncomputable def X5:PyData->Bool | .tuple [_,_]=>true | _=>false
theorem nP (d:PyData):R4 [d]=.ok (.bool (X5 d)):=by
 refine I8 (C0 ?_)
 show O0 _ _ [.sh d]=_
 have h:=M0 (δ:=[.sh d]) (a:=Im d) (b:=X5 d) (f:=b1 (A2 0) fun d=>some (.bool (K9 "tuple" d))) (g:=b2 (vFn (A0 (A2 0) A7) K4) (vC (.int 2)) dEq) (Q0 rfl (by rw [isT])) fun z=>by
   cases d with
   | tuple xs =>
     refine B0 (x:=.int (xs.length:Int)) (y:=.int 2) (N0 (A4 rfl rfl) rfl) rfl ?_; rw [Qi]
     match xs with
     | []=>rfl
     | [_]=>rfl
     | [_,_]=>rfl
     | _::_::_::r=>simp [X5]; lia
   | _=>exact ff z
 rw [h]
 cases d with
 | tuple xs=>rfl
 | _=>rfl
theorem Ue (x:Str):x.length=x.cps.toList.length:=by unfold Str.length; simp
theorem fL {x:Str} {y:Str} (hx:x.length=1):∃ c,x=⟨#[c]⟩:=by
 obtain ⟨⟨l⟩⟩:=x
 rw [Ue] at hx
 match l,hx with
 | [c],_=>exact ⟨c,rfl⟩
theorem oneM (c:Nat):Fk ⟨#[c]⟩ "abcdefgh" = (decide (97<=c)&&decide (c<=104)):=by
 unfold Fk
 rw [StrLaws.found_one]
 rw [show ("abcdefgh" : Str).cps.toList=List.range' 97 8 by decide,Bool.eq_iff_iff]
 simp only [List.contains_iff_mem,List.mem_range'_1,Bool.and_eq_true,decide_eq_true_eq]
 lia
theorem oneLR (c:Nat):Fk ⟨#[c]⟩ "lr" = (decide (c=108)||decide (c=114)):=by
 unfold Fk
 rw [StrLaws.found_one]
 have e:("lr" : Str).cps.toList=[108,114]:=by decide
 rw [e,Bool.eq_iff_iff]
 simp
noncomputable def Ps (x:Str):Bool:=match x.cps.toList with
 | [c]=>decide (c=108)||decide (c=114)
 | _=>false
noncomputable def stB (f:Str->Bool):PyData->Bool | .str x=>f x | _=>false
theorem not1 {x:Str} (h:(((x.length:Int)==1)=false)):∀ c,x.cps.toList≠[c]:=fun c e=>by
 rw [Ue,e] at h; simp at h
theorem Xv (d:PyData) (y:Str) (f:Str->Bool) (h0:∀ x:Str,(∀ c,x.cps.toList≠[c])->f x=false) (h1:∀ c,Fk ⟨#[c]⟩ y=f ⟨#[c]⟩):Q2 [d,.str y]=.ok (.bool (stB f d)):=by
 refine I8 (C0 ?_)
 have h:=M0 (δ:=[.sh d,.sh (.str y)]) (a:=Ol d) (b:=stB f d) (f:=b1 (A2 0) fun d=>some (.bool (K9 "str" d))) (g:=O0 (b2 (vFn (A0 (A2 0) A7) K4) (vC (.int 1)) dEq) (b2 (A2 0) (A2 1) (dIn false))) (Q0 rfl (by rw [isS])) fun z=>by
   cases d with
   | str x =>
     have h2:=M0 (δ:=[.sh (.str x),.sh (.str y)]) (a:=(x.length:Int)==1) (b:=stB f (.str x)) (f:=b2 (vFn (A0 (A2 0) A7) K4) (vC (.int 1)) dEq) (g:=b2 (A2 0) (A2 1) (dIn false)) (B0 (x:=.int (x.length:Int)) rfl rfl (Qi _ _)) fun z2=>by
       have hl : x.length = 1 := by have : (x.length : Int) = 1 := by simpa using z2
                                    lia
       obtain ⟨c,rfl⟩:=fL (y:=y) hl; refine B0 rfl rfl ?_; show some (PyData.bool (Fk _ y))=_
       rw [h1 c]; rfl
     rw [h2]
     cases q:(x.length:Int)==1 with
     | true=>rfl
     | false=>show _=Res.ok (PyData.bool (f x)); rw [h0 x (not1 q)]; rfl
   | _=>exact ff z
 refine Eq.trans h ?_
 cases d <;> rfl
theorem jS {x:Str} (h:∀ c,x.cps.toList≠[c]):okM x=false:=by
 unfold okM
 split
 . rename_i c e; exact absurd e (h c)
 . rfl
theorem eP {x:Str} (h:∀ c,x.cps.toList≠[c]):Ps x=false:=by
 unfold Ps
 split
 . rename_i c e; exact absurd e (h c)
 . rfl
theorem oX (d:PyData):Q2 [d,.str "abcdefgh"]=.ok (.bool (stB okM d)):=Xv d _ _ (fun _=>jS) fun c=>(oneM c).trans rfl
theorem mU (d:PyData):Q2 [d,.str "lr"]=.ok (.bool (stB Ps d)):=Xv d _ _ (fun _=>eP) fun c=>(oneLR c).trans rfl
noncomputable def pr (f g:PyData->Bool):PyData->Bool | .tuple [a,b]=>f a&&g b | _=>false
theorem aX (a b:PyData):dIx (.tuple [a,b]) (.int 0)=some a:=rfl
theorem Yi (a b:PyData):dIx (.tuple [a,b]) (.int 1)=some b:=rfl
theorem Jo {d:PyData} (h:X5 d=true):∃ a b,d=.tuple [a,b]:=by
 unfold X5 at h
 split at h
 . exact ⟨_,_,rfl⟩
 . cases h
theorem nH {f g:PyData->Bool} {d:PyData} (h:X5 d=false):pr f g d=false:=by
 unfold pr
 split
 . cases h
 . rfl
theorem jB {A B:Dn->Res PyData} (f g:PyData->Bool) (d:PyData) (h:∀ a b,d=.tuple [a,b]->A [.sh d]=.ok (.bool (f a))/\B [.sh d]=.ok (.bool (g b))):O0 (B4 (A0 (A2 0) A7) R4) (O0 A B) [.sh d]=.ok (.bool (pr f g d)):=by
 have h0:=M0 (δ:=[.sh d]) (a:=X5 d) (b:=pr f g d) (f:=B4 (A0 (A2 0) A7) R4) (g:=O0 A B) (B3 (A4 rfl rfl) (nP d)) fun z=>by
   obtain ⟨a,b,rfl⟩:=Jo z; obtain ⟨h1,h2⟩:=h a b rfl; exact M0 h1 fun _=>h2
 refine h0.trans ?_
 cases q:X5 d with
 | true=>rfl
 | false=>rw [nH q]; rfl
noncomputable def idB:PyData->Bool:=pr (whB 1) (stB okM)
noncomputable def sgB:PyData->Bool:=pr idB (whB 0)
noncomputable def onB (d:PyData):Bool:=isNone d||sgB d
noncomputable def anB:PyData->Bool:=pr onB (stB Ps)
theorem kR (d:PyData):E6 [d]=.ok (.bool (idB d)):=I8 (C0 (jB _ _ d fun a b e=>by
 subst e
 exact ⟨B3 (A4 (B0 rfl rfl (aX a b)) (A4 rfl rfl)) (Oc a 1),B3 (A4 (B0 rfl rfl (Yi a b)) (A4 rfl rfl)) (oX b)⟩))
theorem qR (d:PyData):P2 [d]=.ok (.bool (sgB d)):=I8 (C0 (jB _ _ d fun a b e=>by
 subst e
 exact ⟨B3 (A4 (B0 rfl rfl (aX a b)) rfl) (kR a),B3 (A4 (B0 rfl rfl (Yi a b)) (A4 rfl rfl)) (Oc b 0)⟩))
theorem rE (d:PyData):D2 [d]=.ok (.bool (onB d)):=I8 (C0 (bX (Q0 rfl rfl) fun _=>B3 (A4 rfl rfl) (qR d)))
theorem sA (d:PyData):N2 [d]=.ok (.bool (anB d)):=I8 (C0 (jB _ _ d fun a b e=>by
 subst e
 exact ⟨B3 (A4 (B0 rfl rfl (aX a b)) rfl) (rE a),B3 (A4 (B0 rfl rfl (Yi a b)) (A4 rfl rfl)) (mU b)⟩))
theorem Yq (d:PyData) (k:Int):F3 [d,.int k]=.ok (.bool (whB k d)):=Oc d k
theorem eqS (x y:Str):PyData.eqv (.str x) (.str y)=(x==y):=rfl
theorem str1 (x:Str) (c:Nat):((⟨#[c]⟩:Str)==x)=decide (x.cps.toList=[c]):=by
 obtain ⟨⟨l⟩⟩:=x
 rw [Bool.eq_iff_iff]
 simp
 exact eq_comm
theorem inT_M (x:Str):dIn false (.str x) (.tuple [.str "a",.str "b",.str "c",.str "d",.str "e",.str "f",.str "g",.str "h"])=some (.bool (okM x)):=by
 unfold dIn
 dsimp only
 rw [if_pos (by simp [PyData.depth,PyData.depthAll])]
 congr 2
 simp only [Bool.false_eq_true,if_false]
 simp only [List.any_cons,List.any_nil,eqS]
 rw [show ("a" : Str)=⟨#[97]⟩ by decide,show ("b" : Str)=⟨#[98]⟩ by decide,show ("c" : Str)=⟨#[99]⟩ by decide,show ("d" : Str)=⟨#[100]⟩ by decide,show ("e" : Str)=⟨#[101]⟩ by decide,show ("f" : Str)=⟨#[102]⟩ by decide,show ("g" : Str)=⟨#[103]⟩ by decide,show ("h" : Str)=⟨#[104]⟩ by decide]
 simp only [str1]
 unfold okM
 split
 . rename_i c e
   rw [e,Bool.eq_iff_iff]; simp; omega
 . rename_i h
   simp
   exact ⟨h _,h _,h _,h _,h _,h _,h _,h _⟩
theorem vB (x:Str):dIn true (.str x) (.tuple [.str "l",.str "r"])=some (.bool (!Ps x)):=by
 unfold dIn
 dsimp only
 rw [if_pos (by simp [PyData.depth,PyData.depthAll])]
 congr 2
 simp only [if_true]
 congr 1
 simp only [List.any_cons,List.any_nil,eqS]
 rw [show ("l" : Str)=⟨#[108]⟩ by decide,show ("r" : Str)=⟨#[114]⟩ by decide]
 simp only [str1]
 unfold Ps
 split
 . rename_i c e
   rw [e,Bool.eq_iff_iff]; simp
 . rename_i h
   simp
   exact ⟨h _,h _⟩
theorem dNeI (a b:Int):dNe (.int a) (.int b)=some (.bool (!(a==b))):=by
 unfold dNe
 rw [if_pos (by simp [PyData.depth])]; rfl
theorem uO (xs:List PyData):((xs.length:Int)==2)=X5 (.tuple xs):=by
 match xs with
 | []=>rfl
 | [_]=>rfl
 | [_,_]=>rfl
 | _::_::_::r=>simp [X5]; lia
theorem aW (d:PyData):D5 [d]=.ok (.bool (idB d)):=by
 refine I8 ?_
 have hc:cOr (L8 (B2 (b1 (A2 0) fun d=>some (.bool (K9 "tuple" d))))) (cOr (B2 (b2 (vFn (A0 (A2 0) A7) K4) (vC (.int 2)) dNe)) (L8 (B2 (B4 (A0 (b2 (A2 0) (vC (.int 0)) dIx) (A0 (vC (.int 1)) A7)) F3)))) [.sh d]=.ok (!pr (whB 1) (fun _=>true) d):=by
   have h:=Q6 (δ:=[.sh d]) (a := !Im d) (b := !pr (whB 1) (fun _=>true) d) (c:=L8 (B2 (b1 (A2 0) fun d=>some (.bool (K9 "tuple" d))))) (c':=cOr (B2 (b2 (vFn (A0 (A2 0) A7) K4) (vC (.int 2)) dNe)) (L8 (B2 (B4 (A0 (b2 (A2 0) (vC (.int 0)) dIx) (A0 (vC (.int 1)) A7)) F3)))) (L6 (B8 (Q0 rfl (by rw [isT])))) fun z=>by
     cases d with
     | tuple xs =>
       have h2:=Q6 (δ:=[.sh (.tuple xs)]) (a := !X5 (.tuple xs)) (b := !pr (whB 1) (fun _=>true) (.tuple xs)) (c:=B2 (b2 (vFn (A0 (A2 0) A7) K4) (vC (.int 2)) dNe)) (c':=L8 (B2 (B4 (A0 (b2 (A2 0) (vC (.int 0)) dIx) (A0 (vC (.int 1)) A7)) F3))) (B8 (B0 (x:=.int (xs.length:Int)) rfl rfl (by rw [dNeI,uO]))) fun z2=>by
         obtain ⟨a,b,e⟩:=Jo (d:=.tuple xs) (by simpa using z2)
         cases e; refine L6 (B8 (B3 (A4 (B0 rfl rfl (aX a b)) (A4 rfl rfl)) ((Yq a 1).trans ?_))); show _=Res.ok (PyData.bool (whB 1 a&&true))
         rw [Bool.and_true]
       rw [h2]
       cases q:X5 (.tuple xs) with
       | true=>rfl
       | false=>rw [nH q]; rfl
     | _=>cases z
   rw [h]
   cases d <;> rfl
 cases q:pr (whB 1) (fun _=>true) d with
 | false =>
   rw [q] at hc; refine (L4 ((O4 hc).trans (C0 rfl))).trans ?_; have:idB d=false:=by
     unfold idB pr at *
     split
     . rename_i a b; simp only [Bool.and_true] at q; rw [q]; rfl
     . rfl
   rw [this]
 | true =>
   rw [q] at hc; refine (C4 (R0 hc)).trans (C0 ?_); obtain ⟨a,b,rfl,ha⟩:∃ a b,d=.tuple [a,b]/\whB 1 a=true:=by
     unfold pr at q
     split at q
     . rename_i a b; exact ⟨a,b,rfl,by simpa using q⟩
     . cases q
   have h:=M0 (δ:=[.sh (.tuple [a,b])]) (a:=Ol b) (b:=stB okM b) (f:=b1 (b2 (A2 0) (vC (.int 1)) dIx) fun d=>some (.bool (K9 "str" d))) (g:=(b2 (b2 (A2 0) (vC (.int 1)) dIx) (L9 (A0 (vC (.str "a")) (A0 (vC (.str "b")) (A0 (vC (.str "c")) (A0 (vC (.str "d")) (A0 (vC (.str "e")) (A0 (vC (.str "f")) (A0 (vC (.str "g")) (A0 (vC (.str "h")) A7))))))))) (dIn false))) (Q0 (B0 rfl rfl (Yi a b)) (by rw [isS])) fun z=>by
     cases b with
     | str x=>exact B0 (B0 rfl rfl (Yi a _)) rfl (inT_M x)
     | _=>exact ff z
   refine h.trans ?_; show _=Res.ok (PyData.bool (whB 1 a&&stB okM b))
   rw [ha]
   cases b <;> rfl
theorem aV (d:PyData):D9 [d]=.ok (.bool (sgB d)):=by
 refine I8 (C0 ?_)
 have h:=M0 (δ:=[.sh d]) (a:=Im d) (b:=sgB d) (f:=b1 (A2 0) fun d=>some (.bool (K9 "tuple" d))) (g:=(O0 (b2 (vFn (A0 (A2 0) A7) K4) (vC (.int 2)) dEq) (O0 (B4 (A0 (b2 (A2 0) (vC (.int 0)) dIx) A7) D5) (B4 (A0 (b2 (A2 0) (vC (.int 1)) dIx) (A0 (vC (.int 0)) A7)) F3)))) (Q0 rfl (by rw [isT])) fun z=>by
   cases d with
   | tuple xs =>
     have h2:=M0 (δ:=[.sh (.tuple xs)]) (a:=X5 (.tuple xs)) (b:=sgB (.tuple xs)) (f:=b2 (vFn (A0 (A2 0) A7) K4) (vC (.int 2)) dEq) (g:=(O0 (B4 (A0 (b2 (A2 0) (vC (.int 0)) dIx) A7) D5) (B4 (A0 (b2 (A2 0) (vC (.int 1)) dIx) (A0 (vC (.int 0)) A7)) F3))) (B0 (x:=.int (xs.length:Int)) rfl rfl (by rw [Qi,uO])) fun z2=>by
       obtain ⟨a,b,e⟩:=Jo z2; cases e; exact M0 (B3 (A4 (B0 rfl rfl (aX a b)) rfl) (aW a)) fun _=>B3 (A4 (B0 rfl rfl (Yi a b)) (A4 rfl rfl)) (Yq b 0)
     rw [h2]
     cases q:X5 (.tuple xs) with
     | true=>rfl
     | false=>rw [show sgB (.tuple xs)=false from nH q]; rfl
   | _=>exact ff z
 refine h.trans ?_
 cases d <;> rfl
theorem kL (d:PyData):F8 [d]=.ok (.bool (anB d)):=by
 refine I8 ?_
 have hc:cOr (L8 (B2 (b1 (A2 0) fun d=>some (.bool (K9 "tuple" d))))) (B2 (b2 (vFn (A0 (A2 0) A7) K4) (vC (.int 2)) dNe)) [.sh d]=.ok (!X5 d):=by
   have h:=Q6 (δ:=[.sh d]) (a := !Im d) (b := !X5 d) (c:=L8 (B2 (b1 (A2 0) fun d=>some (.bool (K9 "tuple" d))))) (c':=(B2 (b2 (vFn (A0 (A2 0) A7) K4) (vC (.int 2)) dNe))) (L6 (B8 (Q0 rfl (by rw [isT])))) fun z=>by
     cases d with
     | tuple xs=>exact B8 (B0 (x:=.int (xs.length:Int)) rfl rfl (by rw [dNeI,uO]))
     | _=>cases z
   rw [h]
   cases d <;> rfl
 cases q:X5 d with
 | false =>
   rw [q] at hc; refine (L4 ((O4 hc).trans (C0 rfl))).trans ?_; rw [show anB d=false from nH q]
 | true =>
   rw [q] at hc; obtain ⟨a,b,rfl⟩:=Jo q; refine (C4 (R0 hc)).trans ?_; have hc2:cOr (L8 (B2 (b1 (b2 (A2 0) (vC (.int 1)) dIx) fun d=>some (.bool (K9 "str" d))))) (B2 (b2 (b2 (A2 0) (vC (.int 1)) dIx) (L9 (A0 (vC (.str "l")) (A0 (vC (.str "r")) A7))) (dIn true))) [.sh (.tuple [a,b])]=.ok (!stB Ps b):=by
     have h:=Q6 (δ:=[.sh (.tuple [a,b])]) (a := !Ol b) (b := !stB Ps b) (c:=L8 (B2 (b1 (b2 (A2 0) (vC (.int 1)) dIx) fun d=>some (.bool (K9 "str" d))))) (c':=(B2 (b2 (b2 (A2 0) (vC (.int 1)) dIx) (L9 (A0 (vC (.str "l")) (A0 (vC (.str "r")) A7))) (dIn true)))) (L6 (B8 (Q0 (B0 rfl rfl (Yi a b)) (by rw [isS])))) fun z=>by
       cases b with
       | str x=>exact B8 (B0 (B0 rfl rfl (Yi a _)) rfl (vB x))
       | _=>cases z
     rw [h]
     cases b <;> rfl
   cases q2:stB Ps b with
   | false =>
     rw [q2] at hc2; refine (L4 ((O4 hc2).trans (C0 rfl))).trans ?_; show _=Out.rt (PyData.bool (onB a&&stB Ps b))
     rw [q2,Bool.and_false]
   | true =>
     rw [q2] at hc2; refine (C4 (R0 hc2)).trans (C0 ?_); refine (bX (Q0 (B0 rfl rfl (aX a b)) rfl) fun _=>B3 (A4 (B0 rfl rfl (aX a b)) rfl) (aV a)).trans ?_
     show _=Res.ok (PyData.bool (onB a&&stB Ps b))
     rw [q2,Bool.and_true]; rfl
theorem leI (a b:Int):K5 .LtE (.int a) (.int b)=some (.bool (decide (a<=b))):=by
 unfold K5
 rw [if_pos (by simp [PyData.depth])]; rfl
theorem Ge {f g f':Dn->Res PyData} {op op':PyData->PyData->Option PyData} {δ:Dn} {x y z:PyData} {a b:Bool} (h1:f δ=.ok x) (h2:g δ=.ok y) (h3:f' δ=.ok z) (k1:op x y=some (.bool a)) (k2:op' y z=some (.bool b)):U2 f g f' op op' δ=.ok (.bool (a&&b)):=by
 unfold U2
 rw [h1,F7,h2,F7,k1,Xw,F7]
 cases a with
 | false=>rfl
 | true=>show (f' δ).bind _=_; rw [h3,F7,k2]; rfl
theorem bF {δc:Dn} {el:Dn->Res PyData} (f:PyData->Bool):∀ ds:List PyData,(∀ d∈ds,el ([.sh d]++δc)=.ok (.bool (f d)))->F2 E9 δc N7 el ds=.ok (ds.map fun d=>.bool (f d)):=by
 intro iN; induction iN with
 | nil=>intro _; exact rfl
 | cons d ds ih =>
   intro h; unfold F2; show (match el ([.sh d]++δc) with | .ok y=>_ | _=>_)=_
   rw [h d (.head _),ih fun x hx=>h x (.tail _ hx)]; rfl
theorem gF (f:PyData->Bool):∀ ds:List PyData,Gf (ds.map fun d=>.bool (f d))=some (ds.map f):=by
 intro iN; induction iN with
 | nil=>skip; exact rfl
 | cons d ds ih=>skip; show (Gf (ds.map fun d=>.bool (f d))).map _=_; rw [ih]; rfl
theorem Bv {src:Dn->Res (List PyData)} {cap:List Nat} {el:Dn->Res PyData} {δ δc:Dn} {ds:List PyData} (f:PyData->Bool) (h:src δ=.ok ds) (hl:ds.length<=1000) (hc:Cz δ cap=δc) (e:∀ d∈ds,el ([.sh d]++δc)=.ok (.bool (f d))):vFn (A0 (D1 (G7 src E9 cap N7 el)) A7) Kb δ=.ok (.bool (ds.all f)):=by
 refine N0 (A4 (K6 (O6 h hl hc (bF f ds e))) rfl) ?_
 show (Gf _).map _=_
 rw [gF]
 show some (PyData.bool ((ds.map f).all id))=_
 rw [List.all_map]; rfl
theorem Lk {δc:Dn} {tt:Dn->Res Bool} (f:PyData->Bool):∀ ds:List PyData,(∀ d∈ds,tt ([.sh d]++δc)=.ok (f d))->F2 E9 δc tt (A2 0) ds=.ok (ds.filter f):=by
 intro iN; induction iN with
 | nil=>intro _; exact rfl
 | cons d ds ih =>
   intro h; unfold F2; have ih:=ih fun x hx=>h x (.tail _ hx)
   show (match tt ([.sh d]++δc) with | .ok true=>_ | .ok false=>_ | _=>_)=_
   rw [h d (.head _)]
   cases q:f d with
   | false=>rw [List.filter_cons_of_neg (by simp [q])]; exact ih
   | true=>rw [List.filter_cons_of_pos q]; show (match F2 E9 δc tt (A2 0) ds with | .ok r=>Res.ok (d::r) | _=>.no)=_; rw [ih]
theorem Pt {src:Dn->Res (List PyData)} {cap:List Nat} {tt:Dn->Res Bool} {δ δc:Dn} {ds:List PyData} (f:PyData->Bool) (h:src δ=.ok ds) (hl:ds.length<=1000) (hc:Cz δ cap=δc) (e:∀ d∈ds,tt ([.sh d]++δc)=.ok (!f d)):b2 (D1 (G7 src E9 cap tt (A2 0))) (D1 A7) dEq δ=.ok (.bool (ds.all f)):=by
 refine B0 (K6 (O6 h hl hc (Lk (fun d => !f d) ds e))) rfl ?_
 rw [dEqL]
 congr 2
 rw [Bool.eq_iff_iff]; simp
theorem Jp {src:Dn->Res (List PyData)} {cap:List Nat} {tt:Dn->Res Bool} {δ δc:Dn} {ds:List PyData} (f:PyData->Bool) (h:src δ=.ok ds) (hl:ds.length<=1000) (hc:Cz δ cap=δc) (e:∀ d∈ds,tt ([.sh d]++δc)=.ok (!f d)):b2 (D1 (G7 src E9 cap tt (A2 0))) (D1 A7) dNe δ=.ok (.bool (!ds.all f)):=by
 refine B0 (K6 (O6 h hl hc (Lk (fun d => !f d) ds e))) rfl ?_
 rw [vU]
 congr 3
 rw [Bool.eq_iff_iff]; simp
theorem le1 (a b:Nat):K5 .LtE (.str ⟨#[a]⟩) (.str ⟨#[b]⟩)=some (.bool (decide (a<=b))):=by
 unfold K5
 rw [if_pos (by simp [PyData.depth])]
 show some (PyData.bool (!decide ([b] < [a])))=_
 congr 2
 rw [Bool.eq_iff_iff]; simp [List.cons_lt_cons_iff]
noncomputable def lnB (n:Int):PyData->Bool | .str x=>decide (1<=(x.length:Int))&&decide ((x.length:Int)<=n) | _=>false
noncomputable def ltB (n:Int):PyData->Bool | .tuple x=>decide (1<=(x.length:Int))&&decide ((x.length:Int)<=n) | _=>false
theorem aG {f g:Dn->Res PyData} {δ:Dn} {d:PyData} {n:Int} (h:f δ=.ok d) (h2:g δ=.ok (.int n)):cOr (L8 (B2 (b1 f fun d=>some (.bool (K9 "str" d))))) (L8 (B2 (U2 (vC (.int 1)) (vFn (A0 f A7) K4) g (K5 .LtE) (K5 .LtE)))) δ=.ok (!lnB n d):=by
 refine (Q6 (a := !Ol d) (b := !lnB n d) (L6 (B8 (Q0 h (by rw [isS])))) fun z=>?_).trans ?_
 . cases d with
   | str x=>exact L6 (B8 (Ge (y:=.int (x.length:Int)) rfl (N0 (A4 h rfl) rfl) h2 (leI _ _) (leI _ _)))
   | _=>cases z
 . cases d <;> rfl
theorem gW {f g:Dn->Res PyData} {δ:Dn} {d:PyData} {n:Int} (h:f δ=.ok d) (h2:g δ=.ok (.int n)):cOr (L8 (B2 (b1 f fun d=>some (.bool (K9 "tuple" d))))) (L8 (B2 (U2 (vC (.int 1)) (vFn (A0 f A7) K4) g (K5 .LtE) (K5 .LtE)))) δ=.ok (!ltB n d):=by
 refine (Q6 (a := !Im d) (b := !ltB n d) (L6 (B8 (Q0 h (by rw [isT])))) fun z=>?_).trans ?_
 . cases d with
   | tuple x=>exact L6 (B8 (Ge (y:=.int (x.length:Int)) rfl (N0 (A4 h rfl) rfl) h2 (leI _ _) (leI _ _)))
   | _=>cases z
 . cases d <;> rfl
theorem W7 {c:Dn->Res Bool} {g:Dn->Out} {δ:Dn} {a b:Bool} (h:c δ=.ok (!a)) (h2:a=true->g δ=.rt (.bool b)):C5 (sIf c (E5 (vC (.bool false))) F4) g δ=.rt (.bool (a&&b)):=by
 cases a with
 | false=>exact L4 ((O4 h).trans (C0 rfl))
 | true=>exact (C4 (R0 h)).trans (h2 rfl)
noncomputable def inB (lo hi c:Nat):Bool:=decide (lo<=c)&&decide (c<=hi)
noncomputable def chB (lo hi:Nat):PyData->Bool | .str s=>inB lo hi (s.cps.toList.headD 0) | _=>false
noncomputable def txS (n:Int) (lo hi:Nat) (x:Str):Bool:=lnB n (.str x)&&x.cps.toList.all (inB lo hi)
theorem Kw (lo hi:Nat) (x:Str):(Au x).all (chB lo hi)=x.cps.toList.all (inB lo hi):=by
 unfold Au; rw [List.all_map]; rfl
theorem Kv {x:Str} {n:Int} (h:lnB n (.str x)=true) (hn:n<=400):(Au x).length<=1000:=by
 unfold lnB at h
 simp only [Bool.and_eq_true,decide_eq_true_eq] at h
 unfold Au; rw [List.length_map,<- Ue]; omega
theorem Vl {n:Int} {d:PyData} (h:lnB n d=true):∃ x,d=.str x:=by cases d <;> first | exact ⟨_,rfl⟩ | cases h
theorem Vj {n:Int} {d:PyData} (h:ltB n d=true):∃ x,d=.tuple x:=by cases d <;> first | exact ⟨_,rfl⟩ | cases h
theorem Vk {x:List PyData} {n:Int} (h:ltB n (.tuple x)=true):1<=x.length/\(x.length:Int)<=n:=by
 unfold ltB at h
 simp only [Bool.and_eq_true,decide_eq_true_eq] at h
 omega
noncomputable def allS (lo hi:Nat):PyData->Bool | .str x=>x.cps.toList.all (inB lo hi) | _=>false
theorem Zi (n:Int) (lo hi:Nat) (d:PyData):(lnB n d&&allS lo hi d)=stB (txS n lo hi) d:=by cases d <;> rfl
theorem cC (d:PyData) (n:Int) (lo hi:Nat) (hn:n<=400):Z9 [d,.int n,.str ⟨#[lo]⟩,.str ⟨#[hi]⟩]=.ok (.bool (stB (txS n lo hi) d)):=by
 refine I8 ?_
 rw [<- Zi]
 refine W7 (aG rfl rfl) fun z=>C0 ?_
 obtain ⟨x,rfl⟩:=Vl z
 refine (Bv (δc:=[.sh (.str ⟨#[lo]⟩),.sh (.str ⟨#[hi]⟩)]) (chB lo hi) (L3 rfl rfl) (Kv z hn) rfl fun d hd=>?_).trans ?_
 . unfold Au at hd
   obtain ⟨c,_,rfl⟩:=List.mem_map.mp hd; exact Ge rfl rfl rfl (le1 _ _) (le1 _ _)
 . rw [Kw]; rfl
theorem cR (d:PyData):P9 [d]=.ok (.bool (stB (txS 6 97 122) d)):=I8 (C0 (B3 (A4 rfl (A4 rfl (A4 rfl (A4 rfl rfl)))) (cC d 6 97 122 (by decide))))
theorem lU (d:PyData):K0 [d]=.ok (.bool (stB (txS 20 32 126) d)):=I8 (C0 (B3 (A4 rfl (A4 rfl (A4 rfl (A4 rfl rfl)))) (cC d 20 32 126 (by decide))))
theorem oneAZ (c:Nat):Fk ⟨#[c]⟩ "abcdefghijklmnopqrstuvwxyz" = inB 97 122 c:=by
 unfold Fk inB
 rw [StrLaws.found_one]
 rw [show ("abcdefghijklmnopqrstuvwxyz" : Str).cps.toList=List.range' 97 26 by decide,Bool.eq_iff_iff]
 simp only [List.contains_iff_mem,List.mem_range'_1,Bool.and_eq_true,decide_eq_true_eq]
 omega
theorem Yf (d:PyData):J3 [d,.str "abcdefghijklmnopqrstuvwxyz",.int 6]=.ok (.bool (stB (txS 6 97 122) d)):=by
 refine I8 ?_
 rw [<- Zi]
 refine W7 (aG rfl rfl) fun z=>C0 ?_
 obtain ⟨x,rfl⟩:=Vl z
 refine (Pt (δc:=[.sh (.str "abcdefghijklmnopqrstuvwxyz")]) (chB 97 122) (L3 rfl rfl) (Kv z (by decide)) rfl fun d hd=>?_).trans ?_
 . unfold Au at hd
   obtain ⟨c,_,rfl⟩:=List.mem_map.mp hd; refine B8 (B0 rfl rfl ?_); show some (PyData.bool (!Fk ⟨#[c]⟩ _))=_
   rw [oneAZ]; rfl
 . rw [Kw]; rfl
noncomputable def upB {α:Type} (rk:α->Int):List α->Bool
 | a::b::r=>decide (rk a < rk b)&&upB rk (b::r)
 | _=>true
noncomputable section
variable {α:Type} {rk:α->Int}
theorem Uc:∀ l:List α,upB rk l=true↔l.Pairwise (fun a b=>rk a < rk b)
 | []=>by simp [upB]
 | [a]=>by simp [upB]
 | a::b::r=>by
   unfold upB; rw [Bool.and_eq_true,Uc (b::r),decide_eq_true_eq,List.pairwise_cons (a:=a)]; refine ⟨fun h=>⟨fun x hx=>?_,h.2⟩,fun h=>⟨h.1 b (.head _),h.2⟩⟩
   rcases List.mem_cons.mp hx with rfl | hx
   . exact h.1
   . exact Int.lt_trans h.1 ((List.pairwise_cons.mp h.2).1 x hx)
noncomputable def ups (rk:α->Int) (ps:List α) (k:Nat):Bool:=match ps[k]?,ps[k+1]? with
 | some a,some b=>decide (rk a < rk b)
 | _,_=>true
theorem bY:∀ ps:List α,(List.range (ps.length - 1)).all (ups rk ps)=upB rk ps
 | []=>rfl
 | [a]=>rfl
 | a::b::r=>by
   have ih:=bY (b::r); show (List.range (r.length+1)).all _=_
   rw [List.range_succ_eq_map,List.all_cons,List.all_map]; have e:(ups rk (a::b::r)∘Nat.succ)=ups rk (b::r):=by funext k; rfl
   rw [e]; show (_&&(List.range ((b::r).length - 1)).all _)=_
   rw [ih]; rfl
structure Fm {α:Type} [DecidableEq α] (dt:α->PyData) (ok:α->Bool) (rk:α->Int):Prop where
 eq:∀ p q,PyData.eqv (dt p) (dt q)=decide (p=q)
 cmp:∀ p q,ok p=true->ok q=true->Nb .Lt (dt p) (dt q)=some (decide (rk p < rk q))
 dep:∀ p,(dt p).depth<=4
 inj:∀ p q,ok p=true->ok q=true->rk p=rk q->p=q
variable [DecidableEq α] {dt:α->PyData} {ok:α->Bool}
theorem Fm.all (F:Fm dt ok rk):∀ ps qs:List α,PyData.eqvAll (ps.map dt) (qs.map dt)=decide (ps=qs)
 | [],[]=>rfl
 | [],_::_=>rfl
 | _::_,[]=>rfl
 | p::ps,q::qs=>by
   show (PyData.eqv (dt p) (dt q)&&PyData.eqvAll (ps.map dt) (qs.map dt))=_
   rw [F.eq,F.all ps qs,Bool.eq_iff_iff]; simp
theorem Fm.deps (F:Fm dt ok rk):∀ ps:List α,PyData.depthAll (ps.map dt)<=4
 | []=>Nat.zero_le _
 | p::ps=>by
   show max (dt p).depth (PyData.depthAll (ps.map dt))<=4
   have:=F.dep p; have:=F.deps ps; lia
theorem Fm.srt (F:Fm dt ok rk) (ps:List α) (hok:∀ p∈ps,ok p=true):dEq (.list (ps.map dt)) (.list ((Bp rk (Hy ps)).map dt))=some (.bool (upB rk ps)):=by
 unfold dEq
 rw [if_pos (Nat.le_trans (Nat.min_le_left _ _) (by show PyData.depthAll _+1<=64; have:=F.deps ps; lia))]
 show some (PyData.bool (PyData.eqvAll _ _))=_
 rw [F.all]
 congr 2
 rw [Bool.eq_iff_iff,decide_eq_true_eq,Uc]
 have rknd:∀ l:List α,l.Nodup->(∀ p∈l,ok p=true)->(l.map rk).Nodup:=fun l h1 h2=>by
   rw [List.Nodup,List.pairwise_map]; refine (List.pairwise_iff_getElem.mpr fun i j a1 a2 hij e=>?_)
   have:=(List.getElem_inj (h₀:=a1) (h₁:=a2) h1).mp (F.inj _ _ (h2 _ (List.getElem_mem a1)) (h2 _ (List.getElem_mem a2)) e)
   lia
 have hs:=Jd (rk:=rk) _ (rknd _ (Jw ps) fun p h=>hok p (Jx.mp h))
 refine ⟨fun h=>by rw [h]; exact hs,fun h=>?_⟩
 have hn:ps.Nodup:=h.imp fun {a b} hab e=>by rw [e] at hab; exact Int.lt_irrefl _ hab
 have hp:ps.Perm (Hy ps):=(List.perm_ext_iff_of_nodup hn (Jw ps)).mpr fun a=>Jx.symm
 exact Il (hp.trans (As _).symm) h hs
theorem Fm.lt (F:Fm dt ok rk) {p q:α} (h:ok p=true) (h':ok q=true):K5 .Lt (dt p) (dt q)=some (.bool (decide (rk p < rk q))):=by
 unfold K5
 rw [if_pos (by have:=F.dep p; lia),F.cmp p q h h']; rfl
theorem qU {b:Bool} {ds:List PyData} {k:Nat} {d:PyData} (h:ds[k]? = some d):dIx (Uq b ds) (.int (k:Int))=some d:=by
 obtain ⟨h1,h2⟩:=List.getElem?_eq_some_iff.mp h
 have:=P6 (xs:=ds) (j:=k) h1
 rw [h2] at this
 cases b <;> exact this
theorem Fm.rising (F:Fm dt ok rk) (b:Bool) (ps:List α) (hok:∀ p∈ps,ok p=true) (hl:ps.length<=400):N1 [Uq b (ps.map dt)]=.ok (.bool (upB rk ps)):=by
 refine I8 (C0 ?_)
 let f:PyData->Bool:=fun d=>match d with | .int k=>ups rk ps k.toNat | _=>false
 have hsrc:(fun δ=>((A0 (b2 (vFn (A0 (A2 0) A7) K4) (vC (.int 1)) Jz) A7) δ).bind Ff) [.sh (Uq b (ps.map dt))]=.ok (U7 0 ((ps.length:Int) - 1)):=by
   have h1:(A0 (b2 (vFn (A0 (A2 0) A7) K4) (vC (.int 1)) Jz) A7) [.sh (Uq b (ps.map dt))]=.ok [.int ((ps.length:Int) - 1)]:=A4 (B0 (x:=.int (ps.length:Int)) (N0 (A4 rfl rfl) (by cases b <;> simp [Uq,K4])) rfl rfl) rfl
   show Res.bind _ Ff=_
   rw [h1,F7]; show (if _ then _ else _)=_
   rw [if_pos (by lia)]
 have hlen:(U7 0 ((ps.length:Int) - 1)).length<=1000:=by unfold U7; simp; lia
 refine (Bv (δc:=[.sh (Uq b (ps.map dt))]) f hsrc hlen rfl fun d hd=>?_).trans ?_
 . unfold U7 at hd
   obtain ⟨i,hi,rfl⟩:=List.mem_map.mp hd; have hi':=List.mem_range.mp hi; have g1:i < ps.length:=by lia
   have g2:i+1 < ps.length:=by lia
   have z:(0:Int)+(i:Int)=(i:Int):=by lia
   have e1:(ps.map dt)[i]? = some (dt ps[i]):=by simp [g1]
   have e2:(ps.map dt)[i+1]? = some (dt ps[i+1]):=by simp [g2]
   rw [z]; have ef:f (.int (i:Int))=decide (rk ps[i] < rk ps[i+1]):=by
     show ups rk ps i=_
     unfold ups; rw [List.getElem?_eq_getElem g1,List.getElem?_eq_getElem g2]
   rw [ef]; exact B0 (B0 rfl rfl (qU e1)) (B0 (y:=.int ((i+1:Nat):Int)) rfl (B0 rfl rfl X9) (qU e2)) (F.lt (hok _ (List.getElem_mem g1)) (hok _ (List.getElem_mem g2)))
 . unfold U7
   rw [List.all_map,<- bY,show ((ps.length:Int) - 1 - 0).toNat=ps.length - 1 by lia]
   congr 3
   funext i
   show ups rk ps ((0:Int)+(i:Int)).toNat=_
   rw [show ((0:Int)+(i:Int)).toNat=i by lia]
end
theorem fmI:Fm id3 (fun p=>okM p.2) rk8 where
 eq p q:=by
   show ((p.1==q.1)&&((p.2==q.2)&&true))=_
   rw [Bool.eq_iff_iff]; simp [Prod.ext_iff]
 cmp p q h h':=wA h h'
 dep p:=by simp [PyData.depth,PyData.depthAll]
 inj p q h h' e:=Jl h h' e
theorem fmS:Fm sg3 Ei Ba where
 eq p q:=by
   show (((p.1.1==q.1.1)&&((p.1.2==q.1.2)&&true))&&((p.2==q.2)&&true))=_
   rw [Bool.eq_iff_iff]; simp [Prod.ext_iff]
 cmp p q h h':=by
   obtain ⟨a1,a2,a3⟩:=Bc h; obtain ⟨b1,b2,b3⟩:=Bc h'; show Z4 .Lt [id3 p.1,.int p.2] [id3 q.1,.int q.2]=_
   unfold Z4; rw [fmI.eq]
   by_cases c:p.1=q.1
   . rw [if_pos (decide_eq_true c)]
     unfold Z4; rw [show PyData.eqv (.int p.2) (.int q.2)=(p.2==q.2) from rfl]; unfold Ba; rw [c]
     by_cases c2:p.2=q.2
     . rw [if_pos (by simp [c2])]
       unfold Z4; show some (decide (0 < 0))=_
       congr 1
       rw [Bool.eq_iff_iff]; simp [c2]
     . rw [if_neg (by simp [c2])]
       show some (decide (p.2 < q.2))=_
       congr 1
       rw [Bool.eq_iff_iff]; simp
   . rw [if_neg (by simp [c]),wA a1 b1]
     have hne:rk8 p.1≠rk8 q.1:=fun e=>c (Jl a1 b1 e)
     unfold Ba
     congr 1
     rw [Bool.eq_iff_iff,decide_eq_true_eq,decide_eq_true_eq]
     lia
 dep p:=by simp [PyData.depth,PyData.depthAll]
 inj p q h h' e:=Xo h h' e
theorem Ta {f g:PyData->Bool} {d:PyData} (h:pr f g d=true):∃ a b,d=.tuple [a,b]/\f a=true/\g b=true:=by
 unfold pr at h
 split at h
 . rw [Bool.and_eq_true] at h; exact ⟨_,_,rfl,h⟩
 . cases h
theorem gO {k:Int} {d:PyData} (h:whB k d=true):∃ a:Int,d=.int a/\k<=a:=by
 cases d with
 | int a=>exact ⟨a,rfl,of_decide_eq_true h⟩
 | _=>cases h
theorem Pc {f:Str->Bool} {d:PyData} (h:stB f d=true):∃ x,d=.str x/\f x=true:=by
 cases d with
 | str a=>exact ⟨a,rfl,h⟩
 | _=>cases h
theorem aZ {d:PyData} (h:idB d=true):∃ p:IdP,d=id3 p/\okM p.2=true/\1<=p.1:=by
 obtain ⟨a,b,rfl,h1,h2⟩:=Ta h
 obtain ⟨t,rfl,ht⟩:=gO h1
 obtain ⟨x,rfl,hx⟩:=Pc h2
 exact ⟨(t,x),rfl,hx,ht⟩
def gdS (p:Sg):Prop:=okM p.1.2=true/\1<=p.1.1/\0<=p.2
theorem Zx {d:PyData} (h:sgB d=true):∃ p:Sg,d=sg3 p/\gdS p:=by
 obtain ⟨a,b,rfl,h1,h2⟩:=Ta h
 obtain ⟨p,rfl,hp⟩:=aZ h1
 obtain ⟨n,rfl,hn⟩:=gO h2
 exact ⟨(p,n),rfl,hp.1,hp.2,hn⟩
def SzS (ds:List PyData):Prop:=ds.length < 64/\∀ a n,PyData.tuple [a,.int n]∈ds->n < 1000000
noncomputable def sgP:PyData->Sg
 | .tuple [.tuple [.int t,.str h],.int n]=>((t,h),n)
 | _=>((0, ""),0)
theorem Zw:∀ ds:List PyData,ds.all sgB=true->(ds.map sgP).map sg3=ds/\∀ p∈ds.map sgP,gdS p:=by
 intro iN; induction iN with
 | nil=>intro _; exact ⟨rfl,fun _ h=>nomatch h⟩
 | cons d ds ih =>
   intro h; rw [List.all_cons,Bool.and_eq_true] at h; obtain ⟨p,rfl,hp⟩:=Zx h.1; obtain ⟨e,k⟩:=ih h.2; refine ⟨by rw [List.map_cons,List.map_cons,e]; rfl,fun q hq=>?_⟩
   rcases List.mem_cons.mp hq with rfl | hq
   . exact hp
   . exact k q hq
theorem Zv {ds:List PyData} (h:ds.all sgB=true) (z:SzS ds):∀ p∈ds.map sgP,Ei p=true:=fun p hp=>by
 obtain ⟨e,k⟩:=Zw ds h
 obtain ⟨k1,k2,k3⟩:=k p hp
 have:p.2 < 1000000:=z.2 (id3 p.1) p.2 (by rw [<- e]; exact List.mem_map_of_mem (f:=sg3) hp)
 unfold Ei
 rw [k1,decide_eq_true k3,decide_eq_true this]; rfl
def SzP (d:PyData):Prop:=∀ ds,d=.tuple ds->SzS ds
noncomputable def drI:PyData->Bool | .tuple ds=>ds.all sgB&&upB Ba (ds.map sgP) | _=>false
noncomputable def drB (d:PyData):Bool:=ltB 400 d&&drI d
theorem bC (d:PyData) (z:SzP d):M9 [d]=.ok (.bool (drB d)):=by
 refine I8 ?_
 refine W7 (gW rfl rfl) fun k=>C0 ?_
 obtain ⟨ds,rfl⟩:=Vj k
 obtain ⟨l1,l2⟩:=Vk k
 refine M0 (Bv sgB (L3 rfl rfl) (by lia) rfl fun d hd=>B3 (A4 rfl rfl) (qR d)) fun a=>B3 (A4 rfl rfl) ?_
 have:=fmS.rising true (ds.map sgP) (Zv a (z ds rfl)) (by rw [List.length_map]; lia)
 rw [(Zw ds a).1] at this
 exact this
theorem Ua {α:Type} {f:PyData->Option α} {dt:α->PyData}:∀ ps:List α,(∀ p∈ps,f (dt p)=some p)->Qv f (ps.map dt)=some ps:=by
 intro iN; induction iN with
 | nil=>intro _; exact rfl
 | cons p ps ih =>
   intro h; show (f (dt p)).bind _=_
   rw [h p (.head _)]; show (Qv f (ps.map dt)).map (p::·)=_
   rw [ih fun q hq=>h q (.tail _ hq)]; rfl
theorem sK_sg {ps:List Sg} (hn:ps≠[]) (hl:ps.length < 64) (h:∀ p∈ps,Ei p=true):sK (ps.map sg3)=some (.list ((Bp Ba (Hy ps)).map sg3)):=by
 unfold sK
 rw [if_pos (by rw [List.length_map]; exact hl)]
 cases ps with
 | nil=>exact absurd rfl hn
 | cons p r =>
   have e1:Qv kT ((p::r).map sg3)=none:=rfl; rw [e1]; dsimp only; rw [Ua (dt:=sg3) (p::r) fun q hq=>by show (if Ei q=true then some q else none)=_; rw [if_pos (h q hq)]]
theorem sK_id {ps:List IdP} (hl:ps.length < 64) (h:∀ p∈ps,okM p.2=true):sK (ps.map id3)=some (.list ((Bp rk8 (Hy ps)).map id3)):=by
 unfold sK
 rw [if_pos (by rw [List.length_map]; exact hl),Ua (dt:=id3) ps fun q hq=>by show (if okM q.2=true then some q else none)=_; rw [if_pos (h q hq)]]
noncomputable def W (y:Str):PyData->Bool:=stB (· == y)
theorem eqvW (d:PyData) (y:Str):PyData.eqv d (.str y)=W y d:=by cases d <;> rfl
theorem vV (d:PyData) (y:Str):dEq d (.str y)=some (.bool (W y d)):=by
 unfold dEq
 rw [if_pos (Nat.le_trans (Nat.min_le_right _ _) (by simp [PyData.depth])),eqvW]
noncomputable def l1 (f:PyData->Bool):List PyData->Bool | [a]=>f a | _=>false
noncomputable def l2 (f g:PyData->Bool):List PyData->Bool | [a,b]=>f a&&g b | _=>false
noncomputable def l3 (f g h:PyData->Bool):List PyData->Bool | [a,b,c]=>f a&&(g b&&h c) | _=>false
noncomputable def nmB:PyData->Bool:=stB (txS 6 97 122)
noncomputable def adB:PyData->Bool:=stB (txS 20 32 126)
noncomputable def fmB (w:PyData) (xs:List PyData):Bool :=
 if W "add" w=true then l2 onB adB xs else if W "drop" w=true then l1 drB xs else if W "mark" w=true then l3 nmB anB anB xs else if W "unmark" w=true then l1 nmB xs else if W "undo" w=true then l1 idB xs else false
theorem Ew {f:Dn->Res PyData} {A:Dn->Res PyData} {g:Dn->Out} {δ:Dn} {w:PyData} {y:Str} {a b:Bool} (h:f δ=.ok w) (h1:A δ=.ok (.bool a)) (h2:g δ=.rt (.bool b)):C5 (sIf (B2 (b2 f (vC (.str y)) dEq)) (E5 A) F4) g δ=.rt (.bool (if W y w=true then a else b)):=by
 have hc:B2 (b2 f (vC (.str y)) dEq) δ=.ok (W y w):=B8 (B0 h rfl (vV w y))
 cases q:W y w with
 | true=>rw [q] at hc; exact (L4 ((O4 hc).trans (C0 h1)))
 | false=>rw [q] at hc; exact (C4 (R0 hc)).trans h2
theorem dM {f R:Dn->Res PyData} {δ:Dn} {xs:List PyData} {k:Nat} {K:Int} {b:Bool} (hk:K=(k:Int)) (h:f δ=.ok (.tuple xs)) (h1:xs.length=k->R δ=.ok (.bool b)) (h2:xs.length≠k->b=false):O0 (b2 (vFn (A0 f A7) K4) (vC (.int K)) dEq) R δ=.ok (.bool b):=by
 subst hk
 refine (M0 (a:=decide (xs.length=k)) (b:=b) (B0 (x:=.int (xs.length:Int)) (y:=.int (k:Int)) (N0 (A4 h rfl) rfl) rfl ?_) fun z=>h1 (of_decide_eq_true z)).trans ?_
 . rw [Qi]; congr 2; rw [Bool.eq_iff_iff]; simp; lia
 . by_cases c:xs.length=k
   . rw [decide_eq_true c]; rfl
   . rw [decide_eq_false c,h2 c]; rfl
theorem eZ {f:PyData->Bool} {xs:List PyData} (h:xs.length≠1):l1 f xs=false:=by
 unfold l1; split
 . exact absurd rfl h
 . rfl
theorem l2_f {f g:PyData->Bool} {xs:List PyData} (h:xs.length≠2):l2 f g xs=false:=by
 unfold l2; split
 . exact absurd rfl h
 . rfl
theorem l3_f {f g k:PyData->Bool} {xs:List PyData} (h:xs.length≠3):l3 f g k xs=false:=by
 unfold l3; split
 . exact absurd rfl h
 . rfl
theorem Td {xs:List PyData} (h:xs.length=1):∃ a,xs=[a]:=by match xs,h with | [a],_=>exact ⟨a,rfl⟩
theorem rO {xs:List PyData} (h:xs.length=2):∃ a b,xs=[a,b]:=by match xs,h with | [a,b],_=>exact ⟨a,b,rfl⟩
theorem rN {xs:List PyData} (h:xs.length=3):∃ a b c,xs=[a,b,c]:=by match xs,h with | [a,b,c],_=>exact ⟨a,b,c,rfl⟩
theorem pF (w:PyData) (xs:List PyData) (z:∀ x∈xs,SzP x):T1 [w,.tuple xs]=.ok (.bool (fmB w xs)):=by
 refine I8 ?_
 refine Ew rfl (dM (k:=2) rfl rfl (fun h=>?_) l2_f) (Ew rfl (dM (k:=1) rfl rfl (fun h=>?_) eZ) (Ew rfl (dM (k:=3) rfl rfl (fun h=>?_) l3_f) (Ew rfl (dM (k:=1) rfl rfl (fun h=>?_) eZ) (Ew rfl (dM (k:=1) rfl rfl (fun h=>?_) eZ) (C0 rfl)))))
 . obtain ⟨a,b,rfl⟩:=rO h
   exact M0 (B3 (A4 (B0 rfl rfl rfl) rfl) (rE a)) fun _=>B3 (A4 (B0 rfl rfl rfl) rfl) (lU b)
 . obtain ⟨a,rfl⟩:=Td h
   exact B3 (A4 (B0 rfl rfl rfl) rfl) (bC a (z a (.head _)))
 . obtain ⟨a,b,c,rfl⟩:=rN h
   exact M0 (B3 (A4 (B0 rfl rfl rfl) rfl) (cR a)) fun _=>M0 (B3 (A4 (B0 rfl rfl rfl) rfl) (sA b)) fun _=>B3 (A4 (B0 rfl rfl rfl) rfl) (sA c)
 . obtain ⟨a,rfl⟩:=Td h
   exact B3 (A4 (B0 rfl rfl rfl) rfl) (cR a)
 . obtain ⟨a,rfl⟩:=Td h
   exact B3 (A4 (B0 rfl rfl rfl) rfl) (kR a)
theorem fG (w:PyData) (xs:List PyData):dIx (.tuple (w::xs)) (.int 0)=some w:=ix0 w xs
theorem Vi {A g:Dn->Out} {r:Dn} {w i:PyData} {xs:List PyData} {y:Str} {k:Nat} {K:Int} {a b:Bool} (hk:K=((k+2:Nat):Int)) (h1:xs.length=k->A (.sh (.tuple (w::i::xs))::r)=.rt (.bool a)) (h2:g (.sh (.tuple (w::i::xs))::r)=.rt (.bool b)) :
   C5 (sIf (Q1 (B2 (b2 (b2 (A2 0) (vC (.int 0)) dIx) (vC (.str y)) dEq)) (B2 (b2 (vFn (A0 (A2 0) A7) K4) (vC (.int K)) dEq))) A F4) g (.sh (.tuple (w::i::xs))::r)=.rt (.bool (if W y w=true then if xs.length=k then a else b else b)):=by
 have hc:B2 (b2 (b2 (A2 0) (vC (.int 0)) dIx) (vC (.str y)) dEq) (.sh (.tuple (w::i::xs))::r)=.ok (W y w):=B8 (B0 (B0 rfl rfl (fG w _)) rfl (vV w y))
 have hc2:B2 (b2 (vFn (A0 (A2 0) A7) K4) (vC (.int K)) dEq) (.sh (.tuple (w::i::xs))::r)=.ok (decide (xs.length=k)):=by
   refine B8 (B0 (x:=.int (((w::i::xs).length:Nat):Int)) rfl rfl ?_); rw [Qi,hk]; congr 2; rw [Bool.eq_iff_iff]; simp; lia
 by_cases q:W y w=true
 . rw [if_pos q]
   rw [q] at hc
   by_cases q2:xs.length=k
   . rw [if_pos q2]
     rw [decide_eq_true q2] at hc2; exact L4 ((O4 (Wa hc hc2)).trans (h1 q2))
   . rw [if_neg q2]
     rw [decide_eq_false q2] at hc2; exact (C4 (R0 (Wb hc hc2))).trans h2
 . rw [if_neg q]
   rw [Bool.eq_false_iff.mpr q] at hc; exact (C4 (R0 (Wc hc))).trans h2
theorem Sk {y y':Str} {w:PyData} (h:W y w=true) (k:(y==y')=false):W y' w=false:=by
 obtain ⟨x,rfl,e⟩:=Pc h
 have:x=y:=by simpa using e
 subst this
 exact k
theorem Yh (w i:PyData) (xs:List PyData) (z:∀ x∈xs,SzP x):K1 [.tuple (w::i::xs)]=.ok (.bool (fmB w xs)):=by
 refine I8 ?_
 have hrest:(C5 U6 (C5 U5 (C5 U4 U3))) [.sh (.tuple (w::i::xs)),.un]=.rt (.bool (if W "mark" w=true then if xs.length=3 then l3 nmB anB anB xs else (if W "unmark" w=true then if xs.length=1 then l1 nmB xs else (W "undo" w&&l1 idB xs) else (W "undo" w&&l1 idB xs)) else (if W "unmark" w=true then if xs.length=1 then l1 nmB xs else (W "undo" w&&l1 idB xs) else (W "undo" w&&l1 idB xs)))):=by
   refine (C4 (F1 rfl)).trans ?_; refine Vi (k:=3) rfl (fun h=>?_) (Vi (k:=1) rfl (fun h=>?_) ?_)
   . obtain ⟨a,b,c,rfl⟩:=rN h
     exact C0 (M0 (B3 (A4 (B0 rfl rfl rfl) rfl) (Yf a)) fun _=>M0 (B3 (A4 (B0 rfl rfl rfl) rfl) (kL b)) fun _=>B3 (A4 (B0 rfl rfl rfl) rfl) (kL c))
   . obtain ⟨a,rfl⟩:=Td h
     exact C0 (B3 (A4 (B0 rfl rfl rfl) rfl) (Yf a))
   . refine C0 (M0 (B0 (B0 rfl rfl (fG w _)) rfl (vV w _)) fun _=>dM (k:=3) rfl rfl (fun h=>?_) fun h=>eZ fun k=>h (by simp [k]))
     obtain ⟨a,rfl⟩:=Td (xs:=xs) (by simpa using h)
     exact B3 (A4 (B0 rfl rfl rfl) rfl) (aW a)
 refine (Vi (k:=2) rfl (a:=l2 onB adB xs) (fun h=>?_) (Vi (k:=1) rfl (a:=l1 drB xs) (fun h=>?_) hrest)).trans ?_
 . obtain ⟨a,b,rfl⟩:=rO h
   show _=Out.rt (.bool (onB a&&adB b))
   refine W7 (a:=onB a) ?_ fun _=>?_
   . have e : (fun δ => ((b2 (A2 0) (vC (.int 2)) dIx) δ).bind fun d => .ok (!isNone d)) [.sh (.tuple [w, i, a, b]), .un] = Res.ok (!isNone a) := by
       show Res.bind _ _=_
       rw [B0 (d:=a) rfl rfl rfl]; rfl
     have e2:L8 (B2 (B4 (A0 (b2 (A2 0) (vC (.int 2)) dIx) A7) D9)) [.sh (.tuple [w,i,a,b]),.un]=.ok (!sgB a):=L6 (B8 (B3 (A4 (B0 rfl rfl rfl) rfl) (aV a))); unfold Q1 onB; rw [e,F7]
     cases isNone a with
     | true=>rfl
     | false=>exact e2
   . show _=Out.rt (.bool (stB _ b))
     rw [<- Zi]; refine W7 (aG (d:=b) (B0 rfl rfl rfl) rfl) fun z=>C0 ?_
     obtain ⟨x,rfl⟩:=Vl z; refine (Pt (δc:=[]) (chB 32 126) (L3 (B0 rfl rfl rfl) rfl) (Kv z (by decide)) rfl fun d hd=>?_).trans ?_
     . unfold Au at hd
       obtain ⟨c,_,rfl⟩:=List.mem_map.mp hd; exact L6 (B8 (Ge rfl rfl rfl (le1 32 c) (le1 c 126)))
     . rw [Kw]; rfl
 . obtain ⟨a,rfl⟩:=Td h
   show _=Out.rt (.bool (ltB 400 a&&drI a))
   refine W7 (gW (d:=a) (B0 rfl rfl rfl) rfl) fun k=>?_
   obtain ⟨ds,rfl⟩:=Vj k; obtain ⟨k1,k2⟩:=Vk k; refine W7 (a:=ds.all sgB) (B8 (Jp sgB (L3 (B0 rfl rfl rfl) rfl) (by lia) rfl fun d hd=>L6 (B8 (B3 (A4 rfl rfl) (aV d))))) fun al=>C0 ?_
   have zz:=z _ (.head _) ds rfl; have h1:=fmS.srt (ds.map sgP) (Zv al zz); have h2:=sK_sg (ps:=ds.map sgP) (fun e=>by rw [List.map_eq_nil_iff] at e; rw [e] at k1; exact absurd k1 (by decide)) (by rw [List.length_map]; exact zz.1) (Zv al zz)
   rw [(Zw ds al).1] at h1 h2; exact B0 (N0 (A4 (B0 rfl rfl rfl) rfl) rfl) (N0 (A4 (B0 rfl rfl rfl) rfl) h2) h1
 . congr 2
   unfold fmB
   by_cases a:W "add" w=true
   . rw [if_pos a,if_pos a,Sk (y' := "drop") a (by decide +kernel),Sk (y' := "mark") a (by decide +kernel),Sk (y' := "unmark") a (by decide +kernel),Sk (y' := "undo") a (by decide +kernel)]
     split
     . rfl
     . rename_i h; rw [l2_f h]; rfl
   rw [if_neg a,if_neg a]
   by_cases a:W "drop" w=true
   . rw [if_pos a,if_pos a,Sk (y' := "mark") a (by decide +kernel),Sk (y' := "unmark") a (by decide +kernel),Sk (y' := "undo") a (by decide +kernel)]
     split
     . rfl
     . rename_i h; rw [eZ (f:=drB) h]; rfl
   rw [if_neg a,if_neg a]
   by_cases a:W "mark" w=true
   . rw [if_pos a,if_pos a,Sk (y' := "unmark") a (by decide +kernel),Sk (y' := "undo") a (by decide +kernel)]
     split
     . rfl
     . rename_i h; rw [l3_f h]; rfl
   rw [if_neg a,if_neg a]
   by_cases a:W "unmark" w=true
   . rw [if_pos a,if_pos a,Sk (y' := "undo") a (by decide +kernel)]
     split
     . rfl
     . rename_i h; rw [eZ (f:=nmB) h]; rfl
   rw [if_neg a,if_neg a]
   cases W "undo" w <;> rfl
theorem lV {y:Str} {w:PyData} (h:W y w=true):w=.str y:=by
 obtain ⟨x,rfl,e⟩:=Pc h
 have:x=y:=by simpa using e
 rw [this]
theorem kM {f:PyData->Bool} {xs:List PyData} (h:l1 f xs=true):∃ a,xs=[a]/\f a=true:=by
 unfold l1 at h
 split at h
 . exact ⟨_,rfl,h⟩
 . cases h
theorem l2_eq {f g:PyData->Bool} {xs:List PyData} (h:l2 f g xs=true):∃ a b,xs=[a,b]/\f a=true/\g b=true:=by
 unfold l2 at h
 split at h
 . exact ⟨_,_,rfl,by simpa using h⟩
 . cases h
theorem l3_eq {f g k:PyData->Bool} {xs:List PyData} (h:l3 f g k xs=true):∃ a b c,xs=[a,b,c]/\f a=true/\g b=true/\k c=true:=by
 unfold l3 at h
 split at h
 . exact ⟨_,_,_,rfl,by simpa using h⟩
 . cases h
theorem Jv {w:PyData} {xs:List PyData} (h:fmB w xs=true):(∃ a b,w=.str "add" /\ xs=[a,b]/\onB a=true/\adB b=true)\/(∃ a,w=.str "drop" /\ xs=[a]/\drB a=true)\/(∃ a b c,w=.str "mark" /\ xs=[a,b,c]/\nmB a=true/\anB b=true/\anB c=true)\/(∃ a,w=.str "unmark" /\ xs=[a]/\nmB a=true)\/(∃ a,w=.str "undo" /\ xs=[a]/\idB a=true):=by
 unfold fmB at h
 split at h
 . rename_i e; obtain ⟨a,b,k⟩:=l2_eq h; exact .inl ⟨a,b,lV e,k⟩
 split at h
 . rename_i e; obtain ⟨a,k⟩:=kM h; exact .inr (.inl ⟨a,lV e,k⟩)
 split at h
 . rename_i e; obtain ⟨a,b,c,k⟩:=l3_eq h; exact .inr (.inr (.inl ⟨a,b,c,lV e,k⟩))
 split at h
 . rename_i e; obtain ⟨a,k⟩:=kM h; exact .inr (.inr (.inr (.inl ⟨a,lV e,k⟩)))
 split at h
 . rename_i e; obtain ⟨a,k⟩:=kM h; exact .inr (.inr (.inr (.inr ⟨a,lV e,k⟩)))
 . cases h
noncomputable def nn (d:PyData):Bool := !isNone d
theorem aS:∀ L:List PyData,L.all onB=true->∃ ps:List Sg,L.filter nn=ps.map sg3/\(∀ p∈ps,gdS p)/\ps.length<=L.length:=by
 intro iN; induction iN with
 | nil=>intro _; exact ⟨[],rfl,fun _ h=>(nomatch h),Nat.le_refl _⟩
 | cons d L ih =>
   intro h; rw [List.all_cons,Bool.and_eq_true] at h; obtain ⟨ps,e,k,l⟩:=ih h.2
   cases q:isNone d with
   | true=>exact ⟨ps,by rw [List.filter_cons_of_neg (by simp [nn,q])]; exact e,k,by simp only [List.length_cons]; lia⟩
   | false =>
     have h1:=h.1; unfold onB at h1; rw [q] at h1; obtain ⟨p,rfl,hp⟩:=Zx h1; refine ⟨p::ps,by rw [List.filter_cons_of_pos rfl,e]; rfl,fun x hx=>?_,by simp only [List.length_cons]; lia⟩
     rcases List.mem_cons.mp hx with rfl | hx
     . exact hp
     . exact k x hx
theorem pX {δc:Dn} {tt:Dn->Res Bool} {el:Dn->Res PyData} (f:PyData->Bool) (g:PyData->PyData):∀ ds:List PyData,(∀ d∈ds,tt ([.sh d]++δc)=.ok (f d)/\el ([.sh d]++δc)=.ok (g d))->F2 E9 δc tt el ds=.ok ((ds.filter f).map g):=by
 intro iN; induction iN with
 | nil=>intro _; exact rfl
 | cons d ds ih =>
   intro h; unfold F2; have ih:=ih fun x hx=>h x (.tail _ hx)
   show (match tt ([.sh d]++δc) with | .ok true=>_ | .ok false=>_ | _=>_)=_
   rw [(h d (.head _)).1]
   cases q:f d with
   | false=>rw [List.filter_cons_of_neg (by simp [q])]; exact ih
   | true =>
     rw [List.filter_cons_of_pos q]; show (match el ([.sh d]++δc) with | .ok y=>_ | _=>_)=_
     rw [(h d (.head _)).2]; show (match F2 E9 δc tt el ds with | .ok r=>Res.ok (g d::r) | _=>.no)=_
     rw [ih]; rfl
theorem cwt {f:Dn->Res PyData} {δ:Dn} {x y:Str} (h:f δ=.ok (.str x)) (e:(x==y)=true):B2 (b2 f (vC (.str y)) dEq) δ=.ok true:=B8 (B0 h rfl (by rw [Vw,e]))
theorem cwf {f:Dn->Res PyData} {δ:Dn} {x y:Str} (h:f δ=.ok (.str x)) (e:(x==y)=false):B2 (b2 f (vC (.str y)) dEq) δ=.ok false:=B8 (B0 h rfl (by rw [Vw,e]))
theorem wIx {x:Str} {xs:List PyData} {r:Dn}:b2 (A2 0) (vC (.int 0)) dIx (.sh (.tuple (.str x::xs))::r)=.ok (.str x):=B0 rfl rfl (fG _ _)
theorem sgn2 (d:PyData) (L:List PyData) (h:L.length<=1000):W4 [.sh d,.sh (.list L)]=.rt (.list (L.filter nn)):=C0 (K6 (O6 (L3 rfl rfl) h rfl (Lk nn L fun d hd=>rfl)))
theorem Ph {d:PyData} {L:List PyData} (h:L.length<=1000) (h1:W5 [.sh d,.sh (.list [])]=.nx [.sh d,.sh (.list L)]):G9 [d]=.ok (.list (L.filter nn)):=I8 ((C4 (F1 rfl)).trans ((C4 h1).trans (sgn2 d L h)))
theorem sR {ds:List PyData} (h:ds.all sgB=true):ds.all onB=true/\ds.filter nn=ds:=by
 rw [List.all_eq_true] at h
 refine ⟨List.all_eq_true.mpr fun x hx=>by unfold onB; rw [h x hx,Bool.or_true],List.filter_eq_self.mpr fun x hx=>?_⟩
 obtain ⟨p,rfl,_⟩:=Zx (h x hx); rfl
theorem cX {d:PyData} {x:Str} {xs:List PyData} {ps:List Sg} (hd:d=.tuple (.str x::xs)) (e:(x == "undo")=false) (h:G9 [d]=.ok (.list (ps.map sg3))) (hl:ps.length<=400):K8 [d]=.ok (.list ((ps.map Prod.fst++[]).map id3)):=by
 subst hd
 refine I8 ((D7 (cwf wIx e)).trans (C0 (K6 (O6 (L3 (B3 (A4 rfl rfl) h) rfl) (by rw [List.length_map]; lia) rfl ?_))))
 rw [List.append_nil,List.map_map]
 exact Kd sg3 (id3∘Prod.fst) (fun p=>(B0 rfl rfl rfl:b2 (A2 0) (vC (.int 0)) dIx [.sh (sg3 p)]=.ok (id3 p.1))) ps
structure Nmd (d:PyData) (ps:List Sg) (qs:List IdP):Prop where
 gp:∀ p∈ps,gdS p
 gq:∀ q∈qs,okM q.2=true/\1<=q.1
 lp:ps.length<=400
 lq:qs.length<=1
 sg:G9 [d]=.ok (.list (ps.map sg3))
 dn:K8 [d]=.ok (.list ((ps.map Prod.fst++qs).map id3))
 lw:F5 [d]=.ok (.tuple [.list (ps.map sg3),.list (qs.map id3)])
theorem rJ (a:PyData):M3 (.list [a]) (.int 0)=some (.list []):=oH ⟨by decide,by decide,by simp⟩
theorem rH (a:PyData):M3 (.list [a]) (.int 1)=some (.list [a]):=oH ⟨by decide,by decide,by show (1:Nat)<=_; decide⟩
theorem vN {a:PyData} (h:drB a=true):∃ ds,a=.tuple ds/\ds.all sgB=true/\ds.length<=400:=by
 unfold drB at h
 rw [Bool.and_eq_true] at h
 obtain ⟨ds,rfl⟩:=Vj h.1
 have:=Vk h.1
 have h2:=h.2
 unfold drI at h2
 rw [Bool.and_eq_true] at h2
 exact ⟨ds,rfl,h2.1,by lia⟩
theorem jY {w i:PyData} {xs:List PyData} (h:fmB w xs=true):∃ ps qs,Nmd (.tuple (w::i::xs)) ps qs:=by
 rcases Jv h with ⟨a,b,rfl,rfl,h1,h2⟩ | ⟨a,rfl,rfl,h1⟩ | ⟨a,b,c,rfl,rfl,h1,h2,h3⟩ | ⟨a,rfl,rfl,h1⟩ | ⟨a,rfl,rfl,h1⟩
 . obtain ⟨ps,e,k,l⟩:=aS [a] (by simp [h1])
   have hs:G9 [.tuple [.str "add",i,a,b]]=.ok (.list (ps.map sg3)):=by
     rw [<- e]; exact Ph (by simp) ((O4 (cwt wIx (by decide +kernel))).trans (F1 (K6 (A4 (B0 rfl rfl rfl) rfl))))
   have hl:ps.length<=400:=Nat.le_trans l (by simp)
   refine ⟨ps,[],k,fun _ h=>(nomatch h),hl,Nat.zero_le _,hs,cX rfl (by decide +kernel) hs hl,?_⟩
   refine I8 (L4 ((O4 (cwt wIx (by decide +kernel))).trans (C0 (R8 (A4 (B0 (x:=.list [a]) (y:=.int (if nn a=true then 1 else 0)) (K6 (A4 (B0 rfl rfl rfl) rfl)) (N0 (A4 (Q0 (x:=a) (B0 rfl rfl rfl) rfl) rfl) rfl) ?_) rfl)))))
   rw [<- e]
   cases q:nn a with
   | true=>rw [List.filter_cons_of_pos q]; exact rH a
   | false=>rw [List.filter_cons_of_neg (by simp [q])]; exact rJ a
 . obtain ⟨ds,rfl,g1,g2⟩:=vN h1
   obtain ⟨o1,o2⟩:=sR g1; obtain ⟨ps,e,k,l⟩:=aS ds o1; have hs:G9 [.tuple [.str "drop",i,.tuple ds]]=.ok (.list (ps.map sg3)):=by
     rw [<- e]; exact Ph (by lia) ((R0 (cwf wIx (by decide +kernel))).trans ((O4 (cwt wIx (by decide +kernel))).trans (F1 (N0 (A4 (B0 rfl rfl rfl) rfl) rfl))))
   have hl:ps.length<=400:=by lia
   refine ⟨ps,[],k,fun _ h=>(nomatch h),hl,Nat.zero_le _,hs,cX rfl (by decide +kernel) hs hl,?_⟩
   rw [<- e,o2]; exact I8 ((D7 (cwf wIx (by decide +kernel))).trans (L4 ((O4 (cwt wIx (by decide +kernel))).trans (C0 (R8 (A4 (N0 (A4 (B0 rfl rfl rfl) rfl) rfl) rfl))))))
 . obtain ⟨s1,x1,rfl,a1,b1⟩:=Ta h2
   obtain ⟨s2,x2,rfl,a2,b2'⟩:=Ta h3; obtain ⟨ps,e,k,l⟩:=aS [s1,s2] (by simp [a1,a2])
   have hs:G9 [.tuple [.str "mark",i,a,.tuple [s1,x1],.tuple [s2,x2]]]=.ok (.list (ps.map sg3)):=by
     rw [<- e]; exact Ph (by simp) ((R0 (cwf wIx (by decide +kernel))).trans ((R0 (cwf wIx (by decide +kernel))).trans ((O4 (cwt wIx (by decide +kernel))).trans (F1 (K6 (A4 (B0 (B0 rfl rfl rfl) rfl rfl) (A4 (B0 (B0 rfl rfl rfl) rfl rfl) rfl)))))))
   have hl:ps.length<=400:=Nat.le_trans l (by simp)
   refine ⟨ps,[],k,fun _ h=>(nomatch h),hl,Nat.zero_le _,hs,cX rfl (by decide +kernel) hs hl,?_⟩
   let fs:PyData->PyData:=fun d=>match d with | .tuple [s,_]=>s | _=>.none
   have hc:F2 E9 [] (fun δ=>((b2 (A2 0) (vC (.int 0)) dIx) δ).bind fun d=>.ok (!isNone d)) (b2 (A2 0) (vC (.int 0)) dIx) [.tuple [s1,x1],.tuple [s2,x2]]=.ok (ps.map sg3):=by
     rw [pX (fun d=>nn (fs d)) fs _ fun d hd=>?_]
     . rw [<- e]
       show Res.ok _=_
       rw [show [s1,s2]=[PyData.tuple [s1,x1],.tuple [s2,x2]].map fs from rfl,List.filter_map]; rfl
     . rcases List.mem_cons.mp hd with rfl | hd
       . exact ⟨rfl,rfl⟩
       . rcases List.mem_cons.mp hd with rfl | hd
         . exact ⟨rfl,rfl⟩
         . cases hd
   exact I8 ((D7 (cwf wIx (by decide +kernel))).trans ((D7 (cwf wIx (by decide +kernel))).trans (L4 ((O4 (cwt wIx (by decide +kernel))).trans (C0 (R8 (A4 (K6 (O6 (L3 (W2 rfl rfl rfl rfl) rfl) (show (2:Nat)<=1000 by decide) rfl hc)) rfl)))))))
 . have hs:G9 [.tuple [.str "unmark",i,a]]=.ok (.list (([]:List Sg).map sg3)):=Ph (L:=[]) (by simp) ((R0 (cwf wIx (by decide +kernel))).trans ((R0 (cwf wIx (by decide +kernel))).trans (R0 (cwf wIx (by decide +kernel)))))
   refine ⟨[],[],fun _ h=>(nomatch h),fun _ h=>(nomatch h),Nat.zero_le _,Nat.zero_le _,hs,cX rfl (by decide +kernel) hs (Nat.zero_le _),?_⟩
   refine I8 ((D7 (cwf wIx (by decide +kernel))).trans ((D7 (cwf wIx (by decide +kernel))).trans ((D7 (cwf wIx (by decide +kernel))).trans (C0 (R8 (A4 rfl (A4 (B0 (x:=.list [a]) (y:=.int 0) (K6 (A4 (B0 rfl rfl rfl) rfl)) (N0 (A4 (B0 wIx rfl ((Vw _ _).trans (by rw [show ((("unmark" : Str) == "undo")=false) by decide +kernel]))) rfl) rfl) (rJ _)) rfl)))))))
 . obtain ⟨q,rfl,g1,g2⟩:=aZ h1
   have hs:G9 [.tuple [.str "undo",i,id3 q]]=.ok (.list (([]:List Sg).map sg3)):=Ph (L:=[]) (by simp) ((R0 (cwf wIx (by decide +kernel))).trans ((R0 (cwf wIx (by decide +kernel))).trans (R0 (cwf wIx (by decide +kernel)))))
   refine ⟨[],[q],fun _ h=>(nomatch h),fun x hx=>?_,Nat.zero_le _,Nat.le_refl _,hs,?_,?_⟩
   . cases List.mem_singleton.mp hx; exact ⟨g1,g2⟩
   . exact I8 (L4 ((O4 (cwt wIx (by decide +kernel))).trans (C0 (K6 (A4 (B0 rfl rfl rfl) rfl)))))
   . refine I8 ((D7 (cwf wIx (by decide +kernel))).trans ((D7 (cwf wIx (by decide +kernel))).trans ((D7 (cwf wIx (by decide +kernel))).trans (C0 (R8 (A4 rfl (A4 (B0 (x:=.list [id3 q]) (y:=.int 1) (K6 (A4 (B0 rfl rfl rfl) rfl)) (N0 (A4 (B0 wIx rfl ((Vw _ _).trans (by rw [show ((("undo" : Str) == "undo")=true) by decide +kernel]))) rfl) rfl) (rH _)) rfl)))))))
theorem pW (xs:List PyData) (k:Nat) (h:k<=xs.length):V1 xs none (some (k:Int))=xs.take k:=by
 unfold V1
 rw [HT.sIx_nat,HT.sIx_none]
 rw [Nat.min_eq_left h]; rfl
theorem dB (xs:List PyData) (k:Nat) (h:k<=xs.length):V1 xs (some (k:Int)) none=xs.drop k:=by
 unfold V1
 rw [HT.sIx_nat,HT.sIx_none,Nat.min_eq_left h,<- List.length_drop,List.take_length]
def SzD (d:PyData):Prop:=∀ w i xs,d=.tuple (w::i::xs)->∀ x∈xs,SzP x
noncomputable def tmB (t:Int):PyData->Bool | .tuple (.int a::_)=>decide (a < t) | _=>false
noncomputable def gP:PyData->Bool | .tuple (_::i::_)=>idB i | _=>false
noncomputable def gL:PyData->Bool | .tuple (w::i::_::_)=>Ol w&&idB i | _=>false
theorem kZ (d:PyData):cOr (L8 (B2 (b1 (A2 0) fun d=>some (.bool (K9 "tuple" d))))) (cOr (B2 (b2 (vFn (A0 (A2 0) A7) K4) (vC (.int 2)) (K5 .Lt))) (L8 (B2 (B4 (A0 (b2 (A2 0) (vC (.int 1)) dIx) A7) E6)))) [.sh d]=.ok (!gP d):=by
 refine (Q6 (a := !Im d) (b := !gP d) (L6 (B8 (Q0 rfl (by rw [isT])))) fun z=>?_).trans (by cases d <;> rfl)
 cases d with
 | tuple xs =>
   refine (Q6 (a:=decide ((xs.length:Int) < 2)) (b := !gP (.tuple xs)) (B8 (B0 (x:=.int (xs.length:Int)) rfl rfl (ltI _ _))) fun z2=>?_).trans ?_
   . match xs,z2 with
     | [],z2=>cases z2
     | [_],z2=>cases z2
     | w::i::xs,_=>exact L6 (B8 (B3 (A4 (B0 rfl rfl (P6 (xs:=w::i::xs) (j:=1) (by simp))) rfl) (kR i)))
   . match xs with
     | []=>rfl
     | [_]=>rfl
     | w::i::xs=>rw [decide_eq_false (by simp; lia)]; rfl
 | _=>cases z
theorem bA (d:PyData):cOr (L8 (B2 (b1 (A2 0) fun d=>some (.bool (K9 "tuple" d))))) (cOr (B2 (b2 (vFn (A0 (A2 0) A7) K4) (vC (.int 3)) (K5 .Lt))) (cOr (L8 (B2 (b1 (b2 (A2 0) (vC (.int 0)) dIx) fun d=>some (.bool (K9 "str" d))))) (L8 (B2 (B4 (A0 (b2 (A2 0) (vC (.int 1)) dIx) A7) D5))))) [.sh d,.un,.un]=.ok (!gL d):=by
 refine (Q6 (a := !Im d) (b := !gL d) (L6 (B8 (Q0 rfl (by rw [isT])))) fun z=>?_).trans (by cases d <;> rfl)
 cases d with
 | tuple xs =>
   refine (Q6 (a:=decide ((xs.length:Int) < 3)) (b := !gL (.tuple xs)) (B8 (B0 (x:=.int (xs.length:Int)) rfl rfl (ltI _ _))) fun z2=>?_).trans ?_
   . match xs,z2 with
     | [],z2=>cases z2
     | [_],z2=>cases z2
     | [_,_],z2=>cases z2
     | w::i::x::xs,_ =>
       refine (Q6 (a := !Ol w) (b := !idB i) (L6 (B8 (Q0 (B0 rfl rfl (fG _ _)) (by rw [isS])))) fun _=>L6 (B8 (B3 (A4 (B0 rfl rfl (P6 (xs:=w::i::x::xs) (j:=1) (by simp))) rfl) (aW i)))).trans ?_
       show Res.ok _=Res.ok (!(Ol w&&idB i))
       rw [Bool.not_and]
   . match xs with
     | []=>rfl
     | [_]=>rfl
     | [_,_]=>rfl
     | w::i::x::xs=>rw [decide_eq_false (by simp; lia)]; rfl
 | _=>cases z
theorem vH {w:PyData} {xs:List PyData} (h:fmB w xs=true):Ol w=true/\∃ x r,xs=x::r:=by
 rcases Jv h with ⟨a,b,rfl,rfl,_⟩ | ⟨a,rfl,rfl,_⟩ | ⟨a,b,c,rfl,rfl,_⟩ | ⟨a,rfl,rfl,_⟩ | ⟨a,rfl,rfl,_⟩ <;> exact ⟨rfl,_,_,rfl⟩
structure GoodD (d:PyData) (p:IdP) (ps:List Sg) (qs:List IdP):Prop where
 okp:okM p.2=true
 ge:1<=p.1
 form:∃ w xs,d=.tuple (w::id3 p::xs)/\fmB w xs=true
 nm:Nmd d ps qs
theorem fR (d:PyData) (z:SzD d):∃ b,D8 [d]=.ok (.bool b)/\B7 [d]=.ok (.bool b)/\(b=true->∃ p ps qs,GoodD d p ps qs):=by
 cases q:gP d with
 | false =>
   have q2:gL d=false:=by
     unfold gL
     split
     . rename_i w i x xs; show (Ol w&&idB i)=false; rw [show idB i=false from q,Bool.and_false]
     . rfl
   have hp:=kZ d; have hl:=bA d; rw [q] at hp; rw [q2] at hl; exact ⟨false,I8 (L4 ((O4 hp).trans (C0 rfl))),I8 (L4 ((O4 hl).trans (C0 rfl))),ff⟩
 | true =>
   obtain ⟨w,i,xs,rfl⟩:∃ w i xs,d=.tuple (w::i::xs):=by
     unfold gP at q
     split at q
     . exact ⟨_,_,_,rfl⟩
     . cases q
   have hp:=kZ (.tuple (w::i::xs)); rw [q] at hp; have hf:L8 (B2 (B4 (A0 (b2 (A2 0) (vC (.int 0)) dIx) (A0 (vSl (A2 0) (O5 (vC (.int 2))) P1) A7)) T1)) [.sh (.tuple (w::i::xs))]=.ok (!fmB w xs):=by
     refine L6 (B8 (B3 (A4 (B0 rfl rfl (fG _ _)) (A4 (W2 rfl rfl rfl ?_) rfl)) (pF w xs (z w i xs rfl)))); show some (PyData.tuple (V1 _ _ _))=_
     exact congrArg (fun l=>some (PyData.tuple l)) (dB (w::i::xs) 2 (by simp))
   cases f:fmB w xs with
   | false =>
     rw [f] at hf; refine ⟨false,I8 ((D7 hp).trans (L4 ((O4 hf).trans (C0 rfl)))),?_,ff⟩; have hl:=bA (.tuple (w::i::xs))
     cases g:gL (.tuple (w::i::xs)) with
     | false=>rw [g] at hl; exact I8 (L4 ((O4 hl).trans (C0 rfl)))
     | true =>
       rw [g] at hl; have hf2:L8 (B2 (B4 (A0 (A2 0) A7) K1)) [.sh (.tuple (w::i::xs)),.un,.un]=.ok (!fmB w xs):=L6 (B8 (B3 (A4 rfl rfl) (Yh w i xs (z w i xs rfl)))); rw [f] at hf2; exact I8 ((D7 hl).trans (L4 ((O4 hf2).trans (C0 rfl))))
   | true =>
     rw [f] at hf; obtain ⟨p,rfl,p1,p2⟩:=aZ (show idB i=true from q)
     obtain ⟨ps,qs,N⟩:=jY (i:=id3 p) f; obtain ⟨tw,x0,xr,rfl⟩:=vH f; have hl:=bA (.tuple (w::id3 p::x0::xr)); rw [show gL (.tuple (w::id3 p::x0::xr))=true by show (Ol w&&idB (id3 p))=true; rw [tw,show idB (id3 p)=true from q]; rfl] at hl
     have hf2:L8 (B2 (B4 (A0 (A2 0) A7) K1)) [.sh (.tuple (w::id3 p::x0::xr)),.un,.un]=.ok (!fmB w (x0::xr)):=L6 (B8 (B3 (A4 rfl rfl) (Yh w _ _ (z w _ _ rfl)))); rw [f] at hf2; have hlen:((ps.map Prod.fst++qs).map id3).length<=1000:=by have:=N.lp; have:=N.lq; simp; lia
     have hix:∀ r:Dn,b2 (b2 (A2 0) (vC (.int 1)) dIx) (vC (.int 0)) dIx (.sh (.tuple (w::id3 p::x0::xr))::r)=.ok (.int p.1):=fun r=>B0 (B0 rfl rfl (P6 (xs:=w::id3 p::x0::xr) (j:=1) (by simp))) rfl rfl
     refine ⟨((ps.map Prod.fst++qs).map id3).all (tmB p.1),I8 ((D7 hp).trans ((D7 hf).trans (C0 (Bv (δc:=[.sh (.tuple (w::id3 p::x0::xr))]) (tmB p.1) (L3 (B3 (A4 rfl rfl) N.dn) rfl) hlen rfl fun d hd=>?_)))),I8 ((D7 hl).trans ((D7 hf2).trans ?_)),fun _=>⟨p,ps,qs,p1,p2,⟨w,_,rfl,f⟩,N⟩⟩
     . obtain ⟨q,_,rfl⟩:=List.mem_map.mp hd
       exact B0 (B0 rfl rfl rfl) (B0 (B0 rfl rfl (P6 (xs:=w::id3 p::x0::xr) (j:=1) (by simp))) rfl rfl) (ltI _ _)
     . have h2 : R9 [.sh (.tuple (w :: id3 p :: x0 :: xr)), .un, .un] = .nx [.sh (.tuple (w :: id3 p :: x0 :: xr)), .sh (.list (ps.map sg3)), .sh (.list (qs.map id3))] := by
         unfold R9 Pn; rw [B3 (A4 rfl rfl) N.lw]; rfl
       refine (C4 h2).trans (C0 ?_); refine Pt (δc:=[.sh (.tuple (w::id3 p::x0::xr))]) (ds:=(ps.map Prod.fst++qs).map id3) (tmB p.1) (L3 (B0 (x:=.list ((ps.map Prod.fst).map id3)) (y:=.list (qs.map id3)) (K6 (O6 (L3 rfl rfl) (by have:=N.lp; simp; lia) rfl ?_)) rfl (Kk (by have:=N.lp; have:=N.lq; simp; lia))) ?_) hlen rfl fun d hd=>?_
       . rw [List.map_map]
         exact Kd sg3 (id3∘Prod.fst) (fun p=>(B0 rfl rfl rfl:b2 (A2 0) (vC (.int 0)) dIx [.sh (sg3 p)]=.ok (id3 p.1))) ps
       . rw [<- List.map_append]; rfl
       . obtain ⟨q,_,rfl⟩:=List.mem_map.mp hd
         refine B8 (B0 (y:=.int p.1) (B0 rfl rfl rfl) (B0 (B0 rfl rfl (P6 (xs:=w::id3 p::x0::xr) (j:=1) (by simp))) rfl rfl) ?_)
         show some (PyData.bool (decide (p.1<=q.1)))=some (PyData.bool (!decide (q.1 < p.1)))
         congr 2
         rw [Bool.eq_iff_iff]; simp
def goodKv (kvs:List (PyData×PyData)):Prop:=∀ q∈kvs,∃ k:List Key,q.1=.tuple (k.map Dk)
theorem Tj (kk:List Key):O7 [] kk=none:=rfl
theorem U8 (k kk:List Key) (v:PyData) (r:List (PyData×PyData)):O7 ((.tuple (k.map Dk),v)::r) kk=if k=kk then some v else O7 r kk:=by
 unfold O7
 rw [List.find?_cons]
 simp only [Jq]
 by_cases h:k=kk
 . simp [h]
 . simp [h]
theorem Tk (kk j:List Key) (v:PyData):∀ (kvs:List (PyData×PyData)),goodKv kvs->O7 (kvs.map fun q=>if Hw q.1=some kk then (q.1,v) else q) j=if j=kk then (O7 kvs j).map (fun _=>v) else O7 kvs j
 | [],_=>by simp [Tj]
 | (a,b)::r,h=>by
   obtain ⟨k,e⟩:=h (a,b) (.head _); simp only at e; subst e; have ih:=Tk kk j v r fun q hq=>h q (.tail _ hq)
   rw [List.map_cons]; simp only [Jq,Option.some.injEq]
   by_cases h1:k=kk
   . subst h1
     rw [if_pos rfl,U8,U8,ih]
     by_cases h2:k=j
     . subst h2; simp
     . rw [if_neg h2,if_neg h2]
   . rw [if_neg h1,U8,U8,ih]
     by_cases h2:k=j
     . subst h2; simp [h1]
     . rw [if_neg h2,if_neg h2]
theorem Px (k j:List Key) (v:PyData):∀ (kvs:List (PyData×PyData)),goodKv kvs->O7 (kvs++[(.tuple (k.map Dk),v)]) j=(O7 kvs j).or (if k=j then some v else none)
 | [],_=>by rw [List.nil_append,U8,Tj]; simp
 | (a,b)::r,h=>by
   obtain ⟨k',e⟩:=h (a,b) (.head _); simp only at e; subst e; rw [List.cons_append,U8,U8,Px k j v r fun q hq=>h q (.tail _ hq)]
   by_cases h2:k'=j
   . simp [h2]
   . rw [if_neg h2,if_neg h2]
theorem goodKv.put {kvs:List (PyData×PyData)} (h:goodKv kvs) (kk:List Key) (v:PyData):goodKv (Eg kvs kk v)/\(Eg kvs kk v).length<=kvs.length+1/\∀ j,O7 (Eg kvs kk v) j=if j=kk then some v else O7 kvs j:=by
 unfold Eg
 split
 . rename_i hs
   refine ⟨fun q hq=>?_,by simp,fun j=>?_⟩
   . obtain ⟨q',hq',rfl⟩:=List.mem_map.mp hq
     split
     . exact h q' hq'
     . exact h q' hq'
   . rw [Tk kk j v kvs h]
     by_cases hj:j=kk
     . subst hj
       rw [if_pos rfl,if_pos rfl]
       cases q:O7 kvs j with
       | none=>rw [q] at hs; cases hs
       | some x=>rfl
     . rw [if_neg hj,if_neg hj]
 . rename_i hs
   refine ⟨fun q hq=>?_,by simp,fun j=>?_⟩
   . rcases List.mem_append.mp hq with z | z
     . exact h q z
     . rw [List.mem_singleton.mp z]; exact ⟨kk,rfl⟩
   . rw [Px kk j v kvs h]
     by_cases hj:j=kk
     . subst hj
       rw [if_pos rfl,if_pos rfl]
       cases q:O7 kvs j with
       | none=>rfl
       | some x=>rw [q] at hs; exact absurd rfl hs
     . rw [if_neg hj,if_neg (Ne.symm hj),Option.or_none]
noncomputable def kkP (p:IdP):List Key:=[.inl p.1,.inr p.2]
theorem oM {p q:IdP}:kkP p=kkP q↔p=q:=by
 constructor
 . intro h; simp only [kkP,List.cons.injEq,Sum.inl.injEq,Sum.inr.injEq,and_true] at h; exact Prod.ext h.1 h.2
 . rintro rfl; rfl
structure Et where
 d:PyData
 p:IdP
 ps:List Sg
 qs:List IdP
def GoodE (e:Et):Prop:=GoodD e.d e.p e.ps e.qs
theorem vL:∀ xs:List PyData,(∀ d∈xs,∃ p ps qs,GoodD d p ps qs)->∃ E:List Et,E.map Et.d=xs/\∀ e∈E,GoodE e:=by
 intro iN; induction iN with
 | nil=>intro _; exact ⟨[],rfl,fun _ h=>nomatch h⟩
 | cons d xs ih =>
   intro h; obtain ⟨p,ps,qs,g⟩:=h d (.head _); obtain ⟨E,e1,e2⟩:=ih fun x hx=>h x (.tail _ hx)
   refine ⟨⟨d,p,ps,qs⟩::E,by rw [List.map_cons,e1],fun e he=>?_⟩
   rcases List.mem_cons.mp he with rfl | he
   . exact g
   . exact e2 e he
theorem GoodE.id {e:Et} (h:GoodE e):dIx e.d (.int 1)=some (id3 e.p):=by
 obtain ⟨w,xs,q,_⟩:=h.form
 rw [q]; exact P6 (xs:=w::id3 e.p::xs) (j:=1) (by simp)
theorem jM:∀ (E:List Et) (kvs:List (PyData×PyData)),goodKv kvs->∃ kvs',Fy (E.map fun e=>PyData.tuple [id3 e.p,e.d]) kvs=some kvs'/\goodKv kvs'/\(∀ q,q∉E.map Et.p->O7 kvs' (kkP q)=O7 kvs (kkP q))/\((E.map Et.p).Nodup->∀ e∈E,O7 kvs' (kkP e.p)=some e.d):=by
 intro iN; induction iN with
 | nil=>intro kvs g; exact ⟨kvs,rfl,g,fun _ _=>rfl,fun _ _ h=>nomatch h⟩
 | cons e E ih =>
   intro kvs g; obtain ⟨g1,g2,g3⟩:=g.put (kkP e.p) e.d; obtain ⟨kvs',a1,a2,a3,a4⟩:=ih (Eg kvs (kkP e.p) e.d) g1; refine ⟨kvs',a1,a2,fun q hq=>?_,fun nd x hx=>?_⟩
   . rw [List.map_cons,List.mem_cons,not_or] at hq
     rw [a3 q hq.2,g3,if_neg fun z=>hq.1 (oM.mp z)]
   . rw [List.map_cons,List.nodup_cons] at nd
     rcases List.mem_cons.mp hx with rfl | hx
     . rw [a3 _ nd.1,g3,if_pos rfl]
     . exact a4 nd.2 x hx
theorem Ys {E:List Et} (h:∀ e∈E,GoodE e):F2 E9 [] N7 (b2 (A2 0) (vC (.int 1)) dIx) (E.map Et.d)=.ok ((E.map Et.p).map id3):=by
 induction E with
 | nil=>rfl
 | cons e E ih =>
   have v:b2 (A2 0) (vC (.int 1)) dIx ([.sh e.d]++[])=.ok (id3 e.p):=B0 rfl rfl (h e (.head _)).id; rw [List.map_cons,List.map_cons,List.map_cons]; unfold F2; simp only [E9,N7,v,ih fun x hx=>h x (.tail _ hx)]
theorem lP {E:List Et} (h:∀ e∈E,GoodE e) (hl:E.length < 64):∃ kvs,X6 [.tuple (E.map Et.d)]=.ok kvs/\(∀ q,q∉E.map Et.p->O7 kvs (kkP q)=none)/\((E.map Et.p).Nodup->∀ e∈E,O7 kvs (kkP e.p)=some e.d):=by
 have hc:F2 E9 [] N7 (L9 (A0 (b2 (A2 0) (vC (.int 1)) dIx) (A0 (A2 0) A7))) (E.map Et.d)=.ok (E.map fun e=>PyData.tuple [id3 e.p,e.d]):=by
   clear hl
   induction E with
   | nil=>rfl
   | cons e E ih =>
     have v:(L9 (A0 (b2 (A2 0) (vC (.int 1)) dIx) (A0 (A2 0) A7))) ([.sh e.d]++[])=.ok (.tuple [id3 e.p,e.d]):=R8 (A4 (B0 rfl rfl (h e (.head _)).id) (A4 rfl rfl)); rw [List.map_cons,List.map_cons]; unfold F2; simp only [E9,N7,v,ih fun x hx=>h x (.tail _ hx)]
 obtain ⟨kvs,a1,a2,a3,a4⟩:=jM E [] fun _ h=>nomatch h
 refine ⟨kvs,?_,fun q hq=>a3 q hq,a4⟩
 unfold X6 fnW Hr Ub
 rw [O6 (δ:=S9 Kl [.tuple (E.map Et.d)]) (L3 (d:=.tuple (E.map Et.d)) rfl rfl) (by rw [List.length_map]; lia) rfl hc,F7,if_pos (by rw [List.length_map]; lia),a1]; rfl
theorem qL {c:Dn->Res Bool} {f g:Dn->Res PyData} {δ:Dn} (h:c δ=.ok true):vIf c f g δ=f δ:=by unfold vIf; rw [h]; rfl
theorem Ww {c:Dn->Res Bool} {f g:Dn->Res PyData} {δ:Dn} (h:c δ=.ok false):vIf c f g δ=g δ:=by unfold vIf; rw [h]; rfl
noncomputable def adn:PyData->Nat
 | .tuple [_,_,_,.str t]=>t.length
 | _=>0
theorem Wm {e:Et} (h:GoodE e):X3 [e.d]=.ok (.int (adn e.d:Int))/\adn e.d<=20:=by
 obtain ⟨w,xs,q,f⟩:=h.form
 rw [q]
 rcases Jv f with ⟨a,b,rfl,rfl,h1,h2⟩ | ⟨a,rfl,rfl,h1⟩ | ⟨a,b,c,rfl,rfl,h1,h2,h3⟩ | ⟨a,rfl,rfl,h1⟩ | ⟨a,rfl,rfl,h1⟩
 . obtain ⟨t,rfl,ht⟩:=Pc h2
   refine ⟨I8 (C0 ?_),?_⟩
   . exact (qL (cwt wIx (by decide +kernel))).trans (N0 (A4 (B0 rfl rfl rfl) rfl) rfl)
   . show t.length<=20
     unfold txS lnB at ht; simp only [Bool.and_eq_true,decide_eq_true_eq] at ht
     lia
 . exact ⟨I8 (C0 (Ww (cwf wIx (by decide +kernel)))),Nat.zero_le _⟩
 . obtain ⟨s1,x1,rfl,_⟩:=Ta h2
   exact ⟨I8 (C0 (Ww (cwf wIx (by decide +kernel)))),Nat.zero_le _⟩
 . exact ⟨I8 (C0 (Ww (cwf wIx (by decide +kernel)))),Nat.zero_le _⟩
 . exact ⟨I8 (C0 (Ww (cwf wIx (by decide +kernel)))),Nat.zero_le _⟩
noncomputable def inE (E:List Et) (s:Sg):Bool:=E.any fun e=>decide (e.p=s.1)&&decide (s.2 < (adn e.d:Int))
noncomputable def inI (E:List Et) (q:IdP):Bool:=decide (q∈E.map Et.p)
noncomputable def okE (E:List Et) (e:Et):Bool:=e.ps.all (inE E)&&e.qs.all (inI E)
theorem qH {E:List Et} {l:List IdP} {f:PyData->Bool} (hf:∀ q,f (id3 q)=inI E q):(l.map id3).all f=l.all (inI E):=by
 rw [List.all_map]; congr 1; funext q; exact hf q
theorem oW {E:List Et} (h:∀ e∈E,GoodE e) (nd:(E.map Et.p).Nodup) {kvs:List (PyData×PyData)} (k1:∀ q,q∉E.map Et.p->O7 kvs (kkP q)=none) (k2:∀ e∈E,O7 kvs (kkP e.p)=some e.d) {e:Et} (he:e∈E):L5 kvs e.d=.ok (.bool (okE E e)):=by
 have N:=(h e he).nm
 have lp:=N.lp
 have lq:=N.lq
 have hin:∀ q,(O7 kvs (kkP q)).isSome=inI E q:=fun q=>by
   unfold inI
   by_cases c:q∈E.map Et.p
   . obtain ⟨x,hx,rfl⟩:=List.mem_map.mp c
     rw [k2 x hx,decide_eq_true c]; rfl
   . rw [k1 q c,decide_eq_false c]; rfl
 let f:PyData->Bool:=fun d=>match d with | .tuple [.int t,.str x]=>inI E (t,x) | _=>false
 have hc:L8 (B2 (vFn (A0 (D1 (G7 (fun δ=>((B4 (A0 (A2 1) A7) K8) δ).bind J2) E9 [0] N7 (sG 1 (A2 0)))) A7) Kb)) [.ow (.dict kvs),.sh e.d]=.ok (!(e.ps.map Prod.fst++e.qs).all (inI E)):=by
   refine L6 (B8 ((Bv (δc:=[.ow (.dict kvs)]) f (L3 (B3 (A4 rfl rfl) N.dn) rfl) (by simp; lia) rfl fun d hd=>?_).trans ?_))
   . obtain ⟨q,_,rfl⟩:=List.mem_map.mp hd
     show Res.ok (PyData.bool (O7 kvs (kkP q)).isSome)=Res.ok (PyData.bool (inI E q))
     rw [hin]
   . rw [qH fun q=>rfl]
 show rIf _ _ _ _=_
 unfold rIf
 rw [hc,F7]
 have key:∀ s∈e.ps,inI E s.1=true->∃ x∈E,x.p=s.1/\O7 kvs (kkP s.1)=some x.d/\inE E s=decide (s.2 < (adn x.d:Int)):=fun s _ hs=>by
   obtain ⟨x,hx,ex⟩:=List.mem_map.mp (of_decide_eq_true hs); refine ⟨x,hx,ex,by rw [<- ex]; exact k2 x hx,?_⟩
   unfold inE; rw [Bool.eq_iff_iff,List.any_eq_true]
   constructor
   . rintro ⟨y,hy,c⟩
     rw [Bool.and_eq_true,decide_eq_true_eq] at c; have:y.d=x.d:=Option.some.inj (by rw [<- k2 y hy,<- k2 x hx,c.1,ex])
     rw [<- this]; exact c.2
   . intro c
     exact ⟨x,hx,by rw [ex,c]; simp⟩
 cases a:(e.ps.map Prod.fst++e.qs).all (inI E) with
 | false =>
   rw [Bool.not_false,if_pos rfl]; show Res.ok (PyData.bool false)=_
   congr 2
   symm
   rw [List.all_append] at a; unfold okE
   cases b:e.qs.all (inI E) with
   | false=>rw [Bool.and_false]
   | true =>
     rw [b,Bool.and_true,List.all_map] at a; rw [Bool.and_true,Bool.eq_false_iff]; intro c; refine absurd (?_:_=true) (Bool.eq_false_iff.mp a); rw [List.all_eq_true] at c ⊢
     intro s hs; have:=c s hs; unfold inE at this; obtain ⟨y,hy,c'⟩:=List.any_eq_true.mp this; rw [Bool.and_eq_true,decide_eq_true_eq] at c'; exact decide_eq_true (by rw [<- c'.1]; exact List.mem_map_of_mem hy)
 | true =>
   rw [Bool.not_true,if_neg (by decide)]; rw [List.all_append,Bool.and_eq_true,List.all_map] at a; unfold okE; rw [a.2,Bool.and_true]
   let g:PyData->Bool:=fun d=>match d with | .tuple [.tuple [.int t,.str x],.int n]=>inE E ((t,x),n) | _=>false
   refine (Bv (δc:=[.ow (.dict kvs)]) g (L3 (B3 (A4 rfl rfl) N.sg) rfl) (by simp; lia) rfl fun d hd=>?_).trans ?_
   . obtain ⟨s,hs,rfl⟩:=List.mem_map.mp hd
     obtain ⟨x,hx,ex,e1,e2⟩:=key s hs (List.all_eq_true.mp a.1 s hs); show _=Res.ok (PyData.bool (inE E s))
     rw [e2]; refine B0 (x:=.int s.2) (y:=.int (adn x.d:Int)) (B0 rfl rfl rfl) (B3 (A4 (d:=x.d) ?_ rfl) (Wm (h x hx)).1) (ltI _ _); show ofO (O7 kvs (kkP s.1))=_
     rw [e1]; rfl
   . rw [List.all_map]; rfl
theorem addLL {x y:List PyData} (h:x.length+y.length<=10000):C7 (.list x) (.list y)=some (.list (x++y)):=by
 show (if _ then _ else _)=_
 rw [if_pos (Nat.le_trans h (by decide))]
noncomputable def evE (e:Et):List Sg:=(List.range (adn e.d)).map fun n:Nat=>(e.p,(n:Int))
noncomputable def evs (E:List Et):List Sg:=E.flatMap evE
theorem gR {x:Str} {xs:List PyData} {a b:Sl}:b2 (A2 2) (vC (.int 0)) dIx [a,b,.sh (.tuple (.str x::xs))]=.ok (.str x):=B0 rfl rfl (fG _ _)
theorem pG {e:Et} (h:GoodE e) (B:PyData) (fd:List PyData) (hf:fd.length<=5000):Mh [.sh B,.sh (.list fd),.sh e.d]=.nx [.sh B,.sh (.list (fd++(evE e).map sg3)),.sh e.d]:=by
 have hn:=(Wm h).2
 obtain ⟨w,xs,q,f⟩:=h.form
 unfold evE
 rw [q] at hn ⊢
 rcases Jv f with ⟨a,b,rfl,rfl,h1,h2⟩ | ⟨a,rfl,rfl,h1⟩ | ⟨a,b,c,rfl,rfl,h1,h2,h3⟩ | ⟨a,rfl,rfl,h1⟩ | ⟨a,rfl,rfl,h1⟩
 . obtain ⟨t,rfl,ht⟩:=Pc h2
   replace hn:t.length<=20:=hn
   have er:U7 0 (t.length:Int)=(List.range t.length).map fun i:Nat=>PyData.int (0+(i:Int)):=by unfold U7; simp
   have g1:=Kd (δc:=[.sh (.tuple [.str "add",id3 e.p,a,.str t])]) (el:=L9 (A0 (b2 (A2 1) (vC (.int 1)) dIx) (A0 (A2 0) A7))) (fun i:Nat=>PyData.int (0+(i:Int))) (fun i=>sg3 (e.p,(i:Int))) (fun i=>by rw [Int.zero_add]; exact R8 (A4 (B0 rfl rfl rfl) (A4 rfl rfl))) (List.range t.length)
   refine (O4 (cwt gR (by decide +kernel))).trans (F1 (B0 rfl (K6 (O6 (ds:=U7 0 (t.length:Int)) (Um (A4 (N0 (A4 (B0 rfl rfl rfl) rfl) rfl) rfl) (by omega) (by omega)) (by rw [er]; simp; omega) rfl (by rw [er]; exact g1))) ?_))
   rw [List.map_map]; exact addLL (x:=fd) (y:=(List.range t.length).map fun i:Nat=>sg3 (e.p,(i:Int))) (by simp; omega)
 . refine (R0 (cwf gR (by decide +kernel))).trans ?_
   show _=Out.nx [.sh B,.sh (.list (fd++[])),_]
   rw [List.append_nil]; rfl
 . obtain ⟨s1,x1,rfl,_⟩:=Ta h2
   refine (R0 (cwf gR (by decide +kernel))).trans ?_
   show _=Out.nx [.sh B,.sh (.list (fd++[])),_]
   rw [List.append_nil]; rfl
 . refine (R0 (cwf gR (by decide +kernel))).trans ?_
   show _=Out.nx [.sh B,.sh (.list (fd++[])),_]
   rw [List.append_nil]; rfl
 . refine (R0 (cwf gR (by decide +kernel))).trans ?_
   show _=Out.nx [.sh B,.sh (.list (fd++[])),_]
   rw [List.append_nil]; rfl
theorem pI {e:Et} (h:GoodE e):(evE e).length<=20:=by unfold evE; simp; exact (Wm h).2
theorem pH (B:PyData):∀ (E:List Et),(∀ e∈E,GoodE e)->∀ (fd:List PyData) (s2:Sl),fd.length+20*E.length<=5000->∃ s2':Sl,P7 (st1 2) Mh (E.map Et.d) [.sh B,.sh (.list fd),s2]=.nx [.sh B,.sh (.list (fd++(evs E).map sg3)),s2']:=by
 intro iN; induction iN with
 | nil=>intro _ fd s2 _; exact ⟨s2,by show Out.nx _=Out.nx [.sh B,.sh (.list (fd++[])),s2]; rw [List.append_nil]⟩
 | cons e E ih =>
   intro h fd s2 hl; simp only [List.length_cons] at hl; have l1:=pI (h e (.head _)); have e1:=pG (h e (.head _)) B fd (by omega)
   obtain ⟨s2',e2⟩:=ih (fun x hx=>h x (.tail _ hx)) (fd++(evE e).map sg3) (.sh e.d) (by simp; omega)
   refine ⟨s2',?_⟩; rw [List.map_cons]; unfold P7; simp only [st1,List.set_cons_zero,List.set_cons_succ]; rw [e1]; refine e2.trans ?_; rw [List.append_assoc,<- List.map_append]; rfl
theorem vK {E:List Et} (h:∀ e∈E,GoodE e) (hl:E.length < 64):D4 [.tuple (E.map Et.d)]=.ok (.list ((evs E).map sg3)):=by
 obtain ⟨s2',e⟩:=pH (.tuple (E.map Et.d)) E h [] .un (by simp; omega)
 rw [List.nil_append] at e
 refine I8 ((C4 (F1 rfl)).trans ((C4 (δ':=[.sh (.tuple (E.map Et.d)),.sh (.list ((evs E).map sg3)),s2']) ?_).trans (C0 rfl)))
 exact e
theorem rR {E:List Et} {s:Sg} (h:0<=s.2):((evs E).map sg3).any (fun y=>PyData.eqv y (sg3 s))=inE E s:=by
 rw [List.any_map,Bool.eq_iff_iff]
 unfold inE evs
 rw [List.any_eq_true,List.any_eq_true]
 constructor
 . rintro ⟨y,hy,c⟩
   obtain ⟨e,he,hy⟩:=List.mem_flatMap.mp hy; unfold evE at hy; obtain ⟨n,hn,rfl⟩:=List.mem_map.mp hy; have c':(e.p,(n:Int))=s:=of_decide_eq_true ((fmS.eq _ _).symm.trans c); refine ⟨e,he,?_⟩; rw [<- c']; have:=List.mem_range.mp hn; simp; omega
 . rintro ⟨e,he,c⟩
   rw [Bool.and_eq_true,decide_eq_true_eq,decide_eq_true_eq] at c; have hr:s.2.toNat < adn e.d:=by omega
   refine ⟨s,List.mem_flatMap.mpr ⟨e,he,List.mem_map.mpr ⟨s.2.toNat,List.mem_range.mpr hr,Prod.ext c.1 (by show ((s.2.toNat:Nat):Int)=s.2; omega)⟩⟩,?_⟩
   exact (fmS.eq s s).trans (decide_eq_true rfl)
theorem id_in {E:List Et} {q:IdP}:((E.map Et.p).map id3).any (fun y=>PyData.eqv y (id3 q))=inI E q:=by
 rw [List.any_map,Bool.eq_iff_iff]
 unfold inI
 rw [List.any_eq_true,decide_eq_true_eq]
 constructor
 . rintro ⟨y,hy,c⟩
   have c':y=q:=of_decide_eq_true ((fmI.eq _ _).symm.trans c); rw [<- c']; exact hy
 . intro h
   exact ⟨q,h,(fmI.eq q q).trans (decide_eq_true rfl)⟩
noncomputable def bkB (E:List Et):Bool:=upB rk8 (E.map Et.p)&&E.all (okE E)
theorem qM {E:List Et} (u:upB rk8 (E.map Et.p)=true):(E.map Et.p).Nodup:=((Uc _).mp u).imp fun {a b} hab e=>by rw [e] at hab; exact Int.lt_irrefl _ hab
theorem pbook {E:List Et} (h:∀ e∈E,GoodE e) (hl:E.length < 64):(C5 V3 De) [.sh (.tuple (E.map Et.d)),.un]=.rt (.bool (bkB E)):=by
 obtain ⟨kvs,a1,a2,a3⟩:=lP h hl
 have h1:V3 [.sh (.tuple (E.map Et.d)),.un]=.nx [.sh (.tuple (E.map Et.d)),.ow (.dict kvs)]:=by
   unfold V3 cH gK; rw [A4 (d:=.tuple (E.map Et.d)) (ds:=[]) rfl rfl,F7,a1]; rfl
 refine (C4 h1).trans (C0 (M0 (B3 (A4 (K6 (O6 (L3 rfl rfl) (by rw [List.length_map]; omega) rfl (Ys h))) rfl) (fmI.rising false (E.map Et.p) (fun p hp=>?_) (by rw [List.length_map]; omega))) fun u=>?_))
 . obtain ⟨e,he,rfl⟩:=List.mem_map.mp hp
   exact (h e he).okp
 . have hh:=fun e he=>oW h (qM u) a2 (a3 (qM u)) (e:=e) he
   let f:PyData->Bool:=fun d=>match L5 kvs d with | .ok (.bool b)=>b | _=>false
   have hf:∀ e∈E,f e.d=okE E e:=fun e he=>by show (match L5 kvs e.d with | .ok (.bool b)=>b | _=>false)=_; rw [hh e he]
   refine (Bv (δc:=[.ow (.dict kvs)]) f (L3 rfl rfl) (by rw [List.length_map]; omega) rfl fun d hd=>?_).trans ?_
   . obtain ⟨e,he,rfl⟩:=List.mem_map.mp hd
     rw [hf e he]; exact hh e he
   . congr 2
     rw [List.all_map,Bool.eq_iff_iff,List.all_eq_true,List.all_eq_true]; exact ⟨fun z e he=>(hf e he).symm.trans (z e he),fun z e he=>(hf e he).trans (z e he)⟩
theorem inL {x:PyData} {ds:List PyData} (hx:x.depth<=4):dIn true x (.list ds)=some (.bool (!ds.any fun y=>PyData.eqv y x)):=by
 unfold dIn
 dsimp only
 rw [if_pos (Nat.le_trans (Nat.min_le_right _ _) (by lia)),if_pos rfl]
noncomputable def lR:Dn->Out:=(C5 (Pn 4 5 (B4 (A0 (A2 3) A7) F5)) (sIf (cOr (B2 (b2 (D1 (G7 (fun δ=>((A2 4) δ).bind J2) E9 [2] (B2 (b2 (A2 0) (A2 1) (dIn true))) (A2 0))) (D1 A7) dNe)) (B2 (b2 (D1 (G7 (fun δ=>((A2 5) δ).bind J2) E9 [1] (B2 (b2 (A2 0) (A2 1) (dIn true))) (A2 0))) (D1 A7) dNe))) (E5 (vC (.bool false))) F4))
theorem uS {E:List Et} {e:Et} (g:GoodE e) (T:PyData):cOr (B2 (b2 (D1 (G7 (fun δ=>((A2 4) δ).bind J2) E9 [2] (B2 (b2 (A2 0) (A2 1) (dIn true))) (A2 0))) (D1 A7) dNe)) (B2 (b2 (D1 (G7 (fun δ=>((A2 5) δ).bind J2) E9 [1] (B2 (b2 (A2 0) (A2 1) (dIn true))) (A2 0))) (D1 A7) dNe)) [.sh T,.sh (.list ((E.map Et.p).map id3)),.sh (.list ((evs E).map sg3)),.sh e.d,.sh (.list (e.ps.map sg3)),.sh (.list (e.qs.map id3))]=.ok (!okE E e):=by
 have N:=g.nm
 have lp:=N.lp
 have lq:=N.lq
 have c1:=Jp (δ:=[.sh T,.sh (.list ((E.map Et.p).map id3)),.sh (.list ((evs E).map sg3)),.sh e.d,.sh (.list (e.ps.map sg3)),.sh (.list (e.qs.map id3))]) (cap:=[2]) (δc:=[.sh (.list ((evs E).map sg3))]) (tt:=B2 (b2 (A2 0) (A2 1) (dIn true))) (src:=fun δ=>((A2 4) δ).bind J2) (ds:=e.ps.map sg3) (fun d=>((evs E).map sg3).any (fun y=>PyData.eqv y d)) (L3 rfl rfl) (by simp; lia) rfl fun d hd=>by
   obtain ⟨s,hs,rfl⟩:=List.mem_map.mp hd; exact B8 (B0 rfl rfl (inL (fmS.dep s)))
 have c2:=Jp (δ:=[.sh T,.sh (.list ((E.map Et.p).map id3)),.sh (.list ((evs E).map sg3)),.sh e.d,.sh (.list (e.ps.map sg3)),.sh (.list (e.qs.map id3))]) (cap:=[1]) (δc:=[.sh (.list ((E.map Et.p).map id3))]) (tt:=B2 (b2 (A2 0) (A2 1) (dIn true))) (src:=fun δ=>((A2 5) δ).bind J2) (ds:=e.qs.map id3) (fun d=>((E.map Et.p).map id3).any (fun y=>PyData.eqv y d)) (L3 rfl rfl) (by simp; lia) rfl fun d hd=>by
   obtain ⟨s,hs,rfl⟩:=List.mem_map.mp hd; exact B8 (B0 rfl rfl (inL (fmI.dep s)))
 refine (Q6 (B8 c1) fun _=>B8 c2).trans ?_
 congr 1
 rw [List.all_map,List.all_map,<- Bool.not_and]
 unfold okE
 congr 2
 . rw [Bool.eq_iff_iff,List.all_eq_true,List.all_eq_true]
   exact ⟨fun z s hs=>(rR (N.gp s hs).2.2).symm.trans (z s hs),fun z s hs=>(rR (N.gp s hs).2.2).trans (z s hs)⟩
 . congr 1; funext q; exact id_in
theorem uQ {E:List Et} {e:Et} (g:GoodE e) (T:PyData) (s4 s5:Sl):lR [.sh T,.sh (.list ((E.map Et.p).map id3)),.sh (.list ((evs E).map sg3)),.sh e.d,s4,s5]=if okE E e=true then .nx [.sh T,.sh (.list ((E.map Et.p).map id3)),.sh (.list ((evs E).map sg3)),.sh e.d,.sh (.list (e.ps.map sg3)),.sh (.list (e.qs.map id3))] else .rt (.bool false):=by
 have h2:Pn 4 5 (B4 (A0 (A2 3) A7) F5) [.sh T,.sh (.list ((E.map Et.p).map id3)),.sh (.list ((evs E).map sg3)),.sh e.d,s4,s5]=.nx [.sh T,.sh (.list ((E.map Et.p).map id3)),.sh (.list ((evs E).map sg3)),.sh e.d,.sh (.list (e.ps.map sg3)),.sh (.list (e.qs.map id3))]:=by
   unfold Pn; rw [B3 (A4 rfl rfl) g.nm.lw]; rfl
 refine (C4 h2).trans ?_
 have hc:=uS (E:=E) g T
 cases q:okE E e with
 | true=>rw [q] at hc; exact R0 hc
 | false=>rw [q] at hc; exact (O4 hc).trans (C0 rfl)
theorem uR {E:List Et} (T:PyData):∀ (R:List Et),(∀ e∈R,GoodE e)->∀ s3 s4 s5:Sl,(R.all (okE E)=true->∃ s3' s4' s5',P7 (st1 3) lR (R.map Et.d) [.sh T,.sh (.list ((E.map Et.p).map id3)),.sh (.list ((evs E).map sg3)),s3,s4,s5]=.nx [.sh T,.sh (.list ((E.map Et.p).map id3)),.sh (.list ((evs E).map sg3)),s3',s4',s5'])/\(R.all (okE E)=false->P7 (st1 3) lR (R.map Et.d) [.sh T,.sh (.list ((E.map Et.p).map id3)),.sh (.list ((evs E).map sg3)),s3,s4,s5]=.rt (.bool false)):=by
 intro iN; induction iN with
 | nil=>intro _ s3 s4 s5; exact ⟨fun _=>⟨s3,s4,s5,rfl⟩,fun z=>by cases z⟩
 | cons e R ih =>
   intro h s3 s4 s5; have e1:=uQ (E:=E) (h e (.head _)) T s4 s5; obtain ⟨i1,i2⟩:=ih (fun x hx=>h x (.tail _ hx)) (.sh e.d) (.sh (.list (e.ps.map sg3))) (.sh (.list (e.qs.map id3)))
   rw [List.map_cons,List.all_cons]; unfold P7; simp only [st1,List.set_cons_zero,List.set_cons_succ]; rw [e1]
   cases q:okE E e with
   | true=>rw [if_pos rfl,Bool.true_and]; exact ⟨i1,i2⟩
   | false=>rw [if_neg (by decide),Bool.false_and]; exact ⟨fun z=>ff z,fun _=>rfl⟩
theorem lbook {E:List Et} (h:∀ e∈E,GoodE e) (hl:E.length < 64):(C5 V5 (C5 V4 (C5 S7 S0))) [.sh (.tuple (E.map Et.d)),.un,.un,.un,.un,.un]=.rt (.bool (bkB E)):=by
 refine (C4 (F1 (K6 (O6 (L3 rfl rfl) (by rw [List.length_map]; lia) rfl (Ys h))))).trans ((C4 (F1 (B3 (A4 rfl rfl) (vK h hl)))).trans ?_)
 show C5 S7 S0 [.sh (.tuple (E.map Et.d)),.sh (.list ((E.map Et.p).map id3)),.sh (.list ((evs E).map sg3)),.un,.un,.un]=_
 obtain ⟨i1,i2⟩:=uR (E:=E) (.tuple (E.map Et.d)) E h .un .un .un
 unfold bkB
 cases q:E.all (okE E) with
 | false=>rw [Bool.and_false]; exact L4 (i2 q)
 | true =>
   rw [Bool.and_true]; obtain ⟨s3,s4,s5,e⟩:=i1 q; have hok:∀ p∈E.map Et.p,okM p.2=true:=fun p hp=>by obtain ⟨x,hx,rfl⟩:=List.mem_map.mp hp; exact (h x hx).okp
   exact (C4 e).trans (C0 (B0 rfl (N0 (A4 rfl rfl) (sK_id (by rw [List.length_map]; exact hl) hok)) (fmI.srt _ hok)))
def SzB (d:PyData):Prop:=∀ xs,d=.tuple xs->xs.length < 64/\∀ x∈xs,SzD x
noncomputable def db (x:PyData):Bool:=match D8 [x] with | .ok (.bool b)=>b | _=>false
theorem Yn {x:PyData} (z:SzD x):D8 [x]=.ok (.bool (db x))/\B7 [x]=.ok (.bool (db x))/\(db x=true->∃ p ps qs,GoodD x p ps qs):=by
 obtain ⟨b,h1,h2,h3⟩:=fR x z
 have:db x=b:=by unfold db; rw [h1]
 rw [this]; exact ⟨h1,h2,h3⟩
noncomputable def gB:PyData->Bool | .tuple xs=>xs.all db | _=>false
theorem gI (d:PyData) (z:SzB d):∃ b,K2 [d]=.ok (.bool b)/\C9 [d]=.ok (.bool b):=by
 have hp:cOr (L8 (B2 (b1 (A2 0) fun d=>some (.bool (K9 "tuple" d))))) (L8 (B2 (vFn (A0 (D1 (G7 (fun δ=>((A2 0) δ).bind J2) E9 [] N7 (B4 (A0 (A2 0) A7) D8))) A7) Kb))) [.sh d,.un]=.ok (!gB d):=by
   refine (Q6 (a := !Im d) (b := !gB d) (L6 (B8 (Q0 rfl (by rw [isT])))) fun t=>?_).trans (by cases d <;> rfl)
   cases d with
   | tuple xs =>
     obtain ⟨z1,z2⟩:=z xs rfl; exact L6 (B8 (Bv db (L3 rfl rfl) (by lia) rfl fun d hd=>B3 (A4 rfl rfl) (Yn (z2 d hd)).1))
   | _=>cases t
 have hl:cOr (L8 (B2 (b1 (A2 0) fun d=>some (.bool (K9 "tuple" d))))) (B2 (b2 (D1 (G7 (fun δ=>((A2 0) δ).bind J2) E9 [] (L8 (B2 (B4 (A0 (A2 0) A7) B7))) (A2 0))) (D1 A7) dNe)) [.sh d,.un,.un,.un,.un,.un]=.ok (!gB d):=by
   refine (Q6 (a := !Im d) (b := !gB d) (L6 (B8 (Q0 rfl (by rw [isT])))) fun t=>?_).trans (by cases d <;> rfl)
   cases d with
   | tuple xs =>
     obtain ⟨z1,z2⟩:=z xs rfl; exact B8 (Jp db (L3 rfl rfl) (by lia) rfl fun d hd=>L6 (B8 (B3 (A4 rfl rfl) (Yn (z2 d hd)).2.1)))
   | _=>cases t
 cases q:gB d with
 | false =>
   rw [q] at hp hl; exact ⟨false,I8 (L4 ((O4 hp).trans (C0 rfl))),I8 (L4 ((O4 hl).trans (C0 rfl)))⟩
 | true =>
   rw [q] at hp hl
   cases d with
   | tuple xs =>
     obtain ⟨z1,z2⟩:=z xs rfl; obtain ⟨E,e1,e2⟩:=vL xs fun x hx=>(Yn (z2 x hx)).2.2 (List.all_eq_true.mp q x hx)
     subst e1; rw [List.length_map] at z1; exact ⟨bkB E,I8 ((D7 hp).trans (pbook e2 z1)),I8 ((D7 hl).trans (lbook e2 z1))⟩
   | _=>cases q
inductive Bd (k:Nat):PyData->Prop
 | none:Bd k .none
 | bool (b:Bool):Bd k (.bool b)
 | int {i:Int}:i.natAbs < 100000->Bd k (.int i)
 | str (x:Str):Bd k (.str x)
 | tup {ds:List PyData}:ds.length<=k->(∀ d∈ds,Bd k d)->Bd k (.tuple ds)
 | lst {ds:List PyData}:ds.length<=k->(∀ d∈ds,Bd k d)->Bd k (.list ds)
theorem Bd.szS {ds:List PyData} (h:Bd 62 (.tuple ds)):SzS ds:=by
 cases h with
 | tup hl h =>
   refine ⟨by omega,fun a n hm=>?_⟩
   cases h _ hm with
   | tup _ h2 =>
     cases h2 (.int n) (by simp) with
     | int hi=>omega
theorem Bd.szP {d:PyData} (h:Bd 62 d):SzP d:=fun ds e=>by subst e; exact h.szS
theorem Bd.szD {d:PyData} (h:Bd 62 d):SzD d:=fun w i xs e x hx=>by
 subst e
 cases h with
 | tup hl h=>exact (h x (.tail _ (.tail _ hx))).szP
theorem Bd.szB {d:PyData} (h:Bd 62 d):SzB d:=fun xs e=>by
 subst e
 cases h with
 | tup hl h=>exact ⟨by omega,fun x hx=>(h x hx).szD⟩
noncomputable def bdc:Nat->PyData->Bool
 | 0,_=>false
 | _+1,.none=>true
 | _+1,.bool _=>true
 | _+1,.str _=>true
 | _+1,.int i=>decide (i.natAbs < 100000)
 | n+1,.tuple ds=>decide (ds.length<=62)&&ds.all (bdc n)
 | n+1,.list ds=>decide (ds.length<=62)&&ds.all (bdc n)
 | _+1,_=>false
theorem Qu:∀ (n:Nat) (d:PyData),bdc n d=true->Bd 62 d
 | 0,_,h=>by cases h
 | n+1,.none,_=>.none
 | n+1,.bool b,_=>.bool b
 | n+1,.str x,_=>.str x
 | n+1,.int i,h=>.int (of_decide_eq_true h)
 | n+1,.tuple ds,h=>by
   have h':decide (ds.length<=62)=true/\ds.all (bdc n)=true:=by simpa [bdc] using h
   exact .tup (of_decide_eq_true h'.1) fun d hd=>Qu n d (List.all_eq_true.mp h'.2 d hd)
 | n+1,.list ds,h=>by
   have h':decide (ds.length<=62)=true/\ds.all (bdc n)=true:=by simpa [bdc] using h
   exact .lst (of_decide_eq_true h'.1) fun d hd=>Qu n d (List.all_eq_true.mp h'.2 d hd)
 | n+1,.dict _,h=>by cases h
inductive Cl:PyData->Prop
 | none:Cl .none
 | int (n:Nat):n<=20->Cl (.int (n:Int))
 | str (x:Str):Cl (.str x)
 | tup {ds:List PyData}:ds.length<=31->(∀ d∈ds,Cl d)->Cl (.tuple ds)
theorem Cl.bd {d:PyData} (h:Cl d):Bd 62 d:=by
 induction h with
 | none=>exact .none
 | int n h=>exact .int (by omega)
 | str x=>exact .str x
 | tup hl h ih=>exact .tup (by omega) ih
noncomputable def odL:List PyData:=[.int (-1),.int 0,.int 1,.int 2,.bool true,.bool false,.none,.str "",.str "a",.str "i",.str "l",.str "add",.str "undo",.tuple [],.list [],.tuple [.int 1,.str "a"],.tuple [.int 0,.str "a"],.tuple [.int 1,.str "ab"]]
noncomputable def odM:List PyData:=[.tuple [.tuple [.int 1,.str "a"],.int 0],.tuple [.tuple [.int 1,.str "a"],.int (-1)],.tuple [.none,.str "l"],.tuple [.none,.str "x"],.tuple [.str "add",.tuple [.int 1,.str "a"],.none,.str "x"]]
theorem od_bd:∀ x∈odL++odM,Bd 62 x:=fun x hx=>Qu 5 x (List.all_eq_true.mp (by decide +kernel:(odL++odM).all (bdc 5)=true) x hx)
theorem rG {x:Str} {n:Int} (h : -(2 ^ 63)<=n/\n < 2 ^ 63/\x.length*n.toNat<=sizeLine):M3 (.str x) (.int n)=some (.str (P0 n.toNat x)):=by
 show (if _ then _ else _)=_
 rw [if_pos h]
theorem x21:∃ y,M3 (.str "x") (.int 21)=some (.str y):=⟨_,rG ⟨by decide,by decide,by decide⟩⟩
theorem uJ (u:Int):∃ r,Be [.int u]=.ok r/\Bd 62 r:=by
 obtain ⟨y,hy⟩:=x21
 have hlen:((odL++odM)++[PyData.str "\n",.str y]).length=25:=rfl
 obtain ⟨x,hx,e⟩:=ixL (xs:=(odL++odM)++[PyData.str "\n",.str y]) (i:=u % 25) (Int.emod_nonneg _ (by decide)) (by rw [hlen]; exact Int.emod_lt_of_pos _ (by decide))
 refine ⟨x,I8 ((C4 (F1 (d:=.list odL) rfl)).trans ((C4 (F1 (d:=.list (odL++odM)) (B0 (x:=.list odL) (y:=.list odM) rfl rfl (Kk (by decide))))).trans (C0 (B0 (B0 (x:=.list (odL++odM)) (y:=.list [PyData.str "\n",.str y]) rfl (K6 (A4 rfl (A4 (B0 rfl rfl hy) rfl))) (Kk (by rw [List.length_append]; show 18+5+2<=1000; decide))) (B0 rfl rfl (Sd (by decide))) e)))),?_⟩
 rcases List.mem_append.mp hx with h | h
 . exact od_bd x h
 . rcases List.mem_cons.mp h with rfl | h
   . exact .str _
   . cases List.mem_singleton.mp h; exact .str _
theorem rF {xs:List PyData} (h:xs≠[]) (hl:xs.length<=31):M3 (.tuple xs) (.int 2)=some (.tuple (List.replicate 2 xs).flatten):=by
 show (if _ then _ else _)=_
 rw [if_pos ⟨by decide,by decide,h,Nat.le_trans (Nat.mul_le_mul_right _ hl) (by decide)⟩]; rfl
theorem Kc {xs:List PyData} {lo hi:Option Int} {x:PyData} (h:x∈V1 xs lo hi):x∈xs:=by
 unfold V1 at h
 exact List.mem_of_mem_drop (List.mem_of_mem_take h)
theorem Bd.cut {xs:List PyData} (h:Bd 62 (.tuple xs)) (lo hi:Option Int):Bd 62 (.tuple (V1 xs lo hi)):=by
 cases h with
 | tup hl h=>exact .tup (Nat.le_trans (Gc _ _ _) hl) fun d hd=>h d (Kc hd)
theorem ixLB {xs:List PyData} {i:Int} {k:Nat} (h:∀ x∈xs,Bd k x) (h0:0<=i) (hi:i < (xs.length:Int)):∃ x,Bd k x/\dIx (.list xs) (.int i)=some x:=by
 obtain ⟨x,hx,e⟩:=ixL h0 hi
 exact ⟨x,h x hx,e⟩
theorem dW:∀ n:Nat,n<=20->∃ y,Hf [.int (n:Int)]=some (.str y):=fun n h=>by
 have:∀ m:Nat,m < 21->(Hf [.int (m:Int)]).isSome=true:=by decide +kernel
 have h1:=this n (by omega)
 cases q:Hf [.int (n:Int)] with
 | none=>rw [q] at h1; cases h1
 | some y =>
   unfold Hf at q; dsimp only at q
   split at q
   . cases q; exact ⟨_,rfl⟩
   . cases q
theorem qQ (u:Int):0<=u / 14 % 6/\u / 14 % 6 < 6:=⟨Int.emod_nonneg _ (by decide),Int.emod_lt_of_pos _ (by decide)⟩
theorem idx6 {δ:Dn} {u:Int} (h:A2 1 δ=.ok (.int u)):b2 (b2 (A2 1) (vC (.int 14)) Q3) (vC (.int 6)) W0 δ=.ok (.int (u / 14 % 6)):=B0 (B0 h rfl (Vt (by decide) (by decide))) rfl (Sd (by decide))
theorem half {δ:Dn} {u:Int} (h:A2 1 δ=.ok (.int u)):B2 (b2 (b2 (b2 (A2 1) (vC (.int 7)) Q3) (vC (.int 2)) W0) (vC (.int 0)) dEq) δ=.ok (u / 7 % 2==0):=B8 (B0 (B0 (B0 h rfl (Vt (by decide) (by decide))) rfl (Sd (by decide))) rfl (Qi _ _))
theorem mS {xs:List PyData} (c:Cl (.tuple xs)) (hn:xs≠[]) (u:Int) (r:Dn):∃ x,Bd 62 x/\b2 (D1 (A0 (vFn (A0 (A2 0) A7) Y7) (A0 (vSl (A2 0) P1 (O5 (b1 (vC (.int 1)) Ka))) (A0 (b2 (A2 0) (vSl (A2 0) (O5 (b1 (vC (.int 1)) Ka)) P1) C7) (A0 (vSl (A2 0) (O5 (vC (.int 1))) P1) (A0 (b1 (A2 0) fV) (A0 (b2 (A2 0) (vC (.int 2)) M3) A7))))))) (b2 (b2 (A2 1) (vC (.int 14)) Q3) (vC (.int 6)) W0) dIx (.sh (.tuple xs)::.sh (.int u)::r)=.ok x:=by
 have hb:=c.bd
 obtain ⟨h1,h2⟩:=qQ u
 have hl:xs.length<=31:=by cases c with | tup hl h=>exact hl
 have hm:∀ d∈xs,Bd 62 d:=by cases hb with | tup hl h=>exact h
 have hlast:(V1 xs (some (-1)) none).length<=xs.length:=Gc _ _ _
 obtain ⟨x,bx,e⟩:=ixLB (xs:=[.list xs,.tuple (V1 xs none (some (-1))),.tuple (xs++V1 xs (some (-1)) none),.tuple (V1 xs (some 1) none),.tuple xs.reverse,.tuple (List.replicate 2 xs).flatten]) (k:=62) (fun x hx=>by
   simp only [List.mem_cons,List.mem_singleton,List.not_mem_nil,or_false] at hx; rcases hx with rfl | rfl | rfl | rfl | rfl | rfl
   . exact .lst (by omega) hm
   . exact hb.cut _ _
   . exact .tup (by rw [List.length_append]; omega) fun d hd=>(List.mem_append.mp hd).elim (hm d) fun z=>hm d (Kc z)
   . exact hb.cut _ _
   . exact .tup (by rw [List.length_reverse]; omega) fun d hd=>hm d (List.mem_reverse.mp hd)
   . exact .tup (by simp [List.replicate]; omega) fun d hd=>hm d (by simpa [List.replicate] using hd)) h1 h2
 exact ⟨x,bx,B0 (K6 (A4 (N0 (A4 rfl rfl) rfl) (A4 (W2 rfl rfl rfl rfl) (A4 (B0 rfl (W2 rfl rfl rfl rfl) (Wn (by omega))) (A4 (W2 rfl rfl rfl rfl) (A4 (Q0 rfl rfl) (A4 (B0 rfl rfl (rF hn hl)) rfl))))))) (idx6 rfl) e⟩
theorem mT (n:Nat) (hn:n<=20) (u:Int) (r:Dn):∃ x,Bd 62 x/\b2 (D1 (A0 (vFn (A0 (A2 0) A7) Hf) (A0 (b2 (vC (.int 0)) (A2 0) Jz) (A0 (b2 (A2 0) (vC (.int 1)) C7) (A0 (b2 (A2 0) (vC (.int 1)) dEq) (A0 (b2 (A2 0) (vC (.int 1)) Jz) (A0 (b2 (A2 0) (vC (.int 9)) C7) A7))))))) (b2 (b2 (A2 1) (vC (.int 14)) Q3) (vC (.int 6)) W0) dIx (.sh (.int (n:Int))::.sh (.int u)::r)=.ok x:=by
 obtain ⟨h1,h2⟩:=qQ u
 obtain ⟨y,ey⟩:=dW n hn
 obtain ⟨x,bx,e⟩:=ixLB (xs:=[.str y,.int (0 - (n:Int)),.int ((n:Int)+1),.bool ((n:Int)==1),.int ((n:Int) - 1),.int ((n:Int)+9)]) (k:=62) (fun x hx=>by
   simp only [List.mem_cons,List.mem_singleton,List.not_mem_nil,or_false] at hx; rcases hx with rfl | rfl | rfl | rfl | rfl | rfl
   . exact .str _
   . exact .int (by omega)
   . exact .int (by omega)
   . exact .bool _
   . exact .int (by omega)
   . exact .int (by omega)) h1 h2
 exact ⟨x,bx,B0 (K6 (A4 (N0 (A4 rfl rfl) ey) (A4 (B0 rfl rfl rfl) (A4 (B0 rfl rfl X9) (A4 (B0 rfl rfl (Qi _ _)) (A4 (B0 rfl rfl rfl) (A4 (B0 rfl rfl X9) rfl))))))) (idx6 rfl) e⟩
theorem Da {f g:Dn->Res Bool} {δ:Dn} {a b:Bool} (h1:f δ=.ok a) (h2:a=true->g δ=.ok b):Q1 f g δ=.ok (a&&b):=by
 cases a with
 | false=>exact Wc h1
 | true=>unfold Q1; rw [h1,F7,if_pos rfl,h2 rfl]; rfl
theorem gt0 (a:Int):T8 .Gt (.int a) (.int 0)=some (.bool (decide (0 < a))):=rfl
noncomputable def neB:PyData->Bool | .tuple xs=>decide (0 < (xs.length:Int)) | _=>false
theorem jW {xs:List PyData} (h:neB (.tuple xs)=true):xs≠[]:=fun e=>by subst e; cases h
theorem mO {d:PyData} (c:Cl d) (u:Int) (r:Dn):∃ x,Bd 62 x/\(C5 (sIf (Q1 (B2 (b1 (A2 0) fun d=>some (.bool (K9 "tuple" d)))) (Q1 (B2 (b2 (vFn (A0 (A2 0) A7) K4) (vC (.int 0)) (T8 .Gt))) (B2 (b2 (b2 (b2 (A2 1) (vC (.int 7)) Q3) (vC (.int 2)) W0) (vC (.int 0)) dEq)))) (E5 (b2 (D1 (A0 (vFn (A0 (A2 0) A7) Y7) (A0 (vSl (A2 0) P1 (O5 (b1 (vC (.int 1)) Ka))) (A0 (b2 (A2 0) (vSl (A2 0) (O5 (b1 (vC (.int 1)) Ka)) P1) C7) (A0 (vSl (A2 0) (O5 (vC (.int 1))) P1) (A0 (b1 (A2 0) fV) (A0 (b2 (A2 0) (vC (.int 2)) M3) A7))))))) (b2 (b2 (A2 1) (vC (.int 14)) Q3) (vC (.int 6)) W0) dIx)) F4) (C5 (sIf (Q1 (B2 (b1 (A2 0) fun d=>some (.bool (K9 "int" d)))) (B2 (b2 (b2 (b2 (A2 1) (vC (.int 7)) Q3) (vC (.int 2)) W0) (vC (.int 0)) dEq))) (E5 (b2 (D1 (A0 (vFn (A0 (A2 0) A7) Hf) (A0 (b2 (vC (.int 0)) (A2 0) Jz) (A0 (b2 (A2 0) (vC (.int 1)) C7) (A0 (b2 (A2 0) (vC (.int 1)) dEq) (A0 (b2 (A2 0) (vC (.int 1)) Jz) (A0 (b2 (A2 0) (vC (.int 9)) C7) A7))))))) (b2 (b2 (A2 1) (vC (.int 14)) Q3) (vC (.int 6)) W0) dIx)) F4) (E5 (B4 (A0 (b2 (A2 1) (vC (.int 7)) Q3) A7) Be)))) (.sh d::.sh (.int u)::r)=.rt x:=by
 have hc2:(Q1 (B2 (b1 (A2 0) fun d=>some (.bool (K9 "tuple" d)))) (Q1 (B2 (b2 (vFn (A0 (A2 0) A7) K4) (vC (.int 0)) (T8 .Gt))) (B2 (b2 (b2 (b2 (A2 1) (vC (.int 7)) Q3) (vC (.int 2)) W0) (vC (.int 0)) dEq)))) (.sh d::.sh (.int u)::r)=.ok (neB d&&(u / 7 % 2==0)):=by
   refine (Da (a:=Im d) (b:=neB d&&(u / 7 % 2==0)) (B8 (Q0 rfl (by rw [isT]))) fun z=>?_).trans (by cases d <;> rfl)
   cases d with
   | tuple xs=>exact Da (B8 (B0 (x:=.int (xs.length:Int)) rfl rfl (gt0 _))) fun _=>half rfl
   | _=>cases z
 have hc3:(Q1 (B2 (b1 (A2 0) fun d=>some (.bool (K9 "int" d)))) (B2 (b2 (b2 (b2 (A2 1) (vC (.int 7)) Q3) (vC (.int 2)) W0) (vC (.int 0)) dEq))) (.sh d::.sh (.int u)::r)=.ok (mJ d&&(u / 7 % 2==0)):=Da (B8 (Q0 rfl (by rw [isI]))) fun _=>half rfl
 cases q:(neB d&&(u / 7 % 2==0)) with
 | true =>
   rw [q] at hc2; rw [Bool.and_eq_true] at q
   cases d with
   | tuple xs =>
     obtain ⟨x,bx,e⟩:=mS c (jW q.1) u r; exact ⟨x,bx,L4 ((O4 hc2).trans (C0 e))⟩
   | _=>cases q.1
 | false =>
   rw [q] at hc2
   cases q3:(mJ d&&(u / 7 % 2==0)) with
   | true =>
     rw [q3] at hc3; rw [Bool.and_eq_true] at q3
     cases c with
     | int n hn =>
       obtain ⟨x,bx,e⟩:=mT n hn u r; exact ⟨x,bx,(D7 hc2).trans (L4 ((O4 hc3).trans (C0 e)))⟩
     | _=>cases q3.1
   | false =>
     rw [q3] at hc3; obtain ⟨x,e,bx⟩:=uJ (u / 7); exact ⟨x,bx,(D7 hc2).trans ((D7 hc3).trans (C0 (B3 (A4 (B0 rfl rfl (Vt (by decide) (by decide))) rfl) e)))⟩
theorem eC:∀ (n k:Nat),k < n->∀ (d:PyData),Cl d->∀ u:Int,∃ x,Bd 62 x/\C8 n [d,.int u,.int (k:Int)]=.ok x:=by
 intro iN; induction iN with
 | zero=>intro k h _ _ _; exact absurd h (Nat.not_lt_zero _)
 | succ n ih =>
   intro k hk d c u; have hc1:(Q1 (B2 (b2 (A2 2) (vC (.int 0)) (T8 .Gt))) (Q1 (B2 (b1 (A2 0) fun d=>some (.bool (K9 "tuple" d)))) (Q1 (B2 (b2 (vFn (A0 (A2 0) A7) K4) (vC (.int 0)) (T8 .Gt))) (B2 (b2 (b2 (A2 1) (vC (.int 7)) W0) (vC (.int 0)) (T8 .Gt)))))) [.sh d,.sh (.int u),.sh (.int (k:Int)),.un,.un]=.ok (decide (0 < (k:Int))&&(neB d&&decide (0 < u % 7))):=by
     refine Da (B8 (B0 rfl rfl (gt0 _))) fun _=>(Da (a:=Im d) (b:=neB d&&decide (0 < u % 7)) (B8 (Q0 rfl (by rw [isT]))) fun z=>?_).trans (by cases d <;> rfl)
     cases d with
     | tuple xs=>exact Da (B8 (B0 (x:=.int (xs.length:Int)) rfl rfl (gt0 _))) fun _=>B8 (B0 (B0 rfl rfl (Sd (by decide))) rfl (gt0 _))
     | _=>cases z
   cases q:(decide (0 < (k:Int))&&(neB d&&decide (0 < u % 7))) with
   | false =>
     rw [q] at hc1; obtain ⟨x,bx,e⟩:=mO c u [.sh (.int (k:Int)),.un,.un]; exact ⟨x,bx,I8 ((D7 hc1).trans e)⟩
   | true =>
     rw [q] at hc1; rw [Bool.and_eq_true,Bool.and_eq_true,decide_eq_true_eq] at q
     cases c with
     | @tup xs hl hm =>
       have hne:=jW q.2.1; have hpos:0 < xs.length:=List.length_pos_iff.mpr hne
       let a:Nat:=(u / 7 % (xs.length:Int)).toNat
       have ha0:0<=u / 7 % (xs.length:Int):=Int.emod_nonneg _ (by lia)
       have ha1:u / 7 % (xs.length:Int) < xs.length:=Int.emod_lt_of_pos _ (by lia)
       have ea:u / 7 % (xs.length:Int)=(a:Int):=by show _=(((u / 7 % (xs.length:Int)).toNat:Nat):Int); lia
       have hal:a < xs.length:=by lia
       have hk1:((k:Int) - 1)=((k - 1:Nat):Int):=by lia
       obtain ⟨x,bx,e⟩:=ih (k - 1) (by lia) xs[a] (hm _ (List.getElem_mem hal)) (u / 91)
       refine ⟨.tuple (xs.take a++[x]++xs.drop (a+1)),.tup (by simp; lia) fun y hy=>?_,I8 (L4 ((O4 hc1).trans ((C4 (F1 (d:=.int (a:Int)) (B0 (x:=.int (u / 7)) (y:=.int (xs.length:Int)) (B0 rfl rfl (Vt (by decide) (by decide))) rfl (by rw [Sd (by lia),ea])))).trans ((C4 (F1 (d:=x) (B3 (A4 (d:=xs[a]) (B0 rfl rfl (P6 hal)) (A4 (d:=.int (u / 91)) (B0 rfl rfl (Vt (by decide) (by decide))) (A4 (d:=.int ((k - 1:Nat):Int)) (B0 rfl rfl (by rw [<- hk1]; rfl)) rfl))) e))).trans (C0 ?_)))))⟩
       . rcases List.mem_append.mp hy with hy | hy
         . rcases List.mem_append.mp hy with hy | hy
           . exact (hm y (List.mem_of_mem_take hy)).bd
           . cases List.mem_singleton.mp hy; exact bx
         . exact (hm y (List.mem_of_mem_drop hy)).bd
       . exact B0 (B0 (W2 rfl rfl rfl (congrArg (fun l=>some (PyData.tuple l)) (pW xs a (by lia)))) rfl (Wn (by simp; lia))) (W2 (l:=some ((a+1:Nat):Int)) rfl rfl rfl (congrArg (fun l=>some (PyData.tuple l)) (dB xs (a+1) (by lia)))) (Wn (by simp; lia))
     | _=>cases q.2.1
theorem Cl.nat {i:Int} (h0:0<=i) (h:i<=20):Cl (.int i):=by
 have:i=(i.toNat:Int):=by lia
 rw [this]; exact .int _ (by lia)
theorem Cl.id {p:IdP} (h:okI p):Cl (idP p):=.tup (by simp) fun d hd=>by
 simp only [List.mem_cons,List.not_mem_nil,or_false] at hd
 rcases hd with rfl | rfl
 . exact .nat (by have:=h.1; lia) (by have:=h.2.1; lia)
 . exact .str _
theorem Cl.two {a b:PyData} (ha:Cl a) (hb:Cl b):Cl (.tuple [a,b]):=.tup (by simp) fun d hd=>by
 simp only [List.mem_cons,List.not_mem_nil,or_false] at hd
 rcases hd with rfl | rfl
 . exact ha
 . exact hb
theorem qS {L:List Dp} (hB:BkW L) {T:Int} {x:PyData} (h:SgOf T (L.map (·.1)) x):Cl x:=by
 obtain ⟨p,b,w,n,m,rfl,hn,_,ho⟩:=h
 obtain ⟨e,he,q⟩:=List.mem_map.mp m
 have hw:w.length<=4:=by
   obtain ⟨_,r⟩:=hB.1 e he; rw [q] at r; rcases r with ⟨b',w',e',_,hw⟩ | ⟨sg,e',_⟩ | ⟨_,_,_,_,_,e',_⟩ | ⟨_,e',_⟩ | ⟨_,e',_⟩
   . simp only [PyData.tuple.injEq,List.cons.injEq,PyData.str.injEq] at e'; rw [e'.2.2.2.1]; exact hw.2.1
   . cases e'
   . cases e'
   . cases e'
   . cases e'
 exact .two (.id ho) (.nat (by lia) (by lia))
theorem jR {L:List Dp} (hB:BkW L) {T:Int} {x:PyData} (h:OrN (SgOf T (L.map (·.1))) x):Cl x:=by
 rcases h with rfl | h
 . exact .none
 . exact qS hB h
theorem pS {L:List Dp} (hB:BkW L) {e:Dp} (he:e∈L):Cl e.1:=by
 obtain ⟨o,r⟩:=hB.1 e he
 rcases r with ⟨b,w,q,hb,hw⟩ | ⟨sg,q,hs,hl,_⟩ | ⟨n,s1,x1,s2,x2,q,h1,h2,_⟩ | ⟨n,q,_⟩ | ⟨i,q,hi⟩ <;> rw [q] <;> refine .tup (by simp) fun d hd=>?_ <;> simp only [List.mem_cons,List.not_mem_nil,or_false] at hd
 . rcases hd with rfl | rfl | rfl | rfl
   . exact .str _
   . exact .id o
   . exact jR hB hb
   . exact .str _
 . rcases hd with rfl | rfl | rfl
   . exact .str _
   . exact .id o
   . exact .tup hl fun x hx=>qS hB (hs x hx)
 . rcases hd with rfl | rfl | rfl | rfl | rfl
   . exact .str _
   . exact .id o
   . exact .str _
   . exact .two (jR hB h1) (.str _)
   . exact .two (jR hB h2) (.str _)
 . rcases hd with rfl | rfl | rfl
   . exact .str _
   . exact .id o
   . exact .str _
 . rcases hd with rfl | rfl | rfl
   . exact .str _
   . exact .id o
   . obtain ⟨⟨e',he',rfl⟩,_⟩:=hi
     exact .id (hB.1 e' he').1
theorem dNeB (b:Bool):dNe (.bool b) (.bool b)=some (.bool false):=by
 unfold dNe
 rw [if_pos (by simp [PyData.depth])]
 cases b <;> rfl
noncomputable abbrev rZ (m m':List PyData->Res PyData):Dn->Out:=(C5 (M1 10 (B4 (A0 (A2 5) A7) m)) (sIf (cOr (L8 (B2 (b1 (A2 10) fun d=>some (.bool (K9 "bool" d))))) (B2 (b2 (A2 10) (B4 (A0 (A2 5) A7) m') dNe))) (E5 (vC (.bool false))) F4))
theorem mW {m m':List PyData->Res PyData} {d:PyData} (h:∃ b,m [d]=.ok (.bool b)/\m' [d]=.ok (.bool b)) (s0 s1 s2 s3 s4 s6 s7 s8 s9 s10:Sl):∃ s10',rZ m m' [s0,s1,s2,s3,s4,.sh d,s6,s7,s8,s9,s10]=.nx [s0,s1,s2,s3,s4,.sh d,s6,s7,s8,s9,s10']:=by
 obtain ⟨b,h1,h2⟩:=h
 refine ⟨.sh (.bool b),(C4 (F1 (B3 (A4 rfl rfl) h1))).trans (R0 ?_)⟩
 exact Q6 (a:=false) (b:=false) (L6 (a:=true) (B8 (Q0 (x:=.bool b) rfl (congrArg (fun z=>some (PyData.bool z)) (isB (.bool b)))))) fun _=>B8 (B0 (x:=.bool b) (y:=.bool b) rfl (B3 (A4 rfl rfl) h2) (dNeB b))
theorem rL {m m':List PyData->Res PyData} (s0 s1 s2 s3 s4 s6 s7 s8 s9:Sl):∀ ds:List PyData,(∀ d∈ds,∃ b,m [d]=.ok (.bool b)/\m' [d]=.ok (.bool b))->∀ s5 s10:Sl,∃ s5' s10',P7 (st1 5) (rZ m m') ds [s0,s1,s2,s3,s4,s5,s6,s7,s8,s9,s10]=.nx [s0,s1,s2,s3,s4,s5',s6,s7,s8,s9,s10']:=by
 intro iN; induction iN with
 | nil=>intro _ s5 s10; exact ⟨s5,s10,rfl⟩
 | cons d ds ih =>
   intro h s5 s10; obtain ⟨t,e1⟩:=mW (h d (.head _)) s0 s1 s2 s3 s4 s6 s7 s8 s9 s10; obtain ⟨s5',s10',e2⟩:=ih (fun x hx=>h x (.tail _ hx)) (.sh d) t
   refine ⟨s5',s10',?_⟩; unfold P7; simp only [st1,List.set_cons_zero,List.set_cons_succ]; rw [e1]; exact e2
theorem uK (xs:List PyData) (hl:xs.length<=31):∃ ys,M3 (.tuple xs) (.int 2)=some (.tuple ys)/\ys.length<=2*xs.length/\∀ y∈ys,y∈xs:=by
 by_cases h:xs=[]
 . subst h; exact ⟨[],rfl,Nat.le_refl _,fun _ h=>h⟩
 . exact ⟨_,rF h hl,by simp [List.replicate]; lia,fun y hy=>by simpa [List.replicate] using hy⟩
noncomputable def kn4:List PyData:=[.tuple [.str "add",.tuple [.int 3,.str "h"],.tuple [.tuple [.int 2,.str "a"],.int 5],.str "xy"],.tuple [.str "drop",.tuple [.int 3,.str "h"],.tuple [.tuple [.tuple [.int 2,.str "a"],.int 0]]],.tuple [.str "undo",.tuple [.int 3,.str "h"],.tuple [.int 2,.str "a"]],.tuple [.str "unmark",.tuple [.int 3,.str "h"],.str "ab"]]
noncomputable def umR:Res (List PyData):=F2 E9 [] N7 (L9 (A0 (vC (.str "unmark")) (A0 (L9 (A0 (vC (.int 3)) (A0 (vC (.str "h")) A7))) (A0 (b2 (vC (.str "a")) (A2 0) M3) A7)))) (U7 5 15)
noncomputable def smR (b:PyData):Res PyData:=vIf (B2 (b2 (A2 0) (A2 1) (dIn false))) (B4 (A0 (A2 0) A7) (E3 7)) (D1 A7) [.sh b,.sh (.list kn4)]
noncomputable def smB (b:PyData):Bool:=bdc 9 b&&match smR b with | .ok (.list l)=>l.all (bdc 9)&&decide (l.length<=900) | _=>false
noncomputable def umB:Bool:=match umR with | .ok l=>decide (l.length<=20)&&(kn4++l).all smB | _=>false
theorem umB_t:umB=true:=by decide +kernel
theorem um_ok:∃ l,umR=.ok l/\l.length<=20/\∀ b∈kn4++l,Bd 62 b/\∃ k,smR b=.ok (.list k)/\k.length<=900/\∀ x∈k,Bd 62 x:=by
 have h:=umB_t
 unfold umB at h
 split at h
 . rename_i l e
   rw [Bool.and_eq_true,decide_eq_true_eq] at h; refine ⟨l,e,h.1,fun b hb=>?_⟩
   have h2:=List.all_eq_true.mp h.2 b hb; unfold smB at h2; rw [Bool.and_eq_true] at h2; refine ⟨Qu 9 b h2.1,?_⟩; have h3:=h2.2
   split at h3
   . rename_i k e
     rw [Bool.and_eq_true,decide_eq_true_eq] at h3; exact ⟨k,e,h3.2,fun x hx=>Qu 9 x (List.all_eq_true.mp h3.1 x hx)⟩
   . cases h3
 . cases h
theorem Cv {d:PyData} (z:SzD d):∃ b,D8 [d]=.ok (.bool b)/\B7 [d]=.ok (.bool b):=⟨db d,(Yn z).1,(Yn z).2.1⟩
noncomputable abbrev rY:Dn->Out:=(C5 (M1 4 (b2 (D1 (A0 (A2 9) A7)) (vIf (B2 (b2 (A2 9) (A2 8) (dIn false))) (B4 (A0 (A2 9) A7) (E3 7)) (D1 A7)) C7)) (sIf (B2 (b2 (D1 (G7 (fun δ=>((A2 4) δ).bind J2) E9 [] (B2 (b2 (B4 (A0 (A2 0) A7) D8) (B4 (A0 (A2 0) A7) B7) dNe)) (A2 0))) (D1 A7) dNe)) (E5 (vC (.bool false))) F4))
theorem qG {b:PyData} (hb:Bd 62 b) {k:List PyData} (e:smR b=.ok (.list k)) (hl:k.length<=900) (hk:∀ x∈k,Bd 62 x) (s0 s1 s2 s3 s4 s5 s6 s7 s10:Sl):∃ s4',rY [s0,s1,s2,s3,s4,s5,s6,s7,.sh (.list kn4),.sh b,s10]=.nx [s0,s1,s2,s3,s4',s5,s6,s7,.sh (.list kn4),.sh b,s10]:=by
 have e1:vIf (B2 (b2 (A2 9) (A2 8) (dIn false))) (B4 (A0 (A2 9) A7) (E3 7)) (D1 A7) [s0,s1,s2,s3,s4,s5,s6,s7,.sh (.list kn4),.sh b,s10]=.ok (.list k):=e
 refine ⟨.sh (.list ([b]++k)),(C4 (F1 (B0 rfl e1 (Kk (by simp; lia))))).trans (R0 (B8 ?_))⟩
 refine (Jp (δc:=[]) (fun _=>true) (L3 (d:=.list ([b]++k)) rfl rfl) (by simp; lia) rfl fun d hd=>?_).trans ?_
 . have bd : Bd 62 d := by
     rcases List.mem_append.mp hd with h | h
     . cases List.mem_singleton.mp h; exact hb
     . exact hk d h
   obtain ⟨v,h1,h2⟩:=Cv bd.szD; exact B8 (B0 (B3 (A4 rfl rfl) h1) (B3 (A4 rfl rfl) h2) (dNeB v))
 . congr 2
   rw [Bool.not_eq_false',List.all_eq_true]; exact fun _ _=>rfl
theorem uM (s0 s1 s2 s3 s5 s6 s7 s10:Sl):∀ ds:List PyData,(∀ b∈ds,Bd 62 b/\∃ k,smR b=.ok (.list k)/\k.length<=900/\∀ x∈k,Bd 62 x)->∀ s4 s9:Sl,∃ s4' s9',P7 (st1 9) rY ds [s0,s1,s2,s3,s4,s5,s6,s7,.sh (.list kn4),s9,s10]=.nx [s0,s1,s2,s3,s4',s5,s6,s7,.sh (.list kn4),s9',s10]:=by
 intro iN; induction iN with
 | nil=>intro _ s4 s9; exact ⟨s4,s9,rfl⟩
 | cons b ds ih =>
   intro h s4 s9; obtain ⟨h1,k,h2,h3,h4⟩:=h b (.head _); obtain ⟨t,e1⟩:=qG h1 h2 h3 h4 s0 s1 s2 s3 s4 s5 s6 s7 s10; obtain ⟨s4',s9',e2⟩:=ih (fun x hx=>h x (.tail _ hx)) t (.sh b)
   refine ⟨s4',s9',?_⟩; unfold P7; simp only [st1,List.set_cons_zero,List.set_cons_succ]; rw [e1]; exact e2
theorem pow7:bE (.int 10) (.int 7)=some (.int 10000000):=by
 show (if 0<=(7:Int)/\(7:Int)<=1000000/\(10:Int).natAbs < 2 ^ 64 then some (PyData.int (10 ^ (7:Int).toNat)) else none)=_
 rw [if_pos (by decide)]; rfl
theorem Pd (ns:List Int) (hns:ns.length<=63) {d:PyData} (c:Cl d) (i j:Int) {f:Dn->Res PyData} {δ:Dn} (h0:A2 0 δ=.ok (scr ns)) (hf:f δ=.ok d):∃ x,Bd 62 x/\B4 (A0 f (A0 (B4 (A0 (A2 0) (A0 (vC (.int i)) (A0 (b2 (vC (.int 10)) (vC (.int 7)) bE) A7))) A8) (A0 (B4 (A0 (A2 0) (A0 (vC (.int j)) (A0 (vC (.int 5)) A7))) A8) A7))) (C8 7) δ=.ok x:=by
 obtain ⟨r1,e1,a1,b1⟩:=M4 ns hns i 10000000 (by decide)
 obtain ⟨r2,e2,a2,b2'⟩:=M4 ns hns j 5 (by decide)
 obtain ⟨x,bx,e⟩:=eC 7 r2.toNat (by lia) d c r1
 rw [show ((r2.toNat:Nat):Int)=r2 by lia] at e
 exact ⟨x,bx,B3 (A4 hf (A4 (B3 (A4 h0 (A4 rfl (A4 (B0 rfl rfl pow7) rfl))) e1) (A4 (B3 (A4 h0 (A4 rfl (A4 rfl rfl))) e2) rfl))) e⟩
theorem iY (ns:List Int) (hns:ns.length<=63):Yd [.list (ns.map PyData.int)]=.ok (.bool true):=by
 show Yd [scr ns]=_
 obtain ⟨x,y,z,hxyz,e0⟩:=jX ns hns 0
 obtain ⟨L,eb,hL,hB⟩:=qD ns hns x y z hxyz
 let B:List PyData:=L.map (·.1)
 have hBl:B.length<=7:=by show (L.map _).length<=7; rw [List.length_map]; exact hL
 have hBc:∀ d∈B,Cl d:=fun d hd=>by obtain ⟨e,he,rfl⟩:=List.mem_map.mp hd; exact pS hB he
 have cB:Cl (.tuple B):=.tup (by lia) hBc
 have bB:=cB.bd
 refine I8 ?_
 show Ur [.sh (scr ns),.un,.un,.un,.un,.un,.un,.un,.un,.un,.un]=_
 refine (C4 (F1 (d:=.tuple B) (B3 (A4 rfl (A4 rfl (A4 rfl (A4 (B3 (A4 rfl (A4 rfl rfl)) e0) rfl)))) eb))).trans ?_
 obtain ⟨t,bt,et⟩:=Pd ns hns cB 7 8 (f:=A2 1) (δ:=[.sh (scr ns),.sh (.tuple B),.un,.un,.un,.un,.un,.un,.un,.un,.un]) rfl rfl
 refine (C4 (F1 (d:=t) et)).trans ?_
 have hmax:lN [.int 1,.int (B.length:Int)]=some (.int (if (1:Int) < B.length then (B.length:Int) else 1)):=rfl
 obtain ⟨r,er,a0,a1⟩:=M4 ns hns 9 (if (1:Int) < B.length then (B.length:Int) else 1) (by split <;> lia)
 let a:Nat:=r.toNat
 have ea:r=(a:Int):=by show r=((r.toNat:Nat):Int); lia
 have hal:a<=B.length/\a < B.length+2:=by split at a1 <;> lia
 have hal':a+1<=B.length\/B.length=0:=by split at a1 <;> lia
 rw [ea] at er
 refine (C4 (F1 (d:=.int (a:Int)) (B3 (A4 rfl (A4 rfl (A4 (N0 (A4 rfl (A4 (N0 (A4 rfl rfl) rfl) rfl)) hmax) rfl))) er))).trans ?_
 show (C5 Om _) [.sh (scr ns),.sh (.tuple B),.sh t,.sh (.int (a:Int)),.un,.un,.un,.un,.un,.un,.un]=_
 let C1:=V1 B none (some (a:Int))
 let C2:=V1 B (some ((a:Int)+1)) none
 let C3:=V1 B (some (a:Int)) (some ((a:Int)+1))
 have l1:C1.length<=7:=Nat.le_trans (Gc _ _ _) hBl
 have l2:C2.length<=7:=Nat.le_trans (Gc _ _ _) hBl
 have l3:C3.length<=7:=Nat.le_trans (Gc _ _ _) hBl
 have m1:∀ d∈C1,Bd 62 d:=fun d hd=>(hBc d (Kc hd)).bd
 have m2:∀ d∈C2,Bd 62 d:=fun d hd=>(hBc d (Kc hd)).bd
 have m3:∀ d∈C3,Bd 62 d:=fun d hd=>(hBc d (Kc hd)).bd
 obtain ⟨D,eD,lD,mD⟩:=uK C3 (by lia)
 refine (C4 (F1 (d:=.list [.tuple B,t,.tuple (C1++C2),.tuple ((C1++D)++C2)]) (K6 (A4 rfl (A4 rfl (A4 (B0 (W2 rfl rfl rfl rfl) (W2 rfl (l:=some ((a:Int)+1)) rfl rfl rfl) (Wn (x:=C1) (y:=C2) (by lia))) (A4 (B0 (B0 (x:=.tuple C1) (y:=.tuple D) (W2 rfl rfl rfl rfl) (B0 (x:=.tuple C3) (W2 rfl (l:=some (a:Int)) (u:=some ((a:Int)+1)) rfl rfl rfl) rfl eD) (Wn (by lia))) (W2 rfl (l:=some ((a:Int)+1)) rfl rfl rfl) (Wn (x:=C1++D) (y:=C2) (by rw [List.length_append]; lia))) rfl))))))).trans ?_
 let S6:List PyData:=[.tuple B,t,.tuple (C1++C2),.tuple ((C1++D)++C2)]++[.tuple B.reverse,.list B]
 refine (C4 (F1 (d:=.list S6) (B0 (x:=.list [.tuple B,t,.tuple (C1++C2),.tuple ((C1++D)++C2)]) (y:=.list [.tuple B.reverse,.list B]) rfl (K6 (A4 (d:=.tuple B.reverse) (ds:=[.list B]) (Q0 (x:=.tuple B) rfl rfl) (A4 (d:=.list B) (ds:=[]) (N0 (ds:=[.tuple B]) (A4 (d:=.tuple B) (ds:=[]) rfl rfl) rfl) rfl))) (Kk (by show 4+2<=1000; decide))))).trans ?_
 have hS6:∀ d∈S6,∃ b,K2 [d]=.ok (.bool b)/\C9 [d]=.ok (.bool b):=fun d hd=>by
   have bd:Bd 62 d:=by
     simp only [S6,List.cons_append,List.nil_append,List.mem_cons,List.not_mem_nil,or_false] at hd; rcases hd with rfl | rfl | rfl | rfl | rfl | rfl
     . exact bB
     . exact bt
     . exact .tup (by rw [List.length_append]; lia) fun d hd=>(List.mem_append.mp hd).elim (m1 d) (m2 d)
     . exact .tup (by rw [List.length_append,List.length_append]; lia) fun d hd=>(List.mem_append.mp hd).elim (fun h=>(List.mem_append.mp h).elim (m1 d) fun h=>m3 d (mD d h)) (m2 d)
     . exact .tup (by rw [List.length_reverse]; lia) fun d hd=>(hBc d (List.mem_reverse.mp hd)).bd
     . exact .lst (by lia) fun d hd=>(hBc d hd).bd
   exact gI d bd.szB
 obtain ⟨s5,s10,e5⟩:=rL (m:=K2) (m':=C9) (.sh (scr ns)) (.sh (.tuple B)) (.sh t) (.sh (.int (a:Int))) (.sh (.list S6)) .un .un .un .un S6 hS6 .un .un
 refine (C4 (δ':=[.sh (scr ns),.sh (.tuple B),.sh t,.sh (.int (a:Int)),.sh (.list S6),s5,.un,.un,.un,.un,s10]) e5).trans ?_
 obtain ⟨y20,hy⟩:∃ y,M3 (.str "x") (.int 20)=some (.str y):=⟨_,rG ⟨by decide,by decide,by decide⟩⟩
 let T2:List PyData:=[.tuple [.str "add",.tuple [.int 3,.str "h"],.tuple [.tuple [.int 2,.str "a"],.int 5],.str y20],.tuple [.str "undo",.tuple [.int 2,.str "a"],.tuple [.int 2,.str "a"]]]
 have cT2:∀ d∈T2,Cl d:=fun d hd=>by
   have i2:Cl (.tuple [.int 2,.str "a"]):=.two (.nat (by decide) (by decide)) (.str _)
   simp only [T2,List.mem_cons,List.not_mem_nil,or_false] at hd; rcases hd with rfl | rfl
   . refine .tup (by simp) fun d hd=>?_
     simp only [List.mem_cons,List.not_mem_nil,or_false] at hd; rcases hd with rfl | rfl | rfl | rfl
     . exact .str _
     . exact .two (.nat (by decide) (by decide)) (.str _)
     . exact .two i2 (.nat (by decide) (by decide))
     . exact .str _
   . refine .tup (by simp) fun d hd=>?_
     simp only [List.mem_cons,List.not_mem_nil,or_false] at hd; rcases hd with rfl | rfl | rfl
     . exact .str _
     . exact i2
     . exact i2
 refine (C4 (F1 (d:=.list (B++T2)) (B0 (x:=.list B) (y:=.list T2) (N0 (A4 rfl rfl) rfl) (K6 (A4 (R8 (A4 rfl (A4 rfl (A4 rfl (A4 (B0 rfl rfl hy) rfl))))) (A4 rfl rfl))) (Kk (by show B.length+2<=1000; lia))))).trans ?_
 have hDl:(B++T2).length=B.length+2:=by rw [List.length_append]; rfl
 have hal2:a < (B++T2).length:=by lia
 have hDc:∀ d∈B++T2,Cl d:=fun d hd=>(List.mem_append.mp hd).elim (hBc d) (cT2 d)
 obtain ⟨v,bv,evv⟩:=Pd ns hns (hDc _ (List.getElem_mem hal2)) 500 501 (f:=b2 (A2 6) (A2 3) dIx) (δ:=[.sh (scr ns),.sh (.tuple B),.sh t,.sh (.int (a:Int)),.sh (.list S6),s5,.sh (.list (B++T2)),.un,.un,.un,s10]) rfl (B0 rfl rfl (P6 hal2))
 refine (C4 (F1 (d:=v) evv)).trans ?_
 show (C5 Ey _) [.sh (scr ns),.sh (.tuple B),.sh t,.sh (.int (a:Int)),.sh (.list S6),s5,.sh (.list (B++T2)),.sh v,.un,.un,s10]=_
 obtain ⟨w,zw,ew⟩:∃ w,SzD w/\vIf (B2 (b1 (A2 7) fun d=>some (.bool (K9 "tuple" d)))) (b2 (A2 7) (A2 7) C7) (A2 7) [.sh (scr ns),.sh (.tuple B),.sh t,.sh (.int (a:Int)),.sh (.list S6),s5,.sh (.list (B++T2)),.sh v,.un,.un,s10]=.ok w:=by
   have hc:B2 (b1 (A2 7) fun d=>some (.bool (K9 "tuple" d))) [.sh (scr ns),.sh (.tuple B),.sh t,.sh (.int (a:Int)),.sh (.list S6),s5,.sh (.list (B++T2)),.sh v,.un,.un,s10]=.ok (Im v):=B8 (Q0 (x:=v) rfl (congrArg (fun z=>some (PyData.bool z)) (isT v)))
   cases q:Im v with
   | false=>rw [q] at hc; exact ⟨v,bv.szD,(Ww hc).trans rfl⟩
   | true =>
     rw [q] at hc
     cases bv with
     | @tup vs lv mv =>
       refine ⟨.tuple (vs++vs),fun w i xs e d hd=>?_,(qL hc).trans (B0 rfl rfl (Wn (by lia)))⟩
       have:d∈vs++vs:=by rw [(PyData.tuple.inj e)]; exact .tail _ (.tail _ hd)
       exact (mv d ((List.mem_append.mp this).elim id id)).szP
     | _=>cases q
 have hS8:∀ d∈(B++T2)++[v,t,w],∃ b,D8 [d]=.ok (.bool b)/\B7 [d]=.ok (.bool b):=fun d hd=>by
   rcases List.mem_append.mp hd with h | h
   . exact Cv (hDc d h).bd.szD
   . simp only [List.mem_cons,List.not_mem_nil,or_false] at h
     rcases h with rfl | rfl | rfl
     . exact Cv bv.szD
     . exact Cv bt.szD
     . exact Cv zw
 obtain ⟨s5',s10',e8⟩:=rL (m:=D8) (m':=B7) (.sh (scr ns)) (.sh (.tuple B)) (.sh t) (.sh (.int (a:Int))) (.sh (.list S6)) (.sh (.list (B++T2))) (.sh v) .un .un ((B++T2)++[v,t,w]) hS8 s5 s10
 have h8:Ey [.sh (scr ns),.sh (.tuple B),.sh t,.sh (.int (a:Int)),.sh (.list S6),s5,.sh (.list (B++T2)),.sh v,.un,.un,s10]=.nx [.sh (scr ns),.sh (.tuple B),.sh t,.sh (.int (a:Int)),.sh (.list S6),s5',.sh (.list (B++T2)),.sh v,.un,.un,s10']:=by
   have hs:=L3 (f:=b2 (A2 6) (D1 (A0 (A2 7) (A0 (A2 2) (A0 (vIf (B2 (b1 (A2 7) fun d=>some (.bool (K9 "tuple" d)))) (b2 (A2 7) (A2 7) C7) (A2 7)) A7)))) C7) (δ:=[.sh (scr ns),.sh (.tuple B),.sh t,.sh (.int (a:Int)),.sh (.list S6),s5,.sh (.list (B++T2)),.sh v,.un,.un,s10]) (ds:=(B++T2)++[v,t,w]) (B0 (x:=.list (B++T2)) (y:=.list [v,t,w]) rfl (K6 (A4 rfl (A4 rfl (A4 ew rfl)))) (Kk (by rw [hDl]; show B.length+2+3<=1000; lia))) rfl
   unfold Ey Es; rw [hs,Ch]; exact e8
 refine (C4 h8).trans ((C4 (F1 rfl)).trans ((C4 (F1 (d:=.list kn4) (B0 rfl rfl (Kk (by decide))))).trans ?_))
 obtain ⟨um,eu,lu,hu⟩:=um_ok
 show (C5 Cj Kq) [.sh (scr ns),.sh (.tuple B),.sh t,.sh (.int (a:Int)),.sh (.list S6),s5',.sh (.list (B++T2)),.sh v,.sh (.list kn4),.un,s10']=_
 obtain ⟨s4,s9,e11⟩:=uM (.sh (scr ns)) (.sh (.tuple B)) (.sh t) (.sh (.int (a:Int))) s5' (.sh (.list (B++T2))) (.sh v) s10' (kn4++um) hu (.sh (.list S6)) .un
 have h11:Cj [.sh (scr ns),.sh (.tuple B),.sh t,.sh (.int (a:Int)),.sh (.list S6),s5',.sh (.list (B++T2)),.sh v,.sh (.list kn4),.un,s10']=.nx [.sh (scr ns),.sh (.tuple B),.sh t,.sh (.int (a:Int)),s4,s5',.sh (.list (B++T2)),.sh v,.sh (.list kn4),s9,s10']:=by
   have hs:=L3 (f:=b2 (A2 8) (D1 (G7 (fun δ=>((A0 (vC (.int 5)) (A0 (vC (.int 15)) A7)) δ).bind mX) E9 [] N7 (L9 (A0 (vC (.str "unmark")) (A0 (L9 (A0 (vC (.int 3)) (A0 (vC (.str "h")) A7))) (A0 (b2 (vC (.str "a")) (A2 0) M3) A7)))))) C7) (δ:=[.sh (scr ns),.sh (.tuple B),.sh t,.sh (.int (a:Int)),.sh (.list S6),s5',.sh (.list (B++T2)),.sh v,.sh (.list kn4),.un,s10']) (ds:=kn4++um) (B0 (x:=.list kn4) (y:=.list um) rfl (K6 (O6 (ds:=U7 5 15) (δc:=[]) rfl (by decide) rfl eu)) (Kk (by show 4+um.length<=1000; lia))) rfl
   unfold Cj Es; rw [hs,Ch]; exact e11
 exact (C4 h11).trans (C0 rfl)
end Sm
end
namespace Sm
open PySem PySem.Spec PyProof.Rows L2
noncomputable def oE (P:Params) (x:Str) (t:Nat) (v:Value):DictEntry:=⟨PyData.keyHash P x,.str x t,v⟩
noncomputable def oN (i:Nat):Str:=match top i with | .FunctionDef n _ _ _ _ _ _ _ _ _=>n | _ => ""
noncomputable def oF (i:Nat) (m:Value) (c:Nat):Obj:=⟨.type "function",none,.func (PySem.W.fnOf (oN i) (oN i) (P5 (top i)) (B5 (top i)) (A5 (top i)) .none .none .none m none (.ref c) .none),#[]⟩
noncomputable def oC (i t:Nat) (l a:Int) (r:Nat) (u v w:Value) (n:Nat):Obj:=⟨.type "code",none,.fields #[.str (oN i) t,.str (oN i) (t+1),.str "/claim/cut.py" (t+2),.int l 0,.int a 0,.int 0 0,.int 0 0,.int 3 0,.ref r,.bool true,.int 181 0,.ref (r+1),.none,u,v,w,.int n 0,.int l 0,.str "/claim/cut.py" (n+1)],#[]⟩
noncomputable def oM0 (P:Params):List DictEntry:=[oE P "__name__" 165 (.str "law_staymark_k01_books_known" 333),oE P "__doc__" 166 .none,oE P "__package__" 167 .none,oE P "__loader__" 168 (.builtin "__main__.__loader__#opaque"),oE P "__spec__" 169 .none,oE P "__annotations__" 170 (.ref 6),oE P "__builtins__" 171 (.ref 4),oE P "__file__" 173 (.str "/claim/cut.py" 172),oE P "__cached__" 174 .none,oE P "HANDS" 190 (.str "abcdefgh" 189),oE P "SIDES" 192 (.str "lr" 191)]
noncomputable def oM1 (P:Params):List DictEntry:=[oE P "MOST_ADDED" 194 (.int 20 193),oE P "MOST_DROPPED" 196 (.int 400 195),oE P "LONGEST_NAME" 198 (.int 6 197),oE P "is_whole" 206 (.ref 21),oE P "is_one_of" 214 (.ref 28),oE P "is_text" 220 (.ref 33),oE P "is_name" 227 (.ref 40),oE P "is_added_text" 234 (.ref 47),oE P "is_pair" 241 (.ref 54),oE P "is_deed_id" 248 (.ref 61),oE P "is_sign_id" 255 (.ref 68)]
noncomputable def oM2 (P:Params):List DictEntry:=[oE P "is_sign_id_or_none" 262 (.ref 75),oE P "is_anchor" 269 (.ref 82),oE P "is_rising" 275 (.ref 87),oE P "is_dropped" 281 (.ref 92),oE P "has_form" 289 (.ref 99),oE P "signs_named" 295 (.ref 104),oE P "deeds_named" 301 (.ref 109),oE P "is_deed" 307 (.ref 114),oE P "signs_added" 314 (.ref 121),oE P "by_ids" 320 (.ref 126),oE P "has_all_named" 326 (.ref 131)]
noncomputable def oM3 (P:Params):List DictEntry:=[oE P "is_book" 332 (.ref 136),oE P "_law_cell" 342 (.ref 143),oE P "_law_drawn" 352 (.ref 150),oE P "_law_names" 363 (.ref 157),oE P "_law_words" 369 (.ref 162),oE P "_law_signs" 375 (.ref 167),oE P "_law_anchor" 385 (.ref 174),oE P "_law_deed" 391 (.ref 179),oE P "_law_book" 397 (.ref 184),oE P "_law_odd" 405 (.ref 191),oE P "_law_spoilt" 416 (.ref 198)]
noncomputable def oM4 (P:Params):List DictEntry:=[oE P "_law_is_count" 424 (.ref 205),oE P "_law_is_id" 431 (.ref 212),oE P "_law_is_sign" 438 (.ref 219),oE P "_law_is_text" 444 (.ref 224),oE P "_law_is_anchor" 451 (.ref 231),oE P "_law_has_form" 457 (.ref 236),oE P "_law_named" 463 (.ref 241),oE P "_law_is_deed" 469 (.ref 246),oE P "_law_is_book" 475 (.ref 251),oE P "_law_each" 481 (.ref 256),oE P "law" 487 (.ref 261)]
noncomputable def ownK (P:Params):PySem.W.Frag :=
 (nat_lit 3,⟨.type "dict",none,.dict (oM0 P++oM1 P++oM2 P++oM3 P++oM4 P).toArray 55,#[]⟩) ::
 (nat_lit 20,oC 6 199 7 2 15 (.ref 17) (.ref 18) (.ref 19) 204) ::
 (nat_lit 21,oF 6 (.str "staymark.deeds" 187) 20) ::
 (nat_lit 27,oC 7 207 9 2 22 (.ref 24) (.ref 25) (.ref 26) 212) ::
 (nat_lit 28,oF 7 (.str "staymark.deeds" 187) 27) ::
 (nat_lit 32,oC 8 215 11 4 29 .none .none (.ref 31) 218) ::
 (nat_lit 33,oF 8 (.str "staymark.deeds" 187) 32) ::
 (nat_lit 39,oC 9 221 15 1 34 (.ref 36) (.ref 37) (.ref 38) 225) ::
 (nat_lit 40,oF 9 (.str "staymark.deeds" 187) 39) ::
 (nat_lit 46,oC 10 228 17 1 41 (.ref 43) (.ref 44) (.ref 45) 232) ::
 (nat_lit 47,oF 10 (.str "staymark.deeds" 187) 46) ::
 (nat_lit 53,oC 11 235 19 1 48 (.ref 50) (.ref 51) (.ref 52) 239) ::
 (nat_lit 54,oF 11 (.str "staymark.deeds" 187) 53) ::
 (nat_lit 60,oC 12 242 21 1 55 (.ref 57) (.ref 58) (.ref 59) 246) ::
 (nat_lit 61,oF 12 (.str "staymark.deeds" 187) 60) ::
 (nat_lit 67,oC 13 249 23 1 62 (.ref 64) (.ref 65) (.ref 66) 253) ::
 (nat_lit 68,oF 13 (.str "staymark.deeds" 187) 67) ::
 (nat_lit 74,oC 14 256 25 1 69 (.ref 71) (.ref 72) (.ref 73) 260) ::
 (nat_lit 75,oF 14 (.str "staymark.deeds" 187) 74) ::
 (nat_lit 81,oC 15 263 27 1 76 (.ref 78) (.ref 79) (.ref 80) 267) ::
 (nat_lit 82,oF 15 (.str "staymark.deeds" 187) 81) ::
 (nat_lit 86,oC 16 270 29 1 83 .none .none (.ref 85) 273) ::
 (nat_lit 87,oF 16 (.str "staymark.deeds" 187) 86) ::
 (nat_lit 91,oC 17 276 31 1 88 .none .none (.ref 90) 279) ::
 (nat_lit 92,oF 17 (.str "staymark.deeds" 187) 91) ::
 (nat_lit 98,oC 18 282 35 2 93 (.ref 95) (.ref 96) (.ref 97) 287) ::
 (nat_lit 99,oF 18 (.str "staymark.deeds" 187) 98) ::
 (nat_lit 103,oC 19 290 47 1 100 .none .none (.ref 102) 293) ::
 (nat_lit 104,oF 19 (.str "staymark.deeds" 187) 103) ::
 (nat_lit 108,oC 20 296 56 1 105 .none .none (.ref 107) 299) ::
 (nat_lit 109,oF 20 (.str "staymark.deeds" 187) 108) ::
 (nat_lit 113,oC 21 302 60 1 110 .none .none (.ref 112) 305) ::
 (nat_lit 114,oF 21 (.str "staymark.deeds" 187) 113) ::
 (nat_lit 120,oC 22 308 66 1 115 (.ref 117) (.ref 118) (.ref 119) 312) ::
 (nat_lit 121,oF 22 (.str "staymark.deeds" 187) 120) ::
 (nat_lit 125,oC 23 315 68 1 122 .none .none (.ref 124) 318) ::
 (nat_lit 126,oF 23 (.str "staymark.deeds" 187) 125) ::
 (nat_lit 130,oC 24 321 70 2 127 .none .none (.ref 129) 324) ::
 (nat_lit 131,oF 24 (.str "staymark.deeds" 187) 130) ::
 (nat_lit 135,oC 25 327 74 1 132 .none .none (.ref 134) 330) ::
 (nat_lit 136,oF 25 (.str "staymark.deeds" 187) 135) ::
 (nat_lit 142,oC 27 335 80 2 137 (.ref 139) (.ref 140) (.ref 141) 340) ::
 (nat_lit 143,oF 27 (.str "law_staymark_k01_books_known" 333) 142) ::
 (nat_lit 149,oC 28 343 84 3 144 (.ref 146) (.ref 147) (.ref 148) 350) ::
 (nat_lit 150,oF 28 (.str "law_staymark_k01_books_known" 333) 149) ::
 (nat_lit 156,oC 29 353 88 2 151 (.ref 153) (.ref 154) (.ref 155) 361) ::
 (nat_lit 157,oF 29 (.str "law_staymark_k01_books_known" 333) 156) ::
 (nat_lit 161,oC 30 364 94 2 158 .none .none (.ref 160) 367) ::
 (nat_lit 162,oF 30 (.str "law_staymark_k01_books_known" 333) 161) ::
 (nat_lit 166,oC 31 370 96 1 163 .none .none (.ref 165) 373) ::
 (nat_lit 167,oF 31 (.str "law_staymark_k01_books_known" 333) 166) ::
 (nat_lit 173,oC 32 376 102 3 168 (.ref 170) (.ref 171) (.ref 172) 383) ::
 (nat_lit 174,oF 32 (.str "law_staymark_k01_books_known" 333) 173) ::
 (nat_lit 178,oC 33 386 105 5 175 .none .none (.ref 177) 389) ::
 (nat_lit 179,oF 33 (.str "law_staymark_k01_books_known" 333) 178) ::
 (nat_lit 183,oC 34 392 120 4 180 .none .none (.ref 182) 395) ::
 (nat_lit 184,oF 34 (.str "law_staymark_k01_books_known" 333) 183) ::
 (nat_lit 190,oC 35 398 132 1 185 (.ref 187) (.ref 188) (.ref 189) 403) ::
 (nat_lit 191,oF 35 (.str "law_staymark_k01_books_known" 333) 190) ::
 (nat_lit 197,oC 36 406 136 3 192 (.ref 194) (.ref 195) (.ref 196) 414) ::
 (nat_lit 198,oF 36 (.str "law_staymark_k01_books_known" 333) 197) ::
 (nat_lit 204,oC 37 417 146 2 199 (.ref 201) (.ref 202) (.ref 203) 422) ::
 (nat_lit 205,oF 37 (.str "law_staymark_k01_books_known" 333) 204) ::
 (nat_lit 211,oC 38 425 148 1 206 (.ref 208) (.ref 209) (.ref 210) 429) ::
 (nat_lit 212,oF 38 (.str "law_staymark_k01_books_known" 333) 211) ::
 (nat_lit 218,oC 39 432 152 1 213 (.ref 215) (.ref 216) (.ref 217) 436) ::
 (nat_lit 219,oF 39 (.str "law_staymark_k01_books_known" 333) 218) ::
 (nat_lit 223,oC 40 439 154 3 220 .none .none (.ref 222) 442) ::
 (nat_lit 224,oF 40 (.str "law_staymark_k01_books_known" 333) 223) ::
 (nat_lit 230,oC 41 445 158 1 225 (.ref 227) (.ref 228) (.ref 229) 449) ::
 (nat_lit 231,oF 41 (.str "law_staymark_k01_books_known" 333) 230) ::
 (nat_lit 235,oC 42 452 164 1 232 .none .none (.ref 234) 455) ::
 (nat_lit 236,oF 42 (.str "law_staymark_k01_books_known" 333) 235) ::
 (nat_lit 240,oC 43 458 183 1 237 .none .none (.ref 239) 461) ::
 (nat_lit 241,oF 43 (.str "law_staymark_k01_books_known" 333) 240) ::
 (nat_lit 245,oC 44 464 191 1 242 .none .none (.ref 244) 467) ::
 (nat_lit 246,oF 44 (.str "law_staymark_k01_books_known" 333) 245) ::
 (nat_lit 250,oC 45 470 198 1 247 .none .none (.ref 249) 473) ::
 (nat_lit 251,oF 45 (.str "law_staymark_k01_books_known" 333) 250) ::
 (nat_lit 255,oC 46 476 208 1 252 .none .none (.ref 254) 479) ::
 (nat_lit 256,oF 46 (.str "law_staymark_k01_books_known" 333) 255) ::
 (nat_lit 260,oC 47 482 217 1 257 .none .none (.ref 259) 485) ::
 (nat_lit 261,oF 47 (.str "law_staymark_k01_books_known" 333) 260)::[]
end Sm
set_option maxRecDepth 100000 in
set_option maxHeartbeats 0 in
theorem PySem.Challenge.cw_staymark_k01_books_known_holds : PySem.Challenge.rw_staymark_k01_books_known.Holds := by
 w_on; o_law; o_head (PySem.W.kHook Sm.ownK [3,20,21,27,28,32,33,39,40,46,47,53,54,60,61,67,68,74,75,81,82,86,87,91,92,98,99,103,104,108,109,113,114,120,121,125,126,130,131,135,136,142,143,149,150,156,157,161,162,166,167,173,174,178,179,183,184,190,191,197,198,204,205,211,212,218,219,223,224,230,231,235,236,240,241,245,246,250,251,255,256,260,261] (fun _=>by kernel_rfl)); (case hw=>w_witness2)
 k_fill
 refine Sm.walkD (l:=PySem.Challenge.rw_staymark_k01_books_known) rfl rfl rfl (fun w h Y=>PySem.W.kIn_of Y) (fun w=>?hK) ?F Sm.iY
 case hK=>kernel_rfl
 case F =>
   intro w mg h KX G; refine' ⟨⟨?b0,?b1,?b2,?b3,?b4,?b5,?b6,?b7,?b8,?b9,?b10,?b11,?b12,?b13,?c0,?c1,?c2,?c3,?c4⟩,⟨?d40,?d0,?d1,?d2,?d3,?d4,?d5,?d6,?d7,?d8,?d9,?d10,?d11,?d12,?d13,?d14,?d15,?d16,?d17,?d18,?d19,?d20,?d21,?d22,?d23,?d24,?d25,?d26,?d27,?d28,?d29,?d30,?d31,?d32,?d33,?d34,?d35,?d36,?d37,?d38,?d39⟩⟩
   case b0 | b1 | b2 | b3 | b4 | b5 | b6 | b7 | b8 | b9 | b10 | b11 | b12 | b13=>exact PySem.W.mg_none_of KX G (by k_is)
   case c0 | c1 | c2 | c3 | c4=>exact ⟨_,(PySem.W.mg_of KX G (by k_is)).trans rfl⟩
   case d0 | d1 | d12 | d18 | d20 | d22 | d23 | d30=>exact Sm.pP KX G (by k_is) (by k_is) (by k_is) (by k_is) (fun _ _ _ _ _ _ _ _=>rfl) rfl
   case d2 | d27=>exact Sm.pN KX G (by k_is) (by k_is) (by k_is) (by k_is) (fun _ _ _ _ _ _ _ _ _ _=>rfl) rfl
   case d3 | d4 | d5 | d6 | d7 | d8 | d9 | d10 | d11 | d13 | d14 | d15 | d16 | d17 | d19 | d24 | d28 | d31 | d32 | d34 | d35 | d36 | d37 | d38 | d39 | d40=>exact Sm.pQ KX G (by k_is) (by k_is) (by k_is) (by k_is) (fun _ _ _ _ _ _ _=>rfl) rfl
   case d21 | d25 | d29 | d33=>exact Sm.pO KX G (by k_is) (by k_is) (by k_is) (by k_is) (fun _ _ _ _ _ _ _ _ _=>rfl) rfl
   case d26=>exact Sm.pM KX G (by k_is) (by k_is) (by k_is) (by k_is) (fun _ _ _ _ _ _ _ _ _ _ _=>rfl) rfl
