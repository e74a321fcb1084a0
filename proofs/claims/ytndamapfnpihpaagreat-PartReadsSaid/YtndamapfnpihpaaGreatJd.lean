/- The layers told, part 4. Conditions: none beyond each law's own. -/
import Derived.Test.YtndamapfnpihpaaGreatJc
namespace Go.Proofs.YtndamapfnpihpaaGreat
set_option maxRecDepth 100000
set_option linter.unusedVariables false
set_option linter.unusedSimpArgs false
set_option linter.unusedSectionVars false
open _root_.Go renaming World->ZQ,Value->ZX
open Value renaming bool->V,slice->W,string->Zz,pointer->Zq,agg->Zx,nilFunc->Zj
open Bool renaming true->Zk,false->J
open Option renaming none->Zv,some->Zw
open Decidable renaming decide->Zy
open Inhabited renaming default->ZZ
open List renaming length->X,toArray->Zc
def Up (l:List aN):Prop:=l.Pairwise λ a b=>a.a < b.a
theorem Bq {l:List aN} (hs:Up l) {i j:Nat} {a b:aN} (ha:l[i]? =Zw a) (hb:l[j]? =Zw b) (h:i < j):a.a < b.a:=by
  obtain⟨c,rfl⟩:=List.getElem?_eq_some_iff.1 ha
  obtain⟨d,rfl⟩:=List.getElem?_eq_some_iff.1 hb
  exact List.pairwise_iff_getElem.1 hs i j c d h
theorem cmp_eq (a b:Nat):eQ a b=if a < b then -1 else if a > b then 1 else 0:=by
  unfold eQ jh
  simp only [bG]
  rw [ZV f6,ZV f6]
  by_cases h:a < b
  . rw [ZK Y,ZK h]
  . rw [ZV Y,ZV h]
    by_cases c:a > b
    . rw [ZK Y,ZK c]
    . rw [ZV Y,ZV c]
theorem nQ {a b:Nat}:eQ a b < 0↔a < b:=by
  rw [cmp_eq]; split
  . omega
  . split <;> omega
theorem xV {a b:Nat}:eQ a b=0↔a=b:=by
  rw [cmp_eq]; split
  . omega
  . split <;> omega
theorem yV {m:List aN} (hs:Up m) (k:Nat):∀ (f i j:Nat),j - i < f->i<=j->j<=X m->(∀ q p,m[q]? =Zw p->q < i->p.a < k)->(∀ q p,m[q]? =Zw p->j<=q->¬ p.a < k)->
    ∃ r,dV m k f i j=r/\r<=X m/\(∀ q p,m[q]? =Zw p->q < r->p.a < k)/\(∀ q p,m[q]? =Zw p->r<=q->¬ p.a < k)
  | 0,i,j,h,_,_,_,_=>Y
  | f+1,i,j,h,hij,hj,hl,hg=>by
    unfold dV
    by_cases b:(i:Int) < (j:Int)
    . obtain⟨x,hx⟩:∃ x,m[(i+j) / 2]? =Zw x:=⟨_,List.getElem?_eq_getElem Y⟩
      rw [ZK b,bG,bG,bu hx]
      by_cases a:eQ x.a k < 0
      . rw [ZK a]
        refine yV hs k f _ j Y Y hj (λ q p hq hlt=> ?_) hg
        rcases Nat.lt_or_ge q ((i+j) / 2) with e | e
        . exact Nat.lt_trans (Bq hs hq hx e) (nQ.1 a)
        . have:q=(i+j) / 2:=Y
          subst this
          rw [hx] at hq; cases hq
          exact nQ.1 a
      . rw [ZV a]
        refine yV hs k f i _ Y Y Y hl (λ q p hq hge hlt=> ?_)
        rcases Nat.lt_or_ge ((i+j) / 2) q with e | e
        . exact a (nQ.2 (Nat.lt_trans (Bq hs hx hq e) hlt))
        . have:q=(i+j) / 2:=Y
          subst this
          rw [hx] at hq; cases hq
          exact a (nQ.2 hlt)
    . rw [ZV b]
      have:i=j:=Y
      subst this
      exact⟨i,Z,hj,hl,hg⟩
structure Ju (m:List aN) (k:Nat) (a b:List aN):Prop where q::
  app:m=a++b
  lo:∀ p ∈ a,p.a < k
  hi:∀ p ∈ b,k<=p.a
theorem ER {m:List aN} (hs:Up m) (k:Nat):∃ a b,Ju m k a b/\(eZ (aZ.q (Ll.q m)) k).1=((X a:Nat):Int)/\((eZ (aZ.q (Ll.q m)) k).2=Zk↔∃ p q,b=p::q/\p.a=k):=by
  obtain⟨r,d,i,f,g⟩:=yV hs k (X m - 0+1) 0 (X m) Y Y (Nat.le_refl _) (λ q p _ h=>Y) (λ q p hq h=>by have:=(List.getElem?_eq_some_iff.1 hq).1; omega)
  have hlen:X (List.take r m)=r:=by rw [List.length_take]; omega
  have e:eZ (aZ.q (Ll.q m)) k=((r:Int),(eZ (aZ.q (Ll.q m)) k).2)/\((eZ (aZ.q (Ll.q m)) k).2=Zk↔∃ p,m[r]? =Zw p/\p.a=k):=by
    unfold eZ gT
    simp only [bG,d]
    by_cases c:(r:Int) < ((X m:Nat):Int)
    . obtain⟨x,hx⟩:∃ x,m[r]? =Zw x:=⟨_,List.getElem?_eq_getElem Y⟩
      rw [ZK c,bu hx]
      refine⟨Z, ?_⟩
      simp only [decide_eq_true_eq,xV,hx,Option.some.injEq,exists_eq_left']
    . rw [ZV c]
      refine⟨Z, ?_⟩
      have:m[r]? =Zv:=List.getElem?_eq_none Y
      simp [this]
  refine⟨List.take r m,List.drop r m,⟨(List.take_append_drop r m).symm,λ p hp=> ?_,λ p hp=> ?_⟩, ?_, ?_⟩
  . obtain⟨j,hj⟩:=List.mem_iff_getElem?.1 hp
    have hjr:j < r:=by have:=(List.getElem?_eq_some_iff.1 hj).1; omega
    rw [List.getElem?_take,ZK hjr] at hj
    exact f j p hj hjr
  . obtain⟨j,hj⟩:=List.mem_iff_getElem?.1 hp
    rw [List.getElem?_drop] at hj
    exact Nat.le_of_not_lt (g _ p hj Y)
  . rw [e.1,hlen]
  . rw [e.2]
    constructor
    . rintro ⟨p,hp,hk⟩
      exact⟨p,List.drop (r+1) m,drop_at hp,hk⟩
    . rintro ⟨p,q,hp,hk⟩
      refine⟨p, ?_,hk⟩
      have:(List.drop r m)[0]? =Zw p:=by rw [hp]; rfl
      rwa [List.getElem?_drop,Nat.add_zero] at this
theorem AR {l:List aN} (p:aN->Bool) (h:Up l):Up (l.filter p):=h.filter p
theorem Du {a b:List aN} {p:aN} (h:Up (a++p::b)):Up a/\Up b/\(∀ r ∈ a,r.a < p.a)/\(∀ r ∈ b,p.a < r.a):=by
  have c:=List.pairwise_append.1 h
  have d:=List.pairwise_cons.1 c.2.1
  exact⟨c.1,d.2,λ r hr=>c.2.2 r hr p b3,d.1⟩
theorem mQ {m:List aN} (hs:Up m) (t:Nat):
    (∃ a p q,m=a++p::q/\p.a=t/\(∀ r ∈ a,r.a < t)/\(∀ r ∈ q,t < r.a)/\eZ (aZ.q (Ll.q m)) t=((X a:Int),Zk))\/
    (∃ a q,m=a++q/\(∀ r ∈ a,r.a < t)/\(∀ r ∈ q,t < r.a)/\eZ (aZ.q (Ll.q m)) t=((X a:Int),J)):=by
  obtain⟨a,b,hc,f,g⟩:=ER hs t
  have e:∀ x:Int × Bool,x=(x.1,x.2):=λ _=>rfl
  cases hb:(eZ (aZ.q (Ll.q m)) t).2 with
  | true=>
    obtain⟨p,q,rfl,hp⟩:=g.1 hb
    refine .inl ⟨a,p,q,hc.app,hp,hc.lo,λ r hr=> ?_, ?_⟩
    . have:=(Du (hc.app ▸ hs)).2.2.2 r hr; omega
    . rw [e (eZ _ _),f,hb]
  | false=>
    refine .inr ⟨a,b,hc.app,hc.lo,λ r hr=> ?_, ?_⟩
    . have i:=hc.hi r hr
      rcases Nat.lt_or_ge t r.a with h | h
      . exact h
      . exfalso
        have c:r.a=t:=Y
        cases b with
        | nil=>cases hr
        | cons p q=>
          have hup:=Du (hc.app ▸ hs)
          rcases List.mem_cons.1 hr with d | d
          . exact absurd (g.2 ⟨p,q,Z,by rw [<- d]; exact c⟩) (by rw [hb]; decide)
          . have:=hup.2.2.2 r d; have:=hc.hi p b3; omega
    . rw [e (eZ _ _),f,hb]
def but (t:Nat) (l:List aN):List aN:=l.filter λ r=>decide (r.a≠t)
theorem nJ {l:List aN} {p:aN->Bool} (h:∀ r ∈ l,p r=Zk):l.filter p=l:=List.filter_eq_self.2 h
theorem rD {m:List aN} (hs:Up m) (t:Nat):jC (aZ.q (Ll.q m)) t=aZ.q (Ll.q (but t m)):=by
  unfold jC but
  rw [bG]
  rcases mQ hs t with ⟨a,p,q,rfl,hp,ha,hq,hf⟩ | ⟨a,q,rfl,ha,hq,hf⟩
  . rw [hf,ZK Z]
    have b:List.filter (λ r:aN=>decide (r.a≠t)) (a++p::q)=a++q:=by
      rw [List.filter_append,List.filter_cons_of_neg (by simp [hp]),nJ (λ r hr=>decide_eq_true (Nat.ne_of_lt (ha r hr))),nJ (λ r hr=>decide_eq_true (Nat.ne_of_gt (hq r hr)))]
    rw [b]
    simp only [Int.toNat_natCast,show (X a:Int)+1=((X a+1:Nat):Int) from by omega]
    have c:List.drop (X a+1) (a++p::q)=q:=by rw [show a++p::q=(a++ [p])++q by simp]; exact List.drop_left' i7
    have d:List.take (X a) (a++p::q)=a:=List.take_left' Z
    rw [c,d]
  . rw [hf,ZV i7]
    have b:List.filter (λ r:aN=>decide (r.a≠t)) (a++q)=a++q:=nJ λ r hr=>by
      rcases List.mem_append.1 hr with h | h
      . exact decide_eq_true (Nat.ne_of_lt (ha r h))
      . exact decide_eq_true (Nat.ne_of_gt (hq r h))
    rw [b]
def zl:aF:=aF.q (au.q [] []) J
def old (l:List aN) (t:Nat):List aF:=(l.filter λ r=>decide (r.a=t)).flatMap λ r=>r.b.a
def iK (l:List aN) (t:Nat) (x:aF):List aN:=(l.filter λ r=>decide (r.a < t))++(aN.q t (Ll.q (old l t++ [x])) J zl::l.filter λ r=>decide (t < r.a))
def dies (t:Nat) (x:aF) (r:aN):Bool:=r.f && (Zy (t < r.a) && ((lq x.j r.e.j).2 && (x.a || r.e.a)))
theorem wI {a q:List aN} {p:aN} {t:Nat} (x:aF) (hp:p.a=t) (ha:∀ r ∈ a,r.a < t) (hq:∀ r ∈ q,t < r.a):iK (a++p::q) t x=a++aN.q t (Ll.q (p.b.a++ [x])) J zl::q:=by
  have fa:∀ {l:List aN} {f:aN->Bool},(∀ r ∈ l,f r=J)->l.filter f= []:=λ {l f} h=>List.filter_eq_nil_iff.2 λ r hr=>by rw [h r hr]; decide
  unfold iK old
  rw [List.filter_append,List.filter_append,List.filter_append,List.filter_cons_of_neg (by simp [hp]),List.filter_cons_of_pos (by simp [hp]),List.filter_cons_of_neg (by simp [hp])]
  rw [nJ (λ r hr=>decide_eq_true (ha r hr)),fa (l:=q) (λ r hr=>decide_eq_false (by have:=hq r hr; omega)),fa (l:=a) (f:=λ r=>decide (t < r.a)) (λ r hr=>decide_eq_false (by have:=ha r hr; omega)),nJ (λ r hr=>decide_eq_true (hq r hr)),fa (l:=a) (f:=λ r=>decide (r.a=t)) (λ r hr=>decide_eq_false (by have:=ha r hr; omega)),fa (l:=q) (f:=λ r=>decide (r.a=t)) (λ r hr=>decide_eq_false (by have:=hq r hr; omega))]
  simp
theorem yu {a q:List aN} {t:Nat} (x:aF) (ha:∀ r ∈ a,r.a < t) (hq:∀ r ∈ q,t < r.a):iK (a++q) t x=a++aN.q t (Ll.q ([]++ [x])) J zl::q:=by
  have fa:∀ {l:List aN} {f:aN->Bool},(∀ r ∈ l,f r=J)->l.filter f= []:=λ {l f} h=>List.filter_eq_nil_iff.2 λ r hr=>by rw [h r hr]; decide
  unfold iK old
  rw [List.filter_append,List.filter_append,List.filter_append]
  rw [nJ (λ r hr=>decide_eq_true (ha r hr)),fa (l:=q) (λ r hr=>decide_eq_false (by have:=hq r hr; omega)),fa (l:=a) (f:=λ r=>decide (t < r.a)) (λ r hr=>decide_eq_false (by have:=ha r hr; omega)),nJ (λ r hr=>decide_eq_true (hq r hr)),fa (l:=a) (f:=λ r=>decide (r.a=t)) (λ r hr=>decide_eq_false (by have:=ha r hr; omega)),fa (l:=q) (f:=λ r=>decide (r.a=t)) (λ r hr=>decide_eq_false (by have:=hq r hr; omega))]
  simp
theorem zK {a q:List aN} {p:aN} {t:Nat} (hs:Up (a++q)) (hp:p.a=t) (ha:∀ r ∈ a,r.a < t) (hq:∀ r ∈ q,t < r.a):Up (a++p::q):=by
  have h:=List.pairwise_append.1 hs
  refine List.pairwise_append.2 ⟨h.1,List.pairwise_cons.2 ⟨λ r hr=>by rw [hp]; exact hq r hr,h.2.1⟩,λ r hr s hs=> ?_⟩
  rcases List.mem_cons.1 hs with e | e
  . rw [e,hp]; exact ha r hr
  . exact h.2.2 r hr s e
theorem si {l:List aN} (hs:Up l) (t:Nat) (x:aF):Up (iK l t x):=by
  rcases mQ hs t with ⟨a,p,q,rfl,hp,ha,hq,_⟩ | ⟨a,q,rfl,ha,hq,_⟩
  . rw [wI x hp ha hq]
    have h:=List.pairwise_append.1 hs
    have b:=List.pairwise_cons.1 h.2.1
    exact zK (List.pairwise_append.2 ⟨h.1,b.2,λ r hr s hs=>h.2.2 r hr s (.tail _ hs)⟩) Z ha hq
  . rw [yu x ha hq]; exact zK hs Z ha hq
theorem ES {a:fD} {z:List Nat}:∀ {l:List aN} (ds:List Nat),Up l->ib a z ds l=l.filter λ r=>decide (r.a ∉ ds)
  | l, [],h=>by rw [ib]; exact(nJ λ r hr=>by simp).symm
  | l,d::ds,h=>by
    rw [ib,bG,rD h]
    show ib a z ds (but d l)=_
    have hb:Up (but d l):=AR _ h
    rw [ES ds hb]
    unfold but
    rw [List.filter_filter]
    congr 1
    funext r
    simp only [List.mem_cons,not_or, <- Bool.decide_and]
    exact decide_eq_decide.2 ⟨λ h=>⟨h.2,h.1⟩,λ h=>⟨h.2,h.1⟩⟩
theorem ET {a:fD} {z:List Nat}:∀ {l:List aN} (ds:List Nat),Up l->ic a z ds l=l.filter λ r=>decide (r.a ∉ ds)
  | l, [],h=>by rw [ic]; exact(nJ λ r hr=>by simp).symm
  | l,d::ds,h=>by
    rw [ic,bG,rD h]
    show ic a z ds (but d l)=_
    have hb:Up (but d l):=AR _ h
    rw [ET ds hb]
    unfold but
    rw [List.filter_filter]
    congr 1
    funext r
    simp only [List.mem_cons,not_or, <- Bool.decide_and]
    exact decide_eq_decide.2 ⟨λ h=>⟨h.2,h.1⟩,λ h=>⟨h.2,h.1⟩⟩
theorem zL {l:List aN} (h:Up l) {r s:aN} (hr:r ∈ l) (hs:s ∈ l) (e:r.a=s.a):r=s:=by
  obtain⟨i,hi⟩:=List.mem_iff_getElem?.1 hr
  obtain⟨j,hj⟩:=List.mem_iff_getElem?.1 hs
  rcases Nat.lt_trichotomy i j with c | c | c
  . have:=Bq h hi hj c; omega
  . rw [c,hj] at hi; exact(Option.some.inj hi).symm
  . have:=Bq h hj hi c; omega
theorem BR {l:List aN} (h:Up l) (f:aN->Bool):(l.filter λ r=>decide (r.a ∉ (l.filter f).map λ q=>q.a))=l.filter λ r=> !f r:=by
  refine List.filter_congr λ r hr=> ?_
  cases hf:f r with
  | true=>
    refine decide_eq_false ?_
    intro hn
    exact hn (List.mem_map.2 ⟨r,List.mem_filter.2 ⟨hr,hf⟩,Z⟩)
  | false=>
    refine decide_eq_true λ hn=> ?_
    obtain⟨s,hs,e⟩:=List.mem_map.1 hn
    have:=zL h (List.mem_filter.1 hs).1 hr e
    rw [this] at hs
    exact absurd (List.mem_filter.1 hs).2 (by rw [hf]; decide)
theorem gd {α:Type} [Inhabited α] (a q:List α) (p:α):List.getD (a++p::q) (X a) ZZ=p:=by simp
theorem stt {α:Type} (a q:List α) (p y:α):List.set (a++p::q) (X a) y=a++y::q:=by simp
theorem lZ (t:Nat) (x:aF) (e:aN) (acc:List Nat) (r:List aN) {b:Bool} (hb:dies t x e=b):
    acc++List.map (λ q:aN=>q.a) (List.filter (dies t x) (e::r))=(if b=Zk then acc++ [e.a] else acc)++List.map (λ q:aN=>q.a) (List.filter (dies t x) r):=by
  cases b with
  | true=>rw [List.filter_cons_of_pos hb,ZK Z,List.map_cons,List.append_assoc]; rfl
  | false=>rw [List.filter_cons_of_neg (by rw [hb]; decide),ZV f6]
theorem JD (o:aZ) (t:Nat) (x:aF) (p:fD) (i:Int) (a b c:aN) (LA:List aN)
    (hLA:(List.set (List.set (List.set o.a.a (Int.toNat i) (aN.q a.a (Ll.q (a.b.a++ [x])) a.f a.e)) (Int.toNat i) (aN.q b.a (Ll.q b.b.a) J b.e)) (Int.toNat i) (aN.q c.a (Ll.q c.b.a) c.f ZB))=LA):
    ∀ (q:Nat) (acc:List Nat) (k:Nat),q=X LA - k->dY o t x p i a b c q acc k=acc++List.map (λ q:aN=>q.a) (List.filter (dies t x) (List.drop k LA)):=by
  intro q
  induction q with
  | zero=>intro acc k h; rw [dY,List.drop_eq_nil_of_le Y]; simp
  | succ q ih=>
    intro acc k h
    obtain⟨e,he⟩:∃ e,LA[k]? =Zw e:=⟨_,List.getElem?_eq_getElem Y⟩
    rw [dY,hLA,bG,bu he,drop_at he]
    simp only [bG]
    have g:=ih (acc++ [e.a]) (k+1) Y
    have n:=ih acc (k+1) Y
    by_cases d:e.f=Zk
    . rw [ZK d]
      by_cases m:t < e.a
      . rw [ZK Y]
        by_cases f:(lq x.j e.e.j).2=Zk
        . rw [ZK f]
          by_cases j:x.a=Zk
          . rw [ZK j,lZ t x e acc _ (b:=Zk) (by unfold dies; rw [d,f,j,decide_eq_true m]; rfl),ZK Z]; exact g
          . rw [ZV j]
            by_cases l:e.e.a=Zk
            . rw [ZK l,lZ t x e acc _ (b:=Zk) (by unfold dies; rw [d,f,l,decide_eq_true m,Bool.or_true]; rfl),ZK Z]; exact g
            . rw [ZV l,lZ t x e acc _ (b:=J) (by unfold dies; rw [Bool.eq_false_iff.2 j,Bool.eq_false_iff.2 l]; simp),ZV f6]; exact n
        . rw [ZV f,lZ t x e acc _ (b:=J) (by unfold dies; rw [Bool.eq_false_iff.2 f]; simp),ZV f6]; exact n
      . rw [ZV Y,lZ t x e acc _ (b:=J) (by unfold dies; rw [decide_eq_false m]; simp),ZV f6]; exact n
    . rw [ZV d,lZ t x e acc _ (b:=J) (by unfold dies; rw [Bool.eq_false_iff.2 d]; rfl),ZV f6]; exact n
theorem JE (m:aZ) (t:Nat) (x:aF) (p:fD) (i:Int) (a b c:aN) (LA:List aN)
    (hLA:(List.set (List.set (List.set (List.take (Int.toNat i) m.a.a++((aN.q t (Ll.q []) J ZB)::List.drop (Int.toNat i) m.a.a)) (Int.toNat i) (aN.q a.a (Ll.q (a.b.a++ [x])) a.f a.e)) (Int.toNat i) (aN.q b.a (Ll.q b.b.a) J b.e)) (Int.toNat i) (aN.q c.a (Ll.q c.b.a) c.f ZB))=LA):
    ∀ (q:Nat) (acc:List Nat) (k:Nat),q=X LA - k->dZ m t x p i a b c q acc k=acc++List.map (λ q:aN=>q.a) (List.filter (dies t x) (List.drop k LA)):=by
  intro q
  induction q with
  | zero=>intro acc k h; rw [dZ,List.drop_eq_nil_of_le Y]; simp
  | succ q ih=>
    intro acc k h
    obtain⟨e,he⟩:∃ e,LA[k]? =Zw e:=⟨_,List.getElem?_eq_getElem Y⟩
    rw [dZ,hLA,bG,bu he,drop_at he]
    simp only [bG]
    have g:=ih (acc++ [e.a]) (k+1) Y
    have n:=ih acc (k+1) Y
    by_cases d:e.f=Zk
    . rw [ZK d]
      by_cases o:t < e.a
      . rw [ZK Y]
        by_cases f:(lq x.j e.e.j).2=Zk
        . rw [ZK f]
          by_cases j:x.a=Zk
          . rw [ZK j,lZ t x e acc _ (b:=Zk) (by unfold dies; rw [d,f,j,decide_eq_true o]; rfl),ZK Z]; exact g
          . rw [ZV j]
            by_cases l:e.e.a=Zk
            . rw [ZK l,lZ t x e acc _ (b:=Zk) (by unfold dies; rw [d,f,l,decide_eq_true o,Bool.or_true]; rfl),ZK Z]; exact g
            . rw [ZV l,lZ t x e acc _ (b:=J) (by unfold dies; rw [Bool.eq_false_iff.2 j,Bool.eq_false_iff.2 l]; simp),ZV f6]; exact n
        . rw [ZV f,lZ t x e acc _ (b:=J) (by unfold dies; rw [Bool.eq_false_iff.2 f]; simp),ZV f6]; exact n
      . rw [ZV Y,lZ t x e acc _ (b:=J) (by unfold dies; rw [decide_eq_false o]; simp),ZV f6]; exact n
    . rw [ZV d,lZ t x e acc _ (b:=J) (by unfold dies; rw [Bool.eq_false_iff.2 d]; rfl),ZV f6]; exact n
theorem qA {m:List aN} (hs:Up m) (t:Nat) (x:aF) (c:fD):jm (aZ.q (Ll.q m)) t x c=
    (aZ.q (Ll.q ((iK m t x).filter λ r=> !dies t x r)),fD.q (Ll.q c.b.a) (Ll.q (c.e.a++List.map (λ q:aN=>q.a) ((iK m t x).filter (dies t x))))):=by
  have hu:=si hs t x
  unfold jm
  rw [bG]
  rcases mQ hs t with ⟨a,p,q,rfl,hp,ha,hq,hf⟩ | ⟨a,q,rfl,ha,hq,hf⟩
  . rw [hf,ZK Z]
    rw [wI x hp ha hq] at hu ⊢
    simp only [bG,Int.toNat_natCast,gd,stt]
    rw [JD _ t x c _ _ _ _ (a++aN.q t (Ll.q (p.b.a++ [x])) J zl::q) (by simp only [Int.toNat_natCast,stt, <- hp]; rfl) _ [] 0 i7]
    rw [List.drop_zero,List.nil_append]
    have e:(a++ { a:=p.a,b:= { a:=p.b.a++ [x] },f:=J,e:= { j:= { a:= [],b:= [] },a:=J } }::q)=(a++aN.q t (Ll.q (p.b.a++ [x])) J zl::q):=by rw [<- hp]; rfl
    rw [e,ES _ hu,BR hu]
  . rw [hf,ZV i7]
    rw [yu x ha hq] at hu ⊢
    have b:List.drop (X a) (a++q)=q:=List.drop_left' Z
    have d:List.take (X a) (a++q)=a:=List.take_left' Z
    simp only [bG,Int.toNat_natCast,b,d,gd,stt]
    rw [JE _ t x c _ _ _ _ (a++aN.q t (Ll.q ([]++ [x])) J zl::q) (by simp only [Int.toNat_natCast,b,d,stt]; rfl) _ [] 0 i7]
    rw [List.drop_zero,List.nil_append]
    have e:(a++ { a:=t,b:= { a:= []++ [x] },f:=J,e:= { j:= { a:= [],b:= [] },a:=J } }::q)=(a++aN.q t (Ll.q ([]++ [x])) J zl::q):=Z
    rw [e,ET _ hu,BR hu]
open List renaming length_append->o2,length_cons->q5,length_filter_le->Q2,length_nil->L3,map_append->P7,map_cons->s8,sum_append->Q3,sum_cons->Q0
open Ll renaming q->O
open Nat renaming le_trans->Q1
def pM (r:aN):Nat:=if r.f=Zk then 1 else 0
def Wt (l:List aN):Nat:=(l.map pM).sum
def kR (l:List aN):Nat:=(l.map λ r=>X r.b.a+pM r).sum
theorem mq {f:aN->Nat} (p:aN->Bool):∀ l:List aN,((l.filter p).map f).sum<=(l.map f).sum
  | []=>Nat.le_refl _
  | a::l=>by
    have ih:=mq (f:=f) p l
    rw [List.filter_cons]
    by_cases h:p a=Zk
    . rw [ZK h]; simp only [s8,Q0]; omega
    . rw [ZV h]; simp only [s8,Q0]; omega
theorem BS {f:aN->Nat} {r:aN}:∀ {l:List aN},r ∈ l->f r<=(l.map f).sum
  | a::l,h=>by
    simp only [s8,Q0]
    rcases List.mem_cons.1 h with e | e
    . rw [e]; omega
    . have:=BS (f:=f) e; omega
theorem IM (l:List aN):Wt l<=kR l:=by
  unfold Wt kR
  induction l with
  | nil=>exact Nat.le_refl _
  | cons a l ih=>simp only [s8,Q0]; omega
structure Fit (l:List aN):Prop where q::
  up:Up l
  len:X l<=999999
  tot:kR l<=1000000
theorem Fit.hd {l:List aN} (h:Fit l):Hd l:=λ r hr=>by
  have:=BS (f:=λ r:aN=>X r.b.a+pM r) hr
  have:=h.tot
  unfold kR at this
  omega
theorem Fit.wt {l:List aN} (h:Fit l):Wt l<=1000000:=Q1 (IM l) h.tot
theorem Fit.filter {l:List aN} (h:Fit l) (p:aN->Bool):Fit (l.filter p):=⟨h.up.filter p,Q1 (Q2 p l) h.len,Q1 (mq p l) h.tot⟩
theorem yX {m:List aN} {a:mg} (h:kL (aZ.q (O m))=(a,Zk)):∃ r ∈ m,r.f=Zk/\r.a=a.f/\r.e=a.a/\eu (aZ.q (O m)) a.f a.a= []:=by
  have go:∀ l:List aN,(∀ r ∈ l,r ∈ m)->lp (gV (aZ.q (O m)) l) (λ _=>(mg.q 0 ZB,J))=(a,Zk)->∃ r ∈ m,r.f=Zk/\r.a=a.f/\r.e=a.a/\eu (aZ.q (O m)) a.f a.a= []:=by
    intro l
    induction l with
    | nil=>intro _ h; exact Bool.noConfusion (show J=Zk from ZJ Prod.snd h)
    | cons r l ih=>
      intro hm h
      rw [gV] at h
      by_cases b:r.f=Zk
      . rw [ZK b,bG] at h
        by_cases c:((X (eu (aZ.q (O m)) r.a r.e):Nat):Int)=0
        . rw [ZK c] at h
          have e:mg.q r.a r.e=a:=ZJ Prod.fst h
          subst e
          exact⟨r,hm r b3,b,Z,Z,List.eq_nil_of_length_eq_zero (Int.ofNat.inj c)⟩
        . rw [ZV c] at h; exact ih (λ s hs=>hm s (.tail _ hs)) h
      . rw [ZV b] at h; exact ih (λ s hs=>hm s (.tail _ hs)) h
  exact go m (λ _ h=>h) h
theorem wJ (l:List aN) (hs:Up l) (t:Nat) (x:aF):X (iK l t x)<=X l+1:=by
  rcases mQ hs t with ⟨a,p,q,rfl,hp,ha,hq,_⟩ | ⟨a,q,rfl,ha,hq,_⟩
  . rw [wI x hp ha hq]; simp only [o2,q5]; omega
  . rw [yu x ha hq]; simp only [o2,q5]; omega
theorem vW (l:List aN) (hs:Up l) (t:Nat) (x:aF):kR (iK l t x)<=kR l+1/\Wt (iK l t x)<=Wt l:=by
  rcases mQ hs t with ⟨a,p,q,rfl,hp,ha,hq,_⟩ | ⟨a,q,rfl,ha,hq,_⟩
  . rw [wI x hp ha hq]; unfold kR Wt pM; simp only [P7,s8,Q3,Q0,o2,q5,L3]; simp; omega
  . rw [yu x ha hq]; unfold kR Wt pM; simp only [P7,s8,Q3,Q0,o2,q5,L3]; constructor <;> simp <;> omega
theorem wK {l:List aN} (hs:Up l) {r:aN} (hr:r ∈ l) (hw:r.f=Zk) (x:aF):X (iK l r.a x)=X l/\kR (iK l r.a x)=kR l/\Wt (iK l r.a x)+1=Wt l:=by
  rcases mQ hs r.a with ⟨a,p,q,rfl,hp,ha,hq,_⟩ | ⟨a,q,rfl,ha,hq,_⟩
  . have e:p=r:=zL hs i7 hr hp
    subst e
    rw [wI x Z ha hq]
    refine⟨by simp, ?_, ?_⟩
    . unfold kR pM; simp only [P7,s8,Q3,Q0,o2,q5,L3,hw]; simp <;> omega
    . unfold Wt pM; simp only [P7,s8,Q3,Q0,hw]; simp <;> omega
  . rcases List.mem_append.1 hr with h | h
    . exact absurd (ha r h) (Nat.lt_irrefl _)
    . exact absurd (hq r h) (Nat.lt_irrefl _)
theorem yM {m:List aN} (hf:Fit m) {a:mg} (hn:kL (aZ.q (O m))=(a,Zk)) {c:fD} {b:aZ} {d:fD} (hg:jm (aZ.q (O m)) a.f a.a c=(b,d)):
    Fit b.a.a/\Wt b.a.a+1<=Wt m/\d.b.a=c.b.a/\X d.e.a<=X c.e.a+1000000:=by
  obtain⟨r,hr,hw,ht,hx,_⟩:=yX hn
  rw [qA hf.up] at hg
  obtain⟨rfl,rfl⟩:_=b/\_=d:=⟨ZJ Prod.fst hg,ZJ Prod.snd hg⟩
  rw [<- ht, <- hx]
  obtain⟨e,g,h⟩:=wK hf.up hr hw r.e
  have hp:Fit (iK m r.a r.e):=⟨si hf.up _ _,by rw [e]; exact hf.len,by rw [g]; exact hf.tot⟩
  refine⟨hp.filter _, ?_,Z, ?_⟩
  . have:=mq (f:=pM) (λ s=> !dies r.a r.e s) (iK m r.a r.e)
    show Wt (List.filter (λ s=> !dies r.a r.e s) (iK m r.a r.e))+1<=_
    unfold Wt at this h ⊢
    omega
  . show X (c.e.a++_)<=_
    rw [o2,List.length_map]
    have:=Q2 (dies r.a r.e) (iK m r.a r.e)
    have:=hp.len
    omega
theorem AU {α β γ δ ε:Type} {a x:α} {b y:β} {c z:γ} {d u:δ} {e v:ε} (h:(a,b,c,d,e)=(x,y,z,u,v)):a=x/\b=y/\c=z/\d=u/\e=v:=⟨(fK h).1,fO (fK h).2⟩
def Ne (l:List aN):Prop:=∀ r ∈ l,1<=X r.b.a+pM r
structure jE (l:List aN):Prop where q::
  up:Up l
  ne:Ne l
  tot:kR l<=192
theorem Au:∀ {l:List aN},Ne l->X l<=kR l
  | [],_=>Nat.le_refl _
  | a::l,h=>by
    have c:=h a b3
    have b:=Au (l:=l) λ r hr=>h r (.tail _ hr)
    unfold kR at b ⊢
    simp only [List.length_cons,List.map_cons,List.sum_cons]
    omega
theorem jE.len {l:List aN} (h:jE l):X l<=192:=Nat.le_trans (Au h.ne) h.tot
theorem jE.fit {l:List aN} (h:jE l):Fit l:=⟨h.up,by have:=h.len; omega,by have:=h.tot; omega⟩
theorem jE.hd {l:List aN} (h:jE l):Hd l:=h.fit.hd
def sj (l:List Nat):List Nat:=gQ l
theorem Ha (l:List Nat):gQ l=sj l:=Z
theorem BU (a:Int):∀ (q:Nat) (z:Int) (l:List Nat),Int.toNat (z - a) < q->X (eX a q z l)=X l
  | 0,z,l,h=>Y
  | q+1,z,l,h=>by
    unfold eX
    by_cases c:z > a
    . rw [ZK c]
      simp only [bG]
      split
      . rw [BU a q (z - 1) _ Y,List.length_set,List.length_set]
      . rfl
    . rw [ZV c]
theorem BV (b a:Int):∀ (q:Nat) (z:Int) (l:List Nat),Int.toNat (a - z) < q->X (eY b a q z l)=X l
  | 0,z,l,h=>Y
  | q+1,z,l,h=>by
    unfold eY
    by_cases c:z < a
    . rw [ZK c]
      simp only [bG]
      rw [BV b a q (z+1) _ Y,BU b _ z l Y]
    . rw [ZV c]
theorem I7 {l:List Nat} {i:Nat} (h:i+1 < X l):(List.set (List.set l (i+1) (List.getD l i ZZ)) i (List.getD l (i+1) ZZ)).Perm l:=by
  have b:l[i]? =Zw (List.getD l i ZZ):=by rw [List.getD_eq_getElem?_getD,List.getElem?_eq_getElem Y]; rfl
  have c:l[i+1]? =Zw (List.getD l (i+1) ZZ):=by rw [List.getD_eq_getElem?_getD,List.getElem?_eq_getElem Y]; rfl
  generalize List.getD l i ZZ=x at b ⊢
  generalize List.getD l (i+1) ZZ=y at c ⊢
  have a:l=List.take i l++x::y::List.drop (i+1+1) l:=by
    conv=>lhs; rw [<- List.take_append_drop i l]
    rw [drop_at b,drop_at c]
  have d:X (List.take i l)=i:=by rw [List.length_take]; omega
  generalize List.take i l=A at a d
  generalize List.drop (i+1+1) l=B at a
  subst d
  rw [a]
  have e:List.set (A++x::y::B) (X A+1) x=A++x::x::B:=by
    have:=stt (A++ [x]) B y x
    simp only [List.append_assoc,List.cons_append,List.nil_append,List.length_append,List.length_cons,List.length_nil] at this
    exact this
  rw [e,stt]
  exact List.Perm.append_left A (List.Perm.swap _ _ _)
theorem AV (a:Int) (b:0<=a):∀ (q:Nat) (z:Int) (l:List Nat),Int.toNat (z - a) < q->z < (X l:Int)->(eX a q z l).Perm l
  | 0,z,l,h,_=>Y
  | q+1,z,l,h,hz=>by
    unfold eX
    by_cases c:z > a
    . rw [ZK c]
      simp only [bG]
      split
      . refine(AV a b q (z - 1) _ Y (by rw [List.length_set,List.length_set]; omega)).trans ?_
        obtain⟨i,rfl⟩:∃ i:Nat,z=((i+1:Nat):Int):=⟨Int.toNat (z - 1),Y⟩
        have d:Int.toNat (((i+1:Nat):Int) - 1)=i:=Y
        rw [d,Int.toNat_natCast]
        exact I7 Y
      . exact List.Perm.refl _
    . rw [ZV c]
theorem AX (a b:Int) (d:0<=a):∀ (q:Nat) (z:Int) (l:List Nat),Int.toNat (b - z) < q->b<=(X l:Int)->(eY a b q z l).Perm l
  | 0,z,l,h,_=>Y
  | q+1,z,l,h,hz=>by
    unfold eY
    by_cases c:z < b
    . rw [ZK c]
      simp only [bG]
      have hp:=AV a d (Int.toNat (z - a)+1) z l Y Y
      exact(AX a b d q (z+1) _ Y (by rw [hp.length_eq]; exact hz)).trans hp
    . rw [ZV c]
theorem yY (l:List Nat):(sj l).Perm l:=by
  unfold sj gQ jJ ja
  simp only [bG]
  exact AX _ _ (Int.le_refl _) _ _ _ Y (Int.le_refl _)
theorem yw {l:List Nat} {n:Nat}:n ∈ sj l↔n ∈ l:=(yY l).mem_iff
theorem Av (l:List Nat):X (sj l)=X l:=by
  unfold sj gQ jJ ja
  simp only [bG]
  exact BV _ _ _ _ _ Y
theorem Ed (p:aN->Bool):∀ l:List aN,X (l.filter p)+X (l.filter λ r=> !p r)=X l
  | []=>rfl
  | a::l=>by
    have ih:=Ed p l
    cases h:p a with
    | true=>rw [List.filter_cons_of_pos h,List.filter_cons_of_neg (by rw [h]; decide)]; simp only [List.length_cons]; omega
    | false=>rw [List.filter_cons_of_neg (by rw [h]; decide),List.filter_cons_of_pos (by rw [h]; rfl)]; simp only [List.length_cons]; omega
theorem zM (l:List aN):Wt l<=X l:=by
  unfold Wt
  induction l with
  | nil=>exact Nat.le_refl _
  | cons a l ih=>
    simp only [List.map_cons,List.sum_cons,List.length_cons]
    have:pM a<=1:=by unfold pM; split <;> omega
    omega
theorem He {m:List aN} (hf:Fit m) {a:mg} (hn:kL (aZ.q (Ll.q m))=(a,Zk)) {c:fD} {b:aZ} {d:fD} (hg:jm (aZ.q (Ll.q m)) a.f a.a c=(b,d)):
    Fit b.a.a/\Wt b.a.a+1<=Wt m/\d.b.a=c.b.a/\X d.e.a+X b.a.a<=X c.e.a+X m:=by
  obtain⟨e,f,g,_⟩:=yM hf hn hg
  refine⟨e,f,g, ?_⟩
  obtain⟨r,hr,hw,ht,hx,_⟩:=yX hn
  rw [qA hf.up] at hg
  obtain⟨rfl,rfl⟩:_=b/\_=d:=⟨ZJ Prod.fst hg,ZJ Prod.snd hg⟩
  rw [<- ht, <- hx]
  obtain⟨h,_,_⟩:=wK hf.up hr hw r.e
  have i:=Ed (dies r.a r.e) (iK m r.a r.e)
  show X (c.e.a++_)+X (List.filter (λ s=> !dies r.a r.e s) (iK m r.a r.e))<=_
  rw [List.length_append,List.length_map]
  omega
theorem I8 {m:List aN} (h:jE m) {t:Nat} {a:aZ} (hr:jC (aZ.q (Ll.q m)) t=a):Fit a.a.a/\X a.a.a<=X m/\Wt a.a.a<=X a.a.a:=by
  rw [rD h.up] at hr
  subst hr
  exact⟨h.fit.filter _,List.length_filter_le _ m,zM _⟩
theorem Jv {m:List aN} (h:jE m) {t:Nat} {x:aF} {c:fD} {a:aZ} {b:fD} (hg:jm (aZ.q (Ll.q m)) t x c=(a,b)):
    Fit a.a.a/\X b.e.a+X a.a.a<=X c.e.a+X m+1/\Wt a.a.a<=X a.a.a/\b.b.a=c.b.a:=by
  rw [qA h.up] at hg
  obtain⟨rfl,rfl⟩:_=a/\_=b:=⟨ZJ Prod.fst hg,ZJ Prod.snd hg⟩
  have d:=wJ m h.up t x
  obtain⟨e,f⟩:=vW m h.up t x
  have g:=h.len
  have i:=h.tot
  have hp:Fit (iK m t x):=⟨si h.up _ _,Y,Y⟩
  have j:=Ed (dies t x) (iK m t x)
  refine⟨hp.filter _, ?_,zM _,Z⟩
  show X (c.e.a++_)+X (List.filter (λ r=> !dies t x r) (iK m t x))<=_
  rw [List.length_append,List.length_map]
  omega
open List renaming flatMap->q0,length_drop->o1,length_replicate->O7,length_set->N1,length_take->o0,mem_flatMap->P8
open _root_.Go.Proofs.Tryz renaming isAgg35->E4
section
open Go.RowKit
def dD:Nat->List aN->List Nat->List Nat->(List aN) × (List Nat) × (List Nat)
  | 0,c,d,e=>ZZ
  | f+1,c,d,e=>bnd (kL (aZ.q (O c))) λ a=>if a.2=Zk then bnd (jm (aZ.q (O c)) a.1.f a.1.a (fD.q (O d) (O e))) λ b=>dD f b.1.a.a (b.2.b.a++ [a.1.f]) b.2.e.a else(c,d,e)
def kN (c:aZ) (d:fD):aZ × fD:=
 bnd (dD ((Wt c.a.a)+1) c.a.a d.b.a d.e.a) λ sLrL=>bnd (gQ sLrL.2.1) λ a=>bnd (gQ sLrL.2.2) λ b=>(aZ.q (O sLrL.1),fD.q (O a) (O b))
theorem rE (w D g0) (F:aZ) (I Z7 B x) (z:fD) (K L M Z5) (r0:aZ) (r1:fD) (H:Own w D w [blk g0 [W I (X F.a.a) Z7] 114,row I (X F.a.a) Z7 (q0 aB.J B) 164 6,sepL (q0 J4 B),blk x [W K (X z.b.a) L, W M (X z.e.a) Z5] 157,row K (X z.b.a) L (q0 (eN .u64) z.b.a) 32 1,row M (X z.e.a) Z5 (q0 (eN .u64) z.e.a) 32 1]) (Z6:List.map aB.abs B=F.a.a) (eG:Fit F.a.a) (eH:X F.a.a+X z.e.a<=12) (eO:Wt F.a.a+X z.b.a<=12) (hr:kN F z=(r0,r1)):
    Calls Tryz.prog 73 #[vP g0 0,vP x 0] w (dM λ v w'=> ∃ P Q A R S Z8 Z4,v= .tuple #[]/\Own w D w' [blk g0 [W P (X r0.a.a) Q] 114,row P (X r0.a.a) Q (q0 aB.J A) 164 6,sepL (q0 J4 A),blk x [W R (X r1.b.a) S, W Z8 (X r1.e.a) Z4] 157,row R (X r1.b.a) S (q0 (eN .u64) r1.b.a) 32 1,row Z8 (X r1.e.a) Z4 (q0 (eN .u64) r1.e.a) 32 1]/\(List.map aB.abs A=r0.a.a)/\(X r1.b.a<=12/\X r1.e.a<=12)):=by
 unfold kN at hr
 have bS:=bg Z6
 have bT:=H.rowC (i:=1) Z
 have bU:=H.rowC (i:=4) Z
 have bV:=H.rowC (i:=5) Z
 refine cb Tryz.func73 ?_
 refine JG (bo ?_)
 have bW:=H.pf [0,3]
 obtain⟨bX,Z3⟩:=Jq λ u (g:Nat) h a j (l:Nat) c n (p:Nat) b (Z9:Nat) w'=>Own w D w' [blk g0 [W u (X a) g] 114,blk x [W j (X c) l, W n (X b) p] 157,row u (X a) g (q0 aB.J h) 164 6,sepL (q0 J4 h),row j (X c) l (q0 (eN .u64) c) 32 1,row n (X b) p (q0 (eN .u64) b) 32 1]/\List.map aB.abs h=a/\Fit a/\Hd a/\X a+X b<=12/\X c+Wt a<=12/\Wt a < Z9/\dD ((Wt F.a.a)+1) F.a.a z.b.a z.e.a=dD Z9 a c b
 refine Wp.loop (λ i:(Option Addr) × Nat × (List aB) × (List aN) × (Option Addr) × Nat × (List Nat) × (Option Addr) × Nat × (List Nat) × Nat=> [(0,vP g0 0),(1,vP x 0)]) bX (λ i=>i.2.2.2.2.2.2.2.2.2.2) (I,Z7,B,F.a.a,K,L,z.b.a,M,Z5,z.e.a,(Wt F.a.a)+1) ⟨Z,Z,ZW⟩ (Z3.2 ⟨bW,by exact Z6,f8,by exact Fit.hd f8,Y,Y,Y,Z⟩) ?_
 rintro ⟨u,g,h,a,j,l,c,n,p,b,Z9⟩ eQ bn
 show Wp _ _ _ [(0,vP g0 0),(1,vP x 0)] _ _
 obtain⟨aR,C,dF,dG,dI,dJ,dK,aC⟩:=Z3.1 bn
 have dL:=bg C
 obtain⟨aS,bq⟩:∃ q,Z9=q+1:=⟨Z9 - 1,Y⟩
 subst bq
 refine bo (sr (Mz Z ?_))
 have dN:=aR.rowC (i:=2) Z
 obtain⟨⟨d,ay⟩,E⟩:∃ q:mg × Bool,kL (aZ.q (O a))=q:=⟨_,Z⟩
 obtain⟨eT,bu,dO,bv,aD⟩:=Kb aR
 refine cl Tryz.call121 (xe _ _ g0 (aZ.q (O a)) u g h d ay bu C (aD _ 1 _ Z bQ) Y (λ x9 h9=>⟨aD _ 2 _ Z (bM (P8.2 ⟨x9,h9,b3⟩) bQ),dH (φ:=λ _=>_) aR (i:=3) Z (bM (P8.2 ⟨x9,h9,b3⟩) dP)⟩) g5 E) ?_
 rintro _ eU ⟨rfl,bz⟩
 have bY:=bv _ _ bz
 refine Mz Z (Kz (Zx (Zc (mg.J d))) (Kz (V ay) ?_))
 refine cu [.int .u64 0, Zz ⟨List.toArray []⟩, Zz ⟨List.toArray []⟩, V J] 194 bY ?_
 intro aT eX bZ
 refine cO (mg.J d) 0 bZ Tryz.sizeOf194 ?_
 intro eY az
 refine An Z (JG (sr (Mz Z (Kz (V (!ay)) (nt ?_)))))
 rcases Nf (ay) with G | G
 refine jF (cn G) (sk (sr (Mz Z (Kz (vP aT 0) (Lz (vU d.f) az 0 Tryz.isAgg32 (Kz (vP aT 1) (La (aF.J d.a) az 0 Tryz.isAgg118 Tryz.sizeOf118 (Mz Z ?_))))))))
 have cz:=az.pb [2,5,6,0]
 obtain⟨⟨Z1,r⟩,Z2⟩:∃ q:aZ × fD,jm (aZ.q (O a)) d.f d.a (fD.q (O c) (O b))=q:=⟨_,Z⟩
 obtain⟨eZ,bA,dS,bB,dU⟩:=KH cz
 refine cl Tryz.call72 (r9 _ _ g0 (aZ.q (O a)) u g h d.f d.a x (fD.q (O c) (O b)) j l n p Z1 r bA C g5 f8 j7 Z2) ?_
 rintro _ fe ⟨cB,cK,cZ,fo,fu,df,dh,rfl,bC,aG⟩
 have aA:=bB _ _ bC
 have dV:=bg aG
 have dW:=aA.rowC (i:=1) Z
 have dX:=aA.rowC (i:=4) Z
 have dY:=aA.rowC (i:=5) Z
 obtain⟨bD,aH,Z0,aI⟩:=He (m:=a) f8 (E.trans (ZJ (λ q=>(_,q)) G)) Z2
 replace aH:Wt Z1.a.a+1<=Wt a:=aH
 replace Z0:r.b.a=c:=Z0
 replace aI:X r.e.a+X Z1.a.a<=X b+X a:=aI
 have dZ:X r.b.a=X c:=by rw [Z0]
 have d9:X Z1.a.a<=999999:=bD.len
 refine nt ?_
 refine mX 7 [8,11] (bI.block (JP (bI.block (JP J3)))) aA ?_
 intro fw dm
 refine Ki (v:=vP x 0) 0 Z f1 (λ _=>JM Z) (qv 1 Z Z (qp x 0 2 Z (qp x 0 3 Z (ql 4 Z 3 E4 Z Z Z (qp aT 0 5 Z (ql 6 Z 6 Tryz.isAgg32 Z Z Z ?_))))))
 refine qd 7 Z (Kt (cs:= [vU d.f]) (t:=32) (sz:=1) (m:=1) dm Z Z Za Z f6 ?_)
 intro dn ed aa
 replace aa:=Ke (y:=row dn 1 1 (q0 (eN .u64) ([d.f])) 32 1) Z aa
 have aJ:=aa.pb [0]
 refine⟨.inr ⟨_,aJ⟩, ?_⟩
 have aK:=aJ.pf [4]
 refine qd 8 Z (J7 (k:=X r.b.a) (m:=1) (iZ) aK Z Z (fq Tryz.underlying35 (aK.rds (i:=7) Z) (di mW ([d.f]))) Z Y (s:=X (r.b.a++ [d.f])) f7 (List.flatMap_append).symm ?_)
 intro aL aM ek bE
 have dw:X (r.b.a++ [d.f])=X r.b.a+1:=by simp only [o2,q5,L3]
 refine⟨.inl f1, ?_⟩
 refine Ki (v:=vP x 0) 9 Z f1 (λ _=>yk) (Ki (v:=vP x 0) 10 Z f1 (λ _=>yk) ?_)
 have bF:=bE.pf [4]
 refine qe 11 Z (Do.store (vs:= [W aL (X (r.b.a++ [d.f])) aM]) (o:=0) bF Z Z Tryz.sizeOf35 Z Z Z Z ?_)
 intro eu bG
 refine⟨.inl f1, ?_⟩
 refine qn (bN ?_)
 have bH:=bG.px [2] [6,7] [1,5]
 exact JX (cB,cK,cZ,Z1.a.a,aL,aM,(r.b.a++ [d.f]),df,dh,r.e.a,aS) ⟨Z,Z,ZW⟩ (Z3.2 ⟨bH,by exact aG,f8,by exact Fit.hd f8,Y,Y,Y,N (aC) (N (ae E) (N (ip G) (ae Z2)))⟩) (by show aS < aS+1; omega)
 refine jT (cn G) (Wp.exit (JV (Ma Z ?_)))
 have aU:dD ((Wt F.a.a)+1) F.a.a z.b.a z.e.a=(a,c,b):=N (aC) (N (ae E) (eP G))
 refine JV (J2 (JK (JG ?_)))
 have aO:=az.px [] [0] []
 refine JI (Mz Z (Kz (vP x 0) (Kz (vP x 0) (Lz (W j (X c) l) aO 1 E4 ?_))))
 have bJ:=aO.pf [4]
 obtain⟨e,af⟩:∃ q,gQ c=q:=⟨_,Z⟩
 obtain⟨eB,aV,dx,aW,dz⟩:=Kb bJ
 refine cl Tryz.call122 (oK _ _ j (X c) l c e aV Z Y Y af) ?_
 rintro _ eD ⟨rfl,aX,ag⟩
 have ah:=aW _ _ aX
 have dA:=ah.rowC (i:=0) Z
 replace ag:X e=X c:=ag
 refine nt (JI (Mz Z (Kz (vP x 0) (Kz (vP x 1) (Lz (W n (X b) p) ah 2 E4 ?_)))))
 have bK:=ah.pf [5]
 obtain⟨f,ai⟩:∃ q,gQ b=q:=⟨_,Z⟩
 obtain⟨eF,aY,dB,bf,dC⟩:=Kb bK
 refine cl Tryz.call122 (oK _ _ n (X b) p b f aY Z Y Y ai) ?_
 rintro _ aP ⟨rfl,bi,aj⟩
 have aQ:=bf _ _ bi
 have dE:=aQ.rowC (i:=0) Z
 replace aj:X f=X b:=aj
 refine WL.nil (Kl (res0 Z) ?_)
 have ak:X c=X e:=by first | omega | (simp only [N1]; done) | (simp only [N1,o2,q5,L3,o0,o1,O7]; omega)
 have bL:Own w D aP [row n (X b) p (q0 (eN .u64) f) 32 1,row j (X e) l (q0 (eN .u64) e) 32 1,blk g0 [W u (X a) g] 114,blk x [W j (X e) l, W n (X b) p] 157,row u (X a) g (q0 aB.J h) 164 6,sepL (q0 J4 h)]:=by rw [<- ak]; exact aQ
 have au:X b=X f:=by first | omega | (simp only [N1]; done) | (simp only [N1,o2,q5,L3,o0,o1,O7]; omega)
 have bO:Own w D aP [row n (X f) p (q0 (eN .u64) f) 32 1,row j (X e) l (q0 (eN .u64) e) 32 1,blk g0 [W u (X a) g] 114,blk x [W j (X e) l, W n (X f) p] 157,row u (X a) g (q0 aB.J h) 164 6,sepL (q0 J4 h)]:=by rw [<- au]; exact bL
 have bP:=bO.pb [3,1,0]
 obtain⟨rfl,rfl⟩:=fK (zj hr zq3)
 exact⟨u,g,h,j,l,n,p,(by(first | rw [<- ak] | skip); (first | rw [<- au] | skip); first | done | rfl),bP,C,g5⟩
end
open Int renaming toNat->U
open List renaming drop->r6,getD->y4,map->r7,mem_of_getElem?->E1,set->N0,take->t8
open Sv renaming q->O6
open _root_.Go.Proofs.Tryz renaming isAgg112->P0,isAgg118->P1,sizeOf118->P2
section
open Go.RowKit
def iT (c:aZ) (d:Nat):(List Nat) × (List Nat) × aZ:=
 bnd (jC c d) λ b=>bnd (kN b (fD.q (O []) (O []))) λ a=>(a.2.b.a,a.2.e.a,a.1)
theorem vC (w D z) (d:aZ) (e f c Z5 A B) (Z6:aZ) (H:Own w D w [blk z [W e (X d.a.a) f] 114,row e (X d.a.a) f (q0 aB.J c) 164 6,sepL (q0 J4 c)]) (g:r7 aB.abs c=d.a.a) (aM:X d.a.a<=12) (aN:Hd d.a.a) (aO:jE d.a.a) (hr:iT d Z5=(A,B,Z6)):
    Calls Tryz.prog 144 #[vP z 0,vU Z5] w (dM λ v w'=> ∃ B0 b0 B1 b1 h j a,v= .tuple #[W B0 (X A) b0, W B1 (X B) b1]/\Own w D w' [row B0 (X A) b0 (q0 (eN .u64) A) 32 1,row B1 (X B) b1 (q0 (eN .u64) B) 32 1,blk z [W h (X Z6.a.a) j] 114,row h (X Z6.a.a) j (q0 aB.J a) 164 6,sepL (q0 J4 a)]/\(r7 aB.abs a=Z6.a.a)/\(X A<=12/\X B<=12)):=by
 have P:=bg g
 have Q:=H.rowC (i:=1) Z
 refine cb Tryz.func144 ?_
 refine sr (Az Z (Ar Z (Mz Z (Mz Z ?_))))
 obtain⟨b,k⟩:∃ q,jC d Z5=q:=⟨_,Z⟩
 obtain⟨aP,C,az,E,aA⟩:=KE H
 refine cl Tryz.call120 (pI _ _ z d e f c Z5 b C g g5 k) ?_
 rintro _ aQ ⟨R,S,Z8,rfl,F,o,p⟩
 have G:=E _ _ F
 have aC:=bg o
 have aD:=G.rowC (i:=1) Z
 replace p:X b.a.a<=X d.a.a:=p
 obtain⟨aF,r,s⟩:=I8 (m:=d.a.a) f8 k
 replace r:X b.a.a<=X d.a.a:=r
 replace s:Wt b.a.a<=X b.a.a:=s
 refine ns ?_
 refine cu [W Zv 0 0, W Zv 0 0] 157 G ?_
 intro y I Z4
 refine ns (Mz Z ?_)
 have Z3:Own w D I (row Zv 0 0 (q0 (eN .u64) []) 32 1::_):=Z4.free (cK 32 1)
 have Z9:Own w D I (row Zv 0 0 (q0 (eN .u64) []) 32 1::_):=Z3.free (cK 32 1)
 have Z1:=Z9.pb [2,1,0]
 obtain⟨⟨Z7,l⟩,t⟩:∃ q:aZ × fD,kN b (fD.q (O []) (O []))=q:=⟨_,Z⟩
 obtain⟨aR,K,aG,L,aH⟩:=KH Z1
 refine cl Tryz.call73 (rE _ _ z b R S Z8 y (fD.q (O []) (O [])) Zv 0 Zv 0 Z7 l K o f8 g4 g4 t) ?_
 rintro _ aS ⟨Z2,Z0,aa,af,ag,ah,ai,rfl,M,u,x⟩
 have n:=L _ _ M
 have aI:=bg u
 have aJ:=n.rowC (i:=1) Z
 have aK:=n.rowC (i:=4) Z
 have aL:=n.rowC (i:=5) Z
 replace x:X l.b.a<=12/\X l.e.a<=12:=x
 refine nt (JG ?_)
 refine Ji [] (JP J3) n ?_
 intro aT aj
 refine qp y 0 0 Z (ql 1 Z 3 E4 Z Z Z (qp y 1 2 Z (ql 3 Z 3 E4 Z Z Z (qa 4 Z Z (qa 5 Z Z (qn (JK (rt (JY (kS Z Z Z) ?_)))))))))
 have ak:=aj.px [4,5] [3] []
 obtain⟨rfl,rfl,rfl⟩:=zt (zj hr (show _=(l.b.a,l.e.a,Z7) from N (ae k) (ae t)))
 exact⟨af,ag,ah,ai,Z2,Z0,aa,Z,ak,u,g4⟩
def iP (d:aZ) (i:Nat) (l:aF):Int × (List Nat) × (List Nat) × Int × aZ:=
 bnd (dR l.j) λ m=>if m=0 then bnd (gu d i) λ n=>if n=Zk then(0,([]:List Nat),([]:List Nat),4,d) else bnd (ku d i l) λ o=>if o=Zk then(1,([]:List Nat),([]:List Nat),0,d) else bnd (ng d) λ p=>if p >= 192 then(3,([]:List Nat),([]:List Nat),0,d) else bnd (eu d i l) λ j=>if((X j:Nat):Int)=0 then bnd (jm d i l (fD.q (O []) (O []))) λ h=>bnd (kN h.1 h.2) λ e=>(1,e.2.b.a,e.2.e.a,0,e.1) else bnd (y4 j 0 ZZ) λ k=>if((k:Nat):Int) < ((i:Nat):Int) then(3,([]:List Nat),([]:List Nat),0,d) else bnd (eZ d i) λ a=>if a.2=Zk then bnd (y4 d.a.a (U a.1) ZZ) λ b=>bnd (y4 (N0 d.a.a (U a.1) (aN.q b.a (O b.b.a) Zk b.e)) (U a.1) ZZ) λ f=>(2,([]:List Nat),([]:List Nat),0,aZ.q (O (N0 (N0 d.a.a (U a.1) (aN.q b.a (O b.b.a) Zk b.e)) (U a.1) (aN.q f.a (O f.b.a) f.f l)))) else bnd (y4 (t8 (U a.1) d.a.a++((aN.q i (O []) J ZB)::r6 (U a.1) d.a.a)) (U a.1) ZZ) λ c=>bnd (y4 (N0 (t8 (U a.1) d.a.a++((aN.q i (O []) J ZB)::r6 (U a.1) d.a.a)) (U a.1) (aN.q c.a (O c.b.a) Zk c.e)) (U a.1) ZZ) λ g=>(2,([]:List Nat),([]:List Nat),0,aZ.q (O (N0 (N0 (t8 (U a.1) d.a.a++((aN.q i (O []) J ZB)::r6 (U a.1) d.a.a)) (U a.1) (aN.q c.a (O c.b.a) Zk c.e)) (U a.1) (aN.q g.a (O g.b.a) g.f l)))) else(0,([]:List Nat),([]:List Nat),21,d)
theorem xW (w D E) (n:aZ) (l r g u) (x:aF) (r0 r1 r2 r3) (r4:aZ) (H:Own w D w [blk E [W l (X n.a.a) r] 114,row l (X n.a.a) r (q0 aB.J g) 164 6,sepL (q0 J4 g)]) (p:r7 aB.abs g=n.a.a) (kD:X n.a.a<=11) (bv:Hd n.a.a) (kF:jE n.a.a) (hr:iP n u x=(r0,r1,r2,r3,r4)):
    Calls Tryz.prog 38 #[vP E 0,vU u, Zx (Zc (aF.J x))] w (dM λ v w'=> ∃ B1 b1 B2 b2 aI aJ af,v= .tuple #[vI r0, W B1 (X r1) b1, W B2 (X r2) b2,vI r3]/\Own w D w' [row B1 (X r1) b1 (q0 (eN .u64) r1) 32 1,row B2 (X r2) b2 (q0 (eN .u64) r2) 32 1,blk E [W aI (X r4.a.a) aJ] 114,row aI (X r4.a.a) aJ (q0 aB.J af) 164 6,sepL (q0 J4 af)]/\(r7 aB.abs af=r4.a.a)/\(X r1<=12/\X r2<=12)):=by
 have ic:=bg p
 have ig:=H.rowC (i:=1) Z
 refine cb Tryz.func38 ?_
 refine sr ?_
 refine cu (aF.J x) 118 H ?_
 intro aK kG di
 refine Az Z (Az Z (Az Z (An Z (JG (sr (Kz (vP aK 0) (La (au.J x.j) di 0 Tryz.isAgg37 Tryz.sizeOf37 ?_)))))))
 obtain⟨bz,A⟩:∃ q,dR x.j=q:=⟨_,Z⟩
 obtain⟨kH,dm,jN,dn,jO⟩:=JJ di
 refine cl Tryz.call65 (jr _ _ x.j bz dm A) ?_
 rintro _ dw ⟨rfl,dx⟩
 have dz:=dn _ _ dx
 refine fw (Zb (¬ (bz=0))) (JZ (e:= !(Zy (bz=0))) yk ZY) (nt ?_)
 by_cases Z6:bz=0
 refine jF (dF (Nc Z6)) (sk (JG (sr (Mz Z (Mz Z ?_)))))
 have bK:=dz.pf [1]
 have jP:=bK.rowC (i:=2) Z
 obtain⟨dA,C⟩:∃ q,gu n u=q:=⟨_,Z⟩
 obtain⟨kI,dB,jR,dC,bC⟩:=Kb bK
 refine cl Tryz.call68 (vB _ _ E n l r g u dA dB p (bC _ 1 _ Z bQ) Y (λ x9 h9=>⟨bC _ 2 _ Z (bM (P8.2 ⟨x9,h9,b3⟩) bQ),dH (φ:=λ _=>_) bK (i:=3) Z (bM (P8.2 ⟨x9,h9,b3⟩) dP)⟩) g5 C) ?_
 rintro _ dD ⟨rfl,dE⟩
 have aL:=dC _ _ dE
 refine nt ?_
 rcases Nf (dA) with P | P
 refine jT P (sr (Az Z (Az Z (Az Z (An Z (rt (tR (JY (xm Z Z Z Z Z) ?_))))))))
 have ik:Own w D dD (row Zv 0 0 (q0 (eN .u64) []) 32 1::_):=aL.free (cK 32 1)
 have il:Own w D dD (row Zv 0 0 (q0 (eN .u64) []) 32 1::_):=ik.free (cK 32 1)
 have iw:=il.px [1] [3] []
 obtain⟨rfl,rfl,rfl,rfl,rfl⟩:=AU (zj hr (show _=(0,([]:List Nat),([]:List Nat),4,n) from N (ae A) (N (ip Z6) (N (ae C) (ip P))))).symm
 exact⟨Zv,0,Zv,0,l,r,g,Z,iw,p,g4⟩
 refine jF P (sk (JG (sr (Mz Z (Mz Z (La (aF.J x) aL 1 P1 P2 ?_))))))
 have jS:=aL.rowC (i:=2) Z
 obtain⟨dG,F⟩:∃ q,ku n u x=q:=⟨_,Z⟩
 obtain⟨kJ,dI,jU,dK,bD⟩:=Kb aL
 refine cl Tryz.call69 (xU _ _ E n l r g u x dG dI p (bD _ 1 _ Z bQ) Y (λ x9 h9=>⟨bD _ 2 _ Z (bM (P8.2 ⟨x9,h9,b3⟩) bQ),dH (φ:=λ _=>_) aL (i:=3) Z (bM (P8.2 ⟨x9,h9,b3⟩) dP)⟩) g5 F) ?_
 rintro _ dL ⟨rfl,dN⟩
 have bA:=dK _ _ dN
 refine nt ?_
 rcases Nf (dG) with Z8 | Z8
 refine jT Z8 (sr (Az Z (Az Z (Az Z (An Z (rt (tR (JY (xm Z Z Z Z Z) ?_))))))))
 have iy:Own w D dL (row Zv 0 0 (q0 (eN .u64) []) 32 1::_):=bA.free (cK 32 1)
 have iA:Own w D dL (row Zv 0 0 (q0 (eN .u64) []) 32 1::_):=iy.free (cK 32 1)
 have iB:=iA.px [1] [3] []
 obtain⟨rfl,rfl,rfl,rfl,rfl⟩:=AU (zj hr (show _=(1,([]:List Nat),([]:List Nat),0,n) from N (ae A) (N (ip Z6) (N (ae C) (N (eP P) (N (ae F) (ip Z8))))))).symm
 exact⟨Zv,0,Zv,0,l,r,g,Z,iB,p,g4⟩
 refine jF Z8 (sk (JG (sr (Mz Z ?_))))
 have jV:=bA.rowC (i:=2) Z
 obtain⟨bL,Q⟩:∃ q,ng n=q:=⟨_,Z⟩
 obtain⟨kK,dO,jW,dQ,bE⟩:=Kb bA
 refine cl Tryz.call70 (wH _ _ E n l r g bL dO p (bE _ 1 _ Z bQ) Y (λ x9 h9=>⟨bE _ 2 _ Z (bM (P8.2 ⟨x9,h9,b3⟩) bQ),dH (φ:=λ _=>_) bA (i:=3) Z (bM (P8.2 ⟨x9,h9,b3⟩) dP)⟩) g5 Q) ?_
 rintro _ dS ⟨rfl,dU⟩
 have aM:=dQ _ _ dU
 refine Kz (Zb (bL >= 192)) (nt ?_)
 by_cases ag:bL >= 192
 refine jT (dT ag) (sr (Az Z (Az Z (Az Z (An Z (rt (tR (JY (xm Z Z Z Z Z) ?_))))))))
 have iC:Own w D dS (row Zv 0 0 (q0 (eN .u64) []) 32 1::_):=aM.free (cK 32 1)
 have iD:Own w D dS (row Zv 0 0 (q0 (eN .u64) []) 32 1::_):=iC.free (cK 32 1)
 have iE:=iD.px [1] [3] []
 obtain⟨rfl,rfl,rfl,rfl,rfl⟩:=AU (zj hr (show _=(3,([]:List Nat),([]:List Nat),0,n) from N (ae A) (N (ip Z6) (N (ae C) (N (eP P) (N (ae F) (N (eP Z8) (N (ae Q) (ip ag))))))))).symm
 exact⟨Zv,0,Zv,0,l,r,g,Z,iE,p,g4⟩
 refine jF (dF ag) (sk (sr (Mz Z (Mz Z (La (aF.J x) aM 1 P1 P2 ?_)))))
 have jX:=aM.rowC (i:=2) Z
 obtain⟨aO,Z1⟩:∃ q,eu n u x=q:=⟨_,Z⟩
 obtain⟨kL,dV,jY,dW,bF⟩:=Kb aM
 refine cl Tryz.call71 (qV _ _ E n l r g u x aO dV p (bF _ 1 _ Z bQ) Y (λ x9 h9=>⟨bF _ 2 _ Z (bM (P8.2 ⟨x9,h9,b3⟩) bQ),dH (φ:=λ _=>_) aM (i:=3) Z (bM (P8.2 ⟨x9,h9,b3⟩) dP)⟩) g5 Z1) ?_
 rintro _ dX ⟨dY,kM,rfl,dZ⟩
 have ah:=dW _ _ dZ
 have jZ:=ah.rowC (i:=0) Z
 refine An Z (JG (sr (Mz Z (Kz (vJ (X aO)) (Kz (Zb ((X aO:Int)=0)) (nt ?_))))))
 by_cases aH:(X aO:Int)=0
 refine jT (dT aH) (sr ?_)
 refine cu [W Zv 0 0, W Zv 0 0] 157 ah ?_
 intro bB d9 ed
 refine ns (Mz Z (Mz Z (La (aF.J x) ed 3 P1 P2 ?_)))
 have iF:Own w D d9 (row Zv 0 0 (q0 (eN .u64) []) 32 1::_):=ed.free (cK 32 1)
 have ek:Own w D d9 (row Zv 0 0 (q0 (eN .u64) []) 32 1::_):=iF.free (cK 32 1)
 have eB:=ek.pb [2,1,0,3,5]
 obtain⟨⟨R,S⟩,ai⟩:∃ q:aZ × fD,jm n u x (fD.q (O []) (O []))=q:=⟨_,Z⟩
 obtain⟨j3,bN,iG,bO,iH⟩:=KH eB
 refine cl Tryz.call72 (r9 _ _ E n l r g u x bB (fD.q (O []) (O [])) Zv 0 Zv 0 R S bN p g5 f8 j7 ai) ?_
 rintro _ j4 ⟨eD,eF,eG,eH,eO,eQ,eU,rfl,bP,aP⟩
 have ay:=bO _ _ bP
 have iI:=bg aP
 have iJ:=ay.rowC (i:=1) Z
 have iK:=ay.rowC (i:=4) Z
 have iL:=ay.rowC (i:=5) Z
 obtain⟨iM,aQ,aR,aj⟩:=Jv (m:=n.a.a) f8 ai
 replace aQ:X S.e.a+X R.a.a<=0+X n.a.a+1:=aQ
 replace aR:Wt R.a.a<=X R.a.a:=aR
 replace aj:S.b.a=[]:=aj
 have iO:X S.b.a=0:=by rw [aj]; rfl
 refine ns (Mz Z ?_)
 obtain⟨⟨bG,Z2⟩,aS⟩:∃ q:aZ × fD,kN R S=q:=⟨_,Z⟩
 obtain⟨j5,bR,iQ,bS,iR⟩:=KH ay
 refine cl Tryz.call73 (rE _ _ E R eD eF eG bB S eH eO eQ eU bG Z2 bR aP f8 g4 g4 aS) ?_
 rintro _ j6 ⟨eX,eY,fe,fo,fq,fu,fA,rfl,bU,aT,aU⟩
 have az:=bS _ _ bU
 have iT:=bg aT
 have iU:=az.rowC (i:=1) Z
 have iV:=az.rowC (i:=4) Z
 have iW:=az.rowC (i:=5) Z
 replace aU:X Z2.b.a<=12/\X Z2.e.a<=12:=aU
 refine nt (JG ?_)
 refine mX 8 [] (JP (JP J3)) az ?_
 intro kg fB
 refine qp bB 0 0 Z (ql 1 Z 3 E4 Z Z Z (qp bB 1 2 Z (ql 3 Z 3 E4 Z Z Z (qa 4 Z Z (qa 5 Z Z (qa 6 Z Z (qa 7 Z Z (qn (JK (rt (tR (JY (xm Z Z Z Z Z) ?_))))))))))))
 have fC:=fB.pk [4,5,0,1,2]
 obtain⟨rfl,rfl,rfl,rfl,rfl⟩:=AU (zj hr (show _=(1,Z2.b.a,Z2.e.a,0,bG) from N (ae A) (N (ip Z6) (N (ae C) (N (eP P) (N (ae F) (N (eP Z8) (N (ae Q) (N (iN ag) (N (ae Z1) (N (ip aH) (N (ae ai) (ae aS)))))))))))))
 exact⟨fo,fq,fu,fA,eX,eY,fe,Z,fC,aT,g4⟩
 refine jF (dF aH) (sk (JG (sr (Mz Z ?_))))
 obtain⟨aV,Z4⟩:=dJ (ls:=aO) (i:=0) iq f6 (ah.rds (i:=0) Z) f4
 refine fw (Zq (Zw ⟨ab dY,ao dY+0 *1,Zv⟩)) (JU (iZ) Z Z ((ah.rds (i:=0) Z).addr (i:=0) Y) Y) (fw (vU aV) (JS Z (bT.one Tryz.isAgg32 (((ah.rds (i:=0) Z).elem iq Z4 f6).at_ (k:=0) Z))) (Mz Z (Kz (Zb ((aV:Int) < (u:Int))) (nt ?_))))
 by_cases Z0:(aV:Int) < (u:Int)
 refine jT (dT Z0) (JG ?_)
 have fE:=ah.px [] [0] []
 refine JI (Az Z (Az Z (Az Z (An Z (rt (tR (JY (xm Z Z Z Z Z) ?_)))))))
 have fF:Own w D dX (row Zv 0 0 (q0 (eN .u64) []) 32 1::_):=fE.free (cK 32 1)
 have fG:Own w D dX (row Zv 0 0 (q0 (eN .u64) []) 32 1::_):=fF.free (cK 32 1)
 have fH:=fG.px [1] [3] []
 obtain⟨rfl,rfl,rfl,rfl,rfl⟩:=AU (zj hr (show _=(3,([]:List Nat),([]:List Nat),0,n) from N (ae A) (N (ip Z6) (N (ae C) (N (eP P) (N (ae F) (N (eP Z8) (N (ae Q) (N (iN ag) (N (ae Z1) (N (iN aH) (N (ae (bu Z4)) (ip Z0))))))))))))).symm
 exact⟨Zv,0,Zv,0,l,r,g,Z,fH,p,g4⟩
 refine jF (dF Z0) (sk (JG ?_))
 have aW:=ah.px [] [0] []
 refine JI (Mz Z (Mz Z ?_))
 refine WL.do Z (J6 Tryz.call74 Z ?_ (λ _ _ k=>k))
 refine cb Tryz.func74 ?_
 refine sr (Ar Z (Mz Z (Mz Z ?_)))
 have iX:=aW.rowC (i:=2) Z
 obtain⟨⟨a,G⟩,ak⟩:∃ q:Int × Bool,eZ n u=q:=⟨_,Z⟩
 obtain⟨ko,bV,iY,bW,aX⟩:=Kb aW
 refine cl Tryz.call114 (l8 _ _ E n l r g u a G bV p (aX _ 1 _ Z bQ) Y (λ x9 h9=>⟨aX _ 2 _ Z (bM (P8.2 ⟨x9,h9,b3⟩) bQ),dH (φ:=λ _=>_) aW (i:=3) Z (bM (P8.2 ⟨x9,h9,b3⟩) dP)⟩) g5 ak) ?_
 rintro _ kr ⟨rfl,bX,aY,bf⟩
 have I:=bW _ _ bX
 replace aY:0<=a/\a<=(X n.a.a:Int):=aY
 replace bf:Bool.toNat G=0\/a < (X n.a.a:Int):=bf
 refine Mz Z (Kz (vI a) (Kz (V G) (Az Z (An Z (JG (sr (Mz Z (Kz (V (!G)) (nt ?_)))))))))
 rcases Nf (G) with Z7 | Z7
 have h179t:Bool.toNat G=1:=by rw [Z7]; rfl
 refine jF (cn Z7) (sk (sr (Mz Z (Kz (vP E 0) (Kz (vP E 0) (Lz (W l (X n.a.a) r) I 0 P0 (fw (vJ (U a)) (JN (e:=a) (JM Z) Y) ?_)))))))
 obtain⟨b,K⟩:=dJ (ls:=g) (i:=U a) aB.len f6 (I.rds (i:=2) Z) f4
 have bi:=gq p K
 have ja:X b.b.a<=b.b.c/\X b.b.a<=9223372036854775807:=dH I (i:=3) Z (φ:=λ _=>_) (bM (P8.2 ⟨b,E1 K,b3⟩) dP)
 have jb:X b.b.a<=1000000:=by have q9:Hd n.a.a:=(by first | exact bv | exact zJ bv (Nb _)); exact q9 _ (E1 bi)
 refine fw (Zq (Zw ⟨ab l,ao l+(U a) *6,Zv⟩)) (JU (jy) Z Z ((I.rds (i:=2) Z).addr (i:=U a) Y) Y) (An Z (rt (rs (An Z (JG ?_)))))
 refine pK [] (JP J3) I ?_
 intro kv fI
 refine qv 0 Z Z (qv 1 Z Z (qt (v:= Zx (Zc (aF.J x))) 2 Z (λ _ ⟨_,H9⟩=>JS Z (JW (cs:=(aF.J x)) P1 P2 ((H9.cls (i:=1) Z).lit (k:=0) (m:=3) Z))) (qk (Zq (Zw ⟨ab l,ao l+(U a) *6,Zv⟩)) 3 Z (qk (Zq (Zw ⟨ab l,ao l+(U a) *6+2,Zv⟩)) 4 Z ?_))))
 have fJ:=fI.pf [2]
 refine qe 5 Z (Do.storeRow (vs:= [V Zk]) (o:=(U a) *6+2) (q:=ao l+(U a) *6+2) fJ Z Y Z Tryz.sizeOf4 Z Z (M9 Z) (jG aB.len K (M9 Z)) (kE (y:=(aB.q b.a b.b Zk b.e)) aB.len Z (M9 Z) K) ?_)
 intro fK fM
 have fO:Own w D fK [row l (X n.a.a) r (q0 aB.J (N0 g (U a) (aB.q b.a b.b Zk b.e))) 164 6,blk E [W l (X n.a.a) r] 114,blk aK (aF.J x) 118,sepL (q0 J4 (N0 g (U a) (aB.q b.a b.b Zk b.e)))]:=by rw [mi (f:=J4) (y:=(aB.q b.a b.b Zk b.e)) K Z]; exact fM
 have je:X (N0 g (U a) (aB.q b.a b.b Zk b.e))=X (N0 n.a.a (U a) (aN.q b.a (O b.b.a) Zk b.e)):=bg (eT p Z)
 have jf:X (N0 n.a.a (U a) (aN.q b.a (O b.b.a) Zk b.e))=X n.a.a:=N1
 have aA:=fO.pb [0,3]
 refine⟨.inr ⟨_,aA⟩, ?_⟩
 refine qk (Zq (Zw ⟨ab l,ao l+(U a) *6,Zv⟩)) 6 Z (qk (Zq (Zw ⟨ab l,ao l+(U a) *6+3,Zv⟩)) 7 Z ?_)
 obtain⟨h,L⟩:=dJ (ls:=(N0 g (U a) (aB.q b.a b.b Zk b.e))) (i:=U a) aB.len f6 (aA.rds (i:=2) Z) f4
 have bY:=gq (eT p Z) L
 have jg:X h.b.a<=h.b.c/\X h.b.a<=9223372036854775807:=dH aA (i:=3) Z (φ:=λ _=>_) (bM (P8.2 ⟨h,E1 L,b3⟩) dP)
 have fP:=aA.pf [2]
 refine qe 8 Z (Do.storeRow (vs:=(aF.J x)) (o:=(U a) *6+3) (q:=ao l+(U a) *6+3) fP Z Y Z P2 Z Z (M9 Z) (jG aB.len L (M9 Z)) (kE (y:=(aB.q h.a h.b h.f x)) aB.len Z (M9 Z) L) ?_)
 intro aC fQ
 have fT:Own w D aC [row l (X n.a.a) r (q0 aB.J (N0 (N0 g (U a) (aB.q b.a b.b Zk b.e)) (U a) (aB.q h.a h.b h.f x))) 164 6,blk E [W l (X n.a.a) r] 114,blk aK (aF.J x) 118,sepL (q0 J4 (N0 (N0 g (U a) (aB.q b.a b.b Zk b.e)) (U a) (aB.q h.a h.b h.f x)))]:=by rw [mi (f:=J4) (y:=(aB.q h.a h.b h.f x)) L Z]; exact fQ
 have jh:X (N0 (N0 g (U a) (aB.q b.a b.b Zk b.e)) (U a) (aB.q h.a h.b h.f x))=X (N0 (N0 n.a.a (U a) (aN.q b.a (O b.b.a) Zk b.e)) (U a) (aN.q h.a (O h.b.a) h.f x)):=bg (eT (eT p Z) Z)
 have ji:X (N0 (N0 n.a.a (U a) (aN.q b.a (O b.b.a) Zk b.e)) (U a) (aN.q h.a (O h.b.a) h.f x))=X (N0 n.a.a (U a) (aN.q b.a (O b.b.a) Zk b.e)):=N1
 have bH:=fT.pb [0,3]
 refine⟨.inr ⟨_,bH⟩, ?_⟩
 refine qn (JK (JG ?_))
 have fU:=bH.pk [0,2,3]
 refine JI (Az Z (Az Z (Az Z (An Z (rt (JY (xm Z Z Z Z Z) ?_))))))
 have fV:Own w D aC (row Zv 0 0 (q0 (eN .u64) []) 32 1::_):=fU.free (cK 32 1)
 have fZ:Own w D aC (row Zv 0 0 (q0 (eN .u64) []) 32 1::_):=fV.free (cK 32 1)
 have Z3:X n.a.a=X (N0 (N0 n.a.a (U a) (aN.q b.a (O b.b.a) Zk b.e)) (U a) (aN.q h.a (O h.b.a) h.f x)):=by first | omega | (simp only [N1]; done) | (simp only [N1,o2,q5,L3,o0,o1,O7]; omega)
 have gm:Own w D aC [row Zv 0 0 (q0 (eN .u64) []) 32 1,row Zv 0 0 (q0 (eN .u64) []) 32 1,blk E [W l (X (N0 (N0 n.a.a (U a) (aN.q b.a (O b.b.a) Zk b.e)) (U a) (aN.q h.a (O h.b.a) h.f x))) r] 114,row l (X (N0 (N0 n.a.a (U a) (aN.q b.a (O b.b.a) Zk b.e)) (U a) (aN.q h.a (O h.b.a) h.f x))) r (q0 aB.J (N0 (N0 g (U a) (aB.q b.a b.b Zk b.e)) (U a) (aB.q h.a h.b h.f x))) 164 6,sepL (q0 J4 (N0 (N0 g (U a) (aB.q b.a b.b Zk b.e)) (U a) (aB.q h.a h.b h.f x)))]:=by rw [<- Z3]; exact fZ
 have gp:=gm.pf [1]
 obtain⟨rfl,rfl,rfl,rfl,rfl⟩:=AU (zj hr (show _=(2,([]:List Nat),([]:List Nat),0,aZ.q (O (N0 (N0 n.a.a (U a) (aN.q b.a (O b.b.a) Zk b.e)) (U a) (aN.q h.a (O h.b.a) h.f x)))) from N (ae A) (N (ip Z6) (N (ae C) (N (eP P) (N (ae F) (N (eP Z8) (N (ae Q) (N (iN ag) (N (ae Z1) (N (iN aH) (N (ae (bu Z4)) (N (iN Z0) (N (ae ak) (N (ip Z7) (N (ae (bu bi)) (ae (bu bY))))))))))))))))))
 exact⟨Zv,0,Zv,0,l,r,(N0 (N0 g (U a) (aB.q b.a b.b Zk b.e)) (U a) (aB.q h.a h.b h.f x)),(by first | rfl | (rw [<- Z3]; done) | (rw [<- Z3]; rfl) | (rw [Z3]; first | done | rfl)),gp,(eT (eT p Z) Z),g4⟩
 have h179t:Bool.toNat G=0:=by rw [Z7]; rfl
 refine jT (cn Z7) (JI (Mz Z (Mz Z (Kz (vP E 0) (Kz (vP E 0) (Lz (W l (X n.a.a) r) I 0 P0 (Mz Z (Mz Z (Kz (Zx #[vU u, W Zv 0 0, V J, Zz ⟨Zc []⟩, Zz ⟨Zc []⟩, V J]) ?_)))))))))
 refine WL.do Z (KQ (cs:= [vU u, W Zv 0 0, V J, Zz ⟨Zc []⟩, Zz ⟨Zc []⟩, V J]) (t:=164) (sz:=6) (m:=1) I Z Z Za Z ?_)
 intro bI gy bn
 replace bn:=Ke (y:=ma bI 1 (q0 aB.J ([(aB.q u (O6 Zv 0 []) J ZB)])) 164 6) Z bn
 have gz:Own w D gy (row Zv 0 0 (q0 aF.J []) 118 3::_):=bn.free (cK 118 3)
 have gB:=gz.pf [4,1,5]
 obtain⟨kw,bZ,jk,cz,jl⟩:=KT gB
 refine cl Tryz.call123 (BQ _ _ l (X n.a.a) r g a bI (aB.q u (O6 Zv 0 []) J ZB) n.a.a (aN.q u (O []) J ZB) bZ Y p Z Y Y) ?_
 rintro _ ky ⟨s,B,rfl,cB⟩
 have gD:=cz _ _ cB
 have jo:X (t8 (U a) g++((aB.q u (O6 Zv 0 []) J ZB)::r6 (U a) g))=X (t8 (U a) n.a.a++((aN.q u (O []) J ZB)::r6 (U a) n.a.a)):=by exact bg (jQ (z:=(aN.q u (O []) J ZB)) p Z)
 have jq:X (t8 (U a) n.a.a++((aN.q u (O []) J ZB)::r6 (U a) n.a.a))=X n.a.a+1:=by simp only [o2,o0,q5,o1]; omega
 refine Kz (vP E 0) (Kz (vP E 0) ?_)
 have gF:=gD.pf [2]
 refine cO [W s (X (t8 (U a) n.a.a++((aN.q u (O []) J ZB)::r6 (U a) n.a.a))) B] 0 gF Tryz.sizeOf112 ?_
 intro kz aa
 refine ns (Mz Z (Kz (vP E 0) (Kz (vP E 0) (Lz (W s (X (t8 (U a) n.a.a++((aN.q u (O []) J ZB)::r6 (U a) n.a.a))) B) aa 0 P0 (fw (vJ (U a)) (JN (e:=a) (JM Z) Y) ?_)))))
 obtain⟨d,M⟩:=dJ (ls:=(t8 (U a) g++((aB.q u (O6 Zv 0 []) J ZB)::r6 (U a) g))) (i:=U a) aB.len f6 (aa.rds (i:=1) Z) f4
 have bq:=gq (jQ (z:=(aN.q u (O []) J ZB)) p Z) M
 have jv:X d.b.a<=d.b.c/\X d.b.a<=9223372036854775807:=dH aa (i:=2) Z (φ:=λ _=>_) (bM (P8.2 ⟨d,E1 M,b3⟩) dP)
 have jw:X d.b.a<=1000000:=by have q9:Hd (t8 (U a) n.a.a++((aN.q u (O []) J ZB)::r6 (U a) n.a.a)):=(by first | exact bv | exact zJ bv (Nb _)); exact q9 _ (E1 bq)
 refine fw (Zq (Zw ⟨ab s,ao s+(U a) *6,Zv⟩)) (JU (jy) Z Z ((aa.rds (i:=1) Z).addr (i:=U a) Y) Y) (An Z (rt (rs (An Z (JG ?_)))))
 have gG:=aa.pb [1,2]
 refine pK [] (JP J3) gG ?_
 intro kC gH
 refine qv 0 Z Z (qv 1 Z Z (qt (v:= Zx (Zc (aF.J x))) 2 Z (λ _ ⟨_,H9⟩=>JS Z (JW (cs:=(aF.J x)) P1 P2 ((H9.cls (i:=1) Z).lit (k:=0) (m:=3) Z))) (qk (Zq (Zw ⟨ab s,ao s+(U a) *6,Zv⟩)) 3 Z (qk (Zq (Zw ⟨ab s,ao s+(U a) *6+2,Zv⟩)) 4 Z ?_))))
 have gI:=gH.pf [2]
 refine qe 5 Z (Do.storeRow (vs:= [V Zk]) (o:=(U a) *6+2) (q:=ao s+(U a) *6+2) gI Z Y Z Tryz.sizeOf4 Z Z (M9 Z) (jG aB.len M (M9 Z)) (kE (y:=(aB.q d.a d.b Zk d.e)) aB.len Z (M9 Z) M) ?_)
 intro gJ gK
 have gL:Own w D gJ [row s (X (t8 (U a) n.a.a++((aN.q u (O []) J ZB)::r6 (U a) n.a.a))) B (q0 aB.J (N0 (t8 (U a) g++((aB.q u (O6 Zv 0 []) J ZB)::r6 (U a) g)) (U a) (aB.q d.a d.b Zk d.e))) 164 6,blk E [W s (X (t8 (U a) n.a.a++((aN.q u (O []) J ZB)::r6 (U a) n.a.a))) B] 114,blk aK (aF.J x) 118,sepL (q0 J4 (N0 (t8 (U a) g++((aB.q u (O6 Zv 0 []) J ZB)::r6 (U a) g)) (U a) (aB.q d.a d.b Zk d.e)))]:=by rw [mi (f:=J4) (y:=(aB.q d.a d.b Zk d.e)) M Z]; exact gK
 have jA:X (N0 (t8 (U a) g++((aB.q u (O6 Zv 0 []) J ZB)::r6 (U a) g)) (U a) (aB.q d.a d.b Zk d.e))=X (N0 (t8 (U a) n.a.a++((aN.q u (O []) J ZB)::r6 (U a) n.a.a)) (U a) (aN.q d.a (O d.b.a) Zk d.e)):=bg (eT (jQ (z:=(aN.q u (O []) J ZB)) p Z) Z)
 have jB:X (N0 (t8 (U a) n.a.a++((aN.q u (O []) J ZB)::r6 (U a) n.a.a)) (U a) (aN.q d.a (O d.b.a) Zk d.e))=X (t8 (U a) n.a.a++((aN.q u (O []) J ZB)::r6 (U a) n.a.a)):=N1
 have aD:=gL.pb [0,3]
 refine⟨.inr ⟨_,aD⟩, ?_⟩
 refine qk (Zq (Zw ⟨ab s,ao s+(U a) *6,Zv⟩)) 6 Z (qk (Zq (Zw ⟨ab s,ao s+(U a) *6+3,Zv⟩)) 7 Z ?_)
 obtain⟨j,Z5⟩:=dJ (ls:=(N0 (t8 (U a) g++((aB.q u (O6 Zv 0 []) J ZB)::r6 (U a) g)) (U a) (aB.q d.a d.b Zk d.e))) (i:=U a) aB.len f6 (aD.rds (i:=2) Z) f4
 have cZ:=gq (eT (jQ (z:=(aN.q u (O []) J ZB)) p Z) Z) Z5
 have jC:X j.b.a<=j.b.c/\X j.b.a<=9223372036854775807:=dH aD (i:=3) Z (φ:=λ _=>_) (bM (P8.2 ⟨j,E1 Z5,b3⟩) dP)
 have gM:=aD.pf [2]
 refine qe 8 Z (Do.storeRow (vs:=(aF.J x)) (o:=(U a) *6+3) (q:=ao s+(U a) *6+3) gM Z Y Z P2 Z Z (M9 Z) (jG aB.len Z5 (M9 Z)) (kE (y:=(aB.q j.a j.b j.f x)) aB.len Z (M9 Z) Z5) ?_)
 intro aG gN
 have gP:Own w D aG [row s (X (t8 (U a) n.a.a++((aN.q u (O []) J ZB)::r6 (U a) n.a.a))) B (q0 aB.J (N0 (N0 (t8 (U a) g++((aB.q u (O6 Zv 0 []) J ZB)::r6 (U a) g)) (U a) (aB.q d.a d.b Zk d.e)) (U a) (aB.q j.a j.b j.f x))) 164 6,blk E [W s (X (t8 (U a) n.a.a++((aN.q u (O []) J ZB)::r6 (U a) n.a.a))) B] 114,blk aK (aF.J x) 118,sepL (q0 J4 (N0 (N0 (t8 (U a) g++((aB.q u (O6 Zv 0 []) J ZB)::r6 (U a) g)) (U a) (aB.q d.a d.b Zk d.e)) (U a) (aB.q j.a j.b j.f x)))]:=by rw [mi (f:=J4) (y:=(aB.q j.a j.b j.f x)) Z5 Z]; exact gN
 have jD:X (N0 (N0 (t8 (U a) g++((aB.q u (O6 Zv 0 []) J ZB)::r6 (U a) g)) (U a) (aB.q d.a d.b Zk d.e)) (U a) (aB.q j.a j.b j.f x))=X (N0 (N0 (t8 (U a) n.a.a++((aN.q u (O []) J ZB)::r6 (U a) n.a.a)) (U a) (aN.q d.a (O d.b.a) Zk d.e)) (U a) (aN.q j.a (O j.b.a) j.f x)):=bg (eT (eT (jQ (z:=(aN.q u (O []) J ZB)) p Z) Z) Z)
 have jH:X (N0 (N0 (t8 (U a) n.a.a++((aN.q u (O []) J ZB)::r6 (U a) n.a.a)) (U a) (aN.q d.a (O d.b.a) Zk d.e)) (U a) (aN.q j.a (O j.b.a) j.f x))=X (N0 (t8 (U a) n.a.a++((aN.q u (O []) J ZB)::r6 (U a) n.a.a)) (U a) (aN.q d.a (O d.b.a) Zk d.e)):=N1
 have bJ:=gP.pb [0,3]
 refine⟨.inr ⟨_,bJ⟩, ?_⟩
 refine qn (JK (JG ?_))
 have gQ:=bJ.pk [0,2,3]
 refine JI (Az Z (Az Z (Az Z (An Z (rt (JY (xm Z Z Z Z Z) ?_))))))
 have gT:Own w D aG (row Zv 0 0 (q0 (eN .u64) []) 32 1::_):=gQ.free (cK 32 1)
 have gU:Own w D aG (row Zv 0 0 (q0 (eN .u64) []) 32 1::_):=gT.free (cK 32 1)
 have Z9:X (t8 (U a) n.a.a++((aN.q u (O []) J ZB)::r6 (U a) n.a.a))=X (N0 (N0 (t8 (U a) n.a.a++((aN.q u (O []) J ZB)::r6 (U a) n.a.a)) (U a) (aN.q d.a (O d.b.a) Zk d.e)) (U a) (aN.q j.a (O j.b.a) j.f x)):=by first | omega | (simp only [N1]; done) | (simp only [N1,o2,q5,L3,o0,o1,O7]; omega)
 have gV:Own w D aG [row Zv 0 0 (q0 (eN .u64) []) 32 1,row Zv 0 0 (q0 (eN .u64) []) 32 1,blk E [W s (X (N0 (N0 (t8 (U a) n.a.a++((aN.q u (O []) J ZB)::r6 (U a) n.a.a)) (U a) (aN.q d.a (O d.b.a) Zk d.e)) (U a) (aN.q j.a (O j.b.a) j.f x))) B] 114,row s (X (N0 (N0 (t8 (U a) n.a.a++((aN.q u (O []) J ZB)::r6 (U a) n.a.a)) (U a) (aN.q d.a (O d.b.a) Zk d.e)) (U a) (aN.q j.a (O j.b.a) j.f x))) B (q0 aB.J (N0 (N0 (t8 (U a) g++((aB.q u (O6 Zv 0 []) J ZB)::r6 (U a) g)) (U a) (aB.q d.a d.b Zk d.e)) (U a) (aB.q j.a j.b j.f x))) 164 6,sepL (q0 J4 (N0 (N0 (t8 (U a) g++((aB.q u (O6 Zv 0 []) J ZB)::r6 (U a) g)) (U a) (aB.q d.a d.b Zk d.e)) (U a) (aB.q j.a j.b j.f x)))]:=by rw [<- Z9]; exact gU
 have gW:=gV.pf [1]
 obtain⟨rfl,rfl,rfl,rfl,rfl⟩:=AU (zj hr (show _=(2,([]:List Nat),([]:List Nat),0,aZ.q (O (N0 (N0 (t8 (U a) n.a.a++((aN.q u (O []) J ZB)::r6 (U a) n.a.a)) (U a) (aN.q d.a (O d.b.a) Zk d.e)) (U a) (aN.q j.a (O j.b.a) j.f x)))) from N (ae A) (N (ip Z6) (N (ae C) (N (eP P) (N (ae F) (N (eP Z8) (N (ae Q) (N (iN ag) (N (ae Z1) (N (iN aH) (N (ae (bu Z4)) (N (iN Z0) (N (ae ak) (N (eP Z7) (N (ae (bu bq)) (ae (bu cZ))))))))))))))))))
 exact⟨Zv,0,Zv,0,s,B,(N0 (N0 (t8 (U a) g++((aB.q u (O6 Zv 0 []) J ZB)::r6 (U a) g)) (U a) (aB.q d.a d.b Zk d.e)) (U a) (aB.q j.a j.b j.f x)),(by first | rfl | (rw [<- Z9]; done) | (rw [<- Z9]; rfl) | (rw [Z9]; first | done | rfl)),gW,(eT (eT (jQ (z:=(aN.q u (O []) J ZB)) p Z) Z) Z),g4⟩
 refine jT (dT Z6) (sr (Az Z (Az Z (Az Z (An Z (rt (tR (JY (xm Z Z Z Z Z) ?_))))))))
 have gX:Own w D dw (row Zv 0 0 (q0 (eN .u64) []) 32 1::_):=dz.free (cK 32 1)
 have gY:Own w D dw (row Zv 0 0 (q0 (eN .u64) []) 32 1::_):=gX.free (cK 32 1)
 have gZ:=gY.px [1] [2] []
 obtain⟨rfl,rfl,rfl,rfl,rfl⟩:=AU (zj hr (show _=(0,([]:List Nat),([]:List Nat),21,n) from N (ae A) (iN Z6))).symm
 exact⟨Zv,0,Zv,0,l,r,g,Z,gZ,p,g4⟩
end
open List renaming perm_middle->Q4
section
variable {α β:Type} {w0 w:ZQ} {D:Nat->Prop} {L:List HP} {f:α->List HP}
theorem F6 {es:List α} {y:α} (H:Own w0 D w (f y++(sepL (q0 f es)::L))):Own w0 D w (sepL (q0 f (es++ [y]))::L):=by
  have h:=H.sepIns (i:=X es)
  rw [List.take_length,List.drop_length] at h
  exact h
theorem F7 {d:List α} {k:Nat} {es:List α} (y:α) (he:X es=k) (hk:k < X d):List.set (es++r6 k d) k y=(es++ [y])++r6 (k+1) d:=by
  subst he
  rw [List.set_append_right _ _ (Nat.le_refl _),Nat.sub_self,List.drop_eq_getElem_cons hk,List.set_cons_zero,List.append_assoc]
  rfl
theorem Hf {d es:List α} {k:Nat} {x:α} (he:X es=k) (hx:d[k]? =Zw x):(es++r6 k d)[k]? =Zw x:=by
  subst he
  rw [List.getElem?_append_right (Nat.le_refl _),Nat.sub_self,List.getElem?_drop,Nat.add_zero,hx]
theorem F8 {f:α->β} {d es:List α} {k:Nat} {x y:α} (h:r7 f es=r7 f (t8 k d)) (hx:d[k]? =Zw x) (hy:f y=f x):r7 f (es++ [y])=r7 f (t8 (k+1) d):=by
  obtain⟨hk,rfl⟩:=List.getElem?_eq_some_iff.1 hx
  rw [List.take_succ_eq_append_getElem hk,P7,P7,h,List.map_cons,List.map_nil,hy,List.map_cons,List.map_nil]
end
section
variable {α:Type} {w0 w:ZQ} {D:Nat->Prop} {L:List HP} {f:α->List HP}
theorem BX {ds:List α} {i:Nat} {x:α} (hx:ds[i]? =Zw x) (H:Own w0 D w (sepL (q0 f ds)::L)):Own w0 D w (sepL (q0 f (t8 i ds++r6 (i+1) ds))::(f x++L)):=by
  have h:=K5 (f:=f) (i:=i) hx H
  rw [List.flatMap_append]
  exact h.perm Q4
theorem BZ {ds:List α} {i:Nat} {y:α} (H:Own w0 D w (sepL (q0 f ds)::(f y++L))):Own w0 D w (sepL (q0 f (t8 i ds++(y::r6 i ds)))::L):=Own.sepIns (H.perm Q4.symm)
end
open IntKind renaming i64->B7
open List renaming flatMap_append->u0,mem_of_mem_take->M2
open Nat renaming le_mul_of_pos_left->Q6
open _root_.Go.Proofs.Tryz renaming prog->v1,underlying3->v8,underlying33->Q8,underlying34->Q5,underlying35->P9,underlying44->Q9,underlying45->H1,underlying77->Q7
section
open Go.RowKit
structure aW where q::
 a:Nat
 f:Sv aY
 e:Sv aF
 b:Int
def aW.J (x:aW):List ZX:= [.int .u64 ((x.a:Nat):Int), W x.f.A (X x.f.a) x.f.c, W x.e.A (X x.e.a) x.e.c, .int .i64 x.b]
instance:Bk aW:=⟨λ x _=>bk x.a+(bk x.f+(bk x.e+(bk x.b+(0))))⟩
theorem aW.len:∀ x,X (aW.J x)=4:=λ _=>rfl
theorem aW.one:∀ x, ∀ u ∈ aW.J x,u.oneCell'=Zk:=λ x u hu=>by
 simp only [aW.J,List.mem_cons,List.not_mem_nil,or_false] at hu
 rcases hu with rfl | rfl | rfl | rfl <;> rfl
def MP (w:ZQ) (x:aW):Prop:=(x.a<=18446744073709551615)/\(nA w 6 80 aY.J (Lp w) x.f)/\(nA w 3 40 aF.J (Le w) x.e)/\((-9223372036854775808)<=x.b/\x.b<=9223372036854775807)
instance:Inhabited aW:=⟨⟨ZZ,ZZ,ZZ,ZZ⟩⟩
structure bA where q::
 a:Nat
 f:Ll aY
 e:Ll aF
 b:Int
instance:Inhabited bA:=⟨⟨ZZ,ZZ,ZZ,ZZ⟩⟩
def aW.abs (x:aW):bA:=⟨x.a,⟨x.f.a⟩,⟨x.e.a⟩,x.b⟩
def J5 (x:aW):List HP:= [row x.f.A (X x.f.a) x.f.c (q0 aY.J x.f.a) 68 6,row x.e.A (X x.e.a) x.e.c (q0 aF.J x.e.a) 118 3]
def lN (a:List bf) (b:Int) (c:Int):(List bf):=
 if b=c then a else(t8 (U b) a++r6 (U c) a)
theorem qH (w D f o d a c b j) (H:Own w D w [row f o d (q0 bf.J a) 60 2]) (p:o=X a) (Z7:X a *32<=211106232532992) (K:0<=c/\c<=b/\b<=((X a:Nat):Int)) (hr:lN a c b=j):
    Calls v1 85 #[W f o d,vI c,vI b] w (dM λ v w'=> ∃ B C,v= W B (X j) C/\Own w D w' [row B (X j) C (q0 bf.J j) 60 2]/\(X j<=X a)):=by
 unfold lN at hr
 subst p
 have L:=H.rowC (i:=0) Z
 refine cb Tryz.func85 ?_
 refine sr (Ar Z (Mz Z (fw (vJ (U c)) (JN (e:=c) (JM Z) Y) (fw (vJ (U b)) (JN (e:=b) (JM Z) Y) (Mz Z (Kz (vJ (X a)) (fw (W (eU f (U c) 2 (X a)) ((U b) - (U c)) (X a - (U c))) (K8 (kH) Z Z Z Z Y Y Y) (nt (JG (sr (Mz Z (Mz Z (Kz (Zb (c=b)) (nt ?_))))))))))))))
 by_cases h:c=b
 refine jT (dT h) (sr (Mz Z (An Z (rt (tR (rs ?_))))))
 have q:=H.pf []
 obtain rfl:=zj hr zq1
 exact⟨f,d,Z,q,Y⟩
 refine jF (dF h) (sk (sr (Mz Z (Kz (vJ (X a)) (An Z (JG ?_))))))
 have g:=H.drew
 refine KR [6] (λ Z9=> ∃ L',Own w D Z9 ([row f (X a) d (q0 bf.J a) 60 2]++L')) f1 f1 (JP J3) ⟨_,g⟩ ?_
 revert g
 generalize World.drew w=r
 intro g
 refine qv 0 Z Z (qt (v:=vJ (U c)) 1 Z (λ _ _=>JN (e:=c) (JM Z) Y) (qt (v:= W f (U c) d) 2 Z (λ _ _=>Ku (kH) Z Z Y) (qv 3 Z Z (qt (v:=vJ (U b)) 4 Z (λ _ _=>JN (e:=b) (JM Z) Y) (qt (v:= W (eU f (U b) 2 d) (X a - (U b)) (d - (U b))) 5 Z (λ _ _=>Ka (kH) Z Z Y) ?_)))))
 have E:X (t8 (U c) a++r6 (U b) a)=U c+(X a - U b):=by simp only [o2,o0,o1]; omega
 have l:Src v1 2 34 (W (eU f (U b) 2 d) (X a - (U b)) (d - (U b))) (X a - U b) (q0 bf.J (r6 (U b) a)) r:=fq Q5 (KA (lo:=U b) bf.len (g.rds (i:=0) Z) Y Y f6) (di bf.one (r6 (U b) a))
 obtain⟨F,t,u⟩:=g.rowFull
 refine qd 6 Z (KM (k:=U c) (m:=X a - U b) (kH) u Z Z l Y (s:=X (t8 (U c) a++r6 (U b) a)) Y ?_)
 intro M n
 refine⟨.inl f1, ?_⟩
 refine Ki (v:= W f (X (t8 (U c) a++r6 (U b) a)) d) 7 Z f1 (λ _=>KG Z) (qn (JK (sr (Mz Z (Mz Z (Kz (vI ((X (t8 (U c) a++r6 (U b) a):Nat):Int)) (Mz Z (fw (W (eU f (X (t8 (U c) a++r6 (U b) a)) 2 d) (X a - (X (t8 (U c) a++r6 (U b) a))) (d - (X (t8 (U c) a++r6 (U b) a)))) (Yl.cut (kH) Z Z Z Y Y) ?_))))))))
 refine Kw (KZ (z0:=(Zx #[.int .u64 0, W Zv 0 0])) (lo:=X (t8 (U c) a++r6 (U b) a)) (nd:=(X a - (X (t8 (U c) a++r6 (U b) a)))) f1 Z (kH) n Z (λ _=>gI ((n.rds (i:=0) Z).isSome Y) Y) Y ?_)
 intro x G I y
 refine ns (Mz Z (An Z (rt (rs ?_))))
 have z:Own w D x [row f (X (t8 (U c) a++r6 (U b) a)) d (q0 bf.J (t8 (U c) a++r6 (U b) a)) 60 2]:=y.rowPart Y (tF bf.len Y Y Z)
 have A:=z.pf []
 obtain rfl:=zj hr zq1
 exact⟨f,d,Z,A,Y⟩
def lQ (a:List bf) (b:Int) (c:bf):(List bf):=
 if((U b:Nat):Int)=((X a:Nat):Int) then(a++ [c]) else(t8 (U b) a++(c::r6 (U b) a))
theorem qI (w D f E d b a C) (c:bf) (y) (H:Own w D w [row f E d (q0 bf.J b) 60 2,ma C 1 (q0 bf.J ([c])) 60 2]) (F:E=X b) (ag:X b *32<=211106232532992) (ah:0<=a/\a<=((X b:Nat):Int)/\(X b+1) *32<=211106232532992) (hr:lQ b a c=y):
    Calls v1 182 #[W f E d,vI a, W C 1 1] w (dM λ v w'=> ∃ Z1 Z2,v= W Z1 (X y) Z2/\Own w D w' [row Z1 (X y) Z2 (q0 bf.J y) 60 2]/\(X y=X b+1)):=by
 unfold lQ at hr
 subst F
 have ai:=H.rowC (i:=0) Z
 refine cb Tryz.func182 ?_
 refine sr (Ar Z (Mz Z (fw (vJ (U a)) (JN (e:=a) (JM Z) Y) (fw (W (eU f (U a) 2 d) (X b - (U a)) (d - (U a))) (Ka (kH) Z Z Y) (ns (Mz Z (Kz (vI 1) (An Z (JG (sr (Mz Z (Kz (V J) (nt (jf (sk (sr (Mz Z (Kz (vJ (X b)) (An Z (JG (sr (fw (vJ (U a)) (JN (e:=a) (JM Z) Y) ?_))))))))))))))))))))))
 refine Mz Z (Kz (Zb (((U a:Nat):Int)=(X b:Int))) (nt ?_))
 by_cases h:((U a:Nat):Int)=(X b:Int)
 refine jT (dT h) (sr (Mz Z (Mz Z ?_)))
 refine WL.do Z (J7 (k:=X b) (m:=1) (kH) H Z Z (fq Q5 (dH H (i:=1) Z lJ) (di bf.one ([c]))) Z Y (s:=X (b++ [c])) f7 (u0).symm ?_)
 intro G I aj Z7
 have Z0:X (b++ [c])=X b+1:=by simp only [o2,q5,L3]
 refine An Z (rt (tR (rs ?_)))
 have K:=Z7.pk [0]
 obtain rfl:=zj hr zq1
 exact⟨G,I,Z,K,Y⟩
 refine jF (dF h) (sk (JG (sr (Mz Z (Mz Z (fw (vJ (X b+1)) (JN (e:=B7.wrap ((X b:Int)+1)) yk f3) (Mz Z (Kz (vJ d) (Kz (Zb (((X b+1:Nat):Int) > (d:Int))) (nt ?_))))))))))
 by_cases z:((X b+1:Nat):Int) > (d:Int)
 refine jT (dT z) (sr (Mz Z (fw (vJ (U a)) (JN (e:=a) (JM Z) Y) (fw (W f (U a) d) (Ku (kH) Z Z Y) (Mz Z (Mz Z (fw (vJ (X b+1)) (JN (e:=B7.wrap ((X b:Int)+1)) yk f3) (fw (vJ (U a)) (JN (e:=a) (JM Z) Y) (fw (vJ ((X b+1) - (U a))) (JN (e:=B7.wrap (((X b+1:Nat):Int) - ((U a:Nat):Int))) yk f3) ?_)))))))))
 have aa:X (t8 (U a) b++(c::r6 (U a) b))=X b+1:=by simp only [o2,o0,q5,o1]; omega
 refine WL.do Z (KJ (k:=U a) (m:=(X b+1) - (U a)) (kH) v8 H Z Z Y Y Y Z Y (s:=X (t8 (U a) b++(c::r6 (U a) b))) Y ?_)
 intro j g ae ak A n
 have L:=n.rowLe (i:=0) Z
 refine Ar Z (Mz Z (fw (vJ (U a)) (JN (e:=a) (JM Z) Y) (fw (W (eU j (U a) 2 g) ((X (t8 (U a) b++(c::r6 (U a) b))) - (U a)) (g - (U a))) (Ka (kH) Z Z Y) (Mz Z ?_))))
 refine WL.do Z (Kq (lo:=U a) (k:=1) (kH) n Z (λ _=>gI ((n.rds (i:=0) Z).isSome Y) Y) Y Z (dH n (i:=2) Z lJ) Y (λ u hu=>di bf.one _ u (M2 hu)) Z ?_)
 intro au M
 refine nt (JG ?_)
 refine zx [8] (JP (JP J3)) M ?_
 intro av o
 refine qv 0 Z Z (qt (v:=vJ (U a)) 1 Z (λ _ _=>JN (e:=a) (JM Z) Y) (qv 2 Z Z (qt (v:=vJ (U a+1)) 3 Z (λ _ _=>JN (e:=B7.wrap (((U a:Nat):Int)+1)) yk f3) (qt (v:= W (eU j (U a+1) 2 g) ((X (t8 (U a) b++(c::r6 (U a) b))) - (U a+1)) (g - (U a+1))) 4 Z (λ _ _=>Ka (kH) Z Z Y) (qv 5 Z Z (qt (v:=vJ (U a)) 6 Z (λ _ _=>JN (e:=a) (JM Z) Y) (qt (v:= W (eU f (U a) 2 d) (X b - (U a)) (d - (U a))) 7 Z (λ _ _=>Ka (kH) Z Z Y) ?_)))))))
 refine qd 8 Z (Kq (lo:=U a+1) (k:=X b - U a) (kH) o Z (λ _=>gI ((o.rds (i:=0) Z).isSome Y) Y) Y Z (KA (lo:=U a) bf.len (o.rds (i:=1) Z) Y Y f6) Y (λ u hu=>di bf.one _ u (M2 hu)) Z ?_)
 intro Z5 Z6
 refine⟨.inl f1, ?_⟩
 refine qn (JK (sr (Mz Z (An Z (rt (tR (rs ?_)))))))
 have P:Own w D Z5 [row j (X (t8 (U a) b++(c::r6 (U a) b))) g (q0 bf.J (t8 (U a) b++(c::r6 (U a) b))) 60 2,row f (X b) d (q0 bf.J b) 60 2,ma C 1 (q0 bf.J ([c])) 60 2]:=Z6.rowPart Y (uA (l:=b) (k2:=X b - U a) bf.len Y A Z Z Y)
 have Q:=P.pk [0]
 obtain rfl:=zj hr zq1
 exact⟨j,g,Z,Q,Y⟩
 refine jF (dF z) (sk (sr ?_))
 have B:X (t8 (U a) b++(c::r6 (U a) b))=X b+1:=by simp only [o2,o0,q5,o1]; omega
 obtain⟨af,p,R⟩:=H.rowFull
 refine Mz Z (Mz Z (Mz Z (fw (vJ (X b+1)) (JN (e:=B7.wrap ((X b:Int)+1)) yk f3) (fw (W f (X (t8 (U a) b++(c::r6 (U a) b))) d) (Yl.to (Ku (kH) Z Z Y) (ZJ (λ q=>Value.slice f q d) B.symm)) (An Z (JG (sr (Mz Z (Mz Z (fw (vJ (U a)) (JN (e:=a) (JM Z) Y) (Mz Z (fw (vJ (U a+1)) (JN (e:=B7.wrap (((U a:Nat):Int)+1)) yk f3) (fw (W (eU f (U a+1) 2 d) ((X (t8 (U a) b++(c::r6 (U a) b))) - (U a+1)) (d - (U a+1))) (Ka (kH) Z Z Y) ?_)))))))))))))
 have r:=R.pb [0]
 refine fw (V J) (KN (lo:=U a+1) (run_callFunc_extern Tryz.func218 f1 f1 f1 (e:=Extern.SlicesOverlaps.overlaps #[34,34] #[4]) f1) Q5 Tryz.sizeOf60 r f6 Y Z (gI ((r.rds (i:=1) Z).isSome Y) Y)) (Kz (V Zk) (nt (jt (JG ?_))))
 refine pK [8] (JP (JP J3)) r ?_
 intro ax S
 refine qv 0 Z Z (qt (v:=vJ (U a)) 1 Z (λ _ _=>JN (e:=a) (JM Z) Y) (qv 2 Z Z (qt (v:=vJ (U a+1)) 3 Z (λ _ _=>JN (e:=B7.wrap (((U a:Nat):Int)+1)) yk f3) (qt (v:= W (eU f (U a+1) 2 d) ((X (t8 (U a) b++(c::r6 (U a) b))) - (U a+1)) (d - (U a+1))) 4 Z (λ _ _=>Ka (kH) Z Z Y) (qv 5 Z Z (qt (v:=vJ (U a)) 6 Z (λ _ _=>JN (e:=a) (JM Z) Y) (qt (v:= W (eU f (U a) 2 d) ((X (t8 (U a) b++(c::r6 (U a) b))) - (U a)) (d - (U a))) 7 Z (λ _ _=>Ka (kH) Z Z Y) ?_)))))))
 have t:=S.pb [0]
 refine qd 8 Z (Kq (lo:=U a+1) (k:=X b - U a) (kH) t Z (λ _=>gI ((t.rds (i:=0) Z).isSome Y) Y) Y Z (bP.cut (lo:=U a) (hi:=X (t8 (U a) b++(c::r6 (U a) b))) (t.rds (i:=0) Z) Y Y Y) Y (λ u hu=>di bf.one _ u (by rw [uB bf.len Y Z Y] at hu; exact hu)) Z ?_)
 intro ay x
 refine⟨.inl f1, ?_⟩
 refine qn (JK (sr (Mz Z (fw (vJ (U a)) (JN (e:=a) (JM Z) Y) (fw (W (eU f (U a) 2 d) ((X (t8 (U a) b++(c::r6 (U a) b))) - (U a)) (d - (U a))) (Ka (kH) Z Z Y) (Mz Z ?_))))))
 refine WL.do Z (Kq (lo:=U a) (k:=1) (kH) x Z (λ _=>gI ((x.rds (i:=0) Z).isSome Y) Y) Y Z (dH x (i:=1) Z lJ) Y (λ u hu=>di bf.one _ u (M2 hu)) Z ?_)
 intro Z8 Z4
 refine ns (Mz Z (An Z (rt (tR (rs ?_)))))
 have Z3:Own w D Z8 [row f (X (t8 (U a) b++(c::r6 (U a) b))) d (q0 bf.J (t8 (U a) b++(c::r6 (U a) b))) 60 2,ma C 1 (q0 bf.J ([c])) 60 2]:=Z4.rowPart Y (uC (l:=b) (m:=(X (t8 (U a) b++(c::r6 (U a) b))) - U a) (k2:=X b - U a) bf.len Y (by rw [p]; exact Q6 2 Y) Z Z Y Y)
 have Z9:=Z3.pk [0]
 obtain rfl:=zj hr zq1
 exact⟨f,d,Z,Z9,Y⟩
theorem l5:Elem v1 77 99 4 64:=nz (z:= Zx #[.int .u64 0, W Zv 0 0, W Zv 0 0, .int .i64 0]) Q7 f1 Z f6
def ky (a:List aW) (b:Int) (c:Int):(List aW):=
 if b=c then a else(t8 (U b) a++r6 (U c) a)
theorem o6 (w D f o d a c b j) (H:Own w D w [row f o d (q0 aW.J a) 99 4]) (p:o=X a) (Z7:X a *64<=211106232532992) (K:0<=c/\c<=b/\b<=((X a:Nat):Int)) (hr:ky a c b=j):
    Calls v1 142 #[W f o d,vI c,vI b] w (dM λ v w'=> ∃ B C,v= W B (X j) C/\Own w D w' [row B (X j) C (q0 aW.J j) 99 4]/\(X j<=X a)):=by
 unfold ky at hr
 subst p
 have L:=H.rowC (i:=0) Z
 refine cb Tryz.func142 ?_
 refine sr (Ar Z (Mz Z (fw (vJ (U c)) (JN (e:=c) (JM Z) Y) (fw (vJ (U b)) (JN (e:=b) (JM Z) Y) (Mz Z (Kz (vJ (X a)) (fw (W (eU f (U c) 4 (X a)) ((U b) - (U c)) (X a - (U c))) (K8 (l5) Z Z Z Z Y Y Y) (nt (JG (sr (Mz Z (Mz Z (Kz (Zb (c=b)) (nt ?_))))))))))))))
 by_cases h:c=b
 refine jT (dT h) (sr (Mz Z (An Z (rt (tR (rs ?_))))))
 have q:=H.pf []
 obtain rfl:=zj hr zq1
 exact⟨f,d,Z,q,Y⟩
 refine jF (dF h) (sk (sr (Mz Z (Kz (vJ (X a)) (An Z (JG ?_))))))
 have g:=H.drew
 refine KR [6] (λ Z9=> ∃ L',Own w D Z9 ([row f (X a) d (q0 aW.J a) 99 4]++L')) f1 f1 (JP J3) ⟨_,g⟩ ?_
 revert g
 generalize World.drew w=r
 intro g
 refine qv 0 Z Z (qt (v:=vJ (U c)) 1 Z (λ _ _=>JN (e:=c) (JM Z) Y) (qt (v:= W f (U c) d) 2 Z (λ _ _=>Ku (l5) Z Z Y) (qv 3 Z Z (qt (v:=vJ (U b)) 4 Z (λ _ _=>JN (e:=b) (JM Z) Y) (qt (v:= W (eU f (U b) 4 d) (X a - (U b)) (d - (U b))) 5 Z (λ _ _=>Ka (l5) Z Z Y) ?_)))))
 have E:X (t8 (U c) a++r6 (U b) a)=U c+(X a - U b):=by simp only [o2,o0,o1]; omega
 have l:Src v1 4 77 (W (eU f (U b) 4 d) (X a - (U b)) (d - (U b))) (X a - U b) (q0 aW.J (r6 (U b) a)) r:=fq Q7 (KA (lo:=U b) aW.len (g.rds (i:=0) Z) Y Y f6) (di aW.one (r6 (U b) a))
 obtain⟨F,t,u⟩:=g.rowFull
 refine qd 6 Z (KM (k:=U c) (m:=X a - U b) (l5) u Z Z l Y (s:=X (t8 (U c) a++r6 (U b) a)) Y ?_)
 intro M n
 refine⟨.inl f1, ?_⟩
 refine Ki (v:= W f (X (t8 (U c) a++r6 (U b) a)) d) 7 Z f1 (λ _=>KG Z) (qn (JK (sr (Mz Z (Mz Z (Kz (vI ((X (t8 (U c) a++r6 (U b) a):Nat):Int)) (Mz Z (fw (W (eU f (X (t8 (U c) a++r6 (U b) a)) 4 d) (X a - (X (t8 (U c) a++r6 (U b) a))) (d - (X (t8 (U c) a++r6 (U b) a)))) (Yl.cut (l5) Z Z Z Y Y) ?_))))))))
 refine Kw (KZ (z0:=(Zx #[.int .u64 0, W Zv 0 0, W Zv 0 0,vI 0])) (lo:=X (t8 (U c) a++r6 (U b) a)) (nd:=(X a - (X (t8 (U c) a++r6 (U b) a)))) f1 Z (l5) n Z (λ _=>gI ((n.rds (i:=0) Z).isSome Y) Y) Y ?_)
 intro x G I y
 refine ns (Mz Z (An Z (rt (rs ?_))))
 have z:Own w D x [row f (X (t8 (U c) a++r6 (U b) a)) d (q0 aW.J (t8 (U c) a++r6 (U b) a)) 99 4]:=y.rowPart Y (tF aW.len Y Y Z)
 have A:=z.pf []
 obtain rfl:=zj hr zq1
 exact⟨f,d,Z,A,Y⟩
def kz (a:List aW) (b:Int) (c:aW):(List aW):=
 if((U b:Nat):Int)=((X a:Nat):Int) then(a++ [c]) else(t8 (U b) a++(c::r6 (U b) a))
theorem o7 (w D f E d b a C) (c:aW) (y) (H:Own w D w [row f E d (q0 aW.J b) 99 4,ma C 1 (q0 aW.J ([c])) 99 4]) (F:E=X b) (ag:X b *64<=211106232532992) (ah:0<=a/\a<=((X b:Nat):Int)/\(X b+1) *64<=211106232532992) (hr:kz b a c=y):
    Calls v1 82 #[W f E d,vI a, W C 1 1] w (dM λ v w'=> ∃ Z1 Z2,v= W Z1 (X y) Z2/\Own w D w' [row Z1 (X y) Z2 (q0 aW.J y) 99 4]/\(X y=X b+1)):=by
 unfold kz at hr
 subst F
 have ai:=H.rowC (i:=0) Z
 refine cb Tryz.func82 ?_
 refine sr (Ar Z (Mz Z (fw (vJ (U a)) (JN (e:=a) (JM Z) Y) (fw (W (eU f (U a) 4 d) (X b - (U a)) (d - (U a))) (Ka (l5) Z Z Y) (ns (Mz Z (Kz (vI 1) (An Z (JG (sr (Mz Z (Kz (V J) (nt (jf (sk (sr (Mz Z (Kz (vJ (X b)) (An Z (JG (sr (fw (vJ (U a)) (JN (e:=a) (JM Z) Y) ?_))))))))))))))))))))))
 refine Mz Z (Kz (Zb (((U a:Nat):Int)=(X b:Int))) (nt ?_))
 by_cases h:((U a:Nat):Int)=(X b:Int)
 refine jT (dT h) (sr (Mz Z (Mz Z ?_)))
 refine WL.do Z (J7 (k:=X b) (m:=1) (l5) H Z Z (fq Q7 (dH H (i:=1) Z lJ) (di aW.one ([c]))) Z Y (s:=X (b++ [c])) f7 (u0).symm ?_)
 intro G I aj Z7
 have Z0:X (b++ [c])=X b+1:=by simp only [o2,q5,L3]
 refine An Z (rt (tR (rs ?_)))
 have K:=Z7.pk [0]
 obtain rfl:=zj hr zq1
 exact⟨G,I,Z,K,Y⟩
 refine jF (dF h) (sk (JG (sr (Mz Z (Mz Z (fw (vJ (X b+1)) (JN (e:=B7.wrap ((X b:Int)+1)) yk f3) (Mz Z (Kz (vJ d) (Kz (Zb (((X b+1:Nat):Int) > (d:Int))) (nt ?_))))))))))
 by_cases z:((X b+1:Nat):Int) > (d:Int)
 refine jT (dT z) (sr (Mz Z (fw (vJ (U a)) (JN (e:=a) (JM Z) Y) (fw (W f (U a) d) (Ku (l5) Z Z Y) (Mz Z (Mz Z (fw (vJ (X b+1)) (JN (e:=B7.wrap ((X b:Int)+1)) yk f3) (fw (vJ (U a)) (JN (e:=a) (JM Z) Y) (fw (vJ ((X b+1) - (U a))) (JN (e:=B7.wrap (((X b+1:Nat):Int) - ((U a:Nat):Int))) yk f3) ?_)))))))))
 have aa:X (t8 (U a) b++(c::r6 (U a) b))=X b+1:=by simp only [o2,o0,q5,o1]; omega
 refine WL.do Z (KJ (k:=U a) (m:=(X b+1) - (U a)) (l5) v8 H Z Z Y Y Y Z Y (s:=X (t8 (U a) b++(c::r6 (U a) b))) Y ?_)
 intro j g ae ak A n
 have L:=n.rowLe (i:=0) Z
 refine Ar Z (Mz Z (fw (vJ (U a)) (JN (e:=a) (JM Z) Y) (fw (W (eU j (U a) 4 g) ((X (t8 (U a) b++(c::r6 (U a) b))) - (U a)) (g - (U a))) (Ka (l5) Z Z Y) (Mz Z ?_))))
 refine WL.do Z (Kq (lo:=U a) (k:=1) (l5) n Z (λ _=>gI ((n.rds (i:=0) Z).isSome Y) Y) Y Z (dH n (i:=2) Z lJ) Y (λ u hu=>di aW.one _ u (M2 hu)) Z ?_)
 intro au M
 refine nt (JG ?_)
 refine zx [8] (JP (JP J3)) M ?_
 intro av o
 refine qv 0 Z Z (qt (v:=vJ (U a)) 1 Z (λ _ _=>JN (e:=a) (JM Z) Y) (qv 2 Z Z (qt (v:=vJ (U a+1)) 3 Z (λ _ _=>JN (e:=B7.wrap (((U a:Nat):Int)+1)) yk f3) (qt (v:= W (eU j (U a+1) 4 g) ((X (t8 (U a) b++(c::r6 (U a) b))) - (U a+1)) (g - (U a+1))) 4 Z (λ _ _=>Ka (l5) Z Z Y) (qv 5 Z Z (qt (v:=vJ (U a)) 6 Z (λ _ _=>JN (e:=a) (JM Z) Y) (qt (v:= W (eU f (U a) 4 d) (X b - (U a)) (d - (U a))) 7 Z (λ _ _=>Ka (l5) Z Z Y) ?_)))))))
 refine qd 8 Z (Kq (lo:=U a+1) (k:=X b - U a) (l5) o Z (λ _=>gI ((o.rds (i:=0) Z).isSome Y) Y) Y Z (KA (lo:=U a) aW.len (o.rds (i:=1) Z) Y Y f6) Y (λ u hu=>di aW.one _ u (M2 hu)) Z ?_)
 intro Z5 Z6
 refine⟨.inl f1, ?_⟩
 refine qn (JK (sr (Mz Z (An Z (rt (tR (rs ?_)))))))
 have P:Own w D Z5 [row j (X (t8 (U a) b++(c::r6 (U a) b))) g (q0 aW.J (t8 (U a) b++(c::r6 (U a) b))) 99 4,row f (X b) d (q0 aW.J b) 99 4,ma C 1 (q0 aW.J ([c])) 99 4]:=Z6.rowPart Y (uA (l:=b) (k2:=X b - U a) aW.len Y A Z Z Y)
 have Q:=P.pk [0]
 obtain rfl:=zj hr zq1
 exact⟨j,g,Z,Q,Y⟩
 refine jF (dF z) (sk (sr ?_))
 have B:X (t8 (U a) b++(c::r6 (U a) b))=X b+1:=by simp only [o2,o0,q5,o1]; omega
 obtain⟨af,p,R⟩:=H.rowFull
 refine Mz Z (Mz Z (Mz Z (fw (vJ (X b+1)) (JN (e:=B7.wrap ((X b:Int)+1)) yk f3) (fw (W f (X (t8 (U a) b++(c::r6 (U a) b))) d) (Yl.to (Ku (l5) Z Z Y) (ZJ (λ q=>Value.slice f q d) B.symm)) (An Z (JG (sr (Mz Z (Mz Z (fw (vJ (U a)) (JN (e:=a) (JM Z) Y) (Mz Z (fw (vJ (U a+1)) (JN (e:=B7.wrap (((U a:Nat):Int)+1)) yk f3) (fw (W (eU f (U a+1) 4 d) ((X (t8 (U a) b++(c::r6 (U a) b))) - (U a+1)) (d - (U a+1))) (Ka (l5) Z Z Y) ?_)))))))))))))
 have r:=R.pb [0]
 refine fw (V J) (KN (lo:=U a+1) (run_callFunc_extern Tryz.func135 f1 f1 f1 (e:=Extern.SlicesOverlaps.overlaps #[77,77] #[4]) f1) Q7 Tryz.sizeOf99 r f6 Y Z (gI ((r.rds (i:=1) Z).isSome Y) Y)) (Kz (V Zk) (nt (jt (JG ?_))))
 refine pK [8] (JP (JP J3)) r ?_
 intro ax S
 refine qv 0 Z Z (qt (v:=vJ (U a)) 1 Z (λ _ _=>JN (e:=a) (JM Z) Y) (qv 2 Z Z (qt (v:=vJ (U a+1)) 3 Z (λ _ _=>JN (e:=B7.wrap (((U a:Nat):Int)+1)) yk f3) (qt (v:= W (eU f (U a+1) 4 d) ((X (t8 (U a) b++(c::r6 (U a) b))) - (U a+1)) (d - (U a+1))) 4 Z (λ _ _=>Ka (l5) Z Z Y) (qv 5 Z Z (qt (v:=vJ (U a)) 6 Z (λ _ _=>JN (e:=a) (JM Z) Y) (qt (v:= W (eU f (U a) 4 d) ((X (t8 (U a) b++(c::r6 (U a) b))) - (U a)) (d - (U a))) 7 Z (λ _ _=>Ka (l5) Z Z Y) ?_)))))))
 have t:=S.pb [0]
 refine qd 8 Z (Kq (lo:=U a+1) (k:=X b - U a) (l5) t Z (λ _=>gI ((t.rds (i:=0) Z).isSome Y) Y) Y Z (bP.cut (lo:=U a) (hi:=X (t8 (U a) b++(c::r6 (U a) b))) (t.rds (i:=0) Z) Y Y Y) Y (λ u hu=>di aW.one _ u (by rw [uB aW.len Y Z Y] at hu; exact hu)) Z ?_)
 intro ay x
 refine⟨.inl f1, ?_⟩
 refine qn (JK (sr (Mz Z (fw (vJ (U a)) (JN (e:=a) (JM Z) Y) (fw (W (eU f (U a) 4 d) ((X (t8 (U a) b++(c::r6 (U a) b))) - (U a)) (d - (U a))) (Ka (l5) Z Z Y) (Mz Z ?_))))))
 refine WL.do Z (Kq (lo:=U a) (k:=1) (l5) x Z (λ _=>gI ((x.rds (i:=0) Z).isSome Y) Y) Y Z (dH x (i:=1) Z lJ) Y (λ u hu=>di aW.one _ u (M2 hu)) Z ?_)
 intro Z8 Z4
 refine ns (Mz Z (An Z (rt (tR (rs ?_)))))
 have Z3:Own w D Z8 [row f (X (t8 (U a) b++(c::r6 (U a) b))) d (q0 aW.J (t8 (U a) b++(c::r6 (U a) b))) 99 4,ma C 1 (q0 aW.J ([c])) 99 4]:=Z4.rowPart Y (uC (l:=b) (m:=(X (t8 (U a) b++(c::r6 (U a) b))) - U a) (k2:=X b - U a) aW.len Y (by rw [p]; exact Q6 4 Y) Z Z Y Y)
 have Z9:=Z3.pk [0]
 obtain rfl:=zj hr zq1
 exact⟨f,d,Z,Z9,Y⟩
def su (a:List bf):(List bf):=
 a
theorem qW (w D e g x a f) (H:Own w D w []) (d:Ro w D λ w'=>bP w' 2 e g (q0 bf.J a)) (h:g=X a) (y:X a *32<=211106232532992) (hr:su a=f):
    Calls v1 35 #[W e g x] w (dM λ v w'=> ∃ t u,v= W t (X f) u/\Own w D w' [row t (X f) u (q0 bf.J f) 60 2]):=by
 subst h
 refine cb Tryz.func35 ?_
 refine sr (An Z (JG (sr (Mz Z (fw (V (Option.isNone e)) (KO Q5 Z Z) (nt ?_))))))
 rcases Nf (Option.isNone e) with b | b
 obtain rfl:a= []:=sM (enc:=bf.J) (H.ro d) b
 refine jT b (sr (An Z (rt (tR (rs ?_)))))
 have i:Own w D w [row Zv 0 0 (q0 bf.J []) 60 2]:=H.free (cK 60 2)
 have j:=i.pf []
 obtain rfl:_=[]:=zj hr Z
 exact⟨Zv,0,Z,j⟩
 refine jF b (sk (sr ?_))
 refine jW [] 60 2 0 H ?_
 intro l n c
 replace c:Own w D n [row l 0 0 (q0 bf.J []) 60 2]:=c
 refine Mz Z ?_
 refine WL.do Z (J7 (k:=0) (m:=X a) (kH) c Z Z (fq Q5 (c.ro d) (di bf.one a)) Z Y (s:=X a) Y Z ?_)
 intro o p z q
 refine An Z (rt (rs ?_))
 have r:=q.pf []
 obtain rfl:_=a:=zj hr Z
 exact⟨o,p,Z,r⟩
def qJ (a:List aR):(List aR):=
 a
theorem pU (w D e g x a f) (H:Own w D w []) (d:Ro w D λ w'=>bP w' 3 e g (q0 aR.J a)) (h:g=X a) (y:X a *48<=211106232532992) (hr:qJ a=f):
    Calls v1 178 #[W e g x] w (dM λ v w'=> ∃ t u,v= W t (X f) u/\Own w D w' [row t (X f) u (q0 aR.J f) 70 3]):=by
 subst h
 refine cb Tryz.func178 ?_
 refine sr (An Z (JG (sr (Mz Z (fw (V (Option.isNone e)) (KO H1 Z Z) (nt ?_))))))
 rcases Nf (Option.isNone e) with b | b
 obtain rfl:a= []:=sM (enc:=aR.J) (H.ro d) b
 refine jT b (sr (An Z (rt (tR (rs ?_)))))
 have i:Own w D w [row Zv 0 0 (q0 aR.J []) 70 3]:=H.free (cK 70 3)
 have j:=i.pf []
 obtain rfl:_=[]:=zj hr Z
 exact⟨Zv,0,Z,j⟩
 refine jF b (sk (sr ?_))
 refine jW [] 70 3 0 H ?_
 intro l n c
 replace c:Own w D n [row l 0 0 (q0 aR.J []) 70 3]:=c
 refine Mz Z ?_
 refine WL.do Z (J7 (k:=0) (m:=X a) (qF) c Z Z (fq H1 (c.ro d) (di aR.one a)) Z Y (s:=X a) Y Z ?_)
 intro o p z q
 refine An Z (rt (rs ?_))
 have r:=q.pf []
 obtain rfl:_=a:=zj hr Z
 exact⟨o,p,Z,r⟩
def tZ (a:List Nat):(List Nat):=
 a
theorem sH (w D e g x a f) (H:Own w D w []) (d:Ro w D λ w'=>bP w' 1 e g (q0 (eN .u64) a)) (h:g=X a) (y:X a *8<=211106232532992) (hr:tZ a=f):
    Calls v1 34 #[W e g x] w (dM λ v w'=> ∃ t u,v= W t (X f) u/\Own w D w' [row t (X f) u (q0 (eN .u64) f) 32 1]):=by
 subst h
 refine cb Tryz.func34 ?_
 refine sr (An Z (JG (sr (Mz Z (fw (V (Option.isNone e)) (KO P9 Z Z) (nt ?_))))))
 rcases Nf (Option.isNone e) with b | b
 obtain rfl:a= []:=sM (enc:=(eN .u64)) (H.ro d) b
 refine jT b (sr (An Z (rt (tR (rs ?_)))))
 have i:Own w D w [row Zv 0 0 (q0 (eN .u64) []) 32 1]:=H.free (cK 32 1)
 have j:=i.pf []
 obtain rfl:_=[]:=zj hr Z
 exact⟨Zv,0,Z,j⟩
 refine jF b (sk (sr ?_))
 refine jW [] 32 1 0 H ?_
 intro l n c
 replace c:Own w D n [row l 0 0 (q0 (eN .u64) []) 32 1]:=c
 refine Mz Z ?_
 refine WL.do Z (J7 (k:=0) (m:=X a) (iZ) c Z Z (fq P9 (c.ro d) (di mW a)) Z Y (s:=X a) Y Z ?_)
 intro o p z q
 refine An Z (rt (rs ?_))
 have r:=q.pf []
 obtain rfl:_=a:=zj hr Z
 exact⟨o,p,Z,r⟩
def ry (a:List bO):(List bO):=
 a
theorem qB (w D e g x a f) (H:Own w D w []) (d:Ro w D λ w'=>bP w' 2 e g (q0 bO.J a)) (h:g=X a) (y:X a *24<=211106232532992) (hr:ry a=f):
    Calls v1 33 #[W e g x] w (dM λ v w'=> ∃ t u,v= W t (X f) u/\Own w D w' [row t (X f) u (q0 bO.J f) 83 2]):=by
 subst h
 refine cb Tryz.func33 ?_
 refine sr (An Z (JG (sr (Mz Z (fw (V (Option.isNone e)) (KO Q8 Z Z) (nt ?_))))))
 rcases Nf (Option.isNone e) with b | b
 obtain rfl:a= []:=sM (enc:=bO.J) (H.ro d) b
 refine jT b (sr (An Z (rt (tR (rs ?_)))))
 have i:Own w D w [row Zv 0 0 (q0 bO.J []) 83 2]:=H.free (cK 83 2)
 have j:=i.pf []
 obtain rfl:_=[]:=zj hr Z
 exact⟨Zv,0,Z,j⟩
 refine jF b (sk (sr ?_))
 refine jW [] 83 2 0 H ?_
 intro l n c
 replace c:Own w D n [row l 0 0 (q0 bO.J []) 83 2]:=c
 refine Mz Z ?_
 refine WL.do Z (J7 (k:=0) (m:=X a) (uE) c Z Z (fq Q8 (c.ro d) (di bO.one a)) Z Y (s:=X a) Y Z ?_)
 intro o p z q
 refine An Z (rt (rs ?_))
 have r:=q.pf []
 obtain rfl:_=a:=zj hr Z
 exact⟨o,p,Z,r⟩
def uf (a:List aY):(List aY):=
 a
theorem jb (w D e g x a f) (H:Own w D w []) (d:Ro w D λ w'=>bP w' 6 e g (q0 aY.J a)) (h:g=X a) (y:X a *80<=211106232532992) (hr:uf a=f):
    Calls v1 36 #[W e g x] w (dM λ v w'=> ∃ t u,v= W t (X f) u/\Own w D w' [row t (X f) u (q0 aY.J f) 68 6]):=by
 subst h
 refine cb Tryz.func36 ?_
 refine sr (An Z (JG (sr (Mz Z (fw (V (Option.isNone e)) (KO Q9 Z Z) (nt ?_))))))
 rcases Nf (Option.isNone e) with b | b
 obtain rfl:a= []:=sM (enc:=aY.J) (H.ro d) b
 refine jT b (sr (An Z (rt (tR (rs ?_)))))
 have i:Own w D w [row Zv 0 0 (q0 aY.J []) 68 6]:=H.free (cK 68 6)
 have j:=i.pf []
 obtain rfl:_=[]:=zj hr Z
 exact⟨Zv,0,Z,j⟩
 refine jF b (sk (sr ?_))
 refine jW [] 68 6 0 H ?_
 intro l n c
 replace c:Own w D n [row l 0 0 (q0 aY.J []) 68 6]:=c
 refine Mz Z ?_
 refine WL.do Z (J7 (k:=0) (m:=X a) (oD) c Z Z (fq Q9 (c.ro d) (di aY.one a)) Z Y (s:=X a) Y Z ?_)
 intro o p z q
 refine An Z (rt (rs ?_))
 have r:=q.pf []
 obtain rfl:_=a:=zj hr Z
 exact⟨o,p,Z,r⟩
end
section
open Go.RowKit
theorem Aw (d:List bf) (i j:Int) (h:0<=i/\i<=j):lN d i j=List.take (Int.toNat i) d++List.drop (Int.toNat j) d:=by
 unfold lN
 by_cases c:i=j
 . rw [ip c,c,List.take_append_drop]
 . rw [iN c]
theorem Ay (w D A n c d l i j k) (x:bf) (H:Own w D w [row A n c (List.flatMap bf.J d) 60 2,sepL (List.flatMap J9 d)]) (hn:n=X l) (hd:List.map bf.abs d=l) (hl:X l<=1000000) (hk:i=((k:Nat):Int)) (hj:j=i+1) (hx:d[k]? =Zw x):
    Calls Tryz.prog 85 #[W A n c,vI i,vI j] w (dM λ v w'=> ∃ B b,v= W B (X (List.take k l++List.drop (k+1) l)) b/\
      Own w D w' (row B (X (List.take k l++List.drop (k+1) l)) b (List.flatMap bf.J (List.take k d++List.drop (k+1) d)) 60 2::sepL (List.flatMap J9 (List.take k d++List.drop (k+1) d))::J9 x)):=by
 obtain⟨a,e,ro,bk,rr⟩:=Kb H
 have hdl:X d=X l:=by rw [<- hd,List.length_map]
 have hkl:=(List.getElem?_eq_some_iff.1 hx).1
 have f:Int.toNat i=k:=Y
 have g:Int.toNat j=k+1:=Y
 refine(qH w a A n c d i j _ e Y Y Y (Aw d i j Y)).mono ?_
 rintro _ w' ⟨v,rfl,B,b,rfl,HQ,_⟩
 rw [f,g,bg (oL (i:=k) (j:=k+1) hd)] at HQ ⊢
 have h:=(bk _ _ HQ).perm (List.Perm.swap _ _ _)
 have m:=BX hx h
 exact⟨_,Z,B,b,Z,m.perm (List.perm_append_comm (l₁:=sepL (List.flatMap J9 (List.take k d++List.drop (k+1) d))::J9 x) (l₂:= [_]))⟩
theorem AA (d:List bf) (i:Int) (x:bf) (h:0<=i/\i<=(X d:Int)):lQ d i x=List.take (Int.toNat i) d++(x::List.drop (Int.toNat i) d):=by
 unfold lQ
 by_cases c:((Int.toNat i:Nat):Int)=(X d:Int)
 . rw [ip c,List.take_of_length_le Y,List.drop_eq_nil_of_le Y]
 . rw [iN c]
theorem AB (w D A n c d l i k a) (y:bf) (z:df) (H:Own w D w (row A n c (List.flatMap bf.J d) 60 2::ma a 1 (List.flatMap bf.J [y]) 60 2::sepL (List.flatMap J9 d)::J9 y)) (hn:n=X l) (hd:List.map bf.abs d=l) (hz:bf.abs y=z) (hl:X l<=1000000) (hk:i=((k:Nat):Int)) (hi:k<=X l):
    Calls Tryz.prog 182 #[W A n c,vI i, W a 1 1] w (dM λ v w'=> ∃ B b,v= W B (X (List.take k l++(z::List.drop k l))) b/\
      Own w D w' [row B (X (List.take k l++(z::List.drop k l))) b (List.flatMap bf.J (List.take k d++(y::List.drop k d))) 60 2,sepL (List.flatMap J9 (List.take k d++(y::List.drop k d)))]):=by
 obtain⟨e,f,ro,bk,rr⟩:=Ko H
 have hdl:X d=X l:=by rw [<- hd,List.length_map]
 have g:Int.toNat i=k:=Y
 refine(qI w e A n c d i a y _ f Y Y Y (AA d i y Y)).mono ?_
 rintro _ w' ⟨v,rfl,B,b,rfl,HQ,_⟩
 rw [g,bg (jQ (i:=k) hd hz)] at HQ ⊢
 have h:=bk _ _ HQ
 have j:Own w D w' (sepL (List.flatMap J9 d)::(J9 y++ [row B (X (List.take k l++(z::List.drop k l))) b (List.flatMap bf.J (List.take k d++(y::List.drop k d))) 60 2])):=h.perm (List.perm_append_comm (l₁:= [_]) (l₂:=sepL (List.flatMap J9 d)::J9 y))
 exact⟨_,Z,B,b,Z,(BZ j).perm (List.Perm.swap _ _ _)⟩
theorem yZ (d:List aW) (i j:Int) (h:0<=i/\i<=j):ky d i j=List.take (Int.toNat i) d++List.drop (Int.toNat j) d:=by
 unfold ky
 by_cases c:i=j
 . rw [ip c,c,List.take_append_drop]
 . rw [iN c]
theorem uM (w D A n c d l i j k) (x:aW) (H:Own w D w [row A n c (List.flatMap aW.J d) 99 4,sepL (List.flatMap J5 d)]) (hn:n=X l) (hd:List.map aW.abs d=l) (hl:X l<=1000000) (hk:i=((k:Nat):Int)) (hj:j=i+1) (hx:d[k]? =Zw x):
    Calls Tryz.prog 142 #[W A n c,vI i,vI j] w (dM λ v w'=> ∃ B b,v= W B (X (List.take k l++List.drop (k+1) l)) b/\
      Own w D w' (row B (X (List.take k l++List.drop (k+1) l)) b (List.flatMap aW.J (List.take k d++List.drop (k+1) d)) 99 4::sepL (List.flatMap J5 (List.take k d++List.drop (k+1) d))::J5 x)):=by
 obtain⟨a,e,ro,bk,rr⟩:=Kb H
 have hdl:X d=X l:=by rw [<- hd,List.length_map]
 have hkl:=(List.getElem?_eq_some_iff.1 hx).1
 have f:Int.toNat i=k:=Y
 have g:Int.toNat j=k+1:=Y
 refine(o6 w a A n c d i j _ e Y Y Y (yZ d i j Y)).mono ?_
 rintro _ w' ⟨v,rfl,B,b,rfl,HQ,_⟩
 rw [f,g,bg (oL (i:=k) (j:=k+1) hd)] at HQ ⊢
 have h:=(bk _ _ HQ).perm (List.Perm.swap _ _ _)
 have m:=BX hx h
 exact⟨_,Z,B,b,Z,m.perm (List.perm_append_comm (l₁:=sepL (List.flatMap J5 (List.take k d++List.drop (k+1) d))::J5 x) (l₂:= [_]))⟩
theorem y5 (d:List aW) (i:Int) (x:aW) (h:0<=i/\i<=(X d:Int)):kz d i x=List.take (Int.toNat i) d++(x::List.drop (Int.toNat i) d):=by
 unfold kz
 by_cases c:((Int.toNat i:Nat):Int)=(X d:Int)
 . rw [ip c,List.take_of_length_le Y,List.drop_eq_nil_of_le Y]
 . rw [iN c]
theorem y7 (w D A n c d l i k a) (y:aW) (z:bA) (H:Own w D w (row A n c (List.flatMap aW.J d) 99 4::ma a 1 (List.flatMap aW.J [y]) 99 4::sepL (List.flatMap J5 d)::J5 y)) (hn:n=X l) (hd:List.map aW.abs d=l) (hz:aW.abs y=z) (hl:X l<=1000000) (hk:i=((k:Nat):Int)) (hi:k<=X l):
    Calls Tryz.prog 82 #[W A n c,vI i, W a 1 1] w (dM λ v w'=> ∃ B b,v= W B (X (List.take k l++(z::List.drop k l))) b/\
      Own w D w' [row B (X (List.take k l++(z::List.drop k l))) b (List.flatMap aW.J (List.take k d++(y::List.drop k d))) 99 4,sepL (List.flatMap J5 (List.take k d++(y::List.drop k d)))]):=by
 obtain⟨e,f,ro,bk,rr⟩:=Ko H
 have hdl:X d=X l:=by rw [<- hd,List.length_map]
 have g:Int.toNat i=k:=Y
 refine(o7 w e A n c d i a y _ f Y Y Y (y5 d i y Y)).mono ?_
 rintro _ w' ⟨v,rfl,B,b,rfl,HQ,_⟩
 rw [g,bg (jQ (i:=k) hd hz)] at HQ ⊢
 have h:=bk _ _ HQ
 have j:Own w D w' (sepL (List.flatMap J5 d)::(J5 y++ [row B (X (List.take k l++(z::List.drop k l))) b (List.flatMap aW.J (List.take k d++(y::List.drop k d))) 99 4])):=h.perm (List.perm_append_comm (l₁:= [_]) (l₂:=sepL (List.flatMap J5 d)::J5 y))
 exact⟨_,Z,B,b,Z,(BZ j).perm (List.Perm.swap _ _ _)⟩
theorem Ee (w D A n c d l k) (H:Own w D w [row A n c (List.flatMap aR.J d) 70 3,sepL (List.flatMap Kc d)]) (hn:n=X l) (hd:List.map aR.abs d=l) (hl:X l<=1000000) (hk:k<=X l) (hc:n<=c):
    Calls Tryz.prog 178 #[W (eU A k 3 c) (n - k) (c - k)] w (dM λ v w'=> ∃ B b,v= W B (X (List.drop k l)) b/\
      Own w D w' [row B (X (List.drop k l)) b (List.flatMap aR.J (List.drop k d)) 70 3,sepL (List.flatMap Kc (List.drop k d))]):=by
 obtain⟨a,e,ro,bk,rr⟩:=JJ H
 have hdl:X d=X l:=by rw [<- hd,List.length_map]
 have f:X (List.drop k d)=X (List.drop k l):=by rw [List.length_drop,List.length_drop,hdl]
 refine(pU w a (eU A k 3 c) (n - k) (c - k) (List.drop k d) (List.drop k d) e (λ g h=>KA (lo:=k) aR.len ((rr _ 0 _ Z bQ) g h) Y Y f6) (by rw [List.length_drop]; omega) (by rw [List.length_drop]; omega) Z).mono ?_
 rintro _ w' ⟨v,rfl,B,b,rfl,HQ⟩
 rw [f] at HQ ⊢
 have m:=((bk _ _ HQ).pick [2,0] f6 Z).sepDel (i:=0) (j:=k) (Nb k)
 exact⟨_,Z,B,b,Z,m.pk [1,0]⟩
end
section
open Go.RowKit
section
variable {P:Program} {n:Nat} {F:List (Nat × ZX)} {w0 w:ZQ} {D:Nat->Prop} {L:List HP} {ty:TypeId} {v:ZX} {K:ZX->ZQ->Prop}
theorem LU {rx:Operand} {nm:String} {f:FuncId} {args:List Operand} {vals:List ZX} {t:TypeId} {u:ZX} {tys:Array TypeId} {R:ZX->ZQ->Prop} (hm:∀ (b:Array ZX) Z9,(callMethod (.iface t u) nm b).run P Z9= .ok (.enter f (#[u]++b)) Z9) (hx:ev F rx=Zw (.iface t u)) (ha:wV F args=Zw vals) (hc:Calls P f (#[u]++vals.toArray) w (dM R))
    (h:∀ v w',R v w'->K v w'):Do P n F w (.call ⟨.invoke rx nm,args.toArray,tys⟩) ty K:=λ a hag o c g next Q hn=>by
  have e:(execOp a.eval o).run P w= .ok (.enter f (#[u]++vals.toArray)) w:=by
    unfold execOp
    rw [c]
    have ex:(#[Value.iface t u]++vals.toArray).extract 1 (#[Value.iface t u]++vals.toArray).size=vals.toArray:=by simp
    have d:(#[Value.iface t u]++vals.toArray)[0]? =Zw (Value.iface t u):=by simp
    simp only [resolve,hag.eval hx,List.map_toArray,hag.evals ha,Sem.run_bind,Sem.run_pure,Result.andThen_ok,invoke,d,ex,hm]
  rw [e,Oper.upon_enter]
  exact hc.mono λ e w' hR=>by
    obtain⟨v,rfl,hk⟩:=hR
    exact hn _ _ (h _ _ hk)
end
theorem Hg (g:Nat) (b:Array ZX) (Z9:ZQ):(callMethod (.iface 24 (Zq (Zw ⟨g,0,Zv⟩))) "Get" b).run Tryz.prog Z9= .ok (.enter 252 (#[Zq (Zw ⟨g,0,Zv⟩)]++b)) Z9:=by kernel_rfl
theorem F9 (g:Nat) (b:Array ZX) (Z9:ZQ):(callMethod (.iface 24 (Zq (Zw ⟨g,0,Zv⟩))) "Scan" b).run Tryz.prog Z9= .ok (.enter 253 (#[Zq (Zw ⟨g,0,Zv⟩)]++b)) Z9:=by kernel_rfl
end
open IntKind renaming u64->I0
open List renaming getElem?_eq_getElem->p2,mem_cons->u5,not_mem_nil->v6
open Sum renaming inl->y3,inr->y6
open _root_.Go.Proofs.Tryz renaming isAgg32->E3,isAgg33->R7,isAgg34->E0,isAgg37->D0,isAgg44->E6,isAgg60->R6,isAgg68->C6,isAgg77->S1,isAgg9->B3,isAgg99->R9,sizeOf35->R8,sizeOf37->C7,sizeOf41->F1,sizeOf60->E2,sizeOf68->C5,sizeOf99->S0,underlying32->F2,underlying37->y2,underlying9->v7
open WL renaming nil->B8
open Wp renaming exit->B9,loop->B4
section
open Go.RowKit
structure aA where q::
 a:bD
 b:Ll bA
abbrev kB (a:aA)(A:Option Addr)(n c:Nat)(B:Option Addr)(k d:Nat)(C:Option Addr)(m e l y:Nat)(E:Option Addr)(i u z:Nat):List ZX:=[.int .i64 a.a.l, .int .u64 ((a.a.r:Nat):Int), .int .u64 ((a.a.t:Nat):Int), .int .u64 ((a.a.s:Nat):Int), .int .u64 ((a.a.g:Nat):Int), W A n c, W B k d, W C m e, .int .u64 ((l:Nat):Int), .int .u64 ((a.a.u:Nat):Int), Zz ⟨Zc a.a.j.a⟩, Zz ⟨Zc a.a.j.b⟩, .int .u64 ((a.a.e.g:Nat):Int), .int .u64 ((a.a.e.u:Nat):Int), .int .u64 ((a.a.e.a:Nat):Int), Zz ⟨Zc a.a.e.j.a⟩, Zz ⟨Zc a.a.e.j.b⟩, .iface 24 (Zq (Zw ⟨y,0,Zv⟩)), W E i u, Zq (Zw ⟨z,0,Zv⟩), Zq Zv]
instance:Inhabited aA:=⟨⟨ZZ,ZZ⟩⟩
theorem ug:Elem v1 50 47 21 232:=nz (z:= Zx (Zc (iF 0 0 0 0 0 0 0 0 0 0 0 0 0 0 0 J [] [] Zv 0 0 Zv 0 0 Zv 0 0))) Tryz.underlying50 f1 Z f6
structure o8 where q::
 a:Sv bU
 b:Sv aY
 e:Bool
def o8.J (x:o8):List ZX:= [W x.a.A (X x.a.a) x.a.c, W x.b.A (X x.b.a) x.b.c, V x.e]
instance:Bk o8:=⟨λ x _=>bk x.a+(bk x.b+(bk x.e+(0)))⟩
theorem o8.len:∀ x,X (o8.J x)=3:=λ _=>rfl
theorem o8.one:∀ x, ∀ u ∈ o8.J x,u.oneCell'=Zk:=λ x u hu=>by
 simp only [o8.J,u5,v6,or_false] at hu
 rcases hu with rfl | rfl | rfl <;> rfl
def M4 (w:ZQ) (x:o8):Prop:=(nA w 21 232 bU.J (LB w) x.a)/\(nA w 6 80 aY.J (Lp w) x.b)/\(True)
instance:Inhabited o8:=⟨⟨ZZ,ZZ,ZZ⟩⟩
structure dL where q::
 a:Ll dK
 b:Ll aY
 e:Bool
instance:Inhabited dL:=⟨⟨ZZ,ZZ,ZZ⟩⟩
def o8.abs (x:o8):dL:=⟨⟨r7 bU.abs x.a.a⟩,⟨x.b.a⟩,x.e⟩
def MZ (x:o8):List HP:= [row x.a.A (X x.a.a) x.a.c (q0 bU.J x.a.a) 47 21,row x.b.A (X x.b.a) x.b.c (q0 aY.J x.b.a) 68 6,sepL (q0 Kg x.a.a)]
theorem Ef:Elem v1 90 216 2 16:=nz (z:= Zx #[.int .u64 0, V J]) Tryz.underlying90 f1 Z f6
structure dC where q::
 a:Nat
 e:Bool
def dC.J (x:dC):List ZX:= [.int .u64 ((x.a:Nat):Int), V x.e]
instance:Bk dC:=⟨λ x _=>bk x.a+(bk x.e+(0))⟩
theorem dC.len:∀ x,X (dC.J x)=2:=λ _=>rfl
theorem dC.one:∀ x, ∀ u ∈ dC.J x,u.oneCell'=Zk:=λ x u hu=>by
 simp only [dC.J,u5,v6,or_false] at hu
 rcases hu with rfl | rfl <;> rfl
def M5 (w:ZQ) (x:dC):Prop:=(x.a<=18446744073709551615)/\(True)
instance:Inhabited dC:=⟨⟨ZZ,ZZ⟩⟩
structure bK where q::
 a:dL
 b:Ll dC
instance:Inhabited bK:=⟨⟨ZZ,ZZ⟩⟩
def fP (l1:List bO):List bO->Nat->Unit ⊕ Bool
  | [],b=>y3 ()
  | c::d,b=>bnd (y4 l1 b ZZ) λ a=>if(c.a=a.a)/\(c.b=a.b) then fP l1 d (b+1) else y6 (J)
def lK (a:List bO) (l1:List bO):Bool:=
 if((X a:Nat):Int)=((X l1:Nat):Int) then lp (fP l1 a 0) λ _=>Zk else J
theorem qC (w D r B C b s E F l1 P) (H:Own w D w []) (n:Ro w D λ w'=>bP w' 2 r B (q0 bO.J b)) (G:B=X b) (R:X b<=9223372036854775807) (t:Ro w D λ w'=>bP w' 2 s E (q0 bO.J l1)) (I:E=X l1) (S:X l1<=9223372036854775807) (hr:lK b l1=P):
    Calls v1 52 #[W r B C, W s E F] w (dM λ v w'=>v= V P/\Own w D w' []):=by
 unfold lK at hr
 subst G I
 refine cb Tryz.func52 ?_
 refine sr (An Z (JG (sr (Mz Z (Kz (vJ (X b)) (Mz Z (Kz (vJ (X l1)) (fw (Zb (¬ ((X b:Int)=(X l1:Int)))) (JZ (e:= !(Zy ((X b:Int)=(X l1:Int)))) yk ZY) (nt ?_)))))))))
 by_cases f:(X b:Int)=(X l1:Int)
 refine jF (dF (Nc f)) (sk (JG (sr (Mz Z (Kz (vJ (X b)) (Mn Z (bo ?_)))))))
 have Z7:=H.pk []
 obtain⟨K,g⟩:=mE λ (a:Nat) w'=>Own w D w' []/\a<=X b/\fP l1 b 0=fP l1 (r6 a b) a
 refine B4 (λ i:Nat=> [(4, V J),(13,vJ i),(12,vJ (X b)),(0, W r (X b) C),(1, W s (X l1) F)]) K (λ i=>X b - i) 0 ⟨Z,Z,Z,Z,Z,ZW⟩ (g.2 ⟨Z7,Y,Z⟩) ?_
 rintro a Z8 x
 show Wp _ _ _ [(4, V J),(13,vJ a),(12,vJ (X b)),(0, W r (X b) C),(1, W s (X l1) F)] _ _
 obtain⟨o,Q,h⟩:=g.1 x
 refine sr (Kz (Zb ((a:Int) < (X b:Int))) (nt (JG ?_)))
 by_cases y:(a:Int) < (X b:Int)
 obtain⟨c,l⟩:=dJ (ls:=b) (i:=a) bO.len f6 (o.ro n) f4
 have m:=drop_at l
 refine jT (dT y) (sk (JG (bo (sr (Mz Z (An Z (JG ?_)))))))
 refine AQ [] (JP (bI.block (JP (JP (bI.block (JP J3)))))) o ?_
 intro Z4 z
 refine qv 0 Z Z (qv 1 Z Z (qt (v:= Zq (Zw ⟨ab r,ao r+a *2,Zv⟩)) 2 Z (λ _ ⟨_,p⟩=>JU (uE) Z Z ((p.ro n).addr (i:=a) Y) Y) (qt (v:= Zx (Zc (bO.J c))) 3 Z (λ _ ⟨_,p⟩=>JS Z (JW (cs:=(bO.J c)) Tryz.isAgg83 Tryz.sizeOf83 ((p.ro n).elem bO.len l f6))) (qv 4 Z Z (qv 5 Z Z ?_)))))
 obtain⟨d,j⟩:=mI (ls:=l1) (i:=a) f4
 refine qt (v:= Zq (Zw ⟨ab s,ao s+a *2,Zv⟩)) 6 Z (λ _ ⟨_,p⟩=>JU (uE) Z Z ((p.ro t).addr (i:=a) Y) Y) (qt (v:= Zx (Zc (bO.J d))) 7 Z (λ _ ⟨_,p⟩=>JS Z (JW (cs:=(bO.J d)) Tryz.isAgg83 Tryz.sizeOf83 ((p.ro t).elem bO.len j f6))) (qt (v:= Zb (¬ ((c.a=d.a)/\(c.b=d.b)))) 8 Z (λ _ _=>JZ (e:= !(Zy ((c.a=d.a)/\(c.b=d.b)))) (KD Z Z f1 Z (gB.struct Tryz.underlying83 f1 (Kv (fG.cons (u:= Zz ⟨Zc c.a⟩) (v:= Zz ⟨Zc d.a⟩) f6 Za Za (gB.string v7) (fG.cons (u:=vI c.b) (v:=vI d.b) f6 Za Za (gB.int v8) (fG.nil.up (Nb _)))) ((ZJ (Zy (c.a=d.a) && ·) kF).trans fI)))) ZY) (qn (JK ?_))))
 by_cases k:(c.a=d.a)/\(c.b=d.b)
 refine jF (dF (Nc k)) (J8 (bN (JK (JI (fw (vJ (a+1)) (JN (e:=B7.wrap ((a:Int)+1)) yk f3) (Mz Z (B8 ?_)))))))
 have L:=z.pk []
 exact JX (a+1) ⟨Z,Z,Z,Z,Z,ZW⟩ (g.2 ⟨L,Y,N (h) (N (ZJ (λ q=>fP l1 q a) m) (N (ae (bu j)) (ip k)))⟩) (by show X b - (a+1) < X b - a; omega)
 refine jT (dT k) (sr (An Z (rt (bR (tR (tR (bR (tR (rs ?_)))))))))
 have M:=z.pk []
 obtain rfl:_=J:=zj hr (N (ip f) (iJ (N (h) (N (ZJ (λ q=>fP l1 q a) m) (N (ae (bu j)) (iN k))))))
 exact⟨Z,M⟩
 refine jF (dF y) (B9 (JV ?_))
 have A:fP l1 b 0=y3 ():=N (h) (N (ZJ (λ q=>fP l1 q a) (eH (ls:=b) (i:=a) Y)) Z)
 refine JV (J2 (JK (sr (An Z (rt (rs ?_))))))
 have Z5:=o.pk []
 obtain rfl:_=Zk:=zj hr (N (ip f) (lD A))
 exact⟨Z,Z5⟩
 refine jT (dT f) (sr (An Z (rt (tR (rs ?_)))))
 have Z6:=H.pk []
 obtain rfl:=zj hr zq1
 exact⟨Z,Z6⟩
def gK (l1:List Nat):List Nat->Nat->Unit ⊕ Bool
  | [],a=>y3 ()
  | c::d,a=>bnd (y4 l1 a ZZ) λ b=>if((c:Nat):Int)=((b:Nat):Int) then gK l1 d (a+1) else y6 (J)
def mR (a:List Nat) (l1:List Nat):Bool:=
 if((X a:Nat):Int)=((X l1:Nat):Int) then lp (gK l1 a 0) λ _=>Zk else J
theorem sI (w D s B C b t E F l1 P) (H:Own w D w []) (o:Ro w D λ w'=>bP w' 1 s B (q0 (eN .u64) b)) (G:B=X b) (R:X b<=9223372036854775807) (u:Ro w D λ w'=>bP w' 1 t E (q0 (eN .u64) l1)) (I:E=X l1) (S:X l1<=9223372036854775807) (hr:mR b l1=P):
    Calls v1 53 #[W s B C, W t E F] w (dM λ v w'=>v= V P/\Own w D w' []):=by
 unfold mR at hr
 subst G I
 refine cb Tryz.func53 ?_
 refine sr (An Z (JG (sr (Mz Z (Kz (vJ (X b)) (Mz Z (Kz (vJ (X l1)) (fw (Zb (¬ ((X b:Int)=(X l1:Int)))) (JZ (e:= !(Zy ((X b:Int)=(X l1:Int)))) yk ZY) (nt ?_)))))))))
 by_cases c:(X b:Int)=(X l1:Int)
 refine jF (dF (Nc c)) (sk (JG (sr (Mz Z (Kz (vJ (X b)) (Mn Z (bo ?_)))))))
 have Z7:=H.pk []
 obtain⟨K,d⟩:=mE λ (a:Nat) w'=>Own w D w' []/\a<=X b/\gK l1 b 0=gK l1 (r6 a b) a
 refine B4 (λ i:Nat=> [(4, V J),(13,vJ i),(12,vJ (X b)),(0, W s (X b) C),(1, W t (X l1) F)]) K (λ i=>X b - i) 0 ⟨Z,Z,Z,Z,Z,ZW⟩ (d.2 ⟨Z7,Y,Z⟩) ?_
 rintro a Z8 x
 show Wp _ _ _ [(4, V J),(13,vJ a),(12,vJ (X b)),(0, W s (X b) C),(1, W t (X l1) F)] _ _
 obtain⟨p,Q,f⟩:=d.1 x
 refine sr (Kz (Zb ((a:Int) < (X b:Int))) (nt (JG ?_)))
 by_cases y:(a:Int) < (X b:Int)
 obtain⟨h,m⟩:=dJ (ls:=b) (i:=a) iq f6 (p.ro o) f4
 have n:=drop_at m
 refine jT (dT y) (sk (JG (bo (sr (Mz Z (An Z (JG ?_)))))))
 refine AQ [] (JP (bI.block (JP (JP (bI.block (JP J3)))))) p ?_
 intro Z4 z
 refine qv 0 Z Z (qv 1 Z Z (qt (v:= Zq (Zw ⟨ab s,ao s+a *1,Zv⟩)) 2 Z (λ _ ⟨_,r⟩=>JU (iZ) Z Z ((r.ro o).addr (i:=a) Y) Y) (qt (v:=vU h) 3 Z (λ _ ⟨_,r⟩=>JS Z (bT.one E3 (((r.ro o).elem iq m f6).at_ (k:=0) Z))) (qv 4 Z Z (qv 5 Z Z ?_)))))
 obtain⟨j,g⟩:=mI (ls:=l1) (i:=a) f4
 refine qt (v:= Zq (Zw ⟨ab t,ao t+a *1,Zv⟩)) 6 Z (λ _ ⟨_,r⟩=>JU (iZ) Z Z ((r.ro u).addr (i:=a) Y) Y) (qt (v:=vU j) 7 Z (λ _ ⟨_,r⟩=>JS Z (bT.one E3 (((r.ro u).elem iq g f6).at_ (k:=0) Z))) (qt (v:= Zb (¬ ((h:Int)=(j:Int)))) 8 Z (λ _ _=>JZ (e:= !(Zy ((h:Int)=(j:Int)))) yk ZY) (qn (JK ?_))))
 by_cases l:(h:Int)=(j:Int)
 refine jF (dF (Nc l)) (J8 (bN (JK (JI (fw (vJ (a+1)) (JN (e:=B7.wrap ((a:Int)+1)) yk f3) (Mz Z (B8 ?_)))))))
 have L:=z.pk []
 exact JX (a+1) ⟨Z,Z,Z,Z,Z,ZW⟩ (d.2 ⟨L,Y,N (f) (N (ZJ (λ q=>gK l1 q a) n) (N (ae (bu g)) (ip l)))⟩) (by show X b - (a+1) < X b - a; omega)
 refine jT (dT l) (sr (An Z (rt (bR (tR (tR (bR (tR (rs ?_)))))))))
 have M:=z.pk []
 obtain rfl:_=J:=zj hr (N (ip c) (iJ (N (f) (N (ZJ (λ q=>gK l1 q a) n) (N (ae (bu g)) (iN l))))))
 exact⟨Z,M⟩
 refine jF (dF y) (B9 (JV ?_))
 have A:gK l1 b 0=y3 ():=N (f) (N (ZJ (λ q=>gK l1 q a) (eH (ls:=b) (i:=a) Y)) Z)
 refine JV (J2 (JK (sr (An Z (rt (rs ?_))))))
 have Z5:=p.pk []
 obtain rfl:_=Zk:=zj hr (N (ip c) (lD A))
 exact⟨Z,Z5⟩
 refine jT (dT c) (sr (An Z (rt (tR (rs ?_)))))
 have Z6:=H.pk []
 obtain rfl:=zj hr zq1
 exact⟨Z,Z6⟩
def gL (l1:List aY):List aY->Nat->Unit ⊕ Bool
  | [],c=>y3 ()
  | b::d,c=>bnd (y4 l1 c ZZ) λ a=>if(b.e=a.e)/\(b.f=a.f)/\(b.g=a.g)/\(b.a=a.a)/\(b.b=a.b)/\(b.j=a.j) then gL l1 d (c+1) else y6 (J)
def mU (a:List aY) (l1:List aY):Bool:=
 if((X a:Nat):Int)=((X l1:Nat):Int) then lp (gL l1 a 0) λ _=>Zk else J
theorem sJ (w D r B C d s E F l1 P) (H:Own w D w []) (n:Ro w D λ w'=>bP w' 6 r B (q0 aY.J d)) (G:B=X d) (R:X d<=9223372036854775807) (t:Ro w D λ w'=>bP w' 6 s E (q0 aY.J l1)) (I:E=X l1) (S:X l1<=9223372036854775807) (hr:mU d l1=P):
    Calls v1 51 #[W r B C, W s E F] w (dM λ v w'=>v= V P/\Own w D w' []):=by
 unfold mU at hr
 subst G I
 refine cb Tryz.func51 ?_
 refine sr (An Z (JG (sr (Mz Z (Kz (vJ (X d)) (Mz Z (Kz (vJ (X l1)) (fw (Zb (¬ ((X d:Int)=(X l1:Int)))) (JZ (e:= !(Zy ((X d:Int)=(X l1:Int)))) yk ZY) (nt ?_)))))))))
 by_cases f:(X d:Int)=(X l1:Int)
 refine jF (dF (Nc f)) (sk (JG (sr (Mz Z (Kz (vJ (X d)) (Mn Z (bo ?_)))))))
 have Z7:=H.pk []
 obtain⟨K,g⟩:=mE λ (c:Nat) w'=>Own w D w' []/\c<=X d/\gL l1 d 0=gL l1 (r6 c d) c
 refine B4 (λ i:Nat=> [(4, V J),(13,vJ i),(12,vJ (X d)),(0, W r (X d) C),(1, W s (X l1) F)]) K (λ i=>X d - i) 0 ⟨Z,Z,Z,Z,Z,ZW⟩ (g.2 ⟨Z7,Y,Z⟩) ?_
 rintro c Z8 x
 show Wp _ _ _ [(4, V J),(13,vJ c),(12,vJ (X d)),(0, W r (X d) C),(1, W s (X l1) F)] _ _
 obtain⟨o,Q,h⟩:=g.1 x
 refine sr (Kz (Zb ((c:Int) < (X d:Int))) (nt (JG ?_)))
 by_cases y:(c:Int) < (X d:Int)
 obtain⟨a,l⟩:=dJ (ls:=d) (i:=c) aY.len f6 (o.ro n) f4
 have m:=drop_at l
 refine jT (dT y) (sk (JG (bo (sr (Mz Z (An Z (JG ?_)))))))
 refine AQ [] (JP (bI.block (JP (JP (bI.block (JP J3)))))) o ?_
 intro Z4 z
 refine qv 0 Z Z (qv 1 Z Z (qt (v:= Zq (Zw ⟨ab r,ao r+c *6,Zv⟩)) 2 Z (λ _ ⟨_,p⟩=>JU (oD) Z Z ((p.ro n).addr (i:=c) Y) Y) (qt (v:= Zx (Zc (aY.J a))) 3 Z (λ _ ⟨_,p⟩=>JS Z (JW (cs:=(aY.J a)) C6 C5 ((p.ro n).elem aY.len l f6))) (qv 4 Z Z (qv 5 Z Z ?_)))))
 obtain⟨b,j⟩:=mI (ls:=l1) (i:=c) f4
 refine qt (v:= Zq (Zw ⟨ab s,ao s+c *6,Zv⟩)) 6 Z (λ _ ⟨_,p⟩=>JU (oD) Z Z ((p.ro t).addr (i:=c) Y) Y) (qt (v:= Zx (Zc (aY.J b))) 7 Z (λ _ ⟨_,p⟩=>JS Z (JW (cs:=(aY.J b)) C6 C5 ((p.ro t).elem aY.len j f6))) (qt (v:= Zb (¬ ((a.e=b.e)/\(a.f=b.f)/\(a.g=b.g)/\(a.a=b.a)/\(a.b=b.b)/\(a.j=b.j)))) 8 Z (λ _ _=>JZ (e:= !(Zy ((a.e=b.e)/\(a.f=b.f)/\(a.g=b.g)/\(a.a=b.a)/\(a.b=b.b)/\(a.j=b.j)))) (KD Z Z f1 Z (gB.struct Tryz.underlying68 f1 (Kv (fG.cons (u:=vI a.e) (v:=vI b.e) f6 Za Za (gB.int v8) (fG.cons (u:= Zz ⟨Zc a.f⟩) (v:= Zz ⟨Zc b.f⟩) f6 Za Za (gB.string v7) (fG.cons (u:= Zz ⟨Zc a.g⟩) (v:= Zz ⟨Zc b.g⟩) f6 Za Za (gB.string v7) (fG.cons (u:= Zz ⟨Zc a.a⟩) (v:= Zz ⟨Zc b.a⟩) f6 Za Za (gB.string v7) (fG.cons (u:= Zz ⟨Zc a.b⟩) (v:= Zz ⟨Zc b.b⟩) f6 Za Za (gB.string v7) (fG.cons (u:=vI a.j) (v:=vI b.j) f6 Za Za (gB.int v8) (fG.nil.up (Nb _)))))))) ((ZJ (Zy (a.e=b.e) && ·) ((ZJ (Zy (a.f=b.f) && ·) ((ZJ (Zy (a.g=b.g) && ·) ((ZJ (Zy (a.a=b.a) && ·) ((ZJ (Zy (a.b=b.b) && ·) kF).trans fI)).trans fI)).trans fI)).trans fI)).trans fI)))) ZY) (qn (JK ?_))))
 by_cases k:(a.e=b.e)/\(a.f=b.f)/\(a.g=b.g)/\(a.a=b.a)/\(a.b=b.b)/\(a.j=b.j)
 refine jF (dF (Nc k)) (J8 (bN (JK (JI (fw (vJ (c+1)) (JN (e:=B7.wrap ((c:Int)+1)) yk f3) (Mz Z (B8 ?_)))))))
 have L:=z.pk []
 exact JX (c+1) ⟨Z,Z,Z,Z,Z,ZW⟩ (g.2 ⟨L,Y,N (h) (N (ZJ (λ q=>gL l1 q c) m) (N (ae (bu j)) (ip k)))⟩) (by show X d - (c+1) < X d - c; omega)
 refine jT (dT k) (sr (An Z (rt (bR (tR (tR (bR (tR (rs ?_)))))))))
 have M:=z.pk []
 obtain rfl:_=J:=zj hr (N (ip f) (iJ (N (h) (N (ZJ (λ q=>gL l1 q c) m) (N (ae (bu j)) (iN k))))))
 exact⟨Z,M⟩
 refine jF (dF y) (B9 (JV ?_))
 have A:gL l1 d 0=y3 ():=N (h) (N (ZJ (λ q=>gL l1 q c) (eH (ls:=d) (i:=c) Y)) Z)
 refine JV (J2 (JK (sr (An Z (rt (rs ?_))))))
 have Z5:=o.pk []
 obtain rfl:_=Zk:=zj hr (N (ip f) (lD A))
 exact⟨Z,Z5⟩
 refine jT (dT f) (sr (An Z (rt (tR (rs ?_)))))
 have Z6:=H.pk []
 obtain rfl:=zj hr zq1
 exact⟨Z,Z6⟩
def rz (b:df) (c:df):Bool:=
 if((b.f:Nat):Int)=((c.f:Nat):Int) then bnd (mU b.a.a c.a.a) λ a=>a else J
theorem xg (w D) (f:df) (b i c) (g:df) (d j e G) (H:Own w D w []) (m:i=X f.a.a) (n:Ro w D λ w'=>bP w' 6 b (X f.a.a) (q0 aY.J f.a.a)) (z:X f.a.a<=c/\X f.a.a<=9223372036854775807) (o:j=X g.a.a) (p:Ro w D λ w'=>bP w' 6 d (X g.a.a) (q0 aY.J g.a.a)) (A:X g.a.a<=e/\X g.a.a<=9223372036854775807) (hr:rz f g=G):
    Calls v1 50 #[Zx #[vU f.f, W b i c], Zx #[vU g.f, W d j e]] w (dM λ v w'=>v= V G/\Own w D w' []):=by
 unfold rz at hr
 subst m o
 refine cb Tryz.func50 ?_
 refine sr ?_
 refine cu [vU f.f, W b (X f.a.a) c] 60 H ?_
 intro s Z7 B
 refine cu [vU g.f, W d (X g.a.a) e] 60 B ?_
 intro t K h
 refine Ar Z (Kz (vP s 0) (Lz (vU f.f) h 1 E3 (Kz (vP t 0) (Lz (vU g.f) h 0 E3 (Kz (Zb ((f.f:Int)=(g.f:Int))) (Mz Z ?_))))))
 by_cases a:(f.f:Int)=(g.f:Int)
 refine Gz (vP s 1) (dT a) (Gl (W b (X f.a.a) c) (dT a) h 1 E6 (Gz (vP t 1) (dT a) (Gl (W d (X g.a.a) e) (dT a) h 0 E6 ?_)))
 obtain⟨r,k⟩:∃ q,mU f.a.a g.a.a=q:=⟨_,Z⟩
 obtain⟨L,u,l,x,I⟩:=JJ h
 refine oC (dT a) Tryz.call51 (sJ _ _ b (X f.a.a) c f.a.a d (X g.a.a) e g.a.a r u (l _ n) Z Y (l _ p) Z Y k) ?_
 rintro _ M ⟨rfl,y⟩
 have C:=x _ _ y
 refine fw (V r) (JL Z (dT a) Z) (An Z (rt (rs ?_)))
 have E:=C.pk []
 obtain rfl:=zj hr zq2
 exact⟨Z,E⟩
 refine T (dF a) (T (dF a) (T (dF a) (T (dF a) (T (dF a) (fw (V J) (JH Z (dF a) Z) (An Z (rt (rs ?_))))))))
 have F:=h.pk []
 obtain rfl:=zj hr zq1
 exact⟨Z,F⟩
def dS (l1:List df):List df->Nat->Unit ⊕ Bool
  | [],b=>y3 ()
  | c::e,b=>bnd (y4 l1 b ZZ) λ a=>bnd (rz (df.q c.f (O c.a.a)) (df.q a.f (O a.a.a))) λ d=>if d=Zk then dS l1 e (b+1) else y6 (J)
def iX (a:List df) (l1:List df):Bool:=
 if((X a:Nat):Int)=((X l1:Nat):Int) then lp (dS l1 a 0) λ _=>Zk else J
theorem mD (w D C Z8 Z4 d0 f E Z3 Z9 S l1 r0) (H:Own w D w []) (F:r7 bf.abs d0=f) (u:Ro w D λ w'=>bP w' 2 C Z8 (q0 bf.J d0)) (G:∀ x ∈ d0,Ro w D (λ w'=>bP w' 6 x.a.A (X x.a.a) (q0 aY.J x.a.a))/\(X x.a.a<=x.a.c/\X x.a.a<=9223372036854775807)) (Z1:Z8=X f) (aF:X f<=9223372036854775807) (I:r7 bf.abs S=l1) (y:Ro w D λ w'=>bP w' 2 E Z3 (q0 bf.J S)) (Z7:∀ x ∈ S,Ro w D (λ w'=>bP w' 6 x.a.A (X x.a.a) (q0 aY.J x.a.a))/\(X x.a.a<=x.a.c/\X x.a.a<=9223372036854775807)) (Z2:Z3=X l1) (aG:X l1<=9223372036854775807) (hr:iX f l1=r0):
    Calls v1 54 #[W C Z8 Z4, W E Z3 Z9, .func (.func 50) #[] #[]] w (dM λ v w'=>v= V r0/\Own w D w' []):=by
 unfold iX at hr
 subst Z1 Z2
 have ay:=bg F
 have az:=bg I
 refine cb Tryz.func54 ?_
 refine sr (An Z (JG (sr (Mz Z (Kz (vJ (X f)) (Mz Z (Kz (vJ (X l1)) (fw (Zb (¬ ((X f:Int)=(X l1:Int)))) (JZ (e:= !(Zy ((X f:Int)=(X l1:Int)))) yk ZY) (nt ?_)))))))))
 by_cases j:(X f:Int)=(X l1:Int)
 refine jF (dF (Nc j)) (sk (JG (sr (Mz Z (Kz (vJ (X f)) (Mn Z (bo ?_)))))))
 have Z0:=H.pk []
 obtain⟨aa,k⟩:=mE λ (a:Nat) w'=>Own w D w' []/\a<=X f/\dS l1 f 0=dS l1 (r6 a f) a
 refine B4 (λ i:Nat=> [(6, V J),(17,vJ i),(16,vJ (X f)),(15, W C (X f) Z4),(1, W E (X l1) Z9),(2, .func (.func 50) #[] #[])]) aa (λ i=>X f - i) 0 ⟨Z,Z,Z,Z,Z,Z,ZW⟩ (k.2 ⟨Z0,Y,Z⟩) ?_
 rintro a aH K
 show Wp _ _ _ [(6, V J),(17,vJ a),(16,vJ (X f)),(15, W C (X f) Z4),(1, W E (X l1) Z9),(2, .func (.func 50) #[] #[])] _ _
 obtain⟨l,aA,m⟩:=k.1 K
 refine sr (Kz (Zb ((a:Int) < (X f:Int))) (nt (JG ?_)))
 by_cases L:(a:Int) < (X f:Int)
 obtain⟨b,g⟩:=dJ (ls:=d0) (i:=a) bf.len f6 (l.ro u) f4
 have M:=gq F g
 have aB:=(G _ (E1 g)).2
 have r:=drop_at M
 refine jT (dT L) (sk (JG (bo (sr (Mz Z (fw (Zq (Zw ⟨ab C,ao C+a *2,Zv⟩)) (JU (kH) Z Z ((l.ro u).addr (i:=a) Y) Y) (fw (Zx (Zc (bf.J b))) (JS Z (JW (cs:=(bf.J b)) R6 E2 ((l.ro u).elem bf.len g f6))) ?_)))))))
 refine cu [.int .u64 0, W Zv 0 0] 60 l ?_
 intro aI aJ af
 refine Az Z ?_
 refine cO (bf.J b) 0 af E2 ?_
 intro aK p
 refine ns (Mz Z (Mz Z ?_))
 obtain⟨d,h⟩:=dJ (ls:=S) (i:=a) bf.len f6 (p.ro y) f4
 have s:=gq I h
 have aC:=(Z7 _ (E1 h)).2
 refine fw (Zq (Zw ⟨ab E,ao E+a *2,Zv⟩)) (JU (kH) Z Z ((p.ro y).addr (i:=a) Y) Y) (fw (Zx (Zc (bf.J d))) (JS Z (JW (cs:=(bf.J d)) R6 E2 ((p.ro y).elem bf.len h f6))) ?_)
 refine cu [.int .u64 0, W Zv 0 0] 60 p ?_
 intro aL aM ag
 refine cO (bf.J d) 0 ag E2 ?_
 intro aN z
 refine ns (Mz Z (La (bf.J b) z 1 R6 E2 (La (bf.J d) z 0 R6 E2 ?_)))
 obtain⟨B,n⟩:∃ q,rz (df.q b.f (O b.a.a)) (df.q d.f (O d.a.a))=q:=⟨_,Z⟩
 obtain⟨aO,Z5,t,Z6,aD⟩:=JJ z
 refine WL.do Z (Kh Tryz.call50 Z Z (xg _ _ (df.q b.f (O b.a.a)) b.a.A (X b.a.a) b.a.c (df.q d.f (O d.a.a)) d.a.A (X d.a.a) d.a.c B Z5 Z (t _ (G _ (E1 g)).1) Y Z (t _ (Z7 _ (E1 h)).1) Y n) ?_)
 rintro _ aP ⟨rfl,P⟩
 have Q:=Z6 _ _ P
 refine Kz (V (!B)) (nt ?_)
 rcases Nf (B) with o | o
 refine jF (cn o) (J8 (bN (JK ?_)))
 have ah:=Q.pk []
 refine JI (fw (vJ (a+1)) (JN (e:=B7.wrap ((a:Int)+1)) yk f3) (Mz Z (B8 ?_)))
 have ai:=ah.pk []
 exact JX (a+1) ⟨Z,Z,Z,Z,Z,Z,ZW⟩ (k.2 ⟨ai,Y,N (m) (N (ZJ (λ q=>dS l1 q a) r) (N (ae (bu s)) (N (ae n) (ip o))))⟩) (by show X f - (a+1) < X f - a; omega)
 refine jT (cn o) (JG ?_)
 have aj:=Q.pk []
 refine JI (An Z (rt (bR (tR (tR (bR (tR (rs ?_))))))))
 have ak:=aj.pk []
 obtain rfl:_=J:=zj hr (N (ip j) (iJ (N (m) (N (ZJ (λ q=>dS l1 q a) r) (N (ae (bu s)) (N (ae n) (eP o)))))))
 exact⟨Z,ak⟩
 refine jF (dF L) (B9 (JV ?_))
 have R:dS l1 f 0=y3 ():=N (m) (N (ZJ (λ q=>dS l1 q a) (eH (ls:=f) (i:=a) Y)) Z)
 refine JV (J2 (JK (sr (An Z (rt (rs ?_))))))
 have au:=l.pk []
 obtain rfl:_=Zk:=zj hr (N (ip j) (lD R))
 exact⟨Z,au⟩
 refine jT (dT j) (sr (An Z (rt (tR (rs ?_)))))
 have av:=H.pk []
 obtain rfl:=zj hr zq1
 exact⟨Z,av⟩
def oM (a:bD) (b:bD):Bool:=
 if((a.r:Nat):Int)=((b.r:Nat):Int) then if((a.t:Nat):Int)=((b.t:Nat):Int) then if((a.s:Nat):Int)=((b.s:Nat):Int) then if((a.g:Nat):Int)=((b.g:Nat):Int) then if((a.k:Nat):Int)=((b.k:Nat):Int) then if((a.u:Nat):Int)=((b.u:Nat):Int) then if(a.j.a=b.j.a)/\(a.j.b=b.j.b) then if(((a.e.g:Nat):Int)=((b.e.g:Nat):Int))/\(((a.e.u:Nat):Int)=((b.e.u:Nat):Int))/\(((a.e.a:Nat):Int)=((b.e.a:Nat):Int))/\((a.e.j.a=b.e.j.a)/\(a.e.j.b=b.e.j.b)) then bnd (lK a.b.a b.b.a) λ c=>if c=Zk then bnd (mR a.f.a b.f.a) λ d=>if d=Zk then bnd (iX a.a.a b.a.a) λ e=>e else J else J else J else J else J else J else J else J else J else J
theorem ui (w D) (a:bD) (y Z0 z B aa C Z5 E af F) (b:bD) (G ag I Z7 ah K Z6 L ai M r0) (H:Own w D w []) (ax:Z0=X a.b.a) (ay:Ro w D λ w'=>bP w' 2 y (X a.b.a) (q0 bO.J a.b.a)) (bn:X a.b.a<=z/\X a.b.a<=9223372036854775807) (S:r7 bf.abs Z5=a.a.a) (az:aa=X a.a.a) (aA:Ro w D λ w'=>bP w' 2 B (X a.a.a) (q0 bf.J Z5)) (bq:X a.a.a<=C/\X a.a.a<=9223372036854775807) (Z8:∀ x ∈ Z5,Ro w D (λ w'=>bP w' 6 x.a.A (X x.a.a) (q0 aY.J x.a.a))/\(X x.a.a<=x.a.c/\X x.a.a<=9223372036854775807)) (aB:af=X a.f.a) (aC:Ro w D λ w'=>bP w' 1 E (X a.f.a) (q0 (eN .u64) a.f.a)) (bu:X a.f.a<=F/\X a.f.a<=9223372036854775807) (aD:ag=X b.b.a) (aF:Ro w D λ w'=>bP w' 2 G (X b.b.a) (q0 bO.J b.b.a)) (bv:X b.b.a<=I/\X b.b.a<=9223372036854775807) (Z4:r7 bf.abs Z6=b.a.a) (aG:ah=X b.a.a) (aH:Ro w D λ w'=>bP w' 2 Z7 (X b.a.a) (q0 bf.J Z6)) (bz:X b.a.a<=K/\X b.a.a<=9223372036854775807) (Z3:∀ x ∈ Z6,Ro w D (λ w'=>bP w' 6 x.a.A (X x.a.a) (q0 aY.J x.a.a))/\(X x.a.a<=x.a.c/\X x.a.a<=9223372036854775807)) (aI:ai=X b.f.a) (aJ:Ro w D λ w'=>bP w' 1 L (X b.f.a) (q0 (eN .u64) b.f.a)) (bA:X b.f.a<=M/\X b.f.a<=9223372036854775807) (hr:oM a b=r0):
    Calls v1 23 #[Zx (Zc (gX a.l a.r a.t a.s a.g y Z0 z B aa C E af F a.k a.u a.j.a a.j.b a.e.g a.e.u a.e.a a.e.j.a a.e.j.b)), Zx (Zc (gX b.l b.r b.t b.s b.g G ag I Z7 ah K L ai M b.k b.u b.j.a b.j.b b.e.g b.e.u b.e.a b.e.j.a b.e.j.b))] w (dM λ v w'=>v= V r0/\Own w D w' []):=by
 unfold oM at hr
 subst ax az aB aD aG aI
 have aZ:=bg S
 have bi:=bg Z4
 refine cb Tryz.func23 ?_
 refine sr ?_
 refine cu (iL a y z B C E F) 41 H ?_
 intro r bW bB
 refine cu (iL b G I Z7 K L M) 41 bB ?_
 intro s bX d
 refine An Z (JG (sr (Kz (vP r 1) (Lz (vU a.r) d 1 E3 (Kz (vP s 1) (Lz (vU b.r) d 0 E3 (fw (Zb (¬ ((a.r:Int)=(b.r:Int)))) (JZ (e:= !(Zy ((a.r:Int)=(b.r:Int)))) yk ZY) (Mz Z ?_))))))))
 by_cases f:(a.r:Int)=(b.r:Int)
 refine gw (vP r 2) (dF (Nc f)) yk (gw (vU a.t) (dF (Nc f)) (JS Z (bT.one E3 (Kk (d.cls (i:=1) Z) Z))) (gw (vP s 2) (dF (Nc f)) yk (gw (vU b.t) (dF (Nc f)) (JS Z (bT.one E3 (Kk (d.cls (i:=0) Z) Z))) (gw (Zb (¬ ((a.t:Int)=(b.t:Int)))) (dF (Nc f)) (JZ (e:= !(Zy ((a.t:Int)=(b.t:Int)))) yk ZY) (fw (Zb (¬ ((a.t:Int)=(b.t:Int)))) (JH Z (dF (Nc f)) Z) (Mz Z ?_))))))
 by_cases g:(a.t:Int)=(b.t:Int)
 refine gw (vP r 3) (dF (Nc g)) yk (gw (vU a.s) (dF (Nc g)) (JS Z (bT.one E3 (Kk (d.cls (i:=1) Z) Z))) (gw (vP s 3) (dF (Nc g)) yk (gw (vU b.s) (dF (Nc g)) (JS Z (bT.one E3 (Kk (d.cls (i:=0) Z) Z))) (gw (Zb (¬ ((a.s:Int)=(b.s:Int)))) (dF (Nc g)) (JZ (e:= !(Zy ((a.s:Int)=(b.s:Int)))) yk ZY) (fw (Zb (¬ ((a.s:Int)=(b.s:Int)))) (JH Z (dF (Nc g)) Z) (Mz Z ?_))))))
 by_cases h:(a.s:Int)=(b.s:Int)
 refine gw (vP r 4) (dF (Nc h)) yk (gw (vU a.g) (dF (Nc h)) (JS Z (bT.one E3 (Kk (d.cls (i:=1) Z) Z))) (gw (vP s 4) (dF (Nc h)) yk (gw (vU b.g) (dF (Nc h)) (JS Z (bT.one E3 (Kk (d.cls (i:=0) Z) Z))) (gw (Zb (¬ ((a.g:Int)=(b.g:Int)))) (dF (Nc h)) (JZ (e:= !(Zy ((a.g:Int)=(b.g:Int)))) yk ZY) (fw (Zb (¬ ((a.g:Int)=(b.g:Int)))) (JH Z (dF (Nc h)) Z) (nt ?_))))))
 by_cases t:(a.g:Int)=(b.g:Int)
 refine jF (dF (Nc t)) (sk (JG (sr (Kz (vP r 8) (Lz (vU a.k) d 1 E3 (Kz (vP s 8) (Lz (vU b.k) d 0 E3 (fw (Zb (¬ ((a.k:Int)=(b.k:Int)))) (JZ (e:= !(Zy ((a.k:Int)=(b.k:Int)))) yk ZY) (Mz Z ?_)))))))))
 by_cases j:(a.k:Int)=(b.k:Int)
 refine gw (vP r 9) (dF (Nc j)) yk (gw (vU a.u) (dF (Nc j)) (JS Z (bT.one E3 (Kk (d.cls (i:=1) Z) Z))) (gw (vP s 9) (dF (Nc j)) yk (gw (vU b.u) (dF (Nc j)) (JS Z (bT.one E3 (Kk (d.cls (i:=0) Z) Z))) (gw (Zb (¬ ((a.u:Int)=(b.u:Int)))) (dF (Nc j)) (JZ (e:= !(Zy ((a.u:Int)=(b.u:Int)))) yk ZY) (fw (Zb (¬ ((a.u:Int)=(b.u:Int)))) (JH Z (dF (Nc j)) Z) (Mz Z ?_))))))
 by_cases l:(a.u:Int)=(b.u:Int)
 refine gw (vP r 10) (dF (Nc l)) yk (gw (Zx (Zc (au.J a.j))) (dF (Nc l)) (JS Z (JW (cs:=(au.J a.j)) D0 C7 ((d.cls (i:=1) Z).lit (k:=10) (m:=2) Z))) (gw (vP s 10) (dF (Nc l)) yk (gw (Zx (Zc (au.J b.j))) (dF (Nc l)) (JS Z (JW (cs:=(au.J b.j)) D0 C7 ((d.cls (i:=0) Z).lit (k:=10) (m:=2) Z))) (gw (Zb (¬ ((a.j.a=b.j.a)/\(a.j.b=b.j.b)))) (dF (Nc l)) (JZ (e:= !(Zy ((a.j.a=b.j.a)/\(a.j.b=b.j.b)))) (KD Z Z f1 Z (gB.struct y2 f1 (Kv (fG.cons (u:= Zz ⟨Zc a.j.a⟩) (v:= Zz ⟨Zc b.j.a⟩) f6 Za Za (gB.string v7) (fG.cons (u:= Zz ⟨Zc a.j.b⟩) (v:= Zz ⟨Zc b.j.b⟩) f6 Za Za (gB.string v7) (fG.nil.up (Nb _)))) ((ZJ (Zy (a.j.a=b.j.a) && ·) kF).trans fI)))) ZY) (fw (Zb (¬ ((a.j.a=b.j.a)/\(a.j.b=b.j.b)))) (JH Z (dF (Nc l)) Z) (Mz Z ?_))))))
 by_cases n:(a.j.a=b.j.a)/\(a.j.b=b.j.b)
 refine gw (vP r 12) (dF (Nc n)) yk (gw (Zx (Zc (jd.J a.e))) (dF (Nc n)) (JS Z (JW (cs:=(jd.J a.e)) Tryz.isAgg39 Tryz.sizeOf39 ((d.cls (i:=1) Z).lit (k:=12) (m:=5) Z))) (gw (vP s 12) (dF (Nc n)) yk (gw (Zx (Zc (jd.J b.e))) (dF (Nc n)) (JS Z (JW (cs:=(jd.J b.e)) Tryz.isAgg39 Tryz.sizeOf39 ((d.cls (i:=0) Z).lit (k:=12) (m:=5) Z))) (gw (Zb (¬ (((a.e.g:Int)=(b.e.g:Int))/\((a.e.u:Int)=(b.e.u:Int))/\((a.e.a:Int)=(b.e.a:Int))/\((a.e.j.a=b.e.j.a)/\(a.e.j.b=b.e.j.b))))) (dF (Nc n)) (JZ (e:= !(Zy (((a.e.g:Int)=(b.e.g:Int))/\((a.e.u:Int)=(b.e.u:Int))/\((a.e.a:Int)=(b.e.a:Int))/\((a.e.j.a=b.e.j.a)/\(a.e.j.b=b.e.j.b))))) (KD Z Z f1 Z (gB.struct Tryz.underlying39 f1 (Kv (fG.cons (u:=vU a.e.g) (v:=vU b.e.g) f6 Za Za ((gB.int F2).up f6) (fG.cons (u:=vU a.e.u) (v:=vU b.e.u) f6 Za Za ((gB.int F2).up f6) (fG.cons (u:=vU a.e.a) (v:=vU b.e.a) f6 Za Za ((gB.int F2).up f6) (fG.cons (u:= Zx (Zc (au.J a.e.j))) (v:= Zx (Zc (au.J b.e.j))) f6 Za Za (gB.struct y2 f1 (Kv (fG.cons (u:= Zz ⟨Zc a.e.j.a⟩) (v:= Zz ⟨Zc b.e.j.a⟩) f6 Za Za (gB.string v7) (fG.cons (u:= Zz ⟨Zc a.e.j.b⟩) (v:= Zz ⟨Zc b.e.j.b⟩) f6 Za Za (gB.string v7) (fG.nil.up (Nb _)))) ((ZJ (Zy (a.e.j.a=b.e.j.a) && ·) kF).trans fI))) (fG.nil.up (Nb _)))))) ((ZJ (Zy ((a.e.g:Int)=(b.e.g:Int)) && ·) ((ZJ (Zy ((a.e.u:Int)=(b.e.u:Int)) && ·) ((ZJ (Zy ((a.e.a:Int)=(b.e.a:Int)) && ·) kF).trans fI)).trans fI)).trans fI)))) ZY) (fw (Zb (¬ (((a.e.g:Int)=(b.e.g:Int))/\((a.e.u:Int)=(b.e.u:Int))/\((a.e.a:Int)=(b.e.a:Int))/\((a.e.j.a=b.e.j.a)/\(a.e.j.b=b.e.j.b))))) (JH Z (dF (Nc n)) Z) (nt ?_))))))
 by_cases R:((a.e.g:Int)=(b.e.g:Int))/\((a.e.u:Int)=(b.e.u:Int))/\((a.e.a:Int)=(b.e.a:Int))/\((a.e.j.a=b.e.j.a)/\(a.e.j.b=b.e.j.b))
 refine jF (dF (Nc R)) (sk (sr (Ar Z (Kz (vP r 5) (Lz (W y (X a.b.a) z) d 1 R7 (Kz (vP s 5) (Lz (W G (X b.b.a) I) d 0 R7 ?_)))))))
 obtain⟨aM,P⟩:∃ q,lK a.b.a b.b.a=q:=⟨_,Z⟩
 obtain⟨bY,aN,aj,aO,bS⟩:=JJ d
 refine cl Tryz.call52 (qC _ _ y (X a.b.a) z a.b.a G (X b.b.a) I b.b.a aM aN (aj _ ay) Z Y (aj _ aF) Z Y P) ?_
 rintro _ bZ ⟨rfl,aP⟩
 have Z1:=aO _ _ aP
 refine Mz Z ?_
 rcases Nf (aM) with p | p
 refine Gz (vP r 7) p (Gl (W E (X a.f.a) F) p Z1 1 E4 (Gz (vP s 7) p (Gl (W L (X b.f.a) M) p Z1 0 E4 ?_)))
 obtain⟨aK,Z9⟩:∃ q,mR a.f.a b.f.a=q:=⟨_,Z⟩
 obtain⟨cz,aQ,ak,aR,bU⟩:=JJ Z1
 refine KF Z Z p Z (J6 Tryz.call53 Z (sI _ _ E (X a.f.a) F a.f.a L (X b.f.a) M b.f.a aK aQ (ak _ aC) Z Y (ak _ aJ) Z Y Z9) ?_)
 rintro _ cB ⟨rfl,aS⟩
 have Z2:=aR _ _ aS
 refine fw (V aK) (JL Z p Z) (Mz Z ?_)
 rcases Nf (aK) with o | o
 refine Gz (vP r 6) o (Gl (W B (X a.a.a) C) o Z2 1 E0 (Gz (vP s 6) o (Gl (W Z7 (X b.a.a) K) o Z2 0 E0 (Kj (v:= .func (.func 50) #[] #[]) Z Z o Z (JM Z) ?_))))
 obtain⟨aL,av⟩:∃ q,iX a.a.a b.a.a=q:=⟨_,Z⟩
 obtain⟨cK,aT,Q,aU,bV⟩:=JJ Z2
 refine KF Z Z o Z (J6 Tryz.call54 Z (mD _ _ B (X a.a.a) C Z5 a.a.a Z7 (X b.a.a) K Z6 b.a.a aL aT S (Q _ aA) (λ x9 h9=>⟨Q _ (Z8 x9 h9).1,(Z8 x9 h9).2⟩) Z Y Z4 (Q _ aH) (λ x9 h9=>⟨Q _ (Z3 x9 h9).1,(Z3 x9 h9).2⟩) Z Y av) ?_)
 rintro _ cO ⟨rfl,aX⟩
 have bC:=aU _ _ aX
 refine fw (V aL) (JL Z o Z) (An Z (rt (rs ?_)))
 have bE:=bC.pk []
 obtain rfl:=zj hr zq13
 exact⟨Z,bE⟩
 refine T o (T o (T o (T o (T o (T o (fw (V J) (JH Z o Z) (An Z (rt (rs ?_)))))))))
 have bF:=Z2.pk []
 obtain rfl:=zj hr zq12
 exact⟨Z,bF⟩
 refine T p (T p (T p (T p (T p (fw (V J) (JH Z p Z) (Mz Z (T Z (T Z (T Z (T Z (T Z (T Z (fw (V J) (JH Z Z Z) (An Z (rt (rs ?_))))))))))))))))
 have bG:=Z1.pk []
 obtain rfl:=zj hr zq10
 exact⟨Z,bG⟩
 refine jT (dT R) (sr (An Z (rt (tR (rs ?_)))))
 have bH:=d.pk []
 obtain rfl:=zj hr zq8
 exact⟨Z,bH⟩
 refine T (dT n) (T (dT n) (T (dT n) (T (dT n) (T (dT n) (fw (V Zk) (JL Z (dT n) Z) (nt (jt (sr (An Z (rt (tR (rs ?_))))))))))))
 have bI:=d.pk []
 obtain rfl:=zj hr zq7
 exact⟨Z,bI⟩
 refine T (dT l) (T (dT l) (T (dT l) (T (dT l) (T (dT l) (fw (V Zk) (JL Z (dT l) Z) (Mz Z (T Z (T Z (T Z (T Z (T Z (fw (V Zk) (JL Z Z Z) (nt (jt (sr (An Z (rt (tR (rs ?_)))))))))))))))))))
 have bJ:=d.pk []
 obtain rfl:=zj hr zq6
 exact⟨Z,bJ⟩
 refine T (dT j) (T (dT j) (T (dT j) (T (dT j) (T (dT j) (fw (V Zk) (JL Z (dT j) Z) (Mz Z (T Z (T Z (T Z (T Z (T Z (fw (V Zk) (JL Z Z Z) (Mz Z (T Z (T Z (T Z (T Z (T Z (fw (V Zk) (JL Z Z Z) (nt (jt (sr (An Z (rt (tR (rs ?_))))))))))))))))))))))))))
 have bK:=d.pk []
 obtain rfl:=zj hr zq5
 exact⟨Z,bK⟩
 refine jT (dT t) (sr (An Z (rt (tR (rs ?_)))))
 have bL:=d.pk []
 obtain rfl:=zj hr zq4
 exact⟨Z,bL⟩
 refine T (dT h) (T (dT h) (T (dT h) (T (dT h) (T (dT h) (fw (V Zk) (JL Z (dT h) Z) (nt (jt (sr (An Z (rt (tR (rs ?_))))))))))))
 have bM:=d.pk []
 obtain rfl:=zj hr zq3
 exact⟨Z,bM⟩
 refine T (dT g) (T (dT g) (T (dT g) (T (dT g) (T (dT g) (fw (V Zk) (JL Z (dT g) Z) (Mz Z (T Z (T Z (T Z (T Z (T Z (fw (V Zk) (JL Z Z Z) (nt (jt (sr (An Z (rt (tR (rs ?_)))))))))))))))))))
 have bN:=d.pk []
 obtain rfl:=zj hr zq2
 exact⟨Z,bN⟩
 refine T (dT f) (T (dT f) (T (dT f) (T (dT f) (T (dT f) (fw (V Zk) (JL Z (dT f) Z) (Mz Z (T Z (T Z (T Z (T Z (T Z (fw (V Zk) (JL Z Z Z) (Mz Z (T Z (T Z (T Z (T Z (T Z (fw (V Zk) (JL Z Z Z) (nt (jt (sr (An Z (rt (tR (rs ?_))))))))))))))))))))))))))
 have bQ:=d.pk []
 obtain rfl:=zj hr zq1
 exact⟨Z,bQ⟩
def iQ (a:bD):bD:=
 a
set_option maxHeartbeats 1000000 in
theorem mG (w D) (a:bD) (p Z3 r s Z9 t b u Z1 z) (Z2:bD) (H:Own w D w []) (aj:Z3=X a.b.a) (ak:Ro w D λ w'=>bP w' 2 p (X a.b.a) (q0 bO.J a.b.a)) (bF:X a.b.a<=r/\X a.b.a<=9223372036854775807) (Z7:r7 bf.abs b=a.a.a) (au:Z9=X a.a.a) (av:Ro w D λ w'=>bP w' 2 s (X a.a.a) (q0 bf.J b)) (bG:X a.a.a<=t/\X a.a.a<=9223372036854775807) (M:∀ x ∈ b,Ro w D (λ w'=>bP w' 6 x.a.A (X x.a.a) (q0 aY.J x.a.a))/\(X x.a.a<=x.a.c/\X x.a.a<=9223372036854775807)) (ax:Z1=X a.f.a) (ay:Ro w D λ w'=>bP w' 1 u (X a.f.a) (q0 (eN .u64) a.f.a)) (bH:X a.f.a<=z/\X a.f.a<=9223372036854775807) (dx:X a.b.a<=1000000/\X a.a.a<=1000000/\X a.f.a<=1000000) (bJ:(∀ x ∈ a.a.a,X x.a.a<=1000000)) (hr:iQ a=Z2):
    Calls v1 18 #[Zx (Zc (gX a.l a.r a.t a.s a.g p Z3 r s Z9 t u Z1 z a.k a.u a.j.a a.j.b a.e.g a.e.u a.e.a a.e.j.a a.e.j.b))] w (dM λ v w'=> ∃ Z0 aa ae af ag ah Z5,v= Zx (Zc (iL Z2 Z0 aa ae af ag ah))/\Own w D w' [row Z0 (X Z2.b.a) aa (q0 bO.J Z2.b.a) 83 2,row ae (X Z2.a.a) af (q0 bf.J Z5) 60 2,sepL (q0 J9 Z5),row ag (X Z2.f.a) ah (q0 (eN .u64) Z2.f.a) 32 1]/\(r7 bf.abs Z5=Z2.a.a)):=by
 subst aj au ax
 have bC:=bg Z7
 refine cb Tryz.func18 ?_
 refine sr ?_
 refine cu (iL a p r s t u z) 41 H ?_
 intro d dz bK
 refine cu (gX 0 0 0 0 0 Zv 0 0 Zv 0 0 Zv 0 0 0 0 [] [] 0 0 0 [] []) 41 bK ?_
 intro Z4 dA aA
 refine ns (Kz (vP d 5) (Lz (W p (X a.b.a) r) aA 1 R7 ?_))
 obtain⟨dB,aB,aC,aD,cB⟩:=JJ aA
 refine cl Tryz.call33 (qB _ _ p (X a.b.a) r a.b.a a.b.a aB (aC _ ak) Z Y Z) ?_
 rintro _ dC ⟨B,C,rfl,aF⟩
 have aG:=aD _ _ aF
 have cK:=aG.rowC (i:=0) Z
 refine Kz (vP d 5) ?_
 have bL:=aG.pf [2]
 refine cO [W B (X a.b.a) C] 5 bL Tryz.sizeOf33 ?_
 intro dD aH
 refine ns (Kz (vP d 7) (Lz (W u (X a.f.a) z) aH 0 E4 ?_))
 obtain⟨dE,aI,aJ,aK,cZ⟩:=JJ aH
 refine cl Tryz.call34 (sH _ _ u (X a.f.a) z a.f.a a.f.a aI (aJ _ ay) Z Y Z) ?_
 rintro _ dG ⟨E,F,rfl,aL⟩
 have aM:=aK _ _ aL
 have df:=aM.rowC (i:=0) Z
 refine Kz (vP d 7) ?_
 have bM:=aM.pf [1]
 refine cO [W E (X a.f.a) F] 7 bM R8 ?_
 intro dH aN
 refine ns (Kz (vP d 6) (Lz (W s (X a.a.a) t) aN 0 E0 ?_))
 obtain⟨dI,aO,aP,aQ,dh⟩:=JJ aN
 refine cl Tryz.call35 (qW _ _ s _ t b b aO (aP _ av) Y Y Z) ?_
 rintro _ dJ ⟨h,n,rfl,aR⟩
 have bQ:=aQ _ _ aR
 refine Kz (vP d 6) ?_
 have bR:=bQ.pf [1]
 refine cO [W h (X b) n] 6 bR Tryz.sizeOf34 ?_
 intro dK aS
 refine nt (JG (sr (Kz (vP d 6) (Lz (W h (X b) n) aS 0 E0 (Kz (vJ (X b)) (Mn Z (bo ?_)))))))
 have bS:=aS.pb [1]
 have bU:=(bS.sepNil).pick [1,2,3,4,5,0] f6 Z
 refine B4 (ι:=Nat × (List bf)) (λ i=> [(19,vJ i.1),(18,vJ (X b)),(17, W h (X b) n),(16,vP d 6),(15,vP d 6),(14, W h (X b) n),(13, W s (X a.a.a) t),(12,vP d 6),(11,vP d 7),(10, W E (X a.f.a) F),(9, W u (X a.f.a) z),(8,vP d 7),(7,vP d 5),(6, W B (X a.b.a) C),(5, W p (X a.b.a) r),(4,vP d 5),(2,vP Z4 0),(1,vP d 0),(0, Zx (Zc (iL a p r s t u z)))]) (fun(i:Nat × (List bf)) w'=>Own w D w' [blk d (gX a.l a.r a.t a.s a.g B (X a.b.a) C h (X b) n E (X a.f.a) F a.k a.u a.j.a a.j.b a.e.g a.e.u a.e.a a.e.j.a a.e.j.b) 41,row E (X a.f.a) F (q0 (eN .u64) a.f.a) 32 1,row B (X a.b.a) C (q0 bO.J a.b.a) 83 2,blk Z4 (gX 0 0 0 0 0 Zv 0 0 Zv 0 0 Zv 0 0 0 0 [] [] 0 0 0 [] []) 41,row h (X b) n (q0 bf.J (i.2++r6 i.1 b)) 60 2,sepL (q0 J9 i.2)]/\(i.1<=X b/\X i.2=i.1/\r7 bf.abs i.2=r7 bf.abs (t8 i.1 b))) (λ i=>X b - i.1) (0, []) ⟨Z,Z,Z,Z,Z,Z,Z,Z,Z,Z,Z,Z,Z,Z,Z,Z,Z,Z,Z,ZW⟩ ⟨bU,(show 0<=X b/\X []=0/\r7 bf.abs []=r7 bf.abs (t8 0 b) from ⟨Y,Z,Z⟩)⟩ ?_
 rintro ⟨g,l⟩ dL ⟨aT,Z6⟩
 show Wp _ _ _ [(19,vJ g),(18,vJ (X b)),(17, W h (X b) n),(16,vP d 6),(15,vP d 6),(14, W h (X b) n),(13, W s (X a.a.a) t),(12,vP d 6),(11,vP d 7),(10, W E (X a.f.a) F),(9, W u (X a.f.a) z),(8,vP d 7),(7,vP d 5),(6, W B (X a.b.a) C),(5, W p (X a.b.a) r),(4,vP d 5),(2,vP Z4 0),(1,vP d 0),(0, Zx (Zc (iL a p r s t u z)))] _ _
 replace Z6:g<=X b/\X l=g/\r7 bf.abs l=r7 bf.abs (t8 g b):=Z6
 obtain⟨di,az,P⟩:=Z6
 refine sr (Kz (Zb ((g:Int) < (X b:Int))) (nt (JG ?_)))
 by_cases aU:(g:Int) < (X b:Int)
 refine jT (dT aU) (sk (JG (bo (sr (Mz Z (An Z ?_))))))
 obtain⟨j,I⟩:∃ q,b[g]? =Zw q:=⟨_,p2 Y⟩
 have Q:(l++r6 g b)[g]? =Zw j:=Hf Y I
 have dm:=(M _ (E1 I)).2
 have dn:X j.a.a<=1000000:=by have q9:=bJ _ (E1 (gq Z7 I)); exact q9
 refine Ji [12] (bI.block (JP (JP (bI.block (JP J3))))) aT ?_
 intro dN bV
 refine qp d 6 0 Z (ql 1 Z 0 E0 Z Z Z (qv 2 Z Z (qp d 6 3 Z (ql 4 Z 0 E0 Z Z Z (qv 5 Z Z (qt (v:= Zq (Zw ⟨ab h,ao h+g *2,Zv⟩)) 6 Z (λ _ ⟨_,H9⟩=>JU (kH) Z Z ((H9.rds (i:=4) Z).addr (i:=g) Y) Y) (qk (Zq (Zw ⟨ab h,ao h+g *2+1,Zv⟩)) 7 Z (qt (v:= W j.a.A (X j.a.a) j.a.c) 8 Z (λ _ ⟨_,H9⟩=>JS Z (bT.one E6 (((H9.rds (i:=4) Z).elem bf.len Q f6).at_ (k:=1) Z))) ?_))))))))
 obtain⟨dO,aW,aX,aZ,dw⟩:=JJ bV
 refine qd 9 Z (J6 Tryz.call36 Z (jb _ _ j.a.A (X j.a.a) j.a.c j.a.a j.a.a aW (aX _ (M _ (E1 I)).1) Z Y Z) ?_)
 rintro _ dP ⟨K,L,rfl,bi⟩
 have bW:=aZ _ _ bi
 have bn:=bW.pb [0]
 refine⟨.inr ⟨_,bn⟩, ?_⟩
 refine qt (v:= Zq (Zw ⟨ab h,ao h+g *2,Zv⟩)) 10 Z (λ _ ⟨_,H9⟩=>JU (kH) Z Z ((H9.rds (i:=4) Z).addr (i:=g) Y) Y) (qk (Zq (Zw ⟨ab h,ao h+g *2+1,Zv⟩)) 11 Z ?_)
 have bX:=bn.pf [4]
 refine qe 12 Z (Do.storeRow (vs:= [W K (X j.a.a) L]) (o:=g *2+1) (q:=ao h+g *2+1) bX Z Y Z Tryz.sizeOf44 Z Z (M9 Z) (jG bf.len Q (M9 Z)) (kE (y:=(bf.q j.f (O6 K L j.a.a))) bf.len Z (M9 Z) Q) ?_)
 intro bY bZ
 refine⟨.inl f1, ?_⟩
 refine qn (bN (JK (JI (fw (vJ (g+1)) (JN (e:=B7.wrap ((g:Int)+1)) yk f3) (Mz Z (B8 ?_))))))
 have bq:=bZ.px [6,5] [] [0]
 have bu:Own w D bY (sepL (q0 J9 (l++ [(bf.q j.f (O6 K L j.a.a))]))::_):=F6 (f:=J9) (es:=l) (y:=(bf.q j.f (O6 K L j.a.a))) bq
 have ai:=bu.pk [1,2,3,4,5,0]
 rw [F7 _ Y Y] at ai
 exact JX (g+1,l++ [(bf.q j.f (O6 K L j.a.a))]) ⟨Z,Z,Z,Z,Z,Z,Z,Z,Z,Z,Z,Z,Z,Z,Z,Z,Z,Z,Z,ZW⟩ ⟨ai,(show (g+1)<=X b/\X (l++ [(bf.q j.f (O6 K L j.a.a))])=(g+1)/\r7 bf.abs (l++ [(bf.q j.f (O6 K L j.a.a))])=r7 bf.abs (t8 (g+1) b) from ⟨Y,by simp [az],F8 (f:=bf.abs) P I Z⟩)⟩ (by show X b - (g+1) < X b - g; omega)
 refine jF (dF aU) (B9 (JV (JV (J2 (JK (sr ?_))))))
 have R:r7 bf.abs l=a.a.a:=by rw [P,List.take_of_length_le Y]; exact Z7
 have S:=aT
 rw [List.drop_eq_nil_of_le Y,List.append_nil] at S
 have cz:=bg R
 refine La (gX a.l a.r a.t a.s a.g B (X a.b.a) C h (X b) n E (X a.f.a) F a.k a.u a.j.a a.j.b a.e.g a.e.u a.e.a a.e.j.a a.e.j.b) S 0 Tryz.isAgg41 F1 ?_
 have bv:=S.pf [3]
 refine cO (gX a.l a.r a.t a.s a.g B (X a.b.a) C h (X b) n E (X a.f.a) F a.k a.u a.j.a a.j.b a.e.g a.e.u a.e.a a.e.j.a a.e.j.b) 0 bv F1 ?_
 intro bz Z8
 refine nt (rt (JY (pV Z Z (JW (cs:=(gX a.l a.r a.t a.s a.g B (X a.b.a) C h (X b) n E (X a.f.a) F a.k a.u a.j.a a.j.b a.e.g a.e.u a.e.a a.e.j.a a.e.j.b)) Tryz.isAgg41 F1 ((Z8.cls (i:=0) Z).lit (k:=0) (m:=17) Z))) ?_))
 have G:X b=X a.a.a:=by first | omega | (simp only [N1]; done) | (simp only [N1,o2,q5,L3,o0,o1,List.length_replicate]; omega)
 have bA:Own w D bz [blk Z4 (iL a B C h n E F) 41,blk d (iL a B C h n E F) 41,row E (X a.f.a) F (q0 (eN .u64) a.f.a) 32 1,row B (X a.b.a) C (q0 bO.J a.b.a) 83 2,row h (X a.a.a) n (q0 bf.J l) 60 2,sepL (q0 J9 l)]:=by first | (rw [<- G]; exact Z8) | (have q9:=Z8; rw [G] at q9; exact q9)
 have bB:=bA.pk [3,4,5,2]
 obtain rfl:_=a:=zj hr Z
 exact⟨B,C,h,n,E,F,l,(by first | rfl | (rw [<- G]; done) | (rw [<- G]; rfl) | (rw [G]; first | done | rfl)),bB,R⟩
structure nK where q::
 a:Sv ay
def nK.J (x:nK):List ZX:= [W x.a.A (X x.a.a) x.a.c]
instance:Bk nK:=⟨λ x _=>bk x.a+(0)⟩
theorem nK.len:∀ x,X (nK.J x)=1:=λ _=>rfl
theorem nK.one:∀ x, ∀ u ∈ nK.J x,u.oneCell'=Zk:=λ x u hu=>by
 simp only [nK.J,u5,v6,or_false] at hu
 rcases hu with rfl <;> rfl
def M0 (w:ZQ) (x:nK):Prop:=(nA w 2 32 ay.J (K3 w) x.a)
instance:Inhabited nK:=⟨⟨ZZ⟩⟩
structure StoreT where q::
 a:Ll ay
instance:Inhabited StoreT:=⟨⟨ZZ⟩⟩
def nK.abs (x:nK):StoreT:=⟨⟨x.a.a⟩⟩
def MQ (x:nK):List HP:= [row x.a.A (X x.a.a) x.a.c (q0 ay.J x.a.a) 101 2]
def pq (b:StoreT) (c:List UInt8):(List UInt8) × Bool × Int:=
 bnd (nH b.a.a c) λ a=>(a.1,a.2,0)
theorem y8 (w D h) (c:StoreT) (a b m s t n) (H:Own w D w [blk h [W a (X c.a.a) b] 27]) (e:Ro w D λ w'=>bP w' 2 a (X c.a.a) (q0 ay.J c.a.a)) (o:X c.a.a<=b/\X c.a.a<=9223372036854775807) (x:X c.a.a<=4000) (hr:pq c m=(s,t,n)):
    Calls v1 252 #[vP h 0, Zz ⟨Zc m⟩] w (dM λ v w'=>v= .tuple #[Zz ⟨Zc s⟩, V t,vI n]/\Own w D w' [blk h [W a (X c.a.a) b] 27]/\(n=0)):=by
 refine cb Tryz.func252 ?_
 refine sr (Az Z (Az Z (Ar Z (Mz Z (Kz (vP h 0) (Kz (vP h 0) (Lz (W a (X c.a.a) b) H 0 Tryz.isAgg25 (Mz Z ?_))))))))
 obtain⟨⟨f,g⟩,d⟩:∃ q:(List UInt8) × Bool,nH c.a.a m=q:=⟨_,Z⟩
 obtain⟨y,i,j,k,u⟩:=JJ H
 refine cl Tryz.call56 (yL _ _ a (X c.a.a) b c.a.a m f g i (j _ e) Z Y d) ?_
 rintro _ z ⟨rfl,l⟩
 have p:=k _ _ l
 refine Mz Z (Kz (Zz ⟨Zc f⟩) (Kz (V g) (Az Z (Ar Z (Mz Z (Mz Z (Az Z (Az Z (An Z (rt (JY (yN Z Z Z Z) ?_)))))))))))
 have r:=p.pf []
 obtain⟨rfl,rfl,rfl⟩:=zt (zj hr (show _=(f,g,0) from ae d))
 exact⟨Z,r,(by rfl)⟩
def oN (b:StoreT) (c:au) (d:Int):(List ay) × Int:=
 bnd (nu b.a.a c d) λ a=>(a,0)
theorem yG (w D j) (d:StoreT) (a b) (g:au) (z l A) (H:Own w D w [blk j [W a (X d.a.a) b] 27]) (h:Ro w D λ w'=>bP w' 2 a (X d.a.a) (q0 ay.J d.a.a)) (B:X d.a.a<=b/\X d.a.a<=9223372036854775807) (P:X d.a.a<=4000) (hr:oN d g z=(l,A)):
    Calls v1 253 #[vP j 0, Zx (Zc (au.J g)),vI z] w (dM λ v w'=> ∃ L M,v= .tuple #[W L (X l) M,vI A]/\Own w D w' [row L (X l) M (q0 ay.J l) 101 2,blk j [W a (X d.a.a) b] 27]/\(A=0/\X l<=4000)):=by
 unfold oN at hr
 refine cb Tryz.func253 ?_
 refine sr ?_
 refine cu (au.J g) 37 H ?_
 intro Q R C
 refine Az Z (An Z (JG ?_))
 refine pK [] (JP J3) C ?_
 intro S E
 refine qv 0 Z Z (qp j 0 1 Z (qp j 0 2 Z (ql 3 Z 1 Tryz.isAgg25 Z Z Z (qt (v:= Zx (Zc (au.J g))) 4 Z (λ _ ⟨_,Z8⟩=>JS Z (JW (cs:=(au.J g)) D0 C7 ((Z8.cls (i:=0) Z).lit (k:=0) (m:=2) Z))) (qv 5 Z Z ?_)))))
 obtain⟨c,e⟩:∃ q,nu d.a.a g z=q:=⟨_,Z⟩
 obtain⟨Z4,n,o,p,Z5⟩:=JJ E
 refine qd 6 Z (J6 Tryz.call60 Z (xc _ _ a (X d.a.a) b d.a.a g z c n (o _ h) Z Y e) ?_)
 rintro _ F ⟨Z3,Z9,rfl,r,f⟩
 have t:=p _ _ r
 have Z6:=t.rowC (i:=0) Z
 replace f:X c<=X d.a.a:=f
 have u:=t.pb [0]
 refine⟨.inr ⟨_,u⟩, ?_⟩
 have x:Own w D F (row Zv 0 0 (q0 ay.J []) 101 2::_):=u.free (cK 101 2)
 refine qd 7 Z (J7 (k:=0) (m:=X c) (iW) x Z Z (fq Tryz.underlying25 (x.rds (i:=3) Z) (di ay.one c)) Z Y (s:=X c) Y Z ?_)
 intro G I Z1 Z7
 have y:=Z7.pb [0,3]
 refine⟨.inr ⟨_,y⟩, ?_⟩
 refine qa 8 Z Z (qa 9 Z Z (qn (JK (rt (JY (kS Z Z Z) ?_)))))
 have K:=y.pk [2,1]
 obtain⟨rfl,rfl⟩:=fK (zj hr zq1)
 exact⟨G,I,Z,K,(by first | omega | exact⟨Z,Y⟩)⟩
def kv (b:bA) (c:Nat):Int:=
 bnd (eQ b.a c) λ a=>a
theorem oO (w D) (a:bA) (b f c d g e p A) (H:Own w D w []) (i:f=X a.f.a) (r:Ro w D λ w'=>bP w' 6 b (X a.f.a) (q0 aY.J a.f.a)) (s:X a.f.a<=c/\X a.f.a<=9223372036854775807) (j:g=X a.e.a) (t:Ro w D λ w'=>bP w' 3 d (X a.e.a) (q0 aF.J a.e.a)) (u:X a.e.a<=e/\X a.e.a<=9223372036854775807) (hr:kv a p=A):
    Calls v1 132 #[Zx #[vU a.a, W b f c, W d g e,vI a.b],vU p] w (dM λ v w'=>v=vI A/\Own w D w' []):=by
 unfold kv at hr
 subst i j
 refine cb Tryz.func132 ?_
 refine sr ?_
 refine cu [vU a.a, W b (X a.f.a) c, W d (X a.e.a) e,vI a.b] 99 H ?_
 intro x E k
 refine Ar Z (Kz (vP x 0) (Lz (vU a.a) k 0 E3 (Mz Z ?_)))
 obtain⟨l,h⟩:∃ q,eQ a.a p=q:=⟨_,Z⟩
 obtain⟨F,m,B,n,C⟩:=JJ k
 refine cl Tryz.call129 (mK _ _ a.a p l m h) ?_
 rintro _ G ⟨rfl,o⟩
 have y:=n _ _ o
 refine An Z (rt (rs ?_))
 have z:=y.pk []
 obtain rfl:=zj hr zq1
 exact⟨Z,z⟩
def dB (f:List bA) (g:Nat):Nat->Nat->Nat->Nat
  | 0,a,c=>ZZ
  | d+1,a,c=>if((a:Nat):Int) < ((c:Nat):Int) then bnd (y4 f ((a+c) / 2) ZZ) λ b=>bnd (kv (bA.q b.a (O b.f.a) (O b.e.a) b.b) g) λ e=>if e < 0 then dB f g d (((a+c) / 2)+1) c else dB f g d a ((a+c) / 2) else a
def bJ (b:List bA) (d:Nat):Int × Bool:=
 bnd (dB b d ((X b - 0)+1) 0 (X b)) λ sLrL=>if((sLrL:Nat):Int) < ((X b:Nat):Int) then bnd (y4 b sLrL ZZ) λ a=>bnd (kv (bA.q a.a (O a.f.a) (O a.e.a) a.b) d) λ c=>(((sLrL:Nat):Int),Zy (c=0)) else(((sLrL:Nat):Int),J)
theorem l9 (w D z Z2 Z1 d0 h r M Z0) (H:Own w D w []) (K:r7 aW.abs d0=h) (o:Ro w D λ w'=>bP w' 4 z Z2 (q0 aW.J d0)) (m:∀ x ∈ d0,Ro w D (λ w'=>bP w' 6 x.f.A (X x.f.a) (q0 aY.J x.f.a))/\(X x.f.a<=x.f.c/\X x.f.a<=9223372036854775807)/\Ro w D (λ w'=>bP w' 3 x.e.A (X x.e.a) (q0 aF.J x.e.a))/\(X x.e.a<=x.e.c/\X x.e.a<=9223372036854775807)) (aa:Z2=X h) (aI:X h *64<=211106232532992) (hr:bJ h r=(M,Z0)):
    Calls v1 131 #[W z Z2 Z1,vU r, .func (.func 132) #[] #[]] w (dM λ v w'=>v= .tuple #[vI M, V Z0]/\Own w D w' []/\(0<=M/\M<=((X h:Nat):Int))/\(Bool.toNat Z0=0\/M < ((X h:Nat):Int))):=by
 unfold bJ at hr
 subst aa
 have av:=bg K
 refine cb Tryz.func131 ?_
 refine sr (Az Z (Ar Z (Mz Z (Kz (vJ (X h)) (Ar Z (Mz Z (Az Z (An Z (JG (bo ?_))))))))))
 have af:=H.pk []
 obtain⟨ag,n⟩:=zw λ (a:Nat) (b:Nat) (s:Nat) w'=>Own w D w' []/\a<=b/\b<=X h/\b - a < s/\dB h r ((X h - 0)+1) 0 (X h)=dB h r s a b
 refine B4 (λ i:Nat × Nat × Nat=> [(9,vJ i.1),(10,vJ i.2.1),(8,vJ (X h)),(7, V J),(6,vI 0),(0, W z (X h) Z1),(1,vU r),(2, .func (.func 132) #[] #[])]) ag (λ i=>i.2.2) (0,X h,(X h - 0)+1) ⟨Z,Z,Z,Z,Z,Z,Z,Z,ZW⟩ (n.2 ⟨af,Y,Y,Y,Z⟩) ?_
 rintro ⟨a,b,s⟩ aJ Z5
 show Wp _ _ _ [(9,vJ a),(10,vJ b),(8,vJ (X h)),(7, V J),(6,vI 0),(0, W z (X h) Z1),(1,vU r),(2, .func (.func 132) #[] #[])] _ _
 obtain⟨l,ax,ay,az,t⟩:=n.1 Z5
 obtain⟨p,Z6⟩:∃ q,s=q+1:=⟨s - 1,Y⟩
 subst Z6
 refine JG (sr (Mz Z (Mz Z (Kz (Zb ((a:Int) < (b:Int))) (nt ?_)))))
 by_cases u:(a:Int) < (b:Int)
 refine jT (dT u) (sk (bo (sr (Mz Z (Mz Z (fw (vJ (a+b)) (JN (e:=B7.wrap ((a:Int)+(b:Int))) yk f3) (fw (vU (a+b)) (JN (e:=I0.wrap ((a+b:Nat):Int)) yk (IntWalk.u64_in _ Y)) (fw (vU ((a+b) / 2)) (JN (e:=Int.fdiv ((a+b:Nat):Int) 2) yk (vH _ 1 _ f6)) (fw (vJ ((a+b) / 2)) (JN (e:=B7.wrap (((a+b) / 2:Nat):Int)) yk (Na _ Y)) (Ar Z (Mz Z (Mz Z (Mz Z ?_)))))))))))))
 obtain⟨d,j⟩:=dJ (ls:=d0) (i:=(a+b) / 2) aW.len f6 (l.ro o) f4
 have E:=gq K j
 have aA:=(m _ (E1 j)).2.1
 have aB:=(m _ (E1 j)).2.2.2
 refine fw (Zq (Zw ⟨ab z,ao z+((a+b) / 2) *4,Zv⟩)) (JU (l5) Z Z ((l.ro o).addr (i:=(a+b) / 2) Y) Y) (fw (Zx (Zc (aW.J d))) (JS Z (JW (cs:=(aW.J d)) R9 S0 ((l.ro o).elem aW.len j f6))) (Mz Z ?_))
 obtain⟨L,y⟩:∃ q,kv (bA.q d.a (O d.f.a) (O d.e.a) d.b) r=q:=⟨_,Z⟩
 obtain⟨aK,P,F,Q,aC⟩:=JJ l
 refine WL.do Z (Kh Tryz.call132 Z Z (oO _ _ (bA.q d.a (O d.f.a) (O d.e.a) d.b) d.f.A (X d.f.a) d.f.c d.e.A (X d.e.a) d.e.c r L P Z (F _ (m _ (E1 j)).1) Y Z (F _ (m _ (E1 j)).2.2.1) Y y) ?_)
 rintro _ aL ⟨rfl,R⟩
 have S:=Q _ _ R
 refine Kz (Zb (L < 0)) (nt ?_)
 by_cases B:L < 0
 refine jT (dT B) (JI (Mz Z (fw (vI ((((a+b) / 2)+1:Nat):Int)) (JN (e:=B7.wrap ((((a+b) / 2:Nat):Int)+1)) yk f3) (Az Z (B8 (bN ?_))))))
 have ah:=S.pk []
 exact JX (((a+b) / 2)+1,b,p) ⟨Z,Z,Z,Z,Z,Z,Z,Z,ZW⟩ (n.2 ⟨ah,Y,Y,Y,N (t) (N (ip u) (N (ae (bu E)) (N (ae y) (ip B))))⟩) (by show p < p+1; omega)
 refine jF (dF B) (JI (Mz Z (Az Z (B8 (bN ?_)))))
 have ai:=S.pk []
 exact JX (a,(a+b) / 2,p) ⟨Z,Z,Z,Z,Z,Z,Z,Z,ZW⟩ (n.2 ⟨ai,Y,Y,Y,N (t) (N (ip u) (N (ae (bu E)) (N (ae y) (iN B))))⟩) (by show p < p+1; omega)
 refine jF (dF u) (B9 (JV ?_))
 have G:dB h r ((X h - 0)+1) 0 (X h)=a:=N (t) (iN u)
 refine JV (J2 (JK (sr (Mz Z (Mz Z (Mz Z (Kz (Zb ((a:Int) < (X h:Int))) (Mz Z ?_))))))))
 by_cases g:(a:Int) < (X h:Int)
 refine gw (.func (.func 132) #[] #[]) (dT g) (JM Z) (gw (W z (X h) Z1) (dT g) (JM Z) (gw (vJ a) (dT g) (JM Z) ?_))
 obtain⟨f,k⟩:=dJ (ls:=d0) (i:=a) aW.len f6 (l.ro o) f4
 have Z8:=gq K k
 have aD:=(m _ (E1 k)).2.1
 have aG:=(m _ (E1 k)).2.2.2
 refine gw (Zq (Zw ⟨ab z,ao z+a *4,Zv⟩)) (dT g) (JU (l5) Z Z ((l.ro o).addr (i:=a) Y) Y) (gw (Zx (Zc (aW.J f))) (dT g) (JS Z (JW (cs:=(aW.J f)) R9 S0 ((l.ro o).elem aW.len k f6))) (gw (vU r) (dT g) (JM Z) ?_))
 obtain⟨C,I⟩:∃ q,kv (bA.q f.a (O f.f.a) (O f.e.a) f.b) r=q:=⟨_,Z⟩
 obtain⟨aM,Z4,Z7,Z3,aH⟩:=JJ l
 refine KF Z Z (dT g) Z (Kh Tryz.call132 Z Z (oO _ _ (bA.q f.a (O f.f.a) (O f.e.a) f.b) f.f.A (X f.f.a) f.f.c f.e.A (X f.e.a) f.e.c r C Z4 Z (Z7 _ (m _ (E1 k)).1) Y Z (Z7 _ (m _ (E1 k)).2.2.1) Y I) ?_)
 rintro _ aN ⟨rfl,Z9⟩
 have aj:=Z3 _ _ Z9
 refine Gz (Zb (C=0)) (dT g) (fw (Zb (C=0)) (JL Z (dT g) Z) (Az Z (An Z (rt (JY (kS Z Z Z) ?_)))))
 have ak:=aj.pk []
 obtain⟨rfl,rfl⟩:=fK (zj hr (show _=(((a:Nat):Int),decide (C=0)) from N (ae G) (N (ip g) (N (ae (bu Z8)) (ae I)))))
 exact⟨Z,ak,Y,i5⟩
 refine T (dF g) (T (dF g) (T (dF g) (T (dF g) (T (dF g) (T (dF g) (T (dF g) (T (dF g) (fw (V J) (JH Z (dF g) Z) (Az Z (An Z (rt (JY (kS Z Z Z) ?_))))))))))))
 have au:=l.pk []
 obtain⟨rfl,rfl⟩:=fK (zj hr zq2)
 exact⟨Z,au,Y,i5⟩
def bX (b:aA) (c:Nat):Int × Bool:=
 bnd (bJ b.b.a c) λ a=>(a.1,a.2)
theorem jv (w D B) (a:aA) (k l m n o p d e f r s I C M) (H:Own w D w [blk B (kB a k (X a.a.b.a) l m (X a.a.a.a) n o (X a.a.f.a) p a.a.k r d (X a.b.a) e s) 80]) (h:r7 aW.abs f=a.b.a) (z:Ro w D λ w'=>bP w' 4 d (X a.b.a) (q0 aW.J f)) (Z5:X a.b.a<=e/\X a.b.a<=9223372036854775807) (b:∀ x ∈ f,Ro w D (λ w'=>bP w' 6 x.f.A (X x.f.a) (q0 aY.J x.f.a))/\(X x.f.a<=x.f.c/\X x.f.a<=9223372036854775807)/\Ro w D (λ w'=>bP w' 3 x.e.A (X x.e.a) (q0 aF.J x.e.a))/\(X x.e.a<=x.e.c/\X x.e.a<=9223372036854775807)) (R:X a.b.a<=1000) (hr:bX a I=(C,M)):
    Calls v1 79 #[vP B 0,vU I] w (dM λ v w'=>v= .tuple #[vI C, V M]/\Own w D w' [blk B (kB a k (X a.a.b.a) l m (X a.a.a.a) n o (X a.a.f.a) p a.a.k r d (X a.b.a) e s) 80]/\(0<=C/\C<=((X a.b.a:Nat):Int))/\(Bool.toNat M=0\/C < ((X a.b.a:Nat):Int))):=by
 unfold bX at hr
 have Z7:=bg h
 refine cb Tryz.func79 ?_
 refine sr (Az Z (Ar Z (Mz Z (Kz (vP B 0) (Kz (vP B 18) (Lz (W d (X a.b.a) e) H 0 S1 (Mz Z ?_)))))))
 obtain⟨⟨g,j⟩,t⟩:∃ q:Int × Bool,bJ a.b.a I=q:=⟨_,Z⟩
 obtain⟨S,E,i,F,Q⟩:=JJ H
 refine cl Tryz.call131 (l9 _ _ d (X a.b.a) e f a.b.a I g j E h (i _ z) (λ K L=>⟨i _ (b K L).1,(b K L).2.1,i _ (b K L).2.2.1,(b K L).2.2.2⟩) Z Y t) ?_
 rintro _ Z8 ⟨rfl,G,u,y⟩
 have Z6:=F _ _ G
 replace u:0<=g/\g<=(X a.b.a:Int):=u
 replace y:Bool.toNat j=0\/g < (X a.b.a:Int):=y
 refine Kz (vI g) (Kz (V j) (Az Z (An Z (rt (JY (kS Z Z Z) ?_)))))
 have P:=Z6.pf []
 obtain⟨rfl,rfl⟩:=fK (zj hr zq1)
 exact⟨Z,P,Y,i5⟩
def kX (b:df) (c:Nat):Int:=
 bnd (eQ b.f c) λ a=>a
theorem pu (w D) (a:df) (b d c l s) (H:Own w D w []) (f:d=X a.a.a) (m:Ro w D λ w'=>bP w' 6 b (X a.a.a) (q0 aY.J a.a.a)) (n:X a.a.a<=c/\X a.a.a<=9223372036854775807) (hr:kX a l=s):
    Calls v1 128 #[Zx #[vU a.f, W b d c],vU l] w (dM λ v w'=>v=vI s/\Own w D w' []):=by
 unfold kX at hr
 subst f
 refine cb Tryz.func128 ?_
 refine sr ?_
 refine cu [vU a.f, W b (X a.a.a) c] 60 H ?_
 intro o x g
 refine Ar Z (Kz (vP o 0) (Lz (vU a.f) g 0 E3 (Mz Z ?_)))
 obtain⟨h,e⟩:∃ q,eQ a.f l=q:=⟨_,Z⟩
 obtain⟨y,i,t,j,u⟩:=JJ g
 refine cl Tryz.call129 (mK _ _ a.f l h i e) ?_
 rintro _ z ⟨rfl,k⟩
 have p:=j _ _ k
 refine An Z (rt (rs ?_))
 have r:=p.pk []
 obtain rfl:=zj hr zq1
 exact⟨Z,r⟩
def dI (f:List df) (g:Nat):Nat->Nat->Nat->Nat
  | 0,a,b=>ZZ
  | d+1,a,b=>if((a:Nat):Int) < ((b:Nat):Int) then bnd (y4 f ((a+b) / 2) ZZ) λ c=>bnd (kX (df.q c.f (O c.a.a)) g) λ e=>if e < 0 then dI f g d (((a+b) / 2)+1) b else dI f g d a ((a+b) / 2) else a
def bH (b:List df) (d:Nat):Int × Bool:=
 bnd (dI b d ((X b - 0)+1) 0 (X b)) λ sLrL=>if((sLrL:Nat):Int) < ((X b:Nat):Int) then bnd (y4 b sLrL ZZ) λ a=>bnd (kX (df.q a.f (O a.a.a)) d) λ c=>(((sLrL:Nat):Int),Zy (c=0)) else(((sLrL:Nat):Int),J)
theorem ni (w D y Z2 Z1 d0 h p K Z0) (H:Own w D w []) (I:r7 bf.abs d0=h) (n:Ro w D λ w'=>bP w' 2 y Z2 (q0 bf.J d0)) (z:∀ x ∈ d0,Ro w D (λ w'=>bP w' 6 x.a.A (X x.a.a) (q0 aY.J x.a.a))/\(X x.a.a<=x.a.c/\X x.a.a<=9223372036854775807)) (aa:Z2=X h) (aF:X h *32<=211106232532992) (hr:bH h p=(K,Z0)):
    Calls v1 127 #[W y Z2 Z1,vU p, .func (.func 128) #[] #[]] w (dM λ v w'=>v= .tuple #[vI K, V Z0]/\Own w D w' []/\(0<=K/\K<=((X h:Nat):Int))/\(Bool.toNat Z0=0\/K < ((X h:Nat):Int))):=by
 unfold bH at hr
 subst aa
 have av:=bg I
 refine cb Tryz.func127 ?_
 refine sr (Az Z (Ar Z (Mz Z (Kz (vJ (X h)) (Ar Z (Mz Z (Az Z (An Z (JG (bo ?_))))))))))
 have af:=H.pk []
 obtain⟨ag,k⟩:=zw λ (a:Nat) (b:Nat) (r:Nat) w'=>Own w D w' []/\a<=b/\b<=X h/\b - a < r/\dI h p ((X h - 0)+1) 0 (X h)=dI h p r a b
 refine B4 (λ i:Nat × Nat × Nat=> [(9,vJ i.1),(10,vJ i.2.1),(8,vJ (X h)),(7, V J),(6,vI 0),(0, W y (X h) Z1),(1,vU p),(2, .func (.func 128) #[] #[])]) ag (λ i=>i.2.2) (0,X h,(X h - 0)+1) ⟨Z,Z,Z,Z,Z,Z,Z,Z,ZW⟩ (k.2 ⟨af,Y,Y,Y,Z⟩) ?_
 rintro ⟨a,b,r⟩ aG L
 show Wp _ _ _ [(9,vJ a),(10,vJ b),(8,vJ (X h)),(7, V J),(6,vI 0),(0, W y (X h) Z1),(1,vU p),(2, .func (.func 128) #[] #[])] _ _
 obtain⟨j,ax,ay,az,s⟩:=k.1 L
 obtain⟨o,M⟩:∃ q,r=q+1:=⟨r - 1,Y⟩
 subst M
 refine JG (sr (Mz Z (Mz Z (Kz (Zb ((a:Int) < (b:Int))) (nt ?_)))))
 by_cases t:(a:Int) < (b:Int)
 refine jT (dT t) (sk (bo (sr (Mz Z (Mz Z (fw (vJ (a+b)) (JN (e:=B7.wrap ((a:Int)+(b:Int))) yk f3) (fw (vU (a+b)) (JN (e:=I0.wrap ((a+b:Nat):Int)) yk (IntWalk.u64_in _ Y)) (fw (vU ((a+b) / 2)) (JN (e:=Int.fdiv ((a+b:Nat):Int) 2) yk (vH _ 1 _ f6)) (fw (vJ ((a+b) / 2)) (JN (e:=B7.wrap (((a+b) / 2:Nat):Int)) yk (Na _ Y)) (Ar Z (Mz Z (Mz Z (Mz Z ?_)))))))))))))
 obtain⟨f,l⟩:=dJ (ls:=d0) (i:=(a+b) / 2) bf.len f6 (j.ro n) f4
 have E:=gq I l
 have aA:=(z _ (E1 l)).2
 refine fw (Zq (Zw ⟨ab y,ao y+((a+b) / 2) *2,Zv⟩)) (JU (kH) Z Z ((j.ro n).addr (i:=(a+b) / 2) Y) Y) (fw (Zx (Zc (bf.J f))) (JS Z (JW (cs:=(bf.J f)) R6 E2 ((j.ro n).elem bf.len l f6))) (Mz Z ?_))
 obtain⟨Z7,u⟩:∃ q,kX (df.q f.f (O f.a.a)) p=q:=⟨_,Z⟩
 obtain⟨aH,Z5,Z6,P,aB⟩:=JJ j
 refine WL.do Z (Kh Tryz.call128 Z Z (pu _ _ (df.q f.f (O f.a.a)) f.a.A (X f.a.a) f.a.c p Z7 Z5 Z (Z6 _ (z _ (E1 l)).1) Y u) ?_)
 rintro _ aI ⟨rfl,Q⟩
 have R:=P _ _ Q
 refine Kz (Zb (Z7 < 0)) (nt ?_)
 by_cases B:Z7 < 0
 refine jT (dT B) (JI (Mz Z (fw (vI ((((a+b) / 2)+1:Nat):Int)) (JN (e:=B7.wrap ((((a+b) / 2:Nat):Int)+1)) yk f3) (Az Z (B8 (bN ?_))))))
 have ah:=R.pk []
 exact JX (((a+b) / 2)+1,b,o) ⟨Z,Z,Z,Z,Z,Z,Z,Z,ZW⟩ (k.2 ⟨ah,Y,Y,Y,N (s) (N (ip t) (N (ae (bu E)) (N (ae u) (ip B))))⟩) (by show o < o+1; omega)
 refine jF (dF B) (JI (Mz Z (Az Z (B8 (bN ?_)))))
 have ai:=R.pk []
 exact JX (a,(a+b) / 2,o) ⟨Z,Z,Z,Z,Z,Z,Z,Z,ZW⟩ (k.2 ⟨ai,Y,Y,Y,N (s) (N (ip t) (N (ae (bu E)) (N (ae u) (iN B))))⟩) (by show o < o+1; omega)
 refine jF (dF t) (B9 (JV ?_))
 have F:dI h p ((X h - 0)+1) 0 (X h)=a:=N (s) (iN t)
 refine JV (J2 (JK (sr (Mz Z (Mz Z (Mz Z (Kz (Zb ((a:Int) < (X h:Int))) (Mz Z ?_))))))))
 by_cases d:(a:Int) < (X h:Int)
 refine gw (.func (.func 128) #[] #[]) (dT d) (JM Z) (gw (W y (X h) Z1) (dT d) (JM Z) (gw (vJ a) (dT d) (JM Z) ?_))
 obtain⟨g,m⟩:=dJ (ls:=d0) (i:=a) bf.len f6 (j.ro n) f4
 have S:=gq I m
 have aC:=(z _ (E1 m)).2
 refine gw (Zq (Zw ⟨ab y,ao y+a *2,Zv⟩)) (dT d) (JU (kH) Z Z ((j.ro n).addr (i:=a) Y) Y) (gw (Zx (Zc (bf.J g))) (dT d) (JS Z (JW (cs:=(bf.J g)) R6 E2 ((j.ro n).elem bf.len m f6))) (gw (vU p) (dT d) (JM Z) ?_))
 obtain⟨C,G⟩:∃ q,kX (df.q g.f (O g.a.a)) p=q:=⟨_,Z⟩
 obtain⟨aJ,Z8,Z4,Z3,aD⟩:=JJ j
 refine KF Z Z (dT d) Z (Kh Tryz.call128 Z Z (pu _ _ (df.q g.f (O g.a.a)) g.a.A (X g.a.a) g.a.c p C Z8 Z (Z4 _ (z _ (E1 m)).1) Y G) ?_)
 rintro _ aK ⟨rfl,Z9⟩
 have aj:=Z3 _ _ Z9
 refine Gz (Zb (C=0)) (dT d) (fw (Zb (C=0)) (JL Z (dT d) Z) (Az Z (An Z (rt (JY (kS Z Z Z) ?_)))))
 have ak:=aj.pk []
 obtain⟨rfl,rfl⟩:=fK (zj hr (show _=(((a:Nat):Int),decide (C=0)) from N (ae F) (N (ip d) (N (ae (bu S)) (ae G)))))
 exact⟨Z,ak,Y,i5⟩
 refine T (dF d) (T (dF d) (T (dF d) (T (dF d) (T (dF d) (T (dF d) (T (dF d) (T (dF d) (fw (V J) (JH Z (dF d) Z) (Az Z (An Z (rt (JY (kS Z Z Z) ?_))))))))))))
 have au:=j.pk []
 obtain⟨rfl,rfl⟩:=fK (zj hr zq2)
 exact⟨Z,au,Y,i5⟩
def dX (b:aA) (c:Nat):Int × Bool:=
 bnd (bH b.a.a.a c) λ a=>(a.1,a.2)
theorem nL (w D B) (a:aA) (j k b d e l m n o p r I C K) (H:Own w D w [blk B (kB a j (X a.a.b.a) k b (X a.a.a.a) d l (X a.a.f.a) m a.a.k p n (X a.b.a) o r) 80]) (g:r7 bf.abs e=a.a.a.a) (z:Ro w D λ w'=>bP w' 2 b (X a.a.a.a) (q0 bf.J e)) (L:X a.a.a.a<=d/\X a.a.a.a<=9223372036854775807) (h:∀ x ∈ e,Ro w D (λ w'=>bP w' 6 x.a.A (X x.a.a) (q0 aY.J x.a.a))/\(X x.a.a<=x.a.c/\X x.a.a<=9223372036854775807)) (R:X a.a.a.a<=1000) (hr:dX a I=(C,K)):
    Calls v1 77 #[vP B 0,vU I] w (dM λ v w'=>v= .tuple #[vI C, V K]/\Own w D w' [blk B (kB a j (X a.a.b.a) k b (X a.a.a.a) d l (X a.a.f.a) m a.a.k p n (X a.b.a) o r) 80]/\(0<=C/\C<=((X a.a.a.a:Nat):Int))/\(Bool.toNat K=0\/C < ((X a.a.a.a:Nat):Int))):=by
 unfold dX at hr
 have Z7:=bg g
 refine cb Tryz.func77 ?_
 refine sr (Az Z (Ar Z (Mz Z (Kz (vP B 0) (Kz (vP B 0) (Kz (vP B 6) (Lz (W b (X a.a.a.a) d) H 0 E0 (Mz Z ?_))))))))
 obtain⟨⟨f,i⟩,s⟩:∃ q:Int × Bool,bH a.a.a.a I=q:=⟨_,Z⟩
 obtain⟨S,E,t,F,Z6⟩:=JJ H
 refine cl Tryz.call127 (ni _ _ b (X a.a.a.a) d e a.a.a.a I f i E g (t _ z) (λ P Q=>⟨t _ (h P Q).1,(h P Q).2⟩) Z Y s) ?_
 rintro _ Z8 ⟨rfl,G,u,y⟩
 have M:=F _ _ G
 replace u:0<=f/\f<=(X a.a.a.a:Int):=u
 replace y:Bool.toNat i=0\/f < (X a.a.a.a:Int):=y
 refine Kz (vI f) (Kz (V i) (Az Z (An Z (rt (JY (kS Z Z Z) ?_)))))
 have Z5:=M.pf []
 obtain⟨rfl,rfl⟩:=fK (zj hr zq1)
 exact⟨Z,Z5,Y,i5⟩
def iR:List bA->List Nat->(List Nat)
  | [],a=>a
  | b::c,a=>iR c (a++ [b.a])
def qj (a:aA):(List Nat):=
 bnd (iR a.b.a []) λ sLrL=>sLrL
theorem vX (w D M) (a:aA) (l n o p r t f g u z B Z3) (H:Own w D w [blk M (kB a l (X a.a.b.a) n o (X a.a.a.a) p r (X a.a.f.a) t a.a.k z f (X a.b.a) g B) 80]) (E:r7 aW.abs u=a.b.a) (j:Ro w D λ w'=>bP w' 4 f (X a.b.a) (q0 aW.J u)) (Z1:X a.b.a<=g/\X a.b.a<=9223372036854775807) (F:∀ x ∈ u,Ro w D (λ w'=>bP w' 6 x.f.A (X x.f.a) (q0 aY.J x.f.a))/\(X x.f.a<=x.f.c/\X x.f.a<=9223372036854775807)/\Ro w D (λ w'=>bP w' 3 x.e.A (X x.e.a) (q0 aF.J x.e.a))/\(X x.e.a<=x.e.c/\X x.e.a<=9223372036854775807)) (aJ:X a.b.a<=1000) (hr:qj a=Z3):
    Calls v1 12 #[vP M 0] w (dM λ v w'=> ∃ B0 b0,v= W B0 (X Z3) b0/\Own w D w' [row B0 (X Z3) b0 (q0 (eN .u64) Z3) 32 1,blk M (kB a l (X a.a.b.a) n o (X a.a.a.a) p r (X a.a.f.a) t a.a.k z f (X a.b.a) g B) 80]):=by
 unfold qj at hr
 have Z9:=bg E
 refine cb Tryz.func12 ?_
 refine sr (Ar Z (An Z (JG (sr (Mz Z (Kz (vP M 0) (Kz (vP M 18) (Lz (W f (X a.b.a) g) H 0 S1 (Kz (vJ (X a.b.a)) (Mn Z (bo ?_)))))))))))
 have Z2:Own w D w [row Zv 0 0 (q0 (eN .u64) []) 32 1,blk M (kB a l (X a.a.b.a) n o (X a.a.a.a) p r (X a.a.f.a) t a.a.k z f (X a.b.a) g B) 80]:=H.free (cK 32 1)
 have Z0:=Z2.pb [0]
 obtain⟨aa,G⟩:=wY λ Z7 (K:Nat) d (b:Nat) w'=>Own w D w' [blk M (kB a l (X a.a.b.a) n o (X a.a.a.a) p r (X a.a.f.a) t a.a.k z f (X a.b.a) g B) 80,row Z7 (X d) K (q0 (eN .u64) d) 32 1]/\b<=X a.b.a/\X d=b/\X d<=b/\iR a.b.a []=iR (r6 b a.b.a) d
 refine B4 (λ i:(Option Addr) × Nat × (List Nat) × Nat=> [(3, W i.1 (X i.2.2.1) i.2.1),(11,vJ i.2.2.2),(10,vJ (X a.b.a)),(9, W f (X a.b.a) g),(2, W Zv 0 0)]) aa (λ i=>X a.b.a - i.2.2.2) (Zv,0, [],0) ⟨Z,Z,Z,Z,Z,ZW⟩ (G.2 ⟨Z0,(show 0<=X a.b.a/\0=0/\0<=0/\iR a.b.a []=iR (r6 0 a.b.a) [] from ⟨Y,Y,Y,Z⟩)⟩) ?_
 rintro ⟨Z7,K,d,b⟩ aK Z6
 show Wp _ _ _ [(3, W Z7 (X d) K),(11,vJ b),(10,vJ (X a.b.a)),(9, W f (X a.b.a) g),(2, W Zv 0 0)] _ _
 obtain⟨I,aB,aC,aD,L⟩:=G.1 Z6
 refine sr (Kz (Zb ((b:Int) < (X a.b.a:Int))) (nt (JG ?_)))
 by_cases P:(b:Int) < (X a.b.a:Int)
 obtain⟨h,C⟩:=dJ (ls:=u) (i:=b) aW.len f6 (I.ro j) f4
 have Q:=gq E C
 have aG:=(F _ (E1 C)).2.1
 have aH:=(F _ (E1 C)).2.2.2
 have R:=drop_at Q
 refine jT (dT P) (sk (JG (bo (sr (fw (Zq (Zw ⟨ab f,ao f+b *4,Zv⟩)) (JU (l5) Z Z ((I.ro j).addr (i:=b) Y) Y) (fw (Zx (Zc (aW.J h))) (JS Z (JW (cs:=(aW.J h)) R9 S0 ((I.ro j).elem aW.len C f6))) ?_))))))
 refine cu [.int .u64 0, W Zv 0 0, W Zv 0 0,vI 0] 99 I ?_
 intro af aL ag
 refine cO (aW.J h) 0 ag S0 ?_
 intro aM S
 refine nt (JI (Mz Z (Kz (vP af 0) (Lz (vU h.a) S 0 E3 ?_))))
 refine jW [vU h.a] 32 1 1 S ?_
 intro ah aN Z5
 replace Z5:=Ke (y:=row ah 1 1 (q0 (eN .u64) ([h.a])) 32 1) Z Z5
 have Z8:=Z5.pf [3]
 refine WL.do Z (J7 (k:=X d) (m:=1) (iZ) Z8 Z Z (fq P9 (Z8.rds (i:=1) Z) (di mW ([h.a]))) Z Y (s:=X (d++ [h.a])) f7 (u0).symm ?_)
 intro ai aj aO ak
 have aI:X (d++ [h.a])=X d+1:=by simp only [o2,q5,L3]
 refine Az Z (B8 (bN (JK ?_)))
 have au:=ak.pk [0,3]
 refine JI (fw (vJ (b+1)) (JN (e:=B7.wrap ((b:Int)+1)) yk f3) (Mz Z (B8 ?_)))
 have av:=au.pb [0]
 exact JX (ai,aj,(d++ [h.a]),b+1) ⟨Z,Z,Z,Z,Z,ZW⟩ (G.2 ⟨av,Y,Y,Y,N (L) (N (ZJ (λ q=>iR q d) R) Z)⟩) (by show X a.b.a - (b+1) < X a.b.a - b; omega)
 refine jF (dF P) (B9 (JV ?_))
 have Z4:iR a.b.a []=d:=N (L) (N (ZJ (λ q=>iR q d) (eH (ls:=a.b.a) (i:=b) Y)) Z)
 refine JV (J2 (JK (sr (Mz Z (An Z (rt (rs ?_)))))))
 have ax:=I.pb [0]
 obtain rfl:=zj hr zq1
 exact⟨Z7,K,Z,ax⟩
def lw (a:Nat):Bool:=
 J
theorem qX (w D a c) (H:Own w D w []) (hr:lw a=c):
    Calls v1 126 #[vU a] w (dM λ v w'=>v= V c/\Own w D w' []):=by
 refine cb Tryz.func126 ?_
 refine sr (Ar Z (Mz Z (Mz Z (fw (V J) (JZ (e:= !(Zy ((a:Int)=(a:Int)))) yk i7) (An Z (rt (rs ?_)))))))
 have b:=H.pk []
 obtain rfl:_=J:=zj hr Z
 exact⟨Z,b⟩
def fH (f:List Nat) (g:Nat):Nat->Nat->Nat->Nat
  | 0,a,b=>ZZ
  | c+1,a,b=>if((a:Nat):Int) < ((b:Nat):Int) then bnd (y4 f ((a+b) / 2) ZZ) λ d=>bnd (lV d g) λ e=>if e=Zk then fH f g c (((a+b) / 2)+1) b else fH f g c a ((a+b) / 2) else a
def eD (b:List Nat) (e:Nat):Int × Bool:=
 bnd (fH b e ((U (((X b:Nat):Int) - 0))+1) 0 (X b)) λ sLrL=>if((sLrL:Nat):Int) < ((X b:Nat):Int) then bnd (y4 b sLrL ZZ) λ a=>if((a:Nat):Int)=((e:Nat):Int) then(((sLrL:Nat):Int),Zk) else bnd (lw a) λ c=>if c=Zk then bnd (lw e) λ d=>(((sLrL:Nat):Int),d) else(((sLrL:Nat):Int),J) else(((sLrL:Nat):Int),J)
theorem kP (w D s Z2 I f m Z1 r1) (H:Own w D w []) (j:Ro w D λ w'=>bP w' 1 s Z2 (q0 (eN .u64) f)) (Z0:Z2=X f) (aH:X f *8<=211106232532992) (hr:eD f m=(Z1,r1)):
    Calls v1 76 #[W s Z2 I,vU m] w (dM λ v w'=>v= .tuple #[vI Z1, V r1]/\Own w D w' []/\(0<=Z1/\Z1<=((X f:Nat):Int))):=by
 unfold eD at hr
 subst Z0
 refine cb Tryz.func76 ?_
 refine sr (Az Z (Ar Z (Mz Z (Kz (vJ (X f)) (Ar Z (Mz Z (Az Z (An Z (JG (bo ?_))))))))))
 have aa:=H.pk []
 obtain⟨af,o⟩:=zw λ (a:Nat) (c:Nat) (t:Nat) w'=>Own w D w' []/\(0<=a/\a<=(c:Int)/\c<=X f)/\U ((c:Int) - a) < t/\fH f m ((U ((X f:Int) - 0))+1) 0 (X f)=fH f m t a c
 refine B4 (λ i:Nat × Nat × Nat=> [(7,vJ i.1),(8,vJ i.2.1),(6,vJ (X f)),(5, V J),(4,vI 0),(0, W s (X f) I),(1,vU m)]) af (λ i=>i.2.2) (0,X f,(U ((X f:Int) - 0))+1) ⟨Z,Z,Z,Z,Z,Z,Z,ZW⟩ (o.2 ⟨aa,Y,Y,Z⟩) ?_
 rintro ⟨a,c,t⟩ aI Z7
 show Wp _ _ _ [(7,vJ a),(8,vJ c),(6,vJ (X f)),(5, V J),(4,vI 0),(0, W s (X f) I),(1,vU m)] _ _
 obtain⟨g,ay,az,u⟩:=o.1 Z7
 obtain⟨r,K⟩:∃ q,t=q+1:=⟨t - 1,Y⟩
 subst K
 refine JG (sr (Mz Z (Mz Z (Kz (Zb ((a:Int) < (c:Int))) (nt ?_)))))
 by_cases x:(a:Int) < (c:Int)
 refine jT (dT x) (sk (bo (sr (Mz Z (Mz Z (fw (vJ (a+c)) (JN (e:=B7.wrap ((a:Int)+(c:Int))) yk f3) (fw (vU (a+c)) (JN (e:=I0.wrap ((a+c:Nat):Int)) yk (IntWalk.u64_in _ Y)) (fw (vU ((a+c) / 2)) (JN (e:=Int.fdiv ((a+c:Nat):Int) 2) yk (vH _ 1 _ f6)) (fw (vJ ((a+c) / 2)) (JN (e:=B7.wrap (((a+c) / 2:Nat):Int)) yk (Na _ Y)) (Ar Z (Mz Z (Mz Z ?_))))))))))))
 obtain⟨F,y⟩:=dJ (ls:=f) (i:=(a+c) / 2) iq f6 (g.ro j) f4
 refine fw (Zq (Zw ⟨ab s,ao s+((a+c) / 2) *1,Zv⟩)) (JU (iZ) Z Z ((g.ro j).addr (i:=(a+c) / 2) Y) Y) (fw (vU F) (JS Z (bT.one E3 (((g.ro j).elem iq y f6).at_ (k:=0) Z))) (Mz Z ?_))
 obtain⟨L,z⟩:∃ q,lV F m=q:=⟨_,Z⟩
 obtain⟨aJ,M,aA,Z5,aB⟩:=JJ g
 refine cl Tryz.call125 (tK _ _ F m L M z) ?_
 rintro _ aK ⟨rfl,Z6⟩
 have P:=Z5 _ _ Z6
 refine nt ?_
 rcases Nf (L) with A | A
 refine jT A (JI (Mz Z (fw (vI ((((a+c) / 2)+1:Nat):Int)) (JN (e:=B7.wrap ((((a+c) / 2:Nat):Int)+1)) yk f3) (Az Z (B8 (bN ?_))))))
 have ag:=P.pk []
 exact JX (((a+c) / 2)+1,c,r) ⟨Z,Z,Z,Z,Z,Z,Z,ZW⟩ (o.2 ⟨ag,Y,Y,N (u) (N (ip x) (N (ae (bu y)) (N (ae z) (ip A))))⟩) (by show r < r+1; omega)
 refine jF A (JI (Mz Z (Az Z (B8 (bN ?_)))))
 have ah:=P.pk []
 exact JX (a,(a+c) / 2,r) ⟨Z,Z,Z,Z,Z,Z,Z,ZW⟩ (o.2 ⟨ah,Y,Y,N (u) (N (ip x) (N (ae (bu y)) (N (ae z) (eP A))))⟩) (by show r < r+1; omega)
 refine jF (dF x) (B9 (JV ?_))
 have p:fH f m ((U ((X f:Int) - 0))+1) 0 (X f)=a:=N (u) (iN x)
 refine JV (J2 (JK (sr (Mz Z (Mz Z (Mz Z (Kz (Zb ((a:Int) < (X f:Int))) (Mz Z ?_))))))))
 by_cases b:(a:Int) < (X f:Int)
 refine gw (W s (X f) I) (dT b) (JM Z) (gw (vJ a) (dT b) (JM Z) ?_)
 obtain⟨n,l⟩:=dJ (ls:=f) (i:=a) iq f6 (g.ro j) f4
 refine gw (Zq (Zw ⟨ab s,ao s+a *1,Zv⟩)) (dT b) (JU (iZ) Z Z ((g.ro j).addr (i:=a) Y) Y) (gw (vU n) (dT b) (JS Z (bT.one E3 (((g.ro j).elem iq l f6).at_ (k:=0) Z))) (gw (vU m) (dT b) (JM Z) (Gz (Zb ((n:Int)=(m:Int))) (dT b) (gw (Zb ((n:Int)=(m:Int))) (dT b) (JM Z) ?_))))
 by_cases d:(n:Int)=(m:Int)
 refine T (dT d) (T (dT d) (T (dT d) (T (dT d) (T (dT d) (T (dT d) (JR Z Z Z (JR Z Z Z (T (dT d) (gw (V Zk) (dT b) (JL Z (dT d) Z) (fw (V Zk) (JL Z (dT b) Z) (Az Z (An Z (rt (JY (kS Z Z Z) ?_))))))))))))))
 have ai:=g.pk []
 obtain⟨rfl,rfl⟩:=fK (zj hr zq4)
 exact⟨Z,ai,Y⟩
 refine gw (W s (X f) I) (dF d) (JM Z) (gw (vJ a) (dF d) (JM Z) (gw (Zq (Zw ⟨ab s,ao s+a *1,Zv⟩)) (dF d) (JU (iZ) Z Z ((g.ro j).addr (i:=a) Y) Y) (gw (vU n) (dF d) (JS Z (bT.one E3 (((g.ro j).elem iq l f6).at_ (k:=0) Z))) ?_)))
 obtain⟨G,B⟩:∃ q,lw n=q:=⟨_,Z⟩
 obtain⟨aL,Q,aC,R,aD⟩:=JJ g
 refine oC (dF d) Tryz.call126 (qX _ _ n G Q B) ?_
 rintro _ aM ⟨rfl,S⟩
 have Z8:=R _ _ S
 refine gw (V G) (dF d) (JM Z) ?_
 rcases Nf (G) with h | h
 refine Kj (v:=vU m) Z Z h Z (JM Z) ?_
 obtain⟨C,E⟩:∃ q,lw m=q:=⟨_,Z⟩
 obtain⟨aN,Z4,aF,Z3,aG⟩:=JJ Z8
 refine KF Z Z h Z (J6 Tryz.call126 Z (qX _ _ m C Z4 E) ?_)
 rintro _ aO ⟨rfl,Z9⟩
 have aj:=Z3 _ _ Z9
 refine gw (V C) (dF d) (JL Z h Z) (gw (V C) (dT b) (JH Z (dF d) Z) (fw (V C) (JL Z (dT b) Z) (Az Z (An Z (rt (JY (kS Z Z Z) ?_))))))
 have ak:=aj.pk []
 obtain⟨rfl,rfl⟩:=fK (zj hr zq7)
 exact⟨Z,ak,Y⟩
 refine T h (T h (gw (V J) (dF d) (JH Z h Z) (gw (V J) (dT b) (JH Z (dF d) Z) (fw (V J) (JL Z (dT b) Z) (Az Z (An Z (rt (JY (kS Z Z Z) ?_))))))))
 have au:=Z8.pk []
 obtain⟨rfl,rfl⟩:=fK (zj hr zq6)
 exact⟨Z,au,Y⟩
 refine T (dF b) (T (dF b) (T (dF b) (T (dF b) (T (dF b) (T (dF b) (T (dF b) (JR Z Z Z (JR Z Z Z (JR Z Z Z (JR Z Z Z (JR Z Z Z (JR Z Z Z (JR Z Z Z (JR Z Z Z (JR Z Z Z (T (dF b) (fw (V J) (JH Z (dF b) Z) (Az Z (An Z (rt (JY (kS Z Z Z) ?_)))))))))))))))))))))
 have av:=g.pk []
 obtain⟨rfl,rfl⟩:=fK (zj hr zq2)
 exact⟨Z,av,Y⟩
def lv (a:List Nat) (b:Int) (c:Int):(List Nat):=
 if b=c then a else(t8 (U b) a++r6 (U c) a)
theorem sw (w D f o d a c b j) (H:Own w D w [row f o d (q0 (eN .u64) a) 32 1]) (p:o=X a) (Z7:X a *8<=211106232532992) (K:0<=c/\c<=b/\b<=((X a:Nat):Int)) (hr:lv a c b=j):
    Calls v1 124 #[W f o d,vI c,vI b] w (dM λ v w'=> ∃ B C,v= W B (X j) C/\Own w D w' [row B (X j) C (q0 (eN .u64) j) 32 1]/\(X j<=X a)):=by
 unfold lv at hr
 subst p
 have L:=H.rowC (i:=0) Z
 refine cb Tryz.func124 ?_
 refine sr (Ar Z (Mz Z (fw (vJ (U c)) (JN (e:=c) (JM Z) Y) (fw (vJ (U b)) (JN (e:=b) (JM Z) Y) (Mz Z (Kz (vJ (X a)) (fw (W (eU f (U c) 1 (X a)) ((U b) - (U c)) (X a - (U c))) (K8 (iZ) Z Z Z Z Y Y Y) (nt (JG (sr (Mz Z (Mz Z (Kz (Zb (c=b)) (nt ?_))))))))))))))
 by_cases h:c=b
 refine jT (dT h) (sr (Mz Z (An Z (rt (tR (rs ?_))))))
 have q:=H.pf []
 obtain rfl:=zj hr zq1
 exact⟨f,d,Z,q,Y⟩
 refine jF (dF h) (sk (sr (Mz Z (Kz (vJ (X a)) (An Z (JG ?_))))))
 have g:=H.drew
 refine KR [6] (λ Z9=> ∃ L',Own w D Z9 ([row f (X a) d (q0 (eN .u64) a) 32 1]++L')) f1 f1 (JP J3) ⟨_,g⟩ ?_
 revert g
 generalize World.drew w=r
 intro g
 refine qv 0 Z Z (qt (v:=vJ (U c)) 1 Z (λ _ _=>JN (e:=c) (JM Z) Y) (qt (v:= W f (U c) d) 2 Z (λ _ _=>Ku (iZ) Z Z Y) (qv 3 Z Z (qt (v:=vJ (U b)) 4 Z (λ _ _=>JN (e:=b) (JM Z) Y) (qt (v:= W (eU f (U b) 1 d) (X a - (U b)) (d - (U b))) 5 Z (λ _ _=>Ka (iZ) Z Z Y) ?_)))))
 have E:X (t8 (U c) a++r6 (U b) a)=U c+(X a - U b):=by simp only [o2,o0,o1]; omega
 have l:Src v1 1 35 (W (eU f (U b) 1 d) (X a - (U b)) (d - (U b))) (X a - U b) (q0 (eN .u64) (r6 (U b) a)) r:=fq P9 (KA (lo:=U b) iq (g.rds (i:=0) Z) Y Y f6) (di mW (r6 (U b) a))
 obtain⟨F,t,u⟩:=g.rowFull
 refine qd 6 Z (KM (k:=U c) (m:=X a - U b) (iZ) u Z Z l Y (s:=X (t8 (U c) a++r6 (U b) a)) Y ?_)
 intro M n
 refine⟨.inl f1, ?_⟩
 refine Ki (v:= W f (X (t8 (U c) a++r6 (U b) a)) d) 7 Z f1 (λ _=>KG Z) (qn (JK (sr (Mz Z (Mz Z (Kz (vI ((X (t8 (U c) a++r6 (U b) a):Nat):Int)) (Mz Z (fw (W (eU f (X (t8 (U c) a++r6 (U b) a)) 1 d) (X a - (X (t8 (U c) a++r6 (U b) a))) (d - (X (t8 (U c) a++r6 (U b) a)))) (Yl.cut (iZ) Z Z Z Y Y) ?_))))))))
 refine Kw (KZ (z0:=(.int .u64 0)) (lo:=X (t8 (U c) a++r6 (U b) a)) (nd:=(X a - (X (t8 (U c) a++r6 (U b) a)))) f1 Z (iZ) n Z (λ _=>gI ((n.rds (i:=0) Z).isSome Y) Y) Y ?_)
 intro x G I y
 refine ns (Mz Z (An Z (rt (rs ?_))))
 have z:Own w D x [row f (X (t8 (U c) a++r6 (U b) a)) d (q0 (eN .u64) (t8 (U c) a++r6 (U b) a)) 32 1]:=y.rowPart Y (tF iq Y Y Z)
 have A:=z.pf []
 obtain rfl:=zj hr zq1
 exact⟨f,d,Z,A,Y⟩
def jl (a:aA) (d:Nat):aA:=
 bnd (eD a.a.f.a (max a.a.k d)) λ b=>bnd (lv a.a.f.a 0 b.1) λ c=>aA.q (bD.q a.a.l a.a.r a.a.t a.a.s a.a.g (O a.a.b.a) (O a.a.a.a) (O c) (max a.a.k d) a.a.u a.a.j a.a.e) (O a.b.a)
theorem uN (w D b) (a:aA) (l m n o c d p r s t j) (B:aA) (H:Own w D w [blk b (kB a l (X a.a.b.a) m n (X a.a.a.a) o c (X a.a.f.a) d a.a.k s p (X a.b.a) r t) 80,row c (X a.a.f.a) d (q0 (eN .u64) a.a.f.a) 32 1]) (aa:X a.a.f.a<=1000) (hr:jl a j=B):
    Calls v1 75 #[vP b 0,vU j] w (dM λ v w'=> ∃ g h,v= .tuple #[]/\Own w D w' [blk b (kB a l (X a.a.b.a) m n (X a.a.a.a) o g (X B.a.f.a) h B.a.k s p (X a.b.a) r t) 80,row g (X B.a.f.a) h (q0 (eN .u64) B.a.f.a) 32 1]/\(X B.a.f.a<=X a.a.f.a)):=by
 unfold jl at hr
 have P:=H.rowC (i:=1) Z
 refine cb Tryz.func75 ?_
 refine sr (Mz Z (Mz Z (Kz (vP b 0) (Kz (vP b 0) (Kz (vP b 8) (Lz (vU a.a.k) H 0 E3 (Mz Z (fw (vU (max a.a.k j)) (JN (e:=if(j:Int) > (a.a.k:Int) then(j:Int) else(a.a.k:Int)) yk Y) (Kz (vP b 0) (Kz (vP b 0) (Kz (vP b 8) ?_)))))))))))
 refine cO [vU (max a.a.k j)] 8 H Tryz.sizeOf32 ?_
 intro af Q
 refine nt (JG ?_)
 refine pK [] (JP J3) Q ?_
 intro ag R
 refine qv 0 Z Z (qp b 0 1 Z (qp b 0 2 Z (qp b 7 3 Z (ql 4 Z 0 E4 Z Z Z (qv 5 Z Z (qp b 0 6 Z (qp b 0 7 Z (qp b 8 8 Z (ql 9 Z 0 E3 Z Z Z ?_)))))))))
 obtain⟨⟨f,C⟩,u⟩:∃ q:Int × Bool,eD a.a.f.a (max a.a.k j)=q:=⟨_,Z⟩
 obtain⟨ah,E,Z9,F,G⟩:=JJ R
 refine qd 10 Z (J6 Tryz.call76 Z (kP _ _ c (X a.a.f.a) d a.a.f.a (max a.a.k j) f C E (G _ 1 _ Z bQ) Z Y u) ?_)
 rintro _ ai ⟨rfl,I,x⟩
 have A:=F _ _ I
 replace x:0<=f/\f<=(X a.a.f.a:Int):=x
 refine⟨.inr ⟨_,A⟩, ?_⟩
 refine qv 11 Z Z (qk (vI f) 12 Z (qk (V C) 13 Z (qa 14 Z Z (qa 15 Z Z (qn (JK (JI (Mz Z (Mz Z (Kz (vP b 0) (Kz (vP b 0) (Kz (vP b 7) (Lz (W c (X a.a.f.a) d) A 0 E4 (Mz Z ?_))))))))))))))
 have S:=A.pb [0]
 obtain⟨k,y⟩:∃ q,lv a.a.f.a 0 f=q:=⟨_,Z⟩
 obtain⟨aj,Z7,Z1,K,Z2⟩:=Kb S
 refine cl Tryz.call124 (sw _ _ c (X a.a.f.a) d a.a.f.a 0 f k Z7 Z Y Y y) ?_
 rintro _ ak ⟨L,M,rfl,Z5,z⟩
 have Z6:=K _ _ Z5
 have Z0:=Z6.rowC (i:=0) Z
 replace z:X k<=X a.a.f.a:=z
 refine Kz (vP b 0) (Kz (vP b 0) (Kz (vP b 7) ?_))
 have Z8:=Z6.pb [0]
 refine cO [W L (X k) M] 7 Z8 R8 ?_
 intro au Z4
 refine B8 (Kl (res0 Z) ?_)
 have Z3:=Z4.pf []
 obtain rfl:=zj hr zq2
 exact⟨L,M,Z,Z3,(by first | omega | (dsimp only; omega) | (simp only [o1,o0,o2]; omega))⟩
def jM (a:List Nat) (b:Int) (c:Nat):(List Nat):=
 if((U b:Nat):Int)=((X a:Nat):Int) then(a++ [c]) else(t8 (U b) a++(c::r6 (U b) a))
theorem sD (w D f E d b a C c y) (H:Own w D w [row f E d (q0 (eN .u64) b) 32 1,ma C 1 (q0 (eN .u64) ([c])) 32 1]) (F:E=X b) (ag:X b *8<=211106232532992) (ah:0<=a/\a<=((X b:Nat):Int)/\(X b+1) *8<=211106232532992) (hr:jM b a c=y):
    Calls v1 143 #[W f E d,vI a, W C 1 1] w (dM λ v w'=> ∃ Z1 Z2,v= W Z1 (X y) Z2/\Own w D w' [row Z1 (X y) Z2 (q0 (eN .u64) y) 32 1]/\(X y=X b+1)):=by
 unfold jM at hr
 subst F
 have ai:=H.rowC (i:=0) Z
 refine cb Tryz.func143 ?_
 refine sr (Ar Z (Mz Z (fw (vJ (U a)) (JN (e:=a) (JM Z) Y) (fw (W (eU f (U a) 1 d) (X b - (U a)) (d - (U a))) (Ka (iZ) Z Z Y) (ns (Mz Z (Kz (vI 1) (An Z (JG (sr (Mz Z (Kz (V J) (nt (jf (sk (sr (Mz Z (Kz (vJ (X b)) (An Z (JG (sr (fw (vJ (U a)) (JN (e:=a) (JM Z) Y) ?_))))))))))))))))))))))
 refine Mz Z (Kz (Zb (((U a:Nat):Int)=(X b:Int))) (nt ?_))
 by_cases h:((U a:Nat):Int)=(X b:Int)
 refine jT (dT h) (sr (Mz Z (Mz Z ?_)))
 refine WL.do Z (J7 (k:=X b) (m:=1) (iZ) H Z Z (fq P9 (dH H (i:=1) Z lJ) (di mW ([c]))) Z Y (s:=X (b++ [c])) f7 (u0).symm ?_)
 intro G I aj Z7
 have Z0:X (b++ [c])=X b+1:=by simp only [o2,q5,L3]
 refine An Z (rt (tR (rs ?_)))
 have K:=Z7.pk [0]
 obtain rfl:=zj hr zq1
 exact⟨G,I,Z,K,Y⟩
 refine jF (dF h) (sk (JG (sr (Mz Z (Mz Z (fw (vJ (X b+1)) (JN (e:=B7.wrap ((X b:Int)+1)) yk f3) (Mz Z (Kz (vJ d) (Kz (Zb (((X b+1:Nat):Int) > (d:Int))) (nt ?_))))))))))
 by_cases z:((X b+1:Nat):Int) > (d:Int)
 refine jT (dT z) (sr (Mz Z (fw (vJ (U a)) (JN (e:=a) (JM Z) Y) (fw (W f (U a) d) (Ku (iZ) Z Z Y) (Mz Z (Mz Z (fw (vJ (X b+1)) (JN (e:=B7.wrap ((X b:Int)+1)) yk f3) (fw (vJ (U a)) (JN (e:=a) (JM Z) Y) (fw (vJ ((X b+1) - (U a))) (JN (e:=B7.wrap (((X b+1:Nat):Int) - ((U a:Nat):Int))) yk f3) ?_)))))))))
 have aa:X (t8 (U a) b++(c::r6 (U a) b))=X b+1:=by simp only [o2,o0,q5,o1]; omega
 refine WL.do Z (KJ (k:=U a) (m:=(X b+1) - (U a)) (iZ) v8 H Z Z Y Y Y Z Y (s:=X (t8 (U a) b++(c::r6 (U a) b))) Y ?_)
 intro j g ae ak A n
 have L:=n.rowLe (i:=0) Z
 refine Ar Z (Mz Z (fw (vJ (U a)) (JN (e:=a) (JM Z) Y) (fw (W (eU j (U a) 1 g) ((X (t8 (U a) b++(c::r6 (U a) b))) - (U a)) (g - (U a))) (Ka (iZ) Z Z Y) (Mz Z ?_))))
 refine WL.do Z (Kq (lo:=U a) (k:=1) (iZ) n Z (λ _=>gI ((n.rds (i:=0) Z).isSome Y) Y) Y Z (dH n (i:=2) Z lJ) Y (λ u hu=>di mW _ u (M2 hu)) Z ?_)
 intro au M
 refine nt (JG ?_)
 refine zx [8] (JP (JP J3)) M ?_
 intro av o
 refine qv 0 Z Z (qt (v:=vJ (U a)) 1 Z (λ _ _=>JN (e:=a) (JM Z) Y) (qv 2 Z Z (qt (v:=vJ (U a+1)) 3 Z (λ _ _=>JN (e:=B7.wrap (((U a:Nat):Int)+1)) yk f3) (qt (v:= W (eU j (U a+1) 1 g) ((X (t8 (U a) b++(c::r6 (U a) b))) - (U a+1)) (g - (U a+1))) 4 Z (λ _ _=>Ka (iZ) Z Z Y) (qv 5 Z Z (qt (v:=vJ (U a)) 6 Z (λ _ _=>JN (e:=a) (JM Z) Y) (qt (v:= W (eU f (U a) 1 d) (X b - (U a)) (d - (U a))) 7 Z (λ _ _=>Ka (iZ) Z Z Y) ?_)))))))
 refine qd 8 Z (Kq (lo:=U a+1) (k:=X b - U a) (iZ) o Z (λ _=>gI ((o.rds (i:=0) Z).isSome Y) Y) Y Z (KA (lo:=U a) iq (o.rds (i:=1) Z) Y Y f6) Y (λ u hu=>di mW _ u (M2 hu)) Z ?_)
 intro Z5 Z6
 refine⟨.inl f1, ?_⟩
 refine qn (JK (sr (Mz Z (An Z (rt (tR (rs ?_)))))))
 have P:Own w D Z5 [row j (X (t8 (U a) b++(c::r6 (U a) b))) g (q0 (eN .u64) (t8 (U a) b++(c::r6 (U a) b))) 32 1,row f (X b) d (q0 (eN .u64) b) 32 1,ma C 1 (q0 (eN .u64) ([c])) 32 1]:=Z6.rowPart Y (uA (l:=b) (k2:=X b - U a) iq Y A Z Z Y)
 have Q:=P.pk [0]
 obtain rfl:=zj hr zq1
 exact⟨j,g,Z,Q,Y⟩
 refine jF (dF z) (sk (sr ?_))
 have B:X (t8 (U a) b++(c::r6 (U a) b))=X b+1:=by simp only [o2,o0,q5,o1]; omega
 obtain⟨af,p,R⟩:=H.rowFull
 refine Mz Z (Mz Z (Mz Z (fw (vJ (X b+1)) (JN (e:=B7.wrap ((X b:Int)+1)) yk f3) (fw (W f (X (t8 (U a) b++(c::r6 (U a) b))) d) (Yl.to (Ku (iZ) Z Z Y) (ZJ (λ q=>Value.slice f q d) B.symm)) (An Z (JG (sr (Mz Z (Mz Z (fw (vJ (U a)) (JN (e:=a) (JM Z) Y) (Mz Z (fw (vJ (U a+1)) (JN (e:=B7.wrap (((U a:Nat):Int)+1)) yk f3) (fw (W (eU f (U a+1) 1 d) ((X (t8 (U a) b++(c::r6 (U a) b))) - (U a+1)) (d - (U a+1))) (Ka (iZ) Z Z Y) ?_)))))))))))))
 have r:=R.pb [0]
 refine fw (V J) (KN (lo:=U a+1) (run_callFunc_extern Tryz.func183 f1 f1 f1 (e:=Extern.SlicesOverlaps.overlaps #[35,35] #[4]) f1) P9 Tryz.sizeOf32 r f6 Y Z (gI ((r.rds (i:=1) Z).isSome Y) Y)) (Kz (V Zk) (nt (jt (JG ?_))))
 refine pK [8] (JP (JP J3)) r ?_
 intro ax S
 refine qv 0 Z Z (qt (v:=vJ (U a)) 1 Z (λ _ _=>JN (e:=a) (JM Z) Y) (qv 2 Z Z (qt (v:=vJ (U a+1)) 3 Z (λ _ _=>JN (e:=B7.wrap (((U a:Nat):Int)+1)) yk f3) (qt (v:= W (eU f (U a+1) 1 d) ((X (t8 (U a) b++(c::r6 (U a) b))) - (U a+1)) (d - (U a+1))) 4 Z (λ _ _=>Ka (iZ) Z Z Y) (qv 5 Z Z (qt (v:=vJ (U a)) 6 Z (λ _ _=>JN (e:=a) (JM Z) Y) (qt (v:= W (eU f (U a) 1 d) ((X (t8 (U a) b++(c::r6 (U a) b))) - (U a)) (d - (U a))) 7 Z (λ _ _=>Ka (iZ) Z Z Y) ?_)))))))
 have t:=S.pb [0]
 refine qd 8 Z (Kq (lo:=U a+1) (k:=X b - U a) (iZ) t Z (λ _=>gI ((t.rds (i:=0) Z).isSome Y) Y) Y Z (bP.cut (lo:=U a) (hi:=X (t8 (U a) b++(c::r6 (U a) b))) (t.rds (i:=0) Z) Y Y Y) Y (λ u hu=>di mW _ u (by rw [uB iq Y Z Y] at hu; exact hu)) Z ?_)
 intro ay x
 refine⟨.inl f1, ?_⟩
 refine qn (JK (sr (Mz Z (fw (vJ (U a)) (JN (e:=a) (JM Z) Y) (fw (W (eU f (U a) 1 d) ((X (t8 (U a) b++(c::r6 (U a) b))) - (U a)) (d - (U a))) (Ka (iZ) Z Z Y) (Mz Z ?_))))))
 refine WL.do Z (Kq (lo:=U a) (k:=1) (iZ) x Z (λ _=>gI ((x.rds (i:=0) Z).isSome Y) Y) Y Z (dH x (i:=1) Z lJ) Y (λ u hu=>di mW _ u (M2 hu)) Z ?_)
 intro Z8 Z4
 refine ns (Mz Z (An Z (rt (tR (rs ?_)))))
 have Z3:Own w D Z8 [row f (X (t8 (U a) b++(c::r6 (U a) b))) d (q0 (eN .u64) (t8 (U a) b++(c::r6 (U a) b))) 32 1,ma C 1 (q0 (eN .u64) ([c])) 32 1]:=Z4.rowPart Y (uC (l:=b) (m:=(X (t8 (U a) b++(c::r6 (U a) b))) - U a) (k2:=X b - U a) iq Y (by rw [p]; exact Nat.le_mul_of_pos_left 1 Y) Z Z Y Y)
 have Z9:=Z3.pk [0]
 obtain rfl:=zj hr zq1
 exact⟨f,d,Z,Z9,Y⟩
def gy (a:aA) (d:Nat):aA:=
 if((d:Nat):Int) < ((a.a.k:Nat):Int) then a else bnd (eD a.a.f.a d) λ b=>if b.2=Zk then a else bnd (jM a.a.f.a b.1 d) λ c=>aA.q (bD.q a.a.l a.a.r a.a.t a.a.s a.a.g (O a.a.b.a) (O a.a.a.a) (O c) a.a.k a.a.u a.a.j a.a.e) (O a.b.a)
theorem qY (w D d) (a:aA) (p r s u b c x z A B l) (Z7:aA) (H:Own w D w [blk d (kB a p (X a.a.b.a) r s (X a.a.a.a) u b (X a.a.f.a) c a.a.k A x (X a.b.a) z B) 80,row b (X a.a.f.a) c (q0 (eN .u64) a.a.f.a) 32 1]) (ak:X a.a.f.a<=1000) (hr:gy a l=Z7):
    Calls v1 88 #[vP d 0,vU l] w (dM λ v w'=> ∃ f g,v= .tuple #[]/\Own w D w' [blk d (kB a p (X a.a.b.a) r s (X a.a.a.a) u f (X Z7.a.f.a) g a.a.k A x (X a.b.a) z B) 80,row f (X Z7.a.f.a) g (q0 (eN .u64) Z7.a.f.a) 32 1]/\(X Z7.a.f.a<=X a.a.f.a+1)):=by
 unfold gy at hr
 have Z3:=H.rowC (i:=1) Z
 refine cb Tryz.func88 ?_
 refine JG (sr (Mz Z (Mz Z (Kz (vP d 0) (Kz (vP d 0) (Kz (vP d 8) (Lz (vU a.a.k) H 0 E3 (Kz (Zb ((l:Int) < (a.a.k:Int))) (nt ?_)))))))))
 by_cases h:(l:Int) < (a.a.k:Int)
 refine jT (dT h) (rt (tR (JY (res0 Z) ?_)))
 have Z9:=H.pf []
 obtain rfl:=zj hr zq1
 exact⟨b,c,Z,Z9,g5⟩
 refine jF (dF h) (sk (sr (Mz Z (Kz (vP d 0) (Kz (vP d 0) (Kz (vP d 7) (Lz (W b (X a.a.f.a) c) H 0 E4 (Mz Z ?_))))))))
 obtain⟨⟨e,n⟩,j⟩:∃ q:Int × Bool,eD a.a.f.a l=q:=⟨_,Z⟩
 obtain⟨au,K,ag,L,M⟩:=JJ H
 refine cl Tryz.call76 (kP _ _ b (X a.a.f.a) c a.a.f.a l e n K (M _ 1 _ Z bQ) Z Y j) ?_
 rintro _ av ⟨rfl,Z5,C⟩
 have G:=L _ _ Z5
 replace C:0<=e/\e<=(X a.a.f.a:Int):=C
 refine Mz Z (Kz (vI e) (Kz (V n) (Az Z (Ar Z (Mz Z (Kz (V (!n)) (nt ?_)))))))
 rcases Nf (n) with k | k
 refine jF (cn k) (J8 (Kl (res0 Z) ?_))
 have Z1:=G.pf []
 obtain rfl:=zj hr zq3
 exact⟨b,c,Z,Z1,g5⟩
 refine jT (cn k) (JI (Mz Z (Mz Z (Kz (vP d 0) (Kz (vP d 0) (Kz (vP d 7) (Lz (W b (X a.a.f.a) c) G 0 E4 (Mz Z (Mz Z ?_)))))))))
 refine WL.do Z (KQ (cs:= [vU l]) (t:=32) (sz:=1) (m:=1) G Z Z Za Z ?_)
 intro Z6 ax I
 replace I:=Ke (y:=ma Z6 1 (q0 (eN .u64) ([l])) 32 1) Z I
 have Z2:=I.pf [2]
 obtain⟨o,E⟩:∃ q,jM a.a.f.a e l=q:=⟨_,Z⟩
 obtain⟨ay,P,ah,Q,ai⟩:=Ko Z2
 refine cl Tryz.call143 (sD _ _ b (X a.a.f.a) c a.a.f.a e Z6 l o P Z Y Y E) ?_
 rintro _ az ⟨R,S,rfl,Z8,F⟩
 have Z4:=Q _ _ Z8
 have aj:=Z4.rowC (i:=0) Z
 replace F:X o=X a.a.f.a+1:=F
 refine Kz (vP d 0) (Kz (vP d 0) (Kz (vP d 7) ?_))
 have Z0:=Z4.pb [0]
 refine cO [W R (X o) S] 7 Z0 R8 ?_
 intro aB aa
 refine B8 (Kl (res0 Z) ?_)
 have af:=aa.pf []
 obtain rfl:=zj hr zq4
 exact⟨R,S,Z,af,g5⟩
def jc (d:aA):List aY->Nat->Unit ⊕ Bool
  | [],a=>y3 ()
  | e::f,a=>bnd (vN e) λ b=>if b.2=0 then bnd (wF d.a.b.a d.a.l b.1) λ c=>if c=Zk then jc d f (a+1) else y6 (Zy (¬ (((a:Nat):Int) >= 0))) else y6 (Zy (¬ (((a:Nat):Int) >= 0)))
def qK (a:aA) (l1:List aY):Bool:=
 lp (jc a l1 0) λ _=>decide (¬ ((-1) >= 0))
theorem wL (w D h) (a:aA) (d f o p r s t u x y Z6 n1 c1 l1 r0) (H:Own w D w [blk h (kB a d (X a.a.b.a) f o (X a.a.a.a) p r (X a.a.f.a) s a.a.k x t (X a.b.a) u y) 80]) (L:Ro w D λ w'=>bP w' 2 d (X a.a.b.a) (q0 bO.J a.a.b.a)) (ah:X a.a.b.a<=f/\X a.a.b.a<=9223372036854775807) (M:Ro w D λ w'=>bP w' 6 Z6 n1 (q0 aY.J l1)) (ai:n1=X l1) (aP:X l1<=9223372036854775807) (aQ:X a.a.b.a<=1000) (hr:qK a l1=r0):
    Calls v1 133 #[vP h 0, W Z6 n1 c1] w (dM λ v w'=>v= V r0/\Own w D w' [blk h (kB a d (X a.a.b.a) f o (X a.a.a.a) p r (X a.a.f.a) s a.a.k x t (X a.b.a) u y) 80]):=by
 subst ai
 refine cb Tryz.func133 ?_
 refine sr ?_
 refine cu [vP h 0] 28 H ?_
 intro G aR aj
 refine Ar Z (Mz Z (Kz (.func (.func 179) #[] #[vP G 0]) ?_))
 refine WL.do Z (J6 Tryz.call153 Z ?_ (λ _ _ k=>k))
 refine cb Tryz.func153 ?_
 refine sr (Ar Z (Mz Z (Mz Z ?_)))
 refine WL.do Z (J6 Tryz.call195 Z ?_ (λ _ _ k=>k))
 refine cb Tryz.func195 ?_
 refine sr (An Z (JG (sr (Mz Z (Kz (vJ (X l1)) (Mn Z (bo ?_)))))))
 have ak:=aj.pf []
 obtain⟨av,z⟩:=mE λ (c:Nat) w'=>Own w D w' [blk G [vP h 0] 28,blk h (kB a d (X a.a.b.a) f o (X a.a.a.a) p r (X a.a.f.a) s a.a.k x t (X a.b.a) u y) 80]/\c<=X l1/\jc a l1 0=jc a (r6 c l1) c
 refine B4 (λ i:Nat=> [(4,vI 0),(8,vJ i),(7,vJ (X l1)),(0, W Z6 (X l1) c1),(1, .func (.func 179) #[] #[vP G 0])]) av (λ i=>X l1 - i) 0 ⟨Z,Z,Z,Z,Z,ZW⟩ (z.2 ⟨ak,Y,Z⟩) ?_
 rintro c aS P
 show Wp _ _ _ [(4,vI 0),(8,vJ c),(7,vJ (X l1)),(0, W Z6 (X l1) c1),(1, .func (.func 179) #[] #[vP G 0])] _ _
 obtain⟨A,aL,j⟩:=z.1 P
 refine sr (Kz (Zb ((c:Int) < (X l1:Int))) (nt (JG ?_)))
 by_cases Q:(c:Int) < (X l1:Int)
 obtain⟨n,K⟩:=dJ (ls:=l1) (i:=c) aY.len f6 (A.ro M) f4
 have B:=drop_at K
 refine jT (dT Q) (sk (JG (bo (sr (Mz Z (Ar Z (Mz Z (Mz Z (Mz Z (fw (Zq (Zw ⟨ab Z6,ao Z6+c *6,Zv⟩)) (JU (oD) Z Z ((A.ro M).addr (i:=c) Y) Y) (fw (Zx (Zc (aY.J n))) (JS Z (JW (cs:=(aY.J n)) C6 C5 ((A.ro M).elem aY.len K f6))) ?_)))))))))))
 refine WL.do Z (Kh Tryz.call179 Z Z ?_ (λ _ _ k=>k))
 refine cb Tryz.func179 ?_
 refine sr ?_
 refine cu (aY.J n) 68 A ?_
 intro aT aU R
 refine Ar Z (La (aY.J n) R 0 C6 C5 ?_)
 obtain⟨⟨g,C⟩,l⟩:∃ q:au × Int,vN n=q:=⟨_,Z⟩
 obtain⟨aV,S,aM,Z8,aN⟩:=JJ R
 refine cl Tryz.call155 (zD _ _ n g C S l) ?_
 rintro _ aW ⟨rfl,Z4⟩
 have ax:=Z8 _ _ Z4
 refine Mz Z (Kz (Zx (Zc (au.J g))) (Kz (vI C) ?_))
 refine cu [Zz ⟨Zc []⟩, Zz ⟨Zc []⟩] 37 ax ?_
 intro aX aZ ay
 refine cO (au.J g) 0 ay C7 ?_
 intro bf az
 refine An Z (JG ?_)
 have aB:=az.pk [0,2,3]
 refine zx [] (JP J3) aB ?_
 intro bg Z3
 refine qv 0 Z Z (qt (v:= Zb (¬ (C=0))) 1 Z (λ _ _=>JZ (e:= !(Zy (C=0))) yk ZY) (qv 2 Z Z ?_))
 by_cases b:C=0
 refine JQ (v:=vP h 0) (rs:= []) 3 Z Z Z (dF (Nc b)) f1 (λ _ ⟨_,I⟩=>JS Z (bT.one Tryz.isAgg28 (Kk (I.cls (i:=1) Z) Z))) (JQ (v:=vP h 0) (rs:= []) 4 Z Z Z (dF (Nc b)) f1 (λ _ _=>yk) (JQ (v:=vP h 0) (rs:= []) 5 Z Z Z (dF (Nc b)) f1 (λ _ _=>yk) (JQ (v:=vP h 5) (rs:= []) 6 Z Z Z (dF (Nc b)) f1 (λ _ _=>yk) (JQ (v:= W d (X a.a.b.a) f) (rs:= []) 7 Z Z Z (dF (Nc b)) f1 (λ _ ⟨_,I⟩=>JS Z (bT.one R7 (Kk (I.cls (i:=2) Z) Z))) (JQ (v:=vP h 0) (rs:= []) 8 Z Z Z (dF (Nc b)) f1 (λ _ ⟨_,I⟩=>JS Z (bT.one Tryz.isAgg28 (Kk (I.cls (i:=1) Z) Z))) (JQ (v:=vP h 0) (rs:= []) 9 Z Z Z (dF (Nc b)) f1 (λ _ _=>yk) (JQ (v:=vP h 0) (rs:= []) 10 Z Z Z (dF (Nc b)) f1 (λ _ _=>yk) (JQ (v:=vP h 0) (rs:= []) 11 Z Z Z (dF (Nc b)) f1 (λ _ _=>yk) (JQ (v:=vI a.a.l) (rs:= []) 12 Z Z Z (dF (Nc b)) f1 (λ _ ⟨_,I⟩=>JS Z (bT.one Tryz.isAgg3 (Kk (I.cls (i:=2) Z) Z))) (JQ (v:= Zx (Zc (au.J g))) (rs:= []) 13 Z Z Z (dF (Nc b)) f1 (λ _ ⟨_,I⟩=>JS Z (JW (cs:=(au.J g)) D0 C7 ((I.cls (i:=0) Z).lit (k:=0) (m:=2) Z))) ?_))))))))))
 obtain⟨Z7,E⟩:∃ q,wF a.a.b.a a.a.l g=q:=⟨_,Z⟩
 obtain⟨bi,Z9,Z1,Z2,aO⟩:=JJ Z3
 refine Ky 14 Z Z Z (dF (Nc b)) f1 (J6 Tryz.call91 Z (Bh _ _ d (X a.a.b.a) f a.a.b.a a.a.l g Z7 Z9 (Z1 _ L) Z Y E) ?_)
 rintro _ bn ⟨rfl,Z0⟩
 have Z5:=Z2 _ _ Z0
 refine⟨.inr ⟨_,Z5⟩, ?_⟩
 refine JQ (v:= V (!Z7)) (rs:= []) 15 Z Z Z (dF (Nc b)) f1 (λ _ _=>yk) (qt (v:= V (!Z7)) 16 Z (λ _ _=>JH Z (dF (Nc b)) Z) (qa 17 Z Z (qn (JK (rt (rs (nt ?_)))))))
 rcases Nf (Z7) with F | F
 refine jF (cn F) (J8 (bN (JK ?_)))
 have aC:=Z5.pk [1,2]
 refine JI (fw (vJ (c+1)) (JN (e:=B7.wrap ((c:Int)+1)) yk f3) (Mz Z (B8 ?_)))
 have aD:=aC.pf []
 exact JX (c+1) ⟨Z,Z,Z,Z,Z,ZW⟩ (z.2 ⟨aD,Y,N (j) (N (ZJ (λ q=>jc a q c) B) (N (ae l) (N (ip b) (N (ae E) (ip F)))))⟩) (by show X l1 - (c+1) < X l1 - c; omega)
 refine jT (cn F) (JG ?_)
 have aF:=Z5.pk [1,2]
 refine JI (Mz Z (An Z (rt (bR (tR (tR (bR (tR (rs (Kz (Zb ((c:Int) >= 0)) (An Z (rt (rs (fw (Zb (¬ ((c:Int) >= 0))) (JZ (e:= !(Zy ((c:Int) >= 0))) yk ZY) (An Z (rt (rs ?_)))))))))))))))))
 have aG:=aF.pk [1]
 obtain rfl:_=Zy (¬ ((c:Int) >= 0)):=zj hr (iJ (N (j) (N (ZJ (λ q=>jc a q c) B) (N (ae l) (N (ip b) (N (ae E) (eP F)))))))
 exact⟨Z,aG⟩
 refine JO (rs:= []) 3 Z Z Z (dT b) f1 (JO (rs:= []) 4 Z Z Z (dT b) f1 (JO (rs:= []) 5 Z Z Z (dT b) f1 (JO (rs:= []) 6 Z Z Z (dT b) f1 (JO (rs:= []) 7 Z Z Z (dT b) f1 (JO (rs:= []) 8 Z Z Z (dT b) f1 (JO (rs:= []) 9 Z Z Z (dT b) f1 (JO (rs:= []) 10 Z Z Z (dT b) f1 (JO (rs:= []) 11 Z Z Z (dT b) f1 (JO (rs:= []) 12 Z Z Z (dT b) f1 (JO (rs:= []) 13 Z Z Z (dT b) f1 (JO (rs:= []) 14 Z Z Z (dT b) f1 (JO (rs:= []) 15 Z Z Z (dT b) f1 (qt (v:= V Zk) 16 Z (λ _ _=>JL Z (dT b) Z) (qa 17 Z Z (qn (JK (rt (rs (nt (jt (JG ?_)))))))))))))))))))))
 have aH:=Z3.pk [1,2]
 refine JI (Mz Z (An Z (rt (bR (tR (tR (bR (tR (rs (Kz (Zb ((c:Int) >= 0)) (An Z (rt (rs (fw (Zb (¬ ((c:Int) >= 0))) (JZ (e:= !(Zy ((c:Int) >= 0))) yk ZY) (An Z (rt (rs ?_)))))))))))))))))
 have aI:=aH.pk [1]
 obtain rfl:_=Zy (¬ ((c:Int) >= 0)):=zj hr (iJ (N (j) (N (ZJ (λ q=>jc a q c) B) (N (ae l) (iN b)))))
 exact⟨Z,aI⟩
 refine jF (dF Q) (B9 (JV ?_))
 have aa:jc a l1 0=y3 ():=N (j) (N (ZJ (λ q=>jc a q c) (eH (ls:=l1) (i:=c) Y)) Z)
 refine JV (J2 (JK (sr (An Z (rt (rs (Kz (Zb ((-1) >= 0)) (An Z (rt (rs (fw (Zb (¬ ((-1) >= 0))) (JZ (e:= !(Zy ((-1) >= 0))) yk ZY) (An Z (rt (rs ?_))))))))))))))
 have aJ:=A.pk [1]
 obtain rfl:_=Zy (¬ ((-1) >= 0)):=zj hr (lD aa)
 exact⟨Z,aJ⟩
def jL (e:au):List aY->Nat->Unit ⊕ Bool
  | [],a=>y3 ()
  | f::c,a=>bnd (vN f) λ b=>bnd (lq b.1 e) λ d=>if b.2=0 then if d.2=Zk then y6 (Zy (((a:Nat):Int) >= 0)) else jL e c (a+1) else jL e c (a+1)
def uO (a:List aY) (b:au):Bool:=
 lp (jL b a 0) λ _=>decide ((-1) >= 0)
theorem zN (w D B Z6 P b) (d:au) (r0) (H:Own w D w []) (x:Ro w D λ w'=>bP w' 6 B Z6 (q0 aY.J b)) (Q:Z6=X b) (az:X b<=9223372036854775807) (hr:uO b d=r0):
    Calls v1 180 #[W B Z6 P, Zx (Zc (au.J d))] w (dM λ v w'=>v= V r0/\Own w D w' []):=by
 subst Q
 refine cb Tryz.func180 ?_
 refine sr ?_
 refine cu (au.J d) 37 H ?_
 intro s aA R
 refine Ar Z (Mz Z (Kz (.func (.func 216) #[] #[vP s 0]) ?_))
 refine WL.do Z (J6 Tryz.call153 Z ?_ (λ _ _ k=>k))
 refine cb Tryz.func153 ?_
 refine sr (Ar Z (Mz Z (Mz Z ?_)))
 refine WL.do Z (J6 Tryz.call195 Z ?_ (λ _ _ k=>k))
 refine cb Tryz.func195 ?_
 refine sr (An Z (JG (sr (Mz Z (Kz (vJ (X b)) (Mn Z (bo ?_)))))))
 have S:=R.pf []
 obtain⟨Z8,f⟩:=mE λ (a:Nat) w'=>Own w D w' [blk s (au.J d) 37]/\a<=X b/\jL d b 0=jL d (r6 a b) a
 refine B4 (λ i:Nat=> [(4,vI 0),(8,vJ i),(7,vJ (X b)),(0, W B (X b) P),(1, .func (.func 216) #[] #[vP s 0])]) Z8 (λ i=>X b - i) 0 ⟨Z,Z,Z,Z,Z,ZW⟩ (f.2 ⟨S,Y,Z⟩) ?_
 rintro a aB C
 show Wp _ _ _ [(4,vI 0),(8,vJ a),(7,vJ (X b)),(0, W B (X b) P),(1, .func (.func 216) #[] #[vP s 0])] _ _
 obtain⟨n,aj,g⟩:=f.1 C
 refine sr (Kz (Zb ((a:Int) < (X b:Int))) (nt (JG ?_)))
 by_cases E:(a:Int) < (X b:Int)
 obtain⟨l,u⟩:=dJ (ls:=b) (i:=a) aY.len f6 (n.ro x) f4
 have o:=drop_at u
 refine jT (dT E) (sk (JG (bo (sr (Mz Z (Ar Z (Mz Z (Mz Z (Mz Z (fw (Zq (Zw ⟨ab B,ao B+a *6,Zv⟩)) (JU (oD) Z Z ((n.ro x).addr (i:=a) Y) Y) (fw (Zx (Zc (aY.J l))) (JS Z (JW (cs:=(aY.J l)) C6 C5 ((n.ro x).elem aY.len u f6))) ?_)))))))))))
 refine WL.do Z (Kh Tryz.call216 Z Z ?_ (λ _ _ k=>k))
 refine cb Tryz.func216 ?_
 refine sr ?_
 refine cu (aY.J l) 68 n ?_
 intro aC aD F
 refine Ar Z (La (aY.J l) F 0 C6 C5 ?_)
 obtain⟨⟨m,t⟩,h⟩:∃ q:au × Int,vN l=q:=⟨_,Z⟩
 obtain⟨aF,G,ak,I,av⟩:=JJ F
 refine cl Tryz.call155 (zD _ _ l m t G h) ?_
 rintro _ aG ⟨rfl,Z7⟩
 have Z4:=I _ _ Z7
 refine Mz Z (Kz (Zx (Zc (au.J m))) (Kz (vI t) ?_))
 refine cu [Zz ⟨Zc []⟩, Zz ⟨Zc []⟩] 37 Z4 ?_
 intro aH aI Z3
 refine cO (au.J m) 0 Z3 C7 ?_
 intro aJ Z9
 refine An Z (JG ?_)
 have y:=Z9.pk [0,2]
 refine JI (La (au.J m) y 0 D0 C7 (La (au.J d) y 1 D0 C7 ?_))
 obtain⟨⟨z,p⟩,j⟩:∃ q:au × Bool,lq m d=q:=⟨_,Z⟩
 obtain⟨aK,K,ax,L,ay⟩:=JJ y
 refine cl Tryz.call152 (qf _ _ m d z p K j) ?_
 rintro _ aL ⟨rfl,M⟩
 have Z1:=L _ _ M
 refine Mz Z (Kz (Zx (Zc (au.J z))) (Kz (V p) ?_))
 refine cu [Zz ⟨Zc []⟩, Zz ⟨Zc []⟩] 37 Z1 ?_
 intro aM aN Z2
 refine cO (au.J z) 0 Z2 C7 ?_
 intro aO Z0
 refine An Z (JG ?_)
 have A:=Z0.pk [2]
 refine JI (Mz Z (Kz (Zb (t=0)) (Mz Z ?_)))
 by_cases c:t=0
 refine gw (V p) (dT c) (JM Z) (fw (V p) (JL Z (dT c) Z) (An Z (rt (rs (nt ?_)))))
 rcases Nf (p) with r | r
 refine jT r (sr (Mz Z (An Z (rt (bR (tR (tR (bR (tR (rs (Kz (Zb ((a:Int) >= 0)) (An Z (rt (rs (An Z (rt (rs ?_)))))))))))))))))
 have aa:=A.pk []
 obtain rfl:_=Zy ((a:Int) >= 0):=zj hr (iJ (N (g) (N (ZJ (λ q=>jL d q a) o) (N (ae h) (N (ae j) (N (ip c) (ip r)))))))
 exact⟨Z,aa⟩
 refine jF r (J8 (bN (JK (JI (fw (vJ (a+1)) (JN (e:=B7.wrap ((a:Int)+1)) yk f3) (Mz Z (B8 ?_)))))))
 have af:=A.pf []
 exact JX (a+1) ⟨Z,Z,Z,Z,Z,ZW⟩ (f.2 ⟨af,Y,N (g) (N (ZJ (λ q=>jL d q a) o) (N (ae h) (N (ae j) (N (ip c) (eP r)))))⟩) (by show X b - (a+1) < X b - a; omega)
 refine T (dF c) (fw (V J) (JH Z (dF c) Z) (An Z (rt (rs (nt (jf (J8 (bN (JK (JI (fw (vJ (a+1)) (JN (e:=B7.wrap ((a:Int)+1)) yk f3) (Mz Z (B8 ?_)))))))))))))
 have ag:=A.pf []
 exact JX (a+1) ⟨Z,Z,Z,Z,Z,ZW⟩ (f.2 ⟨ag,Y,N (g) (N (ZJ (λ q=>jL d q a) o) (N (ae h) (N (ae j) (iN c))))⟩) (by show X b - (a+1) < X b - a; omega)
 refine jF (dF E) (B9 (JV ?_))
 have Z5:jL d b 0=y3 ():=N (g) (N (ZJ (λ q=>jL d q a) (eH (ls:=b) (i:=a) Y)) Z)
 refine JV (J2 (JK (sr (An Z (rt (rs (Kz (Zb ((-1) >= 0)) (An Z (rt (rs (An Z (rt (rs ?_)))))))))))))
 have ah:=n.pk []
 obtain rfl:_=Zy ((-1) >= 0):=zj hr (lD Z5)
 exact⟨Z,ah⟩
def pJ (b:aA) (l1:List aY):Bool:=
 if((b.a.u:Nat):Int)=0 then J else bnd (uO l1 b.a.j) λ a=>if a=Zk then Zk else J
theorem vD (w D c) (a:aA) (g h i j k l m n o p z A B l1 Z7) (H:Own w D w [blk c (kB a g (X a.a.b.a) h i (X a.a.a.a) j k (X a.a.f.a) l a.a.k o m (X a.b.a) n p) 80]) (C:Ro w D λ w'=>bP w' 6 z A (q0 aY.J l1)) (E:A=X l1) (L:X l1<=9223372036854775807) (hr:pJ a l1=Z7):
    Calls v1 134 #[vP c 0, W z A B] w (dM λ v w'=>v= V Z7/\Own w D w' [blk c (kB a g (X a.a.b.a) h i (X a.a.a.a) j k (X a.a.f.a) l a.a.k o m (X a.b.a) n p) 80]):=by
 unfold pJ at hr
 subst E
 refine cb Tryz.func134 ?_
 refine sr (An Z (JG (sr (Mz Z (Kz (vP c 0) (Kz (vP c 0) (Kz (vP c 9) (Lz (vU a.a.u) H 0 E3 (fw (Zb (¬ ((a.a.u:Int)=0))) (JZ (e:= !(Zy ((a.a.u:Int)=0))) yk ZY) (Mz Z ?_))))))))))
 by_cases b:(a.a.u:Int)=0
 refine Sk Z Z (dF (Nc b)) Z (Sk Z Z (dF (Nc b)) Z (Sk Z Z (dF (Nc b)) Z (Sk Z Z (dF (Nc b)) Z (Sk Z Z (dF (Nc b)) Z (Sk Z Z (dF (Nc b)) Z (Sk Z Z (dF (Nc b)) Z (fw (V J) (JH Z (dF (Nc b)) Z) (nt (jf (sk (sr (Mz Z (Kz (vP c 0) (Kz (vP c 20) (Lz (Zq Zv) H 0 Tryz.isAgg78 (Kz (V J) (Mz Z (T Z (T Z (T Z (T Z (T Z (T Z (T Z (fw (V J) (JH Z Z Z) (Mz Z (T Z (T Z (T Z (T Z (T Z (T Z (T Z (T Z (T Z (fw (V J) (JH Z Z Z) ?_))))))))))))))))))))))))))))))))))))
 refine An Z (rt (rs ?_))
 have F:=H.pf []
 obtain rfl:=zj hr zq1
 exact⟨Z,F⟩
 refine gw (W z (X l1) B) (dT b) (JM Z) (gw (vP c 0) (dT b) (JM Z) (Gz (vP c 0) (dT b) (Gz (vP c 0) (dT b) (Gz (vP c 10) (dT b) (Ga (au.J a.a.j) (dT b) H 0 D0 C7 ?_)))))
 obtain⟨r,d⟩:∃ q,uO l1 a.a.j=q:=⟨_,Z⟩
 obtain⟨M,t,u,x,K⟩:=JJ H
 refine oC (dT b) Tryz.call180 (zN _ _ z (X l1) B l1 a.a.j r t (u _ C) Z Y d) ?_
 rintro _ Z5 ⟨rfl,y⟩
 have s:=x _ _ y
 refine fw (V r) (JL Z (dT b) Z) (nt ?_)
 rcases Nf (r) with f | f
 refine jT f (sr (An Z (rt (tR (rs ?_)))))
 have G:=s.pf []
 obtain rfl:=zj hr zq3
 exact⟨Z,G⟩
 refine jF f (sk (sr (Mz Z (Kz (vP c 0) (Kz (vP c 20) (Lz (Zq Zv) s 0 Tryz.isAgg78 (Kz (V J) (Mz Z (T Z (T Z (T Z (T Z (T Z (T Z (T Z (fw (V J) (JH Z Z Z) (Mz Z (T Z (T Z (T Z (T Z (T Z (T Z (T Z (T Z (T Z (fw (V J) (JH Z Z Z) (An Z (rt (rs ?_))))))))))))))))))))))))))))))
 have I:=s.pf []
 obtain rfl:=zj hr zq3
 exact⟨Z,I⟩
def jA (a:aA) (d:dK):Bool:=
 if B7.wrap (((X a.a.a.a:Nat):Int)+((X a.b.a:Nat):Int)) >= 6 then Zk else if B7.wrap ((B7.wrap (((X a.a.a.a:Nat):Int)+((X a.b.a:Nat):Int)))+((X a.a.f.a:Nat):Int)) >= 64 then Zk else if((d.s:Nat):Int)=((a.a.s:Nat):Int) then bnd (qK a d.a.a) λ b=>if b=Zk then bnd (pJ a d.a.a) λ c=>c else Zk else Zk
theorem uR (w D l) (a:aA) (n m r s o p t u y z) (d:dK) (j L k B M C E F Z5 G r0) (H:Own w D w [blk l (kB a n (X a.a.b.a) m r (X a.a.a.a) s o (X a.a.f.a) p a.a.k y t (X a.b.a) u z) 80]) (Q:Ro w D λ w'=>bP w' 2 n (X a.a.b.a) (q0 bO.J a.a.b.a)) (az:X a.a.b.a<=m/\X a.a.b.a<=9223372036854775807) (R:L=X d.a.a) (I:Ro w D λ w'=>bP w' 6 j (X d.a.a) (q0 aY.J d.a.a)) (aB:X d.a.a<=k/\X d.a.a<=9223372036854775807) (S:r7 aR.abs E=d.l.a) (Z8:M=X d.l.a) (aC:Ro w D λ w'=>bP w' 3 B (X d.l.a) (q0 aR.J E)) (aD:X d.l.a<=C/\X d.l.a<=9223372036854775807) (aF:∀ x ∈ E,Ro w D (λ w'=>bP w' 2 x.a.A (X x.a.a) (q0 ay.J x.a.a))/\(X x.a.a<=x.a.c/\X x.a.a<=9223372036854775807)) (Z4:Z5=X d.b.a) (aG:Ro w D λ w'=>bP w' 2 F (X d.b.a) (q0 bO.J d.b.a)) (aH:X d.b.a<=G/\X d.b.a<=9223372036854775807) (aX:X a.a.b.a<=1000) (hr:jA a d=r0):
    Calls v1 80 #[vP l 0, Zx (Zc (iF d.e d.G d.C d.I d.y d.F d.z d.r d.f d.k d.t d.s d.g d.u d.E d.D d.j.a d.j.b j L k B M C F Z5 G))] w (dM λ v w'=>v= V r0/\Own w D w' [blk l (kB a n (X a.a.b.a) m r (X a.a.a.a) s o (X a.a.f.a) p a.a.k y t (X a.b.a) u z) 80]):=by
 unfold jA at hr
 subst R Z8 Z4
 have ax:=bg S
 refine cb Tryz.func80 ?_
 refine sr ?_
 refine cu (mF d j k B C F G) 47 H ?_
 intro Z3 aZ aI
 refine An Z (JG ?_)
 refine pK [] (JP J3) aI ?_
 intro bf Z9
 refine qv 0 Z Z (qp l 0 1 Z (qp l 0 2 Z (qp l 6 3 Z (ql 4 Z 1 E0 Z Z Z (qk (vJ (X a.a.a.a)) 5 Z (qv 6 Z Z (qp l 0 7 Z (qp l 18 8 Z (ql 9 Z 1 S1 Z Z Z (qk (vJ (X a.b.a)) 10 Z (qk (vI (B7.wrap ((X a.a.a.a:Int)+(X a.b.a:Int)))) 11 Z (qa 12 Z Z (qn (JK (sr (Mz Z (Kz (Zb (B7.wrap ((X a.a.a.a:Int)+(X a.b.a:Int)) >= 6)) (Mz Z ?_))))))))))))))))))
 by_cases b:B7.wrap ((X a.a.a.a:Int)+(X a.b.a:Int)) >= 6
 refine T (dT b) (T (dT b) (T (dT b) (T (dT b) (T (dT b) (T (dT b) (T (dT b) (T (dT b) (T (dT b) (fw (V Zk) (JL Z (dT b) Z) (An Z (JG ?_)))))))))))
 refine pK [] (JP J3) Z9 ?_
 intro bi aJ
 refine qv 0 Z Z (qv 1 Z Z (JO (rs:= []) 2 Z Z Z Z f1 (JO (rs:= []) 3 Z Z Z Z f1 (JO (rs:= []) 4 Z Z Z Z f1 (JO (rs:= []) 5 Z Z Z Z f1 (JO (rs:= []) 6 Z Z Z Z f1 (JO (rs:= []) 7 Z Z Z Z f1 (JO (rs:= []) 8 Z Z Z Z f1 (JO (rs:= []) 9 Z Z Z Z f1 (qt (v:= V Zk) 10 Z (λ _ _=>JL Z Z Z) (qv 11 Z Z (JO (rs:= []) 12 Z Z Z Z f1 (JO (rs:= []) 13 Z Z Z Z f1 (JO (rs:= []) 14 Z Z Z Z f1 (JO (rs:= []) 15 Z Z Z Z f1 (JO (rs:= []) 16 Z Z Z Z f1 (qt (v:= V Zk) 17 Z (λ _ _=>JL Z Z Z) (qv 18 Z Z (JO (rs:= []) 19 Z Z Z Z f1 (JO (rs:= []) 20 Z Z Z Z f1 (JO (rs:= []) 21 Z Z Z Z f1 (JO (rs:= []) 22 Z Z Z Z f1 (qt (v:= V Zk) 23 Z (λ _ _=>JL Z Z Z) (qa 24 Z Z (qn (JK (rt (rs ?_))))))))))))))))))))))))))))
 have aK:=aJ.pk [1]
 obtain rfl:=zj hr zq1
 exact⟨Z,aK⟩
 refine gw (vI (B7.wrap ((X a.a.a.a:Int)+(X a.b.a:Int)))) (dF b) (JM Z) (gw (vP l 0) (dF b) (JM Z) (Gz (vP l 0) (dF b) (Gz (vP l 0) (dF b) (Gz (vP l 7) (dF b) (Gl (W o (X a.a.f.a) p) (dF b) Z9 1 E4 (Gz (vJ (X a.a.f.a)) (dF b) (Gz (vI (B7.wrap ((B7.wrap ((X a.a.a.a:Int)+(X a.b.a:Int)))+(X a.a.f.a:Int)))) (dF b) (Gz (Zb (B7.wrap ((B7.wrap ((X a.a.a.a:Int)+(X a.b.a:Int)))+(X a.a.f.a:Int)) >= 64)) (dF b) (fw (Zb (B7.wrap ((B7.wrap ((X a.a.a.a:Int)+(X a.b.a:Int)))+(X a.a.f.a:Int)) >= 64)) (JH Z (dF b) Z) (An Z (JG ?_)))))))))))
 refine pK [] (JP J3) Z9 ?_
 intro bn Z1
 refine qv 0 Z Z (qv 1 Z Z ?_)
 by_cases f:B7.wrap ((B7.wrap ((X a.a.a.a:Int)+(X a.b.a:Int)))+(X a.a.f.a:Int)) >= 64
 refine JO (rs:= []) 2 Z Z Z (dT f) f1 (JO (rs:= []) 3 Z Z Z (dT f) f1 (JO (rs:= []) 4 Z Z Z (dT f) f1 (JO (rs:= []) 5 Z Z Z (dT f) f1 (JO (rs:= []) 6 Z Z Z (dT f) f1 (JO (rs:= []) 7 Z Z Z (dT f) f1 (JO (rs:= []) 8 Z Z Z (dT f) f1 (JO (rs:= []) 9 Z Z Z (dT f) f1 (qt (v:= V Zk) 10 Z (λ _ _=>JL Z (dT f) Z) (qv 11 Z Z (JO (rs:= []) 12 Z Z Z Z f1 (JO (rs:= []) 13 Z Z Z Z f1 (JO (rs:= []) 14 Z Z Z Z f1 (JO (rs:= []) 15 Z Z Z Z f1 (JO (rs:= []) 16 Z Z Z Z f1 (qt (v:= V Zk) 17 Z (λ _ _=>JL Z Z Z) (qv 18 Z Z (JO (rs:= []) 19 Z Z Z Z f1 (JO (rs:= []) 20 Z Z Z Z f1 (JO (rs:= []) 21 Z Z Z Z f1 (JO (rs:= []) 22 Z Z Z Z f1 (qt (v:= V Zk) 23 Z (λ _ _=>JL Z Z Z) (qa 24 Z Z (qn (JK (rt (rs ?_))))))))))))))))))))))))))
 have aL:=Z1.pk [1]
 obtain rfl:=zj hr zq2
 exact⟨Z,aL⟩
 refine JQ (v:=vP Z3 11) (rs:= []) 2 Z Z Z (dF f) f1 (λ _ _=>yk) (JQ (v:=vU d.s) (rs:= []) 3 Z Z Z (dF f) f1 (λ _ ⟨_,Z2⟩=>JS Z (bT.one E3 (Kk (Z2.cls (i:=0) Z) Z))) (JQ (v:=vP l 0) (rs:= []) 4 Z Z Z (dF f) f1 (λ _ _=>JM Z) (JQ (v:=vP l 0) (rs:= []) 5 Z Z Z (dF f) f1 (λ _ _=>yk) (JQ (v:=vP l 0) (rs:= []) 6 Z Z Z (dF f) f1 (λ _ _=>yk) (JQ (v:=vP l 3) (rs:= []) 7 Z Z Z (dF f) f1 (λ _ _=>yk) (JQ (v:=vU a.a.s) (rs:= []) 8 Z Z Z (dF f) f1 (λ _ ⟨_,Z2⟩=>JS Z (bT.one E3 (Kk (Z2.cls (i:=1) Z) Z))) (JQ (v:= Zb (¬ ((d.s:Int)=(a.a.s:Int)))) (rs:= []) 9 Z Z Z (dF f) f1 (λ _ _=>JZ (e:= !(Zy ((d.s:Int)=(a.a.s:Int)))) yk ZY) (qt (v:= Zb (¬ ((d.s:Int)=(a.a.s:Int)))) 10 Z (λ _ _=>JH Z (dF f) Z) (qv 11 Z Z ?_)))))))))
 by_cases g:(d.s:Int)=(a.a.s:Int)
 refine JQ (v:=vP l 0) (rs:= []) 12 Z Z Z (dF (Nc g)) f1 (λ _ _=>JM Z) (JQ (v:=vP Z3 18) (rs:= []) 13 Z Z Z (dF (Nc g)) f1 (λ _ _=>yk) (JQ (v:= W j (X d.a.a) k) (rs:= []) 14 Z Z Z (dF (Nc g)) f1 (λ _ ⟨_,Z2⟩=>JS Z (bT.one E6 (Kk (Z2.cls (i:=0) Z) Z))) ?_))
 have aM:=Z1.pb [0]
 obtain⟨K,Z7⟩:∃ q,qK a d.a.a=q:=⟨_,Z⟩
 obtain⟨bq,af,Z6,ag,aV⟩:=Kb aM
 refine Ky 15 Z Z Z (decide_eq_false (Nc g)) f1 (J6 Tryz.call133 Z (wL _ _ l a n m r s o p t u y z j (X d.a.a) k d.a.a K af (Z6 _ Q) Y (Z6 _ I) Z Y f2 Z7) ?_)
 rintro _ bu ⟨rfl,ah⟩
 have aN:=ag _ _ ah
 have Z0:=aN.pb [0]
 refine⟨.inr ⟨_,Z0⟩, ?_⟩
 refine JQ (v:= V (!K)) (rs:= []) 16 Z Z Z (dF (Nc g)) f1 (λ _ _=>yk) (qt (v:= V (!K)) 17 Z (λ _ _=>JH Z (dF (Nc g)) Z) (qv 18 Z Z ?_))
 rcases Nf (K) with h | h
 refine JQ (v:=vP l 0) (rs:= []) 19 Z Z Z (cn h) f1 (λ _ _=>JM Z) (JQ (v:=vP Z3 18) (rs:= []) 20 Z Z Z (cn h) f1 (λ _ _=>yk) (JQ (v:= W j (X d.a.a) k) (rs:= []) 21 Z Z Z (cn h) f1 (λ _ ⟨_,Z2⟩=>JS Z (bT.one E6 (Kk (Z2.cls (i:=0) Z) Z))) ?_))
 have aO:=Z0.pb [0]
 obtain⟨aa,P⟩:∃ q,pJ a d.a.a=q:=⟨_,Z⟩
 obtain⟨bv,ai,aj,ak,aW⟩:=Kb aO
 refine Ky 22 Z Z Z (cn h) f1 (J6 Tryz.call134 Z (vD _ _ l a n m r s o p t u y z j (X d.a.a) k d.a.a aa ai (aj _ I) Z Y P) ?_)
 rintro _ bz ⟨rfl,au⟩
 have aP:=ak _ _ au
 have av:=aP.pb [0]
 refine⟨.inr ⟨_,av⟩, ?_⟩
 refine qt (v:= V aa) 23 Z (λ _ _=>JH Z (cn h) Z) (qa 24 Z Z (qn (JK (rt (rs ?_)))))
 have aQ:=av.pk [1]
 obtain rfl:=zj hr zq6
 exact⟨Z,aQ⟩
 refine JO (rs:= []) 19 Z Z Z (cn h) f1 (JO (rs:= []) 20 Z Z Z (cn h) f1 (JO (rs:= []) 21 Z Z Z (cn h) f1 (JO (rs:= []) 22 Z Z Z (cn h) f1 (qt (v:= V Zk) 23 Z (λ _ _=>JL Z (cn h) Z) (qa 24 Z Z (qn (JK (rt (rs ?_)))))))))
 have aS:=Z0.pk [1]
 obtain rfl:=zj hr zq5
 exact⟨Z,aS⟩
 refine JO (rs:= []) 12 Z Z Z (dT g) f1 (JO (rs:= []) 13 Z Z Z (dT g) f1 (JO (rs:= []) 14 Z Z Z (dT g) f1 (JO (rs:= []) 15 Z Z Z (dT g) f1 (JO (rs:= []) 16 Z Z Z (dT g) f1 (qt (v:= V Zk) 17 Z (λ _ _=>JL Z (dT g) Z) (qv 18 Z Z (JO (rs:= []) 19 Z Z Z Z f1 (JO (rs:= []) 20 Z Z Z Z f1 (JO (rs:= []) 21 Z Z Z Z f1 (JO (rs:= []) 22 Z Z Z Z f1 (qt (v:= V Zk) 23 Z (λ _ _=>JL Z Z Z) (qa 24 Z Z (qn (JK (rt (rs ?_))))))))))))))))
 have aT:=Z1.pk [1]
 obtain rfl:=zj hr zq3
 exact⟨Z,aT⟩
def dU (b:aA) (c:Nat):aA:=
 bnd (bX b c) λ a=>if a.2=Zk then aA.q b.a (O (t8 (U a.1) b.b.a++r6 ((U a.1)+1) b.b.a)) else b
theorem mV (w D A) (a:aA) (l m n o p r g f c s t Q) (R:aA) (H:Own w D w [blk A (kB a l (X a.a.b.a) m n (X a.a.a.a) o p (X a.a.f.a) r a.a.k s g (X a.b.a) f t) 80,row g (X a.b.a) f (q0 aW.J c) 99 4,sepL (q0 J5 c)]) (d:r7 aW.abs c=a.b.a) (ay:X a.b.a<=1000) (hr:dU a Q=R):
    Calls v1 87 #[vP A 0,vU Q] w (dM λ v w'=> ∃ u x h,v= .tuple #[]/\Own w D w' [blk A (kB a l (X a.a.b.a) m n (X a.a.a.a) o p (X a.a.f.a) r a.a.k s u (X R.b.a) x t) 80,row u (X R.b.a) x (q0 aW.J h) 99 4,sepL (q0 J5 h)]/\(r7 aW.abs h=R.b.a)):=by
 unfold dU at hr
 have S:=bg d
 have Z3:=H.rowC (i:=1) Z
 refine cb Tryz.func87 ?_
 refine sr (Mz Z (Mz Z ?_))
 have ag:=H.rowC (i:=1) Z
 obtain⟨⟨b,k⟩,y⟩:∃ q:Int × Bool,bX a Q=q:=⟨_,Z⟩
 obtain⟨az,G,ah,I,z⟩:=Kb H
 refine cl Tryz.call79 (jv _ _ A a l m n o p r g f c s t Q b k G d (z _ 0 _ Z bQ) Y (λ Z8 Z4=>⟨z _ 1 _ Z (bM (P8.2 ⟨Z8,Z4,b3⟩) bQ),dH (φ:=λ _=>_) H (i:=2) Z (bM (P8.2 ⟨Z8,Z4,b3⟩) dP),z _ 1 _ Z (bM (P8.2 ⟨Z8,Z4, .tail _ b3⟩) bQ),dH (φ:=λ _=>_) H (i:=2) Z (bM (P8.2 ⟨Z8,Z4, .tail _ b3⟩) dP)⟩) f2 y) ?_
 rintro _ aB ⟨rfl,Z7,B,C⟩
 have E:=I _ _ Z7
 replace B:0<=b/\b<=(X a.b.a:Int):=B
 replace C:Bool.toNat k=0\/b < (X a.b.a:Int):=C
 refine Mz Z (Kz (vI b) (Kz (V k) (Az Z (Ar Z (Mn Z ?_)))))
 rcases Nf (k) with j | j
 have h35t:Bool.toNat k=1:=by rw [j]; rfl
 refine jT j (JI (Mz Z (Mz Z (Kz (vP A 0) (Kz (vP A 18) (Lz (W g (X a.b.a) f) E 0 S1 (Mz Z (Mz Z (fw (vI (b+1)) (JN (e:=B7.wrap (b+1)) yk i8) ?_)))))))))
 obtain⟨Z9,K⟩:∃ q,c[U b]? =Zw q:=⟨_,p2 Y⟩
 have Z1:=E.pb [0]
 obtain⟨aC,L,ai,M,aj⟩:=Ko Z1
 refine cl Tryz.call142 (uM _ _ g (X a.b.a) f c a.b.a b (b+1) (U b) Z9 L Y d Y Y Y K) ?_
 rintro _ aD ⟨Z5,Z6,rfl,P⟩
 have F:=M _ _ P
 have ak:X (t8 (U b) c++r6 ((U b)+1) c)=X (t8 (U b) a.b.a++r6 ((U b)+1) a.b.a):=by exact bg (oL d)
 have au:X (t8 (U b) a.b.a++r6 ((U b)+1) a.b.a)+1=X a.b.a:=by simp only [o2,o0,o1]; omega
 have av:=F.rowC (i:=2) Z
 have ax:=F.rowC (i:=3) Z
 refine Kz (vP A 0) (Kz (vP A 18) ?_)
 have Z2:=F.pf [4]
 refine cO [W Z5 (X (t8 (U b) a.b.a++r6 ((U b)+1) a.b.a)) Z6] 18 Z2 Tryz.sizeOf77 ?_
 intro aF Z0
 refine B8 (Kl (res0 Z) ?_)
 have aa:=Z0.pk [0,1,2]
 obtain rfl:=zj hr zq2
 exact⟨Z5,Z6,(t8 (U b) c++r6 ((U b)+1) c),Z,aa,(oL d)⟩
 have h35t:Bool.toNat k=0:=by rw [j]; rfl
 refine jF j (J8 (Kl (res0 Z) ?_))
 have af:=E.pf []
 obtain rfl:=zj hr zq2
 exact⟨g,f,c,Z,af,d⟩
def lg (e:aA) (d:aY) (b:StoreT):(List ay) × Int:=
 if d.e=1 then bnd (pq b d.f) λ a=>if a.2.1=Zk then([(ay.q d.f a.1)],0) else(([]:List ay),a.2.2) else if d.e=4 then bnd (oN b (au.q d.a d.b) 2147483647) λ c=>(c.1,c.2) else(([]:List ay),0)
theorem wM (w D L) (a:aA) (n o p r s t u x z) (g:aY) (f) (b:StoreT) (d c Q r1) (H:Own w D w [blk L (kB a n (X a.a.b.a) o p (X a.a.a.a) r s (X a.a.f.a) t a.a.k f u (X a.b.a) x z) 80,blk f [W d (X b.a.a) c] 27]) (h:Ro w D λ w'=>bP w' 2 d (X b.a.a) (q0 ay.J b.a.a)) (R:X b.a.a<=c/\X b.a.a<=9223372036854775807) (aR:X b.a.a<=4000) (hr:lg a g b=(Q,r1)):
    Calls v1 176 #[vP L 0, Zx (Zc (aY.J g))] w (dM λ v w'=> ∃ B0 b0,v= .tuple #[W B0 (X Q) b0,vI r1]/\Own w D w' [row B0 (X Q) b0 (q0 ay.J Q) 101 2,blk L (kB a n (X a.a.b.a) o p (X a.a.a.a) r s (X a.a.f.a) t a.a.k f u (X a.b.a) x z) 80,blk f [W d (X b.a.a) c] 27]/\(r1=0/\X Q<=4000)):=by
 unfold lg at hr
 refine cb Tryz.func176 ?_
 refine sr ?_
 refine cu (aY.J g) 68 H ?_
 intro A ak F
 refine Az Z (An Z (JG (sr (Kz (vP A 0) (Lz (vI g.e) F 0 Tryz.isAgg3 (nt (bo (sr (Kz (Zb (g.e=1)) (An Z ?_))))))))))
 by_cases k:g.e=1
 refine jT (dT k) (JG ?_)
 refine zx [] (JP (bI.block (JP J3))) F ?_
 intro aS av
 refine qv 0 Z Z (qp L 0 1 Z (qp L 17 2 Z (ql 3 Z 1 Tryz.isAgg72 Z Z Z (qp A 1 4 Z (ql 5 Z 0 B3 Z Z Z ?_)))))
 have ax:=av.pf [2]
 obtain⟨⟨l,m,j⟩,B⟩:∃ q:(List UInt8) × Bool × Int,pq b g.f=q:=⟨_,Z⟩
 obtain⟨aT,S,Z8,Z4,aO⟩:=Kb ax
 refine qd 6 Z (LU (Hg _) Z Z (y8 _ _ f b d c g.f l m j S (Z8 _ h) Y f2 B) ?_)
 rintro _ az ⟨rfl,Z3,M⟩
 have aB:=Z4 _ _ Z3
 replace M:j=0:=M
 have G:=aB.pb [0]
 refine⟨.inr ⟨_,G⟩, ?_⟩
 refine qv 7 Z Z (qk (Zz ⟨Zc l⟩) 8 Z (qk (V m) 9 Z (qk (vI j) 10 Z (qa 11 Z Z (qa 12 Z Z (qa 13 Z Z (qn (JK (JG (sr (Mz Z (fw (Zb (¬ (j=0))) (JZ (e:= !(Zy (j=0))) yk ZY) (Mz Z ?_)))))))))))))
 have C:(Zy (¬ (j=0)))=J:=(dF Y)
 refine Kj (v:= V m) Z Z C Z (JM Z) (Gz (V (!m)) C (fw (V (!m)) (JH Z C Z) (nt ?_)))
 rcases Nf (m) with E | E
 refine jF (cn E) (sk (sr (Kz (vP A 1) (Lz (Zz ⟨Zc g.f⟩) G 0 B3 (Mz Z (Kz (Zx #[Zz ⟨Zc g.f⟩, Zz ⟨Zc l⟩]) ?_))))))
 refine jW [Zz ⟨Zc g.f⟩, Zz ⟨Zc l⟩] 101 2 1 G ?_
 intro Z9 aU P
 replace P:=Ke (y:=row Z9 1 1 (q0 ay.J ([(ay.q g.f l)])) 101 2) Z P
 refine Az Z (An Z (rt (bR (tR (JY (kS Z Z Z) ?_)))))
 have aC:=P.pk [0,2,3]
 obtain⟨rfl,rfl⟩:=fK (zj hr zq3)
 exact⟨Z9,1,Z,aC,i6⟩
 refine jT (cn E) (sr (Mz Z (Az Z (An Z (rt (tR (bR (tR (JY (kS Z Z Z) ?_)))))))))
 have aD:Own w D az (row Zv 0 0 (q0 ay.J []) 101 2::_):=G.free (cK 101 2)
 have aF:=aD.pk [0,2,3]
 obtain⟨rfl,rfl⟩:=fK (zj hr zq3)
 exact⟨Zv,0,Z,aF,i6⟩
 refine jF (dF k) (sr (Kz (Zb (g.e=4)) (An Z ?_)))
 by_cases I:g.e=4
 refine jT (dT I) (JG ?_)
 refine zx [] (JP (bI.block (JP J3))) F ?_
 intro aV aG
 refine qv 0 Z Z (qp L 0 1 Z (qp L 17 2 Z (ql 3 Z 1 Tryz.isAgg72 Z Z Z (qp A 3 4 Z (ql 5 Z 0 B3 Z Z Z (qp A 4 6 Z (ql 7 Z 0 B3 Z Z Z (qk (Zx #[Zz ⟨Zc g.a⟩, Zz ⟨Zc g.b⟩]) 8 Z ?_))))))))
 have aH:=aG.pf [2]
 obtain⟨⟨Z7,K⟩,Z5⟩:∃ q:(List ay) × Int,oN b (au.q g.a g.b) 2147483647=q:=⟨_,Z⟩
 obtain⟨aW,Z1,Z2,Z0,aP⟩:=Kb aH
 refine qd 9 Z (LU (F9 _) Z Z (yG _ _ f b d c (au.q g.a g.b) 2147483647 Z7 K Z1 (Z2 _ h) Y f2 Z5) ?_)
 rintro _ aX ⟨aa,af,rfl,ag,Z6⟩
 have ah:=Z0 _ _ ag
 have aQ:=ah.rowC (i:=0) Z
 replace Z6:K=0/\X Z7<=4000:=Z6
 have ai:=ah.pb [1,0]
 refine⟨.inr ⟨_,ai⟩, ?_⟩
 refine qk (W aa (X Z7) af) 10 Z (qk (vI K) 11 Z (qa 12 Z Z (qa 13 Z Z (qn (JK (rt (bR (tR (JY (kS Z Z Z) ?_)))))))))
 have aI:=ai.pk [3,1,2]
 obtain⟨rfl,rfl⟩:=fK (zj hr zq3)
 exact⟨aa,af,Z,aI,i6⟩
 refine jF (dF I) (J8 (bN (JK (JG ?_))))
 have aJ:=F.pk [1,2]
 refine JI (Az Z (An Z (rt (JY (kS Z Z Z) ?_))))
 have aK:Own w D ak [row Zv 0 0 (q0 ay.J []) 101 2,blk L (kB a n (X a.a.b.a) o p (X a.a.a.a) r s (X a.a.f.a) t a.a.k f u (X a.b.a) x z) 80,blk f [W d (X b.a.a) c] 27]:=aJ.free (cK 101 2)
 have aL:=aK.pf []
 obtain⟨rfl,rfl⟩:=fK (zj hr zq2)
 exact⟨Zv,0,Z,aL,i6⟩
end
section
open Go.RowKit
def jD (A:Option Addr) (n c:Nat) (xs:List ZX) (t:TypeId) (sz:Nat):HP:=
  Ih (λ x:Option Addr × Nat × Nat × Nat × List Value=>x.2.1+n=x.2.2.1/\x.2.1+c=x.2.2.2.1/\(0 < c->A=eU x.1 x.2.1 sz x.2.2.2.1)/\xs=x.2.2.2.2.drop (x.2.1 *sz)) (λ x=> [row x.1 x.2.2.1 x.2.2.2.1 x.2.2.2.2 t sz])
section
variable {P:Program} {F:List (Nat × ZX)} {w w0:ZQ} {D:Nat->Prop} {L:List HP} {A:Option Addr} {n c sz:Nat} {xs:List ZX} {t:TypeId}
theorem Own.upQ (H:Own w0 D w (row A n c xs t sz::L)):Own w0 D w (jD A n c xs t sz::L):=
  Lc (A,0,n,c,xs) ⟨by simp,by simp,λ _=>(Er A sz c).symm,by simp⟩ H
theorem Own.tlQ {R:HP} (H:Own w0 D w (R::L)):Own w0 D w L:=H.to λ h hs=>by
  obtain⟨a,b,c,d,e,g,_⟩:=kC.app.1 (show kC ([R]++L) h from hs)
  exact d.mono g
theorem Dv {h:Nat->Option Obj} (H:jD A n c xs t sz h):∃ (b:Option Addr) (k d a:Nat) (ys:List ZX) (f:Nat->Option Obj),row b d a ys t sz f/\(∀ k o,f k=Zw o->h k=Zw o)/\k+n=d/\k+c=a/\(0 < c->A=eU b k sz a)/\xs=ys.drop (k *sz):=by
  obtain⟨⟨b,k,d,a,ys⟩,⟨e,g,i,j⟩,f,l,m,_⟩:=H
  exact⟨b,k,d,a,ys,f 0,l 0 _ Z,λ k o hk=>m 0 k o hk,e,g,i,j⟩
theorem Own.rowCQ {i:Nat} (H:Own w0 D w L) (hi:L[i]? =Zw (jD A n c xs t sz)):n<=c/\c<=9223372036854775807:=by
  obtain⟨h,hr,a⟩:=H.get hi
  obtain⟨d,k,e,j,ys,f,⟨hl,hr⟩,hf,l,m,o,p⟩:=Dv hr
  rcases hr with ⟨_,q,b⟩ | ⟨g,cur,fz,_,_,b,a,_⟩
  . omega
  . unfold maxLen at a; omega
theorem Gb (w:ZQ) (h:Nat->Option Obj) (hr:jD A n c xs t sz h) (j:∀ k o,h k=Zw o->w.heap[k]? =Zw o):bP w sz A n xs:=by
  obtain⟨m,k,a,b,ys,f,hr,hf,p,q,l,d⟩:=Dv hr
  have hR:=bQ w f hr λ k o hk=>j k o (hf k o hk)
  have hle:a<=b:=by
    obtain⟨_,hr⟩:=hr
    rcases hr with ⟨_,r,i⟩ | ⟨g,cur,fz,_,_,i,_⟩
    . omega
    . exact i
  have hlen:X xs=n *sz:=by
    rw [d,List.length_drop,hR.1, <- Nat.sub_mul]
    congr 1; omega
  rcases Nat.eq_zero_or_pos n with e | e
  . subst e
    have:xs= []:=List.eq_nil_of_length_eq_zero (by rw [hlen,Nat.zero_mul])
    subst this
    exact bP.nil w sz A
  . have hc:=hR.cut (c:=b) (lo:=k) (hi:=a) Y (Nat.le_refl _) hle
    rw [<- l Y,show a - k=n by omega, <- d,List.take_of_length_le (by rw [hlen]; exact Nat.le_refl _)] at hc
    exact hc
theorem Own.rdsQ {i:Nat} (H:Own w0 D w L) (hi:L[i]? =Zw (jD A n c xs t sz)):bP w sz A n xs:=by
  obtain⟨h,hr,a⟩:=H.get hi
  exact Gb w h hr a
theorem Gc (a:Addr) (x y:Nat):(a.add x).add y=a.add (x+y):=by
  cases a
  simp only [Addr.add]
  by_cases hx:x=0 <;> by_cases hy:y=0 <;> simp [hx,hy,Nat.add_assoc]
theorem Mw {lo:Nat} {ys:List ZX} (H:Own w0 D w (jD A n c xs t sz::L)) (h:lo<=n) (hys:xs.drop (lo *sz)=ys):Own w0 D w (jD (eU A lo sz c) (n - lo) (c - lo) ys t sz::L):=by
  have hle:=(H.rowCQ (i:=0) Z).1
  obtain⟨⟨d,k,e,b,zs⟩,⟨j,f,l,g⟩,m⟩:=Lv H
  refine Lc (d,k+lo,e,b,zs) ⟨by show k+lo+(n - lo)=e; simp only at j; omega,by show k+lo+(c - lo)=b; simp only at f; omega,λ hp=> ?_, ?_⟩ m
  . have hc:0 < c:=Y
    have ea:=l hc
    simp only at ea f
    show eU A lo sz c=eU d (k+lo) sz b
    rw [ea]
    unfold eU
    rw [ZV (show ¬ c=lo by omega),ZV (show ¬ b=k by omega),ZV (show ¬ b=k+lo by omega)]
    cases d with
    | none=>rfl
    | some a=>simp only [Option.map_some,Gc,Nat.add_mul]
  . show ys=zs.drop ((k+lo) *sz)
    simp only at g
    rw [<- hys,g,List.drop_drop,Nat.add_mul]
theorem EU {a sp news:List ZX} {o:Nat} (h:X a=o):(put (a++sp) o news).take (o+X news)=a++news:=by
  subst h
  unfold put
  rw [List.take_left' Z]
  rw [List.take_append_of_le_length i7,List.take_of_length_le i7]
theorem Own.appendQ {k m e size bytes:Nat} {news:List ZX} {u:ZX} {tx:TypeId} (el:Elem P t e size bytes) (H:Own w0 D w (jD A k c xs e size::L)) (hs:Src P size tx u m news w) (hm:m=1) (ty:TypeId)
    (h:k+m<=maxLen) (hgs:∀ old,old < k+m->Builtin.nextslicecap (k+m) old *bytes<=281474976710656):
    ∃ A' c' w',(Builtin.append_ #[t,tx] ty #[W A k c,u]).run P w= .ok (W A' (k+m) c') w'/\Own w0 D w' (jD A' (k+m) c' (xs++news) e size::L):=by
  have hle:=H.rowCQ (i:=0) Z
  by_cases hroom:k+m<=c
  . obtain⟨⟨a,d,b,o,zs⟩,⟨j,p,l,q⟩,g⟩:=Lv H
    simp only at j p l q
    replace g:Own w0 D w (row a b o zs e size::L):=g
    have hzl:=(g.rowLe (i:=0) Z).2.2
    obtain⟨sp,hsp,r⟩:=g.rowFull
    have hsz:0 < size:=el.pos
    obtain⟨w',hst,s⟩:=r.room (P:=P) (k:=b) hsz hs Y
    have hnl:=hs.newsLen
    have f:=(r.rds (i:=0) Z).isSome Y
    have hA:A=Zw ⟨ab a,ao a+d *size,Zv⟩:=by rw [l Y]; exact gI f Y
    have v:=s.rowTake (k:=b+m) Y (ys:=zs++news) (by rw [Nat.add_mul, <- hnl]; exact EU hzl)
    refine⟨A,c,w', ?_,Lc (a,d,b+m,o,zs++news) ⟨by show d+(k+m)=b+m; omega,p,λ _=>l Y, ?_⟩ v⟩
    . obtain⟨i,z,ht,hi,hz,rfl,rfl,hzs,hsz⟩:=el
      have hadd:ao a+d *i.size+k *i.size=ao a+b *i.size:=by rw [<- j,Nat.add_mul,Nat.add_assoc]
      rw [f] at hst
      simp only [add0,ab,ao] at hst
      simp only [ab,ao] at hadd hA
      rw [hA]
      rcases hs.kind with ⟨e',hk⟩ | hk <;> simp [Builtin.append_,run_underlying ht,run_underlying hk,sizeOf,typeInfo,hi,hs.len,hroom,hs.cells,add0,hadd,hst]
    . show xs++news=(zs++news).drop (d *size)
      rw [List.drop_append_of_le_length (by rw [hzl, <- j]; exact Nat.mul_le_mul_right _ Y),q]
  . have hck:c=k:=Y
    subst hck
    obtain⟨A',c',w',hr,H'⟩:=H.tlQ.appendNew (P:=P) el (H.rdsQ (i:=0) Z) hs Y ty h hgs
    exact⟨A',c',w',hr,H'.upQ⟩
theorem Do.appendQ {nn:Nat} {ty:TypeId} {K:ZX->ZQ->Prop} {x y:Operand} {k m e size bytes:Nat} {news:List ZX} {u:ZX} {tx:TypeId} (el:Elem P t e size bytes) (H:Own w0 D w (jD A k c xs e size::L)) (hx:ev F x=Zw (W A k c)) (hy:ev F y=Zw u) (hs:Src P size tx u m news w)
    (hb:Nat.ble bytes 1048576=Zk) (hbytes:k+m<=9223372036854775807/\(k+m) *bytes<=211106232532992) {s:Nat} {ys:List ZX} (hsum:k+m=s) (hys:xs++news=ys) (h:∀ A' c' w',Own w0 D w' (jD A' s c' ys e size::L)->K (W A' s c') w') (hm:m=1:=by rfl):
    Do P nn F w (.call ⟨.builtin .append, [x,y].toArray, [t,tx].toArray⟩) ty K:=λ a ha o b d next Q hn=>by
  obtain⟨A',c',w',hr,H'⟩:=H.appendQ (P:=P) el hs hm o.type (by unfold maxLen; omega) λ _ ho'=>growslice_fits_wide ho' (xw hbytes.2 hb)
  unfold execOp
  rw [b]
  simp only [resolve,invoke,builtin,Sem.run_bind,Sem.run_pure,Result.andThen_ok,List.map_toArray,List.map_cons,List.map_nil,ha.eval hx,ha.eval hy,hr]
  subst hsum hys
  exact hn _ _ (h A' c' w' H')
end
end
theorem IP:∀ (l:List aY) (m:List ay) (o:List bZ),X (fT l m o).2=X o+X l
  | [],m,o=>by rw [fT]; rfl
  | x::l,m,o=>by
    have h:∀ (m':List ay) (y:bZ),X (fT l m' (o++ [y])).2=X o+X (x::l):=λ m' y=>by
      rw [IP l m' (o++ [y])]; simp only [List.length_append,List.length_cons,List.length_nil]; omega
    rw [fT]
    simp only [bG]
    split
    . exact h _ _
    . split
      . exact h _ _
      . split
        . exact h _ _
        . split
          . exact h _ _
          . exact h _ _
theorem EW {m:List ay} {l:List aY} {f:List ay} {b:List bZ} {a:Int} (h:mP m l=(f,b,a)): ¬ (a=0)\/X b=X l:=by
  unfold mP at h
  simp only [bG] at h
  by_cases c:cB m=0
  . rw [ZK c] at h
    by_cases d:fF l=0
    . rw [ZK d] at h
      refine .inr ?_
      have e:b=(fT l m []).2:=(ZJ (λ q=>q.2.1) h).symm
      rw [e,IP]; simp
    . rw [ZV d] at h
      have e:fF l=a:=ZJ (λ q=>q.2.2) h
      exact .inl (e ▸ d)
  . rw [ZV c] at h
    have e:cB m=a:=ZJ (λ q=>q.2.2) h
    exact .inl (e ▸ c)
theorem zr {L:List HP}{A:Option Addr}{m c sz t:Nat}{xs:List ZX}{w0 w:ZQ}{D:Nat->Prop}(i:Nat)(H:Own w0 D w L)(hi:L[i]? =Zw (row A m c xs t sz):=by exact Z):m<=c/\c<=9223372036854775807:=H.rowC hi
open _root_.Go.Proofs.Tryz renaming isAgg28->S3,sizeOf44->S4,underlying50->S5,underlying90->S2
section
open Go.RowKit
def iU (d:bK) (l1:List Nat):List Nat->List dC->(List dC)
  | [],a=>a
  | b::c,a=>iU d l1 c (a++ [(dC.q b Zk)])
def iV (d:bK):List Nat->List dC->(List dC)
  | [],a=>a
  | b::c,a=>iV d c (a++ [(dC.q b J)])
def lL (a:bK) (l1:List Nat) (b:List Nat):bK:=
 bnd (iU a l1 b a.b.a) λ sLrL=>bnd (iV a l1 sLrL) λ sLrLaL=>bK.q a.a (O sLrLaL)
theorem sK (w D p) (c:bK) (h j l n C E o M n1 Z4 l1 Z8 n2 c2 g) (Z3:bK) (H:Own w D w [blk p [Zq (Zw ⟨o,0,Zv⟩), W h (X c.a.a.a) j, W l (X c.a.b.a) n, V c.a.e, W C (X c.b.a) E] 92,jD C (X c.b.a) E (q0 dC.J c.b.a) 216 2]) (R:Ro w D λ w'=>bP w' 1 M n1 (q0 (eN .u64) l1)) (aB:n1=X l1) (bv:X l1 *8<=211106232532992) (S:Ro w D λ w'=>bP w' 1 Z8 n2 (q0 (eN .u64) g)) (aC:n2=X g) (bz:X g *8<=211106232532992) (bA:X c.b.a<=100000/\X l1<=12/\X g<=12) (hr:lL c l1 g=Z3):
    Calls v1 137 #[vP p 0, W M n1 Z4, W Z8 n2 c2] w (dM λ v w'=> ∃ F G,v= .tuple #[]/\Own w D w' [blk p [vP o 0, W h (X c.a.a.a) j, W l (X c.a.b.a) n, V c.a.e, W F (X Z3.b.a) G] 92,jD F (X Z3.b.a) G (q0 dC.J Z3.b.a) 216 2]/\(X Z3.b.a=X c.b.a+X l1+X g)):=by
 unfold lL at hr
 subst aB aC
 have aD:=H.rowCQ (i:=1) Z
 refine cb Tryz.func137 ?_
 refine JG (sr (Mz Z (Kz (vJ (X g)) (Mn Z (bo ?_)))))
 have aF:=H.pf []
 obtain⟨aG,I⟩:=wY λ (d:Nat) u (x:Nat) a w'=>Own w D w' [blk p [vP o 0, W h (X c.a.a.a) j, W l (X c.a.b.a) n, V c.a.e, W u (X a) x] 92,jD u (X a) x (q0 dC.J a) 216 2]/\d<=X g/\X a=X c.b.a+d/\X a<=X c.b.a+d/\iU c l1 g c.b.a=iU c l1 (r6 d g) a
 refine B4 (λ i:Nat × (Option Addr) × Nat × (List dC)=> [(12,vJ i.1),(11,vJ (X g)),(10, W Z8 (X g) c2),(0,vP p 0),(1, W M (X l1) Z4)]) aG (λ i=>X g - i.1) (0,C,E,c.b.a) ⟨Z,Z,Z,Z,Z,ZW⟩ (I.2 ⟨aF,Y,Y,Y,Z⟩) ?_
 rintro ⟨d,u,x,a⟩ bB Z9
 show Wp _ _ _ [(12,vJ d),(11,vJ (X g)),(10, W Z8 (X g) c2),(0,vP p 0),(1, W M (X l1) Z4)] _ _
 obtain⟨A,aY,aZ,bf,Z5⟩:=I.1 Z9
 refine sr (Kz (Zb ((d:Int) < (X g:Int))) (nt (JG ?_)))
 by_cases Z1:(d:Int) < (X g:Int)
 obtain⟨r,Z6⟩:=dJ (ls:=g) (i:=d) iq f6 (A.ro S) f4
 have Z2:=drop_at Z6
 refine jT (dT Z1) (sk (JG (bo (sr (fw (Zq (Zw ⟨ab Z8,ao Z8+d *1,Zv⟩)) (JU (iZ) Z Z ((A.ro S).addr (i:=d) Y) Y) (fw (vU r) (JS Z (bT.one E3 (((A.ro S).elem iq Z6 f6).at_ (k:=0) Z))) (An Z (JI (Mz Z (Mz Z (Kz (vP p 0) (Kz (vP p 4) (Lz (W u (X a) x) A 0 Tryz.isAgg90 (Mz Z (Kz (Zx #[vU r, V Zk]) ?_)))))))))))))))
 refine jW [vU r, V Zk] 216 2 1 A ?_
 intro aH aI Z7
 replace Z7:=Own.upQ Z7
 replace Z7:Own w D aI [jD aH 1 1 (q0 dC.J ([(dC.q r Zk)])) 216 2,blk p [vP o 0, W h (X c.a.a.a) j, W l (X c.a.b.a) n, V c.a.e, W u (X a) x] 92,jD u (X a) x (q0 dC.J a) 216 2]:=Z7
 have Z0:=Z7.pf [2]
 refine WL.do Z (Do.appendQ (k:=X a) (m:=1) (Ef) Z0 Z Z (fq S2 (Z0.rdsQ (i:=1) Z) (di dC.one ([(dC.q r Zk)]))) Z Y (s:=X (a++ [(dC.q r Zk)])) f7 (u0).symm ?_)
 intro aa af bC aJ
 have bg:X (a++ [(dC.q r Zk)])=X a+1:=by simp only [o2,q5,L3]
 refine Kz (vP p 0) (Kz (vP p 4) ?_)
 have aK:=aJ.pf [2]
 refine cO [W aa (X (a++ [(dC.q r Zk)])) af] 4 aK Tryz.sizeOf90 ?_
 intro bD aL
 refine B8 (bN (JK ?_))
 have aM:=aL.pk [0,1]
 refine JI (fw (vJ (d+1)) (JN (e:=B7.wrap ((d:Int)+1)) yk f3) (Mz Z (B8 ?_)))
 have aN:=aM.pf []
 exact JX (d+1,aa,af,(a++ [(dC.q r Zk)])) ⟨Z,Z,Z,Z,Z,ZW⟩ (I.2 ⟨aN,Y,Y,Y,N (Z5) (N (ZJ (λ q=>iU c l1 q a) Z2) Z)⟩) (by show X g - (d+1) < X g - d; omega)
 refine jF (dF Z1) (B9 (JV ?_))
 have ag:iU c l1 g c.b.a=a:=N (Z5) (N (ZJ (λ q=>iU c l1 q a) (eH (ls:=g) (i:=d) Y)) Z)
 refine JV (J2 (JK (sr (Mz Z (Kz (vJ (X l1)) (Mn Z (bo ?_)))))))
 have aO:=A.pf []
 obtain⟨aP,K⟩:=wY λ (f:Nat) y (z:Nat) b w'=>Own w D w' [blk p [vP o 0, W h (X c.a.a.a) j, W l (X c.a.b.a) n, V c.a.e, W y (X b) z] 92,jD y (X b) z (q0 dC.J b) 216 2]/\f<=X l1/\X b=X a+f/\X b<=X a+f/\iV c l1 a=iV c (r6 f l1) b
 refine B4 (λ i:Nat × (Option Addr) × Nat × (List dC)=> [(30,vJ i.1),(29,vJ (X l1)),(28, W M (X l1) Z4),(0,vP p 0)]) aP (λ i=>X l1 - i.1) (0,u,x,a) ⟨Z,Z,Z,Z,ZW⟩ (K.2 ⟨aO,Y,Y,Y,Z⟩) ?_
 rintro ⟨f,y,z,b⟩ bE ah
 show Wp _ _ _ [(30,vJ f),(29,vJ (X l1)),(28, W M (X l1) Z4),(0,vP p 0)] _ _
 obtain⟨B,bi,bn,bq,P⟩:=K.1 ah
 refine sr (Kz (Zb ((f:Int) < (X l1:Int))) (nt (JG ?_)))
 by_cases ai:(f:Int) < (X l1:Int)
 obtain⟨t,Q⟩:=dJ (ls:=l1) (i:=f) iq f6 (B.ro R) f4
 have aj:=drop_at Q
 refine jT (dT ai) (sk (JG (bo (sr (fw (Zq (Zw ⟨ab M,ao M+f *1,Zv⟩)) (JU (iZ) Z Z ((B.ro R).addr (i:=f) Y) Y) (fw (vU t) (JS Z (bT.one E3 (((B.ro R).elem iq Q f6).at_ (k:=0) Z))) (An Z (JI (Mz Z (Mz Z (Kz (vP p 0) (Kz (vP p 4) (Lz (W y (X b) z) B 0 Tryz.isAgg90 (Mz Z (Kz (Zx #[vU t, V J]) ?_)))))))))))))))
 refine jW [vU t, V J] 216 2 1 B ?_
 intro aQ aR L
 replace L:=Own.upQ L
 replace L:Own w D aR [jD aQ 1 1 (q0 dC.J ([(dC.q t J)])) 216 2,blk p [vP o 0, W h (X c.a.a.a) j, W l (X c.a.b.a) n, V c.a.e, W y (X b) z] 92,jD y (X b) z (q0 dC.J b) 216 2]:=L
 have ak:=L.pf [2]
 refine WL.do Z (Do.appendQ (k:=X b) (m:=1) (Ef) ak Z Z (fq S2 (ak.rdsQ (i:=1) Z) (di dC.one ([(dC.q t J)]))) Z Y (s:=X (b++ [(dC.q t J)])) f7 (u0).symm ?_)
 intro au av bF aS
 have bu:X (b++ [(dC.q t J)])=X b+1:=by simp only [o2,q5,L3]
 refine Kz (vP p 0) (Kz (vP p 4) ?_)
 have aT:=aS.pf [2]
 refine cO [W au (X (b++ [(dC.q t J)])) av] 4 aT Tryz.sizeOf90 ?_
 intro bG aU
 refine B8 (bN (JK ?_))
 have aV:=aU.pk [0,1]
 refine JI (fw (vJ (f+1)) (JN (e:=B7.wrap ((f:Int)+1)) yk f3) (Mz Z (B8 ?_)))
 have aW:=aV.pf []
 exact JX (f+1,au,av,(b++ [(dC.q t J)])) ⟨Z,Z,Z,Z,ZW⟩ (K.2 ⟨aW,Y,Y,Y,N (P) (N (ZJ (λ q=>iV c q b) aj) Z)⟩) (by show X l1 - (f+1) < X l1 - f; omega)
 refine jF (dF ai) (B9 (JV ?_))
 have ax:iV c l1 a=b:=N (P) (N (ZJ (λ q=>iV c q b) (eH (ls:=l1) (i:=f) Y)) Z)
 refine JV (J2 (Kl (res0 Z) ?_))
 have aX:=B.pf []
 obtain rfl:=zj hr zq2
 exact⟨y,z,Z,aX,f2⟩
def eO (d:bK) (f:Nat) (e:aA) (b:aZ):bK × aZ:=
 bnd (iT b f) λ a=>bnd (lL d a.1 a.2.1) λ c=>(bK.q d.a (O c.b.a),a.2.2)
theorem o9 (w D Z4) (j:bK) (z A B C E F p1 g) (a:aA) (n o p r s t u x y c) (b:aZ) (e f d) (Z3:bK) (r1:aZ) (H:Own w D w [blk Z4 [Zq (Zw ⟨g,0,Zv⟩), W z (X j.a.a.a) A, W B (X j.a.b.a) C, V j.a.e, W E (X j.b.a) F] 92,jD E (X j.b.a) F (q0 dC.J j.b.a) 216 2,blk g (kB a n (X a.a.b.a) o p (X a.a.a.a) r s (X a.a.f.a) t a.a.k y u (X a.b.a) x c) 80,blk c [W e (X b.a.a) f] 114,row e (X b.a.a) f (q0 aB.J d) 164 6,sepL (q0 J4 d)]) (h:r7 aB.abs d=b.a.a) (aS:X j.b.a<=99000/\X b.a.a<=12) (aT:jE b.a.a) (hr:eO j p1 a b=(Z3,r1)):
    Calls v1 89 #[vP Z4 0,vU p1] w (dM λ v w'=> ∃ G I Z7 K k,v= .tuple #[]/\Own w D w' [blk Z4 [vP g 0, W z (X j.a.a.a) A, W B (X j.a.b.a) C, V j.a.e, W G (X Z3.b.a) I] 92,jD G (X Z3.b.a) I (q0 dC.J Z3.b.a) 216 2,blk g (kB a n (X a.a.b.a) o p (X a.a.a.a) r s (X a.a.f.a) t a.a.k y u (X a.b.a) x c) 80,blk c [W Z7 (X r1.a.a) K] 114,row Z7 (X r1.a.a) K (q0 aB.J k) 164 6,sepL (q0 J4 k)]/\(r7 aB.abs k=r1.a.a)/\(X Z3.b.a<=X j.b.a+24)):=by
 unfold eO at hr
 have M:=bg h
 have ay:=H.rowCQ (i:=1) Z
 refine cb Tryz.func89 ?_
 refine JI (Mz Z (Mz Z (Kz (vP Z4 0) (Kz (vP Z4 0) (Lz (vP g 0) H 0 S3 (Kz (vP g 0) (Kz (vP g 19) (Lz (vP c 0) H 2 Tryz.isAgg75 (Mz Z ?_)))))))))
 have az:=H.pb [0,1,2]
 obtain⟨⟨l,m,Z9⟩,Z5⟩:∃ q:(List Nat) × (List Nat) × aZ,iT b p1=q:=⟨_,Z⟩
 obtain⟨aU,Z1,aK,Z2,aL⟩:=KE az
 refine cl Tryz.call144 (vC _ _ c b e f d p1 l m Z9 Z1 h g5 (by first | assumption | exact jE.hd f8 | exact(Tk.snd f8).hd) (by first | assumption | exact Tk.snd f8) Z5) ?_
 rintro _ aV ⟨Z0,aa,af,ag,aC,aD,aF,rfl,ah,Z6,P⟩
 have L:=Z2 _ _ ah
 have aM:=bg Z6
 have aN:=zr 0 L
 have aO:=zr 1 L
 have aP:=zr 3 L
 replace P:X l<=12/\X m<=12:=P
 refine Kz (W Z0 (X l) aa) (Kz (W af (X m) ag) ?_)
 have aG:=L.pf [5,6]
 obtain⟨Z8,Q⟩:∃ q,lL j l m=q:=⟨_,Z⟩
 obtain⟨aW,ai,aQ,aj,R⟩:=Ko aG
 refine cl Tryz.call137 (sK _ _ Z4 j z A B C E F g Z0 (X l) aa l af (X m) ag m Z8 ai (R _ 0 _ Z bQ) Z Y (R _ 1 _ Z bQ) Z Y f2 Q) ?_
 rintro _ aX ⟨aH,aI,rfl,ak,S⟩
 have au:=aj _ _ ak
 have aR:=au.rowCQ (i:=1) Z
 replace S:X Z8.b.a=X j.b.a+X l+X m:=S
 refine B8 (Kl (res0 Z) ?_)
 have aJ:=au.pk [0,1,7,4,5,6]
 obtain⟨rfl,rfl⟩:=fK (zj hr zq2)
 exact⟨aH,aI,aC,aD,aF,Z,aJ,Z6,f2⟩
def iE (c:bK) (d:Nat) (a:aA):bK × aA:=
 bnd (dU a d) λ b=>(bK.q (dL.q (O (c.a.a.a++ [(dK.q 4 a.a.l 0 0 5 0 0 0 d 0 0 0 0 0 0 J (au.q [] []) (O []) (O []) (O []))])) (O c.a.b.a) c.a.e) (O c.b.a),aA.q a.a (O b.b.a))
theorem uP (w D Z7) (h:bK) (Z6 P j Q R S Z8 g b) (a:aA) (l n p r u x z A e B C) (r0:bK) (r1:aA) (H:Own w D w [blk Z7 [Zq (Zw ⟨b,0,Zv⟩), W Z6 (X h.a.a.a) P, W Q (X h.a.b.a) R, V h.a.e, W S (X h.b.a) Z8] 92,row Z6 (X h.a.a.a) P (q0 bU.J j) 47 21,sepL (q0 Kg j),blk b (kB a l (X a.a.b.a) n p (X a.a.a.a) r u (X a.a.f.a) x a.a.k B z (X a.b.a) A C) 80,row z (X a.b.a) A (q0 aW.J e) 99 4,sepL (q0 J5 e)]) (F:r7 bU.abs j=h.a.a.a) (E:r7 aW.abs e=a.b.a) (bI:X h.a.a.a<=100000/\X a.b.a<=1000) (hr:iE h g a=(r0,r1)):
    Calls v1 138 #[vP Z7 0,vU g] w (dM λ v w'=> ∃ K L G M Z5 I,v= .tuple #[]/\Own w D w' [blk Z7 [vP b 0, W K (X r0.a.a.a) L, W Q (X h.a.b.a) R, V h.a.e, W S (X h.b.a) Z8] 92,row K (X r0.a.a.a) L (q0 bU.J G) 47 21,sepL (q0 Kg G),blk b (kB a l (X a.a.b.a) n p (X a.a.a.a) r u (X a.a.f.a) x a.a.k B M (X r1.b.a) Z5 C) 80,row M (X r1.b.a) Z5 (q0 aW.J I) 99 4,sepL (q0 J5 I)]/\(r7 bU.abs G=r0.a.a.a)/\(r7 aW.abs I=r1.b.a)/\(X r0.a.a.a=X h.a.a.a+1)):=by
 unfold iE at hr
 have aJ:=bg F
 have aa:=bg E
 have aK:=zr 1 H
 have ag:=zr 4 H
 refine cb Tryz.func138 ?_
 refine sr (Mz Z (Kz (vP Z7 0) (Kz (vP Z7 0) (Lz (vP b 0) H 0 S3 (Mz Z ?_)))))
 have aL:=H.pb [0,1,2]
 obtain⟨ah,Z4⟩:∃ q,dU a g=q:=⟨_,Z⟩
 obtain⟨bJ,ai,bz,aj,bA⟩:=KE aL
 refine cl Tryz.call87 (mV _ _ b a l n p r u x z A e B C g ah ai E f2 Z4) ?_
 rintro _ bL ⟨aM,aN,aO,rfl,ak,Z3⟩
 have av:=aj _ _ ak
 have bB:=bg Z3
 have bC:=zr 1 av
 refine nt (JI (Mz Z (Mz Z (Kz (Zx (Zc (iF 4 0 0 0 5 0 0 0 g 0 0 0 0 0 0 J [] [] Zv 0 0 Zv 0 0 Zv 0 0))) ?_))))
 refine WL.do Z (J6 Tryz.call81 Z ?_ (λ _ _ k=>k))
 refine cb Tryz.func81 ?_
 refine sr ?_
 refine cu (iF 4 0 0 0 5 0 0 0 g 0 0 0 0 0 0 J [] [] Zv 0 0 Zv 0 0 Zv 0 0) 47 av ?_
 intro Z9 bM Z1
 refine ns (Mz Z (Kz (vP Z7 0) (Kz (vP Z7 0) (Lz (vP b 0) Z1 4 S3 (Kz (vP b 0) (Kz (vP b 0) (Kz (vP b 0) (Lz (vI a.a.l) Z1 1 Tryz.isAgg3 (Kz (vP Z9 1) ?_)))))))))
 refine cO [vI a.a.l] 1 Z1 Tryz.sizeOf3 ?_
 intro bN ax
 refine ns (Kz (vP Z9 18) (Lz (W Zv 0 0) ax 0 E6 ?_))
 obtain⟨bQ,ay,bD,az,bE⟩:=JJ ax
 refine cl Tryz.call36 (jb _ _ Zv 0 0 [] [] ay (λ _ _=>bP.nil _ _ _) Z i7 Z) ?_
 rintro _ bR ⟨c,d,rfl,aB⟩
 have aC:=az _ _ aB
 have bF:=zr 0 aC
 refine Kz (vP Z9 18) ?_
 have aP:=aC.pf [1]
 refine cO [W c 0 d] 18 aP S4 ?_
 intro bS aQ
 refine nt ?_
 refine mX 8 [8,12] J3 aQ ?_
 intro bT aS
 refine Ki (v:=vP Z7 0) 0 Z f1 (λ _=>JM Z) (qv 1 Z Z (qp Z7 0 2 Z (qp Z7 1 3 Z (qp Z7 1 4 Z (ql 5 Z 5 Tryz.isAgg50 Z Z Z (qt (v:= Zx (Zc (iF 4 a.a.l 0 0 5 0 0 0 g 0 0 0 0 0 0 J [] [] c 0 d Zv 0 0 Zv 0 0))) 6 Z (λ _ ⟨_,H9⟩=>JS Z (JW (cs:=(iF 4 a.a.l 0 0 5 0 0 0 g 0 0 0 0 0 0 J [] [] c 0 d Zv 0 0 Zv 0 0)) Tryz.isAgg47 Tryz.sizeOf47 ((H9.cls (i:=0) Z).lit (k:=0) (m:=21) Z))) ?_))))))
 refine qd 7 Z (Kt (cs:=(iF 4 a.a.l 0 0 5 0 0 0 g 0 0 0 0 0 0 J [] [] c 0 d Zv 0 0 Zv 0 0)) (t:=47) (sz:=21) (m:=1) aS Z Z Za Z f6 ?_)
 intro aT Z2 Z0
 replace Z0:=Ke (y:=row aT 1 1 (q0 bU.J ([(bU.q 4 a.a.l 0 0 5 0 0 0 g 0 0 0 0 0 0 J (au.q [] []) (O6 c d []) (O6 Zv 0 []) (O6 Zv 0 []))])) 47 21) Z Z0
 have aD:=Z0.pb [0]
 refine⟨.inr ⟨_,aD⟩, ?_⟩
 have aU:Own w D Z2 (sepL (q0 Kc [])::_):=aD.sepNil
 have aV:Own w D Z2 (row Zv 0 0 (q0 aR.J []) 70 3::_):=aU.free (cK 70 3)
 have aX:Own w D Z2 (row Zv 0 0 (q0 bO.J []) 83 2::_):=aV.free (cK 83 2)
 have aF:=aX.pf [9,10,4,1]
 refine qd 8 Z (J7 (k:=X h.a.a.a) (m:=1) (ug) aF Z Z (fq S5 (aF.rds (i:=11) Z) (di bU.one ([(bU.q 4 a.a.l 0 0 5 0 0 0 g 0 0 0 0 0 0 J (au.q [] []) (O6 c d []) (O6 Zv 0 []) (O6 Zv 0 []))]))) Z Y (s:=X (h.a.a.a++ [(dK.q 4 a.a.l 0 0 5 0 0 0 g 0 0 0 0 0 0 J (au.q [] []) (O []) (O []) (O []))])) f7 (u0).symm ?_)
 intro aG aH aZ bf
 have bi:=bf.pf [1,2,3,4,5]
 have bn:Own w D aZ (sepL (q0 Kg (j++ [(bU.q 4 a.a.l 0 0 5 0 0 0 g 0 0 0 0 0 0 J (au.q [] []) (O6 c d []) (O6 Zv 0 []) (O6 Zv 0 []))]))::_):=bi.sepAdd (L2:= [row c 0 d (q0 aY.J []) 68 6,row Zv 0 0 (q0 aR.J []) 70 3,row Zv 0 0 (q0 bO.J []) 83 2,sepL (q0 Kc [])]) (u0 (f:=Kg) (xs:=j) (ys:= [(bU.q 4 a.a.l 0 0 5 0 0 0 g 0 0 0 0 0 0 J (au.q [] []) (O6 c d []) (O6 Zv 0 []) (O6 Zv 0 []))])).symm
 have bG:X (h.a.a.a++ [(dK.q 4 a.a.l 0 0 5 0 0 0 g 0 0 0 0 0 0 J (au.q [] []) (O []) (O []) (O []))])=X h.a.a.a+1:=by simp only [o2,q5,L3]
 have bH:=bg (jP (es:= [(bU.q 4 a.a.l 0 0 5 0 0 0 g 0 0 0 0 0 0 J (au.q [] []) (O6 c d []) (O6 Zv 0 []) (O6 Zv 0 []))]) (ms:= [(dK.q 4 a.a.l 0 0 5 0 0 0 g 0 0 0 0 0 0 J (au.q [] []) (O []) (O []) (O []))]) F Z)
 refine⟨.inl f1, ?_⟩
 refine Ki (v:=vP Z7 0) 9 Z f1 (λ _=>yk) (Ki (v:=vP Z7 1) 10 Z f1 (λ _=>yk) (Ki (v:=vP Z7 1) 11 Z f1 (λ _=>yk) ?_))
 have bq:=bn.pf [6]
 refine qe 12 Z (Do.store (vs:= [W aG (X (h.a.a.a++ [(dK.q 4 a.a.l 0 0 5 0 0 0 g 0 0 0 0 0 0 J (au.q [] []) (O []) (O []) (O []))])) aH]) (o:=1) bq Z Z Tryz.sizeOf50 Z Z Z Z ?_)
 intro bW bu
 refine⟨.inl f1, ?_⟩
 refine qn (Kl (res0 Z) (B8 (Kl (res0 Z) ?_)))
 have bv:=bu.px [0,2] [3,7] []
 obtain⟨rfl,rfl⟩:=fK (zj hr zq1)
 exact⟨aG,aH,(j++ [(bU.q 4 a.a.l 0 0 5 0 0 0 g 0 0 0 0 0 0 J (au.q [] []) (O6 c d []) (O6 Zv 0 []) (O6 Zv 0 []))]),aM,aN,aO,Z,bv,(jP (es:= [(bU.q 4 a.a.l 0 0 5 0 0 0 g 0 0 0 0 0 0 J (au.q [] []) (O6 c d []) (O6 Zv 0 []) (O6 Zv 0 []))]) (ms:= [(dK.q 4 a.a.l 0 0 5 0 0 0 g 0 0 0 0 0 0 J (au.q [] []) (O []) (O []) (O []))]) F Z),Z3,f2⟩
def ig:List ay->List aY->(List aY)
  | [],a=>a
  | b::c,a=>ig c (a++ [(aY.q 2 b.f b.g [] [] 0)])
def eG (g:bK) (l1:List aY) (b:aA) (a:StoreT):List aY->List aY->(List aY)
  | [],c=>c
  | e::f,c=>bnd (lg b e a) λ d=>bnd (ig d.1 c) λ sLrLsbL=>eG g l1 b a f sLrLsbL
def jI (d:bK) (l1:List aY) (c:aA) (b:StoreT):(List bZ) × Int:=
 bnd (eG d l1 c b l1 []) λ sLrL=>bnd (mP [] ((sLrL++d.a.b.a)++l1)) λ a=>if a.2.2=0 then((r6 ((X ((sLrL++d.a.b.a)++l1)) - X l1) a.2.1),0) else(([]:List bZ),a.2.2)
theorem wN (w D R) (d:bK) (Z5 Z6 I Z7 P Q Z0 n1 c1 l1 p) (a:aA) (u x z A B C E F G g) (b:StoreT) (h f r0 r1) (H:Own w D w [blk R [Zq (Zw ⟨p,0,Zv⟩), W Z5 (X d.a.a.a) Z6, W I (X d.a.b.a) Z7, V d.a.e, W P (X d.b.a) Q] 92,blk p (kB a u (X a.a.b.a) x z (X a.a.a.a) A B (X a.a.f.a) C a.a.k g E (X a.b.a) F G) 80,blk g [W h (X b.a.a) f] 27]) (aT:Ro w D λ w'=>bP w' 6 I (X d.a.b.a) (q0 aY.J d.a.b.a)) (dC:X d.a.b.a<=Z7/\X d.a.b.a<=9223372036854775807) (aB:Ro w D λ w'=>bP w' 6 Z0 n1 (q0 aY.J l1)) (dD:n1=X l1) (fO:X l1 *80<=211106232532992) (S:Ro w D λ w'=>bP w' 2 h (X b.a.a) (q0 ay.J b.a.a)) (aU:X b.a.a<=f/\X b.a.a<=9223372036854775807) (fP:X l1<=24/\X d.a.b.a<=1000/\X b.a.a<=4000) (hr:jI d l1 a b=(r0,r1)):
    Calls v1 130 #[vP R 0, W Z0 n1 c1] w (dM λ v w'=> ∃ B0 b0 e0,v= .tuple #[W B0 (X r0) b0,vI r1]/\Own w D w' [row B0 (X r0) b0 (q0 aR.J e0) 70 3,sepL (q0 Kc e0),blk R [vP p 0, W Z5 (X d.a.a.a) Z6, W I (X d.a.b.a) Z7, V d.a.e, W P (X d.b.a) Q] 92,blk p (kB a u (X a.a.b.a) x z (X a.a.a.a) A B (X a.a.f.a) C a.a.k g E (X a.b.a) F G) 80,blk g [W h (X b.a.a) f] 27]/\(r7 aR.abs e0=r0)/\(X r0<=24)):=by
 unfold jI at hr
 subst dD
 refine cb Tryz.func130 ?_
 refine sr (Az Z (Ar Z (An Z (JG (sr (Mz Z (Kz (vJ (X l1)) (Mn Z (bo ?_)))))))))
 have dG:Own w D w [row Zv 0 0 (q0 aY.J []) 68 6,blk R [vP p 0, W Z5 (X d.a.a.a) Z6, W I (X d.a.b.a) Z7, V d.a.e, W P (X d.b.a) Q] 92,blk p (kB a u (X a.a.b.a) x z (X a.a.a.a) A B (X a.a.f.a) C a.a.k g E (X a.b.a) F G) 80,blk g [W h (X b.a.a) f] 27]:=H.free (cK 68 6)
 have dH:=dG.pb [0]
 obtain⟨dI,aa⟩:=wY λ aC (aD:Nat) c (l:Nat) w'=>Own w D w' [blk R [vP p 0, W Z5 (X d.a.a.a) Z6, W I (X d.a.b.a) Z7, V d.a.e, W P (X d.b.a) Q] 92,blk p (kB a u (X a.a.b.a) x z (X a.a.a.a) A B (X a.a.f.a) C a.a.k g E (X a.b.a) F G) 80,blk g [W h (X b.a.a) f] 27,row aC (X c) aD (q0 aY.J c) 68 6]/\l<=X l1/\X c<=4000 *l/\eG d l1 a b l1 []=eG d l1 a b (r6 l l1) c
 refine B4 (λ i:(Option Addr) × Nat × (List aY) × Nat=> [(4, W Zv 0 0),(5,vI 0),(6, W i.1 (X i.2.2.1) i.2.1),(18,vJ i.2.2.2),(17,vJ (X l1)),(16, W Z0 (X l1) c1),(0,vP R 0),(1, W Z0 (X l1) c1)]) dI (λ i=>X l1 - i.2.2.2) (Zv,0, [],0) ⟨Z,Z,Z,Z,Z,Z,Z,Z,ZW⟩ (aa.2 ⟨dH,(show 0<=X l1/\0<=4000 *0/\eG d l1 a b l1 []=eG d l1 a b (r6 0 l1) [] from ⟨Y,Y,Z⟩)⟩) ?_
 rintro ⟨aC,aD,c,l⟩ fQ bA
 show Wp _ _ _ [(4, W Zv 0 0),(5,vI 0),(6, W aC (X c) aD),(18,vJ l),(17,vJ (X l1)),(16, W Z0 (X l1) c1),(0,vP R 0),(1, W Z0 (X l1) c1)] _ _
 obtain⟨Z9,eY,eZ,aI⟩:=aa.1 bA
 refine sr (Kz (Zb ((l:Int) < (X l1:Int))) (nt (JG ?_)))
 by_cases bB:(l:Int) < (X l1:Int)
 obtain⟨Z8,aJ⟩:=dJ (ls:=l1) (i:=l) aY.len f6 (Z9.ro aB) f4
 have bC:=drop_at aJ
 refine jT (dT bB) (sk (JG (bo (sr (fw (Zq (Zw ⟨ab Z0,ao Z0+l *6,Zv⟩)) (JU (oD) Z Z ((Z9.ro aB).addr (i:=l) Y) Y) (fw (Zx (Zc (aY.J Z8))) (JS Z (JW (cs:=(aY.J Z8)) C6 C5 ((Z9.ro aB).elem aY.len aJ f6))) ?_))))))
 refine cu [vI 0, Zz ⟨Zc []⟩, Zz ⟨Zc []⟩, Zz ⟨Zc []⟩, Zz ⟨Zc []⟩,vI 0] 68 Z9 ?_
 intro fT fU dK
 refine cO (aY.J Z8) 0 dK C5 ?_
 intro fV dL
 refine nt (JG ?_)
 refine Gq [] (JP (bI.block (JP (JP (bI.block (JP J3)))))) dL ?_
 intro fZ dN
 refine qv 0 Z Z (qp R 0 1 Z (qp R 0 2 Z (ql 3 Z 1 S3 Z Z Z (qt (v:= Zx (Zc (aY.J Z8))) 4 Z (λ _ ⟨_,H9⟩=>JS Z (JW (cs:=(aY.J Z8)) C6 C5 ((H9.cls (i:=0) Z).lit (k:=0) (m:=6) Z))) ?_))))
 have dO:=dN.pf [2,3]
 obtain⟨⟨j,Z1⟩,aK⟩:∃ q:(List ay) × Int,lg a Z8 b=q:=⟨_,Z⟩
 obtain⟨gp,bD,bE,bF,fe⟩:=Ko dO
 refine qd 5 Z (J6 Tryz.call176 Z (wM _ _ p a u x z A B C E F G Z8 g b h f j Z1 bD (bE _ S) Y f2 aK) ?_)
 rintro _ gq ⟨Z2,aF,rfl,bG,aL⟩
 have bH:=bF _ _ bG
 have fo:=zr 0 bH
 replace aL:Z1=0/\X j<=4000:=aL
 have bJ:=bH.px [3,4] [] [0]
 refine⟨.inr ⟨_,bJ⟩, ?_⟩
 refine qv 6 Z Z (qk (W Z2 (X j) aF) 7 Z (qk (vI Z1) 8 Z (qa 9 Z Z (qa 10 Z Z (qn (JK (JG (JG ?_))))))))
 have dP:=bJ.px [] [0] []
 refine JI (Mz Z (fw (Zb (¬ (Z1=0))) (JZ (e:= !(Zy (Z1=0))) yk ZY) (nt ?_)))
 have bL:(Zy (¬ (Z1=0)))=J:=(dF Y)
 refine jF bL (sk (sr (Mz Z (Kz (vJ (X j)) (Mn Z (bo ?_))))))
 have dQ:=dP.pb [3]
 obtain⟨dR,af⟩:=wY λ aG (aH:Nat) r (o:Nat) w'=>Own w D w' [blk R [vP p 0, W Z5 (X d.a.a.a) Z6, W I (X d.a.b.a) Z7, V d.a.e, W P (X d.b.a) Q] 92,blk p (kB a u (X a.a.b.a) x z (X a.a.a.a) A B (X a.a.f.a) C a.a.k g E (X a.b.a) F G) 80,blk g [W h (X b.a.a) f] 27,row Z2 (X j) aF (q0 ay.J j) 101 2,row aG (X r) aH (q0 aY.J r) 68 6]/\o<=X j/\X r=X c+o/\X r<=X c+o/\X r<=4000 *l+o/\ig j c=ig (r6 o j) r
 refine B4 (λ i:(Option Addr) × Nat × (List aY) × Nat=> [(6, W i.1 (X i.2.2.1) i.2.1),(36,vJ i.2.2.2),(35,vJ (X j)),(34, W Z2 (X j) aF),(4, W Zv 0 0),(5,vI 0),(18,vJ l),(17,vJ (X l1)),(16, W Z0 (X l1) c1),(0,vP R 0),(1, W Z0 (X l1) c1)]) dR (λ i=>X j - i.2.2.2) (aC,aD,c,0) ⟨Z,Z,Z,Z,Z,Z,Z,Z,Z,Z,Z,ZW⟩ (af.2 ⟨dQ,Y,Y,Y,Y,Z⟩) ?_
 rintro ⟨aG,aH,r,o⟩ gu bM
 show Wp _ _ _ [(6, W aG (X r) aH),(36,vJ o),(35,vJ (X j)),(34, W Z2 (X j) aF),(4, W Zv 0 0),(5,vI 0),(18,vJ l),(17,vJ (X l1)),(16, W Z0 (X l1) c1),(0,vP R 0),(1, W Z0 (X l1) c1)] _ _
 obtain⟨ag,fu,fA,fB,fC,aM⟩:=af.1 bM
 refine sr (Kz (Zb ((o:Int) < (X j:Int))) (nt (JG ?_)))
 by_cases bO:(o:Int) < (X j:Int)
 obtain⟨n,aN⟩:=dJ (ls:=j) (i:=o) ay.len f6 (ag.rds (i:=3) Z) f4
 have bR:=drop_at aN
 refine jT (dT bO) (sk (JG (bo (sr (fw (Zq (Zw ⟨ab Z2,ao Z2+o *2,Zv⟩)) (JU (iW) Z Z ((ag.rds (i:=3) Z).addr (i:=o) Y) Y) (fw (Zx (Zc (ay.J n))) (JS Z (JW (cs:=(ay.J n)) Tryz.isAgg101 Tryz.sizeOf101 ((ag.rds (i:=3) Z).elem ay.len aN f6))) ?_))))))
 refine cu [Zz ⟨Zc []⟩, Zz ⟨Zc []⟩] 101 ag ?_
 intro bS gy dS
 refine cO (ay.J n) 0 dS Tryz.sizeOf101 ?_
 intro gz aV
 refine nt (JI (Mz Z (Kz (vP bS 0) (Lz (Zz ⟨Zc n.f⟩) aV 0 Tryz.isAgg9 (Kz (vP bS 1) (Lz (Zz ⟨Zc n.g⟩) aV 0 Tryz.isAgg9 (Kz (Zx #[vI 2, Zz ⟨Zc n.f⟩, Zz ⟨Zc n.g⟩, Zz ⟨Zc []⟩, Zz ⟨Zc []⟩,vI 0]) ?_)))))))
 refine jW [vI 2, Zz ⟨Zc n.f⟩, Zz ⟨Zc n.g⟩, Zz ⟨Zc []⟩, Zz ⟨Zc []⟩,vI 0] 68 6 1 aV ?_
 intro dU gB aW
 replace aW:=Ke (y:=row dU 1 1 (q0 aY.J ([(aY.q 2 n.f n.g [] [] 0)])) 68 6) Z aW
 have bT:=aW.pf [6]
 refine WL.do Z (J7 (k:=X r) (m:=1) (oD) bT Z Z (fq Q9 (bT.rds (i:=1) Z) (di aY.one ([(aY.q 2 n.f n.g [] [] 0)]))) Z Y (s:=X (r++ [(aY.q 2 n.f n.g [] [] 0)])) f7 (u0).symm ?_)
 intro dV dW gD dX
 have fD:X (r++ [(aY.q 2 n.f n.g [] [] 0)])=X r+1:=by simp only [o2,q5,L3]
 refine Az Z (B8 (bN (JK ?_)))
 have bU:=dX.px [] [1,2] []
 refine JI (fw (vJ (o+1)) (JN (e:=B7.wrap ((o:Int)+1)) yk f3) (Mz Z (B8 ?_)))
 have bV:=bU.pb [0]
 exact JX (dV,dW,(r++ [(aY.q 2 n.f n.g [] [] 0)]),o+1) ⟨Z,Z,Z,Z,Z,Z,Z,Z,Z,Z,Z,ZW⟩ (af.2 ⟨bV,Y,Y,Y,Y,N (aM) (N (ZJ (λ q=>ig q r) bR) Z)⟩) (by show X j - (o+1) < X j - o; omega)
 refine jF (dF bO) (B9 (JV ?_))
 have aX:ig j c=r:=N (aM) (N (ZJ (λ q=>ig q r) (eH (ls:=j) (i:=o) Y)) Z)
 refine JV (J2 (bN (JK ?_)))
 have bW:=ag.px [] [3] []
 refine JI (fw (vJ (l+1)) (JN (e:=B7.wrap ((l:Int)+1)) yk f3) (Mz Z (B8 ?_)))
 have bX:=bW.pf []
 exact JX (aG,aH,r,l+1) ⟨Z,Z,Z,Z,Z,Z,Z,Z,ZW⟩ (aa.2 ⟨bX,Y,Y,N (aI) (N (ZJ (λ q=>eG d l1 a b q c) bC) (N (ae aK) (ae aX)))⟩) (by show X l1 - (l+1) < X l1 - l; omega)
 refine jF (dF bB) (B9 (JV ?_))
 have ah:eG d l1 a b l1 []=c:=N (aI) (N (ZJ (λ q=>eG d l1 a b q c) (eH (ls:=l1) (i:=l) Y)) Z)
 refine JV (J2 (JK (sr (Mz Z (Mz Z (Kz (vP R 0) (Kz (vP R 1) (Kz (vP R 2) (Lz (W I (X d.a.b.a) Z7) Z9 0 E6 ?_)))))))))
 have aO:=Z9.pf [3]
 refine WL.do Z (J7 (k:=X c) (m:=X d.a.b.a) (oD) aO Z Z (fq Q9 (aO.ro aT) (di aY.one d.a.b.a)) Z Y (s:=X (c++d.a.b.a)) f7 (u0).symm ?_)
 intro fE fF fG aP
 have dY:X (c++d.a.b.a)=X c+X d.a.b.a:=by simp only [o2,q5,L3]
 refine Mz Z ?_
 refine WL.do Z (J7 (k:=X (c++d.a.b.a)) (m:=X l1) (oD) aP Z Z (fq Q9 (aP.ro aB) (di aY.one l1)) Z Y (s:=X ((c++d.a.b.a)++l1)) f7 (u0).symm ?_)
 intro bY cz fH cB
 have dZ:X ((c++d.a.b.a)++l1)=(X (c++d.a.b.a))+X l1:=by simp only [o2,q5,L3]
 refine Ar Z (Mz Z ?_)
 obtain⟨⟨ai,t,K⟩,L⟩:∃ q:(List ay) × (List bZ) × Int,mP [] ((c++d.a.b.a)++l1)=q:=⟨_,Z⟩
 obtain⟨fI,aZ,d9,bf,bi⟩:=JJ cB
 refine cl Tryz.call177 (CK _ _ Zv 0 0 [] bY (X ((c++d.a.b.a)++l1)) cz ((c++d.a.b.a)++l1) ai t K aZ (λ _ _=>bP.nil _ _ _) Z i7 (bi _ 0 _ Z bQ) Z i4 i1 L) ?_
 rintro _ aQ ⟨cZ,df,aj,Z4,ak,rfl,bn,M,au,av⟩
 have ax:=bf _ _ bn
 have ed:=bg M
 have ek:=zr 0 ax
 have eu:=zr 1 ax
 replace au:X ai<=0+X ((c++d.a.b.a)++l1):=au
 replace av:X t<=X ((c++d.a.b.a)++l1):=av
 have eB: ¬ (K=0)\/X t=X ((c++d.a.b.a)++l1):=EW L
 refine Mz Z (Kz (W cZ (X ai) df) (Kz (W aj (X t) Z4) (Kz (vI K) (Az Z (Az Z (An Z (JG (JG ?_))))))))
 have aS:=ax.px [] [0] []
 refine JI (Mz Z (fw (Zb (¬ (K=0))) (JZ (e:= !(Zy (K=0))) yk ZY) (nt ?_)))
 by_cases Z3:K=0
 refine jF (dF (Nc Z3)) (sk (sr (Mz Z (Mz Z (Kz (vI ((X ((c++d.a.b.a)++l1):Nat):Int)) (Mz Z (Kz (vJ (X l1)) (fw (vI (((X ((c++d.a.b.a)++l1)) - X l1:Nat):Int)) (JN (e:=B7.wrap (((X ((c++d.a.b.a)++l1):Nat):Int) - (X l1:Int))) yk f3) (fw (W (eU aj ((X ((c++d.a.b.a)++l1)) - X l1) 3 Z4) (X t - ((X ((c++d.a.b.a)++l1)) - X l1)) (Z4 - ((X ((c++d.a.b.a)++l1)) - X l1))) (Ka (qF) Z Z Y) ?_)))))))))
 obtain⟨fJ,bq,eD,bu,eF⟩:=Ko aS
 refine cl Tryz.call178 (Ee _ _ aj (X t) Z4 ak t ((X ((c++d.a.b.a)++l1)) - X l1) bq Z M Y Y Y) ?_
 rintro _ fM ⟨dh,dm,rfl,bv⟩
 have dn:=bu _ _ bv
 have eO:X (r6 ((X ((c++d.a.b.a)++l1)) - X l1) t)=X t - ((X ((c++d.a.b.a)++l1)) - X l1):=by rw [List.length_drop]
 have eP:X (r6 ((X ((c++d.a.b.a)++l1)) - X l1) ak)=X (r6 ((X ((c++d.a.b.a)++l1)) - X l1) t):=by exact bg (by rw [List.map_drop,M])
 refine Az Z (An Z (rt (JY (kS Z Z Z) ?_)))
 have dw:=dn.px [] [2] []
 obtain⟨rfl,rfl⟩:=fK (zj hr zq3)
 exact⟨dh,dm,(r6 ((X ((c++d.a.b.a)++l1)) - X l1) ak),Z,dw,(by rw [List.map_drop,M]),f2⟩
 refine jT (dT Z3) (sr (Mz Z (Az Z (An Z (rt (tR (JY (kS Z Z Z) ?_)))))))
 have dx:Own w D aQ (sepL (q0 Kc [])::_):=aS.sepNil
 have dz:Own w D aQ (row Zv 0 0 (q0 aR.J []) 70 3::_):=dx.free (cK 70 3)
 have dA:=dz.pk [0,1,5,6,7]
 obtain⟨rfl,rfl⟩:=fK (zj hr zq3)
 exact⟨Zv,0, [],Z,dA,Z,f2⟩
def fV (d:bK) (e:df) (c:aA) (b:StoreT):Int × bK:=
 bnd (jI d e.a.a c b) λ a=>if a.2=0 then(0,bK.q (dL.q (O (d.a.a.a++ [(dK.q 4 c.a.l 0 0 3 0 0 0 e.f 0 0 0 0 0 0 J (au.q [] []) (O []) (O a.1) (O []))])) (O d.a.b.a) d.a.e) (O d.b.a)) else(a.2,d)
theorem sF (w D Z9) (h:bK) (Z8 Z4 z Z3 Z5 Z2 Z0) (d:df) (Z6 ak P n) (a:aA) (B C E F G I Z7 K L p) (b:StoreT) (g c r0) (r1:bK) (H:Own w D w [blk Z9 [Zq (Zw ⟨n,0,Zv⟩), W Z8 (X h.a.a.a) Z4, W Z3 (X h.a.b.a) Z5, V h.a.e, W Z2 (X h.b.a) Z0] 92,row Z8 (X h.a.a.a) Z4 (q0 bU.J z) 47 21,sepL (q0 Kg z),blk n (kB a B (X a.a.b.a) C E (X a.a.a.a) F G (X a.a.f.a) I a.a.k p Z7 (X a.b.a) K L) 80,blk p [W g (X b.a.a) c] 27]) (M:r7 bU.abs z=h.a.a.a) (ax:Ro w D λ w'=>bP w' 6 Z3 (X h.a.b.a) (q0 aY.J h.a.b.a)) (bi:X h.a.b.a<=Z5/\X h.a.b.a<=9223372036854775807) (az:ak=X d.a.a) (aB:Ro w D λ w'=>bP w' 6 Z6 (X d.a.a) (q0 aY.J d.a.a)) (bn:X d.a.a<=P/\X d.a.a<=9223372036854775807) (R:Ro w D λ w'=>bP w' 2 g (X b.a.a) (q0 ay.J b.a.a)) (aC:X b.a.a<=c/\X b.a.a<=9223372036854775807) (cZ:X h.a.a.a<=100000/\X d.a.a<=24/\X h.a.b.a<=1000/\X b.a.a<=4000) (hr:fV h d a b=(r0,r1)):
    Calls v1 78 #[vP Z9 0, Zx #[vU d.f, W Z6 ak P]] w (dM λ v w'=> ∃ aa af S,v=vI r0/\Own w D w' [blk Z9 [vP n 0, W aa (X r1.a.a.a) af, W Z3 (X h.a.b.a) Z5, V h.a.e, W Z2 (X h.b.a) Z0] 92,row aa (X r1.a.a.a) af (q0 bU.J S) 47 21,sepL (q0 Kg S),blk n (kB a B (X a.a.b.a) C E (X a.a.a.a) F G (X a.a.f.a) I a.a.k p Z7 (X a.b.a) K L) 80,blk p [W g (X b.a.a) c] 27]/\(r7 bU.abs S=r1.a.a.a)/\(X r1.a.a.a<=X h.a.a.a+1)):=by
 unfold fV at hr
 subst az
 have bf:=bg M
 have bq:=zr 1 H
 refine cb Tryz.func78 ?_
 refine sr ?_
 refine cu [vU d.f, W Z6 (X d.a.a) P] 60 H ?_
 intro aI dh aJ
 refine Ar Z (Mz Z (Kz (vP aI 1) (Lz (W Z6 (X d.a.a) P) aJ 0 E6 ?_)))
 have bu:=aJ.pb [0,2,3]
 obtain⟨⟨r,Z1⟩,ag⟩:∃ q:(List bZ) × Int,jI h d.a.a a b=q:=⟨_,Z⟩
 obtain⟨dm,aK,ah,aL,bS⟩:=KE bu
 refine cl Tryz.call130 (wN _ _ Z9 h Z8 Z4 Z3 Z5 Z2 Z0 Z6 (X d.a.a) P d.a.a n a B C E F G I Z7 K L p b g c r Z1 aK (ah _ ax) Y (ah _ aB) Z Y (ah _ R) Y f2 ag) ?_
 rintro _ dn ⟨j,l,A,rfl,aM,Q,av⟩
 have ai:=aL _ _ aM
 have bT:=bg Q
 have bV:=zr 0 ai
 replace av:X r<=24:=av
 refine Mz Z (Kz (W j (X r) l) (Kz (vI Z1) (Az Z (An Z (JG (sr (Mz Z (fw (Zb (¬ (Z1=0))) (JZ (e:= !(Zy (Z1=0))) yk ZY) (nt ?_)))))))))
 by_cases aj:Z1=0
 refine jF (dF (Nc aj)) (sk (sr (Mz Z (Kz (vP aI 0) (Lz (vU d.f) ai 5 E3 (Mz Z (Kz (Zx (Zc (iF 4 0 0 0 3 0 0 0 d.f 0 0 0 0 0 0 J [] [] Zv 0 0 j (X r) l Zv 0 0))) ?_)))))))
 refine WL.do Z (J6 Tryz.call81 Z ?_ (λ _ _ k=>k))
 refine cb Tryz.func81 ?_
 refine sr ?_
 refine cu (iF 4 0 0 0 3 0 0 0 d.f 0 0 0 0 0 0 J [] [] Zv 0 0 j (X r) l Zv 0 0) 47 ai ?_
 intro aD dw aF
 refine ns (Mz Z (Kz (vP Z9 0) (Kz (vP Z9 0) (Lz (vP n 0) aF 3 S3 (Kz (vP n 0) (Kz (vP n 0) (Kz (vP n 0) (Lz (vI a.a.l) aF 4 Tryz.isAgg3 (Kz (vP aD 1) ?_)))))))))
 refine cO [vI a.a.l] 1 aF Tryz.sizeOf3 ?_
 intro dx aN
 refine ns (Kz (vP aD 18) (Lz (W Zv 0 0) aN 0 E6 ?_))
 obtain⟨dz,aO,bW,aP,bX⟩:=JJ aN
 refine cl Tryz.call36 (jb _ _ Zv 0 0 [] [] aO (λ _ _=>bP.nil _ _ _) Z i7 Z) ?_
 rintro _ dA ⟨u,x,rfl,aQ⟩
 have aS:=aP _ _ aQ
 have bY:=zr 0 aS
 refine Kz (vP aD 18) ?_
 have bv:=aS.pf [1]
 refine cO [W u 0 x] 18 bv S4 ?_
 intro dB bz
 refine nt ?_
 refine mX 10 [8,12] J3 bz ?_
 intro dC bA
 refine Ki (v:=vP Z9 0) 0 Z f1 (λ _=>JM Z) (qv 1 Z Z (qp Z9 0 2 Z (qp Z9 1 3 Z (qp Z9 1 4 Z (ql 5 Z 4 Tryz.isAgg50 Z Z Z (qt (v:= Zx (Zc (iF 4 a.a.l 0 0 3 0 0 0 d.f 0 0 0 0 0 0 J [] [] u 0 x j (X r) l Zv 0 0))) 6 Z (λ _ ⟨_,H9⟩=>JS Z (JW (cs:=(iF 4 a.a.l 0 0 3 0 0 0 d.f 0 0 0 0 0 0 J [] [] u 0 x j (X r) l Zv 0 0)) Tryz.isAgg47 Tryz.sizeOf47 ((H9.cls (i:=0) Z).lit (k:=0) (m:=21) Z))) ?_))))))
 refine qd 7 Z (Kt (cs:=(iF 4 a.a.l 0 0 3 0 0 0 d.f 0 0 0 0 0 0 J [] [] u 0 x j (X r) l Zv 0 0)) (t:=47) (sz:=21) (m:=1) bA Z Z Za Z f6 ?_)
 intro aT bB aG
 replace aG:=Ke (y:=row aT 1 1 (q0 bU.J ([(bU.q 4 a.a.l 0 0 3 0 0 0 d.f 0 0 0 0 0 0 J (au.q [] []) (O6 u x []) (O6 j l A) (O6 Zv 0 []))])) 47 21) (ZJ (λ z9=>row aT 1 1 [vI 4,vI a.a.l,vI 0,vI 0,vI 3,vI 0, .int .u64 0, .int .u64 0,vU d.f, .int .u64 0, .int .u64 0, .int .u64 0, .int .u64 0, .int .u64 0, .int .u64 0, V J, Zz ⟨Zc []⟩, Zz ⟨Zc []⟩, W u 0 x, W j z9 l, W Zv 0 0] 47 21) (bg Q).symm) aG
 have aV:=aG.pb [0]
 refine⟨.inr ⟨_,aV⟩, ?_⟩
 have bC:Own w D bB (row Zv 0 0 (q0 bO.J []) 83 2::_):=aV.free (cK 83 2)
 have aW:=bC.pf [9,10,2,3,0,4]
 refine qd 8 Z (J7 (k:=X h.a.a.a) (m:=1) (ug) aW Z Z (fq S5 (aW.rds (i:=11) Z) (di bU.one ([(bU.q 4 a.a.l 0 0 3 0 0 0 d.f 0 0 0 0 0 0 J (au.q [] []) (O6 u x []) (O6 j l A) (O6 Zv 0 []))]))) Z Y (s:=X (h.a.a.a++ [(dK.q 4 a.a.l 0 0 3 0 0 0 d.f 0 0 0 0 0 0 J (au.q [] []) (O []) (O r) (O []))])) f7 (u0).symm ?_)
 intro aX aZ bD bE
 have bF:=bE.pf [3]
 have bG:=Ms (bg Q).symm bF
 have bH:=bG.pf [2,3,0,4,5]
 have bI:Own w D bD (sepL (q0 Kg (z++ [(bU.q 4 a.a.l 0 0 3 0 0 0 d.f 0 0 0 0 0 0 J (au.q [] []) (O6 u x []) (O6 j l A) (O6 Zv 0 []))]))::_):=bH.sepAdd (L2:= [row u 0 x (q0 aY.J []) 68 6,row j (X A) l (q0 aR.J A) 70 3,row Zv 0 0 (q0 bO.J []) 83 2,sepL (q0 Kc A)]) (u0 (f:=Kg) (xs:=z) (ys:= [(bU.q 4 a.a.l 0 0 3 0 0 0 d.f 0 0 0 0 0 0 J (au.q [] []) (O6 u x []) (O6 j l A) (O6 Zv 0 []))])).symm
 have cz:X (h.a.a.a++ [(dK.q 4 a.a.l 0 0 3 0 0 0 d.f 0 0 0 0 0 0 J (au.q [] []) (O []) (O r) (O []))])=X h.a.a.a+1:=by simp only [o2,q5,L3]
 have cB:=bg (jP (es:= [(bU.q 4 a.a.l 0 0 3 0 0 0 d.f 0 0 0 0 0 0 J (au.q [] []) (O6 u x []) (O6 j l A) (O6 Zv 0 []))]) (ms:= [(dK.q 4 a.a.l 0 0 3 0 0 0 d.f 0 0 0 0 0 0 J (au.q [] []) (O []) (O r) (O []))]) M (ZJ (λ z9=> [dK.q 4 a.a.l 0 0 3 0 0 0 d.f 0 0 0 0 0 0 J (au.q [] []) (O []) (O z9) (O [])]) Q))
 refine⟨.inl f1, ?_⟩
 refine Ki (v:=vP Z9 0) 9 Z f1 (λ _=>yk) (Ki (v:=vP Z9 1) 10 Z f1 (λ _=>yk) (Ki (v:=vP Z9 1) 11 Z f1 (λ _=>yk) ?_))
 have bJ:=bI.pf [3]
 refine qe 12 Z (Do.store (vs:= [W aX (X (h.a.a.a++ [(dK.q 4 a.a.l 0 0 3 0 0 0 d.f 0 0 0 0 0 0 J (au.q [] []) (O []) (O r) (O []))])) aZ]) (o:=1) bJ Z Z Tryz.sizeOf50 Z Z Z Z ?_)
 intro dE bL
 refine⟨.inl f1, ?_⟩
 refine qn (Kl (res0 Z) (nt (JG ?_)))
 have bM:=bL.pk [0,1,2,4,5]
 refine JI (An Z (rt (rs ?_)))
 have bN:=bM.pf [0,2]
 obtain⟨rfl,rfl⟩:=fK (zj hr zq2)
 exact⟨aX,aZ,(z++ [(bU.q 4 a.a.l 0 0 3 0 0 0 d.f 0 0 0 0 0 0 J (au.q [] []) (O6 u x []) (O6 j l A) (O6 Zv 0 []))]),Z,bN,(jP (es:= [(bU.q 4 a.a.l 0 0 3 0 0 0 d.f 0 0 0 0 0 0 J (au.q [] []) (O6 u x []) (O6 j l A) (O6 Zv 0 []))]) (ms:= [(dK.q 4 a.a.l 0 0 3 0 0 0 d.f 0 0 0 0 0 0 J (au.q [] []) (O []) (O r) (O []))]) M (ZJ (λ z9=> [dK.q 4 a.a.l 0 0 3 0 0 0 d.f 0 0 0 0 0 0 J (au.q [] []) (O []) (O z9) (O [])]) Q)),f2⟩
 refine jT (dT aj) (sr (Mz Z (An Z (rt (tR (rs ?_))))))
 have bQ:=ai.pk [2,6,7,3,4]
 obtain⟨rfl,rfl⟩:=fK (zj hr zq2).symm
 exact⟨Z8,Z4,z,Z,bQ,M,f2⟩
def gG (e:bK):List aY->List aY->(List aY)
  | [],a=>a
  | b::c,a=>bnd (qc b) λ d=>if d=Zk then gG e c (a++ [b]) else gG e c a
def ji (a:bK) (l1:List aY) (b:aA):bK:=
 bnd (gG a l1 a.a.b.a) λ sLrL=>bK.q (dL.q (O a.a.a.a) (O sLrL) a.a.e) (O a.b.a)
theorem xh (w D z) (g:bK) (E F G I Z7 K Z2 n1 c1 l1 d) (a:aA) (h j l n o p r t u x) (Z0:bK) (H:Own w D w [blk z [Zq (Zw ⟨d,0,Zv⟩), W E (X g.a.a.a) F, W G (X g.a.b.a) I, V g.a.e, W Z7 (X g.b.a) K] 92,row G (X g.a.b.a) I (q0 aY.J g.a.b.a) 68 6,blk d (kB a h (X a.a.b.a) j l (X a.a.a.a) n o (X a.a.f.a) p a.a.k u r (X a.b.a) t x) 80]) (Z4:Ro w D λ w'=>bP w' 6 Z2 n1 (q0 aY.J l1)) (aB:n1=X l1) (aV:X l1 *80<=211106232532992) (aW:X l1<=24/\X g.a.b.a<=100) (hr:ji g l1 a=Z0):
    Calls v1 86 #[vP z 0, W Z2 n1 c1] w (dM λ v w'=> ∃ L M,v= .tuple #[]/\Own w D w' [blk z [vP d 0, W E (X g.a.a.a) F, W L (X Z0.a.b.a) M, V g.a.e, W Z7 (X g.b.a) K] 92,row L (X Z0.a.b.a) M (q0 aY.J Z0.a.b.a) 68 6,blk d (kB a h (X a.a.b.a) j l (X a.a.a.a) n o (X a.a.f.a) p a.a.k u r (X a.b.a) t x) 80]/\(X Z0.a.b.a<=X g.a.b.a+X l1)):=by
 unfold ji at hr
 subst aB
 have aC:=zr 1 H
 refine cb Tryz.func86 ?_
 refine sr (Mz Z (Kz (vJ (X l1)) (Mn Z (bo ?_))))
 have aD:=H.pb [1]
 obtain⟨aF,A⟩:=wY λ (b:Nat) B (C:Nat) c w'=>Own w D w' [blk z [vP d 0, W E (X g.a.a.a) F, W B (X c) C, V g.a.e, W Z7 (X g.b.a) K] 92,blk d (kB a h (X a.a.b.a) j l (X a.a.a.a) n o (X a.a.f.a) p a.a.k u r (X a.b.a) t x) 80,row B (X c) C (q0 aY.J c) 68 6]/\b<=X l1/\X c<=X g.a.b.a+b/\gG g l1 g.a.b.a=gG g (r6 b l1) c
 refine B4 (λ i:Nat × (Option Addr) × Nat × (List aY)=> [(8,vJ i.1),(7,vJ (X l1)),(6, W Z2 (X l1) c1),(0,vP z 0)]) aF (λ i=>X l1 - i.1) (0,G,I,g.a.b.a) ⟨Z,Z,Z,Z,ZW⟩ (A.2 ⟨aD,Y,Y,Z⟩) ?_
 rintro ⟨b,B,C,c⟩ aX aa
 show Wp _ _ _ [(8,vJ b),(7,vJ (X l1)),(6, W Z2 (X l1) c1),(0,vP z 0)] _ _
 obtain⟨Z5,aQ,aR,Z6⟩:=A.1 aa
 refine sr (Kz (Zb ((b:Int) < (X l1:Int))) (nt (JG ?_)))
 by_cases af:(b:Int) < (X l1:Int)
 obtain⟨f,S⟩:=dJ (ls:=l1) (i:=b) aY.len f6 (Z5.ro Z4) f4
 have Z8:=drop_at S
 refine jT (dT af) (sk (JG (bo (sr (fw (Zq (Zw ⟨ab Z2,ao Z2+b *6,Zv⟩)) (JU (oD) Z Z ((Z5.ro Z4).addr (i:=b) Y) Y) (fw (Zx (Zc (aY.J f))) (JS Z (JW (cs:=(aY.J f)) C6 C5 ((Z5.ro Z4).elem aY.len S f6))) ?_))))))
 refine cu [vI 0, Zz ⟨Zc []⟩, Zz ⟨Zc []⟩, Zz ⟨Zc []⟩, Zz ⟨Zc []⟩,vI 0] 68 Z5 ?_
 intro aZ bf aG
 refine cO (aY.J f) 0 aG C5 ?_
 intro bg ag
 refine nt (JG (sr (La (aY.J f) ag 0 C6 C5 ?_)))
 obtain⟨Z3,P⟩:∃ q,qc f=q:=⟨_,Z⟩
 obtain⟨bi,ah,aS,ai,aT⟩:=JJ ag
 refine cl Tryz.call140 (xG _ _ f Z3 ah P) ?_
 rintro _ bn ⟨rfl,aj⟩
 have Z9:=ai _ _ aj
 refine Kz (V (!Z3)) (nt ?_)
 rcases Nf (Z3) with Q | Q
 refine jF (cn Q) (sk (sr (Mz Z (La (aY.J f) Z9 0 C6 C5 ?_))))
 refine jW (aY.J f) 68 6 1 Z9 ?_
 intro aH bq R
 replace R:=Ke (y:=row aH 1 1 (q0 aY.J ([f])) 68 6) Z R
 refine WL.do Z (J6 Tryz.call95 Z ?_ (λ _ _ k=>k))
 refine cb Tryz.func95 ?_
 refine JI (Mz Z (Mz Z (Kz (vP z 0) (Kz (vP z 1) (Kz (vP z 2) (Lz (W B (X c) C) R 2 E6 (Mz Z ?_)))))))
 have ak:=R.pf [4]
 refine WL.do Z (J7 (k:=X c) (m:=1) (oD) ak Z Z (fq Q9 (ak.rds (i:=1) Z) (di aY.one ([f]))) Z Y (s:=X (c++ [f])) f7 (u0).symm ?_)
 intro au av bu aI
 have aU:X (c++ [f])=X c+1:=by simp only [o2,q5,L3]
 refine Kz (vP z 0) (Kz (vP z 1) (Kz (vP z 2) ?_))
 have aJ:=aI.pf [3]
 refine cO [W au (X (c++ [f])) av] 2 aJ S4 ?_
 intro bv aK
 refine B8 (Kl (res0 Z) (nt (JG ?_)))
 have Z1:=aK.px [] [2] []
 refine JI (Mz Z (Kz (vP z 0) (Kz (vP z 0) (Lz (vP d 0) Z1 0 S3 (Kz (vP d 0) (Kz (vP d 20) (Lz (Zq Zv) Z1 3 Tryz.isAgg78 (Kz (V J) (nt (jf (J8 (bN (JK ?_)))))))))))))
 have aL:=Z1.pk [0,1,3]
 refine JI (fw (vJ (b+1)) (JN (e:=B7.wrap ((b:Int)+1)) yk f3) (Mz Z (B8 ?_)))
 have aM:=aL.pb [1]
 exact JX (b+1,au,av,(c++ [f])) ⟨Z,Z,Z,Z,ZW⟩ (A.2 ⟨aM,Y,Y,N (Z6) (N (ZJ (λ q=>gG g q c) Z8) (N (ae P) (ip Q)))⟩) (by show X l1 - (b+1) < X l1 - b; omega)
 refine jT (cn Q) (B9 (JV (J2 (JK ?_))))
 have aN:=Z9.pk [1,2,3]
 refine JI (fw (vJ (b+1)) (JN (e:=B7.wrap ((b:Int)+1)) yk f3) (Mz Z (B8 ?_)))
 have aO:=aN.pf []
 exact JX (b+1,B,C,c) ⟨Z,Z,Z,Z,ZW⟩ (A.2 ⟨aO,Y,Y,N (Z6) (N (ZJ (λ q=>gG g q c) Z8) (N (ae P) (eP Q)))⟩) (by show X l1 - (b+1) < X l1 - b; omega)
 refine jF (dF af) (B9 (JV ?_))
 have ax:gG g l1 g.a.b.a=c:=N (Z6) (N (ZJ (λ q=>gG g q c) (eH (ls:=l1) (i:=b) Y)) Z)
 refine JV (J2 (Kl (res0 Z) ?_))
 have aP:=Z5.pb [1]
 obtain rfl:=zj hr zq1
 exact⟨B,C,Z,aP,f2⟩
end
theorem xX {l:List aN} (h:Ne l) (p:aN->Bool):Ne (l.filter p):=λ r hr=>h r (List.mem_filter.1 hr).1
theorem EX {l:List aN} (hs:Up l) (h:Ne l) (t:Nat) (x:aF):Ne (iK l t x):=by
  rcases mQ hs t with ⟨a,p,q,rfl,hp,ha,hq,_⟩ | ⟨a,q,rfl,ha,hq,_⟩
  . rw [wI x hp ha hq]
    intro r hr
    rcases List.mem_append.1 hr with b | b
    . exact h r (List.mem_append_left _ b)
    . rcases List.mem_cons.1 b with c | c
      . rw [c]; simp only [List.length_append,List.length_cons]; omega
      . exact h r (List.mem_append_right _ (.tail _ c))
  . rw [yu x ha hq]
    intro r hr
    rcases List.mem_append.1 hr with b | b
    . exact h r (List.mem_append_left _ b)
    . rcases List.mem_cons.1 b with c | c
      . rw [c]; simp only [List.length_append,List.length_cons]; omega
      . exact h r (List.mem_append_right _ c)
theorem uo {I:List aN->List Nat->List Nat->Prop}
    (step:∀ (m:List aN) (g d:List Nat) (r:aN),Fit m->I m g d->r ∈ m->r.f=Zk->eu (aZ.q (Ll.q m)) r.a r.e= []->
      I ((iK m r.a r.e).filter λ s=> !dies r.a r.e s) (g++ [r.a]) (d++List.map (λ q:aN=>q.a) ((iK m r.a r.e).filter (dies r.a r.e)))):
    ∀ (q:Nat) (l:List aN) (g d:List Nat),Wt l < q->Fit l->I l g d->I (dD q l g d).1 (dD q l g d).2.1 (dD q l g d).2.2/\Fit (dD q l g d).1/\(kL (aZ.q (Ll.q (dD q l g d).1))).2=J:=by
  intro q
  induction q with
  | zero=>intro l g d h; omega
  | succ q ih=>
    intro l g d hq hf hI
    rw [dD]
    simp only [bG]
    cases hn:kL (aZ.q (Ll.q l)) with
    | mk a b=>
      cases b with
      | false=>simp only [Bool.false_eq_true,if_false]; exact⟨hI,hf,by rw [hn]⟩
      | true=>
        simp only [if_true]
        obtain⟨r,hr,hw,ht,hx,hh⟩:=yX hn
        have hs:=yM hf hn (qA hf.up a.f a.a (fD.q (Ll.q g) (Ll.q d)))
        rw [qA hf.up]
        rw [<- ht, <- hx] at hs hh ⊢
        exact ih _ _ _ (Nat.lt_of_lt_of_le hs.2.1 (Nat.le_of_lt_succ hq)) hs.1 (step l g d r hf hI hr hw hh)
theorem tq (m:List aN) (c:fD):kN (aZ.q (Ll.q m)) c=
    (aZ.q (Ll.q (dD (Wt m+1) m c.b.a c.e.a).1),fD.q (Ll.q (sj (dD (Wt m+1) m c.b.a c.e.a).2.1)) (Ll.q (sj (dD (Wt m+1) m c.b.a c.e.a).2.2))):=by
  unfold kN
  simp only [bG,Ha]
theorem xY {m:List aN} (hf:Fit m) (hn:Ne m) (ht:kR m<=192) (g d:List Nat):jE (dD (Wt m+1) m g d).1:=by
  have h:=uo (I:=λ l _ _=>Ne l/\kR l<=192) (λ m g d r hf hI hr hw _=>by
    obtain⟨_,a,_⟩:=wK hf.up hr hw r.e
    exact⟨xX (EX hf.up hI.1 _ _) _,Nat.le_trans (mq _ _) (show kR (iK m r.a r.e)<=192 by rw [a]; exact hI.2)⟩) (Wt m+1) m g d Y hf ⟨hn,ht⟩
  exact⟨h.2.1.up,h.1.1,h.1.2⟩
theorem Bj {m:List aN} (h:jE m) {t:Nat} {g d:List Nat} {r:aZ} (hr:iT (aZ.q (Ll.q m)) t=(g,d,r)):jE r.a.a:=by
  unfold iT at hr
  rw [bG,bG,rD h.up,tq] at hr
  have e:r=_:=(ZJ (λ q=>q.2.2) hr).symm
  rw [e]
  exact xY (h.fit.filter _) (xX h.ne _) (Nat.le_trans (mq _ _) h.tot) _ _
theorem Eg {l:List aN} (h:kR l<=192):ng (aZ.q (Ll.q l))=(kR l:Int):=by
  have go:∀ (l:List aN) (z:Nat),z+kR l<=192->gZ l (z:Int)=((z+kR l:Nat):Int):=by
    intro l
    induction l with
    | nil=>intro z h; rfl
    | cons a l ih=>
      intro z h
      unfold kR pM at h
      simp only [List.map_cons,List.sum_cons] at h
      rw [gZ]
      by_cases c:a.f=Zk
      . rw [ZK c] at h
        rw [ZK c,Na (IntKind.i64.wrap _+1) f3,Na _ Y,show (z:Int)+(X a.b.a:Int)+1=((z+(X a.b.a+1):Nat):Int) from by omega,ih _ (by unfold kR pM; omega)]
        unfold kR pM
        simp only [List.map_cons,List.sum_cons,ZK c]
        omega
      . rw [ZV c] at h
        rw [ZV c,Na _ Y,show (z:Int)+(X a.b.a:Int)=((z+X a.b.a:Nat):Int) from by omega,ih _ (by unfold kR pM; omega)]
        unfold kR pM
        simp only [List.map_cons,List.sum_cons,ZV c]
        omega
  unfold ng
  rw [bG]
  have:=go l 0 Y
  rw [Nat.zero_add] at this
  exact this
def pO (l:List aN) (t:Nat) (x:aF):List aN:=(l.filter λ r=>decide (r.a < t))++(aN.q t (Ll.q (old l t)) Zk x::l.filter λ r=>decide (t < r.a))
theorem Ca {a q:List aN} {p:aN} {t:Nat} (x:aF) (hp:p.a=t) (ha:∀ r ∈ a,r.a < t) (hq:∀ r ∈ q,t < r.a):pO (a++p::q) t x=a++aN.q t (Ll.q p.b.a) Zk x::q:=by
  have h:=wI x hp ha hq
  unfold iK at h
  unfold pO
  have b:=List.append_inj h (by
    have:(List.filter (λ r:aN=>decide (r.a < t)) (a++p::q))=a:=by
      rw [List.filter_append,List.filter_cons_of_neg (by simp [hp]),nJ (λ r hr=>decide_eq_true (ha r hr)),List.filter_eq_nil_iff.2 (λ r hr=>by simp; have:=hq r hr; omega),List.append_nil]
    rw [this])
  have c:=List.cons.inj b.2
  rw [b.1,c.2]
  have d:old (a++p::q) t++ [x]=p.b.a++ [x]:=ZJ (λ r:aN=>r.b.a) c.1
  rw [(List.append_inj' d Z).1]
theorem Cb {a q:List aN} {t:Nat} (x:aF) (ha:∀ r ∈ a,r.a < t) (hq:∀ r ∈ q,t < r.a):pO (a++q) t x=a++aN.q t (Ll.q []) Zk x::q:=by
  have h:=yu x ha hq
  unfold iK at h
  unfold pO
  have b:=List.append_inj h (by
    have:(List.filter (λ r:aN=>decide (r.a < t)) (a++q))=a:=by
      rw [List.filter_append,nJ (λ r hr=>decide_eq_true (ha r hr)),List.filter_eq_nil_iff.2 (λ r hr=>by simp; have:=hq r hr; omega),List.append_nil]
    rw [this])
  have c:=List.cons.inj b.2
  rw [b.1,c.2]
  have d:old (a++q) t++ [x]= []++ [x]:=ZJ (λ r:aN=>r.b.a) c.1
  rw [(List.append_inj' d Z).1]
def gR (m:List aN) (t:Nat) (x:aF):List aN:=(iK m t x).filter λ r=> !dies t x r
def gD (m:List aN) (t:Nat) (x:aF):List Nat:=List.map (λ q:aN=>q.a) ((iK m t x).filter (dies t x))
def oP (m:List aN) (t:Nat) (x:aF):Int × List Nat × List Nat × Int × List aN:=
  if dR x.j=0 then
    if gu (aZ.q (Ll.q m)) t=Zk then(0, [], [],4,m)
    else if ku (aZ.q (Ll.q m)) t x=Zk then(1, [], [],0,m)
    else if 192<=kR m then(3, [], [],0,m)
    else if eu (aZ.q (Ll.q m)) t x= [] then
      (1,sj (dD (Wt (gR m t x)+1) (gR m t x) [] (gD m t x)).2.1,sj (dD (Wt (gR m t x)+1) (gR m t x) [] (gD m t x)).2.2,0,(dD (Wt (gR m t x)+1) (gR m t x) [] (gD m t x)).1)
    else if List.getD (eu (aZ.q (Ll.q m)) t x) 0 ZZ < t then(3, [], [],0,m)
    else(2, [], [],0,pO m t x)
  else(0, [], [],21,m)
theorem wO {m:List aN} (h:jE m) (t:Nat) (x:aF):iP (aZ.q (Ll.q m)) t x=((oP m t x).1,(oP m t x).2.1,(oP m t x).2.2.1,(oP m t x).2.2.2.1,aZ.q (Ll.q (oP m t x).2.2.2.2)):=by
  unfold iP oP
  simp only [bG]
  by_cases b:dR x.j=0
  . rw [ZK b,ZK b]
    by_cases c:gu (aZ.q (Ll.q m)) t=Zk
    . rw [ZK c,ZK c]
    . rw [ZV c,ZV c]
      by_cases d:ku (aZ.q (Ll.q m)) t x=Zk
      . rw [ZK d,ZK d]
      . rw [ZV d,ZV d,Eg h.tot]
        by_cases g:192<=kR m
        . rw [ZK Y,ZK g]
        . rw [ZV Y,ZV g]
          by_cases f:eu (aZ.q (Ll.q m)) t x= []
          . rw [ZK (by rw [f]; rfl),ZK f,qA h.up]
            simp only
            rw [tq]
            rfl
          . rw [ZV (show ¬ ((X (eu (aZ.q (Ll.q m)) t x):Nat):Int)=0 from λ e=>f (List.eq_nil_of_length_eq_zero (Int.ofNat.inj e))),ZV f]
            by_cases i:List.getD (eu (aZ.q (Ll.q m)) t x) 0 ZZ < t
            . rw [ZK Y,ZK i]
            . rw [ZV Y,ZV i]
              rcases mQ h.up t with ⟨a,p,q,rfl,hp,ha,hq,hf⟩ | ⟨a,q,rfl,ha,hq,hf⟩
              . rw [hf,ZK Z,Ca x hp ha hq]
                simp only [Int.toNat_natCast,gd,stt]
                rw [<- hp]
              . have j:List.drop (X a) (a++q)=q:=List.drop_left' Z
                have k:List.take (X a) (a++q)=a:=List.take_left' Z
                rw [hf,ZV i7,Cb x ha hq]
                simp only [Int.toNat_natCast,j,k,gd,stt]
  . rw [ZV b,ZV b]
theorem Gd {m:List aN} (hs:Up m) (t:Nat) (x:aF) (hw:gu (aZ.q (Ll.q m)) t≠Zk):Up (pO m t x)/\(Ne m->Ne (pO m t x))/\kR (pO m t x)=kR m+1:=by
  unfold gu at hw
  rw [bG] at hw
  rcases mQ hs t with ⟨a,p,q,rfl,hp,ha,hq,hf⟩ | ⟨a,q,rfl,ha,hq,hf⟩
  . rw [hf,ZK Z,bG] at hw
    simp only [Int.toNat_natCast,gd] at hw
    rw [Ca x hp ha hq]
    have h:=List.pairwise_append.1 hs
    have b:=List.pairwise_cons.1 h.2.1
    refine⟨zK (List.pairwise_append.2 ⟨h.1,b.2,λ r hr s hs=>h.2.2 r hr s (.tail _ hs)⟩) Z ha hq,λ hn r hr=> ?_, ?_⟩
    . rcases List.mem_append.1 hr with c | c
      . exact hn r (List.mem_append_left _ c)
      . rcases List.mem_cons.1 c with b | b
        . rw [b]; unfold pM; rw [ZK Z]; omega
        . exact hn r (List.mem_append_right _ (.tail _ b))
    . unfold kR pM; simp only [List.map_append,List.map_cons,List.sum_append,List.sum_cons]; rw [ZV hw]; simp; omega
  . rw [Cb x ha hq]
    refine⟨zK hs Z ha hq,λ hn r hr=> ?_, ?_⟩
    . rcases List.mem_append.1 hr with c | c
      . exact hn r (List.mem_append_left _ c)
      . rcases List.mem_cons.1 c with b | b
        . rw [b]; unfold pM; rw [ZK Z]; omega
        . exact hn r (List.mem_append_right _ b)
    . unfold kR pM; simp only [List.map_append,List.map_cons,List.sum_append,List.sum_cons]; simp; omega
theorem Eh {m:List aN} (h:jE m) (t:Nat) (x:aF):jE (oP m t x).2.2.2.2:=by
  unfold oP
  by_cases b:dR x.j=0
  . rw [ZK b]
    by_cases a:gu (aZ.q (Ll.q m)) t=Zk
    . rw [ZK a]; exact h
    . rw [ZV a]
      by_cases c:ku (aZ.q (Ll.q m)) t x=Zk
      . rw [ZK c]; exact h
      . rw [ZV c]
        by_cases d:192<=kR m
        . rw [ZK d]; exact h
        . rw [ZV d]
          by_cases e:eu (aZ.q (Ll.q m)) t x= []
          . rw [ZK e]
            obtain⟨n,o⟩:=vW m h.up t x
            have i:Ne (iK m t x):=EX h.up h.ne t x
            have j:kR (gR m t x)<=192:=Nat.le_trans (mq _ _) (show kR (iK m t x)<=192 by omega)
            have f:Ne (gR m t x):=xX i _
            exact xY ⟨(si h.up t x).filter _,show X (gR m t x)<=999999 by have:=Au f; omega,show kR (gR m t x)<=1000000 by omega⟩ f j _ _
          . rw [ZV e]
            by_cases g:List.getD (eu (aZ.q (Ll.q m)) t x) 0 ZZ < t
            . rw [ZK g]; exact h
            . rw [ZV g]
              obtain⟨k,l,p⟩:=Gd h.up t x a
              exact⟨k,l h.ne,by show kR (pO m t x)<=192; omega⟩
  . rw [ZV b]; exact h
theorem EY {m:List aN} (h:jE m) {t:Nat} {x:aF} {s e:Int} {g d:List Nat} {r:aZ} (hr:iP (aZ.q (Ll.q m)) t x=(s,g,d,e,r)):jE r.a.a:=by
  rw [wO h] at hr
  have e:r=_:=(ZJ (λ q=>q.2.2.2.2) hr).symm
  rw [e]
  exact Eh h t x
theorem EZ:jE []:=⟨List.Pairwise.nil,λ r hr=>(by cases hr),Nb _⟩
open List renaming getElem?_drop->m7,getElem?_eq_none->S8,getElem?_eq_some_iff->p0,getElem?_take->m6,mem_iff_getElem?->O1,pairwise_append->T0,pairwise_cons->N7,pairwise_iff_getElem->S6,take_append_drop->s1
open Nat renaming le_of_not_lt->S9,lt_or_ge->O0,lt_trans->S7
def tL (l:List bA):Prop:=l.Pairwise λ a b=>a.a < b.a
theorem zO {l:List bA} (hs:tL l) {i j:Nat} {a b:bA} (ha:l[i]? =Zw a) (hb:l[j]? =Zw b) (h:i < j):a.a < b.a:=by
  obtain⟨c,rfl⟩:=p0.1 ha
  obtain⟨d,rfl⟩:=p0.1 hb
  exact S6.1 hs i j c d h
theorem y9 {m:List bA} (hs:tL m) (k:Nat):∀ (f i j:Nat),j - i < f->i<=j->j<=X m->(∀ q p,m[q]? =Zw p->q < i->p.a < k)->(∀ q p,m[q]? =Zw p->j<=q->¬ p.a < k)->
    ∃ r,dB m k f i j=r/\r<=X m/\(∀ q p,m[q]? =Zw p->q < r->p.a < k)/\(∀ q p,m[q]? =Zw p->r<=q->¬ p.a < k)
  | 0,i,j,h,_,_,_,_=>Y
  | f+1,i,j,h,hij,hj,hl,hg=>by
    unfold dB
    by_cases b:(i:Int) < (j:Int)
    . obtain⟨x,hx⟩:∃ x,m[(i+j) / 2]? =Zw x:=⟨_,p2 Y⟩
      rw [ZK b,bG,bG,bu hx]
      show ∃ r,(if eQ x.a k < 0 then dB m k f ((i+j) / 2+1) j else dB m k f i ((i+j) / 2))=r/\_
      by_cases a:eQ x.a k < 0
      . rw [ZK a]
        refine y9 hs k f _ j Y Y hj (λ q p hq hlt=> ?_) hg
        rcases O0 q ((i+j) / 2) with e | e
        . exact S7 (zO hs hq hx e) (nQ.1 a)
        . have:q=(i+j) / 2:=Y
          subst this
          rw [hx] at hq; cases hq
          exact nQ.1 a
      . rw [ZV a]
        refine y9 hs k f i _ Y Y Y hl (λ q p hq hge hlt=> ?_)
        rcases O0 ((i+j) / 2) q with e | e
        . exact a (nQ.2 (S7 (zO hs hx hq e) hlt))
        . have:q=(i+j) / 2:=Y
          subst this
          rw [hx] at hq; cases hq
          exact a (nQ.2 hlt)
    . rw [ZV b]
      have:i=j:=Y
      subst this
      exact⟨i,Z,hj,hl,hg⟩
structure Jw (m:List bA) (k:Nat) (a b:List bA):Prop where q::
  app:m=a++b
  lo:∀ p ∈ a,p.a < k
  hi:∀ p ∈ b,k<=p.a
theorem E5 {m:List bA} (hs:tL m) (k:Nat):∃ a b,Jw m k a b/\(bJ m k).1=((X a:Nat):Int)/\((bJ m k).2=Zk↔∃ p q,b=p::q/\p.a=k):=by
  obtain⟨r,d,i,f,g⟩:=y9 hs k (X m - 0+1) 0 (X m) Y Y (Nat.le_refl _) (λ q p _ h=>Y) (λ q p hq h=>by have:=(p0.1 hq).1; omega)
  have hlen:X (t8 r m)=r:=by rw [o0]; omega
  have e:bJ m k=((r:Int),(bJ m k).2)/\((bJ m k).2=Zk↔∃ p,m[r]? =Zw p/\p.a=k):=by
    unfold bJ
    simp only [bG,d]
    by_cases c:(r:Int) < ((X m:Nat):Int)
    . obtain⟨x,hx⟩:∃ x,m[r]? =Zw x:=⟨_,p2 Y⟩
      rw [ZK c,bu hx]
      refine⟨Z, ?_⟩
      show Zy (eQ x.a k=0)=Zk↔_
      simp only [decide_eq_true_eq,xV,hx,Option.some.injEq,exists_eq_left']
    . rw [ZV c]
      refine⟨Z, ?_⟩
      have:m[r]? =Zv:=S8 Y
      simp [this]
  refine⟨t8 r m,r6 r m,⟨(s1 r m).symm,λ p hp=> ?_,λ p hp=> ?_⟩, ?_, ?_⟩
  . obtain⟨j,hj⟩:=O1.1 hp
    have hjr:j < r:=by have:=(p0.1 hj).1; omega
    rw [m6,ZK hjr] at hj
    exact f j p hj hjr
  . obtain⟨j,hj⟩:=O1.1 hp
    rw [m7] at hj
    exact S9 (g _ p hj Y)
  . rw [e.1,hlen]
  . rw [e.2]
    constructor
    . rintro ⟨p,hp,hk⟩
      exact⟨p,r6 (r+1) m,drop_at hp,hk⟩
    . rintro ⟨p,q,hp,hk⟩
      refine⟨p, ?_,hk⟩
      have:(r6 r m)[0]? =Zw p:=by rw [hp]; rfl
      rwa [m7,Nat.add_zero] at this
theorem Cc {a b:List bA} {p:bA} (h:tL (a++p::b)):tL a/\tL b/\(∀ r ∈ a,r.a < p.a)/\(∀ r ∈ b,p.a < r.a):=by
  have c:=T0.1 h
  have d:=N7.1 c.2.1
  exact⟨c.1,d.2,λ r hr=>c.2.2 r hr p b3,d.1⟩
theorem tN {m:List bA} (hs:tL m) (t:Nat):
    (∃ a p q,m=a++p::q/\p.a=t/\(∀ r ∈ a,r.a < t)/\(∀ r ∈ q,t < r.a)/\bJ m t=((X a:Int),Zk))\/
    (∃ a q,m=a++q/\(∀ r ∈ a,r.a < t)/\(∀ r ∈ q,t < r.a)/\bJ m t=((X a:Int),J)):=by
  obtain⟨a,b,hc,f,g⟩:=E5 hs t
  have e:∀ x:Int × Bool,x=(x.1,x.2):=λ _=>rfl
  cases hb:(bJ m t).2 with
  | true=>
    obtain⟨p,q,rfl,hp⟩:=g.1 hb
    refine .inl ⟨a,p,q,hc.app,hp,hc.lo,λ r hr=> ?_, ?_⟩
    . have:=(Cc (hc.app ▸ hs)).2.2.2 r hr; omega
    . rw [e (bJ _ _),f,hb]
  | false=>
    refine .inr ⟨a,b,hc.app,hc.lo,λ r hr=> ?_, ?_⟩
    . have i:=hc.hi r hr
      rcases O0 t r.a with h | h
      . exact h
      . exfalso
        have c:r.a=t:=Y
        cases b with
        | nil=>cases hr
        | cons p q=>
          have hup:=Cc (hc.app ▸ hs)
          rcases List.mem_cons.1 hr with d | d
          . exact absurd (g.2 ⟨p,q,Z,by rw [<- d]; exact c⟩) (by rw [hb]; decide)
          . have:=hup.2.2.2 r d; have:=hc.hi p b3; omega
    . rw [e (bJ _ _),f,hb]
def vY (l:List df):Prop:=l.Pairwise λ a b=>a.f < b.f
theorem E8 {l:List df} (hs:vY l) {i j:Nat} {a b:df} (ha:l[i]? =Zw a) (hb:l[j]? =Zw b) (h:i < j):a.f < b.f:=by
  obtain⟨c,rfl⟩:=p0.1 ha
  obtain⟨d,rfl⟩:=p0.1 hb
  exact S6.1 hs i j c d h
theorem za {m:List df} (hs:vY m) (k:Nat):∀ (f i j:Nat),j - i < f->i<=j->j<=X m->(∀ q p,m[q]? =Zw p->q < i->p.f < k)->(∀ q p,m[q]? =Zw p->j<=q->¬ p.f < k)->
    ∃ r,dI m k f i j=r/\r<=X m/\(∀ q p,m[q]? =Zw p->q < r->p.f < k)/\(∀ q p,m[q]? =Zw p->r<=q->¬ p.f < k)
  | 0,i,j,h,_,_,_,_=>Y
  | f+1,i,j,h,hij,hj,hl,hg=>by
    unfold dI
    by_cases b:(i:Int) < (j:Int)
    . obtain⟨x,hx⟩:∃ x,m[(i+j) / 2]? =Zw x:=⟨_,p2 Y⟩
      rw [ZK b,bG,bG,bu hx]
      show ∃ r,(if eQ x.f k < 0 then dI m k f ((i+j) / 2+1) j else dI m k f i ((i+j) / 2))=r/\_
      by_cases a:eQ x.f k < 0
      . rw [ZK a]
        refine za hs k f _ j Y Y hj (λ q p hq hlt=> ?_) hg
        rcases O0 q ((i+j) / 2) with e | e
        . exact S7 (E8 hs hq hx e) (nQ.1 a)
        . have:q=(i+j) / 2:=Y
          subst this
          rw [hx] at hq; cases hq
          exact nQ.1 a
      . rw [ZV a]
        refine za hs k f i _ Y Y Y hl (λ q p hq hge hlt=> ?_)
        rcases O0 ((i+j) / 2) q with e | e
        . exact a (nQ.2 (S7 (E8 hs hx hq e) hlt))
        . have:q=(i+j) / 2:=Y
          subst this
          rw [hx] at hq; cases hq
          exact a (nQ.2 hlt)
    . rw [ZV b]
      have:i=j:=Y
      subst this
      exact⟨i,Z,hj,hl,hg⟩
structure Jy (m:List df) (k:Nat) (a b:List df):Prop where q::
  app:m=a++b
  lo:∀ p ∈ a,p.f < k
  hi:∀ p ∈ b,k<=p.f
theorem E9 {m:List df} (hs:vY m) (k:Nat):∃ a b,Jy m k a b/\(bH m k).1=((X a:Nat):Int)/\((bH m k).2=Zk↔∃ p q,b=p::q/\p.f=k):=by
  obtain⟨r,d,i,f,g⟩:=za hs k (X m - 0+1) 0 (X m) Y Y (Nat.le_refl _) (λ q p _ h=>Y) (λ q p hq h=>by have:=(p0.1 hq).1; omega)
  have hlen:X (t8 r m)=r:=by rw [o0]; omega
  have e:bH m k=((r:Int),(bH m k).2)/\((bH m k).2=Zk↔∃ p,m[r]? =Zw p/\p.f=k):=by
    unfold bH
    simp only [bG,d]
    by_cases c:(r:Int) < ((X m:Nat):Int)
    . obtain⟨x,hx⟩:∃ x,m[r]? =Zw x:=⟨_,p2 Y⟩
      rw [ZK c,bu hx]
      refine⟨Z, ?_⟩
      show Zy (eQ x.f k=0)=Zk↔_
      simp only [decide_eq_true_eq,xV,hx,Option.some.injEq,exists_eq_left']
    . rw [ZV c]
      refine⟨Z, ?_⟩
      have:m[r]? =Zv:=S8 Y
      simp [this]
  refine⟨t8 r m,r6 r m,⟨(s1 r m).symm,λ p hp=> ?_,λ p hp=> ?_⟩, ?_, ?_⟩
  . obtain⟨j,hj⟩:=O1.1 hp
    have hjr:j < r:=by have:=(p0.1 hj).1; omega
    rw [m6,ZK hjr] at hj
    exact f j p hj hjr
  . obtain⟨j,hj⟩:=O1.1 hp
    rw [m7] at hj
    exact S9 (g _ p hj Y)
  . rw [e.1,hlen]
  . rw [e.2]
    constructor
    . rintro ⟨p,hp,hk⟩
      exact⟨p,r6 (r+1) m,drop_at hp,hk⟩
    . rintro ⟨p,q,hp,hk⟩
      refine⟨p, ?_,hk⟩
      have:(r6 r m)[0]? =Zw p:=by rw [hp]; rfl
      rwa [m7,Nat.add_zero] at this
theorem Ce {a b:List df} {p:df} (h:vY (a++p::b)):vY a/\vY b/\(∀ r ∈ a,r.f < p.f)/\(∀ r ∈ b,p.f < r.f):=by
  have c:=T0.1 h
  have d:=N7.1 c.2.1
  exact⟨c.1,d.2,λ r hr=>c.2.2 r hr p b3,d.1⟩
theorem qm {m:List df} (hs:vY m) (t:Nat):
    (∃ a p q,m=a++p::q/\p.f=t/\(∀ r ∈ a,r.f < t)/\(∀ r ∈ q,t < r.f)/\bH m t=((X a:Int),Zk))\/
    (∃ a q,m=a++q/\(∀ r ∈ a,r.f < t)/\(∀ r ∈ q,t < r.f)/\bH m t=((X a:Int),J)):=by
  obtain⟨a,b,hc,f,g⟩:=E9 hs t
  have e:∀ x:Int × Bool,x=(x.1,x.2):=λ _=>rfl
  cases hb:(bH m t).2 with
  | true=>
    obtain⟨p,q,rfl,hp⟩:=g.1 hb
    refine .inl ⟨a,p,q,hc.app,hp,hc.lo,λ r hr=> ?_, ?_⟩
    . have:=(Ce (hc.app ▸ hs)).2.2.2 r hr; omega
    . rw [e (bH _ _),f,hb]
  | false=>
    refine .inr ⟨a,b,hc.app,hc.lo,λ r hr=> ?_, ?_⟩
    . have i:=hc.hi r hr
      rcases O0 t r.f with h | h
      . exact h
      . exfalso
        have c:r.f=t:=Y
        cases b with
        | nil=>cases hr
        | cons p q=>
          have hup:=Ce (hc.app ▸ hs)
          rcases List.mem_cons.1 hr with d | d
          . exact absurd (g.2 ⟨p,q,Z,by rw [<- d]; exact c⟩) (by rw [hb]; decide)
          . have:=hup.2.2.2 r d; have:=hc.hi p b3; omega
    . rw [e (bH _ _),f,hb]
open List renaming filter_cons_of_neg->T4,filter_cons_of_pos->T3,length_map->q7,mem_append->T1,mem_filter->T2,mem_map->T6,mem_or_eq_of_mem_set->U0,pairwise_map->T5
theorem Fa:∀ (l m:List Nat),l.Nodup->(∀ x ∈ l,x ∈ m)->X l<=X m
  | [],m,_,_=>Nb _
  | a::l,m,hn,h=>by
    have hn:=List.nodup_cons.1 hn
    have ha:=h a b3
    have b:=Fa l (m.erase a) hn.2 λ x hx=>(List.mem_erase_of_ne (λ e=>hn.1 (by rw [<- e]; exact hx))).2 (h x (.tail _ hx))
    have c:=List.length_erase_of_mem ha
    have d:=List.length_pos_of_mem ha
    simp only [q5]
    omega
theorem Fb {l:List aN} (hs:Up l) {t:Nat} {x:aF} {r:aN} (hr:r ∈ iK l t x):r.a=t\/∃ s ∈ l,s.a=r.a:=by
  unfold iK at hr
  rcases T1.1 hr with h | h
  . exact .inr ⟨r,(T2.1 h).1,Z⟩
  . rcases List.mem_cons.1 h with h | h
    . rw [h]; exact .inl Z
    . exact .inr ⟨r,(T2.1 h).1,Z⟩
theorem AY {S:Nat->Prop} {m:List aN} (hf:Fit m) (h:∀ r ∈ m,S r.a) (g d:List Nat):∀ r ∈ (dD (Wt m+1) m g d).1,S r.a:=
  (uo (I:=λ l _ _=> ∀ r ∈ l,S r.a) (λ l g' d' r hf hI hr hw _=>λ q hq=>by
    rcases Fb hf.up (T2.1 hq).1 with e | ⟨s,hs,e⟩
    . rw [e]; exact hI r hr
    . rw [<- e]; exact hI s hs) (Wt m+1) m g d Y hf h).1
theorem zb {t:Nat} {x:aF}:∀ l:List aN,Wt (l.filter λ r=> !dies t x r)+X (l.filter (dies t x))=Wt l
  | []=>rfl
  | a::l=>by
    have ih:=zb (t:=t) (x:=x) l
    cases h:dies t x a with
    | true=>
      rw [T3 h,T4 (p:=λ r=> !dies t x r) (by show ¬ (!dies t x a)=Zk; rw [h]; decide)]
      have hw:a.f=Zk:=by unfold dies at h; exact(Bool.and_eq_true _ _ ▸ h).1
      have b:pM a=1:=by unfold pM; rw [ZK hw]
      unfold Wt at ih ⊢
      simp only [q5,s8,Q0]; omega
    | false=>
      rw [T4 (p:=dies t x) (by rw [h]; decide),T3 (p:=λ r=> !dies t x r) (by show (!dies t x a)=Zk; rw [h]; rfl)]
      unfold Wt at ih ⊢
      simp only [s8,Q0]; omega
theorem zP {m:List aN} (hf:Fit m) (g d:List Nat):X (dD (Wt m+1) m g d).2.1+X (dD (Wt m+1) m g d).2.2+Wt (dD (Wt m+1) m g d).1<=X g+X d+Wt m:=
  (uo (I:=λ l g' d'=>X g'+X d'+Wt l<=X g+X d+Wt m) (λ l g' d' r hf hI hr hw _=>by
    obtain⟨_,_,a⟩:=wK hf.up hr hw r.e
    have b:=zb (t:=r.a) (x:=r.e) (iK l r.a r.e)
    rw [o2,o2,q7]; simp only [q5,L3]; omega) (Wt m+1) m g d Y hf (Nat.le_refl _)).1
theorem Hl {m:List aN} (hs:Up m) (t:Nat) (x:aF):Wt (pO m t x)<=Wt m+1:=by
  rcases mQ hs t with ⟨a,p,q,rfl,hp,ha,hq,_⟩ | ⟨a,q,rfl,ha,hq,_⟩
  . rw [Ca x hp ha hq]; unfold Wt pM; simp only [P7,s8,Q3,Q0]; simp; omega
  . rw [Cb x ha hq]; unfold Wt pM; simp only [P7,s8,Q3,Q0]; simp; omega
theorem Hm {m:List aN} {t:Nat} {x:aF} {r:aN} (hr:r ∈ pO m t x):r.a=t\/∃ s ∈ m,s.a=r.a:=by
  unfold pO at hr
  rcases T1.1 hr with h | h
  . exact .inr ⟨r,(T2.1 h).1,Z⟩
  . rcases List.mem_cons.1 h with h | h
    . rw [h]; exact .inl Z
    . exact .inr ⟨r,(T2.1 h).1,Z⟩
theorem Gf {m:List aN} (h:jE m) (t:Nat) (x:aF):(∀ r ∈ (oP m t x).2.2.2.2,r.a=t\/∃ s ∈ m,s.a=r.a)/\X (oP m t x).2.1+X (oP m t x).2.2.1+Wt (oP m t x).2.2.2.2<=Wt m+(if(oP m t x).1=2 then 1 else 0):=by
  have triv:∀ r ∈ m,r.a=t\/∃ s ∈ m,s.a=r.a:=λ r hr=> .inr ⟨r,hr,Z⟩
  unfold oP
  by_cases a:dR x.j=0
  . rw [ZK a]
    by_cases b:gu (aZ.q (O m)) t=Zk
    . rw [ZK b]; exact⟨triv,by simp⟩
    . rw [ZV b]
      by_cases c:ku (aZ.q (O m)) t x=Zk
      . rw [ZK c]; exact⟨triv,by simp⟩
      . rw [ZV c]
        by_cases d:192<=kR m
        . rw [ZK d]; exact⟨triv,by simp⟩
        . rw [ZV d]
          by_cases e:eu (aZ.q (O m)) t x= []
          . rw [ZK e]
            obtain⟨l,o⟩:=vW m h.up t x
            have p:=wJ m h.up t x
            have q:=h.len
            have u:=h.tot
            have v:=zb (t:=t) (x:=x) (iK m t x)
            have g:kR (gR m t x)<=kR (iK m t x):=mq _ _
            have w:X (gR m t x)<=X (iK m t x):=List.length_filter_le _ _
            have hf:Fit (gR m t x):=⟨(si h.up t x).filter _,Y,Y⟩
            refine⟨AY (S:=λ n=>n=t\/∃ s ∈ m,s.a=n) hf (λ r hr=> ?_) _ _, ?_⟩
            . exact Fb h.up (T2.1 hr).1
            . have i:=zP hf [] (gD m t x)
              have j:X (gD m t x)=X ((iK m t x).filter (dies t x)):=q7 ..
              have k:Wt (gR m t x)=Wt ((iK m t x).filter λ r=> !dies t x r):=Z
              simp only [Av]
              simp only [L3] at i
              omega
          . rw [ZV e]
            by_cases f:List.getD (eu (aZ.q (O m)) t x) 0 ZZ < t
            . rw [ZK f]; exact⟨triv,by simp⟩
            . rw [ZV f]
              refine⟨λ r hr=>Hm hr, ?_⟩
              have:=Hl h.up t x
              simpa using this
  . rw [ZV a]; exact⟨triv,by simp⟩
theorem AC {m:List aN} (h:jE m) {t:Nat} {x:aF} {s e:Int} {g d:List Nat} {r:aZ} (hr:iP (aZ.q (O m)) t x=(s,g,d,e,r)):
    (∀ q ∈ r.a.a,q.a=t\/∃ s ∈ m,s.a=q.a)/\X g+X d+Wt r.a.a<=Wt m+(if s=2 then 1 else 0):=by
  have a:=Gf h t x
  rw [wO h] at hr
  have b:s=_:=(ZJ (λ q=>q.1) hr).symm
  have c:g=_:=(ZJ (λ q=>q.2.1) hr).symm
  have f:d=_:=(ZJ (λ q=>q.2.2.1) hr).symm
  have i:r=_:=(ZJ (λ q=>q.2.2.2.2) hr).symm
  rw [b,c,f,i]
  exact a
theorem CL {m:List aN} (h:jE m) {t:Nat} {g d:List Nat} {r:aZ} (hr:iT (aZ.q (O m)) t=(g,d,r)):
    (∀ q ∈ r.a.a,q.a≠t/\∃ s ∈ m,s.a=q.a)/\X g+X d+Wt r.a.a<=Wt m:=by
  unfold iT at hr
  rw [bG,bG,rD h.up,tq] at hr
  have a:g=_:=(ZJ (λ q=>q.1) hr).symm
  have b:d=_:=(ZJ (λ q=>q.2.1) hr).symm
  have c:r=_:=(ZJ (λ q=>q.2.2) hr).symm
  have hf:Fit (but t m):=h.fit.filter _
  rw [a,b,c]
  refine⟨AY (S:=λ n=>n≠t/\∃ s ∈ m,s.a=n) hf (λ r hr=> ?_) _ _, ?_⟩
  . have:=T2.1 hr
    exact⟨of_decide_eq_true this.2,r,this.1,Z⟩
  . have e:=zP hf [] []
    have f:Wt (but t m)<=Wt m:=mq _ _
    show X (sj (dD (Wt (but t m)+1) (but t m) [] []).2.1)+X (sj (dD (Wt (but t m)+1) (but t m) [] []).2.2)+Wt (dD (Wt (but t m)+1) (but t m) [] []).1<=_
    rw [Av,Av]
    simp only [L3] at e
    omega
structure Tk (ws:List bA) (hs:List df) (rs:List aN):Prop where q::
  a:tL ws
  hu:vY hs
  e:∀ w ∈ ws, ∀ h ∈ hs,w.a≠h.f
  n:X ws+X hs<=6
  g:∀ w ∈ ws,(0<=w.b/\w.b<=((X w.e.a:Nat):Int))/\X w.f.a<=24/\X w.e.a<=24
  b:∀ h ∈ hs,X h.a.a<=24
  snd:jE rs
  f:∀ r ∈ rs,(∃ w ∈ ws,w.a=r.a)\/(∃ h ∈ hs,h.f=r.a)
theorem Tk.wat {ws:List bA} {hs:List df} {rs:List aN} {i:Nat} {x:bA} (h:Tk ws hs rs) (hx:ws[i]? =Zw x):(0<=x.b/\x.b<=((X x.e.a:Nat):Int))/\X x.f.a<=24/\X x.e.a<=24:=h.g x (E1 hx)
theorem Tk.hld {ws:List bA} {hs:List df} {rs:List aN} {i:Nat} {x:df} (h:Tk ws hs rs) (hx:hs[i]? =Zw x):X x.a.a<=24:=h.b x (E1 hx)
theorem Tk.hops {ws:List bA} {hs:List df} {rs:List aN} (h:Tk ws hs rs):∀ x ∈ hs,X x.a.a<=1000000:=λ x hx=>Nat.le_trans (h.b x hx) f6
theorem Tk.rows {ws:List bA} {hs:List df} {rs:List aN} (h:Tk ws hs rs):X rs<=6:=by
  have a:=Fa (rs.map λ r=>r.a) (ws.map (λ w=>w.a)++hs.map λ x=>x.f) (T5.2 (h.snd.up.imp λ e=>Nat.ne_of_lt e)) λ x hx=>by
    obtain⟨r,hr,rfl⟩:=T6.1 hx
    rcases h.f r hr with ⟨w,hw,e⟩ | ⟨y,hy,e⟩
    . exact List.mem_append_left _ (T6.2 ⟨w,hw,e⟩)
    . exact List.mem_append_right _ (T6.2 ⟨y,hy,e⟩)
  have:=h.n
  simp only [q7,o2] at a
  omega
def vZ (ws:List bA) (i k:Nat):Prop:=∃ x,ws[i]? =Zw x/\x.a=k
def gm (ws:List bA) (i:Nat):Nat:=match ws[i]? with
  | some x=>U ((X x.e.a:Int) - x.b)
  | none=>0
theorem zQ {ws:List bA} {i:Nat} {x:bA} (hx:ws[i]? =Zw x):gm ws i=U ((X x.e.a:Int) - x.b):=by unfold gm; rw [hx]
theorem GI {ws:List bA} {hs:List df} {rs:List aN} (h:Tk ws hs rs) (i:Nat):gm ws i<=24:=by
  unfold gm
  cases hx:ws[i]? with
  | none=>exact Nb _
  | some x=>have:=h.wat hx; show U _<=24; omega
theorem at_set {α:Type} {l:List α} {i:Nat} {x y:α} (hx:l[i]? =Zw x):(N0 l i y)[i]? =Zw y:=by
  have:=(p0.1 hx).1
  rw [List.getElem?_set_self this]
theorem zR {ws:List bA} {i:Nat} {x y:bA} (hx:ws[i]? =Zw x) (hg:x.b < (X x.e.a:Int)) (hl:y.e=x.e) (hy:y.b=x.b+1):gm (N0 ws i y) i+1=gm ws i:=by
  rw [zQ (at_set hx),zQ hx,hl,hy]
  omega
theorem vZ.set {ws:List bA} {i k:Nat} {x y:bA} (h:vZ ws i k) (hx:ws[i]? =Zw x) (ht:y.a=x.a):vZ (N0 ws i y) i k:=by
  obtain⟨z,hz,e⟩:=h
  rw [hx] at hz; cases hz
  exact⟨y,at_set hx,by rw [ht]; exact e⟩
theorem yx {ws:List bA} {i:Nat} {x y:bA} (hx:ws[i]? =Zw x) (ht:y.a=x.a):r7 (λ w:bA=>w.a) (N0 ws i y)=r7 (λ w:bA=>w.a) ws:=by
  rw [List.map_set,ht]
  obtain⟨a,rfl⟩:=p0.1 hx
  refine List.ext_getElem? λ j=> ?_
  rw [List.getElem?_set]
  by_cases e:i=j
  . subst e; rw [ZK Z,ZK (by rw [q7]; exact a),List.getElem?_map,hx]; rfl
  . rw [ZV e]
theorem Dw {l:List bA}:tL l↔(r7 (λ w:bA=>w.a) l).Pairwise (· < ·):=T5.symm
theorem zS {l:List bA} {n:Nat}:(∃ w ∈ l,w.a=n)↔n ∈ r7 (λ w:bA=>w.a) l:=T6.symm
theorem Tk.bump {ws:List bA} {hs:List df} {rs:List aN} {i:Nat} {x y:bA} (h:Tk ws hs rs) (hx:ws[i]? =Zw x) (ht:y.a=x.a) (ho:y.f=x.f) (hl:y.e=x.e) (hg:0<=y.b/\y.b<=((X y.e.a:Nat):Int)):Tk (N0 ws i y) hs rs where
  a:=by rw [Dw,yx hx ht, <- Dw]; exact h.a
  hu:=h.hu
  e:=λ w hw z hz=>by
    have a:w.a ∈ r7 (λ w:bA=>w.a) ws:=by rw [<- yx hx ht]; exact T6.2 ⟨w,hw,Z⟩
    obtain⟨v,hv,e⟩:=T6.1 a
    rw [<- e]; exact h.e v hv z hz
  n:=by rw [List.length_set]; exact h.n
  g:=λ w hw=>by
    rcases U0 hw with a | a
    . exact h.g w a
    . rw [a]; refine⟨hg, ?_⟩; rw [ho,hl]; exact(h.wat hx).2
  b:=h.b
  snd:=h.snd
  f:=λ r hr=>by
    rw [zS,yx hx ht, <- zS]; exact h.f r hr
theorem Tk.ask {ws:List bA} {hs:List df} {rs:List aN} {i k:Nat} (h:Tk ws hs rs) (hw:vZ ws i k) {x:aF} {s e:Int} {g d:List Nat} {r:aZ} (hr:iP (aZ.q (O rs)) k x=(s,g,d,e,r)):Tk ws hs r.a.a where
  a:=h.a
  hu:=h.hu
  e:=h.e
  n:=h.n
  g:=h.g
  b:=h.b
  snd:=EY h.snd hr
  f:=λ q hq=>by
    rcases (AC h.snd hr).1 q hq with e | ⟨z,hz,e⟩
    . obtain⟨y,hy,a⟩:=hw
      exact .inl ⟨y,E1 hy,by rw [a,e]⟩
    . rw [<- e]; exact h.f z hz
theorem nU {m:aA} (hs:tL m.b.a) {k:Nat} {i:Int} (hf:bX m k=(i,Zk)):vZ m.b.a (U i) k:=by
  have e:bX m k=bJ m.b.a k:=Z
  rw [e] at hf
  rcases tN hs k with ⟨a,p,q,b,hp,ha,hq,h⟩ | ⟨a,q,b,ha,hq,h⟩
  . rw [h] at hf
    have c:i=(X a:Int):=(ZJ Prod.fst hf).symm
    refine⟨p, ?_,hp⟩
    rw [b,c,Int.toNat_natCast]; simp
  . rw [h] at hf
    exact Bool.noConfusion (show J=Zk from ZJ Prod.snd hf)
theorem tO {m:aA} (hs:tL m.b.a) {k:Nat} {i:Nat} (hw:vZ m.b.a i k):bX m k=((i:Int),Zk):=by
  obtain⟨x,hx,f⟩:=hw
  have e:bX m k=bJ m.b.a k:=Z
  rw [e]
  rcases tN hs k with ⟨a,p,q,c,hp,ha,hq,h⟩ | ⟨a,q,c,ha,hq,h⟩
  . rw [h]
    have d:m.b.a[X a]? =Zw p:=by rw [c]; simp
    rcases Nat.lt_trichotomy i (X a) with b | b | b
    . have:=zO hs hx d b; omega
    . rw [b]
    . have:=zO hs d hx b; omega
  . exfalso
    rw [c] at hx
    have hm:=E1 hx
    rcases T1.1 hm with b | b
    . have:=ha x b; omega
    . have:=hq x b; omega
def Gt (ws:List bA):Prop:=∀ w ∈ ws,w.b < ((X w.e.a:Nat):Int)
def Gx (k:Nat) (ws:List bA):Prop:=∀ w ∈ ws,w.a≠k->w.b < ((X w.e.a:Nat):Int)
theorem Gt.wat {ws:List bA} {i:Nat} {x:bA} (h:Gt ws) (hx:ws[i]? =Zw x):x.b < ((X x.e.a:Nat):Int):=h x (E1 hx)
theorem Gt.gx {ws:List bA} (h:Gt ws) (k:Nat):Gx k ws:=λ w hw _=>h w hw
theorem Gx.set {ws:List bA} {i k:Nat} {y:bA} (h:Gx k ws) (hy:y.a=k):Gx k (N0 ws i y):=λ w hw hn=>by
  rcases U0 hw with e | e
  . exact h w e hn
  . rw [e] at hn; exact absurd hy hn
end Go.Proofs.YtndamapfnpihpaaGreat
