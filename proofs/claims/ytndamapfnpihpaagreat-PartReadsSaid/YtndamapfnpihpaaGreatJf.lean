/- The layers told, part 6. Conditions: none beyond each law's own. -/
import Derived.Test.YtndamapfnpihpaaGreatJe
namespace Go.Proofs.YtndamapfnpihpaaGreat
set_option maxRecDepth 100000
set_option linter.unusedVariables false
set_option linter.unusedSimpArgs false
set_option linter.unusedSectionVars false
open _root_.Go renaming World->ZQ,Value->ZX
open Value renaming bool->V,slice->W,string->Zz,pointer->Zq,agg->Zx,nilFunc->Zj
open Bool renaming true->Zk,false->J
open Option renaming none->Zv,some->Zw
open Decidable renaming decide->Zy
open Inhabited renaming default->ZZ
open List renaming length->X,toArray->Zc
section
open Go.ChangeShapes
theorem zY {k:Key}:∀ {a:List ay} (b:List ay),(∀ p ∈ a,p.f≠k)->jZ k (a++b)=jZ k b
  | [],b,_=>rfl
  | x::q,b,h=>by
    show (if _ then _ else _)=_
    rw [ZV (h x b3)]
    exact zY b λ p hp=>h p (.tail _ hp)
theorem DF {m a e d:List ay} {k:Key} (h:C3 m k a e d):(e= []/\nH m k=([],J))\/(∃ v,e= [ay.q k v]/\nH m k=(v,Zk)):=by
  have ha:∀ p ∈ a,p.f≠k:=λ p hp hq=>jH k (by have:=h.lo p hp; rwa [hq] at this)
  have hd:∀ p ∈ d,p.f≠k:=λ p hp hq=>jH k (by have:=h.hi p hp; rwa [hq] at this)
  rcases h.mid with he | ⟨v,he⟩
  . refine .inl ⟨he, ?_⟩
    unfold nH
    rw [h.app,he,List.nil_append,zY d ha, <- List.append_nil d,zY [] hd]; rfl
  . refine .inr ⟨v,he, ?_⟩
    unfold nH
    rw [h.app,he,zY _ ha]
    show lp (if _ then _ else _) _=_
    rw [ZK Z]; rfl
theorem IZ (l:List bZ):∀ (q:List bZ) (k:Nat),List.drop k l=q->iw l q k= .inl ()
  | [],_,_=>rfl
  | x::q,k,h=>by
    have hx:l[k]? =Zw x:=by
      have e:(List.drop k l)[0]? =Zw x:=by rw [h]; rfl
      rwa [List.getElem?_drop,Nat.add_zero] at e
    rw [iw,bG,bu hx,ZK Z,ZV (λ q=>q Z),bG,HY,ZK Z]
    exact IZ l q (k+1) (by rw [<- List.drop_drop,h]; rfl)
theorem HZ (l:List bZ):nT l l=Zk:=by
  unfold nT
  rw [ZK Z,IZ l l 0 Z]; rfl
theorem Gh (r:au):∀ (q l:List ay),iO r q l=l++q.filter (λ p=> !j4 r p.f)
  | [],l=>by rw [iO]; simp
  | x::q,l=>by
    rw [iO,bG]
    by_cases h:j4 r x.f=Zk
    . rw [ZK h,Gh r q l,List.filter_cons_of_neg (by rw [h]; decide)]
    . rw [ZV h,Gh r q (l++ [x]),List.filter_cons_of_pos (by rw [Bool.not_eq_true] at h; rw [h]; rfl),List.append_assoc]; rfl
theorem GL (m:List ay) (r:au):nY m r=m.filter (λ p=> !j4 r p.f):=by
  unfold nY
  rw [bG,Gh]; rfl
theorem El (r:au) {n:Nat}:∀ (q l:List ay),gp r ((n:Nat):Int) q l=l++List.take (n - X l) (q.filter (λ p=>j4 r p.f))
  | [],l=>by rw [gp]; simp
  | x::q,l=>by
    rw [gp,bG]
    by_cases h:j4 r x.f=Zk
    . rw [ZK h,ZV Y,List.filter_cons_of_pos (p:=λ p:ay=>j4 r p.f) h]
      by_cases a:((X l:Nat):Int) < (n:Int)
      . rw [ZK a,El r q (l++ [x])]
        obtain⟨j,hj⟩:∃ j,n - X l=j+1:=⟨n - X l - 1,Y⟩
        rw [hj,List.take_succ_cons,List.append_assoc,List.length_append,List.length_singleton,show n - (X l+1)=j by omega]; rfl
      . rw [ZV a,El r q l,show n - X l=0 by omega]; rfl
    . rw [ZV h,El r q l,List.filter_cons_of_neg (p:=λ p:ay=>j4 r p.f) h]
theorem GM (m:List ay) (r:au) (n:Nat):nu m r ((n:Nat):Int)=List.take n (m.filter (λ p=>j4 r p.f)):=by
  unfold nu
  rw [bG,El]; rfl
theorem Em (p:ay):∀ (q l:List ay),(∀ x ∈ q,p.f < x.f)->fM p q l Zk=(l++q,Zk)
  | [],l,_=>by rw [fM]; simp
  | x::q,l,h=>by
    have hx:x.f≠p.f:=λ e=>jH p.f (by have:=h x b3; rwa [e] at this)
    rw [fM,ZK Z,ZK hx,Em p q _ λ y hy=>h y (.tail _ hy),List.append_assoc]; rfl
theorem GN (p:ay) (b:List ay):∀ (a l:List ay),(∀ x ∈ a,x.f < p.f)->fM p (a++b) l J=fM p b (l++a) J
  | [],l,_=>by simp
  | x::a,l,h=>by
    have hx:=h x b3
    have hn:x.f≠p.f:=λ e=>jH p.f (by rwa [e] at hx)
    rw [List.cons_append,fM,ZV f6,ZV (λ q=>um.2 q hx),ZK hn,GN p b a _ λ y hy=>h y (.tail _ hy),List.append_assoc]; rfl
theorem Jb {m a e d:List ay} {p:ay} (h:C3 m p.f a e d):vR m p=a++p::d:=by
  unfold vR
  rw [bG,h.app,GN p _ a [] h.lo,List.nil_append]
  have fin:∀ x:List ay × Bool,x=(a++p::d,Zk)\/(x=(a,J)/\d= [])->(if x.2=Zk then x.1 else x.1++ [p])=a++p::d:=by
    rintro x (rfl | ⟨rfl,rfl⟩)
    . exact ZK Z
    . simp
  refine fin _ ?_
  rcases h.mid with rfl | ⟨v,rfl⟩
  . cases d with
    | nil=>exact .inr ⟨Z,Z⟩
    | cons y d=>
      have hy:=h.hi y b3
      have hn:y.f≠p.f:=λ e=>jH p.f (by rwa [e] at hy)
      refine .inl ?_
      show (if J=Zk then _ else if p.f<=y.f then if y.f≠p.f then fM p d ((a++ [p])++ [y]) Zk else _ else _)=_
      simp only [Bool.false_eq_true,if_false,ZK (Dj hy),ZK hn]
      rw [Em p d _ λ z hz=>h.hi z (.tail _ hz)]
      simp
  . refine .inl ?_
    show (if J=Zk then _ else if p.f<=p.f then if p.f≠p.f then _ else fM p d (a++ [p]) Zk else _)=_
    simp only [Bool.false_eq_true,if_false,ZK (List.le_refl p.f),ne_eq,not_true,if_false]
    rw [Em p d _ h.hi]
    simp
theorem Cm {lo hi k:Key} (hr:M.R lo hi) (hk:vS k):j4 (au.q lo hi) k=uY lo hi k:=by
  have h:=IB (r:=au.q lo hi) (k:=k)
  unfold uY
  have e:M.H lo hi k↔(¬ k < lo/\(hi= []\/k < hi)):=⟨λ q=>⟨λ z=>um.2 q.2.2.1 z,q.2.2.2⟩,λ q=>⟨hr,hk,um.1 q.1,q.2⟩⟩
  rw [show (M.H (au.q lo hi).a (au.q lo hi).b k↔_) from e] at h
  cases c:j4 (au.q lo hi) k
  . exact(decide_eq_false λ q=>by rw [h.2 q] at c; cases c).symm
  . exact(decide_eq_true (h.1 c)).symm
theorem Jc {m:List ay} {o:aY} (hm:cB m=0) (ho:dA o=0):xQ m o=l7 m o:=by
  obtain⟨hp,hs⟩:=l6.1 hm
  have hk:=sU ho
  unfold xQ l7
  simp only [bG]
  by_cases g:o.e=1
  . rw [ZK g,ZK g]
    obtain⟨a,e,d,b,_⟩:=oq hs o.f
    rcases DF b with ⟨he,hf⟩ | ⟨v,he,hf⟩
    . rcases wo hs b with ⟨_,hg⟩ | ⟨v,he',_⟩
      . rw [hf,hg]
      . rw [he] at he'; cases he'
    . rcases wo hs b with ⟨he',_⟩ | ⟨v',he',hg⟩
      . rw [he] at he'; cases he'
      . rw [he] at he'; cases he'; rw [hf,hg]
  rw [ZV g,ZV g]
  by_cases i:o.e=2
  . rw [ZK i,ZK i]
    obtain⟨a,e,d,b,_⟩:=oq hs o.f
    rw [ww hs b,Jb (p:=ay.q o.f o.g) b]
  rw [ZV i,ZV i]
  by_cases b:o.e=3
  . rw [ZK b,ZK b]
    obtain⟨a,e,d,hc,_⟩:=oq hs o.f
    have hkk:=zI ho (.inr (.inr b))
    rw [wy hs hc,Gw hkk,GL]
    have key:∀ p ∈ m,(!j4 (au.q o.f (ph o.f)) p.f)= !Zy (p.f=o.f):=λ p hp=>by
      have h:=(IB (r:=au.q o.f (ph o.f)) (k:=p.f)).trans (G8 hkk)
      cases c:j4 (au.q o.f (ph o.f)) p.f
      . rw [decide_eq_false λ q=>by rw [h.2 q] at c; cases c]
      . rw [decide_eq_true (h.1 c)]
    rw [List.filter_congr key,hc.app]
    simp only [List.filter_append]
    have j:a.filter (λ p=> !Zy (p.f=o.f))=a:=rH λ p hp=>by
      rw [decide_eq_false λ q:p.f=o.f=>jH o.f (by have:=hc.lo p hp; rwa [q] at this)]; rfl
    have l:d.filter (λ p=> !Zy (p.f=o.f))=d:=rH λ p hp=>by
      rw [decide_eq_false λ q:p.f=o.f=>jH o.f (by have:=hc.hi p hp; rwa [q] at this)]; rfl
    have s:e.filter (λ p=> !Zy (p.f=o.f))= []:=og λ p hp=>by
      rcases hc.mid with rfl | ⟨v,rfl⟩
      . cases hp
      . rw [List.mem_singleton.1 hp]; simp
    rw [j,l,s,List.nil_append]
  rw [ZV b,ZV b]
  by_cases f:o.e=4
  . rw [ZK f,ZK f]
    have hr:=mO ho (.inl f)
    have hmo:=sS ho f
    rw [wz hs hr hmo.1]
    obtain⟨n,hn⟩:∃ n:Nat,o.j=n:=⟨o.j.toNat,Y⟩
    rw [hn,GM,Int.toNat_natCast,List.filter_congr λ p hq=>Cm hr (hp p hq).1]
  . rw [ZV f,ZV f]
    have hr:=mO ho (.inr Y)
    rw [uw hs hr,GL,List.filter_congr λ p hq=>ZJ (! ·) (Cm hr (hp p hq).1)]
theorem Co:∀ (l:List aY) (m:List ay) (rs:List bZ),cB m=0->(∀ o ∈ l,dA o=0)->jX l m rs=((run m l).1,rs++(run m l).2)
  | [],m,rs,_,_=>by rw [jX]; simp [run]
  | o::l,m,rs,hm,ho=>by
    rw [jX,bG,Jc hm (ho o b3),Co l _ _ (qx hm (ho o b3)) λ x hx=>ho x (.tail _ hx)]
    simp [run]
theorem wT (m:List ay) (l:List aY):mP m l=ko m l:=by
  by_cases h:cB m=0/\fF l=0
  . rw [sV h.1 h.2]
    unfold ko
    simp only [bG, <- Ea, <- GK]
    rw [ZK h.1,ZK h.2,Co l m [] h.1 (JA.1 h.2)]; rfl
  . rw [(Fx h).1]
    unfold ko
    simp only [bG, <- Ea, <- GK]
    by_cases a:cB m=0
    . have b: ¬ fF l=0:=λ q=>h ⟨a,q⟩
      rw [ZK a,ZK a,ZV b]
    . rw [ZV a,ZV a]
end
open Int renaming toNat->U
open List renaming getD->y4,mem_append->T1,mem_singleton->m3,not_mem_nil->v6
section
open Go.RowKit
open Go.ChangeShapes
theorem DI (k:Key):∀ (f n:Nat),lY k f (((n:Nat):Int) - 1)=((kJ k f n:Nat):Int) - 1\/n >= f
  | 0,n=> .inr Y
  | f+1,n=>by
    unfold kJ lY
    simp only [bnd]
    by_cases b:(n:Int) > 0
    . have e:U ((n:Int) - 1)=n - 1:=Y
      rw [ZK b,ZK Y,e]
      by_cases a:(((y4 k (n - 1) ZZ).toNat:Nat):Int)=255
      . rw [ZK a,ZK a]
        have:=DI k f (n - 1)
        rw [show (((n - 1:Nat):Nat):Int) - 1=(n:Int) - 1 - 1 by omega] at this
        rcases this with h | h
        . exact .inl h
        . exact .inr Y
      . rw [ZV a,ZV a]; exact .inl Z
    . rw [ZV b,ZV Y]; exact .inl Z
theorem Jd {k:Key} (hk:vS k):qz k=(au.q k (ph k),0):=by
  rw [<- Gw hk]
  have hc:dW k=0:=rZ.2 hk
  have b:iI k=0:=hc
  have c:qz k=if((X k:Nat):Int) < 12 then(au.q k (k++([0])),0) else bnd (lY k ((U ((((X k) - 1:Nat):Int)+1))+1) (((X k) - 1:Nat):Int)) λ s=>if s < 0 then(au.q k [],0) else(au.q k ((List.take (U s) k)++([(y4 k (U s) ZZ+(1:UInt8))])),0):=by
    unfold qz
    rw [bG,hc,ZK Z]
    rfl
  have d:qg k=if((X k:Nat):Int) < 12 then(au.q k (k++([0])),0) else bnd (kJ k (12+1) 12) λ s=>if(s:Int)=0 then(au.q k [],0) else(au.q k ((List.take (s - 1) k)++([(y4 k (s - 1) ZZ+(1:UInt8))])),0):=by
    unfold qg
    rw [bG,b,ZK Z]
    rfl
  rw [c,d]
  by_cases a:((X k:Nat):Int) < 12
  . rw [ZK a,ZK a]
  . rw [ZV a,ZV a]
    have hl:X k=12:=by have:=hk.2; omega
    have e:U (((X k - 1:Nat):Int)+1)+1=13:=Y
    have f:(((X k - 1:Nat):Nat):Int)=((12:Nat):Int) - 1:=Y
    have:=(DI k 13 12).resolve_right Y
    rw [e,f,this,show (12:Nat)+1=13 from Z]
    generalize kJ k 13 12=t
    rw [bG,bG]
    by_cases g:t=0
    . subst g
      rw [ZK Y,ZK Y]
    . rw [ZV Y,ZV Y,show U ((t:Int) - 1)=t - 1 by omega]
def VO (l:List aY):Prop:=∀ o ∈ l,dA o=0
def VM (l:List ay):Prop:=∀ p ∈ l,Dk p
def VL (l:List aF):Prop:=∀ x ∈ l,dR x.j=0
def VW (ws:List bA):Prop:=∀ w ∈ ws,VO w.f.a/\VL w.e.a
def VH (hs:List df):Prop:=∀ h ∈ hs,VO h.a.a
theorem VO.nil:VO []:=λ _ h=>absurd h v6
theorem VO.app {a b:List aY} (ha:VO a) (hb:VO b):VO (a++b):=λ o ho=>(T1.1 ho).elim (ha o) (hb o)
theorem VO.tail {x:aY} {l:List aY} (h:VO (x::l)):VO l:=λ o ho=>h o (.tail _ ho)
theorem yD:∀ {l:List aY},VO l->fF l=0
  | [],_=>rfl
  | x::l,h=>by
    have a:=yD h.tail
    unfold fF at a ⊢
    unfold iM
    rw [bG,h x b3,ZK Z]
    exact a
theorem Cq {p:ay} (h:Dk p):dA (aY.q 2 p.f p.g [] [] 0)=0:=by
  rw [GD Z,ZK ⟨Z,Z,Z⟩,Bp,ZK (rZ.2 h.1),ZV (by have:=h.2; dsimp only; omega)]
theorem H5 {x:aY} (h:dA x=0):dR (if x.e=1\/x.e=2\/x.e=3 then jS x else fQ x)=0:=by
  by_cases c:x.e=1\/x.e=2\/x.e=3
  . rw [ZK c]
    have hk:=zI h c
    unfold jS
    rw [bG,Jd hk]
    exact BO.2 (IC hk)
  . rw [ZV c]
    by_cases a:x.e=4\/x.e=5
    . exact BO.2 (mO h a)
    . rw [Jl Y] at h; cases h
theorem zZ:∀ (l:List aY) (a:List aF),VO l->VL a->VL (gF l a)
  | [],a,_,h=>h
  | x::l,a,hv,h=>by
    have hs:=H5 (hv x b3)
    have g:∀ (r:au) (b:Bool),dR r=0->VL (gF l (a++ [aF.q r b])):=λ r b hr=>zZ l _ hv.tail λ y hy=>(T1.1 hy).elim (h y) λ hy=>by rw [m3.1 hy]; exact hr
    unfold gF
    by_cases c:x.e=1
    . rw [ZK c,bG]; rw [ZK (.inl c)] at hs; exact g _ _ hs
    rw [ZV c]
    by_cases d:x.e=2
    . rw [ZK d,bG]; rw [ZK (.inr (.inl d))] at hs; exact g _ _ hs
    rw [ZV d]
    by_cases e:x.e=3
    . rw [ZK e,bG]; rw [ZK (.inr (.inr e))] at hs; exact g _ _ hs
    rw [ZV Y] at hs
    rw [ZV e]
    by_cases f:x.e=4
    . rw [ZK f,bG]; exact g _ _ hs
    . rw [ZV f,bG]; exact g _ _ hs
theorem Cr {l:List aY} {r:List aF} {e:Int} (hv:VO l) (h:nX l=(r,e)):VL r/\e=0:=by
  unfold nX at h
  rw [bG,yD hv,ZK Z,bG] at h
  obtain⟨rfl,rfl⟩:=fK h
  exact⟨zZ l [] hv λ _ h=>absurd h v6,Z⟩
theorem Cs (k:List UInt8):∀ (l:List ay) (v:List UInt8),jZ k l= .inr (v,Zk)->∃ p ∈ l,p.g=v
  | [],v,h=>by cases h
  | x::l,v,h=>by
    unfold jZ at h
    split at h
    . have a:(x.g,Zk)=(v,Zk):=Sum.inr.inj h
      exact⟨x, .head _,ZJ Prod.fst a⟩
    . obtain⟨p,hp,e⟩:=Cs k l v h
      exact⟨p, .tail _ hp,e⟩
theorem wU (r:au) (n:Int):∀ (l a:List ay), ∀ p ∈ gp r n l a,p ∈ a\/p ∈ l
  | [],a,p,h=> .inl h
  | x::l,a,p,h=>by
    unfold gp at h
    rw [bG] at h
    have b:p ∈ gp r n l a->p ∈ a\/p ∈ x::l:=λ h=>(wU r n l a p h).imp id (.tail _)
    have c:p ∈ gp r n l (a++ [x])->p ∈ a\/p ∈ x::l:=λ h=>by
      rcases wU r n l _ p h with h | h
      . rcases T1.1 h with h | h
        . exact .inl h
        . rw [m3.1 h]; exact .inr b3
      . exact .inr (.tail _ h)
    split at h
    . split at h
      . exact c h
      . split at h
        . exact c h
        . exact b h
    . exact b h
theorem H6 {m:aA} {o:aY} {s:StoreT} (hm:VM s.a.a) (ho:dA o=0):VM (lg m o s).1:=by
  unfold lg
  by_cases c:o.e=1
  . rw [ZK c,bG]
    unfold pq
    rw [bG]
    generalize hf:nH s.a.a o.f=v
    obtain⟨v,b⟩:=v
    cases b with
    | false=>simp only [Bool.false_eq_true,if_false]; exact λ _ h=>absurd h v6
    | true=>
      simp only [if_true]
      intro p hp
      rw [m3.1 hp]
      refine⟨zI ho (.inl c), ?_⟩
      unfold nH at hf
      cases a:jZ o.f s.a.a with
      | inl z=>rw [a] at hf; exact Cj (ZJ Prod.snd hf).symm
      | inr z=>
        rw [a] at hf
        have e:z=(v,Zk):=hf
        rw [e] at a
        obtain⟨q,hq,f⟩:=Cs _ _ _ a
        show X v<=16
        rw [<- f]; exact(hm q hq).2
  . rw [ZV c]
    by_cases d:o.e=4
    . rw [ZK d,bG]
      unfold oN nu
      simp only [bG]
      exact λ p hp=>(wU _ _ _ _ p hp).elim (λ h=>absurd h v6) (hm p)
    . rw [ZV d]; exact λ _ h=>absurd h v6
theorem Fy:∀ (q:List ay) (l:List aY),VM q->VO l->VO (ig q l)
  | [],l,_,h=>h
  | x::q,l,hm,h=>Fy q _ (λ p hp=>hm p (.tail _ hp)) (h.app λ o ho=>by rw [m3.1 ho]; exact Cq (hm x b3))
theorem Fz (p:bK) (o:List aY) (m:aA) (s:StoreT) (hm:VM s.a.a):∀ (q l:List aY),VO q->VO l->VO (eG p o m s q l)
  | [],l,_,h=>h
  | x::q,l,hq,h=>by
    unfold eG
    simp only [bG]
    exact Fz p o m s hm q _ hq.tail (Fy _ _ (H6 hm (hq x b3)) h)
theorem FB {p:bK} {o:List aY} {m:aA} {s:StoreT} (hm:VM s.a.a) (ho:VO o) (hw:VO p.a.b.a):(jI p o m s).2=0:=by
  unfold jI
  simp only [bG]
  have hv:VO ((eG p o m s o []++p.a.b.a)++o):=((Fz p o m s hm o [] ho VO.nil).app hw).app ho
  have ha:(mP [] ((eG p o m s o []++p.a.b.a)++o)).2.2=0:=by
    unfold mP
    rw [bG,ZK (show cB []=0 from Z),bG,ZK (yD hv),bG]
  rw [ZK ha]
theorem H7 {p t:bK} {h:df} {m:aA} {s:StoreT} {e:Int} (hm:VM s.a.a) (ho:VO h.a.a) (hw:VO p.a.b.a) (hv:fV p h m s=(e,t)):e=0/\∃ y,t.a.a.a=p.a.a.a++y:=by
  unfold fV at hv
  rw [bG,ZK (FB hm ho hw)] at hv
  obtain⟨rfl,rfl⟩:=fK hv
  exact⟨Z,_,Z⟩
def Nw (k:Nat) (rs:List aN):Prop:=∀ r ∈ rs,r.a=k->r.f=J
theorem En {m:List aN} (hs:Up m) {t:Nat} (h:Nw t m):gu (aZ.q (Ll.q m)) t=J:=by
  unfold gu
  rw [bG]
  rcases mQ hs t with ⟨a,p,q,rfl,hp,ha,hq,hf⟩ | ⟨a,q,rfl,ha,hq,hf⟩
  . rw [hf,ZK Z,bG]
    simp only [Int.toNat_natCast,gd]
    exact h p i7 hp
  . rw [hf,ZV i7]
theorem FC {m:List aN} (h:jE m) {t:Nat} {x:aF} {s e:Int} {g d:List Nat} {r:aZ} (hx:dR x.j=0) (hn:Nw t m) (hr:iP (aZ.q (Ll.q m)) t x=(s,g,d,e,r)):e=0/\(s≠2->Nw t r.a.a):=by
  rw [wO h] at hr
  have k:s=_:=(ZJ (λ q=>q.1) hr).symm
  have l:e=_:=(ZJ (λ q=>q.2.2.2.1) hr).symm
  have n:r=_:=(ZJ (λ q=>q.2.2.2.2) hr).symm
  rw [k,l,n]
  simp only
  unfold oP
  rw [ZK hx,ZV (by rw [En h.up hn]; decide)]
  by_cases c:ku (aZ.q (Ll.q m)) t x=Zk
  . rw [ZK c]; exact⟨Z,λ _=>hn⟩
  rw [ZV c]
  by_cases f:192<=kR m
  . rw [ZK f]; exact⟨Z,λ _=>hn⟩
  rw [ZV f]
  by_cases i:eu (aZ.q (Ll.q m)) t x= []
  . rw [ZK i]
    obtain⟨p,u⟩:=vW m h.up t x
    have v:=wJ m h.up t x
    have w:=h.len
    have y:=h.tot
    have o:kR (gR m t x)<=kR (iK m t x):=mq _ _
    have A:X (gR m t x)<=X (iK m t x):=List.length_filter_le _ _
    have hf:Fit (gR m t x):=⟨(si h.up t x).filter _,Y,Y⟩
    have hse:=xZ hf (Cg h.up t x)
    refine⟨Z,λ _ q hq hqt=> ?_⟩
    cases hw:q.f with
    | false=>rfl
    | true=>
      obtain⟨z,hz,a,b⟩:=hse.wt q hq hw
      have:=hn z hz (by rw [a,hqt])
      rw [b] at this; cases this
  rw [ZV i]
  by_cases j:y4 (eu (aZ.q (Ll.q m)) t x) 0 ZZ < t
  . rw [ZK j]; exact⟨Z,λ _=>hn⟩
  . rw [ZV j]; exact⟨Z,λ h=>absurd Z h⟩
end
theorem VW.set {ws:List bA} {i:Nat} {x y:bA} (h:VW ws) (hx:ws[i]? =Zw x) (ho:y.f=x.f) (hl:y.e=x.e):VW (List.set ws i y):=λ w hw=>by
  rcases List.mem_or_eq_of_mem_set hw with e | e
  . exact h w e
  . rw [e,ho,hl]; exact h x (List.mem_of_getElem? hx)
theorem VW.but {ws:List bA} (h:VW ws) (k:Nat):VW (qM k ws):=λ w hw=>h w (List.mem_filter.1 hw).1
theorem Ct (p:bK) (k:Nat) (m:aA) (s:StoreT) (r:Int):∀ (q:Nat) (l:List dC) (rs:List aN) (ws:List bA),Tk ws m.a.a.a rs->vZ ws (Int.toNat r) k->gm ws (Int.toNat r) < q->Nw k rs->VW ws->
    (∀ l' rs' ws' x,fZ p k m s r q l rs ws= .inl (l',rs',ws',x)->VW ws'/\VO x.f.a)/\
    (∀ e t m' tb',fZ p k m s r q l rs ws= .inr (e,t,m',tb')->e=0/\VW m'.b.a/\m'.a.a.a=m.a.a.a/\∃ y,t.a.a.a=p.a.a.a++y):=by
  intro q
  induction q with
  | zero=>intro l rs ws _ _ h; omega
  | succ q ih=>
    intro l rs ws hk hw hq hn hv
    obtain⟨x,hx,hxt⟩:=id hw
    have hgm:=zQ hx
    obtain⟨⟨B,C⟩,D,E⟩:=hk.wat hx
    rw [fZ]
    simp only [bG,bu hx]
    by_cases a:x.b < ((X x.e.a:Nat):Int)
    . rw [ZK a]
      have hlk:dR (List.getD x.e.a (Int.toNat x.b) ZZ).j=0:=by
        obtain⟨y,hy⟩:∃ y,x.e.a[Int.toNat x.b]? =Zw y:=⟨_,List.getElem?_eq_getElem Y⟩
        rw [bu hy]
        exact(hv x (List.mem_of_getElem? hx)).2 y (List.mem_of_getElem? hy)
      cases ha:iP (aZ.q (Ll.q rs)) k (List.getD x.e.a (Int.toNat x.b) ZZ) with
      | mk sv j=>cases j with
        | mk g n=>cases n with
          | mk d o=>cases o with
            | mk e tb=>
              have b:=hk.ask hw ha
              obtain⟨u,c⟩:=FC hk.snd hlk hn ha
              simp only [tu]
              rw [ZK u]
              by_cases f:sv=2
              . rw [ZK f]
                refine⟨λ _ _ _ _ h=>(by cases h),λ w t m' tb' h=> ?_⟩
                obtain⟨rfl,rfl,rfl,rfl⟩:=fO (Sum.inr.inj h)
                exact⟨Z,hv,Z, [],(List.append_nil _).symm⟩
              . rw [ZV f]
                by_cases i:sv=3
                . rw [ZK i]
                  refine⟨λ _ _ _ _ h=>(by cases h),λ w t m' tb' h=> ?_⟩
                  unfold iE at h
                  rw [bG,qo (m:=aA.q m.a (Ll.q ws)) hk.a] at h
                  simp only at h
                  generalize hr:eO _ _ _ _=v at h
                  obtain⟨F,z⟩:=v
                  obtain⟨rfl,rfl,rfl,rfl⟩:=fO (Sum.inr.inj h)
                  exact⟨Z,hv.but k,Z,_,Z⟩
                . rw [ZV i]
                  have hbump:=b.bump (y:=bA.q x.a (Ll.q x.f.a) (Ll.q x.e.a) (x.b+1)) hx Z Z Z (show (0:Int)<=x.b+1/\x.b+1<=((X x.e.a:Nat):Int) by omega)
                  have A:=zR (y:=bA.q x.a (Ll.q x.f.a) (Ll.q x.e.a) (x.b+1)) hx a Z Z
                  exact ih _ tb.a.a (List.set ws (Int.toNat r) (bA.q x.a (Ll.q x.f.a) (Ll.q x.e.a) (x.b+1))) hbump (hw.set hx Z) Y (c f) (hv.set hx Z Z)
    . rw [ZV a]
      refine⟨λ l' rs' ws' x' h=> ?_,λ _ _ _ _ h=>(by cases h)⟩
      obtain⟨rfl,rfl,rfl,rfl⟩:=fO (Sum.inl.inj h)
      exact⟨hv,(hv x (List.mem_of_getElem? hx)).1⟩
structure Vt (p:bK) (s:StoreT) (ws:List bA) (hs:List df):Prop where q::
  w:VW ws
  h:VH hs
  m:VM s.a.a
  o:VO p.a.b.a
theorem go_ok {p t:bK} {k:Nat} {m m':aA} {s:StoreT} {tb tb':aZ} {e:Int} (h:fo p k m s tb=(e,t,m',tb')) (hk:Tk m.b.a m.a.a.a tb.a.a) (hn:Nw k tb.a.a) (v:Vt p s m.b.a m.a.a.a):
    e=0/\VW m'.b.a/\VH m'.a.a.a/\∃ y,t.a.a.a=p.a.a.a++y:=by
  unfold fo at h
  rw [bG] at h
  cases hf:bX m k with
  | mk i b=>
    rw [hf] at h
    cases b with
    | false=>
      rw [ZV i7] at h
      obtain⟨rfl,rfl,rfl,rfl⟩:=fO h
      exact⟨Z,v.w,v.h, [],(List.append_nil _).symm⟩
    | true=>
      rw [ZK Z] at h
      have hw:=nU hk.a hf
      obtain⟨hl,hr⟩:=Ct p k m s i (gm m.b.a (Int.toNat i)+1) p.b.a tb.a.a m.b.a hk hw Y hn v.w
      cases hg:fZ p k m s i (gm m.b.a (Int.toNat i)+1) p.b.a tb.a.a m.b.a with
      | inr z=>
        obtain⟨a,g,j,f⟩:=z
        simp only at h
        rw [hg] at h
        obtain⟨rfl,rfl,rfl,rfl⟩:=fO (show (a,g,j,f)=(e,t,m',tb') from h)
        obtain⟨c,d,l,n⟩:=hr _ _ _ _ hg
        exact⟨c,d,by rw [l]; exact v.h,n⟩
      | inl z=>
        obtain⟨r,u,A,x⟩:=z
        simp only at h
        rw [hg] at h
        obtain⟨c,d⟩:=hl _ _ _ _ hg
        simp only [lp,bG,hfind] at h
        generalize hv:fV _ _ _ _=q at h
        obtain⟨D,E⟩:=q
        obtain⟨B,C⟩:=H7 (p:=bK.q p.a (Ll.q r)) v.m d v.o hv
        obtain⟨rfl,rfl,rfl,rfl⟩:=fO h
        refine⟨B,λ w hw=> ?_,λ z hz=> ?_,C⟩
        . rcases List.mem_append.1 hw with a | a
          . exact c w (List.mem_of_mem_take a)
          . exact c w (List.mem_of_mem_drop a)
        . rcases lX.1 hz with a | a
          . rw [a]; exact d
          . exact v.h z a
theorem z8 (p:bK) (m:aA) (s:StoreT) (hm:VM s.a.a) (hw:VO p.a.b.a):∀ (q:Nat) (o:List dK) (l:List dC) (hs:List df) (ws:List bA) (rs:List aN),Tk ws hs rs->Gt ws->Li l rs->jN l ws rs < q->VW ws->VH hs->(∃ y,o=p.a.a.a++y)->
    ∃ o' l' hs' ws' rs',fB p m s q o l hs ws rs= .inl (o',l',hs',ws',rs')/\VW ws'/\VH hs'/\∃ y,o'=p.a.a.a++y:=by
  intro q
  induction q with
  | zero=>intro o l hs ws rs _ _ _ h; omega
  | succ q ih=>
    intro o l hs ws rs hk hg hli hq vw vh ho
    rw [fB]
    simp only [bG]
    by_cases z:((X l:Nat):Int) > 0
    . rw [ZK z]
      obtain⟨f,hf⟩:∃ f,l[0]? =Zw f:=⟨_,List.getElem?_eq_getElem Y⟩
      rw [bu hf]
      by_cases j:f.e=Zk
      . rw [ZK j]
        generalize hd:iE _ _ _=v
        obtain⟨A,B⟩:=v
        obtain⟨a,c,d,g⟩:=wP hk hg hli hf j hd
        unfold iE at hd
        rw [bG,qo hk.a] at hd
        obtain⟨rfl,rfl⟩:=fK hd
        exact ih _ _ _ _ _ a c d (Nat.lt_of_lt_of_le g (Nat.le_of_lt_succ hq)) (vw.but _) vh (by obtain⟨y,rfl⟩:=ho; exact⟨_,List.append_assoc _ _ _⟩)
      . rw [ZV j]
        have nw:Nw f.a rs:=λ r hr e=>hli.a f (List.mem_of_getElem? hf) (Bool.eq_false_iff.2 j) r hr e
        generalize hfd:bX _ _=C
        obtain⟨i,b⟩:=C
        cases b with
        | true=>
          simp only [if_true]
          obtain⟨x,hx,hxt⟩:=nU hk.a hfd
          have hx':ws[Int.toNat i]? =Zw x:=hx
          have hgx:=hg.wat hx'
          rw [bu hx']
          generalize hgo:fo _ _ _ _ _=v
          obtain⟨D,A,B,k⟩:=v
          obtain⟨a,c,d,g,_⟩:=yA (tb:=aZ.q (Ll.q rs)) hk hg hli hf hfd hx Z Z hgo
          have hb:=hk.bump (y:=bA.q x.a (Ll.q x.f.a) (Ll.q x.e.a) (x.b+1)) hx' Z Z Z (by have:=hk.wat hx'; exact⟨show (0:Int)<=x.b+1 by omega,show x.b+1<=((X x.e.a:Nat):Int) by omega⟩)
          obtain⟨n,t,u,E,w⟩:=go_ok (tb:=aZ.q (Ll.q rs)) hgo hb nw ⟨vw.set hx' Z Z,vh,hm,hw⟩
          rw [ZK n]
          exact ih _ _ _ _ _ a c d (Nat.lt_of_lt_of_le g (Nat.le_of_lt_succ hq)) t u (by obtain⟨y,rfl⟩:=ho; exact⟨_,w.trans (List.append_assoc _ _ _)⟩)
        | false=>
          simp only [Bool.false_eq_true,if_false]
          generalize hgo:fo _ _ _ _ _=v
          obtain⟨D,A,B,k⟩:=v
          obtain⟨a,c,d,g,_⟩:=yB (tb:=aZ.q (Ll.q rs)) hk hg hli hf hfd f6 Z hgo
          obtain⟨n,t,u,E,w⟩:=go_ok (tb:=aZ.q (Ll.q rs)) hgo hk nw ⟨vw,vh,hm,hw⟩
          rw [ZK n]
          exact ih _ _ _ _ _ a c d (Nat.lt_of_lt_of_le g (Nat.le_of_lt_succ hq)) t u (by obtain⟨y,rfl⟩:=ho; exact⟨_,w.trans (List.append_assoc _ _ _)⟩)
    . rw [ZV z]
      exact⟨_,_,_,_,_,Z,vw,vh,ho⟩
theorem look_ok {p t:bK} {m m':aA} {s:StoreT} {tb tb':aZ} {e:Int} (h:dQ p m s tb=(e,t,m',tb')) (hk:Tk m.b.a m.a.a.a tb.a.a) (hg:Gt m.b.a) (hli:Li p.b.a tb.a.a) (v:Vt p s m.b.a m.a.a.a):
    e=0/\VW m'.b.a/\VH m'.a.a.a/\∃ y,t.a.a.a=p.a.a.a++y:=by
  unfold dQ at h
  obtain⟨j,k,b,c,d,a,f,g,i⟩:=z8 p m s v.m v.o (jN p.b.a m.b.a tb.a.a+1) p.a.a.a p.b.a m.a.a.a m.b.a tb.a.a hk hg hli (Nat.lt_succ_self _) v.w v.h ⟨[],(List.append_nil _).symm⟩
  rw [a] at h
  obtain⟨rfl,rfl,rfl,rfl⟩:=fO h
  exact⟨Z,f,g,i⟩
open List renaming drop->r6,take->t8
open Ll renaming q->O
theorem yg (p:bK):∀ (o w:List aY),VO o->VO w->VO (gG p o w)
  | [],w,_,h=>h
  | x::o,w,ho,h=>by
    unfold gG
    rw [bG]
    by_cases c:qc x=Zk
    . rw [ZK c]; exact yg p o _ ho.tail (h.app λ y hy=>by rw [List.mem_singleton.1 hy]; exact ho x b3)
    . rw [ZV c]; exact yg p o w ho.tail h
theorem FD {p r:bK} {o:List aY} {m:aA} (h:ji p o m=r) (ho:VO o) (hw:VO p.a.b.a):VO r.a.b.a:=by
  unfold ji at h
  rw [bG] at h
  subst h
  exact yg p o _ ho hw
structure Vd (k:Nat) (m m':aA) (t:bK):Prop where q::
  w:VW m'.b.a
  h:VH m'.a.a.a
  o:VO t.a.b.a
  x:∀ n,Tx m'.b.a m'.a.a.a n->n≠k/\Tx m.b.a m.a.a.a n
theorem GQ {p g k t:bK} {x:dK} {m m1 r d m' mr:aA} {s:StoreT} {tb c tb':aZ} {e j:Int} {b:Bool} {hs':List df}
    (hd:dU m1 x.f=r) (hrl:eO p x.f mr tb=(k,c)) (hlo:dQ g d s c=(e,t,m',tb'))
    (hR:Rs m.b.a m.a.a.a m.a.f.a tb.a.a) (hl:p.b.a= []) (hf:dX m x.f=(j,b))
    (f:(b=Zk/\hs'=t8 (U j) m.a.a.a++r6 (U j+1) m.a.a.a)\/(b=J/\hs'=m.a.a.a))
    (hm:m1.b=m.b) (i:g.b.a=k.b.a) (a:d.b.a=r.b.a/\d.a.a.a=hs') (vw:VW m.b.a) (vh:VH m.a.a.a) (vm:VM s.a.a) (vo:VO g.a.b.a):
    e=0/\VW m'.b.a/\VH m'.a.a.a/\(∃ y,t.a.a.a=g.a.a.a++y)/\(∀ n,Tx m'.b.a m'.a.a.a n->n≠x.f/\Tx m.b.a m.a.a.a n):=by
  obtain⟨u,v,w,G⟩:=yf (hs':=hs') hR.tk hR.gt hf f hm hd hl hrl
  have dx:=GJ (hs':=hs') hR.tk hf f hm hd
  have l:Tk d.b.a d.a.a.a c.a.a:=by rw [a.1,a.2]; exact u
  have o:Gt d.b.a:=by rw [a.1]; exact v
  have q:Li g.b.a c.a.a:=by rw [i]; exact w
  have hL:=AJ hlo l o q
  have A:VW d.b.a:=by
    rw [a.1, <- hd,qo (by rw [hm]; exact hR.tk.a),hm]
    exact vw.but _
  have B:VH d.a.a.a:=by
    rw [a.2]
    rcases f with ⟨_,e⟩ | ⟨_,e⟩
    . rw [e]; exact λ z hz=>(List.mem_append.1 hz).elim (λ h=>vh z (List.mem_of_mem_take h)) λ h=>vh z (List.mem_of_mem_drop h)
    . rw [e]; exact vh
  obtain⟨C,D,E,F⟩:=look_ok hlo l o q ⟨A,B,vm,vo⟩
  refine⟨C,D,E,F,λ n hn=> ?_⟩
  have:=hL.a n hn
  rw [a.1,a.2] at this
  exact dx n this
theorem FE {p t:bK} {x:dK} {m m':aA} {s:StoreT} {tb tb':aZ} {e:Int} (h:iB p x m s tb=(e,t,m',tb')) (hR:Rs m.b.a m.a.a.a m.a.f.a tb.a.a) (hl:p.b.a= []) (hp:p.a.a.a= [])
    (v:Vt p s m.b.a m.a.a.a):e=0/\Vd x.f m m' t/\∃ z y,t.a.a.a=z::y/\z.e=6:=by
  unfold iB at h
  simp only [bG] at h
  rw [hp,List.nil_append] at h
  cases hf:dX m x.f with
  | mk j b=>
    rw [hf] at h
    cases b with
    | true=>
      rw [ZK Z] at h
      generalize hwr:(if x.D=Zk then _ else p.a.b.a)=Z9 at h
      generalize hd:dU _ _=r at h
      generalize hfi:gy _ _=rf at h
      generalize hrl:eO _ _ _ _=q at h
      obtain⟨C,f⟩:=q
      generalize hlo:dQ _ _ _ _=q at h
      obtain⟨D,E,F,g⟩:=q
      have hz:VO (List.getD m.a.a.a (U j) ZZ).a.a:=by
        rw [hfind] at hf
        rcases qm hR.tk.hu x.f with ⟨a,z,q,k,hp,ha,hq,l⟩ | ⟨a,q,k,ha,hq,l⟩
        . rw [l] at hf
          have:j=(X a:Int):=(ZJ Prod.fst hf).symm
          have G:List.getD m.a.a.a (U j) ZZ=z:=by rw [this,Int.toNat_natCast,k]; simp
          rw [G]
          exact v.h z (by rw [k]; exact List.mem_append_right _ b3)
        . rw [l] at hf; exact Cj (ZJ Prod.snd hf).symm
      have vo:VO Z9:=by
        rw [<- hwr]
        by_cases c:x.D=Zk
        . rw [ZK c]
          generalize hcm:ji _ _ _=cm
          exact FD hcm hz v.o
        . rw [ZV c]; exact v.o
      obtain⟨u,k2,A,d,B⟩:=GQ hd hrl hlo hR hl hf (.inl ⟨Z,Z⟩) Z Z ⟨Z,Z⟩ v.w v.h v.m vo
      obtain⟨rfl,rfl,rfl,rfl⟩:=fO h
      obtain⟨y,d⟩:=d
      exact⟨u,⟨k2,A,vo,B⟩,_,y,d,Z⟩
    | false=>
      simp only [Bool.false_eq_true,if_false] at h
      cases hwa:bX m x.f with
      | mk i bw=>
        rw [hwa] at h
        cases bw with
        | true=>
          rw [ZK Z] at h
          generalize hd:dU _ _=r at h
          generalize hfi:gy _ _=rf at h
          generalize hrl:eO _ _ _ _=q at h
          obtain⟨C,f⟩:=q
          generalize hlo:dQ _ _ _ _=q at h
          obtain⟨D,E,F,g⟩:=q
          obtain⟨u,k2,A,d,B⟩:=GQ hd hrl hlo hR hl hf (.inr ⟨Z,Z⟩) Z Z ⟨Z,Z⟩ v.w v.h v.m v.o
          obtain⟨rfl,rfl,rfl,rfl⟩:=fO h
          obtain⟨y,d⟩:=d
          exact⟨u,⟨k2,A,v.o,B⟩,_,y,d,Z⟩
        | false=>
          simp only [Bool.false_eq_true,if_false] at h
          obtain⟨rfl,rfl,rfl,rfl⟩:=fO h
          refine⟨Z,⟨v.w,v.h,v.o,λ n hn=>⟨λ e=> ?_,hn⟩⟩,_, [],Z,Z⟩
          rw [hfind] at hf
          rw [zU] at hwa
          subst e
          rcases hn with ⟨w,hw,e⟩ | ⟨z,hz,e⟩
          . exact Ej hR.tk.a hwa w hw e
          . exact hnot hR.tk.hu hf z hz e
theorem H8 {p t:bK} {x:dK} {m m':aA} {s:StoreT} {tb tb':aZ} {e:Int} (h:jK p x m s tb=(e,t,m',tb')) (hR:Rs m.b.a m.a.a.a m.a.f.a tb.a.a) (hf:X m.a.f.a<=999) (ho:X x.a.a<=24) (hl:p.b.a= [])
    (hx:VO x.a.a) (v:Vt p s m.b.a m.a.a.a):VW m'.b.a/\VH m'.a.a.a:=by
  unfold jK at h
  rw [bG] at h
  generalize hr:jl m x.k=r at h
  obtain⟨Z5,Z6,P,Q,R,S⟩:=wQ hR.a hr
  simp only [bG] at h
  generalize b:aA.q (bD.q m.a.l m.a.r m.a.t m.a.s m.a.g (O m.a.b.a) (O m.a.a.a) (O r.a.f.a) r.a.k m.a.u m.a.j m.a.e) (O m.b.a)=m1 at h
  have d:m1.b.a=m.b.a:=by rw [<- b]
  have g:m1.a.a.a=m.a.a.a:=by rw [<- b]
  have D:m1.a.f.a=r.a.f.a:=by rw [<- b]
  have f:VW m1.b.a/\VH m1.a.a.a:=by rw [d,g]; exact⟨v.w,v.h⟩
  have k:Tk m1.b.a m1.a.a.a tb.a.a:=by rw [d,g]; exact hR.tk
  have E:Gt m1.b.a:=by rw [d]; exact hR.gt
  by_cases A:(eD r.a.f.a x.f).2=Zk
  . rw [ZK A] at h
    obtain⟨_,rfl,rfl,rfl⟩:=fO h
    exact f
  rw [ZV A] at h
  by_cases B:(x.f:Int) < (r.a.k:Int)
  . rw [ZK B] at h
    obtain⟨_,rfl,rfl,rfl⟩:=fO h
    exact f
  rw [ZV B] at h
  cases hh:dX m1 x.f with
  | mk j bh=>
    rw [hh] at h
    cases bh with
    | true=>
      rw [ZK Z] at h
      generalize hv:fV _ _ _ _=v at h
      obtain⟨a,Z8⟩:=v
      obtain⟨_,rfl,rfl,rfl⟩:=fO h
      exact f
    | false=>
      simp only [Bool.false_eq_true,if_false] at h
      cases hw:bX m1 x.f with
      | mk i bw=>
        rw [hw] at h
        cases bw with
        | true=>
          rw [ZK Z] at h
          obtain⟨_,rfl,rfl,rfl⟩:=fO h
          exact f
        | false=>
          simp only [Bool.false_eq_true,if_false] at h
          cases hrf:jA m1 x with
          | true=>
            rw [hrf,ZK Z] at h
            obtain⟨_,rfl,rfl,rfl⟩:=fO h
            exact f
          | false=>
            rw [hrf] at h
            simp only [Bool.false_eq_true,if_false] at h
            cases hlk:nX x.a.a with
            | mk l Z4=>
              rw [hlk] at h
              obtain⟨hvl,F⟩:=Cr hx hlk
              rw [ZK F] at h
              have u:=(uq hrf Z (by rw [g]; have:=hR.tk.n; omega) (by rw [d]; have:=hR.tk.n; omega) (by rw [D]; omega)).1
              have hll:=uX hlk
              obtain⟨y,C⟩:=zW (o:=x.a.a) (l:=l) k E hh Z hw Z u ho Y
              have nw:Nw x.f tb.a.a:=λ q hq e=>by
                rw [hfind] at hh
                rw [zU] at hw
                rcases k.f q hq with ⟨w,c,a⟩ | ⟨z,hz,a⟩
                . exact absurd (a.trans e) (Ej k.a hw w c)
                . exact absurd (a.trans e) (hnot k.hu hh z hz)
              rw [d,g] at y
              rw [d] at C
              have vn:VW (t8 (U i) m.b.a++((bA.q x.f (O x.a.a) (O l) 0)::r6 (U i) m.b.a)):=λ w c=>by
                rcases lX.1 c with a | a
                . rw [a]; exact⟨hx,hvl⟩
                . exact v.w w a
              cases hg:fo p x.f (aA.q (bD.q m.a.l m.a.r m.a.t m.a.s m.a.g (O m.a.b.a) (O m.a.a.a) (O r.a.f.a) r.a.k m.a.u m.a.j m.a.e) (O (t8 (U i) m.b.a++((bA.q x.f (O x.a.a) (O l) 0)::r6 (U i) m.b.a)))) s tb with
              | mk Z3 G=>
                obtain⟨Z9,Z1,H⟩:=G
                rw [hg] at h
                have hG:=(rF y (by rw [hl]; exact x8 _) (by rw [hl]; exact λ _ h=>absurd h List.not_mem_nil) C hg).1
                obtain⟨I,Z7,K,Z2⟩:=go_ok hg y nw ⟨vn,v.h,v.m,v.o⟩
                rw [ZK I] at h
                simp only at h
                generalize hlo:dQ _ _ _ _=q at h
                obtain⟨Z0,t5,m5,L⟩:=q
                obtain⟨_,k2,M,_⟩:=look_ok hlo hG.tk hG.gt hG.b ⟨Z7,K,v.m,v.o⟩
                obtain⟨_,rfl,rfl,rfl⟩:=fO h
                exact⟨k2,M⟩
def Rz (Z9:List aY) (s:StoreT) (o:List aY):List bZ:=(jI (bK.q (dL.q (Ll.q []) (Ll.q Z9) J) (Ll.q [])) o ZZ s).1
theorem GR (p p':bK) (o:List aY) (m m':aA) (s:StoreT):∀ (q l:List aY),eG p o m s q l=eG p' o m' s q l
  | [],l=>rfl
  | x::q,l=>by
    unfold eG
    simp only [bG]
    exact GR p p' o m m' s q _
theorem Je (p:bK) (o:List aY) (m:aA) (s:StoreT):(jI p o m s).1=Rz p.a.b.a s o:=by
  unfold Rz jI
  simp only [bG]
  rw [GR p (bK.q (dL.q (Ll.q []) (Ll.q p.a.b.a) J) (Ll.q [])) o m ZZ s o []]
theorem DJ {p t:bK} {h:df} {m:aA} {s:StoreT} {e:Int} (hm:VM s.a.a) (ho:VO h.a.a) (hw:VO p.a.b.a) (hv:fV p h m s=(e,t)):
    e=0/\∃ v,t.a.a.a=p.a.a.a++ [v]/\v.f=h.f/\v.l.a=Rz p.a.b.a s h.a.a:=by
  unfold fV at hv
  rw [bG,ZK (FB hm ho hw)] at hv
  obtain⟨rfl,rfl⟩:=fK hv
  exact⟨Z,_,Z,Z,Je p h.a.a m s⟩
def Ov (Z9:List aY) (s:StoreT) (ws:List bA) (hs:List df) (v:dK):Prop:=v.e=4->v.y=3->(∀ w ∈ ws,w.a≠v.f)/\∀ h ∈ hs,h.f=v.f->v.l.a=Rz Z9 s h.a.a
def Oa (Z9:List aY) (s:StoreT) (ws:List bA) (hs:List df) (l:List dK):Prop:=∀ v ∈ l,Ov Z9 s ws hs v
def Sw (ws ws':List bA):Prop:=∀ w ∈ ws', ∃ z ∈ ws,z.a=w.a
theorem Ov.sub {Z9:List aY} {s:StoreT} {ws ws':List bA} {hs:List df} {v:dK} (h:Ov Z9 s ws hs v) (hw:Sw ws ws'):Ov Z9 s ws' hs v:=λ b c=>⟨λ w a e=>by
  obtain⟨z,hz,d⟩:=hw w a
  exact(h b c).1 z hz (d.trans e),(h b c).2⟩
theorem L8 (ws:List bA):Sw ws ws:=λ w hw=>⟨w,hw,Z⟩
theorem Sw.trans {a b c:List bA} (h:Sw a b) (h':Sw b c):Sw a c:=λ w hw=>by
  obtain⟨z,hz,e⟩:=h' w hw
  obtain⟨y,hy,d⟩:=h z hz
  exact⟨y,hy,d.trans e⟩
theorem Sw.set {ws:List bA} {i:Nat} {x y:bA} (hx:ws[i]? =Zw x) (ht:y.a=x.a):Sw ws (List.set ws i y):=λ w hw=>by
  rcases List.mem_or_eq_of_mem_set hw with e | e
  . exact⟨w,e,Z⟩
  . exact⟨x,List.mem_of_getElem? hx,by rw [e,ht]⟩
theorem Sw.but (k:Nat) (ws:List bA):Sw ws (qM k ws):=λ w hw=>⟨w,(List.mem_filter.1 hw).1,Z⟩
theorem Gi (p:bK) (k:Nat) (m:aA) (s:StoreT) (r:Int):∀ (q:Nat) (l:List dC) (rs:List aN) (ws:List bA),Tk ws m.a.a.a rs->vZ ws (Int.toNat r) k->gm ws (Int.toNat r) < q->Nw k rs->VW ws->
    (∀ l' rs' ws' x,fZ p k m s r q l rs ws= .inl (l',rs',ws',x)->Sw ws ws'/\ws'[Int.toNat r]? =Zw x/\Tk ws' m.a.a.a rs')/\
    (∀ e t m' tb',fZ p k m s r q l rs ws= .inr (e,t,m',tb')->Sw ws m'.b.a/\∃ y,t.a.a.a=p.a.a.a++y/\∀ v ∈ y,v.y=5):=by
  intro q
  induction q with
  | zero=>intro l rs ws _ _ h; omega
  | succ q ih=>
    intro l rs ws hk hw hq hn hv
    obtain⟨x,hx,hxt⟩:=id hw
    have hgm:=zQ hx
    obtain⟨⟨G,H⟩,I,Z7⟩:=hk.wat hx
    rw [fZ]
    simp only [bG,bu hx]
    by_cases a:x.b < ((X x.e.a:Nat):Int)
    . rw [ZK a]
      have hlk:dR (List.getD x.e.a (Int.toNat x.b) ZZ).j=0:=by
        obtain⟨y,hy⟩:∃ y,x.e.a[Int.toNat x.b]? =Zw y:=⟨_,List.getElem?_eq_getElem Y⟩
        rw [bu hy]
        exact(hv x (List.mem_of_getElem? hx)).2 y (List.mem_of_getElem? hy)
      cases ha:iP (aZ.q (Ll.q rs)) k (List.getD x.e.a (Int.toNat x.b) ZZ) with
      | mk sv u=>cases u with
        | mk g w=>cases w with
          | mk d z=>cases z with
            | mk e tb=>
              have b:=hk.ask hw ha
              obtain⟨A,c⟩:=FC hk.snd hlk hn ha
              simp only [tu]
              rw [ZK A]
              by_cases f:sv=2
              . rw [ZK f]
                refine⟨λ _ _ _ _ h=>(by cases h),λ B t m' tb' h=> ?_⟩
                obtain⟨rfl,rfl,rfl,rfl⟩:=fO (Sum.inr.inj h)
                exact⟨L8 _, [],(List.append_nil _).symm,λ _ h=>absurd h List.not_mem_nil⟩
              . rw [ZV f]
                by_cases o:sv=3
                . rw [ZK o]
                  refine⟨λ _ _ _ _ h=>(by cases h),λ B t m' tb' h=> ?_⟩
                  unfold iE at h
                  rw [bG,qo (m:=aA.q m.a (Ll.q ws)) hk.a] at h
                  simp only at h
                  generalize hr:eO _ _ _ _=v at h
                  obtain⟨K,C⟩:=v
                  obtain⟨rfl,rfl,rfl,rfl⟩:=fO (Sum.inr.inj h)
                  exact⟨Sw.but k ws,_,Z,λ v hv=>by rw [List.mem_singleton.1 hv]⟩
                . rw [ZV o]
                  have hbump:=b.bump (y:=bA.q x.a (Ll.q x.f.a) (Ll.q x.e.a) (x.b+1)) hx Z Z Z (show (0:Int)<=x.b+1/\x.b+1<=((X x.e.a:Nat):Int) by omega)
                  have D:=zR (y:=bA.q x.a (Ll.q x.f.a) (Ll.q x.e.a) (x.b+1)) hx a Z Z
                  have hs:=Sw.set (y:=bA.q x.a (Ll.q x.f.a) (Ll.q x.e.a) (x.b+1)) hx Z
                  obtain⟨E,F⟩:=ih ((l++d.map λ n=>dC.q n Zk)++g.map λ n=>dC.q n J) tb.a.a (List.set ws (Int.toNat r) (bA.q x.a (Ll.q x.f.a) (Ll.q x.e.a) (x.b+1))) hbump (hw.set hx Z) Y (c f) (hv.set hx Z Z)
                  exact⟨λ l' rs' ws' x' h=>by obtain⟨i,j⟩:=E l' rs' ws' x' h; exact⟨hs.trans i,j⟩,λ e t m' tb' h=>by obtain⟨i,j⟩:=F e t m' tb' h; exact⟨hs.trans i,j⟩⟩
    . rw [ZV a]
      refine⟨λ l' rs' ws' x' h=> ?_,λ _ _ _ _ h=>(by cases h)⟩
      obtain⟨rfl,rfl,rfl,rfl⟩:=fO (Sum.inl.inj h)
      exact⟨L8 _,hx,hk⟩
theorem Oa.app {Z9:List aY} {s:StoreT} {ws:List bA} {hs:List df} {a b:List dK} (ha:Oa Z9 s ws hs a) (hb:Oa Z9 s ws hs b):Oa Z9 s ws hs (a++b):=λ v hv=>(List.mem_append.1 hv).elim (ha v) (hb v)
theorem L9 {Z9:List aY} {s:StoreT} {ws:List bA} {hs:List df} {b:List dK} (h:∀ v ∈ b,v.y=5):Oa Z9 s ws hs b:=λ v hv _ a=>by rw [h v hv] at a; cases a
theorem Oa.sub {Z9:List aY} {s:StoreT} {ws ws':List bA} {hs:List df} {a:List dK} (ha:Oa Z9 s ws hs a) (h:Sw ws ws'):Oa Z9 s ws' hs a:=λ v hv=>(ha v hv).sub h
theorem Eo {p t:bK} {k:Nat} {m m':aA} {s:StoreT} {tb tb':aZ} {e:Int} (h:fo p k m s tb=(e,t,m',tb')) (hk:Tk m.b.a m.a.a.a tb.a.a) (hn:Nw k tb.a.a) (v:Vt p s m.b.a m.a.a.a)
    (ha:Oa p.a.b.a s m.b.a m.a.a.a p.a.a.a):Oa p.a.b.a s m'.b.a m'.a.a.a t.a.a.a:=by
  unfold fo at h
  rw [bG] at h
  cases hf:bX m k with
  | mk i b=>
    rw [hf] at h
    cases b with
    | false=>
      rw [ZV i7] at h
      obtain⟨rfl,rfl,rfl,rfl⟩:=fO h
      exact ha
    | true=>
      rw [ZK Z] at h
      have hw:=nU hk.a hf
      obtain⟨hl,hr⟩:=Gi p k m s i (gm m.b.a (Int.toNat i)+1) p.b.a tb.a.a m.b.a hk hw Y hn v.w
      obtain⟨vl,vr⟩:=Ct p k m s i (gm m.b.a (Int.toNat i)+1) p.b.a tb.a.a m.b.a hk hw Y hn v.w
      cases hg:fZ p k m s i (gm m.b.a (Int.toNat i)+1) p.b.a tb.a.a m.b.a with
      | inr z=>
        obtain⟨d,C,D,l⟩:=z
        simp only at h
        rw [hg] at h
        obtain⟨rfl,rfl,rfl,rfl⟩:=fO (show (d,C,D,l)=(e,t,m',tb') from h)
        obtain⟨n,y,f,g⟩:=hr _ _ _ _ hg
        obtain⟨_,_,E,_⟩:=vr _ _ _ _ hg
        rw [f,E]
        exact(ha.sub n).app (L9 g)
      | inl z=>
        obtain⟨F,G,r,x⟩:=z
        simp only at h
        rw [hg] at h
        obtain⟨n,f,g⟩:=hl _ _ _ _ hg
        obtain⟨P,H⟩:=vl _ _ _ _ hg
        simp only [lp,bG,hfind] at h
        cases hj:bH m.a.a.a x.a with
        | mk j Q=>
          rw [hj] at h
          have hh:=g.hold f hj
          generalize hv:fV _ _ _ _=q at h
          obtain⟨R,I⟩:=q
          obtain⟨_,y,Z7,K,L⟩:=DJ (p:=bK.q p.a (Ll.q F)) v.m H v.o hv
          obtain⟨rfl,rfl,rfl,rfl⟩:=fO h
          have hxm:x ∈ r:=List.mem_of_getElem? f
          refine λ w u=> ?_
          have A:w ∈ p.a.a.a++ [y]:=by have M:I.a.a.a=p.a.a.a++ [y]:=Z7; rw [<- M]; exact u
          rcases List.mem_append.1 A with d | d
          . intro Z5 k2
            obtain⟨B,Z6⟩:=((ha w d).sub n) Z5 k2
            refine⟨λ z hz=> ?_,λ z hz c=> ?_⟩
            . rcases List.mem_append.1 hz with a | a
              . exact B z (List.mem_of_mem_take a)
              . exact B z (List.mem_of_mem_drop a)
            . rcases lX.1 hz with a | a
              . rw [a] at c; exact absurd c (B x hxm)
              . exact Z6 z a c
          . rw [List.mem_singleton.1 d]
            intro _ _
            have ht:y.f=x.a:=K
            refine⟨λ z hz c=> ?_,λ z hz c=> ?_⟩
            . exact hh.e z hz (df.q x.a (Ll.q x.f.a)) (lX.2 (.inl Z)) (c.trans ht)
            . rcases lX.1 hz with a | a
              . rw [a]; exact L
              . exact absurd (ht.symm.trans c.symm) (g.e x hxm z a)
theorem Ep (p:bK) (m:aA) (s:StoreT) (hm:VM s.a.a) (hw:VO p.a.b.a):∀ (q:Nat) (o:List dK) (l:List dC) (hs:List df) (ws:List bA) (rs:List aN),Tk ws hs rs->Gt ws->Li l rs->jN l ws rs < q->VW ws->VH hs->Oa p.a.b.a s ws hs o->
    ∀ o' l' hs' ws' rs',fB p m s q o l hs ws rs= .inl (o',l',hs',ws',rs')->Oa p.a.b.a s ws' hs' o':=by
  intro q
  induction q with
  | zero=>intro o l hs ws rs _ _ _ h; omega
  | succ q ih=>
    intro o l hs ws rs hk hg hli hq vw vh ho o' l' hs' ws' rs' h
    rw [fB] at h
    simp only [bG] at h
    by_cases A:((X l:Nat):Int) > 0
    . rw [ZK A] at h
      obtain⟨f,hf⟩:∃ f,l[0]? =Zw f:=⟨_,List.getElem?_eq_getElem Y⟩
      rw [bu hf] at h
      by_cases j:f.e=Zk
      . rw [ZK j] at h
        generalize hd:iE _ _ _=v at h
        obtain⟨B,C⟩:=v
        obtain⟨a,c,d,g⟩:=wP hk hg hli hf j hd
        unfold iE at hd
        rw [bG,qo hk.a] at hd
        obtain⟨rfl,rfl⟩:=fK hd
        exact ih _ _ _ _ _ a c d (Nat.lt_of_lt_of_le g (Nat.le_of_lt_succ hq)) (vw.but _) vh ((ho.sub (Sw.but _ ws)).app (L9 λ v hv=>by rw [List.mem_singleton.1 hv])) _ _ _ _ _ h
      . rw [ZV j] at h
        have nw:Nw f.a rs:=λ r hr e=>hli.a f (List.mem_of_getElem? hf) (Bool.eq_false_iff.2 j) r hr e
        generalize hfd:bX _ _=D at h
        obtain⟨i,b⟩:=D
        cases b with
        | true=>
          simp only [if_true] at h
          obtain⟨x,hx,hxt⟩:=nU hk.a hfd
          have hx':ws[Int.toNat i]? =Zw x:=hx
          have hgx:=hg.wat hx'
          rw [bu hx'] at h
          generalize hgo:fo _ _ _ _ _=v at h
          obtain⟨k,B,C,n⟩:=v
          obtain⟨a,c,d,g,_⟩:=yA (tb:=aZ.q (Ll.q rs)) hk hg hli hf hfd hx Z Z hgo
          have hb:=hk.bump (y:=bA.q x.a (Ll.q x.f.a) (Ll.q x.e.a) (x.b+1)) hx' Z Z Z (by have:=hk.wat hx'; exact⟨show (0:Int)<=x.b+1 by omega,show x.b+1<=((X x.e.a:Nat):Int) by omega⟩)
          obtain⟨t,u,w,_⟩:=go_ok (tb:=aZ.q (Ll.q rs)) hgo hb nw ⟨vw.set hx' Z Z,vh,hm,hw⟩
          have z:=Eo (tb:=aZ.q (Ll.q rs)) hgo hb nw ⟨vw.set hx' Z Z,vh,hm,hw⟩ (ho.sub (Sw.set (y:=bA.q x.a (Ll.q x.f.a) (Ll.q x.e.a) (x.b+1)) hx' Z))
          simp only at h
          rw [ZK t] at h
          exact ih _ _ _ _ _ a c d (Nat.lt_of_lt_of_le g (Nat.le_of_lt_succ hq)) u w z _ _ _ _ _ h
        | false=>
          simp only [Bool.false_eq_true,if_false] at h
          generalize hgo:fo _ _ _ _ _=v at h
          obtain⟨k,B,C,n⟩:=v
          obtain⟨a,c,d,g,_⟩:=yB (tb:=aZ.q (Ll.q rs)) hk hg hli hf hfd f6 Z hgo
          obtain⟨t,u,w,_⟩:=go_ok (tb:=aZ.q (Ll.q rs)) hgo hk nw ⟨vw,vh,hm,hw⟩
          have z:=Eo (tb:=aZ.q (Ll.q rs)) hgo hk nw ⟨vw,vh,hm,hw⟩ ho
          simp only at h
          rw [ZK t] at h
          exact ih _ _ _ _ _ a c d (Nat.lt_of_lt_of_le g (Nat.le_of_lt_succ hq)) u w z _ _ _ _ _ h
    . rw [ZV A] at h
      injection h with h
      obtain⟨E,F⟩:=fK h
      obtain⟨_,k,G,_⟩:=fO F
      rw [<- E, <- k, <- G]
      exact ho
theorem DK {p t:bK} {m m':aA} {s:StoreT} {tb tb':aZ} {e:Int} (h:dQ p m s tb=(e,t,m',tb')) (hk:Tk m.b.a m.a.a.a tb.a.a) (hg:Gt m.b.a) (hli:Li p.b.a tb.a.a) (v:Vt p s m.b.a m.a.a.a)
    (ha:Oa p.a.b.a s m.b.a m.a.a.a p.a.a.a):Oa p.a.b.a s m'.b.a m'.a.a.a t.a.a.a:=by
  unfold dQ at h
  obtain⟨g,i,b,c,d,a,_⟩:=z8 p m s v.m v.o (jN p.b.a m.b.a tb.a.a+1) p.a.a.a p.b.a m.a.a.a m.b.a tb.a.a hk hg hli (Nat.lt_succ_self _) v.w v.h ⟨[],(List.append_nil _).symm⟩
  have f:=Ep p m s v.m v.o (jN p.b.a m.b.a tb.a.a+1) p.a.a.a p.b.a m.a.a.a m.b.a tb.a.a hk hg hli (Nat.lt_succ_self _) v.w v.h ha _ _ _ _ _ a
  rw [a] at h
  obtain⟨_,rfl,rfl,rfl⟩:=fO h
  exact f
theorem FH {p f k t:bK} {x:dK} {m m1 r d m' mr:aA} {s:StoreT} {tb c tb':aZ} {e j:Int} {b:Bool} {hs':List df}
    (hd:dU m1 x.f=r) (hrl:eO p x.f mr tb=(k,c)) (hlo:dQ f d s c=(e,t,m',tb'))
    (hR:Rs m.b.a m.a.a.a m.a.f.a tb.a.a) (hl:p.b.a= []) (hf:dX m x.f=(j,b))
    (g:(b=Zk/\hs'=List.take (Int.toNat j) m.a.a.a++List.drop (Int.toNat j+1) m.a.a.a)\/(b=J/\hs'=m.a.a.a))
    (hm:m1.b=m.b) (i:f.b.a=k.b.a) (a:d.b.a=r.b.a/\d.a.a.a=hs') (vw:VW m.b.a) (vh:VH m.a.a.a) (vm:VM s.a.a) (vo:VO f.a.b.a)
    (hout:∀ v ∈ f.a.a.a,v.e≠4):Oa f.a.b.a s m'.b.a m'.a.a.a t.a.a.a:=by
  obtain⟨l,n,o,C⟩:=yf (hs':=hs') hR.tk hR.gt hf g hm hd hl hrl
  have q:Tk d.b.a d.a.a.a c.a.a:=by rw [a.1,a.2]; exact l
  have u:Gt d.b.a:=by rw [a.1]; exact n
  have w:Li f.b.a c.a.a:=by rw [i]; exact o
  have y:VW d.b.a:=by
    rw [a.1, <- hd,qo (by rw [hm]; exact hR.tk.a),hm]
    exact vw.but _
  have A:VH d.a.a.a:=by
    rw [a.2]
    rcases g with ⟨_,e⟩ | ⟨_,e⟩
    . rw [e]; exact λ z hz=>(List.mem_append.1 hz).elim (λ h=>vh z (List.mem_of_mem_take h)) λ h=>vh z (List.mem_of_mem_drop h)
    . rw [e]; exact vh
  exact DK hlo q u w ⟨y,A,vm,vo⟩ λ v hv B=>absurd B (hout v hv)
theorem FI {p t:bK} {x:dK} {m m':aA} {s:StoreT} {tb tb':aZ} {e:Int} (h:iB p x m s tb=(e,t,m',tb')) (hR:Rs m.b.a m.a.a.a m.a.f.a tb.a.a) (hl:p.b.a= []) (hp:p.a.a.a= [])
    (v:Vt p s m.b.a m.a.a.a):Oa t.a.b.a s m'.b.a m'.a.a.a t.a.a.a:=by
  unfold iB at h
  simp only [bG] at h
  rw [hp,List.nil_append] at h
  cases hf:dX m x.f with
  | mk j b=>
    rw [hf] at h
    cases b with
    | true=>
      rw [ZK Z] at h
      generalize hwr:(if x.D=Zk then _ else p.a.b.a)=Z9 at h
      generalize hd:dU _ _=r at h
      generalize hfi:gy _ _=rf at h
      generalize hrl:eO _ _ _ _=q at h
      obtain⟨u,d⟩:=q
      generalize hlo:dQ _ _ _ _=q at h
      obtain⟨y,A,B,f⟩:=q
      have hz:VO (List.getD m.a.a.a (Int.toNat j) ZZ).a.a:=by
        rw [hfind] at hf
        rcases qm hR.tk.hu x.f with ⟨a,z,q,g,hp,ha,hq,l⟩ | ⟨a,q,g,ha,hq,l⟩
        . rw [l] at hf
          have:j=(X a:Int):=(ZJ Prod.fst hf).symm
          have C:List.getD m.a.a.a (Int.toNat j) ZZ=z:=by rw [this,Int.toNat_natCast,g]; simp
          rw [C]
          exact v.h z (by rw [g]; exact List.mem_append_right _ b3)
        . rw [l] at hf; exact Cj (ZJ Prod.snd hf).symm
      have vo:VO Z9:=by
        rw [<- hwr]
        by_cases c:x.D=Zk
        . rw [ZK c]
          generalize hcm:ji _ _ _=cm
          exact FD hcm hz v.o
        . rw [ZV c]; exact v.o
      have k:=FH hd hrl hlo hR hl hf (.inl ⟨Z,Z⟩) Z Z ⟨Z,Z⟩ v.w v.h v.m vo (λ v hv=>by rw [List.mem_singleton.1 hv]; show (6:Int)≠4; decide)
      obtain⟨rfl,rfl,rfl,rfl⟩:=fO h
      exact k
    | false=>
      simp only [Bool.false_eq_true,if_false] at h
      cases hwa:bX m x.f with
      | mk i bw=>
        rw [hwa] at h
        cases bw with
        | true=>
          rw [ZK Z] at h
          generalize hd:dU _ _=r at h
          generalize hfi:gy _ _=rf at h
          generalize hrl:eO _ _ _ _=q at h
          obtain⟨u,d⟩:=q
          generalize hlo:dQ _ _ _ _=q at h
          obtain⟨y,A,B,f⟩:=q
          have k:=FH hd hrl hlo hR hl hf (.inr ⟨Z,Z⟩) Z Z ⟨Z,Z⟩ v.w v.h v.m v.o (λ v hv=>by rw [List.mem_singleton.1 hv]; show (6:Int)≠4; decide)
          obtain⟨rfl,rfl,rfl,rfl⟩:=fO h
          exact k
        | false=>
          simp only [Bool.false_eq_true,if_false] at h
          obtain⟨rfl,rfl,rfl,rfl⟩:=fO h
          intro v hv n
          rw [List.mem_singleton.1 hv] at n
          cases n
open List renaming nil_append->W6
theorem Ia {hs:List df} (hu:vY hs) {k:Nat} {j:Int} (hf:bH hs k=(j,Zk)):∃ z ∈ hs,z.f=k/\y4 hs (U j) ZZ=z/\∀ y ∈ hs,y.f=k->y=z:=by
  rcases qm hu k with ⟨a,z,q,b,hp,ha,hq,c⟩ | ⟨a,q,b,ha,hq,c⟩
  . rw [c] at hf
    have:j=(X a:Int):=(ZJ Prod.fst hf).symm
    refine⟨z,by rw [b]; exact List.mem_append_right _ b3,hp,by rw [this,Int.toNat_natCast,b]; simp,λ y hy e=> ?_⟩
    rw [b] at hy
    rcases List.mem_append.1 hy with h | h
    . exact absurd e (Nat.ne_of_lt (ha y h))
    . rcases List.mem_cons.1 h with h | h
      . exact h
      . exact absurd e (Nat.ne_of_gt (hq y h))
  . rw [c] at hf; exact Cj (ZJ Prod.snd hf).symm
theorem Ib {p t:bK} {x:dK} {m m':aA} {s:StoreT} {tb tb':aZ} {e:Int} (h:jK p x m s tb=(e,t,m',tb')) (hR:Rs m.b.a m.a.a.a m.a.f.a tb.a.a) (hf:X m.a.f.a<=999) (ho:X x.a.a<=24) (hl:p.b.a= [])
    (hp:p.a.a.a= []) (hx:VO x.a.a) (v:Vt p s m.b.a m.a.a.a):Oa p.a.b.a s m'.b.a m'.a.a.a t.a.a.a:=by
  have nil:∀ ws hs,Oa p.a.b.a s ws hs p.a.a.a:=λ ws hs v hv=>by rw [hp] at hv; exact absurd hv v6
  unfold jK at h
  rw [bG] at h
  generalize hr:jl m x.k=r at h
  obtain⟨Z4,Z3,Z9,Z1,Z2,Z0⟩:=wQ hR.a hr
  simp only [bG] at h
  generalize b:aA.q (bD.q m.a.l m.a.r m.a.t m.a.s m.a.g (O m.a.b.a) (O m.a.a.a) (O r.a.f.a) r.a.k m.a.u m.a.j m.a.e) (O m.b.a)=m1 at h
  have d:m1.b.a=m.b.a:=by rw [<- b]
  have f:m1.a.a.a=m.a.a.a:=by rw [<- b]
  have H:m1.a.f.a=r.a.f.a:=by rw [<- b]
  have g:Tk m1.b.a m1.a.a.a tb.a.a:=by rw [d,f]; exact hR.tk
  have I:Gt m1.b.a:=by rw [d]; exact hR.gt
  by_cases D:(eD r.a.f.a x.f).2=Zk
  . rw [ZK D] at h
    obtain⟨_,rfl,rfl,rfl⟩:=fO h
    exact nil _ _
  rw [ZV D] at h
  by_cases E:(x.f:Int) < (r.a.k:Int)
  . rw [ZK E] at h
    obtain⟨_,rfl,rfl,rfl⟩:=fO h
    exact nil _ _
  rw [ZV E] at h
  cases hh:dX m1 x.f with
  | mk j bh=>
    rw [hh] at h
    cases bh with
    | true=>
      rw [ZK Z] at h
      rw [hfind,f] at hh
      obtain⟨z,hz,hzt,hzg,hzu⟩:=Ia hR.tk.hu hh
      generalize hv:fV _ _ _ _=q at h
      obtain⟨c,Z7⟩:=q
      have hzo:VO (y4 m.a.a.a (U j) ZZ).a.a:=by rw [hzg]; exact v.h z hz
      obtain⟨_,y,F,K,u⟩:=DJ v.m hzo v.o hv
      obtain⟨_,rfl,rfl,rfl⟩:=fO h
      rw [hp,W6] at F
      intro w hw
      have a:w ∈ Z7.a.a.a:=hw
      rw [F] at a
      rw [m3.1 a]
      intro _ _
      have yt:y.f=(y4 m.a.a.a (U j) ZZ).f:=K
      have u:y.l.a=Rz p.a.b.a s (y4 m.a.a.a (U j) ZZ).a.a:=u
      rw [hzg] at yt u
      rw [<- b]
      refine⟨λ w hw A=> ?_,λ k hk A=> ?_⟩
      . exact hR.tk.e w hw z hz (A.trans yt)
      . rw [hzu k hk (A.trans (yt.trans hzt))]; exact u
    | false=>
      simp only [Bool.false_eq_true,if_false] at h
      cases hw:bX m1 x.f with
      | mk i bw=>
        rw [hw] at h
        cases bw with
        | true=>
          rw [ZK Z] at h
          obtain⟨_,rfl,rfl,rfl⟩:=fO h
          exact nil _ _
        | false=>
          simp only [Bool.false_eq_true,if_false] at h
          cases hrf:jA m1 x with
          | true=>
            rw [hrf,ZK Z] at h
            obtain⟨_,rfl,rfl,rfl⟩:=fO h
            intro w hw
            rw [hp,W6] at hw
            rw [m3.1 hw]
            intro _ L
            exact absurd L (by show ¬ ((4:Int)=3); decide)
          | false=>
            rw [hrf] at h
            simp only [Bool.false_eq_true,if_false] at h
            cases hlk:nX x.a.a with
            | mk l e3=>
              rw [hlk] at h
              obtain⟨hvl,M⟩:=Cr hx hlk
              rw [ZK M] at h
              have C:=(uq hrf Z (by rw [f]; have:=hR.tk.n; omega) (by rw [d]; have:=hR.tk.n; omega) (by rw [H]; omega)).1
              have hll:=uX hlk
              obtain⟨B,G⟩:=zW (o:=x.a.a) (l:=l) g I hh Z hw Z C ho Y
              have nw:Nw x.f tb.a.a:=λ q hq e=>by
                rw [hfind] at hh
                rw [zU] at hw
                rcases g.f q hq with ⟨w,a,c⟩ | ⟨z,hz,c⟩
                . exact absurd (c.trans e) (Ej g.a hw w a)
                . exact absurd (c.trans e) (hnot g.hu hh z hz)
              rw [d,f] at B
              rw [d] at G
              have vn:VW (List.take (U i) m.b.a++((bA.q x.f (O x.a.a) (O l) 0)::List.drop (U i) m.b.a)):=λ w a=>by
                rcases lX.1 a with c | c
                . rw [c]; exact⟨hx,hvl⟩
                . exact v.w w c
              cases hg:fo p x.f (aA.q (bD.q m.a.l m.a.r m.a.t m.a.s m.a.g (O m.a.b.a) (O m.a.a.a) (O r.a.f.a) r.a.k m.a.u m.a.j m.a.e) (O (List.take (U i) m.b.a++((bA.q x.f (O x.a.a) (O l) 0)::List.drop (U i) m.b.a)))) s tb with
              | mk A Z5=>
                obtain⟨t4,m4,Z6⟩:=Z5
                rw [hg] at h
                have hG:=(rF B (by rw [hl]; exact x8 _) (by rw [hl]; exact λ _ h=>absurd h v6) G hg).1
                obtain⟨P,Q,R,o4⟩:=go_ok hg B nw ⟨vn,v.h,v.m,v.o⟩
                have S:=Eo hg B nw ⟨vn,v.h,v.m,v.o⟩ (nil _ _)
                rw [ZK P] at h
                simp only at h
                generalize hlo:dQ _ _ _ _=q at h
                obtain⟨e5,t5,m5,Z8⟩:=q
                have k:=DK hlo hG.tk hG.gt hG.b ⟨Q,R,v.m,v.o⟩ S
                obtain⟨_,rfl,rfl,rfl⟩:=fO h
                exact k
theorem yh {m:List ay} {o:aY} (hm:cB m=0) (ho:dA o=0) (hw:o.e=2\/o.e=3\/o.e=5):(l7 m o).2=zH/\∀ p:ay,tT o p.f->(p ∈ (l7 m o).1↔(o.e=2/\p=ay.q o.f o.g)):=by
  have hs:=(l6.1 hm).2
  obtain⟨a,e,d,b,_,_⟩:=oq hs o.f
  unfold l7 tT
  rcases hw with hk | hk | hk
  . rw [ZV Y,ZK hk,ww hs b]
    refine⟨Z,λ p ht=> ?_⟩
    rw [ZK Y] at ht
    constructor
    . intro hp
      rcases List.mem_append.1 hp with h | h
      . have:=b.lo p h; rw [ht] at this; exact absurd this (jH _)
      . rcases List.mem_cons.1 h with h | h
        . exact⟨hk,h⟩
        . have:=b.hi p h; rw [ht] at this; exact absurd this (jH _)
    . rintro ⟨_,rfl⟩; exact List.mem_append_right _ b3
  . rw [ZV Y,ZV Y,ZK hk,wy hs b]
    refine⟨Z,λ p ht=> ?_⟩
    rw [ZK Y] at ht
    refine⟨λ hp=> ?_,λ h=>absurd h.1 Y⟩
    rcases List.mem_append.1 hp with h | h
    . have:=b.lo p h; rw [ht] at this; exact absurd this (jH _)
    . have:=b.hi p h; rw [ht] at this; exact absurd this (jH _)
  . rw [ZV Y,ZV Y,ZV Y,ZV Y,uw hs (mO ho (.inr hk))]
    refine⟨Z,λ p ht=> ?_⟩
    rw [ZV Y] at ht
    refine⟨λ hp=> ?_,λ h=>absurd h.1 Y⟩
    have:=(List.mem_filter.1 hp).2
    rw [ht] at this; cases this
theorem Cu {m:List ay} {o:aY} (hm:cB m=0) (ho:dA o=0) (hr:o.e=1\/o.e=4):(l7 m o).1=m:=by
  have hs:=(l6.1 hm).2
  unfold l7
  rcases hr with hk | hk
  . obtain⟨a,e,d,b,_,_⟩:=oq hs o.f
    rw [ZK hk]
    rcases wo hs b with ⟨_,e⟩ | ⟨v,_,e⟩ <;> rw [e]
  . rw [ZV Y,ZV Y,ZV Y,ZK hk,wz hs (mO ho (.inl hk)) (sS ho hk).1]
def DL (Z4:Key->Prop) (m n:List ay):Prop:=∀ p:ay,Z4 p.f->(p ∈ m↔p ∈ n)
theorem FJ {Z4:Key->Prop} {m n:List ay} {o:aY} (hm:cB m=0) (hn:cB n=0) (ho:dA o=0) (h:DL Z4 m n):DL Z4 (l7 m o).1 (l7 n o).1:=λ p hp=>by
  by_cases ht:tT o p.f
  . by_cases hw:o.e=2\/o.e=3\/o.e=5
    . rw [(yh hm ho hw).2 p ht,(yh hn ho hw).2 p ht]
    . have hk:=sU ho
      rw [Cu hm ho Y,Cu hn ho Y]; exact h p hp
  . rw [AO hm ho ht,AO hn ho ht]; exact h p hp
theorem FK {Z4:Key->Prop}:∀ {l:List aY} {m n:List ay},cB m=0->cB n=0->VO l->DL Z4 m n->DL Z4 (run m l).1 (run n l).1
  | [],_,_,_,_,_,h=>h
  | x::l,m,n,hm,hn,hv,h=>FK (l:=l) (qx hm (hv x b3)) (qx hn (hv x b3)) hv.tail (FJ hm hn (hv x b3) h)
theorem DN {Z4:Key->Prop}:∀ {l:List aY} {m n:List ay},cB m=0->cB n=0->VO l->DL Z4 m n->(∀ o ∈ l,(o.e=1\/o.e=4)->∀ k,tT o k->Z4 k)->(run m l).2=(run n l).2
  | [],_,_,_,_,_,_,_=>rfl
  | x::l,m,n,hm,hn,hv,h,hU=>by
    have ho:=hv x b3
    have a:(l7 m x).2=(l7 n x).2:=by
      by_cases hw:x.e=2\/x.e=3\/x.e=5
      . rw [(yh hm ho hw).1,(yh hn ho hw).1]
      . have hk:=sU ho
        exact(IY hm hn ho λ p ht=>h p (hU x b3 Y _ ht)).1
    have b:=DN (l:=l) (qx hm ho) (qx hn ho) hv.tail (FJ hm hn ho h) λ o ho=>hU o (.tail _ ho)
    show (l7 m x).2::(run (l7 m x).1 l).2=(l7 n x).2::(run (l7 n x).1 l).2
    rw [a,b]
def pt (p:ay):aY:=aY.q 2 p.f p.g [] [] 0
theorem key_inj {M:List ay} (hs:oh M) {p q:ay} (hp:p ∈ M) (hq:q ∈ M) (e:p.f=q.f):p=q:=by
  obtain⟨i,hi⟩:=List.mem_iff_getElem?.1 hp
  obtain⟨j,hj⟩:=List.mem_iff_getElem?.1 hq
  rcases Nat.lt_trichotomy i j with h | h | h
  . have:=zG hs hi hj h; rw [e] at this; exact absurd this (jH _)
  . subst h; rw [hi] at hj; exact Option.some.inj hj
  . have:=zG hs hj hi h; rw [e] at this; exact absurd this (jH _)
theorem Cv {M:List ay} (hM:cB M=0):∀ {L n:List ay},cB n=0->(∀ p ∈ L,p ∈ M)->(∀ p ∈ n,p ∈ M)->cB (run n (L.map pt)).1=0/\∀ p,p ∈ (run n (L.map pt)).1↔p ∈ n\/p ∈ L
  | [],n,hn,_,_=>⟨hn,λ p=>by simp [run]⟩
  | q::L,n,hn,hL,hnM=>by
    have hq:=hL q b3
    have ho:dA (pt q)=0:=Cq ((l6.1 hM).1 q hq)
    have hm:∀ p,p ∈ (l7 n (pt q)).1↔p ∈ n\/p=q:=λ p=>by
      by_cases ht:tT (pt q) p.f
      . rw [(yh hn ho (.inl Z)).2 p ht]
        have hk:p.f=q.f:=by unfold tT at ht; rw [ZK (show (pt q).e<=3 from (by decide:(2:Int)<=3))] at ht; exact ht
        constructor
        . rintro ⟨_,e⟩; exact .inr e
        . rintro (h | h)
          . exact⟨Z,key_inj (l6.1 hM).2 (hnM p h) hq hk⟩
          . exact⟨Z,h⟩
      . rw [AO hn ho ht]
        refine⟨.inl,λ h=>h.elim id λ h=>absurd ?_ ht⟩
        unfold tT
        rw [ZK (show (pt q).e<=3 from (by decide:(2:Int)<=3)),h]; rfl
    obtain⟨a,b⟩:=Cv hM (L:=L) (qx hn ho) (λ p hp=>hL p (.tail _ hp)) λ p hp=>((hm p).1 hp).elim (hnM p) λ h=>by rw [h]; exact hq
    refine⟨a,λ p=>(b p).trans ?_⟩
    rw [hm,List.mem_cons,or_assoc]
def rd (M:List ay) (o:aY):List ay:=(lg ZZ o (StoreT.q (Ll.q M))).1
theorem GU:∀ (q:List ay) (l:List aY),ig q l=l++q.map pt
  | [],l=>by simp [ig]
  | x::q,l=>by unfold ig; rw [GU q]; simp [pt]
theorem GV (p:bK) (o:List aY) (m:aA) (s:StoreT):∀ (q l:List aY),eG p o m s q l=l++(q.flatMap (rd s.a.a)).map pt
  | [],l=>by simp [eG]
  | x::q,l=>by
    unfold eG
    simp only [bG]
    rw [GV p o m s q,GU]
    simp only [List.flatMap_cons,List.map_append,List.append_assoc]
    rfl
theorem FL {M:List ay} (hM:cB M=0) (hl:X M<=4000) {o:aY} (ho:dA o=0):(∀ p ∈ rd M o,p ∈ M)/\((o.e=1\/o.e=4)->∀ p ∈ M,tT o p.f->p ∈ rd M o):=by
  obtain⟨hpk,hs⟩:=l6.1 hM
  unfold rd lg
  by_cases i:o.e=1
  . rw [ZK i]
    unfold pq
    simp only [bG]
    obtain⟨a,e,d,f,_,_⟩:=oq hs o.f
    rcases DF f with ⟨b,c⟩ | ⟨v,b,c⟩
    . rw [c]
      refine⟨λ _ h=>absurd h List.not_mem_nil,λ _ p hp ht=> ?_⟩
      unfold tT at ht
      rw [ZK Y] at ht
      have:=(f.key ht).1 hp
      rw [b] at this; exact absurd this List.not_mem_nil
    . rw [c]
      have hv:ay.q o.f v ∈ M:=(f.key (p:=ay.q o.f v) Z).2 (by rw [b]; exact .head _)
      refine⟨λ p hp=>by rw [List.mem_singleton.1 hp]; exact hv,λ _ p hp ht=> ?_⟩
      unfold tT at ht
      rw [ZK Y] at ht
      have:=(f.key ht).1 hp
      rw [b] at this
      exact this
  . rw [ZV i]
    by_cases g:o.e=4
    . rw [ZK g]
      unfold oN
      simp only [bG]
      have b:=GM M (au.q o.a o.b) 2147483647
      have c:nu M (au.q o.a o.b) 2147483647=M.filter λ p=>j4 (au.q o.a o.b) p.f:=by
        refine Eq.trans b (List.take_of_length_le ?_)
        have:=List.length_filter_le (λ p:ay=>j4 (au.q o.a o.b) p.f) M
        omega
      rw [c]
      refine⟨λ p hp=>(List.mem_filter.1 hp).1,λ _ p hp ht=>List.mem_filter.2 ⟨hp, ?_⟩⟩
      unfold tT at ht
      rw [ZV Y] at ht
      rw [Cm (mO ho (.inl g)) (hpk p hp).1]
      exact ht
    . rw [ZV g]
      exact⟨λ _ h=>absurd h List.not_mem_nil,λ h=>Y⟩
theorem VO.ce {l:List aY} (h:VO l):fF l=0:=yD h
theorem DR {Z9 o:List aY} {s:StoreT} (hM:cB s.a.a=0) (hl:X s.a.a<=4000) (hW:VO Z9) (ho:VO o):cB (run s.a.a Z9).1=0/\ko s.a.a Z9=((run s.a.a Z9).1,(run s.a.a Z9).2,0)/\
    ko (run s.a.a Z9).1 o=((run (run s.a.a Z9).1 o).1,Rz Z9 s o,0):=by
  have a:cB (run s.a.a Z9).1=0:=wS hM hW
  refine⟨a,by rw [<- wT]; exact sV hM hW.ce, ?_⟩
  rw [<- wT,sV a ho.ce]
  have hL:∀ p ∈ o.flatMap (rd s.a.a),p ∈ s.a.a:=λ p hp=>by
    obtain⟨x,hx,hp⟩:=List.mem_flatMap.1 hp
    exact(FL hM hl (ho x hx)).1 p hp
  obtain⟨b,c⟩:=Cv hM (L:=o.flatMap (rd s.a.a)) (n:= []) Z hL (λ _ h=>absurd h List.not_mem_nil)
  have ag:DL (λ k=> ∃ x ∈ o,(x.e=1\/x.e=4)/\tT x k) s.a.a (run [] ((o.flatMap (rd s.a.a)).map pt)).1:=λ p ⟨x,hx,hk,ht⟩=>by
    rw [c]
    constructor
    . intro hp
      exact .inr (List.mem_flatMap.2 ⟨x,hx,(FL hM hl (ho x hx)).2 hk p hp ht⟩)
    . rintro (h | h)
      . exact absurd h List.not_mem_nil
      . exact hL p h
  have d:=DN (wS hM hW) (wS b hW) ho (FK hM b hW ag) λ x hx hk k ht=>⟨x,hx,hk,ht⟩
  have e:Rz Z9 s o=(run (run (run [] ((o.flatMap (rd s.a.a)).map pt)).1 Z9).1 o).2:=by
    unfold Rz jI
    simp only [bG]
    rw [GV,List.nil_append]
    have hp:VO ((o.flatMap (rd s.a.a)).map pt):=λ y hy=>by
      obtain⟨p,hp,rfl⟩:=List.mem_map.1 hy
      exact Cq ((l6.1 hM).1 p (hL p hp))
    rw [sV (m:= []) Z ((hp.app hW).app ho).ce,ZK Z,AP,AP]
    simp only
    refine List.drop_left' ?_
    simp only [List.length_append,AL]
    omega
  rw [e, <- d]
theorem FM:wR=Zk:=by decide+kernel
theorem DT {m m':aA} {x:dK} {s:StoreT} {tb tb':aZ} {d:dL} {e:Int} (h:eF m x s tb=(d,e,m',tb')) (hR:Rs m.b.a m.a.a.a m.a.f.a tb.a.a) (hf:X m.a.f.a<=999):
    Kp m m' tb'/\X d.b.a<=24/\(d.b.a≠ []->x.e=5/\x.D=Zk/\Tx m.b.a m.a.a.a x.f/\Dn m' x.f):=A8 hR hf h
theorem Ba:∀ {l:List aY},qO l=Zk->VO l
  | [],_=>VO.nil
  | x::l,h=>by
    unfold qO kU at h
    rw [bG] at h
    by_cases c:dA x=0
    . rw [ZK c] at h
      have:=Ba (l:=l) h
      exact λ o ho=>(List.mem_cons.1 ho).elim (λ e=>by rw [e]; exact c) (this o)
    . rw [ZV c] at h; cases h
theorem FN {x:dK} (a:kV x=0) (hk:x.e=3):VO x.a.a:=by
  have:=zX Z a hk
  unfold pF at this
  rw [ZV f6,ZK Z] at this
  split at this
  . split at this
    . exact Ba this
    . cases this
  . cases this
structure Rv (ws:List bA) (hs:List df) (fin:List Nat) (rs:List aN) (M:List ay):Prop where q::
  a:Rs ws hs fin rs
  w:VW ws
  h:VH hs
  m:cB M=0
theorem FO {m m':aA} {x:dK} {s:StoreT} {tb tb':aZ} {d:dL} {e:Int} (h:eF m x s tb=(d,e,m',tb')) (hR:Rv m.b.a m.a.a.a m.a.f.a tb.a.a s.a.a) (hf:X m.a.f.a<=999):
    VW m'.b.a/\VH m'.a.a.a/\VO d.b.a/\Oa d.b.a s m'.b.a m'.a.a.a d.a.a:=by
  have vm:VM s.a.a:=(l6.1 hR.m).1
  have nil:∀ Z9 ws hs,Oa Z9 s ws hs []:=λ Z9 ws hs v hv=>absurd hv v6
  unfold eF at h
  by_cases i:x.e=5
  . rw [ZK i,bG] at h
    by_cases a:kV x=0
    . rw [ZK a] at h
      by_cases b:x.C=m.a.l
      . rw [ZK b] at h
        simp only [bG] at h
        generalize hdc:iB _ _ _ _ _=v at h
        obtain⟨l,n,p,g⟩:=v
        obtain⟨r,k2,t⟩:=FE hdc hR.a Z Z ⟨hR.w,hR.h,vm,VO.nil⟩
        have f:=FI hdc hR.a Z Z ⟨hR.w,hR.h,vm,VO.nil⟩
        rw [ZK r] at h
        split at h
        . obtain⟨rfl,rfl,rfl,rfl⟩:=fO h; exact⟨k2.w,k2.h,k2.o,f⟩
        . obtain⟨rfl,rfl,rfl,rfl⟩:=fO h; exact⟨k2.w,k2.h,k2.o,f⟩
      . rw [if_neg b] at h; obtain⟨rfl,rfl,rfl,rfl⟩:=fO h; exact⟨hR.w,hR.h,VO.nil,nil _ _ _⟩
    . rw [if_neg a] at h; obtain⟨rfl,rfl,rfl,rfl⟩:=fO h; exact⟨hR.w,hR.h,VO.nil,nil _ _ _⟩
  . rw [ZV i] at h
    by_cases c:x.e=3
    . rw [ZK c,bG] at h
      by_cases a:kV x=0
      . rw [ZK a] at h
        by_cases b:x.C=m.a.l
        . rw [ZK b] at h
          simp only [bG] at h
          generalize hdc:jK _ _ _ _ _=v at h
          obtain⟨l,n,p,g⟩:=v
          have ho:X x.a.a<=24:=by
            rcases yC (x:=x) Z with q | q | q
            . exact absurd a q
            . exact absurd c q
            . exact q
          obtain⟨j,k⟩:=H8 hdc hR.a hf ho Z (FN a c) ⟨hR.w,hR.h,vm,VO.nil⟩
          have f:=Ib hdc hR.a hf ho Z Z (FN a c) ⟨hR.w,hR.h,vm,VO.nil⟩
          split at h
          . obtain⟨rfl,rfl,rfl,rfl⟩:=fO h; exact⟨j,k,VO.nil,f⟩
          . obtain⟨rfl,rfl,rfl,rfl⟩:=fO h; exact⟨j,k,VO.nil,nil _ _ _⟩
        . rw [if_neg b] at h; obtain⟨rfl,rfl,rfl,rfl⟩:=fO h; exact⟨hR.w,hR.h,VO.nil,nil _ _ _⟩
      . rw [if_neg a] at h; obtain⟨rfl,rfl,rfl,rfl⟩:=fO h; exact⟨hR.w,hR.h,VO.nil,nil _ _ _⟩
    . rw [if_neg c] at h; obtain⟨rfl,rfl,rfl,rfl⟩:=fO h; exact⟨hR.w,hR.h,VO.nil,nil _ _ _⟩
theorem DU {m m':aA} {x:dK} {s:StoreT} {tb tb':aZ} {d:dL} {e:Int} {M':List ay} {r:List bZ} {f:Int} (h:eF m x s tb=(d,e,m',tb')) (ha:ko s.a.a d.b.a=(M',r,f)) (hR:Rv m.b.a m.a.a.a m.a.f.a tb.a.a s.a.a) (hf:X m.a.f.a<=999) (hl:X s.a.a<=4000):
    Rv m'.b.a m'.a.a.a m'.a.f.a tb'.a.a M'/\∀ v ∈ d.a.a,v.e=4->v.y=3->∀ z ∈ m'.a.a.a,z.f=v.f->∃ y,ko M' z.a.a=(y,v.l.a,0)/\X v.l.a<=24:=by
  obtain⟨l,a,c,n⟩:=FO h hR hf
  obtain⟨k,_,_⟩:=DT h hR.a hf
  have vo:VO ([]:List aY):=VO.nil
  obtain⟨g,o,_⟩:=DR hR.m hl c vo
  rw [o] at ha
  have p:(run s.a.a d.b.a).1=M':=ZJ Prod.fst ha
  subst p
  refine⟨⟨k.a,l,a,g⟩,λ v hv t u z hz ht=> ?_⟩
  have i:=(n v hv t u).2 z hz ht
  obtain⟨_,_,j⟩:=DR hR.m hl c (a z hz)
  refine⟨_,by rw [j,i], ?_⟩
  have b:=ZJ (λ q:List ay × List bZ × Int=>X q.2.1) j
  rw [<- wT,sV g (a z hz).ce] at b
  simp only [AL] at b
  rw [i, <- b]
  exact k.a.tk.b z hz
theorem uQ {p r:bD} {l:List ay} {e:Int} (h:iQ p=r) (hc:lU l=e) (he:e=0) (a:p.a.a= []:=by rfl) (b:p.f.a= []:=by rfl):Rv [] r.a.a r.f.a [] l:=
  ⟨fA h a b,λ _ h=>absurd h v6,by
    have c:p=r:=h
    subst c
    rw [a]; exact λ _ h=>absurd h v6,by rw [Ea,hc,he]⟩
theorem I1 {m:aA} {r:bD} {ws:List bA} {fin:List Nat} {rs:List aN} {i:Nat} {x:df} (h:jO m=r) (hx:r.a.a[i]? =Zw x) (hR:Rs ws m.a.a.a fin rs):X x.a.a<=24:=by
  have e:m.a=r:=h
  subst e
  exact hR.tk.hld hx
theorem I4 {m:aA} {r:bD} {i:Nat} {x:df} (h:jO m=r) (hx:r.a.a[i]? =Zw x):x ∈ m.a.a.a:=by
  have e:m.a=r:=h
  subst e
  exact List.mem_of_getElem? hx
open IntKind renaming i64->B7,u64->I0
open List renaming flatMap->q0,length_map->q7,length_nil->L3,map->r7,mem_flatMap->P8,mem_of_getElem?->E1
open Sum renaming inl->y3
open _root_.Go.Proofs.Tryz renaming isAgg3->B5,isAgg32->E3,isAgg41->F0,prog->v1,sizeOf41->F1,sizeOf47->J0
open WL renaming nil->B8
open Wp renaming exit->B9
section
open Go.RowKit
theorem JB:Elem v1 22 49 22 240:=nz (z:= Zx #[.int .i64 0, .int .i64 0, .int .i64 0, .int .i64 0, .int .i64 0, .int .i64 0, .int .u64 0, .int .u64 0, .int .u64 0, .int .u64 0, .int .u64 0, .int .u64 0, .int .u64 0, .int .u64 0, .int .u64 0, V J, Zz ⟨Zc []⟩, Zz ⟨Zc []⟩, W Zv 0 0, W Zv 0 0, W Zv 0 0, V J]) Tryz.underlying22 f1 Z f6
structure jk where q::
 a:bU
 Aa:Bool
def jk.J (x:jk):List ZX:= [.int .i64 x.a.e, .int .i64 x.a.G, .int .i64 x.a.C, .int .i64 x.a.I, .int .i64 x.a.y, .int .i64 x.a.F, .int .u64 ((x.a.z:Nat):Int), .int .u64 ((x.a.r:Nat):Int), .int .u64 ((x.a.f:Nat):Int), .int .u64 ((x.a.k:Nat):Int), .int .u64 ((x.a.t:Nat):Int), .int .u64 ((x.a.s:Nat):Int), .int .u64 ((x.a.g:Nat):Int), .int .u64 ((x.a.u:Nat):Int), .int .u64 ((x.a.E:Nat):Int), V x.a.D, Zz ⟨Zc x.a.j.a⟩, Zz ⟨Zc x.a.j.b⟩, W x.a.a.A (X x.a.a.a) x.a.a.c, W x.a.l.A (X x.a.l.a) x.a.l.c, W x.a.b.A (X x.a.b.a) x.a.b.c, V x.Aa]
instance:Bk jk:=⟨λ x _=>bk x.a+(bk x.Aa+(0))⟩
theorem jk.len:∀ x,X (jk.J x)=22:=λ _=>rfl
theorem jk.one:∀ x, ∀ u ∈ jk.J x,u.oneCell'=Zk:=λ x u hu=>by
 simp only [jk.J,List.mem_cons,v6,or_false] at hu
 rcases hu with rfl | rfl | rfl | rfl | rfl | rfl | rfl | rfl | rfl | rfl | rfl | rfl | rfl | rfl | rfl | rfl | rfl | rfl | rfl | rfl | rfl | rfl <;> rfl
def Lf (w:ZQ) (x:jk):Prop:=(LB w x.a)/\(True)
theorem CS (w:ZQ):lh v1 w 49 22 jk.J (Lf w):=
 (nC (sz:=22) Tryz.underlying49 f1 (fU.cons (i:=0) (off:=0) (s:=21) Z Z (DZ w) (fU.cons (i:=1) (off:=21) (s:=1) Z Z (wC Tryz.underlying4 f1) fU.nil))).map (λ p=>⟨p.1,p.2.1⟩) jk.len (λ _=>rfl) (λ _ h=>⟨h.1,h.2.1⟩) λ _=>Nat.le_refl _
instance:Inhabited jk:=⟨⟨ZZ,ZZ⟩⟩
structure StepT where q::
 a:dK
 Aa:Bool
instance:Inhabited StepT:=⟨⟨ZZ,ZZ⟩⟩
def jk.abs (x:jk):StepT:=⟨x.a.abs,x.Aa⟩
def M3 (x:jk):List HP:= [row x.a.a.A (X x.a.a.a) x.a.a.c (q0 aY.J x.a.a.a) 68 6,row x.a.l.A (X x.a.l.a) x.a.l.c (q0 aR.J x.a.l.a) 70 3,row x.a.b.A (X x.a.b.a) x.a.b.c (q0 bO.J x.a.b.a) 83 2,sepL (q0 Kc x.a.l.a)]
abbrev Jf (s:Int) (t:Int) (u:Int) (v:Int) (w:Int) (x:Int) (y:Nat) (z:Nat) (A:Nat) (B:Nat) (g:Nat) (h:Nat) (i:Nat) (j:Nat) (k:Nat) (l:Bool) (m:List UInt8) (n:List UInt8) (o:Option Addr) (a b:Nat) (p:Option Addr) (c d:Nat) (q:Option Addr) (e f:Nat) (r:Bool):List ZX:= [.int .i64 s, .int .i64 t, .int .i64 u, .int .i64 v, .int .i64 w, .int .i64 x, .int .u64 ((y:Nat):Int), .int .u64 ((z:Nat):Int), .int .u64 ((A:Nat):Int), .int .u64 ((B:Nat):Int), .int .u64 ((g:Nat):Int), .int .u64 ((h:Nat):Int), .int .u64 ((i:Nat):Int), .int .u64 ((j:Nat):Int), .int .u64 ((k:Nat):Int), V l, Zz ⟨Zc m⟩, Zz ⟨Zc n⟩, W o a b, W p c d, W q e f, V r]
def ik (b:List ay) (a:dK):List df->Unit ⊕ Bool
  | []=>y3 ()
  | d::e=>if((d.f:Nat):Int)=((a.f:Nat):Int) then bnd (ko b d.a.a) λ c=>if c.2.2=0 then bnd (nT c.2.1 a.l.a) λ f=>if f=Zk then ik b a e else Sum.inr (J) else Sum.inr (J) else ik b a e
def iY (d:aA) (e:aZ) (b:List ay) (c:bD):List dK->Unit ⊕ Bool
  | []=>y3 ()
  | a::f=>xu (if a.e=4 then if a.y=3 then xu (ik b a c.a.a) λ _=>y3 () else y3 () else y3 ()) λ _=>iY d e b c f
def iC (m:Bool) (c:bD):List StepT->List df->List Nat->Nat->List bA->List aN->List ay->Unit ⊕ Bool
  | [],e,f,g,h,i,d=>y3 ()
  | a::l,e,f,g,h,i,d=>xu (bnd (if a.a.e=3 then J else Zy (¬ (a.a.e=5))) λ sJrbbtffbtbLsJjJ=>if sJrbbtffbtbLsJjJ=Zk then y3 (e,f,g,h,i,d) else bnd (eF (aA.q (bD.q c.l (U (I0.wrap (((c.r:Nat):Int)+1))) c.t c.s c.g (O c.b.a) (O e) (O f) g c.u c.j c.e) (O h)) (dK.q a.a.e a.a.G a.a.C a.a.I a.a.y a.a.F a.a.z a.a.r a.a.f a.a.k a.a.t a.a.s a.a.g a.a.u a.a.E a.a.D a.a.j (O a.a.a.a) (O a.a.l.a) (O a.a.b.a)) (StoreT.q (O d)) (aZ.q (O i))) λ b=>bnd (ko d b.1.b.a) λ j=>bnd (jO (aA.q (bD.q c.l (U (I0.wrap (((c.r:Nat):Int)+1))) c.t c.s c.g (O c.b.a) (O b.2.2.1.a.a.a) (O b.2.2.1.a.f.a) b.2.2.1.a.k c.u c.j c.e) (O b.2.2.1.b.a))) λ k=>xu (iY b.2.2.1 b.2.2.2 j.1 k b.1.a.a) λ _=>y3 (b.2.2.1.a.a.a,b.2.2.1.a.f.a,b.2.2.1.a.k,b.2.2.1.b.a,b.2.2.2.a.a,j.1)) λ sJrbbtffbtbLsJ=>iC m c l sJrbbtffbtbLsJ.1 sJrbbtffbtbLsJ.2.1 sJrbbtffbtbLsJ.2.2.1 sJrbbtffbtbLsJ.2.2.2.1 sJrbbtffbtbLsJ.2.2.2.2.1 sJrbbtffbtbLsJ.2.2.2.2.2
def uh (e:List ay) (l1:List StepT):Bool:=
 bnd (wR) λ a=>bnd (lU e) λ c=>if c=0 then if((X e:Nat):Int) > 60 then a else if((X l1:Nat):Int) > 60 then a else bnd (lW (bD.q 1 0 0 1 0 (O ([(bO.q [] 1),(bO.q ([109]) 2)])) (O []) (O []) 0 0 (au.q [] []) (jd.q 0 0 0 (au.q [] [])))) λ d=>if d=0 then bnd (iQ (bD.q 1 0 0 1 0 (O ([(bO.q [] 1),(bO.q ([109]) 2)])) (O []) (O []) 0 0 (au.q [] []) (jd.q 0 0 0 (au.q [] [])))) λ b=>lp (iC a b l1 b.a.a b.f.a b.k [] [] e) λ _=>a else J else a
set_option maxHeartbeats 4000000 in
theorem zh (w D A0 n0 c0 l0 A1 n1 c1 d1 l1 r0) (H:Own w D w []) (ky:Ro w D λ w'=>bP w' 2 A0 n0 (q0 ay.J l0)) (nA:n0=X l0) (rH:X l0 *32<=211106232532992) (kz:r7 jk.abs d1=l1) (jh:Ro w D λ w'=>bP w' 22 A1 n1 (q0 jk.J d1)) (eX:∀ x ∈ d1,Ro w D (λ w'=>bP w' 6 x.a.a.A (X x.a.a.a) (q0 aY.J x.a.a.a))/\(X x.a.a.a<=x.a.a.c/\X x.a.a.a<=9223372036854775807)/\Ro w D (λ w'=>bP w' 3 x.a.l.A (X x.a.l.a) (q0 aR.J x.a.l.a))/\(X x.a.l.a<=x.a.l.c/\X x.a.l.a<=9223372036854775807)/\(∀ y1 ∈ x.a.l.a,Ro w D (λ w'=>bP w' 2 y1.a.A (X y1.a.a) (q0 ay.J y1.a.a))/\(X y1.a.a<=y1.a.c/\X y1.a.a<=9223372036854775807))/\Ro w D (λ w'=>bP w' 2 x.a.b.A (X x.a.b.a) (q0 bO.J x.a.b.a))/\(X x.a.b.a<=x.a.b.c/\X x.a.b.a<=9223372036854775807)) (nC:n1=X l1) (rJ:X l1 *240<=211106232532992) (rM:X l0 *32<=140737488351232) (rO:X l1 *240<=140737488351232) (nD:∀ x ∈ l1,x.a.f<=18446744073709551615/\X x.a.a.a<=140737488351232/\X x.a.l.a<=140737488351232/\X x.a.b.a<=140737488351232) (hr:uh l0 l1=r0):
    Calls v1 5 #[W A0 n0 c0, W A1 n1 c1] w (dM λ v w'=>v= V r0/\Own w D w' []):=by
 unfold uh at hr
 subst nA nC
 have qh:=bg kz
 refine cb Tryz.func5 ?_
 refine sr (Ar Z ?_)
 obtain⟨M,bn⟩:∃ q,wR=q:=⟨_,Z⟩
 obtain⟨rP,kC,qi,kD,qj⟩:=JJ H
 refine cl Tryz.call6 (CR _ _ M kC bn) ?_
 rintro _ rQ ⟨rfl,kE⟩
 have nE:=kD _ _ kE
 refine An Z (JG (sr (Mz Z ?_)))
 obtain⟨iG,bq⟩:∃ q,lU l0=q:=⟨_,Z⟩
 obtain⟨rT,kF,kG,kI,qm⟩:=JJ nE
 refine cl Tryz.call14 (uW _ _ A0 (X l0) c0 l0 iG kF (kG _ ky) Z Y bq) ?_
 rintro _ nG ⟨rfl,kJ⟩
 have iH:=kI _ _ kJ
 refine fw (Zb (¬ (iG=0))) (JZ (e:= !(Zy (iG=0))) yk ZY) (Mz Z ?_)
 by_cases aC:iG=0
 refine gw (W A0 (X l0) c0) (dF (Nc aC)) (JM Z) (gw (vJ (X l0)) (dF (Nc aC)) yk (gw (Zb ((X l0:Int) > 60)) (dF (Nc aC)) yk (fw (Zb ((X l0:Int) > 60)) (JH Z (dF (Nc aC)) Z) (Mz Z ?_))))
 by_cases aD:(X l0:Int) > 60
 refine T (dT aD) (T (dT aD) (T (dT aD) (fw (V Zk) (JL Z (dT aD) Z) (nt (jt (sr (Mz Z (An Z (rt (tR (rs ?_)))))))))))
 have nH:=iH.pk []
 obtain rfl:=zj hr zq4
 exact⟨Z,nH⟩
 refine gw (W A1 (X l1) c1) (dF aD) (JM Z) (Gz (vJ (X l1)) (dF aD) (Gz (Zb ((X l1:Int) > 60)) (dF aD) (fw (Zb ((X l1:Int) > 60)) (JH Z (dF aD) Z) (nt ?_))))
 by_cases fC:(X l1:Int) > 60
 refine jT (dT fC) (sr (Mz Z (An Z (rt (tR (rs ?_))))))
 have nI:=iH.pk []
 obtain rfl:=zj hr zq5
 exact⟨Z,nI⟩
 refine jF (dF fC) (sk (sr (Mz Z ?_)))
 have kK:Own w D nG [row Zv 0 0 (q0 ay.J []) 101 2]:=iH.free (cK 101 2)
 refine WL.do Z (J7 (k:=0) (m:=X l0) (iW) kK Z Z (fq Tryz.underlying25 (kK.ro ky) (di ay.one l0)) Z Y (s:=X l0) Y Z ?_)
 intro ji jl rU nJ
 refine Kz (Zx #[W ji (X l0) jl]) ?_
 refine cu [W ji (X l0) jl] 27 nJ ?_
 intro u rV nK
 refine Ar Z ?_
 refine WL.do Z (J6 Tryz.call8 Z ?_ (λ _ _ k=>k))
 refine cb Tryz.func8 ?_
 refine sr ?_
 refine cu (gX 0 0 0 0 0 Zv 0 0 Zv 0 0 Zv 0 0 0 0 [] [] 0 0 0 [] []) 41 nK ?_
 intro rW rX nL
 refine ns (Kz (Zx #[Zz ⟨Zc []⟩,vI 1]) (Kz (Zx #[Zz ⟨Zc ([109])⟩,vI 2]) ?_))
 refine jW [Zz ⟨Zc []⟩,vI 1, Zz ⟨Zc ([109])⟩,vI 2] 83 2 2 nL ?_
 intro dX rY jm
 replace jm:=Ke (y:=row dX 2 2 (q0 bO.J ([(bO.q [] 1),(bO.q ([109]) 2)])) 83 2) Z jm
 refine Kz (Zx (Zc (gX 1 0 0 1 0 dX 2 2 Zv 0 0 Zv 0 0 0 0 [] [] 0 0 0 [] []))) ?_
 have nM:=jm.pf [1]
 refine cO (gX 1 0 0 1 0 dX 2 2 Zv 0 0 Zv 0 0 0 0 [] [] 0 0 0 [] []) 0 nM F1 ?_
 intro rZ kL
 refine nt (rt (JY (pV Z Z (JW (cs:=(gX 1 0 0 1 0 dX 2 2 Zv 0 0 Zv 0 0 0 0 [] [] 0 0 0 [] [])) F0 F1 ((kL.cls (i:=0) Z).lit (k:=0) (m:=17) Z))) (Mz Z (Kz (.iface 24 (vP u 0)) ?_))))
 refine WL.do Z (J6 Tryz.call7 Z ?_ (λ _ _ k=>k))
 refine cb Tryz.func7 ?_
 refine JG ?_
 have nN:=kL.pk [1,2,3]
 refine JI ?_
 refine cu (gX 1 0 0 1 0 dX 2 2 Zv 0 0 Zv 0 0 0 0 [] [] 0 0 0 [] []) 41 nN ?_
 intro nO r9 kM
 refine Az Z (An Z (JG (sr (La (gX 1 0 0 1 0 dX 2 2 Zv 0 0 Zv 0 0 0 0 [] [] 0 0 0 [] []) kM 0 F0 F1 ?_))))
 obtain⟨iI,eY⟩:∃ q,lW (bD.q 1 0 0 1 0 (O ([(bO.q [] 1),(bO.q ([109]) 2)])) (O []) (O []) 0 0 (au.q [] []) (jd.q 0 0 0 (au.q [] [])))=q:=⟨_,Z⟩
 obtain⟨si,kN,qo,kP,kQ⟩:=JJ kM
 refine cl Tryz.call17 (rR _ _ (bD.q 1 0 0 1 0 (O ([(bO.q [] 1),(bO.q ([109]) 2)])) (O []) (O []) 0 0 (au.q [] []) (jd.q 0 0 0 (au.q [] []))) dX 2 2 Zv 0 0 [] Zv 0 0 iI kN Z (kQ _ 1 _ Z bQ) f9 Z Z (λ _ _=>bP.nil _ _ _) f9 (λ _ h9=>absurd h9 v6) Z (λ _ _=>bP.nil _ _ _) f9 g6 eY) ?_
 rintro _ sj ⟨rfl,kR⟩
 have jo:=kP _ _ kR
 refine fw (Zb (¬ (iI=0))) (JZ (e:= !(Zy (iI=0))) yk ZY) (Mz Z ?_)
 by_cases dR:iI=0
 refine gw (.iface 24 (vP u 0)) (dF (Nc dR)) (JM Z) (gw (V J) (dF (Nc dR)) yk (fw (V J) (JH Z (dF (Nc dR)) Z) (nt (jf (sk (sr (La (gX 1 0 0 1 0 dX 2 2 Zv 0 0 Zv 0 0 0 0 [] [] 0 0 0 [] []) jo 0 F0 F1 ?_)))))))
 obtain⟨a,bS⟩:∃ q,iQ (bD.q 1 0 0 1 0 (O ([(bO.q [] 1),(bO.q ([109]) 2)])) (O []) (O []) 0 0 (au.q [] []) (jd.q 0 0 0 (au.q [] [])))=q:=⟨_,Z⟩
 obtain⟨su,kT,qx,kU,kV⟩:=JJ jo
 refine cl Tryz.call18 (mG _ _ (bD.q 1 0 0 1 0 (O ([(bO.q [] 1),(bO.q ([109]) 2)])) (O []) (O []) 0 0 (au.q [] []) (jd.q 0 0 0 (au.q [] []))) dX 2 2 Zv 0 0 [] Zv 0 0 a kT Z (kV _ 1 _ Z bQ) f9 Z Z (λ _ _=>bP.nil _ _ _) f9 (λ _ h9=>absurd h9 v6) Z (λ _ _=>bP.nil _ _ _) f9 g6 (by first | assumption | exact λ _ h9=>absurd h9 v6 | exact Tk.hops f8) bS) ?_
 rintro _ sw ⟨aj,aa,jq,jr,jv,jw,kW,rfl,kX,iM⟩
 have iK:=kU _ _ kX
 have qy:=bg iM
 have qz:=zr 0 iK
 have qA:=zr 1 iK
 have qB:=zr 3 iK
 have nP:X a.b.a=2:=ZJ (λ q=>X q.b.a) bS.symm
 have nQ:X a.a.a=0:=ZJ (λ q=>X q.a.a) bS.symm
 have nR:X a.f.a=0:=ZJ (λ q=>X q.f.a) bS.symm
 refine Mz Z ?_
 refine WL.do Z (J6 Tryz.call19 Z ?_ (λ _ _ k=>k))
 refine cb Tryz.func19 ?_
 refine sr (Ar Z (Kz (Zx #[W Zv 0 0]) ?_))
 refine cu [W Zv 0 0] 114 iK ?_
 intro Q qC kY
 refine An Z (rt (rs (Kz (Zx #[vI a.l,vU a.r,vU a.t,vU a.s,vU a.g, W aj (X a.b.a) aa, W jq (X a.a.a) jr, W jv (X a.f.a) jw,vU a.k,vU a.u, Zz ⟨Zc a.j.a⟩, Zz ⟨Zc a.j.b⟩,vU a.e.g,vU a.e.u,vU a.e.a, Zz ⟨Zc a.e.j.a⟩, Zz ⟨Zc a.e.j.b⟩, .iface 24 (vP u 0), W Zv 0 0,vP Q 0, Zq Zv]) ?_)))
 refine cu [vI a.l,vU a.r,vU a.t,vU a.s,vU a.g, W aj (X a.b.a) aa, W jq (X a.a.a) jr, W jv (X a.f.a) jw,vU a.k,vU a.u, Zz ⟨Zc a.j.a⟩, Zz ⟨Zc a.j.b⟩,vU a.e.g,vU a.e.u,vU a.e.a, Zz ⟨Zc a.e.j.a⟩, Zz ⟨Zc a.e.j.b⟩, .iface 24 (vP u 0), W Zv 0 0,vP Q 0, Zq Zv] 80 kY ?_
 intro p qD iO
 refine Ar Z (Mz Z (Kz (vP p 0) (Kz (vP p 0) (Kz (vP p 1) (Lz (vU a.r) iO 0 E3 (fw (.int .u64 ((U (I0.wrap ((a.r:Int)+1)):Nat):Int)) (JN (e:=I0.wrap ((a.r:Int)+1)) yk (lF _)) (Kz (vP p 0) (Kz (vP p 0) (Kz (vP p 1) ?_)))))))))
 refine cO [.int .u64 ((U (I0.wrap ((a.r:Int)+1)):Nat):Int)] 1 iO Tryz.sizeOf32 ?_
 intro fU iP
 refine nt (JG (sr (Kz (vP nO 6) (Lz (W Zv 0 0) iP 6 Tryz.isAgg34 (Kz (vI 0) (Mn Z (bo (Lj 200 (JG ?_)))))))))
 have kZ:=iP.px [] [6] []
 refine JI (Kz (V J) (nt (JG (jf (B9 (JV (JV (J2 (JK (sr (Mz Z (Az Z (An Z (rt (JY (kS Z Z Z) (Mz Z (Kz (vP p 0) (Kz (vI 0) (Az Z (An Z (JG (JG ?_))))))))))))))))))))))
 have lc:=kZ.px [] [6] []
 refine JI (Mz Z (Kz (V J) (Mz Z (gw (vI 0) Z (JM Z) (Gz (V J) Z (fw (V J) (JH Z Z Z) (nt (jf (sk (JG (sr (Mz Z (Kz (vJ (X l1)) (Mn Z (bo ?_)))))))))))))))
 have lg:Own w D fU (sepL (q0 J5 [])::_):=lc.sepNil
 have lh:Own w D fU (row Zv 0 0 (q0 aW.J []) 99 4::_):=lg.free (cK 99 4)
 have ll:Own w D fU (sepL (q0 J4 [])::_):=lh.sepNil
 have lm:Own w D fU (row Zv 0 0 (q0 aB.J []) 164 6::_):=ll.free (cK 164 6)
 have lq:=lm.pb [7,8,9,2,3,0,1,11]
 obtain⟨lu,fD⟩:=Iq λ (l:Nat) bV (bW:Nat) bu C bX (bY:Nat) t (Z8:Nat) cz (cB:Nat) bv E cZ (dh:Nat) bz G bB (aF:Nat) r w'=>Own w D w' [blk p [vI a.l, .int .u64 ((U (I0.wrap ((a.r:Int)+1)):Nat):Int),vU a.t,vU a.s,vU a.g, W aj (X a.b.a) aa, W bV (X C) bW, W bX (X t) bY,vU Z8,vU a.u, Zz ⟨Zc a.j.a⟩, Zz ⟨Zc a.j.b⟩,vU a.e.g,vU a.e.u,vU a.e.a, Zz ⟨Zc a.e.j.a⟩, Zz ⟨Zc a.e.j.b⟩, .iface 24 (vP u 0), W cz (X E) cB,vP Q 0, Zq Zv] 80,blk Q [W cZ (X G) dh] 114,row aj (X a.b.a) aa (q0 bO.J a.b.a) 83 2,blk u [W bB (X r) aF] 27,row bV (X C) bW (q0 bf.J bu) 60 2,sepL (q0 J9 bu),row bX (X t) bY (q0 (eN .u64) t) 32 1,row cz (X E) cB (q0 aW.J bv) 99 4,sepL (q0 J5 bv),row cZ (X G) dh (q0 aB.J bz) 164 6,sepL (q0 J4 bz),row bB (X r) aF (q0 ay.J r) 101 2]/\r7 bf.abs bu=C/\r7 aW.abs bv=E/\r7 aB.abs bz=G/\l<=X l1/\X t<=X a.f.a+l/\Rs E C t G/\Rv E C t G r/\X E+X C<=6/\(X t<=l/\X r<=60+24 *l)/\iC M a l1 a.a.a a.f.a a.k [] [] l0=iC M a (r6 l l1) C t Z8 E G r
 refine Wp.loop (λ i:Nat × (Option Addr) × Nat × (List bf) × (List df) × (Option Addr) × Nat × (List Nat) × Nat × (Option Addr) × Nat × (List aW) × (List bA) × (Option Addr) × Nat × (List aB) × (List aN) × (Option Addr) × Nat × (List ay)=> [(4, V J),(55,vJ i.1),(54,vJ (X l1)),(53, W A1 (X l1) c1),(7,vP p 0),(6,vP u 0),(5, V M)]) lu (λ i=>X l1 - i.1) (0,jq,jr,kW,a.a.a,jv,jw,a.f.a,a.k,Zv,0, [], [],Zv,0, [], [],ji,jl,l0) ⟨Z,Z,Z,Z,Z,Z,Z,ZW⟩ (fD.2 ⟨lq,(show r7 bf.abs kW=a.a.a/\r7 aW.abs []=[]/\r7 aB.abs []=[]/\0<=X l1/\X a.f.a<=X a.f.a/\Rs [] a.a.a a.f.a []/\Rv [] a.a.a a.f.a [] l0/\0+X a.a.a<=6/\(X a.f.a<=0/\X l0<=60+24 *0)/\iC M a l1 a.a.a a.f.a a.k [] [] l0=iC M a (r6 0 l1) a.a.a a.f.a a.k [] [] l0 from ⟨by exact iM,by exact Z,by exact Z,Y,Y,by first | assumption | exact fA f8,by first | assumption | exact uQ f8 f8 f8,by first | omega | exact(Rs.tk f8).n | exact(fA f8).tk.n,by first | omega | (dsimp only; omega) | (simp only [L3]; omega),Z⟩)⟩) ?_
 rintro ⟨l,bV,bW,bu,C,bX,bY,t,Z8,cz,cB,bv,E,cZ,dh,bz,G,bB,aF,r⟩ qE jy
 show Wp _ _ _ [(4, V J),(55,vJ l),(54,vJ (X l1)),(53, W A1 (X l1) c1),(7,vP p 0),(6,vP u 0),(5, V M)] _ _
 obtain⟨eZ,fE,fF,fG,nS,nU,nV,nW,nX,nY,dZ⟩:=fD.1 jy
 have nZ:=bg fE
 have og:=bg fF
 have oh:=bg fG
 refine sr (Kz (Zb ((l:Int) < (X l1:Int))) (nt (JG ?_)))
 by_cases iR:(l:Int) < (X l1:Int)
 obtain⟨b,Z3⟩:=dJ (ls:=d1) (i:=l) jk.len f6 (eZ.ro jh) f4
 have gu:=gq kz Z3
 have ol:=(eX _ (E1 Z3)).2.1
 have om:=(eX _ (E1 Z3)).2.2.2.1
 have oo:X (r7 aR.abs b.a.l.a)=X b.a.l.a:=q7 ..
 have oq:=(eX _ (E1 Z3)).2.2.2.2.2.2
 have ou:b.a.f<=18446744073709551615/\X b.a.a.a<=140737488351232/\X b.a.l.a<=140737488351232/\X b.a.b.a<=140737488351232:=by have q:=nD _ (E1 gu); exact⟨q.1,q.2.1,Nat.le_trans (Nat.le_of_eq (q7 ..).symm) q.2.2.1,q.2.2.2⟩
 have fH:=drop_at gu
 refine jT (dT iR) (sk (JG ?_))
 obtain⟨lv,fI⟩:=Jr λ aG (aH:Nat) af I aI (aJ:Nat) z (aK:Nat) aL (aM:Nat) ag Z7 aO (aP:Nat) ah Z5 aQ (aS:Nat) Z6 w'=>Own w D w' [blk p [vI a.l, .int .u64 ((U (I0.wrap ((a.r:Int)+1)):Nat):Int),vU a.t,vU a.s,vU a.g, W aj (X a.b.a) aa, W aG (X I) aH, W aI (X z) aJ,vU aK,vU a.u, Zz ⟨Zc a.j.a⟩, Zz ⟨Zc a.j.b⟩,vU a.e.g,vU a.e.u,vU a.e.a, Zz ⟨Zc a.e.j.a⟩, Zz ⟨Zc a.e.j.b⟩, .iface 24 (vP u 0), W aL (X Z7) aM,vP Q 0, Zq Zv] 80,blk Q [W aO (X Z5) aP] 114,blk u [W aQ (X Z6) aS] 27,row aj (X a.b.a) aa (q0 bO.J a.b.a) 83 2,row aG (X I) aH (q0 bf.J af) 60 2,sepL (q0 J9 af),row aI (X z) aJ (q0 (eN .u64) z) 32 1,row aL (X Z7) aM (q0 aW.J ag) 99 4,sepL (q0 J5 ag),row aO (X Z5) aP (q0 aB.J ah) 164 6,sepL (q0 J4 ah),row aQ (X Z6) aS (q0 ay.J Z6) 101 2]/\r7 bf.abs af=I/\r7 aW.abs ag=Z7/\r7 aB.abs ah=Z5/\X z<=X t+1/\Rs Z7 I z Z5/\Rv Z7 I z Z5 Z6/\X Z7+X I<=6/\(X z<=l+1/\X Z6<=60+24 *(l+1))/\(bnd (if b.a.e=3 then J else Zy (¬ (b.a.e=5))) λ sJrbbtffbtbLsJjJ=>if sJrbbtffbtbLsJjJ=Zk then y3 (C,t,Z8,E,G,r) else bnd (eF (aA.q (bD.q a.l (U (I0.wrap ((a.r:Int)+1))) a.t a.s a.g (O a.b.a) (O C) (O t) Z8 a.u a.j a.e) (O E)) (dK.q b.a.e b.a.G b.a.C b.a.I b.a.y b.a.F b.a.z b.a.r b.a.f b.a.k b.a.t b.a.s b.a.g b.a.u b.a.E b.a.D b.a.j (O b.a.a.a) (O (r7 aR.abs b.a.l.a)) (O b.a.b.a)) (StoreT.q (O r)) (aZ.q (O G))) λ L=>bnd (ko r L.1.b.a) λ gy=>bnd (jO (aA.q (bD.q a.l (U (I0.wrap ((a.r:Int)+1))) a.t a.s a.g (O a.b.a) (O L.2.2.1.a.a.a) (O L.2.2.1.a.f.a) L.2.2.1.a.k a.u a.j a.e) (O L.2.2.1.b.a))) λ jA=>xu (iY L.2.2.1 L.2.2.2 gy.1 jA L.1.a.a) λ _=>y3 (L.2.2.1.a.a.a,L.2.2.1.a.f.a,L.2.2.1.a.k,L.2.2.1.b.a,L.2.2.2.a.a,gy.1))=y3 (I,z,aK,Z7,Z5,Z6)
 refine KL (λ i:(Option Addr) × Nat × (List bf) × (List df) × (Option Addr) × Nat × (List Nat) × Nat × (Option Addr) × Nat × (List aW) × (List bA) × (Option Addr) × Nat × (List aB) × (List aN) × (Option Addr) × Nat × (List ay)=> [(4, V J),(55,vJ l),(54,vJ (X l1)),(53, W A1 (X l1) c1),(7,vP p 0),(6,vP u 0),(5, V M)]) lv ?_ ?_
 refine bo (sr (fw (Zq (Zw ⟨ab A1,ao A1+l *22,Zv⟩)) (JU (JB) Z Z ((eZ.ro jh).addr (i:=l) Y) Y) (fw (Zx (Zc (jk.J b))) (JS Z (JW (cs:=(jk.J b)) Tryz.isAgg49 Tryz.sizeOf49 ((eZ.ro jh).elem jk.len Z3 f6))) ?_)))
 refine cu (Jf 0 0 0 0 0 0 0 0 0 0 0 0 0 0 0 J [] [] Zv 0 0 Zv 0 0 Zv 0 0 J) 49 eZ ?_
 intro bC qF lw
 refine cO (jk.J b) 0 lw Tryz.sizeOf49 ?_
 intro qG fV
 refine nt (JG (JG ?_))
 obtain⟨lC,fJ⟩:=mE λ R w'=>Own w D w' [blk bC (jk.J b) 49,blk p [vI a.l, .int .u64 ((U (I0.wrap ((a.r:Int)+1)):Nat):Int),vU a.t,vU a.s,vU a.g, W aj (X a.b.a) aa, W bV (X C) bW, W bX (X t) bY,vU Z8,vU a.u, Zz ⟨Zc a.j.a⟩, Zz ⟨Zc a.j.b⟩,vU a.e.g,vU a.e.u,vU a.e.a, Zz ⟨Zc a.e.j.a⟩, Zz ⟨Zc a.e.j.b⟩, .iface 24 (vP u 0), W cz (X E) cB,vP Q 0, Zq Zv] 80,blk Q [W cZ (X G) dh] 114,blk u [W bB (X r) aF] 27,row aj (X a.b.a) aa (q0 bO.J a.b.a) 83 2,row bV (X C) bW (q0 bf.J bu) 60 2,sepL (q0 J9 bu),row bX (X t) bY (q0 (eN .u64) t) 32 1,row cz (X E) cB (q0 aW.J bv) 99 4,sepL (q0 J5 bv),row cZ (X G) dh (q0 aB.J bz) 164 6,sepL (q0 J4 bz),row bB (X r) aF (q0 ay.J r) 101 2]/\(Bool.toNat R=1\/b.a.e=3\/b.a.e=5)/\(if b.a.e=3 then J else Zy (¬ (b.a.e=5)))=R
 refine KL (λ i:Bool=> [(68, V i),(10,vP bC 0),(4, V J),(55,vJ l),(54,vJ (X l1)),(53, W A1 (X l1) c1),(7,vP p 0),(6,vP u 0),(5, V M)]) lC ?_ ?_
 refine JI (Kz (vP bC 0) (Kz (vP bC 0) (Lz (vI b.a.e) fV 0 B5 (fw (Zb (¬ (b.a.e=3))) (JZ (e:= !(Zy (b.a.e=3))) yk ZY) (Mz Z ?_)))))
 by_cases Z1:b.a.e=3
 refine Sk Z Z (dF (Nc Z1)) Z (Sk Z Z (dF (Nc Z1)) Z (Sk Z Z (dF (Nc Z1)) Z (Sk Z Z (dF (Nc Z1)) Z (fw (V J) (JH Z (dF (Nc Z1)) Z) (B8 ?_)))))
 have lG:=fV.pf [0,1,2,4]
 exact Kr J ⟨Z,Z,Z,Z,Z,Z,Z,Z,Z,ZW⟩ (fJ.2 ⟨lG,(show (0=1\/b.a.e=3\/b.a.e=5)/\(if b.a.e=3 then J else Zy (¬ (b.a.e=5)))=J from ⟨by first | (right; left; omega) | (simp; done) | (simp; omega),ZK Z1⟩)⟩)
 refine Gz (vP bC 0) (dT Z1) (Gz (vP bC 0) (dT Z1) (Gl (vI b.a.e) (dT Z1) fV 0 B5 (gw (Zb (¬ (b.a.e=5))) (dT Z1) (JZ (e:= !(Zy (b.a.e=5))) yk ZY) (fw (Zb (¬ (b.a.e=5))) (JL Z (dT Z1) Z) (B8 ?_)))))
 have lH:=fV.pf [0,1,2,4]
 exact Kr (Zy (¬ (b.a.e=5))) ⟨Z,Z,Z,Z,Z,Z,Z,Z,Z,ZW⟩ (fJ.2 ⟨lH,by first | (right; left; omega) | (simp; done) | (simp; omega),ZV Z1⟩)
 rintro R qH jB
 show Wp _ _ _ [(68, V R),(10,vP bC 0),(4, V J),(55,vJ l),(54,vJ (X l1)),(53, W A1 (X l1) c1),(7,vP p 0),(6,vP u 0),(5, V M)] _ _
 obtain⟨gz,ow,d9⟩:=fJ.1 jB
 rcases Nf (R) with aT | aT
 have h304t:Bool.toNat R=1:=by rw [aT]; rfl
 refine jT aT (B9 (JV (J2 ?_)))
 have lI:=gz.px [] [0] []
 exact Kr (bV,bW,bu,C,bX,bY,t,Z8,cz,cB,bv,E,cZ,dh,bz,G,bB,aF,r) ⟨Z,Z,Z,Z,Z,Z,Z,ZW⟩ (fI.2 ⟨lI,by exact fE,by exact fF,by exact fG,Y,by first | assumption | exact fA f8,by first | assumption | exact uQ f8 f8 f8,by first | omega | exact(Rs.tk f8).n | exact(fA f8).tk.n,Y,N (ae d9) (ip aT)⟩)
 have h304t:Bool.toNat R=0:=by rw [aT]; rfl
 refine jF aT (sk (sr (Mz Z (Kz (vP bC 0) (La (bU.J b.a) gz 0 Tryz.isAgg47 J0 ?_)))))
 have gB:=gz.pb [3,2,10,11,0,4,12]
 have oz:=zr 11 gB
 have oD:=zr 12 gB
 obtain⟨⟨h,iT,f,P⟩,aX⟩:∃ q:dL × Int × aA × aZ,eF (aA.q (bD.q a.l (U (I0.wrap ((a.r:Int)+1))) a.t a.s a.g (O a.b.a) (O C) (O t) Z8 a.u a.j a.e) (O E)) (dK.q b.a.e b.a.G b.a.C b.a.I b.a.y b.a.F b.a.z b.a.r b.a.f b.a.k b.a.t b.a.s b.a.g b.a.u b.a.E b.a.D b.a.j (O b.a.a.a) (O (r7 aR.abs b.a.l.a)) (O b.a.b.a)) (StoreT.q (O r)) (aZ.q (O G))=q:=⟨_,Z⟩
 obtain⟨qI,jC,ed,jD,gD⟩:=KI gB
 refine cl Tryz.call9 (jU _ _ p (aA.q (bD.q a.l (U (I0.wrap ((a.r:Int)+1))) a.t a.s a.g (O a.b.a) (O C) (O t) Z8 a.u a.j a.e) (O E)) aj aa bV bW bu bX bY cz cB bv (dK.q b.a.e b.a.G b.a.C b.a.I b.a.y b.a.F b.a.z b.a.r b.a.f b.a.k b.a.t b.a.s b.a.g b.a.u b.a.E b.a.D b.a.j (O b.a.a.a) (O (r7 aR.abs b.a.l.a)) (O b.a.b.a)) b.a.a.A (X b.a.a.a) b.a.a.c b.a.l.A (X b.a.l.a) b.a.l.c b.a.l.a b.a.b.A (X b.a.b.a) b.a.b.c u (StoreT.q (O r)) bB aF Q (aZ.q (O G)) cZ dh bz h iT f P jC (gD _ 1 _ Z bQ) Y fE fF Z (ed _ (eX _ (E1 Z3)).1) Y (Z:r7 aR.abs b.a.l.a=r7 aR.abs b.a.l.a) g7 (λ w9 h9=>FU (bg (Z:r7 aR.abs b.a.l.a=r7 aR.abs b.a.l.a)) ((ed _ (eX _ (E1 Z3)).2.2.1) w9 h9)) Y (λ x9 h9=>⟨ed _ ((eX _ (E1 Z3)).2.2.2.2.1 x9 h9).1,((eX _ (E1 Z3)).2.2.2.2.1 x9 h9).2⟩) Z (ed _ (eX _ (E1 Z3)).2.2.2.2.2.1) Y (gD _ 2 _ Z bQ) Y fG (by first | assumption | exact Rs.tk f8 | (dsimp only; exact(fA f8).tk)) (by first | assumption | exact Rs.gt f8 | (dsimp only; exact(fA f8).gt)) (by first | omega | exact Tk.n f8 | exact(Rs.tk f8).n | (dsimp only; exact(fA f8).tk.n)) (by first | omega | exact Tk.rows f8 | exact(Rs.tk f8).rows | (dsimp only; exact(fA f8).tk.rows)) f2 f2 f2 aX) ?_
 rintro _ qJ ⟨Z4,Z2,gG,gH,dm,bE,aU,bF,bG,aV,bH,bJ,dn,dw,dx,dz,rfl,jE,gI,fK,gJ,gK⟩
 have dA:=jD _ _ jE
 have oF:=bg gI
 have oG:=bg fK
 have oH:=bg gJ
 have oI:=bg gK
 have oJ:=zr 0 dA
 have oK:=zr 2 dA
 have oL:=zr 4 dA
 have oM:=zr 6 dA
 have oN:=zr 7 dA
 have oO:=zr 11 dA
 obtain⟨gL,gM⟩:=qw (m:=(aA.q (bD.q a.l (U (I0.wrap ((a.r:Int)+1))) a.t a.s a.g (O a.b.a) (O C) (O t) Z8 a.u a.j a.e) (O E))) (tb:=(aZ.q (O G))) i2 g5 aX
 replace gL:Rs f.b.a f.a.a.a f.a.f.a P.a.a:=gL
 replace gM:X f.a.b.a=X a.b.a/\X f.a.f.a<=X t+1/\X h.b.a<=24/\X f.b.a+X f.a.a.a<=6:=gM
 refine Mz Z (Kz (Zx #[W Z4 (X h.a.a) Z2, W gG (X h.b.a) gH, V h.e]) (Kz (vI iT) ?_))
 refine cu [W Zv 0 0, W Zv 0 0, V J] 52 dA ?_
 intro iU qK lJ
 refine cO [W Z4 (X h.a.a) Z2, W gG (X h.b.a) gH, V h.e] 0 lJ Tryz.sizeOf52 ?_
 intro qL lK
 refine An Z (JG ?_)
 have lL:=lK.px [] [14] []
 refine mX 16 [14] (JP (bI.block (JP (JP (bI.block (JP J3)))))) lL ?_
 intro qM lM
 refine qv 0 Z Z (qv 1 Z Z (qp u 0 2 Z (qp u 0 3 Z (ql 4 Z 10 Tryz.isAgg25 Z Z Z (qp iU 1 5 Z (ql 6 Z 0 Tryz.isAgg44 Z Z Z ?_))))))
 obtain⟨⟨j,gN,iV⟩,dB⟩:∃ q:(List ay) × (List bZ) × Int,ko r h.b.a=q:=⟨_,Z⟩
 obtain⟨qN,jG,oP,jH,gP⟩:=JJ lM
 refine qd 7 Z (J6 Tryz.call10 Z (xR _ _ bB (X r) aF r gG (X h.b.a) gH h.b.a j gN iV jG (gP _ 15 _ Z bQ) Z Y (gP _ 3 _ Z bQ) Z Y i1 dB) ?_)
 rintro _ qO ⟨ak,av,lN,lQ,qP,rfl,jI,jJ,gQ,gT⟩
 have gU:=jH _ _ jI
 have oQ:=bg jJ
 have oU:=zr 0 gU
 have oV:=zr 1 gU
 replace gQ:X j<=X r+X h.b.a:=gQ
 replace gT:X gN<=X h.b.a:=gT
 obtain⟨gV,jK⟩:=DU aX dB f8 g5 g5
 replace gV:Rv f.b.a f.a.a.a f.a.f.a P.a.a j:=gV
 have iX:=gU.pb [0,1,2]
 refine⟨.inr ⟨_,iX⟩, ?_⟩
 refine qv 8 Z Z (qk (W ak (X j) av) 9 Z (Ki (v:= W lN (X gN) lQ) 10 Z f1 (λ _=>yk) (Ki (v:=vI iV) 11 Z f1 (λ _=>yk) (qp u 0 12 Z (qp u 0 13 Z ?_)))))
 have lS:=iX.pf [10]
 refine qe 14 Z (Do.store (vs:= [W ak (X j) av]) (o:=0) lS Z Z Tryz.sizeOf25 Z Z Z Z ?_)
 intro qQ lT
 refine⟨.inl f1, ?_⟩
 refine qn (JK (JG ?_))
 have lV:=lT.px [] [17,18] []
 refine JI (Mz Z ?_)
 have fe:=lV.pf [5]
 have oW:=zr 14 fe
 have oZ:=zr 6 fe
 have o5:=zr 8 fe
 obtain⟨g,bi⟩:∃ q,jO (aA.q (bD.q a.l (U (I0.wrap ((a.r:Int)+1))) a.t a.s a.g (O a.b.a) (O f.a.a.a) (O f.a.f.a) f.a.k a.u a.j a.e) (O f.b.a))=q:=⟨_,Z⟩
 obtain⟨qR,jL,o6,jM,ek⟩:=Kb fe
 refine cl Tryz.call11 (rG _ _ p (aA.q (bD.q a.l (U (I0.wrap ((a.r:Int)+1))) a.t a.s a.g (O a.b.a) (O f.a.a.a) (O f.a.f.a) f.a.k a.u a.j a.e) (O f.b.a)) aj aa bE aU bF bG aV bH bJ u Q g jL (ek _ 13 _ Z bQ) Y fK (ek _ 5 _ Z bQ) Y (λ x9 h9=>⟨ek _ 6 _ Z (bM (P8.2 ⟨x9,h9,b3⟩) bQ),dH (φ:=λ _=>_) fe (i:=7) Z (bM (P8.2 ⟨x9,h9,b3⟩) dP)⟩) (ek _ 7 _ Z bQ) Y g6 (by first | assumption | exact Tk.hops f8 | exact(Rs.tk f8).hops) bi) ?_
 rintro _ qU ⟨dC,dD,Z0,ax,dE,dG,dI,rfl,jN,gW⟩
 have fZ:=jM _ _ jN
 have o7:=bg gW
 have o8:=zr 0 fZ
 have o9:=zr 1 fZ
 have pg:=zr 3 fZ
 refine cu (gX 0 0 0 0 0 Zv 0 0 Zv 0 0 Zv 0 0 0 0 [] [] 0 0 0 [] []) 41 fZ ?_
 intro az qV lX
 refine cO (iL g dC dD Z0 ax dE dG) 0 lX F1 ?_
 intro qW iZ
 refine ns (Kz (vP iU 0) (Lz (W Z4 (X h.a.a) Z2) iZ 7 Tryz.isAgg50 (Kz (vJ (X h.a.a)) (Mn Z (bo ?_)))))
 have lY:=iZ.px [] [7,10,20] []
 obtain⟨lZ,fM⟩:=mE λ (K:Nat) w'=>Own w D w' [blk az (iL g dC dD Z0 ax dE dG) 41,row dC (X g.b.a) dD (q0 bO.J g.b.a) 83 2,row Z0 (X g.a.a) ax (q0 bf.J dI) 60 2,sepL (q0 J9 dI),row dE (X g.f.a) dG (q0 (eN .u64) g.f.a) 32 1,blk p [vI a.l, .int .u64 ((U (I0.wrap ((a.r:Int)+1)):Nat):Int),vU a.t,vU a.s,vU a.g, W aj (X a.b.a) aa, W bE (X f.a.a.a) aU, W bG (X f.a.f.a) aV,vU f.a.k,vU a.u, Zz ⟨Zc a.j.a⟩, Zz ⟨Zc a.j.b⟩,vU a.e.g,vU a.e.u,vU a.e.a, Zz ⟨Zc a.e.j.a⟩, Zz ⟨Zc a.e.j.b⟩, .iface 24 (vP u 0), W bH (X f.b.a) bJ,vP Q 0, Zq Zv] 80,blk u [W ak (X j) av] 27,row Z4 (X h.a.a) Z2 (q0 bU.J dm) 47 21,sepL (q0 Kg dm),row bE (X f.a.a.a) aU (q0 bf.J bF) 60 2,sepL (q0 J9 bF),row bG (X f.a.f.a) aV (q0 (eN .u64) f.a.f.a) 32 1,row bH (X f.b.a) bJ (q0 aW.J dn) 99 4,sepL (q0 J5 dn),blk Q [W dw (X P.a.a) dx] 114,row dw (X P.a.a) dx (q0 aB.J dz) 164 6,sepL (q0 J4 dz),row aj (X a.b.a) aa (q0 bO.J a.b.a) 83 2,row ak (X j) av (q0 ay.J j) 101 2]/\K<=X h.a.a/\iY f P j g h.a.a=iY f P j g (r6 K h.a.a)
 refine Wp.loop (λ i:Nat=> [(4, V J),(95,vJ i),(94,vJ (X h.a.a)),(93, W Z4 (X h.a.a) Z2),(13,vP az 0),(55,vJ l),(54,vJ (X l1)),(53, W A1 (X l1) c1),(7,vP p 0),(6,vP u 0),(5, V M)]) lZ (λ i=>X h.a.a - i) 0 ⟨Z,Z,Z,Z,Z,Z,Z,Z,Z,Z,Z,ZW⟩ (fM.2 ⟨lY,Y,Z⟩) ?_
 rintro K qX jP
 show Wp _ _ _ [(4, V J),(95,vJ K),(94,vJ (X h.a.a)),(93, W Z4 (X h.a.a) Z2),(13,vP az 0),(55,vJ l),(54,vJ (X l1)),(53, W A1 (X l1) c1),(7,vP p 0),(6,vP u 0),(5, V M)] _ _
 obtain⟨bK,pq,eu⟩:=fM.1 jP
 refine sr (Kz (Zb ((K:Int) < (X h.a.a:Int))) (nt (JG ?_)))
 by_cases ja:(K:Int) < (X h.a.a:Int)
 obtain⟨d,ai⟩:=dJ (ls:=dm) (i:=K) bU.len f6 (bK.rds (i:=7) Z) f4
 have gY:=gq gI ai
 have pu:X d.a.a<=d.a.c/\X d.a.a<=9223372036854775807:=dH bK (i:=8) Z (φ:=λ _=>_) (bM (P8.2 ⟨d,E1 ai,b3⟩) dP)
 have pz:X d.l.a=X (r7 aR.abs d.l.a):=bg (Z:r7 aR.abs d.l.a=r7 aR.abs d.l.a)
 have pE:X d.l.a<=d.l.c/\X d.l.a<=9223372036854775807:=dH bK (i:=8) Z (φ:=λ _=>_) (bM (P8.2 ⟨d,E1 ai, .tail _ b3⟩) dP)
 have pF:X d.b.a<=d.b.c/\X d.b.a<=9223372036854775807:=dH bK (i:=8) Z (φ:=λ _=>_) (bM (P8.2 ⟨d,E1 ai, .tail _ b4⟩) dP)
 have fO:=drop_at gY
 refine jT (dT ja) (sk (JG ?_))
 obtain⟨l5,eB⟩:=JC λ w'=>Own w D w' [blk az (iL g dC dD Z0 ax dE dG) 41,blk p [vI a.l, .int .u64 ((U (I0.wrap ((a.r:Int)+1)):Nat):Int),vU a.t,vU a.s,vU a.g, W aj (X a.b.a) aa, W bE (X f.a.a.a) aU, W bG (X f.a.f.a) aV,vU f.a.k,vU a.u, Zz ⟨Zc a.j.a⟩, Zz ⟨Zc a.j.b⟩,vU a.e.g,vU a.e.u,vU a.e.a, Zz ⟨Zc a.e.j.a⟩, Zz ⟨Zc a.e.j.b⟩, .iface 24 (vP u 0), W bH (X f.b.a) bJ,vP Q 0, Zq Zv] 80,blk u [W ak (X j) av] 27,blk Q [W dw (X P.a.a) dx] 114,row dC (X g.b.a) dD (q0 bO.J g.b.a) 83 2,row Z0 (X g.a.a) ax (q0 bf.J dI) 60 2,sepL (q0 J9 dI),row dE (X g.f.a) dG (q0 (eN .u64) g.f.a) 32 1,row Z4 (X h.a.a) Z2 (q0 bU.J dm) 47 21,sepL (q0 Kg dm),row bE (X f.a.a.a) aU (q0 bf.J bF) 60 2,sepL (q0 J9 bF),row bG (X f.a.f.a) aV (q0 (eN .u64) f.a.f.a) 32 1,row bH (X f.b.a) bJ (q0 aW.J dn) 99 4,sepL (q0 J5 dn),row dw (X P.a.a) dx (q0 aB.J dz) 164 6,sepL (q0 J4 dz),row aj (X a.b.a) aa (q0 bO.J a.b.a) 83 2,row ak (X j) av (q0 ay.J j) 101 2]/\(if d.e=4 then if d.y=3 then xu (ik j (bU.abs d) g.a.a) λ _=>y3 () else y3 () else y3 ())=y3 ()
 refine KL (λ _:Unit=> [(4, V J),(95,vJ K),(94,vJ (X h.a.a)),(93, W Z4 (X h.a.a) Z2),(13,vP az 0),(55,vJ l),(54,vJ (X l1)),(53, W A1 (X l1) c1),(7,vP p 0),(6,vP u 0),(5, V M)]) l5 ?_ ?_
 refine bo (sr (fw (Zq (Zw ⟨ab Z4,ao Z4+K *21,Zv⟩)) (JU (ug) Z Z ((bK.rds (i:=7) Z).addr (i:=K) Y) Y) (fw (Zx (Zc (bU.J d))) (JS Z (JW (cs:=(bU.J d)) Tryz.isAgg47 J0 ((bK.rds (i:=7) Z).elem bU.len ai f6))) ?_)))
 refine cu (iF 0 0 0 0 0 0 0 0 0 0 0 0 0 0 0 J [] [] Zv 0 0 Zv 0 0 Zv 0 0) 47 bK ?_
 intro dN qY l6
 refine cO (bU.J d) 0 l6 J0 ?_
 intro q9 dS
 refine nt (JG (sr (Kz (vP dN 0) (Lz (vI d.e) dS 0 B5 (fw (Zb (¬ (d.e=4))) (JZ (e:= !(Zy (d.e=4))) yk ZY) (Mz Z ?_))))))
 by_cases Z9:d.e=4
 refine gw (vP dN 4) (dF (Nc Z9)) yk (gw (vI d.y) (dF (Nc Z9)) (JS Z (bT.one B5 (Kk (dS.cls (i:=0) Z) Z))) (gw (Zb (¬ (d.y=3))) (dF (Nc Z9)) (JZ (e:= !(Zy (d.y=3))) yk ZY) (fw (Zb (¬ (d.y=3))) (JH Z (dF (Nc Z9)) Z) (nt ?_))))
 by_cases dU:d.y=3
 refine jF (dF (Nc dU)) (sk (sr (Kz (vP az 6) (Lz (W Z0 (X g.a.a) ax) dS 1 Tryz.isAgg34 (Kz (vJ (X g.a.a)) (Mn Z (bo ?_)))))))
 have l7:=dS.pf []
 obtain⟨l8,eD⟩:=mE λ (F:Nat) w'=>Own w D w' [blk dN (bU.J d) 47,blk az (iL g dC dD Z0 ax dE dG) 41,row dC (X g.b.a) dD (q0 bO.J g.b.a) 83 2,row Z0 (X g.a.a) ax (q0 bf.J dI) 60 2,sepL (q0 J9 dI),row dE (X g.f.a) dG (q0 (eN .u64) g.f.a) 32 1,blk p [vI a.l, .int .u64 ((U (I0.wrap ((a.r:Int)+1)):Nat):Int),vU a.t,vU a.s,vU a.g, W aj (X a.b.a) aa, W bE (X f.a.a.a) aU, W bG (X f.a.f.a) aV,vU f.a.k,vU a.u, Zz ⟨Zc a.j.a⟩, Zz ⟨Zc a.j.b⟩,vU a.e.g,vU a.e.u,vU a.e.a, Zz ⟨Zc a.e.j.a⟩, Zz ⟨Zc a.e.j.b⟩, .iface 24 (vP u 0), W bH (X f.b.a) bJ,vP Q 0, Zq Zv] 80,blk u [W ak (X j) av] 27,row Z4 (X h.a.a) Z2 (q0 bU.J dm) 47 21,sepL (q0 Kg dm),row bE (X f.a.a.a) aU (q0 bf.J bF) 60 2,sepL (q0 J9 bF),row bG (X f.a.f.a) aV (q0 (eN .u64) f.a.f.a) 32 1,row bH (X f.b.a) bJ (q0 aW.J dn) 99 4,sepL (q0 J5 dn),blk Q [W dw (X P.a.a) dx] 114,row dw (X P.a.a) dx (q0 aB.J dz) 164 6,sepL (q0 J4 dz),row aj (X a.b.a) aa (q0 bO.J a.b.a) 83 2,row ak (X j) av (q0 ay.J j) 101 2]/\F<=X g.a.a/\ik j (bU.abs d) g.a.a=ik j (bU.abs d) (r6 F g.a.a)
 refine Wp.loop (λ i:Nat=> [(4, V J),(110,vJ i),(109,vJ (X g.a.a)),(108, W Z0 (X g.a.a) ax),(15,vP dN 0),(95,vJ K),(94,vJ (X h.a.a)),(93, W Z4 (X h.a.a) Z2),(13,vP az 0),(55,vJ l),(54,vJ (X l1)),(53, W A1 (X l1) c1),(7,vP p 0),(6,vP u 0),(5, V M)]) l8 (λ i=>X g.a.a - i) 0 ⟨Z,Z,Z,Z,Z,Z,Z,Z,Z,Z,Z,Z,Z,Z,Z,ZW⟩ (eD.2 ⟨l7,Y,Z⟩) ?_
 rintro F rf jQ
 show Wp _ _ _ [(4, V J),(110,vJ F),(109,vJ (X g.a.a)),(108, W Z0 (X g.a.a) ax),(15,vP dN 0),(95,vJ K),(94,vJ (X h.a.a)),(93, W Z4 (X h.a.a) Z2),(13,vP az 0),(55,vJ l),(54,vJ (X l1)),(53, W A1 (X l1) c1),(7,vP p 0),(6,vP u 0),(5, V M)] _ _
 obtain⟨dV,pG,dO⟩:=eD.1 jQ
 refine sr (Kz (Zb ((F:Int) < (X g.a.a:Int))) (nt (JG ?_)))
 by_cases jb:(F:Int) < (X g.a.a:Int)
 obtain⟨B,eG⟩:=dJ (ls:=dI) (i:=F) bf.len f6 (dV.rds (i:=3) Z) f4
 have fP:=gq gW eG
 have pI:X B.a.a<=B.a.c/\X B.a.a<=9223372036854775807:=dH dV (i:=4) Z (φ:=λ _=>_) (bM (P8.2 ⟨B,E1 eG,b3⟩) dP)
 have pJ:X B.a.a<=24:=I1 bi fP f8
 have eO:=drop_at fP
 refine jT (dT jb) (sk (JG (bo (sr (fw (Zq (Zw ⟨ab Z0,ao Z0+F *2,Zv⟩)) (JU (kH) Z Z ((dV.rds (i:=3) Z).addr (i:=F) Y) Y) (fw (Zx (Zc (bf.J B))) (JS Z (JW (cs:=(bf.J B)) Tryz.isAgg60 Tryz.sizeOf60 ((dV.rds (i:=3) Z).elem bf.len eG f6))) ?_))))))
 refine cu [.int .u64 0, W Zv 0 0] 60 dV ?_
 intro jc rq l9
 refine cO (bf.J B) 0 l9 Tryz.sizeOf60 ?_
 intro ru gm
 refine nt (JG (sr (Kz (vP jc 0) (Lz (vU B.f) gm 0 E3 (Kz (vP dN 8) (Lz (vU d.f) gm 1 E3 (fw (Zb (¬ ((B.f:Int)=(d.f:Int)))) (JZ (e:= !(Zy ((B.f:Int)=(d.f:Int)))) yk ZY) (nt ?_))))))))
 by_cases dW:(B.f:Int)=(d.f:Int)
 refine jF (dF (Nc dW)) (sk (JG ?_))
 refine mX 21 [] (JP (bI.block (JP (JP (bI.block (bI.block (JP (JP (bI.block (bI.block (JP (JP (bI.block (JP J3)))))))))))))) gm ?_
 intro ry ma
 refine qv 0 Z Z (qp u 0 1 Z (qp u 0 2 Z (ql 3 Z 8 Tryz.isAgg25 Z Z Z (qp jc 1 4 Z (ql 5 Z 0 Tryz.isAgg44 Z Z Z ?_)))))
 obtain⟨⟨gZ,dQ,fo⟩,eQ⟩:∃ q:(List ay) × (List bZ) × Int,ko j B.a.a=q:=⟨_,Z⟩
 obtain⟨rz,jR,pK,jS,ib⟩:=JJ ma
 refine qd 6 Z (J6 Tryz.call10 Z (xR _ _ ak (X j) av j B.a.A (X B.a.a) B.a.c B.a.a gZ dQ fo jR (ib _ 20 _ Z bQ) Z Y (ib _ 5 _ Z (bM (P8.2 ⟨B,E1 eG,b3⟩) bQ)) Z Y i1 eQ) ?_)
 rintro _ rA ⟨mf,mg,ic,ig,mh,rfl,jV,il,iq,iw⟩
 have iy:=jS _ _ jV
 have pM:=bg il
 have pO:=zr 0 iy
 have pQ:=zr 1 iy
 replace iq:X gZ<=X j+X B.a.a:=iq
 replace iw:X dQ<=X B.a.a:=iw
 have jX:=I4 bi fP
 obtain⟨_,_,iA⟩:=jK _ (E1 gY) (show d.e=4 from by omega) (show d.y=3 from by omega) _ jX (show B.f=d.f from by omega)
 replace iA:X d.l.a<=24:=Nat.le_trans (Nat.le_of_eq (q7 ..).symm) iA
 have je:=iy.pb [0,1,2]
 refine⟨.inr ⟨_,je⟩, ?_⟩
 refine qv 7 Z Z (qk (W mf (X gZ) mg) 8 Z (qk (W ic (X dQ) ig) 9 Z (qk (vI fo) 10 Z (qa 11 Z Z (qa 12 Z Z (qa 13 Z Z (qn (JK (JG ?_)))))))))
 have fu:=je.px [] [0,21] []
 refine JI (Mz Z (fw (Zb (¬ (fo=0))) (JZ (e:= !(Zy (fo=0))) yk ZY) (Mz Z ?_)))
 by_cases S:fo=0
 refine gw (W ic (X dQ) ig) (dF (Nc S)) (JM Z) (gw (vP dN 19) (dF (Nc S)) yk (gw (W d.l.A (X d.l.a) d.l.c) (dF (Nc S)) (JS Z (bT.one Tryz.isAgg45 (Kk (fu.cls (i:=0) Z) Z))) ?_))
 have pR:X d.l.a=X (r7 aR.abs d.l.a):=g7
 obtain⟨gp,fQ⟩:∃ q,nT dQ (r7 aR.abs d.l.a)=q:=⟨_,Z⟩
 obtain⟨rC,jY,pU,jZ,eT⟩:=JJ fu
 refine oC (decide_eq_false (Nc S)) Tryz.call15 (xS _ _ ic (X dQ) ig mh dQ d.l.A (X d.l.a) d.l.c d.l.a (r7 aR.abs d.l.a) gp jY il (eT _ 20 _ Z bQ) (λ x9 h9=>⟨eT _ 21 _ Z (bM (P8.2 ⟨x9,h9,b3⟩) bQ),dH (φ:=λ _=>_) fu (i:=21) Z (bM (P8.2 ⟨x9,h9,b3⟩) dP)⟩) Z Y (Z:r7 aR.abs d.l.a=r7 aR.abs d.l.a) (eT _ 9 _ Z (bM (P8.2 ⟨d,E1 ai, .tail _ b3⟩) bQ)) (λ x9 h9=>⟨eT _ 9 _ Z (bM (P8.2 ⟨d,E1 ai, .tail _ b5⟩) (bM (P8.2 ⟨x9,h9,b3⟩) bQ)),dH (φ:=λ _=>_) fu (i:=9) Z (bM (P8.2 ⟨d,E1 ai, .tail _ b5⟩) (bM (P8.2 ⟨x9,h9,b3⟩) dP))⟩) g7 i4 fQ) ?_
 rintro _ rD ⟨rfl,j3⟩
 have jg:=jZ _ _ j3
 refine gw (V (!gp)) (dF (Nc S)) yk (fw (V (!gp)) (JH Z (dF (Nc S)) Z) (nt ?_))
 rcases Nf (gp) with fB | fB
 refine jF (cn fB) (J8 (bN (JK ?_)))
 have mi:=jg.px [] [20,21] []
 refine JI (fw (vJ (F+1)) (JN (e:=B7.wrap ((F:Int)+1)) yk f3) (Mz Z (B8 ?_)))
 have mo:=mi.pf []
 exact JX (F+1) ⟨Z,Z,Z,Z,Z,Z,Z,Z,Z,Z,Z,Z,Z,Z,Z,ZW⟩ (eD.2 ⟨mo,Y,N (dO) (N (ZJ (λ q=>ik j (bU.abs d) q) eO) (N (ip dW) (N (ae eQ) (N (ip S) (N (ae fQ) (ip fB))))))⟩) (by show X g.a.a - (F+1) < X g.a.a - F; omega)
 refine jT (cn fB) (JG ?_)
 have mq:=jg.px [] [20,21] []
 refine JI (An Z (rt (bR (tR (tR (bR (bR (tR (tR (bR (bR (tR (tR (bR (tR (rs ?_))))))))))))))))
 have mr:=mq.pk []
 obtain rfl:_=J:=zj hr (N (ae bn) (N (ae bq) (N (ip aC) (N (iN aD) (N (iN fC) (N (ae eY) (N (ip dR) (N (ae bS) (iJ (N (dZ) (N (ZJ (λ q=>iC M a q C t Z8 E G r) fH) (q8 (N (ae d9) (N (eP aT) (N (ae aX) (N (ae dB) (N (ae bi) (q8 (N (eu) (N (ZJ (λ q=>iY f P j g q) fO) (q8 (N (ip Z9) (N (ip dU) (q8 (N (dO) (N (ZJ (λ q=>ik j (bU.abs d) q) eO) (N (ip dW) (N (ae eQ) (N (ip S) (N (ae fQ) (eP fB)))))))))))))))))))))))))))))))
 exact⟨Z,mr⟩
 refine T (dT S) (T (dT S) (T (dT S) (T (dT S) (T (dT S) (fw (V Zk) (JL Z (dT S) Z) (nt (jt (JG ?_))))))))
 have mD:=fu.px [] [20,21] []
 refine JI (An Z (rt (bR (tR (tR (bR (bR (tR (tR (bR (bR (tR (tR (bR (tR (rs ?_))))))))))))))))
 have mF:=mD.pk []
 obtain rfl:_=J:=zj hr (N (ae bn) (N (ae bq) (N (ip aC) (N (iN aD) (N (iN fC) (N (ae eY) (N (ip dR) (N (ae bS) (iJ (N (dZ) (N (ZJ (λ q=>iC M a q C t Z8 E G r) fH) (q8 (N (ae d9) (N (eP aT) (N (ae aX) (N (ae dB) (N (ae bi) (q8 (N (eu) (N (ZJ (λ q=>iY f P j g q) fO) (q8 (N (ip Z9) (N (ip dU) (q8 (N (dO) (N (ZJ (λ q=>ik j (bU.abs d) q) eO) (N (ip dW) (N (ae eQ) (iN S)))))))))))))))))))))))))))))
 exact⟨Z,mF⟩
 refine jT (dT dW) (B9 (JV (J2 (JK ?_))))
 have mH:=gm.px [] [0] []
 refine JI (fw (vJ (F+1)) (JN (e:=B7.wrap ((F:Int)+1)) yk f3) (Mz Z (B8 ?_)))
 have mI:=mH.pf []
 exact JX (F+1) ⟨Z,Z,Z,Z,Z,Z,Z,Z,Z,Z,Z,Z,Z,Z,Z,ZW⟩ (eD.2 ⟨mI,Y,N (dO) (N (ZJ (λ q=>ik j (bU.abs d) q) eO) (iN dW))⟩) (by show X g.a.a - (F+1) < X g.a.a - F; omega)
 refine jF (dF jb) (B9 (JV ?_))
 have j4:ik j (bU.abs d) g.a.a=y3 ():=N (dO) (N (ZJ (λ q=>ik j (bU.abs d) q) (eH (ls:=g.a.a) (i:=F) Y)) Z)
 refine JV (J2 (bN ?_))
 have mJ:=dV.px [1,6,7,15] [0] []
 exact Kr () ⟨Z,Z,Z,Z,Z,Z,Z,Z,Z,Z,Z,ZW⟩ (eB.2 ⟨mJ,N (ip Z9) (N (ip dU) (qZ j4))⟩)
 refine jT (dT dU) (B9 (JV (J2 ?_)))
 have mK:=dS.px [1,6,7,15] [0] []
 exact Kr () ⟨Z,Z,Z,Z,Z,Z,Z,Z,Z,Z,Z,ZW⟩ (eB.2 ⟨mK,N (ip Z9) (iN dU)⟩)
 refine T (dT Z9) (T (dT Z9) (T (dT Z9) (fw (V Zk) (JL Z (dT Z9) Z) (nt (jt (B9 (JV (J2 ?_))))))))
 have mM:=dS.px [1,6,7,15] [0] []
 exact Kr () ⟨Z,Z,Z,Z,Z,Z,Z,Z,Z,Z,Z,ZW⟩ (eB.2 ⟨mM,iN Z9⟩)
 rintro ⟨⟩ rE j5
 show Wp _ _ _ [(4, V J),(95,vJ K),(94,vJ (X h.a.a)),(93, W Z4 (X h.a.a) Z2),(13,vP az 0),(55,vJ l),(54,vJ (X l1)),(53, W A1 (X l1) c1),(7,vP p 0),(6,vP u 0),(5, V M)] _ _
 obtain⟨mO,j6⟩:=eB.1 j5
 refine JI (fw (vJ (K+1)) (JN (e:=B7.wrap ((K:Int)+1)) yk f3) (Mz Z (B8 ?_)))
 have mP:=mO.px [0,4,5,6,7] [] [3,15,16,17,18]
 exact JX (K+1) ⟨Z,Z,Z,Z,Z,Z,Z,Z,Z,Z,Z,ZW⟩ (fM.2 ⟨mP,Y,N (eu) (N (ZJ (λ q=>iY f P j g q) fO) (qZ j6))⟩) (by show X h.a.a - (K+1) < X h.a.a - K; omega)
 refine jF (dF ja) (B9 (JV ?_))
 have kg:iY f P j g h.a.a=y3 ():=N (eu) (N (ZJ (λ q=>iY f P j g q) (eH (ls:=h.a.a) (i:=K) Y)) Z)
 refine JV (J2 (bN ?_))
 have mQ:=bK.px [5,14,6,17] [0,1,2,3,4,7,8] []
 exact Kr (bE,aU,bF,f.a.a.a,bG,aV,f.a.f.a,f.a.k,bH,bJ,dn,f.b.a,dw,dx,dz,P.a.a,ak,av,j) ⟨Z,Z,Z,Z,Z,Z,Z,ZW⟩ (fI.2 ⟨mQ,by exact fK,by exact gJ,by exact gK,Y,by first | assumption | exact fA f8,by first | assumption | exact uQ f8 f8 f8,by first | omega | exact(Rs.tk f8).n | exact(fA f8).tk.n,Y,N (ae d9) (N (eP aT) (N (ae aX) (N (ae dB) (N (ae bi) (qZ kg)))))⟩)
 rintro ⟨aG,aH,af,I,aI,aJ,z,aK,aL,aM,ag,Z7,aO,aP,ah,Z5,aQ,aS,Z6⟩ rF kr
 show Wp _ _ _ [(4, V J),(55,vJ l),(54,vJ (X l1)),(53, W A1 (X l1) c1),(7,vP p 0),(6,vP u 0),(5, V M)] _ _
 obtain⟨mR,iB,iD,iE,pW,pX,pY,p8,p9,ku⟩:=fI.1 kr
 have qb:=bg iB
 have qc:=bg iD
 have qf:=bg iE
 refine JI (fw (vJ (l+1)) (JN (e:=B7.wrap ((l:Int)+1)) yk f3) (Mz Z (B8 ?_)))
 have mU:=mR.pf [0,1,3]
 exact JX (l+1,aG,aH,af,I,aI,aJ,z,aK,aL,aM,ag,Z7,aO,aP,ah,Z5,aQ,aS,Z6) ⟨Z,Z,Z,Z,Z,Z,Z,ZW⟩ (fD.2 ⟨mU,by exact iB,by exact iD,by exact iE,Y,Y,by first | assumption | exact fA f8,by first | assumption | exact uQ f8 f8 f8,by first | omega | exact(Rs.tk f8).n | exact(fA f8).tk.n,by first | omega | (dsimp only; omega) | (simp only [L3]; omega),Eq.trans (dZ) (Eq.trans (congrArg (λ q=>iC M a q C t Z8 E G r) fH) (qZ ku))⟩) (by show X l1 - (l+1) < X l1 - l; omega)
 refine jF (dF iR) (B9 (JV ?_))
 have kv:iC M a l1 a.a.a a.f.a a.k [] [] l0=y3 ():=N (dZ) (N (ZJ (λ q=>iC M a q C t Z8 E G r) (eH (ls:=l1) (i:=l) Y)) Z)
 refine JV (J2 (JK (JG ?_)))
 have mV:=eZ.pk []
 refine JI (Mz Z (An Z (rt (rs ?_))))
 have mW:=mV.pk []
 obtain rfl:_=M:=zj hr (N (ae bn) (N (ae bq) (N (ip aC) (N (iN aD) (N (iN fC) (N (ae eY) (N (ip dR) (N (ae bS) (lD kv)))))))))
 exact⟨Z,mW⟩
 refine T (dT dR) (T (dT dR) (fw (V Zk) (JL Z (dT dR) Z) (nt (jt (sr (Az Z (An Z (rt (tR (JY (kS Z Z Z) (Mz Z (Kz (Zq Zv) (Kz (vI 1) (Az Z (An Z (JG (JG ?_)))))))))))))))))
 have mY:=jo.pk [2,3]
 refine JI (Mz Z (Kz (V Zk) (Mz Z (T Z (T Z (fw (V Zk) (JL Z Z Z) (nt (jt (sr (An Z (rt (tR (rs ?_)))))))))))))
 have mZ:=mY.pk []
 obtain rfl:=zj hr zq7
 exact⟨Z,mZ⟩
 refine T (dT aC) (T (dT aC) (T (dT aC) (fw (V Zk) (JL Z (dT aC) Z) (Mz Z (T Z (T Z (T Z (fw (V Zk) (JL Z Z Z) (nt (jt (sr (Mz Z (An Z (rt (tR (rs ?_))))))))))))))))
 have ng:=iH.pk []
 obtain rfl:=zj hr zq3
 exact⟨Z,ng⟩
end
theorem Ic {w:ZQ} {l:List jk} (h:∀ x ∈ l,Lf w x):∀ x ∈ List.map jk.abs l,x.a.f<=18446744073709551615/\X x.a.a.a<=140737488351232/\X x.a.l.a<=140737488351232/\X x.a.b.a<=140737488351232:=λ x hx=>by
  obtain⟨y,hy,rfl⟩:=List.mem_map.1 hx
  have k:=(h y hy).1
  have o:=k.2.2.2.2.2.2.2.2.2.2.2.2.2.2.2.2.2.1
  have r:=k.2.2.2.2.2.2.2.2.2.2.2.2.2.2.2.2.2.2.1
  have v:=k.2.2.2.2.2.2.2.2.2.2.2.2.2.2.2.2.2.2.2
  refine⟨k.2.2.2.2.2.2.2.2.1, ?_, ?_, ?_⟩
  . show X y.a.a.a<=_
    have a:=o.1; have b:=o.2.1; omega
  . show X (List.map aR.abs y.a.l.a)<=_
    rw [List.length_map]; have a:=r.1; have b:=r.2.1; omega
  . show X y.a.b.a<=_
    have a:=v.1; have b:=v.2.1; omega
theorem Gj {m:List ay} {o:aY} (hm:cB m=0) (ho:dA o=0):X (l7 m o).1<=X m+1:=by
  have hk:=sU ho
  have hs:=(l6.1 hm).2
  by_cases hr:o.e=1\/o.e=4
  . rw [Cu hm ho hr]; exact Nat.le_succ _
  obtain⟨a,e,d,b,_,_⟩:=oq hs o.f
  have hl:X m=X a+(X e+X d):=by rw [b.app,List.length_append,List.length_append]
  unfold l7
  rw [ZV Y]
  by_cases c:o.e=2
  . rw [ZK c,ww hs b]
    simp only [List.length_append,List.length_cons]; omega
  rw [ZV c]
  by_cases f:o.e=3
  . rw [ZK f,wy hs b]
    simp only [List.length_append]; omega
  rw [ZV f,ZV Y,uw hs (mO ho (.inr Y))]
  exact Nat.le_trans (List.length_filter_le _ _) (Nat.le_succ _)
theorem Cw:∀ {l:List aY} {m:List ay},cB m=0->VO l->X (run m l).1<=X m+X l
  | [],_,_,_=>Nat.le_add_right _ _
  | x::l,m,hm,hv=>by
    have a:=Gj hm (hv x b3)
    have b:=Cw (l:=l) (qx hm (hv x b3)) hv.tail
    show X (run (l7 m x).1 l).1<=_
    rw [List.length_cons]; omega
theorem Cx (M:List ay) (v:dK):∀ l:List df,(∀ z ∈ l,z.f=v.f->∃ y,ko M z.a.a=(y,v.l.a,0))->ik M v l= .inl ()
  | [],_=>rfl
  | x::l,h=>by
    have i:=Cx M v l λ z hz=>h z (.tail _ hz)
    unfold ik
    by_cases c:(x.f:Int)=(v.f:Int)
    . obtain⟨y,e⟩:=h x b3 Y
      rw [ZK c,e,bG,ZK Z,bG,ZK (HZ _)]
      exact i
    . rw [ZV c]; exact i
theorem Cy (a:aA) (b:aZ) (M:List ay) (r:bD):∀ l:List dK,(∀ v ∈ l,v.e=4->v.y=3->∀ z ∈ r.a.a,z.f=v.f->∃ y,ko M z.a.a=(y,v.l.a,0))->iY a b M r l= .inl ()
  | [],_=>rfl
  | x::l,h=>by
    have i:=Cy a b M r l λ z hz=>h z (.tail _ hz)
    unfold iY
    refine(qZ (a:=()) ?_).trans i
    by_cases c:x.e=4
    . rw [ZK c]
      by_cases d:x.y=3
      . rw [ZK d]; exact qZ (Cx M x r.a.a (h x b3 c d))
      . rw [ZV d]
    . rw [ZV c]
theorem zi (b:Bool) (r:bD):∀ (l:List StepT) (hs:List df) (fin:List Nat) (low:Nat) (ws:List bA) (rs:List aN) (M:List ay),Rv ws hs fin rs M->X fin+X l<=999->X M+24 *X l<=4000->
    iC b r l hs fin low ws rs M= .inl ()
  | [],hs,fin,low,ws,rs,M,_,_,_=>rfl
  | x::q,hs,fin,low,ws,rs,M,hR,hf,hl=>by
    rw [List.length_cons] at hf hl
    unfold iC
    rw [bG]
    by_cases c:(if x.a.e=3 then J else Zy (¬ (x.a.e=5)))=Zk
    . refine(qZ (ZK c)).trans ?_
      exact zi b r q _ _ _ _ _ _ hR (by dsimp only; omega) (by dsimp only; omega)
    . generalize ht:eF _ _ _ _=v
      obtain⟨d,e,m',tb'⟩:=v
      generalize ha:ko M d.b.a=z
      obtain⟨M',s,f⟩:=z
      have hfin:X fin<=999:=Y
      have g:X M<=4000:=Y
      obtain⟨j,k2⟩:=DU ht ha hR hfin g
      obtain⟨k,n,_⟩:=DT ht hR.a hfin
      obtain⟨_,_,i,_⟩:=FO ht hR hfin
      have kf:X m'.a.f.a<=X fin+1:=k.e
      have kM:X M'<=X M+24:=by
        rw [<- wT,sV hR.m i.ce] at ha
        have h:(run M d.b.a).1=M':=ZJ Prod.fst ha
        rw [<- h]
        exact Nat.le_trans (Cw hR.m i) Y
      refine(qZ (a:=(m'.a.a.a,m'.a.f.a,m'.a.k,m'.b.a,tb'.a.a,M')) ((ZV c).trans ?_)).trans (zi b r q m'.a.a.a m'.a.f.a m'.a.k m'.b.a tb'.a.a M' j Y Y)
      simp only [bG,ha]
      refine qZ (Cy _ _ _ _ _ λ v hv o p z hz hzt=> ?_)
      obtain⟨y,h,_⟩:=k2 v hv o p z hz hzt
      exact⟨y,h⟩
theorem FP {a:List ay} {l1:List StepT}:uh a l1=Zk:=by
  unfold uh
  refine(ae FM).trans ?_
  rw [bG]
  by_cases hc:lU a=0
  . rw [ZK hc]
    by_cases b:(X a:Int) > 60
    . rw [ZK b]
    rw [ZV b]
    by_cases c:(X l1:Int) > 60
    . rw [ZK c]
    rw [ZV c]
    refine(ae (show lW (bD.q 1 0 0 1 0 (Ll.q ([(bO.q [] 1),(bO.q ([109]) 2)])) (Ll.q []) (Ll.q []) 0 0 (au.q [] []) (jd.q 0 0 0 (au.q [] [])))=0 by decide+kernel)).trans ?_
    rw [ZK Z]
    refine(ae Z).trans ?_
    exact lD (zi Zk _ l1 _ _ _ _ _ _ (uQ Z Z hc) (by show 0+X l1<=999; omega) Y)
  . rw [ZV hc]
section
open Go.RowKit
theorem CU (w) (h:Sv ay) (f:nA w 2 32 ay.J (K3 w) h) (g:Sv jk) (a:nA w 22 240 jk.J (Lf w) g):
    Calls Tryz.prog 5 #[W h.A (X h.a) h.c, W g.A (X g.a) g.c] w λ e w'=>e= .returned (V Zk)/\Below w.heap.size w w':=
 (zh w (λ _:Nat=>False) h.A (X h.a) h.c h.a g.A (X g.a) g.c g.a (List.map jk.abs g.a) Zk (Mf w) (bP.ro f.2.2.1 f6) Z (by have:=f.1; have:=f.2.1; omega) Z (bP.ro a.2.2.1 f6) (λ b d=>⟨bP.ro (a.2.2.2 b d).1.2.2.2.2.2.2.2.2.2.2.2.2.2.2.2.2.2.1.2.2.1 f6,(by have i:=(a.2.2.2 b d).1.2.2.2.2.2.2.2.2.2.2.2.2.2.2.2.2.2.1.1; have j:=(a.2.2.2 b d).1.2.2.2.2.2.2.2.2.2.2.2.2.2.2.2.2.2.1.2.1; omega),bP.ro (a.2.2.2 b d).1.2.2.2.2.2.2.2.2.2.2.2.2.2.2.2.2.2.2.1.2.2.1 f6,(by have i:=(a.2.2.2 b d).1.2.2.2.2.2.2.2.2.2.2.2.2.2.2.2.2.2.2.1.1; have j:=(a.2.2.2 b d).1.2.2.2.2.2.2.2.2.2.2.2.2.2.2.2.2.2.2.1.2.1; omega),(λ k l=>⟨bP.ro ((a.2.2.2 b d).1.2.2.2.2.2.2.2.2.2.2.2.2.2.2.2.2.2.2.1.2.2.2 k l).2.2.2.2.1 f6,(by have i:=((a.2.2.2 b d).1.2.2.2.2.2.2.2.2.2.2.2.2.2.2.2.2.2.2.1.2.2.2 k l).2.2.1; have j:=((a.2.2.2 b d).1.2.2.2.2.2.2.2.2.2.2.2.2.2.2.2.2.2.2.1.2.2.2 k l).2.2.2.1; omega)⟩),bP.ro (a.2.2.2 b d).1.2.2.2.2.2.2.2.2.2.2.2.2.2.2.2.2.2.2.2.2.2.1 f6,(by have i:=(a.2.2.2 b d).1.2.2.2.2.2.2.2.2.2.2.2.2.2.2.2.2.2.2.2.1; have j:=(a.2.2.2 b d).1.2.2.2.2.2.2.2.2.2.2.2.2.2.2.2.2.2.2.2.2.1; omega)⟩) (q7 ..).symm (by rw [q7]; have:=a.1; have:=a.2.1; omega) (by have:=f.1; have:=f.2.1; omega) (by rw [q7]; have:=a.1; have:=a.2.1; omega) (Ic a.2.2.2) (FP)).mono λ e w' ⟨v,he,hv,H⟩=>⟨by rw [he,hv],H.below⟩
end
end Go.Proofs.YtndamapfnpihpaaGreat
