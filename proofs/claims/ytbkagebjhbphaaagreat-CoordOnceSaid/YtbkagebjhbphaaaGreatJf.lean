/- The layers told, part 6. Conditions: none beyond each law's own. -/
import Derived.Test.YtbkagebjhbphaaaGreatJe
namespace Go.Proofs.YtbkagebjhbphaaaGreat
set_option maxHeartbeats 4000000
set_option maxRecDepth 100000
set_option linter.unusedVariables false
set_option linter.unusedSimpArgs false
set_option linter.unusedSectionVars false
open Int renaming toNat->D0
open List renaming Pairwise->R7,append_assoc->q4,append_nil->s6,drop->r3,getD->C0,getD_eq_getElem?_getD->L4,getElem?_eq_getElem->s2,getElem_map->S7,length->r8,length_append->o1,length_map->s3,length_set->H1,map->s5,map_append->v5,map_cons->t2,map_drop->S6,map_take->S5,mem_append->v6,mem_append_right->v2,mem_cons->u9,mem_iff_getElem->V4,mem_map->v4,mem_of_getElem?->D3,mem_of_mem_drop->S2,mem_or_eq_of_mem_set->O0,mem_singleton->m4,pairwise_append->S1,pairwise_cons->R9,pairwise_map->V5,replicate->r6,set->u2,take->q7,take_append_drop->s7
open Ll renaming mk->E2
open Nat renaming le_of_eq->V7,le_refl->o3,le_succ_of_le->S3,lt_irrefl->V6
theorem cmp_eq (a b:Nat):gP a b=0↔a=b:=by
  unfold gP lu
  simp only [bnd]
  by_cases h:(a:Int) < (b:Int)
  . simp [h]; omega
  . by_cases d:(a:Int) > (b:Int) <;> simp [h,d] <;> omega
theorem Gh (a b:Int):(cmp_Compare_int a b < 0↔a < b)/\(cmp_Compare_int a b=0↔a=b):=by
  unfold cmp_Compare_int cmp_isNaN_int
  simp only [bnd]
  by_cases h:a < b
  . simp [h]; omega
  . by_cases d:a > b <;> simp [h,d] <;> omega
def Sr {α:Type} [Inhabited α] (l:List α) (key:α->Int) (n:Int) (r:Int × Bool):Prop:=(r.2=true->D0 r.1 < l.length/\key (C0 l (D0 r.1) default)=n)/\((∃ x ∈ l,key x=n)->r.2=true)/\(∀ x ∈ q7 (D0 r.1) l,key x < n)/\(∀ x ∈ r3 (D0 r.1) l,n<=key x)
section
variable {α:Type} [Inhabited α] {l:List α} {key c:α->Int} {F:Nat->Nat->Nat->Nat} {n:Int}
theorem CL (hF:∀ f a b,F (f+1) a b=if((a:Nat):Int) < ((b:Nat):Int) then(if c (C0 l ((a+b) / 2) default) < 0 then F f ((a+b) / 2+1) b else F f a ((a+b) / 2)) else a) (hc:∀ x,c x < 0↔key x < n) (hs:∀ i j:Nat,i<=j->j < l.length->key (C0 l i default)<=key (C0 l j default)):∀ (f a b:Nat),a<=b->b<=l.length->b - a < f->(∀ i,i < a->key (C0 l i default) < n)->(∀ i,b<=i->i < l.length->n<=key (C0 l i default))->
    F f a b<=l.length/\(∀ i,i < F f a b->key (C0 l i default) < n)/\(∀ i,F f a b<=i->i < l.length->n<=key (C0 l i default))
  | 0,a,b,_,_,h,_,_=>e6
  | f+1,a,b,hab,hb,hf,d,e=>by
    rw [hF]
    by_cases hlt:(a:Int) < (b:Int)
    . rw [if_pos hlt]
      by_cases hc':c (C0 l ((a+b) / 2) default) < 0
      . rw [if_pos hc']
        rw [hc] at hc'
        exact CL hF hc hs f _ _ e6 hb e6 (λ i hi=>Int.lt_of_le_of_lt (hs i ((a+b) / 2) e6 e6) hc') e
      . rw [if_neg hc']
        rw [hc] at hc'
        exact CL hF hc hs f _ _ e6 e6 e6 d (λ i hi hl=>Int.le_trans (Int.not_lt.1 hc') (hs ((a+b) / 2) i hi hl))
    . rw [if_neg hlt]
      exact⟨e6,d,λ i hi hl=>e i e6 hl⟩
theorem El (hF:∀ f a b,F (f+1) a b=if((a:Nat):Int) < ((b:Nat):Int) then(if c (C0 l ((a+b) / 2) default) < 0 then F f ((a+b) / 2+1) b else F f a ((a+b) / 2)) else a) (hc:∀ x,c x < 0↔key x < n) (he:∀ x,c x=0↔key x=n) (hs:R7 (λ a b=>key a < key b) l) {r:Int × Bool} (hr:(if((F ((l.length - 0)+1) 0 l.length:Nat):Int) < ((l.length:Nat):Int) then(((F ((l.length - 0)+1) 0 l.length:Nat):Int),decide (c (C0 l (F ((l.length - 0)+1) 0 l.length) default)=0)) else(((F ((l.length - 0)+1) 0 l.length:Nat):Int),false))=r):
    Sr l key n r:=by
  have at_:∀ i (hi:i < l.length),l[i]=C0 l i default:=λ i hi=>by rw [L4,s2 hi]; rfl
  have hm:∀ i j:Nat,i<=j->j < l.length->key (C0 l i default)<=key (C0 l j default):=λ i j hij hj=>by
    rcases Nat.lt_or_eq_of_le hij with d | rfl
    . have:=List.pairwise_iff_getElem.1 hs i j e6 hj d
      rw [at_,at_] at this; omega
    . exact Int.le_refl _
  obtain⟨hl,d,g⟩:=CL hF hc hm ((l.length - 0)+1) 0 l.length (Lg _) (o3 _) e6 (λ i hi=>e6) (λ i hi hl=>e6)
  generalize F ((l.length - 0)+1) 0 l.length=q at hr hl d g
  have k:D0 r.1=q:=by rw [<- hr]; split <;> exact Int.toNat_natCast _
  unfold Sr
  rw [k]
  refine⟨λ h=> ?_,fun⟨x,hx,e⟩=> ?_,λ x hx=> ?_,λ x hx=> ?_⟩
  . rw [<- hr] at h
    split at h
    . exact⟨e6,(he _).1 (of_decide_eq_true h)⟩
    . cases h
  . obtain⟨i,hi,rfl⟩:=V4.1 hx
    rw [at_ i hi] at e
    have hq:q<=i:=Nat.le_of_not_lt λ h=>by have:=d i h; omega
    have m:=g q (o3 _) e6
    have o:=hm q i hq hi
    rw [<- hr,if_pos e6]
    exact decide_eq_true ((he _).2 e6)
  . obtain⟨i,hi,rfl⟩:=List.mem_take_iff_getElem.1 hx
    rw [at_ i e6]
    exact d i e6
  . obtain⟨i,hi,rfl⟩:=List.mem_drop_iff_getElem.1 hx
    rw [at_ (q+i) e6]
    exact g _ e6 e6
end
theorem GZ {l:List bH} {n:Nat} {r:Int × Bool} (hr:bM l n=r) (hs:R7 (· < ·) (s5 bH.aN l)):Sr l (λ d=>((d.aN:Nat):Int)) ((n:Nat):Int) r:=El (l:=l) (F:=dB l n) (key:=λ d=>((d.aN:Nat):Int)) (c:=λ d=>gP d.aN n) (n:=((n:Nat):Int)) (λ _ _ _=>rfl) (λ x=>by rw [yF]; omega) (λ x=>by rw [cmp_eq]; omega) ((V5.1 hs).imp λ h=>e6) hr
theorem Hy {l:List dK} {n:Nat} {r:Int × Bool} (hr:bW l n=r) (hs:R7 (· < ·) (s5 dK.aR l)):Sr l (λ d=>((d.aR:Nat):Int)) ((n:Nat):Int) r:=El (l:=l) (F:=eP l n) (key:=λ d=>((d.aR:Nat):Int)) (c:=λ d=>gP d.aR n) (n:=((n:Nat):Int)) (λ _ _ _=>rfl) (λ x=>by rw [yF]; omega) (λ x=>by rw [cmp_eq]; omega) ((V5.1 hs).imp λ h=>e6) hr
theorem Hz {l:List eD} {n:Int} {r:Int × Bool} (hr:fH l n=r) (hs:R7 (· < ·) (s5 eD.aK l)):Sr l eD.aK n r:=El (l:=l) (F:=fu l n) (key:=eD.aK) (c:=λ d=>cmp_Compare_int d.aK n) (n:=n) (λ _ _ _=>rfl) (λ x=>(Gh _ _).1) (λ x=>(Gh _ _).2) (V5.1 hs) hr
def lS (m:aA):Nat:=m.aa.av *4294967296+m.bP
structure Ya (y:dK):Prop where
  uh:1<=y.aM/\y.aM<=4
  Gv:Bt (gu y.aG.ls [])
  ops:y.bV.ls.length<=4/\∀ o ∈ y.bV.ls,o.bS<=4
  res:∀ q ∈ y.af.ls,Gk q.ls
structure Ok1 (m:aA):Prop where
  own:m.aa.ag.ls=OW
  sh:m.aa.au=2
  len:m.ay.ls.length+m.aa.aj.ls.length<=8
  sA:R7 (· < ·) (nA m)
  sD:R7 (· < ·) (nD m)
  ad:∀ x ∈ nA m,x ∉ nD m
  lA:∀ x ∈ nA m,x<=lS m
  lD:∀ x ∈ nD m,x<=lS m
  sL:R7 (· < ·) (s5 eD.aK m.aa.aF.ls)
  mH:∀ l ∈ m.aa.aF.ls,(1<=l.aK/\l.aK<=4)/\l.ai.ls.length<=4/\Gk l.ai.ls
  dec:∀ d ∈ m.aa.aj.ls,(1<=d.aK/\d.aK<=4)/\Bt d.au.ls
  act:∀ y ∈ m.ay.ls,Ya y
structure mR (m:aA):Prop extends Ok1 m where
  an:∀ c,1<=c/\c<=4->(ni m c).cO=true->(ni m c).dA=1->∃ l ∈ m.aa.aF.ls,l.aK=c/\l.aP=(ni m c).aS
structure Nk (k:Nat) (m:aA):Prop where
  lt:k<=1000
  bo:m.aa.av<=k+1
  bg:m.bP<=k
theorem mR.im {k:Nat} {m:aA} (h:mR m) (n:Nk k m):Im k m:=⟨by have:=n.lt; omega,by have:=n.bo; have:=n.lt; omega,n.bg,h.sA.imp Nat.le_of_lt,h.sD.imp Nat.le_of_lt,h.lA,h.lD⟩
structure Mo (m:aA) (x:bL):Prop where
  work:x.aD=3->x.aN<=lS m
  yes:x.aD=5->x.cz=true->x.aN ∈ nD m
  no:x.aD=5->x.cz=false->x.aN ∉ nA m/\x.aN ∉ nD m
  ans:x.aD=2->x.dz=1->∃ l ∈ m.aa.aF.ls,x.fI=10+l.aK/\l.aP=x.aP
structure Rl (m m':aA):Prop where
  bn:lS m<=lS m'
  dd:∀ n ∈ nD m,n ∈ nD m'
  dn:∀ n ∈ nD m',n ∈ nD m\/n ∈ nA m\/lS m < n
  an:∀ n ∈ nA m',n ∈ nA m\/lS m < n
theorem Rl.refl (m:aA):Rl m m:=⟨o3 _,λ _ h=>h,λ _ h=> .inl h,λ _ h=> .inl h⟩
structure Fs (k:Nat) (m:aA) (o:List bL) (m':aA):Prop where
  ok:mR m'
  nk:Nk (k+1) m'
  rl:Rl m m'
  mo:∀ x ∈ o,Mo m' x
theorem Nk.up {k:Nat} {m:aA} (n:Nk k m) (h:k+1<=1000):Nk (k+1) m:=⟨h,by have:=n.bo; omega,by have:=n.bg; omega⟩
theorem Fs.same {k:Nat} {m:aA} (h:mR m) (n:Nk k m) (hk:k+1<=1000) {o:List bL} (ho:∀ x ∈ o,Mo m x):Fs k m o m:=⟨h,n.up hk,Rl.refl m,ho⟩
theorem Ok1.of {m m':aA} (h:Ok1 m) (a:m'.aa=m.aa) (b:m'.ay.ls=m.ay.ls) (g:m'.bP=m.bP):Ok1 m':=by
  have d:nA m'=nA m:=by unfold nA; rw [b]
  have e:nD m'=nD m:=by unfold nD; rw [a]
  have f:lS m'=lS m:=by unfold lS; rw [a,g]
  exact⟨by rw [a]; exact h.own,by rw [a]; exact h.sh,by rw [a,b]; exact h.len,by rw [d]; exact h.sA,by rw [e]; exact h.sD,by rw [d,e]; exact h.ad,by rw [d,f]; exact h.lA,by rw [e,f]; exact h.lD,by rw [a]; exact h.sL,by rw [a]; exact h.mH,by rw [a]; exact h.dec,by rw [b]; exact h.act⟩
theorem Bu {p t:bI} {c:Int} {q:Nat} {k:Int} {l:List aQ} {m m':aA} (h:dC p c q k l m=(t,m')) (hc:1<=c/\c<=4) (H:Ok1 m) (hn:∀ d,1<=d/\d<=4->d≠c->(ni m d).cO=true->(ni m d).dA=1->∃ l ∈ m.aa.aF.ls,l.aK=d/\l.aP=(ni m d).aS) (hl:k=1->∃ l ∈ m.aa.aF.ls,l.aK=c/\l.aP=q):mR m'/\∃ x,t.aX.ls=p.aX.ls++ [x]/\x.aD=2/\x.fI=10+c/\x.aP=q/\x.dz=k:=by
  have ht:=mP h
  obtain⟨x,e,hk,hto,hr,hcd,hg,ho⟩:=Gb h hc
  refine⟨⟨H.of ht.1 ht.2.1 ht.2.2.1,λ d hd b a=> ?_⟩,x,e,hk,hto,hr,hcd⟩
  rw [ht.1]
  by_cases e:d=c
  . subst e; rw [hg.2.1]; exact hl (hg.2.2 ▸ a)
  . rw [ho d hd e] at b a ⊢; exact hn d hd e b a
theorem yK (m:aA) (i:Nat):nA (rE m i)=q7 i (nA m)++r3 (i+1) (nA m):=by simp only [nA,rE,v5,S5,S6]
theorem CO {m:aA} {i:Nat} (hi:i < m.ay.ls.length):(C0 m.ay.ls i default).aR ∈ nA m:=v4.2 ⟨_,qE hi,rfl⟩
theorem DF {m:aA} {i:Nat} (H:Ok1 m) (hi:i < m.ay.ls.length):(C0 m.ay.ls i default).aR ∉ nA (rE m i):=by
  have hl:i < (nA m).length:=by unfold nA; rw [s3]; exact hi
  have hg:(nA m)[i]=(C0 m.ay.ls i default).aR:=by
    simp only [nA,S7]
    rw [L4,s2 hi]; rfl
  have e:nA m=q7 i (nA m)++(nA m)[i]::r3 (i+1) (nA m):=by rw [<- List.drop_eq_getElem_cons hl,s7]
  have h':=H.sA
  rw [e] at h'
  obtain⟨_,b,d⟩:=S1.1 h'
  rw [yK, <- hg]
  intro hm
  rcases v6.1 hm with a | a
  . exact V6 _ (d _ a _ b1)
  . exact V6 _ ((R9.1 b).1 _ a)
theorem Ok1.cut {m:aA} (h:Ok1 m) (i:Nat):Ok1 (rE m i):=by
  have hs:=nW (nA m) i
  rw [<- yK] at hs
  exact⟨h.own,h.sh,by have:=(nW m.ay.ls i).length_le; have:=h.len; simp only [rE]; omega,h.sA.sublist hs,h.sD,λ x hx=>h.ad x (hs.subset hx),λ x hx=>h.lA x (hs.subset hx),h.lD,h.sL,h.mH,h.dec,λ y hy=>h.act y ((nW _ _).subset hy)⟩
structure Gr (m:aA) (o:List bL) (m':aA):Prop where
  ok:mR m'
  st:m'.aa=m.aa
  bg:m'.bP=m.bP
  na:∀ n ∈ nA m',n ∈ nA m
  mo:∀ x ∈ o,(x.aD=3->x.aN ∈ nA m)/\(x.aD=5->x.cz=false/\x.aN ∈ nA m/\x.aN ∉ nA m')/\(x.aD=2->x.dz≠1)
theorem Gr.trans {m d f:aA} {g i:List bL} (a:Gr m g d) (b:Gr d i f):Gr m (g++i) f:=
  ⟨b.ok,b.st.trans a.st,b.bg.trans a.bg,λ n h=>a.na n (b.na n h),λ x hx=>by
    rcases v6.1 hx with h | h
    . have k:=a.mo x h
      exact⟨k.1,λ e=>⟨(k.2.1 e).1,(k.2.1 e).2.1,λ h=>(k.2.1 e).2.2 (b.na _ h)⟩,k.2.2⟩
    . have k:=b.mo x h
      exact⟨λ e=>a.na _ (k.1 e),λ e=>⟨(k.2.1 e).1,a.na _ (k.2.1 e).2.1,(k.2.1 e).2.2⟩,k.2.2⟩⟩
theorem Gr.fs {k:Nat} {m m':aA} {o:List bL} (h:Gr m o m') (H:mR m) (n:Nk k m) (hk:k+1<=1000):Fs k m o m':=by
  have a:nD m'=nD m:=by unfold nD; rw [h.st]
  have b:lS m'=lS m:=by unfold lS; rw [h.st,h.bg]
  refine⟨h.ok,⟨hk,by rw [h.st]; have:=n.bo; omega,by rw [h.bg]; have:=n.bg; omega⟩,⟨V7 b.symm,λ x hx=>a ▸ hx,λ x hx=> .inl (a ▸ hx),λ x hx=> .inl (h.na x hx)⟩,λ x hx=> ?_⟩
  have k:=h.mo x hx
  exact⟨λ e=>(by rw [b]; exact H.lA _ (k.1 e)),λ e e'=>(by rw [(k.2.1 e).1] at e'; cases e'),λ e _=>⟨(k.2.1 e).2.2,(by rw [a]; exact H.ad _ (k.2.1 e).2.1)⟩,λ e e'=>absurd e' (k.2.2 e)⟩
theorem zV (n:Nat) (f:Bool):∀ (l:List Int) (o:List bL), ∃ q,ik n f l o=o++q/\∀ x ∈ q,x.aD=5/\x.aN=n/\x.cz=f
  | [],o=>⟨[],(s6 _).symm,λ x hx=>by cases hx⟩
  | s::l,o=>by
    simp only [ik,bnd]
    obtain⟨q,a,b⟩:=zV n f l (dw (bI.mk (E2 o)) (bL.mk 5 0 s 0 0 0 0 0 n 0 0 0 0 0 0 f (bC.mk [] []) (E2 []) (E2 []) (E2 []))).aX.ls
    refine⟨_::q,a.trans (q4 o [_] q),λ x hx=> ?_⟩
    rcases u9.1 hx with rfl | hx
    . exact⟨rfl,rfl,rfl⟩
    . exact b x hx
theorem xS {p t:bI} {i:Int} {m m':aA} (hi:D0 i < m.ay.ls.length) (h:fq p i m=(t,m')) (H:mR m):∃ o,t.aX.ls=p.aX.ls++o/\Gr m o m':=by
  unfold fq at h
  simp only [bnd] at h
  rcases e:dC p (C0 m.ay.ls (D0 i) default).aM (C0 m.ay.ls (D0 i) default).aS 2 [] (rE m (D0 i)) with ⟨f,g⟩
  have e':=e
  unfold rE at e'
  rw [e'] at h
  have ha:=mP e
  obtain⟨rfl,b⟩:=Prod.mk.inj h
  obtain rfl:=oG b (by rw [ha.1]; rfl) (by rw [ha.1]; rfl) (by rw [ha.1]; rfl) (by rw [ha.2.1]; rfl)
  obtain⟨K,x,ex,hk,_,_,hcd⟩:=Bu e (H.act _ (qE hi)).uh (H.cut _) (λ d hd _ a j=>H.an d hd a j) λ h=>absurd h f4
  obtain⟨q,eq,hq⟩:=zV (C0 m.ay.ls (D0 i) default).aR false (jM (C0 m.ay.ls (D0 i) default)) f.aX.ls
  have en:nA g=nA (rE m (D0 i)):=by unfold nA; rw [ha.2.1]
  refine⟨[x]++q,by unfold dZ; simp only [bnd]; exact eq.trans (by rw [ex,q4]),K,ha.1,ha.2.2.1,λ n hn=> ?_,λ y hy=> ?_⟩
  . rw [en,yK] at hn; exact(nW _ _).subset hn
  . rcases v6.1 hy with a | a
    . rw [m4.1 a,hk]; exact⟨λ h=>absurd h f4,λ h=>absurd h f4,λ _=>by rw [hcd]; decide⟩
    . obtain⟨k,k2,r⟩:=hq y a
      rw [k,k2,r]; exact⟨λ h=>absurd h f4,λ _=>⟨rfl,CO hi,en ▸ DF H.toOk1 hi⟩,λ h=>absurd h f4⟩
theorem mR.set {m:aA} (H:mR m) {i:Nat} {y:dK} (hn:y.aR=(C0 m.ay.ls i default).aR) (hy:Ya y):mR (oh m i y):=by
  have e:nA (oh m i y)=nA m:=vB hn
  exact⟨⟨H.own,H.sh,by simp only [oh,H1]; exact H.len,e ▸ H.sA,H.sD,e ▸ H.ad,e ▸ H.lA,H.lD,H.sL,H.mH,H.dec,λ z hz=>by
    rcases O0 hz with h | rfl
    . exact H.act z h
    . exact hy⟩,H.an⟩
theorem Ci {α:Type} [LT α] (ht:∀ {a b c:α},a < b->b < c->a < c) {L:List α} {r:Nat} {n:α} (hs:R7 (· < ·) L) (d:∀ x ∈ q7 r L,x < n) (e:∀ x ∈ r3 r L,n < x):R7 (· < ·) (q7 r L++n::r3 r L):=
  S1.2 ⟨hs.sublist (List.take_sublist _ _),R9.2 ⟨e,hs.sublist (List.drop_sublist _ _)⟩,λ a ha b hb=>by
    rcases u9.1 hb with rfl | hb
    . exact d a ha
    . exact ht (d a ha) (e b hb)⟩
theorem uS {α:Type} {L:List α} {r:Nat} {n x:α} (h:x ∈ q7 r L++n::r3 r L):x=n\/x ∈ L:=by
  rcases v6.1 h with h | h
  . exact .inr (List.mem_of_mem_take h)
  . rcases u9.1 h with h | h
    . exact .inl h
    . exact .inr (S2 h)
theorem Cj {α:Type} {L:List α} {r:Nat} {n x:α} (h:x ∈ L):x ∈ q7 r L++n::r3 r L:=by
  rw [<- s7 r L] at h
  rcases v6.1 h with h | h
  . exact List.mem_append_left _ h
  . exact v2 _ (.tail _ h)
structure Ls (L0 L:List eD) (c:Int) (q:Nat):Prop where
  HY:R7 (· < ·) (s5 eD.aK L)
  ok:∀ l ∈ L,(1<=l.aK/\l.aK<=4)/\l.ai.ls.length<=4/\Gk l.ai.ls
  new:∃ l ∈ L,l.aK=c/\l.aP=q
  old:∀ l ∈ L0,l.aK≠c->l ∈ L
theorem Fb {a:List eD} {x:eD} {r:Int × Bool} (hr:fH a x.aK=r) (hs:R7 (· < ·) (s5 eD.aK a)) (b:∀ l ∈ a,(1<=l.aK/\l.aK<=4)/\l.ai.ls.length<=4/\Gk l.ai.ls) (hx:(1<=x.aK/\x.aK<=4)/\x.ai.ls.length<=4/\Gk x.ai.ls):(r.2=true->Ls a (u2 a (D0 r.1) x) x.aK x.aP)/\(¬ r.2=true->Ls a (q7 (D0 r.1) a++x::r3 (D0 r.1) a) x.aK x.aP):=by
  obtain⟨d,k2,f,g⟩:=Hz hr hs
  refine⟨λ h=> ?_,λ h=> ?_⟩
  . obtain⟨hl,he⟩:=d h
    have hm:s5 eD.aK (u2 a (D0 r.1) x)=s5 eD.aK a:=by
      rw [List.map_set]
      have:(s5 eD.aK a)[D0 r.1]'(by rw [s3]; exact hl)=x.aK:=by rw [S7, <- he,L4,s2 hl]; rfl
      rw [<- this]; exact List.set_getElem_self _
    refine⟨hm ▸ hs,λ l hl'=> ?_,⟨x,D3 (List.getElem?_set_self hl),rfl,rfl⟩,λ l hl' hc=> ?_⟩
    . rcases O0 hl' with h | rfl
      . exact b l h
      . exact hx
    . obtain⟨j,hj,rfl⟩:=V4.1 hl'
      have hne:D0 r.1≠j:=λ e=>hc (by subst e; rw [<- he,L4,s2 hl]; rfl)
      exact D3 (i:=j) (by rw [List.getElem?_set_ne hne,s2 hj])
  . refine⟨?_,λ l hl=> ?_,⟨x,v2 _ b1,rfl,rfl⟩,λ l hl _=>Cj hl⟩
    . have:=Ci (α:=Int) (r:=D0 r.1) (n:=x.aK) Int.lt_trans hs (λ y hy=>by
        rw [<- S5] at hy
        obtain⟨z,hz,rfl⟩:=v4.1 hy
        exact f z hz) (λ y hy=>by
        rw [<- S6] at hy
        obtain⟨z,hz,rfl⟩:=v4.1 hy
        exact Int.lt_iff_le_and_ne.2 ⟨g z hz,λ e=>h (k2 ⟨z,S2 hz,e.symm⟩)⟩)
      simp only [v5,t2,S5,S6]
      exact this
    . rcases uS hl with rfl | h
      . exact hx
      . exact b l h
theorem DI {k:Nat} {p t:bI} {i:Int} {m m':aA} (hi:D0 i < m.ay.ls.length) (h:jQ p i m=(t,m')) (H:mR m) (n:Nk k m) (hk:k+1<=1000):∃ o,t.aX.ls=p.aX.ls++o/\Fs k m o m':=by
  unfold jQ at h
  simp only [bnd,jM] at h
  have Y:=H.act _ (qE hi)
  have hnA:=CO hi
  have hnO:=DF H.toOk1 hi
  have hlA:=H.lA _ hnA
  have hAD:=H.ad _ hnA
  generalize hy:C0 m.ay.ls (D0 i) default=y at h Y hnA hnO hlA hAD
  rcases eg:lM y.bV.ls y.aG.ls y.af.ls with ⟨rs,ge⟩
  rw [eg] at h
  have hg:=DD eg Y.ops.2 Y.res
  rcases es:bM m.aa.aj.ls y.aR with ⟨j,oj⟩
  rcases el:fH m.aa.aF.ls y.aM with ⟨q,oq⟩
  rw [es,el] at h
  obtain⟨sl,hsl⟩:∃ sl,gu y.aG.ls []=sl:=⟨_,rfl⟩
  rw [hsl] at h
  have hsh:=Y.Gv
  rw [hsl] at hsh
  obtain⟨_,P,D,E⟩:=GZ es H.sD
  have go:∀ {L:List eD} {f:bI} {b:aA},dC p y.aM y.aS 1 rs (mZ m (D0 i) (D0 j) (bH.mk y.aR y.aM m.aa.av y.aS (E2 sl)) L)=(f,b)->Ls m.aa.aF.ls L y.aM y.aS->∃ o,(dZ f y.aR sl true).aX.ls=p.aX.ls++o/\Fs k m o b:=λ {L f b} e hL=>by
    have hA:nA (mZ m (D0 i) (D0 j) (bH.mk y.aR y.aM m.aa.av y.aS (E2 sl)) L)=nA (rE m (D0 i)):=rfl
    have hD:nD (mZ m (D0 i) (D0 j) (bH.mk y.aR y.aM m.aa.av y.aS (E2 sl)) L)=q7 (D0 j) (nD m)++y.aR::r3 (D0 j) (nD m):=by simp only [nD,mZ,v5,t2,S5,S6]
    have K:=H.toOk1.cut (D0 i)
    have G:Ok1 (mZ m (D0 i) (D0 j) (bH.mk y.aR y.aM m.aa.av y.aS (E2 sl)) L):=by
      refine⟨H.own,H.sh, ?_,K.sA, ?_, ?_,K.lA, ?_,hL.HY,hL.ok,λ d hd=> ?_,K.act⟩
      . have:=H.len; simp only [mZ,o1,List.length_take,List.length_drop,List.length_cons]; omega
      . rw [hD]
        refine Ci Nat.lt_trans H.sD (λ x hx=> ?_) (λ x hx=> ?_)
        . unfold nD at hx
          rw [<- S5] at hx
          obtain⟨z,hz,rfl⟩:=v4.1 hx
          have:=D z hz; dsimp only at this; omega
        . have hx':=hx
          unfold nD at hx
          rw [<- S6] at hx
          obtain⟨z,hz,rfl⟩:=v4.1 hx
          have u:=E z hz
          dsimp only at u
          have w:z.aN≠y.aR:=λ e=>hAD (e ▸ S2 hx')
          omega
      . intro x hx
        rw [hD]
        intro A
        rcases uS A with rfl | h
        . exact hnO hx
        . exact K.ad x hx h
      . intro x hx
        rw [hD] at hx
        rcases uS hx with rfl | h
        . exact hlA
        . exact H.lD x h
      . rcases uS hd with rfl | h
        . exact⟨Y.uh,hsh⟩
        . exact H.dec d h
    obtain⟨I,x,ex,s,hto,hrq,hcd⟩:=Bu e Y.uh G (λ d hd hne v J=>by
      obtain⟨l,hl,u,w⟩:=H.an d hd v J
      exact⟨l,hL.old l hl (by rw [u]; exact hne),u,w⟩) λ _=>hL.new
    have ha:=mP e
    have M:nA b=nA (rE m (D0 i)):=by unfold nA; rw [ha.2.1]; rfl
    have B:nD b=q7 (D0 j) (nD m)++y.aR::r3 (D0 j) (nD m):=by rw [<- hD]; unfold nD; rw [ha.1]
    have N:lS b=lS m:=by unfold lS; rw [ha.1,ha.2.2.1]; rfl
    obtain⟨r,er,hr⟩:=zV y.aR true sl f.aX.ls
    refine⟨[x]++r,by unfold dZ; simp only [bnd]; exact er.trans (by rw [ex,q4]),I,⟨hk,by rw [ha.1]; have:=n.bo; show m.aa.av<=_; omega,by rw [ha.2.2.1]; have:=n.bg; show m.bP<=_; omega⟩,⟨V7 N.symm,λ x hx=>by rw [B]; exact Cj hx,λ x hx=> ?_,λ x hx=> ?_⟩,λ z hz=> ?_⟩
    . rw [B] at hx
      rcases uS hx with rfl | h
      . exact .inr (.inl hnA)
      . exact .inl h
    . rw [M,yK] at hx; exact .inl ((nW _ _).subset hx)
    . rcases v6.1 hz with v | v
      . rw [m4.1 v]
        refine⟨λ e=>absurd (s.symm.trans e) f4,λ e=>absurd (s.symm.trans e) f4,λ e=>absurd (s.symm.trans e) f4,λ _ _=> ?_⟩
        obtain⟨l,hl,u,w⟩:=hL.new
        exact⟨l,by rw [ha.1]; exact hl,by rw [hto,u],by rw [w,hrq]⟩
      . obtain⟨C,k2,O⟩:=hr z v
        refine⟨λ e=>absurd (C.symm.trans e) f4,λ _ _=> ?_,λ _ e=>absurd (O.symm.trans e) f4,λ e=>absurd (C.symm.trans e) f4⟩
        rw [k2,B]; exact v2 _ b1
  split at h
  . have hge:ge=0:=by assumption
    have hx:(1<=y.aM/\y.aM<=4)/\rs.length<=4/\Gk rs:=⟨Y.uh,Nat.le_trans hg.2 Y.ops.1,hg.1⟩
    have kl:=Fb (x:=eD.mk y.aM m.aa.av y.aS (E2 rs)) el H.sL H.mH hx
    split at h
    . rename_i hq
      rcases e:dC p y.aM y.aS 1 rs (mZ m (D0 i) (D0 j) (bH.mk y.aR y.aM m.aa.av y.aS (E2 sl)) (u2 m.aa.aF.ls (D0 q) (eD.mk y.aM m.aa.av y.aS (E2 rs)))) with ⟨f,b⟩
      have ha:=mP e
      have e':=e
      unfold mZ at e'
      rw [e'] at h
      obtain⟨rfl,a⟩:=Prod.mk.inj h
      obtain rfl:=oG a (by rw [ha.1]; rfl) (by rw [ha.1]; rfl) (by rw [ha.1]; rfl) (by rw [ha.2.1]; rfl)
      exact go e (kl.1 hq)
    . rename_i hq
      rcases e:dC p y.aM y.aS 1 rs (mZ m (D0 i) (D0 j) (bH.mk y.aR y.aM m.aa.av y.aS (E2 sl)) (q7 (D0 q) m.aa.aF.ls++((eD.mk y.aM m.aa.av y.aS (E2 rs))::r3 (D0 q) m.aa.aF.ls))) with ⟨f,b⟩
      have ha:=mP e
      have e':=e
      unfold mZ at e'
      rw [e'] at h
      obtain⟨rfl,a⟩:=Prod.mk.inj h
      obtain rfl:=oG a (by rw [ha.1]; rfl) (by rw [ha.1]; rfl) (by rw [ha.1]; rfl) (by rw [ha.2.1]; rfl)
      exact go e (kl.2 hq)
  . rcases e:fq p i m with ⟨f,b⟩
    rw [e] at h
    have ha:=qf hi e
    obtain⟨rfl,a⟩:=Prod.mk.inj h
    obtain rfl:=oG a (by rw [ha.1]) (by rw [ha.1]) (by rw [ha.1]) rfl
    obtain⟨o,eo,g⟩:=xS hi e H
    exact⟨o,eo,g.fs H n hk⟩
theorem Ff {k:Nat} {p t:bI} {x:bL} {m m':aA} (h:kg p x m=(t,m')) (H:mR m) (n:Nk k m) (hk:k+1<=1000) (hx:Gk x.ai.ls):∃ o,t.aX.ls=p.aX.ls++o/\Fs k m o m':=by
  have same:(p,m)=(t,m')->∃ o,t.aX.ls=p.aX.ls++o/\Fs k m o m':=λ h=>by
    obtain⟨rfl,rfl⟩:=Prod.mk.inj h
    exact⟨[],(s6 _).symm,Fs.same H n hk λ x hx=>by cases hx⟩
  unfold kg jh at h
  simp only [bnd] at h
  rcases ef:bW m.ay.ls x.aN with ⟨i,ok⟩
  rw [ef] at h
  split at h
  case isFalse=>exact same h
  rename_i hok
  have hi:=yG ef hok
  split at h
  . exact same h
  split at h
  . exact same h
  have ab:∀ {d:bI} {a:aA},fq p i m=(d,a)->(d,aA.mk (cZ.mk a.aa.au a.aa.av a.aa.aV a.aa.aL (E2 m.aa.ag.ls) (E2 m.aa.aj.ls) (E2 m.aa.aF.ls)) a.bP (E2 a.ay.ls) a.bK a.bA a.bz a.bv a.bq a.dP a.dH a.dI a.dG a.dJ)=(t,m')->∃ o,t.aX.ls=p.aX.ls++o/\Fs k m o m':=λ e h=>by
    have ha:=qf hi e
    obtain⟨rfl,b⟩:=Prod.mk.inj h
    obtain rfl:=oG b (by rw [ha.1]) (by rw [ha.1]) (by rw [ha.1]) rfl
    obtain⟨o,eo,g⟩:=xS hi e H
    exact⟨o,eo,g.fs H n hk⟩
  split at h
  . have Y:=H.act _ (qE hi)
    obtain⟨y,hy⟩:∃ y,y=dK.mk (C0 m.ay.ls (D0 i) default).aR (C0 m.ay.ls (D0 i) default).aM (C0 m.ay.ls (D0 i) default).aS (C0 m.ay.ls (D0 i) default).dh (E2 (C0 m.ay.ls (D0 i) default).bV.ls) (E2 (C0 m.ay.ls (D0 i) default).aG.ls) (E2 (u2 (C0 m.ay.ls (D0 i) default).bD.ls (D0 (gT (C0 m.ay.ls (D0 i) default).aG.ls x)) true)) (E2 (u2 (C0 m.ay.ls (D0 i) default).af.ls (D0 (gT (C0 m.ay.ls (D0 i) default).aG.ls x)) (E2 x.ai.ls))) (C0 m.ay.ls (D0 i) default).eO:=⟨_,rfl⟩
    rw [<- hy] at h
    have hn:y.aR=(C0 m.ay.ls (D0 i) default).aR:=by rw [hy]
    have Y':Ya y:=by
      rw [hy]
      exact⟨Y.uh,Y.Gv,Y.ops,λ q hq=>by
        rcases O0 hq with j | rfl
        . exact Y.res q j
        . exact hx⟩
    have K:=H.set hn Y'
    have nS:Nk k (oh m (D0 i) y):=⟨n.lt,n.bo,n.bg⟩
    have f:nA (oh m (D0 i) y)=nA m:=vB hn
    split at h
    . split at h
      . obtain⟨rfl,rfl⟩:=Prod.mk.inj h
        exact⟨[],(s6 _).symm,K,nS.up hk,⟨o3 _,λ _ h=>h,λ _ h=> .inl h,λ z hz=> .inl (by rw [<- f]; exact hz)⟩,λ x hx=>by cases hx⟩
      . rcases e:jQ p i (oh m (D0 i) y) with ⟨d,a⟩
        have e':=e
        unfold oh at e'
        rw [e'] at h
        have hl:D0 i < (oh m (D0 i) y).ay.ls.length:=by unfold oh; simp only [H1]; exact hi
        have hc:=xx hl e
        obtain⟨rfl,b⟩:=Prod.mk.inj h
        obtain rfl:=oG b (by rw [hc.1.own]; rfl) rfl rfl rfl
        obtain⟨o,eo,F⟩:=DI hl e K nS hk
        exact⟨o,eo,F.ok,F.nk,⟨F.rl.bn,F.rl.dd,λ z hz=>by rw [<- f]; exact F.rl.dn z hz,λ z hz=>by rw [<- f]; exact F.rl.an z hz⟩,F.mo⟩
    . rcases e:fq p i m with ⟨d,a⟩
      rw [e] at h; exact ab e h
  . rcases e:fq p i m with ⟨d,a⟩
    rw [e] at h; exact ab e h
theorem Ck (p:bI) (n:Nat) (l:List Int) (f:Bool):∃ q,(dZ p n l f).aX.ls=p.aX.ls++q/\∀ x ∈ q,x.aD=5/\x.aN=n/\x.cz=f:=by
  unfold dZ; simp only [bnd]; exact zV n f l p.aX.ls
theorem Gi {k:Nat} (p:bI) (x:bL) {m:aA} (H:mR m) (n:Nk k m) (hk:k+1<=1000):∃ o,(lH p x m).aX.ls=p.aX.ls++o/\Fs k m o m:=by
  unfold lH
  simp only [bnd]
  rcases ed:bM m.aa.aj.ls x.aN with ⟨i,d⟩
  rcases ea:bW m.ay.ls x.aN with ⟨j,a⟩
  obtain⟨h,r,_,_⟩:=GZ ed H.sD
  obtain⟨_,s,_,_⟩:=Hy ea H.sA
  dsimp only at h r s ⊢
  obtain⟨q,eq,hq⟩:=Ck p x.aN [x.aJ] d
  have go:(d=true\/a=false)->∃ o,(dZ p x.aN [x.aJ] d).aX.ls=p.aX.ls++o/\Fs k m o m:=λ hd=>⟨q,eq,Fs.same H n hk λ y hy=>by
    obtain⟨t,k2,u⟩:=hq y hy
    refine⟨λ e=>absurd (t.symm.trans e) f4,λ _ e=> ?_,λ _ e=> ?_,λ e=>absurd (t.symm.trans e) f4⟩
    . obtain⟨hl,he⟩:=h (u.symm.trans e)
      rw [k2]
      exact v4.2 ⟨_,qE hl,Int.ofNat.inj he⟩
    . have b:d=false:=u.symm.trans e
      have f:a=false:=hd.resolve_left (by rw [b]; decide)
      rw [k2]
      refine⟨λ hm=> ?_,λ hm=> ?_⟩
      . obtain⟨z,hz,ez⟩:=v4.1 hm
        exact absurd (s ⟨z,hz,by rw [ez]⟩) (by rw [f]; decide)
      . obtain⟨z,hz,ez⟩:=v4.1 hm
        exact absurd (r ⟨z,hz,by rw [ez]⟩) (by rw [b]; decide)⟩
  split
  . rename_i g; exact go (.inl g)
  . split
    . exact⟨[],(s6 _).symm,Fs.same H n hk λ x hx=>by cases hx⟩
    . rename_i g; exact go (.inr (Bool.eq_false_iff.2 g))
theorem Ok1.bu {k:Nat} {m:aA} (H:mR m) (n:Nk k m):mR (p8 m)/\lS (p8 m)=lS m+1/\(p8 m).bP=m.bP+1:=by
  have e:=CE (H.im n)
  have a:lS (p8 m)=lS m+1:=by unfold lS; rw [show (p8 m).aa=m.aa from rfl,e]; omega
  exact⟨⟨⟨H.own,H.sh,H.len,H.sA,H.sD,H.ad,λ x hx=>by rw [a]; exact S3 (H.lA x hx),λ x hx=>by rw [a]; exact S3 (H.lD x hx),H.sL,H.mH,H.dec,H.act⟩,H.an⟩,a,e⟩
theorem Em {k:Nat} {p t:bI} {c:Int} {x:bL} {m m':aA} (h:dQ p c x m=(t,m')) (hc:1<=c/\c<=4) (H:mR m) (n:Nk k m) (hk:k+1<=1000):∃ o,t.aX.ls=p.aX.ls++o/\Fs k m o m':=by
  unfold dQ at h
  simp only [bnd] at h
  obtain⟨B,eb,ebg⟩:=Ok1.bu H n
  rcases ec:lF m.aa.ag.ls x.aH.ls with ⟨ps,e⟩
  rw [ec] at h
  rw [H.own] at ec
  have no:∀ {j:bI} {f:aA},dC p c x.aP 2 [] (p8 m)=(j,f)->(j,aA.mk (cZ.mk f.aa.au f.aa.av f.aa.aV f.aa.aL (E2 m.aa.ag.ls) (E2 m.aa.aj.ls) (E2 m.aa.aF.ls)) f.bP (E2 m.ay.ls) f.bK f.bA f.bz f.bv f.bq f.dP f.dH f.dI f.dG f.dJ)=(t,m')->∃ o,t.aX.ls=p.aX.ls++o/\Fs k m o m':=λ {j f} e h=>by
    have ha:=mP e
    obtain⟨rfl,s⟩:=Prod.mk.inj h
    obtain rfl:=oG s (by rw [ha.1]; rfl) (by rw [ha.1]; rfl) (by rw [ha.1]; rfl) (by rw [ha.2.1]; rfl)
    obtain⟨K,z,ez,hz,_,_,hcd⟩:=Bu e hc B.toOk1 (λ d hd _ g u=>B.an d hd g u) λ h=>absurd h f4
    have i:nA f=nA m:=by unfold nA; rw [ha.2.1]; rfl
    have w:nD f=nD m:=by unfold nD; rw [ha.1]; rfl
    have A:lS f=lS m+1:=by rw [<- eb]; unfold lS; rw [ha.1,ha.2.2.1]
    refine⟨[z],ez,K,⟨hk,by rw [ha.1]; have:=n.bo; show m.aa.av<=_; omega,by rw [ha.2.2.1,ebg]; have:=n.bg; omega⟩,⟨by rw [A]; exact Nat.le_succ _,λ x hx=>by rw [w]; exact hx,λ x hx=> .inl (by rw [<- w]; exact hx),λ x hx=> .inl (by rw [<- i]; exact hx)⟩,λ y hy=> ?_⟩
    rw [m4.1 hy]
    exact⟨λ e=>absurd (hz.symm.trans e) f4,λ e=>absurd (hz.symm.trans e) f4,λ e=>absurd (hz.symm.trans e) f4,λ _ e=>absurd (hcd.symm.trans e) f4⟩
  rcases i:dC p c x.aP 2 [] (p8 m) with ⟨j,f⟩
  have e':=i
  unfold p8 at e'
  rw [e'] at h
  split at h
  . exact no i h
  split at h
  . exact no i h
  split at h
  . exact no i h
  split at h
  . rename_i E G _ C
    obtain⟨q,eq,hq⟩:=yH c x m (fT m) ps ps 0 p.aX.ls
    obtain⟨rfl,rfl⟩:=Prod.mk.inj h
    have hnx:fT m=lS m+1:=wJ (H.im n)
    have hcs:=Gg ec C
    have Y:Ya (dK.mk (fT m) c x.aP m.aa.aL (E2 x.aH.ls) (E2 ps) (E2 (r6 (r8 ps) false)) (E2 (r6 (r8 ps) (E2 []:Ll aQ))) 0):=⟨hc,hcs.1,hcs.2,λ q hq=>by rw [(List.mem_replicate.1 hq).2]; intro x hx; cases hx⟩
    have r:nA (zC m (dK.mk (fT m) c x.aP m.aa.aL (E2 x.aH.ls) (E2 ps) (E2 (r6 (r8 ps) false)) (E2 (r6 (r8 ps) (E2 []:Ll aQ))) 0))=nA m++ [lS m+1]:=by
      show s5 dK.aR (m.ay.ls++ [_])=_
      rw [v5,t2,List.map_nil]; show _++ [fT m]=_; rw [hnx]; rfl
    have K:mR (zC m (dK.mk (fT m) c x.aP m.aa.aL (E2 x.aH.ls) (E2 ps) (E2 (r6 (r8 ps) false)) (E2 (r6 (r8 ps) (E2 []:Ll aQ))) 0)):=by
      refine⟨⟨H.own,H.sh, ?_, ?_,H.sD, ?_, ?_,B.lD,H.sL,H.mH,H.dec,λ y hy=> ?_⟩,H.an⟩
      . show r8 (m.ay.ls++ [_])+_<=8
        rw [o1,List.length_singleton]; show _+m.aa.aj.ls.length<=8; omega
      . rw [r]
        refine S1.2 ⟨H.sA,List.pairwise_singleton _ _,λ a ha b hb=> ?_⟩
        rw [m4.1 hb]; exact Nat.lt_succ_of_le (H.lA a ha)
      . rw [r]; intro z hz
        rcases v6.1 hz with g | g
        . exact H.ad z g
        . rw [m4.1 g]; exact λ u=>V6 _ (H.lD _ u)
      . rw [r]; intro z hz
        show z<=lS (p8 m)
        rw [eb]
        rcases v6.1 hz with g | g
        . exact S3 (H.lA z g)
        . rw [m4.1 g]; exact o3 _
      . rcases v6.1 hy with g | g
        . exact H.act y g
        . rw [m4.1 g]; exact Y
    refine⟨q,eq,K,⟨hk,by have:=n.bo; show m.aa.av<=_; omega,by show (p8 m).bP<=_; rw [ebg]; have:=n.bg; omega⟩,⟨by show lS m<=lS (p8 m); rw [eb]; exact Nat.le_succ _,λ _ h=>h,λ _ h=> .inl h,λ z hz=> ?_⟩,λ z hz=> ?_⟩
    . have hz':z ∈ nA m++ [lS m+1]:=r ▸ hz
      rcases v6.1 hz' with g | g
      . exact .inl g
      . rw [m4.1 g]; exact .inr (Nat.lt_succ_self _)
    . obtain⟨v,_,D⟩:=hq z hz
      exact⟨λ _=>(by rw [D,hnx, <- eb]; exact o3 _),λ e=>absurd (v.symm.trans e) f4,λ e=>absurd (v.symm.trans e) f4,λ e=>absurd (v.symm.trans e) f4⟩
  . exact no i h
theorem DJ (p:bI) (c:Int) (x:bL) (m:aA):∀ l:List eD,(dW p c x m l= .inl ())\/∃ t z y,dW p c x m l= .inr t/\t.aX.ls=p.aX.ls++ [z]/\z.aD=2/\z.fI=IntKind.i64.wrap (10+c)/\z.aP=x.aP/\y ∈ l/\y.aK=c/\y.aP=x.aP
  | []=> .inl rfl
  | y::l=>by
    simp only [dW,bnd]
    have ih:(dW p c x m l= .inl ())\/∃ t z y',dW p c x m l= .inr t/\t.aX.ls=p.aX.ls++ [z]/\z.aD=2/\z.fI=IntKind.i64.wrap (10+c)/\z.aP=x.aP/\y' ∈ y::l/\y'.aK=c/\y'.aP=x.aP:=by
      rcases DJ p c x m l with h | ⟨t,z,y',a,b,d,e,f,g,i⟩
      . exact .inl h
      . exact .inr ⟨t,z,y',a,b,d,e,f, .tail _ g,i⟩
    split
    . split
      . split
        . exact .inr ⟨_,_,y,rfl,rfl,rfl,rfl,rfl, .head _,f5,e6⟩
        . exact ih
      . exact ih
    . exact ih
theorem CP {k:Nat} {p t:bI} {x:bL} {m m':aA} (h:ji p x m=(t,m')) (hf:11<=x.aJ/\x.aJ<=14) (H:mR m) (n:Nk k m) (hk:k+1<=1000):∃ o,t.aX.ls=p.aX.ls++o/\Fs k m o m':=by
  unfold ji at h
  simp only [bnd] at h
  have one:∀ {z:bL},z.aD=2->(z.dz=1->∃ l ∈ m.aa.aF.ls,z.fI=10+l.aK/\l.aP=z.aP)->∀ y ∈ [z],Mo m y:=λ {z} hz hl y hy=>by
    rw [m4.1 hy]
    exact⟨λ e=>absurd (hz.symm.trans e) f4,λ e=>absurd (hz.symm.trans e) f4,λ e=>absurd (hz.symm.trans e) f4,λ _=>hl⟩
  have sa:(p,m)=(t,m')->∃ o,t.aX.ls=p.aX.ls++o/\Fs k m o m':=λ h=>by
    obtain⟨rfl,rfl⟩:=Prod.mk.inj h
    exact⟨[],(s6 _).symm,Fs.same H n hk λ x hx=>by cases hx⟩
  have sn:∀ y,(dw p y,m)=(t,m')->y.aD=2->y.fI=10+(x.aJ - 10)->(ni m (x.aJ - 10)).cO=true->y.aP=(ni m (x.aJ - 10)).aS->y.dz=(ni m (x.aJ - 10)).dA->∃ o,t.aX.ls=p.aX.ls++o/\Fs k m o m':=λ y h hy f g i j=>by
    obtain⟨rfl,rfl⟩:=Prod.mk.inj h
    refine⟨[_],rfl,Fs.same H n hk (one hy λ e=> ?_)⟩
    obtain⟨l,hl,q,r⟩:=H.an (x.aJ - 10) e6 g (j.symm.trans e)
    exact⟨l,hl,by rw [q]; exact f,r.trans i.symm⟩
  have be:((dQ p (x.aJ - 10) x m).1,(dQ p (x.aJ - 10) x m).2)=(t,m')->∃ o,t.aX.ls=p.aX.ls++o/\Fs k m o m':=λ h=>Em (show dQ p (x.aJ - 10) x m=(t,m') from h) e6 H n hk
  have ca:∀ {a:df},ni m (x.aJ - 10)=a->(if a.cO=true then if(a.aS:Int) >= (x.aP:Int) then if(a.aS:Int)=(x.aP:Int) then(dw p (bL.mk 2 0 (10+(x.aJ - 10)) 0 a.dA 0 a.aS m.aa.av 0 0 0 0 0 0 0 false (bC.mk [] []) (E2 []) (E2 a.af.ls) (E2 [])),m) else(p,m) else((dQ p (x.aJ - 10) x m).1,(dQ p (x.aJ - 10) x m).2) else((dQ p (x.aJ - 10) x m).1,(dQ p (x.aJ - 10) x m).2))=(t,m')->∃ o,t.aX.ls=p.aX.ls++o/\Fs k m o m':=λ {a} ea h=>by
    split at h
    . rename_i hg
      split at h
      . split at h
        . exact sn _ h rfl rfl (by rw [ea]; exact hg) (by rw [ea]) (by rw [ea])
        . exact sa h
      . exact be h
    . exact be h
  split at h
  . split at h
    . exact sa h
    split at h
    . rename_i hc; exact ca (if_pos hc) h
    rename_i b
    split at h
    . rename_i hc; exact ca ((if_neg b).trans (if_pos hc)) h
    rename_i d
    split at h
    . rename_i hc; exact ca ((if_neg b).trans ((if_neg d).trans (if_pos hc))) h
    . rename_i hc; exact ca ((if_neg b).trans ((if_neg d).trans (if_neg hc))) h
  . obtain⟨rfl,rfl⟩:=Prod.mk.inj h
    unfold kZ
    rcases DJ p (x.aJ - 10) x m m.aa.aF.ls with h | ⟨t,z,y,f,g,i,j,s,u,v,w⟩
    . rw [nT h]
      exact⟨[_],rfl,Fs.same H n hk (one rfl λ e=>absurd (show (2:Int)=1 from e) f4)⟩
    . rw [jm f]
      refine⟨[z],g,Fs.same H n hk (one i λ _=>⟨y,u, ?_,w.trans s.symm⟩)⟩
      rw [j,v,Lf _ e6]
theorem Fg {k:Nat} {p t:bI} {x:bL} {m m':aA} (h:iR p x m=(t,m')) (hx:Eh x) (hg:Gk x.ai.ls) (r:x.aD≠6) (H:mR m) (n:Nk k m) (hk:k+1<=1000):∃ o,t.aX.ls=p.aX.ls++o/\Fs k m o m':=by
  unfold iR at h
  simp only [bnd] at h
  split at h
  . rename_i d
    exact CP (show ji p x m=(t,m') from h) (hx.sU d) H n hk
  split at h
  . exact Ff (show kg p x m=(t,m') from h) H n hk hg
  split at h
  . obtain⟨rfl,rfl⟩:=Prod.mk.inj h
    exact Gi p x H n hk
  have mp:∀ {a:aA},(p,a)=(t,m')->a.aa=m.aa->a.ay.ls=m.ay.ls->a.bP=m.bP->(∀ c,ni a c=ni m c)->∃ o,t.aX.ls=p.aX.ls++o/\Fs k m o m':=λ {a} h b f e i=>by
    obtain⟨rfl,rfl⟩:=Prod.mk.inj h
    have j:nA a=nA m:=by unfold nA; rw [f]
    have g:nD a=nD m:=by unfold nD; rw [b]
    have q:lS a=lS m:=by unfold lS; rw [b,e]
    exact⟨[],(s6 _).symm,⟨H.toOk1.of b f e,λ c=>by rw [i,b]; exact H.an c⟩,⟨hk,by rw [b]; have:=n.bo; omega,by rw [e]; have:=n.bg; omega⟩,⟨V7 q.symm,λ x hx=>by rw [g]; exact hx,λ x hx=> .inl (by rw [<- g]; exact hx),λ x hx=> .inl (by rw [<- j]; exact hx)⟩,λ x hx=>by cases hx⟩
  split at h
  . split at h
    . exact mp h rfl rfl rfl λ _=>rfl
    split at h
    . exact mp h rfl rfl rfl λ _=>rfl
    split at h
    . exact mp h rfl rfl rfl λ _=>rfl
    . exact mp h rfl rfl rfl λ _=>rfl
  split at h
  . exact mp h rfl rfl rfl λ _=>rfl
  split at h
  . exact mp h rfl rfl rfl λ _=>rfl
  . exact mp h rfl rfl rfl λ _=>rfl
open List renaming length_singleton->v0,not_mem_nil->y6
theorem Gj {k:Nat} {m:aA} {x:bL} (b: ¬ x.aD=6) (H:mR m) (n:Nk k m) (hk:k+1<=1000):Fs k m (eT m x).1.fo.ls (eT m x).2.2:=by
  have s:Fs k m [] m:=Fs.same H n hk λ x hx=>by cases hx
  have g:∀ r,lQ x=r->r=0->Fs k m (iR (bI.mk (E2 [])) x m).1.aX.ls (iR (bI.mk (E2 [])) x m).2:=λ r e a=>by
    obtain⟨o,eo,F⟩:=Fg (t:=(iR (bI.mk (E2 [])) x m).1) (m':=(iR (bI.mk (E2 [])) x m).2) rfl (rR e a) (Gd (e.trans a)) b H n hk
    have eo':(iR (bI.mk (E2 [])) x m).1.aX.ls=o:=eo
    rw [eo']; exact F
  unfold eT bnd
  split
  . dsimp only
    split
    . rename_i a
      split
      . split
        . exact s
        . exact g _ rfl a
      . exact s
    . exact s
  . dsimp only
    split
    . rename_i a
      split
      . exact g _ rfl a
      . exact s
    . exact s
theorem Fp {p t:bI} {n:Nat} {m m':aA} (h:jJ p n m=(t,m')) (H:mR m):∃ o,t.aX.ls=p.aX.ls++o/\Gr m o m':=by
  have s:Gr m [] m:=⟨H,rfl,rfl,λ _ h=>h,λ x hx=>by cases hx⟩
  unfold jJ at h
  simp only [bnd] at h
  rcases ef:bW m.ay.ls n with ⟨i,ok⟩
  rw [ef] at h
  split at h
  case isFalse=>
    obtain⟨rfl,rfl⟩:=Prod.mk.inj h
    exact⟨[],(s6 _).symm,s⟩
  rename_i hok
  have hi:=yG ef hok
  have Y:=H.act _ (qE hi)
  have hA:=CO hi
  obtain⟨y,hy⟩:∃ y,y=dK.mk (C0 m.ay.ls (D0 i) default).aR (C0 m.ay.ls (D0 i) default).aM (C0 m.ay.ls (D0 i) default).aS (C0 m.ay.ls (D0 i) default).dh (E2 (C0 m.ay.ls (D0 i) default).bV.ls) (E2 (C0 m.ay.ls (D0 i) default).aG.ls) (E2 (C0 m.ay.ls (D0 i) default).bD.ls) (E2 (C0 m.ay.ls (D0 i) default).af.ls) (IntKind.i64.wrap ((C0 m.ay.ls (D0 i) default).eO+1)):=⟨_,rfl⟩
  rw [<- hy] at h
  have hn:y.aR=(C0 m.ay.ls (D0 i) default).aR:=by rw [hy]
  have Y':Ya y:=by rw [hy]; exact⟨Y.uh,Y.Gv,Y.ops,Y.res⟩
  have K:=H.set hn Y'
  have b:nA (oh m (D0 i) y)=nA m:=vB hn
  have d:Gr m [] (oh m (D0 i) y):=⟨K,rfl,rfl,λ z hz=>(by rw [<- b]; exact hz),λ x hx=>by cases hx⟩
  split at h
  . rcases e:fq p i (oh m (D0 i) y) with ⟨f,j⟩
    have e':=e
    unfold oh at e'
    rw [e'] at h
    have hl:D0 i < (oh m (D0 i) y).ay.ls.length:=by unfold oh; simp only [List.length_set]; exact hi
    have ha:=qf hl e
    obtain⟨rfl,a⟩:=Prod.mk.inj h
    obtain rfl:=oG a (by rw [ha.1]; rfl) (by rw [ha.1]; rfl) (by rw [ha.1]; rfl) rfl
    obtain⟨o,eo,g⟩:=xS hl e K
    exact⟨o,eo,d.trans g⟩
  . obtain⟨q,eq,hq⟩:=xR m i (C0 m.ay.ls (D0 i) default) (C0 (List.set m.ay.ls (D0 i) y) (D0 i) default) (C0 (List.set m.ay.ls (D0 i) y) (D0 i) default).aG.ls.length 0 p.aX.ls
    obtain⟨rfl,rfl⟩:=Prod.mk.inj h
    refine⟨q,eq,K,rfl,rfl,λ z hz=>(by rw [<- b]; exact hz),λ x hx=> ?_⟩
    obtain⟨c,k2⟩:=hq x hx
    refine⟨λ _=> ?_,λ e=>absurd (c.symm.trans e) f4,λ e=>absurd (c.symm.trans e) f4⟩
    rw [k2,L4,List.getElem?_set_self hi]
    show y.aR ∈ nA m
    rw [hn]; exact hA
theorem Cm (a:aA) (r:List UInt8):∀ (q:List Nat) (l:List bL) (m:aA),mR m->∃ o,(fV a r q l m).1=l++o/\Gr m o (fV a r q l m).2
  | [],l,m,H=>⟨[],(s6 l).symm,H,rfl,rfl,λ _ h=>h,λ x hx=>by cases hx⟩
  | x::q,l,m,H=>by
    obtain⟨b,e,c⟩:=Fp (t:=(jJ (bI.mk (E2 l)) x m).1) (m':=(jJ (bI.mk (E2 l)) x m).2) rfl H
    obtain⟨d,f,g⟩:=Cm a r q (jJ (bI.mk (E2 l)) x m).1.aX.ls _ c.ok
    exact⟨b++d,f.trans (by rw [e]; exact q4 l b d),c.trans g⟩
theorem Co (b:aA) (r:List UInt8) (m:aA):∀ (d:List bH) (l:List bL), ∃ q,jB b r m d l=l++q/\∀ x ∈ q,x.aD=5/\x.cz=true/\∃ y ∈ d,y.aN=x.aN
  | [],l=>⟨[],(s6 l).symm,λ x hx=>by cases hx⟩
  | x::d,l=>by
    obtain⟨c,g,i⟩:=Ck (bI.mk (E2 l)) x.aN x.au.ls true
    obtain⟨f,j,k⟩:=Co b r m d (dZ (bI.mk (E2 l)) x.aN x.au.ls true).aX.ls
    refine⟨c++f,j.trans (by rw [g]; exact q4 l c f),λ y hy=> ?_⟩
    rcases v6.1 hy with h | h
    . obtain⟨a,k2,n⟩:=i y h
      exact⟨a,n,x, .head _,k2.symm⟩
    . obtain⟨a,k2,z,hz,e⟩:=k y h
      exact⟨a,k2,z, .tail _ hz,e⟩
theorem Gm {k:Nat} {m:aA} (H:mR m) (n:Nk k m) (hk:k+1<=1000):Fs k m (jk m).1.fo.ls (jk m).2:=by
  unfold jk bnd
  dsimp only
  obtain⟨o,eo,g⟩:=Cm m (fA m.aa).1 (jK m) [] m H
  have F:=g.fs H n hk
  obtain⟨b,d,f⟩:=Co m (fA m.aa).1 (fV m (fA m.aa).1 (jK m) [] m).2 (fV m (fA m.aa).1 (jK m) [] m).2.aa.aj.ls (fV m (fA m.aa).1 (jK m) [] m).1
  obtain⟨c,h,i⟩:=zi (fA m.aa).1 (fV m (fA m.aa).1 (jK m) [] m).2 (D0 (m.aa.au+1 - 1)+1) 1 _ (by rw [g.st]; exact Nat.lt_succ_self _)
  refine⟨F.ok,F.nk,F.rl,λ x hx=> ?_⟩
  have hx':x ∈ o++b++c:=by
    have e:o++b++c=_:=(h.trans (congrArg (· ++c) (d.trans (congrArg (· ++b) eo)))).symm
    rw [e]; exact hx
  rcases v6.1 hx' with hx | hx
  . rcases v6.1 hx with hx | hx
    . exact F.mo x hx
    . obtain⟨a,k2,y,hy,e⟩:=f x hx
      exact⟨λ e=>absurd (a.symm.trans e) f4,λ _ _=>v4.2 ⟨y,hy,e⟩,λ _ e=>absurd (k2.symm.trans e) f4,λ e=>absurd (a.symm.trans e) f4⟩
  . have a:=i x hx
    exact⟨λ e=>absurd (a.symm.trans e) f4,λ e=>absurd (a.symm.trans e) f4,λ e=>absurd (a.symm.trans e) f4,λ e=>absurd (a.symm.trans e) f4⟩
theorem GJ {k:Nat} {m:aA} (H:mR m) (n:Nk k m) (hk:k+1<=1000):Fs k m [] (qo m.aa):=by
  have hb:(qo m.aa).aa.av=m.aa.av+1:=by
    show D0 (IntKind.u64.wrap ((m.aa.av:Int)+1))=_
    have:=n.bo
    rw [IntWalk.u64_in _ e6]; omega
  have d:nD (qo m.aa)=nD m:=rfl
  have a:nA (qo m.aa)= []:=rfl
  have b:lS m<=lS (qo m.aa):=by
    have:=n.bg
    unfold lS
    rw [hb,show (qo m.aa).bP=0 from rfl]; omega
  refine⟨⟨⟨H.own,H.sh, ?_,(by rw [a]; exact R7.nil),H.sD,(by rw [a]; exact λ x hx=>by cases hx),(by rw [a]; exact λ x hx=>by cases hx),λ x hx=>Nat.le_trans (H.lD x hx) b,H.sL,H.mH,H.dec,λ y hy=>absurd hy y6⟩,λ c hc h _=> ?_⟩,⟨hk,by rw [hb]; have:=n.bo; omega,Lg _⟩,⟨b,λ _ h=>h,λ _ h=> .inl h,λ x hx=>absurd (a ▸ hx) y6⟩,λ x hx=>by cases hx⟩
  . show 0+m.aa.aj.ls.length<=8; have:=H.len; omega
  . have:(ni (qo m.aa) c).cO=false:=by
      unfold ni
      split
      . rfl
      split
      . rfl
      split
      . rfl
      . rfl
    rw [this] at h; cases h
theorem EM {p:cZ} (hp:p.au=2) {k:Nat} {x:bH} (h:Bt x.au.ls):dU p k x x.au.ls 0= .inl ()/\gB p k x x.au.ls 0= .inl ():=by
  have a:gV 1 2=true:=by decide
  have b:gV 2 2=true:=by decide
  rcases h with e | e | e <;> (rw [e]; simp [dU,gB,ig,hp,a,b,e])
theorem DK {α:Type} [Inhabited α] {pre l:List α} (h:0 < pre.length):C0 (pre++l) (pre.length - 1) default ∈ pre:=by
  rw [L4,List.getElem?_append_left e6,List.getElem?_eq_getElem e6]
  exact List.getElem_mem _
theorem EN {p:cZ} (hp:p.au=2) (hb:p.av < 2147483647):∀ (l pre:List bH),p.aj.ls=pre++l->R7 (λ a b=>a.aN < b.aN) (pre++l)->(∀ d ∈ l,((1<=d.aK/\d.aK<=4)/\Bt d.au.ls)/\d.aN < (p.av+1) *4294967296)->dO p l pre.length= .inl ()
  | [],_,_,_,_=>rfl
  | x::l,pre,e,hs,hd=>by
    obtain⟨⟨hc,hsh⟩,hx⟩:=hd x b1
    have ih:=EN hp hb l (pre++ [x]) (by rw [e,q4]; rfl) (by rw [q4]; exact hs) λ d h=>hd d (.tail _ h)
    rw [o1,v0] at ih
    have c:eU (D0 (IntKind.u64.wrap ((p.av:Int)+1))) 32=(p.av+1) *4294967296:=by
      rw [IntWalk.u64_in _ e6]
      unfold eU; rw [show min 32 64=32 from rfl,show ((2:Int) ^ 32)=4294967296 from rfl,IntWalk.u64_in _ e6]; omega
    have ha:gV x.aK 4=true:=by unfold gV; rw [if_pos e6]; exact decide_eq_true hc.2
    have hl: ¬ (x.au.ls.length:Int)=0:=by rcases hsh with e | e | e <;> (rw [e]; decide)
    simp only [dO,ig,c,ha, ↓reduceIte]
    split
    . have hm:(C0 p.aj.ls (pre.length - 1) default).aN < x.aN:=by
        rw [e]
        exact(S1.1 hs).2.2 _ (DK e6) x b1
      have c1: ¬ (x.aN:Int)<=(((C0 p.aj.ls (pre.length - 1) default).aN:Nat):Int):=e6
      have c2: ¬ (x.aN:Int) >= (((p.av+1) *4294967296:Nat):Int):=e6
      rw [if_neg c1,if_neg c2,(EM hp hsh).1]; exact ih
    . rw [if_neg e6,(EM hp hsh).2]; exact ih
theorem CQ {x:eD} (h:Gk x.ai.ls) (k:Nat):∀ (q j:Nat),gq k x q j= .inl ()/\iV k x q j= .inl ()
  | 0,j=>⟨rfl,rfl⟩
  | q+1,j=>by
    have a:iA (aQ.mk (C0 x.ai.ls j default).eF (C0 x.ai.ls j default).aT (E2 (C0 x.ai.ls j default).ak.ls))=true:=Br h j
    simp only [gq,iV,ig,a, ↓reduceIte]
    exact CQ h k q (j+1)
theorem EO {l0:List eD}:∀ (l pre:List eD),l0=pre++l->R7 (λ a b=>a.aK < b.aK) (pre++l)->(∀ d ∈ l,(1<=d.aK/\d.aK<=4)/\d.ai.ls.length<=4/\Gk d.ai.ls)->fJ l0 l pre.length= .inl ()
  | [],_,_,_,_=>rfl
  | x::l,pre,e,hs,hd=>by
    obtain⟨hc,hr,hg⟩:=hd x b1
    have ih:=EO (l0:=l0) l (pre++ [x]) (by rw [e,q4]; rfl) (by rw [q4]; exact hs) λ d h=>hd d (.tail _ h)
    rw [o1,v0] at ih
    have ha:gV x.aK 4=true:=by unfold gV; rw [if_pos e6]; exact decide_eq_true hc.2
    simp only [fJ,ig,ha, ↓reduceIte]
    split
    . have hm:(C0 l0 (pre.length - 1) default).aK < x.aK:=by
        rw [e]
        exact(S1.1 hs).2.2 _ (DK e6) x b1
      rw [if_neg e6,if_neg e6,(CQ hg _ _ _).1]; exact ih
    . rw [if_neg e6,(CQ hg _ _ _).2]; exact ih
theorem few {b:Int}:∀ {L:List Int} {a:Int},R7 (· < ·) L->(∀ x ∈ L,a<=x/\x<=b)->((L.length:Nat):Int)<=max 0 (b - a+1)
  | [],a,_,_=>by simp only [List.length_nil]; omega
  | x::L,a,hs,h=>by
    obtain⟨c,d⟩:=List.pairwise_cons.1 hs
    have:=few (a:=x+1) d λ y hy=>⟨c y hy,(h y (.tail _ hy)).2⟩
    have:=h x b1
    simp only [List.length_cons]; omega
theorem Gn {p:cZ} (ho:p.ag.ls=OW) (hs:p.au=2):ma p=true:=by
  unfold ma
  rw [ho]
  refine(ah (show kR OW=0 by decide+kernel)).trans ?_
  simp [jy,OW,hs,lp]
theorem Gp {k:Nat} {m:aA} (H:mR m) (n:Nk k m):lU m.aa=true:=by
  have hb:=n.bo
  have hk:=n.lt
  have hg:=n.bg
  unfold lU
  have a:=H.len
  rw [if_neg e6]
  refine nT (EN H.sh e6 m.aa.aj.ls [] rfl (V5.1 H.sD) λ d hd=>⟨H.dec d hd, ?_⟩)
  have:=H.lD _ (v4.2 ⟨d,hd,rfl⟩)
  unfold lS at this; omega
theorem Gq {m:aA} (H:mR m):nC m.aa.aF.ls=true:=by
  unfold nC
  have:=few (a:=1) (b:=4) H.sL λ x hx=>by
    obtain⟨l,hl,rfl⟩:=v4.1 hx
    exact(H.mH l hl).1
  rw [List.length_map] at this
  rw [if_neg e6]
  exact nT (EO m.aa.aF.ls [] rfl (V5.1 H.sL) H.mH)
theorem Gs {k:Nat} {m:aA} (H:mR m) (n:Nk k m):gJ m.aa=0:=by
  have hb:=n.bo
  have hk:=n.lt
  have a:gV m.aa.au 4=true:=by rw [H.sh]; decide
  have b:(m.aa.av:Int) < 2147483648:=e6
  unfold gJ
  refine(ah a).trans ?_
  rw [if_pos rfl,if_pos b]
  refine(ah (Gn H.own H.sh)).trans ?_
  rw [if_pos rfl]
  refine(ah (Gp H n)).trans ?_
  rw [if_pos rfl]
  exact(ah (Gq H)).trans rfl
open IntKind renaming u64->D1
open List renaming flatMap->q3,length_replicate->H2,mem_flatMap->Q3,toArray->v9
open Sv renaming mk->H0
open _root_.Go.Proofs.Tryz renaming call13->V8,isAgg28->D4,isAgg3->C4,isAgg33->U1,isAgg4->N3,isAgg42->N5,isAgg45->U3,sizeOf28->N7,sizeOf33->H4,sizeOf42->N6,sizeOf47->T4
section
open Go.RowKit
def vD:Bool:=
 bnd (gJ (cZ.mk 2 0 0 1 (E2 ([(aY.mk [] 1),(aY.mk ([109]) 2)])) (E2 []) (E2 []))) λ n=>if n=0 then bnd (gW (cZ.mk 2 0 0 1 (E2 ([(aY.mk [] 1),(aY.mk ([109]) 2)])) (E2 []) (E2 []))) λ a=>bnd ((aA.mk (cZ.mk a.au (D0 (D1.wrap ((a.av:Int)+1))) (eU (D0 (D1.wrap ((a.av:Int)+1))) 32) a.aL (E2 a.ag.ls) (E2 a.aj.ls) (E2 a.aF.ls)) 0 (E2 []) (df.mk false 0 0 (E2 [])) (df.mk false 0 0 (E2 [])) (df.mk false 0 0 (E2 [])) (df.mk false 0 0 (E2 [])) (df.mk false 0 0 (E2 [])) 0 0 0 0 0)) λ o=>bnd (eT o (bL.mk 1 11 0 0 0 0 1 1 0 0 0 0 0 0 0 false (bC.mk [] []) (E2 ([(bi.mk 2 ([97]) ([49]) [] [] 0),(bi.mk 2 ([122]) ([50]) [] [] 0)])) (E2 []) (E2 []))) λ c=>bnd (eT c.2.2 (bL.mk 4 1 0 0 3 0 0 0 4294967297 0 0 0 0 0 0 false (bC.mk [] []) (E2 []) (E2 (r6 1 (aQ.mk false [] (E2 [])))) (E2 []))) λ d=>bnd (eT d.2.2 (bL.mk 4 2 0 0 3 0 0 0 4294967297 0 0 0 0 0 0 false (bC.mk [] []) (E2 []) (E2 (r6 1 (aQ.mk false [] (E2 [])))) (E2 []))) λ b=>bnd (eT b.2.2 (bL.mk 1 11 0 0 0 0 1 1 0 0 0 0 0 0 0 false (bC.mk [] []) (E2 ([(bi.mk 2 ([97]) ([49]) [] [] 0),(bi.mk 2 ([122]) ([50]) [] [] 0)])) (E2 []) (E2 []))) λ e=>bnd (eT e.2.2 (bL.mk 1 11 0 0 0 0 1 0 0 0 0 0 0 0 0 false (bC.mk [] []) (E2 ([(bi.mk 2 ([97]) ([49]) [] [] 0),(bi.mk 2 ([122]) ([50]) [] [] 0)])) (E2 []) (E2 []))) λ f=>bnd (eT f.2.2 (bL.mk 7 1 0 0 0 0 0 0 99 0 0 0 0 0 0 false (bC.mk [] []) (E2 []) (E2 []) (E2 []))) λ g=>if(c.1.fo.ls.length:Int)=2 then bnd (C0 c.1.fo.ls 1 default) λ h=>if h.aD=3 then if(h.aN:Int)=4294967297 then if(d.1.fo.ls.length:Int)=0 then if d.1.jl=true then false else if(b.1.fo.ls.length:Int)=3 then bnd (C0 b.1.fo.ls 0 default) λ i=>if i.dz=1 then bnd (C0 b.1.fo.ls 2 default) λ j=>if j.cz=true then if b.1.jl=true then if(e.1.fo.ls.length:Int)=1 then bnd (C0 e.1.fo.ls 0 default) λ k=>if k.dz=1 then if(f.1.fo.ls.length:Int)=1 then bnd (C0 f.1.fo.ls 0 default) λ l=>if l.dz=2 then if(g.1.fo.ls.length:Int)=1 then bnd (C0 g.1.fo.ls 0 default) λ m=> !m.cz else false else false else false else false else false else false else false else false else false else false else false else false else false else false
theorem BB (w D r0) (H:Own w D w []) (hr:vD=r0):
    Calls Tryz.prog 7 #[] w (d9 λ v w'=>v= .bool r0/\Own w D w' []):=by
 refine cb Tryz.func7 ?_
 refine sr (Ar rfl ?_)
 refine WL.do rfl (Iz Tryz.call9 rfl ?_ (λ _ _ k=>k))
 refine cb Tryz.func9 ?_
 refine sr ?_
 refine dV [vI 0, .int .u64 0, .int .u64 0, .int .u64 0, .slice none 0 0, .slice none 0 0, .slice none 0 0] 33 H ?_
 intro mh mi jd
 refine ns (Kz (.agg #[.string ⟨v9 []⟩,vI 1]) (Kz (.agg #[.string ⟨v9 ([109])⟩,vI 2]) ?_))
 refine lg [.string ⟨v9 []⟩,vI 1, .string ⟨v9 ([109])⟩,vI 2] 89 2 2 jd ?_
 intro aT mo dZ
 replace dZ:=IL (y:=row aT 2 2 (q3 aY.cells ([(aY.mk [] 1),(aY.mk ([109]) 2)])) 89 2) rfl dZ
 refine Kz (.agg #[vI 2, .int .u64 0, .int .u64 0, .int .u64 1, .slice aT 2 2, .slice none 0 0, .slice none 0 0]) ?_
 have je:=dZ.pb [0]
 refine dS [vI 2, .int .u64 0, .int .u64 0, .int .u64 1, .slice aT 2 2, .slice none 0 0, .slice none 0 0] 0 je H4 ?_
 intro mq fJ
 refine nt (rt (Fin.res (ol rfl rfl (Iy (cs:= [vI 2, .int .u64 0, .int .u64 0, .int .u64 1, .slice aT 2 2, .slice none 0 0, .slice none 0 0]) U1 H4 ((fJ.cls (i:=0) rfl).lit (k:=0) (m:=7) rfl))) ?_))
 refine WL.do rfl (Iz Tryz.call8 rfl ?_ (λ _ _ k=>k))
 refine cb Tryz.func8 ?_
 refine Ic ?_
 have jg:=fJ.pk [1]
 refine Ib ?_
 refine dV [vI 2, .int .u64 0, .int .u64 0, .int .u64 1, .slice aT 2 2, .slice none 0 0, .slice none 0 0] 33 jg ?_
 intro jh mr fK
 refine Az rfl (An rfl (Ic (sr (La ([vI 2, .int .u64 0, .int .u64 0, .int .u64 1, .slice aT 2 2, .slice none 0 0, .slice none 0 0]) fK 0 U1 H4 ?_))))
 obtain⟨cK,F⟩:∃ q,gJ (cZ.mk 2 0 0 1 (E2 ([(aY.mk [] 1),(aY.mk ([109]) 2)])) (E2 []) (E2 []))=q:=⟨_,rfl⟩
 obtain⟨mD,fM,kS,fO,fP⟩:=Ii fK
 refine cl Tryz.call19 (mV _ _ (cZ.mk 2 0 0 1 (E2 ([(aY.mk [] 1),(aY.mk ([109]) 2)])) (E2 []) (E2 [])) aT 2 2 none 0 0 [] none 0 0 [] cK fM rfl (fP _ 1 _ rfl aO) f2 rfl rfl (λ _ _=>bE.nil _ _ _) f2 (λ _ h9=>absurd h9 y6) rfl rfl (λ _ _=>bE.nil _ _ _) f2 (λ _ h9=>absurd h9 y6) e8 F) ?_
 rintro _ mE ⟨rfl,fQ⟩
 have cO:=fO _ _ fQ
 refine fw (.bool (decide (¬ (cK=0)))) (IG (e:= !(decide (cK=0))) yk decide_not.symm) (Mz rfl ?_)
 by_cases O:cK=0
 refine gw (vP jh 1) (dF (Lh O)) yk (gw (.int .u64 0) (dF (Lh O)) (Io rfl (bZ.one D4 (jR.of (cO.cls (i:=0) rfl) rfl))) (gw (.bool false) (dF (Lh O)) yk (fw (.bool false) (Ih rfl (dF (Lh O)) rfl) (nt (jf (sk (sr (La ([vI 2, .int .u64 0, .int .u64 0, .int .u64 1, .slice aT 2 2, .slice none 0 0, .slice none 0 0]) cO 0 U1 H4 ?_))))))))
 obtain⟨f,G⟩:∃ q,gW (cZ.mk 2 0 0 1 (E2 ([(aY.mk [] 1),(aY.mk ([109]) 2)])) (E2 []) (E2 []))=q:=⟨_,rfl⟩
 obtain⟨mF,fT,kT,fU,fV⟩:=Ii cO
 refine cl Tryz.call20 (nN _ _ (cZ.mk 2 0 0 1 (E2 ([(aY.mk [] 1),(aY.mk ([109]) 2)])) (E2 []) (E2 [])) aT 2 2 none 0 0 [] none 0 0 [] f fT rfl (fV _ 1 _ rfl aO) f2 rfl rfl (λ _ _=>bE.nil _ _ _) f2 (λ _ h9=>absurd h9 y6) rfl rfl (λ _ _=>bE.nil _ _ _) f2 (λ _ h9=>absurd h9 y6) e8 (by first | assumption | exact wM f5 | exact λ _ h9=>absurd h9 y6) (by first | assumption | exact wN f5 | exact λ _ h9=>absurd h9 y6) G) ?_
 rintro _ mG ⟨fZ,gp,gq,gu,gy,gz,mH,mI,rfl,gB,di,dm⟩
 have dh:=fU _ _ gB
 have kU:=aB di
 have kV:=aB dm
 have kW:=zr 0 dh
 have kX:=zr 1 dh
 have kY:=zr 3 dh
 have kZ:f.ag.ls.length=2/\f.au=2/\f.aj.ls.length=0/\f.aF.ls.length=0:=Ch G
 refine Kz (.agg #[vI f.au,vU f.av,vU f.aV,vU f.aL, .slice fZ f.ag.ls.length gp, .slice gq f.aj.ls.length gu, .slice gy f.aF.ls.length gz, .int .u64 0, .slice none 0 0, .bool false, .int .u64 0,vI 0, .slice none 0 0, .bool false, .int .u64 0,vI 0, .slice none 0 0, .bool false, .int .u64 0,vI 0, .slice none 0 0, .bool false, .int .u64 0,vI 0, .slice none 0 0, .bool false, .int .u64 0,vI 0, .slice none 0 0, .int .u64 0, .int .u64 0, .int .u64 0, .int .u64 0, .int .u64 0, .pointer none]) ?_
 refine dV [vI f.au,vU f.av,vU f.aV,vU f.aL, .slice fZ f.ag.ls.length gp, .slice gq f.aj.ls.length gu, .slice gy f.aF.ls.length gz, .int .u64 0, .slice none 0 0, .bool false, .int .u64 0,vI 0, .slice none 0 0, .bool false, .int .u64 0,vI 0, .slice none 0 0, .bool false, .int .u64 0,vI 0, .slice none 0 0, .bool false, .int .u64 0,vI 0, .slice none 0 0, .bool false, .int .u64 0,vI 0, .slice none 0 0, .int .u64 0, .int .u64 0, .int .u64 0, .int .u64 0, .int .u64 0, .pointer none] 86 dh ?_
 intro U mJ ji
 refine An rfl (Ic ?_)
 have gD:=ji.px [] [6] []
 refine Ib (Mz rfl (Kz (vP U 0) (Kz (vP U 0) (Kz (vP U 1) (Lz (vU f.av) gD 0 D4 (fw (.int .u64 ((D0 (D1.wrap ((f.av:Int)+1)):Nat):Int)) (Ie (e:=D1.wrap ((f.av:Int)+1)) yk (fD _)) (Kz (vP U 0) (Kz (vP U 0) (Kz (vP U 1) ?_)))))))))
 refine dS [.int .u64 ((D0 (D1.wrap ((f.av:Int)+1)):Nat):Int)] 1 gD N7 ?_
 intro mK gF
 refine ns (Mz rfl (Mz rfl (Kz (vP U 0) (Kz (vP U 0) (Kz (vP U 1) (Lz (.int .u64 ((D0 (D1.wrap ((f.av:Int)+1)):Nat):Int)) gF 0 D4 ?_))))))
 have lc:eU (D0 (D1.wrap ((f.av:Int)+1))) 32<=18446744073709551615:=nZ _ _
 refine fw (.int .u64 ((eU (D0 (D1.wrap ((f.av:Int)+1))) 32:Nat):Int)) (Ie (Jv (m:=32) rfl rfl) (fD _)) (Kz (vP U 0) (Kz (vP U 0) (Kz (vP U 2) ?_)))
 refine dS [.int .u64 ((eU (D0 (D1.wrap ((f.av:Int)+1))) 32:Nat):Int)] 2 gF N7 ?_
 intro aC jk
 refine ns (Mz rfl (Az rfl (An rfl (rt (Fin.res (lW rfl rfl rfl) ?_)))))
 have jl:Own w D aC (sepL (q3 bB.own [])::_):=jk.sepNil
 have jm:Own w D aC (row none 0 0 (q3 bB.cells []) 107 9::_):=jl.free (eZ 107 9)
 have jo:Own w D aC (sepL (q3 ae.own [])::_):=jm.sepNil
 have jq:Own w D aC (row none 0 0 (q3 ae.cells []) 149 3::_):=jo.free (eZ 149 3)
 have jr:Own w D aC (sepL (q3 ae.own [])::_):=jq.sepNil
 have jv:Own w D aC (row none 0 0 (q3 ae.cells []) 149 3::_):=jr.free (eZ 149 3)
 have jw:Own w D aC (sepL (q3 ae.own [])::_):=jv.sepNil
 have jy:Own w D aC (row none 0 0 (q3 ae.cells []) 149 3::_):=jw.free (eZ 149 3)
 have jA:Own w D aC (sepL (q3 ae.own [])::_):=jy.sepNil
 have jB:Own w D aC (row none 0 0 (q3 ae.cells []) 149 3::_):=jA.free (eZ 149 3)
 have jC:Own w D aC (sepL (q3 ae.own [])::_):=jB.sepNil
 have jD:Own w D aC (row none 0 0 (q3 ae.cells []) 149 3::_):=jC.free (eZ 149 3)
 have jE:=jD.pf [12,13,14,15,16,17,10,11]
 have jF:Own w D aC (iG U (aA.mk (cZ.mk f.au (D0 (D1.wrap ((f.av:Int)+1))) (eU (D0 (D1.wrap ((f.av:Int)+1))) 32) f.aL (E2 f.ag.ls) (E2 f.aj.ls) (E2 f.aF.ls)) 0 (E2 []) (df.mk false 0 0 (E2 [])) (df.mk false 0 0 (E2 [])) (df.mk false 0 0 (E2 [])) (df.mk false 0 0 (E2 [])) (df.mk false 0 0 (E2 [])) 0 0 0 0 0)::_):=fe di dm rfl rfl rfl rfl rfl rfl jE
 obtain⟨aJ,I⟩:∃ q,(aA.mk (cZ.mk f.au (D0 (D1.wrap ((f.av:Int)+1))) (eU (D0 (D1.wrap ((f.av:Int)+1))) 32) f.aL (E2 f.ag.ls) (E2 f.aj.ls) (E2 f.aF.ls)) 0 (E2 []) (df.mk false 0 0 (E2 [])) (df.mk false 0 0 (E2 [])) (df.mk false 0 0 (E2 [])) (df.mk false 0 0 (E2 [])) (df.mk false 0 0 (E2 [])) 0 0 0 0 0)=q:=⟨_,rfl⟩
 have jG:Own w D aC [iG U aJ,row aT 2 2 (q3 aY.cells ([(aY.mk [] 1),(aY.mk ([109]) 2)])) 89 2]:=by rw [<- I]; exact jF
 have lh:Mk aJ:=wO f5 f5
 have ll:aJ.aa.ag.ls.length<=1000/\aJ.aa.au<=4/\aJ.ay.ls.length+aJ.aa.aj.ls.length<=8/\aJ.aa.aF.ls.length<=0:=tZ f5 f5
 refine Mz rfl (Kz (vP U 0) (Kz (vI 0) (Az rfl (An rfl (Ic (Ic ?_))))))
 have jH:=jG.pk [0]
 refine Ib (Mz rfl (Kz (.bool false) (Mz rfl (gw (vI 0) rfl (Iq rfl) (Gz (.bool false) rfl (fw (.bool false) (Ih rfl rfl rfl) (nt (jf (sk (sr (Kz (.agg #[vI 2, .string ⟨v9 ([97])⟩, .string ⟨v9 ([49])⟩, .string ⟨v9 []⟩, .string ⟨v9 []⟩,vI 0]) (Kz (.agg #[vI 2, .string ⟨v9 ([122])⟩, .string ⟨v9 ([50])⟩, .string ⟨v9 []⟩, .string ⟨v9 []⟩,vI 0]) ?_))))))))))))
 refine lg [vI 2, .string ⟨v9 ([97])⟩, .string ⟨v9 ([49])⟩, .string ⟨v9 []⟩, .string ⟨v9 []⟩,vI 0,vI 2, .string ⟨v9 ([122])⟩, .string ⟨v9 ([50])⟩, .string ⟨v9 []⟩, .string ⟨v9 []⟩,vI 0] 72 6 2 jH ?_
 intro aD lm bD
 replace bD:=IL (y:=row aD 2 2 (q3 bi.cells ([(bi.mk 2 ([97]) ([49]) [] [] 0),(bi.mk 2 ([122]) ([50]) [] [] 0)])) 72 6) rfl bD
 refine Kz (.agg (gU 1 11 0 0 0 0 1 1 0 0 0 0 0 0 0 false [] [] aD 2 2 none 0 0 none 0 0).toArray) ?_
 refine dV (gU 0 0 0 0 0 0 0 0 0 0 0 0 0 0 0 false [] [] none 0 0 none 0 0 none 0 0) 42 bD ?_
 intro gG lq gH
 refine dS (gU 1 11 0 0 0 0 1 1 0 0 0 0 0 0 0 false [] [] aD 2 2 none 0 0 none 0 0) 0 gH N6 ?_
 intro lu dn
 refine ns (Mz rfl (La (gU 1 11 0 0 0 0 1 1 0 0 0 0 0 0 0 false [] [] aD 2 2 none 0 0 none 0 0) dn 0 N5 N6 ?_))
 have gI:=dn.pf [2]
 obtain⟨⟨aj,dw,Z⟩,l⟩:∃ q:kC × Int × aA,eT aJ (bL.mk 1 11 0 0 0 0 1 1 0 0 0 0 0 0 0 false (bC.mk [] []) (E2 ([(bi.mk 2 ([97]) ([49]) [] [] 0),(bi.mk 2 ([122]) ([50]) [] [] 0)])) (E2 []) (E2 []))=q:=⟨_,rfl⟩
 obtain⟨lv,ed,jI,ek,eu⟩:=II gI
 refine cl V8 (j5 _ _ U aJ (bL.mk 1 11 0 0 0 0 1 1 0 0 0 0 0 0 0 false (bC.mk [] []) (E2 ([(bi.mk 2 ([97]) ([49]) [] [] 0),(bi.mk 2 ([122]) ([50]) [] [] 0)])) (E2 []) (E2 [])) aD 2 2 none 0 0 [] none 0 0 aj dw Z ed rfl (eu _ 1 _ rfl aO) f2 rfl rfl (λ _ _=>bE.nil _ _ _) f2 (λ _ h9=>absurd h9 y6) rfl (λ _ _=>bE.nil _ _ _) f2 f9 f5 l) ?_
 rintro _ lw ⟨V,aX,gK,rfl,eB,bF,bG,bH⟩
 have dx:=ek _ _ eB
 have jJ:=aB bF
 have jK:=zr 0 dx
 replace bG:Z.aa.ag.ls.length=aJ.aa.ag.ls.length/\Z.aa.au=aJ.aa.au/\Z.ay.ls.length+Z.aa.aj.ls.length<=8/\Z.aa.aF.ls.length<=aJ.aa.aF.ls.length+1:=bG
 replace bH:Mk Z:=bH
 refine Mz rfl (Kz (.agg #[.slice V aj.fo.ls.length aX, .bool aj.jl]) (Kz (vI dw) ?_))
 refine dV [.slice none 0 0, .bool false] 47 dx ?_
 intro bI lC gL
 refine dS [.slice V aj.fo.ls.length aX, .bool aj.jl] 0 gL T4 ?_
 intro lD gM
 refine Ar rfl ?_
 refine WL.do rfl (Jl (x0:=(ae.mk false [] (H0 none 0 []))) (z:= .agg #[.bool false, .string ⟨v9 []⟩, .slice none 0 0]) (k:=1) (size:=3) (bytes:=48) ae.len f4 rfl Tryz.underlying40 e7 gM rfl rfl e6 (by unfold maxLen; omega) ?_)
 intro aU gN gP
 have aV:List.map ae.abs (r6 1 (ae.mk false [] (H0 none 0 [])))=(r6 1 (aQ.mk false [] (E2 []))):=List.map_replicate
 have gQ:Own w D gN (sepL (q3 ae.own (r6 1 (ae.mk false [] (H0 none 0 []))))::_):=gP.free (uX (xA (eZ 153 2)))
 have jL:r8 (r6 1 (ae.mk false [] (H0 none 0 [])))=1:=H2
 have jM:r8 (r6 1 (aQ.mk false [] (E2 [])))=1:=H2
 refine Kz (.agg (gU 4 1 0 0 3 0 0 0 4294967297 0 0 0 0 0 0 false [] [] none 0 0 aU 1 1 none 0 0).toArray) ?_
 refine dV (gU 0 0 0 0 0 0 0 0 0 0 0 0 0 0 0 false [] [] none 0 0 none 0 0 none 0 0) 42 gQ ?_
 intro gT lF gV
 refine dS (gU 4 1 0 0 3 0 0 0 4294967297 0 0 0 0 0 0 false [] [] none 0 0 aU 1 1 none 0 0) 0 gV N6 ?_
 intro lG dz
 refine ns (Mz rfl (La (gU 4 1 0 0 3 0 0 0 4294967297 0 0 0 0 0 0 false [] [] none 0 0 aU 1 1 none 0 0) dz 0 N5 N6 ?_))
 have dA:=dz.pf [6]
 obtain⟨⟨T,dB,aa⟩,n⟩:∃ q:kC × Int × aA,eT Z (bL.mk 4 1 0 0 3 0 0 0 4294967297 0 0 0 0 0 0 false (bC.mk [] []) (E2 []) (E2 (r6 1 (aQ.mk false [] (E2 [])))) (E2 []))=q:=⟨_,rfl⟩
 obtain⟨lH,eD,jN,eF,bK⟩:=II dA
 refine cl V8 (j5 _ _ U Z (bL.mk 4 1 0 0 3 0 0 0 4294967297 0 0 0 0 0 0 false (bC.mk [] []) (E2 []) (E2 (r6 1 (aQ.mk false [] (E2 [])))) (E2 [])) none 0 0 aU 1 1 (r6 1 (ae.mk false [] (H0 none 0 []))) none 0 0 T dB aa eD rfl (λ _ _=>bE.nil _ _ _) f2 aV f1 (λ w9 h9=>qg (aB aV) ((bK _ 2 _ rfl aO) w9 h9)) e6 (λ x9 h9=>⟨bK _ 1 _ rfl (ax (Q3.2 ⟨x9,h9,b1⟩) aO),aZ (φ:=λ _=>_) dA (i:=2) rfl (ax (Q3.2 ⟨x9,h9,b1⟩) aW)⟩) rfl (λ _ _=>bE.nil _ _ _) f2 f9 f5 n) ?_
 rintro _ lI ⟨bM,bN,lJ,rfl,eG,eH,bO,bP⟩
 have dC:=eF _ _ eG
 have jP:=aB eH
 have jQ:=zr 0 dC
 replace bO:aa.aa.ag.ls.length=Z.aa.ag.ls.length/\aa.aa.au=Z.aa.au/\aa.ay.ls.length+aa.aa.aj.ls.length<=8/\aa.aa.aF.ls.length<=Z.aa.aF.ls.length+1:=bO
 replace bP:Mk aa:=bP
 refine Mz rfl (Kz (.agg #[.slice bM T.fo.ls.length bN, .bool T.jl]) (Kz (vI dB) ?_))
 refine dV [.slice none 0 0, .bool false] 47 dC ?_
 intro dD lK gY
 refine dS [.slice bM T.fo.ls.length bN, .bool T.jl] 0 gY T4 ?_
 intro lL gZ
 refine Ar rfl (Kz (vP gT 1) ?_)
 have ib:=gZ.pf [4]
 refine dS [vI 2] 1 ib Tryz.sizeOf3 ?_
 intro lM dE
 refine ns (Mz rfl (La (gU 4 2 0 0 3 0 0 0 4294967297 0 0 0 0 0 0 false [] [] none 0 0 aU 1 1 none 0 0) dE 0 N5 N6 ?_))
 have dG:=dE.pf [4]
 obtain⟨⟨P,dH,af⟩,o⟩:∃ q:kC × Int × aA,eT aa (bL.mk 4 2 0 0 3 0 0 0 4294967297 0 0 0 0 0 0 false (bC.mk [] []) (E2 []) (E2 (r6 1 (aQ.mk false [] (E2 [])))) (E2 []))=q:=⟨_,rfl⟩
 obtain⟨lN,eO,jS,eP,bQ⟩:=II dG
 refine cl V8 (j5 _ _ U aa (bL.mk 4 2 0 0 3 0 0 0 4294967297 0 0 0 0 0 0 false (bC.mk [] []) (E2 []) (E2 (r6 1 (aQ.mk false [] (E2 [])))) (E2 [])) none 0 0 aU 1 1 (r6 1 (ae.mk false [] (H0 none 0 []))) none 0 0 P dH af eO rfl (λ _ _=>bE.nil _ _ _) f2 aV f1 (λ w9 h9=>qg (aB aV) ((bQ _ 5 _ rfl aO) w9 h9)) e6 (λ x9 h9=>⟨bQ _ 4 _ rfl (ax (Q3.2 ⟨x9,h9,b1⟩) aO),aZ (φ:=λ _=>_) dG (i:=5) rfl (ax (Q3.2 ⟨x9,h9,b1⟩) aW)⟩) rfl (λ _ _=>bE.nil _ _ _) f2 f9 f5 o) ?_
 rintro _ lQ ⟨W,bg,dI,rfl,eQ,bn,bR,bS⟩
 have dJ:=eP _ _ eQ
 have jT:=aB bn
 have jU:=zr 0 dJ
 replace bR:af.aa.ag.ls.length=aa.aa.ag.ls.length/\af.aa.au=aa.aa.au/\af.ay.ls.length+af.aa.aj.ls.length<=8/\af.aa.aF.ls.length<=aa.aa.aF.ls.length+1:=bR
 replace bS:Mk af:=bS
 refine Mz rfl (Kz (.agg #[.slice W P.fo.ls.length bg, .bool P.jl]) (Kz (vI dH) ?_))
 refine dV [.slice none 0 0, .bool false] 47 dJ ?_
 intro bu lS ic
 refine dS [.slice W P.fo.ls.length bg, .bool P.jl] 0 ic T4 ?_
 intro lT ig
 refine An rfl (Ic ?_)
 have dK:=ig.px [] [4,8,9] []
 refine Ib (Mz rfl (La (gU 1 11 0 0 0 0 1 1 0 0 0 0 0 0 0 false [] [] aD 2 2 none 0 0 none 0 0) dK 10 N5 N6 ?_))
 have ik:=dK.pf [3]
 obtain⟨⟨ak,dL,ag⟩,p⟩:∃ q:kC × Int × aA,eT af (bL.mk 1 11 0 0 0 0 1 1 0 0 0 0 0 0 0 false (bC.mk [] []) (E2 ([(bi.mk 2 ([97]) ([49]) [] [] 0),(bi.mk 2 ([122]) ([50]) [] [] 0)])) (E2 []) (E2 []))=q:=⟨_,rfl⟩
 obtain⟨lU,eX,jV,eY,fo⟩:=II ik
 refine cl V8 (j5 _ _ U af (bL.mk 1 11 0 0 0 0 1 1 0 0 0 0 0 0 0 false (bC.mk [] []) (E2 ([(bi.mk 2 ([97]) ([49]) [] [] 0),(bi.mk 2 ([122]) ([50]) [] [] 0)])) (E2 []) (E2 [])) aD 2 2 none 0 0 [] none 0 0 ak dL ag eX rfl (fo _ 10 _ rfl aO) f2 rfl rfl (λ _ _=>bE.nil _ _ _) f2 (λ _ h9=>absurd h9 y6) rfl (λ _ _=>bE.nil _ _ _) f2 f9 f5 p) ?_
 rintro _ lV ⟨aG,bv,il,rfl,fq,bT,bU,bV⟩
 have dM:=eY _ _ fq
 have jW:=aB bT
 have jX:=zr 0 dM
 replace bU:ag.aa.ag.ls.length=af.aa.ag.ls.length/\ag.aa.au=af.aa.au/\ag.ay.ls.length+ag.aa.aj.ls.length<=8/\ag.aa.aF.ls.length<=af.aa.aF.ls.length+1:=bU
 replace bV:Mk ag:=bV
 refine Mz rfl (Kz (.agg #[.slice aG ak.fo.ls.length bv, .bool ak.jl]) (Kz (vI dL) ?_))
 refine dV [.slice none 0 0, .bool false] 47 dM ?_
 intro dO lX iq
 refine dS [.slice aG ak.fo.ls.length bv, .bool ak.jl] 0 iq T4 ?_
 intro lY iw
 refine Ar rfl (Kz (vP gG 7) ?_)
 have iy:=iw.pf [13]
 refine dS [.int .u64 0] 7 iy N7 ?_
 intro lZ dP
 refine ns (Mz rfl (La (gU 1 11 0 0 0 0 1 0 0 0 0 0 0 0 0 false [] [] aD 2 2 none 0 0 none 0 0) dP 0 N5 N6 ?_))
 have iA:=dP.pf [4]
 obtain⟨⟨au,dQ,ai⟩,r⟩:∃ q:kC × Int × aA,eT ag (bL.mk 1 11 0 0 0 0 1 0 0 0 0 0 0 0 0 false (bC.mk [] []) (E2 ([(bi.mk 2 ([97]) ([49]) [] [] 0),(bi.mk 2 ([122]) ([50]) [] [] 0)])) (E2 []) (E2 []))=q:=⟨_,rfl⟩
 obtain⟨l5,fu,jY,fA,fB⟩:=II iA
 refine cl V8 (j5 _ _ U ag (bL.mk 1 11 0 0 0 0 1 0 0 0 0 0 0 0 0 false (bC.mk [] []) (E2 ([(bi.mk 2 ([97]) ([49]) [] [] 0),(bi.mk 2 ([122]) ([50]) [] [] 0)])) (E2 []) (E2 [])) aD 2 2 none 0 0 [] none 0 0 au dQ ai fu rfl (fB _ 13 _ rfl aO) f2 rfl rfl (λ _ _=>bE.nil _ _ _) f2 (λ _ h9=>absurd h9 y6) rfl (λ _ _=>bE.nil _ _ _) f2 f9 f5 r) ?_
 rintro _ l6 ⟨aH,bz,iB,rfl,fC,bW,bX,bY⟩
 have dR:=fA _ _ fC
 have jZ:=aB bW
 have j3:=zr 0 dR
 replace bX:ai.aa.ag.ls.length=ag.aa.ag.ls.length/\ai.aa.au=ag.aa.au/\ai.ay.ls.length+ai.aa.aj.ls.length<=8/\ai.aa.aF.ls.length<=ag.aa.aF.ls.length+1:=bX
 replace bY:Mk ai:=bY
 refine Mz rfl (Kz (.agg #[.slice aH au.fo.ls.length bz, .bool au.jl]) (Kz (vI dQ) ?_))
 refine dV [.slice none 0 0, .bool false] 47 dR ?_
 intro dU l7 iC
 refine dS [.slice aH au.fo.ls.length bz, .bool au.jl] 0 iC T4 ?_
 intro l8 iD
 refine An rfl (Ic ?_)
 have iE:=iD.px [] [4,17] []
 refine Ib (Mz rfl (Kz (.agg (gU 7 1 0 0 0 0 0 0 99 0 0 0 0 0 0 false [] [] none 0 0 none 0 0 none 0 0).toArray) ?_))
 have iF:=iE.pf [3]
 obtain⟨⟨av,dW,aK⟩,s⟩:∃ q:kC × Int × aA,eT ai (bL.mk 7 1 0 0 0 0 0 0 99 0 0 0 0 0 0 false (bC.mk [] []) (E2 []) (E2 []) (E2 []))=q:=⟨_,rfl⟩
 obtain⟨l9,fE,j4,fG,j6⟩:=II iF
 refine cl V8 (j5 _ _ U ai (bL.mk 7 1 0 0 0 0 0 0 99 0 0 0 0 0 0 false (bC.mk [] []) (E2 []) (E2 []) (E2 [])) none 0 0 none 0 0 [] none 0 0 av dW aK fE rfl (λ _ _=>bE.nil _ _ _) f2 rfl rfl (λ _ _=>bE.nil _ _ _) f2 (λ _ h9=>absurd h9 y6) rfl (λ _ _=>bE.nil _ _ _) f2 f9 f5 s) ?_
 rintro _ ma ⟨aI,bA,iH,rfl,fH,cu,cz,cB⟩
 have dX:=fG _ _ fH
 have kg:=aB cu
 have ko:=zr 0 dX
 replace cz:aK.aa.ag.ls.length=ai.aa.ag.ls.length/\aK.aa.au=ai.aa.au/\aK.ay.ls.length+aK.aa.aj.ls.length<=8/\aK.aa.aF.ls.length<=ai.aa.aF.ls.length+1:=cz
 replace cB:Mk aK:=cB
 refine Mz rfl (Kz (.agg #[.slice aI av.fo.ls.length bA, .bool av.jl]) (Kz (vI dW) ?_))
 refine dV [.slice none 0 0, .bool false] 47 dX ?_
 intro dY mf iI
 refine dS [.slice aI av.fo.ls.length bA, .bool av.jl] 0 iI T4 ?_
 intro mg iJ
 refine An rfl (Ic ?_)
 have a:=iJ.px [] [3] []
 refine Ib (Kz (vP bI 0) (Lz (.slice V aj.fo.ls.length aX) a 15 U3 (Kz (vJ aj.fo.ls.length) (Kz (.bool (decide ((aj.fo.ls.length:Int)=2))) (Mz rfl ?_)))))
 by_cases b:(aj.fo.ls.length:Int)=2
 refine Gz (vP bI 0) (dT b) (Gl (.slice V aj.fo.ls.length aX) (dT b) a 15 U3 ?_)
 obtain⟨u,aF⟩:=dN (ls:=gK) (i:=1) bf.len f4 (a.rds (i:=16) rfl) e9
 have B:=fF bF aF
 have kr:u.aH.ls.length<=u.aH.c/\u.aH.ls.length<=9223372036854775807:=aZ a (i:=17) rfl (φ:=λ _=>_) (ax (Q3.2 ⟨u,D3 aF,b1⟩) aW)
 have ku:u.ai.ls.length<=u.ai.c/\u.ai.ls.length<=9223372036854775807:=aZ a (i:=17) rfl (φ:=λ _=>_) (ax (Q3.2 ⟨u,D3 aF, .tail _ b1⟩) aW)
 have kv:u.ag.ls.length<=u.ag.c/\u.ag.ls.length<=9223372036854775807:=aZ a (i:=17) rfl (φ:=λ _=>_) (ax (Q3.2 ⟨u,D3 aF, .tail _ b2⟩) aW)
 refine gw (.pointer (some ⟨ab V,ao V+1 *21,none⟩)) (dT b) (Ij (uu) rfl rfl ((a.rds (i:=16) rfl).addr (i:=1) e6) e6) (Gz (.pointer (some ⟨ab V,ao V+1 *21,none⟩)) (dT b) (gw (vI u.aD) (dT b) (Io rfl (bZ.one C4 (((a.rds (i:=16) rfl).elem bf.len aF f4).at_ (k:=0) rfl))) (Gz (.bool (decide (u.aD=3))) (dT b) (fw (.bool (decide (u.aD=3))) (Iw rfl (dT b) rfl) (Mz rfl ?_)))))
 by_cases d:u.aD=3
 refine Gz (vP bI 0) (dT d) (Gl (.slice V aj.fo.ls.length aX) (dT d) a 15 U3 (gw (.pointer (some ⟨ab V,ao V+1 *21,none⟩)) (dT d) (Ij (uu) rfl rfl ((a.rds (i:=16) rfl).addr (i:=1) e6) e6) (Gz (.pointer (some ⟨ab V,ao V+1 *21+8,none⟩)) (dT d) (gw (vU u.aN) (dT d) (Io rfl (bZ.one D4 (((a.rds (i:=16) rfl).elem bf.len aF f4).at_ (k:=8) rfl))) (Gz (.bool (decide ((u.aN:Int)=4294967297))) (dT d) (fw (.bool (decide ((u.aN:Int)=4294967297))) (Iw rfl (dT d) rfl) (Mz rfl ?_)))))))
 by_cases h:(u.aN:Int)=4294967297
 refine Gz (vP dD 0) (dT h) (Gl (.slice bM T.fo.ls.length bN) (dT h) a 12 U3 (Gz (vJ T.fo.ls.length) (dT h) (Gz (.bool (decide ((T.fo.ls.length:Int)=0))) (dT h) (fw (.bool (decide ((T.fo.ls.length:Int)=0))) (Iw rfl (dT h) rfl) (Mz rfl ?_)))))
 by_cases x:(T.fo.ls.length:Int)=0
 refine Gz (vP dD 1) (dT x) (Gl (.bool T.jl) (dT x) a 12 N3 (Gz (.bool (!T.jl)) (dT x) (fw (.bool (!T.jl)) (Iw rfl (dT x) rfl) (Mz rfl ?_))))
 rcases Li (T.jl) with j | j
 refine Sz (cn j) (Sz (cn j) (Sz (cn j) (Sz (cn j) (fw (.bool false) (Ih rfl (cn j) rfl) (Mz rfl (Sz rfl (Sz rfl (Sz rfl (Sz rfl (Sz rfl (Sz rfl (fw (.bool false) (Ih rfl rfl rfl) (Mz rfl (Sz rfl (Sz rfl (Sz rfl (Sz rfl (Sz rfl (fw (.bool false) (Ih rfl rfl rfl) (Mz rfl (Sz rfl (Sz rfl (fw (.bool false) (Ih rfl rfl rfl) (Mz rfl (Sz rfl (Sz rfl (Sz rfl (Sz rfl (fw (.bool false) (Ih rfl rfl rfl) (Mz rfl (Sz rfl (Sz rfl (Sz rfl (Sz rfl (Sz rfl (Sz rfl (fw (.bool false) (Ih rfl rfl rfl) (Mz rfl (Sz rfl ?_)))))))))))))))))))))))))))))))))))))))
 refine Sz rfl (Sz rfl (Sz rfl (fw (.bool false) (Ih rfl rfl rfl) (Mz rfl (Sz rfl (Sz rfl (Sz rfl (Sz rfl (Sz rfl (Sz rfl (fw (.bool false) (Ih rfl rfl rfl) (Mz rfl (Sz rfl (Sz rfl (Sz rfl (Sz rfl (fw (.bool false) (Ih rfl rfl rfl) (Mz rfl (Sz rfl (Sz rfl (Sz rfl (Sz rfl (Sz rfl (Sz rfl (fw (.bool false) (Ih rfl rfl rfl) (An rfl (rt (rs ?_))))))))))))))))))))))))))))
 have iK:=a.pk []
 obtain rfl:_=false:=zj hr (et (ah F) (et (ip O) (et (ah G) (et (ah I) (et (ah l) (et (ah n) (et (ah o) (et (ah p) (et (ah r) (et (ah s) (et (ip b) (et (ah (bJ B)) (et (ip d) (et (ip h) (et (ip x) (ip j))))))))))))))))
 exact⟨rfl,iK⟩
 refine Gz (vP bu 0) (cn j) (Gl (.slice W P.fo.ls.length bg) (cn j) a 9 U3 (Gz (vJ P.fo.ls.length) (cn j) (Gz (.bool (decide ((P.fo.ls.length:Int)=3))) (cn j) (fw (.bool (decide ((P.fo.ls.length:Int)=3))) (Iw rfl (cn j) rfl) (Mz rfl ?_)))))
 by_cases g:(P.fo.ls.length:Int)=3
 refine Gz (vP bu 0) (dT g) (Gl (.slice W P.fo.ls.length bg) (dT g) a 9 U3 ?_)
 obtain⟨J,aL⟩:=dN (ls:=dI) (i:=0) bf.len f4 (a.rds (i:=10) rfl) e9
 have Y:=fF bn aL
 have kw:J.aH.ls.length<=J.aH.c/\J.aH.ls.length<=9223372036854775807:=aZ a (i:=11) rfl (φ:=λ _=>_) (ax (Q3.2 ⟨J,D3 aL,b1⟩) aW)
 have kz:J.ai.ls.length<=J.ai.c/\J.ai.ls.length<=9223372036854775807:=aZ a (i:=11) rfl (φ:=λ _=>_) (ax (Q3.2 ⟨J,D3 aL, .tail _ b1⟩) aW)
 have kD:J.ag.ls.length<=J.ag.c/\J.ag.ls.length<=9223372036854775807:=aZ a (i:=11) rfl (φ:=λ _=>_) (ax (Q3.2 ⟨J,D3 aL, .tail _ b2⟩) aW)
 refine gw (.pointer (some ⟨ab W,ao W+0 *21,none⟩)) (dT g) (Ij (uu) rfl rfl ((a.rds (i:=10) rfl).addr (i:=0) e6) e6) (Gz (.pointer (some ⟨ab W,ao W+0 *21+4,none⟩)) (dT g) (gw (vI J.dz) (dT g) (Io rfl (bZ.one C4 (((a.rds (i:=10) rfl).elem bf.len aL f4).at_ (k:=4) rfl))) (Gz (.bool (decide (J.dz=1))) (dT g) (fw (.bool (decide (J.dz=1))) (Iw rfl (dT g) rfl) (Mz rfl ?_)))))
 by_cases t:J.dz=1
 refine Gz (vP bu 0) (dT t) (Gl (.slice W P.fo.ls.length bg) (dT t) a 9 U3 ?_)
 obtain⟨Q,aM⟩:=dN (ls:=dI) (i:=2) bf.len f4 (a.rds (i:=10) rfl) e9
 have ay:=fF bn aM
 have kE:Q.aH.ls.length<=Q.aH.c/\Q.aH.ls.length<=9223372036854775807:=aZ a (i:=11) rfl (φ:=λ _=>_) (ax (Q3.2 ⟨Q,D3 aM,b1⟩) aW)
 have kF:Q.ai.ls.length<=Q.ai.c/\Q.ai.ls.length<=9223372036854775807:=aZ a (i:=11) rfl (φ:=λ _=>_) (ax (Q3.2 ⟨Q,D3 aM, .tail _ b1⟩) aW)
 have kG:Q.ag.ls.length<=Q.ag.c/\Q.ag.ls.length<=9223372036854775807:=aZ a (i:=11) rfl (φ:=λ _=>_) (ax (Q3.2 ⟨Q,D3 aM, .tail _ b2⟩) aW)
 refine gw (.pointer (some ⟨ab W,ao W+2 *21,none⟩)) (dT t) (Ij (uu) rfl rfl ((a.rds (i:=10) rfl).addr (i:=2) e6) e6) (Gz (.pointer (some ⟨ab W,ao W+2 *21+15,none⟩)) (dT t) (gw (.bool Q.cz) (dT t) (Io rfl (bZ.one N3 (((a.rds (i:=10) rfl).elem bf.len aM f4).at_ (k:=15) rfl))) (fw (.bool Q.cz) (Iw rfl (dT t) rfl) (Mz rfl ?_))))
 rcases Li (Q.cz) with R | R
 refine Gz (vP bu 1) R (Gl (.bool P.jl) R a 9 N3 (fw (.bool P.jl) (Iw rfl R rfl) (Mz rfl ?_)))
 rcases Li (P.jl) with C | C
 refine Gz (vP dO 0) C (Gl (.slice aG ak.fo.ls.length bv) C a 6 U3 (Gz (vJ ak.fo.ls.length) C (Gz (.bool (decide ((ak.fo.ls.length:Int)=1))) C (fw (.bool (decide ((ak.fo.ls.length:Int)=1))) (Iw rfl C rfl) (Mz rfl ?_)))))
 by_cases A:(ak.fo.ls.length:Int)=1
 refine Gz (vP dO 0) (dT A) (Gl (.slice aG ak.fo.ls.length bv) (dT A) a 6 U3 ?_)
 obtain⟨K,aN⟩:=dN (ls:=il) (i:=0) bf.len f4 (a.rds (i:=7) rfl) e9
 have aP:=fF bT aN
 have kH:K.aH.ls.length<=K.aH.c/\K.aH.ls.length<=9223372036854775807:=aZ a (i:=8) rfl (φ:=λ _=>_) (ax (Q3.2 ⟨K,D3 aN,b1⟩) aW)
 have kI:K.ai.ls.length<=K.ai.c/\K.ai.ls.length<=9223372036854775807:=aZ a (i:=8) rfl (φ:=λ _=>_) (ax (Q3.2 ⟨K,D3 aN, .tail _ b1⟩) aW)
 have kJ:K.ag.ls.length<=K.ag.c/\K.ag.ls.length<=9223372036854775807:=aZ a (i:=8) rfl (φ:=λ _=>_) (ax (Q3.2 ⟨K,D3 aN, .tail _ b2⟩) aW)
 refine gw (.pointer (some ⟨ab aG,ao aG+0 *21,none⟩)) (dT A) (Ij (uu) rfl rfl ((a.rds (i:=7) rfl).addr (i:=0) e6) e6) (Gz (.pointer (some ⟨ab aG,ao aG+0 *21+4,none⟩)) (dT A) (gw (vI K.dz) (dT A) (Io rfl (bZ.one C4 (((a.rds (i:=7) rfl).elem bf.len aN f4).at_ (k:=4) rfl))) (Gz (.bool (decide (K.dz=1))) (dT A) (fw (.bool (decide (K.dz=1))) (Iw rfl (dT A) rfl) (Mz rfl ?_)))))
 by_cases S:K.dz=1
 refine Gz (vP dU 0) (dT S) (Gl (.slice aH au.fo.ls.length bz) (dT S) a 3 U3 (Gz (vJ au.fo.ls.length) (dT S) (Gz (.bool (decide ((au.fo.ls.length:Int)=1))) (dT S) (fw (.bool (decide ((au.fo.ls.length:Int)=1))) (Iw rfl (dT S) rfl) (Mz rfl ?_)))))
 by_cases E:(au.fo.ls.length:Int)=1
 refine Gz (vP dU 0) (dT E) (Gl (.slice aH au.fo.ls.length bz) (dT E) a 3 U3 ?_)
 obtain⟨L,aR⟩:=dN (ls:=iB) (i:=0) bf.len f4 (a.rds (i:=4) rfl) e9
 have bq:=fF bW aR
 have kK:L.aH.ls.length<=L.aH.c/\L.aH.ls.length<=9223372036854775807:=aZ a (i:=5) rfl (φ:=λ _=>_) (ax (Q3.2 ⟨L,D3 aR,b1⟩) aW)
 have kL:L.ai.ls.length<=L.ai.c/\L.ai.ls.length<=9223372036854775807:=aZ a (i:=5) rfl (φ:=λ _=>_) (ax (Q3.2 ⟨L,D3 aR, .tail _ b1⟩) aW)
 have kM:L.ag.ls.length<=L.ag.c/\L.ag.ls.length<=9223372036854775807:=aZ a (i:=5) rfl (φ:=λ _=>_) (ax (Q3.2 ⟨L,D3 aR, .tail _ b2⟩) aW)
 refine gw (.pointer (some ⟨ab aH,ao aH+0 *21,none⟩)) (dT E) (Ij (uu) rfl rfl ((a.rds (i:=4) rfl).addr (i:=0) e6) e6) (Gz (.pointer (some ⟨ab aH,ao aH+0 *21+4,none⟩)) (dT E) (gw (vI L.dz) (dT E) (Io rfl (bZ.one C4 (((a.rds (i:=4) rfl).elem bf.len aR f4).at_ (k:=4) rfl))) (Gz (.bool (decide (L.dz=2))) (dT E) (fw (.bool (decide (L.dz=2))) (Iw rfl (dT E) rfl) (Mz rfl ?_)))))
 by_cases X:L.dz=2
 refine Gz (vP dY 0) (dT X) (Gl (.slice aI av.fo.ls.length bA) (dT X) a 0 U3 (Gz (vJ av.fo.ls.length) (dT X) (Gz (.bool (decide ((av.fo.ls.length:Int)=1))) (dT X) (fw (.bool (decide ((av.fo.ls.length:Int)=1))) (Iw rfl (dT X) rfl) (Mz rfl ?_)))))
 by_cases M:(av.fo.ls.length:Int)=1
 refine Gz (vP dY 0) (dT M) (Gl (.slice aI av.fo.ls.length bA) (dT M) a 0 U3 ?_)
 obtain⟨N,aS⟩:=dN (ls:=iH) (i:=0) bf.len f4 (a.rds (i:=1) rfl) e9
 have fI:=fF cu aS
 have kN:N.aH.ls.length<=N.aH.c/\N.aH.ls.length<=9223372036854775807:=aZ a (i:=2) rfl (φ:=λ _=>_) (ax (Q3.2 ⟨N,D3 aS,b1⟩) aW)
 have kP:N.ai.ls.length<=N.ai.c/\N.ai.ls.length<=9223372036854775807:=aZ a (i:=2) rfl (φ:=λ _=>_) (ax (Q3.2 ⟨N,D3 aS, .tail _ b1⟩) aW)
 have kQ:N.ag.ls.length<=N.ag.c/\N.ag.ls.length<=9223372036854775807:=aZ a (i:=2) rfl (φ:=λ _=>_) (ax (Q3.2 ⟨N,D3 aS, .tail _ b2⟩) aW)
 refine gw (.pointer (some ⟨ab aI,ao aI+0 *21,none⟩)) (dT M) (Ij (uu) rfl rfl ((a.rds (i:=1) rfl).addr (i:=0) e6) e6) (Gz (.pointer (some ⟨ab aI,ao aI+0 *21+15,none⟩)) (dT M) (gw (.bool N.cz) (dT M) (Io rfl (bZ.one N3 (((a.rds (i:=1) rfl).elem bf.len aS f4).at_ (k:=15) rfl))) (Gz (.bool (!N.cz)) (dT M) (fw (.bool (!N.cz)) (Iw rfl (dT M) rfl) (An rfl (rt (rs ?_)))))))
 have iL:=a.pk []
 obtain rfl:_= !N.cz:=zj hr (et (ah F) (et (ip O) (et (ah G) (et (ah I) (et (ah l) (et (ah n) (et (ah o) (et (ah p) (et (ah r) (et (ah s) (et (ip b) (et (ah (bJ B)) (et (ip d) (et (ip h) (et (ip x) (et (gm j) (et (ip g) (et (ah (bJ Y)) (et (ip t) (et (ah (bJ ay)) (et (ip R) (et (ip C) (et (ip A) (et (ah (bJ aP)) (et (ip S) (et (ip E) (et (ah (bJ bq)) (et (ip X) (et (ip M) (ah (bJ fI)))))))))))))))))))))))))))))))
 exact⟨rfl,iL⟩
 refine Sz (dF M) (Sz (dF M) (Sz (dF M) (Sz (dF M) (Sz (dF M) (Sz (dF M) (fw (.bool false) (Ih rfl (dF M) rfl) (An rfl (rt (rs ?_)))))))))
 have iM:=a.pk []
 obtain rfl:_=false:=zj hr (et (ah F) (et (ip O) (et (ah G) (et (ah I) (et (ah l) (et (ah n) (et (ah o) (et (ah p) (et (ah r) (et (ah s) (et (ip b) (et (ah (bJ B)) (et (ip d) (et (ip h) (et (ip x) (et (gm j) (et (ip g) (et (ah (bJ Y)) (et (ip t) (et (ah (bJ ay)) (et (ip R) (et (ip C) (et (ip A) (et (ah (bJ aP)) (et (ip S) (et (ip E) (et (ah (bJ bq)) (et (ip X) (iN M)))))))))))))))))))))))))))))
 exact⟨rfl,iM⟩
 refine Sz (dF X) (Sz (dF X) (Sz (dF X) (Sz (dF X) (fw (.bool false) (Ih rfl (dF X) rfl) (Mz rfl (Sz rfl (Sz rfl (Sz rfl (Sz rfl (Sz rfl (Sz rfl (fw (.bool false) (Ih rfl rfl rfl) (An rfl (rt (rs ?_)))))))))))))))
 have iO:=a.pk []
 obtain rfl:_=false:=zj hr (et (ah F) (et (ip O) (et (ah G) (et (ah I) (et (ah l) (et (ah n) (et (ah o) (et (ah p) (et (ah r) (et (ah s) (et (ip b) (et (ah (bJ B)) (et (ip d) (et (ip h) (et (ip x) (et (gm j) (et (ip g) (et (ah (bJ Y)) (et (ip t) (et (ah (bJ ay)) (et (ip R) (et (ip C) (et (ip A) (et (ah (bJ aP)) (et (ip S) (et (ip E) (et (ah (bJ bq)) (iN X))))))))))))))))))))))))))))
 exact⟨rfl,iO⟩
 refine Sz (dF E) (Sz (dF E) (Sz (dF E) (Sz (dF E) (Sz (dF E) (Sz (dF E) (fw (.bool false) (Ih rfl (dF E) rfl) (Mz rfl (Sz rfl (Sz rfl (Sz rfl (Sz rfl (fw (.bool false) (Ih rfl rfl rfl) (Mz rfl (Sz rfl (Sz rfl (Sz rfl (Sz rfl (Sz rfl (Sz rfl (fw (.bool false) (Ih rfl rfl rfl) (An rfl (rt (rs ?_)))))))))))))))))))))))
 have iP:=a.pk []
 obtain rfl:_=false:=zj hr (et (ah F) (et (ip O) (et (ah G) (et (ah I) (et (ah l) (et (ah n) (et (ah o) (et (ah p) (et (ah r) (et (ah s) (et (ip b) (et (ah (bJ B)) (et (ip d) (et (ip h) (et (ip x) (et (gm j) (et (ip g) (et (ah (bJ Y)) (et (ip t) (et (ah (bJ ay)) (et (ip R) (et (ip C) (et (ip A) (et (ah (bJ aP)) (et (ip S) (iN E))))))))))))))))))))))))))
 exact⟨rfl,iP⟩
 refine Sz (dF S) (Sz (dF S) (Sz (dF S) (Sz (dF S) (fw (.bool false) (Ih rfl (dF S) rfl) (Mz rfl (Sz rfl (Sz rfl (Sz rfl (Sz rfl (Sz rfl (Sz rfl (fw (.bool false) (Ih rfl rfl rfl) (Mz rfl (Sz rfl (Sz rfl (Sz rfl (Sz rfl (fw (.bool false) (Ih rfl rfl rfl) (Mz rfl (Sz rfl (Sz rfl (Sz rfl (Sz rfl (Sz rfl (Sz rfl (fw (.bool false) (Ih rfl rfl rfl) (An rfl (rt (rs ?_)))))))))))))))))))))))))))))
 have iQ:=a.pk []
 obtain rfl:_=false:=zj hr (et (ah F) (et (ip O) (et (ah G) (et (ah I) (et (ah l) (et (ah n) (et (ah o) (et (ah p) (et (ah r) (et (ah s) (et (ip b) (et (ah (bJ B)) (et (ip d) (et (ip h) (et (ip x) (et (gm j) (et (ip g) (et (ah (bJ Y)) (et (ip t) (et (ah (bJ ay)) (et (ip R) (et (ip C) (et (ip A) (et (ah (bJ aP)) (iN S)))))))))))))))))))))))))
 exact⟨rfl,iQ⟩
 refine Sz (dF A) (Sz (dF A) (Sz (dF A) (Sz (dF A) (Sz (dF A) (Sz (dF A) (fw (.bool false) (Ih rfl (dF A) rfl) (Mz rfl (Sz rfl (Sz rfl (Sz rfl (Sz rfl (fw (.bool false) (Ih rfl rfl rfl) (Mz rfl (Sz rfl (Sz rfl (Sz rfl (Sz rfl (Sz rfl (Sz rfl (fw (.bool false) (Ih rfl rfl rfl) (Mz rfl (Sz rfl (Sz rfl (Sz rfl (Sz rfl (fw (.bool false) (Ih rfl rfl rfl) (Mz rfl (Sz rfl (Sz rfl (Sz rfl (Sz rfl (Sz rfl (Sz rfl (fw (.bool false) (Ih rfl rfl rfl) (An rfl (rt (rs ?_)))))))))))))))))))))))))))))))))))))
 have iR:=a.pk []
 obtain rfl:_=false:=zj hr (et (ah F) (et (ip O) (et (ah G) (et (ah I) (et (ah l) (et (ah n) (et (ah o) (et (ah p) (et (ah r) (et (ah s) (et (ip b) (et (ah (bJ B)) (et (ip d) (et (ip h) (et (ip x) (et (gm j) (et (ip g) (et (ah (bJ Y)) (et (ip t) (et (ah (bJ ay)) (et (ip R) (et (ip C) (iN A)))))))))))))))))))))))
 exact⟨rfl,iR⟩
 refine Sz C (Sz C (Sz C (Sz C (fw (.bool false) (Ih rfl C rfl) (Mz rfl (Sz rfl (Sz rfl (Sz rfl (Sz rfl (Sz rfl (Sz rfl (fw (.bool false) (Ih rfl rfl rfl) (Mz rfl (Sz rfl (Sz rfl (Sz rfl (Sz rfl (fw (.bool false) (Ih rfl rfl rfl) (Mz rfl (Sz rfl (Sz rfl (Sz rfl (Sz rfl (Sz rfl (Sz rfl (fw (.bool false) (Ih rfl rfl rfl) (Mz rfl (Sz rfl (Sz rfl (Sz rfl (Sz rfl (fw (.bool false) (Ih rfl rfl rfl) (Mz rfl (Sz rfl (Sz rfl (Sz rfl (Sz rfl (Sz rfl (Sz rfl ?_)))))))))))))))))))))))))))))))))))))))
 refine fw (.bool false) (Ih rfl rfl rfl) (An rfl (rt (rs ?_)))
 have iT:=a.pk []
 obtain rfl:_=false:=zj hr (et (ah F) (et (ip O) (et (ah G) (et (ah I) (et (ah l) (et (ah n) (et (ah o) (et (ah p) (et (ah r) (et (ah s) (et (ip b) (et (ah (bJ B)) (et (ip d) (et (ip h) (et (ip x) (et (gm j) (et (ip g) (et (ah (bJ Y)) (et (ip t) (et (ah (bJ ay)) (et (ip R) (gm C))))))))))))))))))))))
 exact⟨rfl,iT⟩
 refine Sz R (Sz R (fw (.bool false) (Ih rfl R rfl) (Mz rfl (Sz rfl (Sz rfl (Sz rfl (Sz rfl (fw (.bool false) (Ih rfl rfl rfl) (Mz rfl (Sz rfl (Sz rfl (Sz rfl (Sz rfl (Sz rfl (Sz rfl (fw (.bool false) (Ih rfl rfl rfl) (Mz rfl (Sz rfl (Sz rfl (Sz rfl (Sz rfl (fw (.bool false) (Ih rfl rfl rfl) (Mz rfl (Sz rfl (Sz rfl (Sz rfl (Sz rfl (Sz rfl (Sz rfl (fw (.bool false) (Ih rfl rfl rfl) (Mz rfl (Sz rfl (Sz rfl (Sz rfl (Sz rfl (fw (.bool false) (Ih rfl rfl rfl) (Mz rfl (Sz rfl (Sz rfl ?_)))))))))))))))))))))))))))))))))))))))
 refine Sz rfl (Sz rfl (Sz rfl (Sz rfl (fw (.bool false) (Ih rfl rfl rfl) (An rfl (rt (rs ?_)))))))
 have iU:=a.pk []
 obtain rfl:_=false:=zj hr (et (ah F) (et (ip O) (et (ah G) (et (ah I) (et (ah l) (et (ah n) (et (ah o) (et (ah p) (et (ah r) (et (ah s) (et (ip b) (et (ah (bJ B)) (et (ip d) (et (ip h) (et (ip x) (et (gm j) (et (ip g) (et (ah (bJ Y)) (et (ip t) (et (ah (bJ ay)) (gm R)))))))))))))))))))))
 exact⟨rfl,iU⟩
 refine Sz (dF t) (Sz (dF t) (Sz (dF t) (Sz (dF t) (Sz (dF t) (fw (.bool false) (Ih rfl (dF t) rfl) (Mz rfl (Sz rfl (Sz rfl (fw (.bool false) (Ih rfl rfl rfl) (Mz rfl (Sz rfl (Sz rfl (Sz rfl (Sz rfl (fw (.bool false) (Ih rfl rfl rfl) (Mz rfl (Sz rfl (Sz rfl (Sz rfl (Sz rfl (Sz rfl (Sz rfl (fw (.bool false) (Ih rfl rfl rfl) (Mz rfl (Sz rfl (Sz rfl (Sz rfl (Sz rfl (fw (.bool false) (Ih rfl rfl rfl) (Mz rfl (Sz rfl (Sz rfl (Sz rfl (Sz rfl (Sz rfl (Sz rfl (fw (.bool false) (Ih rfl rfl rfl) (Mz rfl (Sz rfl ?_)))))))))))))))))))))))))))))))))))))))
 refine Sz rfl (Sz rfl (Sz rfl (fw (.bool false) (Ih rfl rfl rfl) (Mz rfl (Sz rfl (Sz rfl (Sz rfl (Sz rfl (Sz rfl (Sz rfl (fw (.bool false) (Ih rfl rfl rfl) (An rfl (rt (rs ?_))))))))))))))
 have iV:=a.pk []
 obtain rfl:_=false:=zj hr (et (ah F) (et (ip O) (et (ah G) (et (ah I) (et (ah l) (et (ah n) (et (ah o) (et (ah p) (et (ah r) (et (ah s) (et (ip b) (et (ah (bJ B)) (et (ip d) (et (ip h) (et (ip x) (et (gm j) (et (ip g) (et (ah (bJ Y)) (iN t)))))))))))))))))))
 exact⟨rfl,iV⟩
 refine Sz (dF g) (Sz (dF g) (Sz (dF g) (Sz (dF g) (Sz (dF g) (Sz (dF g) (fw (.bool false) (Ih rfl (dF g) rfl) (Mz rfl (Sz rfl (Sz rfl (Sz rfl (Sz rfl (Sz rfl (fw (.bool false) (Ih rfl rfl rfl) (Mz rfl (Sz rfl (Sz rfl (fw (.bool false) (Ih rfl rfl rfl) (Mz rfl (Sz rfl (Sz rfl (Sz rfl (Sz rfl (fw (.bool false) (Ih rfl rfl rfl) (Mz rfl (Sz rfl (Sz rfl (Sz rfl (Sz rfl (Sz rfl (Sz rfl (fw (.bool false) (Ih rfl rfl rfl) (Mz rfl (Sz rfl (Sz rfl (Sz rfl (Sz rfl (fw (.bool false) (Ih rfl rfl rfl) (Mz rfl (Sz rfl ?_)))))))))))))))))))))))))))))))))))))))
 refine Sz rfl (Sz rfl (Sz rfl (Sz rfl (Sz rfl (fw (.bool false) (Ih rfl rfl rfl) (Mz rfl (Sz rfl (Sz rfl (Sz rfl (Sz rfl (fw (.bool false) (Ih rfl rfl rfl) (Mz rfl (Sz rfl (Sz rfl (Sz rfl (Sz rfl (Sz rfl (Sz rfl (fw (.bool false) (Ih rfl rfl rfl) (An rfl (rt (rs ?_))))))))))))))))))))))
 have iW:=a.pk []
 obtain rfl:_=false:=zj hr (et (ah F) (et (ip O) (et (ah G) (et (ah I) (et (ah l) (et (ah n) (et (ah o) (et (ah p) (et (ah r) (et (ah s) (et (ip b) (et (ah (bJ B)) (et (ip d) (et (ip h) (et (ip x) (et (gm j) (iN g)))))))))))))))))
 exact⟨rfl,iW⟩
 refine Sz (dF x) (Sz (dF x) (Sz (dF x) (fw (.bool false) (Ih rfl (dF x) rfl) (Mz rfl (Sz rfl (Sz rfl (Sz rfl (Sz rfl (fw (.bool false) (Ih rfl rfl rfl) (Mz rfl (Sz rfl (Sz rfl (Sz rfl (Sz rfl (Sz rfl (Sz rfl (fw (.bool false) (Ih rfl rfl rfl) (Mz rfl (Sz rfl (Sz rfl (Sz rfl (Sz rfl (Sz rfl (fw (.bool false) (Ih rfl rfl rfl) (Mz rfl (Sz rfl (Sz rfl (fw (.bool false) (Ih rfl rfl rfl) (Mz rfl (Sz rfl (Sz rfl (Sz rfl (Sz rfl (fw (.bool false) (Ih rfl rfl rfl) (Mz rfl (Sz rfl (Sz rfl (Sz rfl (Sz rfl ?_)))))))))))))))))))))))))))))))))))))))
 refine Sz rfl (Sz rfl (fw (.bool false) (Ih rfl rfl rfl) (Mz rfl (Sz rfl (Sz rfl (Sz rfl (Sz rfl (fw (.bool false) (Ih rfl rfl rfl) (Mz rfl (Sz rfl (Sz rfl (Sz rfl (Sz rfl (Sz rfl (Sz rfl (fw (.bool false) (Ih rfl rfl rfl) (Mz rfl (Sz rfl (Sz rfl (Sz rfl (Sz rfl (fw (.bool false) (Ih rfl rfl rfl) (Mz rfl (Sz rfl (Sz rfl (Sz rfl (Sz rfl (Sz rfl (Sz rfl (fw (.bool false) (Ih rfl rfl rfl) (An rfl (rt (rs ?_)))))))))))))))))))))))))))))))))
 have iX:=a.pk []
 obtain rfl:_=false:=zj hr (et (ah F) (et (ip O) (et (ah G) (et (ah I) (et (ah l) (et (ah n) (et (ah o) (et (ah p) (et (ah r) (et (ah s) (et (ip b) (et (ah (bJ B)) (et (ip d) (et (ip h) (iN x)))))))))))))))
 exact⟨rfl,iX⟩
 refine Sz (dF h) (Sz (dF h) (Sz (dF h) (Sz (dF h) (fw (.bool false) (Ih rfl (dF h) rfl) (Mz rfl (Sz rfl (Sz rfl (Sz rfl (fw (.bool false) (Ih rfl rfl rfl) (Mz rfl (Sz rfl (Sz rfl (Sz rfl (Sz rfl (fw (.bool false) (Ih rfl rfl rfl) (Mz rfl (Sz rfl (Sz rfl (Sz rfl (Sz rfl (Sz rfl (Sz rfl (fw (.bool false) (Ih rfl rfl rfl) (Mz rfl (Sz rfl (Sz rfl (Sz rfl (Sz rfl (Sz rfl (fw (.bool false) (Ih rfl rfl rfl) (Mz rfl (Sz rfl (Sz rfl (fw (.bool false) (Ih rfl rfl rfl) (Mz rfl (Sz rfl (Sz rfl (Sz rfl (Sz rfl ?_)))))))))))))))))))))))))))))))))))))))
 refine fw (.bool false) (Ih rfl rfl rfl) (Mz rfl (Sz rfl (Sz rfl (Sz rfl (Sz rfl (Sz rfl (Sz rfl (fw (.bool false) (Ih rfl rfl rfl) (Mz rfl (Sz rfl (Sz rfl (Sz rfl (Sz rfl (fw (.bool false) (Ih rfl rfl rfl) (Mz rfl (Sz rfl (Sz rfl (Sz rfl (Sz rfl (Sz rfl (Sz rfl (fw (.bool false) (Ih rfl rfl rfl) (Mz rfl (Sz rfl (Sz rfl (Sz rfl (Sz rfl (fw (.bool false) (Ih rfl rfl rfl) (Mz rfl (Sz rfl (Sz rfl (Sz rfl (Sz rfl (Sz rfl (Sz rfl (fw (.bool false) (Ih rfl rfl rfl) (An rfl ?_)))))))))))))))))))))))))))))))))))))
 refine rt (rs ?_)
 have iY:=a.pk []
 obtain rfl:_=false:=zj hr (et (ah F) (et (ip O) (et (ah G) (et (ah I) (et (ah l) (et (ah n) (et (ah o) (et (ah p) (et (ah r) (et (ah s) (et (ip b) (et (ah (bJ B)) (et (ip d) (iN h))))))))))))))
 exact⟨rfl,iY⟩
 refine Sz (dF d) (Sz (dF d) (Sz (dF d) (Sz (dF d) (Sz (dF d) (Sz (dF d) (fw (.bool false) (Ih rfl (dF d) rfl) (Mz rfl (Sz rfl (Sz rfl (Sz rfl (Sz rfl (fw (.bool false) (Ih rfl rfl rfl) (Mz rfl (Sz rfl (Sz rfl (Sz rfl (fw (.bool false) (Ih rfl rfl rfl) (Mz rfl (Sz rfl (Sz rfl (Sz rfl (Sz rfl (fw (.bool false) (Ih rfl rfl rfl) (Mz rfl (Sz rfl (Sz rfl (Sz rfl (Sz rfl (Sz rfl (Sz rfl (fw (.bool false) (Ih rfl rfl rfl) (Mz rfl (Sz rfl (Sz rfl (Sz rfl (Sz rfl (Sz rfl (fw (.bool false) (Ih rfl rfl rfl) (Mz rfl ?_)))))))))))))))))))))))))))))))))))))))
 refine Sz rfl (Sz rfl (fw (.bool false) (Ih rfl rfl rfl) (Mz rfl (Sz rfl (Sz rfl (Sz rfl (Sz rfl (fw (.bool false) (Ih rfl rfl rfl) (Mz rfl (Sz rfl (Sz rfl (Sz rfl (Sz rfl (Sz rfl (Sz rfl (fw (.bool false) (Ih rfl rfl rfl) (Mz rfl (Sz rfl (Sz rfl (Sz rfl (Sz rfl (fw (.bool false) (Ih rfl rfl rfl) (Mz rfl (Sz rfl (Sz rfl (Sz rfl (Sz rfl (Sz rfl (Sz rfl (fw (.bool false) (Ih rfl rfl rfl) (Mz rfl (Sz rfl (Sz rfl (Sz rfl (Sz rfl (fw (.bool false) (Ih rfl rfl rfl) (Mz rfl (Sz rfl (Sz rfl ?_)))))))))))))))))))))))))))))))))))))))
 refine Sz rfl (Sz rfl (Sz rfl (Sz rfl (fw (.bool false) (Ih rfl rfl rfl) (An rfl (rt (rs ?_)))))))
 have iZ:=a.pk []
 obtain rfl:_=false:=zj hr (et (ah F) (et (ip O) (et (ah G) (et (ah I) (et (ah l) (et (ah n) (et (ah o) (et (ah p) (et (ah r) (et (ah s) (et (ip b) (et (ah (bJ B)) (iN d)))))))))))))
 exact⟨rfl,iZ⟩
 refine Sz (dF b) (Sz (dF b) (Sz (dF b) (Sz (dF b) (Sz (dF b) (Sz (dF b) (fw (.bool false) (Ih rfl (dF b) rfl) (Mz rfl (Sz rfl (Sz rfl (Sz rfl (Sz rfl (Sz rfl (Sz rfl (fw (.bool false) (Ih rfl rfl rfl) (Mz rfl (Sz rfl (Sz rfl (Sz rfl (Sz rfl (fw (.bool false) (Ih rfl rfl rfl) (Mz rfl (Sz rfl (Sz rfl (Sz rfl (fw (.bool false) (Ih rfl rfl rfl) (Mz rfl (Sz rfl (Sz rfl (Sz rfl (Sz rfl (fw (.bool false) (Ih rfl rfl rfl) (Mz rfl (Sz rfl (Sz rfl (Sz rfl (Sz rfl (Sz rfl (Sz rfl (fw (.bool false) (Ih rfl rfl rfl) ?_)))))))))))))))))))))))))))))))))))))))
 refine Mz rfl (Sz rfl (Sz rfl (Sz rfl (Sz rfl (Sz rfl (fw (.bool false) (Ih rfl rfl rfl) (Mz rfl (Sz rfl (Sz rfl (fw (.bool false) (Ih rfl rfl rfl) (Mz rfl (Sz rfl (Sz rfl (Sz rfl (Sz rfl (fw (.bool false) (Ih rfl rfl rfl) (Mz rfl (Sz rfl (Sz rfl (Sz rfl (Sz rfl (Sz rfl (Sz rfl (fw (.bool false) (Ih rfl rfl rfl) (Mz rfl (Sz rfl (Sz rfl (Sz rfl (Sz rfl (fw (.bool false) (Ih rfl rfl rfl) (Mz rfl (Sz rfl (Sz rfl (Sz rfl (Sz rfl (Sz rfl (Sz rfl (fw (.bool false) (Ih rfl rfl rfl) (Mz rfl ?_)))))))))))))))))))))))))))))))))))))))
 refine Sz rfl (Sz rfl (Sz rfl (Sz rfl (fw (.bool false) (Ih rfl rfl rfl) (Mz rfl (Sz rfl (Sz rfl (Sz rfl (Sz rfl (Sz rfl (Sz rfl (fw (.bool false) (Ih rfl rfl rfl) (An rfl (rt (rs ?_)))))))))))))))
 have ja:=a.pk []
 obtain rfl:_=false:=zj hr (et (ah F) (et (ip O) (et (ah G) (et (ah I) (et (ah l) (et (ah n) (et (ah o) (et (ah p) (et (ah r) (et (ah s) (iN b)))))))))))
 exact⟨rfl,ja⟩
 refine Sz (dT O) (Sz (dT O) (Sz (dT O) (fw (.bool true) (Iw rfl (dT O) rfl) (nt (jt (sr (Az rfl (An rfl (rt (tR (Fin.res (lW rfl rfl rfl) (Mz rfl (Kz (.pointer none) (Kz (vI 1) (Az rfl (An rfl (Ic (Ic ?_))))))))))))))))))
 have jb:=cO.pk []
 refine Ib (Mz rfl (Kz (.bool true) (Mz rfl (Sz rfl (Sz rfl (fw (.bool true) (Iw rfl rfl rfl) (nt (jt (sr (An rfl (rt (tR (rs ?_)))))))))))))
 have jc:=jb.pk []
 obtain rfl:_=false:=zj hr (et (ah F) (iN O))
 exact⟨rfl,jc⟩
end
theorem DL:vD=true:=by decide+kernel
section
open Go.RowKit
@[reducible] def kU (n:Nat):Value:= .int .u64 ((n:Nat):Int)
theorem uf {P:Program} {kt:TypeId} (hk:P.underlying kt=some (.int .u64)):Cx P kt kU:=by
  refine⟨⟨_,hk,λ a=>by simp [Go.MapKept.IsKey]⟩,λ a b h=> ?_,λ a=> ?_⟩
  . injection h with _ h
    exact Int.ofNat.inj h
  . simp [Instr.sameBits]
section
variable {κ ν:Type} [DecidableEq κ] {P:Program} {n:Nat} {F:List (Nat × Value)} {w0 w:World} {D:Nat->Prop} {L:List HP} {ty t kt e:TypeId} {x y:Operand} {ek:κ->Value} {vv:ν->Value} {m:List (κ × ν)} {g i:Nat} {d0:ν}
end
end
section
open Go.RowKit
def lZ (o:Bool) (t b:Nat):Nat:=if o=true then(if((t:Nat):Int)=0 then t else Int.toNat (IntKind.u64.wrap (((eU b 32:Nat):Int)+((t % 16:Nat):Int)))) else t
def ja (o:Bool) (k j:Int) (v b:Nat):Nat:=if o=true then(if k=j then v else b) else b
def nR (o:Bool) (t v:Nat):Nat:=if o=true then(if((t:Nat):Int)=0 then t else v) else t
def yL (x:bf) (b t v m:Nat):List Value:= [vI x.aD,vI x.aJ,vI x.fI,vI x.aK,vI x.dz,vI x.eH,vU x.aP,vU b,vU t,vU x.dY,vU v,vU x.aL,vU m,vU x.cu,vU x.xN, .bool x.cz, .string ⟨List.toArray x.bU.bF⟩, .string ⟨List.toArray x.bU.bT⟩, .slice x.aH.A x.aH.ls.length x.aH.c, .slice x.ai.A x.ai.ls.length x.ai.c, .slice x.ag.A x.ag.ls.length x.ag.c]
theorem qQ (w D) (x:fM) (a b v e s u c1 z A c2 B C c3 mv) (H:Own w D w []):
    Calls Tryz.prog 10 #[.agg (fM.cells x).toArray, .agg #[vI a,vU b,vU v,vU e, .slice s u c1, .slice z A c2, .slice B C c3], .int .u64 ((mv:Nat):Int)] w (d9 λ y w'=>y= .agg (yL x.az (ja x.dE x.az.aD 1 b x.az.av) (lZ x.dE x.az.aN b) (ja x.dE x.az.aD 9 v x.az.aV) (nR x.dE x.az.dL mv)).toArray/\Own w D w' []):=by
  refine cb Tryz.func10 ?_
  refine sr ?_
  refine dV (fM.cells x) 44 H ?_
  intro V w1 X
  refine dV [vI a,vU b,vU v,vU e, .slice s u c1, .slice z A c2, .slice B C c3] 33 X ?_
  intro l w2 Y
  refine dV (gU 0 0 0 0 0 0 0 0 0 0 0 0 0 0 0 false [] [] none 0 0 none 0 0 none 0 0) 42 Y ?_
  intro h w3 W
  refine ns (Kz (vP V 2) (La (bf.cells x.az) W 2 Tryz.isAgg42 Tryz.sizeOf42 ?_))
  refine dV (gU 0 0 0 0 0 0 0 0 0 0 0 0 0 0 0 false [] [] none 0 0 none 0 0 none 0 0) 42 W ?_
  intro c w4 Z
  refine dS (bf.cells x.az) 0 Z Tryz.sizeOf42 ?_
  intro w5 K
  refine nt (Ic (sr (Kz (vP V 23) (Lz (.bool x.dE) K 3 Tryz.isAgg4 (Kz (.bool (!x.dE)) (nt ?_))))))
  rcases Li (x.dE) with d | d
  refine jF (cn d) (sk (Ic (Ic ?_)))
  have j:=K.px [] [3] []
  refine Ib (Kz (vP c 8) (Lz (vU x.az.aN) j 0 Tryz.isAgg28 (fw (.bool (decide (¬ ((x.az.aN:Int)=0)))) (IG (e:= !(decide ((x.az.aN:Int)=0))) yk decide_not.symm) (nt ?_))))
  refine IZ (λ _:Unit=> [(7,vP c 0),(6,vP h 0),(4,vP l 0),(2, .int .u64 (mv:Int))]) (λ _ w'=>Own w D w' [blk c (yL x.az x.az.av (lZ x.dE x.az.aN b) x.az.aV x.az.dL) 42,blk h (gU 0 0 0 0 0 0 0 0 0 0 0 0 0 0 0 false [] [] none 0 0 none 0 0 none 0 0) 42,blk l [vI a,vU b,vU v,vU e, .slice s u c1, .slice z A c2, .slice B C c3] 33]) ?_ ?_
  by_cases E:(x.az.aN:Int)=0
  refine jF (dF (Lh E)) (IE ?_)
  have M:lZ x.dE x.az.aN b=x.az.aN:=(if_pos d).trans (if_pos E)
  exact IQ () ⟨rfl,rfl,rfl,rfl,trivial⟩ (by rw [M]; exact j.pf [0,1,2])
  refine jT (dT E) (Ib (Kz (vP l 1) (Lz (vU b) j 2 Tryz.isAgg28 ?_)))
  have hz:eU b 32<=18446744073709551615:=nZ _ _
  have M:lZ x.dE x.az.aN b=Int.toNat (IntKind.u64.wrap (((eU b 32:Nat):Int)+((x.az.aN % 16:Nat):Int))):=(if_pos d).trans (if_neg E)
  refine fw (vU (eU b 32)) (Ie (Jv (m:=32) rfl rfl) (fD _)) (Kz (vP c 8) (Lz (vU x.az.aN) j 0 Tryz.isAgg28 (fw (vU (x.az.aN % 16)) (Ie (e:=Int.tmod (x.az.aN:Int) 16) yk (Gw _ _)) (fw (.int .u64 ((Int.toNat (IntKind.u64.wrap (((eU b 32:Nat):Int)+((x.az.aN % 16:Nat):Int))):Nat):Int)) (Ie (e:=IntKind.u64.wrap (((eU b 32:Nat):Int)+((x.az.aN % 16:Nat):Int))) yk (fD _)) (Kz (vP c 8) ?_)))))
  refine dS [.int .u64 ((Int.toNat (IntKind.u64.wrap (((eU b 32:Nat):Int)+((x.az.aN % 16:Nat):Int))):Nat):Int)] 8 j Tryz.sizeOf28 ?_
  intro w6 N
  refine WL.nil ?_
  exact IQ () ⟨rfl,rfl,rfl,rfl,trivial⟩ (by rw [M]; exact N.pf [0,1,2])
  rintro ⟨⟩ w7 o
  refine Ic (sr (Kz (vP c 0) (Lz (vI x.az.aD) o 0 Tryz.isAgg3 (Kz (.bool (decide (x.az.aD=1))) (nt ?_)))))
  refine IZ (λ _:Unit=> [(7,vP c 0),(6,vP h 0),(4,vP l 0),(2, .int .u64 (mv:Int))]) (λ _ w'=>Own w D w' [blk c (yL x.az (ja x.dE x.az.aD 1 b x.az.av) (lZ x.dE x.az.aN b) x.az.aV x.az.dL) 42,blk h (gU 0 0 0 0 0 0 0 0 0 0 0 0 0 0 0 false [] [] none 0 0 none 0 0 none 0 0) 42,blk l [vI a,vU b,vU v,vU e, .slice s u c1, .slice z A c2, .slice B C c3] 33]) ?_ ?_
  by_cases G:x.az.aD=1
  refine jT (dT G) (Ib (Kz (vP l 1) (Lz (vU b) o 2 Tryz.isAgg28 (Kz (vP c 7) ?_))))
  refine dS [vU b] 7 o Tryz.sizeOf28 ?_
  intro w8 H9
  refine WL.nil ?_
  have O:ja x.dE x.az.aD 1 b x.az.av=b:=(if_pos d).trans (if_pos G)
  exact IQ () ⟨rfl,rfl,rfl,rfl,trivial⟩ (by rw [O]; exact H9.pf [])
  refine jF (dF G) (IE ?_)
  have O:ja x.dE x.az.aD 1 b x.az.av=x.az.av:=(if_pos d).trans (if_neg G)
  exact IQ () ⟨rfl,rfl,rfl,rfl,trivial⟩ (by rw [O]; exact o.pf [])
  rintro ⟨⟩ w9 f
  refine Ic (sr (Kz (vP c 0) (Lz (vI x.az.aD) f 0 Tryz.isAgg3 (Kz (.bool (decide (x.az.aD=9))) (nt ?_)))))
  refine IZ (λ _:Unit=> [(7,vP c 0),(6,vP h 0),(2, .int .u64 (mv:Int))]) (λ _ w'=>Own w D w' [blk c (yL x.az (ja x.dE x.az.aD 1 b x.az.av) (lZ x.dE x.az.aN b) (ja x.dE x.az.aD 9 v x.az.aV) x.az.dL) 42,blk h (gU 0 0 0 0 0 0 0 0 0 0 0 0 0 0 0 false [] [] none 0 0 none 0 0 none 0 0) 42]) ?_ ?_
  by_cases I:x.az.aD=9
  refine jT (dT I) (Ib (Kz (vP l 2) (Lz (vU v) f 2 Tryz.isAgg28 (Kz (vP c 10) ?_))))
  refine dS [vU v] 10 f Tryz.sizeOf28 ?_
  intro af Q
  refine WL.nil ?_
  have R:ja x.dE x.az.aD 9 v x.az.aV=v:=(if_pos d).trans (if_pos I)
  exact IQ () ⟨rfl,rfl,rfl,trivial⟩ (by rw [R]; exact Q.px [] [2] [])
  refine jF (dF I) (IE ?_)
  have R:ja x.dE x.az.aD 9 v x.az.aV=x.az.aV:=(if_pos d).trans (if_neg I)
  exact IQ () ⟨rfl,rfl,rfl,trivial⟩ (by rw [R]; exact f.px [] [2] [])
  rintro ⟨⟩ ag p
  refine Ic (Ic ?_)
  refine Ib (Kz (vP c 12) (Lz (vU x.az.dL) p 0 Tryz.isAgg28 (fw (.bool (decide (¬ ((x.az.dL:Int)=0)))) (IG (e:= !(decide ((x.az.dL:Int)=0))) yk decide_not.symm) (nt ?_))))
  refine IZ (λ _:Unit=> [(7,vP c 0),(6,vP h 0)]) (λ _ w'=>Own w D w' [blk c (yL x.az (ja x.dE x.az.aD 1 b x.az.av) (lZ x.dE x.az.aN b) (ja x.dE x.az.aD 9 v x.az.aV) (nR x.dE x.az.dL mv)) 42,blk h (gU 0 0 0 0 0 0 0 0 0 0 0 0 0 0 0 false [] [] none 0 0 none 0 0 none 0 0) 42]) ?_ ?_
  by_cases J:(x.az.dL:Int)=0
  refine jF (dF (Lh J)) (IE ?_)
  have S:nR x.dE x.az.dL mv=x.az.dL:=(if_pos d).trans (if_pos J)
  exact IQ () ⟨rfl,rfl,trivial⟩ (by rw [S]; exact p.pf [])
  refine jT (dT J) (Ib (Mz rfl (Kz (vP c 12) ?_)))
  refine dS [.int .u64 (mv:Int)] 12 p Tryz.sizeOf28 ?_
  intro ah T
  refine WL.nil ?_
  have S:nR x.dE x.az.dL mv=mv:=(if_pos d).trans (if_neg J)
  exact IQ () ⟨rfl,rfl,trivial⟩ (by rw [S]; exact T.pf [])
  rintro ⟨⟩ ai q
  refine sr (La (yL x.az (ja x.dE x.az.aD 1 b x.az.av) (lZ x.dE x.az.aN b) (ja x.dE x.az.aD 9 v x.az.aV) (nR x.dE x.az.dL mv)) q 0 Tryz.isAgg42 Tryz.sizeOf42 ?_)
  have U:=q.pf [1]
  refine dS (yL x.az (ja x.dE x.az.aD 1 b x.az.av) (lZ x.dE x.az.aN b) (ja x.dE x.az.aD 9 v x.az.aV) (nR x.dE x.az.dL mv)) 0 U Tryz.sizeOf42 ?_
  intro aj r
  refine nt (rt (Fin.res (ol rfl rfl (Iy (cs:=yL x.az (ja x.dE x.az.aD 1 b x.az.av) (lZ x.dE x.az.aN b) (ja x.dE x.az.aD 9 v x.az.aV) (nR x.dE x.az.dL mv)) Tryz.isAgg42 Tryz.sizeOf42 ((r.cls (i:=0) rfl).lit (k:=0) (m:=21) rfl))) ?_))
  exact⟨rfl,r.pk []⟩
  refine jT (cn d) (Ic ?_)
  have j:=K.px [] [3] []
  refine Ib (La (bf.cells x.az) j 0 Tryz.isAgg42 Tryz.sizeOf42 ?_)
  have N:=j.pf [1]
  refine dS (bf.cells x.az) 0 N Tryz.sizeOf42 ?_
  intro w6 o
  refine nt (rt (tR (Fin.res (ol rfl rfl (Iy (cs:=(bf.cells x.az)) Tryz.isAgg42 Tryz.sizeOf42 ((o.cls (i:=0) rfl).lit (k:=0) (m:=21) rfl))) ?_)))
  have e0:yL x.az (ja x.dE x.az.aD 1 b x.az.av) (lZ x.dE x.az.aN b) (ja x.dE x.az.aD 9 v x.az.aV) (nR x.dE x.az.dL mv)=bf.cells x.az:=by
    unfold lZ ja nR; rw [d]; rfl
  rw [e0]
  exact⟨rfl,o.pk []⟩
end
theorem En {m m':aA} {y r:cZ} (M:Mk m) (a:eQ m=y) (b:gW y=r) (e:qo r=m'):Mk m':=by
  subst a; subst b; subst e
  have z:nI []/\ky 0:=⟨mE,Lg _⟩
  exact⟨(by dsimp only [qo]; exact mh _),(by dsimp only [qo]; exact nZ _ _),M.qF,Lg _,M.dec,M.mH,λ x hx=>(by cases hx),z,z,z,z,z⟩
theorem CR {m m':aA} {y r:cZ} {k:Nat} (h:r8 m.aa.ag.ls<=1000/\m.aa.au<=4/\r8 m.ay.ls+r8 m.aa.aj.ls<=8/\r8 m.aa.aF.ls<=k) (a:eQ m=y) (b:gW y=r) (e:qo r=m'):r8 m'.aa.ag.ls<=1000/\m'.aa.au<=4/\r8 m'.ay.ls+r8 m'.aa.aj.ls<=8/\r8 m'.aa.aF.ls<=r8 m.aa.aF.ls+1:=by
  subst a; subst b; subst e
  refine⟨h.1,h.2.1, ?_,Nat.le_succ _⟩
  show 0+r8 m.aa.aj.ls<=8
  have:=h.2.2.1; omega
theorem uT {m:aA} {y:cZ} {k:Nat} (M:Mk m) (h:r8 m.aa.ag.ls<=1000/\m.aa.au<=4/\r8 m.ay.ls+r8 m.aa.aj.ls<=8/\r8 m.aa.aF.ls<=k) (a:eQ m=y):(r8 y.ag.ls<=1000/\r8 y.aj.ls<=8/\r8 y.aF.ls<=k)/\(∀ x ∈ y.aj.ls,r8 x.au.ls<=1000000)/\∀ x ∈ y.aF.ls,r8 x.ai.ls<=1000000/\∀ z ∈ x.ai.ls,r8 z.ak.ls<=1000000:=by
  subst a
  exact⟨⟨h.1,(show r8 m.aa.aj.ls<=8 by omega),h.2.2.2⟩,wM M,wN M⟩
open IntKind renaming i64->C5
open Sum renaming inl->B9,inr->C1
open _root_.Go.Proofs.Tryz renaming call10->W2,call11->W1,call12->U8,func12->U9,isAgg44->V9,isAgg54->W7,isAgg84->V0,sizeOf4->W6,sizeOf44->W0,sizeOf54->W5,underlying28->B8,underlying35->W4,underlying36->W3
open WL renaming nil->C6
open Wp renaming exit->C7,loop->C3
section
open Go.RowKit
def eX.val (q:eX):Value:= .agg (v9 (eX.cells q))
def eX.zero:eX:=(eX.mk false false)
def eY (b:aA) (c:List bL):List bL->List (Nat × Bool)->List (Nat × eX)->((List (Nat × Bool)) × (List (Nat × eX))) ⊕ Bool
  | [],g,d=>B9 (g,d)
  | a::e,g,d=>bnd (if a.aD=3 then(kL g a.aN true) else g) λ sJrbbtbbfLstJaLsJ=>if a.aD=5 then bnd (nU sJrbbtbbfLstJaLsJ a.aN) λ h=>if Option.getD h false=true then bnd (nU d a.aN) λ f=>if(Option.getD f eX.zero).bD=true then if(Option.getD f eX.zero).oN=true then C1 (false) else if a.cz=true then eY b c e sJrbbtbbfLstJaLsJ (kL d a.aN (eX.mk true (!a.cz))) else C1 (false) else if(Option.getD f eX.zero).oN=true then if a.cz=true then C1 (false) else eY b c e sJrbbtbbfLstJaLsJ (kL d a.aN (eX.mk a.cz true)) else if a.cz=true then eY b c e sJrbbtbbfLstJaLsJ (kL d a.aN (eX.mk a.cz (!a.cz))) else eY b c e sJrbbtbbfLstJaLsJ (kL d a.aN (eX.mk a.cz (!a.cz))) else eY b c e sJrbbtbbfLstJaLsJ d else eY b c e sJrbbtbbfLstJaLsJ d
def gD (a:bL):List eD->Bool->Bool
  | [],b=>b
  | d::c,b=>if b=true then gD a c true else if d.aK=C5.wrap (a.fI - 10) then gD a c (decide ((d.aP:Int)=(a.aP:Int))) else gD a c false
def iD (a:aA) (c:List (Nat × Bool)) (d:List (Nat × eX)) (b:cZ):List bL->Unit ⊕ Bool
  | []=>B9 ()
  | e::f=>bnd (gD e b.aF.ls false) λ sLrbbtbbfLstJaLabLsL=>if e.aD=2 then if e.dz=1 then if sLrbbtbbfLstJaLabLsL=true then iD a c d b f else C1 (false) else iD a c d b f else iD a c d b f
def fP (n:Bool):List StepT->aA->List (Nat × Bool)->List (Nat × eX)->Unit ⊕ Bool
  | [],c,f,g=>B9 ()
  | a::j,c,f,g=>if ¬ (a.iU=0)\/¬ (a.az.aD=6) then qU (if a.iU=0 then bnd (bnd (eQ c) λ d=>(ja a.dE a.az.aD 1 d.av a.az.av,lZ a.dE a.az.aN d.av,ja a.dE a.az.aD 9 d.aV a.az.aV)) λ sJrbbtbbfLstJjtJ=>bnd (eT c (bL.mk a.az.aD a.az.aJ a.az.fI a.az.aK a.az.dz a.az.eH a.az.aP sJrbbtbbfLstJjtJ.1 sJrbbtbbfLstJjtJ.2.1 a.az.dY sJrbbtbbfLstJjtJ.2.2 a.az.aL (nR a.dE a.az.dL 0) a.az.cu a.az.xN a.az.cz a.az.bU (E2 a.az.aH.ls) (E2 a.az.ai.ls) (E2 a.az.ag.ls))) λ h=>B9 (h.2.2,h.1.fo.ls) else if a.iU=1 then bnd (jk c) λ i=>B9 (i.2,i.1.fo.ls) else if a.iU=4 then bnd (eQ c) λ e=>bnd (gJ e) λ k=>if k=0 then if(e.av:Int)=2147483647 then C1 (false) else bnd (gW e) λ b=>bnd ((aA.mk (cZ.mk b.au (D0 (D1.wrap ((b.av:Int)+1))) (eU (D0 (D1.wrap ((b.av:Int)+1))) 32) b.aL (E2 b.ag.ls) (E2 b.aj.ls) (E2 b.aF.ls)) 0 (E2 []) (df.mk false 0 0 (E2 [])) (df.mk false 0 0 (E2 [])) (df.mk false 0 0 (E2 [])) (df.mk false 0 0 (E2 [])) (df.mk false 0 0 (E2 [])) 0 0 0 0 0)) λ l=>B9 (l, []) else C1 (false) else B9 (c, [])) λ sJrbbtbbfLstJ=>qU (eY sJrbbtbbfLstJ.1 sJrbbtbbfLstJ.2 sJrbbtbbfLstJ.2 f g) λ sLrbbtbbfLstJaL=>bnd (eQ sJrbbtbbfLstJ.1) λ m=>qU (iD sJrbbtbbfLstJ.1 sLrbbtbbfLstJaL.1 sLrbbtbbfLstJaL.2 m sJrbbtbbfLstJ.2) λ _=>fP n j sJrbbtbbfLstJ.1 sLrbbtbbfLstJaL.1 sLrbbtbbfLstJaL.2 else bnd (()) λ _=>fP n j c f g
def sP (l0:List StepT):Bool:=
 bnd (vD) λ b=>bnd (gJ (cZ.mk 2 0 0 1 (E2 ([(aY.mk [] 1),(aY.mk ([109]) 2)])) (E2 []) (E2 []))) λ d=>if d=0 then bnd (gW (cZ.mk 2 0 0 1 (E2 ([(aY.mk [] 1),(aY.mk ([109]) 2)])) (E2 []) (E2 []))) λ a=>bnd ((aA.mk (cZ.mk a.au (D0 (D1.wrap ((a.av:Int)+1))) (eU (D0 (D1.wrap ((a.av:Int)+1))) 32) a.aL (E2 a.ag.ls) (E2 a.aj.ls) (E2 a.aF.ls)) 0 (E2 []) (df.mk false 0 0 (E2 [])) (df.mk false 0 0 (E2 [])) (df.mk false 0 0 (E2 [])) (df.mk false 0 0 (E2 [])) (df.mk false 0 0 (E2 [])) 0 0 0 0 0)) λ c=>if(l0.length:Int) > 100 then if b=true then true else false else lp (fP b l0 c [] []) λ _=>b else if b=true then false else false
theorem xU (w D A0 n0 c0 d0 l0 r0) (H:Own w D w []) (uC:s5 fM.abs d0=l0) (qY:Ro w D λ w'=>bE w' 25 A0 n0 (q3 fM.cells d0)) (iM:∀ x ∈ d0,Ro w D (λ w'=>bE w' 6 x.az.aH.A x.az.aH.ls.length (q3 bi.cells x.az.aH.ls))/\(x.az.aH.ls.length<=x.az.aH.c/\x.az.aH.ls.length<=9223372036854775807)/\Ro w D (λ w'=>bE w' 3 x.az.ai.A x.az.ai.ls.length (q3 ae.cells x.az.ai.ls))/\(x.az.ai.ls.length<=x.az.ai.c/\x.az.ai.ls.length<=9223372036854775807)/\(∀ y1 ∈ x.az.ai.ls,Ro w D (λ w'=>bE w' 2 y1.ak.A y1.ak.ls.length (q3 aI.cells y1.ak.ls))/\(y1.ak.ls.length<=y1.ak.c/\y1.ak.ls.length<=9223372036854775807))/\Ro w D (λ w'=>bE w' 2 x.az.ag.A x.az.ag.ls.length (q3 aY.cells x.az.ag.ls))/\(x.az.ag.ls.length<=x.az.ag.c/\x.az.ag.ls.length<=9223372036854775807)) (zB:n0=l0.length) (E8:l0.length *272<=211106232532992) (E9:l0.length *272<=140737488351232) (zC:∀ x ∈ l0,x.az.aP<=18446744073709551615/\x.az.aH.ls.length<=140737488351232/\x.az.ai.ls.length<=140737488351232/\x.az.ag.ls.length<=140737488351232) (hr:sP l0=r0):
    Calls Tryz.prog 3 #[.slice A0 n0 c0] w (d9 λ v w'=>v= .bool r0/\Own w D w' []):=by
 unfold sP at hr
 subst zB
 have CU:=aB uC
 refine cb Tryz.func3 ?_
 refine sr (Ar rfl ?_)
 obtain⟨S,aV⟩:∃ q,vD=q:=⟨_,rfl⟩
 obtain⟨Fa,uD,CV,uE,CW⟩:=Ii H
 refine cl Tryz.call7 (BB _ _ S uD aV) ?_
 rintro _ Fb ⟨rfl,uF⟩
 have zD:=uE _ _ uF
 refine Ar rfl ?_
 refine WL.do rfl (Iz Tryz.call9 rfl ?_ (λ _ _ k=>k))
 refine cb Tryz.func9 ?_
 refine sr ?_
 refine dV [vI 0, .int .u64 0, .int .u64 0, .int .u64 0, .slice none 0 0, .slice none 0 0, .slice none 0 0] 33 zD ?_
 intro Fe Ff zF
 refine ns (Kz (.agg #[.string ⟨v9 []⟩,vI 1]) (Kz (.agg #[.string ⟨v9 ([109])⟩,vI 2]) ?_))
 refine lg [.string ⟨v9 []⟩,vI 1, .string ⟨v9 ([109])⟩,vI 2] 89 2 2 zF ?_
 intro gZ Fg qZ
 replace qZ:=IL (y:=row gZ 2 2 (q3 aY.cells ([(aY.mk [] 1),(aY.mk ([109]) 2)])) 89 2) rfl qZ
 refine Kz (.agg #[vI 2, .int .u64 0, .int .u64 0, .int .u64 1, .slice gZ 2 2, .slice none 0 0, .slice none 0 0]) ?_
 have zG:=qZ.pb [0]
 refine dS [vI 2, .int .u64 0, .int .u64 0, .int .u64 1, .slice gZ 2 2, .slice none 0 0, .slice none 0 0] 0 zG H4 ?_
 intro Fh uG
 refine nt (rt (Fin.res (ol rfl rfl (Iy (cs:= [vI 2, .int .u64 0, .int .u64 0, .int .u64 1, .slice gZ 2 2, .slice none 0 0, .slice none 0 0]) U1 H4 ((uG.cls (i:=0) rfl).lit (k:=0) (m:=7) rfl))) ?_))
 refine WL.do rfl (Iz Tryz.call8 rfl ?_ (λ _ _ k=>k))
 refine cb Tryz.func8 ?_
 refine Ic ?_
 have zH:=uG.pk [1]
 refine Ib ?_
 refine dV [vI 2, .int .u64 0, .int .u64 0, .int .u64 1, .slice gZ 2 2, .slice none 0 0, .slice none 0 0] 33 zH ?_
 intro zI Fj uH
 refine Az rfl (An rfl (Ic (sr (La ([vI 2, .int .u64 0, .int .u64 0, .int .u64 1, .slice gZ 2 2, .slice none 0 0, .slice none 0 0]) uH 0 U1 H4 ?_))))
 obtain⟨mI,aX⟩:∃ q,gJ (cZ.mk 2 0 0 1 (E2 ([(aY.mk [] 1),(aY.mk ([109]) 2)])) (E2 []) (E2 []))=q:=⟨_,rfl⟩
 obtain⟨Fp,uI,CX,uJ,uK⟩:=Ii uH
 refine cl Tryz.call19 (mV _ _ (cZ.mk 2 0 0 1 (E2 ([(aY.mk [] 1),(aY.mk ([109]) 2)])) (E2 []) (E2 [])) gZ 2 2 none 0 0 [] none 0 0 [] mI uI rfl (uK _ 1 _ rfl aO) f2 rfl rfl (λ _ _=>bE.nil _ _ _) f2 (λ _ h9=>absurd h9 y6) rfl rfl (λ _ _=>bE.nil _ _ _) f2 (λ _ h9=>absurd h9 y6) e8 aX) ?_
 rintro _ Fq ⟨rfl,uL⟩
 have mJ:=uJ _ _ uL
 refine fw (.bool (decide (¬ (mI=0)))) (IG (e:= !(decide (mI=0))) yk decide_not.symm) (Mz rfl ?_)
 by_cases aP:mI=0
 refine gw (vP zI 1) (dF (Lh aP)) yk (gw (.int .u64 0) (dF (Lh aP)) (Io rfl (bZ.one D4 (jR.of (mJ.cls (i:=0) rfl) rfl))) (gw (.bool false) (dF (Lh aP)) yk (fw (.bool false) (Ih rfl (dF (Lh aP)) rfl) (nt (jf (sk (sr (La ([vI 2, .int .u64 0, .int .u64 0, .int .u64 1, .slice gZ 2 2, .slice none 0 0, .slice none 0 0]) mJ 0 U1 H4 ?_))))))))
 obtain⟨O,bv⟩:∃ q,gW (cZ.mk 2 0 0 1 (E2 ([(aY.mk [] 1),(aY.mk ([109]) 2)])) (E2 []) (E2 []))=q:=⟨_,rfl⟩
 obtain⟨Fs,uM,CY,uN,uO⟩:=Ii mJ
 refine cl Tryz.call20 (nN _ _ (cZ.mk 2 0 0 1 (E2 ([(aY.mk [] 1),(aY.mk ([109]) 2)])) (E2 []) (E2 [])) gZ 2 2 none 0 0 [] none 0 0 [] O uM rfl (uO _ 1 _ rfl aO) f2 rfl rfl (λ _ _=>bE.nil _ _ _) f2 (λ _ h9=>absurd h9 y6) rfl rfl (λ _ _=>bE.nil _ _ _) f2 (λ _ h9=>absurd h9 y6) e8 (by first | assumption | exact wM f5 | exact λ _ h9=>absurd h9 y6) (by first | assumption | exact wN f5 | exact λ _ h9=>absurd h9 y6) bv) ?_
 rintro _ Fu ⟨uP,uQ,uS,uU,uV,uW,Fv,Fw,rfl,uX,mO,mP⟩
 have mM:=uN _ _ uX
 have CZ:=aB mO
 have C8:=aB mP
 have C9:=zr 0 mM
 have Da:=zr 1 mM
 have Db:=zr 3 mM
 have Dc:O.ag.ls.length=2/\O.au=2/\O.aj.ls.length=0/\O.aF.ls.length=0:=Ch bv
 refine Kz (.agg #[vI O.au,vU O.av,vU O.aV,vU O.aL, .slice uP O.ag.ls.length uQ, .slice uS O.aj.ls.length uU, .slice uV O.aF.ls.length uW, .int .u64 0, .slice none 0 0, .bool false, .int .u64 0,vI 0, .slice none 0 0, .bool false, .int .u64 0,vI 0, .slice none 0 0, .bool false, .int .u64 0,vI 0, .slice none 0 0, .bool false, .int .u64 0,vI 0, .slice none 0 0, .bool false, .int .u64 0,vI 0, .slice none 0 0, .int .u64 0, .int .u64 0, .int .u64 0, .int .u64 0, .int .u64 0, .pointer none]) ?_
 refine dV [vI O.au,vU O.av,vU O.aV,vU O.aL, .slice uP O.ag.ls.length uQ, .slice uS O.aj.ls.length uU, .slice uV O.aF.ls.length uW, .int .u64 0, .slice none 0 0, .bool false, .int .u64 0,vI 0, .slice none 0 0, .bool false, .int .u64 0,vI 0, .slice none 0 0, .bool false, .int .u64 0,vI 0, .slice none 0 0, .bool false, .int .u64 0,vI 0, .slice none 0 0, .bool false, .int .u64 0,vI 0, .slice none 0 0, .int .u64 0, .int .u64 0, .int .u64 0, .int .u64 0, .int .u64 0, .pointer none] 86 mM ?_
 intro bz Fx zJ
 refine An rfl (Ic ?_)
 have uY:=zJ.px [] [6] []
 refine Ib (Mz rfl (Kz (vP bz 0) (Kz (vP bz 0) (Kz (vP bz 1) (Lz (vU O.av) uY 0 D4 (fw (.int .u64 ((D0 (D1.wrap ((O.av:Int)+1)):Nat):Int)) (Ie (e:=D1.wrap ((O.av:Int)+1)) yk (fD _)) (Kz (vP bz 0) (Kz (vP bz 0) (Kz (vP bz 1) ?_)))))))))
 refine dS [.int .u64 ((D0 (D1.wrap ((O.av:Int)+1)):Nat):Int)] 1 uY N7 ?_
 intro Fy uZ
 refine ns (Mz rfl (Mz rfl (Kz (vP bz 0) (Kz (vP bz 0) (Kz (vP bz 1) (Lz (.int .u64 ((D0 (D1.wrap ((O.av:Int)+1)):Nat):Int)) uZ 0 D4 ?_))))))
 have De:eU (D0 (D1.wrap ((O.av:Int)+1))) 32<=18446744073709551615:=nZ _ _
 refine fw (.int .u64 ((eU (D0 (D1.wrap ((O.av:Int)+1))) 32:Nat):Int)) (Ie (Jv (m:=32) rfl rfl) (fD _)) (Kz (vP bz 0) (Kz (vP bz 0) (Kz (vP bz 2) ?_)))
 refine dS [.int .u64 ((eU (D0 (D1.wrap ((O.av:Int)+1))) 32:Nat):Int)] 2 uZ N7 ?_
 intro bT zK
 refine ns (Mz rfl (Az rfl (An rfl (rt (Fin.res (lW rfl rfl rfl) ?_)))))
 have zL:Own w D bT (sepL (q3 bB.own [])::_):=zK.sepNil
 have zM:Own w D bT (row none 0 0 (q3 bB.cells []) 107 9::_):=zL.free (eZ 107 9)
 have zN:Own w D bT (sepL (q3 ae.own [])::_):=zM.sepNil
 have zO:Own w D bT (row none 0 0 (q3 ae.cells []) 149 3::_):=zN.free (eZ 149 3)
 have zP:Own w D bT (sepL (q3 ae.own [])::_):=zO.sepNil
 have zQ:Own w D bT (row none 0 0 (q3 ae.cells []) 149 3::_):=zP.free (eZ 149 3)
 have zR:Own w D bT (sepL (q3 ae.own [])::_):=zQ.sepNil
 have zS:Own w D bT (row none 0 0 (q3 ae.cells []) 149 3::_):=zR.free (eZ 149 3)
 have zT:Own w D bT (sepL (q3 ae.own [])::_):=zS.sepNil
 have zU:Own w D bT (row none 0 0 (q3 ae.cells []) 149 3::_):=zT.free (eZ 149 3)
 have u6:Own w D bT (sepL (q3 ae.own [])::_):=zU.sepNil
 have u7:Own w D bT (row none 0 0 (q3 ae.cells []) 149 3::_):=u6.free (eZ 149 3)
 have ve:=u7.pf [12,13,14,15,16,17,10,11]
 have vg:Own w D bT (iG bz (aA.mk (cZ.mk O.au (D0 (D1.wrap ((O.av:Int)+1))) (eU (D0 (D1.wrap ((O.av:Int)+1))) 32) O.aL (E2 O.ag.ls) (E2 O.aj.ls) (E2 O.aF.ls)) 0 (E2 []) (df.mk false 0 0 (E2 [])) (df.mk false 0 0 (E2 [])) (df.mk false 0 0 (E2 [])) (df.mk false 0 0 (E2 [])) (df.mk false 0 0 (E2 [])) 0 0 0 0 0)::_):=fe mO mP rfl rfl rfl rfl rfl rfl ve
 obtain⟨Y,aD⟩:∃ q,(aA.mk (cZ.mk O.au (D0 (D1.wrap ((O.av:Int)+1))) (eU (D0 (D1.wrap ((O.av:Int)+1))) 32) O.aL (E2 O.ag.ls) (E2 O.aj.ls) (E2 O.aF.ls)) 0 (E2 []) (df.mk false 0 0 (E2 [])) (df.mk false 0 0 (E2 [])) (df.mk false 0 0 (E2 [])) (df.mk false 0 0 (E2 [])) (df.mk false 0 0 (E2 [])) 0 0 0 0 0)=q:=⟨_,rfl⟩
 have vk:Own w D bT [iG bz Y,row gZ 2 2 (q3 aY.cells ([(aY.mk [] 1),(aY.mk ([109]) 2)])) 89 2]:=by rw [<- aD]; exact vg
 have zV:Mk Y:=wO f5 f5
 have zW:Y.aa.ag.ls.length<=1000/\Y.aa.au<=4/\Y.ay.ls.length+Y.aa.aj.ls.length<=8/\Y.aa.aF.ls.length<=0:=tZ f5 f5
 refine Mz rfl (Kz (vP bz 0) (Kz (vI 0) (Az rfl (An rfl (Ic (Ic ?_))))))
 have lD:=vk.pk [0]
 refine Ib (Mz rfl (Kz (.bool false) (Mz rfl (gw (vI 0) rfl (Iq rfl) (Gz (.bool false) rfl (fw (.bool false) (Ih rfl rfl rfl) (Mz rfl (gw (.slice A0 l0.length c0) rfl (Iq rfl) (Gz (vJ l0.length) rfl (Gz (.bool (decide ((l0.length:Int) > 100))) rfl (fw (.bool (decide ((l0.length:Int) > 100))) (Ih rfl rfl rfl) (nt ?_))))))))))))
 by_cases bA:(l0.length:Int) > 100
 refine jT (dT bA) (sr (Mz rfl (Mz rfl ?_)))
 rcases Li (S) with bU | bU
 refine I1 (v:=vP bz 0) rfl rfl bU rfl (Iq rfl) (Gz (.bool true) bU (fw (.bool true) (Iw rfl bU rfl) (An rfl (rt (tR (rs ?_))))))
 have vo:=lD.pk []
 obtain rfl:=zj hr zq7
 exact⟨rfl,vo⟩
 refine Sz bU (Sz bU (fw (.bool false) (Ih rfl bU rfl) (An rfl (rt (tR (rs ?_))))))
 have vv:=lD.pk []
 obtain rfl:=zj hr zq7
 exact⟨rfl,vv⟩
 refine jF (dF bA) (sk (sr ?_))
 refine WL.do rfl (JN (κ:=Nat) (ν:=eX) kU eX.val lD ?_)
 intro Q Df vw
 refine Ar rfl ?_
 refine WL.do rfl (JN (κ:=Nat) (ν:=Bool) kU Value.bool vw ?_)
 intro P Dh vz
 refine An rfl (Ic (sr (Mz rfl (Kz (vJ l0.length) (Mn rfl (bo ?_))))))
 have vB:=vz.pf []
 obtain⟨vC,iw⟩:=Au λ (C:Nat) (g:aA) (p:Nat) T U w'=>Own w D w' [l5 P kU Value.bool T,l5 Q kU eX.val U,iG C g]/\p<=l0.length/\(g.aa.ag.ls.length<=1000/\g.aa.au<=4/\g.ay.ls.length+g.aa.aj.ls.length<=8/\g.aa.aF.ls.length<=p)/\Mk g/\fP S l0 Y [] []=fP S (r3 p l0) g T U
 refine C3 (λ i:Nat × aA × Nat × (List (Nat × Bool)) × (List (Nat × eX))=> [(2, .bool false),(4, .pointer (some ⟨i.1,0,none⟩)),(49,vJ i.2.2.1),(48,vJ l0.length),(47, .slice A0 l0.length c0),(7, .map (some P)),(6, .map (some Q)),(3, .bool S)]) vC (λ i=>l0.length - i.2.2.1) (bz,Y,0, [], []) ⟨rfl,rfl,rfl,rfl,rfl,rfl,rfl,rfl,trivial⟩ (iw.2 ⟨vB,(show 0<=l0.length/\(Y.aa.ag.ls.length<=1000/\Y.aa.au<=4/\Y.ay.ls.length+Y.aa.aj.ls.length<=8/\Y.aa.aF.ls.length<=0)/\Mk Y/\fP S l0 Y [] []=fP S (r3 0 l0) Y [] [] from ⟨e6,by first | omega | (dsimp only; omega) | exact tZ f5 f5,by first | assumption | exact wO f5 f5,rfl⟩)⟩) ?_
 rintro ⟨C,g,p,T,U⟩ Di q8
 obtain⟨iO,zX,zY,zZ,aQ⟩:=iw.1 q8
 refine sr (Kz (.bool (decide ((p:Int) < (l0.length:Int)))) (nt (Ic ?_)))
 by_cases mQ:(p:Int) < (l0.length:Int)
 obtain⟨a,aF⟩:=dN (ls:=d0) (i:=p) fM.len f4 (iO.ro qY) e9
 have lF:=fF uC aF
 have z8:=(iM _ (D3 aF)).2.1
 have Aa:=(iM _ (D3 aF)).2.2.2.1
 have Ab:r8 (s5 ae.abs a.az.ai.ls)=a.az.ai.ls.length:=s3 ..
 have Ac:=(iM _ (D3 aF)).2.2.2.2.2.2
 have Ad:a.az.aP<=18446744073709551615/\a.az.aH.ls.length<=140737488351232/\a.az.ai.ls.length<=140737488351232/\a.az.ag.ls.length<=140737488351232:=by have q:=zC _ (D3 lF); exact⟨q.1,q.2.1,Nat.le_trans (Nat.le_of_eq (s3 ..).symm) q.2.2.1,q.2.2.2⟩
 have bC:=drop_at lF
 refine jT (dT mQ) (sk (Ic (bo (sr (fw (.pointer (some ⟨ab A0,ao A0+p *25,none⟩)) (Ij (G7) rfl rfl ((iO.ro qY).addr (i:=p) e6) e6) (fw (.agg (fM.cells a).toArray) (Io rfl (Iy (cs:=(fM.cells a)) V9 W0 ((iO.ro qY).elem fM.len aF f4))) ?_))))))
 refine dV (Gy 0 0 0 0 0 0 0 0 0 0 0 0 0 0 0 0 0 false [] [] none 0 0 none 0 0 none 0 0 false []) 44 iO ?_
 intro E Dj vE
 refine dS (fM.cells a) 0 vE W0 ?_
 intro Dk vF
 refine ns (Kz (.agg #[.slice none 0 0, .bool false]) ?_)
 refine dV [.slice none 0 0, .bool false] 47 vF ?_
 intro F Dl vG
 refine dS [.slice none 0 0, .bool false] 0 vG T4 ?_
 intro mR ib
 refine nt (Ic (sr (Kz (vP E 0) (Lz (vI a.iU) ib 1 C4 (nt ?_)))))
 by_cases dK: ¬ (a.iU=0)\/¬ (a.az.aD=6)
 obtain⟨vH,dX⟩:=GM λ (B:Nat) (h:aA) j (u:Nat) L b aH w'=>Own w D w' [blk F [.slice j b.length u, .bool aH] 47,blk E (fM.cells a) 44,l5 P kU Value.bool T,l5 Q kU eX.val U,iG B h,row j b.length u (q3 bf.cells L) 42 21,sepL (q3 bf.own L)]/\s5 bf.abs L=b/\0<=b.length/\b.length<=9223372036854775807/\(h.aa.ag.ls.length<=1000/\h.aa.au<=4/\h.ay.ls.length+h.aa.aj.ls.length<=8/\h.aa.aF.ls.length<=g.aa.aF.ls.length+1)/\Mk h/\(if a.iU=0 then bnd (bnd (eQ g) λ X=>(ja a.dE a.az.aD 1 X.av a.az.av,lZ a.dE a.az.aN X.av,ja a.dE a.az.aD 9 X.aV a.az.aV)) λ sJrbbtbbfLstJjtJ=>bnd (eT g (bL.mk a.az.aD a.az.aJ a.az.fI a.az.aK a.az.dz a.az.eH a.az.aP sJrbbtbbfLstJjtJ.1 sJrbbtbbfLstJjtJ.2.1 a.az.dY sJrbbtbbfLstJjtJ.2.2 a.az.aL (nR a.dE a.az.dL 0) a.az.cu a.az.xN a.az.cz a.az.bU (E2 a.az.aH.ls) (E2 (s5 ae.abs a.az.ai.ls)) (E2 a.az.ag.ls))) λ bF=>B9 (bF.2.2,bF.1.fo.ls) else if a.iU=1 then bnd (jk g) λ bG=>B9 (bG.2,bG.1.fo.ls) else if a.iU=4 then bnd (eQ g) λ au=>bnd (gJ au) λ dY=>if dY=0 then if(au.av:Int)=2147483647 then C1 (false) else bnd (gW au) λ J=>bnd ((aA.mk (cZ.mk J.au (D0 (D1.wrap ((J.av:Int)+1))) (eU (D0 (D1.wrap ((J.av:Int)+1))) 32) J.aL (E2 J.ag.ls) (E2 J.aj.ls) (E2 J.aF.ls)) 0 (E2 []) (df.mk false 0 0 (E2 [])) (df.mk false 0 0 (E2 [])) (df.mk false 0 0 (E2 [])) (df.mk false 0 0 (E2 [])) (df.mk false 0 0 (E2 [])) 0 0 0 0 0)) λ dZ=>B9 (dZ, []) else C1 (false) else B9 (g, []))=B9 (h,b)
 refine IZ (λ i:Nat × aA × (Option Addr) × Nat × (List bf) × (List bL) × Bool=> [(2, .bool false),(4, .pointer (some ⟨i.1,0,none⟩)),(56, .bool (decide (a.iU=0))),(57, .bool (decide (a.iU=0))),(55,vI a.iU),(54,vP E 0),(10,vP F 0),(53, .agg #[.slice none 0 0, .bool false]),(9,vP E 0),(52, .agg (fM.cells a).toArray),(51, .pointer (some ⟨ab A0,ao A0+p *25,none⟩)),(50, .bool (decide ((p:Int) < (l0.length:Int)))),(49,vJ p),(48,vJ l0.length),(47, .slice A0 l0.length c0),(7, .map (some P)),(6, .map (some Q)),(3, .bool S)]) vH ?_ ?_
 refine bo (sr (Kz (.bool (decide (a.iU=0))) (An rfl ?_)))
 by_cases dL:a.iU=0
 refine jT (dT dL) (Ic ?_)
 obtain⟨vK,iy⟩:=FB λ (bV:Nat) (aJ:Nat) (aK:Nat) (aL:Nat) (iP:Int) (iQ:Nat) (iR:Nat) (iT:Nat) ed (ek:Nat) bW eu (eB:Nat) bX bY eF (eG:Nat) cu cz (iU:Nat) (iV:Nat) (iW:Nat) w'=>Own w D w' [blk bV [vI a.az.aD,vI a.az.aJ,vI a.az.fI,vI a.az.aK,vI a.az.dz,vI a.az.eH,vU a.az.aP,vU aJ,vU aK,vU a.az.dY,vU aL,vU a.az.aL,vU (nR a.dE a.az.dL 0),vU a.az.cu,vU a.az.xN, .bool a.az.cz, .string ⟨v9 a.az.bU.bF⟩, .string ⟨v9 a.az.bU.bT⟩, .slice a.az.aH.A a.az.aH.ls.length a.az.aH.c, .slice a.az.ai.A a.az.ai.ls.length a.az.ai.c, .slice a.az.ag.A a.az.ag.ls.length a.az.ag.c] 42,blk F [.slice none 0 0, .bool false] 47,blk E (fM.cells a) 44,l5 P kU Value.bool T,l5 Q kU eX.val U,iG C g,row ed bW.length ek (q3 aY.cells bW) 89 2,row eu bY.length eB (q3 aC.cells bX) 60 5,sepL (q3 aC.own bX),row eF cz.length eG (q3 aU.cells cu) 56 4,sepL (q3 aU.own cu)]/\s5 aC.abs bX=bY/\s5 aU.abs cu=cz/\(bnd (eQ g) λ X=>(ja a.dE a.az.aD 1 X.av a.az.av,lZ a.dE a.az.aN X.av,ja a.dE a.az.aD 9 X.aV a.az.aV))=(aJ,aK,aL)
 refine IZ (λ i:Nat × Nat × Nat × Nat × Int × Nat × Nat × Nat × (Option Addr) × Nat × (List aY) × (Option Addr) × Nat × (List aC) × (List bH) × (Option Addr) × Nat × (List aU) × (List eD) × Nat × Nat × Nat=> [(11, .pointer (some ⟨i.1,0,none⟩)),(58, .agg (fM.cells a).toArray),(59,vP C 0),(60, .agg #[vI i.2.2.2.2.1,vU i.2.2.2.2.2.1,vU i.2.2.2.2.2.2.1,vU i.2.2.2.2.2.2.2.1, .slice i.2.2.2.2.2.2.2.2.1 i.2.2.2.2.2.2.2.2.2.2.1.length i.2.2.2.2.2.2.2.2.2.1, .slice i.2.2.2.2.2.2.2.2.2.2.2.1 i.2.2.2.2.2.2.2.2.2.2.2.2.2.2.1.length i.2.2.2.2.2.2.2.2.2.2.2.2.1, .slice i.2.2.2.2.2.2.2.2.2.2.2.2.2.2.2.1 i.2.2.2.2.2.2.2.2.2.2.2.2.2.2.2.2.2.2.1.length i.2.2.2.2.2.2.2.2.2.2.2.2.2.2.2.2.1]),(61,vP C 0),(62, .int .u64 0),(63, .agg #[vI a.az.aD,vI a.az.aJ,vI a.az.fI,vI a.az.aK,vI a.az.dz,vI a.az.eH,vU a.az.aP,vU i.2.2.2.2.2.2.2.2.2.2.2.2.2.2.2.2.2.2.2.1,vU i.2.2.2.2.2.2.2.2.2.2.2.2.2.2.2.2.2.2.2.2.1,vU a.az.dY,vU i.2.2.2.2.2.2.2.2.2.2.2.2.2.2.2.2.2.2.2.2.2,vU a.az.aL,vU (nR a.dE a.az.dL 0),vU a.az.cu,vU a.az.xN, .bool a.az.cz, .string ⟨v9 a.az.bU.bF⟩, .string ⟨v9 a.az.bU.bT⟩, .slice a.az.aH.A a.az.aH.ls.length a.az.aH.c, .slice a.az.ai.A a.az.ai.ls.length a.az.ai.c, .slice a.az.ag.A a.az.ag.ls.length a.az.ag.c]),(56, .bool (decide (a.iU=0))),(57, .bool (decide (a.iU=0))),(55,vI a.iU),(54,vP E 0),(10,vP F 0),(53, .agg #[.slice none 0 0, .bool false]),(9,vP E 0),(52, .agg (fM.cells a).toArray),(51, .pointer (some ⟨ab A0,ao A0+p *25,none⟩)),(50, .bool (decide ((p:Int) < (l0.length:Int)))),(2, .bool false),(4,vP C 0),(49,vJ p),(48,vJ l0.length),(47, .slice A0 l0.length c0),(7, .map (some P)),(6, .map (some Q)),(3, .bool S)]) vK ?_ ?_
 refine vX [] (Iu (bQ.block (Iu (bQ.block (Iu (Iu (bQ.block (Iu IC)))))))) ib ?_
 intro Dm mU
 refine qt (v:= .agg (fM.cells a).toArray) 0 rfl (λ _ ⟨_,H9⟩=>Io rfl (Iy (cs:=(fM.cells a)) V9 W0 ((H9.cls (i:=1) rfl).lit (k:=0) (m:=25) rfl))) (qv 1 rfl rfl (qv 3 rfl rfl ?_))
 refine Jj 2 6 e7 ?_ ?_
 have vL:=mU.pf [4]
 obtain⟨l,iA⟩:∃ q,eQ g=q:=⟨_,rfl⟩
 obtain⟨Dn,q9,Af,rf,Ag⟩:=II vL
 refine GY.do 2 rfl e7 (Iz W1 rfl (kE _ _ C g l q9 e8 f5 iA) ?_)
 rintro _ Dp ⟨kF,kG,kH,kI,eH,eO,mW,mX,rfl,rq,jQ,jS⟩
 have kJ:=rf _ _ rq
 have Ah:=aB jQ
 have Ai:=aB jS
 have Aj:=zr 0 kJ
 have Ak:=zr 1 kJ
 have Al:=zr 3 kJ
 obtain⟨Am,Ao,Ap⟩:=uT f5 f5 iA
 have lG:=kJ.pf [6,7,8,9]
 refine⟨.inr ⟨_,lG⟩, ?_⟩
 refine Jj 4 6 e7 ?_ ?_
 refine GY.do 4 rfl e7 (Iz U8 rfl ?_ (λ _ _ k=>k))
 refine cb U9 ?_
 refine sr (An rfl (Ic (Ic ?_)))
 have vM:=lG.pf [9]
 obtain⟨Dq,Dr,Dt,Du,Dv,mY,mZ,ng,ni,nk,nu,ny,nz,nA,nC,nD,nE,nG,nH,nI,nJ,nK,nL,nM,nO,nP,ru,eP,fo,fq,fu,fA,fC,fE,Aq,nS⟩:=iZ vM
 refine Ib (Mz rfl (Kz (vP C 0) (Kz (vP C 34) (Lz (.pointer none) nS 0 V0 (Kz (.bool true) (nt (jt (sr (An rfl (rt (tR (rs ?_))))))))))))
 have nV:=nS.pf [18,19,20,21]
 refine⟨.inr ⟨_,nV⟩, ?_⟩
 refine Et ⟨5,_,_,_,_,_,Unit,λ g9=> .agg #[vI a.az.aD,vI a.az.aJ,vI a.az.fI,vI a.az.aK,vI a.az.dz,vI a.az.eH,vU a.az.aP,vU (ja a.dE a.az.aD 1 l.av a.az.av),vU (lZ a.dE a.az.aN l.av),vU a.az.dY,vU (ja a.dE a.az.aD 9 l.aV a.az.aV),vU a.az.aL,vU (nR a.dE a.az.dL 0),vU a.az.cu,vU a.az.xN, .bool a.az.cz, .string ⟨v9 a.az.bU.bF⟩, .string ⟨v9 a.az.bU.bT⟩, .slice a.az.aH.A a.az.aH.ls.length a.az.aH.c, .slice a.az.ai.A a.az.ai.ls.length a.az.ai.c, .slice a.az.ag.A a.az.ag.ls.length a.az.ag.c],λ _=>True,λ g9=> []⟩ ⟨6,_,_,_,_,_,Nat,λ g9=>vP g9 0,λ _=>True,λ g9=> [blk g9 (gU 0 0 0 0 0 0 0 0 0 0 0 0 0 0 0 false [] [] none 0 0 none 0 0 none 0 0) 42]⟩ 4 nV ⟨⟨rfl,rfl,rfl, ?_⟩,⟨rfl,rfl,rfl, ?_⟩,trivial⟩ ?_
 intro Dw L' vN
 obtain⟨Dx,ry,Av,rA,Aw⟩:=Ii vN
 refine(Iz W2 rfl (qQ _ _ a l.au l.av l.aV l.aL kF l.ag.ls.length kG kH l.aj.ls.length kI eH l.aF.ls.length eO 0 ry) ?_)
 rintro _ Dy ⟨rfl,rC⟩
 have vO:=rA _ _ rC
 exact⟨(),rfl,trivial,vO⟩
 intro Dz L' fG
 refine(IY (cs:=(gU 0 0 0 0 0 0 0 0 0 0 0 0 0 0 0 false [] [] none 0 0 none 0 0 none 0 0)) (t:=42) fG rfl rfl (λ _=>by kernel_rfl) ?_)
 intro kK nW iX
 exact⟨kK,rfl,trivial,iX⟩
 rintro ⟨⟩ _ kK _
 intro vQ iY
 have jb:Own w D vQ (blk kK (gU 0 0 0 0 0 0 0 0 0 0 0 0 0 0 0 false [] [] none 0 0 none 0 0 none 0 0) 42::_):=iY.flat.pf []
 have jc:=jb.pf [1,2,3,4]
 have vR:=jc.pf [4]
 refine qe 7 rfl (Do.store (vs:= [vI a.az.aD,vI a.az.aJ,vI a.az.fI,vI a.az.aK,vI a.az.dz,vI a.az.eH,vU a.az.aP,vU (ja a.dE a.az.aD 1 l.av a.az.av),vU (lZ a.dE a.az.aN l.av),vU a.az.dY,vU (ja a.dE a.az.aD 9 l.aV a.az.aV),vU a.az.aL,vU (nR a.dE a.az.dL 0),vU a.az.cu,vU a.az.xN, .bool a.az.cz, .string ⟨v9 a.az.bU.bF⟩, .string ⟨v9 a.az.bU.bT⟩, .slice a.az.aH.A a.az.aH.ls.length a.az.aH.c, .slice a.az.ai.A a.az.ai.ls.length a.az.ai.c, .slice a.az.ag.A a.az.ag.ls.length a.az.ag.c]) (o:=0) vR rfl rfl N6 rfl rfl rfl rfl ?_)
 intro DC vS
 have nX:=vS.pf [1,2,3,4]
 refine⟨.inr ⟨_,nX⟩, ?_⟩
 refine qn ?_
 have vT:=nX.pb [0,1,2,3,4,23,24,25,26,27]
 have vV:=fe ru eP fo fq fu fA fC fE vT
 have vW:=vV.pf [5,1,2,3,4]
 exact IQ (kK,ja a.dE a.az.aD 1 l.av a.az.av,lZ a.dE a.az.aN l.av,ja a.dE a.az.aD 9 l.aV a.az.aV,l.au,l.av,l.aV,l.aL,kF,kG,l.ag.ls,kH,kI,mW,l.aj.ls,eH,eO,mX,l.aF.ls,ja a.dE a.az.aD 1 l.av a.az.av,lZ a.dE a.az.aN l.av,ja a.dE a.az.aD 9 l.aV a.az.aV) ⟨rfl,rfl,rfl,rfl,rfl,rfl,rfl,rfl,rfl,rfl,rfl,rfl,rfl,rfl,rfl,rfl,rfl,rfl,rfl,rfl,rfl,rfl,rfl,rfl,rfl,trivial⟩ (iy.2 ⟨vW,by exact jQ,by exact jS,ah iA⟩)
 refine GY.do 6 rfl e7 (IY (cs:=(gU 0 0 0 0 0 0 0 0 0 0 0 0 0 0 0 false [] [] none 0 0 none 0 0 none 0 0)) (t:=42) lG rfl rfl (λ _=>by kernel_rfl) ?_)
 intro vY DD vZ
 have jd:=vZ.pf [1,2,3,4]
 refine⟨.inr ⟨_,jd⟩, ?_⟩
 refine GX.do 4 rfl e7 (Iz U8 rfl ?_ (λ _ _ k=>k))
 refine cb U9 ?_
 refine sr (An rfl (Ic (Ic ?_)))
 have lI:=jd.pf [10]
 obtain⟨wh,wm,mY,mZ,ng,ni,nk,nu,ny,nz,nA,nC,nD,nE,nG,nH,nI,nJ,nK,nL,nM,nO,nP,wo,wu,ww,eP,fo,fq,fu,fA,fC,fE,jU,rD,je⟩:=iZ lI
 refine Ib (Mz rfl (Kz (vP C 0) (Kz (vP C 34) (Lz (.pointer none) je 0 V0 (Kz (.bool true) (nt (jt (sr (An rfl (rt (tR (rs ?_))))))))))))
 have jg:=je.pf [18,19,20,21]
 refine⟨.inr ⟨_,jg⟩, ?_⟩
 obtain⟨wy,jV,rE,jW,rF⟩:=Ii jg
 refine qd 5 rfl (Iz W2 rfl (qQ _ _ a l.au l.av l.aV l.aL kF l.ag.ls.length kG kH l.aj.ls.length kI eH l.aF.ls.length eO 0 jV) ?_)
 rintro _ wz ⟨rfl,jX⟩
 have fG:=jW _ _ jX
 refine⟨.inr ⟨_,fG⟩, ?_⟩
 have lJ:=fG.pf [22]
 refine qe 7 rfl (Do.store (vs:= [vI a.az.aD,vI a.az.aJ,vI a.az.fI,vI a.az.aK,vI a.az.dz,vI a.az.eH,vU a.az.aP,vU (ja a.dE a.az.aD 1 l.av a.az.av),vU (lZ a.dE a.az.aN l.av),vU a.az.dY,vU (ja a.dE a.az.aD 9 l.aV a.az.aV),vU a.az.aL,vU (nR a.dE a.az.dL 0),vU a.az.cu,vU a.az.xN, .bool a.az.cz, .string ⟨v9 a.az.bU.bF⟩, .string ⟨v9 a.az.bU.bT⟩, .slice a.az.aH.A a.az.aH.ls.length a.az.aH.c, .slice a.az.ai.A a.az.ai.ls.length a.az.ai.c, .slice a.az.ag.A a.az.ag.ls.length a.az.ag.c]) (o:=0) lJ rfl rfl N6 rfl rfl rfl rfl ?_)
 intro nW iX
 have jh:=iX.pf [1,2,3,4]
 refine⟨.inr ⟨_,jh⟩, ?_⟩
 refine qn ?_
 have iY:=jh.pb [0,1,2,3,4,23,24,25,26,27]
 have jb:=fe eP fo fq fu fA fC fE jU iY
 have jc:=jb.pf [5,1,2,3,4]
 exact IQ (vY,ja a.dE a.az.aD 1 l.av a.az.av,lZ a.dE a.az.aN l.av,ja a.dE a.az.aD 9 l.aV a.az.aV,l.au,l.av,l.aV,l.aL,kF,kG,l.ag.ls,kH,kI,mW,l.aj.ls,eH,eO,mX,l.aF.ls,ja a.dE a.az.aD 1 l.av a.az.av,lZ a.dE a.az.aN l.av,ja a.dE a.az.aD 9 l.aV a.az.aV) ⟨rfl,rfl,rfl,rfl,rfl,rfl,rfl,rfl,rfl,rfl,rfl,rfl,rfl,rfl,rfl,rfl,rfl,rfl,rfl,rfl,rfl,rfl,rfl,rfl,rfl,trivial⟩ (iy.2 ⟨jc,by exact jQ,by exact jS,ah iA⟩)
 refine GY.do 6 rfl e7 (IY (cs:=(gU 0 0 0 0 0 0 0 0 0 0 0 0 0 0 0 false [] [] none 0 0 none 0 0 none 0 0)) (t:=42) mU rfl rfl (λ _=>by kernel_rfl) ?_)
 intro wB DF wC
 have og:=wC.pb [0,5]
 refine⟨.inr ⟨_,og⟩, ?_⟩
 have wD:=og.pf [5]
 obtain⟨l,jY⟩:∃ q,eQ g=q:=⟨_,rfl⟩
 obtain⟨DI,rG,Ay,rH,AA⟩:=II wD
 refine qd 2 rfl (Iz W1 rfl (kE _ _ C g l rG e8 f5 jY) ?_)
 rintro _ DJ ⟨eH,eO,oh,om,oo,oq,wE,wF,rfl,rJ,lK,lL⟩
 have kM:=rH _ _ rJ
 have AB:=aB lK
 have AC:=aB lL
 have AJ:=zr 0 kM
 have AL:=zr 1 kM
 have AO:=zr 3 kM
 obtain⟨AP,AQ,AR⟩:=uT f5 f5 jY
 have jd:=kM.pf [6,7,8,9]
 refine⟨.inr ⟨_,jd⟩, ?_⟩
 refine GX.do 4 rfl e7 (Iz U8 rfl ?_ (λ _ _ k=>k))
 refine cb U9 ?_
 refine sr (An rfl (Ic (Ic ?_)))
 have lI:=jd.pf [9]
 obtain⟨wh,wm,mY,mZ,ng,ni,nk,nu,ny,nz,nA,nC,nD,nE,nG,nH,nI,nJ,nK,nL,nM,nO,nP,wo,wu,ww,eP,fo,fq,fu,fA,fC,fE,jU,rD,je⟩:=iZ lI
 refine Ib (Mz rfl (Kz (vP C 0) (Kz (vP C 34) (Lz (.pointer none) je 0 V0 (Kz (.bool true) (nt (jt (sr (An rfl (rt (tR (rs ?_))))))))))))
 have jg:=je.pf [18,19,20,21]
 refine⟨.inr ⟨_,jg⟩, ?_⟩
 obtain⟨wy,jV,rE,jW,rF⟩:=Ii jg
 refine qd 5 rfl (Iz W2 rfl (qQ _ _ a l.au l.av l.aV l.aL eH l.ag.ls.length eO oh l.aj.ls.length om oo l.aF.ls.length oq 0 jV) ?_)
 rintro _ wz ⟨rfl,jX⟩
 have fG:=jW _ _ jX
 refine⟨.inr ⟨_,fG⟩, ?_⟩
 have lJ:=fG.pf [27]
 refine qe 7 rfl (Do.store (vs:= [vI a.az.aD,vI a.az.aJ,vI a.az.fI,vI a.az.aK,vI a.az.dz,vI a.az.eH,vU a.az.aP,vU (ja a.dE a.az.aD 1 l.av a.az.av),vU (lZ a.dE a.az.aN l.av),vU a.az.dY,vU (ja a.dE a.az.aD 9 l.aV a.az.aV),vU a.az.aL,vU (nR a.dE a.az.dL 0),vU a.az.cu,vU a.az.xN, .bool a.az.cz, .string ⟨v9 a.az.bU.bF⟩, .string ⟨v9 a.az.bU.bT⟩, .slice a.az.aH.A a.az.aH.ls.length a.az.aH.c, .slice a.az.ai.A a.az.ai.ls.length a.az.ai.c, .slice a.az.ag.A a.az.ag.ls.length a.az.ag.c]) (o:=0) lJ rfl rfl N6 rfl rfl rfl rfl ?_)
 intro nW iX
 have jh:=iX.pf [1,2,3,4]
 refine⟨.inr ⟨_,jh⟩, ?_⟩
 refine qn ?_
 have iY:=jh.pb [0,1,2,3,4,23,24,25,26,27]
 have jb:=fe eP fo fq fu fA fC fE jU iY
 have jc:=jb.pf [5,1,2,3,4]
 exact IQ (wB,ja a.dE a.az.aD 1 l.av a.az.av,lZ a.dE a.az.aN l.av,ja a.dE a.az.aD 9 l.aV a.az.aV,l.au,l.av,l.aV,l.aL,eH,eO,l.ag.ls,oh,om,wE,l.aj.ls,oo,oq,wF,l.aF.ls,ja a.dE a.az.aD 1 l.av a.az.av,lZ a.dE a.az.aN l.av,ja a.dE a.az.aD 9 l.aV a.az.aV) ⟨rfl,rfl,rfl,rfl,rfl,rfl,rfl,rfl,rfl,rfl,rfl,rfl,rfl,rfl,rfl,rfl,rfl,rfl,rfl,rfl,rfl,rfl,rfl,rfl,rfl,trivial⟩ (iy.2 ⟨jc,by exact lK,by exact lL,ah jY⟩)
 rintro ⟨bV,aJ,aK,aL,iP,iQ,iR,iT,ed,ek,bW,eu,eB,bX,bY,eF,eG,cu,cz,iU,iV,iW⟩ DK rM
 obtain⟨lM,rO,rP,rQ⟩:=iy.1 rM
 have AU:=aB rO
 have AV:=aB rP
 refine Ic (sr (Kz (vP bV 0) (Lz (vI a.az.aD) lM 0 C4 (Kz (.bool (decide (a.az.aD=6))) (nt ?_)))))
 have rR:(decide (a.az.aD=6))=false:=(dF e6)
 refine jF rR (sk (Ib (Mz rfl (La ([vI a.az.aD,vI a.az.aJ,vI a.az.fI,vI a.az.aK,vI a.az.dz,vI a.az.eH,vU a.az.aP,vU aJ,vU aK,vU a.az.dY,vU aL,vU a.az.aL,vU (nR a.dE a.az.dL 0),vU a.az.cu,vU a.az.xN, .bool a.az.cz, .string ⟨v9 a.az.bU.bF⟩, .string ⟨v9 a.az.bU.bT⟩, .slice a.az.aH.A a.az.aH.ls.length a.az.aH.c, .slice a.az.ai.A a.az.ai.ls.length a.az.ai.c, .slice a.az.ag.A a.az.ag.ls.length a.az.ag.c]) lM 0 N5 N6 ?_))))
 have wG:=lM.pf [5]
 obtain⟨⟨fH,ou,dM⟩,lN⟩:∃ q:kC × Int × aA,eT g (bL.mk a.az.aD a.az.aJ a.az.fI a.az.aK a.az.dz a.az.eH a.az.aP aJ aK a.az.dY aL a.az.aL (nR a.dE a.az.dL 0) a.az.cu a.az.xN a.az.cz a.az.bU (E2 a.az.aH.ls) (E2 (s5 ae.abs a.az.ai.ls)) (E2 a.az.ag.ls))=q:=⟨_,rfl⟩
 obtain⟨DL,rT,iB,rU,AX⟩:=II wG
 refine cl Tryz.call13 (j5 _ _ C g (bL.mk a.az.aD a.az.aJ a.az.fI a.az.aK a.az.dz a.az.eH a.az.aP aJ aK a.az.dY aL a.az.aL (nR a.dE a.az.dL 0) a.az.cu a.az.xN a.az.cz a.az.bU (E2 a.az.aH.ls) (E2 (s5 ae.abs a.az.ai.ls)) (E2 a.az.ag.ls)) a.az.aH.A a.az.aH.ls.length a.az.aH.c a.az.ai.A a.az.ai.ls.length a.az.ai.c a.az.ai.ls a.az.ag.A a.az.ag.ls.length a.az.ag.c fH ou dM rT rfl (iB _ (iM _ (D3 aF)).1) e6 (rfl:s5 ae.abs a.az.ai.ls=s5 ae.abs a.az.ai.ls) f1 (λ w9 h9=>qg (aB (rfl:s5 ae.abs a.az.ai.ls=s5 ae.abs a.az.ai.ls)) ((iB _ (iM _ (D3 aF)).2.2.1) w9 h9)) e6 (λ x9 h9=>⟨iB _ ((iM _ (D3 aF)).2.2.2.2.1 x9 h9).1,((iM _ (D3 aF)).2.2.2.2.1 x9 h9).2⟩) rfl (iB _ (iM _ (D3 aF)).2.2.2.2.2.1) e6 f9 f5 lN) ?_
 rintro _ DN ⟨lQ,lS,wH,rfl,rV,lT,lU,lV⟩
 have ow:=rU _ _ rV
 have AY:=aB lT
 have AZ:=zr 0 ow
 replace lU:dM.aa.ag.ls.length=g.aa.ag.ls.length/\dM.aa.au=g.aa.au/\dM.ay.ls.length+dM.aa.aj.ls.length<=8/\dM.aa.aF.ls.length<=g.aa.aF.ls.length+1:=lU
 replace lV:Mk dM:=lV
 refine Mz rfl (Kz (.agg #[.slice lQ fH.fo.ls.length lS, .bool fH.jl]) (Kz (vI ou) ?_))
 have wI:=ow.pf [4]
 refine dS [.slice lQ fH.fo.ls.length lS, .bool fH.jl] 0 wI T4 ?_
 intro DR wJ
 refine C6 (bN ?_)
 have wK:=wJ.pk [0,5,6,7,3,1,2]
 exact IQ (C,dM,lQ,lS,wH,fH.fo.ls,fH.jl) ⟨rfl,rfl,rfl,rfl,rfl,rfl,rfl,rfl,rfl,rfl,rfl,rfl,rfl,rfl,rfl,rfl,rfl,rfl,trivial⟩ (dX.2 ⟨wK,by exact lT,e6,e6,by first | omega | (dsimp only; omega) | assumption,f5,Eq.trans (if_pos dL) (Eq.trans (ah rQ) (ah lN))⟩)
 refine jF (dF dL) (sr (Kz (.bool (decide (a.iU=1))) (An rfl ?_)))
 by_cases fI:a.iU=1
 refine jT (dT fI) (Ib (Mz rfl ?_))
 have wL:=ib.pf [4]
 obtain⟨⟨ji,dO⟩,lX⟩:∃ q:kC × aA,jk g=q:=⟨_,rfl⟩
 obtain⟨DT,rW,A7,rX,A8⟩:=II wL
 refine cl Tryz.call14 (uR _ _ C g ji dO rW e8 f5 lX) ?_
 rintro _ DU ⟨oz,oC,wP,rfl,rY,lY,l7,l8⟩
 have oD:=rX _ _ rY
 have A9:=aB lY
 have Ba:=zr 0 oD
 replace l7:dO.aa.ag.ls.length=g.aa.ag.ls.length/\dO.aa.au=g.aa.au/\dO.ay.ls.length+dO.aa.aj.ls.length<=8/\dO.aa.aF.ls.length<=g.aa.aF.ls.length+0:=l7
 replace l8:Mk dO:=l8
 have wQ:=oD.pf [3]
 refine dS [.slice oz ji.fo.ls.length oC, .bool ji.jl] 0 wQ T4 ?_
 intro DV wR
 refine C6 (bN ?_)
 have wS:=wR.pb [3,1,2]
 exact IQ (C,dO,oz,oC,wP,ji.fo.ls,ji.jl) ⟨rfl,rfl,rfl,rfl,rfl,rfl,rfl,rfl,rfl,rfl,rfl,rfl,rfl,rfl,rfl,rfl,rfl,rfl,trivial⟩ (dX.2 ⟨wS,by exact lY,e6,e6,by first | omega | (dsimp only; omega) | assumption,f5,Eq.trans (if_neg dL) (Eq.trans (if_pos fI) (ah lX))⟩)
 refine jF (dF fI) (sr (Kz (.bool (decide (a.iU=4))) (An rfl ?_)))
 by_cases ic:a.iU=4
 refine jT (dT ic) (sr (Mz rfl ?_))
 have wT:=ib.pf [4]
 obtain⟨r,fJ⟩:∃ q,eQ g=q:=⟨_,rfl⟩
 obtain⟨DW,rZ,Bb,r9,Bc⟩:=II wT
 refine cl W1 (kE _ _ C g r rZ e8 f5 fJ) ?_
 rintro _ DX ⟨fK,cB,fO,cK,fQ,cO,ig,ik,rfl,si,jZ,j3⟩
 have kN:=r9 _ _ si
 have Bd:=aB jZ
 have Be:=aB j3
 have Bf:=zr 0 kN
 have Bg:=zr 1 kN
 have Bh:=zr 3 kN
 obtain⟨Bi,Bj,Bl⟩:=uT f5 f5 fJ
 refine WL.do rfl (Iz Tryz.call8 rfl ?_ (λ _ _ k=>k))
 refine cb Tryz.func8 ?_
 refine sr ?_
 refine dV [vI r.au,vU r.av,vU r.aV,vU r.aL, .slice fK r.ag.ls.length cB, .slice fO r.aj.ls.length cK, .slice fQ r.aF.ls.length cO] 33 kN ?_
 intro wU DY jl
 refine Az rfl (An rfl (Ic (sr (La ([vI r.au,vU r.av,vU r.aV,vU r.aL, .slice fK r.ag.ls.length cB, .slice fO r.aj.ls.length cK, .slice fQ r.aF.ls.length cO]) jl 0 U1 H4 ?_))))
 obtain⟨kP,iC⟩:∃ q,gJ r=q:=⟨_,rfl⟩
 obtain⟨DZ,sj,Bn,su,dI⟩:=Ii jl
 refine cl Tryz.call19 (mV _ _ r fK r.ag.ls.length cB fO r.aj.ls.length cK ig fQ r.aF.ls.length cO ik kP sj rfl (dI _ 1 _ rfl aO) e6 jZ rfl (dI _ 2 _ rfl aO) e6 (λ x9 h9=>⟨dI _ 3 _ rfl (ax (Q3.2 ⟨x9,h9,b1⟩) aO),aZ (φ:=λ _=>_) jl (i:=3) rfl (ax (Q3.2 ⟨x9,h9,b1⟩) aW)⟩) j3 rfl (dI _ 4 _ rfl aO) e6 (λ x9 h9=>⟨dI _ 5 _ rfl (ax (Q3.2 ⟨x9,h9,b1⟩) aO),aZ (φ:=λ _=>_) jl (i:=5) rfl (ax (Q3.2 ⟨x9,h9,b1⟩) aW),(λ y1 k1=>⟨dI _ 5 _ rfl (ax (Q3.2 ⟨x9,h9, .tail _ b1⟩) (ax (Q3.2 ⟨y1,k1,b1⟩) aO)),aZ (φ:=λ _=>_) jl (i:=5) rfl (ax (Q3.2 ⟨x9,h9, .tail _ b1⟩) (ax (Q3.2 ⟨y1,k1,b1⟩) aW))⟩)⟩) e8 iC) ?_
 rintro _ D5 ⟨rfl,sw⟩
 have dP:=su _ _ sw
 refine fw (.bool (decide (¬ (kP=0)))) (IG (e:= !(decide (kP=0))) yk decide_not.symm) (Mz rfl ?_)
 by_cases bI:kP=0
 refine gw (vP wU 1) (dF (Lh bI)) yk (gw (vU r.av) (dF (Lh bI)) (Io rfl (bZ.one D4 (jR.of (dP.cls (i:=0) rfl) rfl))) (gw (.bool (decide ((r.av:Int)=2147483647))) (dF (Lh bI)) yk (fw (.bool (decide ((r.av:Int)=2147483647))) (Ih rfl (dF (Lh bI)) rfl) (nt ?_))))
 by_cases kQ:(r.av:Int)=2147483647
 refine jT (dT kQ) (sr (Az rfl (An rfl (rt (tR (Fin.res (lW rfl rfl rfl) (Mz rfl (Kz (.pointer none) (Kz (vI 1) (Az rfl (An rfl (Ic (Ic ?_)))))))))))))
 have wW:=dP.px [] [0] []
 refine Ib (Mz rfl (Kz (.bool true) (Mz rfl (Sz rfl (Sz rfl (fw (.bool true) (Iw rfl rfl rfl) (nt (jt (sr (An rfl (rt (tR (bR (tR (bR (tR (tR (bR (tR (rs ?_))))))))))))))))))))
 have wX:=wW.pk []
 obtain rfl:_=false:=zj hr (et (ah aV) (et (ah aX) (et (ip aP) (et (ah bv) (et (ah aD) (et (iN bA) (jm (et (aQ) (et (congrArg (λ q=>fP S q g T U) bC) (et (ip dK) (oF (et (iN dL) (et (iN fI) (et (ip ic) (et (ah fJ) (et (ah iC) (et (ip bI) (ip kQ))))))))))))))))))
 exact⟨rfl,wX⟩
 refine jF (dF kQ) (sk (sr (La ([vI r.au,vU r.av,vU r.aV,vU r.aL, .slice fK r.ag.ls.length cB, .slice fO r.aj.ls.length cK, .slice fQ r.aF.ls.length cO]) dP 0 U1 H4 ?_)))
 obtain⟨G,l9⟩:∃ q,gW r=q:=⟨_,rfl⟩
 obtain⟨D6,sD,Bo,sF,dJ⟩:=Ii dP
 refine cl Tryz.call20 (nN _ _ r fK r.ag.ls.length cB fO r.aj.ls.length cK ig fQ r.aF.ls.length cO ik G sD rfl (dJ _ 1 _ rfl aO) e6 jZ rfl (dJ _ 2 _ rfl aO) e6 (λ x9 h9=>⟨dJ _ 3 _ rfl (ax (Q3.2 ⟨x9,h9,b1⟩) aO),aZ (φ:=λ _=>_) dP (i:=3) rfl (ax (Q3.2 ⟨x9,h9,b1⟩) aW)⟩) j3 rfl (dJ _ 4 _ rfl aO) e6 (λ x9 h9=>⟨dJ _ 5 _ rfl (ax (Q3.2 ⟨x9,h9,b1⟩) aO),aZ (φ:=λ _=>_) dP (i:=5) rfl (ax (Q3.2 ⟨x9,h9,b1⟩) aW),(λ y1 k1=>⟨dJ _ 5 _ rfl (ax (Q3.2 ⟨x9,h9, .tail _ b1⟩) (ax (Q3.2 ⟨y1,k1,b1⟩) aO)),aZ (φ:=λ _=>_) dP (i:=5) rfl (ax (Q3.2 ⟨x9,h9, .tail _ b1⟩) (ax (Q3.2 ⟨y1,k1,b1⟩) aW))⟩)⟩) e8 (by first | assumption | exact wM f5 | exact λ _ h9=>absurd h9 y6) (by first | assumption | exact wN f5 | exact λ _ h9=>absurd h9 y6) l9) ?_
 rintro _ D7 ⟨oG,oH,oI,oJ,oK,oL,D8,D9,rfl,sG,ma,mf⟩
 have kR:=sF _ _ sG
 have Bp:=aB ma
 have Bq:=aB mf
 have Br:=zr 0 kR
 have Bt:=zr 1 kR
 have Bu:=zr 3 kR
 refine Kz (.agg #[vI G.au,vU G.av,vU G.aV,vU G.aL, .slice oG G.ag.ls.length oH, .slice oI G.aj.ls.length oJ, .slice oK G.aF.ls.length oL, .int .u64 0, .slice none 0 0, .bool false, .int .u64 0,vI 0, .slice none 0 0, .bool false, .int .u64 0,vI 0, .slice none 0 0, .bool false, .int .u64 0,vI 0, .slice none 0 0, .bool false, .int .u64 0,vI 0, .slice none 0 0, .bool false, .int .u64 0,vI 0, .slice none 0 0, .int .u64 0, .int .u64 0, .int .u64 0, .int .u64 0, .int .u64 0, .pointer none]) ?_
 refine dV [vI G.au,vU G.av,vU G.aV,vU G.aL, .slice oG G.ag.ls.length oH, .slice oI G.aj.ls.length oJ, .slice oK G.aF.ls.length oL, .int .u64 0, .slice none 0 0, .bool false, .int .u64 0,vI 0, .slice none 0 0, .bool false, .int .u64 0,vI 0, .slice none 0 0, .bool false, .int .u64 0,vI 0, .slice none 0 0, .bool false, .int .u64 0,vI 0, .slice none 0 0, .bool false, .int .u64 0,vI 0, .slice none 0 0, .int .u64 0, .int .u64 0, .int .u64 0, .int .u64 0, .int .u64 0, .pointer none] 86 kR ?_
 intro Z Ea wY
 refine An rfl (Ic ?_)
 have wZ:=wY.px [] [6] []
 have xc:=wZ.pf [11]
 obtain⟨oM,oO,oP,oQ,oU,oV,oW,oZ,o5,o6,o7,o8,o9,pg,pq,pu,pz,pE,pF,pG,pI,pJ,pK,pM,pO,pQ,sH,sI,sJ,sK,sM,sN,sO,sQ,Bv,pR⟩:=iZ xc
 refine Ib (Mz rfl (Kz (vP Z 0) (Kz (vP Z 0) (Kz (vP Z 1) (Lz (vU G.av) pR 18 D4 (fw (.int .u64 ((D0 (D1.wrap ((G.av:Int)+1)):Nat):Int)) (Ie (e:=D1.wrap ((G.av:Int)+1)) yk (fD _)) (Kz (vP Z 0) (Kz (vP Z 0) (Kz (vP Z 1) ?_)))))))))
 have xe:=pR.pf [18]
 refine dS [.int .u64 ((D0 (D1.wrap ((G.av:Int)+1)):Nat):Int)] 1 xe N7 ?_
 intro Eb pU
 refine ns (Mz rfl (Mz rfl (Kz (vP Z 0) (Kz (vP Z 0) (Kz (vP Z 1) (Lz (.int .u64 ((D0 (D1.wrap ((G.av:Int)+1)):Nat):Int)) pU 0 D4 ?_))))))
 have Bw:eU (D0 (D1.wrap ((G.av:Int)+1))) 32<=18446744073709551615:=nZ _ _
 refine fw (.int .u64 ((eU (D0 (D1.wrap ((G.av:Int)+1))) 32:Nat):Int)) (Ie (Jv (m:=32) rfl rfl) (fD _)) (Kz (vP Z 0) (Kz (vP Z 0) (Kz (vP Z 2) ?_)))
 refine dS [.int .u64 ((eU (D0 (D1.wrap ((G.av:Int)+1))) 32:Nat):Int)] 2 pU N7 ?_
 intro ag xg
 refine ns (Mz rfl (Az rfl (An rfl (rt (Fin.res (lW rfl rfl rfl) ?_)))))
 have xh:Own w D ag (sepL (q3 bB.own [])::_):=xg.sepNil
 have xk:Own w D ag (row none 0 0 (q3 bB.cells []) 107 9::_):=xh.free (eZ 107 9)
 have xm:Own w D ag (sepL (q3 ae.own [])::_):=xk.sepNil
 have xn:Own w D ag (row none 0 0 (q3 ae.cells []) 149 3::_):=xm.free (eZ 149 3)
 have xq:Own w D ag (sepL (q3 ae.own [])::_):=xn.sepNil
 have xu:Own w D ag (row none 0 0 (q3 ae.cells []) 149 3::_):=xq.free (eZ 149 3)
 have xw:Own w D ag (sepL (q3 ae.own [])::_):=xu.sepNil
 have xx:Own w D ag (row none 0 0 (q3 ae.cells []) 149 3::_):=xw.free (eZ 149 3)
 have xy:Own w D ag (sepL (q3 ae.own [])::_):=xx.sepNil
 have xz:Own w D ag (row none 0 0 (q3 ae.cells []) 149 3::_):=xy.free (eZ 149 3)
 have xA:Own w D ag (sepL (q3 ae.own [])::_):=xz.sepNil
 have xB:Own w D ag (row none 0 0 (q3 ae.cells []) 149 3::_):=xA.free (eZ 149 3)
 have xC:=xB.pf [12,31,32,33,34,35,10,11]
 have xD:Own w D ag (iG Z (aA.mk (cZ.mk G.au (D0 (D1.wrap ((G.av:Int)+1))) (eU (D0 (D1.wrap ((G.av:Int)+1))) 32) G.aL (E2 G.ag.ls) (E2 G.aj.ls) (E2 G.aF.ls)) 0 (E2 []) (df.mk false 0 0 (E2 [])) (df.mk false 0 0 (E2 [])) (df.mk false 0 0 (E2 [])) (df.mk false 0 0 (E2 [])) (df.mk false 0 0 (E2 [])) 0 0 0 0 0)::_):=fe ma mf rfl rfl rfl rfl rfl rfl xC
 obtain⟨ai,mg⟩:∃ q,(aA.mk (cZ.mk G.au (D0 (D1.wrap ((G.av:Int)+1))) (eU (D0 (D1.wrap ((G.av:Int)+1))) 32) G.aL (E2 G.ag.ls) (E2 G.aj.ls) (E2 G.aF.ls)) 0 (E2 []) (df.mk false 0 0 (E2 [])) (df.mk false 0 0 (E2 [])) (df.mk false 0 0 (E2 [])) (df.mk false 0 0 (E2 [])) (df.mk false 0 0 (E2 [])) 0 0 0 0 0)=q:=⟨_,rfl⟩
 have xE:Own w D ag [iG Z ai,mK C g oM g.aa.ag.ls.length oO oP oQ oV oW o5 o6 o8 o9 pq pu pE pF pI pJ pM pO,row oM g.aa.ag.ls.length oO (q3 aY.cells g.aa.ag.ls) 89 2,row oP g.aa.aj.ls.length oQ (q3 aC.cells oU) 60 5,sepL (q3 aC.own oU),row oV g.aa.aF.ls.length oW (q3 aU.cells oZ) 56 4,sepL (q3 aU.own oZ),row o5 g.ay.ls.length o6 (q3 bB.cells o7) 107 9,sepL (q3 bB.own o7),row o8 g.bK.af.ls.length o9 (q3 ae.cells pg) 149 3,sepL (q3 ae.own pg),row pq g.bA.af.ls.length pu (q3 ae.cells pz) 149 3,sepL (q3 ae.own pz),row pE g.bz.af.ls.length pF (q3 ae.cells pG) 149 3,sepL (q3 ae.own pG),row pI g.bv.af.ls.length pJ (q3 ae.cells pK) 149 3,sepL (q3 ae.own pK),row pM g.bq.af.ls.length pO (q3 ae.cells pQ) 149 3,sepL (q3 ae.own pQ),row fK r.ag.ls.length cB (q3 aY.cells r.ag.ls) 89 2,row fO r.aj.ls.length cK (q3 aC.cells ig) 60 5,sepL (q3 aC.own ig),row fQ r.aF.ls.length cO (q3 aU.cells ik) 56 4,sepL (q3 aU.own ik),blk F [.slice none 0 0, .bool false] 47,blk E (fM.cells a) 44,l5 P kU Value.bool T,l5 Q kU eX.val U]:=by rw [<- mg]; exact xD
 have Bz:Mk ai:=En f5 f5 f5 f5
 have BA:ai.aa.ag.ls.length<=1000/\ai.aa.au<=4/\ai.ay.ls.length+ai.aa.aj.ls.length<=8/\ai.aa.aF.ls.length<=g.aa.aF.ls.length+1:=CR f5 f5 f5 f5
 refine Mz rfl (Kz (vP Z 0) (Kz (vI 0) (Az rfl (An rfl (Ic (sr (Mz rfl (Kz (.bool false) (Mz rfl (gw (vI 0) rfl (Iq rfl) (Gz (.bool false) rfl (fw (.bool false) (Ih rfl rfl rfl) (nt (jf (sk (Ib (Mz rfl (Az rfl (C6 (bN ?_))))))))))))))))))))
 have xG:=xE.pb [0,19,20,21,22,23,24,25,26,27]
 have xH:=fe sH sI sJ sK sM sN sO sQ xG
 have xI:Own w D ag [sepL (q3 bf.own []),iG C g,iG Z ai,row fK r.ag.ls.length cB (q3 aY.cells r.ag.ls) 89 2,row fO r.aj.ls.length cK (q3 aC.cells ig) 60 5,sepL (q3 aC.own ig),row fQ r.aF.ls.length cO (q3 aU.cells ik) 56 4,sepL (q3 aU.own ik),blk F [.slice none 0 0, .bool false] 47,blk E (fM.cells a) 44,l5 P kU Value.bool T,l5 Q kU eX.val U]:=xH.sepNil
 have xJ:Own w D ag (row none 0 0 (q3 bf.cells []) 42 21::_):=xI.free (eZ 42 21)
 have xK:=xJ.pk [9,10,11,12,3,0,1]
 exact IQ (Z,ai,none,0, [], [],false) ⟨rfl,rfl,rfl,rfl,rfl,rfl,rfl,rfl,rfl,rfl,rfl,rfl,rfl,rfl,rfl,rfl,rfl,rfl,trivial⟩ (dX.2 ⟨xK,(show s5 bf.abs []=[]/\0<=r8 []/\0<=9223372036854775807/\(ai.aa.ag.ls.length<=1000/\ai.aa.au<=4/\ai.ay.ls.length+ai.aa.aj.ls.length<=8/\ai.aa.aF.ls.length<=g.aa.aF.ls.length+1)/\Mk ai/\(if a.iU=0 then bnd (bnd (eQ g) λ X=>(ja a.dE a.az.aD 1 X.av a.az.av,lZ a.dE a.az.aN X.av,ja a.dE a.az.aD 9 X.aV a.az.aV)) λ sJrbbtbbfLstJjtJ=>bnd (eT g (bL.mk a.az.aD a.az.aJ a.az.fI a.az.aK a.az.dz a.az.eH a.az.aP sJrbbtbbfLstJjtJ.1 sJrbbtbbfLstJjtJ.2.1 a.az.dY sJrbbtbbfLstJjtJ.2.2 a.az.aL (nR a.dE a.az.dL 0) a.az.cu a.az.xN a.az.cz a.az.bU (E2 a.az.aH.ls) (E2 (s5 ae.abs a.az.ai.ls)) (E2 a.az.ag.ls))) λ bF=>B9 (bF.2.2,bF.1.fo.ls) else if a.iU=1 then bnd (jk g) λ bG=>B9 (bG.2,bG.1.fo.ls) else if a.iU=4 then bnd (eQ g) λ au=>bnd (gJ au) λ dY=>if dY=0 then if(au.av:Int)=2147483647 then C1 (false) else bnd (gW au) λ J=>bnd ((aA.mk (cZ.mk J.au (D0 (D1.wrap ((J.av:Int)+1))) (eU (D0 (D1.wrap ((J.av:Int)+1))) 32) J.aL (E2 J.ag.ls) (E2 J.aj.ls) (E2 J.aF.ls)) 0 (E2 []) (df.mk false 0 0 (E2 [])) (df.mk false 0 0 (E2 [])) (df.mk false 0 0 (E2 [])) (df.mk false 0 0 (E2 [])) (df.mk false 0 0 (E2 [])) 0 0 0 0 0)) λ dZ=>B9 (dZ, []) else C1 (false) else B9 (g, []))=B9 (ai,[]) from ⟨by exact rfl,e6,e6,by first | omega | (dsimp only; omega) | assumption,f5,Eq.trans (if_neg dL) (Eq.trans (if_neg fI) (Eq.trans (if_pos ic) (Eq.trans (ah fJ) (Eq.trans (ah iC) (Eq.trans (if_pos bI) (Eq.trans (if_neg kQ) (Eq.trans (ah l9) (ah mg))))))))⟩)⟩)
 refine Sz (dT bI) (Sz (dT bI) (Sz (dT bI) (fw (.bool true) (Iw rfl (dT bI) rfl) (nt (jt (sr (Az rfl (An rfl (rt (tR (Fin.res (lW rfl rfl rfl) (Mz rfl (Kz (.pointer none) (Kz (vI 1) (Az rfl (An rfl (Ic (Ic ?_))))))))))))))))))
 have xL:=dP.px [] [0] []
 refine Ib (Mz rfl (Kz (.bool true) (Mz rfl (Sz rfl (Sz rfl (fw (.bool true) (Iw rfl rfl rfl) (nt (jt (sr (An rfl (rt (tR (bR (tR (bR (tR (tR (bR (tR (rs ?_))))))))))))))))))))
 have xM:=xL.pk []
 obtain rfl:_=false:=zj hr (et (ah aV) (et (ah aX) (et (ip aP) (et (ah bv) (et (ah aD) (et (iN bA) (jm (et (aQ) (et (congrArg (λ q=>fP S q g T U) bC) (et (ip dK) (oF (et (iN dL) (et (iN fI) (et (ip ic) (et (ah fJ) (et (ah iC) (iN bI)))))))))))))))))
 exact⟨rfl,xM⟩
 refine jF (dF ic) (IE (bN ?_))
 have xO:Own w D mR (sepL (q3 bf.own [])::_):=ib.sepNil
 have xP:Own w D mR (row none 0 0 (q3 bf.cells []) 42 21::_):=xO.free (eZ 42 21)
 have xQ:=xP.pb [0,1]
 exact IQ (C,g,none,0, [], [],false) ⟨rfl,rfl,rfl,rfl,rfl,rfl,rfl,rfl,rfl,rfl,rfl,rfl,rfl,rfl,rfl,rfl,rfl,rfl,trivial⟩ (dX.2 ⟨xQ,(show s5 bf.abs []=[]/\0<=r8 []/\0<=9223372036854775807/\(g.aa.ag.ls.length<=1000/\g.aa.au<=4/\g.ay.ls.length+g.aa.aj.ls.length<=8/\g.aa.aF.ls.length<=g.aa.aF.ls.length+1)/\Mk g/\(if a.iU=0 then bnd (bnd (eQ g) λ X=>(ja a.dE a.az.aD 1 X.av a.az.av,lZ a.dE a.az.aN X.av,ja a.dE a.az.aD 9 X.aV a.az.aV)) λ sJrbbtbbfLstJjtJ=>bnd (eT g (bL.mk a.az.aD a.az.aJ a.az.fI a.az.aK a.az.dz a.az.eH a.az.aP sJrbbtbbfLstJjtJ.1 sJrbbtbbfLstJjtJ.2.1 a.az.dY sJrbbtbbfLstJjtJ.2.2 a.az.aL (nR a.dE a.az.dL 0) a.az.cu a.az.xN a.az.cz a.az.bU (E2 a.az.aH.ls) (E2 (s5 ae.abs a.az.ai.ls)) (E2 a.az.ag.ls))) λ bF=>B9 (bF.2.2,bF.1.fo.ls) else if a.iU=1 then bnd (jk g) λ bG=>B9 (bG.2,bG.1.fo.ls) else if a.iU=4 then bnd (eQ g) λ au=>bnd (gJ au) λ dY=>if dY=0 then if(au.av:Int)=2147483647 then C1 (false) else bnd (gW au) λ J=>bnd ((aA.mk (cZ.mk J.au (D0 (D1.wrap ((J.av:Int)+1))) (eU (D0 (D1.wrap ((J.av:Int)+1))) 32) J.aL (E2 J.ag.ls) (E2 J.aj.ls) (E2 J.aF.ls)) 0 (E2 []) (df.mk false 0 0 (E2 [])) (df.mk false 0 0 (E2 [])) (df.mk false 0 0 (E2 [])) (df.mk false 0 0 (E2 [])) (df.mk false 0 0 (E2 [])) 0 0 0 0 0)) λ dZ=>B9 (dZ, []) else C1 (false) else B9 (g, []))=B9 (g,[]) from ⟨by exact rfl,e6,e6,by first | omega | (dsimp only; omega) | assumption,f5,Eq.trans (if_neg dL) (Eq.trans (if_neg fI) (if_neg ic))⟩)⟩)
 rintro ⟨B,h,j,u,L,b,aH⟩ Ec sS
 obtain⟨pV,j4,BC,BD,BF,BG,fT⟩:=dX.1 sS
 have BH:=aB j4
 refine Ic (sr (Kz (vP F 0) (Lz (.slice j b.length u) pV 0 Tryz.isAgg45 (Kz (vJ b.length) (Mn rfl (bo ?_))))))
 have xR:=pV.pf []
 obtain⟨xS,bJ⟩:=rz λ (s:Nat) M I w'=>Own w D w' [blk F [.slice j b.length u, .bool aH] 47,blk E (fM.cells a) 44,l5 P kU Value.bool M,l5 Q kU eX.val I,iG B h,row j b.length u (q3 bf.cells L) 42 21,sepL (q3 bf.own L)]/\s<=b.length/\eY h b b T U=eY h b (r3 s b) M I
 refine C3 (λ i:Nat × (List (Nat × Bool)) × (List (Nat × eX))=> [(2, .bool false),(95,vJ i.1),(94,vJ b.length),(93, .slice j b.length u),(92,vP F 0),(4,vP B 0),(56, .bool (decide (a.iU=0))),(57, .bool (decide (a.iU=0))),(55,vI a.iU),(54,vP E 0),(10,vP F 0),(53, .agg #[.slice none 0 0, .bool false]),(9,vP E 0),(52, .agg (fM.cells a).toArray),(51, .pointer (some ⟨ab A0,ao A0+p *25,none⟩)),(50, .bool (decide ((p:Int) < (l0.length:Int)))),(49,vJ p),(48,vJ l0.length),(47, .slice A0 l0.length c0),(7, .map (some P)),(6, .map (some Q)),(3, .bool S)]) xS (λ i=>b.length - i.1) (0,T,U) ⟨rfl,rfl,rfl,rfl,rfl,rfl,rfl,rfl,rfl,rfl,rfl,rfl,rfl,rfl,rfl,rfl,rfl,rfl,rfl,rfl,rfl,rfl,trivial⟩ (bJ.2 ⟨xR,e6,rfl⟩) ?_
 rintro ⟨s,M,I⟩ Ed sU
 obtain⟨dQ,BI,aG⟩:=bJ.1 sU
 refine sr (Kz (.bool (decide ((s:Int) < (b.length:Int)))) (nt (Ic ?_)))
 by_cases pW:(s:Int) < (b.length:Int)
 obtain⟨f,fU⟩:=dN (ls:=L) (i:=s) bf.len f4 (dQ.rds (i:=5) rfl) e9
 have sV:=fF j4 fU
 have BJ:f.aH.ls.length<=f.aH.c/\f.aH.ls.length<=9223372036854775807:=aZ dQ (i:=6) rfl (φ:=λ _=>_) (ax (Q3.2 ⟨f,D3 fU,b1⟩) aW)
 have BK:f.ai.ls.length<=f.ai.c/\f.ai.ls.length<=9223372036854775807:=aZ dQ (i:=6) rfl (φ:=λ _=>_) (ax (Q3.2 ⟨f,D3 fU, .tail _ b1⟩) aW)
 have BL:f.ag.ls.length<=f.ag.c/\f.ag.ls.length<=9223372036854775807:=aZ dQ (i:=6) rfl (φ:=λ _=>_) (ax (Q3.2 ⟨f,D3 fU, .tail _ b2⟩) aW)
 have aR:=drop_at sV
 refine jT (dT pW) (sk (Ic (bo (sr (fw (.pointer (some ⟨ab j,ao j+s *21,none⟩)) (Ij (uu) rfl rfl ((dQ.rds (i:=5) rfl).addr (i:=s) e6) e6) (fw (.agg (bf.cells f).toArray) (Io rfl (Iy (cs:=(bf.cells f)) N5 N6 ((dQ.rds (i:=5) rfl).elem bf.len fU f4))) ?_))))))
 refine dV (gU 0 0 0 0 0 0 0 0 0 0 0 0 0 0 0 false [] [] none 0 0 none 0 0 none 0 0) 42 dQ ?_
 intro aa Ee xV
 refine dS (bf.cells f) 0 xV N6 ?_
 intro Ef kS
 refine nt (Ic (sr (Kz (vP aa 0) (Lz (vI f.aD) kS 0 C4 (Kz (.bool (decide (f.aD=3))) (nt ?_))))))
 obtain⟨xW,j6⟩:=nQ λ V w'=>Own w D w' [blk aa (bf.cells f) 42,blk F [.slice j b.length u, .bool aH] 47,blk E (fM.cells a) 44,l5 P kU Value.bool V,l5 Q kU eX.val I,iG B h,row j b.length u (q3 bf.cells L) 42 21,sepL (q3 bf.own L)]/\(if f.aD=3 then(kL M f.aN true) else M)=V
 refine IZ (λ i:(List (Nat × Bool))=> [(101, .bool (decide (f.aD=3))),(100,vI f.aD),(99,vP aa 0),(15,vP aa 0),(98, .agg (bf.cells f).toArray),(97, .pointer (some ⟨ab j,ao j+s *21,none⟩)),(96, .bool (decide ((s:Int) < (b.length:Int)))),(2, .bool false),(95,vJ s),(94,vJ b.length),(93, .slice j b.length u),(92,vP F 0),(4,vP B 0),(56, .bool (decide (a.iU=0))),(57, .bool (decide (a.iU=0))),(55,vI a.iU),(54,vP E 0),(10,vP F 0),(53, .agg #[.slice none 0 0, .bool false]),(9,vP E 0),(52, .agg (fM.cells a).toArray),(51, .pointer (some ⟨ab A0,ao A0+p *25,none⟩)),(50, .bool (decide ((p:Int) < (l0.length:Int)))),(49,vJ p),(48,vJ l0.length),(47, .slice A0 l0.length c0),(7, .map (some P)),(6, .map (some Q)),(3, .bool S)]) xW ?_ ?_
 by_cases kT:f.aD=3
 refine jT (dT kT) (Ib (Mz rfl (Kz (vP aa 8) (Lz (vU f.aN) kS 0 D4 ?_))))
 have xX:=kS.pf [3]
 refine Jb (Jf (k:=f.aN) (v:=true) xX (uf B8) W3 rfl rfl rfl ?_)
 intro Eg xY
 refine C6 ?_
 have xZ:=xY.pf [1,2,3]
 exact IQ (kL M f.aN true) ⟨rfl,rfl,rfl,rfl,rfl,rfl,rfl,rfl,rfl,rfl,rfl,rfl,rfl,rfl,rfl,rfl,rfl,rfl,rfl,rfl,rfl,rfl,rfl,rfl,rfl,rfl,rfl,rfl,rfl,trivial⟩ (j6.2 ⟨xZ,ip kT⟩)
 refine jF (dF kT) (IE ?_)
 have x8:=kS.pf []
 exact IQ M ⟨rfl,rfl,rfl,rfl,rfl,rfl,rfl,rfl,rfl,rfl,rfl,rfl,rfl,rfl,rfl,rfl,rfl,rfl,rfl,rfl,rfl,rfl,rfl,rfl,rfl,rfl,rfl,rfl,rfl,trivial⟩ (j6.2 ⟨x8,iN kT⟩)
 rintro V Eh sW
 obtain⟨dR,aS⟩:=j6.1 sW
 refine Ic (sr (Kz (vP aa 0) (Lz (vI f.aD) dR 0 C4 (fw (.bool (decide (¬ (f.aD=5)))) (IG (e:= !(decide (f.aD=5))) yk decide_not.symm) (Mz rfl ?_)))))
 by_cases W:f.aD=5
 refine gw (.map (some P)) (dF (Lh W)) (Iq rfl) (gw (vP aa 8) (dF (Lh W)) yk (gw (vU f.aN) (dF (Lh W)) (Io rfl (bZ.one D4 (jR.of (dR.cls (i:=0) rfl) rfl))) ?_))
 obtain⟨kV,aT⟩:∃ q,nU V f.aN=q:=⟨_,rfl⟩
 refine gw (.bool (Option.getD kV false)) (dF (Lh W)) (JS (k:=f.aN) (d0:=false) (i:=3) dR rfl (uf B8) W3 (λ _=>by kernel_rfl) rfl rfl aT) (gw (.bool (!(Option.getD kV false))) (dF (Lh W)) yk (fw (.bool (!(Option.getD kV false))) (Ih rfl (dF (Lh W)) rfl) (nt ?_)))
 rcases Li (Option.getD kV false) with bK | bK
 refine jF (cn bK) (sk (sr (Mz rfl (Kz (vP aa 8) (Lz (vU f.aN) dR 0 D4 ?_)))))
 obtain⟨bP,bM⟩:∃ q,nU I f.aN=q:=⟨_,rfl⟩
 refine fw (.agg #[.bool ((Option.getD bP eX.zero).bD), .bool ((Option.getD bP eX.zero).oN)]) (JS (k:=f.aN) (d0:=eX.zero) (i:=4) dR rfl (uf B8) W4 (λ _=>by kernel_rfl) rfl rfl bM) ?_
 refine dV [.bool false, .bool false] 54 dR ?_
 intro af Ei yc
 refine dS [.bool ((Option.getD bP eX.zero).bD), .bool ((Option.getD bP eX.zero).oN)] 0 yc W5 ?_
 intro Ej kW
 refine ns (Kz (vP af 0) (Lz (.bool ((Option.getD bP eX.zero).bD)) kW 0 N3 (Mz rfl ?_)))
 rcases Li ((Option.getD bP eX.zero).bD) with av | av
 refine Sz av (Sz av (fw (.bool true) (Iw rfl av rfl) (Kz (vP af 0) ?_)))
 refine dS [.bool true] 0 kW W6 ?_
 intro El kX
 refine ns (Kz (vP af 1) (Lz (.bool ((Option.getD bP eX.zero).oN)) kX 0 N3 (Mz rfl ?_)))
 rcases Li ((Option.getD bP eX.zero).oN) with bg | bg
 refine Sz bg (Sz bg (Sz bg (fw (.bool true) (Iw rfl bg rfl) (Kz (vP af 1) ?_))))
 refine dS [.bool true] 1 kX W6 ?_
 intro Em mh
 refine nt (Ic (sr (Kz (vP af 0) (Lz (.bool true) mh 0 N3 (Mz rfl (Gz (vP af 1) rfl (Gl (.bool true) rfl mh 0 N3 (fw (.bool true) (Iw rfl rfl rfl) (nt (jt (sr (An rfl (rt (tR (bR (tR (tR (bR (tR (bR (tR (tR (bR (tR (rs ?_)))))))))))))))))))))))))
 have yf:=mh.pk []
 obtain rfl:_=false:=zj hr (et (ah aV) (et (ah aX) (et (ip aP) (et (ah bv) (et (ah aD) (et (iN bA) (jm (et (aQ) (et (congrArg (λ q=>fP S q g T U) bC) (et (ip dK) (et (nY fT) (oF (et (aG) (et (congrArg (λ q=>eY h b q M I) aR) (et (ah aS) (et (ip W) (et (ah aT) (et (ip bK) (et (ah bM) (et (ip av) (ip bg)))))))))))))))))))))
 exact⟨rfl,yf⟩
 refine Gz (vP aa 15) bg (Gl (.bool f.cz) bg kX 1 N3 (Gz (.bool (!f.cz)) bg (fw (.bool (!f.cz)) (Ih rfl bg rfl) (Kz (vP af 1) ?_))))
 refine dS [.bool (!f.cz)] 1 kX W6 ?_
 intro Eo il
 refine nt (Ic (sr (Kz (vP af 0) (Lz (.bool true) il 0 N3 (Mz rfl (Gz (vP af 1) rfl (Gl (.bool (!f.cz)) rfl il 0 N3 (fw (.bool (!f.cz)) (Iw rfl rfl rfl) (nt ?_)))))))))
 rcases Li (f.cz) with jo | jo
 refine jF (cn jo) (sk (Ib (Mz rfl (Kz (vP aa 8) (Lz (vU f.aN) il 1 D4 (La ([.bool true, .bool (!f.cz)]) il 0 W7 W5 ?_))))))
 have yg:=il.pf [5]
 refine Jb (Jf (k:=f.aN) (v:=(eX.mk true (!f.cz))) yg (uf B8) W4 rfl rfl rfl ?_)
 intro Ep yh
 refine C6 (bN (Ig (Ib (fw (vJ (s+1)) (Ie (e:=C5.wrap ((s:Int)+1)) yk f0) (Mz rfl (C6 ?_))))))
 have yj:=yh.px [3,4,5] [1,2] []
 exact Ir (s+1,V,(kL I f.aN (eX.mk true (!f.cz)))) ⟨rfl,rfl,rfl,rfl,rfl,rfl,rfl,rfl,rfl,rfl,rfl,rfl,rfl,rfl,rfl,rfl,rfl,rfl,rfl,rfl,rfl,rfl,trivial⟩ (bJ.2 ⟨yj,e6,et (aG) (et (congrArg (λ q=>eY h b q M I) aR) (et (ah aS) (et (ip W) (et (ah aT) (et (ip bK) (et (ah bM) (et (ip av) (et (gm bg) (ip jo)))))))))⟩) (by show b.length - (s+1) < b.length - s; omega)
 refine jT (cn jo) (sr (An rfl (rt (tR (bR (tR (tR (bR (tR (bR (tR (tR (bR (tR (rs ?_)))))))))))))))
 have yl:=il.pk []
 obtain rfl:_=false:=zj hr (et (ah aV) (et (ah aX) (et (ip aP) (et (ah bv) (et (ah aD) (et (iN bA) (jm (et (aQ) (et (congrArg (λ q=>fP S q g T U) bC) (et (ip dK) (et (nY fT) (oF (et (aG) (et (congrArg (λ q=>eY h b q M I) aR) (et (ah aS) (et (ip W) (et (ah aT) (et (ip bK) (et (ah bM) (et (ip av) (et (gm bg) (gm jo))))))))))))))))))))))
 exact⟨rfl,yl⟩
 refine Gz (vP aa 15) av (Gl (.bool f.cz) av kW 1 N3 (fw (.bool f.cz) (Ih rfl av rfl) (Kz (vP af 0) ?_)))
 refine dS [.bool f.cz] 0 kW W6 ?_
 intro Er kY
 refine ns (Kz (vP af 1) (Lz (.bool ((Option.getD bP eX.zero).oN)) kY 0 N3 (Mz rfl ?_)))
 rcases Li ((Option.getD bP eX.zero).oN) with aM | aM
 refine Sz aM (Sz aM (Sz aM (fw (.bool true) (Iw rfl aM rfl) (Kz (vP af 1) ?_))))
 refine dS [.bool true] 1 kY W6 ?_
 intro Es iq
 refine nt (Ic (sr (Kz (vP af 0) (Lz (.bool f.cz) iq 0 N3 (Mz rfl ?_)))))
 rcases Li (f.cz) with dh | dh
 refine Gz (vP af 1) dh (Gl (.bool true) dh iq 0 N3 (fw (.bool true) (Iw rfl dh rfl) (nt (jt (sr (An rfl (rt (tR (bR (tR (tR (bR (tR (bR (tR (tR (bR (tR (rs ?_)))))))))))))))))))
 have ym:=iq.pk []
 obtain rfl:_=false:=zj hr (et (ah aV) (et (ah aX) (et (ip aP) (et (ah bv) (et (ah aD) (et (iN bA) (jm (et (aQ) (et (congrArg (λ q=>fP S q g T U) bC) (et (ip dK) (et (nY fT) (oF (et (aG) (et (congrArg (λ q=>eY h b q M I) aR) (et (ah aS) (et (ip W) (et (ah aT) (et (ip bK) (et (ah bM) (et (gm av) (et (ip aM) (ip dh))))))))))))))))))))))
 exact⟨rfl,ym⟩
 refine Sz dh (Sz dh (fw (.bool false) (Ih rfl dh rfl) (nt (jf (sk (Ib (Mz rfl (Kz (vP aa 8) (Lz (vU f.aN) iq 1 D4 (La ([.bool f.cz, .bool true]) iq 0 W7 W5 ?_))))))))))
 have yn:=iq.pf [5]
 refine Jb (Jf (k:=f.aN) (v:=(eX.mk f.cz true)) yn (uf B8) W4 rfl rfl rfl ?_)
 intro Eu yo
 refine C6 (bN (Ig (Ib (fw (vJ (s+1)) (Ie (e:=C5.wrap ((s:Int)+1)) yk f0) (Mz rfl (C6 ?_))))))
 have yt:=yo.px [3,4,5] [1,2] []
 exact Ir (s+1,V,(kL I f.aN (eX.mk f.cz true))) ⟨rfl,rfl,rfl,rfl,rfl,rfl,rfl,rfl,rfl,rfl,rfl,rfl,rfl,rfl,rfl,rfl,rfl,rfl,rfl,rfl,rfl,rfl,trivial⟩ (bJ.2 ⟨yt,e6,et (aG) (et (congrArg (λ q=>eY h b q M I) aR) (et (ah aS) (et (ip W) (et (ah aT) (et (ip bK) (et (ah bM) (et (gm av) (et (ip aM) (gm dh)))))))))⟩) (by show b.length - (s+1) < b.length - s; omega)
 refine Gz (vP aa 15) aM (Gl (.bool f.cz) aM kY 1 N3 (Gz (.bool (!f.cz)) aM (fw (.bool (!f.cz)) (Ih rfl aM rfl) (Kz (vP af 1) ?_))))
 refine dS [.bool (!f.cz)] 1 kY W6 ?_
 intro Ev dU
 refine nt (Ic (sr (Kz (vP af 0) (Lz (.bool f.cz) dU 0 N3 (Mz rfl ?_)))))
 rcases Li (f.cz) with bS | bS
 refine Gz (vP af 1) bS (Gl (.bool (!f.cz)) bS dU 0 N3 (fw (.bool (!f.cz)) (Iw rfl bS rfl) (nt (jF (cn bS) (sk (Ib (Mz rfl (Kz (vP aa 8) (Lz (vU f.aN) dU 1 D4 (La ([.bool f.cz, .bool (!f.cz)]) dU 0 W7 W5 ?_))))))))))
 have yu:=dU.pf [5]
 refine Jb (Jf (k:=f.aN) (v:=(eX.mk f.cz (!f.cz))) yu (uf B8) W4 rfl rfl rfl ?_)
 intro Ew yw
 refine C6 (bN (Ig (Ib (fw (vJ (s+1)) (Ie (e:=C5.wrap ((s:Int)+1)) yk f0) (Mz rfl (C6 ?_))))))
 have yx:=yw.px [3,4,5] [1,2] []
 exact Ir (s+1,V,(kL I f.aN (eX.mk f.cz (!f.cz)))) ⟨rfl,rfl,rfl,rfl,rfl,rfl,rfl,rfl,rfl,rfl,rfl,rfl,rfl,rfl,rfl,rfl,rfl,rfl,rfl,rfl,rfl,rfl,trivial⟩ (bJ.2 ⟨yx,e6,et (aG) (et (congrArg (λ q=>eY h b q M I) aR) (et (ah aS) (et (ip W) (et (ah aT) (et (ip bK) (et (ah bM) (et (gm av) (et (gm aM) (ip bS)))))))))⟩) (by show b.length - (s+1) < b.length - s; omega)
 refine Sz bS (Sz bS (fw (.bool false) (Ih rfl bS rfl) (nt (jf (sk (Ib (Mz rfl (Kz (vP aa 8) (Lz (vU f.aN) dU 1 D4 (La ([.bool f.cz, .bool (!f.cz)]) dU 0 W7 W5 ?_))))))))))
 have yz:=dU.pf [5]
 refine Jb (Jf (k:=f.aN) (v:=(eX.mk f.cz (!f.cz))) yz (uf B8) W4 rfl rfl rfl ?_)
 intro Ex yA
 refine C6 (bN (Ig (Ib (fw (vJ (s+1)) (Ie (e:=C5.wrap ((s:Int)+1)) yk f0) (Mz rfl (C6 ?_))))))
 have yB:=yA.px [3,4,5] [1,2] []
 exact Ir (s+1,V,(kL I f.aN (eX.mk f.cz (!f.cz)))) ⟨rfl,rfl,rfl,rfl,rfl,rfl,rfl,rfl,rfl,rfl,rfl,rfl,rfl,rfl,rfl,rfl,rfl,rfl,rfl,rfl,rfl,rfl,trivial⟩ (bJ.2 ⟨yB,e6,et (aG) (et (congrArg (λ q=>eY h b q M I) aR) (et (ah aS) (et (ip W) (et (ah aT) (et (ip bK) (et (ah bM) (et (gm av) (et (gm aM) (gm bS)))))))))⟩) (by show b.length - (s+1) < b.length - s; omega)
 refine jT (cn bK) (C7 (Il (IB (Ig (Ib (fw (vJ (s+1)) (Ie (e:=C5.wrap ((s:Int)+1)) yk f0) (Mz rfl (C6 ?_))))))))
 have yC:=dR.px [] [0] []
 exact Ir (s+1,V,I) ⟨rfl,rfl,rfl,rfl,rfl,rfl,rfl,rfl,rfl,rfl,rfl,rfl,rfl,rfl,rfl,rfl,rfl,rfl,rfl,rfl,rfl,rfl,trivial⟩ (bJ.2 ⟨yC,e6,et (aG) (et (congrArg (λ q=>eY h b q M I) aR) (et (ah aS) (et (ip W) (et (ah aT) (gm bK)))))⟩) (by show b.length - (s+1) < b.length - s; omega)
 refine Sz (dT W) (Sz (dT W) (Sz (dT W) (Sz (dT W) (Sz (dT W) (fw (.bool true) (Iw rfl (dT W) rfl) (nt (jt (C7 (Il (IB (Ig (Ib (fw (vJ (s+1)) (Ie (e:=C5.wrap ((s:Int)+1)) yk f0) (Mz rfl (C6 ?_)))))))))))))))
 have yD:=dR.px [] [0] []
 exact Ir (s+1,V,I) ⟨rfl,rfl,rfl,rfl,rfl,rfl,rfl,rfl,rfl,rfl,rfl,rfl,rfl,rfl,rfl,rfl,rfl,rfl,rfl,rfl,rfl,rfl,trivial⟩ (bJ.2 ⟨yD,e6,et (aG) (et (congrArg (λ q=>eY h b q M I) aR) (et (ah aS) (iN W)))⟩) (by show b.length - (s+1) < b.length - s; omega)
 refine jF (dF pW) (C7 (Il ?_))
 have mi:eY h b b T U=B9 (M,I):=et (aG) (et (congrArg (λ q=>eY h b q M I) (fB (ls:=b) (i:=s) e6)) rfl)
 refine Il (IB (Ig (sr (Mz rfl ?_))))
 have yE:=dQ.pf [4]
 obtain⟨d,iE⟩:∃ q,eQ h=q:=⟨_,rfl⟩
 obtain⟨Ey,sZ,BM,tq,BN⟩:=II yE
 refine cl W1 (kE _ _ B h d sZ e8 f5 iE) ?_
 rintro _ Ez ⟨di,dm,dn,dw,ay,bn,kZ,jq,rfl,tu,tC,mo⟩
 have lc:=tq _ _ tu
 have BO:=aB tC
 have BP:=aB mo
 have BQ:=zr 0 lc
 have BR:=zr 1 lc
 have BS:=zr 3 lc
 obtain⟨BU,BV,BX⟩:=uT f5 f5 iE
 refine dV [vI 0, .int .u64 0, .int .u64 0, .int .u64 0, .slice none 0 0, .slice none 0 0, .slice none 0 0] 33 lc ?_
 intro dx EA yF
 refine dS [vI d.au,vU d.av,vU d.aV,vU d.aL, .slice di d.ag.ls.length dm, .slice dn d.aj.ls.length dw, .slice ay d.aF.ls.length bn] 0 yF H4 ?_
 intro EB pX
 refine ns (Kz (vP F 0) (Lz (.slice j b.length u) pX 7 Tryz.isAgg45 (Kz (vJ b.length) (Mn rfl (bo ?_)))))
 have yG:=pX.pf []
 obtain⟨yH,fV⟩:=nQ λ (K:Nat) w'=>Own w D w' [blk dx [vI d.au,vU d.av,vU d.aV,vU d.aL, .slice di d.ag.ls.length dm, .slice dn d.aj.ls.length dw, .slice ay d.aF.ls.length bn] 33,row di d.ag.ls.length dm (q3 aY.cells d.ag.ls) 89 2,row dn d.aj.ls.length dw (q3 aC.cells kZ) 60 5,sepL (q3 aC.own kZ),row ay d.aF.ls.length bn (q3 aU.cells jq) 56 4,sepL (q3 aU.own jq),iG B h,blk F [.slice j b.length u, .bool aH] 47,blk E (fM.cells a) 44,l5 P kU Value.bool M,l5 Q kU eX.val I,row j b.length u (q3 bf.cells L) 42 21,sepL (q3 bf.own L)]/\K<=b.length/\iD h M I d b=iD h M I d (r3 K b)
 refine C3 (λ i:Nat=> [(2, .bool false),(150,vJ i),(149,vJ b.length),(148, .slice j b.length u),(147,vP F 0),(17,vP dx 0),(146, .agg #[vI d.au,vU d.av,vU d.aV,vU d.aL, .slice di d.ag.ls.length dm, .slice dn d.aj.ls.length dw, .slice ay d.aF.ls.length bn]),(145,vP B 0),(96, .bool (decide ((s:Int) < (b.length:Int)))),(95,vJ s),(94,vJ b.length),(93, .slice j b.length u),(92,vP F 0),(4,vP B 0),(56, .bool (decide (a.iU=0))),(57, .bool (decide (a.iU=0))),(55,vI a.iU),(54,vP E 0),(10,vP F 0),(53, .agg #[.slice none 0 0, .bool false]),(9,vP E 0),(52, .agg (fM.cells a).toArray),(51, .pointer (some ⟨ab A0,ao A0+p *25,none⟩)),(50, .bool (decide ((p:Int) < (l0.length:Int)))),(49,vJ p),(48,vJ l0.length),(47, .slice A0 l0.length c0),(7, .map (some P)),(6, .map (some Q)),(3, .bool S)]) yH (λ i=>b.length - i) 0 ⟨rfl,rfl,rfl,rfl,rfl,rfl,rfl,rfl,rfl,rfl,rfl,rfl,rfl,rfl,rfl,rfl,rfl,rfl,rfl,rfl,rfl,rfl,rfl,rfl,rfl,rfl,rfl,rfl,rfl,rfl,trivial⟩ (fV.2 ⟨yG,e6,rfl⟩) ?_
 rintro K EC tF
 obtain⟨dW,BZ,fZ⟩:=fV.1 tF
 refine sr (Kz (.bool (decide ((K:Int) < (b.length:Int)))) (nt (Ic ?_)))
 by_cases pY:(K:Int) < (b.length:Int)
 obtain⟨z,gp⟩:=dN (ls:=L) (i:=K) bf.len f4 (dW.rds (i:=11) rfl) e9
 have tH:=fF j4 gp
 have Ca:z.aH.ls.length<=z.aH.c/\z.aH.ls.length<=9223372036854775807:=aZ dW (i:=12) rfl (φ:=λ _=>_) (ax (Q3.2 ⟨z,D3 gp,b1⟩) aW)
 have Cb:z.ai.ls.length<=z.ai.c/\z.ai.ls.length<=9223372036854775807:=aZ dW (i:=12) rfl (φ:=λ _=>_) (ax (Q3.2 ⟨z,D3 gp, .tail _ b1⟩) aW)
 have Cc:z.ag.ls.length<=z.ag.c/\z.ag.ls.length<=9223372036854775807:=aZ dW (i:=12) rfl (φ:=λ _=>_) (ax (Q3.2 ⟨z,D3 gp, .tail _ b2⟩) aW)
 have iF:=drop_at tH
 refine jT (dT pY) (sk (Ic (bo (sr (fw (.pointer (some ⟨ab j,ao j+K *21,none⟩)) (Ij (uu) rfl rfl ((dW.rds (i:=11) rfl).addr (i:=K) e6) e6) (fw (.agg (bf.cells z).toArray) (Io rfl (Iy (cs:=(bf.cells z)) N5 N6 ((dW.rds (i:=11) rfl).elem bf.len gp f4))) ?_))))))
 refine dV (gU 0 0 0 0 0 0 0 0 0 0 0 0 0 0 0 false [] [] none 0 0 none 0 0 none 0 0) 42 dW ?_
 intro gq ED yI
 refine dS (bf.cells z) 0 yI N6 ?_
 intro EE p8
 refine ns (An rfl (Ic (sr (Kz (vP dx 6) (Lz (.slice ay d.aF.ls.length bn) p8 1 Tryz.isAgg31 (Kz (vJ d.aF.ls.length) (Mn rfl (bo ?_))))))))
 have yJ:=p8.pf []
 obtain⟨yK,gu⟩:=Fz λ aN (N:Nat) w'=>Own w D w' [blk gq (bf.cells z) 42,blk dx [vI d.au,vU d.av,vU d.aV,vU d.aL, .slice di d.ag.ls.length dm, .slice dn d.aj.ls.length dw, .slice ay d.aF.ls.length bn] 33,row di d.ag.ls.length dm (q3 aY.cells d.ag.ls) 89 2,row dn d.aj.ls.length dw (q3 aC.cells kZ) 60 5,sepL (q3 aC.own kZ),row ay d.aF.ls.length bn (q3 aU.cells jq) 56 4,sepL (q3 aU.own jq),iG B h,blk F [.slice j b.length u, .bool aH] 47,blk E (fM.cells a) 44,l5 P kU Value.bool M,l5 Q kU eX.val I,row j b.length u (q3 bf.cells L) 42 21,sepL (q3 bf.own L)]/\N<=d.aF.ls.length/\gD (bf.abs z) d.aF.ls false=gD (bf.abs z) (r3 N d.aF.ls) aN
 refine C3 (λ i:Bool × Nat=> [(20, .bool i.1),(157,vJ i.2),(156,vJ d.aF.ls.length),(155, .slice ay d.aF.ls.length bn),(154,vP dx 6),(19,vP gq 0),(153, .agg (bf.cells z).toArray),(152, .pointer (some ⟨ab j,ao j+K *21,none⟩)),(151, .bool (decide ((K:Int) < (b.length:Int)))),(2, .bool false),(150,vJ K),(149,vJ b.length),(148, .slice j b.length u),(147,vP F 0),(17,vP dx 0),(146, .agg #[vI d.au,vU d.av,vU d.aV,vU d.aL, .slice di d.ag.ls.length dm, .slice dn d.aj.ls.length dw, .slice ay d.aF.ls.length bn]),(145,vP B 0),(96, .bool (decide ((s:Int) < (b.length:Int)))),(95,vJ s),(94,vJ b.length),(93, .slice j b.length u),(92,vP F 0),(4,vP B 0),(56, .bool (decide (a.iU=0))),(57, .bool (decide (a.iU=0))),(55,vI a.iU),(54,vP E 0),(10,vP F 0),(53, .agg #[.slice none 0 0, .bool false]),(9,vP E 0),(52, .agg (fM.cells a).toArray),(51, .pointer (some ⟨ab A0,ao A0+p *25,none⟩)),(50, .bool (decide ((p:Int) < (l0.length:Int)))),(49,vJ p),(48,vJ l0.length),(47, .slice A0 l0.length c0),(7, .map (some P)),(6, .map (some Q)),(3, .bool S)]) yK (λ i=>d.aF.ls.length - i.2) (false,0) ⟨rfl,rfl,rfl,rfl,rfl,rfl,rfl,rfl,rfl,rfl,rfl,rfl,rfl,rfl,rfl,rfl,rfl,rfl,rfl,rfl,rfl,rfl,rfl,rfl,rfl,rfl,rfl,rfl,rfl,rfl,rfl,rfl,rfl,rfl,rfl,rfl,rfl,rfl,rfl,trivial⟩ (gu.2 ⟨yJ,(show 0<=d.aF.ls.length/\gD (bf.abs z) d.aF.ls false=gD (bf.abs z) (r3 0 d.aF.ls) false from ⟨e6,rfl⟩)⟩) ?_
 rintro ⟨aN,N⟩ EF tJ
 obtain⟨bO,Ce,iH⟩:=gu.1 tJ
 refine sr (Kz (.bool (decide ((N:Int) < (d.aF.ls.length:Int)))) (nt (Ic ?_)))
 by_cases p9:(N:Int) < (d.aF.ls.length:Int)
 obtain⟨aj,kg⟩:=dN (ls:=jq) (i:=N) aU.len f4 (bO.rds (i:=5) rfl) e9
 have tK:=fF mo kg
 have Cf:aj.ai.ls.length<=aj.ai.c/\aj.ai.ls.length<=9223372036854775807:=aZ bO (i:=6) rfl (φ:=λ _=>_) (ax (Q3.2 ⟨aj,D3 kg,b1⟩) aW)
 have ko:=drop_at tK
 refine jT (dT p9) (sk (Ic (bo (sr (fw (.pointer (some ⟨ab ay,ao ay+N *4,none⟩)) (Ij (l6) rfl rfl ((bO.rds (i:=5) rfl).addr (i:=N) e6) e6) (fw (.agg (aU.cells aj).toArray) (Io rfl (Iy (cs:=(aU.cells aj)) Tryz.isAgg56 Tryz.sizeOf56 ((bO.rds (i:=5) rfl).elem aU.len kg f4))) ?_))))))
 refine dV [vI 0, .int .u64 0, .int .u64 0, .slice none 0 0] 56 bO ?_
 intro qa EG yL
 refine dS (aU.cells aj) 0 yL Tryz.sizeOf56 ?_
 intro EH gy
 refine nt (Ib (Mz rfl (Mz rfl ?_)))
 rcases Li (aN) with R | R
 refine Sz R (Sz R (Sz R (Sz R (Sz R (Sz R (Sz R (IR rfl rfl rfl (IR rfl rfl rfl (IR rfl rfl rfl (IR rfl rfl rfl (IR rfl rfl rfl (Sz R (fw (.bool true) (Iw rfl R rfl) (Az rfl (C6 (bN (Ig (Ib (fw (vJ (N+1)) (Ie (e:=C5.wrap ((N:Int)+1)) yk f0) (Mz rfl (C6 ?_)))))))))))))))))))))
 have yM:=gy.px [] [0] []
 exact Ir (true,N+1) ⟨rfl,rfl,rfl,rfl,rfl,rfl,rfl,rfl,rfl,rfl,rfl,rfl,rfl,rfl,rfl,rfl,rfl,rfl,rfl,rfl,rfl,rfl,rfl,rfl,rfl,rfl,rfl,rfl,rfl,rfl,rfl,rfl,rfl,rfl,rfl,rfl,rfl,rfl,rfl,trivial⟩ (gu.2 ⟨yM,(show (N+1)<=d.aF.ls.length/\gD (bf.abs z) d.aF.ls false=gD (bf.abs z) (r3 (N+1) d.aF.ls) true from ⟨e6,et (iH) (et (congrArg (λ q=>gD (bf.abs z) q aN) ko) (ip R))⟩)⟩) (by show d.aF.ls.length - (N+1) < d.aF.ls.length - N; omega)
 refine Gz (vP qa 0) R (Gl (vI aj.aK) R gy 0 C4 (Gz (vP gq 2) R (Gl (vI z.fI) R gy 1 C4 (Gz (vI (C5.wrap (z.fI - 10))) R (Gz (.bool (decide (aj.aK=C5.wrap (z.fI - 10)))) R (I1 (v:= .bool (decide (aj.aK=C5.wrap (z.fI - 10)))) rfl rfl R rfl (Iq rfl) ?_))))))
 by_cases az:aj.aK=C5.wrap (z.fI - 10)
 refine Gz (vP qa 2) (dT az) (Gl (vU aj.aP) (dT az) gy 0 D4 (Gz (vP gq 6) (dT az) (Gl (vU z.aP) (dT az) gy 1 D4 (Gz (.bool (decide ((aj.aP:Int)=(z.aP:Int)))) (dT az) (I1 (v:= .bool (decide ((aj.aP:Int)=(z.aP:Int)))) rfl rfl R rfl (Iw rfl (dT az) rfl) (fw (.bool (decide ((aj.aP:Int)=(z.aP:Int)))) (Ih rfl R rfl) (Az rfl (C6 (bN (Ig (Ib (fw (vJ (N+1)) (Ie (e:=C5.wrap ((N:Int)+1)) yk f0) (Mz rfl (C6 ?_))))))))))))))
 have yN:=gy.px [] [0] []
 exact Ir (decide ((aj.aP:Int)=(z.aP:Int)),N+1) ⟨rfl,rfl,rfl,rfl,rfl,rfl,rfl,rfl,rfl,rfl,rfl,rfl,rfl,rfl,rfl,rfl,rfl,rfl,rfl,rfl,rfl,rfl,rfl,rfl,rfl,rfl,rfl,rfl,rfl,rfl,rfl,rfl,rfl,rfl,rfl,rfl,rfl,rfl,rfl,trivial⟩ (gu.2 ⟨yN,e6,et (iH) (et (congrArg (λ q=>gD (bf.abs z) q aN) ko) (et (gm R) (ip az)))⟩) (by show d.aF.ls.length - (N+1) < d.aF.ls.length - N; omega)
 refine Sz (dF az) (Sz (dF az) (Sz (dF az) (Sz (dF az) (Sz (dF az) (I1 (v:= .bool false) rfl rfl R rfl (Ih rfl (dF az) rfl) (fw (.bool false) (Ih rfl R rfl) (Az rfl (C6 (bN (Ig (Ib (fw (vJ (N+1)) (Ie (e:=C5.wrap ((N:Int)+1)) yk f0) (Mz rfl (C6 ?_))))))))))))))
 have yO:=gy.px [] [0] []
 exact Ir (false,N+1) ⟨rfl,rfl,rfl,rfl,rfl,rfl,rfl,rfl,rfl,rfl,rfl,rfl,rfl,rfl,rfl,rfl,rfl,rfl,rfl,rfl,rfl,rfl,rfl,rfl,rfl,rfl,rfl,rfl,rfl,rfl,rfl,rfl,rfl,rfl,rfl,rfl,rfl,rfl,rfl,trivial⟩ (gu.2 ⟨yO,(show (N+1)<=d.aF.ls.length/\gD (bf.abs z) d.aF.ls false=gD (bf.abs z) (r3 (N+1) d.aF.ls) false from ⟨e6,et (iH) (et (congrArg (λ q=>gD (bf.abs z) q aN) ko) (et (gm R) (iN az)))⟩)⟩) (by show d.aF.ls.length - (N+1) < d.aF.ls.length - N; omega)
 refine jF (dF p9) (C7 (Il ?_))
 have iI:gD (bf.abs z) d.aF.ls false=aN:=et (iH) (et (congrArg (λ q=>gD (bf.abs z) q aN) (fB (ls:=d.aF.ls) (i:=N) e6)) rfl)
 refine Il (IB (Ig (sr (Kz (vP gq 0) (Lz (vI z.aD) bO 0 C4 (Kz (.bool (decide (z.aD=2))) (Mz rfl ?_)))))))
 by_cases bq:z.aD=2
 refine Gz (vP gq 4) (dT bq) (Gl (vI z.dz) (dT bq) bO 0 C4 (Gz (.bool (decide (z.dz=1))) (dT bq) (fw (.bool (decide (z.dz=1))) (Iw rfl (dT bq) rfl) (Mz rfl ?_))))
 by_cases dz:z.dz=1
 refine gw (.bool aN) (dT dz) (Iq rfl) (Gz (.bool (!aN)) (dT dz) (fw (.bool (!aN)) (Iw rfl (dT dz) rfl) (nt ?_)))
 rcases Li (aN) with jr | jr
 refine jF (cn jr) (IE (bN (Ig (Ib (fw (vJ (K+1)) (Ie (e:=C5.wrap ((K:Int)+1)) yk f0) (Mz rfl (C6 ?_)))))))
 have yP:=bO.px [] [0] []
 exact Ir (K+1) ⟨rfl,rfl,rfl,rfl,rfl,rfl,rfl,rfl,rfl,rfl,rfl,rfl,rfl,rfl,rfl,rfl,rfl,rfl,rfl,rfl,rfl,rfl,rfl,rfl,rfl,rfl,rfl,rfl,rfl,rfl,trivial⟩ (fV.2 ⟨yP,e6,et (fZ) (et (congrArg (λ q=>iD h M I d q) iF) (et (ah iI) (et (ip bq) (et (ip dz) (ip jr)))))⟩) (by show b.length - (K+1) < b.length - K; omega)
 refine jT (cn jr) (sr (An rfl (rt (bR (tR (tR (bR (bR (tR (tR (bR (tR (rs ?_)))))))))))))
 have yQ:=bO.pk []
 obtain rfl:_=false:=zj hr (et (ah aV) (et (ah aX) (et (ip aP) (et (ah bv) (et (ah aD) (et (iN bA) (jm (et (aQ) (et (congrArg (λ q=>fP S q g T U) bC) (et (ip dK) (et (nY fT) (et (nY mi) (et (ah iE) (oF (et (fZ) (et (congrArg (λ q=>iD h M I d q) iF) (et (ah iI) (et (ip bq) (et (ip dz) (gm jr))))))))))))))))))))
 exact⟨rfl,yQ⟩
 refine Sz (dF dz) (Sz (dF dz) (fw (.bool false) (Ih rfl (dF dz) rfl) (nt (jf (IE (bN (Ig (Ib (fw (vJ (K+1)) (Ie (e:=C5.wrap ((K:Int)+1)) yk f0) (Mz rfl (C6 ?_)))))))))))
 have yR:=bO.px [] [0] []
 exact Ir (K+1) ⟨rfl,rfl,rfl,rfl,rfl,rfl,rfl,rfl,rfl,rfl,rfl,rfl,rfl,rfl,rfl,rfl,rfl,rfl,rfl,rfl,rfl,rfl,rfl,rfl,rfl,rfl,rfl,rfl,rfl,rfl,trivial⟩ (fV.2 ⟨yR,e6,et (fZ) (et (congrArg (λ q=>iD h M I d q) iF) (et (ah iI) (et (ip bq) (iN dz))))⟩) (by show b.length - (K+1) < b.length - K; omega)
 refine Sz (dF bq) (Sz (dF bq) (Sz (dF bq) (fw (.bool false) (Ih rfl (dF bq) rfl) (Mz rfl (Sz rfl (Sz rfl (fw (.bool false) (Ih rfl rfl rfl) (nt (jf (IE (bN (Ig (Ib (fw (vJ (K+1)) (Ie (e:=C5.wrap ((K:Int)+1)) yk f0) (Mz rfl (C6 ?_))))))))))))))))
 have yS:=bO.px [] [0] []
 exact Ir (K+1) ⟨rfl,rfl,rfl,rfl,rfl,rfl,rfl,rfl,rfl,rfl,rfl,rfl,rfl,rfl,rfl,rfl,rfl,rfl,rfl,rfl,rfl,rfl,rfl,rfl,rfl,rfl,rfl,rfl,rfl,rfl,trivial⟩ (fV.2 ⟨yS,e6,et (fZ) (et (congrArg (λ q=>iD h M I d q) iF) (et (ah iI) (iN bq)))⟩) (by show b.length - (K+1) < b.length - K; omega)
 refine jF (dF pY) (C7 (Il ?_))
 have tL:iD h M I d b=B9 ():=et (fZ) (et (congrArg (λ q=>iD h M I d q) (fB (ls:=b) (i:=K) e6)) rfl)
 refine Il (IB (bN (Ig (Ib (fw (vJ (p+1)) (Ie (e:=C5.wrap ((p:Int)+1)) yk f0) (Mz rfl (C6 ?_)))))))
 have yT:=dW.pk [9,10,6]
 exact Ir (B,h,p+1,M,I) ⟨rfl,rfl,rfl,rfl,rfl,rfl,rfl,rfl,trivial⟩ (iw.2 ⟨yT,e6,by first | omega | (dsimp only; omega) | exact tZ f5 f5,by first | assumption | exact wO f5 f5,Eq.trans (aQ) (Eq.trans (congrArg (λ q=>fP S q g T U) bC) (Eq.trans (if_pos dK) (Eq.trans (nY fT) (Eq.trans (nY mi) (Eq.trans (ah iE) (nY tL))))))⟩) (by show l0.length - (p+1) < l0.length - p; omega)
 have Cg:a.iU=0:=e6
 have Ci:a.az.aD=6:=e6
 refine bo (sr (Kz (.bool (decide (a.iU=0))) (An rfl ?_)))
 have tN:(decide (a.iU=0))=true:=(dT e6)
 refine jT tN (Ic ?_)
 obtain⟨yU,iJ⟩:=FB λ (dA:Nat) (jv:Nat) (jw:Nat) (jy:Nat) (jA:Int) (jB:Nat) (jC:Nat) (jD:Nat) gz (gB:Nat) dB gF (gG:Nat) dC dD gH (gI:Nat) dE dG (jE:Nat) (jG:Nat) (jH:Nat) w'=>Own w D w' [blk dA [vI a.az.aD,vI a.az.aJ,vI a.az.fI,vI a.az.aK,vI a.az.dz,vI a.az.eH,vU a.az.aP,vU jv,vU jw,vU a.az.dY,vU jy,vU a.az.aL,vU (nR a.dE a.az.dL 0),vU a.az.cu,vU a.az.xN, .bool a.az.cz, .string ⟨v9 a.az.bU.bF⟩, .string ⟨v9 a.az.bU.bT⟩, .slice a.az.aH.A a.az.aH.ls.length a.az.aH.c, .slice a.az.ai.A a.az.ai.ls.length a.az.ai.c, .slice a.az.ag.A a.az.ag.ls.length a.az.ag.c] 42,blk F [.slice none 0 0, .bool false] 47,blk E (fM.cells a) 44,l5 P kU Value.bool T,l5 Q kU eX.val U,iG C g,row gz dB.length gB (q3 aY.cells dB) 89 2,row gF dD.length gG (q3 aC.cells dC) 60 5,sepL (q3 aC.own dC),row gH dG.length gI (q3 aU.cells dE) 56 4,sepL (q3 aU.own dE)]/\s5 aC.abs dC=dD/\s5 aU.abs dE=dG/\(())=()
 refine IZ (λ i:Nat × Nat × Nat × Nat × Int × Nat × Nat × Nat × (Option Addr) × Nat × (List aY) × (Option Addr) × Nat × (List aC) × (List bH) × (Option Addr) × Nat × (List aU) × (List eD) × Nat × Nat × Nat=> [(11, .pointer (some ⟨i.1,0,none⟩)),(58, .agg (fM.cells a).toArray),(59,vP C 0),(60, .agg #[vI i.2.2.2.2.1,vU i.2.2.2.2.2.1,vU i.2.2.2.2.2.2.1,vU i.2.2.2.2.2.2.2.1, .slice i.2.2.2.2.2.2.2.2.1 i.2.2.2.2.2.2.2.2.2.2.1.length i.2.2.2.2.2.2.2.2.2.1, .slice i.2.2.2.2.2.2.2.2.2.2.2.1 i.2.2.2.2.2.2.2.2.2.2.2.2.2.2.1.length i.2.2.2.2.2.2.2.2.2.2.2.2.1, .slice i.2.2.2.2.2.2.2.2.2.2.2.2.2.2.2.1 i.2.2.2.2.2.2.2.2.2.2.2.2.2.2.2.2.2.2.1.length i.2.2.2.2.2.2.2.2.2.2.2.2.2.2.2.2.1]),(61,vP C 0),(62, .int .u64 0),(63, .agg #[vI a.az.aD,vI a.az.aJ,vI a.az.fI,vI a.az.aK,vI a.az.dz,vI a.az.eH,vU a.az.aP,vU i.2.2.2.2.2.2.2.2.2.2.2.2.2.2.2.2.2.2.2.1,vU i.2.2.2.2.2.2.2.2.2.2.2.2.2.2.2.2.2.2.2.2.1,vU a.az.dY,vU i.2.2.2.2.2.2.2.2.2.2.2.2.2.2.2.2.2.2.2.2.2,vU a.az.aL,vU (nR a.dE a.az.dL 0),vU a.az.cu,vU a.az.xN, .bool a.az.cz, .string ⟨v9 a.az.bU.bF⟩, .string ⟨v9 a.az.bU.bT⟩, .slice a.az.aH.A a.az.aH.ls.length a.az.aH.c, .slice a.az.ai.A a.az.ai.ls.length a.az.ai.c, .slice a.az.ag.A a.az.ag.ls.length a.az.ag.c]),(56, .bool (decide (a.iU=0))),(57, .bool (decide (a.iU=0))),(55,vI a.iU),(54,vP E 0),(10,vP F 0),(53, .agg #[.slice none 0 0, .bool false]),(9,vP E 0),(52, .agg (fM.cells a).toArray),(51, .pointer (some ⟨ab A0,ao A0+p *25,none⟩)),(50, .bool (decide ((p:Int) < (l0.length:Int)))),(2, .bool false),(4,vP C 0),(49,vJ p),(48,vJ l0.length),(47, .slice A0 l0.length c0),(7, .map (some P)),(6, .map (some Q)),(3, .bool S)]) yU ?_ ?_
 refine vX [] (Iu (bQ.block (Iu (bQ.block (Iu (Iu (bQ.block (Iu IC)))))))) ib ?_
 intro EI qb
 refine qt (v:= .agg (fM.cells a).toArray) 0 rfl (λ _ ⟨_,H9⟩=>Io rfl (Iy (cs:=(fM.cells a)) V9 W0 ((H9.cls (i:=1) rfl).lit (k:=0) (m:=25) rfl))) (qv 1 rfl rfl (qv 3 rfl rfl ?_))
 refine Jj 2 6 e7 ?_ ?_
 have yV:=qb.pf [4]
 obtain⟨n,mq⟩:∃ q,eQ g=q:=⟨_,rfl⟩
 obtain⟨EJ,tO,Cj,tQ,Ck⟩:=II yV
 refine GY.do 2 rfl e7 (Iz W1 rfl (kE _ _ C g n tO e8 f5 mq) ?_)
 rintro _ EK ⟨lh,ll,lm,lq,gK,gL,qc,qf,rfl,tT,kr,ku⟩
 have lu:=tQ _ _ tT
 have Cm:=aB kr
 have Cn:=aB ku
 have Co:=zr 0 lu
 have Cq:=zr 1 lu
 have Cr:=zr 3 lu
 obtain⟨Cs,Ct,Cu⟩:=uT f5 f5 mq
 have mr:=lu.pf [6,7,8,9]
 refine⟨.inr ⟨_,mr⟩, ?_⟩
 refine Jj 4 6 e7 ?_ ?_
 refine GY.do 4 rfl e7 (Iz U8 rfl ?_ (λ _ _ k=>k))
 refine cb U9 ?_
 refine sr (An rfl (Ic (Ic ?_)))
 have yX:=mr.pf [9]
 obtain⟨EL,EM,EN,EO,EP,qh,qi,qj,ql,qm,qo,qp,qw,qx,qy,qz,qA,qB,qC,qD,qE,qF,qG,qH,qI,qJ,tV,gM,gN,gP,gQ,gT,gV,gX,Cv,qK⟩:=iZ yX
 refine Ib (Mz rfl (Kz (vP C 0) (Kz (vP C 34) (Lz (.pointer none) qK 0 V0 (Kz (.bool true) (nt (jt (sr (An rfl (rt (tR (rs ?_))))))))))))
 have qL:=qK.pf [18,19,20,21]
 refine⟨.inr ⟨_,qL⟩, ?_⟩
 refine Et ⟨5,_,_,_,_,_,Unit,λ g9=> .agg #[vI a.az.aD,vI a.az.aJ,vI a.az.fI,vI a.az.aK,vI a.az.dz,vI a.az.eH,vU a.az.aP,vU (ja a.dE a.az.aD 1 n.av a.az.av),vU (lZ a.dE a.az.aN n.av),vU a.az.dY,vU (ja a.dE a.az.aD 9 n.aV a.az.aV),vU a.az.aL,vU (nR a.dE a.az.dL 0),vU a.az.cu,vU a.az.xN, .bool a.az.cz, .string ⟨v9 a.az.bU.bF⟩, .string ⟨v9 a.az.bU.bT⟩, .slice a.az.aH.A a.az.aH.ls.length a.az.aH.c, .slice a.az.ai.A a.az.ai.ls.length a.az.ai.c, .slice a.az.ag.A a.az.ag.ls.length a.az.ag.c],λ _=>True,λ g9=> []⟩ ⟨6,_,_,_,_,_,Nat,λ g9=>vP g9 0,λ _=>True,λ g9=> [blk g9 (gU 0 0 0 0 0 0 0 0 0 0 0 0 0 0 0 false [] [] none 0 0 none 0 0 none 0 0) 42]⟩ 4 qL ⟨⟨rfl,rfl,rfl, ?_⟩,⟨rfl,rfl,rfl, ?_⟩,trivial⟩ ?_
 intro EQ L' yY
 obtain⟨ER,tX,Cw,tY,Cx⟩:=Ii yY
 refine(Iz W2 rfl (qQ _ _ a n.au n.av n.aV n.aL lh n.ag.ls.length ll lm n.aj.ls.length lq gK n.aF.ls.length gL 0 tX) ?_)
 rintro _ ES ⟨rfl,ug⟩
 have yZ:=tY _ _ ug
 exact⟨(),rfl,trivial,yZ⟩
 intro ET L' gY
 refine(IY (cs:=(gU 0 0 0 0 0 0 0 0 0 0 0 0 0 0 0 false [] [] none 0 0 none 0 0 none 0 0)) (t:=42) gY rfl rfl (λ _=>by kernel_rfl) ?_)
 intro lv qM jI
 exact⟨lv,rfl,trivial,jI⟩
 rintro ⟨⟩ _ lv _
 intro y5 jJ
 have jK:Own w D y5 (blk lv (gU 0 0 0 0 0 0 0 0 0 0 0 0 0 0 0 false [] [] none 0 0 none 0 0 none 0 0) 42::_):=jJ.flat.pf []
 have jL:=jK.pf [1,2,3,4]
 have y7:=jL.pf [4]
 refine qe 7 rfl (Do.store (vs:= [vI a.az.aD,vI a.az.aJ,vI a.az.fI,vI a.az.aK,vI a.az.dz,vI a.az.eH,vU a.az.aP,vU (ja a.dE a.az.aD 1 n.av a.az.av),vU (lZ a.dE a.az.aN n.av),vU a.az.dY,vU (ja a.dE a.az.aD 9 n.aV a.az.aV),vU a.az.aL,vU (nR a.dE a.az.dL 0),vU a.az.cu,vU a.az.xN, .bool a.az.cz, .string ⟨v9 a.az.bU.bF⟩, .string ⟨v9 a.az.bU.bT⟩, .slice a.az.aH.A a.az.aH.ls.length a.az.aH.c, .slice a.az.ai.A a.az.ai.ls.length a.az.ai.c, .slice a.az.ag.A a.az.ag.ls.length a.az.ag.c]) (o:=0) y7 rfl rfl N6 rfl rfl rfl rfl ?_)
 intro EU y8
 have qN:=y8.pf [1,2,3,4]
 refine⟨.inr ⟨_,qN⟩, ?_⟩
 refine qn ?_
 have y9:=qN.pb [0,1,2,3,4,23,24,25,26,27]
 have za:=fe tV gM gN gP gQ gT gV gX y9
 have zb:=za.pf [5,1,2,3,4]
 exact IQ (lv,ja a.dE a.az.aD 1 n.av a.az.av,lZ a.dE a.az.aN n.av,ja a.dE a.az.aD 9 n.aV a.az.aV,n.au,n.av,n.aV,n.aL,lh,ll,n.ag.ls,lm,lq,qc,n.aj.ls,gK,gL,qf,n.aF.ls,ja a.dE a.az.aD 1 n.av a.az.av,lZ a.dE a.az.aN n.av,ja a.dE a.az.aD 9 n.aV a.az.aV) ⟨rfl,rfl,rfl,rfl,rfl,rfl,rfl,rfl,rfl,rfl,rfl,rfl,rfl,rfl,rfl,rfl,rfl,rfl,rfl,rfl,rfl,rfl,rfl,rfl,rfl,trivial⟩ (iJ.2 ⟨zb,by exact kr,by exact ku,rfl⟩)
 refine GY.do 6 rfl e7 (IY (cs:=(gU 0 0 0 0 0 0 0 0 0 0 0 0 0 0 0 false [] [] none 0 0 none 0 0 none 0 0)) (t:=42) mr rfl rfl (λ _=>by kernel_rfl) ?_)
 intro ze EW zf
 have jM:=zf.pf [1,2,3,4]
 refine⟨.inr ⟨_,jM⟩, ?_⟩
 refine GX.do 4 rfl e7 (Iz U8 rfl ?_ (λ _ _ k=>k))
 refine cb U9 ?_
 refine sr (An rfl (Ic (Ic ?_)))
 have mD:=jM.pf [10]
 obtain⟨zg,zh,qh,qi,qj,ql,qm,qo,qp,qw,qx,qy,qz,qA,qB,qC,qD,qE,qF,qG,qH,qI,qJ,zi,zk,zl,gM,gN,gP,gQ,gT,gV,gX,kv,uh,jN⟩:=iZ mD
 refine Ib (Mz rfl (Kz (vP C 0) (Kz (vP C 34) (Lz (.pointer none) jN 0 V0 (Kz (.bool true) (nt (jt (sr (An rfl (rt (tR (rs ?_))))))))))))
 have jO:=jN.pf [18,19,20,21]
 refine⟨.inr ⟨_,jO⟩, ?_⟩
 obtain⟨zm,kw,ui,kz,uj⟩:=Ii jO
 refine qd 5 rfl (Iz W2 rfl (qQ _ _ a n.au n.av n.aV n.aL lh n.ag.ls.length ll lm n.aj.ls.length lq gK n.aF.ls.length gL 0 kw) ?_)
 rintro _ zn ⟨rfl,kD⟩
 have gY:=kz _ _ kD
 refine⟨.inr ⟨_,gY⟩, ?_⟩
 have mE:=gY.pf [22]
 refine qe 7 rfl (Do.store (vs:= [vI a.az.aD,vI a.az.aJ,vI a.az.fI,vI a.az.aK,vI a.az.dz,vI a.az.eH,vU a.az.aP,vU (ja a.dE a.az.aD 1 n.av a.az.av),vU (lZ a.dE a.az.aN n.av),vU a.az.dY,vU (ja a.dE a.az.aD 9 n.aV a.az.aV),vU a.az.aL,vU (nR a.dE a.az.dL 0),vU a.az.cu,vU a.az.xN, .bool a.az.cz, .string ⟨v9 a.az.bU.bF⟩, .string ⟨v9 a.az.bU.bT⟩, .slice a.az.aH.A a.az.aH.ls.length a.az.aH.c, .slice a.az.ai.A a.az.ai.ls.length a.az.ai.c, .slice a.az.ag.A a.az.ag.ls.length a.az.ag.c]) (o:=0) mE rfl rfl N6 rfl rfl rfl rfl ?_)
 intro qM jI
 have jP:=jI.pf [1,2,3,4]
 refine⟨.inr ⟨_,jP⟩, ?_⟩
 refine qn ?_
 have jJ:=jP.pb [0,1,2,3,4,23,24,25,26,27]
 have jK:=fe gM gN gP gQ gT gV gX kv jJ
 have jL:=jK.pf [5,1,2,3,4]
 exact IQ (ze,ja a.dE a.az.aD 1 n.av a.az.av,lZ a.dE a.az.aN n.av,ja a.dE a.az.aD 9 n.aV a.az.aV,n.au,n.av,n.aV,n.aL,lh,ll,n.ag.ls,lm,lq,qc,n.aj.ls,gK,gL,qf,n.aF.ls,ja a.dE a.az.aD 1 n.av a.az.av,lZ a.dE a.az.aN n.av,ja a.dE a.az.aD 9 n.aV a.az.aV) ⟨rfl,rfl,rfl,rfl,rfl,rfl,rfl,rfl,rfl,rfl,rfl,rfl,rfl,rfl,rfl,rfl,rfl,rfl,rfl,rfl,rfl,rfl,rfl,rfl,rfl,trivial⟩ (iJ.2 ⟨jL,by exact kr,by exact ku,rfl⟩)
 refine GY.do 6 rfl e7 (IY (cs:=(gU 0 0 0 0 0 0 0 0 0 0 0 0 0 0 0 false [] [] none 0 0 none 0 0 none 0 0)) (t:=42) qb rfl rfl (λ _=>by kernel_rfl) ?_)
 intro zo EX zq
 have qO:=zq.pb [0,5]
 refine⟨.inr ⟨_,qO⟩, ?_⟩
 have zt:=qO.pf [5]
 obtain⟨n,mF⟩:∃ q,eQ g=q:=⟨_,rfl⟩
 obtain⟨EY,uk,Cy,ul,Cz⟩:=II zt
 refine qd 2 rfl (Iz W1 rfl (kE _ _ C g n uk e8 f5 mF) ?_)
 rintro _ EZ ⟨gK,gL,qP,qR,qU,qV,zu,zw,rfl,um,mG,mH⟩
 have lw:=ul _ _ um
 have CB:=aB mG
 have CE:=aB mH
 have CF:=zr 0 lw
 have CG:=zr 1 lw
 have CJ:=zr 3 lw
 obtain⟨CK,CL,CO⟩:=uT f5 f5 mF
 have jM:=lw.pf [6,7,8,9]
 refine⟨.inr ⟨_,jM⟩, ?_⟩
 refine GX.do 4 rfl e7 (Iz U8 rfl ?_ (λ _ _ k=>k))
 refine cb U9 ?_
 refine sr (An rfl (Ic (Ic ?_)))
 have mD:=jM.pf [9]
 obtain⟨zg,zh,qh,qi,qj,ql,qm,qo,qp,qw,qx,qy,qz,qA,qB,qC,qD,qE,qF,qG,qH,qI,qJ,zi,zk,zl,gM,gN,gP,gQ,gT,gV,gX,kv,uh,jN⟩:=iZ mD
 refine Ib (Mz rfl (Kz (vP C 0) (Kz (vP C 34) (Lz (.pointer none) jN 0 V0 (Kz (.bool true) (nt (jt (sr (An rfl (rt (tR (rs ?_))))))))))))
 have jO:=jN.pf [18,19,20,21]
 refine⟨.inr ⟨_,jO⟩, ?_⟩
 obtain⟨zm,kw,ui,kz,uj⟩:=Ii jO
 refine qd 5 rfl (Iz W2 rfl (qQ _ _ a n.au n.av n.aV n.aL gK n.ag.ls.length gL qP n.aj.ls.length qR qU n.aF.ls.length qV 0 kw) ?_)
 rintro _ zn ⟨rfl,kD⟩
 have gY:=kz _ _ kD
 refine⟨.inr ⟨_,gY⟩, ?_⟩
 have mE:=gY.pf [27]
 refine qe 7 rfl (Do.store (vs:= [vI a.az.aD,vI a.az.aJ,vI a.az.fI,vI a.az.aK,vI a.az.dz,vI a.az.eH,vU a.az.aP,vU (ja a.dE a.az.aD 1 n.av a.az.av),vU (lZ a.dE a.az.aN n.av),vU a.az.dY,vU (ja a.dE a.az.aD 9 n.aV a.az.aV),vU a.az.aL,vU (nR a.dE a.az.dL 0),vU a.az.cu,vU a.az.xN, .bool a.az.cz, .string ⟨v9 a.az.bU.bF⟩, .string ⟨v9 a.az.bU.bT⟩, .slice a.az.aH.A a.az.aH.ls.length a.az.aH.c, .slice a.az.ai.A a.az.ai.ls.length a.az.ai.c, .slice a.az.ag.A a.az.ag.ls.length a.az.ag.c]) (o:=0) mE rfl rfl N6 rfl rfl rfl rfl ?_)
 intro qM jI
 have jP:=jI.pf [1,2,3,4]
 refine⟨.inr ⟨_,jP⟩, ?_⟩
 refine qn ?_
 have jJ:=jP.pb [0,1,2,3,4,23,24,25,26,27]
 have jK:=fe gM gN gP gQ gT gV gX kv jJ
 have jL:=jK.pf [5,1,2,3,4]
 exact IQ (zo,ja a.dE a.az.aD 1 n.av a.az.av,lZ a.dE a.az.aN n.av,ja a.dE a.az.aD 9 n.aV a.az.aV,n.au,n.av,n.aV,n.aL,gK,gL,n.ag.ls,qP,qR,zu,n.aj.ls,qU,qV,zw,n.aF.ls,ja a.dE a.az.aD 1 n.av a.az.av,lZ a.dE a.az.aN n.av,ja a.dE a.az.aD 9 n.aV a.az.aV) ⟨rfl,rfl,rfl,rfl,rfl,rfl,rfl,rfl,rfl,rfl,rfl,rfl,rfl,rfl,rfl,rfl,rfl,rfl,rfl,rfl,rfl,rfl,rfl,rfl,rfl,trivial⟩ (iJ.2 ⟨jL,by exact mG,by exact mH,rfl⟩)
 rintro ⟨dA,jv,jw,jy,jA,jB,jC,jD,gz,gB,dB,gF,gG,dC,dD,gH,gI,dE,dG,jE,jG,jH⟩ E5 uo
 obtain⟨qW,uq,ut,uw⟩:=iJ.1 uo
 have CP:=aB uq
 have CQ:=aB ut
 refine Ic (sr (Kz (vP dA 0) (Lz (vI a.az.aD) qW 0 C4 (Kz (.bool (decide (a.az.aD=6))) (nt ?_)))))
 have uy:(decide (a.az.aD=6))=true:=(dT e6)
 refine jT uy (C7 (Il (Kk rfl (Il (IB (Ig (Ib (fw (vJ (p+1)) (Ie (e:=C5.wrap ((p:Int)+1)) yk f0) (Mz rfl (C6 ?_))))))))))
 have zx:=qW.pk [3,4,5]
 exact Ir (C,g,p+1,T,U) ⟨rfl,rfl,rfl,rfl,rfl,rfl,rfl,rfl,trivial⟩ (iw.2 ⟨zx,e6,by first | omega | (dsimp only; omega) | exact tZ f5 f5,by first | assumption | exact wO f5 f5,Eq.trans (aQ) (Eq.trans (congrArg (λ q=>fP S q g T U) bC) (Eq.trans (if_neg dK) (ah uw)))⟩) (by show l0.length - (p+1) < l0.length - p; omega)
 refine jF (dF mQ) (C7 (Il ?_))
 have uz:fP S l0 Y [] []=B9 ():=et (aQ) (et (congrArg (λ q=>fP S q g T U) (fB (ls:=l0) (i:=p) e6)) rfl)
 refine Il (IB (Ig (Ic ?_)))
 have zy:=iO.pk []
 refine Ib (Mz rfl (An rfl (rt (rs ?_))))
 have zz:=zy.pk []
 obtain rfl:_=S:=zj hr (et (ah aV) (et (ah aX) (et (ip aP) (et (ah bv) (et (ah aD) (et (iN bA) (nT uz)))))))
 exact⟨rfl,zz⟩
 refine Sz (dT aP) (Sz (dT aP) (Sz (dT aP) (fw (.bool true) (Iw rfl (dT aP) rfl) (nt (jt (sr (Az rfl (An rfl (rt (tR (Fin.res (lW rfl rfl rfl) (Mz rfl (Kz (.pointer none) (Kz (vI 1) (Az rfl (An rfl (Ic (Ic ?_))))))))))))))))))
 have qX:=mJ.pk []
 refine Ib (Mz rfl (Kz (.bool true) (Mz rfl (Sz rfl (Sz rfl (fw (.bool true) (Iw rfl rfl rfl) (Mz rfl (Sz rfl (Sz rfl (Sz rfl (fw (.bool true) (Iw rfl rfl rfl) (nt (jt (sr (Mz rfl (Mz rfl ?_))))))))))))))))
 rcases Li (S) with dH | dH
 refine I1 (v:= .pointer none) rfl rfl dH rfl (Iq rfl) (Gz (.bool false) dH (fw (.bool false) (Iw rfl dH rfl) (An rfl (rt (tR (rs ?_))))))
 have uA:=qX.pk []
 obtain rfl:=zj hr zq4
 exact⟨rfl,uA⟩
 refine Sz dH (Sz dH (fw (.bool false) (Ih rfl dH rfl) (An rfl (rt (tR (rs ?_))))))
 have uB:=qX.pk []
 obtain rfl:=zj hr zq4
 exact⟨rfl,uB⟩
end
def bg (B:List (Nat × Bool)) (n:Nat):Bool:=Option.getD (nU B n) false
def sd (S:List (Nat × eX)) (n:Nat):eX:=Option.getD (nU S n) eX.zero
structure Vo (B:List (Nat × Bool)) (S:List (Nat × eX)) (m:aA):Prop where
  c1:∀ n,bg B n=true->n<=lS m
  c2:∀ n,(sd S n).bD=true->n ∈ nD m
  c3:∀ n,(sd S n).oN=true->n ∉ nA m/\n ∉ nD m
  c4:∀ n,(sd S n).oN=true->bg B n=true
theorem Vo.step {B:List (Nat × Bool)} {S:List (Nat × eX)} {m m':aA} (h:Vo B S m) (r:Rl m m'):Vo B S m':=
  ⟨λ n e=>Nat.le_trans (h.c1 n e) r.bn,λ n e=>r.dd n (h.c2 n e),λ n e=>by
    have f:=h.c1 n (h.c4 n e)
    obtain⟨c,d⟩:=h.c3 n e
    refine⟨λ b=> ?_,λ b=> ?_⟩
    . rcases r.an n b with a | a
      . exact c a
      . omega
    . rcases r.dn n b with a | a | a
      . exact d a
      . exact c a
      . omega,h.c4⟩
theorem Vo.ug {B:List (Nat × Bool)} {S:List (Nat × eX)} {m:aA} (h:Vo B S m) {n:Nat} (hn:n<=lS m):Vo (kL B n true) S m:=by
  have hb:∀ q,bg (kL B n true) q=if n=q then true else bg B q:=λ q=>by unfold bg; rw [xz]; split <;> rfl
  refine⟨λ q e=> ?_,h.c2,h.c3,λ q e=> ?_⟩
  . rw [hb] at e
    by_cases c:n=q
    . rw [<- c]; exact hn
    . rw [if_neg c] at e; exact h.c1 q e
  . rw [hb]; split
    . rfl
    . exact h.c4 q e
theorem Vo.put {B:List (Nat × Bool)} {S:List (Nat × eX)} {m:aA} (h:Vo B S m) {n:Nat} (hb:bg B n=true) (v:eX) (hy:v.bD=true->n ∈ nD m) (hn:v.oN=true->n ∉ nA m/\n ∉ nD m):Vo B (kL S n v) m:=by
  have hs:∀ q,sd (kL S n v) q=if n=q then v else sd S q:=λ q=>by unfold sd; rw [xz]; split <;> rfl
  refine⟨h.c1,λ q e=> ?_,λ q e=> ?_,λ q e=> ?_⟩
  . rw [hs] at e
    by_cases c:n=q
    . subst c; rw [if_pos rfl] at e; exact hy e
    . rw [if_neg c] at e; exact h.c2 q e
  . rw [hs] at e
    by_cases c:n=q
    . subst c; rw [if_pos rfl] at e; exact hn e
    . rw [if_neg c] at e; exact h.c3 q e
  . rw [hs] at e
    by_cases c:n=q
    . subst c; exact hb
    . rw [if_neg c] at e; exact h.c4 q e
theorem Cq {M m:aA} {l0:List bL}:∀ {o:List bL} {B:List (Nat × Bool)} {S:List (Nat × eX)},(∀ x ∈ o,Mo m x)->Vo B S m->∃ B' S',Vo B' S' m/\eY M l0 o B S= .inl (B',S')
  | [],B,S,_,v=>⟨B,S,v,rfl⟩
  | x::o,B,S,ho,v=>by
    have hx:=ho x b1
    obtain⟨b,d,a⟩:∃ b,(if x.aD=3 then kL B x.aN true else B)=b/\Vo b S m:=by
      by_cases e:x.aD=3
      . exact⟨_,if_pos e,v.ug (hx.work e)⟩
      . exact⟨_,if_neg e,v⟩
    have ih:∀ {S:List (Nat × eX)},Vo b S m->∃ B' S',Vo B' S' m/\eY M l0 o b S= .inl (B',S'):=λ v=>Cq (λ y hy=>ho y (.tail _ hy)) v
    unfold eY
    simp only [ig]
    rw [d]
    by_cases c:x.aD=5
    . rw [if_pos c]
      by_cases hb:Option.getD (nU b x.aN) false=true
      . rw [if_pos hb]
        by_cases hy:(Option.getD (nU S x.aN) eX.zero).bD=true
        . rw [if_pos hy]
          have hD:=a.c2 _ hy
          rw [if_neg (λ hn:(Option.getD (nU S x.aN) eX.zero).oN=true=>(a.c3 _ hn).2 hD)]
          by_cases hf:x.cz=true
          . rw [if_pos hf]
            exact ih (a.put hb _ (λ _=>hD) λ e=>by simp [hf] at e)
          . exact absurd hD (hx.no c (Bool.eq_false_iff.2 hf)).2
        . rw [if_neg hy]
          by_cases hn:(Option.getD (nU S x.aN) eX.zero).oN=true
          . rw [if_pos hn]
            have hN:=a.c3 _ hn
            by_cases hf:x.cz=true
            . exact absurd (hx.yes c hf) hN.2
            . rw [if_neg hf]
              exact ih (a.put hb _ (λ e=>absurd e hf) λ _=>hN)
          . rw [if_neg hn]
            have hp:Vo b (kL S x.aN (eX.mk x.cz (!x.cz))) m:=a.put hb _ (λ e=>hx.yes c e) λ e=>hx.no c (by simpa using e)
            split
            . exact ih hp
            . exact ih hp
      . rw [if_neg hb]; exact ih a
    . rw [if_neg c]; exact ih a
theorem uU {x:bL}:∀ {l:List eD} {b:Bool},(b=true\/∃ y ∈ l,y.aK=IntKind.i64.wrap (x.fI - 10)/\y.aP=x.aP)->gD x l b=true
  | [],b,h=>h.elim id fun⟨y,hy,_⟩=>by cases hy
  | z::l,b,h=>by
    unfold gD
    by_cases hb:b=true
    . rw [if_pos hb]; exact uU (.inl rfl)
    rw [if_neg hb]
    obtain⟨y,hy,a,c⟩:=h.resolve_left hb
    rcases List.mem_cons.1 hy with rfl | hy
    . rw [if_pos a]; exact uU (.inl (decide_eq_true (by rw [c])))
    . split
      . exact uU (.inr ⟨y,hy,a,c⟩)
      . exact uU (.inr ⟨y,hy,a,c⟩)
theorem Cr {M m:aA} {B:List (Nat × Bool)} {S:List (Nat × eX)} (H:mR m):∀ {o:List bL},(∀ x ∈ o,Mo m x)->iD M B S m.aa o= .inl ()
  | [],_=>rfl
  | x::o,ho=>by
    have ih:=Cr (M:=M) (B:=B) (S:=S) H λ y hy=>ho y (.tail _ hy)
    unfold iD
    simp only [ig]
    by_cases e:x.aD=2
    . rw [if_pos e]
      by_cases c:x.dz=1
      . rw [if_pos c]
        obtain⟨l,hl,a,b⟩:=(ho x b1).ans e c
        have d:=(H.mH l hl).1
        rw [if_pos (uU (.inr ⟨l,hl,by rw [a,Lf _ e6]; omega,b⟩))]
        exact ih
      . rw [if_neg c]; exact ih
    . rw [if_neg e]; exact ih
def Fe (k:Nat) (m:aA) (E:(aA × List bL) ⊕ Bool):Prop:=∃ m' o,E= .inl (m',o)/\Fs k m o m'
theorem Gt {α:Type} {x:α} {k:Nat} {m:aA} {f:α->(aA × List bL) ⊕ Bool} (h:∀ a,Fe k m (f a)):Fe k m (bnd x f):=h x
theorem zW {α:Type} {x y:α} {k:Nat} {m:aA} {f:α->(aA × List bL) ⊕ Bool} (e:x=y) (h:Fe k m (f y)):Fe k m (bnd x f):=e ▸ h
theorem Gu {c:Prop} [Decidable c] {k:Nat} {m:aA} {a b:(aA × List bL) ⊕ Bool} (hc:c) (h:Fe k m a):Fe k m (if c then a else b):=by rw [if_pos hc]; exact h
theorem yM {c:Prop} [Decidable c] {k:Nat} {m:aA} {a b:(aA × List bL) ⊕ Bool} (h:c->Fe k m a) (h': ¬ c->Fe k m b):Fe k m (if c then a else b):=by
  by_cases e:c
  . rw [if_pos e]; exact h e
  . rw [if_neg e]; exact h' e
theorem Fq {k:Nat} {m:aA} {x:bL} (a: ¬ x.aD=6) (H:mR m) (n:Nk k m) (hk:k+1<=1000):Fe k m (bnd (eT m x) λ y=>Sum.inl (y.2.2,y.1.fo.ls)):=⟨_,_,rfl,Gj a H n hk⟩
theorem Fu {k:Nat} {m:aA} (H:mR m) (n:Nk k m) (hk:k+1<=1000):Fe k m (bnd (jk m) λ y=>Sum.inl (y.2,y.1.fo.ls)):=⟨_,_,rfl,Gm H n hk⟩
theorem DN {k:Nat} {m m':aA} {o:List bL} (F:Fs k m o m'):Fe k m (Sum.inl (m',o)):=⟨_,_,rfl,F⟩
theorem Fv {b:Bool} {l:List StepT} {k:Nat} {m:aA} {B:List (Nat × Bool)} {S:List (Nat × eX)} {E:(aA × List bL) ⊕ Bool} (hE:Fe k m E) (v:Vo B S m) (ih:∀ m' B' S',mR m'->Nk (k+1) m'->Vo B' S' m'->fP b l m' B' S'= .inl ()):(qU E λ s=>qU (eY s.1 s.2 s.2 B S) λ q=>bnd (eQ s.1) λ y=>qU (iD s.1 q.1 q.2 y s.2) λ _=>fP b l s.1 q.1 q.2)= .inl ():=by
  obtain⟨m',o,e,F⟩:=hE
  obtain⟨B',S',v',e'⟩:=Cq (M:=m') (l0:=o) F.mo (v.step F.rl)
  refine(nY e).trans ((nY e').trans ?_)
  exact(nY (Cr (M:=m') (B:=B') (S:=S') F.ok F.mo)).trans (ih m' B' S' F.ok F.nk v')
theorem zm (b:Bool):∀ (l:List StepT) (k:Nat) (m:aA) (B:List (Nat × Bool)) (S:List (Nat × eX)),mR m->Nk k m->k+l.length<=1000->Vo B S m->fP b l m B S= .inl ()
  | [],_,_,_,_,_,_,_,_=>rfl
  | x::l,k,m,B,S,H,n,hk,v=>by
    rw [List.length_cons] at hk
    have a:k+1<=1000:=e6
    unfold fP
    by_cases hc: ¬ (x.iU=0)\/¬ (x.az.aD=6)
    . rw [if_pos hc]
      refine Fv ?_ v λ m' B' S' H' n' v'=>zm b l (k+1) m' B' S' H' n' e6 v'
      refine yM (λ c=>Gt λ _=>Fq (hc.resolve_left λ h=>h c) H n a) λ _=>yM (λ _=>Fu H n a) λ _=>yM (λ _=> ?_) λ _=>DN (Fs.same H n a λ x hx=>by cases hx)
      refine zW (y:=m.aa) rfl (zW (Gs H n) (Gu rfl (yM (λ h=> ?_) λ _=>zW (y:=m.aa) rfl (zW (y:=qo m.aa) rfl (DN (GJ H n a))))))
      have d:=n.bo; have e:=n.lt; omega
    . rw [if_neg hc]
      exact zm b l k m B S H n e6 v
theorem Eo {l0:List StepT}:sP l0=true:=by
  unfold sP
  refine(ah DL).trans ?_
  refine(ah (show gJ (cZ.mk 2 0 0 1 (Ll.mk ([(aY.mk [] 1),(aY.mk ([109]) 2)])) (Ll.mk []) (Ll.mk []))=0 by decide+kernel)).trans ?_
  rw [if_pos rfl]
  refine(ah rfl).trans ?_
  refine(ah rfl).trans ?_
  by_cases h:(l0.length:Int) > 100
  . rw [if_pos h,if_pos rfl]
  rw [if_neg h]
  have hb:Int.toNat (IntKind.u64.wrap (((0:Nat):Int)+1))=1:=by decide+kernel
  refine nT (zm true l0 0 _ [] [] ⟨⟨rfl,rfl,Lg _,List.Pairwise.nil,List.Pairwise.nil,λ x hx=>absurd hx List.not_mem_nil,λ x hx=>absurd hx List.not_mem_nil,λ x hx=>absurd hx List.not_mem_nil,List.Pairwise.nil,λ x hx=>absurd hx List.not_mem_nil,λ x hx=>absurd hx List.not_mem_nil,λ x hx=>absurd hx List.not_mem_nil⟩,λ c hc h _=> ?_⟩ ⟨f4,Nat.le_of_eq hb,Lg _⟩ e6 ⟨λ n e=>(by cases e),λ n e=>(by cases e),λ n e=>(by cases e),λ n e=>(by cases e)⟩)
  obtain rfl | rfl | rfl | rfl:c=1\/c=2\/c=3\/c=4:=e6
  . cases h
  . cases h
  . cases h
  . cases h
section
open Go.RowKit
theorem BC (w) (f:Sv fM) (a:mI w 25 272 fM.cells (JB w) f):
    Calls Tryz.prog 3 #[.slice f.A f.ls.length f.c] w λ e w'=>e= .returned (.bool true)/\Below w.heap.size w w':=
 (xU w (λ _:Nat=>False) f.A f.ls.length f.c f.ls (List.map fM.abs f.ls) true (Ku w) rfl (bE.ro a.2.2.1 f4) (λ b d=>⟨bE.ro (a.2.2.2 b d).2.2.1.2.2.2.2.2.2.2.2.2.2.2.2.2.2.2.2.2.1.2.2.1 f4,(by have g:=(a.2.2.2 b d).2.2.1.2.2.2.2.2.2.2.2.2.2.2.2.2.2.2.2.2.1.1; have h:=(a.2.2.2 b d).2.2.1.2.2.2.2.2.2.2.2.2.2.2.2.2.2.2.2.2.1.2.1; omega),bE.ro (a.2.2.2 b d).2.2.1.2.2.2.2.2.2.2.2.2.2.2.2.2.2.2.2.2.2.1.2.2.1 f4,(by have g:=(a.2.2.2 b d).2.2.1.2.2.2.2.2.2.2.2.2.2.2.2.2.2.2.2.2.2.1.1; have h:=(a.2.2.2 b d).2.2.1.2.2.2.2.2.2.2.2.2.2.2.2.2.2.2.2.2.2.1.2.1; omega),(λ i j=>⟨bE.ro ((a.2.2.2 b d).2.2.1.2.2.2.2.2.2.2.2.2.2.2.2.2.2.2.2.2.2.1.2.2.2 i j).2.2.2.2.1 f4,(by have g:=((a.2.2.2 b d).2.2.1.2.2.2.2.2.2.2.2.2.2.2.2.2.2.2.2.2.2.1.2.2.2 i j).2.2.1; have h:=((a.2.2.2 b d).2.2.1.2.2.2.2.2.2.2.2.2.2.2.2.2.2.2.2.2.2.1.2.2.2 i j).2.2.2.1; omega)⟩),bE.ro (a.2.2.2 b d).2.2.1.2.2.2.2.2.2.2.2.2.2.2.2.2.2.2.2.2.2.2.2.2.1 f4,(by have g:=(a.2.2.2 b d).2.2.1.2.2.2.2.2.2.2.2.2.2.2.2.2.2.2.2.2.2.2.1; have h:=(a.2.2.2 b d).2.2.1.2.2.2.2.2.2.2.2.2.2.2.2.2.2.2.2.2.2.2.2.1; omega)⟩) (s3 ..).symm (by rw [s3]; have:=a.1; have:=a.2.1; omega) (by rw [s3]; have:=a.1; have:=a.2.1; omega) (E8 a.2.2.2) (Eo)).mono λ e w' ⟨v,he,hv,H⟩=>⟨by rw [he,hv],H.below⟩
end
end Go.Proofs.YtbkagebjhbphaaaGreat
