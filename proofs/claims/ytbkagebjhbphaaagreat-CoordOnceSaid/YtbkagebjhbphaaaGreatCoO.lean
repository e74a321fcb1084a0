/-
  What a step of the coordinator keeps: which states may be, which decisions are told. Conditions: none beyond each law's own.
-/
import Derived.Test.YtbkagebjhbphaaaGreatCoR
namespace Go.Proofs.YtbkagebjhbphaaaGreat
open Int renaming toNat→D0
open List renaming Pairwise→R7,append_assoc→q4,append_nil→s6,drop→r3,getD→C0,getD_eq_getElem?_getD→L4,getElem?_eq_getElem→s2,getElem_map→S7,length→r8,length_append→o1,length_map→s3,length_set→H1,map→s5,map_append→v5,map_cons→t2,map_drop→S6,map_take→S5,mem_append→v6,mem_append_right→v2,mem_cons→u9,mem_iff_getElem→V4,mem_map→v4,mem_of_getElem?→D3,mem_of_mem_drop→S2,mem_or_eq_of_mem_set→O0,mem_singleton→m4,pairwise_append→S1,pairwise_cons→R9,pairwise_map→V5,replicate→r6,set→u2,take→q7,take_append_drop→s7
open Ll renaming mk→E2
open Nat renaming le_of_eq→V7,le_refl→o3,le_succ_of_le→S3,lt_irrefl→V6
set_option linter.unusedVariables false
set_option linter.unusedSimpArgs false
theorem cmp_eq (a b:Nat):gP a b=0↔a=b:=by
  unfold gP lu
  simp only [bnd]
  by_cases h:((a:Nat):Int) < ((b:Nat):Int)
  · simp [h]; omega
  · by_cases d:((a:Nat):Int) > ((b:Nat):Int) <;> simp [h,d] <;> omega
theorem Gh (a b:Int):(cmp_Compare_int a b < 0↔a < b)∧(cmp_Compare_int a b=0↔a=b):=by
  unfold cmp_Compare_int cmp_isNaN_int
  simp only [bnd]
  by_cases h:a < b
  · simp [h]; omega
  · by_cases d:a > b <;> simp [h,d] <;> omega
def Sr {α:Type} [Inhabited α] (l:List α) (key:α→Int) (n:Int) (r:Int × Bool):Prop:=(r.2=true→D0 r.1 < l.length∧key (C0 l (D0 r.1) default)=n)∧((∃ x ∈ l,key x=n)→r.2=true)∧(∀ x ∈ q7 (D0 r.1) l,key x < n)∧(∀ x ∈ r3 (D0 r.1) l,n≤key x)
section
variable {α:Type} [Inhabited α] {l:List α} {key c:α→Int} {F:Nat→Nat→Nat→Nat} {n:Int}
theorem CL (hF:∀ f a b,F (f+1) a b=if((a:Nat):Int) < ((b:Nat):Int) then(if c (C0 l ((a+b) / 2) default) < 0 then F f ((a+b) / 2+1) b else F f a ((a+b) / 2)) else a) (hc:∀ x,c x < 0↔key x < n) (hs:∀ i j:Nat,i≤j→j < l.length→key (C0 l i default)≤key (C0 l j default)):∀ (f a b:Nat),a≤b→b≤l.length→b - a < f→(∀ i,i < a→key (C0 l i default) < n)→(∀ i,b≤i→i < l.length→n≤key (C0 l i default))→
    F f a b≤l.length∧(∀ i,i < F f a b→key (C0 l i default) < n)∧(∀ i,F f a b≤i→i < l.length→n≤key (C0 l i default))
  | 0,a,b,_,_,h,_,_=>by omega
  | f+1,a,b,hab,hb,hf,d,e=>by
    rw [hF]
    by_cases hlt:((a:Nat):Int) < ((b:Nat):Int)
    · rw [if_pos hlt]
      by_cases hc':c (C0 l ((a+b) / 2) default) < 0
      · rw [if_pos hc']
        rw [hc] at hc'
        exact CL hF hc hs f _ _ e6 hb e6 (fun i hi=>Int.lt_of_le_of_lt (hs i ((a+b) / 2) e6 e6) hc') e
      · rw [if_neg hc']
        rw [hc] at hc'
        exact CL hF hc hs f _ _ e6 e6 e6 d (fun i hi hl=>Int.le_trans (Int.not_lt.1 hc') (hs ((a+b) / 2) i hi hl))
    · rw [if_neg hlt]
      exact⟨e6,d,fun i hi hl=>e i e6 hl⟩
theorem El (hF:∀ f a b,F (f+1) a b=if((a:Nat):Int) < ((b:Nat):Int) then(if c (C0 l ((a+b) / 2) default) < 0 then F f ((a+b) / 2+1) b else F f a ((a+b) / 2)) else a) (hc:∀ x,c x < 0↔key x < n) (he:∀ x,c x=0↔key x=n) (hs:R7 (fun a b=>key a < key b) l) {r:Int × Bool} (hr:(if((F ((l.length - 0)+1) 0 l.length:Nat):Int) < ((l.length:Nat):Int) then(((F ((l.length - 0)+1) 0 l.length:Nat):Int),decide (c (C0 l (F ((l.length - 0)+1) 0 l.length) default)=0)) else(((F ((l.length - 0)+1) 0 l.length:Nat):Int),false))=r):
    Sr l key n r:=by
  have at_:∀ i (hi:i < l.length),l[i]=C0 l i default:=fun i hi=>by rw [L4,s2 hi]; rfl
  have hm:∀ i j:Nat,i≤j→j < l.length→key (C0 l i default)≤key (C0 l j default):=fun i j hij hj=>by
    rcases Nat.lt_or_eq_of_le hij with d | rfl
    · have:=List.pairwise_iff_getElem.1 hs i j e6 hj d
      rw [at_,at_] at this; omega
    · exact Int.le_refl _
  obtain⟨hl,d,g⟩:=CL hF hc hm ((l.length - 0)+1) 0 l.length (Lg _) (o3 _) e6 (fun i hi=>by omega) (fun i hi hl=>by omega)
  generalize F ((l.length - 0)+1) 0 l.length=q at hr hl d g
  have k:D0 r.1=q:=by rw [← hr]; split <;> exact Int.toNat_natCast _
  unfold Sr
  rw [k]
  refine⟨fun h=> ?_,fun⟨x,hx,e⟩=> ?_,fun x hx=> ?_,fun x hx=> ?_⟩
  · rw [← hr] at h
    split at h
    · exact⟨e6,(he _).1 (of_decide_eq_true h)⟩
    · cases h
  · obtain⟨i,hi,rfl⟩:=V4.1 hx
    rw [at_ i hi] at e
    have hq:q≤i:=Nat.le_of_not_lt fun h=>by have:=d i h; omega
    have m:=g q (o3 _) e6
    have o:=hm q i hq hi
    rw [← hr,if_pos e6]
    exact decide_eq_true ((he _).2 e6)
  · obtain⟨i,hi,rfl⟩:=List.mem_take_iff_getElem.1 hx
    rw [at_ i e6]
    exact d i e6
  · obtain⟨i,hi,rfl⟩:=List.mem_drop_iff_getElem.1 hx
    rw [at_ (q+i) e6]
    exact g _ e6 e6
end
theorem GZ {l:List bH} {n:Nat} {r:Int × Bool} (hr:bM l n=r) (hs:R7 (· < ·) (s5 bH.aN l)):Sr l (fun d=>((d.aN:Nat):Int)) ((n:Nat):Int) r:=El (l:=l) (F:=dB l n) (key:=fun d=>((d.aN:Nat):Int)) (c:=fun d=>gP d.aN n) (n:=((n:Nat):Int)) (fun _ _ _=>rfl) (fun x=>by rw [yF]; omega) (fun x=>by rw [cmp_eq]; omega) ((V5.1 hs).imp fun h=>by omega) hr
theorem Hy {l:List dK} {n:Nat} {r:Int × Bool} (hr:bW l n=r) (hs:R7 (· < ·) (s5 dK.aR l)):Sr l (fun d=>((d.aR:Nat):Int)) ((n:Nat):Int) r:=El (l:=l) (F:=eP l n) (key:=fun d=>((d.aR:Nat):Int)) (c:=fun d=>gP d.aR n) (n:=((n:Nat):Int)) (fun _ _ _=>rfl) (fun x=>by rw [yF]; omega) (fun x=>by rw [cmp_eq]; omega) ((V5.1 hs).imp fun h=>by omega) hr
theorem Hz {l:List eD} {n:Int} {r:Int × Bool} (hr:fH l n=r) (hs:R7 (· < ·) (s5 eD.aK l)):Sr l eD.aK n r:=El (l:=l) (F:=fu l n) (key:=eD.aK) (c:=fun d=>cmp_Compare_int d.aK n) (n:=n) (fun _ _ _=>rfl) (fun x=>(Gh _ _).1) (fun x=>(Gh _ _).2) (V5.1 hs) hr
def lS (m:aA):Nat:=m.aa.av *4294967296+m.bP
structure Ya (y:dK):Prop where
  uh:1≤y.aM∧y.aM≤4
  Gv:Bt (gu y.aG.ls [])
  ops:y.bV.ls.length≤4∧∀ o ∈ y.bV.ls,o.bS≤4
  res:∀ q ∈ y.af.ls,Gk q.ls
structure Ok1 (m:aA):Prop where
  own:m.aa.ag.ls=OW
  sh:m.aa.au=2
  len:m.ay.ls.length+m.aa.aj.ls.length≤8
  sA:R7 (· < ·) (nA m)
  sD:R7 (· < ·) (nD m)
  ad:∀ x ∈ nA m,x ∉ nD m
  lA:∀ x ∈ nA m,x≤lS m
  lD:∀ x ∈ nD m,x≤lS m
  sL:R7 (· < ·) (s5 eD.aK m.aa.aF.ls)
  mH:∀ l ∈ m.aa.aF.ls,(1≤l.aK∧l.aK≤4)∧l.ai.ls.length≤4∧Gk l.ai.ls
  dec:∀ d ∈ m.aa.aj.ls,(1≤d.aK∧d.aK≤4)∧Bt d.au.ls
  act:∀ y ∈ m.ay.ls,Ya y
structure mR (m:aA):Prop extends Ok1 m where
  an:∀ c,1≤c∧c≤4→(ni m c).cO=true→(ni m c).dA=1→∃ l ∈ m.aa.aF.ls,l.aK=c∧l.aP=(ni m c).aS
structure Nk (k:Nat) (m:aA):Prop where
  lt:k≤1000
  bo:m.aa.av≤k+1
  bg:m.bP≤k
theorem mR.im {k:Nat} {m:aA} (h:mR m) (n:Nk k m):Im k m:=⟨by have:=n.lt; omega,by have:=n.bo; have:=n.lt; omega,n.bg,h.sA.imp Nat.le_of_lt,h.sD.imp Nat.le_of_lt,h.lA,h.lD⟩
structure Mo (m:aA) (x:bL):Prop where
  work:x.aD=3→x.aN≤lS m
  yes:x.aD=5→x.cz=true→x.aN ∈ nD m
  no:x.aD=5→x.cz=false→x.aN ∉ nA m∧x.aN ∉ nD m
  ans:x.aD=2→x.dz=1→∃ l ∈ m.aa.aF.ls,x.fI=10+l.aK∧l.aP=x.aP
structure Rl (m m':aA):Prop where
  bn:lS m≤lS m'
  dd:∀ n ∈ nD m,n ∈ nD m'
  dn:∀ n ∈ nD m',n ∈ nD m∨n ∈ nA m∨lS m < n
  an:∀ n ∈ nA m',n ∈ nA m∨lS m < n
theorem Rl.refl (m:aA):Rl m m:=⟨o3 _,fun _ h=>h,fun _ h=> .inl h,fun _ h=> .inl h⟩
structure Fs (k:Nat) (m:aA) (o:List bL) (m':aA):Prop where
  ok:mR m'
  nk:Nk (k+1) m'
  rl:Rl m m'
  mo:∀ x ∈ o,Mo m' x
theorem Nk.up {k:Nat} {m:aA} (n:Nk k m) (h:k+1≤1000):Nk (k+1) m:=⟨h,by have:=n.bo; omega,by have:=n.bg; omega⟩
theorem Fs.same {k:Nat} {m:aA} (h:mR m) (n:Nk k m) (hk:k+1≤1000) {o:List bL} (ho:∀ x ∈ o,Mo m x):Fs k m o m:=⟨h,n.up hk,Rl.refl m,ho⟩
theorem Ok1.of {m m':aA} (h:Ok1 m) (a:m'.aa=m.aa) (b:m'.ay.ls=m.ay.ls) (g:m'.bP=m.bP):Ok1 m':=by
  have d:nA m'=nA m:=by unfold nA; rw [b]
  have e:nD m'=nD m:=by unfold nD; rw [a]
  have f:lS m'=lS m:=by unfold lS; rw [a,g]
  exact⟨by rw [a]; exact h.own,by rw [a]; exact h.sh,by rw [a,b]; exact h.len,by rw [d]; exact h.sA,by rw [e]; exact h.sD,by rw [d,e]; exact h.ad,by rw [d,f]; exact h.lA,by rw [e,f]; exact h.lD,by rw [a]; exact h.sL,by rw [a]; exact h.mH,by rw [a]; exact h.dec,by rw [b]; exact h.act⟩
theorem Bu {p t:bI} {c:Int} {q:Nat} {k:Int} {l:List aQ} {m m':aA} (h:dC p c q k l m=(t,m')) (hc:1≤c∧c≤4) (H:Ok1 m) (hn:∀ d,1≤d∧d≤4→d≠c→(ni m d).cO=true→(ni m d).dA=1→∃ l ∈ m.aa.aF.ls,l.aK=d∧l.aP=(ni m d).aS) (hl:k=1→∃ l ∈ m.aa.aF.ls,l.aK=c∧l.aP=q):mR m'∧∃ x,t.aX.ls=p.aX.ls++ [x]∧x.aD=2∧x.fI=10+c∧x.aP=q∧x.dz=k:=by
  have ht:=mP h
  obtain⟨x,e,hk,hto,hr,hcd,hg,ho⟩:=Gb h hc
  refine⟨⟨H.of ht.1 ht.2.1 ht.2.2.1,fun d hd b a=> ?_⟩,x,e,hk,hto,hr,hcd⟩
  rw [ht.1]
  by_cases e:d=c
  · subst e; rw [hg.2.1]; exact hl (hg.2.2 ▸ a)
  · rw [ho d hd e] at b a ⊢; exact hn d hd e b a
theorem yK (m:aA) (i:Nat):nA (rE m i)=q7 i (nA m)++r3 (i+1) (nA m):=by simp only [nA,rE,v5,S5,S6]
theorem CO {m:aA} {i:Nat} (hi:i < m.ay.ls.length):(C0 m.ay.ls i default).aR ∈ nA m:=v4.2 ⟨_,qE hi,rfl⟩
theorem DF {m:aA} {i:Nat} (H:Ok1 m) (hi:i < m.ay.ls.length):(C0 m.ay.ls i default).aR ∉ nA (rE m i):=by
  have hl:i < (nA m).length:=by unfold nA; rw [s3]; exact hi
  have hg:(nA m)[i]=(C0 m.ay.ls i default).aR:=by
    simp only [nA,S7]
    rw [L4,s2 hi]; rfl
  have e:nA m=q7 i (nA m)++(nA m)[i]::r3 (i+1) (nA m):=by rw [← List.drop_eq_getElem_cons hl,s7]
  have h':=H.sA
  rw [e] at h'
  obtain⟨_,b,d⟩:=S1.1 h'
  rw [yK, ← hg]
  intro hm
  rcases v6.1 hm with a | a
  · exact V6 _ (d _ a _ b1)
  · exact V6 _ ((R9.1 b).1 _ a)
theorem Ok1.cut {m:aA} (h:Ok1 m) (i:Nat):Ok1 (rE m i):=by
  have hs:=nW (nA m) i
  rw [← yK] at hs
  exact⟨h.own,h.sh,by have:=(nW m.ay.ls i).length_le; have:=h.len; simp only [rE]; omega,h.sA.sublist hs,h.sD,fun x hx=>h.ad x (hs.subset hx),fun x hx=>h.lA x (hs.subset hx),h.lD,h.sL,h.mH,h.dec,fun y hy=>h.act y ((nW _ _).subset hy)⟩
structure Gr (m:aA) (o:List bL) (m':aA):Prop where
  ok:mR m'
  st:m'.aa=m.aa
  bg:m'.bP=m.bP
  na:∀ n ∈ nA m',n ∈ nA m
  mo:∀ x ∈ o,(x.aD=3→x.aN ∈ nA m)∧(x.aD=5→x.cz=false∧x.aN ∈ nA m∧x.aN ∉ nA m')∧(x.aD=2→x.dz≠1)
theorem Gr.trans {m d f:aA} {g i:List bL} (a:Gr m g d) (b:Gr d i f):Gr m (g++i) f:=
  ⟨b.ok,b.st.trans a.st,b.bg.trans a.bg,fun n h=>a.na n (b.na n h),fun x hx=>by
    rcases v6.1 hx with h | h
    · have k:=a.mo x h
      exact⟨k.1,fun e=>⟨(k.2.1 e).1,(k.2.1 e).2.1,fun h=>(k.2.1 e).2.2 (b.na _ h)⟩,k.2.2⟩
    · have k:=b.mo x h
      exact⟨fun e=>a.na _ (k.1 e),fun e=>⟨(k.2.1 e).1,a.na _ (k.2.1 e).2.1,(k.2.1 e).2.2⟩,k.2.2⟩⟩
theorem Gr.fs {k:Nat} {m m':aA} {o:List bL} (h:Gr m o m') (H:mR m) (n:Nk k m) (hk:k+1≤1000):Fs k m o m':=by
  have a:nD m'=nD m:=by unfold nD; rw [h.st]
  have b:lS m'=lS m:=by unfold lS; rw [h.st,h.bg]
  refine⟨h.ok,⟨hk,by rw [h.st]; have:=n.bo; omega,by rw [h.bg]; have:=n.bg; omega⟩,⟨V7 b.symm,fun x hx=>a ▸ hx,fun x hx=> .inl (a ▸ hx),fun x hx=> .inl (h.na x hx)⟩,fun x hx=> ?_⟩
  have k:=h.mo x hx
  exact⟨fun e=>(by rw [b]; exact H.lA _ (k.1 e)),fun e e'=>(by rw [(k.2.1 e).1] at e'; cases e'),fun e _=>⟨(k.2.1 e).2.2,(by rw [a]; exact H.ad _ (k.2.1 e).2.1)⟩,fun e e'=>absurd e' (k.2.2 e)⟩
theorem zV (n:Nat) (f:Bool):∀ (l:List Int) (o:List bL), ∃ q,ik n f l o=o++q∧∀ x ∈ q,x.aD=5∧x.aN=n∧x.cz=f
  | [],o=>⟨[],(s6 _).symm,fun x hx=>by cases hx⟩
  | s::l,o=>by
    simp only [ik,bnd]
    obtain⟨q,a,b⟩:=zV n f l (dw (bI.mk (E2 o)) (bL.mk 5 0 s 0 0 0 0 0 n 0 0 0 0 0 0 f (bC.mk [] []) (E2 []) (E2 []) (E2 []))).aX.ls
    refine⟨_::q,a.trans (q4 o [_] q),fun x hx=> ?_⟩
    rcases u9.1 hx with rfl | hx
    · exact⟨rfl,rfl,rfl⟩
    · exact b x hx
theorem xS {p t:bI} {i:Int} {m m':aA} (hi:D0 i < m.ay.ls.length) (h:fq p i m=(t,m')) (H:mR m):∃ o,t.aX.ls=p.aX.ls++o∧Gr m o m':=by
  unfold fq at h
  simp only [bnd] at h
  rcases e:dC p (C0 m.ay.ls (D0 i) default).aM (C0 m.ay.ls (D0 i) default).aS 2 [] (rE m (D0 i)) with ⟨f,g⟩
  have e':=e
  unfold rE at e'
  rw [e'] at h
  have ha:=mP e
  obtain⟨rfl,b⟩:=Prod.mk.inj h
  obtain rfl:=oG b (by rw [ha.1]; rfl) (by rw [ha.1]; rfl) (by rw [ha.1]; rfl) (by rw [ha.2.1]; rfl)
  obtain⟨K,x,ex,hk,_,_,hcd⟩:=Bu e (H.act _ (qE hi)).uh (H.cut _) (fun d hd _ a j=>H.an d hd a j) fun h=>absurd h f4
  obtain⟨q,eq,hq⟩:=zV (C0 m.ay.ls (D0 i) default).aR false (jM (C0 m.ay.ls (D0 i) default)) f.aX.ls
  have en:nA g=nA (rE m (D0 i)):=by unfold nA; rw [ha.2.1]
  refine⟨[x]++q,by unfold dZ; simp only [bnd]; exact eq.trans (by rw [ex,q4]),K,ha.1,ha.2.2.1,fun n hn=> ?_,fun y hy=> ?_⟩
  · rw [en,yK] at hn; exact(nW _ _).subset hn
  · rcases v6.1 hy with a | a
    · rw [m4.1 a,hk]; exact⟨fun h=>absurd h f4,fun h=>absurd h f4,fun _=>by rw [hcd]; decide⟩
    · obtain⟨k,k2,r⟩:=hq y a
      rw [k,k2,r]; exact⟨fun h=>absurd h f4,fun _=>⟨rfl,CO hi,en ▸ DF H.toOk1 hi⟩,fun h=>absurd h f4⟩
theorem mR.set {m:aA} (H:mR m) {i:Nat} {y:dK} (hn:y.aR=(C0 m.ay.ls i default).aR) (hy:Ya y):mR (oh m i y):=by
  have e:nA (oh m i y)=nA m:=vB hn
  exact⟨⟨H.own,H.sh,by simp only [oh,H1]; exact H.len,e ▸ H.sA,H.sD,e ▸ H.ad,e ▸ H.lA,H.lD,H.sL,H.mH,H.dec,fun z hz=>by
    rcases O0 hz with h | rfl
    · exact H.act z h
    · exact hy⟩,H.an⟩
theorem Ci {α:Type} [LT α] (ht:∀ {a b c:α},a < b→b < c→a < c) {L:List α} {r:Nat} {n:α} (hs:R7 (· < ·) L) (d:∀ x ∈ q7 r L,x < n) (e:∀ x ∈ r3 r L,n < x):R7 (· < ·) (q7 r L++n::r3 r L):=
  S1.2 ⟨hs.sublist (List.take_sublist _ _),R9.2 ⟨e,hs.sublist (List.drop_sublist _ _)⟩,fun a ha b hb=>by
    rcases u9.1 hb with rfl | hb
    · exact d a ha
    · exact ht (d a ha) (e b hb)⟩
theorem uS {α:Type} {L:List α} {r:Nat} {n x:α} (h:x ∈ q7 r L++n::r3 r L):x=n∨x ∈ L:=by
  rcases v6.1 h with h | h
  · exact .inr (List.mem_of_mem_take h)
  · rcases u9.1 h with h | h
    · exact .inl h
    · exact .inr (S2 h)
theorem Cj {α:Type} {L:List α} {r:Nat} {n x:α} (h:x ∈ L):x ∈ q7 r L++n::r3 r L:=by
  rw [← s7 r L] at h
  rcases v6.1 h with h | h
  · exact List.mem_append_left _ h
  · exact v2 _ (.tail _ h)
structure Ls (L0 L:List eD) (c:Int) (q:Nat):Prop where
  HY:R7 (· < ·) (s5 eD.aK L)
  ok:∀ l ∈ L,(1≤l.aK∧l.aK≤4)∧l.ai.ls.length≤4∧Gk l.ai.ls
  new:∃ l ∈ L,l.aK=c∧l.aP=q
  old:∀ l ∈ L0,l.aK≠c→l ∈ L
theorem Fb {a:List eD} {x:eD} {r:Int × Bool} (hr:fH a x.aK=r) (hs:R7 (· < ·) (s5 eD.aK a)) (b:∀ l ∈ a,(1≤l.aK∧l.aK≤4)∧l.ai.ls.length≤4∧Gk l.ai.ls) (hx:(1≤x.aK∧x.aK≤4)∧x.ai.ls.length≤4∧Gk x.ai.ls):(r.2=true→Ls a (u2 a (D0 r.1) x) x.aK x.aP)∧(¬ r.2=true→Ls a (q7 (D0 r.1) a++x::r3 (D0 r.1) a) x.aK x.aP):=by
  obtain⟨d,k2,f,g⟩:=Hz hr hs
  refine⟨fun h=> ?_,fun h=> ?_⟩
  · obtain⟨hl,he⟩:=d h
    have hm:s5 eD.aK (u2 a (D0 r.1) x)=s5 eD.aK a:=by
      rw [List.map_set]
      have:(s5 eD.aK a)[D0 r.1]'(by rw [s3]; exact hl)=x.aK:=by rw [S7, ← he,L4,s2 hl]; rfl
      rw [← this]; exact List.set_getElem_self _
    refine⟨hm ▸ hs,fun l hl'=> ?_,⟨x,D3 (List.getElem?_set_self hl),rfl,rfl⟩,fun l hl' hc=> ?_⟩
    · rcases O0 hl' with h | rfl
      · exact b l h
      · exact hx
    · obtain⟨j,hj,rfl⟩:=V4.1 hl'
      have hne:D0 r.1≠j:=fun e=>hc (by subst e; rw [← he,L4,s2 hl]; rfl)
      exact D3 (i:=j) (by rw [List.getElem?_set_ne hne,s2 hj])
  · refine⟨?_,fun l hl=> ?_,⟨x,v2 _ b1,rfl,rfl⟩,fun l hl _=>Cj hl⟩
    · have:=Ci (α:=Int) (r:=D0 r.1) (n:=x.aK) Int.lt_trans hs (fun y hy=>by
        rw [← S5] at hy
        obtain⟨z,hz,rfl⟩:=v4.1 hy
        exact f z hz) (fun y hy=>by
        rw [← S6] at hy
        obtain⟨z,hz,rfl⟩:=v4.1 hy
        exact Int.lt_iff_le_and_ne.2 ⟨g z hz,fun e=>h (k2 ⟨z,S2 hz,e.symm⟩)⟩)
      simp only [v5,t2,S5,S6]
      exact this
    · rcases uS hl with rfl | h
      · exact hx
      · exact b l h
theorem DI {k:Nat} {p t:bI} {i:Int} {m m':aA} (hi:D0 i < m.ay.ls.length) (h:jQ p i m=(t,m')) (H:mR m) (n:Nk k m) (hk:k+1≤1000):∃ o,t.aX.ls=p.aX.ls++o∧Fs k m o m':=by
  unfold jQ at h
  simp only [bnd,jM] at h
  have Y:=H.act _ (qE hi)
  have hnA:=CO hi
  have hnO:=DF H.toOk1 hi
  have hlA:=H.lA _ hnA
  have hAD:=H.ad _ hnA
  generalize hy:C0 m.ay.ls (D0 i) default=y at h Y hnA hnO hlA hAD
  rcases eg:lM y.bV.ls y.aG.ls y.af.ls with ⟨rs,ge⟩
  rw [eg] at h
  have hg:=DD eg Y.ops.2 Y.res
  rcases es:bM m.aa.aj.ls y.aR with ⟨j,oj⟩
  rcases el:fH m.aa.aF.ls y.aM with ⟨q,oq⟩
  rw [es,el] at h
  obtain⟨sl,hsl⟩:∃ sl,gu y.aG.ls []=sl:=⟨_,rfl⟩
  rw [hsl] at h
  have hsh:=Y.Gv
  rw [hsl] at hsh
  obtain⟨_,P,D,E⟩:=GZ es H.sD
  have go:∀ {L:List eD} {f:bI} {b:aA},dC p y.aM y.aS 1 rs (mZ m (D0 i) (D0 j) (bH.mk y.aR y.aM m.aa.av y.aS (E2 sl)) L)=(f,b)→Ls m.aa.aF.ls L y.aM y.aS→∃ o,(dZ f y.aR sl true).aX.ls=p.aX.ls++o∧Fs k m o b:=fun {L f b} e hL=>by
    have hA:nA (mZ m (D0 i) (D0 j) (bH.mk y.aR y.aM m.aa.av y.aS (E2 sl)) L)=nA (rE m (D0 i)):=rfl
    have hD:nD (mZ m (D0 i) (D0 j) (bH.mk y.aR y.aM m.aa.av y.aS (E2 sl)) L)=q7 (D0 j) (nD m)++y.aR::r3 (D0 j) (nD m):=by simp only [nD,mZ,v5,t2,S5,S6]
    have K:=H.toOk1.cut (D0 i)
    have G:Ok1 (mZ m (D0 i) (D0 j) (bH.mk y.aR y.aM m.aa.av y.aS (E2 sl)) L):=by
      refine⟨H.own,H.sh, ?_,K.sA, ?_, ?_,K.lA, ?_,hL.HY,hL.ok,fun d hd=> ?_,K.act⟩
      · have:=H.len; simp only [mZ,o1,List.length_take,List.length_drop,List.length_cons]; omega
      · rw [hD]
        refine Ci Nat.lt_trans H.sD (fun x hx=> ?_) (fun x hx=> ?_)
        · unfold nD at hx
          rw [← S5] at hx
          obtain⟨z,hz,rfl⟩:=v4.1 hx
          have:=D z hz; dsimp only at this; omega
        · have hx':=hx
          unfold nD at hx
          rw [← S6] at hx
          obtain⟨z,hz,rfl⟩:=v4.1 hx
          have u:=E z hz
          dsimp only at u
          have w:z.aN≠y.aR:=fun e=>hAD (e ▸ S2 hx')
          omega
      · intro x hx
        rw [hD]
        intro A
        rcases uS A with rfl | h
        · exact hnO hx
        · exact K.ad x hx h
      · intro x hx
        rw [hD] at hx
        rcases uS hx with rfl | h
        · exact hlA
        · exact H.lD x h
      · rcases uS hd with rfl | h
        · exact⟨Y.uh,hsh⟩
        · exact H.dec d h
    obtain⟨I,x,ex,s,hto,hrq,hcd⟩:=Bu e Y.uh G (fun d hd hne v J=>by
      obtain⟨l,hl,u,w⟩:=H.an d hd v J
      exact⟨l,hL.old l hl (by rw [u]; exact hne),u,w⟩) fun _=>hL.new
    have ha:=mP e
    have M:nA b=nA (rE m (D0 i)):=by unfold nA; rw [ha.2.1]; rfl
    have B:nD b=q7 (D0 j) (nD m)++y.aR::r3 (D0 j) (nD m):=by rw [← hD]; unfold nD; rw [ha.1]
    have N:lS b=lS m:=by unfold lS; rw [ha.1,ha.2.2.1]; rfl
    obtain⟨r,er,hr⟩:=zV y.aR true sl f.aX.ls
    refine⟨[x]++r,by unfold dZ; simp only [bnd]; exact er.trans (by rw [ex,q4]),I,⟨hk,by rw [ha.1]; have:=n.bo; show m.aa.av≤_; omega,by rw [ha.2.2.1]; have:=n.bg; show m.bP≤_; omega⟩,⟨V7 N.symm,fun x hx=>by rw [B]; exact Cj hx,fun x hx=> ?_,fun x hx=> ?_⟩,fun z hz=> ?_⟩
    · rw [B] at hx
      rcases uS hx with rfl | h
      · exact .inr (.inl hnA)
      · exact .inl h
    · rw [M,yK] at hx; exact .inl ((nW _ _).subset hx)
    · rcases v6.1 hz with v | v
      · rw [m4.1 v]
        refine⟨fun e=>absurd (s.symm.trans e) f4,fun e=>absurd (s.symm.trans e) f4,fun e=>absurd (s.symm.trans e) f4,fun _ _=> ?_⟩
        obtain⟨l,hl,u,w⟩:=hL.new
        exact⟨l,by rw [ha.1]; exact hl,by rw [hto,u],by rw [w,hrq]⟩
      · obtain⟨C,k2,O⟩:=hr z v
        refine⟨fun e=>absurd (C.symm.trans e) f4,fun _ _=> ?_,fun _ e=>absurd (O.symm.trans e) f4,fun e=>absurd (C.symm.trans e) f4⟩
        rw [k2,B]; exact v2 _ b1
  split at h
  · have hge:ge=0:=by assumption
    have hx:(1≤y.aM∧y.aM≤4)∧rs.length≤4∧Gk rs:=⟨Y.uh,Nat.le_trans hg.2 Y.ops.1,hg.1⟩
    have kl:=Fb (x:=eD.mk y.aM m.aa.av y.aS (E2 rs)) el H.sL H.mH hx
    split at h
    · rename_i hq
      rcases e:dC p y.aM y.aS 1 rs (mZ m (D0 i) (D0 j) (bH.mk y.aR y.aM m.aa.av y.aS (E2 sl)) (u2 m.aa.aF.ls (D0 q) (eD.mk y.aM m.aa.av y.aS (E2 rs)))) with ⟨f,b⟩
      have ha:=mP e
      have e':=e
      unfold mZ at e'
      rw [e'] at h
      obtain⟨rfl,a⟩:=Prod.mk.inj h
      obtain rfl:=oG a (by rw [ha.1]; rfl) (by rw [ha.1]; rfl) (by rw [ha.1]; rfl) (by rw [ha.2.1]; rfl)
      exact go e (kl.1 hq)
    · rename_i hq
      rcases e:dC p y.aM y.aS 1 rs (mZ m (D0 i) (D0 j) (bH.mk y.aR y.aM m.aa.av y.aS (E2 sl)) (q7 (D0 q) m.aa.aF.ls++((eD.mk y.aM m.aa.av y.aS (E2 rs))::r3 (D0 q) m.aa.aF.ls))) with ⟨f,b⟩
      have ha:=mP e
      have e':=e
      unfold mZ at e'
      rw [e'] at h
      obtain⟨rfl,a⟩:=Prod.mk.inj h
      obtain rfl:=oG a (by rw [ha.1]; rfl) (by rw [ha.1]; rfl) (by rw [ha.1]; rfl) (by rw [ha.2.1]; rfl)
      exact go e (kl.2 hq)
  · rcases e:fq p i m with ⟨f,b⟩
    rw [e] at h
    have ha:=qf hi e
    obtain⟨rfl,a⟩:=Prod.mk.inj h
    obtain rfl:=oG a (by rw [ha.1]) (by rw [ha.1]) (by rw [ha.1]) rfl
    obtain⟨o,eo,g⟩:=xS hi e H
    exact⟨o,eo,g.fs H n hk⟩
theorem Ff {k:Nat} {p t:bI} {x:bL} {m m':aA} (h:kg p x m=(t,m')) (H:mR m) (n:Nk k m) (hk:k+1≤1000) (hx:Gk x.ai.ls):∃ o,t.aX.ls=p.aX.ls++o∧Fs k m o m':=by
  have same:(p,m)=(t,m')→∃ o,t.aX.ls=p.aX.ls++o∧Fs k m o m':=fun h=>by
    obtain⟨rfl,rfl⟩:=Prod.mk.inj h
    exact⟨[],(s6 _).symm,Fs.same H n hk fun x hx=>by cases hx⟩
  unfold kg jh at h
  simp only [bnd] at h
  rcases ef:bW m.ay.ls x.aN with ⟨i,ok⟩
  rw [ef] at h
  split at h
  case isFalse=>exact same h
  rename_i hok
  have hi:=yG ef hok
  split at h
  · exact same h
  split at h
  · exact same h
  have ab:∀ {d:bI} {a:aA},fq p i m=(d,a)→(d,aA.mk (cZ.mk a.aa.au a.aa.av a.aa.aV a.aa.aL (E2 m.aa.ag.ls) (E2 m.aa.aj.ls) (E2 m.aa.aF.ls)) a.bP (E2 a.ay.ls) a.bK a.bA a.bz a.bv a.bq a.dP a.dH a.dI a.dG a.dJ)=(t,m')→∃ o,t.aX.ls=p.aX.ls++o∧Fs k m o m':=fun e h=>by
    have ha:=qf hi e
    obtain⟨rfl,b⟩:=Prod.mk.inj h
    obtain rfl:=oG b (by rw [ha.1]) (by rw [ha.1]) (by rw [ha.1]) rfl
    obtain⟨o,eo,g⟩:=xS hi e H
    exact⟨o,eo,g.fs H n hk⟩
  split at h
  · have Y:=H.act _ (qE hi)
    obtain⟨y,hy⟩:∃ y,y=dK.mk (C0 m.ay.ls (D0 i) default).aR (C0 m.ay.ls (D0 i) default).aM (C0 m.ay.ls (D0 i) default).aS (C0 m.ay.ls (D0 i) default).dh (E2 (C0 m.ay.ls (D0 i) default).bV.ls) (E2 (C0 m.ay.ls (D0 i) default).aG.ls) (E2 (u2 (C0 m.ay.ls (D0 i) default).bD.ls (D0 (gT (C0 m.ay.ls (D0 i) default).aG.ls x)) true)) (E2 (u2 (C0 m.ay.ls (D0 i) default).af.ls (D0 (gT (C0 m.ay.ls (D0 i) default).aG.ls x)) (E2 x.ai.ls))) (C0 m.ay.ls (D0 i) default).eO:=⟨_,rfl⟩
    rw [← hy] at h
    have hn:y.aR=(C0 m.ay.ls (D0 i) default).aR:=by rw [hy]
    have Y':Ya y:=by
      rw [hy]
      exact⟨Y.uh,Y.Gv,Y.ops,fun q hq=>by
        rcases O0 hq with j | rfl
        · exact Y.res q j
        · exact hx⟩
    have K:=H.set hn Y'
    have nS:Nk k (oh m (D0 i) y):=⟨n.lt,n.bo,n.bg⟩
    have f:nA (oh m (D0 i) y)=nA m:=vB hn
    split at h
    · split at h
      · obtain⟨rfl,rfl⟩:=Prod.mk.inj h
        exact⟨[],(s6 _).symm,K,nS.up hk,⟨o3 _,fun _ h=>h,fun _ h=> .inl h,fun z hz=> .inl (by rw [← f]; exact hz)⟩,fun x hx=>by cases hx⟩
      · rcases e:jQ p i (oh m (D0 i) y) with ⟨d,a⟩
        have e':=e
        unfold oh at e'
        rw [e'] at h
        have hl:D0 i < (oh m (D0 i) y).ay.ls.length:=by unfold oh; simp only [H1]; exact hi
        have hc:=xx hl e
        obtain⟨rfl,b⟩:=Prod.mk.inj h
        obtain rfl:=oG b (by rw [hc.1.own]; rfl) rfl rfl rfl
        obtain⟨o,eo,F⟩:=DI hl e K nS hk
        exact⟨o,eo,F.ok,F.nk,⟨F.rl.bn,F.rl.dd,fun z hz=>by rw [← f]; exact F.rl.dn z hz,fun z hz=>by rw [← f]; exact F.rl.an z hz⟩,F.mo⟩
    · rcases e:fq p i m with ⟨d,a⟩
      rw [e] at h; exact ab e h
  · rcases e:fq p i m with ⟨d,a⟩
    rw [e] at h; exact ab e h
theorem Ck (p:bI) (n:Nat) (l:List Int) (f:Bool):∃ q,(dZ p n l f).aX.ls=p.aX.ls++q∧∀ x ∈ q,x.aD=5∧x.aN=n∧x.cz=f:=by
  unfold dZ; simp only [bnd]; exact zV n f l p.aX.ls
theorem Gi {k:Nat} (p:bI) (x:bL) {m:aA} (H:mR m) (n:Nk k m) (hk:k+1≤1000):∃ o,(lH p x m).aX.ls=p.aX.ls++o∧Fs k m o m:=by
  unfold lH
  simp only [bnd]
  rcases ed:bM m.aa.aj.ls x.aN with ⟨i,d⟩
  rcases ea:bW m.ay.ls x.aN with ⟨j,a⟩
  obtain⟨h,r,_,_⟩:=GZ ed H.sD
  obtain⟨_,s,_,_⟩:=Hy ea H.sA
  dsimp only at h r s ⊢
  obtain⟨q,eq,hq⟩:=Ck p x.aN [x.aJ] d
  have go:(d=true∨a=false)→∃ o,(dZ p x.aN [x.aJ] d).aX.ls=p.aX.ls++o∧Fs k m o m:=fun hd=>⟨q,eq,Fs.same H n hk fun y hy=>by
    obtain⟨t,k2,u⟩:=hq y hy
    refine⟨fun e=>absurd (t.symm.trans e) f4,fun _ e=> ?_,fun _ e=> ?_,fun e=>absurd (t.symm.trans e) f4⟩
    · obtain⟨hl,he⟩:=h (u.symm.trans e)
      rw [k2]
      exact v4.2 ⟨_,qE hl,Int.ofNat.inj he⟩
    · have b:d=false:=u.symm.trans e
      have f:a=false:=hd.resolve_left (by rw [b]; decide)
      rw [k2]
      refine⟨fun hm=> ?_,fun hm=> ?_⟩
      · obtain⟨z,hz,ez⟩:=v4.1 hm
        exact absurd (s ⟨z,hz,by rw [ez]⟩) (by rw [f]; decide)
      · obtain⟨z,hz,ez⟩:=v4.1 hm
        exact absurd (r ⟨z,hz,by rw [ez]⟩) (by rw [b]; decide)⟩
  split
  · rename_i g; exact go (.inl g)
  · split
    · exact⟨[],(s6 _).symm,Fs.same H n hk fun x hx=>by cases hx⟩
    · rename_i g; exact go (.inr (Bool.eq_false_iff.2 g))
theorem Ok1.bu {k:Nat} {m:aA} (H:mR m) (n:Nk k m):mR (p8 m)∧lS (p8 m)=lS m+1∧(p8 m).bP=m.bP+1:=by
  have e:=CE (H.im n)
  have a:lS (p8 m)=lS m+1:=by unfold lS; rw [show (p8 m).aa=m.aa from rfl,e]; omega
  exact⟨⟨⟨H.own,H.sh,H.len,H.sA,H.sD,H.ad,fun x hx=>by rw [a]; exact S3 (H.lA x hx),fun x hx=>by rw [a]; exact S3 (H.lD x hx),H.sL,H.mH,H.dec,H.act⟩,H.an⟩,a,e⟩
theorem Em {k:Nat} {p t:bI} {c:Int} {x:bL} {m m':aA} (h:dQ p c x m=(t,m')) (hc:1≤c∧c≤4) (H:mR m) (n:Nk k m) (hk:k+1≤1000):∃ o,t.aX.ls=p.aX.ls++o∧Fs k m o m':=by
  unfold dQ at h
  simp only [bnd] at h
  obtain⟨B,eb,ebg⟩:=Ok1.bu H n
  rcases ec:lF m.aa.ag.ls x.aH.ls with ⟨ps,e⟩
  rw [ec] at h
  rw [H.own] at ec
  have no:∀ {j:bI} {f:aA},dC p c x.aP 2 [] (p8 m)=(j,f)→(j,aA.mk (cZ.mk f.aa.au f.aa.av f.aa.aV f.aa.aL (E2 m.aa.ag.ls) (E2 m.aa.aj.ls) (E2 m.aa.aF.ls)) f.bP (E2 m.ay.ls) f.bK f.bA f.bz f.bv f.bq f.dP f.dH f.dI f.dG f.dJ)=(t,m')→∃ o,t.aX.ls=p.aX.ls++o∧Fs k m o m':=fun {j f} e h=>by
    have ha:=mP e
    obtain⟨rfl,s⟩:=Prod.mk.inj h
    obtain rfl:=oG s (by rw [ha.1]; rfl) (by rw [ha.1]; rfl) (by rw [ha.1]; rfl) (by rw [ha.2.1]; rfl)
    obtain⟨K,z,ez,hz,_,_,hcd⟩:=Bu e hc B.toOk1 (fun d hd _ g u=>B.an d hd g u) fun h=>absurd h f4
    have i:nA f=nA m:=by unfold nA; rw [ha.2.1]; rfl
    have w:nD f=nD m:=by unfold nD; rw [ha.1]; rfl
    have A:lS f=lS m+1:=by rw [← eb]; unfold lS; rw [ha.1,ha.2.2.1]
    refine⟨[z],ez,K,⟨hk,by rw [ha.1]; have:=n.bo; show m.aa.av≤_; omega,by rw [ha.2.2.1,ebg]; have:=n.bg; omega⟩,⟨by rw [A]; exact Nat.le_succ _,fun x hx=>by rw [w]; exact hx,fun x hx=> .inl (by rw [← w]; exact hx),fun x hx=> .inl (by rw [← i]; exact hx)⟩,fun y hy=> ?_⟩
    rw [m4.1 hy]
    exact⟨fun e=>absurd (hz.symm.trans e) f4,fun e=>absurd (hz.symm.trans e) f4,fun e=>absurd (hz.symm.trans e) f4,fun _ e=>absurd (hcd.symm.trans e) f4⟩
  rcases i:dC p c x.aP 2 [] (p8 m) with ⟨j,f⟩
  have e':=i
  unfold p8 at e'
  rw [e'] at h
  split at h
  · exact no i h
  split at h
  · exact no i h
  split at h
  · exact no i h
  split at h
  · rename_i E G _ C
    obtain⟨q,eq,hq⟩:=yH c x m (fT m) ps ps 0 p.aX.ls
    obtain⟨rfl,rfl⟩:=Prod.mk.inj h
    have hnx:fT m=lS m+1:=wJ (H.im n)
    have hcs:=Gg ec C
    have Y:Ya (dK.mk (fT m) c x.aP m.aa.aL (E2 x.aH.ls) (E2 ps) (E2 (r6 (r8 ps) false)) (E2 (r6 (r8 ps) (E2 []:Ll aQ))) 0):=⟨hc,hcs.1,hcs.2,fun q hq=>by rw [(List.mem_replicate.1 hq).2]; intro x hx; cases hx⟩
    have r:nA (zC m (dK.mk (fT m) c x.aP m.aa.aL (E2 x.aH.ls) (E2 ps) (E2 (r6 (r8 ps) false)) (E2 (r6 (r8 ps) (E2 []:Ll aQ))) 0))=nA m++ [lS m+1]:=by
      show s5 dK.aR (m.ay.ls++ [_])=_
      rw [v5,t2,List.map_nil]; show _++ [fT m]=_; rw [hnx]; rfl
    have K:mR (zC m (dK.mk (fT m) c x.aP m.aa.aL (E2 x.aH.ls) (E2 ps) (E2 (r6 (r8 ps) false)) (E2 (r6 (r8 ps) (E2 []:Ll aQ))) 0)):=by
      refine⟨⟨H.own,H.sh, ?_, ?_,H.sD, ?_, ?_,B.lD,H.sL,H.mH,H.dec,fun y hy=> ?_⟩,H.an⟩
      · show r8 (m.ay.ls++ [_])+_≤8
        rw [o1,List.length_singleton]; show _+m.aa.aj.ls.length≤8; omega
      · rw [r]
        refine S1.2 ⟨H.sA,List.pairwise_singleton _ _,fun a ha b hb=> ?_⟩
        rw [m4.1 hb]; exact Nat.lt_succ_of_le (H.lA a ha)
      · rw [r]; intro z hz
        rcases v6.1 hz with g | g
        · exact H.ad z g
        · rw [m4.1 g]; exact fun u=>V6 _ (H.lD _ u)
      · rw [r]; intro z hz
        show z≤lS (p8 m)
        rw [eb]
        rcases v6.1 hz with g | g
        · exact S3 (H.lA z g)
        · rw [m4.1 g]; exact o3 _
      · rcases v6.1 hy with g | g
        · exact H.act y g
        · rw [m4.1 g]; exact Y
    refine⟨q,eq,K,⟨hk,by have:=n.bo; show m.aa.av≤_; omega,by show (p8 m).bP≤_; rw [ebg]; have:=n.bg; omega⟩,⟨by show lS m≤lS (p8 m); rw [eb]; exact Nat.le_succ _,fun _ h=>h,fun _ h=> .inl h,fun z hz=> ?_⟩,fun z hz=> ?_⟩
    · have hz':z ∈ nA m++ [lS m+1]:=r ▸ hz
      rcases v6.1 hz' with g | g
      · exact .inl g
      · rw [m4.1 g]; exact .inr (Nat.lt_succ_self _)
    · obtain⟨v,_,D⟩:=hq z hz
      exact⟨fun _=>(by rw [D,hnx, ← eb]; exact o3 _),fun e=>absurd (v.symm.trans e) f4,fun e=>absurd (v.symm.trans e) f4,fun e=>absurd (v.symm.trans e) f4⟩
  · exact no i h
theorem DJ (p:bI) (c:Int) (x:bL) (m:aA):∀ l:List eD,(dW p c x m l= .inl ())∨∃ t z y,dW p c x m l= .inr t∧t.aX.ls=p.aX.ls++ [z]∧z.aD=2∧z.fI=IntKind.i64.wrap (10+c)∧z.aP=x.aP∧y ∈ l∧y.aK=c∧y.aP=x.aP
  | []=> .inl rfl
  | y::l=>by
    simp only [dW,bnd]
    have ih:(dW p c x m l= .inl ())∨∃ t z y',dW p c x m l= .inr t∧t.aX.ls=p.aX.ls++ [z]∧z.aD=2∧z.fI=IntKind.i64.wrap (10+c)∧z.aP=x.aP∧y' ∈ y::l∧y'.aK=c∧y'.aP=x.aP:=by
      rcases DJ p c x m l with h | ⟨t,z,y',a,b,d,e,f,g,i⟩
      · exact .inl h
      · exact .inr ⟨t,z,y',a,b,d,e,f, .tail _ g,i⟩
    split
    · split
      · split
        · exact .inr ⟨_,_,y,rfl,rfl,rfl,rfl,rfl, .head _,f5,e6⟩
        · exact ih
      · exact ih
    · exact ih
theorem CP {k:Nat} {p t:bI} {x:bL} {m m':aA} (h:ji p x m=(t,m')) (hf:11≤x.aJ∧x.aJ≤14) (H:mR m) (n:Nk k m) (hk:k+1≤1000):∃ o,t.aX.ls=p.aX.ls++o∧Fs k m o m':=by
  unfold ji at h
  simp only [bnd] at h
  have one:∀ {z:bL},z.aD=2→(z.dz=1→∃ l ∈ m.aa.aF.ls,z.fI=10+l.aK∧l.aP=z.aP)→∀ y ∈ [z],Mo m y:=fun {z} hz hl y hy=>by
    rw [m4.1 hy]
    exact⟨fun e=>absurd (hz.symm.trans e) f4,fun e=>absurd (hz.symm.trans e) f4,fun e=>absurd (hz.symm.trans e) f4,fun _=>hl⟩
  have sa:(p,m)=(t,m')→∃ o,t.aX.ls=p.aX.ls++o∧Fs k m o m':=fun h=>by
    obtain⟨rfl,rfl⟩:=Prod.mk.inj h
    exact⟨[],(s6 _).symm,Fs.same H n hk fun x hx=>by cases hx⟩
  have sn:∀ y,(dw p y,m)=(t,m')→y.aD=2→y.fI=10+(x.aJ - 10)→(ni m (x.aJ - 10)).cO=true→y.aP=(ni m (x.aJ - 10)).aS→y.dz=(ni m (x.aJ - 10)).dA→∃ o,t.aX.ls=p.aX.ls++o∧Fs k m o m':=fun y h hy f g i j=>by
    obtain⟨rfl,rfl⟩:=Prod.mk.inj h
    refine⟨[_],rfl,Fs.same H n hk (one hy fun e=> ?_)⟩
    obtain⟨l,hl,q,r⟩:=H.an (x.aJ - 10) e6 g (j.symm.trans e)
    exact⟨l,hl,by rw [q]; exact f,r.trans i.symm⟩
  have be:((dQ p (x.aJ - 10) x m).1,(dQ p (x.aJ - 10) x m).2)=(t,m')→∃ o,t.aX.ls=p.aX.ls++o∧Fs k m o m':=fun h=>Em (show dQ p (x.aJ - 10) x m=(t,m') from h) e6 H n hk
  have ca:∀ {a:df},ni m (x.aJ - 10)=a→(if a.cO=true then if((a.aS:Nat):Int) ≥ ((x.aP:Nat):Int) then if((a.aS:Nat):Int)=((x.aP:Nat):Int) then(dw p (bL.mk 2 0 (10+(x.aJ - 10)) 0 a.dA 0 a.aS m.aa.av 0 0 0 0 0 0 0 false (bC.mk ([]) ([])) (E2 ([])) (E2 a.af.ls) (E2 ([]))),m) else(p,m) else((dQ p (x.aJ - 10) x m).1,(dQ p (x.aJ - 10) x m).2) else((dQ p (x.aJ - 10) x m).1,(dQ p (x.aJ - 10) x m).2))=(t,m')→∃ o,t.aX.ls=p.aX.ls++o∧Fs k m o m':=fun {a} ea h=>by
    split at h
    · rename_i hg
      split at h
      · split at h
        · exact sn _ h rfl rfl (by rw [ea]; exact hg) (by rw [ea]) (by rw [ea])
        · exact sa h
      · exact be h
    · exact be h
  split at h
  · split at h
    · exact sa h
    split at h
    · rename_i hc; exact ca (if_pos hc) h
    rename_i b
    split at h
    · rename_i hc; exact ca ((if_neg b).trans (if_pos hc)) h
    rename_i d
    split at h
    · rename_i hc; exact ca ((if_neg b).trans ((if_neg d).trans (if_pos hc))) h
    · rename_i hc; exact ca ((if_neg b).trans ((if_neg d).trans (if_neg hc))) h
  · obtain⟨rfl,rfl⟩:=Prod.mk.inj h
    unfold kZ
    rcases DJ p (x.aJ - 10) x m m.aa.aF.ls with h | ⟨t,z,y,f,g,i,j,s,u,v,w⟩
    · rw [nT h]
      exact⟨[_],rfl,Fs.same H n hk (one rfl fun e=>absurd (show (2:Int)=1 from e) f4)⟩
    · rw [jm f]
      refine⟨[z],g,Fs.same H n hk (one i fun _=>⟨y,u, ?_,w.trans s.symm⟩)⟩
      rw [j,v,Lf _ e6]
theorem Fg {k:Nat} {p t:bI} {x:bL} {m m':aA} (h:iR p x m=(t,m')) (hx:Eh x) (hg:Gk x.ai.ls) (r:x.aD≠6) (H:mR m) (n:Nk k m) (hk:k+1≤1000):∃ o,t.aX.ls=p.aX.ls++o∧Fs k m o m':=by
  unfold iR at h
  simp only [bnd] at h
  split at h
  · rename_i d
    exact CP (show ji p x m=(t,m') from h) (hx.sU d) H n hk
  split at h
  · exact Ff (show kg p x m=(t,m') from h) H n hk hg
  split at h
  · obtain⟨rfl,rfl⟩:=Prod.mk.inj h
    exact Gi p x H n hk
  have mp:∀ {a:aA},(p,a)=(t,m')→a.aa=m.aa→a.ay.ls=m.ay.ls→a.bP=m.bP→(∀ c,ni a c=ni m c)→∃ o,t.aX.ls=p.aX.ls++o∧Fs k m o m':=fun {a} h b f e i=>by
    obtain⟨rfl,rfl⟩:=Prod.mk.inj h
    have j:nA a=nA m:=by unfold nA; rw [f]
    have g:nD a=nD m:=by unfold nD; rw [b]
    have q:lS a=lS m:=by unfold lS; rw [b,e]
    exact⟨[],(s6 _).symm,⟨H.toOk1.of b f e,fun c=>by rw [i,b]; exact H.an c⟩,⟨hk,by rw [b]; have:=n.bo; omega,by rw [e]; have:=n.bg; omega⟩,⟨V7 q.symm,fun x hx=>by rw [g]; exact hx,fun x hx=> .inl (by rw [← g]; exact hx),fun x hx=> .inl (by rw [← j]; exact hx)⟩,fun x hx=>by cases hx⟩
  split at h
  · split at h
    · exact mp h rfl rfl rfl fun _=>rfl
    split at h
    · exact mp h rfl rfl rfl fun _=>rfl
    split at h
    · exact mp h rfl rfl rfl fun _=>rfl
    · exact mp h rfl rfl rfl fun _=>rfl
  split at h
  · exact mp h rfl rfl rfl fun _=>rfl
  split at h
  · exact mp h rfl rfl rfl fun _=>rfl
  · exact mp h rfl rfl rfl fun _=>rfl
end Go.Proofs.YtbkagebjhbphaaaGreat
