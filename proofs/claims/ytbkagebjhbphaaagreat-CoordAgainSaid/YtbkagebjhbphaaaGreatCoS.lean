/-
  What a step does to the coordinator: what stays, which numbers there are, which Low is told. Conditions: none beyond each law's own.
-/
import Derived.Test.YtbkagebjhbphaaaGreatCh
import Derived.Test.YtbkagebjhbphaaaGreatCi
import Derived.Test.YtbkagebjhbphaaaGreatCj
namespace Go.Proofs.YtbkagebjhbphaaaGreat
open Int renaming toNat→D2,toNat_natCast→J9
open IntKind renaming i64→C7
open List renaming Pairwise→Q1,Sublist→Q8,append_assoc→q7,append_nil→s9,drop→r6,getD→C2,getD_eq_getElem?_getD→K3,getElem?_eq_getElem→s5,getElem?_set_self→S1,getElem_map→R7,length→s2,length_append→p5,length_cons→s3,length_drop→p4,length_map→s6,length_set→H6,length_take→p3,map→s8,map_append→v7,map_drop→R6,map_take→Q9,mem_append→v8,mem_cons→v2,mem_of_getElem?→E0,mem_of_mem_drop→Q6,mem_of_mem_take→G2,mem_or_eq_of_mem_set→N0,mem_singleton→m4,pairwise_append→Q5,pairwise_cons→Q3,set→u5,set_eq_of_length_le→S0,set_getElem_self→R9,take→r5
open Ll renaming mk→E4
open Nat renaming le_refl→m5,le_succ→R8,le_succ_of_le→Q7,le_trans→K2,min_le_right→Q2,succ_le_succ→Q4
set_option linter.unusedVariables false
set_option linter.unusedSimpArgs false
def Lw:Nat→Nat→List bQ→Prop
  | a,b, []=>a≤b
  | a,b,x::r=>if x.aH=3 then a≤x.dW∧x.dW≤x.bi∧Lw x.dW b r else Lw a b r
theorem Lw.app {b c:Nat} {r:List bQ} (d:Lw b c r):∀ {l:List bQ} {a:Nat},Lw a b l→Lw a c (l++r)
  | [],a,h=>by
    revert a
    induction r generalizing b with
    | nil=>exact fun a h=>K2 h d
    | cons x r ih=>
      intro a h
      simp only [List.nil_append,Lw] at h d ⊢
      by_cases e:x.aH=3
      · rw [if_pos e] at d ⊢; exact⟨K2 h d.1,d.2⟩
      · rw [if_neg e] at d ⊢; exact ih d a h
  | x::l,a,h=>by
    simp only [List.cons_append,Lw] at h ⊢
    by_cases e:x.aH=3
    · rw [if_pos e] at h ⊢; exact⟨h.1,h.2.1,Lw.app d h.2.2⟩
    · rw [if_neg e] at h ⊢; exact Lw.app d h
theorem Ip {a b:Nat} (hab:a≤b):∀ {l:List bQ},(∀ x ∈ l,x.aH≠3)→Lw a b l
  | [],_=>hab
  | x::l,h=>by unfold Lw; rw [if_neg (h x b1)]; exact Ip hab fun y hy=>h y (.tail _ hy)
def hdN (n:Nat):List Nat→Nat
  | []=>n
  | x::_=>min n x
def rY (b g:Nat) (A D:List Nat):Nat:=hdN (hdN (b *4294967296+g+1) A) D
structure Iv (k b g:Nat) (A D:List Nat):Prop where
  bt:b < 2147483648
  bg:g≤k
  sA:Q1 (· ≤ ·) A
  sD:Q1 (· ≤ ·) D
  lA:∀ x ∈ A,x≤b *4294967296+g
  lD:∀ x ∈ D,x≤b *4294967296+g
theorem Aa (n:Nat) (l:List Nat):hdN n l≤n:=by cases l with
  | nil=>exact m5 _
  | cons x l=>exact Nat.min_le_left _ _
theorem Bi {n:Nat} {l:List Nat} (h:Q1 (· ≤ ·) l):∀ x ∈ l,hdN n l≤x:=by cases l with
  | nil=>intro x hx; cases hx
  | cons y l=>
    intro x hx
    refine K2 (Q2 _ _) ?_
    rcases v2.1 hx with rfl | hx
    · exact m5 _
    · exact(Q3.1 h).1 x hx
theorem Cs {a n:Nat} {l:List Nat} (h:a≤n) (hl:∀ x ∈ l,a≤x):a≤hdN n l:=by cases l with
  | nil=>exact h
  | cons y l=>exact Nat.le_min.2 ⟨h,hl y b1⟩
section
variable {k b g:Nat} {A D:List Nat}
theorem Iv.le (h:Iv k b g A D):(∀ x ∈ A,rY b g A D≤x)∧(∀ x ∈ D,rY b g A D≤x)∧rY b g A D≤b *4294967296+g+1:=
  ⟨fun x hx=>K2 (Aa _ _) (Bi h.sA x hx),Bi h.sD,K2 (Aa _ _) (Aa _ _)⟩
theorem zi {a:Nat} (h:a≤b *4294967296+g+1) (hA:∀ x ∈ A,a≤x) (hD:∀ x ∈ D,a≤x):a≤rY b g A D:=Cs (Cs h hA) hD
theorem Iv.mono {j:Nat} (h:Iv k b g A D) (hj:k≤j):Iv j b g A D:=⟨h.bt,K2 h.bg hj,h.sA,h.sD,h.lA,h.lD⟩
theorem Iv.sub {A' D':List Nat} (h:Iv k b g A D) (hA:A'.Sublist A) (hD:D'.Sublist D):Iv k b g A' D'∧rY b g A D≤rY b g A' D':=
  ⟨⟨h.bt,h.bg,h.sA.sublist hA,h.sD.sublist hD,fun x hx=>h.lA x (hA.subset hx),fun x hx=>h.lD x (hD.subset hx)⟩,zi h.le.2.2 (fun x hx=>h.le.1 x (hA.subset hx)) (fun x hx=>h.le.2.1 x (hD.subset hx))⟩
theorem Iv.more (h:Iv k b g A D):Iv (k+1) b (g+1) (A++ [b *4294967296+g+1]) D∧Iv (k+1) b (g+1) A D∧rY b g A D≤rY b (g+1) (A++ [b *4294967296+g+1]) D∧rY b g A D≤rY b (g+1) A D:=by
  have hle:=h.le
  refine⟨⟨h.bt,Q4 h.bg,Q5.2 ⟨h.sA,List.pairwise_singleton _ _,fun x hx y hy=> ?_⟩,h.sD,fun x hx=> ?_,fun x hx=>K2 (h.lD x hx) e6⟩,⟨h.bt,Q4 h.bg,h.sA,h.sD,fun x hx=>K2 (h.lA x hx) e6,fun x hx=>K2 (h.lD x hx) e6⟩,zi e6 (fun x hx=> ?_) hle.2.1,zi e6 hle.1 hle.2.1⟩
  · have a:=h.lA x hx; have c:=m4.1 hy; omega
  · rcases v8.1 hx with a | a
    · have:=h.lA x a; omega
    · have:=m4.1 a; omega
  · rcases v8.1 hx with a | a
    · exact hle.1 x a
    · rw [m4.1 a]; exact hle.2.2
theorem Iv.ins {i n:Nat} (h:Iv k b g A D) (hn:n≤b *4294967296+g) (c:∀ x ∈ D.take i,x≤n) (d:∀ x ∈ D.drop i,n≤x) (hl:rY b g A D≤n) (A':List Nat) (hA:A'.Sublist A):Iv k b g A' (D.take i++n::D.drop i)∧rY b g A D≤rY b g A' (D.take i++n::D.drop i):=by
  have hm:∀ x ∈ D.take i++n::D.drop i,x=n∨x ∈ D:=fun x hx=>by
    rcases v8.1 hx with a | a
    · exact .inr (G2 a)
    · rcases v2.1 a with a | a
      · exact .inl a
      · exact .inr (Q6 a)
  refine⟨⟨h.bt,h.bg,h.sA.sublist hA,Q5.2 ⟨h.sD.sublist (List.take_sublist _ _),Q3.2 ⟨d,h.sD.sublist (List.drop_sublist _ _)⟩,fun x hx y hy=> ?_⟩,fun x hx=>h.lA x (hA.subset hx),fun x hx=> ?_⟩,zi h.le.2.2 (fun x hx=>h.le.1 x (hA.subset hx)) (fun x hx=> ?_)⟩
  · rcases v2.1 hy with rfl | hy
    · exact c x hx
    · exact K2 (c x hx) (d y hy)
  · rcases hm x hx with rfl | a
    · exact hn
    · exact h.lD x a
  · rcases hm x hx with rfl | a
    · exact hl
    · exact h.le.2.1 x a
end
def nA (m:aB):List Nat:=s8 dE.aX m.ak.ls
def nD (m:aB):List Nat:=s8 bM.bi m.aa.aj.ls
def lo (m:aB):Nat:=rY m.aa.ax m.bI (nA m) (nD m)
def Im (k:Nat) (m:aB):Prop:=k≤1000000∧Iv k m.aa.ax m.bI (nA m) (nD m)
theorem yP {k:Nat} {m:aB} (h:Im k m):gP m=m.aa.ax *4294967296+m.bI+1:=by
  have d:=h.2.bt
  have e:=h.2.bg
  have f:=h.1
  have a:fD m.aa.ax 32=m.aa.ax *4294967296:=by unfold fD; rw [show min 32 64=32 from rfl,show ((2:Int) ^ 32)=4294967296 from rfl,IntWalk.u64_in _ e6]; omega
  have c:IntKind.u64.wrap (((m.aa.ax *4294967296:Nat):Int)+((m.bI:Nat):Int))=((m.aa.ax *4294967296+m.bI:Nat):Int):=by rw [IntWalk.u64_in _ e6]; omega
  unfold gP
  rw [a,c,J9,IntWalk.u64_in _ e6]
  omega
theorem Bj {α:Type} [Inhabited α] (f:α→Nat) (N:Nat) (A:List α):(if((s2 A:Nat):Int) > 0 then bnd (C2 A 0 default) fun y=>min N (f y) else N)=hdN N (s8 f A):=by
  cases A with
  | nil=>exact if_neg (by simp only [List.length_nil]; omega)
  | cons a A=>exact if_pos (by simp only [s3]; omega)
def Df (N:Nat) (a:aB):Nat:=bnd N fun y=>bnd (if((s2 a.ak.ls:Nat):Int) > 0 then bnd (C2 a.ak.ls 0 default) fun x=>min y x.aX else y) fun s=>if((s2 a.aa.aj.ls:Nat):Int) > 0 then bnd (C2 a.aa.aj.ls 0 default) fun x=>min s x.bi else s
theorem DZ (N:Nat) (m:aB):Df N m=hdN (hdN N (nA m)) (nD m):=(Bj bM.bi _ _).trans (congrArg (fun q=>hdN q (nD m)) (Bj dE.aX _ _))
theorem Ct (m:aB):gG m=Df (gP m) m:=by unfold gG Df; exact Eq.refl _
theorem Dh {k:Nat} {m:aB} (h:Im k m):gG m=lo m:=by rw [Ct,yP h,DZ]; rfl
structure Tr (j:Nat) (p:bH) (m:aB) (t:bH) (m':aB):Prop where
  own:m'.aa.ag.ls=m.aa.ag.ls
  sh:m'.aa.av=m.aa.av
  ad:s2 m.ak.ls+s2 m.aa.aj.ls≤8→s2 m'.ak.ls+s2 m'.aa.aj.ls≤8
  la:s2 m'.aa.aI.ls≤s2 m.aa.aI.ls+j
  lw:∀ k,Im (k+j) m→k+j≤1000000→Im k m→Im (k+j) m'∧∃ o,t.bB.ls=p.bB.ls++o∧Lw (lo m) (lo m') o
theorem Tr.same (p:bH) (m:aB):Tr 0 p m p m:=⟨rfl,rfl,id,m5 _,fun k h _ _=>⟨h, [],(s9 _).symm,m5 _⟩⟩
theorem Im.mono {k j:Nat} {m:aB} (h:Im k m) (hj:k≤j) (hl:j≤1000000):Im j m:=⟨hl,h.2.mono hj⟩
theorem Tr.trans {i j:Nat} {p t u:bH} {m d e:aB} (a:Tr i p m t d) (c:Tr j t d u e):Tr (i+j) p m u e:=
  ⟨c.own.trans a.own,c.sh.trans a.sh,fun h=>c.ad (a.ad h),by have:=a.la; have:=c.la; omega,fun k _ hl hk=>by
    obtain⟨f,l,n,o⟩:=a.lw k (hk.mono e6 e6) e6 hk
    obtain⟨q,r,s,v⟩:=c.lw (k+i) (f.mono e6 e6) e6 f
    exact⟨Nat.add_assoc k i j ▸ q,l++r,by rw [s,n,q7],v.app o⟩⟩
theorem Tr.one {p t:bH} {m m':aB} (h:Tr 0 p m t m'):Tr 1 p m t m':=⟨h.own,h.sh,h.ad,Q7 h.la,fun k _ hl hk=>by
  obtain⟨a,c,d,e⟩:=h.lw k hk e6 hk
  exact⟨a.mono e6 hl,c,d,e⟩⟩
theorem Tr.of {p t:bH} {m m':aB} {o:List bQ} (hs:m'.aa=m.aa) (ha:nA m'=nA m) (hb:m'.bI=m.bI) (ho:t.bB.ls=p.bB.ls++o) (hk:∀ x ∈ o,x.aH≠3):Tr 0 p m t m':=by
  have hl:s2 m'.ak.ls=s2 m.ak.ls:=by have:=congrArg s2 ha; simp only [nA,s6] at this; exact this
  have e:lo m'=lo m:=by unfold lo nD; rw [hs,ha,hb]
  refine⟨by rw [hs],by rw [hs],by rw [hs,hl]; exact id,by rw [hs]; exact m5 _,fun k h _ _=>⟨?_,o,ho,Ip (Nat.le_of_eq e.symm) hk⟩⟩
  unfold Im nD at h ⊢; rw [hs,ha,hb]; exact h
theorem Ab (p:bH) (x:bQ):∃ y,(dA p x).bB.ls=p.bB.ls++ [y]∧y.aH=x.aH∧y.dW=x.dW∧y.bi=x.bi:=⟨_,rfl,rfl,rfl,rfl⟩
theorem l6 {p t:bH} {c:Int} {q:Nat} {k:Int} {l:List aY} {m m':aB} (h:dB p c q k l m=(t,m')):m'.aa=m.aa∧m'.ak.ls=m.ak.ls∧m'.bI=m.bI∧(∃ x,t.bB.ls=p.bB.ls++ [x]∧x.aH=2)∧(mR l→jZ q→Mk m→Mk m'):=by
  unfold dB iO at h
  simp only [bnd] at h
  split at h
  · obtain⟨rfl,rfl⟩:=Prod.mk.inj h
    exact⟨rfl,rfl,rfl,⟨_,rfl,rfl⟩,fun hl hq M=>⟨M.mO,M.r9,M.qi,M.uw,M.dec,M.o6,M.act,M.l8,⟨hl,hq⟩,M.mq,M.mo,M.mr⟩⟩
  split at h
  · obtain⟨rfl,rfl⟩:=Prod.mk.inj h
    exact⟨rfl,rfl,rfl,⟨_,rfl,rfl⟩,fun hl hq M=>⟨M.mO,M.r9,M.qi,M.uw,M.dec,M.o6,M.act,M.l8,M.lq,⟨hl,hq⟩,M.mo,M.mr⟩⟩
  split at h
  · obtain⟨rfl,rfl⟩:=Prod.mk.inj h
    exact⟨rfl,rfl,rfl,⟨_,rfl,rfl⟩,fun hl hq M=>⟨M.mO,M.r9,M.qi,M.uw,M.dec,M.o6,M.act,M.l8,M.lq,M.mq,⟨hl,hq⟩,M.mr⟩⟩
  · obtain⟨rfl,rfl⟩:=Prod.mk.inj h
    exact⟨rfl,rfl,rfl,⟨_,rfl,rfl⟩,fun hl hq M=>⟨M.mO,M.r9,M.qi,M.uw,M.dec,M.o6,M.act,M.l8,M.lq,M.mq,M.mo,⟨hl,hq⟩⟩⟩
theorem Ac (n:Nat) (f:Bool):∀ (l:List Int) (o:List bQ), ∃ q,gV n f l o=o++q∧∀ x ∈ q,x.aH=5
  | [],o=>⟨[],(s9 _).symm,fun x hx=>by cases hx⟩
  | s::l,o=>by
    simp only [gV,bnd]
    obtain⟨y,e,hk,_⟩:=Ab (bH.mk (E4 o)) (bQ.mk 5 0 s 0 0 0 0 0 n 0 0 0 0 0 0 f (bL.mk [] []) (E4 []) (E4 []) (E4 []))
    rw [e]
    obtain⟨q,a,c⟩:=Ac n f l (o++ [y])
    refine⟨y::q,by rw [a,q7]; rfl,fun x hx=> ?_⟩
    rcases v2.1 hx with rfl | hx
    · exact hk
    · exact c x hx
theorem sw (p:bH) (n:Nat) (l:List Int) (f:Bool):∃ q,(eG p n l f).bB.ls=p.bB.ls++q∧∀ x ∈ q,x.aH=5:=by
  obtain⟨q,e,h⟩:=Ac n f l p.bB.ls
  exact⟨q,by unfold eG; simp only [bnd]; exact e,h⟩
theorem Tr.decide (p:bH) (n:Nat) (l:List Int) (f:Bool) (m:aB):Tr 0 p m (eG p n l f) m:=by
  obtain⟨q,e,h⟩:=sw p n l f
  exact Tr.of rfl rfl rfl e (fun x hx=>by rw [h x hx]; decide)
theorem Tr.answer {p t:bH} {c:Int} {q:Nat} {k:Int} {l:List aY} {m m':aB} (h:dB p c q k l m=(t,m')):Tr 0 p m t m':=by
  obtain⟨a,d,f,⟨x,e,hx⟩,i⟩:=l6 h
  exact Tr.of a (by unfold nA; rw [d]) f e (fun y hy=>by rw [m4.1 hy,hx]; decide)
theorem Ff {m':aB} {o:List bv} {d:List bM} {l:List fE} {a:List dE} (c:m'.aa.ag.ls=o) (e:m'.aa.aj.ls=d) (f:m'.aa.aI.ls=l) (h:m'.ak.ls=a):aB.mk (dC.mk m'.aa.av m'.aa.ax m'.aa.bf m'.aa.aK (E4 o) (E4 d) (E4 l)) m'.bI (E4 a) m'.aR m'.aN m'.aO m'.aP m'.aM m'.di m'.cz m'.cK m'.cB m'.cu=m':=by subst c e f h; rfl
theorem nE {c m':aB} {o:List bv} {d:List bM} {l:List fE} {a:List dE} (h:aB.mk (dC.mk c.aa.av c.aa.ax c.aa.bf c.aa.aK (E4 o) (E4 d) (E4 l)) c.bI (E4 a) c.aR c.aN c.aO c.aP c.aM c.di c.cz c.cK c.cB c.cu=m') (e:c.aa.ag.ls=o) (f:c.aa.aj.ls=d) (i:c.aa.aI.ls=l) (j:c.ak.ls=a):c=m':=(Ff e f i j).symm.trans h
theorem getD_at {α:Type} [Inhabited α] {l:List α} {i:Nat} (h:i < l.length):l[i]? =some (C2 l i default):=by
  rw [K3,s5 h]; rfl
def uq (m:aB) (i:Nat):aB:= { m with ak:=E4 (r5 i m.ak.ls++r6 (i+1) m.ak.ls) }
theorem qg {α:Type} (l:List α) (i:Nat):(r5 i l++r6 (i+1) l).Sublist l:=by
  have h:(r6 (i+1) l).Sublist (r6 i l):=by rw [← List.tail_drop]; exact List.tail_sublist _
  have:=(Q8.refl (r5 i l)).append h
  rwa [List.take_append_drop] at this
theorem Mk.cut {m:aB} (M:Mk m) (i:Nat):Mk (uq m i):=⟨M.mO,M.r9,M.qi,M.uw,M.dec,M.o6,fun x hx=>M.act x ((qg _ _).subset hx),M.l8,M.lq,M.mq,M.mo,M.mr⟩
theorem Tr.cut (p:bH) (m:aB) (i:Nat):Tr 0 p m p (uq m i):=by
  have hs:=qg m.ak.ls i
  have hA:nA (uq m i)=r5 i (nA m)++r6 (i+1) (nA m):=by simp only [nA,uq,v7,Q9,R6]
  refine⟨rfl,rfl,fun h=> ?_,m5 _,fun k h _ _=> ?_⟩
  · have:=hs.length_le; simp only [uq]; omega
  · have a:=h.2.sub (A':=nA (uq m i)) (hA ▸ qg (nA m) i) (Q8.refl _)
    exact⟨⟨h.1,a.1⟩, [],(s9 _).symm,a.2⟩
theorem sV {m:aB} (M:Mk m) {i:Nat} (hi:i < m.ak.ls.length):Tok (C2 m.ak.ls i default):=M.act _ (E0 (getD_at hi))
theorem xR (l:List gq):s2 (gp l [])=s2 l:=(zZ l []).trans (Nat.zero_add _)
theorem o5 {p t:bH} {i:Int} {m m':aB} (hi:D2 i < m.ak.ls.length) (h:eH p i m=(t,m')):m'.aa=m.aa∧Tr 0 p m t m'∧(Mk m→Mk m')∧s2 t.bB.ls=s2 p.bB.ls+1+s2 (C2 m.ak.ls (D2 i) default).aD.ls:=by
  unfold eH at h
  simp only [bnd] at h
  rcases e:dB p (C2 m.ak.ls (D2 i) default).aQ (C2 m.ak.ls (D2 i) default).aF 2 [] (uq m (D2 i)) with ⟨c,d⟩
  have e':=e
  unfold uq at e'
  rw [e'] at h
  have ha:=l6 e
  obtain⟨rfl,a⟩:=Prod.mk.inj h
  obtain rfl:=nE a (by rw [ha.1]; rfl) (by rw [ha.1]; rfl) (by rw [ha.1]; rfl) (by rw [ha.2.1]; rfl)
  exact⟨ha.1,(Tr.cut p m (D2 i)).trans ((Tr.answer e).trans (Tr.decide _ _ _ _ _)),fun M=>ha.2.2.2.2 mD (sV M hi).rZ (M.cut _),by
    obtain⟨x,e,_⟩:=ha.2.2.2.1
    rw [xP rfl,e,p5,List.length_singleton]
    simp only [jQ,bnd]; rw [xR]⟩
theorem Cu (a b:Nat):ib a b < 0↔a < b:=by
  unfold ib lL
  simp only [bnd]
  by_cases h:((a:Nat):Int) < ((b:Nat):Int)
  · simp [h]; omega
  · by_cases c:((a:Nat):Int) > ((b:Nat):Int) <;> simp [h,c] <;> omega
theorem Ae {l:List bM} {n:Nat} (hs:∀ i j:Nat,i≤j→j < l.length→(C2 l i default).bi≤(C2 l j default).bi):∀ (f a b:Nat),a≤b→b≤l.length→b - a < f→(∀ i,i < a→(C2 l i default).bi < n)→(∀ i,b≤i→i < l.length→n≤(C2 l i default).bi)→
    ∃ r,dH l n f a b=r∧r≤l.length∧(∀ i,i < r→(C2 l i default).bi < n)∧(∀ i,r≤i→i < l.length→n≤(C2 l i default).bi)
  | 0,a,b,_,_,h,_,_=>by omega
  | f+1,a,b,hab,hb,hf,c,d=>by
    simp only [dH,bnd]
    by_cases hlt:((a:Nat):Int) < ((b:Nat):Int)
    · rw [if_pos hlt]
      by_cases hc:ib (C2 l ((a+b) / 2) default).bi n < 0
      · rw [if_pos hc]
        rw [Cu] at hc
        exact Ae hs f _ _ e6 hb e6 (fun i hi=>Nat.lt_of_le_of_lt (hs i ((a+b) / 2) e6 e6) hc) d
      · rw [if_neg hc]
        rw [Cu] at hc
        exact Ae hs f _ _ e6 e6 e6 c (fun i hi hl=>K2 (Nat.le_of_not_lt hc) (hs ((a+b) / 2) i hi hl))
    · rw [if_neg hlt]
      exact⟨a,rfl,e6,c,fun i hi hl=>d i e6 hl⟩
theorem Di {l:List bM} (h:Q1 (· ≤ ·) (s8 bM.bi l)) (i j:Nat) (hij:i≤j) (hj:j < l.length):(C2 l i default).bi≤(C2 l j default).bi:=by
  rcases Nat.lt_or_eq_of_le hij with a | rfl
  · have:=List.pairwise_iff_getElem.1 h i j i9 i9 a
    rw [R7,R7] at this
    rw [K3,K3,s5 e6,s5 hj]
    exact this
  · exact m5 _
theorem Dj {l:List bM} {n:Nat} {r:Int × Bool} (hr:bT l n=r) (h:Q1 (· ≤ ·) (s8 bM.bi l)):(∀ x ∈ r5 (D2 r.1) (s8 bM.bi l),x≤n)∧(∀ x ∈ r6 (D2 r.1) (s8 bM.bi l),n≤x):=by
  obtain⟨q,e,hl,a,c⟩:=Ae (Di h) ((l.length - 0)+1) 0 l.length (JO _) (m5 _) e6 (fun i hi=>by omega) (fun i hi hl=>by omega)
  have hq:D2 r.1=q:=by
    rw [← hr]; unfold bT
    simp only [bnd]
    rw [e]
    split <;> rfl
  rw [hq]
  have at_:∀ i (hi:i < l.length),(s8 bM.bi l)[i]'(by rw [s6]; exact hi)=(C2 l i default).bi:=fun i hi=>by
    rw [R7,K3,s5 hi]; rfl
  refine⟨fun x hx=> ?_,fun x hx=> ?_⟩
  · obtain⟨i,hi,rfl⟩:=List.mem_take_iff_getElem.1 hx
    rw [s6] at hi
    rw [at_ i e6]
    exact Nat.le_of_lt (a i e6)
  · obtain⟨i,hi,rfl⟩:=List.mem_drop_iff_getElem.1 hx
    rw [s6] at hi
    rw [at_ (q+i) e6]
    exact c _ e6 e6
def ol (m:aB) (i j:Nat) (d:bM) (L:List fE):aB:= { m with aa:=dC.mk m.aa.av m.aa.ax m.aa.bf m.aa.aK (E4 m.aa.ag.ls) (E4 (r5 j m.aa.aj.ls++(d::r6 j m.aa.aj.ls))) (E4 L),ak:=E4 (r5 i m.ak.ls++r6 (i+1) m.ak.ls) }
theorem Tr.com (p:bH) (m:aB) {i j:Nat} {d:bM} {L:List fE} (hi:i < m.ak.ls.length) (hd:d.bi=(C2 m.ak.ls i default).aX) (hL:s2 L≤s2 m.aa.aI.ls+1)
    (hj:Q1 (· ≤ ·) (nD m)→(∀ x ∈ r5 j (nD m),x≤d.bi)∧(∀ x ∈ r6 j (nD m),d.bi≤x)):Tr 1 p m p (ol m i j d L):=by
  have hA:nA (ol m i j d L)=r5 i (nA m)++r6 (i+1) (nA m):=by simp only [nA,ol,v7,Q9,R6]
  have hD:nD (ol m i j d L)=r5 j (nD m)++d.bi::r6 j (nD m):=by simp only [nD,ol,v7,List.map_cons,Q9,R6]
  have hm:d.bi ∈ nA m:=by rw [hd]; exact List.mem_map.2 ⟨_,E0 (getD_at hi),rfl⟩
  refine⟨rfl,rfl,fun h=> ?_,hL,fun k _ hl h=> ?_⟩
  · simp only [ol,p5,p3,p4,s3]; omega
  · have a:=h.2.ins (h.2.lA _ hm) (hj h.2.sD).1 (hj h.2.sD).2 (h.2.le.1 _ hm) (nA (ol m i j d L)) (hA ▸ qg (nA m) i)
    rw [← hD] at a
    exact⟨⟨hl,a.1.mono (R8 k)⟩, [],(s9 _).symm,a.2⟩
theorem Mk.com {m:aB} (M:Mk m) {i j:Nat} {d:bM} {L:List fE} (hd:jZ d.bi∧jZ d.ax∧jZ d.aU∧s2 d.av.ls≤1000) (hL:∀ x ∈ L,jZ x.ax∧jZ x.aU∧mR x.ah.ls):Mk (ol m i j d L):=
  ⟨M.mO,M.r9,M.qi,M.uw,fun x hx=>by
    rcases v8.1 hx with h | h
    · exact M.dec x (G2 h)
    · rcases v2.1 h with rfl | h
      · exact hd
      · exact M.dec x (Q6 h),hL,fun x hx=>M.act x ((qg _ _).subset hx),M.l8,M.lq,M.mq,M.mo,M.mr⟩
set_option maxHeartbeats 2000000 in
theorem wL {p t:bH} {i:Int} {m m':aB} (hi:D2 i < m.ak.ls.length) (h:jA p i m=(t,m')):Tr 1 p m t m'∧(Mk m→Mk m'):=by
  unfold jA at h
  simp only [bnd,jQ] at h
  have hT:=fun M:Mk m=>sV M hi
  generalize hy:C2 m.ak.ls (D2 i) default=y at h hT
  rcases eg:mH y.bS.ls y.aD.ls y.ae.ls with ⟨rs,ge⟩
  rw [eg] at h
  have hgr:=fun M:Mk m=>xO eg (hT M).ops.1 (hT M).ops.2 (hT M).Bt
  rcases es:bT m.aa.aj.ls y.aX with ⟨j,oj⟩
  rcases el:gI m.aa.aI.ls y.aQ with ⟨q,oq⟩
  rw [es,el] at h
  obtain⟨sl,hsl⟩:∃ sl,gp y.aD.ls []=sl:=⟨_,rfl⟩
  rw [hsl] at h
  have hds:=fun M:Mk m=>(show jZ y.aX∧jZ m.aa.ax∧jZ y.aF∧s2 sl≤1000 from ⟨(hT M).num,M.mO,(hT M).rZ,by have:=(hT M).len; rw [← hsl,xR]; omega⟩)
  have go:∀ {L:List fE} {f:bH} {c:aB},dB p y.aQ y.aF 1 rs (ol m (D2 i) (D2 j) (bM.mk y.aX y.aQ m.aa.ax y.aF (E4 sl)) L)=(f,c)→s2 L≤s2 m.aa.aI.ls+1→(Mk m→∀ x ∈ L,jZ x.ax∧jZ x.aU∧mR x.ah.ls)→Tr 1 p m (eG f y.aX sl true) c∧(Mk m→Mk c):=fun {L f c} e hL hM=>by
    have ha:=l6 e
    have hc:Tr 1 p m p (ol m (D2 i) (D2 j) (bM.mk y.aX y.aQ m.aa.ax y.aF (E4 sl)) L):=Tr.com p m hi (by rw [hy]) hL fun hp=>Dj es hp
    exact⟨hc.trans ((Tr.answer e).trans (Tr.decide _ _ _ _ _)),fun M=>ha.2.2.2.2 (hgr M) (hT M).rZ (M.com (hds M) (hM M))⟩
  split at h
  · split at h
    · rcases e:dB p y.aQ y.aF 1 rs (ol m (D2 i) (D2 j) (bM.mk y.aX y.aQ m.aa.ax y.aF (E4 sl)) (u5 m.aa.aI.ls (D2 q) (fE.mk y.aQ m.aa.ax y.aF (E4 rs)))) with ⟨f,c⟩
      have ha:=l6 e
      have e':=e
      unfold ol at e'
      rw [e'] at h
      obtain⟨rfl,a⟩:=Prod.mk.inj h
      obtain rfl:=nE a (by rw [ha.1]; rfl) (by rw [ha.1]; rfl) (by rw [ha.1]; rfl) (by rw [ha.2.1]; rfl)
      refine go e (by rw [H6]; omega) fun M x hx=> ?_
      rcases N0 hx with d | rfl
      · exact M.o6 x d
      · exact⟨M.mO,(hT M).rZ,hgr M⟩
    · rcases e:dB p y.aQ y.aF 1 rs (ol m (D2 i) (D2 j) (bM.mk y.aX y.aQ m.aa.ax y.aF (E4 sl)) (r5 (D2 q) m.aa.aI.ls++((fE.mk y.aQ m.aa.ax y.aF (E4 rs))::r6 (D2 q) m.aa.aI.ls))) with ⟨f,c⟩
      have ha:=l6 e
      have e':=e
      unfold ol at e'
      rw [e'] at h
      obtain⟨rfl,a⟩:=Prod.mk.inj h
      obtain rfl:=nE a (by rw [ha.1]; rfl) (by rw [ha.1]; rfl) (by rw [ha.1]; rfl) (by rw [ha.2.1]; rfl)
      refine go e (by rw [p5,s3,p3,p4]; omega) fun M x hx=> ?_
      rcases v8.1 hx with d | d
      · exact M.o6 x (G2 d)
      · rcases v2.1 d with rfl | d
        · exact⟨M.mO,(hT M).rZ,hgr M⟩
        · exact M.o6 x (Q6 d)
  · rcases e:eH p i m with ⟨f,c⟩
    rw [e] at h
    have ha:=o5 hi e
    obtain⟨rfl,a⟩:=Prod.mk.inj h
    obtain rfl:=nE a (by rw [ha.1]) (by rw [ha.1]) (by rw [ha.1]) rfl
    exact⟨ha.2.1.one,ha.2.2.1⟩
def qh (m:aB) (i:Nat) (y:dE):aB:= { m with ak:=E4 (u5 m.ak.ls i y) }
theorem Dl {l:List dE} {i:Nat} {y:dE} (hy:y.aX=(C2 l i default).aX):s8 dE.aX (u5 l i y)=s8 dE.aX l:=by
  rw [List.map_set]
  by_cases h:i < l.length
  · have:(s8 dE.aX l)[i]'(by rw [s6]; exact h)=y.aX:=by rw [R7,hy,K3,s5 h]; rfl
    rw [← this]; exact R9 _
  · exact S0 i9
theorem Tr.set (p:bH) (m:aB) {i:Nat} {y:dE} (hy:y.aX=(C2 m.ak.ls i default).aX):Tr 0 p m p (qh m i y):=Tr.of rfl (Dl hy) rfl (s9 _).symm (fun x hx=>by cases hx)
theorem Mk.set {m:aB} (M:Mk m) {i:Nat} {y:dE} (hy:Tok y):Mk (qh m i y):=⟨M.mO,M.r9,M.qi,M.uw,M.dec,M.o6,mI M.act hy,M.l8,M.lq,M.mq,M.mo,M.mr⟩
theorem xS {l:List dE} {n:Nat} {r:Int × Bool} (hr:df l n=r) (h:r.2=true):D2 r.1 < l.length:=by
  unfold df at hr
  simp only [bnd] at hr
  split at hr
  · subst hr; simp only [J9]; omega
  · subst hr; cases h
theorem yQ {p t:bH} {x:bQ} {m m':aB} (h:jN p x m=(t,m')):Tr 1 p m t m'∧(mR x.ah.ls→Mk m→Mk m'):=by
  have same:(p,m)=(t,m')→Tr 1 p m t m'∧(mR x.ah.ls→Mk m→Mk m'):=fun h=>by
    obtain⟨rfl,rfl⟩:=Prod.mk.inj h
    exact⟨(Tr.same p m).one,fun _ M=>M⟩
  unfold jN iO at h
  simp only [bnd] at h
  rcases ef:df m.ak.ls x.bi with ⟨i,ok⟩
  rw [ef] at h
  split at h
  case isFalse=>exact same h
  rename_i hok
  have hi:=xS ef hok
  split at h
  · exact same h
  split at h
  · exact same h
  have ab:∀ {d:bH} {a:aB},eH p i m=(d,a)→(d,aB.mk (dC.mk a.aa.av a.aa.ax a.aa.bf a.aa.aK (E4 m.aa.ag.ls) (E4 m.aa.aj.ls) (E4 m.aa.aI.ls)) a.bI (E4 a.ak.ls) a.aR a.aN a.aO a.aP a.aM a.di a.cz a.cK a.cB a.cu)=(t,m')→Tr 1 p m t m'∧(mR x.ah.ls→Mk m→Mk m'):=fun e h=>by
    have ha:=o5 hi e
    obtain⟨rfl,c⟩:=Prod.mk.inj h
    obtain rfl:=nE c (by rw [ha.1]) (by rw [ha.1]) (by rw [ha.1]) rfl
    exact⟨ha.2.1.one,fun _=>ha.2.2.1⟩
  split at h
  · split at h
    · split at h
      · obtain⟨rfl,rfl⟩:=Prod.mk.inj h
        refine⟨Tr.one ?_,fun hr M=>M.set (i:=D2 i) (nZ (sV M hi) hr)⟩
        refine Tr.set p m (i:=D2 i) ?_
        rfl
      · rcases e:jA p i (qh m (D2 i) (dE.mk (C2 m.ak.ls (D2 i) default).aX (C2 m.ak.ls (D2 i) default).aQ (C2 m.ak.ls (D2 i) default).aF (C2 m.ak.ls (D2 i) default).dh (E4 (C2 m.ak.ls (D2 i) default).bS.ls) (E4 (C2 m.ak.ls (D2 i) default).aD.ls) (E4 (u5 (C2 m.ak.ls (D2 i) default).bE.ls (D2 (eQ (C2 m.ak.ls (D2 i) default).aD.ls x)) true)) (E4 (u5 (C2 m.ak.ls (D2 i) default).ae.ls (D2 (eQ (C2 m.ak.ls (D2 i) default).aD.ls x)) (E4 x.ah.ls))) (C2 m.ak.ls (D2 i) default).dO)) with ⟨d,a⟩
        have e':=e
        unfold qh at e'
        rw [e'] at h
        have hc:=wL (by unfold qh; simp only [H6]; exact hi) e
        obtain⟨rfl,c⟩:=Prod.mk.inj h
        obtain rfl:=nE c (by rw [hc.1.own]; rfl) rfl rfl rfl
        refine⟨Nat.zero_add 1 ▸ Tr.trans ?_ hc.1,fun hr M=>hc.2 (M.set (nZ (sV M hi) hr))⟩
        refine Tr.set p m (i:=D2 i) ?_
        rfl
    · rcases e:eH p i m with ⟨d,a⟩
      rw [e] at h; exact ab e h
  · rcases e:eH p i m with ⟨d,a⟩
    rw [e] at h; exact ab e h
def sdX (m:aB) (D:List bM):aB:= { m with aa:=dC.mk m.aa.av m.aa.ax m.aa.bf m.aa.aK (E4 m.aa.ag.ls) (E4 D) (E4 m.aa.aI.ls) }
theorem Tr.sdX (p:bH) (m:aB) {D:List bM} (h:(s8 bM.bi D).Sublist (nD m)):Tr 1 p m p (sdX m D):=by
  have hl:=h.length_le
  simp only [nD,s6] at hl
  refine⟨rfl,rfl,fun h=> ?_,R8 _,fun k _ hk c=> ?_⟩
  · show s2 m.ak.ls+s2 D≤8; omega
  · have a:=c.2.sub (Q8.refl _) h
    exact⟨⟨hk,a.1.mono (R8 k)⟩, [],(s9 _).symm,a.2⟩
theorem Dm {l:List bM} {i:Nat} {y:bM} (hy:y.bi=(C2 l i default).bi):s8 bM.bi (u5 l i y)=s8 bM.bi l:=by
  rw [List.map_set]
  by_cases h:i < l.length
  · have:(s8 bM.bi l)[i]'(by rw [s6]; exact h)=y.bi:=by rw [R7,hy,K3,s5 h]; rfl
    rw [← this]; exact R9 _
  · exact S0 i9
theorem xg (l:List Int) (c:bQ):∀ (f:Nat) (a b:Int) (q:List Int),s2 (gQ l c f a b q).2≤s2 q
  | 0,a,b,q=>JO _
  | f+1,a,b,q=>by
    simp only [gQ,bnd]
    split
    · split
      · exact xg l c f _ _ _
      · exact K2 (xg l c f _ _ _) (by rw [H6]; exact m5 _)
    · exact m5 _
theorem D5 (l:List Int) (c:bQ):s2 (iq l c)≤s2 l:=by
  unfold iq
  simp only [bnd]
  split
  · exact m5 _
  · rw [p3]; exact K2 (Q2 _ _) (xg _ _ _ _ _ _)
theorem EO {l:List bM} {n:Nat} {r:Int × Bool} (hr:bT l n=r) (h:r.2=true):D2 r.1 < l.length:=by
  unfold bT at hr
  simp only [bnd] at hr
  split at hr
  · subst hr; simp only [J9]; omega
  · subst hr; cases h
theorem om {p t:bH} {x:bQ} {m m':aB} (h:jY p x m=(t,m')):(∃ D,m'=sdX m D)∧Tr 1 p m t m'∧(Mk m→Mk m'):=by
  unfold jY at h
  simp only [bnd] at h
  rcases ef:bT m.aa.aj.ls x.bi with ⟨i,ok⟩
  rw [ef] at h
  split at h
  · rename_i hok
    have hi:=EO ef hok
    have a:=fun M:Mk m=>M.dec _ (E0 (getD_at hi))
    generalize hy:C2 m.aa.aj.ls (D2 i) default=y at h a
    have hD:Mk m→Dk (u5 m.aa.aj.ls (D2 i) (bM.mk y.bi y.aS y.ax y.aU (E4 (iq y.av.ls x)))):=fun M z hz=>by
      rcases N0 hz with d | rfl
      · exact M.dec z d
      · have c:=a M
        exact⟨c.1,c.2.1,c.2.2.1,K2 (D5 _ _) c.2.2.2⟩
    have hmap:s8 bM.bi (u5 m.aa.aj.ls (D2 i) (bM.mk y.bi y.aS y.ax y.aU (E4 (iq y.av.ls x))))=nD m:=Dm (by rw [hy])
    generalize u5 m.aa.aj.ls (D2 i) (bM.mk y.bi y.aS y.ax y.aU (E4 (iq y.av.ls x)))=D at h hD hmap
    split at h
    · obtain⟨rfl,rfl⟩:=Prod.mk.inj h
      exact⟨⟨_,rfl⟩,Tr.sdX p m (hmap ▸ (qg D (D2 i)).map bM.bi),fun M=>⟨M.mO,M.r9,M.qi,M.uw,fun y hy=>hD M y ((qg _ _).subset hy),M.o6,M.act,M.l8,M.lq,M.mq,M.mo,M.mr⟩⟩
    · obtain⟨rfl,rfl⟩:=Prod.mk.inj h
      exact⟨⟨_,rfl⟩,Tr.sdX p m (hmap ▸ Q8.refl _),fun M=>⟨M.mO,M.r9,M.qi,M.uw,hD M,M.o6,M.act,M.l8,M.lq,M.mq,M.mo,M.mr⟩⟩
  · obtain⟨rfl,rfl⟩:=Prod.mk.inj h
    exact⟨⟨_,rfl⟩,(Tr.same p m).one,id⟩
theorem D6 (p:bH) (x:bQ) (m:aB):Tr 1 p m (kW p x m) m:=by
  unfold kW
  simp only [bnd]
  split
  · exact(Tr.decide _ _ _ _ _).one
  · split
    · exact(Tr.same p m).one
    · exact(Tr.decide _ _ _ _ _).one
theorem Lw.all {w n b:Nat} (hn:w≤n) (hb:w≤b):∀ {l:List bQ} {a:Nat},a≤w→(∀ x ∈ l,x.aH=3∧x.dW=w∧x.bi=n)→Lw a b l
  | [],a,ha,_=>K2 ha hb
  | x::l,a,ha,h=>by
    have hx:=h x b1
    unfold Lw
    rw [if_pos hx.1,hx.2.1,hx.2.2]
    exact⟨ha,hn,Lw.all hn hb (m5 _) fun y hy=>h y (.tail _ hy)⟩
theorem yC (m:aB) (i:Int) (y:dE) (x:dE):∀ (f k:Nat) (o:List bQ), ∃ q,gJ m i y x f k o=o++q∧s2 q≤f∧∀ z ∈ q,z.aH=3∧z.dW=gG (qh m (D2 i) (dE.mk y.aX y.aQ y.aF y.dh (E4 y.bS.ls) (E4 y.aD.ls) (E4 y.bE.ls) (E4 y.ae.ls) (C7.wrap (y.dO+1))))∧z.bi=x.aX
  | 0,k,o=>⟨[],(s9 _).symm,m5 _,fun z hz=>by cases hz⟩
  | f+1,k,o=>by
    simp only [gJ,bnd]
    split
    · obtain⟨q,e,hl,hq⟩:=yC m i y x f (k+1) o
      exact⟨q,e,Q7 hl,hq⟩
    · obtain⟨q,e,hl,hq⟩:=yC m i y x f (k+1) (o++ [bQ.mk 3 0 (C2 x.aD.ls k default).dV 0 0 0 0 0 x.aX (gG (qh m (D2 i) (dE.mk y.aX y.aQ y.aF y.dh (E4 y.bS.ls) (E4 y.aD.ls) (E4 y.bE.ls) (E4 y.ae.ls) (C7.wrap (y.dO+1))))) 0 x.dh 0 0 0 false (bL.mk [] []) (E4 (C2 x.aD.ls k default).aG.ls) (E4 []) (E4 [])])
      refine⟨_::q,e.trans (by rw [q7]; rfl),by rw [s3]; omega,fun z hz=> ?_⟩
      rcases v2.1 hz with rfl | hz
      · exact⟨rfl,rfl,rfl⟩
      · exact hq z hz
theorem Tr.tells {p t:bH} {m m':aB} {j n:Nat} {q:List bQ} (h:Tr j p m p m') (ho:t.bB.ls=p.bB.ls++q) (hq:∀ z ∈ q,z.aH=3∧z.dW=gG m'∧z.bi=n) (hn:∀ k,Im k m→k+j≤1000000→n ∈ nA m'):Tr j p m t m':=
  ⟨h.own,h.sh,h.ad,h.la,fun k c hl hk=>by
    obtain⟨a,o,e,d⟩:=h.lw k c hl hk
    have f:lo m≤lo m':=by
      have:o= []:=by have:=congrArg s2 e; rw [p5] at this; exact List.length_eq_zero_iff.1 e6
      subst this; exact d
    exact⟨a,q,ho,Lw.all (a.2.le.1 n (hn k hk hl)) (m5 _) f fun z hz=>⟨(hq z hz).1,(hq z hz).2.1.trans (Dh a),(hq z hz).2.2⟩⟩⟩
theorem rH {p t:bH} {n:Nat} {m m':aB} (h:iT p n m=(t,m')):m'.aa=m.aa∧Tr 0 p m t m'∧(Mk m→Mk m')∧(Mk m→s2 t.bB.ls≤s2 p.bB.ls+6):=by
  unfold iT at h
  simp only [bnd] at h
  rcases ef:df m.ak.ls n with ⟨i,ok⟩
  rw [ef] at h
  split at h
  case isFalse=>
    obtain⟨rfl,rfl⟩:=Prod.mk.inj h
    exact⟨rfl,Tr.same p m,id,fun _=>Nat.le_add_right _ _⟩
  rename_i hok
  have hi:=xS ef hok
  generalize hy:C2 m.ak.ls (D2 i) default=y at h
  have hg:C2 (u5 m.ak.ls (D2 i) (dE.mk y.aX y.aQ y.aF y.dh (E4 y.bS.ls) (E4 y.aD.ls) (E4 y.bE.ls) (E4 y.ae.ls) (C7.wrap (y.dO+1)))) (D2 i) default=dE.mk y.aX y.aQ y.aF y.dh (E4 y.bS.ls) (E4 y.aD.ls) (E4 y.bE.ls) (E4 y.ae.ls) (C7.wrap (y.dO+1)):=by
    rw [K3,S1 hi]; rfl
  rw [hg] at h
  have hs:=Tr.set p m (i:=D2 i) (y:=dE.mk y.aX y.aQ y.aF y.dh (E4 y.bS.ls) (E4 y.aD.ls) (E4 y.bE.ls) (E4 y.ae.ls) (C7.wrap (y.dO+1))) (by rw [hy])
  have hm:=fun M:Mk m=>M.set (i:=D2 i) (p9 (hy ▸ sV M hi) (C7.wrap (y.dO+1)))
  split at h
  · rcases e:eH p i (qh m (D2 i) (dE.mk y.aX y.aQ y.aF y.dh (E4 y.bS.ls) (E4 y.aD.ls) (E4 y.bE.ls) (E4 y.ae.ls) (C7.wrap (y.dO+1)))) with ⟨d,f⟩
    have e':=e
    unfold qh at e'
    rw [e'] at h
    have ha:=o5 (by unfold qh; simp only [H6]; exact hi) e
    obtain⟨rfl,a⟩:=Prod.mk.inj h
    obtain rfl:=nE a (by rw [ha.1]; rfl) (by rw [ha.1]; rfl) (by rw [ha.1]; rfl) rfl
    refine⟨ha.1,hs.trans ha.2.1,fun M=>ha.2.2.1 (hm M),fun M=> ?_⟩
    rw [ha.2.2.2]
    have c:=(sV (hm M) (i:=D2 i) (by unfold qh; simp only [H6]; exact hi)).len
    exact Nat.add_le_add_left c (s2 p.bB.ls+1)
  · obtain⟨rfl,rfl⟩:=Prod.mk.inj h
    obtain⟨q,e,hl,hq⟩:=yC m i y (dE.mk y.aX y.aQ y.aF y.dh (E4 y.bS.ls) (E4 y.aD.ls) (E4 y.bE.ls) (E4 y.ae.ls) (C7.wrap (y.dO+1))) (s2 y.aD.ls) 0 p.bB.ls
    refine⟨rfl,hs.tells e hq fun k _ _=>List.mem_map.2 ⟨_,E0 (S1 hi),rfl⟩,hm,fun M=> ?_⟩
    show s2 (gJ _ _ _ _ _ _ _)≤_
    rw [e,p5]
    have c:=(sV M hi).len
    rw [hy] at c; omega
end Go.Proofs.YtbkagebjhbphaaaGreat
