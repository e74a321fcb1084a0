/-
  What a step does to the coordinator: what stays, which numbers there are, which Low is told. Conditions: none beyond each law's own.
-/
import Derived.Test.YtbkagebjhbphaaaGreatCh
import Derived.Test.YtbkagebjhbphaaaGreatCi
import Derived.Test.YtbkagebjhbphaaaGreatCj
namespace Go.Proofs.YtbkagebjhbphaaaGreat
open Int renaming toNat→D2,toNat_natCast→J3
open IntKind renaming i64→C7
open List renaming Pairwise→P5,Sublist→Q2,append_assoc→q7,append_nil→s9,drop→r6,getD→C2,getD_eq_getElem?_getD→J7,getElem?_eq_getElem→s5,getElem?_set_self→Q9,getElem_map→Q5,length→s2,length_append→p5,length_cons→s3,length_drop→p4,length_map→s6,length_set→H3,length_take→p3,map→s8,map_append→v7,map_drop→Q4,map_take→Q3,mem_append→v8,mem_cons→v2,mem_of_getElem?→E0,mem_of_mem_drop→Q0,mem_of_mem_take→G2,mem_or_eq_of_mem_set→M4,mem_singleton→m4,pairwise_append→P9,pairwise_cons→P7,set→u5,set_eq_of_length_le→Q8,set_getElem_self→Q7,take→r5
open Ll renaming mk→E4
open Nat renaming le_refl→m5,le_succ→Q6,le_succ_of_le→Q1,le_trans→J6,min_le_right→P6,succ_le_succ→P8
set_option linter.unusedVariables false
set_option linter.unusedSimpArgs false
def Lw:Nat→Nat→List bQ→Prop
  | a,b, []=>a≤b
  | a,b,x::r=>if x.aM=3 then a≤x.di∧x.di≤x.bf∧Lw x.di b r else Lw a b r
theorem Lw.app {b c:Nat} {r:List bQ} (d:Lw b c r):∀ {l:List bQ} {a:Nat},Lw a b l→Lw a c (l++r)
  | [],a,h=>by
    revert a
    induction r generalizing b with
    | nil=>exact fun a h=>J6 h d
    | cons x r ih=>
      intro a h
      simp only [List.nil_append,Lw] at h d ⊢
      by_cases e:x.aM=3
      · rw [if_pos e] at d ⊢; exact⟨J6 h d.1,d.2⟩
      · rw [if_neg e] at d ⊢; exact ih d a h
  | x::l,a,h=>by
    simp only [List.cons_append,Lw] at h ⊢
    by_cases e:x.aM=3
    · rw [if_pos e] at h ⊢; exact⟨h.1,h.2.1,Lw.app d h.2.2⟩
    · rw [if_neg e] at h ⊢; exact Lw.app d h
theorem GJ {a b:Nat} (hab:a≤b):∀ {l:List bQ},(∀ x ∈ l,x.aM≠3)→Lw a b l
  | [],_=>hab
  | x::l,h=>by unfold Lw; rw [if_neg (h x b1)]; exact GJ hab fun y hy=>h y (.tail _ hy)
def hdN (n:Nat):List Nat→Nat
  | []=>n
  | x::_=>min n x
def rE (b g:Nat) (A D:List Nat):Nat:=hdN (hdN (b *4294967296+g+1) A) D
structure Iv (k b g:Nat) (A D:List Nat):Prop where
  bt:b < 2147483648
  bg:g≤k
  sA:P5 (· ≤ ·) A
  sD:P5 (· ≤ ·) D
  lA:∀ x ∈ A,x≤b *4294967296+g
  lD:∀ x ∈ D,x≤b *4294967296+g
theorem zy (n:Nat) (l:List Nat):hdN n l≤n:=by cases l with
  | nil=>exact m5 _
  | cons x l=>exact Nat.min_le_left _ _
theorem Au {n:Nat} {l:List Nat} (h:P5 (· ≤ ·) l):∀ x ∈ l,hdN n l≤x:=by cases l with
  | nil=>intro x hx; cases hx
  | cons y l=>
    intro x hx
    refine J6 (P6 _ _) ?_
    rcases v2.1 hx with rfl | hx
    · exact m5 _
    · exact(P7.1 h).1 x hx
theorem BI {a n:Nat} {l:List Nat} (h:a≤n) (hl:∀ x ∈ l,a≤x):a≤hdN n l:=by cases l with
  | nil=>exact h
  | cons y l=>exact Nat.le_min.2 ⟨h,hl y b1⟩
section
variable {k b g:Nat} {A D:List Nat}
theorem Iv.le (h:Iv k b g A D):(∀ x ∈ A,rE b g A D≤x)∧(∀ x ∈ D,rE b g A D≤x)∧rE b g A D≤b *4294967296+g+1:=
  ⟨fun x hx=>J6 (zy _ _) (Au h.sA x hx),Au h.sD,J6 (zy _ _) (zy _ _)⟩
theorem yG {a:Nat} (h:a≤b *4294967296+g+1) (hA:∀ x ∈ A,a≤x) (hD:∀ x ∈ D,a≤x):a≤rE b g A D:=BI (BI h hA) hD
theorem Iv.mono {j:Nat} (h:Iv k b g A D) (hj:k≤j):Iv j b g A D:=⟨h.bt,J6 h.bg hj,h.sA,h.sD,h.lA,h.lD⟩
theorem Iv.sub {A' D':List Nat} (h:Iv k b g A D) (hA:A'.Sublist A) (hD:D'.Sublist D):Iv k b g A' D'∧rE b g A D≤rE b g A' D':=
  ⟨⟨h.bt,h.bg,h.sA.sublist hA,h.sD.sublist hD,fun x hx=>h.lA x (hA.subset hx),fun x hx=>h.lD x (hD.subset hx)⟩,yG h.le.2.2 (fun x hx=>h.le.1 x (hA.subset hx)) (fun x hx=>h.le.2.1 x (hD.subset hx))⟩
theorem Iv.more (h:Iv k b g A D):Iv (k+1) b (g+1) (A++ [b *4294967296+g+1]) D∧Iv (k+1) b (g+1) A D∧rE b g A D≤rE b (g+1) (A++ [b *4294967296+g+1]) D∧rE b g A D≤rE b (g+1) A D:=by
  have hle:=h.le
  refine⟨⟨h.bt,P8 h.bg,P9.2 ⟨h.sA,List.pairwise_singleton _ _,fun x hx y hy=> ?_⟩,h.sD,fun x hx=> ?_,fun x hx=>J6 (h.lD x hx) e6⟩,⟨h.bt,P8 h.bg,h.sA,h.sD,fun x hx=>J6 (h.lA x hx) e6,fun x hx=>J6 (h.lD x hx) e6⟩,yG e6 (fun x hx=> ?_) hle.2.1,yG e6 hle.1 hle.2.1⟩
  · have a:=h.lA x hx; have c:=m4.1 hy; omega
  · rcases v8.1 hx with a | a
    · have:=h.lA x a; omega
    · have:=m4.1 a; omega
  · rcases v8.1 hx with a | a
    · exact hle.1 x a
    · rw [m4.1 a]; exact hle.2.2
theorem Iv.ins {i n:Nat} (h:Iv k b g A D) (hn:n≤b *4294967296+g) (c:∀ x ∈ D.take i,x≤n) (d:∀ x ∈ D.drop i,n≤x) (hl:rE b g A D≤n) (A':List Nat) (hA:A'.Sublist A):Iv k b g A' (D.take i++n::D.drop i)∧rE b g A D≤rE b g A' (D.take i++n::D.drop i):=by
  have hm:∀ x ∈ D.take i++n::D.drop i,x=n∨x ∈ D:=fun x hx=>by
    rcases v8.1 hx with a | a
    · exact .inr (G2 a)
    · rcases v2.1 a with a | a
      · exact .inl a
      · exact .inr (Q0 a)
  refine⟨⟨h.bt,h.bg,h.sA.sublist hA,P9.2 ⟨h.sD.sublist (List.take_sublist _ _),P7.2 ⟨d,h.sD.sublist (List.drop_sublist _ _)⟩,fun x hx y hy=> ?_⟩,fun x hx=>h.lA x (hA.subset hx),fun x hx=> ?_⟩,yG h.le.2.2 (fun x hx=>h.le.1 x (hA.subset hx)) (fun x hx=> ?_)⟩
  · rcases v2.1 hy with rfl | hy
    · exact c x hx
    · exact J6 (c x hx) (d y hy)
  · rcases hm x hx with rfl | a
    · exact hn
    · exact h.lD x a
  · rcases hm x hx with rfl | a
    · exact hl
    · exact h.le.2.1 x a
end
def nA (m:aB):List Nat:=s8 dH.bq m.aA.ls
def nD (m:aB):List Nat:=s8 bL.bf m.aa.aj.ls
def lo (m:aB):Nat:=rE m.aa.ax m.bH (nA m) (nD m)
def Im (k:Nat) (m:aB):Prop:=k≤1000000∧Iv k m.aa.ax m.bH (nA m) (nD m)
theorem yh {k:Nat} {m:aB} (h:Im k m):gX m=m.aa.ax *4294967296+m.bH+1:=by
  have d:=h.2.bt
  have e:=h.2.bg
  have f:=h.1
  have a:eQ m.aa.ax 32=m.aa.ax *4294967296:=by unfold eQ; rw [show min 32 64=32 from rfl,show ((2:Int) ^ 32)=4294967296 from rfl,IntWalk.u64_in _ e6]; omega
  have c:IntKind.u64.wrap (((m.aa.ax *4294967296:Nat):Int)+((m.bH:Nat):Int))=((m.aa.ax *4294967296+m.bH:Nat):Int):=by rw [IntWalk.u64_in _ e6]; omega
  unfold gX
  rw [a,c,J3,IntWalk.u64_in _ e6]
  omega
theorem Av {α:Type} [Inhabited α] (f:α→Nat) (N:Nat) (A:List α):(if((s2 A:Nat):Int) > 0 then bnd (C2 A 0 default) fun y=>min N (f y) else N)=hdN N (s8 f A):=by
  cases A with
  | nil=>exact if_neg (by simp only [List.length_nil]; omega)
  | cons a A=>exact if_pos (by simp only [s3]; omega)
def Cq (N:Nat) (a:aB):Nat:=bnd N fun y=>bnd (if((s2 a.aA.ls:Nat):Int) > 0 then bnd (C2 a.aA.ls 0 default) fun x=>min y x.bq else y) fun s=>if((s2 a.aa.aj.ls:Nat):Int) > 0 then bnd (C2 a.aa.aj.ls 0 default) fun x=>min s x.bf else s
theorem De (N:Nat) (m:aB):Cq N m=hdN (hdN N (nA m)) (nD m):=(Av bL.bf _ _).trans (congrArg (fun q=>hdN q (nD m)) (Av dH.bq _ _))
theorem BJ (m:aB):gy m=Cq (gX m) m:=by unfold gy Cq; exact Eq.refl _
theorem Cr {k:Nat} {m:aB} (h:Im k m):gy m=lo m:=by rw [BJ,yh h,De]; rfl
structure Tr (j:Nat) (p:bO) (m:aB) (t:bO) (m':aB):Prop where
  own:m'.aa.ag.ls=m.aa.ag.ls
  sh:m'.aa.ak=m.aa.ak
  ad:s2 m.aA.ls+s2 m.aa.aj.ls≤8→s2 m'.aA.ls+s2 m'.aa.aj.ls≤8
  la:s2 m'.aa.aF.ls≤s2 m.aa.aF.ls+j
  lw:∀ k,Im (k+j) m→k+j≤1000000→Im k m→Im (k+j) m'∧∃ o,t.bE.ls=p.bE.ls++o∧Lw (lo m) (lo m') o
theorem Tr.same (p:bO) (m:aB):Tr 0 p m p m:=⟨rfl,rfl,id,m5 _,fun k h _ _=>⟨h, [],(s9 _).symm,m5 _⟩⟩
theorem Im.mono {k j:Nat} {m:aB} (h:Im k m) (hj:k≤j) (hl:j≤1000000):Im j m:=⟨hl,h.2.mono hj⟩
theorem Tr.trans {i j:Nat} {p t u:bO} {m d e:aB} (a:Tr i p m t d) (c:Tr j t d u e):Tr (i+j) p m u e:=
  ⟨c.own.trans a.own,c.sh.trans a.sh,fun h=>c.ad (a.ad h),by have:=a.la; have:=c.la; omega,fun k _ hl hk=>by
    obtain⟨f,l,n,o⟩:=a.lw k (hk.mono e6 e6) e6 hk
    obtain⟨q,r,s,v⟩:=c.lw (k+i) (f.mono e6 e6) e6 f
    exact⟨Nat.add_assoc k i j ▸ q,l++r,by rw [s,n,q7],v.app o⟩⟩
theorem Tr.one {p t:bO} {m m':aB} (h:Tr 0 p m t m'):Tr 1 p m t m':=⟨h.own,h.sh,h.ad,Q1 h.la,fun k _ hl hk=>by
  obtain⟨a,c,d,e⟩:=h.lw k hk e6 hk
  exact⟨a.mono e6 hl,c,d,e⟩⟩
theorem GH {p t:bO} {m m':aB} {o:List bQ} (hs:m'.aa=m.aa) (ha:nA m'=nA m) (hb:m'.bH=m.bH) (ho:t.bE.ls=p.bE.ls++o) (hk:∀ x ∈ o,x.aM≠3):Tr 0 p m t m':=by
  have hl:s2 m'.aA.ls=s2 m.aA.ls:=by have:=congrArg s2 ha; simp only [nA,s6] at this; exact this
  have e:lo m'=lo m:=by unfold lo nD; rw [hs,ha,hb]
  refine⟨by rw [hs],by rw [hs],by rw [hs,hl]; exact id,by rw [hs]; exact m5 _,fun k h _ _=>⟨?_,o,ho,GJ (Nat.le_of_eq e.symm) hk⟩⟩
  unfold Im nD at h ⊢; rw [hs,ha,hb]; exact h
theorem zz (p:bO) (x:bQ):∃ y,(dB p x).bE.ls=p.bE.ls++ [y]∧y.aM=x.aM∧y.di=x.di∧y.bf=x.bf:=⟨_,rfl,rfl,rfl,rfl⟩
theorem qH {p t:bO} {c:Int} {q:Nat} {k:Int} {l:List aX} {m m':aB} (h:dX p c q k l m=(t,m')):m'.aa=m.aa∧m'.aA.ls=m.aA.ls∧m'.bH=m.bH∧(∃ x,t.bE.ls=p.bE.ls++ [x]∧x.aM=2)∧(mJ l→jy q→Mk m→Mk m'):=by
  unfold dX jb at h
  simp only [bnd] at h
  split at h
  · obtain⟨rfl,rfl⟩:=Prod.mk.inj h
    exact⟨rfl,rfl,rfl,⟨_,rfl,rfl⟩,fun hl hq M=>⟨M.nT,M.rF,M.pQ,M.tY,M.dec,M.oO,M.act,M.lX,⟨hl,hq⟩,M.ma,M.mg,M.mf⟩⟩
  split at h
  · obtain⟨rfl,rfl⟩:=Prod.mk.inj h
    exact⟨rfl,rfl,rfl,⟨_,rfl,rfl⟩,fun hl hq M=>⟨M.nT,M.rF,M.pQ,M.tY,M.dec,M.oO,M.act,M.lX,M.kZ,⟨hl,hq⟩,M.mg,M.mf⟩⟩
  split at h
  · obtain⟨rfl,rfl⟩:=Prod.mk.inj h
    exact⟨rfl,rfl,rfl,⟨_,rfl,rfl⟩,fun hl hq M=>⟨M.nT,M.rF,M.pQ,M.tY,M.dec,M.oO,M.act,M.lX,M.kZ,M.ma,⟨hl,hq⟩,M.mf⟩⟩
  · obtain⟨rfl,rfl⟩:=Prod.mk.inj h
    exact⟨rfl,rfl,rfl,⟨_,rfl,rfl⟩,fun hl hq M=>⟨M.nT,M.rF,M.pQ,M.tY,M.dec,M.oO,M.act,M.lX,M.kZ,M.ma,M.mg,⟨hl,hq⟩⟩⟩
theorem zA (n:Nat) (f:Bool):∀ (l:List Int) (o:List bQ), ∃ q,gP n f l o=o++q∧∀ x ∈ q,x.aM=5
  | [],o=>⟨[],(s9 _).symm,fun x hx=>by cases hx⟩
  | s::l,o=>by
    simp only [gP,bnd]
    obtain⟨y,e,hk,_⟩:=zz (bO.mk (E4 o)) (bQ.mk 5 0 s 0 0 0 0 0 n 0 0 0 0 0 0 f (bK.mk [] []) (E4 []) (E4 []) (E4 []))
    rw [e]
    obtain⟨q,a,c⟩:=zA n f l (o++ [y])
    refine⟨y::q,by rw [a,q7]; rfl,fun x hx=> ?_⟩
    rcases v2.1 hx with rfl | hx
    · exact hk
    · exact c x hx
theorem xw (p:bO) (n:Nat) (l:List Int) (f:Bool):∃ q,(fq p n l f).bE.ls=p.bE.ls++q∧∀ x ∈ q,x.aM=5:=by
  obtain⟨q,e,h⟩:=zA n f l p.bE.ls
  exact⟨q,by unfold fq; simp only [bnd]; exact e,h⟩
theorem Tr.decide (p:bO) (n:Nat) (l:List Int) (f:Bool) (m:aB):Tr 0 p m (fq p n l f) m:=by
  obtain⟨q,e,h⟩:=xw p n l f
  exact GH rfl rfl rfl e (fun x hx=>by rw [h x hx]; decide)
theorem Tr.answer {p t:bO} {c:Int} {q:Nat} {k:Int} {l:List aX} {m m':aB} (h:dX p c q k l m=(t,m')):Tr 0 p m t m':=by
  obtain⟨a,d,f,⟨x,e,hx⟩,i⟩:=qH h
  exact GH a (by unfold nA; rw [d]) f e (fun y hy=>by rw [m4.1 hy,hx]; decide)
theorem Em {m':aB} {o:List bv} {d:List bL} {l:List fF} {a:List dH} (c:m'.aa.ag.ls=o) (e:m'.aa.aj.ls=d) (f:m'.aa.aF.ls=l) (h:m'.aA.ls=a):aB.mk (dA.mk m'.aa.ak m'.aa.ax m'.aa.bi m'.aa.aI (E4 o) (E4 d) (E4 l)) m'.bH (E4 a) m'.aQ m'.aO m'.aL m'.aN m'.aK m'.df m'.cu m'.cz m'.cB m'.cK=m':=by subst c e f h; rfl
theorem sK {c m':aB} {o:List bv} {d:List bL} {l:List fF} {a:List dH} (h:aB.mk (dA.mk c.aa.ak c.aa.ax c.aa.bi c.aa.aI (E4 o) (E4 d) (E4 l)) c.bH (E4 a) c.aQ c.aO c.aL c.aN c.aK c.df c.cu c.cz c.cB c.cK=m') (e:c.aa.ag.ls=o) (f:c.aa.aj.ls=d) (i:c.aa.aF.ls=l) (j:c.aA.ls=a):c=m':=(Em e f i j).symm.trans h
theorem getD_at {α:Type} [Inhabited α] {l:List α} {i:Nat} (h:i < l.length):l[i]? =some (C2 l i default):=by
  rw [J7,s5 h]; rfl
def yj (m:aB) (i:Nat):aB:= { m with aA:=E4 (r5 i m.aA.ls++r6 (i+1) m.aA.ls) }
theorem qI {α:Type} (l:List α) (i:Nat):(r5 i l++r6 (i+1) l).Sublist l:=by
  have h:(r6 (i+1) l).Sublist (r6 i l):=by rw [← List.tail_drop]; exact List.tail_sublist _
  have:=(Q2.refl (r5 i l)).append h
  rwa [List.take_append_drop] at this
theorem Mk.cut {m:aB} (M:Mk m) (i:Nat):Mk (yj m i):=⟨M.nT,M.rF,M.pQ,M.tY,M.dec,M.oO,fun x hx=>M.act x ((qI _ _).subset hx),M.lX,M.kZ,M.ma,M.mg,M.mf⟩
theorem Tr.cut (p:bO) (m:aB) (i:Nat):Tr 0 p m p (yj m i):=by
  have hs:=qI m.aA.ls i
  have hA:nA (yj m i)=r5 i (nA m)++r6 (i+1) (nA m):=by simp only [nA,yj,v7,Q3,Q4]
  refine⟨rfl,rfl,fun h=> ?_,m5 _,fun k h _ _=> ?_⟩
  · have:=hs.length_le; simp only [yj]; omega
  · have a:=h.2.sub (A':=nA (yj m i)) (hA ▸ qI (nA m) i) (Q2.refl _)
    exact⟨⟨h.1,a.1⟩, [],(s9 _).symm,a.2⟩
theorem sj {m:aB} (M:Mk m) {i:Nat} (hi:i < m.aA.ls.length):Tok (C2 m.aA.ls i default):=M.act _ (E0 (getD_at hi))
theorem xx (l:List fV):s2 (gF l [])=s2 l:=(zx l []).trans (Nat.zero_add _)
theorem uu {p t:bO} {i:Int} {m m':aB} (hi:D2 i < m.aA.ls.length) (h:gz p i m=(t,m')):m'.aa=m.aa∧Tr 0 p m t m'∧(Mk m→Mk m')∧s2 t.bE.ls=s2 p.bE.ls+1+s2 (C2 m.aA.ls (D2 i) default).aC.ls:=by
  unfold gz at h
  simp only [bnd] at h
  rcases e:dX p (C2 m.aA.ls (D2 i) default).aW (C2 m.aA.ls (D2 i) default).aH 2 [] (yj m (D2 i)) with ⟨c,d⟩
  have e':=e
  unfold yj at e'
  rw [e'] at h
  have ha:=qH e
  obtain⟨rfl,a⟩:=Prod.mk.inj h
  obtain rfl:=sK a (by rw [ha.1]; rfl) (by rw [ha.1]; rfl) (by rw [ha.1]; rfl) (by rw [ha.2.1]; rfl)
  exact⟨ha.1,(Tr.cut p m (D2 i)).trans ((Tr.answer e).trans (Tr.decide _ _ _ _ _)),fun M=>ha.2.2.2.2 mh (sj M hi).sw (M.cut _),by
    obtain⟨x,e,_⟩:=ha.2.2.2.1
    rw [xq rfl,e,p5,List.length_singleton]
    simp only [kg,bnd]; rw [xx]⟩
theorem BK (a b:Nat):gY a b < 0↔a < b:=by
  unfold gY lF
  simp only [bnd]
  by_cases h:((a:Nat):Int) < ((b:Nat):Int)
  · simp [h]; omega
  · by_cases c:((a:Nat):Int) > ((b:Nat):Int) <;> simp [h,c] <;> omega
theorem zB {l:List bL} {n:Nat} (hs:∀ i j:Nat,i≤j→j < l.length→(C2 l i default).bf≤(C2 l j default).bf):∀ (f a b:Nat),a≤b→b≤l.length→b - a < f→(∀ i,i < a→(C2 l i default).bf < n)→(∀ i,b≤i→i < l.length→n≤(C2 l i default).bf)→
    ∃ r,dE l n f a b=r∧r≤l.length∧(∀ i,i < r→(C2 l i default).bf < n)∧(∀ i,r≤i→i < l.length→n≤(C2 l i default).bf)
  | 0,a,b,_,_,h,_,_=>by omega
  | f+1,a,b,hab,hb,hf,c,d=>by
    simp only [dE,bnd]
    by_cases hlt:((a:Nat):Int) < ((b:Nat):Int)
    · rw [if_pos hlt]
      by_cases hc:gY (C2 l ((a+b) / 2) default).bf n < 0
      · rw [if_pos hc]
        rw [BK] at hc
        exact zB hs f _ _ e6 hb e6 (fun i hi=>Nat.lt_of_le_of_lt (hs i ((a+b) / 2) e6 e6) hc) d
      · rw [if_neg hc]
        rw [BK] at hc
        exact zB hs f _ _ e6 e6 e6 c (fun i hi hl=>J6 (Nat.le_of_not_lt hc) (hs ((a+b) / 2) i hi hl))
    · rw [if_neg hlt]
      exact⟨a,rfl,e6,c,fun i hi hl=>d i e6 hl⟩
theorem Cs {l:List bL} (h:P5 (· ≤ ·) (s8 bL.bf l)) (i j:Nat) (hij:i≤j) (hj:j < l.length):(C2 l i default).bf≤(C2 l j default).bf:=by
  rcases Nat.lt_or_eq_of_le hij with a | rfl
  · have:=List.pairwise_iff_getElem.1 h i j j2 j2 a
    rw [Q5,Q5] at this
    rw [J7,J7,s5 e6,s5 hj]
    exact this
  · exact m5 _
theorem Ct {l:List bL} {n:Nat} {r:Int × Bool} (hr:bU l n=r) (h:P5 (· ≤ ·) (s8 bL.bf l)):(∀ x ∈ r5 (D2 r.1) (s8 bL.bf l),x≤n)∧(∀ x ∈ r6 (D2 r.1) (s8 bL.bf l),n≤x):=by
  obtain⟨q,e,hl,a,c⟩:=zB (Cs h) ((l.length - 0)+1) 0 l.length (IU _) (m5 _) e6 (fun i hi=>by omega) (fun i hi hl=>by omega)
  have hq:D2 r.1=q:=by
    rw [← hr]; unfold bU
    simp only [bnd]
    rw [e]
    split <;> rfl
  rw [hq]
  have at_:∀ i (hi:i < l.length),(s8 bL.bf l)[i]'(by rw [s6]; exact hi)=(C2 l i default).bf:=fun i hi=>by
    rw [Q5,J7,s5 hi]; rfl
  refine⟨fun x hx=> ?_,fun x hx=> ?_⟩
  · obtain⟨i,hi,rfl⟩:=List.mem_take_iff_getElem.1 hx
    rw [s6] at hi
    rw [at_ i e6]
    exact Nat.le_of_lt (a i e6)
  · obtain⟨i,hi,rfl⟩:=List.mem_drop_iff_getElem.1 hx
    rw [s6] at hi
    rw [at_ (q+i) e6]
    exact c _ e6 e6
def qm (m:aB) (i j:Nat) (d:bL) (L:List fF):aB:= { m with aa:=dA.mk m.aa.ak m.aa.ax m.aa.bi m.aa.aI (E4 m.aa.ag.ls) (E4 (r5 j m.aa.aj.ls++(d::r6 j m.aa.aj.ls))) (E4 L),aA:=E4 (r5 i m.aA.ls++r6 (i+1) m.aA.ls) }
theorem Tr.com (p:bO) (m:aB) {i j:Nat} {d:bL} {L:List fF} (hi:i < m.aA.ls.length) (hd:d.bf=(C2 m.aA.ls i default).bq) (hL:s2 L≤s2 m.aa.aF.ls+1)
    (hj:P5 (· ≤ ·) (nD m)→(∀ x ∈ r5 j (nD m),x≤d.bf)∧(∀ x ∈ r6 j (nD m),d.bf≤x)):Tr 1 p m p (qm m i j d L):=by
  have hA:nA (qm m i j d L)=r5 i (nA m)++r6 (i+1) (nA m):=by simp only [nA,qm,v7,Q3,Q4]
  have hD:nD (qm m i j d L)=r5 j (nD m)++d.bf::r6 j (nD m):=by simp only [nD,qm,v7,List.map_cons,Q3,Q4]
  have hm:d.bf ∈ nA m:=by rw [hd]; exact List.mem_map.2 ⟨_,E0 (getD_at hi),rfl⟩
  refine⟨rfl,rfl,fun h=> ?_,hL,fun k _ hl h=> ?_⟩
  · simp only [qm,p5,p3,p4,s3]; omega
  · have a:=h.2.ins (h.2.lA _ hm) (hj h.2.sD).1 (hj h.2.sD).2 (h.2.le.1 _ hm) (nA (qm m i j d L)) (hA ▸ qI (nA m) i)
    rw [← hD] at a
    exact⟨⟨hl,a.1.mono (Q6 k)⟩, [],(s9 _).symm,a.2⟩
theorem Mk.com {m:aB} (M:Mk m) {i j:Nat} {d:bL} {L:List fF} (hd:jy d.bf∧jy d.ax∧jy d.aY∧s2 d.ak.ls≤1000) (hL:∀ x ∈ L,jy x.ax∧jy x.aY∧mJ x.ai.ls):Mk (qm m i j d L):=
  ⟨M.nT,M.rF,M.pQ,M.tY,fun x hx=>by
    rcases v8.1 hx with h | h
    · exact M.dec x (G2 h)
    · rcases v2.1 h with rfl | h
      · exact hd
      · exact M.dec x (Q0 h),hL,fun x hx=>M.act x ((qI _ _).subset hx),M.lX,M.kZ,M.ma,M.mg,M.mf⟩
set_option maxHeartbeats 2000000 in
theorem zQ {p t:bO} {i:Int} {m m':aB} (hi:D2 i < m.aA.ls.length) (h:lg p i m=(t,m')):Tr 1 p m t m'∧(Mk m→Mk m'):=by
  unfold lg at h
  simp only [bnd,kg] at h
  have hT:=fun M:Mk m=>sj M hi
  generalize hy:C2 m.aA.ls (D2 i) default=y at h hT
  rcases eg:nk y.bS.ls y.aC.ls y.ae.ls with ⟨rs,ge⟩
  rw [eg] at h
  have hgr:=fun M:Mk m=>xn eg (hT M).ops.1 (hT M).ops.2 (hT M).AO
  rcases es:bU m.aa.aj.ls y.bq with ⟨j,oj⟩
  rcases el:il m.aa.aF.ls y.aW with ⟨q,oq⟩
  rw [es,el] at h
  obtain⟨sl,hsl⟩:∃ sl,gF y.aC.ls []=sl:=⟨_,rfl⟩
  rw [hsl] at h
  have hds:=fun M:Mk m=>(show jy y.bq∧jy m.aa.ax∧jy y.aH∧s2 sl≤1000 from ⟨(hT M).num,M.nT,(hT M).sw,by have:=(hT M).len; rw [← hsl,xx]; omega⟩)
  have go:∀ {L:List fF} {f:bO} {c:aB},dX p y.aW y.aH 1 rs (qm m (D2 i) (D2 j) (bL.mk y.bq y.aW m.aa.ax y.aH (E4 sl)) L)=(f,c)→s2 L≤s2 m.aa.aF.ls+1→(Mk m→∀ x ∈ L,jy x.ax∧jy x.aY∧mJ x.ai.ls)→Tr 1 p m (fq f y.bq sl true) c∧(Mk m→Mk c):=fun {L f c} e hL hM=>by
    have ha:=qH e
    have hc:Tr 1 p m p (qm m (D2 i) (D2 j) (bL.mk y.bq y.aW m.aa.ax y.aH (E4 sl)) L):=Tr.com p m hi (by rw [hy]) hL fun hp=>Ct es hp
    exact⟨hc.trans ((Tr.answer e).trans (Tr.decide _ _ _ _ _)),fun M=>ha.2.2.2.2 (hgr M) (hT M).sw (M.com (hds M) (hM M))⟩
  split at h
  · split at h
    · rcases e:dX p y.aW y.aH 1 rs (qm m (D2 i) (D2 j) (bL.mk y.bq y.aW m.aa.ax y.aH (E4 sl)) (u5 m.aa.aF.ls (D2 q) (fF.mk y.aW m.aa.ax y.aH (E4 rs)))) with ⟨f,c⟩
      have ha:=qH e
      have e':=e
      unfold qm at e'
      rw [e'] at h
      obtain⟨rfl,a⟩:=Prod.mk.inj h
      obtain rfl:=sK a (by rw [ha.1]; rfl) (by rw [ha.1]; rfl) (by rw [ha.1]; rfl) (by rw [ha.2.1]; rfl)
      refine go e (by rw [H3]; omega) fun M x hx=> ?_
      rcases M4 hx with d | rfl
      · exact M.oO x d
      · exact⟨M.nT,(hT M).sw,hgr M⟩
    · rcases e:dX p y.aW y.aH 1 rs (qm m (D2 i) (D2 j) (bL.mk y.bq y.aW m.aa.ax y.aH (E4 sl)) (r5 (D2 q) m.aa.aF.ls++((fF.mk y.aW m.aa.ax y.aH (E4 rs))::r6 (D2 q) m.aa.aF.ls))) with ⟨f,c⟩
      have ha:=qH e
      have e':=e
      unfold qm at e'
      rw [e'] at h
      obtain⟨rfl,a⟩:=Prod.mk.inj h
      obtain rfl:=sK a (by rw [ha.1]; rfl) (by rw [ha.1]; rfl) (by rw [ha.1]; rfl) (by rw [ha.2.1]; rfl)
      refine go e (by rw [p5,s3,p3,p4]; omega) fun M x hx=> ?_
      rcases v8.1 hx with d | d
      · exact M.oO x (G2 d)
      · rcases v2.1 d with rfl | d
        · exact⟨M.nT,(hT M).sw,hgr M⟩
        · exact M.oO x (Q0 d)
  · rcases e:gz p i m with ⟨f,c⟩
    rw [e] at h
    have ha:=uu hi e
    obtain⟨rfl,a⟩:=Prod.mk.inj h
    obtain rfl:=sK a (by rw [ha.1]) (by rw [ha.1]) (by rw [ha.1]) rfl
    exact⟨ha.2.1.one,ha.2.2.1⟩
def vz (m:aB) (i:Nat) (y:dH):aB:= { m with aA:=E4 (u5 m.aA.ls i y) }
theorem Cu {l:List dH} {i:Nat} {y:dH} (hy:y.bq=(C2 l i default).bq):s8 dH.bq (u5 l i y)=s8 dH.bq l:=by
  rw [List.map_set]
  by_cases h:i < l.length
  · have:(s8 dH.bq l)[i]'(by rw [s6]; exact h)=y.bq:=by rw [Q5,hy,J7,s5 h]; rfl
    rw [← this]; exact Q7 _
  · exact Q8 j2
theorem Tr.set (p:bO) (m:aB) {i:Nat} {y:dH} (hy:y.bq=(C2 m.aA.ls i default).bq):Tr 0 p m p (vz m i y):=GH rfl (Cu hy) rfl (s9 _).symm (fun x hx=>by cases hx)
theorem Mk.set {m:aB} (M:Mk m) {i:Nat} {y:dH} (hy:Tok y):Mk (vz m i y):=⟨M.nT,M.rF,M.pQ,M.tY,M.dec,M.oO,mD M.act hy,M.lX,M.kZ,M.ma,M.mg,M.mf⟩
theorem BL {l:List dH} {n:Nat} {r:Int × Bool} (hr:dz l n=r) (h:r.2=true):D2 r.1 < l.length:=by
  unfold dz at hr
  simp only [bnd] at hr
  split at hr
  · subst hr; simp only [J3]; omega
  · subst hr; cases h
theorem yl {p t:bO} {x:bQ} {m m':aB} (h:kY p x m=(t,m')):Tr 1 p m t m'∧(mJ x.ai.ls→Mk m→Mk m'):=by
  have same:(p,m)=(t,m')→Tr 1 p m t m'∧(mJ x.ai.ls→Mk m→Mk m'):=fun h=>by
    obtain⟨rfl,rfl⟩:=Prod.mk.inj h
    exact⟨(Tr.same p m).one,fun _ M=>M⟩
  unfold kY jb at h
  simp only [bnd] at h
  rcases ef:dz m.aA.ls x.bf with ⟨i,ok⟩
  rw [ef] at h
  split at h
  case isFalse=>exact same h
  rename_i hok
  have hi:=BL ef hok
  split at h
  · exact same h
  split at h
  · exact same h
  have ab:∀ {d:bO} {a:aB},gz p i m=(d,a)→(d,aB.mk (dA.mk a.aa.ak a.aa.ax a.aa.bi a.aa.aI (E4 m.aa.ag.ls) (E4 m.aa.aj.ls) (E4 m.aa.aF.ls)) a.bH (E4 a.aA.ls) a.aQ a.aO a.aL a.aN a.aK a.df a.cu a.cz a.cB a.cK)=(t,m')→Tr 1 p m t m'∧(mJ x.ai.ls→Mk m→Mk m'):=fun e h=>by
    have ha:=uu hi e
    obtain⟨rfl,c⟩:=Prod.mk.inj h
    obtain rfl:=sK c (by rw [ha.1]) (by rw [ha.1]) (by rw [ha.1]) rfl
    exact⟨ha.2.1.one,fun _=>ha.2.2.1⟩
  split at h
  · split at h
    · split at h
      · obtain⟨rfl,rfl⟩:=Prod.mk.inj h
        refine⟨Tr.one ?_,fun hr M=>M.set (i:=D2 i) (nP (sj M hi) hr)⟩
        refine Tr.set p m (i:=D2 i) ?_
        rfl
      · rcases e:lg p i (vz m (D2 i) (dH.mk (C2 m.aA.ls (D2 i) default).bq (C2 m.aA.ls (D2 i) default).aW (C2 m.aA.ls (D2 i) default).aH (C2 m.aA.ls (D2 i) default).dw (E4 (C2 m.aA.ls (D2 i) default).bS.ls) (E4 (C2 m.aA.ls (D2 i) default).aC.ls) (E4 (u5 (C2 m.aA.ls (D2 i) default).bF.ls (D2 (ic (C2 m.aA.ls (D2 i) default).aC.ls x)) true)) (E4 (u5 (C2 m.aA.ls (D2 i) default).ae.ls (D2 (ic (C2 m.aA.ls (D2 i) default).aC.ls x)) (E4 x.ai.ls))) (C2 m.aA.ls (D2 i) default).dZ)) with ⟨d,a⟩
        have e':=e
        unfold vz at e'
        rw [e'] at h
        have hc:=zQ (by unfold vz; simp only [H3]; exact hi) e
        obtain⟨rfl,c⟩:=Prod.mk.inj h
        obtain rfl:=sK c (by rw [hc.1.own]; rfl) rfl rfl rfl
        refine⟨Nat.zero_add 1 ▸ Tr.trans ?_ hc.1,fun hr M=>hc.2 (M.set (nP (sj M hi) hr))⟩
        refine Tr.set p m (i:=D2 i) ?_
        rfl
    · rcases e:gz p i m with ⟨d,a⟩
      rw [e] at h; exact ab e h
  · rcases e:gz p i m with ⟨d,a⟩
    rw [e] at h; exact ab e h
def sdX (m:aB) (D:List bL):aB:= { m with aa:=dA.mk m.aa.ak m.aa.ax m.aa.bi m.aa.aI (E4 m.aa.ag.ls) (E4 D) (E4 m.aa.aF.ls) }
theorem Tr.sdX (p:bO) (m:aB) {D:List bL} (h:(s8 bL.bf D).Sublist (nD m)):Tr 1 p m p (sdX m D):=by
  have hl:=h.length_le
  simp only [nD,s6] at hl
  refine⟨rfl,rfl,fun h=> ?_,Q6 _,fun k _ hk c=> ?_⟩
  · show s2 m.aA.ls+s2 D≤8; omega
  · have a:=c.2.sub (Q2.refl _) h
    exact⟨⟨hk,a.1.mono (Q6 k)⟩, [],(s9 _).symm,a.2⟩
theorem Cv {l:List bL} {i:Nat} {y:bL} (hy:y.bf=(C2 l i default).bf):s8 bL.bf (u5 l i y)=s8 bL.bf l:=by
  rw [List.map_set]
  by_cases h:i < l.length
  · have:(s8 bL.bf l)[i]'(by rw [s6]; exact h)=y.bf:=by rw [Q5,hy,J7,s5 h]; rfl
    rw [← this]; exact Q7 _
  · exact Q8 j2
theorem wL (l:List Int) (c:bQ):∀ (f:Nat) (a b:Int) (q:List Int),s2 (gL l c f a b q).2≤s2 q
  | 0,a,b,q=>IU _
  | f+1,a,b,q=>by
    simp only [gL,bnd]
    split
    · split
      · exact wL l c f _ _ _
      · exact J6 (wL l c f _ _ _) (by rw [H3]; exact m5 _)
    · exact m5 _
theorem Df (l:List Int) (c:bQ):s2 (ik l c)≤s2 l:=by
  unfold ik
  simp only [bnd]
  split
  · exact m5 _
  · rw [p3]; exact J6 (P6 _ _) (wL _ _ _ _ _ _)
theorem Ec {l:List bL} {n:Nat} {r:Int × Bool} (hr:bU l n=r) (h:r.2=true):D2 r.1 < l.length:=by
  unfold bU at hr
  simp only [bnd] at hr
  split at hr
  · subst hr; simp only [J3]; omega
  · subst hr; cases h
theorem nS {p t:bO} {x:bQ} {m m':aB} (h:lG p x m=(t,m')):(∃ D,m'=sdX m D)∧Tr 1 p m t m'∧(Mk m→Mk m'):=by
  unfold lG at h
  simp only [bnd] at h
  rcases ef:bU m.aa.aj.ls x.bf with ⟨i,ok⟩
  rw [ef] at h
  split at h
  · rename_i hok
    have hi:=Ec ef hok
    have a:=fun M:Mk m=>M.dec _ (E0 (getD_at hi))
    generalize hy:C2 m.aa.aj.ls (D2 i) default=y at h a
    have hD:Mk m→Dk (u5 m.aa.aj.ls (D2 i) (bL.mk y.bf y.aS y.ax y.aY (E4 (ik y.ak.ls x)))):=fun M z hz=>by
      rcases M4 hz with d | rfl
      · exact M.dec z d
      · have c:=a M
        exact⟨c.1,c.2.1,c.2.2.1,J6 (Df _ _) c.2.2.2⟩
    have hmap:s8 bL.bf (u5 m.aa.aj.ls (D2 i) (bL.mk y.bf y.aS y.ax y.aY (E4 (ik y.ak.ls x))))=nD m:=Cv (by rw [hy])
    generalize u5 m.aa.aj.ls (D2 i) (bL.mk y.bf y.aS y.ax y.aY (E4 (ik y.ak.ls x)))=D at h hD hmap
    split at h
    · obtain⟨rfl,rfl⟩:=Prod.mk.inj h
      exact⟨⟨_,rfl⟩,Tr.sdX p m (hmap ▸ (qI D (D2 i)).map bL.bf),fun M=>⟨M.nT,M.rF,M.pQ,M.tY,fun y hy=>hD M y ((qI _ _).subset hy),M.oO,M.act,M.lX,M.kZ,M.ma,M.mg,M.mf⟩⟩
    · obtain⟨rfl,rfl⟩:=Prod.mk.inj h
      exact⟨⟨_,rfl⟩,Tr.sdX p m (hmap ▸ Q2.refl _),fun M=>⟨M.nT,M.rF,M.pQ,M.tY,hD M,M.oO,M.act,M.lX,M.kZ,M.ma,M.mg,M.mf⟩⟩
  · obtain⟨rfl,rfl⟩:=Prod.mk.inj h
    exact⟨⟨_,rfl⟩,(Tr.same p m).one,id⟩
theorem Dh (p:bO) (x:bQ) (m:aB):Tr 1 p m (mi p x m) m:=by
  unfold mi
  simp only [bnd]
  split
  · exact(Tr.decide _ _ _ _ _).one
  · split
    · exact(Tr.same p m).one
    · exact(Tr.decide _ _ _ _ _).one
theorem Lw.all {w n b:Nat} (hn:w≤n) (hb:w≤b):∀ {l:List bQ} {a:Nat},a≤w→(∀ x ∈ l,x.aM=3∧x.di=w∧x.bf=n)→Lw a b l
  | [],a,ha,_=>J6 ha hb
  | x::l,a,ha,h=>by
    have hx:=h x b1
    unfold Lw
    rw [if_pos hx.1,hx.2.1,hx.2.2]
    exact⟨ha,hn,Lw.all hn hb (m5 _) fun y hy=>h y (.tail _ hy)⟩
theorem xR (m:aB) (i:Int) (y:dH) (x:dH):∀ (f k:Nat) (o:List bQ), ∃ q,gZ m i y x f k o=o++q∧s2 q≤f∧∀ z ∈ q,z.aM=3∧z.di=gy (vz m (D2 i) (dH.mk y.bq y.aW y.aH y.dw (E4 y.bS.ls) (E4 y.aC.ls) (E4 y.bF.ls) (E4 y.ae.ls) (C7.wrap (y.dZ+1))))∧z.bf=x.bq
  | 0,k,o=>⟨[],(s9 _).symm,m5 _,fun z hz=>by cases hz⟩
  | f+1,k,o=>by
    simp only [gZ,bnd]
    split
    · obtain⟨q,e,hl,hq⟩:=xR m i y x f (k+1) o
      exact⟨q,e,Q1 hl,hq⟩
    · obtain⟨q,e,hl,hq⟩:=xR m i y x f (k+1) (o++ [bQ.mk 3 0 (C2 x.aC.ls k default).dU 0 0 0 0 0 x.bq (gy (vz m (D2 i) (dH.mk y.bq y.aW y.aH y.dw (E4 y.bS.ls) (E4 y.aC.ls) (E4 y.bF.ls) (E4 y.ae.ls) (C7.wrap (y.dZ+1))))) 0 x.dw 0 0 0 false (bK.mk [] []) (E4 (C2 x.aC.ls k default).aD.ls) (E4 []) (E4 [])])
      refine⟨_::q,e.trans (by rw [q7]; rfl),by rw [s3]; omega,fun z hz=> ?_⟩
      rcases v2.1 hz with rfl | hz
      · exact⟨rfl,rfl,rfl⟩
      · exact hq z hz
theorem Tr.tells {p t:bO} {m m':aB} {j n:Nat} {q:List bQ} (h:Tr j p m p m') (ho:t.bE.ls=p.bE.ls++q) (hq:∀ z ∈ q,z.aM=3∧z.di=gy m'∧z.bf=n) (hn:∀ k,Im k m→k+j≤1000000→n ∈ nA m'):Tr j p m t m':=
  ⟨h.own,h.sh,h.ad,h.la,fun k c hl hk=>by
    obtain⟨a,o,e,d⟩:=h.lw k c hl hk
    have f:lo m≤lo m':=by
      have:o= []:=by have:=congrArg s2 e; rw [p5] at this; exact List.length_eq_zero_iff.1 e6
      subst this; exact d
    exact⟨a,q,ho,Lw.all (a.2.le.1 n (hn k hk hl)) (m5 _) f fun z hz=>⟨(hq z hz).1,(hq z hz).2.1.trans (Cr a),(hq z hz).2.2⟩⟩⟩
theorem qZ {p t:bO} {n:Nat} {m m':aB} (h:kF p n m=(t,m')):m'.aa=m.aa∧Tr 0 p m t m'∧(Mk m→Mk m')∧(Mk m→s2 t.bE.ls≤s2 p.bE.ls+6):=by
  unfold kF at h
  simp only [bnd] at h
  rcases ef:dz m.aA.ls n with ⟨i,ok⟩
  rw [ef] at h
  split at h
  case isFalse=>
    obtain⟨rfl,rfl⟩:=Prod.mk.inj h
    exact⟨rfl,Tr.same p m,id,fun _=>Nat.le_add_right _ _⟩
  rename_i hok
  have hi:=BL ef hok
  generalize hy:C2 m.aA.ls (D2 i) default=y at h
  have hg:C2 (u5 m.aA.ls (D2 i) (dH.mk y.bq y.aW y.aH y.dw (E4 y.bS.ls) (E4 y.aC.ls) (E4 y.bF.ls) (E4 y.ae.ls) (C7.wrap (y.dZ+1)))) (D2 i) default=dH.mk y.bq y.aW y.aH y.dw (E4 y.bS.ls) (E4 y.aC.ls) (E4 y.bF.ls) (E4 y.ae.ls) (C7.wrap (y.dZ+1)):=by
    rw [J7,Q9 hi]; rfl
  rw [hg] at h
  have hs:=Tr.set p m (i:=D2 i) (y:=dH.mk y.bq y.aW y.aH y.dw (E4 y.bS.ls) (E4 y.aC.ls) (E4 y.bF.ls) (E4 y.ae.ls) (C7.wrap (y.dZ+1))) (by rw [hy])
  have hm:=fun M:Mk m=>M.set (i:=D2 i) (pK (hy ▸ sj M hi) (C7.wrap (y.dZ+1)))
  split at h
  · rcases e:gz p i (vz m (D2 i) (dH.mk y.bq y.aW y.aH y.dw (E4 y.bS.ls) (E4 y.aC.ls) (E4 y.bF.ls) (E4 y.ae.ls) (C7.wrap (y.dZ+1)))) with ⟨d,f⟩
    have e':=e
    unfold vz at e'
    rw [e'] at h
    have ha:=uu (by unfold vz; simp only [H3]; exact hi) e
    obtain⟨rfl,a⟩:=Prod.mk.inj h
    obtain rfl:=sK a (by rw [ha.1]; rfl) (by rw [ha.1]; rfl) (by rw [ha.1]; rfl) rfl
    refine⟨ha.1,hs.trans ha.2.1,fun M=>ha.2.2.1 (hm M),fun M=> ?_⟩
    rw [ha.2.2.2]
    have c:=(sj (hm M) (i:=D2 i) (by unfold vz; simp only [H3]; exact hi)).len
    exact Nat.add_le_add_left c (s2 p.bE.ls+1)
  · obtain⟨rfl,rfl⟩:=Prod.mk.inj h
    obtain⟨q,e,hl,hq⟩:=xR m i y (dH.mk y.bq y.aW y.aH y.dw (E4 y.bS.ls) (E4 y.aC.ls) (E4 y.bF.ls) (E4 y.ae.ls) (C7.wrap (y.dZ+1))) (s2 y.aC.ls) 0 p.bE.ls
    refine⟨rfl,hs.tells e hq fun k _ _=>List.mem_map.2 ⟨_,E0 (Q9 hi),rfl⟩,hm,fun M=> ?_⟩
    show s2 (gZ _ _ _ _ _ _ _)≤_
    rw [e,p5]
    have c:=(sj M hi).len
    rw [hy] at c; omega
end Go.Proofs.YtbkagebjhbphaaaGreat
