/-
  What a step does to the coordinator: what stays, which numbers there are, which Low is told. Conditions: none beyond each law's own.
-/
import Derived.Test.YtbkagebjhbphaaaGreatCh
import Derived.Test.YtbkagebjhbphaaaGreatCc
import Derived.Test.YtbkagebjhbphaaaGreatCf
import Derived.Test.YtbkagebjhbphaaaGreatCj
namespace Go.Proofs.YtbkagebjhbphaaaGreat
open Int renaming toNat→C6,toNat_natCast→L4
open List renaming Pairwise→S0,Sublist→S6,append_assoc→q5,append_nil→s6,drop→r4,getD→B8,getD_eq_getElem?_getD→L7,getElem?_eq_getElem→p7,getElem_map→S9,length→s0,length_append→o2,length_cons→s1,length_drop→o1,length_map→s3,length_set→G4,length_take→o0,map→s5,map_append→v2,map_drop→S8,map_take→S7,mem_append→v3,mem_cons→u2,mem_of_getElem?→D1,mem_of_mem_drop→S5,mem_of_mem_take→F0,mem_or_eq_of_mem_set→O3,mem_singleton→m5,pairwise_append→S4,pairwise_cons→S2,set→I3,set_eq_of_length_le→T2,set_getElem_self→T1,take→r3
open Ll renaming mk→E0
open Nat renaming le_refl→o4,le_succ→T0,le_trans→L8,min_le_right→S1,succ_le_succ→S3
set_option linter.unusedVariables false
set_option linter.unusedSimpArgs false
def Lw:Nat→Nat→List bW→Prop
  | a,b, []=>a≤b
  | a,b,x::r=>if x.av=3 then a≤x.eQ∧x.eQ≤x.aX∧Lw x.eQ b r else Lw a b r
theorem Lw.app {b c:Nat} {r:List bW} (d:Lw b c r):∀ {l:List bW} {a:Nat},Lw a b l→Lw a c (l++r)
  | [],a,h=>by
    revert a
    induction r generalizing b with
    | nil=>exact fun a h=>L8 h d
    | cons x r ih=>
      intro a h
      simp only [List.nil_append,Lw] at h d ⊢
      by_cases e:x.av=3
      · rw [if_pos e] at d ⊢; exact⟨L8 h d.1,d.2⟩
      · rw [if_neg e] at d ⊢; exact ih d a h
  | x::l,a,h=>by
    simp only [List.cons_append,Lw] at h ⊢
    by_cases e:x.av=3
    · rw [if_pos e] at h ⊢; exact⟨h.1,h.2.1,Lw.app d h.2.2⟩
    · rw [if_neg e] at h ⊢; exact Lw.app d h
theorem Kt {a b:Nat} (hab:a≤b):∀ {l:List bW},(∀ x ∈ l,x.av≠3)→Lw a b l
  | [],_=>hab
  | x::l,h=>by unfold Lw; rw [if_neg (h x b1)]; exact Kt hab fun y hy=>h y (.tail _ hy)
def hdN (n:Nat):List Nat→Nat
  | []=>n
  | x::_=>min n x
def sw (b g:Nat) (A D:List Nat):Nat:=hdN (hdN (b *4294967296+g+1) A) D
structure Iv (k b g:Nat) (A D:List Nat):Prop where
  bt:b < 2147483648
  bg:g≤k
  sA:S0 (· ≤ ·) A
  sD:S0 (· ≤ ·) D
  lA:∀ x ∈ A,x≤b *4294967296+g
  lD:∀ x ∈ D,x≤b *4294967296+g
theorem AL (n:Nat) (l:List Nat):hdN n l≤n:=by cases l with
  | nil=>exact o4 _
  | cons x l=>exact Nat.min_le_left _ _
theorem BQ {n:Nat} {l:List Nat} (h:S0 (· ≤ ·) l):∀ x ∈ l,hdN n l≤x:=by cases l with
  | nil=>intro x hx; cases hx
  | cons y l=>
    intro x hx
    refine L8 (S1 _ _) ?_
    rcases u2.1 hx with rfl | hx
    · exact o4 _
    · exact(S2.1 h).1 x hx
theorem Dt {a n:Nat} {l:List Nat} (h:a≤n) (hl:∀ x ∈ l,a≤x):a≤hdN n l:=by cases l with
  | nil=>exact h
  | cons y l=>exact Nat.le_min.2 ⟨h,hl y b1⟩
section
variable {k b g:Nat} {A D:List Nat}
theorem Iv.le (h:Iv k b g A D):(∀ x ∈ A,sw b g A D≤x)∧(∀ x ∈ D,sw b g A D≤x)∧sw b g A D≤b *4294967296+g+1:=
  ⟨fun x hx=>L8 (AL _ _) (BQ h.sA x hx),BQ h.sD,L8 (AL _ _) (AL _ _)⟩
theorem zG {a:Nat} (h:a≤b *4294967296+g+1) (hA:∀ x ∈ A,a≤x) (hD:∀ x ∈ D,a≤x):a≤sw b g A D:=Dt (Dt h hA) hD
theorem Iv.mono {j:Nat} (h:Iv k b g A D) (hj:k≤j):Iv j b g A D:=⟨h.bt,L8 h.bg hj,h.sA,h.sD,h.lA,h.lD⟩
theorem Iv.sub {A' D':List Nat} (h:Iv k b g A D) (hA:A'.Sublist A) (hD:D'.Sublist D):Iv k b g A' D'∧sw b g A D≤sw b g A' D':=
  ⟨⟨h.bt,h.bg,h.sA.sublist hA,h.sD.sublist hD,fun x hx=>h.lA x (hA.subset hx),fun x hx=>h.lD x (hD.subset hx)⟩,zG h.le.2.2 (fun x hx=>h.le.1 x (hA.subset hx)) (fun x hx=>h.le.2.1 x (hD.subset hx))⟩
theorem Iv.more (h:Iv k b g A D):Iv (k+1) b (g+1) (A++ [b *4294967296+g+1]) D∧Iv (k+1) b (g+1) A D∧sw b g A D≤sw b (g+1) (A++ [b *4294967296+g+1]) D∧sw b g A D≤sw b (g+1) A D:=by
  have hle:=h.le
  refine⟨⟨h.bt,S3 h.bg,S4.2 ⟨h.sA,List.pairwise_singleton _ _,fun x hx y hy=> ?_⟩,h.sD,fun x hx=> ?_,fun x hx=>L8 (h.lD x hx) e6⟩,⟨h.bt,S3 h.bg,h.sA,h.sD,fun x hx=>L8 (h.lA x hx) e6,fun x hx=>L8 (h.lD x hx) e6⟩,zG e6 (fun x hx=> ?_) hle.2.1,zG e6 hle.1 hle.2.1⟩
  · have a:=h.lA x hx; have c:=m5.1 hy; omega
  · rcases v3.1 hx with a | a
    · have:=h.lA x a; omega
    · have:=m5.1 a; omega
  · rcases v3.1 hx with a | a
    · exact hle.1 x a
    · rw [m5.1 a]; exact hle.2.2
theorem Iv.ins {i n:Nat} (h:Iv k b g A D) (hn:n≤b *4294967296+g) (c:∀ x ∈ D.take i,x≤n) (d:∀ x ∈ D.drop i,n≤x) (hl:sw b g A D≤n) (A':List Nat) (hA:A'.Sublist A):Iv k b g A' (D.take i++n::D.drop i)∧sw b g A D≤sw b g A' (D.take i++n::D.drop i):=by
  have hm:∀ x ∈ D.take i++n::D.drop i,x=n∨x ∈ D:=fun x hx=>by
    rcases v3.1 hx with a | a
    · exact .inr (F0 a)
    · rcases u2.1 a with a | a
      · exact .inl a
      · exact .inr (S5 a)
  refine⟨⟨h.bt,h.bg,h.sA.sublist hA,S4.2 ⟨h.sD.sublist (List.take_sublist _ _),S2.2 ⟨d,h.sD.sublist (List.drop_sublist _ _)⟩,fun x hx y hy=> ?_⟩,fun x hx=>h.lA x (hA.subset hx),fun x hx=> ?_⟩,zG h.le.2.2 (fun x hx=>h.le.1 x (hA.subset hx)) (fun x hx=> ?_)⟩
  · rcases u2.1 hy with rfl | hy
    · exact c x hx
    · exact L8 (c x hx) (d y hy)
  · rcases hm x hx with rfl | a
    · exact hn
    · exact h.lD x a
  · rcases hm x hx with rfl | a
    · exact hl
    · exact h.le.2.1 x a
end
def nA (m:aD):List Nat:=s5 ed.bI m.aC.ls
def nD (m:aD):List Nat:=s5 bH.aX m.aa.ak.ls
def lo (m:aD):Nat:=sw m.aa.ax m.bT (nA m) (nD m)
def Im (k:Nat) (m:aD):Prop:=k≤1000000∧Iv k m.aa.ax m.bT (nA m) (nD m)
theorem ze {k:Nat} {m:aD} (h:Im k m):gu m=m.aa.ax *4294967296+m.bT+1:=by
  have d:=h.2.bt
  have e:=h.2.bg
  have f:=h.1
  have a:fQ m.aa.ax 32=m.aa.ax *4294967296:=by unfold fQ; rw [show min 32 64=32 from rfl,show ((2:Int) ^ 32)=4294967296 from rfl,IntWalk.u64_in _ e6]; omega
  have c:IntKind.u64.wrap (((m.aa.ax *4294967296:Nat):Int)+((m.bT:Nat):Int))=((m.aa.ax *4294967296+m.bT:Nat):Int):=by rw [IntWalk.u64_in _ e6]; omega
  unfold gu
  rw [a,c,L4,IntWalk.u64_in _ e6]
  omega
theorem BR {α:Type} [Inhabited α] (f:α→Nat) (N:Nat) (A:List α):(if((s0 A:Nat):Int) > 0 then bnd (B8 A 0 default) fun y=>min N (f y) else N)=hdN N (s5 f A):=by
  cases A with
  | nil=>exact if_neg (by simp only [List.length_nil]; omega)
  | cons a A=>exact if_pos (by simp only [s1]; omega)
def Ei (N:Nat) (a:aD):Nat:=bnd N fun y=>bnd (if((s0 a.aC.ls:Nat):Int) > 0 then bnd (B8 a.aC.ls 0 default) fun x=>min y x.bI else y) fun s=>if((s0 a.aa.ak.ls:Nat):Int) > 0 then bnd (B8 a.aa.ak.ls 0 default) fun x=>min s x.aX else s
theorem BS (N:Nat) (m:aD):Ei N m=hdN (hdN N (nA m)) (nD m):=(BR bH.aX _ _).trans (congrArg (fun q=>hdN q (nD m)) (BR ed.bI _ _))
theorem zf (m:aD):gQ m=Ei (gu m) m:=by unfold gQ Ei; exact Eq.refl _
theorem Ej {k:Nat} {m:aD} (h:Im k m):gQ m=lo m:=by rw [zf,ze h,BS]; rfl
structure Tr (j:Nat) (p:bU) (m:aD) (t:bU) (m':aD):Prop where
  own:m'.aa.ag.ls=m.aa.ag.ls
  sh:m'.aa.au=m.aa.au
  ad:s0 m.aC.ls+s0 m.aa.ak.ls≤8→s0 m'.aC.ls+s0 m'.aa.ak.ls≤8
  la:s0 m'.aa.aK.ls≤s0 m.aa.aK.ls+j
  lw:∀ k,Im (k+j) m→k+j≤1000000→Im k m→Im (k+j) m'∧∃ o,t.bF.ls=p.bF.ls++o∧Lw (lo m) (lo m') o
theorem Tr.same (p:bU) (m:aD):Tr 0 p m p m:=⟨rfl,rfl,id,o4 _,fun k h _ _=>⟨h, [],(s6 _).symm,o4 _⟩⟩
theorem Im.mono {k j:Nat} {m:aD} (h:Im k m) (hj:k≤j) (hl:j≤1000000):Im j m:=⟨hl,h.2.mono hj⟩
theorem Tr.trans {i j:Nat} {p t u:bU} {m d e:aD} (a:Tr i p m t d) (c:Tr j t d u e):Tr (i+j) p m u e:=
  ⟨c.own.trans a.own,c.sh.trans a.sh,fun h=>c.ad (a.ad h),by have:=a.la; have:=c.la; omega,fun k _ hl hk=>by
    obtain⟨f,l,n,o⟩:=a.lw k (hk.mono e6 e6) e6 hk
    obtain⟨q,r,s,v⟩:=c.lw (k+i) (f.mono e6 e6) e6 f
    exact⟨Nat.add_assoc k i j ▸ q,l++r,by rw [s,n,q5],v.app o⟩⟩
theorem Tr.one {p t:bU} {m m':aD} (h:Tr 0 p m t m'):Tr 1 p m t m':=⟨h.own,h.sh,h.ad,Nat.le_succ_of_le h.la,fun k _ hl hk=>by
  obtain⟨a,c,d,e⟩:=h.lw k hk e6 hk
  exact⟨a.mono e6 hl,c,d,e⟩⟩
theorem JY {p t:bU} {m m':aD} {o:List bW} (hs:m'.aa=m.aa) (ha:nA m'=nA m) (hb:m'.bT=m.bT) (ho:t.bF.ls=p.bF.ls++o) (hk:∀ x ∈ o,x.av≠3):Tr 0 p m t m':=by
  have hl:s0 m'.aC.ls=s0 m.aC.ls:=by have:=congrArg s0 ha; simp only [nA,s3] at this; exact this
  have e:lo m'=lo m:=by unfold lo nD; rw [hs,ha,hb]
  refine⟨by rw [hs],by rw [hs],by rw [hs,hl]; exact id,by rw [hs]; exact o4 _,fun k h _ _=>⟨?_,o,ho,Kt (Nat.le_of_eq e.symm) hk⟩⟩
  unfold Im nD at h ⊢; rw [hs,ha,hb]; exact h
theorem AO (p:bU) (x:bW):∃ y,(dM p x).bF.ls=p.bF.ls++ [y]∧y.av=x.av∧y.eQ=x.eQ∧y.aX=x.aX:=⟨_,rfl,rfl,rfl,rfl⟩
theorem ru {p t:bU} {c:Int} {q:Nat} {k:Int} {l:List aQ} {m m':aD} (h:dL p c q k l m=(t,m')):m'.aa=m.aa∧m'.aC.ls=m.aC.ls∧m'.bT=m.bT∧(∃ x,t.bF.ls=p.bF.ls++ [x]∧x.av=2)∧(mV l→jR q→Mk m→Mk m'):=by
  unfold dL iT at h
  simp only [bnd] at h
  split at h
  · obtain⟨rfl,rfl⟩:=Prod.mk.inj h
    exact⟨rfl,rfl,rfl,⟨_,rfl,rfl⟩,fun hl hq M=>⟨M.oI,M.sF,M.qz,M.uO,M.dec,M.pO,M.act,M.nK,⟨hl,hq⟩,M.nV,M.nW,M.nX⟩⟩
  split at h
  · obtain⟨rfl,rfl⟩:=Prod.mk.inj h
    exact⟨rfl,rfl,rfl,⟨_,rfl,rfl⟩,fun hl hq M=>⟨M.oI,M.sF,M.qz,M.uO,M.dec,M.pO,M.act,M.nK,M.mh,⟨hl,hq⟩,M.nW,M.nX⟩⟩
  split at h
  · obtain⟨rfl,rfl⟩:=Prod.mk.inj h
    exact⟨rfl,rfl,rfl,⟨_,rfl,rfl⟩,fun hl hq M=>⟨M.oI,M.sF,M.qz,M.uO,M.dec,M.pO,M.act,M.nK,M.mh,M.nV,⟨hl,hq⟩,M.nX⟩⟩
  · obtain⟨rfl,rfl⟩:=Prod.mk.inj h
    exact⟨rfl,rfl,rfl,⟨_,rfl,rfl⟩,fun hl hq M=>⟨M.oI,M.sF,M.qz,M.uO,M.dec,M.pO,M.act,M.nK,M.mh,M.nV,M.nW,⟨hl,hq⟩⟩⟩
theorem AP (n:Nat) (f:Bool):∀ (l:List Int) (o:List bW), ∃ q,gP n f l o=o++q∧∀ x ∈ q,x.av=5
  | [],o=>⟨[],(s6 _).symm,fun x hx=>by cases hx⟩
  | s::l,o=>by
    simp only [gP,bnd]
    obtain⟨y,e,hk,_⟩:=AO (bU.mk (E0 o)) (bW.mk 5 0 s 0 0 0 0 0 n 0 0 0 0 0 0 f (aL.mk [] []) (E0 []) (E0 []) (E0 []))
    rw [e]
    obtain⟨q,a,c⟩:=AP n f l (o++ [y])
    refine⟨y::q,by rw [a,q5]; rfl,fun x hx=> ?_⟩
    rcases u2.1 hx with rfl | hx
    · exact hk
    · exact c x hx
theorem Cx (p:bU) (n:Nat) (l:List Int) (f:Bool):∃ q,(fV p n l f).bF.ls=p.bF.ls++q∧∀ x ∈ q,x.av=5:=by
  obtain⟨q,e,h⟩:=AP n f l p.bF.ls
  exact⟨q,by unfold fV; simp only [bnd]; exact e,h⟩
theorem Tr.decide (p:bU) (n:Nat) (l:List Int) (f:Bool) (m:aD):Tr 0 p m (fV p n l f) m:=by
  obtain⟨q,e,h⟩:=Cx p n l f
  exact JY rfl rfl rfl e (fun x hx=>by rw [h x hx]; decide)
theorem Tr.answer {p t:bU} {c:Int} {q:Nat} {k:Int} {l:List aQ} {m m':aD} (h:dL p c q k l m=(t,m')):Tr 0 p m t m':=by
  obtain⟨a,d,f,⟨x,e,hx⟩,i⟩:=ru h
  exact JY a (by unfold nA; rw [d]) f e (fun y hy=>by rw [m5.1 hy,hx]; decide)
theorem GK {m':aD} {o:List aM} {d:List bH} {l:List fF} {a:List ed} (c:m'.aa.ag.ls=o) (e:m'.aa.ak.ls=d) (f:m'.aa.aK.ls=l) (h:m'.aC.ls=a):aD.mk (bZ.mk m'.aa.au m'.aa.ax m'.aa.bG m'.aa.aF (E0 o) (E0 d) (E0 l)) m'.bT (E0 a) m'.bM m'.bD m'.bA m'.bC m'.bB m'.dO m'.dG m'.dH m'.dD m'.dE=m':=by subst c e f h; rfl
theorem uX {c m':aD} {o:List aM} {d:List bH} {l:List fF} {a:List ed} (h:aD.mk (bZ.mk c.aa.au c.aa.ax c.aa.bG c.aa.aF (E0 o) (E0 d) (E0 l)) c.bT (E0 a) c.bM c.bD c.bA c.bC c.bB c.dO c.dG c.dH c.dD c.dE=m') (e:c.aa.ag.ls=o) (f:c.aa.ak.ls=d) (i:c.aa.aK.ls=l) (j:c.aC.ls=a):c=m':=(GK e f i j).symm.trans h
theorem getD_at {α:Type} [Inhabited α] {l:List α} {i:Nat} (h:i < l.length):l[i]? =some (B8 l i default):=by
  rw [L7,p7 h]; rfl
def zg (m:aD) (i:Nat):aD:= { m with aC:=E0 (r3 i m.aC.ls++r4 (i+1) m.aC.ls) }
theorem ry {α:Type} (l:List α) (i:Nat):(r3 i l++r4 (i+1) l).Sublist l:=by
  have h:(r4 (i+1) l).Sublist (r4 i l):=by rw [← List.tail_drop]; exact List.tail_sublist _
  have:=(S6.refl (r3 i l)).append h
  rwa [List.take_append_drop] at this
theorem Mk.cut {m:aD} (M:Mk m) (i:Nat):Mk (zg m i):=⟨M.oI,M.sF,M.qz,M.uO,M.dec,M.pO,fun x hx=>M.act x ((ry _ _).subset hx),M.nK,M.mh,M.nV,M.nW,M.nX⟩
theorem Tr.cut (p:bU) (m:aD) (i:Nat):Tr 0 p m p (zg m i):=by
  have hs:=ry m.aC.ls i
  have hA:nA (zg m i)=r3 i (nA m)++r4 (i+1) (nA m):=by simp only [nA,zg,v2,S7,S8]
  refine⟨rfl,rfl,fun h=> ?_,o4 _,fun k h _ _=> ?_⟩
  · have:=hs.length_le; simp only [zg]; omega
  · have a:=h.2.sub (A':=nA (zg m i)) (hA ▸ ry (nA m) i) (S6.refl _)
    exact⟨⟨h.1,a.1⟩, [],(s6 _).symm,a.2⟩
theorem yh {m:aD} (M:Mk m) {i:Nat} (hi:i < m.aC.ls.length):Tok (B8 m.aC.ls i default):=M.act _ (D1 (getD_at hi))
theorem yj (l:List fu):s0 (gB l [])=s0 l:=(AJ l []).trans (Nat.zero_add _)
theorem yl {p t:bU} {i:Int} {m m':aD} (hi:C6 i < m.aC.ls.length) (h:iy p i m=(t,m')):m'.aa=m.aa∧Tr 0 p m t m'∧(Mk m→Mk m')∧s0 t.bF.ls=s0 p.bF.ls+1+s0 (B8 m.aC.ls (C6 i) default).aO.ls:=by
  unfold iy at h
  simp only [bnd] at h
  rcases e:dL p (B8 m.aC.ls (C6 i) default).bf (B8 m.aC.ls (C6 i) default).bi 2 [] (zg m (C6 i)) with ⟨c,d⟩
  have e':=e
  unfold zg at e'
  rw [e'] at h
  have ha:=ru e
  obtain⟨rfl,a⟩:=Prod.mk.inj h
  obtain rfl:=uX a (by rw [ha.1]; rfl) (by rw [ha.1]; rfl) (by rw [ha.1]; rfl) (by rw [ha.2.1]; rfl)
  exact⟨ha.1,(Tr.cut p m (C6 i)).trans ((Tr.answer e).trans (Tr.decide _ _ _ _ _)),fun M=>ha.2.2.2.2 l9 (yh M hi).tY (M.cut _),by
    obtain⟨x,e,_⟩:=ha.2.2.2.1
    rw [Cw rfl,e,o2,List.length_singleton]
    simp only [kr,bnd]; rw [yj]⟩
theorem Du (a b:Nat):gZ a b < 0↔a < b:=by
  unfold gZ lS
  simp only [bnd]
  by_cases h:((a:Nat):Int) < ((b:Nat):Int)
  · simp [h]; omega
  · by_cases c:((a:Nat):Int) > ((b:Nat):Int) <;> simp [h,c] <;> omega
theorem AQ {l:List bH} {n:Nat} (hs:∀ i j:Nat,i≤j→j < l.length→(B8 l i default).aX≤(B8 l j default).aX):∀ (f a b:Nat),a≤b→b≤l.length→b - a < f→(∀ i,i < a→(B8 l i default).aX < n)→(∀ i,b≤i→i < l.length→n≤(B8 l i default).aX)→
    ∃ r,di l n f a b=r∧r≤l.length∧(∀ i,i < r→(B8 l i default).aX < n)∧(∀ i,r≤i→i < l.length→n≤(B8 l i default).aX)
  | 0,a,b,_,_,h,_,_=>by omega
  | f+1,a,b,hab,hb,hf,c,d=>by
    simp only [di,bnd]
    by_cases hlt:((a:Nat):Int) < ((b:Nat):Int)
    · rw [if_pos hlt]
      by_cases hc:gZ (B8 l ((a+b) / 2) default).aX n < 0
      · rw [if_pos hc]
        rw [Du] at hc
        exact AQ hs f _ _ e6 hb e6 (fun i hi=>Nat.lt_of_le_of_lt (hs i ((a+b) / 2) e6 e6) hc) d
      · rw [if_neg hc]
        rw [Du] at hc
        exact AQ hs f _ _ e6 e6 e6 c (fun i hi hl=>L8 (Nat.le_of_not_lt hc) (hs ((a+b) / 2) i hi hl))
    · rw [if_neg hlt]
      exact⟨a,rfl,e6,c,fun i hi hl=>d i e6 hl⟩
theorem El {l:List bH} (h:S0 (· ≤ ·) (s5 bH.aX l)) (i j:Nat) (hij:i≤j) (hj:j < l.length):(B8 l i default).aX≤(B8 l j default).aX:=by
  rcases Nat.lt_or_eq_of_le hij with a | rfl
  · have:=List.pairwise_iff_getElem.1 h i j j2 j2 a
    rw [S9,S9] at this
    rw [L7,L7,p7 e6,p7 hj]
    exact this
  · exact o4 _
theorem Em {l:List bH} {n:Nat} {r:Int × Bool} (hr:bQ l n=r) (h:S0 (· ≤ ·) (s5 bH.aX l)):(∀ x ∈ r3 (C6 r.1) (s5 bH.aX l),x≤n)∧(∀ x ∈ r4 (C6 r.1) (s5 bH.aX l),n≤x):=by
  obtain⟨q,e,hl,a,c⟩:=AQ (El h) ((l.length - 0)+1) 0 l.length (Lp _) (o4 _) e6 (fun i hi=>by omega) (fun i hi hl=>by omega)
  have hq:C6 r.1=q:=by
    rw [← hr]; unfold bQ
    simp only [bnd]
    rw [e]
    split <;> rfl
  rw [hq]
  have at_:∀ i (hi:i < l.length),(s5 bH.aX l)[i]'(by rw [s3]; exact hi)=(B8 l i default).aX:=fun i hi=>by
    rw [S9,L7,p7 hi]; rfl
  refine⟨fun x hx=> ?_,fun x hx=> ?_⟩
  · obtain⟨i,hi,rfl⟩:=List.mem_take_iff_getElem.1 hx
    rw [s3] at hi
    rw [at_ i e6]
    exact Nat.le_of_lt (a i e6)
  · obtain⟨i,hi,rfl⟩:=List.mem_drop_iff_getElem.1 hx
    rw [s3] at hi
    rw [at_ (q+i) e6]
    exact c _ e6 e6
def qP (m:aD) (i j:Nat) (d:bH) (L:List fF):aD:= { m with aa:=bZ.mk m.aa.au m.aa.ax m.aa.bG m.aa.aF (E0 m.aa.ag.ls) (E0 (r3 j m.aa.ak.ls++(d::r4 j m.aa.ak.ls))) (E0 L),aC:=E0 (r3 i m.aC.ls++r4 (i+1) m.aC.ls) }
theorem Tr.com (p:bU) (m:aD) {i j:Nat} {d:bH} {L:List fF} (hi:i < m.aC.ls.length) (hd:d.aX=(B8 m.aC.ls i default).bI) (hL:s0 L≤s0 m.aa.aK.ls+1)
    (hj:S0 (· ≤ ·) (nD m)→(∀ x ∈ r3 j (nD m),x≤d.aX)∧(∀ x ∈ r4 j (nD m),d.aX≤x)):Tr 1 p m p (qP m i j d L):=by
  have hA:nA (qP m i j d L)=r3 i (nA m)++r4 (i+1) (nA m):=by simp only [nA,qP,v2,S7,S8]
  have hD:nD (qP m i j d L)=r3 j (nD m)++d.aX::r4 j (nD m):=by simp only [nD,qP,v2,List.map_cons,S7,S8]
  have hm:d.aX ∈ nA m:=by rw [hd]; exact List.mem_map.2 ⟨_,D1 (getD_at hi),rfl⟩
  refine⟨rfl,rfl,fun h=> ?_,hL,fun k _ hl h=> ?_⟩
  · simp only [qP,o2,o0,o1,s1]; omega
  · have a:=h.2.ins (h.2.lA _ hm) (hj h.2.sD).1 (hj h.2.sD).2 (h.2.le.1 _ hm) (nA (qP m i j d L)) (hA ▸ ry (nA m) i)
    rw [← hD] at a
    exact⟨⟨hl,a.1.mono (T0 k)⟩, [],(s6 _).symm,a.2⟩
theorem Mk.com {m:aD} (M:Mk m) {i j:Nat} {d:bH} {L:List fF} (hd:jR d.aX∧jR d.ax∧jR d.aU∧s0 d.au.ls≤1000) (hL:∀ x ∈ L,jR x.ax∧jR x.aU∧mV x.ah.ls):Mk (qP m i j d L):=
  ⟨M.oI,M.sF,M.qz,M.uO,fun x hx=>by
    rcases v3.1 hx with h | h
    · exact M.dec x (F0 h)
    · rcases u2.1 h with rfl | h
      · exact hd
      · exact M.dec x (S5 h),hL,fun x hx=>M.act x ((ry _ _).subset hx),M.nK,M.mh,M.nV,M.nW,M.nX⟩
set_option maxHeartbeats 2000000 in
theorem Bo {p t:bU} {i:Int} {m m':aD} (hi:C6 i < m.aC.ls.length) (h:lC p i m=(t,m')):Tr 1 p m t m'∧(Mk m→Mk m'):=by
  unfold lC at h
  simp only [bnd,kr] at h
  have hT:=fun M:Mk m=>yh M hi
  generalize hy:B8 m.aC.ls (C6 i) default=y at h hT
  rcases eg:nQ y.cB.ls y.aO.ls y.ai.ls with ⟨rs,ge⟩
  rw [eg] at h
  have hgr:=fun M:Mk m=>yf eg (hT M).ops.1 (hT M).ops.2 (hT M).Ci
  rcases es:bQ m.aa.ak.ls y.bI with ⟨j,oj⟩
  rcases el:ik m.aa.aK.ls y.bf with ⟨q,oq⟩
  rw [es,el] at h
  obtain⟨sl,hsl⟩:∃ sl,gB y.aO.ls []=sl:=⟨_,rfl⟩
  rw [hsl] at h
  have hds:=fun M:Mk m=>(show jR y.bI∧jR m.aa.ax∧jR y.bi∧s0 sl≤1000 from ⟨(hT M).num,M.oI,(hT M).tY,by have:=(hT M).len; rw [← hsl,yj]; omega⟩)
  have go:∀ {L:List fF} {f:bU} {c:aD},dL p y.bf y.bi 1 rs (qP m (C6 i) (C6 j) (bH.mk y.bI y.bf m.aa.ax y.bi (E0 sl)) L)=(f,c)→s0 L≤s0 m.aa.aK.ls+1→(Mk m→∀ x ∈ L,jR x.ax∧jR x.aU∧mV x.ah.ls)→Tr 1 p m (fV f y.bI sl true) c∧(Mk m→Mk c):=fun {L f c} e hL hM=>by
    have ha:=ru e
    have hc:Tr 1 p m p (qP m (C6 i) (C6 j) (bH.mk y.bI y.bf m.aa.ax y.bi (E0 sl)) L):=Tr.com p m hi (by rw [hy]) hL fun hp=>Em es hp
    exact⟨hc.trans ((Tr.answer e).trans (Tr.decide _ _ _ _ _)),fun M=>ha.2.2.2.2 (hgr M) (hT M).tY (M.com (hds M) (hM M))⟩
  split at h
  · split at h
    · rcases e:dL p y.bf y.bi 1 rs (qP m (C6 i) (C6 j) (bH.mk y.bI y.bf m.aa.ax y.bi (E0 sl)) (I3 m.aa.aK.ls (C6 q) (fF.mk y.bf m.aa.ax y.bi (E0 rs)))) with ⟨f,c⟩
      have ha:=ru e
      have e':=e
      unfold qP at e'
      rw [e'] at h
      obtain⟨rfl,a⟩:=Prod.mk.inj h
      obtain rfl:=uX a (by rw [ha.1]; rfl) (by rw [ha.1]; rfl) (by rw [ha.1]; rfl) (by rw [ha.2.1]; rfl)
      refine go e (by rw [G4]; omega) fun M x hx=> ?_
      rcases O3 hx with d | rfl
      · exact M.pO x d
      · exact⟨M.oI,(hT M).tY,hgr M⟩
    · rcases e:dL p y.bf y.bi 1 rs (qP m (C6 i) (C6 j) (bH.mk y.bI y.bf m.aa.ax y.bi (E0 sl)) (r3 (C6 q) m.aa.aK.ls++((fF.mk y.bf m.aa.ax y.bi (E0 rs))::r4 (C6 q) m.aa.aK.ls))) with ⟨f,c⟩
      have ha:=ru e
      have e':=e
      unfold qP at e'
      rw [e'] at h
      obtain⟨rfl,a⟩:=Prod.mk.inj h
      obtain rfl:=uX a (by rw [ha.1]; rfl) (by rw [ha.1]; rfl) (by rw [ha.1]; rfl) (by rw [ha.2.1]; rfl)
      refine go e (by rw [o2,s1,o0,o1]; omega) fun M x hx=> ?_
      rcases v3.1 hx with d | d
      · exact M.pO x (F0 d)
      · rcases u2.1 d with rfl | d
        · exact⟨M.oI,(hT M).tY,hgr M⟩
        · exact M.pO x (S5 d)
  · rcases e:iy p i m with ⟨f,c⟩
    rw [e] at h
    have ha:=yl hi e
    obtain⟨rfl,a⟩:=Prod.mk.inj h
    obtain rfl:=uX a (by rw [ha.1]) (by rw [ha.1]) (by rw [ha.1]) rfl
    exact⟨ha.2.1.one,ha.2.2.1⟩
def Dv (m:aD) (i:Nat) (y:ed):aD:= { m with aC:=E0 (I3 m.aC.ls i y) }
theorem En {l:List ed} {i:Nat} {y:ed} (hy:y.bI=(B8 l i default).bI):s5 ed.bI (I3 l i y)=s5 ed.bI l:=by
  rw [List.map_set]
  by_cases h:i < l.length
  · have:(s5 ed.bI l)[i]'(by rw [s3]; exact h)=y.bI:=by rw [S9,hy,L7,p7 h]; rfl
    rw [← this]; exact T1 _
  · exact T2 j2
theorem Tr.set (p:bU) (m:aD) {i:Nat} {y:ed} (hy:y.bI=(B8 m.aC.ls i default).bI):Tr 0 p m p (Dv m i y):=JY rfl (En hy) rfl (s6 _).symm (fun x hx=>by cases hx)
theorem Mk.set {m:aD} (M:Mk m) {i:Nat} {y:ed} (hy:Tok y):Mk (Dv m i y):=⟨M.oI,M.sF,M.qz,M.uO,M.dec,M.pO,qN M.act hy,M.nK,M.mh,M.nV,M.nW,M.nX⟩
theorem Gg {l:List ed} {n:Nat} {r:Int × Bool} (hr:dN l n=r) (h:r.2=true):C6 r.1 < l.length:=by
  unfold dN at hr
  simp only [bnd] at hr
  split at hr
  · subst hr; simp only [L4]; omega
  · subst hr; cases h
theorem zh {p t:bU} {x:bW} {m m':aD} (h:lq p x m=(t,m')):Tr 1 p m t m'∧(mV x.ah.ls→Mk m→Mk m'):=by
  have same:(p,m)=(t,m')→Tr 1 p m t m'∧(mV x.ah.ls→Mk m→Mk m'):=fun h=>by
    obtain⟨rfl,rfl⟩:=Prod.mk.inj h
    exact⟨(Tr.same p m).one,fun _ M=>M⟩
  unfold lq iT at h
  simp only [bnd] at h
  rcases ef:dN m.aC.ls x.aX with ⟨i,ok⟩
  rw [ef] at h
  split at h
  case isFalse=>exact same h
  rename_i hok
  have hi:=Gg ef hok
  split at h
  · exact same h
  split at h
  · exact same h
  have ab:∀ {d:bU} {a:aD},iy p i m=(d,a)→(d,aD.mk (bZ.mk a.aa.au a.aa.ax a.aa.bG a.aa.aF (E0 m.aa.ag.ls) (E0 m.aa.ak.ls) (E0 m.aa.aK.ls)) a.bT (E0 a.aC.ls) a.bM a.bD a.bA a.bC a.bB a.dO a.dG a.dH a.dD a.dE)=(t,m')→Tr 1 p m t m'∧(mV x.ah.ls→Mk m→Mk m'):=fun e h=>by
    have ha:=yl hi e
    obtain⟨rfl,c⟩:=Prod.mk.inj h
    obtain rfl:=uX c (by rw [ha.1]) (by rw [ha.1]) (by rw [ha.1]) rfl
    exact⟨ha.2.1.one,fun _=>ha.2.2.1⟩
  split at h
  · split at h
    · split at h
      · obtain⟨rfl,rfl⟩:=Prod.mk.inj h
        refine⟨Tr.one ?_,fun hr M=>M.set (i:=C6 i) (q8 (yh M hi) hr)⟩
        refine Tr.set p m (i:=C6 i) ?_
        rfl
      · rcases e:lC p i (Dv m (C6 i) (ed.mk (B8 m.aC.ls (C6 i) default).bI (B8 m.aC.ls (C6 i) default).bf (B8 m.aC.ls (C6 i) default).bi (B8 m.aC.ls (C6 i) default).fE (E0 (B8 m.aC.ls (C6 i) default).cB.ls) (E0 (B8 m.aC.ls (C6 i) default).aO.ls) (E0 (I3 (B8 m.aC.ls (C6 i) default).bL.ls (C6 (ic (B8 m.aC.ls (C6 i) default).aO.ls x)) true)) (E0 (I3 (B8 m.aC.ls (C6 i) default).ai.ls (C6 (ic (B8 m.aC.ls (C6 i) default).aO.ls x)) (E0 x.ah.ls))) (B8 m.aC.ls (C6 i) default).iI)) with ⟨d,a⟩
        have e':=e
        unfold Dv at e'
        rw [e'] at h
        have hc:=Bo (by unfold Dv; simp only [G4]; exact hi) e
        obtain⟨rfl,c⟩:=Prod.mk.inj h
        obtain rfl:=uX c (by rw [hc.1.own]; rfl) rfl rfl rfl
        refine⟨Nat.zero_add 1 ▸ Tr.trans ?_ hc.1,fun hr M=>hc.2 (M.set (q8 (yh M hi) hr))⟩
        refine Tr.set p m (i:=C6 i) ?_
        rfl
    · rcases e:iy p i m with ⟨d,a⟩
      rw [e] at h; exact ab e h
  · rcases e:iy p i m with ⟨d,a⟩
    rw [e] at h; exact ab e h
def sdX (m:aD) (D:List bH):aD:= { m with aa:=bZ.mk m.aa.au m.aa.ax m.aa.bG m.aa.aF (E0 m.aa.ag.ls) (E0 D) (E0 m.aa.aK.ls) }
theorem Tr.sdX (p:bU) (m:aD) {D:List bH} (h:(s5 bH.aX D).Sublist (nD m)):Tr 1 p m p (sdX m D):=by
  have hl:=h.length_le
  simp only [nD,s3] at hl
  refine⟨rfl,rfl,fun h=> ?_,T0 _,fun k _ hk c=> ?_⟩
  · show s0 m.aC.ls+s0 D≤8; omega
  · have a:=c.2.sub (S6.refl _) h
    exact⟨⟨hk,a.1.mono (T0 k)⟩, [],(s6 _).symm,a.2⟩
theorem Eo {l:List bH} {i:Nat} {y:bH} (hy:y.aX=(B8 l i default).aX):s5 bH.aX (I3 l i y)=s5 bH.aX l:=by
  rw [List.map_set]
  by_cases h:i < l.length
  · have:(s5 bH.aX l)[i]'(by rw [s3]; exact h)=y.aX:=by rw [S9,hy,L7,p7 h]; rfl
    rw [← this]; exact T1 _
  · exact T2 j2
theorem xA (l:List Int) (c:bW):∀ (f:Nat) (a b:Int) (q:List Int),s0 (gJ l c f a b q).2≤s0 q
  | 0,a,b,q=>Lp _
  | f+1,a,b,q=>by
    simp only [gJ,bnd]
    split
    · split
      · exact xA l c f _ _ _
      · exact L8 (xA l c f _ _ _) (by rw [G4]; exact o4 _)
    · exact o4 _
theorem Fq (l:List Int) (c:bW):s0 (ig l c)≤s0 l:=by
  unfold ig
  simp only [bnd]
  split
  · exact o4 _
  · rw [o0]; exact L8 (S1 _ _) (xA _ _ _ _ _ _)
theorem Gh {l:List bH} {n:Nat} {r:Int × Bool} (hr:bQ l n=r) (h:r.2=true):C6 r.1 < l.length:=by
  unfold bQ at hr
  simp only [bnd] at hr
  split at hr
  · subst hr; simp only [L4]; omega
  · subst hr; cases h
theorem oH {p t:bU} {x:bW} {m m':aD} (h:lT p x m=(t,m')):(∃ D,m'=sdX m D)∧Tr 1 p m t m'∧(Mk m→Mk m'):=by
  unfold lT at h
  simp only [bnd] at h
  rcases ef:bQ m.aa.ak.ls x.aX with ⟨i,ok⟩
  rw [ef] at h
  split at h
  · rename_i hok
    have hi:=Gh ef hok
    have a:=fun M:Mk m=>M.dec _ (D1 (getD_at hi))
    generalize hy:B8 m.aa.ak.ls (C6 i) default=y at h a
    have hD:Mk m→Dk (I3 m.aa.ak.ls (C6 i) (bH.mk y.aX y.aP y.ax y.aU (E0 (ig y.au.ls x)))):=fun M z hz=>by
      rcases O3 hz with d | rfl
      · exact M.dec z d
      · have c:=a M
        exact⟨c.1,c.2.1,c.2.2.1,L8 (Fq _ _) c.2.2.2⟩
    have hmap:s5 bH.aX (I3 m.aa.ak.ls (C6 i) (bH.mk y.aX y.aP y.ax y.aU (E0 (ig y.au.ls x))))=nD m:=Eo (by rw [hy])
    generalize I3 m.aa.ak.ls (C6 i) (bH.mk y.aX y.aP y.ax y.aU (E0 (ig y.au.ls x)))=D at h hD hmap
    split at h
    · obtain⟨rfl,rfl⟩:=Prod.mk.inj h
      exact⟨⟨_,rfl⟩,Tr.sdX p m (hmap ▸ (ry D (C6 i)).map bH.aX),fun M=>⟨M.oI,M.sF,M.qz,M.uO,fun y hy=>hD M y ((ry _ _).subset hy),M.pO,M.act,M.nK,M.mh,M.nV,M.nW,M.nX⟩⟩
    · obtain⟨rfl,rfl⟩:=Prod.mk.inj h
      exact⟨⟨_,rfl⟩,Tr.sdX p m (hmap ▸ S6.refl _),fun M=>⟨M.oI,M.sF,M.qz,M.uO,hD M,M.pO,M.act,M.nK,M.mh,M.nV,M.nW,M.nX⟩⟩
  · obtain⟨rfl,rfl⟩:=Prod.mk.inj h
    exact⟨⟨_,rfl⟩,(Tr.same p m).one,id⟩
theorem Fs (p:bU) (x:bW) (m:aD):Tr 1 p m (mP p x m) m:=by
  unfold mP
  simp only [bnd]
  split
  · exact(Tr.decide _ _ _ _ _).one
  · split
    · exact(Tr.same p m).one
    · exact(Tr.decide _ _ _ _ _).one
theorem Lw.all {w n b:Nat} (hn:w≤n) (hb:w≤b):∀ {l:List bW} {a:Nat},a≤w→(∀ x ∈ l,x.av=3∧x.eQ=w∧x.aX=n)→Lw a b l
  | [],a,ha,_=>L8 ha hb
  | x::l,a,ha,h=>by
    have hx:=h x b1
    unfold Lw
    rw [if_pos hx.1,hx.2.1,hx.2.2]
    exact⟨ha,hn,Lw.all hn hb (o4 _) fun y hy=>h y (.tail _ hy)⟩
theorem Tr.tells {p t:bU} {m m':aD} {j n:Nat} {q:List bW} (h:Tr j p m p m') (ho:t.bF.ls=p.bF.ls++q) (hq:∀ z ∈ q,z.av=3∧z.eQ=gQ m'∧z.aX=n) (hn:∀ k,Im k m→k+j≤1000000→n ∈ nA m'):Tr j p m t m':=
  ⟨h.own,h.sh,h.ad,h.la,fun k c hl hk=>by
    obtain⟨a,o,e,d⟩:=h.lw k c hl hk
    have f:lo m≤lo m':=by
      have:o= []:=by have:=congrArg s0 e; rw [o2] at this; exact List.length_eq_zero_iff.1 e6
      subst this; exact d
    exact⟨a,q,ho,Lw.all (a.2.le.1 n (hn k hk hl)) (o4 _) f fun z hz=>⟨(hq z hz).1,(hq z hz).2.1.trans (Ej a),(hq z hz).2.2⟩⟩⟩
end Go.Proofs.YtbkagebjhbphaaaGreat
