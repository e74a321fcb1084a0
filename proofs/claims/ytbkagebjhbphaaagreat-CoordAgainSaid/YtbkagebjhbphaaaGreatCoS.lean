/-
  What a step does to the coordinator: what stays, which numbers there are, which Low is told. Conditions: none beyond each law's own.
-/
import Derived.Test.YtbkagebjhbphaaaGreatCh
import Derived.Test.YtbkagebjhbphaaaGreatCi
import Derived.Test.YtbkagebjhbphaaaGreatCj
namespace Go.Proofs.YtbkagebjhbphaaaGreat
open Int renaming toNat→D2,toNat_natCast→J8
open IntKind renaming i64→C7
open List renaming Pairwise→Q0,Sublist→Q7,append_assoc→q7,append_nil→s9,drop→r6,getD→C2,getD_eq_getElem?_getD→K1,getElem?_eq_getElem→s5,getElem?_set_self→S0,getElem_map→R6,length→s2,length_append→p5,length_cons→s3,length_drop→p4,length_map→s6,length_set→H5,length_take→p3,map→s8,map_append→v7,map_drop→Q9,map_take→Q8,mem_append→v8,mem_cons→v2,mem_of_getElem?→E0,mem_of_mem_drop→Q5,mem_of_mem_take→G1,mem_or_eq_of_mem_set→M9,mem_singleton→m4,pairwise_append→Q4,pairwise_cons→Q2,set→u5,set_eq_of_length_le→R9,set_getElem_self→R8,take→r5
open Ll renaming mk→E4
open Nat renaming le_refl→m5,le_succ→R7,le_succ_of_le→Q6,le_trans→K2,min_le_right→Q1,succ_le_succ→Q3
set_option linter.unusedVariables false
set_option linter.unusedSimpArgs false
def Lw:Nat→Nat→List bM→Prop
  | a,b, []=>a≤b
  | a,b,x::r=>if x.aG=3 then a≤x.dW∧x.dW≤x.aU∧Lw x.dW b r else Lw a b r
theorem Lw.app {b c:Nat} {r:List bM} (d:Lw b c r):∀ {l:List bM} {a:Nat},Lw a b l→Lw a c (l++r)
  | [],a,h=>by
    revert a
    induction r generalizing b with
    | nil=>exact fun a h=>K2 h d
    | cons x r ih=>
      intro a h
      simp only [List.nil_append,Lw] at h d ⊢
      by_cases e:x.aG=3
      · rw [if_pos e] at d ⊢; exact⟨K2 h d.1,d.2⟩
      · rw [if_neg e] at d ⊢; exact ih d a h
  | x::l,a,h=>by
    simp only [List.cons_append,Lw] at h ⊢
    by_cases e:x.aG=3
    · rw [if_pos e] at h ⊢; exact⟨h.1,h.2.1,Lw.app d h.2.2⟩
    · rw [if_neg e] at h ⊢; exact Lw.app d h
theorem Ir {a b:Nat} (hab:a≤b):∀ {l:List bM},(∀ x ∈ l,x.aG≠3)→Lw a b l
  | [],_=>hab
  | x::l,h=>by unfold Lw; rw [if_neg (h x b1)]; exact Ir hab fun y hy=>h y (.tail _ hy)
def hdN (n:Nat):List Nat→Nat
  | []=>n
  | x::_=>min n x
def r9 (b g:Nat) (A D:List Nat):Nat:=hdN (hdN (b *4294967296+g+1) A) D
structure Iv (k b g:Nat) (A D:List Nat):Prop where
  bt:b < 2147483648
  bg:g≤k
  sA:Q0 (· ≤ ·) A
  sD:Q0 (· ≤ ·) D
  lA:∀ x ∈ A,x≤b *4294967296+g
  lD:∀ x ∈ D,x≤b *4294967296+g
theorem Ac (n:Nat) (l:List Nat):hdN n l≤n:=by cases l with
  | nil=>exact m5 _
  | cons x l=>exact Nat.min_le_left _ _
theorem Bl {n:Nat} {l:List Nat} (h:Q0 (· ≤ ·) l):∀ x ∈ l,hdN n l≤x:=by cases l with
  | nil=>intro x hx; cases hx
  | cons y l=>
    intro x hx
    refine K2 (Q1 _ _) ?_
    rcases v2.1 hx with rfl | hx
    · exact m5 _
    · exact(Q2.1 h).1 x hx
theorem Cu {a n:Nat} {l:List Nat} (h:a≤n) (hl:∀ x ∈ l,a≤x):a≤hdN n l:=by cases l with
  | nil=>exact h
  | cons y l=>exact Nat.le_min.2 ⟨h,hl y b1⟩
section
variable {k b g:Nat} {A D:List Nat}
theorem Iv.le (h:Iv k b g A D):(∀ x ∈ A,r9 b g A D≤x)∧(∀ x ∈ D,r9 b g A D≤x)∧r9 b g A D≤b *4294967296+g+1:=
  ⟨fun x hx=>K2 (Ac _ _) (Bl h.sA x hx),Bl h.sD,K2 (Ac _ _) (Ac _ _)⟩
theorem zl {a:Nat} (h:a≤b *4294967296+g+1) (hA:∀ x ∈ A,a≤x) (hD:∀ x ∈ D,a≤x):a≤r9 b g A D:=Cu (Cu h hA) hD
theorem Iv.mono {j:Nat} (h:Iv k b g A D) (hj:k≤j):Iv j b g A D:=⟨h.bt,K2 h.bg hj,h.sA,h.sD,h.lA,h.lD⟩
theorem Iv.sub {A' D':List Nat} (h:Iv k b g A D) (hA:A'.Sublist A) (hD:D'.Sublist D):Iv k b g A' D'∧r9 b g A D≤r9 b g A' D':=
  ⟨⟨h.bt,h.bg,h.sA.sublist hA,h.sD.sublist hD,fun x hx=>h.lA x (hA.subset hx),fun x hx=>h.lD x (hD.subset hx)⟩,zl h.le.2.2 (fun x hx=>h.le.1 x (hA.subset hx)) (fun x hx=>h.le.2.1 x (hD.subset hx))⟩
theorem Iv.more (h:Iv k b g A D):Iv (k+1) b (g+1) (A++ [b *4294967296+g+1]) D∧Iv (k+1) b (g+1) A D∧r9 b g A D≤r9 b (g+1) (A++ [b *4294967296+g+1]) D∧r9 b g A D≤r9 b (g+1) A D:=by
  have hle:=h.le
  refine⟨⟨h.bt,Q3 h.bg,Q4.2 ⟨h.sA,List.pairwise_singleton _ _,fun x hx y hy=> ?_⟩,h.sD,fun x hx=> ?_,fun x hx=>K2 (h.lD x hx) e6⟩,⟨h.bt,Q3 h.bg,h.sA,h.sD,fun x hx=>K2 (h.lA x hx) e6,fun x hx=>K2 (h.lD x hx) e6⟩,zl e6 (fun x hx=> ?_) hle.2.1,zl e6 hle.1 hle.2.1⟩
  · have a:=h.lA x hx; have c:=m4.1 hy; omega
  · rcases v8.1 hx with a | a
    · have:=h.lA x a; omega
    · have:=m4.1 a; omega
  · rcases v8.1 hx with a | a
    · exact hle.1 x a
    · rw [m4.1 a]; exact hle.2.2
theorem Iv.ins {i n:Nat} (h:Iv k b g A D) (hn:n≤b *4294967296+g) (c:∀ x ∈ D.take i,x≤n) (d:∀ x ∈ D.drop i,n≤x) (hl:r9 b g A D≤n) (A':List Nat) (hA:A'.Sublist A):Iv k b g A' (D.take i++n::D.drop i)∧r9 b g A D≤r9 b g A' (D.take i++n::D.drop i):=by
  have hm:∀ x ∈ D.take i++n::D.drop i,x=n∨x ∈ D:=fun x hx=>by
    rcases v8.1 hx with a | a
    · exact .inr (G1 a)
    · rcases v2.1 a with a | a
      · exact .inl a
      · exact .inr (Q5 a)
  refine⟨⟨h.bt,h.bg,h.sA.sublist hA,Q4.2 ⟨h.sD.sublist (List.take_sublist _ _),Q2.2 ⟨d,h.sD.sublist (List.drop_sublist _ _)⟩,fun x hx y hy=> ?_⟩,fun x hx=>h.lA x (hA.subset hx),fun x hx=> ?_⟩,zl h.le.2.2 (fun x hx=>h.le.1 x (hA.subset hx)) (fun x hx=> ?_)⟩
  · rcases v2.1 hy with rfl | hy
    · exact c x hx
    · exact K2 (c x hx) (d y hy)
  · rcases hm x hx with rfl | a
    · exact hn
    · exact h.lD x a
  · rcases hm x hx with rfl | a
    · exact hl
    · exact h.le.2.1 x a
end
def nA (m:aB):List Nat:=s8 dD.aR m.au.ls
def nD (m:aB):List Nat:=s8 bJ.aU m.aa.ak.ls
def lo (m:aB):Nat:=r9 m.aa.ay m.bP (nA m) (nD m)
def Im (k:Nat) (m:aB):Prop:=k≤1000000∧Iv k m.aa.ay m.bP (nA m) (nD m)
theorem yR {k:Nat} {m:aB} (h:Im k m):gP m=m.aa.ay *4294967296+m.bP+1:=by
  have d:=h.2.bt
  have e:=h.2.bg
  have f:=h.1
  have a:fD m.aa.ay 32=m.aa.ay *4294967296:=by unfold fD; rw [show min 32 64=32 from rfl,show ((2:Int) ^ 32)=4294967296 from rfl,IntWalk.u64_in _ e6]; omega
  have c:IntKind.u64.wrap (((m.aa.ay *4294967296:Nat):Int)+((m.bP:Nat):Int))=((m.aa.ay *4294967296+m.bP:Nat):Int):=by rw [IntWalk.u64_in _ e6]; omega
  unfold gP
  rw [a,c,J8,IntWalk.u64_in _ e6]
  omega
theorem Bn {α:Type} [Inhabited α] (f:α→Nat) (N:Nat) (A:List α):(if((s2 A:Nat):Int) > 0 then bnd (C2 A 0 default) fun y=>min N (f y) else N)=hdN N (s8 f A):=by
  cases A with
  | nil=>exact if_neg (by simp only [List.length_nil]; omega)
  | cons a A=>exact if_pos (by simp only [s3]; omega)
def Di (N:Nat) (a:aB):Nat:=bnd N fun y=>bnd (if((s2 a.au.ls:Nat):Int) > 0 then bnd (C2 a.au.ls 0 default) fun x=>min y x.aR else y) fun s=>if((s2 a.aa.ak.ls:Nat):Int) > 0 then bnd (C2 a.aa.ak.ls 0 default) fun x=>min s x.aU else s
theorem D6 (N:Nat) (m:aB):Di N m=hdN (hdN N (nA m)) (nD m):=(Bn bJ.aU _ _).trans (congrArg (fun q=>hdN q (nD m)) (Bn dD.aR _ _))
theorem Cv (m:aB):gG m=Di (gP m) m:=by unfold gG Di; exact Eq.refl _
theorem Dj {k:Nat} {m:aB} (h:Im k m):gG m=lo m:=by rw [Cv,yR h,D6]; rfl
structure Tr (j:Nat) (p:bE) (m:aB) (t:bE) (m':aB):Prop where
  own:m'.aa.ag.ls=m.aa.ag.ls
  sh:m'.aa.av=m.aa.av
  ad:s2 m.au.ls+s2 m.aa.ak.ls≤8→s2 m'.au.ls+s2 m'.aa.ak.ls≤8
  la:s2 m'.aa.aJ.ls≤s2 m.aa.aJ.ls+j
  lw:∀ k,Im (k+j) m→k+j≤1000000→Im k m→Im (k+j) m'∧∃ o,t.bq.ls=p.bq.ls++o∧Lw (lo m) (lo m') o
theorem Tr.same (p:bE) (m:aB):Tr 0 p m p m:=⟨rfl,rfl,id,m5 _,fun k h _ _=>⟨h, [],(s9 _).symm,m5 _⟩⟩
theorem Im.mono {k j:Nat} {m:aB} (h:Im k m) (hj:k≤j) (hl:j≤1000000):Im j m:=⟨hl,h.2.mono hj⟩
theorem Tr.trans {i j:Nat} {p t u:bE} {m d e:aB} (a:Tr i p m t d) (c:Tr j t d u e):Tr (i+j) p m u e:=
  ⟨c.own.trans a.own,c.sh.trans a.sh,fun h=>c.ad (a.ad h),by have:=a.la; have:=c.la; omega,fun k _ hl hk=>by
    obtain⟨f,l,n,o⟩:=a.lw k (hk.mono e6 e6) e6 hk
    obtain⟨q,r,s,v⟩:=c.lw (k+i) (f.mono e6 e6) e6 f
    exact⟨Nat.add_assoc k i j ▸ q,l++r,by rw [s,n,q7],v.app o⟩⟩
theorem Tr.one {p t:bE} {m m':aB} (h:Tr 0 p m t m'):Tr 1 p m t m':=⟨h.own,h.sh,h.ad,Q6 h.la,fun k _ hl hk=>by
  obtain⟨a,c,d,e⟩:=h.lw k hk e6 hk
  exact⟨a.mono e6 hl,c,d,e⟩⟩
theorem Tr.of {p t:bE} {m m':aB} {o:List bM} (hs:m'.aa=m.aa) (ha:nA m'=nA m) (hb:m'.bP=m.bP) (ho:t.bq.ls=p.bq.ls++o) (hk:∀ x ∈ o,x.aG≠3):Tr 0 p m t m':=by
  have hl:s2 m'.au.ls=s2 m.au.ls:=by have:=congrArg s2 ha; simp only [nA,s6] at this; exact this
  have e:lo m'=lo m:=by unfold lo nD; rw [hs,ha,hb]
  refine⟨by rw [hs],by rw [hs],by rw [hs,hl]; exact id,by rw [hs]; exact m5 _,fun k h _ _=>⟨?_,o,ho,Ir (Nat.le_of_eq e.symm) hk⟩⟩
  unfold Im nD at h ⊢; rw [hs,ha,hb]; exact h
theorem Ae (p:bE) (x:bM):∃ y,(df p x).bq.ls=p.bq.ls++ [y]∧y.aG=x.aG∧y.dW=x.dW∧y.aU=x.aU:=⟨_,rfl,rfl,rfl,rfl⟩
theorem l6 {p t:bE} {c:Int} {q:Nat} {k:Int} {l:List aS} {m m':aB} (h:dh p c q k l m=(t,m')):m'.aa=m.aa∧m'.au.ls=m.au.ls∧m'.bP=m.bP∧(∃ x,t.bq.ls=p.bq.ls++ [x]∧x.aG=2)∧(mU l→jZ q→Mk m→Mk m'):=by
  unfold dh iO at h
  simp only [bnd] at h
  split at h
  · obtain⟨rfl,rfl⟩:=Prod.mk.inj h
    exact⟨rfl,rfl,rfl,⟨_,rfl,rfl⟩,fun hl hq M=>⟨M.mP,M.sj,M.qm,M.uz,M.dec,M.o8,M.act,M.l8,⟨hl,hq⟩,M.mo,M.mr,M.mq⟩⟩
  split at h
  · obtain⟨rfl,rfl⟩:=Prod.mk.inj h
    exact⟨rfl,rfl,rfl,⟨_,rfl,rfl⟩,fun hl hq M=>⟨M.mP,M.sj,M.qm,M.uz,M.dec,M.o8,M.act,M.l8,M.lq,⟨hl,hq⟩,M.mr,M.mq⟩⟩
  split at h
  · obtain⟨rfl,rfl⟩:=Prod.mk.inj h
    exact⟨rfl,rfl,rfl,⟨_,rfl,rfl⟩,fun hl hq M=>⟨M.mP,M.sj,M.qm,M.uz,M.dec,M.o8,M.act,M.l8,M.lq,M.mo,⟨hl,hq⟩,M.mq⟩⟩
  · obtain⟨rfl,rfl⟩:=Prod.mk.inj h
    exact⟨rfl,rfl,rfl,⟨_,rfl,rfl⟩,fun hl hq M=>⟨M.mP,M.sj,M.qm,M.uz,M.dec,M.o8,M.act,M.l8,M.lq,M.mo,M.mr,⟨hl,hq⟩⟩⟩
theorem Af (n:Nat) (f:Bool):∀ (l:List Int) (o:List bM), ∃ q,gV n f l o=o++q∧∀ x ∈ q,x.aG=5
  | [],o=>⟨[],(s9 _).symm,fun x hx=>by cases hx⟩
  | s::l,o=>by
    simp only [gV,bnd]
    obtain⟨y,e,hk,_⟩:=Ae (bE.mk (E4 o)) (bM.mk 5 0 s 0 0 0 0 0 n 0 0 0 0 0 0 f (bI.mk [] []) (E4 []) (E4 []) (E4 []))
    rw [e]
    obtain⟨q,a,c⟩:=Af n f l (o++ [y])
    refine⟨y::q,by rw [a,q7]; rfl,fun x hx=> ?_⟩
    rcases v2.1 hx with rfl | hx
    · exact hk
    · exact c x hx
theorem sG (p:bE) (n:Nat) (l:List Int) (f:Bool):∃ q,(eG p n l f).bq.ls=p.bq.ls++q∧∀ x ∈ q,x.aG=5:=by
  obtain⟨q,e,h⟩:=Af n f l p.bq.ls
  exact⟨q,by unfold eG; simp only [bnd]; exact e,h⟩
theorem Tr.decide (p:bE) (n:Nat) (l:List Int) (f:Bool) (m:aB):Tr 0 p m (eG p n l f) m:=by
  obtain⟨q,e,h⟩:=sG p n l f
  exact Tr.of rfl rfl rfl e (fun x hx=>by rw [h x hx]; decide)
theorem Tr.answer {p t:bE} {c:Int} {q:Nat} {k:Int} {l:List aS} {m m':aB} (h:dh p c q k l m=(t,m')):Tr 0 p m t m':=by
  obtain⟨a,d,f,⟨x,e,hx⟩,i⟩:=l6 h
  exact Tr.of a (by unfold nA; rw [d]) f e (fun y hy=>by rw [m4.1 hy,hx]; decide)
theorem Fp {m':aB} {o:List aW} {d:List bJ} {l:List fE} {a:List dD} (c:m'.aa.ag.ls=o) (e:m'.aa.ak.ls=d) (f:m'.aa.aJ.ls=l) (h:m'.au.ls=a):aB.mk (di.mk m'.aa.av m'.aa.ay m'.aa.aX m'.aa.aL (E4 o) (E4 d) (E4 l)) m'.bP (E4 a) m'.bH m'.bf m'.bi m'.bn m'.aZ m'.dI m'.dz m'.dB m'.dA m'.dC=m':=by subst c e f h; rfl
theorem nH {c m':aB} {o:List aW} {d:List bJ} {l:List fE} {a:List dD} (h:aB.mk (di.mk c.aa.av c.aa.ay c.aa.aX c.aa.aL (E4 o) (E4 d) (E4 l)) c.bP (E4 a) c.bH c.bf c.bi c.bn c.aZ c.dI c.dz c.dB c.dA c.dC=m') (e:c.aa.ag.ls=o) (f:c.aa.ak.ls=d) (i:c.aa.aJ.ls=l) (j:c.au.ls=a):c=m':=(Fp e f i j).symm.trans h
theorem getD_at {α:Type} [Inhabited α] {l:List α} {i:Nat} (h:i < l.length):l[i]? =some (C2 l i default):=by
  rw [K1,s5 h]; rfl
def uu (m:aB) (i:Nat):aB:= { m with au:=E4 (r5 i m.au.ls++r6 (i+1) m.au.ls) }
theorem qi {α:Type} (l:List α) (i:Nat):(r5 i l++r6 (i+1) l).Sublist l:=by
  have h:(r6 (i+1) l).Sublist (r6 i l):=by rw [← List.tail_drop]; exact List.tail_sublist _
  have:=(Q7.refl (r5 i l)).append h
  rwa [List.take_append_drop] at this
theorem Mk.cut {m:aB} (M:Mk m) (i:Nat):Mk (uu m i):=⟨M.mP,M.sj,M.qm,M.uz,M.dec,M.o8,fun x hx=>M.act x ((qi _ _).subset hx),M.l8,M.lq,M.mo,M.mr,M.mq⟩
theorem Tr.cut (p:bE) (m:aB) (i:Nat):Tr 0 p m p (uu m i):=by
  have hs:=qi m.au.ls i
  have hA:nA (uu m i)=r5 i (nA m)++r6 (i+1) (nA m):=by simp only [nA,uu,v7,Q8,Q9]
  refine⟨rfl,rfl,fun h=> ?_,m5 _,fun k h _ _=> ?_⟩
  · have:=hs.length_le; simp only [uu]; omega
  · have a:=h.2.sub (A':=nA (uu m i)) (hA ▸ qi (nA m) i) (Q7.refl _)
    exact⟨⟨h.1,a.1⟩, [],(s9 _).symm,a.2⟩
theorem sZ {m:aB} (M:Mk m) {i:Nat} (hi:i < m.au.ls.length):Tok (C2 m.au.ls i default):=M.act _ (E0 (getD_at hi))
theorem xU (l:List gq):s2 (gp l [])=s2 l:=(Ab l []).trans (Nat.zero_add _)
theorem o7 {p t:bE} {i:Int} {m m':aB} (hi:D2 i < m.au.ls.length) (h:eH p i m=(t,m')):m'.aa=m.aa∧Tr 0 p m t m'∧(Mk m→Mk m')∧s2 t.bq.ls=s2 p.bq.ls+1+s2 (C2 m.au.ls (D2 i) default).aD.ls:=by
  unfold eH at h
  simp only [bnd] at h
  rcases e:dh p (C2 m.au.ls (D2 i) default).aK (C2 m.au.ls (D2 i) default).aM 2 [] (uu m (D2 i)) with ⟨c,d⟩
  have e':=e
  unfold uu at e'
  rw [e'] at h
  have ha:=l6 e
  obtain⟨rfl,a⟩:=Prod.mk.inj h
  obtain rfl:=nH a (by rw [ha.1]; rfl) (by rw [ha.1]; rfl) (by rw [ha.1]; rfl) (by rw [ha.2.1]; rfl)
  exact⟨ha.1,(Tr.cut p m (D2 i)).trans ((Tr.answer e).trans (Tr.decide _ _ _ _ _)),fun M=>ha.2.2.2.2 mD (sZ M hi).si (M.cut _),by
    obtain⟨x,e,_⟩:=ha.2.2.2.1
    rw [xR rfl,e,p5,List.length_singleton]
    simp only [jQ,bnd]; rw [xU]⟩
theorem Cw (a b:Nat):ib a b < 0↔a < b:=by
  unfold ib lL
  simp only [bnd]
  by_cases h:((a:Nat):Int) < ((b:Nat):Int)
  · simp [h]; omega
  · by_cases c:((a:Nat):Int) > ((b:Nat):Int) <;> simp [h,c] <;> omega
theorem Ah {l:List bJ} {n:Nat} (hs:∀ i j:Nat,i≤j→j < l.length→(C2 l i default).aU≤(C2 l j default).aU):∀ (f a b:Nat),a≤b→b≤l.length→b - a < f→(∀ i,i < a→(C2 l i default).aU < n)→(∀ i,b≤i→i < l.length→n≤(C2 l i default).aU)→
    ∃ r,dG l n f a b=r∧r≤l.length∧(∀ i,i < r→(C2 l i default).aU < n)∧(∀ i,r≤i→i < l.length→n≤(C2 l i default).aU)
  | 0,a,b,_,_,h,_,_=>by omega
  | f+1,a,b,hab,hb,hf,c,d=>by
    simp only [dG,bnd]
    by_cases hlt:((a:Nat):Int) < ((b:Nat):Int)
    · rw [if_pos hlt]
      by_cases hc:ib (C2 l ((a+b) / 2) default).aU n < 0
      · rw [if_pos hc]
        rw [Cw] at hc
        exact Ah hs f _ _ e6 hb e6 (fun i hi=>Nat.lt_of_le_of_lt (hs i ((a+b) / 2) e6 e6) hc) d
      · rw [if_neg hc]
        rw [Cw] at hc
        exact Ah hs f _ _ e6 e6 e6 c (fun i hi hl=>K2 (Nat.le_of_not_lt hc) (hs ((a+b) / 2) i hi hl))
    · rw [if_neg hlt]
      exact⟨a,rfl,e6,c,fun i hi hl=>d i e6 hl⟩
theorem Dl {l:List bJ} (h:Q0 (· ≤ ·) (s8 bJ.aU l)) (i j:Nat) (hij:i≤j) (hj:j < l.length):(C2 l i default).aU≤(C2 l j default).aU:=by
  rcases Nat.lt_or_eq_of_le hij with a | rfl
  · have:=List.pairwise_iff_getElem.1 h i j i9 i9 a
    rw [R6,R6] at this
    rw [K1,K1,s5 e6,s5 hj]
    exact this
  · exact m5 _
theorem Dm {l:List bJ} {n:Nat} {r:Int × Bool} (hr:bQ l n=r) (h:Q0 (· ≤ ·) (s8 bJ.aU l)):(∀ x ∈ r5 (D2 r.1) (s8 bJ.aU l),x≤n)∧(∀ x ∈ r6 (D2 r.1) (s8 bJ.aU l),n≤x):=by
  obtain⟨q,e,hl,a,c⟩:=Ah (Dl h) ((l.length - 0)+1) 0 l.length (JQ _) (m5 _) e6 (fun i hi=>by omega) (fun i hi hl=>by omega)
  have hq:D2 r.1=q:=by
    rw [← hr]; unfold bQ
    simp only [bnd]
    rw [e]
    split <;> rfl
  rw [hq]
  have at_:∀ i (hi:i < l.length),(s8 bJ.aU l)[i]'(by rw [s6]; exact hi)=(C2 l i default).aU:=fun i hi=>by
    rw [R6,K1,s5 hi]; rfl
  refine⟨fun x hx=> ?_,fun x hx=> ?_⟩
  · obtain⟨i,hi,rfl⟩:=List.mem_take_iff_getElem.1 hx
    rw [s6] at hi
    rw [at_ i e6]
    exact Nat.le_of_lt (a i e6)
  · obtain⟨i,hi,rfl⟩:=List.mem_drop_iff_getElem.1 hx
    rw [s6] at hi
    rw [at_ (q+i) e6]
    exact c _ e6 e6
def oo (m:aB) (i j:Nat) (d:bJ) (L:List fE):aB:= { m with aa:=di.mk m.aa.av m.aa.ay m.aa.aX m.aa.aL (E4 m.aa.ag.ls) (E4 (r5 j m.aa.ak.ls++(d::r6 j m.aa.ak.ls))) (E4 L),au:=E4 (r5 i m.au.ls++r6 (i+1) m.au.ls) }
theorem Tr.com (p:bE) (m:aB) {i j:Nat} {d:bJ} {L:List fE} (hi:i < m.au.ls.length) (hd:d.aU=(C2 m.au.ls i default).aR) (hL:s2 L≤s2 m.aa.aJ.ls+1)
    (hj:Q0 (· ≤ ·) (nD m)→(∀ x ∈ r5 j (nD m),x≤d.aU)∧(∀ x ∈ r6 j (nD m),d.aU≤x)):Tr 1 p m p (oo m i j d L):=by
  have hA:nA (oo m i j d L)=r5 i (nA m)++r6 (i+1) (nA m):=by simp only [nA,oo,v7,Q8,Q9]
  have hD:nD (oo m i j d L)=r5 j (nD m)++d.aU::r6 j (nD m):=by simp only [nD,oo,v7,List.map_cons,Q8,Q9]
  have hm:d.aU ∈ nA m:=by rw [hd]; exact List.mem_map.2 ⟨_,E0 (getD_at hi),rfl⟩
  refine⟨rfl,rfl,fun h=> ?_,hL,fun k _ hl h=> ?_⟩
  · simp only [oo,p5,p3,p4,s3]; omega
  · have a:=h.2.ins (h.2.lA _ hm) (hj h.2.sD).1 (hj h.2.sD).2 (h.2.le.1 _ hm) (nA (oo m i j d L)) (hA ▸ qi (nA m) i)
    rw [← hD] at a
    exact⟨⟨hl,a.1.mono (R7 k)⟩, [],(s9 _).symm,a.2⟩
theorem Mk.com {m:aB} (M:Mk m) {i j:Nat} {d:bJ} {L:List fE} (hd:jZ d.aU∧jZ d.ay∧jZ d.aO∧s2 d.av.ls≤1000) (hL:∀ x ∈ L,jZ x.ay∧jZ x.aO∧mU x.ah.ls):Mk (oo m i j d L):=
  ⟨M.mP,M.sj,M.qm,M.uz,fun x hx=>by
    rcases v8.1 hx with h | h
    · exact M.dec x (G1 h)
    · rcases v2.1 h with rfl | h
      · exact hd
      · exact M.dec x (Q5 h),hL,fun x hx=>M.act x ((qi _ _).subset hx),M.l8,M.lq,M.mo,M.mr,M.mq⟩
set_option maxHeartbeats 2000000 in
theorem wN {p t:bE} {i:Int} {m m':aB} (hi:D2 i < m.au.ls.length) (h:jA p i m=(t,m')):Tr 1 p m t m'∧(Mk m→Mk m'):=by
  unfold jA at h
  simp only [bnd,jQ] at h
  have hT:=fun M:Mk m=>sZ M hi
  generalize hy:C2 m.au.ls (D2 i) default=y at h hT
  rcases eg:mH y.bO.ls y.aD.ls y.af.ls with ⟨rs,ge⟩
  rw [eg] at h
  have hgr:=fun M:Mk m=>xQ eg (hT M).ops.1 (hT M).ops.2 (hT M).Bv
  rcases es:bQ m.aa.ak.ls y.aR with ⟨j,oj⟩
  rcases el:gI m.aa.aJ.ls y.aK with ⟨q,oq⟩
  rw [es,el] at h
  obtain⟨sl,hsl⟩:∃ sl,gp y.aD.ls []=sl:=⟨_,rfl⟩
  rw [hsl] at h
  have hds:=fun M:Mk m=>(show jZ y.aR∧jZ m.aa.ay∧jZ y.aM∧s2 sl≤1000 from ⟨(hT M).num,M.mP,(hT M).si,by have:=(hT M).len; rw [← hsl,xU]; omega⟩)
  have go:∀ {L:List fE} {f:bE} {c:aB},dh p y.aK y.aM 1 rs (oo m (D2 i) (D2 j) (bJ.mk y.aR y.aK m.aa.ay y.aM (E4 sl)) L)=(f,c)→s2 L≤s2 m.aa.aJ.ls+1→(Mk m→∀ x ∈ L,jZ x.ay∧jZ x.aO∧mU x.ah.ls)→Tr 1 p m (eG f y.aR sl true) c∧(Mk m→Mk c):=fun {L f c} e hL hM=>by
    have ha:=l6 e
    have hc:Tr 1 p m p (oo m (D2 i) (D2 j) (bJ.mk y.aR y.aK m.aa.ay y.aM (E4 sl)) L):=Tr.com p m hi (by rw [hy]) hL fun hp=>Dm es hp
    exact⟨hc.trans ((Tr.answer e).trans (Tr.decide _ _ _ _ _)),fun M=>ha.2.2.2.2 (hgr M) (hT M).si (M.com (hds M) (hM M))⟩
  split at h
  · split at h
    · rcases e:dh p y.aK y.aM 1 rs (oo m (D2 i) (D2 j) (bJ.mk y.aR y.aK m.aa.ay y.aM (E4 sl)) (u5 m.aa.aJ.ls (D2 q) (fE.mk y.aK m.aa.ay y.aM (E4 rs)))) with ⟨f,c⟩
      have ha:=l6 e
      have e':=e
      unfold oo at e'
      rw [e'] at h
      obtain⟨rfl,a⟩:=Prod.mk.inj h
      obtain rfl:=nH a (by rw [ha.1]; rfl) (by rw [ha.1]; rfl) (by rw [ha.1]; rfl) (by rw [ha.2.1]; rfl)
      refine go e (by rw [H5]; omega) fun M x hx=> ?_
      rcases M9 hx with d | rfl
      · exact M.o8 x d
      · exact⟨M.mP,(hT M).si,hgr M⟩
    · rcases e:dh p y.aK y.aM 1 rs (oo m (D2 i) (D2 j) (bJ.mk y.aR y.aK m.aa.ay y.aM (E4 sl)) (r5 (D2 q) m.aa.aJ.ls++((fE.mk y.aK m.aa.ay y.aM (E4 rs))::r6 (D2 q) m.aa.aJ.ls))) with ⟨f,c⟩
      have ha:=l6 e
      have e':=e
      unfold oo at e'
      rw [e'] at h
      obtain⟨rfl,a⟩:=Prod.mk.inj h
      obtain rfl:=nH a (by rw [ha.1]; rfl) (by rw [ha.1]; rfl) (by rw [ha.1]; rfl) (by rw [ha.2.1]; rfl)
      refine go e (by rw [p5,s3,p3,p4]; omega) fun M x hx=> ?_
      rcases v8.1 hx with d | d
      · exact M.o8 x (G1 d)
      · rcases v2.1 d with rfl | d
        · exact⟨M.mP,(hT M).si,hgr M⟩
        · exact M.o8 x (Q5 d)
  · rcases e:eH p i m with ⟨f,c⟩
    rw [e] at h
    have ha:=o7 hi e
    obtain⟨rfl,a⟩:=Prod.mk.inj h
    obtain rfl:=nH a (by rw [ha.1]) (by rw [ha.1]) (by rw [ha.1]) rfl
    exact⟨ha.2.1.one,ha.2.2.1⟩
def qj (m:aB) (i:Nat) (y:dD):aB:= { m with au:=E4 (u5 m.au.ls i y) }
theorem Dn {l:List dD} {i:Nat} {y:dD} (hy:y.aR=(C2 l i default).aR):s8 dD.aR (u5 l i y)=s8 dD.aR l:=by
  rw [List.map_set]
  by_cases h:i < l.length
  · have:(s8 dD.aR l)[i]'(by rw [s6]; exact h)=y.aR:=by rw [R6,hy,K1,s5 h]; rfl
    rw [← this]; exact R8 _
  · exact R9 i9
theorem Tr.set (p:bE) (m:aB) {i:Nat} {y:dD} (hy:y.aR=(C2 m.au.ls i default).aR):Tr 0 p m p (qj m i y):=Tr.of rfl (Dn hy) rfl (s9 _).symm (fun x hx=>by cases hx)
theorem Mk.set {m:aB} (M:Mk m) {i:Nat} {y:dD} (hy:Tok y):Mk (qj m i y):=⟨M.mP,M.sj,M.qm,M.uz,M.dec,M.o8,mI M.act hy,M.l8,M.lq,M.mo,M.mr,M.mq⟩
theorem xV {l:List dD} {n:Nat} {r:Int × Bool} (hr:cu l n=r) (h:r.2=true):D2 r.1 < l.length:=by
  unfold cu at hr
  simp only [bnd] at hr
  split at hr
  · subst hr; simp only [J8]; omega
  · subst hr; cases h
theorem yS {p t:bE} {x:bM} {m m':aB} (h:jN p x m=(t,m')):Tr 1 p m t m'∧(mU x.ah.ls→Mk m→Mk m'):=by
  have same:(p,m)=(t,m')→Tr 1 p m t m'∧(mU x.ah.ls→Mk m→Mk m'):=fun h=>by
    obtain⟨rfl,rfl⟩:=Prod.mk.inj h
    exact⟨(Tr.same p m).one,fun _ M=>M⟩
  unfold jN iO at h
  simp only [bnd] at h
  rcases ef:cu m.au.ls x.aU with ⟨i,ok⟩
  rw [ef] at h
  split at h
  case isFalse=>exact same h
  rename_i hok
  have hi:=xV ef hok
  split at h
  · exact same h
  split at h
  · exact same h
  have ab:∀ {d:bE} {a:aB},eH p i m=(d,a)→(d,aB.mk (di.mk a.aa.av a.aa.ay a.aa.aX a.aa.aL (E4 m.aa.ag.ls) (E4 m.aa.ak.ls) (E4 m.aa.aJ.ls)) a.bP (E4 a.au.ls) a.bH a.bf a.bi a.bn a.aZ a.dI a.dz a.dB a.dA a.dC)=(t,m')→Tr 1 p m t m'∧(mU x.ah.ls→Mk m→Mk m'):=fun e h=>by
    have ha:=o7 hi e
    obtain⟨rfl,c⟩:=Prod.mk.inj h
    obtain rfl:=nH c (by rw [ha.1]) (by rw [ha.1]) (by rw [ha.1]) rfl
    exact⟨ha.2.1.one,fun _=>ha.2.2.1⟩
  split at h
  · split at h
    · split at h
      · obtain⟨rfl,rfl⟩:=Prod.mk.inj h
        refine⟨Tr.one ?_,fun hr M=>M.set (i:=D2 i) (oh (sZ M hi) hr)⟩
        refine Tr.set p m (i:=D2 i) ?_
        rfl
      · rcases e:jA p i (qj m (D2 i) (dD.mk (C2 m.au.ls (D2 i) default).aR (C2 m.au.ls (D2 i) default).aK (C2 m.au.ls (D2 i) default).aM (C2 m.au.ls (D2 i) default).cz (E4 (C2 m.au.ls (D2 i) default).bO.ls) (E4 (C2 m.au.ls (D2 i) default).aD.ls) (E4 (u5 (C2 m.au.ls (D2 i) default).bB.ls (D2 (eQ (C2 m.au.ls (D2 i) default).aD.ls x)) true)) (E4 (u5 (C2 m.au.ls (D2 i) default).af.ls (D2 (eQ (C2 m.au.ls (D2 i) default).aD.ls x)) (E4 x.ah.ls))) (C2 m.au.ls (D2 i) default).dO)) with ⟨d,a⟩
        have e':=e
        unfold qj at e'
        rw [e'] at h
        have hc:=wN (by unfold qj; simp only [H5]; exact hi) e
        obtain⟨rfl,c⟩:=Prod.mk.inj h
        obtain rfl:=nH c (by rw [hc.1.own]; rfl) rfl rfl rfl
        refine⟨Nat.zero_add 1 ▸ Tr.trans ?_ hc.1,fun hr M=>hc.2 (M.set (oh (sZ M hi) hr))⟩
        refine Tr.set p m (i:=D2 i) ?_
        rfl
    · rcases e:eH p i m with ⟨d,a⟩
      rw [e] at h; exact ab e h
  · rcases e:eH p i m with ⟨d,a⟩
    rw [e] at h; exact ab e h
def sdX (m:aB) (D:List bJ):aB:= { m with aa:=di.mk m.aa.av m.aa.ay m.aa.aX m.aa.aL (E4 m.aa.ag.ls) (E4 D) (E4 m.aa.aJ.ls) }
theorem Tr.sdX (p:bE) (m:aB) {D:List bJ} (h:(s8 bJ.aU D).Sublist (nD m)):Tr 1 p m p (sdX m D):=by
  have hl:=h.length_le
  simp only [nD,s6] at hl
  refine⟨rfl,rfl,fun h=> ?_,R7 _,fun k _ hk c=> ?_⟩
  · show s2 m.au.ls+s2 D≤8; omega
  · have a:=c.2.sub (Q7.refl _) h
    exact⟨⟨hk,a.1.mono (R7 k)⟩, [],(s9 _).symm,a.2⟩
theorem Dp {l:List bJ} {i:Nat} {y:bJ} (hy:y.aU=(C2 l i default).aU):s8 bJ.aU (u5 l i y)=s8 bJ.aU l:=by
  rw [List.map_set]
  by_cases h:i < l.length
  · have:(s8 bJ.aU l)[i]'(by rw [s6]; exact h)=y.aU:=by rw [R6,hy,K1,s5 h]; rfl
    rw [← this]; exact R8 _
  · exact R9 i9
theorem xk (l:List Int) (c:bM):∀ (f:Nat) (a b:Int) (q:List Int),s2 (gQ l c f a b q).2≤s2 q
  | 0,a,b,q=>JQ _
  | f+1,a,b,q=>by
    simp only [gQ,bnd]
    split
    · split
      · exact xk l c f _ _ _
      · exact K2 (xk l c f _ _ _) (by rw [H5]; exact m5 _)
    · exact m5 _
theorem D7 (l:List Int) (c:bM):s2 (iq l c)≤s2 l:=by
  unfold iq
  simp only [bnd]
  split
  · exact m5 _
  · rw [p3]; exact K2 (Q1 _ _) (xk _ _ _ _ _ _)
theorem EQ {l:List bJ} {n:Nat} {r:Int × Bool} (hr:bQ l n=r) (h:r.2=true):D2 r.1 < l.length:=by
  unfold bQ at hr
  simp only [bnd] at hr
  split at hr
  · subst hr; simp only [J8]; omega
  · subst hr; cases h
theorem ou {p t:bE} {x:bM} {m m':aB} (h:jY p x m=(t,m')):(∃ D,m'=sdX m D)∧Tr 1 p m t m'∧(Mk m→Mk m'):=by
  unfold jY at h
  simp only [bnd] at h
  rcases ef:bQ m.aa.ak.ls x.aU with ⟨i,ok⟩
  rw [ef] at h
  split at h
  · rename_i hok
    have hi:=EQ ef hok
    have a:=fun M:Mk m=>M.dec _ (E0 (getD_at hi))
    generalize hy:C2 m.aa.ak.ls (D2 i) default=y at h a
    have hD:Mk m→Dk (u5 m.aa.ak.ls (D2 i) (bJ.mk y.aU y.aN y.ay y.aO (E4 (iq y.av.ls x)))):=fun M z hz=>by
      rcases M9 hz with d | rfl
      · exact M.dec z d
      · have c:=a M
        exact⟨c.1,c.2.1,c.2.2.1,K2 (D7 _ _) c.2.2.2⟩
    have hmap:s8 bJ.aU (u5 m.aa.ak.ls (D2 i) (bJ.mk y.aU y.aN y.ay y.aO (E4 (iq y.av.ls x))))=nD m:=Dp (by rw [hy])
    generalize u5 m.aa.ak.ls (D2 i) (bJ.mk y.aU y.aN y.ay y.aO (E4 (iq y.av.ls x)))=D at h hD hmap
    split at h
    · obtain⟨rfl,rfl⟩:=Prod.mk.inj h
      exact⟨⟨_,rfl⟩,Tr.sdX p m (hmap ▸ (qi D (D2 i)).map bJ.aU),fun M=>⟨M.mP,M.sj,M.qm,M.uz,fun y hy=>hD M y ((qi _ _).subset hy),M.o8,M.act,M.l8,M.lq,M.mo,M.mr,M.mq⟩⟩
    · obtain⟨rfl,rfl⟩:=Prod.mk.inj h
      exact⟨⟨_,rfl⟩,Tr.sdX p m (hmap ▸ Q7.refl _),fun M=>⟨M.mP,M.sj,M.qm,M.uz,hD M,M.o8,M.act,M.l8,M.lq,M.mo,M.mr,M.mq⟩⟩
  · obtain⟨rfl,rfl⟩:=Prod.mk.inj h
    exact⟨⟨_,rfl⟩,(Tr.same p m).one,id⟩
theorem D8 (p:bE) (x:bM) (m:aB):Tr 1 p m (kW p x m) m:=by
  unfold kW
  simp only [bnd]
  split
  · exact(Tr.decide _ _ _ _ _).one
  · split
    · exact(Tr.same p m).one
    · exact(Tr.decide _ _ _ _ _).one
theorem Lw.all {w n b:Nat} (hn:w≤n) (hb:w≤b):∀ {l:List bM} {a:Nat},a≤w→(∀ x ∈ l,x.aG=3∧x.dW=w∧x.aU=n)→Lw a b l
  | [],a,ha,_=>K2 ha hb
  | x::l,a,ha,h=>by
    have hx:=h x b1
    unfold Lw
    rw [if_pos hx.1,hx.2.1,hx.2.2]
    exact⟨ha,hn,Lw.all hn hb (m5 _) fun y hy=>h y (.tail _ hy)⟩
theorem yE (m:aB) (i:Int) (y:dD) (x:dD):∀ (f k:Nat) (o:List bM), ∃ q,gJ m i y x f k o=o++q∧s2 q≤f∧∀ z ∈ q,z.aG=3∧z.dW=gG (qj m (D2 i) (dD.mk y.aR y.aK y.aM y.cz (E4 y.bO.ls) (E4 y.aD.ls) (E4 y.bB.ls) (E4 y.af.ls) (C7.wrap (y.dO+1))))∧z.aU=x.aR
  | 0,k,o=>⟨[],(s9 _).symm,m5 _,fun z hz=>by cases hz⟩
  | f+1,k,o=>by
    simp only [gJ,bnd]
    split
    · obtain⟨q,e,hl,hq⟩:=yE m i y x f (k+1) o
      exact⟨q,e,Q6 hl,hq⟩
    · obtain⟨q,e,hl,hq⟩:=yE m i y x f (k+1) (o++ [bM.mk 3 0 (C2 x.aD.ls k default).dV 0 0 0 0 0 x.aR (gG (qj m (D2 i) (dD.mk y.aR y.aK y.aM y.cz (E4 y.bO.ls) (E4 y.aD.ls) (E4 y.bB.ls) (E4 y.af.ls) (C7.wrap (y.dO+1))))) 0 x.cz 0 0 0 false (bI.mk [] []) (E4 (C2 x.aD.ls k default).aF.ls) (E4 []) (E4 [])])
      refine⟨_::q,e.trans (by rw [q7]; rfl),by rw [s3]; omega,fun z hz=> ?_⟩
      rcases v2.1 hz with rfl | hz
      · exact⟨rfl,rfl,rfl⟩
      · exact hq z hz
theorem Tr.tells {p t:bE} {m m':aB} {j n:Nat} {q:List bM} (h:Tr j p m p m') (ho:t.bq.ls=p.bq.ls++q) (hq:∀ z ∈ q,z.aG=3∧z.dW=gG m'∧z.aU=n) (hn:∀ k,Im k m→k+j≤1000000→n ∈ nA m'):Tr j p m t m':=
  ⟨h.own,h.sh,h.ad,h.la,fun k c hl hk=>by
    obtain⟨a,o,e,d⟩:=h.lw k c hl hk
    have f:lo m≤lo m':=by
      have:o= []:=by have:=congrArg s2 e; rw [p5] at this; exact List.length_eq_zero_iff.1 e6
      subst this; exact d
    exact⟨a,q,ho,Lw.all (a.2.le.1 n (hn k hk hl)) (m5 _) f fun z hz=>⟨(hq z hz).1,(hq z hz).2.1.trans (Dj a),(hq z hz).2.2⟩⟩⟩
theorem rM {p t:bE} {n:Nat} {m m':aB} (h:iT p n m=(t,m')):m'.aa=m.aa∧Tr 0 p m t m'∧(Mk m→Mk m')∧(Mk m→s2 t.bq.ls≤s2 p.bq.ls+6):=by
  unfold iT at h
  simp only [bnd] at h
  rcases ef:cu m.au.ls n with ⟨i,ok⟩
  rw [ef] at h
  split at h
  case isFalse=>
    obtain⟨rfl,rfl⟩:=Prod.mk.inj h
    exact⟨rfl,Tr.same p m,id,fun _=>Nat.le_add_right _ _⟩
  rename_i hok
  have hi:=xV ef hok
  generalize hy:C2 m.au.ls (D2 i) default=y at h
  have hg:C2 (u5 m.au.ls (D2 i) (dD.mk y.aR y.aK y.aM y.cz (E4 y.bO.ls) (E4 y.aD.ls) (E4 y.bB.ls) (E4 y.af.ls) (C7.wrap (y.dO+1)))) (D2 i) default=dD.mk y.aR y.aK y.aM y.cz (E4 y.bO.ls) (E4 y.aD.ls) (E4 y.bB.ls) (E4 y.af.ls) (C7.wrap (y.dO+1)):=by
    rw [K1,S0 hi]; rfl
  rw [hg] at h
  have hs:=Tr.set p m (i:=D2 i) (y:=dD.mk y.aR y.aK y.aM y.cz (E4 y.bO.ls) (E4 y.aD.ls) (E4 y.bB.ls) (E4 y.af.ls) (C7.wrap (y.dO+1))) (by rw [hy])
  have hm:=fun M:Mk m=>M.set (i:=D2 i) (qf (hy ▸ sZ M hi) (C7.wrap (y.dO+1)))
  split at h
  · rcases e:eH p i (qj m (D2 i) (dD.mk y.aR y.aK y.aM y.cz (E4 y.bO.ls) (E4 y.aD.ls) (E4 y.bB.ls) (E4 y.af.ls) (C7.wrap (y.dO+1)))) with ⟨d,f⟩
    have e':=e
    unfold qj at e'
    rw [e'] at h
    have ha:=o7 (by unfold qj; simp only [H5]; exact hi) e
    obtain⟨rfl,a⟩:=Prod.mk.inj h
    obtain rfl:=nH a (by rw [ha.1]; rfl) (by rw [ha.1]; rfl) (by rw [ha.1]; rfl) rfl
    refine⟨ha.1,hs.trans ha.2.1,fun M=>ha.2.2.1 (hm M),fun M=> ?_⟩
    rw [ha.2.2.2]
    have c:=(sZ (hm M) (i:=D2 i) (by unfold qj; simp only [H5]; exact hi)).len
    exact Nat.add_le_add_left c (s2 p.bq.ls+1)
  · obtain⟨rfl,rfl⟩:=Prod.mk.inj h
    obtain⟨q,e,hl,hq⟩:=yE m i y (dD.mk y.aR y.aK y.aM y.cz (E4 y.bO.ls) (E4 y.aD.ls) (E4 y.bB.ls) (E4 y.af.ls) (C7.wrap (y.dO+1))) (s2 y.aD.ls) 0 p.bq.ls
    refine⟨rfl,hs.tells e hq fun k _ _=>List.mem_map.2 ⟨_,E0 (S0 hi),rfl⟩,hm,fun M=> ?_⟩
    show s2 (gJ _ _ _ _ _ _ _)≤_
    rw [e,p5]
    have c:=(sZ M hi).len
    rw [hy] at c; omega
end Go.Proofs.YtbkagebjhbphaaaGreat
