/-
  What a step does to the coordinator: what stays, which numbers there are, which Low is told. Conditions: none beyond each law's own.
-/
import Derived.Test.YtbkagebjhbphaaaGreatCh
import Derived.Test.YtbkagebjhbphaaaGreatCi
import Derived.Test.YtbkagebjhbphaaaGreatCj
namespace Go.Proofs.YtbkagebjhbphaaaGreat
open Int renaming toNat→D0,toNat_natCast→K2
open IntKind renaming i64→C5
open List renaming Pairwise→R7,Sublist→S4,append_assoc→q4,append_nil→s6,drop→r3,getD→C0,getD_eq_getElem?_getD→L4,getElem?_eq_getElem→s2,getElem?_set_self→T1,getElem_map→S7,length→r8,length_append→o1,length_cons→s0,length_drop→o0,length_map→s3,length_set→H1,length_take→m9,map→s5,map_append→v5,map_drop→S6,map_take→S5,mem_append→v6,mem_cons→u9,mem_of_getElem?→D3,mem_of_mem_drop→S2,mem_of_mem_take→G0,mem_or_eq_of_mem_set→O0,mem_singleton→m4,pairwise_append→S1,pairwise_cons→R9,set→u2,set_eq_of_length_le→T0,set_getElem_self→S9,take→q7
open Ll renaming mk→E2
open Nat renaming le_refl→o3,le_succ→S8,le_succ_of_le→S3,le_trans→L5,min_le_right→R8,succ_le_succ→S0
set_option linter.unusedVariables false
set_option linter.unusedSimpArgs false
def Lw:Nat→Nat→List bL→Prop
  | a,b, []=>a≤b
  | a,b,x::r=>if x.aD=3 then a≤x.dY∧x.dY≤x.aN∧Lw x.dY b r else Lw a b r
theorem Lw.app {b c:Nat} {r:List bL} (d:Lw b c r):∀ {l:List bL} {a:Nat},Lw a b l→Lw a c (l++r)
  | [],a,h=>by
    revert a
    induction r generalizing b with
    | nil=>exact fun a h=>L5 h d
    | cons x r ih=>
      intro a h
      simp only [List.nil_append,Lw] at h d ⊢
      by_cases e:x.aD=3
      · rw [if_pos e] at d ⊢; exact⟨L5 h d.1,d.2⟩
      · rw [if_neg e] at d ⊢; exact ih d a h
  | x::l,a,h=>by
    simp only [List.cons_append,Lw] at h ⊢
    by_cases e:x.aD=3
    · rw [if_pos e] at h ⊢; exact⟨h.1,h.2.1,Lw.app d h.2.2⟩
    · rw [if_neg e] at h ⊢; exact Lw.app d h
theorem JP {a b:Nat} (hab:a≤b):∀ {l:List bL},(∀ x ∈ l,x.aD≠3)→Lw a b l
  | [],_=>hab
  | x::l,h=>by unfold Lw; rw [if_neg (h x b1)]; exact JP hab fun y hy=>h y (.tail _ hy)
def hdN (n:Nat):List Nat→Nat
  | []=>n
  | x::_=>min n x
def sS (b g:Nat) (A D:List Nat):Nat:=hdN (hdN (b *4294967296+g+1) A) D
structure Iv (k b g:Nat) (A D:List Nat):Prop where
  bt:b < 2147483648
  bg:g≤k
  sA:R7 (· ≤ ·) A
  sD:R7 (· ≤ ·) D
  lA:∀ x ∈ A,x≤b *4294967296+g
  lD:∀ x ∈ D,x≤b *4294967296+g
theorem Bc (n:Nat) (l:List Nat):hdN n l≤n:=by cases l with
  | nil=>exact o3 _
  | cons x l=>exact Nat.min_le_left _ _
theorem Cf {n:Nat} {l:List Nat} (h:R7 (· ≤ ·) l):∀ x ∈ l,hdN n l≤x:=by cases l with
  | nil=>intro x hx; cases hx
  | cons y l=>
    intro x hx
    refine L5 (R8 _ _) ?_
    rcases u9.1 hx with rfl | hx
    · exact o3 _
    · exact(R9.1 h).1 x hx
theorem Dt {a n:Nat} {l:List Nat} (h:a≤n) (hl:∀ x ∈ l,a≤x):a≤hdN n l:=by cases l with
  | nil=>exact h
  | cons y l=>exact Nat.le_min.2 ⟨h,hl y b1⟩
section
variable {k b g:Nat} {A D:List Nat}
theorem Iv.le (h:Iv k b g A D):(∀ x ∈ A,sS b g A D≤x)∧(∀ x ∈ D,sS b g A D≤x)∧sS b g A D≤b *4294967296+g+1:=
  ⟨fun x hx=>L5 (Bc _ _) (Cf h.sA x hx),Cf h.sD,L5 (Bc _ _) (Bc _ _)⟩
theorem zT {a:Nat} (h:a≤b *4294967296+g+1) (hA:∀ x ∈ A,a≤x) (hD:∀ x ∈ D,a≤x):a≤sS b g A D:=Dt (Dt h hA) hD
theorem Iv.mono {j:Nat} (h:Iv k b g A D) (hj:k≤j):Iv j b g A D:=⟨h.bt,L5 h.bg hj,h.sA,h.sD,h.lA,h.lD⟩
theorem Iv.sub {A' D':List Nat} (h:Iv k b g A D) (hA:A'.Sublist A) (hD:D'.Sublist D):Iv k b g A' D'∧sS b g A D≤sS b g A' D':=
  ⟨⟨h.bt,h.bg,h.sA.sublist hA,h.sD.sublist hD,fun x hx=>h.lA x (hA.subset hx),fun x hx=>h.lD x (hD.subset hx)⟩,zT h.le.2.2 (fun x hx=>h.le.1 x (hA.subset hx)) (fun x hx=>h.le.2.1 x (hD.subset hx))⟩
theorem Iv.more (h:Iv k b g A D):Iv (k+1) b (g+1) (A++ [b *4294967296+g+1]) D∧Iv (k+1) b (g+1) A D∧sS b g A D≤sS b (g+1) (A++ [b *4294967296+g+1]) D∧sS b g A D≤sS b (g+1) A D:=by
  have hle:=h.le
  refine⟨⟨h.bt,S0 h.bg,S1.2 ⟨h.sA,List.pairwise_singleton _ _,fun x hx y hy=> ?_⟩,h.sD,fun x hx=> ?_,fun x hx=>L5 (h.lD x hx) e6⟩,⟨h.bt,S0 h.bg,h.sA,h.sD,fun x hx=>L5 (h.lA x hx) e6,fun x hx=>L5 (h.lD x hx) e6⟩,zT e6 (fun x hx=> ?_) hle.2.1,zT e6 hle.1 hle.2.1⟩
  · have a:=h.lA x hx; have c:=m4.1 hy; omega
  · rcases v6.1 hx with a | a
    · have:=h.lA x a; omega
    · have:=m4.1 a; omega
  · rcases v6.1 hx with a | a
    · exact hle.1 x a
    · rw [m4.1 a]; exact hle.2.2
theorem Iv.ins {i n:Nat} (h:Iv k b g A D) (hn:n≤b *4294967296+g) (c:∀ x ∈ D.take i,x≤n) (d:∀ x ∈ D.drop i,n≤x) (hl:sS b g A D≤n) (A':List Nat) (hA:A'.Sublist A):Iv k b g A' (D.take i++n::D.drop i)∧sS b g A D≤sS b g A' (D.take i++n::D.drop i):=by
  have hm:∀ x ∈ D.take i++n::D.drop i,x=n∨x ∈ D:=fun x hx=>by
    rcases v6.1 hx with a | a
    · exact .inr (G0 a)
    · rcases u9.1 a with a | a
      · exact .inl a
      · exact .inr (S2 a)
  refine⟨⟨h.bt,h.bg,h.sA.sublist hA,S1.2 ⟨h.sD.sublist (List.take_sublist _ _),R9.2 ⟨d,h.sD.sublist (List.drop_sublist _ _)⟩,fun x hx y hy=> ?_⟩,fun x hx=>h.lA x (hA.subset hx),fun x hx=> ?_⟩,zT h.le.2.2 (fun x hx=>h.le.1 x (hA.subset hx)) (fun x hx=> ?_)⟩
  · rcases u9.1 hy with rfl | hy
    · exact c x hx
    · exact L5 (c x hx) (d y hy)
  · rcases hm x hx with rfl | a
    · exact hn
    · exact h.lD x a
  · rcases hm x hx with rfl | a
    · exact hl
    · exact h.le.2.1 x a
end
def nA (m:aA):List Nat:=s5 dK.aR m.ay.ls
def nD (m:aA):List Nat:=s5 bH.aN m.aa.aj.ls
def lo (m:aA):Nat:=sS m.aa.av m.bP (nA m) (nD m)
def Im (k:Nat) (m:aA):Prop:=k≤1000000∧Iv k m.aa.av m.bP (nA m) (nD m)
theorem wJ {k:Nat} {m:aA} (h:Im k m):fT m=m.aa.av *4294967296+m.bP+1:=by
  have d:=h.2.bt
  have e:=h.2.bg
  have f:=h.1
  have a:eU m.aa.av 32=m.aa.av *4294967296:=by unfold eU; rw [show min 32 64=32 from rfl,show ((2:Int) ^ 32)=4294967296 from rfl,IntWalk.u64_in _ e6]; omega
  have c:IntKind.u64.wrap (((m.aa.av *4294967296:Nat):Int)+((m.bP:Nat):Int))=((m.aa.av *4294967296+m.bP:Nat):Int):=by rw [IntWalk.u64_in _ e6]; omega
  unfold fT
  rw [a,c,K2,IntWalk.u64_in _ e6]
  omega
theorem Cg {α:Type} [Inhabited α] (f:α→Nat) (N:Nat) (A:List α):(if((r8 A:Nat):Int) > 0 then bnd (C0 A 0 default) fun y=>min N (f y) else N)=hdN N (s5 f A):=by
  cases A with
  | nil=>exact if_neg (by simp only [List.length_nil]; omega)
  | cons a A=>exact if_pos (by simp only [s0]; omega)
def Eb (N:Nat) (a:aA):Nat:=bnd N fun y=>bnd (if((r8 a.ay.ls:Nat):Int) > 0 then bnd (C0 a.ay.ls 0 default) fun x=>min y x.aR else y) fun s=>if((r8 a.aa.aj.ls:Nat):Int) > 0 then bnd (C0 a.aa.aj.ls 0 default) fun x=>min s x.aN else s
theorem EX (N:Nat) (m:aA):Eb N m=hdN (hdN N (nA m)) (nD m):=(Cg bH.aN _ _).trans (congrArg (fun q=>hdN q (nD m)) (Cg dK.aR _ _))
theorem Du (m:aA):il m=Eb (fT m) m:=by unfold il Eb; exact Eq.refl _
theorem Ec {k:Nat} {m:aA} (h:Im k m):il m=lo m:=by rw [Du,wJ h,EX]; rfl
structure Tr (j:Nat) (p:bI) (m:aA) (t:bI) (m':aA):Prop where
  own:m'.aa.ag.ls=m.aa.ag.ls
  sh:m'.aa.au=m.aa.au
  ad:r8 m.ay.ls+r8 m.aa.aj.ls≤8→r8 m'.ay.ls+r8 m'.aa.aj.ls≤8
  la:r8 m'.aa.aF.ls≤r8 m.aa.aF.ls+j
  lw:∀ k,Im (k+j) m→k+j≤1000000→Im k m→Im (k+j) m'∧∃ o,t.aX.ls=p.aX.ls++o∧Lw (lo m) (lo m') o
theorem Tr.same (p:bI) (m:aA):Tr 0 p m p m:=⟨rfl,rfl,id,o3 _,fun k h _ _=>⟨h, [],(s6 _).symm,o3 _⟩⟩
theorem Im.mono {k j:Nat} {m:aA} (h:Im k m) (hj:k≤j) (hl:j≤1000000):Im j m:=⟨hl,h.2.mono hj⟩
theorem Tr.trans {i j:Nat} {p t u:bI} {m d e:aA} (a:Tr i p m t d) (c:Tr j t d u e):Tr (i+j) p m u e:=
  ⟨c.own.trans a.own,c.sh.trans a.sh,fun h=>c.ad (a.ad h),by have:=a.la; have:=c.la; omega,fun k _ hl hk=>by
    obtain⟨f,l,n,o⟩:=a.lw k (hk.mono e6 e6) e6 hk
    obtain⟨q,r,s,v⟩:=c.lw (k+i) (f.mono e6 e6) e6 f
    exact⟨Nat.add_assoc k i j ▸ q,l++r,by rw [s,n,q4],v.app o⟩⟩
theorem Tr.one {p t:bI} {m m':aA} (h:Tr 0 p m t m'):Tr 1 p m t m':=⟨h.own,h.sh,h.ad,S3 h.la,fun k _ hl hk=>by
  obtain⟨a,c,d,e⟩:=h.lw k hk e6 hk
  exact⟨a.mono e6 hl,c,d,e⟩⟩
theorem Tr.of {p t:bI} {m m':aA} {o:List bL} (hs:m'.aa=m.aa) (ha:nA m'=nA m) (hb:m'.bP=m.bP) (ho:t.aX.ls=p.aX.ls++o) (hk:∀ x ∈ o,x.aD≠3):Tr 0 p m t m':=by
  have hl:r8 m'.ay.ls=r8 m.ay.ls:=by have:=congrArg r8 ha; simp only [nA,s3] at this; exact this
  have e:lo m'=lo m:=by unfold lo nD; rw [hs,ha,hb]
  refine⟨by rw [hs],by rw [hs],by rw [hs,hl]; exact id,by rw [hs]; exact o3 _,fun k h _ _=>⟨?_,o,ho,JP (Nat.le_of_eq e.symm) hk⟩⟩
  unfold Im nD at h ⊢; rw [hs,ha,hb]; exact h
theorem Be (p:bI) (x:bL):∃ y,(dw p x).aX.ls=p.aX.ls++ [y]∧y.aD=x.aD∧y.dY=x.dY∧y.aN=x.aN:=⟨_,rfl,rfl,rfl,rfl⟩
theorem mP {p t:bI} {c:Int} {q:Nat} {k:Int} {l:List aQ} {m m':aA} (h:dC p c q k l m=(t,m')):m'.aa=m.aa∧m'.ay.ls=m.ay.ls∧m'.bP=m.bP∧(∃ x,t.aX.ls=p.aX.ls++ [x]∧x.aD=2)∧(nI l→ky q→Mk m→Mk m'):=by
  unfold dC jh at h
  simp only [bnd] at h
  split at h
  · obtain⟨rfl,rfl⟩:=Prod.mk.inj h
    exact⟨rfl,rfl,rfl,⟨_,rfl,rfl⟩,fun hl hq M=>⟨M.oz,M.sV,M.qF,M.ug,M.dec,M.mH,M.act,M.mU,⟨hl,hq⟩,M.nu,M.ny,M.nz⟩⟩
  split at h
  · obtain⟨rfl,rfl⟩:=Prod.mk.inj h
    exact⟨rfl,rfl,rfl,⟨_,rfl,rfl⟩,fun hl hq M=>⟨M.oz,M.sV,M.qF,M.ug,M.dec,M.mH,M.act,M.mU,M.lT,⟨hl,hq⟩,M.ny,M.nz⟩⟩
  split at h
  · obtain⟨rfl,rfl⟩:=Prod.mk.inj h
    exact⟨rfl,rfl,rfl,⟨_,rfl,rfl⟩,fun hl hq M=>⟨M.oz,M.sV,M.qF,M.ug,M.dec,M.mH,M.act,M.mU,M.lT,M.nu,⟨hl,hq⟩,M.nz⟩⟩
  · obtain⟨rfl,rfl⟩:=Prod.mk.inj h
    exact⟨rfl,rfl,rfl,⟨_,rfl,rfl⟩,fun hl hq M=>⟨M.oz,M.sV,M.qF,M.ug,M.dec,M.mH,M.act,M.mU,M.lT,M.nu,M.ny,⟨hl,hq⟩⟩⟩
theorem Bf (n:Nat) (f:Bool):∀ (l:List Int) (o:List bL), ∃ q,ik n f l o=o++q∧∀ x ∈ q,x.aD=5
  | [],o=>⟨[],(s6 _).symm,fun x hx=>by cases hx⟩
  | s::l,o=>by
    simp only [ik,bnd]
    obtain⟨y,e,hk,_⟩:=Be (bI.mk (E2 o)) (bL.mk 5 0 s 0 0 0 0 0 n 0 0 0 0 0 0 f (bC.mk [] []) (E2 []) (E2 []) (E2 []))
    rw [e]
    obtain⟨q,a,c⟩:=Bf n f l (o++ [y])
    refine⟨y::q,by rw [a,q4]; rfl,fun x hx=> ?_⟩
    rcases u9.1 hx with rfl | hx
    · exact hk
    · exact c x hx
theorem yD (p:bI) (n:Nat) (l:List Int) (f:Bool):∃ q,(dZ p n l f).aX.ls=p.aX.ls++q∧∀ x ∈ q,x.aD=5:=by
  obtain⟨q,e,h⟩:=Bf n f l p.aX.ls
  exact⟨q,by unfold dZ; simp only [bnd]; exact e,h⟩
theorem Tr.decide (p:bI) (n:Nat) (l:List Int) (f:Bool) (m:aA):Tr 0 p m (dZ p n l f) m:=by
  obtain⟨q,e,h⟩:=yD p n l f
  exact Tr.of rfl rfl rfl e (fun x hx=>by rw [h x hx]; decide)
theorem Tr.answer {p t:bI} {c:Int} {q:Nat} {k:Int} {l:List aQ} {m m':aA} (h:dC p c q k l m=(t,m')):Tr 0 p m t m':=by
  obtain⟨a,d,f,⟨x,e,hx⟩,i⟩:=mP h
  exact Tr.of a (by unfold nA; rw [d]) f e (fun y hy=>by rw [m4.1 hy,hx]; decide)
theorem GG {m':aA} {o:List aY} {d:List bH} {l:List eD} {a:List dK} (c:m'.aa.ag.ls=o) (e:m'.aa.aj.ls=d) (f:m'.aa.aF.ls=l) (h:m'.ay.ls=a):aA.mk (cZ.mk m'.aa.au m'.aa.av m'.aa.aV m'.aa.aL (E2 o) (E2 d) (E2 l)) m'.bP (E2 a) m'.bK m'.bA m'.bz m'.bv m'.bq m'.dP m'.dH m'.dI m'.dG m'.dJ=m':=by subst c e f h; rfl
theorem oG {c m':aA} {o:List aY} {d:List bH} {l:List eD} {a:List dK} (h:aA.mk (cZ.mk c.aa.au c.aa.av c.aa.aV c.aa.aL (E2 o) (E2 d) (E2 l)) c.bP (E2 a) c.bK c.bA c.bz c.bv c.bq c.dP c.dH c.dI c.dG c.dJ=m') (e:c.aa.ag.ls=o) (f:c.aa.aj.ls=d) (i:c.aa.aF.ls=l) (j:c.ay.ls=a):c=m':=(GG e f i j).symm.trans h
theorem getD_at {α:Type} [Inhabited α] {l:List α} {i:Nat} (h:i < l.length):l[i]? =some (C0 l i default):=by
  rw [L4,s2 h]; rfl
def rE (m:aA) (i:Nat):aA:= { m with ay:=E2 (q7 i m.ay.ls++r3 (i+1) m.ay.ls) }
theorem nW {α:Type} (l:List α) (i:Nat):(q7 i l++r3 (i+1) l).Sublist l:=by
  have h:(r3 (i+1) l).Sublist (r3 i l):=by rw [← List.tail_drop]; exact List.tail_sublist _
  have:=(S4.refl (q7 i l)).append h
  rwa [List.take_append_drop] at this
theorem Mk.cut {m:aA} (M:Mk m) (i:Nat):Mk (rE m i):=⟨M.oz,M.sV,M.qF,M.ug,M.dec,M.mH,fun x hx=>M.act x ((nW _ _).subset hx),M.mU,M.lT,M.nu,M.ny,M.nz⟩
theorem Tr.cut (p:bI) (m:aA) (i:Nat):Tr 0 p m p (rE m i):=by
  have hs:=nW m.ay.ls i
  have hA:nA (rE m i)=q7 i (nA m)++r3 (i+1) (nA m):=by simp only [nA,rE,v5,S5,S6]
  refine⟨rfl,rfl,fun h=> ?_,o3 _,fun k h _ _=> ?_⟩
  · have:=hs.length_le; simp only [rE]; omega
  · have a:=h.2.sub (A':=nA (rE m i)) (hA ▸ nW (nA m) i) (S4.refl _)
    exact⟨⟨h.1,a.1⟩, [],(s6 _).symm,a.2⟩
theorem tY {m:aA} (M:Mk m) {i:Nat} (hi:i < m.ay.ls.length):Tok (C0 m.ay.ls i default):=M.act _ (D3 (getD_at hi))
theorem yE (l:List gF):r8 (gu l [])=r8 l:=(Bb l []).trans (Nat.zero_add _)
theorem qf {p t:bI} {i:Int} {m m':aA} (hi:D0 i < m.ay.ls.length) (h:fq p i m=(t,m')):m'.aa=m.aa∧Tr 0 p m t m'∧(Mk m→Mk m')∧r8 t.aX.ls=r8 p.aX.ls+1+r8 (C0 m.ay.ls (D0 i) default).aG.ls:=by
  unfold fq at h
  simp only [bnd] at h
  rcases e:dC p (C0 m.ay.ls (D0 i) default).aM (C0 m.ay.ls (D0 i) default).aS 2 [] (rE m (D0 i)) with ⟨c,d⟩
  have e':=e
  unfold rE at e'
  rw [e'] at h
  have ha:=mP e
  obtain⟨rfl,a⟩:=Prod.mk.inj h
  obtain rfl:=oG a (by rw [ha.1]; rfl) (by rw [ha.1]; rfl) (by rw [ha.1]; rfl) (by rw [ha.2.1]; rfl)
  exact⟨ha.1,(Tr.cut p m (D0 i)).trans ((Tr.answer e).trans (Tr.decide _ _ _ _ _)),fun M=>ha.2.2.2.2 mE (tY M hi).sU (M.cut _),by
    obtain⟨x,e,_⟩:=ha.2.2.2.1
    rw [yB rfl,e,o1,List.length_singleton]
    simp only [jM,bnd]; rw [yE]⟩
theorem yF (a b:Nat):gP a b < 0↔a < b:=by
  unfold gP lu
  simp only [bnd]
  by_cases h:((a:Nat):Int) < ((b:Nat):Int)
  · simp [h]; omega
  · by_cases c:((a:Nat):Int) > ((b:Nat):Int) <;> simp [h,c] <;> omega
theorem Bg {l:List bH} {n:Nat} (hs:∀ i j:Nat,i≤j→j < l.length→(C0 l i default).aN≤(C0 l j default).aN):∀ (f a b:Nat),a≤b→b≤l.length→b - a < f→(∀ i,i < a→(C0 l i default).aN < n)→(∀ i,b≤i→i < l.length→n≤(C0 l i default).aN)→
    ∃ r,dB l n f a b=r∧r≤l.length∧(∀ i,i < r→(C0 l i default).aN < n)∧(∀ i,r≤i→i < l.length→n≤(C0 l i default).aN)
  | 0,a,b,_,_,h,_,_=>by omega
  | f+1,a,b,hab,hb,hf,c,d=>by
    simp only [dB,bnd]
    by_cases hlt:((a:Nat):Int) < ((b:Nat):Int)
    · rw [if_pos hlt]
      by_cases hc:gP (C0 l ((a+b) / 2) default).aN n < 0
      · rw [if_pos hc]
        rw [yF] at hc
        exact Bg hs f _ _ e6 hb e6 (fun i hi=>Nat.lt_of_le_of_lt (hs i ((a+b) / 2) e6 e6) hc) d
      · rw [if_neg hc]
        rw [yF] at hc
        exact Bg hs f _ _ e6 e6 e6 c (fun i hi hl=>L5 (Nat.le_of_not_lt hc) (hs ((a+b) / 2) i hi hl))
    · rw [if_neg hlt]
      exact⟨a,rfl,e6,c,fun i hi hl=>d i e6 hl⟩
theorem Ed {l:List bH} (h:R7 (· ≤ ·) (s5 bH.aN l)) (i j:Nat) (hij:i≤j) (hj:j < l.length):(C0 l i default).aN≤(C0 l j default).aN:=by
  rcases Nat.lt_or_eq_of_le hij with a | rfl
  · have:=List.pairwise_iff_getElem.1 h i j i9 i9 a
    rw [S7,S7] at this
    rw [L4,L4,s2 e6,s2 hj]
    exact this
  · exact o3 _
theorem Ee {l:List bH} {n:Nat} {r:Int × Bool} (hr:bM l n=r) (h:R7 (· ≤ ·) (s5 bH.aN l)):(∀ x ∈ q7 (D0 r.1) (s5 bH.aN l),x≤n)∧(∀ x ∈ r3 (D0 r.1) (s5 bH.aN l),n≤x):=by
  obtain⟨q,e,hl,a,c⟩:=Bg (Ed h) ((l.length - 0)+1) 0 l.length (Lg _) (o3 _) e6 (fun i hi=>by omega) (fun i hi hl=>by omega)
  have hq:D0 r.1=q:=by
    rw [← hr]; unfold bM
    simp only [bnd]
    rw [e]
    split <;> rfl
  rw [hq]
  have at_:∀ i (hi:i < l.length),(s5 bH.aN l)[i]'(by rw [s3]; exact hi)=(C0 l i default).aN:=fun i hi=>by
    rw [S7,L4,s2 hi]; rfl
  refine⟨fun x hx=> ?_,fun x hx=> ?_⟩
  · obtain⟨i,hi,rfl⟩:=List.mem_take_iff_getElem.1 hx
    rw [s3] at hi
    rw [at_ i e6]
    exact Nat.le_of_lt (a i e6)
  · obtain⟨i,hi,rfl⟩:=List.mem_drop_iff_getElem.1 hx
    rw [s3] at hi
    rw [at_ (q+i) e6]
    exact c _ e6 e6
def mZ (m:aA) (i j:Nat) (d:bH) (L:List eD):aA:= { m with aa:=cZ.mk m.aa.au m.aa.av m.aa.aV m.aa.aL (E2 m.aa.ag.ls) (E2 (q7 j m.aa.aj.ls++(d::r3 j m.aa.aj.ls))) (E2 L),ay:=E2 (q7 i m.ay.ls++r3 (i+1) m.ay.ls) }
theorem Tr.com (p:bI) (m:aA) {i j:Nat} {d:bH} {L:List eD} (hi:i < m.ay.ls.length) (hd:d.aN=(C0 m.ay.ls i default).aR) (hL:r8 L≤r8 m.aa.aF.ls+1)
    (hj:R7 (· ≤ ·) (nD m)→(∀ x ∈ q7 j (nD m),x≤d.aN)∧(∀ x ∈ r3 j (nD m),d.aN≤x)):Tr 1 p m p (mZ m i j d L):=by
  have hA:nA (mZ m i j d L)=q7 i (nA m)++r3 (i+1) (nA m):=by simp only [nA,mZ,v5,S5,S6]
  have hD:nD (mZ m i j d L)=q7 j (nD m)++d.aN::r3 j (nD m):=by simp only [nD,mZ,v5,List.map_cons,S5,S6]
  have hm:d.aN ∈ nA m:=by rw [hd]; exact List.mem_map.2 ⟨_,D3 (getD_at hi),rfl⟩
  refine⟨rfl,rfl,fun h=> ?_,hL,fun k _ hl h=> ?_⟩
  · simp only [mZ,o1,m9,o0,s0]; omega
  · have a:=h.2.ins (h.2.lA _ hm) (hj h.2.sD).1 (hj h.2.sD).2 (h.2.le.1 _ hm) (nA (mZ m i j d L)) (hA ▸ nW (nA m) i)
    rw [← hD] at a
    exact⟨⟨hl,a.1.mono (S8 k)⟩, [],(s6 _).symm,a.2⟩
theorem Mk.com {m:aA} (M:Mk m) {i j:Nat} {d:bH} {L:List eD} (hd:ky d.aN∧ky d.av∧ky d.aP∧r8 d.au.ls≤1000) (hL:∀ x ∈ L,ky x.av∧ky x.aP∧nI x.ai.ls):Mk (mZ m i j d L):=
  ⟨M.oz,M.sV,M.qF,M.ug,fun x hx=>by
    rcases v6.1 hx with h | h
    · exact M.dec x (G0 h)
    · rcases u9.1 h with rfl | h
      · exact hd
      · exact M.dec x (S2 h),hL,fun x hx=>M.act x ((nW _ _).subset hx),M.mU,M.lT,M.nu,M.ny,M.nz⟩
set_option maxHeartbeats 2000000 in
theorem xx {p t:bI} {i:Int} {m m':aA} (hi:D0 i < m.ay.ls.length) (h:jQ p i m=(t,m')):Tr 1 p m t m'∧(Mk m→Mk m'):=by
  unfold jQ at h
  simp only [bnd,jM] at h
  have hT:=fun M:Mk m=>tY M hi
  generalize hy:C0 m.ay.ls (D0 i) default=y at h hT
  rcases eg:lM y.bV.ls y.aG.ls y.af.ls with ⟨rs,ge⟩
  rw [eg] at h
  have hgr:=fun M:Mk m=>yA eg (hT M).ops.1 (hT M).ops.2 (hT M).Cs
  rcases es:bM m.aa.aj.ls y.aR with ⟨j,oj⟩
  rcases el:fH m.aa.aF.ls y.aM with ⟨q,oq⟩
  rw [es,el] at h
  obtain⟨sl,hsl⟩:∃ sl,gu y.aG.ls []=sl:=⟨_,rfl⟩
  rw [hsl] at h
  have hds:=fun M:Mk m=>(show ky y.aR∧ky m.aa.av∧ky y.aS∧r8 sl≤1000 from ⟨(hT M).num,M.oz,(hT M).sU,by have:=(hT M).len; rw [← hsl,yE]; omega⟩)
  have go:∀ {L:List eD} {f:bI} {c:aA},dC p y.aM y.aS 1 rs (mZ m (D0 i) (D0 j) (bH.mk y.aR y.aM m.aa.av y.aS (E2 sl)) L)=(f,c)→r8 L≤r8 m.aa.aF.ls+1→(Mk m→∀ x ∈ L,ky x.av∧ky x.aP∧nI x.ai.ls)→Tr 1 p m (dZ f y.aR sl true) c∧(Mk m→Mk c):=fun {L f c} e hL hM=>by
    have ha:=mP e
    have hc:Tr 1 p m p (mZ m (D0 i) (D0 j) (bH.mk y.aR y.aM m.aa.av y.aS (E2 sl)) L):=Tr.com p m hi (by rw [hy]) hL fun hp=>Ee es hp
    exact⟨hc.trans ((Tr.answer e).trans (Tr.decide _ _ _ _ _)),fun M=>ha.2.2.2.2 (hgr M) (hT M).sU (M.com (hds M) (hM M))⟩
  split at h
  · split at h
    · rcases e:dC p y.aM y.aS 1 rs (mZ m (D0 i) (D0 j) (bH.mk y.aR y.aM m.aa.av y.aS (E2 sl)) (u2 m.aa.aF.ls (D0 q) (eD.mk y.aM m.aa.av y.aS (E2 rs)))) with ⟨f,c⟩
      have ha:=mP e
      have e':=e
      unfold mZ at e'
      rw [e'] at h
      obtain⟨rfl,a⟩:=Prod.mk.inj h
      obtain rfl:=oG a (by rw [ha.1]; rfl) (by rw [ha.1]; rfl) (by rw [ha.1]; rfl) (by rw [ha.2.1]; rfl)
      refine go e (by rw [H1]; omega) fun M x hx=> ?_
      rcases O0 hx with d | rfl
      · exact M.mH x d
      · exact⟨M.oz,(hT M).sU,hgr M⟩
    · rcases e:dC p y.aM y.aS 1 rs (mZ m (D0 i) (D0 j) (bH.mk y.aR y.aM m.aa.av y.aS (E2 sl)) (q7 (D0 q) m.aa.aF.ls++((eD.mk y.aM m.aa.av y.aS (E2 rs))::r3 (D0 q) m.aa.aF.ls))) with ⟨f,c⟩
      have ha:=mP e
      have e':=e
      unfold mZ at e'
      rw [e'] at h
      obtain⟨rfl,a⟩:=Prod.mk.inj h
      obtain rfl:=oG a (by rw [ha.1]; rfl) (by rw [ha.1]; rfl) (by rw [ha.1]; rfl) (by rw [ha.2.1]; rfl)
      refine go e (by rw [o1,s0,m9,o0]; omega) fun M x hx=> ?_
      rcases v6.1 hx with d | d
      · exact M.mH x (G0 d)
      · rcases u9.1 d with rfl | d
        · exact⟨M.oz,(hT M).sU,hgr M⟩
        · exact M.mH x (S2 d)
  · rcases e:fq p i m with ⟨f,c⟩
    rw [e] at h
    have ha:=qf hi e
    obtain⟨rfl,a⟩:=Prod.mk.inj h
    obtain rfl:=oG a (by rw [ha.1]) (by rw [ha.1]) (by rw [ha.1]) rfl
    exact⟨ha.2.1.one,ha.2.2.1⟩
def oh (m:aA) (i:Nat) (y:dK):aA:= { m with ay:=E2 (u2 m.ay.ls i y) }
theorem vB {l:List dK} {i:Nat} {y:dK} (hy:y.aR=(C0 l i default).aR):s5 dK.aR (u2 l i y)=s5 dK.aR l:=by
  rw [List.map_set]
  by_cases h:i < l.length
  · have:(s5 dK.aR l)[i]'(by rw [s3]; exact h)=y.aR:=by rw [S7,hy,L4,s2 h]; rfl
    rw [← this]; exact S9 _
  · exact T0 i9
theorem Tr.set (p:bI) (m:aA) {i:Nat} {y:dK} (hy:y.aR=(C0 m.ay.ls i default).aR):Tr 0 p m p (oh m i y):=Tr.of rfl (vB hy) rfl (s6 _).symm (fun x hx=>by cases hx)
theorem Mk.set {m:aA} (M:Mk m) {i:Nat} {y:dK} (hy:Tok y):Mk (oh m i y):=⟨M.oz,M.sV,M.qF,M.ug,M.dec,M.mH,nJ M.act hy,M.mU,M.lT,M.nu,M.ny,M.nz⟩
theorem yG {l:List dK} {n:Nat} {r:Int × Bool} (hr:bW l n=r) (h:r.2=true):D0 r.1 < l.length:=by
  unfold bW at hr
  simp only [bnd] at hr
  split at hr
  · subst hr; simp only [K2]; omega
  · subst hr; cases h
theorem zB {p t:bI} {x:bL} {m m':aA} (h:kg p x m=(t,m')):Tr 1 p m t m'∧(nI x.ai.ls→Mk m→Mk m'):=by
  have same:(p,m)=(t,m')→Tr 1 p m t m'∧(nI x.ai.ls→Mk m→Mk m'):=fun h=>by
    obtain⟨rfl,rfl⟩:=Prod.mk.inj h
    exact⟨(Tr.same p m).one,fun _ M=>M⟩
  unfold kg jh at h
  simp only [bnd] at h
  rcases ef:bW m.ay.ls x.aN with ⟨i,ok⟩
  rw [ef] at h
  split at h
  case isFalse=>exact same h
  rename_i hok
  have hi:=yG ef hok
  split at h
  · exact same h
  split at h
  · exact same h
  have ab:∀ {d:bI} {a:aA},fq p i m=(d,a)→(d,aA.mk (cZ.mk a.aa.au a.aa.av a.aa.aV a.aa.aL (E2 m.aa.ag.ls) (E2 m.aa.aj.ls) (E2 m.aa.aF.ls)) a.bP (E2 a.ay.ls) a.bK a.bA a.bz a.bv a.bq a.dP a.dH a.dI a.dG a.dJ)=(t,m')→Tr 1 p m t m'∧(nI x.ai.ls→Mk m→Mk m'):=fun e h=>by
    have ha:=qf hi e
    obtain⟨rfl,c⟩:=Prod.mk.inj h
    obtain rfl:=oG c (by rw [ha.1]) (by rw [ha.1]) (by rw [ha.1]) rfl
    exact⟨ha.2.1.one,fun _=>ha.2.2.1⟩
  split at h
  · split at h
    · split at h
      · obtain⟨rfl,rfl⟩:=Prod.mk.inj h
        refine⟨Tr.one ?_,fun hr M=>M.set (i:=D0 i) (o7 (tY M hi) hr)⟩
        refine Tr.set p m (i:=D0 i) ?_
        rfl
      · rcases e:jQ p i (oh m (D0 i) (dK.mk (C0 m.ay.ls (D0 i) default).aR (C0 m.ay.ls (D0 i) default).aM (C0 m.ay.ls (D0 i) default).aS (C0 m.ay.ls (D0 i) default).dh (E2 (C0 m.ay.ls (D0 i) default).bV.ls) (E2 (C0 m.ay.ls (D0 i) default).aG.ls) (E2 (u2 (C0 m.ay.ls (D0 i) default).bD.ls (D0 (gT (C0 m.ay.ls (D0 i) default).aG.ls x)) true)) (E2 (u2 (C0 m.ay.ls (D0 i) default).af.ls (D0 (gT (C0 m.ay.ls (D0 i) default).aG.ls x)) (E2 x.ai.ls))) (C0 m.ay.ls (D0 i) default).eO)) with ⟨d,a⟩
        have e':=e
        unfold oh at e'
        rw [e'] at h
        have hc:=xx (by unfold oh; simp only [H1]; exact hi) e
        obtain⟨rfl,c⟩:=Prod.mk.inj h
        obtain rfl:=oG c (by rw [hc.1.own]; rfl) rfl rfl rfl
        refine⟨Nat.zero_add 1 ▸ Tr.trans ?_ hc.1,fun hr M=>hc.2 (M.set (o7 (tY M hi) hr))⟩
        refine Tr.set p m (i:=D0 i) ?_
        rfl
    · rcases e:fq p i m with ⟨d,a⟩
      rw [e] at h; exact ab e h
  · rcases e:fq p i m with ⟨d,a⟩
    rw [e] at h; exact ab e h
def sdX (m:aA) (D:List bH):aA:= { m with aa:=cZ.mk m.aa.au m.aa.av m.aa.aV m.aa.aL (E2 m.aa.ag.ls) (E2 D) (E2 m.aa.aF.ls) }
theorem Tr.sdX (p:bI) (m:aA) {D:List bH} (h:(s5 bH.aN D).Sublist (nD m)):Tr 1 p m p (sdX m D):=by
  have hl:=h.length_le
  simp only [nD,s3] at hl
  refine⟨rfl,rfl,fun h=> ?_,S8 _,fun k _ hk c=> ?_⟩
  · show r8 m.ay.ls+r8 D≤8; omega
  · have a:=c.2.sub (S4.refl _) h
    exact⟨⟨hk,a.1.mono (S8 k)⟩, [],(s6 _).symm,a.2⟩
theorem Ef {l:List bH} {i:Nat} {y:bH} (hy:y.aN=(C0 l i default).aN):s5 bH.aN (u2 l i y)=s5 bH.aN l:=by
  rw [List.map_set]
  by_cases h:i < l.length
  · have:(s5 bH.aN l)[i]'(by rw [s3]; exact h)=y.aN:=by rw [S7,hy,L4,s2 h]; rfl
    rw [← this]; exact S9 _
  · exact T0 i9
theorem xQ (l:List Int) (c:bL):∀ (f:Nat) (a b:Int) (q:List Int),r8 (iF l c f a b q).2≤r8 q
  | 0,a,b,q=>Lg _
  | f+1,a,b,q=>by
    simp only [iF,bnd]
    split
    · split
      · exact xQ l c f _ _ _
      · exact L5 (xQ l c f _ _ _) (by rw [H1]; exact o3 _)
    · exact o3 _
theorem EY (l:List Int) (c:bL):r8 (iP l c)≤r8 l:=by
  unfold iP
  simp only [bnd]
  split
  · exact o3 _
  · rw [m9]; exact L5 (R8 _ _) (xQ _ _ _ _ _ _)
theorem F9 {l:List bH} {n:Nat} {r:Int × Bool} (hr:bM l n=r) (h:r.2=true):D0 r.1 < l.length:=by
  unfold bM at hr
  simp only [bnd] at hr
  split at hr
  · subst hr; simp only [K2]; omega
  · subst hr; cases h
theorem pg {p t:bI} {x:bL} {m m':aA} (h:mf p x m=(t,m')):(∃ D,m'=sdX m D)∧Tr 1 p m t m'∧(Mk m→Mk m'):=by
  unfold mf at h
  simp only [bnd] at h
  rcases ef:bM m.aa.aj.ls x.aN with ⟨i,ok⟩
  rw [ef] at h
  split at h
  · rename_i hok
    have hi:=F9 ef hok
    have a:=fun M:Mk m=>M.dec _ (D3 (getD_at hi))
    generalize hy:C0 m.aa.aj.ls (D0 i) default=y at h a
    have hD:Mk m→Dk (u2 m.aa.aj.ls (D0 i) (bH.mk y.aN y.aK y.av y.aP (E2 (iP y.au.ls x)))):=fun M z hz=>by
      rcases O0 hz with d | rfl
      · exact M.dec z d
      · have c:=a M
        exact⟨c.1,c.2.1,c.2.2.1,L5 (EY _ _) c.2.2.2⟩
    have hmap:s5 bH.aN (u2 m.aa.aj.ls (D0 i) (bH.mk y.aN y.aK y.av y.aP (E2 (iP y.au.ls x))))=nD m:=Ef (by rw [hy])
    generalize u2 m.aa.aj.ls (D0 i) (bH.mk y.aN y.aK y.av y.aP (E2 (iP y.au.ls x)))=D at h hD hmap
    split at h
    · obtain⟨rfl,rfl⟩:=Prod.mk.inj h
      exact⟨⟨_,rfl⟩,Tr.sdX p m (hmap ▸ (nW D (D0 i)).map bH.aN),fun M=>⟨M.oz,M.sV,M.qF,M.ug,fun y hy=>hD M y ((nW _ _).subset hy),M.mH,M.act,M.mU,M.lT,M.nu,M.ny,M.nz⟩⟩
    · obtain⟨rfl,rfl⟩:=Prod.mk.inj h
      exact⟨⟨_,rfl⟩,Tr.sdX p m (hmap ▸ S4.refl _),fun M=>⟨M.oz,M.sV,M.qF,M.ug,hD M,M.mH,M.act,M.mU,M.lT,M.nu,M.ny,M.nz⟩⟩
  · obtain⟨rfl,rfl⟩:=Prod.mk.inj h
    exact⟨⟨_,rfl⟩,(Tr.same p m).one,id⟩
theorem EZ (p:bI) (x:bL) (m:aA):Tr 1 p m (lH p x m) m:=by
  unfold lH
  simp only [bnd]
  split
  · exact(Tr.decide _ _ _ _ _).one
  · split
    · exact(Tr.same p m).one
    · exact(Tr.decide _ _ _ _ _).one
theorem Lw.all {w n b:Nat} (hn:w≤n) (hb:w≤b):∀ {l:List bL} {a:Nat},a≤w→(∀ x ∈ l,x.aD=3∧x.dY=w∧x.aN=n)→Lw a b l
  | [],a,ha,_=>L5 ha hb
  | x::l,a,ha,h=>by
    have hx:=h x b1
    unfold Lw
    rw [if_pos hx.1,hx.2.1,hx.2.2]
    exact⟨ha,hn,Lw.all hn hb (o3 _) fun y hy=>h y (.tail _ hy)⟩
theorem zf (m:aA) (i:Int) (y:dK) (x:dK):∀ (f k:Nat) (o:List bL), ∃ q,iw m i y x f k o=o++q∧r8 q≤f∧∀ z ∈ q,z.aD=3∧z.dY=il (oh m (D0 i) (dK.mk y.aR y.aM y.aS y.dh (E2 y.bV.ls) (E2 y.aG.ls) (E2 y.bD.ls) (E2 y.af.ls) (C5.wrap (y.eO+1))))∧z.aN=x.aR
  | 0,k,o=>⟨[],(s6 _).symm,o3 _,fun z hz=>by cases hz⟩
  | f+1,k,o=>by
    simp only [iw,bnd]
    split
    · obtain⟨q,e,hl,hq⟩:=zf m i y x f (k+1) o
      exact⟨q,e,S3 hl,hq⟩
    · obtain⟨q,e,hl,hq⟩:=zf m i y x f (k+1) (o++ [bL.mk 3 0 (C0 x.aG.ls k default).eG 0 0 0 0 0 x.aR (il (oh m (D0 i) (dK.mk y.aR y.aM y.aS y.dh (E2 y.bV.ls) (E2 y.aG.ls) (E2 y.bD.ls) (E2 y.af.ls) (C5.wrap (y.eO+1))))) 0 x.dh 0 0 0 false (bC.mk [] []) (E2 (C0 x.aG.ls k default).aH.ls) (E2 []) (E2 [])])
      refine⟨_::q,e.trans (by rw [q4]; rfl),by rw [s0]; omega,fun z hz=> ?_⟩
      rcases u9.1 hz with rfl | hz
      · exact⟨rfl,rfl,rfl⟩
      · exact hq z hz
theorem Tr.tells {p t:bI} {m m':aA} {j n:Nat} {q:List bL} (h:Tr j p m p m') (ho:t.aX.ls=p.aX.ls++q) (hq:∀ z ∈ q,z.aD=3∧z.dY=il m'∧z.aN=n) (hn:∀ k,Im k m→k+j≤1000000→n ∈ nA m'):Tr j p m t m':=
  ⟨h.own,h.sh,h.ad,h.la,fun k c hl hk=>by
    obtain⟨a,o,e,d⟩:=h.lw k c hl hk
    have f:lo m≤lo m':=by
      have:o= []:=by have:=congrArg r8 e; rw [o1] at this; exact List.length_eq_zero_iff.1 e6
      subst this; exact d
    exact⟨a,q,ho,Lw.all (a.2.le.1 n (hn k hk hl)) (o3 _) f fun z hz=>⟨(hq z hz).1,(hq z hz).2.1.trans (Ec a),(hq z hz).2.2⟩⟩⟩
theorem uq {p t:bI} {n:Nat} {m m':aA} (h:jJ p n m=(t,m')):m'.aa=m.aa∧Tr 0 p m t m'∧(Mk m→Mk m')∧(Mk m→r8 t.aX.ls≤r8 p.aX.ls+6):=by
  unfold jJ at h
  simp only [bnd] at h
  rcases ef:bW m.ay.ls n with ⟨i,ok⟩
  rw [ef] at h
  split at h
  case isFalse=>
    obtain⟨rfl,rfl⟩:=Prod.mk.inj h
    exact⟨rfl,Tr.same p m,id,fun _=>Nat.le_add_right _ _⟩
  rename_i hok
  have hi:=yG ef hok
  generalize hy:C0 m.ay.ls (D0 i) default=y at h
  have hg:C0 (u2 m.ay.ls (D0 i) (dK.mk y.aR y.aM y.aS y.dh (E2 y.bV.ls) (E2 y.aG.ls) (E2 y.bD.ls) (E2 y.af.ls) (C5.wrap (y.eO+1)))) (D0 i) default=dK.mk y.aR y.aM y.aS y.dh (E2 y.bV.ls) (E2 y.aG.ls) (E2 y.bD.ls) (E2 y.af.ls) (C5.wrap (y.eO+1)):=by
    rw [L4,T1 hi]; rfl
  rw [hg] at h
  have hs:=Tr.set p m (i:=D0 i) (y:=dK.mk y.aR y.aM y.aS y.dh (E2 y.bV.ls) (E2 y.aG.ls) (E2 y.bD.ls) (E2 y.af.ls) (C5.wrap (y.eO+1))) (by rw [hy])
  have hm:=fun M:Mk m=>M.set (i:=D0 i) (qN (hy ▸ tY M hi) (C5.wrap (y.eO+1)))
  split at h
  · rcases e:fq p i (oh m (D0 i) (dK.mk y.aR y.aM y.aS y.dh (E2 y.bV.ls) (E2 y.aG.ls) (E2 y.bD.ls) (E2 y.af.ls) (C5.wrap (y.eO+1)))) with ⟨d,f⟩
    have e':=e
    unfold oh at e'
    rw [e'] at h
    have ha:=qf (by unfold oh; simp only [H1]; exact hi) e
    obtain⟨rfl,a⟩:=Prod.mk.inj h
    obtain rfl:=oG a (by rw [ha.1]; rfl) (by rw [ha.1]; rfl) (by rw [ha.1]; rfl) rfl
    refine⟨ha.1,hs.trans ha.2.1,fun M=>ha.2.2.1 (hm M),fun M=> ?_⟩
    rw [ha.2.2.2]
    have c:=(tY (hm M) (i:=D0 i) (by unfold oh; simp only [H1]; exact hi)).len
    exact Nat.add_le_add_left c (r8 p.aX.ls+1)
  · obtain⟨rfl,rfl⟩:=Prod.mk.inj h
    obtain⟨q,e,hl,hq⟩:=zf m i y (dK.mk y.aR y.aM y.aS y.dh (E2 y.bV.ls) (E2 y.aG.ls) (E2 y.bD.ls) (E2 y.af.ls) (C5.wrap (y.eO+1))) (r8 y.aG.ls) 0 p.aX.ls
    refine⟨rfl,hs.tells e hq fun k _ _=>List.mem_map.2 ⟨_,D3 (T1 hi),rfl⟩,hm,fun M=> ?_⟩
    show r8 (iw _ _ _ _ _ _ _)≤_
    rw [e,o1]
    have c:=(tY M hi).len
    rw [hy] at c; omega
end Go.Proofs.YtbkagebjhbphaaaGreat
