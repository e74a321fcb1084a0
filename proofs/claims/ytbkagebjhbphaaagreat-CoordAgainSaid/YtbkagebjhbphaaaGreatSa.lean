/-
 a stable sort of pairs: the library's text told.
-/
import Derived.Test.YtbkagebjhbphaaaGreatKy
import Derived.Test.YtbkagebjhbphaaaGreatWiX
import Derived.Test.YtbkagebjhbphaaaGreatStM
import Derived.Test.YtbkagebjhbphaaaGreatCs
namespace Go.Proofs.YtbkagebjhbphaaaGreat
open Int renaming toNat→D2
open IntKind renaming i64→C7
open List renaming flatMap→q6,getD→C2,length_replicate→H6,length_set→H5,set→u5,toArray→y6
open _root_.Go.Proofs.Tryz renaming call211→J3,isAgg153→J1,prog→y4,sizeOf153→J2
open WL renaming nil→D0
open Wp renaming exit→D1,loop→C5
set_option maxRecDepth 100000
open Go.RowKit
set_option linter.unusedVariables false
set_option linter.unusedSectionVars false
set_option linter.unusedSimpArgs false
def lh (a:List UInt8) (b:List UInt8):Int:=
 Lib.compareBytes a b
theorem pM (w D a b d) (H:Own w D w []) (hr:lh a b=d):
    Calls y4 192 #[.string ⟨y6 a⟩, .string ⟨y6 b⟩] w (dR fun v w'=>v=vI d∧Own w D w' []):=by
 refine cb Tryz.func192 ?_
 refine sr (Ar rfl (Mz rfl (Mz rfl (fw (vI (Lib.compareBytes a b)) (Jb (run_callFunc_extern Tryz.func203 e7 e7 e7 (e:=Extern.BytealgCompare.compare) e7) rfl) (An rfl (rt (rs ?_)))))))
 have c:=H.pk []
 obtain rfl:_=Lib.compareBytes a b:=hr.symm.trans rfl
 exact⟨rfl,c⟩
def strings_Compare (b:List UInt8) (c:List UInt8):Int:=
 bnd (lh b c) fun a=>a
theorem vE (w D f g j) (H:Own w D w []) (hr:strings_Compare f g=j):
    Calls y4 167 #[.string ⟨y6 f⟩, .string ⟨y6 g⟩] w (dR fun v w'=>v=vI j∧Own w D w' []):=by
 refine cb Tryz.func167 ?_
 refine sr (Ar rfl (Mz rfl (Mz rfl ?_)))
 obtain⟨b,a⟩:∃ q,lh f g=q:=⟨_,rfl⟩
 obtain⟨m,c,k,d,l⟩:=F3 H
 refine cl Tryz.call192 (pM _ _ f g b c a) ?_
 rintro _ n ⟨rfl,e⟩
 have h:=d _ _ e
 refine An rfl (rt (rs ?_))
 have i:=h.pk []
 obtain rfl:_=b:=hr.symm.trans (ai a)
 exact⟨rfl,i⟩
def iV (b:aI) (c:aI):Int:=
 bnd (strings_Compare b.bW c.bW) fun a=>a
theorem mQ (w D) (c:aI) (d:aI) (n) (H:Own w D w []) (hr:iV c d=n):
    Calls y4 166 #[.agg (aI.cells c).toArray, .agg (aI.cells d).toArray] w (dR fun v w'=>v=vI n∧Own w D w' []):=by
 refine cb Tryz.func166 ?_
 refine sr ?_
 refine dM (aI.cells c) 153 H ?_
 intro i r j
 refine dM (aI.cells d) 153 j ?_
 intro k s b
 refine Ar rfl (Kz (vP i 0) (Lz (.string ⟨y6 c.bW⟩) b 1 Tryz.isAgg9 (Kz (vP k 0) (Lz (.string ⟨y6 d.bW⟩) b 0 Tryz.isAgg9 ?_))))
 obtain⟨e,a⟩:∃ q,strings_Compare c.bW d.bW=q:=⟨_,rfl⟩
 obtain⟨t,f,o,g,p⟩:=F3 b
 refine cl Tryz.call167 (vE _ _ c.bW d.bW e f a) ?_
 rintro _ u ⟨rfl,h⟩
 have l:=g _ _ h
 refine An rfl (rt (rs ?_))
 have m:=l.pk []
 obtain rfl:_=e:=hr.symm.trans (ai a)
 exact⟨rfl,m⟩
def gX (g:Int):Nat→Int→List aI→(List aI)
  | 0,a,b=>default
  | f+1,a,b=>if a > g then bnd (C2 b (D2 a) default) fun c=>bnd (C2 b (D2 (a - 1)) default) fun d=>bnd (iV c d) fun e=>if e < 0 then gX g f (a - 1) (u5 (u5 b (D2 a) (aI.mk d.bW d.aQ)) (D2 (a - 1)) (aI.mk c.bW c.aQ)) else b else b
def gY (c:Int) (e:Int):Nat→Int→List aI→(List aI)
  | 0,a,b=>default
  | d+1,a,b=>if a < e then bnd (bnd (gX c ((D2 (a - c))+1) a b) fun sLrLstJjL=>sLrLstJjL) fun sJrLstJ=>gY c e d (a+1) sJrLstJ else b
def iC (l0:List aI) (a:Int) (b:Int):(List aI):=
 bnd (gY a b ((D2 (b - (a+1)))+1) (a+1) l0) fun sLrL=>sLrL
theorem lu (w D g n0 p l0 d k r0) (H:Own w D w [row g n0 p (q6 aI.cells l0) 153 2]) (af:n0=l0.length) (aS:l0.length *32≤211106232532992) (aT:0≤d∧d≤k∧k≤((l0.length:Nat):Int)) (hr:iC l0 d k=r0):
    Calls y4 201 #[.slice g n0 p,vI d,vI k, .func (.func 166) #[] #[]] w (dR fun v w'=>v= .tuple #[]∧Own w D w' [row g n0 p (q6 aI.cells r0) 153 2]∧(r0.length=l0.length)):=by
 subst af
 have aU:=H.rowC (i:=0) rfl
 refine cb Tryz.func201 ?_
 refine sr (Mz rfl (fw (vI (d+1)) (FX (e:=C7.wrap (d+1)) yk g2) (An rfl (bo ?_))))
 have ag:=H.pf []
 obtain⟨ah,s⟩:=qK fun (c:Int) m (t:Nat) w'=>Own w D w' [row g l0.length p (q6 aI.cells m) 153 2]∧m.length=l0.length∧d+1≤c∧D2 (k - c) < t∧gY d k ((D2 (k - (d+1)))+1) (d+1) l0=gY d k t c m
 refine C5 (fun i:Int × (List aI) × Nat=> [(8,vI i.1),(0, .slice g l0.length p),(1,vI d),(2,vI k),(3, .func (.func 166) #[] #[])]) ah (fun i=>i.2.2) (d+1,l0,(D2 (k - (d+1)))+1) ⟨rfl,rfl,rfl,rfl,rfl,trivial⟩ (s.2 ⟨ag,by first | omega | (simp only [H5] <;> omega) | (simp only [H6]),e6,e6,rfl⟩) ?_
 rintro ⟨c,m,t⟩ aV O
 obtain⟨P,aG,aH,aJ,I⟩:=s.1 O
 obtain⟨K,Q⟩:∃ q,t=q+1:=⟨t - 1,e6⟩
 subst Q
 refine FW (sr (Mz rfl (Mz rfl (Kz (.bool (decide (c < k))) (nt ?_)))))
 by_cases E:c < k
 refine jT (dT E) (sk (FW ?_))
 obtain⟨aj,u⟩:=mZ fun x w'=>Own w D w' [row g l0.length p (q6 aI.cells x) 153 2]∧x.length=l0.length∧(bnd (gX d ((D2 (c - d))+1) c m) fun sLrLstJjL=>sLrLstJjL)=x
 refine GG (fun i:(List aI)=> [(8,vI c),(0, .slice g l0.length p),(1,vI d),(2,vI k),(3, .func (.func 166) #[] #[])]) aj ?_ ?_
 refine bo (sr (Mz rfl (An rfl (bo ?_))))
 have ak:=P.pf []
 obtain⟨au,z⟩:=qK fun (a:Int) h (A:Nat) w'=>Own w D w' [row g l0.length p (q6 aI.cells h) 153 2]∧h.length=l0.length∧(d≤a∧a < k)∧D2 (a - d) < A∧gX d ((D2 (c - d))+1) c m=gX d A a h
 refine C5 (fun i:Int × (List aI) × Nat=> [(9,vI i.1),(8,vI c),(0, .slice g l0.length p),(1,vI d),(2,vI k),(3, .func (.func 166) #[] #[])]) au (fun i=>i.2.2) (c,m,(D2 (c - d))+1) ⟨rfl,rfl,rfl,rfl,rfl,rfl,trivial⟩ (z.2 ⟨ak,by first | omega | (simp only [H5] <;> omega) | (simp only [H6]),e6,e6,rfl⟩) ?_
 rintro ⟨a,h,A⟩ aW R
 obtain⟨av,aK,aL,aM,B⟩:=z.1 R
 obtain⟨L,S⟩:∃ q,A=q+1:=⟨A - 1,e6⟩
 subst S
 refine FW (FW ?_)
 refine vo [] (Gb (Gb (Gb (bL.block (bL.block (Gb (Gb (bL.block Gj)))))))) av ?_
 intro aX T
 refine qv 0 rfl rfl (qv 1 rfl rfl (qk (.bool (decide (a > d))) 2 rfl (qv 3 rfl rfl ?_)))
 by_cases b:a > d
 refine F8 (v:= .func (.func 166) #[] #[]) (rs:= []) 4 rfl rfl rfl (dT b) e7 (fun _ _=>F9 rfl) (F8 (v:= .slice g l0.length p) (rs:= []) 5 rfl rfl rfl (dT b) e7 (fun _ _=>F9 rfl) (F8 (v:=vJ (D2 a)) (rs:= []) 6 rfl rfl rfl (dT b) e7 (fun _ _=>FX (e:=a) (F9 rfl) e6) ?_))
 obtain⟨j,l⟩:=jo (ls:=h) (i:=D2 a) e9
 refine F8 (v:= .pointer (some ⟨ab g,ao g+(D2 a) *2,none⟩)) (rs:= []) 7 rfl rfl rfl (dT b) e7 (fun _ ⟨_,n⟩=>F4 (jO) rfl rfl ((n.rds (i:=0) rfl).addr (i:=D2 a) e6) e6) (F8 (v:= .agg (aI.cells j).toArray) (rs:= []) 8 rfl rfl rfl (dT b) e7 (fun _ ⟨_,n⟩=>F7 rfl (Gf (cs:=(aI.cells j)) J1 J2 ((n.rds (i:=0) rfl).elem aI.len l f3))) (F8 (v:= .slice g l0.length p) (rs:= []) 9 rfl rfl rfl (dT b) e7 (fun _ _=>F9 rfl) (F8 (v:=vI a) (rs:= []) 10 rfl rfl rfl (dT b) e7 (fun _ _=>F9 rfl) (F8 (v:=vJ (D2 (a - 1))) (rs:= []) 11 rfl rfl rfl (dT b) e7 (fun _ _=>FX (e:=C7.wrap (a - 1)) yk f1) ?_))))
 obtain⟨f,r⟩:=jo (ls:=h) (i:=D2 (a - 1)) e9
 refine F8 (v:= .pointer (some ⟨ab g,ao g+(D2 (a - 1)) *2,none⟩)) (rs:= []) 12 rfl rfl rfl (dT b) e7 (fun _ ⟨_,n⟩=>F4 (jO) rfl rfl ((n.rds (i:=0) rfl).addr (i:=D2 (a - 1)) e6) e6) (F8 (v:= .agg (aI.cells f).toArray) (rs:= []) 13 rfl rfl rfl (dT b) e7 (fun _ ⟨_,n⟩=>F7 rfl (Gf (cs:=(aI.cells f)) J1 J2 ((n.rds (i:=0) rfl).elem aI.len r f3))) ?_)
 obtain⟨F,C⟩:∃ q,iV j f=q:=⟨_,rfl⟩
 obtain⟨aY,U,aN,V,aO⟩:=F3 T
 refine Ht 14 rfl rfl rfl (dT b) e7 (Gr Tryz.call166 rfl rfl (mQ _ _ j f F U C) ?_)
 rintro _ aZ ⟨rfl,W⟩
 have M:=V _ _ W
 refine⟨.inr ⟨_,M⟩, ?_⟩
 refine F8 (v:= .bool (decide (F < 0))) (rs:= []) 15 rfl rfl rfl (dT b) e7 (fun _ _=>yk) (qt (v:= .bool (decide (F < 0))) 16 rfl (fun _ _=>Gd rfl (dT b) rfl) (qn (FY ?_)))
 by_cases G:F < 0
 refine jT (dT G) (sk (FW (bo ?_)))
 refine vo [15,17] (bL.block (Gb (Gb (bL.block (bL.block (Gb (Gb (bL.block Gj)))))))) M ?_
 intro bf ax
 refine qv 0 rfl rfl (qt (v:=vJ (D2 a)) 1 rfl (fun _ _=>FX (e:=a) (F9 rfl) e6) (Gu (v:= .slice g l0.length p) 2 rfl e7 (fun _=>F9 rfl) (Gu (v:=vI a) 3 rfl e7 (fun _=>F9 rfl) (Gu (v:=vJ (D2 (a - 1))) 4 rfl e7 (fun _=>FX (e:=C7.wrap (a - 1)) yk f1) (qv 5 rfl rfl (qv 6 rfl rfl (qt (v:=vJ (D2 (a - 1))) 7 rfl (fun _ _=>FX (e:=C7.wrap (a - 1)) yk f1) (qt (v:= .pointer (some ⟨ab g,ao g+(D2 (a - 1)) *2,none⟩)) 8 rfl (fun _ ⟨_,n⟩=>F4 (jO) rfl rfl ((n.rds (i:=0) rfl).addr (i:=D2 (a - 1)) e6) e6) (qt (v:= .agg (aI.cells f).toArray) 9 rfl (fun _ ⟨_,n⟩=>F7 rfl (Gf (cs:=(aI.cells f)) J1 J2 ((n.rds (i:=0) rfl).elem aI.len r f3))) (qv 10 rfl rfl (qt (v:=vJ (D2 a)) 11 rfl (fun _ _=>FX (e:=a) (F9 rfl) e6) (qt (v:= .pointer (some ⟨ab g,ao g+(D2 a) *2,none⟩)) 12 rfl (fun _ ⟨_,n⟩=>F4 (jO) rfl rfl ((n.rds (i:=0) rfl).addr (i:=D2 a) e6) e6) (qt (v:= .agg (aI.cells j).toArray) 13 rfl (fun _ ⟨_,n⟩=>F7 rfl (Gf (cs:=(aI.cells j)) J1 J2 ((n.rds (i:=0) rfl).elem aI.len l f3))) (qt (v:= .pointer (some ⟨ab g,ao g+(D2 a) *2,none⟩)) 14 rfl (fun _ ⟨_,n⟩=>F4 (jO) rfl rfl ((n.rds (i:=0) rfl).addr (i:=D2 a) e6) e6) ?_))))))))))))))
 refine qe 15 rfl (Do.storeRow (vs:=(aI.cells f)) (o:=(D2 a) *2+0) (q:=ao g+(D2 a) *2) ax rfl e6 rfl J2 rfl rfl (JO rfl) (iK aI.len l (JO rfl)) (jE (y:=(aI.mk f.bW f.aQ)) aI.len rfl (JO rfl) l) ?_)
 intro bg N
 refine⟨.inl e7, ?_⟩
 obtain⟨bi,aP⟩:=jo (ls:=h) (i:=D2 (a - 1)) e9
 obtain⟨bn,aQ⟩:=dK (ls:=(u5 h (D2 a) (aI.mk f.bW f.aQ))) (i:=D2 (a - 1)) aI.len f3 (N.rds (i:=0) rfl) e9
 refine Gu (v:= .pointer (some ⟨ab g,ao g+(D2 (a - 1)) *2,none⟩)) 16 rfl e7 (fun _=>F4 (jO) rfl rfl ((N.rds (i:=0) rfl).addr (i:=D2 (a - 1)) e6) e6) ?_
 obtain⟨bq,J⟩:=jo (ls:=(u5 h (D2 a) (aI.mk f.bW f.aQ))) (i:=D2 (a - 1)) e9
 refine qe 17 rfl (Do.storeRow (vs:=(aI.cells j)) (o:=(D2 (a - 1)) *2+0) (q:=ao g+(D2 (a - 1)) *2) N rfl e6 rfl J2 rfl rfl (JO rfl) (iK aI.len J (JO rfl)) (jE (y:=(aI.mk j.bW j.aQ)) aI.len rfl (JO rfl) J) ?_)
 intro bu ay
 refine⟨.inl e7, ?_⟩
 refine qn (bN (FY (FV (Mz rfl (fw (vI (a - 1)) (FX (e:=C7.wrap (a - 1)) yk g2) (Az rfl (D0 ?_)))))))
 have az:=ay.pf []
 exact Gc (a - 1,(u5 (u5 h (D2 a) (aI.mk f.bW f.aQ)) (D2 (a - 1)) (aI.mk j.bW j.aQ)),L) ⟨rfl,rfl,rfl,rfl,rfl,rfl,trivial⟩ (z.2 ⟨az,by first | omega | (simp only [H5] <;> omega) | (simp only [H6]),e6,e6,Eq.trans (B) (Eq.trans (if_pos b) (Eq.trans (ai (bF l)) (Eq.trans (ai (bF r)) (Eq.trans (ai C) (if_pos G)))))⟩) (by show L < L+1; omega)
 refine jF (dF G) (D1 (F6 (F6 (Gi (bN ?_)))))
 have aA:=M.pf []
 exact Gv h ⟨rfl,rfl,rfl,rfl,rfl,trivial⟩ (u.2 ⟨aA,by first | omega | (simp only [H5] <;> omega) | (simp only [H6]),ai (Eq.trans (B) (Eq.trans (if_pos b) (Eq.trans (ai (bF l)) (Eq.trans (ai (bF r)) (Eq.trans (ai C) (if_neg G))))))⟩)
 refine F5 (rs:= []) 4 rfl rfl rfl (dF b) e7 (F5 (rs:= []) 5 rfl rfl rfl (dF b) e7 (F5 (rs:= []) 6 rfl rfl rfl (dF b) e7 (F5 (rs:= []) 7 rfl rfl rfl (dF b) e7 (F5 (rs:= []) 8 rfl rfl rfl (dF b) e7 (F5 (rs:= []) 9 rfl rfl rfl (dF b) e7 (F5 (rs:= []) 10 rfl rfl rfl (dF b) e7 (F5 (rs:= []) 11 rfl rfl rfl (dF b) e7 (F5 (rs:= []) 12 rfl rfl rfl (dF b) e7 (F5 (rs:= []) 13 rfl rfl rfl (dF b) e7 (F5 (rs:= []) 14 rfl rfl rfl (dF b) e7 (F5 (rs:= []) 15 rfl rfl rfl (dF b) e7 (qt (v:= .bool false) 16 rfl (fun _ _=>FZ rfl (dF b) rfl) (qn (FY (jf (D1 (F6 (F6 (Gi (bN ?_))))))))))))))))))))
 have aB:=T.pf []
 exact Gv h ⟨rfl,rfl,rfl,rfl,rfl,trivial⟩ (u.2 ⟨aB,by first | omega | (simp only [H5] <;> omega) | (simp only [H6]),ai (Eq.trans (B) (if_neg b))⟩)
 rintro x bv X
 obtain⟨aC,aR,Y⟩:=u.1 X
 refine FV (Mz rfl (fw (vI (c+1)) (FX (e:=C7.wrap (c+1)) yk g2) (Az rfl (D0 ?_))))
 have aD:=aC.pf []
 exact Gc (c+1,x,K) ⟨rfl,rfl,rfl,rfl,rfl,trivial⟩ (s.2 ⟨aD,by first | omega | (simp only [H5] <;> omega) | (simp only [H6]),e6,e6,Eq.trans (I) (Eq.trans (if_pos E) (ai Y))⟩) (by show K < K+1; omega)
 refine jF (dF E) (D1 (F6 ?_))
 have Z:gY d k ((D2 (k - (d+1)))+1) (d+1) l0=m:=et (I) (iN E)
 refine F6 (Gi (Gh (res0 rfl) ?_))
 have aF:=P.pf []
 obtain rfl:_=m:=hr.symm.trans (ai Z)
 exact⟨rfl,aF,g5⟩
def fK (e:Int) (f:Int) (h:Int):Nat→Nat→List aI→(List aI)
  | 0,a,b=>default
  | g+1,a,b=>if((a:Nat):Int) < h then bnd (C2 b (D2 (f+((a:Nat):Int))) default) fun c=>bnd (C2 b (D2 (e+((a:Nat):Int))) default) fun d=>fK e f h g (a+1) (u5 (u5 b (D2 (e+((a:Nat):Int))) (aI.mk c.bW c.aQ)) (D2 (f+((a:Nat):Int))) (aI.mk d.bW d.aQ)) else b
def fq (l0:List aI) (b:Int) (c:Int) (a:Int):(List aI):=
 bnd (fK b c a ((D2 (a - 0))+1) 0 l0) fun sLrL=>sLrL
theorem kD (w D g F u l0 d b h G) (H:Own w D w [row g F u (q6 aI.cells l0) 153 2]) (I:F=l0.length) (U:l0.length *32≤211106232532992) (V:0≤d∧0≤b∧0≤h∧d+h≤((l0.length:Nat):Int)∧b+h≤((l0.length:Nat):Int)) (hr:fq l0 d b h=G):
    Calls y4 211 #[.slice g F u,vI d,vI b,vI h, .func (.func 166) #[] #[]] w (dR fun v w'=>v= .tuple #[]∧Own w D w' [row g F u (q6 aI.cells G) 153 2]∧(G.length=l0.length)):=by
 subst I
 have W:=H.rowC (i:=0) rfl
 refine cb Tryz.func211 ?_
 refine sr (An rfl (bo ?_))
 have J:=H.pf []
 obtain⟨K,l⟩:=qK fun (a:Nat) c (m:Nat) w'=>Own w D w' [row g l0.length u (q6 aI.cells c) 153 2]∧c.length=l0.length∧0≤a∧D2 (h - a) < m∧fK d b h ((D2 (h - 0))+1) 0 l0=fK d b h m a c
 refine C5 (fun i:Nat × (List aI) × Nat=> [(10,vJ i.1),(0, .slice g l0.length u),(1,vI d),(2,vI b),(3,vI h)]) K (fun i=>i.2.2) (0,l0,(D2 (h - 0))+1) ⟨rfl,rfl,rfl,rfl,rfl,trivial⟩ (l.2 ⟨J,by first | omega | (simp only [H5] <;> omega) | (simp only [H6]),e6,e6,rfl⟩) ?_
 rintro ⟨a,c,m⟩ X A
 obtain⟨B,P,Q,R,r⟩:=l.1 A
 obtain⟨x,C⟩:∃ q,m=q+1:=⟨m - 1,e6⟩
 subst C
 refine FW (sr (Mz rfl (Mz rfl (Kz (.bool (decide (((a:Nat):Int) < h))) (nt ?_)))))
 by_cases n:((a:Nat):Int) < h
 refine jT (dT n) (sk (FW (bo ?_)))
 refine vo [21,23] (bL.block (Gb (Gb (bL.block Gj)))) B ?_
 intro Y L
 refine qv 0 rfl rfl (qv 1 rfl rfl (qv 2 rfl rfl (qt (v:=vI ((D2 (d+((a:Nat):Int)):Nat):Int)) 3 rfl (fun _ _=>FX (e:=C7.wrap (d+((a:Nat):Int))) yk f1) (Gu (v:= .slice g l0.length u) 4 rfl e7 (fun _=>F9 rfl) (Gu (v:=vI b) 5 rfl e7 (fun _=>F9 rfl) (Gu (v:=vJ a) 6 rfl e7 (fun _=>F9 rfl) (Gu (v:=vI ((D2 (b+((a:Nat):Int)):Nat):Int)) 7 rfl e7 (fun _=>FX (e:=C7.wrap (b+((a:Nat):Int))) yk f1) (qv 8 rfl rfl (qv 9 rfl rfl (qv 10 rfl rfl (qt (v:=vI ((D2 (b+((a:Nat):Int)):Nat):Int)) 11 rfl (fun _ _=>FX (e:=C7.wrap (b+((a:Nat):Int))) yk f1) ?_)))))))))))
 obtain⟨f,s⟩:=jo (ls:=c) (i:=D2 (b+((a:Nat):Int))) e9
 refine qt (v:= .pointer (some ⟨ab g,ao g+(D2 (b+((a:Nat):Int))) *2,none⟩)) 12 rfl (fun _ ⟨_,p⟩=>F4 (jO) rfl rfl ((p.rds (i:=0) rfl).addr (i:=D2 (b+((a:Nat):Int))) e6) e6) (qt (v:= .agg (aI.cells f).toArray) 13 rfl (fun _ ⟨_,p⟩=>F7 rfl (Gf (cs:=(aI.cells f)) J1 J2 ((p.rds (i:=0) rfl).elem aI.len s f3))) (qv 14 rfl rfl (qv 15 rfl rfl (qv 16 rfl rfl (qt (v:=vI ((D2 (d+((a:Nat):Int)):Nat):Int)) 17 rfl (fun _ _=>FX (e:=C7.wrap (d+((a:Nat):Int))) yk f1) ?_)))))
 obtain⟨j,k⟩:=jo (ls:=c) (i:=D2 (d+((a:Nat):Int))) e9
 refine qt (v:= .pointer (some ⟨ab g,ao g+(D2 (d+((a:Nat):Int))) *2,none⟩)) 18 rfl (fun _ ⟨_,p⟩=>F4 (jO) rfl rfl ((p.rds (i:=0) rfl).addr (i:=D2 (d+((a:Nat):Int))) e6) e6) (qt (v:= .agg (aI.cells j).toArray) 19 rfl (fun _ ⟨_,p⟩=>F7 rfl (Gf (cs:=(aI.cells j)) J1 J2 ((p.rds (i:=0) rfl).elem aI.len k f3))) (qt (v:= .pointer (some ⟨ab g,ao g+(D2 (d+((a:Nat):Int))) *2,none⟩)) 20 rfl (fun _ ⟨_,p⟩=>F4 (jO) rfl rfl ((p.rds (i:=0) rfl).addr (i:=D2 (d+((a:Nat):Int))) e6) e6) ?_))
 refine qe 21 rfl (Do.storeRow (vs:=(aI.cells f)) (o:=(D2 (d+((a:Nat):Int))) *2+0) (q:=ao g+(D2 (d+((a:Nat):Int))) *2) L rfl e6 rfl J2 rfl rfl (JO rfl) (iK aI.len k (JO rfl)) (jE (y:=(aI.mk f.bW f.aQ)) aI.len rfl (JO rfl) k) ?_)
 intro Z z
 refine⟨.inl e7, ?_⟩
 obtain⟨aa,S⟩:=jo (ls:=c) (i:=D2 (b+((a:Nat):Int))) e9
 obtain⟨ae,T⟩:=dK (ls:=(u5 c (D2 (d+((a:Nat):Int))) (aI.mk f.bW f.aQ))) (i:=D2 (b+((a:Nat):Int))) aI.len f3 (z.rds (i:=0) rfl) e9
 refine Gu (v:= .pointer (some ⟨ab g,ao g+(D2 (b+((a:Nat):Int))) *2,none⟩)) 22 rfl e7 (fun _=>F4 (jO) rfl rfl ((z.rds (i:=0) rfl).addr (i:=D2 (b+((a:Nat):Int))) e6) e6) ?_
 obtain⟨af,t⟩:=jo (ls:=(u5 c (D2 (d+((a:Nat):Int))) (aI.mk f.bW f.aQ))) (i:=D2 (b+((a:Nat):Int))) e9
 refine qe 23 rfl (Do.storeRow (vs:=(aI.cells j)) (o:=(D2 (b+((a:Nat):Int))) *2+0) (q:=ao g+(D2 (b+((a:Nat):Int))) *2) z rfl e6 rfl J2 rfl rfl (JO rfl) (iK aI.len t (JO rfl)) (jE (y:=(aI.mk j.bW j.aQ)) aI.len rfl (JO rfl) t) ?_)
 intro ag M
 refine⟨.inl e7, ?_⟩
 refine qn (bN (FY (FV (Mz rfl (fw (vJ (a+1)) (FX (e:=C7.wrap (((a:Nat):Int)+1)) yk f1) (Az rfl (D0 ?_)))))))
 have N:=M.pf []
 exact Gc (a+1,(u5 (u5 c (D2 (d+((a:Nat):Int))) (aI.mk f.bW f.aQ)) (D2 (b+((a:Nat):Int))) (aI.mk j.bW j.aQ)),x) ⟨rfl,rfl,rfl,rfl,rfl,trivial⟩ (l.2 ⟨N,by first | omega | (simp only [H5] <;> omega) | (simp only [H6]),e6,e6,Eq.trans (r) (Eq.trans (if_pos n) (Eq.trans (ai (bF s)) (ai (bF k))))⟩) (by show x < x+1; omega)
 refine jF (dF n) (D1 (F6 ?_))
 have E:fK d b h ((D2 (h - 0))+1) 0 l0=c:=et (r) (iN n)
 refine F6 (Gi (Gh (res0 rfl) ?_))
 have O:=B.pf []
 obtain rfl:_=c:=hr.symm.trans (ai E)
 exact⟨rfl,O,g5⟩
def dn (d:Int):Nat→Int→Int→List aI→Int × (List aI)
  | 0,a,b,c=>default
  | e+1,a,b,c=>if a=b then(a,c) else if a > b then bnd (fq c (d - a) d b) fun f=>dn d e (a - b) b f else bnd (fq c (d - a) ((d+b) - a) a) fun g=>dn d e a (b - a) g
def ig (l0:List aI) (c:Int) (a:Int) (d:Int):(List aI):=
 bnd (dn a ((D2 ((a - c)+(d - a)))+1) (a - c) (d - a) l0) fun sLrL=>bnd (fq sLrL.2 (a - sLrL.1) a sLrL.1) fun b=>b
theorem p8 (w D n U o l0 g c h V) (H:Own w D w [row n U o (q6 aI.cells l0) 153 2]) (W:U=l0.length) (aC:l0.length *32≤211106232532992) (aD:0≤g∧g < c∧c < h∧h≤((l0.length:Nat):Int)) (hr:ig l0 g c h=V):
    Calls y4 209 #[.slice n U o,vI g,vI c,vI h, .func (.func 166) #[] #[]] w (dR fun v w'=>v= .tuple #[]∧Own w D w' [row n U o (q6 aI.cells V) 153 2]∧(V.length=l0.length)):=by
 subst W
 have aF:=H.rowC (i:=0) rfl
 refine cb Tryz.func209 ?_
 refine sr (Mz rfl (Mz rfl (fw (vI (c - g)) (FX (e:=C7.wrap (c - g)) yk g2) (Ar rfl (Mz rfl (Mz rfl (fw (vI (h - c)) (FX (e:=C7.wrap (h - c)) yk g2) (An rfl (FW (bo ?_))))))))))
 have X:=H.pf []
 obtain⟨Y,f⟩:=rZ fun (a:Int) (b:Int) d (k:Nat) w'=>Own w D w' [row n l0.length o (q6 aI.cells d) 153 2]∧d.length=l0.length∧(1≤a∧1≤b∧a≤c - g∧b≤h - c)∧D2 (a+b) < k∧dn c ((D2 ((c - g)+(h - c)))+1) (c - g) (h - c) l0=dn c k a b d
 refine C5 (fun i:Int × Int × (List aI) × Nat=> [(10,vI i.1),(11,vI i.2.1),(0, .slice n l0.length o),(2,vI c),(4, .func (.func 166) #[] #[])]) Y (fun i=>i.2.2.2) (c - g,h - c,l0,(D2 ((c - g)+(h - c)))+1) ⟨rfl,rfl,rfl,rfl,rfl,trivial⟩ (f.2 ⟨X,by first | omega | (simp only [H5] <;> omega) | (simp only [H6]),e6,e6,rfl⟩) ?_
 rintro ⟨a,b,d,k⟩ aG E
 obtain⟨z,af,ag,ah,l⟩:=f.1 E
 obtain⟨j,F⟩:∃ q,k=q+1:=⟨k - 1,e6⟩
 subst F
 refine FW (sr (Mz rfl (Mz rfl (fw (.bool (decide (¬ (a=b)))) (Gm (e:= !(decide (a=b))) yk decide_not.symm) (nt ?_)))))
 by_cases m:a=b
 refine jF (dF (JR m)) (D1 (F6 ?_))
 have G:dn c ((D2 ((c - g)+(h - c)))+1) (c - g) (h - c) l0=(a,d):=et (l) (ip m)
 refine F6 (Gi (FY (FV (Mz rfl (Mz rfl (Mz rfl (fw (vI (c - a)) (FX (e:=C7.wrap (c - a)) yk g2) (Mz rfl (Mz rfl (Mz rfl ?_))))))))))
 obtain⟨A,r⟩:∃ q,fq d (c - a) c a=q:=⟨_,rfl⟩
 obtain⟨aH,I,aj,J,ak⟩:=Gq z
 refine cl J3 (kD _ _ n l0.length o d (c - a) c a A I f0 e6 e6 r) ?_
 rintro _ aJ ⟨rfl,K,s⟩
 have L:=J _ _ K
 have au:=L.rowC (i:=0) rfl
 replace s:A.length=d.length:=s
 refine D0 (Gh (res0 rfl) ?_)
 have Z:=L.pf []
 obtain rfl:_=A:=hr.symm.trans (et (ai G) (ai r))
 exact⟨rfl,Z,g5⟩
 refine jT (dT m) (sk (bo (sr (Mz rfl (Mz rfl (Kz (.bool (decide (a > b))) (nt ?_)))))))
 by_cases p:a > b
 refine jT (dT p) (sr (Mz rfl (Mz rfl (Mz rfl (fw (vI (c - a)) (FX (e:=C7.wrap (c - a)) yk g2) (Mz rfl (Mz rfl (Mz rfl ?_))))))))
 obtain⟨B,t⟩:∃ q,fq d (c - a) c b=q:=⟨_,rfl⟩
 obtain⟨aK,M,av,N,ax⟩:=Gq z
 refine cl J3 (kD _ _ n l0.length o d (c - a) c b B M f0 e6 e6 t) ?_
 rintro _ aL ⟨rfl,O,u⟩
 have P:=N _ _ O
 have ay:=P.rowC (i:=0) rfl
 replace u:B.length=d.length:=u
 refine nt (FV (Mz rfl (Mz rfl (fw (vI (a - b)) (FX (e:=C7.wrap (a - b)) yk g2) (Az rfl (D0 (bN ?_)))))))
 have aa:=P.pf []
 exact Gc (a - b,b,B,j) ⟨rfl,rfl,rfl,rfl,rfl,trivial⟩ (f.2 ⟨aa,by first | omega | (simp only [H5] <;> omega) | (simp only [H6]),e6,e6,Eq.trans (l) (Eq.trans (if_neg m) (Eq.trans (if_pos p) (ai t)))⟩) (by show j < j+1; omega)
 refine jF (dF p) (sr (Mz rfl (Mz rfl (Mz rfl (fw (vI (c - a)) (FX (e:=C7.wrap (c - a)) yk g2) (Mz rfl (Mz rfl (fw (vI (c+b)) (FX (e:=C7.wrap (c+b)) yk g2) (Mz rfl (fw (vI ((c+b) - a)) (FX (e:=C7.wrap ((c+b) - a)) yk g2) (Mz rfl (Mz rfl ?_))))))))))))
 obtain⟨C,x⟩:∃ q,fq d (c - a) ((c+b) - a) a=q:=⟨_,rfl⟩
 obtain⟨aM,Q,az,R,aA⟩:=Gq z
 refine cl J3 (kD _ _ n l0.length o d (c - a) ((c+b) - a) a C Q f0 e6 e6 x) ?_
 rintro _ aN ⟨rfl,S,y⟩
 have T:=R _ _ S
 have aB:=T.rowC (i:=0) rfl
 replace y:C.length=d.length:=y
 refine nt (FV (Mz rfl (Mz rfl (fw (vI (b - a)) (FX (e:=C7.wrap (b - a)) yk g2) (Az rfl (D0 (bN ?_)))))))
 have ae:=T.pf []
 exact Gc (a,b - a,C,j) ⟨rfl,rfl,rfl,rfl,rfl,trivial⟩ (f.2 ⟨ae,by first | omega | (simp only [H5] <;> omega) | (simp only [H6]),e6,e6,Eq.trans (l) (Eq.trans (if_neg m) (Eq.trans (if_neg p) (ai x)))⟩) (by show j < j+1; omega)
end Go.Proofs.YtbkagebjhbphaaaGreat
