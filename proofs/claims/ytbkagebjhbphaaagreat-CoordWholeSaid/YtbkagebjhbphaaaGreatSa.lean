/-
 a stable sort of pairs: the library's text told.
-/
import Derived.Test.YtbkagebjhbphaaaGreatKx
import Derived.Test.YtbkagebjhbphaaaGreatWiX
import Derived.Test.YtbkagebjhbphaaaGreatStM
import Derived.Test.YtbkagebjhbphaaaGreatCs
namespace Go.Proofs.YtbkagebjhbphaaaGreat
open Int renaming toNat→C6
open IntKind renaming i64→C3
open List renaming flatMap→q4,getD→B8,length_replicate→H0,length_set→G4,set→I3,toArray→v6
open _root_.Go.Proofs.Tryz renaming call211→K0,isAgg153→J0,prog→v5,sizeOf153→J1
open WL renaming nil→C4
open Wp renaming exit→C5,loop→C1
set_option maxRecDepth 100000
open Go.RowKit
set_option linter.unusedVariables false
set_option linter.unusedSectionVars false
set_option linter.unusedSimpArgs false
def lh (a:List UInt8) (b:List UInt8):Int:=
 Lib.compareBytes a b
theorem pY (w D a b d) (H:Own w D w []) (hr:lh a b=d):
    Calls v5 192 #[.string ⟨v6 a⟩, .string ⟨v6 b⟩] w (dA fun v w'=>v=vI d∧Own w D w' []):=by
 refine cb Tryz.func192 ?_
 refine sr (Ar rfl (Mz rfl (Mz rfl (fw (vI (Lib.compareBytes a b)) (KF (run_callFunc_extern Tryz.func203 e7 e7 e7 (e:=Extern.BytealgCompare.compare) e7) rfl) (An rfl (rt (rs ?_)))))))
 have c:=H.pk []
 obtain rfl:_=Lib.compareBytes a b:=hr.symm.trans rfl
 exact⟨rfl,c⟩
def strings_Compare (b:List UInt8) (c:List UInt8):Int:=
 bnd (lh b c) fun a=>a
theorem vO (w D f g j) (H:Own w D w []) (hr:strings_Compare f g=j):
    Calls v5 167 #[.string ⟨v6 f⟩, .string ⟨v6 g⟩] w (dA fun v w'=>v=vI j∧Own w D w' []):=by
 refine cb Tryz.func167 ?_
 refine sr (Ar rfl (Mz rfl (Mz rfl ?_)))
 obtain⟨b,a⟩:∃ q,lh f g=q:=⟨_,rfl⟩
 obtain⟨m,c,k,d,l⟩:=Iu H
 refine cl Tryz.call192 (pY _ _ f g b c a) ?_
 rintro _ n ⟨rfl,e⟩
 have h:=d _ _ e
 refine An rfl (rt (rs ?_))
 have i:=h.pk []
 obtain rfl:_=b:=hr.symm.trans (ae a)
 exact⟨rfl,i⟩
def iW (b:aH) (c:aH):Int:=
 bnd (strings_Compare b.aZ c.aZ) fun a=>a
theorem nk (w D) (c:aH) (d:aH) (n) (H:Own w D w []) (hr:iW c d=n):
    Calls v5 166 #[.agg (aH.cells c).toArray, .agg (aH.cells d).toArray] w (dA fun v w'=>v=vI n∧Own w D w' []):=by
 refine cb Tryz.func166 ?_
 refine sr ?_
 refine dn (aH.cells c) 153 H ?_
 intro i r j
 refine dn (aH.cells d) 153 j ?_
 intro k s b
 refine Ar rfl (Kz (vP i 0) (Lz (.string ⟨v6 c.aZ⟩) b 1 Tryz.isAgg9 (Kz (vP k 0) (Lz (.string ⟨v6 d.aZ⟩) b 0 Tryz.isAgg9 ?_))))
 obtain⟨e,a⟩:∃ q,strings_Compare c.aZ d.aZ=q:=⟨_,rfl⟩
 obtain⟨t,f,o,g,p⟩:=Iu b
 refine cl Tryz.call167 (vO _ _ c.aZ d.aZ e f a) ?_
 rintro _ u ⟨rfl,h⟩
 have l:=g _ _ h
 refine An rfl (rt (rs ?_))
 have m:=l.pk []
 obtain rfl:_=e:=hr.symm.trans (ae a)
 exact⟨rfl,m⟩
def gW (g:Int):Nat→Int→List aH→(List aH)
  | 0,a,b=>default
  | f+1,a,b=>if a > g then bnd (B8 b (C6 a) default) fun c=>bnd (B8 b (C6 (a - 1)) default) fun d=>bnd (iW c d) fun e=>if e < 0 then gW g f (a - 1) (I3 (I3 b (C6 a) (aH.mk d.aZ d.aG)) (C6 (a - 1)) (aH.mk c.aZ c.aG)) else b else b
def gX (c:Int) (e:Int):Nat→Int→List aH→(List aH)
  | 0,a,b=>default
  | d+1,a,b=>if a < e then bnd (bnd (gW c ((C6 (a - c))+1) a b) fun sLrLstJjL=>sLrLstJjL) fun sJrLstJ=>gX c e d (a+1) sJrLstJ else b
def iD (l0:List aH) (a:Int) (b:Int):(List aH):=
 bnd (gX a b ((C6 (b - (a+1)))+1) (a+1) l0) fun sLrL=>sLrL
theorem lG (w D g n0 p l0 d k r0) (H:Own w D w [row g n0 p (q4 aH.cells l0) 153 2]) (ag:n0=l0.length) (aS:l0.length *32≤211106232532992) (aU:0≤d∧d≤k∧k≤((l0.length:Nat):Int)) (hr:iD l0 d k=r0):
    Calls v5 201 #[.slice g n0 p,vI d,vI k, .func (.func 166) #[] #[]] w (dA fun v w'=>v= .tuple #[]∧Own w D w' [row g n0 p (q4 aH.cells r0) 153 2]∧(r0.length=l0.length)):=by
 subst ag
 have aV:=H.rowC (i:=0) rfl
 refine cb Tryz.func201 ?_
 refine sr (Mz rfl (fw (vI (d+1)) (Ir (e:=C3.wrap (d+1)) yk g1) (An rfl (bo ?_))))
 have ah:=H.pf []
 obtain⟨ai,s⟩:=rJ fun (c:Int) m (t:Nat) w'=>Own w D w' [row g l0.length p (q4 aH.cells m) 153 2]∧m.length=l0.length∧d+1≤c∧C6 (k - c) < t∧gX d k ((C6 (k - (d+1)))+1) (d+1) l0=gX d k t c m
 refine C1 (fun i:Int × (List aH) × Nat=> [(8,vI i.1),(0, .slice g l0.length p),(1,vI d),(2,vI k),(3, .func (.func 166) #[] #[])]) ai (fun i=>i.2.2) (d+1,l0,(C6 (k - (d+1)))+1) ⟨rfl,rfl,rfl,rfl,rfl,trivial⟩ (s.2 ⟨ah,by first | omega | (simp only [G4] <;> omega) | (simp only [H0]),e6,e6,rfl⟩) ?_
 rintro ⟨c,m,t⟩ aW O
 obtain⟨P,aG,aI,aJ,I⟩:=s.1 O
 obtain⟨K,Q⟩:∃ q,t=q+1:=⟨t - 1,e6⟩
 subst Q
 refine Ik (sr (Mz rfl (Mz rfl (Kz (.bool (decide (c < k))) (nt ?_)))))
 by_cases E:c < k
 refine jT (dT E) (sk (Ik ?_))
 obtain⟨aj,u⟩:=lF fun x w'=>Own w D w' [row g l0.length p (q4 aH.cells x) 153 2]∧x.length=l0.length∧(bnd (gW d ((C6 (c - d))+1) c m) fun sLrLstJjL=>sLrLstJjL)=x
 refine Jg (fun i:(List aH)=> [(8,vI c),(0, .slice g l0.length p),(1,vI d),(2,vI k),(3, .func (.func 166) #[] #[])]) aj ?_ ?_
 refine bo (sr (Mz rfl (An rfl (bo ?_))))
 have ak:=P.pf []
 obtain⟨au,z⟩:=rJ fun (a:Int) h (A:Nat) w'=>Own w D w' [row g l0.length p (q4 aH.cells h) 153 2]∧h.length=l0.length∧(d≤a∧a < k)∧C6 (a - d) < A∧gW d ((C6 (c - d))+1) c m=gW d A a h
 refine C1 (fun i:Int × (List aH) × Nat=> [(9,vI i.1),(8,vI c),(0, .slice g l0.length p),(1,vI d),(2,vI k),(3, .func (.func 166) #[] #[])]) au (fun i=>i.2.2) (c,m,(C6 (c - d))+1) ⟨rfl,rfl,rfl,rfl,rfl,rfl,trivial⟩ (z.2 ⟨ak,by first | omega | (simp only [G4] <;> omega) | (simp only [H0]),e6,e6,rfl⟩) ?_
 rintro ⟨a,h,A⟩ aX R
 obtain⟨av,aK,aL,aM,B⟩:=z.1 R
 obtain⟨L,S⟩:∃ q,A=q+1:=⟨A - 1,e6⟩
 subst S
 refine Ik (Ik ?_)
 refine vo [] (IE (IE (IE (bv.block (bv.block (IE (IE (bv.block IQ)))))))) av ?_
 intro aY T
 refine qv 0 rfl rfl (qv 1 rfl rfl (qk (.bool (decide (a > d))) 2 rfl (qv 3 rfl rfl ?_)))
 by_cases b:a > d
 refine Iy (v:= .func (.func 166) #[] #[]) (rs:= []) 4 rfl rfl rfl (dT b) e7 (fun _ _=>IA rfl) (Iy (v:= .slice g l0.length p) (rs:= []) 5 rfl rfl rfl (dT b) e7 (fun _ _=>IA rfl) (Iy (v:=vJ (C6 a)) (rs:= []) 6 rfl rfl rfl (dT b) e7 (fun _ _=>Ir (e:=a) (IA rfl) e6) ?_))
 obtain⟨j,l⟩:=iG (ls:=h) (i:=C6 a) e9
 refine Iy (v:= .pointer (some ⟨ab g,ao g+(C6 a) *2,none⟩)) (rs:= []) 7 rfl rfl rfl (dT b) e7 (fun _ ⟨_,n⟩=>Iz (jL) rfl rfl ((n.rds (i:=0) rfl).addr (i:=C6 a) e6) e6) (Iy (v:= .agg (aH.cells j).toArray) (rs:= []) 8 rfl rfl rfl (dT b) e7 (fun _ ⟨_,n⟩=>IB rfl (IJ (cs:=(aH.cells j)) J0 J1 ((n.rds (i:=0) rfl).elem aH.len l f2))) (Iy (v:= .slice g l0.length p) (rs:= []) 9 rfl rfl rfl (dT b) e7 (fun _ _=>IA rfl) (Iy (v:=vI a) (rs:= []) 10 rfl rfl rfl (dT b) e7 (fun _ _=>IA rfl) (Iy (v:=vJ (C6 (a - 1))) (rs:= []) 11 rfl rfl rfl (dT b) e7 (fun _ _=>Ir (e:=C3.wrap (a - 1)) yk f0) ?_))))
 obtain⟨f,r⟩:=iG (ls:=h) (i:=C6 (a - 1)) e9
 refine Iy (v:= .pointer (some ⟨ab g,ao g+(C6 (a - 1)) *2,none⟩)) (rs:= []) 12 rfl rfl rfl (dT b) e7 (fun _ ⟨_,n⟩=>Iz (jL) rfl rfl ((n.rds (i:=0) rfl).addr (i:=C6 (a - 1)) e6) e6) (Iy (v:= .agg (aH.cells f).toArray) (rs:= []) 13 rfl rfl rfl (dT b) e7 (fun _ ⟨_,n⟩=>IB rfl (IJ (cs:=(aH.cells f)) J0 J1 ((n.rds (i:=0) rfl).elem aH.len r f2))) ?_)
 obtain⟨F,C⟩:∃ q,iW j f=q:=⟨_,rfl⟩
 obtain⟨aZ,U,aN,V,aO⟩:=Iu T
 refine Jl 14 rfl rfl rfl (dT b) e7 (IY Tryz.call166 rfl rfl (nk _ _ j f F U C) ?_)
 rintro _ bf ⟨rfl,W⟩
 have M:=V _ _ W
 refine⟨.inr ⟨_,M⟩, ?_⟩
 refine Iy (v:= .bool (decide (F < 0))) (rs:= []) 15 rfl rfl rfl (dT b) e7 (fun _ _=>yk) (qt (v:= .bool (decide (F < 0))) 16 rfl (fun _ _=>Iw rfl (dT b) rfl) (qn (Iq ?_)))
 by_cases G:F < 0
 refine jT (dT G) (sk (Ik (bo ?_)))
 refine vo [15,17] (bv.block (IE (IE (bv.block (bv.block (IE (IE (bv.block IQ)))))))) M ?_
 intro bg ax
 refine qv 0 rfl rfl (qt (v:=vJ (C6 a)) 1 rfl (fun _ _=>Ir (e:=a) (IA rfl) e6) (I4 (v:= .slice g l0.length p) 2 rfl e7 (fun _=>IA rfl) (I4 (v:=vI a) 3 rfl e7 (fun _=>IA rfl) (I4 (v:=vJ (C6 (a - 1))) 4 rfl e7 (fun _=>Ir (e:=C3.wrap (a - 1)) yk f0) (qv 5 rfl rfl (qv 6 rfl rfl (qt (v:=vJ (C6 (a - 1))) 7 rfl (fun _ _=>Ir (e:=C3.wrap (a - 1)) yk f0) (qt (v:= .pointer (some ⟨ab g,ao g+(C6 (a - 1)) *2,none⟩)) 8 rfl (fun _ ⟨_,n⟩=>Iz (jL) rfl rfl ((n.rds (i:=0) rfl).addr (i:=C6 (a - 1)) e6) e6) (qt (v:= .agg (aH.cells f).toArray) 9 rfl (fun _ ⟨_,n⟩=>IB rfl (IJ (cs:=(aH.cells f)) J0 J1 ((n.rds (i:=0) rfl).elem aH.len r f2))) (qv 10 rfl rfl (qt (v:=vJ (C6 a)) 11 rfl (fun _ _=>Ir (e:=a) (IA rfl) e6) (qt (v:= .pointer (some ⟨ab g,ao g+(C6 a) *2,none⟩)) 12 rfl (fun _ ⟨_,n⟩=>Iz (jL) rfl rfl ((n.rds (i:=0) rfl).addr (i:=C6 a) e6) e6) (qt (v:= .agg (aH.cells j).toArray) 13 rfl (fun _ ⟨_,n⟩=>IB rfl (IJ (cs:=(aH.cells j)) J0 J1 ((n.rds (i:=0) rfl).elem aH.len l f2))) (qt (v:= .pointer (some ⟨ab g,ao g+(C6 a) *2,none⟩)) 14 rfl (fun _ ⟨_,n⟩=>Iz (jL) rfl rfl ((n.rds (i:=0) rfl).addr (i:=C6 a) e6) e6) ?_))))))))))))))
 refine qe 15 rfl (Do.storeRow (vs:=(aH.cells f)) (o:=(C6 a) *2+0) (q:=ao g+(C6 a) *2) ax rfl e6 rfl J1 rfl rfl (Lj rfl) (ja aH.len l (Lj rfl)) (jJ (y:=(aH.mk f.aZ f.aG)) aH.len rfl (Lj rfl) l) ?_)
 intro bi N
 refine⟨.inl e7, ?_⟩
 obtain⟨bn,aP⟩:=iG (ls:=h) (i:=C6 (a - 1)) e9
 obtain⟨bq,aQ⟩:=dh (ls:=(I3 h (C6 a) (aH.mk f.aZ f.aG))) (i:=C6 (a - 1)) aH.len f2 (N.rds (i:=0) rfl) e9
 refine I4 (v:= .pointer (some ⟨ab g,ao g+(C6 (a - 1)) *2,none⟩)) 16 rfl e7 (fun _=>Iz (jL) rfl rfl ((N.rds (i:=0) rfl).addr (i:=C6 (a - 1)) e6) e6) ?_
 obtain⟨bu,J⟩:=iG (ls:=(I3 h (C6 a) (aH.mk f.aZ f.aG))) (i:=C6 (a - 1)) e9
 refine qe 17 rfl (Do.storeRow (vs:=(aH.cells j)) (o:=(C6 (a - 1)) *2+0) (q:=ao g+(C6 (a - 1)) *2) N rfl e6 rfl J1 rfl rfl (Lj rfl) (ja aH.len J (Lj rfl)) (jJ (y:=(aH.mk j.aZ j.aG)) aH.len rfl (Lj rfl) J) ?_)
 intro bz ay
 refine⟨.inl e7, ?_⟩
 refine qn (bN (Iq (Il (Mz rfl (fw (vI (a - 1)) (Ir (e:=C3.wrap (a - 1)) yk g1) (Az rfl (C4 ?_)))))))
 have az:=ay.pf []
 exact II (a - 1,(I3 (I3 h (C6 a) (aH.mk f.aZ f.aG)) (C6 (a - 1)) (aH.mk j.aZ j.aG)),L) ⟨rfl,rfl,rfl,rfl,rfl,rfl,trivial⟩ (z.2 ⟨az,by first | omega | (simp only [G4] <;> omega) | (simp only [H0]),e6,e6,Eq.trans (B) (Eq.trans (if_pos b) (Eq.trans (ae (aT l)) (Eq.trans (ae (aT r)) (Eq.trans (ae C) (if_pos G)))))⟩) (by show L < L+1; omega)
 refine jF (dF G) (C5 (IC (IC (IK (bN ?_)))))
 have aA:=M.pf []
 exact I8 h ⟨rfl,rfl,rfl,rfl,rfl,trivial⟩ (u.2 ⟨aA,by first | omega | (simp only [G4] <;> omega) | (simp only [H0]),ae (Eq.trans (B) (Eq.trans (if_pos b) (Eq.trans (ae (aT l)) (Eq.trans (ae (aT r)) (Eq.trans (ae C) (if_neg G))))))⟩)
 refine Ip (rs:= []) 4 rfl rfl rfl (dF b) e7 (Ip (rs:= []) 5 rfl rfl rfl (dF b) e7 (Ip (rs:= []) 6 rfl rfl rfl (dF b) e7 (Ip (rs:= []) 7 rfl rfl rfl (dF b) e7 (Ip (rs:= []) 8 rfl rfl rfl (dF b) e7 (Ip (rs:= []) 9 rfl rfl rfl (dF b) e7 (Ip (rs:= []) 10 rfl rfl rfl (dF b) e7 (Ip (rs:= []) 11 rfl rfl rfl (dF b) e7 (Ip (rs:= []) 12 rfl rfl rfl (dF b) e7 (Ip (rs:= []) 13 rfl rfl rfl (dF b) e7 (Ip (rs:= []) 14 rfl rfl rfl (dF b) e7 (Ip (rs:= []) 15 rfl rfl rfl (dF b) e7 (qt (v:= .bool false) 16 rfl (fun _ _=>Io rfl (dF b) rfl) (qn (Iq (jf (C5 (IC (IC (IK (bN ?_))))))))))))))))))))
 have aB:=T.pf []
 exact I8 h ⟨rfl,rfl,rfl,rfl,rfl,trivial⟩ (u.2 ⟨aB,by first | omega | (simp only [G4] <;> omega) | (simp only [H0]),ae (Eq.trans (B) (if_neg b))⟩)
 rintro x bA X
 obtain⟨aC,aR,Y⟩:=u.1 X
 refine Il (Mz rfl (fw (vI (c+1)) (Ir (e:=C3.wrap (c+1)) yk g1) (Az rfl (C4 ?_))))
 have aD:=aC.pf []
 exact II (c+1,x,K) ⟨rfl,rfl,rfl,rfl,rfl,trivial⟩ (s.2 ⟨aD,by first | omega | (simp only [G4] <;> omega) | (simp only [H0]),e6,e6,Eq.trans (I) (Eq.trans (if_pos E) (ae Y))⟩) (by show K < K+1; omega)
 refine jF (dF E) (C5 (IC ?_))
 have Z:gX d k ((C6 (k - (d+1)))+1) (d+1) l0=m:=et (I) (iN E)
 refine IC (IK (IL (res0 rfl) ?_))
 have aF:=P.pf []
 obtain rfl:_=m:=hr.symm.trans (ae Z)
 exact⟨rfl,aF,g4⟩
def fG (e:Int) (f:Int) (h:Int):Nat→Nat→List aH→(List aH)
  | 0,a,b=>default
  | g+1,a,b=>if((a:Nat):Int) < h then bnd (B8 b (C6 (f+((a:Nat):Int))) default) fun c=>bnd (B8 b (C6 (e+((a:Nat):Int))) default) fun d=>fG e f h g (a+1) (I3 (I3 b (C6 (e+((a:Nat):Int))) (aH.mk c.aZ c.aG)) (C6 (f+((a:Nat):Int))) (aH.mk d.aZ d.aG)) else b
def eT (l0:List aH) (b:Int) (c:Int) (a:Int):(List aH):=
 bnd (fG b c a ((C6 (a - 0))+1) 0 l0) fun sLrL=>sLrL
theorem kz (w D g F u l0 d b h G) (H:Own w D w [row g F u (q4 aH.cells l0) 153 2]) (I:F=l0.length) (U:l0.length *32≤211106232532992) (V:0≤d∧0≤b∧0≤h∧d+h≤((l0.length:Nat):Int)∧b+h≤((l0.length:Nat):Int)) (hr:eT l0 d b h=G):
    Calls v5 211 #[.slice g F u,vI d,vI b,vI h, .func (.func 166) #[] #[]] w (dA fun v w'=>v= .tuple #[]∧Own w D w' [row g F u (q4 aH.cells G) 153 2]∧(G.length=l0.length)):=by
 subst I
 have W:=H.rowC (i:=0) rfl
 refine cb Tryz.func211 ?_
 refine sr (An rfl (bo ?_))
 have J:=H.pf []
 obtain⟨K,l⟩:=rJ fun (a:Nat) c (m:Nat) w'=>Own w D w' [row g l0.length u (q4 aH.cells c) 153 2]∧c.length=l0.length∧0≤a∧C6 (h - a) < m∧fG d b h ((C6 (h - 0))+1) 0 l0=fG d b h m a c
 refine C1 (fun i:Nat × (List aH) × Nat=> [(10,vJ i.1),(0, .slice g l0.length u),(1,vI d),(2,vI b),(3,vI h)]) K (fun i=>i.2.2) (0,l0,(C6 (h - 0))+1) ⟨rfl,rfl,rfl,rfl,rfl,trivial⟩ (l.2 ⟨J,by first | omega | (simp only [G4] <;> omega) | (simp only [H0]),e6,e6,rfl⟩) ?_
 rintro ⟨a,c,m⟩ X A
 obtain⟨B,P,Q,R,r⟩:=l.1 A
 obtain⟨x,C⟩:∃ q,m=q+1:=⟨m - 1,e6⟩
 subst C
 refine Ik (sr (Mz rfl (Mz rfl (Kz (.bool (decide (((a:Nat):Int) < h))) (nt ?_)))))
 by_cases n:((a:Nat):Int) < h
 refine jT (dT n) (sk (Ik (bo ?_)))
 refine vo [21,23] (bv.block (IE (IE (bv.block IQ)))) B ?_
 intro Y L
 refine qv 0 rfl rfl (qv 1 rfl rfl (qv 2 rfl rfl (qt (v:=vI ((C6 (d+((a:Nat):Int)):Nat):Int)) 3 rfl (fun _ _=>Ir (e:=C3.wrap (d+((a:Nat):Int))) yk f0) (I4 (v:= .slice g l0.length u) 4 rfl e7 (fun _=>IA rfl) (I4 (v:=vI b) 5 rfl e7 (fun _=>IA rfl) (I4 (v:=vJ a) 6 rfl e7 (fun _=>IA rfl) (I4 (v:=vI ((C6 (b+((a:Nat):Int)):Nat):Int)) 7 rfl e7 (fun _=>Ir (e:=C3.wrap (b+((a:Nat):Int))) yk f0) (qv 8 rfl rfl (qv 9 rfl rfl (qv 10 rfl rfl (qt (v:=vI ((C6 (b+((a:Nat):Int)):Nat):Int)) 11 rfl (fun _ _=>Ir (e:=C3.wrap (b+((a:Nat):Int))) yk f0) ?_)))))))))))
 obtain⟨f,s⟩:=iG (ls:=c) (i:=C6 (b+((a:Nat):Int))) e9
 refine qt (v:= .pointer (some ⟨ab g,ao g+(C6 (b+((a:Nat):Int))) *2,none⟩)) 12 rfl (fun _ ⟨_,p⟩=>Iz (jL) rfl rfl ((p.rds (i:=0) rfl).addr (i:=C6 (b+((a:Nat):Int))) e6) e6) (qt (v:= .agg (aH.cells f).toArray) 13 rfl (fun _ ⟨_,p⟩=>IB rfl (IJ (cs:=(aH.cells f)) J0 J1 ((p.rds (i:=0) rfl).elem aH.len s f2))) (qv 14 rfl rfl (qv 15 rfl rfl (qv 16 rfl rfl (qt (v:=vI ((C6 (d+((a:Nat):Int)):Nat):Int)) 17 rfl (fun _ _=>Ir (e:=C3.wrap (d+((a:Nat):Int))) yk f0) ?_)))))
 obtain⟨j,k⟩:=iG (ls:=c) (i:=C6 (d+((a:Nat):Int))) e9
 refine qt (v:= .pointer (some ⟨ab g,ao g+(C6 (d+((a:Nat):Int))) *2,none⟩)) 18 rfl (fun _ ⟨_,p⟩=>Iz (jL) rfl rfl ((p.rds (i:=0) rfl).addr (i:=C6 (d+((a:Nat):Int))) e6) e6) (qt (v:= .agg (aH.cells j).toArray) 19 rfl (fun _ ⟨_,p⟩=>IB rfl (IJ (cs:=(aH.cells j)) J0 J1 ((p.rds (i:=0) rfl).elem aH.len k f2))) (qt (v:= .pointer (some ⟨ab g,ao g+(C6 (d+((a:Nat):Int))) *2,none⟩)) 20 rfl (fun _ ⟨_,p⟩=>Iz (jL) rfl rfl ((p.rds (i:=0) rfl).addr (i:=C6 (d+((a:Nat):Int))) e6) e6) ?_))
 refine qe 21 rfl (Do.storeRow (vs:=(aH.cells f)) (o:=(C6 (d+((a:Nat):Int))) *2+0) (q:=ao g+(C6 (d+((a:Nat):Int))) *2) L rfl e6 rfl J1 rfl rfl (Lj rfl) (ja aH.len k (Lj rfl)) (jJ (y:=(aH.mk f.aZ f.aG)) aH.len rfl (Lj rfl) k) ?_)
 intro Z z
 refine⟨.inl e7, ?_⟩
 obtain⟨aa,S⟩:=iG (ls:=c) (i:=C6 (b+((a:Nat):Int))) e9
 obtain⟨af,T⟩:=dh (ls:=(I3 c (C6 (d+((a:Nat):Int))) (aH.mk f.aZ f.aG))) (i:=C6 (b+((a:Nat):Int))) aH.len f2 (z.rds (i:=0) rfl) e9
 refine I4 (v:= .pointer (some ⟨ab g,ao g+(C6 (b+((a:Nat):Int))) *2,none⟩)) 22 rfl e7 (fun _=>Iz (jL) rfl rfl ((z.rds (i:=0) rfl).addr (i:=C6 (b+((a:Nat):Int))) e6) e6) ?_
 obtain⟨ag,t⟩:=iG (ls:=(I3 c (C6 (d+((a:Nat):Int))) (aH.mk f.aZ f.aG))) (i:=C6 (b+((a:Nat):Int))) e9
 refine qe 23 rfl (Do.storeRow (vs:=(aH.cells j)) (o:=(C6 (b+((a:Nat):Int))) *2+0) (q:=ao g+(C6 (b+((a:Nat):Int))) *2) z rfl e6 rfl J1 rfl rfl (Lj rfl) (ja aH.len t (Lj rfl)) (jJ (y:=(aH.mk j.aZ j.aG)) aH.len rfl (Lj rfl) t) ?_)
 intro ah M
 refine⟨.inl e7, ?_⟩
 refine qn (bN (Iq (Il (Mz rfl (fw (vJ (a+1)) (Ir (e:=C3.wrap (((a:Nat):Int)+1)) yk f0) (Az rfl (C4 ?_)))))))
 have N:=M.pf []
 exact II (a+1,(I3 (I3 c (C6 (d+((a:Nat):Int))) (aH.mk f.aZ f.aG)) (C6 (b+((a:Nat):Int))) (aH.mk j.aZ j.aG)),x) ⟨rfl,rfl,rfl,rfl,rfl,trivial⟩ (l.2 ⟨N,by first | omega | (simp only [G4] <;> omega) | (simp only [H0]),e6,e6,Eq.trans (r) (Eq.trans (if_pos n) (Eq.trans (ae (aT s)) (ae (aT k))))⟩) (by show x < x+1; omega)
 refine jF (dF n) (C5 (IC ?_))
 have E:fG d b h ((C6 (h - 0))+1) 0 l0=c:=et (r) (iN n)
 refine IC (IK (IL (res0 rfl) ?_))
 have O:=B.pf []
 obtain rfl:_=c:=hr.symm.trans (ae E)
 exact⟨rfl,O,g4⟩
def cO (d:Int):Nat→Int→Int→List aH→Int × (List aH)
  | 0,a,b,c=>default
  | e+1,a,b,c=>if a=b then(a,c) else if a > b then bnd (eT c (d - a) d b) fun f=>cO d e (a - b) b f else bnd (eT c (d - a) ((d+b) - a) a) fun g=>cO d e a (b - a) g
def ib (l0:List aH) (c:Int) (a:Int) (d:Int):(List aH):=
 bnd (cO a ((C6 ((a - c)+(d - a)))+1) (a - c) (d - a) l0) fun sLrL=>bnd (eT sLrL.2 (a - sLrL.1) a sLrL.1) fun b=>b
theorem qm (w D n U o l0 g c h V) (H:Own w D w [row n U o (q4 aH.cells l0) 153 2]) (W:U=l0.length) (aC:l0.length *32≤211106232532992) (aD:0≤g∧g < c∧c < h∧h≤((l0.length:Nat):Int)) (hr:ib l0 g c h=V):
    Calls v5 209 #[.slice n U o,vI g,vI c,vI h, .func (.func 166) #[] #[]] w (dA fun v w'=>v= .tuple #[]∧Own w D w' [row n U o (q4 aH.cells V) 153 2]∧(V.length=l0.length)):=by
 subst W
 have aF:=H.rowC (i:=0) rfl
 refine cb Tryz.func209 ?_
 refine sr (Mz rfl (Mz rfl (fw (vI (c - g)) (Ir (e:=C3.wrap (c - g)) yk g1) (Ar rfl (Mz rfl (Mz rfl (fw (vI (h - c)) (Ir (e:=C3.wrap (h - c)) yk g1) (An rfl (Ik (bo ?_))))))))))
 have X:=H.pf []
 obtain⟨Y,f⟩:=tq fun (a:Int) (b:Int) d (k:Nat) w'=>Own w D w' [row n l0.length o (q4 aH.cells d) 153 2]∧d.length=l0.length∧(1≤a∧1≤b∧a≤c - g∧b≤h - c)∧C6 (a+b) < k∧cO c ((C6 ((c - g)+(h - c)))+1) (c - g) (h - c) l0=cO c k a b d
 refine C1 (fun i:Int × Int × (List aH) × Nat=> [(10,vI i.1),(11,vI i.2.1),(0, .slice n l0.length o),(2,vI c),(4, .func (.func 166) #[] #[])]) Y (fun i=>i.2.2.2) (c - g,h - c,l0,(C6 ((c - g)+(h - c)))+1) ⟨rfl,rfl,rfl,rfl,rfl,trivial⟩ (f.2 ⟨X,by first | omega | (simp only [G4] <;> omega) | (simp only [H0]),e6,e6,rfl⟩) ?_
 rintro ⟨a,b,d,k⟩ aG E
 obtain⟨z,ag,ah,ai,l⟩:=f.1 E
 obtain⟨j,F⟩:∃ q,k=q+1:=⟨k - 1,e6⟩
 subst F
 refine Ik (sr (Mz rfl (Mz rfl (fw (.bool (decide (¬ (a=b)))) (IM (e:= !(decide (a=b))) yk decide_not.symm) (nt ?_)))))
 by_cases m:a=b
 refine jF (dF (Lr m)) (C5 (IC ?_))
 have G:cO c ((C6 ((c - g)+(h - c)))+1) (c - g) (h - c) l0=(a,d):=et (l) (ip m)
 refine IC (IK (Iq (Il (Mz rfl (Mz rfl (Mz rfl (fw (vI (c - a)) (Ir (e:=C3.wrap (c - a)) yk g1) (Mz rfl (Mz rfl (Mz rfl ?_))))))))))
 obtain⟨A,r⟩:∃ q,eT d (c - a) c a=q:=⟨_,rfl⟩
 obtain⟨aI,I,aj,J,ak⟩:=IZ z
 refine cl K0 (kz _ _ n l0.length o d (c - a) c a A I f1 e6 e6 r) ?_
 rintro _ aJ ⟨rfl,K,s⟩
 have L:=J _ _ K
 have au:=L.rowC (i:=0) rfl
 replace s:A.length=d.length:=s
 refine C4 (IL (res0 rfl) ?_)
 have Z:=L.pf []
 obtain rfl:_=A:=hr.symm.trans (et (ae G) (ae r))
 exact⟨rfl,Z,g4⟩
 refine jT (dT m) (sk (bo (sr (Mz rfl (Mz rfl (Kz (.bool (decide (a > b))) (nt ?_)))))))
 by_cases p:a > b
 refine jT (dT p) (sr (Mz rfl (Mz rfl (Mz rfl (fw (vI (c - a)) (Ir (e:=C3.wrap (c - a)) yk g1) (Mz rfl (Mz rfl (Mz rfl ?_))))))))
 obtain⟨B,t⟩:∃ q,eT d (c - a) c b=q:=⟨_,rfl⟩
 obtain⟨aK,M,av,N,ax⟩:=IZ z
 refine cl K0 (kz _ _ n l0.length o d (c - a) c b B M f1 e6 e6 t) ?_
 rintro _ aL ⟨rfl,O,u⟩
 have P:=N _ _ O
 have ay:=P.rowC (i:=0) rfl
 replace u:B.length=d.length:=u
 refine nt (Il (Mz rfl (Mz rfl (fw (vI (a - b)) (Ir (e:=C3.wrap (a - b)) yk g1) (Az rfl (C4 (bN ?_)))))))
 have aa:=P.pf []
 exact II (a - b,b,B,j) ⟨rfl,rfl,rfl,rfl,rfl,trivial⟩ (f.2 ⟨aa,by first | omega | (simp only [G4] <;> omega) | (simp only [H0]),e6,e6,Eq.trans (l) (Eq.trans (if_neg m) (Eq.trans (if_pos p) (ae t)))⟩) (by show j < j+1; omega)
 refine jF (dF p) (sr (Mz rfl (Mz rfl (Mz rfl (fw (vI (c - a)) (Ir (e:=C3.wrap (c - a)) yk g1) (Mz rfl (Mz rfl (fw (vI (c+b)) (Ir (e:=C3.wrap (c+b)) yk g1) (Mz rfl (fw (vI ((c+b) - a)) (Ir (e:=C3.wrap ((c+b) - a)) yk g1) (Mz rfl (Mz rfl ?_))))))))))))
 obtain⟨C,x⟩:∃ q,eT d (c - a) ((c+b) - a) a=q:=⟨_,rfl⟩
 obtain⟨aM,Q,az,R,aA⟩:=IZ z
 refine cl K0 (kz _ _ n l0.length o d (c - a) ((c+b) - a) a C Q f1 e6 e6 x) ?_
 rintro _ aN ⟨rfl,S,y⟩
 have T:=R _ _ S
 have aB:=T.rowC (i:=0) rfl
 replace y:C.length=d.length:=y
 refine nt (Il (Mz rfl (Mz rfl (fw (vI (b - a)) (Ir (e:=C3.wrap (b - a)) yk g1) (Az rfl (C4 (bN ?_)))))))
 have af:=T.pf []
 exact II (a,b - a,C,j) ⟨rfl,rfl,rfl,rfl,rfl,trivial⟩ (f.2 ⟨af,by first | omega | (simp only [G4] <;> omega) | (simp only [H0]),e6,e6,Eq.trans (l) (Eq.trans (if_neg m) (Eq.trans (if_neg p) (ae x)))⟩) (by show j < j+1; omega)
end Go.Proofs.YtbkagebjhbphaaaGreat
