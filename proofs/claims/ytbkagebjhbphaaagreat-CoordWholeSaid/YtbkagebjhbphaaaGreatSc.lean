/-
 a stable sort of pairs.
-/
import Derived.Test.YtbkagebjhbphaaaGreatStB
namespace Go.Proofs.YtbkagebjhbphaaaGreat
open Int renaming toNat→C6
open IntKind renaming i64→C3
open List renaming flatMap→q4,length_replicate→H0,length_set→G4
open WL renaming nil→C4
set_option maxRecDepth 100000
open Go.RowKit
set_option linter.unusedVariables false
set_option linter.unusedSectionVars false
set_option linter.unusedSimpArgs false
def iX (f:Int):Nat→Nat→Nat→List aH→Nat × (List aH)
  | 0,b,a,c=>default
  | e+1,b,a,c=>if((a:Nat):Int)≤f then bnd (iD c ((b:Nat):Int) ((a:Nat):Int)) fun d=>iX f e a (a+20) d else(b,c)
def iY (g:Int) (c:Nat):Nat→Nat→Nat→List aH→Nat × (List aH)
  | 0,b,a,d=>default
  | f+1,b,a,d=>if((a:Nat):Int)≤g then bnd (mH d ((b:Nat):Int) ((b+c:Nat):Int) ((a:Nat):Int)) fun e=>iY g c f a (a+(2 *c)) e else(b,d)
def iw (b:Int):Nat→Nat→List aH→(List aH)
  | 0,a,c=>default
  | e+1,a,c=>if((a:Nat):Int) < b then bnd (iY b a ((C6 (b+1 - (2 *a)))+1) 0 (2 *a) c) fun sLrLabLstL=>if((sLrLabLstL.1+a:Nat):Int) < b then bnd (mH sLrLabLstL.2 ((sLrLabLstL.1:Nat):Int) ((sLrLabLstL.1+a:Nat):Int) b) fun d=>iw b e (a *2) d else iw b e (a *2) sLrLabLstL.2 else c
def lI (l0:List aH) (a:Int):(List aH):=
 bnd (iX a ((C6 (a+1 - 20))+1) 0 20 l0) fun sLrL=>bnd (iD sLrL.2 ((sLrL.1:Nat):Int) a) fun b=>bnd (iw a ((C6 (a - 20))+1) 20 b) fun sLrLabL=>sLrLabL
theorem qw (w D l n0 m l0 b r0) (H:Own w D w [row l n0 m (q4 aH.cells l0) 153 2]) (aS:n0=l0.length) (bS:l0.length *32≤211106232532992) (bT:b=((l0.length:Nat):Int)) (hr:lI l0 b=r0):
    Calls Tryz.prog 191 #[.slice l n0 m,vI b, .func (.func 166) #[] #[]] w (dA fun v w'=>v= .tuple #[]∧Own w D w' [row l n0 m (q4 aH.cells r0) 153 2]∧(r0.length=l0.length)):=by
 subst aS
 have bU:=H.rowC (i:=0) rfl
 refine cb Tryz.func191 ?_
 refine sr (Ar rfl (Mz rfl (Az rfl (An rfl (Ik (bo ?_))))))
 have aT:=H.pf []
 obtain⟨aU,r⟩:=tq fun (h:Nat) (d:Nat) j (s:Nat) w'=>Own w D w' [row l l0.length m (q4 aH.cells j) 153 2]∧j.length=l0.length∧(0≤h∧d=h+20∧h≤b)∧C6 (b+1 - d) < s∧iX b ((C6 (b+1 - 20))+1) 0 20 l0=iX b s h d j
 refine Wp.loop (fun i:Nat × Nat × (List aH) × Nat=> [(7,vJ i.1),(8,vJ i.2.1),(6,vI 20),(0, .slice l l0.length m),(1,vI b),(2, .func (.func 166) #[] #[])]) aU (fun i=>i.2.2.2) (0,20,l0,(C6 (b+1 - 20))+1) ⟨rfl,rfl,rfl,rfl,rfl,rfl,trivial⟩ (r.2 ⟨aT,by first | omega | (simp only [G4] <;> omega) | (simp only [H0]),e6,e6,rfl⟩) ?_
 rintro ⟨h,d,j,s⟩ bV aj
 obtain⟨ak,bv,bz,bA,M⟩:=r.1 aj
 obtain⟨U,au⟩:∃ q,s=q+1:=⟨s - 1,e6⟩
 subst au
 refine Ik (sr (Mz rfl (Mz rfl (Kz (.bool (decide (((d:Nat):Int)≤b))) (nt ?_)))))
 by_cases K:((d:Nat):Int)≤b
 refine jT (dT K) (sk (bo (sr (Mz rfl (Mz rfl (Mz rfl (Mz rfl ?_)))))))
 obtain⟨V,N⟩:∃ q,iD j ((h:Nat):Int) ((d:Nat):Int)=q:=⟨_,rfl⟩
 obtain⟨bW,av,bB,ax,bC⟩:=IZ ak
 refine cl Tryz.call201 (lG _ _ l l0.length m j ((h:Nat):Int) ((d:Nat):Int) V av f1 e6 e6 N) ?_
 rintro _ bX ⟨rfl,ay,O⟩
 have az:=ax _ _ ay
 have bD:=az.rowC (i:=0) rfl
 replace O:V.length=j.length:=O
 refine ns (Mz rfl (An rfl (Il (Mz rfl (Mz rfl (fw (vJ (d+20)) (Ir (e:=C3.wrap (((d:Nat):Int)+20)) yk f0) (Az rfl (C4 (bN ?_)))))))))
 have aV:=az.pf []
 exact II (d,d+20,V,U) ⟨rfl,rfl,rfl,rfl,rfl,rfl,trivial⟩ (r.2 ⟨aV,by first | omega | (simp only [G4] <;> omega) | (simp only [H0]),e6,e6,Eq.trans (M) (Eq.trans (if_pos K) (ae N))⟩) (by show U < U+1; omega)
 refine jF (dF K) (Wp.exit (IC ?_))
 have aA:iX b ((C6 (b+1 - 20))+1) 0 20 l0=(h,j):=et (M) (iN K)
 refine IC (IK (Iq (sr (Mz rfl (Mz rfl (Mz rfl (Mz rfl ?_)))))))
 obtain⟨t,P⟩:∃ q,iD j ((h:Nat):Int) b=q:=⟨_,rfl⟩
 obtain⟨bY,aB,bE,aC,bF⟩:=IZ ak
 refine cl Tryz.call201 (lG _ _ l l0.length m j ((h:Nat):Int) b t aB f1 e6 e6 P) ?_
 rintro _ bZ ⟨rfl,aD,Q⟩
 have aF:=aC _ _ aD
 have bG:=aF.rowC (i:=0) rfl
 replace Q:t.length=j.length:=Q
 refine nt (bo ?_)
 have aW:=aF.pf []
 obtain⟨aX,n⟩:=rJ fun (a:Nat) k (u:Nat) w'=>Own w D w' [row l l0.length m (q4 aH.cells k) 153 2]∧k.length=l0.length∧(20≤a∧a≤20000000000000)∧C6 (b - a) < u∧iw b ((C6 (b - 20))+1) 20 t=iw b u a k
 refine Wp.loop (fun i:Nat × (List aH) × Nat=> [(6,vJ i.1),(0, .slice l l0.length m),(1,vI b),(2, .func (.func 166) #[] #[])]) aX (fun i=>i.2.2) (20,t,(C6 (b - 20))+1) ⟨rfl,rfl,rfl,rfl,trivial⟩ (n.2 ⟨aW,by first | omega | (simp only [G4] <;> omega) | (simp only [H0]),e6,e6,rfl⟩) ?_
 rintro ⟨a,k,u⟩ cu aG
 obtain⟨aI,bH,bI,bJ,x⟩:=n.1 aG
 obtain⟨p,aJ⟩:∃ q,u=q+1:=⟨u - 1,e6⟩
 subst aJ
 refine Ik (sr (Mz rfl (Mz rfl (Kz (.bool (decide (((a:Nat):Int) < b))) (nt ?_)))))
 by_cases y:((a:Nat):Int) < b
 refine jT (dT y) (sk (bo (sr (Mz rfl (fw (vJ (2 *a)) (Ir (e:=C3.wrap (2 *((a:Nat):Int))) yk f0) (Az rfl (An rfl (Ik (bo ?_)))))))))
 have aY:=aI.pf []
 obtain⟨aZ,z⟩:=tq fun (c:Nat) (f:Nat) g (A:Nat) w'=>Own w D w' [row l l0.length m (q4 aH.cells g) 153 2]∧g.length=l0.length∧(0≤c∧f=c+2 *((a:Nat):Int)∧c≤b)∧C6 (b+1 - f) < A∧iY b a ((C6 (b+1 - (2 *a)))+1) 0 (2 *a) k=iY b a A c f g
 refine Wp.loop (fun i:Nat × Nat × (List aH) × Nat=> [(7,vJ i.1),(8,vJ i.2.1),(6,vJ a),(0, .slice l l0.length m),(1,vI b),(2, .func (.func 166) #[] #[])]) aZ (fun i=>i.2.2.2) (0,2 *a,k,(C6 (b+1 - (2 *a)))+1) ⟨rfl,rfl,rfl,rfl,rfl,rfl,trivial⟩ (z.2 ⟨aY,by first | omega | (simp only [G4] <;> omega) | (simp only [H0]),e6,e6,rfl⟩) ?_
 rintro ⟨c,f,g,A⟩ cz aK
 obtain⟨W,bK,bL,bM,R⟩:=z.1 aK
 obtain⟨X,aL⟩:∃ q,A=q+1:=⟨A - 1,e6⟩
 subst aL
 refine Ik (sr (Mz rfl (Mz rfl (Kz (.bool (decide (((f:Nat):Int)≤b))) (nt ?_)))))
 by_cases L:((f:Nat):Int)≤b
 refine jT (dT L) (sk (bo (sr (Mz rfl (Mz rfl (Mz rfl (Mz rfl (fw (vJ (c+a)) (Ir (e:=C3.wrap (((c:Nat):Int)+((a:Nat):Int))) yk f0) (Mz rfl (Mz rfl ?_))))))))))
 obtain⟨B,C⟩:∃ q,mH g ((c:Nat):Int) ((c+a:Nat):Int) ((f:Nat):Int)=q:=⟨_,rfl⟩
 obtain⟨bO,Y,bf,Z,bg⟩:=IZ W
 refine cl Tryz.call202 (BG _ _ l l0.length m g ((c:Nat):Int) ((c+a:Nat):Int) ((f:Nat):Int) B Y f1 e6 e6 C) ?_
 rintro _ bP ⟨rfl,aa,E⟩
 have S:=Z _ _ aa
 have bi:=S.rowC (i:=0) rfl
 replace E:B.length=g.length:=E
 refine ns (Mz rfl (An rfl (Il (Mz rfl (Mz rfl (fw (vJ (2 *a)) (Ir (e:=C3.wrap (2 *((a:Nat):Int))) yk f0) (fw (vJ (f+(2 *a))) (Ir (e:=C3.wrap (((f:Nat):Int)+((2 *a:Nat):Int))) yk f0) (Az rfl (C4 (bN ?_))))))))))
 have aM:=S.pf []
 exact II (f,f+(2 *a),B,X) ⟨rfl,rfl,rfl,rfl,rfl,rfl,trivial⟩ (z.2 ⟨aM,by first | omega | (simp only [G4] <;> omega) | (simp only [H0]),e6,e6,Eq.trans (R) (Eq.trans (if_pos L) (ae C))⟩) (by show X < X+1; omega)
 refine jF (dF L) (Wp.exit (IC ?_))
 have F:iY b a ((C6 (b+1 - (2 *a)))+1) 0 (2 *a) k=(c,g):=et (R) (iN L)
 refine IC (IK (Iq (Ik (sr (Mz rfl (Mz rfl (fw (vJ (c+a)) (Ir (e:=C3.wrap (((c:Nat):Int)+((a:Nat):Int))) yk f0) (Ar rfl (Mz rfl (Mz rfl (Kz (.bool (decide (((c+a:Nat):Int) < b))) (nt ?_))))))))))))
 by_cases o:((c+a:Nat):Int) < b
 refine jT (dT o) (Il (Mz rfl (Mz rfl (Mz rfl (Mz rfl (Mz rfl ?_))))))
 obtain⟨G,I⟩:∃ q,mH g ((c:Nat):Int) ((c+a:Nat):Int) b=q:=⟨_,rfl⟩
 obtain⟨bQ,af,bn,ag,bq⟩:=IZ W
 refine cl Tryz.call202 (BG _ _ l l0.length m g ((c:Nat):Int) ((c+a:Nat):Int) b G af f1 e6 e6 I) ?_
 rintro _ bR ⟨rfl,ah,J⟩
 have T:=ag _ _ ah
 have bu:=T.rowC (i:=0) rfl
 replace J:G.length=g.length:=J
 refine nt (Il (Mz rfl (fw (vJ (a *2)) (Ir (e:=C3.wrap (((a:Nat):Int) *2)) yk f0) (Az rfl (C4 (bN ?_))))))
 have aN:=T.pf []
 exact II (a *2,G,p) ⟨rfl,rfl,rfl,rfl,trivial⟩ (n.2 ⟨aN,by first | omega | (simp only [G4] <;> omega) | (simp only [H0]),e6,e6,Eq.trans (x) (Eq.trans (if_pos y) (Eq.trans (ae F) (Eq.trans (if_pos o) (ae I))))⟩) (by show p < p+1; omega)
 refine jF (dF o) (sk (Il (Mz rfl (fw (vJ (a *2)) (Ir (e:=C3.wrap (((a:Nat):Int) *2)) yk f0) (Az rfl (C4 (bN ?_)))))))
 have aO:=W.pf []
 exact II (a *2,g,p) ⟨rfl,rfl,rfl,rfl,trivial⟩ (n.2 ⟨aO,by first | omega | (simp only [G4] <;> omega) | (simp only [H0]),e6,e6,Eq.trans (x) (Eq.trans (if_pos y) (Eq.trans (ae F) (if_neg o)))⟩) (by show p < p+1; omega)
 refine jF (dF y) (Wp.exit (IC ?_))
 have ai:iw b ((C6 (b - 20))+1) 20 t=k:=et (x) (iN y)
 refine IC (IK (IL (res0 rfl) ?_))
 have aP:=aI.pf []
 obtain rfl:_=k:=hr.symm.trans (et (ae aA) (et (ae P) (ae ai)))
 exact⟨rfl,aP,g4⟩
def jQ (l0:List aH):(List aH):=
 bnd (lI l0 ((l0.length:Nat):Int)) fun a=>a
theorem nP (w D h j k l0 l) (H:Own w D w [row h j k (q4 aH.cells l0) 153 2]) (m:j=l0.length) (s:l0.length *32≤211106232532992) (hr:jQ l0=l):
    Calls Tryz.prog 165 #[.slice h j k, .func (.func 166) #[] #[]] w (dA fun v w'=>v= .tuple #[]∧Own w D w' [row h j k (q4 aH.cells l) 153 2]∧(l.length=l0.length)):=by
 subst m
 have t:=H.rowC (i:=0) rfl
 refine cb Tryz.func165 ?_
 refine Il (Mz rfl (Mz rfl (Kz (vJ l0.length) (Mz rfl ?_))))
 obtain⟨c,a⟩:∃ q,lI l0 ((l0.length:Nat):Int)=q:=⟨_,rfl⟩
 obtain⟨u,d,o,e,p⟩:=IZ H
 refine cl Tryz.call191 (qw _ _ h l0.length k l0 ((l0.length:Nat):Int) c d rfl e6 e6 a) ?_
 rintro _ x ⟨rfl,f,b⟩
 have g:=e _ _ f
 have r:=g.rowC (i:=0) rfl
 replace b:c.length=l0.length:=b
 refine C4 (IL (res0 rfl) ?_)
 have n:=g.pf []
 obtain rfl:_=c:=hr.symm.trans (ae a)
 exact⟨rfl,n,g4⟩
end Go.Proofs.YtbkagebjhbphaaaGreat
