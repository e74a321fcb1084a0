/- The layers told, part 4. Conditions: none beyond each law's own. -/
import Derived.Test.YtnpdpklckacpnaaGreatJc
namespace Go.Proofs.YtnpdpklckacpnaaGreat
set_option maxRecDepth 100000
set_option linter.unusedVariables false
set_option linter.unusedSimpArgs false
set_option linter.unusedSectionVars false
open _root_.Go renaming World->ZZ,Value->ZQ
open Value renaming bool->Y,slice->T,string->Z9,pointer->Zz,agg->Zq,nilFunc->Zx
open Bool renaming true->Zj,false->O
open Option renaming none->Zk,some->Zv
open Decidable renaming decide->Zw
open Inhabited renaming default->Zy
open List renaming length->X,toArray->Zb,drop->Ze,take->Zf,flatMap->Zg,map->Zh
open Int renaming toNat->Zc
open Bool renaming toNat->Zd
open Int renaming toNat->W
open List renaming drop->r8,flatMap->q1,getD->J0,length_append->o3,length_cons->q6,length_drop->o2,length_nil->L0,length_replicate->O5,length_set->N0,length_take->o1,map->s0,mem_flatMap->P6,mem_of_getElem?->G4,set->M2,take->u2
open Ll renaming q->N
open Sv renaming q->O4
open _root_.Go.Proofs.Tryz renaming isAgg109->O8,isAgg115->O9,isAgg36->Q2,sizeOf115->P0
section
open Go.RowKit
def jg (c:bn) (d:Nat):(List Nat) × (List Nat) × bn:=
 bnd (jU c d) λ b=>bnd (ll b (fO.q (N []) (N []))) λ a=>(a.2.b.a,a.2.g.a,a.1)
theorem vK (w D z) (d:bn) (e f c Z5 A B) (Z6:bn) (H:Own w D w [blk z [T e (X d.a.a) f] 111,row e (X d.a.a) f (q1 aH.L c) 159 6,sepL (q1 Kj c)]) (g:s0 aH.abs c=d.a.a) (aM:X d.a.a<=12) (aN:Hd d.a.a) (aO:jZ d.a.a) (hr:jg d Z5=(A,B,Z6)):
    Calls Tryz.prog 143 #[vP z 0,vU Z5] w (dI λ v w'=> ∃ B0 b0 B1 b1 h j a,v= .tuple #[T B0 (X A) b0, T B1 (X B) b1]/\Own w D w' [row B0 (X A) b0 (q1 (eN .u64) A) 33 1,row B1 (X B) b1 (q1 (eN .u64) B) 33 1,blk z [T h (X Z6.a.a) j] 111,row h (X Z6.a.a) j (q1 aH.L a) 159 6,sepL (q1 Kj a)]/\(s0 aH.abs a=Z6.a.a)/\(X A<=12/\X B<=12)):=by
 have P:=bf g
 have Q:=H.rowC (i:=1) Z
 refine cb Tryz.func143 ?_
 refine sr (Az Z (Ar Z (Mz Z (Mz Z ?_))))
 obtain⟨b,k⟩:∃ q,jU d Z5=q:=⟨_,Z⟩
 obtain⟨_,C,_,E,_⟩:=KR H
 refine cl Tryz.call119 (pV _ _ z d e f c Z5 b C g g4 k) ?_
 rintro _ _ ⟨R,S,Z7,rfl,F,o,p⟩
 have G:=E _ _ F
 have aB:=bf o
 have aC:=G.rowC (i:=1) Z
 replace p:=p
 obtain⟨_,r,s⟩:=Jj (m:=d.a.a) f8 k
 replace r:=r
 replace s:=s
 refine ns (cB [T Zk 0 0, T Zk 0 0] 152 G ?_)
 intro y I Z3
 refine ns (Mz Z ?_)
 have Z8:=(Z3.free (bW 33 1)).free (bW 33 1)
 have Z1:=Z8.pb [2,1,0]
 obtain⟨⟨J,l⟩,t⟩:∃ q:bn × fO,ll b (fO.q (N []) (N []))=q:=⟨_,Z⟩
 obtain⟨_,K,_,L,_⟩:=KS Z1
 refine cl Tryz.call72 (rT _ _ z b R S Z7 y (fO.q (N []) (N [])) Zk 0 Zk 0 J l K o f8 g6 g6 t) ?_
 rintro _ _ ⟨Z2,Z0,aa,af,ag,ah,ai,rfl,M,u,x⟩
 have n:=L _ _ M
 have aI:=bf u
 have aJ:=n.rowC (i:=1) Z
 have aK:=n.rowC (i:=4) Z
 have aL:=n.rowC (i:=5) Z
 replace x:=x
 refine nt (JS (zu [] (J6 Kg) n ?_))
 intro _ aj
 refine qp y 0 0 Z (ql 1 Z 3 Q2 Z Z Z (qp y 1 2 Z (ql 3 Z 3 Q2 Z Z Z (qa 4 Z Z (qa 5 Z Z (qn (JY (rt (Ke (lw Z Z Z) ?_)))))))))
 obtain⟨rfl,rfl,rfl⟩:=nM (zj hr (show _=(l.b.a,l.g.a,J) from V (ae k) (ae t)))
 exact⟨af,ag,ah,ai,Z2,Z0,aa,Z,(aj.px [4,5] [3] []),u,g6⟩
def jc (d:bn) (i:Nat) (l:aL):Int × (List Nat) × (List Nat) × Int × bn:=
 bnd (dP l.j) λ m=>if m=0 then bnd (gU d i) λ n=>if n=Zj then(0,([]:List Nat),([]:List Nat),4,d) else bnd (kN d i l) λ o=>if o=Zj then(1,([]:List Nat),([]:List Nat),0,d) else bnd (nA d) λ p=>if p >= 192 then(3,([]:List Nat),([]:List Nat),0,d) else bnd (ed d i l) λ j=>if((X j:Nat):Int)=0 then bnd (jI d i l (fO.q (N []) (N []))) λ h=>bnd (ll h.1 h.2) λ e=>(1,e.2.b.a,e.2.g.a,0,e.1) else bnd (J0 j 0 Zy) λ k=>if((k:Nat):Int) < ((i:Nat):Int) then(3,([]:List Nat),([]:List Nat),0,d) else bnd (fD d i) λ a=>if a.2=Zj then bnd (J0 d.a.a (W a.1) Zy) λ b=>bnd (J0 (M2 d.a.a (W a.1) (aS.q b.a (N b.b.a) Zj b.g)) (W a.1) Zy) λ f=>(2,([]:List Nat),([]:List Nat),0,bn.q (N (M2 (M2 d.a.a (W a.1) (aS.q b.a (N b.b.a) Zj b.g)) (W a.1) (aS.q f.a (N f.b.a) f.j l)))) else bnd (J0 (u2 (W a.1) d.a.a++((aS.q i (N []) O ZB)::r8 (W a.1) d.a.a)) (W a.1) Zy) λ c=>bnd (J0 (M2 (u2 (W a.1) d.a.a++((aS.q i (N []) O ZB)::r8 (W a.1) d.a.a)) (W a.1) (aS.q c.a (N c.b.a) Zj c.g)) (W a.1) Zy) λ g=>(2,([]:List Nat),([]:List Nat),0,bn.q (N (M2 (M2 (u2 (W a.1) d.a.a++((aS.q i (N []) O ZB)::r8 (W a.1) d.a.a)) (W a.1) (aS.q c.a (N c.b.a) Zj c.g)) (W a.1) (aS.q g.a (N g.b.a) g.j l)))) else(0,([]:List Nat),([]:List Nat),21,d)
theorem xP (w D E) (n:bn) (l r g u) (x:aL) (r0 r1 r2 r3) (r4:bn) (H:Own w D w [blk E [T l (X n.a.a) r] 111,row l (X n.a.a) r (q1 aH.L g) 159 6,sepL (q1 Kj g)]) (p:s0 aH.abs g=n.a.a) (kC:X n.a.a<=11) (bu:Hd n.a.a) (kD:jZ n.a.a) (hr:jc n u x=(r0,r1,r2,r3,r4)):
    Calls Tryz.prog 37 #[vP E 0,vU u, Zq (Zb (aL.L x))] w (dI λ v w'=> ∃ B1 b1 B2 b2 aG aI af,v= .tuple #[vI r0, T B1 (X r1) b1, T B2 (X r2) b2,vI r3]/\Own w D w' [row B1 (X r1) b1 (q1 (eN .u64) r1) 33 1,row B2 (X r2) b2 (q1 (eN .u64) r2) 33 1,blk E [T aG (X r4.a.a) aI] 111,row aG (X r4.a.a) aI (q1 aH.L af) 159 6,sepL (q1 Kj af)]/\(s0 aH.abs af=r4.a.a)/\(X r1<=12/\X r2<=12)):=by
 have ib:=bf p
 have ic:=H.rowC (i:=1) Z
 refine cb Tryz.func37 ?_
 refine sr (cB (aL.L x) 115 H ?_)
 intro aJ _ dm
 refine Az Z (Az Z (Az Z (An Z (JS (sr (Kz (vP aJ 0) (La (ai.L x.j) dm 0 Tryz.isAgg38 Tryz.sizeOf38 ?_)))))))
 obtain⟨bv,A⟩:∃ q,dP x.j=q:=⟨_,Z⟩
 obtain⟨_,dn,_,dw,_⟩:=JZ dm
 refine cl Tryz.call64 (jK _ _ x.j bv dn A) ?_
 rintro _ dx ⟨rfl,dz⟩
 have dA:=dw _ _ dz
 refine fw (Za (¬ (bv=0))) (Kc (e:= !(Zw (bv=0))) yk ZW) (nt ?_)
 by_cases Z6:bv=0
 refine jF (dF (Nu Z6)) (sk (JS (sr (Mz Z (Mz Z ?_)))))
 have bM:=dA.pf [1]
 have jM:=bM.rowC (i:=2) Z
 obtain⟨dB,C⟩:∃ q,gU n u=q:=⟨_,Z⟩
 obtain⟨_,dC,_,dE,bC⟩:=Kt bM
 refine cl Tryz.call67 (vH _ _ E n l r g u dB dC p (bC _ 1 _ Z bB) U (λ x9 h9=>⟨bC _ 2 _ Z (bL (P6.2 ⟨x9,h9,b3⟩) bB),di (φ:=λ _=>_) bM (i:=3) Z (bL (P6.2 ⟨x9,h9,b3⟩) dD)⟩) g4 C) ?_
 rintro _ dG ⟨rfl,dH⟩
 have aK:=dE _ _ dH
 refine nt ?_
 rcases Nv (dB) with P | P
 refine jT P (sr (Az Z (Az Z (Az Z (An Z (rt (tR (Ke (xh Z Z Z Z Z) ?_))))))))
 have il:=(aK.free (bW 33 1)).free (bW 33 1)
 have iq:=il.px [1] [3] []
 obtain⟨rfl,rfl,rfl,rfl,rfl⟩:=Bc (zj hr (show _=(0,([]:List Nat),([]:List Nat),4,n) from V (ae A) (V (ip Z6) (V (ae C) (ip P))))).symm
 exact⟨Zk,0,Zk,0,l,r,g,Z,iq,p,g6⟩
 refine jF P (sk (JS (sr (Mz Z (Mz Z (La (aL.L x) aK 1 O9 P0 ?_))))))
 have jO:=aK.rowC (i:=2) Z
 obtain⟨dJ,F⟩:∃ q,kN n u x=q:=⟨_,Z⟩
 obtain⟨_,dK,_,dL,bD⟩:=Kt aK
 refine cl Tryz.call68 (xL _ _ E n l r g u x dJ dK p (bD _ 1 _ Z bB) U (λ x9 h9=>⟨bD _ 2 _ Z (bL (P6.2 ⟨x9,h9,b3⟩) bB),di (φ:=λ _=>_) aK (i:=3) Z (bL (P6.2 ⟨x9,h9,b3⟩) dD)⟩) g4 F) ?_
 rintro _ dN ⟨rfl,dO⟩
 have bz:=dL _ _ dO
 refine nt ?_
 rcases Nv (dJ) with Z7 | Z7
 refine jT Z7 (sr (Az Z (Az Z (Az Z (An Z (rt (tR (Ke (xh Z Z Z Z Z) ?_))))))))
 have iy:=(bz.free (bW 33 1)).free (bW 33 1)
 have iA:=iy.px [1] [3] []
 obtain⟨rfl,rfl,rfl,rfl,rfl⟩:=Bc (zj hr (show _=(1,([]:List Nat),([]:List Nat),0,n) from V (ae A) (V (ip Z6) (V (ae C) (V (eD P) (V (ae F) (ip Z7))))))).symm
 exact⟨Zk,0,Zk,0,l,r,g,Z,iA,p,g6⟩
 refine jF Z7 (sk (JS (sr (Mz Z ?_))))
 have jR:=bz.rowC (i:=2) Z
 obtain⟨bN,Q⟩:∃ q,nA n=q:=⟨_,Z⟩
 obtain⟨_,dQ,_,dR,bE⟩:=Kt bz
 refine cl Tryz.call69 (wG _ _ E n l r g bN dQ p (bE _ 1 _ Z bB) U (λ x9 h9=>⟨bE _ 2 _ Z (bL (P6.2 ⟨x9,h9,b3⟩) bB),di (φ:=λ _=>_) bz (i:=3) Z (bL (P6.2 ⟨x9,h9,b3⟩) dD)⟩) g4 Q) ?_
 rintro _ dS ⟨rfl,dU⟩
 have aM:=dR _ _ dU
 refine Kz (Za (bN >= 192)) (nt ?_)
 by_cases ag:bN >= 192
 refine jT (dT ag) (sr (Az Z (Az Z (Az Z (An Z (rt (tR (Ke (xh Z Z Z Z Z) ?_))))))))
 have iB:Own w D dS (row Zk 0 0 (q1 (eN .u64) []) 33 1::_):=aM.free (bW 33 1)
 have iC:Own w D dS (row Zk 0 0 (q1 (eN .u64) []) 33 1::_):=iB.free (bW 33 1)
 obtain⟨rfl,rfl,rfl,rfl,rfl⟩:=Bc (zj hr (show _=(3,([]:List Nat),([]:List Nat),0,n) from V (ae A) (V (ip Z6) (V (ae C) (V (eD P) (V (ae F) (V (eD Z7) (V (ae Q) (ip ag))))))))).symm
 exact⟨Zk,0,Zk,0,l,r,g,Z,(iC.px [1] [3] []),p,g6⟩
 refine jF (dF ag) (sk (sr (Mz Z (Mz Z (La (aL.L x) aM 1 O9 P0 ?_)))))
 have jU:=aM.rowC (i:=2) Z
 obtain⟨aN,Z1⟩:∃ q,ed n u x=q:=⟨_,Z⟩
 obtain⟨_,dV,_,dW,bF⟩:=Kt aM
 refine cl Tryz.call70 (q8 _ _ E n l r g u x aN dV p (bF _ 1 _ Z bB) U (λ x9 h9=>⟨bF _ 2 _ Z (bL (P6.2 ⟨x9,h9,b3⟩) bB),di (φ:=λ _=>_) aM (i:=3) Z (bL (P6.2 ⟨x9,h9,b3⟩) dD)⟩) g4 Z1) ?_
 rintro _ dX ⟨dY,_,rfl,dZ⟩
 have ah:=dW _ _ dZ
 have jW:=ah.rowC (i:=0) Z
 refine An Z (JS (sr (Mz Z (Kz (vJ (X aN)) (Kz (Za ((X aN:Int)=0)) (nt ?_))))))
 by_cases aF:(X aN:Int)=0
 refine jT (dT aF) (sr (cB [T Zk 0 0, T Zk 0 0] 152 ah ?_))
 intro bA d9 ek
 refine ns (Mz Z (Mz Z (La (aL.L x) ek 3 O9 P0 ?_)))
 have iE:Own w D d9 (row Zk 0 0 (q1 (eN .u64) []) 33 1::_):=ek.free (bW 33 1)
 have eu:Own w D d9 (row Zk 0 0 (q1 (eN .u64) []) 33 1::_):=iE.free (bW 33 1)
 obtain⟨⟨R,S⟩,aj⟩:∃ q:bn × fO,jI n u x (fO.q (N []) (N []))=q:=⟨_,Z⟩
 obtain⟨_,bP,_,bQ,_⟩:=KS (eu.pb [2,1,0,3,5])
 refine cl Tryz.call71 (sI _ _ E n l r g u x bA (fO.q (N []) (N [])) Zk 0 Zk 0 R S bP p g4 f8 j7 aj) ?_
 rintro _ _ ⟨eF,eG,eH,eO,eP,eQ,eT,rfl,bR,aO⟩
 have ay:=bQ _ _ bR
 have iH:=bf aO
 have iI:=ay.rowC (i:=1) Z
 have iJ:=ay.rowC (i:=4) Z
 have iK:=ay.rowC (i:=5) Z
 obtain⟨_,aP,aQ,ak⟩:=JK (m:=n.a.a) f8 aj
 replace aP:X S.g.a+X R.a.a<=0+X n.a.a+1:=aP
 replace aQ:Wt R.a.a<=X R.a.a:=aQ
 replace ak:S.b.a=[]:=ak
 have iM:X S.b.a=0:=by rw [ak]; rfl
 refine ns (Mz Z ?_)
 obtain⟨⟨bH,Z2⟩,aR⟩:∃ q:bn × fO,ll R S=q:=⟨_,Z⟩
 obtain⟨_,bS,_,bT,_⟩:=KS ay
 refine cl Tryz.call72 (rT _ _ E R eF eG eH bA S eO eP eQ eT bH Z2 bS aO f8 g6 g6 aR) ?_
 rintro _ _ ⟨eU,eX,eY,eZ,fe,fo,fu,rfl,bU,aT,aU⟩
 have az:=bT _ _ bU
 have iR:=bf aT
 have iT:=az.rowC (i:=1) Z
 have iU:=az.rowC (i:=4) Z
 have iV:=az.rowC (i:=5) Z
 replace aU:X Z2.b.a<=12/\X Z2.g.a<=12:=aU
 refine nt (JS (kL 8 [] (J6 (J6 Kg)) az ?_))
 intro _ fA
 refine qp bA 0 0 Z (ql 1 Z 3 Q2 Z Z Z (qp bA 1 2 Z (ql 3 Z 3 Q2 Z Z Z (qa 4 Z Z (qa 5 Z Z (qa 6 Z Z (qa 7 Z Z (qn (JY (rt (tR (Ke (xh Z Z Z Z Z) ?_))))))))))))
 obtain⟨rfl,rfl,rfl,rfl,rfl⟩:=Bc (zj hr (show _=(1,Z2.b.a,Z2.g.a,0,bH) from V (ae A) (V (ip Z6) (V (ae C) (V (eD P) (V (ae F) (V (eD Z7) (V (ae Q) (V (iN ag) (V (ae Z1) (V (ip aF) (V (ae aj) (ae aR)))))))))))))
 exact⟨eZ,fe,fo,fu,eU,eX,eY,Z,(fA.pk [4,5,0,1,2]),aT,g6⟩
 refine jF (dF aF) (sk (JS (sr (Mz Z ?_))))
 obtain⟨aV,Z3⟩:=dM (ls:=aN) (i:=0) iQ f7 (ah.rds (i:=0) Z) f5
 refine fw (Zz (Zv ⟨ab dY,ao dY+0 *1,Zk⟩)) (J9 (jk) Z Z ((ah.rds (i:=0) Z).addr (i:=0) U) U) (fw (vU aV) (J5 Z (bO.one Tryz.isAgg33 (((ah.rds (i:=0) Z).elem iQ Z3 f7).at_ (k:=0) Z))) (Mz Z (Kz (Za ((aV:Int) < (u:Int))) (nt ?_))))
 by_cases Z0:(aV:Int) < (u:Int)
 refine jT (dT Z0) (JS (JW (Az Z (Az Z (Az Z (An Z (rt (tR (Ke (xh Z Z Z Z Z) ?_)))))))))
 have fE:Own w D dX (row Zk 0 0 (q1 (eN .u64) []) 33 1::_):=(ah.px [] [0] []).free (bW 33 1)
 have fF:Own w D dX (row Zk 0 0 (q1 (eN .u64) []) 33 1::_):=fE.free (bW 33 1)
 obtain⟨rfl,rfl,rfl,rfl,rfl⟩:=Bc (zj hr (show _=(3,([]:List Nat),([]:List Nat),0,n) from V (ae A) (V (ip Z6) (V (ae C) (V (eD P) (V (ae F) (V (eD Z7) (V (ae Q) (V (iN ag) (V (ae Z1) (V (iN aF) (V (ae (bG Z3)) (ip Z0))))))))))))).symm
 exact⟨Zk,0,Zk,0,l,r,g,Z,(fF.px [1] [3] []),p,g6⟩
 refine jF (dF Z0) (sk (JS ?_))
 have aW:=ah.px [] [0] []
 refine JW (Mz Z (Mz Z (WL.do Z (Ki Tryz.call73 Z ?_ (λ _ _ k=>k)))))
 refine cb Tryz.func73 ?_
 refine sr (Ar Z (Mz Z (Mz Z ?_)))
 have iW:=aW.rowC (i:=2) Z
 obtain⟨⟨a,G⟩,au⟩:∃ q:Int × Bool,fD n u=q:=⟨_,Z⟩
 obtain⟨_,bV,_,bX,aX⟩:=Kt aW
 refine cl Tryz.call113 (mD _ _ E n l r g u a G bV p (aX _ 1 _ Z bB) U (λ x9 h9=>⟨aX _ 2 _ Z (bL (P6.2 ⟨x9,h9,b3⟩) bB),di (φ:=λ _=>_) aW (i:=3) Z (bL (P6.2 ⟨x9,h9,b3⟩) dD)⟩) g4 au) ?_
 rintro _ _ ⟨rfl,bY,aY,aZ⟩
 have I:=bX _ _ bY
 replace aY:0<=a/\a<=(X n.a.a:Int):=aY
 replace aZ:Zd G=0\/a < (X n.a.a:Int):=aZ
 refine Mz Z (Kz (vI a) (Kz (Y G) (Az Z (An Z (JS (sr (Mz Z (Kz (Y (!G)) (nt ?_)))))))))
 rcases Nv (G) with J | J
 have h179t:Zd G=1:=by rw [J]; rfl
 refine jF (cn J) (sk (sr (Mz Z (Kz (vP E 0) (Kz (vP E 0) (Lz (T l (X n.a.a) r) I 0 O8 (fw (vJ (W a)) (J4 (e:=a) (J3 Z) U) ?_)))))))
 obtain⟨b,K⟩:=dM (ls:=g) (i:=W a) aH.len f7 (I.rds (i:=2) Z) f5
 have bg:=ik p K
 have iY:X b.b.a<=b.b.c/\X b.b.a<=9223372036854775807:=di I (i:=3) Z (φ:=λ _=>_) (bL (P6.2 ⟨b,G4 K,b3⟩) dD)
 have iZ:X b.b.a<=1000000:=by have q9:Hd n.a.a:=(by first | exact bu | exact zF bu (Nt _)); exact q9 _ (G4 bg)
 refine fw (Zz (Zv ⟨ab l,ao l+(W a) *6,Zk⟩)) (J9 (jQ) Z Z ((I.rds (i:=2) Z).addr (i:=W a) U) U) (An Z (rt (rs (An Z (JS (oZ [] (J6 Kg) I ?_))))))
 intro _ fH
 refine qv 0 Z Z (qv 1 Z Z (qt (v:= Zq (Zb (aL.L x))) 2 Z (λ _ ⟨_,H9⟩=>J5 Z (J7 (cs:=(aL.L x)) O9 P0 ((H9.cls (i:=1) Z).lit (k:=0) (m:=3) Z))) (qk (Zz (Zv ⟨ab l,ao l+(W a) *6,Zk⟩)) 3 Z (qk (Zz (Zv ⟨ab l,ao l+(W a) *6+2,Zk⟩)) 4 Z (qe 5 Z (Do.storeRow (vs:= [Y Zj]) (o:=(W a) *6+2) (q:=ao l+(W a) *6+2) (fH.pf [2]) Z U Z Tryz.sizeOf4 Z Z (Nr Z) (j3 aH.len K (Nr Z)) (kV (y:=(aH.q b.a b.b Zj b.g)) aH.len Z (Nr Z) K) ?_))))))
 intro fJ fK
 have fM:Own w D fJ [row l (X n.a.a) r (q1 aH.L (M2 g (W a) (aH.q b.a b.b Zj b.g))) 159 6,blk E [T l (X n.a.a) r] 111,blk aJ (aL.L x) 115,sepL (q1 Kj (M2 g (W a) (aH.q b.a b.b Zj b.g)))]:=by rw [mM (f:=Kj) (y:=(aH.q b.a b.b Zj b.g)) K Z]; exact fK
 have jd:X (M2 g (W a) (aH.q b.a b.b Zj b.g))=X (M2 n.a.a (W a) (aS.q b.a (N b.b.a) Zj b.g)):=bf (fq p Z)
 have je:X (M2 n.a.a (W a) (aS.q b.a (N b.b.a) Zj b.g))=X n.a.a:=N0
 have aA:=fM.pb [0,3]
 refine⟨.inr ⟨_,aA⟩, (qk (Zz (Zv ⟨ab l,ao l+(W a) *6,Zk⟩)) 6 Z (qk (Zz (Zv ⟨ab l,ao l+(W a) *6+3,Zk⟩)) 7 Z ?_))⟩
 obtain⟨h,L⟩:=dM (ls:=(M2 g (W a) (aH.q b.a b.b Zj b.g))) (i:=W a) aH.len f7 (aA.rds (i:=2) Z) f5
 have jf:X h.b.a<=h.b.c/\X h.b.a<=9223372036854775807:=di aA (i:=3) Z (φ:=λ _=>_) (bL (P6.2 ⟨h,G4 L,b3⟩) dD)
 refine qe 8 Z (Do.storeRow (vs:=(aL.L x)) (o:=(W a) *6+3) (q:=ao l+(W a) *6+3) (aA.pf [2]) Z U Z P0 Z Z (Nr Z) (j3 aH.len L (Nr Z)) (kV (y:=(aH.q h.a h.b h.j x)) aH.len Z (Nr Z) L) ?_)
 intro aB fQ
 have fT:Own w D aB [row l (X n.a.a) r (q1 aH.L (M2 (M2 g (W a) (aH.q b.a b.b Zj b.g)) (W a) (aH.q h.a h.b h.j x))) 159 6,blk E [T l (X n.a.a) r] 111,blk aJ (aL.L x) 115,sepL (q1 Kj (M2 (M2 g (W a) (aH.q b.a b.b Zj b.g)) (W a) (aH.q h.a h.b h.j x)))]:=by rw [mM (f:=Kj) (y:=(aH.q h.a h.b h.j x)) L Z]; exact fQ
 have jg:X (M2 (M2 g (W a) (aH.q b.a b.b Zj b.g)) (W a) (aH.q h.a h.b h.j x))=X (M2 (M2 n.a.a (W a) (aS.q b.a (N b.b.a) Zj b.g)) (W a) (aS.q h.a (N h.b.a) h.j x)):=bf (fq (fq p Z) Z)
 have jh:X (M2 (M2 n.a.a (W a) (aS.q b.a (N b.b.a) Zj b.g)) (W a) (aS.q h.a (N h.b.a) h.j x))=X (M2 n.a.a (W a) (aS.q b.a (N b.b.a) Zj b.g)):=N0
 have bI:=fT.pb [0,3]
 refine⟨.inr ⟨_,bI⟩, (qn (JY (JS (JW (Az Z (Az Z (Az Z (An Z (rt (Ke (xh Z Z Z Z Z) ?_))))))))))⟩
 have fV:Own w D aB (row Zk 0 0 (q1 (eN .u64) []) 33 1::_):=(bI.pk [0,2,3]).free (bW 33 1)
 have fZ:Own w D aB (row Zk 0 0 (q1 (eN .u64) []) 33 1::_):=fV.free (bW 33 1)
 have Z4:X n.a.a=X (M2 (M2 n.a.a (W a) (aS.q b.a (N b.b.a) Zj b.g)) (W a) (aS.q h.a (N h.b.a) h.j x)):=by first | omega | (simp only [N0]; done) | (simp only [N0,o3,q6,L0,o1,o2,O5]; omega)
 have gm:Own w D aB [row Zk 0 0 (q1 (eN .u64) []) 33 1,row Zk 0 0 (q1 (eN .u64) []) 33 1,blk E [T l (X (M2 (M2 n.a.a (W a) (aS.q b.a (N b.b.a) Zj b.g)) (W a) (aS.q h.a (N h.b.a) h.j x))) r] 111,row l (X (M2 (M2 n.a.a (W a) (aS.q b.a (N b.b.a) Zj b.g)) (W a) (aS.q h.a (N h.b.a) h.j x))) r (q1 aH.L (M2 (M2 g (W a) (aH.q b.a b.b Zj b.g)) (W a) (aH.q h.a h.b h.j x))) 159 6,sepL (q1 Kj (M2 (M2 g (W a) (aH.q b.a b.b Zj b.g)) (W a) (aH.q h.a h.b h.j x)))]:=by rw [<- Z4]; exact fZ
 obtain⟨rfl,rfl,rfl,rfl,rfl⟩:=Bc (zj hr (show _=(2,([]:List Nat),([]:List Nat),0,bn.q (N (M2 (M2 n.a.a (W a) (aS.q b.a (N b.b.a) Zj b.g)) (W a) (aS.q h.a (N h.b.a) h.j x)))) from V (ae A) (V (ip Z6) (V (ae C) (V (eD P) (V (ae F) (V (eD Z7) (V (ae Q) (V (iN ag) (V (ae Z1) (V (iN aF) (V (ae (bG Z3)) (V (iN Z0) (V (ae au) (V (ip J) (V (ae (bG bg)) (ae (bG (ik (fq p Z) L)))))))))))))))))))
 exact⟨Zk,0,Zk,0,l,r,(M2 (M2 g (W a) (aH.q b.a b.b Zj b.g)) (W a) (aH.q h.a h.b h.j x)),(by first | rfl | (rw [<- Z4]; done) | (rw [<- Z4]; rfl) | (rw [Z4]; first | done | rfl)),(gm.pf [1]),(fq (fq p Z) Z),g6⟩
 have h179t:Zd G=0:=by rw [J]; rfl
 refine jT (cn J) (JW (Mz Z (Mz Z (Kz (vP E 0) (Kz (vP E 0) (Lz (T l (X n.a.a) r) I 0 O8 (Mz Z (Mz Z (Kz (Zq #[vU u, T Zk 0 0, Y O, Z9 ⟨Zb []⟩, Z9 ⟨Zb []⟩, Y O]) (WL.do Z (K6 (cs:= [vU u, T Zk 0 0, Y O, Z9 ⟨Zb []⟩, Z9 ⟨Zb []⟩, Y O]) (t:=159) (sz:=6) (m:=1) I Z Z ZY Z ?_)))))))))))
 intro bJ gq bi
 replace bi:=Ku (y:=mF bJ 1 (q1 aH.L ([(aH.q u (O4 Zk 0 []) O ZB)])) 159 6) Z bi
 have gu:Own w D gq (row Zk 0 0 (q1 aL.L []) 115 3::_):=bi.free (bW 115 3)
 obtain⟨_,cz,_,cK,_⟩:=K7 (gu.pf [4,1,5])
 refine cl Tryz.call122 (Cm _ _ l (X n.a.a) r g a bJ (aH.q u (O4 Zk 0 []) O ZB) n.a.a (aS.q u (N []) O ZB) cz U p Z U U) ?_
 rintro _ _ ⟨s,B,rfl,cO⟩
 have jm:X (u2 (W a) g++((aH.q u (O4 Zk 0 []) O ZB)::r8 (W a) g))=X (u2 (W a) n.a.a++((aS.q u (N []) O ZB)::r8 (W a) n.a.a)):=by exact bf (kw (z:=(aS.q u (N []) O ZB)) p Z)
 have jo:X (u2 (W a) n.a.a++((aS.q u (N []) O ZB)::r8 (W a) n.a.a))=X n.a.a+1:=by simp only [o3,o1,q6,o2]; omega
 refine Kz (vP E 0) (Kz (vP E 0) ?_)
 have gB:=(cK _ _ cO).pf [2]
 refine cu [T s (X (u2 (W a) n.a.a++((aS.q u (N []) O ZB)::r8 (W a) n.a.a))) B] 0 gB Tryz.sizeOf109 ?_
 intro _ aa
 refine ns (Mz Z (Kz (vP E 0) (Kz (vP E 0) (Lz (T s (X (u2 (W a) n.a.a++((aS.q u (N []) O ZB)::r8 (W a) n.a.a))) B) aa 0 O8 (fw (vJ (W a)) (J4 (e:=a) (J3 Z) U) ?_)))))
 obtain⟨d,M⟩:=dM (ls:=(u2 (W a) g++((aH.q u (O4 Zk 0 []) O ZB)::r8 (W a) g))) (i:=W a) aH.len f7 (aa.rds (i:=1) Z) f5
 have bq:=ik (kw (z:=(aS.q u (N []) O ZB)) p Z) M
 have jq:X d.b.a<=d.b.c/\X d.b.a<=9223372036854775807:=di aa (i:=2) Z (φ:=λ _=>_) (bL (P6.2 ⟨d,G4 M,b3⟩) dD)
 have jr:X d.b.a<=1000000:=by have q9:Hd (u2 (W a) n.a.a++((aS.q u (N []) O ZB)::r8 (W a) n.a.a)):=(by first | exact bu | exact zF bu (Nt _)); exact q9 _ (G4 bq)
 refine fw (Zz (Zv ⟨ab s,ao s+(W a) *6,Zk⟩)) (J9 (jQ) Z Z ((aa.rds (i:=1) Z).addr (i:=W a) U) U) (An Z (rt (rs (An Z (JS (oZ [] (J6 Kg) (aa.pb [1,2]) ?_))))))
 intro _ gF
 refine qv 0 Z Z (qv 1 Z Z (qt (v:= Zq (Zb (aL.L x))) 2 Z (λ _ ⟨_,H9⟩=>J5 Z (J7 (cs:=(aL.L x)) O9 P0 ((H9.cls (i:=1) Z).lit (k:=0) (m:=3) Z))) (qk (Zz (Zv ⟨ab s,ao s+(W a) *6,Zk⟩)) 3 Z (qk (Zz (Zv ⟨ab s,ao s+(W a) *6+2,Zk⟩)) 4 Z (qe 5 Z (Do.storeRow (vs:= [Y Zj]) (o:=(W a) *6+2) (q:=ao s+(W a) *6+2) (gF.pf [2]) Z U Z Tryz.sizeOf4 Z Z (Nr Z) (j3 aH.len M (Nr Z)) (kV (y:=(aH.q d.a d.b Zj d.g)) aH.len Z (Nr Z) M) ?_))))))
 intro gH gI
 have gJ:Own w D gH [row s (X (u2 (W a) n.a.a++((aS.q u (N []) O ZB)::r8 (W a) n.a.a))) B (q1 aH.L (M2 (u2 (W a) g++((aH.q u (O4 Zk 0 []) O ZB)::r8 (W a) g)) (W a) (aH.q d.a d.b Zj d.g))) 159 6,blk E [T s (X (u2 (W a) n.a.a++((aS.q u (N []) O ZB)::r8 (W a) n.a.a))) B] 111,blk aJ (aL.L x) 115,sepL (q1 Kj (M2 (u2 (W a) g++((aH.q u (O4 Zk 0 []) O ZB)::r8 (W a) g)) (W a) (aH.q d.a d.b Zj d.g)))]:=by rw [mM (f:=Kj) (y:=(aH.q d.a d.b Zj d.g)) M Z]; exact gI
 have jv:X (M2 (u2 (W a) g++((aH.q u (O4 Zk 0 []) O ZB)::r8 (W a) g)) (W a) (aH.q d.a d.b Zj d.g))=X (M2 (u2 (W a) n.a.a++((aS.q u (N []) O ZB)::r8 (W a) n.a.a)) (W a) (aS.q d.a (N d.b.a) Zj d.g)):=bf (fq (kw (z:=(aS.q u (N []) O ZB)) p Z) Z)
 have jw:X (M2 (u2 (W a) n.a.a++((aS.q u (N []) O ZB)::r8 (W a) n.a.a)) (W a) (aS.q d.a (N d.b.a) Zj d.g))=X (u2 (W a) n.a.a++((aS.q u (N []) O ZB)::r8 (W a) n.a.a)):=N0
 have aC:=gJ.pb [0,3]
 refine⟨.inr ⟨_,aC⟩, (qk (Zz (Zv ⟨ab s,ao s+(W a) *6,Zk⟩)) 6 Z (qk (Zz (Zv ⟨ab s,ao s+(W a) *6+3,Zk⟩)) 7 Z ?_))⟩
 obtain⟨j,Z5⟩:=dM (ls:=(M2 (u2 (W a) g++((aH.q u (O4 Zk 0 []) O ZB)::r8 (W a) g)) (W a) (aH.q d.a d.b Zj d.g))) (i:=W a) aH.len f7 (aC.rds (i:=2) Z) f5
 have jy:X j.b.a<=j.b.c/\X j.b.a<=9223372036854775807:=di aC (i:=3) Z (φ:=λ _=>_) (bL (P6.2 ⟨j,G4 Z5,b3⟩) dD)
 refine qe 8 Z (Do.storeRow (vs:=(aL.L x)) (o:=(W a) *6+3) (q:=ao s+(W a) *6+3) (aC.pf [2]) Z U Z P0 Z Z (Nr Z) (j3 aH.len Z5 (Nr Z)) (kV (y:=(aH.q j.a j.b j.j x)) aH.len Z (Nr Z) Z5) ?_)
 intro aD gL
 have gM:Own w D aD [row s (X (u2 (W a) n.a.a++((aS.q u (N []) O ZB)::r8 (W a) n.a.a))) B (q1 aH.L (M2 (M2 (u2 (W a) g++((aH.q u (O4 Zk 0 []) O ZB)::r8 (W a) g)) (W a) (aH.q d.a d.b Zj d.g)) (W a) (aH.q j.a j.b j.j x))) 159 6,blk E [T s (X (u2 (W a) n.a.a++((aS.q u (N []) O ZB)::r8 (W a) n.a.a))) B] 111,blk aJ (aL.L x) 115,sepL (q1 Kj (M2 (M2 (u2 (W a) g++((aH.q u (O4 Zk 0 []) O ZB)::r8 (W a) g)) (W a) (aH.q d.a d.b Zj d.g)) (W a) (aH.q j.a j.b j.j x)))]:=by rw [mM (f:=Kj) (y:=(aH.q j.a j.b j.j x)) Z5 Z]; exact gL
 have jA:X (M2 (M2 (u2 (W a) g++((aH.q u (O4 Zk 0 []) O ZB)::r8 (W a) g)) (W a) (aH.q d.a d.b Zj d.g)) (W a) (aH.q j.a j.b j.j x))=X (M2 (M2 (u2 (W a) n.a.a++((aS.q u (N []) O ZB)::r8 (W a) n.a.a)) (W a) (aS.q d.a (N d.b.a) Zj d.g)) (W a) (aS.q j.a (N j.b.a) j.j x)):=bf (fq (fq (kw (z:=(aS.q u (N []) O ZB)) p Z) Z) Z)
 have jB:X (M2 (M2 (u2 (W a) n.a.a++((aS.q u (N []) O ZB)::r8 (W a) n.a.a)) (W a) (aS.q d.a (N d.b.a) Zj d.g)) (W a) (aS.q j.a (N j.b.a) j.j x))=X (M2 (u2 (W a) n.a.a++((aS.q u (N []) O ZB)::r8 (W a) n.a.a)) (W a) (aS.q d.a (N d.b.a) Zj d.g)):=N0
 have bK:=gM.pb [0,3]
 refine⟨.inr ⟨_,bK⟩, (qn (JY (JS (JW (Az Z (Az Z (Az Z (An Z (rt (Ke (xh Z Z Z Z Z) ?_))))))))))⟩
 have gP:Own w D aD (row Zk 0 0 (q1 (eN .u64) []) 33 1::_):=(bK.pk [0,2,3]).free (bW 33 1)
 have gQ:Own w D aD (row Zk 0 0 (q1 (eN .u64) []) 33 1::_):=gP.free (bW 33 1)
 have Z8:X (u2 (W a) n.a.a++((aS.q u (N []) O ZB)::r8 (W a) n.a.a))=X (M2 (M2 (u2 (W a) n.a.a++((aS.q u (N []) O ZB)::r8 (W a) n.a.a)) (W a) (aS.q d.a (N d.b.a) Zj d.g)) (W a) (aS.q j.a (N j.b.a) j.j x)):=by first | omega | (simp only [N0]; done) | (simp only [N0,o3,q6,L0,o1,o2,O5]; omega)
 have gT:Own w D aD [row Zk 0 0 (q1 (eN .u64) []) 33 1,row Zk 0 0 (q1 (eN .u64) []) 33 1,blk E [T s (X (M2 (M2 (u2 (W a) n.a.a++((aS.q u (N []) O ZB)::r8 (W a) n.a.a)) (W a) (aS.q d.a (N d.b.a) Zj d.g)) (W a) (aS.q j.a (N j.b.a) j.j x))) B] 111,row s (X (M2 (M2 (u2 (W a) n.a.a++((aS.q u (N []) O ZB)::r8 (W a) n.a.a)) (W a) (aS.q d.a (N d.b.a) Zj d.g)) (W a) (aS.q j.a (N j.b.a) j.j x))) B (q1 aH.L (M2 (M2 (u2 (W a) g++((aH.q u (O4 Zk 0 []) O ZB)::r8 (W a) g)) (W a) (aH.q d.a d.b Zj d.g)) (W a) (aH.q j.a j.b j.j x))) 159 6,sepL (q1 Kj (M2 (M2 (u2 (W a) g++((aH.q u (O4 Zk 0 []) O ZB)::r8 (W a) g)) (W a) (aH.q d.a d.b Zj d.g)) (W a) (aH.q j.a j.b j.j x)))]:=by rw [<- Z8]; exact gQ
 obtain⟨rfl,rfl,rfl,rfl,rfl⟩:=Bc (zj hr (show _=(2,([]:List Nat),([]:List Nat),0,bn.q (N (M2 (M2 (u2 (W a) n.a.a++((aS.q u (N []) O ZB)::r8 (W a) n.a.a)) (W a) (aS.q d.a (N d.b.a) Zj d.g)) (W a) (aS.q j.a (N j.b.a) j.j x)))) from V (ae A) (V (ip Z6) (V (ae C) (V (eD P) (V (ae F) (V (eD Z7) (V (ae Q) (V (iN ag) (V (ae Z1) (V (iN aF) (V (ae (bG Z3)) (V (iN Z0) (V (ae au) (V (eD J) (V (ae (bG bq)) (ae (bG (ik (fq (kw (z:=(aS.q u (N []) O ZB)) p Z) Z) Z5)))))))))))))))))))
 exact⟨Zk,0,Zk,0,s,B,(M2 (M2 (u2 (W a) g++((aH.q u (O4 Zk 0 []) O ZB)::r8 (W a) g)) (W a) (aH.q d.a d.b Zj d.g)) (W a) (aH.q j.a j.b j.j x)),(by first | rfl | (rw [<- Z8]; done) | (rw [<- Z8]; rfl) | (rw [Z8]; first | done | rfl)),(gT.pf [1]),(fq (fq (kw (z:=(aS.q u (N []) O ZB)) p Z) Z) Z),g6⟩
 refine jT (dT Z6) (sr (Az Z (Az Z (Az Z (An Z (rt (tR (Ke (xh Z Z Z Z Z) ?_))))))))
 have gW:Own w D dx (row Zk 0 0 (q1 (eN .u64) []) 33 1::_):=dA.free (bW 33 1)
 have gX:Own w D dx (row Zk 0 0 (q1 (eN .u64) []) 33 1::_):=gW.free (bW 33 1)
 obtain⟨rfl,rfl,rfl,rfl,rfl⟩:=Bc (zj hr (show _=(0,([]:List Nat),([]:List Nat),21,n) from V (ae A) (iN Z6))).symm
 exact⟨Zk,0,Zk,0,l,r,g,Z,(gX.px [1] [2] []),p,g6⟩
end
open List renaming map_append->P5,perm_middle->Q3
section
variable {α β:Type} {w0 w:ZZ} {D:Nat->Prop} {L:List HP} {f:α->List HP}
theorem F9 {es:List α} {y:α} (H:Own w0 D w (f y++(sepL (q1 f es)::L))):Own w0 D w (sepL (q1 f (es++ [y]))::L):=by
  have h:=H.sepIns (i:=X es)
  rw [List.take_length,List.drop_length] at h
  exact h
theorem Gb {d:List α} {k:Nat} {es:List α} (y:α) (he:X es=k) (hk:k < X d):List.set (es++r8 k d) k y=(es++ [y])++r8 (k+1) d:=by
  subst he
  rw [List.set_append_right _ _ (Nat.le_refl _),Nat.sub_self,List.drop_eq_getElem_cons hk,List.set_cons_zero,List.append_assoc]
  rfl
theorem Ho {d es:List α} {k:Nat} {x:α} (he:X es=k) (hx:d[k]? =Zv x):(es++r8 k d)[k]? =Zv x:=by
  subst he
  rw [List.getElem?_append_right (Nat.le_refl _),Nat.sub_self,List.getElem?_drop,Nat.add_zero,hx]
theorem Gc {f:α->β} {d es:List α} {k:Nat} {x y:α} (h:s0 f es=s0 f (u2 k d)) (hx:d[k]? =Zv x) (hy:f y=f x):s0 f (es++ [y])=s0 f (u2 (k+1) d):=by
  obtain⟨hk,rfl⟩:=List.getElem?_eq_some_iff.1 hx
  rw [List.take_succ_eq_append_getElem hk,P5,P5,h,List.map_cons,List.map_nil,hy,List.map_cons,List.map_nil]
end
section
variable {α:Type} {w0 w:ZZ} {D:Nat->Prop} {L:List HP} {f:α->List HP}
theorem Ct {ds:List α} {i:Nat} {x:α} (hx:ds[i]? =Zv x) (H:Own w0 D w (sepL (q1 f ds)::L)):Own w0 D w (sepL (q1 f (u2 i ds++r8 (i+1) ds))::(f x++L)):=by
  rw [List.flatMap_append]
  exact (Lu (f:=f) (i:=i) hx H).perm Q3
theorem Cu {ds:List α} {i:Nat} {y:α} (H:Own w0 D w (sepL (q1 f ds)::(f y++L))):Own w0 D w (sepL (q1 f (u2 i ds++(y::r8 i ds)))::L):=Own.sepIns (H.perm Q3.symm)
end
open IntKind renaming i64->D3
open List renaming flatMap_append->u3,mem_of_mem_take->M1
open Nat renaming le_mul_of_pos_left->Q5
open _root_.Go.Proofs.Tryz renaming prog->y3,underlying3->y6,underlying34->Q7,underlying35->Q4,underlying36->P7,underlying44->Q8,underlying45->F1,underlying75->Q6
section
open Go.RowKit
structure aY where q::
 a:Nat
 j:Sv aV
 g:Sv aL
 b:Int
def aY.L (x:aY):List ZQ:= [.int .u64 ((x.a:Nat):Int), T x.j.A (X x.j.a) x.j.c, T x.g.A (X x.g.a) x.g.c, .int .i64 x.b]
instance:Bk aY:=⟨λ x _=>bk x.a+(bk x.j+(bk x.g+(bk x.b+(0))))⟩
theorem aY.len:∀ x,X (aY.L x)=4:=λ _=>rfl
theorem aY.one:∀ x, ∀ u ∈ aY.L x,u.oneCell'=Zj:=λ x u hu=>by
 simp only [aY.L,List.mem_cons,List.not_mem_nil,or_false] at hu
 rcases hu with rfl | rfl | rfl | rfl <;> rfl
def M7 (w:ZZ) (x:aY):Prop:=(x.a<=18446744073709551615)/\(nK w 6 80 aV.L (LK w) x.j)/\(nK w 3 40 aL.L (LF w) x.g)/\((-9223372036854775808)<=x.b/\x.b<=9223372036854775807)
instance:Inhabited aY:=⟨⟨Zy,Zy,Zy,Zy⟩⟩
structure bK where q::
 a:Nat
 j:Ll aV
 g:Ll aL
 b:Int
instance:Inhabited bK:=⟨⟨Zy,Zy,Zy,Zy⟩⟩
def aY.abs (x:aY):bK:=⟨x.a,⟨x.j.a⟩,⟨x.g.a⟩,x.b⟩
def Kq (x:aY):List HP:= [row x.j.A (X x.j.a) x.j.c (q1 aV.L x.j.a) 62 6,row x.g.A (X x.g.a) x.g.c (q1 aL.L x.g.a) 115 3]
def lY (a:List bA) (b:Int) (c:Int):(List bA):=
 if b=c then a else(u2 (W b) a++r8 (W c) a)
theorem qO (w D f o d a c b j) (H:Own w D w [row f o d (q1 bA.L a) 80 2]) (p:o=X a) (J:X a *32<=211106232532992) (K:0<=c/\c<=b/\b<=((X a:Nat):Int)) (hr:lY a c b=j):
    Calls y3 84 #[T f o d,vI c,vI b] w (dI λ v w'=> ∃ B C,v= T B (X j) C/\Own w D w' [row B (X j) C (q1 bA.L j) 80 2]/\(X j<=X a)):=by
 unfold lY at hr
 subst p
 have L:=H.rowC (i:=0) Z
 refine cb Tryz.func84 ?_
 refine sr (Ar Z (Mz Z (fw (vJ (W c)) (J4 (e:=c) (J3 Z) U) (fw (vJ (W b)) (J4 (e:=b) (J3 Z) U) (Mz Z (Kz (vJ (X a)) (fw (T (fA f (W c) 2 (X a)) ((W b) - (W c)) (X a - (W c))) (Lx (kY) Z Z Z Z U U U) (nt (JS (sr (Mz Z (Mz Z (Kz (Za (c=b)) (nt ?_))))))))))))))
 by_cases h:c=b
 refine jT (dT h) (sr (Mz Z (An Z (rt (tR (rs ?_))))))
 obtain rfl:=zj hr zq1
 exact⟨f,d,Z,(H.pf []),U⟩
 refine jF (dF h) (sk (sr (Mz Z (Kz (vJ (X a)) (An Z (JS ?_))))))
 have g:=H.drew
 refine K8 [6] (λ Z8=> ∃ L',Own w D Z8 ([row f (X a) d (q1 bA.L a) 80 2]++L')) f1 f1 (J6 Kg) ⟨_,g⟩ ?_
 revert g
 generalize World.drew w=r
 intro g
 refine qv 0 Z Z (qt (v:=vJ (W c)) 1 Z (λ _ _=>J4 (e:=c) (J3 Z) U) (qt (v:= T f (W c) d) 2 Z (λ _ _=>KN (kY) Z Z U) (qv 3 Z Z (qt (v:=vJ (W b)) 4 Z (λ _ _=>J4 (e:=b) (J3 Z) U) (qt (v:= T (fA f (W b) 2 d) (X a - (W b)) (d - (W b))) 5 Z (λ _ _=>Kv (kY) Z Z U) ?_)))))
 have E:X (u2 (W c) a++r8 (W b) a)=W c+(X a - W b):=by simp only [o3,o1,o2]; omega
 have l:Src y3 2 35 (T (fA f (W b) 2 d) (X a - (W b)) (d - (W b))) (X a - W b) (q1 bA.L (r8 (W b) a)) r:=eO Q4 (KP (lo:=W b) bA.len (g.rds (i:=0) Z) U U f7) (cO bA.one (r8 (W b) a))
 obtain⟨F,t,u⟩:=g.rowFull
 refine qd 6 Z (KX (k:=W c) (m:=X a - W b) (kY) u Z Z l U (s:=X (u2 (W c) a++r8 (W b) a)) U ?_)
 intro M n
 refine⟨.inl f1, (Kr (v:= T f (X (u2 (W c) a++r8 (W b) a)) d) 7 Z f1 (λ _=>KV Z) (qn (JY (sr (Mz Z (Mz Z (Kz (vI ((X (u2 (W c) a++r8 (W b) a):Nat):Int)) (Mz Z (fw (T (fA f (X (u2 (W c) a++r8 (W b) a)) 2 d) (X a - (X (u2 (W c) a++r8 (W b) a))) (d - (X (u2 (W c) a++r8 (W b) a)))) (Yl.cut (kY) Z Z Z U U) (KO (Lp (z0:=(Zq #[.int .u64 0, T Zk 0 0])) (lo:=X (u2 (W c) a++r8 (W b) a)) (nd:=(X a - (X (u2 (W c) a++r8 (W b) a)))) f1 Z (kY) n Z (λ _=>ig ((n.rds (i:=0) Z).isSome U) U) U ?_)))))))))))⟩
 intro x G I y
 refine ns (Mz Z (An Z (rt (rs ?_))))
 have A:=(y.rowPart U (tZ bA.len U U Z)).pf []
 obtain rfl:=zj hr zq1
 exact⟨f,d,Z,A,U⟩
def lZ (a:List bA) (b:Int) (c:bA):(List bA):=
 if((W b:Nat):Int)=((X a:Nat):Int) then(a++ [c]) else(u2 (W b) a++(c::r8 (W b) a))
theorem qP (w D f E d b a C) (c:bA) (y) (H:Own w D w [row f E d (q1 bA.L b) 80 2,mF C 1 (q1 bA.L ([c])) 80 2]) (F:E=X b) (ag:X b *32<=211106232532992) (ah:0<=a/\a<=((X b:Nat):Int)/\(X b+1) *32<=211106232532992) (hr:lZ b a c=y):
    Calls y3 181 #[T f E d,vI a, T C 1 1] w (dI λ v w'=> ∃ Z1 Z2,v= T Z1 (X y) Z2/\Own w D w' [row Z1 (X y) Z2 (q1 bA.L y) 80 2]/\(X y=X b+1)):=by
 unfold lZ at hr
 subst F
 have ai:=H.rowC (i:=0) Z
 refine cb Tryz.func181 ?_
 refine sr (Ar Z (Mz Z (fw (vJ (W a)) (J4 (e:=a) (J3 Z) U) (fw (T (fA f (W a) 2 d) (X b - (W a)) (d - (W a))) (Kv (kY) Z Z U) (ns (Mz Z (Kz (vI 1) (An Z (JS (sr (Mz Z (Kz (Y O) (nt (jf (sk (sr (Mz Z (Kz (vJ (X b)) (An Z (JS (sr (fw (vJ (W a)) (J4 (e:=a) (J3 Z) U) ?_))))))))))))))))))))))
 refine Mz Z (Kz (Za (((W a:Nat):Int)=(X b:Int))) (nt ?_))
 by_cases h:((W a:Nat):Int)=(X b:Int)
 refine jT (dT h) (sr (Mz Z (Mz Z (WL.do Z (Kk (k:=X b) (m:=1) (kY) H Z Z (eO Q4 (di H (i:=1) Z lT) (cO bA.one ([c]))) Z U (s:=X (b++ [c])) f6 (u3).symm ?_)))))
 intro G I _ J
 have Z0:X (b++ [c])=X b+1:=by simp only [o3,q6,L0]
 refine An Z (rt (tR (rs ?_)))
 obtain rfl:=zj hr zq1
 exact⟨G,I,Z,(J.pk [0]),U⟩
 refine jF (dF h) (sk (JS (sr (Mz Z (Mz Z (fw (vJ (X b+1)) (J4 (e:=D3.wrap ((X b:Int)+1)) yk f4) (Mz Z (Kz (vJ d) (Kz (Za (((X b+1:Nat):Int) > (d:Int))) (nt ?_))))))))))
 by_cases z:((X b+1:Nat):Int) > (d:Int)
 refine jT (dT z) (sr (Mz Z (fw (vJ (W a)) (J4 (e:=a) (J3 Z) U) (fw (T f (W a) d) (KN (kY) Z Z U) (Mz Z (Mz Z (fw (vJ (X b+1)) (J4 (e:=D3.wrap ((X b:Int)+1)) yk f4) (fw (vJ (W a)) (J4 (e:=a) (J3 Z) U) (fw (vJ ((X b+1) - (W a))) (J4 (e:=D3.wrap (((X b+1:Nat):Int) - ((W a:Nat):Int))) yk f4) ?_)))))))))
 have aa:X (u2 (W a) b++(c::r8 (W a) b))=X b+1:=by simp only [o3,o1,q6,o2]; omega
 refine WL.do Z (KW (k:=W a) (m:=(X b+1) - (W a)) (kY) y6 H Z Z U U U Z U (s:=X (u2 (W a) b++(c::r8 (W a) b))) U ?_)
 intro j g _ _ A n
 have L:=n.rowLe (i:=0) Z
 refine Ar Z (Mz Z (fw (vJ (W a)) (J4 (e:=a) (J3 Z) U) (fw (T (fA j (W a) 2 g) ((X (u2 (W a) b++(c::r8 (W a) b))) - (W a)) (g - (W a))) (Kv (kY) Z Z U) (Mz Z (WL.do Z (KJ (lo:=W a) (k:=1) (kY) n Z (λ _=>ig ((n.rds (i:=0) Z).isSome U) U) U Z (di n (i:=2) Z lT) U (λ u hu=>cO bA.one _ u (M1 hu)) Z ?_))))))
 intro _ M
 refine nt (JS (yH [8] (J6 (J6 Kg)) M ?_))
 intro _ o
 refine qv 0 Z Z (qt (v:=vJ (W a)) 1 Z (λ _ _=>J4 (e:=a) (J3 Z) U) (qv 2 Z Z (qt (v:=vJ (W a+1)) 3 Z (λ _ _=>J4 (e:=D3.wrap (((W a:Nat):Int)+1)) yk f4) (qt (v:= T (fA j (W a+1) 2 g) ((X (u2 (W a) b++(c::r8 (W a) b))) - (W a+1)) (g - (W a+1))) 4 Z (λ _ _=>Kv (kY) Z Z U) (qv 5 Z Z (qt (v:=vJ (W a)) 6 Z (λ _ _=>J4 (e:=a) (J3 Z) U) (qt (v:= T (fA f (W a) 2 d) (X b - (W a)) (d - (W a))) 7 Z (λ _ _=>Kv (kY) Z Z U) (qd 8 Z (KJ (lo:=W a+1) (k:=X b - W a) (kY) o Z (λ _=>ig ((o.rds (i:=0) Z).isSome U) U) U Z (KP (lo:=W a) bA.len (o.rds (i:=1) Z) U U f7) U (λ u hu=>cO bA.one _ u (M1 hu)) Z ?_)))))))))
 intro Z5 Z6
 refine⟨.inl f1, (qn (JY (sr (Mz Z (An Z (rt (tR (rs ?_))))))))⟩
 have P:Own w D Z5 [row j (X (u2 (W a) b++(c::r8 (W a) b))) g (q1 bA.L (u2 (W a) b++(c::r8 (W a) b))) 80 2,row f (X b) d (q1 bA.L b) 80 2,mF C 1 (q1 bA.L ([c])) 80 2]:=Z6.rowPart U (uD (l:=b) (k2:=X b - W a) bA.len U A Z Z U)
 obtain rfl:=zj hr zq1
 exact⟨j,g,Z,(P.pk [0]),U⟩
 refine jF (dF z) (sk (sr ?_))
 have B:X (u2 (W a) b++(c::r8 (W a) b))=X b+1:=by simp only [o3,o1,q6,o2]; omega
 obtain⟨_,p,R⟩:=H.rowFull
 refine Mz Z (Mz Z (Mz Z (fw (vJ (X b+1)) (J4 (e:=D3.wrap ((X b:Int)+1)) yk f4) (fw (T f (X (u2 (W a) b++(c::r8 (W a) b))) d) (Yl.to (KN (kY) Z Z U) (ZX (λ q=>Value.slice f q d) B.symm)) (An Z (JS (sr (Mz Z (Mz Z (fw (vJ (W a)) (J4 (e:=a) (J3 Z) U) (Mz Z (fw (vJ (W a+1)) (J4 (e:=D3.wrap (((W a:Nat):Int)+1)) yk f4) (fw (T (fA f (W a+1) 2 d) ((X (u2 (W a) b++(c::r8 (W a) b))) - (W a+1)) (d - (W a+1))) (Kv (kY) Z Z U) ?_)))))))))))))
 have r:=R.pb [0]
 refine fw (Y O) (KY (lo:=W a+1) (run_callFunc_extern Tryz.func217 f1 f1 f1 (e:=Extern.SlicesOverlaps.overlaps #[35,35] #[4]) f1) Q4 Tryz.sizeOf80 r f7 U Z (ig ((r.rds (i:=1) Z).isSome U) U)) (Kz (Y Zj) (nt (jt (JS (oZ [8] (J6 (J6 Kg)) r ?_)))))
 intro _ S
 refine qv 0 Z Z (qt (v:=vJ (W a)) 1 Z (λ _ _=>J4 (e:=a) (J3 Z) U) (qv 2 Z Z (qt (v:=vJ (W a+1)) 3 Z (λ _ _=>J4 (e:=D3.wrap (((W a:Nat):Int)+1)) yk f4) (qt (v:= T (fA f (W a+1) 2 d) ((X (u2 (W a) b++(c::r8 (W a) b))) - (W a+1)) (d - (W a+1))) 4 Z (λ _ _=>Kv (kY) Z Z U) (qv 5 Z Z (qt (v:=vJ (W a)) 6 Z (λ _ _=>J4 (e:=a) (J3 Z) U) (qt (v:= T (fA f (W a) 2 d) ((X (u2 (W a) b++(c::r8 (W a) b))) - (W a)) (d - (W a))) 7 Z (λ _ _=>Kv (kY) Z Z U) ?_)))))))
 have t:=S.pb [0]
 refine qd 8 Z (KJ (lo:=W a+1) (k:=X b - W a) (kY) t Z (λ _=>ig ((t.rds (i:=0) Z).isSome U) U) U Z (bV.cut (lo:=W a) (hi:=X (u2 (W a) b++(c::r8 (W a) b))) (t.rds (i:=0) Z) U U U) U (λ u hu=>cO bA.one _ u (by rw [uE bA.len U Z U] at hu; exact hu)) Z ?_)
 intro _ x
 refine⟨.inl f1, (qn (JY (sr (Mz Z (fw (vJ (W a)) (J4 (e:=a) (J3 Z) U) (fw (T (fA f (W a) 2 d) ((X (u2 (W a) b++(c::r8 (W a) b))) - (W a)) (d - (W a))) (Kv (kY) Z Z U) (Mz Z (WL.do Z (KJ (lo:=W a) (k:=1) (kY) x Z (λ _=>ig ((x.rds (i:=0) Z).isSome U) U) U Z (di x (i:=1) Z lT) U (λ u hu=>cO bA.one _ u (M1 hu)) Z ?_)))))))))⟩
 intro Z7 Z3
 refine ns (Mz Z (An Z (rt (tR (rs ?_)))))
 have Z4:Own w D Z7 [row f (X (u2 (W a) b++(c::r8 (W a) b))) d (q1 bA.L (u2 (W a) b++(c::r8 (W a) b))) 80 2,mF C 1 (q1 bA.L ([c])) 80 2]:=Z3.rowPart U (uF (l:=b) (m:=(X (u2 (W a) b++(c::r8 (W a) b))) - W a) (k2:=X b - W a) bA.len U (by rw [p]; exact Q5 2 U) Z Z U U)
 obtain rfl:=zj hr zq1
 exact⟨f,d,Z,(Z4.pk [0]),U⟩
theorem mi:Elem y3 75 100 4 64:=mV (z:= Zq #[.int .u64 0, T Zk 0 0, T Zk 0 0, .int .i64 0]) Q6 f1 Z f7
def kR (a:List aY) (b:Int) (c:Int):(List aY):=
 if b=c then a else(u2 (W b) a++r8 (W c) a)
theorem pq (w D f o d a c b j) (H:Own w D w [row f o d (q1 aY.L a) 100 4]) (p:o=X a) (J:X a *64<=211106232532992) (K:0<=c/\c<=b/\b<=((X a:Nat):Int)) (hr:kR a c b=j):
    Calls y3 141 #[T f o d,vI c,vI b] w (dI λ v w'=> ∃ B C,v= T B (X j) C/\Own w D w' [row B (X j) C (q1 aY.L j) 100 4]/\(X j<=X a)):=by
 unfold kR at hr
 subst p
 have L:=H.rowC (i:=0) Z
 refine cb Tryz.func141 ?_
 refine sr (Ar Z (Mz Z (fw (vJ (W c)) (J4 (e:=c) (J3 Z) U) (fw (vJ (W b)) (J4 (e:=b) (J3 Z) U) (Mz Z (Kz (vJ (X a)) (fw (T (fA f (W c) 4 (X a)) ((W b) - (W c)) (X a - (W c))) (Lx (mi) Z Z Z Z U U U) (nt (JS (sr (Mz Z (Mz Z (Kz (Za (c=b)) (nt ?_))))))))))))))
 by_cases h:c=b
 refine jT (dT h) (sr (Mz Z (An Z (rt (tR (rs ?_))))))
 obtain rfl:=zj hr zq1
 exact⟨f,d,Z,(H.pf []),U⟩
 refine jF (dF h) (sk (sr (Mz Z (Kz (vJ (X a)) (An Z (JS ?_))))))
 have g:=H.drew
 refine K8 [6] (λ Z8=> ∃ L',Own w D Z8 ([row f (X a) d (q1 aY.L a) 100 4]++L')) f1 f1 (J6 Kg) ⟨_,g⟩ ?_
 revert g
 generalize World.drew w=r
 intro g
 refine qv 0 Z Z (qt (v:=vJ (W c)) 1 Z (λ _ _=>J4 (e:=c) (J3 Z) U) (qt (v:= T f (W c) d) 2 Z (λ _ _=>KN (mi) Z Z U) (qv 3 Z Z (qt (v:=vJ (W b)) 4 Z (λ _ _=>J4 (e:=b) (J3 Z) U) (qt (v:= T (fA f (W b) 4 d) (X a - (W b)) (d - (W b))) 5 Z (λ _ _=>Kv (mi) Z Z U) ?_)))))
 have E:X (u2 (W c) a++r8 (W b) a)=W c+(X a - W b):=by simp only [o3,o1,o2]; omega
 have l:Src y3 4 75 (T (fA f (W b) 4 d) (X a - (W b)) (d - (W b))) (X a - W b) (q1 aY.L (r8 (W b) a)) r:=eO Q6 (KP (lo:=W b) aY.len (g.rds (i:=0) Z) U U f7) (cO aY.one (r8 (W b) a))
 obtain⟨F,t,u⟩:=g.rowFull
 refine qd 6 Z (KX (k:=W c) (m:=X a - W b) (mi) u Z Z l U (s:=X (u2 (W c) a++r8 (W b) a)) U ?_)
 intro M n
 refine⟨.inl f1, (Kr (v:= T f (X (u2 (W c) a++r8 (W b) a)) d) 7 Z f1 (λ _=>KV Z) (qn (JY (sr (Mz Z (Mz Z (Kz (vI ((X (u2 (W c) a++r8 (W b) a):Nat):Int)) (Mz Z (fw (T (fA f (X (u2 (W c) a++r8 (W b) a)) 4 d) (X a - (X (u2 (W c) a++r8 (W b) a))) (d - (X (u2 (W c) a++r8 (W b) a)))) (Yl.cut (mi) Z Z Z U U) (KO (Lp (z0:=(Zq #[.int .u64 0, T Zk 0 0, T Zk 0 0,vI 0])) (lo:=X (u2 (W c) a++r8 (W b) a)) (nd:=(X a - (X (u2 (W c) a++r8 (W b) a)))) f1 Z (mi) n Z (λ _=>ig ((n.rds (i:=0) Z).isSome U) U) U ?_)))))))))))⟩
 intro x G I y
 refine ns (Mz Z (An Z (rt (rs ?_))))
 have A:=(y.rowPart U (tZ aY.len U U Z)).pf []
 obtain rfl:=zj hr zq1
 exact⟨f,d,Z,A,U⟩
def kS (a:List aY) (b:Int) (c:aY):(List aY):=
 if((W b:Nat):Int)=((X a:Nat):Int) then(a++ [c]) else(u2 (W b) a++(c::r8 (W b) a))
theorem pu (w D f E d b a C) (c:aY) (y) (H:Own w D w [row f E d (q1 aY.L b) 100 4,mF C 1 (q1 aY.L ([c])) 100 4]) (F:E=X b) (ag:X b *64<=211106232532992) (ah:0<=a/\a<=((X b:Nat):Int)/\(X b+1) *64<=211106232532992) (hr:kS b a c=y):
    Calls y3 81 #[T f E d,vI a, T C 1 1] w (dI λ v w'=> ∃ Z1 Z2,v= T Z1 (X y) Z2/\Own w D w' [row Z1 (X y) Z2 (q1 aY.L y) 100 4]/\(X y=X b+1)):=by
 unfold kS at hr
 subst F
 have ai:=H.rowC (i:=0) Z
 refine cb Tryz.func81 ?_
 refine sr (Ar Z (Mz Z (fw (vJ (W a)) (J4 (e:=a) (J3 Z) U) (fw (T (fA f (W a) 4 d) (X b - (W a)) (d - (W a))) (Kv (mi) Z Z U) (ns (Mz Z (Kz (vI 1) (An Z (JS (sr (Mz Z (Kz (Y O) (nt (jf (sk (sr (Mz Z (Kz (vJ (X b)) (An Z (JS (sr (fw (vJ (W a)) (J4 (e:=a) (J3 Z) U) ?_))))))))))))))))))))))
 refine Mz Z (Kz (Za (((W a:Nat):Int)=(X b:Int))) (nt ?_))
 by_cases h:((W a:Nat):Int)=(X b:Int)
 refine jT (dT h) (sr (Mz Z (Mz Z (WL.do Z (Kk (k:=X b) (m:=1) (mi) H Z Z (eO Q6 (di H (i:=1) Z lT) (cO aY.one ([c]))) Z U (s:=X (b++ [c])) f6 (u3).symm ?_)))))
 intro G I _ J
 have Z0:X (b++ [c])=X b+1:=by simp only [o3,q6,L0]
 refine An Z (rt (tR (rs ?_)))
 obtain rfl:=zj hr zq1
 exact⟨G,I,Z,(J.pk [0]),U⟩
 refine jF (dF h) (sk (JS (sr (Mz Z (Mz Z (fw (vJ (X b+1)) (J4 (e:=D3.wrap ((X b:Int)+1)) yk f4) (Mz Z (Kz (vJ d) (Kz (Za (((X b+1:Nat):Int) > (d:Int))) (nt ?_))))))))))
 by_cases z:((X b+1:Nat):Int) > (d:Int)
 refine jT (dT z) (sr (Mz Z (fw (vJ (W a)) (J4 (e:=a) (J3 Z) U) (fw (T f (W a) d) (KN (mi) Z Z U) (Mz Z (Mz Z (fw (vJ (X b+1)) (J4 (e:=D3.wrap ((X b:Int)+1)) yk f4) (fw (vJ (W a)) (J4 (e:=a) (J3 Z) U) (fw (vJ ((X b+1) - (W a))) (J4 (e:=D3.wrap (((X b+1:Nat):Int) - ((W a:Nat):Int))) yk f4) ?_)))))))))
 have aa:X (u2 (W a) b++(c::r8 (W a) b))=X b+1:=by simp only [o3,o1,q6,o2]; omega
 refine WL.do Z (KW (k:=W a) (m:=(X b+1) - (W a)) (mi) y6 H Z Z U U U Z U (s:=X (u2 (W a) b++(c::r8 (W a) b))) U ?_)
 intro j g _ _ A n
 have L:=n.rowLe (i:=0) Z
 refine Ar Z (Mz Z (fw (vJ (W a)) (J4 (e:=a) (J3 Z) U) (fw (T (fA j (W a) 4 g) ((X (u2 (W a) b++(c::r8 (W a) b))) - (W a)) (g - (W a))) (Kv (mi) Z Z U) (Mz Z (WL.do Z (KJ (lo:=W a) (k:=1) (mi) n Z (λ _=>ig ((n.rds (i:=0) Z).isSome U) U) U Z (di n (i:=2) Z lT) U (λ u hu=>cO aY.one _ u (M1 hu)) Z ?_))))))
 intro _ M
 refine nt (JS (yH [8] (J6 (J6 Kg)) M ?_))
 intro _ o
 refine qv 0 Z Z (qt (v:=vJ (W a)) 1 Z (λ _ _=>J4 (e:=a) (J3 Z) U) (qv 2 Z Z (qt (v:=vJ (W a+1)) 3 Z (λ _ _=>J4 (e:=D3.wrap (((W a:Nat):Int)+1)) yk f4) (qt (v:= T (fA j (W a+1) 4 g) ((X (u2 (W a) b++(c::r8 (W a) b))) - (W a+1)) (g - (W a+1))) 4 Z (λ _ _=>Kv (mi) Z Z U) (qv 5 Z Z (qt (v:=vJ (W a)) 6 Z (λ _ _=>J4 (e:=a) (J3 Z) U) (qt (v:= T (fA f (W a) 4 d) (X b - (W a)) (d - (W a))) 7 Z (λ _ _=>Kv (mi) Z Z U) (qd 8 Z (KJ (lo:=W a+1) (k:=X b - W a) (mi) o Z (λ _=>ig ((o.rds (i:=0) Z).isSome U) U) U Z (KP (lo:=W a) aY.len (o.rds (i:=1) Z) U U f7) U (λ u hu=>cO aY.one _ u (M1 hu)) Z ?_)))))))))
 intro Z5 Z6
 refine⟨.inl f1, (qn (JY (sr (Mz Z (An Z (rt (tR (rs ?_))))))))⟩
 have P:Own w D Z5 [row j (X (u2 (W a) b++(c::r8 (W a) b))) g (q1 aY.L (u2 (W a) b++(c::r8 (W a) b))) 100 4,row f (X b) d (q1 aY.L b) 100 4,mF C 1 (q1 aY.L ([c])) 100 4]:=Z6.rowPart U (uD (l:=b) (k2:=X b - W a) aY.len U A Z Z U)
 obtain rfl:=zj hr zq1
 exact⟨j,g,Z,(P.pk [0]),U⟩
 refine jF (dF z) (sk (sr ?_))
 have B:X (u2 (W a) b++(c::r8 (W a) b))=X b+1:=by simp only [o3,o1,q6,o2]; omega
 obtain⟨_,p,R⟩:=H.rowFull
 refine Mz Z (Mz Z (Mz Z (fw (vJ (X b+1)) (J4 (e:=D3.wrap ((X b:Int)+1)) yk f4) (fw (T f (X (u2 (W a) b++(c::r8 (W a) b))) d) (Yl.to (KN (mi) Z Z U) (ZX (λ q=>Value.slice f q d) B.symm)) (An Z (JS (sr (Mz Z (Mz Z (fw (vJ (W a)) (J4 (e:=a) (J3 Z) U) (Mz Z (fw (vJ (W a+1)) (J4 (e:=D3.wrap (((W a:Nat):Int)+1)) yk f4) (fw (T (fA f (W a+1) 4 d) ((X (u2 (W a) b++(c::r8 (W a) b))) - (W a+1)) (d - (W a+1))) (Kv (mi) Z Z U) ?_)))))))))))))
 have r:=R.pb [0]
 refine fw (Y O) (KY (lo:=W a+1) (run_callFunc_extern Tryz.func134 f1 f1 f1 (e:=Extern.SlicesOverlaps.overlaps #[75,75] #[4]) f1) Q6 Tryz.sizeOf100 r f7 U Z (ig ((r.rds (i:=1) Z).isSome U) U)) (Kz (Y Zj) (nt (jt (JS (oZ [8] (J6 (J6 Kg)) r ?_)))))
 intro _ S
 refine qv 0 Z Z (qt (v:=vJ (W a)) 1 Z (λ _ _=>J4 (e:=a) (J3 Z) U) (qv 2 Z Z (qt (v:=vJ (W a+1)) 3 Z (λ _ _=>J4 (e:=D3.wrap (((W a:Nat):Int)+1)) yk f4) (qt (v:= T (fA f (W a+1) 4 d) ((X (u2 (W a) b++(c::r8 (W a) b))) - (W a+1)) (d - (W a+1))) 4 Z (λ _ _=>Kv (mi) Z Z U) (qv 5 Z Z (qt (v:=vJ (W a)) 6 Z (λ _ _=>J4 (e:=a) (J3 Z) U) (qt (v:= T (fA f (W a) 4 d) ((X (u2 (W a) b++(c::r8 (W a) b))) - (W a)) (d - (W a))) 7 Z (λ _ _=>Kv (mi) Z Z U) ?_)))))))
 have t:=S.pb [0]
 refine qd 8 Z (KJ (lo:=W a+1) (k:=X b - W a) (mi) t Z (λ _=>ig ((t.rds (i:=0) Z).isSome U) U) U Z (bV.cut (lo:=W a) (hi:=X (u2 (W a) b++(c::r8 (W a) b))) (t.rds (i:=0) Z) U U U) U (λ u hu=>cO aY.one _ u (by rw [uE aY.len U Z U] at hu; exact hu)) Z ?_)
 intro _ x
 refine⟨.inl f1, (qn (JY (sr (Mz Z (fw (vJ (W a)) (J4 (e:=a) (J3 Z) U) (fw (T (fA f (W a) 4 d) ((X (u2 (W a) b++(c::r8 (W a) b))) - (W a)) (d - (W a))) (Kv (mi) Z Z U) (Mz Z (WL.do Z (KJ (lo:=W a) (k:=1) (mi) x Z (λ _=>ig ((x.rds (i:=0) Z).isSome U) U) U Z (di x (i:=1) Z lT) U (λ u hu=>cO aY.one _ u (M1 hu)) Z ?_)))))))))⟩
 intro Z7 Z3
 refine ns (Mz Z (An Z (rt (tR (rs ?_)))))
 have Z4:Own w D Z7 [row f (X (u2 (W a) b++(c::r8 (W a) b))) d (q1 aY.L (u2 (W a) b++(c::r8 (W a) b))) 100 4,mF C 1 (q1 aY.L ([c])) 100 4]:=Z3.rowPart U (uF (l:=b) (m:=(X (u2 (W a) b++(c::r8 (W a) b))) - W a) (k2:=X b - W a) aY.len U (by rw [p]; exact Q5 4 U) Z Z U U)
 obtain rfl:=zj hr zq1
 exact⟨f,d,Z,(Z4.pk [0]),U⟩
def sM (a:List bA):(List bA):=
 a
theorem rq (w D e g x a f) (H:Own w D w []) (d:Ro w D λ w'=>bV w' 2 e g (q1 bA.L a)) (h:g=X a) (y:X a *32<=211106232532992) (hr:sM a=f):
    Calls y3 34 #[T e g x] w (dI λ v w'=> ∃ t u,v= T t (X f) u/\Own w D w' [row t (X f) u (q1 bA.L f) 80 2]):=by
 subst h
 refine cb Tryz.func34 ?_
 refine sr (An Z (JS (sr (Mz Z (fw (Y (Option.isNone e)) (KZ Q4 Z Z) (nt ?_))))))
 rcases Nv (Option.isNone e) with b | b
 obtain rfl:a= []:=tu (enc:=bA.L) (H.ro d) b
 refine jT b (sr (An Z (rt (tR (rs ?_)))))
 have j:=(H.free (bW 80 2)).pf []
 obtain rfl:_=[]:=zj hr Z
 exact⟨Zk,0,Z,j⟩
 refine jF b (sk (sr (j6 [] 80 2 0 H ?_)))
 intro l n c
 replace c:=c
 refine Mz Z (WL.do Z (Kk (k:=0) (m:=X a) (kY) c Z Z (eO Q4 (c.ro d) (cO bA.one a)) Z U (s:=X a) U Z ?_))
 intro o p z q
 refine An Z (rt (rs ?_))
 obtain rfl:_=a:=zj hr Z
 exact⟨o,p,Z,(q.pf [])⟩
def qQ (a:List aQ):(List aQ):=
 a
theorem qf (w D e g x a f) (H:Own w D w []) (d:Ro w D λ w'=>bV w' 3 e g (q1 aQ.L a)) (h:g=X a) (y:X a *48<=211106232532992) (hr:qQ a=f):
    Calls y3 177 #[T e g x] w (dI λ v w'=> ∃ t u,v= T t (X f) u/\Own w D w' [row t (X f) u (q1 aQ.L f) 65 3]):=by
 subst h
 refine cb Tryz.func177 ?_
 refine sr (An Z (JS (sr (Mz Z (fw (Y (Option.isNone e)) (KZ F1 Z Z) (nt ?_))))))
 rcases Nv (Option.isNone e) with b | b
 obtain rfl:a= []:=tu (enc:=aQ.L) (H.ro d) b
 refine jT b (sr (An Z (rt (tR (rs ?_)))))
 have j:=(H.free (bW 65 3)).pf []
 obtain rfl:_=[]:=zj hr Z
 exact⟨Zk,0,Z,j⟩
 refine jF b (sk (sr (j6 [] 65 3 0 H ?_)))
 intro l n c
 replace c:=c
 refine Mz Z (WL.do Z (Kk (k:=0) (m:=X a) (vD) c Z Z (eO F1 (c.ro d) (cO aQ.one a)) Z U (s:=X a) U Z ?_))
 intro o p z q
 refine An Z (rt (rs ?_))
 obtain rfl:_=a:=zj hr Z
 exact⟨o,p,Z,(q.pf [])⟩
def ul (a:List Nat):(List Nat):=
 a
theorem sV (w D e g x a f) (H:Own w D w []) (d:Ro w D λ w'=>bV w' 1 e g (q1 (eN .u64) a)) (h:g=X a) (y:X a *8<=211106232532992) (hr:ul a=f):
    Calls y3 33 #[T e g x] w (dI λ v w'=> ∃ t u,v= T t (X f) u/\Own w D w' [row t (X f) u (q1 (eN .u64) f) 33 1]):=by
 subst h
 refine cb Tryz.func33 ?_
 refine sr (An Z (JS (sr (Mz Z (fw (Y (Option.isNone e)) (KZ P7 Z Z) (nt ?_))))))
 rcases Nv (Option.isNone e) with b | b
 obtain rfl:a= []:=tu (enc:=(eN .u64)) (H.ro d) b
 refine jT b (sr (An Z (rt (tR (rs ?_)))))
 have j:=(H.free (bW 33 1)).pf []
 obtain rfl:_=[]:=zj hr Z
 exact⟨Zk,0,Z,j⟩
 refine jF b (sk (sr (j6 [] 33 1 0 H ?_)))
 intro l n c
 replace c:=c
 refine Mz Z (WL.do Z (Kk (k:=0) (m:=X a) (jk) c Z Z (eO P7 (c.ro d) (cO nu a)) Z U (s:=X a) U Z ?_))
 intro o p z q
 refine An Z (rt (rs ?_))
 obtain rfl:_=a:=zj hr Z
 exact⟨o,p,Z,(q.pf [])⟩
def rM (a:List bF):(List bF):=
 a
theorem mY (w D e g x a f) (H:Own w D w []) (d:Ro w D λ w'=>bV w' 2 e g (q1 bF.L a)) (h:g=X a) (y:X a *24<=211106232532992) (hr:rM a=f):
    Calls y3 32 #[T e g x] w (dI λ v w'=> ∃ t u,v= T t (X f) u/\Own w D w' [row t (X f) u (q1 bF.L f) 83 2]):=by
 subst h
 refine cb Tryz.func32 ?_
 refine sr (An Z (JS (sr (Mz Z (fw (Y (Option.isNone e)) (KZ Q7 Z Z) (nt ?_))))))
 rcases Nv (Option.isNone e) with b | b
 obtain rfl:a= []:=tu (enc:=bF.L) (H.ro d) b
 refine jT b (sr (An Z (rt (tR (rs ?_)))))
 have j:=(H.free (bW 83 2)).pf []
 obtain rfl:_=[]:=zj hr Z
 exact⟨Zk,0,Z,j⟩
 refine jF b (sk (sr (j6 [] 83 2 0 H ?_)))
 intro l n c
 replace c:=c
 refine Mz Z (WL.do Z (Kk (k:=0) (m:=X a) (r9) c Z Z (eO Q7 (c.ro d) (cO bF.one a)) Z U (s:=X a) U Z ?_))
 intro o p z q
 refine An Z (rt (rs ?_))
 obtain rfl:_=a:=zj hr Z
 exact⟨o,p,Z,(q.pf [])⟩
def um (a:List aV):(List aV):=
 a
theorem fJ (w D e g x a f) (H:Own w D w []) (d:Ro w D λ w'=>bV w' 6 e g (q1 aV.L a)) (h:g=X a) (y:X a *80<=211106232532992) (hr:um a=f):
    Calls y3 35 #[T e g x] w (dI λ v w'=> ∃ t u,v= T t (X f) u/\Own w D w' [row t (X f) u (q1 aV.L f) 62 6]):=by
 subst h
 refine cb Tryz.func35 ?_
 refine sr (An Z (JS (sr (Mz Z (fw (Y (Option.isNone e)) (KZ Q8 Z Z) (nt ?_))))))
 rcases Nv (Option.isNone e) with b | b
 obtain rfl:a= []:=tu (enc:=aV.L) (H.ro d) b
 refine jT b (sr (An Z (rt (tR (rs ?_)))))
 have j:=(H.free (bW 62 6)).pf []
 obtain rfl:_=[]:=zj hr Z
 exact⟨Zk,0,Z,j⟩
 refine jF b (sk (sr (j6 [] 62 6 0 H ?_)))
 intro l n c
 replace c:=c
 refine Mz Z (WL.do Z (Kk (k:=0) (m:=X a) (nH) c Z Z (eO Q8 (c.ro d) (cO aV.one a)) Z U (s:=X a) U Z ?_))
 intro o p z q
 refine An Z (rt (rs ?_))
 obtain rfl:_=a:=zj hr Z
 exact⟨o,p,Z,(q.pf [])⟩
end
section
open Go.RowKit
theorem AC (d:List bA) (i j:Int) (h:0<=i/\i<=j):lY d i j=Zf (Zc i) d++Ze (Zc j) d:=by
 unfold lY
 by_cases c:i=j
 . rw [ip c,c,List.take_append_drop]
 . rw [iN c]
theorem AJ (w D A n c d l i j k) (x:bA) (H:Own w D w [row A n c (Zg bA.L d) 80 2,sepL (Zg Ky d)]) (hn:n=X l) (hd:Zh bA.abs d=l) (hl:X l<=1000000) (hk:i=((k:Nat):Int)) (hj:j=i+1) (hx:d[k]? =Zv x):
    Calls Tryz.prog 84 #[T A n c,vI i,vI j] w (dI λ v w'=> ∃ B b,v= T B (X (Zf k l++Ze (k+1) l)) b/\
      Own w D w' (row B (X (Zf k l++Ze (k+1) l)) b (Zg bA.L (Zf k d++Ze (k+1) d)) 80 2::sepL (Zg Ky (Zf k d++Ze (k+1) d))::Ky x)):=by
 obtain⟨a,e,_,bk,_⟩:=Kt H
 have hdl:X d=X l:=by rw [<- hd,List.length_map]
 have hkl:=(List.getElem?_eq_some_iff.1 hx).1
 have f:Zc i=k:=U
 have g:Zc j=k+1:=U
 refine(qO w a A n c d i j _ e U U U (AC d i j U)).mono ?_
 rintro _ w' ⟨v,rfl,B,b,rfl,HQ,_⟩
 rw [f,g,bf (oP (i:=k) (j:=k+1) hd)] at HQ ⊢
 have m:=Ct hx ((bk _ _ HQ).perm (List.Perm.swap _ _ _))
 exact⟨_,Z,B,b,Z,m.perm (List.perm_append_comm (l₁:=sepL (Zg Ky (Zf k d++Ze (k+1) d))::Ky x) (l₂:= [_]))⟩
theorem AL (d:List bA) (i:Int) (x:bA) (h:0<=i/\i<=(X d:Int)):lZ d i x=Zf (Zc i) d++(x::Ze (Zc i) d):=by
 unfold lZ
 by_cases c:((Zc i:Nat):Int)=(X d:Int)
 . rw [ip c,List.take_of_length_le U,List.drop_eq_nil_of_le U]
 . rw [iN c]
theorem AO (w D A n c d l i k a) (y:bA) (z:dG) (H:Own w D w (row A n c (Zg bA.L d) 80 2::mF a 1 (Zg bA.L [y]) 80 2::sepL (Zg Ky d)::Ky y)) (hn:n=X l) (hd:Zh bA.abs d=l) (hz:bA.abs y=z) (hl:X l<=1000000) (hk:i=((k:Nat):Int)) (hi:k<=X l):
    Calls Tryz.prog 181 #[T A n c,vI i, T a 1 1] w (dI λ v w'=> ∃ B b,v= T B (X (Zf k l++(z::Ze k l))) b/\
      Own w D w' [row B (X (Zf k l++(z::Ze k l))) b (Zg bA.L (Zf k d++(y::Ze k d))) 80 2,sepL (Zg Ky (Zf k d++(y::Ze k d)))]):=by
 obtain⟨e,f,_,bk,_⟩:=KE H
 have hdl:X d=X l:=by rw [<- hd,List.length_map]
 have g:Zc i=k:=U
 refine(qP w e A n c d i a y _ f U U U (AL d i y U)).mono ?_
 rintro _ w' ⟨v,rfl,B,b,rfl,HQ,_⟩
 rw [g,bf (kw (i:=k) hd hz)] at HQ ⊢
 have j:=(bk _ _ HQ).perm (List.perm_append_comm (l₁:= [_]) (l₂:=sepL (Zg Ky d)::Ky y))
 exact⟨_,Z,B,b,Z,(Cu j).perm (List.Perm.swap _ _ _)⟩
theorem y5 (d:List aY) (i j:Int) (h:0<=i/\i<=j):kR d i j=Zf (Zc i) d++Ze (Zc j) d:=by
 unfold kR
 by_cases c:i=j
 . rw [ip c,c,List.take_append_drop]
 . rw [iN c]
theorem uQ (w D A n c d l i j k) (x:aY) (H:Own w D w [row A n c (Zg aY.L d) 100 4,sepL (Zg Kq d)]) (hn:n=X l) (hd:Zh aY.abs d=l) (hl:X l<=1000000) (hk:i=((k:Nat):Int)) (hj:j=i+1) (hx:d[k]? =Zv x):
    Calls Tryz.prog 141 #[T A n c,vI i,vI j] w (dI λ v w'=> ∃ B b,v= T B (X (Zf k l++Ze (k+1) l)) b/\
      Own w D w' (row B (X (Zf k l++Ze (k+1) l)) b (Zg aY.L (Zf k d++Ze (k+1) d)) 100 4::sepL (Zg Kq (Zf k d++Ze (k+1) d))::Kq x)):=by
 obtain⟨a,e,_,bk,_⟩:=Kt H
 have hdl:X d=X l:=by rw [<- hd,List.length_map]
 have hkl:=(List.getElem?_eq_some_iff.1 hx).1
 have f:Zc i=k:=U
 have g:Zc j=k+1:=U
 refine(pq w a A n c d i j _ e U U U (y5 d i j U)).mono ?_
 rintro _ w' ⟨v,rfl,B,b,rfl,HQ,_⟩
 rw [f,g,bf (oP (i:=k) (j:=k+1) hd)] at HQ ⊢
 have m:=Ct hx ((bk _ _ HQ).perm (List.Perm.swap _ _ _))
 exact⟨_,Z,B,b,Z,m.perm (List.perm_append_comm (l₁:=sepL (Zg Kq (Zf k d++Ze (k+1) d))::Kq x) (l₂:= [_]))⟩
theorem y7 (d:List aY) (i:Int) (x:aY) (h:0<=i/\i<=(X d:Int)):kS d i x=Zf (Zc i) d++(x::Ze (Zc i) d):=by
 unfold kS
 by_cases c:((Zc i:Nat):Int)=(X d:Int)
 . rw [ip c,List.take_of_length_le U,List.drop_eq_nil_of_le U]
 . rw [iN c]
theorem y8 (w D A n c d l i k a) (y:aY) (z:bK) (H:Own w D w (row A n c (Zg aY.L d) 100 4::mF a 1 (Zg aY.L [y]) 100 4::sepL (Zg Kq d)::Kq y)) (hn:n=X l) (hd:Zh aY.abs d=l) (hz:aY.abs y=z) (hl:X l<=1000000) (hk:i=((k:Nat):Int)) (hi:k<=X l):
    Calls Tryz.prog 81 #[T A n c,vI i, T a 1 1] w (dI λ v w'=> ∃ B b,v= T B (X (Zf k l++(z::Ze k l))) b/\
      Own w D w' [row B (X (Zf k l++(z::Ze k l))) b (Zg aY.L (Zf k d++(y::Ze k d))) 100 4,sepL (Zg Kq (Zf k d++(y::Ze k d)))]):=by
 obtain⟨e,f,_,bk,_⟩:=KE H
 have hdl:X d=X l:=by rw [<- hd,List.length_map]
 have g:Zc i=k:=U
 refine(pu w e A n c d i a y _ f U U U (y7 d i y U)).mono ?_
 rintro _ w' ⟨v,rfl,B,b,rfl,HQ,_⟩
 rw [g,bf (kw (i:=k) hd hz)] at HQ ⊢
 have j:=(bk _ _ HQ).perm (List.perm_append_comm (l₁:= [_]) (l₂:=sepL (Zg Kq d)::Kq y))
 exact⟨_,Z,B,b,Z,(Cu j).perm (List.Perm.swap _ _ _)⟩
theorem Ep (w D A n c d l k) (H:Own w D w [row A n c (Zg aQ.L d) 65 3,sepL (Zg Kl d)]) (hn:n=X l) (hd:Zh aQ.abs d=l) (hl:X l<=1000000) (hk:k<=X l) (hc:n<=c):
    Calls Tryz.prog 177 #[T (fA A k 3 c) (n - k) (c - k)] w (dI λ v w'=> ∃ B b,v= T B (X (Ze k l)) b/\
      Own w D w' [row B (X (Ze k l)) b (Zg aQ.L (Ze k d)) 65 3,sepL (Zg Kl (Ze k d))]):=by
 obtain⟨a,e,_,bk,rr⟩:=JZ H
 have hdl:X d=X l:=by rw [<- hd,List.length_map]
 have f:X (Ze k d)=X (Ze k l):=by rw [List.length_drop,List.length_drop,hdl]
 refine(qf w a (fA A k 3 c) (n - k) (c - k) (Ze k d) (Ze k d) e (λ g h=>KP (lo:=k) aQ.len ((rr _ 0 _ Z bB) g h) U U f7) (by rw [List.length_drop]; omega) (by rw [List.length_drop]; omega) Z).mono ?_
 rintro _ w' ⟨v,rfl,B,b,rfl,HQ⟩
 rw [f] at HQ ⊢
 exact⟨_,Z,B,b,Z,(((bk _ _ HQ).pick [2,0] f7 Z).sepDel (i:=0) (j:=k) (Nt k)).pk [1,0]⟩
end
section
open Go.RowKit
section
variable {P:Program} {n:Nat} {F:List (Nat × ZQ)} {w0 w:ZZ} {D:Nat->Prop} {L:List HP} {ty:TypeId} {v:ZQ} {K:ZQ->ZZ->Prop}
theorem Mh {rx:Operand} {nm:String} {f:FuncId} {args:List Operand} {vals:List ZQ} {t:TypeId} {u:ZQ} {tys:Array TypeId} {R:ZQ->ZZ->Prop} (hm:∀ (b:Array ZQ) Z8,(callMethod (.iface t u) nm b).run P Z8= .ok (.enter f (#[u]++b)) Z8) (hx:ev F rx=Zv (.iface t u)) (ha:wS F args=Zv vals) (hc:Calls P f (#[u]++vals.toArray) w (dI R))
    (h:∀ v w',R v w'->K v w'):Do P n F w (.call ⟨.invoke rx nm,args.toArray,tys⟩) ty K:=λ a hag o c g next Q hn=>by
  have e:(execOp a.eval o).run P w= .ok (.enter f (#[u]++vals.toArray)) w:=by
    unfold execOp
    rw [c]
    have ex:(#[Value.iface t u]++vals.toArray).extract 1 (#[Value.iface t u]++vals.toArray).size=vals.toArray:=by simp
    have d:(#[Value.iface t u]++vals.toArray)[0]? =Zv (Value.iface t u):=by simp
    simp only [resolve,hag.eval hx,List.map_toArray,hag.evals ha,Sem.run_bind,Sem.run_pure,Result.andThen_ok,invoke,d,ex,hm]
  rw [e,Oper.upon_enter]
  exact hc.mono λ e w' hR=>by
    obtain⟨v,rfl,hk⟩:=hR
    exact hn _ _ (h _ _ hk)
end
theorem Hq (g:Nat) (b:Array ZQ) (Z8:ZZ):(callMethod (.iface 27 (Zz (Zv ⟨g,0,Zk⟩))) "Get" b).run Tryz.prog Z8= .ok (.enter 251 (#[Zz (Zv ⟨g,0,Zk⟩)]++b)) Z8:=by kernel_rfl
theorem Gd (g:Nat) (b:Array ZQ) (Z8:ZZ):(callMethod (.iface 27 (Zz (Zv ⟨g,0,Zk⟩))) "Scan" b).run Tryz.prog Z8= .ok (.enter 252 (#[Zz (Zv ⟨g,0,Zk⟩)]++b)) Z8:=by kernel_rfl
end
open IntKind renaming u64->H3
open List renaming getElem?_eq_getElem->p3,mem_cons->v1,not_mem_nil->y2
open Sum renaming inl->G0,inr->G1
open _root_.Go.Proofs.Tryz renaming isAgg100->S1,isAgg33->E0,isAgg34->R8,isAgg35->D4,isAgg38->C6,isAgg44->Q9,isAgg62->C1,isAgg75->S3,isAgg80->R6,isAgg9->B9,sizeOf100->S2,sizeOf36->R9,sizeOf38->C5,sizeOf42->S0,sizeOf62->C0,sizeOf80->R7,underlying33->E1,underlying38->C4,underlying9->B3
open WL renaming nil->G2
open Wp renaming exit->H0,loop->G3
section
open Go.RowKit
structure aB where q::
 a:bH
 b:Ll bK
abbrev kB (a:aB)(A:Option Addr)(n c:Nat)(B:Option Addr)(k d:Nat)(C:Option Addr)(m e l y:Nat)(E:Option Addr)(i u z:Nat):List ZQ:=[.int .i64 a.a.r, .int .u64 ((a.a.y:Nat):Int), .int .u64 ((a.a.u:Nat):Int), .int .u64 ((a.a.z:Nat):Int), .int .u64 ((a.a.k:Nat):Int), T A n c, T B k d, T C m e, .int .u64 ((l:Nat):Int), .int .u64 ((a.a.B:Nat):Int), Z9 ⟨Zb a.a.s.a⟩, Z9 ⟨Zb a.a.s.b⟩, .int .u64 ((a.a.a.k:Nat):Int), .int .u64 ((a.a.a.s:Nat):Int), .int .u64 ((a.a.a.a:Nat):Int), Z9 ⟨Zb a.a.a.j.a⟩, Z9 ⟨Zb a.a.a.j.b⟩, .iface 27 (Zz (Zv ⟨y,0,Zk⟩)), T E i u, Zz (Zv ⟨z,0,Zk⟩), Zz Zk]
instance:Inhabited aB:=⟨⟨Zy,Zy⟩⟩
theorem qC:Elem y3 50 47 21 232:=mV (z:= Zq (Zb (fT 0 0 0 0 0 0 0 0 0 0 0 0 0 0 0 O [] [] Zk 0 0 Zk 0 0 Zk 0 0))) Tryz.underlying50 f1 Z f7
structure pz where q::
 b:Sv bM
 a:Sv aV
 g:Bool
def pz.L (x:pz):List ZQ:= [T x.b.A (X x.b.a) x.b.c, T x.a.A (X x.a.a) x.a.c, Y x.g]
instance:Bk pz:=⟨λ x _=>bk x.b+(bk x.a+(bk x.g+(0)))⟩
theorem pz.len:∀ x,X (pz.L x)=3:=λ _=>rfl
theorem pz.one:∀ x, ∀ u ∈ pz.L x,u.oneCell'=Zj:=λ x u hu=>by
 simp only [pz.L,v1,y2,or_false] at hu
 rcases hu with rfl | rfl | rfl <;> rfl
def Nk (w:ZZ) (x:pz):Prop:=(nK w 21 232 bM.L (LX w) x.b)/\(nK w 6 80 aV.L (LK w) x.a)/\(True)
instance:Inhabited pz:=⟨⟨Zy,Zy,Zy⟩⟩
structure bY where q::
 b:Ll cz
 a:Ll aV
 g:Bool
instance:Inhabited bY:=⟨⟨Zy,Zy,Zy⟩⟩
def pz.abs (x:pz):bY:=⟨⟨s0 bM.abs x.b.a⟩,⟨x.a.a⟩,x.g⟩
def Nh (x:pz):List HP:= [row x.b.A (X x.b.a) x.b.c (q1 bM.L x.b.a) 47 21,row x.a.A (X x.a.a) x.a.c (q1 aV.L x.a.a) 62 6,sepL (q1 Km x.b.a)]
theorem Er:Elem y3 90 211 2 16:=mV (z:= Zq #[.int .u64 0, Y O]) Tryz.underlying90 f1 Z f7
structure dC where q::
 a:Nat
 g:Bool
def dC.L (x:dC):List ZQ:= [.int .u64 ((x.a:Nat):Int), Y x.g]
instance:Bk dC:=⟨λ x _=>bk x.a+(bk x.g+(0))⟩
theorem dC.len:∀ x,X (dC.L x)=2:=λ _=>rfl
theorem dC.one:∀ x, ∀ u ∈ dC.L x,u.oneCell'=Zj:=λ x u hu=>by
 simp only [dC.L,v1,y2,or_false] at hu
 rcases hu with rfl | rfl <;> rfl
def Nl (w:ZZ) (x:dC):Prop:=(x.a<=18446744073709551615)/\(True)
instance:Inhabited dC:=⟨⟨Zy,Zy⟩⟩
structure bD where q::
 a:bY
 b:Ll dC
instance:Inhabited bD:=⟨⟨Zy,Zy⟩⟩
def eY (l1:List bF):List bF->Nat->Unit ⊕ Bool
  | [],b=>G0 ()
  | c::d,b=>bnd (J0 l1 b Zy) λ a=>if(c.a=a.a)/\(c.b=a.b) then eY l1 d (b+1) else G1 (O)
def jD (a:List bF) (l1:List bF):Bool:=
 if((X a:Nat):Int)=((X l1:Nat):Int) then lp (eY l1 a 0) λ _=>Zj else O
theorem qK (w D r B C b s E F l1 P) (H:Own w D w []) (n:Ro w D λ w'=>bV w' 2 r B (q1 bF.L b)) (G:B=X b) (R:X b<=9223372036854775807) (t:Ro w D λ w'=>bV w' 2 s E (q1 bF.L l1)) (I:E=X l1) (S:X l1<=9223372036854775807) (hr:jD b l1=P):
    Calls y3 51 #[T r B C, T s E F] w (dI λ v w'=>v= Y P/\Own w D w' []):=by
 unfold jD at hr
 subst G I
 refine cb Tryz.func51 ?_
 refine sr (An Z (JS (sr (Mz Z (Kz (vJ (X b)) (Mz Z (Kz (vJ (X l1)) (fw (Za (¬ ((X b:Int)=(X l1:Int)))) (Kc (e:= !(Zw ((X b:Int)=(X l1:Int)))) yk ZW) (nt ?_)))))))))
 by_cases f:(X b:Int)=(X l1:Int)
 refine jF (dF (Nu f)) (sk (JS (sr (Mz Z (Kz (vJ (X b)) (Mn Z (bo ?_)))))))
 have J:=H.pk []
 obtain⟨K,g⟩:=nI λ (a:Nat) w'=>Own w D w' []/\a<=X b/\eY l1 b 0=eY l1 (r8 a b) a
 refine G3 (λ i:Nat=> [(4, Y O),(13,vJ i),(12,vJ (X b)),(0, T r (X b) C),(1, T s (X l1) F)]) K (λ i=>X b - i) 0 ⟨Z,Z,Z,Z,Z,ZV⟩ (g.2 ⟨J,U,Z⟩) ?_
 rintro a Z7 x
 show Wp _ _ _ [(4, Y O),(13,vJ a),(12,vJ (X b)),(0, T r (X b) C),(1, T s (X l1) F)] _ _
 obtain⟨o,Q,h⟩:=g.1 x
 refine sr (Kz (Za ((a:Int) < (X b:Int))) (nt (JS ?_)))
 by_cases y:(a:Int) < (X b:Int)
 obtain⟨c,l⟩:=dM (ls:=b) (i:=a) bF.len f7 (o.ro n) f5
 have m:=drop_at l
 refine jT (dT y) (sk (JS (bo (sr (Mz Z (An Z (JS ?_)))))))
 refine A8 [] (J6 (bJ.block (J6 (J6 (bJ.block (J6 Kg)))))) o ?_
 intro Z3 z
 refine qv 0 Z Z (qv 1 Z Z (qt (v:= Zz (Zv ⟨ab r,ao r+a *2,Zk⟩)) 2 Z (λ _ ⟨_,p⟩=>J9 (r9) Z Z ((p.ro n).addr (i:=a) U) U) (qt (v:= Zq (Zb (bF.L c))) 3 Z (λ _ ⟨_,p⟩=>J5 Z (J7 (cs:=(bF.L c)) Tryz.isAgg83 Tryz.sizeOf83 ((p.ro n).elem bF.len l f7))) (qv 4 Z Z (qv 5 Z Z ?_)))))
 obtain⟨d,j⟩:=mK (ls:=l1) (i:=a) f5
 refine qt (v:= Zz (Zv ⟨ab s,ao s+a *2,Zk⟩)) 6 Z (λ _ ⟨_,p⟩=>J9 (r9) Z Z ((p.ro t).addr (i:=a) U) U) (qt (v:= Zq (Zb (bF.L d))) 7 Z (λ _ ⟨_,p⟩=>J5 Z (J7 (cs:=(bF.L d)) Tryz.isAgg83 Tryz.sizeOf83 ((p.ro t).elem bF.len j f7))) (qt (v:= Za (¬ ((c.a=d.a)/\(c.b=d.b)))) 8 Z (λ _ _=>Kc (e:= !(Zw ((c.a=d.a)/\(c.b=d.b)))) (KL Z Z f1 Z (fK.struct Tryz.underlying83 f1 (KI (eH.cons (u:= Z9 ⟨Zb c.a⟩) (v:= Z9 ⟨Zb d.a⟩) f7 ZY ZY (fK.string B3) (eH.cons (u:=vI c.b) (v:=vI d.b) f7 ZY ZY (fK.int y6) (eH.nil.up (Nt _)))) ((ZX (Zw (c.a=d.a) && ·) jB).trans eT)))) ZW) (qn (JY ?_))))
 by_cases k:(c.a=d.a)/\(c.b=d.b)
 refine jF (dF (Nu k)) (Ko (bN (JY (JW (fw (vJ (a+1)) (J4 (e:=D3.wrap ((a:Int)+1)) yk f4) (Mz Z (G2 ?_)))))))
 have L:=z.pk []
 exact Kb (a+1) ⟨Z,Z,Z,Z,Z,ZV⟩ (g.2 ⟨L,U,V (h) (V (ZX (λ q=>eY l1 q a) m) (V (ae (bG j)) (ip k)))⟩) (by show X b - (a+1) < X b - a; omega)
 refine jT (dT k) (sr (An Z (rt (bR (tR (tR (bR (tR (rs ?_)))))))))
 have M:=z.pk []
 obtain rfl:_=O:=zj hr (V (ip f) (iX (V (h) (V (ZX (λ q=>eY l1 q a) m) (V (ae (bG j)) (iN k))))))
 exact⟨Z,M⟩
 refine jF (dF y) (H0 (Ka ?_))
 have A:eY l1 b 0=G0 ():=V (h) (V (ZX (λ q=>eY l1 q a) (eU (ls:=b) (i:=a) U)) Z)
 refine Ka (Kh (JY (sr (An Z (rt (rs ?_))))))
 have Z5:=o.pk []
 obtain rfl:_=Zj:=zj hr (V (ip f) (kH A))
 exact⟨Z,Z5⟩
 refine jT (dT f) (sr (An Z (rt (tR (rs ?_)))))
 have Z6:=H.pk []
 obtain rfl:=zj hr zq1
 exact⟨Z,Z6⟩
def gu (l1:List Nat):List Nat->Nat->Unit ⊕ Bool
  | [],a=>G0 ()
  | c::d,a=>bnd (J0 l1 a Zy) λ b=>if((c:Nat):Int)=((b:Nat):Int) then gu l1 d (a+1) else G1 (O)
def kC (a:List Nat) (l1:List Nat):Bool:=
 if((X a:Nat):Int)=((X l1:Nat):Int) then lp (gu l1 a 0) λ _=>Zj else O
theorem sW (w D s B C b t E F l1 P) (H:Own w D w []) (o:Ro w D λ w'=>bV w' 1 s B (q1 (eN .u64) b)) (G:B=X b) (R:X b<=9223372036854775807) (u:Ro w D λ w'=>bV w' 1 t E (q1 (eN .u64) l1)) (I:E=X l1) (S:X l1<=9223372036854775807) (hr:kC b l1=P):
    Calls y3 52 #[T s B C, T t E F] w (dI λ v w'=>v= Y P/\Own w D w' []):=by
 unfold kC at hr
 subst G I
 refine cb Tryz.func52 ?_
 refine sr (An Z (JS (sr (Mz Z (Kz (vJ (X b)) (Mz Z (Kz (vJ (X l1)) (fw (Za (¬ ((X b:Int)=(X l1:Int)))) (Kc (e:= !(Zw ((X b:Int)=(X l1:Int)))) yk ZW) (nt ?_)))))))))
 by_cases c:(X b:Int)=(X l1:Int)
 refine jF (dF (Nu c)) (sk (JS (sr (Mz Z (Kz (vJ (X b)) (Mn Z (bo ?_)))))))
 have J:=H.pk []
 obtain⟨K,d⟩:=nI λ (a:Nat) w'=>Own w D w' []/\a<=X b/\gu l1 b 0=gu l1 (r8 a b) a
 refine G3 (λ i:Nat=> [(4, Y O),(13,vJ i),(12,vJ (X b)),(0, T s (X b) C),(1, T t (X l1) F)]) K (λ i=>X b - i) 0 ⟨Z,Z,Z,Z,Z,ZV⟩ (d.2 ⟨J,U,Z⟩) ?_
 rintro a Z7 x
 show Wp _ _ _ [(4, Y O),(13,vJ a),(12,vJ (X b)),(0, T s (X b) C),(1, T t (X l1) F)] _ _
 obtain⟨p,Q,f⟩:=d.1 x
 refine sr (Kz (Za ((a:Int) < (X b:Int))) (nt (JS ?_)))
 by_cases y:(a:Int) < (X b:Int)
 obtain⟨h,m⟩:=dM (ls:=b) (i:=a) iQ f7 (p.ro o) f5
 have n:=drop_at m
 refine jT (dT y) (sk (JS (bo (sr (Mz Z (An Z (JS ?_)))))))
 refine A8 [] (J6 (bJ.block (J6 (J6 (bJ.block (J6 Kg)))))) p ?_
 intro Z3 z
 refine qv 0 Z Z (qv 1 Z Z (qt (v:= Zz (Zv ⟨ab s,ao s+a *1,Zk⟩)) 2 Z (λ _ ⟨_,r⟩=>J9 (jk) Z Z ((r.ro o).addr (i:=a) U) U) (qt (v:=vU h) 3 Z (λ _ ⟨_,r⟩=>J5 Z (bO.one E0 (((r.ro o).elem iQ m f7).at_ (k:=0) Z))) (qv 4 Z Z (qv 5 Z Z ?_)))))
 obtain⟨j,g⟩:=mK (ls:=l1) (i:=a) f5
 refine qt (v:= Zz (Zv ⟨ab t,ao t+a *1,Zk⟩)) 6 Z (λ _ ⟨_,r⟩=>J9 (jk) Z Z ((r.ro u).addr (i:=a) U) U) (qt (v:=vU j) 7 Z (λ _ ⟨_,r⟩=>J5 Z (bO.one E0 (((r.ro u).elem iQ g f7).at_ (k:=0) Z))) (qt (v:= Za (¬ ((h:Int)=(j:Int)))) 8 Z (λ _ _=>Kc (e:= !(Zw ((h:Int)=(j:Int)))) yk ZW) (qn (JY ?_))))
 by_cases l:(h:Int)=(j:Int)
 refine jF (dF (Nu l)) (Ko (bN (JY (JW (fw (vJ (a+1)) (J4 (e:=D3.wrap ((a:Int)+1)) yk f4) (Mz Z (G2 ?_)))))))
 have L:=z.pk []
 exact Kb (a+1) ⟨Z,Z,Z,Z,Z,ZV⟩ (d.2 ⟨L,U,V (f) (V (ZX (λ q=>gu l1 q a) n) (V (ae (bG g)) (ip l)))⟩) (by show X b - (a+1) < X b - a; omega)
 refine jT (dT l) (sr (An Z (rt (bR (tR (tR (bR (tR (rs ?_)))))))))
 have M:=z.pk []
 obtain rfl:_=O:=zj hr (V (ip c) (iX (V (f) (V (ZX (λ q=>gu l1 q a) n) (V (ae (bG g)) (iN l))))))
 exact⟨Z,M⟩
 refine jF (dF y) (H0 (Ka ?_))
 have A:gu l1 b 0=G0 ():=V (f) (V (ZX (λ q=>gu l1 q a) (eU (ls:=b) (i:=a) U)) Z)
 refine Ka (Kh (JY (sr (An Z (rt (rs ?_))))))
 have Z5:=p.pk []
 obtain rfl:_=Zj:=zj hr (V (ip c) (kH A))
 exact⟨Z,Z5⟩
 refine jT (dT c) (sr (An Z (rt (tR (rs ?_)))))
 have Z6:=H.pk []
 obtain rfl:=zj hr zq1
 exact⟨Z,Z6⟩
def gy (l1:List aV):List aV->Nat->Unit ⊕ Bool
  | [],c=>G0 ()
  | b::d,c=>bnd (J0 l1 c Zy) λ a=>if(b.g=a.g)/\(b.j=a.j)/\(b.k=a.k)/\(b.a=a.a)/\(b.b=a.b)/\(b.r=a.r) then gy l1 d (c+1) else G1 (O)
def kD (a:List aV) (l1:List aV):Bool:=
 if((X a:Nat):Int)=((X l1:Nat):Int) then lp (gy l1 a 0) λ _=>Zj else O
theorem sZ (w D r B C d s E F l1 P) (H:Own w D w []) (n:Ro w D λ w'=>bV w' 6 r B (q1 aV.L d)) (G:B=X d) (R:X d<=9223372036854775807) (t:Ro w D λ w'=>bV w' 6 s E (q1 aV.L l1)) (I:E=X l1) (S:X l1<=9223372036854775807) (hr:kD d l1=P):
    Calls y3 50 #[T r B C, T s E F] w (dI λ v w'=>v= Y P/\Own w D w' []):=by
 unfold kD at hr
 subst G I
 refine cb Tryz.func50 ?_
 refine sr (An Z (JS (sr (Mz Z (Kz (vJ (X d)) (Mz Z (Kz (vJ (X l1)) (fw (Za (¬ ((X d:Int)=(X l1:Int)))) (Kc (e:= !(Zw ((X d:Int)=(X l1:Int)))) yk ZW) (nt ?_)))))))))
 by_cases f:(X d:Int)=(X l1:Int)
 refine jF (dF (Nu f)) (sk (JS (sr (Mz Z (Kz (vJ (X d)) (Mn Z (bo ?_)))))))
 have J:=H.pk []
 obtain⟨K,g⟩:=nI λ (c:Nat) w'=>Own w D w' []/\c<=X d/\gy l1 d 0=gy l1 (r8 c d) c
 refine G3 (λ i:Nat=> [(4, Y O),(13,vJ i),(12,vJ (X d)),(0, T r (X d) C),(1, T s (X l1) F)]) K (λ i=>X d - i) 0 ⟨Z,Z,Z,Z,Z,ZV⟩ (g.2 ⟨J,U,Z⟩) ?_
 rintro c Z7 x
 show Wp _ _ _ [(4, Y O),(13,vJ c),(12,vJ (X d)),(0, T r (X d) C),(1, T s (X l1) F)] _ _
 obtain⟨o,Q,h⟩:=g.1 x
 refine sr (Kz (Za ((c:Int) < (X d:Int))) (nt (JS ?_)))
 by_cases y:(c:Int) < (X d:Int)
 obtain⟨a,l⟩:=dM (ls:=d) (i:=c) aV.len f7 (o.ro n) f5
 have m:=drop_at l
 refine jT (dT y) (sk (JS (bo (sr (Mz Z (An Z (JS ?_)))))))
 refine A8 [] (J6 (bJ.block (J6 (J6 (bJ.block (J6 Kg)))))) o ?_
 intro Z3 z
 refine qv 0 Z Z (qv 1 Z Z (qt (v:= Zz (Zv ⟨ab r,ao r+c *6,Zk⟩)) 2 Z (λ _ ⟨_,p⟩=>J9 (nH) Z Z ((p.ro n).addr (i:=c) U) U) (qt (v:= Zq (Zb (aV.L a))) 3 Z (λ _ ⟨_,p⟩=>J5 Z (J7 (cs:=(aV.L a)) C1 C0 ((p.ro n).elem aV.len l f7))) (qv 4 Z Z (qv 5 Z Z ?_)))))
 obtain⟨b,j⟩:=mK (ls:=l1) (i:=c) f5
 refine qt (v:= Zz (Zv ⟨ab s,ao s+c *6,Zk⟩)) 6 Z (λ _ ⟨_,p⟩=>J9 (nH) Z Z ((p.ro t).addr (i:=c) U) U) (qt (v:= Zq (Zb (aV.L b))) 7 Z (λ _ ⟨_,p⟩=>J5 Z (J7 (cs:=(aV.L b)) C1 C0 ((p.ro t).elem aV.len j f7))) (qt (v:= Za (¬ ((a.g=b.g)/\(a.j=b.j)/\(a.k=b.k)/\(a.a=b.a)/\(a.b=b.b)/\(a.r=b.r)))) 8 Z (λ _ _=>Kc (e:= !(Zw ((a.g=b.g)/\(a.j=b.j)/\(a.k=b.k)/\(a.a=b.a)/\(a.b=b.b)/\(a.r=b.r)))) (KL Z Z f1 Z (fK.struct Tryz.underlying62 f1 (KI (eH.cons (u:=vI a.g) (v:=vI b.g) f7 ZY ZY (fK.int y6) (eH.cons (u:= Z9 ⟨Zb a.j⟩) (v:= Z9 ⟨Zb b.j⟩) f7 ZY ZY (fK.string B3) (eH.cons (u:= Z9 ⟨Zb a.k⟩) (v:= Z9 ⟨Zb b.k⟩) f7 ZY ZY (fK.string B3) (eH.cons (u:= Z9 ⟨Zb a.a⟩) (v:= Z9 ⟨Zb b.a⟩) f7 ZY ZY (fK.string B3) (eH.cons (u:= Z9 ⟨Zb a.b⟩) (v:= Z9 ⟨Zb b.b⟩) f7 ZY ZY (fK.string B3) (eH.cons (u:=vI a.r) (v:=vI b.r) f7 ZY ZY (fK.int y6) (eH.nil.up (Nt _)))))))) ((ZX (Zw (a.g=b.g) && ·) ((ZX (Zw (a.j=b.j) && ·) ((ZX (Zw (a.k=b.k) && ·) ((ZX (Zw (a.a=b.a) && ·) ((ZX (Zw (a.b=b.b) && ·) jB).trans eT)).trans eT)).trans eT)).trans eT)).trans eT)))) ZW) (qn (JY ?_))))
 by_cases k:(a.g=b.g)/\(a.j=b.j)/\(a.k=b.k)/\(a.a=b.a)/\(a.b=b.b)/\(a.r=b.r)
 refine jF (dF (Nu k)) (Ko (bN (JY (JW (fw (vJ (c+1)) (J4 (e:=D3.wrap ((c:Int)+1)) yk f4) (Mz Z (G2 ?_)))))))
 have L:=z.pk []
 exact Kb (c+1) ⟨Z,Z,Z,Z,Z,ZV⟩ (g.2 ⟨L,U,V (h) (V (ZX (λ q=>gy l1 q c) m) (V (ae (bG j)) (ip k)))⟩) (by show X d - (c+1) < X d - c; omega)
 refine jT (dT k) (sr (An Z (rt (bR (tR (tR (bR (tR (rs ?_)))))))))
 have M:=z.pk []
 obtain rfl:_=O:=zj hr (V (ip f) (iX (V (h) (V (ZX (λ q=>gy l1 q c) m) (V (ae (bG j)) (iN k))))))
 exact⟨Z,M⟩
 refine jF (dF y) (H0 (Ka ?_))
 have A:gy l1 d 0=G0 ():=V (h) (V (ZX (λ q=>gy l1 q c) (eU (ls:=d) (i:=c) U)) Z)
 refine Ka (Kh (JY (sr (An Z (rt (rs ?_))))))
 have Z5:=o.pk []
 obtain rfl:_=Zj:=zj hr (V (ip f) (kH A))
 exact⟨Z,Z5⟩
 refine jT (dT f) (sr (An Z (rt (tR (rs ?_)))))
 have Z6:=H.pk []
 obtain rfl:=zj hr zq1
 exact⟨Z,Z6⟩
def nS (b:dG) (c:dG):Bool:=
 if((b.r:Nat):Int)=((c.r:Nat):Int) then bnd (kD b.a.a c.a.a) λ a=>a else O
theorem wY (w D) (f:dG) (b i c) (g:dG) (d j e G) (H:Own w D w []) (m:i=X f.a.a) (n:Ro w D λ w'=>bV w' 6 b (X f.a.a) (q1 aV.L f.a.a)) (z:X f.a.a<=c/\X f.a.a<=9223372036854775807) (o:j=X g.a.a) (p:Ro w D λ w'=>bV w' 6 d (X g.a.a) (q1 aV.L g.a.a)) (A:X g.a.a<=e/\X g.a.a<=9223372036854775807) (hr:nS f g=G):
    Calls y3 49 #[Zq #[vU f.r, T b i c], Zq #[vU g.r, T d j e]] w (dI λ v w'=>v= Y G/\Own w D w' []):=by
 unfold nS at hr
 subst m o
 refine cb Tryz.func49 ?_
 refine sr ?_
 refine cB [vU f.r, T b (X f.a.a) c] 80 H ?_
 intro s J B
 refine cB [vU g.r, T d (X g.a.a) e] 80 B ?_
 intro t K h
 refine Ar Z (Kz (vP s 0) (Lz (vU f.r) h 1 E0 (Kz (vP t 0) (Lz (vU g.r) h 0 E0 (Kz (Za ((f.r:Int)=(g.r:Int))) (Mz Z ?_))))))
 by_cases a:(f.r:Int)=(g.r:Int)
 refine Gz (vP s 1) (dT a) (Gl (T b (X f.a.a) c) (dT a) h 1 Q9 (Gz (vP t 1) (dT a) (Gl (T d (X g.a.a) e) (dT a) h 0 Q9 ?_)))
 obtain⟨r,k⟩:∃ q,kD f.a.a g.a.a=q:=⟨_,Z⟩
 obtain⟨L,u,l,x,I⟩:=JZ h
 refine oI (dT a) Tryz.call50 (sZ _ _ b (X f.a.a) c f.a.a d (X g.a.a) e g.a.a r u (l _ n) Z U (l _ p) Z U k) ?_
 rintro _ M ⟨rfl,y⟩
 have C:=x _ _ y
 refine fw (Y r) (JX Z (dT a) Z) (An Z (rt (rs ?_)))
 have E:=C.pk []
 obtain rfl:=zj hr zq2
 exact⟨Z,E⟩
 refine Sz (dF a) (Sz (dF a) (Sz (dF a) (Sz (dF a) (Sz (dF a) (fw (Y O) (JU Z (dF a) Z) (An Z (rt (rs ?_))))))))
 have F:=h.pk []
 obtain rfl:=zj hr zq1
 exact⟨Z,F⟩
def dH (l1:List dG):List dG->Nat->Unit ⊕ Bool
  | [],b=>G0 ()
  | c::e,b=>bnd (J0 l1 b Zy) λ a=>bnd (nS (dG.q c.r (N c.a.a)) (dG.q a.r (N a.a.a))) λ d=>if d=Zj then dH l1 e (b+1) else G1 (O)
def gG (a:List dG) (l1:List dG):Bool:=
 if((X a:Nat):Int)=((X l1:Nat):Int) then lp (dH l1 a 0) λ _=>Zj else O
theorem mQ (w D C Z7 Z3 d0 f E Z4 Z8 S l1 r0) (H:Own w D w []) (F:s0 bA.abs d0=f) (u:Ro w D λ w'=>bV w' 2 C Z7 (q1 bA.L d0)) (G:∀ x ∈ d0,Ro w D (λ w'=>bV w' 6 x.a.A (X x.a.a) (q1 aV.L x.a.a))/\(X x.a.a<=x.a.c/\X x.a.a<=9223372036854775807)) (Z1:Z7=X f) (aF:X f<=9223372036854775807) (I:s0 bA.abs S=l1) (y:Ro w D λ w'=>bV w' 2 E Z4 (q1 bA.L S)) (J:∀ x ∈ S,Ro w D (λ w'=>bV w' 6 x.a.A (X x.a.a) (q1 aV.L x.a.a))/\(X x.a.a<=x.a.c/\X x.a.a<=9223372036854775807)) (Z2:Z4=X l1) (aG:X l1<=9223372036854775807) (hr:gG f l1=r0):
    Calls y3 53 #[T C Z7 Z3, T E Z4 Z8, .func (.func 49) #[] #[]] w (dI λ v w'=>v= Y r0/\Own w D w' []):=by
 unfold gG at hr
 subst Z1 Z2
 have ay:=bf F
 have az:=bf I
 refine cb Tryz.func53 ?_
 refine sr (An Z (JS (sr (Mz Z (Kz (vJ (X f)) (Mz Z (Kz (vJ (X l1)) (fw (Za (¬ ((X f:Int)=(X l1:Int)))) (Kc (e:= !(Zw ((X f:Int)=(X l1:Int)))) yk ZW) (nt ?_)))))))))
 by_cases j:(X f:Int)=(X l1:Int)
 refine jF (dF (Nu j)) (sk (JS (sr (Mz Z (Kz (vJ (X f)) (Mn Z (bo ?_)))))))
 have Z0:=H.pk []
 obtain⟨aa,k⟩:=nI λ (a:Nat) w'=>Own w D w' []/\a<=X f/\dH l1 f 0=dH l1 (r8 a f) a
 refine G3 (λ i:Nat=> [(6, Y O),(17,vJ i),(16,vJ (X f)),(15, T C (X f) Z3),(1, T E (X l1) Z8),(2, .func (.func 49) #[] #[])]) aa (λ i=>X f - i) 0 ⟨Z,Z,Z,Z,Z,Z,ZV⟩ (k.2 ⟨Z0,U,Z⟩) ?_
 rintro a aH K
 show Wp _ _ _ [(6, Y O),(17,vJ a),(16,vJ (X f)),(15, T C (X f) Z3),(1, T E (X l1) Z8),(2, .func (.func 49) #[] #[])] _ _
 obtain⟨l,aA,m⟩:=k.1 K
 refine sr (Kz (Za ((a:Int) < (X f:Int))) (nt (JS ?_)))
 by_cases L:(a:Int) < (X f:Int)
 obtain⟨b,g⟩:=dM (ls:=d0) (i:=a) bA.len f7 (l.ro u) f5
 have M:=ik F g
 have aB:=(G _ (G4 g)).2
 have r:=drop_at M
 refine jT (dT L) (sk (JS (bo (sr (Mz Z (fw (Zz (Zv ⟨ab C,ao C+a *2,Zk⟩)) (J9 (kY) Z Z ((l.ro u).addr (i:=a) U) U) (fw (Zq (Zb (bA.L b))) (J5 Z (J7 (cs:=(bA.L b)) R6 R7 ((l.ro u).elem bA.len g f7))) ?_)))))))
 refine cB [.int .u64 0, T Zk 0 0] 80 l ?_
 intro aI aJ af
 refine Az Z ?_
 refine cu (bA.L b) 0 af R7 ?_
 intro aK p
 refine ns (Mz Z (Mz Z ?_))
 obtain⟨d,h⟩:=dM (ls:=S) (i:=a) bA.len f7 (p.ro y) f5
 have s:=ik I h
 have aC:=(J _ (G4 h)).2
 refine fw (Zz (Zv ⟨ab E,ao E+a *2,Zk⟩)) (J9 (kY) Z Z ((p.ro y).addr (i:=a) U) U) (fw (Zq (Zb (bA.L d))) (J5 Z (J7 (cs:=(bA.L d)) R6 R7 ((p.ro y).elem bA.len h f7))) ?_)
 refine cB [.int .u64 0, T Zk 0 0] 80 p ?_
 intro aL aM ag
 refine cu (bA.L d) 0 ag R7 ?_
 intro aN z
 refine ns (Mz Z (La (bA.L b) z 1 R6 R7 (La (bA.L d) z 0 R6 R7 ?_)))
 obtain⟨B,n⟩:∃ q,nS (dG.q b.r (N b.a.a)) (dG.q d.r (N d.a.a))=q:=⟨_,Z⟩
 obtain⟨aO,Z5,t,Z6,aD⟩:=JZ z
 refine WL.do Z (KA Tryz.call49 Z Z (wY _ _ (dG.q b.r (N b.a.a)) b.a.A (X b.a.a) b.a.c (dG.q d.r (N d.a.a)) d.a.A (X d.a.a) d.a.c B Z5 Z (t _ (G _ (G4 g)).1) U Z (t _ (J _ (G4 h)).1) U n) ?_)
 rintro _ aP ⟨rfl,P⟩
 have Q:=Z6 _ _ P
 refine Kz (Y (!B)) (nt ?_)
 rcases Nv (B) with o | o
 refine jF (cn o) (Ko (bN (JY ?_)))
 have ah:=Q.pk []
 refine JW (fw (vJ (a+1)) (J4 (e:=D3.wrap ((a:Int)+1)) yk f4) (Mz Z (G2 ?_)))
 have ai:=ah.pk []
 exact Kb (a+1) ⟨Z,Z,Z,Z,Z,Z,ZV⟩ (k.2 ⟨ai,U,V (m) (V (ZX (λ q=>dH l1 q a) r) (V (ae (bG s)) (V (ae n) (ip o))))⟩) (by show X f - (a+1) < X f - a; omega)
 refine jT (cn o) (JS ?_)
 have aj:=Q.pk []
 refine JW (An Z (rt (bR (tR (tR (bR (tR (rs ?_))))))))
 have ak:=aj.pk []
 obtain rfl:_=O:=zj hr (V (ip j) (iX (V (m) (V (ZX (λ q=>dH l1 q a) r) (V (ae (bG s)) (V (ae n) (eD o)))))))
 exact⟨Z,ak⟩
 refine jF (dF L) (H0 (Ka ?_))
 have R:dH l1 f 0=G0 ():=V (m) (V (ZX (λ q=>dH l1 q a) (eU (ls:=f) (i:=a) U)) Z)
 refine Ka (Kh (JY (sr (An Z (rt (rs ?_))))))
 have au:=l.pk []
 obtain rfl:_=Zj:=zj hr (V (ip j) (kH R))
 exact⟨Z,au⟩
 refine jT (dT j) (sr (An Z (rt (tR (rs ?_)))))
 have av:=H.pk []
 obtain rfl:=zj hr zq1
 exact⟨Z,av⟩
def jd (a:bH) (b:bH):Bool:=
 if((a.y:Nat):Int)=((b.y:Nat):Int) then if((a.u:Nat):Int)=((b.u:Nat):Int) then if((a.z:Nat):Int)=((b.z:Nat):Int) then if((a.k:Nat):Int)=((b.k:Nat):Int) then if((a.t:Nat):Int)=((b.t:Nat):Int) then if((a.B:Nat):Int)=((b.B:Nat):Int) then if(a.s.a=b.s.a)/\(a.s.b=b.s.b) then if(((a.a.k:Nat):Int)=((b.a.k:Nat):Int))/\(((a.a.s:Nat):Int)=((b.a.s:Nat):Int))/\(((a.a.a:Nat):Int)=((b.a.a:Nat):Int))/\((a.a.j.a=b.a.j.a)/\(a.a.j.b=b.a.j.b)) then bnd (jD a.b.a b.b.a) λ c=>if c=Zj then bnd (kC a.j.a b.j.a) λ d=>if d=Zj then bnd (gG a.g.a b.g.a) λ e=>e else O else O else O else O else O else O else O else O else O else O
theorem nC (w D) (a:bH) (y Z0 z B aa C Z5 E af F) (b:bH) (G ag I J ah K Z6 L aj M r0) (H:Own w D w []) (ax:Z0=X a.b.a) (ay:Ro w D λ w'=>bV w' 2 y (X a.b.a) (q1 bF.L a.b.a)) (bi:X a.b.a<=z/\X a.b.a<=9223372036854775807) (S:s0 bA.abs Z5=a.g.a) (az:aa=X a.g.a) (aA:Ro w D λ w'=>bV w' 2 B (X a.g.a) (q1 bA.L Z5)) (bn:X a.g.a<=C/\X a.g.a<=9223372036854775807) (Z7:∀ x ∈ Z5,Ro w D (λ w'=>bV w' 6 x.a.A (X x.a.a) (q1 aV.L x.a.a))/\(X x.a.a<=x.a.c/\X x.a.a<=9223372036854775807)) (aB:af=X a.j.a) (aC:Ro w D λ w'=>bV w' 1 E (X a.j.a) (q1 (eN .u64) a.j.a)) (bq:X a.j.a<=F/\X a.j.a<=9223372036854775807) (aD:ag=X b.b.a) (aF:Ro w D λ w'=>bV w' 2 G (X b.b.a) (q1 bF.L b.b.a)) (bu:X b.b.a<=I/\X b.b.a<=9223372036854775807) (Z3:s0 bA.abs Z6=b.g.a) (aG:ah=X b.g.a) (aH:Ro w D λ w'=>bV w' 2 J (X b.g.a) (q1 bA.L Z6)) (bv:X b.g.a<=K/\X b.g.a<=9223372036854775807) (Z4:∀ x ∈ Z6,Ro w D (λ w'=>bV w' 6 x.a.A (X x.a.a) (q1 aV.L x.a.a))/\(X x.a.a<=x.a.c/\X x.a.a<=9223372036854775807)) (aI:aj=X b.j.a) (aJ:Ro w D λ w'=>bV w' 1 L (X b.j.a) (q1 (eN .u64) b.j.a)) (bz:X b.j.a<=M/\X b.j.a<=9223372036854775807) (hr:jd a b=r0):
    Calls y3 22 #[Zq (Zb (fV a.r a.y a.u a.z a.k y Z0 z B aa C E af F a.t a.B a.s.a a.s.b a.a.k a.a.s a.a.a a.a.j.a a.a.j.b)), Zq (Zb (fV b.r b.y b.u b.z b.k G ag I J ah K L aj M b.t b.B b.s.a b.s.b b.a.k b.a.s b.a.a b.a.j.a b.a.j.b))] w (dI λ v w'=>v= Y r0/\Own w D w' []):=by
 unfold jd at hr
 subst ax az aB aD aG aI
 have aZ:=bf S
 have bg:=bf Z3
 refine cb Tryz.func22 ?_
 refine sr ?_
 refine cB (gZ a y z B C E F) 42 H ?_
 intro r bW bB
 refine cB (gZ b G I J K L M) 42 bB ?_
 intro s bX d
 refine An Z (JS (sr (Kz (vP r 1) (Lz (vU a.y) d 1 E0 (Kz (vP s 1) (Lz (vU b.y) d 0 E0 (fw (Za (¬ ((a.y:Int)=(b.y:Int)))) (Kc (e:= !(Zw ((a.y:Int)=(b.y:Int)))) yk ZW) (Mz Z ?_))))))))
 by_cases f:(a.y:Int)=(b.y:Int)
 refine gw (vP r 2) (dF (Nu f)) yk (gw (vU a.u) (dF (Nu f)) (J5 Z (bO.one E0 (Kw (d.cls (i:=1) Z) Z))) (gw (vP s 2) (dF (Nu f)) yk (gw (vU b.u) (dF (Nu f)) (J5 Z (bO.one E0 (Kw (d.cls (i:=0) Z) Z))) (gw (Za (¬ ((a.u:Int)=(b.u:Int)))) (dF (Nu f)) (Kc (e:= !(Zw ((a.u:Int)=(b.u:Int)))) yk ZW) (fw (Za (¬ ((a.u:Int)=(b.u:Int)))) (JU Z (dF (Nu f)) Z) (Mz Z ?_))))))
 by_cases g:(a.u:Int)=(b.u:Int)
 refine gw (vP r 3) (dF (Nu g)) yk (gw (vU a.z) (dF (Nu g)) (J5 Z (bO.one E0 (Kw (d.cls (i:=1) Z) Z))) (gw (vP s 3) (dF (Nu g)) yk (gw (vU b.z) (dF (Nu g)) (J5 Z (bO.one E0 (Kw (d.cls (i:=0) Z) Z))) (gw (Za (¬ ((a.z:Int)=(b.z:Int)))) (dF (Nu g)) (Kc (e:= !(Zw ((a.z:Int)=(b.z:Int)))) yk ZW) (fw (Za (¬ ((a.z:Int)=(b.z:Int)))) (JU Z (dF (Nu g)) Z) (Mz Z ?_))))))
 by_cases h:(a.z:Int)=(b.z:Int)
 refine gw (vP r 4) (dF (Nu h)) yk (gw (vU a.k) (dF (Nu h)) (J5 Z (bO.one E0 (Kw (d.cls (i:=1) Z) Z))) (gw (vP s 4) (dF (Nu h)) yk (gw (vU b.k) (dF (Nu h)) (J5 Z (bO.one E0 (Kw (d.cls (i:=0) Z) Z))) (gw (Za (¬ ((a.k:Int)=(b.k:Int)))) (dF (Nu h)) (Kc (e:= !(Zw ((a.k:Int)=(b.k:Int)))) yk ZW) (fw (Za (¬ ((a.k:Int)=(b.k:Int)))) (JU Z (dF (Nu h)) Z) (nt ?_))))))
 by_cases t:(a.k:Int)=(b.k:Int)
 refine jF (dF (Nu t)) (sk (JS (sr (Kz (vP r 8) (Lz (vU a.t) d 1 E0 (Kz (vP s 8) (Lz (vU b.t) d 0 E0 (fw (Za (¬ ((a.t:Int)=(b.t:Int)))) (Kc (e:= !(Zw ((a.t:Int)=(b.t:Int)))) yk ZW) (Mz Z ?_)))))))))
 by_cases j:(a.t:Int)=(b.t:Int)
 refine gw (vP r 9) (dF (Nu j)) yk (gw (vU a.B) (dF (Nu j)) (J5 Z (bO.one E0 (Kw (d.cls (i:=1) Z) Z))) (gw (vP s 9) (dF (Nu j)) yk (gw (vU b.B) (dF (Nu j)) (J5 Z (bO.one E0 (Kw (d.cls (i:=0) Z) Z))) (gw (Za (¬ ((a.B:Int)=(b.B:Int)))) (dF (Nu j)) (Kc (e:= !(Zw ((a.B:Int)=(b.B:Int)))) yk ZW) (fw (Za (¬ ((a.B:Int)=(b.B:Int)))) (JU Z (dF (Nu j)) Z) (Mz Z ?_))))))
 by_cases l:(a.B:Int)=(b.B:Int)
 refine gw (vP r 10) (dF (Nu l)) yk (gw (Zq (Zb (ai.L a.s))) (dF (Nu l)) (J5 Z (J7 (cs:=(ai.L a.s)) C6 C5 ((d.cls (i:=1) Z).lit (k:=10) (m:=2) Z))) (gw (vP s 10) (dF (Nu l)) yk (gw (Zq (Zb (ai.L b.s))) (dF (Nu l)) (J5 Z (J7 (cs:=(ai.L b.s)) C6 C5 ((d.cls (i:=0) Z).lit (k:=10) (m:=2) Z))) (gw (Za (¬ ((a.s.a=b.s.a)/\(a.s.b=b.s.b)))) (dF (Nu l)) (Kc (e:= !(Zw ((a.s.a=b.s.a)/\(a.s.b=b.s.b)))) (KL Z Z f1 Z (fK.struct C4 f1 (KI (eH.cons (u:= Z9 ⟨Zb a.s.a⟩) (v:= Z9 ⟨Zb b.s.a⟩) f7 ZY ZY (fK.string B3) (eH.cons (u:= Z9 ⟨Zb a.s.b⟩) (v:= Z9 ⟨Zb b.s.b⟩) f7 ZY ZY (fK.string B3) (eH.nil.up (Nt _)))) ((ZX (Zw (a.s.a=b.s.a) && ·) jB).trans eT)))) ZW) (fw (Za (¬ ((a.s.a=b.s.a)/\(a.s.b=b.s.b)))) (JU Z (dF (Nu l)) Z) (Mz Z ?_))))))
 by_cases n:(a.s.a=b.s.a)/\(a.s.b=b.s.b)
 refine gw (vP r 12) (dF (Nu n)) yk (gw (Zq (Zb (fF.L a.a))) (dF (Nu n)) (J5 Z (J7 (cs:=(fF.L a.a)) Tryz.isAgg40 Tryz.sizeOf40 ((d.cls (i:=1) Z).lit (k:=12) (m:=5) Z))) (gw (vP s 12) (dF (Nu n)) yk (gw (Zq (Zb (fF.L b.a))) (dF (Nu n)) (J5 Z (J7 (cs:=(fF.L b.a)) Tryz.isAgg40 Tryz.sizeOf40 ((d.cls (i:=0) Z).lit (k:=12) (m:=5) Z))) (gw (Za (¬ (((a.a.k:Int)=(b.a.k:Int))/\((a.a.s:Int)=(b.a.s:Int))/\((a.a.a:Int)=(b.a.a:Int))/\((a.a.j.a=b.a.j.a)/\(a.a.j.b=b.a.j.b))))) (dF (Nu n)) (Kc (e:= !(Zw (((a.a.k:Int)=(b.a.k:Int))/\((a.a.s:Int)=(b.a.s:Int))/\((a.a.a:Int)=(b.a.a:Int))/\((a.a.j.a=b.a.j.a)/\(a.a.j.b=b.a.j.b))))) (KL Z Z f1 Z (fK.struct Tryz.underlying40 f1 (KI (eH.cons (u:=vU a.a.k) (v:=vU b.a.k) f7 ZY ZY ((fK.int E1).up f7) (eH.cons (u:=vU a.a.s) (v:=vU b.a.s) f7 ZY ZY ((fK.int E1).up f7) (eH.cons (u:=vU a.a.a) (v:=vU b.a.a) f7 ZY ZY ((fK.int E1).up f7) (eH.cons (u:= Zq (Zb (ai.L a.a.j))) (v:= Zq (Zb (ai.L b.a.j))) f7 ZY ZY (fK.struct C4 f1 (KI (eH.cons (u:= Z9 ⟨Zb a.a.j.a⟩) (v:= Z9 ⟨Zb b.a.j.a⟩) f7 ZY ZY (fK.string B3) (eH.cons (u:= Z9 ⟨Zb a.a.j.b⟩) (v:= Z9 ⟨Zb b.a.j.b⟩) f7 ZY ZY (fK.string B3) (eH.nil.up (Nt _)))) ((ZX (Zw (a.a.j.a=b.a.j.a) && ·) jB).trans eT))) (eH.nil.up (Nt _)))))) ((ZX (Zw ((a.a.k:Int)=(b.a.k:Int)) && ·) ((ZX (Zw ((a.a.s:Int)=(b.a.s:Int)) && ·) ((ZX (Zw ((a.a.a:Int)=(b.a.a:Int)) && ·) jB).trans eT)).trans eT)).trans eT)))) ZW) (fw (Za (¬ (((a.a.k:Int)=(b.a.k:Int))/\((a.a.s:Int)=(b.a.s:Int))/\((a.a.a:Int)=(b.a.a:Int))/\((a.a.j.a=b.a.j.a)/\(a.a.j.b=b.a.j.b))))) (JU Z (dF (Nu n)) Z) (nt ?_))))))
 by_cases R:((a.a.k:Int)=(b.a.k:Int))/\((a.a.s:Int)=(b.a.s:Int))/\((a.a.a:Int)=(b.a.a:Int))/\((a.a.j.a=b.a.j.a)/\(a.a.j.b=b.a.j.b))
 refine jF (dF (Nu R)) (sk (sr (Ar Z (Kz (vP r 5) (Lz (T y (X a.b.a) z) d 1 R8 (Kz (vP s 5) (Lz (T G (X b.b.a) I) d 0 R8 ?_)))))))
 obtain⟨aM,P⟩:∃ q,jD a.b.a b.b.a=q:=⟨_,Z⟩
 obtain⟨bY,aN,ak,aO,bS⟩:=JZ d
 refine cl Tryz.call51 (qK _ _ y (X a.b.a) z a.b.a G (X b.b.a) I b.b.a aM aN (ak _ ay) Z U (ak _ aF) Z U P) ?_
 rintro _ bZ ⟨rfl,aP⟩
 have Z1:=aO _ _ aP
 refine Mz Z ?_
 rcases Nv (aM) with p | p
 refine Gz (vP r 7) p (Gl (T E (X a.j.a) F) p Z1 1 Q2 (Gz (vP s 7) p (Gl (T L (X b.j.a) M) p Z1 0 Q2 ?_)))
 obtain⟨aK,Z8⟩:∃ q,kC a.j.a b.j.a=q:=⟨_,Z⟩
 obtain⟨cu,aQ,au,aR,bT⟩:=JZ Z1
 refine KU Z Z p Z (Ki Tryz.call52 Z (sW _ _ E (X a.j.a) F a.j.a L (X b.j.a) M b.j.a aK aQ (au _ aC) Z U (au _ aJ) Z U Z8) ?_)
 rintro _ cz ⟨rfl,aS⟩
 have Z2:=aR _ _ aS
 refine fw (Y aK) (JX Z p Z) (Mz Z ?_)
 rcases Nv (aK) with o | o
 refine Gz (vP r 6) o (Gl (T B (X a.g.a) C) o Z2 1 D4 (Gz (vP s 6) o (Gl (T J (X b.g.a) K) o Z2 0 D4 (KC (v:= .func (.func 49) #[] #[]) Z Z o Z (J3 Z) ?_))))
 obtain⟨aL,av⟩:∃ q,gG a.g.a b.g.a=q:=⟨_,Z⟩
 obtain⟨cK,aT,Q,aU,bU⟩:=JZ Z2
 refine KU Z Z o Z (Ki Tryz.call53 Z (mQ _ _ B (X a.g.a) C Z5 a.g.a J (X b.g.a) K Z6 b.g.a aL aT S (Q _ aA) (λ x9 h9=>⟨Q _ (Z7 x9 h9).1,(Z7 x9 h9).2⟩) Z U Z3 (Q _ aH) (λ x9 h9=>⟨Q _ (Z4 x9 h9).1,(Z4 x9 h9).2⟩) Z U av) ?_)
 rintro _ cO ⟨rfl,aY⟩
 have bC:=aU _ _ aY
 refine fw (Y aL) (JX Z o Z) (An Z (rt (rs ?_)))
 have bD:=bC.pk []
 obtain rfl:=zj hr zq13
 exact⟨Z,bD⟩
 refine Sz o (Sz o (Sz o (Sz o (Sz o (Sz o (fw (Y O) (JU Z o Z) (An Z (rt (rs ?_)))))))))
 have bE:=Z2.pk []
 obtain rfl:=zj hr zq12
 exact⟨Z,bE⟩
 refine Sz p (Sz p (Sz p (Sz p (Sz p (fw (Y O) (JU Z p Z) (Mz Z (QQ (QQ (QQ (QQ (QQ (QQ (fw (Y O) (QK Z) (An Z (rt (rs ?_))))))))))))))))
 have bG:=Z1.pk []
 obtain rfl:=zj hr zq10
 exact⟨Z,bG⟩
 refine jT (dT R) (sr (An Z (rt (tR (rs ?_)))))
 have bI:=d.pk []
 obtain rfl:=zj hr zq8
 exact⟨Z,bI⟩
 refine Sz (dT n) (Sz (dT n) (Sz (dT n) (Sz (dT n) (Sz (dT n) (fw (Y Zj) (JX Z (dT n) Z) (nt (jt (sr (An Z (rt (tR (rs ?_))))))))))))
 have bJ:=d.pk []
 obtain rfl:=zj hr zq7
 exact⟨Z,bJ⟩
 refine Sz (dT l) (Sz (dT l) (Sz (dT l) (Sz (dT l) (Sz (dT l) (fw (Y Zj) (JX Z (dT l) Z) (Mz Z (QQ (QQ (QQ (QQ (QQ (fw (Y Zj) (QJ Z) (nt (jt (sr (An Z (rt (tR (rs ?_)))))))))))))))))))
 have bK:=d.pk []
 obtain rfl:=zj hr zq6
 exact⟨Z,bK⟩
 refine Sz (dT j) (Sz (dT j) (Sz (dT j) (Sz (dT j) (Sz (dT j) (fw (Y Zj) (JX Z (dT j) Z) (Mz Z (QQ (QQ (QQ (QQ (QQ (fw (Y Zj) (QJ Z) (Mz Z (QQ (QQ (QQ (QQ (QQ (fw (Y Zj) (QJ Z) (nt (jt (sr (An Z (rt (tR (rs ?_))))))))))))))))))))))))))
 have bL:=d.pk []
 obtain rfl:=zj hr zq5
 exact⟨Z,bL⟩
 refine jT (dT t) (sr (An Z (rt (tR (rs ?_)))))
 have bM:=d.pk []
 obtain rfl:=zj hr zq4
 exact⟨Z,bM⟩
 refine Sz (dT h) (Sz (dT h) (Sz (dT h) (Sz (dT h) (Sz (dT h) (fw (Y Zj) (JX Z (dT h) Z) (nt (jt (sr (An Z (rt (tR (rs ?_))))))))))))
 have bN:=d.pk []
 obtain rfl:=zj hr zq3
 exact⟨Z,bN⟩
 refine Sz (dT g) (Sz (dT g) (Sz (dT g) (Sz (dT g) (Sz (dT g) (fw (Y Zj) (JX Z (dT g) Z) (Mz Z (QQ (QQ (QQ (QQ (QQ (fw (Y Zj) (QJ Z) (nt (jt (sr (An Z (rt (tR (rs ?_)))))))))))))))))))
 have bP:=d.pk []
 obtain rfl:=zj hr zq2
 exact⟨Z,bP⟩
 refine Sz (dT f) (Sz (dT f) (Sz (dT f) (Sz (dT f) (Sz (dT f) (fw (Y Zj) (JX Z (dT f) Z) (Mz Z (QQ (QQ (QQ (QQ (QQ (fw (Y Zj) (QJ Z) (Mz Z (QQ (QQ (QQ (QQ (QQ (fw (Y Zj) (QJ Z) (nt (jt (sr (An Z (rt (tR (rs ?_))))))))))))))))))))))))))
 have bQ:=d.pk []
 obtain rfl:=zj hr zq1
 exact⟨Z,bQ⟩
def gB (a:bH):bH:=
 a
set_option maxHeartbeats 1000000 in
theorem ko (w D) (a:bH) (p Z4 r s Z8 t b u Z1 z) (Z2:bH) (H:Own w D w []) (aj:Z4=X a.b.a) (ak:Ro w D λ w'=>bV w' 2 p (X a.b.a) (q1 bF.L a.b.a)) (bE:X a.b.a<=r/\X a.b.a<=9223372036854775807) (J:s0 bA.abs b=a.g.a) (au:Z8=X a.g.a) (av:Ro w D λ w'=>bV w' 2 s (X a.g.a) (q1 bA.L b)) (bG:X a.g.a<=t/\X a.g.a<=9223372036854775807) (M:∀ x ∈ b,Ro w D (λ w'=>bV w' 6 x.a.A (X x.a.a) (q1 aV.L x.a.a))/\(X x.a.a<=x.a.c/\X x.a.a<=9223372036854775807)) (ax:Z1=X a.j.a) (ay:Ro w D λ w'=>bV w' 1 u (X a.j.a) (q1 (eN .u64) a.j.a)) (bI:X a.j.a<=z/\X a.j.a<=9223372036854775807) (dx:X a.b.a<=1000000/\X a.g.a<=1000000/\X a.j.a<=1000000) (bK:(∀ x ∈ a.g.a,X x.a.a<=1000000)) (hr:gB a=Z2):
    Calls y3 17 #[Zq (Zb (fV a.r a.y a.u a.z a.k p Z4 r s Z8 t u Z1 z a.t a.B a.s.a a.s.b a.a.k a.a.s a.a.a a.a.j.a a.a.j.b))] w (dI λ v w'=> ∃ Z0 aa ae af ag ah Z5,v= Zq (Zb (gZ Z2 Z0 aa ae af ag ah))/\Own w D w' [row Z0 (X Z2.b.a) aa (q1 bF.L Z2.b.a) 83 2,row ae (X Z2.g.a) af (q1 bA.L Z5) 80 2,sepL (q1 Ky Z5),row ag (X Z2.j.a) ah (q1 (eN .u64) Z2.j.a) 33 1]/\(s0 bA.abs Z5=Z2.g.a)):=by
 subst aj au ax
 have bC:=bf J
 refine cb Tryz.func17 ?_
 refine sr ?_
 refine cB (gZ a p r s t u z) 42 H ?_
 intro d dz bL
 refine cB (fV 0 0 0 0 0 Zk 0 0 Zk 0 0 Zk 0 0 0 0 [] [] 0 0 0 [] []) 42 bL ?_
 intro Z3 dA aA
 refine ns (Kz (vP d 5) (Lz (T p (X a.b.a) r) aA 1 R8 ?_))
 obtain⟨dB,aB,aC,aD,cK⟩:=JZ aA
 refine cl Tryz.call32 (mY _ _ p (X a.b.a) r a.b.a a.b.a aB (aC _ ak) Z U Z) ?_
 rintro _ dC ⟨B,C,rfl,aF⟩
 have aG:=aD _ _ aF
 have cO:=aG.rowC (i:=0) Z
 refine Kz (vP d 5) ?_
 have bM:=aG.pf [2]
 refine cu [T B (X a.b.a) C] 5 bM Tryz.sizeOf34 ?_
 intro dD aH
 refine ns (Kz (vP d 7) (Lz (T u (X a.j.a) z) aH 0 Q2 ?_))
 obtain⟨dE,aI,aJ,aK,cZ⟩:=JZ aH
 refine cl Tryz.call33 (sV _ _ u (X a.j.a) z a.j.a a.j.a aI (aJ _ ay) Z U Z) ?_
 rintro _ dG ⟨E,F,rfl,aL⟩
 have aM:=aK _ _ aL
 have df:=aM.rowC (i:=0) Z
 refine Kz (vP d 7) ?_
 have bP:=aM.pf [1]
 refine cu [T E (X a.j.a) F] 7 bP R9 ?_
 intro dH aN
 refine ns (Kz (vP d 6) (Lz (T s (X a.g.a) t) aN 0 D4 ?_))
 obtain⟨dJ,aO,aP,aQ,dh⟩:=JZ aN
 refine cl Tryz.call34 (rq _ _ s _ t b b aO (aP _ av) U U Z) ?_
 rintro _ dK ⟨h,n,rfl,aR⟩
 have bQ:=aQ _ _ aR
 refine Kz (vP d 6) ?_
 have bR:=bQ.pf [1]
 refine cu [T h (X b) n] 6 bR Tryz.sizeOf35 ?_
 intro dL aS
 refine nt (JS (sr (Kz (vP d 6) (Lz (T h (X b) n) aS 0 D4 (Kz (vJ (X b)) (Mn Z (bo ?_)))))))
 have bS:=aS.pb [1]
 have bT:=(bS.sepNil).pick [1,2,3,4,5,0] f7 Z
 refine G3 (ι:=Nat × (List bA)) (λ i=> [(19,vJ i.1),(18,vJ (X b)),(17, T h (X b) n),(16,vP d 6),(15,vP d 6),(14, T h (X b) n),(13, T s (X a.g.a) t),(12,vP d 6),(11,vP d 7),(10, T E (X a.j.a) F),(9, T u (X a.j.a) z),(8,vP d 7),(7,vP d 5),(6, T B (X a.b.a) C),(5, T p (X a.b.a) r),(4,vP d 5),(2,vP Z3 0),(1,vP d 0),(0, Zq (Zb (gZ a p r s t u z)))]) (fun(i:Nat × (List bA)) w'=>Own w D w' [blk d (fV a.r a.y a.u a.z a.k B (X a.b.a) C h (X b) n E (X a.j.a) F a.t a.B a.s.a a.s.b a.a.k a.a.s a.a.a a.a.j.a a.a.j.b) 42,row E (X a.j.a) F (q1 (eN .u64) a.j.a) 33 1,row B (X a.b.a) C (q1 bF.L a.b.a) 83 2,blk Z3 (fV 0 0 0 0 0 Zk 0 0 Zk 0 0 Zk 0 0 0 0 [] [] 0 0 0 [] []) 42,row h (X b) n (q1 bA.L (i.2++r8 i.1 b)) 80 2,sepL (q1 Ky i.2)]/\(i.1<=X b/\X i.2=i.1/\s0 bA.abs i.2=s0 bA.abs (u2 i.1 b))) (λ i=>X b - i.1) (0, []) ⟨Z,Z,Z,Z,Z,Z,Z,Z,Z,Z,Z,Z,Z,Z,Z,Z,Z,Z,Z,ZV⟩ ⟨bT,(show 0<=X b/\X []=0/\s0 bA.abs []=s0 bA.abs (u2 0 b) from ⟨U,Z,Z⟩)⟩ ?_
 rintro ⟨g,l⟩ dM ⟨aT,Z6⟩
 show Wp _ _ _ [(19,vJ g),(18,vJ (X b)),(17, T h (X b) n),(16,vP d 6),(15,vP d 6),(14, T h (X b) n),(13, T s (X a.g.a) t),(12,vP d 6),(11,vP d 7),(10, T E (X a.j.a) F),(9, T u (X a.j.a) z),(8,vP d 7),(7,vP d 5),(6, T B (X a.b.a) C),(5, T p (X a.b.a) r),(4,vP d 5),(2,vP Z3 0),(1,vP d 0),(0, Zq (Zb (gZ a p r s t u z)))] _ _
 replace Z6:g<=X b/\X l=g/\s0 bA.abs l=s0 bA.abs (u2 g b):=Z6
 obtain⟨di,az,P⟩:=Z6
 refine sr (Kz (Za ((g:Int) < (X b:Int))) (nt (JS ?_)))
 by_cases aU:(g:Int) < (X b:Int)
 refine jT (dT aU) (sk (JS (bo (sr (Mz Z (An Z ?_))))))
 obtain⟨j,I⟩:∃ q,b[g]? =Zv q:=⟨_,p3 U⟩
 have Q:(l++r8 g b)[g]? =Zv j:=Ho U I
 have dm:=(M _ (G4 I)).2
 have dn:X j.a.a<=1000000:=by have q9:=bK _ (G4 (ik J I)); exact q9
 refine zu [12] (bJ.block (J6 (J6 (bJ.block (J6 Kg))))) aT ?_
 intro dN bU
 refine qp d 6 0 Z (ql 1 Z 0 D4 Z Z Z (qv 2 Z Z (qp d 6 3 Z (ql 4 Z 0 D4 Z Z Z (qv 5 Z Z (qt (v:= Zz (Zv ⟨ab h,ao h+g *2,Zk⟩)) 6 Z (λ _ ⟨_,H9⟩=>J9 (kY) Z Z ((H9.rds (i:=4) Z).addr (i:=g) U) U) (qk (Zz (Zv ⟨ab h,ao h+g *2+1,Zk⟩)) 7 Z (qt (v:= T j.a.A (X j.a.a) j.a.c) 8 Z (λ _ ⟨_,H9⟩=>J5 Z (bO.one Q9 (((H9.rds (i:=4) Z).elem bA.len Q f7).at_ (k:=1) Z))) ?_))))))))
 obtain⟨dO,aX,aY,aZ,dw⟩:=JZ bU
 refine qd 9 Z (Ki Tryz.call35 Z (fJ _ _ j.a.A (X j.a.a) j.a.c j.a.a j.a.a aX (aY _ (M _ (G4 I)).1) Z U Z) ?_)
 rintro _ dP ⟨K,L,rfl,bg⟩
 have bW:=aZ _ _ bg
 have bi:=bW.pb [0]
 refine⟨.inr ⟨_,bi⟩, ?_⟩
 refine qt (v:= Zz (Zv ⟨ab h,ao h+g *2,Zk⟩)) 10 Z (λ _ ⟨_,H9⟩=>J9 (kY) Z Z ((H9.rds (i:=4) Z).addr (i:=g) U) U) (qk (Zz (Zv ⟨ab h,ao h+g *2+1,Zk⟩)) 11 Z ?_)
 have bX:=bi.pf [4]
 refine qe 12 Z (Do.storeRow (vs:= [T K (X j.a.a) L]) (o:=g *2+1) (q:=ao h+g *2+1) bX Z U Z Tryz.sizeOf44 Z Z (Nr Z) (j3 bA.len Q (Nr Z)) (kV (y:=(bA.q j.r (O4 K L j.a.a))) bA.len Z (Nr Z) Q) ?_)
 intro bY bZ
 refine⟨.inl f1, ?_⟩
 refine qn (bN (JY (JW (fw (vJ (g+1)) (J4 (e:=D3.wrap ((g:Int)+1)) yk f4) (Mz Z (G2 ?_))))))
 have bn:=bZ.px [6,5] [] [0]
 have bq:Own w D bY (sepL (q1 Ky (l++ [(bA.q j.r (O4 K L j.a.a))]))::_):=F9 (f:=Ky) (es:=l) (y:=(bA.q j.r (O4 K L j.a.a))) bn
 have ai:=bq.pk [1,2,3,4,5,0]
 rw [Gb _ U U] at ai
 exact Kb (g+1,l++ [(bA.q j.r (O4 K L j.a.a))]) ⟨Z,Z,Z,Z,Z,Z,Z,Z,Z,Z,Z,Z,Z,Z,Z,Z,Z,Z,Z,ZV⟩ ⟨ai,(show (g+1)<=X b/\X (l++ [(bA.q j.r (O4 K L j.a.a))])=(g+1)/\s0 bA.abs (l++ [(bA.q j.r (O4 K L j.a.a))])=s0 bA.abs (u2 (g+1) b) from ⟨U,by simp [az],Gc (f:=bA.abs) P I Z⟩)⟩ (by show X b - (g+1) < X b - g; omega)
 refine jF (dF aU) (H0 (Ka (Ka (Kh (JY (sr ?_))))))
 have R:s0 bA.abs l=a.g.a:=by rw [P,List.take_of_length_le U]; exact J
 have S:=aT
 rw [List.drop_eq_nil_of_le U,List.append_nil] at S
 have cz:=bf R
 refine La (fV a.r a.y a.u a.z a.k B (X a.b.a) C h (X b) n E (X a.j.a) F a.t a.B a.s.a a.s.b a.a.k a.a.s a.a.a a.a.j.a a.a.j.b) S 0 Tryz.isAgg42 S0 ?_
 have bu:=S.pf [3]
 refine cu (fV a.r a.y a.u a.z a.k B (X a.b.a) C h (X b) n E (X a.j.a) F a.t a.B a.s.a a.s.b a.a.k a.a.s a.a.a a.a.j.a a.a.j.b) 0 bu S0 ?_
 intro bv Z7
 refine nt (rt (Ke (qg Z Z (J7 (cs:=(fV a.r a.y a.u a.z a.k B (X a.b.a) C h (X b) n E (X a.j.a) F a.t a.B a.s.a a.s.b a.a.k a.a.s a.a.a a.a.j.a a.a.j.b)) Tryz.isAgg42 S0 ((Z7.cls (i:=0) Z).lit (k:=0) (m:=17) Z))) ?_))
 have G:X b=X a.g.a:=by first | omega | (simp only [N0]; done) | (simp only [N0,o3,q6,L0,o1,o2,List.length_replicate]; omega)
 have bz:Own w D bv [blk Z3 (gZ a B C h n E F) 42,blk d (gZ a B C h n E F) 42,row E (X a.j.a) F (q1 (eN .u64) a.j.a) 33 1,row B (X a.b.a) C (q1 bF.L a.b.a) 83 2,row h (X a.g.a) n (q1 bA.L l) 80 2,sepL (q1 Ky l)]:=by first | (rw [<- G]; exact Z7) | (have q9:=Z7; rw [G] at q9; exact q9)
 have bB:=bz.pk [3,4,5,2]
 obtain rfl:_=a:=zj hr Z
 exact⟨B,C,h,n,E,F,l,(by first | rfl | (rw [<- G]; done) | (rw [<- G]; rfl) | (rw [G]; first | done | rfl)),bB,R⟩
structure nT where q::
 a:Sv aG
def nT.L (x:nT):List ZQ:= [T x.a.A (X x.a.a) x.a.c]
instance:Bk nT:=⟨λ x _=>bk x.a+(0)⟩
theorem nT.len:∀ x,X (nT.L x)=1:=λ _=>rfl
theorem nT.one:∀ x, ∀ u ∈ nT.L x,u.oneCell'=Zj:=λ x u hu=>by
 simp only [nT.L,v1,y2,or_false] at hu
 rcases hu with rfl <;> rfl
def Ni (w:ZZ) (x:nT):Prop:=(nK w 2 32 aG.L (Lr w) x.a)
instance:Inhabited nT:=⟨⟨Zy⟩⟩
structure StoreT where q::
 a:Ll aG
instance:Inhabited StoreT:=⟨⟨Zy⟩⟩
def nT.abs (x:nT):StoreT:=⟨⟨x.a.a⟩⟩
def M8 (x:nT):List HP:= [row x.a.A (X x.a.a) x.a.c (q1 aG.L x.a.a) 67 2]
def rE (b:StoreT) (c:List UInt8):(List UInt8) × Bool × Int:=
 bnd (rH b.a.a c) λ a=>(a.1,a.2,0)
theorem y9 (w D h) (c:StoreT) (a b m s t n) (H:Own w D w [blk h [T a (X c.a.a) b] 29]) (e:Ro w D λ w'=>bV w' 2 a (X c.a.a) (q1 aG.L c.a.a)) (o:X c.a.a<=b/\X c.a.a<=9223372036854775807) (x:X c.a.a<=4000) (hr:rE c m=(s,t,n)):
    Calls y3 251 #[vP h 0, Z9 ⟨Zb m⟩] w (dI λ v w'=>v= .tuple #[Z9 ⟨Zb s⟩, Y t,vI n]/\Own w D w' [blk h [T a (X c.a.a) b] 29]/\(n=0)):=by
 refine cb Tryz.func251 ?_
 refine sr (Az Z (Az Z (Ar Z (Mz Z (Kz (vP h 0) (Kz (vP h 0) (Lz (T a (X c.a.a) b) H 0 Tryz.isAgg22 (Mz Z ?_))))))))
 obtain⟨⟨f,g⟩,d⟩:∃ q:(List UInt8) × Bool,rH c.a.a m=q:=⟨_,Z⟩
 obtain⟨y,i,j,k,u⟩:=JZ H
 refine cl Tryz.call55 (yK _ _ a (X c.a.a) b c.a.a m f g i (j _ e) Z U d) ?_
 rintro _ z ⟨rfl,l⟩
 have p:=k _ _ l
 refine Mz Z (Kz (Z9 ⟨Zb f⟩) (Kz (Y g) (Az Z (Ar Z (Mz Z (Mz Z (Az Z (Az Z (An Z (rt (Ke (yN Z Z Z Z) ?_)))))))))))
 have r:=p.pf []
 obtain⟨rfl,rfl,rfl⟩:=nM (zj hr (show _=(f,g,0) from ae d))
 exact⟨Z,r,(by rfl)⟩
def qL (b:StoreT) (c:ai) (d:Int):(List aG) × Int:=
 bnd (qI b.a.a c d) λ a=>(a,0)
theorem yA (w D j) (d:StoreT) (a b) (g:ai) (z l A) (H:Own w D w [blk j [T a (X d.a.a) b] 29]) (h:Ro w D λ w'=>bV w' 2 a (X d.a.a) (q1 aG.L d.a.a)) (B:X d.a.a<=b/\X d.a.a<=9223372036854775807) (P:X d.a.a<=4000) (hr:qL d g z=(l,A)):
    Calls y3 252 #[vP j 0, Zq (Zb (ai.L g)),vI z] w (dI λ v w'=> ∃ L M,v= .tuple #[T L (X l) M,vI A]/\Own w D w' [row L (X l) M (q1 aG.L l) 67 2,blk j [T a (X d.a.a) b] 29]/\(A=0/\X l<=4000)):=by
 unfold qL at hr
 refine cb Tryz.func252 ?_
 refine sr ?_
 refine cB (ai.L g) 38 H ?_
 intro Q R C
 refine Az Z (An Z (JS ?_))
 refine oZ [] (J6 Kg) C ?_
 intro S E
 refine qv 0 Z Z (qp j 0 1 Z (qp j 0 2 Z (ql 3 Z 1 Tryz.isAgg22 Z Z Z (qt (v:= Zq (Zb (ai.L g))) 4 Z (λ _ ⟨_,Z7⟩=>J5 Z (J7 (cs:=(ai.L g)) C6 C5 ((Z7.cls (i:=0) Z).lit (k:=0) (m:=2) Z))) (qv 5 Z Z ?_)))))
 obtain⟨c,e⟩:∃ q,qI d.a.a g z=q:=⟨_,Z⟩
 obtain⟨Z3,n,o,p,Z5⟩:=JZ E
 refine qd 6 Z (Ki Tryz.call59 Z (wV _ _ a (X d.a.a) b d.a.a g z c n (o _ h) Z U e) ?_)
 rintro _ F ⟨Z4,Z8,rfl,r,f⟩
 have t:=p _ _ r
 have Z6:=t.rowC (i:=0) Z
 replace f:X c<=X d.a.a:=f
 have u:=t.pb [0]
 refine⟨.inr ⟨_,u⟩, ?_⟩
 have x:Own w D F (row Zk 0 0 (q1 aG.L []) 67 2::_):=u.free (bW 67 2)
 refine qd 7 Z (Kk (k:=0) (m:=X c) (jo) x Z Z (eO Tryz.underlying22 (x.rds (i:=3) Z) (cO aG.one c)) Z U (s:=X c) U Z ?_)
 intro G I Z1 J
 have y:=J.pb [0,3]
 refine⟨.inr ⟨_,y⟩, ?_⟩
 refine qa 8 Z Z (qa 9 Z Z (qn (JY (rt (Ke (lw Z Z Z) ?_)))))
 have K:=y.pk [2,1]
 obtain⟨rfl,rfl⟩:=fI (zj hr zq1)
 exact⟨G,I,Z,K,(by first | omega | exact⟨Z,U⟩)⟩
def kP (b:bK) (c:Nat):Int:=
 bnd (fo b.a c) λ a=>a
theorem oQ (w D) (a:bK) (b f c d g e p A) (H:Own w D w []) (i:f=X a.j.a) (r:Ro w D λ w'=>bV w' 6 b (X a.j.a) (q1 aV.L a.j.a)) (s:X a.j.a<=c/\X a.j.a<=9223372036854775807) (j:g=X a.g.a) (t:Ro w D λ w'=>bV w' 3 d (X a.g.a) (q1 aL.L a.g.a)) (u:X a.g.a<=e/\X a.g.a<=9223372036854775807) (hr:kP a p=A):
    Calls y3 131 #[Zq #[vU a.a, T b f c, T d g e,vI a.b],vU p] w (dI λ v w'=>v=vI A/\Own w D w' []):=by
 unfold kP at hr
 subst i j
 refine cb Tryz.func131 ?_
 refine sr ?_
 refine cB [vU a.a, T b (X a.j.a) c, T d (X a.g.a) e,vI a.b] 100 H ?_
 intro x E k
 refine Ar Z (Kz (vP x 0) (Lz (vU a.a) k 0 E0 (Mz Z ?_)))
 obtain⟨l,h⟩:∃ q,fo a.a p=q:=⟨_,Z⟩
 obtain⟨F,m,B,n,C⟩:=JZ k
 refine cl Tryz.call128 (mX _ _ a.a p l m h) ?_
 rintro _ G ⟨rfl,o⟩
 have y:=n _ _ o
 refine An Z (rt (rs ?_))
 have z:=y.pk []
 obtain rfl:=zj hr zq1
 exact⟨Z,z⟩
def dB (f:List bK) (g:Nat):Nat->Nat->Nat->Nat
  | 0,a,c=>Zy
  | d+1,a,c=>if((a:Nat):Int) < ((c:Nat):Int) then bnd (J0 f ((a+c) / 2) Zy) λ b=>bnd (kP (bK.q b.a (N b.j.a) (N b.g.a) b.b) g) λ e=>if e < 0 then dB f g d (((a+c) / 2)+1) c else dB f g d a ((a+c) / 2) else a
def bQ (b:List bK) (d:Nat):Int × Bool:=
 bnd (dB b d ((X b - 0)+1) 0 (X b)) λ sLrL=>if((sLrL:Nat):Int) < ((X b:Nat):Int) then bnd (J0 b sLrL Zy) λ a=>bnd (kP (bK.q a.a (N a.j.a) (N a.g.a) a.b) d) λ c=>(((sLrL:Nat):Int),Zw (c=0)) else(((sLrL:Nat):Int),O)
theorem mE (w D z Z2 Z1 d0 h r M Z0) (H:Own w D w []) (K:s0 aY.abs d0=h) (o:Ro w D λ w'=>bV w' 4 z Z2 (q1 aY.L d0)) (m:∀ x ∈ d0,Ro w D (λ w'=>bV w' 6 x.j.A (X x.j.a) (q1 aV.L x.j.a))/\(X x.j.a<=x.j.c/\X x.j.a<=9223372036854775807)/\Ro w D (λ w'=>bV w' 3 x.g.A (X x.g.a) (q1 aL.L x.g.a))/\(X x.g.a<=x.g.c/\X x.g.a<=9223372036854775807)) (aa:Z2=X h) (aH:X h *64<=211106232532992) (hr:bQ h r=(M,Z0)):
    Calls y3 130 #[T z Z2 Z1,vU r, .func (.func 131) #[] #[]] w (dI λ v w'=>v= .tuple #[vI M, Y Z0]/\Own w D w' []/\(0<=M/\M<=((X h:Nat):Int))/\(Zd Z0=0\/M < ((X h:Nat):Int))):=by
 unfold bQ at hr
 subst aa
 have av:=bf K
 refine cb Tryz.func130 ?_
 refine sr (Az Z (Ar Z (Mz Z (Kz (vJ (X h)) (Ar Z (Mz Z (Az Z (An Z (JS (bo ?_))))))))))
 have af:=H.pk []
 obtain⟨ag,n⟩:=yG λ (a:Nat) (b:Nat) (s:Nat) w'=>Own w D w' []/\a<=b/\b<=X h/\b - a < s/\dB h r ((X h - 0)+1) 0 (X h)=dB h r s a b
 refine G3 (λ i:Nat × Nat × Nat=> [(9,vJ i.1),(10,vJ i.2.1),(8,vJ (X h)),(7, Y O),(6,vI 0),(0, T z (X h) Z1),(1,vU r),(2, .func (.func 131) #[] #[])]) ag (λ i=>i.2.2) (0,X h,(X h - 0)+1) ⟨Z,Z,Z,Z,Z,Z,Z,Z,ZV⟩ (n.2 ⟨af,U,U,U,Z⟩) ?_
 rintro ⟨a,b,s⟩ aI Z5
 show Wp _ _ _ [(9,vJ a),(10,vJ b),(8,vJ (X h)),(7, Y O),(6,vI 0),(0, T z (X h) Z1),(1,vU r),(2, .func (.func 131) #[] #[])] _ _
 obtain⟨l,ax,ay,az,t⟩:=n.1 Z5
 obtain⟨p,Z6⟩:∃ q,s=q+1:=⟨s - 1,U⟩
 subst Z6
 refine JS (sr (Mz Z (Mz Z (Kz (Za ((a:Int) < (b:Int))) (nt ?_)))))
 by_cases u:(a:Int) < (b:Int)
 refine jT (dT u) (sk (bo (sr (Mz Z (Mz Z (fw (vJ (a+b)) (J4 (e:=D3.wrap ((a:Int)+(b:Int))) yk f4) (fw (vU (a+b)) (J4 (e:=H3.wrap ((a+b:Nat):Int)) yk (IntWalk.u64_in _ U)) (fw (vU ((a+b) / 2)) (J4 (e:=Int.fdiv ((a+b:Nat):Int) 2) yk (vQ _ 1 _ f7)) (fw (vJ ((a+b) / 2)) (J4 (e:=D3.wrap (((a+b) / 2:Nat):Int)) yk (Ns _ U)) (Ar Z (Mz Z (Mz Z (Mz Z ?_)))))))))))))
 obtain⟨d,j⟩:=dM (ls:=d0) (i:=(a+b) / 2) aY.len f7 (l.ro o) f5
 have E:=ik K j
 have aA:=(m _ (G4 j)).2.1
 have aB:=(m _ (G4 j)).2.2.2
 refine fw (Zz (Zv ⟨ab z,ao z+((a+b) / 2) *4,Zk⟩)) (J9 (mi) Z Z ((l.ro o).addr (i:=(a+b) / 2) U) U) (fw (Zq (Zb (aY.L d))) (J5 Z (J7 (cs:=(aY.L d)) S1 S2 ((l.ro o).elem aY.len j f7))) (Mz Z ?_))
 obtain⟨L,y⟩:∃ q,kP (bK.q d.a (N d.j.a) (N d.g.a) d.b) r=q:=⟨_,Z⟩
 obtain⟨aJ,P,F,Q,aC⟩:=JZ l
 refine WL.do Z (KA Tryz.call131 Z Z (oQ _ _ (bK.q d.a (N d.j.a) (N d.g.a) d.b) d.j.A (X d.j.a) d.j.c d.g.A (X d.g.a) d.g.c r L P Z (F _ (m _ (G4 j)).1) U Z (F _ (m _ (G4 j)).2.2.1) U y) ?_)
 rintro _ aK ⟨rfl,R⟩
 have S:=Q _ _ R
 refine Kz (Za (L < 0)) (nt ?_)
 by_cases B:L < 0
 refine jT (dT B) (JW (Mz Z (fw (vI ((((a+b) / 2)+1:Nat):Int)) (J4 (e:=D3.wrap ((((a+b) / 2:Nat):Int)+1)) yk f4) (Az Z (G2 (bN ?_))))))
 have ah:=S.pk []
 exact Kb (((a+b) / 2)+1,b,p) ⟨Z,Z,Z,Z,Z,Z,Z,Z,ZV⟩ (n.2 ⟨ah,U,U,U,V (t) (V (ip u) (V (ae (bG E)) (V (ae y) (ip B))))⟩) (by show p < p+1; omega)
 refine jF (dF B) (JW (Mz Z (Az Z (G2 (bN ?_)))))
 have ai:=S.pk []
 exact Kb (a,(a+b) / 2,p) ⟨Z,Z,Z,Z,Z,Z,Z,Z,ZV⟩ (n.2 ⟨ai,U,U,U,V (t) (V (ip u) (V (ae (bG E)) (V (ae y) (iN B))))⟩) (by show p < p+1; omega)
 refine jF (dF u) (H0 (Ka ?_))
 have G:dB h r ((X h - 0)+1) 0 (X h)=a:=V (t) (iN u)
 refine Ka (Kh (JY (sr (Mz Z (Mz Z (Mz Z (Kz (Za ((a:Int) < (X h:Int))) (Mz Z ?_))))))))
 by_cases g:(a:Int) < (X h:Int)
 refine gw (.func (.func 131) #[] #[]) (dT g) (J3 Z) (gw (T z (X h) Z1) (dT g) (J3 Z) (gw (vJ a) (dT g) (J3 Z) ?_))
 obtain⟨f,k⟩:=dM (ls:=d0) (i:=a) aY.len f7 (l.ro o) f5
 have Z7:=ik K k
 have aD:=(m _ (G4 k)).2.1
 have aF:=(m _ (G4 k)).2.2.2
 refine gw (Zz (Zv ⟨ab z,ao z+a *4,Zk⟩)) (dT g) (J9 (mi) Z Z ((l.ro o).addr (i:=a) U) U) (gw (Zq (Zb (aY.L f))) (dT g) (J5 Z (J7 (cs:=(aY.L f)) S1 S2 ((l.ro o).elem aY.len k f7))) (gw (vU r) (dT g) (J3 Z) ?_))
 obtain⟨C,I⟩:∃ q,kP (bK.q f.a (N f.j.a) (N f.g.a) f.b) r=q:=⟨_,Z⟩
 obtain⟨aM,Z3,J,Z4,aG⟩:=JZ l
 refine KU Z Z (dT g) Z (KA Tryz.call131 Z Z (oQ _ _ (bK.q f.a (N f.j.a) (N f.g.a) f.b) f.j.A (X f.j.a) f.j.c f.g.A (X f.g.a) f.g.c r C Z3 Z (J _ (m _ (G4 k)).1) U Z (J _ (m _ (G4 k)).2.2.1) U I) ?_)
 rintro _ aN ⟨rfl,Z8⟩
 have aj:=Z4 _ _ Z8
 refine Gz (Za (C=0)) (dT g) (fw (Za (C=0)) (JX Z (dT g) Z) (Az Z (An Z (rt (Ke (lw Z Z Z) ?_)))))
 have ak:=aj.pk []
 obtain⟨rfl,rfl⟩:=fI (zj hr (show _=(((a:Nat):Int),decide (C=0)) from V (ae G) (V (ip g) (V (ae (bG Z7)) (ae I)))))
 exact⟨Z,ak,U,i4⟩
 refine Sz (dF g) (Sz (dF g) (Sz (dF g) (Sz (dF g) (Sz (dF g) (Sz (dF g) (Sz (dF g) (Sz (dF g) (fw (Y O) (JU Z (dF g) Z) (Az Z (An Z (rt (Ke (lw Z Z Z) ?_))))))))))))
 have au:=l.pk []
 obtain⟨rfl,rfl⟩:=fI (zj hr zq2)
 exact⟨Z,au,U,i4⟩
def cK (b:aB) (c:Nat):Int × Bool:=
 bnd (bQ b.b.a c) λ a=>(a.1,a.2)
theorem jM (w D B) (a:aB) (k l m n o p d e f r s I C M) (H:Own w D w [blk B (kB a k (X a.a.b.a) l m (X a.a.g.a) n o (X a.a.j.a) p a.a.t r d (X a.b.a) e s) 78]) (h:s0 aY.abs f=a.b.a) (z:Ro w D λ w'=>bV w' 4 d (X a.b.a) (q1 aY.L f)) (Z5:X a.b.a<=e/\X a.b.a<=9223372036854775807) (b:∀ x ∈ f,Ro w D (λ w'=>bV w' 6 x.j.A (X x.j.a) (q1 aV.L x.j.a))/\(X x.j.a<=x.j.c/\X x.j.a<=9223372036854775807)/\Ro w D (λ w'=>bV w' 3 x.g.A (X x.g.a) (q1 aL.L x.g.a))/\(X x.g.a<=x.g.c/\X x.g.a<=9223372036854775807)) (R:X a.b.a<=1000) (hr:cK a I=(C,M)):
    Calls y3 78 #[vP B 0,vU I] w (dI λ v w'=>v= .tuple #[vI C, Y M]/\Own w D w' [blk B (kB a k (X a.a.b.a) l m (X a.a.g.a) n o (X a.a.j.a) p a.a.t r d (X a.b.a) e s) 78]/\(0<=C/\C<=((X a.b.a:Nat):Int))/\(Zd M=0\/C < ((X a.b.a:Nat):Int))):=by
 unfold cK at hr
 have J:=bf h
 refine cb Tryz.func78 ?_
 refine sr (Az Z (Ar Z (Mz Z (Kz (vP B 0) (Kz (vP B 18) (Lz (T d (X a.b.a) e) H 0 S3 (Mz Z ?_)))))))
 obtain⟨⟨g,j⟩,t⟩:∃ q:Int × Bool,bQ a.b.a I=q:=⟨_,Z⟩
 obtain⟨S,E,i,F,Q⟩:=JZ H
 refine cl Tryz.call130 (mE _ _ d (X a.b.a) e f a.b.a I g j E h (i _ z) (λ K L=>⟨i _ (b K L).1,(b K L).2.1,i _ (b K L).2.2.1,(b K L).2.2.2⟩) Z U t) ?_
 rintro _ Z7 ⟨rfl,G,u,y⟩
 have Z6:=F _ _ G
 replace u:0<=g/\g<=(X a.b.a:Int):=u
 replace y:Zd j=0\/g < (X a.b.a:Int):=y
 refine Kz (vI g) (Kz (Y j) (Az Z (An Z (rt (Ke (lw Z Z Z) ?_)))))
 have P:=Z6.pf []
 obtain⟨rfl,rfl⟩:=fI (zj hr zq1)
 exact⟨Z,P,U,i4⟩
def lH (b:dG) (c:Nat):Int:=
 bnd (fo b.r c) λ a=>a
theorem pO (w D) (a:dG) (b d c l s) (H:Own w D w []) (f:d=X a.a.a) (m:Ro w D λ w'=>bV w' 6 b (X a.a.a) (q1 aV.L a.a.a)) (n:X a.a.a<=c/\X a.a.a<=9223372036854775807) (hr:lH a l=s):
    Calls y3 127 #[Zq #[vU a.r, T b d c],vU l] w (dI λ v w'=>v=vI s/\Own w D w' []):=by
 unfold lH at hr
 subst f
 refine cb Tryz.func127 ?_
 refine sr ?_
 refine cB [vU a.r, T b (X a.a.a) c] 80 H ?_
 intro o x g
 refine Ar Z (Kz (vP o 0) (Lz (vU a.r) g 0 E0 (Mz Z ?_)))
 obtain⟨h,e⟩:∃ q,fo a.r l=q:=⟨_,Z⟩
 obtain⟨y,i,t,j,u⟩:=JZ g
 refine cl Tryz.call128 (mX _ _ a.r l h i e) ?_
 rintro _ z ⟨rfl,k⟩
 have p:=j _ _ k
 refine An Z (rt (rs ?_))
 have r:=p.pk []
 obtain rfl:=zj hr zq1
 exact⟨Z,r⟩
def dK (f:List dG) (g:Nat):Nat->Nat->Nat->Nat
  | 0,a,b=>Zy
  | d+1,a,b=>if((a:Nat):Int) < ((b:Nat):Int) then bnd (J0 f ((a+b) / 2) Zy) λ c=>bnd (lH (dG.q c.r (N c.a.a)) g) λ e=>if e < 0 then dK f g d (((a+b) / 2)+1) b else dK f g d a ((a+b) / 2) else a
def bU (b:List dG) (d:Nat):Int × Bool:=
 bnd (dK b d ((X b - 0)+1) 0 (X b)) λ sLrL=>if((sLrL:Nat):Int) < ((X b:Nat):Int) then bnd (J0 b sLrL Zy) λ a=>bnd (lH (dG.q a.r (N a.a.a)) d) λ c=>(((sLrL:Nat):Int),Zw (c=0)) else(((sLrL:Nat):Int),O)
theorem nD (w D y Z2 Z1 d0 h p K Z0) (H:Own w D w []) (I:s0 bA.abs d0=h) (n:Ro w D λ w'=>bV w' 2 y Z2 (q1 bA.L d0)) (z:∀ x ∈ d0,Ro w D (λ w'=>bV w' 6 x.a.A (X x.a.a) (q1 aV.L x.a.a))/\(X x.a.a<=x.a.c/\X x.a.a<=9223372036854775807)) (aa:Z2=X h) (aF:X h *32<=211106232532992) (hr:bU h p=(K,Z0)):
    Calls y3 126 #[T y Z2 Z1,vU p, .func (.func 127) #[] #[]] w (dI λ v w'=>v= .tuple #[vI K, Y Z0]/\Own w D w' []/\(0<=K/\K<=((X h:Nat):Int))/\(Zd Z0=0\/K < ((X h:Nat):Int))):=by
 unfold bU at hr
 subst aa
 have av:=bf I
 refine cb Tryz.func126 ?_
 refine sr (Az Z (Ar Z (Mz Z (Kz (vJ (X h)) (Ar Z (Mz Z (Az Z (An Z (JS (bo ?_))))))))))
 have af:=H.pk []
 obtain⟨ag,k⟩:=yG λ (a:Nat) (b:Nat) (r:Nat) w'=>Own w D w' []/\a<=b/\b<=X h/\b - a < r/\dK h p ((X h - 0)+1) 0 (X h)=dK h p r a b
 refine G3 (λ i:Nat × Nat × Nat=> [(9,vJ i.1),(10,vJ i.2.1),(8,vJ (X h)),(7, Y O),(6,vI 0),(0, T y (X h) Z1),(1,vU p),(2, .func (.func 127) #[] #[])]) ag (λ i=>i.2.2) (0,X h,(X h - 0)+1) ⟨Z,Z,Z,Z,Z,Z,Z,Z,ZV⟩ (k.2 ⟨af,U,U,U,Z⟩) ?_
 rintro ⟨a,b,r⟩ aG L
 show Wp _ _ _ [(9,vJ a),(10,vJ b),(8,vJ (X h)),(7, Y O),(6,vI 0),(0, T y (X h) Z1),(1,vU p),(2, .func (.func 127) #[] #[])] _ _
 obtain⟨j,ax,ay,az,s⟩:=k.1 L
 obtain⟨o,M⟩:∃ q,r=q+1:=⟨r - 1,U⟩
 subst M
 refine JS (sr (Mz Z (Mz Z (Kz (Za ((a:Int) < (b:Int))) (nt ?_)))))
 by_cases t:(a:Int) < (b:Int)
 refine jT (dT t) (sk (bo (sr (Mz Z (Mz Z (fw (vJ (a+b)) (J4 (e:=D3.wrap ((a:Int)+(b:Int))) yk f4) (fw (vU (a+b)) (J4 (e:=H3.wrap ((a+b:Nat):Int)) yk (IntWalk.u64_in _ U)) (fw (vU ((a+b) / 2)) (J4 (e:=Int.fdiv ((a+b:Nat):Int) 2) yk (vQ _ 1 _ f7)) (fw (vJ ((a+b) / 2)) (J4 (e:=D3.wrap (((a+b) / 2:Nat):Int)) yk (Ns _ U)) (Ar Z (Mz Z (Mz Z (Mz Z ?_)))))))))))))
 obtain⟨f,l⟩:=dM (ls:=d0) (i:=(a+b) / 2) bA.len f7 (j.ro n) f5
 have E:=ik I l
 have aA:=(z _ (G4 l)).2
 refine fw (Zz (Zv ⟨ab y,ao y+((a+b) / 2) *2,Zk⟩)) (J9 (kY) Z Z ((j.ro n).addr (i:=(a+b) / 2) U) U) (fw (Zq (Zb (bA.L f))) (J5 Z (J7 (cs:=(bA.L f)) R6 R7 ((j.ro n).elem bA.len l f7))) (Mz Z ?_))
 obtain⟨J,u⟩:∃ q,lH (dG.q f.r (N f.a.a)) p=q:=⟨_,Z⟩
 obtain⟨aH,Z5,Z6,P,aB⟩:=JZ j
 refine WL.do Z (KA Tryz.call127 Z Z (pO _ _ (dG.q f.r (N f.a.a)) f.a.A (X f.a.a) f.a.c p J Z5 Z (Z6 _ (z _ (G4 l)).1) U u) ?_)
 rintro _ aI ⟨rfl,Q⟩
 have R:=P _ _ Q
 refine Kz (Za (J < 0)) (nt ?_)
 by_cases B:J < 0
 refine jT (dT B) (JW (Mz Z (fw (vI ((((a+b) / 2)+1:Nat):Int)) (J4 (e:=D3.wrap ((((a+b) / 2:Nat):Int)+1)) yk f4) (Az Z (G2 (bN ?_))))))
 have ah:=R.pk []
 exact Kb (((a+b) / 2)+1,b,o) ⟨Z,Z,Z,Z,Z,Z,Z,Z,ZV⟩ (k.2 ⟨ah,U,U,U,V (s) (V (ip t) (V (ae (bG E)) (V (ae u) (ip B))))⟩) (by show o < o+1; omega)
 refine jF (dF B) (JW (Mz Z (Az Z (G2 (bN ?_)))))
 have ai:=R.pk []
 exact Kb (a,(a+b) / 2,o) ⟨Z,Z,Z,Z,Z,Z,Z,Z,ZV⟩ (k.2 ⟨ai,U,U,U,V (s) (V (ip t) (V (ae (bG E)) (V (ae u) (iN B))))⟩) (by show o < o+1; omega)
 refine jF (dF t) (H0 (Ka ?_))
 have F:dK h p ((X h - 0)+1) 0 (X h)=a:=V (s) (iN t)
 refine Ka (Kh (JY (sr (Mz Z (Mz Z (Mz Z (Kz (Za ((a:Int) < (X h:Int))) (Mz Z ?_))))))))
 by_cases d:(a:Int) < (X h:Int)
 refine gw (.func (.func 127) #[] #[]) (dT d) (J3 Z) (gw (T y (X h) Z1) (dT d) (J3 Z) (gw (vJ a) (dT d) (J3 Z) ?_))
 obtain⟨g,m⟩:=dM (ls:=d0) (i:=a) bA.len f7 (j.ro n) f5
 have S:=ik I m
 have aC:=(z _ (G4 m)).2
 refine gw (Zz (Zv ⟨ab y,ao y+a *2,Zk⟩)) (dT d) (J9 (kY) Z Z ((j.ro n).addr (i:=a) U) U) (gw (Zq (Zb (bA.L g))) (dT d) (J5 Z (J7 (cs:=(bA.L g)) R6 R7 ((j.ro n).elem bA.len m f7))) (gw (vU p) (dT d) (J3 Z) ?_))
 obtain⟨C,G⟩:∃ q,lH (dG.q g.r (N g.a.a)) p=q:=⟨_,Z⟩
 obtain⟨aJ,Z7,Z3,Z4,aD⟩:=JZ j
 refine KU Z Z (dT d) Z (KA Tryz.call127 Z Z (pO _ _ (dG.q g.r (N g.a.a)) g.a.A (X g.a.a) g.a.c p C Z7 Z (Z3 _ (z _ (G4 m)).1) U G) ?_)
 rintro _ aK ⟨rfl,Z8⟩
 have aj:=Z4 _ _ Z8
 refine Gz (Za (C=0)) (dT d) (fw (Za (C=0)) (JX Z (dT d) Z) (Az Z (An Z (rt (Ke (lw Z Z Z) ?_)))))
 have ak:=aj.pk []
 obtain⟨rfl,rfl⟩:=fI (zj hr (show _=(((a:Nat):Int),decide (C=0)) from V (ae F) (V (ip d) (V (ae (bG S)) (ae G)))))
 exact⟨Z,ak,U,i4⟩
 refine Sz (dF d) (Sz (dF d) (Sz (dF d) (Sz (dF d) (Sz (dF d) (Sz (dF d) (Sz (dF d) (Sz (dF d) (fw (Y O) (JU Z (dF d) Z) (Az Z (An Z (rt (Ke (lw Z Z Z) ?_))))))))))))
 have au:=j.pk []
 obtain⟨rfl,rfl⟩:=fI (zj hr zq2)
 exact⟨Z,au,U,i4⟩
def eG (b:aB) (c:Nat):Int × Bool:=
 bnd (bU b.a.g.a c) λ a=>(a.1,a.2)
theorem nU (w D B) (a:aB) (j k b d e l m n o p r I C K) (H:Own w D w [blk B (kB a j (X a.a.b.a) k b (X a.a.g.a) d l (X a.a.j.a) m a.a.t p n (X a.b.a) o r) 78]) (g:s0 bA.abs e=a.a.g.a) (z:Ro w D λ w'=>bV w' 2 b (X a.a.g.a) (q1 bA.L e)) (L:X a.a.g.a<=d/\X a.a.g.a<=9223372036854775807) (h:∀ x ∈ e,Ro w D (λ w'=>bV w' 6 x.a.A (X x.a.a) (q1 aV.L x.a.a))/\(X x.a.a<=x.a.c/\X x.a.a<=9223372036854775807)) (R:X a.a.g.a<=1000) (hr:eG a I=(C,K)):
    Calls y3 76 #[vP B 0,vU I] w (dI λ v w'=>v= .tuple #[vI C, Y K]/\Own w D w' [blk B (kB a j (X a.a.b.a) k b (X a.a.g.a) d l (X a.a.j.a) m a.a.t p n (X a.b.a) o r) 78]/\(0<=C/\C<=((X a.a.g.a:Nat):Int))/\(Zd K=0\/C < ((X a.a.g.a:Nat):Int))):=by
 unfold eG at hr
 have J:=bf g
 refine cb Tryz.func76 ?_
 refine sr (Az Z (Ar Z (Mz Z (Kz (vP B 0) (Kz (vP B 0) (Kz (vP B 6) (Lz (T b (X a.a.g.a) d) H 0 D4 (Mz Z ?_))))))))
 obtain⟨⟨f,i⟩,s⟩:∃ q:Int × Bool,bU a.a.g.a I=q:=⟨_,Z⟩
 obtain⟨S,E,t,F,Z6⟩:=JZ H
 refine cl Tryz.call126 (nD _ _ b (X a.a.g.a) d e a.a.g.a I f i E g (t _ z) (λ P Q=>⟨t _ (h P Q).1,(h P Q).2⟩) Z U s) ?_
 rintro _ Z7 ⟨rfl,G,u,y⟩
 have M:=F _ _ G
 replace u:0<=f/\f<=(X a.a.g.a:Int):=u
 replace y:Zd i=0\/f < (X a.a.g.a:Int):=y
 refine Kz (vI f) (Kz (Y i) (Az Z (An Z (rt (Ke (lw Z Z Z) ?_)))))
 have Z5:=M.pf []
 obtain⟨rfl,rfl⟩:=fI (zj hr zq1)
 exact⟨Z,Z5,U,i4⟩
def je:List bK->List Nat->(List Nat)
  | [],a=>a
  | b::c,a=>je c (a++ [b.a])
def qD (a:aB):(List Nat):=
 bnd (je a.b.a []) λ sLrL=>sLrL
theorem wh (w D M) (a:aB) (l n o p r t f g u z B Z4) (H:Own w D w [blk M (kB a l (X a.a.b.a) n o (X a.a.g.a) p r (X a.a.j.a) t a.a.t z f (X a.b.a) g B) 78]) (E:s0 aY.abs u=a.b.a) (j:Ro w D λ w'=>bV w' 4 f (X a.b.a) (q1 aY.L u)) (Z1:X a.b.a<=g/\X a.b.a<=9223372036854775807) (F:∀ x ∈ u,Ro w D (λ w'=>bV w' 6 x.j.A (X x.j.a) (q1 aV.L x.j.a))/\(X x.j.a<=x.j.c/\X x.j.a<=9223372036854775807)/\Ro w D (λ w'=>bV w' 3 x.g.A (X x.g.a) (q1 aL.L x.g.a))/\(X x.g.a<=x.g.c/\X x.g.a<=9223372036854775807)) (aI:X a.b.a<=1000) (hr:qD a=Z4):
    Calls y3 14 #[vP M 0] w (dI λ v w'=> ∃ B0 b0,v= T B0 (X Z4) b0/\Own w D w' [row B0 (X Z4) b0 (q1 (eN .u64) Z4) 33 1,blk M (kB a l (X a.a.b.a) n o (X a.a.g.a) p r (X a.a.j.a) t a.a.t z f (X a.b.a) g B) 78]):=by
 unfold qD at hr
 have Z8:=bf E
 refine cb Tryz.func14 ?_
 refine sr (Ar Z (An Z (JS (sr (Mz Z (Kz (vP M 0) (Kz (vP M 18) (Lz (T f (X a.b.a) g) H 0 S3 (Kz (vJ (X a.b.a)) (Mn Z (bo ?_)))))))))))
 have Z2:Own w D w [row Zk 0 0 (q1 (eN .u64) []) 33 1,blk M (kB a l (X a.a.b.a) n o (X a.a.g.a) p r (X a.a.j.a) t a.a.t z f (X a.b.a) g B) 78]:=H.free (bW 33 1)
 have Z0:=Z2.pb [0]
 obtain⟨aa,G⟩:=uG λ J (K:Nat) d (b:Nat) w'=>Own w D w' [blk M (kB a l (X a.a.b.a) n o (X a.a.g.a) p r (X a.a.j.a) t a.a.t z f (X a.b.a) g B) 78,row J (X d) K (q1 (eN .u64) d) 33 1]/\b<=X a.b.a/\X d=b/\X d<=b/\je a.b.a []=je (r8 b a.b.a) d
 refine G3 (λ i:(Option Addr) × Nat × (List Nat) × Nat=> [(3, T i.1 (X i.2.2.1) i.2.1),(11,vJ i.2.2.2),(10,vJ (X a.b.a)),(9, T f (X a.b.a) g),(2, T Zk 0 0)]) aa (λ i=>X a.b.a - i.2.2.2) (Zk,0, [],0) ⟨Z,Z,Z,Z,Z,ZV⟩ (G.2 ⟨Z0,(show 0<=X a.b.a/\0=0/\0<=0/\je a.b.a []=je (r8 0 a.b.a) [] from ⟨U,U,U,Z⟩)⟩) ?_
 rintro ⟨J,K,d,b⟩ aJ Z6
 show Wp _ _ _ [(3, T J (X d) K),(11,vJ b),(10,vJ (X a.b.a)),(9, T f (X a.b.a) g),(2, T Zk 0 0)] _ _
 obtain⟨I,aA,aC,aD,L⟩:=G.1 Z6
 refine sr (Kz (Za ((b:Int) < (X a.b.a:Int))) (nt (JS ?_)))
 by_cases P:(b:Int) < (X a.b.a:Int)
 obtain⟨h,C⟩:=dM (ls:=u) (i:=b) aY.len f7 (I.ro j) f5
 have Q:=ik E C
 have aF:=(F _ (G4 C)).2.1
 have aG:=(F _ (G4 C)).2.2.2
 have R:=drop_at Q
 refine jT (dT P) (sk (JS (bo (sr (fw (Zz (Zv ⟨ab f,ao f+b *4,Zk⟩)) (J9 (mi) Z Z ((I.ro j).addr (i:=b) U) U) (fw (Zq (Zb (aY.L h))) (J5 Z (J7 (cs:=(aY.L h)) S1 S2 ((I.ro j).elem aY.len C f7))) ?_))))))
 refine cB [.int .u64 0, T Zk 0 0, T Zk 0 0,vI 0] 100 I ?_
 intro af aK ag
 refine cu (aY.L h) 0 ag S2 ?_
 intro aM S
 refine nt (JW (Mz Z (Kz (vP af 0) (Lz (vU h.a) S 0 E0 ?_))))
 refine j6 [vU h.a] 33 1 1 S ?_
 intro ah aN Z5
 replace Z5:=Ku (y:=row ah 1 1 (q1 (eN .u64) ([h.a])) 33 1) Z Z5
 have Z7:=Z5.pf [3]
 refine WL.do Z (Kk (k:=X d) (m:=1) (jk) Z7 Z Z (eO P7 (Z7.rds (i:=1) Z) (cO nu ([h.a]))) Z U (s:=X (d++ [h.a])) f6 (u3).symm ?_)
 intro ai aj aO ak
 have aH:X (d++ [h.a])=X d+1:=by simp only [o3,q6,L0]
 refine Az Z (G2 (bN (JY ?_)))
 have au:=ak.pk [0,3]
 refine JW (fw (vJ (b+1)) (J4 (e:=D3.wrap ((b:Int)+1)) yk f4) (Mz Z (G2 ?_)))
 have av:=au.pb [0]
 exact Kb (ai,aj,(d++ [h.a]),b+1) ⟨Z,Z,Z,Z,Z,ZV⟩ (G.2 ⟨av,U,U,U,V (L) (V (ZX (λ q=>je q d) R) Z)⟩) (by show X a.b.a - (b+1) < X a.b.a - b; omega)
 refine jF (dF P) (H0 (Ka ?_))
 have Z3:je a.b.a []=d:=V (L) (V (ZX (λ q=>je q d) (eU (ls:=a.b.a) (i:=b) U)) Z)
 refine Ka (Kh (JY (sr (Mz Z (An Z (rt (rs ?_)))))))
 have ax:=I.pb [0]
 obtain rfl:=zj hr zq1
 exact⟨J,K,Z,ax⟩
def lK (a:Nat):Bool:=
 O
theorem ru (w D a c) (H:Own w D w []) (hr:lK a=c):
    Calls y3 125 #[vU a] w (dI λ v w'=>v= Y c/\Own w D w' []):=by
 refine cb Tryz.func125 ?_
 refine sr (Ar Z (Mz Z (Mz Z (fw (Y O) (Kc (e:= !(Zw ((a:Int)=(a:Int)))) yk i2) (An Z (rt (rs ?_)))))))
 have b:=H.pk []
 obtain rfl:_=O:=zj hr Z
 exact⟨Z,b⟩
def fZ (f:List Nat) (g:Nat):Nat->Nat->Nat->Nat
  | 0,a,b=>Zy
  | c+1,a,b=>if((a:Nat):Int) < ((b:Nat):Int) then bnd (J0 f ((a+b) / 2) Zy) λ d=>bnd (l9 d g) λ e=>if e=Zj then fZ f g c (((a+b) / 2)+1) b else fZ f g c a ((a+b) / 2) else a
def dV (b:List Nat) (e:Nat):Int × Bool:=
 bnd (fZ b e ((W (((X b:Nat):Int) - 0))+1) 0 (X b)) λ sLrL=>if((sLrL:Nat):Int) < ((X b:Nat):Int) then bnd (J0 b sLrL Zy) λ a=>if((a:Nat):Int)=((e:Nat):Int) then(((sLrL:Nat):Int),Zj) else bnd (lK a) λ c=>if c=Zj then bnd (lK e) λ d=>(((sLrL:Nat):Int),d) else(((sLrL:Nat):Int),O) else(((sLrL:Nat):Int),O)
theorem lm (w D s Z2 I f m Z1 r1) (H:Own w D w []) (j:Ro w D λ w'=>bV w' 1 s Z2 (q1 (eN .u64) f)) (Z0:Z2=X f) (aH:X f *8<=211106232532992) (hr:dV f m=(Z1,r1)):
    Calls y3 75 #[T s Z2 I,vU m] w (dI λ v w'=>v= .tuple #[vI Z1, Y r1]/\Own w D w' []/\(0<=Z1/\Z1<=((X f:Nat):Int))):=by
 unfold dV at hr
 subst Z0
 refine cb Tryz.func75 ?_
 refine sr (Az Z (Ar Z (Mz Z (Kz (vJ (X f)) (Ar Z (Mz Z (Az Z (An Z (JS (bo ?_))))))))))
 have aa:=H.pk []
 obtain⟨af,o⟩:=yG λ (a:Nat) (c:Nat) (t:Nat) w'=>Own w D w' []/\(0<=a/\a<=(c:Int)/\c<=X f)/\W ((c:Int) - a) < t/\fZ f m ((W ((X f:Int) - 0))+1) 0 (X f)=fZ f m t a c
 refine G3 (λ i:Nat × Nat × Nat=> [(7,vJ i.1),(8,vJ i.2.1),(6,vJ (X f)),(5, Y O),(4,vI 0),(0, T s (X f) I),(1,vU m)]) af (λ i=>i.2.2) (0,X f,(W ((X f:Int) - 0))+1) ⟨Z,Z,Z,Z,Z,Z,Z,ZV⟩ (o.2 ⟨aa,U,U,Z⟩) ?_
 rintro ⟨a,c,t⟩ aI J
 show Wp _ _ _ [(7,vJ a),(8,vJ c),(6,vJ (X f)),(5, Y O),(4,vI 0),(0, T s (X f) I),(1,vU m)] _ _
 obtain⟨g,ay,az,u⟩:=o.1 J
 obtain⟨r,K⟩:∃ q,t=q+1:=⟨t - 1,U⟩
 subst K
 refine JS (sr (Mz Z (Mz Z (Kz (Za ((a:Int) < (c:Int))) (nt ?_)))))
 by_cases x:(a:Int) < (c:Int)
 refine jT (dT x) (sk (bo (sr (Mz Z (Mz Z (fw (vJ (a+c)) (J4 (e:=D3.wrap ((a:Int)+(c:Int))) yk f4) (fw (vU (a+c)) (J4 (e:=H3.wrap ((a+c:Nat):Int)) yk (IntWalk.u64_in _ U)) (fw (vU ((a+c) / 2)) (J4 (e:=Int.fdiv ((a+c:Nat):Int) 2) yk (vQ _ 1 _ f7)) (fw (vJ ((a+c) / 2)) (J4 (e:=D3.wrap (((a+c) / 2:Nat):Int)) yk (Ns _ U)) (Ar Z (Mz Z (Mz Z ?_))))))))))))
 obtain⟨F,y⟩:=dM (ls:=f) (i:=(a+c) / 2) iQ f7 (g.ro j) f5
 refine fw (Zz (Zv ⟨ab s,ao s+((a+c) / 2) *1,Zk⟩)) (J9 (jk) Z Z ((g.ro j).addr (i:=(a+c) / 2) U) U) (fw (vU F) (J5 Z (bO.one E0 (((g.ro j).elem iQ y f7).at_ (k:=0) Z))) (Mz Z ?_))
 obtain⟨L,z⟩:∃ q,l9 F m=q:=⟨_,Z⟩
 obtain⟨aJ,M,aA,Z5,aB⟩:=JZ g
 refine cl Tryz.call124 (uf _ _ F m L M z) ?_
 rintro _ aK ⟨rfl,Z6⟩
 have P:=Z5 _ _ Z6
 refine nt ?_
 rcases Nv (L) with A | A
 refine jT A (JW (Mz Z (fw (vI ((((a+c) / 2)+1:Nat):Int)) (J4 (e:=D3.wrap ((((a+c) / 2:Nat):Int)+1)) yk f4) (Az Z (G2 (bN ?_))))))
 have ag:=P.pk []
 exact Kb (((a+c) / 2)+1,c,r) ⟨Z,Z,Z,Z,Z,Z,Z,ZV⟩ (o.2 ⟨ag,U,U,V (u) (V (ip x) (V (ae (bG y)) (V (ae z) (ip A))))⟩) (by show r < r+1; omega)
 refine jF A (JW (Mz Z (Az Z (G2 (bN ?_)))))
 have ah:=P.pk []
 exact Kb (a,(a+c) / 2,r) ⟨Z,Z,Z,Z,Z,Z,Z,ZV⟩ (o.2 ⟨ah,U,U,V (u) (V (ip x) (V (ae (bG y)) (V (ae z) (eD A))))⟩) (by show r < r+1; omega)
 refine jF (dF x) (H0 (Ka ?_))
 have p:fZ f m ((W ((X f:Int) - 0))+1) 0 (X f)=a:=V (u) (iN x)
 refine Ka (Kh (JY (sr (Mz Z (Mz Z (Mz Z (Kz (Za ((a:Int) < (X f:Int))) (Mz Z ?_))))))))
 by_cases b:(a:Int) < (X f:Int)
 refine gw (T s (X f) I) (dT b) (J3 Z) (gw (vJ a) (dT b) (J3 Z) ?_)
 obtain⟨n,l⟩:=dM (ls:=f) (i:=a) iQ f7 (g.ro j) f5
 refine gw (Zz (Zv ⟨ab s,ao s+a *1,Zk⟩)) (dT b) (J9 (jk) Z Z ((g.ro j).addr (i:=a) U) U) (gw (vU n) (dT b) (J5 Z (bO.one E0 (((g.ro j).elem iQ l f7).at_ (k:=0) Z))) (gw (vU m) (dT b) (J3 Z) (Gz (Za ((n:Int)=(m:Int))) (dT b) (gw (Za ((n:Int)=(m:Int))) (dT b) (J3 Z) ?_))))
 by_cases d:(n:Int)=(m:Int)
 refine Sz (dT d) (Sz (dT d) (Sz (dT d) (Sz (dT d) (Sz (dT d) (Sz (dT d) (QW (QW (Sz (dT d) (gw (Y Zj) (dT b) (JX Z (dT d) Z) (fw (Y Zj) (JX Z (dT b) Z) (Az Z (An Z (rt (Ke (lw Z Z Z) ?_))))))))))))))
 have ai:=g.pk []
 obtain⟨rfl,rfl⟩:=fI (zj hr zq4)
 exact⟨Z,ai,U⟩
 refine gw (T s (X f) I) (dF d) (J3 Z) (gw (vJ a) (dF d) (J3 Z) (gw (Zz (Zv ⟨ab s,ao s+a *1,Zk⟩)) (dF d) (J9 (jk) Z Z ((g.ro j).addr (i:=a) U) U) (gw (vU n) (dF d) (J5 Z (bO.one E0 (((g.ro j).elem iQ l f7).at_ (k:=0) Z))) ?_)))
 obtain⟨G,B⟩:∃ q,lK n=q:=⟨_,Z⟩
 obtain⟨aL,Q,aC,R,aD⟩:=JZ g
 refine oI (dF d) Tryz.call125 (ru _ _ n G Q B) ?_
 rintro _ aM ⟨rfl,S⟩
 have Z7:=R _ _ S
 refine gw (Y G) (dF d) (J3 Z) ?_
 rcases Nv (G) with h | h
 refine KC (v:=vU m) Z Z h Z (J3 Z) ?_
 obtain⟨C,E⟩:∃ q,lK m=q:=⟨_,Z⟩
 obtain⟨aN,Z3,aF,Z4,aG⟩:=JZ Z7
 refine KU Z Z h Z (Ki Tryz.call125 Z (ru _ _ m C Z3 E) ?_)
 rintro _ aO ⟨rfl,Z8⟩
 have aj:=Z4 _ _ Z8
 refine gw (Y C) (dF d) (JX Z h Z) (gw (Y C) (dT b) (JU Z (dF d) Z) (fw (Y C) (JX Z (dT b) Z) (Az Z (An Z (rt (Ke (lw Z Z Z) ?_))))))
 have ak:=aj.pk []
 obtain⟨rfl,rfl⟩:=fI (zj hr zq7)
 exact⟨Z,ak,U⟩
 refine Sz h (Sz h (gw (Y O) (dF d) (JU Z h Z) (gw (Y O) (dT b) (JU Z (dF d) Z) (fw (Y O) (JX Z (dT b) Z) (Az Z (An Z (rt (Ke (lw Z Z Z) ?_))))))))
 have au:=Z7.pk []
 obtain⟨rfl,rfl⟩:=fI (zj hr zq6)
 exact⟨Z,au,U⟩
 refine Sz (dF b) (Sz (dF b) (Sz (dF b) (Sz (dF b) (Sz (dF b) (Sz (dF b) (Sz (dF b) (QW (QW (QW (QW (QW (QW (QW (QW (QW (Sz (dF b) (fw (Y O) (JU Z (dF b) Z) (Az Z (An Z (rt (Ke (lw Z Z Z) ?_)))))))))))))))))))))
 have av:=g.pk []
 obtain⟨rfl,rfl⟩:=fI (zj hr zq2)
 exact⟨Z,av,U⟩
def jH (a:List Nat) (b:Int) (c:Int):(List Nat):=
 if b=c then a else(u2 (W b) a++r8 (W c) a)
theorem sN (w D f o d a c b j) (H:Own w D w [row f o d (q1 (eN .u64) a) 33 1]) (p:o=X a) (J:X a *8<=211106232532992) (K:0<=c/\c<=b/\b<=((X a:Nat):Int)) (hr:jH a c b=j):
    Calls y3 123 #[T f o d,vI c,vI b] w (dI λ v w'=> ∃ B C,v= T B (X j) C/\Own w D w' [row B (X j) C (q1 (eN .u64) j) 33 1]/\(X j<=X a)):=by
 unfold jH at hr
 subst p
 have L:=H.rowC (i:=0) Z
 refine cb Tryz.func123 ?_
 refine sr (Ar Z (Mz Z (fw (vJ (W c)) (J4 (e:=c) (J3 Z) U) (fw (vJ (W b)) (J4 (e:=b) (J3 Z) U) (Mz Z (Kz (vJ (X a)) (fw (T (fA f (W c) 1 (X a)) ((W b) - (W c)) (X a - (W c))) (Lx (jk) Z Z Z Z U U U) (nt (JS (sr (Mz Z (Mz Z (Kz (Za (c=b)) (nt ?_))))))))))))))
 by_cases h:c=b
 refine jT (dT h) (sr (Mz Z (An Z (rt (tR (rs ?_))))))
 have q:=H.pf []
 obtain rfl:=zj hr zq1
 exact⟨f,d,Z,q,U⟩
 refine jF (dF h) (sk (sr (Mz Z (Kz (vJ (X a)) (An Z (JS ?_))))))
 have g:=H.drew
 refine K8 [6] (λ Z8=> ∃ L',Own w D Z8 ([row f (X a) d (q1 (eN .u64) a) 33 1]++L')) f1 f1 (J6 Kg) ⟨_,g⟩ ?_
 revert g
 generalize World.drew w=r
 intro g
 refine qv 0 Z Z (qt (v:=vJ (W c)) 1 Z (λ _ _=>J4 (e:=c) (J3 Z) U) (qt (v:= T f (W c) d) 2 Z (λ _ _=>KN (jk) Z Z U) (qv 3 Z Z (qt (v:=vJ (W b)) 4 Z (λ _ _=>J4 (e:=b) (J3 Z) U) (qt (v:= T (fA f (W b) 1 d) (X a - (W b)) (d - (W b))) 5 Z (λ _ _=>Kv (jk) Z Z U) ?_)))))
 have E:X (u2 (W c) a++r8 (W b) a)=W c+(X a - W b):=by simp only [o3,o1,o2]; omega
 have l:Src y3 1 36 (T (fA f (W b) 1 d) (X a - (W b)) (d - (W b))) (X a - W b) (q1 (eN .u64) (r8 (W b) a)) r:=eO P7 (KP (lo:=W b) iQ (g.rds (i:=0) Z) U U f7) (cO nu (r8 (W b) a))
 obtain⟨F,t,u⟩:=g.rowFull
 refine qd 6 Z (KX (k:=W c) (m:=X a - W b) (jk) u Z Z l U (s:=X (u2 (W c) a++r8 (W b) a)) U ?_)
 intro M n
 refine⟨.inl f1, ?_⟩
 refine Kr (v:= T f (X (u2 (W c) a++r8 (W b) a)) d) 7 Z f1 (λ _=>KV Z) (qn (JY (sr (Mz Z (Mz Z (Kz (vI ((X (u2 (W c) a++r8 (W b) a):Nat):Int)) (Mz Z (fw (T (fA f (X (u2 (W c) a++r8 (W b) a)) 1 d) (X a - (X (u2 (W c) a++r8 (W b) a))) (d - (X (u2 (W c) a++r8 (W b) a)))) (Yl.cut (jk) Z Z Z U U) ?_))))))))
 refine KO (Lp (z0:=(.int .u64 0)) (lo:=X (u2 (W c) a++r8 (W b) a)) (nd:=(X a - (X (u2 (W c) a++r8 (W b) a)))) f1 Z (jk) n Z (λ _=>ig ((n.rds (i:=0) Z).isSome U) U) U ?_)
 intro x G I y
 refine ns (Mz Z (An Z (rt (rs ?_))))
 have z:Own w D x [row f (X (u2 (W c) a++r8 (W b) a)) d (q1 (eN .u64) (u2 (W c) a++r8 (W b) a)) 33 1]:=y.rowPart U (tZ iQ U U Z)
 have A:=z.pf []
 obtain rfl:=zj hr zq1
 exact⟨f,d,Z,A,U⟩
def iB (a:aB) (d:Nat):aB:=
 bnd (dV a.a.j.a (max a.a.t d)) λ b=>bnd (jH a.a.j.a 0 b.1) λ c=>aB.q (bH.q a.a.r a.a.y a.a.u a.a.z a.a.k (N a.a.b.a) (N a.a.g.a) (N c) (max a.a.t d) a.a.B a.a.s a.a.a) (N a.b.a)
theorem uR (w D b) (a:aB) (l m n o c d p r s t j) (B:aB) (H:Own w D w [blk b (kB a l (X a.a.b.a) m n (X a.a.g.a) o c (X a.a.j.a) d a.a.t s p (X a.b.a) r t) 78,row c (X a.a.j.a) d (q1 (eN .u64) a.a.j.a) 33 1]) (aa:X a.a.j.a<=1000) (hr:iB a j=B):
    Calls y3 74 #[vP b 0,vU j] w (dI λ v w'=> ∃ g h,v= .tuple #[]/\Own w D w' [blk b (kB a l (X a.a.b.a) m n (X a.a.g.a) o g (X B.a.j.a) h B.a.t s p (X a.b.a) r t) 78,row g (X B.a.j.a) h (q1 (eN .u64) B.a.j.a) 33 1]/\(X B.a.j.a<=X a.a.j.a)):=by
 unfold iB at hr
 have P:=H.rowC (i:=1) Z
 refine cb Tryz.func74 ?_
 refine sr (Mz Z (Mz Z (Kz (vP b 0) (Kz (vP b 0) (Kz (vP b 8) (Lz (vU a.a.t) H 0 E0 (Mz Z (fw (vU (max a.a.t j)) (J4 (e:=if(j:Int) > (a.a.t:Int) then(j:Int) else(a.a.t:Int)) yk U) (Kz (vP b 0) (Kz (vP b 0) (Kz (vP b 8) ?_)))))))))))
 refine cu [vU (max a.a.t j)] 8 H Tryz.sizeOf33 ?_
 intro af Q
 refine nt (JS ?_)
 refine oZ [] (J6 Kg) Q ?_
 intro ag R
 refine qv 0 Z Z (qp b 0 1 Z (qp b 0 2 Z (qp b 7 3 Z (ql 4 Z 0 Q2 Z Z Z (qv 5 Z Z (qp b 0 6 Z (qp b 0 7 Z (qp b 8 8 Z (ql 9 Z 0 E0 Z Z Z ?_)))))))))
 obtain⟨⟨f,C⟩,u⟩:∃ q:Int × Bool,dV a.a.j.a (max a.a.t j)=q:=⟨_,Z⟩
 obtain⟨ah,E,Z8,F,G⟩:=JZ R
 refine qd 10 Z (Ki Tryz.call75 Z (lm _ _ c (X a.a.j.a) d a.a.j.a (max a.a.t j) f C E (G _ 1 _ Z bB) Z U u) ?_)
 rintro _ ai ⟨rfl,I,x⟩
 have A:=F _ _ I
 replace x:0<=f/\f<=(X a.a.j.a:Int):=x
 refine⟨.inr ⟨_,A⟩, ?_⟩
 refine qv 11 Z Z (qk (vI f) 12 Z (qk (Y C) 13 Z (qa 14 Z Z (qa 15 Z Z (qn (JY (JW (Mz Z (Mz Z (Kz (vP b 0) (Kz (vP b 0) (Kz (vP b 7) (Lz (T c (X a.a.j.a) d) A 0 Q2 (Mz Z ?_))))))))))))))
 have S:=A.pb [0]
 obtain⟨k,y⟩:∃ q,jH a.a.j.a 0 f=q:=⟨_,Z⟩
 obtain⟨aj,J,Z1,K,Z2⟩:=Kt S
 refine cl Tryz.call123 (sN _ _ c (X a.a.j.a) d a.a.j.a 0 f k J Z U U y) ?_
 rintro _ ak ⟨L,M,rfl,Z5,z⟩
 have Z6:=K _ _ Z5
 have Z0:=Z6.rowC (i:=0) Z
 replace z:X k<=X a.a.j.a:=z
 refine Kz (vP b 0) (Kz (vP b 0) (Kz (vP b 7) ?_))
 have Z7:=Z6.pb [0]
 refine cu [T L (X k) M] 7 Z7 R9 ?_
 intro au Z3
 refine G2 (KD (res0 Z) ?_)
 have Z4:=Z3.pf []
 obtain rfl:=zj hr zq2
 exact⟨L,M,Z,Z4,(by first | omega | (dsimp only; omega) | (simp only [o2,o1,o3]; omega))⟩
def kr (a:List Nat) (b:Int) (c:Nat):(List Nat):=
 if((W b:Nat):Int)=((X a:Nat):Int) then(a++ [c]) else(u2 (W b) a++(c::r8 (W b) a))
theorem sO (w D f E d b a C c y) (H:Own w D w [row f E d (q1 (eN .u64) b) 33 1,mF C 1 (q1 (eN .u64) ([c])) 33 1]) (F:E=X b) (ag:X b *8<=211106232532992) (ah:0<=a/\a<=((X b:Nat):Int)/\(X b+1) *8<=211106232532992) (hr:kr b a c=y):
    Calls y3 142 #[T f E d,vI a, T C 1 1] w (dI λ v w'=> ∃ Z1 Z2,v= T Z1 (X y) Z2/\Own w D w' [row Z1 (X y) Z2 (q1 (eN .u64) y) 33 1]/\(X y=X b+1)):=by
 unfold kr at hr
 subst F
 have ai:=H.rowC (i:=0) Z
 refine cb Tryz.func142 ?_
 refine sr (Ar Z (Mz Z (fw (vJ (W a)) (J4 (e:=a) (J3 Z) U) (fw (T (fA f (W a) 1 d) (X b - (W a)) (d - (W a))) (Kv (jk) Z Z U) (ns (Mz Z (Kz (vI 1) (An Z (JS (sr (Mz Z (Kz (Y O) (nt (jf (sk (sr (Mz Z (Kz (vJ (X b)) (An Z (JS (sr (fw (vJ (W a)) (J4 (e:=a) (J3 Z) U) ?_))))))))))))))))))))))
 refine Mz Z (Kz (Za (((W a:Nat):Int)=(X b:Int))) (nt ?_))
 by_cases h:((W a:Nat):Int)=(X b:Int)
 refine jT (dT h) (sr (Mz Z (Mz Z ?_)))
 refine WL.do Z (Kk (k:=X b) (m:=1) (jk) H Z Z (eO P7 (di H (i:=1) Z lT) (cO nu ([c]))) Z U (s:=X (b++ [c])) f6 (u3).symm ?_)
 intro G I aj J
 have Z0:X (b++ [c])=X b+1:=by simp only [o3,q6,L0]
 refine An Z (rt (tR (rs ?_)))
 have K:=J.pk [0]
 obtain rfl:=zj hr zq1
 exact⟨G,I,Z,K,U⟩
 refine jF (dF h) (sk (JS (sr (Mz Z (Mz Z (fw (vJ (X b+1)) (J4 (e:=D3.wrap ((X b:Int)+1)) yk f4) (Mz Z (Kz (vJ d) (Kz (Za (((X b+1:Nat):Int) > (d:Int))) (nt ?_))))))))))
 by_cases z:((X b+1:Nat):Int) > (d:Int)
 refine jT (dT z) (sr (Mz Z (fw (vJ (W a)) (J4 (e:=a) (J3 Z) U) (fw (T f (W a) d) (KN (jk) Z Z U) (Mz Z (Mz Z (fw (vJ (X b+1)) (J4 (e:=D3.wrap ((X b:Int)+1)) yk f4) (fw (vJ (W a)) (J4 (e:=a) (J3 Z) U) (fw (vJ ((X b+1) - (W a))) (J4 (e:=D3.wrap (((X b+1:Nat):Int) - ((W a:Nat):Int))) yk f4) ?_)))))))))
 have aa:X (u2 (W a) b++(c::r8 (W a) b))=X b+1:=by simp only [o3,o1,q6,o2]; omega
 refine WL.do Z (KW (k:=W a) (m:=(X b+1) - (W a)) (jk) y6 H Z Z U U U Z U (s:=X (u2 (W a) b++(c::r8 (W a) b))) U ?_)
 intro j g ae ak A n
 have L:=n.rowLe (i:=0) Z
 refine Ar Z (Mz Z (fw (vJ (W a)) (J4 (e:=a) (J3 Z) U) (fw (T (fA j (W a) 1 g) ((X (u2 (W a) b++(c::r8 (W a) b))) - (W a)) (g - (W a))) (Kv (jk) Z Z U) (Mz Z ?_))))
 refine WL.do Z (KJ (lo:=W a) (k:=1) (jk) n Z (λ _=>ig ((n.rds (i:=0) Z).isSome U) U) U Z (di n (i:=2) Z lT) U (λ u hu=>cO nu _ u (M1 hu)) Z ?_)
 intro au M
 refine nt (JS ?_)
 refine yH [8] (J6 (J6 Kg)) M ?_
 intro av o
 refine qv 0 Z Z (qt (v:=vJ (W a)) 1 Z (λ _ _=>J4 (e:=a) (J3 Z) U) (qv 2 Z Z (qt (v:=vJ (W a+1)) 3 Z (λ _ _=>J4 (e:=D3.wrap (((W a:Nat):Int)+1)) yk f4) (qt (v:= T (fA j (W a+1) 1 g) ((X (u2 (W a) b++(c::r8 (W a) b))) - (W a+1)) (g - (W a+1))) 4 Z (λ _ _=>Kv (jk) Z Z U) (qv 5 Z Z (qt (v:=vJ (W a)) 6 Z (λ _ _=>J4 (e:=a) (J3 Z) U) (qt (v:= T (fA f (W a) 1 d) (X b - (W a)) (d - (W a))) 7 Z (λ _ _=>Kv (jk) Z Z U) ?_)))))))
 refine qd 8 Z (KJ (lo:=W a+1) (k:=X b - W a) (jk) o Z (λ _=>ig ((o.rds (i:=0) Z).isSome U) U) U Z (KP (lo:=W a) iQ (o.rds (i:=1) Z) U U f7) U (λ u hu=>cO nu _ u (M1 hu)) Z ?_)
 intro Z5 Z6
 refine⟨.inl f1, ?_⟩
 refine qn (JY (sr (Mz Z (An Z (rt (tR (rs ?_)))))))
 have P:Own w D Z5 [row j (X (u2 (W a) b++(c::r8 (W a) b))) g (q1 (eN .u64) (u2 (W a) b++(c::r8 (W a) b))) 33 1,row f (X b) d (q1 (eN .u64) b) 33 1,mF C 1 (q1 (eN .u64) ([c])) 33 1]:=Z6.rowPart U (uD (l:=b) (k2:=X b - W a) iQ U A Z Z U)
 have Q:=P.pk [0]
 obtain rfl:=zj hr zq1
 exact⟨j,g,Z,Q,U⟩
 refine jF (dF z) (sk (sr ?_))
 have B:X (u2 (W a) b++(c::r8 (W a) b))=X b+1:=by simp only [o3,o1,q6,o2]; omega
 obtain⟨af,p,R⟩:=H.rowFull
 refine Mz Z (Mz Z (Mz Z (fw (vJ (X b+1)) (J4 (e:=D3.wrap ((X b:Int)+1)) yk f4) (fw (T f (X (u2 (W a) b++(c::r8 (W a) b))) d) (Yl.to (KN (jk) Z Z U) (ZX (λ q=>Value.slice f q d) B.symm)) (An Z (JS (sr (Mz Z (Mz Z (fw (vJ (W a)) (J4 (e:=a) (J3 Z) U) (Mz Z (fw (vJ (W a+1)) (J4 (e:=D3.wrap (((W a:Nat):Int)+1)) yk f4) (fw (T (fA f (W a+1) 1 d) ((X (u2 (W a) b++(c::r8 (W a) b))) - (W a+1)) (d - (W a+1))) (Kv (jk) Z Z U) ?_)))))))))))))
 have r:=R.pb [0]
 refine fw (Y O) (KY (lo:=W a+1) (run_callFunc_extern Tryz.func182 f1 f1 f1 (e:=Extern.SlicesOverlaps.overlaps #[36,36] #[4]) f1) P7 Tryz.sizeOf33 r f7 U Z (ig ((r.rds (i:=1) Z).isSome U) U)) (Kz (Y Zj) (nt (jt (JS ?_))))
 refine oZ [8] (J6 (J6 Kg)) r ?_
 intro ax S
 refine qv 0 Z Z (qt (v:=vJ (W a)) 1 Z (λ _ _=>J4 (e:=a) (J3 Z) U) (qv 2 Z Z (qt (v:=vJ (W a+1)) 3 Z (λ _ _=>J4 (e:=D3.wrap (((W a:Nat):Int)+1)) yk f4) (qt (v:= T (fA f (W a+1) 1 d) ((X (u2 (W a) b++(c::r8 (W a) b))) - (W a+1)) (d - (W a+1))) 4 Z (λ _ _=>Kv (jk) Z Z U) (qv 5 Z Z (qt (v:=vJ (W a)) 6 Z (λ _ _=>J4 (e:=a) (J3 Z) U) (qt (v:= T (fA f (W a) 1 d) ((X (u2 (W a) b++(c::r8 (W a) b))) - (W a)) (d - (W a))) 7 Z (λ _ _=>Kv (jk) Z Z U) ?_)))))))
 have t:=S.pb [0]
 refine qd 8 Z (KJ (lo:=W a+1) (k:=X b - W a) (jk) t Z (λ _=>ig ((t.rds (i:=0) Z).isSome U) U) U Z (bV.cut (lo:=W a) (hi:=X (u2 (W a) b++(c::r8 (W a) b))) (t.rds (i:=0) Z) U U U) U (λ u hu=>cO nu _ u (by rw [uE iQ U Z U] at hu; exact hu)) Z ?_)
 intro ay x
 refine⟨.inl f1, ?_⟩
 refine qn (JY (sr (Mz Z (fw (vJ (W a)) (J4 (e:=a) (J3 Z) U) (fw (T (fA f (W a) 1 d) ((X (u2 (W a) b++(c::r8 (W a) b))) - (W a)) (d - (W a))) (Kv (jk) Z Z U) (Mz Z ?_))))))
 refine WL.do Z (KJ (lo:=W a) (k:=1) (jk) x Z (λ _=>ig ((x.rds (i:=0) Z).isSome U) U) U Z (di x (i:=1) Z lT) U (λ u hu=>cO nu _ u (M1 hu)) Z ?_)
 intro Z7 Z3
 refine ns (Mz Z (An Z (rt (tR (rs ?_)))))
 have Z4:Own w D Z7 [row f (X (u2 (W a) b++(c::r8 (W a) b))) d (q1 (eN .u64) (u2 (W a) b++(c::r8 (W a) b))) 33 1,mF C 1 (q1 (eN .u64) ([c])) 33 1]:=Z3.rowPart U (uF (l:=b) (m:=(X (u2 (W a) b++(c::r8 (W a) b))) - W a) (k2:=X b - W a) iQ U (by rw [p]; exact Nat.le_mul_of_pos_left 1 U) Z Z U U)
 have Z8:=Z4.pk [0]
 obtain rfl:=zj hr zq1
 exact⟨f,d,Z,Z8,U⟩
def iG (a:aB) (d:Nat):aB:=
 if((d:Nat):Int) < ((a.a.t:Nat):Int) then a else bnd (dV a.a.j.a d) λ b=>if b.2=Zj then a else bnd (kr a.a.j.a b.1 d) λ c=>aB.q (bH.q a.a.r a.a.y a.a.u a.a.z a.a.k (N a.a.b.a) (N a.a.g.a) (N c) a.a.t a.a.B a.a.s a.a.a) (N a.b.a)
theorem ry (w D d) (a:aB) (p r s u b c x z A B l) (J:aB) (H:Own w D w [blk d (kB a p (X a.a.b.a) r s (X a.a.g.a) u b (X a.a.j.a) c a.a.t A x (X a.b.a) z B) 78,row b (X a.a.j.a) c (q1 (eN .u64) a.a.j.a) 33 1]) (ak:X a.a.j.a<=1000) (hr:iG a l=J):
    Calls y3 87 #[vP d 0,vU l] w (dI λ v w'=> ∃ f g,v= .tuple #[]/\Own w D w' [blk d (kB a p (X a.a.b.a) r s (X a.a.g.a) u f (X J.a.j.a) g a.a.t A x (X a.b.a) z B) 78,row f (X J.a.j.a) g (q1 (eN .u64) J.a.j.a) 33 1]/\(X J.a.j.a<=X a.a.j.a+1)):=by
 unfold iG at hr
 have Z4:=H.rowC (i:=1) Z
 refine cb Tryz.func87 ?_
 refine JS (sr (Mz Z (Mz Z (Kz (vP d 0) (Kz (vP d 0) (Kz (vP d 8) (Lz (vU a.a.t) H 0 E0 (Kz (Za ((l:Int) < (a.a.t:Int))) (nt ?_)))))))))
 by_cases h:(l:Int) < (a.a.t:Int)
 refine jT (dT h) (rt (tR (Ke (res0 Z) ?_)))
 have Z8:=H.pf []
 obtain rfl:=zj hr zq1
 exact⟨b,c,Z,Z8,g4⟩
 refine jF (dF h) (sk (sr (Mz Z (Kz (vP d 0) (Kz (vP d 0) (Kz (vP d 7) (Lz (T b (X a.a.j.a) c) H 0 Q2 (Mz Z ?_))))))))
 obtain⟨⟨e,n⟩,j⟩:∃ q:Int × Bool,dV a.a.j.a l=q:=⟨_,Z⟩
 obtain⟨au,K,ag,L,M⟩:=JZ H
 refine cl Tryz.call75 (lm _ _ b (X a.a.j.a) c a.a.j.a l e n K (M _ 1 _ Z bB) Z U j) ?_
 rintro _ av ⟨rfl,Z5,C⟩
 have G:=L _ _ Z5
 replace C:0<=e/\e<=(X a.a.j.a:Int):=C
 refine Mz Z (Kz (vI e) (Kz (Y n) (Az Z (Ar Z (Mz Z (Kz (Y (!n)) (nt ?_)))))))
 rcases Nv (n) with k | k
 refine jF (cn k) (Ko (KD (res0 Z) ?_))
 have Z1:=G.pf []
 obtain rfl:=zj hr zq3
 exact⟨b,c,Z,Z1,g4⟩
 refine jT (cn k) (JW (Mz Z (Mz Z (Kz (vP d 0) (Kz (vP d 0) (Kz (vP d 7) (Lz (T b (X a.a.j.a) c) G 0 Q2 (Mz Z (Mz Z ?_)))))))))
 refine WL.do Z (K6 (cs:= [vU l]) (t:=33) (sz:=1) (m:=1) G Z Z ZY Z ?_)
 intro Z6 ax I
 replace I:=Ku (y:=mF Z6 1 (q1 (eN .u64) ([l])) 33 1) Z I
 have Z2:=I.pf [2]
 obtain⟨o,E⟩:∃ q,kr a.a.j.a e l=q:=⟨_,Z⟩
 obtain⟨ay,P,ah,Q,ai⟩:=KE Z2
 refine cl Tryz.call142 (sO _ _ b (X a.a.j.a) c a.a.j.a e Z6 l o P Z U U E) ?_
 rintro _ az ⟨R,S,rfl,Z7,F⟩
 have Z3:=Q _ _ Z7
 have aj:=Z3.rowC (i:=0) Z
 replace F:X o=X a.a.j.a+1:=F
 refine Kz (vP d 0) (Kz (vP d 0) (Kz (vP d 7) ?_))
 have Z0:=Z3.pb [0]
 refine cu [T R (X o) S] 7 Z0 R9 ?_
 intro aA aa
 refine G2 (KD (res0 Z) ?_)
 have af:=aa.pf []
 obtain rfl:=zj hr zq4
 exact⟨R,S,Z,af,g4⟩
def jq (d:aB):List aV->Nat->Unit ⊕ Bool
  | [],a=>G0 ()
  | e::f,a=>bnd (tJ e) λ b=>if b.2=0 then bnd (wD d.a.b.a d.a.r b.1) λ c=>if c=Zj then jq d f (a+1) else G1 (Zw (¬ (((a:Nat):Int) >= 0))) else G1 (Zw (¬ (((a:Nat):Int) >= 0)))
def qR (a:aB) (l1:List aV):Bool:=
 lp (jq a l1 0) λ _=>decide (¬ ((-1) >= 0))
theorem wK (w D h) (a:aB) (d f o p r s t u x y Z6 n1 c1 l1 r0) (H:Own w D w [blk h (kB a d (X a.a.b.a) f o (X a.a.g.a) p r (X a.a.j.a) s a.a.t x t (X a.b.a) u y) 78]) (L:Ro w D λ w'=>bV w' 2 d (X a.a.b.a) (q1 bF.L a.a.b.a)) (ah:X a.a.b.a<=f/\X a.a.b.a<=9223372036854775807) (M:Ro w D λ w'=>bV w' 6 Z6 n1 (q1 aV.L l1)) (aj:n1=X l1) (aP:X l1<=9223372036854775807) (aQ:X a.a.b.a<=1000) (hr:qR a l1=r0):
    Calls y3 132 #[vP h 0, T Z6 n1 c1] w (dI λ v w'=>v= Y r0/\Own w D w' [blk h (kB a d (X a.a.b.a) f o (X a.a.g.a) p r (X a.a.j.a) s a.a.t x t (X a.b.a) u y) 78]):=by
 subst aj
 refine cb Tryz.func132 ?_
 refine sr ?_
 refine cB [vP h 0] 30 H ?_
 intro G aR ak
 refine Ar Z (Mz Z (Kz (.func (.func 178) #[] #[vP G 0]) ?_))
 refine WL.do Z (Ki Tryz.call152 Z ?_ (λ _ _ k=>k))
 refine cb Tryz.func152 ?_
 refine sr (Ar Z (Mz Z (Mz Z ?_)))
 refine WL.do Z (Ki Tryz.call194 Z ?_ (λ _ _ k=>k))
 refine cb Tryz.func194 ?_
 refine sr (An Z (JS (sr (Mz Z (Kz (vJ (X l1)) (Mn Z (bo ?_)))))))
 have au:=ak.pf []
 obtain⟨av,z⟩:=nI λ (c:Nat) w'=>Own w D w' [blk G [vP h 0] 30,blk h (kB a d (X a.a.b.a) f o (X a.a.g.a) p r (X a.a.j.a) s a.a.t x t (X a.b.a) u y) 78]/\c<=X l1/\jq a l1 0=jq a (r8 c l1) c
 refine G3 (λ i:Nat=> [(4,vI 0),(8,vJ i),(7,vJ (X l1)),(0, T Z6 (X l1) c1),(1, .func (.func 178) #[] #[vP G 0])]) av (λ i=>X l1 - i) 0 ⟨Z,Z,Z,Z,Z,ZV⟩ (z.2 ⟨au,U,Z⟩) ?_
 rintro c aS P
 show Wp _ _ _ [(4,vI 0),(8,vJ c),(7,vJ (X l1)),(0, T Z6 (X l1) c1),(1, .func (.func 178) #[] #[vP G 0])] _ _
 obtain⟨A,aL,j⟩:=z.1 P
 refine sr (Kz (Za ((c:Int) < (X l1:Int))) (nt (JS ?_)))
 by_cases Q:(c:Int) < (X l1:Int)
 obtain⟨n,K⟩:=dM (ls:=l1) (i:=c) aV.len f7 (A.ro M) f5
 have B:=drop_at K
 refine jT (dT Q) (sk (JS (bo (sr (Mz Z (Ar Z (Mz Z (Mz Z (Mz Z (fw (Zz (Zv ⟨ab Z6,ao Z6+c *6,Zk⟩)) (J9 (nH) Z Z ((A.ro M).addr (i:=c) U) U) (fw (Zq (Zb (aV.L n))) (J5 Z (J7 (cs:=(aV.L n)) C1 C0 ((A.ro M).elem aV.len K f7))) ?_)))))))))))
 refine WL.do Z (KA Tryz.call178 Z Z ?_ (λ _ _ k=>k))
 refine cb Tryz.func178 ?_
 refine sr ?_
 refine cB (aV.L n) 62 A ?_
 intro aT aU R
 refine Ar Z (La (aV.L n) R 0 C1 C0 ?_)
 obtain⟨⟨g,C⟩,l⟩:∃ q:ai × Int,tJ n=q:=⟨_,Z⟩
 obtain⟨aW,S,aM,Z7,aN⟩:=JZ R
 refine cl Tryz.call154 (wE _ _ n g C S l) ?_
 rintro _ aX ⟨rfl,Z3⟩
 have ax:=Z7 _ _ Z3
 refine Mz Z (Kz (Zq (Zb (ai.L g))) (Kz (vI C) ?_))
 refine cB [Z9 ⟨Zb []⟩, Z9 ⟨Zb []⟩] 38 ax ?_
 intro aY aZ ay
 refine cu (ai.L g) 0 ay C5 ?_
 intro bf az
 refine An Z (JS ?_)
 have aA:=az.pk [0,2,3]
 refine yH [] (J6 Kg) aA ?_
 intro bg Z4
 refine qv 0 Z Z (qt (v:= Za (¬ (C=0))) 1 Z (λ _ _=>Kc (e:= !(Zw (C=0))) yk ZW) (qv 2 Z Z ?_))
 by_cases b:C=0
 refine J2 (v:=vP h 0) (rs:= []) 3 Z Z Z (dF (Nu b)) f1 (λ _ ⟨_,I⟩=>J5 Z (bO.one Tryz.isAgg30 (Kw (I.cls (i:=1) Z) Z))) (J2 (v:=vP h 0) (rs:= []) 4 Z Z Z (dF (Nu b)) f1 (λ _ _=>yk) (J2 (v:=vP h 0) (rs:= []) 5 Z Z Z (dF (Nu b)) f1 (λ _ _=>yk) (J2 (v:=vP h 5) (rs:= []) 6 Z Z Z (dF (Nu b)) f1 (λ _ _=>yk) (J2 (v:= T d (X a.a.b.a) f) (rs:= []) 7 Z Z Z (dF (Nu b)) f1 (λ _ ⟨_,I⟩=>J5 Z (bO.one R8 (Kw (I.cls (i:=2) Z) Z))) (J2 (v:=vP h 0) (rs:= []) 8 Z Z Z (dF (Nu b)) f1 (λ _ ⟨_,I⟩=>J5 Z (bO.one Tryz.isAgg30 (Kw (I.cls (i:=1) Z) Z))) (J2 (v:=vP h 0) (rs:= []) 9 Z Z Z (dF (Nu b)) f1 (λ _ _=>yk) (J2 (v:=vP h 0) (rs:= []) 10 Z Z Z (dF (Nu b)) f1 (λ _ _=>yk) (J2 (v:=vP h 0) (rs:= []) 11 Z Z Z (dF (Nu b)) f1 (λ _ _=>yk) (J2 (v:=vI a.a.r) (rs:= []) 12 Z Z Z (dF (Nu b)) f1 (λ _ ⟨_,I⟩=>J5 Z (bO.one Tryz.isAgg3 (Kw (I.cls (i:=2) Z) Z))) (J2 (v:= Zq (Zb (ai.L g))) (rs:= []) 13 Z Z Z (dF (Nu b)) f1 (λ _ ⟨_,I⟩=>J5 Z (J7 (cs:=(ai.L g)) C6 C5 ((I.cls (i:=0) Z).lit (k:=0) (m:=2) Z))) ?_))))))))))
 obtain⟨J,E⟩:∃ q,wD a.a.b.a a.a.r g=q:=⟨_,Z⟩
 obtain⟨bi,Z8,Z1,Z2,aO⟩:=JZ Z4
 refine KG 14 Z Z Z (dF (Nu b)) f1 (Ki Tryz.call90 Z (Bu _ _ d (X a.a.b.a) f a.a.b.a a.a.r g J Z8 (Z1 _ L) Z U E) ?_)
 rintro _ bn ⟨rfl,Z0⟩
 have Z5:=Z2 _ _ Z0
 refine⟨.inr ⟨_,Z5⟩, ?_⟩
 refine J2 (v:= Y (!J)) (rs:= []) 15 Z Z Z (dF (Nu b)) f1 (λ _ _=>yk) (qt (v:= Y (!J)) 16 Z (λ _ _=>JU Z (dF (Nu b)) Z) (qa 17 Z Z (qn (JY (rt (rs (nt ?_)))))))
 rcases Nv (J) with F | F
 refine jF (cn F) (Ko (bN (JY ?_)))
 have aC:=Z5.pk [1,2]
 refine JW (fw (vJ (c+1)) (J4 (e:=D3.wrap ((c:Int)+1)) yk f4) (Mz Z (G2 ?_)))
 have aD:=aC.pf []
 exact Kb (c+1) ⟨Z,Z,Z,Z,Z,ZV⟩ (z.2 ⟨aD,U,V (j) (V (ZX (λ q=>jq a q c) B) (V (ae l) (V (ip b) (V (ae E) (ip F)))))⟩) (by show X l1 - (c+1) < X l1 - c; omega)
 refine jT (cn F) (JS ?_)
 have aF:=Z5.pk [1,2]
 refine JW (Mz Z (An Z (rt (bR (tR (tR (bR (tR (rs (Kz (Za ((c:Int) >= 0)) (An Z (rt (rs (fw (Za (¬ ((c:Int) >= 0))) (Kc (e:= !(Zw ((c:Int) >= 0))) yk ZW) (An Z (rt (rs ?_)))))))))))))))))
 have aG:=aF.pk [1]
 obtain rfl:_=Zw (¬ ((c:Int) >= 0)):=zj hr (iX (V (j) (V (ZX (λ q=>jq a q c) B) (V (ae l) (V (ip b) (V (ae E) (eD F)))))))
 exact⟨Z,aG⟩
 refine JV (rs:= []) 3 Z Z Z (dT b) f1 (JV (rs:= []) 4 Z Z Z (dT b) f1 (JV (rs:= []) 5 Z Z Z (dT b) f1 (JV (rs:= []) 6 Z Z Z (dT b) f1 (JV (rs:= []) 7 Z Z Z (dT b) f1 (JV (rs:= []) 8 Z Z Z (dT b) f1 (JV (rs:= []) 9 Z Z Z (dT b) f1 (JV (rs:= []) 10 Z Z Z (dT b) f1 (JV (rs:= []) 11 Z Z Z (dT b) f1 (JV (rs:= []) 12 Z Z Z (dT b) f1 (JV (rs:= []) 13 Z Z Z (dT b) f1 (JV (rs:= []) 14 Z Z Z (dT b) f1 (JV (rs:= []) 15 Z Z Z (dT b) f1 (qt (v:= Y Zj) 16 Z (λ _ _=>JX Z (dT b) Z) (qa 17 Z Z (qn (JY (rt (rs (nt (jt (JS ?_)))))))))))))))))))))
 have aH:=Z4.pk [1,2]
 refine JW (Mz Z (An Z (rt (bR (tR (tR (bR (tR (rs (Kz (Za ((c:Int) >= 0)) (An Z (rt (rs (fw (Za (¬ ((c:Int) >= 0))) (Kc (e:= !(Zw ((c:Int) >= 0))) yk ZW) (An Z (rt (rs ?_)))))))))))))))))
 have aI:=aH.pk [1]
 obtain rfl:_=Zw (¬ ((c:Int) >= 0)):=zj hr (iX (V (j) (V (ZX (λ q=>jq a q c) B) (V (ae l) (iN b)))))
 exact⟨Z,aI⟩
 refine jF (dF Q) (H0 (Ka ?_))
 have aa:jq a l1 0=G0 ():=V (j) (V (ZX (λ q=>jq a q c) (eU (ls:=l1) (i:=c) U)) Z)
 refine Ka (Kh (JY (sr (An Z (rt (rs (Kz (Za ((-1) >= 0)) (An Z (rt (rs (fw (Za (¬ ((-1) >= 0))) (Kc (e:= !(Zw ((-1) >= 0))) yk ZW) (An Z (rt (rs ?_))))))))))))))
 have aJ:=A.pk [1]
 obtain rfl:_=Zw (¬ ((-1) >= 0)):=zj hr (kH aa)
 exact⟨Z,aJ⟩
def kg (e:ai):List aV->Nat->Unit ⊕ Bool
  | [],a=>G0 ()
  | f::c,a=>bnd (tJ f) λ b=>bnd (iZ b.1 e) λ d=>if b.2=0 then if d.2=Zj then G1 (Zw (((a:Nat):Int) >= 0)) else kg e c (a+1) else kg e c (a+1)
def uS (a:List aV) (b:ai):Bool:=
 lp (kg b a 0) λ _=>decide ((-1) >= 0)
theorem zJ (w D B Z6 P b) (d:ai) (r0) (H:Own w D w []) (x:Ro w D λ w'=>bV w' 6 B Z6 (q1 aV.L b)) (Q:Z6=X b) (az:X b<=9223372036854775807) (hr:uS b d=r0):
    Calls y3 179 #[T B Z6 P, Zq (Zb (ai.L d))] w (dI λ v w'=>v= Y r0/\Own w D w' []):=by
 subst Q
 refine cb Tryz.func179 ?_
 refine sr ?_
 refine cB (ai.L d) 38 H ?_
 intro s aA R
 refine Ar Z (Mz Z (Kz (.func (.func 215) #[] #[vP s 0]) ?_))
 refine WL.do Z (Ki Tryz.call152 Z ?_ (λ _ _ k=>k))
 refine cb Tryz.func152 ?_
 refine sr (Ar Z (Mz Z (Mz Z ?_)))
 refine WL.do Z (Ki Tryz.call194 Z ?_ (λ _ _ k=>k))
 refine cb Tryz.func194 ?_
 refine sr (An Z (JS (sr (Mz Z (Kz (vJ (X b)) (Mn Z (bo ?_)))))))
 have S:=R.pf []
 obtain⟨Z7,f⟩:=nI λ (a:Nat) w'=>Own w D w' [blk s (ai.L d) 38]/\a<=X b/\kg d b 0=kg d (r8 a b) a
 refine G3 (λ i:Nat=> [(4,vI 0),(8,vJ i),(7,vJ (X b)),(0, T B (X b) P),(1, .func (.func 215) #[] #[vP s 0])]) Z7 (λ i=>X b - i) 0 ⟨Z,Z,Z,Z,Z,ZV⟩ (f.2 ⟨S,U,Z⟩) ?_
 rintro a aB C
 show Wp _ _ _ [(4,vI 0),(8,vJ a),(7,vJ (X b)),(0, T B (X b) P),(1, .func (.func 215) #[] #[vP s 0])] _ _
 obtain⟨n,ak,g⟩:=f.1 C
 refine sr (Kz (Za ((a:Int) < (X b:Int))) (nt (JS ?_)))
 by_cases E:(a:Int) < (X b:Int)
 obtain⟨l,u⟩:=dM (ls:=b) (i:=a) aV.len f7 (n.ro x) f5
 have o:=drop_at u
 refine jT (dT E) (sk (JS (bo (sr (Mz Z (Ar Z (Mz Z (Mz Z (Mz Z (fw (Zz (Zv ⟨ab B,ao B+a *6,Zk⟩)) (J9 (nH) Z Z ((n.ro x).addr (i:=a) U) U) (fw (Zq (Zb (aV.L l))) (J5 Z (J7 (cs:=(aV.L l)) C1 C0 ((n.ro x).elem aV.len u f7))) ?_)))))))))))
 refine WL.do Z (KA Tryz.call215 Z Z ?_ (λ _ _ k=>k))
 refine cb Tryz.func215 ?_
 refine sr ?_
 refine cB (aV.L l) 62 n ?_
 intro aC aD F
 refine Ar Z (La (aV.L l) F 0 C1 C0 ?_)
 obtain⟨⟨m,t⟩,h⟩:∃ q:ai × Int,tJ l=q:=⟨_,Z⟩
 obtain⟨aF,G,au,I,av⟩:=JZ F
 refine cl Tryz.call154 (wE _ _ l m t G h) ?_
 rintro _ aG ⟨rfl,J⟩
 have Z3:=I _ _ J
 refine Mz Z (Kz (Zq (Zb (ai.L m))) (Kz (vI t) ?_))
 refine cB [Z9 ⟨Zb []⟩, Z9 ⟨Zb []⟩] 38 Z3 ?_
 intro aH aI Z4
 refine cu (ai.L m) 0 Z4 C5 ?_
 intro aJ Z8
 refine An Z (JS ?_)
 have y:=Z8.pk [0,2]
 refine JW (La (ai.L m) y 0 C6 C5 (La (ai.L d) y 1 C6 C5 ?_))
 obtain⟨⟨z,p⟩,j⟩:∃ q:ai × Bool,iZ m d=q:=⟨_,Z⟩
 obtain⟨aK,K,ax,L,ay⟩:=JZ y
 refine cl Tryz.call151 (nP _ _ m d z p K j) ?_
 rintro _ aL ⟨rfl,M⟩
 have Z1:=L _ _ M
 refine Mz Z (Kz (Zq (Zb (ai.L z))) (Kz (Y p) ?_))
 refine cB [Z9 ⟨Zb []⟩, Z9 ⟨Zb []⟩] 38 Z1 ?_
 intro aM aN Z2
 refine cu (ai.L z) 0 Z2 C5 ?_
 intro aO Z0
 refine An Z (JS ?_)
 have A:=Z0.pk [2]
 refine JW (Mz Z (Kz (Za (t=0)) (Mz Z ?_)))
 by_cases c:t=0
 refine gw (Y p) (dT c) (J3 Z) (fw (Y p) (JX Z (dT c) Z) (An Z (rt (rs (nt ?_)))))
 rcases Nv (p) with r | r
 refine jT r (sr (Mz Z (An Z (rt (bR (tR (tR (bR (tR (rs (Kz (Za ((a:Int) >= 0)) (An Z (rt (rs (An Z (rt (rs ?_)))))))))))))))))
 have aa:=A.pk []
 obtain rfl:_=Zw ((a:Int) >= 0):=zj hr (iX (V (g) (V (ZX (λ q=>kg d q a) o) (V (ae h) (V (ae j) (V (ip c) (ip r)))))))
 exact⟨Z,aa⟩
 refine jF r (Ko (bN (JY (JW (fw (vJ (a+1)) (J4 (e:=D3.wrap ((a:Int)+1)) yk f4) (Mz Z (G2 ?_)))))))
 have af:=A.pf []
 exact Kb (a+1) ⟨Z,Z,Z,Z,Z,ZV⟩ (f.2 ⟨af,U,V (g) (V (ZX (λ q=>kg d q a) o) (V (ae h) (V (ae j) (V (ip c) (eD r)))))⟩) (by show X b - (a+1) < X b - a; omega)
 refine Sz (dF c) (fw (Y O) (JU Z (dF c) Z) (An Z (rt (rs (nt (jf (Ko (bN (JY (JW (fw (vJ (a+1)) (J4 (e:=D3.wrap ((a:Int)+1)) yk f4) (Mz Z (G2 ?_)))))))))))))
 have ag:=A.pf []
 exact Kb (a+1) ⟨Z,Z,Z,Z,Z,ZV⟩ (f.2 ⟨ag,U,V (g) (V (ZX (λ q=>kg d q a) o) (V (ae h) (V (ae j) (iN c))))⟩) (by show X b - (a+1) < X b - a; omega)
 refine jF (dF E) (H0 (Ka ?_))
 have Z5:kg d b 0=G0 ():=V (g) (V (ZX (λ q=>kg d q a) (eU (ls:=b) (i:=a) U)) Z)
 refine Ka (Kh (JY (sr (An Z (rt (rs (Kz (Za ((-1) >= 0)) (An Z (rt (rs (An Z (rt (rs ?_)))))))))))))
 have ah:=n.pk []
 obtain rfl:_=Zw ((-1) >= 0):=zj hr (kH Z5)
 exact⟨Z,ah⟩
def pW (b:aB) (l1:List aV):Bool:=
 if((b.a.B:Nat):Int)=0 then O else bnd (uS l1 b.a.s) λ a=>if a=Zj then Zj else O
theorem vL (w D c) (a:aB) (g h i j k l m n o p z A B l1 J) (H:Own w D w [blk c (kB a g (X a.a.b.a) h i (X a.a.g.a) j k (X a.a.j.a) l a.a.t o m (X a.b.a) n p) 78]) (C:Ro w D λ w'=>bV w' 6 z A (q1 aV.L l1)) (E:A=X l1) (L:X l1<=9223372036854775807) (hr:pW a l1=J):
    Calls y3 133 #[vP c 0, T z A B] w (dI λ v w'=>v= Y J/\Own w D w' [blk c (kB a g (X a.a.b.a) h i (X a.a.g.a) j k (X a.a.j.a) l a.a.t o m (X a.b.a) n p) 78]):=by
 unfold pW at hr
 subst E
 refine cb Tryz.func133 ?_
 refine sr (An Z (JS (sr (Mz Z (Kz (vP c 0) (Kz (vP c 0) (Kz (vP c 9) (Lz (vU a.a.B) H 0 E0 (fw (Za (¬ ((a.a.B:Int)=0))) (Kc (e:= !(Zw ((a.a.B:Int)=0))) yk ZW) (Mz Z ?_))))))))))
 by_cases b:(a.a.B:Int)=0
 refine Sk Z Z (dF (Nu b)) Z (Sk Z Z (dF (Nu b)) Z (Sk Z Z (dF (Nu b)) Z (Sk Z Z (dF (Nu b)) Z (Sk Z Z (dF (Nu b)) Z (Sk Z Z (dF (Nu b)) Z (Sk Z Z (dF (Nu b)) Z (fw (Y O) (JU Z (dF (Nu b)) Z) (nt (jf (sk (sr (Mz Z (Kz (vP c 0) (Kz (vP c 20) (Lz (Zz Zk) H 0 Tryz.isAgg76 (Kz (Y O) (Mz Z (QQ (QQ (QQ (QQ (QQ (QQ (QQ (fw (Y O) (QK Z) (Mz Z (QQ (QQ (QQ (QQ (QQ (QQ (QQ (QQ (QQ (fw (Y O) (QK Z) ?_))))))))))))))))))))))))))))))))))))
 refine An Z (rt (rs ?_))
 have F:=H.pf []
 obtain rfl:=zj hr zq1
 exact⟨Z,F⟩
 refine gw (T z (X l1) B) (dT b) (J3 Z) (gw (vP c 0) (dT b) (J3 Z) (Gz (vP c 0) (dT b) (Gz (vP c 0) (dT b) (Gz (vP c 10) (dT b) (Ga (ai.L a.a.s) (dT b) H 0 C6 C5 ?_)))))
 obtain⟨r,d⟩:∃ q,uS l1 a.a.s=q:=⟨_,Z⟩
 obtain⟨M,t,u,x,K⟩:=JZ H
 refine oI (dT b) Tryz.call179 (zJ _ _ z (X l1) B l1 a.a.s r t (u _ C) Z U d) ?_
 rintro _ Z5 ⟨rfl,y⟩
 have s:=x _ _ y
 refine fw (Y r) (JX Z (dT b) Z) (nt ?_)
 rcases Nv (r) with f | f
 refine jT f (sr (An Z (rt (tR (rs ?_)))))
 have G:=s.pf []
 obtain rfl:=zj hr zq3
 exact⟨Z,G⟩
 refine jF f (sk (sr (Mz Z (Kz (vP c 0) (Kz (vP c 20) (Lz (Zz Zk) s 0 Tryz.isAgg76 (Kz (Y O) (Mz Z (QQ (QQ (QQ (QQ (QQ (QQ (QQ (fw (Y O) (QK Z) (Mz Z (QQ (QQ (QQ (QQ (QQ (QQ (QQ (QQ (QQ (fw (Y O) (QK Z) (An Z (rt (rs ?_))))))))))))))))))))))))))))))
 have I:=s.pf []
 obtain rfl:=zj hr zq3
 exact⟨Z,I⟩
def jr (a:aB) (d:cz):Bool:=
 if D3.wrap (((X a.a.g.a:Nat):Int)+((X a.b.a:Nat):Int)) >= 6 then Zj else if D3.wrap ((D3.wrap (((X a.a.g.a:Nat):Int)+((X a.b.a:Nat):Int)))+((X a.a.j.a:Nat):Int)) >= 64 then Zj else if((d.z:Nat):Int)=((a.a.z:Nat):Int) then bnd (qR a d.a.a) λ b=>if b=Zj then bnd (pW a d.a.a) λ c=>c else Zj else Zj
theorem uX (w D l) (a:aB) (n m r s o p t u y z) (d:cz) (j L k B M C E F Z5 G r0) (H:Own w D w [blk l (kB a n (X a.a.b.a) m r (X a.a.g.a) s o (X a.a.j.a) p a.a.t y t (X a.b.a) u z) 78]) (Q:Ro w D λ w'=>bV w' 2 n (X a.a.b.a) (q1 bF.L a.a.b.a)) (ay:X a.a.b.a<=m/\X a.a.b.a<=9223372036854775807) (R:L=X d.a.a) (I:Ro w D λ w'=>bV w' 6 j (X d.a.a) (q1 aV.L d.a.a)) (az:X d.a.a<=k/\X d.a.a<=9223372036854775807) (S:s0 aQ.abs E=d.B.a) (Z7:M=X d.B.a) (aA:Ro w D λ w'=>bV w' 3 B (X d.B.a) (q1 aQ.L E)) (aC:X d.B.a<=C/\X d.B.a<=9223372036854775807) (aD:∀ x ∈ E,Ro w D (λ w'=>bV w' 2 x.a.A (X x.a.a) (q1 aG.L x.a.a))/\(X x.a.a<=x.a.c/\X x.a.a<=9223372036854775807)) (Z3:Z5=X d.b.a) (aF:Ro w D λ w'=>bV w' 2 F (X d.b.a) (q1 bF.L d.b.a)) (aH:X d.b.a<=G/\X d.b.a<=9223372036854775807) (aY:X a.a.b.a<=1000) (hr:jr a d=r0):
    Calls y3 79 #[vP l 0, Zq (Zb (fT d.g d.D d.E d.J d.F d.I d.G d.y d.r d.t d.u d.z d.k d.s d.C d.H d.j.a d.j.b j L k B M C F Z5 G))] w (dI λ v w'=>v= Y r0/\Own w D w' [blk l (kB a n (X a.a.b.a) m r (X a.a.g.a) s o (X a.a.j.a) p a.a.t y t (X a.b.a) u z) 78]):=by
 unfold jr at hr
 subst R Z7 Z3
 have ax:=bf S
 refine cb Tryz.func79 ?_
 refine sr ?_
 refine cB (jP d j k B C F G) 47 H ?_
 intro Z4 aZ aI
 refine An Z (JS ?_)
 refine oZ [] (J6 Kg) aI ?_
 intro bg Z8
 refine qv 0 Z Z (qp l 0 1 Z (qp l 0 2 Z (qp l 6 3 Z (ql 4 Z 1 D4 Z Z Z (qk (vJ (X a.a.g.a)) 5 Z (qv 6 Z Z (qp l 0 7 Z (qp l 18 8 Z (ql 9 Z 1 S3 Z Z Z (qk (vJ (X a.b.a)) 10 Z (qk (vI (D3.wrap ((X a.a.g.a:Int)+(X a.b.a:Int)))) 11 Z (qa 12 Z Z (qn (JY (sr (Mz Z (Kz (Za (D3.wrap ((X a.a.g.a:Int)+(X a.b.a:Int)) >= 6)) (Mz Z ?_))))))))))))))))))
 by_cases b:D3.wrap ((X a.a.g.a:Int)+(X a.b.a:Int)) >= 6
 refine Sz (dT b) (Sz (dT b) (Sz (dT b) (Sz (dT b) (Sz (dT b) (Sz (dT b) (Sz (dT b) (Sz (dT b) (Sz (dT b) (fw (Y Zj) (JX Z (dT b) Z) (An Z (JS ?_)))))))))))
 refine oZ [] (J6 Kg) Z8 ?_
 intro bi aJ
 refine qv 0 Z Z (qv 1 Z Z (JV (rs:= []) 2 Z Z Z Z f1 (JV (rs:= []) 3 Z Z Z Z f1 (JV (rs:= []) 4 Z Z Z Z f1 (JV (rs:= []) 5 Z Z Z Z f1 (JV (rs:= []) 6 Z Z Z Z f1 (JV (rs:= []) 7 Z Z Z Z f1 (JV (rs:= []) 8 Z Z Z Z f1 (JV (rs:= []) 9 Z Z Z Z f1 (qt (v:= Y Zj) 10 Z (λ _ _=>QJ Z) (qv 11 Z Z (JV (rs:= []) 12 Z Z Z Z f1 (JV (rs:= []) 13 Z Z Z Z f1 (JV (rs:= []) 14 Z Z Z Z f1 (JV (rs:= []) 15 Z Z Z Z f1 (JV (rs:= []) 16 Z Z Z Z f1 (qt (v:= Y Zj) 17 Z (λ _ _=>QJ Z) (qv 18 Z Z (JV (rs:= []) 19 Z Z Z Z f1 (JV (rs:= []) 20 Z Z Z Z f1 (JV (rs:= []) 21 Z Z Z Z f1 (JV (rs:= []) 22 Z Z Z Z f1 (qt (v:= Y Zj) 23 Z (λ _ _=>QJ Z) (qa 24 Z Z (qn (JY (rt (rs ?_))))))))))))))))))))))))))))
 have aK:=aJ.pk [1]
 obtain rfl:=zj hr zq1
 exact⟨Z,aK⟩
 refine gw (vI (D3.wrap ((X a.a.g.a:Int)+(X a.b.a:Int)))) (dF b) (J3 Z) (gw (vP l 0) (dF b) (J3 Z) (Gz (vP l 0) (dF b) (Gz (vP l 0) (dF b) (Gz (vP l 7) (dF b) (Gl (T o (X a.a.j.a) p) (dF b) Z8 1 Q2 (Gz (vJ (X a.a.j.a)) (dF b) (Gz (vI (D3.wrap ((D3.wrap ((X a.a.g.a:Int)+(X a.b.a:Int)))+(X a.a.j.a:Int)))) (dF b) (Gz (Za (D3.wrap ((D3.wrap ((X a.a.g.a:Int)+(X a.b.a:Int)))+(X a.a.j.a:Int)) >= 64)) (dF b) (fw (Za (D3.wrap ((D3.wrap ((X a.a.g.a:Int)+(X a.b.a:Int)))+(X a.a.j.a:Int)) >= 64)) (JU Z (dF b) Z) (An Z (JS ?_)))))))))))
 refine oZ [] (J6 Kg) Z8 ?_
 intro bn Z1
 refine qv 0 Z Z (qv 1 Z Z ?_)
 by_cases f:D3.wrap ((D3.wrap ((X a.a.g.a:Int)+(X a.b.a:Int)))+(X a.a.j.a:Int)) >= 64
 refine JV (rs:= []) 2 Z Z Z (dT f) f1 (JV (rs:= []) 3 Z Z Z (dT f) f1 (JV (rs:= []) 4 Z Z Z (dT f) f1 (JV (rs:= []) 5 Z Z Z (dT f) f1 (JV (rs:= []) 6 Z Z Z (dT f) f1 (JV (rs:= []) 7 Z Z Z (dT f) f1 (JV (rs:= []) 8 Z Z Z (dT f) f1 (JV (rs:= []) 9 Z Z Z (dT f) f1 (qt (v:= Y Zj) 10 Z (λ _ _=>JX Z (dT f) Z) (qv 11 Z Z (JV (rs:= []) 12 Z Z Z Z f1 (JV (rs:= []) 13 Z Z Z Z f1 (JV (rs:= []) 14 Z Z Z Z f1 (JV (rs:= []) 15 Z Z Z Z f1 (JV (rs:= []) 16 Z Z Z Z f1 (qt (v:= Y Zj) 17 Z (λ _ _=>QJ Z) (qv 18 Z Z (JV (rs:= []) 19 Z Z Z Z f1 (JV (rs:= []) 20 Z Z Z Z f1 (JV (rs:= []) 21 Z Z Z Z f1 (JV (rs:= []) 22 Z Z Z Z f1 (qt (v:= Y Zj) 23 Z (λ _ _=>QJ Z) (qa 24 Z Z (qn (JY (rt (rs ?_))))))))))))))))))))))))))
 have aL:=Z1.pk [1]
 obtain rfl:=zj hr zq2
 exact⟨Z,aL⟩
 refine J2 (v:=vP Z4 11) (rs:= []) 2 Z Z Z (dF f) f1 (λ _ _=>yk) (J2 (v:=vU d.z) (rs:= []) 3 Z Z Z (dF f) f1 (λ _ ⟨_,Z2⟩=>J5 Z (bO.one E0 (Kw (Z2.cls (i:=0) Z) Z))) (J2 (v:=vP l 0) (rs:= []) 4 Z Z Z (dF f) f1 (λ _ _=>J3 Z) (J2 (v:=vP l 0) (rs:= []) 5 Z Z Z (dF f) f1 (λ _ _=>yk) (J2 (v:=vP l 0) (rs:= []) 6 Z Z Z (dF f) f1 (λ _ _=>yk) (J2 (v:=vP l 3) (rs:= []) 7 Z Z Z (dF f) f1 (λ _ _=>yk) (J2 (v:=vU a.a.z) (rs:= []) 8 Z Z Z (dF f) f1 (λ _ ⟨_,Z2⟩=>J5 Z (bO.one E0 (Kw (Z2.cls (i:=1) Z) Z))) (J2 (v:= Za (¬ ((d.z:Int)=(a.a.z:Int)))) (rs:= []) 9 Z Z Z (dF f) f1 (λ _ _=>Kc (e:= !(Zw ((d.z:Int)=(a.a.z:Int)))) yk ZW) (qt (v:= Za (¬ ((d.z:Int)=(a.a.z:Int)))) 10 Z (λ _ _=>JU Z (dF f) Z) (qv 11 Z Z ?_)))))))))
 by_cases g:(d.z:Int)=(a.a.z:Int)
 refine J2 (v:=vP l 0) (rs:= []) 12 Z Z Z (dF (Nu g)) f1 (λ _ _=>J3 Z) (J2 (v:=vP Z4 18) (rs:= []) 13 Z Z Z (dF (Nu g)) f1 (λ _ _=>yk) (J2 (v:= T j (X d.a.a) k) (rs:= []) 14 Z Z Z (dF (Nu g)) f1 (λ _ ⟨_,Z2⟩=>J5 Z (bO.one Q9 (Kw (Z2.cls (i:=0) Z) Z))) ?_))
 have aM:=Z1.pb [0]
 obtain⟨K,J⟩:∃ q,qR a d.a.a=q:=⟨_,Z⟩
 obtain⟨bq,af,Z6,ag,aW⟩:=Kt aM
 refine KG 15 Z Z Z (decide_eq_false (Nu g)) f1 (Ki Tryz.call132 Z (wK _ _ l a n m r s o p t u y z j (X d.a.a) k d.a.a K af (Z6 _ Q) U (Z6 _ I) Z U f2 J) ?_)
 rintro _ bu ⟨rfl,ah⟩
 have aN:=ag _ _ ah
 have Z0:=aN.pb [0]
 refine⟨.inr ⟨_,Z0⟩, ?_⟩
 refine J2 (v:= Y (!K)) (rs:= []) 16 Z Z Z (dF (Nu g)) f1 (λ _ _=>yk) (qt (v:= Y (!K)) 17 Z (λ _ _=>JU Z (dF (Nu g)) Z) (qv 18 Z Z ?_))
 rcases Nv (K) with h | h
 refine J2 (v:=vP l 0) (rs:= []) 19 Z Z Z (cn h) f1 (λ _ _=>J3 Z) (J2 (v:=vP Z4 18) (rs:= []) 20 Z Z Z (cn h) f1 (λ _ _=>yk) (J2 (v:= T j (X d.a.a) k) (rs:= []) 21 Z Z Z (cn h) f1 (λ _ ⟨_,Z2⟩=>J5 Z (bO.one Q9 (Kw (Z2.cls (i:=0) Z) Z))) ?_))
 have aO:=Z0.pb [0]
 obtain⟨aa,P⟩:∃ q,pW a d.a.a=q:=⟨_,Z⟩
 obtain⟨bv,ai,aj,ak,aX⟩:=Kt aO
 refine KG 22 Z Z Z (cn h) f1 (Ki Tryz.call133 Z (vL _ _ l a n m r s o p t u y z j (X d.a.a) k d.a.a aa ai (aj _ I) Z U P) ?_)
 rintro _ bz ⟨rfl,au⟩
 have aP:=ak _ _ au
 have av:=aP.pb [0]
 refine⟨.inr ⟨_,av⟩, ?_⟩
 refine qt (v:= Y aa) 23 Z (λ _ _=>JU Z (cn h) Z) (qa 24 Z Z (qn (JY (rt (rs ?_)))))
 have aR:=av.pk [1]
 obtain rfl:=zj hr zq6
 exact⟨Z,aR⟩
 refine JV (rs:= []) 19 Z Z Z (cn h) f1 (JV (rs:= []) 20 Z Z Z (cn h) f1 (JV (rs:= []) 21 Z Z Z (cn h) f1 (JV (rs:= []) 22 Z Z Z (cn h) f1 (qt (v:= Y Zj) 23 Z (λ _ _=>JX Z (cn h) Z) (qa 24 Z Z (qn (JY (rt (rs ?_)))))))))
 have aS:=Z0.pk [1]
 obtain rfl:=zj hr zq5
 exact⟨Z,aS⟩
 refine JV (rs:= []) 12 Z Z Z (dT g) f1 (JV (rs:= []) 13 Z Z Z (dT g) f1 (JV (rs:= []) 14 Z Z Z (dT g) f1 (JV (rs:= []) 15 Z Z Z (dT g) f1 (JV (rs:= []) 16 Z Z Z (dT g) f1 (qt (v:= Y Zj) 17 Z (λ _ _=>JX Z (dT g) Z) (qv 18 Z Z (JV (rs:= []) 19 Z Z Z Z f1 (JV (rs:= []) 20 Z Z Z Z f1 (JV (rs:= []) 21 Z Z Z Z f1 (JV (rs:= []) 22 Z Z Z Z f1 (qt (v:= Y Zj) 23 Z (λ _ _=>QJ Z) (qa 24 Z Z (qn (JY (rt (rs ?_))))))))))))))))
 have aT:=Z1.pk [1]
 obtain rfl:=zj hr zq3
 exact⟨Z,aT⟩
def eP (b:aB) (c:Nat):aB:=
 bnd (cK b c) λ a=>if a.2=Zj then aB.q b.a (N (u2 (W a.1) b.b.a++r8 ((W a.1)+1) b.b.a)) else b
theorem nk (w D A) (a:aB) (l m n o p r g f c s t Q) (R:aB) (H:Own w D w [blk A (kB a l (X a.a.b.a) m n (X a.a.g.a) o p (X a.a.j.a) r a.a.t s g (X a.b.a) f t) 78,row g (X a.b.a) f (q1 aY.L c) 100 4,sepL (q1 Kq c)]) (d:s0 aY.abs c=a.b.a) (ay:X a.b.a<=1000) (hr:eP a Q=R):
    Calls y3 86 #[vP A 0,vU Q] w (dI λ v w'=> ∃ u x h,v= .tuple #[]/\Own w D w' [blk A (kB a l (X a.a.b.a) m n (X a.a.g.a) o p (X a.a.j.a) r a.a.t s u (X R.b.a) x t) 78,row u (X R.b.a) x (q1 aY.L h) 100 4,sepL (q1 Kq h)]/\(s0 aY.abs h=R.b.a)):=by
 unfold eP at hr
 have S:=bf d
 have Z4:=H.rowC (i:=1) Z
 refine cb Tryz.func86 ?_
 refine sr (Mz Z (Mz Z ?_))
 have ag:=H.rowC (i:=1) Z
 obtain⟨⟨b,k⟩,y⟩:∃ q:Int × Bool,cK a Q=q:=⟨_,Z⟩
 obtain⟨az,G,ah,I,z⟩:=Kt H
 refine cl Tryz.call78 (jM _ _ A a l m n o p r g f c s t Q b k G d (z _ 0 _ Z bB) U (λ Z7 Z3=>⟨z _ 1 _ Z (bL (P6.2 ⟨Z7,Z3,b3⟩) bB),di (φ:=λ _=>_) H (i:=2) Z (bL (P6.2 ⟨Z7,Z3,b3⟩) dD),z _ 1 _ Z (bL (P6.2 ⟨Z7,Z3, .tail _ b3⟩) bB),di (φ:=λ _=>_) H (i:=2) Z (bL (P6.2 ⟨Z7,Z3, .tail _ b3⟩) dD)⟩) f2 y) ?_
 rintro _ aA ⟨rfl,J,B,C⟩
 have E:=I _ _ J
 replace B:0<=b/\b<=(X a.b.a:Int):=B
 replace C:Zd k=0\/b < (X a.b.a:Int):=C
 refine Mz Z (Kz (vI b) (Kz (Y k) (Az Z (Ar Z (Mn Z ?_)))))
 rcases Nv (k) with j | j
 have h35t:Zd k=1:=by rw [j]; rfl
 refine jT j (JW (Mz Z (Mz Z (Kz (vP A 0) (Kz (vP A 18) (Lz (T g (X a.b.a) f) E 0 S3 (Mz Z (Mz Z (fw (vI (b+1)) (J4 (e:=D3.wrap (b+1)) yk i7) ?_)))))))))
 obtain⟨Z8,K⟩:∃ q,c[W b]? =Zv q:=⟨_,p3 U⟩
 have Z1:=E.pb [0]
 obtain⟨aC,L,ai,M,aj⟩:=KE Z1
 refine cl Tryz.call141 (uQ _ _ g (X a.b.a) f c a.b.a b (b+1) (W b) Z8 L U d U U U K) ?_
 rintro _ aD ⟨Z5,Z6,rfl,P⟩
 have F:=M _ _ P
 have ak:X (u2 (W b) c++r8 ((W b)+1) c)=X (u2 (W b) a.b.a++r8 ((W b)+1) a.b.a):=by exact bf (oP d)
 have au:X (u2 (W b) a.b.a++r8 ((W b)+1) a.b.a)+1=X a.b.a:=by simp only [o3,o1,o2]; omega
 have av:=F.rowC (i:=2) Z
 have ax:=F.rowC (i:=3) Z
 refine Kz (vP A 0) (Kz (vP A 18) ?_)
 have Z2:=F.pf [4]
 refine cu [T Z5 (X (u2 (W b) a.b.a++r8 ((W b)+1) a.b.a)) Z6] 18 Z2 Tryz.sizeOf75 ?_
 intro aF Z0
 refine G2 (KD (res0 Z) ?_)
 have aa:=Z0.pk [0,1,2]
 obtain rfl:=zj hr zq2
 exact⟨Z5,Z6,(u2 (W b) c++r8 ((W b)+1) c),Z,aa,(oP d)⟩
 have h35t:Zd k=0:=by rw [j]; rfl
 refine jF j (Ko (KD (res0 Z) ?_))
 have af:=E.pf []
 obtain rfl:=zj hr zq2
 exact⟨g,f,c,Z,af,d⟩
def nE (e:aB) (d:aV) (b:StoreT):(List aG) × Int:=
 if d.g=1 then bnd (rE b d.j) λ a=>if a.2.1=Zj then([(aG.q d.j a.1)],0) else(([]:List aG),a.2.2) else if d.g=4 then bnd (qL b (ai.q d.a d.b) 2147483647) λ c=>(c.1,c.2) else(([]:List aG),0)
theorem wL (w D L) (a:aB) (n o p r s t u x z) (g:aV) (f) (b:StoreT) (d c Q r1) (H:Own w D w [blk L (kB a n (X a.a.b.a) o p (X a.a.g.a) r s (X a.a.j.a) t a.a.t f u (X a.b.a) x z) 78,blk f [T d (X b.a.a) c] 29]) (h:Ro w D λ w'=>bV w' 2 d (X b.a.a) (q1 aG.L b.a.a)) (R:X b.a.a<=c/\X b.a.a<=9223372036854775807) (aR:X b.a.a<=4000) (hr:nE a g b=(Q,r1)):
    Calls y3 175 #[vP L 0, Zq (Zb (aV.L g))] w (dI λ v w'=> ∃ B0 b0,v= .tuple #[T B0 (X Q) b0,vI r1]/\Own w D w' [row B0 (X Q) b0 (q1 aG.L Q) 67 2,blk L (kB a n (X a.a.b.a) o p (X a.a.g.a) r s (X a.a.j.a) t a.a.t f u (X a.b.a) x z) 78,blk f [T d (X b.a.a) c] 29]/\(r1=0/\X Q<=4000)):=by
 unfold nE at hr
 refine cb Tryz.func175 ?_
 refine sr ?_
 refine cB (aV.L g) 62 H ?_
 intro A au F
 refine Az Z (An Z (JS (sr (Kz (vP A 0) (Lz (vI g.g) F 0 Tryz.isAgg3 (nt (bo (sr (Kz (Za (g.g=1)) (An Z ?_))))))))))
 by_cases k:g.g=1
 refine jT (dT k) (JS ?_)
 refine yH [] (J6 (bJ.block (J6 Kg))) F ?_
 intro aS av
 refine qv 0 Z Z (qp L 0 1 Z (qp L 17 2 Z (ql 3 Z 1 Tryz.isAgg70 Z Z Z (qp A 1 4 Z (ql 5 Z 0 B9 Z Z Z ?_)))))
 have ax:=av.pf [2]
 obtain⟨⟨l,m,j⟩,B⟩:∃ q:(List UInt8) × Bool × Int,rE b g.j=q:=⟨_,Z⟩
 obtain⟨aT,S,Z7,Z3,aO⟩:=Kt ax
 refine qd 6 Z (Mh (Hq _) Z Z (y9 _ _ f b d c g.j l m j S (Z7 _ h) U f2 B) ?_)
 rintro _ ay ⟨rfl,Z4,M⟩
 have az:=Z3 _ _ Z4
 replace M:j=0:=M
 have G:=az.pb [0]
 refine⟨.inr ⟨_,G⟩, ?_⟩
 refine qv 7 Z Z (qk (Z9 ⟨Zb l⟩) 8 Z (qk (Y m) 9 Z (qk (vI j) 10 Z (qa 11 Z Z (qa 12 Z Z (qa 13 Z Z (qn (JY (JS (sr (Mz Z (fw (Za (¬ (j=0))) (Kc (e:= !(Zw (j=0))) yk ZW) (Mz Z ?_)))))))))))))
 have C:(Zw (¬ (j=0)))=O:=(dF U)
 refine KC (v:= Y m) Z Z C Z (J3 Z) (Gz (Y (!m)) C (fw (Y (!m)) (JU Z C Z) (nt ?_)))
 rcases Nv (m) with E | E
 refine jF (cn E) (sk (sr (Kz (vP A 1) (Lz (Z9 ⟨Zb g.j⟩) G 0 B9 (Mz Z (Kz (Zq #[Z9 ⟨Zb g.j⟩, Z9 ⟨Zb l⟩]) ?_))))))
 refine j6 [Z9 ⟨Zb g.j⟩, Z9 ⟨Zb l⟩] 67 2 1 G ?_
 intro Z8 aU P
 replace P:=Ku (y:=row Z8 1 1 (q1 aG.L ([(aG.q g.j l)])) 67 2) Z P
 refine Az Z (An Z (rt (bR (tR (Ke (lw Z Z Z) ?_)))))
 have aA:=P.pk [0,2,3]
 obtain⟨rfl,rfl⟩:=fI (zj hr zq3)
 exact⟨Z8,1,Z,aA,i5⟩
 refine jT (cn E) (sr (Mz Z (Az Z (An Z (rt (tR (bR (tR (Ke (lw Z Z Z) ?_)))))))))
 have aC:Own w D ay (row Zk 0 0 (q1 aG.L []) 67 2::_):=G.free (bW 67 2)
 have aD:=aC.pk [0,2,3]
 obtain⟨rfl,rfl⟩:=fI (zj hr zq3)
 exact⟨Zk,0,Z,aD,i5⟩
 refine jF (dF k) (sr (Kz (Za (g.g=4)) (An Z ?_)))
 by_cases I:g.g=4
 refine jT (dT I) (JS ?_)
 refine yH [] (J6 (bJ.block (J6 Kg))) F ?_
 intro aW aF
 refine qv 0 Z Z (qp L 0 1 Z (qp L 17 2 Z (ql 3 Z 1 Tryz.isAgg70 Z Z Z (qp A 3 4 Z (ql 5 Z 0 B9 Z Z Z (qp A 4 6 Z (ql 7 Z 0 B9 Z Z Z (qk (Zq #[Z9 ⟨Zb g.a⟩, Z9 ⟨Zb g.b⟩]) 8 Z ?_))))))))
 have aH:=aF.pf [2]
 obtain⟨⟨J,K⟩,Z5⟩:∃ q:(List aG) × Int,qL b (ai.q g.a g.b) 2147483647=q:=⟨_,Z⟩
 obtain⟨aX,Z1,Z2,Z0,aP⟩:=Kt aH
 refine qd 9 Z (Mh (Gd _) Z Z (yA _ _ f b d c (ai.q g.a g.b) 2147483647 J K Z1 (Z2 _ h) U f2 Z5) ?_)
 rintro _ aY ⟨aa,af,rfl,ag,Z6⟩
 have ah:=Z0 _ _ ag
 have aQ:=ah.rowC (i:=0) Z
 replace Z6:K=0/\X J<=4000:=Z6
 have aj:=ah.pb [1,0]
 refine⟨.inr ⟨_,aj⟩, ?_⟩
 refine qk (T aa (X J) af) 10 Z (qk (vI K) 11 Z (qa 12 Z Z (qa 13 Z Z (qn (JY (rt (bR (tR (Ke (lw Z Z Z) ?_)))))))))
 have aI:=aj.pk [3,1,2]
 obtain⟨rfl,rfl⟩:=fI (zj hr zq3)
 exact⟨aa,af,Z,aI,i5⟩
 refine jF (dF I) (Ko (bN (JY (JS ?_))))
 have aJ:=F.pk [1,2]
 refine JW (Az Z (An Z (rt (Ke (lw Z Z Z) ?_))))
 have aK:Own w D au [row Zk 0 0 (q1 aG.L []) 67 2,blk L (kB a n (X a.a.b.a) o p (X a.a.g.a) r s (X a.a.j.a) t a.a.t f u (X a.b.a) x z) 78,blk f [T d (X b.a.a) c] 29]:=aJ.free (bW 67 2)
 have aL:=aK.pf []
 obtain⟨rfl,rfl⟩:=fI (zj hr zq2)
 exact⟨Zk,0,Z,aL,i5⟩
end
section
open Go.RowKit
def jV (A:Option Addr) (n c:Nat) (xs:List ZQ) (t:TypeId) (sz:Nat):HP:=
  Ip (λ x:Option Addr × Nat × Nat × Nat × List Value=>x.2.1+n=x.2.2.1/\x.2.1+c=x.2.2.2.1/\(0 < c->A=fA x.1 x.2.1 sz x.2.2.2.1)/\xs=x.2.2.2.2.drop (x.2.1 *sz)) (λ x=> [row x.1 x.2.2.1 x.2.2.2.1 x.2.2.2.2 t sz])
section
variable {P:Program} {F:List (Nat × ZQ)} {w w0:ZZ} {D:Nat->Prop} {L:List HP} {A:Option Addr} {n c sz:Nat} {xs:List ZQ} {t:TypeId}
theorem Own.upQ (H:Own w0 D w (row A n c xs t sz::L)):Own w0 D w (jV A n c xs t sz::L):=
  LD (A,0,n,c,xs) ⟨by simp,by simp,λ _=>(EC A sz c).symm,by simp⟩ H
theorem Own.tlQ {R:HP} (H:Own w0 D w (R::L)):Own w0 D w L:=H.to λ h hs=>by
  obtain⟨a,b,c,d,e,g,_⟩:=kT.app.1 (show kT ([R]++L) h from hs)
  exact d.mono g
theorem DX {h:Nat->Option Obj} (H:jV A n c xs t sz h):∃ (b:Option Addr) (k d a:Nat) (ys:List ZQ) (f:Nat->Option Obj),row b d a ys t sz f/\(∀ k o,f k=Zv o->h k=Zv o)/\k+n=d/\k+c=a/\(0 < c->A=fA b k sz a)/\xs=ys.drop (k *sz):=by
  obtain⟨⟨b,k,d,a,ys⟩,⟨e,g,i,j⟩,f,l,m,_⟩:=H
  exact⟨b,k,d,a,ys,f 0,l 0 _ Z,λ k o hk=>m 0 k o hk,e,g,i,j⟩
theorem Own.rowCQ {i:Nat} (H:Own w0 D w L) (hi:L[i]? =Zv (jV A n c xs t sz)):n<=c/\c<=9223372036854775807:=by
  obtain⟨h,hr,a⟩:=H.get hi
  obtain⟨d,k,e,j,_,f,⟨_,hr⟩,_,l,m,o,p⟩:=DX hr
  rcases hr with ⟨_,q,b⟩ | ⟨g,cur,fz,_,_,b,a,_⟩
  . omega
  . unfold maxLen at a; omega
theorem Gf (w:ZZ) (h:Nat->Option Obj) (hr:jV A n c xs t sz h) (j:∀ k o,h k=Zv o->w.heap[k]? =Zv o):bV w sz A n xs:=by
  obtain⟨m,k,a,b,_,f,hr,hf,p,q,l,d⟩:=DX hr
  have hR:=bB w f hr λ k o hk=>j k o (hf k o hk)
  have hle:a<=b:=by
    obtain⟨_,hr⟩:=hr
    rcases hr with ⟨_,r,i⟩ | ⟨g,cur,fz,_,_,i,_⟩
    . omega
    . exact i
  have hlen:X xs=n *sz:=by
    rw [d,List.length_drop,hR.1, <- Nat.sub_mul]
    congr 1; omega
  rcases Nat.eq_zero_or_pos n with e | e
  . subst e
    have:xs= []:=List.eq_nil_of_length_eq_zero (by rw [hlen,Nat.zero_mul])
    subst this
    exact bV.nil w sz A
  . have hc:=hR.cut (c:=b) (lo:=k) (hi:=a) U (Nat.le_refl _) hle
    rw [<- l U,show a - k=n by omega, <- d,List.take_of_length_le (by rw [hlen]; exact Nat.le_refl _)] at hc
    exact hc
theorem Own.rdsQ {i:Nat} (H:Own w0 D w L) (hi:L[i]? =Zv (jV A n c xs t sz)):bV w sz A n xs:=by
  obtain⟨h,hr,a⟩:=H.get hi
  exact Gf w h hr a
theorem Gg (a:Addr) (x y:Nat):(a.add x).add y=a.add (x+y):=by
  cases a
  simp only [Addr.add]
  by_cases hx:x=0 <;> by_cases hy:y=0 <;> simp [hx,hy,Nat.add_assoc]
theorem MO {lo:Nat} {ys:List ZQ} (H:Own w0 D w (jV A n c xs t sz::L)) (h:lo<=n) (hys:xs.drop (lo *sz)=ys):Own w0 D w (jV (fA A lo sz c) (n - lo) (c - lo) ys t sz::L):=by
  have hle:=(H.rowCQ (i:=0) Z).1
  obtain⟨⟨d,k,e,b,zs⟩,⟨j,f,l,g⟩,m⟩:=LV H
  refine LD (d,k+lo,e,b,zs) ⟨by show k+lo+(n - lo)=e; simp only at j; omega,by show k+lo+(c - lo)=b; simp only at f; omega,λ hp=> ?_, ?_⟩ m
  . have hc:0 < c:=U
    have ea:=l hc
    simp only at ea f
    show fA A lo sz c=fA d (k+lo) sz b
    rw [ea]
    unfold fA
    rw [ZK (show ¬ c=lo by omega),ZK (show ¬ b=k by omega),ZK (show ¬ b=k+lo by omega)]
    cases d with
    | none=>rfl
    | some a=>simp only [Option.map_some,Gg,Nat.add_mul]
  . show ys=zs.drop ((k+lo) *sz)
    simp only at g
    rw [<- hys,g,List.drop_drop,Nat.add_mul]
theorem Fe {a sp news:List ZQ} {o:Nat} (h:X a=o):(put (a++sp) o news).take (o+X news)=a++news:=by
  subst h
  unfold put
  rw [List.take_left' Z]
  rw [List.take_append_of_le_length i2,List.take_of_length_le i2]
theorem Own.appendQ {k m e size bytes:Nat} {news:List ZQ} {u:ZQ} {tx:TypeId} (el:Elem P t e size bytes) (H:Own w0 D w (jV A k c xs e size::L)) (hs:Src P size tx u m news w) (hm:m=1) (ty:TypeId)
    (h:k+m<=maxLen) (hgs:∀ old,old < k+m->Builtin.nextslicecap (k+m) old *bytes<=281474976710656):
    ∃ A' c' w',(Builtin.append_ #[t,tx] ty #[T A k c,u]).run P w= .ok (T A' (k+m) c') w'/\Own w0 D w' (jV A' (k+m) c' (xs++news) e size::L):=by
  have hle:=H.rowCQ (i:=0) Z
  by_cases hroom:k+m<=c
  . obtain⟨⟨a,d,b,o,zs⟩,⟨j,p,l,q⟩,g⟩:=LV H
    simp only at j p l q
    replace g:Own w0 D w (row a b o zs e size::L):=g
    have hzl:=(g.rowLe (i:=0) Z).2.2
    obtain⟨_,_,r⟩:=g.rowFull
    have hsz:0 < size:=el.pos
    obtain⟨w',hst,s⟩:=r.room (P:=P) (k:=b) hsz hs U
    have f:=(r.rds (i:=0) Z).isSome U
    have hA:A=Zv ⟨ab a,ao a+d *size,Zk⟩:=by rw [l U]; exact ig f U
    have v:=s.rowTake (k:=b+m) U (ys:=zs++news) (by rw [Nat.add_mul, <- hs.newsLen]; exact Fe hzl)
    refine⟨A,c,w', ?_,LD (a,d,b+m,o,zs++news) ⟨by show d+(k+m)=b+m; omega,p,λ _=>l U, ?_⟩ v⟩
    . obtain⟨i,z,ht,hi,_,rfl,rfl,_,hsz⟩:=el
      have hadd:ao a+d *i.size+k *i.size=ao a+b *i.size:=by rw [<- j,Nat.add_mul,Nat.add_assoc]
      rw [f] at hst
      simp only [add0,ab,ao] at hst
      simp only [ab,ao] at hadd hA
      rw [hA]
      rcases hs.kind with ⟨e',hk⟩ | hk <;> simp [Builtin.append_,run_underlying ht,run_underlying hk,sizeOf,typeInfo,hi,hs.len,hroom,hs.cells,add0,hadd,hst]
    . show xs++news=(zs++news).drop (d *size)
      rw [List.drop_append_of_le_length (by rw [hzl, <- j]; exact Nat.mul_le_mul_right _ U),q]
  . have hck:c=k:=U
    subst hck
    obtain⟨A',c',w',hr,H'⟩:=H.tlQ.appendNew (P:=P) el (H.rdsQ (i:=0) Z) hs U ty h hgs
    exact⟨A',c',w',hr,H'.upQ⟩
theorem Do.appendQ {nn:Nat} {ty:TypeId} {K:ZQ->ZZ->Prop} {x y:Operand} {k m e size bytes:Nat} {news:List ZQ} {u:ZQ} {tx:TypeId} (el:Elem P t e size bytes) (H:Own w0 D w (jV A k c xs e size::L)) (hx:ev F x=Zv (T A k c)) (hy:ev F y=Zv u) (hs:Src P size tx u m news w)
    (hb:Nat.ble bytes 1048576=Zj) (hbytes:k+m<=9223372036854775807/\(k+m) *bytes<=211106232532992) {s:Nat} {ys:List ZQ} (hsum:k+m=s) (hys:xs++news=ys) (h:∀ A' c' w',Own w0 D w' (jV A' s c' ys e size::L)->K (T A' s c') w') (hm:m=1:=by rfl):
    Do P nn F w (.call ⟨.builtin .append, [x,y].toArray, [t,tx].toArray⟩) ty K:=λ a ha o b d next Q hn=>by
  obtain⟨A',c',w',hr,H'⟩:=H.appendQ (P:=P) el hs hm o.type (by unfold maxLen; omega) λ _ ho'=>growslice_fits_wide ho' (xn hbytes.2 hb)
  unfold execOp
  rw [b]
  simp only [resolve,invoke,builtin,Sem.run_bind,Sem.run_pure,Result.andThen_ok,List.map_toArray,List.map_cons,List.map_nil,ha.eval hx,ha.eval hy,hr]
  subst hsum hys
  exact hn _ _ (h A' c' w' H')
end
end
theorem IQ:∀ (l:List aV) (m:List aG) (o:List dA),X (iA l m o).2=X o+X l
  | [],m,o=>by rw [iA]; rfl
  | x::l,m,o=>by
    have h:∀ (m':List aG) (y:dA),X (iA l m' (o++ [y])).2=X o+X (x::l):=λ m' y=>by
      rw [IQ l m' (o++ [y])]; simp only [List.length_append,List.length_cons,List.length_nil]; omega
    rw [iA]
    simp only [bI]
    split
    . exact h _ _
    . split
      . exact h _ _
      . split
        . exact h _ _
        . split
          . exact h _ _
          . exact h _ _
theorem Ff {m:List aG} {l:List aV} {f:List aG} {b:List dA} {a:Int} (h:rJ m l=(f,b,a)): ¬ (a=0)\/X b=X l:=by
  unfold rJ at h
  simp only [bI] at h
  by_cases c:gT m=0
  . rw [ZJ c] at h
    by_cases d:j4 l=0
    . rw [ZJ d] at h
      refine .inr ?_
      have e:b=(iA l m []).2:=(ZX (λ q=>q.2.1) h).symm
      rw [e,IQ]; simp
    . rw [ZK d] at h
      have e:j4 l=a:=ZX (λ q=>q.2.2) h
      exact .inl (e ▸ d)
  . rw [ZK c] at h
    have e:gT m=a:=ZX (λ q=>q.2.2) h
    exact .inl (e ▸ c)
theorem zr {L:List HP}{A:Option Addr}{m c sz t:Nat}{xs:List ZQ}{w0 w:ZZ}{D:Nat->Prop}(i:Nat)(H:Own w0 D w L)(hi:L[i]? =Zv (row A m c xs t sz):=by exact Z):m<=c/\c<=9223372036854775807:=H.rowC hi
open _root_.Go.Proofs.Tryz renaming isAgg30->S5,sizeOf44->S6,underlying50->S7,underlying90->S4
section
open Go.RowKit
def jh (d:bD) (l1:List Nat):List Nat->List dC->(List dC)
  | [],a=>a
  | b::c,a=>jh d l1 c (a++ [(dC.q b Zj)])
def ji (d:bD):List Nat->List dC->(List dC)
  | [],a=>a
  | b::c,a=>ji d c (a++ [(dC.q b O)])
def lU (a:bD) (l1:List Nat) (l2:List Nat):bD:=
 bnd (jh a l1 l2 a.b.a) λ sLrL=>bnd (ji a l1 sLrL) λ sLrLaL=>bD.q a.a (N sLrLaL)
theorem tq (w D o) (c:bD) (g h j l B C n L n1 Z7 l1 S n2 c2 l2) (Z3:bD) (H:Own w D w [blk o [Zz (Zv ⟨n,0,Zk⟩), T g (X c.a.b.a) h, T j (X c.a.a.a) l, Y c.a.g, T B (X c.b.a) C] 92,jV B (X c.b.a) C (q1 dC.L c.b.a) 211 2]) (Q:Ro w D λ w'=>bV w' 1 L n1 (q1 (eN .u64) l1)) (aA:n1=X l1) (bu:X l1 *8<=211106232532992) (R:Ro w D λ w'=>bV w' 1 S n2 (q1 (eN .u64) l2)) (aB:n2=X l2) (bv:X l2 *8<=211106232532992) (bz:X c.b.a<=100000/\X l1<=12/\X l2<=12) (hr:lU c l1 l2=Z3):
    Calls y3 136 #[vP o 0, T L n1 Z7, T S n2 c2] w (dI λ v w'=> ∃ E F,v= .tuple #[]/\Own w D w' [blk o [vP n 0, T g (X c.a.b.a) h, T j (X c.a.a.a) l, Y c.a.g, T E (X Z3.b.a) F] 92,jV E (X Z3.b.a) F (q1 dC.L Z3.b.a) 211 2]/\(X Z3.b.a=X c.b.a+X l1+X l2)):=by
 unfold lU at hr
 subst aA aB
 have aC:=H.rowCQ (i:=1) Z
 refine cb Tryz.func136 ?_
 refine JS (sr (Mz Z (Kz (vJ (X l2)) (Mn Z (bo ?_)))))
 obtain⟨aF,G⟩:=uG λ (d:Nat) t (u:Nat) a w'=>Own w D w' [blk o [vP n 0, T g (X c.a.b.a) h, T j (X c.a.a.a) l, Y c.a.g, T t (X a) u] 92,jV t (X a) u (q1 dC.L a) 211 2]/\d<=X l2/\X a=X c.b.a+d/\X a<=X c.b.a+d/\jh c l1 l2 c.b.a=jh c l1 (r8 d l2) a
 refine G3 (λ i:Nat × (Option Addr) × Nat × (List dC)=> [(12,vJ i.1),(11,vJ (X l2)),(10, T S (X l2) c2),(0,vP o 0),(1, T L (X l1) Z7)]) aF (λ i=>X l2 - i.1) (0,B,C,c.b.a) ⟨Z,Z,Z,Z,Z,ZV⟩ (G.2 ⟨(H.pf []),U,U,U,Z⟩) ?_
 rintro ⟨d,t,u,a⟩ _ Z4
 show Wp _ _ _ [(12,vJ d),(11,vJ (X l2)),(10, T S (X l2) c2),(0,vP o 0),(1, T L (X l1) Z7)] _ _
 obtain⟨z,_,_,_,M⟩:=G.1 Z4
 refine sr (Kz (Za ((d:Int) < (X l2:Int))) (nt (JS ?_)))
 by_cases Z8:(d:Int) < (X l2:Int)
 obtain⟨p,Z5⟩:=dM (ls:=l2) (i:=d) iQ f7 (z.ro R) f5
 have Z1:=drop_at Z5
 refine jT (dT Z8) (sk (JS (bo (sr (fw (Zz (Zv ⟨ab S,ao S+d *1,Zk⟩)) (J9 (jk) Z Z ((z.ro R).addr (i:=d) U) U) (fw (vU p) (J5 Z (bO.one E0 (((z.ro R).elem iQ Z5 f7).at_ (k:=0) Z))) (An Z (JW (Mz Z (Mz Z (Kz (vP o 0) (Kz (vP o 4) (Lz (T t (X a) u) z 0 Tryz.isAgg90 (Mz Z (Kz (Zq #[vU p, Y Zj]) (j6 [vU p, Y Zj] 211 2 1 z ?_))))))))))))))))
 intro aG aH I
 replace I:=Own.upQ I
 replace I:Own w D aH [jV aG 1 1 (q1 dC.L ([(dC.q p Zj)])) 211 2,blk o [vP n 0, T g (X c.a.b.a) h, T j (X c.a.a.a) l, Y c.a.g, T t (X a) u] 92,jV t (X a) u (q1 dC.L a) 211 2]:=I
 have Z2:=I.pf [2]
 refine WL.do Z (Do.appendQ (k:=X a) (m:=1) (Er) Z2 Z Z (eO S4 (Z2.rdsQ (i:=1) Z) (cO dC.one ([(dC.q p Zj)]))) Z U (s:=X (a++ [(dC.q p Zj)])) f6 (u3).symm ?_)
 intro Z0 aa _ aI
 have bf:X (a++ [(dC.q p Zj)])=X a+1:=by simp only [o3,q6,L0]
 refine Kz (vP o 0) (Kz (vP o 4) (cu [T Z0 (X (a++ [(dC.q p Zj)])) aa] 4 (aI.pf [2]) Tryz.sizeOf90 ?_))
 intro _ aK
 refine G2 (bN (JY (JW (fw (vJ (d+1)) (J4 (e:=D3.wrap ((d:Int)+1)) yk f4) (Mz Z (G2 ?_))))))
 have aM:=(aK.pk [0,1]).pf []
 exact Kb (d+1,Z0,aa,(a++ [(dC.q p Zj)])) ⟨Z,Z,Z,Z,Z,ZV⟩ (G.2 ⟨aM,U,U,U,V (M) (V (ZX (λ q=>jh c l1 q a) Z1) Z)⟩) (by show X l2 - (d+1) < X l2 - d; omega)
 refine jF (dF Z8) (H0 (Ka ?_))
 have af:jh c l1 l2 c.b.a=a:=V (M) (V (ZX (λ q=>jh c l1 q a) (eU (ls:=l2) (i:=d) U)) Z)
 refine Ka (Kh (JY (sr (Mz Z (Kz (vJ (X l1)) (Mn Z (bo ?_)))))))
 obtain⟨aO,J⟩:=uG λ (f:Nat) x (y:Nat) b w'=>Own w D w' [blk o [vP n 0, T g (X c.a.b.a) h, T j (X c.a.a.a) l, Y c.a.g, T x (X b) y] 92,jV x (X b) y (q1 dC.L b) 211 2]/\f<=X l1/\X b=X a+f/\X b<=X a+f/\ji c l1 a=ji c (r8 f l1) b
 refine G3 (λ i:Nat × (Option Addr) × Nat × (List dC)=> [(30,vJ i.1),(29,vJ (X l1)),(28, T L (X l1) Z7),(0,vP o 0)]) aO (λ i=>X l1 - i.1) (0,t,u,a) ⟨Z,Z,Z,Z,ZV⟩ (J.2 ⟨(z.pf []),U,U,U,Z⟩) ?_
 rintro ⟨f,x,y,b⟩ _ ag
 show Wp _ _ _ [(30,vJ f),(29,vJ (X l1)),(28, T L (X l1) Z7),(0,vP o 0)] _ _
 obtain⟨A,_,_,_,Z6⟩:=J.1 ag
 refine sr (Kz (Za ((f:Int) < (X l1:Int))) (nt (JS ?_)))
 by_cases ah:(f:Int) < (X l1:Int)
 obtain⟨r,P⟩:=dM (ls:=l1) (i:=f) iQ f7 (A.ro Q) f5
 have ai:=drop_at P
 refine jT (dT ah) (sk (JS (bo (sr (fw (Zz (Zv ⟨ab L,ao L+f *1,Zk⟩)) (J9 (jk) Z Z ((A.ro Q).addr (i:=f) U) U) (fw (vU r) (J5 Z (bO.one E0 (((A.ro Q).elem iQ P f7).at_ (k:=0) Z))) (An Z (JW (Mz Z (Mz Z (Kz (vP o 0) (Kz (vP o 4) (Lz (T x (X b) y) A 0 Tryz.isAgg90 (Mz Z (Kz (Zq #[vU r, Y O]) (j6 [vU r, Y O] 211 2 1 A ?_))))))))))))))))
 intro aP aQ K
 replace K:=Own.upQ K
 replace K:Own w D aQ [jV aP 1 1 (q1 dC.L ([(dC.q r O)])) 211 2,blk o [vP n 0, T g (X c.a.b.a) h, T j (X c.a.a.a) l, Y c.a.g, T x (X b) y] 92,jV x (X b) y (q1 dC.L b) 211 2]:=K
 have aj:=K.pf [2]
 refine WL.do Z (Do.appendQ (k:=X b) (m:=1) (Er) aj Z Z (eO S4 (aj.rdsQ (i:=1) Z) (cO dC.one ([(dC.q r O)]))) Z U (s:=X (b++ [(dC.q r O)])) f6 (u3).symm ?_)
 intro ak au _ aR
 have bq:X (b++ [(dC.q r O)])=X b+1:=by simp only [o3,q6,L0]
 refine Kz (vP o 0) (Kz (vP o 4) (cu [T ak (X (b++ [(dC.q r O)])) au] 4 (aR.pf [2]) Tryz.sizeOf90 ?_))
 intro _ aT
 refine G2 (bN (JY (JW (fw (vJ (f+1)) (J4 (e:=D3.wrap ((f:Int)+1)) yk f4) (Mz Z (G2 ?_))))))
 have aV:=(aT.pk [0,1]).pf []
 exact Kb (f+1,ak,au,(b++ [(dC.q r O)])) ⟨Z,Z,Z,Z,ZV⟩ (J.2 ⟨aV,U,U,U,V (Z6) (V (ZX (λ q=>ji c q b) ai) Z)⟩) (by show X l1 - (f+1) < X l1 - f; omega)
 refine jF (dF ah) (H0 (Ka ?_))
 have av:ji c l1 a=b:=V (Z6) (V (ZX (λ q=>ji c q b) (eU (ls:=l1) (i:=f) U)) Z)
 refine Ka (Kh (KD (res0 Z) ?_))
 obtain rfl:=zj hr zq2
 exact⟨x,y,Z,(A.pf []),f2⟩
def fP (d:bD) (f:Nat) (e:aB) (b:bn):bD × bn:=
 bnd (jg b f) λ a=>bnd (lU d a.1 a.2.1) λ c=>(bD.q d.a (N c.b.a),a.2.2)
theorem pE (w D Z3) (j:bD) (z A B C E F p1 g) (a:aB) (n o p r s t u x y c) (b:bn) (e f d) (Z4:bD) (r1:bn) (H:Own w D w [blk Z3 [Zz (Zv ⟨g,0,Zk⟩), T z (X j.a.b.a) A, T B (X j.a.a.a) C, Y j.a.g, T E (X j.b.a) F] 92,jV E (X j.b.a) F (q1 dC.L j.b.a) 211 2,blk g (kB a n (X a.a.b.a) o p (X a.a.g.a) r s (X a.a.j.a) t a.a.t y u (X a.b.a) x c) 78,blk c [T e (X b.a.a) f] 111,row e (X b.a.a) f (q1 aH.L d) 159 6,sepL (q1 Kj d)]) (h:s0 aH.abs d=b.a.a) (aS:X j.b.a<=99000/\X b.a.a<=12) (aT:jZ b.a.a) (hr:fP j p1 a b=(Z4,r1)):
    Calls y3 88 #[vP Z3 0,vU p1] w (dI λ v w'=> ∃ G I J K k,v= .tuple #[]/\Own w D w' [blk Z3 [vP g 0, T z (X j.a.b.a) A, T B (X j.a.a.a) C, Y j.a.g, T G (X Z4.b.a) I] 92,jV G (X Z4.b.a) I (q1 dC.L Z4.b.a) 211 2,blk g (kB a n (X a.a.b.a) o p (X a.a.g.a) r s (X a.a.j.a) t a.a.t y u (X a.b.a) x c) 78,blk c [T J (X r1.a.a) K] 111,row J (X r1.a.a) K (q1 aH.L k) 159 6,sepL (q1 Kj k)]/\(s0 aH.abs k=r1.a.a)/\(X Z4.b.a<=X j.b.a+24)):=by
 unfold fP at hr
 have M:=bf h
 have ay:=H.rowCQ (i:=1) Z
 refine cb Tryz.func88 ?_
 refine JW (Mz Z (Mz Z (Kz (vP Z3 0) (Kz (vP Z3 0) (Lz (vP g 0) H 0 S5 (Kz (vP g 0) (Kz (vP g 19) (Lz (vP c 0) H 2 Tryz.isAgg73 (Mz Z ?_)))))))))
 obtain⟨⟨l,m,Z8⟩,Z5⟩:∃ q:(List Nat) × (List Nat) × bn,jg b p1=q:=⟨_,Z⟩
 obtain⟨_,Z1,_,Z2,_⟩:=KR (H.pb [0,1,2])
 refine cl Tryz.call143 (vK _ _ c b e f d p1 l m Z8 Z1 h g4 (by first | assumption | exact jZ.hd f8 | exact(Tk.snd f8).hd) (by first | assumption | exact Tk.snd f8) Z5) ?_
 rintro _ _ ⟨Z0,aa,af,ag,aA,aC,aD,rfl,ah,Z6,P⟩
 have L:=Z2 _ _ ah
 have aM:=bf Z6
 have aN:=zr 0 L
 have aO:=zr 1 L
 have aP:=zr 3 L
 replace P:=P
 refine Kz (T Z0 (X l) aa) (Kz (T af (X m) ag) ?_)
 obtain⟨Z7,Q⟩:∃ q,lU j l m=q:=⟨_,Z⟩
 obtain⟨_,ai,_,aj,R⟩:=KE (L.pf [5,6])
 refine cl Tryz.call136 (tq _ _ Z3 j z A B C E F g Z0 (X l) aa l af (X m) ag m Z7 ai (R _ 0 _ Z bB) Z U (R _ 1 _ Z bB) Z U f2 Q) ?_
 rintro _ _ ⟨aG,aI,rfl,ak,S⟩
 have au:=aj _ _ ak
 have aR:=au.rowCQ (i:=1) Z
 replace S:=S
 refine G2 (KD (res0 Z) ?_)
 obtain⟨rfl,rfl⟩:=fI (zj hr zq2)
 exact⟨aG,aI,aA,aC,aD,Z,(au.pk [0,1,7,4,5,6]),Z6,f2⟩
def iV (c:bD) (d:Nat) (a:aB):bD × aB:=
 bnd (eP a d) λ b=>(bD.q (bY.q (N (c.a.b.a++ [(cz.q 4 a.a.r 0 0 5 0 0 0 d 0 0 0 0 0 0 O (ai.q [] []) (N []) (N []) (N []))])) (N c.a.a.a) c.a.g) (N c.b.a),aB.q a.a (N b.b.a))
theorem uT (w D J) (h:bD) (Z6 P j Q R S Z7 g b) (a:aB) (l n p r u x z A e B C) (r0:bD) (r1:aB) (H:Own w D w [blk J [Zz (Zv ⟨b,0,Zk⟩), T Z6 (X h.a.b.a) P, T Q (X h.a.a.a) R, Y h.a.g, T S (X h.b.a) Z7] 92,row Z6 (X h.a.b.a) P (q1 bM.L j) 47 21,sepL (q1 Km j),blk b (kB a l (X a.a.b.a) n p (X a.a.g.a) r u (X a.a.j.a) x a.a.t B z (X a.b.a) A C) 78,row z (X a.b.a) A (q1 aY.L e) 100 4,sepL (q1 Kq e)]) (F:s0 bM.abs j=h.a.b.a) (E:s0 aY.abs e=a.b.a) (bK:X h.a.b.a<=100000/\X a.b.a<=1000) (hr:iV h g a=(r0,r1)):
    Calls y3 137 #[vP J 0,vU g] w (dI λ v w'=> ∃ K L G M Z5 I,v= .tuple #[]/\Own w D w' [blk J [vP b 0, T K (X r0.a.b.a) L, T Q (X h.a.a.a) R, Y h.a.g, T S (X h.b.a) Z7] 92,row K (X r0.a.b.a) L (q1 bM.L G) 47 21,sepL (q1 Km G),blk b (kB a l (X a.a.b.a) n p (X a.a.g.a) r u (X a.a.j.a) x a.a.t B M (X r1.b.a) Z5 C) 78,row M (X r1.b.a) Z5 (q1 aY.L I) 100 4,sepL (q1 Kq I)]/\(s0 bM.abs G=r0.a.b.a)/\(s0 aY.abs I=r1.b.a)/\(X r0.a.b.a=X h.a.b.a+1)):=by
 unfold iV at hr
 have aJ:=bf F
 have aa:=bf E
 have aK:=zr 1 H
 have ag:=zr 4 H
 refine cb Tryz.func137 ?_
 refine sr (Mz Z (Kz (vP J 0) (Kz (vP J 0) (Lz (vP b 0) H 0 S5 (Mz Z ?_)))))
 obtain⟨ah,Z3⟩:∃ q,eP a g=q:=⟨_,Z⟩
 obtain⟨_,aj,_,ak,_⟩:=KR (H.pb [0,1,2])
 refine cl Tryz.call86 (nk _ _ b a l n p r u x z A e B C g ah aj E f2 Z3) ?_
 rintro _ _ ⟨aM,aN,aO,rfl,au,Z4⟩
 have av:=ak _ _ au
 have bB:=bf Z4
 have bC:=zr 1 av
 refine nt (JW (Mz Z (Mz Z (Kz (Zq (Zb (fT 4 0 0 0 5 0 0 0 g 0 0 0 0 0 0 O [] [] Zk 0 0 Zk 0 0 Zk 0 0))) (WL.do Z (Ki Tryz.call80 Z ?_ (λ _ _ k=>k)))))))
 refine cb Tryz.func80 ?_
 refine sr ?_
 refine cB (fT 4 0 0 0 5 0 0 0 g 0 0 0 0 0 0 O [] [] Zk 0 0 Zk 0 0 Zk 0 0) 47 av ?_
 intro Z8 _ Z1
 refine ns (Mz Z (Kz (vP J 0) (Kz (vP J 0) (Lz (vP b 0) Z1 4 S5 (Kz (vP b 0) (Kz (vP b 0) (Kz (vP b 0) (Lz (vI a.a.r) Z1 1 Tryz.isAgg3 (Kz (vP Z8 1) (cu [vI a.a.r] 1 Z1 Tryz.sizeOf3 ?_))))))))))
 intro _ ax
 refine ns (Kz (vP Z8 18) (Lz (T Zk 0 0) ax 0 Q9 ?_))
 obtain⟨_,ay,_,az,_⟩:=JZ ax
 refine cl Tryz.call35 (fJ _ _ Zk 0 0 [] [] ay (λ _ _=>bV.nil _ _ _) Z i2 Z) ?_
 rintro _ _ ⟨c,d,rfl,aA⟩
 have aC:=az _ _ aA
 have bH:=zr 0 aC
 refine Kz (vP Z8 18) (cu [T c 0 d] 18 (aC.pf [1]) S6 ?_)
 intro _ aR
 refine nt (kL 8 [8,12] Kg aR ?_)
 intro _ aS
 refine Kr (v:=vP J 0) 0 Z f1 (λ _=>J3 Z) (qv 1 Z Z (qp J 0 2 Z (qp J 1 3 Z (qp J 1 4 Z (ql 5 Z 5 Tryz.isAgg50 Z Z Z (qt (v:= Zq (Zb (fT 4 a.a.r 0 0 5 0 0 0 g 0 0 0 0 0 0 O [] [] c 0 d Zk 0 0 Zk 0 0))) 6 Z (λ _ ⟨_,H9⟩=>J5 Z (J7 (cs:=(fT 4 a.a.r 0 0 5 0 0 0 g 0 0 0 0 0 0 O [] [] c 0 d Zk 0 0 Zk 0 0)) Tryz.isAgg47 Tryz.sizeOf47 ((H9.cls (i:=0) Z).lit (k:=0) (m:=21) Z))) (qd 7 Z (KF (cs:=(fT 4 a.a.r 0 0 5 0 0 0 g 0 0 0 0 0 0 O [] [] c 0 d Zk 0 0 Zk 0 0)) (t:=47) (sz:=21) (m:=1) aS Z Z ZY Z f7 ?_))))))))
 intro aT Z2 Z0
 replace Z0:=Ku (y:=row aT 1 1 (q1 bM.L ([(bM.q 4 a.a.r 0 0 5 0 0 0 g 0 0 0 0 0 0 O (ai.q [] []) (O4 c d []) (O4 Zk 0 []) (O4 Zk 0 []))])) 47 21) Z Z0
 have aD:=Z0.pb [0]
 refine⟨.inr ⟨_,aD⟩, ?_⟩
 have aW:=aD.sepNil.free (bW 65 3)
 have aX:=aW.free (bW 83 2)
 have aF:=aX.pf [9,10,4,1]
 refine qd 8 Z (Kk (k:=X h.a.b.a) (m:=1) (qC) aF Z Z (eO S7 (aF.rds (i:=11) Z) (cO bM.one ([(bM.q 4 a.a.r 0 0 5 0 0 0 g 0 0 0 0 0 0 O (ai.q [] []) (O4 c d []) (O4 Zk 0 []) (O4 Zk 0 []))]))) Z U (s:=X (h.a.b.a++ [(cz.q 4 a.a.r 0 0 5 0 0 0 g 0 0 0 0 0 0 O (ai.q [] []) (N []) (N []) (N []))])) f6 (u3).symm ?_)
 intro aG aH aZ bg
 have bn:=(bg.pf [1,2,3,4,5]).sepAdd (L2:= [row c 0 d (q1 aV.L []) 62 6,row Zk 0 0 (q1 aQ.L []) 65 3,row Zk 0 0 (q1 bF.L []) 83 2,sepL (q1 Kl [])]) (u3 (f:=Km) (xs:=j) (ys:= [(bM.q 4 a.a.r 0 0 5 0 0 0 g 0 0 0 0 0 0 O (ai.q [] []) (O4 c d []) (O4 Zk 0 []) (O4 Zk 0 []))])).symm
 have bI:X (h.a.b.a++ [(cz.q 4 a.a.r 0 0 5 0 0 0 g 0 0 0 0 0 0 O (ai.q [] []) (N []) (N []) (N []))])=X h.a.b.a+1:=by simp only [o3,q6,L0]
 have bJ:=bf (iP (es:= [(bM.q 4 a.a.r 0 0 5 0 0 0 g 0 0 0 0 0 0 O (ai.q [] []) (O4 c d []) (O4 Zk 0 []) (O4 Zk 0 []))]) (ms:= [(cz.q 4 a.a.r 0 0 5 0 0 0 g 0 0 0 0 0 0 O (ai.q [] []) (N []) (N []) (N []))]) F Z)
 refine⟨.inl f1, (Kr (v:=vP J 0) 9 Z f1 (λ _=>yk) (Kr (v:=vP J 1) 10 Z f1 (λ _=>yk) (Kr (v:=vP J 1) 11 Z f1 (λ _=>yk) ?_)))⟩
 have bq:=bn.pf [6]
 refine qe 12 Z (Do.store (vs:= [T aG (X (h.a.b.a++ [(cz.q 4 a.a.r 0 0 5 0 0 0 g 0 0 0 0 0 0 O (ai.q [] []) (N []) (N []) (N []))])) aH]) (o:=1) bq Z Z Tryz.sizeOf50 Z Z Z Z ?_)
 intro _ bu
 refine⟨.inl f1, (qn (KD (res0 Z) (G2 (KD (res0 Z) ?_))))⟩
 obtain⟨rfl,rfl⟩:=fI (zj hr zq1)
 exact⟨aG,aH,(j++ [(bM.q 4 a.a.r 0 0 5 0 0 0 g 0 0 0 0 0 0 O (ai.q [] []) (O4 c d []) (O4 Zk 0 []) (O4 Zk 0 []))]),aM,aN,aO,Z,(bu.px [0,2] [3,7] []),(iP (es:= [(bM.q 4 a.a.r 0 0 5 0 0 0 g 0 0 0 0 0 0 O (ai.q [] []) (O4 c d []) (O4 Zk 0 []) (O4 Zk 0 []))]) (ms:= [(cz.q 4 a.a.r 0 0 5 0 0 0 g 0 0 0 0 0 0 O (ai.q [] []) (N []) (N []) (N []))]) F Z),Z4,f2⟩
def jR:List aG->List aV->(List aV)
  | [],a=>a
  | b::c,a=>jR c (a++ [(aV.q 2 b.j b.k [] [] 0)])
def gW (g:bD) (l1:List aV) (b:aB) (a:StoreT):List aV->List aV->(List aV)
  | [],c=>c
  | e::f,c=>bnd (nE b e a) λ d=>bnd (jR d.1 c) λ sLrLsbL=>gW g l1 b a f sLrLsbL
def nG (d:bD) (l1:List aV) (c:aB) (b:StoreT):(List dA) × Int:=
 bnd (gW d l1 c b l1 []) λ sLrL=>bnd (rJ [] ((sLrL++d.a.a.a)++l1)) λ a=>if a.2.2=0 then((r8 ((X ((sLrL++d.a.a.a)++l1)) - X l1) a.2.1),0) else(([]:List dA),a.2.2)
theorem wM (w D R) (d:bD) (Z5 Z6 I J P Q Z0 n1 c1 l1 p) (a:aB) (u x z A B C E F G g) (b:StoreT) (h f r0 r1) (H:Own w D w [blk R [Zz (Zv ⟨p,0,Zk⟩), T Z5 (X d.a.b.a) Z6, T I (X d.a.a.a) J, Y d.a.g, T P (X d.b.a) Q] 92,blk p (kB a u (X a.a.b.a) x z (X a.a.g.a) A B (X a.a.j.a) C a.a.t g E (X a.b.a) F G) 78,blk g [T h (X b.a.a) f] 29]) (aT:Ro w D λ w'=>bV w' 6 I (X d.a.a.a) (q1 aV.L d.a.a.a)) (dC:X d.a.a.a<=J/\X d.a.a.a<=9223372036854775807) (az:Ro w D λ w'=>bV w' 6 Z0 n1 (q1 aV.L l1)) (dD:n1=X l1) (fM:X l1 *80<=211106232532992) (S:Ro w D λ w'=>bV w' 2 h (X b.a.a) (q1 aG.L b.a.a)) (aU:X b.a.a<=f/\X b.a.a<=9223372036854775807) (fO:X l1<=24/\X d.a.a.a<=1000/\X b.a.a<=4000) (hr:nG d l1 a b=(r0,r1)):
    Calls y3 129 #[vP R 0, T Z0 n1 c1] w (dI λ v w'=> ∃ B0 b0 e0,v= .tuple #[T B0 (X r0) b0,vI r1]/\Own w D w' [row B0 (X r0) b0 (q1 aQ.L e0) 65 3,sepL (q1 Kl e0),blk R [vP p 0, T Z5 (X d.a.b.a) Z6, T I (X d.a.a.a) J, Y d.a.g, T P (X d.b.a) Q] 92,blk p (kB a u (X a.a.b.a) x z (X a.a.g.a) A B (X a.a.j.a) C a.a.t g E (X a.b.a) F G) 78,blk g [T h (X b.a.a) f] 29]/\(s0 aQ.abs e0=r0)/\(X r0<=24)):=by
 unfold nG at hr
 subst dD
 refine cb Tryz.func129 ?_
 refine sr (Az Z (Ar Z (An Z (JS (sr (Mz Z (Kz (vJ (X l1)) (Mn Z (bo ?_)))))))))
 have dH:=(H.free (bW 62 6)).pb [0]
 obtain⟨dJ,aa⟩:=uG λ aA (aC:Nat) c (l:Nat) w'=>Own w D w' [blk R [vP p 0, T Z5 (X d.a.b.a) Z6, T I (X d.a.a.a) J, Y d.a.g, T P (X d.b.a) Q] 92,blk p (kB a u (X a.a.b.a) x z (X a.a.g.a) A B (X a.a.j.a) C a.a.t g E (X a.b.a) F G) 78,blk g [T h (X b.a.a) f] 29,row aA (X c) aC (q1 aV.L c) 62 6]/\l<=X l1/\X c<=4000 *l/\gW d l1 a b l1 []=gW d l1 a b (r8 l l1) c
 refine G3 (λ i:(Option Addr) × Nat × (List aV) × Nat=> [(4, T Zk 0 0),(5,vI 0),(6, T i.1 (X i.2.2.1) i.2.1),(18,vJ i.2.2.2),(17,vJ (X l1)),(16, T Z0 (X l1) c1),(0,vP R 0),(1, T Z0 (X l1) c1)]) dJ (λ i=>X l1 - i.2.2.2) (Zk,0, [],0) ⟨Z,Z,Z,Z,Z,Z,Z,Z,ZV⟩ (aa.2 ⟨dH,(show 0<=X l1/\0<=4000 *0/\gW d l1 a b l1 []=gW d l1 a b (r8 0 l1) [] from ⟨U,U,Z⟩)⟩) ?_
 rintro ⟨aA,aC,c,l⟩ _ bA
 obtain⟨Z8,_,_,aI⟩:=aa.1 bA
 refine sr (Kz (Za ((l:Int) < (X l1:Int))) (nt (JS ?_)))
 by_cases bC:(l:Int) < (X l1:Int)
 obtain⟨Z7,aJ⟩:=dM (ls:=l1) (i:=l) aV.len f7 (Z8.ro az) f5
 have bE:=drop_at aJ
 refine jT (dT bC) (sk (JS (bo (sr (fw (Zz (Zv ⟨ab Z0,ao Z0+l *6,Zk⟩)) (J9 (nH) Z Z ((Z8.ro az).addr (i:=l) U) U) (fw (Zq (Zb (aV.L Z7))) (J5 Z (J7 (cs:=(aV.L Z7)) C1 C0 ((Z8.ro az).elem aV.len aJ f7))) (cB [vI 0, Z9 ⟨Zb []⟩, Z9 ⟨Zb []⟩, Z9 ⟨Zb []⟩, Z9 ⟨Zb []⟩,vI 0] 62 Z8 ?_)))))))
 intro _ _ dK
 refine cu (aV.L Z7) 0 dK C0 ?_
 intro _ dL
 refine nt (JS (DJ [] (J6 (bJ.block (J6 (J6 (bJ.block (J6 Kg)))))) dL ?_))
 intro _ dN
 refine qv 0 Z Z (qp R 0 1 Z (qp R 0 2 Z (ql 3 Z 1 S5 Z Z Z (qt (v:= Zq (Zb (aV.L Z7))) 4 Z (λ _ ⟨_,H9⟩=>J5 Z (J7 (cs:=(aV.L Z7)) C1 C0 ((H9.cls (i:=0) Z).lit (k:=0) (m:=6) Z))) ?_))))
 obtain⟨⟨j,Z1⟩,aK⟩:∃ q:(List aG) × Int,nE a Z7 b=q:=⟨_,Z⟩
 obtain⟨_,bF,bG,bH,_⟩:=KE (dN.pf [2,3])
 refine qd 5 Z (Ki Tryz.call175 Z (wL _ _ p a u x z A B C E F G Z7 g b h f j Z1 bF (bG _ S) U f2 aK) ?_)
 rintro _ _ ⟨Z2,aD,rfl,bI,aL⟩
 have bK:=bH _ _ bI
 have fe:=zr 0 bK
 replace aL:=aL
 have bL:=bK.px [3,4] [] [0]
 refine⟨.inr ⟨_,bL⟩, (qv 6 Z Z (qk (T Z2 (X j) aD) 7 Z (qk (vI Z1) 8 Z (qa 9 Z Z (qa 10 Z Z (qn (JY (JS (JS (JW (Mz Z (fw (Za (¬ (Z1=0))) (Kc (e:= !(Zw (Z1=0))) yk ZW) (nt ?_)))))))))))))⟩
 have bM:(Zw (¬ (Z1=0)))=O:=(dF U)
 refine jF bM (sk (sr (Mz Z (Kz (vJ (X j)) (Mn Z (bo ?_))))))
 have dQ:=(bL.px [] [0] []).pb [3]
 obtain⟨dR,af⟩:=uG λ aF (aH:Nat) r (o:Nat) w'=>Own w D w' [blk R [vP p 0, T Z5 (X d.a.b.a) Z6, T I (X d.a.a.a) J, Y d.a.g, T P (X d.b.a) Q] 92,blk p (kB a u (X a.a.b.a) x z (X a.a.g.a) A B (X a.a.j.a) C a.a.t g E (X a.b.a) F G) 78,blk g [T h (X b.a.a) f] 29,row Z2 (X j) aD (q1 aG.L j) 67 2,row aF (X r) aH (q1 aV.L r) 62 6]/\o<=X j/\X r=X c+o/\X r<=X c+o/\X r<=4000 *l+o/\jR j c=jR (r8 o j) r
 refine G3 (λ i:(Option Addr) × Nat × (List aV) × Nat=> [(6, T i.1 (X i.2.2.1) i.2.1),(36,vJ i.2.2.2),(35,vJ (X j)),(34, T Z2 (X j) aD),(4, T Zk 0 0),(5,vI 0),(18,vJ l),(17,vJ (X l1)),(16, T Z0 (X l1) c1),(0,vP R 0),(1, T Z0 (X l1) c1)]) dR (λ i=>X j - i.2.2.2) (aA,aC,c,0) ⟨Z,Z,Z,Z,Z,Z,Z,Z,Z,Z,Z,ZV⟩ (af.2 ⟨dQ,U,U,U,U,Z⟩) ?_
 rintro ⟨aF,aH,r,o⟩ _ bO
 obtain⟨ag,_,_,_,_,aM⟩:=af.1 bO
 refine sr (Kz (Za ((o:Int) < (X j:Int))) (nt (JS ?_)))
 by_cases bP:(o:Int) < (X j:Int)
 obtain⟨n,aN⟩:=dM (ls:=j) (i:=o) aG.len f7 (ag.rds (i:=3) Z) f5
 have bQ:=drop_at aN
 refine jT (dT bP) (sk (JS (bo (sr (fw (Zz (Zv ⟨ab Z2,ao Z2+o *2,Zk⟩)) (J9 (jo) Z Z ((ag.rds (i:=3) Z).addr (i:=o) U) U) (fw (Zq (Zb (aG.L n))) (J5 Z (J7 (cs:=(aG.L n)) Tryz.isAgg67 Tryz.sizeOf67 ((ag.rds (i:=3) Z).elem aG.len aN f7))) (cB [Z9 ⟨Zb []⟩, Z9 ⟨Zb []⟩] 67 ag ?_)))))))
 intro bR _ dS
 refine cu (aG.L n) 0 dS Tryz.sizeOf67 ?_
 intro _ aW
 refine nt (JW (Mz Z (Kz (vP bR 0) (Lz (Z9 ⟨Zb n.j⟩) aW 0 Tryz.isAgg9 (Kz (vP bR 1) (Lz (Z9 ⟨Zb n.k⟩) aW 0 Tryz.isAgg9 (Kz (Zq #[vI 2, Z9 ⟨Zb n.j⟩, Z9 ⟨Zb n.k⟩, Z9 ⟨Zb []⟩, Z9 ⟨Zb []⟩,vI 0]) (j6 [vI 2, Z9 ⟨Zb n.j⟩, Z9 ⟨Zb n.k⟩, Z9 ⟨Zb []⟩, Z9 ⟨Zb []⟩,vI 0] 62 6 1 aW ?_))))))))
 intro dU _ aX
 replace aX:=Ku (y:=row dU 1 1 (q1 aV.L ([(aV.q 2 n.j n.k [] [] 0)])) 62 6) Z aX
 have bS:=aX.pf [6]
 refine WL.do Z (Kk (k:=X r) (m:=1) (nH) bS Z Z (eO Q8 (bS.rds (i:=1) Z) (cO aV.one ([(aV.q 2 n.j n.k [] [] 0)]))) Z U (s:=X (r++ [(aV.q 2 n.j n.k [] [] 0)])) f6 (u3).symm ?_)
 intro dV dW _ dX
 have fC:X (r++ [(aV.q 2 n.j n.k [] [] 0)])=X r+1:=by simp only [o3,q6,L0]
 refine Az Z (G2 (bN (JY (JW (fw (vJ (o+1)) (J4 (e:=D3.wrap ((o:Int)+1)) yk f4) (Mz Z (G2 ?_)))))))
 have bU:=(dX.px [] [1,2] []).pb [0]
 exact Kb (dV,dW,(r++ [(aV.q 2 n.j n.k [] [] 0)]),o+1) ⟨Z,Z,Z,Z,Z,Z,Z,Z,Z,Z,Z,ZV⟩ (af.2 ⟨bU,U,U,U,U,V (aM) (V (ZX (λ q=>jR q r) bQ) Z)⟩) (by show X j - (o+1) < X j - o; omega)
 refine jF (dF bP) (H0 (Ka ?_))
 have aY:jR j c=r:=V (aM) (V (ZX (λ q=>jR q r) (eU (ls:=j) (i:=o) U)) Z)
 refine Ka (Kh (bN (JY (JW (fw (vJ (l+1)) (J4 (e:=D3.wrap ((l:Int)+1)) yk f4) (Mz Z (G2 ?_)))))))
 have bY:=(ag.px [] [3] []).pf []
 exact Kb (aF,aH,r,l+1) ⟨Z,Z,Z,Z,Z,Z,Z,Z,ZV⟩ (aa.2 ⟨bY,U,U,V (aI) (V (ZX (λ q=>gW d l1 a b q c) bE) (V (ae aK) (ae aY)))⟩) (by show X l1 - (l+1) < X l1 - l; omega)
 refine jF (dF bC) (H0 (Ka ?_))
 have ah:gW d l1 a b l1 []=c:=V (aI) (V (ZX (λ q=>gW d l1 a b q c) (eU (ls:=l1) (i:=l) U)) Z)
 refine Ka (Kh (JY (sr (Mz Z (Mz Z (Kz (vP R 0) (Kz (vP R 1) (Kz (vP R 2) (Lz (T I (X d.a.a.a) J) Z8 0 Q9 ?_)))))))))
 have aO:=Z8.pf [3]
 refine WL.do Z (Kk (k:=X c) (m:=X d.a.a.a) (nH) aO Z Z (eO Q8 (aO.ro aT) (cO aV.one d.a.a.a)) Z U (s:=X (c++d.a.a.a)) f6 (u3).symm ?_)
 intro _ _ _ aP
 have dY:X (c++d.a.a.a)=X c+X d.a.a.a:=by simp only [o3,q6,L0]
 refine Mz Z (WL.do Z (Kk (k:=X (c++d.a.a.a)) (m:=X l1) (nH) aP Z Z (eO Q8 (aP.ro az) (cO aV.one l1)) Z U (s:=X ((c++d.a.a.a)++l1)) f6 (u3).symm ?_))
 intro bZ cz _ cK
 have dZ:X ((c++d.a.a.a)++l1)=(X (c++d.a.a.a))+X l1:=by simp only [o3,q6,L0]
 refine Ar Z (Mz Z ?_)
 obtain⟨⟨ai,t,K⟩,L⟩:∃ q:(List aG) × (List dA) × Int,rJ [] ((c++d.a.a.a)++l1)=q:=⟨_,Z⟩
 obtain⟨_,aZ,_,bg,bi⟩:=JZ cK
 refine cl Tryz.call176 (Da _ _ Zk 0 0 [] bZ (X ((c++d.a.a.a)++l1)) cz ((c++d.a.a.a)++l1) ai t K aZ (λ _ _=>bV.nil _ _ _) Z i2 (bi _ 0 _ Z bB) Z i8 i6 L) ?_
 rintro _ aR ⟨cZ,df,aj,Z3,ak,rfl,bn,M,au,av⟩
 have ax:=bg _ _ bn
 have ed:=bf M
 have ek:=zr 0 ax
 have eu:=zr 1 ax
 replace au:X ai<=0+X ((c++d.a.a.a)++l1):=au
 replace av:X t<=X ((c++d.a.a.a)++l1):=av
 have eB: ¬ (K=0)\/X t=X ((c++d.a.a.a)++l1):=Ff L
 refine Mz Z (Kz (T cZ (X ai) df) (Kz (T aj (X t) Z3) (Kz (vI K) (Az Z (Az Z (An Z (JS (JS ?_))))))))
 have aS:=ax.px [] [0] []
 refine JW (Mz Z (fw (Za (¬ (K=0))) (Kc (e:= !(Zw (K=0))) yk ZW) (nt ?_)))
 by_cases Z4:K=0
 refine jF (dF (Nu Z4)) (sk (sr (Mz Z (Mz Z (Kz (vI ((X ((c++d.a.a.a)++l1):Nat):Int)) (Mz Z (Kz (vJ (X l1)) (fw (vI (((X ((c++d.a.a.a)++l1)) - X l1:Nat):Int)) (J4 (e:=D3.wrap (((X ((c++d.a.a.a)++l1):Nat):Int) - (X l1:Int))) yk f4) (fw (T (fA aj ((X ((c++d.a.a.a)++l1)) - X l1) 3 Z3) (X t - ((X ((c++d.a.a.a)++l1)) - X l1)) (Z3 - ((X ((c++d.a.a.a)++l1)) - X l1))) (Kv (vD) Z Z U) ?_)))))))))
 obtain⟨_,bq,_,bu,_⟩:=KE aS
 refine cl Tryz.call177 (Ep _ _ aj (X t) Z3 ak t ((X ((c++d.a.a.a)++l1)) - X l1) bq Z M U U U) ?_
 rintro _ _ ⟨dh,di,rfl,bv⟩
 have eG:X (r8 ((X ((c++d.a.a.a)++l1)) - X l1) t)=X t - ((X ((c++d.a.a.a)++l1)) - X l1):=by rw [List.length_drop]
 have eH:X (r8 ((X ((c++d.a.a.a)++l1)) - X l1) ak)=X (r8 ((X ((c++d.a.a.a)++l1)) - X l1) t):=by exact bf (by rw [List.map_drop,M])
 refine Az Z (An Z (rt (Ke (lw Z Z Z) ?_)))
 have dn:=(bu _ _ bv).px [] [2] []
 obtain⟨rfl,rfl⟩:=fI (zj hr zq3)
 exact⟨dh,di,(r8 ((X ((c++d.a.a.a)++l1)) - X l1) ak),Z,dn,(by rw [List.map_drop,M]),f2⟩
 refine jT (dT Z4) (sr (Mz Z (Az Z (An Z (rt (tR (Ke (lw Z Z Z) ?_)))))))
 have dw:Own w D aR (sepL (q1 Kl [])::_):=aS.sepNil
 have dx:Own w D aR (row Zk 0 0 (q1 aQ.L []) 65 3::_):=dw.free (bW 65 3)
 obtain⟨rfl,rfl⟩:=fI (zj hr zq3)
 exact⟨Zk,0, [],Z,(dx.pk [0,1,5,6,7]),Z,f2⟩
def gY (d:bD) (e:dG) (c:aB) (b:StoreT):Int × bD:=
 bnd (nG d e.a.a c b) λ a=>if a.2=0 then(0,bD.q (bY.q (N (d.a.b.a++ [(cz.q 4 c.a.r 0 0 3 0 0 0 e.r 0 0 0 0 0 0 O (ai.q [] []) (N []) (N a.1) (N []))])) (N d.a.a.a) d.a.g) (N d.b.a)) else(a.2,d)
theorem sP (w D Z8) (h:bD) (Z7 Z3 z Z4 Z5 Z2 Z0) (d:dG) (Z6 au P n) (a:aB) (B C E F G I J K L p) (b:StoreT) (g c r0) (r1:bD) (H:Own w D w [blk Z8 [Zz (Zv ⟨n,0,Zk⟩), T Z7 (X h.a.b.a) Z3, T Z4 (X h.a.a.a) Z5, Y h.a.g, T Z2 (X h.b.a) Z0] 92,row Z7 (X h.a.b.a) Z3 (q1 bM.L z) 47 21,sepL (q1 Km z),blk n (kB a B (X a.a.b.a) C E (X a.a.g.a) F G (X a.a.j.a) I a.a.t p J (X a.b.a) K L) 78,blk p [T g (X b.a.a) c] 29]) (M:s0 bM.abs z=h.a.b.a) (ax:Ro w D λ w'=>bV w' 6 Z4 (X h.a.a.a) (q1 aV.L h.a.a.a)) (bi:X h.a.a.a<=Z5/\X h.a.a.a<=9223372036854775807) (ay:au=X d.a.a) (az:Ro w D λ w'=>bV w' 6 Z6 (X d.a.a) (q1 aV.L d.a.a)) (bn:X d.a.a<=P/\X d.a.a<=9223372036854775807) (R:Ro w D λ w'=>bV w' 2 g (X b.a.a) (q1 aG.L b.a.a)) (aA:X b.a.a<=c/\X b.a.a<=9223372036854775807) (dh:X h.a.b.a<=100000/\X d.a.a<=24/\X h.a.a.a<=1000/\X b.a.a<=4000) (hr:gY h d a b=(r0,r1)):
    Calls y3 77 #[vP Z8 0, Zq #[vU d.r, T Z6 au P]] w (dI λ v w'=> ∃ aa af S,v=vI r0/\Own w D w' [blk Z8 [vP n 0, T aa (X r1.a.b.a) af, T Z4 (X h.a.a.a) Z5, Y h.a.g, T Z2 (X h.b.a) Z0] 92,row aa (X r1.a.b.a) af (q1 bM.L S) 47 21,sepL (q1 Km S),blk n (kB a B (X a.a.b.a) C E (X a.a.g.a) F G (X a.a.j.a) I a.a.t p J (X a.b.a) K L) 78,blk p [T g (X b.a.a) c] 29]/\(s0 bM.abs S=r1.a.b.a)/\(X r1.a.b.a<=X h.a.b.a+1)):=by
 unfold gY at hr
 subst ay
 have bg:=bf M
 have bq:=zr 1 H
 refine cb Tryz.func77 ?_
 refine sr (cB [vU d.r, T Z6 (X d.a.a) P] 80 H ?_)
 intro aI _ aJ
 refine Ar Z (Mz Z (Kz (vP aI 1) (Lz (T Z6 (X d.a.a) P) aJ 0 Q9 ?_)))
 obtain⟨⟨r,Z1⟩,ag⟩:∃ q:(List dA) × Int,nG h d.a.a a b=q:=⟨_,Z⟩
 obtain⟨_,aK,ah,aL,_⟩:=KR (aJ.pb [0,2,3])
 refine cl Tryz.call129 (wM _ _ Z8 h Z7 Z3 Z4 Z5 Z2 Z0 Z6 (X d.a.a) P d.a.a n a B C E F G I J K L p b g c r Z1 aK (ah _ ax) U (ah _ az) Z U (ah _ R) U f2 ag) ?_
 rintro _ _ ⟨j,l,A,rfl,aM,Q,av⟩
 have aj:=aL _ _ aM
 have bT:=bf Q
 have bU:=zr 0 aj
 replace av:=av
 refine Mz Z (Kz (T j (X r) l) (Kz (vI Z1) (Az Z (An Z (JS (sr (Mz Z (fw (Za (¬ (Z1=0))) (Kc (e:= !(Zw (Z1=0))) yk ZW) (nt ?_)))))))))
 by_cases ak:Z1=0
 refine jF (dF (Nu ak)) (sk (sr (Mz Z (Kz (vP aI 0) (Lz (vU d.r) aj 5 E0 (Mz Z (Kz (Zq (Zb (fT 4 0 0 0 3 0 0 0 d.r 0 0 0 0 0 0 O [] [] Zk 0 0 j (X r) l Zk 0 0))) (WL.do Z (Ki Tryz.call80 Z ?_ (λ _ _ k=>k))))))))))
 refine cb Tryz.func80 ?_
 refine sr (cB (fT 4 0 0 0 3 0 0 0 d.r 0 0 0 0 0 0 O [] [] Zk 0 0 j (X r) l Zk 0 0) 47 aj ?_)
 intro aC _ aD
 refine ns (Mz Z (Kz (vP Z8 0) (Kz (vP Z8 0) (Lz (vP n 0) aD 3 S5 (Kz (vP n 0) (Kz (vP n 0) (Kz (vP n 0) (Lz (vI a.a.r) aD 4 Tryz.isAgg3 (Kz (vP aC 1) (cu [vI a.a.r] 1 aD Tryz.sizeOf3 ?_))))))))))
 intro _ aN
 refine ns (Kz (vP aC 18) (Lz (T Zk 0 0) aN 0 Q9 ?_))
 obtain⟨_,aO,_,aP,_⟩:=JZ aN
 refine cl Tryz.call35 (fJ _ _ Zk 0 0 [] [] aO (λ _ _=>bV.nil _ _ _) Z i2 Z) ?_
 rintro _ _ ⟨u,x,rfl,aR⟩
 have aS:=aP _ _ aR
 have cK:=zr 0 aS
 refine Kz (vP aC 18) (cu [T u 0 x] 18 (aS.pf [1]) S6 ?_)
 intro _ bz
 refine nt (kL 10 [8,12] Kg bz ?_)
 intro _ bA
 refine Kr (v:=vP Z8 0) 0 Z f1 (λ _=>J3 Z) (qv 1 Z Z (qp Z8 0 2 Z (qp Z8 1 3 Z (qp Z8 1 4 Z (ql 5 Z 4 Tryz.isAgg50 Z Z Z (qt (v:= Zq (Zb (fT 4 a.a.r 0 0 3 0 0 0 d.r 0 0 0 0 0 0 O [] [] u 0 x j (X r) l Zk 0 0))) 6 Z (λ _ ⟨_,H9⟩=>J5 Z (J7 (cs:=(fT 4 a.a.r 0 0 3 0 0 0 d.r 0 0 0 0 0 0 O [] [] u 0 x j (X r) l Zk 0 0)) Tryz.isAgg47 Tryz.sizeOf47 ((H9.cls (i:=0) Z).lit (k:=0) (m:=21) Z))) (qd 7 Z (KF (cs:=(fT 4 a.a.r 0 0 3 0 0 0 d.r 0 0 0 0 0 0 O [] [] u 0 x j (X r) l Zk 0 0)) (t:=47) (sz:=21) (m:=1) bA Z Z ZY Z f7 ?_))))))))
 intro aT bB aF
 replace aF:=Ku (y:=row aT 1 1 (q1 bM.L ([(bM.q 4 a.a.r 0 0 3 0 0 0 d.r 0 0 0 0 0 0 O (ai.q [] []) (O4 u x []) (O4 j l A) (O4 Zk 0 []))])) 47 21) (ZX (λ z9=>row aT 1 1 [vI 4,vI a.a.r,vI 0,vI 0,vI 3,vI 0, .int .u64 0, .int .u64 0,vU d.r, .int .u64 0, .int .u64 0, .int .u64 0, .int .u64 0, .int .u64 0, .int .u64 0, Y O, Z9 ⟨Zb []⟩, Z9 ⟨Zb []⟩, T u 0 x, T j z9 l, T Zk 0 0] 47 21) (bf Q).symm) aF
 have aW:=aF.pb [0]
 refine⟨.inr ⟨_,aW⟩, ?_⟩
 have aX:=(aW.free (bW 83 2)).pf [9,10,2,3,0,4]
 refine qd 8 Z (Kk (k:=X h.a.b.a) (m:=1) (qC) aX Z Z (eO S7 (aX.rds (i:=11) Z) (cO bM.one ([(bM.q 4 a.a.r 0 0 3 0 0 0 d.r 0 0 0 0 0 0 O (ai.q [] []) (O4 u x []) (O4 j l A) (O4 Zk 0 []))]))) Z U (s:=X (h.a.b.a++ [(cz.q 4 a.a.r 0 0 3 0 0 0 d.r 0 0 0 0 0 0 O (ai.q [] []) (N []) (N r) (N []))])) f6 (u3).symm ?_)
 intro aY aZ bE bG
 have bI:=MM (bf Q).symm (bG.pf [3])
 have bJ:=bI.pf [2,3,0,4,5]
 have bK:=bJ.sepAdd (L2:= [row u 0 x (q1 aV.L []) 62 6,row j (X A) l (q1 aQ.L A) 65 3,row Zk 0 0 (q1 bF.L []) 83 2,sepL (q1 Kl A)]) (u3 (f:=Km) (xs:=z) (ys:= [(bM.q 4 a.a.r 0 0 3 0 0 0 d.r 0 0 0 0 0 0 O (ai.q [] []) (O4 u x []) (O4 j l A) (O4 Zk 0 []))])).symm
 have cZ:X (h.a.b.a++ [(cz.q 4 a.a.r 0 0 3 0 0 0 d.r 0 0 0 0 0 0 O (ai.q [] []) (N []) (N r) (N []))])=X h.a.b.a+1:=by simp only [o3,q6,L0]
 have df:=bf (iP (es:= [(bM.q 4 a.a.r 0 0 3 0 0 0 d.r 0 0 0 0 0 0 O (ai.q [] []) (O4 u x []) (O4 j l A) (O4 Zk 0 []))]) (ms:= [(cz.q 4 a.a.r 0 0 3 0 0 0 d.r 0 0 0 0 0 0 O (ai.q [] []) (N []) (N r) (N []))]) M (ZX (λ z9=> [cz.q 4 a.a.r 0 0 3 0 0 0 d.r 0 0 0 0 0 0 O (ai.q [] []) (N []) (N z9) (N [])]) Q))
 refine⟨.inl f1, (Kr (v:=vP Z8 0) 9 Z f1 (λ _=>yk) (Kr (v:=vP Z8 1) 10 Z f1 (λ _=>yk) (Kr (v:=vP Z8 1) 11 Z f1 (λ _=>yk) ?_)))⟩
 have bL:=bK.pf [3]
 refine qe 12 Z (Do.store (vs:= [T aY (X (h.a.b.a++ [(cz.q 4 a.a.r 0 0 3 0 0 0 d.r 0 0 0 0 0 0 O (ai.q [] []) (N []) (N r) (N []))])) aZ]) (o:=1) bL Z Z Tryz.sizeOf50 Z Z Z Z ?_)
 intro _ bN
 refine⟨.inl f1, (qn (KD (res0 Z) (nt (JS (JW (An Z (rt (rs ?_))))))))⟩
 have bP:=(bN.pk [0,1,2,4,5]).pf [0,2]
 obtain⟨rfl,rfl⟩:=fI (zj hr zq2)
 exact⟨aY,aZ,(z++ [(bM.q 4 a.a.r 0 0 3 0 0 0 d.r 0 0 0 0 0 0 O (ai.q [] []) (O4 u x []) (O4 j l A) (O4 Zk 0 []))]),Z,bP,(iP (es:= [(bM.q 4 a.a.r 0 0 3 0 0 0 d.r 0 0 0 0 0 0 O (ai.q [] []) (O4 u x []) (O4 j l A) (O4 Zk 0 []))]) (ms:= [(cz.q 4 a.a.r 0 0 3 0 0 0 d.r 0 0 0 0 0 0 O (ai.q [] []) (N []) (N r) (N []))]) M (ZX (λ z9=> [cz.q 4 a.a.r 0 0 3 0 0 0 d.r 0 0 0 0 0 0 O (ai.q [] []) (N []) (N z9) (N [])]) Q)),f2⟩
 refine jT (dT ak) (sr (Mz Z (An Z (rt (tR (rs ?_))))))
 obtain⟨rfl,rfl⟩:=fI (zj hr zq2).symm
 exact⟨Z7,Z3,z,Z,(aj.pk [2,6,7,3,4]),M,f2⟩
def ib (e:bD):List aV->List aV->(List aV)
  | [],a=>a
  | b::c,a=>bnd (o5 b) λ d=>if d=Zj then ib e c (a++ [b]) else ib e c a
def jW (a:bD) (l1:List aV) (b:aB):bD:=
 bnd (ib a l1 a.a.a.a) λ sLrL=>bD.q (bY.q (N a.a.b.a) (N sLrL) a.a.g) (N a.b.a)
theorem wZ (w D z) (g:bD) (E F G I J K Z2 n1 c1 l1 d) (a:aB) (h j l n o p r t u x) (Z0:bD) (H:Own w D w [blk z [Zz (Zv ⟨d,0,Zk⟩), T E (X g.a.b.a) F, T G (X g.a.a.a) I, Y g.a.g, T J (X g.b.a) K] 92,row G (X g.a.a.a) I (q1 aV.L g.a.a.a) 62 6,blk d (kB a h (X a.a.b.a) j l (X a.a.g.a) n o (X a.a.j.a) p a.a.t u r (X a.b.a) t x) 78]) (Z3:Ro w D λ w'=>bV w' 6 Z2 n1 (q1 aV.L l1)) (aA:n1=X l1) (aW:X l1 *80<=211106232532992) (aX:X l1<=24/\X g.a.a.a<=100) (hr:jW g l1 a=Z0):
    Calls y3 85 #[vP z 0, T Z2 n1 c1] w (dI λ v w'=> ∃ L M,v= .tuple #[]/\Own w D w' [blk z [vP d 0, T E (X g.a.b.a) F, T L (X Z0.a.a.a) M, Y g.a.g, T J (X g.b.a) K] 92,row L (X Z0.a.a.a) M (q1 aV.L Z0.a.a.a) 62 6,blk d (kB a h (X a.a.b.a) j l (X a.a.g.a) n o (X a.a.j.a) p a.a.t u r (X a.b.a) t x) 78]/\(X Z0.a.a.a<=X g.a.a.a+X l1)):=by
 unfold jW at hr
 subst aA
 have aC:=zr 1 H
 refine cb Tryz.func85 ?_
 refine sr (Mz Z (Kz (vJ (X l1)) (Mn Z (bo ?_))))
 obtain⟨aF,A⟩:=uG λ (b:Nat) B (C:Nat) c w'=>Own w D w' [blk z [vP d 0, T E (X g.a.b.a) F, T B (X c) C, Y g.a.g, T J (X g.b.a) K] 92,blk d (kB a h (X a.a.b.a) j l (X a.a.g.a) n o (X a.a.j.a) p a.a.t u r (X a.b.a) t x) 78,row B (X c) C (q1 aV.L c) 62 6]/\b<=X l1/\X c<=X g.a.a.a+b/\ib g l1 g.a.a.a=ib g (r8 b l1) c
 refine G3 (λ i:Nat × (Option Addr) × Nat × (List aV)=> [(8,vJ i.1),(7,vJ (X l1)),(6, T Z2 (X l1) c1),(0,vP z 0)]) aF (λ i=>X l1 - i.1) (0,G,I,g.a.a.a) ⟨Z,Z,Z,Z,ZV⟩ (A.2 ⟨(H.pb [1]),U,U,Z⟩) ?_
 rintro ⟨b,B,C,c⟩ _ aa
 obtain⟨Z5,_,_,Z6⟩:=A.1 aa
 refine sr (Kz (Za ((b:Int) < (X l1:Int))) (nt (JS ?_)))
 by_cases af:(b:Int) < (X l1:Int)
 obtain⟨f,S⟩:=dM (ls:=l1) (i:=b) aV.len f7 (Z5.ro Z3) f5
 have Z7:=drop_at S
 refine jT (dT af) (sk (JS (bo (sr (fw (Zz (Zv ⟨ab Z2,ao Z2+b *6,Zk⟩)) (J9 (nH) Z Z ((Z5.ro Z3).addr (i:=b) U) U) (fw (Zq (Zb (aV.L f))) (J5 Z (J7 (cs:=(aV.L f)) C1 C0 ((Z5.ro Z3).elem aV.len S f7))) (cB [vI 0, Z9 ⟨Zb []⟩, Z9 ⟨Zb []⟩, Z9 ⟨Zb []⟩, Z9 ⟨Zb []⟩,vI 0] 62 Z5 ?_)))))))
 intro _ _ aG
 refine cu (aV.L f) 0 aG C0 ?_
 intro _ ag
 refine nt (JS (sr (La (aV.L f) ag 0 C1 C0 ?_)))
 obtain⟨Z4,P⟩:∃ q,o5 f=q:=⟨_,Z⟩
 obtain⟨_,ah,_,ai,_⟩:=JZ ag
 refine cl Tryz.call139 (xC _ _ f Z4 ah P) ?_
 rintro _ _ ⟨rfl,aj⟩
 have Z8:=ai _ _ aj
 refine Kz (Y (!Z4)) (nt ?_)
 rcases Nv (Z4) with Q | Q
 refine jF (cn Q) (sk (sr (Mz Z (La (aV.L f) Z8 0 C1 C0 (j6 (aV.L f) 62 6 1 Z8 ?_)))))
 intro aH _ R
 replace R:=Ku (y:=row aH 1 1 (q1 aV.L ([f])) 62 6) Z R
 refine WL.do Z (Ki Tryz.call94 Z ?_ (λ _ _ k=>k))
 refine cb Tryz.func94 ?_
 refine JW (Mz Z (Mz Z (Kz (vP z 0) (Kz (vP z 1) (Kz (vP z 2) (Lz (T B (X c) C) R 2 Q9 (Mz Z ?_)))))))
 have ak:=R.pf [4]
 refine WL.do Z (Kk (k:=X c) (m:=1) (nH) ak Z Z (eO Q8 (ak.rds (i:=1) Z) (cO aV.one ([f]))) Z U (s:=X (c++ [f])) f6 (u3).symm ?_)
 intro au av _ aI
 have aU:X (c++ [f])=X c+1:=by simp only [o3,q6,L0]
 refine Kz (vP z 0) (Kz (vP z 1) (Kz (vP z 2) (cu [T au (X (c++ [f])) av] 2 (aI.pf [3]) S6 ?_)))
 intro _ aK
 refine G2 (KD (res0 Z) (nt (JS ?_)))
 have Z1:=aK.px [] [2] []
 refine JW (Mz Z (Kz (vP z 0) (Kz (vP z 0) (Lz (vP d 0) Z1 0 S5 (Kz (vP d 0) (Kz (vP d 20) (Lz (Zz Zk) Z1 3 Tryz.isAgg76 (Kz (Y O) (nt (jf (Ko (bN (JY (JW (fw (vJ (b+1)) (J4 (e:=D3.wrap ((b:Int)+1)) yk f4) (Mz Z (G2 ?_)))))))))))))))))
 have aM:=(Z1.pk [0,1,3]).pb [1]
 exact Kb (b+1,au,av,(c++ [f])) ⟨Z,Z,Z,Z,ZV⟩ (A.2 ⟨aM,U,U,V (Z6) (V (ZX (λ q=>ib g q c) Z7) (V (ae P) (ip Q)))⟩) (by show X l1 - (b+1) < X l1 - b; omega)
 refine jT (cn Q) (H0 (Ka (Kh (JY (JW (fw (vJ (b+1)) (J4 (e:=D3.wrap ((b:Int)+1)) yk f4) (Mz Z (G2 ?_))))))))
 have aO:=(Z8.pk [1,2,3]).pf []
 exact Kb (b+1,B,C,c) ⟨Z,Z,Z,Z,ZV⟩ (A.2 ⟨aO,U,U,V (Z6) (V (ZX (λ q=>ib g q c) Z7) (V (ae P) (eD Q)))⟩) (by show X l1 - (b+1) < X l1 - b; omega)
 refine jF (dF af) (H0 (Ka ?_))
 have ax:ib g l1 g.a.a.a=c:=V (Z6) (V (ZX (λ q=>ib g q c) (eU (ls:=l1) (i:=b) U)) Z)
 refine Ka (Kh (KD (res0 Z) ?_))
 obtain rfl:=zj hr zq1
 exact⟨B,C,Z,(Z5.pb [1]),f2⟩
end
theorem xQ {l:List aS} (h:Ne l) (p:aS->Bool):Ne (l.filter p):=λ r hr=>h r (List.mem_filter.1 hr).1
theorem Fg {l:List aS} (hs:Up l) (h:Ne l) (t:Nat) (x:aL):Ne (jb l t x):=by
  rcases ni hs t with ⟨a,p,q,rfl,hp,ha,hq,_⟩ | ⟨a,q,rfl,ha,hq,_⟩
  . rw [wH x hp ha hq]
    intro r hr
    rcases List.mem_append.1 hr with b | b
    . exact h r (List.mem_append_left _ b)
    . rcases List.mem_cons.1 b with c | c
      . rw [c]; simp only [List.length_append,List.length_cons]; omega
      . exact h r (List.mem_append_right _ (.tail _ c))
  . rw [yj x ha hq]
    intro r hr
    rcases List.mem_append.1 hr with b | b
    . exact h r (List.mem_append_left _ b)
    . rcases List.mem_cons.1 b with c | c
      . rw [c]; simp only [List.length_append,List.length_cons]; omega
      . exact h r (List.mem_append_right _ c)
theorem uu {I:List aS->List Nat->List Nat->Prop}
    (step:∀ (m:List aS) (g d:List Nat) (r:aS),Fit m->I m g d->r ∈ m->r.j=Zj->ed (bn.q (Ll.q m)) r.a r.g= []->
      I ((jb m r.a r.g).filter λ s=> !dies r.a r.g s) (g++ [r.a]) (d++Zh (λ q:aS=>q.a) ((jb m r.a r.g).filter (dies r.a r.g)))):
    ∀ (q:Nat) (l:List aS) (g d:List Nat),Wt l < q->Fit l->I l g d->I (dE q l g d).1 (dE q l g d).2.1 (dE q l g d).2.2/\Fit (dE q l g d).1/\(lh (bn.q (Ll.q (dE q l g d).1))).2=O:=by
  intro q
  induction q with
  | zero=>intro l g d h; omega
  | succ q ih=>
    intro l g d hq hf hI
    rw [dE]
    simp only [bI]
    cases hn:lh (bn.q (Ll.q l)) with
    | mk a b=>
      cases b with
      | false=>simp only [Bool.false_eq_true,if_false]; exact⟨hI,hf,by rw [hn]⟩
      | true=>
        simp only [if_true]
        obtain⟨r,hr,hw,ht,hx,hh⟩:=yY hn
        have hs:=yL hf hn (qJ hf.up a.r a.a (fO.q (Ll.q g) (Ll.q d)))
        rw [qJ hf.up]
        rw [<- ht, <- hx] at hs hh ⊢
        exact ih _ _ _ (Nat.lt_of_lt_of_le hs.2.1 (Nat.le_of_lt_succ hq)) hs.1 (step l g d r hf hI hr hw hh)
theorem tV (m:List aS) (c:fO):ll (bn.q (Ll.q m)) c=
    (bn.q (Ll.q (dE (Wt m+1) m c.b.a c.g.a).1),fO.q (Ll.q (sK (dE (Wt m+1) m c.b.a c.g.a).2.1)) (Ll.q (sK (dE (Wt m+1) m c.b.a c.g.a).2.2))):=by
  unfold ll
  simp only [bI,Hl]
theorem xR {m:List aS} (hf:Fit m) (hn:Ne m) (ht:lv m<=192) (g d:List Nat):jZ (dE (Wt m+1) m g d).1:=by
  have h:=uu (I:=λ l _ _=>Ne l/\lv l<=192) (λ m g d r hf hI hr hw _=>by
    obtain⟨_,a,_⟩:=wJ hf.up hr hw r.g
    exact⟨xQ (Fg hf.up hI.1 _ _) _,Nat.le_trans (mP _ _) (show lv (jb m r.a r.g)<=192 by rw [a]; exact hI.2)⟩) (Wt m+1) m g d U hf ⟨hn,ht⟩
  exact⟨h.2.1.up,h.1.1,h.1.2⟩
theorem Bw {m:List aS} (h:jZ m) {t:Nat} {g d:List Nat} {r:bn} (hr:jg (bn.q (Ll.q m)) t=(g,d,r)):jZ r.a.a:=by
  unfold jg at hr
  rw [bI,bI,rR h.up,tV] at hr
  have e:r=_:=(ZX (λ q=>q.2.2) hr).symm
  rw [e]
  exact xR (h.fit.filter _) (xQ h.ne _) (Nat.le_trans (mP _ _) h.tot) _ _
theorem Es {l:List aS} (h:lv l<=192):nA (bn.q (Ll.q l))=(lv l:Int):=by
  have go:∀ (l:List aS) (z:Nat),z+lv l<=192->iL l (z:Int)=((z+lv l:Nat):Int):=by
    intro l
    induction l with
    | nil=>intro z h; rfl
    | cons a l ih=>
      intro z h
      unfold lv pY at h
      simp only [List.map_cons,List.sum_cons] at h
      rw [iL]
      by_cases c:a.j=Zj
      . rw [ZJ c] at h
        rw [ZJ c,Ns (IntKind.i64.wrap _+1) f4,Ns _ U,show (z:Int)+(X a.b.a:Int)+1=((z+(X a.b.a+1):Nat):Int) from by omega,ih _ (by unfold lv pY; omega)]
        unfold lv pY
        simp only [List.map_cons,List.sum_cons,ZJ c]
        omega
      . rw [ZK c] at h
        rw [ZK c,Ns _ U,show (z:Int)+(X a.b.a:Int)=((z+X a.b.a:Nat):Int) from by omega,ih _ (by unfold lv pY; omega)]
        unfold lv pY
        simp only [List.map_cons,List.sum_cons,ZK c]
        omega
  unfold nA
  rw [bI]
  have:=go l 0 U
  rw [Nat.zero_add] at this
  exact this
def p8 (l:List aS) (t:Nat) (x:aL):List aS:=(l.filter λ r=>decide (r.a < t))++(aS.q t (Ll.q (old l t)) Zj x::l.filter λ r=>decide (t < r.a))
theorem Cv {a q:List aS} {p:aS} {t:Nat} (x:aL) (hp:p.a=t) (ha:∀ r ∈ a,r.a < t) (hq:∀ r ∈ q,t < r.a):p8 (a++p::q) t x=a++aS.q t (Ll.q p.b.a) Zj x::q:=by
  have h:=wH x hp ha hq
  unfold jb at h
  unfold p8
  have b:=List.append_inj h (by
    have:(List.filter (λ r:aS=>decide (r.a < t)) (a++p::q))=a:=by
      rw [List.filter_append,List.filter_cons_of_neg (by simp [hp]),nR (λ r hr=>decide_eq_true (ha r hr)),List.filter_eq_nil_iff.2 (λ r hr=>by simp; have:=hq r hr; omega),List.append_nil]
    rw [this])
  have c:=List.cons.inj b.2
  rw [b.1,c.2]
  rw [(List.append_inj' (ZX (λ r:aS=>r.b.a) c.1) Z).1]
theorem Cw {a q:List aS} {t:Nat} (x:aL) (ha:∀ r ∈ a,r.a < t) (hq:∀ r ∈ q,t < r.a):p8 (a++q) t x=a++aS.q t (Ll.q []) Zj x::q:=by
  have h:=yj x ha hq
  unfold jb at h
  unfold p8
  have b:=List.append_inj h (by
    have:(List.filter (λ r:aS=>decide (r.a < t)) (a++q))=a:=by
      rw [List.filter_append,nR (λ r hr=>decide_eq_true (ha r hr)),List.filter_eq_nil_iff.2 (λ r hr=>by simp; have:=hq r hr; omega),List.append_nil]
    rw [this])
  have c:=List.cons.inj b.2
  rw [b.1,c.2]
  rw [(List.append_inj' (ZX (λ r:aS=>r.b.a) c.1) Z).1]
def gR (m:List aS) (t:Nat) (x:aL):List aS:=(jb m t x).filter λ r=> !dies t x r
def gD (m:List aS) (t:Nat) (x:aL):List Nat:=Zh (λ q:aS=>q.a) ((jb m t x).filter (dies t x))
def oU (m:List aS) (t:Nat) (x:aL):Int × List Nat × List Nat × Int × List aS:=
  if dP x.j=0 then
    if gU (bn.q (Ll.q m)) t=Zj then(0, [], [],4,m)
    else if kN (bn.q (Ll.q m)) t x=Zj then(1, [], [],0,m)
    else if 192<=lv m then(3, [], [],0,m)
    else if ed (bn.q (Ll.q m)) t x= [] then
      (1,sK (dE (Wt (gR m t x)+1) (gR m t x) [] (gD m t x)).2.1,sK (dE (Wt (gR m t x)+1) (gR m t x) [] (gD m t x)).2.2,0,(dE (Wt (gR m t x)+1) (gR m t x) [] (gD m t x)).1)
    else if List.getD (ed (bn.q (Ll.q m)) t x) 0 Zy < t then(3, [], [],0,m)
    else(2, [], [],0,p8 m t x)
  else(0, [], [],21,m)
theorem wN {m:List aS} (h:jZ m) (t:Nat) (x:aL):jc (bn.q (Ll.q m)) t x=((oU m t x).1,(oU m t x).2.1,(oU m t x).2.2.1,(oU m t x).2.2.2.1,bn.q (Ll.q (oU m t x).2.2.2.2)):=by
  unfold jc oU
  simp only [bI]
  by_cases b:dP x.j=0
  . rw [ZJ b,ZJ b]
    by_cases c:gU (bn.q (Ll.q m)) t=Zj
    . rw [ZJ c,ZJ c]
    . rw [ZK c,ZK c]
      by_cases d:kN (bn.q (Ll.q m)) t x=Zj
      . rw [ZJ d,ZJ d]
      . rw [ZK d,ZK d,Es h.tot]
        by_cases g:192<=lv m
        . rw [ZJ U,ZJ g]
        . rw [ZK U,ZK g]
          by_cases f:ed (bn.q (Ll.q m)) t x= []
          . rw [ZJ (by rw [f]; rfl),ZJ f,qJ h.up]
            simp only
            rw [tV]
            rfl
          . rw [ZK (show ¬ ((X (ed (bn.q (Ll.q m)) t x):Nat):Int)=0 from λ e=>f (List.eq_nil_of_length_eq_zero (Int.ofNat.inj e))),ZK f]
            by_cases i:List.getD (ed (bn.q (Ll.q m)) t x) 0 Zy < t
            . rw [ZJ U,ZJ i]
            . rw [ZK U,ZK i]
              rcases ni h.up t with ⟨a,p,q,rfl,hp,ha,hq,hf⟩ | ⟨a,q,rfl,ha,hq,hf⟩
              . rw [hf,ZJ Z,Cv x hp ha hq]
                simp only [Int.toNat_natCast,gd,stt]
                rw [<- hp]
              . have j:Ze (X a) (a++q)=q:=List.drop_left' Z
                have k:Zf (X a) (a++q)=a:=List.take_left' Z
                rw [hf,ZK i2,Cw x ha hq]
                simp only [Int.toNat_natCast,j,k,gd,stt]
  . rw [ZK b,ZK b]
theorem Gh {m:List aS} (hs:Up m) (t:Nat) (x:aL) (hw:gU (bn.q (Ll.q m)) t≠Zj):Up (p8 m t x)/\(Ne m->Ne (p8 m t x))/\lv (p8 m t x)=lv m+1:=by
  unfold gU at hw
  rw [bI] at hw
  rcases ni hs t with ⟨a,p,q,rfl,hp,ha,hq,hf⟩ | ⟨a,q,rfl,ha,hq,hf⟩
  . rw [hf,ZJ Z,bI] at hw
    simp only [Int.toNat_natCast,gd] at hw
    rw [Cv x hp ha hq]
    have h:=List.pairwise_append.1 hs
    have b:=List.pairwise_cons.1 h.2.1
    refine⟨zG (List.pairwise_append.2 ⟨h.1,b.2,λ r hr s hs=>h.2.2 r hr s (.tail _ hs)⟩) Z ha hq,λ hn r hr=> ?_, ?_⟩
    . rcases List.mem_append.1 hr with c | c
      . exact hn r (List.mem_append_left _ c)
      . rcases List.mem_cons.1 c with b | b
        . rw [b]; unfold pY; rw [ZJ Z]; omega
        . exact hn r (List.mem_append_right _ (.tail _ b))
    . unfold lv pY; simp only [List.map_append,List.map_cons,List.sum_append,List.sum_cons]; rw [ZK hw]; simp; omega
  . rw [Cw x ha hq]
    refine⟨zG hs Z ha hq,λ hn r hr=> ?_, ?_⟩
    . rcases List.mem_append.1 hr with c | c
      . exact hn r (List.mem_append_left _ c)
      . rcases List.mem_cons.1 c with b | b
        . rw [b]; unfold pY; rw [ZJ Z]; omega
        . exact hn r (List.mem_append_right _ b)
    . unfold lv pY; simp only [List.map_append,List.map_cons,List.sum_append,List.sum_cons]; simp; omega
theorem Et {m:List aS} (h:jZ m) (t:Nat) (x:aL):jZ (oU m t x).2.2.2.2:=by
  unfold oU
  by_cases b:dP x.j=0
  . rw [ZJ b]
    by_cases a:gU (bn.q (Ll.q m)) t=Zj
    . rw [ZJ a]; exact h
    . rw [ZK a]
      by_cases c:kN (bn.q (Ll.q m)) t x=Zj
      . rw [ZJ c]; exact h
      . rw [ZK c]
        by_cases d:192<=lv m
        . rw [ZJ d]; exact h
        . rw [ZK d]
          by_cases e:ed (bn.q (Ll.q m)) t x= []
          . rw [ZJ e]
            obtain⟨n,o⟩:=vZ m h.up t x
            have j:lv (gR m t x)<=192:=Nat.le_trans (mP _ _) (show lv (jb m t x)<=192 by omega)
            have f:Ne (gR m t x):=xQ (Fg h.up h.ne t x) _
            exact xR ⟨(sJ h.up t x).filter _,show X (gR m t x)<=999999 by have:=AA f; omega,show lv (gR m t x)<=1000000 by omega⟩ f j _ _
          . rw [ZK e]
            by_cases g:List.getD (ed (bn.q (Ll.q m)) t x) 0 Zy < t
            . rw [ZJ g]; exact h
            . rw [ZK g]
              obtain⟨k,l,p⟩:=Gh h.up t x a
              exact⟨k,l h.ne,by show lv (p8 m t x)<=192; omega⟩
  . rw [ZK b]; exact h
theorem Fp {m:List aS} (h:jZ m) {t:Nat} {x:aL} {s e:Int} {g d:List Nat} {r:bn} (hr:jc (bn.q (Ll.q m)) t x=(s,g,d,e,r)):jZ r.a.a:=by
  rw [wN h] at hr
  have e:r=_:=(ZX (λ q=>q.2.2.2.2) hr).symm
  rw [e]
  exact Et h t x
theorem Fq:jZ []:=⟨List.Pairwise.nil,λ r hr=>(by cases hr),Nt _⟩
open List renaming getElem?_drop->m8,getElem?_eq_none->U0,getElem?_eq_some_iff->p2,getElem?_take->m7,mem_iff_getElem?->N9,pairwise_append->U2,pairwise_cons->N5,pairwise_iff_getElem->S8,take_append_drop->s3
open Nat renaming le_of_not_lt->U1,lt_or_ge->N8,lt_trans->S9
def ug (l:List bK):Prop:=l.Pairwise λ a b=>a.a < b.a
theorem zK {l:List bK} (hs:ug l) {i j:Nat} {a b:bK} (ha:l[i]? =Zv a) (hb:l[j]? =Zv b) (h:i < j):a.a < b.a:=by
  obtain⟨c,rfl⟩:=p2.1 ha
  obtain⟨d,rfl⟩:=p2.1 hb
  exact S8.1 hs i j c d h
theorem za {m:List bK} (hs:ug m) (k:Nat):∀ (f i j:Nat),j - i < f->i<=j->j<=X m->(∀ q p,m[q]? =Zv p->q < i->p.a < k)->(∀ q p,m[q]? =Zv p->j<=q->¬ p.a < k)->
    ∃ r,dB m k f i j=r/\r<=X m/\(∀ q p,m[q]? =Zv p->q < r->p.a < k)/\(∀ q p,m[q]? =Zv p->r<=q->¬ p.a < k)
  | 0,i,j,h,_,_,_,_=>U
  | f+1,i,j,h,hij,hj,hl,hg=>by
    unfold dB
    by_cases b:(i:Int) < (j:Int)
    . obtain⟨x,hx⟩:∃ x,m[(i+j) / 2]? =Zv x:=⟨_,p3 U⟩
      rw [ZJ b,bI,bI,bG hx]
      show ∃ r,(if fo x.a k < 0 then dB m k f ((i+j) / 2+1) j else dB m k f i ((i+j) / 2))=r/\_
      by_cases a:fo x.a k < 0
      . rw [ZJ a]
        refine za hs k f _ j U U hj (λ q p hq hlt=> ?_) hg
        rcases N8 q ((i+j) / 2) with e | e
        . exact S9 (zK hs hq hx e) (nZ.1 a)
        . have:q=(i+j) / 2:=U
          subst this
          rw [hx] at hq; cases hq
          exact nZ.1 a
      . rw [ZK a]
        refine za hs k f i _ U U U hl (λ q p hq hge hlt=> ?_)
        rcases N8 ((i+j) / 2) q with e | e
        . exact a (nZ.2 (S9 (zK hs hx hq e) hlt))
        . have:q=(i+j) / 2:=U
          subst this
          rw [hx] at hq; cases hq
          exact a (nZ.2 hlt)
    . rw [ZK b]
      have:i=j:=U
      subst this
      exact⟨i,Z,hj,hl,hg⟩
structure JL (m:List bK) (k:Nat) (a b:List bK):Prop where q::
  app:m=a++b
  lo:∀ p ∈ a,p.a < k
  hi:∀ p ∈ b,k<=p.a
theorem Fs {m:List bK} (hs:ug m) (k:Nat):∃ a b,JL m k a b/\(bQ m k).1=((X a:Nat):Int)/\((bQ m k).2=Zj↔∃ p q,b=p::q/\p.a=k):=by
  obtain⟨r,d,i,f,g⟩:=za hs k (X m - 0+1) 0 (X m) U U (Nat.le_refl _) (λ q p _ h=>U) (λ q p hq h=>by have:=(p2.1 hq).1; omega)
  have hlen:X (u2 r m)=r:=by rw [o1]; omega
  have e:bQ m k=((r:Int),(bQ m k).2)/\((bQ m k).2=Zj↔∃ p,m[r]? =Zv p/\p.a=k):=by
    unfold bQ
    simp only [bI,d]
    by_cases c:(r:Int) < ((X m:Nat):Int)
    . obtain⟨x,hx⟩:∃ x,m[r]? =Zv x:=⟨_,p3 U⟩
      rw [ZJ c,bG hx]
      refine⟨Z, ?_⟩
      show Zw (fo x.a k=0)=Zj↔_
      simp only [decide_eq_true_eq,xO,hx,Option.some.injEq,exists_eq_left']
    . rw [ZK c]
      refine⟨Z, ?_⟩
      have:m[r]? =Zk:=U0 U
      simp [this]
  refine⟨u2 r m,r8 r m,⟨(s3 r m).symm,λ p hp=> ?_,λ p hp=> ?_⟩, ?_, ?_⟩
  . obtain⟨j,hj⟩:=N9.1 hp
    have hjr:j < r:=by have:=(p2.1 hj).1; omega
    rw [m7,ZJ hjr] at hj
    exact f j p hj hjr
  . obtain⟨j,hj⟩:=N9.1 hp
    rw [m8] at hj
    exact U1 (g _ p hj U)
  . rw [e.1,hlen]
  . rw [e.2]
    constructor
    . rintro ⟨p,hp,hk⟩
      exact⟨p,r8 (r+1) m,drop_at hp,hk⟩
    . rintro ⟨p,q,hp,hk⟩
      refine⟨p, ?_,hk⟩
      have:(r8 r m)[0]? =Zv p:=by rw [hp]; rfl
      rwa [m8,Nat.add_zero] at this
theorem Cx {a b:List bK} {p:bK} (h:ug (a++p::b)):ug a/\ug b/\(∀ r ∈ a,r.a < p.a)/\(∀ r ∈ b,p.a < r.a):=by
  have c:=U2.1 h
  have d:=N5.1 c.2.1
  exact⟨c.1,d.2,λ r hr=>c.2.2 r hr p b3,d.1⟩
theorem uh {m:List bK} (hs:ug m) (t:Nat):
    (∃ a p q,m=a++p::q/\p.a=t/\(∀ r ∈ a,r.a < t)/\(∀ r ∈ q,t < r.a)/\bQ m t=((X a:Int),Zj))\/
    (∃ a q,m=a++q/\(∀ r ∈ a,r.a < t)/\(∀ r ∈ q,t < r.a)/\bQ m t=((X a:Int),O)):=by
  obtain⟨a,b,hc,f,g⟩:=Fs hs t
  have e:∀ x:Int × Bool,x=(x.1,x.2):=λ _=>rfl
  cases hb:(bQ m t).2 with
  | true=>
    obtain⟨p,q,rfl,hp⟩:=g.1 hb
    refine .inl ⟨a,p,q,hc.app,hp,hc.lo,λ r hr=> ?_, ?_⟩
    . have:=(Cx (hc.app ▸ hs)).2.2.2 r hr; omega
    . rw [e (bQ _ _),f,hb]
  | false=>
    refine .inr ⟨a,b,hc.app,hc.lo,λ r hr=> ?_, ?_⟩
    . have i:=hc.hi r hr
      rcases N8 t r.a with h | h
      . exact h
      . exfalso
        have c:r.a=t:=U
        cases b with
        | nil=>cases hr
        | cons p q=>
          rcases List.mem_cons.1 hr with d | d
          . exact absurd (g.2 ⟨p,q,Z,by rw [<- d]; exact c⟩) (by rw [hb]; decide)
          . have:=(Cx (hc.app ▸ hs)).2.2.2 r d; have:=hc.hi p b3; omega
    . rw [e (bQ _ _),f,hb]
def wW (l:List dG):Prop:=l.Pairwise λ a b=>a.r < b.r
theorem Fu {l:List dG} (hs:wW l) {i j:Nat} {a b:dG} (ha:l[i]? =Zv a) (hb:l[j]? =Zv b) (h:i < j):a.r < b.r:=by
  obtain⟨c,rfl⟩:=p2.1 ha
  obtain⟨d,rfl⟩:=p2.1 hb
  exact S8.1 hs i j c d h
theorem zb {m:List dG} (hs:wW m) (k:Nat):∀ (f i j:Nat),j - i < f->i<=j->j<=X m->(∀ q p,m[q]? =Zv p->q < i->p.r < k)->(∀ q p,m[q]? =Zv p->j<=q->¬ p.r < k)->
    ∃ r,dK m k f i j=r/\r<=X m/\(∀ q p,m[q]? =Zv p->q < r->p.r < k)/\(∀ q p,m[q]? =Zv p->r<=q->¬ p.r < k)
  | 0,i,j,h,_,_,_,_=>U
  | f+1,i,j,h,hij,hj,hl,hg=>by
    unfold dK
    by_cases b:(i:Int) < (j:Int)
    . obtain⟨x,hx⟩:∃ x,m[(i+j) / 2]? =Zv x:=⟨_,p3 U⟩
      rw [ZJ b,bI,bI,bG hx]
      show ∃ r,(if fo x.r k < 0 then dK m k f ((i+j) / 2+1) j else dK m k f i ((i+j) / 2))=r/\_
      by_cases a:fo x.r k < 0
      . rw [ZJ a]
        refine zb hs k f _ j U U hj (λ q p hq hlt=> ?_) hg
        rcases N8 q ((i+j) / 2) with e | e
        . exact S9 (Fu hs hq hx e) (nZ.1 a)
        . have:q=(i+j) / 2:=U
          subst this
          rw [hx] at hq; cases hq
          exact nZ.1 a
      . rw [ZK a]
        refine zb hs k f i _ U U U hl (λ q p hq hge hlt=> ?_)
        rcases N8 ((i+j) / 2) q with e | e
        . exact a (nZ.2 (S9 (Fu hs hx hq e) hlt))
        . have:q=(i+j) / 2:=U
          subst this
          rw [hx] at hq; cases hq
          exact a (nZ.2 hlt)
    . rw [ZK b]
      have:i=j:=U
      subst this
      exact⟨i,Z,hj,hl,hg⟩
structure JM (m:List dG) (k:Nat) (a b:List dG):Prop where q::
  app:m=a++b
  lo:∀ p ∈ a,p.r < k
  hi:∀ p ∈ b,k<=p.r
theorem Fv {m:List dG} (hs:wW m) (k:Nat):∃ a b,JM m k a b/\(bU m k).1=((X a:Nat):Int)/\((bU m k).2=Zj↔∃ p q,b=p::q/\p.r=k):=by
  obtain⟨r,d,i,f,g⟩:=zb hs k (X m - 0+1) 0 (X m) U U (Nat.le_refl _) (λ q p _ h=>U) (λ q p hq h=>by have:=(p2.1 hq).1; omega)
  have hlen:X (u2 r m)=r:=by rw [o1]; omega
  have e:bU m k=((r:Int),(bU m k).2)/\((bU m k).2=Zj↔∃ p,m[r]? =Zv p/\p.r=k):=by
    unfold bU
    simp only [bI,d]
    by_cases c:(r:Int) < ((X m:Nat):Int)
    . obtain⟨x,hx⟩:∃ x,m[r]? =Zv x:=⟨_,p3 U⟩
      rw [ZJ c,bG hx]
      refine⟨Z, ?_⟩
      show Zw (fo x.r k=0)=Zj↔_
      simp only [decide_eq_true_eq,xO,hx,Option.some.injEq,exists_eq_left']
    . rw [ZK c]
      refine⟨Z, ?_⟩
      have:m[r]? =Zk:=U0 U
      simp [this]
  refine⟨u2 r m,r8 r m,⟨(s3 r m).symm,λ p hp=> ?_,λ p hp=> ?_⟩, ?_, ?_⟩
  . obtain⟨j,hj⟩:=N9.1 hp
    have hjr:j < r:=by have:=(p2.1 hj).1; omega
    rw [m7,ZJ hjr] at hj
    exact f j p hj hjr
  . obtain⟨j,hj⟩:=N9.1 hp
    rw [m8] at hj
    exact U1 (g _ p hj U)
  . rw [e.1,hlen]
  . rw [e.2]
    constructor
    . rintro ⟨p,hp,hk⟩
      exact⟨p,r8 (r+1) m,drop_at hp,hk⟩
    . rintro ⟨p,q,hp,hk⟩
      refine⟨p, ?_,hk⟩
      have:(r8 r m)[0]? =Zv p:=by rw [hp]; rfl
      rwa [m8,Nat.add_zero] at this
theorem Cy {a b:List dG} {p:dG} (h:wW (a++p::b)):wW a/\wW b/\(∀ r ∈ a,r.r < p.r)/\(∀ r ∈ b,p.r < r.r):=by
  have c:=U2.1 h
  have d:=N5.1 c.2.1
  exact⟨c.1,d.2,λ r hr=>c.2.2 r hr p b3,d.1⟩
theorem qE {m:List dG} (hs:wW m) (t:Nat):
    (∃ a p q,m=a++p::q/\p.r=t/\(∀ r ∈ a,r.r < t)/\(∀ r ∈ q,t < r.r)/\bU m t=((X a:Int),Zj))\/
    (∃ a q,m=a++q/\(∀ r ∈ a,r.r < t)/\(∀ r ∈ q,t < r.r)/\bU m t=((X a:Int),O)):=by
  obtain⟨a,b,hc,f,g⟩:=Fv hs t
  have e:∀ x:Int × Bool,x=(x.1,x.2):=λ _=>rfl
  cases hb:(bU m t).2 with
  | true=>
    obtain⟨p,q,rfl,hp⟩:=g.1 hb
    refine .inl ⟨a,p,q,hc.app,hp,hc.lo,λ r hr=> ?_, ?_⟩
    . have:=(Cy (hc.app ▸ hs)).2.2.2 r hr; omega
    . rw [e (bU _ _),f,hb]
  | false=>
    refine .inr ⟨a,b,hc.app,hc.lo,λ r hr=> ?_, ?_⟩
    . have i:=hc.hi r hr
      rcases N8 t r.r with h | h
      . exact h
      . exfalso
        have c:r.r=t:=U
        cases b with
        | nil=>cases hr
        | cons p q=>
          rcases List.mem_cons.1 hr with d | d
          . exact absurd (g.2 ⟨p,q,Z,by rw [<- d]; exact c⟩) (by rw [hb]; decide)
          . have:=(Cy (hc.app ▸ hs)).2.2.2 r d; have:=hc.hi p b3; omega
    . rw [e (bU _ _),f,hb]
open List renaming filter_cons_of_neg->U6,filter_cons_of_pos->U5,length_map->r5,map_cons->t0,mem_append->U3,mem_filter->U4,mem_map->U8,mem_or_eq_of_mem_set->U9,pairwise_map->U7,sum_append->Q1,sum_cons->P8
theorem Fx:∀ (l m:List Nat),l.Nodup->(∀ x ∈ l,x ∈ m)->X l<=X m
  | [],m,_,_=>Nt _
  | a::l,m,hn,h=>by
    have hn:=List.nodup_cons.1 hn
    have ha:=h a b3
    have b:=Fx l (m.erase a) hn.2 λ x hx=>(List.mem_erase_of_ne (λ e=>hn.1 (by rw [<- e]; exact hx))).2 (h x (.tail _ hx))
    have c:=List.length_erase_of_mem ha
    have d:=List.length_pos_of_mem ha
    simp only [q6]
    omega
theorem Fy {l:List aS} (hs:Up l) {t:Nat} {x:aL} {r:aS} (hr:r ∈ jb l t x):r.a=t\/∃ s ∈ l,s.a=r.a:=by
  unfold jb at hr
  rcases U3.1 hr with h | h
  . exact .inr ⟨r,(U4.1 h).1,Z⟩
  . rcases List.mem_cons.1 h with h | h
    . rw [h]; exact .inl Z
    . exact .inr ⟨r,(U4.1 h).1,Z⟩
theorem Bg {S:Nat->Prop} {m:List aS} (hf:Fit m) (h:∀ r ∈ m,S r.a) (g d:List Nat):∀ r ∈ (dE (Wt m+1) m g d).1,S r.a:=
  (uu (I:=λ l _ _=> ∀ r ∈ l,S r.a) (λ l g' d' r hf hI hr hw _=>λ q hq=>by
    rcases Fy hf.up (U4.1 hq).1 with e | ⟨s,hs,e⟩
    . rw [e]; exact hI r hr
    . rw [<- e]; exact hI s hs) (Wt m+1) m g d U hf h).1
theorem ze {t:Nat} {x:aL}:∀ l:List aS,Wt (l.filter λ r=> !dies t x r)+X (l.filter (dies t x))=Wt l
  | []=>rfl
  | a::l=>by
    have ih:=ze (t:=t) (x:=x) l
    cases h:dies t x a with
    | true=>
      rw [U5 h,U6 (p:=λ r=> !dies t x r) (by show ¬ (!dies t x a)=Zj; rw [h]; decide)]
      have hw:a.j=Zj:=by unfold dies at h; exact(Bool.and_eq_true _ _ ▸ h).1
      have b:pY a=1:=by unfold pY; rw [ZJ hw]
      unfold Wt at ih ⊢
      simp only [q6,t0,P8]; omega
    | false=>
      rw [U6 (p:=dies t x) (by rw [h]; decide),U5 (p:=λ r=> !dies t x r) (by show (!dies t x a)=Zj; rw [h]; rfl)]
      unfold Wt at ih ⊢
      simp only [t0,P8]; omega
theorem zL {m:List aS} (hf:Fit m) (g d:List Nat):X (dE (Wt m+1) m g d).2.1+X (dE (Wt m+1) m g d).2.2+Wt (dE (Wt m+1) m g d).1<=X g+X d+Wt m:=
  (uu (I:=λ l g' d'=>X g'+X d'+Wt l<=X g+X d+Wt m) (λ l g' d' r hf hI hr hw _=>by
    obtain⟨_,_,a⟩:=wJ hf.up hr hw r.g
    have b:=ze (t:=r.a) (x:=r.g) (jb l r.a r.g)
    rw [o3,o3,r5]; simp only [q6,L0]; omega) (Wt m+1) m g d U hf (Nat.le_refl _)).1
theorem Hr {m:List aS} (hs:Up m) (t:Nat) (x:aL):Wt (p8 m t x)<=Wt m+1:=by
  rcases ni hs t with ⟨a,p,q,rfl,hp,ha,hq,_⟩ | ⟨a,q,rfl,ha,hq,_⟩
  . rw [Cv x hp ha hq]; unfold Wt pY; simp only [P5,t0,Q1,P8]; simp; omega
  . rw [Cw x ha hq]; unfold Wt pY; simp only [P5,t0,Q1,P8]; simp; omega
theorem Ht {m:List aS} {t:Nat} {x:aL} {r:aS} (hr:r ∈ p8 m t x):r.a=t\/∃ s ∈ m,s.a=r.a:=by
  unfold p8 at hr
  rcases U3.1 hr with h | h
  . exact .inr ⟨r,(U4.1 h).1,Z⟩
  . rcases List.mem_cons.1 h with h | h
    . rw [h]; exact .inl Z
    . exact .inr ⟨r,(U4.1 h).1,Z⟩
theorem Gi {m:List aS} (h:jZ m) (t:Nat) (x:aL):(∀ r ∈ (oU m t x).2.2.2.2,r.a=t\/∃ s ∈ m,s.a=r.a)/\X (oU m t x).2.1+X (oU m t x).2.2.1+Wt (oU m t x).2.2.2.2<=Wt m+(if(oU m t x).1=2 then 1 else 0):=by
  have triv:∀ r ∈ m,r.a=t\/∃ s ∈ m,s.a=r.a:=λ r hr=> .inr ⟨r,hr,Z⟩
  unfold oU
  by_cases a:dP x.j=0
  . rw [ZJ a]
    by_cases b:gU (bn.q (N m)) t=Zj
    . rw [ZJ b]; exact⟨triv,by simp⟩
    . rw [ZK b]
      by_cases c:kN (bn.q (N m)) t x=Zj
      . rw [ZJ c]; exact⟨triv,by simp⟩
      . rw [ZK c]
        by_cases d:192<=lv m
        . rw [ZJ d]; exact⟨triv,by simp⟩
        . rw [ZK d]
          by_cases e:ed (bn.q (N m)) t x= []
          . rw [ZJ e]
            obtain⟨l,o⟩:=vZ m h.up t x
            have p:=wI m h.up t x
            have q:=h.len
            have u:=h.tot
            have v:=ze (t:=t) (x:=x) (jb m t x)
            have g:lv (gR m t x)<=lv (jb m t x):=mP _ _
            have w:X (gR m t x)<=X (jb m t x):=List.length_filter_le _ _
            have hf:Fit (gR m t x):=⟨(sJ h.up t x).filter _,U,U⟩
            refine⟨Bg (S:=λ n=>n=t\/∃ s ∈ m,s.a=n) hf (λ r hr=> ?_) _ _, ?_⟩
            . exact Fy h.up (U4.1 hr).1
            . have i:=zL hf [] (gD m t x)
              have j:X (gD m t x)=X ((jb m t x).filter (dies t x)):=r5 ..
              have k:Wt (gR m t x)=Wt ((jb m t x).filter λ r=> !dies t x r):=Z
              simp only [AB]
              simp only [L0] at i
              omega
          . rw [ZK e]
            by_cases f:List.getD (ed (bn.q (N m)) t x) 0 Zy < t
            . rw [ZJ f]; exact⟨triv,by simp⟩
            . rw [ZK f]
              refine⟨λ r hr=>Ht hr, ?_⟩
              have:=Hr h.up t x
              simpa using this
  . rw [ZK a]; exact⟨triv,by simp⟩
theorem AP {m:List aS} (h:jZ m) {t:Nat} {x:aL} {s e:Int} {g d:List Nat} {r:bn} (hr:jc (bn.q (N m)) t x=(s,g,d,e,r)):
    (∀ q ∈ r.a.a,q.a=t\/∃ s ∈ m,s.a=q.a)/\X g+X d+Wt r.a.a<=Wt m+(if s=2 then 1 else 0):=by
  rw [wN h] at hr
  have b:s=_:=(ZX (λ q=>q.1) hr).symm
  have c:g=_:=(ZX (λ q=>q.2.1) hr).symm
  have f:d=_:=(ZX (λ q=>q.2.2.1) hr).symm
  have i:r=_:=(ZX (λ q=>q.2.2.2.2) hr).symm
  rw [b,c,f,i]
  exact Gi h t x
theorem Db {m:List aS} (h:jZ m) {t:Nat} {g d:List Nat} {r:bn} (hr:jg (bn.q (N m)) t=(g,d,r)):
    (∀ q ∈ r.a.a,q.a≠t/\∃ s ∈ m,s.a=q.a)/\X g+X d+Wt r.a.a<=Wt m:=by
  unfold jg at hr
  rw [bI,bI,rR h.up,tV] at hr
  have a:g=_:=(ZX (λ q=>q.1) hr).symm
  have b:d=_:=(ZX (λ q=>q.2.1) hr).symm
  have c:r=_:=(ZX (λ q=>q.2.2) hr).symm
  have hf:Fit (but t m):=h.fit.filter _
  rw [a,b,c]
  refine⟨Bg (S:=λ n=>n≠t/\∃ s ∈ m,s.a=n) hf (λ r hr=> ?_) _ _, ?_⟩
  . have:=U4.1 hr
    exact⟨of_decide_eq_true this.2,r,this.1,Z⟩
  . have e:=zL hf [] []
    have f:Wt (but t m)<=Wt m:=mP _ _
    show X (sK (dE (Wt (but t m)+1) (but t m) [] []).2.1)+X (sK (dE (Wt (but t m)+1) (but t m) [] []).2.2)+Wt (dE (Wt (but t m)+1) (but t m) [] []).1<=_
    rw [AB,AB]
    simp only [L0] at e
    omega
structure Tk (ws:List bK) (hs:List dG) (rs:List aS):Prop where q::
  a:ug ws
  hu:wW hs
  k:∀ w ∈ ws, ∀ h ∈ hs,w.a≠h.r
  n:X ws+X hs<=6
  j:∀ w ∈ ws,(0<=w.b/\w.b<=((X w.g.a:Nat):Int))/\X w.j.a<=24/\X w.g.a<=24
  b:∀ h ∈ hs,X h.a.a<=24
  snd:jZ rs
  g:∀ r ∈ rs,(∃ w ∈ ws,w.a=r.a)\/(∃ h ∈ hs,h.r=r.a)
theorem Tk.wat {ws:List bK} {hs:List dG} {rs:List aS} {i:Nat} {x:bK} (h:Tk ws hs rs) (hx:ws[i]? =Zv x):(0<=x.b/\x.b<=((X x.g.a:Nat):Int))/\X x.j.a<=24/\X x.g.a<=24:=h.j x (G4 hx)
theorem MF {ws:List bK} {hs:List dG} {rs:List aS} {i:Nat} {x:dG} (h:Tk ws hs rs) (hx:hs[i]? =Zv x):X x.a.a<=24:=h.b x (G4 hx)
theorem Tk.hops {ws:List bK} {hs:List dG} {rs:List aS} (h:Tk ws hs rs):∀ x ∈ hs,X x.a.a<=1000000:=λ x hx=>Nat.le_trans (h.b x hx) f7
theorem Tk.rows {ws:List bK} {hs:List dG} {rs:List aS} (h:Tk ws hs rs):X rs<=6:=by
  have a:=Fx (rs.map λ r=>r.a) (ws.map (λ w=>w.a)++hs.map λ x=>x.r) (U7.2 (h.snd.up.imp λ e=>Nat.ne_of_lt e)) λ x hx=>by
    obtain⟨r,hr,rfl⟩:=U8.1 hx
    rcases h.g r hr with ⟨w,hw,e⟩ | ⟨y,hy,e⟩
    . exact List.mem_append_left _ (U8.2 ⟨w,hw,e⟩)
    . exact List.mem_append_right _ (U8.2 ⟨y,hy,e⟩)
  have:=h.n
  simp only [r5,o3] at a
  omega
def wm (ws:List bK) (i k:Nat):Prop:=∃ x,ws[i]? =Zv x/\x.a=k
def gm (ws:List bK) (i:Nat):Nat:=match ws[i]? with
  | some x=>W ((X x.g.a:Int) - x.b)
  | none=>0
theorem zM {ws:List bK} {i:Nat} {x:bK} (hx:ws[i]? =Zv x):gm ws i=W ((X x.g.a:Int) - x.b):=by unfold gm; rw [hx]
theorem GR {ws:List bK} {hs:List dG} {rs:List aS} (h:Tk ws hs rs) (i:Nat):gm ws i<=24:=by
  unfold gm
  cases hx:ws[i]? with
  | none=>exact Nt _
  | some x=>have:=h.wat hx; show W _<=24; omega
theorem at_set {α:Type} {l:List α} {i:Nat} {x y:α} (hx:l[i]? =Zv x):(M2 l i y)[i]? =Zv y:=by
  have:=(p2.1 hx).1
  rw [List.getElem?_set_self this]
theorem zN {ws:List bK} {i:Nat} {x y:bK} (hx:ws[i]? =Zv x) (hg:x.b < (X x.g.a:Int)) (hl:y.g=x.g) (hy:y.b=x.b+1):gm (M2 ws i y) i+1=gm ws i:=by
  rw [zM (at_set hx),zM hx,hl,hy]
  omega
theorem wm.set {ws:List bK} {i k:Nat} {x y:bK} (h:wm ws i k) (hx:ws[i]? =Zv x) (ht:y.a=x.a):wm (M2 ws i y) i k:=by
  obtain⟨z,hz,e⟩:=h
  rw [hx] at hz; cases hz
  exact⟨y,at_set hx,by rw [ht]; exact e⟩
theorem ym {ws:List bK} {i:Nat} {x y:bK} (hx:ws[i]? =Zv x) (ht:y.a=x.a):s0 (λ w:bK=>w.a) (M2 ws i y)=s0 (λ w:bK=>w.a) ws:=by
  rw [List.map_set,ht]
  obtain⟨a,rfl⟩:=p2.1 hx
  refine List.ext_getElem? λ j=> ?_
  rw [List.getElem?_set]
  by_cases e:i=j
  . subst e; rw [ZJ Z,ZJ (by rw [r5]; exact a),List.getElem?_map,hx]; rfl
  . rw [ZK e]
theorem DY {l:List bK}:ug l↔(s0 (λ w:bK=>w.a) l).Pairwise (· < ·):=U7.symm
theorem zO {l:List bK} {n:Nat}:(∃ w ∈ l,w.a=n)↔n ∈ s0 (λ w:bK=>w.a) l:=U8.symm
theorem Tk.bump {ws:List bK} {hs:List dG} {rs:List aS} {i:Nat} {x y:bK} (h:Tk ws hs rs) (hx:ws[i]? =Zv x) (ht:y.a=x.a) (ho:y.j=x.j) (hl:y.g=x.g) (hg:0<=y.b/\y.b<=((X y.g.a:Nat):Int)):Tk (M2 ws i y) hs rs where
  a:=by rw [DY,ym hx ht, <- DY]; exact h.a
  hu:=h.hu
  k:=λ w hw z hz=>by
    have a:w.a ∈ s0 (λ w:bK=>w.a) ws:=by rw [<- ym hx ht]; exact U8.2 ⟨w,hw,Z⟩
    obtain⟨v,hv,e⟩:=U8.1 a
    rw [<- e]; exact h.k v hv z hz
  n:=by rw [List.length_set]; exact h.n
  j:=λ w hw=>by
    rcases U9 hw with a | a
    . exact h.j w a
    . rw [a]; refine⟨hg, ?_⟩; rw [ho,hl]; exact(h.wat hx).2
  b:=h.b
  snd:=h.snd
  g:=λ r hr=>by
    rw [zO,ym hx ht, <- zO]; exact h.g r hr
theorem Tk.ask {ws:List bK} {hs:List dG} {rs:List aS} {i k:Nat} (h:Tk ws hs rs) (hw:wm ws i k) {x:aL} {s e:Int} {g d:List Nat} {r:bn} (hr:jc (bn.q (N rs)) k x=(s,g,d,e,r)):Tk ws hs r.a.a where
  a:=h.a
  hu:=h.hu
  k:=h.k
  n:=h.n
  j:=h.j
  b:=h.b
  snd:=Fp h.snd hr
  g:=λ q hq=>by
    rcases (AP h.snd hr).1 q hq with e | ⟨z,hz,e⟩
    . obtain⟨y,hy,a⟩:=hw
      exact .inl ⟨y,G4 hy,by rw [a,e]⟩
    . rw [<- e]; exact h.g z hz
theorem mR {m:aB} (hs:ug m.b.a) {k:Nat} {i:Int} (hf:cK m k=(i,Zj)):wm m.b.a (W i) k:=by
  have e:cK m k=bQ m.b.a k:=Z
  rw [e] at hf
  rcases uh hs k with ⟨a,p,q,b,hp,ha,hq,h⟩ | ⟨a,q,b,ha,hq,h⟩
  . rw [h] at hf
    have c:i=(X a:Int):=(ZX Prod.fst hf).symm
    refine⟨p, ?_,hp⟩
    rw [b,c,Int.toNat_natCast]; simp
  . rw [h] at hf
    exact Bool.noConfusion (show O=Zj from ZX Prod.snd hf)
theorem ui {m:aB} (hs:ug m.b.a) {k:Nat} {i:Nat} (hw:wm m.b.a i k):cK m k=((i:Int),Zj):=by
  obtain⟨x,hx,f⟩:=hw
  have e:cK m k=bQ m.b.a k:=Z
  rw [e]
  rcases uh hs k with ⟨a,p,q,c,hp,ha,hq,h⟩ | ⟨a,q,c,ha,hq,h⟩
  . rw [h]
    have d:m.b.a[X a]? =Zv p:=by rw [c]; simp
    rcases Nat.lt_trichotomy i (X a) with b | b | b
    . have:=zK hs hx d b; omega
    . rw [b]
    . have:=zK hs d hx b; omega
  . exfalso
    rw [c] at hx
    have hm:=G4 hx
    rcases U3.1 hm with b | b
    . have:=ha x b; omega
    . have:=hq x b; omega
def Gt (ws:List bK):Prop:=∀ w ∈ ws,w.b < ((X w.g.a:Nat):Int)
def Gx (k:Nat) (ws:List bK):Prop:=∀ w ∈ ws,w.a≠k->w.b < ((X w.g.a:Nat):Int)
theorem Gt.wat {ws:List bK} {i:Nat} {x:bK} (h:Gt ws) (hx:ws[i]? =Zv x):x.b < ((X x.g.a:Nat):Int):=h x (G4 hx)
theorem Gt.gx {ws:List bK} (h:Gt ws) (k:Nat):Gx k ws:=λ w hw _=>h w hw
theorem Gx.set {ws:List bK} {i k:Nat} {y:bK} (h:Gx k ws) (hy:y.a=k):Gx k (M2 ws i y):=λ w hw hn=>by
  rcases U9 hw with e | e
  . exact h w e hn
  . rw [e] at hn; exact absurd hy hn
end Go.Proofs.YtnpdpklckacpnaaGreat
