/-
 coord: its methods.
-/
import Derived.Test.YtbkagebjhbphaaaGreatCoW
namespace Go.Proofs.YtbkagebjhbphaaaGreat
open Int renaming toNat→D0
open IntKind renaming i64→C5
open List renaming drop→r3,flatMap→q3,map→s5,mem_flatMap→Q3,mem_of_getElem?→D3,not_mem_nil→y6
open Ll renaming mk→E2
open _root_.Go.Proofs.Tryz renaming call12→U8,call22→T6,call29→U5,call54→U2,call55→U4,call65→P6,func12→U9,func22→U0,func29→U6,isAgg24→P3,isAgg28→D4,isAgg29→U7,isAgg3→C4,isAgg33→U1,isAgg42→N5,isAgg45→U3,isAgg47→T5,isAgg84→V0,prog→v8,sizeOf33→H4,sizeOf42→N6,sizeOf47→T4,underlying134→O4,underlying5→T3,underlying9→B3
open WL renaming nil→C6
open Wp renaming exit→C7,loop→C3
set_option maxRecDepth 100000
open Go.RowKit
set_option linter.unusedVariables false
set_option linter.unusedSectionVars false
set_option linter.unusedSimpArgs false
def bytes_Equal (l0:List UInt8) (l1:List UInt8):Bool:=
 decide (l0=l1)
theorem rT (w D h a k l0 i b c1 l1 j) (H:Own w D w []) (c:Ro w D fun w'=>bE w' 1 h a (q3 eB l0)) (d:a=l0.length) (m:l0.length *1≤211106232532992) (e:Ro w D fun w'=>bE w' 1 i b (q3 eB l1)) (f:b=l1.length) (n:l1.length *1≤211106232532992) (hr:bytes_Equal l0 l1=j):
    Calls v8 55 #[.slice h a k, .slice i b c1] w (d9 fun v w'=>v= .bool j∧Own w D w' []):=by
 subst d f
 refine cb Tryz.func55 ?_
 refine sr (Ar rfl (Mz rfl (fw (.string ⟨List.toArray l0⟩) (JF (l:=l0) O4 T3 B3 (H.ro c) rfl) (Mz rfl (fw (.string ⟨List.toArray l1⟩) (JF (l:=l1) O4 T3 B3 (H.ro e) rfl) (fw (.bool (decide (l0=l1))) (JJ rfl rfl) (An rfl (rt (rs ?_)))))))))
 have g:=H.pk []
 obtain rfl:_=decide (l0=l1):=hr.symm.trans rfl
 exact⟨rfl,g⟩
def eT (c:aA) (d:bL):kC × Int × aA:=
 if d.aJ≤10 then bnd (lQ d) fun k=>if k=0 then if d.fI=0 then if d.aJ > c.aa.au then(kC.mk (E2 ([])) false,180,c) else bnd (fA c.aa) fun l=>bnd (iR (bI.mk (E2 ([]))) d c) fun a=>bnd (fA a.2.aa) fun e=>bnd (bytes_Equal l.1 e.1) fun f=>(kC.mk (E2 a.1.aX.ls) (!f),0,a.2) else(kC.mk (E2 ([])) false,180,c) else(kC.mk (E2 ([])) false,180,c) else bnd (lQ d) fun g=>if g=0 then if d.fI=0 then bnd (fA c.aa) fun h=>bnd (iR (bI.mk (E2 ([]))) d c) fun b=>bnd (fA b.2.aa) fun i=>bnd (bytes_Equal h.1 i.1) fun j=>(kC.mk (E2 b.1.aX.ls) (!j),0,b.2) else(kC.mk (E2 ([])) false,180,c) else(kC.mk (E2 ([])) false,180,c)
set_option maxHeartbeats 4000000 in
theorem j5 (w D z) (f:aA) (a:bL) (l dB g n dC h P p dD j) (r0:kC) (r1) (r2:aA) (H:Own w D w [iG z f]) (fH:dB=a.aH.ls.length) (av:Ro w D fun w'=>bE w' 6 l a.aH.ls.length (q3 bi.cells a.aH.ls)) (ku:a.aH.ls.length≤g∧a.aH.ls.length≤9223372036854775807) (Q:s5 ae.abs P=a.ai.ls) (fI:dC=a.ai.ls.length) (ay:Ro w D fun w'=>bE w' 3 n a.ai.ls.length (q3 ae.cells P)) (kv:a.ai.ls.length≤h∧a.ai.ls.length≤9223372036854775807) (u:∀ x ∈ P,Ro w D (fun w'=>bE w' 2 x.ak.A x.ak.ls.length (q3 aI.cells x.ak.ls))∧(x.ak.ls.length≤x.ak.c∧x.ak.ls.length≤9223372036854775807)) (fJ:dD=a.ag.ls.length) (az:Ro w D fun w'=>bE w' 2 p a.ag.ls.length (q3 aY.cells a.ag.ls)) (kw:a.ag.ls.length≤j∧a.ag.ls.length≤9223372036854775807) (nP:f.aa.ag.ls.length≤1000∧f.ay.ls.length+f.aa.aj.ls.length≤8∧f.aa.aF.ls.length≤900∧ky a.aP∧a.aH.ls.length≤140737488355328∧a.ai.ls.length≤140737488355328∧a.ag.ls.length≤140737488355328) (nQ:Mk f) (hr:eT f a=(r0,r1,r2)):
    Calls v8 13 #[vP z 0, .agg (gU a.aD a.aJ a.fI a.aK a.dz a.eH a.aP a.av a.aN a.dY a.aV a.aL a.dL a.cu a.xN a.cz a.bU.bF a.bU.bT l dB g n dC h p dD j).toArray] w (d9 fun v w'=> ∃ dG dH bn,v= .tuple #[.agg #[.slice dG r0.fo.ls.length dH, .bool r0.jl],vI r1]∧Own w D w' [row dG r0.fo.ls.length dH (q3 bf.cells bn) 42 21,sepL (q3 bf.own bn),iG z r2]∧(s5 bf.abs bn=r0.fo.ls)∧(r2.aa.ag.ls.length=f.aa.ag.ls.length∧r2.aa.au=f.aa.au∧r2.ay.ls.length+r2.aa.aj.ls.length≤8∧r2.aa.aF.ls.length≤f.aa.aF.ls.length+1)∧(Mk r2)):=by
 subst fH fI fJ
 have kr:=aB Q
 refine cb Tryz.func13 ?_
 refine sr ?_
 refine dV (iH a l g n h p j) 42 H ?_
 intro G nR kz
 refine dV [.slice none 0 0, .bool false] 47 kz ?_
 intro aM nS kD
 refine An rfl (Ic ?_)
 have kE:=kD.pf [2]
 obtain⟨dn,aV,dw,aX,il,dx,bg,iq,nT,nU,nV,nW,nX,nY,nZ,og,oh,om,oo,oq,ou,ow,oz,oC,oD,oF,B,C,R,S,T,U,V,W,lJ,kF⟩:=iZ kE
 refine pU 20 [] (Iu IC) kF ?_
 intro oG dz
 refine qp G 1 0 rfl (ql 1 rfl 19 C4 rfl rfl rfl (qk (.bool (decide (a.aJ≤10))) 2 rfl (qv 3 rfl rfl ?_)))
 by_cases r:a.aJ≤10
 refine Ip (v:=vP G 1) (rs:= []) 4 rfl rfl rfl (dT r) e7 (fun _ _=>yk) (Ip (v:=vI a.aJ) (rs:= []) 5 rfl rfl rfl (dT r) e7 (fun _ ⟨_,H9⟩=>Io rfl (bZ.one C4 (jR.of (H9.cls (i:=19) rfl) rfl))) (Ip (v:=vP z 0) (rs:= []) 6 rfl rfl rfl (dT r) e7 (fun _ _=>Iq rfl) (Ip (v:=vP z 0) (rs:= []) 7 rfl rfl rfl (dT r) e7 (fun _ _=>yk) (Ip (v:=vP z 0) (rs:= []) 8 rfl rfl rfl (dT r) e7 (fun _ _=>yk) (Ip (v:=vP z 0) (rs:= []) 9 rfl rfl rfl (dT r) e7 (fun _ _=>yk) (Ip (v:=vI f.aa.au) (rs:= []) 10 rfl rfl rfl (dT r) e7 (fun _ ⟨_,H9⟩=>Io rfl (bZ.one C4 (jR.of (H9.cls (i:=0) rfl) rfl))) (Ip (v:= .bool (decide (a.aJ > f.aa.au))) (rs:= []) 11 rfl rfl rfl (dT r) e7 (fun _ _=>yk) (qt (v:= .bool (decide (a.aJ > f.aa.au))) 12 rfl (fun _ _=>Iw rfl (dT r) rfl) (qa 13 rfl rfl (qn (Ig (Ic (sr (La (iH a l g n h p j) dz 19 N5 N6 ?_))))))))))))))
 obtain⟨bq,ag⟩:∃ q,lQ a=q:=⟨_,rfl⟩
 obtain⟨oH,iw,aR,iy,lK⟩:=Ii dz
 refine cl Tryz.call21 (vK _ _ a l a.aH.ls.length g n a.ai.ls.length h P p a.ag.ls.length j bq iw rfl (aR _ av) (show a.aH.ls.length≤g∧a.aH.ls.length≤9223372036854775807 from by omega) Q rfl (aR _ ay) (show a.ai.ls.length≤h∧a.ai.ls.length≤9223372036854775807 from by omega) (fun s t=>⟨aR _ (u s t).1,(u s t).2⟩) rfl (aR _ az) (show a.ag.ls.length≤j∧a.ag.ls.length≤9223372036854775807 from by omega) i3 ag) ?_
 rintro _ oI ⟨rfl,iA⟩
 have bu:=iy _ _ iA
 have lL: ¬ (bq=0)∨(a.aH.ls.length≤24∧a.ag.ls.length≤1000∧a.ai.ls.length≤1000∧(¬ (a.aD=1)∨11≤a.aJ∧a.aJ≤14)∧(¬ (a.aD=9)∨1≤a.aJ∧a.aJ≤4)):=Dy ag
 refine fw (.bool (decide (¬ (bq=0)))) (IG (e:= !(decide (bq=0))) yk decide_not.symm) (Mz rfl ?_)
 by_cases O:bq=0
 refine gw (vP G 2) (dF (Lh O)) yk (gw (vI a.fI) (dF (Lh O)) (Io rfl (bZ.one C4 (jR.of (bu.cls (i:=19) rfl) rfl))) (gw (.bool (decide (¬ (a.fI=0)))) (dF (Lh O)) (IG (e:= !(decide (a.fI=0))) yk decide_not.symm) (fw (.bool (decide (¬ (a.fI=0)))) (Ih rfl (dF (Lh O)) rfl) (Mz rfl ?_))))
 by_cases aN:a.fI=0
 refine gw (.bool (decide (a.aJ > f.aa.au))) (dF (Lh aN)) (Iq rfl) (fw (.bool (decide (a.aJ > f.aa.au))) (Ih rfl (dF (Lh aN)) rfl) (nt ?_))
 by_cases dA:a.aJ > f.aa.au
 refine jT (dT dA) (sr (Kz (.agg #[.slice none 0 0, .bool false]) ?_))
 have kH:=bu.pf [18]
 refine dS [.slice none 0 0, .bool false] 0 kH T4 ?_
 intro iB iC
 refine An rfl (rt (tR (Fin.res (kS (vs:= [.agg #[.slice none 0 0, .bool false],vI 180]) rfl (eu.cell rfl (Iy (cs:= [.slice none 0 0, .bool false]) T5 T4 ((iC.cls (i:=0) rfl).lit (k:=0) (m:=2) rfl)) (eu.tmp rfl eu.nil)) (Le rfl)) ?_)))
 have kI:=iC.pb [0,19]
 have kK:=fe B C R S T U V W kI
 have kL:Own w D iB [sepL (q3 bf.own ([])),iG z f,blk aM [.slice none 0 0, .bool false] 47,blk G (iH a l g n h p j) 42]:=kK.sepNil
 have kM:Own w D iB (row none 0 0 (q3 bf.cells ([])) 42 21::_):=kL.free (eZ 42 21)
 have kN:=kM.pk [0,1,2]
 obtain⟨rfl,rfl,rfl⟩:=Ae (hr.symm.trans (show _=(kC.mk (E2 ([])) false,180,f) from et (ip r) (et (ah ag) (et (ip O) (et (ip aN) (ip dA))))))
 exact⟨none,0, [],rfl,kN,rfl,i1,f5⟩
 refine jF (dF dA) (sk (sr (Mz rfl (Kz (.func (.func 23) #[] #[vP G 0]) ?_))))
 refine WL.do rfl (Iz T6 rfl ?_ (fun _ _ k=>k))
 refine cb U0 ?_
 refine sr ?_
 refine dV [.slice none 0 0, .bool false] 47 bu ?_
 intro kP oJ bv
 refine ns (Mz rfl (Kz (vP z 0) (Kz (vP z 0) (La ([vI f.aa.au,vU f.aa.av,vU f.aa.aV,vU f.aa.aL, .slice dn f.aa.ag.ls.length aV, .slice dw f.aa.aj.ls.length aX, .slice dx f.aa.aF.ls.length bg]) bv 1 U1 H4 ?_))))
 obtain⟨⟨aG,iD⟩,dI⟩:∃ q:(List UInt8) × Int,fA f.aa=q:=⟨_,rfl⟩
 obtain⟨oK,iE,lM,iF,ai⟩:=Ii bv
 refine cl U2 (kJ _ _ f.aa dn f.aa.ag.ls.length aV dw f.aa.aj.ls.length aX il dx f.aa.aF.ls.length bg iq aG iD iE rfl (ai _ 2 _ rfl aO) (show f.aa.ag.ls.length≤aV∧f.aa.ag.ls.length≤9223372036854775807 from by omega) B rfl (ai _ 3 _ rfl aO) (show f.aa.aj.ls.length≤aX∧f.aa.aj.ls.length≤9223372036854775807 from by omega) (fun s t=>⟨ai _ 4 _ rfl (ax (Q3.2 ⟨s,t,b1⟩) aO),aZ (φ:=fun _=>_) bv (i:=4) rfl (ax (Q3.2 ⟨s,t,b1⟩) aW)⟩) C rfl (ai _ 5 _ rfl aO) (show f.aa.aF.ls.length≤bg∧f.aa.aF.ls.length≤9223372036854775807 from by omega) (fun s t=>⟨ai _ 6 _ rfl (ax (Q3.2 ⟨s,t,b1⟩) aO),aZ (φ:=fun _=>_) bv (i:=6) rfl (ax (Q3.2 ⟨s,t,b1⟩) aW),(fun y1 k1=>⟨ai _ 6 _ rfl (ax (Q3.2 ⟨s,t, .tail _ b1⟩) (ax (Q3.2 ⟨y1,k1,b1⟩) aO)),aZ (φ:=fun _=>_) bv (i:=6) rfl (ax (Q3.2 ⟨s,t, .tail _ b1⟩) (ax (Q3.2 ⟨y1,k1,b1⟩) aW))⟩)⟩) e8 i4 dI) ?_
 rintro _ lN ⟨bB,bC,rfl,fK,bD⟩
 have dJ:=iF _ _ fK
 have kQ:=dJ.rowC (i:=0) rfl
 replace bD:aG.length≤100000:=bD
 refine Mz rfl (Kz (.slice bB aG.length bC) (Kz (vI iD) (Az rfl (Ar rfl (Mz rfl (Kz (.agg #[vP z 0, .slice none 0 0]) ?_))))))
 refine dV [vP z 0, .slice none 0 0] 98 dJ ?_
 intro aS dK dL
 refine Ar rfl (Mz rfl (Mz rfl ?_))
 refine WL.do rfl (IK Tryz.call23 rfl rfl ?_ (fun _ _ k=>k))
 refine cb Tryz.func23 ?_
 refine Ib (Mz rfl (La (iH a l g n h p j) dL 22 N5 N6 ?_))
 have iI:=dL.pb [0,1,2,21,22]
 have iJ:=fe B C R S T U V W iI
 have iK:Own w D dK [sepL (q3 bf.own ([])),iG z f,blk aS [vP z 0, .slice none 0 0] 98,row bB aG.length bC (q3 eB aG) 5 1,blk kP [.slice none 0 0, .bool false] 47,blk aM [.slice none 0 0, .bool false] 47,blk G (iH a l g n h p j) 42]:=iJ.sepNil
 have iL:Own w D dK (row none 0 0 (q3 bf.cells ([])) 42 21::_):=iK.free (eZ 42 21)
 have iM:=iL.pf [3]
 obtain⟨⟨L,b⟩,aP⟩:∃ q:bI × aA,iR (bI.mk (E2 ([]))) a f=q:=⟨_,rfl⟩
 obtain⟨lS,fM,aC,fO,kR⟩:=I5 iM
 refine cl Tryz.call24 (sF _ _ aS (bI.mk (E2 ([]))) none 0 ([]) a l a.aH.ls.length g n a.ai.ls.length h P p a.ag.ls.length j z f L b fM rfl rfl (aC _ av) (show a.aH.ls.length≤g∧a.aH.ls.length≤9223372036854775807 from by omega) Q rfl (aC _ ay) (show a.ai.ls.length≤h∧a.ai.ls.length≤9223372036854775807 from by omega) (fun s t=>⟨aC _ (u s t).1,(u s t).2⟩) rfl (aC _ az) (show a.ag.ls.length≤j∧a.ag.ls.length≤9223372036854775807 from by omega) e8 f5 e8 j1 e8 aP) ?_
 rintro _ lT ⟨X,Y,iO,rfl,fP,bF⟩
 have dM:=fO _ _ fP
 have kT:=aB bF
 have kU:=dM.rowC (i:=1) rfl
 have bG:=zF aP (rR f5 f5) e6 e6
 have kV:Mk b:=bG.2 f5
 have kW:b.aa.ag.ls.length=f.aa.ag.ls.length∧b.aa.au=f.aa.au∧b.ay.ls.length+b.aa.aj.ls.length≤8∧b.aa.aF.ls.length≤f.aa.aF.ls.length+1:=JQ bG.1 e6
 refine C6 (IA (res0 rfl) (nt (Ic ?_)))
 have iP:=dM.pf [3]
 obtain⟨dN,bH,dO,bJ,iQ,dP,bK,iT,lU,lV,lW,lX,lY,lZ,l5,l6,l7,l8,l9,ma,mf,mg,mh,mi,mo,mq,bM,bN,fQ,fT,fU,fV,fZ,gm,kX,aH⟩:=iZ iP
 refine Ib (Mz rfl (Kz (vP z 0) (Kz (vP z 0) (La ([vI b.aa.au,vU b.aa.av,vU b.aa.aV,vU b.aa.aL, .slice dN b.aa.ag.ls.length bH, .slice dO b.aa.aj.ls.length bJ, .slice dP b.aa.aF.ls.length bK]) aH 0 U1 H4 ?_))))
 obtain⟨⟨aj,dQ⟩,bO⟩:∃ q:(List UInt8) × Int,fA b.aa=q:=⟨_,rfl⟩
 obtain⟨mr,gp,kY,gq,I⟩:=Ii aH
 refine cl U2 (kJ _ _ b.aa dN b.aa.ag.ls.length bH dO b.aa.aj.ls.length bJ iQ dP b.aa.aF.ls.length bK iT aj dQ gp rfl (I _ 1 _ rfl aO) (show b.aa.ag.ls.length≤bH∧b.aa.ag.ls.length≤9223372036854775807 from by omega) bM rfl (I _ 2 _ rfl aO) (show b.aa.aj.ls.length≤bJ∧b.aa.aj.ls.length≤9223372036854775807 from by omega) (fun s t=>⟨I _ 3 _ rfl (ax (Q3.2 ⟨s,t,b1⟩) aO),aZ (φ:=fun _=>_) aH (i:=3) rfl (ax (Q3.2 ⟨s,t,b1⟩) aW)⟩) bN rfl (I _ 4 _ rfl aO) (show b.aa.aF.ls.length≤bK∧b.aa.aF.ls.length≤9223372036854775807 from by omega) (fun s t=>⟨I _ 5 _ rfl (ax (Q3.2 ⟨s,t,b1⟩) aO),aZ (φ:=fun _=>_) aH (i:=5) rfl (ax (Q3.2 ⟨s,t,b1⟩) aW),(fun y1 k1=>⟨I _ 5 _ rfl (ax (Q3.2 ⟨s,t, .tail _ b1⟩) (ax (Q3.2 ⟨y1,k1,b1⟩) aO)),aZ (φ:=fun _=>_) aH (i:=5) rfl (ax (Q3.2 ⟨s,t, .tail _ b1⟩) (ax (Q3.2 ⟨y1,k1,b1⟩) aW))⟩)⟩) e8 i4 bO) ?_
 rintro _ mD ⟨dR,dU,rfl,gu,bP⟩
 have dW:=gq _ _ gu
 have kZ:=dW.rowC (i:=0) rfl
 replace bP:aj.length≤100000:=bP
 refine Mz rfl (Kz (.slice dR aj.length dU) (Kz (vI dQ) (Az rfl (An rfl (Ic ?_)))))
 have iU:=dW.pb [23]
 refine pU 25 [] (Iu IC) iU ?_
 intro mE iV
 refine qv 0 rfl rfl (qp aS 0 1 rfl (qp aS 1 2 rfl (ql 3 rfl 19 U3 rfl rfl rfl (qv 4 rfl rfl (qv 5 rfl rfl ?_)))))
 obtain⟨E,bQ⟩:∃ q,bytes_Equal aG aj=q:=⟨_,rfl⟩
 obtain⟨mF,gy,lc,gz,bR⟩:=Ii iV
 refine qd 6 rfl (Iz U4 rfl (rT _ _ bB aG.length bC aG dR aj.length dU aj E gy (bR _ 22 _ rfl aO) rfl e6 (bR _ 0 _ rfl aO) rfl e6 bQ) ?_)
 rintro _ mG ⟨rfl,gB⟩
 have dX:=gz _ _ gB
 refine⟨.inr ⟨_,dX⟩, ?_⟩
 refine qk (.bool (!E)) 7 rfl (qk (.agg #[.slice X L.aX.ls.length Y, .bool (!E)]) 8 rfl ?_)
 have iW:=dX.pf [25]
 refine qe 9 rfl (Do.store (vs:= [.slice X L.aX.ls.length Y, .bool (!E)]) (o:=0) iW rfl rfl T4 rfl rfl rfl rfl ?_)
 intro mH iX
 have bS:=iX.pb [0]
 refine⟨.inr ⟨_,bS⟩, ?_⟩
 refine qn (Ig (rt (Fin.res (ol rfl rfl (Iy (cs:= [.slice X L.aX.ls.length Y, .bool (!E)]) T5 T4 ((bS.cls (i:=25) rfl).lit (k:=0) (m:=2) rfl))) ?_)))
 have iY:=bS.pf [23]
 refine dS [.slice X L.aX.ls.length Y, .bool (!E)] 0 iY T4 ?_
 intro mI dY
 refine An rfl (rt (Fin.res (kS (vs:= [.agg #[.slice X L.aX.ls.length Y, .bool (!E)],vI 0]) rfl (eu.cell rfl (Iy (cs:= [.slice X L.aX.ls.length Y, .bool (!E)]) T5 T4 ((dY.cls (i:=0) rfl).lit (k:=0) (m:=2) rfl)) (eu.tmp rfl eu.nil)) (Le rfl)) ?_))
 have ja:=dY.pb [0,1,20,21,22,23,24,25]
 have jb:=fe bM bN fQ fT fU fV fZ gm ja
 have jc:=jb.pk [4,5,0]
 obtain⟨rfl,rfl,rfl⟩:=Ae (hr.symm.trans (show _=(kC.mk (E2 L.aX.ls) (!E),0,b) from et (ip r) (et (ah ag) (et (ip O) (et (ip aN) (et (iN dA) (et (ah dI) (et (ah aP) (et (ah bO) (ah bQ))))))))))
 exact⟨X,Y,iO,rfl,jc,bF,i1,f5⟩
 refine Sz (dT aN) (fw (.bool true) (Iw rfl (dT aN) rfl) (nt (jt (sr (Kz (.agg #[.slice none 0 0, .bool false]) ?_)))))
 have jd:=bu.pf [18]
 refine dS [.slice none 0 0, .bool false] 0 jd T4 ?_
 intro dZ ed
 refine An rfl (rt (tR (Fin.res (kS (vs:= [.agg #[.slice none 0 0, .bool false],vI 180]) rfl (eu.cell rfl (Iy (cs:= [.slice none 0 0, .bool false]) T5 T4 ((ed.cls (i:=0) rfl).lit (k:=0) (m:=2) rfl)) (eu.tmp rfl eu.nil)) (Le rfl)) ?_)))
 have je:=ed.pb [0,19]
 have jg:=fe B C R S T U V W je
 have jh:Own w D dZ [sepL (q3 bf.own ([])),iG z f,blk aM [.slice none 0 0, .bool false] 47,blk G (iH a l g n h p j) 42]:=jg.sepNil
 have ji:Own w D dZ (row none 0 0 (q3 bf.cells ([])) 42 21::_):=jh.free (eZ 42 21)
 have jk:=ji.pk [0,1,2]
 obtain⟨rfl,rfl,rfl⟩:=Ae (hr.symm.trans (show _=(kC.mk (E2 ([])) false,180,f) from et (ip r) (et (ah ag) (et (ip O) (iN aN)))))
 exact⟨none,0, [],rfl,jk,rfl,i1,f5⟩
 refine Sz (dT O) (Sz (dT O) (Sz (dT O) (fw (.bool true) (Iw rfl (dT O) rfl) (Mz rfl (Sz rfl (fw (.bool true) (Iw rfl rfl rfl) (nt (jt (sr (Kz (.agg #[.slice none 0 0, .bool false]) ?_))))))))))
 have jl:=bu.pf [18]
 refine dS [.slice none 0 0, .bool false] 0 jl T4 ?_
 intro ek eD
 refine An rfl (rt (tR (Fin.res (kS (vs:= [.agg #[.slice none 0 0, .bool false],vI 180]) rfl (eu.cell rfl (Iy (cs:= [.slice none 0 0, .bool false]) T5 T4 ((eD.cls (i:=0) rfl).lit (k:=0) (m:=2) rfl)) (eu.tmp rfl eu.nil)) (Le rfl)) ?_)))
 have jm:=eD.pb [0,19]
 have jo:=fe B C R S T U V W jm
 have jq:Own w D ek [sepL (q3 bf.own ([])),iG z f,blk aM [.slice none 0 0, .bool false] 47,blk G (iH a l g n h p j) 42]:=jo.sepNil
 have jr:Own w D ek (row none 0 0 (q3 bf.cells ([])) 42 21::_):=jq.free (eZ 42 21)
 have jv:=jr.pk [0,1,2]
 obtain⟨rfl,rfl,rfl⟩:=Ae (hr.symm.trans (show _=(kC.mk (E2 ([])) false,180,f) from et (ip r) (et (ah ag) (iN O))))
 exact⟨none,0, [],rfl,jv,rfl,i1,f5⟩
 refine Ik (rs:= []) 4 rfl rfl rfl (dF r) e7 (Ik (rs:= []) 5 rfl rfl rfl (dF r) e7 (Ik (rs:= []) 6 rfl rfl rfl (dF r) e7 (Ik (rs:= []) 7 rfl rfl rfl (dF r) e7 (Ik (rs:= []) 8 rfl rfl rfl (dF r) e7 (Ik (rs:= []) 9 rfl rfl rfl (dF r) e7 (Ik (rs:= []) 10 rfl rfl rfl (dF r) e7 (Ik (rs:= []) 11 rfl rfl rfl (dF r) e7 (qt (v:= .bool false) 12 rfl (fun _ _=>Ih rfl (dF r) rfl) (qa 13 rfl rfl (qn (Ig (Ic (sr (La (iH a l g n h p j) dz 19 N5 N6 ?_))))))))))))))
 obtain⟨aJ,Z⟩:∃ q,lQ a=q:=⟨_,rfl⟩
 obtain⟨mJ,gD,aD,gF,lg⟩:=Ii dz
 refine cl Tryz.call21 (vK _ _ a l a.aH.ls.length g n a.ai.ls.length h P p a.ag.ls.length j aJ gD rfl (aD _ av) (show a.aH.ls.length≤g∧a.aH.ls.length≤9223372036854775807 from by omega) Q rfl (aD _ ay) (show a.ai.ls.length≤h∧a.ai.ls.length≤9223372036854775807 from by omega) (fun s t=>⟨aD _ (u s t).1,(u s t).2⟩) rfl (aD _ az) (show a.ag.ls.length≤j∧a.ag.ls.length≤9223372036854775807 from by omega) i3 Z) ?_
 rintro _ mK ⟨rfl,gG⟩
 have aT:=gF _ _ gG
 have lh: ¬ (aJ=0)∨(a.aH.ls.length≤24∧a.ag.ls.length≤1000∧a.ai.ls.length≤1000∧(¬ (a.aD=1)∨11≤a.aJ∧a.aJ≤14)∧(¬ (a.aD=9)∨1≤a.aJ∧a.aJ≤4)):=Dy Z
 refine fw (.bool (decide (¬ (aJ=0)))) (IG (e:= !(decide (aJ=0))) yk decide_not.symm) (Mz rfl ?_)
 by_cases y:aJ=0
 refine gw (vP G 2) (dF (Lh y)) yk (gw (vI a.fI) (dF (Lh y)) (Io rfl (bZ.one C4 (jR.of (aT.cls (i:=19) rfl) rfl))) (gw (.bool (decide (¬ (a.fI=0)))) (dF (Lh y)) (IG (e:= !(decide (a.fI=0))) yk decide_not.symm) (fw (.bool (decide (¬ (a.fI=0)))) (Ih rfl (dF (Lh y)) rfl) (Mz rfl ?_))))
 by_cases ak:a.fI=0
 refine gw (.bool false) (dF (Lh ak)) (Iq rfl) (fw (.bool false) (Ih rfl (dF (Lh ak)) rfl) (nt (jf (sk (sr (Mz rfl (Kz (.func (.func 23) #[] #[vP G 0]) ?_)))))))
 refine WL.do rfl (Iz T6 rfl ?_ (fun _ _ k=>k))
 refine cb U0 ?_
 refine sr ?_
 refine dV [.slice none 0 0, .bool false] 47 aT ?_
 intro jw mM aK
 refine ns (Mz rfl (Kz (vP z 0) (Kz (vP z 0) (La ([vI f.aa.au,vU f.aa.av,vU f.aa.aV,vU f.aa.aL, .slice dn f.aa.ag.ls.length aV, .slice dw f.aa.aj.ls.length aX, .slice dx f.aa.aF.ls.length bg]) aK 1 U1 H4 ?_))))
 obtain⟨⟨M,eF⟩,bT⟩:∃ q:(List UInt8) × Int,fA f.aa=q:=⟨_,rfl⟩
 obtain⟨mO,gH,ll,gI,J⟩:=Ii aK
 refine cl U2 (kJ _ _ f.aa dn f.aa.ag.ls.length aV dw f.aa.aj.ls.length aX il dx f.aa.aF.ls.length bg iq M eF gH rfl (J _ 2 _ rfl aO) (show f.aa.ag.ls.length≤aV∧f.aa.ag.ls.length≤9223372036854775807 from by omega) B rfl (J _ 3 _ rfl aO) (show f.aa.aj.ls.length≤aX∧f.aa.aj.ls.length≤9223372036854775807 from by omega) (fun s t=>⟨J _ 4 _ rfl (ax (Q3.2 ⟨s,t,b1⟩) aO),aZ (φ:=fun _=>_) aK (i:=4) rfl (ax (Q3.2 ⟨s,t,b1⟩) aW)⟩) C rfl (J _ 5 _ rfl aO) (show f.aa.aF.ls.length≤bg∧f.aa.aF.ls.length≤9223372036854775807 from by omega) (fun s t=>⟨J _ 6 _ rfl (ax (Q3.2 ⟨s,t,b1⟩) aO),aZ (φ:=fun _=>_) aK (i:=6) rfl (ax (Q3.2 ⟨s,t,b1⟩) aW),(fun y1 k1=>⟨J _ 6 _ rfl (ax (Q3.2 ⟨s,t, .tail _ b1⟩) (ax (Q3.2 ⟨y1,k1,b1⟩) aO)),aZ (φ:=fun _=>_) aK (i:=6) rfl (ax (Q3.2 ⟨s,t, .tail _ b1⟩) (ax (Q3.2 ⟨y1,k1,b1⟩) aW))⟩)⟩) e8 i4 bT) ?_
 rintro _ mP ⟨bU,bV,rfl,gJ,bW⟩
 have eG:=gI _ _ gJ
 have lm:=eG.rowC (i:=0) rfl
 replace bW:M.length≤100000:=bW
 refine Mz rfl (Kz (.slice bU M.length bV) (Kz (vI eF) (Az rfl (Ar rfl (Mz rfl (Kz (.agg #[vP z 0, .slice none 0 0]) ?_))))))
 refine dV [vP z 0, .slice none 0 0] 98 eG ?_
 intro aU eH eO
 refine Ar rfl (Mz rfl (Mz rfl ?_))
 refine WL.do rfl (IK Tryz.call23 rfl rfl ?_ (fun _ _ k=>k))
 refine cb Tryz.func23 ?_
 refine Ib (Mz rfl (La (iH a l g n h p j) eO 22 N5 N6 ?_))
 have jy:=eO.pb [0,1,2,21,22]
 have jA:=fe B C R S T U V W jy
 have jB:Own w D eH [sepL (q3 bf.own ([])),iG z f,blk aU [vP z 0, .slice none 0 0] 98,row bU M.length bV (q3 eB M) 5 1,blk jw [.slice none 0 0, .bool false] 47,blk aM [.slice none 0 0, .bool false] 47,blk G (iH a l g n h p j) 42]:=jA.sepNil
 have jC:Own w D eH (row none 0 0 (q3 bf.cells ([])) 42 21::_):=jB.free (eZ 42 21)
 have jD:=jC.pf [3]
 obtain⟨⟨N,d⟩,aQ⟩:∃ q:bI × aA,iR (bI.mk (E2 ([]))) a f=q:=⟨_,rfl⟩
 obtain⟨mQ,gK,aF,gL,lq⟩:=I5 jD
 refine cl Tryz.call24 (sF _ _ aU (bI.mk (E2 ([]))) none 0 ([]) a l a.aH.ls.length g n a.ai.ls.length h P p a.ag.ls.length j z f N d gK rfl rfl (aF _ av) (show a.aH.ls.length≤g∧a.aH.ls.length≤9223372036854775807 from by omega) Q rfl (aF _ ay) (show a.ai.ls.length≤h∧a.ai.ls.length≤9223372036854775807 from by omega) (fun s t=>⟨aF _ (u s t).1,(u s t).2⟩) rfl (aF _ az) (show a.ag.ls.length≤j∧a.ag.ls.length≤9223372036854775807 from by omega) e8 f5 e8 j1 e8 aQ) ?_
 rintro _ mR ⟨aa,af,jE,rfl,gM,bX⟩
 have eP:=gL _ _ gM
 have lu:=aB bX
 have lv:=eP.rowC (i:=1) rfl
 have bY:=zF aQ (rR f5 f5) e6 e6
 have lw:Mk d:=bY.2 f5
 have lC:d.aa.ag.ls.length=f.aa.ag.ls.length∧d.aa.au=f.aa.au∧d.ay.ls.length+d.aa.aj.ls.length≤8∧d.aa.aF.ls.length≤f.aa.aF.ls.length+1:=JQ bY.1 e6
 refine C6 (IA (res0 rfl) (nt (Ic ?_)))
 have jG:=eP.pf [3]
 obtain⟨eQ,cu,eU,cz,jH,eX,cB,jI,mU,mV,mW,mX,mY,mZ,ng,ni,nk,nu,ny,nz,nA,nC,nD,nE,nG,nH,cK,cO,gN,gP,gQ,gT,gV,gW,lD,aL⟩:=iZ jG
 refine Ib (Mz rfl (Kz (vP z 0) (Kz (vP z 0) (La ([vI d.aa.au,vU d.aa.av,vU d.aa.aV,vU d.aa.aL, .slice eQ d.aa.ag.ls.length cu, .slice eU d.aa.aj.ls.length cz, .slice eX d.aa.aF.ls.length cB]) aL 0 U1 H4 ?_))))
 obtain⟨⟨au,eY⟩,cZ⟩:∃ q:(List UInt8) × Int,fA d.aa=q:=⟨_,rfl⟩
 obtain⟨nI,gX,lF,gY,K⟩:=Ii aL
 refine cl U2 (kJ _ _ d.aa eQ d.aa.ag.ls.length cu eU d.aa.aj.ls.length cz jH eX d.aa.aF.ls.length cB jI au eY gX rfl (K _ 1 _ rfl aO) (show d.aa.ag.ls.length≤cu∧d.aa.ag.ls.length≤9223372036854775807 from by omega) cK rfl (K _ 2 _ rfl aO) (show d.aa.aj.ls.length≤cz∧d.aa.aj.ls.length≤9223372036854775807 from by omega) (fun s t=>⟨K _ 3 _ rfl (ax (Q3.2 ⟨s,t,b1⟩) aO),aZ (φ:=fun _=>_) aL (i:=3) rfl (ax (Q3.2 ⟨s,t,b1⟩) aW)⟩) cO rfl (K _ 4 _ rfl aO) (show d.aa.aF.ls.length≤cB∧d.aa.aF.ls.length≤9223372036854775807 from by omega) (fun s t=>⟨K _ 5 _ rfl (ax (Q3.2 ⟨s,t,b1⟩) aO),aZ (φ:=fun _=>_) aL (i:=5) rfl (ax (Q3.2 ⟨s,t,b1⟩) aW),(fun y1 k1=>⟨K _ 5 _ rfl (ax (Q3.2 ⟨s,t, .tail _ b1⟩) (ax (Q3.2 ⟨y1,k1,b1⟩) aO)),aZ (φ:=fun _=>_) aL (i:=5) rfl (ax (Q3.2 ⟨s,t, .tail _ b1⟩) (ax (Q3.2 ⟨y1,k1,b1⟩) aW))⟩)⟩) e8 i4 cZ) ?_
 rintro _ nJ ⟨fo,fq,rfl,gZ,df⟩
 have fu:=gY _ _ gZ
 have lG:=fu.rowC (i:=0) rfl
 replace df:au.length≤100000:=df
 refine Mz rfl (Kz (.slice fo au.length fq) (Kz (vI eY) (Az rfl (An rfl (Ic ?_)))))
 have jJ:=fu.pb [23]
 refine pU 25 [] (Iu IC) jJ ?_
 intro nK jK
 refine qv 0 rfl rfl (qp aU 0 1 rfl (qp aU 1 2 rfl (ql 3 rfl 19 U3 rfl rfl rfl (qv 4 rfl rfl (qv 5 rfl rfl ?_)))))
 obtain⟨F,dh⟩:∃ q,bytes_Equal M au=q:=⟨_,rfl⟩
 obtain⟨nL,ib,lH,ic,di⟩:=Ii jK
 refine qd 6 rfl (Iz U4 rfl (rT _ _ bU M.length bV M fo au.length fq au F ib (di _ 22 _ rfl aO) rfl e6 (di _ 0 _ rfl aO) rfl e6 dh) ?_)
 rintro _ nM ⟨rfl,ig⟩
 have fB:=ic _ _ ig
 refine⟨.inr ⟨_,fB⟩, ?_⟩
 refine qk (.bool (!F)) 7 rfl (qk (.agg #[.slice aa N.aX.ls.length af, .bool (!F)]) 8 rfl ?_)
 have jL:=fB.pf [25]
 refine qe 9 rfl (Do.store (vs:= [.slice aa N.aX.ls.length af, .bool (!F)]) (o:=0) jL rfl rfl T4 rfl rfl rfl rfl ?_)
 intro nN jM
 have dm:=jM.pb [0]
 refine⟨.inr ⟨_,dm⟩, ?_⟩
 refine qn (Ig (rt (Fin.res (ol rfl rfl (Iy (cs:= [.slice aa N.aX.ls.length af, .bool (!F)]) T5 T4 ((dm.cls (i:=25) rfl).lit (k:=0) (m:=2) rfl))) ?_)))
 have jN:=dm.pf [23]
 refine dS [.slice aa N.aX.ls.length af, .bool (!F)] 0 jN T4 ?_
 intro nO fC
 refine An rfl (rt (Fin.res (kS (vs:= [.agg #[.slice aa N.aX.ls.length af, .bool (!F)],vI 0]) rfl (eu.cell rfl (Iy (cs:= [.slice aa N.aX.ls.length af, .bool (!F)]) T5 T4 ((fC.cls (i:=0) rfl).lit (k:=0) (m:=2) rfl)) (eu.tmp rfl eu.nil)) (Le rfl)) ?_))
 have jO:=fC.pb [0,1,20,21,22,23,24,25]
 have jP:=fe cK cO gN gP gQ gT gV gW jO
 have jQ:=jP.pk [4,5,0]
 obtain⟨rfl,rfl,rfl⟩:=Ae (hr.symm.trans (show _=(kC.mk (E2 N.aX.ls) (!F),0,d) from et (iN r) (et (ah Z) (et (ip y) (et (ip ak) (et (ah bT) (et (ah aQ) (et (ah cZ) (ah dh)))))))))
 exact⟨aa,af,jE,rfl,jQ,bX,i1,f5⟩
 refine Sz (dT ak) (fw (.bool true) (Iw rfl (dT ak) rfl) (nt (jt (sr (Kz (.agg #[.slice none 0 0, .bool false]) ?_)))))
 have jS:=aT.pf [18]
 refine dS [.slice none 0 0, .bool false] 0 jS T4 ?_
 intro fD fE
 refine An rfl (rt (tR (Fin.res (kS (vs:= [.agg #[.slice none 0 0, .bool false],vI 180]) rfl (eu.cell rfl (Iy (cs:= [.slice none 0 0, .bool false]) T5 T4 ((fE.cls (i:=0) rfl).lit (k:=0) (m:=2) rfl)) (eu.tmp rfl eu.nil)) (Le rfl)) ?_)))
 have jU:=fE.pb [0,19]
 have jV:=fe B C R S T U V W jU
 have jW:Own w D fD [sepL (q3 bf.own ([])),iG z f,blk aM [.slice none 0 0, .bool false] 47,blk G (iH a l g n h p j) 42]:=jV.sepNil
 have jX:Own w D fD (row none 0 0 (q3 bf.cells ([])) 42 21::_):=jW.free (eZ 42 21)
 have jY:=jX.pk [0,1,2]
 obtain⟨rfl,rfl,rfl⟩:=Ae (hr.symm.trans (show _=(kC.mk (E2 ([])) false,180,f) from et (iN r) (et (ah Z) (et (ip y) (iN ak)))))
 exact⟨none,0, [],rfl,jY,rfl,i1,f5⟩
 refine Sz (dT y) (Sz (dT y) (Sz (dT y) (fw (.bool true) (Iw rfl (dT y) rfl) (Mz rfl (Sz rfl (fw (.bool true) (Iw rfl rfl rfl) (nt (jt (sr (Kz (.agg #[.slice none 0 0, .bool false]) ?_))))))))))
 have jZ:=aT.pf [18]
 refine dS [.slice none 0 0, .bool false] 0 jZ T4 ?_
 intro fF fG
 refine An rfl (rt (tR (Fin.res (kS (vs:= [.agg #[.slice none 0 0, .bool false],vI 180]) rfl (eu.cell rfl (Iy (cs:= [.slice none 0 0, .bool false]) T5 T4 ((fG.cls (i:=0) rfl).lit (k:=0) (m:=2) rfl)) (eu.tmp rfl eu.nil)) (Le rfl)) ?_)))
 have j3:=fG.pb [0,19]
 have j4:=fe B C R S T U V W j3
 have j6:Own w D fF [sepL (q3 bf.own ([])),iG z f,blk aM [.slice none 0 0, .bool false] 47,blk G (iH a l g n h p j) 42]:=j4.sepNil
 have kg:Own w D fF (row none 0 0 (q3 bf.cells ([])) 42 21::_):=j6.free (eZ 42 21)
 have ko:=kg.pk [0,1,2]
 obtain⟨rfl,rfl,rfl⟩:=Ae (hr.symm.trans (show _=(kC.mk (E2 ([])) false,180,f) from et (iN r) (et (ah Z) (iN y))))
 exact⟨none,0, [],rfl,ko,rfl,i1,f5⟩
def eQ (b:aA):cZ:=
 bnd (gW b.aa) fun a=>a
set_option maxHeartbeats 4000000 in
theorem kE (w D M) (b:aA) (d:cZ) (H:Own w D w [iG M b]) (aL:b.aa.ag.ls.length≤1000∧b.ay.ls.length+b.aa.aj.ls.length≤8∧b.aa.aF.ls.length≤900) (aM:Mk b) (hr:eQ b=d):
    Calls v8 11 #[vP M 0] w (d9 fun v w'=> ∃ l n o p r s e f,v= .agg #[vI d.au,vU d.av,vU d.aV,vU d.aL, .slice l d.ag.ls.length n, .slice o d.aj.ls.length p, .slice r d.aF.ls.length s]∧Own w D w' [row l d.ag.ls.length n (q3 aY.cells d.ag.ls) 89 2,row o d.aj.ls.length p (q3 aC.cells e) 60 5,sepL (q3 aC.own e),row r d.aF.ls.length s (q3 aU.cells f) 56 4,sepL (q3 aU.own f),iG M b]∧(s5 aC.abs e=d.aj.ls)∧(s5 aU.abs f=d.aF.ls)):=by
 refine cb Tryz.func11 ?_
 obtain⟨N,A,O,B,aa,P,C,ae,aN,aP,aQ,aR,aS,aT,aV,aX,bf,bg,bi,bn,bq,bu,bv,bz,bA,bB,t,u,Q,R,S,T,U,V,ay,af⟩:=iZ H
 refine sr ?_
 refine dV [vI 0, .int .u64 0, .int .u64 0, .int .u64 0, .slice none 0 0, .slice none 0 0, .slice none 0 0] 33 af ?_
 intro bC bD g
 refine ns (Mz rfl (Kz (vP M 0) (Kz (vP M 0) (La ([vI b.aa.au,vU b.aa.av,vU b.aa.aV,vU b.aa.aL, .slice N b.aa.ag.ls.length A, .slice O b.aa.aj.ls.length B, .slice P b.aa.aF.ls.length C]) g 1 U1 H4 ?_))))
 obtain⟨a,x⟩:∃ q,gW b.aa=q:=⟨_,rfl⟩
 obtain⟨bE,W,az,X,c⟩:=Ii g
 refine cl Tryz.call20 (nN _ _ b.aa N b.aa.ag.ls.length A O b.aa.aj.ls.length B aa P b.aa.aF.ls.length C ae a W rfl (c _ 2 _ rfl aO) (show b.aa.ag.ls.length≤A∧b.aa.ag.ls.length≤9223372036854775807 from by omega) t rfl (c _ 3 _ rfl aO) (show b.aa.aj.ls.length≤B∧b.aa.aj.ls.length≤9223372036854775807 from by omega) (fun E h=>⟨c _ 4 _ rfl (ax (Q3.2 ⟨E,h,b1⟩) aO),aZ (φ:=fun _=>_) g (i:=4) rfl (ax (Q3.2 ⟨E,h,b1⟩) aW)⟩) u rfl (c _ 5 _ rfl aO) (show b.aa.aF.ls.length≤C∧b.aa.aF.ls.length≤9223372036854775807 from by omega) (fun E h=>⟨c _ 6 _ rfl (ax (Q3.2 ⟨E,h,b1⟩) aO),aZ (φ:=fun _=>_) g (i:=6) rfl (ax (Q3.2 ⟨E,h,b1⟩) aW),(fun y1 k1=>⟨c _ 6 _ rfl (ax (Q3.2 ⟨E,h, .tail _ b1⟩) (ax (Q3.2 ⟨y1,k1,b1⟩) aO)),aZ (φ:=fun _=>_) g (i:=6) rfl (ax (Q3.2 ⟨E,h, .tail _ b1⟩) (ax (Q3.2 ⟨y1,k1,b1⟩) aW))⟩)⟩) e8 (by first | assumption | exact wM f5 | exact fun _ h=>absurd h y6) (by first | assumption | exact wN f5 | exact fun _ h=>absurd h y6) x) ?_
 rintro _ bF ⟨F,G,I,J,K,L,ag,ai,rfl,Y,y,z⟩
 have j:=X _ _ Y
 have aG:=aB y
 have aH:=aB z
 have aI:=j.rowC (i:=0) rfl
 have aJ:=j.rowC (i:=1) rfl
 have aK:=j.rowC (i:=3) rfl
 have aj:=j.pf [5]
 refine dS [vI a.au,vU a.av,vU a.aV,vU a.aL, .slice F a.ag.ls.length G, .slice I a.aj.ls.length J, .slice K a.aF.ls.length L] 0 aj H4 ?_
 intro bG Z
 refine nt (rt (Fin.res (ol rfl rfl (Iy (cs:= [vI a.au,vU a.av,vU a.aV,vU a.aL, .slice F a.ag.ls.length G, .slice I a.aj.ls.length J, .slice K a.aF.ls.length L]) U1 H4 ((Z.cls (i:=0) rfl).lit (k:=0) (m:=7) rfl))) ?_))
 have ak:=Z.pb [0,1,2,3,4,5]
 have au:=fe t u Q R S T U V ak
 have av:=au.px [] [1] [0]
 obtain rfl:_=a:=hr.symm.trans (ah x)
 exact⟨F,G,I,J,K,L,ag,ai,rfl,av,y,z⟩
def iM:List dK→List Nat→(List Nat)
  | [],a=>a
  | b::c,a=>iM c (a++ [b.aR])
def jK (a:aA):(List Nat):=
 bnd (iM a.ay.ls ([])) fun sLrL=>sLrL
set_option maxHeartbeats 4000000 in
theorem uk (w D X) (b:aA) (Z) (H:Own w D w [iG X b]) (bC:b.aa.ag.ls.length≤1000∧b.ay.ls.length+b.aa.aj.ls.length≤8∧b.aa.aF.ls.length≤900) (hr:jK b=Z):
    Calls v8 15 #[vP X 0] w (d9 fun v w'=> ∃ B0 b0,v= .slice B0 Z.length b0∧Own w D w' [row B0 Z.length b0 (q3 (eN .u64) Z) 28 1,iG X b]∧(Z.length≤b.ay.ls.length)):=by
 refine cb Tryz.func15 ?_
 obtain⟨p,r,t,u,x,z,A,B,h,l,n,C,E,F,G,I,J,K,L,M,N,O,P,Q,R,S,aa,af,V,ag,ai,aj,ak,au,bf,av⟩:=iZ H
 refine sr (Ar rfl (An rfl (Ic (sr (Mz rfl (Kz (vP X 0) (Kz (vP X 8) (Lz (.slice h b.ay.ls.length l) av 0 Tryz.isAgg79 (Kz (vJ b.ay.ls.length) (Mn rfl (bo ?_)))))))))))
 have aI:Own w D w [row none 0 0 (q3 (eN .u64) ([])) 28 1,mK X b p b.aa.ag.ls.length r t u z A h l C E G I K L N O Q R,row p b.aa.ag.ls.length r (q3 aY.cells b.aa.ag.ls) 89 2,row t b.aa.aj.ls.length u (q3 aC.cells x) 60 5,sepL (q3 aC.own x),row z b.aa.aF.ls.length A (q3 aU.cells B) 56 4,sepL (q3 aU.own B),row h b.ay.ls.length l (q3 bB.cells n) 107 9,sepL (q3 bB.own n),row C b.bK.af.ls.length E (q3 ae.cells F) 149 3,sepL (q3 ae.own F),row G b.bA.af.ls.length I (q3 ae.cells J) 149 3,sepL (q3 ae.own J),row K b.bz.af.ls.length L (q3 ae.cells M) 149 3,sepL (q3 ae.own M),row N b.bv.af.ls.length O (q3 ae.cells P) 149 3,sepL (q3 ae.own P),row Q b.bq.af.ls.length R (q3 ae.cells S) 149 3,sepL (q3 ae.own S)]:=av.free (eZ 28 1)
 have aJ:=aI.pb [0]
 obtain⟨aK,o⟩:=sQ fun T (U:Nat) f (d:Nat) w'=>Own w D w' [mK X b p b.aa.ag.ls.length r t u z A h l C E G I K L N O Q R,row p b.aa.ag.ls.length r (q3 aY.cells b.aa.ag.ls) 89 2,row t b.aa.aj.ls.length u (q3 aC.cells x) 60 5,sepL (q3 aC.own x),row z b.aa.aF.ls.length A (q3 aU.cells B) 56 4,sepL (q3 aU.own B),row h b.ay.ls.length l (q3 bB.cells n) 107 9,sepL (q3 bB.own n),row C b.bK.af.ls.length E (q3 ae.cells F) 149 3,sepL (q3 ae.own F),row G b.bA.af.ls.length I (q3 ae.cells J) 149 3,sepL (q3 ae.own J),row K b.bz.af.ls.length L (q3 ae.cells M) 149 3,sepL (q3 ae.own M),row N b.bv.af.ls.length O (q3 ae.cells P) 149 3,sepL (q3 ae.own P),row Q b.bq.af.ls.length R (q3 ae.cells S) 149 3,sepL (q3 ae.own S),row T f.length U (q3 (eN .u64) f) 28 1]∧d≤b.ay.ls.length∧f.length=d∧f.length≤d∧iM b.ay.ls ([])=iM (r3 d b.ay.ls) f
 refine C3 (fun i:(Option Addr) × Nat × (List Nat) × Nat=> [(3, .slice i.1 i.2.2.1.length i.2.1),(11,vJ i.2.2.2),(10,vJ b.ay.ls.length),(9, .slice h b.ay.ls.length l),(2, .slice none 0 0)]) aK (fun i=>b.ay.ls.length - i.2.2.2) (none,0, [],0) ⟨rfl,rfl,rfl,rfl,rfl,trivial⟩ (o.2 ⟨aJ,(show 0≤b.ay.ls.length∧0=0∧0≤0∧iM b.ay.ls ([])=iM (r3 0 b.ay.ls) ([]) from ⟨e6,e6,e6,rfl⟩)⟩) ?_
 rintro ⟨T,U,f,d⟩ bD ay
 obtain⟨j,bg,bi,bn,W⟩:=o.1 ay
 refine sr (Kz (.bool (decide (((d:Nat):Int) < ((b.ay.ls.length:Nat):Int)))) (nt (Ic ?_)))
 by_cases az:((d:Nat):Int) < ((b.ay.ls.length:Nat):Int)
 obtain⟨a,g⟩:=dN (ls:=n) (i:=d) bB.len f4 (j.rds (i:=6) rfl) e9
 have aB:=fF V g
 have bq:a.bV.ls.length≤a.bV.c∧a.bV.ls.length≤9223372036854775807:=aZ j (i:=7) rfl (φ:=fun _=>_) (ax (Q3.2 ⟨a,D3 g,b1⟩) aW)
 have bu:a.aG.ls.length≤a.aG.c∧a.aG.ls.length≤9223372036854775807:=aZ j (i:=7) rfl (φ:=fun _=>_) (ax (Q3.2 ⟨a,D3 g, .tail _ b1⟩) aW)
 have bv:a.bD.ls.length≤a.bD.c∧a.bD.ls.length≤9223372036854775807:=aZ j (i:=7) rfl (φ:=fun _=>_) (ax (Q3.2 ⟨a,D3 g, .tail _ b2⟩) aW)
 have bz:a.af.ls.length≤a.af.c∧a.af.ls.length≤9223372036854775807:=aZ j (i:=7) rfl (φ:=fun _=>_) (ax (Q3.2 ⟨a,D3 g, .tail _ b3⟩) aW)
 have aD:=drop_at aB
 refine jT (dT az) (sk (Ic (bo (sr (fw (.pointer (some ⟨ab h,ao h+d *9,none⟩)) (Ij (qh) rfl rfl ((j.rds (i:=6) rfl).addr (i:=d) e6) e6) (fw (.agg (bB.cells a).toArray) (Io rfl (Iy (cs:=(bB.cells a)) Tryz.isAgg107 Tryz.sizeOf107 ((j.rds (i:=6) rfl).elem bB.len g f4))) ?_))))))
 refine dV (rJ 0 0 0 0 none 0 0 none 0 0 none 0 0 none 0 0 0) 107 j ?_
 intro aL bE aM
 refine dS (bB.cells a) 0 aM Tryz.sizeOf107 ?_
 intro bF aF
 refine nt (Ib (Mz rfl (Kz (vP aL 0) (Lz (vU a.aR) aF 0 D4 ?_))))
 refine lg [vU a.aR] 28 1 1 aF ?_
 intro aN bG Y
 replace Y:=IL (y:=row aN 1 1 (q3 (eN .u64) ([a.aR])) 28 1) rfl Y
 have aG:=Y.pf [20]
 refine WL.do rfl (IM (k:=f.length) (m:=1) (uY) aG rfl rfl (jv Tryz.underlying61 (aG.rds (i:=1) rfl) (fU Fx ([a.aR]))) rfl e6 (s:=List.length (f++ [a.aR])) f7 (List.flatMap_append).symm ?_)
 intro aO aP bH aQ
 have bA:List.length (f++ [a.aR])=f.length+1:=by simp only [List.length_append,List.length_cons,List.length_nil]
 refine Az rfl (C6 (bN (Ig (Ib (fw (vJ (d+1)) (Ie (e:=C5.wrap (((d:Nat):Int)+1)) yk f0) (Mz rfl (C6 ?_)))))))
 have aR:=aQ.px [] [1,2] [0]
 exact Ir (aO,aP,(f++ [a.aR]),d+1) ⟨rfl,rfl,rfl,rfl,rfl,trivial⟩ (o.2 ⟨aR,e6,e6,e6,et (W) (et (congrArg (fun q=>iM q f) aD) rfl)⟩) (by show b.ay.ls.length - (d+1) < b.ay.ls.length - d; omega)
 refine jF (dF az) (C7 (Il ?_))
 have aH:iM b.ay.ls ([])=f:=et (W) (et (congrArg (fun q=>iM q f) (fB (ls:=b.ay.ls) (i:=d) e6)) rfl)
 refine Il (IB (Ig (sr (Mz rfl (An rfl (rt (rs ?_)))))))
 have aS:=fe aa af V ag ai aj ak au j
 have aT:=aS.pb [0]
 obtain rfl:_=f:=hr.symm.trans (ah aH)
 exact⟨T,U,rfl,aT,i1⟩
def fV (g:aA) (f:List UInt8):List Nat→List bL→aA→(List bL) × aA
  | [],a,b=>(a,b)
  | d::e,a,b=>bnd (jJ (bI.mk (E2 a)) d b) fun c=>fV g f e c.1.aX.ls c.2
def jB (g:aA) (f:List UInt8) (d:aA):List bH→List bL→(List bL)
  | [],a=>a
  | b::e,a=>bnd (dZ (bI.mk (E2 a)) b.aN b.au.ls true) fun c=>jB g f d e c.aX.ls
def fK (e:List UInt8) (a:aA):Nat→Nat→List bL→(List bL)
  | 0,b,c=>default
  | d+1,b,c=>if((b:Nat):Int)≤a.aa.au then if((b:Nat):Int)=1 then if((a.dH:Nat):Int) ≥ ((a.aa.aV:Nat):Int) then fK e a d (b+1) c else bnd (dw (bI.mk (E2 c)) (bL.mk 8 0 ((b:Nat):Int) 0 0 0 0 0 0 0 a.aa.aV a.aa.aL 0 0 0 false (bC.mk ([]) ([])) (E2 ([])) (E2 ([])) (E2 a.aa.ag.ls))) fun f=>fK e a d (b+1) f.aX.ls else if((b:Nat):Int)=2 then if((a.dI:Nat):Int) ≥ ((a.aa.aV:Nat):Int) then fK e a d (b+1) c else bnd (dw (bI.mk (E2 c)) (bL.mk 8 0 ((b:Nat):Int) 0 0 0 0 0 0 0 a.aa.aV a.aa.aL 0 0 0 false (bC.mk ([]) ([])) (E2 ([])) (E2 ([])) (E2 a.aa.ag.ls))) fun g=>fK e a d (b+1) g.aX.ls else if((b:Nat):Int)=3 then if((a.dG:Nat):Int) ≥ ((a.aa.aV:Nat):Int) then fK e a d (b+1) c else bnd (dw (bI.mk (E2 c)) (bL.mk 8 0 ((b:Nat):Int) 0 0 0 0 0 0 0 a.aa.aV a.aa.aL 0 0 0 false (bC.mk ([]) ([])) (E2 ([])) (E2 ([])) (E2 a.aa.ag.ls))) fun h=>fK e a d (b+1) h.aX.ls else if((a.dJ:Nat):Int) ≥ ((a.aa.aV:Nat):Int) then fK e a d (b+1) c else bnd (dw (bI.mk (E2 c)) (bL.mk 8 0 ((b:Nat):Int) 0 0 0 0 0 0 0 a.aa.aV a.aa.aL 0 0 0 false (bC.mk ([]) ([])) (E2 ([])) (E2 ([])) (E2 a.aa.ag.ls))) fun i=>fK e a d (b+1) i.aX.ls else c
def jk (d:aA):kC × aA:=
 bnd (fA d.aa) fun a=>bnd (jK d) fun e=>bnd (fV d a.1 e ([]) d) fun sLrbbL=>bnd (jB d a.1 sLrbbL.2 sLrbbL.2.aa.aj.ls sLrbbL.1) fun sLrbbLaL=>bnd (fK a.1 sLrbbL.2 ((D0 (d.aa.au+1 - 1))+1) 1 sLrbbLaL) fun sLrbbLaLaL=>bnd (fA sLrbbL.2.aa) fun b=>bnd (bytes_Equal a.1 b.1) fun c=>(kC.mk (E2 sLrbbLaLaL) (!c),sLrbbL.2)
set_option maxHeartbeats 4000000 in
theorem uR (w D f) (j:aA) (r0:kC) (r1:aA) (H:Own w D w [iG f j]) (pK:j.aa.ag.ls.length≤1000∧j.ay.ls.length+j.aa.aj.ls.length≤8∧j.aa.aF.ls.length≤900∧j.aa.au≤4) (pM:Mk j) (hr:jk j=(r0,r1)):
    Calls v8 14 #[vP f 0] w (d9 fun v w'=> ∃ dI dJ bg,v= .agg #[.slice dI r0.fo.ls.length dJ, .bool r0.jl]∧Own w D w' [row dI r0.fo.ls.length dJ (q3 bf.cells bg) 42 21,sepL (q3 bf.own bg),iG f r1]∧(s5 bf.abs bg=r0.fo.ls)∧(r1.aa.ag.ls.length=j.aa.ag.ls.length∧r1.aa.au=j.aa.au∧r1.ay.ls.length+r1.aa.aj.ls.length≤8∧r1.aa.aF.ls.length≤j.aa.aF.ls.length+0)∧(Mk r1)):=by
 refine cb Tryz.func14 ?_
 refine sr ?_
 refine dV [.slice none 0 0, .bool false] 47 H ?_
 intro gB pO lY
 refine ns (Mz rfl ?_)
 refine WL.do rfl (Iz T6 rfl ?_ (fun _ _ k=>k))
 refine cb U0 ?_
 refine sr ?_
 refine dV [.slice none 0 0, .bool false] 47 lY ?_
 intro gD pQ lZ
 refine nt (Ic ?_)
 have l5:=lZ.pf [2]
 obtain⟨je,gF,jf,gG,l6,jg,gH,l7,pR,pV,pW,pX,pY,p8,p9,qb,qc,qf,qg,qh,qi,qj,qm,qo,qx,qy,dK,dL,jh,ji,jl,jm,jo,jq,nN,bi⟩:=iZ l5
 refine Ib (Mz rfl (Kz (vP f 0) (Kz (vP f 0) (La ([vI j.aa.au,vU j.aa.av,vU j.aa.aV,vU j.aa.aL, .slice je j.aa.ag.ls.length gF, .slice jf j.aa.aj.ls.length gG, .slice jg j.aa.aF.ls.length gH]) bi 0 U1 H4 ?_))))
 obtain⟨⟨n,jr⟩,dO⟩:∃ q:(List UInt8) × Int,fA j.aa=q:=⟨_,rfl⟩
 obtain⟨qz,jv,nO,jw,aa⟩:=Ii bi
 refine cl U2 (kJ _ _ j.aa je j.aa.ag.ls.length gF jf j.aa.aj.ls.length gG l6 jg j.aa.aF.ls.length gH l7 n jr jv rfl (aa _ 1 _ rfl aO) (show j.aa.ag.ls.length≤gF∧j.aa.ag.ls.length≤9223372036854775807 from by omega) dK rfl (aa _ 2 _ rfl aO) (show j.aa.aj.ls.length≤gG∧j.aa.aj.ls.length≤9223372036854775807 from by omega) (fun x9 Y=>⟨aa _ 3 _ rfl (ax (Q3.2 ⟨x9,Y,b1⟩) aO),aZ (φ:=fun _=>_) bi (i:=3) rfl (ax (Q3.2 ⟨x9,Y,b1⟩) aW)⟩) dL rfl (aa _ 4 _ rfl aO) (show j.aa.aF.ls.length≤gH∧j.aa.aF.ls.length≤9223372036854775807 from by omega) (fun x9 Y=>⟨aa _ 5 _ rfl (ax (Q3.2 ⟨x9,Y,b1⟩) aO),aZ (φ:=fun _=>_) bi (i:=5) rfl (ax (Q3.2 ⟨x9,Y,b1⟩) aW),(fun y1 k1=>⟨aa _ 5 _ rfl (ax (Q3.2 ⟨x9,Y, .tail _ b1⟩) (ax (Q3.2 ⟨y1,k1,b1⟩) aO)),aZ (φ:=fun _=>_) bi (i:=5) rfl (ax (Q3.2 ⟨x9,Y, .tail _ b1⟩) (ax (Q3.2 ⟨y1,k1,b1⟩) aW))⟩)⟩) e8 i4 dO) ?_
 rintro _ qA ⟨bn,bq,rfl,jC,dP⟩
 have jD:=jw _ _ jC
 have nP:=jD.rowC (i:=0) rfl
 replace dP:n.length≤100000:=dP
 refine Mz rfl (Kz (.slice bn n.length bq) (Kz (vI jr) (Az rfl (Ar rfl (Mz rfl (Kz (.agg #[vP f 0, .slice none 0 0]) ?_))))))
 refine dV [vP f 0, .slice none 0 0] 98 jD ?_
 intro d qB jE
 refine Ar rfl (Mz rfl (Mz rfl ?_))
 refine WL.do rfl (IK Tryz.call25 rfl rfl ?_ (fun _ _ k=>k))
 refine cb Tryz.func25 ?_
 refine Ic (sr (Mz rfl (Kz (vP d 0) (Kz (vP d 0) (Lz (vP f 0) jE 0 P3 ?_)))))
 have l8:=jE.pb [0,1,20,21]
 have l9:=fe dK dL jh ji jl jm jo jq l8
 obtain⟨u,dQ⟩:∃ q,jK j=q:=⟨_,rfl⟩
 obtain⟨qC,jG,nQ,jH,nR⟩:=II l9
 refine cl Tryz.call15 (uk _ _ f j u jG e8 dQ) ?_
 rintro _ jI ⟨bu,gI,rfl,jL,dR⟩
 have jM:=jH _ _ jL
 have nS:=jM.rowC (i:=0) rfl
 replace dR:u.length≤j.ay.ls.length:=dR
 refine Kz (vJ u.length) (Mn rfl (bo ?_))
 have ma:Own w D jI (sepL (q3 bf.own ([]))::_):=jM.sepNil
 have mf:Own w D jI (row none 0 0 (q3 bf.cells ([])) 42 21::_):=ma.free (eZ 42 21)
 have jN:=mf.pb [0,1]
 obtain⟨jO,aJ⟩:=GL fun (s:Nat) av (ay:Nat) af y (a:aA) w'=>Own w D w' [row bu u.length gI (q3 (eN .u64) u) 28 1,iG f a,blk d [vP f 0, .slice av y.length ay] 98,row bn n.length bq (q3 eB n) 5 1,blk gD [.slice none 0 0, .bool false] 47,blk gB [.slice none 0 0, .bool false] 47,row av y.length ay (q3 bf.cells af) 42 21,sepL (q3 bf.own af)]∧s5 bf.abs af=y∧s≤u.length∧y.length≤6 *s∧(a.aa.ag.ls.length=j.aa.ag.ls.length∧a.aa.au=j.aa.au∧a.ay.ls.length+a.aa.aj.ls.length≤8∧a.aa.aF.ls.length≤j.aa.aF.ls.length)∧Mk a∧fV j n u ([]) j=fV j n (r3 s u) y a
 refine C3 (fun i:Nat × (Option Addr) × Nat × (List bf) × (List bL) × aA=> [(13,vJ i.1),(12,vJ u.length),(11, .slice bu u.length gI),(0,vP d 0)]) jO (fun i=>u.length - i.1) (0,none,0, [], [],j) ⟨rfl,rfl,rfl,rfl,trivial⟩ (aJ.2 ⟨jN,(show s5 bf.abs ([])=([])∧0≤u.length∧0≤6 *0∧(j.aa.ag.ls.length=j.aa.ag.ls.length∧j.aa.au=j.aa.au∧j.ay.ls.length+j.aa.aj.ls.length≤8∧j.aa.aF.ls.length≤j.aa.aF.ls.length)∧Mk j∧fV j n u ([]) j=fV j n (r3 0 u) ([]) j from ⟨by exact rfl,e6,e6,e6,f5,rfl⟩)⟩) ?_
 rintro ⟨s,av,ay,af,y,a⟩ nT gJ
 obtain⟨az,aK,mg,mh,mi,mo,bv⟩:=aJ.1 gJ
 have mq:=aB aK
 refine sr (Kz (.bool (decide (((s:Nat):Int) < ((u.length:Nat):Int)))) (nt (Ic ?_)))
 by_cases dU:((s:Nat):Int) < ((u.length:Nat):Int)
 obtain⟨bz,bA⟩:=dN (ls:=u) (i:=s) qw f4 (az.rds (i:=0) rfl) e9
 have gK:=drop_at bA
 refine jT (dT dU) (sk (Ic (bo (sr (fw (.pointer (some ⟨ab bu,ao bu+s *1,none⟩)) (Ij (uY) rfl rfl ((az.rds (i:=0) rfl).addr (i:=s) e6) e6) (fw (vU bz) (Io rfl (bZ.one D4 (((az.rds (i:=0) rfl).elem qw bA f4).at_ (k:=0) rfl))) (An rfl (Ib (Mz rfl (Mz rfl ?_))))))))))
 have jP:=az.pf [2,6,7,1]
 obtain⟨⟨bD,U⟩,aL⟩:∃ q:bI × aA,jJ (bI.mk (E2 y)) bz a=q:=⟨_,rfl⟩
 obtain⟨nU,gL,mr,gM,mD⟩:=I5 jP
 refine cl Tryz.call26 (wL _ _ d (bI.mk (E2 y)) av ay af bz f a bD U gL aK e8 f8 aL) ?_
 rintro _ nV ⟨jQ,jR,jS,rfl,gN,bF⟩
 have dW:=gM _ _ gN
 have mE:=aB bF
 have mF:=dW.rowC (i:=1) rfl
 have aM:=uq aL
 have mG:Mk U:=aM.2.2.1 f5
 have mH:U.aa.ag.ls.length=a.aa.ag.ls.length∧U.aa.au=a.aa.au∧U.ay.ls.length+U.aa.aj.ls.length≤8∧U.aa.aF.ls.length≤a.aa.aF.ls.length+0:=JQ aM.2.1 e6
 have mI:bD.aX.ls.length≤y.length+6:=aM.2.2.2 f5
 refine C6 (bN (Ig (Ib (fw (vJ (s+1)) (Ie (e:=C5.wrap (((s:Nat):Int)+1)) yk f0) (Mz rfl (C6 ?_))))))
 have jU:=dW.px [4,3] [] [1,2]
 exact Ir (s+1,jQ,jR,jS,bD.aX.ls,U) ⟨rfl,rfl,rfl,rfl,trivial⟩ (aJ.2 ⟨jU,by exact bF,e6,e6,e6,f5,et (bv) (et (congrArg (fun q=>fV j n q y a) gK) (ah aL))⟩) (by show u.length - (s+1) < u.length - s; omega)
 refine jF (dF dU) (C7 (Il ?_))
 have gP:fV j n u ([]) j=(y,a):=et (bv) (et (congrArg (fun q=>fV j n q y a) (fB (ls:=u) (i:=s) e6)) rfl)
 refine Il (IB (Ig (Ic (Ic ?_))))
 have jV:=az.px [] [0] []
 obtain⟨dX,dY,Z,aD,bG,ed,ek,eu,eD,eF,eG,eH,eO,eP,eQ,eT,eU,eX,eY,fo,fq,fu,fC,fD,fE,fG,bH,gQ,gT,gV,gW,gX,gY,gZ,mJ,bJ⟩:=iZ jV
 refine Ib (Mz rfl (Kz (vP d 0) (Kz (vP d 0) (Lz (vP f 0) bJ 18 P3 (Kz (vP f 0) (Kz (vP f 0) (Kz (vP f 5) (Lz (.slice Z a.aa.aj.ls.length aD) bJ 0 Tryz.isAgg30 (Kz (vJ a.aa.aj.ls.length) (Mn rfl (bo ?_)))))))))))
 have jW:=bJ.pf []
 obtain⟨jX,aN⟩:=Au fun (t:Nat) aF (aG:Nat) ag z w'=>Own w D w' [mK f a dX a.aa.ag.ls.length dY Z aD ed ek eD eF eH eO eQ eT eX eY fq fu fD fE,row dX a.aa.ag.ls.length dY (q3 aY.cells a.aa.ag.ls) 89 2,row Z a.aa.aj.ls.length aD (q3 aC.cells bG) 60 5,sepL (q3 aC.own bG),row ed a.aa.aF.ls.length ek (q3 aU.cells eu) 56 4,sepL (q3 aU.own eu),row eD a.ay.ls.length eF (q3 bB.cells eG) 107 9,sepL (q3 bB.own eG),row eH a.bK.af.ls.length eO (q3 ae.cells eP) 149 3,sepL (q3 ae.own eP),row eQ a.bA.af.ls.length eT (q3 ae.cells eU) 149 3,sepL (q3 ae.own eU),row eX a.bz.af.ls.length eY (q3 ae.cells fo) 149 3,sepL (q3 ae.own fo),row fq a.bv.af.ls.length fu (q3 ae.cells fC) 149 3,sepL (q3 ae.own fC),row fD a.bq.af.ls.length fE (q3 ae.cells fG) 149 3,sepL (q3 ae.own fG),blk d [vP f 0, .slice aF z.length aG] 98,row bn n.length bq (q3 eB n) 5 1,blk gD [.slice none 0 0, .bool false] 47,blk gB [.slice none 0 0, .bool false] 47,row aF z.length aG (q3 bf.cells ag) 42 21,sepL (q3 bf.own ag)]∧s5 bf.abs ag=z∧t≤a.aa.aj.ls.length∧z.length≤100+1000 *t∧jB j n a a.aa.aj.ls y=jB j n a (r3 t a.aa.aj.ls) z
 refine C3 (fun i:Nat × (Option Addr) × Nat × (List bf) × (List bL)=> [(30,vJ i.1),(29,vJ a.aa.aj.ls.length),(28, .slice Z a.aa.aj.ls.length aD),(0,vP d 0)]) jX (fun i=>a.aa.aj.ls.length - i.1) (0,av,ay,af,y) ⟨rfl,rfl,rfl,rfl,trivial⟩ (aN.2 ⟨jW,by exact aK,e6,e6,rfl⟩) ?_
 rintro ⟨t,aF,aG,ag,z⟩ nW ib
 obtain⟨ai,aP,mM,mO,bK⟩:=aN.1 ib
 have mP:=aB aP
 refine sr (Kz (.bool (decide (((t:Nat):Int) < ((a.aa.aj.ls.length:Nat):Int)))) (nt (Ic ?_)))
 by_cases fH:((t:Nat):Int) < ((a.aa.aj.ls.length:Nat):Int)
 obtain⟨l,au⟩:=dN (ls:=bG) (i:=t) aC.len f4 (ai.rds (i:=2) rfl) e9
 have bM:=fF bH au
 have mQ:l.au.ls.length≤l.au.c∧l.au.ls.length≤9223372036854775807:=aZ ai (i:=3) rfl (φ:=fun _=>_) (ax (Q3.2 ⟨l,D3 au,b1⟩) aW)
 have mR:l.au.ls.length≤1000:=ED (Mk.dec f5) bM
 have ig:=drop_at bM
 refine jT (dT fH) (sk (Ic (bo (sr (fw (.pointer (some ⟨ab Z,ao Z+t *5,none⟩)) (Ij (kW) rfl rfl ((ai.rds (i:=2) rfl).addr (i:=t) e6) e6) (fw (.agg (aC.cells l).toArray) (Io rfl (Iy (cs:=(aC.cells l)) Tryz.isAgg60 Tryz.sizeOf60 ((ai.rds (i:=2) rfl).elem aC.len au f4))) ?_))))))
 refine dV [.int .u64 0,vI 0, .int .u64 0, .int .u64 0, .slice none 0 0] 60 ai ?_
 intro fI nX jY
 refine dS (aC.cells l) 0 jY Tryz.sizeOf60 ?_
 intro nY bO
 refine nt (Ib (Mz rfl (Kz (vP fI 0) (Lz (vU l.aN) bO 0 D4 (Kz (vP fI 4) (Lz (.slice l.au.A l.au.ls.length l.au.c) bO 0 Tryz.isAgg58 ?_))))))
 have jZ:=bO.pf [19,23,24]
 obtain⟨bP,aQ⟩:∃ q,dZ (bI.mk (E2 z)) l.aN l.au.ls true=q:=⟨_,rfl⟩
 obtain⟨nZ,ik,mU,il,iq⟩:=IU jZ
 refine cl Tryz.call27 (kV _ _ d (bI.mk (E2 z)) aF aG ag f l.aN l.au.A l.au.ls.length l.au.c l.au.ls true bP ik aP (iq _ 4 _ rfl (ax (Q3.2 ⟨l,D3 au,b1⟩) aO)) rfl e6 g7 aQ) ?_
 rintro _ og ⟨j3,j4,j5,rfl,iw,bQ⟩
 have fJ:=il _ _ iw
 have mV:=aB bQ
 have mW:=fJ.rowC (i:=1) rfl
 have mX:bP.aX.ls.length=z.length+l.au.ls.length:=yB aQ
 refine C6 (bN (Ig (Ib (fw (vJ (t+1)) (Ie (e:=C5.wrap (((t:Nat):Int)+1)) yk f0) (Mz rfl (C6 ?_))))))
 have j6:=fJ.px [] [3] [0,22,23,24,1,2]
 exact Ir (t+1,j3,j4,j5,bP.aX.ls) ⟨rfl,rfl,rfl,rfl,trivial⟩ (aN.2 ⟨j6,by exact bQ,e6,e6,et (bK) (et (congrArg (fun q=>jB j n a q z) ig) (ah aQ))⟩) (by show a.aa.aj.ls.length - (t+1) < a.aa.aj.ls.length - t; omega)
 refine jF (dF fH) (C7 (Il ?_))
 have iy:jB j n a a.aa.aj.ls y=z:=et (bK) (et (congrArg (fun q=>jB j n a q z) (fB (ls:=a.aa.aj.ls) (i:=t) e6)) rfl)
 refine Il (IB (Ig (Ic (sr (An rfl ?_)))))
 have kg:=fe bH gQ gT gV gW gX gY gZ ai
 refine bo ?_
 have ko:=kg.pf []
 obtain⟨kr,C⟩:=GL fun (b:Nat) p (r:Nat) I g (aH:Nat) w'=>Own w D w' [iG f a,blk d [vP f 0, .slice p g.length r] 98,row bn n.length bq (q3 eB n) 5 1,blk gD [.slice none 0 0, .bool false] 47,blk gB [.slice none 0 0, .bool false] 47,row p g.length r (q3 bf.cells I) 42 21,sepL (q3 bf.own I)]∧s5 bf.abs I=g∧(1≤b∧((g.length:Nat):Int)≤9000+b)∧D0 (j.aa.au+1 - b) < aH∧fK n a ((D0 (j.aa.au+1 - 1))+1) 1 z=fK n a aH b g
 refine C3 (fun i:Nat × (Option Addr) × Nat × (List bf) × (List bL) × Nat=> [(6,vJ i.1),(0,vP d 0)]) kr (fun i=>i.2.2.2.2.2) (1,aF,aG,ag,z,(D0 (j.aa.au+1 - 1))+1) ⟨rfl,rfl,trivial⟩ (C.2 ⟨ko,by exact aP,e6,e6,rfl⟩) ?_
 rintro ⟨b,p,r,I,g,aH⟩ oh iA
 obtain⟨ku,E,mY,mZ,J⟩:=C.1 iA
 have ng:=aB E
 obtain⟨h,iB⟩:∃ q,aH=q+1:=⟨aH - 1,e6⟩
 subst iB
 refine Ic (Ic ?_)
 obtain⟨S,B,fM,bR,kv,fO,bS,kw,om,oo,oq,ou,ow,oz,oC,oD,oF,oG,oH,oI,oJ,oK,oL,oM,oN,oO,F,G,K,L,M,N,O,P,ni,Q⟩:=iZ ku
 refine Ib (Mz rfl (Mz rfl (Kz (vP d 0) (Kz (vP d 0) (Lz (vP f 0) Q 18 P3 (Kz (vP f 0) (Kz (vP f 0) (Kz (vP f 0) (Lz (vI a.aa.au) Q 0 C4 (Kz (.bool (decide (((b:Nat):Int)≤a.aa.au))) (nt ?_)))))))))))
 by_cases R:((b:Nat):Int)≤a.aa.au
 refine jT (dT R) (sk (Ic (bo (sr (Mz rfl (Kz (vP d 0) (Kz (vP d 0) (Lz (vP f 0) Q 18 P3 (Mz rfl ?_)))))))))
 refine WL.do rfl (Iz Tryz.call28 rfl ?_ (fun _ _ k=>k))
 refine cb Tryz.func28 ?_
 refine sr (An rfl (Ic ?_))
 refine pU 24 [] (Iu IC) Q ?_
 intro oP V
 refine qv 0 rfl rfl (qv 1 rfl rfl (qp f 0 2 rfl (qp f 29 3 rfl ?_)))
 by_cases W:((b:Nat):Int)=1
 refine qt (v:=vP f 30) 4 rfl (fun _ _=>by(try unfold vJ); rw [show ((b:Nat):Int)=1 from by omega]; exact yk) (ql 5 rfl 0 D4 rfl rfl rfl (qv 6 rfl rfl (qp f 0 7 rfl (qp f 0 8 rfl (qp f 2 9 rfl (ql 10 rfl 0 D4 rfl rfl rfl (qk (.bool (decide (((a.dH:Nat):Int) ≥ ((a.aa.aV:Nat):Int)))) 11 rfl (qa 12 rfl rfl (qn (Ig (rt (rs (fw (.bool (decide (¬ (((a.dH:Nat):Int) ≥ ((a.aa.aV:Nat):Int))))) (IG (e:= !(decide (((a.dH:Nat):Int) ≥ ((a.aa.aV:Nat):Int)))) yk decide_not.symm) (nt ?_))))))))))))))
 by_cases aR:((a.dH:Nat):Int) ≥ ((a.aa.aV:Nat):Int)
 refine jF (dF (Lh aR)) (IE (bN (Ig (Ib (Mz rfl (fw (vJ (b+1)) (Ie (e:=C5.wrap (((b:Nat):Int)+1)) yk f0) (Az rfl (C6 ?_))))))))
 have ky:=fe F G K L M N O P V
 have kz:=ky.pf []
 exact Ir (b+1,p,r,I,g,h) ⟨rfl,rfl,trivial⟩ (C.2 ⟨kz,by exact E,e6,e6,et (J) (et (ip R) (et (ip W) (ip aR)))⟩) (by show h < h+1; omega)
 refine jT (dT aR) (Ib (Mz rfl (Mz rfl ?_)))
 refine WL.do rfl (Iz U5 rfl ?_ (fun _ _ k=>k))
 refine cb U6 ?_
 have kD:=V.pf [0,18,20,21]
 refine vX [32] IC kD ?_
 intro oQ bT
 refine qv 0 rfl rfl (qv 1 rfl rfl (qv 2 rfl rfl (qp d 0 3 rfl (qp d 0 4 rfl (ql 5 rfl 1 P3 rfl rfl rfl (qp f 0 6 rfl (qp f 0 7 rfl (qp f 2 8 rfl (ql 9 rfl 0 D4 rfl rfl rfl (qv 10 rfl rfl (qp d 0 11 rfl (qp d 0 12 rfl (ql 13 rfl 1 P3 rfl rfl rfl (qp f 0 14 rfl (qp f 0 15 rfl (qp f 3 16 rfl (ql 17 rfl 0 D4 rfl rfl rfl (qv 18 rfl rfl (qp d 0 19 rfl (qp d 0 20 rfl (ql 21 rfl 1 P3 rfl rfl rfl (qv 23 rfl rfl (qp d 0 24 rfl (qp d 0 25 rfl (ql 26 rfl 1 P3 rfl rfl rfl (qp f 0 27 rfl (qp f 0 28 rfl (qp f 4 29 rfl (ql 30 rfl 0 U7 rfl rfl rfl ?_)))))))))))))))))))))))))))))
 refine GX.do 22 rfl e7 (Iz U8 rfl ?_ (fun _ _ k=>k))
 refine cb U9 ?_
 refine sr (An rfl (Ic (sr (Mz rfl (Kz (vP f 0) (Kz (vP f 34) (Lz (.pointer none) bT 0 V0 (Kz (.bool true) (nt (jt (sr (An rfl (rt (tR (rs ?_)))))))))))))))
 refine⟨.inr ⟨_,bT⟩, ?_⟩
 refine qk (.agg (gU 8 0 ((b:Nat):Int) 0 0 0 0 0 0 0 a.aa.aV a.aa.aL 0 0 0 false ([]) ([]) none 0 0 none 0 0 S a.aa.ag.ls.length B).toArray) 31 rfl ?_
 have kE:=bT.pf [1,22,23]
 obtain⟨bU,bV⟩:∃ q,dw (bI.mk (E2 g)) (bL.mk 8 0 ((b:Nat):Int) 0 0 0 0 0 0 0 a.aa.aV a.aa.aL 0 0 0 false (bC.mk ([]) ([])) (E2 ([])) (E2 ([])) (E2 a.aa.ag.ls))=q:=⟨_,rfl⟩
 obtain⟨oU,iC,nk,iD,iE⟩:=IU kE
 refine qd 32 rfl (Iz P6 rfl (gp _ _ d (bI.mk (E2 g)) p r I f (bL.mk 8 0 ((b:Nat):Int) 0 0 0 0 0 0 0 a.aa.aV a.aa.aL 0 0 0 false (bC.mk ([]) ([])) (E2 ([])) (E2 ([])) (E2 a.aa.ag.ls)) none 0 0 none 0 0 [] S a.aa.ag.ls.length B bU iC E rfl (fun _ _=>bE.nil _ _ _) f2 rfl rfl (fun _ _=>bE.nil _ _ _) f2 (fun _ Y=>absurd Y y6) rfl (iE _ 3 _ rfl aO) (show a.aa.ag.ls.length≤B∧a.aa.ag.ls.length≤9223372036854775807 from by omega) e8 (by first | assumption | exact dM f5 | exact fun x hx=>absurd hx y6 | exact dM (Mk.mU f5).1 | exact dM (Mk.lT f5).1 | exact dM (Mk.nu f5).1 | exact dM (Mk.ny f5).1 | exact dM (Mk.nz f5).1) bV) ?_)
 rintro _ oV ⟨kF,kG,kH,rfl,iF,bW,bX⟩
 have fP:=iD _ _ iF
 have nu:=aB bW
 have ny:=fP.rowC (i:=1) rfl
 replace bX:bU.aX.ls.length=g.length+1:=bX
 refine⟨.inl e7, ?_⟩
 refine qn (IA (res0 rfl) (C6 (bN (Ig (Ib (Mz rfl (fw (vJ (b+1)) (Ie (e:=C5.wrap (((b:Nat):Int)+1)) yk f0) (Az rfl (C6 ?_)))))))))
 have kI:=fP.pb [0,1,2,4,5,23]
 have kK:=fe F G K L M N O P kI
 have kL:=kK.pb [4,5,2,3]
 exact Ir (b+1,kF,kG,kH,bU.aX.ls,h) ⟨rfl,rfl,trivial⟩ (C.2 ⟨kL,by exact bW,e6,e6,et (J) (et (ip R) (et (ip W) (et (iN aR) (ah bV))))⟩) (by show h < h+1; omega)
 by_cases aj:((b:Nat):Int)=2
 refine qt (v:=vP f 31) 4 rfl (fun _ _=>by(try unfold vJ); rw [show ((b:Nat):Int)=2 from by omega]; exact yk) (ql 5 rfl 0 D4 rfl rfl rfl (qv 6 rfl rfl (qp f 0 7 rfl (qp f 0 8 rfl (qp f 2 9 rfl (ql 10 rfl 0 D4 rfl rfl rfl (qk (.bool (decide (((a.dI:Nat):Int) ≥ ((a.aa.aV:Nat):Int)))) 11 rfl (qa 12 rfl rfl (qn (Ig (rt (rs (fw (.bool (decide (¬ (((a.dI:Nat):Int) ≥ ((a.aa.aV:Nat):Int))))) (IG (e:= !(decide (((a.dI:Nat):Int) ≥ ((a.aa.aV:Nat):Int)))) yk decide_not.symm) (nt ?_))))))))))))))
 by_cases aS:((a.dI:Nat):Int) ≥ ((a.aa.aV:Nat):Int)
 refine jF (dF (Lh aS)) (IE (bN (Ig (Ib (Mz rfl (fw (vJ (b+1)) (Ie (e:=C5.wrap (((b:Nat):Int)+1)) yk f0) (Az rfl (C6 ?_))))))))
 have kM:=fe F G K L M N O P V
 have kN:=kM.pf []
 exact Ir (b+1,p,r,I,g,h) ⟨rfl,rfl,trivial⟩ (C.2 ⟨kN,by exact E,e6,e6,et (J) (et (ip R) (et (iN W) (et (ip aj) (ip aS))))⟩) (by show h < h+1; omega)
 refine jT (dT aS) (Ib (Mz rfl (Mz rfl ?_)))
 refine WL.do rfl (Iz U5 rfl ?_ (fun _ _ k=>k))
 refine cb U6 ?_
 have kP:=V.pf [0,18,20,21]
 refine vX [32] IC kP ?_
 intro oW bY
 refine qv 0 rfl rfl (qv 1 rfl rfl (qv 2 rfl rfl (qp d 0 3 rfl (qp d 0 4 rfl (ql 5 rfl 1 P3 rfl rfl rfl (qp f 0 6 rfl (qp f 0 7 rfl (qp f 2 8 rfl (ql 9 rfl 0 D4 rfl rfl rfl (qv 10 rfl rfl (qp d 0 11 rfl (qp d 0 12 rfl (ql 13 rfl 1 P3 rfl rfl rfl (qp f 0 14 rfl (qp f 0 15 rfl (qp f 3 16 rfl (ql 17 rfl 0 D4 rfl rfl rfl (qv 18 rfl rfl (qp d 0 19 rfl (qp d 0 20 rfl (ql 21 rfl 1 P3 rfl rfl rfl (qv 23 rfl rfl (qp d 0 24 rfl (qp d 0 25 rfl (ql 26 rfl 1 P3 rfl rfl rfl (qp f 0 27 rfl (qp f 0 28 rfl (qp f 4 29 rfl (ql 30 rfl 0 U7 rfl rfl rfl ?_)))))))))))))))))))))))))))))
 refine GX.do 22 rfl e7 (Iz U8 rfl ?_ (fun _ _ k=>k))
 refine cb U9 ?_
 refine sr (An rfl (Ic (sr (Mz rfl (Kz (vP f 0) (Kz (vP f 34) (Lz (.pointer none) bY 0 V0 (Kz (.bool true) (nt (jt (sr (An rfl (rt (tR (rs ?_)))))))))))))))
 refine⟨.inr ⟨_,bY⟩, ?_⟩
 refine qk (.agg (gU 8 0 ((b:Nat):Int) 0 0 0 0 0 0 0 a.aa.aV a.aa.aL 0 0 0 false ([]) ([]) none 0 0 none 0 0 S a.aa.ag.ls.length B).toArray) 31 rfl ?_
 have kQ:=bY.pf [1,22,23]
 obtain⟨cu,cz⟩:∃ q,dw (bI.mk (E2 g)) (bL.mk 8 0 ((b:Nat):Int) 0 0 0 0 0 0 0 a.aa.aV a.aa.aL 0 0 0 false (bC.mk ([]) ([])) (E2 ([])) (E2 ([])) (E2 a.aa.ag.ls))=q:=⟨_,rfl⟩
 obtain⟨oZ,iH,nz,iI,iJ⟩:=IU kQ
 refine qd 32 rfl (Iz P6 rfl (gp _ _ d (bI.mk (E2 g)) p r I f (bL.mk 8 0 ((b:Nat):Int) 0 0 0 0 0 0 0 a.aa.aV a.aa.aL 0 0 0 false (bC.mk ([]) ([])) (E2 ([])) (E2 ([])) (E2 a.aa.ag.ls)) none 0 0 none 0 0 [] S a.aa.ag.ls.length B cu iH E rfl (fun _ _=>bE.nil _ _ _) f2 rfl rfl (fun _ _=>bE.nil _ _ _) f2 (fun _ Y=>absurd Y y6) rfl (iJ _ 3 _ rfl aO) (show a.aa.ag.ls.length≤B∧a.aa.ag.ls.length≤9223372036854775807 from by omega) e8 (by first | assumption | exact dM f5 | exact fun x hx=>absurd hx y6 | exact dM (Mk.mU f5).1 | exact dM (Mk.lT f5).1 | exact dM (Mk.nu f5).1 | exact dM (Mk.ny f5).1 | exact dM (Mk.nz f5).1) cz) ?_)
 rintro _ o5 ⟨kR,kS,kT,rfl,iK,cB,cK⟩
 have fQ:=iI _ _ iK
 have nA:=aB cB
 have nC:=fQ.rowC (i:=1) rfl
 replace cK:cu.aX.ls.length=g.length+1:=cK
 refine⟨.inl e7, ?_⟩
 refine qn (IA (res0 rfl) (C6 (bN (Ig (Ib (Mz rfl (fw (vJ (b+1)) (Ie (e:=C5.wrap (((b:Nat):Int)+1)) yk f0) (Az rfl (C6 ?_)))))))))
 have kU:=fQ.pb [0,1,2,4,5,23]
 have kX:=fe F G K L M N O P kU
 have kY:=kX.pb [4,5,2,3]
 exact Ir (b+1,kR,kS,kT,cu.aX.ls,h) ⟨rfl,rfl,trivial⟩ (C.2 ⟨kY,by exact cB,e6,e6,et (J) (et (ip R) (et (iN W) (et (ip aj) (et (iN aS) (ah cz)))))⟩) (by show h < h+1; omega)
 by_cases aT:((b:Nat):Int)=3
 refine qt (v:=vP f 32) 4 rfl (fun _ _=>by(try unfold vJ); rw [show ((b:Nat):Int)=3 from by omega]; exact yk) (ql 5 rfl 0 D4 rfl rfl rfl (qv 6 rfl rfl (qp f 0 7 rfl (qp f 0 8 rfl (qp f 2 9 rfl (ql 10 rfl 0 D4 rfl rfl rfl (qk (.bool (decide (((a.dG:Nat):Int) ≥ ((a.aa.aV:Nat):Int)))) 11 rfl (qa 12 rfl rfl (qn (Ig (rt (rs (fw (.bool (decide (¬ (((a.dG:Nat):Int) ≥ ((a.aa.aV:Nat):Int))))) (IG (e:= !(decide (((a.dG:Nat):Int) ≥ ((a.aa.aV:Nat):Int)))) yk decide_not.symm) (nt ?_))))))))))))))
 by_cases aV:((a.dG:Nat):Int) ≥ ((a.aa.aV:Nat):Int)
 refine jF (dF (Lh aV)) (IE (bN (Ig (Ib (Mz rfl (fw (vJ (b+1)) (Ie (e:=C5.wrap (((b:Nat):Int)+1)) yk f0) (Az rfl (C6 ?_))))))))
 have kZ:=fe F G K L M N O P V
 have lc:=kZ.pf []
 exact Ir (b+1,p,r,I,g,h) ⟨rfl,rfl,trivial⟩ (C.2 ⟨lc,by exact E,e6,e6,et (J) (et (ip R) (et (iN W) (et (iN aj) (et (ip aT) (ip aV)))))⟩) (by show h < h+1; omega)
 refine jT (dT aV) (Ib (Mz rfl (Mz rfl ?_)))
 refine WL.do rfl (Iz U5 rfl ?_ (fun _ _ k=>k))
 refine cb U6 ?_
 have lg:=V.pf [0,18,20,21]
 refine vX [32] IC lg ?_
 intro o6 cO
 refine qv 0 rfl rfl (qv 1 rfl rfl (qv 2 rfl rfl (qp d 0 3 rfl (qp d 0 4 rfl (ql 5 rfl 1 P3 rfl rfl rfl (qp f 0 6 rfl (qp f 0 7 rfl (qp f 2 8 rfl (ql 9 rfl 0 D4 rfl rfl rfl (qv 10 rfl rfl (qp d 0 11 rfl (qp d 0 12 rfl (ql 13 rfl 1 P3 rfl rfl rfl (qp f 0 14 rfl (qp f 0 15 rfl (qp f 3 16 rfl (ql 17 rfl 0 D4 rfl rfl rfl (qv 18 rfl rfl (qp d 0 19 rfl (qp d 0 20 rfl (ql 21 rfl 1 P3 rfl rfl rfl (qv 23 rfl rfl (qp d 0 24 rfl (qp d 0 25 rfl (ql 26 rfl 1 P3 rfl rfl rfl (qp f 0 27 rfl (qp f 0 28 rfl (qp f 4 29 rfl (ql 30 rfl 0 U7 rfl rfl rfl ?_)))))))))))))))))))))))))))))
 refine GX.do 22 rfl e7 (Iz U8 rfl ?_ (fun _ _ k=>k))
 refine cb U9 ?_
 refine sr (An rfl (Ic (sr (Mz rfl (Kz (vP f 0) (Kz (vP f 34) (Lz (.pointer none) cO 0 V0 (Kz (.bool true) (nt (jt (sr (An rfl (rt (tR (rs ?_)))))))))))))))
 refine⟨.inr ⟨_,cO⟩, ?_⟩
 refine qk (.agg (gU 8 0 ((b:Nat):Int) 0 0 0 0 0 0 0 a.aa.aV a.aa.aL 0 0 0 false ([]) ([]) none 0 0 none 0 0 S a.aa.ag.ls.length B).toArray) 31 rfl ?_
 have lh:=cO.pf [1,22,23]
 obtain⟨cZ,df⟩:∃ q,dw (bI.mk (E2 g)) (bL.mk 8 0 ((b:Nat):Int) 0 0 0 0 0 0 0 a.aa.aV a.aa.aL 0 0 0 false (bC.mk ([]) ([])) (E2 ([])) (E2 ([])) (E2 a.aa.ag.ls))=q:=⟨_,rfl⟩
 obtain⟨o7,iL,nD,iM,iO⟩:=IU lh
 refine qd 32 rfl (Iz P6 rfl (gp _ _ d (bI.mk (E2 g)) p r I f (bL.mk 8 0 ((b:Nat):Int) 0 0 0 0 0 0 0 a.aa.aV a.aa.aL 0 0 0 false (bC.mk ([]) ([])) (E2 ([])) (E2 ([])) (E2 a.aa.ag.ls)) none 0 0 none 0 0 [] S a.aa.ag.ls.length B cZ iL E rfl (fun _ _=>bE.nil _ _ _) f2 rfl rfl (fun _ _=>bE.nil _ _ _) f2 (fun _ Y=>absurd Y y6) rfl (iO _ 3 _ rfl aO) (show a.aa.ag.ls.length≤B∧a.aa.ag.ls.length≤9223372036854775807 from by omega) e8 (by first | assumption | exact dM f5 | exact fun x hx=>absurd hx y6 | exact dM (Mk.mU f5).1 | exact dM (Mk.lT f5).1 | exact dM (Mk.nu f5).1 | exact dM (Mk.ny f5).1 | exact dM (Mk.nz f5).1) df) ?_)
 rintro _ o8 ⟨ll,lm,lq,rfl,iP,dh,di⟩
 have fT:=iM _ _ iP
 have nE:=aB dh
 have nG:=fT.rowC (i:=1) rfl
 replace di:cZ.aX.ls.length=g.length+1:=di
 refine⟨.inl e7, ?_⟩
 refine qn (IA (res0 rfl) (C6 (bN (Ig (Ib (Mz rfl (fw (vJ (b+1)) (Ie (e:=C5.wrap (((b:Nat):Int)+1)) yk f0) (Az rfl (C6 ?_)))))))))
 have lu:=fT.pb [0,1,2,4,5,23]
 have lv:=fe F G K L M N O P lu
 have lw:=lv.pb [4,5,2,3]
 exact Ir (b+1,ll,lm,lq,cZ.aX.ls,h) ⟨rfl,rfl,trivial⟩ (C.2 ⟨lw,by exact dh,e6,e6,et (J) (et (ip R) (et (iN W) (et (iN aj) (et (ip aT) (et (iN aV) (ah df))))))⟩) (by show h < h+1; omega)
 refine qt (v:=vP f 33) 4 rfl (fun _ _=>by(try unfold vJ); rw [show ((b:Nat):Int)=4 from by omega]; exact yk) (ql 5 rfl 0 D4 rfl rfl rfl (qv 6 rfl rfl (qp f 0 7 rfl (qp f 0 8 rfl (qp f 2 9 rfl (ql 10 rfl 0 D4 rfl rfl rfl (qk (.bool (decide (((a.dJ:Nat):Int) ≥ ((a.aa.aV:Nat):Int)))) 11 rfl (qa 12 rfl rfl (qn (Ig (rt (rs (fw (.bool (decide (¬ (((a.dJ:Nat):Int) ≥ ((a.aa.aV:Nat):Int))))) (IG (e:= !(decide (((a.dJ:Nat):Int) ≥ ((a.aa.aV:Nat):Int)))) yk decide_not.symm) (nt ?_))))))))))))))
 by_cases aX:((a.dJ:Nat):Int) ≥ ((a.aa.aV:Nat):Int)
 refine jF (dF (Lh aX)) (IE (bN (Ig (Ib (Mz rfl (fw (vJ (b+1)) (Ie (e:=C5.wrap (((b:Nat):Int)+1)) yk f0) (Az rfl (C6 ?_))))))))
 have lC:=fe F G K L M N O P V
 have lD:=lC.pf []
 exact Ir (b+1,p,r,I,g,h) ⟨rfl,rfl,trivial⟩ (C.2 ⟨lD,by exact E,e6,e6,et (J) (et (ip R) (et (iN W) (et (iN aj) (et (iN aT) (ip aX)))))⟩) (by show h < h+1; omega)
 refine jT (dT aX) (Ib (Mz rfl (Mz rfl ?_)))
 refine WL.do rfl (Iz U5 rfl ?_ (fun _ _ k=>k))
 refine cb U6 ?_
 have lF:=V.pf [0,18,20,21]
 refine vX [32] IC lF ?_
 intro o9 dm
 refine qv 0 rfl rfl (qv 1 rfl rfl (qv 2 rfl rfl (qp d 0 3 rfl (qp d 0 4 rfl (ql 5 rfl 1 P3 rfl rfl rfl (qp f 0 6 rfl (qp f 0 7 rfl (qp f 2 8 rfl (ql 9 rfl 0 D4 rfl rfl rfl (qv 10 rfl rfl (qp d 0 11 rfl (qp d 0 12 rfl (ql 13 rfl 1 P3 rfl rfl rfl (qp f 0 14 rfl (qp f 0 15 rfl (qp f 3 16 rfl (ql 17 rfl 0 D4 rfl rfl rfl (qv 18 rfl rfl (qp d 0 19 rfl (qp d 0 20 rfl (ql 21 rfl 1 P3 rfl rfl rfl (qv 23 rfl rfl (qp d 0 24 rfl (qp d 0 25 rfl (ql 26 rfl 1 P3 rfl rfl rfl (qp f 0 27 rfl (qp f 0 28 rfl (qp f 4 29 rfl (ql 30 rfl 0 U7 rfl rfl rfl ?_)))))))))))))))))))))))))))))
 refine GX.do 22 rfl e7 (Iz U8 rfl ?_ (fun _ _ k=>k))
 refine cb U9 ?_
 refine sr (An rfl (Ic (sr (Mz rfl (Kz (vP f 0) (Kz (vP f 34) (Lz (.pointer none) dm 0 V0 (Kz (.bool true) (nt (jt (sr (An rfl (rt (tR (rs ?_)))))))))))))))
 refine⟨.inr ⟨_,dm⟩, ?_⟩
 refine qk (.agg (gU 8 0 ((b:Nat):Int) 0 0 0 0 0 0 0 a.aa.aV a.aa.aL 0 0 0 false ([]) ([]) none 0 0 none 0 0 S a.aa.ag.ls.length B).toArray) 31 rfl ?_
 have lG:=dm.pf [1,22,23]
 obtain⟨dn,dx⟩:∃ q,dw (bI.mk (E2 g)) (bL.mk 8 0 ((b:Nat):Int) 0 0 0 0 0 0 0 a.aa.aV a.aa.aL 0 0 0 false (bC.mk ([]) ([])) (E2 ([])) (E2 ([])) (E2 a.aa.ag.ls))=q:=⟨_,rfl⟩
 obtain⟨pg,iQ,nH,iR,iT⟩:=IU lG
 refine qd 32 rfl (Iz P6 rfl (gp _ _ d (bI.mk (E2 g)) p r I f (bL.mk 8 0 ((b:Nat):Int) 0 0 0 0 0 0 0 a.aa.aV a.aa.aL 0 0 0 false (bC.mk ([]) ([])) (E2 ([])) (E2 ([])) (E2 a.aa.ag.ls)) none 0 0 none 0 0 [] S a.aa.ag.ls.length B dn iQ E rfl (fun _ _=>bE.nil _ _ _) f2 rfl rfl (fun _ _=>bE.nil _ _ _) f2 (fun _ Y=>absurd Y y6) rfl (iT _ 3 _ rfl aO) (show a.aa.ag.ls.length≤B∧a.aa.ag.ls.length≤9223372036854775807 from by omega) e8 (by first | assumption | exact dM f5 | exact fun x hx=>absurd hx y6 | exact dM (Mk.mU f5).1 | exact dM (Mk.lT f5).1 | exact dM (Mk.nu f5).1 | exact dM (Mk.ny f5).1 | exact dM (Mk.nz f5).1) dx) ?_)
 rintro _ pq ⟨lH,lI,lJ,rfl,iU,dz,dA⟩
 have fU:=iR _ _ iU
 have nI:=aB dz
 have nJ:=fU.rowC (i:=1) rfl
 replace dA:dn.aX.ls.length=g.length+1:=dA
 refine⟨.inl e7, ?_⟩
 refine qn (IA (res0 rfl) (C6 (bN (Ig (Ib (Mz rfl (fw (vJ (b+1)) (Ie (e:=C5.wrap (((b:Nat):Int)+1)) yk f0) (Az rfl (C6 ?_)))))))))
 have lK:=fU.pb [0,1,2,4,5,23]
 have lL:=fe F G K L M N O P lK
 have lM:=lL.pb [4,5,2,3]
 exact Ir (b+1,lH,lI,lJ,dn.aX.ls,h) ⟨rfl,rfl,trivial⟩ (C.2 ⟨lM,by exact dz,e6,e6,et (J) (et (ip R) (et (iN W) (et (iN aj) (et (iN aT) (et (iN aX) (ah dx))))))⟩) (by show h < h+1; omega)
 refine jF (dF R) (C7 (Il ?_))
 have iV:fK n a ((D0 (j.aa.au+1 - 1))+1) 1 z=g:=et (J) (iN R)
 refine Il (IB (Ig (Ib (Mz rfl ?_))))
 refine WL.do rfl (Iz Tryz.call30 rfl ?_ (fun _ _ k=>k))
 refine cb Tryz.func30 ?_
 refine sr (Mz rfl (Kz (vP d 0) (Kz (vP d 0) (Lz (vP f 0) Q 18 P3 (Kz (vP f 0) (Kz (vP f 34) (Lz (.pointer none) Q 0 V0 (An rfl (Ic (sr (Mz rfl (Kz (.bool true) (nt (jt (rt (tR (Fin.res (res0 rfl) (C6 (IA (res0 rfl) (ns (Mz rfl (Kz (vP f 0) (Kz (vP f 0) (La ([vI a.aa.au,vU a.aa.av,vU a.aa.aV,vU a.aa.aL, .slice S a.aa.ag.ls.length B, .slice fM a.aa.aj.ls.length bR, .slice fO a.aa.aF.ls.length bS]) Q 0 U1 H4 ?_))))))))))))))))))))))))
 obtain⟨⟨ak,fZ⟩,dB⟩:∃ q:(List UInt8) × Int,fA a.aa=q:=⟨_,rfl⟩
 obtain⟨pu,iW,nK,iX,T⟩:=Ii Q
 refine cl U2 (kJ _ _ a.aa S a.aa.ag.ls.length B fM a.aa.aj.ls.length bR kv fO a.aa.aF.ls.length bS kw ak fZ iW rfl (T _ 1 _ rfl aO) (show a.aa.ag.ls.length≤B∧a.aa.ag.ls.length≤9223372036854775807 from by omega) F rfl (T _ 2 _ rfl aO) (show a.aa.aj.ls.length≤bR∧a.aa.aj.ls.length≤9223372036854775807 from by omega) (fun x9 Y=>⟨T _ 3 _ rfl (ax (Q3.2 ⟨x9,Y,b1⟩) aO),aZ (φ:=fun _=>_) Q (i:=3) rfl (ax (Q3.2 ⟨x9,Y,b1⟩) aW)⟩) G rfl (T _ 4 _ rfl aO) (show a.aa.aF.ls.length≤bS∧a.aa.aF.ls.length≤9223372036854775807 from by omega) (fun x9 Y=>⟨T _ 5 _ rfl (ax (Q3.2 ⟨x9,Y,b1⟩) aO),aZ (φ:=fun _=>_) Q (i:=5) rfl (ax (Q3.2 ⟨x9,Y,b1⟩) aW),(fun y1 k1=>⟨T _ 5 _ rfl (ax (Q3.2 ⟨x9,Y, .tail _ b1⟩) (ax (Q3.2 ⟨y1,k1,b1⟩) aO)),aZ (φ:=fun _=>_) Q (i:=5) rfl (ax (Q3.2 ⟨x9,Y, .tail _ b1⟩) (ax (Q3.2 ⟨y1,k1,b1⟩) aW))⟩)⟩) e8 i4 dB) ?_
 rintro _ pz ⟨gm,gq,rfl,iY,dC⟩
 have gu:=iX _ _ iY
 have nL:=gu.rowC (i:=0) rfl
 replace dC:ak.length≤100000:=dC
 refine Mz rfl (Kz (.slice gm ak.length gq) (Kz (vI fZ) (Az rfl (An rfl (Ic ?_)))))
 have lN:=gu.pb [21]
 refine pU 24 [] (Iu IC) lN ?_
 intro pE lQ
 refine qv 0 rfl rfl (qp d 0 1 rfl (qp d 1 2 rfl (ql 3 rfl 19 U3 rfl rfl rfl (qv 4 rfl rfl (qv 5 rfl rfl ?_)))))
 obtain⟨X,dD⟩:∃ q,bytes_Equal n ak=q:=⟨_,rfl⟩
 obtain⟨pF,ja,nM,jb,dE⟩:=Ii lQ
 refine qd 6 rfl (Iz U4 rfl (rT _ _ bn n.length bq n gm ak.length gq ak X ja (dE _ 20 _ rfl aO) rfl e6 (dE _ 0 _ rfl aO) rfl e6 dD) ?_)
 rintro _ pG ⟨rfl,jc⟩
 have gy:=jb _ _ jc
 refine⟨.inr ⟨_,gy⟩, ?_⟩
 refine qk (.bool (!X)) 7 rfl (qk (.agg #[.slice p g.length r, .bool (!X)]) 8 rfl ?_)
 have lS:=gy.pf [24]
 refine qe 9 rfl (Do.store (vs:= [.slice p g.length r, .bool (!X)]) (o:=0) lS rfl rfl T4 rfl rfl rfl rfl ?_)
 intro pI lT
 have dG:=lT.pb [0]
 refine⟨.inr ⟨_,dG⟩, ?_⟩
 refine qn (Ig (rt (Fin.res (ol rfl rfl (Iy (cs:= [.slice p g.length r, .bool (!X)]) T5 T4 ((dG.cls (i:=24) rfl).lit (k:=0) (m:=2) rfl))) ?_)))
 have lU:=dG.pf [21]
 refine dS [.slice p g.length r, .bool (!X)] 0 lU T4 ?_
 intro pJ gz
 refine nt (rt (Fin.res (ol rfl rfl (Iy (cs:= [.slice p g.length r, .bool (!X)]) T5 T4 ((gz.cls (i:=0) rfl).lit (k:=0) (m:=2) rfl))) ?_))
 have lV:=gz.pb [0,1,20,21,22,23,24]
 have lW:=fe F G K L M N O P lV
 have lX:=lW.pk [5,6,0]
 obtain⟨rfl,rfl⟩:=ic (hr.symm.trans (show _=(kC.mk (E2 g) (!X),a) from et (ah dO) (et (ah dQ) (et (ah gP) (et (ah iy) (et (ah iV) (et (ah dB) (ah dD))))))))
 exact⟨p,r,I,rfl,lX,E,i1,f5⟩
end Go.Proofs.YtbkagebjhbphaaaGreat
