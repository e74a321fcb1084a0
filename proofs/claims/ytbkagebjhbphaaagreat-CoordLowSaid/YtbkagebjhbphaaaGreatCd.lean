/-
 coord: its methods.
-/
import Derived.Test.YtbkagebjhbphaaaGreatCoW
namespace Go.Proofs.YtbkagebjhbphaaaGreat
open Int renaming toNat→D2
open IntKind renaming i64→C7
open List renaming drop→r6,flatMap→q6,map→s8,mem_flatMap→O7,mem_of_getElem?→E0,not_mem_nil→B3
open Ll renaming mk→E4
open _root_.Go.Proofs.Tryz renaming call12→S9,call22→S0,call29→S6,call54→S3,call55→S5,call65→O0,func12→T0,func22→S1,func29→S7,isAgg24→N7,isAgg28→E1,isAgg29→S8,isAgg3→C6,isAgg33→S2,isAgg42→L9,isAgg45→S4,isAgg47→R9,isAgg84→T1,prog→y4,sizeOf33→I1,sizeOf42→M0,sizeOf47→R8,underlying134→M8,underlying5→R7,underlying9→B5
open WL renaming nil→D0
open Wp renaming exit→D1,loop→C5
set_option maxRecDepth 100000
open Go.RowKit
set_option linter.unusedVariables false
set_option linter.unusedSectionVars false
set_option linter.unusedSimpArgs false
def bytes_Equal (l0:List UInt8) (l1:List UInt8):Bool:=
 decide (l0=l1)
theorem qK (w:World) (D:Nat→Prop) (h:Option Addr) (a k:Nat) (l0:List UInt8) (i:Option Addr) (b m:Nat) (l1:List UInt8) (j:Bool) (H:Own w D w []) (c:Ro w D fun w'=>bD w' 1 h a (q6 eB l0)) (d:a=l0.length) (n:l0.length *1≤211106232532992) (e:Ro w D fun w'=>bD w' 1 i b (q6 eB l1)) (f:b=l1.length) (o:l1.length *1≤211106232532992) (hr:bytes_Equal l0 l1=j):
    Calls y4 55 #[.slice h a k, .slice i b m] w (dS fun v w'=>v= .bool j∧Own w D w' []):=by
 subst d f
 refine cb Tryz.func55 ?_
 refine sr (Ar rfl (Mz rfl (fw (.string ⟨List.toArray l0⟩) (Gt (l:=l0) M8 R7 B5 (H.ro c) rfl) (Mz rfl (fw (.string ⟨List.toArray l1⟩) (Gt (l:=l1) M8 R7 B5 (H.ro e) rfl) (fw (.bool (decide (l0=l1))) (Gy rfl rfl) (An rfl (rt (rs ?_)))))))))
 have g:=H.pk []
 obtain rfl:_=decide (l0=l1):=hr.symm.trans rfl
 exact⟨rfl,g⟩
def dO (c:aB) (d:bQ):jL × Int × aB:=
 if d.aP≤10 then bnd (l5 d) fun k=>if k=0 then if d.fO=0 then if d.aP > c.aa.ak then(jL.mk (E4 ([])) false,180,c) else bnd (eu c.aa) fun l=>bnd (jd (bO.mk (E4 ([]))) d c) fun a=>bnd (eu a.2.aa) fun e=>bnd (bytes_Equal l.1 e.1) fun f=>(jL.mk (E4 a.1.bE.ls) (!f),0,a.2) else(jL.mk (E4 ([])) false,180,c) else(jL.mk (E4 ([])) false,180,c) else bnd (l5 d) fun g=>if g=0 then if d.fO=0 then bnd (eu c.aa) fun h=>bnd (jd (bO.mk (E4 ([]))) d c) fun b=>bnd (eu b.2.aa) fun i=>bnd (bytes_Equal h.1 i.1) fun j=>(jL.mk (E4 b.1.bE.ls) (!j),0,b.2) else(jL.mk (E4 ([])) false,180,c) else(jL.mk (E4 ([])) false,180,c)
set_option maxHeartbeats 4000000 in
theorem iU (w:World) (D:Nat→Prop) (z:Nat) (f:aB) (a:bQ) (l:Option Addr) (dB g:Nat) (n:Option Addr) (dC h:Nat) (P:List af) (p:Option Addr) (dD j:Nat) (r0:jL) (r1:Int) (r2:aB) (H:Own w D w [iE z f]) (fH:dB=a.aD.ls.length) (ax:Ro w D fun w'=>bD w' 6 l a.aD.ls.length (q6 bC.cells a.aD.ls)) (ky:a.aD.ls.length≤g∧a.aD.ls.length≤9223372036854775807) (Q:s8 af.abs P=a.ai.ls) (fI:dC=a.ai.ls.length) (ay:Ro w D fun w'=>bD w' 3 n a.ai.ls.length (q6 af.cells P)) (kz:a.ai.ls.length≤h∧a.ai.ls.length≤9223372036854775807) (u:∀ x ∈ P,Ro w D (fun w'=>bD w' 2 x.au.A x.au.ls.length (q6 aJ.cells x.au.ls))∧(x.au.ls.length≤x.au.c∧x.au.ls.length≤9223372036854775807)) (fJ:dD=a.ag.ls.length) (aA:Ro w D fun w'=>bD w' 2 p a.ag.ls.length (q6 bv.cells a.ag.ls)) (kC:a.ag.ls.length≤j∧a.ag.ls.length≤9223372036854775807) (nP:f.aa.ag.ls.length≤1000∧f.aA.ls.length+f.aa.aj.ls.length≤8∧f.aa.aF.ls.length≤900∧jy a.aY∧a.aD.ls.length≤140737488355328∧a.ai.ls.length≤140737488355328∧a.ag.ls.length≤140737488355328) (nQ:Mk f) (hr:dO f a=(r0,r1,r2)):
    Calls y4 13 #[vP z 0, .agg (gH a.aM a.aP a.fO a.aS a.dJ a.d9 a.aY a.ax a.bf a.di a.bi a.aI a.dM a.cZ a.xN a.dY a.bW.bJ a.bW.bX l dB g n dC h p dD j).toArray] w (dS fun v w'=> ∃ (dG:Option Addr) (dH:Nat) (aY:List bA),v= .tuple #[.agg #[.slice dG r0.ed.ls.length dH, .bool r0.iD],vI r1]∧Own w D w' [row dG r0.ed.ls.length dH (q6 bA.cells aY) 42 21,sepL (q6 bA.own aY),iE z r2]∧(s8 bA.abs aY=r0.ed.ls)∧(r2.aa.ag.ls.length=f.aa.ag.ls.length∧r2.aa.ak=f.aa.ak∧r2.aA.ls.length+r2.aa.aj.ls.length≤8∧r2.aa.aF.ls.length≤f.aa.aF.ls.length+1)∧(Mk r2)):=by
 subst fH fI fJ
 have kw:=az Q
 refine cb Tryz.func13 ?_
 refine sr ?_
 refine dK (gM a l g n h p j) 42 H ?_
 intro G nR kD
 refine dK [.slice none 0 0, .bool false] 47 kD ?_
 intro aM nS kE
 refine An rfl (EP ?_)
 have kF:=kE.pf [2]
 obtain⟨dn,aV,dw,aW,iq,dx,aX,iw,nT,nU,nV,nW,nX,nY,nZ,og,oh,ol,om,oo,oq,ou,ow,oz,oC,oD,B,C,R,S,T,U,V,W,lI,kG⟩:=jJ kF
 refine oF 20 [] (E9 Fp) kG ?_
 intro oG dz
 refine qp G 1 0 rfl (ql 1 rfl 19 C6 rfl rfl rfl (qk (.bool (decide (a.aP≤10))) 2 rfl (qv 3 rfl rfl ?_)))
 by_cases r:a.aP≤10
 refine EZ (v:=vP G 1) (rs:= []) 4 rfl rfl rfl (dT r) e7 (fun _ _=>yk) (EZ (v:=vI a.aP) (rs:= []) 5 rfl rfl rfl (dT r) e7 (fun _ ⟨_,H9⟩=>EY rfl (bZ.one C6 (FE (H9.cls (i:=19) rfl) rfl))) (EZ (v:=vP z 0) (rs:= []) 6 rfl rfl rfl (dT r) e7 (fun _ _=>E5 rfl) (EZ (v:=vP z 0) (rs:= []) 7 rfl rfl rfl (dT r) e7 (fun _ _=>yk) (EZ (v:=vP z 0) (rs:= []) 8 rfl rfl rfl (dT r) e7 (fun _ _=>yk) (EZ (v:=vP z 0) (rs:= []) 9 rfl rfl rfl (dT r) e7 (fun _ _=>yk) (EZ (v:=vI f.aa.ak) (rs:= []) 10 rfl rfl rfl (dT r) e7 (fun _ ⟨_,H9⟩=>EY rfl (bZ.one C6 (FE (H9.cls (i:=0) rfl) rfl))) (EZ (v:= .bool (decide (a.aP > f.aa.ak))) (rs:= []) 11 rfl rfl rfl (dT r) e7 (fun _ _=>yk) (qt (v:= .bool (decide (a.aP > f.aa.ak))) 12 rfl (fun _ _=>Fa rfl (dT r) rfl) (qa 13 rfl rfl (qn (ER (EP (sr (La (gM a l g n h p j) dz 19 L9 M0 ?_))))))))))))))
 obtain⟨aZ,ag⟩:∃ q,l5 a=q:=⟨_,rfl⟩
 obtain⟨oH,iy,aQ,iA,lJ⟩:=EU dz
 refine cl Tryz.call21 (uE _ _ a l a.aD.ls.length g n a.ai.ls.length h P p a.ag.ls.length j aZ iy rfl (aQ _ ax) (show a.aD.ls.length≤g∧a.aD.ls.length≤9223372036854775807 from by omega) Q rfl (aQ _ ay) (show a.ai.ls.length≤h∧a.ai.ls.length≤9223372036854775807 from by omega) (fun s t=>⟨aQ _ (u s t).1,(u s t).2⟩) rfl (aQ _ aA) (show a.ag.ls.length≤j∧a.ag.ls.length≤9223372036854775807 from by omega) i3 ag) ?_
 rintro _ oI ⟨rfl,iB⟩
 have bf:=iA _ _ iB
 have lK: ¬ (aZ=0)∨(a.aD.ls.length≤24∧a.ag.ls.length≤1000∧a.ai.ls.length≤1000∧(¬ (a.aM=1)∨11≤a.aP∧a.aP≤14)∧(¬ (a.aM=9)∨1≤a.aP∧a.aP≤4)):=BR ag
 refine fw (.bool (decide (¬ (aZ=0)))) (Fs (e:= !(decide (aZ=0))) yk decide_not.symm) (Mz rfl ?_)
 by_cases O:aZ=0
 refine gw (vP G 2) (dF (IV O)) yk (gw (vI a.fO) (dF (IV O)) (EY rfl (bZ.one C6 (FE (bf.cls (i:=19) rfl) rfl))) (gw (.bool (decide (¬ (a.fO=0)))) (dF (IV O)) (Fs (e:= !(decide (a.fO=0))) yk decide_not.symm) (fw (.bool (decide (¬ (a.fO=0)))) (ES rfl (dF (IV O)) rfl) (Mz rfl ?_))))
 by_cases aN:a.fO=0
 refine gw (.bool (decide (a.aP > f.aa.ak))) (dF (IV aN)) (E5 rfl) (fw (.bool (decide (a.aP > f.aa.ak))) (ES rfl (dF (IV aN)) rfl) (nt ?_))
 by_cases dA:a.aP > f.aa.ak
 refine jT (dT dA) (sr (Kz (.agg #[.slice none 0 0, .bool false]) ?_))
 have kI:=bf.pf [18]
 refine dN [.slice none 0 0, .bool false] 0 kI R8 ?_
 intro iC iD
 refine An rfl (rt (tR (Fin.res (ku (vs:= [.agg #[.slice none 0 0, .bool false],vI 180]) rfl (dR.cell rfl (Fb (cs:= [.slice none 0 0, .bool false]) R9 R8 ((iD.cls (i:=0) rfl).lit (k:=0) (m:=2) rfl)) (dR.tmp rfl dR.nil)) (IQ rfl)) ?_)))
 have kJ:=iD.pb [0,19]
 have kK:=fo B C R S T U V W kJ
 have kL:Own w D iC [sepL (q6 bA.own ([])),iE z f,blk aM [.slice none 0 0, .bool false] 47,blk G (gM a l g n h p j) 42]:=kK.sepNil
 have kM:Own w D iC (row none 0 0 (q6 bA.cells ([])) 42 21::_):=kL.free (eZ 42 21)
 have kN:=kM.pk [0,1,2]
 obtain⟨rfl,rfl,rfl⟩:=yN (hr.symm.trans (show _=(jL.mk (E4 ([])) false,180,f) from et (ip r) (et (ah ag) (et (ip O) (et (ip aN) (ip dA))))))
 exact⟨none,0, [],rfl,kN,rfl,i1,f5⟩
 refine jF (dF dA) (sk (sr (Mz rfl (Kz (.func (.func 23) #[] #[vP G 0]) ?_))))
 refine WL.do rfl (Fe S0 rfl ?_ (fun _ _ k=>k))
 refine cb S1 ?_
 refine sr ?_
 refine dK [.slice none 0 0, .bool false] 47 bf ?_
 intro kP oJ bg
 refine ns (Mz rfl (Kz (vP z 0) (Kz (vP z 0) (La ([vI f.aa.ak,vU f.aa.ax,vU f.aa.bi,vU f.aa.aI, .slice dn f.aa.ag.ls.length aV, .slice dw f.aa.aj.ls.length aW, .slice dx f.aa.aF.ls.length aX]) bg 1 S2 I1 ?_))))
 obtain⟨⟨aG,iF⟩,dI⟩:∃ q:(List UInt8) × Int,eu f.aa=q:=⟨_,rfl⟩
 obtain⟨oK,iG,lL,iH,ai⟩:=EU bg
 refine cl S3 (jX _ _ f.aa dn f.aa.ag.ls.length aV dw f.aa.aj.ls.length aW iq dx f.aa.aF.ls.length aX iw aG iF iG rfl (ai _ 2 _ rfl aT) (show f.aa.ag.ls.length≤aV∧f.aa.ag.ls.length≤9223372036854775807 from by omega) B rfl (ai _ 3 _ rfl aT) (show f.aa.aj.ls.length≤aW∧f.aa.aj.ls.length≤9223372036854775807 from by omega) (fun s t=>⟨ai _ 4 _ rfl (av (O7.2 ⟨s,t,b1⟩) aT),bz (φ:=fun _=>_) bg (i:=4) rfl (av (O7.2 ⟨s,t,b1⟩) bn)⟩) C rfl (ai _ 5 _ rfl aT) (show f.aa.aF.ls.length≤aX∧f.aa.aF.ls.length≤9223372036854775807 from by omega) (fun s t=>⟨ai _ 6 _ rfl (av (O7.2 ⟨s,t,b1⟩) aT),bz (φ:=fun _=>_) bg (i:=6) rfl (av (O7.2 ⟨s,t,b1⟩) bn),(fun y1 k1=>⟨ai _ 6 _ rfl (av (O7.2 ⟨s,t, .tail _ b1⟩) (av (O7.2 ⟨y1,k1,b1⟩) aT)),bz (φ:=fun _=>_) bg (i:=6) rfl (av (O7.2 ⟨s,t, .tail _ b1⟩) (av (O7.2 ⟨y1,k1,b1⟩) bn))⟩)⟩) e8 i4 dI) ?_
 rintro _ lM ⟨bu,bB,rfl,fK,bE⟩
 have dJ:=iH _ _ fK
 have kQ:=dJ.rowC (i:=0) rfl
 replace bE:aG.length≤100000:=bE
 refine Mz rfl (Kz (.slice bu aG.length bB) (Kz (vI iF) (Az rfl (Ar rfl (Mz rfl (Kz (.agg #[vP z 0, .slice none 0 0]) ?_))))))
 refine dK [vP z 0, .slice none 0 0] 98 dJ ?_
 intro aR dL dM
 refine Ar rfl (Mz rfl (Mz rfl ?_))
 refine WL.do rfl (Fw Tryz.call23 rfl rfl ?_ (fun _ _ k=>k))
 refine cb Tryz.func23 ?_
 refine EO (Mz rfl (La (gM a l g n h p j) dM 22 L9 M0 ?_))
 have iI:=dM.pb [0,1,2,21,22]
 have iJ:=fo B C R S T U V W iI
 have iK:Own w D dL [sepL (q6 bA.own ([])),iE z f,blk aR [vP z 0, .slice none 0 0] 98,row bu aG.length bB (q6 eB aG) 5 1,blk kP [.slice none 0 0, .bool false] 47,blk aM [.slice none 0 0, .bool false] 47,blk G (gM a l g n h p j) 42]:=iJ.sepNil
 have iL:Own w D dL (row none 0 0 (q6 bA.cells ([])) 42 21::_):=iK.free (eZ 42 21)
 have iM:=iL.pf [3]
 obtain⟨⟨L,b⟩,aO⟩:∃ q:bO × aB,jd (bO.mk (E4 ([]))) a f=q:=⟨_,rfl⟩
 obtain⟨lN,fM,aC,fO,kR⟩:=FM iM
 refine cl Tryz.call24 (q8 _ _ aR (bO.mk (E4 ([]))) none 0 ([]) a l a.aD.ls.length g n a.ai.ls.length h P p a.ag.ls.length j z f L b fM rfl rfl (aC _ ax) (show a.aD.ls.length≤g∧a.aD.ls.length≤9223372036854775807 from by omega) Q rfl (aC _ ay) (show a.ai.ls.length≤h∧a.ai.ls.length≤9223372036854775807 from by omega) (fun s t=>⟨aC _ (u s t).1,(u s t).2⟩) rfl (aC _ aA) (show a.ag.ls.length≤j∧a.ag.ls.length≤9223372036854775807 from by omega) e8 f5 e8 j0 e8 aO) ?_
 rintro _ lQ ⟨X,Y,iO,rfl,fP,bF⟩
 have dP:=fO _ _ fP
 have kS:=az bF
 have kT:=dP.rowC (i:=1) rfl
 have bG:=vD aO (qJ f5 f5) e6 e6
 have kU:Mk b:=bG.2 f5
 have kV:b.aa.ag.ls.length=f.aa.ag.ls.length∧b.aa.ak=f.aa.ak∧b.aA.ls.length+b.aa.aj.ls.length≤8∧b.aa.aF.ls.length≤f.aa.aF.ls.length+1:=GK bG.1 e6
 refine D0 (Ff (res0 rfl) (nt (EP ?_)))
 have iP:=dP.pf [3]
 obtain⟨dQ,bH,dU,bI,iQ,dV,bJ,iR,lS,lT,lU,lV,lW,lX,lY,lZ,l6,l7,l8,l9,ma,mf,mg,mh,mi,mo,bK,bL,fQ,fT,fU,fV,fZ,gm,kW,aH⟩:=jJ iP
 refine EO (Mz rfl (Kz (vP z 0) (Kz (vP z 0) (La ([vI b.aa.ak,vU b.aa.ax,vU b.aa.bi,vU b.aa.aI, .slice dQ b.aa.ag.ls.length bH, .slice dU b.aa.aj.ls.length bI, .slice dV b.aa.aF.ls.length bJ]) aH 0 S2 I1 ?_))))
 obtain⟨⟨aj,dW⟩,bM⟩:∃ q:(List UInt8) × Int,eu b.aa=q:=⟨_,rfl⟩
 obtain⟨mq,gp,kX,gq,I⟩:=EU aH
 refine cl S3 (jX _ _ b.aa dQ b.aa.ag.ls.length bH dU b.aa.aj.ls.length bI iQ dV b.aa.aF.ls.length bJ iR aj dW gp rfl (I _ 1 _ rfl aT) (show b.aa.ag.ls.length≤bH∧b.aa.ag.ls.length≤9223372036854775807 from by omega) bK rfl (I _ 2 _ rfl aT) (show b.aa.aj.ls.length≤bI∧b.aa.aj.ls.length≤9223372036854775807 from by omega) (fun s t=>⟨I _ 3 _ rfl (av (O7.2 ⟨s,t,b1⟩) aT),bz (φ:=fun _=>_) aH (i:=3) rfl (av (O7.2 ⟨s,t,b1⟩) bn)⟩) bL rfl (I _ 4 _ rfl aT) (show b.aa.aF.ls.length≤bJ∧b.aa.aF.ls.length≤9223372036854775807 from by omega) (fun s t=>⟨I _ 5 _ rfl (av (O7.2 ⟨s,t,b1⟩) aT),bz (φ:=fun _=>_) aH (i:=5) rfl (av (O7.2 ⟨s,t,b1⟩) bn),(fun y1 k1=>⟨I _ 5 _ rfl (av (O7.2 ⟨s,t, .tail _ b1⟩) (av (O7.2 ⟨y1,k1,b1⟩) aT)),bz (φ:=fun _=>_) aH (i:=5) rfl (av (O7.2 ⟨s,t, .tail _ b1⟩) (av (O7.2 ⟨y1,k1,b1⟩) bn))⟩)⟩) e8 i4 bM) ?_
 rintro _ mr ⟨dX,dY,rfl,gu,bN⟩
 have dZ:=gq _ _ gu
 have kY:=dZ.rowC (i:=0) rfl
 replace bN:aj.length≤100000:=bN
 refine Mz rfl (Kz (.slice dX aj.length dY) (Kz (vI dW) (Az rfl (An rfl (EP ?_)))))
 have iT:=dZ.pb [23]
 refine oF 25 [] (E9 Fp) iT ?_
 intro mD iV
 refine qv 0 rfl rfl (qp aR 0 1 rfl (qp aR 1 2 rfl (ql 3 rfl 19 S4 rfl rfl rfl (qv 4 rfl rfl (qv 5 rfl rfl ?_)))))
 obtain⟨E,bP⟩:∃ q,bytes_Equal aG aj=q:=⟨_,rfl⟩
 obtain⟨mE,gy,kZ,gz,bR⟩:=EU iV
 refine qd 6 rfl (Fe S5 rfl (qK _ _ bu aG.length bB aG dX aj.length dY aj E gy (bR _ 22 _ rfl aT) rfl e6 (bR _ 0 _ rfl aT) rfl e6 bP) ?_)
 rintro _ mF ⟨rfl,gB⟩
 have d9:=gz _ _ gB
 refine⟨.inr ⟨_,d9⟩, ?_⟩
 refine qk (.bool (!E)) 7 rfl (qk (.agg #[.slice X L.bE.ls.length Y, .bool (!E)]) 8 rfl ?_)
 have iW:=d9.pf [25]
 refine qe 9 rfl (Do.store (vs:= [.slice X L.bE.ls.length Y, .bool (!E)]) (o:=0) iW rfl rfl R8 rfl rfl rfl rfl ?_)
 intro mG iX
 have bS:=iX.pb [0]
 refine⟨.inr ⟨_,bS⟩, ?_⟩
 refine qn (ER (rt (Fin.res (mP rfl rfl (Fb (cs:= [.slice X L.bE.ls.length Y, .bool (!E)]) R9 R8 ((bS.cls (i:=25) rfl).lit (k:=0) (m:=2) rfl))) ?_)))
 have iY:=bS.pf [23]
 refine dN [.slice X L.bE.ls.length Y, .bool (!E)] 0 iY R8 ?_
 intro mH ed
 refine An rfl (rt (Fin.res (ku (vs:= [.agg #[.slice X L.bE.ls.length Y, .bool (!E)],vI 0]) rfl (dR.cell rfl (Fb (cs:= [.slice X L.bE.ls.length Y, .bool (!E)]) R9 R8 ((ed.cls (i:=0) rfl).lit (k:=0) (m:=2) rfl)) (dR.tmp rfl dR.nil)) (IQ rfl)) ?_))
 have iZ:=ed.pb [0,1,20,21,22,23,24,25]
 have ja:=fo bK bL fQ fT fU fV fZ gm iZ
 have jb:=ja.pk [4,5,0]
 obtain⟨rfl,rfl,rfl⟩:=yN (hr.symm.trans (show _=(jL.mk (E4 L.bE.ls) (!E),0,b) from et (ip r) (et (ah ag) (et (ip O) (et (ip aN) (et (iN dA) (et (ah dI) (et (ah aO) (et (ah bM) (ah bP))))))))))
 exact⟨X,Y,iO,rfl,jb,bF,i1,f5⟩
 refine Sz (dT aN) (fw (.bool true) (Fa rfl (dT aN) rfl) (nt (jt (sr (Kz (.agg #[.slice none 0 0, .bool false]) ?_)))))
 have jc:=bf.pf [18]
 refine dN [.slice none 0 0, .bool false] 0 jc R8 ?_
 intro ek eD
 refine An rfl (rt (tR (Fin.res (ku (vs:= [.agg #[.slice none 0 0, .bool false],vI 180]) rfl (dR.cell rfl (Fb (cs:= [.slice none 0 0, .bool false]) R9 R8 ((eD.cls (i:=0) rfl).lit (k:=0) (m:=2) rfl)) (dR.tmp rfl dR.nil)) (IQ rfl)) ?_)))
 have je:=eD.pb [0,19]
 have jg:=fo B C R S T U V W je
 have jh:Own w D ek [sepL (q6 bA.own ([])),iE z f,blk aM [.slice none 0 0, .bool false] 47,blk G (gM a l g n h p j) 42]:=jg.sepNil
 have ji:Own w D ek (row none 0 0 (q6 bA.cells ([])) 42 21::_):=jh.free (eZ 42 21)
 have jk:=ji.pk [0,1,2]
 obtain⟨rfl,rfl,rfl⟩:=yN (hr.symm.trans (show _=(jL.mk (E4 ([])) false,180,f) from et (ip r) (et (ah ag) (et (ip O) (iN aN)))))
 exact⟨none,0, [],rfl,jk,rfl,i1,f5⟩
 refine Sz (dT O) (Sz (dT O) (Sz (dT O) (fw (.bool true) (Fa rfl (dT O) rfl) (Mz rfl (Sz rfl (fw (.bool true) (Fa rfl rfl rfl) (nt (jt (sr (Kz (.agg #[.slice none 0 0, .bool false]) ?_))))))))))
 have jl:=bf.pf [18]
 refine dN [.slice none 0 0, .bool false] 0 jl R8 ?_
 intro eF eG
 refine An rfl (rt (tR (Fin.res (ku (vs:= [.agg #[.slice none 0 0, .bool false],vI 180]) rfl (dR.cell rfl (Fb (cs:= [.slice none 0 0, .bool false]) R9 R8 ((eG.cls (i:=0) rfl).lit (k:=0) (m:=2) rfl)) (dR.tmp rfl dR.nil)) (IQ rfl)) ?_)))
 have jm:=eG.pb [0,19]
 have jo:=fo B C R S T U V W jm
 have jq:Own w D eF [sepL (q6 bA.own ([])),iE z f,blk aM [.slice none 0 0, .bool false] 47,blk G (gM a l g n h p j) 42]:=jo.sepNil
 have jr:Own w D eF (row none 0 0 (q6 bA.cells ([])) 42 21::_):=jq.free (eZ 42 21)
 have jv:=jr.pk [0,1,2]
 obtain⟨rfl,rfl,rfl⟩:=yN (hr.symm.trans (show _=(jL.mk (E4 ([])) false,180,f) from et (ip r) (et (ah ag) (iN O))))
 exact⟨none,0, [],rfl,jv,rfl,i1,f5⟩
 refine EW (rs:= []) 4 rfl rfl rfl (dF r) e7 (EW (rs:= []) 5 rfl rfl rfl (dF r) e7 (EW (rs:= []) 6 rfl rfl rfl (dF r) e7 (EW (rs:= []) 7 rfl rfl rfl (dF r) e7 (EW (rs:= []) 8 rfl rfl rfl (dF r) e7 (EW (rs:= []) 9 rfl rfl rfl (dF r) e7 (EW (rs:= []) 10 rfl rfl rfl (dF r) e7 (EW (rs:= []) 11 rfl rfl rfl (dF r) e7 (qt (v:= .bool false) 12 rfl (fun _ _=>ES rfl (dF r) rfl) (qa 13 rfl rfl (qn (ER (EP (sr (La (gM a l g n h p j) dz 19 L9 M0 ?_))))))))))))))
 obtain⟨aI,Z⟩:∃ q,l5 a=q:=⟨_,rfl⟩
 obtain⟨mI,gD,aD,gF,lc⟩:=EU dz
 refine cl Tryz.call21 (uE _ _ a l a.aD.ls.length g n a.ai.ls.length h P p a.ag.ls.length j aI gD rfl (aD _ ax) (show a.aD.ls.length≤g∧a.aD.ls.length≤9223372036854775807 from by omega) Q rfl (aD _ ay) (show a.ai.ls.length≤h∧a.ai.ls.length≤9223372036854775807 from by omega) (fun s t=>⟨aD _ (u s t).1,(u s t).2⟩) rfl (aD _ aA) (show a.ag.ls.length≤j∧a.ag.ls.length≤9223372036854775807 from by omega) i3 Z) ?_
 rintro _ mJ ⟨rfl,gG⟩
 have aS:=gF _ _ gG
 have lg: ¬ (aI=0)∨(a.aD.ls.length≤24∧a.ag.ls.length≤1000∧a.ai.ls.length≤1000∧(¬ (a.aM=1)∨11≤a.aP∧a.aP≤14)∧(¬ (a.aM=9)∨1≤a.aP∧a.aP≤4)):=BR Z
 refine fw (.bool (decide (¬ (aI=0)))) (Fs (e:= !(decide (aI=0))) yk decide_not.symm) (Mz rfl ?_)
 by_cases y:aI=0
 refine gw (vP G 2) (dF (IV y)) yk (gw (vI a.fO) (dF (IV y)) (EY rfl (bZ.one C6 (FE (aS.cls (i:=19) rfl) rfl))) (gw (.bool (decide (¬ (a.fO=0)))) (dF (IV y)) (Fs (e:= !(decide (a.fO=0))) yk decide_not.symm) (fw (.bool (decide (¬ (a.fO=0)))) (ES rfl (dF (IV y)) rfl) (Mz rfl ?_))))
 by_cases ak:a.fO=0
 refine gw (.bool false) (dF (IV ak)) (E5 rfl) (fw (.bool false) (ES rfl (dF (IV ak)) rfl) (nt (jf (sk (sr (Mz rfl (Kz (.func (.func 23) #[] #[vP G 0]) ?_)))))))
 refine WL.do rfl (Fe S0 rfl ?_ (fun _ _ k=>k))
 refine cb S1 ?_
 refine sr ?_
 refine dK [.slice none 0 0, .bool false] 47 aS ?_
 intro jw mK aK
 refine ns (Mz rfl (Kz (vP z 0) (Kz (vP z 0) (La ([vI f.aa.ak,vU f.aa.ax,vU f.aa.bi,vU f.aa.aI, .slice dn f.aa.ag.ls.length aV, .slice dw f.aa.aj.ls.length aW, .slice dx f.aa.aF.ls.length aX]) aK 1 S2 I1 ?_))))
 obtain⟨⟨M,eH⟩,bT⟩:∃ q:(List UInt8) × Int,eu f.aa=q:=⟨_,rfl⟩
 obtain⟨mM,gI,lh,gJ,J⟩:=EU aK
 refine cl S3 (jX _ _ f.aa dn f.aa.ag.ls.length aV dw f.aa.aj.ls.length aW iq dx f.aa.aF.ls.length aX iw M eH gI rfl (J _ 2 _ rfl aT) (show f.aa.ag.ls.length≤aV∧f.aa.ag.ls.length≤9223372036854775807 from by omega) B rfl (J _ 3 _ rfl aT) (show f.aa.aj.ls.length≤aW∧f.aa.aj.ls.length≤9223372036854775807 from by omega) (fun s t=>⟨J _ 4 _ rfl (av (O7.2 ⟨s,t,b1⟩) aT),bz (φ:=fun _=>_) aK (i:=4) rfl (av (O7.2 ⟨s,t,b1⟩) bn)⟩) C rfl (J _ 5 _ rfl aT) (show f.aa.aF.ls.length≤aX∧f.aa.aF.ls.length≤9223372036854775807 from by omega) (fun s t=>⟨J _ 6 _ rfl (av (O7.2 ⟨s,t,b1⟩) aT),bz (φ:=fun _=>_) aK (i:=6) rfl (av (O7.2 ⟨s,t,b1⟩) bn),(fun y1 k1=>⟨J _ 6 _ rfl (av (O7.2 ⟨s,t, .tail _ b1⟩) (av (O7.2 ⟨y1,k1,b1⟩) aT)),bz (φ:=fun _=>_) aK (i:=6) rfl (av (O7.2 ⟨s,t, .tail _ b1⟩) (av (O7.2 ⟨y1,k1,b1⟩) bn))⟩)⟩) e8 i4 bT) ?_
 rintro _ mO ⟨bU,bV,rfl,gK,bW⟩
 have eO:=gJ _ _ gK
 have ll:=eO.rowC (i:=0) rfl
 replace bW:M.length≤100000:=bW
 refine Mz rfl (Kz (.slice bU M.length bV) (Kz (vI eH) (Az rfl (Ar rfl (Mz rfl (Kz (.agg #[vP z 0, .slice none 0 0]) ?_))))))
 refine dK [vP z 0, .slice none 0 0] 98 eO ?_
 intro aU eP eQ
 refine Ar rfl (Mz rfl (Mz rfl ?_))
 refine WL.do rfl (Fw Tryz.call23 rfl rfl ?_ (fun _ _ k=>k))
 refine cb Tryz.func23 ?_
 refine EO (Mz rfl (La (gM a l g n h p j) eQ 22 L9 M0 ?_))
 have jA:=eQ.pb [0,1,2,21,22]
 have jB:=fo B C R S T U V W jA
 have jC:Own w D eP [sepL (q6 bA.own ([])),iE z f,blk aU [vP z 0, .slice none 0 0] 98,row bU M.length bV (q6 eB M) 5 1,blk jw [.slice none 0 0, .bool false] 47,blk aM [.slice none 0 0, .bool false] 47,blk G (gM a l g n h p j) 42]:=jB.sepNil
 have jD:Own w D eP (row none 0 0 (q6 bA.cells ([])) 42 21::_):=jC.free (eZ 42 21)
 have jE:=jD.pf [3]
 obtain⟨⟨N,d⟩,aP⟩:∃ q:bO × aB,jd (bO.mk (E4 ([]))) a f=q:=⟨_,rfl⟩
 obtain⟨mQ,gL,aF,gN,lm⟩:=FM jE
 refine cl Tryz.call24 (q8 _ _ aU (bO.mk (E4 ([]))) none 0 ([]) a l a.aD.ls.length g n a.ai.ls.length h P p a.ag.ls.length j z f N d gL rfl rfl (aF _ ax) (show a.aD.ls.length≤g∧a.aD.ls.length≤9223372036854775807 from by omega) Q rfl (aF _ ay) (show a.ai.ls.length≤h∧a.ai.ls.length≤9223372036854775807 from by omega) (fun s t=>⟨aF _ (u s t).1,(u s t).2⟩) rfl (aF _ aA) (show a.ag.ls.length≤j∧a.ag.ls.length≤9223372036854775807 from by omega) e8 f5 e8 j0 e8 aP) ?_
 rintro _ mR ⟨aa,ae,jG,rfl,gP,bX⟩
 have eT:=gN _ _ gP
 have lq:=az bX
 have lu:=eT.rowC (i:=1) rfl
 have bY:=vD aP (qJ f5 f5) e6 e6
 have lv:Mk d:=bY.2 f5
 have lw:d.aa.ag.ls.length=f.aa.ag.ls.length∧d.aa.ak=f.aa.ak∧d.aA.ls.length+d.aa.aj.ls.length≤8∧d.aa.aF.ls.length≤f.aa.aF.ls.length+1:=GK bY.1 e6
 refine D0 (Ff (res0 rfl) (nt (EP ?_)))
 have jH:=eT.pf [3]
 obtain⟨eU,cu,eX,cz,jI,eY,cB,jK,mU,mV,mW,mX,mY,mZ,ng,ni,nk,nu,ny,nz,nA,nC,nD,nE,nG,nH,cK,cO,gQ,gT,gU,gV,gW,gX,lC,aL⟩:=jJ jH
 refine EO (Mz rfl (Kz (vP z 0) (Kz (vP z 0) (La ([vI d.aa.ak,vU d.aa.ax,vU d.aa.bi,vU d.aa.aI, .slice eU d.aa.ag.ls.length cu, .slice eX d.aa.aj.ls.length cz, .slice eY d.aa.aF.ls.length cB]) aL 0 S2 I1 ?_))))
 obtain⟨⟨au,fe⟩,cZ⟩:∃ q:(List UInt8) × Int,eu d.aa=q:=⟨_,rfl⟩
 obtain⟨nI,gY,lD,gZ,K⟩:=EU aL
 refine cl S3 (jX _ _ d.aa eU d.aa.ag.ls.length cu eX d.aa.aj.ls.length cz jI eY d.aa.aF.ls.length cB jK au fe gY rfl (K _ 1 _ rfl aT) (show d.aa.ag.ls.length≤cu∧d.aa.ag.ls.length≤9223372036854775807 from by omega) cK rfl (K _ 2 _ rfl aT) (show d.aa.aj.ls.length≤cz∧d.aa.aj.ls.length≤9223372036854775807 from by omega) (fun s t=>⟨K _ 3 _ rfl (av (O7.2 ⟨s,t,b1⟩) aT),bz (φ:=fun _=>_) aL (i:=3) rfl (av (O7.2 ⟨s,t,b1⟩) bn)⟩) cO rfl (K _ 4 _ rfl aT) (show d.aa.aF.ls.length≤cB∧d.aa.aF.ls.length≤9223372036854775807 from by omega) (fun s t=>⟨K _ 5 _ rfl (av (O7.2 ⟨s,t,b1⟩) aT),bz (φ:=fun _=>_) aL (i:=5) rfl (av (O7.2 ⟨s,t,b1⟩) bn),(fun y1 k1=>⟨K _ 5 _ rfl (av (O7.2 ⟨s,t, .tail _ b1⟩) (av (O7.2 ⟨y1,k1,b1⟩) aT)),bz (φ:=fun _=>_) aL (i:=5) rfl (av (O7.2 ⟨s,t, .tail _ b1⟩) (av (O7.2 ⟨y1,k1,b1⟩) bn))⟩)⟩) e8 i4 cZ) ?_
 rintro _ nJ ⟨fq,fu,rfl,ib,df⟩
 have fA:=gZ _ _ ib
 have lF:=fA.rowC (i:=0) rfl
 replace df:au.length≤100000:=df
 refine Mz rfl (Kz (.slice fq au.length fu) (Kz (vI fe) (Az rfl (An rfl (EP ?_)))))
 have jM:=fA.pb [23]
 refine oF 25 [] (E9 Fp) jM ?_
 intro nK jN
 refine qv 0 rfl rfl (qp aU 0 1 rfl (qp aU 1 2 rfl (ql 3 rfl 19 S4 rfl rfl rfl (qv 4 rfl rfl (qv 5 rfl rfl ?_)))))
 obtain⟨F,dh⟩:∃ q,bytes_Equal M au=q:=⟨_,rfl⟩
 obtain⟨nL,ic,lG,ig,di⟩:=EU jN
 refine qd 6 rfl (Fe S5 rfl (qK _ _ bU M.length bV M fq au.length fu au F ic (di _ 22 _ rfl aT) rfl e6 (di _ 0 _ rfl aT) rfl e6 dh) ?_)
 rintro _ nM ⟨rfl,ik⟩
 have fB:=ig _ _ ik
 refine⟨.inr ⟨_,fB⟩, ?_⟩
 refine qk (.bool (!F)) 7 rfl (qk (.agg #[.slice aa N.bE.ls.length ae, .bool (!F)]) 8 rfl ?_)
 have jO:=fB.pf [25]
 refine qe 9 rfl (Do.store (vs:= [.slice aa N.bE.ls.length ae, .bool (!F)]) (o:=0) jO rfl rfl R8 rfl rfl rfl rfl ?_)
 intro nN jP
 have dm:=jP.pb [0]
 refine⟨.inr ⟨_,dm⟩, ?_⟩
 refine qn (ER (rt (Fin.res (mP rfl rfl (Fb (cs:= [.slice aa N.bE.ls.length ae, .bool (!F)]) R9 R8 ((dm.cls (i:=25) rfl).lit (k:=0) (m:=2) rfl))) ?_)))
 have jQ:=dm.pf [23]
 refine dN [.slice aa N.bE.ls.length ae, .bool (!F)] 0 jQ R8 ?_
 intro nO fC
 refine An rfl (rt (Fin.res (ku (vs:= [.agg #[.slice aa N.bE.ls.length ae, .bool (!F)],vI 0]) rfl (dR.cell rfl (Fb (cs:= [.slice aa N.bE.ls.length ae, .bool (!F)]) R9 R8 ((fC.cls (i:=0) rfl).lit (k:=0) (m:=2) rfl)) (dR.tmp rfl dR.nil)) (IQ rfl)) ?_))
 have jR:=fC.pb [0,1,20,21,22,23,24,25]
 have jS:=fo cK cO gQ gT gU gV gW gX jR
 have jU:=jS.pk [4,5,0]
 obtain⟨rfl,rfl,rfl⟩:=yN (hr.symm.trans (show _=(jL.mk (E4 N.bE.ls) (!F),0,d) from et (iN r) (et (ah Z) (et (ip y) (et (ip ak) (et (ah bT) (et (ah aP) (et (ah cZ) (ah dh)))))))))
 exact⟨aa,ae,jG,rfl,jU,bX,i1,f5⟩
 refine Sz (dT ak) (fw (.bool true) (Fa rfl (dT ak) rfl) (nt (jt (sr (Kz (.agg #[.slice none 0 0, .bool false]) ?_)))))
 have jV:=aS.pf [18]
 refine dN [.slice none 0 0, .bool false] 0 jV R8 ?_
 intro fD fE
 refine An rfl (rt (tR (Fin.res (ku (vs:= [.agg #[.slice none 0 0, .bool false],vI 180]) rfl (dR.cell rfl (Fb (cs:= [.slice none 0 0, .bool false]) R9 R8 ((fE.cls (i:=0) rfl).lit (k:=0) (m:=2) rfl)) (dR.tmp rfl dR.nil)) (IQ rfl)) ?_)))
 have jW:=fE.pb [0,19]
 have jY:=fo B C R S T U V W jW
 have jZ:Own w D fD [sepL (q6 bA.own ([])),iE z f,blk aM [.slice none 0 0, .bool false] 47,blk G (gM a l g n h p j) 42]:=jY.sepNil
 have j3:Own w D fD (row none 0 0 (q6 bA.cells ([])) 42 21::_):=jZ.free (eZ 42 21)
 have j4:=j3.pk [0,1,2]
 obtain⟨rfl,rfl,rfl⟩:=yN (hr.symm.trans (show _=(jL.mk (E4 ([])) false,180,f) from et (iN r) (et (ah Z) (et (ip y) (iN ak)))))
 exact⟨none,0, [],rfl,j4,rfl,i1,f5⟩
 refine Sz (dT y) (Sz (dT y) (Sz (dT y) (fw (.bool true) (Fa rfl (dT y) rfl) (Mz rfl (Sz rfl (fw (.bool true) (Fa rfl rfl rfl) (nt (jt (sr (Kz (.agg #[.slice none 0 0, .bool false]) ?_))))))))))
 have j5:=aS.pf [18]
 refine dN [.slice none 0 0, .bool false] 0 j5 R8 ?_
 intro fF fG
 refine An rfl (rt (tR (Fin.res (ku (vs:= [.agg #[.slice none 0 0, .bool false],vI 180]) rfl (dR.cell rfl (Fb (cs:= [.slice none 0 0, .bool false]) R9 R8 ((fG.cls (i:=0) rfl).lit (k:=0) (m:=2) rfl)) (dR.tmp rfl dR.nil)) (IQ rfl)) ?_)))
 have j6:=fG.pb [0,19]
 have kg:=fo B C R S T U V W j6
 have ko:Own w D fF [sepL (q6 bA.own ([])),iE z f,blk aM [.slice none 0 0, .bool false] 47,blk G (gM a l g n h p j) 42]:=kg.sepNil
 have kr:Own w D fF (row none 0 0 (q6 bA.cells ([])) 42 21::_):=ko.free (eZ 42 21)
 have kv:=kr.pk [0,1,2]
 obtain⟨rfl,rfl,rfl⟩:=yN (hr.symm.trans (show _=(jL.mk (E4 ([])) false,180,f) from et (iN r) (et (ah Z) (iN y))))
 exact⟨none,0, [],rfl,kv,rfl,i1,f5⟩
def iG (b:aB):dA:=
 bnd (jh b.aa) fun a=>a
set_option maxHeartbeats 4000000 in
theorem pg (w:World) (D:Nat→Prop) (M:Nat) (b:aB) (d:dA) (H:Own w D w [iE M b]) (aL:b.aa.ag.ls.length≤1000∧b.aA.ls.length+b.aa.aj.ls.length≤8∧b.aa.aF.ls.length≤900) (aM:Mk b) (hr:iG b=d):
    Calls y4 11 #[vP M 0] w (dS fun v w'=> ∃ (l:Option Addr) (n:Nat) (o:Option Addr) (p:Nat) (r:Option Addr) (s:Nat) (e:List ay) (f:List aV),v= .agg #[vI d.ak,vU d.ax,vU d.bi,vU d.aI, .slice l d.ag.ls.length n, .slice o d.aj.ls.length p, .slice r d.aF.ls.length s]∧Own w D w' [row l d.ag.ls.length n (q6 bv.cells d.ag.ls) 89 2,row o d.aj.ls.length p (q6 ay.cells e) 60 5,sepL (q6 ay.own e),row r d.aF.ls.length s (q6 aV.cells f) 56 4,sepL (q6 aV.own f),iE M b]∧(s8 ay.abs e=d.aj.ls)∧(s8 aV.abs f=d.aF.ls)):=by
 refine cb Tryz.func11 ?_
 obtain⟨N,A,O,B,aa,P,C,ae,aN,aO,aP,aQ,aR,aS,aU,aW,aX,aY,aZ,bf,bg,bi,bq,bu,bA,bB,t,u,Q,R,S,T,U,V,aA,af⟩:=jJ H
 refine sr ?_
 refine dK [vI 0, .int .u64 0, .int .u64 0, .int .u64 0, .slice none 0 0, .slice none 0 0, .slice none 0 0] 33 af ?_
 intro bC bD g
 refine ns (Mz rfl (Kz (vP M 0) (Kz (vP M 0) (La ([vI b.aa.ak,vU b.aa.ax,vU b.aa.bi,vU b.aa.aI, .slice N b.aa.ag.ls.length A, .slice O b.aa.aj.ls.length B, .slice P b.aa.aF.ls.length C]) g 1 S2 I1 ?_))))
 obtain⟨a,x⟩:∃ q,jh b.aa=q:=⟨_,rfl⟩
 obtain⟨bE,W,aC,X,c⟩:=EU g
 refine cl Tryz.call20 (oh _ _ b.aa N b.aa.ag.ls.length A O b.aa.aj.ls.length B aa P b.aa.aF.ls.length C ae a W rfl (c _ 2 _ rfl aT) (show b.aa.ag.ls.length≤A∧b.aa.ag.ls.length≤9223372036854775807 from by omega) t rfl (c _ 3 _ rfl aT) (show b.aa.aj.ls.length≤B∧b.aa.aj.ls.length≤9223372036854775807 from by omega) (fun E h=>⟨c _ 4 _ rfl (av (O7.2 ⟨E,h,b1⟩) aT),bz (φ:=fun _=>_) g (i:=4) rfl (av (O7.2 ⟨E,h,b1⟩) bn)⟩) u rfl (c _ 5 _ rfl aT) (show b.aa.aF.ls.length≤C∧b.aa.aF.ls.length≤9223372036854775807 from by omega) (fun E h=>⟨c _ 6 _ rfl (av (O7.2 ⟨E,h,b1⟩) aT),bz (φ:=fun _=>_) g (i:=6) rfl (av (O7.2 ⟨E,h,b1⟩) bn),(fun y1 k1=>⟨c _ 6 _ rfl (av (O7.2 ⟨E,h, .tail _ b1⟩) (av (O7.2 ⟨y1,k1,b1⟩) aT)),bz (φ:=fun _=>_) g (i:=6) rfl (av (O7.2 ⟨E,h, .tail _ b1⟩) (av (O7.2 ⟨y1,k1,b1⟩) bn))⟩)⟩) e8 (by first | assumption | exact zH f5 | exact fun _ h=>absurd h B3) (by first | assumption | exact zI f5 | exact fun _ h=>absurd h B3) x) ?_
 rintro _ bF ⟨F,G,I,J,K,L,ag,ai,rfl,Y,y,z⟩
 have j:=X _ _ Y
 have aG:=az y
 have aH:=az z
 have aI:=j.rowC (i:=0) rfl
 have aJ:=j.rowC (i:=1) rfl
 have aK:=j.rowC (i:=3) rfl
 have aj:=j.pf [5]
 refine dN [vI a.ak,vU a.ax,vU a.bi,vU a.aI, .slice F a.ag.ls.length G, .slice I a.aj.ls.length J, .slice K a.aF.ls.length L] 0 aj I1 ?_
 intro bG Z
 refine nt (rt (Fin.res (mP rfl rfl (Fb (cs:= [vI a.ak,vU a.ax,vU a.bi,vU a.aI, .slice F a.ag.ls.length G, .slice I a.aj.ls.length J, .slice K a.aF.ls.length L]) S2 I1 ((Z.cls (i:=0) rfl).lit (k:=0) (m:=7) rfl))) ?_))
 have ak:=Z.pb [0,1,2,3,4,5]
 have au:=fo t u Q R S T U V ak
 have ax:=au.px [] [1] [0]
 obtain rfl:_=a:=hr.symm.trans (ah x)
 exact⟨F,G,I,J,K,L,ag,ai,rfl,ax,y,z⟩
def gJ:List dH→List Nat→(List Nat)
  | [],a=>a
  | b::c,a=>gJ c (a++ [b.bq])
def gG (a:aB):(List Nat):=
 bnd (gJ a.aA.ls ([])) fun sLrL=>sLrL
set_option maxHeartbeats 4000000 in
theorem oN (w:World) (D:Nat→Prop) (X:Nat) (a:aB) (Z:List Nat) (H:Own w D w [iE X a]) (bC:a.aa.ag.ls.length≤1000∧a.aA.ls.length+a.aa.aj.ls.length≤8∧a.aa.aF.ls.length≤900) (hr:gG a=Z):
    Calls y4 15 #[vP X 0] w (dS fun v w'=> ∃ (B0:Option Addr) (b0:Nat),v= .slice B0 Z.length b0∧Own w D w' [row B0 Z.length b0 (q6 (eN .u64) Z) 28 1,iE X a]∧(Z.length≤a.aA.ls.length)):=by
 refine cb Tryz.func15 ?_
 obtain⟨p,r,t,u,x,z,A,B,h,l,n,C,E,F,G,I,J,K,L,M,N,O,P,Q,R,S,aa,ae,V,ag,ai,aj,ak,au,aX,ax⟩:=jJ H
 refine sr (Ar rfl (An rfl (EP (sr (Mz rfl (Kz (vP X 0) (Kz (vP X 8) (Lz (.slice h a.aA.ls.length l) ax 0 Tryz.isAgg79 (Kz (vJ a.aA.ls.length) (Mn rfl (bo ?_)))))))))))
 have aI:Own w D w [row none 0 0 (q6 (eN .u64) ([])) 28 1,blk X [vI a.aa.ak,vU a.aa.ax,vU a.aa.bi,vU a.aa.aI, .slice p a.aa.ag.ls.length r, .slice t a.aa.aj.ls.length u, .slice z a.aa.aF.ls.length A,vU a.bH, .slice h a.aA.ls.length l, .bool a.aQ.aR,vU a.aQ.aH,vI a.aQ.aZ, .slice C a.aQ.ae.ls.length E, .bool a.aO.aR,vU a.aO.aH,vI a.aO.aZ, .slice G a.aO.ae.ls.length I, .bool a.aL.aR,vU a.aL.aH,vI a.aL.aZ, .slice K a.aL.ae.ls.length L, .bool a.aN.aR,vU a.aN.aH,vI a.aN.aZ, .slice N a.aN.ae.ls.length O, .bool a.aK.aR,vU a.aK.aH,vI a.aK.aZ, .slice Q a.aK.ae.ls.length R,vU a.df,vU a.cu,vU a.cz,vU a.cB,vU a.cK, .pointer none] 86,row p a.aa.ag.ls.length r (q6 bv.cells a.aa.ag.ls) 89 2,row t a.aa.aj.ls.length u (q6 ay.cells x) 60 5,sepL (q6 ay.own x),row z a.aa.aF.ls.length A (q6 aV.cells B) 56 4,sepL (q6 aV.own B),row h a.aA.ls.length l (q6 bB.cells n) 107 9,sepL (q6 bB.own n),row C a.aQ.ae.ls.length E (q6 af.cells F) 149 3,sepL (q6 af.own F),row G a.aO.ae.ls.length I (q6 af.cells J) 149 3,sepL (q6 af.own J),row K a.aL.ae.ls.length L (q6 af.cells M) 149 3,sepL (q6 af.own M),row N a.aN.ae.ls.length O (q6 af.cells P) 149 3,sepL (q6 af.own P),row Q a.aK.ae.ls.length R (q6 af.cells S) 149 3,sepL (q6 af.own S)]:=ax.free (eZ 28 1)
 have aJ:=aI.pb [0]
 obtain⟨aK,o⟩:=rD fun(T:Option Addr) (U:Nat) (f:List Nat) (d:Nat) (w':World)=>Own w D w' [blk X [vI a.aa.ak,vU a.aa.ax,vU a.aa.bi,vU a.aa.aI, .slice p a.aa.ag.ls.length r, .slice t a.aa.aj.ls.length u, .slice z a.aa.aF.ls.length A,vU a.bH, .slice h a.aA.ls.length l, .bool a.aQ.aR,vU a.aQ.aH,vI a.aQ.aZ, .slice C a.aQ.ae.ls.length E, .bool a.aO.aR,vU a.aO.aH,vI a.aO.aZ, .slice G a.aO.ae.ls.length I, .bool a.aL.aR,vU a.aL.aH,vI a.aL.aZ, .slice K a.aL.ae.ls.length L, .bool a.aN.aR,vU a.aN.aH,vI a.aN.aZ, .slice N a.aN.ae.ls.length O, .bool a.aK.aR,vU a.aK.aH,vI a.aK.aZ, .slice Q a.aK.ae.ls.length R,vU a.df,vU a.cu,vU a.cz,vU a.cB,vU a.cK, .pointer none] 86,row p a.aa.ag.ls.length r (q6 bv.cells a.aa.ag.ls) 89 2,row t a.aa.aj.ls.length u (q6 ay.cells x) 60 5,sepL (q6 ay.own x),row z a.aa.aF.ls.length A (q6 aV.cells B) 56 4,sepL (q6 aV.own B),row h a.aA.ls.length l (q6 bB.cells n) 107 9,sepL (q6 bB.own n),row C a.aQ.ae.ls.length E (q6 af.cells F) 149 3,sepL (q6 af.own F),row G a.aO.ae.ls.length I (q6 af.cells J) 149 3,sepL (q6 af.own J),row K a.aL.ae.ls.length L (q6 af.cells M) 149 3,sepL (q6 af.own M),row N a.aN.ae.ls.length O (q6 af.cells P) 149 3,sepL (q6 af.own P),row Q a.aK.ae.ls.length R (q6 af.cells S) 149 3,sepL (q6 af.own S),row T f.length U (q6 (eN .u64) f) 28 1]∧d≤a.aA.ls.length∧f.length=d∧f.length≤d∧gJ a.aA.ls ([])=gJ (r6 d a.aA.ls) f
 refine C5 (fun i:(Option Addr) × Nat × (List Nat) × Nat=> [(3, .slice i.1 i.2.2.1.length i.2.1),(11,vJ i.2.2.2),(10,vJ a.aA.ls.length),(9, .slice h a.aA.ls.length l),(2, .slice none 0 0)]) aK (fun i=>a.aA.ls.length - i.2.2.2) (none,0, [],0) ⟨rfl,rfl,rfl,rfl,rfl,trivial⟩ (o.2 ⟨aJ,(show 0≤a.aA.ls.length∧0=0∧0≤0∧gJ a.aA.ls ([])=gJ (r6 0 a.aA.ls) ([]) from ⟨e6,e6,e6,rfl⟩)⟩) ?_
 rintro ⟨T,U,f,d⟩ bD az
 obtain⟨j,aY,aZ,bf,W⟩:=o.1 az
 refine sr (Kz (.bool (decide (((d:Nat):Int) < ((a.aA.ls.length:Nat):Int)))) (nt (EP ?_)))
 by_cases aA:((d:Nat):Int) < ((a.aA.ls.length:Nat):Int)
 obtain⟨b,g⟩:=dG (ls:=n) (i:=d) bB.len f3 (j.rds (i:=6) rfl) e9
 have aC:=eP V g
 have bg:b.bS.ls.length≤b.bS.c∧b.bS.ls.length≤9223372036854775807:=bz j (i:=7) rfl (φ:=fun _=>_) (av (O7.2 ⟨b,E0 g,b1⟩) bn)
 have bi:b.aC.ls.length≤b.aC.c∧b.aC.ls.length≤9223372036854775807:=bz j (i:=7) rfl (φ:=fun _=>_) (av (O7.2 ⟨b,E0 g, .tail _ b1⟩) bn)
 have bq:b.bF.ls.length≤b.bF.c∧b.bF.ls.length≤9223372036854775807:=bz j (i:=7) rfl (φ:=fun _=>_) (av (O7.2 ⟨b,E0 g, .tail _ b2⟩) bn)
 have bu:b.ae.ls.length≤b.ae.c∧b.ae.ls.length≤9223372036854775807:=bz j (i:=7) rfl (φ:=fun _=>_) (av (O7.2 ⟨b,E0 g, .tail _ b3⟩) bn)
 have aD:=drop_at aC
 refine jT (dT aA) (sk (EP (bo (sr (fw (.pointer (some ⟨ab h,ao h+d *9,none⟩)) (ET (oQ) rfl rfl ((j.rds (i:=6) rfl).addr (i:=d) e6) e6) (fw (.agg (bB.cells b).toArray) (EY rfl (Fb (cs:=(bB.cells b)) Tryz.isAgg107 Tryz.sizeOf107 ((j.rds (i:=6) rfl).elem bB.len g f3))) ?_))))))
 refine dK (qC 0 0 0 0 none 0 0 none 0 0 none 0 0 none 0 0 0) 107 j ?_
 intro aL bE aM
 refine dN (bB.cells b) 0 aM Tryz.sizeOf107 ?_
 intro bF aF
 refine nt (EO (Mz rfl (Kz (vP aL 0) (Lz (vU b.bq) aF 0 E1 ?_))))
 refine kG [vU b.bq] 28 1 1 aF ?_
 intro aN bG Y
 replace Y:=Fx (y:=row aN 1 1 (q6 (eN .u64) ([b.bq])) 28 1) rfl Y
 have aG:=Y.pf [20]
 refine WL.do rfl (Fy (k:=f.length) (m:=1) (sO) aG rfl rfl (iM Tryz.underlying61 (aG.rds (i:=1) rfl) (fu Dq ([b.bq]))) rfl e6 (s:=List.length (f++ [b.bq])) f7 (List.flatMap_append).symm ?_)
 intro aO aP bH aQ
 have bA:List.length (f++ [b.bq])=f.length+1:=by simp only [List.length_append,List.length_cons,List.length_nil]
 refine Az rfl (D0 (bN (ER (EO (fw (vJ (d+1)) (EQ (e:=C7.wrap (((d:Nat):Int)+1)) yk f1) (Mz rfl (D0 ?_)))))))
 have aR:=aQ.px [] [1,2] [0]
 exact E8 (aO,aP,(f++ [b.bq]),d+1) ⟨rfl,rfl,rfl,rfl,rfl,trivial⟩ (o.2 ⟨aR,e6,e6,e6,et (W) (et (congrArg (fun q=>gJ q f) aD) rfl)⟩) (by show a.aA.ls.length - (d+1) < a.aA.ls.length - d; omega)
 refine jF (dF aA) (D1 (EX ?_))
 have aH:gJ a.aA.ls ([])=f:=et (W) (et (congrArg (fun q=>gJ q f) (eD (ls:=a.aA.ls) (i:=d) e6)) rfl)
 refine EX (Fg (ER (sr (Mz rfl (An rfl (rt (rs ?_)))))))
 have aS:=fo aa ae V ag ai aj ak au j
 have aT:=aS.pb [0]
 obtain rfl:_=f:=hr.symm.trans (ah aH)
 exact⟨T,U,rfl,aT,i1⟩
def fB (g:aB) (f:List UInt8):List Nat→List bQ→aB→(List bQ) × aB
  | [],a,b=>(a,b)
  | d::e,a,b=>bnd (kF (bO.mk (E4 a)) d b) fun c=>fB g f e c.1.bE.ls c.2
def iV (g:aB) (f:List UInt8) (d:aB):List bL→List bQ→(List bQ)
  | [],a=>a
  | b::e,a=>bnd (fq (bO.mk (E4 a)) b.bf b.ak.ls true) fun c=>iV g f d e c.bE.ls
def eT (e:List UInt8) (a:aB):Nat→Nat→List bQ→(List bQ)
  | 0,b,c=>default
  | d+1,b,c=>if((b:Nat):Int)≤a.aa.ak then if((b:Nat):Int)=1 then if((a.cu:Nat):Int) ≥ ((a.aa.bi:Nat):Int) then eT e a d (b+1) c else bnd (dB (bO.mk (E4 c)) (bQ.mk 8 0 ((b:Nat):Int) 0 0 0 0 0 0 0 a.aa.bi a.aa.aI 0 0 0 false (bK.mk ([]) ([])) (E4 ([])) (E4 ([])) (E4 a.aa.ag.ls))) fun f=>eT e a d (b+1) f.bE.ls else if((b:Nat):Int)=2 then if((a.cz:Nat):Int) ≥ ((a.aa.bi:Nat):Int) then eT e a d (b+1) c else bnd (dB (bO.mk (E4 c)) (bQ.mk 8 0 ((b:Nat):Int) 0 0 0 0 0 0 0 a.aa.bi a.aa.aI 0 0 0 false (bK.mk ([]) ([])) (E4 ([])) (E4 ([])) (E4 a.aa.ag.ls))) fun g=>eT e a d (b+1) g.bE.ls else if((b:Nat):Int)=3 then if((a.cB:Nat):Int) ≥ ((a.aa.bi:Nat):Int) then eT e a d (b+1) c else bnd (dB (bO.mk (E4 c)) (bQ.mk 8 0 ((b:Nat):Int) 0 0 0 0 0 0 0 a.aa.bi a.aa.aI 0 0 0 false (bK.mk ([]) ([])) (E4 ([])) (E4 ([])) (E4 a.aa.ag.ls))) fun h=>eT e a d (b+1) h.bE.ls else if((a.cK:Nat):Int) ≥ ((a.aa.bi:Nat):Int) then eT e a d (b+1) c else bnd (dB (bO.mk (E4 c)) (bQ.mk 8 0 ((b:Nat):Int) 0 0 0 0 0 0 0 a.aa.bi a.aa.aI 0 0 0 false (bK.mk ([]) ([])) (E4 ([])) (E4 ([])) (E4 a.aa.ag.ls))) fun i=>eT e a d (b+1) i.bE.ls else c
def je (d:aB):jL × aB:=
 bnd (eu d.aa) fun a=>bnd (gG d) fun e=>bnd (fB d a.1 e ([]) d) fun sLrbbL=>bnd (iV d a.1 sLrbbL.2 sLrbbL.2.aa.aj.ls sLrbbL.1) fun sLrbbLaL=>bnd (eT a.1 sLrbbL.2 ((D2 (d.aa.ak+1 - 1))+1) 1 sLrbbLaL) fun sLrbbLaLaL=>bnd (eu sLrbbL.2.aa) fun b=>bnd (bytes_Equal a.1 b.1) fun c=>(jL.mk (E4 sLrbbLaLaL) (!c),sLrbbL.2)
set_option maxHeartbeats 4000000 in
theorem tX (w:World) (D:Nat→Prop) (f:Nat) (j:aB) (r0:jL) (r1:aB) (H:Own w D w [iE f j]) (pO:j.aa.ag.ls.length≤1000∧j.aA.ls.length+j.aa.aj.ls.length≤8∧j.aa.aF.ls.length≤900∧j.aa.ak≤4) (pQ:Mk j) (hr:je j=(r0,r1)):
    Calls y4 14 #[vP f 0] w (dS fun v w'=> ∃ (dL:Option Addr) (dM:Nat) (aX:List bA),v= .agg #[.slice dL r0.ed.ls.length dM, .bool r0.iD]∧Own w D w' [row dL r0.ed.ls.length dM (q6 bA.cells aX) 42 21,sepL (q6 bA.own aX),iE f r1]∧(s8 bA.abs aX=r0.ed.ls)∧(r1.aa.ag.ls.length=j.aa.ag.ls.length∧r1.aa.ak=j.aa.ak∧r1.aA.ls.length+r1.aa.aj.ls.length≤8∧r1.aa.aF.ls.length≤j.aa.aF.ls.length+0)∧(Mk r1)):=by
 refine cb Tryz.func14 ?_
 refine sr ?_
 refine dK [.slice none 0 0, .bool false] 47 H ?_
 intro gD pR lY
 refine ns (Mz rfl ?_)
 refine WL.do rfl (Fe S0 rfl ?_ (fun _ _ k=>k))
 refine cb S1 ?_
 refine sr ?_
 refine dK [.slice none 0 0, .bool false] 47 lY ?_
 intro gF pU lZ
 refine nt (EP ?_)
 have l5:=lZ.pf [2]
 obtain⟨jg,gI,jh,gJ,l6,ji,gK,l7,pV,pW,pX,pY,p8,p9,qb,qc,qf,qg,qh,qi,qj,qm,qo,qw,qx,qy,dO,dP,jk,jl,jm,jo,jq,jr,nN,aY⟩:=jJ l5
 refine EO (Mz rfl (Kz (vP f 0) (Kz (vP f 0) (La ([vI j.aa.ak,vU j.aa.ax,vU j.aa.bi,vU j.aa.aI, .slice jg j.aa.ag.ls.length gI, .slice jh j.aa.aj.ls.length gJ, .slice ji j.aa.aF.ls.length gK]) aY 0 S2 I1 ?_))))
 obtain⟨⟨n,jv⟩,dQ⟩:∃ q:(List UInt8) × Int,eu j.aa=q:=⟨_,rfl⟩
 obtain⟨qz,jw,nO,jy,aa⟩:=EU aY
 refine cl S3 (jX _ _ j.aa jg j.aa.ag.ls.length gI jh j.aa.aj.ls.length gJ l6 ji j.aa.aF.ls.length gK l7 n jv jw rfl (aa _ 1 _ rfl aT) (show j.aa.ag.ls.length≤gI∧j.aa.ag.ls.length≤9223372036854775807 from by omega) dO rfl (aa _ 2 _ rfl aT) (show j.aa.aj.ls.length≤gJ∧j.aa.aj.ls.length≤9223372036854775807 from by omega) (fun x9 Y=>⟨aa _ 3 _ rfl (av (O7.2 ⟨x9,Y,b1⟩) aT),bz (φ:=fun _=>_) aY (i:=3) rfl (av (O7.2 ⟨x9,Y,b1⟩) bn)⟩) dP rfl (aa _ 4 _ rfl aT) (show j.aa.aF.ls.length≤gK∧j.aa.aF.ls.length≤9223372036854775807 from by omega) (fun x9 Y=>⟨aa _ 5 _ rfl (av (O7.2 ⟨x9,Y,b1⟩) aT),bz (φ:=fun _=>_) aY (i:=5) rfl (av (O7.2 ⟨x9,Y,b1⟩) bn),(fun y1 k1=>⟨aa _ 5 _ rfl (av (O7.2 ⟨x9,Y, .tail _ b1⟩) (av (O7.2 ⟨y1,k1,b1⟩) aT)),bz (φ:=fun _=>_) aY (i:=5) rfl (av (O7.2 ⟨x9,Y, .tail _ b1⟩) (av (O7.2 ⟨y1,k1,b1⟩) bn))⟩)⟩) e8 i4 dQ) ?_
 rintro _ qA ⟨aZ,bf,rfl,jC,dR⟩
 have jD:=jy _ _ jC
 have nP:=jD.rowC (i:=0) rfl
 replace dR:n.length≤100000:=dR
 refine Mz rfl (Kz (.slice aZ n.length bf) (Kz (vI jv) (Az rfl (Ar rfl (Mz rfl (Kz (.agg #[vP f 0, .slice none 0 0]) ?_))))))
 refine dK [vP f 0, .slice none 0 0] 98 jD ?_
 intro d qB jE
 refine Ar rfl (Mz rfl (Mz rfl ?_))
 refine WL.do rfl (Fw Tryz.call25 rfl rfl ?_ (fun _ _ k=>k))
 refine cb Tryz.func25 ?_
 refine EP (sr (Mz rfl (Kz (vP d 0) (Kz (vP d 0) (Lz (vP f 0) jE 0 N7 ?_)))))
 have l8:=jE.pb [0,1,20,21]
 have l9:=fo dO dP jk jl jm jo jq jr l8
 obtain⟨u,dU⟩:∃ q,gG j=q:=⟨_,rfl⟩
 obtain⟨qC,jG,nQ,jH,nR⟩:=Fu l9
 refine cl Tryz.call15 (oN _ _ f j u jG e8 dU) ?_
 rintro _ jI ⟨bg,gL,rfl,jK,dV⟩
 have jM:=jH _ _ jK
 have nS:=jM.rowC (i:=0) rfl
 replace dV:u.length≤j.aA.ls.length:=dV
 refine Kz (vJ u.length) (Mn rfl (bo ?_))
 have ma:Own w D jI (sepL (q6 bA.own ([]))::_):=jM.sepNil
 have mf:Own w D jI (row none 0 0 (q6 bA.cells ([])) 42 21::_):=ma.free (eZ 42 21)
 have jN:=mf.pb [0,1]
 obtain⟨jO,aJ⟩:=Du fun(s:Nat) (ax:Option Addr) (aA:Nat) (ae:List bA) (y:List bQ) (a:aB) (w':World)=>Own w D w' [row bg u.length gL (q6 (eN .u64) u) 28 1,iE f a,blk d [vP f 0, .slice ax y.length aA] 98,row aZ n.length bf (q6 eB n) 5 1,blk gF [.slice none 0 0, .bool false] 47,blk gD [.slice none 0 0, .bool false] 47,row ax y.length aA (q6 bA.cells ae) 42 21,sepL (q6 bA.own ae)]∧s8 bA.abs ae=y∧s≤u.length∧y.length≤6 *s∧(a.aa.ag.ls.length=j.aa.ag.ls.length∧a.aa.ak=j.aa.ak∧a.aA.ls.length+a.aa.aj.ls.length≤8∧a.aa.aF.ls.length≤j.aa.aF.ls.length)∧Mk a∧fB j n u ([]) j=fB j n (r6 s u) y a
 refine C5 (fun i:Nat × (Option Addr) × Nat × (List bA) × (List bQ) × aB=> [(13,vJ i.1),(12,vJ u.length),(11, .slice bg u.length gL),(0,vP d 0)]) jO (fun i=>u.length - i.1) (0,none,0, [], [],j) ⟨rfl,rfl,rfl,rfl,trivial⟩ (aJ.2 ⟨jN,(show s8 bA.abs ([])=([])∧0≤u.length∧0≤6 *0∧(j.aa.ag.ls.length=j.aa.ag.ls.length∧j.aa.ak=j.aa.ak∧j.aA.ls.length+j.aa.aj.ls.length≤8∧j.aa.aF.ls.length≤j.aa.aF.ls.length)∧Mk j∧fB j n u ([]) j=fB j n (r6 0 u) ([]) j from ⟨by exact rfl,e6,e6,e6,f5,rfl⟩)⟩) ?_
 rintro ⟨s,ax,aA,ae,y,a⟩ nT gM
 obtain⟨aC,aK,mg,mh,mi,mo,bi⟩:=aJ.1 gM
 have mq:=az aK
 refine sr (Kz (.bool (decide (((s:Nat):Int) < ((u.length:Nat):Int)))) (nt (EP ?_)))
 by_cases dW:((s:Nat):Int) < ((u.length:Nat):Int)
 obtain⟨bq,bu⟩:=dG (ls:=u) (i:=s) nU f3 (aC.rds (i:=0) rfl) e9
 have gN:=drop_at bu
 refine jT (dT dW) (sk (EP (bo (sr (fw (.pointer (some ⟨ab bg,ao bg+s *1,none⟩)) (ET (sO) rfl rfl ((aC.rds (i:=0) rfl).addr (i:=s) e6) e6) (fw (vU bq) (EY rfl (bZ.one E1 (((aC.rds (i:=0) rfl).elem nU bu f3).at_ (k:=0) rfl))) (An rfl (EO (Mz rfl (Mz rfl ?_))))))))))
 have jP:=aC.pf [2,6,7,1]
 obtain⟨⟨bC,U⟩,aL⟩:∃ q:bO × aB,kF (bO.mk (E4 y)) bq a=q:=⟨_,rfl⟩
 obtain⟨nV,gP,mr,gQ,mD⟩:=FM jP
 refine cl Tryz.call26 (vC _ _ d (bO.mk (E4 y)) ax aA ae bq f a bC U gP aK e8 f9 aL) ?_
 rintro _ nW ⟨jQ,jR,jS,rfl,gT,bE⟩
 have dX:=gQ _ _ gT
 have mE:=az bE
 have mF:=dX.rowC (i:=1) rfl
 have aM:=qZ aL
 have mG:Mk U:=aM.2.2.1 f5
 have mH:U.aa.ag.ls.length=a.aa.ag.ls.length∧U.aa.ak=a.aa.ak∧U.aA.ls.length+U.aa.aj.ls.length≤8∧U.aa.aF.ls.length≤a.aa.aF.ls.length+0:=GK aM.2.1 e6
 have mI:bC.bE.ls.length≤y.length+6:=aM.2.2.2 f5
 refine D0 (bN (ER (EO (fw (vJ (s+1)) (EQ (e:=C7.wrap (((s:Nat):Int)+1)) yk f1) (Mz rfl (D0 ?_))))))
 have jU:=dX.px [4,3] [] [1,2]
 exact E8 (s+1,jQ,jR,jS,bC.bE.ls,U) ⟨rfl,rfl,rfl,rfl,trivial⟩ (aJ.2 ⟨jU,by exact bE,e6,e6,e6,f5,et (bi) (et (congrArg (fun q=>fB j n q y a) gN) (ah aL))⟩) (by show u.length - (s+1) < u.length - s; omega)
 refine jF (dF dW) (D1 (EX ?_))
 have gU:fB j n u ([]) j=(y,a):=et (bi) (et (congrArg (fun q=>fB j n q y a) (eD (ls:=u) (i:=s) e6)) rfl)
 refine EX (Fg (ER (EP (EP ?_))))
 have jV:=aC.px [] [0] []
 obtain⟨dY,dZ,Z,aD,bF,d9,ed,ek,eF,eG,eH,eO,eQ,eU,eX,eY,fe,fu,fA,fC,fE,fF,fG,fH,fI,fJ,bG,gV,gW,gX,gY,gZ,ib,ic,mJ,bH⟩:=jJ jV
 refine EO (Mz rfl (Kz (vP d 0) (Kz (vP d 0) (Lz (vP f 0) bH 18 N7 (Kz (vP f 0) (Kz (vP f 0) (Kz (vP f 5) (Lz (.slice Z a.aa.aj.ls.length aD) bH 0 Tryz.isAgg30 (Kz (vJ a.aa.aj.ls.length) (Mn rfl (bo ?_)))))))))))
 have jW:=bH.pf []
 obtain⟨jY,aN⟩:=zY fun(t:Nat) (aF:Option Addr) (aG:Nat) (ag:List bA) (z:List bQ) (w':World)=>Own w D w' [blk f [vI a.aa.ak,vU a.aa.ax,vU a.aa.bi,vU a.aa.aI, .slice dY a.aa.ag.ls.length dZ, .slice Z a.aa.aj.ls.length aD, .slice d9 a.aa.aF.ls.length ed,vU a.bH, .slice eF a.aA.ls.length eG, .bool a.aQ.aR,vU a.aQ.aH,vI a.aQ.aZ, .slice eO a.aQ.ae.ls.length eQ, .bool a.aO.aR,vU a.aO.aH,vI a.aO.aZ, .slice eX a.aO.ae.ls.length eY, .bool a.aL.aR,vU a.aL.aH,vI a.aL.aZ, .slice fu a.aL.ae.ls.length fA, .bool a.aN.aR,vU a.aN.aH,vI a.aN.aZ, .slice fE a.aN.ae.ls.length fF, .bool a.aK.aR,vU a.aK.aH,vI a.aK.aZ, .slice fH a.aK.ae.ls.length fI,vU a.df,vU a.cu,vU a.cz,vU a.cB,vU a.cK, .pointer none] 86,row dY a.aa.ag.ls.length dZ (q6 bv.cells a.aa.ag.ls) 89 2,row Z a.aa.aj.ls.length aD (q6 ay.cells bF) 60 5,sepL (q6 ay.own bF),row d9 a.aa.aF.ls.length ed (q6 aV.cells ek) 56 4,sepL (q6 aV.own ek),row eF a.aA.ls.length eG (q6 bB.cells eH) 107 9,sepL (q6 bB.own eH),row eO a.aQ.ae.ls.length eQ (q6 af.cells eU) 149 3,sepL (q6 af.own eU),row eX a.aO.ae.ls.length eY (q6 af.cells fe) 149 3,sepL (q6 af.own fe),row fu a.aL.ae.ls.length fA (q6 af.cells fC) 149 3,sepL (q6 af.own fC),row fE a.aN.ae.ls.length fF (q6 af.cells fG) 149 3,sepL (q6 af.own fG),row fH a.aK.ae.ls.length fI (q6 af.cells fJ) 149 3,sepL (q6 af.own fJ),blk d [vP f 0, .slice aF z.length aG] 98,row aZ n.length bf (q6 eB n) 5 1,blk gF [.slice none 0 0, .bool false] 47,blk gD [.slice none 0 0, .bool false] 47,row aF z.length aG (q6 bA.cells ag) 42 21,sepL (q6 bA.own ag)]∧s8 bA.abs ag=z∧t≤a.aa.aj.ls.length∧z.length≤100+1000 *t∧iV j n a a.aa.aj.ls y=iV j n a (r6 t a.aa.aj.ls) z
 refine C5 (fun i:Nat × (Option Addr) × Nat × (List bA) × (List bQ)=> [(30,vJ i.1),(29,vJ a.aa.aj.ls.length),(28, .slice Z a.aa.aj.ls.length aD),(0,vP d 0)]) jY (fun i=>a.aa.aj.ls.length - i.1) (0,ax,aA,ae,y) ⟨rfl,rfl,rfl,rfl,trivial⟩ (aN.2 ⟨jW,by exact aK,e6,e6,rfl⟩) ?_
 rintro ⟨t,aF,aG,ag,z⟩ nX ig
 obtain⟨ai,aO,mK,mM,bI⟩:=aN.1 ig
 have mO:=az aO
 refine sr (Kz (.bool (decide (((t:Nat):Int) < ((a.aa.aj.ls.length:Nat):Int)))) (nt (EP ?_)))
 by_cases fK:((t:Nat):Int) < ((a.aa.aj.ls.length:Nat):Int)
 obtain⟨l,au⟩:=dG (ls:=bF) (i:=t) ay.len f3 (ai.rds (i:=2) rfl) e9
 have bJ:=eP bG au
 have mQ:l.ak.ls.length≤l.ak.c∧l.ak.ls.length≤9223372036854775807:=bz ai (i:=3) rfl (φ:=fun _=>_) (av (O7.2 ⟨l,E0 au,b1⟩) bn)
 have mR:l.ak.ls.length≤1000:=CV (Mk.dec f5) bJ
 have ik:=drop_at bJ
 refine jT (dT fK) (sk (EP (bo (sr (fw (.pointer (some ⟨ab Z,ao Z+t *5,none⟩)) (ET (kv) rfl rfl ((ai.rds (i:=2) rfl).addr (i:=t) e6) e6) (fw (.agg (ay.cells l).toArray) (EY rfl (Fb (cs:=(ay.cells l)) Tryz.isAgg60 Tryz.sizeOf60 ((ai.rds (i:=2) rfl).elem ay.len au f3))) ?_))))))
 refine dK [.int .u64 0,vI 0, .int .u64 0, .int .u64 0, .slice none 0 0] 60 ai ?_
 intro fM nY jZ
 refine dN (ay.cells l) 0 jZ Tryz.sizeOf60 ?_
 intro nZ bL
 refine nt (EO (Mz rfl (Kz (vP fM 0) (Lz (vU l.bf) bL 0 E1 (Kz (vP fM 4) (Lz (.slice l.ak.A l.ak.ls.length l.ak.c) bL 0 Tryz.isAgg58 ?_))))))
 have j3:=bL.pf [19,23,24]
 obtain⟨bM,aP⟩:∃ q,fq (bO.mk (E4 z)) l.bf l.ak.ls true=q:=⟨_,rfl⟩
 obtain⟨og,il,mU,iq,iw⟩:=FC j3
 refine cl Tryz.call27 (kz _ _ d (bO.mk (E4 z)) aF aG ag f l.bf l.ak.A l.ak.ls.length l.ak.c l.ak.ls true bM il aO (iw _ 4 _ rfl (av (O7.2 ⟨l,E0 au,b1⟩) aT)) rfl e6 g7 aP) ?_
 rintro _ oh ⟨j4,j5,j6,rfl,iy,bP⟩
 have fO:=iq _ _ iy
 have mV:=az bP
 have mW:=fO.rowC (i:=1) rfl
 have mX:bM.bE.ls.length=z.length+l.ak.ls.length:=xq aP
 refine D0 (bN (ER (EO (fw (vJ (t+1)) (EQ (e:=C7.wrap (((t:Nat):Int)+1)) yk f1) (Mz rfl (D0 ?_))))))
 have kg:=fO.px [] [3] [0,22,23,24,1,2]
 exact E8 (t+1,j4,j5,j6,bM.bE.ls) ⟨rfl,rfl,rfl,rfl,trivial⟩ (aN.2 ⟨kg,by exact bP,e6,e6,et (bI) (et (congrArg (fun q=>iV j n a q z) ik) (ah aP))⟩) (by show a.aa.aj.ls.length - (t+1) < a.aa.aj.ls.length - t; omega)
 refine jF (dF fK) (D1 (EX ?_))
 have iA:iV j n a a.aa.aj.ls y=z:=et (bI) (et (congrArg (fun q=>iV j n a q z) (eD (ls:=a.aa.aj.ls) (i:=t) e6)) rfl)
 refine EX (Fg (ER (EP (sr (An rfl ?_)))))
 have ko:=fo bG gV gW gX gY gZ ib ic ai
 refine bo ?_
 have kr:=ko.pf []
 obtain⟨ku,C⟩:=Du fun(b:Nat) (p:Option Addr) (r:Nat) (I:List bA) (g:List bQ) (aH:Nat) (w':World)=>Own w D w' [iE f a,blk d [vP f 0, .slice p g.length r] 98,row aZ n.length bf (q6 eB n) 5 1,blk gF [.slice none 0 0, .bool false] 47,blk gD [.slice none 0 0, .bool false] 47,row p g.length r (q6 bA.cells I) 42 21,sepL (q6 bA.own I)]∧s8 bA.abs I=g∧(1≤b∧((g.length:Nat):Int)≤9000+b)∧D2 (j.aa.ak+1 - b) < aH∧eT n a ((D2 (j.aa.ak+1 - 1))+1) 1 z=eT n a aH b g
 refine C5 (fun i:Nat × (Option Addr) × Nat × (List bA) × (List bQ) × Nat=> [(6,vJ i.1),(0,vP d 0)]) ku (fun i=>i.2.2.2.2.2) (1,aF,aG,ag,z,(D2 (j.aa.ak+1 - 1))+1) ⟨rfl,rfl,trivial⟩ (C.2 ⟨kr,by exact aO,e6,e6,rfl⟩) ?_
 rintro ⟨b,p,r,I,g,aH⟩ ol iB
 obtain⟨kw,E,mY,mZ,J⟩:=C.1 iB
 have ng:=az E
 obtain⟨h,iC⟩:∃ q,aH=q+1:=⟨aH - 1,e6⟩
 subst iC
 refine EP (EP ?_)
 obtain⟨S,B,fP,bR,ky,fQ,bS,kC,om,oo,oq,ou,ow,oz,oC,oD,oG,oH,oI,oJ,oK,oL,oM,oO,oP,oQ,F,G,K,L,M,N,O,P,ni,Q⟩:=jJ kw
 refine EO (Mz rfl (Mz rfl (Kz (vP d 0) (Kz (vP d 0) (Lz (vP f 0) Q 18 N7 (Kz (vP f 0) (Kz (vP f 0) (Kz (vP f 0) (Lz (vI a.aa.ak) Q 0 C6 (Kz (.bool (decide (((b:Nat):Int)≤a.aa.ak))) (nt ?_)))))))))))
 by_cases R:((b:Nat):Int)≤a.aa.ak
 refine jT (dT R) (sk (EP (bo (sr (Mz rfl (Kz (vP d 0) (Kz (vP d 0) (Lz (vP f 0) Q 18 N7 (Mz rfl ?_)))))))))
 refine WL.do rfl (Fe Tryz.call28 rfl ?_ (fun _ _ k=>k))
 refine cb Tryz.func28 ?_
 refine sr (An rfl (EP ?_))
 refine oF 24 [] (E9 Fp) Q ?_
 intro oU V
 refine qv 0 rfl rfl (qv 1 rfl rfl (qp f 0 2 rfl (qp f 29 3 rfl ?_)))
 by_cases W:((b:Nat):Int)=1
 refine qt (v:=vP f 30) 4 rfl (fun _ _=>by(try unfold vJ); rw [show ((b:Nat):Int)=1 from by omega]; exact yk) (ql 5 rfl 0 E1 rfl rfl rfl (qv 6 rfl rfl (qp f 0 7 rfl (qp f 0 8 rfl (qp f 2 9 rfl (ql 10 rfl 0 E1 rfl rfl rfl (qk (.bool (decide (((a.cu:Nat):Int) ≥ ((a.aa.bi:Nat):Int)))) 11 rfl (qa 12 rfl rfl (qn (ER (rt (rs (fw (.bool (decide (¬ (((a.cu:Nat):Int) ≥ ((a.aa.bi:Nat):Int))))) (Fs (e:= !(decide (((a.cu:Nat):Int) ≥ ((a.aa.bi:Nat):Int)))) yk decide_not.symm) (nt ?_))))))))))))))
 by_cases aQ:((a.cu:Nat):Int) ≥ ((a.aa.bi:Nat):Int)
 refine jF (dF (IV aQ)) (Fq (bN (ER (EO (Mz rfl (fw (vJ (b+1)) (EQ (e:=C7.wrap (((b:Nat):Int)+1)) yk f1) (Az rfl (D0 ?_))))))))
 have kD:=fo F G K L M N O P V
 have kE:=kD.pf []
 exact E8 (b+1,p,r,I,g,h) ⟨rfl,rfl,trivial⟩ (C.2 ⟨kE,by exact E,e6,e6,et (J) (et (ip R) (et (ip W) (ip aQ)))⟩) (by show h < h+1; omega)
 refine jT (dT aQ) (EO (Mz rfl (Mz rfl ?_)))
 refine WL.do rfl (Fe S6 rfl ?_ (fun _ _ k=>k))
 refine cb S7 ?_
 have kG:=V.pf [0,18,20,21]
 refine wR [32] Fp kG ?_
 intro oV bT
 refine qv 0 rfl rfl (qv 1 rfl rfl (qv 2 rfl rfl (qp d 0 3 rfl (qp d 0 4 rfl (ql 5 rfl 1 N7 rfl rfl rfl (qp f 0 6 rfl (qp f 0 7 rfl (qp f 2 8 rfl (ql 9 rfl 0 E1 rfl rfl rfl (qv 10 rfl rfl (qp d 0 11 rfl (qp d 0 12 rfl (ql 13 rfl 1 N7 rfl rfl rfl (qp f 0 14 rfl (qp f 0 15 rfl (qp f 3 16 rfl (ql 17 rfl 0 E1 rfl rfl rfl (qv 18 rfl rfl (qp d 0 19 rfl (qp d 0 20 rfl (ql 21 rfl 1 N7 rfl rfl rfl (qv 23 rfl rfl (qp d 0 24 rfl (qp d 0 25 rfl (ql 26 rfl 1 N7 rfl rfl rfl (qp f 0 27 rfl (qp f 0 28 rfl (qp f 4 29 rfl (ql 30 rfl 0 S8 rfl rfl rfl ?_)))))))))))))))))))))))))))))
 refine GX.do 22 rfl e7 (Fe S9 rfl ?_ (fun _ _ k=>k))
 refine cb T0 ?_
 refine sr (An rfl (EP (sr (Mz rfl (Kz (vP f 0) (Kz (vP f 34) (Lz (.pointer none) bT 0 T1 (Kz (.bool true) (nt (jt (sr (An rfl (rt (tR (rs ?_)))))))))))))))
 refine⟨.inr ⟨_,bT⟩, ?_⟩
 refine qk (.agg (gH 8 0 ((b:Nat):Int) 0 0 0 0 0 0 0 a.aa.bi a.aa.aI 0 0 0 false ([]) ([]) none 0 0 none 0 0 S a.aa.ag.ls.length B).toArray) 31 rfl ?_
 have kH:=bT.pf [1,22,23]
 obtain⟨bU,bV⟩:∃ q,dB (bO.mk (E4 g)) (bQ.mk 8 0 ((b:Nat):Int) 0 0 0 0 0 0 0 a.aa.bi a.aa.aI 0 0 0 false (bK.mk ([]) ([])) (E4 ([])) (E4 ([])) (E4 a.aa.ag.ls))=q:=⟨_,rfl⟩
 obtain⟨oW,iD,nk,iF,iG⟩:=FC kH
 refine qd 32 rfl (Fe O0 rfl (fD _ _ d (bO.mk (E4 g)) p r I f (bQ.mk 8 0 ((b:Nat):Int) 0 0 0 0 0 0 0 a.aa.bi a.aa.aI 0 0 0 false (bK.mk ([]) ([])) (E4 ([])) (E4 ([])) (E4 a.aa.ag.ls)) none 0 0 none 0 0 [] S a.aa.ag.ls.length B bU iD E rfl (fun _ _=>bD.nil _ _ _) f2 rfl rfl (fun _ _=>bD.nil _ _ _) f2 (fun _ Y=>absurd Y B3) rfl (iG _ 3 _ rfl aT) (show a.aa.ag.ls.length≤B∧a.aa.ag.ls.length≤9223372036854775807 from by omega) e8 (by first | assumption | exact dD f5 | exact fun x hx=>absurd hx B3 | exact dD (Mk.lX f5).1 | exact dD (Mk.kZ f5).1 | exact dD (Mk.ma f5).1 | exact dD (Mk.mg f5).1 | exact dD (Mk.mf f5).1) bV) ?_)
 rintro _ oZ ⟨kI,kJ,kK,rfl,iH,bW,bX⟩
 have fU:=iF _ _ iH
 have nu:=az bW
 have ny:=fU.rowC (i:=1) rfl
 replace bX:bU.bE.ls.length=g.length+1:=bX
 refine⟨.inl e7, ?_⟩
 refine qn (Ff (res0 rfl) (D0 (bN (ER (EO (Mz rfl (fw (vJ (b+1)) (EQ (e:=C7.wrap (((b:Nat):Int)+1)) yk f1) (Az rfl (D0 ?_)))))))))
 have kL:=fU.pb [0,1,2,4,5,23]
 have kM:=fo F G K L M N O P kL
 have kN:=kM.pb [4,5,2,3]
 exact E8 (b+1,kI,kJ,kK,bU.bE.ls,h) ⟨rfl,rfl,trivial⟩ (C.2 ⟨kN,by exact bW,e6,e6,et (J) (et (ip R) (et (ip W) (et (iN aQ) (ah bV))))⟩) (by show h < h+1; omega)
 by_cases aj:((b:Nat):Int)=2
 refine qt (v:=vP f 31) 4 rfl (fun _ _=>by(try unfold vJ); rw [show ((b:Nat):Int)=2 from by omega]; exact yk) (ql 5 rfl 0 E1 rfl rfl rfl (qv 6 rfl rfl (qp f 0 7 rfl (qp f 0 8 rfl (qp f 2 9 rfl (ql 10 rfl 0 E1 rfl rfl rfl (qk (.bool (decide (((a.cz:Nat):Int) ≥ ((a.aa.bi:Nat):Int)))) 11 rfl (qa 12 rfl rfl (qn (ER (rt (rs (fw (.bool (decide (¬ (((a.cz:Nat):Int) ≥ ((a.aa.bi:Nat):Int))))) (Fs (e:= !(decide (((a.cz:Nat):Int) ≥ ((a.aa.bi:Nat):Int)))) yk decide_not.symm) (nt ?_))))))))))))))
 by_cases aR:((a.cz:Nat):Int) ≥ ((a.aa.bi:Nat):Int)
 refine jF (dF (IV aR)) (Fq (bN (ER (EO (Mz rfl (fw (vJ (b+1)) (EQ (e:=C7.wrap (((b:Nat):Int)+1)) yk f1) (Az rfl (D0 ?_))))))))
 have kP:=fo F G K L M N O P V
 have kQ:=kP.pf []
 exact E8 (b+1,p,r,I,g,h) ⟨rfl,rfl,trivial⟩ (C.2 ⟨kQ,by exact E,e6,e6,et (J) (et (ip R) (et (iN W) (et (ip aj) (ip aR))))⟩) (by show h < h+1; omega)
 refine jT (dT aR) (EO (Mz rfl (Mz rfl ?_)))
 refine WL.do rfl (Fe S6 rfl ?_ (fun _ _ k=>k))
 refine cb S7 ?_
 have kR:=V.pf [0,18,20,21]
 refine wR [32] Fp kR ?_
 intro o5 bY
 refine qv 0 rfl rfl (qv 1 rfl rfl (qv 2 rfl rfl (qp d 0 3 rfl (qp d 0 4 rfl (ql 5 rfl 1 N7 rfl rfl rfl (qp f 0 6 rfl (qp f 0 7 rfl (qp f 2 8 rfl (ql 9 rfl 0 E1 rfl rfl rfl (qv 10 rfl rfl (qp d 0 11 rfl (qp d 0 12 rfl (ql 13 rfl 1 N7 rfl rfl rfl (qp f 0 14 rfl (qp f 0 15 rfl (qp f 3 16 rfl (ql 17 rfl 0 E1 rfl rfl rfl (qv 18 rfl rfl (qp d 0 19 rfl (qp d 0 20 rfl (ql 21 rfl 1 N7 rfl rfl rfl (qv 23 rfl rfl (qp d 0 24 rfl (qp d 0 25 rfl (ql 26 rfl 1 N7 rfl rfl rfl (qp f 0 27 rfl (qp f 0 28 rfl (qp f 4 29 rfl (ql 30 rfl 0 S8 rfl rfl rfl ?_)))))))))))))))))))))))))))))
 refine GX.do 22 rfl e7 (Fe S9 rfl ?_ (fun _ _ k=>k))
 refine cb T0 ?_
 refine sr (An rfl (EP (sr (Mz rfl (Kz (vP f 0) (Kz (vP f 34) (Lz (.pointer none) bY 0 T1 (Kz (.bool true) (nt (jt (sr (An rfl (rt (tR (rs ?_)))))))))))))))
 refine⟨.inr ⟨_,bY⟩, ?_⟩
 refine qk (.agg (gH 8 0 ((b:Nat):Int) 0 0 0 0 0 0 0 a.aa.bi a.aa.aI 0 0 0 false ([]) ([]) none 0 0 none 0 0 S a.aa.ag.ls.length B).toArray) 31 rfl ?_
 have kS:=bY.pf [1,22,23]
 obtain⟨cu,cz⟩:∃ q,dB (bO.mk (E4 g)) (bQ.mk 8 0 ((b:Nat):Int) 0 0 0 0 0 0 0 a.aa.bi a.aa.aI 0 0 0 false (bK.mk ([]) ([])) (E4 ([])) (E4 ([])) (E4 a.aa.ag.ls))=q:=⟨_,rfl⟩
 obtain⟨o6,iI,nz,iJ,iK⟩:=FC kS
 refine qd 32 rfl (Fe O0 rfl (fD _ _ d (bO.mk (E4 g)) p r I f (bQ.mk 8 0 ((b:Nat):Int) 0 0 0 0 0 0 0 a.aa.bi a.aa.aI 0 0 0 false (bK.mk ([]) ([])) (E4 ([])) (E4 ([])) (E4 a.aa.ag.ls)) none 0 0 none 0 0 [] S a.aa.ag.ls.length B cu iI E rfl (fun _ _=>bD.nil _ _ _) f2 rfl rfl (fun _ _=>bD.nil _ _ _) f2 (fun _ Y=>absurd Y B3) rfl (iK _ 3 _ rfl aT) (show a.aa.ag.ls.length≤B∧a.aa.ag.ls.length≤9223372036854775807 from by omega) e8 (by first | assumption | exact dD f5 | exact fun x hx=>absurd hx B3 | exact dD (Mk.lX f5).1 | exact dD (Mk.kZ f5).1 | exact dD (Mk.ma f5).1 | exact dD (Mk.mg f5).1 | exact dD (Mk.mf f5).1) cz) ?_)
 rintro _ o7 ⟨kT,kU,kV,rfl,iL,cB,cK⟩
 have fV:=iJ _ _ iL
 have nA:=az cB
 have nC:=fV.rowC (i:=1) rfl
 replace cK:cu.bE.ls.length=g.length+1:=cK
 refine⟨.inl e7, ?_⟩
 refine qn (Ff (res0 rfl) (D0 (bN (ER (EO (Mz rfl (fw (vJ (b+1)) (EQ (e:=C7.wrap (((b:Nat):Int)+1)) yk f1) (Az rfl (D0 ?_)))))))))
 have kW:=fV.pb [0,1,2,4,5,23]
 have kX:=fo F G K L M N O P kW
 have kY:=kX.pb [4,5,2,3]
 exact E8 (b+1,kT,kU,kV,cu.bE.ls,h) ⟨rfl,rfl,trivial⟩ (C.2 ⟨kY,by exact cB,e6,e6,et (J) (et (ip R) (et (iN W) (et (ip aj) (et (iN aR) (ah cz)))))⟩) (by show h < h+1; omega)
 by_cases aS:((b:Nat):Int)=3
 refine qt (v:=vP f 32) 4 rfl (fun _ _=>by(try unfold vJ); rw [show ((b:Nat):Int)=3 from by omega]; exact yk) (ql 5 rfl 0 E1 rfl rfl rfl (qv 6 rfl rfl (qp f 0 7 rfl (qp f 0 8 rfl (qp f 2 9 rfl (ql 10 rfl 0 E1 rfl rfl rfl (qk (.bool (decide (((a.cB:Nat):Int) ≥ ((a.aa.bi:Nat):Int)))) 11 rfl (qa 12 rfl rfl (qn (ER (rt (rs (fw (.bool (decide (¬ (((a.cB:Nat):Int) ≥ ((a.aa.bi:Nat):Int))))) (Fs (e:= !(decide (((a.cB:Nat):Int) ≥ ((a.aa.bi:Nat):Int)))) yk decide_not.symm) (nt ?_))))))))))))))
 by_cases aU:((a.cB:Nat):Int) ≥ ((a.aa.bi:Nat):Int)
 refine jF (dF (IV aU)) (Fq (bN (ER (EO (Mz rfl (fw (vJ (b+1)) (EQ (e:=C7.wrap (((b:Nat):Int)+1)) yk f1) (Az rfl (D0 ?_))))))))
 have kZ:=fo F G K L M N O P V
 have lc:=kZ.pf []
 exact E8 (b+1,p,r,I,g,h) ⟨rfl,rfl,trivial⟩ (C.2 ⟨lc,by exact E,e6,e6,et (J) (et (ip R) (et (iN W) (et (iN aj) (et (ip aS) (ip aU)))))⟩) (by show h < h+1; omega)
 refine jT (dT aU) (EO (Mz rfl (Mz rfl ?_)))
 refine WL.do rfl (Fe S6 rfl ?_ (fun _ _ k=>k))
 refine cb S7 ?_
 have lg:=V.pf [0,18,20,21]
 refine wR [32] Fp lg ?_
 intro o8 cO
 refine qv 0 rfl rfl (qv 1 rfl rfl (qv 2 rfl rfl (qp d 0 3 rfl (qp d 0 4 rfl (ql 5 rfl 1 N7 rfl rfl rfl (qp f 0 6 rfl (qp f 0 7 rfl (qp f 2 8 rfl (ql 9 rfl 0 E1 rfl rfl rfl (qv 10 rfl rfl (qp d 0 11 rfl (qp d 0 12 rfl (ql 13 rfl 1 N7 rfl rfl rfl (qp f 0 14 rfl (qp f 0 15 rfl (qp f 3 16 rfl (ql 17 rfl 0 E1 rfl rfl rfl (qv 18 rfl rfl (qp d 0 19 rfl (qp d 0 20 rfl (ql 21 rfl 1 N7 rfl rfl rfl (qv 23 rfl rfl (qp d 0 24 rfl (qp d 0 25 rfl (ql 26 rfl 1 N7 rfl rfl rfl (qp f 0 27 rfl (qp f 0 28 rfl (qp f 4 29 rfl (ql 30 rfl 0 S8 rfl rfl rfl ?_)))))))))))))))))))))))))))))
 refine GX.do 22 rfl e7 (Fe S9 rfl ?_ (fun _ _ k=>k))
 refine cb T0 ?_
 refine sr (An rfl (EP (sr (Mz rfl (Kz (vP f 0) (Kz (vP f 34) (Lz (.pointer none) cO 0 T1 (Kz (.bool true) (nt (jt (sr (An rfl (rt (tR (rs ?_)))))))))))))))
 refine⟨.inr ⟨_,cO⟩, ?_⟩
 refine qk (.agg (gH 8 0 ((b:Nat):Int) 0 0 0 0 0 0 0 a.aa.bi a.aa.aI 0 0 0 false ([]) ([]) none 0 0 none 0 0 S a.aa.ag.ls.length B).toArray) 31 rfl ?_
 have lh:=cO.pf [1,22,23]
 obtain⟨cZ,df⟩:∃ q,dB (bO.mk (E4 g)) (bQ.mk 8 0 ((b:Nat):Int) 0 0 0 0 0 0 0 a.aa.bi a.aa.aI 0 0 0 false (bK.mk ([]) ([])) (E4 ([])) (E4 ([])) (E4 a.aa.ag.ls))=q:=⟨_,rfl⟩
 obtain⟨o9,iM,nD,iO,iP⟩:=FC lh
 refine qd 32 rfl (Fe O0 rfl (fD _ _ d (bO.mk (E4 g)) p r I f (bQ.mk 8 0 ((b:Nat):Int) 0 0 0 0 0 0 0 a.aa.bi a.aa.aI 0 0 0 false (bK.mk ([]) ([])) (E4 ([])) (E4 ([])) (E4 a.aa.ag.ls)) none 0 0 none 0 0 [] S a.aa.ag.ls.length B cZ iM E rfl (fun _ _=>bD.nil _ _ _) f2 rfl rfl (fun _ _=>bD.nil _ _ _) f2 (fun _ Y=>absurd Y B3) rfl (iP _ 3 _ rfl aT) (show a.aa.ag.ls.length≤B∧a.aa.ag.ls.length≤9223372036854775807 from by omega) e8 (by first | assumption | exact dD f5 | exact fun x hx=>absurd hx B3 | exact dD (Mk.lX f5).1 | exact dD (Mk.kZ f5).1 | exact dD (Mk.ma f5).1 | exact dD (Mk.mg f5).1 | exact dD (Mk.mf f5).1) df) ?_)
 rintro _ pg ⟨ll,lm,lq,rfl,iQ,dh,di⟩
 have fZ:=iO _ _ iQ
 have nE:=az dh
 have nG:=fZ.rowC (i:=1) rfl
 replace di:cZ.bE.ls.length=g.length+1:=di
 refine⟨.inl e7, ?_⟩
 refine qn (Ff (res0 rfl) (D0 (bN (ER (EO (Mz rfl (fw (vJ (b+1)) (EQ (e:=C7.wrap (((b:Nat):Int)+1)) yk f1) (Az rfl (D0 ?_)))))))))
 have lu:=fZ.pb [0,1,2,4,5,23]
 have lv:=fo F G K L M N O P lu
 have lw:=lv.pb [4,5,2,3]
 exact E8 (b+1,ll,lm,lq,cZ.bE.ls,h) ⟨rfl,rfl,trivial⟩ (C.2 ⟨lw,by exact dh,e6,e6,et (J) (et (ip R) (et (iN W) (et (iN aj) (et (ip aS) (et (iN aU) (ah df))))))⟩) (by show h < h+1; omega)
 refine qt (v:=vP f 33) 4 rfl (fun _ _=>by(try unfold vJ); rw [show ((b:Nat):Int)=4 from by omega]; exact yk) (ql 5 rfl 0 E1 rfl rfl rfl (qv 6 rfl rfl (qp f 0 7 rfl (qp f 0 8 rfl (qp f 2 9 rfl (ql 10 rfl 0 E1 rfl rfl rfl (qk (.bool (decide (((a.cK:Nat):Int) ≥ ((a.aa.bi:Nat):Int)))) 11 rfl (qa 12 rfl rfl (qn (ER (rt (rs (fw (.bool (decide (¬ (((a.cK:Nat):Int) ≥ ((a.aa.bi:Nat):Int))))) (Fs (e:= !(decide (((a.cK:Nat):Int) ≥ ((a.aa.bi:Nat):Int)))) yk decide_not.symm) (nt ?_))))))))))))))
 by_cases aW:((a.cK:Nat):Int) ≥ ((a.aa.bi:Nat):Int)
 refine jF (dF (IV aW)) (Fq (bN (ER (EO (Mz rfl (fw (vJ (b+1)) (EQ (e:=C7.wrap (((b:Nat):Int)+1)) yk f1) (Az rfl (D0 ?_))))))))
 have lC:=fo F G K L M N O P V
 have lD:=lC.pf []
 exact E8 (b+1,p,r,I,g,h) ⟨rfl,rfl,trivial⟩ (C.2 ⟨lD,by exact E,e6,e6,et (J) (et (ip R) (et (iN W) (et (iN aj) (et (iN aS) (ip aW)))))⟩) (by show h < h+1; omega)
 refine jT (dT aW) (EO (Mz rfl (Mz rfl ?_)))
 refine WL.do rfl (Fe S6 rfl ?_ (fun _ _ k=>k))
 refine cb S7 ?_
 have lF:=V.pf [0,18,20,21]
 refine wR [32] Fp lF ?_
 intro pq dm
 refine qv 0 rfl rfl (qv 1 rfl rfl (qv 2 rfl rfl (qp d 0 3 rfl (qp d 0 4 rfl (ql 5 rfl 1 N7 rfl rfl rfl (qp f 0 6 rfl (qp f 0 7 rfl (qp f 2 8 rfl (ql 9 rfl 0 E1 rfl rfl rfl (qv 10 rfl rfl (qp d 0 11 rfl (qp d 0 12 rfl (ql 13 rfl 1 N7 rfl rfl rfl (qp f 0 14 rfl (qp f 0 15 rfl (qp f 3 16 rfl (ql 17 rfl 0 E1 rfl rfl rfl (qv 18 rfl rfl (qp d 0 19 rfl (qp d 0 20 rfl (ql 21 rfl 1 N7 rfl rfl rfl (qv 23 rfl rfl (qp d 0 24 rfl (qp d 0 25 rfl (ql 26 rfl 1 N7 rfl rfl rfl (qp f 0 27 rfl (qp f 0 28 rfl (qp f 4 29 rfl (ql 30 rfl 0 S8 rfl rfl rfl ?_)))))))))))))))))))))))))))))
 refine GX.do 22 rfl e7 (Fe S9 rfl ?_ (fun _ _ k=>k))
 refine cb T0 ?_
 refine sr (An rfl (EP (sr (Mz rfl (Kz (vP f 0) (Kz (vP f 34) (Lz (.pointer none) dm 0 T1 (Kz (.bool true) (nt (jt (sr (An rfl (rt (tR (rs ?_)))))))))))))))
 refine⟨.inr ⟨_,dm⟩, ?_⟩
 refine qk (.agg (gH 8 0 ((b:Nat):Int) 0 0 0 0 0 0 0 a.aa.bi a.aa.aI 0 0 0 false ([]) ([]) none 0 0 none 0 0 S a.aa.ag.ls.length B).toArray) 31 rfl ?_
 have lG:=dm.pf [1,22,23]
 obtain⟨dn,dw⟩:∃ q,dB (bO.mk (E4 g)) (bQ.mk 8 0 ((b:Nat):Int) 0 0 0 0 0 0 0 a.aa.bi a.aa.aI 0 0 0 false (bK.mk ([]) ([])) (E4 ([])) (E4 ([])) (E4 a.aa.ag.ls))=q:=⟨_,rfl⟩
 obtain⟨pu,iR,nH,iT,iU⟩:=FC lG
 refine qd 32 rfl (Fe O0 rfl (fD _ _ d (bO.mk (E4 g)) p r I f (bQ.mk 8 0 ((b:Nat):Int) 0 0 0 0 0 0 0 a.aa.bi a.aa.aI 0 0 0 false (bK.mk ([]) ([])) (E4 ([])) (E4 ([])) (E4 a.aa.ag.ls)) none 0 0 none 0 0 [] S a.aa.ag.ls.length B dn iR E rfl (fun _ _=>bD.nil _ _ _) f2 rfl rfl (fun _ _=>bD.nil _ _ _) f2 (fun _ Y=>absurd Y B3) rfl (iU _ 3 _ rfl aT) (show a.aa.ag.ls.length≤B∧a.aa.ag.ls.length≤9223372036854775807 from by omega) e8 (by first | assumption | exact dD f5 | exact fun x hx=>absurd hx B3 | exact dD (Mk.lX f5).1 | exact dD (Mk.kZ f5).1 | exact dD (Mk.ma f5).1 | exact dD (Mk.mg f5).1 | exact dD (Mk.mf f5).1) dw) ?_)
 rintro _ pz ⟨lH,lI,lJ,rfl,iW,dx,dz⟩
 have gm:=iT _ _ iW
 have nI:=az dx
 have nJ:=gm.rowC (i:=1) rfl
 replace dz:dn.bE.ls.length=g.length+1:=dz
 refine⟨.inl e7, ?_⟩
 refine qn (Ff (res0 rfl) (D0 (bN (ER (EO (Mz rfl (fw (vJ (b+1)) (EQ (e:=C7.wrap (((b:Nat):Int)+1)) yk f1) (Az rfl (D0 ?_)))))))))
 have lK:=gm.pb [0,1,2,4,5,23]
 have lL:=fo F G K L M N O P lK
 have lM:=lL.pb [4,5,2,3]
 exact E8 (b+1,lH,lI,lJ,dn.bE.ls,h) ⟨rfl,rfl,trivial⟩ (C.2 ⟨lM,by exact dx,e6,e6,et (J) (et (ip R) (et (iN W) (et (iN aj) (et (iN aS) (et (iN aW) (ah dw))))))⟩) (by show h < h+1; omega)
 refine jF (dF R) (D1 (EX ?_))
 have iX:eT n a ((D2 (j.aa.ak+1 - 1))+1) 1 z=g:=et (J) (iN R)
 refine EX (Fg (ER (EO (Mz rfl ?_))))
 refine WL.do rfl (Fe Tryz.call30 rfl ?_ (fun _ _ k=>k))
 refine cb Tryz.func30 ?_
 refine sr (Mz rfl (Kz (vP d 0) (Kz (vP d 0) (Lz (vP f 0) Q 18 N7 (Kz (vP f 0) (Kz (vP f 34) (Lz (.pointer none) Q 0 T1 (An rfl (EP (sr (Mz rfl (Kz (.bool true) (nt (jt (rt (tR (Fin.res (res0 rfl) (D0 (Ff (res0 rfl) (ns (Mz rfl (Kz (vP f 0) (Kz (vP f 0) (La ([vI a.aa.ak,vU a.aa.ax,vU a.aa.bi,vU a.aa.aI, .slice S a.aa.ag.ls.length B, .slice fP a.aa.aj.ls.length bR, .slice fQ a.aa.aF.ls.length bS]) Q 0 S2 I1 ?_))))))))))))))))))))))))
 obtain⟨⟨ak,gp⟩,dA⟩:∃ q:(List UInt8) × Int,eu a.aa=q:=⟨_,rfl⟩
 obtain⟨pE,iY,nK,iZ,T⟩:=EU Q
 refine cl S3 (jX _ _ a.aa S a.aa.ag.ls.length B fP a.aa.aj.ls.length bR ky fQ a.aa.aF.ls.length bS kC ak gp iY rfl (T _ 1 _ rfl aT) (show a.aa.ag.ls.length≤B∧a.aa.ag.ls.length≤9223372036854775807 from by omega) F rfl (T _ 2 _ rfl aT) (show a.aa.aj.ls.length≤bR∧a.aa.aj.ls.length≤9223372036854775807 from by omega) (fun x9 Y=>⟨T _ 3 _ rfl (av (O7.2 ⟨x9,Y,b1⟩) aT),bz (φ:=fun _=>_) Q (i:=3) rfl (av (O7.2 ⟨x9,Y,b1⟩) bn)⟩) G rfl (T _ 4 _ rfl aT) (show a.aa.aF.ls.length≤bS∧a.aa.aF.ls.length≤9223372036854775807 from by omega) (fun x9 Y=>⟨T _ 5 _ rfl (av (O7.2 ⟨x9,Y,b1⟩) aT),bz (φ:=fun _=>_) Q (i:=5) rfl (av (O7.2 ⟨x9,Y,b1⟩) bn),(fun y1 k1=>⟨T _ 5 _ rfl (av (O7.2 ⟨x9,Y, .tail _ b1⟩) (av (O7.2 ⟨y1,k1,b1⟩) aT)),bz (φ:=fun _=>_) Q (i:=5) rfl (av (O7.2 ⟨x9,Y, .tail _ b1⟩) (av (O7.2 ⟨y1,k1,b1⟩) bn))⟩)⟩) e8 i4 dA) ?_
 rintro _ pF ⟨gq,gu,rfl,ja,dC⟩
 have gy:=iZ _ _ ja
 have nL:=gy.rowC (i:=0) rfl
 replace dC:ak.length≤100000:=dC
 refine Mz rfl (Kz (.slice gq ak.length gu) (Kz (vI gp) (Az rfl (An rfl (EP ?_)))))
 have lN:=gy.pb [21]
 refine oF 24 [] (E9 Fp) lN ?_
 intro pG lQ
 refine qv 0 rfl rfl (qp d 0 1 rfl (qp d 1 2 rfl (ql 3 rfl 19 S4 rfl rfl rfl (qv 4 rfl rfl (qv 5 rfl rfl ?_)))))
 obtain⟨X,dE⟩:∃ q,bytes_Equal n ak=q:=⟨_,rfl⟩
 obtain⟨pI,jb,nM,jc,dH⟩:=EU lQ
 refine qd 6 rfl (Fe S5 rfl (qK _ _ aZ n.length bf n gq ak.length gu ak X jb (dH _ 20 _ rfl aT) rfl e6 (dH _ 0 _ rfl aT) rfl e6 dE) ?_)
 rintro _ pJ ⟨rfl,jd⟩
 have gz:=jc _ _ jd
 refine⟨.inr ⟨_,gz⟩, ?_⟩
 refine qk (.bool (!X)) 7 rfl (qk (.agg #[.slice p g.length r, .bool (!X)]) 8 rfl ?_)
 have lS:=gz.pf [24]
 refine qe 9 rfl (Do.store (vs:= [.slice p g.length r, .bool (!X)]) (o:=0) lS rfl rfl R8 rfl rfl rfl rfl ?_)
 intro pK lT
 have dI:=lT.pb [0]
 refine⟨.inr ⟨_,dI⟩, ?_⟩
 refine qn (ER (rt (Fin.res (mP rfl rfl (Fb (cs:= [.slice p g.length r, .bool (!X)]) R9 R8 ((dI.cls (i:=24) rfl).lit (k:=0) (m:=2) rfl))) ?_)))
 have lU:=dI.pf [21]
 refine dN [.slice p g.length r, .bool (!X)] 0 lU R8 ?_
 intro pM gB
 refine nt (rt (Fin.res (mP rfl rfl (Fb (cs:= [.slice p g.length r, .bool (!X)]) R9 R8 ((gB.cls (i:=0) rfl).lit (k:=0) (m:=2) rfl))) ?_))
 have lV:=gB.pb [0,1,20,21,22,23,24]
 have lW:=fo F G K L M N O P lV
 have lX:=lW.pk [5,6,0]
 obtain⟨rfl,rfl⟩:=fT (hr.symm.trans (show _=(jL.mk (E4 g) (!X),a) from et (ah dQ) (et (ah dU) (et (ah gU) (et (ah iA) (et (ah iX) (et (ah dA) (ah dE))))))))
 exact⟨p,r,I,rfl,lX,E,i1,f5⟩
end Go.Proofs.YtbkagebjhbphaaaGreat
